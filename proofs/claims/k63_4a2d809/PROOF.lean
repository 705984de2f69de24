import PyProof.Rows.All
import Wide.All
import OpenK.AllK
import Wide.FinOn
import Lean
import PyProof.EqAt
import PyProof.EqKinds
import PyProof.TupleCall
import KE.KRevIter
import PyProof.JoinWalk
import PyProof.CollectIter
import KE.KDictSum
import KE.KSortTup
import OpenK.KRaise
import PyProof.StationsW
import OpenK.KOwn
import KE.KTryMore
import KE.KIsNot
import PyProof.NsDelKeeps
import KE.KIsAll
import PyProof.ExcArgs
import PyProof.ListMulRoad
import PyProof.Rows.SeqMore
import PyProof.FactsAll.tuple_2
import PyProof.ExcInit
import OpenK.KCls
import PyProof.WalkInts
import PyProof.SeqI3
import KE.KIntText
import KE.KEqDict
import KE.KDictOf
import PyProof.Rows.SetFrom
import PyProof.FitsReplace
import PySem.Challenge.RW_letterrack_k63_whole_forth_and_back
set_option Elab.async false
set_option linter.all false
set_option maxRecDepth 100000
set_option maxHeartbeats 4000000

set_option bootstrap.genMatcherCode false
theorem ZzN {G:Prop}(h:¬¬G):G:=Classical.byContradiction h
theorem rL {α:Sort _}{a:α}:a=a:=rfl
theorem Zzx2{q:A->B->Prop}{G:Prop}(h:∃a b,q a b)(f:∀a b,q a b->G):G:=Exists.elim h λa h=>Exists.elim h (f a)
theorem Zzx3{q:A->B->C->Prop}{G:Prop}(h:∃a b c,q a b c)(f:∀a b c,q a b c->G):G:=Exists.elim h λa h=>Zzx2 h (f a)
theorem Zzx4{q:A->B->C->D->Prop}{G:Prop}(h:∃a b c d,q a b c d)(f:∀a b c d,q a b c d->G):G:=Exists.elim h λa h=>Zzx3 h (f a)
theorem Zzx5{q:A->B->C->D->E->Prop}{G:Prop}(h:∃a b c d e,q a b c d e)(f:∀a b c d e,q a b c d e->G):G:=Exists.elim h λa h=>Zzx4 h (f a)
theorem Zzx7{q:A->B->C->D->E->I->J->Prop}{G:Prop}(h:∃a b c d e i j,q a b c d e i j)(f:∀a b c d e i j,q a b c d e i j->G):G:=Exists.elim h λa h=>Exists.elim h λb h=>Zzx5 h (f a b)
theorem Zzx10{q:A->B->C->D->E->I->J->K->L->M->Prop}{G:Prop}(h:∃a b c d e i j k l m,q a b c d e i j k l m)(f:∀a b c d e i j k l m,q a b c d e i j k l m->G):G:=Exists.elim h λa h=>Exists.elim h λb h=>Exists.elim h λc h=>Zzx7 h (f a b c)
theorem Zzx14{q:A->B->C->D->E->I->J->K->L->M->N->O->P->R->Prop}{G:Prop}(h:∃a b c d e i j k l m n o p r,q a b c d e i j k l m n o p r)(f:∀a b c d e i j k l m n o p r,q a b c d e i j k l m n o p r->G):G:=Exists.elim h λa h=>Exists.elim h λb h=>Exists.elim h λc h=>Exists.elim h λd h=>Zzx10 h (f a b c d)
local macro_rules|`(tactic|show $e)=>`(tactic|first|exact $e|change $e)
local macro_rules|`(tactic|calc $e:term)=>`(tactic|refine $e)
local macro_rules|`(tactic|let $x:ident := $e)=>`(tactic|have $x:ident := $e)|`(tactic|let $x:ident : $t := $e)=>`(tactic|have $x:ident : $t := $e)
open Lean in
local macro_rules|`(tactic|let ⟨$ts,*⟩ := $h)=>do
 let a:=ts.getElems
 let ps<-a.mapM λt=>if t.raw.isIdent then `(Parser.Tactic.rcasesPatLo|$(⟨t⟩):ident) else `(Parser.Tactic.rcasesPatLo|_)
 let n:=(a.pop.toList.takeWhile λt=>t.raw.getId != `rfl).length
 let mut t<-`(tactic|rcases $h:term with ⟨$ps,*⟩)
 for k in [2, 3, 4, 5, 7, 10, 14] do
  if k<=n then
   let m<-if k+1==a.size&&a.back!.raw.getId != `rfl then `(tactic|intro $a*) else `(tactic|(intro $(a[:k].toArray)* z;rcases z with ⟨$(ps[k:].toArray),*⟩))
   t<-`(tactic|first|(refine $(mkIdent (.mkSimple s!"Zzx{k}")) $h ?_;(try clear $(⟨h⟩));$m:tactic)|$t:tactic)
 `(tactic|(refine ZzN λn=>?_;$t:tactic<;>refine n ?_<;>clear n))
theorem JA{q:A->B->Prop}(a b)(h:q a b):∃a b,q a b:=⟨a,b,h⟩
theorem JE{q:A->B->C->Prop}(a b c)(h:q a b c):∃a b c,q a b c:=⟨a,JA b c h⟩
theorem JI{q:A->B->C->D->Prop}(a b c d)(h:q a b c d):∃a b c d,q a b c d:=⟨a,JE b c d h⟩
theorem JJ{q:A->B->C->D->E->Prop}(a b c d e)(h:q a b c d e):∃a b c d e,q a b c d e:=⟨a,JI b c d e h⟩
theorem JO{q:A->B->C->D->E->F->Prop}(a b c d e f)(h:q a b c d e f):∃a b c d e f,q a b c d e f:=⟨a,JJ b c d e f h⟩
theorem JP{q:A->B->C->D->E->F->G->Prop}(a b c d e f g)(h:q a b c d e f g):∃a b c d e f g,q a b c d e f g:=⟨a,JO b c d e f g h⟩
theorem JS{q:A->B->C->D->E->F->G->H->Prop}(a b c d e f g i)(h:q a b c d e f g i):∃a b c d e f g i,q a b c d e f g i:=⟨a,JP b c d e f g i h⟩
section
variable{p:Prop}
def o6(h:p:=by lia):p:=h
def pi(h:p:=by simp):p:=h
def pj(h:p:=by decide):p:=h
def pk(h:p:=by rfl):p:=h
def pE(h:p:=by kernel_rfl):p:=h
def pS(h:p:=by decide +kernel):p:=h
def pV(h:p:=by first | lia | ((try dsimp only);lia)):p:=h
def p_(h:p:=by size_fits):p:=h
end
def zsz (n:Nat)(h:n<=1000:=by decide):n<=PySem.sizeLine:=Nat.le_trans h pj
abbrev aa:=@List.length_map
abbrev ac:=@List.getElem?_eq_getElem
abbrev ae:=@PySem.wpAny_bind
abbrev af:=@PySem.Heap.get?_push_of_some
abbrev ag:=@List.getElem?_eq_some_iff
abbrev ah:=@decide_eq_false
abbrev ai:=@Nat.le_refl
abbrev al:=@decide_eq_true
abbrev am:=@List.length_take
abbrev ap:=@Nat.le_of_lt
abbrev av:=@List.length_append
abbrev aw:=@PySem.wpAny_pure
abbrev ax:=@List.getD_eq_getElem?_getD
abbrev ay:=@PySem.boot_len
abbrev aE:=@PySem.Heap.lt_size
abbrev aI:=@List.getElem_mem
abbrev aS:=@List.mem_singleton
abbrev a9:=@List.getElem?_append_left
abbrev a_:=@PySem.Heap.get?_push_size
abbrev ba:=@List.size_toArray
abbrev bc:=@List.length_drop
abbrev bd:=@List.mem_map
abbrev be:=@List.getElem?_append_right
abbrev bo:=@List.mem_of_getElem?
abbrev bp:=@Option.some.inj
abbrev bq:=@PySem.F.plainAttrs_str
abbrev bu:=@PySem.F.plainAttrs_list
abbrev bv:=@List.map_append
abbrev bz:=@List.mem_append
abbrev bE:=@List.mem_cons_of_mem
abbrev bP:=@Nat.le_trans
abbrev bS:=@Bool.false_ne_true
abbrev bX:=@List.mem_cons
abbrev b9:=@List.take_of_length_le
abbrev ce:=@List.take_length
abbrev cf:=@List.mem_cons_self
abbrev ck:=@List.getElem?_map
abbrev cn:=@Bool.and_eq_true
abbrev cp:=@PyProof.Rows.boot_isinstance
abbrev cq:=@Nat.ne_of_lt
abbrev cv:=@List.map_cons
abbrev cw:=@Int.toNat_of_nonneg
abbrev cy:=@List.length_replicate
abbrev cz:=@List.take_add_one
abbrev cE:=@List.mem_of_mem_take
abbrev cK:=@PySem.PassesOwn.never
abbrev cS:=@Nat.lt_of_lt_of_le
abbrev c9:=@PySem.W.mg_none_of
abbrev c_:=@PyProof.Rows.boot_tuple
abbrev de:=@PySem.F.slot_list_append
abbrev df:=@PySem.F.type_list_append
abbrev di:=@PySem.W.mg_of
abbrev dq:=@PySem.F.slot_str_join
abbrev dr:=@PySem.F.type_str_join
abbrev du:=@Int.emod_nonneg
abbrev dv:=@Option.map_eq_some_iff
abbrev dA:=@List.length_cons
abbrev dC:=@Int.emod_lt_of_pos
abbrev dE:=@List.replicate_succ
abbrev dL:=@List.mem_append_right
abbrev dP:=@Int.toNat_natCast
abbrev dS:=@of_decide_eq_true
abbrev ed:=@List.mem_of_mem_drop
abbrev ee:=@PyProof.Rows.callWith_type1
abbrev eh:=@PySem.wpAny_mono
abbrev ej:=@List.length_set
abbrev eI:=@Nat.zero_le
abbrev eJ:=@PySem.wpAny_truthy_bool
abbrev eK:=@List.flatten_cons
abbrev eQ:=@PySem.Heap.size_push
abbrev eW:=@PySem.W.kia_one
abbrev e_:=@PySem.wpAny_field
abbrev fb:=@PySem.Calls.spliced_cons
abbrev fe:=@List.all_eq_true
abbrev fg:=@Nat.lt_irrefl
abbrev fh:=@PyProof.Rows.slot_tuple_getitem
abbrev fi:=@PySem.Heap.get?_update_other
abbrev fk:=@PyProof.Rows.boot_list
abbrev fm:=@Array.length_toList
abbrev fo:=@List.map_congr_left
abbrev fq:=@Nat.min_eq_left
abbrev ft:=@List.mem_or_eq_of_mem_set
abbrev fw:=@Bool.false_eq_true
abbrev fz:=@PyProof.Rows.boot_sorted
abbrev fA:=@List.map_map
abbrev fE:=@Array.getElem?_eq_some_iff
abbrev fF:=@PySem.F.excBase_ValueError
abbrev fN:=@List.lookup_cons
abbrev fR:=@Nat.mul_le_mul
abbrev fS:=@List.drop_eq_getElem_cons
abbrev f_:=@List.find?_cons
abbrev gc:=@List.forIn_cons
abbrev gd:=@Nat.sub_self
abbrev gf:=@Ne.symm
abbrev gg:=@PySem.wpAny_newObj_type
abbrev gh:=@List.take_append_of_le_length
abbrev gm:=@List.length_eq_zero_iff
abbrev gp:=@List.mem_range
abbrev gr:=@Nat.lt_succ_self
abbrev gt:=@Nat.succ_le_succ
abbrev gu:=@PySem.wpAny_call_entry
abbrev gv:=@List.dropLast_concat_getLast
abbrev gI:=@PySem.Calls.callWith_builtin
abbrev gL:=@List.drop_of_length_le
abbrev gN:=@PySem.wpAny_Call_Name_kw
abbrev gS:=@Bool.eq_iff_iff
abbrev gT:=@List.append_nil
abbrev gV:=@List.nodup_cons
abbrev gX:=@PySem.Heap.get?_update_self
abbrev g9:=@PySem.F.slot_dict_get
abbrev hJ:=@List.cons_lt_cons_iff
abbrev hV:=@PySem.wpAny_holding
abbrev ia:=@PySem.wpAny_pyIter_list
abbrev ib:=@PySem.Calls.spliced_nil
abbrev ic:=@PySem.StrLaws.subAt_one
abbrev ie:=@PySem.wpAny_loadPart_at
abbrev ii:=@PySem.Calls.evalArgs_plain
abbrev ij:=@List.mem_iff_getElem
abbrev ik:=@List.pairwise_iff_getElem
abbrev im:=@List.set_eq_take_append_cons_drop
abbrev io:=@Nat.le_of_eq
abbrev ip:=@PySem.F.slot_list_remove
abbrev iq:=@PySem.F.type_list_remove
abbrev ir:=@PySem.mem_of_lookup
abbrev iA:=@Array.getElem?_setIfInBounds_ne
abbrev iE:=@PySem.wpAny_callSpecial?_slot
abbrev iF:=@List.eraseIdx_cons_succ
abbrev iL:=@Int.eq_ofNat_of_zero_le
abbrev iN:=@PySem.W.callWith_K
abbrev iO:=@PySem.SeqAt.EqAt.int_int
abbrev iP:=@Nat.lt_of_le_of_lt
abbrev iS:=@PySem.wpAny_loadPart'
abbrev iX:=@PySem.wpAny_setField_rec
abbrev i9:=@of_decide_eq_false
abbrev ja:=@List.getElem?_set_self
abbrev jb:=@PySem.F.slot_tuple_mul
abbrev jn:=@PySem.PassesOwn.leaving
abbrev jp:=@Nat.ne_of_gt
abbrev js:=@List.drop_zero
abbrev jv:=@PySem.Obj.isFreed_of_fields
abbrev jI:=@PySem.F.slot_int_rmul
abbrev jS:=@PySem.wpAny_seqItems
abbrev j3:=@PyProof.Rows.boot_int
abbrev ka:=@List.take_append_drop
abbrev ke:=@PySem.F.slot_list_pop
abbrev kf:=@PySem.F.type_list_pop
abbrev ki:=@Nat.min_eq_right
abbrev km:=@List.not_mem_nil
abbrev kn:=@List.replicate_succ'
abbrev ko:=@List.any_cons
abbrev kq:=@Nat.le_succ
abbrev kr:=@List.map_id
abbrev ku:=@List.filterMap_cons
abbrev kz:=@List.mem_filter
abbrev kD:=@PySem.wpAny_passesOwn
abbrev kG:=@PySem.wpAny_binaryOp_repeat_ref
abbrev kH:=@Option.map_some
abbrev kK:=@PySem.codeAny_mono
abbrev kL:=@PySem.F.args_tuple_add_2
abbrev kM:=@PySem.wpAny_tupleItemsOf
abbrev kN:=@Nat.eq_zero_or_pos
abbrev kP:=@List.erase_sublist
abbrev kQ:=@PySem.wpAny_call
abbrev kR:=@Int.mul_le_mul
abbrev kS:=@PySem.Heap.IsList.at
abbrev kU:=@PySem.F.entry_tuple_add
abbrev kX:=@PySem.F.args_dict_get_3
abbrev k9:=@Nat.add_sub_cancel_left
abbrev lh:=@Nat.lt_succ_of_lt
abbrev lj:=@Sum.inr.inj
abbrev lm:=@PyProof.noPylong_small
abbrev lp:=@PySem.F.slot_tuple_add
abbrev lv:=@PySem.F.entry_dict_get
abbrev lx:=@PySem.wpAny_nextOf_list_item
abbrev ly:=@PyProof.Rows.boot_bool
abbrev lI:=@PySem.F.slot_str_lower
abbrev lL:=@PySem.F.type_str_lower
abbrev lP:=@PySem.wpAny_standAt
abbrev lS:=@Bool.not_true
abbrev lT:=@Bool.true_and
abbrev l_:=@List.drop_length
abbrev ma:=@List.length_singleton
abbrev md:=@PyProof.Rows.boot_str
abbrev me:=@PyProof.Rows.boot_min
abbrev mf:=@List.mem_append_left
abbrev mh:=@List.getElem?_set_ne
abbrev mi:=@PySem.wpAny_Name
abbrev ml:=@PyProof.Rows.callWith_builtin1
abbrev mm:=@Int.ofNat_lt
abbrev mn:=@List.foldl_cons
abbrev mo:=@List.length_dropLast
abbrev mw:=@List.length_nil
abbrev mx:=@PySem.F.slot_tuple_lt
abbrev my:=@PySem.wpAny_updateSeq_pair
abbrev mB:=@PySem.F.slot_zip_next
abbrev mE:=@List.map_set
abbrev mI:=@Nat.mul_le_mul_right
abbrev mM:=@PySem.W.plainGet_of
abbrev mP:=@Bool.false_and
abbrev mS:=@PySem.wpAny_setField
abbrev mT:=@List.take_zero
abbrev nc:=@PySem.wpAny_pyIter_range
abbrev nv:=@List.mem_filterMap
abbrev ny:=@PySem.Obj.data_mapFields
abbrev nB:=@List.getElem?_drop
abbrev nE:=@Int.fdiv_eq_ediv_of_nonneg
abbrev nI:=@List.sum_cons
abbrev nK:=@List.takeWhile_cons_of_pos
abbrev nL:=@PySem.wpAny_onRaise
abbrev nS:=@Int.ofNat.inj
abbrev nV:=@List.map_drop
abbrev nX:=@PySem.Within.cons
abbrev n5:=@Function.comp_def
abbrev n9:=@Bool.eq_false_iff
abbrev og:=@PySem.wpAny_rule
abbrev om:=@Array.getElem?_eq_getElem
abbrev on:=@List.getLast?_eq_getElem?
abbrev oq:=@List.getElem?_zip_eq_some
abbrev ot:=@Nat.succ_mul
abbrev ow:=@List.cons_append
abbrev oy:=@List.map_nil
abbrev oz:=@Array.toList_inj
abbrev oB:=@Nat.zero_add
abbrev oC:=@List.of_mem_zip
abbrev oP:=@Bool.or_eq_true
abbrev oQ:=@Int.le_refl
abbrev oS:=@List.forIn_nil
abbrev o0:=@List.nodup_nil
abbrev AB:=List (List Nat)
abbrev AD:=PySem.Value->PySem.Shared->Prop
abbrev AE:=List (PySem.Addr×PySem.Obj)
noncomputable section
namespace L2
open PySem
def Bx (h:Runs M Γ p t fs s e s'):s.toks<=s'.toks:=by
 induction h with| done|raise|yield=>show ai _| fresh _ ih=>show bP (kq _) ih| again _ _ ih|rule _ ih|«at» _ ih|load _ _ ih|update _ _ ih|loadIfAlive _ ih|point _ ih|alloc _ ih|ask _ ih|choose _ _ ih|os _ ih|handled _ ih|genState _ _ ih|stack _ ih|thread _ ih|newGen _ ih=>show ih| call _ _ ih1 ih2=>show bP ih1 ih2| callSusp _ ih=>show ih| resumeFresh _ _ _ _ ih1 ih2=>show bP ih1 ih2| resumeSuspended _ _ _ _ ih1 ih2=>show bP ih1 ih2| resumeJustStarted _ _ _ ih=>show ih| resumeThrowFresh _ _ ih=>show ih| resumeRunning _ _ ih=>show ih| resumeFinished _ _ ih=>show ih| segRet _ _ ih1 ih2=>show bP ih1 ih2| segGen _ _ ih1 ih2=>show bP ih1 ih2| segSuspOut _ _ ih=>show ih| segSuspGen _ _ _ _ ih1 ih2=>show bP ih1 ih2
def Ww (h:Wakes M Γ p g r s res s'):s.toks<=s'.toks:=by
 unfold Wakes at h;split at h;.show h.elim
 .split at h
  .let⟨e,s1,j,_,_,rfl⟩:=h;let z:=Bx j;show z
  .let⟨_,rfl⟩:=h;show ai _
  .let⟨_,rfl⟩:=h;show ai _
 .let⟨e,s1,j,_,_,rfl⟩:=h;let z:=Bx j;show z
 .let⟨_,rfl⟩:=h;show ai _
 .let⟨_,rfl⟩:=h;show ai _
def ahH {α:Type}{M:Model}{Γ:Ctx}(t:Sem α)(n:Nat){Q:α->Pos->Shared->Prop}{E:Value->Pos->Shared->Prop}(p:Pos)(s:Shared)(hn:n<=s.toks)(h:Sem.wp M Γ t (λa p s=>n<=s.toks->Q a p s) (λe p s=>n<=s.toks->E e p s) p s):Sem.wp M Γ t Q E p s:=by
 revert h
 induction t generalizing p s with| pure x=>show λh=>h hn| raise v=>show λh=>h hn| unsupported|finish|yield|fork|await|register=>show id| fresh k ih=>show ih _ _ _ (bP hn (kq _))| rule _ k ih|«at» _ k ih|alloc _ k ih|loadIfAlive _ k ih|point _ k ih|ask k ih|os _ _ k ih|handled _ k ih|newGen _ k ih|stack k ih|thread k ih=>show ih _ _ _ hn| load a _ k ih|genState a k ih=>show λ⟨o,F,h⟩=>⟨o,F,ih _ _ _ hn h⟩| update a _ f k ih|choose _ _ k ih=>show λ⟨ha,h⟩=>⟨ha,ih _ _ _ hn h⟩| call c h g l k ih=>show λ⟨r,s',j,D⟩=>(JA r s' ⟨j,ih _ _ _ (bP hn (Bx j)) D⟩)| resume g r l k ih=>show λ⟨res,s',hw,h⟩=>(JA res s' ⟨hw,ih _ _ _ (bP hn (Ww hw)) h⟩)
def Pa {α:Type}{t:Sem α}{Q:α->Shared->Prop}{s:Shared}(h:wpAny M A t (λa s'=>s.toks<=s'.toks->Q a s') (λe s'=>s.toks<=s'.toks->E e s') s):wpAny M A t Q E s:=λΓ p hΓ=>ahH t s.toks p s (ai _) (h Γ p hΓ)
end L2
namespace L2
open PySem PySem.Spec PyProof.Rows
abbrev Key:=Sum Int Str
def zG:Key->Value->Bool
 | .inl k,v=>Value.isInt k v
 | .inr x,v=>Value.isStrOf x v
def aiy (w:World):Key->Int
 | .inl k=>hashInt k
 | .inr x=>hashStr w x
theorem iI:∀{k:Key} {v:Value},zG k v=true->(∃i t,k=Sum.inl i/\v=Value.int i t)\/(∃x t,k=Sum.inr x/\v=Value.str x t)
 | .inl i,v,h=>by let⟨t,e⟩:=Value.isInt_shape (k:=i) (v:=v) h;show .inl (JA i t ⟨rL,e⟩)
 | .inr x,v,h=>by let⟨t,e⟩:=Value.isStrOf_shape (x:=x) (v:=v) h;show .inr (JA x t ⟨rL,e⟩)
def YB (i)(t:Tok):zG (.inl i) (.int i t)=true:=by simp[zG,Value.isInt]
def YC (x)(t:Tok):zG (.inr x) (.str x t)=true:=by simp[zG,Value.isStrOf]
def afi (a b):decide ((Sum.inl a:Key)=Sum.inl b)=(a==b):=by
 by_cases e:a=b;.subst e;simp
 .let h:¬(Sum.inl a:Key)=Sum.inl b:=λq=>e (Sum.inl.inj q)
  rw[ah h];show(beq_eq_false_iff_ne.mpr e).symm
def afj (a b):decide ((Sum.inr a:Key)=Sum.inr b)=decide (a=b):=by
 by_cases e:a=b;.subst e;simp
 .let h:¬(Sum.inr a:Key)=Sum.inr b:=λq=>e (lj q)
  rw[ah h,ah e]
def afk (a)(b):decide ((Sum.inl a:Key)=Sum.inr b)=false:=ah (λq=>nomatch q)
def afl (a)(b):decide ((Sum.inr a:Key)=Sum.inl b)=false:=ah (λq=>nomatch q)
noncomputable def gG (prog:Program)(w:World):PySem.KeyKind prog w Key where
 is:=zG
 hash:=aiy w
 inj:=λv a b ha hb=>by
  rcases iI ha with⟨i,t,rfl,rfl⟩|⟨x,t,rfl,rfl⟩
  .rcases iI hb with⟨j,u,rfl,e⟩|⟨y,u,rfl,e⟩
   .injection e with e1 _;rw[e1]
   .show nomatch e
  .rcases iI hb with⟨j,u,rfl,e⟩|⟨y,u,rfl,e⟩;.show nomatch e
   .injection e with e1 _;rw[e1]
 byValue:=λk v h=>by rcases iI h with⟨i,t,rfl,rfl⟩|⟨x,t,rfl,rfl⟩ <;> rfl
 pyHash:=λD h=>by
  rcases iI D with⟨i,t,rfl,rfl⟩|⟨x,t,rfl,rfl⟩;.show wpAny_pyHash_int h
  .show wpAny_pyHash_str h
 eqBool:=λF D h=>by
  rcases iI F with⟨i,t,rfl,rfl⟩|⟨x,t,rfl,rfl⟩
  .rcases iI D with⟨j,u,rfl,rfl⟩|⟨y,u,rfl,rfl⟩;.rw[afi]at h;show wpAny_eqBool_int h
   .rw[afk]at h;show SeqAt.EqAt.int_str i t y u _ _ _ _ h
  .rcases iI D with⟨j,u,rfl,rfl⟩|⟨y,u,rfl,rfl⟩;.rw[afl]at h;show SeqAt.EqAt.str_int x t j u _ _ _ _ h
   .rw[afj]at h;show wpAny_eqBool_str h
 «strs»:=λk x t v h=>by
  rcases iI h with⟨i,u,rfl,e⟩|⟨y,u,rfl,e⟩;.show nomatch e
  .injection e with e1 _;subst e1;cases v <;> rfl
def Tn (prog)(w)(i)(t:Tok):(gG prog w).is (.inl i) (.int i t)=true:=YB i t
def lE (prog)(w)(x)(t:Tok):(gG prog w).is (.inr x) (.str x t)=true:=YC x t
inductive V where
 | non|bl (b:Bool)|int (i:Int)|str (x:Str)|Bk (b:Array UInt8)|flt (b:UInt64)|ref (a:Addr)|ty (n:String)
 deriving DecidableEq
def cD:V->Value->Prop
 | .non,u=>u=Value.none
 | .bl b,u=>u=Value.bool b
 | .int i,u=>∃t,u=Value.int i t
 | .str x,u=>∃t,u=Value.str x t
 | .Bk b,u=>∃t,u=Value.bytes b t
 | .flt b,u=>∃t,u=Value.float b t
 | .ref a,u=>u=Value.ref a
 | .ty n,u=>u=Value.type n
abbrev Vals:List V->List Value->Prop:=Paired cD
def Vals.length (r:Vals xs us):xs.length=us.length:=Paired.length r
theorem Vals.get:∀{xs:List V} {us:List Value} {i:Nat} {x:V},Vals xs us->xs[i]?=some x->∃u,us[i]?=some u/\cD x u
 | _,_,_,_,.nil,e=>by simp at e
 | _,_,0,_,.cons r _,e=>by simp at e;subst e;show⟨_,rL,r⟩
 | _,_,i+1,x,.cons _ t,e=>by let⟨u,h1,h2⟩:=Vals.get (i:=i) (x:=x) t (by simpa using e);show⟨u,by simpa using h1,h2⟩
theorem Vals.set (r:cD x u):∀{xs:List V} {us:List Value} (i:Nat),Vals xs us->Vals (xs.set i x) (us.set i u)
 | _,_,_,.nil=>.nil
 | _,_,0,.cons _ t=>.cons r t
 | _,_,i+1,.cons q t=>.cons q (Vals.set r i t)
theorem Vals.append:∀{xs ys:List V} {us ws:List Value},Vals xs us->Vals ys ws->Vals (xs++ys) (us++ws)
 | _,_,_,_,.nil,s=>s
 | _,_,_,_,.cons r t,s=>.cons r (Vals.append t s)
theorem Vals.take:∀{xs:List V} {us:List Value} (n:Nat),Vals xs us->Vals (xs.take n) (us.take n)
 | _,_,0,_=>.nil
 | _,_,_+1,.nil=>.nil
 | _,_,n+1,.cons r t=>.cons r (Vals.take n t)
theorem Vals.drop:∀{xs:List V} {us:List Value} (n:Nat),Vals xs us->Vals (xs.drop n) (us.drop n)
 | _,_,0,r=>r
 | _,_,_+1,.nil=>.nil
 | _,_,n+1,.cons _ t=>Vals.drop n t
def mC:Option V->Option Value->Prop
 | some v,some u=>cD v u
 | none,none=>True
 | _,_=>False
def KV {κ:Type}:List (κ×V)->List (κ×Value)->Prop:=Paired λ(p:κ×V) (q:κ×Value)=>p.1=q.1/\cD p.2 q.2
def kV:Key->V
 | .inl i=>.int i
 | .inr x=>.str x
inductive HO where
 | lst (xs:List V)
 | tup (xs:List V)
 | dK (kvs:List (Key×V))|dT (kvs:List (List Key×V))
 | set (S:Int->Bool) (n:Nat)
 | ins (C dx:Addr) (fs:List (Str×V))
 | own (x:Addr)
 | xd (fs:List (Str×V))
 | met (f x:Addr)
 | rng (lo hi:Int)
 | pC (o:Obj) (u:HO)
 | Lr (ps:Array Value)
 | ext (φ:Heap->Prop)
abbrev Hp:=Addr->Option HO
def upd (H:Hp)(a:Addr)(o:HO):Hp:=λb=>if b=a then some o else H b
def aq:upd H a o a=some o:=by unfold upd;rw[if_pos rfl]
def aP (h:b≠a):upd H a o b=H b:=by unfold upd;rw[if_neg h]
def Ur:upd (upd H a o) a u=upd H a u:=by funext b;unfold upd;split <;> rfl
def wM {H:Hp}{a b:Addr}{o u:HO}(h:H a=some o)(h':H b=some u)(d:o≠u):a≠b:=by intro e;subst e;rw[h]at h';show d (bp h')
def aY {H:Hp}{a b:Addr}{o:HO}(h:H a=some o)(h':H b=none):a≠b:=by intro e;subst e;rw[h]at h';cases h'
section
variable (P:Program)(w:World)
def fP (H:Hp)(h:Heap)(a:Addr):HO->Prop
 | .lst xs=>xs.length<=sizeLine/\∃(its:List Value) (n:Nat),Vals xs its/\h.get? a=some {cls:=.type "list",data:=.seq its.toArray n}
 | .tup xs=>xs.length<=sizeLine/\∃its:List Value,Vals xs its/\IsTup h a its.toArray
 | .dK kvs=>kvs.length<=sizeLine/\(a==sysModules)=false/\∃vs,KV kvs vs/\h.DictOf (gG P w) a vs
 | .dT kvs=>kvs.length<=sizeLine/\(a==sysModules)=false/\∃xs:List (List Key×Addr×Value),
   Paired (λ(p:List Key×V) (q:List Key×Addr×Value)=>p.1=q.1/\H q.2.1=some (.tup (p.1.map kV))/\cD p.2 q.2.2) kvs xs/\
   ∃o es ep,h.get? a=some o/\o.ExactDict/\o.data=.dict es ep/\es.toList=xs.map (entryOfKey (tupleKind (gG P w)))/\(xs.map (·.1)).Nodup
 | .set S n=>h.SetOf (intKind P w) a S n
 | .ins C dx fs=>H dx=some (.own a)/\fs.length<=1000/\dx≠a/\h.get? a=some (W.instObj C dx)/\
   ∃mA,h.Ns1 dx mA/\(∀f,mC (fs.lookup f) (mA f))/\PySem.Within mA (fs.map (·.1))
 | .own _=>∃o,h.get? a=some o
 | .xd fs=>∃mA,h.Ns1 a mA/\∀f,mC (fs.lookup f) (mA f)
 | .rng lo hi=>∃t u v,h.get? a=some {cls:=.type "range",data:=.fields #[.int lo t,.int hi u,.int 1 v]}
 | .pC o u=>h.get? a=some o/\fP H h a u
 | .Lr ps=>h.get? a=some {cls:=.none,data:=.fields ps}
 | .met f x=>h.get? a=some (W.methodObj (.ref f) (.ref x))
 | .ext φ=>φ h/\(∃o,h.get? a=some o)/\∀h1 h2:Heap,φ h1->(∀o,h1.get? a=some o->h2.get? a=some o)->φ h2
def jW (H:Hp)(h:Heap):Prop:=∀a o,H a=some o->fP P w H h a o
end
section
variable {P:Program}{w:World}{H H':Hp}{h h':Heap}{a:Addr}{o:HO}
def fP.lt (x:fP P w H h a o):a<h.objs.size:=by
 cases o with
 | lst xs=>let⟨_,_,_,_,e⟩:=x;show aE e
 | tup xs=>let⟨_,_,_,p⟩:=x;show p.lt
 | dK kvs=>let⟨_,_,_,_,o,_,_,e,_⟩:=x;show aE e
 | dT kvs=>let⟨_,_,_,_,o,_,_,e,_⟩:=x;show aE e
 | set S n=>let⟨o,_,_,_,e,_⟩:=x;show aE e
 | ins C dx fs=>let⟨_,_,_,e,_⟩:=x;show aE e
 | own y=>let⟨_,e⟩:=x;show aE e
 | xd fs=>obtain⟨_,⟨_,_,_,e,_⟩,_⟩:=x;show aE e
 | rng lo hi=>let⟨_,_,_,e⟩:=x;show aE e
 | pC ob u=>let⟨e,_⟩:=x;show aE e
 | Lr ps=>show aE (show h.get? a=some _ from x)
 | met f y=>show aE (show h.get? a=some _ from x)
 | ext φ=>obtain⟨_,⟨_,e⟩,_⟩:=x;show aE e
theorem Paired.aa7 {α β:Type}{F G:α->β->Prop}:∀{D:List α} {j:List β},Paired F D j->(∀a b,F a b->G a b)->Paired G D j
 | _,_,.nil,_=>.nil
 | _,_,.cons r t,f=>.cons (f _ _ r) (Paired.aa7 t f)
def fP.stay (x:fP P w H h a o)(k:∀b u,(b=a\/H b=some (.own a))->h.get? b=some u->h'.get? b=some u)(j:∀b,H b=some (.own a)->H' b=some (.own a))(ht:∀b xs,H b=some (.tup xs)->H' b=some (.tup xs)):fP P w H' h' a o:=by
 induction o with
 | lst xs=>let⟨z,its,n,r,e⟩:=x;show⟨z,its,n,r,k _ _ (.inl rL) e⟩
 | tup xs=>let⟨z,its,r,ob,e,c⟩:=x;show⟨z,its,r,ob,k _ _ (.inl rL) e,c⟩
 | dK kvs=>let⟨z,y,vs,r,ob,es,ep,e,c⟩:=x;show⟨z,y,vs,r,ob,es,ep,k _ _ (.inl rL) e,c⟩
 | dT kvs=>let⟨z,y,xs,r,ob,es,ep,e,c⟩:=x;show⟨z,y,xs,Paired.aa7 r λp q z=>⟨z.1,ht _ _ z.2.1,z.2.2⟩,ob,es,ep,k _ _ (.inl rL) e,c⟩
 | set S n=>let⟨ob,es,ep,t,e,c⟩:=x;show JI ob es ep t ⟨k _ _ (.inl rL) e,c⟩
 | ins C dx fs=>obtain⟨d,z,ne,e,mA,⟨od,es,ep,e2,c⟩,r⟩:=x;show⟨j _ d,z,ne,k _ _ (.inl rL) e,mA,(JE od es ep ⟨k _ _ (.inr d) e2,c⟩),r⟩
 | own y=>let⟨ob,e⟩:=x;show⟨ob,k _ _ (.inl rL) e⟩
 | xd fs=>obtain⟨mA,⟨od,es,ep,e,c⟩,r⟩:=x;show⟨mA,(JE od es ep ⟨k _ _ (.inl rL) e,c⟩),r⟩
 | rng lo hi=>let⟨t,u,v,e⟩:=x;show JE t u v (k _ _ (.inl rL) e)
 | pC ob u ih=>let⟨e,q⟩:=x;show⟨k _ _ (.inl rL) e,ih q⟩
 | Lr ps=>have e:h.get? a=some {cls:=.none,data:=.fields ps}:=x;show h'.get? a=some {cls:=.none,data:=.fields ps};show k a _ (.inl rL) e
 | met f y=>have e:h.get? a=some (W.methodObj (.ref f) (.ref y)):=x;show h'.get? a=some (W.methodObj (.ref f) (.ref y));show k a _ (.inl rL) e
 | ext φ=>obtain⟨p,⟨o,e⟩,st⟩:=x;show⟨st _ _ p λo q=>k _ _ (.inl rL) q,⟨o,k _ _ (.inl rL) e⟩,st⟩
def jW.lt (x:jW P w H h)(e:H a=some o):a<h.objs.size:=(x a o e).lt
def jW.fresh (x:jW P w H h)(e:h.objs.size<=a):H a=none:=by
 cases q:H a with| none=>rfl| some u=>show absurd (cS (x.lt q) e) (fg _)
def jW.kept (x:jW P w H h)(k:∀b u,h.get? b=some u->h'.get? b=some u):jW P w H h':=λa o e=>(x a o e).stay (λb u _ q=>k b u q) (λ_ q=>q) λ_ _ q=>q
def jW.laid (x:jW P w H h)(k:∀b u,h.get? b=some u->h'.get? b=some u)(hp:h.objs.size<=a)(new:fP P w (upd H a o) h' a o):jW P w (upd H a o) h':=λb u e=>by
 let hn:=x.fresh hp;by_cases hb:b=a;.subst hb;rw[aq]at e;cases e;show new
 .rw[aP hb]at e;show(x b u e).stay (λc v _ q=>k c v q) (λc q=>by rw[aP (aY q hn)];show q) λc xs q=>by rw[aP (aY q hn)];show q
end
def Rd (H:Hp)(a:Addr)(u:HO):Prop:=H a=some u\/∃o,H a=some (.pC o u)
def Rd.of (h:H a=some u):Rd H a u:=.inl h
def Rd.ok (r:Rd H a u)(x:jW P w H h):fP P w H h a u:=by
 rcases r with r|⟨o,r⟩;.show x a u r
 .let⟨_,q⟩:=x a _ r;show q
def YD:Option HO->Prop
 | some (.lst _)=>True
 | some (.dK _)=>True
 | some (.dT _)=>True
 | some (.set _ _)=>True
 | some (.ins _ _ _)=>True
 | some (.ext _)=>True
 | _=>False
section
variable {P:Program}{w:World}{H:Hp}{h h':Heap}{x e:Addr}{o':HO}
def jW.write (ok:jW P w H h)(F:YD (H x))(O:e=x\/H e=some (.own x))(k:∀b u,b≠e->h.get? b=some u->h'.get? b=some u)(I:∃u,h'.get? e=some u)(new:fP P w (upd H x o') h' x o'):jW P w (upd H x o') h':=λb u q=>by
 let D:∀c y,H c=some (.own y)->c≠x:=λc y r z=>by subst z;rw[r]at F;show F
 let J:∀c xs,H c=some (.tup xs)->c≠x:=λc xs r z=>by subst z;rw[r]at F;show F
 by_cases hb:b=x;.subst hb;rw[aq]at q;cases q;show new
 .rw[aP hb]at q;by_cases j:b=e
  .let Y:H b=some (.own x):=by
    rcases O with z|z;.show absurd (j.trans z) hb
    .rw[j];show z
   rw[q]at Y;cases Y;let⟨v,Z⟩:=I;show⟨v,by rw[j];show Z⟩
  .refine(ok b u q).stay (λc v G r=>k c v ?_ r) (λc r=>by rw[aP (D c b r)];show r) λc xs r=>by rw[aP (J c xs r)];show r
   rcases G with rfl|G;.show j
   .rintro rfl;rcases O with z|z;.show D c b G z
    .rw[G]at z;cases z;show hb rfl
end
structure Un (fs ex:List Addr)(H H':Hp)(h h':Heap):Prop where
 keep:∀b o,h.get? b=some o->H b=none->b∉fs->b∉ex->h'.get? b=some o
 slot:∀b o,h.get? b=some o->H b=none->b∈fs->b∉ex->∃sl,h'.get? b=some {o with slots:=sl}
 free:∀b o,h.get? b=some o->H b=none->b∉ex->H' b=none
 there:∀b o,h.get? b=some o->b∉ex->∃o',h'.get? b=some o'
 tups:∀b xs,H b=some (.tup xs)->H' b=some (.tup xs)
 qg:∀b o u,H b=some (.pC o u)->H' b=some (.pC o u)
 qF:∀b ps,H b=some (.Lr ps)->∃more,H' b=some (.Lr (ps++more))
section
variable {fs ex:List Addr}{H H1:Hp}{h h1 h':Heap}{a x e:Addr}{o:HO}
def Un.any (u:Un fs ex H H1 h h1)(q:h.get? b=some ob)(n:H b=none)(hx:b∉ex):∃sl,h1.get? b=some {ob with slots:=sl}:=by
 by_cases hb:b∈fs;.show u.slot b ob q n hb hx
 .show⟨ob.slots,u.keep b ob q n hb hx⟩
def Un.kept (k:∀b u,h.get? b=some u->h'.get? b=some u):Un fs ex H H h h':=⟨λb ob q _ _ _=>k b ob q,λb ob q _ _ _=>⟨ob.slots,k b ob q⟩,λ_ _ _ n _=>n,λb ob q _=>⟨ob,k b ob q⟩,λ_ _ q=>q,λ_ _ _ q=>q,λ_ ps q=>⟨#[],by rw[q];simp⟩⟩
def Un.refl:Un fs ex H H h h:=Un.kept λ_ _ q=>q
def Un.laid (k:∀b u,h.get? b=some u->h'.get? b=some u)(hp:h.objs.size<=a)(hn:H a=none):Un fs ex H (upd H a o) h h' where
 keep:=λb u q _ _ _=>k b u q
 slot:=λb u q _ _ _=>⟨u.slots,k b u q⟩
 free:=λb u q n _=>by rw[aP (cq (cS (aE q) hp))];show n
 there:=λb u q _=>⟨u,k b u q⟩
 tups:=λb xs q=>by rw[aP (aY q hn)];show q
 qg:=λb u xs q=>by rw[aP (aY q hn)];show q
 qF:=λb ps q=>⟨#[],by rw[aP (aY q hn),q];simp⟩
def Un.write (D:YD (H x))(G:e=x\/H e=some (.own x))(k:∀b u,b≠e->h.get? b=some u->h'.get? b=some u)(F:∃u,h'.get? e=some u):Un fs ex H (upd H x o) h h':=by
 let hx:∀b,H b=none->b≠x:=λb n z=>by subst z;rw[n]at D;show D
 let hb:∀b,H b=none->b≠e:=λb n z=>by
  subst z;rcases G with r|r;.show hx b n r
  .rw[n]at r;cases r
 let hm:∀b u,H b=some u->¬YD (some u)->b≠x:=λb u q nm z=>by subst z;rw[q]at D;show nm D
 refine⟨λb u q n _ _=>k b u (hb b n) q,λb u q n _ _=>⟨u.slots,k b u (hb b n) q⟩,λb u q n _=>by rw[aP (hx b n)];show n,λb u q _=>?_,
  λb xs q=>by rw[aP (hm b _ q λz=>z)];show q,λb u xs q=>by rw[aP (hm b _ q λz=>z)];show q,λb ps q=>⟨#[],by rw[aP (hm b _ q λz=>z),q];simp⟩⟩
 by_cases j:b=e;.subst j;show F
 .show⟨u,k b u j q⟩
end
def Lw (h:Heap)(H:Hp):List Addr:=(List.range h.objs.size).filter λa=>(H a).isSome
def zH (h:Heap)(H:Hp):Heap:=W.hideAll h (Lw h H)
def YF (h)(H):(zH h H).objs.size=h.objs.size:=W.hideAll_size _ _
def aa8 {h:Heap}(e:h.get? b=some o)(n:H b=none):(zH h H).get? b=some o:=
 W.hideAll_get _ e λhm=>by let q:(H b).isSome=true:=(kz.mp hm).2;rw[n]at q;simp at q
def adA (e:(zH h H).get? b=some o):h.get? b=some o/\H b=none:=by
 let j:h.get? b=some o:=W.of_hideAll (Lw h H) e;calc⟨j,?_⟩;cases q:H b with| none=>rfl| some x=>have hm:b∈Lw h H:=kz.mpr ⟨gp.mpr (aE j),by simp[q]⟩;let z:(zH h H).get? b=none:=W.hideAll_none (Lw h H) hm;rw[z]at e;cases e
structure Mod (K:W.Frag)(mg:Str->Option Value)(base:Heap):Prop where
 HX:K.In base
 glob:base.Ns mainGlobals mg
 blt:∃mb,base.Ns builtinsNs mb/\∀x:Str,x≠"__name__"->mb x=bootBuiltins x
 nolimit:base.NoLimit
structure Cx where
 prog:Program
 w:World
 K:W.Frag
 mg:Str->Option Value
 base:Heap
 A:Around
 N:List Str
 s₀:Shared
 H₀:Hp
 env:Env
 outer:List Env
 stack:List Env
 ex:List Addr
 fn:Str->Bool
 calm:Bool
 pn:List (Addr×Obj)
 xe:Value->Shared->Prop
def frs (l:List Env):List Addr:=l.filterMap (·.frame)
abbrev Cx.fs (X:Cx):List Addr:=frs X.outer
def Us (sc:Scope)(x:Str):Prop:=sc.names.lookup x=some .local\/sc.names.lookup x=some .cell\/sc.names.lookup x=some .free
def Loc (sc:Scope)(x:Str):Prop:=sc.names.lookup x=some .local\/sc.names.lookup x=some .cell
def Look (env:Env)(h:Heap)(m:Str->Option Value)(x:Str)(u:Value):Prop:=(env.kindOf x=some .local/\m x=some u)\/((env.kindOf x=some .cell\/env.kindOf x=some .free)/\∃c,env.cells.lookup x=some c/\h.IsCell c (some u))
structure Cx.Ok (X:Cx):Prop where
 mod:Mod X.K X.mg X.base
 kind:X.env.scope.kind=.function
 glob:X.env.globals=mainGlobals
 blt:X.env.builtins=builtinsNs
 above:X.s₀.heap.objs.size<=X.env.locals
 inj:∀x y c,X.env.cells.lookup x=some c->X.env.cells.lookup y=some c->x=y
 has:∀x,(X.env.kindOf x=some .cell\/X.env.kindOf x=some .free)->∃c,X.env.cells.lookup x=some c
 cab:∀x c,X.fn x=true->X.env.cells.lookup x=some c->X.s₀.heap.objs.size<=c
 hd:X.calm=true->X.A.handled=none
 frames:X.A.frames=some X.stack
 stk:X.stack=X.outer\/(X.stack=X.env::X.outer/\X.env.frame=some X.env.locals)
 YG:∀b∈X.ex,b≠X.env.locals/\∀x c,X.env.cells.lookup x=some c->c≠b
 bs:∀b o,X.base.get? b=some o->X.s₀.heap.get? b=some o/\X.H₀ b=none
 Bl:X.base.objs.size<=X.s₀.heap.objs.size
 BJ:∀b o,X.base.get? b=some o->b∉X.ex
 Gj:∀b∈X.ex,b∉X.fs
 o_:X.s₀.heap.FunFrames X.base X.outer
 BL:∀b∈X.fs,X.H₀ b=none
structure aQ (X:Cx)(ak:AE)(σ:List (Option V))(H:Hp)(s:Shared):Prop where
 ok:X.Ok
 os:s.os=X.s₀.os
 bare:AllBare s.gens
 base:Un X.fs X.ex X.H₀ H X.s₀.heap s.heap
 loc:∃m,s.heap.Ns X.env.locals m/\∀(i:Nat) (x:Str) (v:V),X.N[i]?=some x->σ[i]?=some (some v)->Us X.env.scope x->∃u,cD v u/\Look X.env s.heap m x u
 cell:∀x c,X.env.cells.lookup x=some c->∃v,s.heap.IsCell c v
 free:H X.env.locals=none
 mX:∀x c,X.env.cells.lookup x=some c->H c=none
 pin:∀p∈X.pn++ak,s.heap.get? p.1=some p.2/\H p.1=none/\p.1≠X.env.locals/\p.1∉X.fs/\∀v,p.2.data≠.cell v
 hok:jW X.prog X.w H s.heap
 len:σ.length=X.N.length
section
variable {X:Cx}{ak:AE}{σ:List (Option V)}{H H':Hp}{s:Shared}{h':Heap}
def Cx.Ok.aiA (ok:X.Ok)(e:X.base.get? b=some o):b∉X.fs:=λhb=>by have:=(ok.o_.mem hb).1;rw[e]at this;cases this
def aQ.bs (I:aQ X ak σ H s):∀b o,X.base.get? b=some o->s.heap.get? b=some o/\H b=none:=λb o e=>⟨I.base.keep b o (I.ok.bs b o e).1 (I.ok.bs b o e).2 (I.ok.aiA e) (I.ok.BJ b o e),I.base.free b o (I.ok.bs b o e).1 (I.ok.bs b o e).2 (I.ok.BJ b o e)⟩
def aQ.bk (I:aQ X ak σ H s):∀b o,X.base.get? b=some o->s.heap.get? b=some o:=λb o e=>(I.bs b o e).1
def aQ.mod (I:aQ X ak σ H s):Mod X.K X.mg X.base:=I.ok.mod
def aQ.iY (I:aQ X ak σ H s):X.K.In s.heap:=I.ok.mod.HX.keeps I.bk
def aQ.lt (I:aQ X ak σ H s):X.env.locals<s.heap.objs.size:=let ⟨_,hn,_⟩:=I.loc;hn.lt
def aQ.sz (I:aQ X ak σ H s):X.s₀.heap.objs.size<=s.heap.objs.size:=bP I.ok.above (ap I.lt)
def aQ.aiB (I:aQ X ak σ H s){a:Addr}(h:s.heap.objs.size<=a):a∉X.fs:=λhb=>by let⟨_,o,j,_⟩:=I.ok.o_.mem hb;show absurd (cS (aE j) (bP I.sz h)) (fg _)
def aQ.Lx (I:aQ X ak σ H s):∀x c,X.env.cells.lookup x=some c->c≠X.env.locals:=λx c e z=>by let⟨v,o,F,hd⟩:=I.cell x c e;obtain⟨m,⟨o',es,ep,D,j,_⟩,_⟩:=I.loc;rw[z,D]at F;cases F;rw[j]at hd;cases hd
def aQ.o_ (I:aQ X ak σ H s):s.heap.FunFrames X.base X.outer:=by
 let all:∀(l:List Env),(∀b∈frs l,b∈X.fs)->X.s₀.heap.FunFrames X.base l->s.heap.FunFrames X.base l:=by
  intro l
  induction l with| nil=>intro _ _;trivial| cons env r ih=>intro hs hl;obtain⟨G,⟨L,o,j,hn,J,hd⟩,F⟩:=hl;let D:L∈X.fs:=hs L (by unfold frs;rw[ku,j];show cf);let⟨sl,e⟩:=I.base.slot L o J (I.ok.BL L D) D λz=>I.ok.Gj L z D;show⟨G,(JA L _ ⟨j,hn,e,hd⟩),ih (λb hb=>hs b (by unfold frs;rw[ku,j];show bE _ hb)) F⟩
 show all X.outer (λ_ hb=>hb) I.ok.o_
def aQ.stack (I:aQ X ak σ H s):s.heap.FunFrames X.base X.stack:=by
 rcases I.ok.stk with e|⟨e,j⟩;.rw[e];show I.o_
 .rw[e];let⟨m,hn,_⟩:=I.loc;calc .cons (by rw[I.ok.kind];decide) j hn ?_ I.o_;show Heap.get?_none_of_le (bP I.ok.Bl I.ok.above)
def aQ.HY (I:aQ X ak σ H s):∀b∈frs X.stack,b∈X.env.locals::X.fs:=λb hb=>by
 rcases I.ok.stk with e|⟨e,j⟩;.rw[e]at hb;show bE _ hb
 .rw[e]at hb;unfold frs at hb;rw[ku,j]at hb;show hb
def aQ.yL (I:aQ X ak σ H s):∀b∈frs X.stack,H b=none:=λb hb=>by
 rcases bX.mp (I.HY b hb) with e|hb;.rw[e];show I.free
 .let⟨_,o,j,_⟩:=I.ok.o_.mem hb;show I.base.free b o j (I.ok.BL b hb) λz=>I.ok.Gj b z hb
def aQ.step {g':Array GenState}{t':Nat}{d':Drawn}{ch:List Addr}(I:aQ X ak σ H s)(D:∀b∈ch,(b∈X.ex\/X.s₀.heap.objs.size<=b)/\b≠X.env.locals/\(∀x c,X.env.cells.lookup x=some c->c≠b)/\∀p∈X.pn++ak,p.1≠b)(keep:∀b o,b≠X.env.locals->b∉X.fs->b∉ch->s.heap.get? b=some o->H b=none->h'.get? b=some o)(slot:∀b o,b≠X.env.locals->b∈X.fs->b∉ch->s.heap.get? b=some o->H b=none->∃sl,h'.get? b=some {o with slots:=sl})(free:∀b o,b∉ch->s.heap.get? b=some o->H b=none->H' b=none)(there:∀b o,b∉ch->s.heap.get? b=some o->∃o',h'.get? b=some o')(tups:∀b xs,H b=some (.tup xs)->H' b=some (.tup xs))(qg:∀b o u,H b=some (.pC o u)->H' b=some (.pC o u))(qF:∀b ps,H b=some (.Lr ps)->∃more,H' b=some (.Lr (ps++more)))(ns:∀m,s.heap.Ns X.env.locals m->h'.Ns X.env.locals m)(hok:jW X.prog X.w H' h')(hg:AllBare g'):aQ X ak σ H' {s with heap:=h',gens:=g',drawn:=d',toks:=t' }:=by
 let G:∀b o,X.s₀.heap.get? b=some o->b≠X.env.locals:=λb o e=>cq (cS (aE e) I.ok.above);let J:∀b o,X.s₀.heap.get? b=some o->b∉X.ex->b∉ch:=λb o e hx hb=>by
  rcases(D b hb).1 with z|z;.show hx z
  .show absurd (cS (aE e) z) (fg _)
 let j:∀x c,X.env.cells.lookup x=some c->∀v,s.heap.IsCell c v->h'.IsCell c v:=λx c e v ⟨o,F,hd⟩=>by
  let Y:c∉ch:=λz=>(D c z).2.2.1 x c e rfl;by_cases hc:c∈X.fs
  .let⟨sl,q⟩:=slot c o (I.Lx x c e) hc Y F (I.mX x c e);show⟨_,q,hd⟩
  .show⟨o,keep c o (I.Lx x c e) hc Y F (I.mX x c e),hd⟩
 calc⟨I.ok,I.os,hg,⟨λb o e n hb hx=>?_,λb o e n hb hx=>?_,λb o e n hx=>?_,λb o e hx=>?_,λb xs e=>tups b xs (I.base.tups b xs e),λb o xs e=>qg b o xs (I.base.qg b o xs e),λb ps e=>?_⟩,?_,λx c e=>?_,?_,λx c e=>?_,λp hp=>?_,hok,I.len⟩;.show keep b o (G b o e) hb (J b o e hx) (I.base.keep b o e n hb hx) (I.base.free b o e n hx)
 .let⟨sl,e1⟩:=I.base.slot b o e n hb hx;let⟨O,e2⟩:=slot b _ (G b o e) hb (J b o e hx) e1 (I.base.free b o e n hx);show⟨O,e2⟩
 .let⟨o',e1⟩:=I.base.there b o e hx;show free b o' (J b o e hx) e1 (I.base.free b o e n hx)
 .let⟨o',e1⟩:=I.base.there b o e hx;show there b o' (J b o e hx) e1
 .let⟨m1,e1⟩:=I.base.qF b ps e;let⟨m2,e2⟩:=qF b _ e1;show⟨m1++m2,by rw[e2,Array.append_assoc]⟩
 .let⟨m,hn,hl⟩:=I.loc;calc⟨m,ns m hn,λi x v e1 e2 e3=>?_⟩;let⟨u,r,l⟩:=hl i x v e1 e2 e3;calc⟨u,r,?_⟩;rcases l with l|⟨k,c,e,z⟩;.show .inl l
  .show .inr ⟨k,c,e,j x c e _ z⟩
 .let⟨v,z⟩:=I.cell x c e;show⟨v,j x c e v z⟩
 .obtain⟨m,⟨o,_,_,F,_⟩,_⟩:=I.loc;show free _ o (λz=>(D _ z).2.1 rL) F I.free
 .let⟨v,o,F,hd⟩:=I.cell x c e;show free c o (λz=>(D c z).2.2.1 x c e rL) F (I.mX x c e)
 .let⟨e,n,ne,Z,d⟩:=I.pin p hp;let Y:p.1∉ch:=λz=>(D p.1 z).2.2.2 p hp rfl;show⟨keep p.1 p.2 ne Z Y e n,free p.1 p.2 Y e n,ne,Z,d⟩
def aQ.un (I:aQ X ak σ H s)(u:Un X.fs [] H H' s.heap h')(hok:jW X.prog X.w H' h'):aQ X ak σ H' {s with heap:=h',toks:=t' }:=by
 obtain⟨m,⟨o,es,ep,G,r⟩,_⟩:=id I.loc;let⟨sl,O⟩:=u.any G I.free pi;show I.step (g':=s.gens) (d':=s.drawn) (ch:=[]) (λ_ z=>nomatch z) (λb o _ hb _ e n=>u.keep b o e n hb pi) (λb o _ hb _ e n=>u.slot b o e n hb pi) (λb o _ e n=>u.free b o e n pi) (λb o _ e=>u.there b o e pi) u.tups u.qg u.qF (λY hm=>by let⟨o',F,D,j,J⟩:=hm;rw[G]at j;cases j;show(JE _ F D ⟨O,J⟩)) hok I.bare
def aQ.call (I:aQ X ak σ H s)(u:Un (frs X.stack) ch H H' s.heap h')(hok:jW X.prog X.w H' h')(Z:AllBare g')(F:∀b∈ch,(b∈X.ex\/X.s₀.heap.objs.size<=b)/\b≠X.env.locals/\(∀x c,X.env.cells.lookup x=some c->c≠b)/\∀p∈X.pn++ak,p.1≠b):aQ X ak σ H' {s with heap:=h',gens:=g',drawn:=d',toks:=t' }:=by
 obtain⟨m,⟨o,es,ep,Y,r⟩,_⟩:=id I.loc;let⟨sl,O⟩:=u.any Y I.free λz=>(F _ z).2.1 rfl;show I.step (ch:=ch) F (λb o O hb j e n=>u.keep b o e n (λz=>(bX.mp (I.HY b z)).elim O hb) j) (λb o _ _ j e n=>u.any e n j) (λb o j e n=>u.free b o e n j) (λb o j e=>u.there b o e j) u.tups u.qg u.qF (λm' hm=>by let⟨o',J,G,D,r'⟩:=hm;rw[Y]at D;cases D;show(JE _ J G ⟨O,r'⟩)) hok Z
def aQ.turned (I:aQ X ak σ H s)(k:∀b o,b≠it->s.heap.get? b=some o->h'.get? b=some o)(hn:H it=none)(D:it≠X.env.locals)(h1:it∈X.ex\/X.s₀.heap.objs.size<=it)(h2:∀x c,X.env.cells.lookup x=some c->c≠it)(h3:∀p∈X.pn++ak,p.1≠it):aQ X ak σ H {s with heap:=h',toks:=t' }:=by
 let J:∀b u,H b=some u->b≠it:=λb u e z=>by rw[z,hn]at e;cases e
 refine I.step (g':=s.gens) (d':=s.drawn) (ch:=[it]) (λb hb=>?_) (λb o _ _ j e _=>k b o (λz=>j (by simp[z])) e) (λb o _ _ j e _=>⟨o.slots,k b o (λz=>j (by simp[z])) e⟩) (λ_ _ _ _ n=>n)
  (λb o j e=>⟨o,k b o (λz=>j (by simp[z])) e⟩) (λ_ _ e=>e) (λ_ _ _ e=>e) (λb ps e=>⟨#[],by rw[e];simp⟩) (λm hm=>?_) (λb u e=>?_) I.bare
 .let e:b=it:=by simpa using hb
  subst e;show⟨h1,D,h2,h3⟩
 .let⟨o,es,ep,F,r⟩:=hm;show JE o es ep ⟨k _ o (gf D) F,r⟩
 .refine(I.hok b u e).stay (λc v j q=>k c v ?_ q) (λ_ q=>q) λ_ _ q=>q
  rcases j with z|z;.rw[z];show J b u e
  .show J c _ z
def aQ.tok (I:aQ X ak σ H s)(t):aQ X ak σ H {s with toks:=t}:=I.un (h':=s.heap) (t':=t) Un.refl I.hok
def aQ.kept (I:aQ X ak σ H s)(k:∀b u,s.heap.get? b=some u->h'.get? b=some u):aQ X ak σ H {s with heap:=h',toks:=t' }:=I.un (Un.kept k) (I.hok.kept k)
def aQ.laid {a:Addr}{o:HO}{t':Nat}(I:aQ X ak σ H s)(k:∀b u,s.heap.get? b=some u->h'.get? b=some u)(hp:s.heap.objs.size<=a)(new:fP X.prog X.w (upd H a o) h' a o):aQ X ak σ (upd H a o) {s with heap:=h',toks:=t' }:=I.un (Un.laid k hp (I.hok.fresh hp)) (I.hok.laid k hp new)
def aQ.write (I:aQ X ak σ H s)(F:YD (H x))(D:e=x\/H e=some (.own x))(k:∀b u,b≠e->s.heap.get? b=some u->h'.get? b=some u)(j:∃u,h'.get? e=some u)(new:fP X.prog X.w (upd H x o) h' x o):aQ X ak σ (upd H x o) {s with heap:=h',toks:=t' }:=I.un (Un.write F D k j) (I.hok.write F D k j new)
def aQ.Ut (I:aQ X ak σ H s)(h:∀p∈H_,s.heap.get? p.1=some p.2/\H p.1=none/\p.1≠X.env.locals/\p.1∉X.fs/\∀v,p.2.data≠.cell v):aQ X H_ σ H s:=⟨I.ok,I.os,I.bare,I.base,I.loc,I.cell,I.free,I.mX,λp hp=>(bz.mp hp).elim (λz=>I.pin p (mf _ z)) (h p),I.hok,I.len⟩
def Pb {N:List Str}(D:N.Nodup){i j:Nat}{x:Str}(a:N[i]?=some x)(b:N[j]?=some x):i=j:=by let⟨h1,e1⟩:=ag.mp a;let⟨h2,e2⟩:=ag.mp b;show(List.getElem_inj D).mp (e1.trans e2.symm)
def Lz (I:aQ X ak σ H s)(hN:X.N.Nodup)(hi:X.N[i]?=some x)(hx:Loc X.env.scope x)(r:cD v u)(h:∀s',aQ X ak (σ.set i (some v)) H s'->(∃a,Heap.SameBut a s.heap s'.heap/\(a=X.env.locals\/X.env.cells.lookup x=some a))->(∃m,s'.heap.Ns X.env.locals m/\Look X.env s'.heap m x u)->Q () s')(hf:X.fn x=true\/X.env.scope.names.lookup x=some .local:=by first|show .inl rfl|show .inr rfl|assumption):wpAny M A (storeName X.env x u) Q E s:=by
 let⟨m,hn,hl⟩:=id I.loc;let hcls:(X.env.scope.kind == .class||(X.env.scope.kind == .module&&X.env.locals != X.env.globals))=false:=by rw[I.ok.kind];rfl
 let hiσ:i<σ.length:=by rw[I.len];show(ag.mp hi).1
 let Lx:=I.Lx;let D:∀{a:Addr} {h':Heap},(∃o,s.heap.get? a=some o/\H a=none)->Heap.SameBut a s.heap h'->jW X.prog X.w H h':=λ{a h'} ha hs b ob e=>by
  let⟨_,_,G⟩:=ha;calc(I.hok b ob e).stay (λc w' F q=>(hs.2 c ?_).trans q) (λ_ q=>q) λ_ _ q=>q;rintro rfl;rcases F with rfl|F
  .rw[G]at e;cases e
  .rw[G]at F;cases F
 rcases hx with hk|hk
 .calc wpAny_storeName_local hk hn (λh' hn' hs=>?_) hcls;let⟨oL,_,_,hoL,_⟩:=id hn;calc h _ ⟨I.ok,I.os,I.bare,⟨λb o e n hb hx=>?_,λb o e n hb hx=>?_,I.base.free,λb o e hx=>?_,I.base.tups,I.base.qg,I.base.qF⟩,⟨_,hn',λj y v' e1 e2 e3=>?_⟩,λy c e=>?_,I.free,I.mX,λp hp=>?_,D ⟨oL,hoL,I.free⟩ hs,by simpa using I.len⟩ ⟨_,hs,.inl rL⟩ ⟨_,hn',.inl ⟨hk,pi⟩⟩;.show(hs.2 b (cq (cS (aE e) I.ok.above))).trans (I.base.keep b o e n hb hx)
  .let⟨sl,e1⟩:=I.base.slot b o e n hb hx;show⟨sl,(hs.2 b (cq (cS (aE e) I.ok.above))).trans e1⟩
  .let⟨o',e1⟩:=I.base.there b o e hx;show⟨o',(hs.2 b (cq (cS (aE e) I.ok.above))).trans e1⟩
  .by_cases J:j=i
   .subst J;rw[hi]at e1;cases e1;rw[ja hiσ]at e2;cases e2;show⟨u,r,.inl ⟨hk,pi⟩⟩
   .rw[mh (gf J)]at e2;let⟨u',r',q⟩:=hl j y v' e1 e2 e3;calc⟨u',r',?_⟩;rcases q with⟨k,e⟩|⟨k,c,e,z⟩
    .calc .inl ⟨k,?_⟩;have:y≠x:=λe=>J (Pb hN e1 (e ▸ hi));simp[this,e]
    .show .inr ⟨k,c,e,z.sameBut hs (Lx y c e)⟩
  .let⟨w',z⟩:=I.cell y c e;show⟨w',z.sameBut hs (Lx y c e)⟩
  .let⟨e,n,ne,nf,d⟩:=I.pin p hp;show⟨(hs.2 p.1 ne).trans e,n,ne,nf,d⟩
 .let Y:X.fn x=true:=by
   rcases hf with z|z;.show z
   .rw[z]at hk;cases hk
  let⟨c,F⟩:=I.ok.has x (.inl hk);let⟨w',z⟩:=I.cell x c F;calc wpAny_storeName_cell I.ok.kind hk F z (λh' O hs=>?_);let⟨oc,hoc,aiC⟩:=id z;calc h {s with heap:=h' } ⟨I.ok,I.os,I.bare,⟨λb o e n hb hx=>?_,λb o e n hb hx=>?_,I.base.free,λb o e hx=>?_,I.base.tups,I.base.qg,I.base.qF⟩,⟨m,hn.sameBut hs (gf (Lx x c F)),λj y v' e1 e2 e3=>?_⟩,λy c' e=>?_,I.free,I.mX,λp hp=>?_,D ⟨oc,hoc,I.mX x c F⟩ hs,by simpa using I.len⟩ ⟨c,hs,.inr F⟩ ⟨m,hn.sameBut hs (gf (Lx x c F)),.inr ⟨.inl hk,c,F,O⟩⟩;.show(hs.2 b (cq (cS (aE e) (I.ok.cab x c Y F)))).trans (I.base.keep b o e n hb hx)
  .let⟨sl,e1⟩:=I.base.slot b o e n hb hx;show⟨sl,(hs.2 b (cq (cS (aE e) (I.ok.cab x c Y F)))).trans e1⟩
  .let⟨o',e1⟩:=I.base.there b o e hx;show⟨o',(hs.2 b (cq (cS (aE e) (I.ok.cab x c Y F)))).trans e1⟩
  .by_cases J:j=i
   .subst J;rw[hi]at e1;cases e1;rw[ja hiσ]at e2;cases e2;show⟨u,r,.inr ⟨.inl hk,c,F,O⟩⟩
   .rw[mh (gf J)]at e2;let⟨u',r',q⟩:=hl j y v' e1 e2 e3;calc⟨u',r',?_⟩;rcases q with q|⟨k,c',e,z'⟩;.show .inl q
    .calc .inr ⟨k,c',e,z'.sameBut hs ?_⟩;rintro rfl;show J (Pb hN e1 (I.ok.inj _ _ _ e F ▸ hi))
  .by_cases Z:c'=c;.subst Z;show⟨_,O⟩
   .let⟨w2,z2⟩:=I.cell y c' e;show⟨w2,z2.sameBut hs Z⟩
  .let⟨e,n,ne,nf,d⟩:=I.pin p hp;calc⟨(hs.2 p.1 ?_).trans e,n,ne,nf,d⟩;intro q;rw[q,hoc]at e;let q':oc=p.2:=bp e;show d w' (by rw[<-q'];show aiC)
def Pg (I:aQ X ak σ H s)(j:X.N.Nodup)(hi:X.N[i]?=some x)(hx:Loc X.env.scope x)(r:cD v u)(h:∀s',aQ X ak (σ.set i (some v)) H s'->Q () s')(F:X.fn x=true\/X.env.scope.names.lookup x=some .local:=by first|show .inl rfl|show .inr rfl|assumption):wpAny M A (storeName X.env x u) Q E s:=Lz I j hi hx r (λs' D _ _=>h s' D) F
def aQ.call' {s':Shared}(I:aQ X ak σ H s)(F:s'.os=s.os)(u:Un (frs X.stack) ch H H' s.heap s'.heap)(hok:jW X.prog X.w H' s'.heap)(D:AllBare s'.gens)(j:∀b∈ch,(b∈X.ex\/X.s₀.heap.objs.size<=b)/\b≠X.env.locals/\(∀x c,X.env.cells.lookup x=some c->c≠b)/\∀p∈X.pn++ak,p.1≠b):aQ X ak σ H' s':=by let⟨h',g',d',t',o'⟩:=s';let e:o'=s.os:=F;subst e;show I.call (g':=g') (t':=t') (d':=d') u hok D j
end
abbrev XK:=Value->Option Addr->Hp->Prop
abbrev St:=List (Option V)
abbrev VK:=V->Hp->Prop
abbrev TE:=St->Hp->VK->Prop
abbrev TT:=St->Hp->(Bool->Hp->Prop)->Prop
abbrev TA:=St->Hp->(List V->Hp->Prop)->Prop
structure Ends where
 nx:St->Hp->Prop
 rt:VK
 bk:St->Hp->Prop:=λ_ _=>False
 ct:St->Hp->Prop:=λ_ _=>False
abbrev TS:=Ends->St->Hp->Prop
def EP (X:Cx)(ak:AE)(σ:St)(Q:VK)(u:Value)(s':Shared):Prop:=∃v H',aQ X ak σ H' s'/\cD v u/\Q v H'
def TP (X:Cx)(ak:AE)(σ:St)(Q:Bool->Hp->Prop)(b:Bool)(s':Shared):Prop:=∃H',aQ X ak σ H' s'/\Q b H'
def AP (X:Cx)(ak:AE)(σ:St)(Q:List V->Hp->Prop)(us:List Value)(s':Shared):Prop:=∃vs H',aQ X ak σ H' s'/\Vals vs us/\Q vs H'
def SP (X:Cx)(ak:AE)(D:Ends)(f:Flow)(s':Shared):Prop:=match f with| .next=>∃σ' H',aQ X ak σ' H' s'/\D.nx σ' H'| .brk=>∃σ' H',aQ X ak σ' H' s'/\D.bk σ' H'| .cont=>∃σ' H',aQ X ak σ' H' s'/\D.ct σ' H'| .ret u=>∃v σ' H',aQ X ak σ' H' s'/\cD v u/\D.rt v H'
def PE (X:Cx)(e:Expr)(t:TE):Prop:=∀(ak:AE) (s:Shared) (σ:St) (H:Hp) (Q:VK),aQ X ak σ H s->t σ H Q->wpAny (model X.prog X.w) X.A (eval e X.env) (EP X ak σ Q) X.xe s
def PT (X:Cx)(e:Expr)(t:TT):Prop:=∀(ak:AE) (s:Shared) (σ:St) (H:Hp) (Q:Bool->Hp->Prop),aQ X ak σ H s->t σ H Q->wpAny (model X.prog X.w) X.A (isTrue e X.env (eval e X.env)) (TP X ak σ Q) X.xe s
def PW (X:Cx)(e:Expr)(t:TT):Prop:=∀(j:Sem Value) (ak:AE) (s:Shared) (σ:St) (H:Hp) (Q:Bool->Hp->Prop),aQ X ak σ H s->t σ H Q->wpAny (model X.prog X.w) X.A (isTrue e X.env j) (TP X ak σ Q) X.xe s
def PW.pt (h:PW X e t):PT X e t:=h _
def PA (X:Cx)(es:List Expr)(t:TA):Prop:=∀(pos:Pos) (ak:AE) (s:Shared) (σ:St) (H:Hp) (Q:List V->Hp->Prop),aQ X ak σ H s->t σ H Q->wpAny (model X.prog X.w) X.A (spliced (backTo pos (starEach es X.env))) (AP X ak σ Q) X.xe s
def PS (X:Cx)(st:Stmt)(t:TS):Prop:=∀(ak:AE) (s:Shared) (σ:St) (H:Hp) (D:Ends),aQ X ak σ H s->t D σ H->wpAny (model X.prog X.w) X.A (exec st X.env) (SP X ak D) X.xe s
def vL (X:Cx)(st:List Stmt)(t:TS):Prop:=∀(ak:AE) (s:Shared) (σ:St) (H:Hp) (D:Ends),aQ X ak σ H s->t D σ H->wpAny (model X.prog X.w) X.A (execs st X.env) (SP X ak D) X.xe s
def cg {α:Type}{t:Sem α}{Q j:α->Shared->Prop}(h:wpAny M A t Q E s)(D:∀a s,Q a s->j a s):wpAny M A t j E s:=eh h D λ_ _ x=>x
section
variable {X:Cx}
def Wx (i:Nat):TE:=λσ H Q=>∃v,σ[i]?=some (some v)/\Q v H
def tC (v:V):TE:=λ_ H Q=>Q v H
def afn {i:Nat}{x:Str}{pos:Pos}(O:X.N[i]?=some x)(Y:Us X.env.scope x)(hd:(x==("__debug__":Str))=false:=by decide)(G:(x==("__classdict__":Str))=false:=by decide):PE X (.Name x pos) (Wx i):=by
 intro ak s σ H Q I h;let⟨v,e,h⟩:=h;let⟨m,hn,hl⟩:=I.loc;let⟨u,r,l⟩:=hl i x v O e Y;let D:EP X ak σ Q u s:=(JA v H ⟨I,r,h⟩)
 rcases l with⟨F,hm⟩|⟨F,c,J,j⟩;.show mi (wpAny_loadName_local I.ok.kind F hn hm D) hd
 .rcases F with F|F;.show mi (wpAny_loadName_cell I.ok.kind F J j D) hd
  .show mi (wpAny_loadName_free I.ok.kind F J j D G) hd
def afo {i j pos}:PE X (.Constant (.int i) j pos) (tC (.int i)):=λ_ _ _ H _ I h=>wpAny_Constant_int (JA (.int i) H ⟨I.tok _,⟨_,rL⟩,h⟩)
def ahI {b j pos}:PE X (.Constant (.bool b) j pos) (tC (.bl b)):=λ_ _ _ H _ I h=>Constant_bool (JA (.bl b) H ⟨I,rL,h⟩)
def afp {x j pos}:PE X (.Constant (.str x) j pos) (tC (.str x)):=λ_ _ _ H _ I h=>Calls.Constant_str (JA (.str x) H ⟨I.tok _,⟨_,rL⟩,h⟩)
def Gl (X:Cx)(x:Str):Prop:=X.env.kindOf x=some .globalImplicit
def oN {E:AD}{ak:AE}{s:Shared}{σ:St}{H:Hp}{x:Str}{u:Value}{pos:Pos}{Q:AD}(I:aQ X ak σ H s)(j:Gl X x)(hm:X.mg x=some u)(h:Q u s)(hd:(x==("__debug__":Str))=false:=by decide):wpAny (model X.prog X.w) X.A (eval (.Name x pos) X.env) Q E s:=Calls.Name_function_global I.ok.kind j (Calls.loadGlobal_global (by rw[I.ok.glob];show I.mod.glob.keeps I.bk) hm h) hd
def qG {E:AD}{ak:AE}{s:Shared}{σ:St}{H:Hp}{x:Str}{u:Value}{pos:Pos}{Q:AD}(I:aQ X ak σ H s)(j:Gl X x)(hm:X.mg x=none)(D:bootBuiltins x=some u)(h:Q u s)(hn:x≠"__name__":=by decide)(hd:(x==("__debug__":Str))=false:=by decide):wpAny (model X.prog X.w) X.A (eval (.Name x pos) X.env) Q E s:=by let⟨mb,h1,h2⟩:=I.mod.blt;show Calls.Name_function_global I.ok.kind j (Calls.loadGlobal_builtin (by rw[I.ok.glob];show I.mod.glob.keeps I.bk) hm (by rw[I.ok.blt];show h1.keeps I.bk) ((h2 x hn).trans D) h) hd
def adB (j:Gl X x)(hm:X.mg x=some u)(r:cD v u)(hd:(x==("__debug__":Str))=false:=by decide):PE X (.Name x pos) (tC v):=λ_ _ _ H _ I h=>oN I j hm (JA v H ⟨I,r,h⟩) hd
def adC {x:Str}{v:V}{u:Value}{pos:Pos}(j:Gl X x)(hm:X.mg x=none)(D:bootBuiltins x=some u)(r:cD v u)(hn:x≠"__name__":=by decide)(hd:(x==("__debug__":Str))=false:=by decide):PE X (.Name x pos) (tC v):=λ_ _ _ H _ I h=>qG I j hm D (JA v H ⟨I,r,h⟩) hn hd
variable {a b:Expr}{ta tb:TE}{pos:Pos}
def PC (X:Cx)(op:CmpOp)(a b:Expr)(t:TE):Prop:=∀(ak:AE) (s:Shared) (σ:St) (H:Hp) (Q:VK),aQ X ak σ H s->t σ H Q->
  wpAny (model X.prog X.w) X.A (eval a X.env) (λv D=>wpAny (model X.prog X.w) X.A (eval b X.env) (λu j=>wpAny (model X.prog X.w) X.A (compareOp op v u) (EP X ak σ Q) X.xe j) X.xe D) X.xe s
def tB (t:TE):TT:=λσ H Q=>t σ H λx H1=>∃c,x=.bl c/\Q c H1
def afq (h:PC X op a b t)(h1:behindInMarks op b=false:=by first|show aa9 _ pj pj|rfl):PE X (.Compare a [op] [b] pos) t:=λak s σ H Q I hw=>wpAny_Compare1 (h ak s σ H Q I hw) h1
def afr (h:PE X e t)(G:∀j,isTrue e X.env j=(do let v <- j;standAt e.pos;holding [v] (truthy v)):=by intro _;rfl):PT X e (tB t):=by intro ak s σ H Q I hw;calc isTrue_plain (cg (h ak s σ H _ I hw) λv s1 F=>?_) (G _);let⟨x,H1,D,r1,q1⟩:=F;let⟨d,rfl,q⟩:=q1;cases r1;show eJ ⟨H1,D,q⟩
variable {tA pG:TT}{rest:List Expr}
def afs (t u:TT):TT:=λσ H Q=>t σ H λc H1=>if c=true then u σ H1 Q else Q false H1
def tOr (t u:TT):TT:=λσ H Q=>t σ H λc H1=>if c=true then Q true H1 else u σ H1 Q
def aft (t:TT):TT:=λσ H Q=>t σ H λc H1=>Q (!c) H1
def adD (ha:PT X a tA):PW X (.BoolOp .And [a] pos) tA:=by
 intro j ak s σ H Q I h;calc isTrue_and (cg (ha ak s σ H Q I h) λc s1 e=>?_);cases c with| true=>show isTrue_and_nil e| false=>show e
def afu (ha:PT X a tA):PW X (.BoolOp .Or [a] pos) tA:=by
 intro j ak s σ H Q I h;calc isTrue_or (cg (ha ak s σ H Q I h) λc s1 e=>?_);cases c with| false=>show isTrue_or_nil e| true=>show e
def afv (ha:PT X a tA)(hb:PW X (.BoolOp .And (b::rest) pos) pG):PW X (.BoolOp .And (a::b::rest) pos) (afs tA pG):=by
 intro F ak s σ H Q I h;calc isTrue_and (cg (ha ak s σ H _ I h) λc s1 D=>?_);let⟨H1,j,q1⟩:=D;cases c with| true=>show hb F ak s1 σ H1 Q j q1| false=>show⟨H1,j,q1⟩
def ahJ (ha:PT X a tA)(hb:PW X (.BoolOp .Or (b::rest) pos) pG):PW X (.BoolOp .Or (a::b::rest) pos) (tOr tA pG):=by
 intro F ak s σ H Q I h;calc isTrue_or (cg (ha ak s σ H _ I h) λc s1 D=>?_);let⟨H1,j,q1⟩:=D;cases c with| true=>show⟨H1,j,q1⟩| false=>show hb F ak s1 σ H1 Q j q1
def afw (ha:PT X a tA):PT X (.UnaryOp .Not a pos) (aft tA):=by intro ak s σ H Q I h;show isTrue_not (ha ak s σ H (λc H1=>Q (!c) H1) I h)
def acZ (ta tb:TE):TE:=λσ H Q=>ta σ H λx H1=>∃c,x=.bl c/\if c=true then tb σ H1 Q else Q (.bl false) H1
def afx (ta tb:TE):TE:=λσ H Q=>ta σ H λx H1=>∃c,x=.bl c/\if c=true then Q (.bl true) H1 else tb σ H1 Q
def ac0 (ta:TE):TE:=λσ H Q=>ta σ H λx H1=>∃c,x=.bl c/\Q (.bl (!c)) H1
def afy {op}(h:PE X a t):PE X (.BoolOp op [a] pos) t:=λak s σ H Q I hw=>BoolOp_one (h ak s σ H Q I hw)
def afz (ha:PE X a ta)(hb:PE X (.BoolOp .And (b::rest) pos) tb):PE X (.BoolOp .And (a::b::rest) pos) (acZ ta tb):=by
 intro ak s σ H Q I h;calc BoolOp_and (cg (ha ak s σ H _ I h) λv s1 D=>?_);let⟨x,H1,j,r1,q1⟩:=D;let⟨c,rfl,q1⟩:=q1;cases r1;calc eJ ?_;cases c with| true=>show hb ak s1 σ H1 Q j q1| false=>show JA (.bl false) H1 ⟨j,rL,q1⟩
def ahK (ha:PE X a ta)(hb:PE X (.BoolOp .Or (b::rest) pos) tb):PE X (.BoolOp .Or (a::b::rest) pos) (afx ta tb):=by
 intro ak s σ H Q I h;calc BoolOp_or (cg (ha ak s σ H _ I h) λv s1 D=>?_);let⟨x,H1,j,r1,q1⟩:=D;let⟨c,rfl,q1⟩:=q1;cases r1;calc eJ ?_;cases c with| false=>show hb ak s1 σ H1 Q j q1| true=>show JA (.bl true) H1 ⟨j,rL,q1⟩
def afA (ha:PE X a ta):PE X (.UnaryOp .Not a pos) (ac0 ta):=by intro ak s σ H Q I h;calc UnaryOp_ (cg (ha ak s σ H _ I h) λv s1 D=>?_);let⟨x,H1,j,r1,q1⟩:=D;let⟨c,rfl,q1⟩:=q1;cases r1;show not_of (eJ (JA (.bl (!c)) H1 ⟨j,rL,q1⟩))
def tIf (t:TT)(ta tb:TE):TE:=λσ H Q=>t σ H λc H1=>if c=true then ta σ H1 Q else tb σ H1 Q
def aa_ (F:PT X c tA)(ha:PE X a ta)(hb:PE X b tb):PE X (.IfExp c a b pos) (tIf tA ta tb):=by
 intro ak s σ H Q I h;calc wpAny_IfExp (cg (F ak s σ H _ I h) λd s1 D=>?_);let⟨H1,j,q1⟩:=D;cases d with| true=>show ha ak s1 σ H1 Q j q1| false=>show hb ak s1 σ H1 Q j q1
end
def bB (K:W.Frag)(H:Hp)(a:Addr)(xs:List V):Prop:=Rd H a (.lst xs)\/
  ∃(o:Obj) (its:Array Value) (n:Nat),K.lookup a=some o/\o.cls=.type "list"/\o.dict=none/\o.data=.seq its n/\its.size<=sizeLine/\Vals xs its.toList
def aO (K:W.Frag)(H:Hp)(a:Addr)(xs:List V):Prop:=Rd H a (.tup xs)\/
  ∃(o:Obj) (its:Array Value) (n:Nat),K.lookup a=some o/\o.cls=.type "tuple"/\o.data=.seq its n/\its.size<=sizeLine/\Vals xs its.toList
noncomputable def aiD:Value->Option V
 | .none=>some .non
 | .bool b=>some (.bl b)
 | .int i _=>some (.int i)
 | .str x _=>some (.str x)
 | .bytes b _=>some (.Bk b)
 | .float b _=>some (.flt b)
 | .ref a=>some (.ref a)
 | .type n=>some (.ty n)
 | _=>none
def cD.abs (r:cD x u):aiD u=some x:=by
 cases x with
 | non=>cases r;rfl
 | bl _=>cases r;rfl
 | int _=>let⟨t,rfl⟩:=r;rfl
 | str _=>let⟨t,rfl⟩:=r;rfl
 | Bk _=>let⟨t,rfl⟩:=r;rfl
 | flt _=>let⟨t,rfl⟩:=r;rfl
 | ref _=>cases r;rfl
 | ty _=>cases r;rfl
def cD.inj (r:cD x u)(q:cD y u):x=y:=bp (r.abs.symm.trans q.abs)
theorem Vals.inj:∀{xs ys:List V} {us:List Value},Vals xs us->Vals ys us->xs=ys
 | _,_,_,.nil,.nil=>rfl
 | _,_,_,.cons r t,.cons r' t'=>by rw[r.inj r',Vals.inj t t']
section
variable {X:Cx}{ak:AE}{σ:St}{H:Hp}{s:Shared}{a:Addr}{xs ys:List V}
def bB.of {K:W.Frag}(h:H a=some (.lst xs)):bB K H a xs:=.inl (.inl h)
def aO.of {K:W.Frag}(h:H a=some (.tup xs)):aO K H a xs:=.inl (.inl h)
def aQ.list (I:aQ X ak σ H s)(h:bB X.K H a xs):∃its:List Value,Vals xs its/\PlainL s.heap a its.toArray/\xs.length<=sizeLine:=by
 rcases h with h|⟨o,its,n,j,D,hd,hs,hz,r⟩
 .let⟨z,its,n,r,e⟩:=h.ok I.hok;show⟨its,r,(JA _ n ⟨e,rL,rL,rL⟩),z⟩
 .calc⟨its.toList,r,(JA o n ⟨I.iY a o j,D,hd,by simpa using hs⟩),?_⟩;let e:=r.length;simp only[fm]at e;lia
def aQ.tuple (I:aQ X ak σ H s)(h:aO X.K H a xs):∃its:List Value,Vals xs its/\IsTup s.heap a its.toArray/\xs.length<=sizeLine:=by
 rcases h with h|⟨o,its,n,j,D,hs,hz,r⟩
 .let⟨z,its,r,p⟩:=h.ok I.hok;show⟨its,r,p,z⟩
 .calc⟨its.toList,r,⟨o,I.iY a o j,D,n,by simpa using hs⟩,?_⟩;let e:=r.length;simp only[fm]at e;lia
def aQ.Gk (I:aQ X ak σ H s)(h:bB X.K H a xs)(h':bB X.K H a ys):xs=ys:=by
 obtain⟨its,r,⟨o,n,e,_,_,d⟩,_⟩:=I.list h;obtain⟨its',D,⟨o',F,j,_,_,d'⟩,_⟩:=I.list h';rw[e]at j;cases j;rw[d]at d';injection d' with d1 _;have:its=its':=by simpa using congrArg Array.toList d1
 subst this;show r.inj D
def aQ.YK (I:aQ X ak σ H s)(h:aO X.K H a xs)(h':aO X.K H a ys):xs=ys:=by
 obtain⟨its,r,⟨o,e,_,n,d⟩,_⟩:=I.tuple h;obtain⟨its',D,⟨o',j,_,F,d'⟩,_⟩:=I.tuple h';rw[e]at j;cases j;rw[d]at d';injection d' with d1 _;have:its=its':=by simpa using congrArg Array.toList d1
 subst this;show r.inj D
end
abbrev Cx.wish (X:Cx)(E:AD):Cx:={X with xe:=E}
abbrev Cx.Ph (X:Cx):Cx:=X.wish λ_ _=>False
def Cx.Ok.wish {X:Cx}(ok:X.Ok)(E:AD):(X.wish E).Ok:=⟨ok.mod,ok.kind,ok.glob,ok.blt,ok.above,ok.inj,ok.has,ok.cab,ok.hd,ok.frames,ok.stk,ok.YG,ok.bs,ok.Bl,ok.BJ,ok.Gj,ok.o_,ok.BL⟩
def Cx.Ok.uf {X:Cx}(ok:(X.wish E).Ok):X.Ok:=⟨ok.mod,ok.kind,ok.glob,ok.blt,ok.above,ok.inj,ok.has,ok.cab,ok.hd,ok.frames,ok.stk,ok.YG,ok.bs,ok.Bl,ok.BJ,ok.Gj,ok.o_,ok.BL⟩
section
variable {X:Cx}{ak:AE}{σ:St}{H:Hp}{s:Shared}{E:AD}
def aQ.wish (I:aQ X ak σ H s)(E:AD):aQ (X.wish E) ak σ H s:=⟨I.ok.wish E,I.os,I.bare,I.base,I.loc,I.cell,I.free,I.mX,I.pin,I.hok,I.len⟩
def aQ.uf (I:aQ (X.wish E) ak σ H s):aQ X ak σ H s:=⟨I.ok.uf,I.os,I.bare,I.base,I.loc,I.cell,I.free,I.mX,I.pin,I.hok,I.len⟩
def SP.uf (h:SP (X.wish E) ak D f s'):SP X ak D f s':=by
 cases f with
 | next=>let⟨σ',H',I,q⟩:=h;show JA σ' H' ⟨I.uf,q⟩
 | brk=>let⟨σ',H',I,q⟩:=h;show JA σ' H' ⟨I.uf,q⟩
 | cont=>let⟨σ',H',I,q⟩:=h;show JA σ' H' ⟨I.uf,q⟩
 | ret u=>let⟨v,σ',H',I,r,q⟩:=h;show JE v σ' H' ⟨I.uf,r,q⟩
def vL.Ph {st:List Stmt}(h:vL X.Ph st t):vL X st t:=λak s σ H D I hw=>eh (h ak s σ H D (I.wish _) hw) (λ_ _ q=>q.uf) λ_ _ z=>False.elim z
end
section
variable {X:Cx}{st:Stmt}{rest:List Stmt}{t u:TS}{e:Expr}{te:TE}{pos:Pos}
def ac1:TS:=λD σ H=>D.nx σ H
def afB (t u:TS):TS:=λD σ H=>t {D with nx:=u D} σ H
def adE:vL X [] ac1:=λ_ _ σ H _ I h=>wpAny_execs_nil (JA σ H ⟨I,h⟩)
def abb (h1:PS X st t)(h2:vL X rest u):vL X (st::rest) (afB t u):=by
 intro ak s σ H D I h;calc wpAny_execs_cons (cg (h1 ak s σ H {D with nx:=u D} I h) λf s1 q=>?_);cases f with
 | next=>let⟨σ',H',j,q⟩:=q;show h2 ak s1 σ' H' D j q
 | ret v=>show q
 | brk=>show q
 | cont=>show q
def adF (h1:PS X st t):vL X [st] t:=by
 intro ak s σ H D I h;calc wpAny_execs_cons (cg (h1 ak s σ H D I h) λf s1 q=>?_);cases f with| next=>show wpAny_execs_nil q| ret v=>show q| brk=>show q| cont=>show q
def aQ.quiet {ak:AE}{σ:St}{H:Hp}{s:Shared}(I:aQ X ak σ H s):interactive X.env=false:=by simp[interactive,I.ok.kind]
def ac2 (te:TE):TS:=λD σ H=>te σ H λ_ H1=>D.nx σ H1
def adG (j:PE X e te)(hs:swapsWith e none pos.line X.env=pure false:=by rfl):PS X (.Expr e pos) (ac2 te):=by intro ak s σ H D I h;show wpAny_Expr_any (cg (j ak s σ H _ I h) λv s1 ⟨x,H1,F,r1,q1⟩=>(JA σ H1 ⟨F,q1⟩)) I.quiet hs
def afC (te:TE):TS:=λD σ H=>te σ H D.rt
def afD (j:PE X e te):PS X (.Return (some e) pos) (afC te):=by intro ak s σ H D I h;show wpAny_Return_some (cg (j ak s σ H _ I h) λv s1 ⟨x,H1,F,r1,q1⟩=>(JE x σ H1 ⟨F,r1,q1⟩))
def afE (c:TT)(t u:TS):TS:=λD σ H=>c σ H λb H1=>if b=true then t D σ H1 else u D σ H1
def ahL (G:PT X c tc)(ha:vL X a t)(hb:vL X b u):PS X (.If c a b pos) (afE tc t u):=by
 intro ak s σ H D I h;calc wpAny_If (cg (G ak s σ H _ I h) λd s1 F=>?_);let⟨H1,j,q1⟩:=F;cases d with| true=>show ha ak s1 σ H1 D j q1| false=>show hb ak s1 σ H1 D j q1
def YL:TS:=λ_ _ _=>False
def YM:vL X sts YL:=λ_ _ _ _ _ _ h=>h.elim
end
abbrev TG:=V->St->Hp->(St->Hp->Prop)->Prop
abbrev LC:=List V->St->Hp->(St->Hp->Prop)->Prop
def PG (X:Cx)(j:Expr)(t:TG):Prop:=∀(ak:AE) (s:Shared) (σ:St) (H:Hp) (v:V) (u:Value) (Q:St->Hp->Prop),aQ X ak σ H s->cD v u->t v σ H Q->
  wpAny (model X.prog X.w) X.A (assign j X.env u) (λ_ s'=>∃σ' H',aQ X ak σ' H' s'/\Q σ' H') X.xe s
def YQ (X:Cx)(ts:List Expr)(t:LC):Prop:=∀(ak:AE) (s:Shared) (σ:St) (H:Hp) (vs:List V) (us:List Value) (Q:St->Hp->Prop),aQ X ak σ H s->Vals vs us->t vs σ H Q->
  wpAny (model X.prog X.w) X.A (assignInOrder ((assignEach ts X.env).map (·.2)) us) (λ_ s'=>∃σ' H',aQ X ak σ' H' s'/\Q σ' H') X.xe s
abbrev afF:=V->V->V->Hp->(Hp->Prop)->Prop
def abd (X:Cx)(t:afF):Prop:=∀(ak:AE) (s:Shared) (σ:St) (H:Hp) (o i v:V) (ov j u:Value) (Q:Hp->Prop),aQ X ak σ H s->cD o ov->cD i j->cD v u->t o i v H Q->
  wpAny (model X.prog X.w) X.A (setItem ov j u) (λ_ s'=>∃H',aQ X ak σ H' s'/\Q H') X.xe s
section
variable {X:Cx}{pos:Pos}
def qH (i:Nat):TG:=λv σ H Q=>Q (σ.set i (some v)) H
def rO (j:X.N.Nodup)(hi:X.N[i]?=some x)(hx:Loc X.env.scope x)(F:X.fn x=true\/X.env.scope.names.lookup x=some .local:=by first|show .inl rfl|show .inr rfl|assumption):PG X (.Name x pos) (qH i):=by intro ak s σ H v u Q I r h;show wpAny_assign_Name (Pg I j hi hx r (λs' D=>(JA _ H ⟨D,h⟩)) F)
def Wy:LC:=λvs σ H Q=>vs=[]/\Q σ H
def zJ (t:TG)(u:LC):LC:=λvs σ H Q=>∃v r,vs=v::r/\t v σ H λσ' H'=>u r σ' H' Q
def J1:YQ X [] Wy:=by intro ak s σ H vs us Q I r h;let⟨e,h⟩:=h;subst e;cases r;show assignInOrder_nil (JA σ H ⟨I,h⟩)
def rP (h1:PG X e t)(h2:YQ X es u)(hs:(assignEach (e::es) X.env).map (·.2)=assign e X.env::(assignEach es X.env).map (·.2):=by rfl):YQ X (e::es) (zJ t u):=by
 intro ak s σ H vs us Q I r h;let⟨v,F,e1,h⟩:=h;subst e1;cases r with| cons r rr=>rw[hs];calc assignInOrder_cons (cg (h1 ak s σ H _ _ _ I r h) λ_ s1 D=>?_);let⟨σ1,H1,j,q1⟩:=D;show h2 ak s1 σ1 H1 _ _ Q j rr q1
def Wz (K:W.Frag)(n:Nat)(t:LC):TG:=λv σ H Q=>∃a xs,v=.ref a/\aO K H a xs/\xs.length=n/\t xs σ H Q
def Pj {es:List Expr}{k:Nat}{t:LC}{n:Nat}(J:X.calm=true)(h:YQ X es t)(hn:(assignEach es X.env).length=n:=by rfl)(j:(assignEach es X.env).findIdx? (·.1)=none:=by rfl):PG X (.Tuple es k pos) (Wz X.K n t):=by intro ak s σ H v u Q I r hw;let⟨a,xs,e1,G,hl,hw⟩:=hw;subst e1;cases r;let⟨its,D,ht,hz⟩:=I.tuple G;calc assign_Tuple_tuple (I.ok.hd J) ht (by simp[hn,<-hl,D.length]) j λh' hx=>?_;let F:aQ X ak σ H {s with heap:=h' }:=I.kept (t':=s.toks) λb o e=>hx b o (cq (aE e)) e;show h ak _ σ H xs _ Q F (by simpa using D) hw
def afG (to ti:TE)(t:afF):TG:=λv σ H Q=>to σ H λo H1=>ti σ H1 λi j=>t o i v j λD=>Q σ D
def afH (Y:PE X o to)(hi:PE X i ti)(hs:abd X t)(ha:∀v,assign (.Subscript o i pos) X.env v=(do
   let ov <- holding [v] (eval o X.env)
   let D <- holding [v,ov] (eval i X.env)
   standAt pos
   holding [v,ov,D] (setItem ov D v)
   release [v,ov,D] []):=by intro _;rfl):PG X (.Subscript o i pos) (afG to ti t):=by
 intro ak s σ H v u Q I r h;rw[ha];calc ae (hV (cg (Y ak s σ H _ I h) λov s1 j=>?_));let⟨x,H1,F,r1,q1⟩:=j;calc ae (hV (cg (hi ak s1 σ H1 _ F q1) λD s2 j=>?_));let⟨y,J,O,r2,q2⟩:=j;calc ae (lP (ae (hV (cg (hs ak s2 σ J x y v ov D u _ O r1 r2 r q2) λ_ s3 j=>?_))));let⟨G,Z,q3⟩:=j;show wpAny_release (JA σ G ⟨Z,q3⟩)
def J2 (te:TE)(g:TG):TS:=λD σ H=>te σ H λx H1=>g x σ H1 D.nx
def afI (J:PE X e te)(G:PG X tg g)(hs:swapsWithSole [tg] e pos.line X.env=pure false:=by rfl)(hw:swappedStores [tg] e X.env=pure none:=by rfl)(h1:(assignEach [tg] X.env).map (·.2)=[assign tg X.env]:=by rfl):PS X (.Assign [tg] e pos) (J2 te g):=by intro ak s σ H D I h;calc wpAny_Assign_stores (cg (J ak s σ H _ I h) λv s1 F=>?_) hs hw;let⟨x,H1,j,r1,q1⟩:=F;rw[h1];show cg (G ak s1 σ H1 x v _ j r1 q1) λ_ s2 q=>q
def afJ (j:X.N.Nodup)(hi:X.N[i]?=some x)(hx:Loc X.env.scope x)(O:PE X e te)(hs:swapsWith e (some (.Name x pos')) pos.line X.env=pure false:=by rfl)(Y:X.fn x=true\/X.env.scope.names.lookup x=some .local:=by first|show .inl rfl|show .inr rfl|assumption):PS X (.Assign [.Name x pos'] e pos) (J2 te (qH i)):=by intro ak s σ H D I h;calc wpAny_Assign_Name (cg (O ak s σ H _ I h) λv s1 G=>?_) hs;let⟨y,H1,F,r1,q1⟩:=G;show Pg F j hi hx r1 (λs2 J=>(JA _ H1 ⟨J,q1⟩)) Y
end
structure It where
 go:Nat->Hp->Prop
 Ia:Nat->Hp->V->Hp->Prop
 stop:Nat->Hp->Prop
def uE (X:Cx)(ak:AE)(H:Hp)(b:Addr):Prop:=H b=none/\b≠X.env.locals/\b∉X.fs/\(b∈X.ex\/X.s₀.heap.objs.size<=b)/\(∀x c,X.env.cells.lookup x=some c->c≠b)/\∀p∈X.pn++ak,p.1≠b
def aQ.xX {X:Cx}{ak:AE}{σ:St}{H H':Hp}{s:Shared}{b:Addr}(I:aQ X ak σ H s)(hb:s.heap.objs.size<=b)(hn:H' b=none):uE X ak H' b:=by
 refine⟨hn,jp (cS I.lt hb),I.aiB hb,.inr (bP I.sz hb),λx c e z=>?_,λp hp z=>?_⟩
 .let⟨v,q⟩:=I.cell x c e;show absurd (cS q.lt (by rw[z];show hb)) (fg _)
 .show absurd (cS (aE (I.pin p hp).1) (by rw[z];show hb)) (fg _)
structure Turn (P:Program)(w:World)(K:W.Frag)(tg:Expr)(J:It)(fp:List Addr)(it:Addr)(tn:Nat->Heap->Prop):Prop where
 mem:it∈fp
 obj:∀i h,tn i h->∀b∈fp,∃o,h.get? b=some o/\∀v,o.data≠.cell v
 keep:∀i h h',tn i h->(∀b∈fp,∀o,h.get? b=some o->h'.get? b=some o)->tn i h'
 item:∀(X:Cx),X.prog=P->X.w=w->X.K=K->X.calm=true->∀(i:Nat) (ak:AE) (s:Shared) (σ:St) (H:Hp) (E:AD),aQ X ak σ H s->(∀b∈fp,uE X ak H b)->tn i s.heap->J.go i H->
  wpAny (model P w) X.A (pyNext (.ref it)) (λr s1=>∃u,r=some u/\
   wpAny (model P w) X.A (letOwnedTupleGo tg (.ref it) u) (λ_ s2=>∃x H',aQ X ak σ H' s2/\cD x u/\J.Ia i H x H'/\tn (i+1) s2.heap/\∀b∈fp,H' b=none) E s1) E s
 done:∀(X:Cx),X.prog=P->X.w=w->X.K=K->X.calm=true->∀(i:Nat) (ak:AE) (s:Shared) (σ:St) (H:Hp) (E:AD),aQ X ak σ H s->(∀b∈fp,uE X ak H b)->tn i s.heap->J.stop i H->
  wpAny (model P w) X.A (pyNext (.ref it)) (λr s1=>r=none/\aQ X ak σ H s1) E s
 self:∀(A:Around) (i:Nat) (s:Shared) (Q:AD) (E:AD),tn i s.heap->Q (.ref it) s->wpAny (model P w) A (pyIter (.ref it)) Q E s
abbrev TI:=St->Hp->(It->Hp->Prop)->Prop
def PIE (X:Cx)(ak:AE)(σ:St)(tg:Expr)(R:It->Hp->Prop)(j:Value)(s2:Shared):Prop:=∃(it:Addr) (fp:List Addr) (tn:Nat->Heap->Prop) (J:It) (H':Hp),j=.ref it/\aQ X ak σ H' s2/\Turn X.prog X.w X.K tg J fp it tn/\tn 0 s2.heap/\(∀b∈fp,uE X ak H' b)/\R J H'
def PI (X:Cx)(tg iter:Expr)(wi:TI):Prop:=∀(ak:AE) (s:Shared) (σ:St) (H:Hp) (R:It->Hp->Prop),aQ X ak σ H s->wi σ H R->
  wpAny (model X.prog X.w) X.A (eval iter X.env) (λv s1=>wpAny (model X.prog X.w) X.A (pyIter v) (PIE X ak σ tg R) X.xe s1) X.xe s
def Ib {s : Shared}(D : s.heap.get? it = some o)(F : o.cls = .type n)(hd : o.data = .fields vs)(hn : ["enumerate", "zip", "dict_itemiterator", "dict_reverseitemiterator", "odict_iterator", "itertools.zip_longest", "itertools.pairwise"].contains n = false)(j : Q () s) : wpAny M A (letOwnedTupleGo tg (.ref it) u) Q E s := by
  unfold letOwnedTupleGo;cases tg <;> first
    | show aw j
    | (cases u <;> first
        | show aw j
        | (refine ae (wpAny_load D ?_)
           rw[F, hd];show wpAny M A (if (["enumerate", "zip", "dict_itemiterator", "dict_reverseitemiterator", "odict_iterator", "itertools.zip_longest", "itertools.pairwise"].contains n&&vs[0]? == some (rawInt _)) = true then _ else _) Q E s;rw[if_neg (by intro h; rw[hn, mP]at h; cases h)];show aw j))
abbrev ItS (Sq:Hp->List V->Prop):It:=⟨λi H=>∃xs x,Sq H xs/\xs[i]?=some x,λi H x H'=>H'=H/\∀xs,Sq H xs->xs[i]?=some x,λi H=>∃xs,Sq H xs/\xs.length<=i⟩
def Itl (K:W.Frag)(a:Addr):It:=ItS λH=>bB K H a
def Itt (K:W.Frag)(a:Addr):It:=ItS λH=>aO K H a
def YS (lo:Int)(n:Nat):It:=⟨λi _=>i<n,λi H x H'=>H'=H/\x=.int (lo+i),λi _=>n<=i⟩
def YT {P:Program}{w:World}{K:W.Frag}{tg:Expr}(a it:Addr):Turn P w K tg (Itl K a) [it] it (λi h=>h.IsListIter it a i) where
 mem:=by simp
 obj:=λi h st b hb=>by
  let e:b=it:=by simpa using hb
  subst e;let⟨o,e,c,d⟩:=st;show⟨o,e,λv z=>by rw[d]at z;cases z⟩
 keep:=λi h h' st k=>st.at λo e=>k it pi o e
 item:=by intro X Y hw O Z i ak s σ H E I F st J;subst Y hw O;let⟨xs,x,D,hx⟩:=J;let⟨its,G,p,hz⟩:=I.list D;let⟨u,hu,ru⟩:=G.get hx;let⟨f0,f1,f2,f3,f4,f5⟩:=F it pi;calc wpAny_pyNext_list_item st p.isList (x:=u) (by simpa using hu) λh' j sb=>?_;let I1:aQ X ak σ H {s with heap:=h' }:=I.turned (t':=s.toks) (λb o hb e=>(sb.2 b hb).trans e) f0 f1 f3 f4 f5;let⟨o,e,c,d⟩:=id j;show⟨u,rL,Ib (s:={s with heap:=h' }) e c d pj (JA x H ⟨I1,ru,⟨rL,λys hy=>by rw[I.Gk hy D];show hx⟩,j,λb hb=>(F b hb).1⟩)⟩
 done:=by intro X Y hw O Z i ak s σ H E I F st J;subst Y hw O;let⟨xs,D,hx⟩:=J;let⟨its,G,p,hz⟩:=I.list D;let⟨f0,f1,f2,f3,f4,f5⟩:=F it pi;let hl:=G.length;show wpAny_pyNext_list_end (I.ok.hd Z) st p.isList (by simp;simp_all) λh' eb=>⟨rL,I.turned (t':=s.toks) (λb o hb e=>eb b o hb e) f0 f1 f3 f4 f5⟩
 self:=λ_ _ _ _ _ st h=>wpAny_pyIter_listiter st h
def WK {P:Program}{w:World}{K:W.Frag}{tg:Expr}(a it:Addr):Turn P w K tg (Itt K a) [it] it (λi h=>h.IsTupleIter it a i) where
 mem:=by simp
 obj:=λi h st b hb=>by
  let e:b=it:=by simpa using hb
  subst e;let⟨o,e,c,d⟩:=st;show⟨o,e,λv z=>by rw[d]at z;cases z⟩
 keep:=λi h h' st k=>st.at λo e=>k it pi o e
 item:=by intro X Y hw O Z i ak s σ H E I F st J;subst Y hw O;let⟨xs,x,D,hx⟩:=J;let⟨its,G,p,hz⟩:=I.tuple D;let⟨u,hu,ru⟩:=G.get hx;let⟨f0,f1,f2,f3,f4,f5⟩:=F it pi;calc wpAny_pyNext_tuple_item st (show s.heap.IsTuple a its.toArray from p) (x:=u) (by simpa using hu) λh' j sb=>?_;let I1:aQ X ak σ H {s with heap:=h' }:=I.turned (t':=s.toks) (λb o hb e=>(sb.2 b hb).trans e) f0 f1 f3 f4 f5;let⟨o,e,c,d⟩:=id j;show⟨u,rL,Ib (s:={s with heap:=h' }) e c d pj (JA x H ⟨I1,ru,⟨rL,λys hy=>by rw[I.YK hy D];show hx⟩,j,λb hb=>(F b hb).1⟩)⟩
 done:=by intro X Y hw O Z i ak s σ H E I F st J;subst Y hw O;let⟨xs,D,hx⟩:=J;let⟨its,G,p,hz⟩:=I.tuple D;let⟨f0,f1,f2,f3,f4,f5⟩:=F it pi;let hl:=G.length;show wpAny_pyNext_tuple_end (I.ok.hd Z) st (show s.heap.IsTuple a its.toArray from p) (by simp;lia) λh' eb=>⟨rL,I.turned (t':=s.toks) (λb o hb e=>eb b o hb e) f0 f1 f3 f4 f5⟩
 self:=λ_ _ _ _ _ st h=>wpAny_pyIter_tupleiter st h
def WL {P:Program}{w:World}{K:W.Frag}{tg:Expr}(it:Addr)(lo:Int)(n:Nat):Turn P w K tg (YS lo n) [it] it (λi h=>IsRangeIter h it (lo+(i:Nat)*1) ((n:Int)-(i:Nat)) 1) where
 mem:=by simp
 obj:=λi h st b hb=>by
  let e:b=it:=by simpa using hb
  subst e;show⟨_,st,λv z=>by let z':Data.fields _=Data.cell v:=z;cases z'⟩
 keep:=λi h h' st k=>k it pi _ st
 item:=by intro X J hw G O i ak s σ H E I D st F;subst J hw G;let⟨f0,f1,f2,f3,f4,f5⟩:=D it pi;let W:=Walks.range (prog:=X.prog) (w:=X.w) (I.ok.hd O) it lo 1 n;calc W.item i s _ _ F st λv h' tk hv j Z=>?_;let⟨t,rfl⟩:=hv;let Y:aQ X ak σ H {s with heap:=h',toks:=tk}:=I.turned (λb o hb e=>Z b o (by simpa using hb) e) f0 f1 f3 f4 f5;calc⟨_,rL,Ib (s:={s with heap:=h',toks:=tk}) (n:="range_iterator") j rL rL pj (JA (.int (lo+i)) H ⟨Y,⟨t,?_⟩,⟨rL,rL⟩,j,λb hb=>(D b hb).1⟩)⟩;rw[Int.mul_one]
 done:=by intro X J hw G O i ak s σ H E I D st F;subst J hw G;let⟨f0,f1,f2,f3,f4,f5⟩:=D it pi;show wpAny_pyNext_range_end (I.ok.hd O) st (by have:n<=i:=F;lia) λh' eb=>⟨rL,I.turned (t':=s.toks) (λb o hb e=>eb b o hb e) f0 f1 f3 f4 f5⟩
 self:=λ_ _ _ _ _ st h=>wpAny_pyIter_rangeiter st h
section
variable {X:Cx}{tg:Expr}
def ac3 (K:W.Frag)(tl:TE):TI:=λσ H R=>tl σ H λx H1=>∃a,x=.ref a/\(∃xs,bB K H1 a xs)/\R (Itl K a) H1
def afK (K:W.Frag)(tl:TE):TI:=λσ H R=>tl σ H λx H1=>∃a,x=.ref a/\(∃xs,aO K H1 a xs)/\R (Itt K a) H1
def adH (hl:PE X l tl):PI X tg l (ac3 X.K tl):=by
 intro ak s σ H R I h;calc cg (hl ak s σ H _ I h) λv s1 D=>?_;let⟨x,H1,j,r1,q1⟩:=D;obtain⟨a,e,⟨xs,F⟩,q⟩:=q1;subst e;cases r1;let⟨its,G,p,hz⟩:=j.list F;calc ia p.isList ?_;calc JJ s1.heap.objs.size [s1.heap.objs.size] _ _ H1 ⟨rL,j.kept (t':=s1.toks) λb o e=>af _ e,YT a _,⟨_,a_ _ rL,rL,rL⟩,λb hb=>?_,q⟩;let e:b=s1.heap.objs.size:=by simpa using hb
 subst e;show j.xX (ai _) (j.hok.fresh (ai _))
def afL (hl:PE X l tl):PI X tg l (afK X.K tl):=by
 intro ak s σ H R I h;calc cg (hl ak s σ H _ I h) λv s1 D=>?_;let⟨x,H1,j,r1,q1⟩:=D;obtain⟨a,e,⟨xs,F⟩,q⟩:=q1;subst e;cases r1;let⟨its,G,p,hz⟩:=j.tuple F;calc wpAny_pyIter_tuple (show s1.heap.IsTuple a its.toArray from p) ?_;calc JJ s1.heap.objs.size [s1.heap.objs.size] _ _ H1 ⟨rL,j.kept (t':=s1.toks) λb o e=>af _ e,WK a _,⟨_,a_ _ rL,rL,rL⟩,λb hb=>?_,q⟩;let e:b=s1.heap.objs.size:=by simpa using hb
 subst e;show j.xX (ai _) (j.hok.fresh (ai _))
def Pk {ak:AE}{σ:St}{H:Hp}{s:Shared}{R:It->Hp->Prop}{E:AD}{lo hi:Int}{t u v:Tok}{tk:Nat}(I:aQ X ak σ H s)(h1:-(2^62)<=lo)(h2:lo<2^62)(h3:-(2^62)<=hi)(h4:hi<2^62)(q:R (YS lo (hi-lo).toNat) H):wpAny (model X.prog X.w) X.A (pyIter (.ref s.heap.objs.size)) (PIE X ak σ tg R) E {s with heap:=s.heap.push {cls:=.type "range",data:=.fields #[.int lo t,.int hi u,.int 1 v]},toks:=tk}:=by
 calc nc (IsRange.new ..) (small_one h1 h2 h3 h4) ?_;let j:aQ X ak σ H {s with heap:=s.heap.push {cls:=.type "range",data:=.fields #[.int lo t,.int hi u,.int 1 v]},toks:=tk}:=I.kept λb o e=>af _ e;refine JJ ((s.heap.push {cls:=.type "range",data:=.fields #[.int lo t,.int hi u,.int 1 v]}).objs.size) [(s.heap.push {cls:=.type "range",data:=.fields #[.int lo t,.int hi u,.int 1 v]}).objs.size] _ _ H ⟨rL,
  j.kept (t':=tk) λb o e=>af _ e,WL _ lo (hi-lo).toNat,?_,λb hb=>?_,q⟩
 .let e1:lo+((0:Nat):Int)*1=lo:=pi;let e2:(((hi-lo).toNat:Nat):Int)-((0:Nat):Int)=Builtin.Range.rangeSize lo hi 1:=by rw[rangeSize_one];split <;> grind
  show IsRangeIter _ _ (lo+((0:Nat):Int)*1) ((((hi-lo).toNat:Nat):Int)-((0:Nat):Int)) 1;rw[e1,e2];show a_ _ rfl
 .let e:b=(s.heap.push {cls:=.type "range",data:=.fields #[.int lo t,.int hi u,.int 1 v]}).objs.size:=by simpa using hb
  subst e;show j.xX (ai _) (j.hok.fresh (ai _))
def ac4 (ta:TA):TI:=λσ H R=>ta σ H λvs H1=>∃j:Int,vs=[.int j]/\-(2^62)<=j/\j<2^62/\R (YS 0 j.toNat) H1
def ac5 (ta:TA):TI:=λσ H R=>ta σ H λvs H1=>∃i j:Int,vs=[.int i,.int j]/\(-(2^62)<=i/\i<2^62/\-(2^62)<=j/\j<2^62)/\R (YS i (j-i).toNat) H1
def YW (G:Gl X "range")(hm:X.mg "range"=none)(ha:PA X [a] ta)(hs:starEach [a] X.env=[(false,eval a X.env)]:=by rfl):PI X tg (.Call (.Name "range" p) [a] [] pos) (ac4 ta):=by
 intro ak s σ H R I h;calc Call_ (qG I G hm boot_range (ee (cg (ha pos ak s σ H _ I h) λus s1 F=>?_) hs rL));let⟨vs,H1,D,r1,q1⟩:=F;let⟨j,e,q1,q2,q⟩:=q1;subst e;cases r1 with| cons r rr=>cases rr;let⟨t,rfl⟩:=r;show call_range_1 (Pk D o6 o6 q1 q2 (by simpa using q))
def YX {a b:Expr}{ta:TA}{p pos:Pos}(J:Gl X "range")(hm:X.mg "range"=none)(ha:PA X [a,b] ta)(hs:starEach [a,b] X.env=[(false,eval a X.env),(false,eval b X.env)]:=by rfl)(D:starEach [b] X.env=[(false,eval b X.env)]:=by rfl):PI X tg (.Call (.Name "range" p) [a,b] [] pos) (ac5 ta):=by
 intro ak s σ H R I h;calc Call_ (qG I J hm boot_range (ee (cg (ha pos ak s σ H _ I h) λus s1 G=>?_) (by rw[hs,D]) (by rw[D];rfl)));let⟨vs,H1,F,r1,q1⟩:=G;obtain⟨i,j,e,⟨q1,q2,q3,q4⟩,q⟩:=q1;subst e;cases r1 with
 | cons r rr=>
  cases rr with| cons r' rr=>cases rr;let⟨t,rfl⟩:=r;let⟨t',rfl⟩:=r';show call_range_2 (Pk F q1 q2 q3 q4 q)
abbrev J3 (J:It)(g:TG)(tb:TS)(D:Ends)(σ:St)(H:Hp):Prop:=∃W:Nat->Nat->St->Hp->Prop,(∃m,W 0 m σ H)/\∀i m σ H,W i m σ H->
 (J.stop i H/\D.nx σ H)\/(J.go i H/\∃N:St->Hp->Prop,(∀σ' H',N σ' H'->∃m',m'<m/\W (i+1) m' σ' H')/\∀x H',J.Ia i H x H'->g x σ H' λσ2 H2=>tb {D with nx:=N,ct:=N,bk:=D.nx} σ2 H2)
def afM (wi:TI)(g:TG)(tb:TS):TS:=λD σ H=>wi σ H λJ H1=>J3 J g tb D σ H1
def WM {J:It}{g:TG}{tb:TS}{D:Ends}{σ:St}{H:Hp}(n:Nat)(F:Nat->St->Hp->Prop)(h0:F 0 σ H)(G:∀i σ H,i<n->F i σ H->J.go i H/\∀x H',J.Ia i H x H'->g x σ H' λσ2 I=>tb {D with nx:=F (i+1),ct:=F (i+1),bk:=D.nx} σ2 I)(O:∀σ H,F n σ H->J.stop n H/\D.nx σ H):J3 J g tb D σ H:=by
 calc⟨λi m σ H=>m=n-i/\i<=n/\F i σ H,⟨n,pi,eI _,h0⟩,?_⟩;intro i m σ H z;let⟨rfl,hi,p⟩:=z;by_cases j:i<n;.show .inr ⟨(G i σ H j p).1,F (i+1),λσ' H' Y=>⟨n-(i+1),Nat.sub_lt_sub_left j (gr _),rL,j,Y⟩,(G i σ H j p).2⟩
 .let e:i=n:=o6;subst e;show .inl (O σ H p)
def ac6 {F:Hp->List V->Prop}{xs:List V}{g:TG}{tb:TS}{D:Ends}{σ:St}{H:Hp}(j:Nat->St->Hp->Prop)(h0:j 0 σ H)(hl:∀i σ H,i<=xs.length->j i σ H->F H xs)(hs:∀i x σ H,xs[i]?=some x->j i σ H->g x σ H λσ2 G=>tb {D with nx:=j (i+1),ct:=j (i+1),bk:=D.nx} σ2 G)(hd:∀σ H,j xs.length σ H->D.nx σ H):J3 (ItS F) g tb D σ H:=WM xs.length j h0 (λi σ H h p=>⟨(JA xs (xs[i]) ⟨hl i σ H (ap h) p,by simp[h]⟩),λx H' ⟨e,y⟩=>by subst e;show hs i x σ _ (y xs (hl i σ _ (ap h) p)) p⟩) λσ H p=>⟨⟨xs,hl _ σ H (ai _) p,ai _⟩,hd σ H p⟩
def BP (fp:List Addr)(h:Heap):List (Addr×Obj):=fp.filterMap λb=>(h.get? b).map λo=>(b,o)
def uR {h:Heap}(hb:b∈fp)(e:h.get? b=some o):(b,o)∈BP fp h:=nv.mpr ⟨b,hb,by rw[e];rfl⟩
def YZ (hp:p∈BP fp h):p.1∈fp/\h.get? p.1=some p.2:=by
 let⟨b,hb,e⟩:=nv.mp hp;cases q:h.get? b with
 | none=>rw[q]at e;cases e
 | some o=>rw[q]at e;let j:(b,o)=p:=bp e;subst j;show⟨hb,q⟩
def aQ.pinned {ak:AE}{σ:St}{H:Hp}{s:Shared}{fp:List Addr}(I:aQ X ak σ H s)(F:∀b∈fp,uE X ak H b)(D:∀b∈fp,∃o,s.heap.get? b=some o/\∀v,o.data≠.cell v):aQ X (ak++BP fp s.heap) σ H s:=
 I.Ut λp hp=>(bz.mp hp).elim (λz=>I.pin p (dL _ z)) λz=>by let⟨hb,e⟩:=YZ z;let⟨f0,f1,f2,_⟩:=F p.1 hb;let⟨o,j,d⟩:=D p.1 hb;rw[e]at j;cases j;show⟨e,f0,f1,f2,d⟩
def aQ.vM {ak pl:AE}{σ:St}{H:Hp}{s:Shared}(I:aQ X (ak++pl) σ H s):aQ X ak σ H s:=I.Ut λp hp=>I.pin p (dL _ (mf _ hp))
def afN (hp:PassesOwn (model X.prog X.w) X.A X.env X.xe)(hc:X.calm=true)(hi:PI X tg iter wi)(hg:PG X tg g)(hb:vL X body tb)(hs:∀x,foldedSetIterable iter X.env x=pure x:=by intro _;rfl):PS X (.For tg iter body [] pos) (afM wi g tb):=by
 intro ak s σ H D I h;calc wpAny_For (cg (hi ak s σ H _ I h) λv s1 h1=>cg h1 λitv s2 h2=>?_) hs;obtain⟨it,fp,tn,J,H2,e,I2,T,st2,f2,W,⟨m0,w0⟩,turn⟩:=h2;subst e;let G:∀{H':Hp},(∀b∈fp,H' b=none)->∀b∈fp,uE X ak H' b:=λhn b hb=>⟨hn b hb,(f2 b hb).2⟩
 calc codeAny_forLoop_any (λn s'=>∃i σ' H',aQ X ak σ' H' s'/\tn i s'.heap/\(∀b∈fp,H' b=none)/\W i n σ' H') ?_ m0 (JE 0 σ H2 ⟨I2,st2,λb hb=>(f2 b hb).1,w0⟩);intro n s3 z;let⟨i,σ3,H3,I3,st3,fr3,w3⟩:=z;rcases turn i n σ3 H3 w3 with⟨stop,qn⟩|⟨go,N,hN,step⟩
 .calc kD hp (cg (T.done X rL rL rL hc i ak s3 σ3 H3 X.xe I3 (G fr3) st3 stop) λr s4 ⟨hr,I4⟩=>?_);subst hr;show wpAny_execs_nil (JA σ3 H3 ⟨I4,qn⟩)
 .calc kD hp (cg (T.item X rL rL rL hc i ak s3 σ3 H3 X.xe I3 (G fr3) st3 go) λr s4 zz=>?_);let⟨u,hr,h4⟩:=zz;subst hr;calc kD hp (cg h4 λ_ s5 zz=>?_);let⟨x,H5,I5,r5,y5,Y,fr5⟩:=zz;let I5':=I5.pinned (G fr5) (T.obj _ _ Y);calc kD hp (cg (hg _ s5 σ3 H5 x u _ I5' r5 (step x H5 y5)) λ_ s6 zz=>?_);let⟨σ6,H6,I6,q6⟩:=zz;calc kD hp (cg (hb _ s6 σ6 H6 _ I6 q6) λf s7 q7=>?_);let j:∀{σ7:St} {O:Hp},aQ X (ak++BP fp s5.heap) σ7 O s7->N σ7 O->∃m,m<n/\∃i σ' H',aQ X ak σ' H' s7/\tn i s7.heap/\(∀b∈fp,H' b=none)/\W i m σ' H':=λ{σ7 O} F Z=>by
   let⟨m',hm,w7⟩:=hN σ7 O Z;calc⟨m',hm,i+1,σ7,O,F.vM,T.keep _ _ _ Y λb hb o e=>(F.pin (b,o) (dL _ (dL _ (uR hb e)))).1,λb hb=>?_,w7⟩;let⟨o,e,d⟩:=T.obj _ _ Y b hb;show(F.pin (b,o) (dL _ (dL _ (uR hb e)))).2.1
  cases f with
  | next=>let⟨σ7,O,F,Z⟩:=q7;show j F Z
  | cont=>let⟨σ7,O,F,Z⟩:=q7;show j F Z
  | brk=>let⟨σ7,O,F,q7⟩:=q7;show JA σ7 O ⟨F.vM,q7⟩
  | ret v=>let⟨x7,σ7,O,F,r7,q7⟩:=q7;show JE x7 σ7 O ⟨F.vM,r7,q7⟩
end
def lF {K:W.Frag}{a:Addr}:=@ac6 λH=>bB K H a
def Ek {K:W.Frag}{a:Addr}:=@ac6 λH=>aO K H a
def oh {lo:Int}{n:Nat}{g:TG}{tb:TS}{D:Ends}{σ:St}{H:Hp}(j:Nat->St->Hp->Prop)(h0:j 0 σ H)(hs:∀i σ H,i<n->j i σ H->g (.int (lo+i)) σ H λσ2 F=>tb {D with nx:=j (i+1),ct:=j (i+1),bk:=D.nx} σ2 F)(hd:∀σ H,j n σ H->D.nx σ H):J3 (YS lo n) g tb D σ H:=WM n j h0 (λi σ H h p=>⟨h,λx H' y=>by let⟨rfl,rfl⟩:=y;show hs i σ _ h p⟩) λσ H p=>⟨ai _,hd σ H p⟩
abbrev R2:=V->V->Hp->VK->Prop
def fW (X:Cx)(f:Value->Value->Sem Value)(r:R2):Prop:=∀(ak:AE) (s:Shared) (σ:St) (H:Hp) (x y:V) (v u:Value) (Q:VK),aQ X ak σ H s->cD x v->cD y u->r x y H Q->
  wpAny (model X.prog X.w) X.A (f v u) (EP X ak σ Q) X.xe s
def UnR (X:Cx)(f:Value->Sem Value)(r:V->Hp->VK->Prop):Prop:=∀(ak:AE) (s:Shared) (σ:St) (H:Hp) (x:V) (v:Value) (Q:VK),aQ X ak σ H s->cD x v->r x H Q->
  wpAny (model X.prog X.w) X.A (f v) (EP X ak σ Q) X.xe s
def iJ (X:Cx)(f:Value)(r:List V->Hp->VK->Prop):Prop:=∀(ak:AE) (s:Shared) (σ:St) (H:Hp) (xs:List V) (us:List Value) (Q:VK),aQ X ak σ H s->Vals xs us->r xs H Q->
  wpAny (model X.prog X.w) X.A (call f us) (EP X ak σ Q) X.xe s
def Fy (r:R2)(ta tb:TE):TE:=λσ H Q=>ta σ H λx H1=>tb σ H1 λy j=>r x y j Q
def tUn (r:V->Hp->VK->Prop)(ta:TE):TE:=λσ H Q=>ta σ H λx H1=>r x H1 Q
def rI (C:Int->Int->Prop)(g:Int->Int->V):R2:=λx y H Q=>∃i j,x=.int i/\y=.int j/\C i j/\Q (g i j) H
def LK (g:Int->Int->V):R2:=λx y H Q=>∃i j,x=.int i/\y=.int j/\Q (g i j) H
def rU (g:Int->V):V->Hp->VK->Prop:=λx H Q=>∃i,x=.int i/\Q (g i) H
section
variable {X:Cx}{a b:Expr}{ta tb:TE}{pos:Pos}
def abe (ha:PE X a ta)(hb:PE X b tb){ak:AE}{s:Shared}{σ:St}{H:Hp}{R:V->V->Hp->Prop}(I:aQ X ak σ H s)(h:ta σ H λx H1=>tb σ H1 λy j=>R x y j){Q:AD}{f:Value->Value->Sem Value}(Y:∀v u s2 x y j,aQ X ak σ j s2->cD x v->cD y u->R x y j->wpAny (model X.prog X.w) X.A (f v u) Q X.xe s2):wpAny (model X.prog X.w) X.A (eval a X.env) (λv G=>wpAny (model X.prog X.w) X.A (eval b X.env) (λu J=>wpAny (model X.prog X.w) X.A (f v u) Q X.xe J) X.xe G) X.xe s:=by calc cg (ha ak s σ H _ I h) λv s1 D=>?_;let⟨x,H1,F,r1,q1⟩:=D;calc cg (hb ak s1 σ H1 _ F q1) λu s2 D=>?_;let⟨y,j,O,Z,q2⟩:=D;show Y v u s2 x y j O r1 Z q2
def ahM (G:fW X (binaryOp op) r)(ha:PE X a ta)(hb:PE X b tb):PE X (.BinOp a op b pos) (Fy r ta tb):=by intro ak s σ H Q I h;show wpAny_BinOp (abe ha hb I h λv u s2 x y D F J j q=>G ak s2 σ D x y v u Q F J j q)
def ahN (D:UnR X (unaryOp op) r)(ha:PE X a ta):PE X (.UnaryOp op a pos) (tUn r ta):=by intro ak s σ H Q I h;show UnaryOp_ (cg (ha ak s σ H _ I h) λv s1 ⟨x,H1,j,r1,q1⟩=>D ak s1 σ H1 x v Q j r1 q1)
def Y4 {f:Value->Value->Sem Value}{C:Int->Int->Prop}{g:Int->Int->Int}(D:∀(i j:Int) (t u:Tok) (s:Shared) (Q:AD) (E:AD),C i j->Q (.int (g i j) s.toks) {s with toks:=s.toks+1}->wpAny (model X.prog X.w) X.A (f (.int i t) (.int j u)) Q E s):fW X f (rI C λi j=>.int (g i j)):=by intro ak s σ H x y v u Q I G F h;let⟨i,j,rfl,rfl,J,q⟩:=h;let⟨t,rfl⟩:=G;let⟨t',rfl⟩:=F;show D i j t t' s _ _ J (JA (.int (g i j)) H ⟨I.tok _,⟨_,rL⟩,q⟩)
def afO {f:Value->Value->Sem Value}{g:Int->Int->Int}(D:∀(i j:Int) (t u:Tok) (s:Shared) (Q:AD) (E:AD),Q (.int (g i j) s.toks) {s with toks:=s.toks+1}->wpAny (model X.prog X.w) X.A (f (.int i t) (.int j u)) Q E s):fW X f (LK λi j=>.int (g i j)):=by intro ak s σ H x y v u Q I G F h;let⟨i,j,rfl,rfl,q⟩:=h;let⟨t,rfl⟩:=G;let⟨t',rfl⟩:=F;show D i j t t' s _ _ (JA (.int (g i j)) H ⟨I.tok _,⟨_,rL⟩,q⟩)
def WQ {f:Value->Value->Sem Value}{g:Int->Int->Bool}(D:∀(i j:Int) (t u:Tok) (s:Shared) (Q:AD) (E:AD),Q (.bool (g i j)) s->wpAny (model X.prog X.w) X.A (f (.int i t) (.int j u)) Q E s):fW X f (LK λi j=>.bl (g i j)):=by intro ak s σ H x y v u Q I G F h;let⟨i,j,rfl,rfl,q⟩:=h;let⟨t,rfl⟩:=G;let⟨t',rfl⟩:=F;show D i j t t' s _ _ (JA (.bl (g i j)) H ⟨I,rL,q⟩)
def aiE (i j:Int):Prop:=0<j/\j<1073741824
def aiF (i j:Int):Prop:=0<=j/\j<=1000000/\i.natAbs<2^64
def WR (i j:Int):Prop:=(-(2^64)<i/\i<2^64)\/(-(2^64)<j/\j<2^64)
def WR.ok (h:WR i j):IntMulOk i j:=by
 rcases h with⟨h1,h2⟩|⟨h1,h2⟩;.show .of_left (intBits_le_64 h1 h2)
 .show .of_right (intBits_le_64 h1 h2)
def cG:fW X (binaryOp .Add) (LK λi j=>.int (i+j)):=afO λ_ _ _ _ _ _ _ q=>add_int q
def nJ:fW X (binaryOp .Sub) (LK λi j=>.int (i-j)):=afO λ_ _ _ _ _ _ _ q=>sub_int q
def iK:fW X (binaryOp .Mult) (rI WR λi j=>.int (i*j)):=Y4 λ_ _ _ _ _ _ _ D q=>mul_int q D.ok
def cF:fW X (binaryOp .FloorDiv) (rI aiE λi j=>.int (i/j)):=Y4 λi j _ _ _ _ _ D q=>by let h1:(0:Int)<j:=D.1;let h2:j<1073741824:=D.2;show floordiv_int o6 (by rw[nE i (Int.le_of_lt h1)];show q) (.inl (lm (by grind)))
def bY:fW X (binaryOp .Mod) (rI (λ_ j=>0<j) λi j=>.int (i%j)):=Y4 λi j _ _ _ _ _ D q=>by let h1:(0:Int)<j:=D;show mod_int' o6 (by rw[Int.fmod_eq_emod_of_nonneg i o6];show q)
def Pn:fW X (binaryOp .Pow) (rI aiF λi j=>.int (i^j.toNat)):=Y4 λ_ _ _ _ _ _ _ D q=>pow_int_small D.1 D.2.1 D.2.2 q
def unI {f:Value->Sem Value}{g:Int->Int}(j:∀(i:Int) (t:Tok) (s:Shared) (Q:AD) (E:AD),Q (.int (g i) s.toks) {s with toks:=s.toks+1}->wpAny (model X.prog X.w) X.A (f (.int i t)) Q E s):UnR X f (rU λi=>.int (g i)):=by intro ak s σ H x v Q I D h;let⟨i,rfl,q⟩:=h;let⟨t,rfl⟩:=D;show j i t s _ _ (JA (.int (g i)) H ⟨I.tok _,⟨_,rL⟩,q⟩)
def jX:UnR X (unaryOp .USub) (rU λi=>.int (-i)):=unI λ_ _ _ _ _ q=>neg_int q
end
noncomputable def afP:V->V->Bool
 | .non,.non=>true|.non,.int _=>true|.int _,.non=>true|.non,.bl _=>true|.bl _,.non=>true|.non,.str _=>true|.str _,.non=>true
 | .int _,.int _=>true|.bl _,.bl _=>true|.str _,.str _=>true|.Bk _,.Bk _=>true
 | .int _,.str _=>true|.str _,.int _=>true|.bl _,.str _=>true|.str _,.bl _=>true
 | _,_=>false
def rEq:R2:=λx y H Q=>afP x y=true/\Q (.bl (decide (x=y))) H
def rNe:R2:=λx y H Q=>afP x y=true/\Q (.bl (!decide (x=y))) H
def Uu:decide (V.int i=V.int j)=(i==j):=by rw[gS];simp
def Y5:decide (V.bl i=V.bl j)=(i==j):=by rw[gS];simp
def Uv:decide (V.str i=V.str j)=(i==j):=by rw[gS];simp
def Uw:decide (V.Bk i=V.Bk j)=(i.toList==j.toList):=by rw[gS];cases i;cases j;simp
section
variable {X:Cx}{a b c:Expr}{ta tb tc:TE}{pos:Pos}
def dN {ak:AE}{σ:St}{H:Hp}{s:Shared}{Q:VK}{k j:Bool}(I:aQ X ak σ H s)(q:Q (.bl k) H)(e:k=j):EP X ak σ Q (.bool j) s:=by subst e;show JA (.bl k) H ⟨I,rL,q⟩
def iH:fW X (compareOp .Eq) rEq:=by
 intro ak s σ H x y v u Q I F D h;let⟨hs,q⟩:=h;cases x with
 | non=>
  cases F;cases y with
  | non=>cases D;show PySem.EqNone.eq_none_none (dN I q pi)
  | bl j=>cases D;show PySem.EqNone.eq_none_bool (dN I q pi)
  | int j=>let⟨t',rfl⟩:=D;show PySem.EqNone.eq_none_int (dN I q pi)
  | str j=>let⟨t',rfl⟩:=D;show PySem.EqNone.eq_none_str (dN I q pi)
  | _=>show absurd (show false=true from hs) bS
 | bl i=>
  cases F;cases y with
  | non=>cases D;show PySem.EqNone.eq_bool_none (dN I q pi)
  | bl j=>cases D;show eq_bool (dN I q Y5)
  | str j=>let⟨t',rfl⟩:=D;show PySem.EqMixed.eq_bool_str (dN I q pi)
  | _=>show absurd (show false=true from hs) bS
 | int i=>
  let⟨t,rfl⟩:=F;cases y with
  | non=>cases D;show PySem.EqNone.eq_int_none (dN I q pi)
  | int j=>let⟨t',rfl⟩:=D;show eq_int (dN I q Uu)
  | str j=>let⟨t',rfl⟩:=D;show PySem.EqMixed.eq_int_str (dN I q pi)
  | _=>show absurd (show false=true from hs) bS
 | str i=>
  let⟨t,rfl⟩:=F;cases y with
  | non=>cases D;show PySem.EqNone.eq_str_none (dN I q pi)
  | bl j=>cases D;show PySem.EqMixed.eq_str_bool (dN I q pi)
  | int j=>let⟨t',rfl⟩:=D;show PySem.EqMixed.eq_str_int (dN I q pi)
  | str j=>let⟨t',rfl⟩:=D;show eq_str (dN I q Uv)
  | _=>show absurd (show false=true from hs) bS
 | Bk i=>
  let⟨t,rfl⟩:=F;cases y with
  | Bk j=>let⟨t',rfl⟩:=D;show W.eq_bytes (dN I q Uw)
  | _=>show absurd (show false=true from hs) bS
 | _=>cases y <;> show absurd (show false=true from hs) bS
def wN:fW X (compareOp .NotEq) rNe:=by
 intro ak s σ H x y v u Q I F D h;let⟨hs,q⟩:=h;cases x with
 | non=>
  cases F;cases y with
  | non=>cases D;show PySem.EqNone.ne_none_none (dN I q pi)
  | bl j=>cases D;show PySem.EqNone.ne_none_bool (dN I q pi)
  | int j=>let⟨t',rfl⟩:=D;show PySem.EqNone.ne_none_int (dN I q pi)
  | str j=>let⟨t',rfl⟩:=D;show PySem.EqNone.ne_none_str (dN I q pi)
  | _=>show absurd (show false=true from hs) bS
 | bl i=>
  cases F;cases y with
  | non=>cases D;show PySem.EqNone.ne_bool_none (dN I q pi)
  | bl j=>cases D;show ne_bool (dN I q (congrArg not Y5))
  | str j=>let⟨t',rfl⟩:=D;show PySem.EqMixed.ne_bool_str (dN I q pi)
  | _=>show absurd (show false=true from hs) bS
 | int i=>
  let⟨t,rfl⟩:=F;cases y with
  | non=>cases D;show PySem.EqNone.ne_int_none (dN I q pi)
  | int j=>let⟨t',rfl⟩:=D;show ne_int (dN I q (congrArg not Uu))
  | str j=>let⟨t',rfl⟩:=D;show PySem.EqMixed.ne_int_str (dN I q pi)
  | _=>show absurd (show false=true from hs) bS
 | str i=>
  let⟨t,rfl⟩:=F;cases y with
  | non=>cases D;show PySem.EqNone.ne_str_none (dN I q pi)
  | bl j=>cases D;show PySem.EqMixed.ne_str_bool (dN I q pi)
  | int j=>let⟨t',rfl⟩:=D;show PySem.EqMixed.ne_str_int (dN I q pi)
  | str j=>let⟨t',rfl⟩:=D;show ne_str (dN I q (congrArg not Uv))
  | _=>show absurd (show false=true from hs) bS
 | Bk i=>
  let⟨t,rfl⟩:=F;cases y with
  | Bk j=>let⟨t',rfl⟩:=D;show W.ne_bytes (dN I q (congrArg not Uw))
  | _=>show absurd (show false=true from hs) bS
 | _=>cases y <;> show absurd (show false=true from hs) bS
def uT:fW X (compareOp .Lt) (LK λi j=>.bl (decide (i<j))):=WQ λ_ _ _ _ _ _ _ q=>lt_int q
def pQ:fW X (compareOp .LtE) (LK λi j=>.bl (decide (i<=j))):=WQ λ_ _ _ _ _ _ _ q=>le_int q
def ahO:fW X (compareOp .Gt) (LK λi j=>.bl (decide (j<i))):=WQ λ_ _ _ _ _ _ _ q=>gt_int q
def El:fW X (compareOp .GtE) (LK λi j=>.bl (decide (j<=i))):=WQ λ_ _ _ _ _ _ _ q=>ge_int q
def Y6:fW X (compareOp .In) (λx y H Q=>∃i j,x=.str i/\y=.str j/\Q (.bl (!(Builtin.Str.occurrences j i 0 j.length 1).isEmpty)) H):=by intro ak s σ H x y v u Q I D F h;let⟨i,j,rfl,rfl,q⟩:=h;let⟨t,rfl⟩:=D;let⟨t',rfl⟩:=F;show in_str (dN I q rL)
def bF (b)(h:op≠.In:=by decide)(h2:op≠.NotIn:=by decide):behindInMarks op b=false:=by
 let e1:(op==CmpOp.In)=false:=by cases op <;> first|rfl|show absurd rL h
 let e2:(op==CmpOp.NotIn)=false:=by cases op <;> first|rfl|show absurd rL h2
 cases b <;> simp[behindInMarks,e1,e2]
def adI (G:fW X (compareOp op) r)(ha:PE X a ta)(hb:PE X b tb)(hm:behindInMarks op b=false):PE X (.Compare a [op] [b] pos) (Fy r ta tb):=by intro ak s σ H Q I h;show wpAny_Compare1 (abe ha hb I h λv u s2 x y D F J j q=>G ak s2 σ D x y v u Q F J j q) hm
def Ol (t:TE):TT:=λσ H Q=>t σ H λx H'=>∃k,x=.bl k/\Q k H'
def adJ (O:fW X (compareOp op) r)(ha:PE X a ta)(hb:PE X b tb)(hm:behindInMarks op b=false):PT X (.Compare a [op] [b] pos) (Ol (Fy r ta tb)):=by
 intro ak s σ H Q I h;refine wpAny_isTrue_Compare1 (cg (ha ak s σ H _ I h) λv s1 ⟨x,H1,j,r1,q1⟩=>cg (hb ak s1 σ H1 _ j q1) λu s2 ⟨y,G,J,Z,q2⟩=>cg (O ak s2 σ G x y v u _ J r1 Z q2) λc s3 ⟨z,D,Y,F,k,e,q3⟩=>?_) hm
 subst e;cases F;show eJ ⟨D,Y,q3⟩
def BR (r G:R2)(ta tb tc:TE):TE:=λσ H Q=>ta σ H λx H1=>tb σ H1 λy F=>r x y F λz j=>∃k,z=.bl k/\
 (if k=true then tc σ j λI D=>G y I D Q else Q (.bl false) j)
def abf (ho:fW X (compareOp op) r)(j:fW X (compareOp op') r')(ha:PE X a ta)(hb:PE X b tb)(hc:PE X c tc)(hm:lastMarks [op,op'] [b,c]=false:=by with_unfolding_all rfl):PE X (.Compare a [op,op'] [b,c] pos) (BR r r' ta tb tc):=by
 intro ak s σ H Q I h;refine Compare_chain (cg (ha ak s σ H _ I h) λv s1 ⟨x,H1,J,r1,q1⟩=>chain_link (cg (hb ak s1 σ H1 _ J q1) λu s2 ⟨y,Z,I2,G,q2⟩=>cg (ho ak s2 σ Z x y v u _ I2 r1 G q2) λd s3 ⟨z,D,F,Y,k,e,q3⟩=>?_)) hm
 subst e;cases Y;calc eJ ?_;cases k with| false=>show ite_ff (JA (.bl false) D ⟨F,rL,q3⟩)| true=>show ite_tt (chain_last (cg (hc ak s3 σ D _ F q3) λw' s4 ⟨z',H4,I4,O,q4⟩=>j ak s4 σ H4 y z' u w' Q I4 G O q4))
def abg (ho:fW X (compareOp op) r)(D:fW X (compareOp op') r')(ha:PE X a ta)(hb:PE X b tb)(hc:PE X c tc)(hm:lastMarks [op,op'] [b,c]=false:=by with_unfolding_all rfl):PT X (.Compare a [op,op'] [b,c] pos) (Ol (BR r r' ta tb tc)):=by
 intro ak s σ H Q I h;refine isTrue_chain (cg (ha ak s σ H _ I h) λv s1 ⟨x,H1,O,r1,q1⟩=>test_link (cg (hb ak s1 σ H1 _ O q1) λu s2 ⟨y,H2,I2,J,q2⟩=>cg (ho ak s2 σ H2 x y v u _ I2 r1 J q2) λd s3 ⟨z,F,G,r3,k,e,q3⟩=>?_)) hm
 subst e;cases r3;calc eJ ?_;cases k with
 | false=>let⟨k',e',q'⟩:=q3;cases e';show ite_ff ⟨F,G,q'⟩
 | true=>calc ite_tt (test_last (cg (hc ak s3 σ F _ G q3) λw' s4 j=>?_));let⟨z',H4,I4,Y,q4⟩:=j;calc cg (D ak s4 σ H4 y z' u w' _ I4 J Y q4) λd' s5 j=>?_;let⟨z2,H5,I5,Z,k2,e2,q5⟩:=j;subst e2;cases Z;show eJ ⟨H5,I5,q5⟩
def yM:(sizeLine:Nat)<2^63:=by rw[sizeLine_eq];decide
def WT:fW X (binaryOp .Add) (λx y H Q=>∃i j,x=.str i/\y=.str j/\i.length+j.length<=sizeLine/\Q (.str (i++j)) H):=by intro ak s σ H x y v u Q I F D h;let⟨i,j,rfl,rfl,hz,q⟩:=h;let⟨t,rfl⟩:=F;let⟨t',rfl⟩:=D;show add_str (λt' tk=>(JA (.str (i++j)) H ⟨I.tok _,⟨_,rL⟩,q⟩)) hz
def vals1 (r:Vals [x] us):∃u,us=[u]/\cD x u:=by
 cases r with| cons r1 r2=>cases r2;show⟨_,rL,r1⟩
def vals2 (r:Vals [x,y] us):∃u j,us=[u,j]/\cD x u/\cD y j:=by
 cases r with
 | cons r1 r2=>
  cases r2 with| cons r3 r4=>cases r4;show JA _ _ ⟨rL,r1,r3⟩
def LQ (F:X.calm=true):iJ X (.builtin "max") (λxs H Q=>∃i j,xs=[.int i,.int j]/\Q (.int (if j > i then j else i)) H):=by
 intro ak s σ H xs us Q I r h;let⟨i,j,rfl,q⟩:=h;obtain⟨u,G,rfl,⟨t,rfl⟩,⟨t',rfl⟩⟩:=vals2 r;refine max_two_ints (I.ok.hd F) λh' tk k=>(JA _ H ⟨I.kept k,?_,q⟩)
 by_cases D:j > i;.rw[if_pos D,if_pos D];show⟨_,rL⟩
 .rw[if_neg D,if_neg D];show⟨_,rL⟩
def LR (F:X.calm=true):iJ X (.builtin "min") (λxs H Q=>∃i j,xs=[.int i,.int j]/\Q (.int (if j<i then j else i)) H):=by
 intro ak s σ H xs us Q I r h;let⟨i,j,rfl,q⟩:=h;obtain⟨u,G,rfl,⟨t,rfl⟩,⟨t',rfl⟩⟩:=vals2 r;refine min_two_ints (I.ok.hd F) λh' tk k=>(JA _ H ⟨I.kept k,?_,q⟩)
 by_cases D:j<i;.rw[if_pos D,if_pos D];show⟨_,rL⟩
 .rw[if_neg D,if_neg D];show⟨_,rL⟩
def L_:iJ X (.type "int") (λxs H Q=>(∃i,xs=[.int i]/\Q (.int i) H)\/∃k,xs=[.bl k]/\Q (.int (if k then 1 else 0)) H):=by
 intro ak s σ H xs us Q I r h;rcases h with⟨i,rfl,q⟩|⟨k,rfl,q⟩
 .let⟨u,rfl,t,rfl⟩:=vals1 r;show call_int_int (JA (.int i) H ⟨I,⟨_,rL⟩,q⟩)
 .let⟨u,rfl,r1⟩:=vals1 r;cases r1;show call_int_bool (JA (.int (if k then 1 else 0)) H ⟨I.tok _,⟨_,rL⟩,q⟩)
end
structure Gn (h:Heap)(x dx C:Addr)(mA:Str->Option Value):Prop where
 obj:h.get? x=some (W.instObj C dx)
 ns:h.Ns1 dx mA
 ne:dx≠x
def Y7 {h:Heap}(n:h.Ns1 dx mA):∃od,h.get? dx=some od/\∀name,W.lookIn name od=some (mA name):=by
 let⟨o,es,ep,G,hd,F,_,hm⟩:=n;calc⟨o,G,λname=>?_⟩;let e:=hm name;unfold nsFind findBy at e;rw[<-Array.find?_toList]at e;unfold W.lookIn;rw[hd];dsimp only;split
 .rename_i y q;rw[q]at e;show congrArg some e
 .rename_i q;rw[q]at e;let a:es.toList.any (·.refKey)=false:=by
   rw[List.any_eq_false];intro y hy;let⟨z,t,j⟩:=F y (Array.mem_toList_iff.mp hy);simp[DictEntry.refKey,j]
  let D:¬es.toList.any (·.refKey)=true:=by rw[a];show bS
  rw[if_neg D];show congrArg some e
def Gn.look (I:Gn h x dx C mA):∃od,W.InstAt h x (W.instObj C dx) C (some od)/\∀name,W.lookIn name od=some (mA name):=let ⟨od,ho,hl⟩:=Y7 I.ns
 ⟨od,⟨I.obj,rL,rL,ho⟩,hl⟩
section
variable {prog:Program}{w:World}{A:Around}{E:AD}{s:Shared}{K:W.Frag}{x dx C f:Addr}{mA:Str->Option Value}{name:Str}{v:Value}
def get_map (X:K.In s.heap)(I:Gn s.heap x dx C mA)(D:W.plainGet K C name=true)(G:W.hasDictIn K C=true)(ha:W.findIn K (.ref C) name=some none)(F:mA name=some v)(j:W.handedIn v=true)(h:Q v {s with toks:=s.toks+1}):wpAny (model prog w) A (getAttr (.ref x) name expr) Q E s:=by let⟨od,J,hl⟩:=I.look;show W.get_value X J (mM D).1 (W.findObj_own G ha rL (by rw[hl,F])) j h
def abh (X:K.In s.heap)(I:Gn s.heap x dx C mA)(j:W.plainGet K C name=true)(F:W.findIn K (.ref C) name=some (some (.ref f)))(ht:W.isFn K (.ref f)=true)(D:mA name=none)(h:Q (.ref f,[.ref x]) s):wpAny (model prog w) A (getMethod (.ref x) name pl) Q E s:=by let⟨od,J,hl⟩:=I.look;show W.method_fn X J (mM j).1 (mM j).2 F (beq_iff_eq.mp ht) (by show (W.lookIn name od).map (·.isSome)=some false;rw[hl,D];rfl) h
def adK (X:K.In s.heap)(I:Gn s.heap x dx C mA)(hs:W.findIn K (.ref C) "__setattr__"=some (some (.builtin "object.__setattr__")))(hp:W.plainOver K C=true)(ht:W.takerIn K C name=some none)(Z:W.hasDictIn K C=true)(hw:PySem.Within mA ns)(hsz:ns.length<=sizeLine)(h:∀h',Gn h' x dx C (λy=>if y=name then some v else mA y)->Heap.SameBut dx s.heap h'->Q () {s with heap:=h',toks:=s.toks+2}):wpAny (model prog w) A (setAttr (.ref x) name v) Q E s:=by let⟨od,J,hl⟩:=I.look;calc W.set_plain X J hs (W.osa_open (s:={s with toks:=s.toks+1}) (r:=none) X J hp ht λb=>?_);let⟨cd,hc,F⟩:=W.any_some Z;let hx:s.heap.get? x=some ⟨.ref C,some dx,.plain,#[]⟩:=I.obj;calc ae (aw (ae (ae (wpAny_loadPart hx (ae (W.Looks.here (s:={s with toks:=s.toks+1}) (W.looks_clsIn X hc) ?_))))));rw[F];calc aw (a:=some dx) (ae (aw (ae ?_)));calc wpAny_nsSet1 (s:={s with toks:=s.toks+1}) I.ns λh' D j=>?_;let⟨oD,esD,epD,Y,G,O⟩:=D.count (nX name v hw);calc ae (wpAny_lookBehind Y (by rw[G];show pastItsLine_dict (bP O (by rw[dA];show gt hsz))) ?_);show aw (h _ ⟨(j.2 _ (gf I.ne)).trans I.obj,D,I.ne⟩ j)
def abj (X:K.In s.heap)(hm:W.makesIn K C=true)(hi:W.findIn K (.ref C) "__init__"=some (some (.ref f)))(j:W.typeIn K (.ref f)=some (.type "function"))(h:codeAny (model prog w) (A.under (.builtin "type.__call__" ⟨.ref C::vs,kw⟩)) (.call (.ref f) ⟨.ref (s.heap.objs.size+1)::vs,kw⟩) (W.InitBack (s.heap.objs.size+1) R) {s with heap:=(s.heap.push W.emptyDict).push (W.instObj C s.heap.objs.size)}):codeAny (model prog w) A (.call (.ref C) ⟨vs,kw⟩) R s:=by let⟨D,g,d,t,os⟩:=s;show W.make_core (W.makes_of X hm) (W.looks_findIn X hi) (λself=>W.bind_fn X self j) (.inl rL) h
end
noncomputable def g_ (f:Str)(v:V):List (Str×V)->List (Str×V)
 | []=>[(f,v)]
 | (g,x)::r=>if g=f then (g,v)::r else (g,x)::g_ f v r
theorem xY (f g)(v):∀fs:List (Str×V),(g_ f v fs).lookup g=if g=f then some v else fs.lookup g
 | []=>by
  show List.lookup g [(f,v)]=_;by_cases h:g=f
  .let hb:(g==f)=true:=beq_iff_eq.mpr h;simp only[List.lookup,hb,if_pos h]
  .let hb:(g==f)=false:=beq_eq_false_iff_ne.mpr h;simp only[List.lookup,hb,if_neg h]
 | (k,x)::r=>by
  let D:=xY f g v r;rw[show g_ f v ((k,x)::r)=(if k=f then (k,v)::r else (k,x)::g_ f v r) from rfl];by_cases j:k=f
  .rw[if_pos j];by_cases h:g=k
   .let hb:(g==k)=true:=beq_iff_eq.mpr h;simp only[List.lookup,hb,if_pos (h.trans j)]
   .let hb:(g==k)=false:=beq_eq_false_iff_ne.mpr h;simp only[List.lookup,hb,if_neg (λe:g=f=>h (e.trans j.symm))]
  .rw[if_neg j];by_cases h:g=k
   .let hb:(g==k)=true:=beq_iff_eq.mpr h;simp only[List.lookup,hb,if_neg (λe:g=f=>j (h.symm.trans e))]
   .let hb:(g==k)=false:=beq_eq_false_iff_ne.mpr h;simp only[List.lookup,hb];show D
theorem ug (f)(v):∀fs:List (Str×V),f∈(g_ f v fs).map (·.1)/\∀g,g∈fs.map (·.1)->g∈(g_ f v fs).map (·.1)
 | []=>⟨by simp[g_],λg h=>by simp at h⟩
 | (k,x)::r=>by
  let⟨i1,i2⟩:=ug f v r;rw[show g_ f v ((k,x)::r)=(if k=f then (k,v)::r else (k,x)::g_ f v r) from rfl];by_cases j:k=f
  .rw[if_pos j];subst j;show⟨pi,λg h=>by simpa using h⟩
  .rw[if_neg j];refine⟨?_,λg h=>?_⟩
   .rw[cv];show bE _ i1
   .rw[cv]at h ⊢;rcases bX.mp h with e|e;.show bX.mpr (.inl e)
    .show bE _ (i2 g e)
theorem xZ (f)(v):∀fs:List (Str×V),(g_ f v fs).length<=fs.length+1
 | []=>by simp[g_]
 | (k,x)::r=>by
  let D:=xZ f v r;rw[show g_ f v ((k,x)::r)=(if k=f then (k,v)::r else (k,x)::g_ f v r) from rfl];by_cases j:k=f;.rw[if_pos j,dA,dA];lia
  .rw[if_neg j,dA,dA];show gt D
def mC.some_of (r:mC (some v) o):∃u,o=some u/\cD v u:=by
 cases o with| none=>show(show False from r).elim| some u=>show⟨u,rL,r⟩
def mC.none_of (r:mC none o):o=none:=by
 cases o with| none=>rfl| some u=>show(show False from r).elim
def Ma (r:cD v u):W.handedIn u=true:=by
 cases v with
 | non=>cases(show u=Value.none from r);rfl
 | bl b=>cases(show u=Value.bool b from r);rfl
 | int i=>let⟨t,e⟩:=(show ∃t,u=Value.int i t from r);cases e;rfl
 | str x=>let⟨t,e⟩:=(show ∃t,u=Value.str x t from r);cases e;rfl
 | Bk b=>let⟨t,e⟩:=(show ∃t,u=Value.bytes b t from r);cases e;rfl
 | flt b=>let⟨t,e⟩:=(show ∃t,u=Value.float b t from r);cases e;rfl
 | ref a=>cases(show u=Value.ref a from r);rfl
 | ty n=>cases(show u=Value.type n from r);rfl
section
variable {P:Program}{w:World}{H:Hp}{h:Heap}{a C dx:Addr}{fs:List (Str×V)}
def yN (hok:jW P w H h)(e:H a=some (.ins C dx fs)):∃mA,Gn h a dx C mA/\(∀f,mC (fs.lookup f) (mA f))/\PySem.Within mA (fs.map (·.1))/\fs.length<=1000/\H dx=some (.own a):=by
 let⟨d,z,ne,ob,mA,n,r,q⟩:=(show fP P w H h a (.ins C dx fs) from hok a _ e)
 show⟨mA,⟨ob,n,ne⟩,r,q,z,d⟩
end
structure Cls (K:W.Frag)(C:Addr):Prop where
 pg:W.plainGet K C Str.empty=true
 hd:W.hasDictIn K C=true
 po:W.plainOver K C=true
 sa:W.findIn K (.ref C) "__setattr__"=some (some (.builtin "object.__setattr__"))
def Cls.get {K:W.Frag}(c:Cls K C)(f:Str):W.plainGet K C f=true:=c.pg
def iD (K:W.Frag)(C:Addr)(f:Str):Prop:=W.findIn K (.ref C) f=some none
def iD.taker {K:W.Frag}{f:Str}(n:iD K C f):W.takerIn K C f=some none:=by unfold W.takerIn;rw[show W.findIn K (.ref C) f=some none from n];rfl
structure Meth (K:W.Frag)(C:Addr)(m:Str)(f:Addr):Prop where
 at_:W.findIn K (.ref C) m=some (some (.ref f))
 fn:W.isFn K (.ref f)=true
 kp:W.keepIn K (.ref f)=true
section
variable {X:Cx}{ak:AE}{σ:St}{H:Hp}{s:Shared}{a C dx:Addr}{fs:List (Str×V)}{f:Str}{v:V}{A:Around}{E:AD}
def WW (I:aQ X ak σ H s)(e:H a=some (.ins C dx fs))(c:Cls X.K C)(n:iD X.K C f)(l:fs.lookup f=some v)(h:∀u s',aQ X ak σ H s'->cD v u->Q u s'):wpAny (model X.prog X.w) A (getAttr (.ref a) f b) Q E s:=by let⟨mA,O,r,_,_,_⟩:=yN I.hok e;let⟨u,D,j⟩:=mC.some_of (v:=v) (o:=mA f) (by rw[<-l];show r f);show get_map I.iY O (c.get f) c.hd n D (Ma j) (h u _ (I.tok _) j)
def Ie (I:aQ X ak σ H s)(e:H a=some (.ins C dx fs))(c:Cls X.K C)(k:Meth X.K C m g)(l:fs.lookup m=none)(h:Q (.ref g,[.ref a]) s):wpAny (model X.prog X.w) A (getMethod (.ref a) m pl) Q E s:=by let⟨mA,O,r,_,_,_⟩:=yN I.hok e;let hn:mA m=none:=mC.none_of (by rw[<-l];show r m);show abh I.iY O (c.get m) k.at_ k.fn hn h
def WX (I:aQ X ak σ H s)(e:H a=some (.ins C dx fs))(c:Cls X.K C)(n:iD X.K C f)(hl:fs.length<1000)(G:cD y u)(h:∀s',aQ X ak σ (upd H a (.ins C dx (g_ f y fs))) s'->Q () s'):wpAny (model X.prog X.w) A (setAttr (.ref a) f u) Q E s:=by
 let⟨mA,O,r,wi,_,D⟩:=yN I.hok e;let hz:(fs.map (·.1)).length<=sizeLine:=by rw[aa,sizeLine_eq];lia
 calc adK I.iY O c.sa c.po n.taker c.hd wi hz λh' j J=>h _ ?_;let hd:∃o,h'.get? dx=some o:=let ⟨o,_,_,e',_⟩:=j.ns;⟨o,e'⟩
 calc I.write (x:=a) (e:=dx) (by rw[e];show True.intro) (.inr D) (λb q hb z=>(J.2 b hb).trans z) hd ?_;calc⟨by rw[aP O.ne];show D,?_,O.ne,j.obj,_,j.ns,λg=>?_,λg F=>?_⟩;.have:=xZ f y fs;lia
 .show mC ((g_ f y fs).lookup g) (if g=f then some u else mA g);rw[xY];by_cases q:g=f;.rw[if_pos q,if_pos q];show G
  .rw[if_neg q,if_neg q];show r g
 .by_cases q:g=f;.rw[q];show(ug f y fs).1
  .calc(ug f y fs).2 g (wi g λz=>F ?_);show (if g=f then some u else mA g)=none;rw[if_neg q];show z
def aQ.made (I:aQ X ak σ H s):aQ X ak σ (upd (upd H s.heap.objs.size (.own (s.heap.objs.size+1))) (s.heap.objs.size+1) (.ins C s.heap.objs.size [])) {s with heap:=(s.heap.push W.emptyDict).push (W.instObj C s.heap.objs.size)}:=by
 let e1:(s.heap.push W.emptyDict).get? s.heap.objs.size=some W.emptyDict:=a_ s.heap rfl;let e2:((s.heap.push W.emptyDict).push (W.instObj C s.heap.objs.size)).get? (s.heap.objs.size+1)=some (W.instObj C s.heap.objs.size):=by
  have:=a_ (s.heap.push W.emptyDict) (o:=W.instObj C s.heap.objs.size) rfl
  rwa [eQ]at this
 let e3:(s.heap.push W.emptyDict).Ns s.heap.objs.size (λ_=>none):=(JE W.emptyDict (#[]) _ ⟨e1,rL,(λe D=>absurd D pi),λ_=>rfl⟩)
 let j:=I.laid (a:=s.heap.objs.size) (o:=.own (s.heap.objs.size+1)) (h':=s.heap.push W.emptyDict) (t':=s.toks) (λb u q=>af _ q) (ai _) ⟨_,e1⟩;calc j.laid (a:=s.heap.objs.size+1) (o:=.ins C s.heap.objs.size []) (t':=s.toks) (λb u q=>af _ q) (io (eQ _ _)) ?_;let ne:s.heap.objs.size≠s.heap.objs.size+1:=cq (gr _);refine⟨by rw[aP ne,aq],eI _,ne,e2,λ_=>none,(Heap.Ns1.of_empty e3).at λo q=>af _ q,λ_=>True.intro,λy hy=>absurd rL hy⟩
def Ux (hb:attributeBase e f env (eval e env)=eval e env)(h:wpAny (model prog w) A (eval e env) (λo j=>wpAny (model prog w) A (getAttr o f true) Q E j) E s):wpAny (model prog w) A (eval (.Attribute e f pos) env) Q E s:=Attribute_any_ h (by rw[arm_eval_Attribute,hb])
end
def WY (K:W.Frag)(ta:TE)(f:Str):TE:=λσ H Q=>ta σ H λx H1=>∃a C dx fs v,x=.ref a/\H1 a=some (.ins C dx fs)/\Cls K C/\iD K C f/\fs.lookup f=some v/\Q v H1
def afQ (K:W.Frag)(ta tv:TE)(f:Str):TS:=λD σ H=>tv σ H λy H1=>ta σ H1 λx j=>∃a C dx fs,x=.ref a/\j a=some (.ins C dx fs)/\Cls K C/\iD K C f/\fs.length<1000/\
 D.nx σ (upd j a (.ins C dx (g_ f y fs)))
section
variable {X:Cx}{o e value:Expr}{f:Str}{pos pos':Pos}{ta tv:TE}
variable {ak:AE}{σ:St}{H:Hp}{s:Shared}{A:Around}{E Q:AD}{c:Value}{b:Bool}
def afR (O:PE X e ta)(hb:attributeBase e f X.env (eval e X.env)=eval e X.env):PE X (.Attribute e f pos) (WY X.K ta f):=by intro ak s σ H Q I h;calc Ux hb (cg (O ak s σ H _ I h) λu s1 D=>?_);let⟨x,H1,j,Y,a,C,dx,fs,v,ex,F,c,n,l,q⟩:=D;subst ex;obtain rfl:u=Value.ref a:=Y;show WW j F c n l λZ s2 J G=>(JA v H1 ⟨J,G,q⟩)
def afS (ha:PE X o ta)(hv:PE X value tv)(hs:swapsWith value (some (.Attribute o f pos')) pos.line X.env=pure false):PS X (.Assign [.Attribute o f pos'] value pos) (afQ X.K ta tv f):=by intro ak s σ H D I h;calc plainObj_wpAny_Assign_Attribute (cg (hv ak s σ H _ I h) λu s1 j=>?_) hs;let⟨y,H1,F,J,q⟩:=j;calc cg (ha ak s1 σ H1 _ F q) λov s2 j=>?_;let⟨x,H2,O,Z,a,C,dx,fs,ex,G,c,n,l,q2⟩:=j;subst ex;obtain rfl:ov=Value.ref a:=Z;show WX O G c n l J λs3 Y=>(JA σ _ ⟨Y,q2⟩)
inductive mD (K:W.Frag) (H:Hp):V->Value->Prop where
 | non:mD K H .non (.type "NoneType")
 | bl (x:Bool):mD K H (.bl x) (.type "bool")
 | int (i:Int):mD K H (.int i) (.type "int")
 | str (x:Str):mD K H (.str x) (.type "str")
 | flt (x:UInt64):mD K H (.flt x) (.type "float")
 | lst {a:Addr} {xs:List V} (e:H a=some (.lst xs)):mD K H (.ref a) (.type "list")
 | pC {a:Addr} {o:Obj} {xs:List V} (e:H a=some (.pC o (.lst xs))):mD K H (.ref a) (.type "list")
 | tup {a:Addr} {xs:List V} (e:H a=some (.tup xs)):mD K H (.ref a) (.type "tuple")
 | dK {a:Addr} {kvs:List (Key×V)} (e:H a=some (.dK kvs)):mD K H (.ref a) (.type "dict")
 | dT {a:Addr} {kvs:List (List Key×V)} (e:H a=some (.dT kvs)):mD K H (.ref a) (.type "dict")
 | ins {a C dx:Addr} {fs:List (Str×V)} (e:H a=some (.ins C dx fs)) (cl:Cls K C) (ha:W.findIn K (.ref C) "__class__"=some (some (.builtin "object.__class__")))
   (hn:W.specialIn K (.builtin "object.__class__") "__get__"=some (some (.builtin "getset_descriptor.__get__"))) (htk:W.takesIn K (.builtin "object.__class__")=some true)
   (hm:W.mroIn K C (.type "object")=some true):mD K H (.ref a) (.ref C)
def Y8 (I:aQ X ak σ H s)(j:cD x u)(ty:mD X.K H x t)(e:W.kitOne X.K t c=some b)(h:∀tk,Q (.bool b) {s with toks:=tk}):wpAny (model X.prog X.w) A (call (.builtin "isinstance") [u,c]) Q E s:=by
 cases ty with
 | non=>cases(show u=Value.none from j);show eW W.kitx_none I.iY True.intro e (λz=>nomatch z) h
 | bl y=>cases(show u=Value.bool y from j);show eW W.kitx_bool I.iY True.intro e (λz=>nomatch z) h
 | int i=>let⟨t,q⟩:=(show ∃t,u=Value.int i t from j);cases q;show eW W.kitx_int I.iY True.intro e (λz=>nomatch z) h
 | str y=>let⟨t,q⟩:=(show ∃t,u=Value.str y t from j);cases q;show eW W.kitx_str I.iY True.intro e (λz=>nomatch z) h
 | flt y=>let⟨t,q⟩:=(show ∃t,u=Value.float y t from j);cases q;show eW W.kitx_float I.iY True.intro e (λz=>nomatch z) h
 | @lst a xs ea=>
  cases(show u=Value.ref a from j);let⟨_,_,n,_,h1⟩:=(show fP X.prog X.w H s.heap a (.lst xs) from I.hok a _ ea)
  show eW W.kitx_list I.iY ⟨_,h1,rL⟩ e (λz=>nomatch z) h
 | @pC a ob xs ea=>
  cases(show u=Value.ref a from j);let⟨_,_,_,n,_,h1⟩:=(show fP X.prog X.w H s.heap a (.pC ob (.lst xs)) from I.hok a _ ea)
  show eW W.kitx_list I.iY ⟨_,h1,rL⟩ e (λz=>nomatch z) h
 | @tup a xs ea=>
  cases(show u=Value.ref a from j);let⟨_,_,_,p⟩:=(show fP X.prog X.w H s.heap a (.tup xs) from I.hok a _ ea)
  let⟨o,h1,h2,_⟩:=p;show eW W.kitx_tuple I.iY ⟨o,h1,h2⟩ e (λz=>nomatch z) h
 | @dK a kvs ea=>
  cases(show u=Value.ref a from j);let⟨_,_,vs,_,p⟩:=(show fP X.prog X.w H s.heap a (.dK kvs) from I.hok a _ ea)
  let⟨o,es,ep,h1,h2,_⟩:=p;show eW W.kitx_dict I.iY ⟨o,h1,h2.1⟩ e (λz=>nomatch z) h
 | @dT a kvs ea=>
  cases(show u=Value.ref a from j);let⟨_,_,xs,_,o,es,ep,h1,h2,_⟩:=(show fP X.prog X.w H s.heap a (.dT kvs) from I.hok a _ ea)
  show eW W.kitx_dict I.iY ⟨o,h1,h2.1⟩ e (λz=>nomatch z) h
 | @ins a C dx fs ea cl ha hn htk hm=>cases(show u=Value.ref a from j);let⟨mA,O,_⟩:=yN I.hok ea;let⟨od,J,_⟩:=O.look;show eW (W.kitx_own (cl.get _) cl.hd ha hn htk hm) I.iY J e (λz=>nomatch z) h
end
structure fu (k:Nat)(A:Around):Prop where
 hd:A.handled=none
 dp:A.depth+3*k+5<recursionLimit
 un:A.units+16*k+200<cLine
def fu.mono (r:fu k A)(h:j<=k:=by decide):fu j A:=⟨r.hd,by have:=r.dp;lia,by have:=r.un;lia⟩
def fu.deeper (r:fu (k+1) A)(env):fu k (A.deeper env):=⟨r.hd,by have:=r.dp;show A.depth+1+3*k+5<_;lia,by have:=r.un;show A.units+3+16*k+200<_;lia⟩
def W0 {A:Around}:(A.under (.builtin "type.__call__" ⟨.ref C::us,kw⟩)).depth=A.depth+1:=by first|rfl|simp[Around.under,Code.weight,Code.isCreation,Code.isGuard,Code.isCaller,Code.frames,Code.isFrame,guardIds]
def W2 {A:Around}:(A.under (.builtin "type.__call__" ⟨.ref C::us,kw⟩)).units=A.units+1:=by first|rfl|simp[Around.under,Code.cUnits,Code.frames,Code.isFrame]
def fu.make (r:fu (k+1) A)(C)(us)(kw):fu k (A.under (.builtin "type.__call__" ⟨.ref C::us,kw⟩)):=⟨r.hd,by have:=r.dp;rw[W0];(simp_all;lia),by have:=r.un;rw[W2];(simp_all;lia)⟩
def fu.depth (r:fu k A):A.depth<recursionLimit:=by have:=r.dp;lia
def fu.units (r:fu k A):A.units+64<cLine:=by have:=r.un;lia
def fu.afT (r:fu k A):A.units<cLine:=by have:=r.un;lia
def zK:TA:=λ_ H Q=>Q [] H
def uU (ta:TE)(tr:TA):TA:=λσ H Q=>ta σ H λx H1=>tr σ H1 λxs j=>Q (x::xs) j
section
variable {X:Cx}{e:Expr}{es:List Expr}{te:TE}{t:TA}{pos:Pos}
def afU:PA X [] zK:=λ_ _ _ _ H Q I h=>ib (JA [] H ⟨I,.nil,h⟩)
def adL (ha:PE X e te)(F:PA X es t)(hs:starEach (e::es) X.env=(false,eval e X.env)::starEach es X.env:=by rfl):PA X (e::es) (uU te t):=by intro pos ak s σ H Q I h;rw[hs];show wpAny _ _ (spliced ((false,eval e X.env)::backTo pos (starEach es X.env))) _ _ s;calc fb (cg (ha ak s σ H _ I h) λu s1 D=>?_);let⟨x,H1,j,r1,q1⟩:=D;show cg (F pos ak s1 σ H1 _ j q1) λus s2 ⟨xs,G,J,O,q2⟩=>(JA (x::xs) G ⟨J,.cons r1 O,q2⟩)
def afV (t:TA):TE:=λσ H Q=>t σ H λxs H1=>xs.length<=sizeLine/\∀p,H1 p=none->Q (.ref p) (upd H1 p (.tup xs))
def afW (t:TA):TE:=λσ H Q=>t σ H λxs H1=>xs.length<=sizeLine/\∀p,H1 p=none->Q (.ref p) (upd H1 p (.lst xs))
def afX {x1}(h:PA X es t):PE X (.Tuple es x1 pos) (afV t):=by intro ak s σ H Q I D;calc wpAny_Tuple_spliced (cg (h pos ak s σ H _ I D) λus s1 ⟨xs,H1,j,r,z,q⟩=>⟨by rw[<-r.length];show z,?_⟩);let F:H1 s1.heap.objs.size=none:=j.hok.fresh (ai _);calc JA (.ref s1.heap.objs.size) (upd H1 s1.heap.objs.size (.tup xs)) ⟨j.laid (t':=s1.toks) (λb u e=>af _ e) (ai _) ?_,rL,q _ F⟩;show⟨z,us,r,⟨_,a_ _ rL,rL,_,rL⟩⟩
def afY (h:PA X es t):PE X (.List es pos) (afW t):=by intro ak s σ H Q I D;calc wpAny_List_spliced (cg (h pos ak s σ H _ I D) λus s1 ⟨xs,H1,j,r,z,q⟩=>⟨by rw[<-r.length];show z,?_⟩);let F:H1 s1.heap.objs.size=none:=j.hok.fresh (ai _);calc JA (.ref s1.heap.objs.size) (upd H1 s1.heap.objs.size (.lst xs)) ⟨j.laid (t':=s1.toks) (λb u e=>af _ e) (ai _) ?_,rL,q _ F⟩;show⟨z,us,0,r,a_ _ rL⟩
end
abbrev Sp:=List V->Hp->VK->XK->Prop
abbrev uh:=List Env->Hp->Shared->XK->Value->Shared->Prop
structure Gp (P:Program)(w:World)(K:W.Frag)(mg:Str->Option Value)(base:Heap)(A:Around)(outer:List Env)(s:Shared)(H:Hp):Prop where
 frames:A.frames=some outer
 mod:Mod K mg base
 bs:∀b o,base.get? b=some o->s.heap.get? b=some o/\H b=none
 Bl:base.objs.size<=s.heap.objs.size
 o_:s.heap.FunFrames base outer
 BL:∀b∈frs outer,H b=none
 hok:jW P w H s.heap
 bare:AllBare s.gens
def CE (outer:List Env)(P:Program)(w:World)(H:Hp)(s:Shared)(Q:VK)(u:Value)(s':Shared):Prop:=∃v H',s'.os=s.os/\AllBare s'.gens/\Un (frs outer) [] H H' s.heap s'.heap/\jW P w H' s'.heap/\cD v u/\Q v H'
def CR (CX:uh)(outer:List Env)(P:Program)(w:World)(H:Hp)(s:Shared)(Q:VK)(E:XK)(r:Result)(s':Shared):Prop:=match r with| .ok (.ret u)=>CE outer P w H s Q u s'| .ok _=>False| .error e=>CX outer H s E e s'
structure bZ (P:Program)(w:World)(K:W.Frag)(mg:Str->Option Value)(base:Heap)(CX:uh)(k:Nat)(f:Addr)(fd:FuncData)(ps:List Str)(sp:Sp):Prop where
 len:∀vs H Q E,sp vs H Q E->vs.length=ps.length
 run:∀(A:Around) (outer:List Env) (s:Shared) (H:Hp) (args:Args) (us:List Value) (vs:List V) (Q:VK) (E:XK),fu k A->Gp P w K mg base A outer s H->BindsTo s fd args (ps.zip us)->Vals vs us->sp vs H Q E->
  codeAny (model P w) A (.call (.ref f) args) (CR CX outer P w H s Q E) s
def Gp.make {K:W.Frag}{mg:Str->Option Value}{outer:List Env}(e:Gp P w K mg base A outer s H)(C:Addr)(us:List Value)(j:List (Str×Value)):Gp P w K mg base (A.under (.builtin "type.__call__" ⟨.ref C::us,j⟩)) outer s H:=⟨by first|show e.frames|(simpa [Around.under,Code.envs,Code.isFrame,pushEnvs] using e.frames),e.mod,e.bs,e.Bl,e.o_,e.BL,e.hok,e.bare⟩
section
variable {X:Cx}{ak:AE}{σ:St}{H:Hp}{s s':Shared}
def aQ.env0 (I:aQ X ak σ H s):Gp X.prog X.w X.K X.mg X.base X.A X.stack s H:=⟨I.ok.frames,I.ok.mod,I.bs,bP I.ok.Bl I.sz,I.stack,I.yL,I.hok,I.bare⟩
def aQ.after (I:aQ X ak σ H s)(h:CE X.stack X.prog X.w H s Q u s'):EP X ak σ Q u s':=by let⟨v,H',os,bare,un,hok,r,q⟩:=h;let⟨D,g,d,t,j⟩:=s';obtain rfl:j=s.os:=os;show JA v H' ⟨I.call (h':=D) (g':=g) (d':=d) (t':=t) (ch:=[]) un hok bare (λb z=>absurd z pi),r,q⟩
end
def W3 (sp:Sp)(jY:List V)(E:XK)(t:TA):TE:=λσ H Q=>t σ H λvs H1=>sp (vs++jY) H1 Q E
def Om (C:Addr)(m:Str)(sp:Sp)(jY:List V)(E:XK)(ta:TE)(t:TA):TE:=λσ H Q=>ta σ H λx H1=>∃a dx fs,x=.ref a/\H1 a=some (.ins C dx fs)/\fs.lookup m=none/\
 t σ H1 λvs j=>sp (x::(vs++jY)) j Q E
def ac7 (C:Addr)(sp:Sp)(jY:List V)(E:XK)(t:TA):TE:=λσ H Q=>t σ H λvs H1=>∀x dx,H1 x=none->H1 dx=none->dx≠x->
 sp (.ref x::(vs++jY)) (upd (upd H1 dx (.own x)) x (.ins C dx [])) (λv j=>v=.non/\Q (.ref x) j) E
def bN (K:W.Frag)(fd:FuncData)(ps:List Str)(ds:List Value):Prop:=∀(s:Shared) (us:List Value),K.In s.heap->(us++ds).length=ps.length->BindsTo s fd ⟨us,[]⟩ (ps.zip (us++ds))
def bN.all {K:W.Frag}{ps:List Str}(h:∀us:List Value,us.length=ps.length->bindArgs fd ⟨us,[]⟩=pure (ps.zip us)):bN K fd ps []:=λs us _ hl=>by rw[gT]at hl ⊢;show .of_eq (h us hl)
def Passes (CX:uh)(X:Cx)(E:XK):Prop:=∀(ak:AE) (σ:St) (H:Hp) (s:Shared) (e:Value) (s':Shared),aQ X ak σ H s->CX X.stack H s E e s'->X.xe e s'
section
variable {X:Cx}{CX:uh}{k:Nat}{f C:Addr}{fd:FuncData}{ps:List Str}{sp:Sp}{jY:List V}{ds:List Value}{E:XK}{x m:Str}{p pos apos:Pos}{e o:Expr}{es:List Expr}{ta:TE}{t:TA}
def Pq {ak:AE}{σ:St}{H:Hp}{s:Shared}{Q:VK}{us:List Value}{vs:List V}(F:bZ X.prog X.w X.K X.mg X.base CX k f fd ps sp)(G:fu k X.A)(hb:bN X.K fd ps ds)(hd:Vals jY ds)(hx:Passes CX X E)(I:aQ X ak σ H s)(r:Vals vs us)(h:sp (vs++jY) H Q E):wpAny (model X.prog X.w) X.A (call (.ref f) us) (EP X ak σ Q) X.xe s:=by
 let D:Vals (vs++jY) (us++ds):=r.append hd;let hl:(us++ds).length=ps.length:=by rw[<-D.length];show F.len _ _ _ _ h
 calc kQ (kK (F.run X.A X.stack s H ⟨us,[]⟩ (us++ds) (vs++jY) Q E G I.env0 (hb s us I.iY hl) D h) λr s' j=>?_);cases r with
 | error e=>show hx ak σ H s e s' I j
 | ok fl=>
  cases fl with| ret u=>show I.after j| next=>show False.elim j| brk=>show False.elim j| cont=>show False.elim j
def adM (F:bZ X.prog X.w X.K X.mg X.base CX k f fd ps sp)(J:fu k X.A)(O:Gl X x)(hm:X.mg x=some (.ref f))(Z:W.keepIn X.K (.ref f)=true)(hb:bN X.K fd ps ds)(hd:Vals jY ds)(hx:Passes CX X E)(ha:PA X (e::es) t)(D:(x==("__debug__":Str))=false:=by decide)(Y:starEach (e::es) X.env=(false,eval e X.env)::starEach es X.env:=by rfl)(j:(backTo pos (starEach es X.env)).any (·.1)=false:=by rfl):PE X (.Call (.Name x p) (e::es) [] pos) (W3 sp jY E t):=by intro ak s σ H Q I h;calc gN (oN I O hm ?_ D);calc iN (h₀:=X.base) I.ok.mod.HX Z (cg (ha pos ak s σ H _ I h) λus s1 ⟨vs,H1,G,r,q⟩=>⟨G.iY,?_⟩) Y j;show Pq F J hb hd hx G r q
def adN {pl:Sem Bool}(he:PE X o ta)(c:Cls X.K C)(hm:Meth X.K C m f)(F:bZ X.prog X.w X.K X.mg X.base CX k f fd ps sp)(Z:fu k X.A)(hb:bN X.K fd ps ds)(hd:Vals jY ds)(hx:Passes CX X E)(ha:PA X (e::es) t)(D:starEach (e::es) X.env=(false,eval e X.env)::starEach es X.env:=by rfl)(j:(backTo pos (starEach es X.env)).any (·.1)=false:=by rfl)(ht:eval (.Call (.Attribute o m apos) (e::es) [] pos) X.env=(do
   let ov <- eval o X.env
   standAt apos.atName
   let (f,first) <- holding [ov] (getMethod ov m pl)
   callWith pos f first (backTo pos (starEach (e::es) X.env)) (backToKw pos (keywordEach [] X.env))):=by rfl) :
  PE X (.Call (.Attribute o m apos) (e::es) [] pos) (Om C m sp jY E ta t):=by
 intro ak s σ H Q I h;calc W.methodCall_KW (pl:=pl) (cg (he ak s σ H _ I h) λu s1 O=>?_) ht;let⟨x,H1,G,rx,a,dx,fs,ex,Y,l,q⟩:=O;subst ex;obtain rfl:u=Value.ref a:=rx;calc Ie G Y c hm l ?_;calc iN (first:=[.ref a]) (h₀:=X.base) I.ok.mod.HX hm.kp (cg (ha pos ak s1 σ H1 _ G q) λus s2 ⟨vs,H2,J,r,q2⟩=>⟨J.iY,?_⟩) D j;show Pq (us:=.ref a::us) (vs:=.ref a::vs) F Z hb hd hx J (.cons rL r) q2
def abk (O:PE X o ta)(c:Cls X.K C)(hm:Meth X.K C m f)(F:bZ X.prog X.w X.K X.mg X.base CX k f fd ps sp)(J:fu k X.A)(hb:bN X.K fd ps ds)(hd:Vals jY ds)(hx:Passes CX X E)(ht:eval (.Call (.Attribute o m apos) [] [] pos) X.env=(do
   let ov <- eval o X.env
   standAt apos.atName
   let (f,first) <- holding [ov] (getMethod ov m pl)
   callWith pos f first (backTo pos (starEach [] X.env)) (backToKw pos (keywordEach [] X.env))):=by rfl) :
  PE X (.Call (.Attribute o m apos) [] [] pos) (Om C m sp jY E ta zK):=by
 intro ak s σ H Q I h;calc W.methodCall_KW (pl:=pl) (cg (O ak s σ H _ I h) λu s1 D=>?_) ht;let⟨x,H1,j,Y,a,dx,fs,ex,G,l,q⟩:=D;subst ex;obtain rfl:u=Value.ref a:=Y;calc Ie j G c hm l ?_;show W.callWith_K0 (first:=[.ref a]) j.iY hm.kp (Pq (us:=[.ref a]) (vs:=[.ref a]) F J hb hd hx j (.cons rL .nil) q)
structure Mk (K:W.Frag)(C f:Addr):Prop where
 makes:W.makesIn K C=true
 init:W.findIn K (.ref C) "__init__"=some (some (.ref f))
 fn:W.isFn K (.ref f)=true
 kp:W.keepIn K (.ref C)=true
def abl {ak:AE}{σ:St}{H:Hp}{s:Shared}{Q:VK}{us:List Value}{vs:List V}(M:Mk X.K C f)(F:bZ X.prog X.w X.K X.mg X.base CX k f fd ps sp)(Y:fu (k+1) X.A)(hb:bN X.K fd ps ds)(hd:Vals jY ds)(hx:Passes CX X E)(I:aQ X ak σ H s)(r:Vals vs us)(h:∀x dx,H x=none->H dx=none->dx≠x->sp (.ref x::(vs++jY)) (upd (upd H dx (.own x)) x (.ins C dx [])) (λv H2=>v=.non/\Q (.ref x) H2) E):wpAny (model X.prog X.w) X.A (call (.ref C) us) (EP X ak σ Q) X.xe s:=by
 let G:=h (s.heap.objs.size+1) s.heap.objs.size (I.hok.fresh (kq _)) (I.hok.fresh (ai _)) (cq (gr _));let D:=aQ.made (C:=C) I;let J:Vals (V.ref (s.heap.objs.size+1)::(vs++jY)) (Value.ref (s.heap.objs.size+1)::(us++ds)):=.cons rL (r.append hd);let hl:(Value.ref (s.heap.objs.size+1)::us++ds).length=ps.length:=by let e:=J.length;rw[F.len _ _ _ _ G]at e;show e.symm
 refine kQ (abj (f:=f) I.iY M.makes M.init (beq_iff_eq.mp M.fn) (kK (F.run _ X.stack _ _ ⟨Value.ref (s.heap.objs.size+1)::us,[]⟩ (Value.ref (s.heap.objs.size+1)::(us++ds)) _ _ E (Y.make C us [])
  (D.env0.make C us []) (hb _ (Value.ref (s.heap.objs.size+1)::us) D.iY hl) J G) λr s' j=>?_))
 cases r with
 | error e=>show hx ak σ _ _ e s' D j
 | ok fl=>
  cases fl with
  | ret u=>let⟨v,H',I3,Z,O,q3⟩:=D.after j;subst O;show⟨Z,(JA (V.ref (s.heap.objs.size+1)) H' ⟨I3,rL,q3⟩)⟩
  | next=>show False.elim j
  | brk=>show False.elim j
  | cont=>show False.elim j
def adO (M:Mk X.K C f)(F:bZ X.prog X.w X.K X.mg X.base CX k f fd ps sp)(J:fu (k+1) X.A)(O:Gl X x)(hm:X.mg x=some (.ref C))(hb:bN X.K fd ps ds)(hd:Vals jY ds)(hx:Passes CX X E)(ha:PA X (e::es) t)(D:(x==("__debug__":Str))=false:=by decide)(Y:starEach (e::es) X.env=(false,eval e X.env)::starEach es X.env:=by rfl)(j:(backTo pos (starEach es X.env)).any (·.1)=false:=by rfl):PE X (.Call (.Name x p) (e::es) [] pos) (ac7 C sp jY E t):=by intro ak s σ H Q I h;calc gN (oN I O hm ?_ D);calc iN (h₀:=X.base) I.ok.mod.HX M.kp (cg (ha pos ak s σ H _ I h) λus s1 ⟨vs,H1,G,r,q⟩=>⟨G.iY,?_⟩) Y j;show abl M F J hb hd hx G r q
end
structure aZ (N P:List Str)(sc:Scope):Prop where
 kind:sc.kind=.function:=by rfl
 co:sc.isCoroutine=false:=by rfl
 gen:sc.isGenerator=false:=by rfl
 nd:N.Nodup:=by decide +kernel
 pre:N.take P.length=P:=by rfl
 par:∀x∈P,sc.names.lookup x=some .local\/sc.names.lookup x=some .cell:=by decide +kernel
 afZ:∀y∈sc.names,y.2≠.free:=by decide +kernel
theorem Mf {kindOf:Str->Option NameKind}{x:Str}:∀{binds:List (Str×Value)} {m:Str->Option Value},(∀v,(x,v)∉binds)->bindL kindOf binds m x=m x
 | [],_,_=>rfl
 | (n,v)::r,m,h=>by
  unfold bindL;rw[Mf λw hw=>h w (bE _ hw)];split
  .have:x≠n:=by rintro rfl;show h v cf
   simp[this]
  .rfl
theorem Mg {kindOf:Str->Option NameKind}{x:Str}:∀{binds:List (Str×Value)} {m:Str->Option Value},(∀v,(x,v)∉binds)->bindC kindOf binds m x=m x
 | [],_,_=>rfl
 | (n,v)::r,m,h=>by
  unfold bindC;rw[Mg λw hw=>h w (bE _ hw)];split;.rfl
  .have:x≠n:=by rintro rfl;show h v cf
   simp[this]
theorem Mh {kindOf:Str->Option NameKind}{x:Str}:∀{P:List Str} {vs:List Value} {i:Nat} {m:Str->Option Value},P.Nodup->P[i]?=some x->vs[i]?=some v->kindOf x=some .local->
  bindL kindOf (P.zip vs) m x=some v
 | [],_,_,_,_,h,_,_=>by simp at h
 | _::_,[],_,_,_,_,h,_=>by simp at h
 | p::P,w::vs,0,m,nd,h1,h2,hk=>by simp at h1 h2;subst h1;subst h2;show bindL kindOf ((p,w)::P.zip vs) m p=_;unfold bindL;rw[Mf λv j=>(gV.mp nd).1 (oC j).1,if_pos hk];simp
 | p::P,w::vs,i+1,m,nd,h1,h2,hk=>by show bindL kindOf ((p,w)::P.zip vs) m x=_;unfold bindL;show Mh (i:=i) (gV.mp nd).2 (by simpa using h1) (by simpa using h2) hk
theorem Mi {kindOf:Str->Option NameKind}{x:Str}:∀{P:List Str} {vs:List Value} {i:Nat} {m:Str->Option Value},P.Nodup->P[i]?=some x->vs[i]?=some v->kindOf x≠some .local->
  bindC kindOf (P.zip vs) m x=some v
 | [],_,_,_,_,h,_,_=>by simp at h
 | _::_,[],_,_,_,_,h,_=>by simp at h
 | p::P,w::vs,0,m,nd,h1,h2,hk=>by simp at h1 h2;subst h1;subst h2;show bindC kindOf ((p,w)::P.zip vs) m p=_;unfold bindC;rw[Mg λv j=>(gV.mp nd).1 (oC j).1,if_neg hk];simp
 | p::P,w::vs,i+1,m,nd,h1,h2,hk=>by show bindC kindOf ((p,w)::P.zip vs) m x=_;unfold bindC;show Mi (i:=i) (gV.mp nd).2 (by simpa using h1) (by simpa using h2) hk
def start (N:List Str)(vs:List V):St:=vs.map some++List.replicate (N.length-vs.length) none
noncomputable def rQ (CX:uh)(P:Program)(w:World)(K:W.Frag)(mg:Str->Option Value)(base:Heap)(N:List Str)(qual:Str)(scope:Scope)(f:Addr)(cd:Value)(A:Around)(outer:List Env)(s:Shared)(H:Hp)(E:XK):Cx where
 prog:=P
 w:=w
 K:=K
 mg:=mg
 base:=base
 A:=A.deeper (envOfC qual scope s.heap.objs.size f cd)
 N:=N
 s₀:=s
 H₀:=H
 env:=envOfC qual scope s.heap.objs.size f cd
 outer:=outer
 stack:=envOfC qual scope s.heap.objs.size f cd::outer
 ex:=[]
 calm:=true
 fn:=λ_=>true
 pn:=[]
 xe:=λe s'=>wpAny (model P w) (A.deeper (envOfC qual scope s.heap.objs.size f cd)) (leaving (envOfC qual scope s.heap.objs.size f cd) e) (λ_ j=>CX outer H s E e j) (λD j=>CX outer H s E D j) s'
def Pr {sc:Scope}(h:sc.names.lookup x=some .cell):∃c,(cellsFrom n sc.names []).lookup x=some c:=by let q:=W.cellsFrom_some sc.names n [] (.inl h);show Option.isSome_iff_exists.mp q
def Y9 {CX:uh}{K:W.Frag}{mg:Str->Option Value}{N ps:List Str}{qual:Str}{scope:Scope}{A:Around}{outer:List Env}{E:XK}{vs:List V}(S:aZ N ps scope)(hd:A.handled=none)(j:Gp P w K mg base A outer s H)(hl:vs.length=ps.length)(r:Vals vs us)(x:InCallC s s.heap.objs.size (bindL (envOfC qual scope s.heap.objs.size f cd).kindOf (ps.zip us) λ_=>none) (cellsFrom (s.heap.objs.size+1) scope.names []) (bindC (envOfC qual scope s.heap.objs.size f cd).kindOf (ps.zip us) λ_=>none) s1):aQ (rQ CX P w K mg base N qual scope f cd A outer s H E) [] (start N vs) H s1:=by
 let I:ps.length<=N.length:=by have:=congrArg List.length S.pre;rw[am]at this;lia
 let⟨h1,tk,rfl,F⟩:=x.done;let Y:∀b:Addr,b∉(rQ CX P w K mg base N qual scope f cd A outer s H E).ex:=λb z=>absurd (show b∈([]:List Addr) from z) pi;refine⟨⟨j.mod,S.kind,rL,rL,ai _,λy z c h1 h2=>?_,λy hy=>?_,λy c _ h=>?_,λ_=>hd,Around.frames_deeper j.frames,.inr ⟨rL,rL⟩,λb z=>absurd z (Y b),j.bs,j.Bl,λb _ _=>Y b,λb z=>absurd z (Y b),j.o_,j.BL⟩,
  rfl,j.bare,Un.kept F,⟨_,x.toInCall.ns,λi y v h1 h2 h3=>?_⟩,λy c h=>⟨_,x.cell y c h⟩,j.hok.fresh (ai _),λy c h=>?_,λp hp=>absurd (show p∈([]:AE) from hp) pi,j.hok.kept F,?_⟩
 .show name_of_addr x.apart (ir h1) (ir h2)
 .let hy:scope.names.lookup y=some .cell\/scope.names.lookup y=some .free:=hy;rcases hy with hy|hy;.show Pr hy
  .show absurd rL (S.afZ _ (ir hy))
 .show ap (x.above y c (ir h))
 .let hi:i<vs.length:=by
   unfold start at h2;by_cases hi:i<vs.length;.show hi
   .rw[be (by simpa using hi)]at h2;rw[List.getElem?_replicate]at h2;split at h2 <;> cases h2
  let ha:vs[i]?=some v:=by
   unfold start at h2;rw[a9 (by simpa using hi),ck]at h2;cases e:vs[i]? with
   | none=>rw[e]at h2;cases h2
   | some a=>rw[e]at h2;cases h2;rfl
  let⟨u,G,J⟩:=r.get ha;let hp:ps[i]?=some y:=by rw[<-S.pre,List.getElem?_take_of_lt (by simp_all)];show h1
  let D:ps.Nodup:=by rw[<-S.pre];show S.nd.sublist (List.take_sublist _ _)
  calc⟨u,J,?_⟩;rcases S.par y (bo hp) with k|k;.show .inl ⟨k,Mh D hp G k⟩
  .let⟨c,e⟩:=Pr (n:=s.heap.objs.size+1) k;calc .inr ⟨.inl k,c,e,?_⟩;let q:=x.cell y c e;rw[Mi D hp G (by show scope.names.lookup y≠_;rw[k];decide)]at q;show q
 .show j.hok.fresh (ap (x.above y c (ir h)))
 .unfold start;show _=N.length;rw[av,aa,cy];simp_all
def ac8 {CX:uh}{P:Program}{w:World}{K:W.Frag}{mg:Str->Option Value}{base:Heap}{k:Nat}{f:Addr}{name qual:Str}{j:Arguments}{body:List Stmt}{scope:Scope}{dV kV doc pm bG ct oc:Value}{an od:Option Addr}{osl:Array (Option Value)}{N ps:List Str}{sp:Sp}(lk:K.lookup f=some ⟨oc,od,.func (W.fnOf name qual j body scope dV kV doc pm an bG ct),osl⟩)(hcd:W.codeIn K bG qual=true)(S:aZ N ps scope)(len:∀vs H Q E,sp vs H Q E->vs.length=ps.length)(D:∀(A:Around) (outer:List Env) (s:Shared) (H:Hp) (vs:List V) (Q:VK) (E:XK),fu k (A.deeper (envOfC qual scope s.heap.objs.size f bG))->sp vs H Q E->
   ∃t,vL (rQ CX P w K mg base N qual scope f bG A outer s H E) body t/\t {nx:=λ_ H'=>Q .non H',rt:=Q} (start N vs) H) :
  bZ P w K mg base CX (k+1) f (W.fnOf name qual j body scope dV kV doc pm an bG ct) ps sp:=by
 calc⟨len,λA outer s H args us vs Q E Z Y hb r O=>?_⟩;let hl:=len _ _ _ _ O;let KX:K.In s.heap:=Y.mod.HX.keeps λb o e=>(Y.bs b o e).1;let lim:s.heap.NoLimit:=Y.mod.nolimit.keeps λb o e=>(Y.bs b o e).1;let F:∀y∈ps.zip us,scope.names.lookup y.1=some .local\/(scope.names.lookup y.1=some .cell/\((cellsFrom (s.heap.objs.size+1) scope.names []).lookup y.1).isSome=true):=λ⟨n,v⟩ hy=>by
  rcases S.par n (oC hy).1 with q|q;.show .inl q
  .show .inr ⟨q,W.cellsFrom_some _ _ _ (.inl q)⟩
 calc codeAny_call_function Z.depth (KX _ _ lk) rL S.co S.gen rL (W.codeRec_of KX hcd) (hb _ _ _ _ ?_);calc wpAny_newFunctionEnv_cells S.kind F λenv he s1 x=>?_;subst he;calc⟨lim.keeps x.toInCall.keep,codeAny_func ?_⟩;let⟨t,ht,hq⟩:=D A outer s H vs Q E (Z.deeper _) O;let I:aQ (rQ CX P w K mg base N qual scope f bG A outer s H E) [] (start N vs) H s1:=Y9 S Z.hd Y hl r x;calc eh (ht [] s1 (start N vs) H _ I hq) (λfl s' hs=>?_) λe s' hs=>hs;let G:∀{σ':St} {H':Hp} {v:V} {u:Value},aQ (rQ CX P w K mg base N qual scope f bG A outer s H E) [] σ' H' s'->cD v u->Q v H'->CE outer P w H s Q u s':=λ{σ' H' v u} J rv q=>(JA v H' ⟨J.os,J.bare,J.base,J.hok,rv,q⟩)
 cases fl with
 | ret u=>let⟨v,σ',H',J,rv,q⟩:=hs;show G J rv q
 | next=>let⟨σ',H',J,q⟩:=hs;show G (v:=V.non) (u:=Value.none) J rL q
 | brk=>let⟨_,_,_,q⟩:=hs;show False.elim q
 | cont=>let⟨_,_,_,q⟩:=hs;show False.elim q
section
variable {X:Cx}{x:Str}{p pos:Pos}{e:Expr}{es:List Expr}{t:TA}{id T:String}{r:List V->Hp->VK->Prop}
def tCB (r:List V->Hp->VK->Prop)(t:TA):TE:=λσ H Q=>t σ H λvs H1=>r vs H1 Q
def abm (Y:iJ X (.builtin id) r)(G:Gl X x)(hm:X.mg x=none)(O:bootBuiltins x=some (.builtin id))(ha:PA X (e::es) t)(hn:x≠"__name__":=by decide)(D:(x==("__debug__":Str))=false:=by decide)(J:starEach (e::es) X.env=(false,eval e X.env)::starEach es X.env:=by rfl)(j:(backTo pos (starEach es X.env)).any (·.1)=false:=by rfl):PE X (.Call (.Name x p) (e::es) [] pos) (tCB r t):=by intro ak s σ H Q I h;calc gN (qG I G hm O ?_ hn D);show ml (cg (ha pos ak s σ H _ I h) λus s1 ⟨vs,H1,F,r1,q1⟩=>Y ak s1 σ H1 vs us Q F r1 q1) J j
def Za (Y:iJ X (.type T) r)(G:Gl X x)(hm:X.mg x=none)(O:bootBuiltins x=some (.type T))(ha:PA X (e::es) t)(hn:x≠"__name__":=by decide)(D:(x==("__debug__":Str))=false:=by decide)(J:starEach (e::es) X.env=(false,eval e X.env)::starEach es X.env:=by rfl)(j:(backTo pos (starEach es X.env)).any (·.1)=false:=by rfl):PE X (.Call (.Name x p) (e::es) [] pos) (tCB r t):=by intro ak s σ H Q I h;calc gN (qG I G hm O ?_ hn D);show ee (cg (ha pos ak s σ H _ I h) λus s1 ⟨vs,H1,F,r1,q1⟩=>Y ak s1 σ H1 vs us Q F r1 q1) J j
end
end L2
namespace HT
open PySem PyProof.Rows
section
variable {prog:Program}{w:World}{A:Around}{E:AD}{s:Shared}
def adP {vs ws:List Value}(ht:IsTup s.heap t vs.toArray)(hb:IsTup s.heap b ws.toArray)(hv:vs≠[])(h1:ws=[]->Q (.ref t) s)(h2:ws≠[]->Q (.ref s.heap.objs.size) {s with heap:=s.heap.push {cls:=.type "tuple",data:=.seq (vs++ws).toArray} })(hsz:vs.length+ws.length<=sizeLine):wpAny (model prog w) A (binaryOp .Add (.ref t) (.ref b)) Q E s:=by
 obtain⟨⟨cls,dd,data,sl⟩,J,hc,n,hd⟩:=id ht;obtain⟨⟨Y,D,O,I⟩,j,G,Z,F⟩:=id hb;simp only at hc hd G F;subst hc hd G F;let e:vs.toArray++ws.toArray=(vs++ws).toArray:=pi;by_cases hw:ws=[]
 .show concat_meets ⟨_,J,rL⟩ ⟨_,j,rL⟩ noFill_tuple_add seq_tuple_add lp kU (kL _ _)
   (tuple_addW1 t b vs.toArray ws.toArray n Z dd D sl I (by simpa using hv) (by simp[hw])) ⟨J,j,h1 hw⟩
 .refine concat_meets ⟨_,J,rL⟩ ⟨_,j,rL⟩ noFill_tuple_add seq_tuple_add lp kU (kL _ _)
   (tuple_addW2 t b vs.toArray ws.toArray n Z dd D sl I (by simpa using hv) (by simpa using hw) (by rw[ba,ba];show hsz)) ⟨J,j,?_⟩
  rw[e];show h2 hw
def cV (n d:Nat):Option Int->Nat
 | none=>d
 | some v=>if v<0 then (v+(n:Int)).toNat else min v.toNat n
def rR (n d):cV n d none=d:=rfl
def kO (n d k:Nat):cV n d (some (k:Int))=min k n:=by show (if (k:Int)<0 then ((k:Int)+(n:Int)).toNat else min (k:Int).toNat n)=min k n;rw[if_neg o6,dP]
def Zb (n d)(hd:d<=n)(o):cV n d o<=n:=by
 cases o with
 | none=>show hd
 | some v=>
  show (if v<0 then (v+(n:Int)).toNat else min v.toNat n)<=n;by_cases j:v<0;.rw[if_pos j];lia
  .rw[if_neg j];show Nat.min_le_right _ _
def J4 (v:Int)(n d:Nat):(if v<0 then max (v+(n:Int)) 0 else min v (n:Int))=((cV n d (some v):Nat):Int):=by
 show (if v<0 then max (v+(n:Int)) 0 else min v (n:Int))=(((if v<0 then (v+(n:Int)).toNat else min v.toNat n):Nat):Int)
 by_cases j:v<0;.simp only[if_pos j];lia
 .simp only[if_neg j];grind
def W4 (lo hi:Option Int)(n:Nat):Builtin.Slice.sliceAdjust lo hi 1 (n:Int)=(((cV n 0 lo:Nat):Int),((cV n n hi:Nat):Int)):=by
 let h1:¬((1:Int)<0):=o6;unfold Builtin.Slice.sliceAdjust;simp only[h1,if_false];refine Prod.ext ?_ ?_
 .cases lo with| none=>rfl| some v=>show J4 v n 0
 .cases hi with| none=>rfl| some v=>show J4 v n n
def W5 (i j:Nat):Builtin.Slice.slicePlaces (i:Int) (j:Int) 1=j-i:=by unfold Builtin.Slice.slicePlaces;let h1:(1:Int) > 0:=o6;simp only[h1,if_true,Int.ediv_one];split <;> simp_all
def Ig (p:IsPart v o)(h:Q o s):wpAny (model prog w) A (Builtin.Slice.slicePartIndex v) Q E s:=by
 cases p with| none=>show slicePart_none h| int i t=>show slicePart_int h
def vN {sl:Addr}{G F:Value}{lo hi:Option Int}{n:Nat}{Q:Int×Int×Nat->Shared->Prop}(hs:s.heap.IsSliceOf sl G F .none)(pl:IsPart G lo)(I:IsPart F hi)(h:Q (((cV n 0 lo:Nat):Int),1,cV n n hi-cV n 0 lo) s):wpAny (model prog w) A (Builtin.Slice.sliceApplied (.ref sl) (pure (n:Int))) Q E s:=by let⟨os,D,J,j⟩:=id hs;unfold Builtin.Slice.sliceApplied Builtin.Slice.sliceFields;calc ae (ae (e_ D j (x:=G) rL (ae (e_ D j (x:=F) rL (ae (e_ D j (x:=.none) rL (aw ?_)))))));calc ae (slicePart_none ?_);show wpAny _ _ (if ((1:Int)==0)=true then _ else _) _ _ s;rw[if_neg pj];calc ae (Ig pl (ae (Ig I (ae (aw ?_)))));show wpAny _ _ (match Builtin.Slice.sliceAdjust lo hi 1 (n:Int) with|(lo,hi)=>pure (lo,(1:Int),Builtin.Slice.slicePlaces lo hi 1)) _ _ s;rw[W4 lo hi n];show wpAny _ _ (pure (((cV n 0 lo:Nat):Int),(1:Int),Builtin.Slice.slicePlaces ((cV n 0 lo:Nat):Int) ((cV n n hi:Nat):Int) 1)) _ _ s;rw[W5];show aw h
def abn (xs:Array Value)(i k:Nat):((List.range k).filterMap λ(m:Nat)=>xs[((i:Int)+(m:Int)*1).toNat]?).toArray=((xs.toList.drop i).take k).toArray:=by
 let e:(λ(m:Nat)=>xs[((i:Int)+(m:Int)*1).toNat]?)=λm=>xs[i+m]?:=by
  funext m;have:((i:Int)+(m:Int)*1).toNat=i+m:=by lia
  rw[this]
 rw[e];have:=pick_run xs i k;rw[List.filterMap_map]at this;let e2:((λx=>xs[x]?) ∘ λx=>i+x)=λm=>xs[i+m]?:=rfl;rw[e2]at this;rw[this]
def Fj {lo hi:Option Int}(ht:IsTup s.heap t items)(hs:s.heap.IsSliceOf sl vl vu .none)(pl:IsPart vl lo)(J:IsPart vu hi)(hw:¬(cV items.size 0 lo=0/\cV items.size items.size hi=items.size))(h:Q (.ref s.heap.objs.size) {s with heap:=s.heap.push {cls:=.type "tuple",data:=.seq ((items.toList.drop (cV items.size 0 lo)).take (cV items.size items.size hi-cV items.size 0 lo)).toArray} })(hsz:items.size<=sizeLine):wpAny (model prog w) A (getItem (.ref t) (.ref sl)) Q E s:=by
 let O:sizeOk (.seq ((items.toList.drop (cV items.size 0 lo)).take (cV items.size items.size hi-cV items.size 0 lo)).toArray):=by show ((items.toList.drop (cV items.size 0 lo)).take (cV items.size items.size hi-cV items.size 0 lo)).toArray.size<=sizeLine;rw[ba,am,bc,fm];lia
 let Y:cV items.size items.size hi<=items.size:=Zb _ _ (ai _) hi;let⟨os,G,F,I⟩:=id hs;let D:s.TypeIs (.ref sl) "slice":=⟨os,G,F⟩
 unfold getItem
 try with_reducible refine hV ?_
 first|refine ae (aw ?_)|skip
 calc ae (wpAny_sequenceKey ht.typeIs pj ?_);refine ae (iE (name:=Str.ofString "__getitem__") ht.typeIs fh
  (gu fh ht.typeIs entry_tuple_getitem ?_ (args_tuple_getitem _ _)))
 show wpAny _ _ (Builtin.Tuple.tupleItemsOf (.ref t) >>= _) _ _ s;calc ae (tupleItemsOf_ ht ?_);calc ae (wpAny_typeOf D ?_);rw[if_pos pj];calc ae (vN hs pl J ?_);let j:¬((((cV items.size 0 lo:Nat):Int)==0&&(1:Int)==1&&(cV items.size items.size hi-cV items.size 0 lo)==items.size)=true):=by intro q;rw[cn,cn]at q;let q1:((cV items.size 0 lo:Nat):Int)=0:=eq_of_beq q.1.1;let q2:cV items.size items.size hi-cV items.size 0 lo=items.size:=eq_of_beq q.2;show hw ⟨Iff.mp Int.ofNat_inj q1,by simp_all⟩
 show wpAny _ _ (if (((cV items.size 0 lo:Nat):Int)==0&&(1:Int)==1&&(cV items.size items.size hi-cV items.size 0 lo)==items.size)=true then _ else _) _ _ s;rw[if_neg j,abn]
 first| show ae (m:=Builtin.Tuple.tupleExact _) (gg (aw ⟨_,rL,aw h⟩) O)| show ae (m:=Builtin.Tuple.tupleExact _) (gg (ae (aw (aw ⟨_,rL,aw h⟩))) O)| show ae (ae (m:=Builtin.Tuple.tupleExact _) (gg (aw (aw ⟨_,rL,aw h⟩)) O))| show ae (ae (m:=Builtin.Tuple.tupleExact _) (gg (aw ⟨_,rL,aw h⟩) O))
end
end HT
namespace L2
open PySem PySem.Spec PyProof.Rows
abbrev TO:=St->Hp->(Option Int->Hp->Prop)->Prop
def PO (X:Cx)(e:Option Expr)(t:TO):Prop:=∀(ak:AE) (s:Shared) (σ:St) (H:Hp) (Q:Option Int->Hp->Prop),aQ X ak σ H s->t σ H Q->
  wpAny (model X.prog X.w) X.A (evalPart e X.env) (λu s'=>∃o H',aQ X ak σ H' s'/\IsPart u o/\Q o H') X.xe s
def Uy:TO:=λ_ H Q=>Q none H
def ac9 (t:TE):TO:=λσ H Q=>t σ H λx H1=>∃i,x=.int i/\Q (some i) H1
section
variable {X:Cx}{e:Expr}{te:TE}{lo hi:Option Expr}{tl th:TO}{pos p2:Pos}
def adQ:PO X none Uy:=by intro ak s σ H Q I h;rw[evalPart_none];show aw (JA none H ⟨I,.none,h⟩)
def adR (h:PE X e te):PO X (some e) (ac9 te):=by intro ak s σ H Q I hw;rw[evalPart_some];calc cg (h ak s σ H _ I hw) λu s1 D=>?_;let⟨x,H1,j,r1,q1⟩:=D;let⟨i,rfl,q⟩:=q1;let⟨t,rfl⟩:=r1;show JA (some i) H1 ⟨j,.int i t,q⟩
def Uz (X:Cx)(r:V->Option Int->Option Int->Hp->VK->Prop):Prop:=∀(ak:AE) (s:Shared) (σ:St) (H:Hp) (x:V) (v D j:Value) (lo hi:Option Int) (sl:Addr) (Q:VK),aQ X ak σ H s->cD x v->s.heap.IsSliceOf sl D j .none->IsPart D lo->IsPart j hi->r x lo hi H Q->
  ∃T id,typeLookup (.type T) "__getitem__"=pure (some (.builtin id))/\s.TypeIs v T/\wpAny (model X.prog X.w) X.A (getItem v (.ref sl)) (EP X ak σ Q) X.xe s
def tSl (r:V->Option Int->Option Int->Hp->VK->Prop)(te:TE)(tl th:TO):TE:=λσ H Q=>te σ H λx H1=>tl σ H1 λl j=>th σ j λu D=>r x l u D Q
def abo (Y:Uz X r)(he:PE X e te)(hl:PO X lo tl)(hu:PO X hi th):PE X (.Subscript e (.Slice lo hi none p2) pos) (tSl r te tl th):=by intro ak s σ H Q I h;calc Subscript_ (cg (he ak s σ H _ I h) λv s1 D=>?_);let⟨x,H1,O,r1,q1⟩:=D;calc wpAny_Slice (cg (hl ak s1 σ H1 _ O q1) λF s2 D=>?_);let⟨l,H2,I2,pl,q2⟩:=D;calc cg (hu ak s2 σ H2 _ I2 q2) λG j D=>?_;let⟨u,J,I3,pu,q3⟩:=D;rw[evalPart_none];calc aw ?_;let I4:aQ X ak σ J {j with heap:=j.heap.push {cls:=.type "slice",data:=.fields #[F,G,.none]} }:=I3.kept (t':=j.toks) λb ob q=>af _ q;let⟨T,id,hT,ht,Z⟩:=Y ak {j with heap:=j.heap.push {cls:=.type "slice",data:=.fields #[F,G,.none]} } σ J x v F G l u j.heap.objs.size Q I4 r1 (Heap.IsSliceOf.new ..) pl pu q3;show wpAny (model X.prog X.w) X.A (subscriptTail e (.Slice lo hi none p2) v (.ref j.heap.objs.size)) (EP X ak σ Q) X.xe {j with heap:=j.heap.push {cls:=.type "slice",data:=.fields #[F,G,.none]} };show tail_any (ops:=[.ref j.heap.objs.size,v]) ht hT Z (by with_unfolding_all rfl)
noncomputable def gH (xs:List V)(lo hi:Option Int):List V:=(xs.drop (HT.cV xs.length 0 lo)).take (HT.cV xs.length xs.length hi-HT.cV xs.length 0 lo)
def Fz (xs)(lo hi):(gH xs lo hi).length<=xs.length:=by unfold gH;rw[am,bc];lia
def Vals.yO (r:Vals xs us):us=[]↔xs=[]:=by
 cases r with| nil=>simp| cons _ _=>simp
end
noncomputable def Bm (n:Nat)(i:Int):Option Nat:=if 0<=i then (if i<n then some i.toNat else none) else if -(n:Int)<=i then some (i+n).toNat else none
def rK {α:Type}(xs:List α)(i:Int):Option α:=(Bm xs.length i).bind λj=>xs[j]?
def UG (h:Bm n i=some j):seqIndex? i n=some j/\j<n/\-(n:Int)<=i/\i<n:=by
 unfold Bm at h;by_cases h0:0<=i
 .rw[if_pos h0]at h;by_cases h1:i<n
  .rw[if_pos h1]at h;let e:i.toNat=j:=bp h;show⟨by rw[seqIndex_of h0 h1,e],o6,o6,h1⟩
  .rw[if_neg h1]at h;cases h
 .rw[if_neg h0]at h;by_cases h1:-(n:Int)<=i
  .rw[if_pos h1]at h;let e:(i+n).toNat=j:=bp h;show⟨by rw[seqIndex_neg o6 h1,e],o6,h1,o6⟩
  .rw[if_neg h1]at h;cases h
def J5 {α:Type}{xs:List α}{v:α}(h:rK xs i=some v):∃j,seqIndex? i xs.length=some j/\xs[j]?=some v/\j<xs.length/\-(xs.length:Int)<=i/\i<xs.length:=by
 unfold rK at h;cases e:Bm xs.length i with
 | none=>rw[e]at h;cases h
 | some j=>rw[e]at h;let⟨h1,h2,h3,h4⟩:=UG e;show⟨j,h1,h,h2,h3,h4⟩
def aN {α:Type}{xs:List α}{j:Nat}{v:α}(h:xs[j]?=some v):rK xs (j:Int)=some v:=by
 let D:j<xs.length:=(ag.mp h).1;let e:Bm xs.length (j:Int)=some j:=by unfold Bm;rw[if_pos o6,if_pos (Iff.mpr mm D)];simp
 unfold rK;rw[e];show h
def Gq {α:Type}(xs:List α)(v:α):rK (xs++[v]) (-1)=some v:=by
 let hl:(xs++[v]).length=xs.length+1:=pi;let e:Bm (xs++[v]).length (-1)=some xs.length:=by unfold Bm;rw[hl,if_neg pj,if_pos o6];congr 1;simp +arith
 unfold rK;rw[e];show (xs++[v])[xs.length]?=some v;simp
def Em (b:Expr):Prop:=∀o i,subscripted b false o i=operate [o,i] (getItem o i)
def FJ (X:Cx)(r:R2):Prop:=∀(value j:Expr) (ak:AE) (s:Shared) (σ:St) (H:Hp) (x y:V) (v u:Value) (Q:VK),aQ X ak σ H s->cD x v->cD y u->r x y H Q->
  subscripted j false v u=operate [v,u] (getItem v u)->wpAny (model X.prog X.w) X.A (subscriptTail value j v u) (EP X ak σ Q) X.xe s
def wO (X:Cx)(id:String)(r:V->List V->Hp->VK->Prop):Prop:=∀(ak:AE) (s:Shared) (σ:St) (H:Hp) (x:V) (xs:List V) (v:Value) (us:List Value) (Q:VK),aQ X ak σ H s->cD x v->Vals xs us->r x xs H Q->
  wpAny (model X.prog X.w) X.A (call (.builtin id) (v::us)) (EP X ak σ Q) X.xe s
section
variable {X:Cx}{a b:Expr}{ta tb:TE}{pos:Pos}
def ahP (j:FJ X r)(ha:PE X a ta)(hb:PE X b tb)(hs:Em b):PE X (.Subscript a b pos) (Fy r ta tb):=by intro ak s σ H Q I h;show Subscript_ (abe ha hb I h λv u s2 x y F G J D q=>j a b ak s2 σ F x y v u Q G J D q (hs _ _))
def af0 (K:W.Frag):R2:=λx y H Q=>∃p xs i v,x=.ref p/\y=.int i/\bB K H p xs/\rK xs i=some v/\Q v H
def af2 (K:W.Frag):R2:=λx y H Q=>∃p xs i v,x=.ref p/\y=.int i/\aO K H p xs/\rK xs i=some v/\Q v H
def aiG:R2:=λx y H Q=>∃z i c,x=.str z/\y=.int i/\z.length<=sizeLine/\rK z.cps.toList i=some c/\Q (.str ⟨#[c]⟩) H
def fH:FJ X (af0 X.K):=by
 intro value G ak s σ H x y v u Q I rx O h hs;let⟨p,xs,i,z,rfl,rfl,hq,Y,q⟩:=h;cases rx;let⟨t,rfl⟩:=O;let⟨its,r,pl,hz⟩:=I.list hq;let⟨j,h1,h2,h3,h4,h5⟩:=J5 Y;let⟨w,J,Z⟩:=r.get h2;let hl:=r.length;let hn:=yM;let D:EP X ak σ Q w s:=(JA z H ⟨I,Z,q⟩)
 by_cases h0:0<=i
 .let F:i.toNat=j:=by
   rw[seqIndex_of h0 h5]at h1;show bp h1
  show item_listR pl.isList h0 o6 (by rw[F];simpa using J) D hs
 .let F:(i+(its.toArray.size:Int)).toNat=j:=by
   rw[seqIndex_neg o6 h4]at h1;rw[ba,<-hl];show bp h1
  show subscriptTail_builtinR (x:=w) pl.isList.typeIs slot_list_getitem.lookup
   (wpAny_getItem_list_neg (Q:=λr s'=>r=w/\EP X ak σ Q r s') pl.isList o6 (by rw[ba] <;> lia) o6 (by rw[F];simpa using J) ⟨rL,D⟩) hs
def bw:FJ X (af2 X.K):=by
 intro value F ak s σ H x y v u Q I rx G h hs;let⟨p,xs,i,z,rfl,rfl,Y,J,q⟩:=h;cases rx;let⟨t,rfl⟩:=G;let⟨its,r,pl,hz⟩:=I.tuple Y;let⟨j,h1,h2,h3,h4,h5⟩:=J5 J;let⟨w,O,Z⟩:=r.get h2;let hl:=r.length;let hn:=yM;let D:EP X ak σ Q w s:=(JA z H ⟨I,Z,q⟩)
 show subscriptTail_builtinR (x:=w) pl.typeIs slot_tuple_getitem.lookup
  (getItem_tuple (j:=j) (Q:=λr s'=>r=w/\EP X ak σ Q r s') pl o6 o6 (by rw[ba,<-hl];show h1) (by simpa using O) ⟨rL,D⟩) hs
def af3:FJ X aiG:=by
 intro value D ak s σ H x y v u Q I J F h hs;let⟨z,i,c,rfl,rfl,hz,G,q⟩:=h;let⟨t,rfl⟩:=J;let⟨t',rfl⟩:=F;let⟨j,h1,h2,h3,h4,h5⟩:=J5 G;let hl:z.cps.toList.length=z.length:=by simp[Str.length]
 rw[hl]at h1 h4 h5;let hn:=yM;show tail_any (typeIs_str s z t) slot_str_getitem.lookup (getItem_str (c:=c) (by
  let e1:decide (i < -(2^63:Int))=false:=ah o6;let e2:decide (i>=2^63)=false:=ah o6;rw[e1,e2,Bool.or_false]) (by rw[h1];simpa using h2) (JA (.str ⟨#[c]⟩) H ⟨I.tok _,⟨_,rL⟩,q⟩)) hs
def W6 (its:List Value)(n j)(u):Obj.mapSeq (·.setIfInBounds j u) {cls:=.type "list",data:=.seq its.toArray n}={cls:=.type "list",data:=.seq (its.set j u).toArray n}:=by simp[Obj.mapSeq]
def aQ.lst {ak:AE}{σ:St}{H:Hp}{s:Shared}{p:Addr}{xs:List V}(I:aQ X ak σ H s)(h:H p=some (.lst xs)):∃(its:List Value) (n:Nat),Vals xs its/\s.heap.get? p=some {cls:=.type "list",data:=.seq its.toArray n}/\xs.length<=sizeLine:=by let⟨z,its,n,r,e⟩:=I.hok p _ h;show JA its n ⟨r,e,z⟩
def aQ.af4 {ak:AE}{σ:St}{H:Hp}{s:Shared}{p:Addr}{xs ys:List V}{its its':List Value}{n j:Nat}{f:Obj->Obj}(I:aQ X ak σ H s)(h:H p=some (.lst xs))(F:s.heap.get? p=some {cls:=.type "list",data:=.seq its.toArray n})(D:f {cls:=.type "list",data:=.seq its.toArray n}={cls:=.type "list",data:=.seq its'.toArray j })(r:Vals ys its')(hz:ys.length<=sizeLine)(t:Nat):aQ X ak σ (upd H p (.lst ys)) {s with heap:=s.heap.update p f,toks:=t}:=by
 let e:(s.heap.update p f).get? p=some {cls:=.type "list",data:=.seq its'.toArray j }:=by rw[gX f F (by rw[D] <;> rfl),D]
 calc I.write (x:=p) (e:=p) (by rw[h];trivial) (.inl rL) (λb u hb q=>(fi _ _ (gf hb)).trans q) ⟨_,e⟩ ?_;show⟨hz,its',j,r,e⟩
def ahQ:V->V->V->Hp->(Hp->Prop)->Prop:=λo i v H Q=>∃p xs k j,o=.ref p/\i=.int k/\H p=some (.lst xs)/\Bm xs.length k=some j/\Q (upd H p (.lst (xs.set j v)))
def set_list:abd X ahQ:=by
 intro ak s σ H o i v ov Z u Q I Y ri O h;let⟨p,xs,k,j,rfl,rfl,hp,J,q⟩:=h;cases Y;let⟨t,rfl⟩:=ri;let⟨its,n,r,F,hz⟩:=I.lst hp;let⟨h1,h2,h3,h4⟩:=UG J;let hl:=r.length;let hn:=yM;let G:aQ X ak σ (upd H p (.lst (xs.set j v))) {s with heap:=s.heap.update p (Obj.mapSeq (·.setIfInBounds j u))}:=I.af4 hp F (W6 its n j u) (r.set O j) (by rw[ej];show hz) s.toks
 by_cases h0:0<=k
 .let D:k.toNat=j:=by
   rw[seqIndex_of h0 h4]at h1;show bp h1
  show W.ki_setAt F h0 o6 (by rw[ba,<-hl];show h4) (by rw[D];show⟨_,G,q⟩)
 .let D:(k+(its.toArray.size:Int)).toNat=j:=by
   rw[seqIndex_neg o6 h3]at h1;rw[ba,<-hl];show bp h1
  show W.ki_setBack F o6 (by rw[ba,<-hl];show h3) o6 (by rw[D];show⟨_,G,q⟩)
def Pu (lo hi)(n):(sliceBounds lo hi none n).1=((HT.cV n 0 lo:Nat):Int)/\(sliceBounds lo hi none n).2.1=((HT.cV n n hi:Nat):Int)/\(sliceBounds lo hi none n).2.2=1:=by
 refine⟨?_,?_,rL⟩
 .cases lo with
  | none=>simp[sliceBounds,HT.cV]
  | some i=>
   simp only[sliceBounds,HT.cV,Option.getD_none,show (1:Int) > 0 by decide,if_true];by_cases h:i<0
   .simp only[h,if_true] <;> grind
   .simp only[h,if_false] <;> grind
 .cases hi with
  | none=>simp[sliceBounds,HT.cV]
  | some i=>
   simp only[sliceBounds,HT.cV,Option.getD_none,show (1:Int) > 0 by decide,if_true];by_cases h:i<0
   .simp only[h,if_true] <;> lia
   .simp only[h,if_false] <;> lia
def Ny (its:List Value)(lo hi):slicePick its.toArray lo hi none=((its.drop (HT.cV its.length 0 lo)).take (HT.cV its.length its.length hi-HT.cV its.length 0 lo)).toArray:=by let⟨h1,h2,h3⟩:=Pu lo hi its.toArray.size;unfold slicePick;rw[h1,h2,h3];simp only[sliceRange_one,pick_run,ba] <;> rfl
def af5 (K:W.Frag):V->Option Int->Option Int->Hp->VK->Prop:=λx lo hi H Q=>∃a xs,x=.ref a/\bB K H a xs/\∀p,H p=none->Q (.ref p) (upd H p (.lst (gH xs lo hi)))
def vD:Uz X (af5 X.K):=by intro ak s σ H x v G J lo hi sl Q I F hs pl D h;let⟨a,xs,rfl,hx,q⟩:=h;cases F;let⟨its,r,ht,hz⟩:=I.list hx;let j:=r.length;calc JA ("list") _ ⟨slot_list_getitem.lookup,ht.isList.typeIs,?_⟩;calc wpAny_getItem_list_slice ht.isList hs pl D .none pi ?_ (by rw[ba] <;> simp_all);rw[Ny,<-j];calc JA (.ref s.heap.objs.size) _ ⟨I.laid (t':=s.toks) (o:=.lst (gH xs lo hi)) (λb ob q=>af _ q) (ai _) ?_,rL,q _ (I.hok.fresh (ai _))⟩;show⟨bP (Fz xs lo hi) hz,_,0,(r.drop (HT.cV xs.length 0 lo)).take (HT.cV xs.length xs.length hi-HT.cV xs.length 0 lo),a_ _ rL⟩
def uV:V->Bool
 | .non=>true
 | .bl _=>true
 | .int _=>true
 | .str _=>true
 | _=>false
noncomputable def FN:V->V->Bool
 | .non,.non=>true
 | .bl a,.bl b=>a==b
 | .bl a,.int b=>(if a then 1 else 0)==b
 | .int a,.bl b=>a==(if b then 1 else 0)
 | .int a,.int b=>a==b
 | .str a,.str b=>a==b
 | _,_=>false
def af6 (F:cD y u)(j:cD x v)(G:uV y=true)(D:uV x=true):SeqAt.EqAt A s u v (FN y x):=by
 cases y with
 | non=>
  cases F;cases x with
  | non=>cases j;show SeqAt.EqAt.same _
  | bl b=>cases j;show SeqAt.EqAt.none_bool b
  | int b=>let⟨t,rfl⟩:=j;show SeqAt.EqAt.none_int b t
  | str b=>let⟨t,rfl⟩:=j;show SeqAt.EqAt.none_str b t
  | _=>show absurd (show false=true from D) bS
 | bl a=>
  cases F;cases x with
  | non=>cases j;show SeqAt.EqAt.bool_none a
  | bl b=>cases j;show SeqAt.EqAt.bool_bool a b
  | int b=>let⟨t,rfl⟩:=j;show SeqAt.EqAt.bool_int a b t
  | str b=>let⟨t,rfl⟩:=j;show SeqAt.EqAt.bool_str a b t
  | _=>show absurd (show false=true from D) bS
 | int a=>
  let⟨t',rfl⟩:=F;cases x with
  | non=>cases j;show SeqAt.EqAt.int_none a t'
  | bl b=>cases j;show SeqAt.EqAt.int_bool a t' b
  | int b=>let⟨t,rfl⟩:=j;show iO a t' b t
  | str b=>let⟨t,rfl⟩:=j;show SeqAt.EqAt.int_str a t' b t
  | _=>show absurd (show false=true from D) bS
 | str a=>
  let⟨t',rfl⟩:=F;cases x with
  | non=>cases j;show SeqAt.EqAt.str_none a t'
  | bl b=>cases j;show SeqAt.EqAt.str_bool a t' b
  | int b=>let⟨t,rfl⟩:=j;show SeqAt.EqAt.str_int a t' b t
  | str b=>let⟨t,rfl⟩:=j;show SeqAt.EqAt.str_str a t' b t
  | _=>show absurd (show false=true from D) bS
 | _=>show absurd (show false=true from G) bS
noncomputable def Ih (x:V)(u:Value):Bool:=match u with| .none=>FN .non x| .bool b=>FN (.bl b) x| .int i _=>FN (.int i) x| .str z _=>FN (.str z) x| _=>false
def Ze (r:cD y u)(f:uV y=true):Ih x u=FN y x:=by
 cases y with
 | non=>cases r;rfl
 | bl b=>cases r;rfl
 | int i=>let⟨t,rfl⟩:=r;rfl
 | str z=>let⟨t,rfl⟩:=r;rfl
 | _=>show absurd (show false=true from f) bS
theorem J6:∀{xs:List V} {us:List Value},Vals xs us->xs.all uV=true->us.any (Ih x)=xs.any λy=>FN y x
 | _,_,.nil,_=>rfl
 | y::xs,u::us,.cons r t,f=>by rw[List.all_cons,cn]at f;rw[ko,ko,Ze r f.1,J6 t f.2]
theorem Gr (F:cD x v)(D:uV x=true):∀{xs:List V} {us:List Value},Vals xs us->xs.all uV=true->∀u∈us,SeqAt.EqAt A s u v (Ih x u)
 | _,_,.nil,_=>λu j=>by cases j
 | y::xs,u::us,.cons r t,f=>λG j=>by
  rw[List.all_cons,cn]at f;rcases bX.mp j with rfl|j;.rw[Ze r f.1];show af6 r F f.1 D
  .show Gr F D t f.2 G j
def inV (x:V)(xs:List V):Bool:=xs.any λy=>FN y x
def rIn (K:W.Frag)(j:Bool):R2:=λx y H Q=>∃p xs,y=.ref p/\(bB K H p xs\/aO K H p xs)/\uV x=true/\xs.all uV=true/\Q (.bl (if j then !inV x xs else inV x xs)) H
def vO:fW X (compareOp .NotIn) (rIn X.K true):=by
 intro ak s σ H x y v u Q I F G h;let⟨p,xs,rfl,j,D,fs,q⟩:=h;cases G;rcases j with j|j
 .let⟨its,r,pl,hz⟩:=I.list j;calc SeqAt.notIn_listAt (Ih x) pl.isList (λw hw=>Gr F D r fs w (by simpa using hw)) (JA (.bl _) H ⟨I,rL,?_⟩);rw[show its.toArray.any (Ih x)=its.any (Ih x) by simp,J6 r fs];show q
 .let⟨its,r,pl,hz⟩:=I.tuple j;calc SeqAt.notIn_tupleAt (Ih x) pl (λw hw=>Gr F D r fs w (by simpa using hw)) (JA (.bl _) H ⟨I,rL,?_⟩);rw[show its.toArray.any (Ih x)=its.any (Ih x) by simp,J6 r fs];show q
def bW:iJ X (.builtin "len") (λxs H Q=>∃p ys,xs=[.ref p]/\(bB X.K H p ys\/aO X.K H p ys)/\Q (.int ys.length) H):=by
 intro ak s σ H xs us Q I r h;let⟨p,ys,rfl,j,q⟩:=h;let⟨u,rfl,G⟩:=vals1 r;cases G;let hn:=yM;rcases j with j|j
 .let⟨its,F,pl,hz⟩:=I.list j;let D:=F.length;show Calls.call_len_list pl.isList (by simp only[ba] <;> lia) (JA (.int ys.length) H ⟨I.tok _,⟨s.toks+1,by rw[ba,D]⟩,q⟩)
 .let⟨its,F,pl,hz⟩:=I.tuple j;let D:=F.length;show len_tuple pl (by simp only[ba] <;> lia) (JA (.int ys.length) H ⟨I.tok _,⟨s.toks+1,by rw[ba,D]⟩,q⟩)
def Px:iJ X (.builtin "len") (λxs H Q=>∃z,xs=[.str z]/\z.length<=sizeLine/\Q (.int z.length) H):=by intro ak s σ H xs us Q I r h;let⟨z,rfl,hz,q⟩:=h;let⟨u,rfl,t,rfl⟩:=vals1 r;let hn:=yM;show len_str o6 (JA (.int z.length) H ⟨I.tok _,⟨_,rL⟩,q⟩)
def iZ:iJ X (.type "tuple") (λxs H Q=>∃p ys,xs=[.ref p]/\((bB X.K H p ys/\∀l,H l=none->Q (.ref l) (upd H l (.tup ys)))\/(aO X.K H p ys/\Q (.ref p) H))):=by
 intro ak s σ H xs us Q I r h;let⟨p,ys,rfl,h⟩:=h;let⟨u,rfl,J⟩:=vals1 r;cases J;rcases h with⟨j,q⟩|⟨j,q⟩
 .let⟨its,D,pl,hz⟩:=I.list j;let O:=D.length;calc call_tuple_list pl.isList (λh' kp=>?_) (by simp only[ba] <;> lia);let F:aQ X ak σ H {s with heap:=h' }:=I.kept (t':=s.toks) kp;let G:aQ X ak σ (upd H h'.objs.size (.tup ys)) {s with heap:=h'.push {cls:=.type "tuple",data:=.seq its.toArray} }:=
   F.laid (t':=s.toks) (λb o e=>af _ e) (ai _) (show fP X.prog X.w _ _ _ (.tup ys) from ⟨hz,its,D,IsTup.new _ _⟩)
  show JA (.ref h'.objs.size) _ ⟨G,rL,q _ (F.hok.fresh (ai _))⟩
 .let⟨its,D,pl,hz⟩:=I.tuple j;show call_tuple_same pl (JA (.ref p) H ⟨I,rL,q⟩)
def tyV (K:W.Frag)(T:String)(x:V)(H:Hp):Prop:=match x with
 | .str _=>T="str"
 | .int _=>T="int"
 | .ref p=>(T="list"/\∃xs,bB K H p xs)\/(T="tuple"/\∃o,K.lookup p=some o/\o.cls=.type "tuple"/\o.dict=none)\/
   (T="dict"/\((∃kvs,H p=some (.dK kvs))\/∃kvs,H p=some (.dT kvs)))\/(T="set"/\∃S n,H p=some (.set S n))
 | _=>False
def Zf {ak:AE}{σ:St}{H:Hp}{s:Shared}{T:String}{x:V}{v:Value}(I:aQ X ak σ H s)(r:cD x v)(ty:tyV X.K T x H):s.TypeIs v T/\∀a,v=.ref a->∃ob,s.heap.get? a=some ob/\ob.dict=none:=by
 cases x with
 | str z=>let⟨t,rfl⟩:=r;cases(show T="str" from ty);show⟨typeIs_str s z t,λ_ e=>nomatch e⟩
 | int i=>let⟨t,rfl⟩:=r;cases(show T="int" from ty);show⟨typeIs_int s i t,λ_ e=>nomatch e⟩
 | ref p=>
  cases r;rcases ty with⟨rfl,xs,D⟩|⟨rfl,o,j,F,hd⟩|⟨rfl,j⟩|⟨rfl,S,n,j⟩
  .let⟨its,_,pl,_⟩:=I.list D;calc⟨pl.isList.typeIs,λa e=>?_⟩;cases e;let⟨o,n,e,c,hd,_⟩:=pl;show⟨o,e,hd⟩
  .calc⟨⟨o,I.iY p o j,F⟩,λa e=>?_⟩;cases e;show⟨o,I.iY _ o j,hd⟩
  .let z:∃o,s.heap.get? p=some o/\o.ExactDict:=by
    rcases j with⟨kvs,j⟩|⟨kvs,j⟩
    .let⟨_,_,_,_,o,_,_,e,ex,_⟩:=I.hok p _ j;show⟨o,e,ex⟩
    .let⟨_,_,_,_,o,_,_,e,ex,_⟩:=I.hok p _ j;show⟨o,e,ex⟩
   let⟨o,e,ex⟩:=z;calc⟨⟨o,e,ex.1⟩,λa e2=>?_⟩;cases e2;show⟨o,e,ex.2.1⟩
  .let⟨o,_,_,_,e,ex,_⟩:=I.hok p _ j;calc⟨⟨o,e,ex.1⟩,λa e2=>?_⟩;cases e2;show⟨o,e,ex.2.1⟩
 | _=>show False.elim ty
def abp (K:W.Frag)(T:String)(r:V->List V->Hp->VK->Prop)(to:TE):TE:=λσ H Q=>to σ H λx H1=>tyV K T x H1/\r x [] H1 Q
def tBM (K:W.Frag)(T:String)(r:V->List V->Hp->VK->Prop)(to:TE)(t:TA):TE:=λσ H Q=>to σ H λx H1=>tyV K T x H1/\t σ H1 λxs j=>r x xs j Q
variable {o e:Expr}{es:List Expr}{to:TE}{t:TA}{name:Str}{apos cpos:Pos}{T id:String}{r:V->List V->Hp->VK->Prop}
def af7 (O:PlainAttrs T)(slot:Slot T name id)(F:typeOf (.builtin id)=pure (.type "method_descriptor"))(hm:wO X id r)(Y:PE X o to)(D:attributeBase o name X.env (eval o X.env)=eval o X.env:=by rfl)(j:(apos.endLine==cpos.line)=true:=by rfl):PE X (.Call (.Attribute o name apos) [] [] cpos) (abp X.K T r to):=by intro ak s σ H Q I h;calc wpAny_Call_method0_late D j (cg (Y ak s σ H _ I h) λv s1 J=>?_);let⟨x,H1,G,r1,ty,q1⟩:=J;let⟨h1,h2⟩:=Zf G r1 ty;show JA T id ⟨O,slot,F,h1,h2,gI rL (PySem.evalArgs_none (hm ak s1 σ H1 x [] v [] Q G r1 .nil q1))⟩
def ahR (pa:PlainAttrs T)(slot:Slot T name id)(J:typeOf (.builtin id)=pure (.type "method_descriptor"))(hm:wO X id r)(ho:PE X o to)(ha:PA X (e::es) t)(F:attributeBase o name X.env (eval o X.env)=eval o X.env:=by rfl)(G:((backTo cpos (starEach (e::es) X.env)).all (λx=>!x.1)&&(backToKw cpos (keywordEach [] X.env)).all (λx=>x.1.isSome)
   && decide ((e::es).length+([]:List Keyword).length+(if ([]:List Keyword).isEmpty then 0 else 1)<30))=true:=by rfl)
  (D:(apos.endLine==cpos.line)=true:=by rfl) (hs:starEach (e::es) X.env=(false,eval e X.env)::starEach es X.env:=by rfl) (j:(backTo cpos (starEach es X.env)).any (·.1)=false:=by rfl) :
  PE X (.Call (.Attribute o name apos) (e::es) [] cpos) (tBM X.K T r to t):=by
 intro ak s σ H Q I h;calc wpAny_Call_method_late F G D rL (cg (ho ak s σ H _ I h) λv s1 Z=>?_);let⟨x,H1,O,r1,ty,q1⟩:=Z;let⟨h1,h2⟩:=Zf O r1 ty;calc JA T id ⟨pa,slot,J,h1,h2,?_⟩;let Y:=ha cpos ak s1 σ H1 _ O q1;rw[hs]at Y ⊢;calc gI (by show (false||(backTo cpos (starEach es X.env)).any (·.1))=false;rw[j] <;> rfl) (ii ?_);show cg Y λus s2 ⟨vs,H2,I2,r2,q2⟩=>hm ak s2 σ H2 x vs v us Q I2 r1 r2 q2
end
def MtM (X:Cx)(id:String)(r:V->List V->Hp->VK->Prop):Prop:=∀(ak:AE) (s:Shared) (σ:St) (H:Hp) (x:V) (xs:List V) (v:Value) (us:List Value) (Q:VK),aQ X ak σ H s->cD x v->Vals xs us->r x xs H Q->
  wpAny (model X.prog X.w) X.A (call (.builtin id) (v::us)) (EP X ak σ Q) X.xe s
theorem Vals.one:∀{x:V} {us:List Value},Vals [x] us->∃u,us=[u]/\cD x u
 | _,_,.cons r .nil=>⟨_,rL,r⟩
theorem Vals.zero:∀{us:List Value},Vals [] us->us=[]
 | _,.nil=>rfl
def Vals.dropLast (h:Vals xs us):Vals xs.dropLast us.dropLast:=by
 induction h with
 | nil=>show .nil
 | cons r t ih=>
  cases t with| nil=>show .nil| cons q t'=>show .cons r ih
theorem Vals.eraseIdx:∀{xs:List V} {us:List Value} (i:Nat),Vals xs us->Vals (xs.eraseIdx i) (us.eraseIdx i)
 | _,_,_,.nil=>.nil
 | _,_,0,.cons _ t=>t
 | _,_,i+1,.cons r t=>.cons r (Vals.eraseIdx i t)
theorem Vals.rep (h:Vals xs us):∀k:Nat,Vals (List.replicate k xs).flatten (List.replicate k us).flatten
 | 0=>.nil
 | k+1=>by rw[dE,dE,eK,eK];show Vals.append h (Vals.rep h k)
def W7 {α:Type}(l:List α):l.eraseIdx (l.length-1)=l.dropLast:=by
 induction l with
 | nil=>rfl
 | cons a r ih=>
  cases r with
  | nil=>rfl
  | cons b r=>
   let e:(a::b::r).length-1=((b::r).length-1)+1:=by let h1:(a::b::r).length=r.length+2:=rfl;let h2:(b::r).length=r.length+1:=rfl;show h2
   rw[e,iF,ih]
   all_goals rfl
theorem foldl_rep (its:List Value):∀(k:Nat) (j:List Value),
  List.foldl (λx1 D=>x1++D) j.toArray (List.replicate k its.toArray)=(j++(List.replicate k its).flatten).toArray
 | 0,j=>by simp
 | k+1,j=>by
  let e:j.toArray++its.toArray=(j++its).toArray:=pi;let e2:(j++its)++(List.replicate k its).flatten=j++(List.replicate (k+1) its).flatten:=by rw[dE,eK,List.append_assoc]
  rw[<-e2,<-foldl_rep its k (j++its),<-e,dE,mn]
section
variable {X:Cx}{ak:AE}{σ:St}{H:Hp}{s:Shared}{l:Addr}{xs ys:List V}
def aQ.W8 {its its':List Value}(I:aQ X ak σ H s)(j:H l=some (.lst xs))(e:s.heap.get? l=some {cls:=.type "list",data:=.seq its.toArray n})(F:f its.toArray=its'.toArray)(D:Vals ys its')(hz:ys.length<=sizeLine):aQ X ak σ (upd H l (.lst ys)) {s with heap:=s.heap.update l (Obj.mapSeq f),toks:=t' }:=by let q:=PySem.IsL.update e f;rw[F]at q;calc I.write (x:=l) (e:=l) (by rw[j];show trivial) (.inl rL) (λJ u hb G=>(fi s.heap (Obj.mapSeq f) (gf hb)).trans G) ⟨_,q⟩ ?_;show⟨hz,its',_,D,q⟩
def aQ.abq (I:aQ X ak σ H s)(j:Vals ys its)(hz:ys.length<=sizeLine):aQ X ak σ (upd H s.heap.objs.size (.lst ys)) {s with heap:=s.heap.push {cls:=.type "list",data:=.seq its.toArray},toks:=t' }:=I.laid (λ_ _ q=>af _ q) (ai _) ⟨hz,its,0,j,a_ _ rL⟩
def aQ.fresh (I:aQ X ak σ H s):H s.heap.objs.size=none:=I.hok.fresh (ai _)
def aQ.BW (I:aQ X ak σ H s)(j:H l=some (.lst xs)):xs.length<=sizeLine/\∃(its:List Value) (n:Nat),Vals xs its/\xs.length=its.length/\s.heap.get? l=some {cls:=.type "list",data:=.seq its.toArray n}:=by let⟨z,its,n,r,e⟩:=I.hok l _ j;show⟨z,its,n,r,r.length,e⟩
def Py (h:n<=sizeLine):Builtin.List.listTooLong n=false:=by unfold Builtin.List.listTooLong;show ah o6
end
section
variable {X:Cx}
def adS:V->List V->Hp->VK->Prop:=λx vs H Q=>∃l xs y,x=.ref l/\vs=[y]/\H l=some (.lst xs)/\xs.length<sizeLine/\Q .non (upd H l (.lst (xs++[y])))
def iG:MtM X "list.append" adS:=by intro ak s σ H x vs v us Q I J G h;let⟨l,xs,y,rfl,rfl,j,hz,q⟩:=h;cases J;let⟨u,rfl,D⟩:=G.one;let⟨z,its,n,r,hl,e⟩:=I.BW j;calc call_meets F.slot_list_append ⟨_,e,rL⟩ F.entry_list_append (F.args_list_append_2 _ _) (PySem.list_append l its.toArray n u (by rw[ba];simp_all)) ⟨e,?_⟩;calc JA .non _ ⟨I.W8 (its':=its++[u]) j e pi (r.append (.cons D .nil)) ?_,rL,q⟩;rw[av,ma];show hz
def adT:V->List V->Hp->VK->Prop:=λx vs H Q=>∃l b xs zs,x=.ref l/\vs=[.ref b]/\H l=some (.lst xs)/\H b=some (.lst zs)/\xs.length+zs.length<=sizeLine/\Q .non (upd H l (.lst (xs++zs)))
def Zg:MtM X "list.extend" adT:=by
 intro ak s σ H x vs v us Q I rx O h;let⟨l,b,xs,zs,rfl,rfl,D,G,hz,q⟩:=h;cases rx;let⟨u,rfl,J⟩:=O.one;cases J;let⟨z,its,n,r,hl,e⟩:=I.BW D;let⟨z2,j,Z,r2,Y,e2⟩:=I.BW G;let hsz:its.toArray.size+j.toArray.size<=sizeLine:=by rw[ba,ba];simp_all
 let Ii:¬(!its.toArray.isEmpty&&Builtin.List.listTooLong (its.toArray.size+j.toArray.size))=true:=by rw[Py hsz,Bool.and_false];show bS
 refine call_meets F.slot_list_extend ⟨_,e,rL⟩ F.entry_list_extend (F.args_list_extend_2 _ _)
  (AutoSeq1.list_extend_list_list_0 l its.toArray n b j.toArray Z Ii (by rw[ba];simp_all) (Nat.le_succ_of_le hsz)) ⟨e,e2,?_⟩
 calc JA .non _ ⟨I.W8 (its':=its++j) D e pi (r.append r2) ?_,rL,q⟩;rw[av];show hz
def aiH:V->List V->Hp->VK->Prop:=λx vs H Q=>∃l xs y,x=.ref l/\vs=[]/\H l=some (.lst xs)/\xs[xs.length-1]?=some y/\Q y (upd H l (.lst xs.dropLast))
def Ij:MtM X "list.pop" aiH:=by
 intro ak s σ H x vs v us Q I Z O h;let⟨l,xs,y,rfl,rfl,G,hy,q⟩:=h;cases Z;let j:=O.zero;subst j;let⟨z,its,n,r,hl,e⟩:=I.BW G;let⟨u,Y,J⟩:=r.get hy;let D:its.toArray[its.toArray.size-1]?=some u:=by show its.toArray[its.length-1]?=some u;rw[<-Array.getElem?_toList,<-hl];show Y
 calc call_meets F.slot_list_pop ⟨_,e,rL⟩ F.entry_list_pop (F.args_list_pop_1 _) (MeetsSeq.list_pop_last l its.toArray n u D (by rw[ba];simp_all)) ⟨e,?_⟩;refine JA y _ ⟨I.W8 (its':=its.dropLast) G e ?_ r.dropLast ?_,J,q⟩
 .show its.toArray.eraseIdxIfInBounds (its.toArray.size-1)=its.dropLast.toArray;rw[ba,List.eraseIdxIfInBounds_toArray,W7]
 .rw[mo];show bP (Nat.sub_le _ _) z
def aiI:R2:=λx y H Q=>∃l b xs zs,x=.ref l/\y=.ref b/\H l=some (.lst xs)/\H b=some (.lst zs)/\xs.length+zs.length<=sizeLine/\∀p,H p=none->Q (.ref p) (upd H p (.lst (xs++zs)))
def Zh:fW X (binaryOp .Add) aiI:=by intro ak s σ H x y v u Q I Y J h;let⟨l,b,xs,zs,rfl,rfl,G,F,hz,q⟩:=h;cases Y;cases J;let⟨z,its,n,r,hl,e⟩:=I.BW G;let⟨z2,j,n2,Z,O,e2⟩:=I.BW F;calc PySem.P.add_list e e2 ?_ (by rw[ba,ba];lia);let D:its.toArray++j.toArray=(its++j).toArray:=pi;rw[D];show JA (.ref _) _ ⟨I.abq (t':=s.toks) (r.append Z) (by rw[av];lia),rL,q _ I.fresh⟩
def aiJ:R2:=λx y H Q=>∃l k xs,x=.ref l/\y=.int k/\H l=some (.lst xs)/\-(2^63)<=k/\k<2^63/\xs.length*k.toNat<=sizeLine/\
 ∀p,H p=none->Q (.ref p) (upd H p (.lst (List.replicate k.toNat xs).flatten))
def len_rep {α:Type}(xs:List α)(k):(List.replicate k xs).flatten.length=k*xs.length:=by
 induction k with| zero=>simp| succ k ih=>rw[dE,eK,av,ih,ot,Nat.add_comm]
def Zi:fW X (binaryOp .Mult) aiJ:=by
 intro ak s σ H x y v u Q I rx Y h;let⟨l,k,xs,rfl,rfl,O,h1,h2,hz,q⟩:=h;cases rx;let⟨t,rfl⟩:=Y;let⟨z,its,n,r,hl,e⟩:=I.BW O;let Z:its.toArray.size*k.toNat<=sizeLine:=by rw[ba,<-hl];show hz
 let D:¬its.toArray.size*k.toNat > (2^63-1)/8:=by
  have:(sizeLine:Nat)<=(2^63-1)/8:=by decide
  lia
 let j:¬(!Builtin.List.listFitsIndex k)=true:=by rw[fitsIndex_both h1 h2];show bS
 let Ii:¬Builtin.List.listTooLong (its.toArray.size*k.toNat)=true:=by rw[Py Z];show bS
 let G:List.foldl (λx1 J=>x1++J) #[] (List.replicate (if its.toArray.isEmpty=true then 0 else k.toNat) its.toArray)=(List.replicate k.toNat its).flatten.toArray:=by
  let f0:∀m:Nat,List.foldl (λx1 J=>x1++J) #[] (List.replicate m its.toArray)=(List.replicate m its).flatten.toArray:=λm=>by have:=foldl_rep its m [];rw[List.nil_append]at this;show this
  rw[f0];cases its with| nil=>simp| cons a r'=>rw[if_neg pi]
 refine kG (T:="list") (U:="int") pj ⟨_,e,rL⟩ (λs'=>typeIs_int s' k t) noFill_list_mul F.fills_int_mul F.slot_int_rmul repeat_list F.slot_int_index.lookup
  (call_meets F.slot_int_rmul (typeIs_int s k t) F.entry_int_rmul (F.args_int_rmul_2 _ _) (int___rmul___int_list k t l its.toArray n)
   ⟨e,rL,⟨_,e,rL⟩,call_meets F.slot_list_mul ⟨_,e,rL⟩ F.entry_list_mul (F.args_list_mul_2 _ _) (AutoListH.list___mul___list_int_3 l its.toArray n k t j D Ii) ⟨e,?_⟩⟩)
 rw[G];show JA (.ref _) _ ⟨I.abq (t':=s.toks) (r.rep k.toNat) (by rw[len_rep,Nat.mul_comm];show hz),rL,q _ I.fresh⟩
end
section
variable {κ:Type}[DecidableEq κ]
def fK (kvs:List (κ×V))(k:κ):Option V:=(kvs.find? λj=>decide (j.1=k)).map (·.2)
noncomputable def putK (kvs:List (κ×V))(k:κ)(v:V):List (κ×V):=if (kvs.any λj=>decide (j.1=k))=true then kvs.map (λj=>if j.1=k then (j.1,v) else j) else kvs++[(k,v)]
def jH {p:κ×V}(e:p.1=k):fK (p::r) k=some p.2:=by simp[fK,f_,e]
def jJ {p:κ×V}(e:¬p.1=k):fK (p::r) k=fK r k:=by simp[fK,f_,e]
theorem rT (k:κ):∀kvs:List (κ×V),(kvs.any λj=>decide (j.1=k))=(fK kvs k).isSome
 | []=>rfl
 | p::r=>by
  rw[ko];by_cases e:p.1=k;.simp only[jH e,al e,Bool.true_or,Option.isSome_some]
  .rw[jJ e,ah e,Bool.false_or];show rT k r
theorem Pz (k j:κ)(y):∀kvs:List (κ×V),fK (kvs.map λD=>if D.1=k then (D.1,y) else D) j=(fK kvs j).map λx=>if j=k then y else x
 | []=>rfl
 | p::r=>by
  let F:=Pz k j y r;rw[cv];by_cases h:p.1=k
  .rw[if_pos h];by_cases e:p.1=j;.rw[jH (p:=(p.1,y)) e,jH e,kH,if_pos (e.symm.trans h)]
   .rw[jJ (p:=(p.1,y)) e,jJ e,F]
  .rw[if_neg h];by_cases e:p.1=j;.rw[jH (p:=p) e,jH e,kH,if_neg (λz=>h (e.trans z))]
   .rw[jJ (p:=p) e,jJ e,F]
theorem Mj (k j:κ)(y):∀kvs:List (κ×V),fK kvs k=none->fK (kvs++[(k,y)]) j=if j=k then some y else fK kvs j
 | [],_=>by
  by_cases e:k=j;.rw[if_pos e.symm];show jH (p:=(k,y)) e
  .rw[if_neg (λz=>e z.symm)];show jJ (p:=(k,y)) e
 | p::r,hn=>by
  rw[ow];let D:¬p.1=k:=λz=>by rw[jH z]at hn;cases hn
  rw[jJ D]at hn;let F:=Mj k j y r hn;by_cases e:p.1=j;.rw[jH e,jH e,if_neg (λz=>D (e.trans z))]
  .rw[jJ e,jJ e,F]
def abr (kvs:List (κ×V))(k j:κ)(y):fK (putK kvs k y) j=if j=k then some y else fK kvs j:=by
 unfold putK;by_cases a:(kvs.any λD=>decide (D.1=k))=true
 .rw[if_pos a,Pz];rw[rT]at a;by_cases e:j=k
  .let⟨x,hx⟩:=Option.isSome_iff_exists.mp a;rw[if_pos e,e,hx,kH,if_pos rfl]
  .rw[if_neg e];cases fK kvs j with| none=>rfl| some x=>rw[kH,if_neg e]
 .rw[if_neg a];calc Mj k j y kvs ?_;rw[rT]at a;cases q:fK kvs k with| none=>rfl| some x=>rw[q]at a;show(a rL).elim
def yc (kvs:List (κ×V))(k:κ)(v):(putK kvs k v).length<=kvs.length+1:=by
 unfold putK;split;.rw[aa];lia
 .rw[av,dA,mw];lia
def abt {kvs:List (κ×V)}{k:κ}(v:V)(h:fK kvs k=none):putK kvs k v=kvs++[(k,v)]:=by unfold putK;rw[rT,h];show if_neg pj
def mC.BX (r:mC o u):o.isSome=u.isSome:=by
 cases o with
 | none=>cases u with| none=>rfl| some _=>show(show False from r).elim
 | some _=>cases u with| none=>show(show False from r).elim| some _=>rfl
def mC.getD (r:mC o u)(rd:cD d d'):cD (o.getD d) (u.getD d'):=by
 cases o with
 | none=>cases u with| none=>show rd| some _=>show(show False from r).elim
 | some _=>cases u with| none=>show(show False from r).elim| some _=>show r
def KV.val (r:KV kvs vs)(k:κ):mC (fK kvs k) (valueAt vs k):=by
 unfold KV at r
 induction r with
 | nil=>show True.intro
 | @cons p q ps qs h t ih=>
  let⟨h1,h2⟩:=h;by_cases e:p.1=k
  .let j:q.1=k:=h1.symm.trans e;let b:valueAt (q::qs) k=some q.2:=by simp[valueAt,f_,j]
   rw[jH e,b];show h2
  .let j:¬q.1=k:=λz=>e (h1.trans z)
   let b:valueAt (q::qs) k=valueAt qs k:=by simp[valueAt,f_,j]
   rw[jJ e,b];show ih
def KV.any (r:KV kvs vs)(k:κ):(kvs.any λj=>decide (j.1=k))=vs.any λj=>decide (j.1=k):=by
 unfold KV at r
 induction r with| nil=>rfl| cons h t ih=>rw[ko,ko,ih,h.1]
def KV.repl (r:KV kvs vs)(k:κ)(D:cD y u):KV (kvs.map λj=>if j.1=k then (j.1,y) else j) (vs.map λj=>if j.1=k then (j.1,u) else j):=by
 unfold KV at r ⊢
 induction r with
 | nil=>show .nil
 | @cons p q ps qs h t ih=>
  rw[cv,cv];calc .cons ?_ ih;let⟨h1,h2⟩:=h;by_cases e:p.1=k;.rw[if_pos e,if_pos (h1.symm.trans e)];show⟨h1,D⟩
  .rw[if_neg e,if_neg (λz=>e (h1.trans z))];show⟨h1,h2⟩
def KV.put (r:KV kvs vs)(k:κ)(j:cD y u):KV (putK kvs k y) (stored vs k u):=by
 unfold putK stored;rw[r.any k];by_cases e:(vs.any λD=>decide (D.1=k))=true;.rw[if_pos e,if_pos e];show r.repl k j
 .rw[if_neg e,if_neg e];show Paired.snoc r ⟨rL,j⟩
def KV.keys {kvs:List (κ×V)}{vs:List (κ×Value)}(r:KV kvs vs):kvs.map (·.1)=vs.map (·.1):=by
 unfold KV at r
 induction r with| nil=>rfl| cons h t ih=>rw[cv,cv,ih,h.1]
def KV.length {kvs:List (κ×V)}{vs:List (κ×Value)}(r:KV kvs vs):kvs.length=vs.length:=Paired.length r
end
def Ik (r:cD (kV k) u):(gG P w).is k u=true:=by
 cases k with
 | inl i=>let⟨t,e⟩:=(show ∃t,u=Value.int i t from r);subst e;show Tn P w i t
 | inr x=>let⟨t,e⟩:=(show ∃t,u=Value.str x t from r);subst e;show lE P w x t
theorem Ml:∀{j:List Key} {us:List Value},Vals (j.map kV) us->ItemsAre (gG P w) j us
 | [],_,r=>by rw[oy]at r;cases r;show .nil
 | k::j,_,r=>by
  rw[cv]at r;cases r with| cons h t=>show .cons (Ik h) (Ml t)
abbrev KT (H:Hp):List (List Key×V)->List (List Key×Addr×Value)->Prop:=Paired λp q=>p.1=q.1/\H q.2.1=some (.tup (p.1.map kV))/\cD p.2 q.2.2
def KT.val (r:KT H kvs xs)(k:List Key):mC (fK kvs k) ((atKey xs k).map (·.2)):=by
 induction r with
 | nil=>show True.intro
 | @cons p q ps qs h t ih=>
  let⟨h1,_,h2⟩:=h;by_cases e:p.1=k
  .let j:q.1=k:=h1.symm.trans e;let b:atKey (q::qs) k=some q.2:=by simp[atKey,f_,j]
   rw[jH e,b];show h2
  .let j:¬q.1=k:=λz=>e (h1.trans z)
   let b:atKey (q::qs) k=atKey qs k:=by simp[atKey,f_,j]
   rw[jJ e,b];show ih
def KT.repl (r:KT H kvs xs)(k:List Key)(D:cD y u):KT H (kvs.map λj=>if j.1=k then (j.1,y) else j) (xs.map (putAt k u)):=by
 induction r with
 | nil=>show .nil
 | @cons p q ps qs h t ih=>
  rw[cv,cv];calc .cons ?_ ih;let⟨h1,h2,h3⟩:=h;unfold putAt;by_cases e:p.1=k;.rw[if_pos e,if_pos (h1.symm.trans e)];show⟨h1,h2,D⟩
  .rw[if_neg e,if_neg (λz=>e (h1.trans z))];show⟨h1,h2,h3⟩
def KT.put (r:KT H kvs xs)(k:List Key)(hb:H b=some (.tup (k.map kV)))(j:cD y u):KT H (putK kvs k y) (storedH xs k b u):=by
 let e:(kvs.any λD=>decide (D.1=k))=(atKey xs k).isSome:=by rw[rT,(r.val k).BX,Option.isSome_map]
 unfold putK storedH;rw[e];by_cases q:(atKey xs k).isSome=true;.rw[if_pos q,if_pos q];show r.repl k j
 .rw[if_neg q,if_neg q];show Paired.snoc r ⟨rL,hb,j⟩
def KT.keeps (r:KT H kvs xs)(ht:∀b ys,H b=some (.tup ys)->H' b=some (.tup ys)):KT H' kvs xs:=Paired.aa7 r λ_ _ z=>⟨z.1,ht _ _ z.2.1,z.2.2⟩
section
variable {P:Program}{w:World}{H:Hp}{h:Heap}{a:Addr}
def ac_ (ok:jW P w H h)(e:Rd H a u):fP P w H h a u:=e.ok ok
def Il (ok:jW P w H h)(e:Rd H a (.dK kvs)):kvs.length<=sizeLine/\(a==sysModules)=false/\∃vs,KV kvs vs/\h.DictOf (gG P w) a vs:=show fP P w H h a (.dK kvs) from ac_ ok e
def W9 (ok:jW P w H h)(e:H a=some (.dK kvs)):kvs.length<=sizeLine/\(a==sysModules)=false/\∃vs,KV kvs vs/\h.DictOf (gG P w) a vs:=Il ok (.inl e)
def Im {j:List Key}(ok:jW P w H h)(e:H a=some (.tup (j.map kV))):(tupleKind (gG P w)).is h j a:=by
 let⟨_,its,r,o,h1,h2,n,h3⟩:=(show fP P w H h a (.tup (j.map kV)) from ok a _ e)
 show JE o its.toArray n ⟨h1,h2,h3,by simpa using Ml r⟩
def Oq (ok:jW P w H h)(e:Rd H a (.dT kvs)):kvs.length<=sizeLine/\(a==sysModules)=false/\
  ∃xs,KT H kvs xs/\h.DictOfH (tupleKind (gG P w)) a xs:=by
 let⟨z,y,xs,r,o,es,ep,h1,h2,h3,h4,h5⟩:=(show fP P w H h a (.dT kvs) from ac_ ok e)
 calc⟨z,y,xs,r,o,es,ep,h1,h2,h3,h4,λx hx=>?_,h5⟩;let all:∀{l:List (List Key×V)} {m:List (List Key×Addr×Value)},KT H l m->∀x∈m,(tupleKind (gG P w)).is h x.1 x.2.1:=by
  intro l m q
  induction q with
  | nil=>intro x hx;show nomatch hx
  | @cons p q ps qs hq t ih=>
   intro x hx;rcases bX.mp hx with e|hx
   .subst e;show Im ok (by rw[<-hq.1];show hq.2.1)
   .show ih x hx
 show all r x hx
def ahS (ok:jW P w H h)(e:H a=some (.dT kvs)):kvs.length<=sizeLine/\(a==sysModules)=false/\
  ∃xs,KT H kvs xs/\h.DictOfH (tupleKind (gG P w)) a xs:=Oq ok (.inl e)
end
def yd (H:Hp)(a:Addr)(y:V)(r:Option V):Prop:=(∃kvs k,Rd H a (.dK kvs)/\y=kV k/\r=fK kvs k)\/∃kvs k b,Rd H a (.dT kvs)/\y=.ref b/\H b=some (.tup (k.map kV))/\r=fK kvs k
def Gs (H:Hp)(a:Addr)(y v:V)(H':Hp):Prop:=(∃kvs k,H a=some (.dK kvs)/\y=kV k/\kvs.length<sizeLine/\H'=upd H a (.dK (putK kvs k v)))\/
 ∃kvs k b,H a=some (.dT kvs)/\y=.ref b/\H b=some (.tup (k.map kV))/\kvs.length<sizeLine/\H'=upd H a (.dT (putK kvs k v))
theorem yd.k {kvs:List (Key×V)}{k:Key}(e:H a=some (.dK kvs)):yd H a (kV k) (fK kvs k):=.inl (JA kvs k ⟨.inl e,rL,rL⟩)
theorem Gs.k {kvs:List (Key×V)}{k:Key}{v:V}(e:H a=some (.dK kvs))(hl:kvs.length<sizeLine):Gs H a (kV k) v (upd H a (.dK (putK kvs k v))):=.inl (JA kvs k ⟨e,rL,hl,rL⟩)
section
variable {X:Cx}{ak:AE}{σ:St}{H:Hp}{s:Shared}{a:Addr}{y v:V}{u r:Value}{o:Option V}{A:Around}{E:AD}
variable {kvs:List (Key×V)}
def aQ.big (I:aQ X ak σ H s):sysModules<s.heap.objs.size:=by let h:mainGlobals<s.heap.objs.size:=(I.mod.glob.keeps I.bk).lt;show Nat.lt_trans pj h
def aiK (G:A.units+1<cLine)(I:aQ X ak σ H s)(g:yd H a y o)(F:cD y u)(h:∀s',aQ X ak σ H s'->Q (.bool o.isSome) s'):wpAny (model X.prog X.w) A (compareOp .In u (.ref a)) Q E s:=by
 rcases g with⟨kvs,k,e,D,l⟩|⟨kvs,k,b,e,D,J,l⟩
 .subst D;let⟨z,hd,vs,j,dd⟩:=Il I.hok e;calc wpAny_in_of (Ik F) hd dd.mapOf ?_;rw[<-(j.val k).BX,<-l];show h _ (I.tok _)
 .subst D;cases(show u=Value.ref b from F);let⟨z,hd,xs,j,dd⟩:=Oq I.hok e;calc wpAny_in_heap (tupleKind_room_in1 G) (Im I.hok J) hd dd ?_;let q:=(j.val k).BX;rw[Option.isSome_map]at q;rw[<-q,<-l];show h _ (I.tok _)
def UJ (I:aQ X ak σ H s)(D:YD (H a))(hs:Heap.SameBut a s.heap h')(j:∃q,h'.get? a=some q)(new:fP X.prog X.w (upd H a ob) h' a ob):aQ X ak σ (upd H a ob) {s with heap:=h',toks:=t' }:=I.write (x:=a) (e:=a) D (.inl rL) (λb q hb z=>(hs.2 b hb).trans z) j new
def af8 {h':Heap}{kvs:List (Key×V)}(z:kvs.length<=sizeLine)(hd:(a==sysModules)=false)(j:KV kvs vs)(dd:h'.DictOf (gG P w) a vs):fP P w H' h' a (.dK kvs):=⟨z,hd,vs,j,dd⟩
def Zj (hu:A.units+1<cLine)(I:aQ X ak σ H s)(g:Gs H a y v H')(O:cD y u)(J:cD v r)(h:∀s',aQ X ak σ H' s'->Q () s'):wpAny (model X.prog X.w) A (setItem (.ref a) u r) Q E s:=by
 rcases g with⟨kvs,k,e,F,l,G⟩|⟨kvs,k,b,e,F,eb,l,G⟩
 .subst F G;let⟨z,hd,vs,j,dd⟩:=W9 I.hok e;let hz:vs.length<=sizeLine:=by rw[<-j.length];show z
  let hl:(putK kvs k v).length<=sizeLine:=by have:=yc kvs k v;lia
  calc wpAny_setItem_pairs (hsz:=hz) (Ik O) dd λh' Z hs=>h _ ?_;let he:∃q,h'.get? a=some q:=let ⟨q,_,_,D,_⟩:=Z;⟨q,D⟩
  show UJ I (by rw[e];show True.intro) hs he (af8 hl hd (j.put k J) Z)
 .subst F G;cases(show u=Value.ref b from O);let⟨z,hd,xs,j,dd⟩:=ahS I.hok e;let hz:xs.length<=sizeLine:=by rw[<-Paired.length j];show z
  let hl:(putK kvs k v).length<=sizeLine:=by have:=yc kvs k v;lia
  calc wpAny_setItem_heap (hsz:=hz) (tupleKind_room_in1 hu) (Im I.hok eb) dd λh' Z hs=>h _ ?_;let⟨q,es,ep,D,h2,h3,h4,_,h5⟩:=Z;calc UJ I (by rw[e];show True.intro) hs ⟨q,D⟩ ⟨hl,hd,_,(j.put k eb J).keeps λc ys Y=>?_,q,es,ep,D,h2,h3,h4,h5⟩;rw[aP (wM Y e (λz=>nomatch z))];show Y
def ahT (I:aQ X ak σ H s)(e:Rd H a (.dK kvs))(h:∀t s',aQ X ak σ H s'->Q (.int kvs.length t) s'):wpAny (model X.prog X.w) A (call (.builtin "len") [.ref a]) Q E s:=by let⟨z,hd,vs,j,dd⟩:=Il I.hok e;calc call_len_dict hd dd (by rw[<-j.length];rw[sizeLine_eq]at z;lia) ?_;rw[<-j.length];show h _ _ (I.tok _)
end
def af9 (ty td:TE):TE:=λσ H Q=>ty σ H λy H1=>td σ H1 λx j=>∃a o,x=.ref a/\yd j a y o/\Q (.bl o.isSome) j
def ada (td ty tv:TE):TS:=λD σ H=>tv σ H λv H1=>td σ H1 λx F=>ty σ F λy G=>∃a j,x=.ref a/\Gs G a y v j/\D.nx σ j
section
variable {X:Cx}{o i value:Expr}{pos pos':Pos}{td ty tv:TE}
def af_ (Z:X.A.units+1<cLine)(hi:PE X i ty)(O:PE X o td):PC X .In i o (af9 ty td):=by intro ak s σ H Q I h;calc cg (hi ak s σ H _ I h) λiv s1 j=>?_;let⟨y,H1,D,F,q1⟩:=j;calc cg (O ak s1 σ H1 _ D q1) λu s2 j=>?_;let⟨x,G,J,rx,a,ov,ex,g,q2⟩:=j;subst ex;obtain rfl:u=Value.ref a:=rx;show aiK Z J g F λs3 Y=>(JA (.bl ov.isSome) G ⟨Y,rL,q2⟩)
def adU (hu:X.A.units+1<cLine)(Z:PE X o td)(hi:PE X i ty)(hv:PE X value tv)(hs:swapsWith value (some (.Subscript o i pos')) pos.line X.env=pure false):PS X (.Assign [.Subscript o i pos'] value pos) (ada td ty tv):=by intro ak s σ H D I h;calc wpAny_Assign_Subscript (cg (hv ak s σ H _ I h) λr s1 j=>?_) hs;let⟨v,H1,F,G,q1⟩:=j;calc cg (Z ak s1 σ H1 _ F q1) λu s2 j=>?_;let⟨x,O,Y,rx,q2⟩:=j;calc cg (hi ak s2 σ O _ Y q2) λiv s3 j=>?_;let⟨y,H3,I3,J,a,H4,ex,g,q3⟩:=j;subst ex;obtain rfl:u=Value.ref a:=rx;show Zj hu I3 g J G λs4 I4=>(JA σ H4 ⟨I4,q3⟩)
end
def abu (h:Heap)(hb:sysModules<h.objs.size):fP P w H (h.push {cls:=.type "dict",data:=.dict #[]}) h.objs.size (.dK []):=⟨eI _,beq_eq_false_iff_ne.mpr (gf (cq hb)),[],.nil,Heap.DictOf.new h⟩
def Zn:TE:=λ_ H Q=>∀p,H p=none->Q (.ref p) (upd H p (.dK []))
section
variable {X:Cx}{pos:Pos}
def abv:PE X (.Dict [] [] pos) Zn:=λak s σ H Q I h=>wpAny_Dict_empty (JA (.ref s.heap.objs.size) _ ⟨I.laid (a:=s.heap.objs.size) (o:=.dK []) (t':=s.toks) (λ_ _ q=>af _ q) (ai _) (abu s.heap I.big),rL,h _ (I.hok.fresh (ai _))⟩)
end
structure M2 (X:Cx)(o:Expr)(m:Str)(apos:Pos)(e f:Expr)(cpos:Pos):Prop where
 base:attributeBase o m X.env (eval o X.env)=eval o X.env
 few:((backTo cpos (starEach [e,f] X.env)).all (λx=>!x.1)&&(backToKw cpos (keywordEach [] X.env)).all (λx=>x.1.isSome)
  && decide (([e,f]:List Expr).length+([]:List Keyword).length+(if ([]:List Keyword).isEmpty then 0 else 1)<30))=true
 line:(apos.endLine==cpos.line)=true
 trees:backTo cpos (starEach [e,f] X.env)=[(false,eval e X.env),(false,eval f X.env)]
def IsD (H:Hp)(a:Addr):Prop:=(∃kvs,Rd H a (.dK kvs))\/∃kvs,Rd H a (.dT kvs)
def aga {X:Cx}{ak:AE}{σ:St}{H:Hp}{s:Shared}{a:Addr}(I:aQ X ak σ H s)(d:IsD H a):s.TypeIs (.ref a) "dict"/\(∀b,Value.ref a=.ref b->∃ob,s.heap.get? b=some ob/\ob.dict=none)/\(a==sysModules)=false:=by
 rcases d with⟨kvs,e⟩|⟨kvs,e⟩
 .let⟨_,hd,vs,_,dd⟩:=Il I.hok e;calc⟨dd.typeIs,λb q=>?_,hd⟩;cases q;let⟨ob,_,_,h1,h2,_⟩:=dd;show⟨ob,h1,h2.2.1⟩
 .let⟨_,hd,xs,_,dd⟩:=Oq I.hok e;calc⟨dd.typeIs,λb q=>?_,hd⟩;cases q;let⟨ob,_,_,h1,h2,_⟩:=dd;show⟨ob,h1,h2.2.1⟩
section
variable {X:Cx}{ak:AE}{σ:St}{H:Hp}{s:Shared}{a:Addr}{y d:V}{u r:Value}{o:Option V}{A:Around}{E:AD}
def agb (J:A.units+1<cLine)(I:aQ X ak σ H s)(g:yd H a y o)(F:cD y u)(rd:cD d r)(h:∀G s',aQ X ak σ H s'->cD (o.getD d) G->Q G s'):wpAny (model X.prog X.w) A (call (.builtin "dict.get") [.ref a,u,r]) Q E s:=by
 rcases g with⟨kvs,k,e,D,l⟩|⟨kvs,k,b,e,D,O,l⟩
 .subst D;let⟨z,hd,vs,j,dd⟩:=Il I.hok e;calc call_meetsIn g9 dd.typeIs lv (kX _ _ _) (meets_dict_get_default (gG X.prog X.w) a (Ik F) hd r) ⟨_,dd.mapOf,h _ _ (I.tok _) ?_⟩;rw[l];show(j.val k).getD rd
 .subst D;cases(show u=Value.ref b from F);let⟨z,hd,xs,j,dd⟩:=Oq I.hok e;calc call_meetsIn g9 dd.typeIs lv (kX _ _ _) (meetsH_dict_get_default (tupleKind (gG X.prog X.w)) a b hd r) ⟨tupleKind_room_in1 J,k,xs,Im I.hok O,dd,h _ _ (I.tok _) ?_⟩;rw[l];show(j.val k).getD rd
end
def Zo (td ty tx:TE):TE:=λσ H Q=>td σ H λx H1=>∃a,x=.ref a/\IsD H1 a/\ty σ H1 λy D=>tx σ D λz j=>∃o,yd j a y o/\Q (o.getD z) j
section
variable {X:Cx}{o e f:Expr}{apos cpos:Pos}{td ty tx:TE}
def abw (hu:X.A.units+1<cLine)(Y:PE X o td)(O:PE X e ty)(hf:PE X f tx)(m:M2 X o "get" apos e f cpos):PE X (.Call (.Attribute o "get" apos) [e,f] [] cpos) (Zo td ty tx):=by
 intro ak s σ H Q I h;calc wpAny_Call_method m.base m.few m.line PySem.F.plainAttrs_dict g9 PySem.F.type_dict_get (cg (Y ak s σ H _ I h) λu s1 ⟨x,H1,j,rx,a,ex,d,q1⟩=>?_);subst ex;obtain rfl:u=Value.ref a:=rx;let⟨t1,t2,_⟩:=aga j d;calc⟨t1,t2,?_⟩;rw[m.trees];refine gI rL (ii (fb (cg (O ak s1 σ H1 _ j q1) λiv s2 ⟨y,G,J,F,q2⟩=>fb (cg (hf ak s2 σ G _ J q2) λfv s3 ⟨z,D,I3,rz,ov,g,q3⟩=>ib ?_))))
 show agb hu I3 g F rz λw' s4 I4 Z=>(JA _ D ⟨I4,Z,q3⟩)
end
end L2
namespace Att
open PySem PySem.W PySem.Calls PyProof.Rows
def Io:∀(ns:List Int) (vs:List Value),WellAll P h vs (ns.map WData.int)->IntsAre vs ns:=by
 intro ns
 induction ns with
 | nil=>intro vs w;rw[oy]at w;cases w;show .nil
 | cons n ns ih=>
  intro vs w;rw[cv]at w;cases w with| cons a b=>cases a;show .cons _ _ (ih _ b)
def Zq {l:OpenLaw}(hn:l.most=some n)(j:l.row.toRowW.claim.pre args=true)(D:WellAll P h vals args):∃a vs ns,vals=[Value.ref a]/\args=[WData.list (ns.map WData.int)]/\h.get? a=some {cls:=.type "list",data:=.seq vs.toArray}/\IntsAre vs ns/\ns.length<=n:=by
 let F:WShape.hasAll [] args [.list .int]=true:=(pre_splitW j).1;let G:l.pre.holds [] {args:=args}=true:=(pre_splitW j).2;let⟨d,r,rfl,h1,h2⟩:=hasAllW_cons F;obtain rfl:=hasAllW_nil h2;let⟨xs,rfl,h3⟩:=hasW_list h1;let⟨ns,rfl⟩:=items_int h3;let I:ns.length<=n:=by
  unfold OpenLaw.pre at G;let h4:(WTm.not (.lt (.lit (.int (n:Int))) (.len (.arg 0)))).holds [] {args:=[.list (ns.map .int)]}=true:=by let h4:=(holds_andW G).1;rw[hn]at h4;show h4
  let h5:=condW_of h4 (w_not (w_lt w_lit (w_len_list (w_arg rL))));rw[aa]at h5;calc Nat.le_of_not_lt λq=>?_;let J:(n:Int)<((ns.length:Nat):Int):=Iff.mpr mm q
  first| (rw[al J]at h5;show absurd h5 pj)| (simp at h5;lia)
 cases D with
 | cons w1 w2=>
  cases w2;cases w1 with| list ho hall=>show JE _ _ ns ⟨rL,rL,ho,Io ns _ hall,I⟩
def Zr (l:OpenLaw)(args:List WData):l.row.toRowW.claim.post args (.bool true) args=true:=postW_of (r:=l.row.toRowW) (X:=(true==true))
  (show WShape.has [] (.bool true) .bool=true by first|rfl|decide|simp[WShape.has,WShape.arms,WShape.armsAll])
  (show (WTm.eq .res (.lit (.bool true))).value [] {args:=args,res:=some (.bool true),after:=args}=some (.bool (true==true)) from w_eq_bool (w_res rL) w_lit) rfl
def Tp {l:OpenLaw}{d:DefRec}(hn:l.most=some n)(O:d.params.defaults=[])(call:∀(w:World) (s₀ j:Shared) (mg mb:Str->Option Value) (I:Addr) (o:Obj) (pm cd doc:Value) (a:Addr) (vs:List Value) (ns:List Int),
   Ground q loose [] XP w s₀ mg mb j.heap->YP w j.heap->
   j.heap.get? I=some o->o.data=.func (docDef d.name d.params d.body d.scope pm cd doc)->j.heap.CodeRec cd d.name->mg d.name=some (.ref I)->
   j.heap.get? a=some {cls:=.type "list",data:=.seq vs.toArray}->IntsAre vs ns->ns.length<=n->j.gens=#[]->
   codeAny (model l.prog w) callerA (.call (.ref I) ⟨[.ref a],[]⟩) (λr s'=>r=.ok (.ret (.bool true))/\OldK j.heap s'.heap/\s'.os=j.os/\AllBare s'.gens) j) :
  WalkO q loose XP YP l.row.toRowW d [] (λf vs=>PySem.call f vs):=by
 intro w s₀ j mg mb G Y I o pm cd doc dV kV ho hd hcd hD hmg hg args vals as J hlay hrd Z hlo;obtain rfl:dV=.none:=Dflts.none hD O;obtain rfl:kV=.none:=Dflts.noKw hD;let⟨a,vs,ns,rfl,rfl,F,D,cW⟩:=Zq hn J Z;calc enter_call (kK (call w s₀ j mg mb I o pm cd doc a vs ns G Y ho (fd_plain hd) hcd hmg F D cW hg) λr s' hq=>?_);let⟨rfl,h2,h3,h4⟩:=hq;show⟨.inl (JE (.bool true) (.bool true) [] ⟨rL,λ_=>rfl,.bool true,Zr l _,λ_=>⟨List.Pairwise.nil,λ_ hm=>(nomatch hm)⟩⟩),h2,h3,h4⟩
end Att
namespace L2
open PySem PySem.Spec PyProof.Rows
theorem Mp:∀{vs:List Value} {ns:List Int},IntsAre vs ns->Vals (ns.map V.int) vs
 | _,_,.nil=>.nil
 | _,_,.cons n t h=>.cons ⟨t,rL⟩ (Mp h)
def Only (H:Hp):Prop:=∀b,H b=none\/∃o xs,H b=some (.pC o (.lst xs))
def abx {K:W.Frag}{j:Shared}{vs:List Value}(KX:K.In j.heap)(J:j.heap.Ns mainGlobals mg)(hb:j.heap.Ns builtinsNs mb)(hbb:∀x:Str,x≠"__name__"->mb x=bootBuiltins x)(O:j.heap.NoLimit)(hg:j.gens=#[])(ha:j.heap.get? a=some {cls:=.type "list",data:=.seq vs.toArray})(hi:IntsAre vs ns)(hl:ns.length<=sizeLine)(hr:fu k callerA)(F:∀base:Heap,K.In base->base.Ns mainGlobals mg->bZ P w K mg base CX k fa fd [x] sp)(I:∀(s:Shared) (u:Value),BindsTo s fd ⟨[u],[]⟩ [(x,u)])(hsp:∀H:Hp,Only H->bB K H a (ns.map V.int)->sp [.ref a] H (λv _=>v=.bl true) λ_ _ _=>False)(hCX:∀H e s',CX [] H j (λ_ _ _=>False) e s'->False):codeAny (model P w) callerA (.call (.ref fa) ⟨[.ref a],[]⟩) (λr s'=>r=.ok (.ret (.bool true))/\OldK j.heap s'.heap/\s'.os=j.os/\AllBare s'.gens) j:=by
 let rv:=Mp hi;let lenV:=hi.length;let G:∀H:Hp,Only H->bB K H a (ns.map V.int)->jW P w H j.heap->(∀b,H b≠none->b=a)->(H a≠none->K.lookup a=none)->
   codeAny (model P w) callerA (.call (.ref fa) ⟨[.ref a],[]⟩) (λr s'=>r=.ok (.ret (.bool true))/\OldK j.heap s'.heap/\s'.os=j.os/\AllBare s'.gens) j:=by
  intro H hO hS hok hA hK;let UL:∀{b:Addr} {o:Obj},j.heap.get? b=some o->H b=none->(zH j.heap H).get? b=some o:=λe n=>aa8 e n;let Y_:∀{b:Addr} {o:Obj} {es:Array DictEntry} {ep:Nat},j.heap.get? b=some o->o.data=.dict es ep->H b=none:=λ{b o es ep} e d=>by
   cases q:H b with| none=>rfl| some u=>have e':b=a:=hA b (by rw[q];simp);subst e';rw[ha]at e;cases e;let d':Data.seq vs.toArray _=Data.dict es ep:=d;cases d'
  let D:∀{b:Addr} {m:Str->Option Value},j.heap.Ns b m->(zH j.heap H).Ns b m:=λ{b m} ⟨o,es,ep,e,d,r⟩=>(JE o es ep ⟨UL e (Y_ e d),d,r⟩)
  let Y:K.In (zH j.heap H):=λb o e=>UL (KX b o e) (by
   cases q:H b with
   | none=>rfl
   | some u=>have e':b=a:=hA b (by rw[q];simp);subst e';rw[hK (by rw[q];simp)]at e;cases e)
  let hM:Mod K mg (zH j.heap H):=⟨Y,D J,⟨mb,D hb,hbb⟩,let ⟨mc,h1,h2⟩:=O;⟨mc,D h1,h2⟩⟩
  let e0:Gp P w K mg (zH j.heap H) callerA [] j H:=⟨rL,hM,λb o e=>adA e,io (YF _ _),trivial,λb hb=>absurd (show b∈([]:List Addr) from hb) pi,hok,.of_eq hg⟩
  calc kK ((F _ Y (D J)).run callerA [] j H ⟨[.ref a],[]⟩ [.ref a] [.ref a] _ _ hr e0 (I j (.ref a)) (.cons rL .nil) (hsp H hO hS)) λr s' h=>?_;cases r with
  | error e=>show(hCX H e s' h).elim
  | ok fl=>
   cases fl with
   | next=>show False.elim h
   | brk=>show False.elim h
   | cont=>show False.elim h
   | ret u=>
    let⟨v,H',os,bare,un,Z,r',q⟩:=h;let q':v=.bl true:=q;subst q';obtain rfl:u=Value.bool true:=r';calc⟨rL,OldK.of_keep λb o e=>?_,os,bare⟩;cases q:H b with
    | none=>show un.keep b o e q (by intro z;show absurd (show b∈([]:List Addr) from z) pi) pi
    | some u=>
     rcases hO b with z|⟨ob,xs,z⟩;.rw[q]at z;cases z
     .let z2:=un.qg b ob _ z;let⟨e1,_⟩:=hok b _ z;let⟨e2,_⟩:=Z b _ z2;rw[e]at e1;cases e1;show e2
 cases hk:K.lookup a with
 | some o=>have e:=KX a o hk;rw[ha]at e;cases e;refine G (λ_=>none) (λ_=>.inl rL) (.inr (JE _ vs.toArray _ ⟨hk,rL,rL,rL,by rw[ba,lenV];show hl,by simpa using rv⟩)) (λb u z=>by let z':(none:Option HO)=some u:=z;cases z') (λb z=>absurd rL z) λz=>absurd rL z
 | none=>
  refine G (λb=>if b=a then some (.pC {cls:=.type "list",data:=.seq vs.toArray} (.lst (ns.map V.int))) else none) (λb=>?_) (.inl (.inr ⟨{cls:=.type "list",data:=.seq vs.toArray},if_pos rL⟩)) (λb u z=>?_) (λb z=>?_) λ_=>hk
  .by_cases hb:b=a;.show .inr (JA _ _ (if_pos hb))
   .show .inl (if_neg hb)
  .by_cases hb:b=a
   .let z':=(if_pos hb).symm.trans z;cases z';subst hb;show⟨ha,by rw[aa];show hl,vs,_,rv,ha⟩
   .let z':=(if_neg hb).symm.trans z;cases z'
  .by_cases hb:b=a;.show hb
   .show absurd (if_neg hb) z
abbrev KOf {K:W.Frag}{h:Heap}(_:K.In h):W.Frag:=K
def adV {l:W.OpenLaw}{n k:Nat}{D:List Str}{XP:(Str->Option Value)->Heap->Prop}{YP:World->Heap->Prop}{d:DefRec}{K:Params->W.Frag}{CX:World->uh}{sp:World->Sp}{x:Str}(hn:l.most=some n)(hn2:n<=sizeLine)(Z:d.params.defaults=[])(hr:fu k callerA)(hY:∀(w:World) (h:Heap),YP w h->(K w.params).In h)(F:∀(w:World) (mg:Str->Option Value) (J:Addr) (h:Heap),(K w.params).In h->h.Ns mainGlobals mg->mg d.name=some (.ref J)->
   ∃fd:FuncData,(∀(s:Shared) (u:Value),BindsTo s fd ⟨[u],[]⟩ [(x,u)])/\
    ∀base:Heap,(K w.params).In base->base.Ns mainGlobals mg->bZ l.prog w (K w.params) mg base (CX w) k J fd [x] (sp w))
  (O:∀(w:World) (H:Hp) (a:Addr) (ns:List Int),ns.length<=n->Only H->bB (K w.params) H a (ns.map V.int)->sp w [.ref a] H (λv _=>v=.bl true) λ_ _ _=>False)
  (hCX:∀(w:World) (H:Hp) (s:Shared) (e:Value) (s':Shared),CX w [] H s (λ_ _ _=>False) e s'->False) :
  W.WalkO q D XP YP l.row.toRowW d [] (λf vs=>PySem.call f vs):=by
 calc Att.Tp hn Z λw s₀ s₁ mg mb J o pm cd doc a vs ns G Y ho hd hcd hmg I j cW hg=>?_;let KX:=hY w _ Y;let⟨fd,hb,hF⟩:=F w mg J _ KX G.T.g hmg;show abx KX G.T.g G.T.b G.T.builtins G.T.nolimit hg I j (bP cW hn2) hr hF hb (λH hO hS=>O w H a ns cW hO hS) λH e s'=>hCX w H s₁ e s'
def inClass (s:Stmt)(j:Nat):Stmt:=match s with| .ClassDef _ _ _ body _ _ _ _ _ _ _=>body.getD j (.Pass ⟨0,0,0,0⟩)| _=>.Pass ⟨0,0,0,0⟩
noncomputable def cX (s:Stmt):Arguments:=match s with| .FunctionDef _ a _ _ _ _ _ _ _ _=>a| _=>{posonlyargs:=[],args:=[],vararg:=none,kwonlyargs:=[],kw_defaults:=[],kwarg:=none,defaults:=[]}
def cH (s:Stmt):List Stmt:=match s with| .FunctionDef _ _ b _ _ _ _ _ _ _=>b| _=>[]
noncomputable def aH (s:Stmt):Scope:=match s with| .FunctionDef _ _ _ _ _ _ sc _ _ _=>sc| _=>{kind:=.function,names:=[],isGenerator:=false,isCoroutine:=false}
abbrev dz:uh:=λ_ _ _ _ _ _=>False
abbrev E0:XK:=λ_ _ _=>False
def dM:Passes dz X E0:=λ_ _ _ _ _ _ _ h=>h.elim
structure dX (K:W.Frag)(x qual:Str)(st:Stmt)(f:Addr)(fd:FuncData):Prop where
 ex:∃(oc:Value) (od:Option Addr) (kV doc pm:Value) (an:Option Addr) (bG ct:Value) (osl:Array (Option Value)),
  fd=W.fnOf x qual (cX st) (cH st) (aH st) .none kV doc pm an bG ct/\K.lookup f=some ⟨oc,od,.func fd,osl⟩/\W.codeIn K bG qual=true
 kp:W.keepIn K (.ref f)=true
section
variable {P:Program}{w:World}{K:W.Frag}{mg:Str->Option Value}{base:Heap}
def dX.ok {x qual:Str}{st:Stmt}{N ps:List Str}{k:Nat}{sp:Sp}(F:dX K x qual st f fd)(S:aZ N ps (aH st))(len:∀vs H Q E,sp vs H Q E->vs.length=ps.length)(j:∀(bG:Value) (A:Around) (outer:List Env) (s:Shared) (H:Hp) (vs:List V) (Q:VK) (E:XK),fu k (A.deeper (envOfC qual (aH st) s.heap.objs.size f bG))->sp vs H Q E->
   ∃t,vL (rQ dz P w K mg base N qual (aH st) f bG A outer s H E).Ph (cH st) t/\t {nx:=λ_ H'=>Q .non H',rt:=Q} (start N vs) H):bZ P w K mg base dz (k+1) f fd ps sp:=by
 let⟨oc,od,kV,doc,pm,an,bG,ct,osl,rfl,J,G⟩:=F.ex;calc ac8 J G S len λA outer s H vs Q E I D=>?_;let⟨t,h,q⟩:=j bG A outer s H vs Q E I D;show⟨t,h.Ph,q⟩
def dX.binds {x qual:Str}{st:Stmt}{ps:List Str}(F:dX K x qual st f fd)(h:∀(kV doc pm:Value) (an:Option Addr) (bG ct:Value) (us:List Value),us.length=ps.length->bindArgs (W.fnOf x qual (cX st) (cH st) (aH st) .none kV doc pm an bG ct) ⟨us,[]⟩=pure (ps.zip us)):bN K fd ps []:=by let⟨oc,od,kV,doc,pm,an,bG,ct,osl,rfl,D,j⟩:=F.ex;show .all (h kV doc pm an bG ct)
def fB {x qual:Str}{st:Stmt}{f:Addr}{oc:Value}{od an:Option Addr}{osl:Array (Option Value)}{kV doc pm bG ct:Value}(l:K.lookup f=some ⟨oc,od,.func (W.fnOf x qual (cX st) (cH st) (aH st) .none kV doc pm an bG ct),osl⟩)(c:W.codeIn K bG qual=true)(k:W.keepIn K (.ref f)=true):dX K x qual st f (W.fnOf x qual (cX st) (cH st) (aH st) .none kV doc pm an bG ct):=⟨(JS oc od kV doc pm an bG ct ⟨osl,rL,l,c⟩),k⟩
end
def Ot (j:fu k A):A.units+1<cLine:=iP (Nat.add_le_add_left (by decide:1<=64) _) j.units
def aK (h:n<=1000):n<sizeLine:=iP h pj
section
variable {X:Cx}
def pv (i:Nat){x:Str}{pos:Pos}(D:X.N[i]?=some x:=by rfl)(F:Us X.env.scope x:=by first|show Or.inl rfl|show Or.inr (Or.inl rL)|show Or.inr (Or.inr rL))(hd:(x==("__debug__":Str))=false:=by decide)(j:(x==("__classdict__":Str))=false:=by decide):PE X (.Name x pos) (Wx i):=afn D F hd j
end
def bQ {A B:Prop}(h:B):if false=true then A else B:=by rw[if_neg bS];show h
def cj {A B:Prop}(h:A):if true=true then A else B:=by rw[if_pos rfl];show h
def i_ {c A B:Prop} [Decidable c] (h1:c->A)(h2:¬c->B):if c then A else B:=by
 by_cases h:c
 .rw[if_pos h];show h1 h
 .rw[if_neg h];show h2 h
def Ou {c A B:Prop} [Decidable c] (j:c)(h:B):if (!decide c)=true then A else B:=by rw[al j];show bQ h
def aB (H H':Hp):Prop:=∀b o,H b=some o->H' b=some o
def aB.refl (H):aB H H:=λ_ _ h=>h
def aB.trans (a:aB H H1)(b:aB H1 H2):aB H H2:=λc o h=>b c o (a c o h)
def aB.free (e:aB H H')(h:H' l=Option.none):H l=Option.none:=by
 cases q:H l with| none=>rfl| some o=>rw[e l o q]at h;cases h
def aB.seq {K:W.Frag}{xs:List V}(e:aB H H')(h:bB K H a xs):bB K H' a xs:=by
 rcases h with(h|⟨o,h⟩)|h;.show .inl (.inl (e _ _ h))
 .show .inl (.inr ⟨o,e _ _ h⟩)
 .show .inr h
section
variable {X:Cx}
def Zt:iJ X (.builtin "len") (λxs H Q=>∃a kvs,xs=[V.ref a]/\H a=some (.dK kvs)/\Q (.int kvs.length) H):=by intro ak s σ H xs us Q I r h;let⟨a,kvs,rfl,ha,q⟩:=h;let⟨u,rfl,j⟩:=vals1 r;cases j;show ahT I (.inl ha) λt s' D=>(JA (.int kvs.length) H ⟨D,⟨t,rL⟩,q⟩)
end
section
variable {κ:Type}[DecidableEq κ]
theorem UW:∀{l:List κ} {k:κ},l.Nodup->¬k∈l->(l++[k]).Nodup
 | [],k,_,_=>by simp
 | a::r,k,h,hk=>by
  let⟨h1,h2⟩:=gV.mp h;show (a::(r++[k])).Nodup;calc gV.mpr ⟨λm=>?_,UW h2 λm=>hk (bX.mpr (Or.inr m))⟩;rcases bz.mp m with q|q;.show h1 q
  .show hk (bX.mpr (Or.inl (aS.mp q).symm))
end
noncomputable def blk (X:Cx)(scope:Scope)(cl:List (Str×Addr))(C:Addr)(x:Str)(s₀:Shared)(H₀:Hp)(fp:List Addr):Cx:={X with N:=x::X.N,s₀:=s₀,H₀:=H₀,env:=compEnvC scope cl C X.env,outer:=X.stack,ex:=fp,fn:=λ_=>false,pn:=[],xe:=λ_ _=>False}
structure jc (X:Cx)(scope:Scope)(x:Str):Prop where
 kind:scope.kind=.function
 Ip:∀y∈scope.names,y.2≠.cell
 names:∀y∈scope.names,y.2=.local->scope.names.lookup y.1=some .local
 hx:scope.names.lookup x=some .local
 free:∀y∈scope.names,y.2=.free->X.env.kindOf y.1=some .cell\/X.env.kindOf y.1=some .free
 out:∀y∈X.N,scope.names.lookup y≠some .local
 nd:X.N.Nodup
noncomputable def U0 (sc:Scope)(N:List Str)(scope:Scope)(x:Str):Bool:=scope.kind == .function&&scope.names.all (λy=>y.2 != .cell)&&scope.names.all (λy=>y.2 != .local||scope.names.lookup y.1==some .local)&&scope.names.lookup x==some .local &&
 scope.names.all (λy=>y.2 != .free||sc.names.lookup y.1==some .cell||sc.names.lookup y.1==some .free)&&N.all (λy=>scope.names.lookup y != some .local)
def jc.of {X:Cx}(j:X.N.Nodup)(h:U0 X.env.scope X.N scope x=true):jc X scope x:=by
 unfold U0 at h;simp only[cn,fe,oP,bne_iff_ne,beq_iff_eq,ne_eq]at h;obtain⟨⟨⟨⟨⟨h1,h2⟩,h3⟩,h4⟩,h5⟩,D⟩:=h;calc⟨h1,λy hy=>h2 y hy,λy hy e=>(h3 y hy).resolve_left λz=>z e,h4,λy hy e=>?_,λy hy=>D y hy,j⟩;rcases h5 y hy with(z|z)|z;.show absurd e z
 .show .inl z
 .show .inr z
theorem lG {α:Type}:∀{l:List (Str×α)} {x:Str} {a:α},l.lookup x=some a->(x,a)∈l
 | [],_,_,h=>by simp at h
 | (y,b)::r,x,a,h=>by
  rw[fN]at h;split at h
  .rename_i e;let j:x=y:=by simpa using e
   cases h;subst j;show cf
  .show bE _ (lG h)
theorem zL {env:Env}:∀(names:List (Str×NameKind)),(∀y∈names,y.2=.free->∃c,env.cells.lookup y.1=some c)->∀j:List (Str×Addr),(∀n c,j.lookup n=some c->env.cells.lookup n=some c)->
  ∃cl,(forIn names j (λ(p:Str×NameKind) (cs:List (Str×Addr))=>if (p.2==NameKind.free)=true then (do let a <- cellOf env p.1;pure (ForInStep.yield ((p.1,a)::cs))) else (pure (ForInStep.yield cs):Sem _)):Sem (List (Str×Addr)))=pure cl/\
   (∀n c,cl.lookup n=some c->env.cells.lookup n=some c)/\(∀n,(∃c,j.lookup n=some c)->∃c,cl.lookup n=some c)/\∀n,(n,NameKind.free)∈names->∃c,cl.lookup n=some c
 | [],_,j,ha=>⟨j,pi,ha,λ_ h=>h,λ_ h=>by simp at h⟩
 | (n,k)::r,hf,j,ha=>by
  let J:∀y∈r,y.2=.free->∃c,env.cells.lookup y.1=some c:=λy hy=>hf y (bE _ hy);by_cases I:k=.free
  .subst I;let⟨c,O⟩:=hf (n,.free) cf rfl;let⟨cl,e,h1,h2,h3⟩:=zL r J ((n,c)::j) (λD G h=>by
    rw[fN]at h;split at h
    .rename_i q;let Y:D=n:=by simpa using q
     cases h;subst Y;show O
    .show ha D G h)
   refine⟨cl,?_,h1,λD h=>h2 D ?_,λD h=>?_⟩
   .rw[gc];simp only[beq_self_eq_true,if_true];let e2:cellOf env n=pure c:=by unfold cellOf;rw[O]
    rw[e2];simp only[pure_bind];show e
   .let⟨G,F⟩:=h;rw[fN];split;.show⟨c,rL⟩
    .show⟨G,F⟩
   .rcases bX.mp h with q|q
    .calc h2 D ⟨c,?_⟩;cases q;rw[fN,beq_self_eq_true]
    .show h3 D q
  .let hb:(k==NameKind.free)=false:=by simpa using I
   let⟨cl,e,h1,h2,h3⟩:=zL r J j ha;refine⟨cl,?_,h1,h2,λD h=>?_⟩
   .rw[gc];simp only[hb,fw,if_false,pure_bind];show e
   .rcases bX.mp h with q|q;.cases q;show absurd rL I
    .show h3 D q
theorem jU {env:Env}:∀{names:List (Str×NameKind)} {x:Str} {k:NameKind},
  (names.map λ(n,k)=>if (k==NameKind.free&&env.scope.kind == .function&&env.kindOf n==some .cell) then (n,NameKind.cell) else (n,k)).lookup x=some k->names.lookup x=some k\/(k=.cell/\names.lookup x=some .free)
 | [],_,_,h=>by simp at h
 | (n,j)::r,x,k,h=>by
  let F:=@jU env r x k;let h':List.lookup x ((if (j==NameKind.free&&env.scope.kind == .function&&env.kindOf n==some .cell)=true then (n,NameKind.cell) else (n,j))::_)=some k:=h;by_cases D:(j==NameKind.free&&env.scope.kind == .function&&env.kindOf n==some .cell)=true
  .rw[if_pos D]at h';cases hx:x==n with
   | true=>
    simp only[fN,hx]at h' ⊢;cases h';have:j=.free:=by simp at D;show D.1.1
    show .inr ⟨rL,by rw[this]⟩
   | false=>simp only[fN,hx]at h' ⊢;show F h'
  .rw[if_neg D]at h';cases hx:x==n with| true=>simp only[fN,hx]at h' ⊢;show .inl h'| false=>simp only[fN,hx]at h' ⊢;show F h'
def W_ (I:Nat->Shared->Prop)(turn:∀n s,I n s->wpAny (model prog w) A (pyNext it) (λr j=>match r with
   | none=>R (.ok .next) j
   | some v=>wpAny (model prog w) A (letOwnedTupleGo target it v) (λ_ s₀=>wpAny (model prog w) A (assign target env v) (λ_ G=>
     wpAny (model prog w) A (forIn ifs true λc r=>if r=true then do let ok <- isTrue c env (eval c env);pure (ForInStep.yield ok) else pure (ForInStep.yield r)) (λok D=>
      if ok=true then wpAny (model prog w) A (eval elt env) (λx F=>wpAny (model prog w) A (call (.builtin "list.append") [acc,x]) (λ_ J=>∃m,m<n/\I m J) (λ_ _=>False) F) (λ_ _=>False) D
      else ∃m,m<n/\I m D) (λ_ _=>False) G) (λ_ _=>False) s₀) (λ_ _=>False) j) (λ_ _=>False) s)
  (n) (h:I n s) :
  codeAny (model prog w) A (.compLoop (.ListComp elt [⟨target,iter,ifs,0⟩] scope pos) 0 it acc env) R s:=by
 calc codeAny_loop rL I (λn s hI=>?_) n h;show wpAny _ A ((compTurn (.ListComp elt [⟨target,iter,ifs,0⟩] scope pos) 0 it acc env).onRaise (λx=>do noteFrame x env;theTreesLotGoes x)) _ _ s;calc wpAny_noted ?_;rw[compTurn_list];calc ae (lP (ae (eh (turn n s hI) (λr j O=>?_) λ_ _ h'=>h'.elim)));cases r with
 | none=>show aw O
 | some v=>
  calc ae (eh O (λ_ s₀ h₀=>?_) λ_ _ h'=>h'.elim);calc ae (eh h₀ (λ_ G h₂=>ae (eh h₂ (λok D Y=>?_) λ_ _ h'=>h'.elim)) λ_ _ h'=>h'.elim);cases ok with| false=>show aw ⟨rL,Y⟩| true=>show ae (ae (eh Y (λx F h₄=>ae (eh h₄ (λ_ J Z=>aw (aw ⟨rL,Z⟩)) λ_ _ h'=>h'.elim)) λ_ _ h'=>h'.elim))
def U3 (X:Cx)(ifs:List Expr)(t:TT):Prop:=∀(ak:AE) (s:Shared) (σ:St) (H:Hp) (Q:Bool->Hp->Prop),aQ X ak σ H s->t σ H Q->
  wpAny (model X.prog X.w) X.A (forIn ifs true λc r=>if r=true then do let ok <- isTrue c X.env (eval c X.env);pure (ForInStep.yield ok) else pure (ForInStep.yield r)) (TP X ak σ Q) X.xe s
def lH:TT:=λ_ H Q=>Q true H
def adW:U3 X [] lH:=λ_ _ _ H _ I h=>wpAny_tests_nil ⟨H,I,h⟩
def gY (n i:Nat)(P:Prop):Prop:=∃j,j<n-i/\j=n-(i+1)/\i+1<=n/\P
abbrev J7 (n i:Nat)(D:Addr)(ys:List V)(P:List V->Hp->Prop)(y:V)(H3:Hp):Prop:=H3 D=some (.lst ys)/\ys.length<sizeLine/\gY n i (P (ys++[y]) (upd H3 D (.lst (ys++[y]))))
abbrev BZ (J:It)(D:Addr)(H:Hp)(R:Hp->Prop)(B:V->Hp->VK->(Hp->Prop)->Prop):Prop:=∃W:Nat->Nat->List V->Hp->Prop,(∃m,W 0 m [] (upd H D (.lst [])))/\
 ∀i m ys H,W i m ys H->(J.stop i H/\R H)\/(J.go i H/\∀x H',J.Ia i H x H'->B x H' (λy H3=>H3 D=some (.lst ys)/\ys.length<sizeLine/\∃m',m'<m/\W (i+1) m' (ys++[y]) (upd H3 D (.lst (ys++[y])))) λH2=>∃m',m'<m/\W (i+1) m' ys H2)
def aby {J:It}{D:Addr}{H:Hp}{R:Hp->Prop}{B:V->Hp->VK->(Hp->Prop)->Prop}(n:Nat)(j:Nat->List V->Hp->Prop)(h0:j 0 [] (upd H D (.lst [])))(G:∀i ys H,i<n->j i ys H->J.go i H/\∀x H',J.Ia i H x H'->B x H' (J7 n i D ys (j (i+1))) λI=>gY n i (j (i+1) ys I))(O:∀ys H,j n ys H->J.stop n H/\R H):BZ J D H R B:=by
 calc⟨λi m ys H=>m=n-i/\i<=n/\j i ys H,⟨n,pi,eI _,h0⟩,?_⟩;intro i m ys H z;let⟨rfl,hi,p⟩:=z;by_cases F:i<n;.show .inr (G i ys H F p)
 .let e:i=n:=o6;subst e;show .inl (O ys H p)
def Ov {F:Hp->List V->Prop}{B:V->Hp->VK->(Hp->Prop)->Prop}{xs:List V}{D:Addr}{H:Hp}{R:Hp->Prop}(j:Nat->List V->Hp->Prop)(h0:j 0 [] (upd H D (.lst [])))(hl:∀i ys H,i<=xs.length->j i ys H->F H xs)(hs:∀i x ys H,xs[i]?=some x->j i ys H->B x H (J7 xs.length i D ys (j (i+1))) λG=>gY xs.length i (j (i+1) ys G))(hd:∀ys H,j xs.length ys H->R H):BZ (ItS F) D H R B:=aby xs.length j h0 (λi ys H h p=>⟨(JA xs (xs[i]) ⟨hl i ys H (ap h) p,by simp[h]⟩),λx H' ⟨e,y⟩=>by subst e;show hs i x ys _ (y xs (hl i ys _ (ap h) p)) p⟩) λys H p=>⟨⟨xs,hl _ ys H (ai _) p,ai _⟩,hd ys H p⟩
abbrev Xa (σ:St)(tt:TT)(te:TE)(x:V)(H:Hp)(k:VK)(l:Hp->Prop):Prop:=tt (some x::σ) H λb H2=>if b=true then te (some x::σ) H2 k else l H2
def adb (wi:TI)(tt:TT)(te:TE):TE:=λσ H Q=>wi σ H λJ H1=>∀D,H1 D=none->BZ J D H1 (Q (.ref D)) (Xa σ tt te)
noncomputable def gk (X:Cx)(scope:Scope)(cl:List (Str×Addr))(C:Addr)(N:List Str)(s₀:Shared)(H₀:Hp)(fp:List Addr):Cx:={X with N:=N,s₀:=s₀,H₀:=H₀,env:=compEnvC scope cl C X.env,outer:=X.stack,ex:=fp,fn:=λ_=>false,pn:=[],xe:=λ_ _=>False}
structure jA (X:Cx)(scope:Scope)(ns N2:List Str)(f:St->St):Prop where
 kind:scope.kind=.function
 Ip:∀y∈scope.names,y.2≠.cell
 names:∀y∈scope.names,y.2=.local->scope.names.lookup y.1=some .local
 free:∀y∈scope.names,y.2=.free->X.env.kindOf y.1=some .cell\/X.env.kindOf y.1=some .free
 aiL:∀σ:St,(f σ).length=σ.length
 aiM:N2.length=X.N.length
 out:∀(σ:St) (i:Nat) (y:Str) (v:V),N2[i]?=some y->(f σ)[i]?=some (some v)->X.N[i]?=some y/\σ[i]?=some (some v)/\scope.names.lookup y≠some .local
def Mq (X:Cx)(tg:Expr)(k:Nat)(TP:V->Hp->(St->Prop)->Prop):Prop:=∀(ak:AE) (s:Shared) (pre rest:St) (H:Hp) (v:V) (u:Value) (Q:St->Prop),pre.length=k->aQ X ak (pre++rest) H s->cD v u->TP v H Q->
  wpAny (model X.prog X.w) X.A (assign tg X.env u) (λ_ s'=>∃j,j.length=k/\aQ X ak (j++rest) H s'/\Q j) (λ_ _=>False) s
def Zu (TP:V->Hp->(St->Prop)->Prop)(f:St->St)(σ:St)(tt:TT)(te:TE)(x:V)(H:Hp)(k:VK)(l:Hp->Prop):Prop:=TP x H λpre=>tt (pre++f σ) H λb j=>if b=true then te (pre++f σ) j k else l j
def B_ (f:St->St)(k:Nat)(wi:TI)(TP:V->Hp->(St->Prop)->Prop)(tt:TT)(te:TE):TE:=λσ H Q=>wi σ H λJ H1=>∀D,H1 D=none->BZ J D H1 (Q (.ref D)) (Zu TP f σ tt te)
def Ca {X:Cx}{elt iter tg:Expr}{ns N2:List Str}{f:St->St}{TP:V->Hp->(St->Prop)->Prop}{ifs:List Expr}{scope:Scope}{pos:Pos}{wi:TI}{tt:TT}{te:TE}(hc:X.calm=true)(ok:jA X scope ns N2 f)(hi:PI X tg iter wi)(hg:∀cl C s₀ H₀ fp,Mq (gk X scope cl C (ns++N2) s₀ H₀ fp) tg ns.length TP)(ht:∀cl C s₀ H₀ fp,U3 (gk X scope cl C (ns++N2) s₀ H₀ fp) ifs tt)(he:∀cl C s₀ H₀ fp,PE (gk X scope cl C (ns++N2) s₀ H₀ fp) elt te)(hs:∀x,foldedSetIterable iter X.env x=pure x:=by intro _;rfl){use:Option (Value->Sem Unit)}{RR:AD}{p1:Pos}{ak:AE}{s:Shared}{σ:St}{H:Hp}{Q:V->Hp->Prop}(I:aQ X ak σ H s)(h:B_ f ns.length wi TP tt te σ H Q)(fin:∀(D C:Addr) (H4:Hp) (s5:Shared) (m:Str->Option Value),s5.heap.Ns C m->(∀h',Heap.SameBut C s5.heap h'->aQ X ak σ H4 {s5 with heap:=h' })->uE X ak H4 C->Q (.ref D) H4->compPost (model X.prog X.w) X.A X.xe use RR (.ref D) C (.ok .next) s5):wpAny (model X.prog X.w) X.A (comprehension (.ListComp elt [⟨tg,iter,ifs,0⟩] scope pos) scope X.env p1 (newList []) false (eval iter X.env) use) RR X.xe s:=by
 let⟨cl,hcl,j,_,hall⟩:=zL (env:=X.env) scope.names (λy hy e=>I.ok.has y.1 (ok.free y hy e)) [] (λ_ _ z=>by simp at z);let hclos:closureFor scope X.env=pure cl:=by unfold closureFor;simp only[bind_pure];show hcl
 calc wpAny_comprehension_free (use:=use) (E:=X.xe) (cl:=cl) rL hs hclos ok.kind ok.names (cg (hi ak s σ H _ I h) λv s1 h1=>cg h1 λitv s2 h2=>?_);let⟨it,fp,tn,J,H2,e,I2,T,st2,f2,R⟩:=h2;subst e;obtain⟨W,⟨m0,w0⟩,turn⟩:=R s2.heap.objs.size I2.fresh;calc gg (wpAny_newFunctionEnv ok.Ip (by intro y hy;simp at hy) (λh₁ hns₁ hsb₁=>?_) ok.kind);dsimp only at hns₁ hsb₁ ⊢;let F:aQ X ak σ (upd H2 s2.heap.objs.size (.lst [])) {s2 with heap:=s2.heap.push {cls:=.type "list",data:=.seq ([]:List Value).toArray} }:=I2.abq (t':=s2.toks) (ys:=[]) (its:=[]) .nil (eI _);generalize hH3:upd H2 s2.heap.objs.size (HO.lst [])=H3 at *
 generalize hs3:s2.heap.push {cls:=.type "list",data:=.seq ([]:List Value).toArray}=hp3 at *
 generalize hD:s2.heap.objs.size=D at *
 generalize hC:hp3.objs.size=C at *
 let hDC:D<C:=by rw[<-hC,<-hs3,eQ,hD];show gr _
 let Z:∀b o,hp3.get? b=some o->h₁.get? b=some o:=λb o e=>(hsb₁.2 b (by rw[<-hC];show cq (aE e))).trans (af _ e);let fpl:∀b∈fp,b<C:=λb hb=>by let⟨o,e,_⟩:=T.obj _ _ st2 b hb;rw[<-hC,<-hs3,eQ];show lh (aE e)
 let f3:∀b∈fp,uE X ak H3 b:=λb hb=>by let⟨o,e,_⟩:=T.obj _ _ st2 b hb;calc⟨?_,(f2 b hb).2⟩;rw[<-hH3,aP (by rw[<-hD];show cq (aE e))];show(f2 b hb).1
 let agc:∀b∈fp,b∉frs X.stack:=λb hb z=>by
  let⟨_,g1,g2,_⟩:=f3 b hb;rcases bX.mp (F.HY b z) with q|q;.show g1 q
  .show g2 q
 let YOk:(gk X scope cl C (ns++N2) {s2 with heap:=hp3} H3 fp).Ok:=by
  calc⟨I.ok.mod,?_,I.ok.glob,I.ok.blt,io hC,?_,?_,?_,I.ok.hd,I.ok.frames,.inl rL,?_,?_,?_,?_,?_,?_,?_⟩;.show ok.kind
  .show λa b c h1 h2=>I.ok.inj a b c (j a c h1) (j b c h2)
  .intro a ha;calc hall a ?_;rcases ha with z|z
   .rcases jU (env:=X.env) z with q|⟨_,q⟩;.show absurd rL (ok.Ip _ (lG q))
    .show lG q
   .rcases jU (env:=X.env) z with q|⟨q,_⟩;.show lG q
    .cases q
  .intro a c hf;cases hf
  .intro b hb;refine⟨cq (fpl b hb),λa c h1=>(f3 b hb).2.2.2.2.1 a c (j a c h1)⟩
  .show F.bs
  .show bP I.ok.Bl F.sz
  .intro b o e hb;rcases(f3 b hb).2.2.2.1 with z|z;.show I.ok.BJ b o e z
   .show absurd (cS (aE e) (bP I.ok.Bl z)) (fg _)
  .show agc
  .show F.stack
  .show F.yL
 let Y0:aQ (gk X scope cl C (ns++N2) {s2 with heap:=hp3} H3 fp) [] (List.replicate ns.length none++f σ) H3 {s2 with heap:=h₁,toks:=s2.toks+([]:List (Str×Value)).length}:=by
  refine⟨YOk,rL,F.bare,Un.kept Z,⟨_,hns₁,?_⟩,?_,?_,?_,λp hp=>by simp[gk]at hp,F.hok.kept Z,?_⟩
  .intro i y v e1 e2 e3;by_cases dU:i<ns.length
   .rw[a9 (by rw[cy];show dU),List.getElem?_replicate,if_pos dU]at e2;simp at e2
   .obtain⟨i,rfl⟩:∃k,i=ns.length+k:=⟨i-ns.length,by simp_all⟩
    let e1a:(ns++N2)[ns.length+i]?=some y:=e1;rw[be o6,k9]at e1a;rw[be (by rw[cy];lia),cy,k9]at e2;let⟨e1',e2',hout⟩:=ok.out σ i y v e1a e2;let G:(y,NameKind.free)∈scope.names:=by
     let key:∀k,(relabel scope X.env).names.lookup y=some k->k≠.local->k=.cell\/k=.free->(y,NameKind.free)∈scope.names:=λk q n hk=>by
      rcases jU (env:=X.env) q with z|⟨_,z⟩
      .rcases hk with rfl|rfl;.show absurd rL (ok.Ip _ (lG z))
       .show lG z
      .show lG z
     rcases e3 with z|z|z
     .rcases jU (env:=X.env) z with q|⟨q,_⟩;.show absurd q hout
      .cases q
     .show key _ z pj (.inl rL)
     .show key _ z pj (.inr rL)
    let hk:=ok.free _ G rfl;let⟨m,hn,hl⟩:=F.loc;let⟨u,r,q⟩:=hl i y v e1' e2' (by rcases hk with z|z;show .inr (.inl z);show .inr (.inr z));refine⟨u,r,.inr ⟨?_,?_⟩⟩
    .rcases e3 with z|z|z
     .rcases jU (env:=X.env) z with q|⟨q,_⟩;.show absurd q hout
      .cases q
     .show .inl z
     .show .inr z
    .rcases q with⟨z,_⟩|⟨_,c,hc',hcell⟩
     .rcases hk with q|q <;> (rw[z]at q;cases q)
     .let⟨c',hc2⟩:=hall y G;have:c'=c:=by have:=j y c' hc2;rw[hc']at this;show(bp this).symm
      subst this;let⟨o,ho,hd⟩:=hcell;show⟨c',hc2,o,Z _ _ ho,hd⟩
  .intro a c h1;let⟨v,o,ho,hd⟩:=F.cell a c (j a c h1);show JA v o ⟨Z _ _ ho,hd⟩
  .show H3 C=none;show F.hok.fresh (io hC)
  .show λa c h1=>F.mX a c (j a c h1)
  .show (List.replicate ns.length none++f σ).length=(ns++N2).length;rw[av,av,cy,ok.aiL,I.len,ok.aiM]
 let back:∀(s':Shared) (v:St) (H':Hp) (h':Heap),aQ (gk X scope cl C (ns++N2) {s2 with heap:=hp3} H3 fp) [] v H' s'->Heap.SameBut C s'.heap h'->(∀b∈fp,H' b=none)->aQ X ak σ H' {s' with heap:=h' }:=by
  intro s' v H' h' I' sb fr;let Ly:∀b o,hp3.get? b=some o->b≠C:=λb o e=>by rw[<-hC];show cq (aE e)
  let U:Un (frs X.stack) fp H3 H' hp3 s'.heap:=I'.base;refine F.call' (ch:=fp) (H':=H') (s':={s' with heap:=h' }) I'.os ⟨λb o e n h1 h2=>(sb.2 b (Ly b o e)).trans (U.keep b o e n h1 h2),λb o e n h1 h2=>?_,U.free,λb o e h2=>?_,U.tups,U.qg,U.qF⟩ (λb ob e=>?_) I'.bare λb hb=>?_
  .let⟨sl,q⟩:=U.slot b o e n h1 h2;show⟨sl,(sb.2 b (Ly b o e)).trans q⟩
  .let⟨o',q⟩:=U.there b o e h2;show⟨o',(sb.2 b (Ly b o e)).trans q⟩
  .let fC:H' C=none:=I'.free;calc(I'.hok b ob e).stay (λc w' hc q=>(sb.2 c ?_).trans q) (λ_ q=>q) λ_ _ q=>q;rintro rfl;rcases hc with rfl|hc
   .rw[fC]at e;cases e
   .rw[fC]at hc;cases hc
  .let⟨_,g1,_,g3,g4,g5⟩:=f3 b hb;show⟨g3,g1,g4,g5⟩
 let Y:∀{H':Hp},(∀b∈fp,H' b=none)->∀b∈fp,uE (gk X scope cl C (ns++N2) {s2 with heap:=hp3} H3 fp) [] H' b:=λhn b hb=>⟨hn b hb,cq (fpl b hb),agc b hb,.inl hb,λa c h1=>(f3 b hb).2.2.2.2.1 a c (j a c h1),λp hp=>by simp[gk]at hp⟩
 let st₁:tn 0 h₁:=T.keep _ _ _ st2 λb _ o e=>Z b o (by rw[<-hs3];show af _ e);let loop:codeAny (model X.prog X.w) X.A (.compLoop (.ListComp elt [⟨tg,iter,ifs,0⟩] scope pos) 0 (.ref it) (.ref D) (compEnvC scope cl C X.env)) (compPost (model X.prog X.w) X.A X.xe use RR (.ref D) C)
   {s2 with heap:=h₁,toks:=s2.toks+([]:List (Str×Value)).length}:=by
  calc W_ (λn s'=>∃i v ys H',v.length=ns.length/\aQ (gk X scope cl C (ns++N2) {s2 with heap:=hp3} H3 fp) [] (v++f σ) H' s'/\tn i s'.heap/\(∀b∈fp,H' b=none)/\W i n ys H') ?_ m0 (JI 0 (List.replicate ns.length none) [] H3 ⟨cy,Y0,st₁,λb hb=>(f3 b hb).1,w0⟩);intro n s4 z;let⟨i,v,ys,H4,hv4,I4,st4,fr4,w4⟩:=z;rcases turn i n ys H4 w4 with⟨stop,qn⟩|⟨go,step⟩
  .refine cg (T.done (gk X scope cl C (ns++N2) {s2 with heap:=hp3} H3 fp) rL rL rL hc i [] s4 (v++f σ) H4 _ I4 (Y fr4) st4 stop) λr s5 ⟨hr,I5⟩=>?_
   subst hr;let⟨m,hn,_⟩:=id I5.loc;show fin D C H4 s5 m hn (λh' sb=>back s5 (v++f σ) H4 h' I5 sb fr4) ⟨I5.free,(F.xX (H':=H3) (io hC) (F.hok.fresh (io hC))).2⟩ qn
  .calc cg (T.item (gk X scope cl C (ns++N2) {s2 with heap:=hp3} H3 fp) rL rL rL hc i [] s4 (v++f σ) H4 _ I4 (Y fr4) st4 go) λr s5 O=>?_;let⟨u,hr,h5⟩:=O
   subst hr;calc cg h5 λ_ s6 O=>?_;let⟨y,H6,I6,r6,y6,st6,fr6⟩:=O;let I6':=I6.pinned (Y fr6) (T.obj _ _ st6);calc cg (hg cl C {s2 with heap:=hp3} H3 fp _ s6 v (f σ) H6 y u _ hv4 I6' r6 (step y H6 y6)) λ_ s7 O=>?_;let⟨pre,hpre,I7',q7⟩:=O;calc cg (ht cl C {s2 with heap:=hp3} H3 fp _ s7 _ H6 _ I7' q7) λb s8 O=>?_;let⟨H8,I8,q8⟩:=O;let Zv:∀{σ':St} {H':Hp} {s':Shared},aQ (gk X scope cl C (ns++N2) {s2 with heap:=hp3} H3 fp) ([]++BP fp s6.heap) σ' H' s'->tn (i+1) s'.heap/\∀b∈fp,H' b=none:=λ{σ' H' s'} I9=>by calc⟨T.keep _ _ _ st6 λb hb o e=>(I9.pin (b,o) (dL _ (dL _ (uR hb e)))).1,λb hb=>?_⟩;let⟨o,e,d⟩:=T.obj _ _ st6 b hb;show(I9.pin (b,o) (dL _ (dL _ (uR hb e)))).2.1
   cases b with
   | false=>let⟨m',hm,w'⟩:=q8;let⟨k1,k2⟩:=Zv I8;show⟨m',hm,i+1,pre,ys,H8,hpre,I8.vM,k1,k2,w'⟩
   | true=>have q8':te (pre++f σ) H8 _:=q8;show wpAny _ _ (eval elt _) _ _ _;calc cg (he cl C {s2 with heap:=hp3} H3 fp _ s8 _ H8 _ I8 q8') λz s9 O=>?_;let⟨zv,H9,I9,r9,hD9,hz9,m',hm,w'⟩:=O;calc cg (iG (X:=gk X scope cl C (ns++N2) {s2 with heap:=hp3} H3 fp) _ s9 _ H9 (.ref D) [zv] (.ref D) [z] (λ_ H'=>H'=upd H9 D (.lst (ys++[zv]))) I9 rL (.cons r9 .nil) (JE D ys zv ⟨rL,rL,hD9,hz9,rL⟩)) λ_ s10 O=>?_;let⟨_,H10,I10,_,e10⟩:=O;subst e10;let⟨k1,k2⟩:=Zv I10;show⟨m',hm,i+1,pre,ys++[zv],_,hpre,I10.vM,k1,k2,w'⟩
 show codeAny_compStart_list loop (T.self X.A 0 _ _ _ st₁ loop)
def J8 {scope:Scope}{N:List Str}(j:N.Nodup)(h0:N[0]?=some x)(hx:scope.names.lookup x=some .local):Mq (gk X scope cl C N s₀ H₀ fp) (.Name x pos) 1 (λv _ Q=>Q [some v]):=by intro ak s pre rest H v u Q hp I r q;let⟨G,rfl⟩:=List.length_eq_one_iff.mp hp;calc cg (rO (X:=gk X scope cl C N s₀ H₀ fp) (i:=0) j h0 (.inl (lookup_relabel_local hx)) (.inr (lookup_relabel_local hx)) ak s _ H v u (λσ' H'=>H'=H/\σ'=some v::rest) I r ⟨rL,rL⟩) λ_ s' D=>?_;let⟨σ',H',F,e1,e2⟩:=D;subst e1 e2;show⟨[some v],rL,F,q⟩
def adX {X:Cx}(O:X.calm=true)(ok:jc X scope x)(hi:PI X (.Name x px) iter wi)(ht:∀cl C s₀ H₀ fp,U3 (blk X scope cl C x s₀ H₀ fp) ifs tt)(j:∀cl C s₀ H₀ fp,PE (blk X scope cl C x s₀ H₀ fp) elt te)(hs:∀x,foldedSetIterable iter X.env x=pure x:=by intro _;rfl):PE X (.ListComp elt [⟨.Name x px,iter,ifs,0⟩] scope pos) (adb wi tt te):=λak s σ H Q I h=>by
 let e:∀cl C s₀ H₀ fp,gk X scope cl C ([x]++X.N) s₀ H₀ fp=blk X scope cl C x s₀ H₀ fp:=λ_ _ _ _ _=>rfl;let nd:([x]++X.N).Nodup:=gV.mpr ⟨λz=>ok.out x z ok.hx,ok.nd⟩;let G:jA X scope [x] X.N id:=⟨ok.kind,ok.Ip,ok.names,ok.free,λ_=>rfl,rL,λσ i y v e1 e2=>⟨e1,e2,ok.out y (bo e1)⟩⟩
 rw[eval_ListComp];show Ca O G hi (λcl C s₀ H₀ fp=>J8 nd rL ok.hx) (λcl C s₀ H₀ fp=>ht cl C s₀ H₀ fp) (λcl C s₀ H₀ fp=>j cl C s₀ H₀ fp) hs I h λD C J Y m hn bk _ q=>⟨m,hn,λh' F=>(JA (.ref D) J ⟨bk h' F,rL,q⟩)⟩
def gY.mk {P:Prop}(h:i<n)(p:P):gY n i P:=⟨_,Nat.sub_lt_sub_left h (gr _),rL,h,p⟩
def Zw {K:W.Frag}{a D:Addr}{xs:List V}{te:TE}{σ:St}{H:Hp}{R:Hp->Prop}(j:Nat->List V->Hp->Prop)(h0:j 0 [] (upd H D (.lst [])))(hl:∀i ys H,i<=xs.length->j i ys H->bB K H a xs)(hs:∀i x ys H,xs[i]?=some x->j i ys H->te (some x::σ) H (J7 xs.length i D ys (j (i+1))))(hd:∀ys H,j xs.length ys H->R H):BZ (Itl K a) D H R (Xa σ lH te):=Ov j h0 hl hs hd
def S (l:List Nat):Str:=⟨l.toArray⟩
def ade (l):(S l).cps.toList=l:=rfl
def qI (l):(S l).length=l.length:=rfl
def wQ (h:S a=S b):a=b:=congrArg (λs:Str=>s.cps.toList) h
def agd (z:Str):S z.cps.toList=z:=by cases z;rfl
def ahU (a b):S a++S b=S (a++b):=by
 show (⟨a.toArray++b.toArray⟩:Str)=⟨(a++b).toArray⟩
 simp
def adf (a b):decide (V.str (S a)=V.str (S b))=decide (a=b):=by
 by_cases e:a=b;.subst e;simp
 .rw[ah e,ah];intro z;injection z with z;show e (wQ z)
section
variable {X:Cx}{a b c e o:Expr}{pos:Pos}
def adY (l){j pos}(h:x=S l):PE X (.Constant (.str x) j pos) (tC (.str (S l))):=by rw[h];show afp
def ahV:R2:=λx y H Q=>∃i j,x=.str (S i)/\y=.str (S j)/\i.length+j.length<=sizeLine/\Q (.str (S (i++j))) H
def mF:fW X (binaryOp .Add) ahV:=by intro ak s σ H x y v u Q I D F h;let⟨i,j,rfl,rfl,hz,q⟩:=h;show WT ak s σ H _ _ v u Q I D F (JA (S i) (S j) ⟨rL,rL,hz,by rw[ahU];show q⟩)
def ahW:R2:=λx y H Q=>∃l i c,x=.str (S l)/\y=.int i/\l.length<=sizeLine/\rK l i=some c/\Q (.str (S [c])) H
def zM:FJ X ahW:=by intro value j ak s σ H x y v u Q I F D h hs;let⟨l,i,c,rfl,rfl,hz,G,q⟩:=h;show af3 value j ak s σ H _ _ v u Q I F D (JE (S l) i c ⟨rL,rL,hz,G,q⟩) hs
def ahX:List V->Hp->VK->Prop:=λxs H Q=>∃l,xs=[.str (S l)]/\l.length<=sizeLine/\Q (.int l.length) H
def cY:iJ X (.builtin "len") ahX:=by intro ak s σ H xs us Q I r h;let⟨l,rfl,hz,q⟩:=h;show Px ak s σ H _ us Q I r ⟨S l,rL,hz,q⟩
def aiN:R2:=λx y H Q=>∃i j,x=.str (S i)/\y=.str (S j)/\Q (.bl (decide (i=j))) H
def ju:fW X (compareOp .Eq) aiN:=by intro ak s σ H x y v u Q I D F h;let⟨i,j,rfl,rfl,q⟩:=h;show iH ak s σ H _ _ v u Q I D F ⟨rL,by rw[adf];show q⟩
def aiO:R2:=λx y H Q=>∃i j,x=.str (S i)/\y=.str (S j)/\Q (.bl (!decide (i=j))) H
def Ir:fW X (compareOp .NotEq) aiO:=by intro ak s σ H x y v u Q I D F h;let⟨i,j,rfl,rfl,q⟩:=h;show wN ak s σ H _ _ v u Q I D F ⟨rL,by rw[adf];show q⟩
def aiP:R2:=λx y H Q=>∃c l,x=.str (S [c])/\y=.str (S l)/\Q (.bl (decide (c∈l))) H
def agf:fW X (compareOp .In) aiP:=by
 intro ak s σ H x y v u Q I j D h;let⟨c,l,rfl,rfl,q⟩:=h;show Y6 ak s σ H _ _ v u Q I j D (JA (S [c]) (S l) ⟨rL,rL,by
  let e:=StrLaws.found_one (S l) c;rw[ade]at e;rw[show (S [c])=(⟨#[c]⟩:Str) from rL,e];show q⟩)
noncomputable def gQ (l:List Nat)(lo hi:Option Int):List Nat:=(l.drop (HT.cV l.length 0 lo)).take (HT.cV l.length l.length hi-HT.cV l.length 0 lo)
def U4 (lo hi)(n):Builtin.Str.strSliceIndices lo hi 1 n=(List.range (HT.cV n n hi-HT.cV n 0 lo)).map (λk=>HT.cV n 0 lo+k):=by
 let D:∀(v:Int) (d:Nat),max (0:Int) (min (if v<0 then v+(n:Int) else v) (n:Int))=((HT.cV n d (some v):Nat):Int):=λv d=>by rw[<-HT.J4];split <;> grind
 let F:∀a b:Nat,sliceRange (a:Int) (b:Int) 1=(List.range (b-a)).map (λk=>a+k):=λa b=>by
  simp only[sliceRange,show ((1:Int) > 0)=True from by simp,if_true];by_cases G:(a:Int)<b
  .let e3:(((b:Int)-a+1-1)/1).toNat=b-a:=by first|simp|(simp;done)|(simp;lia)
   simp only[G,if_true,e3];calc fo λk _=>?_;lia
  .have:b-a=0:=by simp_all
   simp[G,this]
 unfold Builtin.Str.strSliceIndices;simp only[show ((1:Int) > 0)=True from by simp,if_true];cases lo with
 | none=>
  cases hi with| none=>show F 0 n| some j=>dsimp only;rw[D j n];show F 0 _
 | some i=>
  cases hi with| none=>dsimp only;rw[D i 0];show F _ n| some j=>dsimp only;rw[D i 0,D j n];show F _ _
def Zx (l)(lo hi):Txt.slice (S l) lo hi=S (gQ l lo hi):=by
 let I:HT.cV l.length l.length hi<=l.length:=HT.Zb _ _ (ai _) _;let D:((Builtin.Str.strSliceIndices lo hi 1 (S l).length).filterMap ((S l).cps[·]?))=gQ l lo hi:=by
  rw[U4];let h:=StrLaws.picks l (HT.cV l.length l.length hi-HT.cV l.length 0 lo) (HT.cV l.length 0 lo);unfold gQ;by_cases F:HT.cV l.length 0 lo<=HT.cV l.length l.length hi
  .let h2:=h (by simp_all);rw[qI];simpa [S] using h2
  .let e:HT.cV l.length l.length hi-HT.cV l.length 0 lo=0:=Nat.sub_eq_zero_of_le o6;rw[qI,e];simp
 unfold Txt.slice;split
 .rename_i F;let G:(Builtin.Str.strSliceIndices lo hi 1 (S l).length).length=l.length:=by
   simp at F;simpa [qI] using F
  let j:HT.cV l.length l.length hi-HT.cV l.length 0 lo=l.length:=by rw[U4,qI]at G;simpa using G
  let h0:HT.cV l.length 0 lo=0\/l.length=0:=o6;let e:gQ l lo hi=l:=by
   unfold gQ;rw[j];rcases h0 with z|z;.rw[z];simp
   .have:l=[]:=gm.mp z;subst this;simp
  rw[e]
 .rw[D];rfl
def aiQ:V->Option Int->Option Int->Hp->VK->Prop:=λx lo hi H Q=>∃l,x=.str (S l)/\l.length<=sizeLine/\Q (.str (S (gQ l lo hi))) H
def part_of {o:Option Int}(p:IsPart v o):∃l:Option (Int×Tok),v=partValue l/\l.map (·.1)=o:=by
 cases p with| none=>show⟨none,rL,rL⟩| int i t=>show⟨some (i,t),rL,rL⟩
def pA:Uz X aiQ:=by intro ak s σ H x v O Y lo hi sl Q I G hs pl D h;let⟨l,rfl,hz,q⟩:=h;let⟨t,rfl⟩:=G;let⟨p1,rfl,rfl⟩:=part_of pl;let⟨p2,rfl,rfl⟩:=part_of D;calc JA ("str") _ ⟨F.slot_str_getitem.lookup,typeIs_str _ _ _,?_⟩;calc wpAny_getItem_str_slice (l:=p1) (u:=p2) (st:=none) hs rL ?_;let e:=Zx l (p1.map (·.1)) (p2.map (·.1));let j:(Txt.slice (S l) (p1.map (·.1)) (p2.map (·.1))).length<=sizeLine:=bP (Txt.slice_le _ _ _) hz;calc post_val_or_str ⟨j,λt' k=>?_⟩;let J:(if ((Option.map (λx:Int×Tok=>x.1) none).getD 1==1&&(slicePicked (S l) p1 p2 none).length==(S l).length)=true then S l else ⟨((slicePicked (S l) p1 p2 none).filterMap ((S l).cps[·]?)).toArray⟩)=S (gQ l (p1.map (·.1)) (p2.map (·.1))):=e;show JA (.str (S (gQ l (p1.map (·.1)) (p2.map (·.1))))) H ⟨I.tok _,⟨t',congrArg (λz=>Value.str z t') J⟩,q⟩
abbrev Ts (ls:AB):List V:=ls.map λl=>V.str (S l)
def adg (K:W.Frag):List V->Hp->VK->Prop:=λxs H Q=>∃x n t b,xs=[x,.ty n]/\mD K H x t/\W.kitOne K t (.type n)=some b/\Q (.bl b) H
def fQ:iJ X (.builtin "isinstance") (adg X.K):=by intro ak s σ H xs us Q I r h;let⟨x,n,t,b,rfl,ty,k,q⟩:=h;let⟨u,D,rfl,r1,j⟩:=vals2 r;cases j;show Y8 I r1 ty k λtk=>(JA (.bl b) H ⟨I.tok tk,rL,q⟩)
def ahY:R2:=λx y H Q=>∃l n,x=.str (S l)/\y=.int (n:Nat)/\1<=n/\n<1000/\l.length<1000/\Q (.str (S (List.replicate n l).flatten)) H
theorem PB (l:List Nat):∀(n:Nat) (j:Array Nat),((List.replicate n l.toArray).foldl (· ++ ·) j).toList=j.toList++(List.replicate n l).flatten
 | 0,j=>by simp
 | n+1,j=>by rw[dE,mn,PB l n,dE];simp
def adZ:fW X (binaryOp .Mult) ahY:=by
 intro ak s σ H x y v u Q I O J h;let⟨l,n,rfl,rfl,h1,h2,h3,q⟩:=h;let⟨t,rfl⟩:=O;let⟨t',rfl⟩:=J;let j:l.length*n<=1000*1000:=fR (ap h3) (ap h2);let F:(1000*1000:Nat)<=sizeLine:=by decide
 calc PySem.P.mul_str ?_ ?_ ?_ ?_;.rw[ah pi,ah o6];rfl
 .intro _ _;let e:(2^63-1:Int)/(n:Int)>=1000:=by
   calc Int.le_ediv_of_mul_le (Iff.mpr mm h1) ?_;have:(1000:Int)*(n:Int)<=1000*1000:=by lia
   lia
  rw[qI];lia
 .intro _ _;show decide (_ > _)=false;rw[ah];rw[qI,dP];lia
 .rw[if_neg o6];let D:(⟨(List.replicate (n:Int).toNat (S l).cps).foldl (· ++ ·) #[]⟩:Str)=S (List.replicate n l).flatten:=by
   let e:=PB l n #[];rw[dP];unfold S;congr 1;apply oz.mp;simpa using e
  rw[D];split
  .rename_i G;let e:(List.replicate n l).flatten=l:=by
    simp at G;rcases G with z|z
    .have:n=1:=by lia
     subst this;simp
    .have:l=[]:=by simpa [S,Str.length] using z
     subst this;simp
   rw[e]at q;show JA (.str (S l)) H ⟨I,⟨t,rL⟩,q⟩
  .calc⟨?_,.str (S (List.replicate n l).flatten),H,I.tok _,⟨_,rL⟩,q⟩;rw[qI,len_rep,Nat.mul_comm];show bP j F
def U5 (ls:AB):Txt.join (S []) (ls.map S)=S ls.flatten:=by
 unfold Txt.join Builtin.Str.glued;let D:∀(ls:AB) (j:Array Nat),((ls.map S).foldl (λj p=>j++(S []).cps++p.cps) j).toList=j.toList++ls.flatten:=by
  intro ls
  induction ls with| nil=>intro j;simp| cons l r ih=>intro j;rw[cv,mn,ih];simp[S]
 unfold S;congr 1;apply oz.mp;cases ls with| nil=>rfl| cons l r=>have:=D r (S l).cps;let e:(List.map S (l::r)).drop 1=List.map S r:=rfl;show (((List.map S (l::r)).drop 1).foldl _ (S l).cps).toList=_;rw[e];show this.trans (by simp[S])
def rJoin (K:W.Frag):V->List V->Hp->VK->Prop:=λx vs H Q=>∃p ls,x=.str (S [])/\vs=[.ref p]/\bB K H p (Ts ls)/\ls.flatten.length<=1000/\Q (.str (S ls.flatten)) H
theorem En:∀{ls:AB} {us:List Value},Vals (Ts ls) us->StrsAre us (ls.map S)
 | [],_,.nil=>.nil
 | l::r,_,.cons q t=>by let⟨t',rfl⟩:=q;show .cons (S l) t' (En t)
def U6 (ls:AB):((ls.map S).map (·.length)).sum=ls.flatten.length:=by
 induction ls with| nil=>rfl| cons l r ih=>rw[cv,cv,nI,ih,eK,av,qI]
def qm:wO X "str.join" (rJoin X.K):=by
 intro ak s σ H x vs v us Q I G D h;let⟨p,ls,rfl,rfl,F,hz,q⟩:=h;let⟨t,rfl⟩:=G;let⟨u,rfl,j⟩:=vals1 D;cases j;let⟨its,r,pl,_⟩:=I.list F;refine join_list pl.isList (ys:=ls.map S) (by simpa using En r) ?_ λt' k=>?_
 .rw[U6];show _+_*0<=_;lia
 .show JA (.str (S ls.flatten)) H ⟨I.tok k,⟨t',congrArg (λz=>Value.str z t') (U5 ls)⟩,q⟩
end
structure aM (K:W.Frag)(mg:Str->Option Value)(name:Str)(st:Stmt)(ps:List Str):Prop where
 ex:∃f fd,dX K name name st f fd/\bN K fd ps []/\mg name=some (.ref f)
structure bV (P:Program)(w:World)(K:W.Frag)(mg:Str->Option Value)(base:Heap)(name:Str)(k:Nat)(ps:List Str)(sp:Sp):Prop where
 ex:∃f fd,bZ P w K mg base dz k f fd ps sp/\bN K fd ps []/\mg name=some (.ref f)/\W.keepIn K (.ref f)=true
def aM.ok {K:W.Frag}{mg:Str->Option Value}{name:Str}{st:Stmt}{N ps:List Str}{k:Nat}{sp:Sp}(D:aM K mg name st ps)(S:aZ N ps (aH st))(len:∀vs H Q E,sp vs H Q E->vs.length=ps.length)(j:∀(f:Addr) (bG:Value) (A:Around) (outer:List Env) (s:Shared) (H:Hp) (vs:List V) (Q:VK) (E:XK),fu k (A.deeper (envOfC name (aH st) s.heap.objs.size f bG))->sp vs H Q E->
   ∃t,vL (rQ dz P w K mg base N name (aH st) f bG A outer s H E).Ph (cH st) t/\t {nx:=λ_ H'=>Q .non H',rt:=Q} (start N vs) H):bV P w K mg base name (k+1) ps sp:=by
 let⟨f,fd,F,b,g⟩:=D.ex;show⟨f,fd,F.ok S len (j f),b,g,F.kp⟩
section
variable {X:Cx}{x:Str}{p pos:Pos}{e:Expr}{es:List Expr}{t:TA}
def agg (D:bV X.prog X.w X.K X.mg X.base x k ps sp)(J:fu k X.A)(I:Gl X x)(ha:PA X (e::es) t)(F:(x==("__debug__":Str))=false:=by decide)(hs:starEach (e::es) X.env=(false,eval e X.env)::starEach es X.env:=by rfl)(j:(backTo pos (starEach es X.env)).any (·.1)=false:=by rfl):PE X (.Call (.Name x p) (e::es) [] pos) (W3 sp [] E0 t):=by let⟨f,fd,G,b,g,kp⟩:=D.ex;show adM G J I g kp b .nil dM ha F hs j
end
theorem aB.upd (h:H p=none):aB H (upd H p o):=λb o' e=>by rw[aP (aY e h)];show e
def aB.dF (s:aB H H')(h:H p=none):aB H (L2.upd H' p o):=λb o' e=>by rw[aP (aY e h)];show s b o' e
def abz {K:W.Frag}{h:Heap}{mg:Str->Option Value}{name:Str}{st:Stmt}{ps:List Str}{f:Addr}{oc:Value}{od an:Option Addr}{osl:Array (Option Value)}{kV doc pm bG ct:Value}(X:K.In h)(G:h.Ns mainGlobals mg)(a:W.nsIn K mainGlobals name=some (some (.ref f)))(l:K.lookup f=some ⟨oc,od,.func (W.fnOf name name (cX st) (cH st) (aH st) .none kV doc pm an bG ct),osl⟩)(c:W.codeIn K bG name=true)(k:W.keepIn K (.ref f)=true)(hb:∀(kV doc pm:Value) (an:Option Addr) (bG ct:Value) (us:List Value),us.length=ps.length->bindArgs (W.fnOf name name (cX st) (cH st) (aH st) .none kV doc pm an bG ct) ⟨us,[]⟩=pure (ps.zip us)):aM K mg name st ps:=⟨f,_,fB l c k,(fB l c k).binds hb,di X G a⟩
def agh {K:W.Frag}{h:Heap}{mg:Str->Option Value}{st:Stmt}{x:Str}{f D:Addr}{oc:Value}{od an:Option Addr}{osl:Array (Option Value)}{kV doc pm bG ct:Value}(X:K.In h)(G:h.Ns mainGlobals mg)(j:mg "law"=some (.ref D))(a:W.nsIn K mainGlobals "law"=some (some (.ref f)))(l:K.lookup f=some ⟨oc,od,.func (W.fnOf "law" "law" (cX st) (cH st) (aH st) .none kV doc pm an bG ct),osl⟩)(c:W.codeIn K bG "law"=true)(k:W.keepIn K (.ref f)=true)(hb:∀(kV doc pm:Value) (an:Option Addr) (bG ct v:Value),bindArgs (W.fnOf "law" "law" (cX st) (cH st) (aH st) .none kV doc pm an bG ct) ⟨[v],[]⟩=pure [(x,v)]):∃fd:FuncData,dX K "law" "law" st D fd/\∀(s:Shared) (v:Value),BindsTo s fd ⟨[v],[]⟩ [(x,v)]:=by let e:=j.symm.trans (di X G a);cases e;show⟨_,fB l c k,λs v=>.of_eq (hb kV doc pm an bG ct v)⟩
def Ow (K:W.Frag):Sp:=λvs H Q _=>∃(a:Addr) (ns:List Int),vs=[.ref a]/\bB K H a (ns.map V.int)/\ns.length<=63/\∀H',Q (.bl true) H'
def ad0 {x:Str}{l:W.OpenLaw}{j:List Str}{J:(Str->Option Value)->Heap->Prop}{Y:World->Heap->Prop}{d:DefRec}{K:Params->W.Frag}(hn:l.most=some 63)(D:d.params.defaults=[])(I:∀(w:World) (h:Heap),Y w h->(K w.params).In h)(F:∀(w:World) (mg:Str->Option Value) (G:Addr) (h:Heap),(K w.params).In h->h.Ns mainGlobals mg->mg d.name=some (.ref G)->
   ∃fd:FuncData,(∀(s:Shared) (u:Value),BindsTo s fd ⟨[u],[]⟩ [(x,u)])/\∀base:Heap,(K w.params).In base->base.Ns mainGlobals mg->bZ l.prog w (K w.params) mg base dz 20 G fd [x] (Ow (K w.params))) :
  W.WalkO q j J Y l.row.toRowW d [] (λf vs=>PySem.call f vs):=
 L2.adV (n:=63) (k:=20) (x:=x) (CX:=λ_=>dz) (sp:=λw=>Ow (K w.params)) hn pj D ⟨rL,pj,pj⟩ I F (λ_ _ a ns hl _ O=>(JA a ns ⟨rL,O,hl,λ_=>rfl⟩)) λ_ _ _ _ _ z=>z
namespace RV
end RV
structure QE (X:Cx)(e:Expr)(t:TE):Prop where
 out:PE X e t
structure QT (X:Cx)(e:Expr)(t:TT):Prop where
 out:PT X e t
structure QW (X:Cx)(e:Expr)(t:TT):Prop where
 out:PW X e t
structure QA (X:Cx)(es:List Expr)(t:TA):Prop where
 out:PA X es t
structure QS (X:Cx)(st:Stmt)(t:TS):Prop where
 out:PS X st t
structure wR (X:Cx)(st:List Stmt)(t:TS):Prop where
 out:vL X st t
structure QG (X:Cx)(e:Expr)(t:TG):Prop where
 out:PG X e t
structure QGs (X:Cx)(es:List Expr)(t:LC):Prop where
 out:YQ X es t
structure QI (X:Cx)(tg iter:Expr)(wi:TI):Prop where
 out:PI X tg iter wi
structure QO (X:Cx)(e:Option Expr)(t:TO):Prop where
 out:PO X e t
structure QC (X:Cx)(op:CmpOp)(a b:Expr)(t:TE):Prop where
 out:PC X op a b t
structure QTs (X:Cx)(ifs:List Expr)(t:TT):Prop where
 out:U3 X ifs t
def QW.qt (h:QW X e t):QT X e t:=⟨h.out.pt⟩
section
variable {X:Cx}{st:Stmt}{rest:List Stmt}{t u:TS}
variable {pos:Pos}
variable {e:Expr}{te:TE}
def bJ  : wR X [] ac1:=⟨adE⟩
def aA (h1:QS X st t)(h2:wR X rest u):wR X (st::rest) (afB t u):=⟨abb h1.out h2.out⟩
def aF (h1:QS X st t):wR X [st] t:=⟨adF h1.out⟩
def cB (j:QT X c tc)(ha:wR X a t)(hb:wR X b u):QS X (.If c a b pos) (afE tc t u):=⟨ahL j.out ha.out hb.out⟩
def bf (j:QE X e te):QS X (.Return (some e) pos) (afC te):=⟨afD j.out⟩
def cR (j:QE X e te)(hs:swapsWith e none pos.line X.env=pure false:=by rfl):QS X (.Expr e pos) (ac2 te):=⟨adG j.out hs⟩
end
section
variable {X:Cx}{tg:Expr}
def fD (hp:PassesOwn (model X.prog X.w) X.A X.env X.xe)(D:X.calm=true)(hi:QI X tg iter wi)(j:QG X tg g)(hb:wR X body tb)(hs:∀x,foldedSetIterable iter X.env x=pure x:=by intro _;rfl):QS X (.For tg iter body [] pos) (afM wi g tb):=⟨afN hp D hi.out j.out hb.out hs⟩
end
section
variable {X:Cx}{o value:Expr}{f:Str}{pos pos':Pos}{ta tv:TE}
def aU (D:X.N.Nodup)(hi:X.N[i]?=some x)(hx:Loc X.env.scope x)(j:QE X e te)(hs:swapsWith e (some (.Name x pos')) pos.line X.env=pure false:=by rfl)(F:X.fn x=true\/X.env.scope.names.lookup x=some .local:=by first|show .inl rfl|show .inr rfl|assumption):QS X (.Assign [.Name x pos'] e pos) (J2 te (qH i)):=⟨afJ D hi hx j.out hs F⟩
def qp:wR X sts YL:=⟨YM⟩
def k_ (ha:QE X o ta)(j:QE X value tv)(hs:swapsWith value (some (.Attribute o f pos')) pos.line X.env=pure false):QS X (.Assign [.Attribute o f pos'] value pos) (afQ X.K ta tv f):=⟨afS ha.out j.out hs⟩
def pH (j:QE X e te)(D:QG X tg g)(hs:swapsWithSole [tg] e pos.line X.env=pure false:=by rfl)(hw:swappedStores [tg] e X.env=pure none:=by rfl)(h1:(assignEach [tg] X.env).map (·.2)=[assign tg X.env]:=by rfl):QS X (.Assign [tg] e pos) (J2 te g):=⟨afI j.out D.out hs hw h1⟩
def bC (j:X.N.Nodup)(hi:X.N[i]?=some x)(hx:Loc X.env.scope x)(D:X.fn x=true\/X.env.scope.names.lookup x=some .local:=by first|show .inl rfl|show .inr rfl|assumption):QG X (.Name x pos) (qH i):=⟨rO j hi hx D⟩
def nO {es:List Expr}{k:Nat}{t:LC}{n:Nat}(D:X.calm=true)(h:QGs X es t)(hn:(assignEach es X.env).length=n:=by rfl)(j:(assignEach es X.env).findIdx? (·.1)=none:=by rfl):QG X (.Tuple es k pos) (Wz X.K n t):=⟨Pj D h.out hn j⟩
def kY  : QGs X [] Wy:=⟨J1⟩
def bU (h1:QG X e t)(h2:QGs X es u)(hs:(assignEach (e::es) X.env).map (·.2)=assign e X.env::(assignEach es X.env).map (·.2):=by rfl):QGs X (e::es) (zJ t u):=⟨rP h1.out h2.out hs⟩
end
section
variable {X:Cx}
def au {i j pos}:QE X (.Constant (.int i) j pos) (tC (.int i)):=⟨afo⟩
def iu {b j pos}:QE X (.Constant (.bool b) j pos) (tC (.bl b)):=⟨ahI⟩
end
section
variable {X:Cx}{a b c:Expr}{ta tb tc:TE}{pos:Pos}
variable {tA:TT}
variable {pG:TT}{rest:List Expr}
def aJ (j:fW X (binaryOp op) r)(ha:QE X a ta)(hb:QE X b tb):QE X (.BinOp a op b pos) (Fy r ta tb):=⟨ahM j ha.out hb.out⟩
def mY (j:UnR X (unaryOp op) r)(ha:QE X a ta):QE X (.UnaryOp op a pos) (tUn r ta):=⟨ahN j ha.out⟩
def d7 (j:fW X (compareOp op) r)(ha:QE X a ta)(hb:QE X b tb)(hm:behindInMarks op b=false):QE X (.Compare a [op] [b] pos) (Fy r ta tb):=⟨adI j ha.out hb.out hm⟩
def bM (j:fW X (compareOp op) r)(ha:QE X a ta)(hb:QE X b tb)(hm:behindInMarks op b=false):QT X (.Compare a [op] [b] pos) (Ol (Fy r ta tb)):=⟨adJ j ha.out hb.out hm⟩
def lJ (D:fW X (compareOp op) r)(j:fW X (compareOp op') r')(ha:QE X a ta)(hb:QE X b tb)(F:QE X c tc)(hm:lastMarks [op,op'] [b,c]=false:=by with_unfolding_all rfl):QE X (.Compare a [op,op'] [b,c] pos) (BR r r' ta tb tc):=⟨abf D j ha.out hb.out F.out hm⟩
def zN (D:fW X (compareOp op) r)(j:fW X (compareOp op') r')(ha:QE X a ta)(hb:QE X b tb)(F:QE X c tc)(hm:lastMarks [op,op'] [b,c]=false:=by with_unfolding_all rfl):QT X (.Compare a [op,op'] [b,c] pos) (Ol (BR r r' ta tb tc)):=⟨abg D j ha.out hb.out F.out hm⟩
def dJ (h:QE X e t)(D:∀j,isTrue e X.env j=(do let v <- j;standAt e.pos;holding [v] (truthy v)):=by intro _;rfl):QT X e (tB t):=⟨afr h.out D⟩
def eG (ha:QT X a tA):QT X (.UnaryOp .Not a pos) (aft tA):=⟨afw ha.out⟩
def vP (ha:QT X a tA)(hb:QW X (.BoolOp .And (b::rest) pos) pG):QW X (.BoolOp .And (a::b::rest) pos) (afs tA pG):=⟨afv ha.out hb.out⟩
def yP (ha:QT X a tA):QW X (.BoolOp .And [a] pos) tA:=⟨adD ha.out⟩
def lY (ha:QT X a tA)(hb:QW X (.BoolOp .Or (b::rest) pos) pG):QW X (.BoolOp .Or (a::b::rest) pos) (tOr tA pG):=⟨ahJ ha.out hb.out⟩
def jZ (ha:QT X a tA):QW X (.BoolOp .Or [a] pos) tA:=⟨afu ha.out⟩
def jN (ha:QE X a ta)(hb:QE X (.BoolOp .And (b::rest) pos) tb):QE X (.BoolOp .And (a::b::rest) pos) (acZ ta tb):=⟨afz ha.out hb.out⟩
def Ox (ha:QE X a ta)(hb:QE X (.BoolOp .Or (b::rest) pos) tb):QE X (.BoolOp .Or (a::b::rest) pos) (afx ta tb):=⟨ahK ha.out hb.out⟩
def jw {op}(h:QE X a t):QE X (.BoolOp op [a] pos) t:=⟨afy h.out⟩
def Zy (ha:QE X a ta):QE X (.UnaryOp .Not a pos) (ac0 ta):=⟨afA ha.out⟩
def mZ (j:QT X c tA)(ha:QE X a ta)(hb:QE X b tb):QE X (.IfExp c a b pos) (tIf tA ta tb):=⟨aa_ j.out ha.out hb.out⟩
def aX (j:FJ X r)(ha:QE X a ta)(hb:QE X b tb)(hs:Em b):QE X (.Subscript a b pos) (Fy r ta tb):=⟨ahP j ha.out hb.out hs⟩
end
section
variable {X:Cx}{e:Expr}{te:TE}{lo hi:Option Expr}{tl th:TO}{pos p2:Pos}
variable {es:List Expr}{t:TA}
variable {x:Str}{p:Pos}{id:String}{r:List V->Hp->VK->Prop}
variable {T:String}
def dh {r:V->Option Int->Option Int->Hp->VK->Prop}(D:Uz X r)(j:QE X e te)(hl:QO X lo tl)(F:QO X hi th):QE X (.Subscript e (.Slice lo hi none p2) pos) (tSl r te tl th):=⟨abo D j.out hl.out F.out⟩
def d8  : QO X none Uy:=⟨adQ⟩
def dD (h:QE X e te):QO X (some e) (ac9 te):=⟨adR h.out⟩
def h_ (h:QA X es t):QE X (.List es pos) (afW t):=⟨afY h.out⟩
def cO {x1}(h:QA X es t):QE X (.Tuple es x1 pos) (afV t):=⟨afX h.out⟩
def ao  : QA X [] zK:=⟨afU⟩
def aj (ha:QE X e te)(j:QA X es t)(hs:starEach (e::es) X.env=(false,eval e X.env)::starEach es X.env:=by rfl):QA X (e::es) (uU te t):=⟨adL ha.out j.out hs⟩
def aV (J:iJ X (.builtin id) r)(G:Gl X x)(hm:X.mg x=none)(I:bootBuiltins x=some (.builtin id))(ha:QA X (e::es) t)(hn:x≠"__name__":=by decide)(D:(x==("__debug__":Str))=false:=by decide)(F:starEach (e::es) X.env=(false,eval e X.env)::starEach es X.env:=by rfl)(j:(backTo pos (starEach es X.env)).any (·.1)=false:=by rfl):QE X (.Call (.Name x p) (e::es) [] pos) (tCB r t):=⟨abm J G hm I ha.out hn D F j⟩
def eU (J:iJ X (.type T) r)(G:Gl X x)(hm:X.mg x=none)(I:bootBuiltins x=some (.type T))(ha:QA X (e::es) t)(hn:x≠"__name__":=by decide)(D:(x==("__debug__":Str))=false:=by decide)(F:starEach (e::es) X.env=(false,eval e X.env)::starEach es X.env:=by rfl)(j:(backTo pos (starEach es X.env)).any (·.1)=false:=by rfl):QE X (.Call (.Name x p) (e::es) [] pos) (tCB r t):=⟨Za J G hm I ha.out hn D F j⟩
end
section
variable {X:Cx}{o e:Expr}{es:List Expr}{to:TE}{t:TA}{name:Str}{apos cpos:Pos}{T id:String}{r:V->List V->Hp->VK->Prop}
variable {tg:Expr}
def fJ (J:PlainAttrs T)(slot:Slot T name id)(I:typeOf (.builtin id)=pure (.type "method_descriptor"))(hm:wO X id r)(O:QE X o to)(ha:QA X (e::es) t)(F:attributeBase o name X.env (eval o X.env)=eval o X.env:=by rfl)(G:((backTo cpos (starEach (e::es) X.env)).all (λx=>!x.1)&&(backToKw cpos (keywordEach [] X.env)).all (λx=>x.1.isSome)
   && decide ((e::es).length+([]:List Keyword).length+(if ([]:List Keyword).isEmpty then 0 else 1)<30))=true:=by rfl) (D:(apos.endLine==cpos.line)=true:=by rfl) (hs:starEach (e::es) X.env=(false,eval e X.env)::starEach es X.env:=by rfl) (j:(backTo cpos (starEach es X.env)).any (·.1)=false:=by rfl):QE X (.Call (.Attribute o name apos) (e::es) [] cpos) (tBM X.K T r to t):=
 ⟨ahR J slot I hm O.out ha.out F G D hs j⟩
def qJ (G:PlainAttrs T)(slot:Slot T name id)(F:typeOf (.builtin id)=pure (.type "method_descriptor"))(hm:wO X id r)(I:QE X o to)(D:attributeBase o name X.env (eval o X.env)=eval o X.env:=by rfl)(j:(apos.endLine==cpos.line)=true:=by rfl):QE X (.Call (.Attribute o name apos) [] [] cpos) (abp X.K T r to):=⟨af7 G slot F hm I.out D j⟩
def jV {x:Str}{v:V}{u:Value}{pos:Pos}(j:Gl X x)(hm:X.mg x=none)(D:bootBuiltins x=some u)(r:cD v u)(hn:x≠"__name__":=by decide)(hd:(x==("__debug__":Str))=false:=by decide):QE X (.Name x pos) (tC v):=⟨adC j hm D r hn hd⟩
def Eo (j:Gl X x)(hm:X.mg x=some u)(r:cD v u)(hd:(x==("__debug__":Str))=false:=by decide):QE X (.Name x pos) (tC v):=⟨adB j hm r hd⟩
def mG (hl:QE X l tl):QI X tg l (ac3 X.K tl):=⟨adH hl.out⟩
def gM (hl:QE X l tl):QI X tg l (afK X.K tl):=⟨afL hl.out⟩
def um (j:Gl X "range")(hm:X.mg "range"=none)(ha:QA X [a] ta)(hs:starEach [a] X.env=[(false,eval a X.env)]:=by rfl):QI X tg (.Call (.Name "range" p) [a] [] pos) (ac4 ta):=⟨YW j hm ha.out hs⟩
def Mr {a b:Expr}{ta:TA}{p pos:Pos}(D:Gl X "range")(hm:X.mg "range"=none)(ha:QA X [a,b] ta)(hs:starEach [a,b] X.env=[(false,eval a X.env),(false,eval b X.env)]:=by rfl)(j:starEach [b] X.env=[(false,eval b X.env)]:=by rfl):QI X tg (.Call (.Name "range" p) [a,b] [] pos) (ac5 ta):=⟨YX D hm ha.out hs j⟩
end
section
variable {X:Cx}{e:Expr}{f:Str}{pos:Pos}{ta:TE}
def bO (j:QE X e ta)(hb:attributeBase e f X.env (eval e X.env)=eval e X.env):QE X (.Attribute e f pos) (WY X.K ta f):=⟨afR j.out hb⟩
end
section
variable {X:Cx}{CX:uh}{k:Nat}{f C:Addr}{fd:FuncData}{ps:List Str}{sp:Sp}{jY:List V}{ds:List Value}{E:XK}{m:Str}{pos apos:Pos}{e o:Expr}{es:List Expr}{ta:TE}{t:TA}
variable {x:Str}{p:Pos}
variable {i:Expr}{td ty:TE}
variable {value:Expr}{tv:TE}{pos':Pos}
def mH {pl:Sem Bool}(G:QE X o ta)(c:Cls X.K C)(hm:Meth X.K C m f)(F:bZ X.prog X.w X.K X.mg X.base CX k f fd ps sp)(I:fu k X.A)(hb:bN X.K fd ps ds)(hd:Vals jY ds)(hx:Passes CX X E)(ha:QA X (e::es) t)(D:starEach (e::es) X.env=(false,eval e X.env)::starEach es X.env:=by rfl)(j:(backTo pos (starEach es X.env)).any (·.1)=false:=by rfl)(ht:eval (.Call (.Attribute o m apos) (e::es) [] pos) X.env=(do
   let ov <- eval o X.env
   standAt apos.atName
   let (f,first) <- holding [ov] (getMethod ov m pl)
   callWith pos f first (backTo pos (starEach (e::es) X.env)) (backToKw pos (keywordEach [] X.env))):=by rfl):QE X (.Call (.Attribute o m apos) (e::es) [] pos) (Om C m sp jY E ta t):=
 ⟨adN G.out c hm F I hb hd hx ha.out D j ht⟩
def fV (j:QE X o ta)(c:Cls X.K C)(hm:Meth X.K C m f)(F:bZ X.prog X.w X.K X.mg X.base CX k f fd ps sp)(D:fu k X.A)(hb:bN X.K fd ps ds)(hd:Vals jY ds)(hx:Passes CX X E)(ht:eval (.Call (.Attribute o m apos) [] [] pos) X.env=(do
   let ov <- eval o X.env
   standAt apos.atName
   let (f,first) <- holding [ov] (getMethod ov m pl)
   callWith pos f first (backTo pos (starEach [] X.env)) (backToKw pos (keywordEach [] X.env))):=by rfl):QE X (.Call (.Attribute o m apos) [] [] pos) (Om C m sp jY E ta zK):=
 ⟨abk j.out c hm F D hb hd hx ht⟩
def qu (M:Mk X.K C f)(F:bZ X.prog X.w X.K X.mg X.base CX k f fd ps sp)(J:fu (k+1) X.A)(I:Gl X x)(hm:X.mg x=some (.ref C))(hb:bN X.K fd ps ds)(hd:Vals jY ds)(hx:Passes CX X E)(ha:QA X (e::es) t)(D:(x==("__debug__":Str))=false:=by decide)(G:starEach (e::es) X.env=(false,eval e X.env)::starEach es X.env:=by rfl)(j:(backTo pos (starEach es X.env)).any (·.1)=false:=by rfl):QE X (.Call (.Name x p) (e::es) [] pos) (ac7 C sp jY E t):=⟨adO M F J I hm hb hd hx ha.out D G j⟩
def PJ  : QE X (.Dict [] [] pos) Zn:=⟨abv⟩
def agi (D:X.A.units+1<cLine)(hi:QE X i ty)(j:QE X o td):QC X .In i o (af9 ty td):=⟨af_ D hi.out j.out⟩
def U7 (F:X.A.units+1<cLine)(j:QE X o td)(hi:QE X i ty)(D:QE X value tv)(hs:swapsWith value (some (.Subscript o i pos')) pos.line X.env=pure false):QS X (.Assign [.Subscript o i pos'] value pos) (ada td ty tv):=⟨adU F j.out hi.out D.out hs⟩
end
section
variable {X:Cx}{a b:Expr}{pos:Pos}
def agj (h:QC X op a b t)(h1:behindInMarks op b=false:=by first|show aa9 _ pj pj|rfl):QE X (.Compare a [op] [b] pos) t:=⟨afq h.out h1⟩
def qv (i:Nat){x:Str}{pos:Pos}(D:X.N[i]?=some x:=by rfl)(F:Us X.env.scope x:=by first|show Or.inl rfl|show Or.inr (Or.inl rL)|show Or.inr (Or.inr rL))(hd:(x==("__debug__":Str))=false:=by decide)(j:(x==("__classdict__":Str))=false:=by decide):QE X (.Name x pos) (Wx i):=⟨pv i D F hd j⟩
def aG {X:Cx}{x:Str}{pos:Pos}:=@qv X 0 x pos
def aW {X:Cx}{x:Str}{pos:Pos}:=@qv X 1 x pos
def bA {X:Cx}{x:Str}{pos:Pos}:=@qv X 2 x pos
def bI {X:Cx}{x:Str}{pos:Pos}:=@qv X 3 x pos
def cL {X:Cx}{x:Str}{pos:Pos}:=@qv X 4 x pos
def cT {X:Cx}{x:Str}{pos:Pos}:=@qv X 5 x pos
def dW {X:Cx}{x:Str}{pos:Pos}:=@qv X 6 x pos
def iw {X:Cx}{x:Str}{pos:Pos}:=@qv X 7 x pos
def jq {X:Cx}{x:Str}{pos:Pos}:=@qv X 8 x pos
def jP {X:Cx}{x:Str}{pos:Pos}:=@qv X 9 x pos
def jd {X:Cx}{x:Str}{pos:Pos}:=@qv X 10 x pos
def nP {X:Cx}{x:Str}{pos:Pos}:=@qv X 11 x pos
def pI {X:Cx}{x:Str}{pos:Pos}:=@qv X 12 x pos
def dR:QTs X [] lH:=⟨adW⟩
end
section
variable {X:Cx}
def bH (l){j pos}(h:x=S l):QE X (.Constant (.str x) j pos) (tC (.str (S l))):=⟨adY l h⟩
end
section
variable {X:Cx}{x:Str}{p pos:Pos}{e:Expr}{es:List Expr}{t:TA}
def bD (D:bV X.prog X.w X.K X.mg X.base x k ps sp)(I:fu k X.A)(G:Gl X x)(ha:QA X (e::es) t)(F:(x==("__debug__":Str))=false:=by decide)(hs:starEach (e::es) X.env=(false,eval e X.env)::starEach es X.env:=by rfl)(j:(backTo pos (starEach es X.env)).any (·.1)=false:=by rfl):QE X (.Call (.Name x p) (e::es) [] pos) (W3 sp [] E0 t):=⟨agg D I G ha.out F hs j⟩
end
def jB {X:Cx}(D:X.calm=true)(ok:jc X scope x)(hi:QI X (.Name x px) iter wi)(ht:∀cl C s₀ H₀ fp,QTs (blk X scope cl C x s₀ H₀ fp) ifs tt)(j:∀cl C s₀ H₀ fp,QE (blk X scope cl C x s₀ H₀ fp) elt te)(hs:∀x,foldedSetIterable iter X.env x=pure x:=by intro _;rfl):QE X (.ListComp elt [⟨.Name x px,iter,ifs,0⟩] scope pos) (adb wi tt te):=⟨adX D ok hi.out (λcl C s₀ H₀ fp=>(ht cl C s₀ H₀ fp).out) (λcl C s₀ H₀ fp=>(j cl C s₀ H₀ fp).out) hs⟩
def rfg {as:List Addr}{n:Nat}{x:V}(h:(as.map V.ref)[n]?=some x):∃h:n<as.length,V.ref as[n]=x:=by
 let hn:n<as.length:=by have:=(ag.mp h).1;simpa using this
 rw[ck,ac hn]at h;show⟨hn,bp h⟩
def aM.cZ {K:W.Frag}{mg:Str->Option Value}{name:Str}{st:Stmt}{N ps:List Str}{k:Nat}{sp:Sp}(D:aM K mg name st ps)(S:aZ N ps (aH st))(j:∀(f:Addr) (bG:Value) (A:Around) (outer:List Env) (s:Shared) (H:Hp) (vs:List V) (Q:VK) (E:XK),fu k (A.deeper (envOfC name (aH st) s.heap.objs.size f bG))->sp vs H Q E->
   ∃t,wR (rQ dz P w K mg base N name (aH st) f bG A outer s H E).Ph (cH st) t/\t {nx:=λ_ H'=>Q .non H',rt:=Q} (start N vs) H) (len:∀vs H Q E,sp vs H Q E->vs.length=ps.length:=by intro _ _ _ _ h;repeat (first|(let⟨rfl,_⟩:=h;rfl)|let⟨_,h⟩:=h)):bV P w K mg base name (k+1) ps sp:=
 D.ok S len λf bG A outer s H vs Q E F h=>let ⟨t,a,b⟩:=j f bG A outer s H vs Q E F h;⟨t,a.out,b⟩
def dX.cZ {K:W.Frag}{mg:Str->Option Value}{x qual:Str}{st:Stmt}{N ps:List Str}{k:Nat}{sp:Sp}(F:dX K x qual st f fd)(S:aZ N ps (aH st))(j:∀(bG:Value) (A:Around) (outer:List Env) (s:Shared) (H:Hp) (vs:List V) (Q:VK) (E:XK),fu k (A.deeper (envOfC qual (aH st) s.heap.objs.size f bG))->sp vs H Q E->
   ∃t,wR (rQ dz P w K mg base N qual (aH st) f bG A outer s H E).Ph (cH st) t/\t {nx:=λ_ H'=>Q .non H',rt:=Q} (start N vs) H) (len:∀vs H Q E,sp vs H Q E->vs.length=ps.length:=by intro _ _ _ _ h;repeat (first|(let⟨rfl,_⟩:=h;rfl)|let⟨_,h⟩:=h)):bZ P w K mg base dz (k+1) f fd ps sp:=
 F.ok S len λbG A outer s H vs Q E D h=>let ⟨t,a,b⟩:=j bG A outer s H vs Q E D h;⟨t,a.out,b⟩
section
variable {prog:Program}{w:World}{A:Around}{E:AD}{s:Shared}
def Iu (J:wpAny (model prog w) A.in1 (collect v) (λvs s1=>∃O,StrsAre vs O/\vs.length<64/\
   ∀(h':Heap) (F:List Value) (j:List Str) (e:Nat),(∀b o,s1.heap.get? b=some o->h'.get? b=some o)->h'.get? s1.heap.objs.size=some (seqObj "list" F.toArray e)->StrsAre F j->j.Perm O->sortedS j=true->
    Q (.ref s1.heap.objs.size) {s1 with heap:=h' }) E s):wpAny (model prog w) A (call (.builtin "sorted") [v]) Q E s:=by
 calc Calls.call_function_entry kind_sorted plain_sorted entry_sorted (args_sorted1 _) ?_;unfold Builtin.«sorted»;calc ae (m:=checkCount "sorted" 1 1 _) (aw ?_);calc ae (cg J λvs s1 ⟨O,Y,I,h⟩=>?_);calc ae (wpAny_newList ?_);let D:(s1.heap.push (seqObj "list" vs.toArray 0)).get? s1.heap.objs.size=some (seqObj "list" vs.toArray 0):=a_ _ rfl;refine ae (hV (gu slot_list_sort (s:={s1 with heap:=s1.heap.push (seqObj "list" vs.toArray 0)}) ⟨_,D,rL⟩ entry_list_sort
  (list_sort_treeK (s:={s1 with heap:=s1.heap.push (seqObj "list" vs.toArray 0)}) strKind_oneLt D Y.keysOf (λv₁ v₂ rest e=>keyKind_strs (by rw[<-e];show Y)) I λG hp hs=>⟨_,rL,?_⟩) (args_list_sort _)))
 let⟨j,h1,h2,h3⟩:=sorted_out_str Y hp hs;let⟨e,Z⟩:=sortedHeap_at (vs:=vs) (out:=(arrOf G).map (·.2)) D;calc aw ⟨_,rL,h _ ((arrOf G).map (·.2)).toList j e (λb o z=>?_) (by rw[Array.toArray_toList];show Z) h1 h2 h3⟩;let hb:b<s1.heap.objs.size:=aE z;rw[sortedHeap_old (cq hb) (by rw[eQ];show lh hb)];show af _ z
end
def abA (h:ItemsOf (SignAt x) vs x.cps.size):StrsAre vs.toList (x.cps.toList.map λc=>(⟨#[c]⟩:Str)):=by
 let D:∀(l:List Value) (m:List Nat),l.length=m.length->(∀(j:Nat) v,l[j]?=some v->∃c u,m[j]?=some c/\v=.str ⟨#[c]⟩ u)->StrsAre l (m.map λc=>(⟨#[c]⟩:Str)):=by
  intro l
  induction l with
  | nil=>
   intro m hl _;cases m with| nil=>show .nil| cons c r=>simp at hl
  | cons a r ih=>
   intro m hl G;cases m with
   | nil=>simp at hl
   | cons c m=>
    let⟨J,u,e,rfl⟩:=G 0 a rfl;let I:c=J:=by simpa using e
    subst I;show .cons _ u (ih m (by simpa using hl) λj v F=>G (j+1) v F)
 calc D _ _ (by simpa using h.1) λj v F=>?_;let⟨c,u,e1,e2⟩:=h.2 j v (by simpa using F);show JA c u ⟨by simpa using e1,e2⟩
section
theorem qK:∀{j:List Str} {us:List Value},StrsAre us j->Vals (j.map V.str) us
 | _,_,.nil=>.nil
 | _,_,.cons x t r=>.cons ⟨t,rL⟩ (qK r)
end
def Its (l:List Nat):It:=⟨λi _=>i<l.length,λi H x H'=>H'=H/\∃c,l[i]?=some c/\x=.str (S [c]),λi _=>l.length<=i⟩
def abB {P:Program}{w:World}{K:W.Frag}{tg:Expr}{ty:String}(F:ty="str_ascii_iterator"\/ty="str_iterator")(l:List Nat)(t:Tok)(it:Addr):Turn P w K tg (Its l) [it] it (λi h=>i<=l.length/\h.IsStrIter it ty (S l) t i) where
 mem:=by simp
 obj:=λi h st b hb=>by
  let e:b=it:=by simpa using hb
  subst e;let⟨_,o,e,c,d⟩:=st;show⟨o,e,λv z=>by rw[d]at z;cases z⟩
 keep:=λi h h' st k=>⟨st.1,let ⟨o,ho,r⟩:=st.2;⟨o,k it pi o ho,r⟩⟩
 item:=by
  intro X hP hw hK Y i ak s σ H E I hf st Z;subst hP hw hK;let⟨f0,f1,f2,f3,f4,f5⟩:=hf it pi;let J:i<(S l).cps.size:=Z;let G:∀(v:Value) (h':Heap) (tk:Nat),SignAt (S l) i v->h'.IsStrIter it ty (S l) t (i+1)->(∀b o,b∉[it]->s.heap.get? b=some o->h'.get? b=some o)->
    ∃u,some v=some u/\wpAny (model X.prog X.w) X.A (letOwnedTupleGo tg (.ref it) u) (λ_ s2=>∃x H',aQ X ak σ H' s2/\cD x u/\(Its l).Ia i H x H'/\(i+1<=l.length/\s2.heap.IsStrIter it ty (S l) t (i+1))/\∀b∈[it],H' b=none) E {s with heap:=h',toks:=tk}:=by
   intro v h' tk O j D;let⟨c,u,hc',rfl⟩:=O;let I1:aQ X ak σ H {s with heap:=h',toks:=tk}:=I.turned (λb o hb e=>D b o (by simpa using hb) e) f0 f1 f3 f4 f5;let⟨o,e,c2,d2⟩:=id j;refine⟨_,rL,Ib (s:={s with heap:=h',toks:=tk}) e c2 d2 (by rcases F with rfl|rfl <;> decide) (JA (.str (S [c])) H ⟨I1,⟨u,rL⟩,⟨rL,c,by simpa [S] using hc',rL⟩,⟨Z,j⟩,λb hb=>(hf b hb).1⟩)⟩
  rcases F with rfl|rfl;.show(Walks.strAscii (prog:=X.prog) (w:=X.w) (I.ok.hd Y) it (S l) t).item i s _ _ J st.2 λv h' tk O j D=>G v h' tk O j D
  .show(Walks.strWide (prog:=X.prog) (w:=X.w) (I.ok.hd Y) it (S l) t).item i s _ _ J st.2 λv h' tk O j D=>G v h' tk O j D
 done:=by
  intro X hP hw hK Y i ak s σ H E I hf st Z;subst hP hw hK;let⟨f0,f1,f2,f3,f4,f5⟩:=hf it pi;let hi:i=(S l).cps.size:=Nat.le_antisymm st.1 Z;let j:=st.2;rw[hi]at j;rcases F with rfl|rfl
  .show(Walks.strAscii (prog:=X.prog) (w:=X.w) (I.ok.hd Y) it (S l) t).done s _ _ j λh' tk D=>⟨rL,I.turned (λb o hb e=>D b o (by simpa using hb) e) f0 f1 f3 f4 f5⟩
  .show(Walks.strWide (prog:=X.prog) (w:=X.w) (I.ok.hd Y) it (S l) t).done s _ _ j λh' tk D=>⟨rL,I.turned (λb o hb e=>D b o (by simpa using hb) e) f0 f1 f3 f4 f5⟩
 self:=λA i s Q E st h=>by
  rcases F with rfl|rfl;.show wpAny_pyIter_striter_ascii st.2 h
  .show wpAny_pyIter_striter_wide st.2 h
def Zz {a b c:List Nat}(h1:¬b<a)(h2:¬c<b):¬c<a:=by let j:a<=b:=h1;let D:b<=c:=h2;show List.le_trans j D
theorem Ms:∀(r:List Str) (p:Str),risingS p r=true->(∀x∈r,¬x.cps.toList<p.cps.toList)/\(r.map λy=>y.cps.toList).Pairwise (λa b=>decide (b<a)=false)
 | [],_,_=>⟨λ_ h=>by simp at h,List.Pairwise.nil⟩
 | y::r,p,h=>by
  rw[risingS,cn]at h;let h0:¬y.cps.toList<p.cps.toList:=by have:=h.1;simpa [ltCps_eq] using this
  let⟨h1,h2⟩:=Ms r y h.2;refine⟨λx hx=>?_,?_⟩
  .rcases bX.mp hx with e|e;.rw[e];show h0
   .show Zz h0 (h1 x e)
  .rw[cv];calc List.Pairwise.cons (λb hb=>?_) h2;let⟨x,hx,rfl⟩:=bd.mp hb;show ah (h1 x hx)
def Cd (ss)(h:sortedS ss=true):(ss.map λy=>y.cps.toList).Pairwise (λa b=>decide (b<a)=false):=by
 cases ss with| nil=>show List.Pairwise.nil| cons x r=>let⟨h1,h2⟩:=Ms r x h;rw[cv];calc List.Pairwise.cons (λb hb=>?_) h2;let⟨y,hy,rfl⟩:=bd.mp hb;show ah (h1 y hy)
section
variable {X:Cx}{tg:Expr}
def aiS (tl:TE):TI:=λσ H R=>tl σ H λx H1=>∃l,x=.str (S l)/\R (Its l) H1
def qL (hl:QE X l tl):QI X tg l (aiS tl):=⟨by
 intro ak s σ H R I h;calc cg (hl.out ak s σ H _ I h) λv s1 F=>?_;let⟨x,H1,j,r1,q1⟩:=F;let⟨l,e,q⟩:=q1;subst e;let⟨t,rfl⟩:=r1;calc wpAny_pyIter_strU ?_;let D:strIterType (S l)="str_ascii_iterator"\/strIterType (S l)="str_iterator":=by unfold strIterType;split <;> simp
 calc JJ s1.heap.objs.size [s1.heap.objs.size] _ _ H1 ⟨rL,j.kept (t':=s1.toks) λb o e=>af _ e,abB D l t _,⟨eI _,_,a_ _ rL,rL,rL⟩,λb hb=>?_,q⟩;let e:b=s1.heap.objs.size:=by simpa using hb
 subst e;show j.xX (ai _) (j.hok.fresh (ai _))⟩
def vQ {l:List Nat}{D:Addr}{te:TE}{σ:St}{H:Hp}{R:Hp->Prop}(j:Nat->List V->Hp->Prop)(h0:j 0 [] (upd H D (.lst [])))(hs:∀i c ys H,l[i]?=some c->j i ys H->te (some (.str (S [c]))::σ) H (J7 l.length i D ys (j (i+1))))(hd:∀ys H,j l.length ys H->R H):BZ (Its l) D H R (Xa σ lH te):=aby l.length j h0 (λi ys H h p=>⟨h,λx H' y=>by let⟨rfl,c,F,rfl⟩:=y;show hs i c ys _ F p⟩) λys H p=>⟨ai _,hd ys H p⟩
def jK (hc:X.calm=true):iJ X (.builtin "all") (λxs H Q=>∃(p:Addr) (bs:List Bool),xs=[.ref p]/\bB X.K H p (bs.map V.bl)/\Q (.bl (bs.all id)) H):=by
 intro ak s σ H xs us Q I r h;let⟨p,bs,rfl,hq,q⟩:=h;let⟨u,rfl,D⟩:=vals1 r;cases D;let⟨its,F,pl,hz⟩:=I.list hq;let J:p≠s.heap.objs.size:=by let⟨o,ho,_⟩:=pl.isList;show cq (aE ho)
 let hb:∀(i:Nat) (v:Value),its[i]?=some v->v=.bool (bs.getD i true):=λi v j=>by
  let O:=F.length;let hi:i<bs.length:=by have:=(ag.mp j).1;simp at O;simp_all
  let⟨u,hu,D⟩:=F.get (i:=i) (x:=.bl bs[i]) (by simp[hi]);rw[j]at hu;cases hu;cases D;simp[List.getD,hi]
 calc call_all_walk (ia pl.isList ?_);refine JP s.heap.objs.size _ _ _ _ _ (λi=>bs.getD i true) ⟨rL,Walks.list (A:=X.A.in1) (I.ok.hd hc) s.heap.objs.size p J its.toArray,⟨⟨_,a_ _ rL,rL,rL⟩,pl.isList.at λo e=>af _ e⟩,?_,λh' tk kk=>?_⟩
 .intro i v s' Q' E' j Z;let e:=hb i v (by simpa using j);subst e;show eJ Z
 .let I1:aQ X ak σ H {s with heap:=h',toks:=tk}:=I.kept λb o e=>kk b o (by
   intro hm;have:b=s.heap.objs.size:=by simpa using hm
   subst this;show absurd (aE e) (fg _)) (af _ e)
  calc JA (.bl (bs.all id)) H ⟨I1,?_,q⟩;show Value.bool _=Value.bool _;let O:its.toArray.size=bs.length:=by have:=F.length;simp at this;simp[this]
  rw[O];congr 1;let Y:∀bs:List Bool,(List.range bs.length).all (λi=>bs.getD i true)=bs.all id:=λbs=>by
   rw[gS,fe,fe];constructor
   .intro h x hx;let⟨i,hi,rfl⟩:=ij.mp hx;have:=h i (gp.mpr hi);simpa [List.getD,hi] using this
   .intro h i hi;let G:=gp.mp hi;have:=h bs[i] (aI _);simpa [List.getD,G] using this
  show Y bs
def abC:R2:=λx y H Q=>∃i j,x=.str (S i)/\y=.str (S j)/\Q (.bl (!decide (j<i))) H
def nQ:fW X (compareOp .LtE) abC:=by intro ak s σ H x y v u Q I D F h;let⟨i,j,rfl,rfl,q⟩:=h;let⟨t,rfl⟩:=D;let⟨t',rfl⟩:=F;show PySem.P.le_str (JA (.bl _) H ⟨I,rL,q⟩)
abbrev cU (l:List Nat):Key:=Sum.inr (S l)
def PK (hc:X.calm=true):iJ X (.builtin "sorted") (λxs H Q=>∃(d:Addr) (kvs:List (Key×V)) (ws:AB),xs=[.ref d]/\H d=some (.dK kvs)/\kvs.map (·.1)=ws.map cU/\ws.length<64/\
  ∀(p:Addr) (J:AB),H p=none->J.Perm ws->J.Pairwise (λa b=>decide (b<a)=false)->Q (.ref p) (upd H p (.lst (Ts J)))):=by
 intro ak s σ H xs us Q I r h;let⟨d,kvs,ws,rfl,hd,hk,h64,q⟩:=h;let⟨u,rfl,ru⟩:=vals1 r;cases ru;let⟨hz,lo,vs,Z,dd⟩:=W9 I.hok hd;let⟨ep,hat⟩:=dd.dictAt;let hkv:=KV.keys Z;let O:vs.length=ws.length:=by let h1:=KV.length Z;let h2:=congrArg List.length hk;simp at h2;lia
 calc Iu (W.kdu_collect (A:=X.A.in1) (W.kdl_dict (knd:=gG X.prog X.w) (kvs:=vs) (ep:=ep) lo) (I.ok.hd hc) hat (by rw[O];show ap (aK o6)) λh' tk acc kk G=>?_);let hS:StrsAre acc.toList (ws.map S):=by
  let key:∀(l:List Value) (m:AB),l.length=m.length->(∀(j:Nat) v,l[j]?=some v->∃c,m[j]?=some c/\∃u,v=.str (S c) u)->StrsAre l (m.map S):=by
   intro l
   induction l with
   | nil=>intro m hl _;cases m with|nil=>show .nil|cons c r=>simp at hl
   | cons a r ih=>
    intro m hl hv;cases m with
    | nil=>simp at hl
    | cons c m=>
     let⟨c',e,u,rfl⟩:=hv 0 a rfl;let e':c=c':=by simpa using e
     subst e';show .cons _ u (ih m (by simpa using hl) λj v hj=>hv (j+1) v hj)
  calc key _ _ (by rw[fm,G.1,O]) λj v hj=>?_;let⟨k,x,hx,hi⟩:=G.2 j v (by simpa using hj);let F:(ws.map cU)[j]?=some k:=by rw[<-hk,hkv,ck,hx];rfl
  rw[ck]at F;cases hw:ws[j]? with
  | none=>rw[hw]at F;cases F
  | some c=>
   rw[hw]at F;let e:cU c=k:=by simpa using F
   subst e;calc⟨c,rL,?_⟩;rcases iI (show zG (Sum.inr (S c)) v=true from hi) with⟨i,t,e1,_⟩|⟨y,t,e1,e2⟩;.cases e1
   .cases e1;show⟨t,e2⟩
 let I1:aQ X ak σ H {s with heap:=h',toks:=tk}:=I.kept kk;calc⟨_,hS,by rw[fm,G.1,O];show h64,λh2 Y D e k2 he hS' pm so=>?_⟩;let es:D=(D.map λy=>y.cps.toList).map S:=by rw[fA];calc(kr _).symm.trans (fo λy _=>?_);show(agd y).symm
 let Mt:(D.map λy=>y.cps.toList).Perm ws:=by have:=pm.map λy:Str=>y.cps.toList;rw[fA]at this;let e:((λy:Str=>y.cps.toList) ∘ S)=id:=rfl;rw[e,kr]at this;show this
 let hv:Vals (Ts (D.map λy=>y.cps.toList)) Y:=by have:=qK hS';rw[es]at this;simpa [Ts,n5] using this
 let hl:(Ts (D.map λy=>y.cps.toList)).length<=sizeLine:=by rw[aa,Mt.length_eq];show ap (aK o6)
 refine JA (.ref h'.objs.size) _ ⟨I1.laid (o:=.lst _) (t':=tk) k2 (ai _) ⟨hl,Y,e,hv,he⟩,rL,q _ _ I1.fresh Mt (Cd D so)⟩
def QI.or (h1:QI X tg iter w1)(h2:QI X tg iter w2):QI X tg iter (λσ H R=>w1 σ H R\/w2 σ H R):=⟨λak s σ H R I h=>by
 rcases h with h|h;.show h1.out ak s σ H R I h
 .show h2.out ak s σ H R I h⟩
end
def bB.keep {K:W.Frag}{xs:List V}(k:∀b o,H b=some o->b≠p->H' b=some o)(hp:∀o,H p=some o->(∀ys,o≠.lst ys)/\∀u ys,o≠.pC u (.lst ys))(h:bB K H a xs):bB K H' a xs:=by
 rcases h with(h|⟨o,h⟩)|h;.show .inl (.inl (k _ _ h λe=>(hp _ (e ▸ h)).1 _ rL))
 .show .inl (.inr ⟨o,k _ _ h λe=>(hp _ (e ▸ h)).2 _ _ rL⟩)
 .show .inr h
def aO.keep {K:W.Frag}{xs:List V}(k:∀b o,H b=some o->b≠p->H' b=some o)(hp:∀o,H p=some o->(∀ys,o≠.tup ys)/\∀u ys,o≠.pC u (.tup ys))(h:aO K H a xs):aO K H' a xs:=by
 rcases h with(h|⟨o,h⟩)|h;.show .inl (.inl (k _ _ h λe=>(hp _ (e ▸ h)).1 _ rL))
 .show .inl (.inr ⟨o,k _ _ h λe=>(hp _ (e ▸ h)).2 _ _ rL⟩)
 .show .inr h
end L2
namespace L2
open PySem PySem.Spec PyProof.Rows PySem.W
def ad1:List V->Hp->VK->Prop:=λxs H Q=>∃l,xs=[.str (S l)]/\l.length<64/\∀(p:Addr) (j:List Nat),H p=none->j.Perm l->(j.map λc=>[c]).Pairwise (λa b=>decide (b<a)=false)->Q (.ref p) (upd H p (.lst (Ts (j.map λc=>[c]))))
section
variable {X:Cx}
def uF (hc:X.calm=true):iJ X (.builtin "sorted") ad1:=by
 intro ak s σ H xs us Q I r h;let⟨l,rfl,J,q⟩:=h;let⟨u,rfl,ru⟩:=vals1 r;let⟨t,rfl⟩:=ru;let hz:(S l).cps.size<=sizeLine:=by show l.length<=sizeLine;show ap (aK o6)
 calc Iu (wpAny_collect_str (A:=X.A.in1) (I.ok.hd hc) (S l) t (λs1 acc k1 k2 k3 k4 D=>?_) hz);let hS:=abA D;calc⟨_,hS,?_,λh' F j e kk he O pm G=>?_⟩;.rw[fm,D.1];show J
 let Y:aQ X ak σ H s1:=by let I5:=I.kept (h':=s1.heap) (t':=s1.toks) k1;let⟨h',g',d',t'',o'⟩:=s1;simp only at k2 k3 k4;subst k2 k3 k4;show I5
 let Z:(j.map λy=>y.cps.toList.headD 0).Perm l:=by have:=pm.map λy:Str=>y.cps.toList.headD 0;rw[fA]at this;let e:((λy:Str=>y.cps.toList.headD 0) ∘ λc=>(⟨#[c]⟩:Str))=id:=rfl;rw[e,kr,ade]at this;show this
 let es:j=(j.map λy=>y.cps.toList.headD 0).map λc=>(⟨#[c]⟩:Str):=by rw[fA];calc(kr _).symm.trans (fo λy hy=>?_);let⟨c,_,rfl⟩:=bd.mp (pm.mem_iff.mp hy);rfl
 let hn:H s1.heap.objs.size=none:=Y.fresh;let hv:Vals (Ts ((j.map λy=>y.cps.toList.headD 0).map λc=>[c])) F:=by have:=qK O;rw[es]at this;simpa [Ts,S,n5] using this
 let hl:(Ts ((j.map λy=>y.cps.toList.headD 0).map λc=>[c])).length<=sizeLine:=by rw[aa,aa,Z.length_eq];show ap (aK o6)
 calc JA (.ref s1.heap.objs.size) _ ⟨Y.laid (o:=.lst _) (t':=s1.toks) kk (ai _) ⟨hl,F,e,hv,he⟩,rL,q _ _ hn Z ?_⟩;let pw:=Cd j G;rw[es,fA]at pw;show pw
end
end L2
namespace L2
open PySem PySem.Spec PyProof.Rows
section
variable {X:Cx}
def ahZ (i j:Int):Prop:=0<j/\j.natAbs.log2<9000
def Gu:fW X (binaryOp .FloorDiv) (rI ahZ λi j=>.int (i/j)):=Y4 λi j _ _ _ _ _ D q=>by let e:i.fdiv j=i/j:=nE _ (Int.le_of_lt D.1);rw[<-e]at q;show floordiv_int (Int.ne_of_gt D.1) q (.inl (PyProof.noPylong_of_log2 D.2))
def aiT:V->List V->Hp->VK->Prop:=λx vs H Q=>∃l,x=.str (S l)/\vs=[]/\l.length<=1000/\(∀c∈l,c<128)/\Q (.str (S (l.map up1))) H
def ZC:wO X "str.upper" aiT:=by
 intro ak s σ H x vs v us Q I J G h;let⟨l,rfl,rfl,hz,ha,q⟩:=h;let⟨t,rfl⟩:=J;let D:=G.zero;subst D;let j:Builtin.Str.tooLong (Txt.upper (S l)).length=false:=fit_upper (by rw[qI];lia);calc call_gives F.slot_str_upper (typeIs_str s _ t) F.entry_str_upper (F.args_str_upper_1 _) (gives_str_upper (S l) t j) ⟨fit_le j,?_⟩;let e:Txt.upper (S l)=S (l.map up1):=by rw[upper_ascii (x:=S l) ha];simp[S]
 show JA (.str (S (l.map up1))) H ⟨I.tok _,⟨s.toks,congrArg (λz=>Value.str z s.toks) e⟩,q⟩
def aiU:V->List V->Hp->VK->Prop:=λx vs H Q=>∃l,x=.str (S l)/\vs=[]/\l.length<=1000/\(∀c∈l,c<128)/\Q (.str (S (l.map lo1))) H
def PL:wO X "str.lower" aiU:=by
 intro ak s σ H x vs v us Q I J G h;let⟨l,rfl,rfl,hz,ha,q⟩:=h;let⟨t,rfl⟩:=J;let D:=G.zero;subst D;let j:Builtin.Str.tooLong (Txt.lower (S l)).length=false:=fit_lower (by rw[qI];lia);calc call_gives F.slot_str_lower (typeIs_str s _ t) F.entry_str_lower (F.args_str_lower_1 _) (gives_str_lower (S l) t j) ⟨fit_le j,?_⟩;let e:Txt.lower (S l)=S (l.map lo1):=by rw[lower_ascii (x:=S l) ha];simp[S]
 show JA (.str (S (l.map lo1))) H ⟨I.tok _,⟨s.toks,congrArg (λz=>Value.str z s.toks) e⟩,q⟩
end
def Ep {l:List Nat}{g:TG}{tb:TS}{D:Ends}{σ:St}{H:Hp}(j:Nat->St->Hp->Prop)(h0:j 0 σ H)(hs:∀i c σ H,l[i]?=some c->j i σ H->g (.str (S [c])) σ H λσ2 F=>tb {D with nx:=j (i+1),ct:=j (i+1),bk:=D.nx} σ2 F)(hd:∀σ H,j l.length σ H->D.nx σ H):J3 (Its l) g tb D σ H:=WM l.length j h0 (λi σ H h p=>⟨h,λx H' y=>by let⟨rfl,c,G,rfl⟩:=y;show hs i c σ _ G p⟩) λσ H p=>⟨ai _,hd σ H p⟩
def AL:List Nat:=(List.range 26).map (97 + ·)
def vG {α:Type}{xs:List α}(hn:xs.length=n)(h:0<n)(c):∃v,rK xs (c%(n:Int))=some v/\v∈xs:=by
 let h0:0<=c%(n:Int):=du _ o6;let h1:c%(n:Int)<n:=dC _ (Iff.mpr mm h);obtain⟨k,hk⟩:∃k:Nat,c%(n:Int)=(k:Int):=⟨(c%(n:Int)).toNat,o6⟩
 rw[hk];let hl:k<xs.length:=by simp_all
 show⟨xs[k],aN (by simp[hl]),aI _⟩
inductive Dt where
 | non|int (i:Int)|str (l:List Nat)|tup (ds:List Dt)|lst (ds:List Dt)
mutual
def toP:Dt->PyData
 | .non=>.none
 | .int i=>.int i
 | .str l=>.str (S l)
 | .tup ds=>.tuple (mJ ds)
 | .lst ds=>.list (mJ ds)
def mJ:List Dt->List PyData
 | []=>[]
 | d::ds=>toP d::mJ ds
end
mutual
theorem Xb:∀d e:Dt,PyData.eqv (toP d) (toP e)=true↔d=e
 | .non,.non=>by simp[toP,PyData.eqv]
 | .non,.int _=>by simp[toP,PyData.eqv]
 | .non,.str _=>by simp[toP,PyData.eqv]
 | .non,.tup _=>by simp[toP,PyData.eqv]
 | .non,.lst _=>by simp[toP,PyData.eqv]
 | .int _,.non=>by simp[toP,PyData.eqv]
 | .int _,.int _=>by simp[toP,PyData.eqv]
 | .int _,.str _=>by simp[toP,PyData.eqv]
 | .int _,.tup _=>by simp[toP,PyData.eqv]
 | .int _,.lst _=>by simp[toP,PyData.eqv]
 | .str _,.non=>by simp[toP,PyData.eqv]
 | .str _,.int _=>by simp[toP,PyData.eqv]
 | .str a,.str b=>by simp only[toP,PyData.eqv,beq_iff_eq,Dt.str.injEq];show⟨wQ,λz=>by rw[z]⟩
 | .str _,.tup _=>by simp[toP,PyData.eqv]
 | .str _,.lst _=>by simp[toP,PyData.eqv]
 | .tup _,.non=>by simp[toP,PyData.eqv]
 | .tup _,.int _=>by simp[toP,PyData.eqv]
 | .tup _,.str _=>by simp[toP,PyData.eqv]
 | .tup ds,.tup es=>by simp only[toP,PyData.eqv,Dt.tup.injEq];show PN ds es
 | .tup _,.lst _=>by simp[toP,PyData.eqv]
 | .lst _,.non=>by simp[toP,PyData.eqv]
 | .lst _,.int _=>by simp[toP,PyData.eqv]
 | .lst _,.str _=>by simp[toP,PyData.eqv]
 | .lst _,.tup _=>by simp[toP,PyData.eqv]
 | .lst ds,.lst es=>by simp only[toP,PyData.eqv,Dt.lst.injEq];show PN ds es
theorem PN:∀ds es:List Dt,PyData.eqvAll (mJ ds) (mJ es)=true↔ds=es
 | [],[]=>by simp[mJ,PyData.eqvAll]
 | [],_::_=>by simp[mJ,PyData.eqvAll]
 | _::_,[]=>by simp[mJ,PyData.eqvAll]
 | d::ds,e::es=>by simp only[mJ,PyData.eqvAll,cn,List.cons.injEq];rw[Xb d e,PN ds es]
end
open Classical in
def J9 (d e:Dt):PyData.eqv (toP d) (toP e)=decide (d=e):=by
 by_cases h:d=e;.rw[al h];show(Xb d e).mpr h
 .rw[ah h];cases z:PyData.eqv (toP d) (toP e) with| false=>rfl| true=>show absurd ((Xb d e).mp z) h
mutual
inductive iM (K:W.Frag) (H:Hp):Nat->Dt->V->Prop
 | non {n}:iM K H n .non .non
 | int {n} (i:Int):iM K H n (.int i) (.int i)
 | str {n} (l:List Nat) (h:∀c∈l,c<128):iM K H n (.str l) (.str (S l))
 | tup {n a ds xs} (h:aO K H a xs) (hs:dB K H n ds xs):iM K H (n+1) (.tup ds) (.ref a)
 | lst {n a ds xs} (h:bB K H a xs) (hs:dB K H n ds xs):iM K H (n+1) (.lst ds) (.ref a)
inductive dB (K:W.Frag) (H:Hp):Nat->List Dt->List V->Prop
 | nil {n}:dB K H n [] []
 | cons {n d ds x xs} (h:iM K H n d x) (hs:dB K H n ds xs):dB K H n (d::ds) (x::xs)
end
def ad2 (h:∀c∈l,c<128):PyData.strOk (S l)=true:=by unfold PyData.strOk;show l.toArray.all _=true;rw[Array.all_eq_true_iff_forall_mem];intro x hx;have:=h x (by simpa using hx);show al o6
mutual
theorem iM.lay {K:W.Frag}:∀{n:Nat} {d:Dt} {x:V},iM K H n d x->(toP d).canLay0=true/\(toP d).depth<=n
 | _,_,_,.non=>by simp[toP,PyData.canLay0,PyData.depth]
 | _,_,_,.int _=>by simp[toP,PyData.canLay0,PyData.depth]
 | _,_,_,.str l h=>by simp only[toP,PyData.canLay0,PyData.depth];show⟨ad2 h,eI _⟩
 | _,_,_,.tup _ hs=>by simp only[toP,PyData.canLay0,PyData.depth];have:=hs.lay;show⟨this.1,gt this.2⟩
 | _,_,_,.lst _ hs=>by simp only[toP,PyData.canLay0,PyData.depth];have:=hs.lay;show⟨this.1,gt this.2⟩
theorem dB.lay {K:W.Frag}:∀{n:Nat} {ds:List Dt} {xs:List V},dB K H n ds xs->PyData.canLayAll0 (mJ ds)=true/\PyData.depthAll (mJ ds)<=n
 | _,_,_,.nil=>by simp[mJ,PyData.canLayAll0,PyData.depthAll]
 | _,_,_,.cons h hs=>by let a:=h.lay;let b:=hs.lay;simp only[mJ,PyData.canLayAll0,PyData.depthAll,cn];show⟨⟨a.1,b.1⟩,Nat.max_le.mpr ⟨a.2,b.2⟩⟩
end
mutual
theorem iM.same {K:W.Frag}(j:aB H H')(st:∀a xs,aO K H a xs->aO K H' a xs):∀{n:Nat} {d:Dt} {x:V},iM K H n d x->iM K H' n d x
 | _,_,_,.non=>.non
 | _,_,_,.int i=>.int i
 | _,_,_,.str l h=>.str l h
 | _,_,_,.tup h hs=>.tup (st _ _ h) (hs.same j st)
 | _,_,_,.lst h hs=>.lst (j.seq h) (hs.same j st)
theorem dB.same {K:W.Frag}(j:aB H H')(st:∀a xs,aO K H a xs->aO K H' a xs):∀{n:Nat} {ds:List Dt} {xs:List V},dB K H n ds xs->dB K H' n ds xs
 | _,_,_,.nil=>.nil
 | _,_,_,.cons h hs=>.cons (h.same j st) (hs.same j st)
end
section
variable {X:Cx}
mutual
theorem iM.reads {ak:AE}{σ:St}{H:Hp}{s:Shared}(I:aQ X ak σ H s):∀{n:Nat} {d:Dt} {x:V} {u:Value},iM X.K H n d x->cD x u->∃as,Reads s.heap u (toP d) as
 | _,_,_,u,.non,r=>by cases r;show⟨[],by rw[toP];show .none⟩
 | _,_,_,u,.int i,r=>by let⟨t,rfl⟩:=r;show⟨[],by rw[toP];show .int i t⟩
 | _,_,_,u,.str l h,r=>by let⟨t,rfl⟩:=r;show⟨[],by rw[toP];show .str _ t⟩
 | _,_,_,u,.tup h hs,r=>by cases r;let⟨its,j,pl,_⟩:=I.tuple h;let⟨as,D⟩:=hs.reads I j;let⟨o,F,G,n,hd⟩:=pl;show⟨as,by rw[toP];show .tuple F G hd (by simpa using D)⟩
 | _,_,_,u,.lst h hs,r=>by cases r;let⟨its,j,pl,_⟩:=I.list h;let⟨as,D⟩:=hs.reads I j;let⟨o,F,G,n,hd⟩:=pl.isList;show⟨_::as,by rw[toP];show .list F G hd (by simpa using D)⟩
theorem dB.reads {ak:AE}{σ:St}{H:Hp}{s:Shared}(I:aQ X ak σ H s):∀{n:Nat} {ds:List Dt} {xs:List V} {us:List Value},dB X.K H n ds xs->Vals xs us->∃as,ReadsAll s.heap us (mJ ds) as
 | _,_,_,us,.nil,r=>by cases r;show⟨[],by rw[mJ];show .nil⟩
 | _,_,_,us,.cons h hs,r=>by
  cases r with| cons q t=>let⟨as,a⟩:=h.reads I q;let⟨bs,b⟩:=hs.reads I t;show⟨as++bs,by rw[mJ];show .cons a b⟩
end
def iM.shaped {K:W.Frag}{n:Nat}{d:Dt}{x:V}(h:iM K H n d x)(hn:n<=64):SeqAt.shaped (toP d)=true:=by unfold SeqAt.shaped;rw[h.lay.1,al (bP h.lay.2 hn)];rfl
open Classical in
def agk (K:W.Frag)(j:Bool):R2:=λx y H Q=>∃n d e,n<=64/\iM K H n d x/\iM K H n e y/\Q (.bl (if j then !decide (d=e) else decide (d=e))) H
def yQ (G:X.A.units+64<cLine):fW X (compareOp .Eq) (agk X.K false):=by intro ak s σ H x y v u Q I O D h;let⟨n,d,e,hn,hd,j,q⟩:=h;let⟨as,F⟩:=hd.reads I O;let⟨bs,J⟩:=j.reads I D;calc SeqAt.compareEq_shaped F J (hd.shaped hn) (j.shaped hn) G (JA (.bl _) H ⟨I,rL,?_⟩);rw[J9];show q
def yR (G:X.A.units+64<cLine):fW X (compareOp .NotEq) (agk X.K true):=by intro ak s σ H x y v u Q I O D h;let⟨n,d,e,hn,hd,j,q⟩:=h;let⟨as,F⟩:=hd.reads I O;let⟨bs,J⟩:=j.reads I D;calc SeqAt.compareNe_shaped F J (hd.shaped hn) (j.shaped hn) G (JA (.bl _) H ⟨I,rL,?_⟩);rw[J9];show q
def agl (K:W.Frag):V->List V->Hp->VK->Prop:=λx vs H Q=>∃p ls,x=.str (S [])/\vs=[.ref p]/\aO K H p (Ts ls)/\ls.flatten.length<=1000/\Q (.str (S ls.flatten)) H
def Gv:wO X "str.join" (agl X.K):=by
 intro ak s σ H x vs v us Q I G D h;let⟨p,ls,rfl,rfl,F,hz,q⟩:=h;let⟨t,rfl⟩:=G;let⟨u,rfl,j⟩:=vals1 D;cases j;let⟨its,r,pl,_⟩:=I.tuple F;refine join_tuple pl (ys:=ls.map S) (by simpa using En r) ?_ λt' k=>?_
 .rw[U6];show _+_*0<=_;lia
 .show JA (.str (S ls.flatten)) H ⟨I.tok k,⟨t',congrArg (λz=>Value.str z t') (U5 ls)⟩,q⟩
def zO (lo c:Int)(n:Nat):It:=⟨λi _=>i<n,λi H x H'=>H'=H/\x=.int (lo+i*c),λi _=>n<=i⟩
def FP {P:Program}{w:World}{K:W.Frag}{tg:Expr}(it:Addr)(lo c:Int)(n:Nat):Turn P w K tg (zO lo c n) [it] it (λi h=>IsRangeIter h it (lo+(i:Nat)*c) ((n:Int)-(i:Nat)) c) where
 mem:=by simp
 obj:=λi h st b hb=>by
  let e:b=it:=by simpa using hb
  subst e;show⟨_,st,λv z=>by let z':Data.fields _=Data.cell v:=z;cases z'⟩
 keep:=λi h h' st k=>k it pi _ st
 item:=by intro X J hw G O i ak s σ H E I D st F;subst J hw G;let⟨f0,f1,f2,f3,f4,f5⟩:=D it pi;let W:=Walks.range (prog:=X.prog) (w:=X.w) (I.ok.hd O) it lo c n;calc W.item i s _ _ F st λv h' tk hv j Z=>?_;let⟨t,rfl⟩:=hv;let Y:aQ X ak σ H {s with heap:=h',toks:=tk}:=I.turned (λb o hb e=>Z b o (by simpa using hb) e) f0 f1 f3 f4 f5;show⟨_,rL,Ib (s:={s with heap:=h',toks:=tk}) (n:="range_iterator") j rL rL pj (JA (.int (lo+i*c)) H ⟨Y,⟨t,rL⟩,⟨rL,rL⟩,j,λb hb=>(D b hb).1⟩)⟩
 done:=by intro X J hw G O i ak s σ H E I D st F;subst J hw G;let⟨f0,f1,f2,f3,f4,f5⟩:=D it pi;show wpAny_pyNext_range_end (I.ok.hd O) st (by have:n<=i:=F;lia) λh' eb=>⟨rL,I.turned (t':=s.toks) (λb o hb e=>eb b o hb e) f0 f1 f3 f4 f5⟩
 self:=λ_ _ _ _ _ st h=>wpAny_pyIter_rangeiter st h
variable {tg:Expr}
def ah0 (ta:TA):TI:=λσ H R=>ta σ H λvs H1=>∃r c:Nat,vs=[.int 0,.int ((r*c:Nat):Int),.int (c:Int)]/\1<=r/\r<=9/\1<=c/\c<=9/\R (zO 0 c r) H1
def agm:∀r c:Fin 10,1<=r.val->1<=c.val->Builtin.Range.small 0 ((r.val*c.val:Nat):Int) (c.val:Int)=true/\Builtin.Range.rangeSize 0 ((r.val*c.val:Nat):Int) (c.val:Int)=(r.val:Int):=by decide +kernel
def ZD {a b c:Expr}{ta:TA}{p pos:Pos}(Z:Gl X "range")(hm:X.mg "range"=none)(ha:QA X [a,b,c] ta)(hs:starEach [a,b,c] X.env=[(false,eval a X.env),(false,eval b X.env),(false,eval c X.env)]:=by rfl)(j:starEach [b,c] X.env=[(false,eval b X.env),(false,eval c X.env)]:=by rfl):QI X tg (.Call (.Name "range" p) [a,b,c] [] pos) (ah0 ta):=⟨by
 intro ak s σ H R I h;calc Call_ (qG I Z hm boot_range (ee (cg (ha.out pos ak s σ H _ I h) λus s1 Y=>?_) (by rw[hs,j]) (by rw[j];rfl)));let⟨vs,H1,O,r1,q1⟩:=Y;let⟨r,c,e,q1,q2,q3,q4,q⟩:=q1;subst e;cases r1 with
 | cons r1 rr=>
  cases rr with
  | cons r2 rr=>
   cases rr with
   | cons r3 rr=>
    cases rr;let⟨G,rfl⟩:=r1;let⟨F,rfl⟩:=r2;let⟨D,rfl⟩:=r3;let⟨sm,sz⟩:=agm ⟨r,Nat.lt_succ_of_le q2⟩ ⟨c,o6⟩ q1 q3;calc call_range_3 o6 ?_ (.inl (lm (by simp_all;lia)));calc nc (IsRange.new ..) sm ?_;let J:aQ X ak σ H1 {s1 with heap:=s1.heap.push {cls:=.type "range",data:=.fields #[.int 0 G,.int ((r*c:Nat):Int) F,.int (c:Int) D]},toks:=s1.toks}:=O.kept λb o e=>af _ e;refine JJ ((s1.heap.push {cls:=.type "range",data:=.fields #[.int 0 G,.int ((r*c:Nat):Int) F,.int (c:Int) D]}).objs.size) [(s1.heap.push {cls:=.type "range",data:=.fields #[.int 0 G,.int ((r*c:Nat):Int) F,.int (c:Int) D]}).objs.size] _ _ H1 ⟨rL,
     J.kept (t':=s1.toks) λb o e=>af _ e,FP _ 0 (c:Int) r,?_,λb hb=>?_,q⟩
    .let e1:(0:Int)+((0:Nat):Int)*(c:Int)=0:=pi;let e2:(r:Int)-((0:Nat):Int)=Builtin.Range.rangeSize 0 ((r*c:Nat):Int) (c:Int):=by rw[sz];simp
     show IsRangeIter _ _ ((0:Int)+((0:Nat):Int)*(c:Int)) ((r:Int)-((0:Nat):Int)) (c:Int);rw[e1,e2];show a_ _ rfl
    .let e:b=(s1.heap.push {cls:=.type "range",data:=.fields #[.int 0 G,.int ((r*c:Nat):Int) F,.int (c:Int) D]}).objs.size:=by simpa using hb
     subst e;show J.xX (ai _) (J.hok.fresh (ai _))⟩
end
def Tq {lo c:Int}{n:Nat}{D:Addr}{te:TE}{σ:St}{H:Hp}{R:Hp->Prop}(I:Nat->List V->Hp->Prop)(h0:I 0 [] (upd H D (.lst [])))(hs:∀i ys H,i<n->I i ys H->te (some (.int (lo+i*c))::σ) H λy j=>j D=some (.lst ys)/\ys.length<sizeLine/\gY n i (I (i+1) (ys++[y]) (upd j D (.lst (ys++[y])))))(hd:∀ys H,I n ys H->R H):∃W:Nat->Nat->List V->Hp->Prop,(∃m,W 0 m [] (upd H D (.lst [])))/\
   ∀i m ys H,W i m ys H->((zO lo c n).stop i H/\R H)\/((zO lo c n).go i H/\∀x H',(zO lo c n).Ia i H x H'->lH (some x::σ) H' λb J=>
    if b=true then te (some x::σ) J λy j=>j D=some (.lst ys)/\ys.length<sizeLine/\∃F,F<m/\W (i+1) F (ys++[y]) (upd j D (.lst (ys++[y])))
    else ∃F,F<m/\W (i+1) F ys J):=by
 calc⟨λi m ys H=>m=n-i/\i<=n/\I i ys H,⟨n,pi,eI _,h0⟩,?_⟩;intro i m ys H z;let⟨rfl,hi,p⟩:=z;by_cases G:i<n
 .calc .inr ⟨G,λx H' y=>?_⟩;let⟨e,y⟩:=y;subst e y;show hs i ys H' G p
 .let e:i=n:=o6;subst e;show .inl ⟨ai _,hd ys H p⟩
def qj {K:W.Frag}{a D:Addr}{xs:List V}{te:TE}{σ:St}{H:Hp}{R:Hp->Prop}(j:Nat->List V->Hp->Prop)(h0:j 0 [] (upd H D (.lst [])))(hl:∀i ys H,i<=xs.length->j i ys H->aO K H a xs)(hs:∀i x ys H,xs[i]?=some x->j i ys H->te (some x::σ) H (J7 xs.length i D ys (j (i+1))))(hd:∀ys H,j xs.length ys H->R H):BZ (Itt K a) D H R (Xa σ lH te):=Ov j h0 hl hs hd
section
variable {X:Cx}{x:Str}{pos:Pos}
def tL (j:Gl X x)(hm:∃t,X.mg x=some (.str (S l) t))(hd:(x==("__debug__":Str))=false:=by decide):QE X (.Name x pos) (tC (.str (S l))):=let ⟨t,e⟩:=hm;Eo j e ⟨t,rL⟩ hd
def Xc (j:Gl X x)(hm:∃t,X.mg x=some (.int i t))(hd:(x==("__debug__":Str))=false:=by decide):QE X (.Name x pos) (tC (.int i)):=let ⟨t,e⟩:=hm;Eo j e ⟨t,rL⟩ hd
def PX (j:QE X o to)(hi:QE X i ti)(hs:abd X t)(ha:∀v,assign (.Subscript o i pos) X.env v=(do
   let ov <- holding [v] (eval o X.env)
   let iv <- holding [v,ov] (eval i X.env)
   standAt pos
   holding [v,ov,iv] (setItem ov iv v)
   release [v,ov,iv] []):=by intro _;rfl):QG X (.Subscript o i pos) (afG to ti t):=⟨afH j.out hi.out hs ha⟩
end
def jx:bootBuiltins "all"=some (.builtin "all"):=by decide +kernel
def Mu:bootBuiltins "any"=some (.builtin "any"):=by decide +kernel
def P0 {K:W.Frag}(X:K.In h)(G:h.Ns mainGlobals mg)(a:W.nsIn K mainGlobals x=some (some (.str (S l) t))):∃t,mg x=some (.str (S l) t):=⟨t,di X G a⟩
def P_ {K:W.Frag}(X:K.In h)(G:h.Ns mainGlobals mg)(a:W.nsIn K mainGlobals x=some (some (.int i t))):∃t,mg x=some (.int i t):=⟨t,di X G a⟩
section
variable {X:Cx}
def abD (K:W.Frag)  (h:X.K=K:=by rfl):FJ X (af0 K):=by subst h;show fH
def qw (K:W.Frag)  (h:X.K=K:=by rfl):FJ X (af2 K):=by subst h;show bw
def abE (K:W.Frag)  (h:X.K=K:=by rfl):Uz X (af5 K):=by subst h;show vD
def Qa (K:W.Frag)  (h:X.K=K:=by rfl):iJ X (.builtin "isinstance") (adg K):=by subst h;show fQ
def Gw (K:W.Frag)  (h:X.K=K:=by rfl):wO X "str.join" (rJoin K):=by subst h;show qm
def Qc {name:Str}{apos cpos:Pos}{T id:String}(K:W.Frag)(J:PlainAttrs T)(slot:Slot T name id)(I:typeOf (.builtin id)=pure (.type "method_descriptor"))(hm:wO X id r)(O:QE X o to)(ha:QA X (e::es) t)(F:attributeBase o name X.env (eval o X.env)=eval o X.env:=by rfl)(G:((backTo cpos (starEach (e::es) X.env)).all (λx=>!x.1)&&(backToKw cpos (keywordEach [] X.env)).all (λx=>x.1.isSome)
   && decide ((e::es).length+([]:List Keyword).length+(if ([]:List Keyword).isEmpty then 0 else 1)<30))=true:=by rfl) (D:(apos.endLine==cpos.line)=true:=by rfl) (hs:starEach (e::es) X.env=(false,eval e X.env)::starEach es X.env:=by rfl) (j:(backTo cpos (starEach es X.env)).any (·.1)=false:=by rfl) (h:X.K=K:=by rfl):QE X (.Call (.Attribute o name apos) (e::es) [] cpos) (tBM K T r to t):=by subst h;show fJ J slot I hm O ha F G D hs j
end
def jr (l:List Nat):List Nat:=l.takeWhile λc=>c != 46
def iy (l:List Nat):List Nat:=(l.reverse.takeWhile λc=>c != 46).reverse
theorem Gx:∀{l:List Nat} {i:Nat},l[i]?=some 46->(∀k,k<i->l[k]?≠some 46)->jr l=l.take i
 | [],i,h,_=>by simp at h
 | c::l,0,h,_=>by
  have:c=46:=by simpa using h
  subst this;simp[jr]
 | c::l,i+1,h,hk=>by let F:c≠46:=λe=>hk 0 o6 (by simp[e]);let D:=Gx (l:=l) (i:=i) (by simpa using h) (λk j=>by have:=hk (k+1) (Nat.succ_lt_succ j);simpa using this);unfold jr at D ⊢;rw[nK (by simpa using F),D,List.take_succ_cons]
def Mv (h:46∉l):jr l=l:=by
 unfold jr
 induction l with| nil=>rfl| cons c r ih=>have j:c≠46:=λe=>h (by rw[e];show cf);rw[nK (by simpa using j),ih λz=>h (bE _ z)]
def ZF (h:46∉l):iy l=l:=by have:=Mv (l:=l.reverse) (by simpa using h);unfold jr at this;unfold iy;rw[this,List.reverse_reverse]
def abF (h:l[i]?=some 46)(j:∀k,i<k->l[k]?≠some 46):iy l=l.drop (i+1):=by
 let hi:i<l.length:=(ag.mp h).1;let e:jr l.reverse=l.reverse.take (l.length-(i+1)):=by
  refine Gx ?_ λk D=>?_
  .rw[List.getElem?_reverse (Nat.sub_lt_left_of_lt_add o6 o6),show l.length-1-(l.length-(i+1))=i by lia];show h
  .rw[List.getElem?_reverse (by simp[Nat.sub_le_iff_le_add,Nat.lt_sub_iff_add_lt]at *;lia)];show j _ (by simp[Nat.sub_le_iff_le_add,Nat.lt_sub_iff_add_lt]at *;lia)
 unfold jr at e;unfold iy;rw[e,List.take_reverse,List.reverse_reverse,show l.length-(l.length-(i+1))=i+1 by rw[Nat.sub_sub_self (by assumption)]]
def ZG (l:List Nat)(n:Nat):gQ l none (some (n:Int))=l.take n:=by
 unfold gQ;rw[HT.kO];show (l.drop 0).take (min n l.length-0)=_;rw[js,Nat.sub_zero];by_cases h:n<=l.length;.rw[fq h]
 .rw[ki o6,b9 (ai _),b9 o6]
def Qd (l:List Nat)(n:Nat):gQ l (some (n:Int)) none=l.drop n:=by
 unfold gQ;rw[HT.kO];show (l.drop (min n l.length)).take (l.length-min n l.length)=_;rw[b9 (by rw[bc];lia)];by_cases h:n<=l.length;.rw[fq h]
 .rw[ki o6,gL (ai _),gL o6]
def adh (l)(i j):Builtin.Str.strSub (S l) i j=S ((l.take j).drop i):=by unfold Builtin.Str.strSub S;congr 1;apply oz.mp;simp[List.drop_take]
section
variable {X:Cx}
def ZJ (l):(Txt.partition (S l) (S [46])).1=S (jr l):=by
 rcases partition_head (S l) (S [46]) with⟨e,h⟩|⟨i,e,h,D⟩
 .rw[e,Mv λhm=>?_];let⟨i,hi⟩:=List.mem_iff_getElem?.mp hm;show h i ((ic (S l) 46 i).mpr hi)
 .rw[e,adh,js,Gx (l:=l) ((ic (S l) 46 i).mp h) λk j z=>D k j ((ic (S l) 46 k).mpr z)]
def Xd (l):(Txt.rpartition (S l) (S [46])).2.2=S (iy l):=by
 unfold Txt.rpartition;rcases StrLaws.last_spec (S l) (S [46]) with⟨e,h⟩|⟨i,e,h,D⟩
 .rw[e];show S l=_;rw[ZF λhm=>?_];let⟨i,hi⟩:=List.mem_iff_getElem?.mp hm;show h i ((ic (S l) 46 i).mpr hi)
 .rw[e];show Builtin.Str.strSub (S l) (i+1) l.length=_;rw[adh,b9 (ai _),abF (l:=l) ((ic (S l) 46 i).mp h) λk j z=>D k j ((ic (S l) 46 k).mpr z)]
def ah1:V->List V->Hp->VK->Prop:=λx vs H Q=>∃l,x=.str (S l)/\vs=[.str (S [46])]/\l.length<=1000/\∀(p:Addr) (b c:Str),H p=none->Q (.ref p) (upd H p (.tup [.str (S (jr l)),.str b,.str c]))
def ad3:wO X "str.partition" ah1:=by
 intro ak s σ H x vs v us Q I J G h;let⟨l,rfl,rfl,hz,q⟩:=h;let⟨t,rfl⟩:=J;let⟨u,rfl,D⟩:=vals1 G;let⟨O,rfl⟩:=D;let hsz:(S l).length<=sizeLine:=ap (aK hz);calc call_meets F.slot_str_partition (typeIs_str _ _ _) F.entry_str_partition (F.args_str_partition_2 _ _) (meets_str_partition (S l) (S [46]) t O rL hsz) ?_;let e:=ZJ l;let j:=λb c=>q s.heap.objs.size b c (I.hok.fresh (ai _));rw[<-e]at j;unfold Txt.partition at j
 revert j
 cases Builtin.Str.occurrences (S l) (S [46]) 0 (S l).length 1 with| nil=>intro j;calc JA (.ref s.heap.objs.size) _ ⟨I.laid (o:=.tup _) (t':=s.toks+1) (λb ob z=>af _ z) (ai _) ?_,rL,j Str.empty Str.empty⟩;show⟨zsz 3,_,.cons ⟨_,rL⟩ (.cons ⟨_,rL⟩ (.cons ⟨_,rL⟩ .nil)),⟨_,a_ _ rL,rL,0,rL⟩⟩| cons i r=>intro j;calc JA (.ref s.heap.objs.size) _ ⟨I.laid (o:=.tup _) (t':=s.toks+1+1) (λb ob z=>af _ z) (ai _) ?_,rL,j (S [46]) (Builtin.Str.strSub (S l) (i+(S [46]).length) (S l).length)⟩;show⟨zsz 3,_,.cons ⟨_,rL⟩ (.cons ⟨_,rL⟩ (.cons ⟨_,rL⟩ .nil)),⟨_,a_ _ rL,rL,0,rL⟩⟩
def agn:V->List V->Hp->VK->Prop:=λx vs H Q=>∃l,x=.str (S l)/\vs=[.str (S [46])]/\l.length<=1000/\∀(p:Addr) (a b:Str),H p=none->Q (.ref p) (upd H p (.tup [.str a,.str b,.str (S (iy l))]))
def abG:wO X "str.rpartition" agn:=by
 intro ak s σ H x vs v us Q I J G h;let⟨l,rfl,rfl,hz,q⟩:=h;let⟨t,rfl⟩:=J;let⟨u,rfl,D⟩:=vals1 G;let⟨O,rfl⟩:=D;let hsz:(S l).length<=sizeLine:=ap (aK hz);calc call_meets F.slot_str_rpartition (typeIs_str _ _ _) F.entry_str_rpartition (F.args_str_rpartition_2 _ _) (meets_str_rpartition (S l) (S [46]) t O rL hsz) ?_;let e:=Xd l;let j:=λb c=>q s.heap.objs.size b c (I.hok.fresh (ai _));rw[<-e]at j;unfold Txt.rpartition at j
 revert j
 cases Builtin.Str.lastOccurrence (S l) (S [46]) 0 (S l).length with| none=>intro j;calc JA (.ref s.heap.objs.size) _ ⟨I.laid (o:=.tup _) (t':=s.toks+1) (λb ob z=>af _ z) (ai _) ?_,rL,j Str.empty Str.empty⟩;show⟨zsz 3,_,.cons ⟨_,rL⟩ (.cons ⟨_,rL⟩ (.cons ⟨_,rL⟩ .nil)),⟨_,a_ _ rL,rL,0,rL⟩⟩| some i=>intro j;calc JA (.ref s.heap.objs.size) _ ⟨I.laid (o:=.tup _) (t':=s.toks+1+1) (λb ob z=>af _ z) (ai _) ?_,rL,j (Builtin.Str.strSub (S l) 0 i) (S [46])⟩;show⟨zsz 3,_,.cons ⟨_,rL⟩ (.cons ⟨_,rL⟩ (.cons ⟨_,rL⟩ .nil)),⟨_,a_ _ rL,rL,0,rL⟩⟩
end
def abH {X:Cx}{j iter tg:Expr}{ns N2:List Str}{f:St->St}{TP:V->Hp->(St->Prop)->Prop}{ifs:List Expr}{scope:Scope}{wi:TI}(Y:X.calm=true)(ok:jA X scope ns N2 f)(hi:PI X tg iter wi)(F:∀cl C s₀ H₀ fp,Mq (gk X scope cl C (ns++N2) s₀ H₀ fp) tg ns.length TP)(ht:∀cl C s₀ H₀ fp,U3 (gk X scope cl C (ns++N2) s₀ H₀ fp) ifs tt)(J:∀cl C s₀ H₀ fp,PE (gk X scope cl C (ns++N2) s₀ H₀ fp) j te)(hs:∀x,foldedSetIterable iter X.env x=pure x:=by intro _;rfl):PE X (.ListComp j [⟨tg,iter,ifs,0⟩] scope pos) (B_ f ns.length wi TP tt te):=λak s σ H Q I h=>by rw[eval_ListComp];show Ca Y ok hi F ht J hs I h λD C O Z m hn bk _ q=>⟨m,hn,λh' G=>(JA (.ref D) O ⟨bk h' G,rL,q⟩)⟩
def jC (j:List Nat):Nat->St->St
 | _,[]=>[]
 | i,v::r=>(if j.contains i=true then none else v)::jC j (i+1) r
theorem Mw (ks):∀(i:Nat) (σ:St),(jC ks i σ).length=σ.length
 | _,[]=>rfl
 | i,_::r=>by rw[jC,dA,dA,Mw ks (i+1) r]
theorem Mx (ks):∀(i:Nat) (σ:St) (j:Nat) (v:V),(jC ks i σ)[j]?=some (some v)->ks.contains (i+j)=false/\σ[j]?=some (some v)
 | _,[],j,v,h=>by simp[jC]at h
 | i,x::r,0,v,h=>by
  rw[jC]at h;cases e:ks.contains i with| true=>rw[e]at h;simp at h| false=>rw[e]at h;show⟨by first|rfl|show e,by simpa using h⟩
 | i,x::r,j+1,v,h=>by rw[jC,List.getElem?_cons_succ]at h;let⟨a,b⟩:=Mx ks (i+1) r j v h;show⟨by rw[show i+(j+1)=i+1+j by lia];show a,by rw[List.getElem?_cons_succ];show b⟩
noncomputable def ago (sc:Scope)(N:List Str)(scope:Scope)(N2:List Str)(j:List Nat):Bool:=scope.kind == .function&&scope.names.all (λy=>y.2 != .cell)&&scope.names.all (λy=>y.2 != .local||scope.names.lookup y.1==some .local) &&
 scope.names.all (λy=>y.2 != .free||sc.names.lookup y.1==some .cell||sc.names.lookup y.1==some .free)&&N2.length==N.length &&
 (List.range N.length).all (λi=>j.contains i||(N2[i]? == N[i]? && (N[i]?.map λy=>scope.names.lookup y != some .local)==some true))
def jA.of {X:Cx}(N2)(ks)(h:ago X.env.scope X.N scope N2 ks=true):jA X scope ns N2 (jC ks 0):=by
 unfold ago at h;simp only[cn,fe,oP,bne_iff_ne,beq_iff_eq,ne_eq]at h;obtain⟨⟨⟨⟨⟨h1,h2⟩,h3⟩,h5⟩,D⟩,h7⟩:=h;refine⟨h1,λy hy=>h2 y hy,λy hy e=>(h3 y hy).resolve_left λz=>z e,λy hy e=>?_,Mw ks 0,D,λσ i y v e1 e2=>?_⟩
 .rcases h5 y hy with(z|z)|z;.show absurd e z
  .show .inl z
  .show .inr z
 .let⟨a,b⟩:=Mx ks 0 σ i v e2;rw[oB]at a;let hi:i<X.N.length:=by rw[<-D];show(ag.mp e1).1
  rcases h7 i (gp.mpr hi) with z|⟨j,F⟩;.rw[a]at z;cases z
  .rw[<-j,e1]at F;rw[j]at e1;show⟨e1,b,by simpa using F⟩
def ad4 {X:Cx}{scope:Scope}{N:List Str}(K:W.Frag)(Y:X.calm=true)(F:N.Nodup)(h0:N[0]?=some x)(h1:N[1]?=some y)(hx:scope.names.lookup x=some .local)(hy:scope.names.lookup y=some .local)(G:X.K=K:=by rfl):Mq (gk X scope cl C N s₀ H₀ fp) (.Tuple [.Name x px,.Name y py] k pos) 2 (λv H Q=>∃a p q,v=.ref a/\aO K H a [p,q]/\Q [some p,some q]):=by
 subst G;intro ak s pre rest H v u Q hp I r q;let⟨a,p,j,rfl,J,q⟩:=q;obtain⟨D,p1,rfl⟩:∃D p1,pre=[D,p1]:=by
  match pre,hp with| [D,p1],_=>show JA D p1 rfl
 let P:PG (gk X scope cl C N s₀ H₀ fp) (.Tuple [.Name x px,.Name y py] k pos) (Wz X.K 2 (zJ (qH 0) (zJ (qH 1) Wy))):=Pj (X:=gk X scope cl C N s₀ H₀ fp) Y (rP (rO (i:=0) F h0 (.inl (lookup_relabel_local hx)) (.inr (lookup_relabel_local hx))) (rP (rO (i:=1) F h1 (.inl (lookup_relabel_local hy)) (.inr (lookup_relabel_local hy))) J1));refine cg (P ak s _ H (.ref a) u (λσ' H'=>H'=H/\σ'=some p::some j::rest) I r
  (JA a [p,j] ⟨rL,J,rL,p,[j],rL,j,[],rL,rL,rL,rL⟩)) λ_ s' ⟨σ',H',O,e1,e2⟩=>?_
 subst e1 e2;show⟨[some p,some j],rL,O,q⟩
def oO {X:Cx}{scope:Scope}{N:List Str}(K:W.Frag)(Z:X.calm=true)(G:N.Nodup)(h0:N[0]?=some x)(h1:N[1]?=some y)(h2:N[2]?=some z)(hx:scope.names.lookup x=some .local)(hy:scope.names.lookup y=some .local)(hz:scope.names.lookup z=some .local)(J:X.K=K:=by rfl):Mq (gk X scope cl C N s₀ H₀ fp) (.Tuple [.Name x px,.Name y py,.Name z pz] k pos) 3 (λv H Q=>∃a p q r,v=.ref a/\aO K H a [p,q,r]/\Q [some p,some q,some r]):=by
 subst J;intro ak s pre rest H v u Q hp I r q;let⟨a,p,D,j,rfl,O,q⟩:=q;obtain⟨F,p1,p2,rfl⟩:∃F p1 p2,pre=[F,p1,p2]:=by
  match pre,hp with| [F,p1,p2],_=>show JE F p1 p2 rfl
 let P:PG (gk X scope cl C N s₀ H₀ fp) (.Tuple [.Name x px,.Name y py,.Name z pz] k pos) (Wz X.K 3 (zJ (qH 0) (zJ (qH 1) (zJ (qH 2) Wy)))):=Pj (X:=gk X scope cl C N s₀ H₀ fp) Z (rP (rO (i:=0) G h0 (.inl (lookup_relabel_local hx)) (.inr (lookup_relabel_local hx))) (rP (rO (i:=1) G h1 (.inl (lookup_relabel_local hy)) (.inr (lookup_relabel_local hy))) (rP (rO (i:=2) G h2 (.inl (lookup_relabel_local hz)) (.inr (lookup_relabel_local hz))) J1)));refine cg (P ak s _ H (.ref a) u (λσ' H'=>H'=H/\σ'=some p::some D::some j::rest) I r
  (JA a [p,D,j] ⟨rL,O,rL,p,[D,j],rL,D,[j],rL,j,[],rL,rL,rL,rL⟩)) λ_ s' ⟨σ',H',Y,e1,e2⟩=>?_
 subst e1 e2;show⟨[some p,some D,some j],rL,Y,q⟩
def lK {X:Cx}{j iter tg:Expr}{ns N2:List Str}{f:St->St}{TP:V->Hp->(St->Prop)->Prop}{ifs:List Expr}{scope:Scope}{wi:TI}(G:X.calm=true)(ok:jA X scope ns N2 f)(hi:QI X tg iter wi)(D:∀cl C s₀ H₀ fp,Mq (gk X scope cl C (ns++N2) s₀ H₀ fp) tg ns.length TP)(ht:∀cl C s₀ H₀ fp,QTs (gk X scope cl C (ns++N2) s₀ H₀ fp) ifs tt)(F:∀cl C s₀ H₀ fp,QE (gk X scope cl C (ns++N2) s₀ H₀ fp) j te)(hs:∀x,foldedSetIterable iter X.env x=pure x:=by intro _;rfl):QE X (.ListComp j [⟨tg,iter,ifs,0⟩] scope pos) (B_ f ns.length wi TP tt te):=⟨abH G ok hi.out D (λcl C s₀ H₀ fp=>(ht cl C s₀ H₀ fp).out) (λcl C s₀ H₀ fp=>(F cl C s₀ H₀ fp).out) hs⟩
def Oz (n i:Nat)(D:Addr)(TP:V->Hp->(St->Prop)->Prop)(f:St->St)(σ:St)(tt:TT)(te:TE)(x:V)(H:Hp)(ys:List V)(P:List V->Hp->Prop):Prop:=Zu TP f σ tt te x H (J7 n i D ys P) λj=>gY n i (P ys j)
def Iw {K:W.Frag}{a:Addr}{f:St->St}{σ:St}{tt:TT}{te:TE}:=@Ov (λH=>aO K H a) (Zu (λv _ Q=>Q [some v]) f σ tt te)
noncomputable def jQ {K KT:W.Frag}{a:Addr}{f:St->St}{σ:St}{tt:TT}{te:TE}:=@Ov (λH=>aO K H a) (Zu (λv H Q=>∃a p q r,v=.ref a/\aO KT H a [p,q,r]/\Q [some p,some q,some r]) f σ tt te)
def adi (h:te ([some x]++f σ) H λy j=>j D=some (.lst ys)/\ys.length<sizeLine/\gY n i (P (ys++[y]) (upd j D (.lst (ys++[y]))))):Oz n i D (λv _ Q=>Q [some v]) f σ lH te x H ys P:=by show (if true=true then (te ([some x]++f σ) H λy j=>j D=some (.lst ys)/\ys.length<sizeLine/\gY n i (P (ys++[y]) (upd j D (.lst (ys++[y]))))) else gY n i (P ys H));rw[if_pos rfl];show h
def ah2 {KT:W.Frag}{n i:Nat}{p q:V}{f:St->St}{x:V}{ys:List V}{P:List V->Hp->Prop}(hx:x=.ref a)(F:aO KT H a [p,q])(h:te ([some p,some q]++f σ) H λy j=>j D=some (.lst ys)/\ys.length<sizeLine/\gY n i (P (ys++[y]) (upd j D (.lst (ys++[y]))))):Oz n i D (λv H Q=>∃a p q,v=.ref a/\aO KT H a [p,q]/\Q [some p,some q]) f σ lH te x H ys P:=by calc JE a p q ⟨hx,F,?_⟩;show (if true=true then (te ([some p,some q]++f σ) H λy j=>j D=some (.lst ys)/\ys.length<sizeLine/\gY n i (P (ys++[y]) (upd j D (.lst (ys++[y]))))) else gY n i (P ys H));rw[if_pos rfl];show h
def uW {KT:W.Frag}{n i:Nat}{p q r:V}{f:St->St}{x:V}{ys:List V}{P:List V->Hp->Prop}(hx:x=.ref a)(F:aO KT H a [p,q,r])(h:te ([some p,some q,some r]++f σ) H λy j=>j D=some (.lst ys)/\ys.length<sizeLine/\gY n i (P (ys++[y]) (upd j D (.lst (ys++[y]))))):Oz n i D (λv H Q=>∃a p q r,v=.ref a/\aO KT H a [p,q,r]/\Q [some p,some q,some r]) f σ lH te x H ys P:=by calc JI a p q r ⟨hx,F,?_⟩;show (if true=true then (te ([some p,some q,some r]++f σ) H λy j=>j D=some (.lst ys)/\ys.length<sizeLine/\gY n i (P (ys++[y]) (upd j D (.lst (ys++[y]))))) else gY n i (P ys H));rw[if_pos rfl];show h
section
variable {X:Cx}
def ad5:V->List V->Hp->VK->Prop:=λx vs H Q=>∃(l:Addr) (us:AB) (w:List Nat),x=.ref l/\vs=[.str (S w)]/\H l=some (.lst (Ts us))/\w∈us/\us.length<=1000/\Q .non (upd H l (.lst (Ts (us.erase w))))
def strEq (w:List Nat)(u:Value):Bool:=match u with| .str z _=>z.cps.toList==w| _=>false
def ZK {us:AB}:us.erase w=us.eraseIdx (us.idxOf w):=by
 induction us with
 | nil=>rfl
 | cons a r ih=>
  by_cases h:a=w;.subst h;simp
  .rw[List.erase_cons_tail (by simpa using h),List.idxOf_cons,cond_eq_ite,if_neg (by simpa using h),iF,ih]
def wU:MtM X "list.remove" ad5:=by
 intro ak s σ H x vs v us Q I rx O h;let⟨l,ls,w,rfl,rfl,G,hw,hz,q⟩:=h;cases rx;let⟨u,rfl,J⟩:=O.one;let⟨t,rfl⟩:=J;let⟨z,its,n,r,hl,e⟩:=I.BW G;let Y:its.length=ls.length:=by rw[<-hl,aa]
 let hj:ls.idxOf w<ls.length:=List.idxOf_lt_length_of_mem hw;let get:∀(m:Nat) (hm:m<its.toArray.size),∃(tk:Tok) (j:m<ls.length),its.toArray[m]=.str (S ls[m]) tk:=λm hm=>by
  let j:m<ls.length:=by simp at hm;simp_all
  let⟨u1,e1,s1⟩:=r.get (i:=m) (x:=.str (S ls[m])) (by simp[j]);let⟨tk,rfl⟩:=s1;calc JA tk j ?_;rw[ac hm]at e1;simpa using e1
 refine call_meets F.slot_list_remove ⟨_,e,rL⟩ F.entry_list_remove (F.args_list_remove_2 _ _) (PySem.MeetsSeq.list_remove l its.toArray n (.str (S w) t) (strEq w) (λy hy=>?_) (ls.idxOf w) (by rw[ba];simp_all) ?_ (λm hm D=>?_) (by rw[ba,Y];show ap (aK hz))) ⟨e,?_⟩
 .let⟨m,hm,rfl⟩:=Array.mem_iff_getElem.mp hy;let⟨tk,_,e1⟩:=get m hm;rw[e1];show PySem.SeqRoads2.EqGives.str _ _ _ _
 .let⟨tk,j,e1⟩:=get (ls.idxOf w) (by rw[ba];lia);rw[e1];show (ls[ls.idxOf w]==w)=true;rw[List.getElem_idxOf];simp
 .let⟨tk,j,e1⟩:=get m hm;rw[e1];show (ls[m]==w)=false;have:=List.not_of_lt_findIdx (p:=λa=>a==w) (xs:=ls) (show m<ls.findIdx (λa=>a==w) from D);simpa using this
 .refine JA .non _ ⟨I.W8 (its':=its.eraseIdx (ls.idxOf w)) G e ?_ ?_ ?_,rL,q⟩
  .rw[Array.eraseIdxIfInBounds,dif_pos (by rw[ba];lia)];simp
  .rw[ZK];let hv:=Vals.eraseIdx (ls.idxOf w) r;let Z:∀(xs:AB) (i:Nat),Ts (xs.eraseIdx i)=(Ts xs).eraseIdx i:=by
    intro xs
    induction xs with
    | nil=>intro i;rfl
    | cons a r ih=>
     intro i;cases i with| zero=>rfl| succ i=>rw[iF,Ts,cv,Ts,cv,iF];congr 1;show ih i
   rw[Z];show hv
  .rw[aa];show bP (List.length_erase_le ..) (ap (aK hz))
def agp (K:W.Frag):List V->Hp->VK->Prop:=λxs H Q=>∃(a:Addr) (ws:AB),xs=[.ref a]/\bB K H a (Ts ws)/\ws.length<64/\∀(p:Addr) (j:AB),H p=none->j.Perm ws->j.Pairwise (λa b=>decide (b<a)=false)->Q (.ref p) (upd H p (.lst (Ts j)))
def Ce:iJ X (.builtin "sorted") (agp X.K):=by
 intro ak s σ H xs us Q I r h;let⟨a,ws,rfl,Z,O,q⟩:=h;let⟨u,rfl,G⟩:=vals1 r;cases G;let⟨its,D,pl,_⟩:=I.list Z;let cW:its.length=ws.length:=by have:=D.length;simpa using this.symm
 calc sorted_strs pl.isList (En D) (by simp_all) λout j a1 a2 a3=>?_;let⟨e,J⟩:=sortedAll_at s.heap its out;let F:(j.map λy=>y.cps.toList).Perm ws:=by have:=a2.map λy:Str=>y.cps.toList;rw[fA]at this;let e:((λy:Str=>y.cps.toList) ∘ S)=id:=rfl;rw[e,kr]at this;show this
 let Y:Vals (Ts (j.map λy=>y.cps.toList)) out.toList:=by
  have:=qK a1;let es:(j.map V.str)=Ts (j.map λy=>y.cps.toList):=by rw[Ts,fA];show fo λy _=>by simp[n5,agd]
  rw[es]at this;show this
 let hl:(Ts (j.map λy=>y.cps.toList)).length<=sizeLine:=by rw[aa,F.length_eq];show ap (aK o6)
 refine JA (.ref (s.heap.objs.size+1)) _ ⟨I.laid (o:=.lst _) (t':=s.toks) (λb o z=>sortedAll_old z) (kq _) ⟨hl,out.toList,e,Y,by rw[Array.toArray_toList];show J⟩,rL,q _ _ (I.hok.fresh (kq _)) F (Cd j a3)⟩
def aiV (t:TS):TS:=λD σ H=>∃I:St->Hp->Prop,t {D with nx:=I} σ H/\∀σ' H',I σ' H'->D.nx σ' H'
def fO {st:Stmt}(h:QS X st t):QS X st (aiV t):=⟨λak s σ H D I ⟨J,a,b⟩=>by
 calc cg (h.out ak s σ H _ I a) λf s' q=>?_;cases f with
 | next=>let⟨σ7,F,G,j⟩:=q;show JA σ7 F ⟨G,b _ _ j⟩
 | cont=>show q
 | brk=>show q
 | ret v=>show q⟩
end
end L2
namespace L2
open PySem PySem.Spec PyProof.Rows PySem.W
section
variable {prog:Program}{w:World}{A:Around}{E:AD}{s:Shared}
variable {X:Cx}
open Classical in
theorem U8 (d:Dt):∀es:List Dt,((mJ es).any λy=>PyData.eqv y (toP d))=decide (d∈es)
 | []=>by simp[mJ]
 | e::es=>by
  rw[mJ,ko,U8 d es,J9];by_cases z:e=d;.subst z;simp
  .let z':¬d=e:=λy=>z y.symm
   simp[z,z']
def agq {a b:Addr}{I ob:Obj}{na nb:Nat}{x1 j D G:Nat}{t1 t2 O Z:Tok}{r1 r2:List Value}{Q:AD}(ha:s.heap.get? a=some I)(ca:I.cls=.type "tuple")(da:I.data=.seq (Value.int x1 t1::Value.int j t2::r1).toArray na)(hb:s.heap.get? b=some ob)(cb:ob.cls=.type "tuple")(db:ob.data=.seq (Value.int D O::Value.int G Z::r2).toArray nb)(l1:j<1000)(l2:G<1000)(hu:A.units<cLine)(Y:x1*1000+j≠D*1000+G)(q:Q (.bool (decide (x1*1000+j<D*1000+G))) s):wpAny (model prog w) A (compareOp .Lt (.ref a) (.ref b)) Q E s:=by
 let Ta:s.TypeIs (.ref a) "tuple":=⟨I,ha,ca⟩
 let Tb:s.TypeIs (.ref b) "tuple":=⟨ob,hb,cb⟩
 show wpAny _ _ (richCompare .Lt (.ref a) (.ref b)) Q E s;calc wpAny_richCompare_same_room (op:=.Lt) (T:="tuple") Ta Tb mx (gu mx Ta F.entry_tuple_lt ?_ (F.args_tuple_lt_2 _ _)) hu;show wpAny _ _ (isInstance (.ref b) (.type "tuple") >>= _) _ _ s;calc ae (wpAny_isInstance Tb isSubtype_tuple_tuple ?_);simp only[lS,fw,if_false];calc ae (kM ha da (ae (kM hb db (ae ?_))));rw[show (Value.int (x1:Int) t1::Value.int (j:Int) t2::r1).toArray.toList.zip (Value.int (D:Int) O::Value.int (G:Int) Z::r2).toArray.toList=(Value.int (x1:Int) t1,Value.int (D:Int) O)::(Value.int (j:Int) t2,Value.int (G:Int) Z)::r1.zip r2 from rfl];rw[gc];calc ae ?_;dsimp only;calc ae (iO _ _ _ _ prog w _ _ ?_);by_cases ex:x1=D
 .subst ex;simp only[beq_self_eq_true,lS,fw,if_false];calc aw ?_;dsimp only;rw[gc];calc ae ?_;dsimp only;calc ae (iO _ _ _ _ prog w _ _ ?_);let J:((j:Int)==(G:Int))=false:=by
   apply beq_eq_false_iff_ne.mpr;intro z;show Y o6
  simp only[J,Bool.not_false,if_true];calc ae (og (ae (lt_int ?_)));calc ae (aw (aw (aw (aw ⟨_,rL,pi,?_⟩))));rw[show decide ((j:Int)<(G:Int))=decide (x1*1000+j<x1*1000+G) by simp];show q
 .let J:((x1:Int)==(D:Int))=false:=by
   apply beq_eq_false_iff_ne.mpr;intro z;show ex o6
  simp only[J,Bool.not_false,if_true];calc ae (og (ae (lt_int ?_)));calc ae (aw (aw (aw (aw ⟨_,rL,pi,?_⟩))));rw[show decide ((x1:Int)<(D:Int))=decide (x1*1000+j<D*1000+G) by
    by_cases z:x1<D;.rw[al (Iff.mpr mm z),al o6]
    .rw[ah (by simp[*]),ah o6]]
  show q
def aiW:R2:=λx y H Q=>∃(a b:Addr) (x1 j F D:Nat) (r1 G:List V),x=.ref a/\y=.ref b/\H a=some (.tup (.int x1 :: .int j::r1))/\H b=some (.tup (.int F :: .int D::G))/\j<1000/\D<1000/\x1*1000+j≠F*1000+D/\
 Q (.bl (decide (x1*1000+j<F*1000+D))) H
def agr (hu:X.A.units<cLine):fW X (compareOp .Lt) aiW:=by
 intro ak s σ H x y v u Q I rx Z h;let⟨a,b,x1,y1,x2,y2,r1,r2,rfl,rfl,Y,eb,l1,l2,J,q⟩:=h;cases rx;cases Z;let⟨_,tv,D,o,ho,hc,n,hd⟩:=I.hok _ _ Y;let⟨_,tv',O,o',F,G,n',j⟩:=I.hok _ _ eb;cases D with
 | cons q1 rr=>
  cases rr with
  | cons q2 rr=>
   cases O with
   | cons q3 rr'=>
    cases rr' with| cons q4 rr'=>let⟨t1,rfl⟩:=q1;let⟨t2,rfl⟩:=q2;let⟨t3,rfl⟩:=q3;let⟨t4,rfl⟩:=q4;show agq ho hc hd F G j l1 l2 hu J (JA (.bl _) H ⟨I,rL,q⟩)
def ags:List V->Hp->VK->Prop:=λxs H Q=>∃l:List Nat,xs=[.str (S l)]/\l.length<=1000/\∀p,H p=none->Q (.ref p) (upd H p (.lst (Ts (l.map λc=>[c]))))
theorem Mz:∀(l:List Nat) (us:List Value),us.length=l.length->(∀(i c:Nat),l[i]?=some c->∃t,us[i]?=some (.str (S [c]) t))->Vals (Ts (l.map λc=>[c])) us
 | [],[],_,_=>.nil
 | [],_::_,h,_=>by simp at h
 | _::_,[],h,_=>by simp at h
 | c::l,u::us,h,k=>by let⟨t,e⟩:=k 0 c rfl;let e:u=.str (S [c]) t:=bp e;show .cons ⟨t,e⟩ (Mz l us (by simpa using h) λi d hd=>k (i+1) d hd)
def m_ (F:X.calm=true):iJ X (.type "list") ags:=by
 intro ak s σ H xs us Q I r h;let⟨l,rfl,hl,q⟩:=h;let⟨u,rfl,G⟩:=vals1 r;let⟨t,rfl⟩:=G;let hz:l.length<=sizeLine:=ap (aK hl);calc call_list_str (I.ok.hd F) (S l) t (λh' tk j O Y J D=>?_) (by show l.toArray.size<=_;simpa using hz);let hsz:j.size=l.length:=by rw[D.1];show l.toArray.size=_;simp
 calc JA (.ref s.heap.objs.size) _ ⟨I.laid (o:=.lst (Ts (l.map λc=>[c]))) (t':=tk) Y (ai _) ⟨by rw[aa,aa];show hz,j.toList,O,?_,by simpa using J⟩,rL,q _ (I.hok.fresh (ai _))⟩;calc Mz l j.toList (by rw[fm];show hsz) λi c F=>?_;let hi:i<j.size:=by rw[hsz];show(ag.mp F).1
 let⟨c2,Z,e1,e2⟩:=D.2 i j[i] (by simp[hi]);let e1:l.toArray[i]?=some c2:=e1;rw[List.getElem?_toArray,F]at e1;let e1:=bp e1;show⟨Z,by rw[Array.getElem?_toList,om hi,e2,e1];rfl⟩
end
end L2
namespace L2
open PySem PySem.Spec PyProof.Rows
def ad6 {X:Cx}{ix:Nat}{F:Str}{J_ j:Pos}{J iter tg:Expr}{ns N2:List Str}{f:St->St}{TP:V->Hp->(St->Prop)->Prop}{ifs:List Expr}{scope:Scope}{pos:Pos}{wi:TI}{tt:TT}{te:TE}(hN:X.N.Nodup)(Y:X.N[ix]?=some F)(Z:Loc X.env.scope F)(hc:X.calm=true)(ok:jA X scope ns N2 f)(hi:PI X tg iter wi)(hg:∀cl C s₀ H₀ fp,Mq (gk X scope cl C (ns++N2) s₀ H₀ fp) tg ns.length TP)(ht:∀cl C s₀ H₀ fp,U3 (gk X scope cl C (ns++N2) s₀ H₀ fp) ifs tt)(he:∀cl C s₀ H₀ fp,PE (gk X scope cl C (ns++N2) s₀ H₀ fp) J te)(hs:∀x,foldedSetIterable iter X.env x=pure x:=by intro _;rfl)(hsw:swapsWith (.ListComp J [⟨tg,iter,ifs,0⟩] scope pos) (some (.Name F J_)) j.line X.env=pure true:=by rfl)(hf:X.fn F=true\/X.env.scope.names.lookup F=some .local:=by first|show .inl rfl|show .inr rfl|assumption):PS X (.Assign [.Name F J_] (.ListComp J [⟨tg,iter,ifs,0⟩] scope pos) j) (J2 (B_ f ns.length wi TP tt te) (qH ix)):=λak s σ H De I h=>by
 rw[exec_Assign_Name_used _ _ _ _ hsw];calc ae (lP (ae (ae ?_)));calc cg (Q:=λ_ s'=>∃σ' H',aQ X ak σ' H' s'/\De.nx σ' H') ?_ λ_ s' hq=>aw (aw hq);calc Ca (use:=some (assign (.Name F J_) X.env)) hc ok hi hg ht he hs I h λD C H4 s5 m hn bk G qn=>?_;calc wpAny_assign_Name (Lz (bk s5.heap (Heap.SameBut.refl _ _)) hN Y Z (show cD (.ref D) (.ref D) from rL) (λs6 I6 ⟨a,sb6,ha⟩ _=>?_) hf);let O:C≠a:=by
  rcases ha with z|z;.rw[z];show G.2.1
  .show λy=>G.2.2.2.2.1 _ _ z y.symm
 let⟨o,es,ep,e1,e2⟩:=hn;refine⟨m,(JE o es ep ⟨(sb6.2 C O).trans e1,e2⟩),λh' sb=>(JA _ H4 ⟨I6.turned (t':=s6.toks) (λb o hb e=>(sb.2 b hb).trans e) G.1 G.2.1 G.2.2.2.1 G.2.2.2.2.1 G.2.2.2.2.2,qn⟩)⟩
def U9 {X:Cx}{ix:Nat}{F:Str}{O j:Pos}{D iter tg:Expr}{ns N2:List Str}{f:St->St}{TP:V->Hp->(St->Prop)->Prop}{ifs:List Expr}{scope:Scope}{pos:Pos}{wi:TI}{tt:TT}{te:TE}(Y:X.N.Nodup)(G:X.N[ix]?=some F)(I:Loc X.env.scope F)(hc:X.calm=true)(ok:jA X scope ns N2 f)(hi:QI X tg iter wi)(Z:∀cl C s₀ H₀ fp,Mq (gk X scope cl C (ns++N2) s₀ H₀ fp) tg ns.length TP)(ht:∀cl C s₀ H₀ fp,QTs (gk X scope cl C (ns++N2) s₀ H₀ fp) ifs tt)(he:∀cl C s₀ H₀ fp,QE (gk X scope cl C (ns++N2) s₀ H₀ fp) D te)(hs:∀x,foldedSetIterable iter X.env x=pure x:=by intro _;rfl)(J:swapsWith (.ListComp D [⟨tg,iter,ifs,0⟩] scope pos) (some (.Name F O)) j.line X.env=pure true:=by rfl)(hf:X.fn F=true\/X.env.scope.names.lookup F=some .local:=by first|show .inl rfl|show .inr rfl|assumption):QS X (.Assign [.Name F O] (.ListComp D [⟨tg,iter,ifs,0⟩] scope pos) j) (J2 (B_ f ns.length wi TP tt te) (qH ix)):=⟨ad6 Y G I hc ok hi.out Z (λa b c d e=>(ht a b c d e).out) (λa b c d e=>(he a b c d e).out) hs J hf⟩
section
variable {X:Cx}
def ad7:V->List V->Hp->VK->Prop:=λx vs H Q=>∃l w,x=.str (S l)/\vs=[.str (S w)]/\∀n:Nat,Q (.int n) H
def ZL:wO X "str.count" ad7:=by intro ak s σ H x vs v us Q I G D h;let⟨l,w,rfl,rfl,q⟩:=h;let⟨t,rfl⟩:=G;let⟨u,rfl,j⟩:=D.one;let⟨t',rfl⟩:=j;calc call_gives F.slot_str_count (typeIs_str s _ t) F.entry_str_count (F.args_str_count_2 _ _) (gives_str_count (S l) (S w) t t') ?_;show EP X ak σ Q _ _;show JA (.int (Builtin.Str.occurrences (S l) (S w) 0 (S l).length ((S l).length+1)).length) H ⟨I.tok _,⟨s.toks,rL⟩,q _⟩
end
end L2
namespace L2
open PySem PySem.Spec PyProof.Rows PySem.W
open AutoSeq1 (wpAny_loadPart')
section
variable {X:Cx}{ak:AE}{σ:St}{H:Hp}{s:Shared}{h':Heap}
def aQ.Ka {t':Nat}{fp:List Addr}(I:aQ X ak σ H s)(k:∀b o,b∉fp->s.heap.get? b=some o->h'.get? b=some o)(D:∀b∈fp,uE X ak H b):aQ X ak σ H {s with heap:=h',toks:=t' }:=by
 let J:∀b u,H b=some u->b∉fp:=λb u e z=>by rw[(D b z).1]at e;cases e
 refine I.step (g':=s.gens) (d':=s.drawn) (ch:=fp) (λb hb=>?_) (λb o _ _ j e _=>k b o j e) (λb o _ _ j e _=>⟨o.slots,k b o j e⟩) (λ_ _ _ _ n=>n)
  (λb o j e=>⟨o,k b o j e⟩) (λ_ _ e=>e) (λ_ _ _ e=>e) (λb ps e=>⟨#[],by rw[e];simp⟩) (λm hm=>?_) (λb u e=>?_) I.bare
 .let⟨f0,f1,f2,f3,f4,f5⟩:=D b hb;show⟨f3,f1,f4,f5⟩
 .let⟨o,es,ep,F,r⟩:=hm;show JE o es ep ⟨k _ o (λz=>(D _ z).2.1 rL) F,r⟩
 .refine(I.hok b u e).stay (λc v j q=>k c v ?_ q) (λ_ q=>q) λ_ _ q=>q
  rcases j with z|z;.rw[z];show J b u e
  .show J c _ z
def aQ.pair {e it:Addr}{i tk:Nat}{x:V}{u:Value}{h1 h2:Heap}(I:aQ X ak σ H s)(F:∀b∈[e,it],uE X ak H b)(le:e<s.heap.objs.size)(li:it<s.heap.objs.size)(rx:cD x u)(G:h1.get? s.heap.objs.size=some {cls:=.type "tuple",data:=.seq #[.int i tk,u]})(Y:∀b o,b≠e->b≠it->s.heap.get? b=some o->h1.get? b=some o)(hs:Heap.SameBut e h1 h2):aQ X ak σ (upd H s.heap.objs.size (.tup [.int i,x])) {s with heap:=h2,toks:=tk+1}/\∀b∈[e,it],upd H s.heap.objs.size (.tup [.int i,x]) b=none:=by
 let J:aQ X ak σ (upd H s.heap.objs.size (.tup [.int i,x])) {s with heap:=s.heap.push {cls:=.type "tuple",data:=.seq #[.int i tk,u]},toks:=tk+1}:=I.laid (λb v e=>af _ e) (ai _) ⟨zsz 2,[.int i tk,u],.cons ⟨tk,rL⟩ (.cons rx .nil),⟨_,a_ _ rL,rL,_,rL⟩⟩
 let ne:∀b∈[e,it],b≠s.heap.objs.size:=λb hb=>by
  rcases bX.mp hb with z|z;.rw[z];show cq le
  .rw[aS.mp z];show cq li
 let fr:∀b∈[e,it],upd H s.heap.objs.size (.tup [.int i,x]) b=none:=λb hb=>by rw[aP (ne b hb)];show(F b hb).1
 let Z:=aQ.Ka (s:={s with heap:=s.heap.push {cls:=.type "tuple",data:=.seq #[.int i tk,u]},toks:=tk+1}) (h':=h2) (fp:=[e,it]) (t':=tk+1) J (λb o hb g=>?_) λb hb=>?_
 .show⟨Z,fr⟩
 .let j:b≠e:=λz=>hb (by simp[z])
  let D:b≠it:=λz=>hb (by simp[z]);rw[hs.2 b j];rcases Heap.get?_push_cases g with⟨O,z2⟩|z
  .rw[O,z2];show G
  .show Y b o j D z
 .let⟨f0,f1,f2,f3,f4,f5⟩:=F b hb;show⟨fr b hb,f1,f2,f3,f4,f5⟩
end
def Qe (l:List Nat):It:=⟨λi _=>i<l.length,λi H v H'=>∃T c,H T=none/\v=.ref T/\l[i]?=some c/\H'=upd H T (.tup [.int i,.str (S [c])]),λi _=>l.length<=i⟩
section
variable {prog:Program}{w:World}{A:Around}{E:AD}{s:Shared}
def Tr {it:Addr}{fp:List Addr}{n:Nat}{I:Nat->Value->Prop}{St:Nat->Heap->Prop}(D:Draws prog w A it fp n I St)(k:Nat):Draws prog w A it fp (k+n) (λj v=>∃i,j=k+i/\I i v) (λj h=>∃i,j=k+i/\St i h) where
 live:=λj h ⟨i,_,st⟩=>D.live i h st
 frame:=λj h h' ⟨i,e,st⟩ O=>⟨i,e,D.frame i h h' st O⟩
 item:=λj s Q E Z ⟨i,e,st⟩ Y=>by subst e;show D.item i s Q E (by simp_all) st λv h' tk hp G F=>Y v h' tk ⟨i,rL,hp⟩ ⟨i+1,rL,G⟩ F
 done:=λs Q E ⟨i,e,st⟩ J=>by
  have:i=n:=by lia
  subst this;show D.done s Q E st J
end
def Xe (l:List Nat)(k:Nat):It:=⟨λi _=>i<l.length,λi H v H'=>∃T c,H T=none/\v=.ref T/\l[i]?=some c/\H'=upd H T (.tup [.int ((k+i:Nat):Int),.str (S [c])]),λi _=>l.length<=i⟩
def Xf {P:Program}{w:World}{K:W.Frag}{elts:List Expr}{x1}{pos:Pos}{ty:String}(hty:ty="str_ascii_iterator"\/ty="str_iterator")(l:List Nat)(k:Nat)(t:Tok)(it e:Addr):Turn P w K (.Tuple elts x1 pos) (Xe l k) [e,it] e (λi h=>e≠it/\i<=l.length/\(∃j,IsEnum h e it ((k+i:Nat):Int) j)/\h.IsStrIter it ty (S l) t i) where
 mem:=by simp
 obj:=λi h st b hb=>by
  obtain⟨_,_,⟨j,G⟩,o,O,_,hd⟩:=st;rcases bX.mp hb with z|z;.show⟨_,by rw[z];show G,λv y=>by cases y⟩
  .show⟨o,by rw[aS.mp z];show O,λv y=>by rw[hd]at y;cases y⟩
 keep:=λi h h' st k=>by obtain⟨n,le,⟨j,G⟩,o,O,r⟩:=st;show⟨n,le,⟨j,k e pi _ G⟩,o,k it pi o O,r⟩
 item:=by
  intro X Y hw hK hc i ak s σ H E I hf st hg;subst Y hw hK;obtain⟨ne,le,⟨j,G⟩,hs⟩:=st;let hh:X.A.in1.handled=none:=by simp[I.ok.hd hc]
  let hg':k+i<k+(S l).cps.size:=Nat.add_lt_add_left hg k;let J:∀(D:Draws X.prog X.w X.A.in1 it [it] (S l).cps.size (λi v=>∃c u,(S l).cps[i]?=some c/\v=.str ⟨#[c]⟩ u) (λi h=>h.IsStrIter it ty (S l) t i)),
    wpAny (model X.prog X.w) X.A (pyNext (.ref e)) (λr s1=>∃u,r=some u/\wpAny (model X.prog X.w) X.A (letOwnedTupleGo (.Tuple elts x1 pos) (.ref e) u) (λ_ s2=>∃x H',aQ X ak σ H' s2/\cD x u/\(Xe l k).Ia i H x H'/\(e≠it/\i+1<=l.length/\(∃j,IsEnum s2.heap e it ((k+(i+1):Nat):Int) j)/\s2.heap.IsStrIter it ty (S l) t (i+1))/\∀b∈[e,it],H' b=none) E s1) E s:=by
   intro D;calc wpAny_pyNext_enum_itemD (Tr D k) G ⟨i,rL,hs⟩ hg' ne (by simp[ne]) λx h' tk Y O F hT hsz hk=>?_;let⟨i',ei,c,u,hc',rfl⟩:=Y;let⟨i'',ei2,F⟩:=F;obtain rfl:i'=i:=by lia
   obtain rfl:i''=i'+1:=by lia
   calc⟨_,rL,wpAny_letOwnedTupleGo_enum O λh2 he2 Z=>?_⟩;let⟨o,ho2,r2⟩:=F;let⟨oi,hoi,_⟩:=id hs;let⟨I3,fr⟩:=aQ.pair (i:=k+i') (x:=.str (S [c])) I hf (aE G) (aE hoi) ⟨u,rL⟩ hT hk Z;refine JA (.ref s.heap.objs.size) _ ⟨I3,rL,(JA s.heap.objs.size c ⟨I.hok.fresh (ai _),rL,by simpa [S] using hc',rL⟩),⟨ne,hg,⟨_,by simpa [Int.add_assoc] using he2⟩,o,(Z.2 it (gf ne)).trans ho2,r2⟩,fr⟩
  rcases hty with rfl|rfl;.show J (Draws.strAscii hh it (S l) t)
  .show J (Draws.strWide hh it (S l) t)
 done:=by
  intro X Y hw hK hc i ak s σ H E I hf st hg;subst Y hw hK;obtain⟨ne,le,⟨j,G⟩,hs⟩:=st;let hh:X.A.in1.handled=none:=by simp[I.ok.hd hc]
  let hi:i=(S l).cps.size:=Nat.le_antisymm le hg;let F:=hs;rw[hi]at F;let⟨f0,f1,f2,f3,f4,f5⟩:=hf it pi;rcases hty with rfl|rfl
  .show wpAny_pyNext_enum_endD (Draws.strAscii hh it (S l) t) G F λh' eb=>⟨rL,I.turned (t':=s.toks) (λb o hb e=>eb b o hb e) f0 f1 f3 f4 f5⟩
  .show wpAny_pyNext_enum_endD (Draws.strWide hh it (S l) t) G F λh' eb=>⟨rL,I.turned (t':=s.toks) (λb o hb e=>eb b o hb e) f0 f1 f3 f4 f5⟩
 self:=λA i s Q E st h=>by obtain⟨_,_,⟨j,G⟩,_⟩:=st;show wpAny_pyIter_enum G h
def Xg {K:W.Frag}{elts:List Expr}{x1}{ty:String}(j:ty="str_ascii_iterator"\/ty="str_iterator")(l:List Nat)(t:Tok)(it e:Addr):Turn P w K (.Tuple elts x1 pos) (Qe l) [e,it] e (λi h=>e≠it/\i<=l.length/\(∃D,IsEnum h e it i D)/\h.IsStrIter it ty (S l) t i):=by
 let h:=Xf (P:=P) (w:=w) (K:=K) (elts:=elts) (x1:=x1) (pos:=pos) j l 0 t it e;let e1:Xe l 0=Qe l:=by unfold Xe Qe;simp only[oB]
 simp only[oB]at h;rw[e1]at h;show h
section
variable {X:Cx}{elts:List Expr}{x1:Nat}{tp:Pos}
def agt (ta:TA):TI:=λσ H R=>ta σ H λvs H1=>∃l,vs=[.str (S l)]/\R (Qe l) H1
def abJ (O:Gl X "enumerate")(hm:X.mg "enumerate"=none)(ha:QA X [a] ta)(hs:starEach [a] X.env=[(false,eval a X.env)]:=by rfl):QI X (.Tuple elts x1 tp) (.Call (.Name "enumerate" p) [a] [] pos) (agt ta):=⟨by
 intro ak s σ H R I h;calc Call_ (qG I O hm boot_enumerate (ee (cg (ha.out pos ak s σ H _ I h) λus s1 J=>?_) hs rL));let⟨vs,H1,j,r1,q1⟩:=J;let⟨l,e,q⟩:=q1;subst e;cases r1 with
 | cons r rr=>
  cases rr;let⟨t,rfl⟩:=r;let F:strIterType (S l)="str_ascii_iterator"\/strIterType (S l)="str_iterator":=by unfold strIterType;split <;> simp
  calc call_enumerate_str λh' G D hsz Y=>wpAny_pyIter_enum G ?_;calc JJ (s1.heap.objs.size+1) [s1.heap.objs.size+1,s1.heap.objs.size] _ _ H1 ⟨rL,j.kept (t':=s1.toks) Y,Xg F l t s1.heap.objs.size _,⟨Nat.succ_ne_self _,eI _,⟨_,G⟩,D⟩,λb hb=>?_,q⟩;rcases bX.mp hb with z|z
  .rw[z];show j.xX (kq _) (j.hok.fresh (kq _))
  .rw[aS.mp z];show j.xX (ai _) (j.hok.fresh (ai _))⟩
def Qf (hc:X.calm=true):iJ X (.builtin "any") (λxs H Q=>∃(p:Addr) (bs:List Bool),xs=[.ref p]/\bB X.K H p (bs.map V.bl)/\Q (.bl (bs.any id)) H):=by
 intro ak s σ H xs us Q I r h;let⟨p,bs,rfl,hq,q⟩:=h;let⟨u,rfl,D⟩:=vals1 r;cases D;let⟨its,F,pl,hz⟩:=I.list hq;let J:p≠s.heap.objs.size:=by let⟨o,ho,_⟩:=pl.isList;show cq (aE ho)
 let hb:∀(i:Nat) (v:Value),its[i]?=some v->v=.bool (bs.getD i false):=λi v j=>by
  let O:=F.length;let hi:i<bs.length:=by have:=(ag.mp j).1;simp at O;simp_all
  let⟨u,hu,D⟩:=F.get (i:=i) (x:=.bl bs[i]) (by simp[hi]);rw[j]at hu;cases hu;cases D;simp[List.getD,hi]
 calc call_any_walk (ia pl.isList ?_);refine JP s.heap.objs.size _ _ _ _ _ (λi=>bs.getD i false) ⟨rL,Walks.list (A:=X.A.in1) (I.ok.hd hc) s.heap.objs.size p J its.toArray,⟨⟨_,a_ _ rL,rL,rL⟩,pl.isList.at λo e=>af _ e⟩,?_,λh' tk kk=>?_⟩
 .intro i v s' Q' E' j Z;let e:=hb i v (by simpa using j);subst e;show eJ Z
 .let I1:aQ X ak σ H {s with heap:=h',toks:=tk}:=I.kept λb o e=>kk b o (by
   intro hm;have:b=s.heap.objs.size:=by simpa using hm
   subst this;show absurd (aE e) (fg _)) (af _ e)
  calc JA (.bl (bs.any id)) H ⟨I1,?_,q⟩;show Value.bool _=Value.bool _;let O:its.toArray.size=bs.length:=by have:=F.length;simp at this;simp[this]
  rw[O];congr 1;let Y:∀bs:List Bool,(List.range bs.length).any (λi=>bs.getD i false)=bs.any id:=λbs=>by
   rw[gS,List.any_eq_true,List.any_eq_true];constructor
   .intro z;let⟨i,hi,h⟩:=z;let G:=gp.mp hi;show⟨bs[i],aI _,by simpa [List.getD,G] using h⟩
   .intro z;let⟨x,hx,h⟩:=z;let⟨i,hi,rfl⟩:=ij.mp hx;show⟨i,gp.mpr hi,by simpa [List.getD,hi] using h⟩
  show Y bs
end
structure ZA (z ti to u v a b:Addr):Prop where
 q1:ti≠z
 q2:to≠z
 q3:u≠z
 q4:v≠z
 q5:ti≠to
 q6:ti≠u
 q7:ti≠v
 q8:to≠u
 q9:to≠v
 p1:u≠v
 p2:a≠z
 p3:a≠to
 p4:a≠u
 p5:a≠v
 p6:b≠z
 p7:b≠to
 p8:b≠u
 p9:b≠v
section
variable {X:Cx}{ak:AE}{σ:St}{H:Hp}{s:Shared}
def aQ.ah3 {fp:List Addr}{tk:Nat}{x y:V}{p q:Value}{h2:Heap}(I:aQ X ak σ H s)(j:∀b∈fp,uE X ak H b)(lt:∀b∈fp,b<s.heap.objs.size)(rx:cD x p)(D:cD y q)(F:h2.get? s.heap.objs.size=some {cls:=.type "tuple",data:=.seq #[p,q]})(O:∀b o,b∉fp->s.heap.get? b=some o->h2.get? b=some o):aQ X ak σ (upd H s.heap.objs.size (.tup [x,y])) {s with heap:=h2,toks:=tk}/\∀b∈fp,upd H s.heap.objs.size (.tup [x,y]) b=none:=by
 let G:aQ X ak σ (upd H s.heap.objs.size (.tup [x,y])) {s with heap:=s.heap.push {cls:=.type "tuple",data:=.seq #[p,q]},toks:=tk}:=I.laid (λb v e=>af _ e) (ai _) ⟨zsz 2,[p,q],.cons rx (.cons D .nil),⟨_,a_ _ rL,rL,_,rL⟩⟩
 let fr:∀b∈fp,upd H s.heap.objs.size (.tup [x,y]) b=none:=λb hb=>by rw[aP (cq (lt b hb))];show(j b hb).1
 let Y:=aQ.Ka (s:={s with heap:=s.heap.push {cls:=.type "tuple",data:=.seq #[p,q]},toks:=tk}) (h':=h2) (fp:=fp) (t':=tk) G (λb o hb g=>?_) λb hb=>?_
 .show⟨Y,fr⟩
 .rcases Heap.get?_push_cases g with⟨J,Z⟩|z;.rw[J,Z];show F
  .show O b o hb z
 .let⟨f0,f1,f2,f3,f4,f5⟩:=j b hb;show⟨fr b hb,f1,f2,f3,f4,f5⟩
def ZM:bootBuiltins "zip"=some (.type "zip"):=by decide +kernel
end
structure vR (B:Heap)(l:List Env)(e:Addr)(cls:Value)(dd:Option Addr)(fl:Value)(h:Heap):Prop where
 stays:B.StaysIn h
 new:B.get? e=none
 frames:h.FunFrames B l
 tr:∃oe vs T oT ts,h.get? e=some oe/\oe.cls=cls/\oe.dict=dd/\oe.data=.fields vs/\vs[1]?=some (.ref T)/\vs[2]?=some .none/\B.get? T=none/\T≠e/\h.get? T=some oT/\oT.data=.fields ts/\ts[3]?=some fl
def vR.outer (x:vR B (env::l) e cls dd fl h):vR B l e cls dd fl h:=⟨x.stays,x.new,x.frames.2.2,x.tr⟩
def MF (o:Obj)(f):(o.mapFields f).dict=o.dict:=by let⟨c,d,j,sl⟩:=o;cases j <;> rfl
section
variable {M:Model}{A:Around}{E:AD}{s:Shared}{B:Heap}{env:Env}{outer l:List Env}{L e:Addr}{oe:Obj}{vs:Array Value}{head cls fl:Value}{dd:Option Addr}{hadNext:Bool}{Q:Unit->Shared->Prop}
def Iz (I:A.frames=some (env::outer))(hl:s.heap.FunFrames B (env::outer))(hf:env.frame=some L)(J:s.heap.get? e=some oe)(kb:B.StaysIn s.heap)(en:B.get? e=none)(hd:oe.data=.fields vs)(hz:1<vs.size)(h2:vs[2]?=some .none)(h:∀h',vR B (env::outer) e oe.cls oe.dict (rawInt L) h'->s.heap.UpToSlots h'->Q () {s with heap:=h' }):wpAny M A (do let a <- frameOf env;let pl <- entryPlaceOf L hadNext;let b <- EntryCells.newEntry head a .none (rawInt L) .none pl;setField (.ref e) 1 b) Q E s:=by
 let out:e∉(env::outer).filterMap (·.frame):=λz=>by let⟨_,u,hu,j⟩:=hl.mem z;rw[J]at hu;cases hu;show j vs hd
 calc ae (wpAny_frameOf_fun I hl hf λg G=>ae (wpAny_entryPlaceOf λpl D=>?_));unfold EntryCells.newEntry newFields;calc ae (gg ?_ (D.sizeOk5 _ _ _ _ _));generalize hO:({cls:=.type "traceback",dict:=none,data:=.fields ([head,.ref L,.none,rawInt L,.none]++(if pl.isEmpty then List.replicate 6 Value.none else pl)).toArray}:Obj)=O;let Y:∃ts,O.data=.fields ts/\ts[3]?=some (rawInt L):=⟨_,by rw[<-hO],by first|(simp;done)|(rcases D with rfl|⟨_,_,_,_,_,_,_,rfl⟩ <;> simp)⟩
 let ge:g.get? e=some oe:=(G.2.1 e out).trans J;let gB:B.StaysIn g:=λb o q=>(G.2.1 b λz=>by rw[(hl.mem z).1]at q;cases q).trans (kb b o q);let Te:g.objs.size≠e:=jp (aE ge);let Z:(g.push O).get? e=some oe:=af O ge;let⟨ts,F,h3⟩:=Y;let pT:(g.push O).get? g.objs.size=some O:=a_ g (jv F);let mv:∀b o,b≠e->g.get? b=some o->((g.push O).update e (Obj.mapFields (·.setIfInBounds 1 (Value.ref g.objs.size)))).get? b=some o:=λb o nb q=>(fi _ _ (gf nb)).trans (af O q)
 let nr:∀b o,s.heap.get? b=some o->(∀vs,o.data≠.fields vs)->b≠e:=λb o q j z=>by rw[z,J]at q;cases q;show j vs hd
 refine mS Z hd hz (h _ ⟨λb o q=>mv b o (λz=>by rw[z,en]at q;cases q) (gB b o q),en,hl.of_keeps λb o q j=>?_,?_⟩ λb o q j=>?_)
 .let⟨sl,z⟩:=G.2.2 b o q;show⟨_,mv b _ (nr b o q j) z,rL⟩
 .let dd:=ny hd (·.setIfInBounds 1 (Value.ref g.objs.size));refine JJ _ _ g.objs.size O ts ⟨gX _ Z (jv dd),Obj.cls_mapFields _ _,MF _ _,dd,by simp[hz],by rw[iA pj];show h2,gB.fresh,Te,(fi _ _ (gf Te)).trans pT,F,h3⟩
 .let⟨sl,z⟩:=G.2.2 b o q;show⟨sl,mv b _ (nr b o q j) z⟩
def uX (x:vR B l e cls dd fl s.heap)(h:∀h',vR B l e cls dd .none h'->s.heap.UpToSlots h'->Q () {s with heap:=h' }):wpAny M A (setFlight (.ref e) none) Q E s:=by
 let⟨st,en,fr,oe,vs,T,oT,ts,O,hc,G,hd,h1,h2,J,Z,F,j,h3⟩:=x;let I:3<ts.size:=(fE.mp h3).1;let mv:∀b,b≠T->(s.heap.update T (Obj.mapFields (·.setIfInBounds 3 ((none:Option Addr).elim Value.none λf=>rawInt f)))).get? b=s.heap.get? b:=λb nb=>fi _ _ (gf nb);let nr:∀b o,s.heap.get? b=some o->(∀vs,o.data≠.fields vs)->b≠T:=λb o q D z=>by rw[z,F]at q;cases q;show D ts j
 unfold setFlight;calc ae (e_ O hd h1 ?_);rw[if_pos (show (Value.ref T != Value.none)=true by simp)];calc mS F j I (h _ ⟨λb o q=>(mv b λz=>by rw[z,J]at q;cases q).trans (st b o q),en,fr.of_keeps λb o q D=>⟨o,(mv b (nr b o q D)).trans q,rL⟩,?_⟩ λb o q D=>⟨o.slots,(mv b (nr b o q D)).trans q⟩);let Y:=ny j (·.setIfInBounds 3 ((none:Option Addr).elim Value.none λf=>rawInt f));show JJ oe vs T _ _ ⟨(mv e (gf Z)).trans O,hc,G,hd,h1,h2,J,Z,gX _ F (jv Y),Y,by simp[I]⟩
def abK (j:A.frames=some (env::outer))(hl:s.heap.FunFrames B (env::outer))(F:env.frame=some L)(D:s.heap.get? e=some oe)(G:B.StaysIn s.heap)(I:B.get? e=none)(hd:oe.data=.fields vs)(h1:vs[1]?=some .none)(h2:vs[2]?=some .none)(h:∀h',vR B (env::outer) e oe.cls oe.dict (rawInt L) h'->s.heap.UpToSlots h'->Q () {s with heap:=h' }):wpAny M A (noteFrame (.ref e) env) Q E s:=by unfold noteFrame;simp only[F];calc ae (e_ D hd h1 ?_);rw[if_neg pj];show Iz j hl F D G I hd (fE.mp h1).1 h2 h
def U_ (F:A.frames=some (env::outer))(O:env.frame=some L)(x:vR B (env::outer) e cls dd .none s.heap)(h:∀h',vR B (env::outer) e cls dd (rawInt L) h'->s.heap.UpToSlots h'->Q () {s with heap:=h' }):wpAny M A (noteFrame (.ref e) env) Q E s:=by
 let⟨st,Y,fr,oe,vs,T,oT,ts,J,hc,I,hd,h1,h2,Z,Te,G,j,h3⟩:=x;subst hc I;let mv:∀b,b≠T->(s.heap.update T (Obj.mapFields (·.setIfInBounds 3 Value.none))).get? b=s.heap.get? b:=λb nb=>fi _ _ (gf nb);let nr:∀b o,s.heap.get? b=some o->(∀vs,o.data≠.fields vs)->b≠T:=λb o q D z=>by rw[z,G]at q;cases q;show D ts j
 unfold noteFrame;simp only[O];calc ae (e_ J hd h1 ?_);rw[if_pos (show (Value.ref T != Value.none)=true by simp)];calc ae (e_ G j h3 ?_);rw[if_neg (show ¬((Value.none==rawInt L)=true) by simp[rawInt])];calc ae (mS G j (fE.mp h3).1 ?_);refine Iz F (fr.of_keeps λb o q D=>⟨o,(mv b (nr b o q D)).trans q,rL⟩) O ((mv e (gf Te)).trans J) (λb o q=>(mv b λz=>by rw[z,Z]at q;cases q).trans (st b o q)) Y hd (fE.mp h1).1 h2
  λh' y k=>h h' y λb o q D=>k b o ((mv b (nr b o q D)).trans q) D
def leave_new (j:A.frames=some (env::outer))(hl:s.heap.FunFrames B (env::outer))(I:env.frame=some L)(G:s.heap.get? e=some oe)(D:B.StaysIn s.heap)(F:B.get? e=none)(hd:oe.data=.fields vs)(h1:vs[1]?=some .none)(h2:vs[2]?=some .none)(h:∀h',vR B outer e oe.cls oe.dict .none h'->s.heap.UpToSlots h'->Q () {s with heap:=h' }):wpAny M A (leaving env (.ref e)) Q E s:=by unfold leaving;show ae (abK j hl I G D F hd h1 h2 λh1 x k=>uX x λh2 y k2=>h h2 y.outer (k.trans k2))
def abL (j:A.frames=some (env::outer))(D:env.frame=some L)(x:vR B (env::outer) e cls dd .none s.heap)(h:∀h',vR B outer e cls dd .none h'->s.heap.UpToSlots h'->Q () {s with heap:=h' }):wpAny M A (leaving env (.ref e)) Q E s:=by unfold leaving;show ae (U_ j D x λh1 x k=>uX x λh2 y k2=>h h2 y.outer (k.trans k2))
end
def fP.there (x:fP P w H h a o):∃u,h.get? a=some u:=by
 cases o with
 | lst xs=>let⟨_,_,_,_,e⟩:=x;show⟨_,e⟩
 | tup xs=>let⟨_,_,_,_,e,_⟩:=x;show⟨_,e⟩
 | dK kvs=>let⟨_,_,_,_,o,_,_,e,_⟩:=x;show⟨_,e⟩
 | dT kvs=>let⟨_,_,_,_,o,_,_,e,_⟩:=x;show⟨_,e⟩
 | set S n=>let⟨o,_,_,_,e,_⟩:=x;show⟨_,e⟩
 | ins C dx fs=>let⟨_,_,_,e,_⟩:=x;show⟨_,e⟩
 | own y=>show x
 | xd fs=>obtain⟨_,⟨_,_,_,e,_⟩,_⟩:=x;show⟨_,e⟩
 | rng lo hi=>let⟨_,_,_,e⟩:=x;show⟨_,e⟩
 | pC ob u=>let⟨e,_⟩:=x;show⟨_,e⟩
 | Lr ps=>show⟨_,(show h.get? a=some _ from x)⟩
 | met f y=>show⟨_,(show h.get? a=some _ from x)⟩
 | ext φ=>let⟨_,e,_⟩:=x;show e
structure ZP (P:Program)(w:World)(outer:List Env)(H:Hp)(s:Shared)(a:Addr)(cls:Value)(dd:Option Addr)(H':Hp)(s':Shared)(B:Heap):Prop where
 os:s'.os=s.os
 bare:AllBare s'.gens
 un:Un (frs outer) [] H H' s.heap s'.heap
 hok:jW P w H' s'.heap
 fly:vR B outer a cls dd .none s'.heap
 na:H' a=none
 Lw:∀b u,H' b=some u->∃o,B.get? b=some o
 kp:∀b o,s.heap.get? b=some o->b∉frs outer->H b=none->B.get? b=some o
 th:∀b o,s.heap.get? b=some o->b∉frs outer->∃o',B.get? b=some o'
noncomputable def Cg (P:Program)(w:World):uh:=λouter H s E e s'=>∃(a:Addr) (cls:Value) (dd:Option Addr) (H':Hp) (B:Heap),e=.ref a/\ZP P w outer H s a cls dd H' s' B/\E cls dd H'
section
variable {X:Cx}{ak:AE}{σ:St}{H1 H':Hp}{s1 s2:Shared}{e:Addr}{oe:Obj}{vs:Array Value}{Q:Unit->Shared->Prop}{E:AD}{cls:Value}{dd:Option Addr}{B:Heap}
def aQ.IK (I:aQ X ak σ H1 s1)(q:X.s₀.heap.get? b=some o)(nb:b∉frs X.outer):b∉frs X.stack:=λz=>by
 rcases bX.mp (I.HY b z) with z|z;.show absurd (cS (aE q) I.ok.above) (by rw[z];show fg _)
 .show nb z
def aQ.abM (I:aQ X ak σ H1 s1)(z:b∈frs X.outer):b∈frs X.stack:=by
 rcases I.ok.stk with e|⟨e,j⟩;.rw[e];show z
 .rw[e];unfold frs;rw[ku,j];show bE _ z
def aQ.raised (I:aQ X ak σ H1 s1)(G:X.stack=X.env::X.outer)(hf:X.env.frame=some X.env.locals)(Z:X.ex=[])(he:s1.heap.get? e=some oe)(hd:oe.data=.fields vs)(h1:vs[1]?=some .none)(h2:vs[2]?=some .none)(ne:H1 e=none)(O:∀b o,X.s₀.heap.get? b=some o->b≠e)(q:∀s2 B,ZP X.prog X.w X.outer X.H₀ X.s₀ e oe.cls oe.dict H1 s2 B->Q () s2):wpAny (model X.prog X.w) X.A (leaving X.env (.ref e)) Q E s1:=by
 let Y:X.A.frames=some (X.env::X.outer):=by rw[<-G];show I.ok.frames
 let hl:s1.heap.FunFrames (hideAll s1.heap (e::frs X.stack)) (X.env::X.outer):=by rw[<-G];show funFrames_hide I.stack λenv he b hb=>bE _ (nv.mpr ⟨env,he,hb⟩)
 let D:∀b:Addr,b∉X.ex:=λb=>by rw[Z];simp
 calc leave_new Y hl hf he (λb o z=>of_hideAll _ z) (hideAll_none _ (.head _)) hd h1 h2 λh' x k=>q _ (hideAll s1.heap (e::frs X.stack)) ?_;let J:∀b o,s1.heap.get? b=some o->b≠e->b∉frs X.stack->(hideAll s1.heap (e::frs X.stack)).get? b=some o:=λb o z n1 n2=>hideAll_get _ z λm=>by
  rcases bX.mp m with m|m;.show n1 m
  .show n2 m
 let kF:∀b o,s1.heap.get? b=some o->b∈frs X.stack->∃sl,h'.get? b=some {o with slots:=sl}:=λb o z m=>by let⟨_,u,hu,nf⟩:=I.stack.mem m;rw[z]at hu;cases hu;show k b _ z nf
 let kT:∀b u,H1 b=some u->∀o,s1.heap.get? b=some o->(hideAll s1.heap (e::frs X.stack)).get? b=some o:=λb u t o z=>J b o z (λm=>by rw[m,ne]at t;cases t) λm=>by rw[I.yL b m]at t;cases t
 calc⟨I.os,I.bare,⟨λb o z n hb _=>?_,λb o z n hb _=>?_,λb o z n _=>I.base.free b o z n (D b),λb o z _=>?_,I.base.tups,I.base.qg,I.base.qF⟩,λb o t=>?_,x,ne,λb u t=>?_,λb o z hb n=>?_,λb o z hb=>?_⟩;.show x.stays b o (J b o (I.base.keep b o z n hb (D b)) (O b o z) (I.IK z hb))
 .let⟨sl,e1⟩:=I.base.slot b o z n hb (D b);let⟨F,e2⟩:=kF b _ e1 (I.abM hb);show⟨F,e2⟩
 .let⟨j,e1⟩:=I.base.there b o z (D b);by_cases m:b∈frs X.stack
  .let⟨F,e2⟩:=kF b _ e1 m;show⟨_,e2⟩
  .show⟨j,x.stays b j (J b j e1 (O b o z) m)⟩
 .refine(I.hok b o t).stay (λc u hc z=>x.stays c u ?_) (λ_ r=>r) λ_ _ r=>r
  rcases hc with rfl|hc;.show kT c _ t u z
  .show kT c _ hc u z
 .let⟨o,z⟩:=(I.hok b u t).there;show⟨o,kT b u t o z⟩
 .show J b o (I.base.keep b o z n hb (D b)) (O b o z) (I.IK z hb)
 .let⟨j,e1⟩:=I.base.there b o z (D b);show⟨j,J b j e1 (O b o z) (I.IK z hb)⟩
def aQ.passed (I:aQ X ak σ H1 s1)(D:X.stack=X.env::X.outer)(hf:X.env.frame=some X.env.locals)(J:X.ex=[])(x:ZP X.prog X.w X.stack H1 s1 e cls dd H' s2 B)(q:∀s3,ZP X.prog X.w X.outer X.H₀ X.s₀ e cls dd H' s3 B->Q () s3):wpAny (model X.prog X.w) X.A (leaving X.env (.ref e)) Q E s2:=by
 let G:X.A.frames=some (X.env::X.outer):=by rw[<-D];show I.ok.frames
 let j:∀b:Addr,b∉X.ex:=λb=>by rw[J];simp
 let n0:∀b:Addr,b∉([]:List Addr):=λb=>by simp
 calc abL G hf (by rw[<-D];show x.fly) λh' y k=>q _ ?_;let kp:∀b o,X.s₀.heap.get? b=some o->b∉frs X.outer->X.H₀ b=none->B.get? b=some o:=λb o z hb n=>x.kp b o (I.base.keep b o z n hb (j b)) (I.IK z hb) (I.base.free b o z n (j b));let th:∀b o,X.s₀.heap.get? b=some o->b∉frs X.outer->∃o',B.get? b=some o':=λb o z hb=>by let⟨F,e1⟩:=I.base.there b o z (j b);show x.th b F e1 (I.IK z hb)
 let Z:∀b o,X.s₀.heap.get? b=some o->b∈frs X.outer->∃sl,h'.get? b=some {o with slots:=sl}:=λb o z m=>by let⟨sl,e1⟩:=I.base.slot b o z (I.ok.BL b m) m (j b);let⟨sl2,e2⟩:=x.un.slot b _ e1 (I.yL b (I.abM m)) (I.abM m) (n0 b);let⟨_,u,hu,nf⟩:=I.ok.o_.mem m;rw[z]at hu;cases hu;let⟨IV,e3⟩:=k b _ e2 nf;show⟨IV,e3⟩
 refine⟨x.os.trans I.os,x.bare,⟨λb o z n hb _=>y.stays b o (kp b o z hb n),λb o z n hb _=>Z b o z hb,λb o z n _=>?_,λb o z _=>?_,λb xs t=>x.un.tups b xs (I.base.tups b xs t),λb o u t=>x.un.qg b o u (I.base.qg b o u t),λb ps t=>?_⟩,λb o t=>?_,y,x.na,x.Lw,kp,th⟩
 .let⟨F,e1⟩:=I.base.there b o z (j b);show x.un.free b F e1 (I.base.free b o z n (j b)) (n0 b)
 .by_cases m:b∈frs X.outer
  .let⟨sl,e3⟩:=Z b o z m;show⟨_,e3⟩
  .let⟨o',e1⟩:=th b o z m;show⟨o',y.stays b o' e1⟩
 .let⟨m1,e1⟩:=I.base.qF b ps t;let⟨m2,e2⟩:=x.un.qF b _ e1;show⟨m1++m2,by rw[e2,Array.append_assoc]⟩
 .refine(x.hok b o t).stay (λc u O z=>?_) (λ_ r=>r) λ_ _ r=>r
  have:∃v,H' c=some v:=by
   rcases O with rfl|O;.show⟨_,t⟩
   .show⟨_,O⟩
  let⟨v,hv⟩:=this;let⟨o',Y⟩:=x.Lw c v hv;have:=x.fly.stays c o' Y;rw[z]at this;cases this;show y.stays c u Y
end
def Lets (X:Cx)(E:XK):Prop:=∀(ak:AE) (σ:St) (H:Hp) (s:Shared) (e:Addr) (oe:Obj) (vs:Array Value),aQ X ak σ H s->s.heap.get? e=some oe->oe.data=.fields vs->vs[1]?=some .none->vs[2]?=some .none->H e=none->
 (∀b o,X.s₀.heap.get? b=some o->b≠e)->E oe.cls oe.dict H->X.xe (.ref e) s
section
variable {P:Program}{w:World}{K:W.Frag}{mg:Str->Option Value}{base:Heap}{N:List Str}{qual:Str}{scope:Scope}{f:Addr}{cd:Value}{A:Around}{outer:List Env}{s:Shared}{H:Hp}{E:XK}
def qx:Lets (rQ (Cg P w) P w K mg base N qual scope f cd A outer s H E) E:=λak σ H1 s1 e oe vs I j hd h1 h2 ne D q=>I.raised rL rL rL j hd h1 h2 ne D λs2 B x=>(JJ e _ _ _ B ⟨rL,x,q⟩)
def vH:Passes (Cg P w) (rQ (Cg P w) P w K mg base N qual scope f cd A outer s H E) E:=λak σ H1 s1 e s2 I ⟨a,cls,dd,H',B,z,x,q⟩=>by subst z;show I.passed rL rL rL x λj y=>(JJ a cls dd H' B ⟨rL,y,q⟩)
end
structure DefX (P:Program)(w:World)(K:W.Frag)(mg:Str->Option Value)(base:Heap)(name:Str)(k:Nat)(ps:List Str)(sp:Sp):Prop where
 ex:∃f fd,bZ P w K mg base (Cg P w) k f fd ps sp/\bN K fd ps []/\mg name=some (.ref f)/\W.keepIn K (.ref f)=true
def dX.zP {K:W.Frag}{mg:Str->Option Value}{x qual:Str}{st:Stmt}{N ps:List Str}{k:Nat}{sp:Sp}(F:dX K x qual st f fd)(S:aZ N ps (aH st))(len:∀vs H Q E,sp vs H Q E->vs.length=ps.length)(j:∀(bG:Value) (A:Around) (outer:List Env) (s:Shared) (H:Hp) (vs:List V) (Q:VK) (E:XK),fu k (A.deeper (envOfC qual (aH st) s.heap.objs.size f bG))->sp vs H Q E->
   ∃t,wR (rQ (Cg P w) P w K mg base N qual (aH st) f bG A outer s H E) (cH st) t/\t {nx:=λ_ H'=>Q .non H',rt:=Q} (start N vs) H):bZ P w K mg base (Cg P w) (k+1) f fd ps sp:=by
 let⟨oc,od,kV,doc,pm,an,bG,ct,osl,rfl,J,G⟩:=F.ex;calc ac8 J G S len λA outer s H vs Q E I D=>?_;let⟨t,h,q⟩:=j bG A outer s H vs Q E I D;show⟨t,h.out,q⟩
def aM.zP {K:W.Frag}{mg:Str->Option Value}{name:Str}{st:Stmt}{N ps:List Str}{k:Nat}{sp:Sp}(D:aM K mg name st ps)(S:aZ N ps (aH st))(len:∀vs H Q E,sp vs H Q E->vs.length=ps.length)(j:∀(f:Addr) (bG:Value) (A:Around) (outer:List Env) (s:Shared) (H:Hp) (vs:List V) (Q:VK) (E:XK),fu k (A.deeper (envOfC name (aH st) s.heap.objs.size f bG))->sp vs H Q E->
   ∃t,wR (rQ (Cg P w) P w K mg base N name (aH st) f bG A outer s H E) (cH st) t/\t {nx:=λ_ H'=>Q .non H',rt:=Q} (start N vs) H):DefX P w K mg base name (k+1) ps sp:=by
 let⟨f,fd,F,b,g⟩:=D.ex;show⟨f,fd,F.zP S len (j f),b,g,F.kp⟩
def yS (CX:uh)(X:Cx)(E:XK)(S:St->Prop):Prop:=∀(ak:AE) (σ:St) (H:Hp) (s:Shared) (e:Value) (s':Shared),aQ X ak σ H s->S σ->CX X.stack H s E e s'->X.xe e s'
def Passes.all (h:Passes CX X E):yS CX X E λ_=>True:=λak σ H s e s' I _ q=>h ak σ H s e s' I q
def agu (sp:Sp)(E:XK)(S:St->Prop)(t:TA):TE:=λσ H Q=>S σ/\t σ H λvs H1=>sp vs H1 Q E
section
variable {X:Cx}{k:Nat}{f:Addr}{fd:FuncData}{ps:List Str}{sp:Sp}{E:XK}{S:St->Prop}{x:Str}{p pos:Pos}{e:Expr}{es:List Expr}{t:TA}
def nW (D:DefX X.prog X.w X.K X.mg X.base x k ps sp)(Z:fu k X.A)(hg:Gl X x)(hx:yS (Cg X.prog X.w) X E S)(ha:QA X (e::es) t)(O:(x==("__debug__":Str))=false:=by decide)(hs:starEach (e::es) X.env=(false,eval e X.env)::starEach es X.env:=by rfl)(J:(backTo pos (starEach es X.env)).any (·.1)=false:=by rfl):QE X (.Call (.Name x p) (e::es) [] pos) (agu sp E S t):=⟨by
 let⟨f,fd,F,hb,hm,hk⟩:=D.ex;intro ak s σ H Q I h;let⟨hS,h⟩:=h;calc gN (oN I hg hm ?_ O);calc iN (h₀:=X.base) I.ok.mod.HX hk (cg (ha.out pos ak s σ H _ I h) λus s1 ⟨vs,H1,j,r,q⟩=>⟨j.iY,?_⟩) hs J;let hl:us.length=ps.length:=by rw[<-r.length];show F.len _ _ _ _ q
 let Y:=hb s1 us j.iY (by rw[gT];show hl);rw[gT]at Y;calc kQ (kK (F.run X.A X.stack s1 H1 ⟨us,[]⟩ us vs Q E Z j.env0 Y r q) λr s' G=>?_);cases r with
 | error e=>show hx ak σ H1 s1 e s' j hS G
 | ok fl=>
  cases fl with
  | ret u=>show j.after G
  | next=>show False.elim G
  | brk=>show False.elim G
  | cont=>show False.elim G⟩
end
def ad8 {K:W.Frag}(X:K.In h)(q:excIn K C bmB newId=true):∃bm N nm q bs hdct sn sub ab col dd k0 k1 k2 k3 k5 mN,h.get? C=some (excClassObj nm q C N bs bm hdct sn sub ab col dd k0 k1 k2 k3 k5 newId)/\h.Ns N mN/\mN "__init__"=none/\OwnTail h bmB bm:=by
 unfold excIn at q;split at q
 .next dd cd sl ho=>
  split at q
  .next C' bm k0 k1 k2 k3 n k5 hm hs=>
   simp only[cn,beq_iff_eq,Bool.not_eq_true']at q;obtain⟨⟨⟨⟨⟨e1,e2⟩,j⟩,ht⟩,hok⟩,D⟩:=q;subst e1 e2;let⟨nm,bs,mro,ns,I,hd,sn,sub,ab,col,G⟩:=cd;dsimp only at hm j hok D;subst hm j;let F:sl=#[k0,k1,k2,k3,some (.builtin n),k5]:=by cases sl;simp only at hs;rw[hs]
   subst F;show JS bm ns nm I bs hd sn sub ⟨ab,col,dd,k0,k1,k2,k3,k5,_,X _ _ ho,.of_isNs (isNs_of_in X hok),nsMap_none_of_in X hok D,tail_of_in X ht⟩
  .cases q
 .cases q
abbrev jR:List Value:=[.type "ValueError",.type "Exception",.type "BaseException",.type "object"]
def agv (C:Addr)(E:XK)(t:TA):TS:=λ_ σ H=>t σ H λvs H1=>vs.length<=sizeLine/\E (.ref C) none H1
section
variable {X:Cx}{C:Addr}{E:XK}{x:Str}{np cpos pos:Pos}{e:Expr}{es:List Expr}{t:TA}
def Gy (hl:Lets X E)(hc:X.calm=true)(J:X.ex=[])(hg:Gl X x)(hm:X.mg x=some (.ref C))(hC:excIn X.K C jR "ValueError.__new__"=true)(ha:QA X (e::es) t)(Y:(x==("__debug__":Str))=false:=by decide)(hs:starEach (e::es) X.env=(false,eval e X.env)::starEach es X.env:=by rfl)(G:(backTo cpos (starEach es X.env)).any (·.1)=false:=by rfl):QS X (.Raise (some (.Call (.Name x np) (e::es) [] cpos)) none pos) (agv C E t):=⟨by
 intro ak s σ H D I h;let⟨tl,N,nm,q,bs,hdct,sn,sub,ab,col,dd,k0,k1,k2,k3,k5,mN,cC,cN,O,T⟩:=ad8 I.ok.mod.HX hC;let ar:=ha.out cpos ak s σ H _ I h;rw[hs]at ar;refine wpAny_Raise_call_subT (C:=C) (nm:=nm) (q:=q) (N:=N) (bs:=bs) (bm:=tl) (hdct:=hdct) (sn:=sn) (sub:=sub) (ab:=ab) (col:=col) (dd:=dd) (k0:=k0) (k1:=k1) (k2:=k2) (k3:=k3) (k5:=k5) fF (mN:=mN)
  (T.hasType fF.hasBase) (I.ok.hd hc) (by rw[hs];show (false||(backTo cpos (starEach es X.env)).any (·.1))=false;rw[G];rfl) O (oN I hg hm ⟨rL,?_⟩ Y)
 rw[hs];calc ii (eh ar (λus s2 z=>?_) λ_ _ y=>y);let⟨vs,H1,j,r,hv,hE⟩:=z;calc⟨rL,by rw[<-r.length];show hv,j.bk _ _ cC,cN.keeps j.bk,T.keeps j.bk,λh' a hx=>?_⟩;let⟨tt,Z,_,_⟩:=hx.there;refine hl ak σ H1 _ a _ _ (j.kept (t':=s2.toks) hx.keeps) Z rL rL rL ?_ (λb o z y=>?_) hE
 .cases z:H1 a with| none=>rfl| some u=>let⟨o,F⟩:=(j.hok a u z).there;rw[hx.new]at F;cases F
 .let⟨o',F⟩:=j.base.there b o z (by rw[J];simp);rw[y,hx.new]at F;cases F⟩
end
def agw (a:Addr)(cls:Value)(dd:Option Addr):Heap->Prop:=λh=>∃oe vs,h.get? a=some oe/\oe.cls=cls/\oe.dict=dd/\oe.data=.fields vs/\vs[2]?=some .none
section
variable {X:Cx}{ak:AE}{σ:St}{H H':Hp}{s s':Shared}{a:Addr}{cls fl:Value}{dd:Option Addr}{B h3:Heap}
def aQ.caught (I:aQ X ak σ H s)(x:ZP X.prog X.w X.stack H s a cls dd H' s' B)(y:vR B X.stack a cls dd fl h3)(k:s'.heap.UpToSlots h3):aQ X ak σ (upd H' a (.ext (agw a cls dd))) {s' with heap:=h3}:=by
 let n0:∀b:Addr,b∉([]:List Addr):=λb=>by simp
 let⟨oe,vs,T,oT,ts,J,D,O,hd,_,h2,_⟩:=y.tr;let G:∀b o,s.heap.get? b=some o->b∈frs X.stack->(∃sl,h3.get? b=some {o with slots:=sl})/\∀vs,o.data≠.fields vs:=λb o z m=>by let⟨_,u,hu,F⟩:=I.stack.mem m;rw[z]at hu;cases hu;let⟨sl2,e2⟩:=x.un.slot b _ z (I.yL b m) m (n0 b);let⟨IV,e3⟩:=k b _ e2 F;show⟨⟨IV,e3⟩,F⟩
 let na:∀b o,s.heap.get? b=some o->b≠a:=λb o z m=>by
  by_cases hb:b∈frs X.stack
  .obtain⟨⟨sl,e3⟩,F⟩:=G b o z hb;rw[m,J]at e3;cases e3;show F vs hd
  .let⟨o',e'⟩:=x.th b o z hb;rw[m,y.new]at e';cases e'
 let j:∀b u,H' b=some u->b≠a:=λb u z m=>by rw[m,x.na]at z;cases z
 let Z:∀c u v,H' c=some v->s'.heap.get? c=some u->h3.get? c=some u:=λc u v t z=>by let⟨o',Y⟩:=x.Lw c v t;have:=x.fly.stays c o' Y;rw[z]at this;cases this;show y.stays c u Y
 refine I.call' (s':={s' with heap:=h3}) (ch:=[]) x.os ⟨λb o z n hb _=>y.stays b o (x.kp b o z hb n),λb o z n hb _=>(G b o z hb).1,λb o z n _=>?_,λb o z _=>?_,λb xs t=>?_,λb o u t=>?_,λb ps t=>?_⟩ (λb o t=>?_) x.bare λb z=>absurd z pi
 .rw[aP (na b o z)];show x.un.free b o z n (n0 b)
 .by_cases m:b∈frs X.stack
  .obtain⟨⟨sl,e3⟩,_⟩:=G b o z m;show⟨_,e3⟩
  .let⟨o',e1⟩:=x.th b o z m;show⟨o',y.stays b o' e1⟩
 .let t':=x.un.tups b xs t;rw[aP (j b _ t')];show t'
 .let t':=x.un.qg b o u t;rw[aP (j b _ t')];show t'
 .let⟨more,t'⟩:=x.un.qF b ps t;show⟨more,by rw[aP (j b _ t')];show t'⟩
 .by_cases hb:b=a
  .subst hb;rw[aq]at t;cases t;show⟨(JA oe vs ⟨J,D,O,hd,h2⟩),⟨oe,J⟩,λh h' ⟨oe,vs,e1,e2,e3,e4⟩ q=>(JA oe vs ⟨q oe e1,e2,e3,e4⟩)⟩
  .rw[aP hb]at t;refine(x.hok b o t).stay (λc u D z=>?_) (λc r=>by rw[aP (j c _ r)];show r) λc xs r=>by rw[aP (j c _ r)];show r
   rcases D with rfl|D;.show Z c u _ t z
   .show Z c u _ D z
end
abbrev Cx.tried (X:Cx)(pn:AE)(xe:AD):Cx:={X with pn:=pn,xe:=xe}
abbrev Cx.held (X:Cx)(a:Addr):Cx:={X with A:=X.A.mark (some (.ref a)),calm:=false,xe:=λ_ _=>False}
section
variable {X:Cx}{ak H_ pn:AE}{σ:St}{H:Hp}{s:Shared}{xe:AD}{a:Addr}
def aQ.tried (I:aQ X ak σ H s)(xe:AD):aQ (X.tried (X.pn++ak) xe) [] σ H s:=⟨⟨I.ok.mod,I.ok.kind,I.ok.glob,I.ok.blt,I.ok.above,I.ok.inj,I.ok.has,I.ok.cab,I.ok.hd,I.ok.frames,I.ok.stk,I.ok.YG,I.ok.bs,I.ok.Bl,I.ok.BJ,I.ok.Gj,I.ok.o_,I.ok.BL⟩,I.os,I.bare,I.base,I.loc,I.cell,I.free,I.mX,λp hp=>I.pin p (by simpa using hp),I.hok,I.len⟩
def aQ.rW (I:aQ (X.tried (X.pn++ak) xe) H_ σ H s):aQ X ak σ H s:=⟨⟨I.ok.mod,I.ok.kind,I.ok.glob,I.ok.blt,I.ok.above,I.ok.inj,I.ok.has,I.ok.cab,I.ok.hd,I.ok.frames,I.ok.stk,I.ok.YG,I.ok.bs,I.ok.Bl,I.ok.BJ,I.ok.Gj,I.ok.o_,I.ok.BL⟩,I.os,I.bare,I.base,I.loc,I.cell,I.free,I.mX,λp hp=>I.pin p (mf _ hp),I.hok,I.len⟩
def SP.rW (h:SP (X.tried (X.pn++ak) xe) H_ D f s):SP X ak D f s:=by
 cases f with
 | next=>let⟨σ',H',I,q⟩:=h;show JA σ' H' ⟨I.rW,q⟩
 | brk=>let⟨σ',H',I,q⟩:=h;show JA σ' H' ⟨I.rW,q⟩
 | cont=>let⟨σ',H',I,q⟩:=h;show JA σ' H' ⟨I.rW,q⟩
 | ret u=>let⟨v,σ',H',I,r,q⟩:=h;show JE v σ' H' ⟨I.rW,r,q⟩
def aQ.held (I:aQ X ak σ H s)(a):aQ (X.held a) ak σ H s:=⟨⟨I.ok.mod,I.ok.kind,I.ok.glob,I.ok.blt,I.ok.above,I.ok.inj,I.ok.has,I.ok.cab,(λz=>nomatch z),I.ok.frames,I.ok.stk,I.ok.YG,I.ok.bs,I.ok.Bl,I.ok.BJ,I.ok.Gj,I.ok.o_,I.ok.BL⟩,I.os,I.bare,I.base,I.loc,I.cell,I.free,I.mX,I.pin,I.hok,I.len⟩
def aQ.IW (I:aQ (X.held a) ak σ H s)(ok:X.Ok):aQ X ak σ H s:=⟨ok,I.os,I.bare,I.base,I.loc,I.cell,I.free,I.mX,I.pin,I.hok,I.len⟩
end
structure ah4 (K:W.Frag)(C:Addr):Prop where
 cl:(clsIn K C).isSome=true
 ga:findIn K (.ref C) "__getattribute__"=some (some (.builtin "BaseException.__getattribute__"))
 gx:findIn K (.ref C) "__getattr__"=some none
 ha:findIn K (.ref C) "__class__"=some (some (.builtin "object.__class__"))
 hn:specialIn K (.builtin "object.__class__") "__get__"=some (some (.builtin "getset_descriptor.__get__"))
 ht:takesIn K (.builtin "object.__class__")=some true
 hm:mroIn K C (.type "object")=some true
 hb:mroIn K C (.type "BaseException")=some true
end L2
namespace HT
open PySem PySem.Spec PyProof.Rows
section
variable {prog:Program}{w:World}{A:Around}{E:AD}{s:Shared}
def Fl {lo hi:Option Int}(ht:IsTup s.heap t items)(hs:s.heap.IsSliceOf sl vl vu .none)(pl:IsPart vl lo)(F:IsPart vu hi)(hw:cV items.size 0 lo=0/\cV items.size items.size hi=items.size)(h:Q (.ref t) s):wpAny (model prog w) A (getItem (.ref t) (.ref sl)) Q E s:=by
 let⟨D,h1,h2,h3⟩:=id hs;let ty:s.TypeIs (.ref sl) "slice":=⟨D,h1,h2⟩
 unfold getItem
 try with_reducible refine hV ?_
 first|refine ae (aw ?_)|skip
 calc ae (wpAny_sequenceKey ht.typeIs pj (ae (iE (name:=Str.ofString "__getitem__") ht.typeIs fh (gu fh ht.typeIs entry_tuple_getitem ?_ (args_tuple_getitem _ _)))));show wpAny _ _ (Builtin.Tuple.tupleItemsOf (.ref t) >>= _) _ _ s;calc ae (tupleItemsOf_ ht (ae (wpAny_typeOf ty ?_)));rw[if_pos pj];calc ae (vN hs pl F ?_);let j:((((cV items.size 0 lo:Nat):Int)==0&&(1:Int)==1&&(cV items.size items.size hi-cV items.size 0 lo)==items.size)=true):=by rw[hw.1,hw.2];simp
 show wpAny _ _ (if (((cV items.size 0 lo:Nat):Int)==0&&(1:Int)==1&&(cV items.size items.size hi-cV items.size 0 lo)==items.size)=true then _ else _) _ _ s;rw[if_pos j];calc ae ?_;unfold Builtin.Tuple.tupleIsExact;calc ae (wpAny_typeOf ht.typeIs (aw ?_));rw[if_pos pj];show ae (og (aw ⟨_,rL,aw h⟩))
end
end HT
namespace L2
open PySem PySem.Spec PyProof.Rows PySem.W
section
variable {X:Cx}
def ah5 (K:W.Frag):R2:=λx y H Q=>∃a b xs ys,x=.ref a/\y=.ref b/\aO K H a xs/\aO K H b ys/\xs.length+ys.length<=sizeLine/\(xs=[]->H b=some (.tup ys))/\(ys=[]->xs≠[]->H a=some (.tup xs))/\
 ∀p H',aB H H'->H' p=some (.tup (xs++ys))->Q (.ref p) H'
def vI:fW X (binaryOp .Add) (ah5 X.K):=by
 intro ak s σ H x y v u Q I rx ry h;let⟨a,b,xs,ys,rfl,rfl,ha,hb,hz,e1,e2,q⟩:=h;cases rx;cases ry;let⟨its,r1,p1,_⟩:=I.tuple ha;let⟨j,Z,p2,_⟩:=I.tuple hb;by_cases hx:xs=[]
 .let hi:its=[]:=r1.yO.mpr hx;obtain⟨⟨cls,dd,data,sl⟩,ho,hc,n,hd⟩:=id p1;obtain⟨⟨cls2,J,O,Y⟩,D,F,n2,G⟩:=id p2;simp only at hc hd F G;subst hc hd F G;show concat_meets ⟨_,ho,rL⟩ ⟨_,D,rL⟩ noFill_tuple_add seq_tuple_add lp kU (kL _ _)
   (tuple_addW0 a b its.toArray j.toArray n n2 dd J sl Y (by simp[hi])) ⟨ho,D,(JA (.ref b) H ⟨I,rL,q b H (aB.refl _) (by rw[hx];show e1 hx)⟩)⟩
 .refine HT.adP p1 p2 (λz=>hx (r1.yO.mp z)) (λz=>(JA (.ref a) H ⟨I,rL,?_⟩)) (λz=>?_) (by rw[<-r1.length,<-Z.length];show hz)
  .let hy:=Z.yO.mp z;show q a H (aB.refl _) (by rw[hy,gT];show e2 hy hx)
  .calc JA (.ref s.heap.objs.size) _ ⟨I.laid (t':=s.toks) (o:=.tup (xs++ys)) (λb ob q=>af _ q) (ai _) ?_,rL,q _ _ (aB.upd (I.hok.fresh (ai _))) aq⟩;show⟨by rw[av];show hz,_,r1.append Z,IsTup.new _ _⟩
def aiX (K:W.Frag):V->Option Int->Option Int->Hp->VK->Prop:=λx lo hi H Q=>∃a xs,x=.ref a/\H a=some (.tup xs)/\∀p H',aB H H'->H' p=some (.tup (gH xs lo hi))->Q (.ref p) H'
def vJ:Uz X (aiX X.K):=by
 intro ak s σ H x v G J lo hi sl Q I F hs pl D h;let⟨a,xs,rfl,hx,q⟩:=h;cases F;let⟨its,r,ht,hz⟩:=I.tuple (aO.of hx);let j:its.toArray.size=xs.length:=by rw[ba];show r.length.symm
 calc JA ("tuple") _ ⟨fh.lookup,ht.typeIs,?_⟩;by_cases hw:HT.cV xs.length 0 lo=0/\HT.cV xs.length xs.length hi=xs.length
 .calc HT.Fl ht hs pl D (by rw[j];show hw) (JA (.ref a) H ⟨I,rL,q a H (aB.refl _) ?_⟩);unfold gH;rw[hw.1,hw.2];simpa using hx
 .calc HT.Fj ht hs pl D (by rw[j];show hw) ?_ (by rw[j];show hz);rw[j];calc JA (.ref s.heap.objs.size) _ ⟨I.laid (t':=s.toks) (o:=.tup (gH xs lo hi)) (λb ob q=>af _ q) (ai _) ?_,rL,q _ _ (aB.upd (I.hok.fresh (ai _))) aq⟩;show⟨bP (Fz xs lo hi) hz,_,(r.drop (HT.cV xs.length 0 lo)).take (HT.cV xs.length xs.length hi-HT.cV xs.length 0 lo),IsTup.new _ _⟩
def vV:fillsNumberSlot (.type "tuple") "mul"=pure false:=PySem.fillsNumberSlot_seq (id:="tuple.__mul__") (r:=some (.builtin "tuple.__rmul__")) jb.lookup pS (by rw[typeLookup_type,builtinLookup_eq_fast];kernel_rfl) pS
def Ci:seqRepeat? (.type "tuple")=pure (some (.builtin "tuple.__mul__")):=by unfold seqRepeat?;rw[PySem.seqSlot_of (T:="tuple") (name:="__mul__") (id:="tuple.__mul__") jb.lookup pS,PySem.seqSlot_of (T:="tuple") (name:="__rmul__") (id:="tuple.__rmul__") (by rw[typeLookup_type,builtinLookup_eq_fast];kernel_rfl) pS];rfl
def I_ (a)(t:Tok)(l)(items)(n)(dd)(sl):Meets (Builtin.«int.__rmul__» ⟨[.int a t,.ref l],[]⟩) (λ_ R s=>s.heap.get? l=some {cls:=.type "tuple",dict:=dd,data:=.seq items n,slots:=sl}/\R (.ok (.ret Value.notImplemented)) s):=
 .of_wp λprog w A R s h=>by
  let⟨hp,g,d,tk,os⟩:=s;let⟨hl,h⟩:=h
  wp_walk
  show⟨_,rL,h⟩
def Va {α:Type}(n)(l:List α):(List.replicate n l).flatten.length=n*l.length:=by
 induction n with| zero=>simp| succ n ih=>rw[dE,eK,av,ih,ot];lia
theorem Vb:∀(n:Nat) (a j:Array Value),List.foldl (λx1 D=>x1++D) j (List.replicate n a)=(j.toList++(List.replicate n a.toList).flatten).toArray
 | 0,a,j=>by simp
 | n+1,a,j=>by rw[dE,mn,Vb n a (j++a)];simp[dE]
def MJ (n:Nat)(a:Array Value):List.foldl (λx1 j=>x1++j) #[] (List.replicate n a)=((List.replicate n a.toList).flatten).toArray:=by rw[Vb];simp
def Xh (l)(j:Array Value)(n)(dd)(sl)(x)(u:Tok)(h0:¬j.isEmpty=true)(h1:2<=x)(h2:x<=100)(h3:j.size<=100):Meets (Builtin.«tuple.__mul__» ⟨[.ref l,.int x u],[]⟩) (λ_ R s=>s.heap.get? l=some {cls:=.type "tuple",dict:=dd,data:=.seq j n,slots:=sl}/\R (.ok (.ret (.ref s.heap.objs.size))) {s with heap:=s.heap.push {cls:=.type "tuple",data:=.seq (List.foldl (λx1 D=>x1++D) #[] (List.replicate x.toNat j))} }):=
 .of_wp λprog w A R s h=>by
  let⟨hp,g,d,tk,os⟩:=s;let⟨hl,h⟩:=h;let f1:=AutoSeq1.idx_int;let f2:=AutoSeq1.sub_tuple_tuple;let c1:(decide (x < -(2^63))||decide (x>=2^63))=false:=by simp;lia
  let c2:(j.isEmpty||x==1)=false:=by simp at h0;simp[h0];lia
  let c3:(decide (x<=0)||j.isEmpty)=false:=by simp at h0;simp[h0];show Int.le_of_lt h1
  wp_walk using iS hl
  rw[if_neg (by rw[c1];decide)]
  wp_walk using iS hl
  rw[if_neg (by rw[c2];decide)]
  try wp_walk using iS hl
  rw[if_neg (by rw[c3];decide)];let c4:(j.size:Int)*x<=10000:=kR (show (j.size:Int)<=100 by lia) h2 o6 o6
  try wp_walk using iS hl
  rw[if_neg o6]
  try wp_walk using iS hl
  rw[if_neg (by unfold Builtin.Tuple.tupleTooMany;simp[sizeLine];lia)];let hz:(List.foldl (λx1 D=>x1++D) #[] (List.replicate x.toNat j)).size<=sizeLine:=by rw[MJ,ba,Va,fm];have:x.toNat*j.size<=100*100:=fR (by simp_all) h3;show bP this pj
  calc ae ?_;unfold Builtin.Tuple.tupleExact;calc gg ?_ hz;show aw ⟨_,rL,h⟩
def ah6 (K:W.Frag):R2:=λx y H Q=>∃a xs,∃n:Nat,x=.ref a/\y=.int n/\aO K H a xs/\xs≠[]/\2<=n/\n<=100/\xs.length<=100/\∀p,H p=none->Q (.ref p) (upd H p (.tup (List.replicate n xs).flatten))
theorem Qg (r:Vals xs us):∀n,Vals (List.replicate n xs).flatten (List.replicate n us).flatten
 | 0=>.nil
 | n+1=>by rw[dE,dE,eK,eK];show r.append (Qg r n)
def ad9:fW X (binaryOp .Mult) (ah6 X.K):=by
 intro ak s σ H x y v u Q I O J h;let⟨a,xs,n,rfl,rfl,ha,hx,Y,D,F,q⟩:=h;cases O;let⟨tk,rfl⟩:=J;let⟨its,r1,p1,_⟩:=I.tuple ha;let hl:=r1.length;obtain⟨⟨cls,dd,data,sl⟩,j,G,m,hd⟩:=id p1;simp only at G hd;subst G hd;let h0:¬its.toArray.isEmpty=true:=λz=>hx (r1.yO.mp (by simpa using z));refine kG (T:="tuple") (U:="int") pj ⟨_,j,rL⟩ (λs'=>typeIs_int s' _ _) vV PySem.F.fills_int_mul jI Ci PySem.F.slot_int_index.lookup
  (call_meets jI (typeIs_int s _ _) PySem.F.entry_int_rmul (PySem.F.args_int_rmul_2 _ _) (I_ _ _ a its.toArray m dd sl) ⟨j,rL,⟨_,j,rL⟩,?_⟩)
 calc call_meets jb ⟨_,j,rL⟩ PySem.F.entry_tuple_mul (PySem.F.args_tuple_mul_2 _ _) (Xh a its.toArray m dd sl (n:Int) _ h0 o6 o6 (by rw[ba,<-hl];show F)) ⟨j,?_⟩;calc JA (.ref s.heap.objs.size) _ ⟨I.laid (t':=s.toks) (o:=.tup (List.replicate n xs).flatten) (λb ob q=>af _ q) (ai _) ?_,rL,q _ (I.hok.fresh (ai _))⟩;refine⟨?_,(List.replicate n its).flatten,Qg r1 n,?_⟩
 .rw[Va];have:n*xs.length<=100*100:=fR D F;show bP this pj
 .rw[MJ,show ((n:Int)).toNat=n from rL,show its.toArray.toList=its by simp];show IsTup.new _ _
end
def wV (K:Frag)(C fI:Addr):Bool:=match K.lookup C with
 | some ⟨.type "type",_,.cls cd,sl⟩=>(match cd.mro,sl.toList with
  | .ref D::tl,[_,_,_,_,some (.builtin n),_]=>(D==C)&&(n=="ValueError.__new__")&&(!cd.hasDel)&&(cd.hasDict&&(tailIn K jR tl&&(nsOkIn K cd.ns&&(nsIn K cd.ns "__init__" == some (some (.ref fI))))))
  | _,_=>false)
 | _=>false
def aiY {K:Frag}(X:K.In h)(G:h.Ns N m)(e:nsIn K N n=some (some v)):m n=some v:=by
 let⟨o,es,ep,j,hd,_,D⟩:=G;unfold nsIn at e;split at e
 .next c0 d0 es0 n0 MN q=>
  let z:=X _ _ q;rw[j]at z;cases z;cases hd;split at e
  .next en he=>cases e;rw[<-D];unfold nsFind findBy;rw[<-Array.find?_toList,he];rfl
  .split at e <;> cases e
 .cases e
def Kc {K:Frag}(X:K.In h)(q:wV K C fI=true):∃bm N nm q bs sn sub ab col dd k0 k1 k2 k3 k5 mN,h.get? C=some (excClassObj nm q C N bs bm true sn sub ab col dd k0 k1 k2 k3 k5 "ValueError.__new__")/\h.Ns N mN/\mN "__init__"=some (.ref fI)/\OwnTail h jR bm:=by
 unfold wV at q;split at q
 .next dd cd sl ho=>
  split at q
  .next D tl k0 k1 k2 k3 n k5 hm hs=>rw[cn,cn,cn,cn,cn,cn,beq_iff_eq,beq_iff_eq,beq_iff_eq,Bool.not_eq_true']at q;obtain⟨⟨⟨e1,e2⟩,e3⟩,e4,ht,hok,hi⟩:=q;subst e1 e2;let⟨nm,bs,mro,ns,F,hd,sn,sub,ab,col,j⟩:=cd;dsimp only at hm e3 e4 hok hi;subst hm e3 e4;let⟨G⟩:=sl;dsimp only at hs;subst hs;show JS tl ns nm F bs sn sub ab ⟨col,dd,k0,k1,k2,k3,k5,_,X _ _ ho,.of_isNs (isNs_of_in X hok),aiY X (.of_isNs (isNs_of_in X hok)) hi,tail_of_in X ht⟩
  .cases q
 .cases q
section
variable {prog:Program}{w:World}{A:Around}{E:AD}{h:Heap}{g:Array GenState}{d:Drawn}{t:Nat}{os:OsState}
variable {nm q:Str}{C N fI:Addr}{bs bm:List Value}{sn:List Str}{sub:List Value}{ab:Bool}{col:Option Bool}{dd:Option Addr}{k0 k1 k2 k3 k5:Option Value}{oI:Obj}{mN:Str->Option Value}{rest:List Value}
abbrev newArgs (rest:List Value):Obj:={cls:=.type "tuple",data:=.seq rest.toArray}
abbrev newExc (C a:Addr):Obj:={cls:=.ref C,data:=.fields #[.ref a,.none,.none,.none,.bool false,.none]}
def Qh (T:OwnTail h jR bm)(j:h.get? C=some (excClassObj nm q C N bs bm true sn sub ab col dd k0 k1 k2 k3 k5 "ValueError.__new__"))(hn:h.Ns N mN)(hi:mN "__init__"=some (.ref fI))(hf:h.get? fI=some oI)(G:oI.cls=.type "function")(hz:rest.length<=sizeLine)(hq:wpAny (model prog w) A (call (.ref fI) (.ref (h.objs.size+1)::rest)) (λr s'=>r=.none/\Q (.done (.ret (.ref (h.objs.size+1)))) s') E ⟨(h.push (newArgs rest)).push (newExc C h.objs.size),g,d,t,os⟩):wpAny (model prog w) A (Builtin.«type.__call__» ⟨.ref C::rest,[]⟩) Q E ⟨h,g,d,t,os⟩:=by
 let F:=fF
 repeat (first|with_reducible refine ie j ?_|with_reducible refine wpAny_madeBy_exc j ?_|wp_step)
 calc codeAny_call_builtin_code (Code.quiet_builtin _ F.quiet) (wpAny_check_new_subT F T j (codeAny_exc_new_subT F T j ?_ hz));show wpAny _ _ _ _ _ _;let up:∀b o,h.get? b=some o->((h.push (newArgs rest)).push (newExc C h.objs.size)).get? b=some o:=λb o z=>af _ (af _ z);let I:=up _ _ j;let Y:=up _ _ hf;let Z:=hn.keeps up;let O:=T.keeps up;let J:((h.push (newArgs rest)).push (newExc C h.objs.size)).get? (h.objs.size+1)=some (newExc C h.objs.size):=by heap_get
 let D:(Value.ref C::bm).contains (.ref C)=true:=pi;unfold isInstance
 repeat (first|with_reducible refine ie J ?_|(with_reducible calc wpAny_isSubtype_exc I ?_;rw[D])|wp_step)
 show wpAny _ _ (typeLookup (.ref C) "__init__") _ _ _;calc wpAny_typeLookup_tail I Z O F.mroIs F.init.lookup ?_;rw[hi];calc hV (ae ?_);unfold bindSpecial;calc ae (wpAny_typeOf (T:="function") ⟨_,Y,G⟩ ?_);rw[if_pos pj];calc aw (ae (eh hq (λr s' z=>?_) λ_ _ y=>y));let⟨rfl,z⟩:=z
 wp_walk
 show z
def abO (T:OwnTail h jR bm)(j:h.get? C=some (excClassObj nm q C N bs bm true sn sub ab col dd k0 k1 k2 k3 k5 "ValueError.__new__"))(hn:h.Ns N mN)(hi:mN "__init__"=some (.ref fI))(G:h.get? fI=some oI)(D:oI.cls=.type "function")(hz:rest.length<=sizeLine)(F:wpAny (model prog w) (A.under (.builtin "type.__call__" ⟨.ref C::rest,[]⟩)) (call (.ref fI) (.ref (h.objs.size+1)::rest)) (λr s'=>r=.none/\Q (.ref (h.objs.size+1)) s') E ⟨(h.push (newArgs rest)).push (newExc C h.objs.size),g,d,t,os⟩):wpAny (model prog w) A (call (.ref C) rest) Q E ⟨h,g,d,t,os⟩:=by
 let f1:=tc_lookup;let f2:=tc_bind (.ref C);let I:(⟨h,g,d,t,os⟩:Shared).TypeIs (.ref C) "type":=⟨_,j,rL⟩
 calc kQ (codeAny_of_tree ?_);show wpAny _ _ (callAny (.ref C) _) _ _ _
 repeat (any_goals (first|assumption|with_reducible refine ie j ?_|wp_step))
 show⟨rL,codeAny_call_builtin_at (Code.quiet_builtin _ pS) entry_typeCall (wpAny_check_type_call_sub j (Qh T j hn hi G D hz F))⟩
end
section
variable {M:Model}{A:Around}{E:AD}{s:Shared}{env:Env}{x:Sem Value}{Q:Flow->Shared->Prop}
variable {nm q:Str}{C N:Addr}{bs bm:List Value}{hdct:Bool}{sn:List Str}{sub:List Value}{ab:Bool}{col:Option Bool}{dd:Option Addr}{k0 k1 k2 k3 k5:Option Value}{newId:String}
def ZQ (hb:bm.contains (.type "BaseException")=true)(I:A.handled=none)(hx:wpAny M A x (λv s1=>∃e oe vs,v=.ref e/\s1.heap.get? C=some (excClassObj nm q C N bs bm hdct sn sub ab col dd k0 k1 k2 k3 k5 newId)/\s1.heap.get? e=some oe/\oe.cls=.ref C/\oe.data=.fields vs/\vs[1]?=some .none/\E (.ref e) s1) E s):wpAny M A (raiseStmt env (some x) none) Q E s:=by
 let inB:(Value.ref C::bm).contains (.type "BaseException")=true:=by rw[List.contains_cons,hb,Bool.or_true]
 unfold raiseStmt;calc ae (eh hx (λv s1 z=>?_) λ_ _ y=>y);let⟨e,oe,vs,rfl,j,G,D,hd,h1,F⟩:=z;let⟨oc,od,J,osl⟩:=oe;dsimp only at D hd;subst D hd;let⟨hp,g,d,tk,os⟩:=s1
 repeat (first|with_reducible refine ie G ?_|with_reducible refine ie j ?_|(with_reducible calc wpAny_isSubtype_exc j ?_;rw[inB])|wp_step)
 rw[h1];calc aw ?_;rw[if_neg pj];show aw (wpAny_raiseNew_none I F)
end
def iQ (a:Addr)(cls:Value)(dd:Option Addr):Heap->Prop:=λh=>∃oe vs,h.get? a=some oe/\oe.cls=cls/\oe.dict=dd/\oe.data=.fields vs/\vs[1]?=some .none/\vs[2]?=some .none/\dd≠some a
def iQ.at {h h':Heap}(x:iQ a cls dd h)(k:∀o,h.get? a=some o->h'.get? a=some o):iQ a cls dd h':=let ⟨oe,vs,e,r⟩:=x;(JA oe vs ⟨k oe e,r⟩)
def iQ.ok (x:iQ a cls dd h):fP P w H h a (.ext (iQ a cls dd)):=⟨x,let ⟨oe,_,e,_⟩:=x;⟨oe,e⟩,λ_ _ y k=>y.at k⟩
def drop (H:Hp)(a:Addr):Hp:=λb=>if b=a then none else H b
def qy:drop H a a=none:=by unfold drop;rw[if_pos rfl]
def jD (h:b≠a):drop H a b=H b:=by unfold drop;rw[if_neg h]
section
variable {X:Cx}{ak:AE}{σ:St}{H:Hp}{s:Shared}{a:Addr}{φ:Heap->Prop}
def aQ.drop (I:aQ X ak σ H s)(ha:H a=some (.ext φ))(IK:∀b o,X.s₀.heap.get? b=some o->b≠a):aQ X ak σ (L2.drop H a) s:=by
 let ne:∀b u,H b=some u->(∀φ,u≠.ext φ)->b≠a:=λb u e n z=>by rw[z,ha]at e;cases e;show n φ rfl
 refine⟨I.ok,I.os,I.bare,⟨I.base.keep,I.base.slot,λb o e n hx=>?_,I.base.there,λb xs e=>?_,λb o u e=>?_,λb ps e=>?_⟩,I.loc,I.cell,?_,λx c e=>?_,λp hp=>?_,λb o e=>?_,I.len⟩
 .by_cases hb:b=a;.rw[hb];show qy
  .rw[jD hb];show I.base.free b o e n hx
 .let z:=I.base.tups b xs e;rw[jD (ne b _ z λφ=>by simp)];show z
 .let z:=I.base.qg b o u e;rw[jD (ne b _ z λφ=>by simp)];show z
 .let⟨more,z⟩:=I.base.qF b ps e;show⟨more,by rw[jD (ne b _ z λφ=>by simp)];show z⟩
 .by_cases hb:X.env.locals=a;.rw[hb];show qy
  .rw[jD hb];show I.free
 .by_cases hb:c=a;.rw[hb];show qy
  .rw[jD hb];show I.mX x c e
 .let⟨e1,e2,e3⟩:=I.pin p hp;calc⟨e1,?_,e3⟩;by_cases hb:p.1=a;.rw[hb];show qy
  .rw[jD hb];show e2
 .by_cases hb:b=a;.rw[hb,qy]at e;cases e
  .rw[jD hb]at e;refine(I.hok b o e).stay (λc u _ z=>z) (λc r=>?_) λc xs r=>?_
   .rw[jD (ne c _ r λφ=>by simp)];show r
   .rw[jD (ne c _ r λφ=>by simp)];show r
end
structure MkX (K:Frag)(C f:Addr):Prop where
 ini:wV K C f=true
 fn:W.isFn K (.ref f)=true
 kp:W.keepIn K (.ref C)=true
def ad_ (C:Addr)(sp:Sp)(E:XK)(t:TA):TS:=λ_ σ H=>t σ H λvs H1=>vs.length<=sizeLine/\∀a,H1 a=none->sp (.ref a::vs) (upd H1 a (.ext (iQ a (.ref C) none))) (λv j=>v=.non/\∃dd,j a=some (.ext (iQ a (.ref C) dd))/\E (.ref C) dd (drop j a)) E0
section
variable {X:Cx}{k:Nat}{f C:Addr}{fd:FuncData}{ps:List Str}{sp:Sp}{x:Str}{p pos cpos:Pos}{e:Expr}{es:List Expr}{t:TA}{E:XK}
def aea {ak:AE}{s:Shared}{σ:St}{H:Hp}{G:Addr->Hp->Prop}(M:MkX X.K C f)(F:bZ X.prog X.w X.K X.mg X.base dz k f fd ps sp)(hr:fu (k+1) X.A)(hg:Gl X x)(hm:X.mg x=some (.ref C))(hb:bN X.K fd ps [])(ha:QA X (e::es) t)(I:aQ X ak σ H s)(h:t σ H λvs H1=>vs.length<=sizeLine/\∀a,H1 a=none->sp (.ref a::vs) (upd H1 a (.ext (iQ a (.ref C) none))) (λv Y=>v=.non/\G a Y) E0)(hdb:(x==("__debug__":Str))=false)(hs:starEach (e::es) X.env=(false,eval e X.env)::starEach es X.env)(Z:(backTo cpos (starEach es X.env)).any (·.1)=false):wpAny (model X.prog X.w) X.A (eval (.Call (.Name x p) (e::es) [] cpos) X.env) (λv s'=>∃a Y,v=.ref a/\aQ X ak σ Y s'/\X.s₀.heap.objs.size<=a/\G a Y) X.xe s:=by
 calc gN (oN I hg hm ?_ hdb);calc iN (h₀:=X.base) I.ok.mod.HX M.kp (cg (ha.out cpos ak s σ H _ I h) λus s1 ⟨vs,H1,J,r,hz,q⟩=>⟨J.iY,?_⟩) hs Z;let⟨bm,N,nm,qn,bs,sn,sub,ab,col,dd,k0,k1,k2,k3,k5,mN,cC,cN,ci,T⟩:=Kc J.iY M.ini;obtain⟨oI,hoI,hcI⟩:∃oI,s1.heap.get? f=some oI/\oI.cls=.type "function":=by
  let z:(X.K.lookup f).map (·.cls)=some (.type "function"):=beq_iff_eq.mp M.fn;cases y:X.K.lookup f with
  | none=>rw[y]at z;cases z
  | some of=>rw[y]at z;show⟨of,J.iY _ _ y,bp z⟩
 let O:X.s₀.heap.objs.size<=s1.heap.objs.size+1:=Nat.le_succ_of_le J.sz;let⟨j,g,d,tk,os⟩:=s1;let I2:aQ X ak σ H1 ⟨j.push (newArgs us),g,d,tk,os⟩:=J.kept (t':=tk) λb u z=>af _ z;let hsz:(j.push (newArgs us)).objs.size=j.objs.size+1:=eQ _ _;let eX:((j.push (newArgs us)).push (newExc C j.objs.size)).get? (j.objs.size+1)=some (newExc C j.objs.size):=by heap_get
 let I3:aQ X ak σ (upd H1 (j.objs.size+1) (.ext (iQ (j.objs.size+1) (.ref C) none))) ⟨(j.push (newArgs us)).push (newExc C j.objs.size),g,d,tk,os⟩:=I2.laid (t':=tk) (λb u z=>af _ z) (io hsz) (iQ.ok (JA _ _ ⟨eX,rL,rL,rL,rL,rL,pi⟩))
 let hq:=q (j.objs.size+1) (I2.hok.fresh (io hsz));let r2:Vals (V.ref (j.objs.size+1)::vs) (Value.ref (j.objs.size+1)::us):=.cons rL r;let hl:(Value.ref (j.objs.size+1)::us).length=ps.length:=by rw[<-r2.length];show F.len _ _ _ _ hq
 let hB:=hb ⟨(j.push (newArgs us)).push (newExc C j.objs.size),g,d,tk,os⟩ (Value.ref (j.objs.size+1)::us) I3.iY (by rw[gT];show hl);rw[gT]at hB;calc abO T cC cN ci hoI hcI (by show us.length<=sizeLine;rw[<-r.length];show hz) (kQ (kK (F.run _ X.stack _ _ ⟨Value.ref (j.objs.size+1)::us,[]⟩ (Value.ref (j.objs.size+1)::us) _ _ E0 (hr.make C us []) (I3.env0.make C us []) hB r2 hq) λr s' D=>?_));cases r with
 | error e=>show False.elim D
 | ok fl=>
  cases fl with
  | ret u=>let⟨v,H',I4,rv,ev,q3⟩:=I3.after D;subst ev;show⟨rv,_,H',rL,I4,O,q3⟩
  | next=>show False.elim D
  | brk=>show False.elim D
  | cont=>show False.elim D
def uo (hl:Lets X E)(hc:X.calm=true)(M:MkX X.K C f)(F:bZ X.prog X.w X.K X.mg X.base dz k f fd ps sp)(hr:fu (k+1) X.A)(hg:Gl X x)(hm:X.mg x=some (.ref C))(hb:bN X.K fd ps [])(ha:QA X (e::es) t)(Y:(x==("__debug__":Str))=false:=by decide)(hs:starEach (e::es) X.env=(false,eval e X.env)::starEach es X.env:=by rfl)(G:(backTo cpos (starEach es X.env)).any (·.1)=false:=by rfl):QS X (.Raise (some (.Call (.Name x p) (e::es) [] cpos)) none pos) (ad_ C sp E t):=⟨by
 intro ak s σ H D I h;let run:=aea (p:=p) M F hr hg hm hb ha I h Y hs G;let⟨bm,N,nm,qn,bs,sn,sub,ab,col,dd,k0,k1,k2,k3,k5,mN,cC,cN,ci,T⟩:=Kc I.ok.mod.HX M.ini;rw[arm_exec_Raise];refine ae (lP (ZQ (C:=C) (nm:=nm) (q:=qn) (N:=N) (bs:=bs) (bm:=bm) (hdct:=true) (sn:=sn) (sub:=sub) (ab:=ab) (col:=col) (dd:=dd) (k0:=k0) (k1:=k1) (k2:=k2) (k3:=k3) (k5:=k5) (newId:="ValueError.__new__")
  (T.hasType fF.hasBase) (I.ok.hd hc) (ae (eh run (λv s1 z=>ae (lP (aw ?_))) λ_ _ y=>y))))
 let⟨a,H2,rfl,O,J,dd2,j,hE⟩:=z;obtain⟨⟨oe,vs,Z,h1,h2,h3,h4,ZR,_⟩,_⟩:=O.hok a _ j;let IK:∀b o,X.s₀.heap.get? b=some o->b≠a:=λb o z y=>absurd (aE z) (by rw[y];show Nat.not_lt.mpr J);let I3:=O.drop j IK;calc JE a oe vs ⟨rL,O.bk _ _ cC,Z,h1,h3,h4,hl ak σ _ _ a oe vs I3 Z h3 h4 ZR qy IK ?_⟩;rw[h1,h2];show hE⟩
end
section
variable {prog:Program}{w:World}{A:Around}{E:AD}{h:Heap}{g:Array GenState}{d:Drawn}{t:Nat}{os:OsState}
variable {nm q:Str}{C N a:Addr}{bs bm:List Value}{sn:List Str}{sub:List Value}{ab:Bool}{col:Option Bool}{dd:Option Addr}{k0 k1 k2 k3 k5:Option Value}{rest:List Value}{Q:AD}{oe:Obj}{vs:Array Value}
def ZS (T:OwnTail h jR bm)(Y:h.get? C=some (excClassObj nm q C N bs bm true sn sub ab col dd k0 k1 k2 k3 k5 "ValueError.__new__"))(G:h.get? a=some oe)(J:oe.cls=.ref C)(hd:oe.data=.fields vs)(hz:0<vs.size)(Z:rest.length<=sizeLine)(I:Q .none ⟨(h.push (newArgs rest)).update a (Obj.mapFields (·.setIfInBounds 0 (.ref h.objs.size))),g,d,t,os⟩):wpAny (model prog w) A (call (.builtin "ValueError.__init__") (.ref a::rest)) Q E ⟨h,g,d,t,os⟩:=by
 let F:=fF;let⟨oc,od,O,osl⟩:=oe;dsimp only at J hd;subst J hd;calc kQ (codeAny_call_builtin F.init.plain F.initEntry (wpAny_check_init_subT F T Y G rL ?_));let j:(h.push (newArgs rest)).get? a=some ⟨.ref C,od,.fields vs,osl⟩:=af _ G;unfold Builtin.«BaseException.__init__»
 repeat (first|with_reducible refine ie j ?_|wp_step)
 obtain⟨D,e0⟩:∃D,vs[0]?=some D:=⟨_,om hz⟩
 rw[e0];calc aw (ae (mS j rL hz ?_));cases D <;> first|show wpAny_letGo (aw I)|show aw (aw I)
end
def rY:List Value->Bool
 | .ref _::r=>rY r
 | l=>l==jR
theorem Cj (self):∀{l:List Value},rY l=true->refuseLoop self "__setattr__" l=pure ()
 | .ref _::r,e=>(refuseLoop_ref self "__setattr__" _ r).trans (Cj self (l:=r) e)
 | [],e=>by cases e
 | .type n::r,e=>by rw[beq_iff_eq.mp (show (Value.type n::r==jR)=true from e)];show PySem.F.store_ValueError.passes self
 | .none::r,e=>by cases(beq_iff_eq.mp (show (Value.none::r==jR)=true from e))
 | .bool b::r,e=>by cases(beq_iff_eq.mp (show (Value.bool b::r==jR)=true from e))
 | .int i t::r,e=>by cases(beq_iff_eq.mp (show (Value.int i t::r==jR)=true from e))
 | .float i t::r,e=>by cases(beq_iff_eq.mp (show (Value.float i t::r==jR)=true from e))
 | .str i t::r,e=>by cases(beq_iff_eq.mp (show (Value.str i t::r==jR)=true from e))
 | .bytes i t::r,e=>by cases(beq_iff_eq.mp (show (Value.bytes i t::r==jR)=true from e))
 | .builtin n::r,e=>by cases(beq_iff_eq.mp (show (Value.builtin n::r==jR)=true from e))
structure Ck (K:Frag)(C:Addr):Prop where
 ln:((clsIn K C).any λcd=>cd.hasDict&&rY cd.mro)=true
 ob:mroIn K C (.type "object")=some true
 sa:findIn K (.ref C) "__setattr__"=some (some (.builtin "object.__setattr__"))
section
open Builtin Builtin.ObjectAttr
variable {prog:Program}{w:World}{A:Around}{E:AD}{s:Shared}{K:Frag}{x C:Addr}{ox:Obj}{od:Option Obj}{name:Str}{v:Value}
def MP (X:K.In s.heap)(T:Ck K C)(hn:findIn K (.ref C) name=some none)(I:InstAt s.heap x ox C od)(h:wpAny (model prog w) A.in1 (storeInOwnDict (.ref x) (.ref C) (.str name s.toks) name v false) (λj s'=>match j with|.done (.ret _)=>Q () s'|_=>False) (λ_ _=>False) {s with toks:=s.toks+1}):wpAny (model prog w) A (setAttr (.ref x) name v) Q E s:=by
 let F:=PySem.F.store_ValueError;let⟨cd,Z,G⟩:=any_some T.ln;rw[cn]at G;let D:=I.type (M:=model prog w);let J:Looks (model prog w) s.heap (mroOf (.ref C)) cd.mro:=(looks_clsIn X Z).andThen .now;let O:Looks (model prog w) s.heap (isInstance (.ref x) (.type "object")) true:=D.andThen (looks_mroIn X T.ob);let Y:=looks_findIn (M:=model prog w) X hn;let⟨hh,g,d,t,os⟩:=s;unfold setAttr;calc ae (wpAny_mkText (ae (ae (ae (D.at ((looks_findIn X T.sa).at (hV (ae ?_))))))));rw[F.slot.bind (.ref x)];calc aw (ae (kQ (codeAny_call_builtin F.slot.plain F.entry (@check_slot (model prog w) _ _ _ "object.__setattr__" "object" "__setattr__" (.ref x) [.str name t,v] [] _ F.kind F.split O (F.args (.ref x) (.str name t) v) ?_))));show wpAny (model prog w) A.in1 (Builtin.«object.__setattr__» ⟨[.ref x,.str name t,v],[]⟩) _ _ _;rw[osa_eq,refuse_eq];calc ae (ae (D.at (ae (J.at ?_))));rw[Cj _ G.2];calc aw (ae (D.at (ae (Y.at (ae (aw ?_))))));calc eh h (λj s' z=>?_) λ_ _ z=>z.elim;cases j with
 | done f=>cases f with| ret u=>show aw (aw z)| next=>show z.elim| brk=>show z.elim| cont=>show z.elim
 | again c=>show z.elim
end
section
open Builtin Builtin.ObjectAttr
variable {prog:Program}{w:World}{A:Around}{E:AD}{h:Heap}{g:Array GenState}{d:Drawn}{t:Nat}{os:OsState}{K:Frag}{x C dx:Addr}{vs:Array Value}{sl:Array (Option Value)}{name:Str}{v:Value}{Q:Fin->Shared->Prop}{b:Bool}{tk:Tok}
def Xj (X:K.In h)(T:Ck K C)(hx:h.get? x=some ⟨.ref C,none,.fields vs,sl⟩)(Z:∀h' t',h'.Ns1 h.objs.size (λy=>if y=name then some v else none)->h'.get? x=some ⟨.ref C,some h.objs.size,.fields vs,sl⟩->(∀c o,c≠x->h.get? c=some o->h'.get? c=some o)->Q (.done (.ret .none)) ⟨h',g,d,t',os⟩):wpAny (model prog w) A (storeInOwnDict (.ref x) (.ref C) (.str name tk) name v b) Q E ⟨h,g,d,t,os⟩:=by
 let⟨cd,hc,I⟩:=any_some T.ln;rw[cn]at I;let xs:x≠h.objs.size:=cq (aE hx);calc ae (aw (ae (ae (wpAny_loadPart hx (ae ((looks_clsIn X hc).here ?_))))));rw[I.1];let j:(h.push {cls:=.type "dict",data:=.dict #[]}).get? x=some ⟨.ref C,none,.fields vs,sl⟩:=af _ hx;calc ae (wpAny_alloc' ?_);calc ae (wpAny_update' j ?_);calc aw ?_;generalize e1:((h.push {cls:=.type "dict",data:=.dict #[]}).update x λo=>{cls:=o.cls,dict:=some h.objs.size,data:=o.data,slots:=o.slots})=h1;let Y:h1.get? h.objs.size=some {cls:=.type "dict",data:=.dict #[]}:=by rw[<-e1];show(Heap.get?_update_ne _ _ _ _ xs.symm).trans (Heap.get?_push_at rL rL)
 let g2:h1.get? x=some ⟨.ref C,some h.objs.size,.fields vs,sl⟩:=by rw[<-e1];show gX _ j rfl
 let g3:∀c o,c≠x->h.get? c=some o->h1.get? c=some o:=λc o n z=>by rw[<-e1];show(Heap.get?_update_ne _ _ _ _ n).trans (af _ z)
 let n1:h1.Ns h.objs.size (λ_=>none):=(JE _ (#[]) _ ⟨Y,rL,(λe O=>absurd O pi),λ_=>rfl⟩)
 show wpAny _ _ (storeInDict h.objs.size (.str name tk) name v) _ _ _;unfold storeInDict newKeyGuard;calc ae (aw (ae (wpAny_nsSet1 (Heap.Ns1.of_empty n1) λh2 J k2=>?_)));let⟨oD,esD,epD,G,D,F⟩:=J.count (nX name v PySem.Within.nil);calc ae (wpAny_lookBehind G (by rw[D];show pastItsLine_dict (bP F (by rw[dA,mw,sizeLine_eq];lia))) (aw ?_));show Z h2 _ J ((k2.2 x xs).trans g2) λc o n z=>(k2.2 c (cq (aE z))).trans (g3 c o n z)
def Tt (X:K.In h)(T:Ck K C)(hx:h.get? x=some ⟨.ref C,some dx,.fields vs,sl⟩)(hn:h.Ns1 dx mA)(hw:PySem.Within mA ns)(hl:ns.length<=100)(J:∀h' t',h'.Ns1 dx (λy=>if y=name then some v else mA y)->(∀c o,c≠dx->h.get? c=some o->h'.get? c=some o)->Q (.done (.ret .none)) ⟨h',g,d,t',os⟩):wpAny (model prog w) A (storeInOwnDict (.ref x) (.ref C) (.str name tk) name v b) Q E ⟨h,g,d,t,os⟩:=by let⟨cd,Z,G⟩:=any_some T.ln;rw[cn]at G;calc ae (aw (ae (ae (wpAny_loadPart hx (ae ((looks_clsIn X Z).here ?_))))));rw[G.1];calc aw ?_;show wpAny _ _ (storeInDict dx (.str name tk) name v) _ _ _;unfold storeInDict newKeyGuard;calc ae (aw (ae (wpAny_nsSet1 hn λh2 I k2=>?_)));let⟨oD,Y,O,F,D,j⟩:=I.count (nX name v hw);calc ae (wpAny_lookBehind F (by rw[D];show pastItsLine_dict (bP j (by rw[dA,sizeLine_eq];lia))) (aw ?_));show J h2 _ I λc o n z=>(k2.2 c n).trans z
end
def XD (a:Addr)(fs:List (Str×V)):Heap->Prop:=λh=>∃mA,h.Ns1 a mA/\(∀f,mC (fs.lookup f) (mA f))/\PySem.Within mA (fs.map (·.1))/\fs.length<=50
def XD.at {h h':Heap}(x:XD a fs h)(k:∀o,h.get? a=some o->h'.get? a=some o):XD a fs h':=let ⟨mA,n,r⟩:=x;⟨mA,n.at k,r⟩
def XD.ok (x:XD a fs h):fP P w H h a (.ext (XD a fs)):=⟨x,let ⟨_,⟨o,_,_,e,_⟩,_⟩:=x;⟨o,e⟩,λ_ _ y k=>y.at k⟩
def ah7 (K : Frag)(ta tv : TE)(f : Str) : TS := λD σ H => tv σ H λy H1 => ta σ H1 λx j => ∃a C dd, x = .ref a /\ j a = some (.ext (iQ a (.ref C) dd)) /\ Ck K C /\ findIn K (.ref C) f = some none /\
  ((dd = none /\ ∀dx, dx ≠ a -> j dx = none -> D.nx σ (upd (upd j dx (.ext (XD dx [(f, y)]))) a (.ext (iQ a (.ref C) (some dx))))) \/
   ∃dx fs, dd = some dx /\ j dx = some (.ext (XD dx fs)) /\ fs.length<50 /\ D.nx σ (upd j dx (.ext (XD dx (g_ f y fs)))))
section
variable {X:Cx}{o value:Expr}{f:Str}{pos pos':Pos}{ta tv:TE}
def vK (ha:QE X o ta)(hv:QE X value tv)(hs:swapsWith value (some (.Attribute o f pos')) pos.line X.env=pure false):QS X (.Assign [.Attribute o f pos'] value pos) (ah7 X.K ta tv f):=⟨by
 intro ak s σ H D I h;calc plainObj_wpAny_Assign_Attribute (cg (hv.out ak s σ H _ I h) λu s1 zz=>?_) hs;let⟨y,H1,I1,ry,q⟩:=zz;calc cg (ha.out ak s1 σ H1 _ I1 q) λov s2 zz=>?_;let⟨x,J,G,rx,a,C,dd,ex,ea,T,hn,q2⟩:=zz;subst ex;obtain rfl:ov=Value.ref a:=rx;obtain⟨⟨oe,vs,he,h1,h2,h3,h4,ZR,h5⟩,_⟩:=G.hok a _ ea;let⟨oc,od,oda,osl⟩:=oe;dsimp only at h1 h2 h3;subst h1 h2 h3;let hk:X.K.In s2.heap:=G.iY;let⟨j,g,d,t,os⟩:=s2;rcases q2 with⟨rfl,q2⟩|⟨dx,fs,rfl,Z,hl,q2⟩
 .calc MP hk T hn (od:=none) ⟨he,rL,rL,True.intro⟩ (Xj hk T he λh' t' n' e' O=>?_);let xs:a≠j.objs.size:=cq (aE he);let nN:J j.objs.size=none:=G.hok.fresh (ai _);let na:∀b,J b=none->b≠a:=λb n z=>by rw[z,ea]at n;cases n
  let ne:∀b w,J b=some w->(∀φ,w≠.ext φ)->b≠a/\b≠j.objs.size:=λb w e n=>⟨λz=>by rw[z,ea]at e;cases e;show n _ rL,λz=>by rw[z,nN]at e;cases e⟩
  let up:∀b,b≠a->b≠j.objs.size->upd (upd J j.objs.size (.ext (XD j.objs.size [(f,y)]))) a (.ext (iQ a (.ref C) (some j.objs.size))) b=J b:=λb n1 F=>by rw[aP n1,aP F]
  let lt:∀b o,j.get? b=some o->b≠j.objs.size:=λb o z=>cq (aE z);let hD:XD j.objs.size [(f,y)] h':=⟨_,n',λg'=>by
    show mC (List.lookup g' [(f,y)]) (if g'=f then some u else none);by_cases q:g'=f;.rw[if_pos q,q];simp only[List.lookup,beq_self_eq_true];show ry
    .rw[if_neg q];have:(g'==f)=false:=beq_false_of_ne q;simp only[List.lookup,this];trivial,λg' hg=>by
    by_cases q:g'=f;.rw[q];simp
    .show absurd (show (if g'=f then some u else none)=none by rw[if_neg q]) hg,by show 1<=50;decide⟩
  let I3:aQ X ak σ (upd (upd J j.objs.size (.ext (XD j.objs.size [(f,y)]))) a (.ext (iQ a (.ref C) (some j.objs.size)))) ⟨h',g,d,t',os⟩:=G.un (t':=t')
   ⟨λb o z n _ _=>O b o (na b n) z,λb o z n _ _=>⟨o.slots,O b o (na b n) z⟩,λb o z n _=>(up b (na b n) (lt b o z)).trans n,λb o z _=>by
    by_cases hb:b=a;.show⟨_,by rw[hb];show e'⟩
    .show⟨o,O b o hb z⟩,λb xs e=>by
    let⟨n1,F⟩:=ne b _ e λφ=>by simp
    show(up b n1 F).trans e,λb o xs e=>by
    let⟨n1,F⟩:=ne b _ e λφ=>by simp
    show(up b n1 F).trans e,λb ps e=>by
    let⟨n1,F⟩:=ne b _ e λφ=>by simp
    show⟨#[],by rw[up b n1 F,e];simp⟩⟩ λb o e=>by
   by_cases hb:b=a
   .subst hb;rw[aq]at e;cases e;show iQ.ok (JA _ _ ⟨e',rL,rL,rL,h4,ZR,λz=>xs (bp z).symm⟩)
   .rw[aP hb]at e;by_cases hn:b=j.objs.size
    .subst hn;rw[aq]at e;cases e;show hD.ok
    .rw[aP hn]at e;refine(G.hok b o e).stay (λc w Y z=>O c w (λy=>?_) z) (λc r=>?_) λc xs r=>?_
     .rcases Y with Y|Y;.show hb (Y.symm.trans y)
      .rw[y,ea]at Y;cases Y
     .let⟨n1,F⟩:=ne c _ r λφ=>by simp
      show(up c n1 F).trans r
     .let⟨n1,F⟩:=ne c _ r λφ=>by simp
      show(up c n1 F).trans r
  show JA σ _ ⟨I3,q2 _ xs.symm nN⟩
 .obtain⟨⟨mA,nA,rA,wA,lA⟩,⟨od,hod⟩,_⟩:=G.hok dx _ Z;calc MP hk T hn (od:=some od) ⟨he,rL,rL,hod⟩ (Tt (ns:=fs.map (·.1)) hk T he nA wA (by rw[aa];lia) λh' t' n' O=>?_);let I3:aQ X ak σ (upd J dx (.ext (XD dx (g_ f y fs)))) ⟨h',g,d,t',os⟩:=G.write (t':=t') (e:=dx) (by rw[Z];trivial) (.inl rL) (λb o n z=>O b o n z) (let ⟨o,_,_,e,_⟩:=n';⟨o,e⟩)
   (XD.ok ⟨_,n',λg'=>?_,λg' hg=>?_,?_⟩)
  .show JA σ _ ⟨I3,q2⟩
  .show mC ((g_ f y fs).lookup g') (if g'=f then some u else mA g');rw[xY];by_cases q:g'=f;.rw[if_pos q,if_pos q];show ry
   .rw[if_neg q,if_neg q];show rA g'
  .by_cases q:g'=f;.rw[q];show(ug f y fs).1
   .calc(ug f y fs).2 g' (wA g' λz=>hg ?_);show (if g'=f then some u else mA g')=none;rw[if_neg q];show z
  .have:=xZ f y fs;lia⟩
end
structure InitOf (K:Frag)(R:Addr):Prop where
 ga:specialIn K (.ref R) "__getattribute__"=some (some (.builtin "type.__getattribute__"))
 rd:readsIn K R (.type "type")=true
 fc:findCls K (.ref R) (.type "type") "__init__"=some (.val (.builtin "ValueError.__init__"))
def abP (K:Frag)(t:TA):TE:=λσ H Q=>t σ H λvs H1=>∃a C f dd rest,vs=.ref a::rest/\H1 a=some (.ext (iQ a (.ref C) dd))/\wV K C f=true/\rest.length<=sizeLine/\Q .non H1
section
variable {X:Cx}{R:Addr}{x:Str}{np apos pos:Pos}{e:Expr}{es:List Expr}{t:TA}
def uY {pl:Sem Bool}(hg:Gl X x)(hm:X.mg x=some (.ref R))(F:InitOf X.K R)(ha:QA X (e::es) t)(O:(x==("__debug__":Str))=false:=by decide)(hs:starEach (e::es) X.env=(false,eval e X.env)::starEach es X.env:=by rfl)(Z:(backTo pos (starEach es X.env)).any (·.1)=false:=by rfl)(ht:eval (.Call (.Attribute (.Name x np) "__init__" apos) (e::es) [] pos) X.env=(do
   let ov <- eval (.Name x np) X.env
   standAt apos.atName
   let (f,first) <- holding [ov] (getMethod ov "__init__" pl)
   callWith pos f first (backTo pos (starEach (e::es) X.env)) (backToKw pos (keywordEach [] X.env))):=by rfl) :
  QE X (.Call (.Attribute (.Name x np) "__init__" apos) (e::es) [] pos) (abP X.K t):=⟨by
 intro ak s σ H Q I h;calc methodCall_KW (pl:=pl) (oN I hg hm ?_ O) ht;calc method_cls I.iY F.ga (cls_value I.iY F.rd F.fc rL ?_);let I0:=I.tok (s.toks+1);calc ml (cg (ha.out pos ak _ σ H _ I0 h) λus s1 zz=>?_) hs Z;let⟨vs,H1,J,r1,a,C,f,dd,rest,ev,Y,hC,hz,q⟩:=zz;subst ev;let⟨bm,N,nm,qn,bs,sn,sub,ab,col,Zm,k0,k1,k2,k3,k5,mN,cC,cN,ci,T⟩:=Kc J.iY hC;obtain⟨⟨oe,ws,he,h1,h2,h3,h4,ZR,h5⟩,_⟩:=J.hok a _ Y;obtain⟨u,j,rfl,ra,rr⟩:∃u j,us=u::j/\cD (.ref a) u/\Vals rest j:=by
  cases r1 with| cons ra rr=>show JA _ _ ⟨rL,ra,rr⟩
 obtain rfl:u=Value.ref a:=ra;let⟨D,g,d,tk,os⟩:=s1;let hsz:0<ws.size:=iP (eI 1) (fE.mp h4).1;calc ZS T cC he h1 h3 hsz (by rw[<-rr.length];show hz) ?_;let e1:(D.push (newArgs j)).get? a=some oe:=af _ he;let I2:aQ X ak σ H1 ⟨D.push (newArgs j),g,d,tk,os⟩:=J.kept (t':=tk) λb u z=>af _ z;let G:=ny h3 (·.setIfInBounds 0 (Value.ref D.objs.size));let e2:((D.push (newArgs j)).update a (Obj.mapFields (·.setIfInBounds 0 (.ref D.objs.size)))).get? a=some (oe.mapFields (·.setIfInBounds 0 (.ref D.objs.size))):=gX _ e1 (jv G);let I3:aQ X ak σ (upd H1 a (.ext (iQ a (.ref C) dd))) ⟨(D.push (newArgs j)).update a (Obj.mapFields (·.setIfInBounds 0 (.ref D.objs.size))),g,d,tk,os⟩:=I2.write (t':=tk) (e:=a) (by rw[Y];trivial) (.inl rL)
  (λb u n z=>(fi _ _ (gf n)).trans z) ⟨_,e2⟩ (iQ.ok (JA _ _ ⟨e2,(Obj.cls_mapFields _ _).trans h1,(MF _ _).trans h2,G,by rw[iA pj];show h4,by rw[iA pj];show ZR,h5⟩))
 rw[show upd H1 a (.ext (iQ a (.ref C) dd))=H1 from funext λb=>by
  by_cases hb:b=a;.rw[hb,aq,Y]
  .rw[aP hb]]at I3
 show(JA .non H1 ⟨I3,rL,q⟩)⟩
end
def drop_new (na:H a=none)(ne:dx≠a)(nd:upd H a o dx=none):aB H (drop (upd (upd (upd H a o) dx p) a q) a)/\drop (upd (upd (upd H a o) dx p) a q) a dx=some p:=by
 rw[aP ne]at nd;refine⟨λb u e=>?_,?_⟩
 .let h1:b≠a:=aY e na;let h2:b≠dx:=aY e nd;rw[jD h1,aP h1,aP h2,aP h1];show e
 .rw[jD ne,aP ne,aq]
structure pB (K:Frag)(mg:Str->Option Value)(name:Str)(C f:Addr)(fs:List Str):Prop where
 uN:mg name=some (.ref C)
 M:MkX K C f
 T:Ck K C
 is:ah4 K C
 hd:hasDictIn K C=true
 no:∀g∈fs,findIn K (.ref C) g=some none
def Ja (C:Addr)(nm:Str):Sp:=λvs H Q _=>∃(a:Addr) (v:V),vs=[.ref a,v]/\H a=some (.ext (iQ a (.ref C) none))/\∀dx,dx≠a->H dx=none->Q .non (upd (upd H dx (.ext (XD dx [(nm,v)]))) a (.ext (iQ a (.ref C) (some dx))))
def Jb (C:Addr)(n1 j:Str):Sp:=λvs H Q _=>∃(a:Addr) (v w:V),vs=[.ref a,v,w]/\H a=some (.ext (iQ a (.ref C) none))/\∀dx,dx≠a->H dx=none->Q .non (upd (upd (upd H dx (.ext (XD dx [(n1,v)]))) a (.ext (iQ a (.ref C) (some dx)))) dx (.ext (XD dx (g_ j w [(n1,v)]))))
section
variable {prog:Program}{w:World}{A:Around}{E:AD}{s:Shared}{z ti to u v a b:Addr}{i:Nat}{f g:Array Value}{x y m n:Value}
def ZV {Q:AD}(D:ZA z ti to u v a b)(hz:IsZip s.heap z ti to .none)(hi:IsPair s.heap ti (.ref u) (.ref v))(ho:IsPair s.heap to m n)(hu:s.heap.IsListIter u a i)(hv:s.heap.IsListIter v b i)(ha:s.heap.IsList a f)(hb:s.heap.IsList b g)(hx:f[i]?=some x)(hy:g[i]?=some y)(q:∀h',IsZip h' z ti to (rawInt s.heap.objs.size)->IsPair h' to x y->h'.IsListIter u a (i+1)->h'.IsListIter v b (i+1)->IsPair h' s.heap.objs.size x y->
   (∀c o,c≠z->c≠to->c≠u->c≠v->s.heap.get? c=some o->h'.get? c=some o)->Q (.ref s.heap.objs.size) {s with heap:=h' }) :
  wpAny (model prog w) A (Builtin.«zip.__next__» ⟨[.ref z],[]⟩) (λJ s'=>∃r,J=.done (.ret r)/\Q r s') E s:=by
 show wpAny _ _ (field (.ref z) 2 >>= _) _ _ _;calc ae (e_ hz rL (x:=.bool false) rL ?_);show wpAny _ _ (field (.ref z) 3 >>= _) _ _ _;calc ae (e_ hz rL (x:=.ref ti) rL (ae (jS hi rL ?_)));show wpAny _ _ (Builtin.SmallTypes.ownedTupleIsFree (.ref z) >>= _) _ _ _;calc ae ?_;unfold Builtin.SmallTypes.ownedTupleIsFree;calc ae (e_ hz rL (x:=.none) rL (aw ?_));simp only[if_true];calc ae (og (ae (e_ hz rL (x:=.ref to) rL (ae (iX hz pi λg1 O k1=>?_)))));replace O:IsZip g1 z ti to .ellipsis:=O;calc ae ?_;simp only[List.zipIdx_cons,List.zipIdx_nil,gc,oS];calc ae (ae (nL ?_));show wpAny _ _ (Builtin.SmallTypes.nextOf (.ref u) >>= _) _ _ _;calc ae (lx (hu.at λo e=>k1.extBut _ o D.q3 e) (kS ha λo e=>k1.extBut _ o D.p2 e) hx λg2 u2 k2=>aw ?_);let o2:IsPair g2 to m n:=k2.extBut _ _ D.q8 (k1.extBut _ _ D.q2 ho);calc ae (jS o2 rL (ae (my o2 λg3 Y k3=>?_)));replace Y:IsPair g3 to x n:=Y;calc ae (wpAny_letGo (aw ?_));calc ae (ae (nL ?_));show wpAny _ _ (Builtin.SmallTypes.nextOf (.ref v) >>= _) _ _ _;calc ae (lx (hv.at λo e=>k3.extBut _ o D.q9.symm (k2.extBut _ o D.p1.symm (k1.extBut _ o D.q4 e))) (kS hb λo e=>k3.extBut _ o D.p7 (k2.extBut _ o D.p8 (k1.extBut _ o D.p6 e))) hy λg4 v4 k4=>aw ?_);let o4:IsPair g4 to x n:=k4.extBut _ _ D.q9 Y;calc ae (jS o4 rL (ae (my o4 λj G k5=>?_)));replace G:IsPair j to x y:=G;calc ae (wpAny_letGo (aw (aw ?_)));calc ae (jS G rL (ae (wpAny_newTuple ?_)));let sz:j.objs.size=s.heap.objs.size:=by rw[k5.1,k4.1,k3.1,k2.1,k1.1]
 let z5:IsZip j z ti to .ellipsis:=k5.extBut _ _ D.q2.symm (k4.extBut _ _ D.q4.symm (k3.extBut _ _ D.q2.symm (k2.extBut _ _ D.q3.symm O)));let kk:∀c o,c≠z->c≠to->c≠u->c≠v->s.heap.get? c=some o->j.get? c=some o:=λc o c1 c2 c3 c4 e=>k5.extBut _ _ c2 (k4.extBut _ _ c4 (k3.extBut _ _ c2 (k2.extBut _ _ c3 (k1.extBut _ _ c1 e))));let u5:j.IsListIter u a (i+1):=u2.at λo e=>k5.extBut _ o D.q8.symm (k4.extBut _ o D.p1 (k3.extBut _ o D.q8.symm e));let v5:j.IsListIter v b (i+1):=v4.at λo e=>k5.extBut _ o D.q9.symm e;let lz:z<j.objs.size:=aE z5;show wpAny _ _ (Builtin.SmallTypes.ownedTupleHandOut (.ref z) (.ref j.objs.size) >>= _) _ _ _;calc ae ?_;unfold Builtin.SmallTypes.ownedTupleHandOut;let z6:IsZip (j.push {cls:=.type "tuple",data:=.seq #[x,y]}) z ti to .ellipsis:=af _ z5;refine ae (iX z6 pi λg7 Z k7=>?_)
 replace Z:IsZip g7 z ti to (rawInt j.objs.size):=Z;refine iX Z pi λI F k8=>?_
 replace F:IsZip I z ti to (rawInt j.objs.size):=F;let up:∀c o,c≠z->j.get? c=some o->I.get? c=some o:=λc o c1 e=>k8.extBut _ _ c1 (k7.extBut _ _ c1 (af _ e));let t8:IsPair I j.objs.size x y:=k8.extBut _ _ (jp lz) (k7.extBut _ _ (jp lz) (a_ _ rL));rw[sz]at F t8;calc aw ⟨_,rL,?_⟩;show Q (.ref j.objs.size) _;rw[sz];show q I F (up _ _ D.q2 G) (u5.at λo e=>up _ o D.q3 e) (v5.at λo e=>up _ o D.q4 e) t8 λc o c1 c2 c3 c4 e=>up c o c1 (kk c o c1 c2 c3 c4 e)
def abQ (hh:A.handled=none)(D:ZA z ti to u v a b)(hz:IsZip s.heap z ti to .none)(hi:IsPair s.heap ti (.ref u) (.ref v))(Y:IsPair s.heap to m n)(hu:s.heap.IsListIter u a i)(hv:s.heap.IsListIter v b i)(ha:s.heap.IsList a f)(hb:s.heap.IsList b g)(hx:f[i]?=some x)(hy:g[i]?=none)(q:∀h' e,(∀c o,c≠z->c≠to->c≠u->c≠v->s.heap.get? c=some o->h'.get? c=some o)->(∃o,h'.get? e=some o/\o.cls=.type "StopIteration")->E (.ref e) {s with heap:=h' }):wpAny (model prog w) A (Builtin.«zip.__next__» ⟨[.ref z],[]⟩) Q E s:=by
 show wpAny _ _ (field (.ref z) 2 >>= _) _ _ _;calc ae (e_ hz rL (x:=.bool false) rL ?_);show wpAny _ _ (field (.ref z) 3 >>= _) _ _ _;calc ae (e_ hz rL (x:=.ref ti) rL (ae (jS hi rL ?_)));show wpAny _ _ (Builtin.SmallTypes.ownedTupleIsFree (.ref z) >>= _) _ _ _;calc ae ?_;unfold Builtin.SmallTypes.ownedTupleIsFree;calc ae (e_ hz rL (x:=.none) rL (aw ?_));simp only[if_true];calc ae (og (ae (e_ hz rL (x:=.ref to) rL (ae (iX hz pi λO j k1=>?_)))));replace j:IsZip O z ti to .ellipsis:=j;calc ae ?_;simp only[List.zipIdx_cons,List.zipIdx_nil,gc,oS];calc ae (ae (nL ?_));show wpAny _ _ (Builtin.SmallTypes.nextOf (.ref u) >>= _) _ _ _;calc ae (lx (hu.at λo e=>k1.extBut _ o D.q3 e) (kS ha λo e=>k1.extBut _ o D.p2 e) hx λg2 u2 k2=>aw ?_);let I:IsPair g2 to m n:=k2.extBut _ _ D.q8 (k1.extBut _ _ D.q2 Y);calc ae (jS I rL (ae (my I λg3 F k3=>?_)));replace F:IsPair g3 to x n:=F;calc ae (wpAny_letGo (aw ?_));calc ae (ae (nL ?_));show wpAny _ _ (Builtin.SmallTypes.nextOf (.ref v) >>= _) _ _ _;calc ae (wpAny_nextOf_list_end hh (hv.at λo e=>k3.extBut _ o D.q9.symm (k2.extBut _ o D.p1.symm (k1.extBut _ o D.q4 e))) (kS hb λo e=>k3.extBut _ o D.p7 (k2.extBut _ o D.p8 (k1.extBut _ o D.p6 e))) hy λg4 e k4 J=>?_);let⟨oe,e1,e2⟩:=J;let G:IsZip g4 z ti to .ellipsis:=k4 _ _ D.q4.symm (k3.extBut _ _ D.q2.symm (k2.extBut _ _ D.q3.symm j));let Z:e≠z:=λt=>by subst t;rw[G]at e1;cases e1;simp at e2
 show iX G pi λg5 _ k5=>q g5 e (λc o c1 c2 c3 c4 t=>k5.extBut _ _ c1 (k4 _ _ c4 (k3.extBut _ _ c2 (k2.extBut _ _ c3 (k1.extBut _ _ c1 t))))) ⟨oe,k5.extBut _ _ Z e1,e2⟩
abbrev zl1 (h:Heap)(a:Addr):Heap:=h.push {cls:=.type "list_iterator",data:=.fields #[.ref a,.int 0 0]}
abbrev zl2 (h:Heap)(a b:Addr):Heap:=(zl1 h a).push {cls:=.type "list_iterator",data:=.fields #[.ref b,.int 0 0]}
abbrev zl3 (h:Heap)(a b:Addr):Heap:=(zl2 h a b).push {cls:=.type "tuple",data:=.seq #[.ref h.objs.size,.ref (zl1 h a).objs.size]}
abbrev zl4 (h:Heap)(a b:Addr):Heap:=(zl3 h a b).push {cls:=.type "tuple",data:=.seq #[.none,.none]}
abbrev Vc (h:Heap)(a b:Addr):Heap:=(zl4 h a b).push {cls:=.type "zip",data:=.fields #[.none,.bool false,.bool false,.ref (zl2 h a b).objs.size,.ref (zl3 h a b).objs.size]}
def aeb (a b)(f g):Meets (Builtin.«zip.__new__» ⟨[.type "zip",.ref a,.ref b],[]⟩) (λ_ R s=>s.heap.IsList a f/\s.heap.IsList b g/\R (.ok (.ret (.ref (zl4 s.heap a b).objs.size))) {s with heap:=Vc s.heap a b}):=
 .of_wp λprog w A R s h=>by
  let⟨hp,j,d,tk,os⟩:=s;let⟨h1,h2,h⟩:=h;let D:=sub_zip;let j1:Heap.IsList (Shared.heap ⟨hp,j,d,tk,os⟩) a f:=h1;let j2:Heap.IsList (Shared.heap ⟨hp.push {cls:=.type "list_iterator",data:=.fields #[.ref a,.int 0 0]},j,d,tk,os⟩) b g:=kS h2 λo e=>af _ e
  wp_walk using ia j1,ia j2
  show⟨_,rL,h⟩
def aiZ (ha:s.heap.IsList a f)(hb:s.heap.IsList b g)(q:∀h',IsZip h' (s.heap.objs.size+4) (s.heap.objs.size+2) (s.heap.objs.size+3) .none->IsPair h' (s.heap.objs.size+2) (.ref s.heap.objs.size) (.ref (s.heap.objs.size+1))->IsPair h' (s.heap.objs.size+3) .none .none->
   h'.IsListIter s.heap.objs.size a 0->h'.IsListIter (s.heap.objs.size+1) b 0->(∀c o,s.heap.get? c=some o->h'.get? c=some o)->Q (.ref (s.heap.objs.size+4)) {s with heap:=h' }) :
  wpAny (model prog w) A (call (.type "zip") [.ref a,.ref b]) Q E s:=by
 calc callType_new F.called_zip pj (F.typeCall_zip_2 _ _) (F.newCall_zip_2 _ _) (λobj=>F.args_object_init_3 obj _ _) F.entry_zip_new (aeb a b f g) ⟨ha,hb,?_⟩;let n1:(zl1 s.heap a).objs.size=s.heap.objs.size+1:=eQ ..;let D:(zl2 s.heap a b).objs.size=s.heap.objs.size+2:=by rw[eQ,n1]
 let j:(zl3 s.heap a b).objs.size=s.heap.objs.size+3:=by rw[eQ,D]
 let n4:(zl4 s.heap a b).objs.size=s.heap.objs.size+4:=by rw[eQ,j]
 let e5:(Vc s.heap a b).get? (zl4 s.heap a b).objs.size=some _:=a_ _ rfl;let e4:(Vc s.heap a b).get? (zl3 s.heap a b).objs.size=some _:=af _ (a_ _ rL);let e3:(Vc s.heap a b).get? (zl2 s.heap a b).objs.size=some _:=af _ (af _ (a_ _ rL));let e2:(Vc s.heap a b).get? (zl1 s.heap a).objs.size=some _:=af _ (af _ (af _ (a_ _ rL)));let e1:(Vc s.heap a b).get? s.heap.objs.size=some _:=af _ (af _ (af _ (af _ (a_ _ rL))));show _/\_;rw[D,j,n4]at e5;rw[n1,D]at e3;rw[j]at e4;rw[n1]at e2;rw[n4];show⟨⟨_,e5,rL⟩,q _ e5 e3 e4 ⟨_,e1,rL,rL⟩ ⟨_,e2,rL,rL⟩ λc o t=>af _ (af _ (af _ (af _ (af _ t))))⟩
end
def abR (K:W.Frag)(a b:Addr):It:=⟨λi H=>∃xs ys x y,bB K H a xs/\bB K H b ys/\xs[i]?=some x/\ys[i]?=some y,λi H t H'=>∃T x y,H T=none/\t=.ref T/\(∀xs,bB K H a xs->xs[i]?=some x)/\(∀ys,bB K H b ys->ys[i]?=some y)/\H'=upd H T (.tup [x,y]),λi H=>∃xs ys,bB K H a xs/\bB K H b ys/\i<xs.length/\ys.length<=i⟩
def ZW {P:Program}{w:World}{K:W.Frag}{elts:List Expr}{x1:Nat}{pos:Pos}{z ti to u v a b:Addr}(D:ZA z ti to u v a b):Turn P w K (.Tuple elts x1 pos) (abR K a b) [z,ti,to,u,v] z (λi h=>IsZip h z ti to .none/\IsPair h ti (.ref u) (.ref v)/\(∃m n,IsPair h to m n)/\h.IsListIter u a i/\h.IsListIter v b i) where
 mem:=by simp
 obj:=λi h st c j=>by
  obtain⟨h1,h2,⟨m,n,h3⟩,⟨o4,h4,_,d4⟩,⟨o5,h5,_,d5⟩⟩:=st;simp only[bX,km,or_false]at j;rcases j with e|e|e|e|e <;> subst e
  .show⟨_,h1,λv y=>by cases y⟩
  .show⟨_,h2,λv y=>by cases y⟩
  .show⟨_,h3,λv y=>by cases y⟩
  .show⟨o4,h4,λv y=>by rw[d4]at y;cases y⟩
  .show⟨o5,h5,λv y=>by rw[d5]at y;cases y⟩
 keep:=λi h h' st k=>by obtain⟨h1,h2,⟨m,n,h3⟩,h4,h5⟩:=st;show⟨k z pi _ h1,k ti pi _ h2,(JA m n (k to pi _ h3)),h4.at λo e=>k u pi o e,h5.at λo e=>k v pi o e⟩
 item:=by
  intro X hP hw hK j i ak s σ H E I hf st hg;subst hP hw hK;obtain⟨h1,h2,⟨m,n,h3⟩,h4,h5⟩:=st;let⟨xs,ys,x,y,J,G,hx,hy⟩:=hg;let⟨fs,rf,pf,_⟩:=I.list J;let⟨gs,Z,pg,_⟩:=I.list G;let⟨p,ep,rp⟩:=rf.get hx;let⟨q,eq,rq⟩:=Z.get hy;let lt:∀c∈[z,ti,to,u,v],c<s.heap.objs.size:=λc j=>by
   simp only[bX,km,or_false]at j;rcases j with e|e|e|e|e <;> subst e
   .show aE h1
   .show aE h2
   .show aE h3
   .let⟨o,e,_⟩:=h4;show aE e
   .let⟨o,e,_⟩:=h5;show aE e
  let Y:s.TypeIs (.ref z) "zip":=⟨_,h1,rL⟩
  unfold pyNext;calc ae (wpAny_attempt (iE (name:=Str.ofString "__next__") Y mB (gu mB Y F.entry_zip_next ?_ (F.args_zip_next_1 _))));calc ZV D h1 h2 h3 h4 h5 (show s.heap.IsList a fs.toArray from pf.isList) (show s.heap.IsList b gs.toArray from pg.isList) (x:=p) (y:=q) (by simpa using ep) (by simpa using eq) λh' k1 k2 k3 k4 k5 k6=>aw ?_;calc⟨_,rL,wpAny_letOwnedTupleGo_zip k1 λh2' e2 O=>?_⟩;let up:∀c o,c∉[z,ti,to,u,v]->s.heap.get? c=some o->h2'.get? c=some o:=λc o j e=>by simp only[bX,km,or_false,not_or]at j;show O.extBut _ _ j.1 (k6 c o j.1 j.2.2.1 j.2.2.2.1 j.2.2.2.2 e)
  let nz:s.heap.objs.size≠z:=jp (lt z pi);let⟨I3,fr⟩:=aQ.ah3 (tk:=s.toks) I hf lt rp rq (O.extBut _ _ nz k5) up;show JA (.ref s.heap.objs.size) _ ⟨I3,rL,(JE s.heap.objs.size x y ⟨I.hok.fresh (ai _),rL,λzs hz=>by rw[I.Gk hz J];show hx,λzs hz=>by rw[I.Gk hz G];show hy,rL⟩),
   ⟨e2,O.extBut _ _ D.q1 (k6 _ _ D.q1 D.q5 D.q6 D.q7 h2),(JA _ _ (O.extBut _ _ D.q2 k2)),k3.at λo e=>O.extBut _ o D.q3 e,k4.at λo e=>O.extBut _ o D.q4 e⟩,fr⟩
 done:=by
  intro X hP hw hK j i ak s σ H E I hf st hg;subst hP hw hK;obtain⟨h1,h2,⟨m,n,h3⟩,h4,h5⟩:=st;let⟨xs,ys,J,G,hx,hl⟩:=hg;let⟨fs,rf,pf,_⟩:=I.list J;let⟨gs,Z,pg,_⟩:=I.list G;let cW:=Z.length;let⟨p,ep,rp⟩:=rf.get (ac hx);let hh:X.A.in1.handled=none:=by simp[I.ok.hd j]
  let Y:s.TypeIs (.ref z) "zip":=⟨_,h1,rL⟩
  unfold pyNext;calc ae (wpAny_attempt (iE (name:=Str.ofString "__next__") Y mB (gu mB Y F.entry_zip_next ?_ (F.args_zip_next_1 _))));calc abQ hh D h1 h2 h3 h4 h5 (show s.heap.IsList a fs.toArray from pf.isList) (show s.heap.IsList b gs.toArray from pg.isList) (x:=p) (by simpa using ep) (by simp;simp_all) λh' e k zz=>?_;let⟨o,e1,e2⟩:=zz;calc ae (wpAny_isInstance (T:="StopIteration") (b:=true) ⟨o,e1,e2⟩ isSubtype_stop ?_);calc aw ⟨rL,aQ.Ka (fp:=[z,ti,to,u,v]) (t':=s.toks) I (λc o j e=>?_) hf⟩;simp only[bX,km,or_false,not_or]at j;show k c o j.1 j.2.2.1 j.2.2.2.1 j.2.2.2.2 e
 self:=λA i s Q E st h=>wpAny_pyIter_zip st.1 h
section
variable {X:Cx}{elts:List Expr}{x1:Nat}{tp:Pos}
def ah8 (K:W.Frag)(ta:TA):TI:=λσ H R=>ta σ H λvs H1=>∃a b,vs=[.ref a,.ref b]/\(∃xs,bB K H1 a xs)/\(∃ys,bB K H1 b ys)/\R (abR K a b) H1
def aec {a b:Expr}{ta:TA}{p pos:Pos}(hg:Gl X "zip")(hm:X.mg "zip"=none)(ha:QA X [a,b] ta)(hs:starEach [a,b] X.env=[(false,eval a X.env),(false,eval b X.env)]:=by rfl)(J:starEach [b] X.env=[(false,eval b X.env)]:=by rfl):QI X (.Tuple elts x1 tp) (.Call (.Name "zip" p) [a,b] [] pos) (ah8 X.K ta):=⟨by
 intro ak s σ H R I h;calc Call_ (qG I hg hm ZM (ee (cg (ha.out pos ak s σ H _ I h) λus s1 zz=>?_) (by rw[hs,J]) (by rw[J];rfl)));let⟨vs,H1,F,r1,q1⟩:=zz;obtain⟨a,b,e,⟨xs,Z⟩,⟨ys,O⟩,q⟩:=q1;subst e;cases r1 with
 | cons r rr=>
  cases rr with
  | cons r' rr=>
   cases rr;cases r;cases r';let⟨fs,rf,pf,_⟩:=F.list Z;let⟨gs,rg,pg,_⟩:=F.list O;let la:a<s1.heap.objs.size:=by
    let⟨o,Y,_⟩:=(show s1.heap.IsList a fs.toArray from pf.isList)
    show aE Y
   let lb:b<s1.heap.objs.size:=by
    let⟨o,Y,_⟩:=(show s1.heap.IsList b gs.toArray from pg.isList)
    show aE Y
   calc aiZ (show s1.heap.IsList a fs.toArray from pf.isList) (show s1.heap.IsList b gs.toArray from pg.isList) λh' k1 k2 k3 k4 k5 kk=>wpAny_pyIter_zip k1 ?_;let D:ZA (s1.heap.objs.size+4) (s1.heap.objs.size+2) (s1.heap.objs.size+3) s1.heap.objs.size (s1.heap.objs.size+1) a b:=by
    let j:∀N a b:Nat,a<N->b<N->ZA (N+4) (N+2) (N+3) N (N+1) a b:=λN a b la lb=>by constructor <;> (show (_:Nat)≠_) <;> lia
    show j _ _ _ la lb
   calc JJ (s1.heap.objs.size+4) [s1.heap.objs.size+4,s1.heap.objs.size+2,s1.heap.objs.size+3,s1.heap.objs.size,s1.heap.objs.size+1] _ _ H1 ⟨rL,F.kept (t':=s1.toks) kk,ZW D,⟨k1,k2,(JA _ _ k3),k4,k5⟩,λc hc=>?_,q⟩;let G:s1.heap.objs.size<=c:=by
    simp only[bX,km,or_false]at hc;let j:∀N c:Nat,(c=N+4\/c=N+2\/c=N+3\/c=N\/c=N+1)->N<=c:=λN c h=>by lia
    show j _ _ hc
   show F.xX G (F.hok.fresh G)⟩
end
def agx {K KT:W.Frag}{a b D:Addr}{xs ys:List V}{f:St->St}{tt:TT}{te:TE}{σ:St}{H:Hp}{R:Hp->Prop}(G:xs.length=ys.length+1)(j:Nat->List V->Hp->Prop)(h0:j 0 [] (upd H D (.lst [])))(hl:∀i zs H,i<=ys.length->j i zs H->bB K H a xs/\bB K H b ys)(hs:∀i x y zs H T,xs[i]?=some x->ys[i]?=some y->j i zs H->H T=none->Oz ys.length i D (λv H Q=>∃a p q,v=.ref a/\aO KT H a [p,q]/\Q [some p,some q]) f σ tt te (.ref T) (upd H T (.tup [x,y])) zs (j (i+1)))(hd:∀zs H,j ys.length zs H->R H):BZ (abR K a b) D H R (Zu (λv H Q=>∃a p q,v=.ref a/\aO KT H a [p,q]/\Q [some p,some q]) f σ tt te):=
 aby ys.length j h0 (λi zs H h p=>by let⟨q1,q2⟩:=hl i zs H (ap h) p;show⟨(JI xs ys (xs[i]) (ys[i]) ⟨q1,q2,by simp[show i<xs.length by lia],by simp[h]⟩),λt H' y=>by let⟨T,x,y,F,rfl,hx,hy,rfl⟩:=y;show hs i x y zs H T (hx xs q1) (hy ys q2) p F⟩) λzs H p=>⟨(JA xs ys ⟨(hl _ zs H (ai _) p).1,(hl _ zs H (ai _) p).2,o6,ai _⟩),hd zs H p⟩
section
variable {prog:Program}{w:World}{A:Around}{E:AD}{s:Shared}
variable {X:Cx}
def aed {a b:Addr}{D ob:Obj}{na nb:Nat}{x1 j:Nat}{O J G I:Tok}{Q:AD}(ha:s.heap.get? a=some D)(ca:D.cls=.type "tuple")(da:D.data=.seq [Value.int x1 O,Value.int j J].toArray na)(hb:s.heap.get? b=some ob)(cb:ob.cls=.type "tuple")(db:ob.data=.seq [Value.int x1 G,Value.int j I].toArray nb)(hu:A.units<cLine)(q:Q (.bool false) s):wpAny (model prog w) A (compareOp .Lt (.ref a) (.ref b)) Q E s:=by
 let Z:s.TypeIs (.ref a) "tuple":=⟨D,ha,ca⟩
 let Y:s.TypeIs (.ref b) "tuple":=⟨ob,hb,cb⟩
 show wpAny _ _ (richCompare .Lt (.ref a) (.ref b)) Q E s;calc wpAny_richCompare_same_room (op:=.Lt) (T:="tuple") Z Y mx (gu mx Z F.entry_tuple_lt ?_ (F.args_tuple_lt_2 _ _)) hu;show wpAny _ _ (isInstance (.ref b) (.type "tuple") >>= _) _ _ s;calc ae (wpAny_isInstance Y isSubtype_tuple_tuple ?_);simp only[lS,fw,if_false];calc ae (kM ha da (ae (kM hb db (ae ?_))));rw[show [Value.int (x1:Int) O,Value.int (j:Int) J].toArray.toList.zip [Value.int (x1:Int) G,Value.int (j:Int) I].toArray.toList=[(Value.int (x1:Int) O,Value.int (x1:Int) G),(Value.int (j:Int) J,Value.int (j:Int) I)] from rfl];rw[gc];calc ae ?_;dsimp only;calc ae (iO _ _ _ _ prog w _ _ ?_);simp only[beq_self_eq_true,lS,fw,if_false];calc aw ?_;dsimp only;rw[gc];calc ae ?_;dsimp only;calc ae (iO _ _ _ _ prog w _ _ ?_);simp only[beq_self_eq_true,lS,fw,if_false];calc aw ?_;dsimp only;rw[oS];calc aw ?_;dsimp only;show aw ⟨_,rL,by show Builtin.Tuple.tupleCompareSizes CmpOp.Lt 2 2≠_;decide,q⟩
def ai0:R2:=λx y H Q=>∃(a b:Addr) (x1 j F D:Nat),x=.ref a/\y=.ref b/\H a=some (.tup [.int x1,.int j])/\H b=some (.tup [.int F,.int D])/\j<1000/\D<1000/\
 Q (.bl (decide (x1*1000+j<F*1000+D))) H
def agy (hu:X.A.units<cLine):fW X (compareOp .Lt) ai0:=by
 intro ak s σ H x y v u Q I rx ry h;let⟨a,b,x1,F,Y,Z,rfl,rfl,ea,eb,l1,l2,q⟩:=h;by_cases O:x1*1000+F=Y*1000+Z
 .let e1:x1=Y:=o6;let e2:F=Z:=by simp_all
  subst e1 e2;rw[ah (fg _)]at q;cases rx;cases ry;let⟨_,tv,D,o,ho,hc,n,hd⟩:=I.hok _ _ ea;let⟨_,tv',abI,o',G,J,n',j⟩:=I.hok _ _ eb;cases D with
  | cons q1 rr=>
   cases rr with
   | cons q2 rr=>
    cases rr;cases abI with
    | cons q3 rr'=>
     cases rr' with| cons q4 rr'=>cases rr';let⟨t1,rfl⟩:=q1;let⟨t2,rfl⟩:=q2;let⟨t3,rfl⟩:=q3;let⟨t4,rfl⟩:=q4;show aed ho hc hd G J j hu (JA (.bl _) H ⟨I,rL,q⟩)
 .show agr hu ak s σ H _ _ _ _ Q I rx ry (JS a b x1 F Y Z [] [] ⟨rL,rL,ea,eb,l1,l2,O,q⟩)
open Classical in
def ah9 (K:W.Frag)(j:Bool):R2:=λx y H Q=>∃n d es,n<=60/\iM K H n d x/\iM K H n (.lst es) y/\Q (.bl (if j then !decide (d∈es) else decide (d∈es))) H
def Ve (O:X.A.units+64<cLine):fW X (compareOp .In) (ah9 X.K false):=by intro ak s σ H x y v u Q I J F h;let⟨n,d,es,hn,hd,j,q⟩:=h;let⟨as,G⟩:=hd.reads I J;let⟨bs,D⟩:=j.reads I F;let l1:=hd.lay;let l2:=j.lay;rw[toP]at D;simp only[toP,PyData.canLay0,PyData.depth]at l2;calc SeqAt.in_list_reads D G l2.1 l1.1 (by have:=Nat.min_le_right (PyData.depthAll (mJ es)) (toP d).depth;lia) (JA (.bl _) H ⟨I,rL,?_⟩);rw[U8];show q
end
def aee {name:Str}{apos cpos:Pos}{T id:String}(K:W.Frag)(G:PlainAttrs T)(slot:Slot T name id)(F:typeOf (.builtin id)=pure (.type "method_descriptor"))(hm:wO X id r)(I:QE X o to)(D:attributeBase o name X.env (eval o X.env)=eval o X.env:=by rfl)(j:(apos.endLine==cpos.line)=true:=by rfl)(h:X.K=K:=by rfl):QE X (.Call (.Attribute o name apos) [] [] cpos) (abp K T r to):=by subst h;show qJ G slot F hm I D j
section
variable {X:Cx}{o e f:Expr}{apos cpos:Pos}{td ty tx:TE}
def abS (G:X.A.units+1<cLine)(D:QE X o td)(j:QE X e ty)(F:QE X f tx)(m:M2 X o "get" apos e f cpos):QE X (.Call (.Attribute o "get" apos) [e,f] [] cpos) (Zo td ty tx):=⟨abw G D.out j.out F.out m⟩
structure KDict (P:Program)(w:World)(K:W.Frag)(a:Addr)(kvs:List (Key×V)):Prop where
 z:(a==sysModules)=false
 ex:∃o vs,K.lookup a=some o/\KV kvs vs/\o.IsDictOf (gG P w) vs
def agz (P:Program)(w:World)(K:W.Frag)(td ty tx:TE):TE:=λσ H Q=>td σ H λx H1=>∃a kvs,x=.ref a/\KDict P w K a kvs/\ty σ H1 λy j=>tx σ j λz D=>∃k,y=kV k/\Q ((fK kvs k).getD z) D
def Qi (ho:QE X o td)(he:QE X e ty)(hf:QE X f tx)(m:M2 X o "get" apos e f cpos):QE X (.Call (.Attribute o "get" apos) [e,f] [] cpos) (agz X.prog X.w X.K td ty tx):=⟨by
 intro ak s σ H Q I h;calc wpAny_Call_method m.base m.few m.line PySem.F.plainAttrs_dict g9 PySem.F.type_dict_get (cg (ho.out ak s σ H _ I h) λu s1 O=>?_);let⟨x,H1,j,rx,a,kvs,ex,d,q1⟩:=O;subst ex;obtain rfl:u=Value.ref a:=rx;let⟨ob,vs,hk,F,hd⟩:=d.ex;let dd:∀{s':Shared} {σ':St} {H':Hp},aQ X ak σ' H' s'->s'.heap.DictOf (gG X.prog X.w) a vs:=λJ=>Heap.dictOf_iff.mpr ⟨ob,J.iY a ob hk,hd⟩;refine⟨(dd j).typeIs,λb q=>?_,?_⟩
 .cases q;let⟨ob,_,_,h1,h2,_⟩:=dd j;show⟨ob,h1,h2.2.1⟩
 rw[m.trees];refine gI rL (ii (fb (cg (he.out ak s1 σ H1 _ j q1) λiv s2 ⟨y,H2,I2,Z,q2⟩=>fb (cg (hf.out ak s2 σ H2 _ I2 q2) λfv s3 ⟨z,Y,D,rz,k,G,q3⟩=>ib ?_))))
 subst G;calc call_meetsIn g9 (dd D).typeIs lv (kX _ _ _) (meets_dict_get_default (gG X.prog X.w) a (Ik Z) d.z fv) ⟨_,(dd D).mapOf,?_⟩;show(JA _ Y ⟨D.tok _,(F.val k).getD rz,q3⟩)⟩
def agA:List V->Hp->VK->Prop:=λxs H Q=>∃(d:Addr) (kvs:List (Key×V)),xs=[.ref d]/\H d=some (.dK kvs)/\∀p:Addr,H p=none->Q (.ref p) (upd H p (.dK kvs))
def Xk:iJ X (.type "dict") agA:=by
 intro ak s σ H xs us Q I r h;let⟨d,kvs,rfl,hd,q⟩:=h;let⟨u,rfl,F⟩:=vals1 r;cases F;let⟨hz,lo,vs,j,dd⟩:=W9 I.hok hd;calc kt_call_dict lo dd (by rw[<-j.length];show hz) λh' D hs=>?_;let lt:sysModules<s.heap.objs.size:=I.big;refine JA (.ref s.heap.objs.size) _ ⟨I.laid (o:=.dK kvs) (t':=s.toks) (λb u e=>?_) (ai _) ⟨hz,?_,vs,j,D⟩,rL,q _ (I.hok.fresh (ai _))⟩
 .show hs.extBut b u (cq (aE e)) (af _ e)
 .show beq_eq_false_iff_ne.mpr (jp lt)
end
def ZX {l:List Nat}{g:TG}{tb:TS}{D:Ends}{σ:St}{H:Hp}(j:Nat->St->Hp->Prop)(h0:j 0 σ H)(hs:∀i c σ H T,l[i]?=some c->j i σ H->H T=none->g (.ref T) σ (upd H T (.tup [.int i,.str (S [c])])) λσ2 G=>tb {D with nx:=j (i+1),ct:=j (i+1),bk:=D.nx} σ2 G)(hd:∀σ H,j l.length σ H->D.nx σ H):J3 (Qe l) g tb D σ H:=WM l.length j h0 (λi σ H h p=>⟨h,λx H' y=>by let⟨T,c,F,rfl,I,rfl⟩:=y;show hs i c σ _ T I p F⟩) λσ H p=>⟨ai _,hd σ H p⟩
end L2
namespace PySem.F
end PySem.F
namespace L2
open PySem PySem.Spec PyProof.Rows PySem.W
section
variable {X:Cx}
def abT (a:List Int)(x:Int):(a++[x]).sum=a.sum+x:=by
 induction a with| nil=>simp| cons y r ih=>rw[ow,nI,nI,ih];lia
theorem zQ (ns:List Int):∀k,k<=ns.length->preSum (λi=>ns.getD i 0) k=(ns.take k).sum
 | 0,_=>by simp[preSum]
 | k+1,h=>by
  show preSum (λi=>ns.getD i 0) k+ns.getD k 0=_;let e:ns.take (k+1)=ns.take k++[ns[k]]:=by rw[cz,ac h];rfl
  rw[zQ ns k (ap h),e,abT];simp[List.getD,show k<ns.length by lia]
def agB (ns:List Int)(b:Int)(hb:0<=b)(h:∀x∈ns,-b<=x/\x<=b):-(b*ns.length)<=ns.sum/\ns.sum<=b*ns.length:=by
 induction ns with
 | nil=>simp
 | cons a r ih=>
  let h1:=h a cf;let h2:=ih λx hx=>h x (bE _ hx);rw[nI,dA];let e:b*((r.length+1:Nat):Int)=b*r.length+b:=by rw[Int.natCast_add,Int.mul_add];simp
  rw[e];lia
def ah_ (K:W.Frag):List V->Hp->VK->Prop:=λxs H Q=>∃(p:Addr) (ns:List Int),xs=[.ref p]/\bB K H p (ns.map V.int)/\ns.length<=1000/\(∀x∈ns,-1000000000000000<=x/\x<=1000000000000000)/\Q (.int ns.sum) H
def Z1 (hc:X.calm=true):iJ X (.builtin "sum") (ah_ X.K):=by
 intro ak s σ H xs us Q I r h;let⟨p,ns,rfl,hq,hn,hb,q⟩:=h;let⟨u,rfl,G⟩:=vals1 r;cases G;let⟨its,Y,pl,hz⟩:=I.list hq;let Z:=Y.length;rw[aa]at Z;let J:p≠s.heap.objs.size:=by let⟨o,O,_⟩:=pl.isList;show cq (aE O)
 let F:∀(i:Nat) (v:Value),its.toArray[i]?=some v->∃t,v=.int (ns.getD i 0) t:=λi v F=>by
  let F:its[i]?=some v:=by simpa using F
  let hi:i<ns.length:=by have:=(ag.mp F).1;simp_all
  let⟨u,hu,G⟩:=Y.get (i:=i) (x:=.int ns[i]) (by simp[hi]);rw[F]at hu;cases hu;let⟨t,e⟩:=G;show⟨t,by rw[e];simp[List.getD,hi]⟩
 let hsz:its.toArray.size=ns.length:=by simp[Z]
 calc call_sum_walk (ia pl.isList ?_);refine JP s.heap.objs.size _ _ _ _ _ _ ⟨rL,Walks.list (A:=X.A.in1) (I.ok.hd hc) s.heap.objs.size p J its.toArray,⟨⟨_,a_ _ rL,rL,rL⟩,pl.isList.at λo e=>af _ e⟩,?_,F,λj hj=>?_,λh' tk t' kk=>?_⟩
 .intro b hb;have:b=s.heap.objs.size\/b=p:=by simpa using hb
  rw[eQ];rcases this with e|e;.rw[e];show gr _
  .rw[e];let⟨o,O,_⟩:=pl.isList;show lh (aE O)
 .let D:j<ns.length:=by simp_all
  let h1:=hb _ (aI D);let e1:ns.getD j 0=ns[j]:=by simp[List.getD,D]
  let h2:=agB (ns.take (j+1)) 1000000000000000 pj λx hx=>hb x (cE hx);let hl:(ns.take (j+1)).length<=1000:=by rw[am];lia
  rw[zQ ns (j+1) D,e1];unfold InLong;lia
 .let I1:aQ X ak σ H {s with heap:=h',toks:=tk}:=I.kept λb o e=>kk b o (by
   intro hm;have:b=s.heap.objs.size:=by simpa using hm
   subst this;show absurd (aE e) (fg _)) (af _ e)
  rw[hsz,zQ ns ns.length (ai _),ce];show JA (.int _) H ⟨I1,⟨t',rL⟩,q⟩
def yd.rd {kvs:List (Key×V)}{k:Key}(e:Rd H a (.dK kvs)):yd H a (kV k) (fK kvs k):=.inl (JA kvs k ⟨e,rL,rL⟩)
def Rd.mv (k:aB H H')(r:Rd H a u):Rd H' a u:=by
 rcases r with r|⟨o,r⟩;.show .inl (k _ _ r)
 .show .inr ⟨o,k _ _ r⟩
end
end L2
namespace L2
open PySem PySem.Spec PyProof.Rows
section
variable {X:Cx}{ak:AE}{σ:St}{H:Hp}{s:Shared}
def agC (X:Cx)(s:Shared)(x:Str)(u:Value):Prop:=∃m,s.heap.Ns X.env.locals m/\Look X.env s.heap m x u
def abU {E:AD}{x:Str}{u:Value}{pos:Pos}{Q:AD}(I:aQ X ak σ H s)(h:agC X s x u)(q:Q u s)(hd:(x==("__debug__":Str))=false:=by decide)(F:(x==("__classdict__":Str))=false:=by decide):wpAny (model X.prog X.w) X.A (eval (.Name x pos) X.env) Q E s:=by
 let⟨m,hn,l⟩:=h;rcases l with⟨D,hm⟩|⟨D,c,G,j⟩;.show mi (wpAny_loadName_local I.ok.kind D hn hm q) hd
 .rcases D with D|D;.show mi (wpAny_loadName_cell I.ok.kind D G j q) hd
  .show mi (wpAny_loadName_free I.ok.kind D G j q F) hd
end
end L2
namespace L2
open PySem PySem.Spec PyProof.Rows PySem.Builtin PySem.Builtin.Str
def Kd (x y z:Str)(t u v:Tok)(h0:(u==0||v==0)=false)(D:(y==z)=false)(hl:tooLong (x.length+(occurrences x y 0 x.length (x.length+1)).length*z.length)=false):Gives («str.replace» ⟨[.str x t,.str y u,.str z v],[]⟩) (if (((occurrences x y 0 x.length (x.length+1)).isEmpty||(y.length==0&&z.length==0))||u==v)=true then .val (.str x t) else .str (glued z (partsBetween x (occurrences x y 0 x.length (x.length+1)) y.length))):=by
 show Gives (if ((occurrences x y 0 x.length (x.length+1)).isEmpty||(y.length==0&&z.length==0))=true then (rule "str.replace.nothing" >>= λ_=>ret (.str x t)) else
     (isSame (.str y u) (.str z v) >>= λsame=>if same=true then (rule "str.replace.old-is-new" >>= λ_=>ret (.str x t)) else if tooLong (x.length+(occurrences x y 0 x.length (x.length+1)).length*z.length)=true then unsupported "str.replace:memory" else retStr (glued z (partsBetween x (occurrences x y 0 x.length (x.length+1)) y.length)))) _
 cases F:((occurrences x y 0 x.length (x.length+1)).isEmpty||(y.length==0&&z.length==0))
 .cases j:(u==v)
  .rw[isSame_str_other y z u v h0 j D,hl];show .of_eq rfl
  .let e:isSame (.str y u) (.str z v)=pure true:=by
    show isSame.created (y==z) u v=_;unfold isSame.created;rw[h0,j];rfl
   rw[e];show .rule (.of_eq rL)
 .show .rule (.of_eq rL)
def ou (c:Nat):Nat:=if 65<=c/\c<=90 then 63 else c
theorem Vf:∀j:List Str,(Str.join ⟨#[65]⟩ j).cps.toList.map ou=(Str.join ⟨#[63]⟩ j).cps.toList.map ou
 | []=>rfl
 | [a]=>rfl
 | a::b::r=>by let D:=Vf (b::r);show ((a++⟨#[65]⟩++Str.join ⟨#[65]⟩ (b::r)).cps.toList).map ou=((a++⟨#[63]⟩++Str.join ⟨#[63]⟩ (b::r)).cps.toList).map ou;simp only[Str.cps_append,Array.toList_append,bv,D];rfl
def aef (l:List Nat)(n:Nat):((glued (S [65]) (partsBetween (S l) (occurrences (S l) (S [63]) 0 (S l).length n) (S [63]).length)).cps.toList).map ou=l.map ou:=by let e:=StrLaws.glued_between_self (S l) (S [63]) n;rw[StrLaws.glued_eq_join]at e ⊢;have:=Vf (partsBetween (S l) (occurrences (S l) (S [63]) 0 (S l).length n) (S [63]).length);rw[show (⟨#[65]⟩:Str)=S [65] from rL,show (⟨#[63]⟩:Str)=S [63] from rL,e]at this;show this
section
variable {X:Cx}
def Z2 (X:Cx)(e:Expr)(t:TE):Prop:=∀(ak:AE) (s:Shared) (σ:St) (H:Hp) (Q:VK),aQ X ak σ H s->t σ H Q->wpAny (model X.prog X.w) X.A (eval e X.env) (λu s'=>EP X ak σ Q u s'/\0<s'.toks) X.xe s
def aeg {e:Expr}{ta:TE}{f:Str}{pos:Pos}(J:PE X e ta)(hb:attributeBase e f X.env (eval e X.env)=eval e X.env):Z2 X (.Attribute e f pos) (WY X.K ta f):=by intro ak s σ H Q I h;calc Ux hb (cg (J ak s σ H _ I h) λu s1 F=>?_);let⟨x,H1,j,Z,a,C,dx,fs,v,ex,G,c,n,l,q⟩:=F;subst ex;obtain rfl:u=Value.ref a:=Z;let⟨mA,O,r,_,_,_⟩:=yN j.hok G;let⟨u,Y,D⟩:=mC.some_of (v:=v) (o:=mA f) (by rw[<-l];show r f);show get_map j.iY O (c.get f) c.hd n Y (Ma D) ⟨(JA v H1 ⟨j.tok _,D,q⟩),Nat.succ_pos _⟩
def agD {a b:Expr}{ta tb:TE}{pos:Pos}{r:R2}(F:FJ X r)(ha:Z2 X a ta)(hb:PE X b tb)(hs:Em b):Z2 X (.Subscript a b pos) (Fy r ta tb):=by intro ak s σ H Q I h;calc Subscript_ (cg (ha ak s σ H _ I h) λv s1 z=>?_);obtain⟨⟨x,H1,D,r1,q1⟩,Y⟩:=z;calc Pa (eh (hb ak s1 σ H1 _ D q1) (λu s2 z ht=>?_) λ_ _ z _=>z);let⟨y,G,J,O,q2⟩:=z;show Pa (eh (F a b ak s2 σ G x y v u Q J r1 O q2 (hs _ _)) (λw Z z j=>⟨z,cS Y (bP ht j)⟩) λ_ _ z _=>z)
def agE (ix:Nat):TE:=λσ H Q=>∃l:List Nat,σ[ix]?=some (some (.str (S l)))/\l.length<=63/\∀j:List Nat,j.map ou=l.map ou->Q (.str (S j)) H
def agF {e1:Expr}{t1:TE}{x g:Str}{ix:Nat}{px pg apos cpos G:Pos}{j:Nat}{z:Str}(h1:Z2 X e1 t1)(hN:X.N[ix]?=some x)(hv:Us X.env.scope x)(hg:Gl X g)(hm:∃t,t≠0/\X.mg g=some (.str (S [63]) t))(hz:z=S [65])(hst:starEach [e1,.Call (.Attribute (.Name x px) "replace" apos) [.Name g pg,.Constant (.str z) j G] [] cpos] X.env=[(false,eval e1 X.env),(false,eval (.Call (.Attribute (.Name x px) "replace" apos) [.Name g pg,.Constant (.str z) j G] [] cpos) X.env)])(J:((backTo cpos (starEach [.Name g pg,.Constant (.str z) j G] X.env)).all (λx=>!x.1)&&(backToKw cpos (keywordEach [] X.env)).all (λx=>x.1.isSome)&&decide ([Expr.Name g pg,.Constant (.str z) j G].length+([]:List Keyword).length+(if ([]:List Keyword).isEmpty then 0 else 1)<30))=true)(D:(apos.endLine==cpos.line)=true)(hd:(x==("__debug__":Str))=false)(hcd:(x==("__classdict__":Str))=false)(hgd:(g==("__debug__":Str))=false):PA X [e1,.Call (.Attribute (.Name x px) "replace" apos) [.Name g pg,.Constant (.str z) j G] [] cpos] (uU t1 (uU (agE ix) zK)):=by
 subst hz;let⟨tB,hB,hm⟩:=hm;intro pos ak s σ H Q I h;rw[hst];show wpAny _ _ (spliced ((false,eval e1 X.env)::(false,eval _ X.env)::[])) _ _ s;calc fb (cg (h1 ak s σ H _ I h) λu s1 y=>?_);obtain⟨⟨x1,H1,Z,r1,l,hl,h63,q⟩,tk⟩:=y;let⟨m,hn,hlm⟩:=id Z.loc;obtain⟨ur,⟨tr,er⟩,lr⟩:=hlm ix x _ hN hl hv;subst er;let exr:agC X s1 x (.str (S l) tr):=⟨m,hn,lr⟩
 calc fb (wpAny_Call_method_late rL J D rL (abU Z exr ?_ hd hcd));calc JA ("str") ("str.replace") ⟨bq,PySem.F.slot_str_replace,PySem.F.type_str_replace,typeIs_str s1 _ tr,λ_ e=>(nomatch e),?_⟩;calc gI rL (ii ?_);show wpAny _ _ (spliced ((false,eval (.Name g pg) X.env)::(false,eval (.Constant (.str (S [65])) j G) X.env)::[])) _ _ _;calc fb (oN Z hg hm (fb (Calls.Constant_str (ib ?_))) hgd);let cW:=StrLaws.occ_length_le (S l) (S [63]) 0 (S l).length ((S l).length+1);let hsl:(S l).length=l.length:=qI l;let Ii:tooLong ((S l).length+(occurrences (S l) (S [63]) 0 (S l).length ((S l).length+1)).length*(S [65]).length)=false:=by unfold tooLong sizeLine;rw[show (S [65]).length=1 from rfl];show ah o6
 refine call_gives F.slot_str_replace (typeIs_str _ _ tr) F.entry_str_replace (F.args_str_replace_3 _ _ _) (Kd (S l) (S [63]) (S [65]) tr tB s1.toks ?_ rL Ii) ?_
 .have:s1.toks≠0:=jp tk;simp[*]
 let O:∀(Y:List Nat) (t':Tok) (k:Nat),Y.map ou=l.map ou->AP X ak σ Q [u,.str (S Y) t'] {s1 with toks:=k}:=λY t' k e=>(JA [x1,.str (S Y)] H1 ⟨Z.tok _,.cons r1 (.cons ⟨_,rL⟩ .nil),q Y e⟩)
 split;.show ib (O l _ _ rL)
 .calc⟨?_,ib ?_⟩;.show fits_replaced (S [63]) (by rw[hsl,show (S [65]).length=1 from rfl];lia)
  .show O _ _ _ (aef l _)
end
structure QEt (X:Cx)(e:Expr)(t:TE):Prop where
 out:Z2 X e t
end L2
namespace L2
open PySem PySem.Spec PyProof.Rows
section
variable {X:Cx}
def aeh {e:Expr}{ta:TE}{f:Str}{pos:Pos}(j:QE X e ta)(hb:attributeBase e f X.env (eval e X.env)=eval e X.env):QEt X (.Attribute e f pos) (WY X.K ta f):=⟨aeg j.out hb⟩
def agG {a b:Expr}{ta tb:TE}{pos:Pos}{r:R2}(j:FJ X r)(ha:QEt X a ta)(hb:QE X b tb)(hs:Em b):QEt X (.Subscript a b pos) (Fy r ta tb):=⟨agD j ha.out hb.out hs⟩
def agH {e1:Expr}{Z:TE}{x g:Str}(ix:Nat){I pg apos cpos G:Pos}{j:Nat}{z:Str}(h1:QEt X e1 Z)(hm:∃t,t≠0/\X.mg g=some (.str (S [63]) t))(hN:X.N[ix]?=some x)(hv:Us X.env.scope x)(hg:Gl X g)(hz:z=S [65])(Y:starEach [e1,.Call (.Attribute (.Name x I) "replace" apos) [.Name g pg,.Constant (.str z) j G] [] cpos] X.env=[(false,eval e1 X.env),(false,eval (.Call (.Attribute (.Name x I) "replace" apos) [.Name g pg,.Constant (.str z) j G] [] cpos) X.env)])(F:((backTo cpos (starEach [.Name g pg,.Constant (.str z) j G] X.env)).all (λx=>!x.1)&&(backToKw cpos (keywordEach [] X.env)).all (λx=>x.1.isSome)&&decide ([Expr.Name g pg,.Constant (.str z) j G].length+([]:List Keyword).length+(if ([]:List Keyword).isEmpty then 0 else 1)<30))=true)(D:(apos.endLine==cpos.line)=true)(hd:(x==("__debug__":Str))=false:=by decide)(J:(x==("__classdict__":Str))=false:=by decide)(O:(g==("__debug__":Str))=false:=by decide):QA X [e1,.Call (.Attribute (.Name x I) "replace" apos) [.Name g pg,.Constant (.str z) j G] [] cpos] (uU Z (uU (agE ix) zK)):=⟨agF h1.out hN hv hg hm hz Y F D hd J O⟩
end
end L2
namespace L2
open PySem PySem.Spec PyProof.Rows PySem.W
def Xl (l)(j:Array Value)(n)(dd)(sl)(u:Tok)(h0:¬j.isEmpty=true):Meets (Builtin.«tuple.__mul__» ⟨[.ref l,.int 1 u],[]⟩) (λ_ R s=>s.heap.get? l=some {cls:=.type "tuple",dict:=dd,data:=.seq j n,slots:=sl}/\R (.ok (.ret (.ref l))) s):=
 .of_wp λprog w A R s h=>by
  let⟨hp,g,d,tk,os⟩:=s;let⟨hl,h⟩:=h;let f1:=AutoSeq1.idx_int;let f2:=AutoSeq1.sub_tuple_tuple
  wp_walk using iS hl
  show⟨_,rL,h⟩
section
variable {X:Cx}
def aia (K:W.Frag):R2:=λx y H Q=>∃a xs,∃n:Nat,x=.ref a/\y=.int n/\H a=some (.tup xs)/\xs≠[]/\1<=n/\n<=100/\xs.length<=100/\∀p H',aB H H'->H' p=some (.tup (List.replicate n xs).flatten)->Q (.ref p) H'
def Vg:fW X (binaryOp .Mult) (aia X.K):=by
 intro ak s σ H x y v u Q I G F h;let⟨a,xs,n,rfl,rfl,ha,hx,n1,D,O,q⟩:=h;by_cases h2:2<=n;.show ad9 ak s σ H _ _ v u Q I G F (JE a xs n ⟨rL,rL,aO.of ha,hx,h2,D,O,λp hp=>q p _ (aB.upd hp) aq⟩)
 .let e:n=1:=o6;subst e;cases G;let⟨tk,rfl⟩:=F;let⟨its,r1,p1,_⟩:=I.tuple (aO.of ha);obtain⟨⟨cls,dd,data,sl⟩,j,J,m,hd⟩:=id p1;simp only at J hd;subst J hd;let h0:¬its.toArray.isEmpty=true:=λz=>hx (r1.yO.mp (by simpa using z));refine kG (T:="tuple") (U:="int") pj ⟨_,j,rL⟩ (λs'=>typeIs_int s' _ _) vV PySem.F.fills_int_mul jI Ci PySem.F.slot_int_index.lookup
   (call_meets jI (typeIs_int s _ _) PySem.F.entry_int_rmul (PySem.F.args_int_rmul_2 _ _) (I_ _ _ a its.toArray m dd sl) ⟨j,rL,⟨_,j,rL⟩,?_⟩)
  calc call_meets jb ⟨_,j,rL⟩ PySem.F.entry_tuple_mul (PySem.F.args_tuple_mul_2 _ _) (Xl a its.toArray m dd sl _ h0) ⟨j,?_⟩;show JA (.ref a) H ⟨I,rL,q a H (aB.refl _) (by simpa using ha)⟩
end
def aib (K:W.Frag)(C:Addr)(tb:XK->St->TS)(th:TS):TS:=λD σ H=>∃E:XK,tb E σ D σ H/\∀(a:Addr) (cls:Value) (dd:Option Addr) (H':Hp),E cls dd H'->H' a=none->
 exmOne K cls (.ref C)=some true/\th D σ (upd H' a (.ext (agw a cls dd)))
section
variable {X:Cx}{C:Addr}{x:Str}{np hpos pos:Pos}{body suite:List Stmt}{b0:Stmt}{tb:XK->St->TS}{th:TS}
def aei (j:X.stack=X.env::X.outer)(hf:X.env.frame=some X.env.locals)(hg:Gl X x)(hm:X.mg x=some (.ref C))(hb:∀(pn:AE) (xe:AD) (E:XK) (σ0:St),PassesOwn (model X.prog X.w) X.A X.env xe->yS (Cg X.prog X.w) (X.tried pn xe) E (·=σ0)->wR (X.tried pn xe) body (tb E σ0))(hh:∀a,wR (X.held a) (b0::suite) th)(hdb:(x==("__debug__":Str))=false:=by decide):QS X (.Try body [.ExceptHandler (some (.Name x np)) none (b0::suite) hpos] [] [] pos) (aib X.K C tb th):=⟨by
 intro ak s σ H D I h;let⟨E,G,O⟩:=h;let hp:PassesOwn (model X.prog X.w) X.A X.env (λe Y=>wpAny (model X.prog X.w) X.A (noteFrame e X.env) (λ_ s₂=>wpAny (model X.prog X.w) X.A (setFlight e none) (λ_ s₃=>wpAny (model X.prog X.w) X.A (handleBy e X.env [.ExceptHandler (some (.Name x np)) none (b0::suite) hpos]) (SP X ak D) X.xe s₃) X.xe s₂) X.xe Y):=PassesOwn.looking;let hP:yS (Cg X.prog X.w) (X.tried (X.pn++ak) (λe Y=>wpAny (model X.prog X.w) X.A (noteFrame e X.env) (λ_ s₂=>wpAny (model X.prog X.w) X.A (setFlight e none) (λ_ s₃=>wpAny (model X.prog X.w) X.A (handleBy e X.env [.ExceptHandler (some (.Name x np)) none (b0::suite) hpos]) (SP X ak D) X.xe s₃) X.xe s₂) X.xe Y)) E (·=σ):=by
  intro H_ σ' H1 s1 e s2 I1 hσ hq;let⟨a,cls,dd,H',B,ea,ex,q⟩:=hq;subst ea;let J:=I1.rW;let hσ:σ'=σ:=hσ;subst hσ;let fl:vR B (X.env::X.outer) a cls dd .none s2.heap:=by rw[<-j];show ex.fly
  let Z:X.A.frames=some (X.env::X.outer):=by rw[<-j];show J.ok.frames
  let⟨hmt,hsu⟩:=O a cls dd H' q ex.na;calc U_ Z hf fl λh1 y1 k1=>uX y1 λh2 y2 k2=>?_;let I2:=J.caught ex (by rw[j];show y2) (k1.trans k2);calc wpAny_handleBy_cons (codeAny_handlers_test (oN (X:=X.held a) (I2.held a) hg hm ?_ hdb)) (by intro q;cases q);let LT:Looks (model X.prog X.w) h2 (typeOf (.ref a)) cls:=by let⟨oe,_,_,_,_,he,hc,_⟩:=y2.tr;show hc ▸ (Looks.ld he).andThen .now
  calc(exm_one (K:=X.K) I2.iY LT hmt).here ?_;calc codeAny_handlers_suite (uX y2 λh3 y3 k3=>?_);let I3:=J.caught ex (by rw[j];show y3) ((k1.trans k2).trans k3);calc eh ((hh a).out ak _ _ _ D (I3.held a) hsu) (λf s5 hs=>?_) λ_ _ z=>z.elim;cases f with
  | next=>let⟨σ5,H5,F,q5⟩:=hs;show JA _ _ ⟨F.IW J.ok,q5⟩
  | brk=>let⟨σ5,H5,F,q5⟩:=hs;show JA _ _ ⟨F.IW J.ok,q5⟩
  | cont=>let⟨σ5,H5,F,q5⟩:=hs;show JA _ _ ⟨F.IW J.ok,q5⟩
  | ret u=>let⟨v,σ5,H5,F,r5,q5⟩:=hs;show JE v _ _ ⟨F.IW J.ok,r5,q5⟩
 calc wpAny_Try_except (eh ((hb _ _ E σ hp hP).out [] s σ H D (I.tried _) G) (λf s1 hs=>?_) λe s1 z=>z);let hs:=hs.rW;cases f with
 | next=>let⟨σ',H',I',q⟩:=hs;show(bJ (X:=X)).out ak s1 σ' H' D I' q
 | brk=>show hs
 | cont=>show hs
 | ret u=>show hs⟩
end
section
variable {X:Cx}{tg:Expr}
def Z4 (hc:X.calm=true):iJ X (.builtin "min") (λxs H Q=>∃(p:Addr) (ns:List Int),xs=[.ref p]/\aO X.K H p (ns.map V.int)/\0<ns.length/\∀m∈ns,(∀x∈ns,m<=x)->Q (.int m) H):=by
 intro ak s σ H xs us Q I r h;let⟨p,ns,rfl,hq,h0,q⟩:=h;let⟨u,rfl,F⟩:=vals1 r;cases F;let⟨its,O,pl,hz⟩:=I.tuple hq;let Y:=O.length;rw[aa]at Y;let G:p≠s.heap.objs.size:=by let⟨o,J,_⟩:=pl;show cq (aE J)
 let hb:∀(i:Nat) (v:Value),its.toArray[i]?=some v->∃t,v=.int (ns.getD i 0) t:=λi v D=>by
  let D:its[i]?=some v:=by simpa using D
  let hi:i<ns.length:=by have:=(ag.mp D).1;lia
  let⟨u,Z,F⟩:=O.get (i:=i) (x:=.int ns[i]) (by simp[hi]);rw[D]at Z;cases Z;let⟨t,e⟩:=F;show⟨t,by rw[e];simp[List.getD,hi]⟩
 calc call_min_walk (wpAny_pyIter_tuple (show s.heap.IsTuple p its.toArray from pl) ?_);refine JP s.heap.objs.size _ _ _ _ _ _ ⟨rL,Walks.tuple (A:=X.A.in1) (I.ok.hd hc) s.heap.objs.size p G its.toArray,⟨⟨_,a_ _ rL,rL,rL⟩,pl.push _⟩,?_,by simp;lia,CmpOf.ints_lt (λi=>ns.getD i 0) hb,λv h' tk hP kk=>?_⟩
 .intro b hb;have:b=s.heap.objs.size\/b=p:=by simpa using hb
  rw[eQ];rcases this with e|e;.rw[e];show gr _
  .rw[e];let⟨o,J,_⟩:=pl;show lh (aE J)
 .let I1:aQ X ak σ H {s with heap:=h',toks:=tk}:=I.kept λb o e=>kk b o (by
   intro hm;have:b=s.heap.objs.size:=by simpa using hm
   subst this;show absurd (aE e) (fg _)) (af _ e)
  let⟨k1,k2⟩:=argBest_lt (λi=>ns.getD i 0) (its.toArray.size-1);let hsz:its.toArray.size=ns.length:=by simp[Y]
  let⟨t,e⟩:=hb _ v hP;generalize argBest _ _=j at k1 k2 e;let hj:j<ns.length:=o6;calc JA (.int (ns.getD j 0)) H ⟨I1,⟨t,e⟩,q _ (by simp[List.getD,hj]) λx hx=>?_⟩;let⟨i,hi,rfl⟩:=ij.mp hx;have:=k2 i o6;simpa [List.getD,hi] using this
def aic (t:TT):TT:=λσ H Q=>∃R:Bool->Hp->Prop,t σ H R/\∀b H',R b H'->Q b H'
def agJ {e:Expr}{t:TT}(h:QT X e t):QT X e (aic t):=⟨λak s σ H Q I ⟨R,a,b⟩=>by calc cg (h.out ak s σ H R I a) λf s' q=>?_;let⟨D,F,j⟩:=q;show⟨D,F,b _ _ j⟩⟩
def aie (ta:TA):TI:=λσ H R=>ta σ H λvs H1=>∃n:Nat,vs=[.int ((n:Int)-1),.int (-1),.int (-1)]/\n<=99/\R (zO ((n:Int)-1) (-1) n) H1
def agK:∀n:Fin 100,Builtin.Range.small ((n.val:Int)-1) (-1) (-1)=true/\Builtin.Range.rangeSize ((n.val:Int)-1) (-1) (-1)=(n.val:Int):=by decide +kernel
def Z5 {a b c:Expr}{ta:TA}{p pos:Pos}(Z:Gl X "range")(hm:X.mg "range"=none)(ha:QA X [a,b,c] ta)(hs:starEach [a,b,c] X.env=[(false,eval a X.env),(false,eval b X.env),(false,eval c X.env)]:=by rfl)(j:starEach [b,c] X.env=[(false,eval b X.env),(false,eval c X.env)]:=by rfl):QI X tg (.Call (.Name "range" p) [a,b,c] [] pos) (aie ta):=⟨by
 intro ak s σ H R I h;calc Call_ (qG I Z hm boot_range (ee (cg (ha.out pos ak s σ H _ I h) λus s1 Y=>?_) (by rw[hs,j]) (by rw[j];rfl)));let⟨vs,H1,O,r1,q1⟩:=Y;let⟨n,e,q1,q⟩:=q1;subst e;cases r1 with
 | cons r1 rr=>
  cases rr with
  | cons r2 rr=>
   cases rr with
   | cons r3 rr=>
    cases rr;let⟨G,rfl⟩:=r1;let⟨F,rfl⟩:=r2;let⟨D,rfl⟩:=r3;let⟨sm,sz⟩:=agK ⟨n,o6⟩;calc call_range_3 o6 ?_ (.inl (lm o6));calc nc (IsRange.new ..) sm ?_;let J:aQ X ak σ H1 {s1 with heap:=s1.heap.push {cls:=.type "range",data:=.fields #[.int ((n:Int)-1) G,.int (-1) F,.int (-1) D]},toks:=s1.toks}:=O.kept λb o e=>af _ e;refine JJ ((s1.heap.push {cls:=.type "range",data:=.fields #[.int ((n:Int)-1) G,.int (-1) F,.int (-1) D]}).objs.size) [(s1.heap.push {cls:=.type "range",data:=.fields #[.int ((n:Int)-1) G,.int (-1) F,.int (-1) D]}).objs.size] _ _ H1 ⟨rL,
     J.kept (t':=s1.toks) λb o e=>af _ e,FP _ ((n:Int)-1) (-1) n,?_,λb hb=>?_,q⟩
    .let e1:((n:Int)-1)+((0:Nat):Int)*(-1)=(n:Int)-1:=pi;let e2:(n:Int)-((0:Nat):Int)=Builtin.Range.rangeSize ((n:Int)-1) (-1) (-1):=by rw[sz];simp
     show IsRangeIter _ _ (((n:Int)-1)+((0:Nat):Int)*(-1)) ((n:Int)-((0:Nat):Int)) (-1);rw[e1,e2];show a_ _ rfl
    .let e:b=(s1.heap.push {cls:=.type "range",data:=.fields #[.int ((n:Int)-1) G,.int (-1) F,.int (-1) D]}).objs.size:=by simpa using hb
     subst e;show J.xX (ai _) (J.hok.fresh (ai _))⟩
end
def Xm {lo c:Int}{n:Nat}{g:TG}{tb:TS}{D:Ends}{σ:St}{H:Hp}(F:Nat->St->Hp->Prop)(h0:F 0 σ H)(hs:∀i σ H,i<n->F i σ H->g (.int (lo+i*c)) σ H λσ2 G=>tb {D with nx:=F (i+1),ct:=F (i+1),bk:=D.nx} σ2 G)(hd:∀σ H,F n σ H->D.nx σ H):∃W:Nat->Nat->St->Hp->Prop,(∃m,W 0 m σ H)/\∀i m σ H,W i m σ H->
   ((zO lo c n).stop i H/\D.nx σ H)\/((zO lo c n).go i H/\∃N:St->Hp->Prop,(∀σ' H',N σ' H'->∃I,I<m/\W (i+1) I σ' H')/\∀x H',(zO lo c n).Ia i H x H'->g x σ H' λσ2 G=>tb {D with nx:=N,ct:=N,bk:=D.nx} σ2 G):=by
 calc⟨λi m σ H=>m=n-i/\i<=n/\F i σ H,⟨n,pi,eI _,h0⟩,?_⟩;intro i m σ H z;let⟨rfl,hi,p⟩:=z;by_cases j:i<n
 .calc .inr ⟨j,F (i+1),λσ' H' J=>⟨n-(i+1),o6,rL,j,J⟩,λx H' y=>?_⟩;let⟨e,y⟩:=y;subst e y;show hs i σ _ j p
 .let e:i=n:=o6;subst e;show .inl ⟨ai _,hd σ H p⟩
end L2
namespace L2
open PySem
theorem eS {n:Nat}{P:List Value->Prop}(h:∀a us,us.length=n->P (a::us)):∀us,us.length=n+1->P us
 | a::us,e=>h a us (Nat.succ.inj e)
@[elab_as_elim] theorem e1 {P:List Value->Prop} (h:∀a,P [a]) (us:List Value) (hl:us.length=1):P us:=eS (λa us e=>(by rw[List.eq_nil_of_length_eq_zero e];show h a)) us hl
@[elab_as_elim] theorem e2 {P:List Value->Prop} (h:∀a b,P [a,b]) (us:List Value) (hl:us.length=2):P us:=eS (λa us e=>e1 (P:=λr=>P (a::r)) (h a) us e) us hl
@[elab_as_elim] theorem e3 {P:List Value->Prop} (h:∀a b c,P [a,b,c]) (us:List Value) (hl:us.length=3):P us:=eS (λa us e=>e2 (P:=λr=>P (a::r)) (h a) us e) us hl
@[elab_as_elim] theorem e4 {P:List Value->Prop} (h:∀a b c d,P [a,b,c,d]) (us:List Value) (hl:us.length=4):P us:=eS (λa us e=>e3 (P:=λr=>P (a::r)) (h a) us e) us hl
@[elab_as_elim] theorem e5 {P:List Value->Prop} (h:∀a b c d e,P [a,b,c,d,e]) (us:List Value) (hl:us.length=5):P us:=eS (λa us e=>e4 (P:=λr=>P (a::r)) (h a) us e) us hl
@[elab_as_elim] theorem e6 {P:List Value->Prop} (h:∀a b c d e f,P [a,b,c,d,e,f]) (us:List Value) (hl:us.length=6):P us:=eS (λa us e=>e5 (P:=λr=>P (a::r)) (h a) us e) us hl
@[elab_as_elim] theorem e7 {P:List Value->Prop} (h:∀a b c d e f g,P [a,b,c,d,e,f,g]) (us:List Value) (hl:us.length=7):P us:=eS (λa us e=>e6 (P:=λr=>P (a::r)) (h a) us e) us hl
@[elab_as_elim] theorem e8 {P:List Value->Prop} (h:∀a b c d e f g i,P [a,b,c,d,e,f,g,i]) (us:List Value) (hl:us.length=8):P us:=eS (λa us e=>e7 (P:=λr=>P (a::r)) (h a) us e) us hl
end L2
namespace My
open PySem L2
def top (i:Nat):Stmt:=PySem.Challenge.pw_letterrack_k63_whole_forth_and_back.main.body.getD i (.Pass ⟨0,0,0,0⟩)
noncomputable abbrev jL:Stmt:=inClass (top 4) 0
def Ke:aZ ["self","word"] ["self","word"] (aH jL):={}
noncomputable abbrev j4:Stmt:=inClass (top 7) 0
def Nz:aZ ["self","row","column"] ["self","row","column"] (aH j4):={}
noncomputable abbrev ni:Stmt:=inClass (top 9) 0
def Tv:aZ ["self","row","column"] ["self","row","column"] (aH ni):={}
noncomputable abbrev jg:Stmt:=inClass (top 11) 0
def Jc:aZ ["self","tile"] ["self","tile"] (aH jg):={}
noncomputable abbrev qM:Stmt:=top 17
def FQ:aZ ["thing"] ["thing"] (aH qM):={}
noncomputable abbrev wW:Stmt:=top 18
def Xn:aZ ["thing"] ["thing"] (aH wW):={}
noncomputable abbrev tM:Stmt:=top 19
def Qj:aZ ["sign"] ["sign"] (aH tM):={}
noncomputable abbrev wX:Stmt:=top 20
def Xo:aZ ["sign"] ["sign"] (aH wX):={}
noncomputable abbrev wY:Stmt:=top 21
def uZ:aZ ["rack","signs","tiles","sign","tile"] ["rack","signs"] (aH wY):={}
noncomputable abbrev u9:Stmt:=top 26
def tQ:aZ ["thing","width"] ["thing"] (aH u9):={}
noncomputable abbrev u_:Stmt:=top 27
def FT:aZ ["thing"] ["thing"] (aH u_):={}
noncomputable abbrev tR:Stmt:=top 28
def Cm:aZ ["thing"] ["thing"] (aH tR):={}
noncomputable abbrev oA:Stmt:=top 29
def Bo:aZ ["rows","row","column"] ["rows","row","column"] (aH oA):={}
noncomputable abbrev pR:Stmt:=top 30
def Kf:aZ ["rows","thing"] ["rows","thing"] (aH pR):={}
noncomputable abbrev vf:Stmt:=top 31
def Tw:aZ ["rows","marks","begin"] ["rows","marks","begin"] (aH vf):={}
noncomputable abbrev pU:Stmt:=top 32
def yU:aZ ["rows","column"] ["rows","column"] (aH pU):={}
noncomputable abbrev j5:Stmt:=inClass (top 33) 0
def NK:aZ ["self","rows","marks","begin"] ["self","rows","marks","begin"] (aH j5):={}
noncomputable abbrev nj:Stmt:=inClass (top 33) 1
def Tz:aZ ["self","row","column"] ["self","row","column"] (aH nj):={}
noncomputable abbrev iR:Stmt:=inClass (top 33) 2
def vW:aZ ["self"] ["self"] (aH iR):={}
noncomputable abbrev lM:Stmt:=inClass (top 33) 3
def mK:aZ ["self","row","column","way","line","place","ahead","signs","first"] ["self","row","column","way"] (aH lM):={}
noncomputable abbrev j6:Stmt:=inClass (top 33) 5
def kZ:aZ ["self","laying","lines","row","column","sign"] ["self","laying"] (aH j6):={}
noncomputable abbrev tU:Stmt:=top 36
def Qk:aZ ["board","thing"] ["board","thing"] (aH tU):={}
noncomputable abbrev tV:Stmt:=top 37
def vX:aZ ["board","thing","cells"] ["board","thing"] (aH tV):={}
noncomputable abbrev vg:Stmt:=top 38
def TF:aZ ["laying"] ["laying"] (aH vg):={}
noncomputable abbrev pJ:Stmt:=top 39
def Cp:aZ ["laying"] ["laying"] (aH pJ):={}
noncomputable abbrev wZ:Stmt:=top 40
def Xp:aZ ["laying"] ["laying"] (aH wZ):={}
noncomputable abbrev lq:Stmt:=top 41
def nZ:aZ ["board","row","column","around"] ["board","row","column"] (aH lq):={}
noncomputable abbrev zR:Stmt:=top 42
def lu:aZ ["board","laying","after","way","asked","row","column","words","along","run"] ["board","laying"] (aH zR):={}
noncomputable abbrev qN:Stmt:=top 43
def pW:aZ ["board","laying","row","column","sign"] ["board","laying"] (aH qN):={}
noncomputable abbrev nq:Stmt:=top 44
def Fo:aZ ["laying"] ["laying"] (aH nq):={}
noncomputable abbrev qO:Stmt:=top 45
def pX:aZ ["board","laying","after","row","column"] ["board","laying"] (aH qO):={}
noncomputable abbrev oR:Stmt:=top 46
def qP:aZ ["board","laying","joined"] ["board","laying"] (aH oR):={}
noncomputable abbrev pY:Stmt:=top 47
def jh:aZ ["board","book","laying","words","row","column","way","signs","word"] ["board","book","laying"] (aH pY):={}
noncomputable abbrev oU:Stmt:=top 48
def Jd:aZ ["board","book","rack","laying"] ["board","book","rack","laying"] (aH oU):={}
noncomputable abbrev vh:Stmt:=top 52
def TJ:aZ ["worths","sign"] ["worths","sign"] (aH vh):={}
noncomputable abbrev w5:Stmt:=top 53
def Xq:aZ ["word","place"] ["word","place"] (aH w5):={}
noncomputable abbrev pZ:Stmt:=top 54
def d9:aZ ["board","worths","laying","word","cells","total","times","place","sign","cell","worth","mark"] ["board","worths","laying","word"] (aH pZ):={}
noncomputable abbrev vm:Stmt:=top 55
def TQ:aZ ["bonus","laying"] ["bonus","laying"] (aH vm):={}
noncomputable abbrev tW:Stmt:=top 56
def Cq:aZ ["board","worths","bonus","laying","counted"] ["board","worths","bonus","laying"] (aH tW):={}
noncomputable abbrev qb:Stmt:=top 58
def Kg:aZ ["rack","laying"] ["rack","laying"] (aH qb):={}
noncomputable abbrev tX:Stmt:=top 61
def Cr:aZ ["thing"] ["thing"] (aH tX):={}
noncomputable abbrev w6:Stmt:=top 62
def Xr:aZ ["thing"] ["thing"] (aH w6):={}
noncomputable abbrev vo:Stmt:=top 63
def TV:aZ ["tiles"] ["tiles"] (aH vo):={}
noncomputable abbrev tY:Stmt:=top 64
def Ql:aZ ["things","place","thing"] ["things","place","thing"] (aH tY):={}
noncomputable abbrev j7:Stmt:=inClass (top 65) 0
def NP:aZ ["self","board","racks","bag","points"] ["self","board","racks","bag","points"] (aH j7):={}
noncomputable abbrev n6:Stmt:=top 66
def ji:aZ ["stand","turn","size","laying","points","left","many","rack","racks","sums"] ["stand","turn","size","laying","points"] (aH n6):={}
noncomputable abbrev qe:Stmt:=top 67
def mL:aZ ["stand","turn","tiles","left","many","rack","bag"] ["stand","turn","tiles"] (aH qe):={}
noncomputable abbrev lN:Stmt:=inClass (top 68) 0
def Cu:aZ ["self","board","book","worths","bonus","size","racks","bag"] ["self","board","book","worths","bonus","size","racks","bag"] (aH lN):={}
noncomputable abbrev oE:Stmt:=inClass (top 68) 1
def nu:aZ ["self","deed","stand","turn","points"] ["self","deed"] (aH oE):={}
noncomputable abbrev lO:Stmt:=inClass (top 68) 2
def Qm:aZ ["self"] ["self"] (aH lO):={}
noncomputable abbrev iz:Stmt:=inClass (top 68) 3
def Fp:aZ ["self"] ["self"] (aH iz):={}
noncomputable abbrev iB:Stmt:=inClass (top 68) 4
def Fq:aZ ["self"] ["self"] (aH iB):={}
noncomputable abbrev jj:Stmt:=inClass (top 68) 5
def Je:aZ ["self"] ["self"] (aH jj):={}
noncomputable abbrev gR:Stmt:=inClass (top 68) 6
def Cv:aZ ["self"] ["self"] (aH gR):={}
noncomputable abbrev lQ:Stmt:=inClass (top 68) 7
def Qn:aZ ["self"] ["self"] (aH lQ):={}
noncomputable abbrev jk:Stmt:=inClass (top 68) 8
def n8:aZ ["self","racks","many","last"] ["self"] (aH jk):={}
noncomputable abbrev xq:Stmt:=top 70
def Jf:aZ ["text"] ["text"] (aH xq):={}
noncomputable abbrev qQ:Stmt:=top 71
def NQ:aZ ["text"] ["text"] (aH qQ):={}
noncomputable abbrev lR:Stmt:=inClass (top 72) 0
def Cw:aZ ["self","words","word"] ["self","words"] (aH lR):={}
noncomputable abbrev j8:Stmt:=inClass (top 72) 1
def NT:aZ ["self"] ["self"] (aH j8):={}
noncomputable abbrev nC:Stmt:=inClass (top 72) 2
def TX:aZ ["self","text"] ["self","text"] (aH nC):={}
noncomputable abbrev lU:Stmt:=inClass (top 72) 6
def Qo:aZ ["self"] ["self"] (aH lU):={}
noncomputable abbrev xr:Stmt:=top 74
def Xu:aZ ["_law_script","_law_k"] ["_law_script","_law_k"] (aH xr):={}
noncomputable abbrev zT:Stmt:=top 75
def mO:aZ ["_law_cell","_law_many","_law_found","_law_number","_law_k"] ["_law_cell","_law_many"] (aH zT):={}
noncomputable abbrev xu:Stmt:=top 76
def qR:aZ ["_law_cell","_law_letters_here","_law_found","_law_k"] ["_law_cell"] (aH xu):={}
noncomputable abbrev Er:Stmt:=top 77
def lV:aZ ["_law_cell","_law_letters_here","_law_words_here","_law_number","_law_size","_law_word","_law_rest","_law_k"] ["_law_cell","_law_letters_here"] (aH Er):={}
noncomputable abbrev Jg:Stmt:=top 78
def jE:aZ ["_law_cell","_law_letters_here","_law_rows_here","_law_columns","_law_signs","_law_marks","_law_number","_law_sign","_law_begin","_law_texts","_law_some"] ["_law_cell","_law_letters_here"] (aH Jg):={}
noncomputable abbrev Es:Stmt:=top 79
def vY:aZ ["_law_cell","_law_letters_here","_law_many","_law_blanks","_law_tiles_here","_law_number"] ["_law_cell","_law_letters_here","_law_many","_law_blanks"] (aH Es):={}
noncomputable abbrev Et:Stmt:=top 80
def eY:aZ ["_law_script","_law_letters_here","_law_cell","_law_size","_law_many","_law_few","_law_tiles_here","_law_racks","_law_k","_law_less","_law_worths","_law_letter","_law_bonus","_law_rows_here","_law_marks","_law_begin","_law_board","_law_words_here"] ["_law_script"] (aH Et):={}
noncomputable abbrev Eu:Stmt:=top 81
def Gz:aZ ["_law_parts_here","_law_racks"] ["_law_parts_here"] (aH Eu):={}
noncomputable abbrev tZ:Stmt:=top 82
def gq:aZ ["_law_rows_here","_law_word","_law_place","_law_rack","_law_row","_law_column","_law_way","_law_left","_law_laying_here","_law_letter","_law_tile"] ["_law_rows_here","_law_word","_law_place","_law_rack"] (aH tZ):={}
noncomputable abbrev Jh:Stmt:=top 83
def aej:aZ ["_law_board","_law_book","_law_rack","_law_laying_here"] ["_law_board","_law_book","_law_rack","_law_laying_here"] (aH Jh):={}
noncomputable abbrev zU:Stmt:=top 84
def uq:aZ ["_law_board","_law_book","_law_words_here","_law_rack","_law_cell","_law_number","_law_place","_law_laying_here"] ["_law_board","_law_book","_law_words_here","_law_rack","_law_cell"] (aH zU):={}
noncomputable abbrev Ji:Stmt:=top 85
def jF:aZ ["_law_now","_law_book","_law_words_here","_law_cell","_law_board","_law_racks","_law_bag","_law_sums","_law_done","_law_passed","_law_over","_law_numbers","_law_rack","_law_laying_here","_law_many","_law_by"] ["_law_now","_law_book","_law_words_here","_law_cell"] (aH Ji):={}
noncomputable abbrev yV:Stmt:=top 86
def rZ:aZ ["_law_rack","_law_tiles_here","_law_left","_law_tile"] ["_law_rack","_law_tiles_here"] (aH yV):={}
noncomputable abbrev Jj:Stmt:=top 87
def f9:aZ ["_law_now","_law_parts_here","_law_deed_here","_law_board","_law_racks","_law_bag","_law_sums","_law_done","_law_passed","_law_over","_law_here","_law_points","_law_left","_law_drawn"] ["_law_now","_law_parts_here","_law_deed_here"] (aH Jj):={}
noncomputable abbrev zV:Stmt:=top 88
def lB:aZ ["_law_game","_law_now","_law_board","_law_racks","_law_bag","_law_sums","_law_done","_law_passed","_law_over","_law_there"] ["_law_game","_law_now"] (aH zV):={}
noncomputable abbrev s_again:Stmt:=top 89
def vZ:aZ ["_law_game","_law_parts_here","_law_begun_here","_law_deeds","_law_now","_law_deed_here","_law_points"] ["_law_game","_law_parts_here","_law_begun_here","_law_deeds"] (aH s_again):={}
noncomputable abbrev OD:Stmt:=top 90
def nR:aZ ["_law_script","_law_parts_here","_law_book","_law_game","_law_begun_here","_law_stood","_law_deeds","_law_cell","_law_deed_here","_law_points","_law_now","_law_k"] ["_law_script"] (aH OD):={}
section
variable {P:Program}{w:World}{K:W.Frag}{mg:Str->Option Value}{base:Heap}
def Cy (c:Nat):Bool:=decide (97<=c)&&decide (c<=122)
def FW (c:Nat):Bool:=decide (65<=c)&&decide (c<=90)
def Cz (l:List Nat):Bool:=match l with|[c]=>Cy c||FW c|_=>false
def lt1 (a b:Nat):([a]<[b])↔a<b:=by simp[hJ]
def Kh (a b:Nat):(!decide ([a]<[b]))=decide (b<=a):=by
 by_cases h:a<b;.rw[al ((lt1 a b).mpr h),ah o6];rfl
 .rw[ah (λz=>h ((lt1 a b).mp z)),al o6];rfl
def adk (K:W.Frag)(H:Hp)(x:V):Prop:=∃t,mD K H x t/\W.kitOne K t (.type "str")=some false
def Qp (K:W.Frag):Sp:=λvs H Q _=>(∃x,vs=[x]/\adk K H x/\Q (.bl false) H)\/(∃l,vs=[.str (S l)]/\l.length<=1000/\Q (.bl (Cz l)) H)
def Xv (D:aM K mg "is_sign" wW ["thing"])(J:mg "len"=none)(F:mg "str"=none)(I:mg "isinstance"=none):bV P w K mg base "is_sign" 1 ["thing"] (Qp K):=by
 refine D.cZ Xn (λf bG A outer s H vs Q E Y h=>?_) (λvs H Q E h=>?_)
 .refine⟨_,aA (cB (QW.qt (lY (eG (dJ (aV fQ pk I cp (aj aG (aj (jV (v:=.ty "str") pk F md rL) ao)))))
     (jZ (bM wN (aV cY pk J ay (aj aG ao)) au (bF _))))) (aF (bf iu)) bJ)
   (aF (bf (Ox (lJ nQ nQ (bH [97] pS) aG (bH [122] pS))
    (jw (lJ nQ nQ (bH [65] pS) aG (bH [90] pS)))))),?_⟩
  rcases h with⟨x,rfl,⟨t,ty,O⟩,q⟩|⟨l,rfl,hl,q⟩;.show⟨_,rL,_,_,_,false,rL,ty,O,_,rL,cj (cj q)⟩
  .let hz:l.length<=sizeLine:=ap (aK o6);calc⟨_,rL,_,_,_,true,rL,.str _,pE,_,rL,bQ ⟨_,rL,l,rL,hz,rL,_,rL,?_⟩⟩;by_cases h1:l.length=1
   .let⟨c,rfl⟩:=List.length_eq_one_iff.mp h1;calc Ou rL ?_;calc⟨_,rL,[97],[c],rL,rL,decide (97<=c),by rw[Kh],?_⟩;let G:Q (.bl (Cy c||FW c)) H:=q;let j:(FW c=(Cy c||FW c))->BR abC abC (tC (.str (S [65]))) (Wx 0) (tC (.str (S [90]))) [some (.str (S [c]))] H Q:=λe=>by
     calc⟨_,rL,[65],[c],rL,rL,decide (65<=c),by rw[Kh],?_⟩;rw[<-e]at G;by_cases h2:65<=c
     .rw[al h2];calc cj (JA [c] [90] ⟨rL,rL,?_⟩);rw[Kh];simpa [FW,h2] using G
     .rw[ah h2];calc bQ ?_;simpa [FW,h2] using G
    by_cases h2:97<=c
    .rw[al h2];calc cj (JA [c] [122] ⟨rL,rL,_,rL,?_⟩);rw[Kh];by_cases h3:c<=122
     .rw[al h3];calc cj ?_;simpa [Cy,h2,h3] using G
     .rw[ah h3];show bQ (j (by simp[Cy,h2,h3]))
    .rw[ah h2];show bQ ⟨_,rL,bQ (j (by simp[Cy,h2]))⟩
   .let e:(!decide (V.int (l.length:Int)=V.int 1))=true:=by
     rw[ah];rfl;intro z;injection z with z;lia
    rw[e];let e2:Cz l=false:=by
     match l,h1 with| [],_=>rfl| [c],h=>show absurd rL h| _::_::_,_=>rfl
    rw[e2]at q;show cj q
 .rcases h with⟨x,rfl,_⟩|⟨x,rfl,_⟩ <;> rfl
def Z6 (K:W.Frag):Sp:=λvs H Q _=>∃(a:Addr) (ns:List Int) (k:Nat),vs=[.ref a,.int k]/\bB K H a (ns.map V.int)/\∀v:Int,Q (.int v) H
def isLet (c:Nat):Prop:=97<=c/\c<=122
structure Xw (ls:List Nat):Prop where
 lo:2<=ls.length
 hi:ls.length<=26
 az:∀c∈ls,isLet c
def Xx (D:aM K mg "_law_cell_at" xr ["_law_script","_law_k"])(F:mg "len"=none):bV P w K mg base "_law_cell_at" 1 ["_law_script","_law_k"] (Z6 K):=by
 calc D.cZ Xu (λf bG A outer s H vs Q E J h=>?_);let⟨a,ns,k,rfl,j,q⟩:=h;calc⟨_,aA (cB (bM uT aW (aV bW pk F ay (aj aG ao)) (bF _)) (aF (bf (aX fH aG aW (λ_ _=>rfl)))) bJ) (aF (bf au)),?_⟩;calc⟨_,rL,_,rL,a,_,rL,.inl j,_,_,rL,rL,_,rL,?_⟩;refine i_ (λI=>?_) (λ_=>?_)
 .let G:k<ns.length:=by
   have:=dS I;rw[aa]at this;lia
  show⟨_,rL,_,rL,a,_,_,.int ns[k],rL,rL,j,aN (by simp[G]),q _⟩
 .show q _
def lZ (l:List Nat):(l.map λc=>[c]).flatten=l:=by
 induction l with| nil=>rfl| cons c r ih=>rw[cv,eK,ih];rfl
def aif:∀c∈AL,isLet c:=λc D=>by let⟨k,j,rfl⟩:=bd.mp D;have:=gp.mp j;show⟨o6,o6⟩
def pK (c:Nat):Prop:=Cz [c]=true
def pK.lt {c:Nat}(h:pK c):c<128:=by unfold pK Cz Cy FW at h;simp at h;lia
def Z7 {c:Nat}(h:isLet c):pK c:=by simp[pK,Cz,Cy,h.1,h.2]
def Z8 {c:Nat}(h:isLet c):pK (c-32):=by let h1:=h.1;let h2:=h.2;simp[pK,Cz,Cy,FW];lia
def aek {xs:List V}{a b:Nat}(h1:a<=b)(h2:b<=xs.length):gH xs (some (a:Int)) (some (b:Int))=(xs.drop a).take (b-a):=by unfold gH;rw[HT.kO,HT.kO,fq h2,fq (show a<=xs.length by lia)]
abbrev ones (cs:List Nat):List (List Nat):=cs.map λc=>[c]
structure Blk (r w:Nat)(ls:AB):Prop where
 len:ls.length=r
 qT:∀l∈ls,l.length=w
def MK:List Nat:=[46,50,51,52,98,99,100]
def Bp (c:Nat):Prop:=c=46\/pK c
def Jk (c:Nat):Prop:=c∈MK
structure Qq (r w:Nat)(aD aL:AB)(i j:Nat):Prop where
 r1:1<=r
 r9:r<=9
 w1:1<=w
 w9:w<=9
 br:Blk r w aD
 bm:Blk r w aL
 cr:∀l∈aD,∀c∈l,Bp c
 cm:∀l∈aL,∀c∈l,Jk c
 bi:i<r
 bj:j<w
def Km (ls:AB)(l:List Nat):Ts ls++[V.str (S l)]=Ts (ls++[l]):=by simp[Ts]
def Z9 (cs:List Nat)(c:Nat):ones cs++[[c]]=ones (cs++[c]):=by simp[ones]
def cell (R:AB)(i j:Nat):Nat:=(R.getD i []).getD j 0
def cell_eq {R:AB}{i j:Nat}(hi:i<R.length)(D:j<R[i].length):cell R i j=R[i][j]:=by unfold cell;rw[ax (l:=R),ac hi];show (R[i]).getD j 0=_;rw[ax,ac D];rfl
def Vh:Sp:=λvs H Q _=>∃i:Int,vs=[.int i]/\Q (.bl true) H
def TY (D:aM K mg "is_whole" qM ["thing"])(G:mg "int"=none)(F:mg "bool"=none)(j:mg "isinstance"=none):bV P w K mg base "is_whole" 1 ["thing"] Vh:=by calc D.cZ FQ (λf bG A outer s H vs Q E I h=>?_);let⟨i,rfl,q⟩:=h;calc⟨_,(aF (bf (jN (aV fQ pk j cp (aj aG (aj (jV (v:=.ty "int") pk G j3 rL) ao))) (jw (Zy (aV fQ pk j cp (aj aG (aj (jV (v:=.ty "bool") pk F ly rL) ao)))))))),?_⟩;show⟨_,rL,_,_,_,true,rL,.int _,pE,true,rL,cj ⟨_,rL,_,_,_,false,rL,.int _,pE,false,rL,q⟩⟩
def nD {ls:AB}{i:Nat}{l:List Nat}(h:ls[i]?=some l):(Ts ls)[i]?=some (.str (S l)):=by simp[Ts,h]
def wg {ls:AB}{i:Nat}{x:V}(h:(Ts ls)[i]?=some x):∃l,ls[i]?=some l/\x=.str (S l):=by rw[ck]at h;let⟨l,h1,h2⟩:=dv.mp h;show⟨l,h1,h2.symm⟩
def yW (n:Nat):((List.replicate n true).all id)=true:=by simp
def wj (n:Nat):(List.replicate n true).map V.bl++[V.bl true]=(List.replicate (n+1) true).map V.bl:=by rw[kn,bv];rfl
def Ko:Sp:=λvs H Q _=>∃(p:Addr) (ls:AB) (r w:Nat),vs=[.ref p]/\H p=some (.tup (Ts ls))/\Blk r w ls/\1<=r/\r<=9/\1<=w/\w<=9/\∀H',aB H H'->Q (.bl true) H'
def T3 (D:aM K mg "is_block" u9 ["thing"])(bh:mg "len"=none)(cI:mg "tuple"=none)(vp:mg "str"=none)(fj:mg "all"=none)(bK:mg "isinstance"=none)(yX:∃t,mg "MOST"=some (.int 9 t)):bV P w K mg base "is_block" 1 ["thing"] Ko:=by
 calc D.cZ tQ (λf bG A outer s H vs Q E hr h=>?_);let⟨p,ls,r,w,rfl,hp,hb,r1,r9,w1,w9,q⟩:=h;let pN:(Ts ls).length=r:=by rw[aa,hb.len]
 let h0:0<ls.length:=by rw[hb.len];lia
 calc⟨_,(aA (cB (QW.qt (lY (eG (dJ (aV fQ pk bK cp (aj aG (aj (jV (v:=.ty "tuple") pk cI c_ rL) ao))))) (jZ (eG (zN pQ pQ au (aV bW pk bh ay (aj aG ao)) (Xc pk yX)))))) (aF (bf iu)) bJ) (aA (cB (eG (dJ (aV (jK rL) pk fj jx (aj (jB rL (jc.of tQ.nd pE) (gM aG) (λ_ _ _ _ _=>dR) (λ_ _ _ _ _=>(aV (Qa K) pk bK cp (aj aG (aj (jV (v:=.ty "str") pk vp md rL) ao))))) ao)))) (aF (bf iu)) bJ) (aA (aU (i:=1) tQ.nd rL (Or.inr rL) (aV cY pk bh ay (aj (aX bw aG au (λ_ _=>rfl)) ao))) (aF (bf (jN (lJ pQ pQ au aW (Xc pk yX)) (jw (aV (jK rL) pk fj jx (aj (jB rL (jc.of tQ.nd pE) (gM aG) (λ_ _ _ _ _=>dR) (λ_ _ _ _ _=>(d7 iH (aV cY pk bh ay (aj aG ao)) bA (bF _)))) ao))))))))),?_⟩;calc⟨_,rL,_,_,_,true,rL,.tup hp,pE,_,rL,bQ ?_⟩;calc⟨_,rL,p,_,rL,.inr (aO.of hp),_,_,rL,rL,true,by rw[pN];simp;lia,cj (JA _ _ ⟨rL,rL,true,by rw[pN];simp;lia,bQ ?_⟩)⟩;refine⟨_,rL,p,rL,⟨_,aO.of hp⟩,λL hL=>qj (xs:=Ts ls) (λi ys Y=>ys=(List.replicate i true).map V.bl/\Y L=some (.lst ys)/\aB H Y) ⟨rL,aq,aB.upd hL⟩ (λi ys Y _ h=>aO.of (h.2.2 _ _ hp)) ?_ ?_⟩
 .intro i x ys Y hi z;let⟨rfl,F,I⟩:=z;let⟨l,hl,rfl⟩:=wg hi;let J:i<(Ts ls).length:=(ag.mp hi).1;refine⟨_,rL,_,_,_,true,rL,.str _,pE,F,by rw[aa,cy];show aK o6,gY.mk J ⟨wj i,aq,I.dF hL⟩⟩
 .intro ys Y z;let⟨rfl,F,I⟩:=z;calc JA L _ ⟨rL,bB.of F,?_⟩;rw[yW];calc⟨_,rL,bQ ?_⟩;let G:ls[0].length=w:=hb.qT _ (aI _);let hz:ls[0].length<=sizeLine:=ap (aK o6);calc⟨_,rL,p,_,_,.str (S ls[0]),rL,rL,aO.of (I _ _ hp),aN (j:=0) (nD (by simp[h0])),_,rL,hz,?_⟩;calc⟨_,rL,_,_,rL,rL,true,by rw[G];simp;lia,cj (JA _ _ ⟨rL,rL,true,by rw[G];simp;lia,cj ?_⟩)⟩;refine⟨_,rL,p,rL,⟨_,aO.of (I _ _ hp)⟩,λL2 uO=>qj (xs:=Ts ls) (λi ys Z=>ys=(List.replicate i true).map V.bl/\Z L2=some (.lst ys)/\aB H Z) ⟨rL,aq,I.dF (I.free uO)⟩ (λi ys Y _ h=>aO.of (h.2.2 _ _ hp)) ?_ ?_⟩
  .intro i x ys Z hi z;let⟨rfl,yZ,O⟩:=z;let⟨l,hl,rfl⟩:=wg hi;let J:i<(Ts ls).length:=(ag.mp hi).1;let hlw:l.length=w:=hb.qT _ (bo hl);calc⟨_,rL,_,rL,ap (aK o6),_,rL,rL,yZ,by rw[aa,cy];show aK o6,gY.mk J ⟨?_,aq,O.dF (I.free uO)⟩⟩;rw[hlw,G,al rfl];show wj i
  .intro ys Z z;let⟨rfl,yZ,O⟩:=z;calc JA L2 _ ⟨rL,bB.of yZ,?_⟩;rw[yW];show q Z O
def GC {r w:Nat}{ls:AB}(h:Blk r w ls):ls.flatten.length=r*w:=by
 rw[List.length_flatten];have:ls.map List.length=List.replicate r w:=by rw[<-h.len,List.eq_replicate_iff];show⟨pi,λb hb=>by let⟨l,hl,rfl⟩:=bd.mp hb;show h.qT l hl⟩
 rw[this,List.sum_replicate_nat]
def Z_:Sp:=λvs H Q _=>∃(p:Addr) (ls:AB) (r w:Nat),vs=[.ref p]/\H p=some (.tup (Ts ls))/\Blk r w ls/\1<=r/\r<=9/\1<=w/\w<=9/\(∀l∈ls,∀c∈l,Bp c)/\∀H',aB H H'->Q (.bl true) H'
def T4 (D:aM K mg "are_rows" u_ ["thing"])(fj:mg "all"=none)(fX:∃t,mg "FREE"=some (.str (S [46]) t))(zW:bV P w K mg base "is_block" 1 ["thing"] Ko)(CJ:bV P w K mg base "is_sign" 1 ["thing"] (Qp K)):bV P w K mg base "are_rows" 2 ["thing"] Z_:=by
 calc D.cZ FT (λf bG A outer s H vs Q E Z h=>?_);let⟨p,ls,r,w,rfl,hp,hb,r1,r9,w1,w9,hc,q⟩:=h;let hrw:r*w<=81:=fR r9 w9;let hfl:=GC hb;calc⟨_,(aF (bf (jN (bD zW Z.mono rL (aj aG ao)) (jw (aV (jK rL) pk fj jx (aj (jB rL (jc.of FT.nd pE) (qL (fJ bq dq dr Gv (bH [] pS) (aj aG ao))) (λ_ _ _ _ _=>dR) (λ_ _ _ _ _=>(Ox (d7 ju aG (tL pk fX) (bF _)) (jw (bD CJ Z.mono rL (aj aG ao)))))) ao)))))),?_⟩;calc⟨_,rL,p,ls,r,w,rL,hp,hb,r1,r9,w1,w9,λH1 s1=>⟨true,rL,cj ?_⟩⟩;calc⟨rL,_,rL,p,ls,rL,rL,aO.of (s1 _ _ hp),o6,_,rL,λL hL=>?_⟩;refine vQ (λi ys j=>ys=(List.replicate i true).map V.bl/\j L=some (.lst ys)/\aB H j) ⟨rL,aq,s1.dF (s1.free hL)⟩ ?_ ?_
 .intro i c ys j hi z;let⟨rfl,G,O⟩:=z;let Y:i<ls.flatten.length:=(ag.mp hi).1;let⟨l,hl,J⟩:=List.mem_flatten.mp (bo hi);let F:j L=some (.lst ((List.replicate i true).map V.bl))/\((List.replicate i true).map V.bl).length<sizeLine/\gY ls.flatten.length i ((List.replicate i true).map V.bl++[V.bl true]=(List.replicate (i+1) true).map V.bl/\upd j L (.lst ((List.replicate i true).map V.bl++[V.bl true])) L=some (.lst ((List.replicate i true).map V.bl++[V.bl true]))/\aB H (upd j L (.lst ((List.replicate i true).map V.bl++[V.bl true])))):=
   ⟨G,by rw[aa,cy];show aK o6,gY.mk Y ⟨wj i,aq,O.dF (s1.free hL)⟩⟩
  calc⟨_,rL,[c],[46],rL,rL,_,rL,?_⟩;rcases hc l hl c J with e|e
  .subst e;rw[al rfl];show cj F
  .by_cases I:[c]=[46]
   .rw[al I];show cj F
   .rw[ah I];calc bQ ⟨_,rL,.inr ⟨[c],rL,by show 1<=1000;decide,?_⟩⟩;rw[show Cz [c]=true from e];show F
 .intro ys j z;let⟨rfl,G,O⟩:=z;calc JA L _ ⟨rL,bB.of G,?_⟩;rw[yW];show q j O
def Vi:Sp:=λvs H Q _=>∃(p:Addr) (ls:AB) (r w:Nat),vs=[.ref p]/\H p=some (.tup (Ts ls))/\Blk r w ls/\1<=r/\r<=9/\1<=w/\w<=9/\(∀l∈ls,∀c∈l,Jk c)/\∀H',aB H H'->Q (.bl true) H'
def Qs (D:aM K mg "are_marks" tR ["thing"])(fj:mg "all"=none)(za:∃t,mg "MARKS"=some (.str (S MK) t))(Z:bV P w K mg base "is_block" 1 ["thing"] Ko):bV P w K mg base "are_marks" 2 ["thing"] Vi:=by
 calc D.cZ Cm (λf bG A outer s H vs Q E Y h=>?_);let⟨p,ls,r,w,rfl,hp,hb,r1,r9,w1,w9,hc,q⟩:=h;let hrw:r*w<=81:=fR r9 w9;let hfl:=GC hb;calc⟨_,(aF (bf (jN (bD Z Y.mono rL (aj aG ao)) (jw (aV (jK rL) pk fj jx (aj (jB rL (jc.of Cm.nd pE) (qL (fJ bq dq dr Gv (bH [] pS) (aj aG ao))) (λ_ _ _ _ _=>dR) (λ_ _ _ _ _=>(d7 agf aG (tL pk za) rL))) ao)))))),?_⟩;calc⟨_,rL,p,ls,r,w,rL,hp,hb,r1,r9,w1,w9,λH1 s1=>⟨true,rL,cj ?_⟩⟩;calc⟨rL,_,rL,p,ls,rL,rL,aO.of (s1 _ _ hp),o6,_,rL,λL O=>?_⟩;refine vQ (λi ys F=>ys=(List.replicate i true).map V.bl/\F L=some (.lst ys)/\aB H F) ⟨rL,aq,s1.dF (s1.free O)⟩ ?_ ?_
 .intro i c ys F hi z;let⟨rfl,j,I⟩:=z;let J:i<ls.flatten.length:=(ag.mp hi).1;let⟨l,hl,G⟩:=List.mem_flatten.mp (bo hi);calc⟨_,rL,c,MK,rL,rL,j,by rw[aa,cy];show aK o6,gY.mk J ⟨?_,aq,I.dF (s1.free O)⟩⟩;rw[al (show c∈MK from hc l hl c G)];show wj i
 .intro ys F z;let⟨rfl,j,I⟩:=z;calc JA L _ ⟨rL,bB.of j,?_⟩;rw[yW];show q F I
def GD (K:W.Frag):Sp:=λvs H Q _=>∃(p:Addr) (ls:AB) (r w:Nat) (i j:Int),vs=[.ref p,.int i,.int j]/\aO K H p (Ts ls)/\Blk r w ls/\1<=r/\r<=9/\w<=9/\Q (.bl (decide (0<=i/\i<r/\0<=j/\j<w))) H
def NZ (D:aM K mg "is_cell_of" oA ["rows","row","column"])(I:mg "len"=none)(J:bV P w K mg base "is_whole" 1 ["thing"] Vh):bV P w K mg base "is_cell_of" 2 ["rows","row","column"] (GD K):=by
 calc D.cZ Bo (λf bG A outer s H vs Q E G h=>?_);let⟨p,ls,r,w,i,j,rfl,hp,hb,r1,r9,w9,q⟩:=h;let O:(Ts ls).length=r:=by rw[aa,hb.len]
 let h0:0<ls.length:=by rw[hb.len];lia
 let F:ls[0].length=w:=hb.qT _ (aI _);calc⟨_,(aA (cB (QW.qt (lY (eG (dJ (bD J G.mono rL (aj aW ao)))) (jZ (eG (dJ (bD J G.mono rL (aj bA ao))))))) (aF (bf iu)) bJ) (aF (bf (jN (lJ pQ uT au aW (aV bW pk I ay (aj aG ao))) (jw (lJ pQ uT au bA (aV cY pk I ay (aj (aX bw aG au (λ_ _=>rfl)) ao)))))))),?_⟩;calc⟨_,rL,i,rL,_,rL,bQ ⟨_,rL,j,rL,_,rL,bQ ?_⟩⟩;calc⟨_,rL,_,_,rL,rL,_,rL,?_⟩;by_cases h1:0<=i
 .rw[al h1];calc cj ⟨_,rL,p,_,rL,.inr hp,_,_,rL,rL,_,rL,?_⟩;rw[O];by_cases h2:i<(r:Int)
  .rw[al h2];calc cj ⟨_,rL,_,_,rL,rL,_,rL,?_⟩;by_cases h3:0<=j
   .rw[al h3];calc cj ⟨_,rL,p,_,_,.str (S ls[0]),rL,rL,hp,aN (j:=0) (nD (by simp[h0])),_,rL,ap (aK o6),_,_,rL,rL,?_⟩;rw[F];simpa [h1,h2,h3] using q
   .rw[ah h3];calc bQ ?_;simpa [h1,h2,h3] using q
  .rw[ah h2];calc bQ ?_;simpa [h1,h2] using q
 .rw[ah h1];calc bQ ⟨_,rL,bQ ?_⟩;simpa [h1] using q
def Vj (K:W.Frag):Sp:=λvs H Q _=>∃(p b:Addr) (ls:AB) (r w:Nat) (i j:Nat),vs=[.ref p,.ref b]/\H p=some (.tup (Ts ls))/\H b=some (.tup [.int i,.int j])/\Blk r w ls/\1<=r/\r<=9/\w<=9/\i<r/\j<w/\Q (.bl true) H
def Kp (D:aM K mg "is_begin_of" pR ["rows","thing"])(O:mg "len"=none)(Y:mg "tuple"=none)(I:mg "isinstance"=none)(J:bV P w K mg base "is_cell_of" 2 ["rows","row","column"] (GD K)):bV P w K mg base "is_begin_of" 3 ["rows","thing"] (Vj K):=by calc D.cZ Kf (λf bG A outer s H vs Q E F h=>?_);let⟨p,b,ls,r,w,i,j,rfl,hp,hb,G,r1,r9,w9,hi,Z,q⟩:=h;calc⟨_,(aF (bf (jN (aV fQ pk I cp (aj aW (aj (jV (v:=.ty "tuple") pk Y c_ rL) ao))) (jN (d7 iH (aV bW pk O ay (aj aW ao)) au (bF _)) (jw (bD J F.mono rL (aj aG (aj (aX bw aW au (λ_ _=>rfl)) (aj (aX bw aW au (λ_ _=>rfl)) ao))))))))),?_⟩;calc⟨_,rL,_,_,_,true,rL,.tup hb,pE,true,rL,cj ?_⟩;calc⟨_,rL,b,_,rL,.inr (aO.of hb),rL,true,rL,cj ?_⟩;calc⟨_,rL,_,rL,b,_,_,.int i,rL,rL,aO.of hb,aN (j:=0) rL,_,rL,b,_,_,.int j,rL,rL,aO.of hb,aN (j:=1) rL,?_⟩;calc JO p ls r w i j ⟨rL,aO.of hp,G,r1,r9,w9,?_⟩;rw[al ⟨o6,o6,o6,o6⟩];show q
def Vk:Sp:=λvs H Q _=>∃(pr pm pb:Addr) (r w:Nat) (aD aL:AB) (i j:Nat),vs=[.ref pr,.ref pm,.ref pb]/\H pr=some (.tup (Ts aD))/\H pm=some (.tup (Ts aL))/\H pb=some (.tup [.int i,.int j])/\Qq r w aD aL i j/\∀H',aB H H'->Q (.bl true) H'
def T6 (D:aM K mg "is_board" vf ["rows","marks","begin"])(I:mg "len"=none)(Z:bV P w K mg base "are_rows" 2 ["thing"] Z_)(T7:bV P w K mg base "are_marks" 2 ["thing"] Vi)(N5:bV P w K mg base "is_begin_of" 3 ["rows","thing"] (Vj K)):bV P w K mg base "is_board" 4 ["rows","marks","begin"] Vk:=by
 calc D.cZ Tw (λf bG A outer s H vs Q E J h=>?_);let⟨pr,pm,pb,r,w,aD,aL,i,j,rfl,G,hm,hb,B,q⟩:=h;let l1:(Ts aD).length=r:=by rw[aa,B.br.len]
 let l2:(Ts aL).length=r:=by rw[aa,B.bm.len]
 let h0:0<aD.length:=by rw[B.br.len];show B.r1
 let Y:0<aL.length:=by rw[B.bm.len];show B.r1
 let w0:aD[0].length=w:=B.br.qT _ (aI _);let O:aL[0].length=w:=B.bm.qT _ (aI _);let w9:=B.w9;calc⟨_,(aA (cB (QW.qt (lY (eG (dJ (bD Z J.mono rL (aj aG ao)))) (jZ (eG (dJ (bD T7 J.mono rL (aj aW ao))))))) (aF (bf iu)) bJ) (aA (cB (QW.qt (lY (bM wN (aV bW pk I ay (aj aW ao)) (aV bW pk I ay (aj aG ao)) (bF _)) (jZ (bM wN (aV cY pk I ay (aj (aX bw aW au (λ_ _=>rfl)) ao)) (aV cY pk I ay (aj (aX bw aG au (λ_ _=>rfl)) ao)) (bF _))))) (aF (bf iu)) bJ) (aF (bf (bD N5 J.mono rL (aj aG (aj bA ao))))))),?_⟩;calc⟨_,rL,pr,aD,r,w,rL,G,B.br,B.r1,B.r9,B.w1,B.w9,B.cr,λH1 s1=>⟨_,rL,bQ ?_⟩⟩;calc⟨_,rL,pm,aL,r,w,rL,s1 _ _ hm,B.bm,B.r1,B.r9,B.w1,B.w9,B.cm,λH2 s2=>⟨_,rL,bQ ?_⟩⟩;let F:=s1.trans s2;calc⟨_,rL,pm,_,rL,.inr (aO.of (F _ _ hm)),_,rL,pr,_,rL,.inr (aO.of (F _ _ G)),rL,_,rL,?_⟩;calc Ou (by rw[l1,l2]) ?_;calc⟨_,rL,pm,_,_,.str (S aL[0]),rL,rL,aO.of (F _ _ hm),aN (j:=0) (nD (by simp[Y])),_,rL,ap (aK o6),_,rL,pr,_,_,.str (S aD[0]),rL,rL,aO.of (F _ _ G),aN (j:=0) (nD (by simp[h0])),_,rL,ap (aK o6),rL,_,rL,?_⟩;calc Ou (by rw[w0,O]) ?_;calc⟨_,rL,_,rL,pr,pb,aD,r,w,i,j,rL,F _ _ G,F _ _ hb,B.br,B.r1,B.r9,B.w9,B.bi,B.bj,?_⟩;show q H2 F
structure gA (K:W.Frag)(C:Addr):Prop where
 cl:Cls K C
 nr:iD K C "rows"
 nm:iD K C "marks"
 nb:iD K C "begin"
structure cM (C:Addr)(H:Hp)(p:Addr)(r w:Nat)(aD aL:AB)(i j:Nat):Prop where
 ex:∃dx pr pm pb,H p=some (.ins C dx [("rows",.ref pr),("marks",.ref pm),("begin",.ref pb)])/\H pr=some (.tup (Ts aD))/\H pm=some (.tup (Ts aL))/\H pb=some (.tup [.int i,.int j])
 ok:Qq r w aD aL i j
def cM.mv {C:Addr}{H H':Hp}{p:Addr}{r w:Nat}{aD aL:AB}{i j:Nat}(B:cM C H p r w aD aL i j)(s:aB H H'):cM C H' p r w aD aL i j:=by obtain⟨⟨dx,pr,pm,pb,a,b,c,d⟩,o⟩:=B;show⟨(JI dx pr pm pb ⟨s _ _ a,s _ _ b,s _ _ c,s _ _ d⟩),o⟩
def Kq (C:Addr):Sp:=λvs H Q _=>∃(p dx pr pm pb:Addr) (r w:Nat) (aD aL:AB) (i j:Nat),vs=[.ref p,.ref pr,.ref pm,.ref pb]/\H p=some (.ins C dx [])/\H pr=some (.tup (Ts aD))/\H pm=some (.tup (Ts aL))/\H pb=some (.tup [.int i,.int j])/\Qq r w aD aL i j/\
 ∀H',(∀b o,H b=some o->b≠p->H' b=some o)->H' p=some (.ins C dx [("rows",.ref pr),("marks",.ref pm),("begin",.ref pb)])->Q .non H'
def N6 {f C:Addr}{fd:FuncData}(F:dX K "__init__" "Board.__init__" j5 f fd)(T:gA K C)(J:bV P w K mg base "is_board" 4 ["rows","marks","begin"] Vk):bZ P w K mg base dz 5 f fd ["self","rows","marks","begin"] (Kq C):=by
 calc F.cZ NK (λbG A outer s H vs Q E I h=>?_);let⟨p,dx,pr,pm,pb,r,w,aD,aL,i,j,rfl,hp,G,hm,hb,B,q⟩:=h;calc⟨_,(aA (cB (eG (dJ (bD J I.mono rL (aj aW (aj bA (aj bI ao)))))) qp bJ) (aA (k_ aG aW rL) (aA (k_ aG bA rL) (aF (k_ aG bI rL))))),?_⟩;calc⟨_,rL,_,rL,_,rL,pr,pm,pb,r,w,aD,aL,i,j,rL,G,hm,hb,B,λH1 s1=>⟨_,rL,bQ ?_⟩⟩;calc⟨_,rL,_,rL,p,C,dx,_,rL,s1 _ _ hp,T.cl,T.nr,by show 0<1000;decide,?_⟩;calc⟨_,rL,_,rL,p,C,dx,_,rL,aq,T.cl,T.nm,by show 1<1000;decide,?_⟩;calc⟨_,rL,_,rL,p,C,dx,_,rL,aq,T.cl,T.nb,by show 2<1000;decide,?_⟩;calc q _ (λb o e D=>?_) ?_;.rw[aP D,aP D,aP D];show s1 _ _ e
 .show aq
noncomputable def atC (aD:AB)(r w:Nat)(i j:Int):Nat:=if 0<=i/\i<r/\0<=j/\j<w then (aD.getD i.toNat []).getD j.toNat 0 else 46
def XC (C:Addr):Sp:=λvs H Q _=>∃(p:Addr) (r w:Nat) (aD aL:AB) (bi bj:Nat) (i j:Int),vs=[.ref p,.int i,.int j]/\cM C H p r w aD aL bi bj/\Q (.str (S [atC aD r w i j])) H
def aii {f C:Addr}{fd:FuncData}(F:dX K "at" "Board.at" nj f fd)(T:gA K C)(J:∃t,mg "FREE"=some (.str (S [46]) t))(Z:bV P w K mg base "is_cell_of" 2 ["rows","row","column"] (GD K)):bZ P w K mg base dz 3 f fd ["self","row","column"] (XC C):=by
 calc F.cZ Tz (λbG A outer s H vs Q E Y h=>?_);let⟨p,r,w,aD,aL,bi,bj,i,j,rfl,B,q⟩:=h;obtain⟨⟨dx,pr,pm,pb,hp,G,hm,hb⟩,O⟩:=B;let w9:=O.w9;calc⟨_,(aF (bf (mZ (dJ (bD Z Y.mono rL (aj (bO aG rL) (aj aW (aj bA ao))))) (aX zM (aX bw (bO aG rL) aW (λ_ _=>rfl)) bA (λ_ _=>rfl)) (tL pk J)))),?_⟩;calc⟨_,rL,p,C,dx,_,_,rL,hp,T.cl,T.nr,rL,_,rL,_,rL,pr,aD,r,w,i,j,rL,aO.of G,O.br,O.r1,O.r9,O.w9,_,rL,?_⟩;by_cases h:0<=i/\i<r/\0<=j/\j<w
 .rw[al h];let e:atC aD r w i j=(aD.getD i.toNat []).getD j.toNat 0:=if_pos h;rw[e]at q;obtain⟨i,rfl⟩:∃k:Nat,i=k:=⟨i.toNat,o6⟩
  obtain⟨j,rfl⟩:∃k:Nat,j=k:=⟨j.toNat,o6⟩
  rw[dP,dP]at q;let hi:i<aD.length:=by rw[O.br.len];lia
  let D:aD[i]?=some (aD.getD i []):=by rw[ax,ac hi];rfl
  let hw:(aD.getD i []).length=w:=O.br.qT _ (bo D);let I:(aD.getD i [])[j]?=some ((aD.getD i []).getD j 0):=by rw[ax (l:=aD.getD i []),ac o6];rfl
  refine cj ⟨_,rL,p,C,dx,_,_,rL,hp,T.cl,T.nr,rL,_,rL,pr,_,_,_,rL,rL,aO.of G,aN (nD D),_,rL,_,_,_,rL,rL,ap (aK o6),aN I,q⟩
 .rw[ah h];let e:atC aD r w i j=46:=if_neg h;rw[e]at q;show bQ q
def isFree (aD:AB):Bool:=aD.flatten.all λc=>decide ([c]=[46])
def Qt (C:Addr):Sp:=λvs H Q _=>∃(p:Addr) (r w:Nat) (aD aL:AB) (bi bj:Nat),vs=[.ref p]/\cM C H p r w aD aL bi bj/\∀H',aB H H'->Q (.bl (isFree aD)) H'
def XF {f C:Addr}{fd:FuncData}(F:dX K "is_free" "Board.is_free" iR f fd)(T:gA K C)(fj:mg "all"=none)(Z:∃t,mg "FREE"=some (.str (S [46]) t)):bZ P w K mg base dz 1 f fd ["self"] (Qt C):=by
 calc F.cZ vW (λbG A outer s H vs Q E hr h=>?_);let⟨p,r,w,aD,aL,bi,bj,rfl,B,q⟩:=h;obtain⟨⟨dx,pr,pm,pb,hp,G,hm,hb⟩,O⟩:=B;let hrw:r*w<=81:=fR O.r9 O.w9;let hfl:=GC O.br;calc⟨_,(aF (bf (aV (jK rL) pk fj jx (aj (jB rL (jc.of vW.nd pE) (qL (fJ bq dq dr Gv (bH [] pS) (aj (bO aG rL) ao))) (λ_ _ _ _ _=>dR) (λ_ _ _ _ _=>(d7 ju aG (tL pk Z) (bF _)))) ao)))),?_⟩;calc⟨rL,_,rL,p,C,dx,_,_,rL,hp,T.cl,T.nr,rL,pr,aD,rL,rL,aO.of G,o6,_,rL,λL Y=>?_⟩;refine vQ (λi ys D=>ys=((aD.flatten.take i).map λc=>decide ([c]=[46])).map V.bl/\D L=some (.lst ys)/\aB H D) ⟨rL,aq,aB.upd Y⟩ ?_ ?_
 .intro i c ys D hi z;let⟨rfl,j,I⟩:=z;let J:i<aD.flatten.length:=(ag.mp hi).1;calc⟨_,rL,[c],[46],rL,rL,j,?_,gY.mk J ⟨?_,aq,I.dF Y⟩⟩;.rw[aa,aa,am];show aK o6
  .rw[cz,hi];simp
 .intro ys D z;let⟨rfl,j,I⟩:=z;rw[ce]at j;calc JA L _ ⟨rL,bB.of j,?_⟩;let e:((aD.flatten.map λc=>decide ([c]=[46])).all id)=isFree aD:=by
   unfold isFree;rw[List.all_map];rfl
  rw[e];show q D I
def OJ (aD:AB)(j:Nat):List Nat:=aD.map λl=>l.getD j 0
def lineOf (aD:AB)(i j:Nat)(way:Int):List Nat:=if way=0 then aD.getD i [] else OJ aD j
def placeOf (i j:Nat)(way:Int):Nat:=if way=0 then j else i
def adl:Sp:=λvs H Q _=>∃(p:Addr) (aD:AB) (r w j:Nat),vs=[.ref p,.int j]/\H p=some (.tup (Ts aD))/\Blk r w aD/\r<=9/\w<=9/\j<w/\∀H',aB H H'->Q (.str (S (OJ aD j))) H'
def Kr (D:aM K mg "column_text" pU ["rows","column"]):bV P w K mg base "column_text" 1 ["rows","column"] adl:=by
 calc D.cZ yU (λf bG A outer s H vs Q E hr h=>?_);let⟨p,aD,r,w,j,rfl,hp,hb,r9,w9,hj,q⟩:=h;calc⟨_,(aF (bf (fJ bq dq dr qm (bH [] pS) (aj (jB rL (jc.of yU.nd pE) (gM aG) (λ_ _ _ _ _=>dR) (λ_ _ _ _ _=>(aX zM aG bA (λ_ _=>rfl)))) ao)))),?_⟩;let Z:(Ts aD).length=r:=by rw[aa,hb.len]
 refine⟨rL,_,rL,p,rL,⟨_,aO.of hp⟩,λL O=>qj (xs:=Ts aD) (λi ys G=>ys=Ts (ones ((aD.take i).map λl=>l.getD j 0))/\G L=some (.lst ys)/\aB H G) ⟨rL,aq,aB.upd O⟩ (λi ys G _ h=>aO.of (h.2.2 _ _ hp)) ?_ ?_⟩
 .intro i x ys G hi z;let⟨rfl,F,I⟩:=z;let⟨l,hl,rfl⟩:=wg hi;let J:i<(Ts aD).length:=(ag.mp hi).1;let Y:l.length=w:=hb.qT _ (bo hl);calc⟨_,rL,_,rL,l,_,l.getD j 0,rL,rL,ap (aK o6),?_,F,?_,gY.mk J ⟨?_,aq,I.dF O⟩⟩;.show aN (by rw[ax,ac o6];rfl)
  .rw[aa,aa,aa,am];show aK o6
  .rw[Km,Z9,cz,hl];simp
 .intro ys G z;let⟨rfl,F,I⟩:=z;rw[Z,<-hb.len,ce]at F;calc JA L _ ⟨rL,rL,bB.of F,?_,?_⟩;.rw[lZ,aa,hb.len];lia
  .rw[lZ];show q G I
def vq {r w:Nat}{aD:AB}(hb:Blk r w aD){i j:Nat}(hi:i<r){way:Int}:(lineOf aD i j way).length=if way=0 then w else r:=by
 unfold lineOf;by_cases h:way=0
 .rw[if_pos h,if_pos h,ax,ac (by rw[hb.len];show hi)];show hb.qT _ (aI _)
 .rw[if_neg h,if_neg h];unfold OJ;rw[aa,hb.len]
def qz (l:List Nat):(iy l).length<=l.length:=by unfold iy;rw[List.length_reverse];show bP (List.takeWhile_prefix _).length_le (by rw[List.length_reverse];show ai _)
def xG (l:List Nat):(jr l).length<=l.length:=(List.takeWhile_prefix _).length_le
noncomputable def abV (i j:Nat)(way:Int)(l:List Nat):List V:=if way=0 then [.int i,.int ((j:Int)-(iy (l.take j)).length),.str (S (iy (l.take j)++jr (l.drop j)))] else [.int ((i:Int)-(iy (l.take i)).length),.int j,.str (S (iy (l.take i)++jr (l.drop i)))]
def adn (C:Addr):Sp:=λvs H Q _=>∃(p:Addr) (r w:Nat) (aD aL:AB) (bi bj i j:Nat) (way:Int),vs=[.ref p,.int i,.int j,.int way]/\cM C H p r w aD aL bi bj/\i<r/\j<w/\(way=0\/way=1)/\
 ∀(t:Addr) (H':Hp),aB H H'->H t=none->H' t=some (.tup (abV i j way (lineOf aD i j way)))->Q (.ref t) H'
def agL {f C:Addr}{fd:FuncData}(F:dX K "run" "Board.run" lM f fd)(T:gA K C)(bh:mg "len"=none)(fX:∃t,mg "FREE"=some (.str (S [46]) t))(N7:bV P w K mg base "column_text" 1 ["rows","column"] adl):bZ P w K mg base dz 2 f fd ["self","row","column","way"] (adn C):=by
 calc F.cZ mK (λbG A outer s H vs Q E hr h=>?_);let⟨p,r,w,aD,aL,bi,bj,i,j,way,rfl,B,hi,hj,Z,q⟩:=h;obtain⟨⟨dx,pr,pm,pb,hp,Y,hm,hb⟩,O⟩:=B;let r9:=O.r9;let w9:=O.w9;calc⟨_,(aA (aU (i:=4) mK.nd rL (Or.inl rL) (mZ (bM iH bI au (bF _)) (aX bw (bO aG rL) aW (λ_ _=>rfl)) (bD N7 hr.mono rL (aj (bO aG rL) (aj bA ao))))) (aA (aU (i:=5) mK.nd rL (Or.inl rL) (mZ (bM iH bI au (bF _)) bA aW)) (aA (aU (i:=6) mK.nd rL (Or.inl rL) (aX bw (fJ bq PySem.F.slot_str_rpartition PySem.F.type_str_rpartition abG (dh pA cL d8 (dD cT)) (aj (tL pk fX) ao)) au (λ_ _=>rfl))) (aA (aU (i:=7) mK.nd rL (Or.inl rL) (aJ mF dW (aX bw (fJ bq PySem.F.slot_str_partition PySem.F.type_str_partition ad3 (dh pA cL (dD cT) d8) (aj (tL pk fX) ao)) au (λ_ _=>rfl)))) (aA (aU (i:=8) mK.nd rL (Or.inl rL) (aJ nJ cT (aV cY pk bh ay (aj dW ao)))) (aF (bf (mZ (bM iH bI au (bF _)) (cO (aj aW (aj jq (aj iw ao)))) (cO (aj jq (aj bA (aj iw ao)))))))))))),?_⟩;let D:aD[i]?=some (aD.getD i []):=by rw[ax,ac (by rw[O.br.len];show hi)];rfl
 rcases Z with rfl|rfl
 .let G:(lineOf aD i j 0).length=w:=vq O.br hi;let el:aD.getD i []=lineOf aD i j 0:=rfl;rw[el]at D;let hz:∀l:List Nat,l.length<=100->l.length<=sizeLine:=λl h=>ap (aK o6);calc⟨_,rL,rL,_,rL,cj ?_⟩;calc⟨_,rL,p,C,dx,_,_,rL,hp,T.cl,T.nr,rL,_,rL,pr,_,_,_,rL,rL,aO.of Y,aN (nD D),?_⟩;generalize hL:lineOf aD i j 0=l at G D ⊢;calc⟨_,rL,rL,_,rL,cj ⟨_,rL,?_⟩⟩;calc⟨_,rL,_,rL,_,rL,l,rL,hz _ o6,rL,?_⟩;rw[ZG];calc⟨_,rL,rL,by rw[am];lia,λp1 a1 b1 J=>?_⟩;calc JI p1 _ _ _ ⟨rL,rL,aO.of aq,aN (j:=2) rL,?_⟩;let s1:aB H (upd H p1 (.tup [.str a1,.str b1,.str (S (iy (l.take j)))])):=aB.upd J;generalize upd H p1 (.tup [.str a1,.str b1,.str (S (iy (l.take j)))])=H1 at s1 ⊢;let t1:=qz (l.take j);let t2:=xG (l.drop j);rw[am]at t1;rw[bc]at t2;calc⟨_,rL,_,rL,_,rL,_,rL,l,rL,hz _ o6,rL,?_⟩;rw[Qd];calc⟨_,rL,rL,by rw[bc];lia,λp2 b2 c2 I=>?_⟩;calc JI p2 _ _ _ ⟨rL,rL,aO.of aq,aN (j:=0) rL,_,_,rL,rL,ap (aK o6),?_⟩;let s2:=s1.dF (o:=HO.tup [.str (S (jr (l.drop j))),.str b2,.str c2]) (s1.free I);generalize upd H1 p2 (HO.tup [.str (S (jr (l.drop j))),.str b2,.str c2])=H2 at s2 ⊢;calc⟨_,rL,_,rL,_,rL,hz _ o6,_,_,rL,rL,?_⟩;calc⟨_,rL,rL,_,rL,cj ?_⟩;calc⟨_,rL,_,rL,_,rL,zsz 3,λt ht=>?_⟩;show q t _ (s2.dF (s2.free ht)) (s2.free ht) (by rw[aq,hL];rfl)
 .let G:(lineOf aD i j 1).length=r:=vq O.br hi;let el:OJ aD j=lineOf aD i j 1:=rfl;let hz:∀l:List Nat,l.length<=100->l.length<=sizeLine:=λl h=>ap (aK o6);calc⟨_,rL,rL,_,rL,bQ ?_⟩;calc⟨_,rL,p,C,dx,_,_,rL,hp,T.cl,T.nr,rL,_,rL,pr,aD,r,w,j,rL,Y,O.br,r9,w9,hj,λH0 s0=>?_⟩;rw[el];generalize hL:lineOf aD i j 1=l at G ⊢;calc⟨_,rL,rL,_,rL,bQ ⟨_,rL,?_⟩⟩;calc⟨_,rL,_,rL,_,rL,l,rL,hz _ o6,rL,?_⟩;rw[ZG];calc⟨_,rL,rL,by rw[am];lia,λp1 a1 b1 J=>?_⟩;calc JI p1 _ _ _ ⟨rL,rL,aO.of aq,aN (j:=2) rL,?_⟩;let s1:aB H (upd H0 p1 (.tup [.str a1,.str b1,.str (S (iy (l.take i)))])):=s0.dF (s0.free J);generalize upd H0 p1 (.tup [.str a1,.str b1,.str (S (iy (l.take i)))])=H1 at s1 ⊢;let t1:=qz (l.take i);let t2:=xG (l.drop i);rw[am]at t1;rw[bc]at t2;calc⟨_,rL,_,rL,_,rL,_,rL,l,rL,hz _ o6,rL,?_⟩;rw[Qd];calc⟨_,rL,rL,by rw[bc];lia,λp2 b2 c2 I=>?_⟩;calc JI p2 _ _ _ ⟨rL,rL,aO.of aq,aN (j:=0) rL,_,_,rL,rL,ap (aK o6),?_⟩;let s2:=s1.dF (o:=HO.tup [.str (S (jr (l.drop i))),.str b2,.str c2]) (s1.free I);generalize upd H1 p2 (HO.tup [.str (S (jr (l.drop i))),.str b2,.str c2])=H2 at s2 ⊢;calc⟨_,rL,_,rL,_,rL,hz _ o6,_,_,rL,rL,?_⟩;calc⟨_,rL,rL,_,rL,bQ ?_⟩;calc⟨_,rL,_,rL,_,rL,zsz 3,λt ht=>?_⟩;show q t _ (s2.dF (s2.free ht)) (s2.free ht) (by rw[aq,hL];rfl)
abbrev bR:=Nat×Nat×Nat
def wk (H:Hp)(a:Addr)(t:bR):Prop:=H a=some (.tup [.int t.1,.int t.2.1,.str (S [t.2.2])])
noncomputable def tO (H:Hp)(a:Addr):bR:=match H a with| some (.tup [.int x,.int y,.str z])=>(x.toNat,y.toNat,z.cps.toList.headD 0)| _=>(0,0,0)
def Jl {H:Hp}{a:Addr}{t:bR}(h:wk H a t):tO H a=t:=by unfold tO;rw[show H a=_ from h];rfl
structure eE (H:Hp)(as:List Addr)(ts:List bR):Prop where
 at_:∀a∈as,wk H a (tO H a)
 eq:as.map (tO H)=ts
def eE.Jm {H H':Hp}{as:List Addr}{ts:List bR}(k:∀a xs,H a=some (.tup xs)->H' a=some (.tup xs))(h:eE H as ts):eE H' as ts:=by let e:∀a∈as,tO H' a=tO H a:=λa ha=>Jl (k a _ (h.at_ a ha));show⟨λa ha=>by rw[e a ha];show k a _ (h.at_ a ha),by rw[<-h.eq];show fo e⟩
def eE.mv {H H':Hp}{as:List Addr}{ts:List bR}(k:aB H H')(h:eE H as ts):eE H' as ts:=h.Jm λa xs e=>k a _ e
def eE.snoc {H:Hp}{as:List Addr}{ts:List bR}{a:Addr}{t:bR}(h:eE H as ts)(ha:wk H a t):eE H (as++[a]) (ts++[t]):=by
 calc⟨λb hb=>?_,by rw[bv,h.eq,List.map_singleton,Jl ha]⟩;rcases bz.mp hb with z|z;.show h.at_ b z
 .rw[aS.mp z,Jl ha];show ha
def eE.nil {H:Hp}:eE H [] []:=⟨λa h=>by simp at h,rL⟩
def eE.len {H:Hp}{as:List Addr}{ts:List bR}(h:eE H as ts):as.length=ts.length:=by rw[<-h.eq,aa]
def eE.get {H:Hp}{as:List Addr}{ts:List bR}(h:eE H as ts){i:Nat}(hi:i<as.length):∃t,ts[i]?=some t/\wk H as[i] t:=⟨tO H as[i],by rw[<-h.eq];simp[hi],h.at_ _ (aI _)⟩
def setAt (R:AB)(i j z:Nat):List (List Nat):=R.set i ((R.getD i []).set j z)
def dO (R:AB)(ts:List bR):List (List Nat):=ts.foldl (λR t=>setAt R t.1 t.2.1 t.2.2) R
def Vl {r w:Nat}{R:AB}(h:Blk r w R){i j z:Nat}(hi:i<r):Blk r w (setAt R i j z):=by
 calc⟨by unfold setAt;rw[ej,h.len],λl hl=>?_⟩;rcases ft hl with y|y;.show h.qT l y
 .rw[y,ej,ax,ac (by rw[h.len];show hi)];show h.qT _ (aI _)
def ael {r w:Nat}{R:AB}(h:Blk r w R){i j z:Nat}(hi:i<r){D:Nat->Prop}(hp:∀l∈R,∀c∈l,D c)(hz:D z):∀l∈setAt R i j z,∀c∈l,D c:=λl hl c F=>by
 rcases ft hl with y|y;.show hp l y c F
 .rw[y]at F;rcases ft F with u|u
  .rw[ax,ac (by rw[h.len];show hi)]at u;show hp _ (aI _) c u
  .rw[u];show hz
def inB (r w:Nat)(t:bR):Prop:=t.1<r/\t.2.1<w/\pK t.2.2
theorem su {r w:Nat}:∀{ts:List bR} {R:AB},Blk r w R->(∀t∈ts,inB r w t)->Blk r w (dO R ts)
 | [],_,h,_=>h
 | t::ts,_,h,k=>su (ts:=ts) (Vl h (k t cf).1) λx hx=>k x (bE _ hx)
theorem GJ {r w:Nat}:∀{ts:List bR} {R:AB},Blk r w R->(∀t∈ts,inB r w t)->(∀l∈R,∀c∈l,Bp c)->∀l∈dO R ts,∀c∈l,Bp c
 | [],_,_,_,g=>g
 | t::ts,_,h,k,g=>GJ (ts:=ts) (Vl h (k t cf).1) (λx hx=>k x (bE _ hx)) (ael h (k t cf).1 g (.inr (k t cf).2.2))
def abW {r w:Nat}{aD aL:AB}{bi bj:Nat}(B:Qq r w aD aL bi bj){ts:List bR}(k:∀t∈ts,inB r w t):Qq r w (dO aD ts) aL bi bj:=⟨B.r1,B.r9,B.w1,B.w9,su B.br k,B.bm,GJ B.br k B.cr,B.cm,B.bi,B.bj⟩
def aac (R:AB)(ts:List bR)(t:bR):dO R (ts++[t])=setAt (dO R ts) t.1 t.2.1 t.2.2:=by unfold dO;rw[List.foldl_append];rfl
structure jl (H0 H:Hp)(ps:List Addr)(R:AB):Prop where
 len:ps.length=R.length
 nd:ps.Nodup
 fr:∀p∈ps,H0 p=none
 at_:∀(i:Nat) (h:i<ps.length),H ps[i]=some (.lst (Ts (ones (R.getD i []))))
def jl.mv {H0 H H':Hp}{ps:List Addr}{R:AB}(h:jl H0 H ps R)(k:∀p∈ps,H' p=H p):jl H0 H' ps R:=⟨h.len,h.nd,h.fr,λi hi=>by rw[k _ (aI _)];show h.at_ i hi⟩
def jl.mvS {H0 H H':Hp}{ps:List Addr}{R:AB}(h:jl H0 H ps R)(k:aB H H'):jl H0 H' ps R:=⟨h.len,h.nd,h.fr,λi hi=>k _ _ (h.at_ i hi)⟩
def jl.snoc {H0 H:Hp}{ps:List Addr}{R:AB}(h:jl H0 H ps R){p:Addr}{l:List Nat}(hn:p∉ps)(h0:H0 p=none)(hp:H p=some (.lst (Ts (ones l)))):jl H0 H (ps++[p]) (R++[l]):=by
 refine⟨by simp[h.len],?_,λx hx=>?_,λi hi=>?_⟩
 .rw[List.nodup_append];calc⟨h.nd,pi,λa ha b hb=>?_⟩;rw[aS.mp hb];show λz=>hn (z ▸ ha)
 .rcases bz.mp hx with z|z;.show h.fr x z
  .rw[aS.mp z];show h0
 .by_cases c:i<ps.length;.rw[List.getElem_append_left c,h.at_ i c,ax,ax,a9 (by rw[<-h.len];show c)]
  .let e:i=ps.length:=by simp at hi;lia
   subst e;rw[List.getElem_append_right (ai _)];simp only[gd,List.getElem_singleton];rw[hp,ax,be (by rw[h.len];show ai _),h.len];simp
def jl.set {H0 H:Hp}{ps:List Addr}{R:AB}(h:jl H0 H ps R){i j z:Nat}(hi:i<ps.length):jl H0 (upd H ps[i] (.lst ((Ts (ones (R.getD i []))).set j (.str (S [z]))))) ps (setAt R i j z):=by
 let e:(Ts (ones (R.getD i []))).set j (.str (S [z]))=Ts (ones ((R.getD i []).set j z)):=by show List.set (((R.getD i []).map λc=>[c]).map λl=>V.str (S l)) j (V.str (S [z]))=((List.set (R.getD i []) j z).map λc=>[c]).map λl=>V.str (S l);rw[mE,mE]
 rw[e];calc⟨by unfold setAt;rw[ej];show h.len,h.nd,h.fr,λk D=>?_⟩;by_cases c:k=i
 .subst c;rw[aq];unfold setAt;rw[ax (l:=R.set _ _),ja (by rw[<-h.len];show hi)];rfl
 .rw[aP (λz=>c ((List.getElem_inj h.nd).mp z)),h.at_ k D];unfold setAt;rw[ax (l:=R.set _ _),mh (λz=>c z.symm),<-ax]
def CK (C:Addr):Sp:=λvs H Q _=>∃(p t:Addr) (as:List Addr) (ts:List bR) (r w:Nat) (aD aL:AB) (bi bj:Nat),vs=[.ref p,.ref t]/\cM C H p r w aD aL bi bj/\H t=some (.tup (as.map V.ref))/\eE H as ts/\(∀t∈ts,inB r w t)/\
 ∀(j:Addr) (H':Hp),aB H H'->cM C H' j r w (dO aD ts) aL bi bj->Q (.ref j) H'
def aem {f C f0:Addr}{fd dY:FuncData}(F:dX K "laid" "Board.laid" j6 f fd)(T:gA K C)(ig:mg "list"=none)(cI:mg "tuple"=none)(GP:mg "Board"=some (.ref C))(Ks:Mk K C f0)(Ku:bZ P w K mg base dz 5 f0 dY ["self","rows","marks","begin"] (Kq C))(Kv:bN K dY ["self","rows","marks","begin"] []):bZ P w K mg base dz 8 f fd ["self","laying"] (CK C):=by
 calc F.cZ kZ (λbG A outer s H vs Q E hr h=>?_);let⟨p,t,as,ts,r,w,aD,aL,bi,bj,rfl,BA,ht,hL,dU,q⟩:=h;obtain⟨⟨dx,pr,pm,pb,hx,hpr,hpm,hpb⟩,B⟩:=BA;let r9:=B.r9;let w9:=B.w9;let Y:=B.br;calc⟨_,(aA (U9 (ix:=2) (ns:=["row"]) kZ.nd rL (Or.inl rL) rL (jA.of ["self","laying","lines",".3","column","sign"] [3] pE) (gM (bO aG rL)) (λ_ _ _ _ _=>(J8 (show (["row","self","laying","lines",".3","column","sign"]:List Str).Nodup by decide +kernel) rL pk)) (λ_ _ _ _ _=>dR) (λ_ _ _ _ _=>(eU (m_ rL) pk ig fk (aj aG ao)))) (aA (fD cK rL (gM aW) (nO rL (bU (bC (i:=3) kZ.nd rL (Or.inl rL)) (bU (bC (i:=4) kZ.nd rL (Or.inl rL)) (bU (bC (i:=5) kZ.nd rL (Or.inl rL)) kY)))) (aF (pH cT (PX (aX fH bA bI (λ_ _=>rfl)) cL set_list)))) (aF (bf (qu Ks Ku hr.mono rL GP Kv .nil dM (aj (eU iZ pk cI c_ (aj (jB rL (jc.of kZ.nd pE) (mG bA) (λ_ _ _ _ _=>dR) (λ_ _ _ _ _=>(Qc K bq dq dr (Gw K) (bH [] pS) (aj aG ao)))) ao)) (aj (bO aG rL) (aj (bO aG rL) ao)))))))),?_⟩;refine⟨_,rL,p,C,dx,_,_,rL,hx,T.cl,T.nr,rL,pr,rL,⟨_,aO.of hpr⟩,λM hM=>Iw (f:=jC [3] 0) (tt:=lH) (xs:=Ts aD) (λi ys H2=>∃ps:List Addr,ys=ps.map V.ref/\H2 M=some (.lst ys)/\aB H H2/\jl H H2 ps (aD.take i)/\M∉ps)
  ⟨[],rL,aq,aB.upd hM,⟨pi,o0,λp h=>by simp at h,λi h=>by simp at h⟩,pi⟩ (λi ys H2 _ h=>by let⟨_,_,_,G,_⟩:=h;show aO.of (G _ _ hpr)) ?_ ?_⟩
 .intro i x ys H2 hi z;let⟨ps,rfl,Jo,G,Vm,nM⟩:=z;let⟨l,hl,rfl⟩:=wg hi;let hil:i<(Ts aD).length:=(ag.mp hi).1;let hlw:l.length=w:=Y.qT _ (bo hl);let pN:(Ts aD).length=r:=by rw[aa,Y.len]
  let hpl:ps.length<=9:=by rw[Vm.len,am,Y.len];lia
  calc adi ⟨_,rL,l,rL,o6,λc hc=>?_⟩;let ncM:M≠c:=λz=>by rw[<-z,Jo]at hc;cases hc
  let ncp:c∉ps:=λz=>by let⟨k,hk,e⟩:=ij.mp z;have:=Vm.at_ k hk;rw[e,hc]at this;cases this
  refine⟨by rw[aP ncM];show Jo,by rw[aa];show aK o6,gY.mk hil ⟨ps++[c],pi,aq,(G.dF (G.free hc)).dF hM,?_,?_⟩⟩
  .rw[show aD.take (i+1)=aD.take i++[l] by rw[cz,hl];rfl];calc jl.mv ((Vm.mvS (aB.upd hc)).snoc ncp (G.free hc) aq) λy hy=>aP λz=>?_;rcases bz.mp hy with u|u
   .show nM (z ▸ u)
   .show ncM (z.symm.trans (aS.mp u))
  .intro z;rcases bz.mp z with u|u;.show nM u
   .show ncM (aS.mp u)
 .intro ys H2 z;let⟨ps,rfl,Jo,G,Vm,nM⟩:=z;rw[b9 (by rw[aa];show ai _)]at Vm;refine⟨_,rL,t,rL,⟨_,aO.of (G _ _ ht)⟩,Ek (K:=K) (a:=t) (xs:=as.map V.ref) (λi σ H3=>∃v3 v4 v5:Option V,σ=[some (.ref p),some (.ref t),some (.ref M),v3,v4,v5]/\aB H H3/\H3 M=some (.lst (ps.map V.ref))/\jl H H3 ps (dO aD (ts.take i)))
   (JE none none none ⟨rL,G,Jo,Vm⟩) (λi σ H3 _ h=>by let⟨_,_,_,_,G,_⟩:=h;show aO.of (G _ _ ht)) ?_ ?_⟩
  .intro i x σ H3 j z;let⟨v3,v4,v5,rfl,D,FZ,I⟩:=z;rw[ck]at j;let hi:i<as.length:=by
    rcases Nat.lt_or_ge i as.length with z|z;.show z
    .rw[List.getElem?_eq_none z]at j;cases j
   rw[ac hi]at j;let j:V.ref as[i]=x:=bp j;subst j;let⟨u,eu,hU⟩:=hL.get hi;let hum:=bo eu;let⟨u1,u2,u3⟩:=dU u hum;let hb3:Blk r w (dO aD (ts.take i)):=su Y λy hy=>dU y (cE hy);let hpl:ps.length=r:=by rw[I.len,hb3.len]
   let hps:u.1<ps.length:=o6;calc JA (as[i]) _ ⟨rL,aO.of (D _ _ hU),rL,_,_,rL,_,_,rL,_,_,rL,rL,?_⟩;refine⟨_,rL,_,rL,_,rL,M,_,_,.ref ps[u.1],rL,rL,bB.of FZ,aN (by simp[hps]),_,rL,ps[u.1],_,_,u.2.1,rL,rL,I.at_ u.1 hps,?_,?_⟩
   .have:((dO aD (ts.take i)).getD u.1 []).length=w:=by
     rw[ax,ac (by rw[hb3.len];show u1)];show hb3.qT _ (aI _)
    unfold Bm;rw[aa,aa,this,if_pos o6,if_pos o6];congr 1
   .refine JE _ _ _ ⟨rL,D.dF (I.fr _ (aI _)),?_,?_⟩
    .let ne:M≠ps[u.1]:=λz=>nM (by rw[z];show aI _)
     rw[aP ne];show FZ
    .rw[show dO aD (ts.take (i+1))=setAt (dO aD (ts.take i)) u.1 u.2.1 u.2.2 by rw[cz,eu];show aac _ _ _];show I.set hps
  .intro σ H3 z;let⟨v3,v4,v5,rfl,D,FZ,I⟩:=z;rw[b9 (by rw[aa,hL.len];show ai _)]at I;let B':=abW B dU;let hpl:ps.length=r:=by rw[I.len,B'.br.len]
   refine⟨_,rL,M,rL,⟨_,bB.of FZ⟩,λN hN=>Zw (xs:=ps.map V.ref) (λi ys Z=>ys=Ts ((dO aD ts).take i)/\Z N=some (.lst ys)/\aB H3 Z) ⟨rL,aq,aB.upd hN⟩ (λi ys Z _ h=>bB.of (h.2.2 _ _ FZ)) ?_ ?_⟩
   .intro i x ys Z hi z;let⟨rfl,J,Jp⟩:=z;rw[ck]at hi;let O:i<ps.length:=by
     rcases Nat.lt_or_ge i ps.length with z|z;.show z
     .rw[List.getElem?_eq_none z]at hi;cases hi
    rw[ac O]at hi;let hi:V.ref ps[i]=x:=bp hi;subst hi;let Ga:i<(dO aD ts).length:=by rw[<-I.len];show O
    let hg:(dO aD ts).getD i []=(dO aD ts)[i]:=by rw[ax,ac Ga];rfl
    let hw:(dO aD ts)[i].length=w:=B'.br.qT _ (aI _);let hat:=I.at_ i O;rw[hg]at hat;calc⟨rL,_,rL,ps[i],ones (dO aD ts)[i],rL,rL,bB.of (Jp _ _ hat),by rw[lZ,hw];lia,J,?_,gY.mk (by rw[aa];show O) ⟨?_,aq,Jp.dF hN⟩⟩;.rw[aa,am];show aK o6
    .rw[lZ,Km,cz,ac Ga];rfl
   .intro ys Z z;let⟨rfl,J,Jp⟩:=z;rw[b9 (by rw[aa,I.len];show ai _)]at J;calc JA N _ ⟨rL,.inl ⟨bB.of J,λl hl=>?_⟩⟩;let s5:=(D.trans Jp).dF (o:=.tup (Ts (dO aD ts))) ((D.trans Jp).free hl);calc⟨_,rL,p,C,dx,_,_,rL,s5 _ _ hx,T.cl,T.nm,rL,_,rL,p,C,dx,_,_,rL,s5 _ _ hx,T.cl,T.nb,rL,λx dy nx ndx vU=>?_⟩;let s6:aB (upd Z l (.tup (Ts (dO aD ts)))) (upd (upd (upd Z l (.tup (Ts (dO aD ts)))) dy (HO.own x)) x (HO.ins C dy [])):=λb o e=>by rw[aP (aY e nx),aP (aY e ndx)];show e
    calc JS x dy l pm pb r w (dO aD ts) ⟨aL,bi,bj,rL,aq,s6 _ _ aq,s6 _ _ (s5 _ _ hpm),s6 _ _ (s5 _ _ hpb),B',λH5 kp hx5=>⟨rL,?_⟩⟩;let s7:aB (upd Z l (.tup (Ts (dO aD ts)))) H5:=λb o e=>kp b o (s6 b o e) (aY e nx);show q x H5 (s5.trans s7) ⟨(JI dy l pm pb ⟨hx5,s7 _ _ aq,s7 _ _ (s5 _ _ hpm),s7 _ _ (s5 _ _ hpb)⟩),B'⟩
def Ew (ts:List bR):Prop:=ts.Pairwise (λa b=>a.1=b.1)\/ts.Pairwise (λa b=>a.1<b.1)
def XH {H:Hp}{M:Addr}{ys zs:List V}(j:H M=some (.lst ys)):∀a xs,H a=some (.tup xs)->upd H M (.lst zs) a=some (.tup xs):=λa xs e=>by
 let ne:a≠M:=λz=>by rw[z,j]at e;cases e
 rw[aP ne];show e
abbrev j9:=Nat×Nat×Nat×List Nat
def aad (H:Hp)(a:Addr)(q:j9):Prop:=H a=some (.tup [.int q.1,.int q.2.1,.int q.2.2.1,.str (S q.2.2.2)])
noncomputable def sJ (R:AB)(i j wy:Nat):j9:=(if wy=0 then i else i-(iy ((lineOf R i j (wy:Int)).take i)).length,if wy=0 then j-(iy ((lineOf R i j (wy:Int)).take j)).length else j,wy,iy ((lineOf R i j (wy:Int)).take (placeOf i j (wy:Int)))++jr ((lineOf R i j (wy:Int)).drop (placeOf i j (wy:Int))))
structure iC {α:Type}(enc:α->List V)(H:Hp)(as:List Addr)(xs:List α):Prop where
 len:as.length=xs.length
 at_:∀(i:Nat) (a:Addr) (x:α),as[i]?=some a->xs[i]?=some x->H a=some (.tup (enc x))
def iC.Jm {α:Type}{enc:α->List V}{H H':Hp}{as:List Addr}{xs:List α}(k:∀a ys,H a=some (.tup ys)->H' a=some (.tup ys))(h:iC enc H as xs):iC enc H' as xs:=⟨h.len,λi a x h1 h2=>k _ _ (h.at_ i a x h1 h2)⟩
def iC.mv {α:Type}{enc:α->List V}{H H':Hp}{as:List Addr}{xs:List α}(k:aB H H')(h:iC enc H as xs):iC enc H' as xs:=h.Jm λa ys e=>k a _ e
def iC.nil {α:Type}{enc:α->List V}{H:Hp}:iC enc H [] []:=⟨rL,λi a x h=>by simp at h⟩
def iC.one {α:Type}{enc:α->List V}{H:Hp}{a:Addr}{x:α}(h:H a=some (.tup (enc x))):iC enc H [a] [x]:=⟨rL,λi b y h1 h2=>by
 match i,h1,h2 with
 | 0,h1,h2=>have e1:a=b:=bp h1;let e2:x=y:=bp h2;rw[<-e1,<-e2];show h
 | n+1,h1,h2=>show absurd h1 pi⟩
def iC.app {α:Type}{enc:α->List V}{H:Hp}{as bs:List Addr}{xs ys:List α}(h:iC enc H as xs)(g:iC enc H bs ys):iC enc H (as++bs) (xs++ys):=by
 calc⟨by rw[av,av,h.len,g.len],λi a x h1 h2=>?_⟩;by_cases c:i<as.length
 .rw[a9 c]at h1;rw[a9 (by rw[<-h.len];show c)]at h2;show h.at_ i a x h1 h2
 .rw[be o6]at h1;rw[be (by rw[<-h.len];lia),<-h.len]at h2;show g.at_ _ a x h1 h2
def iC.get {α:Type}{enc:α->List V}{H:Hp}{as:List Addr}{xs:List α}(h:iC enc H as xs){i:Nat}(hi:i<as.length):∃x,xs[i]?=some x/\H as[i]=some (.tup (enc x)):=by
 let hx:i<xs.length:=by rw[<-h.len];show hi
 show⟨xs[i],ac hx,h.at_ i _ _ (ac hi) (ac hx)⟩
abbrev QL:=iC (λq:j9=>[V.int q.1,V.int q.2.1,V.int q.2.2.1,V.str (S q.2.2.2)])
abbrev AL3:=iC (λq:Nat×Nat×Nat=>[V.int q.1,V.int q.2.1,V.int q.2.2])
def mQ (ts:List bR):Nat:=if ts.head?.map (·.1)=ts.getLast?.map (·.1) then 0 else 1
noncomputable def zX (ts:List bR):List (Nat×Nat×Nat):=(ts.take 1).map (λt=>(t.1,t.2.1,mQ ts))++ts.map λt=>(t.1,t.2.1,1-mQ ts)
def qd (R:AB)(a:Nat×Nat×Nat):j9:=sJ R a.1 a.2.1 a.2.2
def Jq (q:j9):Bool:=decide (1<q.2.2.2.length)
def jy (aD:AB)(ts:List bR):List j9:=((zX ts).map (qd (dO aD ts))).filter Jq
def aae (ts:List bR):mQ ts<=1:=by unfold mQ;split <;> decide
def GQ {r w:Nat}{R:AB}(hb:Blk r w R)(r9:r<=9)(w9:w<=9){i j wy:Nat}(hi:i<r):(sJ R i j wy).2.2.2.length<=20:=by
 let D:=vq hb hi (j:=j) (way:=(wy:Int));let F:(lineOf R i j (wy:Int)).length<=9:=by rw[D];split <;> assumption
 show (iy _++jr _).length<=20;let a1:=qz ((lineOf R i j (wy:Int)).take (placeOf i j (wy:Int)));let a2:=xG ((lineOf R i j (wy:Int)).drop (placeOf i j (wy:Int)));rw[am]at a1;rw[bc]at a2;rw[av];lia
def aaf {ts:List bR}(h:0<ts.length):mQ ts=if ts[0].1=ts[ts.length-1].1 then 0 else 1:=by unfold mQ;rw[List.head?_eq_getElem?,on,ac h,ac o6];simp only[kH,Option.some.injEq]
def jz {H:Hp}{as:List Addr}{ts:List bR}(j:eE H as ts){i:Nat}(hi:i<ts.length):∃(h:i<as.length),H as[i]=some (.tup [.int ts[i].1,.int ts[i].2.1,.str (S [ts[i].2.2])]):=by
 let h:i<as.length:=by rw[j.len];show hi
 let⟨t,e,ht⟩:=j.get h;rw[ac hi]at e;let e:=bp e;rw[<-e]at ht;show⟨h,ht⟩
def aen {as:List Addr}(h:0<as.length):rK (as.map V.ref) (-1)=some (.ref as[as.length-1]):=by
 let e:as.map V.ref=(as.take (as.length-1)).map V.ref++[V.ref as[as.length-1]]:=by rw[<-List.map_singleton,<-bv];congr 1;have:=ka (as.length-1) as;rw[fS o6,show as.length-1+1=as.length by lia,l_]at this;show this.symm
 rw[e];show Gq _ _
def aag {ts:List bR}(hl:Ew ts)(h0:0<ts.length):((ts.map λt=>decide (V.int (t.1:Int)=V.int (ts[0].1:Int))).all id)=decide (mQ ts=0):=by
 let hd:∀a b:Nat,decide (V.int (a:Int)=V.int (b:Int))=decide (a=b):=λa b=>by
  by_cases h:a=b;.subst h;simp
  .have:¬V.int (a:Int)=V.int (b:Int):=λz=>h (by injection z with z;show nS z)
   simp[h,this]
 let j:(∀t∈ts,t.1=ts[0].1)↔ts[0].1=ts[ts.length-1].1:=by
  constructor
  .intro h;show(h _ (aI _)).symm
  .intro h t ht;let⟨i,hi,rfl⟩:=ij.mp ht;rcases hl with hl|hl
   .rw[ik]at hl;rcases kN i with z|z;.subst z;rfl
    .show(hl 0 i h0 hi z).symm
   .rw[ik]at hl;rcases kN (ts.length-1) with z|z
    .have:i=0:=by lia
     subst this;rfl
    .have:=hl 0 (ts.length-1) h0 o6 z;lia
 rw[aaf h0,gS,fe,decide_eq_true_iff];constructor
 .intro h;rw[if_pos];calc j.mp λt ht=>?_;have:=h _ (bd.mpr ⟨t,ht,rL⟩);rw[hd]at this;show dS this
 .intro h x hx;let⟨t,ht,rfl⟩:=bd.mp hx;let D:ts[0].1=ts[ts.length-1].1:=by
   by_cases z:ts[0].1=ts[ts.length-1].1;.show z
   .rw[if_neg z]at h;cases h
  rw[hd];show al (j.mpr D t ht)
def Qu:Sp:=λvs H Q _=>∃(t:Addr) (as:List Addr) (ts:List bR),vs=[.ref t]/\H t=some (.tup (as.map V.ref))/\eE H as ts/\0<ts.length/\ts.length<=7/\Ew ts/\∀H',aB H H'->Q (.bl (decide (mQ ts=0))) H'
def Qv (D:aM K mg "is_across" pJ ["laying"])(fj:mg "all"=none):bV P w K mg base "is_across" 1 ["laying"] Qu:=by
 calc D.cZ Cp (λf bG A outer s H vs Q E hr h=>?_);let⟨t,as,ts,rfl,ht,Y,h0,h7,hl,q⟩:=h;let O:=Y.len;calc⟨_,(aF (bf (aV (jK rL) pk fj jx (aj (lK (ns:=["row","column","sign"]) rL (jA.of ["laying"] [] pE) (gM aG) (λ_ _ _ _ _=>(oO K rL (show (["row","column","sign","laying"]:List Str).Nodup by decide +kernel) rL rL rL pk pk pk)) (λ_ _ _ _ _=>dR) (λ_ _ _ _ _=>(d7 iH aG (aX (qw K) (aX (qw K) bI au (λ_ _=>rfl)) au (λ_ _=>rfl)) (bF _)))) ao)))),?_⟩;refine⟨_,rL,t,rL,⟨_,aO.of ht⟩,λN Z=>jQ (K:=K) (KT:=K) (a:=t) (f:=jC [] 0) (tt:=lH) (xs:=as.map V.ref) (λn ys G=>ys=((ts.take n).map λt=>decide (V.int (t.1:Int)=V.int (ts[0].1:Int))).map V.bl/\G N=some (.lst ys)/\aB H G)
  ⟨rL,aq,aB.upd Z⟩ (λn ys G _ h=>aO.of (h.2.2 _ _ ht)) ?_ ?_⟩
 .intro n x ys G hx z;let⟨rfl,J,F⟩:=z;let⟨hn,hx⟩:=rfg hx;let I:n<ts.length:=o6;let⟨_,en⟩:=jz (Y.mv F) I;let⟨g0,e0⟩:=jz (Y.mv F) h0;calc uW hx.symm (aO.of en) ?_;calc⟨_,rL,_,rL,t,_,_,.ref as[0],rL,rL,aO.of (F _ _ ht),aN (j:=0) (by simp[g0]),as[0],_,_,_,rL,rL,aO.of e0,aN (j:=0) rL,rL,J,?_,gY.mk (by rw[aa];show hn) ⟨?_,aq,F.dF Z⟩⟩;.rw[aa,aa,am];show aK o6
  .rw[show ts.take (n+1)=ts.take n++(some ts[n]).toList by rw[cz,ac I],bv,bv];rfl
 .intro ys G z;let⟨rfl,J,F⟩:=z;calc JA N _ ⟨rL,bB.of J,?_⟩;rw[aa,O,ce,aag hl h0];show q G F
def aah {r w:Nat}{R:AB}{i j wy:Nat}(D:wy<=1):abV i j (wy:Int) (lineOf R i j (wy:Int))=[.int (sJ R i j wy).1,.int (sJ R i j wy).2.1,.str (S (sJ R i j wy).2.2.2)]:=by
 unfold abV sJ placeOf;by_cases z:wy=0
 .subst z;let a1:=qz ((lineOf R i j ((0:Nat):Int)).take j);rw[am]at a1;rw[if_pos rfl];show [V.int (i:Int),V.int ((j:Int)-_),_]=[V.int (i:Int),V.int ((j-_:Nat):Int),_]
  rw[Int.ofNat_sub o6];rfl
 .have:wy=1:=by lia
  subst this;let a1:=qz ((lineOf R i j ((1:Nat):Int)).take i);rw[am]at a1;rw[if_neg pj];show [V.int ((i:Int)-_),V.int (j:Int),_]=[V.int ((i-_:Nat):Int),V.int (j:Int),_]
  rw[Int.ofNat_sub o6];rfl
def GR (C:Addr):Sp:=λvs H Q _=>∃(b t:Addr) (as:List Addr) (ts:List bR) (r w:Nat) (aD aL:AB) (bi bj:Nat),vs=[.ref b,.ref t]/\cM C H b r w aD aL bi bj/\H t=some (.tup (as.map V.ref))/\eE H as ts/\(∀t∈ts,inB r w t)/\0<ts.length/\ts.length<=7/\Ew ts/\
 ∀(T:Addr) (bs:List Addr) (H':Hp),aB H H'->H' T=some (.tup (bs.map V.ref))->QL H' bs (jy aD ts)->Q (.ref T) H'
def aai {C f1 f2:Addr}{dH fd2:FuncData}(D:aM K mg "formed" zR ["board","laying"])(bh:mg "len"=none)(cI:mg "tuple"=none)(cu:gA K C)(j_:Meth K C "laid" f1)(kh:bZ P w K mg base dz 8 f1 dH ["self","laying"] (CK C))(kj:bN K dH ["self","laying"] [])(T8:Meth K C "run" f2)(T9:bZ P w K mg base dz 2 f2 fd2 ["self","row","column","way"] (adn C))(T_:bN K fd2 ["self","row","column","way"] [])(yh:bV P w K mg base "is_across" 1 ["laying"] Qu):bV P w K mg base "formed" 10 ["board","laying"] (GR C):=by
 calc D.cZ lu (λf bG A outer s H vs Q E hr h=>?_);let⟨b,t,as,ts,r,w,aD,aL,bi,bj,rfl,BA,ht,hL,dU,h0,h7,hl,q⟩:=h;let⟨dx,_,_,_,ex,_⟩:=id BA.ex;let r9:=BA.ok.r9;let w9:=BA.ok.w9;let hal:=hL.len;let pN:=aae ts;calc⟨_,(aA (aU (i:=2) lu.nd rL (Or.inl rL) (mH aG cu.cl j_ kh hr.mono kj .nil dM (aj aW ao))) (aA (fO (aU (i:=3) lu.nd rL (Or.inr rL) (mZ (dJ (bD yh hr.mono rL (aj aW ao))) au au))) (aA (aU (i:=4) lu.nd rL (Or.inl rL) (h_ (aj (cO (aj (aX bw (aX bw aW au (λ_ _=>rfl)) au (λ_ _=>rfl)) (aj (aX bw (aX bw aW au (λ_ _=>rfl)) au (λ_ _=>rfl)) (aj bI ao)))) ao))) (aA (cR (fJ bu PySem.F.slot_list_extend PySem.F.type_list_extend Zg cL (aj (lK (ns:=["row","column","sign"]) rL (jA.of ["board","laying","after","way","asked",".5",".6","words","along","run"] [5,6] pE) (gM aW) (λ_ _ _ _ _=>(oO K rL (show (["row","column","sign","board","laying","after","way","asked",".5",".6","words","along","run"]:List Str).Nodup by decide +kernel) rL rL rL pk pk pk)) (λ_ _ _ _ _=>dR) (λ_ _ _ _ _=>(cO (aj aG (aj aW (aj (aJ nJ au dW) ao)))))) ao))) (aA (aU (i:=7) lu.nd rL (Or.inl rL) (h_ ao)) (aA (fD cK rL (mG cL) (nO rL (bU (bC (i:=5) lu.nd rL (Or.inl rL)) (bU (bC (i:=6) lu.nd rL (Or.inl rL)) (bU (bC (i:=8) lu.nd rL (Or.inl rL)) kY)))) (aA (aU (i:=9) lu.nd rL (Or.inl rL) (mH bA cu.cl T8 T9 hr.mono T_ .nil dM (aj cT (aj dW (aj jq ao))))) (aF (cB (bM El (aV cY pk bh ay (aj (aX bw jP au (λ_ _=>rfl)) ao)) au (bF _)) (aF (cR (fJ bu de df iG iw (aj (cO (aj (aX bw jP au (λ_ _=>rfl)) (aj (aX bw jP au (λ_ _=>rfl)) (aj jq (aj (aX bw jP au (λ_ _=>rfl)) ao))))) ao)))) bJ)))) (aF (bf (eU iZ pk cI c_ (aj iw ao)))))))))),?_⟩;calc⟨_,rL,b,dx,_,rL,ex,rL,_,rL,b,t,as,ts,r,w,aD,aL,bi,bj,rL,BA,ht,hL,dU,λx1 H1 s1 B1=>?_⟩;let hb':=su BA.ok.br dU;generalize hR:dO aD ts=R at B1 hb';refine⟨λσ H'=>aB H1 H'/\σ=[some (.ref b),some (.ref t),some (.ref x1),some (.int (mQ ts)),none,none,none,none,none,none],?_,?_⟩
 .calc⟨_,rL,t,as,ts,rL,s1 _ _ ht,hL.mv s1,h0,h7,hl,λH2 s2=>⟨_,rL,?_⟩⟩;by_cases z:mQ ts=0
  .rw[al z];calc cj ⟨s2,?_⟩;rw[z];rfl
  .rw[ah z];calc bQ ⟨s2,?_⟩;rw[show mQ ts=1 by lia];rfl
 rintro σ H2 ⟨s2,rfl⟩;let s12:=s1.trans s2;let hL2:=hL.mv s12;let M4:=s12 _ _ ht;let⟨g0,e0⟩:=jz hL2 h0;calc⟨_,rL,t,_,_,.ref as[0],rL,rL,aO.of M4,aN (j:=0) (by simp[g0]),as[0],_,_,_,rL,rL,aO.of e0,aN (j:=0) rL,_,rL,t,_,_,.ref as[0],rL,rL,aO.of M4,aN (j:=0) (by simp[g0]),as[0],_,_,_,rL,rL,aO.of e0,aN (j:=1) rL,_,rL,zsz 3,λF ht1=>⟨zsz 1,λG hA0=>?_⟩⟩;let k3:aB H2 (upd H2 F (HO.tup [.int ts[0].1,.int ts[0].2.1,.int (mQ ts)])):=aB.upd ht1;let k4:=k3.dF (o:=HO.lst [.ref F]) (k3.free hA0);let hA0':=k3.free hA0;let n1A:F≠G:=λz=>by rw[<-z,aq]at hA0;cases hA0
 let e1:upd (upd H2 F (HO.tup [.int ts[0].1,.int ts[0].2.1,.int (mQ ts)])) G (HO.lst [.ref F]) F=some (.tup [.int ts[0].1,.int ts[0].2.1,.int (mQ ts)]):=by rw[aP n1A,aq]
 let eA:upd (upd H2 F (HO.tup [.int ts[0].1,.int ts[0].2.1,.int (mQ ts)])) G (HO.lst [.ref F]) G=some (.lst [.ref F]):=aq;generalize upd (upd H2 F (HO.tup [.int ts[0].1,.int ts[0].2.1,.int (mQ ts)])) G (HO.lst [.ref F])=H4 at k4 e1 eA ⊢;let ht4:=k4 _ _ M4;let yZ:=hL2.mv k4;let e1l:(1:Int)-(mQ ts:Int)=((1-mQ ts:Nat):Int):=o6;refine⟨_,rL,.inl ⟨rL,_,bB.of eA⟩,_,rL,t,rL,⟨_,aO.of ht4⟩,λN hN=>jQ (K:=K) (KT:=K) (a:=t) (f:=jC [5,6] 0) (tt:=lH) (xs:=as.map V.ref) (λn ys I=>∃cs:List Addr,ys=cs.map V.ref/\cs.length=n/\I N=some (.lst ys)/\aB H4 I/\AL3 I cs ((ts.take n).map λt=>(t.1,t.2.1,1-mQ ts)))
  ⟨[],rL,rL,aq,aB.upd hN,iC.nil⟩ (λn ys I _ h=>by let⟨_,_,_,_,J,_⟩:=h;show aO.of (J _ _ ht4)) ?_ ?_⟩
 .intro n x ys I hx z;let⟨cs,rfl,Y,xH,o8,Jr⟩:=z;let⟨hn,hx⟩:=rfg hx;let hnt:n<ts.length:=o6;let⟨_,en⟩:=jz (yZ.mv o8) hnt;calc uW hx.symm (aO.of en) ?_;calc⟨_,rL,_,rL,_,rL,_,_,rL,rL,zsz 3,λg hg=>?_⟩;let kg:aB I (upd I g (HO.tup [.int ts[n].1,.int ts[n].2.1,.int (1-(mQ ts:Int))])):=aB.upd hg;let hNg:=kg _ _ xH;calc⟨hNg,by rw[aa];show aK o6,gY.mk (by rw[aa];show hn) ⟨cs++[g],pi,by simp[Y],by rw[aq],(o8.trans kg).dF hN,?_⟩⟩;rw[show ts.take (n+1)=ts.take n++[ts[n]] by rw[cz,ac hnt];rfl,bv];calc((Jr.mv kg).app (iC.one (x:=(ts[n].1,ts[n].2.1,1-mQ ts)) ?_)).Jm (XH hNg);rw[aq,e1l]
 intro ys I z;let⟨cs,rfl,Y,xH,o8,Jr⟩:=z;rw[aa]at Y;rw[aa,hal,ce]at Jr;let eA5:=o8 _ _ eA;calc JI G N _ _ ⟨rL,rL,eA5,xH,by rw[aa,Y];show ap (aK (by simp;lia)),?_⟩;let abX:AL3 (upd I G (HO.lst ([V.ref F]++cs.map V.ref))) ([F]++cs) (zX ts):=by
  let hone:AL3 I [F] ((ts.take 1).map λt=>(t.1,t.2.1,mQ ts)):=by rw[List.take_one,List.head?_eq_getElem?,ac h0];show iC.one (x:=(ts[0].1,ts[0].2.1,mQ ts)) (o8 _ _ e1)
  show(hone.app Jr).Jm (XH eA5)
 let sH6:aB H1 (upd I G (HO.lst ([V.ref F]++cs.map V.ref))):=λa o e=>by have:=(k4.trans o8) _ _ (s2 _ _ e);rw[aP (λz=>by rw[z]at e;have:=s2 _ _ e;rw[hA0']at this;cases this)];show this
 let O:upd I G (HO.lst ([V.ref F]++cs.map V.ref)) G=some (.lst (([F]++cs).map V.ref)):=by rw[aq];simp
 generalize upd I G (HO.lst ([V.ref F]++cs.map V.ref))=H6 at abX sH6 O ⊢;let agM:=abX.len;let hak:(zX ts).length=1+ts.length:=by unfold zX;rw[av,aa,aa,am];lia
 let ai3:∀n (a:Nat×Nat×Nat),(zX ts)[n]?=some a->a.1<r/\a.2.1<w/\a.2.2<=1:=λn a ha=>by
  rcases bz.mp (bo ha) with z|z
  .let⟨u,hu,rfl⟩:=bd.mp z;have:=dU u (cE hu);show⟨this.1,this.2.1,pN⟩
  .let⟨u,hu,rfl⟩:=bd.mp z;have:=dU u hu;show⟨this.1,this.2.1,by show 1-mQ ts<=1;lia⟩
 calc⟨zsz 0,λW hW=>?_⟩;let hW0:=sH6.free hW;let nWA:G≠W:=λz=>by rw[<-z,O]at hW;cases hW
 let kW:aB H6 (upd H6 W (HO.lst [])):=aB.upd hW;refine⟨_,rL,G,rL,⟨_,bB.of (kW _ _ O)⟩,lF (K:=K) (a:=G) (xs:=([F]++cs).map V.ref) (λn σ H'=>∃(v6 v7 v8 v9:Option V) (bs:List Addr),σ=[some (.ref b),some (.ref t),some (.ref x1),some (.int (mQ ts)),some (.ref G),v6,v7,some (.ref W),v8,v9]/\aB H6 H'/\H' W=some (.lst (bs.map V.ref))/\bs.length<=n/\QL H' bs ((((zX ts).take n).map (qd R)).filter Jq))
  (JJ none none none none [] ⟨rL,kW,aq,ai _,iC.nil⟩) (λn σ H' _ h=>by let⟨_,_,_,_,_,_,J,_⟩:=h;show bB.of (J _ _ O)) ?_ ?_⟩
 .intro n x σ H' hx z;let⟨v6,v7,v8,v9,bs,rfl,J,hWb,Qx,hQ⟩:=z;let hn:n<([F]++cs).length:=by have:=(ag.mp hx).1;simpa using this
  rw[ck,ac hn]at hx;let hx:V.ref ([F]++cs)[n]=x:=bp hx;subst hx;let⟨a,ea,hat⟩:=(abX.mv J).get hn;let⟨c1,c2,c3⟩:=ai3 n a ea;let hn9:n<9:=by rw[agM,hak]at hn;lia
  calc JA (([F]++cs)[n]) _ ⟨rL,aO.of hat,rL,_,_,rL,_,_,rL,_,_,rL,rL,?_⟩;let B2:=B1.mv (sH6.trans J);let⟨dx1,_,_,_,Vn,_⟩:=id B2.ex;calc⟨_,rL,x1,dx1,_,rL,Vn,rL,_,rL,_,rL,_,rL,x1,r,w,R,aL,bi,bj,a.1,a.2.1,(a.2.2:Int),rL,B2,c1,c2,o6,λt2 H7 s7 _ ht7=>?_⟩;rw[aah (r:=r) (w:=w) c3]at ht7;let cW:=GQ hb' r9 w9 c1 (j:=a.2.1) (wy:=a.2.2);let Z:=aO.of (K:=K) ht7;let abY:=s7 _ _ hWb;calc⟨_,rL,t2,_,_,_,rL,rL,Z,aN (j:=2) rL,_,rL,ap (aK o6),_,_,rL,rL,_,rL,?_⟩;let ado:(zX ts).take (n+1)=(zX ts).take n++[a]:=by rw[cz,ea];rfl
  by_cases hc:Jq (qd R a)=true
  .have:decide ((2:Int)<=((sJ R a.1 a.2.1 a.2.2).2.2.2.length:Int))=true:=al (by have:=dS hc;show (2:Int)<=((qd R a).2.2.2.length:Int);lia);rw[this];calc cj ⟨_,rL,.inl ⟨rL,_,bB.of abY⟩,_,rL,t2,_,_,_,rL,rL,Z,aN (j:=0) rL,_,rL,t2,_,_,_,rL,rL,Z,aN (j:=1) rL,_,rL,_,rL,t2,_,_,_,rL,rL,Z,aN (j:=2) rL,zsz 4,λg hg=>?_⟩;let kg:aB H7 (upd H7 g (HO.tup [.int (sJ R a.1 a.2.1 a.2.2).1,.int (sJ R a.1 a.2.1 a.2.2).2.1,.int a.2.2,.str (S (sJ R a.1 a.2.1 a.2.2).2.2.2)])):=aB.upd hg;let hWg:=kg _ _ abY;calc JE W _ _ ⟨rL,rL,hWg,by rw[aa];show aK o6,?_⟩;calc JJ _ _ _ _ (bs++[g]) ⟨rL,((J.trans s7).trans kg).dF hW,by rw[aq];simp,by simp;lia,?_⟩;rw[ado,bv,List.filter_append];let e2:([a].map (qd R)).filter Jq=[qd R a]:=by simp[hc]
   rw[e2];show(((hQ.mv s7).mv kg).app (iC.one (x:=qd R a) aq)).Jm (XH hWg)
  .have:decide ((2:Int)<=((sJ R a.1 a.2.1 a.2.2).2.2.2.length:Int))=false:=ah (λz=>hc (al (by let z:(2:Int)<=((qd R a).2.2.2.length:Int):=z;lia)));rw[this];calc bQ (JJ _ _ _ _ bs ⟨rL,J.trans s7,abY,o6,?_⟩);rw[ado,bv,List.filter_append];let e2:([a].map (qd R)).filter Jq=[]:=by simp[hc]
   rw[e2,gT];show hQ.mv s7
 .intro σ H' z;let⟨v6,v7,v8,v9,bs,rfl,J,hWb,Qx,hQ⟩:=z;rw[aa,agM,ce]at hQ;calc⟨_,rL,W,_,rL,.inl ⟨bB.of hWb,λT hT=>?_⟩⟩;let k:aB H' (upd H' T (HO.tup (bs.map V.ref))):=aB.upd hT;calc q T bs _ (((s1.trans sH6).trans J).trans k) aq ?_;unfold jy;rw[hR];show hQ.mv k
def GX (K:W.Frag)(T:String)(H:Hp)(x:V):Prop:=∃t,mD K H x t/\W.kitOne K t (.type T)=some false
def mD.mv {K:W.Frag}{H H':Hp}{x:V}{t:Value}(h:mD K H x t)(s:aB H H'):mD K H' x t:=by
 cases h with| non=>show .non| bl b=>show .bl b| int i=>show .int i| str x=>show .str x| flt x=>show .flt x| lst e=>show .lst (s _ _ e)| pC e=>show .pC (s _ _ e)| tup e=>show .tup (s _ _ e)| dK e=>show .dK (s _ _ e)| dT e=>show .dT (s _ _ e)| ins e a b c d f=>show .ins (s _ _ e) a b c d f
def GX.mv {K:W.Frag}{T:String}{H H':Hp}{x:V}(h:GX K T H x)(s:aB H H'):GX K T H' x:=let ⟨t,a,b⟩:=h;⟨t,mD.mv a s,b⟩
def GZ (K:W.Frag):Sp:=λvs H Q _=>(∃i:Int,vs=[.int i]/\Q (.bl true) H)\/(∃b:Bool,vs=[.bl b]/\Q (.bl false) H)\/∃x,vs=[x]/\GX K "int" H x/\Q (.bl false) H
def Qy (D:aM K mg "is_whole" qM ["thing"])(G:mg "int"=none)(F:mg "bool"=none)(j:mg "isinstance"=none):bV P w K mg base "is_whole" 1 ["thing"] (GZ K):=by
 refine D.cZ FQ (λf bG A outer s H vs Q E I h=>?_) (λvs H Q E h=>?_)
 .calc⟨_,(aF (bf (jN (aV fQ pk j cp (aj aG (aj (jV (v:=.ty "int") pk G j3 rL) ao))) (jw (Zy (aV fQ pk j cp (aj aG (aj (jV (v:=.ty "bool") pk F ly rL) ao)))))))),?_⟩;rcases h with⟨i,rfl,q⟩|⟨b,rfl,q⟩|⟨x,rfl,⟨t,ty,k⟩,q⟩;.show⟨_,rL,_,_,_,true,rL,.int _,pE,true,rL,cj ⟨_,rL,_,_,_,false,rL,.int _,pE,false,rL,q⟩⟩
  .show⟨_,rL,_,_,_,true,rL,.bl _,pE,true,rL,cj ⟨_,rL,_,_,_,true,rL,.bl _,pE,true,rL,q⟩⟩
  .show⟨_,rL,_,_,_,false,rL,ty,k,false,rL,bQ q⟩
 .rcases h with⟨i,rfl,_⟩|⟨i,rfl,_⟩|⟨i,rfl,_⟩ <;> rfl
def all_map {α:Type}(l:List α)(f:α->Bool):((l.map f).all id)=l.all f:=by induction l with|nil=>rfl|cons a l ih=>simp[ih]
def take_snoc {α β:Type}{l:List α}{i:Nat}{a:α}(h:l[i]?=some a)(f:α->β):(l.take (i+1)).map f=(l.take i).map f++[f a]:=by rw[cz,h,bv];rfl
inductive xJ (K:W.Frag) (H:Hp):V->Option Int->Prop
 | int (i:Int):xJ K H (.int i) (some i)
 | bl (b:Bool):xJ K H (.bl b) none
 | no {x:V} (h:GX K "int" H x):xJ K H x none
def xJ.mv {H H':Hp}{x:V}{o:Option Int}(h:xJ K H x o)(s:aB H H'):xJ K H' x o:=by
 cases h with| int i=>show .int i| bl b=>show .bl b| no h=>show .no (h.mv s)
noncomputable def Js (r w:Nat)(oi oj:Option Int):Bool:=match oi,oj with|some i,some j=>decide (0<=i/\i<r/\0<=j/\j<w)|_,_=>false
def Vo (K:W.Frag):Sp:=λvs H Q _=>∃(p:Addr) (ls:AB) (r w:Nat) (x y:V) (oi oj:Option Int),vs=[.ref p,x,y]/\H p=some (.tup (Ts ls))/\Blk r w ls/\1<=r/\r<=9/\w<=9/\xJ K H x oi/\xJ K H y oj/\Q (.bl (Js r w oi oj)) H
def xJ.sp {H:Hp}{x:V}{o:Option Int}{Q:VK}{E:XK}(h:xJ K H x o)(q:Q (.bl o.isSome) H):GZ K [x] H Q E:=by
 cases h with| int i=>show .inl ⟨i,rL,q⟩| bl b=>show .inr (.inl ⟨b,rL,q⟩)| no h=>show .inr (.inr ⟨x,rL,h,q⟩)
def Kw (D:aM K mg "is_cell_of" oA ["rows","row","column"])(I:mg "len"=none)(J:bV P w K mg base "is_whole" 1 ["thing"] (GZ K)):bV P w K mg base "is_cell_of" 2 ["rows","row","column"] (Vo K):=by
 calc D.cZ Bo (λf bG A outer s H vs Q E G h=>?_);let⟨p,ls,r,w,x,y,oi,oj,rfl,hp,hb,r1,r9,w9,hx,hy,q⟩:=h;let O:(Ts ls).length=r:=by rw[aa,hb.len]
 let h0:0<ls.length:=by rw[hb.len];lia
 let F:ls[0].length=w:=hb.qT _ (aI _);calc⟨_,(aA (cB (QW.qt (lY (eG (dJ (bD J G.mono rL (aj aW ao)))) (jZ (eG (dJ (bD J G.mono rL (aj bA ao))))))) (aF (bf iu)) bJ) (aF (bf (jN (lJ pQ uT au aW (aV bW pk I ay (aj aG ao))) (jw (lJ pQ uT au bA (aV cY pk I ay (aj (aX bw aG au (λ_ _=>rfl)) ao)))))))),?_⟩;calc⟨_,rL,?_⟩;dsimp only[zK,uU];calc xJ.sp hx ⟨_,rL,?_⟩;cases hx with
 | bl b=>show cj q
 | no h=>show cj q
 | int i=>
  calc bQ ⟨_,rL,?_⟩;dsimp only[zK,uU];calc xJ.sp hy ⟨_,rL,?_⟩;cases hy with
  | bl b=>show cj q
  | no h=>show cj q
  | int j=>
   calc bQ ?_;let q:Q (.bl (decide (0<=i/\i<(r:Int)/\0<=j/\j<(w:Int)))) H:=q;calc⟨_,rL,_,_,rL,rL,_,rL,?_⟩;by_cases h1:0<=i
   .rw[al h1];calc cj ⟨_,rL,p,_,rL,.inr (aO.of hp),_,_,rL,rL,_,rL,?_⟩;rw[O];by_cases h2:i<(r:Int)
    .rw[al h2];calc cj ⟨_,rL,_,_,rL,rL,_,rL,?_⟩;by_cases h3:0<=j
     .rw[al h3];calc cj ⟨_,rL,p,_,_,.str (S ls[0]),rL,rL,aO.of hp,aN (j:=0) (nD (by simp[h0])),_,rL,ap (aK o6),_,_,rL,rL,?_⟩;rw[F];simpa [h1,h2,h3] using q
     .rw[ah h3];calc bQ ?_;simpa [h1,h2,h3] using q
    .rw[ah h2];calc bQ ?_;simpa [h1,h2] using q
   .rw[ah h1];calc bQ ⟨_,rL,bQ ?_⟩;simpa [h1] using q
inductive Vp (K:W.Frag) (H:Hp):V->Option (List Nat)->Prop
 | no {x:V} (h:adk K H x):Vp K H x none
 | str (l:List Nat) (h:l.length<=1000):Vp K H (.str (S l)) (some l)
def Vp.mv {H H':Hp}{x:V}{o:Option (List Nat)}(h:Vp K H x o)(s:aB H H'):Vp K H' x o:=by
 cases h with| no h=>show .no (let ⟨t,a,b⟩:=h;⟨t,mD.mv a s,b⟩)| str l h=>show .str l h
abbrev xK:=Option (Option Int×Option Int×Option (List Nat))
inductive zc (K:W.Frag) (H:Hp):V->xK->Prop
 | no {x:V} (h:GX K "tuple" H x):zc K H x none
 | bad {b:Addr} {xs:List V} (h:H b=some (.tup xs)) (hl:xs.length≠3):zc K H (.ref b) none
 | tri {b:Addr} {x y z:V} {oi oj:Option Int} {ol:Option (List Nat)} (h:H b=some (.tup [x,y,z])) (hx:xJ K H x oi) (hy:xJ K H y oj) (hz:Vp K H z ol):zc K H (.ref b) (some (oi,oj,ol))
def zc.mv {H H':Hp}{x:V}{o:xK}(h:zc K H x o)(s:aB H H'):zc K H' x o:=by
 cases h with| no h=>show .no (h.mv s)| bad h hl=>show .bad (s _ _ h) hl| tri h hx hy hz=>show .tri (s _ _ h) (hx.mv s) (hy.mv s) (hz.mv s)
def sgO (ol:Option (List Nat)):Bool:=match ol with|none=>false|some l=>Cz l
def t_ (r w:Nat)(o:xK):Bool:=match o with|none=>false|some (oi,oj,ol)=>Js r w oi oj&&sgO ol
def M5 (K:W.Frag)(C:Addr):Sp:=λvs H Q _=>∃(b:Addr) (x:V) (o:xK) (r w:Nat) (aD aL:AB) (bi bj:Nat),vs=[.ref b,x]/\cM C H b r w aD aL bi bj/\zc K H x o/\Q (.bl (t_ r w o)) H
def Qz {C:Addr}(D:aM K mg "is_triple" tU ["board","thing"])(bh:mg "len"=none)(cI:mg "tuple"=none)(Z:mg "isinstance"=none)(T:gA K C)(oG:bV P w K mg base "is_cell_of" 2 ["rows","row","column"] (Vo K))(CJ:bV P w K mg base "is_sign" 1 ["thing"] (Qp K)):bV P w K mg base "is_triple" 3 ["board","thing"] (M5 K C):=by
 calc D.cZ Qk (λf bG A outer s H vs Q E G h=>?_);let⟨b,x,o,r,w,aD,aL,bi,bj,rfl,J,Y,q⟩:=h;obtain⟨⟨dx,pr,pm,pb,hb,F,hpm,O⟩,B⟩:=J;calc⟨_,(aA (cB (QW.qt (lY (eG (dJ (aV fQ pk Z cp (aj aW (aj (jV (v:=.ty "tuple") pk cI c_ rL) ao))))) (jZ (bM wN (aV bW pk bh ay (aj aW ao)) au (bF _))))) (aF (bf iu)) bJ) (aF (bf (jN (bD oG G.mono rL (aj (bO aG rL) (aj (aX bw aW au (λ_ _=>rfl)) (aj (aX bw aW au (λ_ _=>rfl)) ao)))) (jw (bD CJ G.mono rL (aj (aX bw aW au (λ_ _=>rfl)) ao))))))),?_⟩;cases Y with
 | no h=>let⟨t,ty,k⟩:=h;show⟨_,rL,_,_,_,false,rL,ty,k,_,rL,cj (cj q)⟩
 | @bad a xs h hl=>calc⟨_,rL,_,_,_,true,rL,.tup h,pE,_,rL,bQ ⟨_,rL,a,_,rL,.inr (aO.of h),rL,_,rL,?_⟩⟩;rw[ah (show ¬V.int (xs.length:Nat)=V.int 3 from λz=>hl (by injection z with z;lia))];show cj q
 | @tri a x y z oi oj ol h hx hy hz=>
  calc⟨_,rL,_,_,_,true,rL,.tup h,pE,_,rL,bQ ⟨_,rL,a,_,rL,.inr (aO.of h),rL,_,rL,Ou rL ?_⟩⟩;calc⟨_,rL,b,C,dx,_,_,rL,hb,T.cl,T.nr,rL,_,rL,a,_,_,x,rL,rL,aO.of h,aN (j:=0) rL,_,rL,a,_,_,y,rL,rL,aO.of h,aN (j:=1) rL,pr,aD,r,w,x,y,oi,oj,rL,F,B.br,B.r1,B.r9,B.w9,hx,hy,_,rL,?_⟩;let q:Q (.bl (Js r w oi oj&&sgO ol)) H:=q;cases I:Js r w oi oj with
  | false=>rw[I]at q;show bQ q
  | true=>
   rw[I]at q;calc cj ⟨_,rL,a,_,_,z,rL,rL,aO.of h,aN (j:=2) rL,?_⟩;dsimp only[zK,uU];cases hz with| no h=>show .inl ⟨z,rL,h,q⟩| str l hl=>show .inr ⟨l,rL,hl,q⟩
abbrev PL2:=iC (λq:Nat×Nat=>[V.int q.1,V.int q.2])
def xM:Sp:=λvs H Q _=>∃(t:Addr) (as:List Addr) (ts:List bR),vs=[.ref t]/\H t=some (.tup (as.map V.ref))/\eE H as ts/\ts.length<=100/\
 ∀(L:Addr) (cs:List Addr) (H':Hp),aB H H'->H' L=some (.lst (cs.map V.ref))->PL2 H' cs (ts.map λt=>(t.1,t.2.1))->Q (.ref L) H'
def Ua (D:aM K mg "cells_of" vg ["laying"]):bV P w K mg base "cells_of" 1 ["laying"] xM:=by
 calc D.cZ TF (λf bG A outer s H vs Q E hr h=>?_);let⟨t,as,ts,rfl,ht,hL,h7,q⟩:=h;let Y:=hL.len;calc⟨_,(aF (bf (lK (ns:=["row","column","sign"]) rL (jA.of ["laying"] [] pE) (gM aG) (λ_ _ _ _ _=>(oO K rL (show (["row","column","sign","laying"]:List Str).Nodup by decide +kernel) rL rL rL pk pk pk)) (λ_ _ _ _ _=>dR) (λ_ _ _ _ _=>(cO (aj aG (aj aW ao))))))),?_⟩;refine⟨_,rL,t,rL,⟨_,aO.of ht⟩,λN hN=>jQ (K:=K) (KT:=K) (a:=t) (f:=jC [] 0) (tt:=lH) (xs:=as.map V.ref) (λn ys j=>∃cs:List Addr,ys=cs.map V.ref/\cs.length=n/\j N=some (.lst ys)/\aB H j/\PL2 j cs ((ts.take n).map λt=>(t.1,t.2.1)))
  ⟨[],rL,rL,aq,aB.upd hN,iC.nil⟩ (λn ys j _ h=>by let⟨_,_,_,_,sm,_⟩:=h;show aO.of (sm _ _ ht)) ?_ ?_⟩
 .intro n x ys j hx z;let⟨cs,rfl,G,xH,J,O⟩:=z;let⟨hn,hx⟩:=rfg hx;let F:n<ts.length:=o6;let⟨_,en⟩:=jz (hL.mv J) F;calc uW hx.symm (aO.of en) ?_;calc⟨_,rL,_,rL,zsz 2,λg hg=>?_⟩;let Z:aB j (upd j g (HO.tup [.int ts[n].1,.int ts[n].2.1])):=aB.upd hg;let I:=Z _ _ xH;calc⟨I,by rw[aa];show aK o6,gY.mk (by rw[aa];show hn) ⟨cs++[g],pi,by simp[G],by rw[aq],(J.trans Z).dF hN,?_⟩⟩;rw[show ts.take (n+1)=ts.take n++[ts[n]] by rw[cz,ac F];rfl,bv];show((O.mv Z).app (iC.one (x:=(ts[n].1,ts[n].2.1)) aq)).Jm (XH I)
 .intro ys j z;let⟨cs,rfl,G,xH,J,O⟩:=z;rw[aa,Y,ce]at O;show q N cs j J xH O
structure G3 (K:W.Frag)(H:Hp)(xs:List V)(os:List xK):Prop where
 len:xs.length=os.length
 at_:∀(i:Nat) (x:V) (o:xK),xs[i]?=some x->os[i]?=some o->zc K H x o
inductive LyD (K:W.Frag) (H:Hp):V->Option (List xK)->Prop
 | no {x:V} (h:GX K "tuple" H x):LyD K H x none
 | tup {p:Addr} {xs:List V} {os:List xK} (h:H p=some (.tup xs)) (hp:G3 K H xs os) (h1:os.length<=100):LyD K H (.ref p) (some os)
def mkT (t:bR):xK:=some (some (t.1:Int),some (t.2.1:Int),some [t.2.2])
def adp (o:xK):Nat×Nat:=match o with|some (some i,some j,_)=>(i.toNat,j.toNat)|_=>(0,0)
def ltQ (p:(Nat×Nat)×(Nat×Nat)):Bool:=decide (p.1.1*1000+p.1.2<p.2.1*1000+p.2.2)
def jG (cs:List (Nat×Nat)):Bool:=(cs.zip (cs.drop 1)).all ltQ
noncomputable def layB (r w:Nat)(o:Option (List xK)):Bool:=match o with|none=>false|some os=>decide (1<=os.length/\os.length<=7)&&os.all (t_ r w)&&jG (os.map adp)
def QB (ts:List bR):(ts.map mkT).map adp=ts.map λt=>(t.1,t.2.1):=by rw[fA];show fo λt _=>rfl
def abZ {r w:Nat}{o:xK}(h:t_ r w o=true):∃t:bR,o=mkT t/\inB r w t:=by
 match o with
 | none=>cases h
 | some (oi,oj,ol)=>
  unfold t_ at h;simp only[cn]at h;let⟨h1,h2⟩:=h
  match oi,oj,ol with
  | none,_,_=>cases h1
  | some i,none,_=>cases h1
  | some i,some j,none=>cases h2
  | some i,some j,some l=>
   let h1:=dS h1;let h2:Cz l=true:=h2
   match l with
   | []=>cases h2
   | [c]=>calc⟨(i.toNat,j.toNat,c),?_,⟨by show i.toNat<r;lia,by show j.toNat<w;lia,h2⟩⟩;show some (some i,some j,some [c])=some (some ((i.toNat:Nat):Int),some ((j.toNat:Nat):Int),some [c]);rw[cw h1.1,cw h1.2.2.1]
   | _::_::_=>cases h2
def ab0 {r w:Nat}{t:bR}(h:inB r w t):t_ r w (mkT t)=true:=by unfold t_ mkT Js sgO;let h1:=h.1;let h2:=h.2.1;simp only[cn];show⟨al o6,h.2.2⟩
theorem M6 {r w:Nat}:∀{os:List xK},os.all (t_ r w)=true->∃ts:List bR,os=ts.map mkT/\∀t∈ts,inB r w t
 | [],_=>⟨[],rL,λt h=>by simp at h⟩
 | o::os,h=>by
  rw[List.all_cons,cn]at h;let⟨ts,e,k⟩:=M6 h.2;let⟨t,e2,k2⟩:=abZ h.1;show⟨t::ts,by rw[e,e2];rfl,λu j=>by
   rcases bX.mp j with z|z;.rw[z];show k2
   .show k u z⟩
def zc.aij {H:Hp}{x:V}{t:bR}(h:zc K H x (mkT t)):∃b,x=.ref b/\wk H b t:=by
 generalize j:mkT t=o at h;cases h with
 | no _=>cases j
 | bad _ _=>cases j
 | @tri b x y z oi oj ol h hx hy hz=>have j:=bp j;injection j with e1 e2;injection e2 with e2 e3;subst e1 e2 e3;cases hx;cases hy;cases hz;show⟨b,rL,h⟩
theorem G3.lay {H:Hp}:∀{ts:List bR} {xs:List V},G3 K H xs (ts.map mkT)->∃as:List Addr,xs=as.map V.ref/\eE H as ts
 | [],[],_=>⟨[],rL,eE.nil⟩
 | [],_::_,h=>by have:=h.len;simp at this
 | _::_,[],h=>by have:=h.len;simp at this
 | t::ts,x::xs,h=>by
  let⟨b,rfl,hb⟩:=(h.at_ 0 x (mkT t) rL rL).aij;let⟨as,e,j⟩:=G3.lay (ts:=ts) (xs:=xs) ⟨by have:=h.len;simpa using this,λi x o a c=>h.at_ (i+1) x o a c⟩;refine⟨b::as,by rw[e];rfl,⟨λa ha=>?_,?_⟩⟩
  .rcases bX.mp ha with z|z;.rw[z,Jl hb];show hb
   .show j.at_ a z
  .rw[cv,j.eq,Jl hb]
def zc.mk {H:Hp}{b:Addr}{t:bR}(h:wk H b t):zc K H (.ref b) (mkT t):=.tri h (.int _) (.int _) (.str _ (by show 1<=1000;decide))
def G3.of_lay {H:Hp}{as:List Addr}{ts:List bR}(h:eE H as ts):G3 K H (as.map V.ref) (ts.map mkT):=by calc⟨by rw[aa,aa,h.len],λi x o hx j=>?_⟩;rw[ck]at hx j;let⟨a,ha,rfl⟩:=dv.mp hx;let⟨t,ht,rfl⟩:=dv.mp j;let hi:i<as.length:=(ag.mp ha).1;let⟨u,D,F⟩:=h.get hi;rw[ht]at D;rw[bp D];rw[ac hi]at ha;rw[<-bp ha];show zc.mk F
def aaj (K:W.Frag)(C:Addr):Sp:=λvs H Q _=>∃(b:Addr) (x:V) (o:Option (List xK)) (r w:Nat) (aD aL:AB) (bi bj:Nat),vs=[.ref b,x]/\cM C H b r w aD aL bi bj/\LyD K H x o/\∀H',aB H H'->Q (.bl (layB r w o)) H'
def QD {C:Addr}(D:aM K mg "is_laying" tV ["board","thing"])(bh:mg "len"=none)(cI:mg "tuple"=none)(bK:mg "isinstance"=none)(fj:mg "all"=none)(Jt:mg "zip"=none)(oH:∃t,mg "MOST_TILES"=some (.int 7 t))(Ub:bV P w K mg base "is_triple" 3 ["board","thing"] (M5 K C))(qW:bV P w K mg base "cells_of" 1 ["laying"] xM):bV P w K mg base "is_laying" 4 ["board","thing"] (aaj K C):=by
 calc D.cZ vX (λf bG A outer s H vs Q E hr h=>?_);let⟨b,x,o,r,w,aD,aL,bi,bj,rfl,BA,hT,q⟩:=h;let w9:=BA.ok.w9;calc⟨_,(aA (cB (QW.qt (lY (eG (dJ (aV fQ pk bK cp (aj aW (aj (jV (v:=.ty "tuple") pk cI c_ rL) ao))))) (jZ (eG (zN pQ pQ au (aV bW pk bh ay (aj aW ao)) (Xc pk oH)))))) (aF (bf iu)) bJ) (aA (cB (eG (dJ (aV (jK rL) pk fj jx (aj (jB rL (jc.of vX.nd pE) (gM aW) (λ_ _ _ _ _=>dR) (λ_ _ _ _ _=>(bD Ub hr.mono rL (aj aW (aj aG ao))))) ao)))) (aF (bf iu)) bJ) (aA (aU (i:=2) vX.nd rL (Or.inl rL) (bD qW hr.mono rL (aj aW ao))) (aF (bf (aV (jK rL) pk fj jx (aj (lK (ns:=["cell","later"]) rL (jA.of ["board","thing","cells"] [] pE) (aec pk Jt (aj bA (aj (dh vD bA (dD au) d8) ao))) (λ_ _ _ _ _=>(ad4 K rL (show (["cell","later","board","thing","cells"]:List Str).Nodup by decide +kernel) rL rL pk pk)) (λ_ _ _ _ _=>dR) (λ_ _ _ _ _=>(d7 (agy hr.afT) aG aW (bF _)))) ao))))))),?_⟩;cases hT with
 | no h=>let⟨t,ty,k⟩:=h;show⟨_,rL,_,_,_,false,rL,ty,k,_,rL,cj (cj (q H (aB.refl _)))⟩
 | @tup p xs os hp hP h100=>
  let cW:=hP.len;calc⟨_,rL,_,_,_,true,rL,.tup hp,pE,_,rL,bQ ?_⟩;let F:¬layB r w (some os)=true->∀H',aB H H'->Q (.bl false) H':=λz H' s'=>by have:=q H' s';rw[Bool.not_eq_true _ |>.mp z]at this;show this
  calc⟨_,rL,p,_,rL,.inr (aO.of hp),_,_,rL,rL,?_⟩;rw[cW];by_cases h1:1<=os.length
  .calc⟨true,by simp;lia,cj (JA _ _ ⟨rL,rL,?_⟩)⟩;by_cases h7:os.length<=7
   .calc⟨true,by simp;lia,bQ ?_⟩;refine⟨_,rL,p,rL,⟨_,aO.of hp⟩,λL hL=>qj (xs:=xs) (λi ys Z=>ys=((os.take i).map (t_ r w)).map V.bl/\Z L=some (.lst ys)/\aB H Z) ⟨rL,aq,aB.upd hL⟩ (λi ys Z _ h=>aO.of (h.2.2 _ _ hp)) ?_ ?_⟩
    .intro i x ys Z hi z;let⟨rfl,Y,j⟩:=z;let hil:i<xs.length:=(ag.mp hi).1;let hio:i<os.length:=o6;let ho:=ac hio;calc⟨_,rL,_,rL,b,x,os[i],r,w,aD,aL,bi,bj,rL,BA.mv j,(hP.at_ i x _ hi ho).mv j,Y,?_,gY.mk hil ⟨?_,aq,j.dF hL⟩⟩;.rw[aa,aa,am];show aK o6
     .rw[take_snoc ho,bv];rfl
    .intro ys Z z;let⟨rfl,Y,j⟩:=z;calc JA L _ ⟨rL,bB.of Y,?_⟩;rw[cW,ce,all_map];calc⟨_,rL,?_⟩;cases ha:os.all (t_ r w) with
     | false=>show cj (F (by unfold layB;simp only;rw[ha];simp) Z j)
     | true=>
      calc bQ ?_;let⟨ts,rfl,dU⟩:=M6 ha;let⟨as,rfl,hLy⟩:=hP.lay;rw[aa]at h1 h7;calc⟨_,rL,p,as,ts,rL,j _ _ hp,hLy.mv j,o6,λLc cs H3 s3 hLc hcs=>?_⟩;let eO:=j.trans s3;calc⟨_,rL,_,rL,_,rL,Lc,_,rL,bB.of hLc,λM hM=>?_⟩;let hcl:=hcs.len;rw[aa]at hcl;let eM:gH (cs.map V.ref) (some 1) none=(cs.drop 1).map V.ref:=by unfold gH;rw[show (some (1:Int))=some (((1:Nat):Int)) from rL,HT.kO,HT.rR,aa,fq (show 1<=cs.length by lia),b9 (by rw[bc,aa];lia),nV]
      rw[eM];let sM:aB H3 (upd H3 M (HO.lst ((cs.drop 1).map V.ref))):=aB.upd hM;let Gb:upd H3 M (HO.lst ((cs.drop 1).map V.ref)) M=some (.lst ((cs.drop 1).map V.ref)):=aq;let J:=sM _ _ hLc;let Ky:=hcs.mv sM;let gC:=eO.trans sM;generalize upd H3 M (HO.lst ((cs.drop 1).map V.ref))=H4 at sM Gb J Ky gC ⊢;generalize O:(ts.map λt=>(t.1,t.2.1))=cc at Ky;let ai4:cc.length=cs.length:=by rw[<-O,aa,hcl]
      let hw9:∀u∈cc,u.2<1000:=λu hu=>by rw[<-O]at hu;let⟨t,ht,rfl⟩:=bd.mp hu;have:=(dU t ht).2.1;show t.2.1<1000;lia
      let Bq:(cc.zip (cc.drop 1)).length=cs.length-1:=by rw[List.length_zip,bc,ai4];lia
      refine JA Lc M ⟨rL,⟨_,bB.of J⟩,⟨_,bB.of Gb⟩,λN hN=>agx (f:=jC [] 0) (K:=K) (KT:=K) (a:=Lc) (b:=M) (tt:=lH) (xs:=cs.map V.ref) (ys:=(cs.drop 1).map V.ref) (by rw[aa,aa,bc];lia)
       (λn zs G=>zs=(((cc.zip (cc.drop 1)).take n).map ltQ).map V.bl/\G N=some (.lst zs)/\aB H4 G)
       ⟨rL,aq,aB.upd hN⟩ (λn zs G _ h=>⟨bB.of (h.2.2 _ _ J),bB.of (h.2.2 _ _ Gb)⟩) ?_ ?_⟩
      .intro n x y zs G T hx hy z hT;let⟨rfl,xH,o8⟩:=z;let kT:aB G (upd G T (HO.tup [x,y])):=aB.upd hT;rw[ck]at hx hy;let⟨a1,ha1,rfl⟩:=dv.mp hx;let⟨a2,I,rfl⟩:=dv.mp hy;rw[nB]at I;let n1:n<cs.length:=(ag.mp ha1).1;let n2:1+n<cs.length:=(ag.mp I).1;let c1:cc[n]?=some cc[n]:=ac o6;let c2:cc[1+n]?=some cc[1+n]:=ac o6;let e1:=kT _ _ (o8 _ _ (Ky.at_ n a1 _ ha1 c1));let e2:=kT _ _ (o8 _ _ (Ky.at_ (1+n) a2 _ I c2));calc ah2 rL (aO.of aq) ?_;calc⟨_,rL,_,rL,a1,a2,_,_,_,_,rL,rL,e1,e2,hw9 _ (aI _),hw9 _ (aI _),kT _ _ xH,?_,gY.mk (by rw[aa,bc];lia) ⟨?_,aq,(o8.trans kT).dF hN⟩⟩;.rw[aa,aa,am];show aK o6
       .let ez:(cc.zip (cc.drop 1))[n]?=some (cc[n],cc[1+n]):=by
         rw[oq];show⟨c1,by rw[nB];show c2⟩
        rw[take_snoc ez,bv];rfl
      .intro zs G z;let⟨rfl,xH,o8⟩:=z;calc JA N _ ⟨rL,bB.of xH,?_⟩;rw[b9 (by rw[aa,bc,Bq];lia),all_map];have:=q G (gC.trans o8);let e:layB r w (some (ts.map mkT))=jG cc:=by
        unfold layB;simp only;rw[ha,QB,O,aa,al (show 1<=ts.length/\ts.length<=7 from ⟨h1,h7⟩)];rfl
       rw[e]at this;show this
   .calc⟨false,by simp;lia,cj ?_⟩;show F (by unfold layB;simp;lia) H (aB.refl _)
  .calc⟨false,by simp;lia,bQ ⟨_,rL,cj ?_⟩⟩;show F (by unfold layB;simp;lia) H (aB.refl _)
def aeo {f C R:Addr}{fd:FuncData}(F:dX K "__init__" "Taken.__init__" j4 f fd)(j:mg "RackError"=some (.ref R))(D:InitOf K R)(T:pB K mg "Taken" C f ["row","column"]):bZ P w K mg base dz 1 f fd ["self","row","column"] (Jb C "row" "column"):=by calc F.cZ Nz (λbG A outer s H vs Q E G h=>?_);let⟨a,v,u,rfl,ha,q⟩:=h;calc⟨_,(aA (cR (uY pk j D (aj aG (aj aW (aj bA ao))))) (aA (vK aG aW rL) (aF (vK aG bA rL)))),?_⟩;calc⟨_,rL,_,rL,_,rL,a,C,f,none,[v,u],rL,ha,T.M.ini,zsz 2,?_⟩;show⟨_,rL,_,rL,a,C,none,rL,ha,T.T,T.no _ pi,.inl ⟨rL,λdx ne nd=>⟨_,rL,_,rL,a,C,some dx,rL,aq,T.T,T.no _ pi,.inr (JA dx _ ⟨rL,by rw[aP ne,aq],by show 1<50;decide,q dx ne nd⟩)⟩⟩⟩
def agN {f C R:Addr}{fd:FuncData}(F:dX K "__init__" "Gap.__init__" ni f fd)(j:mg "RackError"=some (.ref R))(D:InitOf K R)(T:pB K mg "Gap" C f ["row","column"]):bZ P w K mg base dz 1 f fd ["self","row","column"] (Jb C "row" "column"):=by calc F.cZ Tv (λbG A outer s H vs Q E G h=>?_);let⟨a,v,u,rfl,ha,q⟩:=h;calc⟨_,(aA (cR (uY pk j D (aj aG (aj aW (aj bA ao))))) (aA (vK aG aW rL) (aF (vK aG bA rL)))),?_⟩;calc⟨_,rL,_,rL,_,rL,a,C,f,none,[v,u],rL,ha,T.M.ini,zsz 2,?_⟩;show⟨_,rL,_,rL,a,C,none,rL,ha,T.T,T.no _ pi,.inl ⟨rL,λdx ne nd=>⟨_,rL,_,rL,a,C,some dx,rL,aq,T.T,T.no _ pi,.inr (JA dx _ ⟨rL,by rw[aP ne,aq],by show 1<50;decide,q dx ne nd⟩)⟩⟩⟩
def M7 {H:Hp}{a dx:Addr}{o p q p2:HO}(na:H a=none)(ne:dx≠a)(nd:upd H a o dx=none):upd (upd (upd (upd H a o) dx p) a q) dx p2 a=some q/\aB H (drop (upd (upd (upd (upd H a o) dx p) a q) dx p2) a)/\drop (upd (upd (upd (upd H a o) dx p) a q) dx p2) a dx=some p2:=by
 rw[aP ne]at nd;refine⟨by rw[aP ne.symm,aq],λb u e=>?_,?_⟩
 .let h1:b≠a:=aY e na;let h2:b≠dx:=aY e nd;rw[jD h1,aP h2,aP h1,aP h2,aP h1];show e
 .rw[jD ne,aq]
abbrev Vq (i j:Nat):List (Str×V):=g_ "column" (.int j) [("row",.int i)]
def Vr {α:Type}{p:α->Bool}{l:List α}{n:Nat}(hn:n<l.length)(h0:∀x∈l.take n,p x=false)(h1:p l[n]=true):l.find? p=some l[n]:=by
 let e:l=l.take n++l[n]::l.drop (n+1):=by rw[<-fS hn,ka]
 let e2:(l.take n++l[n]::l.drop (n+1)).find? p=some l[n]:=by rw[List.find?_append,List.find?_eq_none.mpr λx hx=>by rw[h0 x hx];decide,Option.none_or,List.find?_cons_of_pos h1]
 rw[<-e]at e2;show e2
def Vs {α:Type}{p:α->Bool}{l:List α}(h0:∀x∈l,p x=false):l.find? p=none:=List.find?_eq_none.mpr λx hx=>by rw[h0 x hx];decide
def agO (a b:Nat):decide (V.int (a:Int)=V.int (b:Int))=decide (a=b):=by
 by_cases h:a=b;.subst h;simp
 .have:¬V.int (a:Int)=V.int (b:Int):=λz=>h (by injection z with z;show nS z)
  simp[h,this]
def sO (ts:List bR):Bool:=ts.all λt=>decide (t.1=(ts.headD (0,0,0)).1)
def sS (ts:List bR):Bool:=ts.all λt=>decide (t.2.1=(ts.headD (0,0,0)).2.1)
def wB {ts:List bR}(h:0<ts.length):ts.headD (0,0,0)=ts[0]:=by
 cases ts with| nil=>simp at h| cons a b=>rfl
def M8:Sp:=λvs H Q _=>∃(t:Addr) (as:List Addr) (ts:List bR),vs=[.ref t]/\H t=some (.tup (as.map V.ref))/\eE H as ts/\0<ts.length/\ts.length<=7/\∀H',aB H H'->Q (.bl (sO ts)) H'
def Vt:Sp:=λvs H Q _=>∃(t:Addr) (as:List Addr) (ts:List bR),vs=[.ref t]/\H t=some (.tup (as.map V.ref))/\eE H as ts/\0<ts.length/\ts.length<=7/\∀H',aB H H'->Q (.bl (sS ts)) H'
def N8 (D:aM K mg "is_across" pJ ["laying"])(fj:mg "all"=none):bV P w K mg base "is_across" 1 ["laying"] M8:=by
 calc D.cZ Cp (λf bG A outer s H vs Q E hr h=>?_);let⟨t,as,ts,rfl,ht,Y,h0,h7,q⟩:=h;let O:=Y.len;let hh:=wB h0;calc⟨_,(aF (bf (aV (jK rL) pk fj jx (aj (lK (ns:=["row","column","sign"]) rL (jA.of ["laying"] [] pE) (gM aG) (λ_ _ _ _ _=>(oO K rL (show (["row","column","sign","laying"]:List Str).Nodup by decide +kernel) rL rL rL pk pk pk)) (λ_ _ _ _ _=>dR) (λ_ _ _ _ _=>(d7 iH aG (aX (qw K) (aX (qw K) bI au (λ_ _=>rfl)) au (λ_ _=>rfl)) (bF _)))) ao)))),?_⟩;refine⟨_,rL,t,rL,⟨_,aO.of ht⟩,λN Z=>jQ (K:=K) (KT:=K) (a:=t) (f:=jC [] 0) (tt:=lH) (xs:=as.map V.ref) (λn ys G=>ys=((ts.take n).map λt=>decide (t.1=(ts.headD (0,0,0)).1)).map V.bl/\G N=some (.lst ys)/\aB H G)
  ⟨rL,aq,aB.upd Z⟩ (λn ys G _ h=>aO.of (h.2.2 _ _ ht)) ?_ ?_⟩
 .intro n x ys G hx z;let⟨rfl,J,F⟩:=z;let⟨hn,hx⟩:=rfg hx;let I:n<ts.length:=o6;let⟨_,en⟩:=jz (Y.mv F) I;let⟨g0,e0⟩:=jz (Y.mv F) h0;calc uW hx.symm (aO.of en) ?_;calc⟨_,rL,_,rL,t,_,_,.ref as[0],rL,rL,aO.of (F _ _ ht),aN (j:=0) (by simp[g0]),as[0],_,_,_,rL,rL,aO.of e0,aN (j:=0) rL,rL,J,?_,gY.mk (by rw[aa];show hn) ⟨?_,aq,F.dF Z⟩⟩;.rw[aa,aa,am];show aK o6
  .rw[take_snoc (ac I),bv,hh,agO];rfl
 .intro ys G z;let⟨rfl,J,F⟩:=z;calc JA N _ ⟨rL,bB.of J,?_⟩;rw[aa,O,ce,all_map];show q G F
def XJ (D:aM K mg "is_down" wZ ["laying"])(fj:mg "all"=none):bV P w K mg base "is_down" 1 ["laying"] Vt:=by
 calc D.cZ Xp (λf bG A outer s H vs Q E hr h=>?_);let⟨t,as,ts,rfl,ht,Y,h0,h7,q⟩:=h;let O:=Y.len;let hh:=wB h0;calc⟨_,(aF (bf (aV (jK rL) pk fj jx (aj (lK (ns:=["row","column","sign"]) rL (jA.of ["laying"] [] pE) (gM aG) (λ_ _ _ _ _=>(oO K rL (show (["row","column","sign","laying"]:List Str).Nodup by decide +kernel) rL rL rL pk pk pk)) (λ_ _ _ _ _=>dR) (λ_ _ _ _ _=>(d7 iH aW (aX (qw K) (aX (qw K) bI au (λ_ _=>rfl)) au (λ_ _=>rfl)) (bF _)))) ao)))),?_⟩;refine⟨_,rL,t,rL,⟨_,aO.of ht⟩,λN Z=>jQ (K:=K) (KT:=K) (a:=t) (f:=jC [] 0) (tt:=lH) (xs:=as.map V.ref) (λn ys G=>ys=((ts.take n).map λt=>decide (t.2.1=(ts.headD (0,0,0)).2.1)).map V.bl/\G N=some (.lst ys)/\aB H G)
  ⟨rL,aq,aB.upd Z⟩ (λn ys G _ h=>aO.of (h.2.2 _ _ ht)) ?_ ?_⟩
 .intro n x ys G hx z;let⟨rfl,J,F⟩:=z;let⟨hn,hx⟩:=rfg hx;let I:n<ts.length:=o6;let⟨_,en⟩:=jz (Y.mv F) I;let⟨g0,e0⟩:=jz (Y.mv F) h0;calc uW hx.symm (aO.of en) ?_;calc⟨_,rL,_,rL,t,_,_,.ref as[0],rL,rL,aO.of (F _ _ ht),aN (j:=0) (by simp[g0]),as[0],_,_,_,rL,rL,aO.of e0,aN (j:=1) rL,rL,J,?_,gY.mk (by rw[aa];show hn) ⟨?_,aq,F.dF Z⟩⟩;.rw[aa,aa,am];show aK o6
  .rw[take_snoc (ac I),bv,hh,agO];rfl
 .intro ys G z;let⟨rfl,J,F⟩:=z;calc JA N _ ⟨rL,bB.of J,?_⟩;rw[aa,O,ce,all_map];show q G F
abbrev IL2:=iC (λq:Int×Int=>[V.int q.1,V.int q.2])
def around (i j:Int):List (Int×Int):=[(i-1,j),(i+1,j),(i,j-1),(i,j+1)]
def tkC (aD:AB)(r w:Nat)(p:Int×Int):Bool:=!decide ([atC aD r w p.1 p.2]=[46])
def O1 (aD:AB)(r w:Nat)(i j:Int):Bool:=(around i j).any (tkC aD r w)
def any_map {α:Type}(l:List α)(f:α->Bool):((l.map f).any id)=l.any f:=by induction l with|nil=>rfl|cons a l ih=>simp[ih]
def QF (C:Addr):Sp:=λvs H Q _=>∃(b:Addr) (r w:Nat) (aD aL:AB) (bi bj:Nat) (i j:Int),vs=[.ref b,.int i,.int j]/\cM C H b r w aD aL bi bj/\∀H',aB H H'->Q (.bl (O1 aD r w i j)) H'
def N_ {C f1:Addr}{dH:FuncData}(D:aM K mg "is_next_to_taken" lq ["board","row","column"])(xO:mg "any"=none)(fX:∃t,mg "FREE"=some (.str (S [46]) t))(cu:gA K C)(qX:Meth K C "at" f1)(qY:bZ P w K mg base dz 3 f1 dH ["self","row","column"] (XC C))(qZ:bN K dH ["self","row","column"] []):bV P w K mg base "is_next_to_taken" 5 ["board","row","column"] (QF C):=by
 calc D.cZ nZ (λf bG A outer s H vs Q E hr h=>?_);let⟨b,r,w,aD,aL,bi,bj,i,j,rfl,BA,q⟩:=h;calc⟨_,(aA (aU (i:=3) nZ.nd rL (Or.inl rL) (cO (aj (cO (aj (aJ nJ aW au) (aj bA ao))) (aj (cO (aj (aJ cG aW au) (aj bA ao))) (aj (cO (aj aW (aj (aJ nJ bA au) ao))) (aj (cO (aj aW (aj (aJ cG bA au) ao))) ao)))))) (aF (bf (aV (Qf rL) pk xO Mu (aj (jB rL (jc.of nZ.nd pE) (gM bI) (λ_ _ _ _ _=>dR) (λ_ _ _ _ _=>(d7 Ir (mH aW cu.cl qX qY hr.mono qZ .nil dM (aj (aX (qw K) aG au (λ_ _=>rfl)) (aj (aX (qw K) aG au (λ_ _=>rfl)) ao))) (tL pk fX) (bF _)))) ao))))),?_⟩;calc⟨_,rL,_,_,rL,rL,_,rL,zsz 2,λF h1=>⟨_,rL,_,_,rL,rL,_,rL,zsz 2,λg2 h2=>⟨_,rL,_,rL,_,_,rL,rL,zsz 2,λI h3=>⟨_,rL,_,rL,_,_,rL,rL,zsz 2,λG h4=>⟨zsz 4,λA J=>?_⟩⟩⟩⟩⟩;dsimp only at h1 h2 h3 h4 J ⊢;let k1:aB H (upd H F (HO.tup [.int (i-1),.int j])):=aB.upd h1;let e1:upd H F (HO.tup [.int (i-1),.int j]) F=some (.tup [.int (i-1),.int j]):=aq;generalize upd H F (HO.tup [.int (i-1),.int j])=H1 at k1 e1 h2 h3 h4 J ⊢;let k2:aB H1 (upd H1 g2 (HO.tup [.int (i+1),.int j])):=aB.upd h2;let e2:upd H1 g2 (HO.tup [.int (i+1),.int j]) g2=some (.tup [.int (i+1),.int j]):=aq;generalize upd H1 g2 (HO.tup [.int (i+1),.int j])=H2 at k2 e2 h3 h4 J ⊢;let k3:aB H2 (upd H2 I (HO.tup [.int i,.int (j-1)])):=aB.upd h3;let e3:upd H2 I (HO.tup [.int i,.int (j-1)]) I=some (.tup [.int i,.int (j-1)]):=aq;generalize upd H2 I (HO.tup [.int i,.int (j-1)])=H3 at k3 e3 h4 J ⊢;let k4:aB H3 (upd H3 G (HO.tup [.int i,.int (j+1)])):=aB.upd h4;let e4:upd H3 G (HO.tup [.int i,.int (j+1)]) G=some (.tup [.int i,.int (j+1)]):=aq;generalize upd H3 G (HO.tup [.int i,.int (j+1)])=H4 at k4 e4 J ⊢;let k5:aB H4 (upd H4 A (HO.tup [.ref F,.ref g2,.ref I,.ref G])):=aB.upd J;let e5:upd H4 A (HO.tup [.ref F,.ref g2,.ref I,.ref G]) A=some (.tup ([F,g2,I,G].map V.ref)):=aq;let il:IL2 H4 [F,g2,I,G] (around i j):=((iC.one (x:=(i-1,j)) (k4 _ _ (k3 _ _ (k2 _ _ e1)))).app (iC.one (x:=(i+1,j)) (k4 _ _ (k3 _ _ e2)))).app ((iC.one (x:=(i,j-1)) (k4 _ _ e3)).app (iC.one (x:=(i,j+1)) e4));let s5:=(((k1.trans k2).trans k3).trans k4).trans k5;let Y:=il.mv k5;generalize upd H4 A (HO.tup [.ref F,.ref g2,.ref I,.ref G])=H5 at k5 e5 s5 Y ⊢;let BA5:=BA.mv s5;refine⟨_,rL,A,rL,⟨_,aO.of e5⟩,λN hN=>qj (xs:=[F,g2,I,G].map V.ref) (λn ys O=>ys=(((around i j).take n).map (tkC aD r w)).map V.bl/\O N=some (.lst ys)/\aB H5 O)
  ⟨rL,aq,aB.upd hN⟩ (λn ys O _ h=>aO.of (h.2.2 _ _ e5)) ?_ ?_⟩
 .intro n x ys O hx z;let⟨rfl,rM,qC⟩:=z;let hn:n<[F,g2,I,G].length:=by have:=(ag.mp hx).1;simpa using this
  let hn4:n<4:=hn;rw[ck,ac hn]at hx;let hx:V.ref [F,g2,I,G][n]=x:=bp hx;subst hx;let⟨u,eu,hu⟩:=(Y.mv qC).get hn;let Z:=BA5.mv qC;let⟨dx,_,_,_,ex,_⟩:=id Z.ex;calc⟨_,rL,b,dx,_,rL,ex,rL,_,rL,_,_,_,_,rL,rL,aO.of hu,aN (j:=0) rL,_,rL,_,_,_,_,rL,rL,aO.of hu,aN (j:=1) rL,b,r,w,aD,aL,bi,bj,u.1,u.2,rL,Z,[_],[46],rL,rL,rM,?_,gY.mk (by rw[aa];show hn) ⟨?_,aq,qC.dF hN⟩⟩;.rw[aa,aa,am];show aK o6
  .rw[take_snoc eu,bv];rfl
 .intro ys O z;let⟨rfl,rM,qC⟩:=z;calc JA N _ ⟨rL,bB.of rM,?_⟩;rw[b9 (by show 4<=4;decide),any_map];show q O (s5.trans qC)
def Ju:Sp:=λvs H Q _=>∃c:Nat,vs=[.str (S [c])]/\c<128/\Q (.str (S ([c].map PyProof.Rows.lo1))) H
def QH (D:aM K mg "letter_of" tM ["sign"]):bV P w K mg base "letter_of" 1 ["sign"] Ju:=by calc D.cZ Qj (λf bG A outer s H vs Q E F h=>?_);let⟨c,rfl,j,q⟩:=h;calc⟨_,(aF (bf (qJ bq lI lL PL aG))),?_⟩;show⟨_,rL,rL,[c],rL,rL,by show 1<=1000;decide,λd hd=>by rw[aS.mp hd];show j,q⟩
def QJ {aD:AB}{r w i j:Nat}(hi:i<r)(D:j<w):atC aD r w (i:Int) (j:Int)=cell aD i j:=by unfold atC cell;rw[if_pos ⟨o6,o6,o6,o6⟩,dP,dP]
def tkT (aD:AB)(t:bR):Bool:=!decide ([cell aD t.1 t.2.1]=[46])
def zY (aD:AB)(ts:List bR):Option bR:=ts.find? (tkT aD)
def QK (C j:Addr):Sp:=λvs H Q E=>∃(b t:Addr) (as:List Addr) (ts:List bR) (r w:Nat) (aD aL:AB) (bi bj:Nat),vs=[.ref b,.ref t]/\cM C H b r w aD aL bi bj/\H t=some (.tup (as.map V.ref))/\eE H as ts/\(∀t∈ts,inB r w t)/\
 (∀u,zY aD ts=some u->∀(dx:Addr) (H':Hp),aB H H'->H' dx=some (.ext (XD dx (Vq u.1 u.2.1)))->E (.ref j) (some dx) H')/\
 (zY aD ts=none->∀H',aB H H'->Q .non H')
def Oa {C O f0 f1:Addr}{dY dH:FuncData}(D:aM K mg "check_free" qN ["board","laying"])(fX:∃t,mg "FREE"=some (.str (S [46]) t))(cu:gA K C)(qX:Meth K C "at" f1)(qY:bZ P w K mg base dz 3 f1 dH ["self","row","column"] (XC C))(qZ:bN K dH ["self","row","column"] [])(T:pB K mg "Taken" O f0 ["row","column"])(aep:bZ P w K mg base dz 1 f0 dY ["self","row","column"] (Jb O "row" "column"))(Kz:bN K dY ["self","row","column"] []):DefX P w K mg base "check_free" 5 ["board","laying"] (QK C O):=by
 refine D.zP pW (λvs H Q E h=>?_) (λf bG A outer s H vs Q E hr h=>?_)
 .let⟨b,t,as,ts,r,w,aD,aL,bi,bj,rfl,_⟩:=h;rfl
 .let⟨b,t,as,ts,r,w,aD,aL,bi,bj,rfl,BA,ht,hL,dU,qE,q⟩:=h;let Z:=T.M;let ab2:=T.uN;let Y:=hL.len;calc⟨_,(aF (fD jn rL (gM aW) (nO rL (bU (bC (i:=2) pW.nd rL (Or.inl rL)) (bU (bC (i:=3) pW.nd rL (Or.inl rL)) (bU (bC (i:=4) pW.nd rL (Or.inl rL)) kY)))) (aF (cB (bM Ir (mH aG cu.cl qX qY hr.mono qZ .nil dM (aj bA (aj bI ao))) (tL pk fX) (bF _)) (aF (uo qx rL Z aep hr.mono pk ab2 Kz (aj bA (aj bI ao)))) bJ)))),?_⟩;refine⟨_,rL,t,rL,⟨_,aO.of ht⟩,Ek (K:=K) (a:=t) (xs:=as.map V.ref) (λn σ H'=>∃v2 v3 v4:Option V,σ=[some (.ref b),some (.ref t),v2,v3,v4]/\aB H H'/\∀x∈ts.take n,tkT aD x=false)
   (JE none none none ⟨rL,aB.refl _,λx hx=>by simp at hx⟩) (λn σ H' _ h=>by let⟨_,_,_,_,I,_⟩:=h;show aO.of (I _ _ ht)) ?_ ?_⟩
  .intro n x σ H' hx z;let⟨v2,v3,v4,rfl,I,j⟩:=z;let⟨hn,hx⟩:=rfg hx;let F:n<ts.length:=o6;subst hx;let⟨_,en⟩:=jz (hL.mv I) F;let⟨c1,c2,_⟩:=dU _ (aI F);let J:=BA.mv I;let⟨dx0,_,_,_,ex,_⟩:=id J.ex;calc JA (as[n]) _ ⟨rL,aO.of en,rL,_,_,rL,_,_,rL,_,_,rL,rL,?_⟩;calc⟨_,rL,b,dx0,_,rL,ex,rL,_,rL,_,rL,b,r,w,aD,aL,bi,bj,_,_,rL,J,[_],[46],rL,rL,_,rL,?_⟩;rw[QJ c1 c2];cases G:tkT aD ts[n] with
   | true=>rw[show (!decide ([cell aD ts[n].1 ts[n].2.1]=[46]))=true from G];calc cj ⟨_,rL,_,rL,zsz 2,λa na=>(JE a _ _ ⟨rL,aq,λdx ne nd=>?_⟩)⟩;let⟨k0,k1,k2⟩:=M7 (q:=.ext (iQ a (.ref O) (some dx))) (p:=.ext (XD dx [("row",.int ts[n].1)])) (p2:=.ext (XD dx (Vq ts[n].1 ts[n].2.1))) na ne nd;show⟨rL,some dx,k0,qE ts[n] (Vr F j G) dx _ (I.trans k1) k2⟩
   | false=>
    rw[show (!decide ([cell aD ts[n].1 ts[n].2.1]=[46]))=false from G];calc bQ (JE _ _ _ ⟨rL,I,λx hx=>?_⟩);rw[cz,ac F]at hx;rcases bz.mp hx with z|z;.show j x z
    .rw[aS.mp z];show G
  .intro σ H' z;let⟨v2,v3,v4,rfl,I,j⟩:=z;rw[aa,Y,ce]at j;show q (Vs j) H' I
def Vu (j:Addr):Sp:=λvs H Q E=>∃(t:Addr) (as:List Addr) (ts:List bR),vs=[.ref t]/\H t=some (.tup (as.map V.ref))/\eE H as ts/\0<ts.length/\ts.length<=7/\
 ((sO ts||sS ts)=false->∀H',aB H H'->E (.ref j) none H')/\((sO ts||sS ts)=true->∀H',aB H H'->Q .non H')
def Ft {G:Addr}(D:aM K mg "check_straight" nq ["laying"])(Z:mg "Crooked"=some (.ref G))(F:W.excIn K G jR "ValueError.__new__"=true)(Y:bV P w K mg base "is_across" 1 ["laying"] M8)(j:bV P w K mg base "is_down" 1 ["laying"] Vt):DefX P w K mg base "check_straight" 3 ["laying"] (Vu G):=by
 refine D.zP Fo (λvs H Q E h=>?_) (λf bG A outer s H vs Q E I h=>?_)
 .let⟨t,as,ts,rfl,_⟩:=h;rfl
 .let⟨t,as,ts,rfl,ht,O,h0,h7,qE,q⟩:=h;calc⟨_,(aF (cB (QW.qt (vP (eG (dJ (bD Y I.mono rL (aj aG ao)))) (yP (eG (dJ (bD j I.mono rL (aj aG ao))))))) (aF (Gy qx rL rL pk Z F (aj (bH [116,104,101,32,99,101,108,108,115,32,97,114,101,32,110,111,116,32,105,110,32,111,110,101,32,108,105,110,101] pS) ao))) bJ)),?_⟩;calc⟨_,rL,t,as,ts,rL,ht,O,h0,h7,λH1 s1=>⟨_,rL,?_⟩⟩;cases ha:sO ts with
  | true=>show bQ (bQ (q (by rw[ha];rfl) H1 s1))
  | false=>
   calc cj ⟨_,rL,t,as,ts,rL,s1 _ _ ht,O.mv s1,h0,h7,λJ s2=>⟨_,rL,?_⟩⟩;cases hd:sS ts with| true=>show bQ (q (by rw[ha,hd];rfl) J (s1.trans s2))| false=>show cj ⟨zsz 1,qE (by rw[ha,hd];rfl) J (s1.trans s2)⟩
structure adq (R:AB)(a b c d i j:Nat):Prop where
 i1:a<=i
 i2:i<=b
 j1:c<=j
 j2:j<=d
 fr:cell R i j=46
 up:∀i' j',a<=i'->i'<i->c<=j'->j'<=d->cell R i' j'≠46
 le:∀j',c<=j'->j'<j->cell R i j'≠46
def Jv (R:AB)(a b c d:Nat):Prop:=∀i j,a<=i->i<=b->c<=j->j<=d->cell R i j≠46
def mj (ts:List bR):bR:=ts.getLastD (0,0,0)
def oJ (ts:List bR):bR:=ts.headD (0,0,0)
def ab3 {ts:List bR}(h:0<ts.length):mj ts=ts[ts.length-1]:=by unfold mj;rw[List.getLastD_eq_getLast?,on,ac o6];rfl
def QM (C CG:Addr):Sp:=λvs H Q E=>∃(b t:Addr) (as:List Addr) (ts:List bR) (r w:Nat) (aD aL:AB) (bi bj:Nat),vs=[.ref b,.ref t]/\cM C H b r w aD aL bi bj/\H t=some (.tup (as.map V.ref))/\eE H as ts/\(∀t∈ts,inB r w t)/\0<ts.length/\
 (∀i j,adq (dO aD ts) (oJ ts).1 (mj ts).1 (oJ ts).2.1 (mj ts).2.1 i j->∀(dx:Addr) (H':Hp),aB H H'->H' dx=some (.ext (XD dx (Vq i j)))->E (.ref CG) (some dx) H')/\
 (Jv (dO aD ts) (oJ ts).1 (mj ts).1 (oJ ts).2.1 (mj ts).2.1->∀H',aB H H'->Q .non H')
def Ob {C CG f0 f1 f2:Addr}{dY dH fd2:FuncData}(D:aM K mg "check_gaps" qO ["board","laying"])(d_:mg "range"=none)(fX:∃t,mg "FREE"=some (.str (S [46]) t))(cu:gA K C)(qX:Meth K C "at" f1)(qY:bZ P w K mg base dz 3 f1 dH ["self","row","column"] (XC C))(qZ:bN K dH ["self","row","column"] [])(j_:Meth K C "laid" f2)(kh:bZ P w K mg base dz 8 f2 fd2 ["self","laying"] (CK C))(kj:bN K fd2 ["self","laying"] [])(T:pB K mg "Gap" CG f0 ["row","column"])(aik:bZ P w K mg base dz 1 f0 dY ["self","row","column"] (Jb CG "row" "column"))(XQ:bN K dY ["self","row","column"] []):DefX P w K mg base "check_gaps" 10 ["board","laying"] (QM C CG):=by
 refine D.zP pX (λvs H Q E h=>?_) (λf bG A outer s H vs Q E hr h=>?_)
 .let⟨b,t,as,ts,r,w,aD,aL,bi,bj,rfl,_⟩:=h;rfl
 .let⟨b,t,as,ts,r,w,aD,aL,bi,bj,rfl,BA,ht,hL,dU,h0,qE,q⟩:=h;let ail:=T.M;let agP:=T.uN;let hal:=hL.len;let r9:=BA.ok.r9;let w9:=BA.ok.w9;let⟨dx,_,_,_,ex,_⟩:=id BA.ex;calc⟨_,(aA (aU (i:=2) pX.nd rL (Or.inl rL) (mH aG cu.cl j_ kh hr.mono kj .nil dM (aj aW ao))) (aF (fD jn rL (Mr pk d_ (aj (aX bw (aX bw aW au (λ_ _=>rfl)) au (λ_ _=>rfl)) (aj (aJ cG (aX bw (aX bw aW (mY jX au) (λ_ _=>rfl)) au (λ_ _=>rfl)) au) ao))) (bC (i:=3) pX.nd rL (Or.inl rL)) (aF (fD jn rL (Mr pk d_ (aj (aX bw (aX bw aW au (λ_ _=>rfl)) au (λ_ _=>rfl)) (aj (aJ cG (aX bw (aX bw aW (mY jX au) (λ_ _=>rfl)) au (λ_ _=>rfl)) au) ao))) (bC (i:=4) pX.nd rL (Or.inl rL)) (aF (cB (bM ju (mH bA cu.cl qX qY hr.mono qZ .nil dM (aj bI (aj cL ao))) (tL pk fX) (bF _)) (aF (uo qx rL ail aik hr.mono pk agP XQ (aj bI (aj cL ao)))) bJ))))))),?_⟩;calc⟨_,rL,b,dx,_,rL,ex,rL,_,rL,b,t,as,ts,r,w,aD,aL,bi,bj,rL,BA,ht,hL,dU,λx1 H1 s1 B1=>?_⟩;rw[show oJ ts=ts[0] from wB h0,ab3 h0]at qE q;let⟨a1,a2,_⟩:=dU _ (aI h0);let⟨l1,l2,_⟩:=dU _ (aI (show ts.length-1<ts.length by lia));let hL1:=hL.mv s1;let Y:=s1 _ _ ht;let⟨g0,e0⟩:=jz hL1 h0;let⟨gl,el⟩:=jz hL1 (show ts.length-1<ts.length by lia);let eal:as.length-1=ts.length-1:=o6;let adt:rK (as.map V.ref) (-1)=some (.ref as[ts.length-1]):=by
   rw[aen (show 0<as.length by lia)];simp only[eal]
  generalize hR:dO aD ts=R at B1 qE q;generalize ef:ts[0]=ff at e0 qE q a1 a2;generalize eg:ts[ts.length-1]=ll at el qE q l1 l2;calc⟨_,rL,t,_,_,.ref as[0],rL,rL,aO.of Y,aN (j:=0) (by simp[g0]),as[0],_,_,_,rL,rL,aO.of e0,aN (j:=0) rL,_,rL,_,rL,t,_,_,.ref as[ts.length-1],rL,rL,aO.of Y,adt,as[ts.length-1],_,_,_,rL,rL,aO.of el,aN (j:=0) rL,_,_,rL,rL,(ff.1:Int),(ll.1:Int)+1,rL,⟨o6,o6,o6,o6⟩,?_⟩;refine oh (lo:=(ff.1:Int)) (λn σ H'=>∃v3 O:Option V,σ=[some (.ref b),some (.ref t),some (.ref x1),v3,O]/\aB H1 H'/\∀i j,ff.1<=i->i<ff.1+n->ff.2.1<=j->j<=ll.2.1->cell R i j≠46)
   (JA none none ⟨rL,aB.refl _,λi j J z2=>by lia⟩) ?_ ?_
  .intro n σ H' hn z;let⟨v3,O,rfl,Z,I⟩:=z;let hn2:ff.1+n<=ll.1:=o6;let en:(ff.1:Int)+(n:Int)=((ff.1+n:Nat):Int):=o6;rw[en];let M4:=Z _ _ Y;let e02:=Z _ _ e0;let el2:=Z _ _ el;calc⟨_,rL,t,_,_,.ref as[0],rL,rL,aO.of M4,aN (j:=0) (by simp[g0]),as[0],_,_,_,rL,rL,aO.of e02,aN (j:=1) rL,_,rL,_,rL,t,_,_,.ref as[ts.length-1],rL,rL,aO.of M4,adt,as[ts.length-1],_,_,_,rL,rL,aO.of el2,aN (j:=1) rL,_,_,rL,rL,(ff.2.1:Int),(ll.2.1:Int)+1,rL,⟨o6,o6,o6,o6⟩,?_⟩;refine oh (lo:=(ff.2.1:Int)) (λm σ H2=>∃O:Option V,σ=[some (.ref b),some (.ref t),some (.ref x1),some (.int ((ff.1+n:Nat):Int)),O]/\aB H1 H2/\∀j,ff.2.1<=j->j<ff.2.1+m->cell R (ff.1+n) j≠46)
    ⟨_,rL,Z,λj J z2=>by lia⟩ ?_ ?_
   .intro m σ H2 hm z;let⟨O,rfl,F,G⟩:=z;let hm2:ff.2.1+m<=ll.2.1:=o6;let em:(ff.2.1:Int)+(m:Int)=((ff.2.1+m:Nat):Int):=o6;rw[em];let B2:=B1.mv F;let⟨dx1,_,_,_,Vn,_⟩:=id B2.ex;calc⟨_,rL,x1,dx1,_,rL,Vn,rL,_,rL,_,rL,x1,r,w,R,aL,bi,bj,_,_,rL,B2,[_],[46],rL,rL,_,rL,?_⟩;rw[QJ (show ff.1+n<r by lia) (show ff.2.1+m<w by lia)];by_cases hc:cell R (ff.1+n) (ff.2.1+m)=46
    .rw[al (show [cell R (ff.1+n) (ff.2.1+m)]=[46] by rw[hc])];calc cj ⟨_,rL,_,rL,zsz 2,λa na=>(JE a _ _ ⟨rL,aq,λdx ne nd=>?_⟩)⟩;let⟨k0,k1,k2⟩:=M7 (q:=.ext (iQ a (.ref CG) (some dx))) (p:=.ext (XD dx [("row",.int (ff.1+n:Nat))])) (p2:=.ext (XD dx (Vq (ff.1+n) (ff.2.1+m)))) na ne nd;show⟨rL,some dx,k0,qE _ _ ⟨o6,hn2,o6,hm2,hc,I,G⟩ dx _ ((s1.trans F).trans k1) k2⟩
    .rw[ah (show ¬[cell R (ff.1+n) (ff.2.1+m)]=[46] from λz=>hc (by injection z))];calc bQ ⟨_,rL,F,λj J z2=>?_⟩;by_cases z:j=ff.2.1+m;.rw[z];show hc
     .show G j J o6
   .intro σ H2 z;let⟨O,rfl,F,G⟩:=z;calc JA _ _ ⟨rL,F,λi j J z2 z3 z4=>?_⟩;by_cases z:i=ff.1+n;.rw[z];show G j z3 o6
    .show I i j J o6 z3 z4
  .intro σ H' z;let⟨v3,O,rfl,Z,I⟩:=z;show q (λi j J z2 z3 z4=>I i j J o6 z3 z4) H' (s1.trans Z)
def nF (t:bR):Nat×Nat:=(t.1,t.2.1)
noncomputable def Br (aD:AB)(r w bi bj:Nat)(ts:List bR):Bool:=if isFree aD=true then decide ((bi,bj)∈ts.map nF) else ts.any λt=>O1 aD r w t.1 t.2.1
theorem dB.ofP {H:Hp}:∀{cs:List Addr} {j:List (Nat×Nat)},PL2 H cs j->dB K H 1 (j.map λc=>Dt.tup [.int c.1,.int c.2]) (cs.map V.ref)
 | [],[],_=>.nil
 | [],_::_,h=>by have:=h.len;simp at this
 | _::_,[],h=>by have:=h.len;simp at this
 | a::cs,c::j,h=>.cons (.tup (aO.of (h.at_ 0 a c rL rL)) (.cons (.int _) (.cons (.int _) .nil))) (dB.ofP ⟨by have:=h.len;simpa using this,λi a x h1 h2=>h.at_ (i+1) a x h1 h2⟩)
def Jw {c:Nat×Nat}{j:List (Nat×Nat)}:Dt.tup [.int c.1,.int c.2]∈(j.map λc=>Dt.tup [.int (c.1:Int),.int (c.2:Int)])↔c∈j:=by
 constructor
 .intro h;let⟨d,hd,e⟩:=bd.mp h;injection e with e;injection e with e1 e2;injection e1 with e1;injection e2 with e2;injection e2 with e2;have:d=c:=Prod.ext (nS e1) (nS e2);rw[<-this];show hd
 .intro h;show bd.mpr ⟨c,h,rL⟩
def QV (C j:Addr):Sp:=λvs H Q E=>∃(b t:Addr) (as:List Addr) (ts:List bR) (r w:Nat) (aD aL:AB) (bi bj:Nat),vs=[.ref b,.ref t]/\cM C H b r w aD aL bi bj/\H t=some (.tup (as.map V.ref))/\eE H as ts/\ts.length<=7/\
 (Br aD r w bi bj ts=false->∀H',aB H H'->E (.ref j) none H')/\(Br aD r w bi bj ts=true->∀H',aB H H'->Q .non H')
open Classical in
def Jx {C CA f1:Addr}{dH:FuncData}(D:aM K mg "check_joined" oR ["board","laying"])(xO:mg "any"=none)(cu:gA K C)(q_:Meth K C "is_free" f1)(rm:bZ P w K mg base dz 1 f1 dH ["self"] (Qt C))(rB:bN K dH ["self"] [])(J:mg "Apart"=some (.ref CA))(aes:W.excIn K CA jR "ValueError.__new__"=true)(qW:bV P w K mg base "cells_of" 1 ["laying"] xM)(CN:bV P w K mg base "is_next_to_taken" 5 ["board","row","column"] (QF C)):DefX P w K mg base "check_joined" 7 ["board","laying"] (QV C CA):=by
 refine D.zP qP (λvs H Q E h=>?_) (λf bG A outer s H vs Q E I h=>?_)
 .let⟨b,t,as,ts,r,w,aD,aL,bi,bj,rfl,_⟩:=h;rfl
 .let⟨b,t,as,ts,r,w,aD,aL,bi,bj,rfl,BA,ht,Y,h7,qE,q⟩:=h;let O:=Y.len;let⟨dx,pr,pm,pb,ex,_,_,hpb⟩:=id BA.ex;calc⟨_,(aA (fO (cB (dJ (fV aG cu.cl q_ rm I.mono rB .nil dM)) (aF (aU (i:=2) qP.nd rL (Or.inl rL) (d7 (Ve I.units) (bO aG rL) (bD qW I.mono rL (aj aW ao)) rL))) (aF (aU (i:=2) qP.nd rL (Or.inl rL) (aV (Qf rL) pk xO Mu (aj (lK (ns:=["row","column","sign"]) rL (jA.of ["board","laying","joined"] [] pE) (gM aW) (λ_ _ _ _ _=>(oO K rL (show (["row","column","sign","board","laying","joined"]:List Str).Nodup by decide +kernel) rL rL rL pk pk pk)) (λ_ _ _ _ _=>dR) (λ_ _ _ _ _=>(bD CN I.mono rL (aj bI (aj aG (aj aW ao)))))) ao)))))) (aF (cB (eG (dJ bA)) (aF (Gy qx rL rL pk J aes (aj (bH [116,104,101,32,108,97,121,105,110,103,32,105,115,32,106,111,105,110,101,100,32,116,111,32,110,111,116,104,105,110,103] pS) ao))) bJ))),?_⟩;refine⟨λσ H'=>aB H H'/\σ=[some (.ref b),some (.ref t),some (.bl (Br aD r w bi bj ts))],?_,?_⟩
  .calc⟨_,rL,b,dx,_,rL,ex,rL,b,r,w,aD,aL,bi,bj,rL,BA,λH1 s1=>⟨_,rL,?_⟩⟩;cases hf:isFree aD with
   | true=>
    calc cj ⟨_,rL,b,C,dx,_,_,rL,s1 _ _ ex,cu.cl,cu.nb,rL,_,rL,t,as,ts,rL,s1 _ _ ht,Y.mv s1,o6,λLc cs H2 s2 Z hcs=>?_⟩;let ai5:=s2 _ _ (s1 _ _ hpb);calc JE 2 (.tup [.int bi,.int bj]) ((ts.map nF).map λc=>Dt.tup [.int c.1,.int c.2]) ⟨pj,.tup (aO.of ai5) (.cons (.int _) (.cons (.int _) .nil)),.lst (bB.of Z) (dB.ofP hcs),?_⟩;calc⟨s1.trans s2,?_⟩;let e:Br aD r w bi bj ts=decide ((bi,bj)∈ts.map nF):=by unfold Br;rw[if_pos hf]
    rw[e];simp only[fw,if_false];by_cases hm:(bi,bj)∈ts.map nF;.rw[al hm,al (Jw (c:=(bi,bj)).mpr hm)];rfl
    .rw[ah hm,ah (λz=>hm (Jw (c:=(bi,bj)).mp z))];rfl
   | false=>
    refine bQ ⟨_,rL,t,rL,⟨_,aO.of (s1 _ _ ht)⟩,λN hN=>jQ (K:=K) (KT:=K) (a:=t) (f:=jC [] 0) (tt:=lH) (xs:=as.map V.ref) (λn ys G=>ys=((ts.take n).map λt=>O1 aD r w t.1 t.2.1).map V.bl/\G N=some (.lst ys)/\aB H1 G)
     ⟨rL,aq,aB.upd hN⟩ (λn ys G _ h=>aO.of (h.2.2 _ _ (s1 _ _ ht))) ?_ ?_⟩
    .intro n x ys G hx z;let⟨rfl,wu,j⟩:=z;let⟨hn,hx⟩:=rfg hx;let F:n<ts.length:=o6;let eO:=s1.trans j;let⟨_,en⟩:=jz (Y.mv eO) F;calc uW hx.symm (aO.of en) ?_;calc⟨_,rL,_,rL,_,rL,b,r,w,aD,aL,bi,bj,_,_,rL,BA.mv eO,λH4 s4=>⟨s4 _ _ wu,?_,gY.mk (by rw[aa];show hn) ⟨?_,aq,(j.trans s4).dF hN⟩⟩⟩;.rw[aa,aa,am];show aK o6
     .rw[take_snoc (ac F),bv];rfl
    .intro ys G z;let⟨rfl,wu,j⟩:=z;calc JA N _ ⟨rL,bB.of wu,s1.trans j,?_⟩;rw[aa,O,ce,any_map];let e:Br aD r w bi bj ts=ts.any λt=>O1 aD r w t.1 t.2.1:=by unfold Br;rw[if_neg (by rw[hf];decide)]
     rw[e];rfl
  .rintro σ H' ⟨sm,rfl⟩;calc⟨_,rL,_,rL,?_⟩;cases hj:Br aD r w bi bj ts with| true=>show bQ (q hj H' sm)| false=>show cj ⟨zsz 1,qE hj H' sm⟩
structure yj (w:List Nat):Prop where
 lo:2<=w.length
 hi:w.length<=9
 az:∀c∈w,isLet c
def QX:Sp:=λvs H Q _=>∃l:List Nat,vs=[.str (S l)]/\yj l/\∀H',aB H H'->Q (.bl true) H'
def aam {c:Nat}(h:isLet c):decide ([c]<[97])=false/\decide ([122]<[c])=false:=by
 let j:∀a b:Nat,([a]<[b])↔a<b:=λa b=>by simp[hJ]
 constructor;.rw[ah];rw[j];have:=h.1;lia
 .rw[ah];rw[j];have:=h.2;lia
def XR (D:aM K mg "is_word" xq ["text"])(Y:mg "len"=none)(F:mg "all"=none):bV P w K mg base "is_word" 1 ["text"] QX:=by
 calc D.cZ Jf (λf bG A outer s H vs Q E Z h=>?_);let⟨l,rfl,hw,q⟩:=h;let h1:=hw.lo;let h2:=hw.hi;let hz:l.length<=sizeLine:=ap (aK o6);refine⟨_,aF (bf (jN (lJ pQ pQ au (aV cY pk Y ay (aj aG ao)) au)
  (jw (aV (jK rL) pk F pS (aj (jB rL (jc.of Jf.nd pE) (qL aG) (λ_ _ _ _ _=>dR)
   (λ_ _ _ _ _=>lJ nQ nQ (bH [97] pS) aG (bH [122] pS))) ao))))),?_⟩
 calc⟨_,rL,l,rL,hz,_,_,rL,rL,true,(by simp;lia),?_⟩;calc cj (JA _ _ ⟨rL,rL,true,(by simp;lia),?_⟩);calc cj ?_;refine⟨_,rL,l,rL,λL O=>vQ (λi ys G=>ys=(List.replicate i true).map V.bl/\G L=some (.lst ys)/\aB H G) ⟨rL,aq,aB.upd O⟩ ?_ ?_⟩
 .intro i c ys G hi z;let⟨rfl,j,I⟩:=z;let J:i<l.length:=(ag.mp hi).1;let⟨a1,a2⟩:=aam (hw.az c (bo hi));calc⟨_,rL,[97],[c],rL,rL,true,by rw[a1];rfl,cj (JA [c] [122] ⟨rL,rL,j,?_,gY.mk J ⟨?_,aq,I.dF O⟩⟩)⟩;.rw[aa,cy];show aK o6
  .rw[a2,kn,bv];rfl
 .intro ys G z;let⟨rfl,j,I⟩:=z;calc JA L (List.replicate l.length true) ⟨rL,bB.of j,?_⟩;let e:(List.replicate l.length true).all id=true:=pi;rw[e];show q G I
def Vv:Sp:=λvs H Q _=>∃l:List Nat,vs=[.str (S l)]/\yj l/\∀H',aB H H'->Q .non H'
def Oc (D:aM K mg "check_word" qQ ["text"])(F:bV P w K mg base "is_word" 1 ["text"] QX):bV P w K mg base "check_word" 2 ["text"] Vv:=by calc D.cZ NQ (λf bG A outer s H vs Q E j h=>?_);let⟨l,rfl,hw,q⟩:=h;calc⟨_,aF (cB (eG (dJ (bD F j rL (aj aG ao)))) qp bJ),?_⟩;calc⟨_,rL,l,rL,hw,λH1 s1=>⟨true,rL,?_⟩⟩;show bQ (q H1 s1)
structure sU (K:W.Frag)(C:Addr):Prop where
 cl:Cls K C
 nh:iD K C "held"
def pO (ws:AB):List (Key×V):=ws.map λl=>(cU l,V.bl true)
def ab5 (ws:AB):(pO ws).map (·.1)=ws.map cU:=by unfold pO;rw[fA];rfl
def ab6 {a b:List Nat}(h:cU a=cU b):a=b:=wQ (lj h)
def KC (ws:AB)(l:List Nat):fK (pO ws) (cU l)=if l∈ws then some (.bl true) else none:=by
 induction ws with
 | nil=>simp[pO,fK]
 | cons a r ih=>
  by_cases e:a=l
  .subst e;have:fK (pO (a::r)) (cU a)=some (.bl true):=jH (p:=(cU a,V.bl true)) rfl;rw[this];simp
  .have:fK (pO (a::r)) (cU l)=fK (pO r) (cU l):=jJ (p:=(cU a,V.bl true)) λz=>e (ab6 z)
   rw[this,ih];let j:¬l=a:=λz=>e z.symm;simp[j]
def aeu {ws:AB}{l:List Nat}(h:l∈ws):putK (pO ws) (cU l) (.bl true)=pO ws:=by
 let j:((pO ws).any λF=>decide (F.1=cU l))=true:=by rw[rT,KC,if_pos h];rfl
 unfold putK;rw[if_pos j];calc(fo λF D=>?_).trans (kr _);let⟨a,_,rfl⟩:=bd.mp D;by_cases e:cU a=cU l;.simp[e]
 .simp[e]
def aev {ws:AB}{l:List Nat}(h:l∉ws):putK (pO ws) (cU l) (.bl true)=pO (ws++[l]):=by rw[abt _ (by rw[KC,if_neg h])];simp[pO]
structure gO (C:Addr)(H:Hp)(p d:Addr)(ws:AB):Prop where
 ob:∃dx,H p=some (.ins C dx [("held",.ref d)])
 dc:H d=some (.dK (pO ws))
 nd:ws.Nodup
 az:∀l∈ws,yj l
def yp (ws:AB)(l:List Nat):List (List Nat):=if l∈ws then ws else ws++[l]
def QZ (ws:AB)(l:List Nat):putK (pO ws) (cU l) (.bl true)=pO (yp ws l):=by
 unfold yp;split;.rename_i h;show aeu h
 .rename_i h;show aev h
def Vw {ws:AB}{l:List Nat}(h:ws.Nodup):(yp ws l).Nodup:=by
 unfold yp;split;.show h
 .rename_i hl;show UW h hl
def Q0 {ws:AB}{l x:List Nat}:x∈yp ws l↔x∈ws\/x=l:=by
 unfold yp;split;.rename_i h;show⟨.inl,λz=>z.elim id λe=>e ▸ h⟩
 .simp
def Q5 (ws:AB)(l:List Nat):(yp ws l).length<=ws.length+1:=by
 unfold yp;split;.lia
 .simp
def ain (K:W.Frag)(H:Hp)(a:Addr)(ls:AB):Prop:=bB K H a (Ts ls)\/aO K H a (Ts ls)
def Q6 (K:W.Frag)(C:Addr):Sp:=λvs H Q _=>∃(p dx a:Addr) (ls:AB),vs=[.ref p,.ref a]/\H p=some (.ins C dx [])/\ain K H a ls/\(∀l∈ls,yj l)/\ls.length<=200/\
 ∀(d:Addr) (ws:AB) (H':Hp),H d=none->gO C H' p d ws->(∀x,x∈ws↔x∈ls)->ws.length<=ls.length->(∀b o,H b=some o->b≠p->H' b=some o)->Q .non H'
def aew {f C:Addr}{fd:FuncData}(F:dX K "__init__" "Book.__init__" lR f fd)(T:sU K C)(D1:bV P w K mg base "check_word" 2 ["text"] Vv):bZ P w K mg base dz 3 f fd ["self","words"] (Q6 K C):=by
 calc F.cZ Cw (λbG A outer s H vs Q E hr h=>?_);let⟨p,dx,a,ls,rfl,hp,hS,hW,hn,k⟩:=h;let hu:=Ot hr;let nd:=Cw.nd;refine⟨_,aA (k_ aG PJ rL) (aF (fD cK rL ((mG aW).or (gM aW)) (bC (i:=2) nd rL (Or.inl rL))
  (aA (cR (bD D1 hr rL (aj bA ao))) (aF (U7 hu (bO aG rL) bA iu rL))))),?_⟩
 intro d hd;let Y:p≠d:=aY hp hd;calc⟨_,rL,p,C,dx,[],rL,(by rw[aP Y];show hp),T.cl,T.nh,(by show 0<1000;decide),?_⟩;let hP1:upd (upd H d (HO.dK [])) p (HO.ins C dx (g_ "held" (V.ref d) [])) p=some (.ins C dx [("held",.ref d)]):=aq;let hD1:upd (upd H d (HO.dK [])) p (HO.ins C dx (g_ "held" (V.ref d) [])) d=some (.dK (pO [])):=by rw[aP Y.symm,aq];rfl
 let O:∀b o,H b=some o->b≠p->upd (upd H d (HO.dK [])) p (HO.ins C dx (g_ "held" (V.ref d) [])) b=some o:=λb o e hb=>by rw[aP hb,aP (aY e hd)];show e
 generalize upd (upd H d (HO.dK [])) p (HO.ins C dx (g_ "held" (V.ref d) []))=H1 at hP1 hD1 O ⊢;let npl:∀o,H p=some o->(∀ys,o≠.lst ys)/\∀u ys,o≠.pC u (.lst ys):=λo e=>by rw[hp]at e;cases e;show⟨λ_ z=>(nomatch z),λ_ _ z=>(nomatch z)⟩
 let npt:∀o,H p=some o->(∀ys,o≠.tup ys)/\∀u ys,o≠.pC u (.tup ys):=λo e=>by rw[hp]at e;cases e;show⟨λ_ z=>(nomatch z),λ_ _ z=>(nomatch z)⟩
 rcases hS with hS|hS
 .refine .inl ⟨_,rL,a,rL,⟨_,hS.keep O npl⟩,lF (K:=K) (a:=a) (xs:=Ts ls) (λi σ D=>∃(v2:Option V) (ws:AB),σ=[some (.ref p),some (.ref a),v2]/\D p=some (.ins C dx [("held",.ref d)])/\D d=some (.dK (pO ws))/\ws.Nodup/\
   (∀x,x∈ws↔x∈ls.take i)/\ws.length<=i/\∀b o,H b=some o->b≠p->D b=some o) (JA none [] ⟨rL,hP1,hD1,o0,λx=>by simp,ai _,O⟩) (λi σ D _ ⟨_,_,_,_,_,_,_,_,kp⟩=>hS.keep kp npl) ?_ ?_⟩
  .intro i y σ D hi z;let⟨v2,ws,rfl,j,G,J,hm,hl,kp⟩:=z;rw[ck]at hi;let⟨l,I,e⟩:=dv.mp hi;subst e;let hil:i<ls.length:=(ag.mp I).1;calc⟨_,rL,l,rL,hW l (bo I),λH3 Z=>?_⟩;let hd3:=Z _ _ G;calc⟨_,rL,p,C,dx,_,_,rL,Z _ _ j,T.cl,T.nh,rL,_,rL,d,_,rL,Gs.k (k:=cU l) hd3 (by rw[pO,aa];show aK o6),?_⟩;calc JA _ (yp ws l) ⟨rL,by rw[aP Y];show Z _ _ j,by rw[aq,QZ],Vw J,λx=>?_,bP (Q5 _ _) o6,λb o e hb=>?_⟩;.rw[Q0,hm,cz,I];simp
   .rw[aP (aY e hd)];show Z _ _ (kp b o e hb)
  .intro σ D z;let⟨v2,ws,rfl,j,G,J,hm,hl,kp⟩:=z;rw[aa]at hm hl;rw[ce]at hm;show k d ws D hd ⟨⟨dx,j⟩,G,J,λl hl=>hW l ((hm l).mp hl)⟩ hm hl kp
 .refine .inr ⟨_,rL,a,rL,⟨_,hS.keep O npt⟩,Ek (K:=K) (a:=a) (xs:=Ts ls) (λi σ D=>∃(v2:Option V) (ws:AB),σ=[some (.ref p),some (.ref a),v2]/\D p=some (.ins C dx [("held",.ref d)])/\D d=some (.dK (pO ws))/\ws.Nodup/\
   (∀x,x∈ws↔x∈ls.take i)/\ws.length<=i/\∀b o,H b=some o->b≠p->D b=some o) (JA none [] ⟨rL,hP1,hD1,o0,λx=>by simp,ai _,O⟩) (λi σ D _ ⟨_,_,_,_,_,_,_,_,kp⟩=>hS.keep kp npt) ?_ ?_⟩
  .intro i y σ D hi z;let⟨v2,ws,rfl,j,G,J,hm,hl,kp⟩:=z;rw[ck]at hi;let⟨l,I,e⟩:=dv.mp hi;subst e;let hil:i<ls.length:=(ag.mp I).1;calc⟨_,rL,l,rL,hW l (bo I),λH3 Z=>?_⟩;let hd3:=Z _ _ G;calc⟨_,rL,p,C,dx,_,_,rL,Z _ _ j,T.cl,T.nh,rL,_,rL,d,_,rL,Gs.k (k:=cU l) hd3 (by rw[pO,aa];show aK o6),?_⟩;calc JA _ (yp ws l) ⟨rL,by rw[aP Y];show Z _ _ j,by rw[aq,QZ],Vw J,λx=>?_,bP (Q5 _ _) o6,λb o e hb=>?_⟩;.rw[Q0,hm,cz,I];simp
   .rw[aP (aY e hd)];show Z _ _ (kp b o e hb)
  .intro σ D z;let⟨v2,ws,rfl,j,G,J,hm,hl,kp⟩:=z;rw[aa]at hm hl;rw[ce]at hm;show k d ws D hd ⟨⟨dx,j⟩,G,J,λl hl=>hW l ((hm l).mp hl)⟩ hm hl kp
def adu (C:Addr):Sp:=λvs H Q _=>∃(p d:Addr) (ws:AB) (l:List Nat),vs=[.ref p,.str (S l)]/\gO C H p d ws/\Q (.bl (decide (l∈ws))) H
def agQ {f C:Addr}{fd:FuncData}(F:dX K "has" "Book.has" nC f fd)(T:sU K C):bZ P w K mg base dz 1 f fd ["self","text"] (adu C):=by
 calc F.cZ TX (λbG A outer s H vs Q E j h=>?_);let⟨p,d,ws,l,rfl,B,q⟩:=h;let D:=Ot j;obtain⟨⟨dx,hp⟩,hd,_,_⟩:=id B;calc⟨_,aF (bf (agj (agi D aW (bO aG rL)))),?_⟩;calc⟨_,rL,_,rL,p,C,dx,_,_,rL,hp,T.cl,T.nh,rL,d,_,rL,yd.k (k:=cU l) hd,?_⟩;rw[KC];by_cases h:l∈ws;.rw[if_pos h];simpa [h] using q
 .rw[if_neg h];simpa [h] using q
def ai6 (ws:AB):Prop:=ws.Pairwise (λa b=>decide (b<a)=false)
def Vx (C:Addr):Sp:=λvs H Q _=>∃(p d:Addr) (ws:AB),vs=[.ref p]/\gO C H p d ws/\ws.length<64/\
 ∀(t:Addr) (us:AB) (H':Hp),aB H H'->H t=none->H' t=some (.tup (Ts us))->us.Perm ws->ai6 us->Q (.ref t) H'
def ab7 {f C:Addr}{fd:FuncData}(F:dX K "words" "Book.words" j8 f fd)(T:sU K C)(D:mg "sorted"=none)(j:mg "tuple"=none):bZ P w K mg base dz 1 f fd ["self"] (Vx C):=by calc F.cZ NT (λbG A outer s H vs Q E O h=>?_);let⟨p,d,ws,rfl,B,G,q⟩:=h;obtain⟨⟨dx,hp⟩,hd,_,_⟩:=id B;calc⟨_,aF (bf (eU iZ pk j c_ (aj (aV (PK rL) pk D fz (aj (bO aG rL) ao)) ao))),?_⟩;calc⟨_,rL,p,C,dx,_,_,rL,hp,T.cl,T.nh,rL,d,_,ws,rL,hd,ab5 ws,G,λt us ht pm J=>?_⟩;calc JA t _ ⟨rL,.inl ⟨bB.of aq,λv I=>?_⟩⟩;let s1:aB H (upd H t (.lst (Ts us))):=aB.upd ht;show q v us _ (s1.dF (s1.free I)) (s1.free I) aq pm J
def gJ (c:Nat):Nat:=if 65<=c/\c<=90 then 63 else c
def sgN (c:Nat):Prop:=isLet c\/(65<=c/\c<=90)
def sgN.lt {c:Nat}(h:sgN c):c<128:=by
 rcases h with h|h;.have:=h.2;lia
 .lia
noncomputable def zf (left:AB):List Nat->Sum Nat (List (List Nat))
 | []=>.inr left
 | c::cs=>if [gJ c]∈left then zf (left.erase [gJ c]) cs else .inl (gJ c)
theorem Vy:∀{us:AB},(∀l∈us,l.length=1)->us.flatten.length=us.length
 | [],_=>rfl
 | u::us,h=>by rw[eK,av,Vy λl hl=>h l (bE _ hl),h u cf,dA];lia
def aan:Sp:=λvs H Q _=>∃c:Nat,vs=[.str (S [c])]/\c<128/\Q (.str (S [gJ c])) H
def le1 (a b:Nat):(!decide ([b]<[a]))=decide (a<=b):=by
 by_cases h:a<=b;.rw[al h,ah (by simp[hJ];lia)];rfl
 .rw[ah h,al (by simp[hJ];lia)];rfl
def XS (D:aM K mg "tile_of" wX ["sign"]):bV P w K mg base "tile_of" 1 ["sign"] aan:=by
 calc D.cZ Xo (λf bG A outer s H vs Q E j h=>?_);let⟨c,rfl,F,q⟩:=h;calc⟨_,(aF (bf (mZ (zN nQ nQ (bH [65] pS) aG (bH [90] pS)) (bH [63] pS) aG))),?_⟩;calc⟨_,rL,[65],[c],rL,rL,?_⟩;rw[le1];unfold gJ at q;by_cases h1:65<=c
 .rw[al h1];calc⟨_,rL,cj (JA [c] [90] ⟨rL,rL,?_⟩)⟩;rw[le1];by_cases h2:c<=90
  .rw[if_pos ⟨h1,h2⟩]at q;rw[al h2];show⟨_,rL,cj q⟩
  .rw[if_neg λz=>h2 z.2]at q;rw[ah h2];show⟨_,rL,bQ ⟨_,rL,q⟩⟩
 .rw[if_neg λz=>h1 z.1]at q;rw[ah h1];show⟨_,rL,bQ ⟨_,rL,bQ ⟨_,rL,q⟩⟩⟩
def aao (x:List Nat)(ws:AB):inV (.str (S x)) (Ts ws)=decide (x∈ws):=by
 unfold inV
 induction ws with
 | nil=>simp[Ts]
 | cons y ws ih=>
  let e:FN (.str (S y)) (.str (S x))=decide (y=x):=by
   show decide (S y=S x)=_;by_cases h:y=x;.rw[h];simp
   .let h2:S y≠S x:=λe=>h (wQ e)
    simp[h,h2]
  show (FN (.str (S y)) (.str (S x))||(Ts ws).any _)=_;rw[e,ih];by_cases h:y=x;.simp[h]
  .let h2:¬x=y:=λe=>h e.symm
   simp[h,h2]
def KD (ws:AB):(Ts ws).all uV=true:=by rw[fe];intro x hx;let⟨l,_,rfl⟩:=bd.mp hx;rfl
def X3 {f C R:Addr}{fd:FuncData}(F:dX K "__init__" "Lacking.__init__" jg f fd)(j:mg "RackError"=some (.ref R))(D:InitOf K R)(T:pB K mg "Lacking" C f ["tile"]):bZ P w K mg base dz 1 f fd ["self","tile"] (Ja C "tile"):=by calc F.cZ Jc (λbG A outer s H vs Q E G h=>?_);let⟨a,v,rfl,ha,q⟩:=h;calc⟨_,(aA (cR (uY pk j D (aj aG (aj aW ao)))) (aF (vK aG aW rL))),?_⟩;calc⟨_,rL,_,rL,a,C,f,none,[v],rL,ha,T.M.ini,zsz 1,?_⟩;show⟨_,rL,_,rL,a,C,none,rL,ha,T.T,T.no _ pi,.inl ⟨rL,λdx ne nd=>q dx ne nd⟩⟩
def Jy (C:Addr):Sp:=λvs H Q E=>∃(bL j:List Nat),vs=[.str (S bL),.str (S j)]/\bL.length<=63/\j.length<=63/\(∀c∈j,c<128)/\
 (∀t,zf (bL.map λc=>[c]) j=.inl t->∀(dx:Addr) (H':Hp),aB H H'->H' dx=some (.ext (XD dx [("tile",.str (S [t]))]))->E (.ref C) (some dx) H')/\
 (∀left,zf (bL.map λc=>[c]) j=.inr left->∀(ws:AB) (H':Hp),aB H H'->ws.Perm left->ws.Pairwise (λa b=>decide (b<a)=false)->Q (.str (S ws.flatten)) H')
def X4 {C f0:Addr}{dY:FuncData}(D:aM K mg "left_of" wY ["rack","signs"])(ig:mg "list"=none)(gU:mg "sorted"=none)(T:pB K mg "Lacking" C f0 ["tile"])(aap:bZ P w K mg base dz 1 f0 dY ["self","tile"] (Ja C "tile"))(CP:bN K dY ["self","tile"] [])(aaq:bV P w K mg base "tile_of" 1 ["sign"] aan):DefX P w K mg base "left_of" 3 ["rack","signs"] (Jy C):=by
 refine D.zP uZ (λvs H Q E h=>?_) (λf bG A outer s H vs Q E hr h=>?_)
 .let⟨bL,j,rfl,_⟩:=h;rfl
 .let⟨bL,j,rfl,ai7,ajz,hsg,qE,q⟩:=h;let aar:=T.M;let X5:=T.uN;calc⟨_,(aA (aU (i:=2) uZ.nd rL (Or.inl rL) (eU (m_ rL) pk ig fk (aj aG ao))) (aA (fD jn rL (qL aW) (bC (i:=3) uZ.nd rL (Or.inl rL)) (aA (aU (i:=4) uZ.nd rL (Or.inl rL) (bD aaq hr.mono rL (aj bI ao))) (aA (cB (bM vO cL bA rL) (aF (uo qx rL aar aap hr.mono pk X5 CP (aj cL ao))) bJ) (aF (cR (fJ bu ip iq wU bA (aj cL ao))))))) (aF (bf (fJ bq dq dr qm (bH [] pS) (aj (aV Ce pk gU fz (aj bA ao)) ao)))))),?_⟩;calc⟨_,rL,bL,rL,o6,λL hL=>?_⟩;let s1:aB H (upd H L (.lst (Ts (bL.map λc=>[c])))):=aB.upd hL;calc⟨_,rL,j,rL,?_⟩;refine Ep (λi σ Y=>∃(v3 v4:Option V) (us:AB),σ=[some (.str (S bL)),some (.str (S j)),some (.ref L),v3,v4]/\aB H Y/\Y L=some (.lst (Ts us))/\us.length<=63/\(∀l∈us,l.length=1)/\zf (bL.map λc=>[c]) j=zf us (j.drop i))
   (JE none none (bL.map λc=>[c]) ⟨rL,s1,aq,by rw[aa];show ai7,λl hl=>by let⟨c,_,rfl⟩:=bd.mp hl;rfl,by rw[js]⟩) ?_ ?_
  .intro i c σ Y Z z;let⟨v3,v4,us,rfl,O,G,Jz,I,F⟩:=z;let hcs:=hsg c (bo Z);let hi:i<j.length:=(ag.mp Z).1;let J:j.drop i=c::j.drop (i+1):=by
    rw[fS hi];rw[ac hi]at Z;rw[bp Z]
   rw[J]at F;calc⟨_,rL,c,rL,hcs,?_⟩;calc⟨_,rL,_,rL,L,Ts us,rL,.inl (bB.of G),rL,KD us,?_⟩;rw[aao];by_cases hm:[gJ c]∈us
   .rw[al hm];calc⟨_,rL,bQ ⟨_,rL,.inl ⟨rL,_,bB.of G⟩,_,rL,L,us,[gJ c],rL,rL,G,hm,o6,?_⟩⟩;calc JE _ _ (us.erase [gJ c]) ⟨rL,O.dF hL,aq,?_,λl hl=>I l (List.mem_of_mem_erase hl),?_⟩;.have:=(kP (a:=[gJ c]) (l:=us)).length_le;lia
    .rw[F];show (if _ then _ else _)=_;rw[if_pos hm]
   .rw[ah hm];let e:zf (bL.map λc=>[c]) j=.inl (gJ c):=by rw[F];show (if _ then _ else _)=_;rw[if_neg hm]
    calc⟨_,rL,cj ⟨_,rL,zsz 1,λa na=>(JA a _ ⟨rL,aq,λdx ne nd=>⟨rL,some dx,aq,?_⟩⟩)⟩⟩;let⟨k1,k2⟩:=drop_new (q:=.ext (iQ a (.ref C) (some dx))) (p:=.ext (XD dx [("tile",.str (S [gJ c]))])) na ne nd;show qE _ e dx _ (O.trans k1) k2
  .intro σ Y z;let⟨v3,v4,us,rfl,O,G,Jz,I,F⟩:=z;rw[l_]at F;calc⟨rL,_,rL,L,us,rL,bB.of G,o6,λp ws hp pm pw=>?_⟩;calc JA p ws ⟨rL,rL,bB.of aq,?_,?_⟩;.rw[Vy λl hl=>I l (pm.mem_iff.mp hl),pm.length_eq];lia
   .show q us F ws _ (O.dF (O.free hp)) pm pw
def aas {f C R:Addr}{fd:FuncData}(F:dX K "__init__" "NoWord.__init__" jL f fd)(j:mg "RackError"=some (.ref R))(D:InitOf K R)(T:pB K mg "NoWord" C f ["word"]):bZ P w K mg base dz 1 f fd ["self","word"] (Ja C "word"):=by calc F.cZ Ke (λbG A outer s H vs Q E G h=>?_);let⟨a,v,rfl,ha,q⟩:=h;calc⟨_,(aA (cR (uY pk j D (aj aG (aj aW ao)))) (aF (vK aG aW rL))),?_⟩;calc⟨_,rL,_,rL,a,C,f,none,[v],rL,ha,T.M.ini,zsz 1,?_⟩;show⟨_,rL,_,rL,a,C,none,rL,ha,T.T,T.no _ pi,.inl ⟨rL,λdx ne nd=>q dx ne nd⟩⟩
theorem CQ {p:Nat->Bool}:∀{l:List Nat} {c:Nat},c∈l.takeWhile p->c∈l/\p c=true
 | [],c,h=>by simp at h
 | a::l,c,h=>by
  rw[List.takeWhile_cons]at h;by_cases z:p a=true
  .rw[if_pos z]at h;rcases bX.mp h with e|e;.rw[e];show⟨cf,z⟩
   .have:=CQ e;show⟨bE _ this.1,this.2⟩
  .rw[if_neg z]at h;simp at h
def ab8 {r w:Nat}{R:AB}(hb:Blk r w R)(hp:∀l∈R,∀c∈l,Bp c){i j wy:Nat}(hi:i<r)(F:j<w):∀c∈lineOf R i j (wy:Int),Bp c:=λc D=>by
 unfold lineOf at D;split at D
 .rw[ax,ac (by rw[hb.len];show hi)]at D;show hp _ (aI _) c D
 .let⟨l,hl,e⟩:=bd.mp D;let hw:=hb.qT l hl;let e2:l.getD j 0=l[j]:=by rw[ax,ac (show j<l.length by lia)];rfl
  rw[<-e,e2];show hp l hl _ (aI _)
def aey {r w:Nat}{R:AB}(hb:Blk r w R)(hp:∀l∈R,∀c∈l,Bp c){i j wy:Nat}(hi:i<r)(G:j<w):∀c∈(sJ R i j wy).2.2.2,pK c:=λc F=>by
 let D:∀c,c∈lineOf R i j (wy:Int)->(c != 46)=true->pK c:=λc h1 h2=>by
  rcases ab8 hb hp hi G c h1 with z|z;.rw[z]at h2;cases h2
  .show z
 rcases bz.mp (show c∈iy _++jr _ from F) with z|z
 .unfold iy at z;have:=CQ (List.mem_reverse.mp z);show D c (cE (List.mem_reverse.mp this.1)) this.2
 .have:=CQ z;show D c (ed this.1) this.2
def ab9 {r w:Nat}{aD:AB}{ts:List bR}(hb:Blk r w (dO aD ts))(hp:∀l∈dO aD ts,∀c∈l,Bp c)(D:∀t∈ts,inB r w t):∀q∈jy aD ts,∀c∈q.2.2.2,pK c:=λq F=>by
 let⟨a,ha,rfl⟩:=bd.mp (kz.mp F).1;let hi:a.1<r/\a.2.1<w:=by
  rcases bz.mp ha with z|z
  .let⟨u,j,rfl⟩:=bd.mp z;have:=D u (cE j);show⟨this.1,this.2.1⟩
  .let⟨u,j,rfl⟩:=bd.mp z;have:=D u j;show⟨this.1,this.2.1⟩
 show aey hb hp hi.1 hi.2
def Uc {r w:Nat}{aD:AB}{ts:List bR}(hb:Blk r w (dO aD ts))(r9:r<=9)(w9:w<=9)(D:∀t∈ts,inB r w t):∀q∈jy aD ts,q.2.2.2.length<=20:=λq F=>by
 let⟨a,ha,rfl⟩:=bd.mp (kz.mp F).1;let hi:a.1<r:=by
  rcases bz.mp ha with z|z
  .let⟨u,j,rfl⟩:=bd.mp z;show(D u (cE j)).1
  .let⟨u,j,rfl⟩:=bd.mp z;show(D u j).1
 show GQ hb r9 w9 hi
def dQ (q:j9):Dt:=.tup [.int q.1,.int q.2.1,.int q.2.2.1,.str q.2.2.2]
theorem dB.ofQ {H:Hp}:∀{bs:List Addr} {j:List j9},QL H bs j->(∀q∈j,∀c∈q.2.2.2,c<128)->dB K H 1 (j.map dQ) (bs.map V.ref)
 | [],[],_,_=>.nil
 | [],_::_,h,_=>by have:=h.len;simp at this
 | _::_,[],h,_=>by have:=h.len;simp at this
 | a::bs,q::j,h,k=>.cons (.tup (aO.of (h.at_ 0 a q rL rL)) (.cons (.int _) (.cons (.int _) (.cons (.int _) (.cons (.str _ (k q cf)) .nil))))) (dB.ofQ ⟨by have:=h.len;simpa using this,λi a x h1 h2=>h.at_ (i+1) a x h1 h2⟩ λF D=>k F (bE _ D))
def Q7 (q:j9):List Nat:=q.2.2.2.map PyProof.Rows.lo1
def G4 (ws:AB)(q:j9):Bool:=!decide (Q7 q∈ws)
noncomputable def Gd (aD:AB)(ws:AB)(ts:List bR):Option (List Nat):=if jy aD ts=[] then some ([(oJ ts).2.2].map PyProof.Rows.lo1) else ((jy aD ts).find? (G4 ws)).map Q7
def M9 (C CB j:Addr):Sp:=λvs H Q E=>∃(b k d t:Addr) (ws:AB) (as:List Addr) (ts:List bR) (r w:Nat) (aD aL:AB) (bi bj:Nat),vs=[.ref b,.ref k,.ref t]/\cM C H b r w aD aL bi bj/\gO CB H k d ws/\H t=some (.tup (as.map V.ref))/\eE H as ts/\(∀t∈ts,inB r w t)/\0<ts.length/\ts.length<=7/\Ew ts/\
 (∀l,Gd aD ws ts=some l->∀(dx:Addr) (H':Hp),aB H H'->H' dx=some (.ext (XD dx [("word",.str (S l))]))->E (.ref j) (some dx) H')/\(Gd aD ws ts=none->∀H',aB H H'->Q .non H')
def gO.mv {C:Addr}{H H':Hp}{p d:Addr}{ws:AB}(B:gO C H p d ws)(s:aB H H'):gO C H' p d ws:=⟨let ⟨dx,e⟩:=B.ob;⟨dx,s _ _ e⟩,s _ _ B.dc,B.nd,B.az⟩
def JB {aD:AB}{ts:List bR}(h:ts.length<=7):(jy aD ts).length<=100:=by calc bP (List.length_filter_le _ _) ?_;rw[aa];unfold zX;rw[av,aa,aa,am];lia
open Classical in
def KH {C CB CW f0 f1:Addr}{dY dH:FuncData}(D:aM K mg "check_words" pY ["board","book","laying"])(CV:sU K CB)(X6:Meth K CB "has" f1)(X7:bZ P w K mg base dz 1 f1 dH ["self","text"] (adu CB))(X8:bN K dH ["self","text"] [])(T:pB K mg "NoWord" CW f0 ["word"])(Q8:bZ P w K mg base dz 1 f0 dY ["self","word"] (Ja CW "word"))(zZ:bN K dY ["self","word"] [])(G5:bV P w K mg base "formed" 10 ["board","laying"] (GR C))(Ud:bV P w K mg base "letter_of" 1 ["sign"] Ju):DefX P w K mg base "check_words" 12 ["board","book","laying"] (M9 C CB CW):=by
 refine D.zP jh (λvs H Q E h=>?_) (λf bG A outer s H vs Q E hr h=>?_)
 .let⟨b,k,d,t,ws,as,ts,r,w,aD,aL,bi,bj,rfl,_⟩:=h;rfl
 .let⟨b,k,d,t,ws,as,ts,r,w,aD,aL,bi,bj,rfl,BA,BK,ht,hL,dU,h0,h7,hl1,qE,q⟩:=h;let Q9:=T.M;let M_:=T.uN;let hb':=su BA.ok.br dU;let hp':=GJ BA.ok.br dU BA.ok.cr;let hsg:=ab9 hb' hp' dU;let h20:=Uc hb' BA.ok.r9 BA.ok.w9 dU;let hwl:=JB (aD:=aD) h7;let hlt:∀q∈jy aD ts,∀c∈q.2.2.2,c<128:=λq hq c hc=>(hsg q hq c hc).lt;calc⟨_,(aA (aU (i:=3) jh.nd rL (Or.inl rL) (bD G5 hr.mono rL (aj aG (aj bA ao)))) (aA (cB (bM (yQ hr.units) bI (cO ao) (bF _)) (aF (uo qx rL Q9 Q8 hr.mono pk M_ zZ (aj (bD Ud hr.mono rL (aj (aX bw (aX bw bA au (λ_ _=>rfl)) au (λ_ _=>rfl)) ao)) ao))) bJ) (aF (fD jn rL (gM bI) (nO rL (bU (bC (i:=4) jh.nd rL (Or.inl rL)) (bU (bC (i:=5) jh.nd rL (Or.inl rL)) (bU (bC (i:=6) jh.nd rL (Or.inl rL)) (bU (bC (i:=7) jh.nd rL (Or.inl rL)) kY))))) (aA (aU (i:=8) jh.nd rL (Or.inl rL) (qJ bq lI lL PL iw)) (aF (cB (eG (dJ (mH aW CV.cl X6 X7 hr.mono X8 .nil dM (aj jq ao)))) (aF (uo qx rL Q9 Q8 hr.mono pk M_ zZ (aj jq ao))) bJ))))))),?_⟩;calc⟨_,rL,_,rL,b,t,as,ts,r,w,aD,aL,bi,bj,rL,BA,ht,hL,dU,h0,h7,hl1,λT1 b1 H1 s1 hT1 hQ1=>?_⟩;generalize hW:jy aD ts=W at hsg h20 hwl hlt hQ1;calc⟨_,rL,zsz 0,λZ hZ=>?_⟩;let sZ:aB H1 (upd H1 Z (HO.tup [])):=aB.upd hZ;let eZ:upd H1 Z (HO.tup []) Z=some (.tup []):=aq;let J:=sZ _ _ hT1;let O:=hQ1.mv sZ;let dZ:=s1.trans sZ;generalize upd H1 Z (HO.tup [])=H2 at sZ eZ J O dZ ⊢;calc JE 2 (.tup (W.map dQ)) (.tup []) ⟨pj,.tup (aO.of J) (dB.ofQ O hlt),.tup (aO.of eZ) .nil,_,rL,?_⟩;let Qx:=O.len;cases Y:W with
  | nil=>simp only[oy,decide_true];let⟨g0,e0⟩:=jz (hL.mv dZ) h0;let hh:oJ ts=ts[0]:=wB h0;let hs0:=(dU _ (aI h0)).2.2;calc cj ⟨_,rL,t,_,_,.ref as[0],rL,rL,aO.of (dZ _ _ ht),aN (j:=0) (by simp[g0]),as[0],_,_,_,rL,rL,aO.of e0,aN (j:=2) rL,ts[0].2.2,rL,hs0.lt,zsz 1,λa na=>(JA a _ ⟨rL,aq,λdx ne nd=>⟨rL,some dx,aq,?_⟩⟩)⟩;let⟨k1,k2⟩:=drop_new (q:=.ext (iQ a (.ref CW) (some dx))) (p:=.ext (XD dx [("word",.str (S ([ts[0].2.2].map PyProof.Rows.lo1)))])) na ne nd;calc qE _ ?_ dx _ (dZ.trans k1) k2;unfold Gd;rw[if_pos (hW.trans Y),hh]
  | cons q0 Wr=>
   let hne:¬(Dt.tup (W.map dQ)=Dt.tup []):=λz=>by rw[Y]at z;injection z with z;cases z
   let hmw:Gd aD ws ts=(W.find? (G4 ws)).map Q7:=by unfold Gd;rw[if_neg (by rw[hW,Y];simp),hW]
   rw[<-Y];rw[ah hne];refine bQ ⟨_,rL,T1,rL,⟨_,aO.of J⟩,Ek (K:=K) (a:=T1) (xs:=b1.map V.ref) (λn σ H'=>∃v4 v5 v6 v7 v8:Option V,σ=[some (.ref b),some (.ref k),some (.ref t),some (.ref T1),v4,v5,v6,v7,v8]/\aB H2 H'/\∀x∈W.take n,G4 ws x=false)
    (JJ none none none none none ⟨rL,aB.refl _,λx hx=>by simp at hx⟩) (λn σ H' _ h=>by let⟨_,_,_,_,_,_,sm,_⟩:=h;show aO.of (sm _ _ J)) ?_ ?_⟩
   .intro n x σ H' hx z;let⟨v4,v5,v6,v7,v8,rfl,sm,F⟩:=z;let⟨hn,hx⟩:=rfg hx;let I:n<W.length:=o6;subst hx;let en:=(O.mv sm).at_ n _ _ (ac hn) (ac I);let hm:=aI I;let ajA:=h20 _ hm;calc JA (b1[n]) _ ⟨rL,aO.of en,rL,_,_,rL,_,_,rL,_,_,rL,_,_,rL,rL,?_⟩;calc⟨_,rL,rL,W[n].2.2.2,rL,rL,o6,hlt _ hm,?_⟩;let BK':=BK.mv (dZ.trans sm);let⟨dk,ek⟩:=BK'.ob;calc⟨_,rL,k,dk,_,rL,ek,rL,_,rL,k,d,ws,_,rL,BK',_,rL,?_⟩;cases G:G4 ws W[n] with
    | true=>rw[show (!decide (W[n].2.2.2.map PyProof.Rows.lo1∈ws))=true from G];calc cj ⟨_,rL,zsz 1,λa na=>(JA a _ ⟨rL,aq,λdx ne nd=>⟨rL,some dx,aq,?_⟩⟩)⟩;let⟨k1,k2⟩:=drop_new (q:=.ext (iQ a (.ref CW) (some dx))) (p:=.ext (XD dx [("word",.str (S (Q7 W[n])))])) na ne nd;calc qE _ ?_ dx _ ((dZ.trans sm).trans k1) k2;rw[hmw,Vr I F G];rfl
    | false=>
     rw[show (!decide (W[n].2.2.2.map PyProof.Rows.lo1∈ws))=false from G];calc bQ (JJ _ _ _ _ _ ⟨rL,sm,λx hx=>?_⟩);rw[cz,ac I]at hx;rcases bz.mp hx with z|z;.show F x z
     .rw[aS.mp z];show G
   .intro σ H' z;let⟨v4,v5,v6,v7,v8,rfl,sm,F⟩:=z;rw[aa,Qx,ce]at F;show q (by rw[hmw,Vs F];rfl) H' (dZ.trans sm)
inductive Vd
 | ok|Bs (i j:Nat)|Bt|gap (i j:Nat)|Bu|Bv (t:Nat)|nw (l:List Nat)
inductive rN (aD:AB) (r w bi bj:Nat) (ws:AB) (bL:List Nat) (ts:List bR):Vd->Prop
 | Bs {u:bR} (h:zY aD ts=some u):rN aD r w bi bj ws bL ts (.Bs u.1 u.2.1)
 | Bt (h1:zY aD ts=none) (h:(sO ts||sS ts)=false):rN aD r w bi bj ws bL ts .Bt
 | gap {i j:Nat} (h1:zY aD ts=none) (h2:(sO ts||sS ts)=true) (h:adq (dO aD ts) (oJ ts).1 (mj ts).1 (oJ ts).2.1 (mj ts).2.1 i j):rN aD r w bi bj ws bL ts (.gap i j)
 | Bu (h1:zY aD ts=none) (h2:(sO ts||sS ts)=true) (h3:Jv (dO aD ts) (oJ ts).1 (mj ts).1 (oJ ts).2.1 (mj ts).2.1) (h:Br aD r w bi bj ts=false):rN aD r w bi bj ws bL ts .Bu
 | Bv {t:Nat} (h1:zY aD ts=none) (h2:(sO ts||sS ts)=true) (h3:Jv (dO aD ts) (oJ ts).1 (mj ts).1 (oJ ts).2.1 (mj ts).2.1) (h4:Br aD r w bi bj ts=true) (h:zf (bL.map λc=>[c]) (ts.map (·.2.2))=.inl t):rN aD r w bi bj ws bL ts (.Bv t)
 | nw {l:List Nat} (h1:zY aD ts=none) (h2:(sO ts||sS ts)=true) (h3:Jv (dO aD ts) (oJ ts).1 (mj ts).1 (oJ ts).2.1 (mj ts).2.1) (h4:Br aD r w bi bj ts=true) (h5:∃left,zf (bL.map λc=>[c]) (ts.map (·.2.2))=.inr left) (h:Gd aD ws ts=some l):rN aD r w bi bj ws bL ts (.nw l)
 | ok (h1:zY aD ts=none) (h2:(sO ts||sS ts)=true) (h3:Jv (dO aD ts) (oJ ts).1 (mj ts).1 (oJ ts).2.1 (mj ts).2.1) (h4:Br aD r w bi bj ts=true) (h5:∃left,zf (bL.map λc=>[c]) (ts.map (·.2.2))=.inr left) (h:Gd aD ws ts=none):rN aD r w bi bj ws bL ts .ok
structure Q_ where
 lay:Addr
 Bs:Addr
 Bt:Addr
 gap:Addr
 Bu:Addr
 Bv:Addr
 nw:Addr
def VdX (c:Q_)(H:Hp)(cls:Value)(dd:Option Addr):Vd->Prop
 | .ok=>False
 | .Bs i j=>cls=.ref c.Bs/\∃dx,dd=some dx/\H dx=some (.ext (XD dx (Vq i j)))
 | .Bt=>cls=.ref c.Bt/\dd=none
 | .gap i j=>cls=.ref c.gap/\∃dx,dd=some dx/\H dx=some (.ext (XD dx (Vq i j)))
 | .Bu=>cls=.ref c.Bu/\dd=none
 | .Bv t=>cls=.ref c.Bv/\∃dx,dd=some dx/\H dx=some (.ext (XD dx [("tile",.str (S [t]))]))
 | .nw l=>cls=.ref c.nw/\∃dx,dd=some dx/\H dx=some (.ext (XD dx [("word",.str (S l))]))
def Vz {cs:List (Nat×Nat)}(h:jG cs=true):∀n,(hn:n+1<cs.length)->cs[n].1*1000+cs[n].2<cs[n+1].1*1000+cs[n+1].2:=λn hn=>by
 unfold jG at h;rw[fe]at h;have:=h (cs[n],cs[n+1]) (by
  calc bo (i:=n) ?_;rw[oq];show⟨ac o6,by rw[nB,Nat.add_comm 1 n];show ac hn⟩)
 show dS this
theorem Ra {cs:List (Nat×Nat)}(h:jG cs=true):∀k n,(hn:n+k+1<cs.length)->cs[n].1*1000+cs[n].2<cs[n+k+1].1*1000+cs[n+k+1].2
 | 0,n,hn=>Vz h n hn
 | k+1,n,hn=>Nat.lt_trans (Ra h k n o6) (Vz h (n+k+1) hn)
def KJ {ts:List bR}{r w:Nat}(w9:w<=9)(I:∀t∈ts,inB r w t)(h0:0<ts.length)(G:jG (ts.map nF)=true)(hs:(sO ts||sS ts)=true):Ew ts:=by
 let J:=wB h0;rw[oP]at hs;rcases hs with hs|hs
 .calc .inl ?_;unfold sO at hs;rw[fe]at hs;rw[ik];intro i j hi D _;rw[dS (hs _ (aI hi)),dS (hs _ (aI D))]
 .calc .inr ?_;unfold sS at hs;rw[fe]at hs;rw[ik];intro i j hi D F;let e1:=dS (hs _ (aI hi));let e2:=dS (hs _ (aI D));have:=Ra G (j-i-1) i (by rw[aa];lia);simp only[show i+(j-i-1)+1=j by lia,List.getElem_map]at this;let this:ts[i].1*1000+ts[i].2.1<ts[j].1*1000+ts[j].2.1:=this;lia
def aat {c:Nat}(h:pK c):sgN c:=by unfold pK Cz Cy FW at h;simp at h;show h
def KN (K : W.Frag)(C CB : Addr)(c : Q_) : Sp := λvs H Q E => ∃(b k d : Addr) (ws : List (List Nat)) (bL : List Nat) (x : V) (r w : Nat) (aD aL : List (List Nat)) (bi bj : Nat), vs = [.ref b, .ref k, .str (S bL), x] /\ cM C H b r w aD aL bi bj /\ gO CB H k d ws /\ bL.length <= 63 /\
  ((∃o, LyD K H x o /\ layB r w o = false /\ ∀H', aB H H' -> E (.ref c.lay) none H') \/
   (∃(t : Addr) (as : List Addr) (ts : List bR), x = .ref t /\ H t = some (.tup (as.map V.ref)) /\ eE H as ts /\ (∀t ∈ ts, inB r w t) /\ 0<ts.length /\ ts.length <= 7 /\ jG (ts.map nF) = true /\
     (∀v cls dd H', rN aD r w bi bj ws bL ts v -> VdX c H' cls dd v -> aB H H' -> E cls dd H') /\ (rN aD r w bi bj ws bL ts .ok -> ∀H', aB H H' -> Q .non H')))
def JC {C CB:Addr}{c:Q_}(D:aM K mg "check_laying" oU ["board","book","rack","laying"])(Ue:mg "NoLaying"=some (.ref c.lay))(X_:W.excIn K c.lay jR "ValueError.__new__"=true)(Ug:bV P w K mg base "is_laying" 4 ["board","thing"] (aaj K C))(Rb:DefX P w K mg base "check_free" 5 ["board","laying"] (QK C c.Bs))(G6:DefX P w K mg base "check_straight" 3 ["laying"] (Vu c.Bt))(Rc:DefX P w K mg base "check_gaps" 10 ["board","laying"] (QM C c.gap))(KQ:DefX P w K mg base "check_joined" 7 ["board","laying"] (QV C c.Bu))(uw:DefX P w K mg base "left_of" 3 ["rack","signs"] (Jy c.Bv))(Od:DefX P w K mg base "check_words" 12 ["board","book","laying"] (M9 C CB c.nw)):DefX P w K mg base "check_laying" 14 ["board","book","rack","laying"] (KN K C CB c):=by
 refine D.zP Jd (λvs H Q E h=>?_) (λf bG A outer s H vs Q E J h=>?_)
 .let⟨b,k,d,ws,bL,x,r,w,aD,aL,bi,bj,rfl,_⟩:=h;rfl
 .let⟨b,k,d,ws,bL,x,r,w,aD,aL,bi,bj,rfl,I,BK,h63,h⟩:=h;calc⟨_,(aA (cB (eG (dJ (bD Ug J.mono rL (aj aG (aj bI ao))))) (aF (Gy qx rL rL pk Ue X_ (aj (bH [110,111,32,108,97,121,105,110,103,32,102,111,114,32,116,104,105,115,32,98,111,97,114,100] pS) ao))) bJ) (aA (cR (nW Rb J.mono rL vH.all (aj aG (aj bI ao)))) (aA (cR (nW G6 J.mono rL vH.all (aj bI ao))) (aA (cR (nW Rc J.mono rL vH.all (aj aG (aj bI ao)))) (aA (cR (nW KQ J.mono rL vH.all (aj aG (aj bI ao)))) (aA (cR (nW uw J.mono rL vH.all (aj bA (aj (fJ bq dq dr qm (bH [] pS) (aj (lK (ns:=["row","column","sign"]) rL (jA.of ["board","book","rack","laying"] [] pE) (gM bI) (λ_ _ _ _ _=>(oO K rL (show (["row","column","sign","board","book","rack","laying"]:List Str).Nodup by decide +kernel) rL rL rL pk pk pk)) (λ_ _ _ _ _=>dR) (λ_ _ _ _ _=>bA)) ao)) ao)))) (aF (cR (nW Od J.mono rL vH.all (aj aG (aj aW (aj bI ao)))))))))))),?_⟩;rcases h with⟨o,hD,hB,G⟩|⟨t,as,ts,rfl,ht,F,dU,h0,h7,Ga,G,q⟩
  .calc⟨_,rL,_,rL,b,x,o,r,w,aD,aL,bi,bj,rL,I,hD,λH1 s1=>⟨_,rL,?_⟩⟩;rw[hB];show cj ⟨zsz 1,G H1 s1⟩
  .let hal:=F.len;let hB:layB r w (some (ts.map mkT))=true:=by
    unfold layB;simp only;rw[QB,aa,al (show 1<=ts.length/\ts.length<=7 by lia),show jG (ts.map λt=>(t.1,t.2.1))=true from Ga,List.all_map];have:ts.all (t_ r w ∘ mkT)=true:=fe.mpr λt ht=>ab0 (dU t ht);rw[this];rfl
   calc⟨_,rL,_,rL,b,.ref t,some (ts.map mkT),r,w,aD,aL,bi,bj,rL,I,.tup ht (G3.of_lay F) (by rw[aa];lia),λH1 s1=>⟨_,rL,?_⟩⟩;rw[hB];calc bQ ⟨True.intro,_,rL,_,rL,b,t,as,ts,r,w,aD,aL,bi,bj,rL,I.mv s1,s1 _ _ ht,F.mv s1,dU,λu hu dx H' s' hd=>G _ _ _ H' (.Bs hu) ⟨rL,dx,rL,hd⟩ (s1.trans s'),λO H2 s2=>?_⟩;let dZ:=s1.trans s2;calc⟨True.intro,_,rL,t,as,ts,rL,dZ _ _ ht,F.mv dZ,h0,h7,λe H' s'=>G _ _ _ H' (.Bt O e) ⟨rL,rL⟩ (dZ.trans s'),λY H3 s3=>?_⟩;let eO:=dZ.trans s3;calc⟨True.intro,_,rL,_,rL,b,t,as,ts,r,w,aD,aL,bi,bj,rL,I.mv eO,eO _ _ ht,F.mv eO,dU,h0,λi j e dx H' s' hd=>G _ _ _ H' (.gap O Y e) ⟨rL,dx,rL,hd⟩ (eO.trans s'),λv3 H4 s4=>?_⟩;let gC:=eO.trans s4;calc⟨True.intro,_,rL,_,rL,b,t,as,ts,r,w,aD,aL,bi,bj,rL,I.mv gC,gC _ _ ht,F.mv gC,h7,λe H' s'=>G _ _ _ H' (.Bu O Y v3 e) ⟨rL,rL⟩ (gC.trans s'),λv4 H5 s5=>?_⟩;let zj:=gC.trans s5;let ht5:=zj _ _ ht;refine⟨True.intro,_,rL,rL,_,rL,t,rL,⟨_,aO.of ht5⟩,λN hN=>jQ (K:=K) (KT:=K) (a:=t) (f:=jC [] 0) (tt:=lH) (xs:=as.map V.ref) (λn ys H6=>ys=Ts (ones ((ts.take n).map (·.2.2)))/\H6 N=some (.lst ys)/\aB H5 H6)
    ⟨rL,aq,aB.upd hN⟩ (λn ys H6 _ h=>aO.of (h.2.2 _ _ ht5)) ?_ ?_⟩
   .intro n x ys H6 hx z;let⟨rfl,rM,qC⟩:=z;let⟨hn,hx⟩:=rfg hx;let hnt:n<ts.length:=o6;let⟨_,en⟩:=jz (F.mv (zj.trans qC)) hnt;calc uW hx.symm (aO.of en) ?_;calc⟨_,rL,rM,?_,gY.mk (by rw[aa];show hn) ⟨?_,aq,qC.dF hN⟩⟩;.rw[aa,aa,aa,am];show aK o6
    .rw[take_snoc (ac hnt)];simp[Ts,ones]
   .intro ys H6 z;let⟨rfl,rM,qC⟩:=z;rw[aa,hal,ce]at rM;let xP:=zj.trans qC;calc JA N (ones (ts.map (·.2.2))) ⟨rL,rL,bB.of rM,by rw[lZ,aa];lia,?_⟩;rw[lZ];refine JA bL (ts.map (·.2.2)) ⟨rL,h63,by rw[aa];lia,λc hc=>?_,λtl e dx H' s' hd=>G _ _ _ H' (.Bv O Y v3 v4 e) ⟨rL,dx,rL,hd⟩ (xP.trans s'),λleft v5 ws' H7 s7 _ _=>?_⟩
    .let⟨u,hu,rfl⟩:=bd.mp hc;show(aat (dU u hu).2.2).lt
    let Z:=xP.trans s7;calc⟨True.intro,_,rL,_,rL,_,rL,b,k,d,t,ws,as,ts,r,w,aD,aL,bi,bj,rL,I.mv Z,BK.mv Z,Z _ _ ht,F.mv Z,dU,h0,h7,KJ I.ok.w9 dU h0 Ga Y,λl e dx H' s' hd=>G _ _ _ H' (.nw O Y v3 v4 ⟨left,v5⟩ e) ⟨rL,dx,rL,hd⟩ (Z.trans s'),λv6 H8 s8=>?_⟩;show q (.ok O Y v3 v4 ⟨left,v5⟩ v6) H8 (Z.trans s8)
def WD (kvs:List (Key×V)):Prop:=∀j∈kvs,∃(c:Nat) (i:Int),j=(cU [c],V.int i)/\97<=c/\c<=122
def wf (kvs:List (Key×V))(c:Nat):Int:=match fK kvs (cU [c]) with| some (.int i)=>i| _=>0
def aau {kvs:List (Key×V)}{k:Key}{v:V}(h:fK kvs k=some v):(k,v)∈kvs:=by
 unfold fK at h;cases e:kvs.find? (λj=>decide (j.1=k)) with
 | none=>rw[e]at h;cases h
 | some p=>
  rw[e]at h;let h:p.2=v:=bp h;let m:=List.mem_of_find?_eq_some e;let q:=List.find?_some e;let q:p.1=k:=by simpa using q
  rw[<-h,<-q];show m
def agR {kvs:List (Key×V)}(h:WD kvs)(c:Nat):(fK kvs (cU [c])).getD (.int 0)=.int (wf kvs c):=by
 unfold wf;cases e:fK kvs (cU [c]) with| none=>rfl| some v=>let⟨d,i,q,_⟩:=h _ (aau e);have:v=V.int i:=congrArg Prod.snd q;subst this;rfl
def adv {kvs:List (Key×V)}(h:WD kvs){c:Nat}(j:¬(97<=c/\c<=122)):wf kvs c=0:=by
 unfold wf;cases e:fK kvs (cU [c]) with
 | none=>rfl
 | some v=>
  let⟨d,i,q,h1,h2⟩:=h _ (aau e);have:cU [c]=cU [d]:=congrArg Prod.fst q;have:S [c]=S [d]:=lj this;have:[c]=[d]:=wQ this;have:c=d:=by simpa using this
  lia
def VB:Sp:=λvs H Q _=>∃(d:Addr) (kvs:List (Key×V)) (c:Nat),vs=[.ref d,.str (S [c])]/\Rd H d (.dK kvs)/\WD kvs/\Q (.int (wf kvs c)) H
def Uh (D:aM K mg "worth_of" vh ["worths","sign"]):bV P w K mg base "worth_of" 1 ["worths","sign"] VB:=by
 calc D.cZ TJ (λf bG A outer s H vs Q E F h=>?_);let⟨d,kvs,c,rfl,hd,j,q⟩:=h;let G:=Ot F;calc⟨_,(aF (bf (mZ (zN nQ nQ (bH [97] pS) aW (bH [122] pS)) (abS G aG aW au ⟨rL,rL,rL,rL⟩) au))),?_⟩;calc⟨_,rL,[97],[c],rL,rL,decide (97<=c),by rw[Kh],?_⟩;by_cases c1:97<=c
 .rw[al c1];calc cj (JA [c] [122] ⟨rL,rL,_,rL,?_⟩);rw[Kh];by_cases c2:c<=122
  .rw[al c2];calc cj ⟨_,rL,d,rL,.inl ⟨_,hd⟩,_,rL,_,yd.rd (k:=cU [c]) hd,?_⟩;rw[agR j];show q
  .rw[ah c2];calc bQ ?_;let e:=adv j (c:=c) o6;rw[e]at q;show q
 .rw[ah c1];calc bQ ⟨_,rL,bQ ?_⟩;let e:=adv j (c:=c) o6;rw[e]at q;show q
def Rf:Sp:=λvs H Q _=>∃(a:Addr) (q:j9) (n:Nat),vs=[.ref a,.int n]/\aad H a q/\q.2.2.1<=1/\
 ∀(t:Addr) (H':Hp),aB H H'->H' t=some (.tup [.int ((q.1+n*q.2.2.1:Nat):Int),.int ((q.2.1+n*(1-q.2.2.1):Nat):Int)])->Q (.ref t) H'
def Yb (D:aM K mg "cell_in" w5 ["word","place"]):bV P w K mg base "cell_in" 1 ["word","place"] Rf:=by
 calc D.cZ Xq (λf bG A outer s H vs Q E J h=>?_);obtain⟨a,⟨i,j,wy,l⟩,n,rfl,ha,I,q⟩:=h;let F:=aO.of (K:=K) ha;calc⟨_,(aF (bf (mZ (bM iH (aX bw aG au (λ_ _=>rfl)) au (bF _)) (cO (aj (aX bw aG au (λ_ _=>rfl)) (aj (aJ cG (aX bw aG au (λ_ _=>rfl)) aW) ao))) (cO (aj (aJ cG (aX bw aG au (λ_ _=>rfl)) aW) (aj (aX bw aG au (λ_ _=>rfl)) ao)))))),?_⟩;calc⟨_,rL,a,_,_,_,rL,rL,F,aN (j:=2) rL,?_⟩;by_cases z:wy=0
 .subst z;calc⟨rL,_,rL,cj ⟨_,rL,a,_,_,_,rL,rL,F,aN (j:=0) rL,_,rL,a,_,_,_,rL,rL,F,aN (j:=1) rL,_,rL,_,_,rL,rL,zsz 2,λt ht=>?_⟩⟩;calc q t _ (aB.upd ht) ?_;rw[aq];simp
 .let G:wy=1:=by simp only at I;lia
  subst G;calc⟨rL,_,rL,bQ ⟨_,rL,a,_,_,_,rL,rL,F,aN (j:=0) rL,_,rL,_,_,rL,rL,_,rL,a,_,_,_,rL,rL,F,aN (j:=1) rL,zsz 2,λt ht=>?_⟩⟩;calc q t _ (aB.upd ht) ?_;rw[aq];simp
def Ge (c:Nat):Int:=if c=50 then 2 else if c=51 then 3 else if c=52 then 4 else 1
def Nb (c:Nat):Int:=if c=98 then 2 else if c=99 then 3 else if c=100 then 4 else 1
def VD:List (Key×V):=[(cU [50],.int 2),(cU [51],.int 3),(cU [52],.int 4)]
def VF:List (Key×V):=[(cU [98],.int 2),(cU [99],.int 3),(cU [100],.int 4)]
def VG (a b:Nat):decide (cU [a]=cU [b])=decide (a=b):=by
 by_cases h:a=b;.subst h;simp
 .have:¬cU [a]=cU [b]:=λz=>h (by have:=wQ (lj z);simpa using this)
  rw[ah h,ah this]
def agS (c:Nat):(fK VD (cU [c])).getD (.int 1)=.int (Ge c):=by
 unfold fK VD Ge;simp only[f_,VG];by_cases h1:c=50;.subst h1;rfl
 by_cases h2:c=51;.subst h2;rfl
 by_cases h3:c=52;.subst h3;rfl
 rw[ah (λz=>h1 z.symm),ah (λz=>h2 z.symm),ah (λz=>h3 z.symm),if_neg h1,if_neg h2,if_neg h3];rfl
def agT (c:Nat):(fK VF (cU [c])).getD (.int 1)=.int (Nb c):=by
 unfold fK VF Nb;simp only[f_,VG];by_cases h1:c=98;.subst h1;rfl
 by_cases h2:c=99;.subst h2;rfl
 by_cases h3:c=100;.subst h3;rfl
 rw[ah (λz=>h1 z.symm),ah (λz=>h2 z.symm),ah (λz=>h3 z.symm),if_neg h1,if_neg h2,if_neg h3];rfl
def sx (q:j9)(k:Nat):Nat:=q.1+k*q.2.2.1
def sy (q:j9)(k:Nat):Nat:=q.2.1+k*(1-q.2.2.1)
noncomputable def Gf (M:AB)(kvs:List (Key×V))(ts:List bR)(q:j9)(k c:Nat)(p:Int×Int):Int×Int:=if (sx q k,sy q k)∈ts.map nF then (p.1+wf kvs c*Ge (cell M (sx q k) (sy q k)),p.2*Nb (cell M (sx q k) (sy q k))) else (p.1+wf kvs c,p.2)
noncomputable def mU (M:AB)(kvs:List (Key×V))(ts:List bR)(q:j9):Nat->Int×Int
 | 0=>(0,1)
 | n+1=>Gf M kvs ts q n (q.2.2.2.getD n 0) (mU M kvs ts q n)
noncomputable def Nf (M:AB)(kvs:List (Key×V))(ts:List bR)(q:j9):Int:=(mU M kvs ts q q.2.2.2.length).1*(mU M kvs ts q q.2.2.2.length).2
def agU (c:Nat):1<=Ge c/\Ge c<=4:=by
 unfold Ge;split;.lia
 split;.lia
 split <;> lia
def agV (c:Nat):1<=Nb c/\Nb c<=4:=by
 unfold Nb;split;.lia
 split;.lia
 split <;> lia
theorem ab_ (M:AB)(kvs:List (Key×V))(ts:List bR)(q:j9):∀n,1<=(mU M kvs ts q n).2/\(mU M kvs ts q n).2<=4^n
 | 0=>⟨oQ _,oQ _⟩
 | n+1=>by
  let⟨h1,h2⟩:=ab_ M kvs ts q n;show 1<=(Gf _ _ _ _ _ _ _).2/\(Gf _ _ _ _ _ _ _).2<=4^(n+1);unfold Gf;rw[Int.pow_succ];split
  .let⟨w1,w2⟩:=agV (cell M (sx q n) (sy q n));calc⟨?_,kR h2 w2 o6 o6⟩;have:=kR h1 w1 o6 o6;simpa using this
  .calc⟨h1,?_⟩;simp only;lia
def ai8 (M:AB)(kvs:List (Key×V))(ts:List bR)(q:j9){n:Nat}(hn:n<=20):-(2^64)<(mU M kvs ts q n).2/\(mU M kvs ts q n).2<2^64:=by
 let⟨h1,h2⟩:=ab_ M kvs ts q n;let h3:(4:Int)^n<=4^20:=by
  have:=Nat.pow_le_pow_right (show 0<4 by decide) hn
  exact_mod_cast this
 let h4:(4:Int)^20=1099511627776:=by decide
 let h5:(2:Int)^64=18446744073709551616:=by decide
 lia
structure QIn (r w:Nat)(q:j9):Prop where
 way:q.2.2.1<=1
 len:q.2.2.2.length<=20
 inn:∀k,k<q.2.2.2.length->sx q k<r/\sy q k<w
def Rg (C:Addr):Sp:=λvs H Q _=>∃(b d t a:Addr) (kvs:List (Key×V)) (as:List Addr) (ts:List bR) (q:j9) (r w:Nat) (aD aL:AB) (bi bj:Nat),vs=[.ref b,.ref d,.ref t,.ref a]/\cM C H b r w aD aL bi bj/\Rd H d (.dK kvs)/\WD kvs/\H t=some (.tup (as.map V.ref))/\eE H as ts/\ts.length<=7/\aad H a q/\QIn r w q/\
 ∀H',aB H H'->Q (.int (Nf aL kvs ts q)) H'
open Classical in
def aav {C gl gw:Addr}(D:aM K mg "word_points" pZ ["board","worths","laying","word"])(pP:mg "enumerate"=none)(cu:gA K C)(KR:mg "LETTER_MARKS"=some (.ref gl))(Rh:mg "WORD_MARKS"=some (.ref gw))(kl:KDict P w K gl VD)(kw:KDict P w K gw VF)(qW:bV P w K mg base "cells_of" 1 ["laying"] xM)(aaw:bV P w K mg base "cell_in" 1 ["word","place"] Rf)(Yc:bV P w K mg base "worth_of" 1 ["worths","sign"] VB):bV P w K mg base "word_points" 2 ["board","worths","laying","word"] (Rg C):=by
 calc D.cZ d9 (λf bG A outer s H vs Q E hr h=>?_);let⟨b,d,t,a,kvs,as,ts,F,r,w',aD,aL,bi,bj,rfl,BA,hd,hW,ht,hL,h7,ha,hq,q⟩:=h;obtain⟨⟨dx,pr,pm,pb,hb,hpr,hpm,hpb⟩,B⟩:=BA;calc⟨_,(aA (aU (i:=4) d9.nd rL (Or.inl rL) (bD qW hr.mono rL (aj bA ao))) (aA (aU (i:=5) d9.nd rL (Or.inl rL) au) (aA (aU (i:=6) d9.nd rL (Or.inl rL) au) (aA (fD cK rL (abJ pk pP (aj (aX bw bI au (λ_ _=>rfl)) ao)) (nO rL (bU (bC (i:=7) d9.nd rL (Or.inl rL)) (bU (bC (i:=8) d9.nd rL (Or.inl rL)) kY))) (aA (aU (i:=9) d9.nd rL (Or.inl rL) (bD aaw hr.mono rL (aj bI (aj iw ao)))) (aA (aU (i:=10) d9.nd rL (Or.inl rL) (bD Yc hr.mono rL (aj aW (aj jq ao)))) (aA (fO (cB (bM (Ve hr.units) jP cL rL) (aA (aU (i:=11) d9.nd rL (Or.inl rL) (aX zM (aX bw (bO aG rL) (aX bw jP au (λ_ _=>rfl)) (λ_ _=>rfl)) (aX bw jP au (λ_ _=>rfl)) (λ_ _=>rfl))) (aA (aU (i:=10) d9.nd rL (Or.inl rL) (aJ iK jd (Qi (Eo (v:=.ref _) pk KR rL) nP au ⟨rL,rL,rL,rL⟩))) (aF (aU (i:=6) d9.nd rL (Or.inl rL) (aJ iK dW (Qi (Eo (v:=.ref _) pk Rh rL) nP au ⟨rL,rL,rL,rL⟩)))))) bJ)) (aF (aU (i:=5) d9.nd rL (Or.inl rL) (aJ cG cT jd))))))) (aF (bf (aJ iK cT dW))))))),?_⟩;calc⟨_,rL,t,as,ts,rL,ht,hL,o6,λLc cs H1 s1 hLc hcs=>?_⟩;refine⟨_,rL,a,_,_,_,rL,rL,aO.of (s1 _ _ ha),aN (j:=3) rL,_,rL,ZX (l:=F.2.2.2) (λn σ Z=>∃v7 v8 v9 O I:Option V,σ=[some (.ref b),some (.ref d),some (.ref t),some (.ref a),some (.ref Lc),some (.int (mU aL kvs ts F n).1),some (.int (mU aL kvs ts F n).2),v7,v8,v9,O,I]/\aB H1 Z)
  (JJ none none none none none ⟨rL,aB.refl _⟩) ?_ ?_⟩
 .intro n c σ Z T hc z hT;let⟨v7,v8,v9,O,I,rfl,s2⟩:=z;let hn:n<F.2.2.2.length:=(ag.mp hc).1;let⟨hx,hy⟩:=hq.inn n hn;let kT:aB Z (upd Z T (HO.tup [.int n,.str (S [c])])):=aB.upd hT;calc JA T _ ⟨rL,aO.of aq,rL,_,_,rL,_,_,rL,rL,?_⟩;let s3:=(s1.trans s2).trans kT;let JF:=s2.trans kT;generalize upd Z T (HO.tup [.int n,.str (S [c])])=H3 at kT s3 JF ⊢;calc⟨_,rL,_,rL,a,F,n,rL,s3 _ _ ha,hq.way,λg H4 s4 hg=>?_⟩;let J:=s3.trans s4;calc⟨_,rL,_,rL,d,kvs,c,rL,hd.mv J,hW,?_⟩;let gi:sx F n<aL.length:=by rw[B.bm.len];show hx
  let hwi:aL[sx F n].length=w':=B.bm.qT _ (aI _);let gj:sy F n<aL[sx F n].length:=by rw[hwi];show hy
  let Y:aL.getD (sx F n) []=aL[sx F n]:=by rw[ax,ac gi];rfl
  let w9:=B.w9;let hgd:F.2.2.2.getD n 0=c:=by rw[ax,hc];rfl
  let G:mU aL kvs ts F (n+1)=Gf aL kvs ts F n c (mU aL kvs ts F n):=by rw[<-hgd];rfl
  let hg:H4 g=some (.tup [.int (sx F n:Nat),.int (sy F n:Nat)]):=hg;refine⟨λσ H'=>∃(wv:Int) (u11:Option V),σ=[some (.ref b),some (.ref d),some (.ref t),some (.ref a),some (.ref Lc),some (.int (mU aL kvs ts F n).1),some (.int (mU aL kvs ts F (n+1)).2),some (.int n),some (.str (S [c])),some (.ref g),some (.int wv),u11]/\aB H1 H'/\(mU aL kvs ts F n).1+wv=(mU aL kvs ts F (n+1)).1,?_,?_⟩
  .let Ky:=hcs.mv (JF.trans s4);calc⟨_,rL,_,rL,2,.tup [.int (sx F n:Nat),.int (sy F n:Nat)],(ts.map nF).map λc=>Dt.tup [.int c.1,.int c.2],pj,.tup (aO.of hg) (.cons (.int _) (.cons (.int _) .nil)),.lst (bB.of ((JF.trans s4) _ _ hLc)) (dB.ofP Ky),?_⟩;simp only[fw,if_false];by_cases hm:(sx F n,sy F n)∈ts.map nF
   .rw[al (Jw (c:=(sx F n,sy F n)).mpr hm)];calc⟨_,rL,cj ⟨_,rL,b,C,dx,_,_,rL,J _ _ hb,cu.cl,cu.nm,rL,_,rL,g,_,_,_,rL,rL,aO.of hg,aN (j:=0) rL,pm,_,_,.str (S (aL.getD (sx F n) [])),rL,rL,aO.of (J _ _ hpm),aN ?_,_,rL,g,_,_,_,rL,rL,aO.of hg,aN (j:=1) rL,?_⟩⟩;.rw[Y];show nD (ac gi)
    generalize hmm:cell aL (sx F n) (sy F n)=m;calc JE _ _ m ⟨rL,rL,ap (aK (by rw[Y,hwi];lia)),aN (by rw[<-hmm,Y,cell_eq gi gj];show ac gj),?_⟩;let⟨l1,l2⟩:=agU m;let⟨w1,w2⟩:=agV m;let e:mU aL kvs ts F (n+1)=((mU aL kvs ts F n).1+wf kvs c*Ge m,(mU aL kvs ts F n).2*Nb m):=by rw[G];unfold Gf;rw[if_pos hm,hmm]
    calc⟨_,rL,gl,VD,rL,kl,_,rL,cU [m],rL,_,Ge m,rL,agS m,.inr ⟨o6,o6⟩,?_⟩;calc⟨_,rL,gw,VF,rL,kw,_,rL,cU [m],rL,_,Nb m,rL,agT m,.inr ⟨o6,o6⟩,?_⟩;calc JA (wf kvs c*Ge m) (some (.str (S [m]))) ⟨?_,JF.trans s4,?_⟩;.rw[e];rfl
    .rw[e]
   .rw[ah (λz=>hm (Jw (c:=(sx F n,sy F n)).mp z))];let e:mU aL kvs ts F (n+1)=((mU aL kvs ts F n).1+wf kvs c,(mU aL kvs ts F n).2):=by rw[G];unfold Gf;rw[if_neg hm]
    calc⟨_,rL,bQ (JA (wf kvs c) I ⟨?_,JF.trans s4,?_⟩)⟩;.rw[e];rfl
    .rw[e]
  .intro σ H' z;let⟨wv,u11,rfl,s5,ew⟩:=z;calc⟨_,rL,_,rL,_,_,rL,rL,?_⟩;show JJ _ _ _ _ _ ⟨by rw[<-ew];rfl,s5⟩
 .intro σ Z z;let⟨v7,v8,v9,O,I,rfl,s2⟩:=z;calc⟨_,rL,_,rL,_,_,rL,rL,?_⟩;show⟨.inr (ai8 _ _ _ _ hq.len),q _ (s1.trans s2)⟩
def VH {r w:Nat}{R:AB}(hb:Blk r w R)(r9:r<=9)(w9:w<=9){i j wy:Nat}(hi:i<r)(J:j<w)(I:wy<=1):QIn r w (sJ R i j wy):=by
 calc⟨I,GQ hb r9 w9 hi,λk F=>?_⟩;let D:=vq hb hi (j:=j) (way:=(wy:Int));let F:k<(iy ((lineOf R i j (wy:Int)).take (placeOf i j (wy:Int)))++jr ((lineOf R i j (wy:Int)).drop (placeOf i j (wy:Int)))).length:=F;rw[av]at F;let a1:=qz ((lineOf R i j (wy:Int)).take (placeOf i j (wy:Int)));let a2:=xG ((lineOf R i j (wy:Int)).drop (placeOf i j (wy:Int)));rw[am]at a1;rw[bc]at a2;unfold sx sy;by_cases z:wy=0
 .subst z;let ep:placeOf i j ((0:Nat):Int)=j:=if_pos rfl;rw[ep]at F a1 a2;let D:(lineOf R i j ((0:Nat):Int)).length=w:=by rw[D];show if_pos rfl
  rw[D]at a1 a2;show i+k*0<r/\(j-(iy ((lineOf R i j ((0:Nat):Int)).take j)).length)+k*(1-0)<w;lia
 .let G:wy=1:=o6;subst G;let ep:placeOf i j ((1:Nat):Int)=i:=if_neg pj;rw[ep]at F a1 a2;let D:(lineOf R i j ((1:Nat):Int)).length=r:=by rw[D];show if_neg pj
  rw[D]at a1 a2;show (i-(iy ((lineOf R i j ((1:Nat):Int)).take i)).length)+k*1<r/\j+k*(1-1)<w;lia
def Ri {r w:Nat}{aD:AB}(hb:Blk r w aD)(r9:r<=9)(w9:w<=9){ts:List bR}(D:∀t∈ts,inB r w t){q:j9}(h:q∈jy aD ts):QIn r w q:=by
 unfold jy at h;let⟨a,ha,rfl⟩:=bd.mp (kz.mp h).1;let j:=su hb D;let G:=aae ts;rcases bz.mp ha with z|z
 .let⟨u,F,rfl⟩:=bd.mp z;let⟨h1,h2,_⟩:=D u (cE F);show VH j r9 w9 h1 h2 G
 .let⟨u,F,rfl⟩:=bd.mp z;let⟨h1,h2,_⟩:=D u F;show VH j r9 w9 h1 h2 (show 1-mQ ts<=1 by lia)
def agW {kvs:List (Key×V)}{c0:Nat}{i:Int}(c:Nat):wf (putK kvs (cU [c0]) (.int i)) c=if c=c0 then i else wf kvs c:=by
 unfold wf;rw[abr];by_cases h:c=c0;.rw[if_pos h,if_pos (by rw[h])]
 .rw[if_neg h,if_neg (λz=>h (by have:=wQ (lj z);simpa using this))]
def WD.put {kvs:List (Key×V)}(h:WD kvs){c:Nat}(i:Int)(h1:97<=c)(h2:c<=122):WD (putK kvs (cU [c]) (.int i)):=by
 unfold putK;intro j m;split at m
 .let⟨p,hp,rfl⟩:=bd.mp m;split
  .rename_i e;show JA c i ⟨by rw[e],h1,h2⟩
  .show h p hp
 .rcases bz.mp m with m|m;.show h j m
  .rw[aS.mp m];show JA c i ⟨rL,h1,h2⟩
def WB (b:Int)(kvs:List (Key×V)):Prop:=∀c,0<=wf kvs c/\wf kvs c<=b
def WB.put {b:Int}{kvs:List (Key×V)}(h:WB b kvs){c:Nat}{i:Int}(h1:0<=i)(h2:i<=b):WB b (putK kvs (cU [c]) (.int i)):=λe=>by
 rw[agW];split;.show⟨h1,h2⟩
 .show h e
def VJ:Sp:=λvs H Q _=>∃(pb t:Addr) (as:List Addr) (n m:Int),vs=[.ref pb,.ref t]/\H pb=some (.tup [.int n,.int m])/\H t=some (.tup (as.map V.ref))/\Q (.int (if n<=(as.length:Int) then m else 0)) H
def Ui (D:aM K mg "bonus_of" vm ["bonus","laying"])(G:mg "len"=none):bV P w K mg base "bonus_of" 1 ["bonus","laying"] VJ:=by
 calc D.cZ TQ (λf bG A outer s H vs Q E I h=>?_);let⟨pb,t,as,n,m,rfl,F,ht,q⟩:=h;calc⟨_,(aF (bf (mZ (bM El (aV bW pk G ay (aj aW ao)) (aX bw aG au (λ_ _=>rfl)) (bF _)) (aX bw aG au (λ_ _=>rfl)) au))),?_⟩;calc⟨_,rL,t,_,rL,.inr (aO.of ht),_,rL,pb,_,_,_,rL,rL,aO.of F,aN (j:=0) rL,_,_,rL,rL,_,rL,?_⟩;rw[aa];by_cases c:n<=(as.length:Int)
 .rw[if_pos c]at q;rw[al c];show cj ⟨_,rL,pb,_,_,_,rL,rL,aO.of F,aN (j:=1) rL,q⟩
 .rw[if_neg c]at q;rw[ah c];show bQ q
theorem agX {M:AB}{kvs:List (Key×V)}{ts:List bR}{q:j9}(j:WB 1000000 kvs):∀n,0<=(mU M kvs ts q n).1/\(mU M kvs ts q n).1<=4000000*(n:Int)
 | 0=>⟨oQ _,by show (0:Int)<=4000000*0;decide⟩
 | n+1=>by
  let⟨h1,h2⟩:=agX (M:=M) (ts:=ts) (q:=q) j n;let⟨b1,b2⟩:=j (q.2.2.2.getD n 0);show 0<=(Gf _ _ _ _ _ _ _).1/\(Gf _ _ _ _ _ _ _).1<=4000000*((n+1:Nat):Int)
  unfold Gf;split
  .let⟨w1,w2⟩:=agU (cell M (sx q n) (sy q n));let m1:=Int.mul_nonneg b1 (show 0<=Ge (cell M (sx q n) (sy q n)) by lia);let m2:=kR b2 w2 o6 pj;simp only;lia
  .simp only;lia
def ai9 {M:AB}{kvs:List (Key×V)}{ts:List bR}{q:j9}{r w:Nat}(D:WB 1000000 kvs)(j:QIn r w q)(r9:r<=9)(w9:w<=9):-1000000000000000<=Nf M kvs ts q/\Nf M kvs ts q<=1000000000000000:=by
 let hl:q.2.2.2.length<=9:=by
  rcases kN q.2.2.2.length with z|z;.lia
  let h:=j.inn (q.2.2.2.length-1) o6;let hw:=j.way;unfold sx sy at h;by_cases c:q.2.2.1=0;.rw[c]at h;lia
  .rw[show q.2.2.1=1 by lia]at h;lia
 unfold Nf;let⟨h1,h2⟩:=agX (M:=M) (ts:=ts) (q:=q) D q.2.2.2.length;let⟨h3,h4⟩:=ab_ M kvs ts q q.2.2.2.length;let h5:(4:Int)^q.2.2.2.length<=4^9:=by
  have:=Nat.pow_le_pow_right (show 0<4 by decide) hl
  exact_mod_cast this
 let F:(4:Int)^9=262144:=by decide
 rw[F]at h5;let h7:=Int.mul_nonneg h1 (show 0<=(mU M kvs ts q q.2.2.2.length).2 by lia);let G:=kR (show (mU M kvs ts q q.2.2.2.length).1<=36000000 by lia) (show (mU M kvs ts q q.2.2.2.length).2<=262144 by lia) o6 pj;lia
noncomputable def Yd (aD aL:AB)(kvs:List (Key×V))(ts:List bR)(n m:Int):Int:=((jy aD ts).map (Nf aL kvs ts)).sum+if n<=(ts.length:Int) then m else 0
def Ye (C:Addr):Sp:=λvs H Q _=>∃(b d pb t:Addr) (kvs:List (Key×V)) (n m:Int) (as:List Addr) (ts:List bR) (r w:Nat) (aD aL:AB) (bi bj:Nat),vs=[.ref b,.ref d,.ref pb,.ref t]/\cM C H b r w aD aL bi bj/\Rd H d (.dK kvs)/\WD kvs/\WB 1000000 kvs/\H pb=some (.tup [.int n,.int m])/\H t=some (.tup (as.map V.ref))/\eE H as ts/\(∀t∈ts,inB r w t)/\0<ts.length/\ts.length<=7/\Ew ts/\
 ∀H',aB H H'->Q (.int (Yd aD aL kvs ts n m)) H'
def Rj {C:Addr}(D:aM K mg "points_of" tW ["board","worths","bonus","laying"])(JG:mg "sum"=none)(G5:bV P w K mg base "formed" 10 ["board","laying"] (GR C))(Oe:bV P w K mg base "word_points" 2 ["board","worths","laying","word"] (Rg C))(Yg:bV P w K mg base "bonus_of" 1 ["bonus","laying"] VJ):bV P w K mg base "points_of" 11 ["board","worths","bonus","laying"] (Ye C):=by
 calc D.cZ Cq (λf bG A outer s H vs Q E hr h=>?_);let⟨b,d,pb,t,kvs,n,m,as,ts,r,w,aD,aL,bi,bj,rfl,I,hd,hW,hB,Y,ht,O,dU,h0,h7,hl1,q⟩:=h;calc⟨_,(aA (U9 (ix:=4) (ns:=["word"]) Cq.nd rL (Or.inl rL) rL (jA.of ["board","worths","bonus","laying","counted"] [] pE) (gM (bD G5 hr.mono rL (aj aG (aj bI ao)))) (λ_ _ _ _ _=>(J8 (show (["word","board","worths","bonus","laying","counted"]:List Str).Nodup by decide +kernel) rL pk)) (λ_ _ _ _ _=>dR) (λ_ _ _ _ _=>(bD Oe hr.mono rL (aj aW (aj bA (aj cL (aj aG ao))))))) (aF (bf (aJ cG (aV (Z1 rL) pk JG PyProof.Rows.boot_sum (aj cL ao)) (bD Yg hr.mono rL (aj bA (aj bI ao))))))),?_⟩;calc⟨_,rL,_,rL,b,t,as,ts,r,w,aD,aL,bi,bj,rL,I,ht,O,dU,h0,h7,hl1,λT bs H1 s1 hT hQ=>?_⟩;let hql:=JB (aD:=aD) h7;let Qx:bs.length=(jy aD ts).length:=hQ.len;refine⟨T,rL,⟨_,aO.of hT⟩,λM hM=>Iw (K:=K) (a:=T) (f:=jC [] 0) (tt:=lH) (xs:=bs.map V.ref) (λi ys G=>ys=((jy aD ts).take i).map (λq=>V.int (Nf aL kvs ts q))/\G M=some (.lst ys)/\aB H1 G)
  ⟨rL,aq,aB.upd hM⟩ (λi ys G _ h=>aO.of (h.2.2 _ _ hT)) ?_ ?_⟩
 .intro i x ys G hx z;let⟨rfl,J,s2⟩:=z;let⟨hi,hx⟩:=rfg hx;let hiw:i<(jy aD ts).length:=o6;subst hx;let⟨qq,eq,hat⟩:=(hQ.mv s2).get hi;let hB2:=I.1;let⟨_,F⟩:=id I;let hqi:=Ri F.br F.r9 F.w9 dU (bo eq);let j:=s1.trans s2;calc adi ⟨_,rL,_,rL,_,rL,_,rL,b,d,t,bs[i],kvs,as,ts,qq,r,w,aD,aL,bi,bj,rL,I.mv j,hd.mv j,hW,j _ _ ht,O.mv j,h7,hat,hqi,λH3 s3=>?_⟩;calc⟨s3 _ _ J,by rw[aa,am];show aK o6,gY.mk (by rw[aa];show hi) ⟨?_,aq,(s2.trans s3).dF hM⟩⟩;rw[cz,eq,bv];rfl
 .intro ys G z;let⟨rfl,J,s2⟩:=z;rw[aa,Qx,ce]at J;let⟨_,F⟩:=id I;let j:=s1.trans s2;let Z:G M=some (.lst (((jy aD ts).map (Nf aL kvs ts)).map V.int)):=by rw[fA];show J
  refine⟨_,rL,M,(jy aD ts).map (Nf aL kvs ts),rL,bB.of Z,by rw[aa];lia,λx hx=>?_,_,rL,_,rL,pb,t,as,n,m,rL,j _ _ Y,j _ _ ht,_,_,rL,rL,?_⟩
  .let⟨qq,hq,rfl⟩:=bd.mp hx;show ai9 hB (Ri F.br F.r9 F.w9 dU hq) F.r9 F.w9
  .rw[O.len];show q G j
def Rk {a b:AB}(p:a.Perm b)(h1:a.Pairwise (λx y=>decide (y<x)=false))(h2:b.Pairwise (λx y=>decide (y<x)=false)):a=b:=p.eq_of_pairwise (le:=λx y=>decide (y<x)=false) (λx y _ _ j D=>List.le_antisymm (List.not_lt.mp (i9 j)) (List.not_lt.mp (i9 D))) h1 h2
def KY {xs:List V}{b:Nat}(h:b<=xs.length):gH xs none (some (b:Int))=xs.take b:=by unfold gH;rw[HT.kO,HT.rR,fq h];simp
def CZ {xs:List V}{a:Nat}(h:a<=xs.length):gH xs (some (a:Int)) none=xs.drop a:=by unfold gH;rw[HT.kO,HT.rR,fq h,b9 (by rw[bc];lia)]
def dG (l:List Nat):List Nat:=l.mergeSort (λa b=>decide (a<=b))
def jM (l:List Nat):(dG l).Perm l:=List.mergeSort_perm _ _
def agY {a b:Nat}:(decide ([b]<[a])=false)↔a<=b:=by rw[decide_eq_false_iff_not,hJ];simp
def Rm (l:List Nat):((dG l).map λc=>[c]).Pairwise (λa b=>decide (b<a)=false):=by rw[List.pairwise_map];have:=List.pairwise_mergeSort (le:=λa b:Nat=>decide (a<=b)) (λa b c h1 h2=>by simp at *;lia) (λa b=>by simp;lia) l;show this.imp λh=>agY.mpr (dS h)
def wC {l:List Nat}{ws:AB}(pm:ws.Perm (l.map λc=>[c]))(pw:ws.Pairwise (λa b=>decide (b<a)=false)):ws.flatten=dG l:=by let e:=Rk (pm.trans ((jM l).map λc=>[c]).symm) pw (Rm l);rw[e];show lZ _
def aax {a b:List Nat}(h:a.Perm b):dG a=dG b:=by
 let e:=Rk (((jM a).trans (h.trans (jM b).symm)).map λc=>[c]) (Rm a) (Rm b);have:=congrArg List.flatten e
 rwa [lZ,lZ]at this
def O2:Sp:=λvs H Q _=>∃l:List Nat,vs=[.str (S l)]/\l.length<64/\∀H',aB H H'->Q (.str (S (dG l))) H'
def Uj (D:aM K mg "in_order" vo ["tiles"])(F:mg "sorted"=none):bV P w K mg base "in_order" 1 ["tiles"] O2:=by
 calc D.cZ TV (λf bG A outer s H vs Q E G h=>?_);let⟨l,rfl,j,q⟩:=h;calc⟨_,(aF (bf (fJ bq dq dr qm (bH [] pS) (aj (aV (uF rL) pk F fz (aj aG ao)) ao)))),?_⟩;calc⟨rL,_,rL,l,rL,j,λp ls hp pm pw=>?_⟩;calc JA p (ls.map λc=>[c]) ⟨rL,rL,bB.of aq,?_,?_⟩;.rw[lZ,pm.length_eq];lia
 .rw[wC (pm.map λc=>[c]) pw];show q _ (aB.upd hp)
def Rn:Sp:=λvs H Q _=>∃(a:Addr) (xs:List V) (i:Nat) (v:V),vs=[.ref a,.int i,v]/\H a=some (.tup xs)/\i<xs.length/\xs.length<=63/\∀p H',aB H H'->H' p=some (.tup (xs.set i v))->Q (.ref p) H'
def Ro (D:aM K mg "exchanged" tY ["things","place","thing"]):bV P w K mg base "exchanged" 1 ["things","place","thing"] Rn:=by
 calc D.cZ Ql (λf bG A outer s H vs Q E hr h=>?_);let⟨a,xs,i,v,rfl,ha,hi,J,q⟩:=h;calc⟨_,(aF (bf (aJ vI (aJ vI (dh vJ aG d8 (dD aW)) (cO (aj bA ao))) (dh vJ aG (dD (aJ cG aW au)) d8)))),?_⟩;calc⟨_,rL,_,rL,_,rL,a,xs,rL,ha,λp1 H1 s1 h1=>?_⟩;calc⟨_,rL,zsz 1,λp2 Z=>?_⟩;let e2:upd H1 p2 (HO.tup [v]) p2=some (.tup [v]):=aq;let s2:aB H1 (upd H1 p2 (HO.tup [v])):=aB.upd Z;generalize upd H1 p2 (HO.tup [v])=H2 at e2 s2 ⊢;let j:(gH xs none (some (i:Int)))=xs.take i:=KY o6;let F:(gH xs (some ((i:Int)+1)) none)=xs.drop (i+1):=CZ (a:=i+1) o6;rw[j]at h1;calc JI p1 p2 _ _ ⟨rL,rL,aO.of (s2 _ _ h1),aO.of e2,?_,λ_=>e2,λz=>absurd z pi,λp3 H3 I h3=>?_⟩;.rw[am];show ap (aK (by simp;lia))
 calc⟨_,rL,_,rL,_,_,rL,rL,_,rL,a,xs,rL,I _ _ (s2 _ _ (s1 _ _ ha)),λp4 H4 G h4=>?_⟩;rw[F]at h4;calc JI p3 p4 _ _ ⟨rL,rL,aO.of (G _ _ h3),aO.of h4,?_,λz=>by simp at z,λ_ _=>G _ _ h3,λp5 Y O h5=>?_⟩;.rw[av,am,bc];show ap (aK (by simp;lia))
 calc q p5 Y ((((s1.trans s2).trans I).trans G).trans O) ?_;rw[h5,im,if_pos hi];simp
def Yh {X:Cx}{S:St->Prop}:yS (Cg X.prog X.w) X (λ_ _ _=>False) S:=λ_ _ _ _ _ _ _ _ ⟨_,_,_,_,_,_,_,z⟩=>z.elim
noncomputable def o9:List Nat->List Nat->Option (List Nat)
 | l,[]=>some l
 | l,c::cs=>if gJ c∈l then o9 (l.erase (gJ c)) cs else none
theorem sV (c:Nat):∀l:List Nat,(l.map λc=>[c]).erase [c]=(l.erase c).map λc=>[c]
 | []=>rfl
 | a::l=>by
  rw[cv,List.erase_cons,List.erase_cons];by_cases e:a=c;.subst e;simp
  .rw[if_neg (by simpa using e),if_neg (by simpa using e),sV c l];rfl
theorem Rp:∀{cs l j:List Nat},o9 l cs=some j->zf (l.map λc=>[c]) cs=.inr (j.map λc=>[c])
 | [],l,j,h=>by cases h;rfl
 | c::cs,l,j,h=>by
  unfold o9 at h;split at h
  .rename_i hm;unfold zf;rw[if_pos (bd.mpr ⟨_,hm,rL⟩),sV];show Rp h
  .cases h
theorem zm:∀{cs l j:List Nat},o9 l cs=some j->j.length+cs.length=l.length
 | [],l,j,h=>by cases h;rfl
 | c::cs,l,j,h=>by
  unfold o9 at h;split at h
  .rename_i hm;have:=zm h;rw[List.length_erase_of_mem hm]at this;have:=List.length_pos_of_mem hm;simp only[dA];lia
  .cases h
theorem zp:∀{cs l j:List Nat},o9 l cs=some j->∀c∈j,c∈l
 | [],l,j,h=>by cases h;show λ_ h=>h
 | c::cs,l,j,h=>by
  unfold o9 at h;split at h;.show λd hd=>List.mem_of_mem_erase (zp h d hd)
  .cases h
def Rq:Sp:=λvs H Q _=>∃(bL l:List Nat) (t:Addr) (as:List Addr) (ts:List bR),vs=[.str (S bL),.ref t]/\H t=some (.tup (as.map V.ref))/\eE H as ts/\ts.length<=7/\bL.length<=63/\(∀t∈ts,sgN t.2.2)/\o9 bL (ts.map (·.2.2))=some l/\∀H',aB H H'->Q (.str (S (dG l))) H'
def KZ {C:Addr}(D:aM K mg "left_behind" qb ["rack","laying"])(uw:DefX P w K mg base "left_of" 3 ["rack","signs"] (Jy C)):bV P w K mg base "left_behind" 4 ["rack","laying"] Rq:=by
 calc D.cZ Kg (λf bG A outer s H vs Q E hr h=>?_);let⟨bL,l,t,as,ts,rfl,ht,hL,h7,O,Y,JH,q⟩:=h;let Z:=hL.len;calc⟨_,(aF (bf (nW uw hr.mono rL (Yh (S:=λ_=>True)) (aj aG (aj (fJ bq dq dr qm (bH [] pS) (aj (lK (ns:=["row","column","sign"]) rL (jA.of ["rack","laying"] [] pE) (gM aW) (λ_ _ _ _ _=>(oO K rL (show (["row","column","sign","rack","laying"]:List Str).Nodup by decide +kernel) rL rL rL pk pk pk)) (λ_ _ _ _ _=>dR) (λ_ _ _ _ _=>bA)) ao)) ao))))),?_⟩;refine⟨True.intro,_,rL,rL,_,rL,t,rL,⟨_,aO.of ht⟩,λN hN=>jQ (K:=K) (KT:=K) (a:=t) (f:=jC [] 0) (tt:=lH) (xs:=as.map V.ref) (λn ys F=>ys=Ts (ones ((ts.take n).map (·.2.2)))/\F N=some (.lst ys)/\aB H F)
  ⟨rL,aq,aB.upd hN⟩ (λn ys F _ h=>aO.of (h.2.2 _ _ ht)) ?_ ?_⟩
 .intro n x ys F hx z;let⟨rfl,J,I⟩:=z;let⟨hn,hx⟩:=rfg hx;let j:n<ts.length:=o6;let⟨_,en⟩:=jz (hL.mv I) j;calc uW hx.symm (aO.of en) ?_;calc⟨_,rL,J,?_,gY.mk (by rw[aa];show hn) ⟨?_,aq,I.dF hN⟩⟩;.rw[aa,aa,aa,am];show aK o6
  .rw[show ts.take (n+1)=ts.take n++[ts[n]] by rw[cz,ac j];rfl];simp only[Ts,ones,bv];rfl
 .intro ys F z;let⟨rfl,J,I⟩:=z;rw[aa,Z,ce]at J;calc JA N (ones (ts.map (·.2.2))) ⟨rL,rL,bB.of J,by rw[lZ,aa];lia,?_⟩;rw[lZ];let G:=Rp JH;refine JA bL (ts.map (λt:bR=>t.2.2)) ⟨rL,O,(by rw[aa];lia),(λc hc=>?_),(λt e=>?_),(λleft e ws H7 s7 pm pw=>?_)⟩
  .let⟨u,hu,rfl⟩:=bd.mp hc;show(Y u hu).lt
  .rw[G]at e;cases e
  rw[G]at e;cases e;rw[wC pm pw];show q H7 (I.trans s7)
def nU (c:Nat):Prop:=isLet c\/c=63
def nU.lt {c:Nat}(h:nU c):c<128:=by
 rcases h with h|h;.have:=h.2;lia
 .lia
def VL:Sp:=λvs H Q _=>∃l:List Nat,vs=[.str (S l)]/\l≠[]/\l.length<=63/\(∀c∈l,nU c)/\∀H',aB H H'->Q (.bl true) H'
def Rr (D:aM K mg "are_tiles" tX ["thing"])(bK:mg "isinstance"=none)(vp:mg "str"=none)(fj:mg "all"=none)(I:∃t,mg "BLANK"=some (.str (S [63]) t)):bV P w K mg base "are_tiles" 1 ["thing"] VL:=by
 calc D.cZ Cr (λf bG A outer s H vs Q E hr h=>?_);let⟨l,rfl,J,h63,ht,q⟩:=h;calc⟨_,(aA (cB (QW.qt (lY (eG (dJ (aV fQ pk bK cp (aj aG (aj (jV (v:=.ty "str") pk vp md rL) ao))))) (jZ (bM ju aG (bH [] pS) (bF _))))) (aF (bf iu)) bJ) (aF (bf (aV (jK rL) pk fj jx (aj (jB rL (jc.of Cr.nd pE) (qL aG) (λ_ _ _ _ _=>dR) (λ_ _ _ _ _=>(Ox (d7 ju aG (tL pk I) (bF _)) (jw (lJ nQ nQ (bH [97] pS) aG (bH [122] pS)))))) ao))))),?_⟩;calc⟨_,rL,_,_,_,true,rL,.str _,pE,true,rL,bQ ⟨_,rL,l,[],rL,rL,_,rL,?_⟩⟩;rw[ah J];refine bQ ⟨_,rL,l,rL,λL Z=>vQ (λi ys j=>ys=(List.replicate i true).map V.bl/\j L=some (.lst ys)/\aB H j) ⟨rL,aq,aB.upd Z⟩ ?_ ?_⟩
 .intro i c ys j hi z;let⟨rfl,F,O⟩:=z;let Y:i<l.length:=(ag.mp hi).1;let G:∀b,b=true->j L=some (.lst ((List.replicate i true).map V.bl))/\((List.replicate i true).map V.bl).length<sizeLine/\gY l.length i ((List.replicate i true).map V.bl++[V.bl b]=(List.replicate (i+1) true).map V.bl/\upd j L (.lst ((List.replicate i true).map V.bl++[V.bl b])) L=some (.lst ((List.replicate i true).map V.bl++[V.bl b]))/\aB H (upd j L (.lst ((List.replicate i true).map V.bl++[V.bl b])))):=λb hb=>by
   subst hb;show⟨F,by rw[aa,cy];show aK o6,gY.mk Y ⟨wj i,aq,O.dF Z⟩⟩
  calc⟨_,rL,[c],[63],rL,rL,_,rL,?_⟩;rcases ht c (bo hi) with h|h
  .let⟨a1,a2⟩:=aam h;let h3:¬([c]=[63]):=λz=>by injection z with z;subst z;have:=h.1;lia
   rw[ah h3];show bQ ⟨_,rL,[97],[c],rL,rL,true,by rw[a1];rfl,cj (JA [c] [122] ⟨rL,rL,G _ (by rw[a2];rfl)⟩)⟩
  .subst h;rw[al rfl];show cj (G _ rL)
 .intro ys j z;let⟨rfl,F,O⟩:=z;calc JA L (List.replicate l.length true) ⟨rL,bB.of F,?_⟩;rw[yW];show q j O
inductive bT
 | lay (ts:List bR)|swap (l:List Nat)|pass
def iU:List Nat:=[108,97,121]
def gK:List Nat:=[115,119,97,112]
def eV:List Nat:=[112,97,115,115]
def bT.name:bT->List Nat
 | .lay _=>iU
 | .swap _=>gK
 | .pass=>eV
def jO (H:Hp)(p:Addr):bT->Prop
 | .lay ts=>∃t as,H p=some (.tup [.str (S iU),.ref t])/\H t=some (.tup (as.map V.ref))/\eE H as ts
 | .swap l=>H p=some (.tup [.str (S gK),.str (S l)])
 | .pass=>H p=some (.tup [.str (S eV)])
theorem jO.mv {H H':Hp}{p:Addr}(s:aB H H'):∀{d:bT},jO H p d->jO H' p d
 | .lay _,⟨t,as,h1,h2,h3⟩=>(JA t as ⟨s _ _ h1,s _ _ h2,h3.mv s⟩)
 | .swap _,h=>s _ _ h
 | .pass,h=>s _ _ h
def aay:Sp:=λvs H Q _=>∃(p:Addr) (d:bT),vs=[.ref p]/\jO H p d/\(∀l,d=.swap l->l≠[]/\l.length<=63/\∀c∈l,nU c)/\∀H',aB H H'->Q (.bl true) H'
open Classical in
def Yi (D:aM K mg "is_deed" w6 ["thing"])(Y:mg "isinstance"=none)(cI:mg "tuple"=none)(bh:mg "len"=none)(J:bV P w K mg base "are_tiles" 1 ["thing"] VL):bV P w K mg base "is_deed" 2 ["thing"] aay:=by
 calc D.cZ Xr (λf bG A outer s H vs Q E G h=>?_);let⟨p,d,rfl,hd,hs,q⟩:=h;calc⟨_,(aA (cB (eG (dJ (aV fQ pk Y cp (aj aG (aj (jV (v:=.ty "tuple") pk cI c_ rL) ao))))) (aF (bf iu)) bJ) (aA (cB (bM iH (aV bW pk bh ay (aj aG ao)) au (bF _)) (aF (bf (Ox (d7 ju (aX bw aG au (λ_ _=>rfl)) (bH [108,97,121] pS) (bF _)) (jw (jN (d7 ju (aX bw aG au (λ_ _=>rfl)) (bH [115,119,97,112] pS) (bF _)) (jw (bD J G.mono rL (aj (aX bw aG au (λ_ _=>rfl)) ao)))))))) bJ) (aF (bf (d7 (yQ G.units) aG (cO (aj (bH [112,97,115,115] pS) ao)) (bF _)))))),?_⟩;cases d with
 | lay ts=>let⟨t,as,h1,h2,h3⟩:=hd;calc⟨_,rL,_,_,_,true,rL,.tup h1,pE,true,rL,bQ ?_⟩;calc⟨_,rL,p,_,rL,.inr (aO.of h1),rL,true,pi,cj ?_⟩;calc⟨_,rL,p,_,_,.str (S iU),rL,rL,aO.of h1,aN (j:=0) rL,iU,iU,rL,rL,true,by rw[al rfl],cj ?_⟩;show q H (aB.refl _)
 | swap l=>have h1:H p=some (.tup [.str (S gK),.str (S l)]):=hd;let⟨O,g2,g3⟩:=hs l rfl;calc⟨_,rL,_,_,_,true,rL,.tup h1,pE,true,rL,bQ ?_⟩;calc⟨_,rL,p,_,rL,.inr (aO.of h1),rL,true,pi,cj ?_⟩;calc⟨_,rL,p,_,_,.str (S gK),rL,rL,aO.of h1,aN (j:=0) rL,gK,iU,rL,rL,false,by rw[ah pj],bQ ?_⟩;calc⟨_,rL,p,_,_,.str (S gK),rL,rL,aO.of h1,aN (j:=0) rL,gK,gK,rL,rL,true,by rw[al rfl],cj ?_⟩;show⟨_,rL,p,_,_,.str (S l),rL,rL,aO.of h1,aN (j:=1) rL,l,rL,O,g2,g3,q⟩
 | pass=>have h1:H p=some (.tup [.str (S eV)]):=hd;calc⟨_,rL,_,_,_,true,rL,.tup h1,pE,true,rL,bQ ?_⟩;calc⟨_,rL,p,_,rL,.inr (aO.of h1),rL,false,pi,bQ ?_⟩;calc⟨_,rL,zsz 1,λZ I=>?_⟩;let F:aB H (upd H Z (HO.tup [.str (S eV)])):=aB.upd I;calc JE 1 (.tup [.str eV]) (.tup [.str eV]) ⟨pj,.tup (aO.of (F _ _ h1)) (.cons (.str _ pj) .nil),.tup (aO.of aq) (.cons (.str _ pj) .nil),?_⟩;rw[al rfl];show q _ F
structure Std where
 r:Nat
 w:Nat
 aD:List (List Nat)
 aL:List (List Nat)
 bi:Nat
 bj:Nat
 racks:List (List Nat)
 bag:List Nat
 je:List Int
structure rC (K:W.Frag)(C:Addr):Prop where
 cl:Cls K C
 nb:iD K C "board"
 nr:iD K C "racks"
 ng:iD K C "bag"
 np:iD K C "points"
structure gb (C CS:Addr)(H:Hp)(p:Addr)(z:Std):Prop where
 ex:∃dx b pr pp,H p=some (.ins CS dx [("board",.ref b),("racks",.ref pr),("bag",.str (S z.bag)),("points",.ref pp)])/\cM C H b z.r z.w z.aD z.aL z.bi z.bj/\H pr=some (.tup (Ts z.racks))/\H pp=some (.tup (z.je.map V.int))
def gb.mv {C CS:Addr}{H H':Hp}{p:Addr}{z:Std}(A:gb C CS H p z)(s:aB H H'):gb C CS H' p z:=by let⟨dx,b,pr,pp,h1,h2,h3,h4⟩:=A.ex;show⟨dx,b,pr,pp,s _ _ h1,h2.mv s,s _ _ h3,s _ _ h4⟩
structure lC (z:Std):Prop where
 n1:1<=z.racks.length
 n4:z.racks.length<=4
 r7:∀l∈z.racks,l.length<=7/\∀c∈l,nU c
 b6:z.bag.length<=60
 bt:∀c∈z.bag,nU c
 pl:z.je.length=z.racks.length
def Ey (CS:Addr):Sp:=λvs H Q _=>∃(p dx b pr pp:Addr) (l:List Nat),vs=[.ref p,.ref b,.ref pr,.str (S l),.ref pp]/\H p=some (.ins CS dx [])/\
 ∀H',(∀b o,H b=some o->b≠p->H' b=some o)->H' p=some (.ins CS dx [("board",.ref b),("racks",.ref pr),("bag",.str (S l)),("points",.ref pp)])->Q .non H'
def Og {f C:Addr}{fd:FuncData}(F:dX K "__init__" "Stand.__init__" j7 f fd)(T:rC K C):bZ P w K mg base dz 1 f fd ["self","board","racks","bag","points"] (Ey C):=by
 calc F.cZ NP (λbG A outer s H vs Q E D h=>?_);let⟨p,dx,b,pr,pp,l,rfl,hp,q⟩:=h;calc⟨_,(aA (k_ aG aW rL) (aA (k_ aG bA rL) (aA (k_ aG bI rL) (aF (k_ aG cL rL))))),?_⟩;calc⟨_,rL,_,rL,p,C,dx,_,rL,hp,T.cl,T.nb,by show 0<1000;decide,?_⟩;calc⟨_,rL,_,rL,p,C,dx,_,rL,aq,T.cl,T.nr,by show 1<1000;decide,?_⟩;calc⟨_,rL,_,rL,p,C,dx,_,rL,aq,T.cl,T.ng,by show 2<1000;decide,?_⟩;calc⟨_,rL,_,rL,p,C,dx,_,rL,aq,T.cl,T.np,by show 3<1000;decide,?_⟩;calc q _ (λb o e j=>?_) ?_;.rw[aP j,aP j,aP j,aP j];show e
 .show aq
def C_ {C CS x dx:Addr}{H j:Hp}{z:Std}{b pr pp:Addr}(hx:H x=none)(hd:H dx=none)(F:∀a o,upd (upd H dx (.own x)) x (.ins CS dx []) a=some o->a≠x->j a=some o)(e:j x=some (.ins CS dx [("board",.ref b),("racks",.ref pr),("bag",.str (S z.bag)),("points",.ref pp)]))(hb:cM C H b z.r z.w z.aD z.aL z.bi z.bj)(D:H pr=some (.tup (Ts z.racks)))(hp:H pp=some (.tup (z.je.map V.int))):aB H j/\gb C CS j x z:=by let s:aB H j:=λa o h=>F a o (by rw[aP (aY h hx),aP (aY h hd)];show h) (aY h hx);show⟨s,dx,b,pr,pp,e,hb.mv s,s _ _ D,s _ _ hp⟩
def nY {l:List Nat}(b:Nat):gQ l none (some (b:Int))=l.take b:=by
 unfold gQ;rw[HT.kO,HT.rR];simp only[js,Nat.sub_zero];by_cases h:b<=l.length;.rw[fq h]
 .rw[ki o6,b9 (ai _),b9 o6]
def jT {l:List Nat}(b:Nat):gQ l (some (b:Int)) none=l.drop b:=by
 unfold gQ;rw[HT.kO,HT.rR];by_cases h:b<=l.length;.rw[fq h,b9 (by rw[bc];lia)]
 .rw[ki o6,gd,mT,gL o6]
def aja (n k:Nat):(if (0:Int) > (n:Int)-(k:Int) then (0:Int) else (n:Int)-k)=((n-k:Nat):Int):=by split <;> lia
noncomputable def K1 (z:Std)(turn size:Nat)(ts:List bR)(l:List Nat)(pt:Int):Std:={z with aD:=dO z.aD ts,racks:=z.racks.set turn (dG (dG l++z.bag.take (size-(dG l).length))),bag:=z.bag.drop (size-(dG l).length),je:=z.je.set turn (z.je.getD turn 0+pt)}
def jm (l:List Nat):(dG l).length=l.length:=(jM l).length_eq
def JK (ls:AB)(i:Nat)(l:List Nat):(Ts ls).set i (.str (S l))=Ts (ls.set i l):=by simp only[Ts,mE]
def Rt (ls:List Int)(i:Nat)(x:Int):(ls.map V.int).set i (.int x)=(ls.set i x).map V.int:=by rw[mE]
def aaz (C CS:Addr):Sp:=λvs H Q _=>∃(p t:Addr) (z:Std) (turn size:Nat) (pt:Int) (as:List Addr) (ts:List bR) (l:List Nat),vs=[.ref p,.int turn,.int size,.ref t,.int pt]/\gb C CS H p z/\lC z/\turn<z.racks.length/\size<=7/\H t=some (.tup (as.map V.ref))/\eE H as ts/\(∀t∈ts,inB z.r z.w t)/\ts.length<=7/\(∀t∈ts,sgN t.2.2)/\o9 (z.racks.getD turn []) (ts.map (·.2.2))=some l/\
 ∀j H',aB H H'->gb C CS H' j (K1 z turn size ts l pt)->Q (.ref j) H'
def G7 {C CS f0 f1:Addr}{dY dH:FuncData}(D:aM K mg "behind_laying" n6 ["stand","turn","size","laying","points"])(xQ:mg "max"=none)(bh:mg "len"=none)(cu:gA K C)(T:rC K CS)(wD:mg "Stand"=some (.ref CS))(zq:Mk K CS f0)(zu:bZ P w K mg base dz 1 f0 dY ["self","board","racks","bag","points"] (Ey CS))(zx:bN K dY ["self","board","racks","bag","points"] [])(j_:Meth K C "laid" f1)(kh:bZ P w K mg base dz 8 f1 dH ["self","laying"] (CK C))(kj:bN K dH ["self","laying"] [])(Oh:bV P w K mg base "left_behind" 4 ["rack","laying"] Rq)(oV:bV P w K mg base "in_order" 1 ["tiles"] O2)(uc:bV P w K mg base "exchanged" 1 ["things","place","thing"] Rn):bV P w K mg base "behind_laying" 10 ["stand","turn","size","laying","points"] (aaz C CS):=by
 calc D.cZ ji (λf bG A outer s H vs Q E J h=>?_);let⟨p,t,z,turn,size,pt,as,ts,l,rfl,A0,Z,F,hsz,ht,hL,dU,h7,hsg,JH,q⟩:=h;let⟨dx,b,pr,pp,hp,hb,O,Y⟩:=A0.ex;let hg:z.racks.getD turn []=z.racks[turn]:=by rw[ax,ac F];rfl
 rw[hg]at JH;let⟨k7,kt⟩:=Z.r7 _ (aI F);let hll:=zm JH;let hl7:(dG l).length<=7:=by rw[jm];lia
 let hb6:=Z.b6;let n4:=Z.n4;let hpl:=Z.pl;calc⟨_,(aA (aU (i:=5) ji.nd rL (Or.inl rL) (bD Oh J.mono rL (aj (aX bw (bO aG rL) aW (λ_ _=>rfl)) (aj bI ao)))) (aA (aU (i:=6) ji.nd rL (Or.inl rL) (aV (LQ rL) pk xQ PyProof.Rows.boot_max (aj (aJ nJ bA (aV cY pk bh ay (aj cT ao))) (aj au ao)))) (aA (aU (i:=7) ji.nd rL (Or.inl rL) (bD oV J.mono rL (aj (aJ mF cT (dh pA (bO aG rL) d8 (dD dW))) ao))) (aA (aU (i:=8) ji.nd rL (Or.inl rL) (bD uc J.mono rL (aj (bO aG rL) (aj aW (aj iw ao))))) (aA (aU (i:=9) ji.nd rL (Or.inl rL) (bD uc J.mono rL (aj (bO aG rL) (aj aW (aj (aJ cG (aX bw (bO aG rL) aW (λ_ _=>rfl)) cL) ao))))) (aF (bf (qu zq zu J.mono rL wD zx .nil dM (aj (mH (bO aG rL) cu.cl j_ kh J.mono kj .nil dM (aj bI ao)) (aj jq (aj (dh pA (bO aG rL) (dD dW) d8) (aj jP ao)))))))))))),?_⟩;calc⟨_,rL,p,CS,dx,_,_,rL,hp,T.cl,T.nr,rL,_,rL,pr,_,_,.str (S z.racks[turn]),rL,rL,aO.of O,aN (j:=turn) (nD (ac F)),_,rL,z.racks[turn],l,t,as,ts,rL,ht,hL,h7,o6,hsg,JH,λH1 s1=>?_⟩;calc⟨_,rL,_,rL,dG l,rL,ap (aK o6),_,_,rL,rL,_,_,rL,?_⟩;rw[aja];generalize hm:size-(dG l).length=m;calc⟨_,rL,_,rL,p,CS,dx,_,_,rL,s1 _ _ hp,T.cl,T.ng,rL,_,rL,_,rL,z.bag,rL,ap (aK o6),dG l,_,rL,rL,?_,dG l++z.bag.take m,?_,?_,λH2 s2=>?_⟩;.rw[nY,am];show ap (aK o6)
 .rw[nY];rfl
 .rw[av,am];lia
 let dZ:=s1.trans s2;calc⟨_,rL,p,CS,dx,_,_,rL,dZ _ _ hp,T.cl,T.nr,rL,_,rL,_,rL,pr,_,turn,_,rL,dZ _ _ O,(by rw[aa];show F),(by rw[aa];lia),λDc H3 s3 G8=>?_⟩;let eO:=dZ.trans s3;let G:turn<z.je.length:=o6;let Ru:z.je.getD turn 0=z.je[turn]:=by rw[ax,ac G];rfl
 calc⟨_,rL,p,CS,dx,_,_,rL,eO _ _ hp,T.cl,T.np,rL,_,rL,_,rL,p,CS,dx,_,_,rL,eO _ _ hp,T.cl,T.np,rL,_,rL,pp,_,_,.int z.je[turn],rL,rL,aO.of (eO _ _ Y),aN (j:=turn) (by rw[ck,ac G];rfl),_,rL,_,_,rL,rL,pp,_,turn,_,rL,eO _ _ Y,(by rw[aa];show G),(by rw[aa];lia),λJL H4 s4 yq=>?_⟩;let I:=eO.trans s4;let⟨bx,_,_,_,hbx,_⟩:=(hb.mv I).ex;calc⟨_,rL,p,CS,dx,_,_,rL,I _ _ hp,T.cl,T.nb,rL,b,bx,_,rL,hbx,rL,_,rL,b,t,as,ts,z.r,z.w,z.aD,z.aL,z.bi,z.bj,rL,hb.mv I,I _ _ ht,hL.mv I,dU,λb' H5 s5 hb'=>?_⟩;let zj:=I.trans s5;calc⟨_,rL,_,rL,p,CS,dx,_,_,rL,zj _ _ hp,T.cl,T.ng,rL,_,rL,_,rL,z.bag,rL,ap (aK o6),_,rL,λx ex n1 n2 n3=>?_⟩;rw[JK]at G8;rw[Rt]at yq;calc JO x ex b' Dc JL (z.bag.drop m) ⟨by rw[jT];rfl,aq,λH6 k6 e6=>⟨rL,?_⟩⟩;let⟨s6,A6⟩:=C_ (z:=K1 z turn size ts l pt) n1 n2 k6 (by unfold K1;simp only;rw[hm];show e6) hb' (by unfold K1;simp only;rw[hm];show s5 _ _ (s4 _ _ G8)) (by unfold K1;simp only;rw[Ru];show s5 _ _ yq);show q x H6 (zj.trans s6) A6
theorem Ng:∀{cs ds l:List Nat},cs.map ou=ds.map ou->o9 l cs=o9 l ds
 | [],[],_,_=>rfl
 | [],_::_,_,h=>by simp at h
 | _::_,[],_,h=>by simp at h
 | c::cs,d::ds,l,h=>by
  rw[cv,cv]at h;injection h with h1 h2;unfold o9;rw[show gJ c=gJ d from h1];split;.show Ng h2
  .rfl
def agZ {c d:Nat}(h:ou c=ou d)(hd:d<128):c<128:=by unfold ou at h;split at h <;> split at h <;> lia
theorem aaA:∀{cs ds:List Nat},cs.map ou=ds.map ou->(∀d∈ds,d<128)->∀c∈cs,c<128
 | [],_,_,_,c,hc=>by cases hc
 | a::cs,[],h,_,_,_=>by simp at h
 | a::cs,d::ds,h,hd,c,hc=>by
  rw[cv,cv]at h;injection h with h1 h2;rcases bX.mp hc with e|e;.subst e;show agZ h1 (hd d cf)
  .show aaA h2 (λx hx=>hd x (bE _ hx)) c e
noncomputable def O4 (z:Std)(turn:Nat)(l m:List Nat):Std:={z with racks:=z.racks.set turn (dG (dG m++z.bag.take l.length)),bag:=z.bag.drop l.length++dG l}
def VN (C CS:Addr):Sp:=λvs H Q _=>∃(p:Addr) (z:Std) (turn:Nat) (l m:List Nat),vs=[.ref p,.int turn,.str (S l)]/\gb C CS H p z/\lC z/\turn<z.racks.length/\l.length<=7/\(∀c∈l,nU c)/\o9 (z.racks.getD turn []) l=some m/\l.length<=z.bag.length/\
 ∀j H',aB H H'->gb C CS H' j (O4 z turn l m)->Q (.ref j) H'
def K4 {C CS CL f0:Addr}{dY:FuncData}(D:aM K mg "behind_swap" qe ["stand","turn","tiles"])(bh:mg "len"=none)(aeA:∃t,t≠0/\mg "BLANK"=some (.str (S [63]) t))(T:rC K CS)(wD:mg "Stand"=some (.ref CS))(zq:Mk K CS f0)(zu:bZ P w K mg base dz 1 f0 dY ["self","board","racks","bag","points"] (Ey CS))(zx:bN K dY ["self","board","racks","bag","points"] [])(uw:DefX P w K mg base "left_of" 3 ["rack","signs"] (Jy CL))(oV:bV P w K mg base "in_order" 1 ["tiles"] O2)(uc:bV P w K mg base "exchanged" 1 ["things","place","thing"] Rn):bV P w K mg base "behind_swap" 10 ["stand","turn","tiles"] (VN C CS):=by
 calc D.cZ mL (λf bG A outer s H vs Q E I h=>?_);let⟨p,z,turn,l,m,rfl,A0,Z,F,hl7,hlt,JH,Qx,q⟩:=h;let⟨dx,b,pr,pp,hp,hb,G,hpp⟩:=A0.ex;let hg:z.racks.getD turn []=z.racks[turn]:=by rw[ax,ac F];rfl
 rw[hg]at JH;let⟨k7,kt⟩:=Z.r7 _ (aI F);let hll:=zm JH;let hl7':(dG m).length<=7:=by rw[jm];lia
 let hb6:=Z.b6;let n4:=Z.n4;calc⟨_,(aA (aU (i:=3) mL.nd rL (Or.inl rL) (nW uw I.mono rL (Yh (S:=λ_=>True)) (agH 2 (agG bw (aeh aG rL) aW (λ_ _=>rfl)) aeA rL (Or.inl rL) pk pS rL rL rL))) (aA (aU (i:=4) mL.nd rL (Or.inl rL) (aV cY pk bh ay (aj bA ao))) (aA (cB (bM uT (aV cY pk bh ay (aj (bO aG rL) ao)) cL (bF _)) qp bJ) (aA (aU (i:=5) mL.nd rL (Or.inl rL) (bD oV I.mono rL (aj (aJ mF bI (dh pA (bO aG rL) d8 (dD cL))) ao))) (aA (aU (i:=6) mL.nd rL (Or.inl rL) (aJ mF (dh pA (bO aG rL) (dD cL) d8) (bD oV I.mono rL (aj bA ao)))) (aF (bf (qu zq zu I.mono rL wD zx .nil dM (aj (bO aG rL) (aj (bD uc I.mono rL (aj (bO aG rL) (aj aW (aj cT ao)))) (aj dW (aj (bO aG rL) ao)))))))))))),?_⟩;calc⟨True.intro,_,rL,p,CS,dx,_,_,rL,hp,T.cl,T.nr,rL,_,rL,pr,_,_,.str (S z.racks[turn]),rL,rL,aO.of G,aN (j:=turn) (nD (ac F)),l,rL,o6,λl' el=>?_⟩;let cW:l'.length=l.length:=by have:=congrArg List.length el;simpa using this
 let J:=Rp (Ng el ▸ JH:o9 z.racks[turn] l'=some m);calc JA (z.racks[turn]) l' ⟨rL,o6,o6,aaA el (λd hd=>(hlt d hd).lt),(λt e=>?_),(λleft e ws H1 s1 pm pw=>?_)⟩;.rw[J]at e;cases e
 rw[J]at e;cases e;rw[wC pm pw];calc⟨_,rL,l,rL,ap (aK o6),?_⟩;calc⟨_,rL,p,CS,dx,_,_,rL,s1 _ _ hp,T.cl,T.ng,rL,z.bag,rL,ap (aK o6),_,rL,_,_,rL,rL,false,(by simp;lia),bQ ?_⟩;calc⟨_,rL,_,rL,p,CS,dx,_,_,rL,s1 _ _ hp,T.cl,T.ng,rL,_,rL,_,rL,z.bag,rL,ap (aK o6),dG m,_,rL,rL,?_,dG m++z.bag.take l.length,?_,?_,λH2 s2=>?_⟩;.rw[nY,am];show ap (aK o6)
 .rw[nY];rfl
 .rw[av,am];lia
 let dZ:=s1.trans s2;calc⟨_,rL,p,CS,dx,_,_,rL,dZ _ _ hp,T.cl,T.ng,rL,_,rL,_,rL,z.bag,rL,ap (aK o6),_,rL,l,rL,o6,λH3 s3=>(JA _ (dG l) ⟨rL,rL,?_,?_⟩)⟩;.rw[jT,bc,jm];show ap (aK o6)
 let Y:=dZ.trans s3;calc⟨_,rL,p,CS,dx,_,_,rL,Y _ _ hp,T.cl,T.nb,rL,_,rL,p,CS,dx,_,_,rL,Y _ _ hp,T.cl,T.nr,rL,_,rL,_,rL,pr,_,turn,_,rL,Y _ _ G,(by rw[aa];show F),(by rw[aa];lia),λDc H4 s4 G8=>?_⟩;let O:=Y.trans s4;calc⟨_,rL,_,rL,p,CS,dx,_,_,rL,O _ _ hp,T.cl,T.np,rL,λx ex n1 n2 n3=>?_⟩;rw[JK]at G8;calc JO x ex b Dc pp (z.bag.drop l.length++dG l) ⟨by rw[jT];rfl,aq,λH6 k6 e6=>⟨rL,?_⟩⟩;let⟨s6,A6⟩:=C_ (z:=O4 z turn l m) n1 n2 k6 e6 (hb.mv O) G8 (O _ _ hpp);show q x H6 (O.trans s6) A6
structure Gm where
 sts:List Std
 done:List (List Nat)
 ws:List (List Nat)
 kvs:List (Key×V)
 bn:Int
 bm:Int
 size:Nat
structure oW (K:W.Frag)(C:Addr):Prop where
 cl:Cls K C
 nk:iD K C "book"
 nw:iD K C "worths"
 nn:iD K C "bonus"
 nz:iD K C "size"
 ns:iD K C "stands"
 nd:iD K C "done"
structure zy (C CS:Addr)(H:Hp)(as:List Addr)(zs:List Std):Prop where
 len:as.length=zs.length
 at_:∀(i:Nat) (a:Addr) (z:Std),as[i]?=some a->zs[i]?=some z->gb C CS H a z
def zy.mv {C CS:Addr}{H H':Hp}{as:List Addr}{zs:List Std}(h:zy C CS H as zs)(s:aB H H'):zy C CS H' as zs:=⟨h.len,λi a z h1 h2=>(h.at_ i a z h1 h2).mv s⟩
def zy.last {C CS:Addr}{H:Hp}{as:List Addr}{zs:List Std}{z:Std}(h:zy C CS H as (zs++[z])):∃bs a,as=bs++[a]/\gb C CS H a z:=by
 let hl:=h.len;rw[av]at hl;let j:as≠[]:=λe=>by subst e;simp at hl
 calc JA as.dropLast (as.getLast j) ⟨(gv j).symm,h.at_ zs.length _ z ?_ pi⟩;rw[List.getLast_eq_getElem,ac (by simp at hl;lia)];congr 1;simp at hl;simp[hl]
structure fG (C CS CB CG:Addr)(H:Hp)(g ps pd:Addr)(G:Gm):Prop where
 ex:∃dx k kd d pb,H g=some (.ins CG dx [("book",.ref k),("worths",.ref d),("bonus",.ref pb),("size",.int G.size),("stands",.ref ps),("done",.ref pd)])/\gO CB H k kd G.ws/\H d=some (.dK G.kvs)/\H pb=some (.tup [.int G.bn,.int G.bm])
 st:∃as,H ps=some (.lst (as.map V.ref))/\zy C CS H as G.sts
 dn:H pd=some (.lst (Ts G.done))
def fG.mv {C CS CB CG:Addr}{H H':Hp}{g ps pd:Addr}{G:Gm}(A:fG C CS CB CG H g ps pd G)(s:aB H H'):fG C CS CB CG H' g ps pd G:=by obtain⟨⟨dx,k,kd,d,pb,h1,h2,h3,h4⟩,⟨as,h5,j⟩,h7⟩:=A;show⟨(JJ dx k kd d pb ⟨s _ _ h1,h2.mv s,s _ _ h3,s _ _ h4⟩),⟨as,s _ _ h5,j.mv s⟩,s _ _ h7⟩
def lX {bs:List Addr}{a:Addr}:rK ((bs++[a]).map V.ref) (-1)=some (.ref a):=by rw[bv];show Gq _ _
def rD (C CS CB CG:Addr)(R:Hp->Std->VK->Prop):Sp:=λvs H Q _=>∃(g ps pd:Addr) (G:Gm) (zs:List Std) (z:Std),vs=[.ref g]/\fG C CS CB CG H g ps pd G/\G.sts=zs++[z]/\R H z Q
def aaB (C:Addr)(H:Hp)(z:Std)(Q:VK):Prop:=∀b,cM C H b z.r z.w z.aD z.aL z.bi z.bj->Q (.ref b) H
def JM (H:Hp)(z:Std)(Q:VK):Prop:=∀p,H p=some (.tup (Ts z.racks))->Q (.ref p) H
def acd (H:Hp)(z:Std)(Q:VK):Prop:=Q (.str (S z.bag)) H
def ag0 (H:Hp)(z:Std)(Q:VK):Prop:=∀p,H p=some (.tup (z.je.map V.int))->Q (.ref p) H
def Rv {C CS CB CG f:Addr}{fd:FuncData}(F:dX K "board_now" "Game.board_now" iz f fd)(T:oW K CG)(TS:rC K CS):bZ P w K mg base dz 1 f fd ["self"] (rD C CS CB CG (aaB C)):=by calc F.cZ Fp (λbG A outer s H vs Q E O h=>?_);let⟨g,ps,pd,G,zs,z,rfl,D,hz,q⟩:=h;obtain⟨⟨dx,k,kd,d,pb,h1,h2,h3,h4⟩,⟨as,h5,j⟩,h7⟩:=D;rw[hz]at j;let⟨bs,a,rfl,J⟩:=j.last;let⟨I,b,pr,pp,e1,e2,e3,e4⟩:=J.ex;calc⟨_,(aF (bf (bO (aX fH (bO aG rL) (mY jX au) (λ_ _=>rfl)) rL))),?_⟩;show⟨_,rL,g,CG,dx,_,_,rL,h1,T.cl,T.ns,rL,_,rL,ps,_,_,.ref a,rL,rL,bB.of h5,lX,a,CS,I,_,_,rL,e1,TS.cl,TS.nb,rL,q b e2⟩
def Rw {C CS CB CG f:Addr}{fd:FuncData}(F:dX K "racks_now" "Game.racks_now" iB f fd)(T:oW K CG)(TS:rC K CS):bZ P w K mg base dz 1 f fd ["self"] (rD C CS CB CG JM):=by calc F.cZ Fq (λbG A outer s H vs Q E O h=>?_);let⟨g,ps,pd,G,zs,z,rfl,D,hz,q⟩:=h;obtain⟨⟨dx,k,kd,d,pb,h1,h2,h3,h4⟩,⟨as,h5,j⟩,h7⟩:=D;rw[hz]at j;let⟨bs,a,rfl,J⟩:=j.last;let⟨I,b,pr,pp,e1,e2,e3,e4⟩:=J.ex;calc⟨_,(aF (bf (bO (aX fH (bO aG rL) (mY jX au) (λ_ _=>rfl)) rL))),?_⟩;show⟨_,rL,g,CG,dx,_,_,rL,h1,T.cl,T.ns,rL,_,rL,ps,_,_,.ref a,rL,rL,bB.of h5,lX,a,CS,I,_,_,rL,e1,TS.cl,TS.nr,rL,q pr e3⟩
def Yj {C CS CB CG f:Addr}{fd:FuncData}(F:dX K "bag_now" "Game.bag_now" jj f fd)(T:oW K CG)(TS:rC K CS):bZ P w K mg base dz 1 f fd ["self"] (rD C CS CB CG acd):=by calc F.cZ Je (λbG A outer s H vs Q E O h=>?_);let⟨g,ps,pd,G,zs,z,rfl,D,hz,q⟩:=h;obtain⟨⟨dx,k,kd,d,pb,h1,h2,h3,h4⟩,⟨as,h5,j⟩,h7⟩:=D;rw[hz]at j;let⟨bs,a,rfl,J⟩:=j.last;let⟨I,b,pr,pp,e1,e2,e3,e4⟩:=J.ex;calc⟨_,(aF (bf (bO (aX fH (bO aG rL) (mY jX au) (λ_ _=>rfl)) rL))),?_⟩;show⟨_,rL,g,CG,dx,_,_,rL,h1,T.cl,T.ns,rL,_,rL,ps,_,_,.ref a,rL,rL,bB.of h5,lX,a,CS,I,_,_,rL,e1,TS.cl,TS.ng,rL,q⟩
def Oi {C CS CB CG f:Addr}{fd:FuncData}(F:dX K "points_now" "Game.points_now" gR f fd)(T:oW K CG)(TS:rC K CS):bZ P w K mg base dz 1 f fd ["self"] (rD C CS CB CG ag0):=by calc F.cZ Cv (λbG A outer s H vs Q E O h=>?_);let⟨g,ps,pd,G,zs,z,rfl,D,hz,q⟩:=h;obtain⟨⟨dx,k,kd,d,pb,h1,h2,h3,h4⟩,⟨as,h5,j⟩,h7⟩:=D;rw[hz]at j;let⟨bs,a,rfl,J⟩:=j.last;let⟨I,b,pr,pp,e1,e2,e3,e4⟩:=J.ex;calc⟨_,(aF (bf (bO (aX fH (bO aG rL) (mY jX au) (λ_ _=>rfl)) rL))),?_⟩;show⟨_,rL,g,CG,dx,_,_,rL,h1,T.cl,T.ns,rL,_,rL,ps,_,_,.ref a,rL,rL,bB.of h5,lX,a,CS,I,_,_,rL,e1,TS.cl,TS.np,rL,q pp e4⟩
theorem dB.rE {H:Hp}:∀{ls:AB},(∀l∈ls,∀c∈l,c<128)->dB K H 1 (ls.map Dt.str) (Ts ls)
 | [],_=>.nil
 | l::ls,h=>.cons (.str l (h l cf)) (dB.rE λD j=>h D (bE _ j))
def K5 (C CS CB CG:Addr):Sp:=λvs H Q _=>∃(g ps pd:Addr) (G:Gm) (zs:List Std) (z:Std),vs=[.ref g]/\fG C CS CB CG H g ps pd G/\G.sts=zs++[z]/\lC z/\Q (.int ((G.done.length%z.racks.length:Nat):Int)) H
def aeB {C CS CB CG f f1:Addr}{fd dH:FuncData}(F:dX K "turn" "Game.turn" lQ f fd)(D:oW K CG)(I:mg "len"=none)(J:Meth K CG "racks_now" f1)(kI:bZ P w K mg base dz 1 f1 dH ["self"] (rD C CS CB CG JM))(Y:bN K dH ["self"] []):bZ P w K mg base dz 2 f fd ["self"] (K5 C CS CB CG):=by
 calc F.cZ Qn (λbG A outer s H vs Q E O h=>?_);let⟨g,ps,pd,G,zs,z,rfl,j,hz,Z,q⟩:=h;let⟨dx,k,kd,d,pb,h1,h2,h3,h4⟩:=j.ex;let h7:=j.dn;let n1:=Z.n1;calc⟨_,(aF (bf (aJ bY (aV bW pk I ay (aj (bO aG rL) ao)) (aV bW pk I ay (aj (fV aG D.cl J kI O.mono Y .nil dM) ao))))),?_⟩;refine⟨_,rL,g,CG,dx,_,_,rL,h1,D.cl,D.nd,rL,pd,_,rL,.inl (bB.of h7),_,rL,g,dx,_,rL,h1,rL,g,ps,pd,G,zs,z,rL,j,hz,λp hp=>(JA p _ ⟨rL,.inr (aO.of hp),_,_,rL,rL,?_,?_⟩)⟩
 .show (0:Int)<_;rw[aa];lia
 .rw[aa,aa];have:((G.done.length:Int)%(z.racks.length:Int))=((G.done.length%z.racks.length:Nat):Int):=by lia
  show Q (.int ((G.done.length:Int)%(z.racks.length:Int))) H;rw[this];show q
def uP (ps pd:Addr)(H H':Hp):Prop:=∀a o,H a=some o->a≠ps->a≠pd->H' a=some o
def jf {H:Hp}{a p:Addr}{xs:List V}{o:HO}(h:H p=some (.lst xs))(h':H a=some o)(d:∀ys,o≠.lst ys):a≠p:=λe=>by subst e;rw[h]at h';show d xs (bp h').symm
def cM.k2 {C:Addr}{H H':Hp}{p ps pd:Addr}{xs ys:List V}{r w:Nat}{aD aL:AB}{i j:Nat}(B:cM C H p r w aD aL i j)(s:uP ps pd H H')(h1:H ps=some (.lst xs))(h2:H pd=some (.lst ys)):cM C H' p r w aD aL i j:=by obtain⟨⟨dx,pr,pm,pb,a,b,c,d⟩,o⟩:=B;let k:∀a o,H a=some o->(∀ys,o≠HO.lst ys)->H' a=some o:=λa o h n=>s a o h (jf h1 h n) (jf h2 h n);show⟨(JI dx pr pm pb ⟨k _ _ a (λ_ z=>nomatch z),k _ _ b (λ_ z=>nomatch z),k _ _ c (λ_ z=>nomatch z),k _ _ d (λ_ z=>nomatch z)⟩),o⟩
def gb.k2 {C CS:Addr}{H H':Hp}{p ps pd:Addr}{xs ys:List V}{z:Std}(A:gb C CS H p z)(s:uP ps pd H H')(h1:H ps=some (.lst xs))(h2:H pd=some (.lst ys)):gb C CS H' p z:=by let⟨dx,b,pr,pp,a1,a2,a3,a4⟩:=A.ex;let k:∀a o,H a=some o->(∀ys,o≠HO.lst ys)->H' a=some o:=λa o h n=>s a o h (jf h1 h n) (jf h2 h n);show⟨dx,b,pr,pp,k _ _ a1 (λ_ z=>nomatch z),a2.k2 s h1 h2,k _ _ a3 (λ_ z=>nomatch z),k _ _ a4 (λ_ z=>nomatch z)⟩
def gO.k2 {C:Addr}{H H':Hp}{p d ps pd:Addr}{xs ys:List V}{ws:AB}(B:gO C H p d ws)(s:uP ps pd H H')(h1:H ps=some (.lst xs))(h2:H pd=some (.lst ys)):gO C H' p d ws:=by let k:∀a o,H a=some o->(∀ys,o≠HO.lst ys)->H' a=some o:=λa o h n=>s a o h (jf h1 h n) (jf h2 h n);show⟨let ⟨dx,e⟩:=B.ob;⟨dx,k _ _ e (λ_ z=>nomatch z)⟩,k _ _ B.dc (λ_ z=>nomatch z),B.nd,B.az⟩
def fG.put {C CS CB CG:Addr}{H H':Hp}{g ps pd:Addr}{G:Gm}{zs:List Std}{dn:AB}{as:List Addr}(A:fG C CS CB CG H g ps pd G)(s:uP ps pd H H')(h1:H' ps=some (.lst (as.map V.ref)))(hs:zy C CS H' as zs)(h2:H' pd=some (.lst (Ts dn))):fG C CS CB CG H' g ps pd {G with sts:=zs,done:=dn}:=by obtain⟨⟨dx,k,kd,d,pb,a1,a2,a3,a4⟩,⟨bs,a5,_⟩,a7⟩:=A;let j:∀a o,H a=some o->(∀ys,o≠HO.lst ys)->H' a=some o:=λa o h n=>s a o h (jf a5 h n) (jf a7 h n);show⟨(JJ dx k kd d pb ⟨j _ _ a1 (λ_ z=>nomatch z),a2.k2 s a5 a7,j _ _ a3 (λ_ z=>nomatch z),j _ _ a4 (λ_ z=>nomatch z)⟩),⟨as,h1,hs⟩,h2⟩
def VP {as:List Addr}{ls:AB}(h:ls≠[]):as.map V.ref≠Ts ls:=λe=>by
 cases ls with
 | nil=>show h rfl
 | cons l ls=>
  cases as with
  | nil=>cases e
  | cons a as=>cases e
def aaC (C CS CB CG:Addr):Sp:=λvs H Q _=>∃(g ps pd:Addr) (G:Gm) (zs:List Std) (z:Std) (dn:AB) (d:List Nat),vs=[.ref g]/\fG C CS CB CG H g ps pd G/\G.sts=zs++[z]/\G.done=dn++[d]/\(∀l∈G.done,∀c∈l,c<128)/\G.done.length<=500/\
 ∀H',uP ps pd H H'->fG C CS CB CG H' g ps pd {G with sts:=zs,done:=dn}->Q .non H'
open Classical in
def aeC {C CS CB CG f:Addr}{fd:FuncData}(F:dX K "back" "Game.back" lO f fd)(T:oW K CG):bZ P w K mg base dz 1 f fd ["self"] (aaC C CS CB CG):=by
 calc F.cZ Qm (λbG A outer s H vs Q E hr h=>?_);let⟨g,ps,pd,G,zs,z,dn,d,rfl,Y,hz,hd,I,h5,q⟩:=h;let⟨dx,k,kd,dd,pb,h1,h2,h3,h4⟩:=Y.ex;let⟨as,j,h6⟩:=Y.st;let h7:=Y.dn;let O:G.done≠[]:=by rw[hd];simp
 rw[hz]at h6;let⟨bs,a,rfl,SA⟩:=h6.last;let J:ps≠pd:=wM j h7 λe=>VP O (by injection e);calc⟨_,(aA (cB (bM (yQ hr.units) (bO aG rL) (h_ ao) (bF _)) qp bJ) (aA (cR (qJ bu ke kf Ij (bO aG rL))) (aF (cR (qJ bu ke kf Ij (bO aG rL)))))),?_⟩;calc⟨_,rL,g,CG,dx,_,_,rL,h1,T.cl,T.nd,rL,zsz 0,λZ hZ=>?_⟩;let D:aB H (upd H Z (HO.lst [])):=aB.upd hZ;let eZ:upd H Z (HO.lst []) Z=some (.lst []):=aq;generalize upd H Z (HO.lst [])=H1 at D eZ ⊢;calc JE 2 (.lst (G.done.map Dt.str)) (.lst []) ⟨pj,.lst (bB.of (D _ _ h7)) (dB.rE I),.lst (bB.of eZ) .nil,_,rL,?_⟩;rw[ah (λe=>by injection e with e;show O (List.map_eq_nil_iff.mp e))];calc bQ ?_;refine⟨_,rL,g,CG,dx,_,_,rL,D _ _ h1,T.cl,T.ns,rL,.inl ⟨rL,_,bB.of (D _ _ j)⟩,ps,_,.ref a,rL,rL,D _ _ j,?_,?_⟩
 .simp
 let Ru:g≠ps:=jf j h1 (λ_ z=>nomatch z);let e1:=D _ _ h1;rw[<-aP (H:=H1) (o:=.lst ((bs++[a]).map V.ref).dropLast) Ru]at e1;let e7:=D _ _ h7;rw[<-aP (H:=H1) (o:=.lst ((bs++[a]).map V.ref).dropLast) J.symm]at e7;calc⟨_,rL,g,CG,dx,_,_,rL,e1,T.cl,T.nd,rL,.inl ⟨rL,_,bB.of e7⟩,pd,_,.str (S d),rL,rL,e7,?_,?_⟩;.rw[hd];simp[Ts]
 let kk:uP ps pd H (upd (upd H1 ps (.lst ((bs++[a]).map V.ref).dropLast)) pd (.lst (Ts G.done).dropLast)):=λb o e n1 n2=>by rw[aP n2,aP n1];show D _ _ e
 calc q _ kk (Y.put kk (as:=bs) ?_ ⟨?_,λi b y e1 e2=>?_⟩ ?_);.rw[aP J,aq];simp
 .have:=h6.len;simpa using this
 .calc(h6.at_ i b y ?_ ?_).k2 kk j h7;.rw[a9 (ag.mp e1).1];show e1
  .rw[a9 (ag.mp e2).1];show e2
 .rw[aq,hd];simp[Ts]
def xR (G:Gm)(z:Std):Nat:=(((G.done.length:Int)-1)%(z.racks.length:Int)).toNat
noncomputable def iV (G:Gm)(z:Std):Bool:=decide (G.done.drop (G.done.length-2*z.racks.length)=List.replicate (2*z.racks.length) eV)||(decide (G.done.drop (G.done.length-1)=[iU])&&(decide (z.bag=[])&&decide (z.racks.getD (xR G z) []=[])))
def Rx {xs:List V}{k:Nat}(j:1<=k):gH xs (some (-(k:Int))) none=xs.drop (xs.length-k):=by
 let e:HT.cV xs.length 0 (some (-(k:Int)))=xs.length-k:=by show (if -(k:Int)<0 then (-(k:Int)+(xs.length:Int)).toNat else _)=_;rw[if_pos o6];lia
 unfold gH;rw[e,HT.rR,b9 (by rw[bc];lia)]
def VR (ls:AB)(n:Nat):(Ts ls).drop n=Ts (ls.drop n):=by simp only[Ts,nV]
def str_inj {as bs:AB}:Dt.lst (as.map Dt.str)=Dt.lst (bs.map Dt.str)↔as=bs:=by
 constructor
 .intro h;injection h with h;show(List.map_inj_right (λa b e=>by injection e)).mp h
 .rintro rfl;rfl
def Ez {p q:Prop} [Decidable p] [Decidable q] (h:p↔q):decide p=decide q:=by
 by_cases hp:p;.rw[al hp,al (h.mp hp)]
 .rw[ah hp,ah λz=>hp (h.mpr z)]
def Ry (C CS CB CG:Addr):Sp:=λvs H Q _=>∃(g ps pd:Addr) (G:Gm) (zs:List Std) (z:Std),vs=[.ref g]/\fG C CS CB CG H g ps pd G/\G.sts=zs++[z]/\lC z/\(∀l∈G.done,∀c∈l,c<128)/\G.done.length<=500/\∀H',aB H H'->Q (.bl (iV G z)) H'
open Classical in
def Yk {C CS CB CG f f1 f2:Addr}{fd dH fd2:FuncData}(F:dX K "is_over" "Game.is_over" jk f fd)(J:oW K CG)(bh:mg "len"=none)(kE:Meth K CG "racks_now" f1)(kI:bZ P w K mg base dz 1 f1 dH ["self"] (rD C CS CB CG JM))(kJ:bN K dH ["self"] [])(sW:Meth K CG "bag_now" f2)(sX:bZ P w K mg base dz 1 f2 fd2 ["self"] (rD C CS CB CG acd))(sY:bN K fd2 ["self"] []):bZ P w K mg base dz 4 f fd ["self"] (Ry C CS CB CG):=by
 calc F.cZ n8 (λbG A outer s H vs Q E hr h=>?_);let⟨g,ps,pd,G,zs,z,rfl,A0,hz,Z,I,h5,q⟩:=h;let⟨dx,k,kd,d,pb,h1,h2,h3,h4⟩:=A0.ex;let h7:=A0.dn;let n1:=Z.n1;let n4:=Z.n4;calc⟨_,(aA (aU (i:=1) n8.nd rL (Or.inl rL) (fV aG J.cl kE kI hr.mono kJ .nil dM)) (aA (aU (i:=2) n8.nd rL (Or.inl rL) (aJ iK au (aV bW pk bh ay (aj aW ao)))) (aA (cB (bM (yQ hr.units) (dh vD (bO aG rL) (dD (mY jX bA)) d8) (aJ Zi (h_ (aj (bH [112,97,115,115] pS) ao)) bA) (bF _)) (aF (bf iu)) bJ) (aA (aU (i:=3) n8.nd rL (Or.inl rL) (aJ bY (aJ nJ (aV bW pk bh ay (aj (bO aG rL) ao)) au) (aV bW pk bh ay (aj aW ao)))) (aF (bf (jN (d7 (yQ hr.units) (dh vD (bO aG rL) (dD (mY jX au)) d8) (h_ (aj (bH [108,97,121] pS) ao)) (bF _)) (jN (d7 ju (fV aG J.cl sW sX hr.mono sY .nil dM) (bH [] pS) (bF _)) (jw (d7 ju (aX bw aW bI (λ_ _=>rfl)) (bH [] pS) (bF _))))))))))),?_⟩;calc⟨_,rL,g,dx,_,rL,h1,rL,g,ps,pd,G,zs,z,rL,A0,hz,λpr Y=>?_⟩;refine⟨_,rL,pr,_,rL,.inr (aO.of Y),_,_,rL,rL,?_,?_⟩
 .show WR _ _;rw[aa];show .inl ⟨pj,pj⟩
 rw[aa];let em:(λi j:Int=>V.int (i*j)) 2 (z.racks.length:Int)=V.int ((2*z.racks.length:Nat):Int):=by show V.int _=V.int _;congr 1
 rw[em];generalize hk:2*z.racks.length=k2;calc⟨_,rL,g,CG,dx,_,_,rL,h1,J.cl,J.nd,rL,_,rL,_,rL,_,rL,pd,_,rL,bB.of h7,λp1 e1=>?_⟩;rw[Rx o6,VR,aa];let sx1:aB H (upd H p1 (.lst (Ts (G.done.drop (G.done.length-k2))))):=aB.upd e1;let Vn:upd H p1 (.lst (Ts (G.done.drop (G.done.length-k2)))) p1=some (.lst (Ts (G.done.drop (G.done.length-k2)))):=aq;generalize upd H p1 (.lst (Ts (G.done.drop (G.done.length-k2))))=H1 at sx1 Vn ⊢;calc⟨zsz 1,λp2 e2=>?_⟩;let sx2:aB H1 (upd H1 p2 (HO.lst [V.str (S [112,97,115,115])])):=aB.upd e2;let ex2:upd H1 p2 (HO.lst [V.str (S [112,97,115,115])]) p2=some (.lst (Ts [eV])):=aq;generalize upd H1 p2 (HO.lst [V.str (S [112,97,115,115])])=H2 at sx2 ex2 ⊢;refine⟨_,rL,p2,(k2:Int),Ts [eV],rL,rL,ex2,o6,o6,?_,λp3 e3=>?_⟩
 .show 1*_<=sizeLine;show ap (aK (by simp;lia))
 let er:(List.replicate (k2:Int).toNat (Ts [eV])).flatten=Ts (List.replicate k2 eV):=by rw[dP];simp[Ts]
 let ajb:=sx2 _ _ Vn;let dZ:=sx1.trans sx2;rw[er];let sx3:aB H2 (upd H2 p3 (.lst (Ts (List.replicate k2 eV)))):=aB.upd e3;let ex3:upd H2 p3 (.lst (Ts (List.replicate k2 eV))) p3=some (.lst (Ts (List.replicate k2 eV))):=aq;let adw:=sx3 _ _ ajb;let eO:=dZ.trans sx3;generalize upd H2 p3 (.lst (Ts (List.replicate k2 eV)))=H3 at sx3 ex3 adw eO ⊢;calc JE 2 (.lst ((G.done.drop (G.done.length-k2)).map Dt.str)) (.lst ((List.replicate k2 eV).map Dt.str)) ⟨pj,.lst (bB.of adw) (dB.rE λl hl=>I l (ed hl)),.lst (bB.of ex3) (dB.rE λl hl=>?_),_,rL,?_⟩;.rw[List.eq_of_mem_replicate hl];decide
 rw[Ez str_inj];by_cases hp:G.done.drop (G.done.length-k2)=List.replicate k2 eV
 .rw[al hp];calc cj ?_;have:=q H3 eO;unfold iV at this;rw[hk,al hp,Bool.true_or]at this;show this
 .rw[ah hp];calc bQ ?_;let h13:=eO _ _ h1;let h73:=eO _ _ h7;let Rz:=eO _ _ Y;refine⟨_,rL,g,CG,dx,_,_,rL,h13,J.cl,J.nd,rL,pd,_,rL,.inl (bB.of h73),_,_,rL,rL,_,rL,pr,_,rL,.inr (aO.of Rz),_,_,rL,rL,?_,?_⟩
  .show (0:Int)<_;rw[aa];lia
  rw[aa,aa];let el:(λi j:Int=>V.int (i%j)) ((G.done.length:Int)-1) (z.racks.length:Int)=V.int ((xR G z:Nat):Int):=by show V.int _=V.int _;congr 1;unfold xR;have:=du ((G.done.length:Int)-1) (b:=(z.racks.length:Int)) o6;lia
  let ll:xR G z<z.racks.length:=by unfold xR;have:=du ((G.done.length:Int)-1) (b:=(z.racks.length:Int)) o6;have:=dC ((G.done.length:Int)-1) (b:=(z.racks.length:Int)) o6;lia
  rw[el];calc⟨_,rL,g,CG,dx,_,_,rL,h13,J.cl,J.nd,rL,_,rL,_,rL,pd,_,rL,bB.of h73,λp4 e4=>?_⟩;rw[show (-1:Int)=-((1:Nat):Int) from rL,Rx (ai 1),VR,aa];let sx4:aB H3 (upd H3 p4 (.lst (Ts (G.done.drop (G.done.length-1))))):=aB.upd e4;let ex4:upd H3 p4 (.lst (Ts (G.done.drop (G.done.length-1)))) p4=some (.lst (Ts (G.done.drop (G.done.length-1)))):=aq;generalize upd H3 p4 (.lst (Ts (G.done.drop (G.done.length-1))))=H4 at sx4 ex4 ⊢;calc⟨zsz 1,λp5 e5=>?_⟩;let O:aB H4 (upd H4 p5 (HO.lst [V.str (S [108,97,121])])):=aB.upd e5;let ex5:upd H4 p5 (HO.lst [V.str (S [108,97,121])]) p5=some (.lst (Ts [iU])):=aq;generalize upd H4 p5 (HO.lst [V.str (S [108,97,121])])=H5 at O ex5 ⊢;let zj:=(eO.trans sx4).trans O;calc JE 2 (.lst ((G.done.drop (G.done.length-1)).map Dt.str)) (.lst ([iU].map Dt.str)) ⟨pj,.lst (bB.of (O _ _ ex4)) (dB.rE λl hl=>I l (ed hl)),.lst (bB.of ex5) (dB.rE pj),_,rL,?_⟩;rw[Ez str_inj];let D:=q H5 zj;unfold iV at D;rw[hk,ah hp,Bool.false_or]at D;by_cases hy:G.done.drop (G.done.length-1)=[iU]
  .rw[al hy]at D ⊢;rw[lT]at D;calc cj ⟨_,rL,g,dx,_,rL,zj _ _ h1,rL,g,ps,pd,G,zs,z,rL,A0.mv zj,hz,z.bag,[],rL,rL,_,rL,?_⟩;by_cases hb:z.bag=[]
   .rw[al hb]at D ⊢;rw[lT]at D;calc cj ⟨_,rL,_,rL,pr,_,_,.str (S z.racks[xR G z]),rL,rL,aO.of (zj _ _ Y),aN (nD (ac ll)),_,[],rL,rL,?_⟩;rw[ax,ac ll]at D;show D
   .rw[ah hb]at D ⊢;show bQ D
  .rw[ah hy]at D ⊢;show bQ D
def jt (G:Gm)(z:Std):Nat:=G.done.length%z.racks.length
structure ag1 (G:Gm):Prop where
 low:∀l∈G.done,∀c∈l,c<128
 len:G.done.length<=400
 sl:G.sts.length<=500
 wd:WD G.kvs
 wb:WB 1000000 G.kvs
 sz:G.size<=7
inductive Does (G:Gm) (z:Std):bT->Int->Std->Prop
 | lay {ts:List bR} {l:List Nat} (ux:∀t∈ts,inB z.r z.w t) (h0:0<ts.length) (h7:ts.length<=7) (ri:jG (ts.map nF)=true) (vd:rN z.aD z.r z.w z.bi z.bj G.ws (z.racks.getD (jt G z) []) ts .ok) (lf:o9 (z.racks.getD (jt G z) []) (ts.map (·.2.2))=some l) :
   Does G z (.lay ts) (Yd z.aD z.aL G.kvs ts G.bn G.bm) (K1 z (jt G z) G.size ts l (Yd z.aD z.aL G.kvs ts G.bn G.bm))
 | swap {l m:List Nat} (ne:l≠[]) (h7:l.length<=7) (tl:∀c∈l,nU c) (lf:o9 (z.racks.getD (jt G z) []) l=some m) (hb:l.length<=z.bag.length):Does G z (.swap l) 0 (O4 z (jt G z) l m)
 | pass:Does G z .pass 0 z
def aio {aD:AB}{r w bi bj:Nat}{ws:AB}{bL:List Nat}{ts:List bR}{v:Vd}(h:rN aD r w bi bj ws bL ts .ok)(g:rN aD r w bi bj ws bL ts v):v=.ok:=by
 cases h with
 | ok h1 h2 h3 h4 h5 h=>
  cases g with
  | Bs e=>rw[h1]at e;cases e
  | Bt _ e=>rw[h2]at e;cases e
  | gap _ _ e=>show absurd e.fr (h3 _ _ e.i1 e.i2 e.j1 e.j2)
  | Bu _ _ _ e=>rw[h4]at e;cases e
  | Bv _ _ _ _ e=>let⟨l,hl⟩:=h5;rw[hl]at e;cases e
  | nw _ _ _ _ _ e=>rw[h]at e;cases e
  | ok=>rfl
def V0 {aD:AB}{r w bi bj:Nat}{ws:AB}{bL:List Nat}{ts:List bR}(h:rN aD r w bi bj ws bL ts .ok):(sO ts||sS ts)=true:=by
 cases h with| ok h1 h2 h3 h4 h5 h=>show h2
def ace (d:bT):∀c∈d.name,c<128:=by
 cases d;.show ∀c∈iU,c<128;decide
 .show ∀c∈gK,c<128;decide
 .show ∀c∈eV,c<128;decide
def acf (C CS CB CG:Addr):Sp:=λvs H Q _=>∃(g p ps pd:Addr) (G:Gm) (zs:List Std) (z z':Std) (d:bT) (pt:Int),vs=[.ref g,.ref p]/\fG C CS CB CG H g ps pd G/\G.sts=zs++[z]/\lC z/\ag1 G/\jO H p d/\iV G z=false/\Does G z d pt z'/\
 ∀H',uP ps pd H H'->fG C CS CB CG H' g ps pd {G with sts:=G.sts++[z'],done:=G.done++[d.name]}->Q (.int pt) H'
def V1 {H:Hp}{p:Addr}{d:bT}(h:jO H p d):∃xs,H p=some (.tup (.str (S d.name)::xs)):=by
 cases d with
 | lay ts=>let⟨t,as,h1,_⟩:=h;show⟨_,h1⟩
 | swap l=>show⟨_,h⟩
 | pass=>show⟨_,h⟩
def zy.snoc {C CS:Addr}{H:Hp}{as:List Addr}{zs:List Std}{a:Addr}{z:Std}(h:zy C CS H as zs)(g:gb C CS H a z):zy C CS H (as++[a]) (zs++[z]):=by
 calc⟨by rw[av,av,h.len];rfl,λi b y e1 e2=>?_⟩;by_cases hi:i<as.length
 .rw[a9 hi]at e1;rw[a9 (by rw[<-h.len];show hi)]at e2;show h.at_ i b y e1 e2
 .rw[be o6]at e1;rw[be (by rw[<-h.len];lia),<-h.len]at e2;let h0:i-as.length=0:=by have:=(ag.mp e1).1;simp at this;lia
  rw[h0]at e1 e2;cases e1;cases e2;show g
def zy.k2 {C CS:Addr}{H H':Hp}{ps pd:Addr}{xs ys:List V}{as:List Addr}{zs:List Std}(h:zy C CS H as zs)(s:uP ps pd H H')(h1:H ps=some (.lst xs))(h2:H pd=some (.lst ys)):zy C CS H' as zs:=⟨h.len,λi a z e1 e2=>(h.at_ i a z e1 e2).k2 s h1 h2⟩
open Classical in
def aip {C CS CB CG f f1 f2:Addr}{fd dH fd2:FuncData}{c:Q_}(F:dX K "do" "Game.do" oE f fd)(cP:oW K CG)(TS:rC K CS)(oX:Meth K CG "is_over" f1)(oY:bZ P w K mg base dz 4 f1 dH ["self"] (Ry C CS CB CG))(oZ:bN K dH ["self"] [])(yr:Meth K CG "turn" f2)(yt:bZ P w K mg base dz 2 f2 fd2 ["self"] (K5 C CS CB CG))(yu:bN K fd2 ["self"] [])(aaD:bV P w K mg base "is_deed" 2 ["thing"] aay)(tu:DefX P w K mg base "check_laying" 14 ["board","book","rack","laying"] (KN K C CB c))(yw:bV P w K mg base "points_of" 11 ["board","worths","bonus","laying"] (Ye C))(JN:bV P w K mg base "behind_laying" 10 ["stand","turn","size","laying","points"] (aaz C CS))(Oj:bV P w K mg base "behind_swap" 10 ["stand","turn","tiles"] (VN C CS)):bZ P w K mg base dz 16 f fd ["self","deed"] (acf C CS CB CG):=by
 calc F.cZ nu (λbG A outer s H vs Q E hr h=>?_);let⟨g,p,ps,pd,G,zs,z,z',d,pt,rfl,A0,hz,Z,GK,hd,hov,hdo,q⟩:=h;let⟨dx,k,kd,dd,pb,h1,h2,h3,h4⟩:=A0.ex;let⟨as0,h5,h6⟩:=A0.st;let h7:=A0.dn;let n1:=Z.n1;let h6':=h6;rw[hz]at h6';let⟨bs,a,rfl,SA⟩:=h6'.last;let⟨dy,b,pr,pp,e1,e2,e3,e4⟩:=SA.ex;let htn:jt G z<z.racks.length:=Nat.mod_lt _ n1;let hg:z.racks.getD (jt G z) []=z.racks[jt G z]:=by rw[ax,ac htn];rfl
 let⟨k7,kt⟩:=Z.r7 _ (aI htn);calc⟨_,(aA (cB (eG (dJ (bD aaD hr.mono rL (aj aW ao)))) qp bJ) (aA (cB (dJ (fV aG cP.cl oX oY hr.mono oZ .nil dM)) qp bJ) (aA (aU (i:=2) nu.nd rL (Or.inl rL) (aX fH (bO aG rL) (mY jX au) (λ_ _=>rfl))) (aA (aU (i:=3) nu.nd rL (Or.inl rL) (fV aG cP.cl yr yt hr.mono yu .nil dM)) (aA (aU (i:=4) nu.nd rL (Or.inl rL) au) (aA (fO (cB (bM ju (aX bw aW au (λ_ _=>rfl)) (bH [108,97,121] pS) (bF _)) (aA (cR (nW tu hr.mono rL (Yh (S:=λ_=>True)) (aj (bO bA rL) (aj (bO aG rL) (aj (aX bw (bO bA rL) bI (λ_ _=>rfl)) (aj (aX bw aW au (λ_ _=>rfl)) ao)))))) (aA (aU (i:=4) nu.nd rL (Or.inl rL) (bD yw hr.mono rL (aj (bO bA rL) (aj (bO aG rL) (aj (bO aG rL) (aj (aX bw aW au (λ_ _=>rfl)) ao)))))) (aF (aU (i:=2) nu.nd rL (Or.inl rL) (bD JN hr.mono rL (aj bA (aj bI (aj (bO aG rL) (aj (aX bw aW au (λ_ _=>rfl)) (aj cL ao)))))))))) (aF (fO (cB (bM ju (aX bw aW au (λ_ _=>rfl)) (bH [115,119,97,112] pS) (bF _)) (aF (aU (i:=2) nu.nd rL (Or.inl rL) (bD Oj hr.mono rL (aj bA (aj bI (aj (aX bw aW au (λ_ _=>rfl)) ao)))))) bJ))))) (aA (cR (fJ bu de df iG (bO aG rL) (aj bA ao))) (aA (cR (fJ bu de df iG (bO aG rL) (aj (aX bw aW au (λ_ _=>rfl)) ao))) (aF (bf cL)))))))))),?_⟩;refine⟨_,rL,p,d,rL,hd,(λl e=>?_),λH1 s1=>⟨true,rL,bQ ?_⟩⟩
 .subst e;cases hdo with| swap ne h7 tl lf hb=>show⟨ne,o6,tl⟩
 calc⟨_,rL,g,dx,_,rL,s1 _ _ h1,rL,g,ps,pd,G,zs,z,rL,A0.mv s1,hz,Z,GK.low,(by have:=GK.len;lia),λH2 s2=>⟨_,rL,?_⟩⟩;rw[hov];let I:=s1.trans s2;calc bQ ⟨_,rL,g,CG,dx,_,_,rL,I _ _ h1,cP.cl,cP.ns,rL,_,rL,ps,_,_,.ref a,rL,rL,bB.of (I _ _ h5),lX,?_⟩;calc⟨_,rL,g,dx,_,rL,I _ _ h1,rL,g,ps,pd,G,zs,z,rL,A0.mv I,hz,Z,?_⟩;refine⟨λσ O=>∃D,σ=[some (.ref g),some (.ref p),some (.ref D),some (.int (jt G z:Nat)),some (.int pt)]/\aB H O/\gb C CS O D z',?_,?_⟩
 .let e12:=I _ _ e1;let h12:=I _ _ h1;cases hdo with
  | @lay ts l ux h0 h7' ri vd lf=>
   let⟨t,as,hp,ht,hL⟩:=hd;let J:=I _ _ hp;let hl1:=KJ e2.ok.w9 ux h0 ri (V0 vd);rw[hg]at vd;calc⟨_,rL,p,_,_,.str (S iU),rL,rL,aO.of J,aN (j:=0) rL,iU,iU,rL,rL,_,rL,?_⟩;rw[al rfl];refine cj ⟨True.intro,_,rL,a,CS,dy,_,_,rL,e12,TS.cl,TS.nb,rL,_,rL,g,CG,dx,_,_,rL,h12,cP.cl,cP.nk,rL,_,rL,a,CS,dy,_,_,rL,e12,TS.cl,TS.nr,rL,_,rL,pr,_,_,.str (S z.racks[jt G z]),rL,rL,aO.of (I _ _ e3),aN (nD (ac htn)),_,rL,p,_,_,.ref t,rL,rL,aO.of J,aN (j:=1) rL,
    b,k,kd,G.ws,z.racks[jt G z],.ref t,z.r,z.w,z.aD,z.aL,z.bi,z.bj,rL,e2.mv I,h2.mv I,o6,.inr (JE t as ts ⟨rL,I _ _ ht,hL.mv I,ux,h0,h7',ri,(λv cls dd H' hv hx _=>?_),λ_ O s3=>?_⟩)⟩
   .have:=aio vd hv;subst this;show hx
   let Y:=I.trans s3;refine⟨_,rL,a,CS,dy,_,_,rL,Y _ _ e1,TS.cl,TS.nb,rL,_,rL,g,CG,dx,_,_,rL,Y _ _ h1,cP.cl,cP.nw,rL,_,rL,g,CG,dx,_,_,rL,Y _ _ h1,cP.cl,cP.nn,rL,_,rL,p,_,_,.ref t,rL,rL,aO.of (Y _ _ hp),aN (j:=1) rL,
    b,dd,pb,t,G.kvs,G.bn,G.bm,as,ts,z.r,z.w,z.aD,z.aL,z.bi,z.bj,rL,e2.mv Y,Rd.of (Y _ _ h3),GK.wd,GK.wb,Y _ _ h4,Y _ _ ht,hL.mv Y,ux,h0,h7',hl1,λH4 s4=>?_⟩
   let gC:=Y.trans s4;refine⟨_,rL,_,rL,_,rL,g,CG,dx,_,_,rL,gC _ _ h1,cP.cl,cP.nz,rL,_,rL,p,_,_,.ref t,rL,rL,aO.of (gC _ _ hp),aN (j:=1) rL,_,rL,
    a,t,z,jt G z,G.size,_,as,ts,l,rL,SA.mv gC,Z,htn,GK.sz,gC _ _ ht,hL.mv gC,ux,h7',(λu hu=>aat (ux u hu).2.2),lf,λD H5 s5 A5=>⟨D,rL,gC.trans s5,A5⟩⟩
  | @swap l m ne h7' tl lf hb=>have hp:H p=some (.tup [.str (S gK),.str (S l)]):=hd;let J:=I _ _ hp;calc⟨_,rL,p,_,_,.str (S gK),rL,rL,aO.of J,aN (j:=0) rL,gK,iU,rL,rL,_,rL,?_⟩;rw[ah (show ¬gK=iU by decide)];calc bQ ⟨λσ O=>∃D,σ=[some (.ref g),some (.ref p),some (.ref D),some (.int (jt G z:Nat)),some (.int 0)]/\aB H O/\gb C CS O D (O4 z (jt G z) l m),?_,λσ O h=>h⟩;calc⟨_,rL,p,_,_,.str (S gK),rL,rL,aO.of J,aN (j:=0) rL,gK,gK,rL,rL,_,rL,?_⟩;rw[al rfl];show cj ⟨_,rL,_,rL,_,rL,p,_,_,.str (S l),rL,rL,aO.of J,aN (j:=1) rL,a,z,jt G z,l,m,rL,SA.mv I,Z,htn,h7',tl,lf,hb,λD H5 s5 A5=>⟨D,rL,I.trans s5,A5⟩⟩
  | pass=>have hp:H p=some (.tup [.str (S eV)]):=hd;let J:=I _ _ hp;calc⟨_,rL,p,_,_,.str (S eV),rL,rL,aO.of J,aN (j:=0) rL,eV,iU,rL,rL,_,rL,?_⟩;rw[ah (show ¬eV=iU by decide)];calc bQ ⟨λσ O=>∃D,σ=[some (.ref g),some (.ref p),some (.ref D),some (.int (jt G z:Nat)),some (.int 0)]/\aB H O/\gb C CS O D z,?_,λσ O h=>h⟩;calc⟨_,rL,p,_,_,.str (S eV),rL,rL,aO.of J,aN (j:=0) rL,eV,gK,rL,rL,_,rL,?_⟩;rw[ah (show ¬eV=gK by decide)];show bQ ⟨a,rL,I,SA.mv I⟩
 .intro σ O z;let⟨D,rfl,Y,A3⟩:=z;let⟨xs,hn⟩:=V1 hd;let h53:=Y _ _ h5;let h73:=Y _ _ h7;let hlz:(bs++[a]).length<=500:=by rw[h6.len];show GK.sl
  calc⟨_,rL,g,CG,dx,_,_,rL,Y _ _ h1,cP.cl,cP.ns,rL,.inl ⟨rL,_,bB.of h53⟩,_,rL,ps,_,.ref D,rL,rL,h53,aK (by rw[aa];lia),?_⟩;let Ru:g≠ps:=jf h5 h1 (λ_ z=>nomatch z);let yq:p≠ps:=jf h5 hn (λ_ z=>nomatch z);let hpd:pd≠ps:=λe=>by
   subst e;rw[h5]at h7;injection h7 with h7;injection h7 with h7;cases hG:G.done with| nil=>rw[hG]at h7;simp[Ts]at h7| cons l ls=>show VP (by rw[hG];simp) h7
  let g1:=Y _ _ h1;rw[<-aP (H:=O) (o:=.lst ((bs++[a]).map V.ref++[.ref D])) Ru]at g1;let g7:=h73;rw[<-aP (H:=O) (o:=.lst ((bs++[a]).map V.ref++[.ref D])) hpd]at g7;let gn:=Y _ _ hn;rw[<-aP (H:=O) (o:=.lst ((bs++[a]).map V.ref++[.ref D])) yq]at gn;calc⟨_,rL,g,CG,dx,_,_,rL,g1,cP.cl,cP.nd,rL,.inl ⟨rL,_,bB.of g7⟩,_,rL,p,_,_,.str (S d.name),rL,rL,aO.of gn,aN (j:=0) rL,pd,_,.str (S d.name),rL,rL,g7,aK (by rw[aa];have:=GK.len;lia),_,rL,?_⟩;let kk:uP ps pd H (upd (upd O ps (.lst ((bs++[a]).map V.ref++[.ref D]))) pd (.lst (Ts G.done++[.str (S d.name)]))):=λx o e m1 m2=>by rw[aP m2,aP m1];show Y _ _ e
  let k3:uP ps pd O (upd (upd O ps (.lst ((bs++[a]).map V.ref++[.ref D]))) pd (.lst (Ts G.done++[.str (S d.name)]))):=λx o e m1 m2=>by rw[aP m2,aP m1];show e
  calc q _ kk (A0.put kk (as:=bs++[a]++[D]) ?_ ((h6.k2 kk h5 h7).snoc (A3.k2 k3 h53 h73)) ?_);.rw[aP hpd.symm,aq];simp
  .rw[aq];simp[Ts]
def aaE (C:Addr):Sp:=λvs H Q _=>∃(p d:Addr) (ws:AB),vs=[.ref p]/\gO C H p d ws/\ws.length<64/\
 ∀(x j:Addr) (D:AB) (H':Hp),aB H H'->H x=none->H j=none->gO C H' x j D->(∀y,y∈D↔y∈ws)->Q (.ref x) H'
def aeD {f C f0 f1:Addr}{fd dY dH:FuncData}(F:dX K "twin" "Book.twin" lU f fd)(CV:sU K C)(K7:mg "Book"=some (.ref C))(RB:Mk K C f0)(RD:bZ P w K mg base dz 3 f0 dY ["self","words"] (Q6 K C))(RG:bN K dY ["self","words"] [])(RJ:Meth K C "words" f1)(RK:bZ P w K mg base dz 1 f1 dH ["self"] (Vx C))(RL:bN K dH ["self"] []):bZ P w K mg base dz 5 f fd ["self"] (aaE C):=by
 calc F.cZ Qo (λbG A outer s H vs Q E O h=>?_);let⟨p,d,ws,rfl,B,G,q⟩:=h;let⟨dx,hp⟩:=B.ob;calc⟨_,(aF (bf (qu RB RD O.mono rL K7 RG .nil dM (aj (fV aG CV.cl RJ RK O.mono RL .nil dM) ao)))),?_⟩;calc⟨_,rL,p,dx,_,rL,hp,rL,p,d,ws,rL,B,G,λt us H1 s1 ht I pm rs=>?_⟩;intro x j nx J vU;let s2:aB H1 (upd (upd H1 j (HO.own x)) x (HO.ins C j [])):=λb o e=>by rw[aP (aY e nx),aP (aY e J)];show e
 calc JI x j t us ⟨rL,aq,.inr (aO.of (s2 _ _ I)),λl hl=>B.az l (pm.mem_iff.mp hl),by rw[pm.length_eq];lia,λY uy Z D BA hm cW kp=>⟨rL,?_⟩⟩;let s3:aB H1 Z:=λb o e=>kp b o (s2 b o e) (aY e nx);calc q x Y uy Z (s1.trans s3) (s1.free nx) (s1.free ?_) BA (λy=>(hm y).trans pm.mem_iff);cases e:H1 Y with| none=>rfl| some o=>rw[s2 _ _ e]at D;cases D
def V2 (C CS CB CG:Addr):Sp:=λvs H Q _=>∃(g dx b k kd d pb pr:Addr) (ws:AB) (kvs:List (Key×V)) (n m:Int) (size r w:Nat) (aD aL:AB) (bi bj:Nat) (racks:AB) (bag:List Nat),vs=[.ref g,.ref b,.ref k,.ref d,.ref pb,.int size,.ref pr,.str (S bag)]/\H g=some (.ins CG dx [])/\cM C H b r w aD aL bi bj/\gO CB H k kd ws/\ws.length<64/\H d=some (.dK kvs)/\H pb=some (.tup [.int n,.int m])/\H pr=some (.tup (Ts racks))/\1<=racks.length/\racks.length<=4/\(∀l∈racks,l.length<64)/\
 ∀(ps pd:Addr) (j:AB) (H':Hp),(∀a o,H a=some o->a≠g->H' a=some o)->(∀y,y∈j↔y∈ws)->H ps=none->H pd=none->fG C CS CB CG H' g ps pd ⟨[⟨r,w,aD,aL,bi,bj,racks.map dG,bag,List.replicate racks.length 0⟩],[],j,kvs,n,m,size⟩->Q .non H'
def RM {C CS CB CG f f0 f1:Addr}{fd dY dH:FuncData}(F:dX K "__init__" "Game.__init__" lN f fd)(T:oW K CG)(CV:sU K CB)(Dd:mg "dict"=none)(cI:mg "tuple"=none)(bh:mg "len"=none)(Ul:Meth K CB "twin" f1)(Um:bZ P w K mg base dz 5 f1 dH ["self"] (aaE CB))(Uo:bN K dH ["self"] [])(wD:mg "Stand"=some (.ref CS))(zq:Mk K CS f0)(zu:bZ P w K mg base dz 1 f0 dY ["self","board","racks","bag","points"] (Ey CS))(zx:bN K dY ["self","board","racks","bag","points"] [])(oV:bV P w K mg base "in_order" 1 ["tiles"] O2):bZ P w K mg base dz 7 f fd ["self","board","book","worths","bonus","size","racks","bag"] (V2 C CS CB CG):=by
 calc F.cZ Cu (λbG A outer s H vs Q E hr h=>?_);let⟨g,dx,b,k,kd,d,pb,pr,ws,kvs,n,m,size,r,w,aD,aL,bi,bj,racks,bag,rfl,hg,hB,hK,h64,hd,hpb,hpr,n1,n4,h7,q⟩:=h;let⟨kx,hk⟩:=hK.ob;calc⟨_,(aA (k_ aG (fV bA CV.cl Ul Um hr.mono Uo .nil dM) rL) (aA (k_ aG (eU Xk pk Dd PyProof.Rows.boot_dict (aj bI ao)) rL) (aA (k_ aG cL rL) (aA (k_ aG cT rL) (aA (k_ aG (h_ (aj (qu zq zu hr.mono rL wD zx .nil dM (aj aW (aj (eU iZ pk cI c_ (aj (jB rL (jc.of Cu.nd pE) (gM dW) (λ_ _ _ _ _=>dR) (λ_ _ _ _ _=>(bD oV hr.mono rL (aj aG ao)))) ao)) (aj iw (aj (aJ Vg (cO (aj au ao)) (aV bW pk bh ay (aj dW ao))) ao))))) ao)) rL) (aF (k_ aG (h_ ao) rL))))))),?_⟩;calc⟨_,rL,k,kx,_,rL,hk,rL,k,kd,ws,rL,hK,h64,λk2 kd2 uy H1 s1 f1 f2 BK hm=>?_⟩;let g1:=s1 _ _ hg;calc⟨_,rL,g,CG,dx,_,rL,g1,T.cl,T.nk,by show 0<1000;decide,?_⟩;generalize hX:upd H1 g (HO.ins CG dx (g_ "book" (V.ref k2) []))=H2;let K2:∀a o,H1 a=some o->a≠g->H2 a=some o:=λa o e ne=>by rw[<-hX,aP ne];show e
 let g2:H2 g=some (.ins CG dx [("book",.ref k2)]):=by rw[<-hX];show aq
 let V3:∀{a:Addr} {o:HO},H a=some o->(∀C' d' fs,o≠.ins C' d' fs)->a≠g:=λe ne z=>by subst z;rw[hg]at e;show ne _ _ _ (bp e).symm
 let dg:d≠g:=V3 hd (λ_ _ _ z=>nomatch z);calc⟨_,rL,d,kvs,rL,K2 _ _ (s1 _ _ hd) dg,λj e2=>?_⟩;let O:j≠g:=λz=>by subst z;rw[g2]at e2;cases e2
 let g3:upd H2 j (HO.dK kvs) g=some (.ins CG dx [("book",.ref k2)]):=by rw[aP O.symm];show g2
 let K3:∀a o,H1 a=some o->a≠g->upd H2 j (HO.dK kvs) a=some o:=λa o e ne=>by rw[aP (aY (K2 a o e ne) e2)];show K2 a o e ne
 let d3:upd H2 j (HO.dK kvs) j=some (.dK kvs):=aq;let e2H:H j=none:=by
  cases e:H j with| none=>rfl| some o=>rw[K2 _ _ (s1 _ _ e) O]at e2;cases e2
 generalize upd H2 j (HO.dK kvs)=H3 at g3 K3 d3 ⊢;calc⟨_,rL,g,CG,dx,_,rL,g3,T.cl,T.nw,by show 1<1000;decide,?_⟩;calc⟨_,rL,_,rL,g,CG,dx,_,rL,aq,T.cl,T.nn,by show 2<1000;decide,?_⟩;calc⟨_,rL,_,rL,g,CG,dx,_,rL,aq,T.cl,T.nz,by show 3<1000;decide,?_⟩;rw[Ur,Ur];generalize hY:upd H3 g (HO.ins CG dx (g_ "size" (V.int size) (g_ "bonus" (V.ref pb) (g_ "worths" (V.ref j) [("book",V.ref k2)]))))=H6;let g6:H6 g=some (.ins CG dx [("book",.ref k2),("worths",.ref j),("bonus",.ref pb),("size",.int size)]):=by rw[<-hY];show aq
 let J:∀a o,H1 a=some o->a≠g->H6 a=some o:=λa o e ne=>by rw[<-hY,aP ne];show K3 a o e ne
 let d6:H6 j=some (.dK kvs):=by rw[<-hY,aP O];show d3
 let prg:pr≠g:=V3 hpr (λ_ _ _ z=>nomatch z);let acg:=J _ _ (s1 _ _ hpr) prg;refine⟨_,rL,_,rL,pr,rL,⟨_,aO.of acg⟩,λL hL=>qj (xs:=Ts racks) (λi ys Y=>ys=Ts ((racks.take i).map dG)/\Y L=some (.lst ys)/\aB H6 Y) ⟨rL,aq,aB.upd hL⟩ (λi ys Y _ h=>aO.of (h.2.2 _ _ acg)) ?_ ?_⟩
 .intro i x ys Y hi z;let⟨rfl,JQ,sm⟩:=z;let⟨l,hl,rfl⟩:=wg hi;let hil:i<(Ts racks).length:=(ag.mp hi).1;let hir:i<racks.length:=by rw[aa]at hil;show hil
  calc⟨_,rL,l,rL,h7 l (bo hl),λH8 s8=>⟨s8 _ _ JQ,?_,gY.mk hil ⟨?_,aq,(sm.trans s8).dF hL⟩⟩⟩;.rw[aa,aa,am];show aK o6
  .rw[take_snoc hl];simp only[Ts,bv];rfl
 .intro ys Y z;let⟨rfl,JQ,sm⟩:=z;rw[aa,ce]at JQ;calc JA L _ ⟨rL,.inl ⟨bB.of JQ,λtp ht=>?_⟩⟩;let s8:aB Y (upd Y tp (.tup (Ts (racks.map dG)))):=aB.upd ht;let V4:upd Y tp (.tup (Ts (racks.map dG))) tp=some (.tup (Ts (racks.map dG))):=aq;generalize upd Y tp (HO.tup (Ts (racks.map dG)))=H8 at s8 V4 ⊢;let s68:=sm.trans s8;calc⟨_,rL,zsz 1,λp0 e0=>?_⟩;let s9:aB H8 (upd H8 p0 (HO.tup [V.int 0])):=aB.upd e0;let ep0:upd H8 p0 (HO.tup [V.int 0]) p0=some (.tup [V.int 0]):=aq;generalize upd H8 p0 (HO.tup [V.int 0])=H9 at s9 ep0 ⊢;let s69:=s68.trans s9;calc⟨_,rL,pr,_,rL,.inr (aO.of (s69 _ _ acg)),p0,_,racks.length,rL,by rw[aa],ep0,pi,n1,o6,by show 1<=100;decide,λpp HA sA hpp=>?_⟩;let yq:HA pp=some (.tup ((List.replicate racks.length (0:Int)).map V.int)):=by rw[hpp];simp
  let s6A:=s69.trans sA;let bg:b≠g:=by let⟨bx,_,_,_,hbx,_⟩:=hB.ex;intro z;subst z;rw[hg]at hbx;cases hbx
  let HB6:cM C H6 b r w aD aL bi bj:=by obtain⟨⟨bx,b1,b2,b3,c0,c1,c2,c3⟩,ok⟩:=hB;show⟨(JI bx b1 b2 b3 ⟨J _ _ (s1 _ _ c0) bg,J _ _ (s1 _ _ c1) (V3 c1 (λ_ _ _ z=>nomatch z)),J _ _ (s1 _ _ c2) (V3 c2 (λ_ _ _ z=>nomatch z)),J _ _ (s1 _ _ c3) (V3 c3 (λ_ _ _ z=>nomatch z))⟩),ok⟩
  intro x ex nx1 nx2 nx3;calc JO x ex b tp pp bag ⟨rL,aq,λHC kC eC=>⟨rL,?_⟩⟩;let⟨sC,AC⟩:=C_ (z:=⟨r,w,aD,aL,bi,bj,racks.map dG,bag,List.replicate racks.length 0⟩) nx1 nx2 kC eC (HB6.mv s6A) (sA _ _ (s9 _ _ V4)) yq;let s6C:=s6A.trans sC;calc⟨zsz 1,λps G=>?_⟩;let sD:aB HC (upd HC ps (HO.lst [V.ref x])):=aB.upd G;let pD:upd HC ps (HO.lst [V.ref x]) ps=some (.lst ([x].map V.ref)):=aq;generalize upd HC ps (HO.lst [V.ref x])=HD at sD pD ⊢;let Z:=s6C.trans sD;calc⟨_,rL,g,CG,dx,_,rL,Z _ _ g6,T.cl,T.ns,by show 4<1000;decide,?_⟩;let psg:ps≠g:=λz=>by subst z;rw[s6C _ _ g6]at G;cases G
  generalize hE:upd HD g (HO.ins CG dx (g_ "stands" (V.ref ps) [("book",V.ref k2),("worths",V.ref j),("bonus",V.ref pb),("size",V.int size)]))=HE;let KE:∀a o,HD a=some o->a≠g->HE a=some o:=λa o e ne=>by rw[<-hE,aP ne];show e
  let gE:HE g=some (.ins CG dx [("book",.ref k2),("worths",.ref j),("bonus",.ref pb),("size",.int size),("stands",.ref ps)]):=by rw[<-hE];show aq
  calc⟨zsz 0,λpd I=>?_⟩;let sF:aB HE (upd HE pd (HO.lst [])):=aB.upd I;let pF:upd HE pd (HO.lst []) pd=some (.lst (Ts [])):=aq;let pdg:pd≠g:=λz=>by subst z;rw[gE]at I;cases I
  generalize upd HE pd (HO.lst [])=HF at sF pF ⊢;calc⟨_,rL,g,CG,dx,_,rL,sF _ _ gE,T.cl,T.nd,by show 5<1000;decide,?_⟩;let D:∀a o,HD a=some o->a≠g->upd HF g (HO.ins CG dx (g_ "done" (V.ref pd) [("book",V.ref k2),("worths",V.ref j),("bonus",V.ref pb),("size",V.int size),("stands",V.ref ps)])) a=some o:=λa o e ne=>by rw[aP ne];show sF _ _ (KE a o e ne)
  let old:∀a o,H a=some o->a≠g->upd HF g (HO.ins CG dx (g_ "done" (V.ref pd) [("book",V.ref k2),("worths",V.ref j),("bonus",V.ref pb),("size",V.int size),("stands",V.ref ps)])) a=some o:=λa o e ne=>D a o (Z _ _ (J a o (s1 _ _ e) ne)) ne;let k2g:k2≠g:=λz=>by subst z;rw[hg]at f1;cases f1
  let ag2:kd2≠g:=λz=>by subst z;rw[hg]at f2;cases f2
  refine q ps pd uy _ old hm ?_ ?_ ⟨(JJ dx k2 kd2 j pb ⟨aq,?_,?_,?_⟩),⟨[x],D _ _ pD psg,⟨rL,λi a z h1 h2=>?_⟩⟩,?_⟩
  .cases e:H ps with| none=>rfl| some o=>rw[s6C _ _ (J _ _ (s1 _ _ e) psg)]at G;cases G
  .cases e:H pd with| none=>rfl| some o=>rw[KE _ _ (Z _ _ (J _ _ (s1 _ _ e) pdg)) pdg]at I;cases I
  .let⟨ky,hky⟩:=BK.ob;show⟨⟨ky,D _ _ (Z _ _ (J _ _ hky k2g)) k2g⟩,D _ _ (Z _ _ (J _ _ BK.dc ag2)) ag2,BK.nd,BK.az⟩
  .show D _ _ (Z _ _ d6) O
  .show old _ _ hpb (V3 hpb (λ_ _ _ z=>nomatch z))
  .cases i with
   | zero=>
    cases h1;cases h2;obtain⟨dy,b',Dc,JL,c1,⟨⟨bx,q1,q2,q3,u0,u1,u2,u3⟩,ok⟩,c3,c4⟩:=(AC.mv sD).ex;let gD:=Z _ _ g6;let xg:x≠g:=(aY (s6A _ _ g6) nx1).symm;let bg':b'≠g:=wM u0 gD λz=>by injection z with _ _ z;injection z with z _;injection z with z _;show absurd z pj
    let tg:∀{a:Addr} {xs:List V},HD a=some (.tup xs)->a≠g:=λe=>wM e gD λz=>nomatch z;show⟨dy,b',Dc,JL,D _ _ c1 xg,⟨⟨bx,q1,q2,q3,D _ _ u0 bg',D _ _ u1 (tg u1),D _ _ u2 (tg u2),D _ _ u3 (tg u3)⟩,ok⟩,D _ _ c3 (tg c3),D _ _ c4 (tg c4)⟩
   | succ i=>simp at h1
  .rw[aP pdg];show pF
noncomputable def wF:List Nat->List Nat->Option (List Nat)
 | l,[]=>some l
 | l,c::cs=>if c∈l then wF (l.erase c) cs else none
theorem O5:∀{cs l:List Nat},wF l (cs.map gJ)=o9 l cs
 | [],_=>rfl
 | c::cs,l=>by rw[cv];unfold wF o9;rw[O5]
theorem RP:∀{cs l m:List Nat},wF l cs=some m->m.length+cs.length=l.length
 | [],l,m,h=>by cases h;rfl
 | c::cs,l,m,h=>by
  unfold wF at h;split at h
  .rename_i hm;have:=RP h;rw[List.length_erase_of_mem hm]at this;have:=List.length_pos_of_mem hm;simp only[dA];lia
  .cases h
def V5 {l:List Nat}(h:∀c∈l,nU c):l.map gJ=l:=by
 rw[fo (g:=id) λc j=>?_,kr];unfold gJ;rw[if_neg];.rfl
 .rcases h c j with e|e;.have:=e.1;lia
  .lia
def V6:Sp:=λvs H Q _=>∃bL l m:List Nat,vs=[.str (S bL),.str (S l)]/\bL.length<=63/\l.length<=63/\wF bL l=some m/\∀p H',aB H H'->H p=none->H' p=some (.lst (Ts (m.map λc=>[c])))->Q (.ref p) H'
def ach (D:aM K mg "_law_taken" yV ["_law_rack","_law_tiles_here"])(ig:mg "list"=none):bV P w K mg base "_law_taken" 1 ["_law_rack","_law_tiles_here"] V6:=by
 calc D.cZ rZ (λf bG A outer s H vs Q E hr h=>?_);let⟨bL,l,m,rfl,J,l63,Y,q⟩:=h;calc⟨_,(aA (aU (i:=2) rZ.nd rL (Or.inl rL) (eU (m_ rL) pk ig fk (aj aG ao))) (aA (fD cK rL (qL aW) (bC (i:=3) rZ.nd rL (Or.inl rL)) (aF (cR (fJ bu ip iq wU bA (aj bI ao))))) (aF (bf bA)))),?_⟩;calc⟨_,rL,bL,rL,o6,λL hL=>?_⟩;calc⟨_,rL,l,rL,?_⟩;refine Ep (λi σ I=>∃(O:Option V) (us:List Nat),σ=[some (.str (S bL)),some (.str (S l)),some (.ref L),O]/\aB H I/\I L=some (.lst (Ts (us.map λc=>[c])))/\us.length<=63/\wF us (l.drop i)=some m)
  (JA none bL ⟨rL,aB.upd hL,aq,J,by rw[js];show Y⟩) ?_ ?_
 .intro i c σ I hc z;let⟨O,us,rfl,Z,F,Jz,j⟩:=z;let hi:i<l.length:=(ag.mp hc).1;let G:l.drop i=c::l.drop (i+1):=by
   rw[fS hi];rw[ac hi]at hc;rw[bp hc]
  rw[G]at j;unfold wF at j;split at j
  .rename_i hm;calc⟨_,rL,.inl ⟨rL,_,bB.of F⟩,_,rL,L,_,[c],rL,rL,F,bd.mpr ⟨c,hm,rL⟩,by rw[aa];lia,?_⟩;calc JA _ (us.erase c) ⟨rL,Z.dF hL,by rw[sV];show aq,?_,j⟩;have:=(kP (a:=c) (l:=us)).length_le;lia
  .cases j
 .intro σ I z;let⟨O,us,rfl,Z,F,Jz,j⟩:=z;rw[l_]at j;cases j;show⟨_,rL,q L I Z hL F⟩
def RQ:Sp:=λvs H Q _=>∃(bL l m:List Nat) (a:Addr),vs=[.str (S bL),.ref a]/\H a=some (.lst (Ts (l.map λc=>[c])))/\bL.length<=63/\l.length<=63/\wF bL l=some m/\∀p H',aB H H'->H p=none->H' p=some (.lst (Ts (m.map λc=>[c])))->Q (.ref p) H'
def aaF (D:aM K mg "_law_taken" yV ["_law_rack","_law_tiles_here"])(ig:mg "list"=none):bV P w K mg base "_law_taken" 1 ["_law_rack","_law_tiles_here"] RQ:=by
 calc D.cZ rZ (λf bG A outer s H vs Q E hr h=>?_);let⟨bL,l,m,a,rfl,ha,Y,l63,hrm,q⟩:=h;calc⟨_,(aA (aU (i:=2) rZ.nd rL (Or.inl rL) (eU (m_ rL) pk ig fk (aj aG ao))) (aA (fD cK rL (mG aW) (bC (i:=3) rZ.nd rL (Or.inl rL)) (aF (cR (fJ bu ip iq wU bA (aj bI ao))))) (aF (bf bA)))),?_⟩;calc⟨_,rL,bL,rL,o6,λL O=>?_⟩;refine⟨_,rL,a,rL,⟨_,bB.of (aB.upd O _ _ ha)⟩,lF (K:=K) (a:=a) (xs:=Ts (l.map λc=>[c])) (λi σ I=>∃(Z:Option V) (us:List Nat),σ=[some (.str (S bL)),some (.ref a),some (.ref L),Z]/\aB H I/\I L=some (.lst (Ts (us.map λc=>[c])))/\us.length<=63/\wF us (l.drop i)=some m)
  (JA none bL ⟨rL,aB.upd O,aq,Y,by rw[js];show hrm⟩) (λi σ I _ h=>by let⟨_,_,_,J,_⟩:=h;show bB.of (J _ _ ha)) ?_ ?_⟩
 .intro i x σ I hx z;let⟨Z,us,rfl,J,F,Jz,j⟩:=z;let⟨y,hy,rfl⟩:=wg hx;rw[ck]at hy;let⟨c,hc,rfl⟩:=dv.mp hy;let hi:i<l.length:=(ag.mp hc).1;let G:l.drop i=c::l.drop (i+1):=by
   rw[fS hi];rw[ac hi]at hc;rw[bp hc]
  rw[G]at j;unfold wF at j;split at j
  .rename_i hm;calc⟨_,rL,.inl ⟨rL,_,bB.of F⟩,_,rL,L,_,[c],rL,rL,F,bd.mpr ⟨c,hm,rL⟩,by rw[aa];lia,?_⟩;calc JA _ (us.erase c) ⟨rL,J.dF O,by rw[sV];show aq,?_,j⟩;have:=(kP (a:=c) (l:=us)).length_le;lia
  .cases j
 .intro σ I z;let⟨Z,us,rfl,J,F,Jz,j⟩:=z;rw[aa,aa,l_]at j;cases j;show⟨_,rL,q L I J O F⟩
structure O6 (K:W.Frag)(CR:Addr)(c:Q_):Prop where
 Bs:W.exmOne K (.ref c.Bs) (.ref CR)=some true
 Bt:W.exmOne K (.ref c.Bt) (.ref CR)=some true
 gap:W.exmOne K (.ref c.gap) (.ref CR)=some true
 Bu:W.exmOne K (.ref c.Bu) (.ref CR)=some true
 Bv:W.exmOne K (.ref c.Bv) (.ref CR)=some true
 nw:W.exmOne K (.ref c.nw) (.ref CR)=some true
def O6.of {CR:Addr}{c:Q_}(R:O6 K CR c){H:Hp}{cls:Value}{dd:Option Addr}{v:Vd}(h:VdX c H cls dd v):W.exmOne K cls (.ref CR)=some true:=by
 cases v with
 | ok=>show h.elim
 | Bs i j=>let⟨rfl,_⟩:=h;show R.Bs
 | Bt=>let⟨rfl,_⟩:=h;show R.Bt
 | gap i j=>let⟨rfl,_⟩:=h;show R.gap
 | Bu=>let⟨rfl,_⟩:=h;show R.Bu
 | Bv t=>let⟨rfl,_⟩:=h;show R.Bv
 | nw l=>let⟨rfl,_⟩:=h;show R.nw
def aaG (C CB:Addr):Sp:=λvs H Q _=>∃(b k kd t:Addr) (ws:AB) (bL:List Nat) (as:List Addr) (ts:List bR) (r w:Nat) (aD aL:AB) (bi bj:Nat),vs=[.ref b,.ref k,.str (S bL),.ref t]/\cM C H b r w aD aL bi bj/\gO CB H k kd ws/\bL.length<=63/\H t=some (.tup (as.map V.ref))/\eE H as ts/\(∀t∈ts,inB r w t)/\0<ts.length/\ts.length<=7/\jG (ts.map nF)=true/\
 ∀(o:Bool) H',aB H H'->(o=true->rN aD r w bi bj ws bL ts .ok)->Q (.bl o) H'
def aeE {C CB CR:Addr}{c:Q_}(D:aM K mg "_law_lets" Jh ["_law_board","_law_book","_law_rack","_law_laying_here"])(I:mg "RackError"=some (.ref CR))(R:O6 K CR c)(tu:DefX P w K mg base "check_laying" 14 ["board","book","rack","laying"] (KN K C CB c)):bV P w K mg base "_law_lets" 16 ["_law_board","_law_book","_law_rack","_law_laying_here"] (aaG C CB):=by
 calc D.cZ aej (λf bG A outer s H vs Q E J h=>?_);let⟨b,k,kd,t,ws,bL,as,ts,r,w,aD,aL,bi,bj,rfl,O,Y,j,ht,hL,dU,h0,h7,Z,q⟩:=h;calc⟨_,(aA (aei rL rL pk I (λpn xe E0 σ0 hp hx=>(aF (cR (nW tu J.mono rL hx (aj aG (aj aW (aj bA (aj bI ao)))))))) (λ_=>(aF (bf iu)))) (aF (bf iu))),?_⟩;refine⟨λcls dd H'=>∃v,VdX c H' cls dd v/\aB H H',?_,λa cls dd H' he na=>?_⟩
 .calc⟨rL,_,rL,_,rL,_,rL,_,rL,b,k,kd,ws,bL,.ref t,r,w,aD,aL,bi,bj,rL,O,Y,j,.inr (JE t as ts ⟨rL,ht,hL,dU,h0,h7,Z,λv cls dd H' G hx F=>⟨v,hx,F⟩,λG H1 s1=>?_⟩)⟩;show q true H1 s1 λ_=>G
 .let⟨v,hx,F⟩:=he;show⟨R.of hx,q false _ (F.trans (aB.upd na)) λz=>by cases z⟩
def tD:Sp:=λvs H Q _=>∃(c:Int) (m:Nat),vs=[.int c,.int m]/\m<=100/\∀(p:Addr) (ds:List Int) (H':Hp),aB H H'->H p=none->H' p=some (.lst (ds.map V.int))->ds.length=m->Q (.ref p) H'
def aaH (D:aM K mg "_law_stream" zT ["_law_cell","_law_many"])(J:mg "range"=none):bV P w K mg base "_law_stream" 1 ["_law_cell","_law_many"] tD:=by
 calc D.cZ mO (λf bG A outer s H vs Q E Z h=>?_);let⟨c,m,rfl,hm,q⟩:=h;calc⟨_,(aA (aU (i:=2) mO.nd rL (Or.inl rL) (h_ ao)) (aA (aU (i:=3) mO.nd rL (Or.inl rL) (aJ cF aG au)) (aA (cB (bM iH (aJ bY aG au) au (bF _)) (aA (fD cK rL (um pk J (aj aW ao)) (bC (i:=4) mO.nd rL (Or.inl rL)) (aA (cR (fJ bu de df iG bA (aj (aJ bY bI (aJ Pn au au)) ao))) (aF (aU (i:=3) mO.nd rL (Or.inl rL) (aJ Gu bI (aJ Pn au au)))))) (aF (bf bA))) bJ) (aA (aU (i:=3) mO.nd rL (Or.inl rL) (aJ bY bI au)) (aA (fD cK rL (um pk J (aj (aJ cG aW au) ao)) (bC (i:=4) mO.nd rL (Or.inl rL)) (aA (aU (i:=3) mO.nd rL (Or.inl rL) (aJ bY (aJ cG (aJ cG (aJ cG (aJ iK bI bI) (aJ iK au bI)) (aJ iK au cL)) au) au)) (aF (cR (fJ bu de df iG bA (aj (aJ cG (aJ iK (aJ bY (aJ iK bI au) au) au) (aJ bY bI au)) ao)))))) (aF (bf (dh vD bA (dD au) d8)))))))),?_⟩;calc⟨zsz 0,λp hp=>?_⟩;calc⟨_,rL,_,_,rL,rL,⟨pj,pj⟩,?_⟩;calc⟨_,rL,_,_,rL,rL,(by show (0:Int)<2;decide),rL,_,rL,?_⟩;refine i_ (λ_=>?_) (λ_=>?_)
 .calc⟨_,rL,_,rL,o6,o6,?_⟩;rw[dP];refine oh (n:=m) (lo:=0) (λi σ F=>∃(n:Int) (I:Option V) (ds:List Int),σ=[some (.int c),some (.int m),some (.ref p),some (.int n),I]/\aB H F/\F p=some (.lst (ds.map V.int))/\ds.length=i)
   (JE _ none [] ⟨rL,aB.upd hp,aq,rL⟩) ?_ ?_
  .intro i σ F hi z;let⟨n,I,ds,rfl,G,j,hl⟩:=z;calc⟨_,rL,.inl ⟨rL,_,bB.of j⟩,_,rL,_,_,rL,rL,⟨pj,pj,pj⟩,_,_,rL,rL,(by show (0:Int)<10^20;decide),?_⟩;calc JE p _ _ ⟨rL,rL,j,by rw[aa,hl];show aK o6,?_⟩;calc⟨_,rL,_,_,rL,rL,⟨pj,pj,pj⟩,_,_,rL,rL,⟨by show (0:Int)<10^20;decide,pS⟩,?_⟩;show JE _ _ (ds++[n%(10:Int)^(20:Int).toNat]) ⟨rL,G.dF hp,by rw[aq];simp,by simp[hl]⟩
  .intro σ F z;let⟨n,I,ds,rfl,G,j,hl⟩:=z;show⟨_,rL,q p ds F G hp j hl⟩
 .calc⟨_,rL,_,_,rL,rL,(by show (0:Int)<2305843009213693951;decide),?_⟩;calc⟨_,rL,_,_,rL,rL,_,rL,o6,o6,?_⟩;let O:((m:Int)+1).toNat=m+1:=o6;rw[O];refine oh (n:=m+1) (lo:=0) (λi σ F=>∃(n:Int) (I:Option V) (ds:List Int),σ=[some (.int c),some (.int m),some (.ref p),some (.int n),I]/\aB H F/\F p=some (.lst (ds.map V.int))/\ds.length=i/\0<=n/\n<2305843009213693951)
   (JE _ none [] ⟨rL,aB.upd hp,aq,rL,du _ pj,dC _ pj⟩) ?_ ?_
  .intro i σ F hi z;let⟨n,I,ds,rfl,G,j,hl,Y,n1⟩:=z;calc⟨_,rL,_,rL,_,_,rL,rL,.inl ⟨o6,o6⟩,_,rL,_,_,rL,rL,.inl ⟨pj,pj⟩,_,_,rL,rL,_,rL,_,_,rL,rL,.inl ⟨pj,pj⟩,_,_,rL,rL,_,_,rL,rL,_,_,rL,rL,(by show (0:Int)<2305843009213693951;decide),?_⟩;calc⟨_,rL,.inl ⟨rL,_,bB.of j⟩,?_⟩;calc⟨_,rL,_,_,rL,rL,.inr ⟨pj,pj⟩,_,_,rL,rL,(by show (0:Int)<2147483629;decide),_,_,rL,rL,.inr ⟨pj,pj⟩,_,rL,_,_,rL,rL,(by show (0:Int)<2147483587;decide),_,_,rL,rL,?_⟩;calc JE p _ _ ⟨rL,rL,j,by rw[aa,hl];show aK o6,?_⟩;show JE _ _ (ds++[_]) ⟨rL,G.dF hp,by rw[aq];simp;rfl,by simp[hl],du _ pj,dC _ pj⟩
  .intro σ F z;let⟨n,I,ds,rfl,G,j,hl,Y,n1⟩:=z;calc⟨_,rL,_,rL,p,_,rL,bB.of j,λt ht=>?_⟩;let e:gH (ds.map V.int) (some 1) none=(ds.drop 1).map V.int:=by
    unfold gH;let e1:HT.cV (ds.map V.int).length 0 (some 1)=min 1 (ds.map V.int).length:=HT.kO _ _ 1;rw[e1,aa,hl];show List.take (m+1-min 1 (m+1)) (List.drop (min 1 (m+1)) (ds.map V.int))=_;rw[show min 1 (m+1)=1 by lia,b9 (by rw[bc,aa];lia),nV]
   rw[e];show q t (ds.drop 1) _ (G.dF (G.free ht)) (G.free ht) aq (by rw[bc];lia)
def aaI:Sp:=λvs H Q _=>∃c:Int,vs=[.int c]/\∀ls:List Nat,Xw ls->ls.length<=4->Q (.str (S ls)) H
def Yl (D:aM K mg "_law_letters" xu ["_law_cell"])(G:mg "range"=none):bV P w K mg base "_law_letters" 1 ["_law_cell"] aaI:=by
 calc D.cZ qR (λf bG A outer s H vs Q E I h=>?_);let⟨c,rfl,q⟩:=h;calc⟨_,(aA (aU (i:=1) qR.nd rL (Or.inl rL) (bH AL pS)) (aA (aU (i:=2) qR.nd rL (Or.inl rL) (bH [] pS)) (aA (fD cK rL (um pk G (aj (aJ cG au (aJ bY (aJ cF aG au) au)) ao)) (bC (i:=3) qR.nd rL (Or.inl rL)) (aF (aU (i:=2) qR.nd rL (Or.inl rL) (aJ mF bA (aX zM aW (aJ bY (aJ cG (aJ cF aG au) (aJ iK bI (aJ cG au (aJ bY (aJ cF aG au) au)))) au) (λ_ _=>rfl)))))) (aF (bf bA))))),?_⟩;let J:=du (c/8) (show (3:Int)≠0 by decide);let O:=dC (c/8) (show (0:Int)<3 by decide);calc⟨_,rL,_,_,rL,rL,⟨pj,pj⟩,_,_,rL,rL,(by show (0:Int)<3;decide),_,_,rL,rL,_,rL,o6,o6,?_⟩;refine oh (lo:=0) (λi σ j=>j=H/\∃(F:Option V) (ls:List Nat),σ=[some (.int c),some (.str (S AL)),some (.str (S ls)),F]/\ls.length=i/\∀c∈ls,isLet c) ⟨rL,none,[],rL,rL,λc h=>by simp at h⟩ ?_ ?_
 .intro i σ j hi z;let⟨rfl,F,ls,rfl,hl,ha⟩:=z;let⟨x,hx,hm⟩:=vG (xs:=AL) (n:=26) pj pj (c/24+(0+(i:Int))*(1+c/624%8));calc⟨_,rL,_,rL,_,rL,_,_,rL,rL,⟨pj,pj⟩,_,rL,_,rL,_,_,rL,rL,⟨pj,pj⟩,_,_,rL,rL,(by show (0:Int)<8;decide),_,_,rL,rL,_,_,rL,rL,.inl ⟨o6,o6⟩,_,_,rL,rL,_,_,rL,rL,(by show (0:Int)<26;decide),?_⟩;calc JE AL _ x ⟨rL,rL,pj,hx,ls,[x],rL,rL,?_,?_⟩;.show ap (aK (by show ls.length+1<=1000;lia))
  .calc⟨rL,_,ls++[x],rL,by simp[hl],λy hy=>?_⟩;rcases bz.mp hy with z|z;.show ha y z
   .rw[aS.mp z];show aif x hm
 .intro σ j z;let⟨rfl,F,ls,rfl,hl,ha⟩:=z;show⟨_,rL,q ls ⟨o6,o6,ha⟩ o6⟩
def RT:Sp:=λvs H Q _=>∃(c:Int) (ls:List Nat),vs=[.int c,.str (S ls)]/\Xw ls/\∀(p:Addr) (ws:AB) (H':Hp),aB H H'->H p=none->H' p=some (.lst (Ts ws))->4<=ws.length->ws.length<=12->(∀l∈ws,yj l)->Q (.ref p) H'
def K8 (D:aM K mg "_law_words" Er ["_law_cell","_law_letters_here"])(d_:mg "range"=none)(bh:mg "len"=none)(nG:bV P w K mg base "_law_stream" 1 ["_law_cell","_law_many"] tD):bV P w K mg base "_law_words" 2 ["_law_cell","_law_letters_here"] RT:=by
 calc D.cZ lV (λf bG A outer s H vs Q E hr h=>?_);let⟨c,ls,rfl,hA,q⟩:=h;let a1:=hA.lo;let a2:=hA.hi;let d0:=du c (show (9:Int)≠0 by decide);let d1:=dC c (show (0:Int)<9 by decide);calc⟨_,(aA (aU (i:=2) lV.nd rL (Or.inl rL) (h_ ao)) (aA (fD cK rL (mG (bD nG hr.mono rL (aj aG (aj (aJ cG au (aJ bY aG au)) ao)))) (bC (i:=3) lV.nd rL (Or.inl rL)) (aA (aU (i:=4) lV.nd rL (Or.inl rL) (aJ cG au (aJ bY bI au))) (aA (fO (cB (bM iH (aJ bY (aJ cF bI au) au) au (bF _)) (aF (aU (i:=4) lV.nd rL (Or.inl rL) (aJ cG au (aJ bY (aJ cF bI au) au)))) bJ)) (aA (aU (i:=5) lV.nd rL (Or.inl rL) (bH [] pS)) (aA (aU (i:=6) lV.nd rL (Or.inl rL) (aJ cF bI au)) (aA (fD cK rL (um pk d_ (aj cL ao)) (bC (i:=7) lV.nd rL (Or.inl rL)) (aA (aU (i:=5) lV.nd rL (Or.inl rL) (aJ mF cT (aX zM aW (aJ bY dW (aV cY pk bh ay (aj aW ao))) (λ_ _=>rfl)))) (aF (aU (i:=6) lV.nd rL (Or.inl rL) (aJ cF dW (aV cY pk bh ay (aj aW ao))))))) (aF (cR (fJ bu de df iG bA (aj cT ao)))))))))) (aF (bf bA)))),?_⟩;calc⟨zsz 0,λL hL=>?_⟩;let sL:aB H (upd H L (HO.lst [])):=aB.upd hL;let eL:upd H L (HO.lst []) L=some (.lst (Ts [])):=aq;generalize upd H L (HO.lst [])=H0 at sL eL ⊢;calc⟨_,rL,_,rL,_,_,rL,rL,(by show (0:Int)<9;decide),_,_,rL,rL,c,(4+c%9).toNat,(by rw[cw o6];rfl),o6,λp ds H1 s1 O hp hdl=>?_⟩;refine⟨p,rL,⟨_,bB.of hp⟩,lF (K:=K) (a:=p) (xs:=ds.map V.int) (λi σ I=>∃(v3 v4 Y Z J:Option V) (ws:AB),σ=[some (.int c),some (.str (S ls)),some (.ref L),v3,v4,Y,Z,J]/\(∀b o,H1 b=some o->b≠L->I b=some o)/\I L=some (.lst (Ts ws))/\ws.length=i/\∀l∈ws,yj l)
  (JO none none none none none [] ⟨rL,λ_ _ e _=>e,s1 _ _ eL,rL,λl h=>by cases h⟩) (λi σ I _ h=>?_) ?_ ?_⟩
 .let⟨_,_,_,_,_,_,_,kp,_⟩:=h;show bB.of (kp _ _ hp λz=>by subst z;rw[eL]at O;cases O)
 .intro i x σ I hx z;let⟨v3,v4,Y,Z,J,ws,rfl,kp,F,G,hw⟩:=z;rw[ck]at hx;let⟨n,hn,rfl⟩:=dv.mp hx;let hi:i<ds.length:=(ag.mp hn).1;let e0:=du n (show (3:Int)≠0 by decide);let e1:=dC n (show (0:Int)<3 by decide);let f0:=du (n/24) (show (8:Int)≠0 by decide);let f1:=dC (n/24) (show (0:Int)<8 by decide);calc⟨_,rL,_,_,rL,rL,(by show (0:Int)<3;decide),_,_,rL,rL,?_⟩;refine⟨λσ H'=>H'=I/\∃m:Nat,σ=[some (.int c),some (.str (S ls)),some (.ref L),some (.int n),some (.int m),Y,Z,J]/\2<=m/\m<=9,?_,?_⟩
  .calc⟨_,rL,_,_,rL,rL,⟨pj,pj⟩,_,_,rL,rL,(by show (0:Int)<8;decide),rL,_,rL,?_⟩;calc i_ (λ_=>?_) (λ_=>?_);.show⟨_,rL,_,_,rL,rL,⟨pj,pj⟩,_,_,rL,rL,(by show (0:Int)<8;decide),_,_,rL,rL,rL,(2+n/24%8).toNat,by rw[cw o6];rfl,o6,o6⟩
   .show⟨rL,(2+n%3).toNat,by rw[cw o6];rfl,o6,o6⟩
  .intro σ H' z;let⟨rfl,m,rfl,m2,m9⟩:=z;calc⟨_,rL,_,_,rL,rL,⟨pj,pj⟩,?_⟩;calc⟨_,rL,_,rL,o6,o6,?_⟩;refine oh (lo:=0) (λj σ H3=>H3=H'/\∃(kv:Option V) (l:List Nat) (r:Int),σ=[some (.int c),some (.str (S ls)),some (.ref L),some (.int n),some (.int m),some (.str (S l)),some (.int r),kv]/\l.length=j/\∀c∈l,isLet c) ⟨rL,J,[],_,rL,rL,λc h=>by cases h⟩ ?_ ?_
   .intro j σ H3 hj z;let⟨rfl,kv,l,r,rfl,hl,ha⟩:=z;let hz:ls.length<=sizeLine:=ap (aK o6);let⟨x,hx,hm⟩:=vG (xs:=ls) (n:=ls.length) rL o6 r;calc⟨_,rL,_,rL,_,rL,_,rL,ls,rL,hz,_,_,rL,rL,(by show (0:Int)<_;lia),ls,_,x,rL,rL,hz,hx,l,[x],rL,rL,?_,?_⟩;.show ap (aK (by show l.length+1<=1000;lia))
    .calc⟨_,rL,_,rL,ls,rL,hz,_,_,rL,rL,⟨by show (0:Int)<_;lia,by show (ls.length:Int)<_;lia⟩,rL,_,l++[x],_,rL,by simp[hl],λy hy=>?_⟩;rcases bz.mp hy with z|z;.show ha y z
     .rw[aS.mp z];show hA.az x hm
   .intro σ H3 z;let⟨rfl,kv,l,r,rfl,hl,ha⟩:=z;calc⟨_,rL,.inl ⟨rL,_,bB.of F⟩,_,rL,L,_,.str (S l),rL,rL,F,aK (by rw[aa];lia),?_⟩;calc JO _ _ _ _ _ (ws++[l]) ⟨rL,λb o e ne=>by rw[aP ne];show kp b o e ne,by rw[aq];simp[Ts],by simp[G],λy hy=>?_⟩;rcases bz.mp hy with z|z;.show hw y z
    .rw[aS.mp z];show⟨o6,o6,ha⟩
 .intro σ I z;let⟨v3,v4,Y,Z,J,ws,rfl,kp,F,G,hw⟩:=z;rw[aa,hdl]at G;show⟨_,rL,q L ws I (λb o e=>kp _ _ (s1 _ _ (sL _ _ e)) (aY e hL)) hL F o6 o6 hw⟩
def RW:Sp:=λvs H Q _=>∃(c bl:Int) (ls:List Nat) (m:Nat),vs=[.int c,.str (S ls),.int m,.int bl]/\Xw ls/\m<=100/\∀(l:List Nat) (H':Hp),aB H H'->l.length=m->(∀c∈l,nU c)->Q (.str (S l)) H'
def aci (D:aM K mg "_law_tiles" Es ["_law_cell","_law_letters_here","_law_many","_law_blanks"])(bh:mg "len"=none)(nG:bV P w K mg base "_law_stream" 1 ["_law_cell","_law_many"] tD):bV P w K mg base "_law_tiles" 2 ["_law_cell","_law_letters_here","_law_many","_law_blanks"] RW:=by
 calc D.cZ vY (λf bG A outer s H vs Q E hr h=>?_);let⟨c,bl,ls,m,rfl,O,hm,q⟩:=h;let a1:=O.lo;let a2:=O.hi;let hz:ls.length<=sizeLine:=ap (aK o6);calc⟨_,(aA (aU (i:=4) vY.nd rL (Or.inl rL) (bH [] pS)) (aA (fD cK rL (mG (bD nG hr.mono rL (aj aG (aj bA ao)))) (bC (i:=5) vY.nd rL (Or.inl rL)) (aF (cB (QW.qt (vP (bM iH (aJ bY cT au) au (bF _)) (yP (bM uT (fJ bq PySem.F.slot_str_count PySem.F.type_str_count ZL cL (aj (bH [63] pS) ao)) bI (bF _))))) (aF (aU (i:=4) vY.nd rL (Or.inl rL) (aJ mF cL (bH [63] pS)))) (aF (aU (i:=4) vY.nd rL (Or.inl rL) (aJ mF cL (aX zM aW (aJ bY (aJ cF cT au) (aV cY pk bh ay (aj aW ao))) (λ_ _=>rfl)))))))) (aF (bf cL)))),?_⟩;calc⟨_,rL,_,rL,c,m,rL,hm,λp ds H1 s1 hp0 hp Y=>?_⟩;refine⟨p,rL,⟨_,bB.of hp⟩,lF (K:=K) (a:=p) (xs:=ds.map V.int) (λi σ I=>I=H1/\∃(J:Option V) (l:List Nat),σ=[some (.int c),some (.str (S ls)),some (.int m),some (.int bl),some (.str (S l)),J]/\l.length=i/\∀c∈l,nU c)
  ⟨rL,none,[],rL,rL,λc h=>by cases h⟩ (λi σ I _ h=>by let⟨rfl,_⟩:=h;show bB.of hp) ?_ ?_⟩
 .intro i x σ I hx z;let⟨rfl,J,l,rfl,hl,ht⟩:=z;rw[ck]at hx;let⟨n,hn,rfl⟩:=dv.mp hx;let hi:i<ds.length:=(ag.mp hn).1;let j:l.length+1<=sizeLine:=ap (aK o6);let G:∀x,nU x->(I=I/\∃(J:Option V) (Z:List Nat),[some (V.int c),some (.str (S ls)),some (.int m),some (.int bl),some (.str (S (l++[x]))),some (.int n)]=[some (.int c),some (.str (S ls)),some (.int m),some (.int bl),some (.str (S Z)),J]/\Z.length=i+1/\∀c∈Z,nU c):=λx hx=>⟨rL,_,l++[x],rL,by simp[hl],λy hy=>by
   rcases bz.mp hy with z|z;.show ht y z
   .rw[aS.mp z];show hx⟩
  let⟨y,hy,hym⟩:=vG (xs:=ls) (n:=ls.length) rL o6 (n/9);let F:=(show nU y from .inl (O.az y hym))
  calc⟨_,rL,_,_,rL,rL,(by show (0:Int)<9;decide),rL,_,rL,?_⟩;refine i_ (λ_=>?_) (λ_=>?_)
  .calc⟨_,rL,rL,l,[63],rL,rL,λk=>⟨_,rL,_,_,rL,rL,_,rL,?_⟩⟩;calc i_ (λ_=>?_) (λ_=>?_);.show⟨_,rL,l,[63],rL,rL,j,G 63 (.inr rL)⟩
   .show⟨_,rL,_,rL,_,rL,_,_,rL,rL,⟨pj,pj⟩,_,rL,ls,rL,hz,_,_,rL,rL,(by show (0:Int)<_;lia),ls,_,y,rL,rL,hz,hy,l,[y],rL,rL,j,G y F⟩
  .show⟨_,rL,_,rL,_,rL,_,_,rL,rL,⟨pj,pj⟩,_,rL,ls,rL,hz,_,_,rL,rL,(by show (0:Int)<_;lia),ls,_,y,rL,rL,hz,hy,l,[y],rL,rL,j,G y F⟩
 .intro σ I z;let⟨rfl,J,l,rfl,hl,ht⟩:=z;rw[aa,Y]at hl;show⟨_,rL,q l I s1 hl ht⟩
def chunk (r k:Nat)(cs:List Nat):List (List Nat):=(List.range r).map λi=>(cs.drop (i*k)).take k
def Nh {r k:Nat}{cs:List Nat}(h:cs.length=r*k):Blk r k (chunk r k cs):=by
 calc⟨by simp[chunk],λl hl=>?_⟩;let⟨i,hi,rfl⟩:=bd.mp hl;let j:=gp.mp hi;let D:i*k+k<=r*k:=by have:(i+1)*k<=r*k:=mI k j;rw[ot]at this;show this
 rw[am,bc];lia
def Ni {r k:Nat}{cs:List Nat}{j:Nat->Prop}(h:∀c∈cs,j c):∀l∈chunk r k cs,∀c∈l,j c:=by intro l hl c D;let⟨i,hi,rfl⟩:=bd.mp hl;show h c (ed (cE D))
def V7:Sp:=λvs H Q _=>∃(c:Int) (ls:List Nat),vs=[.int c,.str (S ls)]/\Xw ls/\
 ∀(t pr pm pb:Addr) (r w:Nat) (aD aL:AB) (i j:Nat) (H':Hp),aB H H'->H' t=some (.tup [.ref pr,.ref pm,.ref pb])->H' pr=some (.tup (Ts aD))->H' pm=some (.tup (Ts aL))->H' pb=some (.tup [.int i,.int j])->Qq r w aD aL i j->Q (.ref t) H'
def acj:List Nat:=MK++(List.replicate 8 [46]).flatten
def aeF:∀c∈acj,Jk c:=by unfold Jk;decide
def acn (cs:List Nat)(j x:Nat):(Ts (ones cs)).set j (.str (S [x]))=Ts (ones (cs.set j x)):=by simp only[Ts,ones,mE]
def mem_set {cs:List Nat}{j x:Nat}{p:Nat->Prop}(h:∀c∈cs,p c)(hx:p x):∀c∈cs.set j x,p c:=λc D=>by
 rcases ft D with e|e;.show h c e
 .rw[e];show hx
def adx {y:Nat}(h:isLet y):PyProof.Rows.up1 y=y-32:=by let h1:=h.1;let h2:=h.2;unfold PyProof.Rows.up1;rw[if_pos o6]
def aeG (D:aM K mg "_law_rows" Jg ["_law_cell","_law_letters_here"])(d_:mg "range"=none)(bh:mg "len"=none)(cI:mg "tuple"=none)(nG:bV P w K mg base "_law_stream" 1 ["_law_cell","_law_many"] tD):bV P w K mg base "_law_rows" 2 ["_law_cell","_law_letters_here"] V7:=by
 calc D.cZ jE (λf bG A outer s H vs Q E hr h=>?_);let⟨c,ls,rfl,hA,q⟩:=h;let a1:=hA.lo;let a2:=hA.hi;let hz:ls.length<=sizeLine:=ap (aK o6);calc⟨_,(aA (aU (i:=2) jE.nd rL (Or.inl rL) (aJ cG au (aJ bY aG au))) (aA (aU (i:=3) jE.nd rL (Or.inr rL) (aJ cG au (aJ bY (aJ cF aG au) au))) (aA (fO (cB (bM iH (aJ bY (aJ cF aG au) au) au (bF _)) (aA (aU (i:=2) jE.nd rL (Or.inl rL) (aJ cG au (aJ bY (aJ cF aG au) au))) (aF (aU (i:=3) jE.nd rL (Or.inr rL) (aJ cG au (aJ bY (aJ cF aG au) au))))) bJ)) (aA (aU (i:=4) jE.nd rL (Or.inl rL) (aJ Zi (h_ (aj (bH [46] pS) ao)) (aJ iK bA bI))) (aA (aU (i:=5) jE.nd rL (Or.inl rL) (h_ ao)) (aA (fD cK rL (mG (bD nG hr.mono rL (aj (aJ cG aG au) (aj (aJ iK bA bI) ao)))) (bC (i:=6) jE.nd rL (Or.inl rL)) (aA (cR (fJ bu de df iG cT (aj (aX zM (aJ mF (bH [46,50,51,52,98,99,100] pS) (aJ adZ (bH [46] pS) au)) (aJ bY (aJ cF dW au) au) (λ_ _=>rfl)) ao))) (aF (fO (cB (QW.qt (vP (bM iH (aJ bY (aJ cF aG au) au) au (bF _)) (yP (bM iH (aJ bY dW au) au (bF _))))) (aA (aU (i:=7) jE.nd rL (Or.inl rL) (aX zM aW (aJ bY (aJ cF dW au) (aV cY pk bh ay (aj aW ao))) (λ_ _=>rfl))) (aA (fO (cB (bM iH (aJ bY (aJ cF dW au) au) au (bF _)) (aF (aU (i:=7) jE.nd rL (Or.inl rL) (qJ bq PySem.F.slot_str_upper PySem.F.type_str_upper ZC iw))) bJ)) (aF (pH iw (PX cL (aJ bY (aJ cF dW au) (aV bW pk bh ay (aj cL ao))) set_list))))) bJ))))) (aA (aU (i:=8) jE.nd rL (Or.inl rL) (cO (aj (aJ bY (aJ cF aG au) bA) (aj (aJ bY (aJ cF aG au) bI) ao)))) (aA (aU (i:=9) jE.nd rL (Or.inl rL) (h_ ao)) (aA (fD cK rL (mG (h_ (aj cL (aj cT ao)))) (bC (i:=10) jE.nd rL (Or.inr rL)) (aF (cR (fJ bu de df iG jP (aj (eU iZ pk cI c_ (aj (jB rL (jc.of jE.nd pE) (ZD pk d_ (aj au (aj (aV bW pk bh ay (aj jd ao)) (aj bI ao)))) (λ_ _ _ _ _=>dR) (λ_ _ _ _ _=>(Qc K bq dq dr (Gw K) (bH [] pS) (aj (dh (abE K) nP (dD aG) (dD (aJ cG aG cL))) ao)))) ao)) ao))))) (aF (bf (cO (aj (aX fH jP au (λ_ _=>rfl)) (aj (aX fH jP au (λ_ _=>rfl)) (aj jq ao))))))))))))))),?_⟩;calc⟨_,rL,_,_,rL,rL,(by show (0:Int)<5;decide),_,_,rL,rL,?_⟩;calc⟨_,rL,_,_,rL,rL,⟨pj,pj⟩,_,_,rL,rL,(by show (0:Int)<5;decide),_,_,rL,rL,?_⟩;refine⟨λσ H'=>H'=H/\∃r w:Nat,σ=[some (.int c),some (.str (S ls)),some (.int r),some (.int w),none,none,none,none,none,none,none]/\1<=r/\r<=9/\1<=w/\w<=9,?_,?_⟩
 .calc⟨_,rL,_,_,rL,rL,⟨pj,pj⟩,_,_,rL,rL,(by show (0:Int)<8;decide),rL,_,rL,?_⟩;refine i_ (λ_=>?_) (λ_=>?_)
  .calc⟨_,rL,_,_,rL,rL,⟨pj,pj⟩,_,_,rL,rL,(by show (0:Int)<8;decide),_,_,rL,rL,?_⟩;calc⟨_,rL,_,_,rL,rL,⟨pj,pj⟩,_,_,rL,rL,(by show (0:Int)<8;decide),_,_,rL,rL,rL,(2+c/200%8).toNat,(2+c/1600%8).toNat,?_,o6,o6,o6,o6⟩;rw[cw o6,cw o6];rfl
  .calc⟨rL,(2+c%5).toNat,(2+c/5%5).toNat,?_,o6,o6,o6,o6⟩;rw[cw o6,cw o6];rfl
 intro σ H' z;let⟨rfl,r,w,rfl,r1,r9,w1,w9⟩:=z;let hrw:r*w<=81:=fR r9 w9;let ajB:1<=r*w:=fR r1 w1;let erw:(r:Int)*(w:Int)=((r*w:Nat):Int):=by push_cast;rfl
 calc⟨zsz 1,λL0 h0=>?_⟩;calc⟨_,rL,_,rL,_,_,rL,rL,.inl ⟨o6,o6⟩,L0,_,_,rL,rL,aq,by rw[erw];lia,by rw[erw];lia,?_,λL hL=>?_⟩;.rw[erw,dP];show ap (aK (by simp only[dA,mw];lia))
 rw[erw,dP];let sL:aB H' (upd (upd H' L0 (HO.lst [.str (S [46])])) L (HO.lst (List.replicate (r*w) [V.str (S [46])]).flatten)):=(aB.upd h0).trans (aB.upd hL);let eL:upd (upd H' L0 (HO.lst [.str (S [46])])) L (HO.lst (List.replicate (r*w) [V.str (S [46])]).flatten) L=some (.lst (Ts (ones (List.replicate (r*w) 46)))):=by rw[aq];congr 2;simp[Ts,ones]
 let fL:H' L=none:=by
  cases e:H' L with| none=>rfl| some o=>rw[aB.upd h0 _ _ e]at hL;cases hL
 generalize upd (upd H' L0 (HO.lst [.str (S [46])])) L (HO.lst (List.replicate (r*w) [V.str (S [46])]).flatten)=H1 at sL eL ⊢;calc⟨zsz 0,λM hM=>?_⟩;let sM:aB H1 (upd H1 M (HO.lst [])):=aB.upd hM;let eM:upd H1 M (HO.lst []) M=some (.lst (Ts (ones []))):=aq;let LM:L≠M:=aY eL hM;generalize upd H1 M (HO.lst [])=H2 at sM eM ⊢;calc⟨_,rL,_,_,rL,rL,_,rL,_,rL,_,_,rL,rL,.inl ⟨o6,o6⟩,c+3,r*w,(by show [V.int (c+3),V.int ((r:Int)*(w:Int))]=_;rw[erw]),o6,λp ds H3 s3 hp0 hp hdl=>?_⟩;let pL:p≠L:=λz=>by subst z;rw[sM _ _ eL]at hp0;cases hp0
 let pM:p≠M:=λz=>by subst z;rw[eM]at hp0;cases hp0
 refine⟨p,rL,⟨_,bB.of hp⟩,lF (K:=K) (a:=p) (xs:=ds.map V.int) (λi σ G=>∃(v6 v7:Option V) (cs F:List Nat),σ=[some (.int c),some (.str (S ls)),some (.int r),some (.int w),some (.ref L),some (.ref M),v6,v7,none,none,none]/\(∀b o,H3 b=some o->b≠L->b≠M->G b=some o)/\G L=some (.lst (Ts (ones cs)))/\cs.length=r*w/\(∀c∈cs,Bp c)/\G M=some (.lst (Ts (ones F)))/\F.length=i/\(∀c∈F,Jk c))
  (JI none none (List.replicate (r*w) 46) [] ⟨rL,λ_ _ e _ _=>e,s3 _ _ (sM _ _ eL),cy,(λc hc=>.inl (List.eq_of_mem_replicate hc)),s3 _ _ eM,rL,λc h=>by cases h⟩) (λi σ G _ h=>?_) ?_ ?_⟩
 .let⟨_,_,_,_,_,kp,_⟩:=h;show bB.of (kp _ _ hp pL pM)
 .intro i x σ G hx z;let⟨v6,v7,cs,F,rfl,kp,yZ,O,V8,Gb,J,hmk⟩:=z;rw[ck]at hx;let⟨n,hn,rfl⟩:=dv.mp hx;let hi:i<ds.length:=(ag.mp hn).1;let⟨x,hx,hxm⟩:=vG (xs:=acj) (n:=15) pj pj (n/11);calc⟨_,rL,.inl ⟨rL,_,bB.of Gb⟩,[46],8,rL,rL,pj,pj,pj,MK,_,rL,rL,pj,_,rL,_,_,rL,rL,⟨pj,pj⟩,_,_,rL,rL,(by show (0:Int)<15;decide),acj,_,x,rL,rL,pj,hx,M,_,_,rL,rL,Gb,aK (by rw[aa,aa];lia),?_⟩;let hM5:upd G M (HO.lst (Ts (ones F)++[.str (S [x])])) M=some (.lst (Ts (ones (F++[x])))):=by rw[aq];simp[Ts,ones]
  let hL5:upd G M (HO.lst (Ts (ones F)++[.str (S [x])])) L=some (.lst (Ts (ones cs))):=by rw[aP LM];show yZ
  let kp5:∀b o,H3 b=some o->b≠L->b≠M->upd G M (HO.lst (Ts (ones F)++[.str (S [x])])) b=some o:=λb o e n1 n2=>by rw[aP n2];show kp b o e n1 n2
  generalize upd G M (HO.lst (Ts (ones F)++[.str (S [x])]))=H5 at hM5 hL5 kp5 ⊢;let ag3:∀c∈F++[x],Jk c:=λy hy=>by
   rcases bz.mp hy with z|z;.show hmk y z
   .rw[aS.mp z];show aeF x hxm
  let stay:∀v7',∃(v6 v7:Option V) (cs F:List Nat),[some (V.int c),some (.str (S ls)),some (.int r),some (.int w),some (.ref L),some (.ref M),some (.int n),v7',none,none,none]=[some (.int c),some (.str (S ls)),some (.int r),some (.int w),some (.ref L),some (.ref M),v6,v7,none,none,none]/\(∀b o,H3 b=some o->b≠L->b≠M->H5 b=some o)/\H5 L=some (.lst (Ts (ones cs)))/\cs.length=r*w/\(∀c∈cs,Bp c)/\H5 M=some (.lst (Ts (ones F)))/\F.length=i+1/\(∀c∈F,Jk c):=λv7'=>(JI _ _ cs (F++[x]) ⟨rL,kp5,hL5,O,V8,hM5,by simp[J],ag3⟩)
  calc⟨λσ Y=>∃(v6 v7:Option V) (cs F:List Nat),σ=[some (.int c),some (.str (S ls)),some (.int r),some (.int w),some (.ref L),some (.ref M),v6,v7,none,none,none]/\(∀b o,H3 b=some o->b≠L->b≠M->Y b=some o)/\Y L=some (.lst (Ts (ones cs)))/\cs.length=r*w/\(∀c∈cs,Bp c)/\Y M=some (.lst (Ts (ones F)))/\F.length=i+1/\(∀c∈F,Jk c),?_,λσ Y h=>h⟩;calc⟨_,rL,_,_,rL,rL,⟨pj,pj⟩,_,_,rL,rL,(by show (0:Int)<3;decide),rL,_,rL,?_⟩;refine i_ (λ_=>?_) (λ_=>?_)
  .calc⟨_,rL,_,_,rL,rL,(by show (0:Int)<9;decide),rL,_,rL,?_⟩;refine i_ (λ_=>?_) (λ_=>?_)
   .let⟨y,hy,hym⟩:=vG (xs:=ls) (n:=ls.length) rL o6 (n/9);let yz:=hA.az y hym;calc⟨_,rL,_,rL,_,_,rL,rL,⟨pj,pj⟩,_,rL,ls,rL,hz,_,_,rL,rL,(by show (0:Int)<_;lia),ls,_,y,rL,rL,hz,hy,?_⟩;refine⟨λσ Y=>Y=H5/\∃u:Nat,σ=[some (V.int c),some (.str (S ls)),some (.int r),some (.int w),some (.ref L),some (.ref M),some (.int n),some (.str (S [u])),none,none,none]/\pK u,?_,?_⟩
    .calc⟨_,rL,_,_,rL,rL,⟨pj,pj⟩,_,_,rL,rL,(by show (0:Int)<5;decide),rL,_,rL,?_⟩;calc i_ (λ_=>?_) (λ_=>⟨rL,y,rL,Z7 yz⟩);calc⟨_,rL,rL,[y],rL,rL,(by show 1<=1000;decide),(λc hc=>by rw[aS.mp hc];have:=yz.2;lia),rL,PyProof.Rows.up1 y,rL,?_⟩;have:PyProof.Rows.up1 y=y-32:=adx yz;rw[this];show Z8 yz
    .intro σ Y z;let⟨rfl,u,rfl,hu⟩:=z;let hpos:(0:Int)<((r*w:Nat):Int):=o6;let b0:=du (n/100) (show ((r*w:Nat):Int)≠0 by lia);let b1:=dC (n/100) hpos;let pN:(Ts (ones cs)).length=r*w:=by rw[aa,aa,O]
     refine⟨_,rL,_,rL,_,rL,_,_,rL,rL,⟨pj,pj⟩,_,rL,L,_,rL,.inl (bB.of hL5),_,_,rL,rL,(by show (0:Int)<_;rw[pN];show hpos),L,_,_,(n/100%((r*w:Nat):Int)).toNat,rL,rL,hL5,?_,?_⟩
     .unfold Bm;rw[pN,if_pos o6,if_pos o6]
     .rw[acn];calc JI _ _ (cs.set (n/100%((r*w:Nat):Int)).toNat u) (F++[x]) ⟨rL,λb o e n1 n2=>by rw[aP n1];show kp5 b o e n1 n2,aq,by rw[ej];show O,mem_set V8 (.inr hu),?_,by simp[J],ag3⟩;rw[aP LM.symm];show hM5
   .show stay _
  .show stay _
 .intro σ G z;let⟨v6,v7,cs,F,rfl,kp,yZ,O,V8,Gb,J,hmk⟩:=z;rw[aa,hdl]at J;let sm:aB H' G:=λb o e=>kp _ _ (s3 _ _ (sM _ _ (sL _ _ e))) (aY e fL) (λz=>by subst z;rw[sL _ _ e]at hM;cases hM);calc⟨_,rL,_,_,rL,rL,⟨pj,pj⟩,_,rL,_,_,rL,rL,(by show (0:Int)<_;lia),_,rL,_,_,rL,rL,⟨pj,pj⟩,_,rL,_,_,rL,rL,(by show (0:Int)<_;lia),zsz 2,λpb hpb=>?_⟩;let d0:=du (c/38400) (show (r:Int)≠0 by lia);let d1:=dC (c/38400) (show (0:Int)<r by lia);let f0:=du (c/345600) (show (w:Int)≠0 by lia);let f1:=dC (c/345600) (show (0:Int)<w by lia);let sB:aB G (upd G pb (HO.tup [V.int (c/38400%r),V.int (c/345600%w)])):=aB.upd hpb;let eB:upd G pb (HO.tup [V.int (c/38400%r),V.int (c/345600%w)]) pb=some (.tup [.int ((c/38400%r).toNat:Nat),.int ((c/345600%w).toNat:Nat)]):=by
   rw[aq,cw d0,cw f0]
  generalize upd G pb (HO.tup [V.int (c/38400%r),V.int (c/345600%w)])=H5 at sB eB ⊢;calc⟨zsz 0,λT hT=>?_⟩;let sT:aB H5 (upd H5 T (HO.lst [])):=aB.upd hT;let eT:upd H5 T (HO.lst []) T=some (.lst (([]:List Addr).map V.ref)):=aq;let fT:H' T=none:=by
   cases e:H' T with| none=>rfl| some o=>rw[sB _ _ (sm _ _ e)]at hT;cases hT
  generalize upd H5 T (HO.lst [])=Y at sT eT ⊢;calc⟨_,rL,_,rL,zsz 2,λZ hZ=>?_⟩;let sZ:aB Y (upd Y Z (HO.lst [V.ref L,V.ref M])):=aB.upd hZ;let eZ:upd Y Z (HO.lst [V.ref L,V.ref M]) Z=some (.lst ([L,M].map V.ref)):=aq;let ZT:Z≠T:=(aY eT hZ).symm;generalize upd Y Z (HO.lst [V.ref L,V.ref M])=H7 at sZ eZ ⊢;let s47:aB G H7:=(sB.trans sT).trans sZ;let get:∀{i:Nat} {x:V},([L,M].map V.ref)[i]?=some x->∃a ds,x=.ref a/\[cs,F][i]?=some ds/\H7 a=some (.lst (Ts (ones ds)))/\ds.length=r*w:=λ{i x} h=>by
   match i,h with
   | 0,h=>cases h;show JA L cs ⟨rL,rL,s47 _ _ yZ,O⟩
   | 1,h=>cases h;show JA M F ⟨rL,rL,s47 _ _ Gb,J⟩
   | i+2,h=>simp at h
  refine⟨Z,rL,⟨_,bB.of eZ⟩,lF (K:=K) (a:=Z) (xs:=[L,M].map V.ref) (λi σ H8=>∃(v:Option V) (as:List Addr),σ=[some (.int c),some (.str (S ls)),some (.int r),some (.int w),some (.ref L),some (.ref M),v6,v7,some (.ref pb),some (.ref T),v]/\(∀b o,H7 b=some o->b≠T->H8 b=some o)/\H8 T=some (.lst (as.map V.ref))/\as.length=i/\∀k a ds,as[k]?=some a->[cs,F][k]?=some ds->H8 a=some (.tup (Ts (chunk r w ds))))
   (JA none [] ⟨rL,λ_ _ e _=>e,sZ _ _ eT,rL,λk a ds (h:([]:List Addr)[k]?=some a) _=>by rw[List.getElem?_nil]at h;cases h⟩) (λi σ H8 _ h=>?_) ?_ ?_⟩
  .let⟨_,_,_,kp,_⟩:=h;show bB.of (kp _ _ eZ ZT)
  .intro i x σ H8 hx z;let⟨v,as,rfl,kp8,I,hal,hch⟩:=z;let⟨a,es,rfl,hes,ha7,hel⟩:=get hx;let aT:a≠T:=wM ha7 (sZ _ _ eT) λz=>by
    injection z with z;cases es with| nil=>simp at hel;lia| cons e es=>cases z
   let ha8:=kp8 _ _ ha7 aT;let pN:(Ts (ones es)).length=r*w:=by rw[aa,aa,hel]
   let hi2:i<2:=(ag.mp hx).1;calc⟨_,rL,.inl ⟨rL,_,bB.of I⟩,_,rL,a,_,rL,.inl (bB.of ha8),_,rL,r,w,by rw[pN],r1,r9,w1,w9,λN hN=>?_⟩;refine Tq (λi ys H9=>ys=Ts ((List.range i).map λi=>(es.drop (i*w)).take w)/\H9 N=some (.lst ys)/\aB H8 H9) ⟨rL,aq,aB.upd hN⟩ ?_ ?_
   .intro k ys H9 hk z;let⟨rfl,hN9,RX⟩:=z;let e1:(0:Int)+(k:Int)*(w:Int)=((k*w:Nat):Int):=by push_cast;lia
    let e2:(0:Int)+(k:Int)*(w:Int)+(w:Int)=((k*w+w:Nat):Int):=by push_cast;lia
    let hik:k*w+w<=r*w:=by have:(k+1)*w<=r*w:=mI w hk;rw[ot]at this;show this
    calc⟨rL,_,rL,_,rL,_,rL,_,rL,_,rL,_,_,rL,rL,_,rL,a,_,rL,bB.of (RX _ _ ha8),λt ht=>?_⟩;let ec:gH (Ts (ones es)) (some ((0:Int)+(k:Int)*(w:Int))) (some ((0:Int)+(k:Int)*(w:Int)+(w:Int)))=Ts (ones ((es.drop (k*w)).take w)):=by rw[e2,e1,aek o6 (by rw[pN];show hik),k9];simp only[Ts,ones,List.map_take,nV]
    let aiq:((es.drop (k*w)).take w).length=w:=by rw[am,bc];lia
    let s3:=RX.dF (o:=HO.lst (gH (Ts (ones es)) (some ((0:Int)+(k:Int)*(w:Int))) (some ((0:Int)+(k:Int)*(w:Int)+(w:Int))))) (RX.free ht);let nLt:N≠t:=aY hN9 ht;calc JA t (ones ((es.drop (k*w)).take w)) ⟨rL,rL,bB.of (by rw[aq,ec]),by rw[lZ,aiq];lia,?_⟩;rw[lZ];calc⟨by rw[aP nLt];show hN9,by rw[aa,aa,List.length_range];show aK o6,gY.mk hk ⟨?_,aq,s3.dF hN⟩⟩;rw[List.range_succ,bv];simp[Ts]
   .intro ys H9 z;let⟨rfl,hN9,RX⟩:=z;calc JA N _ ⟨rL,.inl ⟨bB.of hN9,λt ht=>?_⟩⟩;let st:aB H8 (upd H9 t (HO.tup (Ts (chunk r w es)))):=RX.dF (RX.free ht);let et:upd H9 t (HO.tup (Ts (chunk r w es))) t=some (.tup (Ts (chunk r w es))):=aq;let hT9:=st _ _ I;let tT:t≠T:=(aY (RX _ _ I) ht).symm;calc JE T _ (.ref t) ⟨rL,rL,hT9,aK (by rw[aa,hal];lia),?_⟩;calc JA _ (as++[t]) ⟨rL,λb o e n=>by rw[aP n];show st _ _ (kp8 _ _ e n),by rw[aq];simp,by simp[hal],λk b ds' h1 h2=>?_⟩;by_cases hk:k<as.length
    .rw[a9 hk]at h1;have:=hch k b ds' h1 h2;rw[aP (wM this I λz=>nomatch z)];show st _ _ this
    .let hk2:=(ag.mp h1).1;rw[av]at hk2;let hk0:k=as.length:=by simp at hk2;lia
     subst hk0;rw[be (ai _),gd]at h1;cases h1;rw[hal,hes]at h2;cases h2;rw[aP tT];show et
  .intro σ H8 z;let⟨v,as,rfl,kp8,I,hal,hch⟩:=z
   match as,hal with| [pr,pm],_=>have h1:=hch 0 pr cs rL rfl;let h2:=hch 1 pm F rL rfl;calc⟨_,rL,T,_,_,.ref pr,rL,rL,bB.of I,aN (j:=0) rL,_,rL,T,_,_,.ref pm,rL,rL,bB.of I,aN (j:=1) rL,_,rL,zsz 3,λt ht=>?_⟩;let sE:aB H8 (upd H8 t (HO.tup [V.ref pr,V.ref pm,V.ref pb])):=aB.upd ht;let pbT:pb≠T:=aY eB hT;refine q t pr pm pb r w (chunk r w cs) (chunk r w F) (c/38400%r).toNat (c/345600%w).toNat _ (λb o e=>sE _ _ (kp8 _ _ (s47 _ _ (sm _ _ e)) (aY e fT))) aq (sE _ _ h1) (sE _ _ h2) (sE _ _ (kp8 _ _ (sZ _ _ (sT _ _ eB)) pbT)) ⟨r1,r9,w1,w9,Nh O,Nh J,Ni V8,Ni hmk,o6,o6⟩
structure Nj where
 r:Nat
 w:Nat
 aD:List (List Nat)
 aL:List (List Nat)
 bi:Nat
 bj:Nat
 ws:List (List Nat)
 kvs:List (Key×V)
 bn:Int
 bm:Int
 size:Nat
 racks:List (List Nat)
 bag:List Nat
structure vA (C:Addr)(H:Hp)(p pw:Addr)(Z:Nj):Prop where
 ex:∃b d pb pr,H p=some (.tup [.ref b,.ref pw,.ref d,.ref pb,.int Z.size,.ref pr,.str (S Z.bag)])/\cM C H b Z.r Z.w Z.aD Z.aL Z.bi Z.bj/\H d=some (.dK Z.kvs)/\H pb=some (.tup [.int Z.bn,.int Z.bm])/\H pr=some (.tup (Ts Z.racks))
 wl:H pw=some (.lst (Ts Z.ws))
structure O7 (Z:Nj):Prop where
 w1:4<=Z.ws.length
 w2:Z.ws.length<=12
 wz:∀l∈Z.ws,yj l
 wd:WD Z.kvs
 wb:WB 1000000 Z.kvs
 s1:1<=Z.size
 s7:Z.size<=7
 n1:1<=Z.racks.length
 n4:Z.racks.length<=4
 r7:∀l∈Z.racks,l.length<=Z.size/\∀c∈l,nU c
 b6:Z.bag.length<=60
 bt:∀c∈Z.bag,nU c
def RZ {l:List Nat}{lo hi:Option Int}{c:Nat}(h:c∈gQ l lo hi):c∈l:=ed (cE h)
def aco {l:List Nat}{a:Nat}{b:Int}{n:Nat}(h0:0<=b)(h:b<=a+n):(gQ l (some (a:Int)) (some b)).length<=n:=by let⟨b,rfl⟩:=iL h0;unfold gQ;rw[am,bc,HT.kO,HT.kO];lia
def R0 (K:W.Frag)(C:Addr):Sp:=λvs H Q _=>∃(a:Addr) (ns:List Int),vs=[.ref a]/\bB K H a (ns.map V.int)/\∀(p pw:Addr) (Z:Nj) (H':Hp),aB H H'->H pw=none->vA C H' p pw Z->O7 Z->Q (.ref p) H'
def acp {C f0:Addr}{dY:FuncData}(D:aM K mg "_law_parts" Et ["_law_script"])(d_:mg "range"=none)(bh:mg "len"=none)(cI:mg "tuple"=none)(rF:mg "min"=none)(GP:mg "Board"=some (.ref C))(Ks:Mk K C f0)(Ku:bZ P w K mg base dz 5 f0 dY ["self","rows","marks","begin"] (Kq C))(Kv:bN K dY ["self","rows","marks","begin"] [])(qD:bV P w K mg base "_law_cell_at" 1 ["_law_script","_law_k"] (Z6 K))(aaJ:bV P w K mg base "_law_letters" 1 ["_law_cell"] aaI)(aeH:bV P w K mg base "_law_words" 2 ["_law_cell","_law_letters_here"] RT)(ag4:bV P w K mg base "_law_rows" 2 ["_law_cell","_law_letters_here"] V7)(aeI:bV P w K mg base "_law_tiles" 2 ["_law_cell","_law_letters_here","_law_many","_law_blanks"] RW):bV P w K mg base "_law_parts" 7 ["_law_script"] (R0 K C):=by
 calc D.cZ eY (λf bG A outer s H vs Q E J h=>?_);let⟨a,ns,rfl,hS,q⟩:=h;let hu:=Ot J;calc⟨_,(aA (aU (i:=1) eY.nd rL (Or.inl rL) (bD aaJ J.mono rL (aj (bD qD J.mono rL (aj aG (aj au ao))) ao))) (aA (aU (i:=2) eY.nd rL (Or.inl rL) (bD qD J.mono rL (aj aG (aj au ao)))) (aA (aU (i:=3) eY.nd rL (Or.inl rL) (aJ cG au (aJ bY bA au))) (aA (aU (i:=4) eY.nd rL (Or.inl rL) (aJ cG au (aJ bY (aJ cF bA au) au))) (aA (aU (i:=5) eY.nd rL (Or.inl rL) (aJ iK au bI)) (aA (fO (cB (bM iH (aJ bY (aJ cF bA au) au) au (bF _)) (aF (aU (i:=5) eY.nd rL (Or.inl rL) (aJ bY (aJ cF bA au) au))) bJ)) (aA (fO (cB (bM iH (aJ bY (aJ cF bA au) au) au (bF _)) (aF (aU (i:=5) eY.nd rL (Or.inl rL) (aJ bY (aJ cF bA au) au))) bJ)) (aA (aU (i:=6) eY.nd rL (Or.inl rL) (bD aeI J.mono rL (aj (bD qD J.mono rL (aj aG (aj au ao))) (aj aW (aj (aJ cG (aJ iK cL bI) cT) (aj au ao)))))) (aA (aU (i:=7) eY.nd rL (Or.inl rL) (h_ ao)) (aA (fD cK rL (um pk d_ (aj cL ao)) (bC (i:=8) eY.nd rL (Or.inl rL)) (aA (aU (i:=9) eY.nd rL (Or.inl rL) (aJ cF (aJ bY (aJ Gu (bD qD J.mono rL (aj aG (aj au ao))) (aJ cG jq au)) au) au)) (aF (cR (fJ bu de df iG iw (aj (dh pA dW (dD (aJ iK jq bI)) (dD (aJ nJ (aJ iK (aJ cG jq au) bI) (aV (LR rL) pk rF me (aj jP (aj (aJ nJ bI au) ao)))))) ao)))))) (aA (fO (cB (bM iH (aJ bY (aJ cF bA au) au) au (bF _)) (aF (pH (bH [] pS) (PX iw (aJ bY (aJ cF bA au) cL) set_list))) bJ)) (aA (aU (i:=10) eY.nd rL (Or.inl rL) PJ) (aA (fD cK rL (qL (dh pA aW d8 (dD (aJ cG au (aJ bY (aJ cF bA au) au))))) (bC (i:=11) eY.nd rL (Or.inl rL)) (aF (U7 hu jd nP (aJ cG (aJ bY (aJ Gu bA (aJ cG (aV Zt pk bh ay (aj jd ao)) au)) au) (aJ bY (aJ cF bA au) (aJ Pn au au))) rL))) (aA (aU (i:=12) eY.nd rL (Or.inl rL) (cO (aj (aJ cG au (aJ bY (aJ cF bA au) au)) (aj (aJ bY (aJ cF bA au) au) ao)))) (aA (pH (bD ag4 J.mono rL (aj (bD qD J.mono rL (aj aG (aj au ao))) (aj aW ao))) (nO rL (bU (bC (i:=13) eY.nd rL (Or.inl rL)) (bU (bC (i:=14) eY.nd rL (Or.inl rL)) (bU (bC (i:=15) eY.nd rL (Or.inl rL)) kY))))) (aA (aU (i:=16) eY.nd rL (Or.inl rL) (qu Ks Ku J.mono rL GP Kv .nil dM (aj (qv 13) (aj (qv 14) (aj (qv 15) ao))))) (aA (aU (i:=17) eY.nd rL (Or.inl rL) (bD aeH J.mono rL (aj (aJ cF (bD qD J.mono rL (aj aG (aj au ao))) au) (aj aW ao)))) (aF (bf (cO (aj (qv 16) (aj (qv 17) (aj jd (aj pI (aj bI (aj (eU iZ pk cI c_ (aj iw ao)) (aj (dh pA dW (dD (aJ iK cL bI)) d8) ao))))))))))))))))))))))))))),?_⟩;calc⟨_,rL,a,ns,0,rL,hS,λv0=>⟨v0,rL,λls hA h4=>?_⟩⟩;let a1:=hA.lo;let hz:ls.length<=sizeLine:=ap (aK o6);calc⟨_,rL,a,ns,1,rL,hS,λc=>?_⟩;calc⟨_,rL,_,_,rL,rL,(by show (0:Int)<7;decide),_,_,rL,rL,?_⟩;calc⟨_,rL,_,_,rL,rL,⟨pj,pj⟩,_,_,rL,rL,(by show (0:Int)<4;decide),_,_,rL,rL,?_⟩;calc⟨_,rL,_,_,rL,rL,.inl ⟨pj,pj⟩,?_⟩;refine⟨λσ H'=>H'=H/\∃size j few:Nat,σ=[some (.ref a),some (.str (S ls)),some (.int c),some (.int size),some (.int j),some (.int few),none,none,none,none,none,none,none,none,none,none,none,none]/\1<=size/\size<=7/\1<=j/\j<=4/\few<=60,?_,?_⟩
 .calc⟨_,rL,_,_,rL,rL,⟨pj,pj⟩,_,_,rL,rL,(by show (0:Int)<4;decide),rL,_,rL,?_⟩;refine i_ (λ_=>?_) (λ_=>?_)
  .calc⟨_,rL,_,_,rL,rL,⟨pj,pj⟩,_,_,rL,rL,(by show (0:Int)<4;decide),rL,(1+c%7).toNat,(1+c/7%4).toNat,(c/112%4).toNat,?_,o6,o6,o6,o6,o6⟩;rw[cw o6,cw o6,cw o6];rfl
  .calc⟨rL,(1+c%7).toNat,(1+c/7%4).toNat,(2*(1+c%7)).toNat,?_,o6,o6,o6,o6,o6⟩;rw[cw o6,cw o6,cw o6];rfl
 intro σ H' z;let⟨rfl,size,j,ajc,rfl,z1,z7,m1,m4,f60⟩:=z;refine⟨λσ H2=>H2=H'/\∃few:Nat,σ=[some (.ref a),some (.str (S ls)),some (.int c),some (.int size),some (.int j),some (.int few),none,none,none,none,none,none,none,none,none,none,none,none]/\few<=60,?_,?_⟩
 .calc⟨_,rL,_,_,rL,rL,⟨pj,pj⟩,_,_,rL,rL,(by show (0:Int)<8;decide),rL,_,rL,?_⟩;refine i_ (λ_=>?_) (λ_=>?_)
  .calc⟨_,rL,_,_,rL,rL,⟨pj,pj⟩,_,_,rL,rL,(by show (0:Int)<60;decide),rL,(c/224%60).toNat,?_,o6⟩;rw[cw o6];rfl
  .show⟨rL,ajc,rL,f60⟩
 intro σ H2 z;let⟨rfl,few,rfl,ajC⟩:=z;let hms:j*size<=28:=fR m4 z7;let ems:(j:Int)*(size:Int)=((j*size:Nat):Int):=by push_cast;rfl
 calc⟨_,rL,a,ns,2,rL,hS,λv2=>?_⟩;calc⟨_,rL,_,rL,_,rL,_,_,rL,rL,.inl ⟨o6,o6⟩,_,rL,_,_,rL,rL,v2,2,ls,j*size+few,(by show [V.int v2,V.str (S ls),V.int ((j:Int)*(size:Int)+(few:Int)),V.int 2]=_;rw[ems];rfl),hA,o6,λtl H1 s1 htl htt=>?_⟩;let hzt:tl.length<=sizeLine:=ap (aK o6);calc⟨zsz 0,λL hL=>?_⟩;let sL:aB H1 (upd H1 L (HO.lst [])):=aB.upd hL;let eL:upd H1 L (HO.lst []) L=some (.lst (Ts [])):=aq;calc⟨_,rL,_,rL,o6,o6,?_⟩;rw[dP];refine oh (n:=j) (lo:=0) (λi σ H3=>∃(v8 v9:Option V) (F:AB),σ=[some (.ref a),some (.str (S ls)),some (.int c),some (.int size),some (.int j),some (.int few),some (.str (S tl)),some (.ref L),v8,v9,none,none,none,none,none,none,none,none]/\aB H1 H3/\H3 L=some (.lst (Ts F))/\F.length=i/\∀l∈F,l.length<=size/\∀c∈l,nU c)
  (JE none none [] ⟨rL,sL,eL,rL,λl h=>by cases h⟩) ?_ ?_
 .intro i σ H3 hi z;let⟨v8,v9,F,rfl,sm,uO,I,G⟩:=z;calc⟨_,rL,a,ns,2,rL,sm.seq (s1.seq hS),λv3=>?_⟩;refine⟨_,rL,_,_,rL,rL,_,_,rL,rL,⟨by show (0:Int)<_;lia,?_⟩,_,_,rL,rL,(by show (0:Int)<5;decide),_,_,rL,rL,⟨pj,pj⟩,?_⟩
  .calc iP (Nat.log2_le_self _) ?_;show ((0:Int)+(i:Int)+2).natAbs<9000;lia
  let his:(i+1)*size<=j*size:=mI size hi;let e1:((0:Int)+(i:Int))*(size:Int)=((i*size:Nat):Int):=by push_cast;rw[Int.zero_add]
  let e2:((0:Int)+(i:Int)+1)*(size:Int)=((i*size+size:Nat):Int):=by push_cast;rw[Int.zero_add,Int.add_mul];lia
  let t0:0<=v3/((0:Int)+(i:Int)+2)%5/4:=o6;let t1:v3/((0:Int)+(i:Int)+2)%5/4<=1:=o6;calc⟨_,rL,.inl ⟨rL,_,bB.of uO⟩,_,rL,_,rL,_,rL,_,_,rL,rL,.inl ⟨o6,o6⟩,_,rL,_,rL,_,_,rL,rL,_,rL,_,_,rL,rL,.inl ⟨o6,o6⟩,_,rL,_,rL,_,_,rL,rL,_,_,rL,_,_,rL,rL,_,rL,tl,rL,hzt,?_⟩;rw[e1,e2];generalize v3/((0:Int)+(i:Int)+2)%5/4=dl at t0 t1 ⊢;let hmn:0<=(if (size:Int)-1<dl then (size:Int)-1 else dl)/\(if (size:Int)-1<dl then (size:Int)-1 else dl)<=(size:Int)-1:=by split <;> lia
  generalize (if (size:Int)-1<dl then (size:Int)-1 else dl)=dm at hmn ⊢;calc JE L _ _ ⟨rL,rL,uO,aK (by rw[aa];lia),?_⟩;calc JE _ _ (F++[gQ tl (some ((i*size:Nat):Int)) (some (((i*size+size:Nat):Int)-dm))]) ⟨rL,sm.dF hL,by rw[aq,Km],by simp[I],λl hl=>?_⟩;rcases bz.mp hl with z|z;.show G l z
  .rw[aS.mp z];show⟨aco o6 o6,λc hc=>htt c (RZ hc)⟩
 intro σ H3 z;let⟨v8,v9,F,rfl,sm,uO,I,G⟩:=z;refine⟨λσ H4=>∃(F:AB),σ=[some (.ref a),some (.str (S ls)),some (.int c),some (.int size),some (.int j),some (.int few),some (.str (S tl)),some (.ref L),v8,v9,none,none,none,none,none,none,none,none]/\aB H1 H4/\H4 L=some (.lst (Ts F))/\F.length=j/\∀l∈F,l.length<=size/\∀c∈l,nU c,?_,?_⟩
 .calc⟨_,rL,_,_,rL,rL,⟨pj,pj⟩,_,_,rL,rL,(by show (0:Int)<8;decide),rL,_,rL,?_⟩;calc i_ (λ_=>?_) (λ_=>⟨F,rL,sm,uO,I,G⟩);let b0:=du (c/8072) (show (j:Int)≠0 by lia);let b1:=dC (c/8072) (show (0:Int)<j by lia);let pN:(Ts F).length=j:=by rw[aa,I]
  refine⟨_,rL,_,rL,_,_,rL,rL,⟨pj,pj⟩,_,rL,_,_,rL,rL,(by show (0:Int)<_;lia),L,_,_,(c/8072%(j:Int)).toNat,rL,rL,uO,?_,?_⟩
  .unfold Bm;rw[pN,if_pos o6,if_pos o6]
  .rw[JK];calc⟨F.set (c/8072%(j:Int)).toNat [],rL,sm.dF hL,aq,by rw[ej];show I,λl hl=>?_⟩;rcases ft hl with e|e;.show G l e
   .rw[e];show⟨eI _,λc h=>by cases h⟩
 intro σ H4 z;let⟨F,rfl,Jp,yZ,I,G⟩:=z;calc λd hd=>?_;let sD:aB H4 (upd H4 d (HO.dK [])):=aB.upd hd;calc⟨_,rL,_,rL,_,_,rL,rL,⟨pj,pj⟩,_,_,rL,rL,(by show (0:Int)<4;decide),_,_,rL,rL,_,rL,ls,rL,hz,gQ ls none (some (1+c/5%4)),rL,?_⟩;let hcl:(gQ ls none (some (1+c/5%4))).length<=4:=by unfold gQ;rw[am,bc];lia
 refine Ep (λi σ H5=>∃(v11:Option V) (kvs:List (Key×V)),σ=[some (.ref a),some (.str (S ls)),some (.int c),some (.int size),some (.int j),some (.int few),some (.str (S tl)),some (.ref L),v8,v9,some (.ref d),v11,none,none,none,none,none,none]/\aB H4 H5/\H5 d=some (.dK kvs)/\WD kvs/\WB 1000000 kvs/\kvs.length<=i)
  (JA none [] ⟨rL,sD,aq,(λkv m=>nomatch m),(λc=>⟨by show (0:Int)<=0;decide,by show (0:Int)<=1000000;decide⟩),ai _⟩) ?_ ?_
 .intro i x σ H5 hx z;let⟨v11,kvs,rfl,o8,Y,hW,hB,hkl⟩:=z;let hi:=(ag.mp hx).1;let⟨c1,c2⟩:=hA.az _ (RZ (bo hx));refine⟨_,rL,_,rL,d,kvs,rL,Y,_,_,rL,rL,_,_,rL,rL,⟨by show (0:Int)<_;lia,?_⟩,_,_,rL,rL,(by show (0:Int)<12;decide),_,rL,_,_,rL,rL,⟨pj,pj⟩,_,_,rL,rL,⟨pj,pj,pj⟩,_,_,rL,rL,(by show (0:Int)<10^5;decide),_,_,rL,rL,_,rL,_,rL,d,_,rL,Gs.k (k:=cU [x]) Y (aK o6),?_⟩
  .calc iP (Nat.log2_le_self _) ?_;show ((kvs.length:Int)+3).natAbs<9000;lia
  let b0:=du (c/((kvs.length:Int)+3)) (show (12:Int)≠0 by decide);let b1:=dC (c/((kvs.length:Int)+3)) (show (0:Int)<12 by decide);let b2:=du (c/1000003) (show (10:Int)^(5:Int).toNat≠0 by decide);let b3:=dC (c/1000003) (show (0:Int)<(10:Int)^(5:Int).toNat by decide);let b4:(10:Int)^(5:Int).toNat=100000:=by decide
  rw[b4]at b2 b3;refine JA _ _ ⟨rL,o8.dF hd,aq,hW.put _ c1 c2,hB.put ?_ ?_,bP (yc _ _ _) o6⟩
  .show (0:Int)<=c/((kvs.length:Int)+3)%12+c/1000003%(10:Int)^(5:Int).toNat;rw[b4];lia
  .show c/((kvs.length:Int)+3)%12+c/1000003%(10:Int)^(5:Int).toNat<=1000000;rw[b4];lia
 intro σ H5 z;let⟨v11,kvs,rfl,o8,Y,hW,hB,hkl⟩:=z;calc⟨_,rL,_,_,rL,rL,⟨pj,pj⟩,_,_,rL,rL,(by show (0:Int)<7;decide),_,_,rL,rL,_,rL,_,_,rL,rL,⟨pj,pj⟩,_,_,rL,rL,(by show (0:Int)<60;decide),zsz 2,λpb hpb=>?_⟩;let sB:aB H5 (upd H5 pb (HO.tup [V.int (1+c/11%7),V.int (c/13%60)])):=aB.upd hpb;let eB:upd H5 pb (HO.tup [V.int (1+c/11%7),V.int (c/13%60)]) pb=some (.tup [V.int (1+c/11%7),V.int (c/13%60)]):=aq;generalize upd H5 pb (HO.tup [V.int (1+c/11%7),V.int (c/13%60)])=H6 at sB eB ⊢;let s16:aB H1 H6:=(Jp.trans o8).trans sB;let xP:aB H2 H6:=s1.trans s16;calc⟨_,rL,a,ns,3,rL,xP.seq hS,λv4=>?_⟩;calc⟨_,rL,v4,ls,rL,hA,λt pr pm pbg r w aD aL bi bj H7 s7 ht hpr Z Ym hBr=>?_⟩;calc JA t _ ⟨rL,aO.of ht,rL,_,_,rL,_,_,rL,_,_,rL,rL,?_⟩;calc⟨_,rL,_,rL,_,rL,λb dxb O nb2 nb3=>?_⟩;calc JS b dxb pr pm pbg r w aD ⟨aL,bi,bj,rL,aq,?_,?_,?_,hBr,λH8 k8 e8=>⟨rL,?_⟩⟩;.rw[aP (aY hpr O),aP (aY hpr nb2)];show hpr
 .rw[aP (aY Z O),aP (aY Z nb2)];show Z
 .rw[aP (aY Ym O),aP (aY Ym nb2)];show Ym
 let s8:aB H7 H8:=λx o h=>k8 x o (by rw[aP (aY h O),aP (aY h nb2)];show h) (aY h O);let BA:cM C H8 b r w aD aL bi bj:=⟨(JI dxb pr pm pbg ⟨e8,s8 _ _ hpr,s8 _ _ Z,s8 _ _ Ym⟩),hBr⟩
 let V9:aB H2 H8:=(xP.trans s7).trans s8;calc⟨_,rL,a,ns,0,rL,V9.seq hS,λv5=>?_⟩;calc JA _ _ ⟨rL,rL,⟨pj,pj⟩,_,rL,_,ls,rL,hA,λpw ws H9 s9 fpw V_ hw4 ajd hwz=>?_⟩;let s69:aB H6 H9:=(s7.trans s8).trans s9;let hL9:=s69 _ _ (sB _ _ (o8 _ _ yZ));calc⟨_,rL,_,rL,_,rL,_,rL,_,rL,_,rL,L,_,rL,.inl ⟨bB.of hL9,λNk acq=>?_⟩⟩;let sR:aB H9 (upd H9 Nk (HO.tup (Ts F))):=aB.upd acq;let eR:upd H9 Nk (HO.tup (Ts F)) Nk=some (.tup (Ts F)):=aq;generalize upd H9 Nk (HO.tup (Ts F))=HA at sR eR ⊢;calc⟨_,rL,_,rL,_,rL,_,_,rL,rL,.inl ⟨o6,o6⟩,_,rL,tl,rL,hzt,zsz 7,λp hp=>?_⟩;let eP:upd HA p (HO.tup [V.ref b,V.ref pw,V.ref d,V.ref pb,V.int size,V.ref Nk,V.str (S (gQ tl (some ((j:Int)*(size:Int))) none))]) p=some (.tup [.ref b,.ref pw,.ref d,.ref pb,.int size,.ref Nk,.str (S (tl.drop (j*size)))]):=by rw[aq,ems,jT]
 let sP:=aB.upd hp (o:=HO.tup [V.ref b,V.ref pw,V.ref d,V.ref pb,V.int size,V.ref Nk,V.str (S (gQ tl (some ((j:Int)*(size:Int))) none))]);let s9P:=sR.trans sP;let s6P:=s69.trans s9P;calc q p pw ⟨r,w,aD,aL,bi,bj,ws,kvs,1+c/11%7,c/13%60,size,F,tl.drop (j*size)⟩ _ (xP.trans s6P) ?_ ⟨(JI b d pb Nk ⟨eP,(BA.mv s9).mv s9P,s6P _ _ (sB _ _ Y),s6P _ _ eB,sP _ _ eR⟩),s9P _ _ V_⟩ ⟨hw4,ajd,hwz,hW,hB,z1,z7,by show 1<=F.length;lia,by show F.length<=4;lia,G,by show (tl.drop _).length<=60;rw[bc];lia,λc hc=>htt c (ed hc)⟩;cases e:H2 pw with| none=>rfl| some o=>rw[V9 _ _ e]at fpw;cases fpw
structure mq (C:Addr)(H:Hp)(p:Addr)(z:Std)(dn ps:Nat)(ov:Bool):Prop where
 ex:∃b pr pp,H p=some (.tup [.ref b,.ref pr,.str (S z.bag),.ref pp,.int dn,.int ps,.bl ov])/\cM C H b z.r z.w z.aD z.aL z.bi z.bj/\H pr=some (.tup (Ts z.racks))/\H pp=some (.tup (z.je.map V.int))
def beg (Z:Nj):Std:=⟨Z.r,Z.w,Z.aD,Z.aL,Z.bi,Z.bj,Z.racks.map dG,Z.bag,List.replicate Z.racks.length 0⟩
def Wa (C:Addr):Sp:=λvs H Q _=>∃(p pw:Addr) (Z:Nj),vs=[.ref p]/\vA C H p pw Z/\O7 Z/\∀j H',aB H H'->mq C H' j (beg Z) 0 0 false->Q (.ref j) H'
def acr {C:Addr}(D:aM K mg "_law_begun" Eu ["_law_parts_here"])(cI:mg "tuple"=none)(gU:mg "sorted"=none)(bh:mg "len"=none):bV P w K mg base "_law_begun" 1 ["_law_parts_here"] (Wa C):=by
 calc D.cZ Gz (λf bG A outer s H vs Q E hr h=>?_);let⟨p,pw,Z,rfl,A0,O,q⟩:=h;let⟨b,d,pb,pr,hp,hB,hd,hpb,I⟩:=A0.ex;let n1:=O.n1;let n4:=O.n4;let z7:=O.s7;calc⟨_,(aA (aU (i:=1) Gz.nd rL (Or.inl rL) (eU iZ pk cI c_ (aj (jB rL (jc.of Gz.nd pE) (gM (aX bw aG au (λ_ _=>rfl))) (λ_ _ _ _ _=>dR) (λ_ _ _ _ _=>(Qc K bq dq dr (Gw K) (bH [] pS) (aj (aV (uF rL) pk gU fz (aj aG ao)) ao)))) ao))) (aF (bf (cO (aj (aX bw aG au (λ_ _=>rfl)) (aj aW (aj (aX bw aG au (λ_ _=>rfl)) (aj (aJ Vg (cO (aj au ao)) (aV bW pk bh ay (aj aW ao))) (aj au (aj au (aj iu ao))))))))))),?_⟩;refine⟨_,rL,p,_,_,.ref pr,rL,rL,aO.of hp,aN (j:=5) rL,pr,rL,⟨_,aO.of I⟩,λL hL=>qj (xs:=Ts Z.racks) (λi ys F=>ys=Ts ((Z.racks.take i).map dG)/\F L=some (.lst ys)/\aB H F) ⟨rL,aq,aB.upd hL⟩ (λi ys F _ h=>aO.of (h.2.2 _ _ I)) ?_ ?_⟩
 .intro i x ys F hi z;let⟨rfl,JQ,sm⟩:=z;let⟨l,hl,rfl⟩:=wg hi;let G:i<(Ts Z.racks).length:=(ag.mp hi).1;let hir:i<Z.racks.length:=by rw[aa]at G;show G
  let hl7:=(O.r7 l (bo hl)).1;calc⟨rL,_,rL,l,rL,o6,λp2 us hp2 pm pw=>?_⟩;calc JA p2 (us.map λc=>[c]) ⟨rL,rL,bB.of aq,?_,?_⟩;.rw[lZ,pm.length_eq];lia
  .rw[wC (pm.map λc=>[c]) pw];let J:=aB.upd hp2 (o:=HO.lst (Ts (us.map λc=>[c])));calc⟨J _ _ JQ,?_,gY.mk G ⟨?_,aq,(sm.trans J).dF hL⟩⟩;.rw[aa,aa,am];show aK o6
   .rw[take_snoc hl];simp only[Ts,bv];rfl
 .intro ys F z;let⟨rfl,JQ,sm⟩:=z;rw[aa,ce]at JQ;calc JA L _ ⟨rL,.inl ⟨bB.of JQ,λtp ht=>?_⟩⟩;let J:aB F (upd F tp (.tup (Ts (Z.racks.map dG)))):=aB.upd ht;let V4:upd F tp (.tup (Ts (Z.racks.map dG))) tp=some (.tup (Ts (Z.racks.map dG))):=aq;generalize upd F tp (HO.tup (Ts (Z.racks.map dG)))=H8 at J V4 ⊢;let V9:=sm.trans J;calc⟨_,rL,p,_,_,.ref b,rL,rL,aO.of (V9 _ _ hp),aN (j:=0) rL,_,rL,_,rL,p,_,_,.str (S Z.bag),rL,rL,aO.of (V9 _ _ hp),aN (j:=6) rL,zsz 1,λp0 e0=>?_⟩;let s9:aB H8 (upd H8 p0 (HO.tup [V.int 0])):=aB.upd e0;let Y:upd H8 p0 (HO.tup [V.int 0]) p0=some (.tup [V.int 0]):=aq;generalize upd H8 p0 (HO.tup [V.int 0])=H9 at s9 Y ⊢;calc⟨_,rL,tp,_,rL,.inr (aO.of (s9 _ _ V4)),p0,_,Z.racks.length,rL,by rw[aa,aa],Y,pi,n1,o6,by show 1<=100;decide,λpp HA sA hpp=>?_⟩;let yq:HA pp=some (.tup ((List.replicate Z.racks.length (0:Int)).map V.int)):=by rw[hpp];simp
  let s0A:=(V9.trans s9).trans sA;calc⟨zsz 7,λp' hp'=>?_⟩;let sP:=aB.upd hp' (o:=HO.tup [V.ref b,V.ref tp,V.str (S Z.bag),V.ref pp,V.int 0,V.int 0,V.bl false]);show q p' _ (s0A.trans sP) ⟨b,tp,pp,aq,(hB.mv s0A).mv sP,sP _ _ (sA _ _ (s9 _ _ V4)),sP _ _ yq⟩
def K9 (a b:Nat×Nat)(l:List (Nat×Nat)):jG (a::b::l)=(ltQ (a,b)&&jG (b::l)):=rfl
theorem Nm {c:Nat×Nat}:∀{cs:List (Nat×Nat)},jG cs=true->(∀d∈cs,ltQ (d,c)=true)->jG (cs++[c])=true
 | [],_,_=>rfl
 | [a],_,h=>by show jG (a::c::[])=true;rw[K9,h a cf];rfl
 | a::b::l,h1,h2=>by rw[K9,cn]at h1;show jG (a::b::(l++[c]))=true;rw[K9,h1.1,lT];show Nm (cs:=b::l) h1.2 λd hd=>h2 d (bE _ hd)
def R3 {r w:Nat}{aD:AB}(hb:Blk r w aD)(r1:1<=r){i:Int}(h0:-1<=i)(h1:i<r):∃l,rK (Ts aD) i=some (.str (S l))/\l.length=w:=by
 by_cases hn:0<=i
 .let⟨k,rfl⟩:=iL hn;let D:k<aD.length:=by rw[hb.len];lia
  show⟨aD[k],aN (nD (ac D)),hb.qT _ (aI D)⟩
 .let e:i=-1:=o6;subst e;let j:aD≠[]:=λe=>by subst e;have:=hb.len;simp at this;lia
  calc⟨aD.getLast j,?_,hb.qT _ (List.getLast_mem j)⟩;let e:=gv j;let e2:Ts aD=Ts aD.dropLast++[.str (S (aD.getLast j))]:=by
   conv=>lhs;rw[<-e]
   simp only[Ts,bv,cv,oy]
  rw[e2];show Gq _ _
def aaK:Sp:=λvs H Q _=>∃(pr pl:Addr) (bL word:List Nat) (i0 j wy:Int) (r w:Nat) (aD:AB),vs=[.ref pr,.str (S word),.ref pl,.str (S bL)]/\H pr=some (.tup (Ts aD))/\Blk r w aD/\1<=r/\r<=9/\w<=9/\yj word/\H pl=some (.tup [.int i0,.int j,.int wy])/\-1<=i0/\0<=j/\(wy=0\/wy=1)/\bL.length<=63/\
 ∀(t:Addr) (as:List Addr) (H':Hp),aB H H'->H' t=some (.tup (as.map V.ref))->as.length<=9->(0<=i0->∃ts,eE H' as ts/\(∀t∈ts,inB r w t)/\jG (ts.map nF)=true)->Q (.ref t) H'
def R4 (D:aM K mg "_law_candidate" tZ ["_law_rows_here","_law_word","_law_place","_law_rack"])(bh:mg "len"=none)(ig:mg "list"=none)(cI:mg "tuple"=none)(n_:mg "int"=none):bV P w K mg base "_law_candidate" 1 ["_law_rows_here","_law_word","_law_place","_law_rack"] aaK:=by
 calc D.cZ gq (λf bG A outer s H vs Q E hr h=>?_);let⟨pr,pl,bL,word,i0,j0,wy,r,w,aD,rfl,hpr,hb,r1,r9,w9,hW,hpl,i1,j1,Qw,h63,q⟩:=h;let⟨wo1,wo2,wo3⟩:=hW;let hrl:(Ts aD).length=r:=by rw[aa,hb.len]
 let G:∀H2,aB H H2->∀t,H2 t=none->Q (.ref t) (upd H2 t (.tup [])):=λH2 s2 t ht=>q t [] _ (s2.trans (aB.upd ht)) aq (eI _) λ_=>⟨[],⟨λa h=>(by cases h),rL⟩,λt h=>(by cases h),rL⟩
 calc⟨_,(aA (pH bA (nO rL (bU (bC (i:=4) gq.nd rL (Or.inl rL)) (bU (bC (i:=5) gq.nd rL (Or.inl rL)) (bU (bC (i:=6) gq.nd rL (Or.inl rL)) kY))))) (aA (aU (i:=7) gq.nd rL (Or.inl rL) (eU (m_ rL) pk ig fk (aj bI ao))) (aA (aU (i:=8) gq.nd rL (Or.inl rL) (h_ ao)) (aA (fD cK rL (qL aW) (bC (i:=9) gq.nd rL (Or.inl rL)) (aA (cB (QW.qt (lY (bM El cL (aV bW pk bh ay (aj aG ao)) (bF _)) (jZ (bM El cT (aV cY pk bh ay (aj (aX bw aG au (λ_ _=>rfl)) ao)) (bF _))))) (aF (bf (cO ao))) bJ) (aA (fO (cB (bM ju (aX zM (aX bw aG cL (λ_ _=>rfl)) cT (λ_ _=>rfl)) (bH [46] pS) (bF _)) (aA (aU (i:=10) gq.nd rL (Or.inl rL) jP) (aA (fO (cB (bM vO jd iw rL) (aF (aU (i:=10) gq.nd rL (Or.inl rL) (bH [63] pS))) bJ)) (aA (cB (bM vO jd iw rL) (aF (bf (cO ao))) bJ) (aA (cR (fJ bu ip iq wU iw (aj jd ao))) (aF (cR (fJ bu de df iG jq (aj (cO (aj cL (aj cT (aj (aX fH (h_ (aj jP (aj (qJ bq PySem.F.slot_str_upper PySem.F.type_str_upper ZC jP) ao))) (eU L_ pk n_ j3 (aj (d7 ju jd (bH [63] pS) (bF _)) ao)) (λ_ _=>rfl)) ao)))) ao)))))))) bJ)) (aA (aU (i:=4) gq.nd rL (Or.inl rL) (aJ cG cL dW)) (aF (aU (i:=5) gq.nd rL (Or.inl rL) (aJ nJ (aJ cG cT au) dW))))))) (aF (bf (eU iZ pk cI c_ (aj jq ao)))))))),?_⟩;calc⟨_,rL,pl,_,rL,aO.of hpl,rL,_,_,rL,_,_,rL,_,_,rL,rL,?_⟩;calc⟨_,rL,bL,rL,o6,λL hL=>?_⟩;let sL:aB H (upd H L (HO.lst (Ts (bL.map λc=>[c])))):=aB.upd hL;let eL:upd H L (HO.lst (Ts (bL.map λc=>[c]))) L=some (.lst (Ts (bL.map λc=>[c]))):=aq;generalize upd H L (HO.lst (Ts (bL.map λc=>[c])))=H1 at sL eL ⊢;calc⟨zsz 0,λM hM=>?_⟩;let sM:aB H1 (upd H1 M (HO.lst [])):=aB.upd hM;let eM:upd H1 M (HO.lst []) M=some (.lst (([]:List Addr).map V.ref)):=aq;let LM:L≠M:=aY eL hM;let fM:H M=none:=by
  cases e:H M with| none=>rfl| some o=>rw[sL _ _ e]at hM;cases hM
 generalize upd H1 M (HO.lst [])=H2 at sM eM ⊢;let dZ:=sL.trans sM;let eL2:=sM _ _ eL;calc⟨_,rL,word,rL,?_⟩;refine Ep (λn σ J=>∃(v9 I:Option V) (j cc:Int) (us:List Nat) (as:List Addr),σ=[some (.ref pr),some (.str (S word)),some (.ref pl),some (.str (S bL)),some (.int j),some (.int cc),some (.int wy),some (.ref L),some (.ref M),v9,I]/\aB H J/\J L=some (.lst (Ts (us.map λc=>[c])))/\us.length<=63/\J M=some (.lst (as.map V.ref))/\as.length<=n/\-1<=j/\0<=cc/\(0<=i0->0<=j/\∃ts,eE J as ts/\(∀t∈ts,inB r w t)/\jG (ts.map nF)=true/\∀t∈ts,((t.1:Int)<j\/((t.1:Int)=j/\(t.2.1:Int)<cc))))
  (JO none none i0 j0 bL [] ⟨rL,dZ,eL2,h63,eM,eI _,i1,j1,λh=>⟨h,[],⟨λa h=>(by cases h),rL⟩,λt h=>(by cases h),rL,λt h=>(by cases h)⟩⟩) ?_ ?_
 .intro n c σ J hc z;let⟨v9,I,j,cc,us,as,rfl,sm,uO,Jz,FZ,hal,rr1,cc1,Z⟩:=z;let hn:n<word.length:=(ag.mp hc).1;let Yn:isLet c:=wo3 c (bo hc);let Rz:=sm _ _ hpr;calc⟨_,rL,_,rL,pr,_,rL,.inr (aO.of Rz),_,_,rL,rL,_,rL,?_⟩;calc i_ (λ_=>⟨zsz 0,λt ht=>G J sm t ht⟩) (λhnr=>?_);let hnr:=i9 (n9.mpr hnr);rw[hrl]at hnr;let⟨l0,e0,w0⟩:=R3 hb r1 (i:=0) o6 o6;let hz0:l0.length<=sizeLine:=ap (aK o6);calc⟨_,rL,_,rL,pr,_,_,.str (S l0),rL,rL,aO.of Rz,e0,l0,rL,hz0,_,_,rL,rL,_,rL,?_⟩;calc i_ (λ_=>⟨zsz 0,λt ht=>G J sm t ht⟩) (λhnc=>?_);let hnc:=i9 (n9.mpr hnc);rw[w0]at hnc;let⟨l,el,wl⟩:=R3 hb r1 (i:=j) rr1 o6;let Bq:l.length<=sizeLine:=ap (aK o6);let⟨k,rfl⟩:=iL cc1;let hk:k<l.length:=o6;refine⟨λσ F=>∃(v9 I:Option V) (us:List Nat) (as:List Addr),σ=[some (.ref pr),some (.str (S word)),some (.ref pl),some (.str (S bL)),some (.int j),some (.int k),some (.int wy),some (.ref L),some (.ref M),v9,I]/\aB H F/\F L=some (.lst (Ts (us.map λc=>[c])))/\us.length<=63/\F M=some (.lst (as.map V.ref))/\as.length<=n+1/\(0<=i0->0<=j/\∃ts,eE F as ts/\(∀t∈ts,inB r w t)/\jG (ts.map nF)=true/\∀t∈ts,((t.1:Int)<j\/((t.1:Int)=j/\(t.2.1:Int)<=k))),?_,?_⟩
  .calc⟨_,rL,_,rL,pr,_,_,.str (S l),rL,rL,aO.of Rz,el,_,rL,l,_,l[k],rL,rL,Bq,aN (ac hk),[l[k]],[46],rL,rL,_,rL,?_⟩;refine i_ (λ_=>?_) (λ_=>(JI _ _ us as ⟨rL,sm,uO,Jz,FZ,o6,λh=>?_⟩))
   .calc⟨_,rL,?_⟩;refine⟨λσ F=>F=J/\∃x:Nat,σ=[some (.ref pr),some (.str (S word)),some (.ref pl),some (.str (S bL)),some (.int j),some (.int k),some (.int wy),some (.ref L),some (.ref M),some (.str (S [c])),some (.str (S [x]))]/\(x=c\/x=63),?_,?_⟩
    .calc⟨_,rL,_,rL,L,_,rL,.inl (bB.of uO),rL,KD _,_,rL,?_⟩;show i_ (λ_=>⟨rL,63,rL,.inr rL⟩) (λ_=>⟨rL,c,rL,.inl rL⟩)
    intro σ F z;let⟨rfl,x,rfl,hxc⟩:=z;calc⟨_,rL,_,rL,L,_,rL,.inl (bB.of uO),rL,KD _,_,rL,?_⟩;calc i_ (λ_=>⟨zsz 0,λt ht=>G F sm t ht⟩) (λdU=>?_);let dU:x∈us:=by rw[show (if true then !inV (V.str (S [x])) (Ts (us.map λc=>[c])) else inV (V.str (S [x])) (Ts (us.map λc=>[c])))=!inV (V.str (S [x])) (Ts (us.map λc=>[c])) from rL,aao]at dU;simpa using dU
    calc⟨_,rL,.inl ⟨rL,_,bB.of uO⟩,_,rL,L,_,[x],rL,rL,uO,bd.mpr ⟨x,dU,rL⟩,by rw[aa];lia,?_⟩;rw[sV];let s5:aB H (upd F L (HO.lst (Ts ((us.erase x).map λc=>[c])))):=sm.dF hL;let eL5:upd F L (HO.lst (Ts ((us.erase x).map λc=>[c]))) L=some (.lst (Ts ((us.erase x).map λc=>[c]))):=aq;let eM5:upd F L (HO.lst (Ts ((us.erase x).map λc=>[c]))) M=some (.lst (as.map V.ref)):=by rw[aP LM.symm];show FZ
    let T5:∀a xs,F a=some (.tup xs)->upd F L (HO.lst (Ts ((us.erase x).map λc=>[c]))) a=some (.tup xs):=λa xs e=>by rw[aP (wM e uO λz=>nomatch z)];show e
    generalize upd F L (HO.lst (Ts ((us.erase x).map λc=>[c])))=H5 at s5 eL5 eM5 T5 ⊢;calc⟨_,rL,.inl ⟨rL,_,bB.of eM5⟩,_,rL,_,rL,_,rL,_,rL,rL,[c],rL,rL,(by show 1<=1000;decide),(λd hd=>by rw[aS.mp hd];have:=Yn.2;lia),zsz 2,λN hN=>?_⟩;let s6:aB H5 (upd H5 N (HO.lst [V.str (S [c]),V.str (S ([c].map PyProof.Rows.up1))])):=aB.upd hN;let eN:upd H5 N (HO.lst [V.str (S [c]),V.str (S ([c].map PyProof.Rows.up1))]) N=some (.lst [V.str (S [c]),V.str (S [PyProof.Rows.up1 c])]):=aq;generalize upd H5 N (HO.lst [V.str (S [c]),V.str (S ([c].map PyProof.Rows.up1))])=H6 at s6 eN ⊢;obtain⟨y,hy,ysg⟩:∃y,rK [V.str (S [c]),V.str (S [PyProof.Rows.up1 c])] (if decide ([x]=[63])=true then 1 else 0)=some (.str (S [y]))/\pK y:=by
     by_cases e:x=63
     .calc⟨PyProof.Rows.up1 c,?_,?_⟩;.rw[al (by rw[e]),if_pos rfl];rfl
      .have:PyProof.Rows.up1 c=c-32:=adx Yn;rw[this];show Z8 Yn
     .calc⟨c,?_,Z7 Yn⟩;rw[ah (by simpa using e),if_neg pj];rfl
    calc⟨_,rL,[x],[63],rL,rL,.inr ⟨_,rL,N,_,_,.str (S [y]),rL,rL,bB.of eN,hy,zsz 3,λT hT=>?_⟩⟩;let s7:aB H6 (upd H6 T (HO.tup [V.int j,V.int k,V.str (S [y])])):=aB.upd hT;let eT:upd H6 T (HO.tup [V.int j,V.int k,V.str (S [y])]) T=some (.tup [V.int j,V.int k,V.str (S [y])]):=aq;generalize upd H6 T (HO.tup [V.int j,V.int k,V.str (S [y])])=H7 at s7 eT ⊢;let Y:=s6.trans s7;let eM7:=Y _ _ eM5;calc JE M _ (.ref T) ⟨rL,rL,eM7,aK (by rw[aa];lia),?_⟩;calc JI _ _ (us.erase x) (as++[T]) ⟨rL,(s5.trans Y).dF fM,?_,?_,?_,?_,λh=>?_⟩;.rw[aP LM];show Y _ _ eL5
    .have:=(kP (a:=x) (l:=us)).length_le;lia
    .rw[aq];simp
    .rw[av];show gt hal
    .let⟨h0,ts,t1,O,t3,t4⟩:=Z h;let⟨i,rfl⟩:=iL h0;let kT:∀a xs,H7 a=some (.tup xs)->upd H7 M (HO.lst (as.map V.ref++[V.ref T])) a=some (.tup xs):=λa xs e=>by rw[aP (wM e eM7 λz=>nomatch z)];show e
     refine⟨h0,ts++[(i,k,y)],((t1.Jm λa xs e=>kT a xs (Y _ _ (T5 a xs e)))).snoc (kT _ _ eT),λt ht=>?_,?_,λt ht=>?_⟩
     .rcases bz.mp ht with z|z;.show O t z
      .rw[aS.mp z];show⟨by show i<r;lia,by show k<w;lia,ysg⟩
     .rw[bv];calc Nm t3 λd hd=>?_;let⟨t,ht,rfl⟩:=bd.mp hd;let b1:=(O t ht).1;let b2:=(O t ht).2.1;let b3:=t4 t ht;show decide (t.1*1000+t.2.1<i*1000+k)=true;show al o6
     .rcases bz.mp ht with z|z;.have:=t4 t z;lia
      .rw[aS.mp z];show .inr ⟨rL,oQ _⟩
   .let⟨h0,ts,t1,O,t3,t4⟩:=Z h;show⟨h0,ts,t1,O,t3,λt ht=>by have:=t4 t ht;lia⟩
  .intro σ F z;let⟨v9,I,us,as,rfl,Jp,yZ,aje,Gb,ajf,ajg⟩:=z;calc⟨_,rL,_,rL,_,_,rL,rL,?_⟩;calc⟨_,rL,_,_,rL,rL,_,rL,_,_,rL,rL,?_⟩;calc JO _ _ (j+wy) ((k:Int)+1-wy) us as ⟨rL,Jp,yZ,aje,Gb,ajf,o6,o6,λh=>?_⟩;let⟨h0,ts,t1,O,t3,t4⟩:=ajg h;show⟨o6,ts,t1,O,t3,λt ht=>by have:=t4 t ht;lia⟩
 .intro σ J z;let⟨v9,I,j,cc,us,as,rfl,sm,uO,Jz,FZ,hal,rr1,cc1,Z⟩:=z;calc⟨_,rL,M,_,rL,.inl ⟨bB.of FZ,λt ht=>?_⟩⟩;let st:=aB.upd ht (o:=HO.tup (as.map V.ref));calc q t as _ (sm.trans st) aq o6 λh=>?_;let⟨h0,ts,t1,O,t3,t4⟩:=Z h;show⟨ts,t1.mv st,O,t3⟩
def dT (t:bR):Dt:=.tup [.int t.1,.int t.2.1,.str [t.2.2]]
theorem dB.EY {H:Hp}:∀{as:List Addr},(∀a∈as,wk H a (tO H a))->(∀a∈as,(tO H a).2.2<128)->dB K H 2 ((as.map (tO H)).map dT) (as.map V.ref)
 | [],_,_=>.nil
 | a::as,h1,h2=>.cons (.tup (aO.of (h1 a cf)) (.cons (.int _) (.cons (.int _) (.cons (.str _ λc j=>by rw[aS.mp j];show h2 a cf) .nil)))) (dB.EY (λb hb=>h1 b (bE _ hb)) λb hb=>h2 b (bE _ hb))
def iM.EY {H:Hp}{t:Addr}{as:List Addr}{ts:List bR}(h:H t=some (.tup (as.map V.ref)))(j:eE H as ts)(hs:∀t∈ts,pK t.2.2):iM K H 3 (.tup (ts.map dT)) (.ref t):=by let e:=j.eq;subst e;show .tup (aO.of h) (dB.EY j.at_ λa ha=>(hs _ (bd.mpr ⟨a,ha,rL⟩)).lt)
theorem aaL:∀{cs l:List Nat} {left:AB},zf (l.map λc=>[c]) cs=.inr left->∃j,o9 l cs=some j
 | [],l,left,_=>⟨l,rL⟩
 | c::cs,l,left,h=>by
  unfold zf at h;unfold o9;by_cases hm:gJ c∈l
  .rw[if_pos (bd.mpr ⟨_,hm,rL⟩),sV]at h;rw[if_pos hm];show aaL h
  .rw[if_neg (λz=>by let⟨d,hd,e⟩:=bd.mp z;cases e;show hm hd)]at h;cases h
def air {aD:AB}{r w bi bj:Nat}{ws:AB}{bL:List Nat}{ts:List bR}(h:rN aD r w bi bj ws bL ts .ok):∃l,o9 bL (ts.map (·.2.2))=some l:=by
 cases h with| ok h1 h2 h3 h4 h5 h=>let⟨l,hl⟩:=h5;show aaL hl
def acs {aD:AB}{ts:List bR}{bs ws:AB}(h:∀x,x∈bs↔x∈ws):Gd aD bs ts=Gd aD ws ts:=by
 let e:G4 bs=G4 ws:=funext λq=>by unfold G4;rw[decide_eq_decide.mpr (h (Q7 q))]
 unfold Gd;rw[e]
def acu {aD:AB}{r w bi bj:Nat}{bs ws:AB}{bL:List Nat}{ts:List bR}(e:∀x,x∈bs↔x∈ws)(h:rN aD r w bi bj bs bL ts .ok):rN aD r w bi bj ws bL ts .ok:=by
 cases h with| ok h1 h2 h3 h4 h5 h=>show .ok h1 h2 h3 h4 h5 (by rw[<-acs e];show h)
structure Yo (aD:AB)(r w bi bj:Nat)(ws:AB)(bL:List Nat)(ts:List bR):Prop where
 ux:∀t∈ts,inB r w t
 h0:0<ts.length
 h7:ts.length<=7
 ri:jG (ts.map nF)=true
 vd:rN aD r w bi bj ws bL ts .ok
def aaM (C CB:Addr):Sp:=λvs H Q _=>∃(b k kd pw:Addr) (bs ws:AB) (bL:List Nat) (c:Int) (r w:Nat) (aD aL:AB) (bi bj:Nat),vs=[.ref b,.ref k,.ref pw,.str (S bL),.int c]/\cM C H b r w aD aL bi bj/\gO CB H k kd bs/\H pw=some (.lst (Ts ws))/\1<=ws.length/\(∀l∈ws,yj l)/\bL.length<=63/\
 ∀(t:Addr) (as:List Addr) (ts:List bR) (H':Hp),aB H H'->H' t=some (.tup (as.map V.ref))->eE H' as ts->(ts=[]\/Yo aD r w bi bj bs bL ts)->Q (.ref t) H'
open Classical in
def aaN {C CB f1:Addr}{dH:FuncData}(D:aM K mg "_law_laying" zU ["_law_board","_law_book","_law_words_here","_law_rack","_law_cell"])(bh:mg "len"=none)(rF:mg "min"=none)(F:gA K C)(q_:Meth K C "is_free" f1)(rm:bZ P w K mg base dz 1 f1 dH ["self"] (Qt C))(rB:bN K dH ["self"] [])(nG:bV P w K mg base "_law_stream" 1 ["_law_cell","_law_many"] tD)(Uq:bV P w K mg base "_law_candidate" 1 ["_law_rows_here","_law_word","_law_place","_law_rack"] aaK)(ag5:bV P w K mg base "_law_lets" 16 ["_law_board","_law_book","_law_rack","_law_laying_here"] (aaG C CB)):bV P w K mg base "_law_laying" 17 ["_law_board","_law_book","_law_words_here","_law_rack","_law_cell"] (aaM C CB):=by
 calc D.cZ uq (λf bG A outer s H vs Q E hr h=>?_);let⟨b,k,kd,pw,bs,ws,bL,c,r,w,aD,aL,bi,bj,rfl,BA,BK,V_,w1,hwz,h63,q⟩:=h;obtain⟨⟨bx,pr,pm,pb,hb,J,hpm,Y⟩,B⟩:=BA;let BA:cM C H b r w aD aL bi bj:=⟨(JI bx pr pm pb ⟨hb,J,hpm,Y⟩),B⟩
 let r1:=B.r1;let r9:=B.r9;let ww1:=B.w1;let w9:=B.w9;let hrl:(Ts aD).length=r:=by rw[aa,B.br.len]
 let⟨l0,e0,w0⟩:=R3 B.br r1 (i:=0) o6 o6;let hz0:l0.length<=sizeLine:=ap (aK o6);calc⟨_,(aA (fD cK rL (mG (bD nG hr.mono rL (aj cL (aj au ao)))) (bC (i:=5) uq.nd rL (Or.inl rL)) (aA (aU (i:=6) uq.nd rL (Or.inl rL) (cO (aj (aJ bY (aJ cF cT au) (aV bW pk bh ay (aj (bO aG rL) ao))) (aj (aJ bY (aJ cF cT au) (aV cY pk bh ay (aj (aX bw (bO aG rL) au (λ_ _=>rfl)) ao))) (aj (aJ bY (aJ cF cT au) au) ao))))) (aA (fO (cB (dJ (fV aG F.cl q_ rm hr.mono rB .nil dM)) (aF (aU (i:=6) uq.nd rL (Or.inl rL) (cO (aj (aJ nJ (aX bw (bO aG rL) au (λ_ _=>rfl)) (aJ iK (aJ bY (aJ cF cT au) au) (aJ bY cT au))) (aj (aX bw (bO aG rL) au (λ_ _=>rfl)) (aj (aJ bY (aJ cF cT au) au) ao)))))) bJ)) (aA (aU (i:=7) uq.nd rL (Or.inl rL) (bD Uq hr.mono rL (aj (bO aG rL) (aj (aX fH bA (aJ bY (aJ cF cT au) (aV bW pk bh ay (aj bA ao))) (λ_ _=>rfl)) (aj dW (aj bI ao)))))) (aF (cB (QW.qt (vP (bM El (aV (Z4 rL) pk rF me (aj dW ao)) au (bF _)) (vP (bM (yR hr.units) iw (cO ao) (bF _)) (vP (bM uT (aV bW pk bh ay (aj iw ao)) au (bF _)) (yP (dJ (bD ag5 hr.mono rL (aj aG (aj aW (aj bI (aj iw ao))))))))))) (aF (bf iw)) bJ)))))) (aF (bf (cO ao)))),?_⟩;calc⟨_,rL,c,10,rL,pj,λp ds H1 s1 hp0 hp hdl=>?_⟩;refine⟨p,rL,⟨_,bB.of hp⟩,lF (K:=K) (a:=p) (xs:=ds.map V.int) (λi σ O=>∃(v5 v6 v7:Option V),σ=[some (.ref b),some (.ref k),some (.ref pw),some (.str (S bL)),some (.int c),v5,v6,v7]/\aB H1 O)
  (JE none none none ⟨rL,aB.refl _⟩) (λi σ O _ h=>?_) ?_ ?_⟩
 .let⟨_,_,_,_,sm⟩:=h;show bB.of (sm _ _ hp)
 .intro i x σ O hx z;let⟨v5,v6,v7,rfl,sm⟩:=z;rw[ck]at hx;let⟨n,hn,rfl⟩:=dv.mp hx;let s2:=s1.trans sm;let d0:=du (n/64) (show (r:Int)≠0 by lia);let d1:=du (n/640) (show (w:Int)≠0 by lia);let d2:n/6400%2=0\/n/6400%2=1:=o6;refine⟨_,rL,_,_,rL,rL,⟨pj,pj⟩,_,rL,b,C,bx,_,_,rL,s2 _ _ hb,F.cl,F.nr,rL,pr,_,rL,.inr (aO.of (s2 _ _ J)),_,_,rL,rL,(by show (0:Int)<_;rw[hrl];lia),
   _,rL,_,_,rL,rL,⟨pj,pj⟩,_,rL,b,C,bx,_,_,rL,s2 _ _ hb,F.cl,F.nr,rL,pr,_,_,.str (S l0),rL,rL,aO.of (s2 _ _ J),e0,l0,rL,hz0,_,_,rL,rL,(by show (0:Int)<_;rw[w0];lia),
   _,rL,_,_,rL,rL,⟨pj,pj⟩,_,_,rL,rL,(by show (0:Int)<2;decide),zsz 3,λpl hpl=>?_⟩
  rw[hrl,w0];let sP:aB O (upd O pl (HO.tup [V.int (n/64%r),V.int (n/640%w),V.int (n/6400%2)])):=aB.upd hpl;let eP:upd O pl (HO.tup [V.int (n/64%r),V.int (n/640%w),V.int (n/6400%2)]) pl=some (.tup [V.int (n/64%r),V.int (n/640%w),V.int (n/6400%2)]):=aq;generalize upd O pl (HO.tup [V.int (n/64%r),V.int (n/640%w),V.int (n/6400%2)])=H3 at sP eP ⊢;let s3:=s2.trans sP;refine⟨λσ H4=>∃(pl:Addr) (i0 j0 wy:Int),σ=[some (.ref b),some (.ref k),some (.ref pw),some (.str (S bL)),some (.int c),some (.int n),some (.ref pl),v7]/\aB H3 H4/\H4 pl=some (.tup [.int i0,.int j0,.int wy])/\-1<=i0/\0<=j0/\(wy=0\/wy=1),?_,?_⟩
  .calc⟨_,rL,b,bx,_,rL,s3 _ _ hb,rL,b,r,w,aD,aL,bi,bj,rL,BA.mv s3,λH4 Z=>⟨_,rL,?_⟩⟩;let G:=s3.trans Z;calc i_ (λ_=>?_) (λ_=>(JI pl _ _ _ ⟨rL,Z,Z _ _ eP,o6,d1,d2⟩));let d3:n%2=0\/n%2=1:=o6;refine⟨_,rL,b,C,bx,_,_,rL,G _ _ hb,F.cl,F.nb,rL,pb,_,_,.int bi,rL,rL,aO.of (G _ _ Y),aN (j:=0) rL,_,rL,_,_,rL,rL,⟨pj,pj⟩,_,_,rL,rL,(by show (0:Int)<2;decide),_,rL,_,_,rL,rL,(by show (0:Int)<2;decide),_,_,rL,rL,.inl ⟨o6,o6⟩,_,_,rL,rL,
    _,rL,b,C,bx,_,_,rL,G _ _ hb,F.cl,F.nb,rL,pb,_,_,.int bj,rL,rL,aO.of (G _ _ Y),aN (j:=1) rL,_,rL,_,_,rL,rL,⟨pj,pj⟩,_,_,rL,rL,(by show (0:Int)<2;decide),zsz 3,λpl2 ajh=>?_⟩
   calc JI pl2 _ _ _ ⟨rL,Z.trans (aB.upd ajh),aq,?_,o6,d2⟩;show -1<=(bi:Int)-n/6400%2*(n%2)
   rcases d2 with e|e <;> rw[e] <;> lia
  intro σ H4 z;let⟨pl,i0,j0,wy,rfl,Z,ag6,i1,j1,Qw⟩:=z;let G:=s3.trans Z;let⟨wv,hwv,hwm⟩:=vG (xs:=Ts ws) (n:=ws.length) (by rw[aa]) w1 (n/12800);let⟨wd,hwd,rfl⟩:=bd.mp hwm;let hwl:(Ts ws).length=ws.length:=aa _;refine⟨_,rL,b,C,bx,_,_,rL,G _ _ hb,F.cl,F.nr,rL,_,rL,_,rL,_,_,rL,rL,⟨pj,pj⟩,_,rL,pw,_,rL,.inl (bB.of (G _ _ V_)),_,_,rL,rL,(by show (0:Int)<_;rw[hwl];lia),pw,_,_,.str (S wd),rL,rL,bB.of (G _ _ V_),(by rw[hwl];show hwv),_,rL,_,rL,
   pr,pl,bL,wd,i0,j0,wy,r,w,aD,rL,G _ _ J,B.br,r1,r9,w9,hwz wd hwd,ag6,i1,j1,Qw,h63,λt as H5 s5 ht hal hts=>?_⟩
  let zj:=G.trans s5;let s15:aB H1 H5:=((sm.trans sP).trans Z).trans s5;calc⟨_,rL,pl,[i0,j0,wy],rL,aO.of (s5 _ _ ag6),by show 0<3;decide,λm hm hle=>(JA _ _ ⟨rL,rL,_,rL,?_⟩)⟩;calc i_ (λhge=>?_) (λ_=>(JE _ _ _ ⟨rL,s15⟩));let hi0:0<=i0:=by let h1:=hle i0 cf;let h2:=dS hge;show Int.le_trans h2 h1
  let⟨ts,hL,dU,Ga⟩:=hts hi0;let cW:as.length=ts.length:=by rw[<-hL.eq,aa]
  calc⟨_,rL,zsz 0,λe he=>?_⟩;let I:aB H5 (upd H5 e (HO.tup [])):=aB.upd he;let e6:upd H5 e (HO.tup []) e=some (.tup []):=aq;generalize upd H5 e (HO.tup [])=H6 at I e6 ⊢;let xP:=zj.trans I;let s16:=s15.trans I;calc JE 3 (.tup (ts.map dT)) (.tup []) ⟨pj,iM.EY (I _ _ ht) (hL.mv I) (λt h=>(dU t h).2.2),.tup (aO.of e6) .nil,_,rL,?_⟩;calc i_ (λhne=>?_) (λ_=>(JE _ _ _ ⟨rL,s16⟩));let h0:0<ts.length:=by
   rcases kN ts.length with z|z
   .have:ts=[]:=gm.mp z;subst this;simp at hne
   .show z
  calc⟨_,rL,t,_,rL,.inr (aO.of (I _ _ ht)),_,_,rL,rL,_,rL,?_⟩;calc i_ (λh8=>?_) (λ_=>(JE _ _ _ ⟨rL,s16⟩));let h7:ts.length<=7:=by have:=dS h8;rw[aa]at this;lia
  calc⟨_,rL,_,rL,_,rL,_,rL,b,k,kd,t,bs,bL,as,ts,r,w,aD,aL,bi,bj,rL,BA.mv xP,BK.mv xP,h63,I _ _ ht,hL.mv I,dU,h0,h7,Ga,λo H7 s7 ho=>⟨_,rL,?_⟩⟩;calc i_ (λhb=>?_) (λ_=>(JE _ _ _ ⟨rL,s16.trans s7⟩));show⟨_,rL,q t as ts H7 (xP.trans s7) (s7 _ _ (I _ _ ht)) ((hL.mv I).mv s7) (.inr ⟨dU,h0,h7,Ga,ho hb⟩)⟩
 .intro σ O z;let⟨v5,v6,v7,rfl,sm⟩:=z;calc⟨zsz 0,λt ht=>?_⟩;show q t [] [] _ ((s1.trans sm).trans (aB.upd ht)) aq ⟨λa h=>(by cases h),rL⟩ (.inl rL)
theorem Wb:∀{l m bL:List Nat},bL.Perm (l++m)->∃D,wF bL l=some D
 | [],m,bL,_=>⟨bL,rL⟩
 | c::l,m,bL,h=>by let j:c∈bL:=h.mem_iff.mpr pi;unfold wF;rw[if_pos j];let h2:=h.erase c;rw[ow,List.erase_cons_head]at h2;show Wb h2
def cJ (z:Std)(dn:Nat):List Nat:=z.racks.getD (dn%z.racks.length) []
def aaO (z:Std)(dn:Nat)(bs:AB):bT->Prop
 | .lay ts=>Yo z.aD z.r z.w z.bi z.bj bs (cJ z dn) ts
 | .swap l=>l≠[]/\l.length<=7/\(∀c∈l,nU c)/\(∃m,o9 (cJ z dn) l=some m)/\l.length<=z.bag.length
 | .pass=>True
def R5 {z:Std}{dn:Nat}(h:dn%z.racks.length<z.racks.length):cJ z dn=z.racks[dn%z.racks.length]:=by unfold cJ;rw[ax,ac h];rfl
def Wc (C CB:Addr):Sp:=λvs H Q _=>∃(pn k kd pw:Addr) (bs ws:AB) (c:Int) (z:Std) (dn ps:Nat) (ov:Bool),vs=[.ref pn,.ref k,.ref pw,.int c]/\mq C H pn z dn ps ov/\lC z/\gO CB H k kd bs/\H pw=some (.lst (Ts ws))/\1<=ws.length/\(∀l∈ws,yj l)/\
 ∀(p:Addr) (d:bT) (H':Hp),aB H H'->jO H' p d->aaO z dn bs d->Q (.ref p) H'
open Classical in
def aeJ {C CB:Addr}(D:aM K mg "_law_deed" Ji ["_law_now","_law_book","_law_words_here","_law_cell"])(bh:mg "len"=none)(rF:mg "min"=none)(nG:bV P w K mg base "_law_stream" 1 ["_law_cell","_law_many"] tD)(acv:bV P w K mg base "_law_laying" 17 ["_law_board","_law_book","_law_words_here","_law_rack","_law_cell"] (aaM C CB)):bV P w K mg base "_law_deed" 18 ["_law_now","_law_book","_law_words_here","_law_cell"] (Wc C CB):=by
 calc D.cZ jF (λf bG A outer s H vs Q E hr h=>?_);let⟨pn,k,kd,pw,bs,ws,c,z,dn,ps,ov,rfl,NA,Z,BK,V_,w1,hwz,q⟩:=h;let⟨b,pr,pp,hn,hB,hpr,hpp⟩:=NA.ex;let n1:=Z.n1;let hrl:(Ts z.racks).length=z.racks.length:=aa _;let O:dn%z.racks.length<z.racks.length:=Nat.mod_lt _ n1;let erk:=R5 O;let⟨k7,kt⟩:=Z.r7 _ (aI O);rw[<-erk]at k7 kt;let hz:(cJ z dn).length<=sizeLine:=ap (aK o6);let b6:=Z.b6;let Wd:z.bag.length<=sizeLine:=ap (aK o6);calc⟨_,(aA (fO (pH aG (nO rL (bU (bC (i:=4) jF.nd rL (Or.inl rL)) (bU (bC (i:=5) jF.nd rL (Or.inl rL)) (bU (bC (i:=6) jF.nd rL (Or.inl rL)) (bU (bC (i:=7) jF.nd rL (Or.inl rL)) (bU (bC (i:=8) jF.nd rL (Or.inl rL)) (bU (bC (i:=9) jF.nd rL (Or.inl rL)) (bU (bC (i:=10) jF.nd rL (Or.inl rL)) kY)))))))))) (aA (aU (i:=11) jF.nd rL (Or.inl rL) (bD nG hr.mono rL (aj bI (aj au ao)))) (aA (fO (aU (i:=12) jF.nd rL (Or.inl rL) (aX bw cT (aJ bY jq (aV bW pk bh ay (aj cT ao))) (λ_ _=>rfl)))) (aA (aU (i:=13) jF.nd rL (Or.inl rL) (cO ao)) (aA (fO (cB (bM ahO (aJ bY (aX fH nP au (λ_ _=>rfl)) au) au (bF _)) (aF (aU (i:=13) jF.nd rL (Or.inl rL) (bD acv hr.mono rL (aj cL (aj aW (aj bA (aj pI (aj (aX fH nP au (λ_ _=>rfl)) ao)))))))) bJ)) (aA (cB (bM (yR hr.units) (qv 13) (cO ao) (bF _)) (aF (bf (cO (aj (bH [108,97,121] pS) (aj (qv 13) ao))))) bJ) (aA (aU (i:=14) jF.nd rL (Or.inl rL) (aJ cG au (aJ bY (aX fH nP au (λ_ _=>rfl)) au))) (aA (cB (QW.qt (lY (bM iH (aJ bY (aX fH nP au (λ_ _=>rfl)) au) au (bF _)) (jZ (bM uT (aV (LR rL) pk rF me (aj (aV cY pk bh ay (aj pI ao)) (aj (aV cY pk bh ay (aj dW ao)) ao))) (qv 14) (bF _))))) (aF (bf (cO (aj (bH [112,97,115,115] pS) ao)))) bJ) (aA (aU (i:=15) jF.nd rL (Or.inl rL) (aJ bY (aJ cF (aX fH nP au (λ_ _=>rfl)) au) (aV cY pk bh ay (aj pI ao)))) (aF (bf (cO (aj (bH [115,119,97,112] pS) (aj (dh pA (aJ mF (dh pA pI (dD (qv 15)) d8) (dh pA pI d8 (dD (qv 15)))) d8 (dD (qv 14))) ao)))))))))))))),?_⟩;calc⟨λσ H1=>H=H1/\σ=[some (.ref pn),some (.ref k),some (.ref pw),some (.int c),some (.ref b),some (.ref pr),some (.str (S z.bag)),some (.ref pp),some (.int dn),some (.int ps),some (.bl ov),none,none,none,none,none],⟨_,rL,pn,_,rL,aO.of hn,rL,_,_,rL,_,_,rL,_,_,rL,_,_,rL,_,_,rL,_,_,rL,_,_,rL,rL,rL,rL⟩,?_⟩;rintro σ H1 ⟨eH,rfl⟩;subst eH;refine⟨_,rL,c,3,rL,pj,λpq ds H1 s1 hp0 hp hdl=>?_⟩
 match ds,hdl with
 | [x,y,u],_=>
  let emod:(dn:Int)%((Ts z.racks).length:Int)=((dn%z.racks.length:Nat):Int):=by rw[hrl];lia
  calc⟨λσ H2=>H1=H2/\σ=[some (.ref pn),some (.ref k),some (.ref pw),some (.int c),some (.ref b),some (.ref pr),some (.str (S z.bag)),some (.ref pp),some (.int dn),some (.int ps),some (.bl ov),some (.ref pq),some (.str (S (cJ z dn))),none,none,none],⟨_,rL,_,rL,_,rL,pr,_,rL,.inr (aO.of (s1 _ _ hpr)),_,_,rL,rL,(by show (0:Int)<_;rw[hrl];lia),pr,_,_,.str (S (cJ z dn)),rL,rL,aO.of (s1 _ _ hpr),(by rw[emod,erk];show aN (nD (ac O))),rL,rL⟩,?_⟩;rintro σ H2 ⟨eH,rfl⟩;subst eH;calc⟨zsz 0,λe he=>?_⟩;let s2:aB H1 (upd H1 e (HO.tup [])):=aB.upd he;let e2:upd H1 e (HO.tup []) e=some (.tup (([]:List Addr).map V.ref)):=aq;generalize upd H1 e (HO.tup [])=H2 at s2 e2 ⊢;let dZ:=s1.trans s2;let J:=s2 _ _ hp;refine⟨λσ G=>∃(t:Addr) (as:List Addr) (ts:List bR),σ=[some (.ref pn),some (.ref k),some (.ref pw),some (.int c),some (.ref b),some (.ref pr),some (.str (S z.bag)),some (.ref pp),some (.int dn),some (.int ps),some (.bl ov),some (.ref pq),some (.str (S (cJ z dn))),some (.ref t),none,none]/\aB H2 G/\G t=some (.tup (as.map V.ref))/\eE G as ts/\(ts=[]\/Yo z.aD z.r z.w z.bi z.bj bs (cJ z dn) ts),?_,?_⟩
  .calc⟨_,rL,pq,_,_,.int x,rL,rL,bB.of J,aN (j:=0) rL,_,_,rL,rL,(by show (0:Int)<8;decide),_,_,rL,rL,_,rL,?_⟩;calc i_ (λ_=>?_) (λ_=>(JE e [] [] ⟨rL,aB.refl _,e2,⟨λa h=>(by cases h),rL⟩,.inl rL⟩));show⟨_,rL,_,rL,_,rL,_,rL,_,rL,pq,_,_,.int y,rL,rL,bB.of J,aN (j:=1) rL,b,k,kd,pw,bs,ws,cJ z dn,y,z.r,z.w,z.aD,z.aL,z.bi,z.bj,rL,hB.mv dZ,BK.mv dZ,dZ _ _ V_,w1,hwz,o6,λt as ts G s3 ht hL ho=>(JE t as ts ⟨rL,s3,ht,hL,ho⟩)⟩
  intro σ G z;let⟨t,as,ts,rfl,s3,ht,hL,ho⟩:=z;let eO:=dZ.trans s3;let hp3:=s3 _ _ J;calc⟨_,rL,zsz 0,λe' he'=>?_⟩;let Y:aB G (upd G e' (HO.tup [])):=aB.upd he';let e4:upd G e' (HO.tup []) e'=some (.tup []):=aq;generalize upd G e' (HO.tup [])=H4 at Y e4 ⊢;let gC:=eO.trans Y;let I:=Y _ _ hp3;let hsg:∀t∈ts,pK t.2.2:=by
   rcases ho with h|h;.subst h;intro t h;cases h
   .show λt ht=>(h.ux t ht).2.2
  calc JE 3 (.tup (ts.map dT)) (.tup []) ⟨pj,iM.EY (Y _ _ ht) (hL.mv Y) hsg,.tup (aO.of e4) .nil,_,rL,?_⟩;refine i_ (λhne=>?_) (λ_=>?_)
  .rcases ho with h|h;.subst h;simp at hne
   calc⟨_,rL,zsz 2,λp hp=>?_⟩;let sp:=aB.upd hp (o:=HO.tup [V.str (S [108,97,121]),V.ref t]);show q p (.lay ts) _ (gC.trans sp) (JA t as ⟨aq,sp _ _ (Y _ _ ht),(hL.mv Y).mv sp⟩) h
  calc⟨_,rL,pq,_,_,.int u,rL,rL,bB.of I,aN (j:=2) rL,_,_,rL,rL,(by show (0:Int)<7;decide),_,_,rL,rL,?_⟩;let pass:1<=sizeLine/\∀p,H4 p=none->Q (.ref p) (upd H4 p (HO.tup [V.str (S [112,97,115,115])])):=⟨zsz 1,λp hp=>q p .pass _ (gC.trans (aB.upd hp)) aq True.intro⟩
  calc⟨_,rL,pq,_,_,.int x,rL,rL,bB.of I,aN (j:=0) rL,_,_,rL,rL,(by show (0:Int)<8;decide),rL,_,rL,?_⟩;calc i_ (λ_=>pass) (λ_=>?_);calc⟨_,rL,cJ z dn,rL,hz,_,rL,z.bag,rL,Wd,_,_,rL,_,rL,_,_,rL,rL,_,rL,?_⟩;calc i_ (λ_=>pass) (λhm=>?_);let hm:=i9 (n9.mpr hm);obtain⟨F,ady⟩:∃F:Nat,1+u%7=(F:Int):=⟨(1+u%7).toNat,o6⟩
  let m1:1<=F:=o6;let m7:F<=7:=o6;let mr:F<=(cJ z dn).length/\F<=z.bag.length:=by let hm:¬((if (z.bag.length:Int)<((cJ z dn).length:Int) then (z.bag.length:Int) else ((cJ z dn).length:Int))<1+u%7):=hm;rw[ady]at hm;split at hm <;> lia
  let hpos:(0:Int)<((cJ z dn).length:Int):=o6;obtain⟨B,hBy⟩:∃B:Nat,u/7%((cJ z dn).length:Int)=(B:Int):=⟨(u/7%((cJ z dn).length:Int)).toNat,by have:=du (u/7) (show ((cJ z dn).length:Int)≠0 by lia);lia⟩
  calc⟨_,rL,pq,_,_,.int u,rL,rL,bB.of I,aN (j:=2) rL,_,_,rL,rL,⟨pj,pj⟩,_,rL,cJ z dn,rL,hz,_,_,rL,rL,hpos,?_⟩;calc⟨_,rL,_,rL,_,rL,cJ z dn,rL,hz,_,rL,_,rL,_,rL,cJ z dn,rL,hz,_,_,rL,rL,?_,_,rL,_,rL,_,rL,?_,zsz 2,λp hp=>?_⟩;.rw[hBy,jT,nY,bc,am];show ap (aK o6)
  .rw[hBy,jT,nY,av,bc,am];show ap (aK o6)
  let ec:gQ (gQ (cJ z dn) (some (u/7%((cJ z dn).length:Int))) none++gQ (cJ z dn) none (some (u/7%((cJ z dn).length:Int)))) none (some (1+u%7))=((cJ z dn).drop B++(cJ z dn).take B).take F:=by rw[hBy,jT,nY,ady,nY]
  let pe:(cJ z dn).Perm (((cJ z dn).drop B++(cJ z dn).take B).take F++((cJ z dn).drop B++(cJ z dn).take B).drop F):=by rw[ka];calc List.Perm.trans ?_ List.perm_append_comm;rw[ka]
  let⟨m,hrm⟩:=Wb pe;let cW:(((cJ z dn).drop B++(cJ z dn).take B).take F).length=F:=by rw[am,av,bc,am];lia
  let htl:∀c∈((cJ z dn).drop B++(cJ z dn).take B).take F,nU c:=λc hc=>kt c (by
   rcases bz.mp (cE hc) with z|z;.show ed z
   .show cE z)
  let sp:=aB.upd hp (o:=HO.tup [V.str (S [115,119,97,112]),V.str (S (gQ (gQ (cJ z dn) (some (u/7%((cJ z dn).length:Int))) none++gQ (cJ z dn) none (some (u/7%((cJ z dn).length:Int)))) none (some (1+u%7))))]);refine q p (.swap (((cJ z dn).drop B++(cJ z dn).take B).take F)) _ (gC.trans sp) ?_ ⟨λz=>?_,o6,htl,⟨m,?_⟩,o6⟩
  .show upd H4 p _ p=_;rw[aq,<-ec];rfl
  .rw[z]at cW;simp at cW;lia
  .rw[<-O5,V5 htl];show hrm
def Wf (ps:Nat):bT->Nat
 | .pass=>ps+1
 | _=>0
noncomputable def ovN (z z':Std)(ps dn:Nat):bT->Bool
 | .pass=>decide (2*z.racks.length<=ps+1)
 | .swap _=>false
 | .lay _=>decide (cJ z' dn=[])&&decide (z'.bag=[])
def Np {d:bT}:d.name=eV↔d=.pass:=by
 cases d with| lay ts=>show⟨λh=>absurd h (show ¬iU=eV by decide),λh=>nomatch h⟩| swap l=>show⟨λh=>absurd h (show ¬gK=eV by decide),λh=>nomatch h⟩| pass=>show⟨λ_=>rfl,λ_=>rfl⟩
def aeK {c:Nat}(h:pK c):rK [V.str (S [c]),V.str (S [63])] (if (!decide ([PyProof.Rows.lo1 c]=[c]))=true then 1 else 0)=some (.str (S [gJ c])):=by
 unfold pK Cz Cy FW at h;simp at h;unfold gJ PyProof.Rows.lo1;by_cases j:65<=c/\c<=90
 .rw[if_pos j,if_pos j];have:¬[c+32]=[c]:=λz=>by simp at z
  rw[ah this];rfl
 .rw[if_neg j,if_neg j,al rfl];rfl
def ais (n k:Nat):(if (n:Int)-(k:Int) > 0 then (n:Int)-(k:Int) else 0)=((n-k:Nat):Int):=by split <;> lia
def R6 (C:Addr):Sp:=λvs H Q _=>∃(pn p pw pd:Addr) (z z':Std) (dn ps:Nat) (ov:Bool) (Z:Nj) (G:Gm) (d:bT) (pt:Int),vs=[.ref pn,.ref p,.ref pd]/\mq C H pn z dn ps ov/\lC z/\vA C H p pw Z/\O7 Z/\jO H pd d/\G.done.length=dn/\G.kvs=Z.kvs/\G.bn=Z.bn/\G.bm=Z.bm/\G.size=Z.size/\Does G z d pt z'/\
 ∀(t j:Addr) (H':Hp),aB H H'->H' t=some (.tup [.int pt,.ref j])->mq C H' j z' (dn+1) (Wf ps d) (ovN z z' ps dn d)->Q (.ref t) H'
def E_ {c:Nat}(h:nU c):c<128:=by
 rcases h with e|e;.have:=e.2;lia
 .lia
open Classical in
def aeL {C f1:Addr}{dH:FuncData}(D:aM K mg "_law_next" Jj ["_law_now","_law_parts_here","_law_deed_here"])(bh:mg "len"=none)(ig:mg "list"=none)(gU:mg "sorted"=none)(n_:mg "int"=none)(xQ:mg "max"=none)(cu:gA K C)(j_:Meth K C "laid" f1)(kh:bZ P w K mg base dz 8 f1 dH ["self","laying"] (CK C))(kj:bN K dH ["self","laying"] [])(aeM:bV P w K mg base "_law_taken" 1 ["_law_rack","_law_tiles_here"] V6)(acw:bV P w K mg base "_law_taken" 1 ["_law_rack","_law_tiles_here"] RQ)(yw:bV P w K mg base "points_of" 11 ["board","worths","bonus","laying"] (Ye C)):bV P w K mg base "_law_next" 12 ["_law_now","_law_parts_here","_law_deed_here"] (R6 C):=by
 calc D.cZ f9 (λf bG A outer s H vs Q E hr h=>?_);let⟨pn,p,pw,pd,z,z',dn,ps,ov,Z,G,d,pt,rfl,NA,Zk,PA,PO,hd,hdn,ek,en,em,ez,hdo,q⟩:=h;let⟨b,pr,pp,hn,hB,I,hpp⟩:=NA.ex;let⟨b0,dk,pb,prr,hp,hB0,hdk,hpb,ajD⟩:=PA.ex;let⟨nxs,hnm⟩:=V1 hd;let n1:=Zk.n1;let n4:=Zk.n4;let hrl:(Ts z.racks).length=z.racks.length:=aa _;let F:dn%z.racks.length<z.racks.length:=Nat.mod_lt _ n1;let erk:=R5 F;let⟨k7,kt⟩:=Zk.r7 _ (aI F);rw[<-erk]at k7 kt;let b6:=Zk.b6;let Wd:z.bag.length<=sizeLine:=ap (aK o6);let O:jt G z=dn%z.racks.length:=by unfold jt;rw[hdn]
 let emod:(dn:Int)%((Ts z.racks).length:Int)=((dn%z.racks.length:Nat):Int):=by rw[hrl];lia
 let eat:rK (Ts z.racks) ((dn:Int)%((Ts z.racks).length:Int))=some (.str (S (cJ z dn))):=by rw[emod,erk];show aN (nD (ac F))
 calc⟨_,(aA (fO (pH aG (nO rL (bU (bC (i:=3) f9.nd rL (Or.inl rL)) (bU (bC (i:=4) f9.nd rL (Or.inl rL)) (bU (bC (i:=5) f9.nd rL (Or.inl rL)) (bU (bC (i:=6) f9.nd rL (Or.inl rL)) (bU (bC (i:=7) f9.nd rL (Or.inl rL)) (bU (bC (i:=8) f9.nd rL (Or.inl rL)) (bU (bC (i:=9) f9.nd rL (Or.inl rL)) kY)))))))))) (aA (fO (aU (i:=10) f9.nd rL (Or.inl rL) (aJ bY iw (aV bW pk bh ay (aj cL ao))))) (aA (aU (i:=11) f9.nd rL (Or.inl rL) au) (aA (cB (bM ju (aX bw bA au (λ_ _=>rfl)) (bH [112,97,115,115] pS) (bF _)) (aF (bf (cO (aj au (aj (cO (aj bI (aj cL (aj cT (aj dW (aj (aJ cG iw au) (aj (aJ cG jq au) (aj (d7 El (aJ cG jq au) (aJ iK au (aV bW pk bh ay (aj cL ao))) (bF _)) ao)))))))) ao))))) bJ) (aA (fO (cB (bM ju (aX bw bA au (λ_ _=>rfl)) (bH [115,119,97,112] pS) (bF _)) (aA (aU (i:=12) f9.nd rL (Or.inl rL) (aJ Zh (bD aeM hr.mono rL (aj (aX bw cL jd (λ_ _=>rfl)) (aj (aX bw bA au (λ_ _=>rfl)) ao))) (eU (m_ rL) pk ig fk (aj (dh pA cT d8 (dD (aV cY pk bh ay (aj (aX bw bA au (λ_ _=>rfl)) ao)))) ao)))) (aF (aU (i:=5) f9.nd rL (Or.inl rL) (aJ mF (dh pA cT (dD (aV cY pk bh ay (aj (aX bw bA au (λ_ _=>rfl)) ao))) d8) (fJ bq dq dr qm (bH [] pS) (aj (aV (uF rL) pk gU fz (aj (aX bw bA au (λ_ _=>rfl)) ao)) ao)))))) (aA (aU (i:=11) f9.nd rL (Or.inl rL) (bD yw hr.mono rL (aj bI (aj (aX bw aW au (λ_ _=>rfl)) (aj (aX bw aW au (λ_ _=>rfl)) (aj (aX bw bA au (λ_ _=>rfl)) ao)))))) (aA (aU (i:=12) f9.nd rL (Or.inl rL) (bD acw hr.mono rL (aj (aX bw cL jd (λ_ _=>rfl)) (aj (lK (ns:=["_law_row","_law_column","_law_sign"]) rL (jA.of ["_law_now","_law_parts_here","_law_deed_here","_law_board","_law_racks","_law_bag","_law_sums","_law_done","_law_passed","_law_over","_law_here","_law_points","_law_left","_law_drawn"] [] pE) (gM (aX bw bA au (λ_ _=>rfl))) (λ_ _ _ _ _=>(oO K rL (show (["_law_row","_law_column","_law_sign","_law_now","_law_parts_here","_law_deed_here","_law_board","_law_racks","_law_bag","_law_sums","_law_done","_law_passed","_law_over","_law_here","_law_points","_law_left","_law_drawn"]:List Str).Nodup by decide +kernel) rL rL rL pk pk pk)) (λ_ _ _ _ _=>dR) (λ_ _ _ _ _=>(aX (abD K) (h_ (aj bA (aj (bH [63] pS) ao))) (eU L_ pk n_ j3 (aj (d7 Ir (aee K bq lI lL PL bA) bA (bF _)) ao)) (λ_ _=>rfl)))) ao)))) (aA (fO (aU (i:=13) f9.nd rL (Or.inl rL) (dh pA cT d8 (dD (aV (LQ rL) pk xQ PyProof.Rows.boot_max (aj au (aj (aJ nJ (aX bw aW au (λ_ _=>rfl)) (aV bW pk bh ay (aj pI ao))) ao))))))) (aA (aU (i:=12) f9.nd rL (Or.inl rL) (aJ Zh pI (eU (m_ rL) pk ig fk (aj (qv 13) ao)))) (aA (aU (i:=5) f9.nd rL (Or.inl rL) (dh pA cT (dD (aV cY pk bh ay (aj (qv 13) ao))) d8)) (aF (aU (i:=3) f9.nd rL (Or.inl rL) (mH bI cu.cl j_ kh hr.mono kj .nil dM (aj (aX bw bA au (λ_ _=>rfl)) ao))))))))))) (aA (aU (i:=4) f9.nd rL (Or.inl rL) (aJ vI (aJ vI (dh vJ cL d8 (dD jd)) (cO (aj (fJ bq dq dr qm (bH [] pS) (aj (aV Ce pk gU fz (aj pI ao)) ao)) ao))) (dh vJ cL (dD (aJ cG jd au)) d8))) (aA (aU (i:=6) f9.nd rL (Or.inl rL) (aJ vI (aJ vI (dh vJ dW d8 (dD jd)) (cO (aj (aJ cG (aX bw dW jd (λ_ _=>rfl)) nP) ao))) (dh vJ dW (dD (aJ cG jd au)) d8))) (aF (bf (cO (aj nP (aj (cO (aj bI (aj cL (aj cT (aj dW (aj (aJ cG iw au) (aj au (aj (jN (d7 ju (aX bw bA au (λ_ _=>rfl)) (bH [108,97,121] pS) (bF _)) (jN (d7 (yQ hr.units) pI (h_ ao) (bF _)) (jw (d7 ju cT (bH [] pS) (bF _))))) ao)))))))) ao)))))))))))),?_⟩;calc⟨λσ H1=>H=H1/\σ=[some (.ref pn),some (.ref p),some (.ref pd),some (.ref b),some (.ref pr),some (.str (S z.bag)),some (.ref pp),some (.int dn),some (.int ps),some (.bl ov),none,none,none,none],⟨_,rL,pn,_,rL,aO.of hn,rL,_,_,rL,_,_,rL,_,_,rL,_,_,rL,_,_,rL,_,_,rL,_,_,rL,rL,rL,rL⟩,?_⟩;rintro σ H1 ⟨eH,rfl⟩;subst eH;calc⟨λσ H2=>H=H2/\σ=[some (.ref pn),some (.ref p),some (.ref pd),some (.ref b),some (.ref pr),some (.str (S z.bag)),some (.ref pp),some (.int dn),some (.int ps),some (.bl ov),some (.int ((dn:Int)%((Ts z.racks).length:Int))),none,none,none],⟨_,rL,_,rL,pr,_,rL,.inr (aO.of I),_,_,rL,rL,(by show (0:Int)<_;rw[hrl];lia),rL,rL⟩,?_⟩;rintro σ H2 ⟨eH,rfl⟩;subst eH;calc⟨_,rL,pd,_,_,.str (S d.name),rL,rL,aO.of hnm,aN (j:=0) rL,d.name,eV,rL,rL,_,rL,?_⟩;by_cases J:d=.pass
 .subst J;rw[al (show bT.name .pass=eV from rL)];cases hdo;let eo:decide ((ps:Int)+1>=2*((Ts z.racks).length:Int))=decide (2*z.racks.length<=ps+1):=Ez (by rw[hrl];lia);calc cj ⟨_,rL,_,rL,_,rL,_,rL,_,rL,_,_,rL,rL,_,rL,_,_,rL,rL,_,rL,_,_,rL,rL,_,rL,pr,_,rL,.inr (aO.of I),_,_,rL,rL,.inl ⟨pj,pj⟩,_,_,rL,rL,zsz 7,λp' hp'=>⟨zsz 2,λt ht=>?_⟩⟩;let s1:=aB.upd hp' (o:=HO.tup [V.ref b,V.ref pr,V.str (S z.bag),V.ref pp,V.int ((dn:Int)+1),V.int ((ps:Int)+1),V.bl (decide ((ps:Int)+1>=2*((Ts z.racks).length:Int)))]);let s2:=aB.upd ht (o:=HO.tup [V.int 0,V.ref p']);calc q t p' _ (s1.trans s2) aq ⟨b,pr,pp,s2 _ _ ?_,(hB.mv s1).mv s2,s2 _ _ (s1 _ _ I),s2 _ _ (s1 _ _ hpp)⟩;calc aq.trans ?_;show some (HO.tup [V.ref b,V.ref pr,V.str (S z.bag),V.ref pp,V.int ((dn:Int)+1),V.int ((ps:Int)+1),V.bl (decide ((ps:Int)+1>=2*((Ts z.racks).length:Int)))])=_;rw[eo];rfl
 rw[ah λe=>J (Np.mp e)];refine bQ ⟨λσ H5=>∃(b' N:Addr) (us:List Nat) (v13:Option V),σ=[some (.ref pn),some (.ref p),some (.ref pd),some (.ref b'),some (.ref pr),some (.str (S z'.bag)),some (.ref pp),some (.int dn),some (.int ps),some (.bl ov),some (.int ((dn:Int)%((Ts z.racks).length:Int))),some (.int pt),some (.ref N),v13]/\aB H H5/\cM C H5 b' z'.r z'.w z'.aD z'.aL z'.bi z'.bj/\H5 N=some (.lst (Ts (us.map λc=>[c])))/\us.length<=60/\(∀c∈us,c<128)/\z'.racks=z.racks.set (dn%z.racks.length) (dG us)/\z'.je=z.je.set (dn%z.racks.length) (z.je.getD (dn%z.racks.length) 0+pt),?_,?_⟩
 .calc⟨_,rL,pd,_,_,.str (S d.name),rL,rL,aO.of hnm,aN (j:=0) rL,d.name,gK,rL,rL,_,rL,?_⟩;cases hdo with
  | @swap l m ne h7 tl lf hb=>
   rw[al (show bT.name (.swap l)=gK from rL)];let hd:H pd=some (.tup [.str (S gK),.str (S l)]):=hd;let Bq:l.length<=sizeLine:=ap (aK o6);rw[O]at lf;let Y:wF (cJ z dn) l=some m:=by rw[<-V5 tl,O5];show lf
   let hml:=RP Y;calc cj ⟨_,rL,_,rL,pr,_,_,.str (S (cJ z dn)),rL,rL,aO.of I,eat,_,rL,pd,_,_,.str (S l),rL,rL,aO.of hd,aN (j:=1) rL,cJ z dn,l,m,rL,o6,o6,Y,λLf H1 s1 fLf hLf=>?_⟩;calc⟨_,rL,_,rL,pd,_,_,.str (S l),rL,rL,aO.of (s1 _ _ hd),aN (j:=1) rL,l,rL,Bq,_,rL,z.bag,rL,Wd,z.bag.take l.length,by rw[nY],by rw[am];lia,λM hM=>?_⟩;let s2:=aB.upd hM (o:=HO.lst (Ts ((z.bag.take l.length).map λc=>[c])));let e2:upd H1 M (HO.lst (Ts ((z.bag.take l.length).map λc=>[c]))) M=some (.lst (Ts ((z.bag.take l.length).map λc=>[c]))):=aq;generalize upd H1 M (HO.lst (Ts ((z.bag.take l.length).map λc=>[c])))=H2 at s2 e2 ⊢;calc JI Lf M _ _ ⟨rL,rL,s2 _ _ hLf,e2,?_,λN hN=>?_⟩;.rw[aa,aa,aa,aa,am];show ap (aK o6)
   let s3:=aB.upd hN (o:=HO.lst (Ts (m.map λc=>[c])++Ts ((z.bag.take l.length).map λc=>[c])));let e3:upd H2 N (HO.lst (Ts (m.map λc=>[c])++Ts ((z.bag.take l.length).map λc=>[c]))) N=some (.lst (Ts ((m++z.bag.take l.length).map λc=>[c]))):=by rw[aq];simp[Ts]
   generalize upd H2 N (HO.lst (Ts (m.map λc=>[c])++Ts ((z.bag.take l.length).map λc=>[c])))=H3 at s3 e3 ⊢;let eO:=(s1.trans s2).trans s3;calc⟨_,rL,_,rL,pd,_,_,.str (S l),rL,rL,aO.of (eO _ _ hd),aN (j:=1) rL,l,rL,Bq,_,rL,z.bag,rL,Wd,rL,_,rL,pd,_,_,.str (S l),rL,rL,aO.of (eO _ _ hd),aN (j:=1) rL,l,rL,o6,λp2 us hp2 pm pw2=>?_⟩;let s4:=aB.upd hp2 (o:=HO.lst (Ts (us.map λc=>[c])));calc JA p2 (us.map λc=>[c]) ⟨rL,rL,bB.of aq,?_,?_⟩;.rw[lZ,pm.length_eq];lia
   rw[wC (pm.map λc=>[c]) pw2];calc JA _ (dG l) ⟨rL,rL,?_,?_⟩;.rw[jT,bc,jm];show ap (aK o6)
   calc JI b N (m++z.bag.take l.length) none ⟨?_,eO.trans s4,(hB.mv eO).mv s4,s4 _ _ e3,?_,λc hc=>?_,?_,?_⟩;.rw[jT];rfl
   .rw[av,am];lia
   .rcases bz.mp hc with y|y;.show E_ (kt c (zp lf c y))
    .show E_ (Zk.bt c (cE y))
   .show z.racks.set _ _=_;rw[O,aax (List.Perm.append (jM m) (List.Perm.refl _))]
   .show z.je=_;rw[Int.add_zero];let hip:dn%z.racks.length<z.je.length:=by rw[Zk.pl];show F
    rw[ax,ac hip,Option.getD_some,List.set_getElem_self]
  | @lay ts l ux h0 h7 ri vd lf=>
   rw[ah (show ¬bT.name (.lay ts)=gK from (show ¬iU=gK by decide))];let⟨t,as,hd,ht,hL⟩:=hd;let hl1:=KJ hB.ok.w9 ux h0 ri (V0 vd);let hal:=hL.len;rw[O]at lf;refine bQ ⟨_,rL,_,rL,p,_,_,.ref dk,rL,rL,aO.of hp,aN (j:=2) rL,_,rL,p,_,_,.ref pb,rL,rL,aO.of hp,aN (j:=3) rL,_,rL,pd,_,_,.ref t,rL,rL,aO.of hd,aN (j:=1) rL,
    b,dk,pb,t,Z.kvs,Z.bn,Z.bm,as,ts,z.r,z.w,z.aD,z.aL,z.bi,z.bj,rL,hB,Rd.of hdk,PO.wd,PO.wb,hpb,ht,hL,ux,h0,h7,hl1,λH1 s1=>?_⟩
   refine⟨_,rL,_,rL,pr,_,_,.str (S (cJ z dn)),rL,rL,aO.of (s1 _ _ I),eat,_,rL,pd,_,_,.ref t,rL,rL,aO.of (s1 _ _ hd),aN (j:=1) rL,t,rL,⟨_,aO.of (s1 _ _ ht)⟩,λN hN=>jQ (K:=K) (KT:=K) (a:=t) (f:=jC [] 0) (tt:=lH) (xs:=as.map V.ref) (λn ys H6=>ys=Ts (ones ((ts.take n).map λt=>gJ t.2.2))/\H6 N=some (.lst ys)/\aB H1 H6)
    ⟨rL,aq,aB.upd hN⟩ (λn ys H6 _ h=>aO.of (h.2.2 _ _ (s1 _ _ ht))) ?_ ?_⟩
   .intro n x ys H6 hx z;let⟨rfl,rM,qC⟩:=z;let hn':n<as.length:=by have:=(ag.mp hx).1;simpa using this
    let hnt:n<ts.length:=o6;rw[ck,ac hn']at hx;let hx:V.ref as[n]=x:=bp hx;let⟨_,ent⟩:=jz (hL.mv (s1.trans qC)) hnt;let hsg:=(ux _ (aI hnt)).2.2;calc uW hx.symm (aO.of ent) ?_;calc⟨_,rL,zsz 2,λM hM=>?_⟩;let s7:=aB.upd hM (o:=HO.lst [V.str (S [ts[n].2.2]),V.str (S [63])]);calc⟨_,rL,rL,[ts[n].2.2],rL,rL,(by show 1<=1000;decide),(λc hc=>by rw[aS.mp hc];show hsg.lt),_,rL,[PyProof.Rows.lo1 ts[n].2.2],[ts[n].2.2],rL,rL,.inr ⟨_,rL,M,_,_,.str (S [gJ ts[n].2.2]),rL,rL,bB.of aq,aeK hsg,s7 _ _ rM,?_,gY.mk (by rw[aa];show hn') ⟨?_,aq,(qC.trans s7).dF hN⟩⟩⟩;.rw[aa,aa,aa,am];show aK o6
    .rw[show ts.take (n+1)=ts.take n++[ts[n]] by rw[cz,ac hnt];rfl];simp only[Ts,ones,bv];rfl
   intro ys H6 z;let⟨rfl,rM,qC⟩:=z;rw[aa,hal,ce]at rM;let Y:wF (cJ z dn) (ts.map λt=>gJ t.2.2)=some l:=by rw[show (ts.map λt=>gJ t.2.2)=(ts.map (·.2.2)).map gJ by rw[fA];rfl,O5];show lf
   let hll:=RP Y;let xP:=s1.trans qC;calc JI (cJ z dn) (ts.map (λt=>gJ t.2.2)) l N ⟨rL,rM,o6,by rw[aa];lia,Y,λLf H7 s7 fLf hLf=>?_⟩;let JD:=xP.trans s7;let hLl:(Ts (l.map λc=>[c])).length=l.length:=by rw[aa,aa]
   let aji:gQ z.bag none (some (if (Z.size:Int)-((Ts (l.map λc=>[c])).length:Int) > 0 then (Z.size:Int)-((Ts (l.map λc=>[c])).length:Int) else 0))=z.bag.take (Z.size-l.length):=by rw[hLl,ais,nY]
   calc⟨λσ H8=>H7=H8/\σ=[some (.ref pn),some (.ref p),some (.ref pd),some (.ref b),some (.ref pr),some (.str (S z.bag)),some (.ref pp),some (.int dn),some (.int ps),some (.bl ov),some (.int ((dn:Int)%((Ts z.racks).length:Int))),some (.int (Yd z.aD z.aL Z.kvs ts Z.bn Z.bm)),some (.ref Lf),some (.str (S (z.bag.take (Z.size-l.length))))],⟨_,rL,_,rL,p,_,_,.int Z.size,rL,rL,aO.of (JD _ _ hp),aN (j:=4) rL,_,rL,Lf,_,rL,.inl (bB.of hLf),_,_,rL,rL,_,_,rL,_,rL,z.bag,rL,Wd,rL,by rw[<-aji];rfl⟩,?_⟩;rintro σ H7' ⟨eH,rfl⟩;subst eH;let htk:(z.bag.take (Z.size-l.length)).length<=7:=by rw[am];have:=PO.s7;lia
   calc⟨_,rL,_,rL,z.bag.take (Z.size-l.length),rL,o6,λM hM=>?_⟩;let s8:=aB.upd hM (o:=HO.lst (Ts ((z.bag.take (Z.size-l.length)).map λc=>[c])));let e8:upd H7 M (HO.lst (Ts ((z.bag.take (Z.size-l.length)).map λc=>[c]))) M=some (.lst (Ts ((z.bag.take (Z.size-l.length)).map λc=>[c]))):=aq;generalize upd H7 M (HO.lst (Ts ((z.bag.take (Z.size-l.length)).map λc=>[c])))=H8 at s8 e8 ⊢;calc JI Lf M _ _ ⟨rL,rL,s8 _ _ hLf,e8,?_,λN2 hN2=>?_⟩;.rw[aa,aa,aa,aa];show ap (aK o6)
   let s9:=aB.upd hN2 (o:=HO.lst (Ts (l.map λc=>[c])++Ts ((z.bag.take (Z.size-l.length)).map λc=>[c])));let e9:upd H8 N2 (HO.lst (Ts (l.map λc=>[c])++Ts ((z.bag.take (Z.size-l.length)).map λc=>[c]))) N2=some (.lst (Ts ((l++z.bag.take (Z.size-l.length)).map λc=>[c]))):=by rw[aq];simp[Ts]
   generalize upd H8 N2 (HO.lst (Ts (l.map λc=>[c])++Ts ((z.bag.take (Z.size-l.length)).map λc=>[c])))=H9 at s9 e9 ⊢;let Wg:=(JD.trans s8).trans s9;let⟨bx,_,_,_,hbx,_⟩:=(hB.mv Wg).ex;calc⟨_,rL,_,rL,z.bag.take (Z.size-l.length),rL,ap (aK o6),_,rL,z.bag,rL,Wd,?_⟩;calc⟨_,rL,b,bx,_,rL,hbx,rL,_,rL,pd,_,_,.ref t,rL,rL,aO.of (Wg _ _ hd),aN (j:=1) rL,b,t,as,ts,z.r,z.w,z.aD,z.aL,z.bi,z.bj,rL,hB.mv Wg,Wg _ _ ht,hL.mv Wg,ux,λb' HA sA hb'=>?_⟩;let ajj:gQ z.bag (some ((z.bag.take (Z.size-l.length)).length:Int)) none=z.bag.drop (Z.size-l.length):=by
    rw[jT,am];by_cases hh:Z.size-l.length<=z.bag.length;.rw[fq hh]
    .rw[ki o6,gL (ai _),gL o6]
   refine JI b' N2 (l++z.bag.take (Z.size-l.length)) (some (.str (S (z.bag.take (Z.size-l.length))))) ⟨?_,Wg.trans sA,hb',sA _ _ e9,?_,λc hc=>?_,?_,?_⟩
   .rw[ajj,ek,en,em];show _=[_,_,_,_,_,some (V.str (S (z.bag.drop (G.size-(dG l).length)))),_,_,_,_,_,_,_,_]
    rw[jm,ez];rfl
   .rw[av];lia
   .rcases bz.mp hc with y|y;.show E_ (kt c (zp lf c y))
    .show E_ (Zk.bt c (cE y))
   .show z.racks.set _ (dG (dG l++z.bag.take (G.size-(dG l).length)))=_;rw[O,jm,ez,aax (List.Perm.append (jM l) (List.Perm.refl _))]
   .show z.je.set _ _=_;rw[O]
  | pass=>show absurd rL J
 .intro σ H5 z;let⟨b',N,us,v13,rfl,s5,hb5,xH,Jz,ait,ag7,ajk⟩:=z;rw[emod];let ag8:=s5 _ _ I;calc⟨_,rL,_,rL,_,rL,pr,_,rL,ag8,λp1 H6 s6 h6=>?_⟩;let hi:dn%z.racks.length<(Ts z.racks).length:=by rw[hrl];show F
  rw[show gH (Ts z.racks) none (some ((dn%z.racks.length:Nat):Int))=(Ts z.racks).take (dn%z.racks.length) from KY o6]at h6;calc⟨rL,_,rL,N,us.map λc=>[c],rL,bB.of (s6 _ _ xH),by rw[aa];lia,λq2 uy hq2 pm pw2=>?_⟩;let s7:=aB.upd hq2 (o:=HO.lst (Ts uy));calc JA q2 uy ⟨rL,rL,bB.of aq,?_,?_⟩;.rw[wC pm pw2,jm];lia
  rw[wC pm pw2];generalize upd H6 q2 (HO.lst (Ts uy))=H7 at s7 ⊢;calc⟨zsz 1,λp2 n2=>?_⟩;let e8:upd H7 p2 (HO.tup [V.str (S (dG us))]) p2=some (.tup [V.str (S (dG us))]):=aq;let s8:aB H7 (upd H7 p2 (HO.tup [V.str (S (dG us))])):=aB.upd n2;generalize upd H7 p2 (HO.tup [V.str (S (dG us))])=H8 at e8 s8 ⊢;let s68:=s7.trans s8;calc JI p1 p2 _ _ ⟨rL,rL,aO.of (s68 _ _ h6),aO.of e8,?_,λ_=>e8,λy=>absurd y pi,λp3 H9 s9 h9=>?_⟩;.rw[am];show ap (aK (by simp;lia))
  let s59:=(s6.trans s68).trans s9;calc⟨_,rL,_,rL,_,_,rL,rL,_,rL,pr,_,rL,s59 _ _ ag8,λp4 HA sA hA=>?_⟩;rw[show gH (Ts z.racks) (some (((dn%z.racks.length:Nat):Int)+1)) none=(Ts z.racks).drop (dn%z.racks.length+1) from CZ (a:=dn%z.racks.length+1) o6]at hA;calc JI p3 p4 _ _ ⟨rL,rL,aO.of (sA _ _ h9),aO.of hA,?_,λy=>by simp at y,λ_ _=>sA _ _ h9,λDc HB sB G8=>?_⟩;.rw[av,am,bc,hrl];show ap (aK (by simp;lia))
  let acq:HB Dc=some (.tup (Ts z'.racks)):=by rw[G8,ag7,<-JK,im,if_pos hi];simp
  let s5B:=(s59.trans sA).trans sB;let acy:=s5B _ _ (s5 _ _ hpp);let hpl:(z.je.map V.int).length=z.racks.length:=by rw[aa,Zk.pl]
  let hip:dn%z.racks.length<(z.je.map V.int).length:=by rw[hpl];show F
  let ag9:dn%z.racks.length<z.je.length:=by rw[Zk.pl];show F
  calc⟨_,rL,_,rL,_,rL,pp,_,rL,acy,λr1 HC sC hC=>?_⟩;rw[show gH (z.je.map V.int) none (some ((dn%z.racks.length:Nat):Int))=(z.je.map V.int).take (dn%z.racks.length) from KY o6]at hC;calc⟨_,rL,_,rL,pp,_,_,.int z.je[dn%z.racks.length],rL,rL,aO.of (sC _ _ acy),aN (by rw[ck,ac ag9];rfl),_,rL,_,_,rL,rL,zsz 1,λr2 nr2=>?_⟩;let eD:upd HC r2 (HO.tup [V.int (z.je[dn%z.racks.length]+pt)]) r2=some (.tup [V.int (z.je[dn%z.racks.length]+pt)]):=aq;let sD:aB HC (upd HC r2 (HO.tup [V.int (z.je[dn%z.racks.length]+pt)])):=aB.upd nr2;generalize upd HC r2 (HO.tup [V.int (z.je[dn%z.racks.length]+pt)])=HD at eD sD ⊢;calc JI r1 r2 _ _ ⟨rL,rL,aO.of (sD _ _ hC),aO.of eD,?_,λ_=>eD,λy=>absurd y pi,λr3 HE sE hE=>?_⟩;.rw[am];show ap (aK (by simp;lia))
  let sBE:=(sC.trans sD).trans sE;calc⟨_,rL,_,rL,_,_,rL,rL,_,rL,pp,_,rL,sBE _ _ acy,λr4 HF sF hF=>?_⟩;rw[show gH (z.je.map V.int) (some (((dn%z.racks.length:Nat):Int)+1)) none=(z.je.map V.int).drop (dn%z.racks.length+1) from CZ (a:=dn%z.racks.length+1) o6]at hF;calc JI r3 r4 _ _ ⟨rL,rL,aO.of (sF _ _ hE),aO.of hF,?_,λy=>by simp at y,λ_ _=>sF _ _ hE,λJL HG sG yq=>?_⟩;.rw[av,am,bc,hpl];show ap (aK (by simp;lia))
  let Ru:z.je.getD (dn%z.racks.length) 0=z.je[dn%z.racks.length]:=by rw[ax,ac ag9];rfl
  let Df:HG JL=some (.tup (z'.je.map V.int)):=by rw[yq,ajk,Ru,<-Rt,im,if_pos hip];simp
  let sBG:=(sBE.trans sF).trans sG;let s5G:=s5B.trans sBG;let s0G:=s5.trans s5G;let fin:∀(HI:Hp) (o:Bool),aB HG HI->o=ovN z z' ps dn d->7<=sizeLine/\∀p',HI p'=none->2<=sizeLine/\∀t,upd HI p' (HO.tup [V.ref b',V.ref Dc,V.str (S z'.bag),V.ref JL,V.int ((dn:Int)+1),V.int 0,V.bl o]) t=none->Q (.ref t) (upd (upd HI p' (HO.tup [V.ref b',V.ref Dc,V.str (S z'.bag),V.ref JL,V.int ((dn:Int)+1),V.int 0,V.bl o])) t (HO.tup [V.int pt,V.ref p'])):=by
   rintro HI o sI rfl;calc⟨zsz 7,λp' hp'=>⟨zsz 2,λt ht=>?_⟩⟩;let t1:=aB.upd hp' (o:=HO.tup [V.ref b',V.ref Dc,V.str (S z'.bag),V.ref JL,V.int ((dn:Int)+1),V.int 0,V.bl (ovN z z' ps dn d)]);let t2:=aB.upd ht (o:=HO.tup [V.int pt,V.ref p']);let e0:Wf ps d=0:=by
    cases d with| lay _=>rfl| swap _=>rfl| pass=>show absurd rL J
   calc q t p' _ (((s0G.trans sI).trans t1).trans t2) aq ⟨b',Dc,JL,?_,((((hb5.mv s5G).mv sI).mv t1).mv t2),t2 _ _ (t1 _ _ (sI _ _ (sBG _ _ acq))),t2 _ _ (t1 _ _ (sI _ _ Df))⟩;rw[e0];show t2 _ _ aq
  calc⟨_,rL,_,rL,_,rL,_,rL,_,rL,_,rL,_,_,rL,rL,_,rL,pd,_,_,.str (S d.name),rL,rL,aO.of (s0G _ _ hnm),aN (j:=0) rL,d.name,iU,rL,rL,_,rL,?_⟩;let aha:cJ z' dn=dG us:=by unfold cJ;rw[ag7,ej,ax,ja F];rfl
  cases d with
  | pass=>show absurd rL J
  | swap l=>rw[ah (show ¬bT.name (.swap l)=iU from (show ¬gK=iU by decide))];show bQ (fin HG false (aB.refl _) rL)
  | lay ts=>
   rw[al (show bT.name (.lay ts)=iU from rL)];calc cj ⟨_,rL,zsz 0,λEe hEe=>?_⟩;let sH:=aB.upd hEe (o:=HO.lst []);let eH:upd HG Ee (HO.lst []) Ee=some (.lst []):=aq;generalize upd HG Ee (HO.lst [])=HH at sH eH ⊢;refine JE 2 (.lst ((us.map λc=>[c]).map Dt.str)) (.lst []) ⟨pj,.lst (bB.of (sH _ _ (s5G _ _ xH))) (dB.rE λl hl=>?_),.lst (bB.of eH) .nil,_,rL,?_⟩
   .let⟨c,hc,rfl⟩:=bd.mp hl;show λc' h'=>by rw[aS.mp h'];show ait c hc
   by_cases hue:us=[]
   .subst hue;rw[al (show Dt.lst (List.map Dt.str (List.map (λc=>[c]) []))=Dt.lst [] from rL)];calc cj ⟨_,rL,z'.bag,[],rL,rL,?_⟩;calc fin HH _ sH ?_;show _=(decide (cJ z' dn=[])&&decide (z'.bag=[]))
    rw[aha,al (show dG []=[] from gm.mp (jm [])),lT]
   .rw[ah (λy=>hue (by injection y with y;simpa using y))];calc bQ (fin HH false sH ?_);show _=(decide (cJ z' dn=[])&&decide (z'.bag=[]))
    rw[aha,ah (λy=>hue (by have:=jm us;rw[y]at this;show gm.mp this.symm)),mP]
def aiu {c:Nat}(h:Bp c):c<128:=by
 rcases h with e|e;.lia
 .show e.lt
def aiv {c:Nat}(h:Jk c):c<128:=(show ∀c∈MK,c<128 by decide) c h
def brD (aD aL:AB)(i j:Nat):Dt:=.tup [.tup (aD.map Dt.str),.tup (aL.map Dt.str),.tup [.int i,.int j]]
def iM.brd {H:Hp}{t pr pm pb:Addr}{r w:Nat}{aD aL:AB}{i j:Nat}(ht:H t=some (.tup [.ref pr,.ref pm,.ref pb]))(h1:H pr=some (.tup (Ts aD)))(h2:H pm=some (.tup (Ts aL)))(h3:H pb=some (.tup [.int i,.int j]))(B:Qq r w aD aL i j):iM K H 3 (brD aD aL i j) (.ref t):=.tup (aO.of ht) (.cons (.tup (aO.of h1) (dB.rE λl hl c D=>aiu (B.cr l hl c D))) (.cons (.tup (aO.of h2) (dB.rE λl hl c D=>aiv (B.cm l hl c D))) (.cons (.tup (aO.of h3) (.cons (.int _) (.cons (.int _) .nil))) .nil)))
theorem dB.ints {H:Hp}:∀{is:List Int},dB K H 1 (is.map Dt.int) (is.map V.int)
 | []=>.nil
 | _::_=>.cons (.int _) dB.ints
def G9 (C CS CB CG:Addr):Sp:=λvs H Q _=>∃(g pn ps pd:Addr) (G:Gm) (zs:List Std) (z:Std) (k:Nat),vs=[.ref g,.ref pn]/\fG C CS CB CG H g ps pd G/\G.sts=zs++[z]/\lC z/\(∀l∈G.done,∀c∈l,c<128)/\G.done.length<=500/\mq C H pn z G.done.length k (iV G z)/\∀H',aB H H'->Q (.bl true) H'
open Classical in
def aaP {C CS CB CG f1 f2 f3 f4 f5 f6:Addr}{dH fd2 mV uQ JR JT:FuncData}(D:aM K mg "_law_stands" zV ["_law_game","_law_now"])(bh:mg "len"=none)(bK:mg "isinstance"=none)(oF:mg "bool"=none)(j:gA K C)(Y:oW K CG)(G_:Meth K CG "board_now" f1)(Hf:bZ P w K mg base dz 1 f1 dH ["self"] (rD C CS CB CG (aaB C)))(Hg:bN K dH ["self"] [])(kE:Meth K CG "racks_now" f2)(kI:bZ P w K mg base dz 1 f2 fd2 ["self"] (rD C CS CB CG JM))(kJ:bN K fd2 ["self"] [])(sW:Meth K CG "bag_now" f3)(sX:bZ P w K mg base dz 1 f3 mV ["self"] (rD C CS CB CG acd))(sY:bN K mV ["self"] [])(Fv:Meth K CG "points_now" f4)(Fw:bZ P w K mg base dz 1 f4 uQ ["self"] (rD C CS CB CG ag0))(Fx:bN K uQ ["self"] [])(oX:Meth K CG "is_over" f5)(oY:bZ P w K mg base dz 4 f5 JR ["self"] (Ry C CS CB CG))(oZ:bN K JR ["self"] [])(yr:Meth K CG "turn" f6)(yt:bZ P w K mg base dz 2 f6 JT ["self"] (K5 C CS CB CG))(yu:bN K JT ["self"] []):bV P w K mg base "_law_stands" 5 ["_law_game","_law_now"] (G9 C CS CB CG):=by
 calc D.cZ lB (λf bG A outer s H vs Q E I h=>?_);let⟨g,pn,ps,pd,G,zs,z,k,rfl,A0,hz,Z,O,h5,NA,q⟩:=h;let⟨dx,_,_,_,_,hg,_⟩:=A0.ex;obtain⟨b,pr,pp,hn,⟨⟨bx,br,bm,bb,hb,hbr,hbm,hbb⟩,B⟩,hpr,hpp⟩:=NA.ex;let n1:=Z.n1;let hrl:(Ts z.racks).length=z.racks.length:=aa _;calc⟨_,(aA (fO (pH aW (nO rL (bU (bC (i:=2) lB.nd rL (Or.inl rL)) (bU (bC (i:=3) lB.nd rL (Or.inl rL)) (bU (bC (i:=4) lB.nd rL (Or.inl rL)) (bU (bC (i:=5) lB.nd rL (Or.inl rL)) (bU (bC (i:=6) lB.nd rL (Or.inl rL)) (bU (bC (i:=7) lB.nd rL (Or.inl rL)) (bU (bC (i:=8) lB.nd rL (Or.inl rL)) kY)))))))))) (aA (aU (i:=9) lB.nd rL (Or.inl rL) (fV aG Y.cl G_ Hf I.mono Hg .nil dM)) (aA (cB (bM (yR I.units) (cO (aj (bO jP rL) (aj (bO jP rL) (aj (bO jP rL) ao)))) (cO (aj (bO bA rL) (aj (bO bA rL) (aj (bO bA rL) ao)))) (bF _)) (aF (bf iu)) bJ) (aA (cB (QW.qt (lY (bM (yR I.units) (fV aG Y.cl kE kI I.mono kJ .nil dM) bI (bF _)) (lY (bM Ir (fV aG Y.cl sW sX I.mono sY .nil dM) cL (bF _)) (jZ (bM (yR I.units) (fV aG Y.cl Fv Fw I.mono Fx .nil dM) cT (bF _)))))) (aF (bf iu)) bJ) (aA (cB (QW.qt (lY (eG (dJ (aV fQ pk bK cp (aj (fV aG Y.cl oX oY I.mono oZ .nil dM) (aj (jV (v:=.ty "bool") pk oF ly rL) ao))))) (jZ (bM wN (fV aG Y.cl oX oY I.mono oZ .nil dM) jq (bF _))))) (aF (bf iu)) bJ) (aF (bf (d7 iH (fV aG Y.cl yr yt I.mono yu .nil dM) (aJ bY dW (aV bW pk bh ay (aj bI ao))) (bF _))))))))),?_⟩;calc⟨λσ H1=>H=H1/\σ=[some (.ref g),some (.ref pn),some (.ref b),some (.ref pr),some (.str (S z.bag)),some (.ref pp),some (.int G.done.length),some (.int k),some (.bl (iV G z)),none],⟨_,rL,pn,_,rL,aO.of hn,rL,_,_,rL,_,_,rL,_,_,rL,_,_,rL,_,_,rL,_,_,rL,_,_,rL,rL,rL,rL⟩,?_⟩;rintro σ H1 ⟨eH,rfl⟩;subst eH;calc⟨_,rL,g,dx,_,rL,hg,rL,g,ps,pd,G,zs,z,rL,A0,hz,λb2 hb2=>?_⟩;obtain⟨⟨cx,cr,cm,cb,hc,V8,hcm,hcb⟩,B2⟩:=hb2;calc⟨_,rL,b2,C,cx,_,_,rL,hc,j.cl,j.nr,rL,_,rL,b2,C,cx,_,_,rL,hc,j.cl,j.nm,rL,_,rL,b2,C,cx,_,_,rL,hc,j.cl,j.nb,rL,zsz 3,λt1 ht1=>?_⟩;let s1:=aB.upd ht1 (o:=HO.tup [V.ref cr,V.ref cm,V.ref cb]);let e1:upd H t1 (HO.tup [V.ref cr,V.ref cm,V.ref cb]) t1=some (.tup [V.ref cr,V.ref cm,V.ref cb]):=aq;generalize upd H t1 (HO.tup [V.ref cr,V.ref cm,V.ref cb])=H1 at s1 e1 ⊢;let hb1:=s1 _ _ hb;calc⟨_,rL,b,C,bx,_,_,rL,hb1,j.cl,j.nr,rL,_,rL,b,C,bx,_,_,rL,hb1,j.cl,j.nm,rL,_,rL,b,C,bx,_,_,rL,hb1,j.cl,j.nb,rL,zsz 3,λt2 M4=>?_⟩;let s2:=aB.upd M4 (o:=HO.tup [V.ref br,V.ref bm,V.ref bb]);let e2:upd H1 t2 (HO.tup [V.ref br,V.ref bm,V.ref bb]) t2=some (.tup [V.ref br,V.ref bm,V.ref bb]):=aq;generalize upd H1 t2 (HO.tup [V.ref br,V.ref bm,V.ref bb])=H2 at s2 e2 ⊢;let F:=s1.trans s2;calc JE 3 (brD z.aD z.aL z.bi z.bj) (brD z.aD z.aL z.bi z.bj) ⟨pj,iM.brd (s2 _ _ e1) (F _ _ V8) (F _ _ hcm) (F _ _ hcb) B2,iM.brd e2 (F _ _ hbr) (F _ _ hbm) (F _ _ hbb) B,_,rL,?_⟩;rw[al rfl];let A2:=A0.mv F;let J:=F _ _ hg;calc bQ ⟨_,rL,g,dx,_,rL,J,rL,g,ps,pd,G,zs,z,rL,A2,hz,λq1 hq1=>?_⟩;let ahb:∀l∈z.racks,∀c∈l,c<128:=λl hl c hc=>E_ ((Z.r7 l hl).2 c hc);calc⟨_,rL,2,.tup (z.racks.map Dt.str),.tup (z.racks.map Dt.str),pj,.tup (aO.of hq1) (dB.rE ahb),.tup (aO.of (F _ _ hpr)) (dB.rE ahb),_,rL,?_⟩;rw[al rfl];calc bQ ⟨_,rL,g,dx,_,rL,J,rL,g,ps,pd,G,zs,z,rL,A2,hz,_,rL,z.bag,z.bag,rL,rL,_,rL,?_⟩;rw[al rfl];calc bQ ⟨_,rL,g,dx,_,rL,J,rL,g,ps,pd,G,zs,z,rL,A2,hz,λq2 hq2=>?_⟩;calc⟨_,rL,2,.tup (z.je.map Dt.int),.tup (z.je.map Dt.int),pj,.tup (aO.of hq2) dB.ints,.tup (aO.of (F _ _ hpp)) dB.ints,_,rL,?_⟩;rw[al rfl];calc bQ ⟨_,rL,g,dx,_,rL,J,rL,g,ps,pd,G,zs,z,rL,A2,hz,Z,O,h5,λH3 s3=>?_⟩;let eO:=F.trans s3;calc JI _ _ _ true ⟨rL,.bl _,pE,true,rL,bQ ⟨_,rL,g,dx,_,rL,eO _ _ hg,rL,g,ps,pd,G,zs,z,rL,A0.mv eO,hz,Z,O,h5,λH4 s4=>?_⟩⟩;let gC:=eO.trans s4;calc⟨_,rL,rL,_,rL,?_⟩;rw[al rfl];calc bQ ⟨_,rL,g,dx,_,rL,gC _ _ hg,rL,g,ps,pd,G,zs,z,rL,A0.mv gC,hz,Z,_,rL,_,rL,pr,_,rL,.inr (aO.of (gC _ _ hpr)),_,_,rL,rL,(by show (0:Int)<_;rw[hrl];lia),rL,?_⟩;let e:((G.done.length%z.racks.length:Nat):Int)=(G.done.length:Int)%((Ts z.racks).length:Int):=by rw[hrl];lia
 let fin:=q H4 gC;rw[<-al (congrArg V.int e)]at fin;show fin
def dj (G:Gm)(zs:List Std)(ds:List bT):Gm:={G with sts:=zs,done:=ds.map bT.name}
inductive Path (G:Gm) (z0:Std):List bT->List Std->Prop
 | nil:Path G z0 [] [z0]
 | snoc {ds:List bT} {zs:List Std} {z z':Std} {d:bT} {pt:Int} (h:Path G z0 ds (zs++[z])) (ov:iV (dj G [] ds) z=false) (dd:Does (dj G [] ds) z d pt z'):Path G z0 (ds++[d]) (zs++[z]++[z'])
def Does.sts {G:Gm}{a b:List Std}{ds:List bT}{z z':Std}{d:bT}{pt:Int}(h:Does (dj G a ds) z d pt z'):Does (dj G b ds) z d pt z':=by
 cases h with| lay h1 h2 h3 h4 h5 h6=>show Does.lay (G:=dj G b ds) h1 h2 h3 h4 h5 h6| swap h1 h2 h3 h4 h5=>show Does.swap (G:=dj G b ds) h1 h2 h3 h4 h5| pass=>show .pass
def Path.inv {G:Gm}{z0:Std}{es:List bT}{ys:List Std}(h:Path G z0 es ys):(es=[]/\ys=[z0])\/∃ds d zs z pt z',es=ds++[d]/\ys=zs++[z]++[z']/\Path G z0 ds (zs++[z])/\iV (dj G [] ds) z=false/\Does (dj G [] ds) z d pt z':=by
 cases h with| nil=>show .inl ⟨rL,rL⟩| snoc h ov dd=>show .inr (JO _ _ _ _ _ _ ⟨rL,rL,h,ov,dd⟩)
def Path.len {G:Gm}{z0:Std}{ds:List bT}{zs:List Std}(h:Path G z0 ds zs):zs.length=ds.length+1:=by
 induction h with| nil=>rfl| snoc h ov dd ih=>rw[av,ih,av];rfl
def Does.racks {G:Gm}{z z':Std}{d:bT}{pt:Int}(h:Does G z d pt z'):z'.racks.length=z.racks.length:=by
 cases h with| lay=>show ej| swap=>show ej| pass=>rfl
def Wh {z:Std}{l m:List Nat}{i:Nat}(Z:lC z)(hl:l.length<=7)(hm:∀c∈l,nU c):∀k∈z.racks.set i l,k.length<=7/\∀c∈k,nU c:=λk j=>by
 rcases ft j with e|e;.show Z.r7 k e
 .rw[e];show⟨hl,hm⟩
def Wi {z:Std}(Z:lC z){i:Nat}:(z.racks.getD i []).length<=7/\∀c∈z.racks.getD i [],nU c:=by
 rw[ax];cases e:z.racks[i]? with| none=>show⟨eI _,λc h=>by cases h⟩| some l=>show Z.r7 l (bo e)
def Does.ok {G:Gm}{z z':Std}{d:bT}{pt:Int}(h:Does G z d pt z')(Z:lC z)(hs:G.size<=7):lC z':=by
 let F:=h.racks;cases h with
 | @lay ts l ux h0 h7 ri vd lf=>
  let⟨k7,J⟩:=Wi Z (i:=jt G z);let I:=zm lf;let j:=zp lf;calc⟨by rw[F];show Z.n1,by rw[F];show Z.n4,Wh (m:=[]) Z ?_ λc D=>?_,?_,λc D=>Z.bt c (ed D),?_⟩;.rw[jm,av,jm,am];lia
  .rcases bz.mp ((jM _).mem_iff.mp D) with y|y;.show J c (j c ((jM _).mem_iff.mp y))
   .show Z.bt c (cE y)
  .show (z.bag.drop _).length<=60;have:=Z.b6;rw[bc];lia
  .show (z.je.set _ _).length=(z.racks.set _ _).length;rw[ej,ej];show Z.pl
 | @swap l m ne h7 tl lf hb=>
  let⟨k7,J⟩:=Wi Z (i:=jt G z);let I:=zm lf;let j:=zp lf;calc⟨by rw[F];show Z.n1,by rw[F];show Z.n4,Wh (m:=[]) Z ?_ λc D=>?_,?_,λc D=>?_,?_⟩;.rw[jm,av,jm,am];lia
  .rcases bz.mp ((jM _).mem_iff.mp D) with y|y;.show J c (j c ((jM _).mem_iff.mp y))
   .show Z.bt c (cE y)
  .show (z.bag.drop _++dG _).length<=60;have:=Z.b6;rw[av,bc,jm];lia
  .rcases bz.mp D with y|y;.show Z.bt c (ed y)
   .show tl c ((jM _).mem_iff.mp y)
  .show z.je.length=(z.racks.set _ _).length;rw[ej];show Z.pl
 | pass=>show Z
def Path.ok {G:Gm}{z0:Std}{ds:List bT}{zs:List Std}(h:Path G z0 ds zs)(Z:lC z0)(hs:G.size<=7):∀z∈zs,lC z:=by
 induction h with
 | nil=>intro z h;rw[aS.mp h];show Z
 | snoc h ov dd ih=>
  intro y hy;rcases bz.mp hy with e|e;.show ih y e
  .rw[aS.mp e];show dd.ok (ih _ pi) hs
def K_:bT->Prop
 | .lay ts=>∀t∈ts,pK t.2.2
 | .swap l=>∀c∈l,nU c
 | .pass=>True
def Path.low {G:Gm}{z0:Std}{ds:List bT}{zs:List Std}(h:Path G z0 ds zs):∀d∈ds,K_ d:=by
 induction h with
 | nil=>intro d h;cases h
 | snoc h ov dd ih=>
  intro y hy;rcases bz.mp hy with e|e;.show ih y e
  .rw[aS.mp e];cases dd with| lay ux=>show λt ht=>(ux t ht).2.2| swap _ _ tl=>show tl| pass=>show True.intro
def tp (ds:List bT):Nat:=ds.foldl Wf 0
def Fb (ds:List bT)(d:bT):tp (ds++[d])=Wf (tp ds) d:=by unfold tp;rw[List.foldl_append];rfl
def acz {α:Type}{ns:List α}{m:Nat}{x:α}:ns.drop (ns.length-m)=List.replicate m x↔List.replicate m x <:+ ns:=by
 constructor
 .intro h;rw[<-h];show List.drop_suffix _ _
 .intro h;have:=List.suffix_iff_eq_drop.mp h;rw[cy]at this;show this.symm
theorem aaQ:∀(n:Nat) (ds:List bT) (m:Nat),ds.length=n->(List.replicate m eV <:+ ds.map bT.name↔m<=tp ds)
 | 0,ds,m,hn=>by
  have:ds=[]:=gm.mp hn;subst this;show _ <:+ []↔m<=0;rw[List.suffix_nil];constructor;.intro h;have:=congrArg List.length h;simp at this;lia
  .intro h;rw[Nat.le_zero.mp h];rfl
 | n+1,ds,m,hn=>by
  let j:ds≠[]:=λe=>by subst e;simp at hn
  let e:=gv j;let hl:ds.dropLast.length=n:=by rw[mo,hn];rfl
  generalize ds.dropLast=es at e hl;generalize ds.getLast j=d at e;subst e;rw[bv,Fb];show _ <:+ es.map bT.name++[d.name]↔_;rw[List.suffix_concat_iff];cases m with
  | zero=>show⟨λ_=>eI _,λ_=>.inl rL⟩
  | succ m=>
   let D:=aaQ n es m hl;constructor
   .rintro(h|⟨t,h1,h2⟩);.simp at h
    .rw[kn]at h1;let⟨h3,h4⟩:=List.append_inj' h1 rfl;injection h4 with h4;let hd:=Np.mp h4.symm;subst hd;rw[<-h3]at h2;show m+1<=tp es+1;show gt (D.mp h2)
   .intro h;cases d with| pass=>show .inr ⟨_,kn,D.mpr (Nat.le_of_succ_le_succ h)⟩| lay ts=>show absurd h (Nat.not_succ_le_zero _)| swap l=>show absurd h (Nat.not_succ_le_zero _)
def aaR {α:Type}(l:List α)(x:α):(l++[x]).drop ((l++[x]).length-1)=[x]:=by rw[av,ma,Nat.add_sub_cancel,List.drop_left]
def Hh {G:Gm}{z:Std}(h:1<=z.racks.length):iV (dj G [] []) z=false:=by
 unfold iV;rw[ah,ah];.rfl
 .intro e;show absurd e (by show ¬([]:AB)=_;simp)
 .intro e;have:=congrArg List.length e;rw[cy]at this;let j:(dj G [] []).done=[]:=rfl;rw[j]at this;simp at this;lia
def Nq {G:Gm}{z z':Std}{ds:List bT}{d:bT}{pt:Int}(h:Does (dj G [] ds) z d pt z')(h1:1<=z.racks.length):iV (dj G [] (ds++[d])) z'=ovN z z' (tp ds) ds.length d:=by
 let I:=h.racks;let j:(dj G [] (ds++[d])).done=ds.map bT.name++[d.name]:=bv;let D:decide ((ds.map bT.name++[d.name]).drop ((ds.map bT.name++[d.name]).length-2*z'.racks.length)=List.replicate (2*z'.racks.length) eV)=decide (2*z.racks.length<=Wf (tp ds) d):=by calc Ez (acz.trans ?_);rw[I,<-Fb,<-aaQ _ (ds++[d]) _ rL,bv];rfl
 unfold iV;rw[j,D,aaR];cases d with
 | pass=>rw[ah (show ¬[bT.name .pass]=[iU] by decide),mP,Bool.or_false];cases h;rfl
 | swap l=>rw[ah (show ¬[bT.name (.swap l)]=[iU] from (show ¬[gK]=[iU] by decide)),mP,Bool.or_false];show ah (by show ¬_<=0;lia)
 | lay ts=>
  rw[al (show [bT.name (.lay ts)]=[iU] from rL),lT,ah (show ¬2*z.racks.length<=Wf (tp ds) (.lay ts) by show ¬_<=0;lia),Bool.false_or];show _=(decide (cJ z' ds.length=[])&&decide (z'.bag=[]))
  let F:xR (dj G [] (ds++[.lay ts])) z'=ds.length%z'.racks.length:=by unfold xR;rw[j,av,aa,ma,show ((ds.length+1:Nat):Int)-1=(ds.length:Int) by lia];lia
  rw[F,Bool.and_comm];rfl
def aaS {G:Gm}{z:Std}{bs:AB}{ds:List bT}{d:bT}(h:aaO z ds.length bs d)(hb:∀x,x∈bs↔x∈G.ws):∃pt z',Does (dj G [] ds) z d pt z':=by
 let j:jt (dj G [] ds) z=ds.length%z.racks.length:=by show (ds.map bT.name).length%_=_;rw[aa]
 cases d with
 | lay ts=>let⟨l,hl⟩:=air h.vd;show JA _ _ (.lay (G:=dj G [] ds) h.ux h.h0 h.h7 h.ri (by rw[j];show acu hb h.vd) (l:=l) (by rw[j];show hl))
 | swap l=>obtain⟨h1,h2,h3,⟨m,hm⟩,h5⟩:=h;show JA _ _ (.swap (G:=dj G [] ds) h1 h2 h3 (m:=m) (by rw[j];show hm) h5)
 | pass=>show JA _ _ .pass
def Path.step {G:Gm}{z0:Std}{ds:List bT}{zs:List Std}(h:Path G z0 ds zs):∀i,i<ds.length->∃z d pt z',zs[i]?=some z/\ds[i]?=some d/\zs[i+1]?=some z'/\iV (dj G [] (ds.take i)) z=false/\Does (dj G [] (ds.take i)) z d pt z':=by
 induction h with
 | nil=>intro i hi;simp at hi
 | @snoc ds zs z z' d pt h ov dd ih=>
  intro i hi;let hl:=h.len;rw[av]at hl hi;by_cases j:i<ds.length
  .let⟨a,b,c,e,D,g2,F,I,J⟩:=ih i j;calc JI a b c e ⟨?_,?_,?_,?_,?_⟩;.rw[a9 (ag.mp D).1];show D
   .rw[a9 j];show g2
   .rw[a9 (ag.mp F).1];show F
   .rw[gh (ap j)];show I
   .rw[gh (ap j)];show J
  .simp only[dA,mw]at hl hi;let e:i=ds.length:=o6;subst e;let hz:zs.length=ds.length:=o6;calc JI z d pt z' ⟨?_,?_,?_,?_,?_⟩;.rw[List.append_assoc,be o6,hz,gd];rfl
   .rw[be (ai _),gd];rfl
   .rw[be (by rw[av,hz];show ai _),av,hz];simp
   .rw[List.take_left];show ov
   .rw[List.take_left];show dd
def tk1 {α:Type}{l:List α}{i:Nat}{x:α}(h:l[i]?=some x):l.take (i+1)=l.take i++[x]:=by rw[cz,h];rfl
def Kl (H H':Hp):Prop:=∀a o,H a=some o->(∀xs,o≠HO.lst xs)->H' a=some o
def Kl.of {H H':Hp}(s:aB H H'):Kl H H':=λa o h _=>s a o h
def Kl.trans {H H1 j:Hp}(s:Kl H H1)(t:Kl H1 j):Kl H j:=λa o h n=>t a o (s a o h n) n
def uP.kl {ps pd:Addr}{H H':Hp}{xs ys:List V}(s:uP ps pd H H')(h1:H ps=some (.lst xs))(h2:H pd=some (.lst ys)):Kl H H':=λa o h n=>s a o h (jf h1 h n) (jf h2 h n)
def Kl.up {H:Hp}{L:Addr}{xs ys:List V}(h:H L=some (.lst xs)):Kl H (upd H L (.lst ys)):=λa o e n=>by rw[aP (jf h e n)];show e
def cM.kl {C:Addr}{H H':Hp}{p:Addr}{r w:Nat}{aD aL:AB}{i j:Nat}(B:cM C H p r w aD aL i j)(k:Kl H H'):cM C H' p r w aD aL i j:=by obtain⟨⟨dx,pr,pm,pb,a,b,c,d⟩,o⟩:=B;show⟨(JI dx pr pm pb ⟨k _ _ a (λ_ z=>nomatch z),k _ _ b (λ_ z=>nomatch z),k _ _ c (λ_ z=>nomatch z),k _ _ d (λ_ z=>nomatch z)⟩),o⟩
def gO.kl {C:Addr}{H H':Hp}{p d:Addr}{ws:AB}(B:gO C H p d ws)(k:Kl H H'):gO C H' p d ws:=⟨let ⟨dx,e⟩:=B.ob;⟨dx,k _ _ e (λ_ z=>nomatch z)⟩,k _ _ B.dc (λ_ z=>nomatch z),B.nd,B.az⟩
def mq.kl {C:Addr}{H H':Hp}{p:Addr}{z:Std}{dn ps:Nat}{ov:Bool}(A:mq C H p z dn ps ov)(k:Kl H H'):mq C H' p z dn ps ov:=by let⟨b,pr,pp,h1,h2,h3,h4⟩:=A.ex;show⟨b,pr,pp,k _ _ h1 (λ_ z=>nomatch z),h2.kl k,k _ _ h3 (λ_ z=>nomatch z),k _ _ h4 (λ_ z=>nomatch z)⟩
theorem jO.kl {H H':Hp}{p:Addr}(k:Kl H H'):∀{d:bT},jO H p d->jO H' p d
 | .lay _,⟨t,as,h1,h2,h3⟩=>(JA t as ⟨k _ _ h1 (λ_ z=>nomatch z),k _ _ h2 (λ_ z=>nomatch z),h3.Jm λa xs e=>k _ _ e (λ_ z=>nomatch z)⟩)
 | .swap _,h=>k _ _ h (λ_ z=>nomatch z)
 | .pass,h=>k _ _ h (λ_ z=>nomatch z)
def vA.kl {C:Addr}{H H':Hp}{p pw:Addr}{Z:Nj}(A:vA C H p pw Z)(k:Kl H H')(h:H' pw=some (.lst (Ts Z.ws))):vA C H' p pw Z:=by let⟨b,d,pb,pr,h1,h2,h3,h4,h5⟩:=A.ex;show⟨(JI b d pb pr ⟨k _ _ h1 (λ_ z=>nomatch z),h2.kl k,k _ _ h3 (λ_ z=>nomatch z),k _ _ h4 (λ_ z=>nomatch z),k _ _ h5 (λ_ z=>nomatch z)⟩),h⟩
def gb.kl {C CS:Addr}{H H':Hp}{p:Addr}{z:Std}(A:gb C CS H p z)(k:Kl H H'):gb C CS H' p z:=by let⟨dx,b,pr,pp,h1,h2,h3,h4⟩:=A.ex;show⟨dx,b,pr,pp,k _ _ h1 (λ_ z=>nomatch z),h2.kl k,k _ _ h3 (λ_ z=>nomatch z),k _ _ h4 (λ_ z=>nomatch z)⟩
def fG.kl {C CS CB CG:Addr}{H H':Hp}{g ps pd:Addr}{G:Gm}(A:fG C CS CB CG H g ps pd G)(k:Kl H H')(h1:H' ps=H ps)(h2:H' pd=H pd):fG C CS CB CG H' g ps pd G:=by obtain⟨⟨dx,j,kd,d,pb,a1,a2,a3,a4⟩,⟨as,a5,a6⟩,a7⟩:=A;show⟨(JJ dx j kd d pb ⟨k _ _ a1 (λ_ z=>nomatch z),a2.kl k,k _ _ a3 (λ_ z=>nomatch z),k _ _ a4 (λ_ z=>nomatch z)⟩),⟨as,h1.trans a5,a6.len,λi a z e1 e2=>(a6.at_ i a z e1 e2).kl k⟩,h2.trans a7⟩
def Wj {G:Gm}{zs:List Std}{ds:List bT}{z:Std}{d:bT}:{dj G zs ds with sts:=(dj G zs ds).sts++[z],done:=(dj G zs ds).done++[d.name]}=dj G (zs++[z]) (ds++[d]):=by unfold dj;simp
structure JV (G:Gm):Prop where
 wd:WD G.kvs
 wb:WB 1000000 G.kvs
 sz:G.size<=7
def zA {ds:List bT}:∀l∈ds.map bT.name,∀c∈l,c<128:=λl hl c j=>by let⟨d,_,rfl⟩:=bd.mp hl;show ace d c j
def JV.ok {G:Gm}(F:JV G){zs:List Std}{ds:List bT}(h1:ds.length<=100)(h2:zs.length<=101):ag1 (dj G zs ds):=⟨zA,by show (ds.map bT.name).length<=400;rw[aa];lia,by show zs.length<=500;lia,F.wd,F.wb,F.sz⟩
structure nH (H:Hp)(es:List Addr)(ds:List bT):Prop where
 len:es.length=ds.length
 at_:∀(i:Nat) (e:Addr) (d:bT),es[i]?=some e->ds[i]?=some d->jO H e d
def nH.kl {H H':Hp}{es:List Addr}{ds:List bT}(h:nH H es ds)(k:Kl H H'):nH H' es ds:=⟨h.len,λi e d h1 h2=>(h.at_ i e d h1 h2).kl k⟩
def Wk (C CS CB CG:Addr):Sp:=λvs H Q _=>∃(g p pw bn Ld ps pd:Addr) (G:Gm) (Z:Nj) (z0:Std) (ds:List bT) (zs:List Std) (es:List Addr),vs=[.ref g,.ref p,.ref bn,.ref Ld]/\fG C CS CB CG H g ps pd (dj G [z0] [])/\Path G z0 ds zs/\lC z0/\JV G/\G.kvs=Z.kvs/\G.bn=Z.bn/\G.bm=Z.bm/\G.size=Z.size/\vA C H p pw Z/\O7 Z/\mq C H bn z0 0 0 false/\H Ld=some (.lst (es.map V.ref))/\nH H es ds/\ds.length<=90/\Ld≠ps/\Ld≠pd/\pw≠ps/\pw≠pd/\∀H',Q (.bl true) H'
def acA {C CS CB CG f1:Addr}{dH:FuncData}(D:aM K mg "_law_again" s_again ["_law_game","_law_parts_here","_law_begun_here","_law_deeds"])(cP:oW K CG)(Dg:Meth K CG "do" f1)(Dh:bZ P w K mg base dz 16 f1 dH ["self","deed"] (acf C CS CB CG))(Di:bN K dH ["self","deed"] [])(R7:bV P w K mg base "_law_next" 12 ["_law_now","_law_parts_here","_law_deed_here"] (R6 C))(z9:bV P w K mg base "_law_stands" 5 ["_law_game","_law_now"] (G9 C CS CB CG)):bV P w K mg base "_law_again" 17 ["_law_game","_law_parts_here","_law_begun_here","_law_deeds"] (Wk C CS CB CG):=by
 calc D.cZ vZ (λf bG A outer s H vs Q E hr h=>?_);let⟨g,p,pw,bn,Ld,ps,pd,G,Z,z0,ds,zs,es,rfl,A0,PH,Z0,GF,ek,en,em,ez,PA,PO,NA0,I,DL,h60,nL1,nL2,nw1,nw2,q⟩:=h;let Bq:=PH.len;let hz0:zs[0]?=some z0:=by
  clear DL I h60 q
  induction PH with| nil=>rfl| snoc h ov dd ih=>have:=h.len;rw[a9 o6];show ih this
 let Wm:=PH.ok Z0 GF.sz;calc⟨_,(aA (aU (i:=4) vZ.nd rL (Or.inl rL) bA) (aA (fD cK rL (mG bI) (bC (i:=5) vZ.nd rL (Or.inl rL)) (aA (pH (bD R7 hr.mono rL (aj cL (aj aW (aj cT ao)))) (nO rL (bU (bC (i:=6) vZ.nd rL (Or.inl rL)) (bU (bC (i:=4) vZ.nd rL (Or.inl rL)) kY)))) (aF (cB (QW.qt (lY (bM wN (mH aG cP.cl Dg Dh hr.mono Di .nil dM (aj cT ao)) dW (bF _)) (jZ (eG (dJ (bD z9 hr.mono rL (aj aG (aj cL ao)))))))) (aF (bf iu)) bJ)))) (aF (bf iu)))),?_⟩;calc⟨_,rL,?_⟩;refine⟨_,rL,Ld,rL,⟨_,bB.of I⟩,lF (K:=K) (a:=Ld) (xs:=es.map V.ref) (λi σ j=>∃(v5 v6:Option V) (an:Addr) (z:Std),σ=[some (.ref g),some (.ref p),some (.ref bn),some (.ref Ld),some (.ref an),v5,v6]/\uP ps pd H j/\fG C CS CB CG j g ps pd (dj G (zs.take (i+1)) (ds.take i))/\zs[i]?=some z/\mq C j an z i (tp (ds.take i)) (iV (dj G [] (ds.take i)) z))
  (JI none none bn z0 ⟨rL,λa o h _ _=>h,?_,hz0,?_⟩) (λi σ j _ h=>?_) ?_ ?_⟩
 .rw[tk1 hz0];show A0
 .rw[mT,Hh Z0.n1];show NA0
 .let⟨_,_,_,_,_,kp,_⟩:=h;show bB.of (kp _ _ I nL1 nL2)
 .intro i x σ j hx z;let⟨v5,v6,an,z,rfl,kp,A2,F,NA⟩:=z;let⟨hie,hx⟩:=rfg hx;let hid:i<ds.length:=by rw[<-DL.len];show hie
  subst hx;let⟨z1,d,pt,z',g1,g2,g3,g4,g5⟩:=PH.step i hid;rw[F]at g1;cases g1;let st:=Wm z (bo F);let⟨_,hps,_⟩:=A0.st;let kl0:=kp.kl hps A0.dn;let PA2:=PA.kl kl0 (kp _ _ PA.wl nw1 nw2);let J:jO j es[i] d:=(DL.at_ i _ d (ac hie) g2).kl kl0;let Y:(ds.take i).length=i:=by rw[am];lia
  let JW:(dj G [] (ds.take i)).done.length=i:=by show ((ds.take i).map bT.name).length=i;rw[aa,Y]
  calc⟨_,rL,_,rL,_,rL,an,p,pw,es[i],z,z',i,tp (ds.take i),_,Z,dj G [] (ds.take i),d,pt,rL,NA,st,PA2,PO,J,JW,ek,en,em,ez,g5,λt p' H3 s3 ht NA'=>?_⟩;calc JA t _ ⟨rL,aO.of ht,rL,_,_,rL,_,_,rL,rL,?_⟩;let A3:=A2.mv s3;let⟨gx,_,_,_,_,hg3,_⟩:=A3.ex;let⟨_,R8,_⟩:=A3.st;let ajl:(dj G (zs.take (i+1)) (ds.take i)).sts=zs.take i++[z]:=tk1 F;calc⟨_,rL,g,gx,_,rL,hg3,rL,_,rL,g,es[i],ps,pd,dj G (zs.take (i+1)) (ds.take i),zs.take i,z,z',d,pt,rL,A3,ajl,st,GF.ok o6 (by rw[am];lia),J.mv s3,g4,g5.sts,λH4 k4 A4=>?_⟩;rw[Wj,<-tk1 g3,<-tk1 g2]at A4;let kl4:=k4.kl R8 A3.dn;calc⟨_,rL,rL,_,rL,?_⟩;rw[al rfl];let O:(ds.take (i+1)).length=i+1:=by rw[am];lia
  let ahc:(dj G (zs.take (i+1+1)) (ds.take (i+1))).done.length=i+1:=by show ((ds.take (i+1)).map bT.name).length=i+1;rw[aa,O]
  let NA4:mq C H4 p' z' (i+1) (tp (ds.take (i+1))) (iV (dj G [] (ds.take (i+1))) z'):=by rw[tk1 g2,Fb,Nq g5 st.n1,Y];show NA'.kl kl4
  calc bQ ⟨_,rL,_,rL,g,p',ps,pd,dj G (zs.take (i+1+1)) (ds.take (i+1)),zs.take (i+1),z',tp (ds.take (i+1)),rL,A4,tk1 g3,Wm z' (bo g3),zA,by rw[ahc];lia,by rw[ahc];show NA4,λH5 s5=>⟨_,rL,bQ ?_⟩⟩;show JI _ _ p' z' ⟨rL,λa o h n1 n2=>s5 _ _ (k4 _ _ (s3 _ _ (kp a o h n1 n2)) n1 n2),A4.mv s5,g3,NA4.kl (Kl.of s5)⟩
 .rintro σ j _;show q j
noncomputable def Yp:bT->Dt
 | .lay ts=>.tup [.str iU,.tup (ts.map dT)]
 | .swap l=>.tup [.str gK,.str l]
 | .pass=>.tup [.str eV]
theorem jO.ajm {H:Hp}{e:Addr}:∀{d:bT},jO H e d->K_ d->iM K H 4 (Yp d) (.ref e)
 | .lay _,⟨_,_,h1,h2,h3⟩,hl=>.tup (aO.of h1) (.cons (.str _ pj) (.cons (iM.EY h2 h3 hl) .nil))
 | .swap _,h,hl=>.tup (aO.of h) (.cons (.str _ pj) (.cons (.str _ λc j=>E_ (hl c j)) .nil))
 | .pass,h,_=>.tup (aO.of h) (.cons (.str _ pj) .nil)
theorem nH.adz {H:Hp}:∀{es:List Addr} {ds:List bT},nH H es ds->(∀d∈ds,K_ d)->dB K H 4 (ds.map Yp) (es.map V.ref)
 | [],[],_,_=>.nil
 | [],_::_,h,_=>by have:=h.len;simp at this
 | _::_,[],h,_=>by have:=h.len;simp at this
 | e::es,d::ds,h,hl=>.cons ((h.at_ 0 e d rL rL).ajm (hl d cf)) (nH.adz ⟨by have:=h.len;simpa using this,λi a b h1 h2=>h.at_ (i+1) a b h1 h2⟩ λb hb=>hl b (bE _ hb))
def nH.snoc {H:Hp}{es:List Addr}{ds:List bT}{e:Addr}{d:bT}(h:nH H es ds)(g:jO H e d):nH H (es++[e]) (ds++[d]):=by
 calc⟨by rw[av,av,h.len];rfl,λi b y e1 e2=>?_⟩;by_cases hi:i<es.length
 .rw[a9 hi]at e1;rw[a9 (by rw[<-h.len];show hi)]at e2;show h.at_ i b y e1 e2
 .rw[be o6]at e1;rw[be (by rw[<-h.len];lia),<-h.len]at e2;let h0:i-es.length=0:=by have:=(ag.mp e1).1;simp at this;lia
  rw[h0]at e1 e2;cases e1;cases e2;show g
def nH.init {H:Hp}{es:List Addr}{ds:List bT}{e:Addr}{d:bT}(h:nH H (es++[e]) (ds++[d])):nH H es ds:=by
 calc⟨by have:=h.len;simpa using this,λi b y e1 e2=>h.at_ i b y ?_ ?_⟩;.rw[a9 (ag.mp e1).1];show e1
 .rw[a9 (ag.mp e2).1];show e2
structure wG (C:Addr)(H:Hp)(G:Gm)(ns:List Addr)(zs:List Std)(ds:List bT):Prop where
 len:ns.length=zs.length
 at_:∀(i:Nat) (a:Addr) (z:Std),ns[i]?=some a->zs[i]?=some z->mq C H a z i (tp (ds.take i)) (iV (dj G [] (ds.take i)) z)
def wG.kl {C:Addr}{H H':Hp}{G:Gm}{ns:List Addr}{zs:List Std}{ds:List bT}(h:wG C H G ns zs ds)(k:Kl H H'):wG C H' G ns zs ds:=⟨h.len,λi a z h1 h2=>(h.at_ i a z h1 h2).kl k⟩
def wG.snoc {C:Addr}{H:Hp}{G:Gm}{ns:List Addr}{zs:List Std}{ds:List bT}{a:Addr}{z:Std}{d:bT}(h:wG C H G ns zs ds)(hl:zs.length=ds.length+1)(g:mq C H a z (ds.length+1) (tp (ds++[d])) (iV (dj G [] (ds++[d])) z)):wG C H G (ns++[a]) (zs++[z]) (ds++[d]):=by
 let hn:=h.len;calc⟨by rw[av,av,hn];rfl,λi b y e1 e2=>?_⟩;by_cases hi:i<ns.length
 .rw[a9 hi]at e1;rw[a9 (by rw[<-hn];show hi)]at e2;rw[gh o6];show h.at_ i b y e1 e2
 .rw[be o6]at e1;rw[be (by rw[<-hn];lia),<-hn]at e2;let h0:i-ns.length=0:=by have:=(ag.mp e1).1;simp at this;lia
  rw[h0]at e1 e2;cases e1;cases e2;let e:i=ds.length+1:=o6;subst e;rw[b9 pi];show g
def wG.init {C:Addr}{H:Hp}{G:Gm}{ns:List Addr}{zs:List Std}{ds:List bT}{a:Addr}{z:Std}{d:bT}(h:wG C H G (ns++[a]) (zs++[z]) (ds++[d]))(hl:zs.length=ds.length+1):wG C H G ns zs ds:=by calc⟨by have:=h.len;simpa using this,λi b y e1 e2=>?_⟩;let hi:=(ag.mp e2).1;have:=h.at_ i b y (by rw[a9 (ag.mp e1).1];show e1) (by rw[a9 hi];show e2);rw[gh o6]at this;show this
structure Dis (ps pd Ls Ld:Addr):Prop where
 a:ps≠Ls
 b:ps≠Ld
 c:pd≠Ls
 d:pd≠Ld
 e:Ls≠Ld
structure z_ (C CS CB CG:Addr)(H0 H:Hp)(g ps pd Ls Ld:Addr)(G:Gm)(z0:Std)(ds:List bT)(zs:List Std)(ns es:List Addr):Prop where
 kx:∀a o,H0 a=some o->a≠ps->a≠pd->a≠Ls->a≠Ld->H a=some o
 ga:fG C CS CB CG H g ps pd (dj G zs ds)
 ls:H Ls=some (.lst (ns.map V.ref))
 nl:wG C H G ns zs ds
 ld:H Ld=some (.lst (es.map V.ref))
 dl:nH H es ds
 ph:Path G z0 ds zs
def z_.mv {C CS CB CG:Addr}{H0 H H1:Hp}{g ps pd Ls Ld:Addr}{G:Gm}{z0:Std}{ds:List bT}{zs:List Std}{ns es:List Addr}(I:z_ C CS CB CG H0 H g ps pd Ls Ld G z0 ds zs ns es)(s:aB H H1):z_ C CS CB CG H0 H1 g ps pd Ls Ld G z0 ds zs ns es:=⟨λa o h n1 j D n4=>s _ _ (I.kx a o h n1 j D n4),I.ga.mv s,s _ _ I.ls,I.nl.kl (Kl.of s),s _ _ I.ld,I.dl.kl (Kl.of s),I.ph⟩
def z_.put {C CS CB CG:Addr}{H0 H H1:Hp}{g ps pd Ls Ld:Addr}{G:Gm}{z0:Std}{ds j:List bT}{zs F:List Std}{ns es D J:List Addr}(I:z_ C CS CB CG H0 H g ps pd Ls Ld G z0 ds zs ns es)(d:Dis ps pd Ls Ld)(k:uP ps pd H H1)(A:fG C CS CB CG H1 g ps pd (dj G F j))(h1:wG C H1 G D F j)(h2:nH H1 J j)(h3:Path G z0 j F):z_ C CS CB CG H0 (upd (upd H1 Ls (.lst (D.map V.ref))) Ld (.lst (J.map V.ref))) g ps pd Ls Ld G z0 j F D J:=by let l1:=k _ _ I.ls d.a.symm d.c.symm;let l2:=k _ _ I.ld d.b.symm d.d.symm;let k2:Kl H1 (upd (upd H1 Ls (.lst (D.map V.ref))) Ld (.lst (J.map V.ref))):=(Kl.up l1).trans (Kl.up (xs:=es.map V.ref) (by rw[aP d.e.symm];show l2));refine⟨λa o h n1 O Y n4=>by rw[aP n4,aP Y];show k _ _ (I.kx a o h n1 O Y n4) n1 O,A.kl k2 (by rw[aP d.b,aP d.a]) (by rw[aP d.d,aP d.c]),by rw[aP d.e,aq],h1.kl k2,aq,h2.kl k2,h3⟩
def zB {α β:Type}{l:List α}{m:List β}{x:β}(h:l.length=(m++[x]).length):∃k y,l=k++[y]/\k.length=m.length:=by
 let hl:l.length=m.length+1:=by rw[h];simp
 let j:l≠[]:=λe=>by subst e;simp at hl
 show JA l.dropLast (l.getLast j) ⟨(gv j).symm,by rw[mo,hl];rfl⟩
def Wn {l:List Addr}{x:Addr}:((l++[x]).map V.ref)[((l++[x]).map V.ref).length-1]?=some (.ref x):=by simp
def Wo {l:List Addr}{x:Addr}:((l++[x]).map V.ref).dropLast=l.map V.ref:=by simp
theorem Path.z0 {G:Gm}{z0:Std}{ds:List bT}{zs:List Std}(h:Path G z0 ds zs):zs[0]?=some z0:=by
 induction h with| nil=>rfl| snoc h ov dd ih=>have:=h.len;rw[a9 o6];show ih
open Classical in
def ahd {C CS CB CG f f0 f1 f2 f3:Addr}{fd dY dH fd2 mV:FuncData}(F:dX K "law" "law" OD f fd)(bh:mg "len"=none)(d_:mg "range"=none)(cP:oW K CG)(K7:mg "Book"=some (.ref CB))(RB:Mk K CB f0)(RD:bZ P w K mg base dz 3 f0 dY ["self","words"] (Q6 K CB))(RG:bN K dY ["self","words"] [])(aeN:mg "Game"=some (.ref CG))(ahe:Mk K CG f1)(ahf:bZ P w K mg base dz 7 f1 dH ["self","board","book","worths","bonus","size","racks","bag"] (V2 C CS CB CG))(ahg:bN K dH ["self","board","book","worths","bonus","size","racks","bag"] [])(Gg:Meth K CG "back" f2)(Gh:bZ P w K mg base dz 1 f2 fd2 ["self"] (aaC C CS CB CG))(Gi:bN K fd2 ["self"] [])(Dg:Meth K CG "do" f3)(Dh:bZ P w K mg base dz 16 f3 mV ["self","deed"] (acf C CS CB CG))(Di:bN K mV ["self","deed"] [])(aeO:bV P w K mg base "_law_parts" 7 ["_law_script"] (R0 K C))(aeP:bV P w K mg base "_law_begun" 1 ["_law_parts_here"] (Wa C))(ahh:bV P w K mg base "_law_deed" 18 ["_law_now","_law_book","_law_words_here","_law_cell"] (Wc C CB))(R7:bV P w K mg base "_law_next" 12 ["_law_now","_law_parts_here","_law_deed_here"] (R6 C))(z9:bV P w K mg base "_law_stands" 5 ["_law_game","_law_now"] (G9 C CS CB CG))(aeQ:bV P w K mg base "_law_again" 17 ["_law_game","_law_parts_here","_law_begun_here","_law_deeds"] (Wk C CS CB CG)):bZ P w K mg base dz 20 f fd ["_law_script"] (Ow K):=by
 calc F.cZ nR (λbG A outer s H vs Q E hr h=>?_);let⟨a,cells,rfl,hS,h63,q⟩:=h;calc⟨_,(aA (aU (i:=1) nR.nd rL (Or.inl rL) (bD aeO hr.mono rL (aj aG ao))) (aA (aU (i:=2) nR.nd rL (Or.inl rL) (qu RB RD hr.mono rL K7 RG .nil dM (aj (aX bw aW au (λ_ _=>rfl)) ao))) (aA (aU (i:=3) nR.nd rL (Or.inl rL) (qu ahe ahf hr.mono rL aeN ahg .nil dM (aj (aX bw aW au (λ_ _=>rfl)) (aj bA (aj (aX bw aW au (λ_ _=>rfl)) (aj (aX bw aW au (λ_ _=>rfl)) (aj (aX bw aW au (λ_ _=>rfl)) (aj (aX bw aW au (λ_ _=>rfl)) (aj (aX bw aW au (λ_ _=>rfl)) ao))))))))) (aA (aU (i:=4) nR.nd rL (Or.inl rL) (bD aeP hr.mono rL (aj aW ao))) (aA (aU (i:=5) nR.nd rL (Or.inl rL) (h_ (aj cL ao))) (aA (aU (i:=6) nR.nd rL (Or.inl rL) (h_ ao)) (aA (fD cK rL (mG (dh vD aG (dD au) (dD au))) (bC (i:=7) nR.nd rL (Or.inl rL)) (aA (fO (cB (agJ (QW.qt (lY (QW.qt (vP (bM iH (aJ bY iw au) au (bF _)) (yP (bM (yR hr.units) dW (h_ ao) (bF _))))) (jZ (dJ (aX bw (aX fH cT (mY jX au) (λ_ _=>rfl)) au (λ_ _=>rfl))))))) (aA (cR (fV bI cP.cl Gg Gh hr.mono Gi .nil dM)) (aA (cR (qJ bu ke kf Ij cT)) (aF (cR (qJ bu ke kf Ij dW))))) (aA (aU (i:=8) nR.nd rL (Or.inl rL) (bD ahh hr.mono rL (aj (aX fH cT (mY jX au) (λ_ _=>rfl)) (aj bA (aj (aX bw aW au (λ_ _=>rfl)) (aj (aJ cF iw au) ao)))))) (aA (fO (pH (bD R7 hr.mono rL (aj (aX fH cT (mY jX au) (λ_ _=>rfl)) (aj aW (aj jq ao)))) (nO rL (bU (bC (i:=9) nR.nd rL (Or.inl rL)) (bU (bC (i:=10) nR.nd rL (Or.inl rL)) kY))))) (aA (cB (bM wN (mH bI cP.cl Dg Dh hr.mono Di .nil dM (aj jq ao)) jP (bF _)) (aF (bf iu)) bJ) (aA (cR (fJ bu de df iG cT (aj jd ao))) (aF (cR (fJ bu de df iG dW (aj jq ao)))))))))) (aF (cB (eG (dJ (bD z9 hr.mono rL (aj bI (aj (aX fH cT (mY jX au) (λ_ _=>rfl)) ao))))) (aF (bf iu)) bJ)))) (aA (fD cK rL (Z5 pk d_ (aj (aJ nJ (aV bW pk bh ay (aj cT ao)) au) (aj (mY jX au) (aj (mY jX au) ao)))) (bC (i:=11) nR.nd rL (Or.inl rL)) (aA (cR (fV bI cP.cl Gg Gh hr.mono Gi .nil dM)) (aF (cB (eG (dJ (bD z9 hr.mono rL (aj bI (aj (aX fH cT nP (λ_ _=>rfl)) ao))))) (aF (bf iu)) bJ)))) (aF (bf (bD aeQ hr.mono rL (aj bI (aj aW (aj cL (aj dW ao))))))))))))))),?_⟩;calc⟨_,rL,a,cells,rL,hS,λpp pw Z H1 s1 fpw PA PO=>?_⟩;let⟨b0,dk,pbn,prk,hpp,hB0,hdk,ajn,ajo⟩:=PA.ex;let w2:=PO.w2;calc⟨_,rL,pp,_,_,.ref pw,rL,rL,aO.of hpp,aN (j:=1) rL,λk kx nk1 nk2 nk3=>?_⟩;let sK:∀{x o},H1 x=some o->upd (upd H1 kx (HO.own k)) k (HO.ins CB kx []) x=some o:=λ{x o} h=>by rw[aP (aY h nk1),aP (aY h nk2)];show h
 calc JI k kx pw Z.ws ⟨rL,aq,.inl (bB.of (sK PA.wl)),PO.wz,o6,λkd bs H2 fkd BK hbs Qx kp2=>⟨rL,?_⟩⟩;let s2:aB H1 H2:=λx o h=>kp2 x o (sK h) (aY h nk1);let Df:=s2 _ _ hpp;calc⟨_,rL,pp,_,_,.ref b0,rL,rL,aO.of Df,aN (j:=0) rL,_,rL,_,rL,pp,_,_,.ref dk,rL,rL,aO.of Df,aN (j:=2) rL,_,rL,pp,_,_,.ref pbn,rL,rL,aO.of Df,aN (j:=3) rL,_,rL,pp,_,_,.int Z.size,rL,rL,aO.of Df,aN (j:=4) rL,_,rL,pp,_,_,.ref prk,rL,rL,aO.of Df,aN (j:=5) rL,_,rL,pp,_,_,.str (S Z.bag),rL,rL,aO.of Df,aN (j:=6) rL,λg gx ng1 ng2 ng3=>?_⟩;let sG:aB H2 (upd (upd H2 gx (HO.own g)) g (HO.ins CG gx [])):=λx o h=>by rw[aP (aY h ng1),aP (aY h ng2)];show h
 let s1G:=s2.trans sG;calc JS g gx b0 k kd dk pbn prk ⟨bs,Z.kvs,Z.bn,Z.bm,Z.size,Z.r,Z.w,Z.aD,Z.aL,Z.bi,Z.bj,Z.racks,Z.bag,rL,aq,hB0.mv s1G,BK.mv sG,o6,s1G _ _ hdk,s1G _ _ ajn,s1G _ _ ajo,PO.n1,PO.n4,(λl hl=>by have:=(PO.r7 l hl).1;have:=PO.s7;lia),λps pd uy H3 kp3 hm fps fpd A3=>⟨rL,?_⟩⟩;let s3:aB H2 H3:=λx o h=>kp3 x o (sG x o h) (aY h ng1);let A3:fG C CS CB CG H3 g ps pd (dj ⟨[],[],uy,Z.kvs,Z.bn,Z.bm,Z.size⟩ [beg Z] []):=A3;let GF:JV ⟨[],[],uy,Z.kvs,Z.bn,Z.bm,Z.size⟩:=⟨PO.wd,PO.wb,PO.s7⟩
 obtain⟨G,ek,en,em,ez,ew,A3,GF⟩:∃G:Gm,G.kvs=Z.kvs/\G.bn=Z.bn/\G.bm=Z.bm/\G.size=Z.size/\G.ws=uy/\fG C CS CB CG H3 g ps pd (dj G [beg Z] [])/\JV G:=⟨_,rL,rL,rL,rL,rL,A3,GF⟩
 let hbw:∀x,x∈bs↔x∈G.ws:=λx=>by rw[ew];show(hm x).symm
 let Z0:lC (beg Z):=by let z7:=PO.s7;calc⟨by show 1<=(Z.racks.map dG).length;rw[aa];show PO.n1,by show (Z.racks.map dG).length<=4;rw[aa];show PO.n4,λl hl=>?_,PO.b6,PO.bt,by show (List.replicate _ _).length=(Z.racks.map dG).length;rw[aa,cy]⟩;let⟨m,hm,rfl⟩:=bd.mp hl;let⟨h1,h2⟩:=PO.r7 m hm;show⟨by rw[jm];lia,λc hc=>h2 c ((jM m).mem_iff.mp hc)⟩
 let JF:=s2.trans s3;let PA3:vA C H3 pp pw Z:=PA.kl (Kl.of JF) (JF _ _ PA.wl);calc⟨_,rL,pp,pw,Z,rL,PA3,PO,λbn H4 s4 NA0=>?_⟩;calc⟨_,rL,zsz 1,λLs hLs=>?_⟩;let s5:=aB.upd hLs (o:=HO.lst [V.ref bn]);let e5:upd H4 Ls (HO.lst [V.ref bn]) Ls=some (.lst ([bn].map V.ref)):=aq;generalize upd H4 Ls (HO.lst [V.ref bn])=H5 at s5 e5 ⊢;calc⟨zsz 0,λLd hLd=>?_⟩;let s6:=aB.upd hLd (o:=HO.lst []);let e6:upd H5 Ld (HO.lst []) Ld=some (.lst (([]:List Addr).map V.ref)):=aq;generalize upd H5 Ld (HO.lst [])=H6 at s6 e6 ⊢;let s36:=(s4.trans s5).trans s6;let xP:=(s1.trans JF).trans s36;calc⟨_,rL,_,rL,_,rL,a,_,rL,xP.seq hS,λZc hZc=>?_⟩;let s7:=aB.upd hZc (o:=HO.lst (gH (cells.map V.int) (some 4) (some 63)));let e7:upd H6 Zc (HO.lst (gH (cells.map V.int) (some 4) (some 63))) Zc=some (.lst (gH (cells.map V.int) (some 4) (some 63))):=aq;generalize upd H6 Zc (HO.lst (gH (cells.map V.int) (some 4) (some 63)))=H7 at s7 e7 ⊢;let s37:=s36.trans s7;let⟨_,R8,_⟩:=A3.st;let acB:=A3.dn;let D:Dis ps pd Ls Ld:=⟨aY (s4 _ _ R8) hLs,aY (s5 _ _ (s4 _ _ R8)) hLd,aY (s4 _ _ acB) hLs,aY (s5 _ _ (s4 _ _ acB)) hLd,aY e5 hLd⟩
 let zn1:Zc≠ps:=(aY (s36 _ _ R8) hZc).symm;let zn2:Zc≠pd:=(aY (s36 _ _ acB) hZc).symm;let zn3:Zc≠Ls:=(aY (s6 _ _ e5) hZc).symm;let zn4:Zc≠Ld:=(aY e6 hZc).symm;let wl2:=s2 _ _ PA.wl;let wn1:pw≠ps:=aY (sG _ _ wl2) fps;let wn2:pw≠pd:=aY (sG _ _ wl2) fpd;let wl4:=s4 _ _ (s3 _ _ wl2);let wn3:pw≠Ls:=aY wl4 hLs;let wn4:pw≠Ld:=aY (s5 _ _ wl4) hLd;let PA7:vA C H7 pp pw Z:=PA3.kl (Kl.of s37) (s37 _ _ PA3.wl);let BK7:gO CB H7 k kd bs:=(BK.mv s3).mv s37;let NA7:mq C H7 bn (beg Z) 0 0 false:=NA0.kl (Kl.of ((s5.trans s6).trans s7));let I7:z_ C CS CB CG H7 H7 g ps pd Ls Ld G (beg Z) [] [beg Z] [bn] []:=by
  calc⟨λa o h _ _ _ _=>h,A3.mv s37,s7 _ _ (s6 _ _ e5),⟨rL,λi b z h1 h2=>?_⟩,s7 _ _ e6,⟨rL,λi e d h1 _=>by rw[List.getElem?_nil]at h1;cases h1⟩,.nil⟩;cases i with
  | zero=>cases h1;cases h2;rw[List.take_nil,Hh Z0.n1];show NA7
  | succ i=>simp at h1
 let hcl:(gH (cells.map V.int) (some 4) (some 63)).length<=63:=by unfold gH;rw[am,bc,aa];lia
 let⟨_,ajp,_⟩:=I7.ga.st;let ajq:=I7.ga.dn;let ahi:∀{J:Hp},(∀a o,H7 a=some o->a≠ps->a≠pd->a≠Ls->a≠Ld->J a=some o)->Kl H7 J:=λk a o h n=>k a o h (jf ajp h n) (jf ajq h n) (jf I7.ls h n) (jf I7.ld h n);refine⟨Zc,rL,⟨_,bB.of e7⟩,lF (K:=K) (a:=Zc) (xs:=gH (cells.map V.int) (some 4) (some 63)) (λi σ J=>∃(v7 v8 v9 v10:Option V) (ds:List bT) (zs:List Std) (ns es:List Addr),σ=[some (.ref a),some (.ref pp),some (.ref k),some (.ref g),some (.ref bn),some (.ref Ls),some (.ref Ld),v7,v8,v9,v10,none]/\z_ C CS CB CG H7 J g ps pd Ls Ld G (beg Z) ds zs ns es/\ds.length<=i)
  (JS none none none none [] [beg Z] [bn] [] ⟨rL,I7,ai _⟩) (λi σ J _ h=>?_) ?_ ?_⟩
 .let⟨_,_,_,_,_,_,_,_,_,I,_⟩:=h;show bB.of (I.kx _ _ e7 zn1 zn2 zn3 zn4)
 .intro i x σ J hx z;let⟨v7,v8,v9,v10,ds,zs,ns,es,rfl,I,hdi⟩:=z;let hic:=(ag.mp hx).1;let⟨c,_,rfl⟩:=bd.mp (ed (cE (bo hx)));let Bq:=I.ph.len;let⟨zs0,z,rfl,ahj⟩:=zB (l:=zs) (m:=ds) (x:=bT.pass) (by rw[Bq];simp);let⟨Wq,n,rfl,ajr⟩:=zB I.nl.len;let Wm:=I.ph.ok Z0 GF.sz;let stz:lC z:=Wm z pi;let NAz:mq C J n z ds.length (tp ds) (iV (dj G [] ds) z):=by
   have:=I.nl.at_ ds.length n z (by rw[be o6,ajr,ahj,gd];rfl) (by rw[be o6,ahj,gd];rfl);rw[ce]at this;show this
  let⟨nb,npr,npp,hn8,_⟩:=NAz.ex;let kl8:=ahi I.kx;refine⟨λσ O=>∃(v8 v9 v10:Option V) (ds:List bT) (zs:List Std) (ns es:List Addr),σ=[some (.ref a),some (.ref pp),some (.ref k),some (.ref g),some (.ref bn),some (.ref Ls),some (.ref Ld),some (.int c),v8,v9,v10,none]/\z_ C CS CB CG H7 O g ps pd Ls Ld G (beg Z) ds zs ns es/\ds.length<=i+1,?_,?_⟩
  .refine⟨λb O=>aB J O/\(b=true->ds≠[])/\(b=false->iV (dj G [] ds) z=false),?_,?_⟩
   .calc⟨_,rL,_,_,rL,rL,(by show (0:Int)<3;decide),rL,_,rL,?_⟩;let ovr:∀O,aB J O->(iV (dj G [] ds) z=true->ds≠[]):=λ_ _ h e=>by
     subst e;rw[Hh stz.n1]at h;cases h
    refine i_ (λ_=>?_) (λ_=>?_)
    .calc⟨_,rL,zsz 0,λEe hEe=>?_⟩;let s9:=aB.upd hEe (o:=HO.lst []);let e9:upd J Ee (HO.lst []) Ee=some (.lst []):=aq;generalize upd J Ee (HO.lst [])=O at s9 e9 ⊢;calc JE 5 (.lst (ds.map Yp)) (.lst []) ⟨pj,.lst (bB.of (s9 _ _ I.ld)) ((I.dl.kl (Kl.of s9)).adz I.ph.low),.lst (bB.of e9) .nil,_,rL,?_⟩;calc i_ (λhne=>⟨s9,λ_ e=>by subst e;simp at hne,λh=>by cases h⟩) (λ_=>?_);calc⟨_,rL,_,rL,Ls,_,_,.ref n,rL,rL,bB.of (s9 _ _ I.ls),lX,n,_,_,.bl (iV (dj G [] ds) z),rL,rL,aO.of (s9 _ _ hn8),aN (j:=6) rL,_,rL,?_⟩;show⟨s9,ovr _ s9,λh=>h⟩
    .calc⟨_,rL,_,rL,Ls,_,_,.ref n,rL,rL,bB.of I.ls,lX,n,_,_,.bl (iV (dj G [] ds) z),rL,rL,aO.of hn8,aN (j:=6) rL,_,rL,?_⟩;show⟨aB.refl _,ovr _ (aB.refl _),λh=>h⟩
   intro b O z;let⟨s9,hb1,hb2⟩:=z;let Y:=I.mv s9;let⟨gy,_,_,_,_,hg9,_⟩:=Y.ga.ex;cases b with
   | true=>
    rcases Y.ph.inv with⟨e,_⟩|⟨Bw,d,zs1,z1,pt,z2,e1,e2,ph1,_,_⟩;.show absurd e (hb1 rL)
    subst e1;let⟨e3,e4⟩:=List.append_inj' e2 rfl;subst e3;cases e4;let⟨es1,e,rfl,_⟩:=zB Y.dl.len;calc cj ⟨_,rL,g,gy,_,rL,hg9,rL,g,ps,pd,_,zs1++[z1],z,Bw.map bT.name,d.name,rL,Y.ga,rL,(by show (Bw++[d]).map bT.name=_;rw[bv];rfl),zA,(by show ((Bw++[d]).map bT.name).length<=500;rw[aa];lia),λHA kA AA=>?_⟩;let l1:=kA _ _ Y.ls D.a.symm D.c.symm;calc⟨_,rL,.inl ⟨rL,_,bB.of l1⟩,Ls,_,.ref n,rL,rL,l1,Wn,?_⟩;rw[Wo];let l2:upd HA Ls (HO.lst (Wq.map V.ref)) Ld=some (.lst ((es1++[e]).map V.ref)):=by rw[aP D.e.symm];show kA _ _ Y.ld D.b.symm D.d.symm
    calc⟨_,rL,.inl ⟨rL,_,bB.of l2⟩,Ld,_,.ref e,rL,rL,l2,Wn,?_⟩;rw[Wo];let⟨_,ajs,_⟩:=Y.ga.st;let klA:=kA.kl ajs Y.ga.dn;let hl1:=ph1.len;calc JP _ _ _ Bw (zs1++[z1]) Wq es1 ⟨rL,Y.put D kA AA ((Y.nl.init hl1).kl klA) (Y.dl.init.kl klA) ph1,?_⟩;rw[av]at hdi;lia
   | false=>
    let hov:=hb2 rfl;let NA9:=NAz.kl (Kl.of s9);let Ws:=kl8.trans (Kl.of s9);let acC:=s9 _ _ (I.kx _ _ PA7.wl wn1 wn2 wn3 wn4);let PA9:=PA7.kl Ws acC;let⟨_,_,_,_,ajt,_⟩:=PA9.ex;calc bQ ⟨_,rL,_,rL,Ls,_,_,.ref n,rL,rL,bB.of Y.ls,lX,_,rL,_,rL,pp,_,_,.ref pw,rL,rL,aO.of ajt,aN (j:=1) rL,_,rL,_,_,rL,rL,⟨pj,pj⟩,n,k,kd,pw,bs,Z.ws,_,z,ds.length,tp ds,_,rL,NA9,stz,BK7.kl Ws,acC,by have:=PO.w1;lia,PO.wz,λe d HA sA hd hok=>?_⟩;let⟨pt,z',dd⟩:=aaS (G:=G) hok hbw;let IA:=Y.mv sA;let JW:(dj G [] ds).done.length=ds.length:=aa _;refine⟨λσ HB=>∃n',σ=[some (.ref a),some (.ref pp),some (.ref k),some (.ref g),some (.ref bn),some (.ref Ls),some (.ref Ld),some (.int c),some (.ref e),some (.int pt),some (.ref n'),none]/\aB HA HB/\mq C HB n' z' (ds.length+1) (tp (ds++[d])) (iV (dj G [] (ds++[d])) z'),?_,?_⟩
    .calc⟨_,rL,_,rL,Ls,_,_,.ref n,rL,rL,bB.of IA.ls,lX,_,rL,_,rL,n,pp,pw,e,z,z',ds.length,tp ds,_,Z,dj G [] ds,d,pt,rL,NA9.kl (Kl.of sA),stz,PA9.kl (Kl.of sA) (sA _ _ acC),PO,hd,JW,ek,en,em,ez,dd,λt n' HB sB ht NA'=>?_⟩;calc JA t _ ⟨rL,aO.of ht,rL,_,_,rL,_,_,rL,rL,n',rL,sB,?_⟩;rw[Fb,Nq dd stz.n1];show NA'
    intro σ HB z;let⟨n',rfl,sB,NB⟩:=z;let IB:=IA.mv sB;let⟨gz,_,_,_,_,hgB,_⟩:=IB.ga.ex;calc⟨_,rL,g,gz,_,rL,hgB,rL,_,rL,g,e,ps,pd,dj G (zs0++[z]) ds,zs0,z,z',d,pt,rL,IB.ga,rL,stz,GF.ok o6 o6,hd.mv sB,hov,dd.sts,λHC kC AC=>?_⟩;rw[Wj]at AC;calc⟨_,rL,rL,_,rL,?_⟩;rw[al rfl];let l1:=kC _ _ IB.ls D.a.symm D.c.symm;calc bQ ⟨_,rL,.inl ⟨rL,_,bB.of l1⟩,_,rL,Ls,_,.ref n',rL,rL,l1,aK (by rw[aa];have:=I.nl.len;lia),?_⟩;rw[show (Wq++[n]).map V.ref++[.ref n']=(Wq++[n]++[n']).map V.ref by simp];let l2:upd HC Ls (HO.lst ((Wq++[n]++[n']).map V.ref)) Ld=some (.lst (es.map V.ref)):=by rw[aP D.e.symm];show kC _ _ IB.ld D.b.symm D.d.symm
    calc⟨_,rL,.inl ⟨rL,_,bB.of l2⟩,_,rL,Ld,_,.ref e,rL,rL,l2,aK (by rw[aa,I.dl.len];lia),?_⟩;rw[show es.map V.ref++[.ref e]=(es++[e]).map V.ref by simp];let⟨_,aju,_⟩:=IB.ga.st;let klC:=kC.kl aju IB.ga.dn;calc JP _ _ _ (ds++[d]) (zs0++[z]++[z']) (Wq++[n]++[n']) (es++[e]) ⟨rL,IB.put D kC AC ((IB.nl.kl klC).snoc Bq (NB.kl klC)) ((IB.dl.kl klC).snoc ((hd.mv sB).kl klC)) (.snoc I.ph hov dd),?_⟩;rw[av];show gt hdi
  .intro σ O z;let⟨w8,w9,w10,Bw,zs1,ns1,es1,rfl,I1,hd1⟩:=z;let ajv:=I1.ph.len;let⟨ys,y,rfl,hyl⟩:=zB (l:=zs1) (m:=Bw) (x:=bT.pass) (by rw[ajv];simp);let⟨ms,m,rfl,hml⟩:=zB I1.nl.len;let sty:=I1.ph.ok Z0 GF.sz y pi;let NAy:=I1.nl.at_ Bw.length m y (by rw[be o6,hml,hyl,gd];rfl) (by rw[be o6,hyl,gd];rfl);rw[ce]at NAy;let JW:(dj G (ys++[y]) Bw).done.length=Bw.length:=aa _;calc⟨_,rL,_,rL,_,rL,Ls,_,_,.ref m,rL,rL,bB.of I1.ls,lX,g,m,ps,pd,dj G (ys++[y]) Bw,ys,y,tp Bw,rL,I1.ga,rL,sty,zA,by rw[JW];lia,by rw[JW];show NAy,λHA sA=>⟨_,rL,bQ ?_⟩⟩;show JS _ _ _ _ Bw _ _ es1 ⟨rL,I1.mv sA,hd1⟩
 .intro σ J z;let⟨v7,v8,v9,v10,ds,zs,ns,es,rfl,I,hdi⟩:=z;let Bq:=I.ph.len;let hnl:=I.nl.len;let kl8:=ahi I.kx;let Wm:=I.ph.ok Z0 GF.sz;let hLl:(ns.map V.ref).length=ds.length+1:=by rw[aa,hnl,Bq]
  calc⟨_,rL,Ls,_,rL,.inl (bB.of I.ls),_,_,rL,rL,_,rL,_,rL,ds.length,(by rw[hLl];show [V.int _,_,_]++[]=_;rw[show (((ds.length+1:Nat):Int)-2)=(ds.length:Int)-1 by lia];rfl),o6,?_⟩;let⟨_,ahk,_⟩:=I.ga.st;refine Xm (λj σ O=>∃v11:Option V,σ=[some (.ref a),some (.ref pp),some (.ref k),some (.ref g),some (.ref bn),some (.ref Ls),some (.ref Ld),v7,v8,v9,v10,v11]/\uP ps pd J O/\fG C CS CB CG O g ps pd (dj G (zs.take (ds.length-j+1)) (ds.take (ds.length-j))))
   ⟨none,rL,λa o h _ _=>h,?_⟩ ?_ ?_
  .rw[Nat.sub_zero,ce,b9 o6];show I.ga
  .intro j σ O hj z;let⟨v11,rfl,kp,A9⟩:=z;obtain⟨t,ht⟩:∃t,ds.length-j=t+1:=⟨ds.length-j-1,o6⟩
   rw[ht]at A9;let⟨gy,_,_,_,_,hg9,_⟩:=A9.ex;let⟨_,ajE,_⟩:=A9.st;let t1:t+1<zs.length:=o6;let t2:t<ds.length:=o6;let t0:t<zs.length:=o6;let hdt:((ds.take (t+1)).map bT.name)=(ds.take t).map bT.name++[ds[t].name]:=by rw[tk1 (ac t2),bv];rfl
   calc⟨_,rL,g,gy,_,rL,hg9,rL,g,ps,pd,_,zs.take (t+1),zs[t+1],(ds.take t).map bT.name,ds[t].name,rL,A9,tk1 (ac t1),hdt,zA,(by show ((ds.take (t+1)).map bT.name).length<=500;rw[aa,am];lia),λHA kA AA=>?_⟩;let AA:fG C CS CB CG HA g ps pd (dj G (zs.take (t+1)) (ds.take t)):=AA;let k8A:uP ps pd J HA:=λa o h n1 n2=>kA _ _ (kp a o h n1 n2) n1 n2;let hlA:=k8A _ _ I.ls D.a.symm D.c.symm;let tn:t<ns.length:=o6
   let NAt:=(I.nl.at_ t ns[t] zs[t] (ac tn) (ac t0)).kl (k8A.kl ahk I.ga.dn);let JW:(dj G (zs.take (t+1)) (ds.take t)).done.length=t:=by show ((ds.take t).map bT.name).length=t;rw[aa,am];lia
   refine⟨_,rL,_,rL,_,rL,Ls,_,_,.ref ns[t],rL,rL,bB.of hlA,?_,g,ns[t],ps,pd,dj G (zs.take (t+1)) (ds.take t),zs.take t,zs[t],tp (ds.take t),rL,AA,tk1 (ac t0),Wm _ (aI t0),zA,by rw[JW];lia,by rw[JW];show NAt,λHB sB=>⟨_,rL,bQ ?_⟩⟩
   .rw[show ((ds.length:Int)-1+(j:Int)*(-1))=(t:Int) by lia];show aN (by rw[ck,ac tn];rfl)
   .calc⟨_,rL,λa o h n1 n2=>sB _ _ (k8A a o h n1 n2),?_⟩;rw[show ds.length-(j+1)=t by lia];show AA.mv sB
  .intro σ O z;let⟨v11,rfl,kp,A9⟩:=z;rw[gd,oB,mT,tk1 I.ph.z0,mT,List.nil_append]at A9;let Ws:=kp.kl ahk I.ga.dn;refine⟨_,rL,_,rL,_,rL,_,rL,g,pp,pw,bn,Ld,ps,pd,G,Z,beg Z,ds,zs,es,rL,A9,I.ph,Z0,GF,ek,en,em,ez,PA7.kl (kl8.trans Ws) (kp _ _ (I.kx _ _ PA7.wl wn1 wn2 wn3 wn4) wn1 wn2),PO,NA7.kl (kl8.trans Ws),kp _ _ I.ld D.b.symm D.d.symm,I.dl.kl Ws,o6,D.b.symm,D.d.symm,wn1,wn2,λHA=>q HA⟩
end
end My
end
namespace My
open PySem L2
section
variable {P:Program}{w:World}{K:W.Frag}{mg:Str->Option Value}{base:Heap}
abbrev aeR (K:W.Frag)(C:Addr):=oW K C
abbrev acD (K:W.Frag)(C:Addr):=rC K C
def aiw {h:Heap}{x:Str}{l:List Nat}{t:Tok}(X:K.In h)(G:h.Ns mainGlobals mg)(b:W.nsIn K mainGlobals x=some (some (.str (S l) t)))(n:t≠0):∃t,t≠0/\mg x=some (.str (S l) t):=⟨t,n,di X G b⟩
def aaT {h:Heap}(X:K.In h)(G:h.Ns mainGlobals mg){x:Str}{a:Addr}{c1 c2 c3:Nat}{i1 i2 i3:Int}{Z Y O D I F:Tok}{ep:Nat}(b:W.nsIn K mainGlobals x=some (some (.ref a)))(l:K.lookup a=some ⟨.type "dict",none,.dict #[⟨hashStr w (S [c1]),.str (S [c1]) Z,.int i1 D⟩,⟨hashStr w (S [c2]),.str (S [c2]) Y,.int i2 I⟩,⟨hashStr w (S [c3]),.str (S [c3]) O,.int i3 F⟩] ep,#[]⟩)(z:(a==sysModules)=false)(n:([c1,c2,c3]:List Nat).Nodup):∃a,mg x=some (.ref a)/\∀P:Program,KDict P w K a [(cU [c1],.int i1),(cU [c2],.int i2),(cU [c3],.int i3)]:=by
 calc⟨a,di X G b,λP=>⟨z,_,[(cU [c1],.int i1 D),(cU [c2],.int i2 I),(cU [c3],.int i3 F)],l,?_,?_⟩⟩;.show .cons ⟨rL,⟨_,rL⟩⟩ (.cons ⟨rL,⟨_,rL⟩⟩ (.cons ⟨rL,⟨_,rL⟩⟩ .nil))
 .refine JA _ _ ⟨⟨rL,rL,rL⟩,rL,?_,?_,?_⟩
  .intro e j;let j:e∈[(⟨hashStr w (S [c1]),.str (S [c1]) Z,.int i1 D⟩:DictEntry),⟨hashStr w (S [c2]),.str (S [c2]) Y,.int i2 I⟩,⟨hashStr w (S [c3]),.str (S [c3]) O,.int i3 F⟩]:=by simpa using j
   rcases bX.mp j with rfl|j;.show⟨cU [c1],lE _ _ _ _,rL⟩
   rcases bX.mp j with rfl|j;.show⟨cU [c2],lE _ _ _ _,rL⟩
   rcases bX.mp j with rfl|j;.show⟨cU [c3],lE _ _ _ _,rL⟩
   .cases j
  .show .cons (lE _ _ _ _) rL (.cons (lE _ _ _ _) rL (.cons (lE _ _ _ _) rL .nil))
  .let e:([(cU [c1],Value.int i1 D),(cU [c2],Value.int i2 I),(cU [c3],Value.int i3 F)]:List (Key×Value)).map (·.1)=([c1,c2,c3]:List Nat).map (λc=>cU [c]):=rfl;rw[e];calc List.Pairwise.map _ (λa b J q=>J ?_) n;have:=wQ (lj q);simpa using this
structure Aa (K:W.Frag)(mg:Str->Option Value)(C f0 f1 f2 f3 f4:Addr)(dY dH fd2 mV uQ:FuncData):Prop where
 T:gA K C
 uN:mg "Board"=some (.ref C)
 M:Mk K C f0
 F0:dX K "__init__" "Board.__init__" j5 f0 dY
 b0:bN K dY ["self","rows","marks","begin"] []
 F1:dX K "at" "Board.at" nj f1 dH
 b1:bN K dH ["self","row","column"] []
 m1:Meth K C "at" f1
 F2:dX K "is_free" "Board.is_free" iR f2 fd2
 b2:bN K fd2 ["self"] []
 m2:Meth K C "is_free" f2
 F3:dX K "run" "Board.run" lM f3 mV
 b3:bN K mV ["self","row","column","way"] []
 m3:Meth K C "run" f3
 F4:dX K "laid" "Board.laid" j6 f4 uQ
 b4:bN K uQ ["self","laying"] []
 m4:Meth K C "laid" f4
def acE {h:Heap}{C f0 f1 f2 f3 f4:Addr}(X:K.In h)(G:h.Ns mainGlobals mg){R9 R_ od1 an1 od2 an2 od3 J od4 an4:Option Addr}{MN sl1 sl2 IV sl4:Array (Option Value)}{Sd Sg Sh Ss Dj Sv oc1 kV1 Y pm1 Nr ct1 oc2 O dc2 pm2 Nt D oc3 kV3 dc3 pm3 Nu F oc4 kV4 dc4 Z j I:Value}(aC:W.nsIn K mainGlobals "Board"=some (some (.ref C)))(a0:W.findIn K (.ref C) "__init__"=some (some (.ref f0)))(i0:W.isFn K (.ref f0)=true)(l0:K.lookup f0=some ⟨Sd,R9,.func (W.fnOf "__init__" "Board.__init__" (cX j5) (cH j5) (aH j5) .none Sg Sh Ss R_ Dj Sv),MN⟩)(c0:W.codeIn K Dj "Board.__init__"=true)(k0:W.keepIn K (.ref f0)=true)(a1:W.findIn K (.ref C) "at"=some (some (.ref f1)))(i1:W.isFn K (.ref f1)=true)(l1:K.lookup f1=some ⟨oc1,od1,.func (W.fnOf "at" "Board.at" (cX nj) (cH nj) (aH nj) .none kV1 Y pm1 an1 Nr ct1),sl1⟩)(c1:W.codeIn K Nr "Board.at"=true)(k1:W.keepIn K (.ref f1)=true)(a2:W.findIn K (.ref C) "is_free"=some (some (.ref f2)))(i2:W.isFn K (.ref f2)=true)(l2:K.lookup f2=some ⟨oc2,od2,.func (W.fnOf "is_free" "Board.is_free" (cX iR) (cH iR) (aH iR) .none O dc2 pm2 an2 Nt D),sl2⟩)(c2:W.codeIn K Nt "Board.is_free"=true)(k2:W.keepIn K (.ref f2)=true)(a3:W.findIn K (.ref C) "run"=some (some (.ref f3)))(i3:W.isFn K (.ref f3)=true)(l3:K.lookup f3=some ⟨oc3,od3,.func (W.fnOf "run" "Board.run" (cX lM) (cH lM) (aH lM) .none kV3 dc3 pm3 J Nu F),IV⟩)(c3:W.codeIn K Nu "Board.run"=true)(k3:W.keepIn K (.ref f3)=true)(a4:W.findIn K (.ref C) "laid"=some (some (.ref f4)))(i4:W.isFn K (.ref f4)=true)(l4:K.lookup f4=some ⟨oc4,od4,.func (W.fnOf "laid" "Board.laid" (cX j6) (cH j6) (aH j6) .none kV4 dc4 Z an4 j I),sl4⟩)(c4:W.codeIn K j "Board.laid"=true)(k4:W.keepIn K (.ref f4)=true)(pg:W.plainGet K C Str.empty=true)(hd:W.hasDictIn K C=true)(po:W.plainOver K C=true)(sa:W.findIn K (.ref C) "__setattr__"=some (some (.builtin "object.__setattr__")))(mk:W.makesIn K C=true)(kc:W.keepIn K (.ref C)=true)(wH:W.findIn K (.ref C) "rows"=some none)(Dk:W.findIn K (.ref C) "marks"=some none)(Dl:W.findIn K (.ref C) "begin"=some none):∃C f0 f1 f2 f3 f4 dY dH fd2 mV uQ,Aa K mg C f0 f1 f2 f3 f4 dY dH fd2 mV uQ:=by let F0:=fB (st:=j5) l0 c0 k0;let F1:=fB (st:=nj) l1 c1 k1;let F2:=fB (st:=iR) l2 c2 k2;let F3:=fB (st:=lM) l3 c3 k3;let F4:=fB (st:=j6) l4 c4 k4;show JS C f0 f1 f2 f3 f4 _ _ ⟨_,_,_,⟨⟨pg,hd,po,sa⟩,wH,Dk,Dl⟩,di X G aC,⟨mk,a0,i0,kc⟩,F0,F0.binds (ps:=["self","rows","marks","begin"]) (λ_ _ _ _ _ _ us hl=>L2.e4 (λ_ _ _ _=>rfl) us hl),F1,F1.binds (ps:=["self","row","column"]) (λ_ _ _ _ _ _ us hl=>L2.e3 (λ_ _ _=>rfl) us hl),⟨a1,i1,k1⟩,F2,F2.binds (ps:=["self"]) (λ_ _ _ _ _ _ us hl=>L2.e1 (λ_=>rfl) us hl),⟨a2,i2,k2⟩,F3,F3.binds (ps:=["self","row","column","way"]) (λ_ _ _ _ _ _ us hl=>L2.e4 (λ_ _ _ _=>rfl) us hl),⟨a3,i3,k3⟩,F4,F4.binds (ps:=["self","laying"]) (λ_ _ _ _ _ _ us hl=>L2.e2 (λ_ _=>rfl) us hl),⟨a4,i4,k4⟩⟩
structure Dm (K:W.Frag)(mg:Str->Option Value)(C f0 f1 f2 f3:Addr)(dY dH fd2 mV:FuncData):Prop where
 T:sU K C
 uN:mg "Book"=some (.ref C)
 M:Mk K C f0
 F0:dX K "__init__" "Book.__init__" lR f0 dY
 b0:bN K dY ["self","words"] []
 F1:dX K "has" "Book.has" nC f1 dH
 b1:bN K dH ["self","text"] []
 m1:Meth K C "has" f1
 F2:dX K "words" "Book.words" j8 f2 fd2
 b2:bN K fd2 ["self"] []
 m2:Meth K C "words" f2
 F3:dX K "twin" "Book.twin" lU f3 mV
 b3:bN K mV ["self"] []
 m3:Meth K C "twin" f3
def aeS {h:Heap}{C f0 f1 f2 f3:Addr}(X:K.In h)(G:h.Ns mainGlobals mg){R9 R_ od1 an1 Z an2 od3 F:Option Addr}{MN Y sl2 IV:Array (Option Value)}{Sd Sg Sh Ss Dj Sv oc1 kV1 J pm1 Nr ct1 oc2 I O pm2 Nt j oc3 kV3 dc3 pm3 Nu D:Value}(aC:W.nsIn K mainGlobals "Book"=some (some (.ref C)))(a0:W.findIn K (.ref C) "__init__"=some (some (.ref f0)))(i0:W.isFn K (.ref f0)=true)(l0:K.lookup f0=some ⟨Sd,R9,.func (W.fnOf "__init__" "Book.__init__" (cX lR) (cH lR) (aH lR) .none Sg Sh Ss R_ Dj Sv),MN⟩)(c0:W.codeIn K Dj "Book.__init__"=true)(k0:W.keepIn K (.ref f0)=true)(a1:W.findIn K (.ref C) "has"=some (some (.ref f1)))(i1:W.isFn K (.ref f1)=true)(l1:K.lookup f1=some ⟨oc1,od1,.func (W.fnOf "has" "Book.has" (cX nC) (cH nC) (aH nC) .none kV1 J pm1 an1 Nr ct1),Y⟩)(c1:W.codeIn K Nr "Book.has"=true)(k1:W.keepIn K (.ref f1)=true)(a2:W.findIn K (.ref C) "words"=some (some (.ref f2)))(i2:W.isFn K (.ref f2)=true)(l2:K.lookup f2=some ⟨oc2,Z,.func (W.fnOf "words" "Book.words" (cX j8) (cH j8) (aH j8) .none I O pm2 an2 Nt j),sl2⟩)(c2:W.codeIn K Nt "Book.words"=true)(k2:W.keepIn K (.ref f2)=true)(a3:W.findIn K (.ref C) "twin"=some (some (.ref f3)))(i3:W.isFn K (.ref f3)=true)(l3:K.lookup f3=some ⟨oc3,od3,.func (W.fnOf "twin" "Book.twin" (cX lU) (cH lU) (aH lU) .none kV3 dc3 pm3 F Nu D),IV⟩)(c3:W.codeIn K Nu "Book.twin"=true)(k3:W.keepIn K (.ref f3)=true)(pg:W.plainGet K C Str.empty=true)(hd:W.hasDictIn K C=true)(po:W.plainOver K C=true)(sa:W.findIn K (.ref C) "__setattr__"=some (some (.builtin "object.__setattr__")))(mk:W.makesIn K C=true)(kc:W.keepIn K (.ref C)=true)(wH:W.findIn K (.ref C) "held"=some none):∃C f0 f1 f2 f3 dY dH fd2 mV,Dm K mg C f0 f1 f2 f3 dY dH fd2 mV:=by let F0:=fB (st:=lR) l0 c0 k0;let F1:=fB (st:=nC) l1 c1 k1;let F2:=fB (st:=j8) l2 c2 k2;let F3:=fB (st:=lU) l3 c3 k3;show JS C f0 f1 f2 f3 _ _ _ ⟨_,⟨⟨pg,hd,po,sa⟩,wH⟩,di X G aC,⟨mk,a0,i0,kc⟩,F0,F0.binds (ps:=["self","words"]) (λ_ _ _ _ _ _ us hl=>L2.e2 (λ_ _=>rfl) us hl),F1,F1.binds (ps:=["self","text"]) (λ_ _ _ _ _ _ us hl=>L2.e2 (λ_ _=>rfl) us hl),⟨a1,i1,k1⟩,F2,F2.binds (ps:=["self"]) (λ_ _ _ _ _ _ us hl=>L2.e1 (λ_=>rfl) us hl),⟨a2,i2,k2⟩,F3,F3.binds (ps:=["self"]) (λ_ _ _ _ _ _ us hl=>L2.e1 (λ_=>rfl) us hl),⟨a3,i3,k3⟩⟩
structure Ab (K:W.Frag)(mg:Str->Option Value)(C f0:Addr)(dY:FuncData):Prop where
 T:acD K C
 uN:mg "Stand"=some (.ref C)
 M:Mk K C f0
 F0:dX K "__init__" "Stand.__init__" j7 f0 dY
 b0:bN K dY ["self","board","racks","bag","points"] []
def acF {h:Heap}{C f0:Addr}(X:K.In h)(G:h.Ns mainGlobals mg){Y Z:Option Addr}{F:Array (Option Value)}{I O J D j Sv:Value}(aC:W.nsIn K mainGlobals "Stand"=some (some (.ref C)))(a0:W.findIn K (.ref C) "__init__"=some (some (.ref f0)))(i0:W.isFn K (.ref f0)=true)(l0:K.lookup f0=some ⟨I,Y,.func (W.fnOf "__init__" "Stand.__init__" (cX j7) (cH j7) (aH j7) .none O J D Z j Sv),F⟩)(c0:W.codeIn K j "Stand.__init__"=true)(k0:W.keepIn K (.ref f0)=true)(pg:W.plainGet K C Str.empty=true)(hd:W.hasDictIn K C=true)(po:W.plainOver K C=true)(sa:W.findIn K (.ref C) "__setattr__"=some (some (.builtin "object.__setattr__")))(mk:W.makesIn K C=true)(kc:W.keepIn K (.ref C)=true)(wH:W.findIn K (.ref C) "board"=some none)(Dk:W.findIn K (.ref C) "racks"=some none)(Dl:W.findIn K (.ref C) "bag"=some none)(Sw:W.findIn K (.ref C) "points"=some none):∃C f0 dY,Ab K mg C f0 dY:=by let F0:=fB (st:=j7) l0 c0 k0;show JE C f0 _ ⟨⟨⟨pg,hd,po,sa⟩,wH,Dk,Dl,Sw⟩,di X G aC,⟨mk,a0,i0,kc⟩,F0,F0.binds (ps:=["self","board","racks","bag","points"]) (λ_ _ _ _ _ _ us hl=>L2.e5 (λ_ _ _ _ _=>rfl) us hl)⟩
structure Dn (K:W.Frag)(mg:Str->Option Value)(C f0 f1 f2 f3 f4 f5 f6 f7 f8:Addr)(dY dH fd2 mV uQ JR JT Wt Wu:FuncData):Prop where
 T:aeR K C
 uN:mg "Game"=some (.ref C)
 M:Mk K C f0
 F0:dX K "__init__" "Game.__init__" lN f0 dY
 b0:bN K dY ["self","board","book","worths","bonus","size","racks","bag"] []
 F1:dX K "do" "Game.do" oE f1 dH
 b1:bN K dH ["self","deed"] []
 m1:Meth K C "do" f1
 F2:dX K "back" "Game.back" lO f2 fd2
 b2:bN K fd2 ["self"] []
 m2:Meth K C "back" f2
 F3:dX K "board_now" "Game.board_now" iz f3 mV
 b3:bN K mV ["self"] []
 m3:Meth K C "board_now" f3
 F4:dX K "racks_now" "Game.racks_now" iB f4 uQ
 b4:bN K uQ ["self"] []
 m4:Meth K C "racks_now" f4
 F5:dX K "bag_now" "Game.bag_now" jj f5 JR
 b5:bN K JR ["self"] []
 m5:Meth K C "bag_now" f5
 F6:dX K "points_now" "Game.points_now" gR f6 JT
 b6:bN K JT ["self"] []
 m6:Meth K C "points_now" f6
 F7:dX K "turn" "Game.turn" lQ f7 Wt
 b7:bN K Wt ["self"] []
 m7:Meth K C "turn" f7
 F8:dX K "is_over" "Game.is_over" jk f8 Wu
 b8:bN K Wu ["self"] []
 m8:Meth K C "is_over" f8
def aeT {h:Heap}{C f0 f1 f2 f3 f4 f5 f6 f7 f8:Addr}(X:K.In h)(G:h.Ns mainGlobals mg){R9 R_ od1 an1 od2 an2 od3 an3 od4 an4 od5 an5 od6 an6 od7 Z od8 an8:Option Addr}{MN sl1 sl2 IV sl4 sl5 sl6 sl7 sl8:Array (Option Value)}{Sd Sg Sh Ss Dj Sv oc1 kV1 dc1 pm1 Nr ct1 oc2 kV2 dc2 pm2 Nt O oc3 kV3 dc3 pm3 Nu ct3 oc4 kV4 dc4 pm4 D ct4 Y kV5 dc5 pm5 J ct5 oc6 kV6 dc6 pm6 I ct6 oc7 kV7 dc7 pm7 F ct7 oc8 kV8 dc8 pm8 j ct8:Value}(aC:W.nsIn K mainGlobals "Game"=some (some (.ref C)))(a0:W.findIn K (.ref C) "__init__"=some (some (.ref f0)))(i0:W.isFn K (.ref f0)=true)(l0:K.lookup f0=some ⟨Sd,R9,.func (W.fnOf "__init__" "Game.__init__" (cX lN) (cH lN) (aH lN) .none Sg Sh Ss R_ Dj Sv),MN⟩)(c0:W.codeIn K Dj "Game.__init__"=true)(k0:W.keepIn K (.ref f0)=true)(a1:W.findIn K (.ref C) "do"=some (some (.ref f1)))(i1:W.isFn K (.ref f1)=true)(l1:K.lookup f1=some ⟨oc1,od1,.func (W.fnOf "do" "Game.do" (cX oE) (cH oE) (aH oE) .none kV1 dc1 pm1 an1 Nr ct1),sl1⟩)(c1:W.codeIn K Nr "Game.do"=true)(k1:W.keepIn K (.ref f1)=true)(a2:W.findIn K (.ref C) "back"=some (some (.ref f2)))(i2:W.isFn K (.ref f2)=true)(l2:K.lookup f2=some ⟨oc2,od2,.func (W.fnOf "back" "Game.back" (cX lO) (cH lO) (aH lO) .none kV2 dc2 pm2 an2 Nt O),sl2⟩)(c2:W.codeIn K Nt "Game.back"=true)(k2:W.keepIn K (.ref f2)=true)(a3:W.findIn K (.ref C) "board_now"=some (some (.ref f3)))(i3:W.isFn K (.ref f3)=true)(l3:K.lookup f3=some ⟨oc3,od3,.func (W.fnOf "board_now" "Game.board_now" (cX iz) (cH iz) (aH iz) .none kV3 dc3 pm3 an3 Nu ct3),IV⟩)(c3:W.codeIn K Nu "Game.board_now"=true)(k3:W.keepIn K (.ref f3)=true)(a4:W.findIn K (.ref C) "racks_now"=some (some (.ref f4)))(i4:W.isFn K (.ref f4)=true)(l4:K.lookup f4=some ⟨oc4,od4,.func (W.fnOf "racks_now" "Game.racks_now" (cX iB) (cH iB) (aH iB) .none kV4 dc4 pm4 an4 D ct4),sl4⟩)(c4:W.codeIn K D "Game.racks_now"=true)(k4:W.keepIn K (.ref f4)=true)(a5:W.findIn K (.ref C) "bag_now"=some (some (.ref f5)))(i5:W.isFn K (.ref f5)=true)(l5:K.lookup f5=some ⟨Y,od5,.func (W.fnOf "bag_now" "Game.bag_now" (cX jj) (cH jj) (aH jj) .none kV5 dc5 pm5 an5 J ct5),sl5⟩)(c5:W.codeIn K J "Game.bag_now"=true)(k5:W.keepIn K (.ref f5)=true)(a6:W.findIn K (.ref C) "points_now"=some (some (.ref f6)))(i6:W.isFn K (.ref f6)=true)(l6:K.lookup f6=some ⟨oc6,od6,.func (W.fnOf "points_now" "Game.points_now" (cX gR) (cH gR) (aH gR) .none kV6 dc6 pm6 an6 I ct6),sl6⟩)(c6:W.codeIn K I "Game.points_now"=true)(k6:W.keepIn K (.ref f6)=true)(a7:W.findIn K (.ref C) "turn"=some (some (.ref f7)))(i7:W.isFn K (.ref f7)=true)(l7:K.lookup f7=some ⟨oc7,od7,.func (W.fnOf "turn" "Game.turn" (cX lQ) (cH lQ) (aH lQ) .none kV7 dc7 pm7 Z F ct7),sl7⟩)(c7:W.codeIn K F "Game.turn"=true)(k7:W.keepIn K (.ref f7)=true)(a8:W.findIn K (.ref C) "is_over"=some (some (.ref f8)))(i8:W.isFn K (.ref f8)=true)(l8:K.lookup f8=some ⟨oc8,od8,.func (W.fnOf "is_over" "Game.is_over" (cX jk) (cH jk) (aH jk) .none kV8 dc8 pm8 an8 j ct8),sl8⟩)(c8:W.codeIn K j "Game.is_over"=true)(k8:W.keepIn K (.ref f8)=true)(pg:W.plainGet K C Str.empty=true)(hd:W.hasDictIn K C=true)(po:W.plainOver K C=true)(sa:W.findIn K (.ref C) "__setattr__"=some (some (.builtin "object.__setattr__")))(mk:W.makesIn K C=true)(kc:W.keepIn K (.ref C)=true)(wH:W.findIn K (.ref C) "book"=some none)(Dk:W.findIn K (.ref C) "worths"=some none)(Dl:W.findIn K (.ref C) "bonus"=some none)(Sw:W.findIn K (.ref C) "size"=some none)(nf4:W.findIn K (.ref C) "stands"=some none)(nf5:W.findIn K (.ref C) "done"=some none):∃C f0 f1 f2 f3 f4 f5 f6 f7 f8 dY dH fd2 mV uQ JR JT Wt Wu,Dn K mg C f0 f1 f2 f3 f4 f5 f6 f7 f8 dY dH fd2 mV uQ JR JT Wt Wu:=by let F0:=fB (st:=lN) l0 c0 k0;let F1:=fB (st:=oE) l1 c1 k1;let F2:=fB (st:=lO) l2 c2 k2;let F3:=fB (st:=iz) l3 c3 k3;let F4:=fB (st:=iB) l4 c4 k4;let F5:=fB (st:=jj) l5 c5 k5;let F6:=fB (st:=gR) l6 c6 k6;let F7:=fB (st:=lQ) l7 c7 k7;let F8:=fB (st:=jk) l8 c8 k8;show JS C f0 f1 f2 f3 f4 f5 f6 ⟨f7,f8,_,_,_,_,_,_,_,_,_,⟨⟨pg,hd,po,sa⟩,wH,Dk,Dl,Sw,nf4,nf5⟩,di X G aC,⟨mk,a0,i0,kc⟩,F0,F0.binds (ps:=["self","board","book","worths","bonus","size","racks","bag"]) (λ_ _ _ _ _ _ us hl=>L2.e8 (λ_ _ _ _ _ _ _ _=>rfl) us hl),F1,F1.binds (ps:=["self","deed"]) (λ_ _ _ _ _ _ us hl=>L2.e2 (λ_ _=>rfl) us hl),⟨a1,i1,k1⟩,F2,F2.binds (ps:=["self"]) (λ_ _ _ _ _ _ us hl=>L2.e1 (λ_=>rfl) us hl),⟨a2,i2,k2⟩,F3,F3.binds (ps:=["self"]) (λ_ _ _ _ _ _ us hl=>L2.e1 (λ_=>rfl) us hl),⟨a3,i3,k3⟩,F4,F4.binds (ps:=["self"]) (λ_ _ _ _ _ _ us hl=>L2.e1 (λ_=>rfl) us hl),⟨a4,i4,k4⟩,F5,F5.binds (ps:=["self"]) (λ_ _ _ _ _ _ us hl=>L2.e1 (λ_=>rfl) us hl),⟨a5,i5,k5⟩,F6,F6.binds (ps:=["self"]) (λ_ _ _ _ _ _ us hl=>L2.e1 (λ_=>rfl) us hl),⟨a6,i6,k6⟩,F7,F7.binds (ps:=["self"]) (λ_ _ _ _ _ _ us hl=>L2.e1 (λ_=>rfl) us hl),⟨a7,i7,k7⟩,F8,F8.binds (ps:=["self"]) (λ_ _ _ _ _ _ us hl=>L2.e1 (λ_=>rfl) us hl),⟨a8,i8,k8⟩⟩
structure acG (K:W.Frag)(mg:Str->Option Value)(fY dI gF fZ jo cQ dw CR iW mz fU gW:Addr)(oK uz lD mW:FuncData):Prop where
 Yq:mg "NoLaying"=some (.ref fY)
 ajx:mg "Taken"=some (.ref dI)
 aaU:mg "Crooked"=some (.ref gF)
 ajy:mg "Gap"=some (.ref fZ)
 aeU:mg "Apart"=some (.ref jo)
 aix:mg "Lacking"=some (.ref cQ)
 ajw:mg "NoWord"=some (.ref dw)
 mR:mg "RackError"=some (.ref CR)
 I:InitOf K CR
 rG:W.excIn K fY jR "ValueError.__new__"=true
 uD:W.excIn K gF jR "ValueError.__new__"=true
 zE:W.excIn K jo jR "ValueError.__new__"=true
 Fd:pB K mg "Taken" dI iW ["row","column"]
 Fe:dX K "__init__" "Taken.__init__" j4 iW oK
 Kz:bN K oK ["self","row","column"] []
 O8:pB K mg "Gap" fZ mz ["row","column"]
 O9:dX K "__init__" "Gap.__init__" ni mz uz
 XQ:bN K uz ["self","row","column"] []
 xT:pB K mg "Lacking" cQ fU ["tile"]
 xU:dX K "__init__" "Lacking.__init__" jg fU lD
 CP:bN K lD ["self","tile"] []
 Ac:pB K mg "NoWord" dw gW ["word"]
 Ad:dX K "__init__" "NoWord.__init__" jL gW mW
 zZ:bN K mW ["self","word"] []
 M:O6 K CR ⟨fY,dI,gF,fZ,jo,cQ,dw⟩
def aeV {h:Heap}{fY dI gF fZ jo cQ dw CR iW mz fU gW:Addr}(X:K.In h)(G:h.Ns mainGlobals mg){acH acI ahl ahm Yr Ys aaV aaW:Option Addr}{J D Yt I:Array (Option Value)}{acK acL acM Z Sx O aho ahp ahq ahr Y F Yu Yv Yw Yx JX Yy aaZ aa0 aa1 aa2 Nv aa3:Value}(Ae:W.nsIn K mainGlobals "NoLaying"=some (some (.ref fY)))(Fg:W.nsIn K mainGlobals "Taken"=some (some (.ref dI)))(Dp:W.nsIn K mainGlobals "Crooked"=some (some (.ref gF)))(O_:W.nsIn K mainGlobals "Gap"=some (some (.ref fZ)))(La:W.nsIn K mainGlobals "Apart"=some (some (.ref jo)))(xV:W.nsIn K mainGlobals "Lacking"=some (some (.ref cQ)))(Af:W.nsIn K mainGlobals "NoWord"=some (some (.ref dw)))(aR:W.nsIn K mainGlobals "RackError"=some (some (.ref CR)))(rG:W.excIn K fY jR "ValueError.__new__"=true)(uD:W.excIn K gF jR "ValueError.__new__"=true)(zE:W.excIn K jo jR "ValueError.__new__"=true)(Lb:W.exmOne K (.ref dI) (.ref CR)=some true)(Dq:W.exmOne K (.ref gF) (.ref CR)=some true)(Yz:W.exmOne K (.ref fZ) (.ref CR)=some true)(Le:W.exmOne K (.ref jo) (.ref CR)=some true)(Dr:W.exmOne K (.ref cQ) (.ref CR)=some true)(Hi:W.exmOne K (.ref dw) (.ref CR)=some true)(Sy:W.findIn K (.ref dI) "__init__"=some (some (.ref iW)))(Hj:W.isFn K (.ref iW)=true)(Hl:K.lookup iW=some ⟨acK,acH,.func (W.fnOf "__init__" "Taken.__init__" (cX j4) (cH j4) (aH j4) .none acL acM Z acI Sx O),J⟩)(Ho:W.codeIn K Sx "Taken.__init__"=true)(Hq:W.keepIn K (.ref iW)=true)(Ds:wV K dI iW=true)(Hr:W.keepIn K (.ref dI)=true)(Hs:((W.clsIn K dI).any λcd=>cd.hasDict&&rY cd.mro)=true)(Ht:W.findIn K (.ref dI) "__setattr__"=some (some (.builtin "object.__setattr__")))(Hu:W.hasDictIn K dI=true)(yx:W.findIn K (.ref dI) "row"=some none)(tE:W.findIn K (.ref dI) "column"=some none)(aa4:W.findIn K (.ref fZ) "__init__"=some (some (.ref mz)))(SJ:W.isFn K (.ref mz)=true)(SM:K.lookup mz=some ⟨aho,ahl,.func (W.fnOf "__init__" "Gap.__init__" (cX ni) (cH ni) (aH ni) .none ahp ahq ahr ahm Y F),D⟩)(SN:W.codeIn K Y "Gap.__init__"=true)(SQ:W.keepIn K (.ref mz)=true)(Lg:wV K fZ mz=true)(SX:W.keepIn K (.ref fZ)=true)(S5:((W.clsIn K fZ).any λcd=>cd.hasDict&&rY cd.mro)=true)(S6:W.findIn K (.ref fZ) "__setattr__"=some (some (.builtin "object.__setattr__")))(S7:W.hasDictIn K fZ=true)(Du:W.findIn K (.ref fZ) "row"=some none)(wI:W.findIn K (.ref fZ) "column"=some none)(JZ:W.findIn K (.ref cQ) "__init__"=some (some (.ref fU)))(Ag:W.isFn K (.ref fU)=true)(Ah:K.lookup fU=some ⟨Yu,Yr,.func (W.fnOf "__init__" "Lacking.__init__" (cX jg) (cH jg) (aH jg) .none Yv Yw Yx Ys JX Yy),Yt⟩)(Ai:W.codeIn K JX "Lacking.__init__"=true)(Aj:W.keepIn K (.ref fU)=true)(yC:wV K cQ fU=true)(Ak:W.keepIn K (.ref cQ)=true)(Al:((W.clsIn K cQ).any λcd=>cd.hasDict&&rY cd.mro)=true)(Am:W.findIn K (.ref cQ) "__setattr__"=some (some (.builtin "object.__setattr__")))(Ao:W.hasDictIn K cQ=true)(tG:W.findIn K (.ref cQ) "tile"=some none)(Nx:W.findIn K (.ref dw) "__init__"=some (some (.ref gW)))(Dv:W.isFn K (.ref gW)=true)(Dw:K.lookup gW=some ⟨aaZ,aaV,.func (W.fnOf "__init__" "NoWord.__init__" (cX jL) (cH jL) (aH jL) .none aa0 aa1 aa2 aaW Nv aa3),I⟩)(Dy:W.codeIn K Nv "NoWord.__init__"=true)(Dz:W.keepIn K (.ref gW)=true)(Aq:wV K dw gW=true)(DG:W.keepIn K (.ref dw)=true)(DK:((W.clsIn K dw).any λcd=>cd.hasDict&&rY cd.mro)=true)(DN:W.findIn K (.ref dw) "__setattr__"=some (some (.builtin "object.__setattr__")))(DP:W.hasDictIn K dw=true)(uG:W.findIn K (.ref dw) "word"=some none)(hn:W.specialIn K (.builtin "object.__class__") "__get__"=some (some (.builtin "getset_descriptor.__get__")))(ht:W.takesIn K (.builtin "object.__class__")=some true)(Hv:(W.clsIn K dI).isSome=true)(Hw:W.findIn K (.ref dI) "__getattribute__"=some (some (.builtin "BaseException.__getattribute__")))(Hx:W.findIn K (.ref dI) "__getattr__"=some none)(Hy:W.findIn K (.ref dI) "__class__"=some (some (.builtin "object.__class__")))(Av:W.mroIn K dI (.type "object")=some true)(Hz:W.mroIn K dI (.type "BaseException")=some true)(S8:(W.clsIn K fZ).isSome=true)(S9:W.findIn K (.ref fZ) "__getattribute__"=some (some (.builtin "BaseException.__getattribute__")))(S_:W.findIn K (.ref fZ) "__getattr__"=some none)(Tc:W.findIn K (.ref fZ) "__class__"=some (some (.builtin "object.__class__")))(J0:W.mroIn K fZ (.type "object")=some true)(Td:W.mroIn K fZ (.type "BaseException")=some true)(Aw:(W.clsIn K cQ).isSome=true)(Ax:W.findIn K (.ref cQ) "__getattribute__"=some (some (.builtin "BaseException.__getattribute__")))(Ay:W.findIn K (.ref cQ) "__getattr__"=some none)(Az:W.findIn K (.ref cQ) "__class__"=some (some (.builtin "object.__class__")))(vB:W.mroIn K cQ (.type "object")=some true)(A_:W.mroIn K cQ (.type "BaseException")=some true)(DQ:(W.clsIn K dw).isSome=true)(DR:W.findIn K (.ref dw) "__getattribute__"=some (some (.builtin "BaseException.__getattribute__")))(DW:W.findIn K (.ref dw) "__getattr__"=some none)(DX:W.findIn K (.ref dw) "__class__"=some (some (.builtin "object.__class__")))(xW:W.mroIn K dw (.type "object")=some true)(DY:W.mroIn K dw (.type "BaseException")=some true)(g2:W.specialIn K (.ref CR) "__getattribute__"=some (some (.builtin "type.__getattribute__")))(rd:W.readsIn K CR (.type "type")=true)(fc:W.findCls K (.ref CR) (.type "type") "__init__"=some (.val (.builtin "ValueError.__init__")))
  : ∃fY dI gF fZ jo cQ dw CR iW mz fU gW oK uz lD mW,acG K mg fY dI gF fZ jo cQ dw CR iW mz fU gW oK uz lD mW:=by
 let Fe:=fB (st:=j4) Hl Ho Hq;let O9:=fB (st:=ni) SM SN SQ;let xU:=fB (st:=jg) Ah Ai Aj;let Ad:=fB (st:=jL) Dw Dy Dz;let Fd:pB K mg "Taken" dI iW ["row","column"]:=⟨di X G Fg,⟨Ds,Hj,Hr⟩,⟨Hs,Av,Ht⟩,⟨Hv,Hw,Hx,Hy,hn,ht,Av,Hz⟩,Hu,λg j=>by
  rcases bX.mp j with z|z;.rw[z];show yx
  .rw[aS.mp z];show tE⟩
 let O8:pB K mg "Gap" fZ mz ["row","column"]:=⟨di X G O_,⟨Lg,SJ,SX⟩,⟨S5,J0,S6⟩,⟨S8,S9,S_,Tc,hn,ht,J0,Td⟩,S7,λg j=>by
  rcases bX.mp j with z|z;.rw[z];show Du
  .rw[aS.mp z];show wI⟩
 let xT:pB K mg "Lacking" cQ fU ["tile"]:=⟨di X G xV,⟨yC,Ag,Ak⟩,⟨Al,vB,Am⟩,⟨Aw,Ax,Ay,Az,hn,ht,vB,A_⟩,Ao,λg j=>by rw[aS.mp j];show tG⟩
 let Ac:pB K mg "NoWord" dw gW ["word"]:=⟨di X G Af,⟨Aq,Dv,DG⟩,⟨DK,xW,DN⟩,⟨DQ,DR,DW,DX,hn,ht,xW,DY⟩,DP,λg j=>by rw[aS.mp j];show uG⟩
 show JS fY dI gF fZ jo cQ dw CR ⟨iW,mz,fU,gW,_,_,_,_,⟨di X G Ae,di X G Fg,di X G Dp,di X G O_,di X G La,di X G xV,di X G Af,di X G aR,⟨g2,rd,fc⟩,rG,uD,zE,Fd,Fe,Fe.binds (ps:=["self","row","column"]) (λ_ _ _ _ _ _ us hl=>L2.e3 (λ_ _ _=>rfl) us hl),O8,O9,O9.binds (ps:=["self","row","column"]) (λ_ _ _ _ _ _ us hl=>L2.e3 (λ_ _ _=>rfl) us hl),xT,xU,xU.binds (ps:=["self","tile"]) (λ_ _ _ _ _ _ us hl=>L2.e2 (λ_ _=>rfl) us hl),Ac,Ad,Ad.binds (ps:=["self","word"]) (λ_ _ _ _ _ _ us hl=>L2.e2 (λ_ _=>rfl) us hl),⟨Lb,Dq,Yz,Le,Dr,Hi⟩⟩⟩
def aeW (G:mg "len"=none)(d_:mg "range"=none)(J:mg "tuple"=none)(ig:mg "list"=none)(Dd:mg "dict"=none)(gU:mg "sorted"=none)(Y:mg "isinstance"=none)(oF:mg "bool"=none)(n_:mg "int"=none)(vp:mg "str"=none)(O:mg "all"=none)(xO:mg "any"=none)(Jt:mg "zip"=none)(rF:mg "min"=none)(xQ:mg "max"=none)(JG:mg "sum"=none)(pP:mg "enumerate"=none)(fX:∃t,mg "FREE"=some (.str (S [46]) t))(za:∃t,mg "MARKS"=some (.str (S MK) t))(yX:∃t,mg "MOST"=some (.int 9 t))(oH:∃t,mg "MOST_TILES"=some (.int 7 t))(vC:aM K mg "is_whole" qM ["thing"])(D_:aM K mg "is_sign" wW ["thing"])(yD:aM K mg "letter_of" tM ["sign"])(Ea:aM K mg "tile_of" wX ["sign"])(Eb:aM K mg "left_of" wY ["rack","signs"])(Ba:aM K mg "is_block" u9 ["thing"])(Bb:aM K mg "are_rows" u_ ["thing"])(yE:aM K mg "are_marks" tR ["thing"])(rH:aM K mg "is_cell_of" oA ["rows","row","column"])(uH:aM K mg "is_begin_of" pR ["rows","thing"])(Bc:aM K mg "is_board" vf ["rows","marks","begin"])(uI:aM K mg "column_text" pU ["rows","column"])(yF:aM K mg "is_triple" tU ["board","thing"])(yG:aM K mg "is_laying" tV ["board","thing"])(Bf:aM K mg "cells_of" vg ["laying"])(ud:aM K mg "is_across" pJ ["laying"])(Ec:aM K mg "is_down" wZ ["laying"])(oM:aM K mg "is_next_to_taken" lq ["board","row","column"])(HJ:aM K mg "formed" zR ["board","laying"])(wJ:aM K mg "check_free" qN ["board","laying"])(ql:aM K mg "check_straight" nq ["laying"])(wK:aM K mg "check_gaps" qO ["board","laying"])(tH:aM K mg "check_joined" oR ["board","laying"])(uJ:aM K mg "check_words" pY ["board","book","laying"])(tK:aM K mg "check_laying" oU ["board","book","rack","laying"])(Bg:aM K mg "worth_of" vh ["worths","sign"])(Ed:aM K mg "cell_in" w5 ["word","place"])(uK:aM K mg "word_points" pZ ["board","worths","laying","word"])(Bh:aM K mg "bonus_of" vm ["bonus","laying"])(yH:aM K mg "points_of" tW ["board","worths","bonus","laying"])(uL:aM K mg "left_behind" qb ["rack","laying"])(yI:aM K mg "are_tiles" tX ["thing"])(Ef:aM K mg "is_deed" w6 ["thing"])(Bj:aM K mg "in_order" vo ["tiles"])(yJ:aM K mg "exchanged" tY ["things","place","thing"])(rJ:aM K mg "behind_laying" n6 ["stand","turn","size","laying","points"])(uM:aM K mg "behind_swap" qe ["stand","turn","tiles"])(Eh:aM K mg "is_word" xq ["text"])(wL:aM K mg "check_word" qQ ["text"])(Ei:aM K mg "_law_cell_at" xr ["_law_script","_law_k"])(HN:aM K mg "_law_stream" zT ["_law_cell","_law_many"])(Ej:aM K mg "_law_letters" xu ["_law_cell"])(Lh:aM K mg "_law_words" Er ["_law_cell","_law_letters_here"])(Tf:aM K mg "_law_rows" Jg ["_law_cell","_law_letters_here"])(Lj:aM K mg "_law_tiles" Es ["_law_cell","_law_letters_here","_law_many","_law_blanks"])(Lk:aM K mg "_law_parts" Et ["_law_script"])(Lp:aM K mg "_law_begun" Eu ["_law_parts_here"])(yK:aM K mg "_law_candidate" tZ ["_law_rows_here","_law_word","_law_place","_law_rack"])(Tg:aM K mg "_law_lets" Jh ["_law_board","_law_book","_law_rack","_law_laying_here"])(HS:aM K mg "_law_laying" zU ["_law_board","_law_book","_law_words_here","_law_rack","_law_cell"])(Ti:aM K mg "_law_deed" Ji ["_law_now","_law_book","_law_words_here","_law_cell"])(Fi:aM K mg "_law_taken" yV ["_law_rack","_law_tiles_here"])(Tj:aM K mg "_law_next" Jj ["_law_now","_law_parts_here","_law_deed_here"])(HW:aM K mg "_law_stands" zV ["_law_game","_law_now"])(Lq:aM K mg "_law_again" s_again ["_law_game","_law_parts_here","_law_begun_here","_law_deeds"]){o7 aeX aeY aeZ ae0 ae1:Addr}{acP acQ acR acS acT:FuncData}(D:Aa K mg o7 aeX aeY aeZ ae0 ae1 acP acQ acR acS acT){zF aht ahu ahv ahw:Addr}{ae2 ae3 ae4 ae5:FuncData}(I:Dm K mg zF aht ahu ahv ahw ae2 ae3 ae4 ae5){Wv ae6:Addr}{acU:FuncData}(Z:Ab K mg Wv ae6 acU){ahx ahy ahz ahA ahB ahC ahD ahE ahF ahG:Addr}{ae7 ae8 ae9 ae_ afa afb afc afd afe:FuncData}(j:Dn K mg ahx ahy ahz ahA ahB ahC ahD ahE ahF ahG ae7 ae8 ae9 ae_ afa afb afc afd afe){gl gw:Addr}{tb:Tok}(kl:mg "LETTER_MARKS"=some (.ref gl)/\∀P:Program,KDict P w K gl VD)(kw:mg "WORD_MARKS"=some (.ref gw)/\∀P:Program,KDict P w K gw VF)(zb:tb≠0/\mg "BLANK"=some (.str (S [63]) tb)){fY dI gF fZ jo cQ dw CR iW mz fU gW:Addr}{oK uz lD mW:FuncData}(R:acG K mg fY dI gF fZ jo cQ dw CR iW mz fU gW oK uz lD mW){f:Addr}{fd:FuncData}(F:dX K "law" "law" OD f fd):bZ P w K mg base dz 20 f fd ["_law_script"] (Ow K):=by let p1:=Xv (P:=P) (w:=w) (base:=base) D_ G vp Y;let p2:=TY (P:=P) (w:=w) (base:=base) vC n_ oF Y;let p3:=T3 (P:=P) (w:=w) (base:=base) Ba G J vp O Y yX;let p4:=T4 Bb O fX p3 p1;let p5:=Qs yE O za p3;let p6:=NZ rH G p2;let p7:=Kp uH G J Y p6;let p8:=T6 Bc G p4 p5 p7;let p9:=Kr (P:=P) (w:=w) (base:=base) uI;let g0:=N6 D.F0 D.T p8;let g1:=aii D.F1 D.T fX p6;let g2:=XF (P:=P) (w:=w) (base:=base) D.F2 D.T O fX;let g3:=agL D.F3 D.T G fX p9;let g4:=aem D.F4 D.T ig J D.uN D.M g0 D.b0;let w1:=XR (P:=P) (w:=w) (base:=base) Eh G O;let w2:=Oc wL w1;let k0:=aew I.F0 I.T w2;let k1:=agQ (P:=P) (w:=w) (mg:=mg) (base:=base) I.F1 I.T;let k2:=ab7 (P:=P) (w:=w) (base:=base) I.F2 I.T gU J;let k3:=aeD I.F3 I.T I.uN I.M k0 I.b0 I.m2 k2 I.b2;let x4:=Qv (P:=P) (w:=w) (base:=base) ud O;let x5:=aai HJ G J D.T D.m4 g4 D.b4 D.m3 g3 D.b3 x4;let y1:=Qy (P:=P) (w:=w) (base:=base) vC n_ oF Y;let y2:=Kw rH G y1;let y3:=Qz yF G J Y D.T y2 p1;let y4:=Ua (P:=P) (w:=w) (base:=base) Bf;let y5:=QD yG G J Y O Jt oH y3 y4;let e1:=aeo (P:=P) (w:=w) (base:=base) R.Fe R.mR R.I R.Fd;let e2:=agN (P:=P) (w:=w) (base:=base) R.O9 R.mR R.I R.O8;let e3:=X3 (P:=P) (w:=w) (base:=base) R.xU R.mR R.I R.xT;let e4:=aas (P:=P) (w:=w) (base:=base) R.Ad R.mR R.I R.Ac;let z1:=N8 (P:=P) (w:=w) (base:=base) ud O;let z2:=XJ (P:=P) (w:=w) (base:=base) Ec O;let z3:=N_ oM xO fX D.T D.m1 g1 D.b1;let z4:=QH (P:=P) (w:=w) (base:=base) yD;let z5:=XS (P:=P) (w:=w) (base:=base) Ea;let q1:=Oa wJ fX D.T D.m1 g1 D.b1 R.Fd e1 R.Kz;let q2:=Ft ql R.aaU R.uD z1 z2;let q3:=Ob wK d_ fX D.T D.m1 g1 D.b1 D.m4 g4 D.b4 R.O8 e2 R.XQ;let q4:=Jx tH xO D.T D.m2 g2 D.b2 R.aeU R.zE y4 z3;let q5:=X4 Eb ig gU R.xT e3 R.CP z5;let q6:=KH uJ I.T I.m1 k1 I.b1 R.Ac e4 R.zZ x5 z4;let q7:=JC (c:=⟨fY,dI,gF,fZ,jo,cQ,dw⟩) tK R.Yq R.rG y5 q1 q2 q3 q4 q5 q6;let t1:=Yb (P:=P) (w:=w) (base:=base) Ed;let t2:=Uh (P:=P) (w:=w) (base:=base) Bg;let t3:=aav uK pP D.T kl.1 kw.1 (kl.2 P) (kw.2 P) y4 t1 t2;let t4:=Ui (P:=P) (w:=w) (base:=base) Bh G;let t5:=Rj yH JG x5 t3 t4;let u1:=Uj (P:=P) (w:=w) (base:=base) Bj gU;let u2:=Ro (P:=P) (w:=w) (base:=base) yJ;let u3:=KZ uL q5;let u4:=Rr (P:=P) (w:=w) (base:=base) yI Y vp O ⟨tb,zb.2⟩;let u5:=Yi Ef Y J G u4;let s0:=Og (P:=P) (w:=w) (mg:=mg) (base:=base) Z.F0 Z.T;let u6:=G7 rJ xQ G D.T Z.T Z.uN Z.M s0 Z.b0 D.m4 g4 D.b4 u3 u1 u2;let u7:=K4 (C:=o7) uM G ⟨tb,zb⟩ Z.T Z.uN Z.M s0 Z.b0 q5 u1 u2;let a3:=Rv (P:=P) (w:=w) (mg:=mg) (base:=base) (C:=o7) (CB:=zF) j.F3 j.T Z.T;let a4:=Rw (P:=P) (w:=w) (mg:=mg) (base:=base) (C:=o7) (CB:=zF) j.F4 j.T Z.T;let a5:=Yj (P:=P) (w:=w) (mg:=mg) (base:=base) (C:=o7) (CB:=zF) j.F5 j.T Z.T;let a6:=Oi (P:=P) (w:=w) (mg:=mg) (base:=base) (C:=o7) (CB:=zF) j.F6 j.T Z.T;let a7:=aeB j.F7 j.T G j.m4 a4 j.b4;let a8:=Yk j.F8 j.T G j.m4 a4 j.b4 j.m5 a5 j.b5;let a2:=aeC (P:=P) (w:=w) (mg:=mg) (base:=base) (C:=o7) (CS:=Wv) (CB:=zF) j.F2 j.T;let a1:=aip j.F1 j.T Z.T j.m8 a8 j.b8 j.m7 a7 j.b7 u5 q7 t5 u6 u7;let a0:=RM (C:=o7) j.F0 j.T I.T Dd J G I.m3 k3 I.b3 Z.uN Z.M s0 Z.b0 u1;let l1:=ach (P:=P) (w:=w) (base:=base) Fi ig;let l2:=aaF (P:=P) (w:=w) (base:=base) Fi ig;let l3:=aeE Tg R.mR R.M q7;let l4:=aaH (P:=P) (w:=w) (base:=base) HN d_;let l5:=Yl (P:=P) (w:=w) (base:=base) Ej d_;let l6:=K8 Lh d_ G l4;let l7:=aci Lj G l4;let l8:=aeG Tf d_ G J l4;let c1:=Xx (P:=P) (w:=w) (base:=base) Ei G;let l9:=acp Lk d_ G J rF D.uN D.M g0 D.b0 c1 l5 l6 l8 l7;let la:=acr (P:=P) (w:=w) (base:=base) (C:=o7) Lp J gU G;let lb:=R4 (P:=P) (w:=w) (base:=base) yK G ig J n_;let lc:=aaN HS G rF D.T D.m2 g2 D.b2 l4 lb l3;let ld:=aeJ Ti G rF l4 lc;let le:=aeL Tj G ig gU n_ xQ D.T D.m4 g4 D.b4 l1 l2 t5;let lf:=aaP HW G Y oF D.T j.T j.m3 a3 j.b3 j.m4 a4 j.b4 j.m5 a5 j.b5 j.m6 a6 j.b6 j.m8 a8 j.b8 j.m7 a7 j.b7;let lg:=acA Lq j.T j.m1 a1 j.b1 le lf;show ahd F G d_ j.T I.uN I.M k0 I.b0 j.uN j.M a0 j.b0 j.m2 a2 j.b2 j.m1 a1 j.b1 l9 la ld le lf lg
end
end My
namespace PySem.W.Fast
abbrev U:=True
def tw4665248388498225351:=U
def tw4390657081886757920:=U
def tw9699116244943532773:=U
def tw433279755710884904:=U
def tw9341938749335239317:=U
def tw14908762768541913331:=U
def tw7053119680060619937:=U
def tw8217936564770019685:=U
def tw9881952343299517639:=U
def tw13290072457981853060:=U
def tw9138231839812649981:=U
def tw16622108638299184170:=U
def tw5009770517969332798:=U
def tw3435267351113395272:=U
def tw11663741899494642855:=U
def tw14470470577498336597:=U
def tw5735764970387999097:=U
def tw6569908182601626602:=U
def tw11003682206817725329:=U
def tw462578761884774194:=U
def tw12736629164804001521:=U
def tw9785145952224736395:=U
def tw5719375757351863846:=U
def tw14709593557978326503:=U
def tw2268126591795608023:=U
def tw9888226888619386608:=U
def tw6937553199339168319:=U
def tw9798425789472078558:=U
def tw11232901015630275201:=U
def tw14417676946483350415:=U
def tw5081401294464528409:=U
def tw7283658601855510943:=U
def tw13333175591793857407:=U
def tw15565862091852465262:=U
def tw3724275350981711304:=U
def tw10307498659700875989:=U
def tw14913758684762318522:=U
def tw2206225323553286900:=U
def tw8311776159396465078:=U
def tw7385226645755775891:=U
def tw12364754151909077821:=U
def tw8186775378558920182:=U
def tw3381814007287750021:=U
def tw17124697192673396736:=U
def tw6396824101636224811:=U
def tw9517197434473727717:=U
def tw2652271428138080986:=U
def tw12595670204681354062:=U
def tw16903137574938984524:=U
def tw7460652865169296406:=U
def tw13937711869630810999:=U
def tw2890205568726879101:=U
def tw1850493719308669262:=U
def tw10266949898759875256:=U
def tw1813126687655079938:=U
def tw5761902440675312792:=U
def tw12185426622901484738:=U
def tw9790674105246969343:=U
def tw12811612583373565987:=U
def tw12936335039915264079:=U
def tw8460568499472073497:=U
def tw5763680076277170622:=U
def tw5081291408966413473:=U
def tw6863654671069514436:=U
def tw1719590504412195224:=U
def tw5259350786011194811:=U
def tw380941532926602503:=U
def tw17210695381380196023:=U
def tw5177986081486227897:=U
def tw14367811076945858180:=U
def tw16964773544144355516:=U
def tw12792331684303336829:=U
def tw15817873917156477249:=U
def tw17421638608499177717:=U
def tw11850596723749283453:=U
def tw1103241889503162727:=U
def tw10778573972188764981:=U
def tw11512623776098215785:=U
def tw4842450109233527465:=U
def tw14335999231973711552:=U
def tw17968794931455176025:=U
def tw1766917967515307619:=U
def tw9693125230904076589:=U
def tw17991474659628151669:=U
def tw4603260163578702599:=U
def tw16660673380669763546:=U
def tw16640298941909346695:=U
def tw1394779130026329161:=U
def tw15236087200255088826:=U
def tw3893552697924670556:=U
def tw14369204180243457324:=U
def tw287470788793123302:=U
def tw17397978300532291476:=U
def tw9191543144041058338:=U
def tw3315520637862205729:=U
def tw13370961498773403164:=U
def tw2538086562038343905:=U
def tw2782678091206240833:=U
def tw6814946873797815169:=U
def tw13722739117788149075:=U
def tw1724447243149994648:=U
def tw11993309129875232582:=U
def tw4869791348637735957:=U
def tw11379159768020984188:=U
def tw2804038189544303321:=U
def tw18111717972033068643:=U
def tw7596931534930095332:=U
def tw3472308742665483159:=U
def tw6045404830653575587:=U
def tw16441778402090809751:=U
def tw5488312232576224013:=U
def tw14886280421078181449:=U
def tw11782799742653203730:=U
def tw11676692713418594512:=U
def tw7675844572233830943:=U
def tw14329248591990144424:=U
def tw15342624684800311346:=U
def tw10454578515370259517:=U
def tw10102580364007285604:=U
def tw9730254630302103842:=U
def tw6712259553586338821:=U
def tw15979154970296186838:=U
def tw15634621718590996259:=U
def tw5694020524153358274:=U
def tw15752801111748618585:=U
def tw15955087463908064051:=U
def tw16929197937028892371:=U
def tw10816324238083854130:=U
def tw6974074793002957664:=U
def tw869270465864157738:=U
def tw17815982874963332208:=U
def tw2576956697419846240:=U
def tw5983677232830259680:=U
def tw288084386186272225:=U
def tw7970685682851609023:=U
def tw11606785162796935196:=U
def tw10811629343842678421:=U
def tw3577348554495202128:=U
def tw5289321540247431652:=U
def tw9946145251378990056:=U
def tw12501403805164035588:=U
def tw17887669347368612896:=U
def tw14524411405586839314:=U
def tw2807148634345330484:=U
def tw5420309925760152984:=U
def tw2449803387797463301:=U
def tw9339345372565053772:=U
def tw1861540102522168622:=U
def tw11315577515035080293:=U
def tw14036808636630878654:=U
def tw3765630695546954739:=U
def tw9190990807363991808:=U
def tw13526574579795281083:=U
def tw18332185287208585091:=U
def tw2077333535859981493:=U
def tw4904479276172725542:=U
def tw2079436400546463216:=U
def tw17630531689113340374:=U
def tw6576163490609551837:=U
def tw5030693657853371028:=U
def tw220476291699139457:=U
def tw9199411176428143790:=U
def tw2852968463594911812:=U
def tw16358498363701312526:=U
def tw16459410893284684172:=U
def tw12284853643307270596:=U
def tw10821152850882373335:=U
def tw9840907930654273459:=U
def tw18189676619601434285:=U
def tw12900322353463308680:=U
def tw15768350431189524272:=U
def tw7484378495151293814:=U
def tw5103720875390110165:=U
def tw5309658603957030612:=U
def tw18144463166077008650:=U
def tw4096650233705300804:=U
def tw1456232534240908124:=U
def tw4416048757086754193:=U
def tw5237997156008542781:=U
def tw15746460869462825438:=U
def tw15368418613959310898:=U
def tw11976994595263129805:=U
def tw7052188299278405225:=U
def tw2998193831256728212:=U
def tw3172504982723021991:=U
def tw3687031109722534208:=U
def tw14381681771457730121:=U
def tw6503579610338256781:=U
def tw11586037800612958624:=U
def tw4215068118251584051:=U
def tw11759088682560006111:=U
def tw11852657327004652007:=U
def tw15857133167685485131:=U
def tw16195641924201125934:=U
def tw11416365965386344378:=U
def tw3315886707189986835:=U
def tw6142788960377514456:=U
def tw17417946168346731688:=U
def tw5258589197843315350:=U
def tw17235864538660019593:=U
def tw3295422163268389917:=U
def tw280363233688627298:=U
def tw4534156007493536252:=U
def tw13558060983205210903:=U
def tw5600772704377073525:=U
def tw7392553855786643064:=U
def tw5580377473756827438:=U
def tw14791205288998395847:=U
def tw850460500786715455:=U
def tw6500020067632379892:=U
def tw11355451091175993500:=U
def tw16904711471874978767:=U
def tw1863747099417407400:=U
def tw12469636982184225303:=U
def tw783635609341281771:=U
def tw9612706272044326191:=U
def tw3052363866378470166:=U
def tw14251203326440070794:=U
def tw7152694374515295407:=U
def tw660811177951751615:=U
def tw6515042951906988874:=U
def tw14501136453452597882:=U
def tw5158842814202999552:=U
def tw11772678161839267556:=U
def tw12247781695852049606:=U
def tw8215273798137499945:=U
def tw16747880457060813855:=U
def tw11104082381902648905:=U
def tw8879799881125349494:=U
def tw16543670406799540205:=U
def tw14685037305739317723:=U
def tw14460127276875651561:=U
def tw11560937297100689059:=U
def tw1076884589462766043:=U
def tw1797148111243120604:=U
def tw12519622993138626770:=U
def tw18161473177013117782:=U
def tw10763078168381452063:=U
def tw1696637831659087714:=U
def tw1529709733455579727:=U
def tw8417399845045153984:=U
def tw17237084945184952238:=U
def tw4404717329007747218:=U
def tw4541805966576170188:=U
def tw11726665238193552137:=U
def tw14135416265314178562:=U
def tw15139426229437515560:=U
def tw464173579029515735:=U
def tw11269725395636327826:=U
def tw15331178377570128716:=U
def tw11545101615156176532:=U
def tw9678467017527920018:=U
def tw15302530547569362693:=U
def tw3929202884188581968:=U
def tw296918816955674995:=U
def tw15193906789127965539:=U
def tw9301795828124784725:=U
def tw13151720261375631961:=U
def tw7522967879451081844:=U
def tw3451930796804237581:=U
def tw3074044618680244304:=U
def tw1580698028516832027:=U
def tw10469302910437699490:=U
def tw1627886142708023300:=U
def tw15869301932637819944:=U
def tw9998752733362754112:=U
def tw7134899277195445801:=U
def tw16644058635123064826:=U
def tw13837582776353416748:=U
def tw5579209131615650834:=U
def tw2469566038022956999:=U
def tw17656380199634476629:=U
def tw3601180439323072240:=U
def tw9300615004772975238:=U
def tw11369985498569785164:=U
def tw14831783327680863134:=U
def tw16780020891685368004:=U
def tw14630728408536140654:=U
def tw15851080768731988947:=U
def tw8589778702785869518:=U
def tw3838573709794496189:=U
def tw16951544482843225491:=U
def tw15548200080635940524:=U
def tw15286832018500790524:=U
def tw14334096981603740923:=U
def tw12835862600605113053:=U
def tw11089158423642118366:=U
def tw18269166537981122739:=U
def tw4871241193824673896:=U
def tw12600136161810194000:=U
def tw17506087585808937363:=U
def tw13258581755145134205:=U
def tw6295746736283101176:=U
def tw13958551390153255596:=U
def tw4953302085043508213:=U
def tw17059043229968283088:=U
def tw2480861936777317182:=U
def tw1775039643561147442:=U
def tw15086558958922043458:=U
def tw4432144849109963078:=U
def tw15830999505295676892:=U
def tw3380005251792038081:=U
def tw2022131622353371150:=U
def tw8695934157999021460:=U
def tw11754186909652160286:=U
def tw8611397667134595843:=U
def tw16785783299795940924:=U
def tw12158933725051959445:=U
def tw18204138563944899505:=U
def tw12420572722586177348:=U
def tw10431448567100215079:=U
def tw2926611964156951168:=U
def tw4078930747395760837:=U
def tw12111167135659292067:=U
def tw4807850226661623915:=U
def tw2445130831087797869:=U
def tw12101573776614785467:=U
def tw7564054156211561435:=U
def tw11420584862654577731:=U
def tw17779126944852538152:=U
def tw9179947819352052923:=U
def tw9934924243600398903:=U
def tw15598625196312839558:=U
def tw15781455384648435929:=U
def tw6077395526069988847:=U
def tw1053601458357077785:=U
def tw14464777392292899193:=U
def tw12907424686405789978:=U
def tw8421383682756785551:=U
def tw2439103235890005789:=U
def tw13927139594469094350:=U
def tw5222283251107813809:=U
def tw3438542231499905292:=U
def tw16197410783099114650:=U
def tw11506818063307161349:=U
def tw7798854784850155809:=U
def tw16240977928371526137:=U
def tw7767322159025912835:=U
def tw7985586047772041183:=U
def tw6357391572752826909:=U
def tw13683461386477255529:=U
def tw10138842048184058739:=U
def tw11157409626651093380:=U
def tw14145897681606128448:=U
def tw11670716689766051794:=U
def tw10598806461674696464:=U
def tw15814083419760742797:=U
def tw12480686382104183568:=U
def tw7369905985414592735:=U
def tw153422426014347450:=U
def tw10538606425543525461:=U
def tw234685013722473005:=U
def tw11118261201999948853:=U
def tw6590339605681271445:=U
def tw15110205246893906091:=U
def tw12758973108382123749:=U
def tw8603191477247284982:=U
def tw12849773288318120922:=U
def tw8343548507677903857:=U
def tw14781635239984999729:=U
def tw8369972051134795632:=U
def tw4830702688129954373:=U
def tw18027003880309581789:=U
def tw11138113498125712913:=U
def tw10575903103040437306:=U
def tw2540155909586818995:=U
def tw16830762866751627956:=U
def tw14644239172412093637:=U
def tw7083419348349695997:=U
def tw16474156500812630913:=U
def tw15265861486979197329:=U
def tw13203394436415884452:=U
def tw12250590769155429700:=U
def tw13003209331268100267:=U
def tw10756359119568569865:=U
def tw10486565620569665729:=U
def tw5837165891110482603:=U
def tw2394807826457342677:=U
def tw15615893161543655616:=U
def tw14461693317918462074:=U
def tw12885267908664976943:=U
def tw14666908479161620914:=U
def tw16225400811290757170:=U
def tw14660081304944514707:=U
def tw11428831253862185947:=U
def tw13220602863359078582:=U
def tw11788562569487299907:=U
def tw9687788245441541111:=U
def tw8739816328168731220:=U
def tw7256826176349339158:=U
def tw6031581168308567960:=U
def tw3319675322180957195:=U
def tw10567151451794367394:=U
def tw981027653996322208:=U
def tw7591495589262192372:=U
def tw5242461724310777393:=U
def tw3979367161598009722:=U
def tw2091763722956723075:=U
def tw18301515142142505512:=U
def tw16583294743886243509:=U
def tw7787094819927417246:=U
def tw16121999857590788854:=U
def tw8796784017396490642:=U
def tw7545856211239440893:=U
def tw1662309625133192945:=U
def tw4521572661546326664:=U
def tw15271575868021114309:=U
def tw12402973773773040339:=U
def tw8863112032030830606:=U
def tw6854489186786047009:=U
def tw401395857868831159:=U
def tw14344072344697403032:=U
def tw14155046040043484506:=U
def tw12324234056245102081:=U
def tw877089968384042423:=U
def tw15948755209808361767:=U
def tw5176448698943646711:=U
def tw6285280815788073923:=U
def tw3863528466387457757:=U
def tw17137501718287914391:=U
def tw13568340912929243753:=U
def tw5528517292697459479:=U
def tw5053663044587864841:=U
def tw8276734870562208296:=U
def tw3870791019093360620:=U
def tw4942874712938504074:=U
def tw4251585094643496947:=U
def tw11807798996893655426:=U
def tw2883774762204046654:=U
def tw7069220420869867070:=U
def tw4783869219689196729:=U
def tw8699871902014922496:=U
def tw11164023331582955829:=U
def tw9431501627105948907:=U
def tw8347581173192749299:=U
def tw14878700211309671781:=U
def tw12272151784990712352:=U
def tw11553462045441829128:=U
def tw1444414388310178866:=U
def tw5990422483077311083:=U
def tw3324625003480912636:=U
def tw6317387322410934857:=U
def tw14577228190806977109:=U
def tw13765599089236369219:=U
def tw8841769243563932658:=U
def tw1522092932650478103:=U
def tw3019767997894992429:=U
def tw17488778891675554159:=U
def tw8494472169785188696:=U
def tw91206895033335182:=U
def tw15607659331737946625:=U
def tw106540141094981971:=U
def tw16902185783919251503:=U
def tw8912844847504016791:=U
def tw6337798865128882141:=U
def tw15772092528775637410:=U
def tw15255350796998759323:=U
def tw9581760456312881188:=U
def tw5566174340510577069:=U
def tw11595071571922044664:=U
def tw11189359348268421300:=U
def tw10807948936075370370:=U
def tw17038287560548612065:=U
def tw13470681536679965619:=U
def tw947522263464925856:=U
def tw6568782666347773714:=U
def tw3653674127824763687:=U
def tw3552906155628324422:=U
def tw13917869911576920724:=U
def tw9819672991060749661:=U
def tw6009601366786252355:=U
def tw3758867566209842804:=U
def tw304560041590667145:=U
def tw2976990560161868725:=U
def tw2919512835041713671:=U
def tw187900312869593848:=U
def tw16900448112951386844:=U
def tw15364541739874396678:=U
def tw14692151026080396912:=U
def tw14401114312781846650:=U
def tw13893764615374505318:=U
def tw12454344872016461955:=U
def tw11984757642257738163:=U
def tw10739808343504899900:=U
def tw8843525761976432215:=U
def tw4335389113822303774:=U
def tw13251574868707433054:=U
def tw6470085792029351767:=U
def tw16562575175412648670:=U
def tw16104330284049936916:=U
def tw9945686614454646325:=U
def tw465181004745026502:=U
def tw3751710227970956890:=U
def tw15824407432418115283:=U
def tw15276002741659382717:=U
def tw15194030257071521940:=U
def tw13180138287566623442:=U
def tw7802327799206000160:=U
def tw2933868302253405034:=U
def tw5480837675153172069:=U
def tw726495888634473227:=U
def tw7110342726633923547:=U
def tw5012660073068702025:=U
def tw1336172106752414312:=U
def tw8684032150754157614:=U
def tw7659622328227624112:=U
def tw7446415597417622357:=U
def tw6855324492349400949:=U
def tw5899234578284602155:=U
def tw5567505544386430718:=U
def tw3500255165592270399:=U
def tw16471890725252538293:=U
def tw1554381637155440870:=U
def tw15513502380918894304:=U
def tw14822016564558258593:=U
def tw14113449361849726426:=U
def tw13607504870660540998:=U
def tw12759886650637863754:=U
def tw11576649363395848789:=U
def tw809941748116199332:=U
def tw14791993503975435508:=U
def tw8046324228895316073:=U
def tw7373734297685640259:=U
def tw7261495456671248181:=U
def tw5927904871046780573:=U
def tw5817662650798407597:=U
def tw4614345886489872028:=U
def tw4497909175462052322:=U
def tw37244220679408666:=U
def tw18086675765031858717:=U
def tw17314006378934115482:=U
def tw1662288275619471966:=U
def tw16540344618207437256:=U
def tw15622350505323242691:=U
def tw1535731418896523651:=U
def tw15312140782463784859:=U
def tw1344240673029240918:=U
def tw12068348076030242161:=U
def tw10068854810288129034:=U
def tw16923791987676891302:=U
def tw9266113297557804691:=U
def tw8701214758006763805:=U
def tw7548473464503307903:=U
def tw7509128540701141276:=U
def tw4615063111222751949:=U
def tw2256557637796030242:=U
def tw17216686932146605039:=U
def tw16541291490396252492:=U
def tw1624118406040202974:=U
def tw14352657388252602604:=U
def tw13555569513067688653:=U
def tw13460668742633413615:=U
def tw13279060819981598553:=U
def tw13183366971679284922:=U
def tw12684526419082374442:=U
def tw12338660223569961834:=U
def tw12217471860987913397:=U
def tw1062492185333458304:=U
def tw7309354618562386080:=U
def tw6246203374055492099:=U
def tw5900562463606133187:=U
def tw5461562193615210871:=U
def tw5302665662754134934:=U
def tw4512776612676991309:=U
def tw433407118112113163:=U
def tw4019659847324972889:=U
def tw3820742785473354414:=U
def tw1645611721117604802:=U
def tw16062965871854791625:=U
def tw14810734492739411753:=U
def tw14502232885147438718:=U
def tw12463850682279014191:=U
def tw8988942139145213381:=U
def tw8921049941962104174:=U
def tw8191050336124878434:=U
def tw7855407451049566485:=U
def tw7791134373381392683:=U
def tw7693591958570428374:=U
def tw6950566683407546383:=U
def tw3736453914456792712:=U
def tw2352773781059615061:=U
def tw16088847321787876660:=U
def tw15783438058456451325:=U
def tw15656316657908776290:=U
def tw13392501163883151940:=U
def tw13101109519005278891:=U
def tw12753874136083088182:=U
def tw12254579100887171568:=U
def tw10357180980394050546:=U
def tw10252409511521985557:=U
def tw9943139262890051875:=U
def tw9900404976733018842:=U
def tw9893034251570672841:=U
def tw9876276498150546981:=U
def tw9842770293669263301:=U
def tw9816865738269283108:=U
def tw9779835987756247975:=U
def tw9445401187806359945:=U
def tw9415033808297924672:=U
def tw9386494880223670577:=U
def tw9372049401485100919:=U
def tw9348610982545870487:=U
def tw9344790373653891711:=U
def tw9078039839101033089:=U
def tw8973928654641121902:=U
def tw891746796810566604:=U
def tw8845673657833318463:=U
def tw8823384885569527977:=U
def tw8640427271811431116:=U
def tw8517313169385798414:=U
def tw8456128612651144187:=U
def tw7930643015176383435:=U
def tw7912432259651599375:=U
def tw7843719008636909180:=U
def tw7774774040641427572:=U
def tw7628223628911113155:=U
def tw7561828175164998360:=U
def tw7418766918489766568:=U
def tw7278805977411957889:=U
def tw7255247783034059646:=U
def tw7238544215794676306:=U
def tw7235686561278440021:=U
def tw715421083780470314:=U
def tw7070578737735674725:=U
def tw6809157763219621707:=U
def tw6706782499860940694:=U
def tw6663246419684822837:=U
def tw6593269408003362377:=U
def tw6311230852669023048:=U
def tw6268901311282874195:=U
def tw6199567529322665201:=U
def tw6198429641365852827:=U
def tw6193686914076326155:=U
def tw6160590907869285794:=U
def tw6154731484584087178:=U
def tw6062662072431828984:=U
def tw5988448850309370138:=U
def tw5951247117106442198:=U
def tw5823484056200752247:=U
def tw5671366958215015950:=U
def tw5613496394024132253:=U
def tw5439252517601378359:=U
def tw5393356383526213003:=U
def tw5110114136644785796:=U
def tw4863653872625570295:=U
def tw4819131878625109672:=U
def tw4748586828789235905:=U
def tw4684674937855994572:=U
def tw4565871865147479310:=U
def tw4459902083560497713:=U
def tw4459170061145182917:=U
def tw443553227405787852:=U
def tw4430949891798401959:=U
def tw3989165230789774016:=U
def tw3934769855650834985:=U
def tw3868735278407554561:=U
def tw3821663938057614676:=U
def tw3821455193352890815:=U
def tw3740245861164488900:=U
def tw3661298258665793752:=U
def tw3647117135450979490:=U
def tw3448038447893522995:=U
def tw3359612951551538533:=U
def tw31336748374957180:=U
def tw299864260735355627:=U
def tw2976324948092888137:=U
def tw2919015540994493157:=U
def tw2904751388046502701:=U
def tw2683556875223072592:=U
def tw251342827782305606:=U
def tw2444921245033521343:=U
def tw2271829170857079280:=U
def tw2243383787188141851:=U
def tw2201163846606542972:=U
def tw1950502911056312337:=U
def tw18352463758853157757:=U
def tw18276162310240357632:=U
def tw18165831941264411263:=U
def tw1815266655739766309:=U
def tw18142757372551528956:=U
def tw17498063633055392625:=U
def tw1705428061029441459:=U
def tw1705224872623280773:=U
def tw17017793352813251243:=U
def tw17014732368702582849:=U
def tw16981589432767818029:=U
def tw16931889225392878451:=U
def tw1689615535290969086:=U
def tw16798767913460657132:=U
def tw16792839386539239839:=U
def tw16760428672579700817:=U
def tw16594692457436757712:=U
def tw16529995630749513876:=U
def tw16458492141065000092:=U
def tw16319247329035167525:=U
def tw16311358357217968195:=U
def tw16220321967166093518:=U
def tw1600554292092406612:=U
def tw15979528406268847600:=U
def tw15940106495658839770:=U
def tw15831981222148558484:=U
def tw15663374571496319183:=U
def tw15639464951175534158:=U
def tw15601608895176267054:=U
def tw15594042365233528121:=U
def tw15491530598053204980:=U
def tw15198173591494239798:=U
def tw15058591962923499465:=U
def tw14935564952386249999:=U
def tw14858706574791602644:=U
def tw14858589346956526617:=U
def tw14781986062953493041:=U
def tw14715044020101755649:=U
def tw14654693802294982037:=U
def tw14451140574138846370:=U
def tw14447996181918918840:=U
def tw14308617030832838813:=U
def tw1427895619188239471:=U
def tw14276480781699920040:=U
def tw14147967031351496171:=U
def tw13947446143882493314:=U
def tw13837866945472594816:=U
def tw13789860239187775312:=U
def tw1376733047057144091:=U
def tw13764795515193874028:=U
def tw13712737074661335469:=U
def tw13589074866315768162:=U
def tw13547636130549218486:=U
def tw13441385194697581087:=U
def tw13388448371976019424:=U
def tw13379111438732458117:=U
def tw13376131289669684750:=U
def tw13309100180806942997:=U
def tw1318776351501820998:=U
def tw13177536239148588314:=U
def tw12959512878514645325:=U
def tw12711753460734489612:=U
def tw12552262125355932480:=U
def tw12470507143635021918:=U
def tw12432569368040498065:=U
def tw12362752515117477138:=U
def tw12320893451519235774:=U
def tw12304520006203402534:=U
def tw12258937575612310836:=U
def tw12129937140771692960:=U
def tw11910929818458616872:=U
def tw11907999844531586555:=U
def tw11894442853050461952:=U
def tw1187987758226687394:=U
def tw11538467074763538272:=U
def tw1145696310612251536:=U
def tw11394752073631161547:=U
def tw11346259880377721843:=U
def tw11302475397981848418:=U
def tw11290689767733579809:=U
def tw11283114999529002760:=U
def tw11251653176015072018:=U
def tw1118098963576219372:=U
def tw11033103836645508762:=U
def tw11008054920518230408:=U
def tw10923073982129882372:=U
def tw10791595257370086179:=U
def tw10717668791001023619:=U
def tw10684217346287061165:=U
def tw10628812146480295601:=U
def tw10605299582004776340:=U
def tw10491572202012598697:=U
def tw10374152407168025360:=U
def tw10331669541394838150:=U
def tw10203922158828771890:=U
def tw10083346960155961691:=U
end PySem.W.Fast
open PySem PySem.W PyProof.Rows
def L2.dK {K:W.Frag}{h:Heap}{mg:Str->Option Value}{name:Str}{st:Stmt}{ps:List Str}{f:Addr}{oc:Value}{od an:Option Addr}{osl:Array (Option Value)}{kV doc pm bG ct:Value}(X:K.In h)(G:h.Ns mainGlobals mg)(a:W.nsIn K mainGlobals name=some (some (.ref f)):=by k_is)(l:K.lookup f=some ⟨oc,od,.func (W.fnOf name name (L2.cX st) (L2.cH st) (L2.aH st) .none kV doc pm an bG ct),osl⟩:=by k_is)(c:W.codeIn K bG name=true:=by k_is)(k:W.keepIn K (.ref f)=true:=by k_is)(hb:∀(kV doc pm:Value) (an:Option Addr) (bG ct:Value) (us:List Value),us.length=ps.length->bindArgs (W.fnOf name name (L2.cX st) (L2.cH st) (L2.aH st) .none kV doc pm an bG ct) ⟨us,[]⟩=pure (ps.zip us):=by intro _ _ _ _ _ _ us hl;first|show(L2.e1 (λ_=>rfl) us hl)|show(L2.e2 (λ_ _=>rfl) us hl)|show(L2.e3 (λ_ _ _=>rfl) us hl)|show(L2.e4 (λ_ _ _ _=>rfl) us hl)|show(L2.e5 (λ_ _ _ _ _=>rfl) us hl)):L2.aM (L2.KOf X) mg name st ps:=L2.abz X G a l c k hb
set_option maxRecDepth 100000 in
set_option maxHeartbeats 0 in
theorem PySem.Challenge.cw_letterrack_k63_whole_forth_and_back_holds : PySem.Challenge.rw_letterrack_k63_whole_forth_and_back.Holds := by
 w_on;o_law;k_head;(case hw=>w_witness2)
 k_fill
 refine L2.ad0 (x:="_law_script") (l:=PySem.Challenge.rw_letterrack_k63_whole_forth_and_back) rfl rfl (λw h Y=>W.kIn_of Y) ?F
 case F=>
  intro w mg fa h KX G hmg;have bh:mg "len"=none:=by
   refine' c9 KX G ?z
   (case z=>k_is)
  have d_:mg "range"=none:=by
   refine' c9 KX G ?z
   (case z=>k_is)
  have cI:mg "tuple"=none:=by
   refine' c9 KX G ?z
   (case z=>k_is)
  have ig:mg "list"=none:=by
   refine' c9 KX G ?z
   (case z=>k_is)
  have Dd:mg "dict"=none:=by
   refine' c9 KX G ?z
   (case z=>k_is)
  have gU:mg "sorted"=none:=by
   refine' c9 KX G ?z
   (case z=>k_is)
  have bK:mg "isinstance"=none:=by
   refine' c9 KX G ?z
   (case z=>k_is)
  have oF:mg "bool"=none:=by
   refine' c9 KX G ?z
   (case z=>k_is)
  have n_:mg "int"=none:=by
   refine' c9 KX G ?z
   (case z=>k_is)
  have vp:mg "str"=none:=by
   refine' c9 KX G ?z
   (case z=>k_is)
  have fj:mg "all"=none:=by
   refine' c9 KX G ?z
   (case z=>k_is)
  have xO:mg "any"=none:=by
   refine' c9 KX G ?z
   (case z=>k_is)
  have Jt:mg "zip"=none:=by
   refine' c9 KX G ?z
   (case z=>k_is)
  have rF:mg "min"=none:=by
   refine' c9 KX G ?z
   (case z=>k_is)
  have xQ:mg "max"=none:=by
   refine' c9 KX G ?z
   (case z=>k_is)
  have JG:mg "sum"=none:=by
   refine' c9 KX G ?z
   (case z=>k_is)
  have pP:mg "enumerate"=none:=by
   refine' c9 KX G ?z
   (case z=>k_is)
  have fX:∃t,mg "FREE"=some (.str (L2.S [46]) t):=by
   refine' L2.P0 KX G ?z
   (case z=>k_is)
  have za:∃t,mg "MARKS"=some (.str (L2.S My.MK) t):=by
   refine' L2.P0 KX G ?z
   (case z=>k_is)
  have yX:∃t,mg "MOST"=some (.int 9 t):=by
   refine' L2.P_ KX G ?z
   (case z=>k_is)
  have oH:∃t,mg "MOST_TILES"=some (.int 7 t):=by
   refine' L2.P_ KX G ?z
   (case z=>k_is)
  have vC:L2.aM (L2.KOf KX) mg "is_whole" My.qM ["thing"]:=L2.dK KX G;have D_:L2.aM (L2.KOf KX) mg "is_sign" My.wW ["thing"]:=L2.dK KX G;have yD:L2.aM (L2.KOf KX) mg "letter_of" My.tM ["sign"]:=L2.dK KX G;have Ea:L2.aM (L2.KOf KX) mg "tile_of" My.wX ["sign"]:=L2.dK KX G;have Eb:L2.aM (L2.KOf KX) mg "left_of" My.wY ["rack","signs"]:=L2.dK KX G;have Ba:L2.aM (L2.KOf KX) mg "is_block" My.u9 ["thing"]:=L2.dK KX G;have Bb:L2.aM (L2.KOf KX) mg "are_rows" My.u_ ["thing"]:=L2.dK KX G;have yE:L2.aM (L2.KOf KX) mg "are_marks" My.tR ["thing"]:=L2.dK KX G;have rH:L2.aM (L2.KOf KX) mg "is_cell_of" My.oA ["rows","row","column"]:=L2.dK KX G;have uH:L2.aM (L2.KOf KX) mg "is_begin_of" My.pR ["rows","thing"]:=L2.dK KX G;have Bc:L2.aM (L2.KOf KX) mg "is_board" My.vf ["rows","marks","begin"]:=L2.dK KX G;have uI:L2.aM (L2.KOf KX) mg "column_text" My.pU ["rows","column"]:=L2.dK KX G;have yF:L2.aM (L2.KOf KX) mg "is_triple" My.tU ["board","thing"]:=L2.dK KX G;have yG:L2.aM (L2.KOf KX) mg "is_laying" My.tV ["board","thing"]:=L2.dK KX G;have Bf:L2.aM (L2.KOf KX) mg "cells_of" My.vg ["laying"]:=L2.dK KX G;have ud:L2.aM (L2.KOf KX) mg "is_across" My.pJ ["laying"]:=L2.dK KX G;have Ec:L2.aM (L2.KOf KX) mg "is_down" My.wZ ["laying"]:=L2.dK KX G;have oM:L2.aM (L2.KOf KX) mg "is_next_to_taken" My.lq ["board","row","column"]:=L2.dK KX G;have HJ:L2.aM (L2.KOf KX) mg "formed" My.zR ["board","laying"]:=L2.dK KX G;have wJ:L2.aM (L2.KOf KX) mg "check_free" My.qN ["board","laying"]:=L2.dK KX G;have ql:L2.aM (L2.KOf KX) mg "check_straight" My.nq ["laying"]:=L2.dK KX G;have wK:L2.aM (L2.KOf KX) mg "check_gaps" My.qO ["board","laying"]:=L2.dK KX G;have tH:L2.aM (L2.KOf KX) mg "check_joined" My.oR ["board","laying"]:=L2.dK KX G;have uJ:L2.aM (L2.KOf KX) mg "check_words" My.pY ["board","book","laying"]:=L2.dK KX G;have tK:L2.aM (L2.KOf KX) mg "check_laying" My.oU ["board","book","rack","laying"]:=L2.dK KX G;have Bg:L2.aM (L2.KOf KX) mg "worth_of" My.vh ["worths","sign"]:=L2.dK KX G;have Ed:L2.aM (L2.KOf KX) mg "cell_in" My.w5 ["word","place"]:=L2.dK KX G;have uK:L2.aM (L2.KOf KX) mg "word_points" My.pZ ["board","worths","laying","word"]:=L2.dK KX G;have Bh:L2.aM (L2.KOf KX) mg "bonus_of" My.vm ["bonus","laying"]:=L2.dK KX G;have yH:L2.aM (L2.KOf KX) mg "points_of" My.tW ["board","worths","bonus","laying"]:=L2.dK KX G;have uL:L2.aM (L2.KOf KX) mg "left_behind" My.qb ["rack","laying"]:=L2.dK KX G;have yI:L2.aM (L2.KOf KX) mg "are_tiles" My.tX ["thing"]:=L2.dK KX G;have Ef:L2.aM (L2.KOf KX) mg "is_deed" My.w6 ["thing"]:=L2.dK KX G;have Bj:L2.aM (L2.KOf KX) mg "in_order" My.vo ["tiles"]:=L2.dK KX G;have yJ:L2.aM (L2.KOf KX) mg "exchanged" My.tY ["things","place","thing"]:=L2.dK KX G;have rJ:L2.aM (L2.KOf KX) mg "behind_laying" My.n6 ["stand","turn","size","laying","points"]:=L2.dK KX G;have uM:L2.aM (L2.KOf KX) mg "behind_swap" My.qe ["stand","turn","tiles"]:=L2.dK KX G;have Eh:L2.aM (L2.KOf KX) mg "is_word" My.xq ["text"]:=L2.dK KX G;have wL:L2.aM (L2.KOf KX) mg "check_word" My.qQ ["text"]:=L2.dK KX G;have Ei:L2.aM (L2.KOf KX) mg "_law_cell_at" My.xr ["_law_script","_law_k"]:=L2.dK KX G;have HN:L2.aM (L2.KOf KX) mg "_law_stream" My.zT ["_law_cell","_law_many"]:=L2.dK KX G;have Ej:L2.aM (L2.KOf KX) mg "_law_letters" My.xu ["_law_cell"]:=L2.dK KX G;have Lh:L2.aM (L2.KOf KX) mg "_law_words" My.Er ["_law_cell","_law_letters_here"]:=L2.dK KX G;have Tf:L2.aM (L2.KOf KX) mg "_law_rows" My.Jg ["_law_cell","_law_letters_here"]:=L2.dK KX G;have Lj:L2.aM (L2.KOf KX) mg "_law_tiles" My.Es ["_law_cell","_law_letters_here","_law_many","_law_blanks"]:=L2.dK KX G;have Lk:L2.aM (L2.KOf KX) mg "_law_parts" My.Et ["_law_script"]:=L2.dK KX G;have Lp:L2.aM (L2.KOf KX) mg "_law_begun" My.Eu ["_law_parts_here"]:=L2.dK KX G;have yK:L2.aM (L2.KOf KX) mg "_law_candidate" My.tZ ["_law_rows_here","_law_word","_law_place","_law_rack"]:=L2.dK KX G;have Tg:L2.aM (L2.KOf KX) mg "_law_lets" My.Jh ["_law_board","_law_book","_law_rack","_law_laying_here"]:=L2.dK KX G;have HS:L2.aM (L2.KOf KX) mg "_law_laying" My.zU ["_law_board","_law_book","_law_words_here","_law_rack","_law_cell"]:=L2.dK KX G;have Ti:L2.aM (L2.KOf KX) mg "_law_deed" My.Ji ["_law_now","_law_book","_law_words_here","_law_cell"]:=L2.dK KX G;have Fi:L2.aM (L2.KOf KX) mg "_law_taken" My.yV ["_law_rack","_law_tiles_here"]:=L2.dK KX G;have Tj:L2.aM (L2.KOf KX) mg "_law_next" My.Jj ["_law_now","_law_parts_here","_law_deed_here"]:=L2.dK KX G;have HW:L2.aM (L2.KOf KX) mg "_law_stands" My.zV ["_law_game","_law_now"]:=L2.dK KX G;have Lq:L2.aM (L2.KOf KX) mg "_law_again" My.s_again ["_law_game","_law_parts_here","_law_begun_here","_law_deeds"]:=L2.dK KX G;have aa5:∃C f0 f1 f2 f3 f4 dY dH fd2 mV uQ,My.Aa (L2.KOf KX) mg C f0 f1 f2 f3 f4 dY dH fd2 mV uQ:=by
   dsimp only[L2.KOf];refine' My.acE KX G ?aC ?a0 ?i0 ?l0 ?c0 ?k0 ?a1 ?i1 ?l1 ?c1 ?k1 ?a2 ?i2 ?l2 ?c2 ?k2 ?a3 ?i3 ?l3 ?c3 ?k3 ?a4 ?i4 ?l4 ?c4 ?k4 ?pg ?hd ?po ?sa ?mk ?kc ?wH ?Dk ?Dl
   (case aC=>k_is)
   (case a0=>k_is)
   (case i0=>k_is)
   (case l0=>k_is)
   (case c0=>k_is)
   (case k0=>k_is)
   (case a1=>k_is)
   (case i1=>k_is)
   (case l1=>k_is)
   (case c1=>k_is)
   (case k1=>k_is)
   (case a2=>k_is)
   (case i2=>k_is)
   (case l2=>k_is)
   (case c2=>k_is)
   (case k2=>k_is)
   (case a3=>k_is)
   (case i3=>k_is)
   (case l3=>k_is)
   (case c3=>k_is)
   (case k3=>k_is)
   (case a4=>k_is)
   (case i4=>k_is)
   (case l4=>k_is)
   (case c4=>k_is)
   (case k4=>k_is)
   (case pg=>k_is)
   (case hd=>k_is)
   (case po=>k_is)
   (case sa=>k_is)
   (case mk=>k_is)
   (case kc=>k_is)
   (case wH=>k_is)
   (case Dk=>k_is)
   (case Dl=>k_is)
  obtain⟨_,_,_,_,_,_,_,_,_,_,_,acV⟩:=aa5;have acW:∃C f0 f1 f2 f3 dY dH fd2 mV,My.Dm (L2.KOf KX) mg C f0 f1 f2 f3 dY dH fd2 mV:=by
   dsimp only[L2.KOf];refine' My.aeS KX G ?aC ?a0 ?i0 ?l0 ?c0 ?k0 ?a1 ?i1 ?l1 ?c1 ?k1 ?a2 ?i2 ?l2 ?c2 ?k2 ?a3 ?i3 ?l3 ?c3 ?k3 ?pg ?hd ?po ?sa ?mk ?kc ?wH
   (case aC=>k_is)
   (case a0=>k_is)
   (case i0=>k_is)
   (case l0=>k_is)
   (case c0=>k_is)
   (case k0=>k_is)
   (case a1=>k_is)
   (case i1=>k_is)
   (case l1=>k_is)
   (case c1=>k_is)
   (case k1=>k_is)
   (case a2=>k_is)
   (case i2=>k_is)
   (case l2=>k_is)
   (case c2=>k_is)
   (case k2=>k_is)
   (case a3=>k_is)
   (case i3=>k_is)
   (case l3=>k_is)
   (case c3=>k_is)
   (case k3=>k_is)
   (case pg=>k_is)
   (case hd=>k_is)
   (case po=>k_is)
   (case sa=>k_is)
   (case mk=>k_is)
   (case kc=>k_is)
   (case wH=>k_is)
  obtain⟨_,_,_,_,_,_,_,_,_,afg⟩:=acW;have aa6:∃C f0 dY,My.Ab (L2.KOf KX) mg C f0 dY:=by
   dsimp only[L2.KOf];refine' My.acF KX G ?aC ?a0 ?i0 ?l0 ?c0 ?k0 ?pg ?hd ?po ?sa ?mk ?kc ?wH ?Dk ?Dl ?Sw
   (case aC=>k_is)
   (case a0=>k_is)
   (case i0=>k_is)
   (case l0=>k_is)
   (case c0=>k_is)
   (case k0=>k_is)
   (case pg=>k_is)
   (case hd=>k_is)
   (case po=>k_is)
   (case sa=>k_is)
   (case mk=>k_is)
   (case kc=>k_is)
   (case wH=>k_is)
   (case Dk=>k_is)
   (case Dl=>k_is)
   (case Sw=>k_is)
  obtain⟨_,_,_,acX⟩:=aa6;have acY:∃C f0 f1 f2 f3 f4 f5 f6 f7 f8 dY dH fd2 mV uQ JR JT Wt Wu,My.Dn (L2.KOf KX) mg C f0 f1 f2 f3 f4 f5 f6 f7 f8 dY dH fd2 mV uQ JR JT Wt Wu:=by
   dsimp only[L2.KOf];refine' My.aeT KX G ?aC ?a0 ?i0 ?l0 ?c0 ?k0 ?a1 ?i1 ?l1 ?c1 ?k1 ?a2 ?i2 ?l2 ?c2 ?k2 ?a3 ?i3 ?l3 ?c3 ?k3 ?a4 ?i4 ?l4 ?c4 ?k4 ?a5 ?i5 ?l5 ?c5 ?k5 ?a6 ?i6 ?l6 ?c6 ?k6 ?a7 ?i7 ?l7 ?c7 ?k7 ?a8 ?i8 ?l8 ?c8 ?k8 ?pg ?hd ?po ?sa ?mk ?kc ?wH ?Dk ?Dl ?Sw ?nf4 ?nf5
   (case aC=>k_is)
   (case a0=>k_is)
   (case i0=>k_is)
   (case l0=>k_is)
   (case c0=>k_is)
   (case k0=>k_is)
   (case a1=>k_is)
   (case i1=>k_is)
   (case l1=>k_is)
   (case c1=>k_is)
   (case k1=>k_is)
   (case a2=>k_is)
   (case i2=>k_is)
   (case l2=>k_is)
   (case c2=>k_is)
   (case k2=>k_is)
   (case a3=>k_is)
   (case i3=>k_is)
   (case l3=>k_is)
   (case c3=>k_is)
   (case k3=>k_is)
   (case a4=>k_is)
   (case i4=>k_is)
   (case l4=>k_is)
   (case c4=>k_is)
   (case k4=>k_is)
   (case a5=>k_is)
   (case i5=>k_is)
   (case l5=>k_is)
   (case c5=>k_is)
   (case k5=>k_is)
   (case a6=>k_is)
   (case i6=>k_is)
   (case l6=>k_is)
   (case c6=>k_is)
   (case k6=>k_is)
   (case a7=>k_is)
   (case i7=>k_is)
   (case l7=>k_is)
   (case c7=>k_is)
   (case k7=>k_is)
   (case a8=>k_is)
   (case i8=>k_is)
   (case l8=>k_is)
   (case c8=>k_is)
   (case k8=>k_is)
   (case pg=>k_is)
   (case hd=>k_is)
   (case po=>k_is)
   (case sa=>k_is)
   (case mk=>k_is)
   (case kc=>k_is)
   (case wH=>k_is)
   (case Dk=>k_is)
   (case Dl=>k_is)
   (case Sw=>k_is)
   (case nf4=>k_is)
   (case nf5=>k_is)
  obtain⟨_,_,_,_,_,_,_,_,_,_,_,_,_,_,_,_,_,_,_,afh⟩:=acY;have xkl:∃a,mg "LETTER_MARKS"=some (.ref a)/\∀P:Program,L2.KDict P w (L2.KOf KX) a My.VD:=by
   try dsimp only[L2.KOf]
   refine' My.aaT KX G ?b ?l ?z ?n
   (case b=>k_is)
   (case l=>k_is)
   (case z=>rfl)
   (case n=>decide)
  obtain⟨_,kl⟩:=xkl;have xkw:∃a,mg "WORD_MARKS"=some (.ref a)/\∀P:Program,L2.KDict P w (L2.KOf KX) a My.VF:=by
   try dsimp only[L2.KOf]
   refine' My.aaT KX G ?b ?l ?z ?n
   (case b=>k_is)
   (case l=>k_is)
   (case z=>rfl)
   (case n=>decide)
  obtain⟨_,kw⟩:=xkw;have xzb:∃t:Tok,t≠0/\mg "BLANK"=some (.str (L2.S [63]) t):=by
   try dsimp only[L2.KOf]
   refine' My.aiw KX G ?b ?n
   (case b=>k_is)
   (case n=>decide)
  obtain⟨_,zb⟩:=xzb;have xer:∃fY dI gF fZ jo cQ dw CR iW mz fU gW oK uz lD mW,My.acG (L2.KOf KX) mg fY dI gF fZ jo cQ dw CR iW mz fU gW oK uz lD mW:=by
   try dsimp only[L2.KOf]
   refine' My.aeV KX G ?Ae ?Fg ?Dp ?O_ ?La ?xV ?Af ?aR ?rG ?uD ?zE ?Lb ?Dq ?Yz ?Le ?Dr ?Hi ?Sy ?Hj ?Hl ?Ho ?Hq ?Ds ?Hr ?Hs ?Ht ?Hu ?yx ?tE ?aa4 ?SJ ?SM ?SN ?SQ ?Lg ?SX ?S5 ?S6 ?S7 ?Du ?wI ?JZ ?Ag ?Ah ?Ai ?Aj ?yC ?Ak ?Al ?Am ?Ao ?tG ?Nx ?Dv ?Dw ?Dy ?Dz ?Aq ?DG ?DK ?DN ?DP ?uG ?hn ?ht ?Hv ?Hw ?Hx ?Hy ?Av ?Hz ?S8 ?S9 ?S_ ?Tc ?J0 ?Td ?Aw ?Ax ?Ay ?Az ?vB ?A_ ?DQ ?DR ?DW ?DX ?xW ?DY ?g2 ?rd ?fc
   (case Ae=>k_is)
   (case Fg=>k_is)
   (case Dp=>k_is)
   (case O_=>k_is)
   (case La=>k_is)
   (case xV=>k_is)
   (case Af=>k_is)
   (case aR=>k_is)
   (case rG=>k_exc)
   (case uD=>k_exc)
   (case zE=>k_exc)
   (case Lb=>kernel_rfl)
   (case Dq=>kernel_rfl)
   (case Yz=>kernel_rfl)
   (case Le=>kernel_rfl)
   (case Dr=>kernel_rfl)
   (case Hi=>kernel_rfl)
   (case Sy=>k_is)
   (case Hj=>k_is)
   (case Hl=>k_is)
   (case Ho=>k_is)
   (case Hq=>k_is)
   (case Ds=>kernel_rfl)
   (case Hr=>k_is)
   (case Hs=>kernel_rfl)
   (case Ht=>k_is)
   (case Hu=>k_is)
   (case yx=>k_is)
   (case tE=>k_is)
   (case aa4=>k_is)
   (case SJ=>k_is)
   (case SM=>k_is)
   (case SN=>k_is)
   (case SQ=>k_is)
   (case Lg=>kernel_rfl)
   (case SX=>k_is)
   (case S5=>kernel_rfl)
   (case S6=>k_is)
   (case S7=>k_is)
   (case Du=>k_is)
   (case wI=>k_is)
   (case JZ=>k_is)
   (case Ag=>k_is)
   (case Ah=>k_is)
   (case Ai=>k_is)
   (case Aj=>k_is)
   (case yC=>kernel_rfl)
   (case Ak=>k_is)
   (case Al=>kernel_rfl)
   (case Am=>k_is)
   (case Ao=>k_is)
   (case tG=>k_is)
   (case Nx=>k_is)
   (case Dv=>k_is)
   (case Dw=>k_is)
   (case Dy=>k_is)
   (case Dz=>k_is)
   (case Aq=>kernel_rfl)
   (case DG=>k_is)
   (case DK=>kernel_rfl)
   (case DN=>k_is)
   (case DP=>k_is)
   (case uG=>k_is)
   (case hn=>k_is)
   (case ht=>k_is)
   (case Hv=>kernel_rfl)
   (case Hw=>k_is)
   (case Hx=>k_is)
   (case Hy=>k_is)
   (case Av=>k_is)
   (case Hz=>k_is)
   (case S8=>kernel_rfl)
   (case S9=>k_is)
   (case S_=>k_is)
   (case Tc=>k_is)
   (case J0=>k_is)
   (case Td=>k_is)
   (case Aw=>kernel_rfl)
   (case Ax=>k_is)
   (case Ay=>k_is)
   (case Az=>k_is)
   (case vB=>k_is)
   (case A_=>k_is)
   (case DQ=>kernel_rfl)
   (case DR=>k_is)
   (case DW=>k_is)
   (case DX=>k_is)
   (case xW=>k_is)
   (case DY=>k_is)
   (case g2=>k_is)
   (case rd=>k_is)
   (case fc=>k_is)
  obtain⟨_,_,_,_,_,_,_,_,_,_,_,_,_,_,_,_,er⟩:=xer;have lw:∃fd:FuncData,L2.dX (L2.KOf KX) "law" "law" My.OD fa fd/\∀(s:Shared) (v:Value),BindsTo s fd ⟨[v],[]⟩ [("_law_script",v)]:=by
   dsimp only[L2.KOf];refine' L2.agh KX G hmg ?a ?l ?c ?k ?b
   case a|l|c|k=>k_is
   (case b=>exact λ_ _ _ _ _ _ _=>rfl)
  obtain⟨fd,F,hb⟩:=lw;exact⟨fd,hb,λbase _ _=>My.aeW bh d_ cI ig Dd gU bK oF n_ vp fj xO Jt rF xQ JG pP fX za yX oH vC D_ yD Ea Eb Ba Bb yE rH uH Bc uI yF yG Bf ud Ec oM HJ wJ ql wK tH uJ tK Bg Ed uK Bh yH uL yI Ef Bj yJ rJ uM Eh wL Ei HN Ej Lh Tf Lj Lk Lp yK Tg HS Ti Fi Tj HW Lq acV afg acX afh kl kw zb er F⟩

import PyProof.Rows.All
import Wide.All
import OpenK.AllK
import Wide.FinOn
import Lean
import PyProof.EqAt
import PyProof.EqKinds
import PyProof.TupleCall
import KE.KRevIter
import PyProof.JoinWalk
import PyProof.CollectIter
import KE.KDictSum
import KE.KSortTup
import OpenK.KRaise
import PyProof.StationsW
import OpenK.KOwn
import KE.KTryMore
import KE.KIsNot
import PyProof.NsDelKeeps
import KE.KIsAll
import PyProof.ExcArgs
import PyProof.ListMulRoad
import PyProof.Rows.SeqMore
import PyProof.FactsAll.tuple_2
import PyProof.ExcInit
import OpenK.KCls
import PyProof.WalkInts
import PyProof.SeqI3
import KE.KIntText
import KE.KEqDict
import KE.KDictOf
import PyProof.Rows.SetFrom
import KE.KBoundM
import KE.KMinKey
import KE.KDictLaws
import PyProof.DictItems
import KE.KPairComp
import KE.KRevSl
import PyProof.AutoSeq1
import PyProof.TupleOfSeq
import PyProof.AttrMiss
import PyProof.IsiH_tuple
import PyProof.TupleKey
import PyProof.DictRoadsH
import PyProof.IsRules
import PySem.Challenge.RW_letterrack_k42_each_breaks_no_rule
set_option compiler.extract_closed false
set_option hygiene false in
local macro_rules|`(tactic|walk_at "a")=>`(tactic|(try conv=>arg 5;dsimp -zeta only))
set_option hygiene false in
local macro_rules|`(tactic|walk_at "b")=>`(tactic|(intro f bD A outer s H vs Q E hr h))
set_option hygiene false in
local macro_rules|`(tactic|walk_at "c")=>`(tactic|(calc aa (eB hz RA (x:=.bool false) RA ?_);show wpAny _ _ (field (.ref z) 3 >>= _) _ _ _;calc aa (eB hz RA (x:=.ref ti) RA (aa (eI hi RA ?_)));show wpAny _ _ (Builtin.SmallTypes.ownedTupleIsFree (.ref z) >>= _) _ _ _))
set_option hygiene false in
local macro_rules|`(tactic|walk_at "d")=>`(tactic|(show wpAny _ _ (Builtin.SmallTypes.nextOf (.ref u) >>= _) _ _ _;calc aa (oj (hu.at λo e=>k1.extBut _ o D.q3 e) (l_ ha λo e=>k1.extBut _ o D.p2 e) hx λg2 u2 k2=>ag ?_);let o2:IsPair g2 to m n:=k2.extBut _ _ D.q8 (k1.extBut _ _ D.q2 ho);calc aa (eI o2 RA (aa (lI o2 λg3 o3 k3=>?_)))))
set_option hygiene false in
local macro_rules|`(tactic|walk_at "e")=>`(tactic|(unfold Builtin.SmallTypes.ownedTupleIsFree;calc aa (eB hz RA (x:=.none) RA (ag ?_));simp only[if_true];calc aa (fo (aa (eB hz RA (x:=.ref to) RA (aa (f6 hz w8 λg1 z1 k1=>?_)))))))
set_option hygiene false in
local macro_rules|`(tactic|walk_at "f")=>`(tactic|(intro ao s σ H x y v u Q I rx ry h))
set_option hygiene false in
local macro_rules|`(tactic|walk_at "g")=>`(tactic|(let⟨o,ho,hex,hd,hf,_,_⟩:=m;unfold pyNext;calc aa (iL (dC (name:=Str.ofString "__next__") T F.b_ (cE F.b_ T F.gC ?_ (F.gb _))));unfold Builtin.«set_iterator.__next__»))
set_option hygiene false in
local macro_rules|`(tactic|walk_at "h")=>`(tactic|(let z5:IsZip g5 z ti to .ellipsis:=k5.extBut _ _ D.q2.symm (k4.extBut _ _ D.q4.symm (k3.extBut _ _ D.q2.symm (k2.extBut _ _ D.q3.symm z1)));let kk:∀c o,c≠z->c≠to->c≠u->c≠v->s.heap.get? c=some o->g5.get? c=some o:=λc o c1 c2 c3 c4 e=>k5.extBut _ _ c2 (k4.extBut _ _ c4 (k3.extBut _ _ c2 (k2.extBut _ _ c3 (k1.extBut _ _ c1 e))));let u5:g5.IsListIter u a (i+1):=u2.at λo e=>k5.extBut _ o D.q8.symm (k4.extBut _ o D.p1 (k3.extBut _ o D.q8.symm e))))
set_option hygiene false in
local macro_rules|`(tactic|walk_at "i")=>`(tactic|(intro X hP hw hK hc i ao s σ H E I hf st hg;subst hP hw hK))
set_option hygiene false in
local macro_rules|`(tactic|walk_at "j")=>`(tactic|(show wpAny _ _ (isInstance (.ref b) (.type "tuple") >>= _) _ _ s;calc aa (f_ Tb isSubtype_tuple_tuple ?_);simp only[dE,a7,if_false];calc aa (gt ha da (aa (gt hb db (aa ?_))))))
set_option hygiene false in
local macro_rules|`(tactic|walk_at "k")=>`(tactic|(intro ao s σ H xs us Q I r h))
set_option hygiene false in
local macro_rules|`(tactic|walk_at "l")=>`(tactic|(calc aa (dC (name:=Str.ofString "__next__") t.typeIs lh (cE lh t.typeIs F.entry_tuple_iterator_next ?_ (F.args_tuple_iterator_next_1 _)));show wpAny _ _ (field (.ref u) 0 >>= _) _ _ s;calc aa (eB ho hd (x:=.ref a) RA ?_);show wpAny _ _ (if (Value.ref a==Value.none)=true then _ else _) _ _ s))
set_option hygiene false in
local macro_rules|`(tactic|walk_at "m")=>`(tactic|(rw[fc];calc aa ?_;dsimp only;calc aa (gr _ _ _ _ prog w _ _ ?_)))
set_option Elab.async false
set_option linter.all false
set_option maxRecDepth 100000
set_option maxHeartbeats 4000000

set_option bootstrap.genMatcherCode false
theorem ZzN {G:Prop}(h:¬¬G):G:=Classical.byContradiction h
theorem RA {α:Sort _}{a:α}:a=a:=rfl
theorem Zzx2{q:A->B->Prop}{G:Prop}(h:∃a b,q a b)(f:∀a b,q a b->G):G:=Exists.elim h λa h=>Exists.elim h (f a)
theorem Zzx3{q:A->B->C->Prop}{G:Prop}(h:∃a b c,q a b c)(f:∀a b c,q a b c->G):G:=Exists.elim h λa h=>Zzx2 h (f a)
theorem Zzx4{q:A->B->C->D->Prop}{G:Prop}(h:∃a b c d,q a b c d)(f:∀a b c d,q a b c d->G):G:=Exists.elim h λa h=>Zzx3 h (f a)
theorem Zzx5{q:A->B->C->D->E->Prop}{G:Prop}(h:∃a b c d e,q a b c d e)(f:∀a b c d e,q a b c d e->G):G:=Exists.elim h λa h=>Zzx4 h (f a)
theorem Zzx7{q:A->B->C->D->E->I->J->Prop}{G:Prop}(h:∃a b c d e i j,q a b c d e i j)(f:∀a b c d e i j,q a b c d e i j->G):G:=Exists.elim h λa h=>Exists.elim h λb h=>Zzx5 h (f a b)
theorem Zzx10{q:A->B->C->D->E->I->J->K->L->M->Prop}{G:Prop}(h:∃a b c d e i j k l m,q a b c d e i j k l m)(f:∀a b c d e i j k l m,q a b c d e i j k l m->G):G:=Exists.elim h λa h=>Exists.elim h λb h=>Exists.elim h λc h=>Zzx7 h (f a b c)
theorem Zzx14{q:A->B->C->D->E->I->J->K->L->M->N->O->P->R->Prop}{G:Prop}(h:∃a b c d e i j k l m n o p r,q a b c d e i j k l m n o p r)(f:∀a b c d e i j k l m n o p r,q a b c d e i j k l m n o p r->G):G:=Exists.elim h λa h=>Exists.elim h λb h=>Exists.elim h λc h=>Exists.elim h λd h=>Zzx10 h (f a b c d)
local macro_rules|`(tactic|show $e)=>`(tactic|first|exact $e|change $e)
local macro_rules|`(tactic|calc $e:term)=>`(tactic|refine $e)
local macro_rules|`(tactic|let $x:ident := $e)=>`(tactic|have $x:ident := $e)|`(tactic|let $x:ident : $t := $e)=>`(tactic|have $x:ident : $t := $e)
open Lean in
local macro_rules|`(tactic|let ⟨$ts,*⟩ := $h)=>do
 let a:=ts.getElems
 let ps<-a.mapM λt=>if t.raw.isIdent then `(Parser.Tactic.rcasesPatLo|$(⟨t⟩):ident) else `(Parser.Tactic.rcasesPatLo|_)
 let n:=(a.pop.toList.takeWhile λt=>t.raw.getId != `rfl).length
 let mut t<-`(tactic|rcases $h:term with ⟨$ps,*⟩)
 for k in [2, 3, 4, 5, 7, 10, 14] do
  if k<=n then t<-`(tactic|first|(refine $(mkIdent (.mkSimple s!"Zzx{k}")) $h ?_;(try clear $(⟨h⟩));intro $(a[:k].toArray)* z;rcases z with ⟨$(ps[k:].toArray),*⟩)|$t:tactic)
 `(tactic|(refine ZzN λn=>?_;$t:tactic<;>refine n ?_<;>clear n))
theorem JA{q:A->B->Prop}(a b)(h:q a b):∃a b,q a b:=⟨a,b,h⟩
theorem JE{q:A->B->C->Prop}(a b c)(h:q a b c):∃a b c,q a b c:=⟨a,JA b c h⟩
theorem JI{q:A->B->C->D->Prop}(a b c d)(h:q a b c d):∃a b c d,q a b c d:=⟨a,JE b c d h⟩
theorem JJ{q:A->B->C->D->E->Prop}(a b c d e)(h:q a b c d e):∃a b c d e,q a b c d e:=⟨a,JI b c d e h⟩
theorem JO{q:A->B->C->D->E->F->Prop}(a b c d e f)(h:q a b c d e f):∃a b c d e f,q a b c d e f:=⟨a,JJ b c d e f h⟩
theorem JP{q:A->B->C->D->E->F->G->Prop}(a b c d e f g)(h:q a b c d e f g):∃a b c d e f g,q a b c d e f g:=⟨a,JO b c d e f g h⟩
theorem JS{q:A->B->C->D->E->F->G->H->Prop}(a b c d e f g i)(h:q a b c d e f g i):∃a b c d e f g i,q a b c d e f g i:=⟨a,JP b c d e f g i h⟩
section
variable{p:Prop}
def wT(h:p:=by lia):p:=h
def w8(h:p:=by simp):p:=h
def w_(h:p:=by decide):p:=h
def xa(h:p:=by rfl):p:=h
def xb(h:p:=by kernel_rfl):p:=h
def xc(h:p:=by decide +kernel):p:=h
def xf(h:p:=by first | lia | ((try dsimp only);lia)):p:=h
def xh(h:p:=by size_fits):p:=h
end
def zsz (n:Nat)(h:n<=1000:=by decide):n<=PySem.sizeLine:=Nat.le_trans h w_
abbrev aa:=@PySem.wpAny_bind
abbrev ab:=@List.length_map
abbrev ae:=@List.getElem?_eq_getElem
abbrev af:=@PySem.Heap.get?_push_of_some
abbrev ag:=@PySem.wpAny_pure
abbrev ah:=@Nat.le_refl
abbrev ai:=@List.getD_eq_getElem?_getD
abbrev al:=@List.getElem?_eq_some_iff
abbrev am:=@decide_eq_false
abbrev ap:=@List.mem_singleton
abbrev ar:=@decide_eq_true
abbrev av:=@List.length_append
abbrev aw:=@List.mem_map
abbrev ax:=@PySem.Heap.get?_push_size
abbrev ay:=@List.mem_cons_of_mem
abbrev aE:=@List.mem_cons_self
abbrev aI:=@List.getElem_mem
abbrev aS:=@List.mem_of_getElem?
abbrev aT:=@Nat.le_of_lt
abbrev a6:=@PySem.Heap.lt_size
abbrev a7:=@Bool.false_eq_true
abbrev a8:=@Nat.le_trans
abbrev a9:=@PyProof.Rows.wpS_bind
abbrev a_:=@List.getElem?_map
abbrev ba:=@List.mem_cons
abbrev bb:=@Option.some.inj
abbrev bd:=@List.mem_append
abbrev be:=@List.length_take
abbrev bg:=@PyProof.Rows.wpS_pure
abbrev bn:=@Nat.ne_of_lt
abbrev bo:=@Array.length_toList
abbrev bq:=@List.size_toArray
abbrev bt:=@List.length_cons
abbrev bu:=@Nat.lt_of_lt_of_le
abbrev bv:=@List.append_assoc
abbrev bz:=@List.map_append
abbrev bE:=@List.mem_range
abbrev bP:=@List.take_add_one
abbrev bS:=@PySem.F.plainAttrs_str
abbrev bX:=@Array.getElem?_eq_getElem
abbrev b6:=@List.map_cons
abbrev b7:=@PySem.boot_len
abbrev b8:=@Bool.false_ne_true
abbrev b9:=@List.mem_iff_getElem
abbrev ci:=@PyProof.Rows.boot_tuple
abbrev ck:=@Nat.sub_lt_left_of_lt_add
abbrev cn:=@Array.getElem?_toList
abbrev cp:=@PyProof.Rows.boot_isinstance
abbrev cq:=@PySem.PassesOwn.never
abbrev cw:=@Nat.zero_le
abbrev cx:=@List.take_of_length_le
abbrev cy:=@List.length_drop
abbrev cz:=@List.mem_map_of_mem
abbrev cE:=@PySem.wpAny_call_entry
abbrev cK:=@List.take_length
abbrev cS:=@List.take_append_drop
abbrev c9:=@PyProof.Rows.KeyOrd.kle_trans
abbrev c_:=@List.getElem?_append_right
abbrev de:=@Int.toNat_natCast
abbrev df:=@Bool.and_eq_true
abbrev di:=@PySem.F.plainAttrs_list
abbrev dm:=@List.mem_append_right
abbrev dq:=@List.length_replicate
abbrev du:=@Int.emod_lt_of_pos
abbrev dA:=@PySem.Heap.size_push
abbrev dC:=@PySem.wpAny_callSpecial?_slot
abbrev dE:=@Bool.not_true
abbrev dL:=@List.getElem?_eq_none
abbrev dP:=@List.length_range
abbrev dS:=@Nat.le_of_lt_succ
abbrev d6:=@PyProof.Rows.KeyOrd.kle_of_klt
abbrev ed:=@List.pairwise_map
abbrev ej:=@PySem.W.mg_none_of
abbrev eB:=@PySem.wpAny_field
abbrev eC:=@Nat.lt_or_ge
abbrev eD:=@List.map_map
abbrev eI:=@PySem.wpAny_seqItems
abbrev eJ:=@List.getElem?_append_left
abbrev eK:=@Option.map_eq_some_iff
abbrev eL:=@Nat.le_sub_one_of_lt
abbrev eP:=@PySem.wpAny_truthy_bool
abbrev eQ:=@PySem.wpAny_newObj_type
abbrev eR:=@PySem.F.slot_str_join
abbrev eW:=@PySem.F.type_str_join
abbrev e6:=@Int.emod_nonneg
abbrev e8:=@List.pairwise_iff_getElem
abbrev e_:=@List.not_mem_nil
abbrev fb:=@PySem.Obj.data_mapFields
abbrev fc:=@List.forIn_cons
abbrev fe:=@PySem.wpAny_holding
abbrev fg:=@Nat.le_sub_of_add_le
abbrev fh:=@Nat.sub_eq_of_eq_add
abbrev fi:=@List.filter_append
abbrev fk:=@List.range_succ
abbrev fm:=@PyProof.Rows.wpS_forRange
abbrev fo:=@PySem.wpAny_rule
abbrev fq:=@Array.toList_append
abbrev fv:=@PyProof.Rows.callWith_type1
abbrev fw:=@PySem.Heap.get?_update_self
abbrev fz:=@Nat.sub_le_iff_le_add
abbrev fA:=@Array.getD_eq_getD_getElem?
abbrev fE:=@List.cons_lt_cons_iff
abbrev fF:=@Nat.lt_succ_of_lt
abbrev fI:=@PySem.wpAny_setState_of
abbrev fN:=@PySem.wpAny_mono
abbrev fR:=@PySem.wpAny_passesOwn
abbrev fS:=@List.append_nil
abbrev fT:=@List.mem_of_mem_take
abbrev f6:=@PySem.wpAny_setField_rec
abbrev f7:=@List.pairwise_append
abbrev f8:=@Nat.lt_succ_self
abbrev f_:=@PySem.wpAny_isInstance
abbrev ga:=@List.mem_flatMap
abbrev gd:=@List.map_congr_left
abbrev ge:=@PySem.Heap.SameBut.update
abbrev gf:=@Nat.mul_comm
abbrev gg:=@PySem.F.slot_list_append
abbrev gh:=@PySem.F.type_list_append
abbrev gm:=@PySem.W.kia_one
abbrev gp:=@List.nodup_cons
abbrev gr:=@PySem.SeqAt.EqAt.int_int
abbrev gt:=@PySem.wpAny_tupleItemsOf
abbrev gu:=@List.getElem?_drop
abbrev gv:=@List.all_eq_true
abbrev gx:=@Int.ofNat_lt
abbrev gy:=@Nat.le_succ
abbrev gz:=@PySem.StrLaws.subAt_one
abbrev gE:=@List.ext_getElem?
abbrev gI:=@of_decide_eq_true
abbrev gL:=@List.getElem?_range
abbrev gN:=@PyProof.Rows.KeyOrd.kle_refl
abbrev gS:=@Classical.byContradiction
abbrev gT:=@Nat.lt_sub_iff_add_lt
abbrev g6:=@Nat.ne_of_gt
abbrev g9:=@Nat.succ_le_succ
abbrev hG:=@Nat.sub_sub_self
abbrev hV:=@Nat.zero_add
abbrev h8:=@List.pairwise_cons
abbrev ib:=@PyProof.Rows.boot_sorted
abbrev ic:=@Bool.not_false
abbrev ie:=@List.getElem?_of_mem
abbrev ii:=@Nat.add_sub_cancel_left
abbrev ij:=@List.length_eq_zero_iff
abbrev ik:=@Nat.le_succ_of_le
abbrev im:=@decide_eq_true_eq
abbrev io:=@PyProof.Rows.wpS_mono
abbrev ip:=@List.drop_sublist
abbrev iq:=@PySem.codeAny_builtin
abbrev iA:=@List.getElem?_set_self
abbrev iE:=@PySem.Heap.get?_update_other
abbrev iF:=@Nat.lt_irrefl
abbrev iL:=@PySem.wpAny_attempt
abbrev iN:=@List.lookup_cons
abbrev iO:=@Nat.sub_lt_of_lt
abbrev iP:=@PySem.Calls.spliced_cons
abbrev iS:=@PySem.wpAny_setField
abbrev iX:=@List.Perm.append_left
abbrev i6:=@List.length_filter_le
abbrev i7:=@List.drop_eq_getElem_cons
abbrev i8:=@PySem.wpAny_execs_nil
abbrev i9:=@PySem.codeAny_mono
abbrev ja:=@Option.map_some
abbrev jn:=@List.mem_of_mem_drop
abbrev jI:=@PySem.F.slot_zip_next
abbrev jS:=@Nat.sub_le_of_le_add
abbrev kd:=@Nat.pow_succ
abbrev ke:=@Nat.not_lt_zero
abbrev ki:=@PySem.F.slot_list_extend
abbrev km:=@PySem.F.type_list_extend
abbrev ko:=@Nat.mul_le_mul_right
abbrev kq:=@Ne.symm
abbrev kr:=@PySem.wpAny_pyIter_list
abbrev ku:=@List.flatten_cons
abbrev kz:=@Int.ofNat.inj
abbrev kC:=@List.filterMap_cons
abbrev kD:=@Bool.false_and
abbrev kF:=@Nat.mul_le_mul
abbrev kG:=@PyProof.Rows.boot_list
abbrev kH:=@PySem.wpAny_Call_Name_kw
abbrev kK:=@Nat.lt_of_le_of_lt
abbrev kM:=@PySem.wpAny_richCompare_same_room
abbrev kN:=@Nat.eq_zero_or_pos
abbrev kP:=@of_decide_eq_false
abbrev kQ:=@Nat.succ_pos
abbrev kR:=@List.mem_filter
abbrev kS:=@Bool.eq_iff_iff
abbrev kU:=@PySem.Obj.isFreed_of_fields
abbrev kX:=@PyProof.Rows.boot_int
abbrev lh:=@PySem.F.slot_tuple_iterator_next
abbrev lv:=@Nat.mul_assoc
abbrev lx:=@Array.toList_push
abbrev ly:=@List.getElem?_set_ne
abbrev lI:=@PySem.wpAny_updateSeq_pair
abbrev lL:=@PySem.Around.under_plainId
abbrev lS:=@List.map_id
abbrev lT:=@Bool.and_false
abbrev l_:=@PySem.Heap.IsList.at
abbrev md:=@PySem.wpAny_execs_cons
abbrev me:=@Nat.le_of_eq
abbrev mf:=@List.getElem?_take_of_lt
abbrev mh:=@List.map_nil
abbrev ml:=@Nat.lt_trans
abbrev mr:=@Array.toList_inj
abbrev mw:=@PySem.wpAny_askSetting
abbrev mx:=@Nat.ge_of_not_lt
abbrev my:=@Nat.sub_self
abbrev mB:=@PySem.wpAny_forIn_list
abbrev mE:=@PySem.F.called_set
abbrev mI:=@List.Pairwise.imp_of_mem
abbrev mM:=@Int.ofNat_nonneg
abbrev mN:=@PySem.mem_of_lookup
abbrev mP:=@Nat.add_le_add_left
abbrev mS:=@PySem.wpAny_setEntries_of
abbrev ng:=@Nat.add_sub_cancel'
abbrev np:=@PyProof.Rows.slot_tuple_getitem
abbrev nt:=@PyProof.Rows.F.plain_set_update_loop
abbrev nw:=@List.any_cons
abbrev ny:=@PySem.wpAny_onRaise
abbrev nB:=@Nat.add_assoc
abbrev nE:=@PySem.Calls.Constant_str
abbrev nI:=@PySem.wpAny_pyIter_tuple
abbrev nK:=@List.mem_filterMap
abbrev nL:=@List.length_set
abbrev nN:=@List.find?_cons
abbrev nS:=@PySem.wpAny_specialOf
abbrev nV:=@PySem.F.slot_tuple_lt
abbrev n0:=@Nat.sub_le
abbrev n5:=@List.map_singleton
abbrev n9:=@PySem.Calls.callWith_builtin
abbrev og:=@PySem.wpAny_of_eq
abbrev oj:=@PySem.wpAny_nextOf_list_item
abbrev om:=@Array.getElem?_eq_none
abbrev on:=@PySem.F.slot_str_lower
abbrev oo:=@PySem.F.type_str_lower
abbrev oq:=@PySem.wpAny_pyIter_strU
abbrev ox:=@PySem.wpAny_pyIter_enum
abbrev oy:=@PySem.F.slot_tuple_hash
abbrev oz:=@List.getElem?_set
abbrev oB:=@Iff.mpr
abbrev oC:=@List.nodup_nil
abbrev oI:=@List.takeWhile_prefix
abbrev oP:=@List.mem_append_left
abbrev oQ:=@List.erase_cons_tail
abbrev oS:=@List.zipIdx_cons
abbrev oT:=@Nat.mod_lt
abbrev o0:=@Array.toList_reverse
abbrev o6:=@Nat.div_lt_of_lt_mul
abbrev ph:=@List.ext_getElem
abbrev pi:=@PySem.W.mg_of
abbrev pE:=@List.length_pos_iff
abbrev pM:=@List.map_eq_nil_iff
abbrev pT:=@List.flatMap_append
abbrev pV:=@List.length_nil
abbrev p_:=@Nat.min_eq_left
abbrev qf:=@Nat.min_le_left
abbrev qh:=@List.extract_eq_take_drop
abbrev qi:=@List.mem_or_eq_of_mem_set
abbrev qk:=@PySem.W.callWith_K
abbrev qo:=@PySem.F.called_enumerate
abbrev qq:=@PyProof.Rows.KeyOrd.klt_of_klt_of_kle
abbrev qr:=@Array.forIn_toList
abbrev qA:=@List.getElem?_take
abbrev qB:=@List.set_eq_of_length_le
abbrev qE:=@List.length_erase_of_mem
abbrev qS:=@Nat.add_sub_cancel
abbrev qV:=@PySem.wpAny_Name
abbrev q0:=@List.forIn_nil
abbrev rc:=@PyProof.Rows.wpS_get
abbrev re:=@List.getElem?_cons_succ
abbrev rh:=@List.eraseIdx_cons_succ
abbrev rj:=@PySem.Calls.spliced_nil
abbrev rl:=@List.take_sublist
abbrev rn:=@PySem.Obj.cls_mapFields
abbrev rL:=@PySem.F.args_zip_next_1
abbrev rS:=@Nat.lt_trichotomy
abbrev rV:=@Bool.eq_false_iff
abbrev rX:=@Nat.lt_succ_of_le
abbrev r0:=@List.drop_of_length_le
abbrev r8:=@List.head?_eq_getElem?
abbrev r_:=@PySem.wpAny_standAt
abbrev sd:=@Bool.or_false
abbrev se:=@Prod.ext
abbrev sf:=@Nat.succ_lt_succ
abbrev sh:=@List.any_eq_true
abbrev si:=@PySem.F.entry_zip_next
abbrev sk:=@PySem.wpAny_pyIter_zip
abbrev sn:=@Nat.lt_of_not_le
abbrev sq:=@List.nodup_range
abbrev sr:=@Array.toList_map
abbrev sv:=@decide_eq_decide
abbrev sx:=@List.mem_flatten
abbrev sC:=@List.mem_iff_getElem?
abbrev sD:=@List.perm_append_comm
abbrev sF:=@PyProof.Rows.KeyOrd.not_klt_of_kle
abbrev sK:=@PyProof.Rows.boot_str
abbrev sL:=@PySem.wpAny_loadName_local
abbrev sN:=@Array.mem_toList_iff
abbrev sP:=@List.of_mem_zip
abbrev sQ:=@PySem.wpAny_typeOf
abbrev sT:=@Array.toArray_toList
abbrev s_:=@List.length_erase_le
abbrev tf:=@PySem.wpAny_loadPart'
abbrev tj:=@List.zipIdx_nil
abbrev tm:=@PyProof.Rows.wpS_modify
abbrev tq:=@Array.toList_extract
abbrev tw:=@Nat.sub_le_sub_right
abbrev tz:=@PySem.codeAny_call_builtin
abbrev tF:=@Nat.succ_mul
abbrev tI:=@List.count_le_length
abbrev tJ:=@List.eq_nil_of_length_eq_zero
abbrev tN:=@PySem.W.plainGet_of
abbrev tP:=@List.take_succ_cons
abbrev tS:=@Nat.add_lt_add_left
abbrev tT:=@List.reverse_append
abbrev ue:=@List.flatten_append
abbrev ui:=@PySem.Heap.get?_update_ne
abbrev uj:=@List.drop_zero
abbrev uk:=@PySem.wpAny_newTuple
abbrev ul:=@PySem.wpAny_fieldsOf
abbrev uu:=@PySem.wpAny_letGo
abbrev uv:=@PySem.wpAny_Constant_int
abbrev uA:=@PySem.isSubtype_tuple_tuple
abbrev uB:=@PySem.Code.quiet_builtin
abbrev uC:=@PySem.wpAny_newList
abbrev uS:=@List.takeWhile_cons_of_pos
abbrev u7:=@Array.toList_setIfInBounds
abbrev u8:=@Array.perm_iff_toList_perm
abbrev ve:=@List.perm_ext_iff_of_nodup
abbrev vi:=@PySem.wpAny_assign_Name
abbrev vj:=@PySem.wpAny_Assign_Name
abbrev vn:=@PySem.F.args_tuple_lt_2
abbrev vv:=@List.count_append
abbrev vw:=@Nat.le_pred_of_lt
abbrev vx:=@PySem.Heap.get?_push_ne
abbrev vy:=@PySem.wpAny_call
abbrev vz:=@PySem.F.plain_extend_loop
abbrev vE:=@Nat.sub_lt
abbrev vF:=@List.getLast?_eq_getElem?
abbrev vS:=@Nat.min_le_right
abbrev vT:=@Nat.succ_ne_self
abbrev v0:=@List.filter_cons
abbrev v_:=@List.drop_length
abbrev wc:=@List.mem_reverse
abbrev we:=@Nat.add_zero
abbrev wf:=@Nat.pow_zero
abbrev wl:=@Option.getD_some
abbrev wm:=@Array.toList_zip
abbrev wn:=@List.getElem_map
abbrev wo:=@Int.lt_trans
abbrev wq:=@List.foldl_cons
abbrev wt:=@Nat.le_antisymm
abbrev wv:=@List.Perm.of_eq
abbrev ww:=@Nat.mul_add
abbrev wx:=@Nat.mul_one
abbrev wE:=@List.not_lt
abbrev wP:=@PySem.P.le_str
abbrev wS:=@List.Perm.refl
abbrev AA:=List (List Nat)
abbrev AB:=PySem.Value->PySem.Shared->Prop
abbrev AC:=List (PySem.Addr×PySem.Obj)
noncomputable section
namespace L2
open PySem
def zJ (h:Runs M Γ p t fs s e s'):s.toks<=s'.toks:=by
 induction h with| done|raise|yield=>show ah _| fresh _ ih=>show a8 (gy _) ih| again _ _ ih|rule _ ih|«at» _ ih|load _ _ ih|update _ _ ih|loadIfAlive _ ih|point _ ih|alloc _ ih|ask _ ih|choose _ _ ih|os _ ih|handled _ ih|genState _ _ ih|stack _ ih|thread _ ih|newGen _ ih=>show ih| call _ _ ih1 ih2=>show a8 ih1 ih2| callSusp _ ih=>show ih| resumeFresh _ _ _ _ ih1 ih2=>show a8 ih1 ih2| resumeSuspended _ _ _ _ ih1 ih2=>show a8 ih1 ih2| resumeJustStarted _ _ _ ih=>show ih| resumeThrowFresh _ _ ih=>show ih| resumeRunning _ _ ih=>show ih| resumeFinished _ _ ih=>show ih| segRet _ _ ih1 ih2=>show a8 ih1 ih2| segGen _ _ ih1 ih2=>show a8 ih1 ih2| segSuspOut _ _ ih=>show ih| segSuspGen _ _ _ _ ih1 ih2=>show a8 ih1 ih2
def Tn (h:Wakes M Γ p g r s res s'):s.toks<=s'.toks:=by
 unfold Wakes at h;split at h;.show h.elim
 .split at h
  .let⟨e,s1,hr,_,_,rfl⟩:=h;let z:=zJ hr;show z
  .let⟨_,rfl⟩:=h;show ah _
  .let⟨_,rfl⟩:=h;show ah _
 .let⟨e,s1,hr,_,_,rfl⟩:=h;let z:=zJ hr;show z
 .let⟨_,rfl⟩:=h;show ah _
 .let⟨_,rfl⟩:=h;show ah _
def af4 {α:Type}{M:Model}{Γ:Ctx}(t:Sem α)(n:Nat){Q:α->Pos->Shared->Prop}{E:Value->Pos->Shared->Prop}(p:Pos)(s:Shared)(hn:n<=s.toks)(h:Sem.wp M Γ t (λa p s=>n<=s.toks->Q a p s) (λe p s=>n<=s.toks->E e p s) p s):Sem.wp M Γ t Q E p s:=by
 revert h
 induction t generalizing p s with| pure x=>show λh=>h hn| raise v=>show λh=>h hn| unsupported|finish|yield|fork|await|register=>show id| fresh k ih=>show ih _ _ _ (a8 hn (gy _))| rule _ k ih|«at» _ k ih|alloc _ k ih|loadIfAlive _ k ih|point _ k ih|ask k ih|os _ _ k ih|handled _ k ih|newGen _ k ih|stack k ih|thread k ih=>show ih _ _ _ hn| load a _ k ih|genState a k ih=>show λ⟨o,ho,h⟩=>⟨o,ho,ih _ _ _ hn h⟩| update a _ f k ih|choose _ _ k ih=>show λ⟨ha,h⟩=>⟨ha,ih _ _ _ hn h⟩| call c h g l k ih=>show λ⟨r,s',hr,hR⟩=>⟨r,s',hr,ih _ _ _ (a8 hn (zJ hr)) hR⟩| resume g r l k ih=>show λ⟨res,s',hw,h⟩=>⟨res,s',hw,ih _ _ _ (a8 hn (Tn hw)) h⟩
def qj {α:Type}{t:Sem α}{Q:α->Shared->Prop}{s:Shared}(h:wpAny M A t (λa s'=>s.toks<=s'.toks->Q a s') (λe s'=>s.toks<=s'.toks->E e s') s):wpAny M A t Q E s:=λΓ p hΓ=>af4 t s.toks p s (ah _) (h Γ p hΓ)
end L2
namespace L2
open PySem PySem.Spec PyProof.Rows
abbrev Key:=Sum Int Str
def jE:Key->Value->Bool
 | .inl k,v=>Value.isInt k v
 | .inr x,v=>Value.isStrOf x v
def agI (w:World):Key->Int
 | .inl k=>hashInt k
 | .inr x=>hashStr w x
theorem dH:∀{k:Key} {v:Value},jE k v=true->(∃i t,k=Sum.inl i/\v=Value.int i t)\/(∃x t,k=Sum.inr x/\v=Value.str x t)
 | .inl i,v,h=>by let⟨t,e⟩:=Value.isInt_shape (k:=i) (v:=v) h;show .inl ⟨i,t,RA,e⟩
 | .inr x,v,h=>by let⟨t,e⟩:=Value.isStrOf_shape (x:=x) (v:=v) h;show .inr ⟨x,t,RA,e⟩
def Jr (i)(t:Tok):jE (.inl i) (.int i t)=true:=by simp[jE,Value.isInt]
def Js (x)(t:Tok):jE (.inr x) (.str x t)=true:=by simp[jE,Value.isStrOf]
def adD (a b):decide ((Sum.inl a:Key)=Sum.inl b)=(a==b):=by
 by_cases e:a=b;.subst e;simp
 .let h:¬(Sum.inl a:Key)=Sum.inl b:=λq=>e (Sum.inl.inj q)
  rw[am h];show(beq_eq_false_iff_ne.mpr e).symm
def adE (a b):decide ((Sum.inr a:Key)=Sum.inr b)=decide (a=b):=by
 by_cases e:a=b;.subst e;simp
 .let h:¬(Sum.inr a:Key)=Sum.inr b:=λq=>e (Sum.inr.inj q)
  rw[am h,am e]
def adF (a)(b):decide ((Sum.inl a:Key)=Sum.inr b)=false:=am (λq=>nomatch q)
def adG (a)(b):decide ((Sum.inr a:Key)=Sum.inl b)=false:=am (λq=>nomatch q)
noncomputable def dz (prog:Program)(w:World):PySem.KeyKind prog w Key where
 is:=jE
 hash:=agI w
 inj:=λv a b ha hb=>by
  rcases dH ha with⟨i,t,rfl,rfl⟩|⟨x,t,rfl,rfl⟩
  .rcases dH hb with⟨j,u,rfl,e⟩|⟨y,u,rfl,e⟩
   .injection e with e1 _;rw[e1]
   .show nomatch e
  .rcases dH hb with⟨j,u,rfl,e⟩|⟨y,u,rfl,e⟩;.show nomatch e
   .injection e with e1 _;rw[e1]
 byValue:=λk v h=>by rcases dH h with⟨i,t,rfl,rfl⟩|⟨x,t,rfl,rfl⟩ <;> rfl
 pyHash:=λhv h=>by
  rcases dH hv with⟨i,t,rfl,rfl⟩|⟨x,t,rfl,rfl⟩;.show wpAny_pyHash_int h
  .show wpAny_pyHash_str h
 eqBool:=λhu hv h=>by
  rcases dH hu with⟨i,t,rfl,rfl⟩|⟨x,t,rfl,rfl⟩
  .rcases dH hv with⟨j,u,rfl,rfl⟩|⟨y,u,rfl,rfl⟩;.rw[adD]at h;show wpAny_eqBool_int h
   .rw[adF]at h;show SeqAt.EqAt.int_str i t y u _ _ _ _ h
  .rcases dH hv with⟨j,u,rfl,rfl⟩|⟨y,u,rfl,rfl⟩;.rw[adG]at h;show SeqAt.EqAt.str_int x t j u _ _ _ _ h
   .rw[adE]at h;show wpAny_eqBool_str h
 «strs»:=λk x t v h=>by
  rcases dH h with⟨i,u,rfl,e⟩|⟨y,u,rfl,e⟩;.show nomatch e
  .injection e with e1 _;subst e1;cases v <;> rfl
def P_ (prog)(w)(i)(t:Tok):(dz prog w).is (.inl i) (.int i t)=true:=Jr i t
def Qa (prog)(w)(x)(t:Tok):(dz prog w).is (.inr x) (.str x t)=true:=Js x t
inductive V where
 | non|bl (b:Bool)|int (i:Int)|str (x:Str)|zp (b:Array UInt8)|flt (b:UInt64)|ref (a:Addr)|ty (n:String)
 deriving DecidableEq
def bN:V->Value->Prop
 | .non,u=>u=Value.none
 | .bl b,u=>u=Value.bool b
 | .int i,u=>∃t,u=Value.int i t
 | .str x,u=>∃t,u=Value.str x t
 | .zp b,u=>∃t,u=Value.bytes b t
 | .flt b,u=>∃t,u=Value.float b t
 | .ref a,u=>u=Value.ref a
 | .ty n,u=>u=Value.type n
abbrev Vals:List V->List Value->Prop:=Paired bN
def Vals.length (r:Vals xs us):xs.length=us.length:=Paired.length r
theorem Vals.get:∀{xs:List V} {us:List Value} {i:Nat} {x:V},Vals xs us->xs[i]?=some x->∃u,us[i]?=some u/\bN x u
 | _,_,_,_,.nil,e=>by simp at e
 | _,_,0,_,.cons r _,e=>by simp at e;subst e;show⟨_,RA,r⟩
 | _,_,i+1,x,.cons _ t,e=>by let⟨u,h1,h2⟩:=Vals.get (i:=i) (x:=x) t (by simpa using e);show⟨u,by simpa using h1,h2⟩
theorem Vals.set (r:bN x u):∀{xs:List V} {us:List Value} (i:Nat),Vals xs us->Vals (xs.set i x) (us.set i u)
 | _,_,_,.nil=>.nil
 | _,_,0,.cons _ t=>.cons r t
 | _,_,i+1,.cons q t=>.cons q (Vals.set r i t)
theorem Vals.append:∀{xs ys:List V} {us ws:List Value},Vals xs us->Vals ys ws->Vals (xs++ys) (us++ws)
 | _,_,_,_,.nil,s=>s
 | _,_,_,_,.cons r t,s=>.cons r (Vals.append t s)
theorem Vals.take:∀{xs:List V} {us:List Value} (n:Nat),Vals xs us->Vals (xs.take n) (us.take n)
 | _,_,0,_=>.nil
 | _,_,_+1,.nil=>.nil
 | _,_,n+1,.cons r t=>.cons r (Vals.take n t)
theorem Vals.drop:∀{xs:List V} {us:List Value} (n:Nat),Vals xs us->Vals (xs.drop n) (us.drop n)
 | _,_,0,r=>r
 | _,_,_+1,.nil=>.nil
 | _,_,n+1,.cons _ t=>Vals.drop n t
def mW:Option V->Option Value->Prop
 | some v,some u=>bN v u
 | none,none=>True
 | _,_=>False
def KV {κ:Type}:List (κ×V)->List (κ×Value)->Prop:=Paired λ(p:κ×V) (q:κ×Value)=>p.1=q.1/\bN p.2 q.2
def kV:Key->V
 | .inl i=>.int i
 | .inr x=>.str x
inductive HO where
 | lst (xs:List V)
 | tup (xs:List V)
 | dK (kvs:List (Key×V))|dT (kvs:List (List Key×V))
 | set (S:Int->Bool) (n:Nat)
 | ins (C dx:Addr) (fs:List (Str×V))
 | own (x:Addr)
 | xd (fs:List (Str×V))
 | met (f x:Addr)
 | rng (lo hi:Int)
 | qe (o:Obj) (u:HO)
 | LC (ps:Array Value)
 | ext (φ:Heap->Prop)
abbrev Hp:=Addr->Option HO
def upd (H:Hp)(a:Addr)(o:HO):Hp:=λb=>if b=a then some o else H b
def au:upd H a o a=some o:=by unfold upd;rw[if_pos rfl]
def bw (h:b≠a):upd H a o b=H b:=by unfold upd;rw[if_neg h]
def af5 {H:Hp}{a b:Addr}{o u:HO}(h:H a=some o)(h':H b=some u)(d:o≠u):a≠b:=by intro e;subst e;rw[h]at h';show d (bb h')
def bV {H:Hp}{a b:Addr}{o:HO}(h:H a=some o)(h':H b=none):a≠b:=by intro e;subst e;rw[h]at h';cases h'
section
variable (P:Program)(w:World)
def dW (H:Hp)(h:Heap)(a:Addr):HO->Prop
 | .lst xs=>xs.length<=sizeLine/\∃(its:List Value) (n:Nat),Vals xs its/\h.get? a=some {cls:=.type "list",data:=.seq its.toArray n}
 | .tup xs=>xs.length<=sizeLine/\∃its:List Value,Vals xs its/\IsTup h a its.toArray
 | .dK kvs=>kvs.length<=sizeLine/\(a==sysModules)=false/\∃vs,KV kvs vs/\h.DictOf (dz P w) a vs
 | .dT kvs=>kvs.length<=sizeLine/\(a==sysModules)=false/\∃xs:List (List Key×Addr×Value),
   Paired (λ(p:List Key×V) (q:List Key×Addr×Value)=>p.1=q.1/\H q.2.1=some (.tup (p.1.map kV))/\bN p.2 q.2.2) kvs xs/\
   ∃o es ep,h.get? a=some o/\o.ExactDict/\o.data=.dict es ep/\es.toList=xs.map (entryOfKey (tupleKind (dz P w)))/\(xs.map (·.1)).Nodup
 | .set S n=>h.SetOf (intKind P w) a S n
 | .ins C dx fs=>H dx=some (.own a)/\fs.length<=1000/\dx≠a/\h.get? a=some (W.instObj C dx)/\
   ∃mA,h.Ns1 dx mA/\(∀f,mW (fs.lookup f) (mA f))/\PySem.Within mA (fs.map (·.1))
 | .own _=>∃o,h.get? a=some o
 | .xd fs=>∃mA,h.Ns1 a mA/\∀f,mW (fs.lookup f) (mA f)
 | .rng lo hi=>∃t u v,h.get? a=some {cls:=.type "range",data:=.fields #[.int lo t,.int hi u,.int 1 v]}
 | .qe o u=>h.get? a=some o/\dW H h a u
 | .LC ps=>h.get? a=some {cls:=.none,data:=.fields ps}
 | .met f x=>h.get? a=some (W.methodObj (.ref f) (.ref x))
 | .ext φ=>φ h/\(∃o,h.get? a=some o)/\∀h1 h2:Heap,φ h1->(∀o,h1.get? a=some o->h2.get? a=some o)->φ h2
def jk (H:Hp)(h:Heap):Prop:=∀a o,H a=some o->dW P w H h a o
end
section
variable {P:Program}{w:World}{H H':Hp}{h h':Heap}{a:Addr}{o:HO}
def dW.lt (x:dW P w H h a o):a<h.objs.size:=by
 cases o with
 | lst xs=>let⟨_,_,_,_,e⟩:=x;show a6 e
 | tup xs=>let⟨_,_,_,p⟩:=x;show p.lt
 | dK kvs=>let⟨_,_,_,_,o,_,_,e,_⟩:=x;show a6 e
 | dT kvs=>let⟨_,_,_,_,o,_,_,e,_⟩:=x;show a6 e
 | set S n=>let⟨o,_,_,_,e,_⟩:=x;show a6 e
 | ins C dx fs=>let⟨_,_,_,e,_⟩:=x;show a6 e
 | own y=>let⟨_,e⟩:=x;show a6 e
 | xd fs=>obtain⟨_,⟨_,_,_,e,_⟩,_⟩:=x;show a6 e
 | rng lo hi=>let⟨_,_,_,e⟩:=x;show a6 e
 | qe ob u=>let⟨e,_⟩:=x;show a6 e
 | LC ps=>show a6 (show h.get? a=some _ from x)
 | met f y=>show a6 (show h.get? a=some _ from x)
 | ext φ=>obtain⟨_,⟨_,e⟩,_⟩:=x;show a6 e
theorem Paired.YS {α β:Type}{F G:α->β->Prop}:∀{l₁:List α} {l₂:List β},Paired F l₁ l₂->(∀a b,F a b->G a b)->Paired G l₁ l₂
 | _,_,.nil,_=>.nil
 | _,_,.cons r t,f=>.cons (f _ _ r) (Paired.YS t f)
def dW.stay (x:dW P w H h a o)(k:∀b u,(b=a\/H b=some (.own a))->h.get? b=some u->h'.get? b=some u)(ho:∀b,H b=some (.own a)->H' b=some (.own a))(ht:∀b xs,H b=some (.tup xs)->H' b=some (.tup xs)):dW P w H' h' a o:=by
 induction o with
 | lst xs=>let⟨z,its,n,r,e⟩:=x;show⟨z,its,n,r,k _ _ (.inl RA) e⟩
 | tup xs=>let⟨z,its,r,ob,e,c⟩:=x;show⟨z,its,r,ob,k _ _ (.inl RA) e,c⟩
 | dK kvs=>let⟨z,y,vs,r,ob,es,ep,e,c⟩:=x;show⟨z,y,vs,r,ob,es,ep,k _ _ (.inl RA) e,c⟩
 | dT kvs=>let⟨z,y,xs,r,ob,es,ep,e,c⟩:=x;show⟨z,y,xs,Paired.YS r λp q z=>⟨z.1,ht _ _ z.2.1,z.2.2⟩,ob,es,ep,k _ _ (.inl RA) e,c⟩
 | set S n=>let⟨ob,es,ep,t,e,c⟩:=x;show JI ob es ep t ⟨k _ _ (.inl RA) e,c⟩
 | ins C dx fs=>obtain⟨d,z,ne,e,mA,⟨od,es,ep,e2,c⟩,r⟩:=x;show⟨ho _ d,z,ne,k _ _ (.inl RA) e,mA,(JE od es ep ⟨k _ _ (.inr d) e2,c⟩),r⟩
 | own y=>let⟨ob,e⟩:=x;show⟨ob,k _ _ (.inl RA) e⟩
 | xd fs=>obtain⟨mA,⟨od,es,ep,e,c⟩,r⟩:=x;show⟨mA,(JE od es ep ⟨k _ _ (.inl RA) e,c⟩),r⟩
 | rng lo hi=>let⟨t,u,v,e⟩:=x;show JE t u v (k _ _ (.inl RA) e)
 | qe ob u ih=>let⟨e,q⟩:=x;show⟨k _ _ (.inl RA) e,ih q⟩
 | LC ps=>have e:h.get? a=some {cls:=.none,data:=.fields ps}:=x;show h'.get? a=some {cls:=.none,data:=.fields ps};show k a _ (.inl RA) e
 | met f y=>have e:h.get? a=some (W.methodObj (.ref f) (.ref y)):=x;show h'.get? a=some (W.methodObj (.ref f) (.ref y));show k a _ (.inl RA) e
 | ext φ=>obtain⟨p,⟨o,e⟩,st⟩:=x;show⟨st _ _ p λo q=>k _ _ (.inl RA) q,⟨o,k _ _ (.inl RA) e⟩,st⟩
def jk.lt (x:jk P w H h)(e:H a=some o):a<h.objs.size:=(x a o e).lt
def jk.fresh (x:jk P w H h)(e:h.objs.size<=a):H a=none:=by
 cases q:H a with| none=>rfl| some u=>show absurd (bu (x.lt q) e) (iF _)
def jk.kept (x:jk P w H h)(k:∀b u,h.get? b=some u->h'.get? b=some u):jk P w H h':=λa o e=>(x a o e).stay (λb u _ q=>k b u q) (λ_ q=>q) λ_ _ q=>q
def jk.laid (x:jk P w H h)(k:∀b u,h.get? b=some u->h'.get? b=some u)(hp:h.objs.size<=a)(new:dW P w (upd H a o) h' a o):jk P w (upd H a o) h':=λb u e=>by
 let hn:=x.fresh hp;by_cases hb:b=a;.subst hb;rw[au]at e;cases e;show new
 .rw[bw hb]at e;show(x b u e).stay (λc v _ q=>k c v q) (λc q=>by rw[bw (bV q hn)];show q) λc xs q=>by rw[bw (bV q hn)];show q
end
def Rd (H:Hp)(a:Addr)(u:HO):Prop:=H a=some u\/∃o,H a=some (.qe o u)
def Rd.ok (r:Rd H a u)(x:jk P w H h):dW P w H h a u:=by
 rcases r with r|⟨o,r⟩;.show x a u r
 .let⟨_,q⟩:=x a _ r;show q
def Vu:Option HO->Prop
 | some (.lst _)=>True
 | some (.dK _)=>True
 | some (.dT _)=>True
 | some (.set _ _)=>True
 | some (.ins _ _ _)=>True
 | some (.ext _)=>True
 | _=>False
section
variable {P:Program}{w:World}{H:Hp}{h h':Heap}{x e:Addr}{o':HO}
def jk.write (ok:jk P w H h)(mu:Vu (H x))(he:e=x\/H e=some (.own x))(k:∀b u,b≠e->h.get? b=some u->h'.get? b=some u)(heo:∃u,h'.get? e=some u)(new:dW P w (upd H x o') h' x o'):jk P w (upd H x o') h':=λb u q=>by
 let adH:∀c y,H c=some (.own y)->c≠x:=λc y r z=>by subst z;rw[r]at mu;show mu
 let agJ:∀c xs,H c=some (.tup xs)->c≠x:=λc xs r z=>by subst z;rw[r]at mu;show mu
 by_cases hb:b=x;.subst hb;rw[au]at q;cases q;show new
 .rw[bw hb]at q;by_cases hbe:b=e
  .let q':H b=some (.own x):=by
    rcases he with z|z;.show absurd (hbe.trans z) hb
    .rw[hbe];show z
   rw[q]at q';cases q';let⟨v,hv⟩:=heo;show⟨v,by rw[hbe];show hv⟩
  .refine(ok b u q).stay (λc v hc r=>k c v ?_ r) (λc r=>by rw[bw (adH c b r)];show r) λc xs r=>by rw[bw (agJ c xs r)];show r
   rcases hc with rfl|hc;.show hbe
   .rintro rfl;rcases he with z|z;.show adH c b hc z
    .rw[hc]at z;cases z;show hb rfl
end
structure Un (fs ex:List Addr)(H H':Hp)(h h':Heap):Prop where
 keep:∀b o,h.get? b=some o->H b=none->b∉fs->b∉ex->h'.get? b=some o
 slot:∀b o,h.get? b=some o->H b=none->b∈fs->b∉ex->∃sl,h'.get? b=some {o with slots:=sl}
 free:∀b o,h.get? b=some o->H b=none->b∉ex->H' b=none
 there:∀b o,h.get? b=some o->b∉ex->∃o',h'.get? b=some o'
 tups:∀b xs,H b=some (.tup xs)->H' b=some (.tup xs)
 vQ:∀b o u,H b=some (.qe o u)->H' b=some (.qe o u)
 xQ:∀b ps,H b=some (.LC ps)->∃more,H' b=some (.LC (ps++more))
section
variable {fs ex:List Addr}{H H1:Hp}{h h1 h':Heap}{a x e:Addr}{o:HO}
def Un.any (u:Un fs ex H H1 h h1)(q:h.get? b=some ob)(n:H b=none)(hx:b∉ex):∃sl,h1.get? b=some {ob with slots:=sl}:=by
 by_cases hb:b∈fs;.show u.slot b ob q n hb hx
 .show⟨ob.slots,u.keep b ob q n hb hx⟩
def Un.kept (k:∀b u,h.get? b=some u->h'.get? b=some u):Un fs ex H H h h':=⟨λb ob q _ _ _=>k b ob q,λb ob q _ _ _=>⟨ob.slots,k b ob q⟩,λ_ _ _ n _=>n,λb ob q _=>⟨ob,k b ob q⟩,λ_ _ q=>q,λ_ _ _ q=>q,λ_ ps q=>⟨#[],by rw[q];simp⟩⟩
def Un.refl:Un fs ex H H h h:=Un.kept λ_ _ q=>q
def Un.laid (k:∀b u,h.get? b=some u->h'.get? b=some u)(hp:h.objs.size<=a)(hn:H a=none):Un fs ex H (upd H a o) h h' where
 keep:=λb u q _ _ _=>k b u q
 slot:=λb u q _ _ _=>⟨u.slots,k b u q⟩
 free:=λb u q n _=>by rw[bw (bn (bu (a6 q) hp))];show n
 there:=λb u q _=>⟨u,k b u q⟩
 tups:=λb xs q=>by rw[bw (bV q hn)];show q
 vQ:=λb u xs q=>by rw[bw (bV q hn)];show q
 xQ:=λb ps q=>⟨#[],by rw[bw (bV q hn),q];simp⟩
def Un.write (mu:Vu (H x))(he:e=x\/H e=some (.own x))(k:∀b u,b≠e->h.get? b=some u->h'.get? b=some u)(heo:∃u,h'.get? e=some u):Un fs ex H (upd H x o) h h':=by
 let hx:∀b,H b=none->b≠x:=λb n z=>by subst z;rw[n]at mu;show mu
 let hb:∀b,H b=none->b≠e:=λb n z=>by
  subst z;rcases he with r|r;.show hx b n r
  .rw[n]at r;cases r
 let hm:∀b u,H b=some u->¬Vu (some u)->b≠x:=λb u q nm z=>by subst z;rw[q]at mu;show nm mu
 refine⟨λb u q n _ _=>k b u (hb b n) q,λb u q n _ _=>⟨u.slots,k b u (hb b n) q⟩,λb u q n _=>by rw[bw (hx b n)];show n,λb u q _=>?_,
  λb xs q=>by rw[bw (hm b _ q λz=>z)];show q,λb u xs q=>by rw[bw (hm b _ q λz=>z)];show q,λb ps q=>⟨#[],by rw[bw (hm b _ q λz=>z),q];simp⟩⟩
 by_cases hbe:b=e;.subst hbe;show heo
 .show⟨u,k b u hbe q⟩
end
def trk (h:Heap)(H:Hp):List Addr:=(List.range h.objs.size).filter λa=>(H a).isSome
def xR (h:Heap)(H:Hp):Heap:=W.hideAll h (trk h H)
def Vv (h)(H):(xR h H).objs.size=h.objs.size:=W.hideAll_size _ _
def YT {h:Heap}(e:h.get? b=some o)(n:H b=none):(xR h H).get? b=some o:=
 W.hideAll_get _ e λhm=>by let q:(H b).isSome=true:=(kR.mp hm).2;rw[n]at q;simp at q
def abH (e:(xR h H).get? b=some o):h.get? b=some o/\H b=none:=by
 let e':h.get? b=some o:=W.of_hideAll (trk h H) e;calc⟨e',?_⟩;cases q:H b with| none=>rfl| some x=>have hm:b∈trk h H:=kR.mpr ⟨bE.mpr (a6 e'),by simp[q]⟩;let z:(xR h H).get? b=none:=W.hideAll_none (trk h H) hm;rw[z]at e;cases e
structure Mod (K:W.Frag)(mg:Str->Option Value)(base:Heap):Prop where
 LK:K.In base
 glob:base.Ns mainGlobals mg
 blt:∃mb,base.Ns builtinsNs mb/\∀x:Str,x≠"__name__"->mb x=bootBuiltins x
 nolimit:base.NoLimit
structure Cx where
 prog:Program
 w:World
 K:W.Frag
 mg:Str->Option Value
 base:Heap
 A:Around
 N:List Str
 s₀:Shared
 H₀:Hp
 env:Env
 outer:List Env
 stack:List Env
 ex:List Addr
 fn:Str->Bool
 calm:Bool
 pn:List (Addr×Obj)
 xe:Value->Shared->Prop
def frs (l:List Env):List Addr:=l.filterMap (·.frame)
abbrev Cx.fs (X:Cx):List Addr:=frs X.outer
def Vw (sc:Scope)(x:Str):Prop:=sc.names.lookup x=some .local\/sc.names.lookup x=some .cell\/sc.names.lookup x=some .free
def Loc (sc:Scope)(x:Str):Prop:=sc.names.lookup x=some .local\/sc.names.lookup x=some .cell
def Look (env:Env)(h:Heap)(m:Str->Option Value)(x:Str)(u:Value):Prop:=(env.kindOf x=some .local/\m x=some u)\/((env.kindOf x=some .cell\/env.kindOf x=some .free)/\∃c,env.cells.lookup x=some c/\h.IsCell c (some u))
structure Cx.Ok (X:Cx):Prop where
 mod:Mod X.K X.mg X.base
 kind:X.env.scope.kind=.function
 glob:X.env.globals=mainGlobals
 blt:X.env.builtins=builtinsNs
 above:X.s₀.heap.objs.size<=X.env.locals
 inj:∀x y c,X.env.cells.lookup x=some c->X.env.cells.lookup y=some c->x=y
 has:∀x,(X.env.kindOf x=some .cell\/X.env.kindOf x=some .free)->∃c,X.env.cells.lookup x=some c
 cab:∀x c,X.fn x=true->X.env.cells.lookup x=some c->X.s₀.heap.objs.size<=c
 hd:X.calm=true->X.A.handled=none
 frames:X.A.frames=some X.stack
 stk:X.stack=X.outer\/(X.stack=X.env::X.outer/\X.env.frame=some X.env.locals)
 exf:∀b∈X.ex,b≠X.env.locals/\∀x c,X.env.cells.lookup x=some c->c≠b
 bs:∀b o,X.base.get? b=some o->X.s₀.heap.get? b=some o/\X.H₀ b=none
 EY:X.base.objs.size<=X.s₀.heap.objs.size
 LQ:∀b o,X.base.get? b=some o->b∉X.ex
 Tp:∀b∈X.ex,b∉X.fs
 rG:X.s₀.heap.FunFrames X.base X.outer
 LR:∀b∈X.fs,X.H₀ b=none
structure aM (X:Cx)(ao:AC)(σ:List (Option V))(H:Hp)(s:Shared):Prop where
 ok:X.Ok
 os:s.os=X.s₀.os
 bare:AllBare s.gens
 base:Un X.fs X.ex X.H₀ H X.s₀.heap s.heap
 loc:∃m,s.heap.Ns X.env.locals m/\∀(i:Nat) (x:Str) (v:V),X.N[i]?=some x->σ[i]?=some (some v)->Vw X.env.scope x->∃u,bN v u/\Look X.env s.heap m x u
 cell:∀x c,X.env.cells.lookup x=some c->∃v,s.heap.IsCell c v
 free:H X.env.locals=none
 oX:∀x c,X.env.cells.lookup x=some c->H c=none
 pin:∀p∈X.pn++ao,s.heap.get? p.1=some p.2/\H p.1=none/\p.1≠X.env.locals/\p.1∉X.fs/\∀v,p.2.data≠.cell v
 hok:jk X.prog X.w H s.heap
 len:σ.length=X.N.length
section
variable {X:Cx}{ao:AC}{σ:List (Option V)}{H H':Hp}{s:Shared}{h':Heap}
def Cx.Ok.agK (ok:X.Ok)(e:X.base.get? b=some o):b∉X.fs:=λhb=>by have:=(ok.rG.mem hb).1;rw[e]at this;cases this
def aM.bs (I:aM X ao σ H s):∀b o,X.base.get? b=some o->s.heap.get? b=some o/\H b=none:=λb o e=>⟨I.base.keep b o (I.ok.bs b o e).1 (I.ok.bs b o e).2 (I.ok.agK e) (I.ok.LQ b o e),I.base.free b o (I.ok.bs b o e).1 (I.ok.bs b o e).2 (I.ok.LQ b o e)⟩
def aM.bk (I:aM X ao σ H s):∀b o,X.base.get? b=some o->s.heap.get? b=some o:=λb o e=>(I.bs b o e).1
def aM.mod (I:aM X ao σ H s):Mod X.K X.mg X.base:=I.ok.mod
def aM.jH (I:aM X ao σ H s):X.K.In s.heap:=I.ok.mod.LK.keeps I.bk
def aM.lt (I:aM X ao σ H s):X.env.locals<s.heap.objs.size:=let ⟨_,hn,_⟩:=I.loc;hn.lt
def aM.sz (I:aM X ao σ H s):X.s₀.heap.objs.size<=s.heap.objs.size:=a8 I.ok.above (aT I.lt)
def aM.agL (I:aM X ao σ H s){a:Addr}(h:s.heap.objs.size<=a):a∉X.fs:=λhb=>by let⟨_,o,ho,_⟩:=I.ok.rG.mem hb;show absurd (bu (a6 ho) (a8 I.sz h)) (iF _)
def aM.Jt (I:aM X ao σ H s):∀x c,X.env.cells.lookup x=some c->c≠X.env.locals:=λx c e z=>by let⟨v,o,ho,hd⟩:=I.cell x c e;obtain⟨m,⟨o',es,ep,ho',hd',_⟩,_⟩:=I.loc;rw[z,ho']at ho;cases ho;rw[hd']at hd;cases hd
def aM.rG (I:aM X ao σ H s):s.heap.FunFrames X.base X.outer:=by
 let all:∀(l:List Env),(∀b∈frs l,b∈X.fs)->X.s₀.heap.FunFrames X.base l->s.heap.FunFrames X.base l:=by
  intro l
  induction l with| nil=>intro _ _;trivial| cons env r ih=>intro hs hl;obtain⟨hk,⟨L,o,hf,hn,ho,hd⟩,hr⟩:=hl;let hL:L∈X.fs:=hs L (by unfold frs;rw[kC,hf];show aE);let⟨sl,e⟩:=I.base.slot L o ho (I.ok.LR L hL) hL λz=>I.ok.Tp L z hL;show⟨hk,⟨L,_,hf,hn,e,hd⟩,ih (λb hb=>hs b (by unfold frs;rw[kC,hf];show ay _ hb)) hr⟩
 show all X.outer (λ_ hb=>hb) I.ok.rG
def aM.stack (I:aM X ao σ H s):s.heap.FunFrames X.base X.stack:=by
 rcases I.ok.stk with e|⟨e,hf⟩;.rw[e];show I.rG
 .rw[e];let⟨m,hn,_⟩:=I.loc;calc .cons (by rw[I.ok.kind];decide) hf hn ?_ I.rG;show Heap.get?_none_of_le (a8 I.ok.EY I.ok.above)
def aM.L_ (I:aM X ao σ H s):∀b∈frs X.stack,b∈X.env.locals::X.fs:=λb hb=>by
 rcases I.ok.stk with e|⟨e,hf⟩;.rw[e]at hb;show ay _ hb
 .rw[e]at hb;unfold frs at hb;rw[kC,hf]at hb;show hb
def aM.QV (I:aM X ao σ H s):∀b∈frs X.stack,H b=none:=λb hb=>by
 rcases ba.mp (I.L_ b hb) with e|hb;.rw[e];show I.free
 .let⟨_,o,ho,_⟩:=I.ok.rG.mem hb;show I.base.free b o ho (I.ok.LR b hb) λz=>I.ok.Tp b z hb
def aM.step {g':Array GenState}{t':Nat}{d':Drawn}{ch:List Addr}(I:aM X ao σ H s)(hch:∀b∈ch,(b∈X.ex\/X.s₀.heap.objs.size<=b)/\b≠X.env.locals/\(∀x c,X.env.cells.lookup x=some c->c≠b)/\∀p∈X.pn++ao,p.1≠b)(keep:∀b o,b≠X.env.locals->b∉X.fs->b∉ch->s.heap.get? b=some o->H b=none->h'.get? b=some o)(slot:∀b o,b≠X.env.locals->b∈X.fs->b∉ch->s.heap.get? b=some o->H b=none->∃sl,h'.get? b=some {o with slots:=sl})(free:∀b o,b∉ch->s.heap.get? b=some o->H b=none->H' b=none)(there:∀b o,b∉ch->s.heap.get? b=some o->∃o',h'.get? b=some o')(tups:∀b xs,H b=some (.tup xs)->H' b=some (.tup xs))(vQ:∀b o u,H b=some (.qe o u)->H' b=some (.qe o u))(xQ:∀b ps,H b=some (.LC ps)->∃more,H' b=some (.LC (ps++more)))(ns:∀m,s.heap.Ns X.env.locals m->h'.Ns X.env.locals m)(hok:jk X.prog X.w H' h')(hg:AllBare g'):aM X ao σ H' {s with heap:=h',gens:=g',drawn:=d',toks:=t' }:=by
 let neL:∀b o,X.s₀.heap.get? b=some o->b≠X.env.locals:=λb o e=>bn (bu (a6 e) I.ok.above);let Ju:∀b o,X.s₀.heap.get? b=some o->b∉X.ex->b∉ch:=λb o e hx hb=>by
  rcases(hch b hb).1 with z|z;.show hx z
  .show absurd (bu (a6 e) z) (iF _)
 let cellK:∀x c,X.env.cells.lookup x=some c->∀v,s.heap.IsCell c v->h'.IsCell c v:=λx c e v ⟨o,ho,hd⟩=>by
  let Vx:c∉ch:=λz=>(hch c z).2.2.1 x c e rfl;by_cases hc:c∈X.fs
  .let⟨sl,q⟩:=slot c o (I.Jt x c e) hc Vx ho (I.oX x c e);show⟨_,q,hd⟩
  .show⟨o,keep c o (I.Jt x c e) hc Vx ho (I.oX x c e),hd⟩
 calc⟨I.ok,I.os,hg,⟨λb o e n hb hx=>?_,λb o e n hb hx=>?_,λb o e n hx=>?_,λb o e hx=>?_,λb xs e=>tups b xs (I.base.tups b xs e),λb o xs e=>vQ b o xs (I.base.vQ b o xs e),λb ps e=>?_⟩,?_,λx c e=>?_,?_,λx c e=>?_,λp hp=>?_,hok,I.len⟩;.show keep b o (neL b o e) hb (Ju b o e hx) (I.base.keep b o e n hb hx) (I.base.free b o e n hx)
 .let⟨sl,e1⟩:=I.base.slot b o e n hb hx;let⟨sl',e2⟩:=slot b _ (neL b o e) hb (Ju b o e hx) e1 (I.base.free b o e n hx);show⟨sl',e2⟩
 .let⟨o',e1⟩:=I.base.there b o e hx;show free b o' (Ju b o e hx) e1 (I.base.free b o e n hx)
 .let⟨o',e1⟩:=I.base.there b o e hx;show there b o' (Ju b o e hx) e1
 .let⟨m1,e1⟩:=I.base.xQ b ps e;let⟨m2,e2⟩:=xQ b _ e1;show⟨m1++m2,by rw[e2,Array.append_assoc]⟩
 .let⟨m,hn,hl⟩:=I.loc;calc⟨m,ns m hn,λi x v e1 e2 e3=>?_⟩;let⟨u,r,l⟩:=hl i x v e1 e2 e3;calc⟨u,r,?_⟩;rcases l with l|⟨k,c,e,z⟩;.show .inl l
  .show .inr ⟨k,c,e,cellK x c e _ z⟩
 .let⟨v,z⟩:=I.cell x c e;show⟨v,cellK x c e v z⟩
 .obtain⟨m,⟨o,_,_,ho,_⟩,_⟩:=I.loc;show free _ o (λz=>(hch _ z).2.1 RA) ho I.free
 .let⟨v,o,ho,hd⟩:=I.cell x c e;show free c o (λz=>(hch c z).2.2.1 x c e RA) ho (I.oX x c e)
 .let⟨e,n,ne,nf,d⟩:=I.pin p hp;let Vx:p.1∉ch:=λz=>(hch p.1 z).2.2.2 p hp rfl;show⟨keep p.1 p.2 ne nf Vx e n,free p.1 p.2 Vx e n,ne,nf,d⟩
def aM.un (I:aM X ao σ H s)(u:Un X.fs [] H H' s.heap h')(hok:jk X.prog X.w H' h'):aM X ao σ H' {s with heap:=h',toks:=t' }:=by
 obtain⟨m,⟨o,es,ep,ho,r⟩,_⟩:=id I.loc;let⟨sl,hL⟩:=u.any ho I.free w8;show I.step (g':=s.gens) (d':=s.drawn) (ch:=[]) (λ_ z=>nomatch z) (λb o _ hb _ e n=>u.keep b o e n hb w8) (λb o _ hb _ e n=>u.slot b o e n hb w8) (λb o _ e n=>u.free b o e n w8) (λb o _ e=>u.there b o e w8) u.tups u.vQ u.xQ (λm' hm=>by let⟨o',es',ep',ho',r'⟩:=hm;rw[ho]at ho';cases ho';show(JE _ es' ep' ⟨hL,r'⟩)) hok I.bare
def aM.call (I:aM X ao σ H s)(u:Un (frs X.stack) ch H H' s.heap h')(hok:jk X.prog X.w H' h')(hg:AllBare g')(hch:∀b∈ch,(b∈X.ex\/X.s₀.heap.objs.size<=b)/\b≠X.env.locals/\(∀x c,X.env.cells.lookup x=some c->c≠b)/\∀p∈X.pn++ao,p.1≠b):aM X ao σ H' {s with heap:=h',gens:=g',drawn:=d',toks:=t' }:=by
 obtain⟨m,⟨o,es,ep,ho,r⟩,_⟩:=id I.loc;let⟨sl,hL⟩:=u.any ho I.free λz=>(hch _ z).2.1 rfl;show I.step (ch:=ch) hch (λb o hL hb hc e n=>u.keep b o e n (λz=>(ba.mp (I.L_ b z)).elim hL hb) hc) (λb o _ _ hc e n=>u.any e n hc) (λb o hc e n=>u.free b o e n hc) (λb o hc e=>u.there b o e hc) u.tups u.vQ u.xQ (λm' hm=>by let⟨o',es',ep',ho',r'⟩:=hm;rw[ho]at ho';cases ho';show(JE _ es' ep' ⟨hL,r'⟩)) hok hg
def aM.turned (I:aM X ao σ H s)(k:∀b o,b≠it->s.heap.get? b=some o->h'.get? b=some o)(hn:H it=none)(hL:it≠X.env.locals)(h1:it∈X.ex\/X.s₀.heap.objs.size<=it)(h2:∀x c,X.env.cells.lookup x=some c->c≠it)(h3:∀p∈X.pn++ao,p.1≠it):aM X ao σ H {s with heap:=h',toks:=t' }:=by
 let Vy:∀b u,H b=some u->b≠it:=λb u e z=>by rw[z,hn]at e;cases e
 refine I.step (g':=s.gens) (d':=s.drawn) (ch:=[it]) (λb hb=>?_) (λb o _ _ hc e _=>k b o (λz=>hc (by simp[z])) e) (λb o _ _ hc e _=>⟨o.slots,k b o (λz=>hc (by simp[z])) e⟩) (λ_ _ _ _ n=>n)
  (λb o hc e=>⟨o,k b o (λz=>hc (by simp[z])) e⟩) (λ_ _ e=>e) (λ_ _ _ e=>e) (λb ps e=>⟨#[],by rw[e];simp⟩) (λm hm=>?_) (λb u e=>?_) I.bare
 .let e:b=it:=by simpa using hb
  subst e;show⟨h1,hL,h2,h3⟩
 .let⟨o,es,ep,ho,r⟩:=hm;show JE o es ep ⟨k _ o (kq hL) ho,r⟩
 .refine(I.hok b u e).stay (λc v hc q=>k c v ?_ q) (λ_ q=>q) λ_ _ q=>q
  rcases hc with z|z;.rw[z];show Vy b u e
  .show Vy c _ z
def aM.tok (I:aM X ao σ H s)(t):aM X ao σ H {s with toks:=t}:=I.un (h':=s.heap) (t':=t) Un.refl I.hok
def aM.kept (I:aM X ao σ H s)(k:∀b u,s.heap.get? b=some u->h'.get? b=some u):aM X ao σ H {s with heap:=h',toks:=t' }:=I.un (Un.kept k) (I.hok.kept k)
def aM.laid {a:Addr}{o:HO}{t':Nat}(I:aM X ao σ H s)(k:∀b u,s.heap.get? b=some u->h'.get? b=some u)(hp:s.heap.objs.size<=a)(new:dW X.prog X.w (upd H a o) h' a o):aM X ao σ (upd H a o) {s with heap:=h',toks:=t' }:=I.un (Un.laid k hp (I.hok.fresh hp)) (I.hok.laid k hp new)
def aM.write (I:aM X ao σ H s)(mu:Vu (H x))(he:e=x\/H e=some (.own x))(k:∀b u,b≠e->s.heap.get? b=some u->h'.get? b=some u)(heo:∃u,h'.get? e=some u)(new:dW X.prog X.w (upd H x o) h' x o):aM X ao σ (upd H x o) {s with heap:=h',toks:=t' }:=I.un (Un.write mu he k heo) (I.hok.write mu he k heo new)
def aM.QX (I:aM X ao σ H s)(h:∀p∈aa6,s.heap.get? p.1=some p.2/\H p.1=none/\p.1≠X.env.locals/\p.1∉X.fs/\∀v,p.2.data≠.cell v):aM X aa6 σ H s:=⟨I.ok,I.os,I.bare,I.base,I.loc,I.cell,I.free,I.oX,λp hp=>(bd.mp hp).elim (λz=>I.pin p (oP _ z)) (h p),I.hok,I.len⟩
def Ma {N:List Str}(hN:N.Nodup){i j:Nat}{x:Str}(a:N[i]?=some x)(b:N[j]?=some x):i=j:=by let⟨h1,e1⟩:=al.mp a;let⟨h2,e2⟩:=al.mp b;show(List.getElem_inj hN).mp (e1.trans e2.symm)
def u9 (I:aM X ao σ H s)(hN:X.N.Nodup)(hi:X.N[i]?=some x)(hx:Loc X.env.scope x)(r:bN v u)(h:∀s',aM X ao (σ.set i (some v)) H s'->(∃a,Heap.SameBut a s.heap s'.heap/\(a=X.env.locals\/X.env.cells.lookup x=some a))->(∃m,s'.heap.Ns X.env.locals m/\Look X.env s'.heap m x u)->Q () s')(hf:X.fn x=true\/X.env.scope.names.lookup x=some .local:=by first|show .inl rfl|show .inr rfl|assumption):wpAny M A (storeName X.env x u) Q E s:=by
 let⟨m,hn,hl⟩:=id I.loc;let hcls:(X.env.scope.kind == .class||(X.env.scope.kind == .module&&X.env.locals != X.env.globals))=false:=by rw[I.ok.kind];rfl
 let hiσ:i<σ.length:=by rw[I.len];show(al.mp hi).1
 let Jt:=I.Jt;let tracked:∀{a:Addr} {h':Heap},(∃o,s.heap.get? a=some o/\H a=none)->Heap.SameBut a s.heap h'->jk X.prog X.w H h':=λ{a h'} ha hs b ob e=>by
  let⟨_,_,hfree⟩:=ha;calc(I.hok b ob e).stay (λc w' hc q=>(hs.2 c ?_).trans q) (λ_ q=>q) λ_ _ q=>q;rintro rfl;rcases hc with rfl|hc
  .rw[hfree]at e;cases e
  .rw[hfree]at hc;cases hc
 rcases hx with hk|hk
 .calc wpAny_storeName_local hk hn (λh' hn' hs=>?_) hcls;let⟨oL,_,_,hoL,_⟩:=id hn;calc h _ ⟨I.ok,I.os,I.bare,⟨λb o e n hb hx=>?_,λb o e n hb hx=>?_,I.base.free,λb o e hx=>?_,I.base.tups,I.base.vQ,I.base.xQ⟩,⟨_,hn',λj y v' e1 e2 e3=>?_⟩,λy c e=>?_,I.free,I.oX,λp hp=>?_,tracked ⟨oL,hoL,I.free⟩ hs,by simpa using I.len⟩ ⟨_,hs,.inl RA⟩ ⟨_,hn',.inl ⟨hk,w8⟩⟩;.show(hs.2 b (bn (bu (a6 e) I.ok.above))).trans (I.base.keep b o e n hb hx)
  .let⟨sl,e1⟩:=I.base.slot b o e n hb hx;show⟨sl,(hs.2 b (bn (bu (a6 e) I.ok.above))).trans e1⟩
  .let⟨o',e1⟩:=I.base.there b o e hx;show⟨o',(hs.2 b (bn (bu (a6 e) I.ok.above))).trans e1⟩
  .by_cases hj:j=i
   .subst hj;rw[hi]at e1;cases e1;rw[iA hiσ]at e2;cases e2;show⟨u,r,.inl ⟨hk,w8⟩⟩
   .rw[ly (kq hj)]at e2;let⟨u',r',q⟩:=hl j y v' e1 e2 e3;calc⟨u',r',?_⟩;rcases q with⟨k,e⟩|⟨k,c,e,z⟩
    .calc .inl ⟨k,?_⟩;have:y≠x:=λe=>hj (Ma hN e1 (e ▸ hi));simp[this,e]
    .show .inr ⟨k,c,e,z.sameBut hs (Jt y c e)⟩
  .let⟨w',z⟩:=I.cell y c e;show⟨w',z.sameBut hs (Jt y c e)⟩
  .let⟨e,n,ne,nf,d⟩:=I.pin p hp;show⟨(hs.2 p.1 ne).trans e,n,ne,nf,d⟩
 .let hfn:X.fn x=true:=by
   rcases hf with z|z;.show z
   .rw[z]at hk;cases hk
  let⟨c,hc⟩:=I.ok.has x (.inl hk);let⟨w',z⟩:=I.cell x c hc;calc wpAny_storeName_cell I.ok.kind hk hc z (λh' hc' hs=>?_);let⟨oc,hoc,agM⟩:=id z;calc h {s with heap:=h' } ⟨I.ok,I.os,I.bare,⟨λb o e n hb hx=>?_,λb o e n hb hx=>?_,I.base.free,λb o e hx=>?_,I.base.tups,I.base.vQ,I.base.xQ⟩,⟨m,hn.sameBut hs (kq (Jt x c hc)),λj y v' e1 e2 e3=>?_⟩,λy c' e=>?_,I.free,I.oX,λp hp=>?_,tracked ⟨oc,hoc,I.oX x c hc⟩ hs,by simpa using I.len⟩ ⟨c,hs,.inr hc⟩ ⟨m,hn.sameBut hs (kq (Jt x c hc)),.inr ⟨.inl hk,c,hc,hc'⟩⟩;.show(hs.2 b (bn (bu (a6 e) (I.ok.cab x c hfn hc)))).trans (I.base.keep b o e n hb hx)
  .let⟨sl,e1⟩:=I.base.slot b o e n hb hx;show⟨sl,(hs.2 b (bn (bu (a6 e) (I.ok.cab x c hfn hc)))).trans e1⟩
  .let⟨o',e1⟩:=I.base.there b o e hx;show⟨o',(hs.2 b (bn (bu (a6 e) (I.ok.cab x c hfn hc)))).trans e1⟩
  .by_cases hj:j=i
   .subst hj;rw[hi]at e1;cases e1;rw[iA hiσ]at e2;cases e2;show⟨u,r,.inr ⟨.inl hk,c,hc,hc'⟩⟩
   .rw[ly (kq hj)]at e2;let⟨u',r',q⟩:=hl j y v' e1 e2 e3;calc⟨u',r',?_⟩;rcases q with q|⟨k,c',e,z'⟩;.show .inl q
    .calc .inr ⟨k,c',e,z'.sameBut hs ?_⟩;rintro rfl;show hj (Ma hN e1 (I.ok.inj _ _ _ e hc ▸ hi))
  .by_cases hcc:c'=c;.subst hcc;show⟨_,hc'⟩
   .let⟨w2,z2⟩:=I.cell y c' e;show⟨w2,z2.sameBut hs hcc⟩
  .let⟨e,n,ne,nf,d⟩:=I.pin p hp;calc⟨(hs.2 p.1 ?_).trans e,n,ne,nf,d⟩;intro q;rw[q,hoc]at e;let q':oc=p.2:=bb e;show d w' (by rw[<-q'];show agM)
def Ds (I:aM X ao σ H s)(hN:X.N.Nodup)(hi:X.N[i]?=some x)(hx:Loc X.env.scope x)(r:bN v u)(h:∀s',aM X ao (σ.set i (some v)) H s'->Q () s')(hf:X.fn x=true\/X.env.scope.names.lookup x=some .local:=by first|show .inl rfl|show .inr rfl|assumption):wpAny M A (storeName X.env x u) Q E s:=u9 I hN hi hx r (λs' I' _ _=>h s' I') hf
def aM.call' {s':Shared}(I:aM X ao σ H s)(ho:s'.os=s.os)(u:Un (frs X.stack) ch H H' s.heap s'.heap)(hok:jk X.prog X.w H' s'.heap)(hg:AllBare s'.gens)(hch:∀b∈ch,(b∈X.ex\/X.s₀.heap.objs.size<=b)/\b≠X.env.locals/\(∀x c,X.env.cells.lookup x=some c->c≠b)/\∀p∈X.pn++ao,p.1≠b):aM X ao σ H' s':=by let⟨h',g',d',t',o'⟩:=s';let e:o'=s.os:=ho;subst e;show I.call (g':=g') (t':=t') (d':=d') u hok hg hch
end
abbrev XK:=Value->Option Addr->Hp->Prop
abbrev St:=List (Option V)
abbrev VK:=V->Hp->Prop
abbrev TE:=St->Hp->VK->Prop
abbrev TT:=St->Hp->(Bool->Hp->Prop)->Prop
abbrev TA:=St->Hp->(List V->Hp->Prop)->Prop
structure Ends where
 nx:St->Hp->Prop
 rt:VK
 bk:St->Hp->Prop:=λ_ _=>False
 ct:St->Hp->Prop:=λ_ _=>False
abbrev TS:=Ends->St->Hp->Prop
def EP (X:Cx)(ao:AC)(σ:St)(Q:VK)(u:Value)(s':Shared):Prop:=∃v H',aM X ao σ H' s'/\bN v u/\Q v H'
def TP (X:Cx)(ao:AC)(σ:St)(Q:Bool->Hp->Prop)(b:Bool)(s':Shared):Prop:=∃H',aM X ao σ H' s'/\Q b H'
def AP (X:Cx)(ao:AC)(σ:St)(Q:List V->Hp->Prop)(us:List Value)(s':Shared):Prop:=∃vs H',aM X ao σ H' s'/\Vals vs us/\Q vs H'
def SP (X:Cx)(ao:AC)(D:Ends)(f:Flow)(s':Shared):Prop:=match f with| .next=>∃σ' H',aM X ao σ' H' s'/\D.nx σ' H'| .brk=>∃σ' H',aM X ao σ' H' s'/\D.bk σ' H'| .cont=>∃σ' H',aM X ao σ' H' s'/\D.ct σ' H'| .ret u=>∃v σ' H',aM X ao σ' H' s'/\bN v u/\D.rt v H'
def PE (X:Cx)(e:Expr)(t:TE):Prop:=∀(ao:AC) (s:Shared) (σ:St) (H:Hp) (Q:VK),aM X ao σ H s->t σ H Q->wpAny (model X.prog X.w) X.A (eval e X.env) (EP X ao σ Q) X.xe s
def PT (X:Cx)(e:Expr)(t:TT):Prop:=∀(ao:AC) (s:Shared) (σ:St) (H:Hp) (Q:Bool->Hp->Prop),aM X ao σ H s->t σ H Q->wpAny (model X.prog X.w) X.A (isTrue e X.env (eval e X.env)) (TP X ao σ Q) X.xe s
def PW (X:Cx)(e:Expr)(t:TT):Prop:=∀(whole:Sem Value) (ao:AC) (s:Shared) (σ:St) (H:Hp) (Q:Bool->Hp->Prop),aM X ao σ H s->t σ H Q->wpAny (model X.prog X.w) X.A (isTrue e X.env whole) (TP X ao σ Q) X.xe s
def PW.pt (h:PW X e t):PT X e t:=h _
def PA (X:Cx)(es:List Expr)(t:TA):Prop:=∀(pos:Pos) (ao:AC) (s:Shared) (σ:St) (H:Hp) (Q:List V->Hp->Prop),aM X ao σ H s->t σ H Q->wpAny (model X.prog X.w) X.A (spliced (backTo pos (starEach es X.env))) (AP X ao σ Q) X.xe s
def PS (X:Cx)(st:Stmt)(t:TS):Prop:=∀(ao:AC) (s:Shared) (σ:St) (H:Hp) (D:Ends),aM X ao σ H s->t D σ H->wpAny (model X.prog X.w) X.A (exec st X.env) (SP X ao D) X.xe s
def sy (X:Cx)(st:List Stmt)(t:TS):Prop:=∀(ao:AC) (s:Shared) (σ:St) (H:Hp) (D:Ends),aM X ao σ H s->t D σ H->wpAny (model X.prog X.w) X.A (execs st X.env) (SP X ao D) X.xe s
def bM {α:Type}{t:Sem α}{Q Q':α->Shared->Prop}(h:wpAny M A t Q E s)(hQ:∀a s,Q a s->Q' a s):wpAny M A t Q' E s:=fN h hQ λ_ _ x=>x
section
variable {X:Cx}
abbrev gV (o:Option (Option V))(f:V->Prop):Prop:=match o with|some (some v)=>f v|_=>False
theorem af6:∀{o:Option (Option V)},gV o f->∃v,o=some (some v)/\f v
 | some (some v),h=>⟨v,RA,h⟩
def ahK (v)(e:o=some (some v))(h:f v):gV o f:=by subst e;show h
abbrev Jv (x:V)(f:Bool->Prop):Prop:=match x with|.bl c=>f c|_=>False
theorem oY:∀{x:V},Jv x f->∃c,x=.bl c/\f c
 | .bl c,h=>⟨c,RA,h⟩
def aU (c)(e:x=.bl c)(h:f c):Jv x f:=by subst e;show h
def eF (i:Nat):TE:=λσ H Q=>gV σ[i]? λv=>Q v H
def tC (v:V):TE:=λ_ H Q=>Q v H
def adI {i:Nat}{x:Str}{pos:Pos}(hN:X.N[i]?=some x)(hv:Vw X.env.scope x)(hd:(x==("__debug__":Str))=false:=by decide)(hcd:(x==("__classdict__":Str))=false:=by decide):PE X (.Name x pos) (eF i):=by
 intro ao s σ H Q I h;let⟨v,e,h⟩:=af6 h;let⟨m,hn,hl⟩:=I.loc;let⟨u,r,l⟩:=hl i x v hN e hv;let fin:EP X ao σ Q u s:=⟨v,H,I,r,h⟩
 rcases l with⟨hk,hm⟩|⟨hk,c,hc,hcell⟩;.show qV (sL I.ok.kind hk hn hm fin) hd
 .rcases hk with hk|hk;.show qV (wpAny_loadName_cell I.ok.kind hk hc hcell fin) hd
  .show qV (wpAny_loadName_free I.ok.kind hk hc hcell fin hcd) hd
def adJ {i j pos}:PE X (.Constant (.int i) j pos) (tC (.int i)):=λ_ _ _ H _ I h=>uv ⟨.int i,H,I.tok _,⟨_,RA⟩,h⟩
def af7 {b j pos}:PE X (.Constant (.bool b) j pos) (tC (.bl b)):=λ_ _ _ H _ I h=>Constant_bool ⟨.bl b,H,I,RA,h⟩
def adK {j pos}:PE X (.Constant .none j pos) (tC .non):=λ_ _ _ H _ I h=>Constant_none ⟨.non,H,I,RA,h⟩
def adL {x j pos}:PE X (.Constant (.str x) j pos) (tC (.str x)):=λ_ _ _ H _ I h=>nE ⟨.str x,H,I.tok _,⟨_,RA⟩,h⟩
def Gl (X:Cx)(x:Str):Prop:=X.env.kindOf x=some .globalImplicit
def Bl {E:AB}{ao:AC}{s:Shared}{σ:St}{H:Hp}{x:Str}{u:Value}{pos:Pos}{Q:AB}(I:aM X ao σ H s)(hg:Gl X x)(hm:X.mg x=some u)(h:Q u s)(hd:(x==("__debug__":Str))=false:=by decide):wpAny (model X.prog X.w) X.A (eval (.Name x pos) X.env) Q E s:=Calls.Name_function_global I.ok.kind hg (Calls.loadGlobal_global (by rw[I.ok.glob];show I.mod.glob.keeps I.bk) hm h) hd
def mX {E:AB}{ao:AC}{s:Shared}{σ:St}{H:Hp}{x:Str}{u:Value}{pos:Pos}{Q:AB}(I:aM X ao σ H s)(hg:Gl X x)(hm:X.mg x=none)(hv:bootBuiltins x=some u)(h:Q u s)(hn:x≠"__name__":=by decide)(hd:(x==("__debug__":Str))=false:=by decide):wpAny (model X.prog X.w) X.A (eval (.Name x pos) X.env) Q E s:=by let⟨mb,h1,h2⟩:=I.mod.blt;show Calls.Name_function_global I.ok.kind hg (Calls.loadGlobal_builtin (by rw[I.ok.glob];show I.mod.glob.keeps I.bk) hm (by rw[I.ok.blt];show h1.keeps I.bk) ((h2 x hn).trans hv) h) hd
def abI (hg:Gl X x)(hm:X.mg x=some u)(r:bN v u)(hd:(x==("__debug__":Str))=false:=by decide):PE X (.Name x pos) (tC v):=λ_ _ _ H _ I h=>Bl I hg hm ⟨v,H,I,r,h⟩ hd
def abJ {x:Str}{v:V}{u:Value}{pos:Pos}(hg:Gl X x)(hm:X.mg x=none)(hv:bootBuiltins x=some u)(r:bN v u)(hn:x≠"__name__":=by decide)(hd:(x==("__debug__":Str))=false:=by decide):PE X (.Name x pos) (tC v):=λ_ _ _ H _ I h=>mX I hg hm hv ⟨v,H,I,r,h⟩ hn hd
variable {a b:Expr}{ta tb:TE}{pos:Pos}
def PC (X:Cx)(op:CmpOp)(a b:Expr)(t:TE):Prop:=∀(ao:AC) (s:Shared) (σ:St) (H:Hp) (Q:VK),aM X ao σ H s->t σ H Q->
  wpAny (model X.prog X.w) X.A (eval a X.env) (λv s₁=>wpAny (model X.prog X.w) X.A (eval b X.env) (λu s₂=>wpAny (model X.prog X.w) X.A (compareOp op v u) (EP X ao σ Q) X.xe s₂) X.xe s₁) X.xe s
def tB (t:TE):TT:=λσ H Q=>t σ H λx H1=>Jv x λc=>Q c H1
def adM (h:PC X op a b t)(h1:behindInMarks op b=false:=by first|show YW _ w_ w_|rfl):PE X (.Compare a [op] [b] pos) t:=λao s σ H Q I hw=>wpAny_Compare1 (h ao s σ H Q I hw) h1
def adN (h:PE X e t)(he:∀whole,isTrue e X.env whole=(do let v <- whole;standAt e.pos;holding [v] (truthy v)):=by intro _;rfl):PT X e (tB t):=by intro ao s σ H Q I hw;calc isTrue_plain (bM (h ao s σ H _ I hw) λv s1 zz=>?_) (he _);let⟨x,H1,I1,r1,q1⟩:=zz;let⟨d,rfl,q⟩:=oY q1;cases r1;show eP ⟨H1,I1,q⟩
variable {tA mY:TT}{rest:List Expr}
def adO (t u:TT):TT:=λσ H Q=>t σ H λc H1=>if c=true then u σ H1 Q else Q false H1
def tOr (t u:TT):TT:=λσ H Q=>t σ H λc H1=>if c=true then Q true H1 else u σ H1 Q
def adP (t:TT):TT:=λσ H Q=>t σ H λc H1=>Q (!c) H1
def abK (ha:PT X a tA):PW X (.BoolOp .And [a] pos) tA:=by
 intro wh ao s σ H Q I h;calc isTrue_and (bM (ha ao s σ H Q I h) λc s1 e=>?_);cases c with| true=>show isTrue_and_nil e| false=>show e
def adQ (ha:PT X a tA):PW X (.BoolOp .Or [a] pos) tA:=by
 intro wh ao s σ H Q I h;calc isTrue_or (bM (ha ao s σ H Q I h) λc s1 e=>?_);cases c with| false=>show isTrue_or_nil e| true=>show e
def adR (ha:PT X a tA)(hb:PW X (.BoolOp .And (b::rest) pos) mY):PW X (.BoolOp .And (a::b::rest) pos) (adO tA mY):=by
 intro wh ao s σ H Q I h;calc isTrue_and (bM (ha ao s σ H _ I h) λc s1 zz=>?_);let⟨H1,I1,q1⟩:=zz;cases c with| true=>show hb wh ao s1 σ H1 Q I1 q1| false=>show⟨H1,I1,q1⟩
def af8 (ha:PT X a tA)(hb:PW X (.BoolOp .Or (b::rest) pos) mY):PW X (.BoolOp .Or (a::b::rest) pos) (tOr tA mY):=by
 intro wh ao s σ H Q I h;calc isTrue_or (bM (ha ao s σ H _ I h) λc s1 zz=>?_);let⟨H1,I1,q1⟩:=zz;cases c with| true=>show⟨H1,I1,q1⟩| false=>show hb wh ao s1 σ H1 Q I1 q1
def adS (ha:PT X a tA):PT X (.UnaryOp .Not a pos) (adP tA):=by intro ao s σ H Q I h;show isTrue_not (ha ao s σ H (λc H1=>Q (!c) H1) I h)
def aa7 (ta tb:TE):TE:=λσ H Q=>ta σ H λx H1=>Jv x λc=>if c=true then tb σ H1 Q else Q (.bl false) H1
def adT (ta tb:TE):TE:=λσ H Q=>ta σ H λx H1=>Jv x λc=>if c=true then Q (.bl true) H1 else tb σ H1 Q
def aa8 (ta:TE):TE:=λσ H Q=>ta σ H λx H1=>Jv x λc=>Q (.bl (!c)) H1
def adU {op}(h:PE X a t):PE X (.BoolOp op [a] pos) t:=λao s σ H Q I hw=>BoolOp_one (h ao s σ H Q I hw)
def adV (ha:PE X a ta)(hb:PE X (.BoolOp .And (b::rest) pos) tb):PE X (.BoolOp .And (a::b::rest) pos) (aa7 ta tb):=by
 intro ao s σ H Q I h;calc BoolOp_and (bM (ha ao s σ H _ I h) λv s1 zz=>?_);let⟨x,H1,I1,r1,q1⟩:=zz;let⟨c,rfl,q1⟩:=oY q1;cases r1;calc eP ?_;cases c with| true=>show hb ao s1 σ H1 Q I1 q1| false=>show⟨.bl false,H1,I1,RA,q1⟩
def af9 (ha:PE X a ta)(hb:PE X (.BoolOp .Or (b::rest) pos) tb):PE X (.BoolOp .Or (a::b::rest) pos) (adT ta tb):=by
 intro ao s σ H Q I h;calc BoolOp_or (bM (ha ao s σ H _ I h) λv s1 zz=>?_);let⟨x,H1,I1,r1,q1⟩:=zz;let⟨c,rfl,q1⟩:=oY q1;cases r1;calc eP ?_;cases c with| false=>show hb ao s1 σ H1 Q I1 q1| true=>show⟨.bl true,H1,I1,RA,q1⟩
def adW (ha:PE X a ta):PE X (.UnaryOp .Not a pos) (aa8 ta):=by intro ao s σ H Q I h;calc UnaryOp_ (bM (ha ao s σ H _ I h) λv s1 zz=>?_);let⟨x,H1,I1,r1,q1⟩:=zz;let⟨c,rfl,q1⟩:=oY q1;cases r1;show not_of (eP ⟨.bl (!c),H1,I1,RA,q1⟩)
def tIf (t:TT)(ta tb:TE):TE:=λσ H Q=>t σ H λc H1=>if c=true then ta σ H1 Q else tb σ H1 Q
def YX (hc:PT X c tA)(ha:PE X a ta)(hb:PE X b tb):PE X (.IfExp c a b pos) (tIf tA ta tb):=by
 intro ao s σ H Q I h;calc wpAny_IfExp (bM (hc ao s σ H _ I h) λd s1 zz=>?_);let⟨H1,I1,q1⟩:=zz;cases d with| true=>show ha ao s1 σ H1 Q I1 q1| false=>show hb ao s1 σ H1 Q I1 q1
end
def aP (K:W.Frag)(H:Hp)(a:Addr)(xs:List V):Prop:=Rd H a (.lst xs)\/
  ∃(o:Obj) (its:Array Value) (n:Nat),K.lookup a=some o/\o.cls=.type "list"/\o.dict=none/\o.data=.seq its n/\its.size<=sizeLine/\Vals xs its.toList
def aN (K:W.Frag)(H:Hp)(a:Addr)(xs:List V):Prop:=Rd H a (.tup xs)\/
  ∃(o:Obj) (its:Array Value) (n:Nat),K.lookup a=some o/\o.cls=.type "tuple"/\o.data=.seq its n/\its.size<=sizeLine/\Vals xs its.toList
noncomputable def agN:Value->Option V
 | .none=>some .non
 | .bool b=>some (.bl b)
 | .int i _=>some (.int i)
 | .str x _=>some (.str x)
 | .bytes b _=>some (.zp b)
 | .float b _=>some (.flt b)
 | .ref a=>some (.ref a)
 | .type n=>some (.ty n)
 | _=>none
def bN.abs (r:bN x u):agN u=some x:=by
 cases x with
 | non=>cases r;rfl
 | bl _=>cases r;rfl
 | int _=>let⟨t,rfl⟩:=r;rfl
 | str _=>let⟨t,rfl⟩:=r;rfl
 | zp _=>let⟨t,rfl⟩:=r;rfl
 | flt _=>let⟨t,rfl⟩:=r;rfl
 | ref _=>cases r;rfl
 | ty _=>cases r;rfl
def bN.inj (r:bN x u)(q:bN y u):x=y:=bb (r.abs.symm.trans q.abs)
theorem Vals.inj:∀{xs ys:List V} {us:List Value},Vals xs us->Vals ys us->xs=ys
 | _,_,_,.nil,.nil=>rfl
 | _,_,_,.cons r t,.cons r' t'=>by rw[r.inj r',Vals.inj t t']
section
variable {X:Cx}{ao:AC}{σ:St}{H:Hp}{s:Shared}{a:Addr}{xs ys:List V}
def aP.of {K:W.Frag}(h:H a=some (.lst xs)):aP K H a xs:=.inl (.inl h)
def aN.of {K:W.Frag}(h:H a=some (.tup xs)):aN K H a xs:=.inl (.inl h)
def aM.list (I:aM X ao σ H s)(h:aP X.K H a xs):∃its:List Value,Vals xs its/\PlainL s.heap a its.toArray/\xs.length<=sizeLine:=by
 rcases h with h|⟨o,its,n,hk,hc,hd,hs,hz,r⟩
 .let⟨z,its,n,r,e⟩:=h.ok I.hok;show⟨its,r,⟨_,n,e,RA,RA,RA⟩,z⟩
 .calc⟨its.toList,r,⟨o,n,I.jH a o hk,hc,hd,by simpa using hs⟩,?_⟩;let e:=r.length;simp only[bo]at e;lia
def aM.tuple (I:aM X ao σ H s)(h:aN X.K H a xs):∃its:List Value,Vals xs its/\IsTup s.heap a its.toArray/\xs.length<=sizeLine:=by
 rcases h with h|⟨o,its,n,hk,hc,hs,hz,r⟩
 .let⟨z,its,r,p⟩:=h.ok I.hok;show⟨its,r,p,z⟩
 .calc⟨its.toList,r,⟨o,I.jH a o hk,hc,n,by simpa using hs⟩,?_⟩;let e:=r.length;simp only[bo]at e;lia
def aM.xT (I:aM X ao σ H s)(h:aP X.K H a xs)(h':aP X.K H a ys):xs=ys:=by
 obtain⟨its,r,⟨o,n,e,_,_,d⟩,_⟩:=I.list h;obtain⟨its',r',⟨o',n',e',_,_,d'⟩,_⟩:=I.list h';rw[e]at e';cases e';rw[d]at d';injection d' with d1 _;have:its=its':=by simpa using congrArg Array.toList d1
 subst this;show r.inj r'
def aM.Jw (I:aM X ao σ H s)(h:aN X.K H a xs)(h':aN X.K H a ys):xs=ys:=by
 obtain⟨its,r,⟨o,e,_,n,d⟩,_⟩:=I.tuple h;obtain⟨its',r',⟨o',e',_,n',d'⟩,_⟩:=I.tuple h';rw[e]at e';cases e';rw[d]at d';injection d' with d1 _;have:its=its':=by simpa using congrArg Array.toList d1
 subst this;show r.inj r'
end
abbrev Cx.wish (X:Cx)(E:AB):Cx:={X with xe:=E}
abbrev Cx.Jx (X:Cx):Cx:=X.wish λ_ _=>False
def Cx.Ok.wish {X:Cx}(ok:X.Ok)(E:AB):(X.wish E).Ok:=⟨ok.mod,ok.kind,ok.glob,ok.blt,ok.above,ok.inj,ok.has,ok.cab,ok.hd,ok.frames,ok.stk,ok.exf,ok.bs,ok.EY,ok.LQ,ok.Tp,ok.rG,ok.LR⟩
def Cx.Ok.qU {X:Cx}(ok:(X.wish E).Ok):X.Ok:=⟨ok.mod,ok.kind,ok.glob,ok.blt,ok.above,ok.inj,ok.has,ok.cab,ok.hd,ok.frames,ok.stk,ok.exf,ok.bs,ok.EY,ok.LQ,ok.Tp,ok.rG,ok.LR⟩
section
variable {X:Cx}{ao:AC}{σ:St}{H:Hp}{s:Shared}{E:AB}
def aM.wish (I:aM X ao σ H s)(E:AB):aM (X.wish E) ao σ H s:=⟨I.ok.wish E,I.os,I.bare,I.base,I.loc,I.cell,I.free,I.oX,I.pin,I.hok,I.len⟩
def aM.qU (I:aM (X.wish E) ao σ H s):aM X ao σ H s:=⟨I.ok.qU,I.os,I.bare,I.base,I.loc,I.cell,I.free,I.oX,I.pin,I.hok,I.len⟩
def SP.qU (h:SP (X.wish E) ao D f s'):SP X ao D f s':=by
 cases f with
 | next=>let⟨σ',H',I,q⟩:=h;show⟨σ',H',I.qU,q⟩
 | brk=>let⟨σ',H',I,q⟩:=h;show⟨σ',H',I.qU,q⟩
 | cont=>let⟨σ',H',I,q⟩:=h;show⟨σ',H',I.qU,q⟩
 | ret u=>let⟨v,σ',H',I,r,q⟩:=h;show JE v σ' H' ⟨I.qU,r,q⟩
def sy.Jx {st:List Stmt}(h:sy X.Jx st t):sy X st t:=λao s σ H D I hw=>fN (h ao s σ H D (I.wish _) hw) (λ_ _ q=>q.qU) λ_ _ z=>False.elim z
end
section
variable {X:Cx}{st:Stmt}{rest:List Stmt}{t u:TS}{e:Expr}{te:TE}{pos:Pos}
def aa9:TS:=λD σ H=>D.nx σ H
def adX (t u:TS):TS:=λD σ H=>t {D with nx:=u D} σ H
def abL:sy X [] aa9:=λ_ _ σ H _ I h=>i8 ⟨σ,H,I,h⟩
def YZ (h1:PS X st t)(h2:sy X rest u):sy X (st::rest) (adX t u):=by
 intro ao s σ H D I h;calc md (bM (h1 ao s σ H {D with nx:=u D} I h) λf s1 q=>?_);cases f with
 | next=>let⟨σ',H',I',q⟩:=q;show h2 ao s1 σ' H' D I' q
 | ret v=>show q
 | brk=>show q
 | cont=>show q
def abM (h1:PS X st t):sy X [st] t:=by
 intro ao s σ H D I h;calc md (bM (h1 ao s σ H D I h) λf s1 q=>?_);cases f with| next=>show i8 q| ret v=>show q| brk=>show q| cont=>show q
def aM.quiet {ao:AC}{σ:St}{H:Hp}{s:Shared}(I:aM X ao σ H s):interactive X.env=false:=by simp[interactive,I.ok.kind]
def E_ (te:TE):TS:=λD σ H=>te σ H λ_ H1=>D.nx σ H1
def abN (he:PE X e te)(hs:swapsWith e none pos.line X.env=pure false:=by rfl):PS X (.Expr e pos) (E_ te):=by intro ao s σ H D I h;show wpAny_Expr_any (bM (he ao s σ H _ I h) λv s1 ⟨x,H1,I1,r1,q1⟩=>⟨σ,H1,I1,q1⟩) I.quiet hs
def Tq (te:TE):TS:=λD σ H=>te σ H D.rt
def adY (he:PE X e te):PS X (.Return (some e) pos) (Tq te):=by intro ao s σ H D I h;show wpAny_Return_some (bM (he ao s σ H _ I h) λv s1 ⟨x,H1,I1,r1,q1⟩=>(JE x σ H1 ⟨I1,r1,q1⟩))
def adZ (c:TT)(t u:TS):TS:=λD σ H=>c σ H λb H1=>if b=true then t D σ H1 else u D σ H1
def af_ (hc:PT X c tc)(ha:sy X a t)(hb:sy X b u):PS X (.If c a b pos) (adZ tc t u):=by
 intro ao s σ H D I h;calc wpAny_If (bM (hc ao s σ H _ I h) λd s1 zz=>?_);let⟨H1,I1,q1⟩:=zz;cases d with| true=>show ha ao s1 σ H1 D I1 q1| false=>show hb ao s1 σ H1 D I1 q1
def Vz:TS:=λ_ _ _=>False
def VB:sy X sts Vz:=λ_ _ _ _ _ _ h=>h.elim
end
abbrev TG:=V->St->Hp->(St->Hp->Prop)->Prop
abbrev Jy:=List V->St->Hp->(St->Hp->Prop)->Prop
def PG (X:Cx)(target:Expr)(t:TG):Prop:=∀(ao:AC) (s:Shared) (σ:St) (H:Hp) (v:V) (u:Value) (Q:St->Hp->Prop),aM X ao σ H s->bN v u->t v σ H Q->
  wpAny (model X.prog X.w) X.A (assign target X.env u) (λ_ s'=>∃σ' H',aM X ao σ' H' s'/\Q σ' H') X.xe s
def VD (X:Cx)(ts:List Expr)(t:Jy):Prop:=∀(ao:AC) (s:Shared) (σ:St) (H:Hp) (vs:List V) (us:List Value) (Q:St->Hp->Prop),aM X ao σ H s->Vals vs us->t vs σ H Q->
  wpAny (model X.prog X.w) X.A (assignInOrder ((assignEach ts X.env).map (·.2)) us) (λ_ s'=>∃σ' H',aM X ao σ' H' s'/\Q σ' H') X.xe s
abbrev ad0:=V->V->V->Hp->(Hp->Prop)->Prop
def Y4 (X:Cx)(t:ad0):Prop:=∀(ao:AC) (s:Shared) (σ:St) (H:Hp) (o i v:V) (ov iv u:Value) (Q:Hp->Prop),aM X ao σ H s->bN o ov->bN i iv->bN v u->t o i v H Q->
  wpAny (model X.prog X.w) X.A (setItem ov iv u) (λ_ s'=>∃H',aM X ao σ H' s'/\Q H') X.xe s
section
variable {X:Cx}{pos:Pos}
def oZ (i:Nat):TG:=λv σ H Q=>Q (σ.set i (some v)) H
def ql (hN:X.N.Nodup)(hi:X.N[i]?=some x)(hx:Loc X.env.scope x)(hf:X.fn x=true\/X.env.scope.names.lookup x=some .local:=by first|show .inl rfl|show .inr rfl|assumption):PG X (.Name x pos) (oZ i):=by intro ao s σ H v u Q I r h;show vi (Ds I hN hi hx r (λs' I'=>⟨_,H,I',h⟩) hf)
def Tr:Jy:=λvs σ H Q=>vs=[]/\Q σ H
def xU (t:TG)(u:Jy):Jy:=λvs σ H Q=>∃v r,vs=v::r/\t v σ H λσ' H'=>u r σ' H' Q
def Hs:VD X [] Tr:=by intro ao s σ H vs us Q I r h;let⟨e,h⟩:=h;subst e;cases r;show assignInOrder_nil ⟨σ,H,I,h⟩
def qm (h1:PG X e t)(h2:VD X es u)(hs:(assignEach (e::es) X.env).map (·.2)=assign e X.env::(assignEach es X.env).map (·.2):=by rfl):VD X (e::es) (xU t u):=by
 intro ao s σ H vs us Q I r h;let⟨v,vr,e1,h⟩:=h;subst e1;cases r with| cons r rr=>rw[hs];calc assignInOrder_cons (bM (h1 ao s σ H _ _ _ I r h) λ_ s1 zz=>?_);let⟨σ1,H1,I1,q1⟩:=zz;show h2 ao s1 σ1 H1 _ _ Q I1 rr q1
def Tt (K:W.Frag)(n:Nat)(t:Jy):TG:=λv σ H Q=>∃a xs,v=.ref a/\aN K H a xs/\xs.length=n/\t xs σ H Q
def Mf {es:List Expr}{k:Nat}{t:Jy}{n:Nat}(hc:X.calm=true)(h:VD X es t)(hn:(assignEach es X.env).length=n:=by rfl)(hst:(assignEach es X.env).findIdx? (·.1)=none:=by rfl):PG X (.Tuple es k pos) (Tt X.K n t):=by intro ao s σ H v u Q I r hw;let⟨a,xs,e1,hq,hl,hw⟩:=hw;subst e1;cases r;let⟨its,rv,ht,hz⟩:=I.tuple hq;calc assign_Tuple_tuple (I.ok.hd hc) ht (by simp[hn,<-hl,rv.length]) hst λh' hx=>?_;let I1:aM X ao σ H {s with heap:=h' }:=I.kept (t':=s.toks) λb o e=>hx b o (bn (a6 e)) e;show h ao _ σ H xs _ Q I1 (by simpa using rv) hw
def ad1 (to ti:TE)(t:ad0):TG:=λv σ H Q=>to σ H λo H1=>ti σ H1 λi H2=>t o i v H2 λH3=>Q σ H3
def ad2 (ho:PE X o to)(hi:PE X i ti)(hs:Y4 X t)(ha:∀v,assign (.Subscript o i pos) X.env v=(do
   let ov <- holding [v] (eval o X.env)
   let iv <- holding [v,ov] (eval i X.env)
   standAt pos
   holding [v,ov,iv] (setItem ov iv v)
   release [v,ov,iv] []):=by intro _;rfl):PG X (.Subscript o i pos) (ad1 to ti t):=by
 intro ao s σ H v u Q I r h;rw[ha];calc aa (fe (bM (ho ao s σ H _ I h) λov s1 zz=>?_));let⟨x,H1,I1,r1,q1⟩:=zz;calc aa (fe (bM (hi ao s1 σ H1 _ I1 q1) λiv s2 zz=>?_));let⟨y,H2,I2,r2,q2⟩:=zz;calc aa (r_ (aa (fe (bM (hs ao s2 σ H2 x y v ov iv u _ I2 r1 r2 r q2) λ_ s3 zz=>?_))));let⟨H3,I3,q3⟩:=zz;show wpAny_release ⟨σ,H3,I3,q3⟩
def Hu (te:TE)(g:TG):TS:=λD σ H=>te σ H λx H1=>g x σ H1 D.nx
def ad3 (he:PE X e te)(hg:PG X tg g)(hs:swapsWithSole [tg] e pos.line X.env=pure false:=by rfl)(hw:swappedStores [tg] e X.env=pure none:=by rfl)(h1:(assignEach [tg] X.env).map (·.2)=[assign tg X.env]:=by rfl):PS X (.Assign [tg] e pos) (Hu te g):=by intro ao s σ H D I h;calc wpAny_Assign_stores (bM (he ao s σ H _ I h) λv s1 zz=>?_) hs hw;let⟨x,H1,I1,r1,q1⟩:=zz;rw[h1];show bM (hg ao s1 σ H1 x v _ I1 r1 q1) λ_ s2 q=>q
def ad4 (hN:X.N.Nodup)(hi:X.N[i]?=some x)(hx:Loc X.env.scope x)(he:PE X e te)(hs:swapsWith e (some (.Name x pos')) pos.line X.env=pure false:=by rfl)(hf:X.fn x=true\/X.env.scope.names.lookup x=some .local:=by first|show .inl rfl|show .inr rfl|assumption):PS X (.Assign [.Name x pos'] e pos) (Hu te (oZ i)):=by intro ao s σ H D I h;calc vj (bM (he ao s σ H _ I h) λv s1 zz=>?_) hs;let⟨y,H1,I1,r1,q1⟩:=zz;show Ds I1 hN hi hx r1 (λs2 I2=>⟨_,H1,I2,q1⟩) hf
def VF (c:TT)(tb:TS):TS:=λD σ H=>∃W:Nat->St->Hp->Prop,(∃m,W m σ H)/\∀m σ H,W m σ H->
 c σ H λb H1=>if b=true then ∃N:St->Hp->Prop,(∀σ' H',N σ' H'->∃m',m'<m/\W m' σ' H')/\tb {D with nx:=N,ct:=N,bk:=D.nx} σ H1 else D.nx σ H1
def Y5 (hp:PassesOwn (model X.prog X.w) X.A X.env X.xe)(hc:PT X c tc)(hb:sy X body tb):PS X (.While c body [] pos) (VF tc tb):=by
 intro ao s σ H D I h;obtain⟨W,⟨m0,w0⟩,turn⟩:=h;calc wpAny_While (codeAny_whileLoop (λn s'=>∃σ' H',aM X ao σ' H' s'/\W n σ' H') ?_ m0 ⟨σ,H,I,w0⟩);intro n s1 z;let⟨σ1,H1,I1,w1⟩:=z;calc fR hp (bM (hc ao s1 σ1 H1 _ I1 (turn n σ1 H1 w1)) λb s2 zz=>?_);let⟨H2,I2,q2⟩:=zz;cases b with
 | true=>
  let⟨N,hN,q2⟩:=q2;rw[if_pos rfl];calc fR hp (bM (hb ao s2 σ1 H2 _ I2 q2) λf s3 q3=>?_);cases f with
  | next=>let⟨σ3,H3,I3,n3⟩:=q3;let⟨m',hm,w3⟩:=hN σ3 H3 n3;show⟨m',hm,σ3,H3,I3,w3⟩
  | cont=>let⟨σ3,H3,I3,n3⟩:=q3;let⟨m',hm,w3⟩:=hN σ3 H3 n3;show⟨m',hm,σ3,H3,I3,w3⟩
  | brk=>show q3
  | ret v=>show q3
 | false=>rw[if_neg b8];show i8 ⟨σ1,H2,I2,q2⟩
end
structure It where
 go:Nat->Hp->Prop
 Jz:Nat->Hp->V->Hp->Prop
 stop:Nat->Hp->Prop
def nZ (X:Cx)(ao:AC)(H:Hp)(b:Addr):Prop:=H b=none/\b≠X.env.locals/\b∉X.fs/\(b∈X.ex\/X.s₀.heap.objs.size<=b)/\(∀x c,X.env.cells.lookup x=some c->c≠b)/\∀p∈X.pn++ao,p.1≠b
def aM.n6 {X:Cx}{ao:AC}{σ:St}{H H':Hp}{s:Shared}{b:Addr}(I:aM X ao σ H s)(hb:s.heap.objs.size<=b)(hn:H' b=none):nZ X ao H' b:=by
 refine⟨hn,g6 (bu I.lt hb),I.agL hb,.inr (a8 I.sz hb),λx c e z=>?_,λp hp z=>?_⟩
 .let⟨v,q⟩:=I.cell x c e;show absurd (bu q.lt (by rw[z];show hb)) (iF _)
 .show absurd (bu (a6 (I.pin p hp).1) (by rw[z];show hb)) (iF _)
structure Turn (P:Program)(w:World)(K:W.Frag)(tg:Expr)(J:It)(fp:List Addr)(it:Addr)(tn:Nat->Heap->Prop):Prop where
 mem:it∈fp
 obj:∀i h,tn i h->∀b∈fp,∃o,h.get? b=some o/\∀v,o.data≠.cell v
 keep:∀i h h',tn i h->(∀b∈fp,∀o,h.get? b=some o->h'.get? b=some o)->tn i h'
 item:∀(X:Cx),X.prog=P->X.w=w->X.K=K->X.calm=true->∀(i:Nat) (ao:AC) (s:Shared) (σ:St) (H:Hp) (E:AB),aM X ao σ H s->(∀b∈fp,nZ X ao H b)->tn i s.heap->J.go i H->
  wpAny (model P w) X.A (pyNext (.ref it)) (λr s1=>∃u,r=some u/\
   wpAny (model P w) X.A (letOwnedTupleGo tg (.ref it) u) (λ_ s2=>∃x H',aM X ao σ H' s2/\bN x u/\J.Jz i H x H'/\tn (i+1) s2.heap/\∀b∈fp,H' b=none) E s1) E s
 done:∀(X:Cx),X.prog=P->X.w=w->X.K=K->X.calm=true->∀(i:Nat) (ao:AC) (s:Shared) (σ:St) (H:Hp) (E:AB),aM X ao σ H s->(∀b∈fp,nZ X ao H b)->tn i s.heap->J.stop i H->
  wpAny (model P w) X.A (pyNext (.ref it)) (λr s1=>r=none/\aM X ao σ H s1) E s
 self:∀(A:Around) (i:Nat) (s:Shared) (Q:AB) (E:AB),tn i s.heap->Q (.ref it) s->wpAny (model P w) A (pyIter (.ref it)) Q E s
abbrev TI:=St->Hp->(It->Hp->Prop)->Prop
def PIE (X:Cx)(ao:AC)(σ:St)(tg:Expr)(R:It->Hp->Prop)(itv:Value)(s2:Shared):Prop:=∃(it:Addr) (fp:List Addr) (tn:Nat->Heap->Prop) (J:It) (H':Hp),itv=.ref it/\aM X ao σ H' s2/\Turn X.prog X.w X.K tg J fp it tn/\tn 0 s2.heap/\(∀b∈fp,nZ X ao H' b)/\R J H'
def PI (X:Cx)(tg iter:Expr)(wi:TI):Prop:=∀(ao:AC) (s:Shared) (σ:St) (H:Hp) (R:It->Hp->Prop),aM X ao σ H s->wi σ H R->
  wpAny (model X.prog X.w) X.A (eval iter X.env) (λv s1=>wpAny (model X.prog X.w) X.A (pyIter v) (PIE X ao σ tg R) X.xe s1) X.xe s
def Fb {s : Shared}(ho : s.heap.get? it = some o)(hc : o.cls = .type n)(hd : o.data = .fields vs)(hn : ["enumerate", "zip", "dict_itemiterator", "dict_reverseitemiterator", "odict_iterator", "itertools.zip_longest", "itertools.pairwise"].contains n = false)(hQ : Q () s) : wpAny M A (letOwnedTupleGo tg (.ref it) u) Q E s := by
  unfold letOwnedTupleGo;cases tg <;> first
    | show ag hQ
    | (cases u <;> first
        | show ag hQ
        | (refine aa (wpAny_load ho ?_)
           rw[hc, hd];show wpAny M A (if (["enumerate", "zip", "dict_itemiterator", "dict_reverseitemiterator", "odict_iterator", "itertools.zip_longest", "itertools.pairwise"].contains n&&vs[0]? == some (rawInt _)) = true then _ else _) Q E s;rw[if_neg (by intro h; rw[hn, kD]at h; cases h)];show ag hQ))
abbrev ItS (Sq:Hp->List V->Prop):It:=⟨λi H=>∃xs x,Sq H xs/\xs[i]?=some x,λi H x H'=>H'=H/\∀xs,Sq H xs->xs[i]?=some x,λi H=>∃xs,Sq H xs/\xs.length<=i⟩
def Itl (K:W.Frag)(a:Addr):It:=ItS λH=>aP K H a
def Itt (K:W.Frag)(a:Addr):It:=ItS λH=>aN K H a
def QZ (lo:Int)(n:Nat):It:=⟨λi _=>i<n,λi H x H'=>H'=H/\x=.int (lo+i),λi _=>n<=i⟩
def VG {P:Program}{w:World}{K:W.Frag}{tg:Expr}(a it:Addr):Turn P w K tg (Itl K a) [it] it (λi h=>h.IsListIter it a i) where
 mem:=by simp
 obj:=λi h st b hb=>by
  let e:b=it:=by simpa using hb
  subst e;let⟨o,e,c,d⟩:=st;show⟨o,e,λv z=>by rw[d]at z;cases z⟩
 keep:=λi h h' st k=>st.at λo e=>k it w8 o e
 item:=by intro X hP hw hK hc i ao s σ H E I hf st hg;subst hP hw hK;let⟨xs,x,hq,hx⟩:=hg;let⟨its,rv,p,hz⟩:=I.list hq;let⟨u,hu,ru⟩:=rv.get hx;let⟨f0,f1,f2,f3,f4,f5⟩:=hf it w8;calc wpAny_pyNext_list_item st p.isList (x:=u) (by simpa using hu) λh' st' sb=>?_;let I1:aM X ao σ H {s with heap:=h' }:=I.turned (t':=s.toks) (λb o hb e=>(sb.2 b hb).trans e) f0 f1 f3 f4 f5;let⟨o,e,c,d⟩:=id st';show⟨u,RA,Fb (s:={s with heap:=h' }) e c d w_ ⟨x,H,I1,ru,⟨RA,λys hy=>by rw[I.xT hy hq];show hx⟩,st',λb hb=>(hf b hb).1⟩⟩
 done:=by intro X hP hw hK hc i ao s σ H E I hf st hg;subst hP hw hK;let⟨xs,hq,hx⟩:=hg;let⟨its,rv,p,hz⟩:=I.list hq;let⟨f0,f1,f2,f3,f4,f5⟩:=hf it w8;let hl:=rv.length;show wpAny_pyNext_list_end (I.ok.hd hc) st p.isList (by simp;simp_all) λh' eb=>⟨RA,I.turned (t':=s.toks) (λb o hb e=>eb b o hb e) f0 f1 f3 f4 f5⟩
 self:=λ_ _ _ _ _ st h=>wpAny_pyIter_listiter st h
def Tv {P:Program}{w:World}{K:W.Frag}{tg:Expr}(a it:Addr):Turn P w K tg (Itt K a) [it] it (λi h=>h.IsTupleIter it a i) where
 mem:=by simp
 obj:=λi h st b hb=>by
  let e:b=it:=by simpa using hb
  subst e;let⟨o,e,c,d⟩:=st;show⟨o,e,λv z=>by rw[d]at z;cases z⟩
 keep:=λi h h' st k=>st.at λo e=>k it w8 o e
 item:=by intro X hP hw hK hc i ao s σ H E I hf st hg;subst hP hw hK;let⟨xs,x,hq,hx⟩:=hg;let⟨its,rv,p,hz⟩:=I.tuple hq;let⟨u,hu,ru⟩:=rv.get hx;let⟨f0,f1,f2,f3,f4,f5⟩:=hf it w8;calc wpAny_pyNext_tuple_item st (show s.heap.IsTuple a its.toArray from p) (x:=u) (by simpa using hu) λh' st' sb=>?_;let I1:aM X ao σ H {s with heap:=h' }:=I.turned (t':=s.toks) (λb o hb e=>(sb.2 b hb).trans e) f0 f1 f3 f4 f5;let⟨o,e,c,d⟩:=id st';show⟨u,RA,Fb (s:={s with heap:=h' }) e c d w_ ⟨x,H,I1,ru,⟨RA,λys hy=>by rw[I.Jw hy hq];show hx⟩,st',λb hb=>(hf b hb).1⟩⟩
 done:=by intro X hP hw hK hc i ao s σ H E I hf st hg;subst hP hw hK;let⟨xs,hq,hx⟩:=hg;let⟨its,rv,p,hz⟩:=I.tuple hq;let⟨f0,f1,f2,f3,f4,f5⟩:=hf it w8;let hl:=rv.length;show wpAny_pyNext_tuple_end (I.ok.hd hc) st (show s.heap.IsTuple a its.toArray from p) (by simp;lia) λh' eb=>⟨RA,I.turned (t':=s.toks) (λb o hb e=>eb b o hb e) f0 f1 f3 f4 f5⟩
 self:=λ_ _ _ _ _ st h=>wpAny_pyIter_tupleiter st h
def Tw {P:Program}{w:World}{K:W.Frag}{tg:Expr}(it:Addr)(lo:Int)(n:Nat):Turn P w K tg (QZ lo n) [it] it (λi h=>IsRangeIter h it (lo+(i:Nat)*1) ((n:Int)-(i:Nat)) 1) where
 mem:=by simp
 obj:=λi h st b hb=>by
  let e:b=it:=by simpa using hb
  subst e;show⟨_,st,λv z=>by let z':Data.fields _=Data.cell v:=z;cases z'⟩
 keep:=λi h h' st k=>k it w8 _ st
 item:=by intro X hP hw hK hc i ao s σ H E I hf st hg;subst hP hw hK;let⟨f0,f1,f2,f3,f4,f5⟩:=hf it w8;let W:=Walks.range (prog:=X.prog) (w:=X.w) (I.ok.hd hc) it lo 1 n;calc W.item i s _ _ hg st λv h' tk hv st' kk=>?_;let⟨t,rfl⟩:=hv;let I1:aM X ao σ H {s with heap:=h',toks:=tk}:=I.turned (λb o hb e=>kk b o (by simpa using hb) e) f0 f1 f3 f4 f5;calc⟨_,RA,Fb (s:={s with heap:=h',toks:=tk}) (n:="range_iterator") st' RA RA w_ ⟨.int (lo+i),H,I1,⟨t,?_⟩,⟨RA,RA⟩,st',λb hb=>(hf b hb).1⟩⟩;rw[Int.mul_one]
 done:=by intro X hP hw hK hc i ao s σ H E I hf st hg;subst hP hw hK;let⟨f0,f1,f2,f3,f4,f5⟩:=hf it w8;show wpAny_pyNext_range_end (I.ok.hd hc) st (by have:n<=i:=hg;lia) λh' eb=>⟨RA,I.turned (t':=s.toks) (λb o hb e=>eb b o hb e) f0 f1 f3 f4 f5⟩
 self:=λ_ _ _ _ _ st h=>wpAny_pyIter_rangeiter st h
section
variable {X:Cx}{tg:Expr}
def Fd (K:W.Frag)(tl:TE):TI:=λσ H R=>tl σ H λx H1=>∃a,x=.ref a/\(∃xs,aP K H1 a xs)/\R (Itl K a) H1
def ad5 (K:W.Frag)(tl:TE):TI:=λσ H R=>tl σ H λx H1=>∃a,x=.ref a/\(∃xs,aN K H1 a xs)/\R (Itt K a) H1
def abO (hl:PE X l tl):PI X tg l (Fd X.K tl):=by
 intro ao s σ H R I h;calc bM (hl ao s σ H _ I h) λv s1 zz=>?_;let⟨x,H1,I1,r1,q1⟩:=zz;obtain⟨a,e,⟨xs,hq⟩,q⟩:=q1;subst e;cases r1;let⟨its,rv,p,hz⟩:=I1.list hq;calc kr p.isList ?_;calc JJ s1.heap.objs.size [s1.heap.objs.size] _ _ H1 ⟨RA,I1.kept (t':=s1.toks) λb o e=>af _ e,VG a _,⟨_,ax _ RA,RA,RA⟩,λb hb=>?_,q⟩;let e:b=s1.heap.objs.size:=by simpa using hb
 subst e;show I1.n6 (ah _) (I1.hok.fresh (ah _))
def ad6 (hl:PE X l tl):PI X tg l (ad5 X.K tl):=by
 intro ao s σ H R I h;calc bM (hl ao s σ H _ I h) λv s1 zz=>?_;let⟨x,H1,I1,r1,q1⟩:=zz;obtain⟨a,e,⟨xs,hq⟩,q⟩:=q1;subst e;cases r1;let⟨its,rv,p,hz⟩:=I1.tuple hq;calc nI (show s1.heap.IsTuple a its.toArray from p) ?_;calc JJ s1.heap.objs.size [s1.heap.objs.size] _ _ H1 ⟨RA,I1.kept (t':=s1.toks) λb o e=>af _ e,Tv a _,⟨_,ax _ RA,RA,RA⟩,λb hb=>?_,q⟩;let e:b=s1.heap.objs.size:=by simpa using hb
 subst e;show I1.n6 (ah _) (I1.hok.fresh (ah _))
def Mh {ao:AC}{σ:St}{H:Hp}{s:Shared}{R:It->Hp->Prop}{E:AB}{lo hi:Int}{t u v:Tok}{tk:Nat}(I:aM X ao σ H s)(h1:-(2^62)<=lo)(h2:lo<2^62)(h3:-(2^62)<=hi)(h4:hi<2^62)(q:R (QZ lo (hi-lo).toNat) H):wpAny (model X.prog X.w) X.A (pyIter (.ref s.heap.objs.size)) (PIE X ao σ tg R) E {s with heap:=s.heap.push {cls:=.type "range",data:=.fields #[.int lo t,.int hi u,.int 1 v]},toks:=tk}:=by
 calc wpAny_pyIter_range (IsRange.new ..) (small_one h1 h2 h3 h4) ?_;let I1:aM X ao σ H {s with heap:=s.heap.push {cls:=.type "range",data:=.fields #[.int lo t,.int hi u,.int 1 v]},toks:=tk}:=I.kept λb o e=>af _ e;refine JJ ((s.heap.push {cls:=.type "range",data:=.fields #[.int lo t,.int hi u,.int 1 v]}).objs.size) [(s.heap.push {cls:=.type "range",data:=.fields #[.int lo t,.int hi u,.int 1 v]}).objs.size] _ _ H ⟨RA,
  I1.kept (t':=tk) λb o e=>af _ e,Tw _ lo (hi-lo).toNat,?_,λb hb=>?_,q⟩
 .let e1:lo+((0:Nat):Int)*1=lo:=w8;let e2:(((hi-lo).toNat:Nat):Int)-((0:Nat):Int)=Builtin.Range.rangeSize lo hi 1:=by rw[rangeSize_one];split <;> grind
  show IsRangeIter _ _ (lo+((0:Nat):Int)*1) ((((hi-lo).toNat:Nat):Int)-((0:Nat):Int)) 1;rw[e1,e2];show ax _ rfl
 .let e:b=(s.heap.push {cls:=.type "range",data:=.fields #[.int lo t,.int hi u,.int 1 v]}).objs.size:=by simpa using hb
  subst e;show I1.n6 (ah _) (I1.hok.fresh (ah _))
def aa_ (ta:TA):TI:=λσ H R=>ta σ H λvs H1=>∃j:Int,vs=[.int j]/\-(2^62)<=j/\j<2^62/\R (QZ 0 j.toNat) H1
def abb (ta:TA):TI:=λσ H R=>ta σ H λvs H1=>∃i j:Int,vs=[.int i,.int j]/\(-(2^62)<=i/\i<2^62/\-(2^62)<=j/\j<2^62)/\R (QZ i (j-i).toNat) H1
def VH (hg:Gl X "range")(hm:X.mg "range"=none)(ha:PA X [a] ta)(hs:starEach [a] X.env=[(false,eval a X.env)]:=by rfl):PI X tg (.Call (.Name "range" p) [a] [] pos) (aa_ ta):=by
 intro ao s σ H R I h;calc Call_ (mX I hg hm boot_range (fv (bM (ha pos ao s σ H _ I h) λus s1 zz=>?_) hs RA));let⟨vs,H1,I1,r1,q1⟩:=zz;let⟨j,e,q1,q2,q⟩:=q1;subst e;cases r1 with| cons r rr=>cases rr;let⟨t,rfl⟩:=r;show call_range_1 (Mh I1 wT wT q1 q2 (by simpa using q))
def VJ {a b:Expr}{ta:TA}{p pos:Pos}(hg:Gl X "range")(hm:X.mg "range"=none)(ha:PA X [a,b] ta)(hs:starEach [a,b] X.env=[(false,eval a X.env),(false,eval b X.env)]:=by rfl)(hs2:starEach [b] X.env=[(false,eval b X.env)]:=by rfl):PI X tg (.Call (.Name "range" p) [a,b] [] pos) (abb ta):=by
 intro ao s σ H R I h;calc Call_ (mX I hg hm boot_range (fv (bM (ha pos ao s σ H _ I h) λus s1 zz=>?_) (by rw[hs,hs2]) (by rw[hs2];rfl)));let⟨vs,H1,I1,r1,q1⟩:=zz;obtain⟨i,j,e,⟨q1,q2,q3,q4⟩,q⟩:=q1;subst e;cases r1 with
 | cons r rr=>
  cases rr with| cons r' rr=>cases rr;let⟨t,rfl⟩:=r;let⟨t',rfl⟩:=r';show call_range_2 (Mh I1 q1 q2 q3 q4 q)
abbrev Du (J:It)(g:TG)(tb:TS)(D:Ends)(σ:St)(H:Hp):Prop:=∃W:Nat->Nat->St->Hp->Prop,(∃m,W 0 m σ H)/\∀i m σ H,W i m σ H->
 (J.stop i H/\D.nx σ H)\/(J.go i H/\∃N:St->Hp->Prop,(∀σ' H',N σ' H'->∃m',m'<m/\W (i+1) m' σ' H')/\∀x H',J.Jz i H x H'->g x σ H' λσ2 H2=>tb {D with nx:=N,ct:=N,bk:=D.nx} σ2 H2)
def ad7 (wi:TI)(g:TG)(tb:TS):TS:=λD σ H=>wi σ H λJ H1=>Du J g tb D σ H1
def Mi {J:It}{g:TG}{tb:TS}{D:Ends}{σ:St}{H:Hp}(n:Nat)(Pv:Nat->St->Hp->Prop)(h0:Pv 0 σ H)(hg:∀i σ H,i<n->Pv i σ H->J.go i H/\∀x H',J.Jz i H x H'->g x σ H' λσ2 H2=>tb {D with nx:=Pv (i+1),ct:=Pv (i+1),bk:=D.nx} σ2 H2)(he:∀σ H,Pv n σ H->J.stop n H/\D.nx σ H):Du J g tb D σ H:=by
 calc⟨λi m σ H=>m=n-i/\i<=n/\Pv i σ H,⟨n,w8,cw _,h0⟩,?_⟩;intro i m σ H z;let⟨rfl,hi,p⟩:=z;by_cases hlt:i<n;.show .inr ⟨(hg i σ H hlt p).1,Pv (i+1),λσ' H' p'=>⟨n-(i+1),Nat.sub_lt_sub_left hlt (f8 _),RA,hlt,p'⟩,(hg i σ H hlt p).2⟩
 .let e:i=n:=wT;subst e;show .inl (he σ H p)
def abd {Sq:Hp->List V->Prop}{xs:List V}{g:TG}{tb:TS}{D:Ends}{σ:St}{H:Hp}(Pv:Nat->St->Hp->Prop)(h0:Pv 0 σ H)(hl:∀i σ H,i<=xs.length->Pv i σ H->Sq H xs)(hs:∀i x σ H,xs[i]?=some x->Pv i σ H->g x σ H λσ2 H2=>tb {D with nx:=Pv (i+1),ct:=Pv (i+1),bk:=D.nx} σ2 H2)(hd:∀σ H,Pv xs.length σ H->D.nx σ H):Du (ItS Sq) g tb D σ H:=Mi xs.length Pv h0 (λi σ H h p=>⟨⟨xs,xs[i],hl i σ H (aT h) p,by simp[h]⟩,λx H' ⟨e,y⟩=>by subst e;show hs i x σ _ (y xs (hl i σ _ (aT h) p)) p⟩) λσ H p=>⟨⟨xs,hl _ σ H (ah _) p,ah _⟩,hd σ H p⟩
def zK (fp:List Addr)(h:Heap):List (Addr×Obj):=fp.filterMap λb=>(h.get? b).map λo=>(b,o)
def o7 {h:Heap}(hb:b∈fp)(e:h.get? b=some o):(b,o)∈zK fp h:=nK.mpr ⟨b,hb,by rw[e];rfl⟩
def VL (hp:p∈zK fp h):p.1∈fp/\h.get? p.1=some p.2:=by
 let⟨b,hb,e⟩:=nK.mp hp;cases q:h.get? b with
 | none=>rw[q]at e;cases e
 | some o=>rw[q]at e;let e':(b,o)=p:=bb e;subst e';show⟨hb,q⟩
def aM.pinned {ao:AC}{σ:St}{H:Hp}{s:Shared}{fp:List Addr}(I:aM X ao σ H s)(hf:∀b∈fp,nZ X ao H b)(ho:∀b∈fp,∃o,s.heap.get? b=some o/\∀v,o.data≠.cell v):aM X (ao++zK fp s.heap) σ H s:=
 I.QX λp hp=>(bd.mp hp).elim (λz=>I.pin p (dm _ z)) λz=>by let⟨hb,e⟩:=VL z;let⟨f0,f1,f2,_⟩:=hf p.1 hb;let⟨o,e',d⟩:=ho p.1 hb;rw[e]at e';cases e';show⟨e,f0,f1,f2,d⟩
def aM.n8 {ao pl:AC}{σ:St}{H:Hp}{s:Shared}(I:aM X (ao++pl) σ H s):aM X ao σ H s:=I.QX λp hp=>I.pin p (dm _ (oP _ hp))
def ad8 (hp:PassesOwn (model X.prog X.w) X.A X.env X.xe)(hc:X.calm=true)(hi:PI X tg iter wi)(hg:PG X tg g)(hb:sy X body tb)(hs:∀x,foldedSetIterable iter X.env x=pure x:=by intro _;rfl):PS X (.For tg iter body [] pos) (ad7 wi g tb):=by
 intro ao s σ H D I h;calc wpAny_For (bM (hi ao s σ H _ I h) λv s1 h1=>bM h1 λitv s2 h2=>?_) hs;obtain⟨it,fp,tn,J,H2,e,I2,T,st2,f2,W,⟨m0,w0⟩,turn⟩:=h2;subst e;let stat:∀{H':Hp},(∀b∈fp,H' b=none)->∀b∈fp,nZ X ao H' b:=λhn b hb=>⟨hn b hb,(f2 b hb).2⟩
 calc codeAny_forLoop_any (λn s'=>∃i σ' H',aM X ao σ' H' s'/\tn i s'.heap/\(∀b∈fp,H' b=none)/\W i n σ' H') ?_ m0 (JE 0 σ H2 ⟨I2,st2,λb hb=>(f2 b hb).1,w0⟩);intro n s3 z;let⟨i,σ3,H3,I3,st3,fr3,w3⟩:=z;rcases turn i n σ3 H3 w3 with⟨stop,qn⟩|⟨go,N,hN,step⟩
 .calc fR hp (bM (T.done X RA RA RA hc i ao s3 σ3 H3 X.xe I3 (stat fr3) st3 stop) λr s4 ⟨hr,I4⟩=>?_);subst hr;show i8 ⟨σ3,H3,I4,qn⟩
 .calc fR hp (bM (T.item X RA RA RA hc i ao s3 σ3 H3 X.xe I3 (stat fr3) st3 go) λr s4 zz=>?_);let⟨u,hr,h4⟩:=zz;subst hr;calc fR hp (bM h4 λ_ s5 zz=>?_);let⟨x,H5,I5,r5,y5,Mj,fr5⟩:=zz;let I5':=I5.pinned (stat fr5) (T.obj _ _ Mj);calc fR hp (bM (hg _ s5 σ3 H5 x u _ I5' r5 (step x H5 y5)) λ_ s6 zz=>?_);let⟨σ6,H6,I6,q6⟩:=zz;calc fR hp (bM (hb _ s6 σ6 H6 _ I6 q6) λf s7 q7=>?_);let again:∀{σ7:St} {H7:Hp},aM X (ao++zK fp s5.heap) σ7 H7 s7->N σ7 H7->∃m,m<n/\∃i σ' H',aM X ao σ' H' s7/\tn i s7.heap/\(∀b∈fp,H' b=none)/\W i m σ' H':=λ{σ7 H7} I7 n7=>by
   let⟨m',hm,w7⟩:=hN σ7 H7 n7;calc⟨m',hm,i+1,σ7,H7,I7.n8,T.keep _ _ _ Mj λb hb o e=>(I7.pin (b,o) (dm _ (dm _ (o7 hb e)))).1,λb hb=>?_,w7⟩;let⟨o,e,d⟩:=T.obj _ _ Mj b hb;show(I7.pin (b,o) (dm _ (dm _ (o7 hb e)))).2.1
  cases f with
  | next=>let⟨σ7,H7,I7,n7⟩:=q7;show again I7 n7
  | cont=>let⟨σ7,H7,I7,n7⟩:=q7;show again I7 n7
  | brk=>let⟨σ7,H7,I7,q7⟩:=q7;show⟨σ7,H7,I7.n8,q7⟩
  | ret v=>let⟨x7,σ7,H7,I7,r7,q7⟩:=q7;show JE x7 σ7 H7 ⟨I7.n8,r7,q7⟩
end
def lK {K:W.Frag}{a:Addr}:=@abd λH=>aP K H a
def qp {K:W.Frag}{a:Addr}:=@abd λH=>aN K H a
def lM {lo:Int}{n:Nat}{g:TG}{tb:TS}{D:Ends}{σ:St}{H:Hp}(Pv:Nat->St->Hp->Prop)(h0:Pv 0 σ H)(hs:∀i σ H,i<n->Pv i σ H->g (.int (lo+i)) σ H λσ2 H2=>tb {D with nx:=Pv (i+1),ct:=Pv (i+1),bk:=D.nx} σ2 H2)(hd:∀σ H,Pv n σ H->D.nx σ H):Du (QZ lo n) g tb D σ H:=Mi n Pv h0 (λi σ H h p=>⟨h,λx H' y=>by let⟨rfl,rfl⟩:=y;show hs i σ _ h p⟩) λσ H p=>⟨ah _,hd σ H p⟩
abbrev R2:=V->V->Hp->VK->Prop
def eO (X:Cx)(f:Value->Value->Sem Value)(r:R2):Prop:=∀(ao:AC) (s:Shared) (σ:St) (H:Hp) (x y:V) (v u:Value) (Q:VK),aM X ao σ H s->bN x v->bN y u->r x y H Q->
  wpAny (model X.prog X.w) X.A (f v u) (EP X ao σ Q) X.xe s
def UnR (X:Cx)(f:Value->Sem Value)(r:V->Hp->VK->Prop):Prop:=∀(ao:AC) (s:Shared) (σ:St) (H:Hp) (x:V) (v:Value) (Q:VK),aM X ao σ H s->bN x v->r x H Q->
  wpAny (model X.prog X.w) X.A (f v) (EP X ao σ Q) X.xe s
def fU (X:Cx)(f:Value)(r:List V->Hp->VK->Prop):Prop:=∀(ao:AC) (s:Shared) (σ:St) (H:Hp) (xs:List V) (us:List Value) (Q:VK),aM X ao σ H s->Vals xs us->r xs H Q->
  wpAny (model X.prog X.w) X.A (call f us) (EP X ao σ Q) X.xe s
def qW (r:R2)(ta tb:TE):TE:=λσ H Q=>ta σ H λx H1=>tb σ H1 λy H2=>r x y H2 Q
def tUn (r:V->Hp->VK->Prop)(ta:TE):TE:=λσ H Q=>ta σ H λx H1=>r x H1 Q
def rI (C:Int->Int->Prop)(g:Int->Int->V):R2:=λx y H Q=>∃i j,x=.int i/\y=.int j/\C i j/\Q (g i j) H
def JB (g:Int->Int->V):R2:=λx y H Q=>∃i j,x=.int i/\y=.int j/\Q (g i j) H
def rU (g:Int->V):V->Hp->VK->Prop:=λx H Q=>∃i,x=.int i/\Q (g i) H
section
variable {X:Cx}{a b:Expr}{ta tb:TE}{pos:Pos}
def Y6 (ha:PE X a ta)(hb:PE X b tb){ao:AC}{s:Shared}{σ:St}{H:Hp}{R:V->V->Hp->Prop}(I:aM X ao σ H s)(h:ta σ H λx H1=>tb σ H1 λy H2=>R x y H2){Q:AB}{f:Value->Value->Sem Value}(hf:∀v u s2 x y H2,aM X ao σ H2 s2->bN x v->bN y u->R x y H2->wpAny (model X.prog X.w) X.A (f v u) Q X.xe s2):wpAny (model X.prog X.w) X.A (eval a X.env) (λv s₁=>wpAny (model X.prog X.w) X.A (eval b X.env) (λu s₂=>wpAny (model X.prog X.w) X.A (f v u) Q X.xe s₂) X.xe s₁) X.xe s:=by calc bM (ha ao s σ H _ I h) λv s1 zz=>?_;let⟨x,H1,I1,r1,q1⟩:=zz;calc bM (hb ao s1 σ H1 _ I1 q1) λu s2 zz=>?_;let⟨y,H2,I2,r2,q2⟩:=zz;show hf v u s2 x y H2 I2 r1 r2 q2
def aga (ho:eO X (binaryOp op) r)(ha:PE X a ta)(hb:PE X b tb):PE X (.BinOp a op b pos) (qW r ta tb):=by intro ao s σ H Q I h;show wpAny_BinOp (Y6 ha hb I h λv u s2 x y H2 I2 rx ry q=>ho ao s2 σ H2 x y v u Q I2 rx ry q)
def agb (ho:UnR X (unaryOp op) r)(ha:PE X a ta):PE X (.UnaryOp op a pos) (tUn r ta):=by intro ao s σ H Q I h;show UnaryOp_ (bM (ha ao s σ H _ I h) λv s1 ⟨x,H1,I1,r1,q1⟩=>ho ao s1 σ H1 x v Q I1 r1 q1)
def opI {f:Value->Value->Sem Value}{C:Int->Int->Prop}{g:Int->Int->Int}(rule:∀(i j:Int) (t u:Tok) (s:Shared) (Q:AB) (E:AB),C i j->Q (.int (g i j) s.toks) {s with toks:=s.toks+1}->wpAny (model X.prog X.w) X.A (f (.int i t) (.int j u)) Q E s):eO X f (rI C λi j=>.int (g i j)):=by walk_at"f";let⟨i,j,rfl,rfl,hc,q⟩:=h;let⟨t,rfl⟩:=rx;let⟨t',rfl⟩:=ry;show rule i j t t' s _ _ hc ⟨.int (g i j),H,I.tok _,⟨_,RA⟩,q⟩
def ad9 {f:Value->Value->Sem Value}{g:Int->Int->Int}(rule:∀(i j:Int) (t u:Tok) (s:Shared) (Q:AB) (E:AB),Q (.int (g i j) s.toks) {s with toks:=s.toks+1}->wpAny (model X.prog X.w) X.A (f (.int i t) (.int j u)) Q E s):eO X f (JB λi j=>.int (g i j)):=by walk_at"f";let⟨i,j,rfl,rfl,q⟩:=h;let⟨t,rfl⟩:=rx;let⟨t',rfl⟩:=ry;show rule i j t t' s _ _ ⟨.int (g i j),H,I.tok _,⟨_,RA⟩,q⟩
def Tz {f:Value->Value->Sem Value}{g:Int->Int->Bool}(rule:∀(i j:Int) (t u:Tok) (s:Shared) (Q:AB) (E:AB),Q (.bool (g i j)) s->wpAny (model X.prog X.w) X.A (f (.int i t) (.int j u)) Q E s):eO X f (JB λi j=>.bl (g i j)):=by walk_at"f";let⟨i,j,rfl,rfl,q⟩:=h;let⟨t,rfl⟩:=rx;let⟨t',rfl⟩:=ry;show rule i j t t' s _ _ ⟨.bl (g i j),H,I,RA,q⟩
def agO (i j:Int):Prop:=0<j/\j<1073741824
def Y7 (i j:Int):Prop:=(-(2^64)<i/\i<2^64)\/(-(2^64)<j/\j<2^64)
def Y7.ok (h:Y7 i j):IntMulOk i j:=by
 rcases h with⟨h1,h2⟩|⟨h1,h2⟩;.show .of_left (intBits_le_64 h1 h2)
 .show .of_right (intBits_le_64 h1 h2)
def dj:eO X (binaryOp .Add) (JB λi j=>.int (i+j)):=ad9 λ_ _ _ _ _ _ _ q=>add_int q
def o8:eO X (binaryOp .Sub) (JB λi j=>.int (i-j)):=ad9 λ_ _ _ _ _ _ _ q=>sub_int q
def tW:eO X (binaryOp .Mult) (rI Y7 λi j=>.int (i*j)):=opI λ_ _ _ _ _ _ _ hc q=>mul_int q hc.ok
def gD:eO X (binaryOp .FloorDiv) (rI agO λi j=>.int (i/j)):=opI λi j _ _ _ _ _ hc q=>by let h1:(0:Int)<j:=hc.1;let h2:j<1073741824:=hc.2;show floordiv_int wT (by rw[Int.fdiv_eq_ediv_of_nonneg i (Int.le_of_lt h1)];show q) (.inl (PyProof.noPylong_small (by grind)))
def cZ:eO X (binaryOp .Mod) (rI (λ_ j=>0<j) λi j=>.int (i%j)):=opI λi j _ _ _ _ _ hc q=>by let h1:(0:Int)<j:=hc;show mod_int' wT (by rw[Int.fmod_eq_emod_of_nonneg i wT];show q)
def unI {f:Value->Sem Value}{g:Int->Int}(rule:∀(i:Int) (t:Tok) (s:Shared) (Q:AB) (E:AB),Q (.int (g i) s.toks) {s with toks:=s.toks+1}->wpAny (model X.prog X.w) X.A (f (.int i t)) Q E s):UnR X f (rU λi=>.int (g i)):=by intro ao s σ H x v Q I rx h;let⟨i,rfl,q⟩:=h;let⟨t,rfl⟩:=rx;show rule i t s _ _ ⟨.int (g i),H,I.tok _,⟨_,RA⟩,q⟩
def VN:UnR X (unaryOp .USub) (rU λi=>.int (-i)):=unI λ_ _ _ _ _ q=>neg_int q
end
noncomputable def ad_:V->V->Bool
 | .non,.non=>true|.non,.int _=>true|.int _,.non=>true|.non,.bl _=>true|.bl _,.non=>true|.non,.str _=>true|.str _,.non=>true
 | .int _,.int _=>true|.bl _,.bl _=>true|.str _,.str _=>true|.zp _,.zp _=>true
 | .int _,.str _=>true|.str _,.int _=>true|.bl _,.str _=>true|.str _,.bl _=>true
 | _,_=>false
def rEq:R2:=λx y H Q=>ad_ x y=true/\Q (.bl (decide (x=y))) H
def rNe:R2:=λx y H Q=>ad_ x y=true/\Q (.bl (!decide (x=y))) H
def Q0:decide (V.int i=V.int j)=(i==j):=by rw[kS];simp
def VP:decide (V.bl i=V.bl j)=(i==j):=by rw[kS];simp
def Q5:decide (V.str i=V.str j)=(i==j):=by rw[kS];simp
def Q6:decide (V.zp i=V.zp j)=(i.toList==j.toList):=by rw[kS];cases i;cases j;simp
section
variable {X:Cx}{a b c:Expr}{ta tb tc:TE}{pos:Pos}
def cN {ao:AC}{σ:St}{H:Hp}{s:Shared}{Q:VK}{k k':Bool}(I:aM X ao σ H s)(q:Q (.bl k) H)(e:k=k'):EP X ao σ Q (.bool k') s:=by subst e;show⟨.bl k,H,I,RA,q⟩
def jF:eO X (compareOp .Eq) rEq:=by
 walk_at"f";let⟨hs,q⟩:=h;cases x with
 | non=>
  cases rx;cases y with
  | non=>cases ry;show PySem.EqNone.eq_none_none (cN I q w8)
  | bl j=>cases ry;show PySem.EqNone.eq_none_bool (cN I q w8)
  | int j=>let⟨t',rfl⟩:=ry;show PySem.EqNone.eq_none_int (cN I q w8)
  | str j=>let⟨t',rfl⟩:=ry;show PySem.EqNone.eq_none_str (cN I q w8)
  | _=>show absurd (show false=true from hs) b8
 | bl i=>
  cases rx;cases y with
  | non=>cases ry;show PySem.EqNone.eq_bool_none (cN I q w8)
  | bl j=>cases ry;show eq_bool (cN I q VP)
  | str j=>let⟨t',rfl⟩:=ry;show PySem.EqMixed.eq_bool_str (cN I q w8)
  | _=>show absurd (show false=true from hs) b8
 | int i=>
  let⟨t,rfl⟩:=rx;cases y with
  | non=>cases ry;show PySem.EqNone.eq_int_none (cN I q w8)
  | int j=>let⟨t',rfl⟩:=ry;show eq_int (cN I q Q0)
  | str j=>let⟨t',rfl⟩:=ry;show PySem.EqMixed.eq_int_str (cN I q w8)
  | _=>show absurd (show false=true from hs) b8
 | str i=>
  let⟨t,rfl⟩:=rx;cases y with
  | non=>cases ry;show PySem.EqNone.eq_str_none (cN I q w8)
  | bl j=>cases ry;show PySem.EqMixed.eq_str_bool (cN I q w8)
  | int j=>let⟨t',rfl⟩:=ry;show PySem.EqMixed.eq_str_int (cN I q w8)
  | str j=>let⟨t',rfl⟩:=ry;show eq_str (cN I q Q5)
  | _=>show absurd (show false=true from hs) b8
 | zp i=>
  let⟨t,rfl⟩:=rx;cases y with
  | zp j=>let⟨t',rfl⟩:=ry;show W.eq_bytes (cN I q Q6)
  | _=>show absurd (show false=true from hs) b8
 | _=>cases y <;> show absurd (show false=true from hs) b8
def Bm:eO X (compareOp .NotEq) rNe:=by
 walk_at"f";let⟨hs,q⟩:=h;cases x with
 | non=>
  cases rx;cases y with
  | non=>cases ry;show PySem.EqNone.ne_none_none (cN I q w8)
  | bl j=>cases ry;show PySem.EqNone.ne_none_bool (cN I q w8)
  | int j=>let⟨t',rfl⟩:=ry;show PySem.EqNone.ne_none_int (cN I q w8)
  | str j=>let⟨t',rfl⟩:=ry;show PySem.EqNone.ne_none_str (cN I q w8)
  | _=>show absurd (show false=true from hs) b8
 | bl i=>
  cases rx;cases y with
  | non=>cases ry;show PySem.EqNone.ne_bool_none (cN I q w8)
  | bl j=>cases ry;show ne_bool (cN I q (congrArg not VP))
  | str j=>let⟨t',rfl⟩:=ry;show PySem.EqMixed.ne_bool_str (cN I q w8)
  | _=>show absurd (show false=true from hs) b8
 | int i=>
  let⟨t,rfl⟩:=rx;cases y with
  | non=>cases ry;show PySem.EqNone.ne_int_none (cN I q w8)
  | int j=>let⟨t',rfl⟩:=ry;show ne_int (cN I q (congrArg not Q0))
  | str j=>let⟨t',rfl⟩:=ry;show PySem.EqMixed.ne_int_str (cN I q w8)
  | _=>show absurd (show false=true from hs) b8
 | str i=>
  let⟨t,rfl⟩:=rx;cases y with
  | non=>cases ry;show PySem.EqNone.ne_str_none (cN I q w8)
  | bl j=>cases ry;show PySem.EqMixed.ne_str_bool (cN I q w8)
  | int j=>let⟨t',rfl⟩:=ry;show PySem.EqMixed.ne_str_int (cN I q w8)
  | str j=>let⟨t',rfl⟩:=ry;show ne_str (cN I q (congrArg not Q5))
  | _=>show absurd (show false=true from hs) b8
 | zp i=>
  let⟨t,rfl⟩:=rx;cases y with
  | zp j=>let⟨t',rfl⟩:=ry;show W.ne_bytes (cN I q (congrArg not Q6))
  | _=>show absurd (show false=true from hs) b8
 | _=>cases y <;> show absurd (show false=true from hs) b8
def Fe:eO X (compareOp .Lt) (JB λi j=>.bl (decide (i<j))):=Tz λ_ _ _ _ _ _ _ q=>lt_int q
def nA:eO X (compareOp .LtE) (JB λi j=>.bl (decide (i<=j))):=Tz λ_ _ _ _ _ _ _ q=>le_int q
def TF:eO X (compareOp .Gt) (JB λi j=>.bl (decide (j<i))):=Tz λ_ _ _ _ _ _ _ q=>gt_int q
def agc:eO X (compareOp .GtE) (JB λi j=>.bl (decide (j<=i))):=Tz λ_ _ _ _ _ _ _ q=>ge_int q
def VR:eO X (compareOp .In) (λx y H Q=>∃i j,x=.str i/\y=.str j/\Q (.bl (!(Builtin.Str.occurrences j i 0 j.length 1).isEmpty)) H):=by walk_at"f";let⟨i,j,rfl,rfl,q⟩:=h;let⟨t,rfl⟩:=rx;let⟨t',rfl⟩:=ry;show in_str (cN I q RA)
def abP:eO X (compareOp .IsNot) (λx y H Q=>y=.non/\Q (.bl (!decide (x=.non))) H):=by
 walk_at"f";let⟨rfl,q⟩:=h;cases ry;calc isnot_none_gen (cN I q ?_);cases x <;> first| (cases rx;rfl)| (let⟨t,rfl⟩:=rx;rfl)
def bR (b)(h:op≠.In:=by decide)(h2:op≠.NotIn:=by decide):behindInMarks op b=false:=by
 let e1:(op==CmpOp.In)=false:=by cases op <;> first|rfl|show absurd RA h
 let e2:(op==CmpOp.NotIn)=false:=by cases op <;> first|rfl|show absurd RA h2
 cases b <;> simp[behindInMarks,e1,e2]
def abQ (ho:eO X (compareOp op) r)(ha:PE X a ta)(hb:PE X b tb)(hm:behindInMarks op b=false):PE X (.Compare a [op] [b] pos) (qW r ta tb):=by intro ao s σ H Q I h;show wpAny_Compare1 (Y6 ha hb I h λv u s2 x y H2 I2 rx ry q=>ho ao s2 σ H2 x y v u Q I2 rx ry q) hm
def Fg (t:TE):TT:=λσ H Q=>t σ H λx H'=>Jv x λk=>Q k H'
def abR (ho:eO X (compareOp op) r)(ha:PE X a ta)(hb:PE X b tb)(hm:behindInMarks op b=false):PT X (.Compare a [op] [b] pos) (Fg (qW r ta tb)):=by
 intro ao s σ H Q I h;refine wpAny_isTrue_Compare1 (bM (ha ao s σ H _ I h) λv s1 ⟨x,H1,I1,r1,q1⟩=>bM (hb ao s1 σ H1 _ I1 q1) λu s2 ⟨y,H2,I2,r2,q2⟩=>bM (ho ao s2 σ H2 x y v u _ I2 r1 r2 q2) λc s3 ⟨z,H3,I3,r3,q3⟩=>?_) hm
 let⟨k,e,q3⟩:=oY q3;subst e;cases r3;show eP ⟨H3,I3,q3⟩
def zL (r r':R2)(ta tb tc:TE):TE:=λσ H Q=>ta σ H λx H1=>tb σ H1 λy H2=>r x y H2 λz H3=>Jv z λk=>(if k=true then tc σ H3 λw' H4=>r' y w' H4 Q else Q (.bl false) H3)
def Y8 (ho:eO X (compareOp op) r)(ho':eO X (compareOp op') r')(ha:PE X a ta)(hb:PE X b tb)(hc:PE X c tc)(hm:lastMarks [op,op'] [b,c]=false:=by with_unfolding_all rfl):PE X (.Compare a [op,op'] [b,c] pos) (zL r r' ta tb tc):=by
 intro ao s σ H Q I h;refine Compare_chain (bM (ha ao s σ H _ I h) λv s1 ⟨x,H1,I1,r1,q1⟩=>chain_link (bM (hb ao s1 σ H1 _ I1 q1) λu s2 ⟨y,H2,I2,r2,q2⟩=>bM (ho ao s2 σ H2 x y v u _ I2 r1 r2 q2) λd s3 ⟨z,H3,I3,r3,q3⟩=>?_)) hm
 let⟨k,e,q3⟩:=oY q3;subst e;cases r3;calc eP ?_;cases k with| false=>show ite_ff ⟨.bl false,H3,I3,RA,q3⟩| true=>show ite_tt (chain_last (bM (hc ao s3 σ H3 _ I3 q3) λw' s4 ⟨z',H4,I4,r4,q4⟩=>ho' ao s4 σ H4 y z' u w' Q I4 r2 r4 q4))
def Y9 (ho:eO X (compareOp op) r)(ho':eO X (compareOp op') r')(ha:PE X a ta)(hb:PE X b tb)(hc:PE X c tc)(hm:lastMarks [op,op'] [b,c]=false:=by with_unfolding_all rfl):PT X (.Compare a [op,op'] [b,c] pos) (Fg (zL r r' ta tb tc)):=by
 intro ao s σ H Q I h;refine isTrue_chain (bM (ha ao s σ H _ I h) λv s1 ⟨x,H1,I1,r1,q1⟩=>test_link (bM (hb ao s1 σ H1 _ I1 q1) λu s2 ⟨y,H2,I2,r2,q2⟩=>bM (ho ao s2 σ H2 x y v u _ I2 r1 r2 q2) λd s3 ⟨z,H3,I3,r3,q3⟩=>?_)) hm
 let⟨k,e,q3⟩:=oY q3;subst e;cases r3;calc eP ?_;cases k with
 | false=>let⟨k',e',q'⟩:=oY q3;cases e';show ite_ff ⟨H3,I3,q'⟩
 | true=>calc ite_tt (test_last (bM (hc ao s3 σ H3 _ I3 q3) λw' s4 zz=>?_));let⟨z',H4,I4,r4,q4⟩:=zz;calc bM (ho' ao s4 σ H4 y z' u w' _ I4 r2 r4 q4) λd' s5 zz=>?_;let⟨z2,H5,I5,r5,q5⟩:=zz;let⟨k2,e2,q5⟩:=oY q5;subst e2;cases r5;show eP ⟨H5,I5,q5⟩
def tX:(sizeLine:Nat)<2^63:=by rw[sizeLine_eq];decide
def TJ:eO X (binaryOp .Add) (λx y H Q=>∃i j,x=.str i/\y=.str j/\i.length+j.length<=sizeLine/\Q (.str (i++j)) H):=by walk_at"f";let⟨i,j,rfl,rfl,hz,q⟩:=h;let⟨t,rfl⟩:=rx;let⟨t',rfl⟩:=ry;show add_str (λt' tk=>⟨.str (i++j),H,I.tok _,⟨_,RA⟩,q⟩) hz
def vals1 (r:Vals [x] us):∃u,us=[u]/\bN x u:=by
 cases r with| cons r1 r2=>cases r2;show⟨_,RA,r1⟩
def vals2 (r:Vals [x,y] us):∃u w',us=[u,w']/\bN x u/\bN y w':=by
 cases r with
 | cons r1 r2=>
  cases r2 with| cons r3 r4=>cases r4;show⟨_,_,RA,r1,r3⟩
def V0 (hc:X.calm=true):fU X (.builtin "min") (λxs H Q=>∃i j,xs=[.int i,.int j]/\Q (.int (if j<i then j else i)) H):=by
 walk_at"k";let⟨i,j,rfl,q⟩:=h;obtain⟨u,w',rfl,⟨t,rfl⟩,⟨t',rfl⟩⟩:=vals2 r;refine min_two_ints (I.ok.hd hc) λh' tk k=>⟨_,H,I.kept k,?_,q⟩
 by_cases hj:j<i;.rw[if_pos hj,if_pos hj];show⟨_,RA⟩
 .rw[if_neg hj,if_neg hj];show⟨_,RA⟩
def zM:fU X (.type "int") (λxs H Q=>(∃i,xs=[.int i]/\Q (.int i) H)\/∃k,xs=[.bl k]/\Q (.int (if k then 1 else 0)) H):=by
 walk_at"k";rcases h with⟨i,rfl,q⟩|⟨k,rfl,q⟩
 .let⟨u,rfl,t,rfl⟩:=vals1 r;show call_int_int ⟨.int i,H,I,⟨_,RA⟩,q⟩
 .let⟨u,rfl,r1⟩:=vals1 r;cases r1;show call_int_bool ⟨.int (if k then 1 else 0),H,I.tok _,⟨_,RA⟩,q⟩
end
structure Dv (h:Heap)(x dx C:Addr)(mA:Str->Option Value):Prop where
 obj:h.get? x=some (W.instObj C dx)
 ns:h.Ns1 dx mA
 ne:dx≠x
def V1 {h:Heap}(n:h.Ns1 dx mA):∃od,h.get? dx=some od/\∀name,W.lookIn name od=some (mA name):=by
 let⟨o,es,ep,ho,hd,hk,_,hm⟩:=n;calc⟨o,ho,λname=>?_⟩;let e:=hm name;unfold nsFind findBy at e;rw[<-Array.find?_toList]at e;unfold W.lookIn;rw[hd];dsimp only;split
 .rename_i y q;rw[q]at e;show congrArg some e
 .rename_i q;rw[q]at e;let a:es.toList.any (·.refKey)=false:=by
   rw[List.any_eq_false];intro y hy;let⟨z,t,hkey⟩:=hk y (sN.mp hy);simp[DictEntry.refKey,hkey]
  let a':¬es.toList.any (·.refKey)=true:=by rw[a];show b8
  rw[if_neg a'];show congrArg some e
def Dv.look (I:Dv h x dx C mA):∃od,W.InstAt h x (W.instObj C dx) C (some od)/\∀name,W.lookIn name od=some (mA name):=let ⟨od,ho,hl⟩:=V1 I.ns
 ⟨od,⟨I.obj,RA,RA,ho⟩,hl⟩
section
variable {prog:Program}{w:World}{A:Around}{E:AB}{s:Shared}{K:W.Frag}{x dx C f:Addr}{mA:Str->Option Value}{name:Str}{v:Value}
def get_map (X:K.In s.heap)(I:Dv s.heap x dx C mA)(hg:W.plainGet K C name=true)(hh:W.hasDictIn K C=true)(ha:W.findIn K (.ref C) name=some none)(hv:mA name=some v)(hv':W.handedIn v=true)(h:Q v {s with toks:=s.toks+1}):wpAny (model prog w) A (getAttr (.ref x) name expr) Q E s:=by let⟨od,J,hl⟩:=I.look;show W.get_value X J (tN hg).1 (W.findObj_own hh ha RA (by rw[hl,hv])) hv' h
def Y_ (X:K.In s.heap)(I:Dv s.heap x dx C mA)(hg:W.plainGet K C name=true)(hf:W.findIn K (.ref C) name=some (some (.ref f)))(ht:W.isFn K (.ref f)=true)(hv:mA name=none)(h:Q (.ref f,[.ref x]) s):wpAny (model prog w) A (getMethod (.ref x) name pl) Q E s:=by let⟨od,J,hl⟩:=I.look;show W.method_fn X J (tN hg).1 (tN hg).2 hf (beq_iff_eq.mp ht) (by show (W.lookIn name od).map (·.isSome)=some false;rw[hl,hv];rfl) h
def abS (X:K.In s.heap)(I:Dv s.heap x dx C mA)(hs:W.findIn K (.ref C) "__setattr__"=some (some (.builtin "object.__setattr__")))(hp:W.plainOver K C=true)(ht:W.takerIn K C name=some none)(hh:W.hasDictIn K C=true)(hw:PySem.Within mA ns)(hsz:ns.length<=sizeLine)(h:∀h',Dv h' x dx C (λy=>if y=name then some v else mA y)->Heap.SameBut dx s.heap h'->Q () {s with heap:=h',toks:=s.toks+2}):wpAny (model prog w) A (setAttr (.ref x) name v) Q E s:=by let⟨od,J,hl⟩:=I.look;calc W.set_plain X J hs (W.osa_open (s:={s with toks:=s.toks+1}) (r:=none) X J hp ht λb=>?_);let⟨cd,hc,hd'⟩:=W.any_some hh;let hx:s.heap.get? x=some ⟨.ref C,some dx,.plain,#[]⟩:=I.obj;calc aa (ag (aa (aa (wpAny_loadPart hx (aa (W.Looks.here (s:={s with toks:=s.toks+1}) (W.looks_clsIn X hc) ?_))))));rw[hd'];calc ag (a:=some dx) (aa (ag (aa ?_)));calc wpAny_nsSet1 (s:={s with toks:=s.toks+1}) I.ns λh' hn2 hs2=>?_;let⟨oD,esD,epD,hoD,hdD,hcD⟩:=hn2.count (PySem.Within.cons name v hw);calc aa (wpAny_lookBehind hoD (by rw[hdD];show pastItsLine_dict (a8 hcD (by rw[bt];show g9 hsz))) ?_);show ag (h _ ⟨(hs2.2 _ (kq I.ne)).trans I.obj,hn2,I.ne⟩ hs2)
def Za (X:K.In s.heap)(hm:W.makesIn K C=true)(hi:W.findIn K (.ref C) "__init__"=some (some (.ref f)))(hf:W.typeIn K (.ref f)=some (.type "function"))(h:codeAny (model prog w) (A.under (.builtin "type.__call__" ⟨.ref C::vs,kw⟩)) (.call (.ref f) ⟨.ref (s.heap.objs.size+1)::vs,kw⟩) (W.InitBack (s.heap.objs.size+1) R) {s with heap:=(s.heap.push W.emptyDict).push (W.instObj C s.heap.objs.size)}):codeAny (model prog w) A (.call (.ref C) ⟨vs,kw⟩) R s:=by let⟨hh,g,d,t,os⟩:=s;show W.make_core (W.makes_of X hm) (W.looks_findIn X hi) (λself=>W.bind_fn X self hf) (.inl RA) h
end
def jJ (f:Str)(v:V):List (Str×V)->List (Str×V)
 | []=>[(f,v)]
 | (g,x)::r=>if g=f then (g,v)::r else (g,x)::jJ f v r
theorem CP (f g)(v):∀fs:List (Str×V),(jJ f v fs).lookup g=if g=f then some v else fs.lookup g
 | []=>by
  show List.lookup g [(f,v)]=_;by_cases h:g=f
  .let hb:(g==f)=true:=beq_iff_eq.mpr h;simp only[List.lookup,hb,if_pos h]
  .let hb:(g==f)=false:=beq_eq_false_iff_ne.mpr h;simp only[List.lookup,hb,if_neg h]
 | (k,x)::r=>by
  let ih:=CP f g v r;rw[show jJ f v ((k,x)::r)=(if k=f then (k,v)::r else (k,x)::jJ f v r) from rfl];by_cases hk:k=f
  .rw[if_pos hk];by_cases h:g=k
   .let hb:(g==k)=true:=beq_iff_eq.mpr h;simp only[List.lookup,hb,if_pos (h.trans hk)]
   .let hb:(g==k)=false:=beq_eq_false_iff_ne.mpr h;simp only[List.lookup,hb,if_neg (λe:g=f=>h (e.trans hk.symm))]
  .rw[if_neg hk];by_cases h:g=k
   .let hb:(g==k)=true:=beq_iff_eq.mpr h;simp only[List.lookup,hb,if_neg (λe:g=f=>hk (h.symm.trans e))]
   .let hb:(g==k)=false:=beq_eq_false_iff_ne.mpr h;simp only[List.lookup,hb];show ih
theorem zN (f)(v):∀fs:List (Str×V),f∈(jJ f v fs).map (·.1)/\∀g,g∈fs.map (·.1)->g∈(jJ f v fs).map (·.1)
 | []=>⟨by simp[jJ],λg h=>by simp at h⟩
 | (k,x)::r=>by
  let⟨i1,i2⟩:=zN f v r;rw[show jJ f v ((k,x)::r)=(if k=f then (k,v)::r else (k,x)::jJ f v r) from rfl];by_cases hk:k=f
  .rw[if_pos hk];subst hk;show⟨w8,λg h=>by simpa using h⟩
  .rw[if_neg hk];refine⟨?_,λg h=>?_⟩
   .rw[b6];show ay _ i1
   .rw[b6]at h ⊢;rcases ba.mp h with e|e;.show ba.mpr (.inl e)
    .show ay _ (i2 g e)
theorem CQ (f)(v):∀fs:List (Str×V),(jJ f v fs).length<=fs.length+1
 | []=>by simp[jJ]
 | (k,x)::r=>by
  let ih:=CQ f v r;rw[show jJ f v ((k,x)::r)=(if k=f then (k,v)::r else (k,x)::jJ f v r) from rfl];by_cases hk:k=f;.rw[if_pos hk,bt,bt];lia
  .rw[if_neg hk,bt,bt];show g9 ih
def mW.some_of (r:mW (some v) o):∃u,o=some u/\bN v u:=by
 cases o with| none=>show(show False from r).elim| some u=>show⟨u,RA,r⟩
def mW.none_of (r:mW none o):o=none:=by
 cases o with| none=>rfl| some u=>show(show False from r).elim
def V2 (r:bN v u):W.handedIn u=true:=by
 cases v with
 | non=>cases(show u=Value.none from r);rfl
 | bl b=>cases(show u=Value.bool b from r);rfl
 | int i=>let⟨t,e⟩:=(show ∃t,u=Value.int i t from r);cases e;rfl
 | str x=>let⟨t,e⟩:=(show ∃t,u=Value.str x t from r);cases e;rfl
 | zp b=>let⟨t,e⟩:=(show ∃t,u=Value.bytes b t from r);cases e;rfl
 | flt b=>let⟨t,e⟩:=(show ∃t,u=Value.float b t from r);cases e;rfl
 | ref a=>cases(show u=Value.ref a from r);rfl
 | ty n=>cases(show u=Value.type n from r);rfl
section
variable {P:Program}{w:World}{H:Hp}{h:Heap}{a C dx:Addr}{fs:List (Str×V)}
def Bo (hok:jk P w H h)(e:H a=some (.ins C dx fs)):∃mA,Dv h a dx C mA/\(∀f,mW (fs.lookup f) (mA f))/\PySem.Within mA (fs.map (·.1))/\fs.length<=1000/\H dx=some (.own a):=by
 let⟨d,z,ne,ob,mA,n,r,q⟩:=(show dW P w H h a (.ins C dx fs) from hok a _ e)
 show⟨mA,⟨ob,n,ne⟩,r,q,z,d⟩
end
structure Cls (K:W.Frag)(C:Addr):Prop where
 pg:W.plainGet K C Str.empty=true
 hd:W.hasDictIn K C=true
 po:W.plainOver K C=true
 sa:W.findIn K (.ref C) "__setattr__"=some (some (.builtin "object.__setattr__"))
def Cls.get {K:W.Frag}(c:Cls K C)(f:Str):W.plainGet K C f=true:=c.pg
def mZ (K:W.Frag)(C:Addr)(f:Str):Prop:=W.findIn K (.ref C) f=some none
def mZ.taker {K:W.Frag}{f:Str}(n:mZ K C f):W.takerIn K C f=some none:=by unfold W.takerIn;rw[show W.findIn K (.ref C) f=some none from n];rfl
structure Meth (K:W.Frag)(C:Addr)(m:Str)(f:Addr):Prop where
 at_:W.findIn K (.ref C) m=some (some (.ref f))
 fn:W.isFn K (.ref f)=true
 kp:W.keepIn K (.ref f)=true
section
variable {X:Cx}{ao:AC}{σ:St}{H:Hp}{s:Shared}{a C dx:Addr}{fs:List (Str×V)}{f:Str}{v:V}{A:Around}{E:AB}
def TQ (I:aM X ao σ H s)(e:H a=some (.ins C dx fs))(c:Cls X.K C)(n:mZ X.K C f)(l:fs.lookup f=some v)(h:∀u s',aM X ao σ H s'->bN v u->Q u s'):wpAny (model X.prog X.w) A (getAttr (.ref a) f b) Q E s:=by let⟨mA,O,r,_,_,_⟩:=Bo I.hok e;let⟨u,hu,ru⟩:=mW.some_of (v:=v) (o:=mA f) (by rw[<-l];show r f);show get_map I.jH O (c.get f) c.hd n hu (V2 ru) (h u _ (I.tok _) ru)
def Fi (I:aM X ao σ H s)(e:H a=some (.ins C dx fs))(c:Cls X.K C)(k:Meth X.K C m g)(l:fs.lookup m=none)(h:Q (.ref g,[.ref a]) s):wpAny (model X.prog X.w) A (getMethod (.ref a) m pl) Q E s:=by let⟨mA,O,r,_,_,_⟩:=Bo I.hok e;let hn:mA m=none:=mW.none_of (by rw[<-l];show r m);show Y_ I.jH O (c.get m) k.at_ k.fn hn h
def TV (I:aM X ao σ H s)(e:H a=some (.ins C dx fs))(c:Cls X.K C)(n:mZ X.K C f)(hl:fs.length<1000)(ry:bN y u)(h:∀s',aM X ao σ (upd H a (.ins C dx (jJ f y fs))) s'->Q () s'):wpAny (model X.prog X.w) A (setAttr (.ref a) f u) Q E s:=by
 let⟨mA,O,r,wi,_,ho⟩:=Bo I.hok e;let hz:(fs.map (·.1)).length<=sizeLine:=by rw[ab,sizeLine_eq];lia
 calc abS I.jH O c.sa c.po n.taker c.hd wi hz λh' O' sb=>h _ ?_;let hd:∃o,h'.get? dx=some o:=let ⟨o,_,_,e',_⟩:=O'.ns;⟨o,e'⟩
 calc I.write (x:=a) (e:=dx) (by rw[e];show True.intro) (.inr ho) (λb q hb z=>(sb.2 b hb).trans z) hd ?_;calc⟨by rw[bw O.ne];show ho,?_,O.ne,O'.obj,_,O'.ns,λg=>?_,λg hg=>?_⟩;.have:=CQ f y fs;lia
 .show mW ((jJ f y fs).lookup g) (if g=f then some u else mA g);rw[CP];by_cases q:g=f;.rw[if_pos q,if_pos q];show ry
  .rw[if_neg q,if_neg q];show r g
 .by_cases q:g=f;.rw[q];show(zN f y fs).1
  .calc(zN f y fs).2 g (wi g λz=>hg ?_);show (if g=f then some u else mA g)=none;rw[if_neg q];show z
def aM.made (I:aM X ao σ H s):aM X ao σ (upd (upd H s.heap.objs.size (.own (s.heap.objs.size+1))) (s.heap.objs.size+1) (.ins C s.heap.objs.size [])) {s with heap:=(s.heap.push W.emptyDict).push (W.instObj C s.heap.objs.size)}:=by
 let e1:(s.heap.push W.emptyDict).get? s.heap.objs.size=some W.emptyDict:=ax s.heap rfl;let e2:((s.heap.push W.emptyDict).push (W.instObj C s.heap.objs.size)).get? (s.heap.objs.size+1)=some (W.instObj C s.heap.objs.size):=by
  have:=ax (s.heap.push W.emptyDict) (o:=W.instObj C s.heap.objs.size) rfl
  rwa [dA]at this
 let e3:(s.heap.push W.emptyDict).Ns s.heap.objs.size (λ_=>none):=(JE W.emptyDict (#[]) _ ⟨e1,RA,(λe he=>absurd he w8),λ_=>rfl⟩)
 let I1:=I.laid (a:=s.heap.objs.size) (o:=.own (s.heap.objs.size+1)) (h':=s.heap.push W.emptyDict) (t':=s.toks) (λb u q=>af _ q) (ah _) ⟨_,e1⟩;calc I1.laid (a:=s.heap.objs.size+1) (o:=.ins C s.heap.objs.size []) (t':=s.toks) (λb u q=>af _ q) (me (dA _ _)) ?_;let ne:s.heap.objs.size≠s.heap.objs.size+1:=bn (f8 _);refine⟨by rw[bw ne,au],cw _,ne,e2,λ_=>none,(Heap.Ns1.of_empty e3).at λo q=>af _ q,λ_=>True.intro,λy hy=>absurd RA hy⟩
def abT (hb:attributeBase e f env (eval e env)=eval e env)(h:wpAny (model prog w) A (eval e env) (λo s₁=>wpAny (model prog w) A (getAttr o f true) Q E s₁) E s):wpAny (model prog w) A (eval (.Attribute e f pos) env) Q E s:=Attribute_any_ h (by rw[arm_eval_Attribute,hb])
end
def aea (K:W.Frag)(ta:TE)(f:Str):TE:=λσ H Q=>ta σ H λx H1=>∃a C dx fs v,x=.ref a/\H1 a=some (.ins C dx fs)/\Cls K C/\mZ K C f/\fs.lookup f=some v/\Q v H1
def aeb (K:W.Frag)(ta tv:TE)(f:Str):TS:=λD σ H=>tv σ H λy H1=>ta σ H1 λx H2=>∃a C dx fs,x=.ref a/\H2 a=some (.ins C dx fs)/\Cls K C/\mZ K C f/\fs.length<1000/\
 D.nx σ (upd H2 a (.ins C dx (jJ f y fs)))
section
variable {X:Cx}{o e value:Expr}{f:Str}{pos pos':Pos}{ta tv:TE}
variable {ao:AC}{σ:St}{H:Hp}{s:Shared}{A:Around}{E Q:AB}{c:Value}{b:Bool}
def aec (he:PE X e ta)(hb:attributeBase e f X.env (eval e X.env)=eval e X.env):PE X (.Attribute e f pos) (aea X.K ta f):=by intro ao s σ H Q I h;calc abT hb (bM (he ao s σ H _ I h) λu s1 zz=>?_);let⟨x,H1,I1,rx,a,C,dx,fs,v,ex,ea,c,n,l,q⟩:=zz;subst ex;obtain rfl:u=Value.ref a:=rx;show TQ I1 ea c n l λu' s2 I2 ru=>⟨v,H1,I2,ru,q⟩
def aed (ha:PE X o ta)(hv:PE X value tv)(hs:swapsWith value (some (.Attribute o f pos')) pos.line X.env=pure false):PS X (.Assign [.Attribute o f pos'] value pos) (aeb X.K ta tv f):=by intro ao s σ H D I h;calc plainObj_wpAny_Assign_Attribute (bM (hv ao s σ H _ I h) λu s1 zz=>?_) hs;let⟨y,H1,I1,ry,q⟩:=zz;calc bM (ha ao s1 σ H1 _ I1 q) λov s2 zz=>?_;let⟨x,H2,I2,rx,a,C,dx,fs,ex,ea,c,n,l,q2⟩:=zz;subst ex;obtain rfl:ov=Value.ref a:=rx;show TV I2 ea c n l ry λs3 I3=>⟨σ,_,I3,q2⟩
inductive o9 (K:W.Frag) (H:Hp):V->Value->Prop where
 | non:o9 K H .non (.type "NoneType")
 | bl (x:Bool):o9 K H (.bl x) (.type "bool")
 | int (i:Int):o9 K H (.int i) (.type "int")
 | str (x:Str):o9 K H (.str x) (.type "str")
 | flt (x:UInt64):o9 K H (.flt x) (.type "float")
 | lst {a:Addr} {xs:List V} (e:H a=some (.lst xs)):o9 K H (.ref a) (.type "list")
 | qe {a:Addr} {o:Obj} {xs:List V} (e:H a=some (.qe o (.lst xs))):o9 K H (.ref a) (.type "list")
 | tup {a:Addr} {xs:List V} (e:H a=some (.tup xs)):o9 K H (.ref a) (.type "tuple")
 | dK {a:Addr} {kvs:List (Key×V)} (e:H a=some (.dK kvs)):o9 K H (.ref a) (.type "dict")
 | dT {a:Addr} {kvs:List (List Key×V)} (e:H a=some (.dT kvs)):o9 K H (.ref a) (.type "dict")
 | ins {a C dx:Addr} {fs:List (Str×V)} (e:H a=some (.ins C dx fs)) (cl:Cls K C) (ha:W.findIn K (.ref C) "__class__"=some (some (.builtin "object.__class__")))
   (hn:W.specialIn K (.builtin "object.__class__") "__get__"=some (some (.builtin "getset_descriptor.__get__"))) (htk:W.takesIn K (.builtin "object.__class__")=some true)
   (hm:W.mroIn K C (.type "object")=some true):o9 K H (.ref a) (.ref C)
def V3 (I:aM X ao σ H s)(rx:bN x u)(ty:o9 X.K H x t)(e:W.kitOne X.K t c=some b)(h:∀tk,Q (.bool b) {s with toks:=tk}):wpAny (model X.prog X.w) A (call (.builtin "isinstance") [u,c]) Q E s:=by
 cases ty with
 | non=>cases(show u=Value.none from rx);show gm W.kitx_none I.jH True.intro e (λz=>nomatch z) h
 | bl y=>cases(show u=Value.bool y from rx);show gm W.kitx_bool I.jH True.intro e (λz=>nomatch z) h
 | int i=>let⟨t,q⟩:=(show ∃t,u=Value.int i t from rx);cases q;show gm W.kitx_int I.jH True.intro e (λz=>nomatch z) h
 | str y=>let⟨t,q⟩:=(show ∃t,u=Value.str y t from rx);cases q;show gm W.kitx_str I.jH True.intro e (λz=>nomatch z) h
 | flt y=>let⟨t,q⟩:=(show ∃t,u=Value.float y t from rx);cases q;show gm W.kitx_float I.jH True.intro e (λz=>nomatch z) h
 | @lst a xs ea=>
  cases(show u=Value.ref a from rx);let⟨_,_,n,_,h1⟩:=(show dW X.prog X.w H s.heap a (.lst xs) from I.hok a _ ea)
  show gm W.kitx_list I.jH ⟨_,h1,RA⟩ e (λz=>nomatch z) h
 | @qe a ob xs ea=>
  cases(show u=Value.ref a from rx);let⟨_,_,_,n,_,h1⟩:=(show dW X.prog X.w H s.heap a (.qe ob (.lst xs)) from I.hok a _ ea)
  show gm W.kitx_list I.jH ⟨_,h1,RA⟩ e (λz=>nomatch z) h
 | @tup a xs ea=>
  cases(show u=Value.ref a from rx);let⟨_,_,_,p⟩:=(show dW X.prog X.w H s.heap a (.tup xs) from I.hok a _ ea)
  let⟨o,h1,h2,_⟩:=p;show gm W.kitx_tuple I.jH ⟨o,h1,h2⟩ e (λz=>nomatch z) h
 | @dK a kvs ea=>
  cases(show u=Value.ref a from rx);let⟨_,_,vs,_,p⟩:=(show dW X.prog X.w H s.heap a (.dK kvs) from I.hok a _ ea)
  let⟨o,es,ep,h1,h2,_⟩:=p;show gm W.kitx_dict I.jH ⟨o,h1,h2.1⟩ e (λz=>nomatch z) h
 | @dT a kvs ea=>
  cases(show u=Value.ref a from rx);let⟨_,_,xs,_,o,es,ep,h1,h2,_⟩:=(show dW X.prog X.w H s.heap a (.dT kvs) from I.hok a _ ea)
  show gm W.kitx_dict I.jH ⟨o,h1,h2.1⟩ e (λz=>nomatch z) h
 | @ins a C dx fs ea cl ha hn htk hm=>cases(show u=Value.ref a from rx);let⟨mA,O,_⟩:=Bo I.hok ea;let⟨od,J,_⟩:=O.look;show gm (W.kitx_own (cl.get _) cl.hd ha hn htk hm) I.jH J e (λz=>nomatch z) h
end
structure dR (k:Nat)(A:Around):Prop where
 hd:A.handled=none
 dp:A.depth+3*k+5<recursionLimit
 un:A.units+16*k+200<cLine
def dR.mono (r:dR k A)(h:j<=k:=by decide):dR j A:=⟨r.hd,by have:=r.dp;lia,by have:=r.un;lia⟩
def dR.deeper (r:dR (k+1) A)(env):dR k (A.deeper env):=⟨r.hd,by have:=r.dp;show A.depth+1+3*k+5<_;lia,by have:=r.un;show A.units+3+16*k+200<_;lia⟩
def TX {A:Around}:(A.under (.builtin "type.__call__" ⟨.ref C::us,kw⟩)).depth=A.depth+1:=by first|rfl|simp[Around.under,Code.weight,Code.isCreation,Code.isGuard,Code.isCaller,Code.frames,Code.isFrame,guardIds]
def TY {A:Around}:(A.under (.builtin "type.__call__" ⟨.ref C::us,kw⟩)).units=A.units+1:=by first|rfl|simp[Around.under,Code.cUnits,Code.frames,Code.isFrame]
def dR.make (r:dR (k+1) A)(C)(us)(kw):dR k (A.under (.builtin "type.__call__" ⟨.ref C::us,kw⟩)):=⟨r.hd,by have:=r.dp;rw[TX];(simp_all;lia),by have:=r.un;rw[TY];(simp_all;lia)⟩
def dR.depth (r:dR k A):A.depth<recursionLimit:=by have:=r.dp;lia
def dR.units (r:dR k A):A.units+64<cLine:=by have:=r.un;lia
def dR.aee (r:dR k A):A.units<cLine:=by have:=r.un;lia
def n_:TA:=λ_ H Q=>Q [] H
def iH (ta:TE)(tr:TA):TA:=λσ H Q=>ta σ H λx H1=>tr σ H1 λxs H2=>Q (x::xs) H2
section
variable {X:Cx}{e:Expr}{es:List Expr}{te:TE}{t:TA}{pos:Pos}
def aef:PA X [] n_:=λ_ _ _ _ H Q I h=>rj ⟨[],H,I,.nil,h⟩
def abU (ha:PE X e te)(hr:PA X es t)(hs:starEach (e::es) X.env=(false,eval e X.env)::starEach es X.env:=by rfl):PA X (e::es) (iH te t):=by intro pos ao s σ H Q I h;rw[hs];show wpAny _ _ (spliced ((false,eval e X.env)::backTo pos (starEach es X.env))) _ _ s;calc iP (bM (ha ao s σ H _ I h) λu s1 zz=>?_);let⟨x,H1,I1,r1,q1⟩:=zz;show bM (hr pos ao s1 σ H1 _ I1 q1) λus s2 ⟨xs,H2,I2,r2,q2⟩=>⟨x::xs,H2,I2,.cons r1 r2,q2⟩
def Zb (t:TA):TE:=λσ H Q=>t σ H λxs H1=>xs.length<=sizeLine/\∀p,H1 p=none->Q (.ref p) (upd H1 p (.tup xs))
def aeg (t:TA):TE:=λσ H Q=>t σ H λxs H1=>xs.length<=sizeLine/\∀p,H1 p=none->Q (.ref p) (upd H1 p (.lst xs))
def aeh {x1}(h:PA X es t):PE X (.Tuple es x1 pos) (Zb t):=by intro ao s σ H Q I hq;calc wpAny_Tuple_spliced (bM (h pos ao s σ H _ I hq) λus s1 ⟨xs,H1,I1,r,z,q⟩=>⟨by rw[<-r.length];show z,?_⟩);let hf:H1 s1.heap.objs.size=none:=I1.hok.fresh (ah _);calc⟨.ref s1.heap.objs.size,upd H1 s1.heap.objs.size (.tup xs),I1.laid (t':=s1.toks) (λb u e=>af _ e) (ah _) ?_,RA,q _ hf⟩;show⟨z,us,r,⟨_,ax _ RA,RA,_,RA⟩⟩
def aei (h:PA X es t):PE X (.List es pos) (aeg t):=by intro ao s σ H Q I hq;calc wpAny_List_spliced (bM (h pos ao s σ H _ I hq) λus s1 ⟨xs,H1,I1,r,z,q⟩=>⟨by rw[<-r.length];show z,?_⟩);let hf:H1 s1.heap.objs.size=none:=I1.hok.fresh (ah _);calc⟨.ref s1.heap.objs.size,upd H1 s1.heap.objs.size (.lst xs),I1.laid (t':=s1.toks) (λb u e=>af _ e) (ah _) ?_,RA,q _ hf⟩;show⟨z,us,0,r,ax _ RA⟩
end
abbrev Sp:=List V->Hp->VK->XK->Prop
abbrev sE:=List Env->Hp->Shared->XK->Value->Shared->Prop
structure zO (P:Program)(w:World)(K:W.Frag)(mg:Str->Option Value)(base:Heap)(A:Around)(outer:List Env)(s:Shared)(H:Hp):Prop where
 frames:A.frames=some outer
 mod:Mod K mg base
 bs:∀b o,base.get? b=some o->s.heap.get? b=some o/\H b=none
 EY:base.objs.size<=s.heap.objs.size
 rG:s.heap.FunFrames base outer
 LR:∀b∈frs outer,H b=none
 hok:jk P w H s.heap
 bare:AllBare s.gens
def CE (outer:List Env)(P:Program)(w:World)(H:Hp)(s:Shared)(Q:VK)(u:Value)(s':Shared):Prop:=∃v H',s'.os=s.os/\AllBare s'.gens/\Un (frs outer) [] H H' s.heap s'.heap/\jk P w H' s'.heap/\bN v u/\Q v H'
def CR (CX:sE)(outer:List Env)(P:Program)(w:World)(H:Hp)(s:Shared)(Q:VK)(E:XK)(r:Result)(s':Shared):Prop:=match r with| .ok (.ret u)=>CE outer P w H s Q u s'| .ok _=>False| .error e=>CX outer H s E e s'
structure cJ (P:Program)(w:World)(K:W.Frag)(mg:Str->Option Value)(base:Heap)(CX:sE)(k:Nat)(f:Addr)(fd:FuncData)(ps:List Str)(sp:Sp):Prop where
 len:∀vs H Q E,sp vs H Q E->vs.length=ps.length
 run:∀(A:Around) (outer:List Env) (s:Shared) (H:Hp) (args:Args) (us:List Value) (vs:List V) (Q:VK) (E:XK),dR k A->zO P w K mg base A outer s H->BindsTo s fd args (ps.zip us)->Vals vs us->sp vs H Q E->
  codeAny (model P w) A (.call (.ref f) args) (CR CX outer P w H s Q E) s
def cJ.mono {K:W.Frag}{mg:Str->Option Value}{CX:sE}{j k:Nat}{ps:List Str}{sp:Sp}(F:cJ P w K mg base CX j f fd ps sp)(h:j<=k):cJ P w K mg base CX k f fd ps sp:=⟨F.len,λA outer s H args us vs Q E hr=>F.run A outer s H args us vs Q E (hr.mono h)⟩
def zO.make {K:W.Frag}{mg:Str->Option Value}{outer:List Env}(e:zO P w K mg base A outer s H)(C:Addr)(us:List Value)(kw:List (Str×Value)):zO P w K mg base (A.under (.builtin "type.__call__" ⟨.ref C::us,kw⟩)) outer s H:=⟨by first|show e.frames|(simpa [Around.under,Code.envs,Code.isFrame,pushEnvs] using e.frames),e.mod,e.bs,e.EY,e.rG,e.LR,e.hok,e.bare⟩
section
variable {X:Cx}{ao:AC}{σ:St}{H:Hp}{s s':Shared}
def aM.env0 (I:aM X ao σ H s):zO X.prog X.w X.K X.mg X.base X.A X.stack s H:=⟨I.ok.frames,I.ok.mod,I.bs,a8 I.ok.EY I.sz,I.stack,I.QV,I.hok,I.bare⟩
def aM.after (I:aM X ao σ H s)(h:CE X.stack X.prog X.w H s Q u s'):EP X ao σ Q u s':=by let⟨v,H',os,bare,un,hok,r,q⟩:=h;let⟨hh,g,d,t,os'⟩:=s';obtain rfl:os'=s.os:=os;show⟨v,H',I.call (h':=hh) (g':=g) (d':=d) (t':=t) (ch:=[]) un hok bare (λb z=>absurd z w8),r,q⟩
end
def u_ (sp:Sp)(iW:List V)(E:XK)(t:TA):TE:=λσ H Q=>t σ H λvs H1=>sp (vs++iW) H1 Q E
def Fj (C:Addr)(m:Str)(sp:Sp)(iW:List V)(E:XK)(ta:TE)(t:TA):TE:=λσ H Q=>ta σ H λx H1=>∃a dx fs,x=.ref a/\H1 a=some (.ins C dx fs)/\fs.lookup m=none/\
 t σ H1 λvs H2=>sp (x::(vs++iW)) H2 Q E
def abe (C:Addr)(sp:Sp)(iW:List V)(E:XK)(t:TA):TE:=λσ H Q=>t σ H λvs H1=>∀x dx,H1 x=none->H1 dx=none->dx≠x->
 sp (.ref x::(vs++iW)) (upd (upd H1 dx (.own x)) x (.ins C dx [])) (λv H2=>v=.non/\Q (.ref x) H2) E
def cu (K:W.Frag)(fd:FuncData)(ps:List Str)(ds:List Value):Prop:=∀(s:Shared) (us:List Value),K.In s.heap->(us++ds).length=ps.length->BindsTo s fd ⟨us,[]⟩ (ps.zip (us++ds))
def cu.all {K:W.Frag}{ps:List Str}(h:∀us:List Value,us.length=ps.length->bindArgs fd ⟨us,[]⟩=pure (ps.zip us)):cu K fd ps []:=λs us _ hl=>by rw[fS]at hl ⊢;show .of_eq (h us hl)
def Passes (CX:sE)(X:Cx)(E:XK):Prop:=∀(ao:AC) (σ:St) (H:Hp) (s:Shared) (e:Value) (s':Shared),aM X ao σ H s->CX X.stack H s E e s'->X.xe e s'
section
variable {X:Cx}{CX:sE}{k:Nat}{f C:Addr}{fd:FuncData}{ps:List Str}{sp:Sp}{iW:List V}{ds:List Value}{E:XK}{x m:Str}{p pos apos:Pos}{e o:Expr}{es:List Expr}{ta:TE}{t:TA}
def Ml {ao:AC}{σ:St}{H:Hp}{s:Shared}{Q:VK}{us:List Value}{vs:List V}(F:cJ X.prog X.w X.K X.mg X.base CX k f fd ps sp)(hr:dR k X.A)(hb:cu X.K fd ps ds)(hd:Vals iW ds)(hx:Passes CX X E)(I:aM X ao σ H s)(r:Vals vs us)(h:sp (vs++iW) H Q E):wpAny (model X.prog X.w) X.A (call (.ref f) us) (EP X ao σ Q) X.xe s:=by
 let r2:Vals (vs++iW) (us++ds):=r.append hd;let hl:(us++ds).length=ps.length:=by rw[<-r2.length];show F.len _ _ _ _ h
 calc vy (i9 (F.run X.A X.stack s H ⟨us,[]⟩ (us++ds) (vs++iW) Q E hr I.env0 (hb s us I.jH hl) r2 h) λr s' hq=>?_);cases r with
 | error e=>show hx ao σ H s e s' I hq
 | ok fl=>
  cases fl with| ret u=>show I.after hq| next=>show False.elim hq| brk=>show False.elim hq| cont=>show False.elim hq
def abV (F:cJ X.prog X.w X.K X.mg X.base CX k f fd ps sp)(hr:dR k X.A)(hg:Gl X x)(hm:X.mg x=some (.ref f))(hk:W.keepIn X.K (.ref f)=true)(hb:cu X.K fd ps ds)(hd:Vals iW ds)(hx:Passes CX X E)(ha:PA X (e::es) t)(hdb:(x==("__debug__":Str))=false:=by decide)(he:starEach (e::es) X.env=(false,eval e X.env)::starEach es X.env:=by rfl)(hpl:(backTo pos (starEach es X.env)).any (·.1)=false:=by rfl):PE X (.Call (.Name x p) (e::es) [] pos) (u_ sp iW E t):=by intro ao s σ H Q I h;calc kH (Bl I hg hm ?_ hdb);calc qk (h₀:=X.base) I.ok.mod.LK hk (bM (ha pos ao s σ H _ I h) λus s1 ⟨vs,H1,I1,r,q⟩=>⟨I1.jH,?_⟩) he hpl;show Ml F hr hb hd hx I1 r q
def abW {pl:Sem Bool}(he:PE X o ta)(c:Cls X.K C)(hm:Meth X.K C m f)(F:cJ X.prog X.w X.K X.mg X.base CX k f fd ps sp)(hr:dR k X.A)(hb:cu X.K fd ps ds)(hd:Vals iW ds)(hx:Passes CX X E)(ha:PA X (e::es) t)(hst:starEach (e::es) X.env=(false,eval e X.env)::starEach es X.env:=by rfl)(hpl:(backTo pos (starEach es X.env)).any (·.1)=false:=by rfl)(ht:eval (.Call (.Attribute o m apos) (e::es) [] pos) X.env=(do
   let ov <- eval o X.env
   standAt apos.atName
   let (f,first) <- holding [ov] (getMethod ov m pl)
   callWith pos f first (backTo pos (starEach (e::es) X.env)) (backToKw pos (keywordEach [] X.env))):=by rfl) :
  PE X (.Call (.Attribute o m apos) (e::es) [] pos) (Fj C m sp iW E ta t):=by
 intro ao s σ H Q I h;calc W.methodCall_KW (pl:=pl) (bM (he ao s σ H _ I h) λu s1 zz=>?_) ht;let⟨x,H1,I1,rx,a,dx,fs,ex,ea,l,q⟩:=zz;subst ex;obtain rfl:u=Value.ref a:=rx;calc Fi I1 ea c hm l ?_;calc qk (first:=[.ref a]) (h₀:=X.base) I.ok.mod.LK hm.kp (bM (ha pos ao s1 σ H1 _ I1 q) λus s2 ⟨vs,H2,I2,r,q2⟩=>⟨I2.jH,?_⟩) hst hpl;show Ml (us:=.ref a::us) (vs:=.ref a::vs) F hr hb hd hx I2 (.cons RA r) q2
def Zc (he:PE X o ta)(c:Cls X.K C)(hm:Meth X.K C m f)(F:cJ X.prog X.w X.K X.mg X.base CX k f fd ps sp)(hr:dR k X.A)(hb:cu X.K fd ps ds)(hd:Vals iW ds)(hx:Passes CX X E)(ht:eval (.Call (.Attribute o m apos) [] [] pos) X.env=(do
   let ov <- eval o X.env
   standAt apos.atName
   let (f,first) <- holding [ov] (getMethod ov m pl)
   callWith pos f first (backTo pos (starEach [] X.env)) (backToKw pos (keywordEach [] X.env))):=by rfl) :
  PE X (.Call (.Attribute o m apos) [] [] pos) (Fj C m sp iW E ta n_):=by
 intro ao s σ H Q I h;calc W.methodCall_KW (pl:=pl) (bM (he ao s σ H _ I h) λu s1 zz=>?_) ht;let⟨x,H1,I1,rx,a,dx,fs,ex,ea,l,q⟩:=zz;subst ex;obtain rfl:u=Value.ref a:=rx;calc Fi I1 ea c hm l ?_;show W.callWith_K0 (first:=[.ref a]) I1.jH hm.kp (Ml (us:=[.ref a]) (vs:=[.ref a]) F hr hb hd hx I1 (.cons RA .nil) q)
structure Mk (K:W.Frag)(C f:Addr):Prop where
 makes:W.makesIn K C=true
 init:W.findIn K (.ref C) "__init__"=some (some (.ref f))
 fn:W.isFn K (.ref f)=true
 kp:W.keepIn K (.ref C)=true
def Zd {ao:AC}{σ:St}{H:Hp}{s:Shared}{Q:VK}{us:List Value}{vs:List V}(M:Mk X.K C f)(F:cJ X.prog X.w X.K X.mg X.base CX k f fd ps sp)(hr:dR (k+1) X.A)(hb:cu X.K fd ps ds)(hd:Vals iW ds)(hx:Passes CX X E)(I:aM X ao σ H s)(r:Vals vs us)(h:∀x dx,H x=none->H dx=none->dx≠x->sp (.ref x::(vs++iW)) (upd (upd H dx (.own x)) x (.ins C dx [])) (λv H2=>v=.non/\Q (.ref x) H2) E):wpAny (model X.prog X.w) X.A (call (.ref C) us) (EP X ao σ Q) X.xe s:=by
 let hq:=h (s.heap.objs.size+1) s.heap.objs.size (I.hok.fresh (gy _)) (I.hok.fresh (ah _)) (bn (f8 _));let I2:=aM.made (C:=C) I;let r2:Vals (V.ref (s.heap.objs.size+1)::(vs++iW)) (Value.ref (s.heap.objs.size+1)::(us++ds)):=.cons RA (r.append hd);let hl:(Value.ref (s.heap.objs.size+1)::us++ds).length=ps.length:=by let e:=r2.length;rw[F.len _ _ _ _ hq]at e;show e.symm
 refine vy (Za (f:=f) I.jH M.makes M.init (beq_iff_eq.mp M.fn) (i9 (F.run _ X.stack _ _ ⟨Value.ref (s.heap.objs.size+1)::us,[]⟩ (Value.ref (s.heap.objs.size+1)::(us++ds)) _ _ E (hr.make C us [])
  (I2.env0.make C us []) (hb _ (Value.ref (s.heap.objs.size+1)::us) I2.jH hl) r2 hq) λr s' hq'=>?_))
 cases r with
 | error e=>show hx ao σ _ _ e s' I2 hq'
 | ok fl=>
  cases fl with
  | ret u=>let⟨v,H',I3,rv,ev,q3⟩:=I2.after hq';subst ev;show⟨rv,⟨V.ref (s.heap.objs.size+1),H',I3,RA,q3⟩⟩
  | next=>show False.elim hq'
  | brk=>show False.elim hq'
  | cont=>show False.elim hq'
def abX (M:Mk X.K C f)(F:cJ X.prog X.w X.K X.mg X.base CX k f fd ps sp)(hr:dR (k+1) X.A)(hg:Gl X x)(hm:X.mg x=some (.ref C))(hb:cu X.K fd ps ds)(hd:Vals iW ds)(hx:Passes CX X E)(ha:PA X (e::es) t)(hdb:(x==("__debug__":Str))=false:=by decide)(he:starEach (e::es) X.env=(false,eval e X.env)::starEach es X.env:=by rfl)(hpl:(backTo pos (starEach es X.env)).any (·.1)=false:=by rfl):PE X (.Call (.Name x p) (e::es) [] pos) (abe C sp iW E t):=by intro ao s σ H Q I h;calc kH (Bl I hg hm ?_ hdb);calc qk (h₀:=X.base) I.ok.mod.LK M.kp (bM (ha pos ao s σ H _ I h) λus s1 ⟨vs,H1,I1,r,q⟩=>⟨I1.jH,?_⟩) he hpl;show Zd M F hr hb hd hx I1 r q
end
def PK (X:Cx)(kws:List Keyword)(t:TA):Prop:=∀(pos:Pos) (ao:AC) (s:Shared) (σ:St) (H:Hp) (Q:List V->Hp->Prop),aM X ao σ H s->t σ H Q->wpAny (model X.prog X.w) X.A (evalAll ((backToKw pos (keywordEach kws X.env)).map (·.2))) (AP X ao σ Q) X.xe s
section
variable {X:Cx}{x:Str}{pos kpos:Pos}{e:Expr}{kws:List Keyword}{te:TE}{t:TA}{nm:Option Str}
def aej:PK X [] n_:=λ_ _ _ _ H Q I h=>wpAny_evalAll_nil ⟨[],H,I,.nil,h⟩
def abY (ha:PE X e te)(hr:PK X kws t):PK X (⟨nm,e,kpos⟩::kws) (iH te t):=by intro pos ao s σ H Q I h;show wpAny _ _ (evalAll ((do let v <- eval e X.env;standAt pos;pure v)::(backToKw pos (keywordEach kws X.env)).map (·.2))) _ _ s;calc wpAny_evalAll_cons (aa (bM (ha ao s σ H _ I h) λu s1 ⟨x,H1,I1,r1,q1⟩=>aa (r_ (ag ?_))));show bM (hr pos ao s1 σ H1 _ I1 q1) λus s2 ⟨xs,H2,I2,r2,q2⟩=>⟨x::xs,H2,I2,.cons r1 r2,q2⟩
end
structure aV (N P:List Str)(sc:Scope):Prop where
 kind:sc.kind=.function:=by rfl
 co:sc.isCoroutine=false:=by rfl
 gen:sc.isGenerator=false:=by rfl
 nd:N.Nodup:=by decide +kernel
 pre:N.take P.length=P:=by rfl
 par:∀x∈P,sc.names.lookup x=some .local\/sc.names.lookup x=some .cell:=by decide +kernel
 aek:∀y∈sc.names,y.2≠.free:=by decide +kernel
theorem JC {kindOf:Str->Option NameKind}{x:Str}:∀{binds:List (Str×Value)} {m:Str->Option Value},(∀v,(x,v)∉binds)->bindL kindOf binds m x=m x
 | [],_,_=>rfl
 | (n,v)::r,m,h=>by
  unfold bindL;rw[JC λw hw=>h w (ay _ hw)];split
  .have:x≠n:=by rintro rfl;show h v aE
   simp[this]
  .rfl
theorem JD {kindOf:Str->Option NameKind}{x:Str}:∀{binds:List (Str×Value)} {m:Str->Option Value},(∀v,(x,v)∉binds)->bindC kindOf binds m x=m x
 | [],_,_=>rfl
 | (n,v)::r,m,h=>by
  unfold bindC;rw[JD λw hw=>h w (ay _ hw)];split;.rfl
  .have:x≠n:=by rintro rfl;show h v aE
   simp[this]
theorem zP {kindOf:Str->Option NameKind}{x:Str}:∀{P:List Str} {vs:List Value} {i:Nat} {m:Str->Option Value},P.Nodup->P[i]?=some x->vs[i]?=some v->kindOf x=some .local->
  bindL kindOf (P.zip vs) m x=some v
 | [],_,_,_,_,h,_,_=>by simp at h
 | _::_,[],_,_,_,_,h,_=>by simp at h
 | p::P,w::vs,0,m,nd,h1,h2,hk=>by simp at h1 h2;subst h1;subst h2;show bindL kindOf ((p,w)::P.zip vs) m p=_;unfold bindL;rw[JC λv hv=>(gp.mp nd).1 (sP hv).1,if_pos hk];simp
 | p::P,w::vs,i+1,m,nd,h1,h2,hk=>by show bindL kindOf ((p,w)::P.zip vs) m x=_;unfold bindL;show zP (i:=i) (gp.mp nd).2 (by simpa using h1) (by simpa using h2) hk
theorem JF {kindOf:Str->Option NameKind}{x:Str}:∀{P:List Str} {vs:List Value} {i:Nat} {m:Str->Option Value},P.Nodup->P[i]?=some x->vs[i]?=some v->kindOf x≠some .local->
  bindC kindOf (P.zip vs) m x=some v
 | [],_,_,_,_,h,_,_=>by simp at h
 | _::_,[],_,_,_,_,h,_=>by simp at h
 | p::P,w::vs,0,m,nd,h1,h2,hk=>by simp at h1 h2;subst h1;subst h2;show bindC kindOf ((p,w)::P.zip vs) m p=_;unfold bindC;rw[JD λv hv=>(gp.mp nd).1 (sP hv).1,if_neg hk];simp
 | p::P,w::vs,i+1,m,nd,h1,h2,hk=>by show bindC kindOf ((p,w)::P.zip vs) m x=_;unfold bindC;show JF (i:=i) (gp.mp nd).2 (by simpa using h1) (by simpa using h2) hk
def start (N:List Str)(vs:List V):St:=vs.map some++List.replicate (N.length-vs.length) none
noncomputable def tY (CX:sE)(P:Program)(w:World)(K:W.Frag)(mg:Str->Option Value)(base:Heap)(N:List Str)(qual:Str)(scope:Scope)(f:Addr)(cd:Value)(A:Around)(outer:List Env)(s:Shared)(H:Hp)(E:XK):Cx where
 prog:=P
 w:=w
 K:=K
 mg:=mg
 base:=base
 A:=A.deeper (envOfC qual scope s.heap.objs.size f cd)
 N:=N
 s₀:=s
 H₀:=H
 env:=envOfC qual scope s.heap.objs.size f cd
 outer:=outer
 stack:=envOfC qual scope s.heap.objs.size f cd::outer
 ex:=[]
 calm:=true
 fn:=λ_=>true
 pn:=[]
 xe:=λe s'=>wpAny (model P w) (A.deeper (envOfC qual scope s.heap.objs.size f cd)) (leaving (envOfC qual scope s.heap.objs.size f cd) e) (λ_ s''=>CX outer H s E e s'') (λe' s''=>CX outer H s E e' s'') s'
def Mp {sc:Scope}(h:sc.names.lookup x=some .cell):∃c,(cellsFrom n sc.names []).lookup x=some c:=by let q:=W.cellsFrom_some sc.names n [] (.inl h);show Option.isSome_iff_exists.mp q
def JG {CX:sE}{K:W.Frag}{mg:Str->Option Value}{N ps:List Str}{qual:Str}{scope:Scope}{A:Around}{outer:List Env}{E:XK}{vs:List V}(S:aV N ps scope)(hd:A.handled=none)(e0:zO P w K mg base A outer s H)(hl:vs.length=ps.length)(r:Vals vs us)(x:InCallC s s.heap.objs.size (bindL (envOfC qual scope s.heap.objs.size f cd).kindOf (ps.zip us) λ_=>none) (cellsFrom (s.heap.objs.size+1) scope.names []) (bindC (envOfC qual scope s.heap.objs.size f cd).kindOf (ps.zip us) λ_=>none) s1):aM (tY CX P w K mg base N qual scope f cd A outer s H E) [] (start N vs) H s1:=by
 let hpl:ps.length<=N.length:=by have:=congrArg List.length S.pre;rw[be]at this;lia
 let⟨h1,tk,rfl,hk⟩:=x.done;let V4:∀b:Addr,b∉(tY CX P w K mg base N qual scope f cd A outer s H E).ex:=λb z=>absurd (show b∈([]:List Addr) from z) w8;refine⟨⟨e0.mod,S.kind,RA,RA,ah _,λy z c h1 h2=>?_,λy hy=>?_,λy c _ h=>?_,λ_=>hd,Around.frames_deeper e0.frames,.inr ⟨RA,RA⟩,λb z=>absurd z (V4 b),e0.bs,e0.EY,λb _ _=>V4 b,λb z=>absurd z (V4 b),e0.rG,e0.LR⟩,
  rfl,e0.bare,Un.kept hk,⟨_,x.toInCall.ns,λi y v h1 h2 h3=>?_⟩,λy c h=>⟨_,x.cell y c h⟩,e0.hok.fresh (ah _),λy c h=>?_,λp hp=>absurd (show p∈([]:AC) from hp) w8,e0.hok.kept hk,?_⟩
 .show name_of_addr x.apart (mN h1) (mN h2)
 .let hy:scope.names.lookup y=some .cell\/scope.names.lookup y=some .free:=hy;rcases hy with hy|hy;.show Mp hy
  .show absurd RA (S.aek _ (mN hy))
 .show aT (x.above y c (mN h))
 .let hi:i<vs.length:=by
   unfold start at h2;by_cases hi:i<vs.length;.show hi
   .rw[c_ (by simpa using hi)]at h2;rw[List.getElem?_replicate]at h2;split at h2 <;> cases h2
  let ha:vs[i]?=some v:=by
   unfold start at h2;rw[eJ (by simpa using hi),a_]at h2;cases e:vs[i]? with
   | none=>rw[e]at h2;cases h2
   | some a=>rw[e]at h2;cases h2;rfl
  let⟨u,hu,rv⟩:=r.get ha;let hp:ps[i]?=some y:=by rw[<-S.pre,mf (by simp_all)];show h1
  let ndP:ps.Nodup:=by rw[<-S.pre];show S.nd.sublist (rl _ _)
  calc⟨u,rv,?_⟩;rcases S.par y (aS hp) with k|k;.show .inl ⟨k,zP ndP hp hu k⟩
  .let⟨c,e⟩:=Mp (n:=s.heap.objs.size+1) k;calc .inr ⟨.inl k,c,e,?_⟩;let q:=x.cell y c e;rw[JF ndP hp hu (by show scope.names.lookup y≠_;rw[k];decide)]at q;show q
 .show e0.hok.fresh (aT (x.above y c (mN h)))
 .unfold start;show _=N.length;rw[av,ab,dq];simp_all
def agd {CX:sE}{P:Program}{w:World}{K:W.Frag}{mg:Str->Option Value}{base:Heap}{k:Nat}{f:Addr}{name qual:Str}{params:Arguments}{body:List Stmt}{scope:Scope}{dV kV doc pm bD ct oc:Value}{an od:Option Addr}{osl:Array (Option Value)}{N ps:List Str}{sp:Sp}(lk:K.lookup f=some ⟨oc,od,.func (W.fnOf name qual params body scope dV kV doc pm an bD ct),osl⟩)(hcd:W.codeIn K bD qual=true)(S:aV N ps scope)(len:∀vs H Q E,sp vs H Q E->vs.length=ps.length)(hbody:∀(A:Around) (outer:List Env) (s:Shared) (H:Hp) (vs:List V) (Q:VK) (E:XK),dR k (A.deeper (envOfC qual scope s.heap.objs.size f bD))->sp vs H Q E->
   ∃t,sy (tY CX P w K mg base N qual scope f bD A outer s H E) body t/\t {nx:=λ_ H'=>Q .non H',rt:=Q} (start N vs) H) :
  cJ P w K mg base CX (k+1) f (W.fnOf name qual params body scope dV kV doc pm an bD ct) ps sp:=by
 calc⟨len,λA outer s H args us vs Q E hr e0 hb r hsp=>?_⟩;let hl:=len _ _ _ _ hsp;let KX:K.In s.heap:=e0.mod.LK.keeps λb o e=>(e0.bs b o e).1;let lim:s.heap.NoLimit:=e0.mod.nolimit.keeps λb o e=>(e0.bs b o e).1;let hkind:∀y∈ps.zip us,scope.names.lookup y.1=some .local\/(scope.names.lookup y.1=some .cell/\((cellsFrom (s.heap.objs.size+1) scope.names []).lookup y.1).isSome=true):=λ⟨n,v⟩ hy=>by
  rcases S.par n (sP hy).1 with q|q;.show .inl q
  .show .inr ⟨q,W.cellsFrom_some _ _ _ (.inl q)⟩
 calc codeAny_call_function hr.depth (KX _ _ lk) RA S.co S.gen RA (W.codeRec_of KX hcd) (hb _ _ _ _ ?_);calc wpAny_newFunctionEnv_cells S.kind hkind λenv he s1 x=>?_;subst he;calc⟨lim.keeps x.toInCall.keep,codeAny_func ?_⟩;let⟨t,ht,hq⟩:=hbody A outer s H vs Q E (hr.deeper _) hsp;let I:aM (tY CX P w K mg base N qual scope f bD A outer s H E) [] (start N vs) H s1:=JG S hr.hd e0 hl r x;calc fN (ht [] s1 (start N vs) H _ I hq) (λfl s' hs=>?_) λe s' hs=>hs;let fin:∀{σ':St} {H':Hp} {v:V} {u:Value},aM (tY CX P w K mg base N qual scope f bD A outer s H E) [] σ' H' s'->bN v u->Q v H'->CE outer P w H s Q u s':=λ{σ' H' v u} J rv q=>⟨v,H',J.os,J.bare,J.base,J.hok,rv,q⟩
 cases fl with
 | ret u=>let⟨v,σ',H',J,rv,q⟩:=hs;show fin J rv q
 | next=>let⟨σ',H',J,q⟩:=hs;show fin (v:=V.non) (u:=Value.none) J RA q
 | brk=>let⟨_,_,_,q⟩:=hs;show False.elim q
 | cont=>let⟨_,_,_,q⟩:=hs;show False.elim q
section
variable {X:Cx}{x:Str}{p pos:Pos}{e:Expr}{es:List Expr}{t:TA}{id T:String}{r:List V->Hp->VK->Prop}
def tCB (r:List V->Hp->VK->Prop)(t:TA):TE:=λσ H Q=>t σ H λvs H1=>r vs H1 Q
def Ze (hc:fU X (.builtin id) r)(hg:Gl X x)(hm:X.mg x=none)(hv:bootBuiltins x=some (.builtin id))(ha:PA X (e::es) t)(hn:x≠"__name__":=by decide)(hdb:(x==("__debug__":Str))=false:=by decide)(he:starEach (e::es) X.env=(false,eval e X.env)::starEach es X.env:=by rfl)(hpl:(backTo pos (starEach es X.env)).any (·.1)=false:=by rfl):PE X (.Call (.Name x p) (e::es) [] pos) (tCB r t):=by intro ao s σ H Q I h;calc kH (mX I hg hm hv ?_ hn hdb);show PyProof.Rows.callWith_builtin1 (bM (ha pos ao s σ H _ I h) λus s1 ⟨vs,H1,I1,r1,q1⟩=>hc ao s1 σ H1 vs us Q I1 r1 q1) he hpl
def V5 (hc:fU X (.type T) r)(hg:Gl X x)(hm:X.mg x=none)(hv:bootBuiltins x=some (.type T))(ha:PA X (e::es) t)(hn:x≠"__name__":=by decide)(hdb:(x==("__debug__":Str))=false:=by decide)(he:starEach (e::es) X.env=(false,eval e X.env)::starEach es X.env:=by rfl)(hpl:(backTo pos (starEach es X.env)).any (·.1)=false:=by rfl):PE X (.Call (.Name x p) (e::es) [] pos) (tCB r t):=by intro ao s σ H Q I h;calc kH (mX I hg hm hv ?_ hn hdb);show fv (bM (ha pos ao s σ H _ I h) λus s1 ⟨vs,H1,I1,r1,q1⟩=>hc ao s1 σ H1 vs us Q I1 r1 q1) he hpl
end
end L2
namespace HT
open PySem PyProof.Rows
section
variable {prog:Program}{w:World}{A:Around}{E:AB}{s:Shared}
def cB (n d:Nat):Option Int->Nat
 | none=>d
 | some v=>if v<0 then (v+(n:Int)).toNat else min v.toNat n
def Zf (n d):cB n d none=d:=rfl
def wG (n d k:Nat):cB n d (some (k:Int))=min k n:=by show (if (k:Int)<0 then ((k:Int)+(n:Int)).toNat else min (k:Int).toNat n)=min k n;rw[if_neg wT,de]
def V6 (n d)(hd:d<=n)(o):cB n d o<=n:=by
 cases o with
 | none=>show hd
 | some v=>
  show (if v<0 then (v+(n:Int)).toNat else min v.toNat n)<=n;by_cases hv:v<0;.rw[if_pos hv];lia
  .rw[if_neg hv];show vS _ _
def Hv (v:Int)(n d:Nat):(if v<0 then max (v+(n:Int)) 0 else min v (n:Int))=((cB n d (some v):Nat):Int):=by
 show (if v<0 then max (v+(n:Int)) 0 else min v (n:Int))=(((if v<0 then (v+(n:Int)).toNat else min v.toNat n):Nat):Int)
 by_cases hv:v<0;.simp only[if_pos hv];lia
 .simp only[if_neg hv];grind
def T4 (lo hi:Option Int)(n:Nat):Builtin.Slice.sliceAdjust lo hi 1 (n:Int)=(((cB n 0 lo:Nat):Int),((cB n n hi:Nat):Int)):=by
 let h1:¬((1:Int)<0):=wT;unfold Builtin.Slice.sliceAdjust;simp only[h1,if_false];refine se ?_ ?_
 .cases lo with| none=>rfl| some v=>show Hv v n 0
 .cases hi with| none=>rfl| some v=>show Hv v n n
def T5 (i j:Nat):Builtin.Slice.slicePlaces (i:Int) (j:Int) 1=j-i:=by unfold Builtin.Slice.slicePlaces;let h1:(1:Int) > 0:=wT;simp only[h1,if_true,Int.ediv_one];split <;> simp_all
def Fl (p:IsPart v o)(h:Q o s):wpAny (model prog w) A (Builtin.Slice.slicePartIndex v) Q E s:=by
 cases p with| none=>show slicePart_none h| int i t=>show slicePart_int h
def Dw {sl:Addr}{vl vu:Value}{lo hi:Option Int}{n:Nat}{Q:Int×Int×Nat->Shared->Prop}(hs:s.heap.IsSliceOf sl vl vu .none)(pl:IsPart vl lo)(pu:IsPart vu hi)(h:Q (((cB n 0 lo:Nat):Int),1,cB n n hi-cB n 0 lo) s):wpAny (model prog w) A (Builtin.Slice.sliceApplied (.ref sl) (pure (n:Int))) Q E s:=by let⟨os,hos,hcs,hds⟩:=id hs;unfold Builtin.Slice.sliceApplied Builtin.Slice.sliceFields;calc aa (aa (eB hos hds (x:=vl) RA (aa (eB hos hds (x:=vu) RA (aa (eB hos hds (x:=.none) RA (ag ?_)))))));calc aa (slicePart_none ?_);show wpAny _ _ (if ((1:Int)==0)=true then _ else _) _ _ s;rw[if_neg w_];calc aa (Fl pl (aa (Fl pu (aa (ag ?_)))));show wpAny _ _ (match Builtin.Slice.sliceAdjust lo hi 1 (n:Int) with|(lo,hi)=>pure (lo,(1:Int),Builtin.Slice.slicePlaces lo hi 1)) _ _ s;rw[T4 lo hi n];show wpAny _ _ (pure (((cB n 0 lo:Nat):Int),(1:Int),Builtin.Slice.slicePlaces ((cB n 0 lo:Nat):Int) ((cB n n hi:Nat):Int) 1)) _ _ s;rw[T5];show ag h
def Zg (xs:Array Value)(i k:Nat):((List.range k).filterMap λ(m:Nat)=>xs[((i:Int)+(m:Int)*1).toNat]?).toArray=((xs.toList.drop i).take k).toArray:=by
 let e:(λ(m:Nat)=>xs[((i:Int)+(m:Int)*1).toNat]?)=λm=>xs[i+m]?:=by
  funext m;have:((i:Int)+(m:Int)*1).toNat=i+m:=by lia
  rw[this]
 rw[e];have:=pick_run xs i k;rw[List.filterMap_map]at this;let e2:((λx=>xs[x]?) ∘ λx=>i+x)=λm=>xs[i+m]?:=rfl;rw[e2]at this;rw[this]
def Cy {lo hi:Option Int}(ht:IsTup s.heap t items)(hs:s.heap.IsSliceOf sl vl vu .none)(pl:IsPart vl lo)(pu:IsPart vu hi)(hw:¬(cB items.size 0 lo=0/\cB items.size items.size hi=items.size))(h:Q (.ref s.heap.objs.size) {s with heap:=s.heap.push {cls:=.type "tuple",data:=.seq ((items.toList.drop (cB items.size 0 lo)).take (cB items.size items.size hi-cB items.size 0 lo)).toArray} })(hsz:items.size<=sizeLine):wpAny (model prog w) A (getItem (.ref t) (.ref sl)) Q E s:=by
 let Lh:sizeOk (.seq ((items.toList.drop (cB items.size 0 lo)).take (cB items.size items.size hi-cB items.size 0 lo)).toArray):=by show ((items.toList.drop (cB items.size 0 lo)).take (cB items.size items.size hi-cB items.size 0 lo)).toArray.size<=sizeLine;rw[bq,be,cy,bo];lia
 let hj:cB items.size items.size hi<=items.size:=V6 _ _ (ah _) hi;let⟨os,hos,hcs,hds⟩:=id hs;let hTs:s.TypeIs (.ref sl) "slice":=⟨os,hos,hcs⟩
 unfold getItem
 try with_reducible refine fe ?_
 first|refine aa (ag ?_)|skip
 calc aa (wpAny_sequenceKey ht.typeIs w_ ?_);refine aa (dC (name:=Str.ofString "__getitem__") ht.typeIs np
  (cE np ht.typeIs entry_tuple_getitem ?_ (args_tuple_getitem _ _)))
 show wpAny _ _ (Builtin.Tuple.tupleItemsOf (.ref t) >>= _) _ _ s;calc aa (tupleItemsOf_ ht ?_);calc aa (sQ hTs ?_);rw[if_pos w_];calc aa (Dw hs pl pu ?_);let hno:¬((((cB items.size 0 lo:Nat):Int)==0&&(1:Int)==1&&(cB items.size items.size hi-cB items.size 0 lo)==items.size)=true):=by intro q;rw[df,df]at q;let q1:((cB items.size 0 lo:Nat):Int)=0:=eq_of_beq q.1.1;let q2:cB items.size items.size hi-cB items.size 0 lo=items.size:=eq_of_beq q.2;show hw ⟨Iff.mp Int.ofNat_inj q1,by simp_all⟩
 show wpAny _ _ (if (((cB items.size 0 lo:Nat):Int)==0&&(1:Int)==1&&(cB items.size items.size hi-cB items.size 0 lo)==items.size)=true then _ else _) _ _ s;rw[if_neg hno,Zg]
 first| show aa (m:=Builtin.Tuple.tupleExact _) (eQ (ag ⟨_,RA,ag h⟩) Lh)| show aa (m:=Builtin.Tuple.tupleExact _) (eQ (aa (ag (ag ⟨_,RA,ag h⟩))) Lh)| show aa (aa (m:=Builtin.Tuple.tupleExact _) (eQ (ag (ag ⟨_,RA,ag h⟩)) Lh))| show aa (aa (m:=Builtin.Tuple.tupleExact _) (eQ (ag ⟨_,RA,ag h⟩) Lh))
end
end HT
namespace L2
open PySem PySem.Spec PyProof.Rows
abbrev TO:=St->Hp->(Option Int->Hp->Prop)->Prop
def PO (X:Cx)(e:Option Expr)(t:TO):Prop:=∀(ao:AC) (s:Shared) (σ:St) (H:Hp) (Q:Option Int->Hp->Prop),aM X ao σ H s->t σ H Q->
  wpAny (model X.prog X.w) X.A (evalPart e X.env) (λu s'=>∃o H',aM X ao σ H' s'/\IsPart u o/\Q o H') X.xe s
def tQ:TO:=λ_ H Q=>Q none H
def Bp (t:TE):TO:=λσ H Q=>t σ H λx H1=>∃i,x=.int i/\Q (some i) H1
section
variable {X:Cx}{e:Expr}{te:TE}{lo hi:Option Expr}{tl th:TO}{pos p2:Pos}
def abZ:PO X none tQ:=by intro ao s σ H Q I h;rw[evalPart_none];show ag ⟨none,H,I,.none,h⟩
def ab0 (h:PE X e te):PO X (some e) (Bp te):=by intro ao s σ H Q I hw;rw[evalPart_some];calc bM (h ao s σ H _ I hw) λu s1 zz=>?_;let⟨x,H1,I1,r1,q1⟩:=zz;let⟨i,rfl,q⟩:=q1;let⟨t,rfl⟩:=r1;show⟨some i,H1,I1,.int i t,q⟩
def Q7 (X:Cx)(r:V->Option Int->Option Int->Hp->VK->Prop):Prop:=∀(ao:AC) (s:Shared) (σ:St) (H:Hp) (x:V) (v vl vu:Value) (lo hi:Option Int) (sl:Addr) (Q:VK),aM X ao σ H s->bN x v->s.heap.IsSliceOf sl vl vu .none->IsPart vl lo->IsPart vu hi->r x lo hi H Q->
  ∃T id,typeLookup (.type T) "__getitem__"=pure (some (.builtin id))/\s.TypeIs v T/\wpAny (model X.prog X.w) X.A (getItem v (.ref sl)) (EP X ao σ Q) X.xe s
def Q8 (r:V->Option Int->Option Int->Hp->VK->Prop)(te:TE)(tl th:TO):TE:=λσ H Q=>te σ H λx H1=>tl σ H1 λl H2=>th σ H2 λu H3=>r x l u H3 Q
def Zh (hr:Q7 X r)(he:PE X e te)(hl:PO X lo tl)(hu:PO X hi th):PE X (.Subscript e (.Slice lo hi none p2) pos) (Q8 r te tl th):=by intro ao s σ H Q I h;calc Subscript_ (bM (he ao s σ H _ I h) λv s1 zz=>?_);let⟨x,H1,I1,r1,q1⟩:=zz;calc wpAny_Slice (bM (hl ao s1 σ H1 _ I1 q1) λvl s2 zz=>?_);let⟨l,H2,I2,pl,q2⟩:=zz;calc bM (hu ao s2 σ H2 _ I2 q2) λvu s3 zz=>?_;let⟨u,H3,I3,pu,q3⟩:=zz;rw[evalPart_none];calc ag ?_;let I4:aM X ao σ H3 {s3 with heap:=s3.heap.push {cls:=.type "slice",data:=.fields #[vl,vu,.none]} }:=I3.kept (t':=s3.toks) λb ob q=>af _ q;let⟨T,id,hT,ht,hg⟩:=hr ao {s3 with heap:=s3.heap.push {cls:=.type "slice",data:=.fields #[vl,vu,.none]} } σ H3 x v vl vu l u s3.heap.objs.size Q I4 r1 (Heap.IsSliceOf.new ..) pl pu q3;show wpAny (model X.prog X.w) X.A (subscriptTail e (.Slice lo hi none p2) v (.ref s3.heap.objs.size)) (EP X ao σ Q) X.xe {s3 with heap:=s3.heap.push {cls:=.type "slice",data:=.fields #[vl,vu,.none]} };show tail_any (ops:=[.ref s3.heap.objs.size,v]) ht hT hg (by with_unfolding_all rfl)
noncomputable def k_ (xs:List V)(lo hi:Option Int):List V:=(xs.drop (HT.cB xs.length 0 lo)).take (HT.cB xs.length xs.length hi-HT.cB xs.length 0 lo)
def CT (xs)(lo hi):(k_ xs lo hi).length<=xs.length:=by unfold k_;rw[be,cy];lia
def Zi (K:W.Frag):V->Option Int->Option Int->Hp->VK->Prop:=λx lo hi H Q=>∃a xs,x=.ref a/\aN K H a xs/\
 ¬(HT.cB xs.length 0 lo=0/\HT.cB xs.length xs.length hi=xs.length)/\∀p,H p=none->Q (.ref p) (upd H p (.tup (k_ xs lo hi)))
def V7:Q7 X (Zi X.K):=by
 intro ao s σ H x v vl vu lo hi sl Q I rx hs pl pu h;let⟨a,xs,rfl,hx,hw,q⟩:=h;cases rx;let⟨its,r,ht,hz⟩:=I.tuple hx;let bW:its.toArray.size=xs.length:=by rw[bq];show r.length.symm
 calc⟨"tuple",_,np.lookup,ht.typeIs,?_⟩;calc HT.Cy ht hs pl pu (by rw[bW];show hw) ?_ (by rw[bW];show hz);rw[bW];calc⟨.ref s.heap.objs.size,_,I.laid (t':=s.toks) (o:=.tup (k_ xs lo hi)) (λb ob q=>af _ q) (ah _) ?_,RA,q _ (I.hok.fresh (ah _))⟩;show⟨a8 (CT xs lo hi) hz,_,(r.drop (HT.cB xs.length 0 lo)).take (HT.cB xs.length xs.length hi-HT.cB xs.length 0 lo),IsTup.new _ _⟩
end
noncomputable def CV (n:Nat)(i:Int):Option Nat:=if 0<=i then (if i<n then some i.toNat else none) else if -(n:Int)<=i then some (i+n).toNat else none
def jC {α:Type}(xs:List α)(i:Int):Option α:=(CV xs.length i).bind λj=>xs[j]?
def Q9 (h:CV n i=some j):seqIndex? i n=some j/\j<n/\-(n:Int)<=i/\i<n:=by
 unfold CV at h;by_cases h0:0<=i
 .rw[if_pos h0]at h;by_cases h1:i<n
  .rw[if_pos h1]at h;let e:i.toNat=j:=bb h;show⟨by rw[seqIndex_of h0 h1,e],wT,wT,h1⟩
  .rw[if_neg h1]at h;cases h
 .rw[if_neg h0]at h;by_cases h1:-(n:Int)<=i
  .rw[if_pos h1]at h;let e:(i+n).toNat=j:=bb h;show⟨by rw[seqIndex_neg wT h1,e],wT,h1,wT⟩
  .rw[if_neg h1]at h;cases h
def Bq {α:Type}{xs:List α}{v:α}(h:jC xs i=some v):∃j,seqIndex? i xs.length=some j/\xs[j]?=some v/\j<xs.length/\-(xs.length:Int)<=i/\i<xs.length:=by
 unfold jC at h;cases e:CV xs.length i with
 | none=>rw[e]at h;cases h
 | some j=>rw[e]at h;let⟨h1,h2,h3,h4⟩:=Q9 e;show⟨j,h1,h,h2,h3,h4⟩
def aO {α:Type}{xs:List α}{j:Nat}{v:α}(h:xs[j]?=some v):jC xs (j:Int)=some v:=by
 let hj:j<xs.length:=(al.mp h).1;let e:CV xs.length (j:Int)=some j:=by unfold CV;rw[if_pos wT,if_pos (oB gx hj)];simp
 unfold jC;rw[e];show h
def Zj {α:Type}(xs:List α)(v:α):jC (xs++[v]) (-1)=some v:=by
 let hl:(xs++[v]).length=xs.length+1:=w8;let e:CV (xs++[v]).length (-1)=some xs.length:=by unfold CV;rw[hl,if_neg w_,if_pos wT];congr 1;simp +arith
 unfold jC;rw[e];show (xs++[v])[xs.length]?=some v;simp
def Hw (b:Expr):Prop:=∀o i,subscripted b false o i=operate [o,i] (getItem o i)
def JH (X:Cx)(r:R2):Prop:=∀(value slice:Expr) (ao:AC) (s:Shared) (σ:St) (H:Hp) (x y:V) (v u:Value) (Q:VK),aM X ao σ H s->bN x v->bN y u->r x y H Q->
  subscripted slice false v u=operate [v,u] (getItem v u)->wpAny (model X.prog X.w) X.A (subscriptTail value slice v u) (EP X ao σ Q) X.xe s
def wH (X:Cx)(id:String)(r:V->List V->Hp->VK->Prop):Prop:=∀(ao:AC) (s:Shared) (σ:St) (H:Hp) (x:V) (xs:List V) (v:Value) (us:List Value) (Q:VK),aM X ao σ H s->bN x v->Vals xs us->r x xs H Q->
  wpAny (model X.prog X.w) X.A (call (.builtin id) (v::us)) (EP X ao σ Q) X.xe s
section
variable {X:Cx}{a b:Expr}{ta tb:TE}{pos:Pos}
def agf (hr:JH X r)(ha:PE X a ta)(hb:PE X b tb)(hs:Hw b):PE X (.Subscript a b pos) (qW r ta tb):=by intro ao s σ H Q I h;show Subscript_ (Y6 ha hb I h λv u s2 x y H2 I2 rx ry q=>hr a b ao s2 σ H2 x y v u Q I2 rx ry q (hs _ _))
def ael (K:W.Frag):R2:=λx y H Q=>∃p xs i v,x=.ref p/\y=.int i/\aP K H p xs/\jC xs i=some v/\Q v H
def T6 (K:W.Frag):R2:=λx y H Q=>∃p xs i v,x=.ref p/\y=.int i/\aN K H p xs/\jC xs i=some v/\Q v H
def aem:R2:=λx y H Q=>∃z i c,x=.str z/\y=.int i/\z.length<=sizeLine/\jC z.cps.toList i=some c/\Q (.str ⟨#[c]⟩) H
def gF:JH X (ael X.K):=by
 intro value slice ao s σ H x y v u Q I rx ry h hs;let⟨p,xs,i,z,rfl,rfl,hq,he,q⟩:=h;cases rx;let⟨t,rfl⟩:=ry;let⟨its,r,pl,hz⟩:=I.list hq;let⟨j,h1,h2,h3,h4,h5⟩:=Bq he;let⟨w,ew,Fo⟩:=r.get h2;let hl:=r.length;let hn:=tX;let fin:EP X ao σ Q w s:=⟨z,H,I,Fo,q⟩
 by_cases h0:0<=i
 .let hj:i.toNat=j:=by
   rw[seqIndex_of h0 h5]at h1;show bb h1
  show item_listR pl.isList h0 wT (by rw[hj];simpa using ew) fin hs
 .let hj:(i+(its.toArray.size:Int)).toNat=j:=by
   rw[seqIndex_neg wT h4]at h1;rw[bq,<-hl];show bb h1
  show subscriptTail_builtinR (x:=w) pl.isList.typeIs slot_list_getitem.lookup
   (wpAny_getItem_list_neg (Q:=λr s'=>r=w/\EP X ao σ Q r s') pl.isList wT (by rw[bq] <;> lia) wT (by rw[hj];simpa using ew) ⟨RA,fin⟩) hs
def bU:JH X (T6 X.K):=by
 intro value slice ao s σ H x y v u Q I rx ry h hs;let⟨p,xs,i,z,rfl,rfl,hq,he,q⟩:=h;cases rx;let⟨t,rfl⟩:=ry;let⟨its,r,pl,hz⟩:=I.tuple hq;let⟨j,h1,h2,h3,h4,h5⟩:=Bq he;let⟨w,ew,Fo⟩:=r.get h2;let hl:=r.length;let hn:=tX;let fin:EP X ao σ Q w s:=⟨z,H,I,Fo,q⟩
 show subscriptTail_builtinR (x:=w) pl.typeIs slot_tuple_getitem.lookup
  (getItem_tuple (j:=j) (Q:=λr s'=>r=w/\EP X ao σ Q r s') pl wT wT (by rw[bq,<-hl];show h1) (by simpa using ew) ⟨RA,fin⟩) hs
def aen:JH X aem:=by
 intro value slice ao s σ H x y v u Q I rx ry h hs;let⟨z,i,c,rfl,rfl,hz,he,q⟩:=h;let⟨t,rfl⟩:=rx;let⟨t',rfl⟩:=ry;let⟨j,h1,h2,h3,h4,h5⟩:=Bq he;let hl:z.cps.toList.length=z.length:=by simp[Str.length]
 rw[hl]at h1 h4 h5;let hn:=tX;show tail_any (typeIs_str s z t) slot_str_getitem.lookup (getItem_str (c:=c) (by
  let e1:decide (i < -(2^63:Int))=false:=am wT;let e2:decide (i>=2^63)=false:=am wT;rw[e1,e2,sd]) (by rw[h1];simpa using h2) ⟨.str ⟨#[c]⟩,H,I.tok _,⟨_,RA⟩,q⟩) hs
def T7 (its:List Value)(n j)(u):Obj.mapSeq (·.setIfInBounds j u) {cls:=.type "list",data:=.seq its.toArray n}={cls:=.type "list",data:=.seq (its.set j u).toArray n}:=by simp[Obj.mapSeq]
def aM.lst {ao:AC}{σ:St}{H:Hp}{s:Shared}{p:Addr}{xs:List V}(I:aM X ao σ H s)(h:H p=some (.lst xs)):∃(its:List Value) (n:Nat),Vals xs its/\s.heap.get? p=some {cls:=.type "list",data:=.seq its.toArray n}/\xs.length<=sizeLine:=by let⟨z,its,n,r,e⟩:=I.hok p _ h;show⟨its,n,r,e,z⟩
def aM.aeo {ao:AC}{σ:St}{H:Hp}{s:Shared}{p:Addr}{xs ys:List V}{its its':List Value}{n n':Nat}{f:Obj->Obj}(I:aM X ao σ H s)(h:H p=some (.lst xs))(ho:s.heap.get? p=some {cls:=.type "list",data:=.seq its.toArray n})(hf:f {cls:=.type "list",data:=.seq its.toArray n}={cls:=.type "list",data:=.seq its'.toArray n' })(r:Vals ys its')(hz:ys.length<=sizeLine)(t:Nat):aM X ao σ (upd H p (.lst ys)) {s with heap:=s.heap.update p f,toks:=t}:=by
 let e:(s.heap.update p f).get? p=some {cls:=.type "list",data:=.seq its'.toArray n' }:=by rw[fw f ho (by rw[hf] <;> rfl),hf]
 calc I.write (x:=p) (e:=p) (by rw[h];trivial) (.inl RA) (λb u hb q=>(iE _ _ (kq hb)).trans q) ⟨_,e⟩ ?_;show⟨hz,its',n',r,e⟩
def agg:V->V->V->Hp->(Hp->Prop)->Prop:=λo i v H Q=>∃p xs k j,o=.ref p/\i=.int k/\H p=some (.lst xs)/\CV xs.length k=some j/\Q (upd H p (.lst (xs.set j v)))
def set_list:Y4 X agg:=by
 intro ao s σ H o i v ov iv u Q I ro ri rv h;let⟨p,xs,k,j,rfl,rfl,hp,hj,q⟩:=h;cases ro;let⟨t,rfl⟩:=ri;let⟨its,n,r,ho,hz⟩:=I.lst hp;let⟨h1,h2,h3,h4⟩:=Q9 hj;let hl:=r.length;let hn:=tX;let I':aM X ao σ (upd H p (.lst (xs.set j v))) {s with heap:=s.heap.update p (Obj.mapSeq (·.setIfInBounds j u))}:=I.aeo hp ho (T7 its n j u) (r.set rv j) (by rw[nL];show hz) s.toks
 by_cases h0:0<=k
 .let hk:k.toNat=j:=by
   rw[seqIndex_of h0 h4]at h1;show bb h1
  show W.ki_setAt ho h0 wT (by rw[bq,<-hl];show h4) (by rw[hk];show⟨_,I',q⟩)
 .let hk:(k+(its.toArray.size:Int)).toNat=j:=by
   rw[seqIndex_neg wT h3]at h1;rw[bq,<-hl];show bb h1
  show W.ki_setBack ho wT (by rw[bq,<-hl];show h3) wT (by rw[hk];show⟨_,I',q⟩)
def Mq (lo hi)(n):(sliceBounds lo hi none n).1=((HT.cB n 0 lo:Nat):Int)/\(sliceBounds lo hi none n).2.1=((HT.cB n n hi:Nat):Int)/\(sliceBounds lo hi none n).2.2=1:=by
 refine⟨?_,?_,RA⟩
 .cases lo with
  | none=>simp[sliceBounds,HT.cB]
  | some i=>
   simp only[sliceBounds,HT.cB,Option.getD_none,show (1:Int) > 0 by decide,if_true];by_cases h:i<0
   .simp only[h,if_true] <;> grind
   .simp only[h,if_false] <;> grind
 .cases hi with
  | none=>simp[sliceBounds,HT.cB]
  | some i=>
   simp only[sliceBounds,HT.cB,Option.getD_none,show (1:Int) > 0 by decide,if_true];by_cases h:i<0
   .simp only[h,if_true] <;> lia
   .simp only[h,if_false] <;> lia
def Kz (its:List Value)(lo hi):slicePick its.toArray lo hi none=((its.drop (HT.cB its.length 0 lo)).take (HT.cB its.length its.length hi-HT.cB its.length 0 lo)).toArray:=by let⟨h1,h2,h3⟩:=Mq lo hi its.toArray.size;unfold slicePick;rw[h1,h2,h3];simp only[sliceRange_one,pick_run,bq] <;> rfl
def agP (K:W.Frag):V->Option Int->Option Int->Hp->VK->Prop:=λx lo hi H Q=>∃a xs,x=.ref a/\aP K H a xs/\∀p,H p=none->Q (.ref p) (upd H p (.lst (k_ xs lo hi)))
def Br:Q7 X (agP X.K):=by intro ao s σ H x v vl vu lo hi sl Q I rx hs pl pu h;let⟨a,xs,rfl,hx,q⟩:=h;cases rx;let⟨its,r,ht,hz⟩:=I.list hx;let bW:=r.length;calc⟨"list",_,slot_list_getitem.lookup,ht.isList.typeIs,?_⟩;calc wpAny_getItem_list_slice ht.isList hs pl pu .none w8 ?_ (by rw[bq] <;> simp_all);rw[Kz,<-bW];calc⟨.ref s.heap.objs.size,_,I.laid (t':=s.toks) (o:=.lst (k_ xs lo hi)) (λb ob q=>af _ q) (ah _) ?_,RA,q _ (I.hok.fresh (ah _))⟩;show⟨a8 (CT xs lo hi) hz,_,0,(r.drop (HT.cB xs.length 0 lo)).take (HT.cB xs.length xs.length hi-HT.cB xs.length 0 lo),ax _ RA⟩
def qK:V->Bool
 | .non=>true
 | .bl _=>true
 | .int _=>true
 | .str _=>true
 | _=>false
noncomputable def vd:V->V->Bool
 | .non,.non=>true
 | .bl a,.bl b=>a==b
 | .bl a,.int b=>(if a then 1 else 0)==b
 | .int a,.bl b=>a==(if b then 1 else 0)
 | .int a,.int b=>a==b
 | .str a,.str b=>a==b
 | _,_=>false
def aep (ry:bN y u)(rx:bN x v)(fy:qK y=true)(fx:qK x=true):SeqAt.EqAt A s u v (vd y x):=by
 cases y with
 | non=>
  cases ry;cases x with
  | non=>cases rx;show SeqAt.EqAt.same _
  | bl b=>cases rx;show SeqAt.EqAt.none_bool b
  | int b=>let⟨t,rfl⟩:=rx;show SeqAt.EqAt.none_int b t
  | str b=>let⟨t,rfl⟩:=rx;show SeqAt.EqAt.none_str b t
  | _=>show absurd (show false=true from fx) b8
 | bl a=>
  cases ry;cases x with
  | non=>cases rx;show SeqAt.EqAt.bool_none a
  | bl b=>cases rx;show SeqAt.EqAt.bool_bool a b
  | int b=>let⟨t,rfl⟩:=rx;show SeqAt.EqAt.bool_int a b t
  | str b=>let⟨t,rfl⟩:=rx;show SeqAt.EqAt.bool_str a b t
  | _=>show absurd (show false=true from fx) b8
 | int a=>
  let⟨t',rfl⟩:=ry;cases x with
  | non=>cases rx;show SeqAt.EqAt.int_none a t'
  | bl b=>cases rx;show SeqAt.EqAt.int_bool a t' b
  | int b=>let⟨t,rfl⟩:=rx;show gr a t' b t
  | str b=>let⟨t,rfl⟩:=rx;show SeqAt.EqAt.int_str a t' b t
  | _=>show absurd (show false=true from fx) b8
 | str a=>
  let⟨t',rfl⟩:=ry;cases x with
  | non=>cases rx;show SeqAt.EqAt.str_none a t'
  | bl b=>cases rx;show SeqAt.EqAt.str_bool a t' b
  | int b=>let⟨t,rfl⟩:=rx;show SeqAt.EqAt.str_int a t' b t
  | str b=>let⟨t,rfl⟩:=rx;show SeqAt.EqAt.str_str a t' b t
  | _=>show absurd (show false=true from fx) b8
 | _=>show absurd (show false=true from fy) b8
noncomputable def tZ (x:V)(u:Value):Bool:=match u with| .none=>vd .non x| .bool b=>vd (.bl b) x| .int i _=>vd (.int i) x| .str z _=>vd (.str z) x| _=>false
def V8 (r:bN y u)(f:qK y=true):tZ x u=vd y x:=by
 cases y with
 | non=>cases r;rfl
 | bl b=>cases r;rfl
 | int i=>let⟨t,rfl⟩:=r;rfl
 | str z=>let⟨t,rfl⟩:=r;rfl
 | _=>show absurd (show false=true from f) b8
theorem wI:∀{xs:List V} {us:List Value},Vals xs us->xs.all qK=true->us.any (tZ x)=xs.any λy=>vd y x
 | _,_,.nil,_=>rfl
 | y::xs,u::us,.cons r t,f=>by rw[List.all_cons,df]at f;rw[nw,nw,V8 r f.1,wI t f.2]
theorem t_ (rx:bN x v)(fx:qK x=true):∀{xs:List V} {us:List Value},Vals xs us->xs.all qK=true->∀u∈us,SeqAt.EqAt A s u v (tZ x u)
 | _,_,.nil,_=>λu hu=>by cases hu
 | y::xs,u::us,.cons r t,f=>λu' hu=>by
  rw[List.all_cons,df]at f;rcases ba.mp hu with rfl|hu;.rw[V8 r f.1];show aep r rx f.1 fx
  .show t_ rx fx t f.2 u' hu
def inV (x:V)(xs:List V):Bool:=xs.any λy=>vd y x
def rIn (K:W.Frag)(neg:Bool):R2:=λx y H Q=>∃p xs,y=.ref p/\(aP K H p xs\/aN K H p xs)/\qK x=true/\xs.all qK=true/\Q (.bl (if neg then !inV x xs else inV x xs)) H
def V9:eO X (compareOp .In) (rIn X.K false):=by
 walk_at"f";let⟨p,xs,rfl,hq,fx,fs,q⟩:=h;cases ry;rcases hq with hq|hq
 .let⟨its,r,pl,hz⟩:=I.list hq;calc SeqAt.in_listAt (tZ x) pl.isList (λw hw=>t_ rx fx r fs w (by simpa using hw)) ⟨.bl _,H,I,RA,?_⟩;rw[show its.toArray.any (tZ x)=its.any (tZ x) by simp,wI r fs];show q
 .let⟨its,r,pl,hz⟩:=I.tuple hq;calc SeqAt.in_tupleAt (tZ x) pl (λw hw=>t_ rx fx r fs w (by simpa using hw)) ⟨.bl _,H,I,RA,?_⟩;rw[show its.toArray.any (tZ x)=its.any (tZ x) by simp,wI r fs];show q
def Mr:eO X (compareOp .NotIn) (rIn X.K true):=by
 walk_at"f";let⟨p,xs,rfl,hq,fx,fs,q⟩:=h;cases ry;rcases hq with hq|hq
 .let⟨its,r,pl,hz⟩:=I.list hq;calc SeqAt.notIn_listAt (tZ x) pl.isList (λw hw=>t_ rx fx r fs w (by simpa using hw)) ⟨.bl _,H,I,RA,?_⟩;rw[show its.toArray.any (tZ x)=its.any (tZ x) by simp,wI r fs];show q
 .let⟨its,r,pl,hz⟩:=I.tuple hq;calc SeqAt.notIn_tupleAt (tZ x) pl (λw hw=>t_ rx fx r fs w (by simpa using hw)) ⟨.bl _,H,I,RA,?_⟩;rw[show its.toArray.any (tZ x)=its.any (tZ x) by simp,wI r fs];show q
def cL:fU X (.builtin "len") (λxs H Q=>∃p ys,xs=[.ref p]/\(aP X.K H p ys\/aN X.K H p ys)/\Q (.int ys.length) H):=by
 walk_at"k";let⟨p,ys,rfl,hq,q⟩:=h;let⟨u,rfl,rx⟩:=vals1 r;cases rx;let hn:=tX;rcases hq with hq|hq
 .let⟨its,r',pl,hz⟩:=I.list hq;let bW:=r'.length;show Calls.call_len_list pl.isList (by simp only[bq] <;> lia) ⟨.int ys.length,H,I.tok _,⟨s.toks+1,by rw[bq,bW]⟩,q⟩
 .let⟨its,r',pl,hz⟩:=I.tuple hq;let bW:=r'.length;show len_tuple pl (by simp only[bq] <;> lia) ⟨.int ys.length,H,I.tok _,⟨s.toks+1,by rw[bq,bW]⟩,q⟩
def Ms:fU X (.builtin "len") (λxs H Q=>∃z,xs=[.str z]/\z.length<=sizeLine/\Q (.int z.length) H):=by walk_at"k";let⟨z,rfl,hz,q⟩:=h;let⟨u,rfl,t,rfl⟩:=vals1 r;let hn:=tX;show len_str wT ⟨.int z.length,H,I.tok _,⟨_,RA⟩,q⟩
def Mt:fU X (.type "list") (λxs H Q=>∃p ys,xs=[.ref p]/\(aP X.K H p ys\/aN X.K H p ys)/\∀l,H l=none->Q (.ref l) (upd H l (.lst ys))):=by
 walk_at"k";let⟨p,ys,rfl,hq,q⟩:=h;let⟨u,rfl,rx⟩:=vals1 r;cases rx;let fin:∀(its:List Value),Vals ys its->ys.length<=sizeLine->∀(h':Heap) (c':Nat),(∀b o',s.heap.get? b=some o'->h'.get? b=some o')->
   h'.get? s.heap.objs.size=some {cls:=.type "list",dict:=none,data:=.seq its.toArray c',slots:=#[]}->EP X ao σ Q (.ref s.heap.objs.size) {s with heap:=h' }:=λits r' hz h' c' kp e=>
  ⟨.ref s.heap.objs.size,_,I.laid (t':=s.toks) kp (ah _) (show dW X.prog X.w _ h' _ (.lst ys) from ⟨hz,its,c',r',e⟩),RA,q _ (I.hok.fresh (ah _))⟩
 rcases hq with hq|hq
 .let⟨its,r',pl,hz⟩:=I.list hq;let bW:=r'.length;let⟨o,ho,hc,n,hd⟩:=pl.isList;show call_list_seq p (.inl RA) ho hc hd (λh' c' kp e=>fin its r' hz h' c' kp e) (by simp only[bq] <;> lia)
 .let⟨its,r',pl,hz⟩:=I.tuple hq;let bW:=r'.length;let⟨o,ho,hc,n,hd⟩:=pl;show call_list_seq p (.inr RA) ho hc hd (λh' c' kp e=>fin its r' hz h' c' kp e) (by simp only[bq] <;> lia)
def dU:fU X (.type "tuple") (λxs H Q=>∃p ys,xs=[.ref p]/\((aP X.K H p ys/\∀l,H l=none->Q (.ref l) (upd H l (.tup ys)))\/(aN X.K H p ys/\Q (.ref p) H))):=by
 walk_at"k";let⟨p,ys,rfl,h⟩:=h;let⟨u,rfl,rx⟩:=vals1 r;cases rx;rcases h with⟨hq,q⟩|⟨hq,q⟩
 .let⟨its,r',pl,hz⟩:=I.list hq;let bW:=r'.length;calc call_tuple_list pl.isList (λh' kp=>?_) (by simp only[bq] <;> lia);let I1:aM X ao σ H {s with heap:=h' }:=I.kept (t':=s.toks) kp;let I2:aM X ao σ (upd H h'.objs.size (.tup ys)) {s with heap:=h'.push {cls:=.type "tuple",data:=.seq its.toArray} }:=
   I1.laid (t':=s.toks) (λb o e=>af _ e) (ah _) (show dW X.prog X.w _ _ _ (.tup ys) from ⟨hz,its,r',IsTup.new _ _⟩)
  show⟨.ref h'.objs.size,_,I2,RA,q _ (I1.hok.fresh (ah _))⟩
 .let⟨its,r',pl,hz⟩:=I.tuple hq;show call_tuple_same pl ⟨.ref p,H,I,RA,q⟩
def tyV (K:W.Frag)(T:String)(x:V)(H:Hp):Prop:=match x with
 | .str _=>T="str"
 | .int _=>T="int"
 | .ref p=>(T="list"/\∃xs,aP K H p xs)\/(T="tuple"/\∃o,K.lookup p=some o/\o.cls=.type "tuple"/\o.dict=none)\/
   (T="dict"/\((∃kvs,H p=some (.dK kvs))\/∃kvs,H p=some (.dT kvs)))\/(T="set"/\∃S n,H p=some (.set S n))
 | _=>False
def V_ {ao:AC}{σ:St}{H:Hp}{s:Shared}{T:String}{x:V}{v:Value}(I:aM X ao σ H s)(r:bN x v)(ty:tyV X.K T x H):s.TypeIs v T/\∀a,v=.ref a->∃ob,s.heap.get? a=some ob/\ob.dict=none:=by
 cases x with
 | str z=>let⟨t,rfl⟩:=r;cases(show T="str" from ty);show⟨typeIs_str s z t,λ_ e=>nomatch e⟩
 | int i=>let⟨t,rfl⟩:=r;cases(show T="int" from ty);show⟨typeIs_int s i t,λ_ e=>nomatch e⟩
 | ref p=>
  cases r;rcases ty with⟨rfl,xs,hq⟩|⟨rfl,o,hk,hc,hd⟩|⟨rfl,hk⟩|⟨rfl,S,n,hk⟩
  .let⟨its,_,pl,_⟩:=I.list hq;calc⟨pl.isList.typeIs,λa e=>?_⟩;cases e;let⟨o,n,e,c,hd,_⟩:=pl;show⟨o,e,hd⟩
  .calc⟨⟨o,I.jH p o hk,hc⟩,λa e=>?_⟩;cases e;show⟨o,I.jH _ o hk,hd⟩
  .let z:∃o,s.heap.get? p=some o/\o.ExactDict:=by
    rcases hk with⟨kvs,hk⟩|⟨kvs,hk⟩
    .let⟨_,_,_,_,o,_,_,e,ex,_⟩:=I.hok p _ hk;show⟨o,e,ex⟩
    .let⟨_,_,_,_,o,_,_,e,ex,_⟩:=I.hok p _ hk;show⟨o,e,ex⟩
   let⟨o,e,ex⟩:=z;calc⟨⟨o,e,ex.1⟩,λa e2=>?_⟩;cases e2;show⟨o,e,ex.2.1⟩
  .let⟨o,_,_,_,e,ex,_⟩:=I.hok p _ hk;calc⟨⟨o,e,ex.1⟩,λa e2=>?_⟩;cases e2;show⟨o,e,ex.2.1⟩
 | _=>show False.elim ty
def aer (K:W.Frag)(T:String)(r:V->List V->Hp->VK->Prop)(to:TE):TE:=λσ H Q=>to σ H λx H1=>tyV K T x H1/\r x [] H1 Q
def Q_ (K:W.Frag)(T:String)(r:V->List V->Hp->VK->Prop)(to:TE)(t:TA):TE:=λσ H Q=>to σ H λx H1=>tyV K T x H1/\t σ H1 λxs H2=>r x xs H2 Q
variable {o e:Expr}{es:List Expr}{to:TE}{t:TA}{name:Str}{apos cpos:Pos}{T id:String}{r:V->List V->Hp->VK->Prop}
def aes (pa:PlainAttrs T)(slot:Slot T name id)(hty:typeOf (.builtin id)=pure (.type "method_descriptor"))(hm:wH X id r)(ho:PE X o to)(hbase:attributeBase o name X.env (eval o X.env)=eval o X.env:=by rfl)(hline:(apos.endLine==cpos.line)=true:=by rfl):PE X (.Call (.Attribute o name apos) [] [] cpos) (aer X.K T r to):=by intro ao s σ H Q I h;calc wpAny_Call_method0_late hbase hline (bM (ho ao s σ H _ I h) λv s1 zz=>?_);let⟨x,H1,I1,r1,ty,q1⟩:=zz;let⟨h1,h2⟩:=V_ I1 r1 ty;show⟨T,id,pa,slot,hty,h1,h2,n9 RA (PySem.evalArgs_none (hm ao s1 σ H1 x [] v [] Q I1 r1 .nil q1))⟩
def agh (pa:PlainAttrs T)(slot:Slot T name id)(hty:typeOf (.builtin id)=pure (.type "method_descriptor"))(hm:wH X id r)(ho:PE X o to)(ha:PA X (e::es) t)(hbase:attributeBase o name X.env (eval o X.env)=eval o X.env:=by rfl)(hfew:((backTo cpos (starEach (e::es) X.env)).all (λx=>!x.1)&&(backToKw cpos (keywordEach [] X.env)).all (λx=>x.1.isSome)
   && decide ((e::es).length+([]:List Keyword).length+(if ([]:List Keyword).isEmpty then 0 else 1)<30))=true:=by rfl)
  (hline:(apos.endLine==cpos.line)=true:=by rfl) (hs:starEach (e::es) X.env=(false,eval e X.env)::starEach es X.env:=by rfl) (hplain:(backTo cpos (starEach es X.env)).any (·.1)=false:=by rfl) :
  PE X (.Call (.Attribute o name apos) (e::es) [] cpos) (Q_ X.K T r to t):=by
 intro ao s σ H Q I h;calc wpAny_Call_method_late hbase hfew hline RA (bM (ho ao s σ H _ I h) λv s1 zz=>?_);let⟨x,H1,I1,r1,ty,q1⟩:=zz;let⟨h1,h2⟩:=V_ I1 r1 ty;calc⟨T,id,pa,slot,hty,h1,h2,?_⟩;let hA:=ha cpos ao s1 σ H1 _ I1 q1;rw[hs]at hA ⊢;calc n9 (by show (false||(backTo cpos (starEach es X.env)).any (·.1))=false;rw[hplain] <;> rfl) (Calls.evalArgs_plain ?_);show bM hA λus s2 ⟨vs,H2,I2,r2,q2⟩=>hm ao s2 σ H2 x vs v us Q I2 r1 r2 q2
end
def MtM (X:Cx)(id:String)(r:V->List V->Hp->VK->Prop):Prop:=∀(ao:AC) (s:Shared) (σ:St) (H:Hp) (x:V) (xs:List V) (v:Value) (us:List Value) (Q:VK),aM X ao σ H s->bN x v->Vals xs us->r x xs H Q->
  wpAny (model X.prog X.w) X.A (call (.builtin id) (v::us)) (EP X ao σ Q) X.xe s
theorem Vals.one:∀{x:V} {us:List Value},Vals [x] us->∃u,us=[u]/\bN x u
 | _,_,.cons r .nil=>⟨_,RA,r⟩
theorem Vals.zero:∀{us:List Value},Vals [] us->us=[]
 | _,.nil=>rfl
theorem Vals.eraseIdx:∀{xs:List V} {us:List Value} (i:Nat),Vals xs us->Vals (xs.eraseIdx i) (us.eraseIdx i)
 | _,_,_,.nil=>.nil
 | _,_,0,.cons _ t=>t
 | _,_,i+1,.cons r t=>.cons r (Vals.eraseIdx i t)
section
variable {X:Cx}{ao:AC}{σ:St}{H:Hp}{s:Shared}{l:Addr}{xs ys:List V}
def aM.Zk {its its':List Value}(I:aM X ao σ H s)(hH:H l=some (.lst xs))(e:s.heap.get? l=some {cls:=.type "list",data:=.seq its.toArray n})(hf:f its.toArray=its'.toArray)(hv:Vals ys its')(hz:ys.length<=sizeLine):aM X ao σ (upd H l (.lst ys)) {s with heap:=s.heap.update l (Obj.mapSeq f),toks:=t' }:=by let q:=PySem.IsL.update e f;rw[hf]at q;calc I.write (x:=l) (e:=l) (by rw[hH];show trivial) (.inl RA) (λb' u hb hu=>(iE s.heap (Obj.mapSeq f) (kq hb)).trans hu) ⟨_,q⟩ ?_;show⟨hz,its',_,hv,q⟩
def aM.aeu (I:aM X ao σ H s)(hv:Vals ys its)(hz:ys.length<=sizeLine):aM X ao σ (upd H s.heap.objs.size (.lst ys)) {s with heap:=s.heap.push {cls:=.type "list",data:=.seq its.toArray},toks:=t' }:=I.laid (λ_ _ q=>af _ q) (ah _) ⟨hz,its,0,hv,ax _ RA⟩
def aM.fresh (I:aM X ao σ H s):H s.heap.objs.size=none:=I.hok.fresh (ah _)
def aM.Hx (I:aM X ao σ H s)(hH:H l=some (.lst xs)):xs.length<=sizeLine/\∃(its:List Value) (n:Nat),Vals xs its/\xs.length=its.length/\s.heap.get? l=some {cls:=.type "list",data:=.seq its.toArray n}:=by let⟨z,its,n,r,e⟩:=I.hok l _ hH;show⟨z,its,n,r,r.length,e⟩
def Zm (h:n<=sizeLine):Builtin.List.listTooLong n=false:=by unfold Builtin.List.listTooLong;show am wT
end
section
variable {X:Cx}
def ab1:V->List V->Hp->VK->Prop:=λx vs H Q=>∃l xs y,x=.ref l/\vs=[y]/\H l=some (.lst xs)/\xs.length<sizeLine/\Q .non (upd H l (.lst (xs++[y])))
def jQ:MtM X "list.append" ab1:=by intro ao s σ H x vs v us Q I rx rv h;let⟨l,xs,y,rfl,rfl,hH,hz,q⟩:=h;cases rx;let⟨u,rfl,ru⟩:=rv.one;let⟨z,its,n,r,hl,e⟩:=I.Hx hH;calc call_meets F.slot_list_append ⟨_,e,RA⟩ F.entry_list_append (F.args_list_append_2 _ _) (PySem.list_append l its.toArray n u (by rw[bq];simp_all)) ⟨e,?_⟩;calc⟨.non,_,I.Zk (its':=its++[u]) hH e w8 (r.append (.cons ru .nil)) ?_,RA,q⟩;rw[av,List.length_singleton];show hz
def Bs:V->List V->Hp->VK->Prop:=λx vs H Q=>∃l b xs zs,x=.ref l/\vs=[.ref b]/\H l=some (.lst xs)/\H b=some (.lst zs)/\xs.length+zs.length<=sizeLine/\Q .non (upd H l (.lst (xs++zs)))
def qX:MtM X "list.extend" Bs:=by
 intro ao s σ H x vs v us Q I rx rv h;let⟨l,b,xs,zs,rfl,rfl,hH,hB,hz,q⟩:=h;cases rx;let⟨u,rfl,ru⟩:=rv.one;cases ru;let⟨z,its,n,r,hl,e⟩:=I.Hx hH;let⟨z2,its2,n2,r2,hl2,e2⟩:=I.Hx hB;let hsz:its.toArray.size+its2.toArray.size<=sizeLine:=by rw[bq,bq];simp_all
 let agi:¬(!its.toArray.isEmpty&&Builtin.List.listTooLong (its.toArray.size+its2.toArray.size))=true:=by rw[Zm hsz,lT];show b8
 refine call_meets F.slot_list_extend ⟨_,e,RA⟩ F.entry_list_extend (F.args_list_extend_2 _ _)
  (AutoSeq1.list_extend_list_list_0 l its.toArray n b its2.toArray n2 agi (by rw[bq];simp_all) (ik hsz)) ⟨e,e2,?_⟩
 calc⟨.non,_,I.Zk (its':=its++its2) hH e w8 (r.append r2) ?_,RA,q⟩;rw[av];show hz
def agQ:R2:=λx y H Q=>∃l b xs zs,x=.ref l/\y=.ref b/\H l=some (.lst xs)/\H b=some (.lst zs)/\xs.length+zs.length<=sizeLine/\∀p,H p=none->Q (.ref p) (upd H p (.lst (xs++zs)))
def aev:eO X (binaryOp .Add) agQ:=by walk_at"f";let⟨l,b,xs,zs,rfl,rfl,hH,hB,hz,q⟩:=h;cases rx;cases ry;let⟨z,its,n,r,hl,e⟩:=I.Hx hH;let⟨z2,its2,n2,r2,hl2,e2⟩:=I.Hx hB;calc PySem.P.add_list e e2 ?_ (by rw[bq,bq];lia);let ea:its.toArray++its2.toArray=(its++its2).toArray:=w8;rw[ea];show⟨.ref _,_,I.aeu (t':=s.toks) (r.append r2) (by rw[av];lia),RA,q _ I.fresh⟩
end
section
variable {κ:Type}[DecidableEq κ]
def fW (kvs:List (κ×V))(k:κ):Option V:=(kvs.find? λkv=>decide (kv.1=k)).map (·.2)
noncomputable def putK (kvs:List (κ×V))(k:κ)(v:V):List (κ×V):=if (kvs.any λkv=>decide (kv.1=k))=true then kvs.map (λkv=>if kv.1=k then (kv.1,v) else kv) else kvs++[(k,v)]
def iy {p:κ×V}(e:p.1=k):fW (p::r) k=some p.2:=by simp[fW,nN,e]
def iz {p:κ×V}(e:¬p.1=k):fW (p::r) k=fW r k:=by simp[fW,nN,e]
theorem qu (k:κ):∀kvs:List (κ×V),(kvs.any λkv=>decide (kv.1=k))=(fW kvs k).isSome
 | []=>rfl
 | p::r=>by
  rw[nw];by_cases e:p.1=k;.simp only[iy e,ar e,Bool.true_or,Option.isSome_some]
  .rw[iz e,am e,Bool.false_or];show qu k r
theorem Mu (k j:κ)(y):∀kvs:List (κ×V),fW (kvs.map λkv=>if kv.1=k then (kv.1,y) else kv) j=(fW kvs j).map λx=>if j=k then y else x
 | []=>rfl
 | p::r=>by
  let ih:=Mu k j y r;rw[b6];by_cases h:p.1=k
  .rw[if_pos h];by_cases e:p.1=j;.rw[iy (p:=(p.1,y)) e,iy e,ja,if_pos (e.symm.trans h)]
   .rw[iz (p:=(p.1,y)) e,iz e,ih]
  .rw[if_neg h];by_cases e:p.1=j;.rw[iy (p:=p) e,iy e,ja,if_neg (λz=>h (e.trans z))]
   .rw[iz (p:=p) e,iz e,ih]
theorem JK (k j:κ)(y):∀kvs:List (κ×V),fW kvs k=none->fW (kvs++[(k,y)]) j=if j=k then some y else fW kvs j
 | [],_=>by
  by_cases e:k=j;.rw[if_pos e.symm];show iy (p:=(k,y)) e
  .rw[if_neg (λz=>e z.symm)];show iz (p:=(k,y)) e
 | p::r,hn=>by
  rw[List.cons_append];let hk:¬p.1=k:=λz=>by rw[iy z]at hn;cases hn
  rw[iz hk]at hn;let ih:=JK k j y r hn;by_cases e:p.1=j;.rw[iy e,iy e,if_neg (λz=>hk (e.trans z))]
  .rw[iz e,iz e,ih]
def Zn (kvs:List (κ×V))(k j:κ)(y):fW (putK kvs k y) j=if j=k then some y else fW kvs j:=by
 unfold putK;by_cases a:(kvs.any λkv=>decide (kv.1=k))=true
 .rw[if_pos a,Mu];rw[qu]at a;by_cases e:j=k
  .let⟨x,hx⟩:=Option.isSome_iff_exists.mp a;rw[if_pos e,e,hx,ja,if_pos rfl]
  .rw[if_neg e];cases fW kvs j with| none=>rfl| some x=>rw[ja,if_neg e]
 .rw[if_neg a];calc JK k j y kvs ?_;rw[qu]at a;cases q:fW kvs k with| none=>rfl| some x=>rw[q]at a;show(a RA).elim
def CW (kvs:List (κ×V))(k:κ)(v):(putK kvs k v).length<=kvs.length+1:=by
 unfold putK;split;.rw[ab];lia
 .rw[av,bt,pV];lia
def Zo {kvs:List (κ×V)}{k:κ}(v:V)(h:fW kvs k=none):putK kvs k v=kvs++[(k,v)]:=by unfold putK;rw[qu,h];show if_neg w_
def mW.zQ (r:mW o u):o.isSome=u.isSome:=by
 cases o with
 | none=>cases u with| none=>rfl| some _=>show(show False from r).elim
 | some _=>cases u with| none=>show(show False from r).elim| some _=>rfl
def KV.val (r:KV kvs vs)(k:κ):mW (fW kvs k) (valueAt vs k):=by
 unfold KV at r
 induction r with
 | nil=>show True.intro
 | @cons p q ps qs h t ih=>
  let⟨h1,h2⟩:=h;by_cases e:p.1=k
  .let e':q.1=k:=h1.symm.trans e;let b:valueAt (q::qs) k=some q.2:=by simp[valueAt,nN,e']
   rw[iy e,b];show h2
  .let e':¬q.1=k:=λz=>e (h1.trans z)
   let b:valueAt (q::qs) k=valueAt qs k:=by simp[valueAt,nN,e']
   rw[iz e,b];show ih
def KV.any (r:KV kvs vs)(k:κ):(kvs.any λkv=>decide (kv.1=k))=vs.any λkv=>decide (kv.1=k):=by
 unfold KV at r
 induction r with| nil=>rfl| cons h t ih=>rw[nw,nw,ih,h.1]
def KV.repl (r:KV kvs vs)(k:κ)(ry:bN y u):KV (kvs.map λkv=>if kv.1=k then (kv.1,y) else kv) (vs.map λkv=>if kv.1=k then (kv.1,u) else kv):=by
 unfold KV at r ⊢
 induction r with
 | nil=>show .nil
 | @cons p q ps qs h t ih=>
  rw[b6,b6];calc .cons ?_ ih;let⟨h1,h2⟩:=h;by_cases e:p.1=k;.rw[if_pos e,if_pos (h1.symm.trans e)];show⟨h1,ry⟩
  .rw[if_neg e,if_neg (λz=>e (h1.trans z))];show⟨h1,h2⟩
def KV.put (r:KV kvs vs)(k:κ)(ry:bN y u):KV (putK kvs k y) (stored vs k u):=by
 unfold putK stored;rw[r.any k];by_cases e:(vs.any λkv=>decide (kv.1=k))=true;.rw[if_pos e,if_pos e];show r.repl k ry
 .rw[if_neg e,if_neg e];show Paired.snoc r ⟨RA,ry⟩
def KV.keys {kvs:List (κ×V)}{vs:List (κ×Value)}(r:KV kvs vs):kvs.map (·.1)=vs.map (·.1):=by
 unfold KV at r
 induction r with| nil=>rfl| cons h t ih=>rw[b6,b6,ih,h.1]
def KV.length {kvs:List (κ×V)}{vs:List (κ×Value)}(r:KV kvs vs):kvs.length=vs.length:=Paired.length r
end
def Li (r:bN (kV k) u):(dz P w).is k u=true:=by
 cases k with
 | inl i=>let⟨t,e⟩:=(show ∃t,u=Value.int i t from r);subst e;show P_ P w i t
 | inr x=>let⟨t,e⟩:=(show ∃t,u=Value.str x t from r);subst e;show Qa P w x t
theorem JL:∀{ks:List Key} {us:List Value},Vals (ks.map kV) us->ItemsAre (dz P w) ks us
 | [],_,r=>by rw[mh]at r;cases r;show .nil
 | k::ks,_,r=>by
  rw[b6]at r;cases r with| cons h t=>show .cons (Li h) (JL t)
abbrev KT (H:Hp):List (List Key×V)->List (List Key×Addr×Value)->Prop:=Paired λp q=>p.1=q.1/\H q.2.1=some (.tup (p.1.map kV))/\bN p.2 q.2.2
def KT.val (r:KT H kvs xs)(k:List Key):mW (fW kvs k) ((atKey xs k).map (·.2)):=by
 induction r with
 | nil=>show True.intro
 | @cons p q ps qs h t ih=>
  let⟨h1,_,h2⟩:=h;by_cases e:p.1=k
  .let e':q.1=k:=h1.symm.trans e;let b:atKey (q::qs) k=some q.2:=by simp[atKey,nN,e']
   rw[iy e,b];show h2
  .let e':¬q.1=k:=λz=>e (h1.trans z)
   let b:atKey (q::qs) k=atKey qs k:=by simp[atKey,nN,e']
   rw[iz e,b];show ih
def KT.repl (r:KT H kvs xs)(k:List Key)(ry:bN y u):KT H (kvs.map λkv=>if kv.1=k then (kv.1,y) else kv) (xs.map (putAt k u)):=by
 induction r with
 | nil=>show .nil
 | @cons p q ps qs h t ih=>
  rw[b6,b6];calc .cons ?_ ih;let⟨h1,h2,h3⟩:=h;unfold putAt;by_cases e:p.1=k;.rw[if_pos e,if_pos (h1.symm.trans e)];show⟨h1,h2,ry⟩
  .rw[if_neg e,if_neg (λz=>e (h1.trans z))];show⟨h1,h2,h3⟩
def KT.put (r:KT H kvs xs)(k:List Key)(hb:H b=some (.tup (k.map kV)))(ry:bN y u):KT H (putK kvs k y) (storedH xs k b u):=by
 let e:(kvs.any λkv=>decide (kv.1=k))=(atKey xs k).isSome:=by rw[qu,(r.val k).zQ,Option.isSome_map]
 unfold putK storedH;rw[e];by_cases q:(atKey xs k).isSome=true;.rw[if_pos q,if_pos q];show r.repl k ry
 .rw[if_neg q,if_neg q];show Paired.snoc r ⟨RA,hb,ry⟩
def KT.keeps (r:KT H kvs xs)(ht:∀b ys,H b=some (.tup ys)->H' b=some (.tup ys)):KT H' kvs xs:=Paired.YS r λ_ _ z=>⟨z.1,ht _ _ z.2.1,z.2.2⟩
section
variable {P:Program}{w:World}{H:Hp}{h:Heap}{a:Addr}
def abf (ok:jk P w H h)(e:Rd H a u):dW P w H h a u:=e.ok ok
def Lj (ok:jk P w H h)(e:Rd H a (.dK kvs)):kvs.length<=sizeLine/\(a==sysModules)=false/\∃vs,KV kvs vs/\h.DictOf (dz P w) a vs:=show dW P w H h a (.dK kvs) from abf ok e
def T8 (ok:jk P w H h)(e:H a=some (.dK kvs)):kvs.length<=sizeLine/\(a==sysModules)=false/\∃vs,KV kvs vs/\h.DictOf (dz P w) a vs:=Lj ok (.inl e)
def Fp {ks:List Key}(ok:jk P w H h)(e:H a=some (.tup (ks.map kV))):(tupleKind (dz P w)).is h ks a:=by
 let⟨_,its,r,o,h1,h2,n,h3⟩:=(show dW P w H h a (.tup (ks.map kV)) from ok a _ e)
 show JE o its.toArray n ⟨h1,h2,h3,by simpa using JL r⟩
def Lk (ok:jk P w H h)(e:Rd H a (.dT kvs)):kvs.length<=sizeLine/\(a==sysModules)=false/\
  ∃xs,KT H kvs xs/\h.DictOfH (tupleKind (dz P w)) a xs:=by
 let⟨z,y,xs,r,o,es,ep,h1,h2,h3,h4,h5⟩:=(show dW P w H h a (.dT kvs) from abf ok e)
 calc⟨z,y,xs,r,o,es,ep,h1,h2,h3,h4,λx hx=>?_,h5⟩;let all:∀{l:List (List Key×V)} {m:List (List Key×Addr×Value)},KT H l m->∀x∈m,(tupleKind (dz P w)).is h x.1 x.2.1:=by
  intro l m q
  induction q with
  | nil=>intro x hx;show nomatch hx
  | @cons p q ps qs hq t ih=>
   intro x hx;rcases ba.mp hx with e|hx
   .subst e;show Fp ok (by rw[<-hq.1];show hq.2.1)
   .show ih x hx
 show all r x hx
def agj (ok:jk P w H h)(e:H a=some (.dT kvs)):kvs.length<=sizeLine/\(a==sysModules)=false/\
  ∃xs,KT H kvs xs/\h.DictOfH (tupleKind (dz P w)) a xs:=Lk ok (.inl e)
end
def uc (H:Hp)(a:Addr)(y:V)(r:Option V):Prop:=(∃kvs k,Rd H a (.dK kvs)/\y=kV k/\r=fW kvs k)\/∃kvs k b,Rd H a (.dT kvs)/\y=.ref b/\H b=some (.tup (k.map kV))/\r=fW kvs k
def vR (H:Hp)(a:Addr)(y v:V)(H':Hp):Prop:=(∃kvs k,H a=some (.dK kvs)/\y=kV k/\kvs.length<sizeLine/\H'=upd H a (.dK (putK kvs k v)))\/
 ∃kvs k b,H a=some (.dT kvs)/\y=.ref b/\H b=some (.tup (k.map kV))/\kvs.length<sizeLine/\H'=upd H a (.dT (putK kvs k v))
theorem uc.k {kvs:List (Key×V)}{k:Key}(e:H a=some (.dK kvs)):uc H a (kV k) (fW kvs k):=.inl ⟨kvs,k,.inl e,RA,RA⟩
def uc.t {k:List Key}(e:H a=some (.dT kvs))(eb:H b=some (.tup (k.map kV))):uc H a (.ref b) (fW kvs k):=.inr (JE kvs k b ⟨.inl e,RA,eb,RA⟩)
theorem vR.k {kvs:List (Key×V)}{k:Key}{v:V}(e:H a=some (.dK kvs))(hl:kvs.length<sizeLine):vR H a (kV k) v (upd H a (.dK (putK kvs k v))):=.inl ⟨kvs,k,e,RA,hl,RA⟩
def vR.t {k:List Key}(e:H a=some (.dT kvs))(eb:H b=some (.tup (k.map kV)))(hl:kvs.length<sizeLine):vR H a (.ref b) v (upd H a (.dT (putK kvs k v))):=.inr (JE kvs k b ⟨e,RA,eb,hl,RA⟩)
section
variable {X:Cx}{ao:AC}{σ:St}{H:Hp}{s:Shared}{a:Addr}{y v:V}{u r:Value}{o:Option V}{A:Around}{E:AB}
def aM.big (I:aM X ao σ H s):sysModules<s.heap.objs.size:=by let h:mainGlobals<s.heap.objs.size:=(I.mod.glob.keeps I.bk).lt;show ml w_ h
def Wa (hu:A.units+1<cLine)(I:aM X ao σ H s)(g:uc H a y (some v))(ry:bN y u)(h:∀w' s',aM X ao σ H s'->bN v w'->Q w' s'):wpAny (model X.prog X.w) A (getItem (.ref a) u) Q E s:=by
 rcases g with⟨kvs,k,e,ey,l⟩|⟨kvs,k,b,e,ey,eb,l⟩
 .subst ey;let⟨z,hd,vs,rel,dd⟩:=Lj I.hok e;let⟨w',hw,Fo⟩:=mW.some_of (v:=v) (o:=valueAt vs k) (by rw[l];show rel.val k);show wpAny_getItem_of (Li ry) dd.mapOf hw (h w' _ (I.tok _) Fo)
 .subst ey;cases(show u=Value.ref b from ry);let⟨z,hd,xs,rel,dd⟩:=Lk I.hok e;let⟨w',hw,Fo⟩:=mW.some_of (v:=v) (o:=(atKey xs k).map (·.2)) (by rw[l];show rel.val k);let⟨p,hp,hp2⟩:=eK.mp hw;calc wpAny_getItem_heap (tupleKind_room_in1 hu) (Fp I.hok eb) dd hp ?_;rw[hp2];show h w' _ (I.tok _) Fo
def agR (hu:A.units+1<cLine)(I:aM X ao σ H s)(g:uc H a y o)(ry:bN y u)(h:∀s',aM X ao σ H s'->Q (.bool o.isSome) s'):wpAny (model X.prog X.w) A (compareOp .In u (.ref a)) Q E s:=by
 rcases g with⟨kvs,k,e,ey,l⟩|⟨kvs,k,b,e,ey,eb,l⟩
 .subst ey;let⟨z,hd,vs,rel,dd⟩:=Lj I.hok e;calc wpAny_in_of (Li ry) hd dd.mapOf ?_;rw[<-(rel.val k).zQ,<-l];show h _ (I.tok _)
 .subst ey;cases(show u=Value.ref b from ry);let⟨z,hd,xs,rel,dd⟩:=Lk I.hok e;calc wpAny_in_heap (tupleKind_room_in1 hu) (Fp I.hok eb) hd dd ?_;let q:=(rel.val k).zQ;rw[Option.isSome_map]at q;rw[<-q,<-l];show h _ (I.tok _)
def Ra (I:aM X ao σ H s)(mu:Vu (H a))(hs:Heap.SameBut a s.heap h')(he:∃q,h'.get? a=some q)(new:dW X.prog X.w (upd H a ob) h' a ob):aM X ao σ (upd H a ob) {s with heap:=h',toks:=t' }:=I.write (x:=a) (e:=a) mu (.inl RA) (λb q hb z=>(hs.2 b hb).trans z) he new
def aew {h':Heap}{kvs:List (Key×V)}(z:kvs.length<=sizeLine)(hd:(a==sysModules)=false)(rel:KV kvs vs)(dd:h'.DictOf (dz P w) a vs):dW P w H' h' a (.dK kvs):=⟨z,hd,vs,rel,dd⟩
def Wb (hu:A.units+1<cLine)(I:aM X ao σ H s)(g:vR H a y v H')(ry:bN y u)(rv:bN v r)(h:∀s',aM X ao σ H' s'->Q () s'):wpAny (model X.prog X.w) A (setItem (.ref a) u r) Q E s:=by
 rcases g with⟨kvs,k,e,ey,l,eH⟩|⟨kvs,k,b,e,ey,eb,l,eH⟩
 .subst ey eH;let⟨z,hd,vs,rel,dd⟩:=T8 I.hok e;let hz:vs.length<=sizeLine:=by rw[<-rel.length];show z
  let hl:(putK kvs k v).length<=sizeLine:=by have:=CW kvs k v;lia
  calc wpAny_setItem_pairs (hsz:=hz) (Li ry) dd λh' dd' hs=>h _ ?_;let he:∃q,h'.get? a=some q:=let ⟨q,_,_,hq,_⟩:=dd';⟨q,hq⟩
  show Ra I (by rw[e];show True.intro) hs he (aew hl hd (rel.put k rv) dd')
 .subst ey eH;cases(show u=Value.ref b from ry);let⟨z,hd,xs,rel,dd⟩:=agj I.hok e;let hz:xs.length<=sizeLine:=by rw[<-Paired.length rel];show z
  let hl:(putK kvs k v).length<=sizeLine:=by have:=CW kvs k v;lia
  calc wpAny_setItem_heap (hsz:=hz) (tupleKind_room_in1 hu) (Fp I.hok eb) dd λh' dd' hs=>h _ ?_;let⟨q,es,ep,hq,h2,h3,h4,_,h5⟩:=dd';calc Ra I (by rw[e];show True.intro) hs ⟨q,hq⟩ ⟨hl,hd,_,(rel.put k eb rv).keeps λc ys ec=>?_,q,es,ep,hq,h2,h3,h4,h5⟩;rw[bw (af5 ec e (λz=>nomatch z))];show ec
end
def Zq (i:Expr):Prop:=∀ov iv,subscripted i false ov iv=operate [ov,iv] (getItem ov iv)
def ab2 {T id:String}(hl:typeLookup (.type T) "__getitem__"=pure (some (.builtin id)))(hs:Zq slice)(h:wpAny (model prog w) A (eval value env) (λo s₁=>wpAny (model prog w) A (eval slice env) (λi s₂=>s₂.TypeIs o T/\wpAny (model prog w) A (getItem o i) Q E s₂) E s₁) E s):wpAny (model prog w) A (eval (.Subscript value slice pos) env) Q E s:=by
 calc Subscript_ (fN h (λo s₁ h₁=>fN h₁ (λi s₂ h₂=>?_) λ_ _ x=>x) λ_ _ x=>x);let⟨hT,h₂⟩:=h₂;unfold subscriptTail;calc aa ?_;rw[getitemInPython_of_ne hT.not_modules];calc aa (nS hT hl ?_);let fin:wpAny (model prog w) A (subscripted slice false o i) (λr s₃=>wpAny (model prog w) A (letTemporaryGo value o r >>= λ_=>pure r) Q E s₃) E s₂:=by rw[hs o i];show wpAny_operating (fN h₂ (λr s₃ h₃=>aa (wpAny_letTemporaryGo (ag h₃))) λ_ _ x=>x)
 first| show ag (aa fin)| show aa (ag (aa fin))| show aa fin
def Qc {X:Cx}{ao:AC}{σ:St}{H:Hp}{s:Shared}{a:Addr}{y:V}{o:Option V}(I:aM X ao σ H s)(g:uc H a y o):s.TypeIs (.ref a) "dict":=by
 rcases g with⟨kvs,k,e,_,_⟩|⟨kvs,k,b,e,_,_,_⟩
 .let⟨_,_,vs,_,dd⟩:=Lj I.hok e;show dd.typeIs
 .let⟨_,_,xs,_,dd⟩:=Lk I.hok e;show dd.typeIs
def abg (td ty:TE):TE:=λσ H Q=>td σ H λx H1=>ty σ H1 λy H2=>∃a v,x=.ref a/\uc H2 a y (some v)/\Q v H2
def aex (ty td:TE):TE:=λσ H Q=>ty σ H λy H1=>td σ H1 λx H2=>∃a o,x=.ref a/\uc H2 a y o/\Q (.bl o.isSome) H2
def abh (td ty tv:TE):TS:=λD σ H=>tv σ H λv H1=>td σ H1 λx H2=>ty σ H2 λy H3=>∃a H4,x=.ref a/\vR H3 a y v H4/\D.nx σ H4
section
variable {X:Cx}{o i value:Expr}{pos pos':Pos}{td ty tv:TE}
def ab3 (hu:X.A.units+1<cLine)(ho:PE X o td)(hi:PE X i ty)(hs:Zq i):PE X (.Subscript o i pos) (abg td ty):=by intro ao s σ H Q I h;calc ab2 PySem.F.slot_dict_getitem.lookup hs (bM (ho ao s σ H _ I h) λu s1 zz=>?_);let⟨x,H1,I1,rx,q1⟩:=zz;calc bM (hi ao s1 σ H1 _ I1 q1) λiv s2 zz=>?_;let⟨y,H2,I2,ry,a,v,ex,g,q2⟩:=zz;subst ex;obtain rfl:u=Value.ref a:=rx;show⟨Qc I2 g,Wa hu I2 g ry λw' s3 I3 Fo=>⟨v,H2,I3,Fo,q2⟩⟩
def aey (hu:X.A.units+1<cLine)(hi:PE X i ty)(ho:PE X o td):PC X .In i o (aex ty td):=by intro ao s σ H Q I h;calc bM (hi ao s σ H _ I h) λiv s1 zz=>?_;let⟨y,H1,I1,ry,q1⟩:=zz;calc bM (ho ao s1 σ H1 _ I1 q1) λu s2 zz=>?_;let⟨x,H2,I2,rx,a,ov,ex,g,q2⟩:=zz;subst ex;obtain rfl:u=Value.ref a:=rx;show agR hu I2 g ry λs3 I3=>⟨.bl ov.isSome,H2,I3,RA,q2⟩
def ab4 (hu:X.A.units+1<cLine)(ho:PE X o td)(hi:PE X i ty)(hv:PE X value tv)(hs:swapsWith value (some (.Subscript o i pos')) pos.line X.env=pure false):PS X (.Assign [.Subscript o i pos'] value pos) (abh td ty tv):=by intro ao s σ H D I h;calc wpAny_Assign_Subscript (bM (hv ao s σ H _ I h) λr s1 zz=>?_) hs;let⟨v,H1,I1,rv,q1⟩:=zz;calc bM (ho ao s1 σ H1 _ I1 q1) λu s2 zz=>?_;let⟨x,H2,I2,rx,q2⟩:=zz;calc bM (hi ao s2 σ H2 _ I2 q2) λiv s3 zz=>?_;let⟨y,H3,I3,ry,a,H4,ex,g,q3⟩:=zz;subst ex;obtain rfl:u=Value.ref a:=rx;show Wb hu I3 g ry rv λs4 I4=>⟨σ,H4,I4,q3⟩
end
def Zr (h:Heap)(hb:sysModules<h.objs.size):dW P w H (h.push {cls:=.type "dict",data:=.dict #[]}) h.objs.size (.dK []):=⟨cw _,beq_eq_false_iff_ne.mpr (kq (bn hb)),[],.nil,Heap.DictOf.new h⟩
def Zt (h:Heap)(hb:sysModules<h.objs.size):dW P w H (h.push {cls:=.type "dict",data:=.dict #[]}) h.objs.size (.dT []):=⟨cw _,beq_eq_false_iff_ne.mpr (kq (bn hb)),[],.nil,_,#[],0,ax _ RA,⟨RA,RA,RA⟩,RA,RA,oC⟩
def Wc:TE:=λ_ H Q=>∀p,H p=none->Q (.ref p) (upd H p (.dK []))
def Wd:TE:=λ_ H Q=>∀p,H p=none->Q (.ref p) (upd H p (.dT []))
section
variable {X:Cx}{pos:Pos}
def Zu:PE X (.Dict [] [] pos) Wc:=λao s σ H Q I h=>wpAny_Dict_empty ⟨.ref s.heap.objs.size,_,I.laid (a:=s.heap.objs.size) (o:=.dK []) (t':=s.toks) (λ_ _ q=>af _ q) (ah _) (Zr s.heap I.big),RA,h _ (I.hok.fresh (ah _))⟩
def Zv:PE X (.Dict [] [] pos) Wd:=λao s σ H Q I h=>wpAny_Dict_empty ⟨.ref s.heap.objs.size,_,I.laid (a:=s.heap.objs.size) (o:=.dT []) (t':=s.toks) (λ_ _ q=>af _ q) (ah _) (Zt s.heap I.big),RA,h _ (I.hok.fresh (ah _))⟩
end
end L2
namespace Att
open PySem PySem.W PySem.Calls PyProof.Rows
def Fq:∀(ns:List Int) (vs:List Value),WellAll P h vs (ns.map WData.int)->IntsAre vs ns:=by
 intro ns
 induction ns with
 | nil=>intro vs w;rw[mh]at w;cases w;show .nil
 | cons n ns ih=>
  intro vs w;rw[b6]at w;cases w with| cons a b=>cases a;show .cons _ _ (ih _ b)
def Wf {l:OpenLaw}(hn:l.most=some n)(hpre:l.row.toRowW.claim.pre args=true)(hwl:WellAll P h vals args):∃a vs ns,vals=[Value.ref a]/\args=[WData.list (ns.map WData.int)]/\h.get? a=some {cls:=.type "list",data:=.seq vs.toArray}/\IntsAre vs ns/\ns.length<=n:=by
 let hsh:WShape.hasAll [] args [.list .int]=true:=(pre_splitW hpre).1;let hc:l.pre.holds [] {args:=args}=true:=(pre_splitW hpre).2;let⟨d,r,rfl,h1,h2⟩:=hasAllW_cons hsh;obtain rfl:=hasAllW_nil h2;let⟨xs,rfl,h3⟩:=hasW_list h1;let⟨ns,rfl⟩:=items_int h3;let bW:ns.length<=n:=by
  unfold OpenLaw.pre at hc;let h4:(WTm.not (.lt (.lit (.int (n:Int))) (.len (.arg 0)))).holds [] {args:=[.list (ns.map .int)]}=true:=by let h4:=(holds_andW hc).1;rw[hn]at h4;show h4
  let h5:=condW_of h4 (w_not (w_lt w_lit (w_len_list (w_arg RA))));rw[ab]at h5;calc Nat.le_of_not_lt λq=>?_;let q':(n:Int)<((ns.length:Nat):Int):=oB gx q
  first| (rw[ar q']at h5;show absurd h5 w_)| (simp at h5;lia)
 cases hwl with
 | cons w1 w2=>
  cases w2;cases w1 with| list ho hall=>show JE _ _ ns ⟨RA,RA,ho,Fq ns _ hall,bW⟩
def Wg (l:OpenLaw)(args:List WData):l.row.toRowW.claim.post args (.bool true) args=true:=postW_of (r:=l.row.toRowW) (X:=(true==true))
  (show WShape.has [] (.bool true) .bool=true by first|rfl|decide|simp[WShape.has,WShape.arms,WShape.armsAll])
  (show (WTm.eq .res (.lit (.bool true))).value [] {args:=args,res:=some (.bool true),after:=args}=some (.bool (true==true)) from w_eq_bool (w_res RA) w_lit) rfl
def Qd {l:OpenLaw}{d:DefRec}(hn:l.most=some n)(hdf:d.params.defaults=[])(call:∀(w:World) (s₀ s₁:Shared) (mg mb:Str->Option Value) (fa:Addr) (o:Obj) (pm cd doc:Value) (a:Addr) (vs:List Value) (ns:List Int),
   Ground q loose [] XP w s₀ mg mb s₁.heap->YP w s₁.heap->
   s₁.heap.get? fa=some o->o.data=.func (docDef d.name d.params d.body d.scope pm cd doc)->s₁.heap.CodeRec cd d.name->mg d.name=some (.ref fa)->
   s₁.heap.get? a=some {cls:=.type "list",data:=.seq vs.toArray}->IntsAre vs ns->ns.length<=n->s₁.gens=#[]->
   codeAny (model l.prog w) callerA (.call (.ref fa) ⟨[.ref a],[]⟩) (λr s'=>r=.ok (.ret (.bool true))/\OldK s₁.heap s'.heap/\s'.os=s₁.os/\AllBare s'.gens) s₁) :
  WalkO q loose XP YP l.row.toRowW d [] (λf vs=>PySem.call f vs):=by
 intro w s₀ s₁ mg mb G Y fa o pm cd doc dV kV ho hd hcd hD hmg hg args vals as hpre hlay hrd hwl hlo;obtain rfl:dV=.none:=Dflts.none hD hdf;obtain rfl:kV=.none:=Dflts.noKw hD;let⟨a,vs,ns,rfl,rfl,hobj,hints,bW⟩:=Wf hn hpre hwl;calc enter_call (i9 (call w s₀ s₁ mg mb fa o pm cd doc a vs ns G Y ho (fd_plain hd) hcd hmg hobj hints bW hg) λr s' hq=>?_);let⟨rfl,h2,h3,h4⟩:=hq;show⟨.inl (JE (.bool true) (.bool true) [] ⟨RA,λ_=>rfl,.bool true,Wg l _,λ_=>⟨List.Pairwise.nil,λ_ hm=>(nomatch hm)⟩⟩),h2,h3,h4⟩
end Att
namespace L2
open PySem PySem.Spec PyProof.Rows
theorem JM:∀{vs:List Value} {ns:List Int},IntsAre vs ns->Vals (ns.map V.int) vs
 | _,_,.nil=>.nil
 | _,_,.cons n t h=>.cons ⟨t,RA⟩ (JM h)
def Only (H:Hp):Prop:=∀b,H b=none\/∃o xs,H b=some (.qe o (.lst xs))
def Zw {K:W.Frag}{s₁:Shared}{vs:List Value}(KX:K.In s₁.heap)(hns:s₁.heap.Ns mainGlobals mg)(hb:s₁.heap.Ns builtinsNs mb)(hbb:∀x:Str,x≠"__name__"->mb x=bootBuiltins x)(hlim:s₁.heap.NoLimit)(hg:s₁.gens=#[])(ha:s₁.heap.get? a=some {cls:=.type "list",data:=.seq vs.toArray})(hi:IntsAre vs ns)(hl:ns.length<=sizeLine)(hr:dR k callerA)(F:∀base:Heap,K.In base->base.Ns mainGlobals mg->cJ P w K mg base CX k fa fd [x] sp)(hbind:∀(s:Shared) (u:Value),BindsTo s fd ⟨[u],[]⟩ [(x,u)])(hsp:∀H:Hp,Only H->aP K H a (ns.map V.int)->sp [.ref a] H (λv _=>v=.bl true) λ_ _ _=>False)(hCX:∀H e s',CX [] H s₁ (λ_ _ _=>False) e s'->False):codeAny (model P w) callerA (.call (.ref fa) ⟨[.ref a],[]⟩) (λr s'=>r=.ok (.ret (.bool true))/\OldK s₁.heap s'.heap/\s'.os=s₁.os/\AllBare s'.gens) s₁:=by
 let rv:=JM hi;let lenV:=hi.length;let core:∀H:Hp,Only H->aP K H a (ns.map V.int)->jk P w H s₁.heap->(∀b,H b≠none->b=a)->(H a≠none->K.lookup a=none)->
   codeAny (model P w) callerA (.call (.ref fa) ⟨[.ref a],[]⟩) (λr s'=>r=.ok (.ret (.bool true))/\OldK s₁.heap s'.heap/\s'.os=s₁.os/\AllBare s'.gens) s₁:=by
  intro H hO hS hok hA hK;let Rb:∀{b:Addr} {o:Obj},s₁.heap.get? b=some o->H b=none->(xR s₁.heap H).get? b=some o:=λe n=>YT e n;let V4:∀{b:Addr} {o:Obj} {es:Array DictEntry} {ep:Nat},s₁.heap.get? b=some o->o.data=.dict es ep->H b=none:=λ{b o es ep} e d=>by
   cases q:H b with| none=>rfl| some u=>have e':b=a:=hA b (by rw[q];simp);subst e';rw[ha]at e;cases e;let d':Data.seq vs.toArray _=Data.dict es ep:=d;cases d'
  let nsK:∀{b:Addr} {m:Str->Option Value},s₁.heap.Ns b m->(xR s₁.heap H).Ns b m:=λ{b m} ⟨o,es,ep,e,d,r⟩=>(JE o es ep ⟨Rb e (V4 e d),d,r⟩)
  let hKb:K.In (xR s₁.heap H):=λb o e=>Rb (KX b o e) (by
   cases q:H b with
   | none=>rfl
   | some u=>have e':b=a:=hA b (by rw[q];simp);subst e';rw[hK (by rw[q];simp)]at e;cases e)
  let hM:Mod K mg (xR s₁.heap H):=⟨hKb,nsK hns,⟨mb,nsK hb,hbb⟩,let ⟨mc,h1,h2⟩:=hlim;⟨mc,nsK h1,h2⟩⟩
  let e0:zO P w K mg (xR s₁.heap H) callerA [] s₁ H:=⟨RA,hM,λb o e=>abH e,me (Vv _ _),trivial,λb hb=>absurd (show b∈([]:List Addr) from hb) w8,hok,.of_eq hg⟩
  calc i9 ((F _ hKb (nsK hns)).run callerA [] s₁ H ⟨[.ref a],[]⟩ [.ref a] [.ref a] _ _ hr e0 (hbind s₁ (.ref a)) (.cons RA .nil) (hsp H hO hS)) λr s' h=>?_;cases r with
  | error e=>show(hCX H e s' h).elim
  | ok fl=>
   cases fl with
   | next=>show False.elim h
   | brk=>show False.elim h
   | cont=>show False.elim h
   | ret u=>
    let⟨v,H',os,bare,un,hok',r',q⟩:=h;let q':v=.bl true:=q;subst q';obtain rfl:u=Value.bool true:=r';calc⟨RA,OldK.of_keep λb o e=>?_,os,bare⟩;cases q:H b with
    | none=>show un.keep b o e q (by intro z;show absurd (show b∈([]:List Addr) from z) w8) w8
    | some u=>
     rcases hO b with z|⟨ob,xs,z⟩;.rw[q]at z;cases z
     .let z2:=un.vQ b ob _ z;let⟨e1,_⟩:=hok b _ z;let⟨e2,_⟩:=hok' b _ z2;rw[e]at e1;cases e1;show e2
 cases hk:K.lookup a with
 | some o=>have e:=KX a o hk;rw[ha]at e;cases e;refine core (λ_=>none) (λ_=>.inl RA) (.inr (JE _ vs.toArray _ ⟨hk,RA,RA,RA,by rw[bq,lenV];show hl,by simpa using rv⟩)) (λb u z=>by let z':(none:Option HO)=some u:=z;cases z') (λb z=>absurd RA z) λz=>absurd RA z
 | none=>
  refine core (λb=>if b=a then some (.qe {cls:=.type "list",data:=.seq vs.toArray} (.lst (ns.map V.int))) else none) (λb=>?_) (.inl (.inr ⟨{cls:=.type "list",data:=.seq vs.toArray},if_pos RA⟩)) (λb u z=>?_) (λb z=>?_) λ_=>hk
  .by_cases hb:b=a;.show .inr ⟨_,_,if_pos hb⟩
   .show .inl (if_neg hb)
  .by_cases hb:b=a
   .let z':=(if_pos hb).symm.trans z;cases z';subst hb;show⟨ha,by rw[ab];show hl,vs,_,rv,ha⟩
   .let z':=(if_neg hb).symm.trans z;cases z'
  .by_cases hb:b=a;.show hb
   .show absurd (if_neg hb) z
abbrev KOf {K:W.Frag}{h:Heap}(_:K.In h):W.Frag:=K
def ab5 {l:W.OpenLaw}{n k:Nat}{loose:List Str}{XP:(Str->Option Value)->Heap->Prop}{YP:World->Heap->Prop}{d:DefRec}{K:Params->W.Frag}{CX:World->sE}{sp:World->Sp}{x:Str}(hn:l.most=some n)(hn2:n<=sizeLine)(hdf:d.params.defaults=[])(hr:dR k callerA)(hY:∀(w:World) (h:Heap),YP w h->(K w.params).In h)(F:∀(w:World) (mg:Str->Option Value) (fa:Addr) (h:Heap),(K w.params).In h->h.Ns mainGlobals mg->mg d.name=some (.ref fa)->
   ∃fd:FuncData,(∀(s:Shared) (u:Value),BindsTo s fd ⟨[u],[]⟩ [(x,u)])/\
    ∀base:Heap,(K w.params).In base->base.Ns mainGlobals mg->cJ l.prog w (K w.params) mg base (CX w) k fa fd [x] (sp w))
  (hsp:∀(w:World) (H:Hp) (a:Addr) (ns:List Int),ns.length<=n->Only H->aP (K w.params) H a (ns.map V.int)->sp w [.ref a] H (λv _=>v=.bl true) λ_ _ _=>False)
  (hCX:∀(w:World) (H:Hp) (s:Shared) (e:Value) (s':Shared),CX w [] H s (λ_ _ _=>False) e s'->False) :
  W.WalkO q loose XP YP l.row.toRowW d [] (λf vs=>PySem.call f vs):=by
 calc Att.Qd hn hdf λw s₀ s₁ mg mb fa o pm cd doc a vs ns G Y ho hd hcd hmg hobj hints bW hg=>?_;let KX:=hY w _ Y;let⟨fd,hb,hF⟩:=F w mg fa _ KX G.T.g hmg;show Zw KX G.T.g G.T.b G.T.builtins G.T.nolimit hg hobj hints (a8 bW hn2) hr hF hb (λH hO hS=>hsp w H a ns bW hO hS) λH e s'=>hCX w H s₁ e s'
def inClass (s:Stmt)(j:Nat):Stmt:=match s with| .ClassDef _ _ _ body _ _ _ _ _ _ _=>body.getD j (.Pass ⟨0,0,0,0⟩)| _=>.Pass ⟨0,0,0,0⟩
noncomputable def eV (s:Stmt):Arguments:=match s with| .FunctionDef _ a _ _ _ _ _ _ _ _=>a| _=>{posonlyargs:=[],args:=[],vararg:=none,kwonlyargs:=[],kw_defaults:=[],kwarg:=none,defaults:=[]}
def cY (s:Stmt):List Stmt:=match s with| .FunctionDef _ _ b _ _ _ _ _ _ _=>b| _=>[]
noncomputable def aG (s:Stmt):Scope:=match s with| .FunctionDef _ _ _ _ _ _ sc _ _ _=>sc| _=>{kind:=.function,names:=[],isGenerator:=false,isCoroutine:=false}
abbrev fG:sE:=λ_ _ _ _ _ _=>False
abbrev E0:XK:=λ_ _ _=>False
def fZ:Passes fG X E0:=λ_ _ _ _ _ _ _ h=>h.elim
structure iY (K:W.Frag)(x qual:Str)(st:Stmt)(f:Addr)(fd:FuncData):Prop where
 ex:∃(oc:Value) (od:Option Addr) (kV doc pm:Value) (an:Option Addr) (bD ct:Value) (osl:Array (Option Value)),
  fd=W.fnOf x qual (eV st) (cY st) (aG st) .none kV doc pm an bD ct/\K.lookup f=some ⟨oc,od,.func fd,osl⟩/\W.codeIn K bD qual=true
 kp:W.keepIn K (.ref f)=true
section
variable {P:Program}{w:World}{K:W.Frag}{mg:Str->Option Value}{base:Heap}
def iY.ok {x qual:Str}{st:Stmt}{N ps:List Str}{k:Nat}{sp:Sp}(F:iY K x qual st f fd)(S:aV N ps (aG st))(len:∀vs H Q E,sp vs H Q E->vs.length=ps.length)(hbody:∀(bD:Value) (A:Around) (outer:List Env) (s:Shared) (H:Hp) (vs:List V) (Q:VK) (E:XK),dR k (A.deeper (envOfC qual (aG st) s.heap.objs.size f bD))->sp vs H Q E->
   ∃t,sy (tY fG P w K mg base N qual (aG st) f bD A outer s H E).Jx (cY st) t/\t {nx:=λ_ H'=>Q .non H',rt:=Q} (start N vs) H):cJ P w K mg base fG (k+1) f fd ps sp:=by
 let⟨oc,od,kV,doc,pm,an,bD,ct,osl,rfl,lk,hcd⟩:=F.ex;calc agd lk hcd S len λA outer s H vs Q E hr hsp=>?_;let⟨t,h,q⟩:=hbody bD A outer s H vs Q E hr hsp;show⟨t,h.Jx,q⟩
def iY.binds {x qual:Str}{st:Stmt}{ps:List Str}(F:iY K x qual st f fd)(h:∀(kV doc pm:Value) (an:Option Addr) (bD ct:Value) (us:List Value),us.length=ps.length->bindArgs (W.fnOf x qual (eV st) (cY st) (aG st) .none kV doc pm an bD ct) ⟨us,[]⟩=pure (ps.zip us)):cu K fd ps []:=by let⟨oc,od,kV,doc,pm,an,bD,ct,osl,rfl,lk,hcd⟩:=F.ex;show .all (h kV doc pm an bD ct)
def kE {x qual:Str}{st:Stmt}{f:Addr}{oc:Value}{od an:Option Addr}{osl:Array (Option Value)}{kV doc pm bD ct:Value}(l:K.lookup f=some ⟨oc,od,.func (W.fnOf x qual (eV st) (cY st) (aG st) .none kV doc pm an bD ct),osl⟩)(c:W.codeIn K bD qual=true)(k:W.keepIn K (.ref f)=true):iY K x qual st f (W.fnOf x qual (eV st) (cY st) (aG st) .none kV doc pm an bD ct):=⟨(JS oc od kV doc pm an bD ct ⟨osl,RA,l,c⟩),k⟩
end
def Bu (hr:dR k A):A.units+1<cLine:=kK (mP (by decide:1<=64) _) hr.units
def aL (h:n<=1000):n<sizeLine:=kK h w_
section
variable {X:Cx}
def pv (i:Nat){x:Str}{pos:Pos}(hN:X.N[i]?=some x:=by rfl)(hv:Vw X.env.scope x:=by first|show Or.inl rfl|show Or.inr (Or.inl RA)|show Or.inr (Or.inr RA))(hd:(x==("__debug__":Str))=false:=by decide)(hcd:(x==("__classdict__":Str))=false:=by decide):PE X (.Name x pos) (eF i):=adI hN hv hd hcd
end
def bZ {A B:Prop}(h:B):if false=true then A else B:=by rw[if_neg b8];show h
def cQ {A B:Prop}(h:A):if true=true then A else B:=by rw[if_pos rfl];show h
def xV {c A B:Prop} [Decidable c] (h1:c->A)(h2:¬c->B):if c then A else B:=by
 by_cases h:c
 .rw[if_pos h];show h1 h
 .rw[if_neg h];show h2 h
def Ft {c A B:Prop} [Decidable c] (hc:c)(h:B):if (!decide c)=true then A else B:=by rw[ar hc];show bZ h
def aA (H H':Hp):Prop:=∀b o,H b=some o->H' b=some o
def aA.refl (H):aA H H:=λ_ _ h=>h
def aA.trans (a:aA H H1)(b:aA H1 H2):aA H H2:=λc o h=>b c o (a c o h)
def aA.free (e:aA H H')(h:H' l=Option.none):H l=Option.none:=by
 cases q:H l with| none=>rfl| some o=>rw[e l o q]at h;cases h
def aA.seq {K:W.Frag}{xs:List V}(e:aA H H')(h:aP K H a xs):aP K H' a xs:=by
 rcases h with(h|⟨o,h⟩)|h;.show .inl (.inl (e _ _ h))
 .show .inl (.inr ⟨o,e _ _ h⟩)
 .show .inr h
section
variable {κ:Type}[DecidableEq κ]
theorem Rc:∀{l:List κ} {k:κ},l.Nodup->¬k∈l->(l++[k]).Nodup
 | [],k,_,_=>by simp
 | a::r,k,h,hk=>by
  let⟨h1,h2⟩:=gp.mp h;show (a::(r++[k])).Nodup;calc gp.mpr ⟨λm=>?_,Rc h2 λm=>hk (ba.mpr (Or.inr m))⟩;rcases bd.mp m with q|q;.show h1 q
  .show hk (ba.mpr (Or.inl (ap.mp q).symm))
end
noncomputable def blk (X:Cx)(scope:Scope)(cl:List (Str×Addr))(C:Addr)(x:Str)(s₀:Shared)(H₀:Hp)(fp:List Addr):Cx:={X with N:=x::X.N,s₀:=s₀,H₀:=H₀,env:=compEnvC scope cl C X.env,outer:=X.stack,ex:=fp,fn:=λ_=>false,pn:=[],xe:=λ_ _=>False}
structure fP (X:Cx)(scope:Scope)(x:Str):Prop where
 kind:scope.kind=.function
 Fv:∀y∈scope.names,y.2≠.cell
 names:∀y∈scope.names,y.2=.local->scope.names.lookup y.1=some .local
 hx:scope.names.lookup x=some .local
 free:∀y∈scope.names,y.2=.free->X.env.kindOf y.1=some .cell\/X.env.kindOf y.1=some .free
 out:∀y∈X.N,scope.names.lookup y≠some .local
 nd:X.N.Nodup
noncomputable def Rf (sc:Scope)(N:List Str)(scope:Scope)(x:Str):Bool:=scope.kind == .function&&scope.names.all (λy=>y.2 != .cell)&&scope.names.all (λy=>y.2 != .local||scope.names.lookup y.1==some .local)&&scope.names.lookup x==some .local &&
 scope.names.all (λy=>y.2 != .free||sc.names.lookup y.1==some .cell||sc.names.lookup y.1==some .free)&&N.all (λy=>scope.names.lookup y != some .local)
def fP.of {X:Cx}(hN:X.N.Nodup)(h:Rf X.env.scope X.N scope x=true):fP X scope x:=by
 unfold Rf at h;simp only[df,gv,Bool.or_eq_true,bne_iff_ne,beq_iff_eq,ne_eq]at h;obtain⟨⟨⟨⟨⟨h1,h2⟩,h3⟩,h4⟩,h5⟩,h6⟩:=h;calc⟨h1,λy hy=>h2 y hy,λy hy e=>(h3 y hy).resolve_left λz=>z e,h4,λy hy e=>?_,λy hy=>h6 y hy,hN⟩;rcases h5 y hy with(z|z)|z;.show absurd e z
 .show .inl z
 .show .inr z
theorem jx {α:Type}:∀{l:List (Str×α)} {x:Str} {a:α},l.lookup x=some a->(x,a)∈l
 | [],_,_,h=>by simp at h
 | (y,b)::r,x,a,h=>by
  rw[iN]at h;split at h
  .rename_i e;let e':x=y:=by simpa using e
   cases h;subst e';show aE
  .show ay _ (jx h)
theorem xW {env:Env}:∀(names:List (Str×NameKind)),(∀y∈names,y.2=.free->∃c,env.cells.lookup y.1=some c)->∀acc:List (Str×Addr),(∀n c,acc.lookup n=some c->env.cells.lookup n=some c)->
  ∃cl,(forIn names acc (λ(p:Str×NameKind) (cs:List (Str×Addr))=>if (p.2==NameKind.free)=true then (do let a <- cellOf env p.1;pure (ForInStep.yield ((p.1,a)::cs))) else (pure (ForInStep.yield cs):Sem _)):Sem (List (Str×Addr)))=pure cl/\
   (∀n c,cl.lookup n=some c->env.cells.lookup n=some c)/\(∀n,(∃c,acc.lookup n=some c)->∃c,cl.lookup n=some c)/\∀n,(n,NameKind.free)∈names->∃c,cl.lookup n=some c
 | [],_,acc,ha=>⟨acc,w8,ha,λ_ h=>h,λ_ h=>by simp at h⟩
 | (n,k)::r,hf,acc,ha=>by
  let hr:∀y∈r,y.2=.free->∃c,env.cells.lookup y.1=some c:=λy hy=>hf y (ay _ hy);by_cases hk:k=.free
  .subst hk;let⟨c,hc⟩:=hf (n,.free) aE rfl;let⟨cl,e,h1,h2,h3⟩:=xW r hr ((n,c)::acc) (λn' c' h=>by
    rw[iN]at h;split at h
    .rename_i q;let q':n'=n:=by simpa using q
     cases h;subst q';show hc
    .show ha n' c' h)
   refine⟨cl,?_,h1,λn' h=>h2 n' ?_,λn' h=>?_⟩
   .rw[fc];simp only[beq_self_eq_true,if_true];let e2:cellOf env n=pure c:=by unfold cellOf;rw[hc]
    rw[e2];simp only[pure_bind];show e
   .let⟨c',hc'⟩:=h;rw[iN];split;.show⟨c,RA⟩
    .show⟨c',hc'⟩
   .rcases ba.mp h with q|q
    .calc h2 n' ⟨c,?_⟩;cases q;rw[iN,beq_self_eq_true]
    .show h3 n' q
  .let hb:(k==NameKind.free)=false:=by simpa using hk
   let⟨cl,e,h1,h2,h3⟩:=xW r hr acc ha;refine⟨cl,?_,h1,h2,λn' h=>?_⟩
   .rw[fc];simp only[hb,a7,if_false,pure_bind];show e
   .rcases ba.mp h with q|q;.cases q;show absurd RA hk
    .show h3 n' q
theorem iU {env:Env}:∀{names:List (Str×NameKind)} {x:Str} {k:NameKind},
  (names.map λ(n,k)=>if (k==NameKind.free&&env.scope.kind == .function&&env.kindOf n==some .cell) then (n,NameKind.cell) else (n,k)).lookup x=some k->names.lookup x=some k\/(k=.cell/\names.lookup x=some .free)
 | [],_,_,h=>by simp at h
 | (n,j)::r,x,k,h=>by
  let ih:=@iU env r x k;let h':List.lookup x ((if (j==NameKind.free&&env.scope.kind == .function&&env.kindOf n==some .cell)=true then (n,NameKind.cell) else (n,j))::_)=some k:=h;by_cases hc:(j==NameKind.free&&env.scope.kind == .function&&env.kindOf n==some .cell)=true
  .rw[if_pos hc]at h';cases hx:x==n with
   | true=>
    simp only[iN,hx]at h' ⊢;cases h';have:j=.free:=by simp at hc;show hc.1.1
    show .inr ⟨RA,by rw[this]⟩
   | false=>simp only[iN,hx]at h' ⊢;show ih h'
  .rw[if_neg hc]at h';cases hx:x==n with| true=>simp only[iN,hx]at h' ⊢;show .inl h'| false=>simp only[iN,hx]at h' ⊢;show ih h'
def T9 (I:Nat->Shared->Prop)(turn:∀n s,I n s->wpAny (model prog w) A (pyNext it) (λr s₁=>match r with
   | none=>R (.ok .next) s₁
   | some v=>wpAny (model prog w) A (letOwnedTupleGo target it v) (λ_ s₀=>wpAny (model prog w) A (assign target env v) (λ_ s₂=>
     wpAny (model prog w) A (forIn ifs true λc r=>if r=true then do let ok <- isTrue c env (eval c env);pure (ForInStep.yield ok) else pure (ForInStep.yield r)) (λok s₃=>
      if ok=true then wpAny (model prog w) A (eval elt env) (λx s₄=>wpAny (model prog w) A (call (.builtin "list.append") [acc,x]) (λ_ s₅=>∃m,m<n/\I m s₅) (λ_ _=>False) s₄) (λ_ _=>False) s₃
      else ∃m,m<n/\I m s₃) (λ_ _=>False) s₂) (λ_ _=>False) s₀) (λ_ _=>False) s₁) (λ_ _=>False) s)
  (n) (h:I n s) :
  codeAny (model prog w) A (.compLoop (.ListComp elt [⟨target,iter,ifs,0⟩] scope pos) 0 it acc env) R s:=by
 calc codeAny_loop RA I (λn s hI=>?_) n h;show wpAny _ A ((compTurn (.ListComp elt [⟨target,iter,ifs,0⟩] scope pos) 0 it acc env).onRaise (λx=>do noteFrame x env;theTreesLotGoes x)) _ _ s;calc wpAny_noted ?_;rw[compTurn_list];calc aa (r_ (aa (fN (turn n s hI) (λr s₁ h₁=>?_) λ_ _ h'=>h'.elim)));cases r with
 | none=>show ag h₁
 | some v=>
  calc aa (fN h₁ (λ_ s₀ h₀=>?_) λ_ _ h'=>h'.elim);calc aa (fN h₀ (λ_ s₂ h₂=>aa (fN h₂ (λok s₃ h₃=>?_) λ_ _ h'=>h'.elim)) λ_ _ h'=>h'.elim);cases ok with| false=>show ag ⟨RA,h₃⟩| true=>show aa (aa (fN h₃ (λx s₄ h₄=>aa (fN h₄ (λ_ s₅ h₅=>ag (ag ⟨RA,h₅⟩)) λ_ _ h'=>h'.elim)) λ_ _ h'=>h'.elim))
def Mv (X:Cx)(ifs:List Expr)(t:TT):Prop:=∀(ao:AC) (s:Shared) (σ:St) (H:Hp) (Q:Bool->Hp->Prop),aM X ao σ H s->t σ H Q->
  wpAny (model X.prog X.w) X.A (forIn ifs true λc r=>if r=true then do let ok <- isTrue c X.env (eval c X.env);pure (ForInStep.yield ok) else pure (ForInStep.yield r)) (TP X ao σ Q) X.xe s
def gG:TT:=λ_ H Q=>Q true H
def ab6:Mv X [] gG:=λ_ _ _ H _ I h=>wpAny_tests_nil ⟨H,I,h⟩
def ab7 (h:PT X c t):Mv X [c] t:=λao s σ H Q I q=>wpAny_tests_one (h ao s σ H Q I q)
def dM (n i:Nat)(P:Prop):Prop:=∃m',m'<n-i/\m'=n-(i+1)/\i+1<=n/\P
abbrev Dy (n i:Nat)(D:Addr)(ys:List V)(P:List V->Hp->Prop)(y:V)(H3:Hp):Prop:=H3 D=some (.lst ys)/\ys.length<sizeLine/\dM n i (P (ys++[y]) (upd H3 D (.lst (ys++[y]))))
abbrev rH (J:It)(D:Addr)(H:Hp)(R:Hp->Prop)(B:V->Hp->VK->(Hp->Prop)->Prop):Prop:=∃W:Nat->Nat->List V->Hp->Prop,(∃m,W 0 m [] (upd H D (.lst [])))/\
 ∀i m ys H,W i m ys H->(J.stop i H/\R H)\/(J.go i H/\∀x H',J.Jz i H x H'->B x H' (λy H3=>H3 D=some (.lst ys)/\ys.length<sizeLine/\∃m',m'<m/\W (i+1) m' (ys++[y]) (upd H3 D (.lst (ys++[y])))) λH2=>∃m',m'<m/\W (i+1) m' ys H2)
def Dz {J:It}{D:Addr}{H:Hp}{R:Hp->Prop}{B:V->Hp->VK->(Hp->Prop)->Prop}(n:Nat)(Pv:Nat->List V->Hp->Prop)(h0:Pv 0 [] (upd H D (.lst [])))(hg:∀i ys H,i<n->Pv i ys H->J.go i H/\∀x H',J.Jz i H x H'->B x H' (Dy n i D ys (Pv (i+1))) λH2=>dM n i (Pv (i+1) ys H2))(he:∀ys H,Pv n ys H->J.stop n H/\R H):rH J D H R B:=by
 calc⟨λi m ys H=>m=n-i/\i<=n/\Pv i ys H,⟨n,w8,cw _,h0⟩,?_⟩;intro i m ys H z;let⟨rfl,hi,p⟩:=z;by_cases hlt:i<n;.show .inr (hg i ys H hlt p)
 .let e:i=n:=wT;subst e;show .inl (he ys H p)
def Bv {Sq:Hp->List V->Prop}{B:V->Hp->VK->(Hp->Prop)->Prop}{xs:List V}{D:Addr}{H:Hp}{R:Hp->Prop}(Pv:Nat->List V->Hp->Prop)(h0:Pv 0 [] (upd H D (.lst [])))(hl:∀i ys H,i<=xs.length->Pv i ys H->Sq H xs)(hs:∀i x ys H,xs[i]?=some x->Pv i ys H->B x H (Dy xs.length i D ys (Pv (i+1))) λH2=>dM xs.length i (Pv (i+1) ys H2))(hd:∀ys H,Pv xs.length ys H->R H):rH (ItS Sq) D H R B:=Dz xs.length Pv h0 (λi ys H h p=>⟨⟨xs,xs[i],hl i ys H (aT h) p,by simp[h]⟩,λx H' ⟨e,y⟩=>by subst e;show hs i x ys _ (y xs (hl i ys _ (aT h) p)) p⟩) λys H p=>⟨⟨xs,hl _ ys H (ah _) p,ah _⟩,hd ys H p⟩
abbrev Mw (σ:St)(tt:TT)(te:TE)(x:V)(H:Hp)(k:VK)(l:Hp->Prop):Prop:=tt (some x::σ) H λb H2=>if b=true then te (some x::σ) H2 k else l H2
def Fw (wi:TI)(tt:TT)(te:TE):TE:=λσ H Q=>wi σ H λJ H1=>∀D,H1 D=none->rH J D H1 (Q (.ref D)) (Mw σ tt te)
noncomputable def eG (X:Cx)(scope:Scope)(cl:List (Str×Addr))(C:Addr)(N:List Str)(s₀:Shared)(H₀:Hp)(fp:List Addr):Cx:={X with N:=N,s₀:=s₀,H₀:=H₀,env:=compEnvC scope cl C X.env,outer:=X.stack,ex:=fp,fn:=λ_=>false,pn:=[],xe:=λ_ _=>False}
structure fL (X:Cx)(scope:Scope)(ns N2:List Str)(f:St->St):Prop where
 kind:scope.kind=.function
 Fv:∀y∈scope.names,y.2≠.cell
 names:∀y∈scope.names,y.2=.local->scope.names.lookup y.1=some .local
 free:∀y∈scope.names,y.2=.free->X.env.kindOf y.1=some .cell\/X.env.kindOf y.1=some .free
 agS:∀σ:St,(f σ).length=σ.length
 agT:N2.length=X.N.length
 out:∀(σ:St) (i:Nat) (y:Str) (v:V),N2[i]?=some y->(f σ)[i]?=some (some v)->X.N[i]?=some y/\σ[i]?=some (some v)/\scope.names.lookup y≠some .local
def JN (X:Cx)(tg:Expr)(k:Nat)(TP:V->Hp->(St->Prop)->Prop):Prop:=∀(ao:AC) (s:Shared) (pre rest:St) (H:Hp) (v:V) (u:Value) (Q:St->Prop),pre.length=k->aM X ao (pre++rest) H s->bN v u->TP v H Q->
  wpAny (model X.prog X.w) X.A (assign tg X.env u) (λ_ s'=>∃pre',pre'.length=k/\aM X ao (pre'++rest) H s'/\Q pre') (λ_ _=>False) s
def CZ (TP:V->Hp->(St->Prop)->Prop)(f:St->St)(σ:St)(tt:TT)(te:TE)(x:V)(H:Hp)(k:VK)(l:Hp->Prop):Prop:=TP x H λpre=>tt (pre++f σ) H λb H2=>if b=true then te (pre++f σ) H2 k else l H2
def zR (f:St->St)(k:Nat)(wi:TI)(TP:V->Hp->(St->Prop)->Prop)(tt:TT)(te:TE):TE:=λσ H Q=>wi σ H λJ H1=>∀D,H1 D=none->rH J D H1 (Q (.ref D)) (CZ TP f σ tt te)
def zT {X:Cx}{elt iter tg:Expr}{ns N2:List Str}{f:St->St}{TP:V->Hp->(St->Prop)->Prop}{ifs:List Expr}{scope:Scope}{pos:Pos}{wi:TI}{tt:TT}{te:TE}(hc:X.calm=true)(ok:fL X scope ns N2 f)(hi:PI X tg iter wi)(hg:∀cl C s₀ H₀ fp,JN (eG X scope cl C (ns++N2) s₀ H₀ fp) tg ns.length TP)(ht:∀cl C s₀ H₀ fp,Mv (eG X scope cl C (ns++N2) s₀ H₀ fp) ifs tt)(he:∀cl C s₀ H₀ fp,PE (eG X scope cl C (ns++N2) s₀ H₀ fp) elt te)(hs:∀x,foldedSetIterable iter X.env x=pure x:=by intro _;rfl){use:Option (Value->Sem Unit)}{RR:AB}{p1:Pos}{ao:AC}{s:Shared}{σ:St}{H:Hp}{Q:V->Hp->Prop}(I:aM X ao σ H s)(h:zR f ns.length wi TP tt te σ H Q)(fin:∀(D C:Addr) (H4:Hp) (s5:Shared) (m:Str->Option Value),s5.heap.Ns C m->(∀h',Heap.SameBut C s5.heap h'->aM X ao σ H4 {s5 with heap:=h' })->nZ X ao H4 C->Q (.ref D) H4->compPost (model X.prog X.w) X.A X.xe use RR (.ref D) C (.ok .next) s5):wpAny (model X.prog X.w) X.A (comprehension (.ListComp elt [⟨tg,iter,ifs,0⟩] scope pos) scope X.env p1 (newList []) false (eval iter X.env) use) RR X.xe s:=by
 let⟨cl,hcl,hsub,_,hall⟩:=xW (env:=X.env) scope.names (λy hy e=>I.ok.has y.1 (ok.free y hy e)) [] (λ_ _ z=>by simp at z);let hclos:closureFor scope X.env=pure cl:=by unfold closureFor;simp only[bind_pure];show hcl
 calc wpAny_comprehension_free (use:=use) (E:=X.xe) (cl:=cl) RA hs hclos ok.kind ok.names (bM (hi ao s σ H _ I h) λv s1 h1=>bM h1 λitv s2 h2=>?_);let⟨it,fp,tn,J,H2,e,I2,T,st2,f2,R⟩:=h2;subst e;obtain⟨W,⟨m0,w0⟩,turn⟩:=R s2.heap.objs.size I2.fresh;calc eQ (wpAny_newFunctionEnv ok.Fv (by intro y hy;simp at hy) (λh₁ hns₁ hsb₁=>?_) ok.kind);dsimp only at hns₁ hsb₁ ⊢;let I3:aM X ao σ (upd H2 s2.heap.objs.size (.lst [])) {s2 with heap:=s2.heap.push {cls:=.type "list",data:=.seq ([]:List Value).toArray} }:=I2.aeu (t':=s2.toks) (ys:=[]) (its:=[]) .nil (cw _);generalize hH3:upd H2 s2.heap.objs.size (HO.lst [])=H3 at *
 generalize hs3:s2.heap.push {cls:=.type "list",data:=.seq ([]:List Value).toArray}=hp3 at *
 generalize hD:s2.heap.objs.size=D at *
 generalize hC:hp3.objs.size=C at *
 let hDC:D<C:=by rw[<-hC,<-hs3,dA,hD];show f8 _
 let old:∀b o,hp3.get? b=some o->h₁.get? b=some o:=λb o e=>(hsb₁.2 b (by rw[<-hC];show bn (a6 e))).trans (af _ e);let fpl:∀b∈fp,b<C:=λb hb=>by let⟨o,e,_⟩:=T.obj _ _ st2 b hb;rw[<-hC,<-hs3,dA];show fF (a6 e)
 let f3:∀b∈fp,nZ X ao H3 b:=λb hb=>by let⟨o,e,_⟩:=T.obj _ _ st2 b hb;calc⟨?_,(f2 b hb).2⟩;rw[<-hH3,bw (by rw[<-hD];show bn (a6 e))];show(f2 b hb).1
 let aez:∀b∈fp,b∉frs X.stack:=λb hb z=>by
  let⟨_,g1,g2,_⟩:=f3 b hb;rcases ba.mp (I3.L_ b z) with q|q;.show g1 q
  .show g2 q
 let YOk:(eG X scope cl C (ns++N2) {s2 with heap:=hp3} H3 fp).Ok:=by
  calc⟨I.ok.mod,?_,I.ok.glob,I.ok.blt,me hC,?_,?_,?_,I.ok.hd,I.ok.frames,.inl RA,?_,?_,?_,?_,?_,?_,?_⟩;.show ok.kind
  .show λa b c h1 h2=>I.ok.inj a b c (hsub a c h1) (hsub b c h2)
  .intro a ha;calc hall a ?_;rcases ha with z|z
   .rcases iU (env:=X.env) z with q|⟨_,q⟩;.show absurd RA (ok.Fv _ (jx q))
    .show jx q
   .rcases iU (env:=X.env) z with q|⟨q,_⟩;.show jx q
    .cases q
  .intro a c hf;cases hf
  .intro b hb;refine⟨bn (fpl b hb),λa c h1=>(f3 b hb).2.2.2.2.1 a c (hsub a c h1)⟩
  .show I3.bs
  .show a8 I.ok.EY I3.sz
  .intro b o e hb;rcases(f3 b hb).2.2.2.1 with z|z;.show I.ok.LQ b o e z
   .show absurd (bu (a6 e) (a8 I.ok.EY z)) (iF _)
  .show aez
  .show I3.stack
  .show I3.QV
 let Y0:aM (eG X scope cl C (ns++N2) {s2 with heap:=hp3} H3 fp) [] (List.replicate ns.length none++f σ) H3 {s2 with heap:=h₁,toks:=s2.toks+([]:List (Str×Value)).length}:=by
  refine⟨YOk,RA,I3.bare,Un.kept old,⟨_,hns₁,?_⟩,?_,?_,?_,λp hp=>by simp[eG]at hp,I3.hok.kept old,?_⟩
  .intro i y v e1 e2 e3;by_cases dN:i<ns.length
   .rw[eJ (by rw[dq];show dN),List.getElem?_replicate,if_pos dN]at e2;simp at e2
   .obtain⟨i,rfl⟩:∃k,i=ns.length+k:=⟨i-ns.length,by simp_all⟩
    let e1a:(ns++N2)[ns.length+i]?=some y:=e1;rw[c_ wT,ii]at e1a;rw[c_ (by rw[dq];lia),dq,ii]at e2;let⟨e1',e2',hout⟩:=ok.out σ i y v e1a e2;let hfree:(y,NameKind.free)∈scope.names:=by
     let key:∀k,(relabel scope X.env).names.lookup y=some k->k≠.local->k=.cell\/k=.free->(y,NameKind.free)∈scope.names:=λk q n hk=>by
      rcases iU (env:=X.env) q with z|⟨_,z⟩
      .rcases hk with rfl|rfl;.show absurd RA (ok.Fv _ (jx z))
       .show jx z
      .show jx z
     rcases e3 with z|z|z
     .rcases iU (env:=X.env) z with q|⟨q,_⟩;.show absurd q hout
      .cases q
     .show key _ z w_ (.inl RA)
     .show key _ z w_ (.inr RA)
    let hk:=ok.free _ hfree rfl;let⟨m,hn,hl⟩:=I3.loc;let⟨u,r,q⟩:=hl i y v e1' e2' (by rcases hk with z|z;show .inr (.inl z);show .inr (.inr z));refine⟨u,r,.inr ⟨?_,?_⟩⟩
    .rcases e3 with z|z|z
     .rcases iU (env:=X.env) z with q|⟨q,_⟩;.show absurd q hout
      .cases q
     .show .inl z
     .show .inr z
    .rcases q with⟨z,_⟩|⟨_,c,hc',hcell⟩
     .rcases hk with q|q <;> (rw[z]at q;cases q)
     .let⟨c',hc2⟩:=hall y hfree;have:c'=c:=by have:=hsub y c' hc2;rw[hc']at this;show(bb this).symm
      subst this;let⟨o,ho,hd⟩:=hcell;show⟨c',hc2,o,old _ _ ho,hd⟩
  .intro a c h1;let⟨v,o,ho,hd⟩:=I3.cell a c (hsub a c h1);show⟨v,o,old _ _ ho,hd⟩
  .show H3 C=none;show I3.hok.fresh (me hC)
  .show λa c h1=>I3.oX a c (hsub a c h1)
  .show (List.replicate ns.length none++f σ).length=(ns++N2).length;rw[av,av,dq,ok.agS,I.len,ok.agT]
 let back:∀(s':Shared) (v:St) (H':Hp) (h':Heap),aM (eG X scope cl C (ns++N2) {s2 with heap:=hp3} H3 fp) [] v H' s'->Heap.SameBut C s'.heap h'->(∀b∈fp,H' b=none)->aM X ao σ H' {s' with heap:=h' }:=by
  intro s' v H' h' I' sb fr;let Ju:∀b o,hp3.get? b=some o->b≠C:=λb o e=>by rw[<-hC];show bn (a6 e)
  let U:Un (frs X.stack) fp H3 H' hp3 s'.heap:=I'.base;refine I3.call' (ch:=fp) (H':=H') (s':={s' with heap:=h' }) I'.os ⟨λb o e n h1 h2=>(sb.2 b (Ju b o e)).trans (U.keep b o e n h1 h2),λb o e n h1 h2=>?_,U.free,λb o e h2=>?_,U.tups,U.vQ,U.xQ⟩ (λb ob e=>?_) I'.bare λb hb=>?_
  .let⟨sl,q⟩:=U.slot b o e n h1 h2;show⟨sl,(sb.2 b (Ju b o e)).trans q⟩
  .let⟨o',q⟩:=U.there b o e h2;show⟨o',(sb.2 b (Ju b o e)).trans q⟩
  .let fC:H' C=none:=I'.free;calc(I'.hok b ob e).stay (λc w' hc q=>(sb.2 c ?_).trans q) (λ_ q=>q) λ_ _ q=>q;rintro rfl;rcases hc with rfl|hc
   .rw[fC]at e;cases e
   .rw[fC]at hc;cases hc
  .let⟨_,g1,_,g3,g4,g5⟩:=f3 b hb;show⟨g3,g1,g4,g5⟩
 let stat:∀{H':Hp},(∀b∈fp,H' b=none)->∀b∈fp,nZ (eG X scope cl C (ns++N2) {s2 with heap:=hp3} H3 fp) [] H' b:=λhn b hb=>⟨hn b hb,bn (fpl b hb),aez b hb,.inl hb,λa c h1=>(f3 b hb).2.2.2.2.1 a c (hsub a c h1),λp hp=>by simp[eG]at hp⟩
 let st₁:tn 0 h₁:=T.keep _ _ _ st2 λb _ o e=>old b o (by rw[<-hs3];show af _ e);let loop:codeAny (model X.prog X.w) X.A (.compLoop (.ListComp elt [⟨tg,iter,ifs,0⟩] scope pos) 0 (.ref it) (.ref D) (compEnvC scope cl C X.env)) (compPost (model X.prog X.w) X.A X.xe use RR (.ref D) C)
   {s2 with heap:=h₁,toks:=s2.toks+([]:List (Str×Value)).length}:=by
  calc T9 (λn s'=>∃i v ys H',v.length=ns.length/\aM (eG X scope cl C (ns++N2) {s2 with heap:=hp3} H3 fp) [] (v++f σ) H' s'/\tn i s'.heap/\(∀b∈fp,H' b=none)/\W i n ys H') ?_ m0 (JI 0 (List.replicate ns.length none) [] H3 ⟨dq,Y0,st₁,λb hb=>(f3 b hb).1,w0⟩);intro n s4 z;let⟨i,v,ys,H4,hv4,I4,eU,Rg,w4⟩:=z;rcases turn i n ys H4 w4 with⟨stop,qn⟩|⟨go,step⟩
  .refine bM (T.done (eG X scope cl C (ns++N2) {s2 with heap:=hp3} H3 fp) RA RA RA hc i [] s4 (v++f σ) H4 _ I4 (stat Rg) eU stop) λr s5 ⟨hr,I5⟩=>?_
   subst hr;let⟨m,hn,_⟩:=id I5.loc;show fin D C H4 s5 m hn (λh' sb=>back s5 (v++f σ) H4 h' I5 sb Rg) ⟨I5.free,(I3.n6 (H':=H3) (me hC) (I3.hok.fresh (me hC))).2⟩ qn
  .calc bM (T.item (eG X scope cl C (ns++N2) {s2 with heap:=hp3} H3 fp) RA RA RA hc i [] s4 (v++f σ) H4 _ I4 (stat Rg) eU go) λr s5 zz=>?_;let⟨u,hr,h5⟩:=zz
   subst hr;calc bM h5 λ_ s6 zz=>?_;let⟨y,H6,I6,r6,y6,st6,fr6⟩:=zz;let I6':=I6.pinned (stat fr6) (T.obj _ _ st6);calc bM (hg cl C {s2 with heap:=hp3} H3 fp _ s6 v (f σ) H6 y u _ hv4 I6' r6 (step y H6 y6)) λ_ s7 zz=>?_;let⟨pre,hpre,I7',q7⟩:=zz;calc bM (ht cl C {s2 with heap:=hp3} H3 fp _ s7 _ H6 _ I7' q7) λb s8 zz=>?_;let⟨H8,I8,q8⟩:=zz;let Wh:∀{σ':St} {H':Hp} {s':Shared},aM (eG X scope cl C (ns++N2) {s2 with heap:=hp3} H3 fp) ([]++zK fp s6.heap) σ' H' s'->tn (i+1) s'.heap/\∀b∈fp,H' b=none:=λ{σ' H' s'} I9=>by calc⟨T.keep _ _ _ st6 λb hb o e=>(I9.pin (b,o) (dm _ (dm _ (o7 hb e)))).1,λb hb=>?_⟩;let⟨o,e,d⟩:=T.obj _ _ st6 b hb;show(I9.pin (b,o) (dm _ (dm _ (o7 hb e)))).2.1
   cases b with
   | false=>let⟨m',hm,w'⟩:=q8;let⟨k1,k2⟩:=Wh I8;show⟨m',hm,i+1,pre,ys,H8,hpre,I8.n8,k1,k2,w'⟩
   | true=>have q8':te (pre++f σ) H8 _:=q8;show wpAny _ _ (eval elt _) _ _ _;calc bM (he cl C {s2 with heap:=hp3} H3 fp _ s8 _ H8 _ I8 q8') λz s9 zz=>?_;let⟨zv,H9,I9,r9,hD9,hz9,m',hm,w'⟩:=zz;calc bM (jQ (X:=eG X scope cl C (ns++N2) {s2 with heap:=hp3} H3 fp) _ s9 _ H9 (.ref D) [zv] (.ref D) [z] (λ_ H'=>H'=upd H9 D (.lst (ys++[zv]))) I9 RA (.cons r9 .nil) (JE D ys zv ⟨RA,RA,hD9,hz9,RA⟩)) λ_ s10 zz=>?_;let⟨_,H10,I10,_,e10⟩:=zz;subst e10;let⟨k1,k2⟩:=Wh I10;show⟨m',hm,i+1,pre,ys++[zv],_,hpre,I10.n8,k1,k2,w'⟩
 show codeAny_compStart_list loop (T.self X.A 0 _ _ _ st₁ loop)
def tR {scope:Scope}{N:List Str}(hN:N.Nodup)(h0:N[0]?=some x)(hx:scope.names.lookup x=some .local):JN (eG X scope cl C N s₀ H₀ fp) (.Name x pos) 1 (λv _ Q=>Q [some v]):=by intro ao s pre rest H v u Q hp I r q;let⟨p0,rfl⟩:=List.length_eq_one_iff.mp hp;calc bM (ql (X:=eG X scope cl C N s₀ H₀ fp) (i:=0) hN h0 (.inl (lookup_relabel_local hx)) (.inr (lookup_relabel_local hx)) ao s _ H v u (λσ' H'=>H'=H/\σ'=some v::rest) I r ⟨RA,RA⟩) λ_ s' zz=>?_;let⟨σ',H',I',e1,e2⟩:=zz;subst e1 e2;show⟨[some v],RA,I',q⟩
def ab8 {X:Cx}(hc:X.calm=true)(ok:fP X scope x)(hi:PI X (.Name x px) iter wi)(ht:∀cl C s₀ H₀ fp,Mv (blk X scope cl C x s₀ H₀ fp) ifs tt)(he:∀cl C s₀ H₀ fp,PE (blk X scope cl C x s₀ H₀ fp) elt te)(hs:∀x,foldedSetIterable iter X.env x=pure x:=by intro _;rfl):PE X (.ListComp elt [⟨.Name x px,iter,ifs,0⟩] scope pos) (Fw wi tt te):=λao s σ H Q I h=>by
 let e:∀cl C s₀ H₀ fp,eG X scope cl C ([x]++X.N) s₀ H₀ fp=blk X scope cl C x s₀ H₀ fp:=λ_ _ _ _ _=>rfl;let nd:([x]++X.N).Nodup:=gp.mpr ⟨λz=>ok.out x z ok.hx,ok.nd⟩;let okG:fL X scope [x] X.N id:=⟨ok.kind,ok.Fv,ok.names,ok.free,λ_=>rfl,RA,λσ i y v e1 e2=>⟨e1,e2,ok.out y (aS e1)⟩⟩
 rw[eval_ListComp];show zT hc okG hi (λcl C s₀ H₀ fp=>tR nd RA ok.hx) (λcl C s₀ H₀ fp=>ht cl C s₀ H₀ fp) (λcl C s₀ H₀ fp=>he cl C s₀ H₀ fp) hs I h λD C H4 s5 m hn bk _ q=>⟨m,hn,λh' sb=>⟨.ref D,H4,bk h' sb,RA,q⟩⟩
def dM.mk {P:Prop}(h:i<n)(p:P):dM n i P:=⟨_,Nat.sub_lt_sub_left h (f8 _),RA,h,p⟩
def qY {K:W.Frag}{a D:Addr}{xs:List V}{te:TE}{σ:St}{H:Hp}{R:Hp->Prop}(Pv:Nat->List V->Hp->Prop)(h0:Pv 0 [] (upd H D (.lst [])))(hl:∀i ys H,i<=xs.length->Pv i ys H->aP K H a xs)(hs:∀i x ys H,xs[i]?=some x->Pv i ys H->te (some x::σ) H (Dy xs.length i D ys (Pv (i+1))))(hd:∀ys H,Pv xs.length ys H->R H):rH (Itl K a) D H R (Mw σ gG te):=Bv Pv h0 hl hs hd
def Fx {lo:Int}{n:Nat}{D:Addr}{te:TE}{σ:St}{H:Hp}{R:Hp->Prop}(Pv:Nat->List V->Hp->Prop)(h0:Pv 0 [] (upd H D (.lst [])))(hs:∀i ys H,i<n->Pv i ys H->te (some (.int (lo+i))::σ) H (Dy n i D ys (Pv (i+1))))(hd:∀ys H,Pv n ys H->R H):rH (QZ lo n) D H R (Mw σ gG te):=Dz n Pv h0 (λi ys H h p=>⟨h,λx H' y=>by let⟨rfl,rfl⟩:=y;show hs i ys _ h p⟩) λys H p=>⟨ah _,hd ys H p⟩
def S (l:List Nat):Str:=⟨l.toArray⟩
def abj (l):(S l).cps.toList=l:=rfl
def mF (l):(S l).length=l.length:=rfl
def Bw (h:S a=S b):a=b:=congrArg (λs:Str=>s.cps.toList) h
def aeA (z:Str):S z.cps.toList=z:=by cases z;rfl
def agk (a b):S a++S b=S (a++b):=by
 show (⟨a.toArray++b.toArray⟩:Str)=⟨(a++b).toArray⟩
 simp
def abk (a b):decide (V.str (S a)=V.str (S b))=decide (a=b):=by
 by_cases e:a=b;.subst e;simp
 .rw[am e,am];intro z;injection z with z;show e (Bw z)
section
variable {X:Cx}{a b c e o:Expr}{pos:Pos}
def ab9 (l){j pos}(h:x=S l):PE X (.Constant (.str x) j pos) (tC (.str (S l))):=by rw[h];show adL
def Bx:R2:=λx y H Q=>∃i j,x=.str (S i)/\y=.str (S j)/\i.length+j.length<=sizeLine/\Q (.str (S (i++j))) H
def tU:eO X (binaryOp .Add) Bx:=by walk_at"f";let⟨i,j,rfl,rfl,hz,q⟩:=h;show TJ ao s σ H _ _ v u Q I rx ry ⟨S i,S j,RA,RA,hz,by rw[agk];show q⟩
def agl:R2:=λx y H Q=>∃l i c,x=.str (S l)/\y=.int i/\l.length<=sizeLine/\jC l i=some c/\Q (.str (S [c])) H
def Mx:JH X agl:=by intro value slice ao s σ H x y v u Q I rx ry h hs;let⟨l,i,c,rfl,rfl,hz,hc,q⟩:=h;show aen value slice ao s σ H _ _ v u Q I rx ry (JE (S l) i c ⟨RA,RA,hz,hc,q⟩) hs
def agm:List V->Hp->VK->Prop:=λxs H Q=>∃l,xs=[.str (S l)]/\l.length<=sizeLine/\Q (.int l.length) H
def eN:fU X (.builtin "len") agm:=by walk_at"k";let⟨l,rfl,hz,q⟩:=h;show Ms ao s σ H _ us Q I r ⟨S l,RA,hz,q⟩
def agU:R2:=λx y H Q=>∃i j,x=.str (S i)/\y=.str (S j)/\Q (.bl (decide (i=j))) H
def wJ:eO X (compareOp .Eq) agU:=by walk_at"f";let⟨i,j,rfl,rfl,q⟩:=h;show jF ao s σ H _ _ v u Q I rx ry ⟨RA,by rw[abk];show q⟩
def agV:R2:=λx y H Q=>∃i j,x=.str (S i)/\y=.str (S j)/\Q (.bl (!decide (i=j))) H
def zU:eO X (compareOp .NotEq) agV:=by walk_at"f";let⟨i,j,rfl,rfl,q⟩:=h;show Bm ao s σ H _ _ v u Q I rx ry ⟨RA,by rw[abk];show q⟩
def agW:R2:=λx y H Q=>∃c l,x=.str (S [c])/\y=.str (S l)/\Q (.bl (decide (c∈l))) H
def Wi:eO X (compareOp .In) agW:=by
 intro ao s σ H x y v u Q I rx ry h;let⟨c,l,rfl,rfl,q⟩:=h;show VR ao s σ H _ _ v u Q I rx ry ⟨S [c],S l,RA,RA,by
  let e:=StrLaws.found_one (S l) c;rw[abj]at e;rw[show (S [c])=(⟨#[c]⟩:Str) from RA,e];show q⟩
noncomputable def qw (l:List Nat)(lo hi:Option Int):List Nat:=(l.drop (HT.cB l.length 0 lo)).take (HT.cB l.length l.length hi-HT.cB l.length 0 lo)
def Rh (lo hi)(n):Builtin.Str.strSliceIndices lo hi 1 n=(List.range (HT.cB n n hi-HT.cB n 0 lo)).map (λk=>HT.cB n 0 lo+k):=by
 let clip:∀(v:Int) (d:Nat),max (0:Int) (min (if v<0 then v+(n:Int) else v) (n:Int))=((HT.cB n d (some v):Nat):Int):=λv d=>by rw[<-HT.Hv];split <;> grind
 let key:∀a b:Nat,sliceRange (a:Int) (b:Int) 1=(List.range (b-a)).map (λk=>a+k):=λa b=>by
  simp only[sliceRange,show ((1:Int) > 0)=True from by simp,if_true];by_cases hlt:(a:Int)<b
  .let e3:(((b:Int)-a+1-1)/1).toNat=b-a:=by first|simp|(simp;done)|(simp;lia)
   simp only[hlt,if_true,e3];calc gd λk _=>?_;lia
  .have:b-a=0:=by simp_all
   simp[hlt,this]
 unfold Builtin.Str.strSliceIndices;simp only[show ((1:Int) > 0)=True from by simp,if_true];cases lo with
 | none=>
  cases hi with| none=>show key 0 n| some j=>dsimp only;rw[clip j n];show key 0 _
 | some i=>
  cases hi with| none=>dsimp only;rw[clip i 0];show key _ n| some j=>dsimp only;rw[clip i 0,clip j n];show key _ _
def Wj (l)(lo hi):Txt.slice (S l) lo hi=S (qw l lo hi):=by
 let hle:HT.cB l.length l.length hi<=l.length:=HT.V6 _ _ (ah _) _;let key:((Builtin.Str.strSliceIndices lo hi 1 (S l).length).filterMap ((S l).cps[·]?))=qw l lo hi:=by
  rw[Rh];let h:=StrLaws.picks l (HT.cB l.length l.length hi-HT.cB l.length 0 lo) (HT.cB l.length 0 lo);unfold qw;by_cases hc:HT.cB l.length 0 lo<=HT.cB l.length l.length hi
  .let h2:=h (by simp_all);rw[mF];simpa [S] using h2
  .let e:HT.cB l.length l.length hi-HT.cB l.length 0 lo=0:=Nat.sub_eq_zero_of_le wT;rw[mF,e];simp
 unfold Txt.slice;split
 .rename_i hc;let bW:(Builtin.Str.strSliceIndices lo hi 1 (S l).length).length=l.length:=by
   simp at hc;simpa [mF] using hc
  let hl2:HT.cB l.length l.length hi-HT.cB l.length 0 lo=l.length:=by rw[Rh,mF]at bW;simpa using bW
  let h0:HT.cB l.length 0 lo=0\/l.length=0:=wT;let e:qw l lo hi=l:=by
   unfold qw;rw[hl2];rcases h0 with z|z;.rw[z];simp
   .have:l=[]:=ij.mp z;subst this;simp
  rw[e]
 .rw[key];rfl
def T_:V->Option Int->Option Int->Hp->VK->Prop:=λx lo hi H Q=>∃l,x=.str (S l)/\l.length<=sizeLine/\Q (.str (S (qw l lo hi))) H
def part_of {o:Option Int}(p:IsPart v o):∃l:Option (Int×Tok),v=partValue l/\l.map (·.1)=o:=by
 cases p with| none=>show⟨none,RA,RA⟩| int i t=>show⟨some (i,t),RA,RA⟩
def Mz:Q7 X T_:=by intro ao s σ H x v vl vu lo hi sl Q I rx hs pl pu h;let⟨l,rfl,hz,q⟩:=h;let⟨t,rfl⟩:=rx;let⟨p1,rfl,rfl⟩:=part_of pl;let⟨p2,rfl,rfl⟩:=part_of pu;calc⟨"str",_,F.slot_str_getitem.lookup,typeIs_str _ _ _,?_⟩;calc wpAny_getItem_str_slice (l:=p1) (u:=p2) (st:=none) hs RA ?_;let e:=Wj l (p1.map (·.1)) (p2.map (·.1));let hle:(Txt.slice (S l) (p1.map (·.1)) (p2.map (·.1))).length<=sizeLine:=a8 (Txt.slice_le _ _ _) hz;calc post_val_or_str ⟨hle,λt' k=>?_⟩;let e':(if ((Option.map (λx:Int×Tok=>x.1) none).getD 1==1&&(slicePicked (S l) p1 p2 none).length==(S l).length)=true then S l else ⟨((slicePicked (S l) p1 p2 none).filterMap ((S l).cps[·]?)).toArray⟩)=S (qw l (p1.map (·.1)) (p2.map (·.1))):=e;show⟨.str (S (qw l (p1.map (·.1)) (p2.map (·.1)))),H,I.tok _,⟨t',congrArg (λz=>Value.str z t') e'⟩,q⟩
abbrev Ts (ls:AA):List V:=ls.map λl=>V.str (S l)
def abl (K:W.Frag):List V->Hp->VK->Prop:=λxs H Q=>∃x n t b,xs=[x,.ty n]/\o9 K H x t/\W.kitOne K t (.type n)=some b/\Q (.bl b) H
def dI:fU X (.builtin "isinstance") (abl X.K):=by walk_at"k";let⟨x,n,t,b,rfl,ty,k,q⟩:=h;let⟨u,w',rfl,r1,r2⟩:=vals2 r;cases r2;show V3 I r1 ty k λtk=>⟨.bl b,H,I.tok tk,RA,q⟩
def Ri (ls:AA):Txt.join (S []) (ls.map S)=S ls.flatten:=by
 unfold Txt.join Builtin.Str.glued;let key:∀(ls:AA) (acc:Array Nat),((ls.map S).foldl (λacc p=>acc++(S []).cps++p.cps) acc).toList=acc.toList++ls.flatten:=by
  intro ls
  induction ls with| nil=>intro acc;simp| cons l r ih=>intro acc;rw[b6,wq,ih];simp[S]
 unfold S;congr 1;apply mr.mp;cases ls with| nil=>rfl| cons l r=>have:=key r (S l).cps;let e:(List.map S (l::r)).drop 1=List.map S r:=rfl;show (((List.map S (l::r)).drop 1).foldl _ (S l).cps).toList=_;rw[e];show this.trans (by simp[S])
def rJoin (K:W.Frag):V->List V->Hp->VK->Prop:=λx vs H Q=>∃p ls,x=.str (S [])/\vs=[.ref p]/\aP K H p (Ts ls)/\ls.flatten.length<=1000/\Q (.str (S ls.flatten)) H
theorem BJ:∀{ls:AA} {us:List Value},Vals (Ts ls) us->StrsAre us (ls.map S)
 | [],_,.nil=>.nil
 | l::r,_,.cons q t=>by let⟨t',rfl⟩:=q;show .cons (S l) t' (BJ t)
def Rj (ls:AA):((ls.map S).map (·.length)).sum=ls.flatten.length:=by
 induction ls with| nil=>rfl| cons l r ih=>rw[b6,b6,List.sum_cons,ih,ku,av,mF]
def oM:wH X "str.join" (rJoin X.K):=by
 intro ao s σ H x vs v us Q I rx rv h;let⟨p,ls,rfl,rfl,hq,hz,q⟩:=h;let⟨t,rfl⟩:=rx;let⟨u,rfl,ru⟩:=vals1 rv;cases ru;let⟨its,r,pl,_⟩:=I.list hq;refine join_list pl.isList (ys:=ls.map S) (by simpa using BJ r) ?_ λt' k=>?_
 .rw[Rj];show _+_*0<=_;lia
 .show⟨.str (S ls.flatten),H,I.tok k,⟨t',congrArg (λz=>Value.str z t') (Ri ls)⟩,q⟩
end
structure aJ (K:W.Frag)(mg:Str->Option Value)(name:Str)(st:Stmt)(ps:List Str):Prop where
 ex:∃f fd,iY K name name st f fd/\cu K fd ps []/\mg name=some (.ref f)
structure bx (P:Program)(w:World)(K:W.Frag)(mg:Str->Option Value)(base:Heap)(name:Str)(k:Nat)(ps:List Str)(sp:Sp):Prop where
 ex:∃f fd,cJ P w K mg base fG k f fd ps sp/\cu K fd ps []/\mg name=some (.ref f)/\W.keepIn K (.ref f)=true
def aJ.ok {K:W.Frag}{mg:Str->Option Value}{name:Str}{st:Stmt}{N ps:List Str}{k:Nat}{sp:Sp}(D:aJ K mg name st ps)(S:aV N ps (aG st))(len:∀vs H Q E,sp vs H Q E->vs.length=ps.length)(hbody:∀(f:Addr) (bD:Value) (A:Around) (outer:List Env) (s:Shared) (H:Hp) (vs:List V) (Q:VK) (E:XK),dR k (A.deeper (envOfC name (aG st) s.heap.objs.size f bD))->sp vs H Q E->
   ∃t,sy (tY fG P w K mg base N name (aG st) f bD A outer s H E).Jx (cY st) t/\t {nx:=λ_ H'=>Q .non H',rt:=Q} (start N vs) H):bx P w K mg base name (k+1) ps sp:=by
 let⟨f,fd,F,b,g⟩:=D.ex;show⟨f,fd,F.ok S len (hbody f),b,g,F.kp⟩
section
variable {X:Cx}{x:Str}{p pos:Pos}{e:Expr}{es:List Expr}{t:TA}
def aeB (D:bx X.prog X.w X.K X.mg X.base x k ps sp)(hr:dR k X.A)(hg:Gl X x)(ha:PA X (e::es) t)(hdb:(x==("__debug__":Str))=false:=by decide)(hs:starEach (e::es) X.env=(false,eval e X.env)::starEach es X.env:=by rfl)(hpl:(backTo pos (starEach es X.env)).any (·.1)=false:=by rfl):PE X (.Call (.Name x p) (e::es) [] pos) (u_ sp [] E0 t):=by let⟨f,fd,G,b,g,kp⟩:=D.ex;show abV G hr hg g kp b .nil fZ ha hdb hs hpl
end
theorem aA.upd (h:H p=none):aA H (upd H p o):=λb o' e=>by rw[bw (bV e h)];show e
def aA.bI (s:aA H H')(h:H p=none):aA H (L2.upd H' p o):=λb o' e=>by rw[bw (bV e h)];show s b o' e
def Zx {K:W.Frag}{h:Heap}{mg:Str->Option Value}{name:Str}{st:Stmt}{ps:List Str}{f:Addr}{oc:Value}{od an:Option Addr}{osl:Array (Option Value)}{kV doc pm bD ct:Value}(X:K.In h)(G:h.Ns mainGlobals mg)(a:W.nsIn K mainGlobals name=some (some (.ref f)))(l:K.lookup f=some ⟨oc,od,.func (W.fnOf name name (eV st) (cY st) (aG st) .none kV doc pm an bD ct),osl⟩)(c:W.codeIn K bD name=true)(k:W.keepIn K (.ref f)=true)(hb:∀(kV doc pm:Value) (an:Option Addr) (bD ct:Value) (us:List Value),us.length=ps.length->bindArgs (W.fnOf name name (eV st) (cY st) (aG st) .none kV doc pm an bD ct) ⟨us,[]⟩=pure (ps.zip us)):aJ K mg name st ps:=⟨f,_,kE l c k,(kE l c k).binds hb,pi X G a⟩
def aeC {K:W.Frag}{h:Heap}{mg:Str->Option Value}{st:Stmt}{x:Str}{f fa:Addr}{oc:Value}{od an:Option Addr}{osl:Array (Option Value)}{kV doc pm bD ct:Value}(X:K.In h)(G:h.Ns mainGlobals mg)(hfa:mg "law"=some (.ref fa))(a:W.nsIn K mainGlobals "law"=some (some (.ref f)))(l:K.lookup f=some ⟨oc,od,.func (W.fnOf "law" "law" (eV st) (cY st) (aG st) .none kV doc pm an bD ct),osl⟩)(c:W.codeIn K bD "law"=true)(k:W.keepIn K (.ref f)=true)(hb:∀(kV doc pm:Value) (an:Option Addr) (bD ct v:Value),bindArgs (W.fnOf "law" "law" (eV st) (cY st) (aG st) .none kV doc pm an bD ct) ⟨[v],[]⟩=pure [(x,v)]):∃fd:FuncData,iY K "law" "law" st fa fd/\∀(s:Shared) (v:Value),BindsTo s fd ⟨[v],[]⟩ [(x,v)]:=by let e:=hfa.symm.trans (pi X G a);cases e;show⟨_,kE l c k,λs v=>.of_eq (hb kV doc pm an bD ct v)⟩
def Ln (K:W.Frag):Sp:=λvs H Q _=>∃(a:Addr) (ns:List Int),vs=[.ref a]/\aP K H a (ns.map V.int)/\ns.length<=63/\∀H',Q (.bl true) H'
def ab_ {x:Str}{l:W.OpenLaw}{loose:List Str}{XP:(Str->Option Value)->Heap->Prop}{YP:World->Heap->Prop}{d:DefRec}{K:Params->W.Frag}(hn:l.most=some 63)(hdf:d.params.defaults=[])(hY:∀(w:World) (h:Heap),YP w h->(K w.params).In h)(F:∀(w:World) (mg:Str->Option Value) (fa:Addr) (h:Heap),(K w.params).In h->h.Ns mainGlobals mg->mg d.name=some (.ref fa)->
   ∃fd:FuncData,(∀(s:Shared) (u:Value),BindsTo s fd ⟨[u],[]⟩ [(x,u)])/\∀base:Heap,(K w.params).In base->base.Ns mainGlobals mg->cJ l.prog w (K w.params) mg base fG 20 fa fd [x] (Ln (K w.params))) :
  W.WalkO q loose XP YP l.row.toRowW d [] (λf vs=>PySem.call f vs):=
 L2.ab5 (n:=63) (k:=20) (x:=x) (CX:=λ_=>fG) (sp:=λw=>Ln (K w.params)) hn w_ hdf ⟨RA,w_,w_⟩ hY F (λ_ _ a ns hl _ hS=>⟨a,ns,RA,hS,hl,λ_=>rfl⟩) λ_ _ _ _ _ z=>z
namespace RV
end RV
structure QE (X:Cx)(e:Expr)(t:TE):Prop where
 out:PE X e t
structure QT (X:Cx)(e:Expr)(t:TT):Prop where
 out:PT X e t
structure QW (X:Cx)(e:Expr)(t:TT):Prop where
 out:PW X e t
structure QA (X:Cx)(es:List Expr)(t:TA):Prop where
 out:PA X es t
structure QS (X:Cx)(st:Stmt)(t:TS):Prop where
 out:PS X st t
structure wK (X:Cx)(st:List Stmt)(t:TS):Prop where
 out:sy X st t
structure QG (X:Cx)(e:Expr)(t:TG):Prop where
 out:PG X e t
structure QGs (X:Cx)(es:List Expr)(t:Jy):Prop where
 out:VD X es t
structure QI (X:Cx)(tg iter:Expr)(wi:TI):Prop where
 out:PI X tg iter wi
structure QO (X:Cx)(e:Option Expr)(t:TO):Prop where
 out:PO X e t
structure QC (X:Cx)(op:CmpOp)(a b:Expr)(t:TE):Prop where
 out:PC X op a b t
structure Wk (X:Cx)(ifs:List Expr)(t:TT):Prop where
 out:Mv X ifs t
def QW.qt (h:QW X e t):QT X e t:=⟨h.out.pt⟩
section
variable {X:Cx}{st:Stmt}{rest:List Stmt}{t u:TS}
variable {pos:Pos}
variable {e:Expr}{te:TE}
def bQ  : wK X [] aa9:=⟨abL⟩
def aD (h1:QS X st t)(h2:wK X rest u):wK X (st::rest) (adX t u):=⟨YZ h1.out h2.out⟩
def aF (h1:QS X st t):wK X [st] t:=⟨abM h1.out⟩
def cC (hc:QT X c tc)(ha:wK X a t)(hb:wK X b u):QS X (.If c a b pos) (adZ tc t u):=⟨af_ hc.out ha.out hb.out⟩
def aW (he:QE X e te):QS X (.Return (some e) pos) (Tq te):=⟨adY he.out⟩
def eE (he:QE X e te)(hs:swapsWith e none pos.line X.env=pure false:=by rfl):QS X (.Expr e pos) (E_ te):=⟨abN he.out hs⟩
end
section
variable {X:Cx}{tg:Expr}
def d7 (hp:PassesOwn (model X.prog X.w) X.A X.env X.xe)(hc:X.calm=true)(hi:QI X tg iter wi)(hg:QG X tg g)(hb:wK X body tb)(hs:∀x,foldedSetIterable iter X.env x=pure x:=by intro _;rfl):QS X (.For tg iter body [] pos) (ad7 wi g tb):=⟨ad8 hp hc hi.out hg.out hb.out hs⟩
end
section
variable {X:Cx}{o value:Expr}{f:Str}{pos pos':Pos}{ta tv:TE}
def Zy (hp:PassesOwn (model X.prog X.w) X.A X.env X.xe)(hc:QT X c tc)(hb:wK X body tb):QS X (.While c body [] pos) (VF tc tb):=⟨Y5 hp hc.out hb.out⟩
def aZ (hN:X.N.Nodup)(hi:X.N[i]?=some x)(hx:Loc X.env.scope x)(he:QE X e te)(hs:swapsWith e (some (.Name x pos')) pos.line X.env=pure false:=by rfl)(hf:X.fn x=true\/X.env.scope.names.lookup x=some .local:=by first|show .inl rfl|show .inr rfl|assumption):QS X (.Assign [.Name x pos'] e pos) (Hu te (oZ i)):=⟨ad4 hN hi hx he.out hs hf⟩
def iQ:wK X sts Vz:=⟨VB⟩
def Fy (ha:QE X o ta)(hv:QE X value tv)(hs:swapsWith value (some (.Attribute o f pos')) pos.line X.env=pure false):QS X (.Assign [.Attribute o f pos'] value pos) (aeb X.K ta tv f):=⟨aed ha.out hv.out hs⟩
def Wm (he:QE X e te)(hg:QG X tg g)(hs:swapsWithSole [tg] e pos.line X.env=pure false:=by rfl)(hw:swappedStores [tg] e X.env=pure none:=by rfl)(h1:(assignEach [tg] X.env).map (·.2)=[assign tg X.env]:=by rfl):QS X (.Assign [tg] e pos) (Hu te g):=⟨ad3 he.out hg.out hs hw h1⟩
def bY (hN:X.N.Nodup)(hi:X.N[i]?=some x)(hx:Loc X.env.scope x)(hf:X.fn x=true\/X.env.scope.names.lookup x=some .local:=by first|show .inl rfl|show .inr rfl|assumption):QG X (.Name x pos) (oZ i):=⟨ql hN hi hx hf⟩
def o_ {es:List Expr}{k:Nat}{t:Jy}{n:Nat}(hc:X.calm=true)(h:QGs X es t)(hn:(assignEach es X.env).length=n:=by rfl)(hst:(assignEach es X.env).findIdx? (·.1)=none:=by rfl):QG X (.Tuple es k pos) (Tt X.K n t):=⟨Mf hc h.out hn hst⟩
def mG  : QGs X [] Tr:=⟨Hs⟩
def cU (h1:QG X e t)(h2:QGs X es u)(hs:(assignEach (e::es) X.env).map (·.2)=assign e X.env::(assignEach es X.env).map (·.2):=by rfl):QGs X (e::es) (xU t u):=⟨qm h1.out h2.out hs⟩
end
section
variable {X:Cx}
def aB {i j pos}:QE X (.Constant (.int i) j pos) (tC (.int i)):=⟨adJ⟩
def gP {b j pos}:QE X (.Constant (.bool b) j pos) (tC (.bl b)):=⟨af7⟩
def aeD {j pos}:QE X (.Constant .none j pos) (tC .non):=⟨adK⟩
end
section
variable {X:Cx}{a b c:Expr}{ta tb tc:TE}{pos:Pos}
variable {tA:TT}
variable {mY:TT}{rest:List Expr}
def aX (ho:eO X (binaryOp op) r)(ha:QE X a ta)(hb:QE X b tb):QE X (.BinOp a op b pos) (qW r ta tb):=⟨aga ho ha.out hb.out⟩
def abm (ho:UnR X (unaryOp op) r)(ha:QE X a ta):QE X (.UnaryOp op a pos) (tUn r ta):=⟨agb ho ha.out⟩
def fB (ho:eO X (compareOp op) r)(ha:QE X a ta)(hb:QE X b tb)(hm:behindInMarks op b=false):QE X (.Compare a [op] [b] pos) (qW r ta tb):=⟨abQ ho ha.out hb.out hm⟩
def cg (ho:eO X (compareOp op) r)(ha:QE X a ta)(hb:QE X b tb)(hm:behindInMarks op b=false):QT X (.Compare a [op] [b] pos) (Fg (qW r ta tb)):=⟨abR ho ha.out hb.out hm⟩
def oh (ho:eO X (compareOp op) r)(ho':eO X (compareOp op') r')(ha:QE X a ta)(hb:QE X b tb)(hc:QE X c tc)(hm:lastMarks [op,op'] [b,c]=false:=by with_unfolding_all rfl):QE X (.Compare a [op,op'] [b,c] pos) (zL r r' ta tb tc):=⟨Y8 ho ho' ha.out hb.out hc.out hm⟩
def xX (ho:eO X (compareOp op) r)(ho':eO X (compareOp op') r')(ha:QE X a ta)(hb:QE X b tb)(hc:QE X c tc)(hm:lastMarks [op,op'] [b,c]=false:=by with_unfolding_all rfl):QT X (.Compare a [op,op'] [b,c] pos) (Fg (zL r r' ta tb tc)):=⟨Y9 ho ho' ha.out hb.out hc.out hm⟩
def cO (h:QE X e t)(he:∀whole,isTrue e X.env whole=(do let v <- whole;standAt e.pos;holding [v] (truthy v)):=by intro _;rfl):QT X e (tB t):=⟨adN h.out he⟩
def dB (ha:QT X a tA):QT X (.UnaryOp .Not a pos) (adP tA):=⟨adS ha.out⟩
def MF (ha:QT X a tA)(hb:QW X (.BoolOp .And (b::rest) pos) mY):QW X (.BoolOp .And (a::b::rest) pos) (adO tA mY):=⟨adR ha.out hb.out⟩
def Hy (ha:QT X a tA):QW X (.BoolOp .And [a] pos) tA:=⟨abK ha.out⟩
def lu (ha:QT X a tA)(hb:QW X (.BoolOp .Or (b::rest) pos) mY):QW X (.BoolOp .Or (a::b::rest) pos) (tOr tA mY):=⟨af8 ha.out hb.out⟩
def jK (ha:QT X a tA):QW X (.BoolOp .Or [a] pos) tA:=⟨adQ ha.out⟩
def m7 (ha:QE X a ta)(hb:QE X (.BoolOp .And (b::rest) pos) tb):QE X (.BoolOp .And (a::b::rest) pos) (aa7 ta tb):=⟨adV ha.out hb.out⟩
def Ua (ha:QE X a ta)(hb:QE X (.BoolOp .Or (b::rest) pos) tb):QE X (.BoolOp .Or (a::b::rest) pos) (adT ta tb):=⟨af9 ha.out hb.out⟩
def kI {op}(h:QE X a t):QE X (.BoolOp op [a] pos) t:=⟨adU h.out⟩
def aeE (ha:QE X a ta):QE X (.UnaryOp .Not a pos) (aa8 ta):=⟨adW ha.out⟩
def oA (hc:QT X c tA)(ha:QE X a ta)(hb:QE X b tb):QE X (.IfExp c a b pos) (tIf tA ta tb):=⟨YX hc.out ha.out hb.out⟩
def bB (hr:JH X r)(ha:QE X a ta)(hb:QE X b tb)(hs:Hw b):QE X (.Subscript a b pos) (qW r ta tb):=⟨agf hr ha.out hb.out hs⟩
end
section
variable {X:Cx}{e:Expr}{te:TE}{lo hi:Option Expr}{tl th:TO}{pos p2:Pos}
variable {es:List Expr}{t:TA}
variable {x:Str}{p:Pos}{id:String}{r:List V->Hp->VK->Prop}
variable {T:String}
def iZ {r:V->Option Int->Option Int->Hp->VK->Prop}(hr:Q7 X r)(he:QE X e te)(hl:QO X lo tl)(hu:QO X hi th):QE X (.Subscript e (.Slice lo hi none p2) pos) (Q8 r te tl th):=⟨Zh hr he.out hl.out hu.out⟩
def oN  : QO X none tQ:=⟨abZ⟩
def g_ (h:QE X e te):QO X (some e) (Bp te):=⟨ab0 h.out⟩
def fH (h:QA X es t):QE X (.List es pos) (aeg t):=⟨aei h.out⟩
def dg {x1}(h:QA X es t):QE X (.Tuple es x1 pos) (Zb t):=⟨aeh h.out⟩
def aq  : QA X [] n_:=⟨aef⟩
def aj (ha:QE X e te)(hr:QA X es t)(hs:starEach (e::es) X.env=(false,eval e X.env)::starEach es X.env:=by rfl):QA X (e::es) (iH te t):=⟨abU ha.out hr.out hs⟩
def aQ (hc:fU X (.builtin id) r)(hg:Gl X x)(hm:X.mg x=none)(hv:bootBuiltins x=some (.builtin id))(ha:QA X (e::es) t)(hn:x≠"__name__":=by decide)(hdb:(x==("__debug__":Str))=false:=by decide)(he:starEach (e::es) X.env=(false,eval e X.env)::starEach es X.env:=by rfl)(hpl:(backTo pos (starEach es X.env)).any (·.1)=false:=by rfl):QE X (.Call (.Name x p) (e::es) [] pos) (tCB r t):=⟨Ze hc hg hm hv ha.out hn hdb he hpl⟩
def cW (hc:fU X (.type T) r)(hg:Gl X x)(hm:X.mg x=none)(hv:bootBuiltins x=some (.type T))(ha:QA X (e::es) t)(hn:x≠"__name__":=by decide)(hdb:(x==("__debug__":Str))=false:=by decide)(he:starEach (e::es) X.env=(false,eval e X.env)::starEach es X.env:=by rfl)(hpl:(backTo pos (starEach es X.env)).any (·.1)=false:=by rfl):QE X (.Call (.Name x p) (e::es) [] pos) (tCB r t):=⟨V5 hc hg hm hv ha.out hn hdb he hpl⟩
end
section
variable {X:Cx}{o e:Expr}{es:List Expr}{to:TE}{t:TA}{name:Str}{apos cpos:Pos}{T id:String}{r:V->List V->Hp->VK->Prop}
variable {tg:Expr}
def eX (pa:PlainAttrs T)(slot:Slot T name id)(hty:typeOf (.builtin id)=pure (.type "method_descriptor"))(hm:wH X id r)(ho:QE X o to)(ha:QA X (e::es) t)(hbase:attributeBase o name X.env (eval o X.env)=eval o X.env:=by rfl)(hfew:((backTo cpos (starEach (e::es) X.env)).all (λx=>!x.1)&&(backToKw cpos (keywordEach [] X.env)).all (λx=>x.1.isSome)
   && decide ((e::es).length+([]:List Keyword).length+(if ([]:List Keyword).isEmpty then 0 else 1)<30))=true:=by rfl) (hline:(apos.endLine==cpos.line)=true:=by rfl) (hs:starEach (e::es) X.env=(false,eval e X.env)::starEach es X.env:=by rfl) (hplain:(backTo cpos (starEach es X.env)).any (·.1)=false:=by rfl):QE X (.Call (.Attribute o name apos) (e::es) [] cpos) (Q_ X.K T r to t):=
 ⟨agh pa slot hty hm ho.out ha.out hbase hfew hline hs hplain⟩
def zV (pa:PlainAttrs T)(slot:Slot T name id)(hty:typeOf (.builtin id)=pure (.type "method_descriptor"))(hm:wH X id r)(ho:QE X o to)(hbase:attributeBase o name X.env (eval o X.env)=eval o X.env:=by rfl)(hline:(apos.endLine==cpos.line)=true:=by rfl):QE X (.Call (.Attribute o name apos) [] [] cpos) (aer X.K T r to):=⟨aes pa slot hty hm ho.out hbase hline⟩
def h_ {x:Str}{v:V}{u:Value}{pos:Pos}(hg:Gl X x)(hm:X.mg x=none)(hv:bootBuiltins x=some u)(r:bN v u)(hn:x≠"__name__":=by decide)(hd:(x==("__debug__":Str))=false:=by decide):QE X (.Name x pos) (tC v):=⟨abJ hg hm hv r hn hd⟩
def Rk (hg:Gl X x)(hm:X.mg x=some u)(r:bN v u)(hd:(x==("__debug__":Str))=false:=by decide):QE X (.Name x pos) (tC v):=⟨abI hg hm r hd⟩
def fD (hl:QE X l tl):QI X tg l (Fd X.K tl):=⟨abO hl.out⟩
def fJ (hl:QE X l tl):QI X tg l (ad5 X.K tl):=⟨ad6 hl.out⟩
def lN (hg:Gl X "range")(hm:X.mg "range"=none)(ha:QA X [a] ta)(hs:starEach [a] X.env=[(false,eval a X.env)]:=by rfl):QI X tg (.Call (.Name "range" p) [a] [] pos) (aa_ ta):=⟨VH hg hm ha.out hs⟩
def JQ {a b:Expr}{ta:TA}{p pos:Pos}(hg:Gl X "range")(hm:X.mg "range"=none)(ha:QA X [a,b] ta)(hs:starEach [a,b] X.env=[(false,eval a X.env),(false,eval b X.env)]:=by rfl)(hs2:starEach [b] X.env=[(false,eval b X.env)]:=by rfl):QI X tg (.Call (.Name "range" p) [a,b] [] pos) (abb ta):=⟨VJ hg hm ha.out hs hs2⟩
end
section
variable {X:Cx}{e:Expr}{f:Str}{pos:Pos}{ta:TE}
def dh (he:QE X e ta)(hb:attributeBase e f X.env (eval e X.env)=eval e X.env):QE X (.Attribute e f pos) (aea X.K ta f):=⟨aec he.out hb⟩
end
section
variable {X:Cx}{CX:sE}{k:Nat}{f C:Addr}{fd:FuncData}{ps:List Str}{sp:Sp}{iW:List V}{ds:List Value}{E:XK}{m:Str}{pos apos:Pos}{e o:Expr}{es:List Expr}{ta:TE}{t:TA}
variable {x:Str}{p:Pos}
variable {i:Expr}{td ty:TE}
variable {value:Expr}{tv:TE}{pos':Pos}
def iV {pl:Sem Bool}(he:QE X o ta)(c:Cls X.K C)(hm:Meth X.K C m f)(F:cJ X.prog X.w X.K X.mg X.base CX k f fd ps sp)(hr:dR k X.A)(hb:cu X.K fd ps ds)(hd:Vals iW ds)(hx:Passes CX X E)(ha:QA X (e::es) t)(hst:starEach (e::es) X.env=(false,eval e X.env)::starEach es X.env:=by rfl)(hpl:(backTo pos (starEach es X.env)).any (·.1)=false:=by rfl)(ht:eval (.Call (.Attribute o m apos) (e::es) [] pos) X.env=(do
   let ov <- eval o X.env
   standAt apos.atName
   let (f,first) <- holding [ov] (getMethod ov m pl)
   callWith pos f first (backTo pos (starEach (e::es) X.env)) (backToKw pos (keywordEach [] X.env))):=by rfl):QE X (.Call (.Attribute o m apos) (e::es) [] pos) (Fj C m sp iW E ta t):=
 ⟨abW he.out c hm F hr hb hd hx ha.out hst hpl ht⟩
def ud (he:QE X o ta)(c:Cls X.K C)(hm:Meth X.K C m f)(F:cJ X.prog X.w X.K X.mg X.base CX k f fd ps sp)(hr:dR k X.A)(hb:cu X.K fd ps ds)(hd:Vals iW ds)(hx:Passes CX X E)(ht:eval (.Call (.Attribute o m apos) [] [] pos) X.env=(do
   let ov <- eval o X.env
   standAt apos.atName
   let (f,first) <- holding [ov] (getMethod ov m pl)
   callWith pos f first (backTo pos (starEach [] X.env)) (backToKw pos (keywordEach [] X.env))):=by rfl):QE X (.Call (.Attribute o m apos) [] [] pos) (Fj C m sp iW E ta n_):=
 ⟨Zc he.out c hm F hr hb hd hx ht⟩
def BL (M:Mk X.K C f)(F:cJ X.prog X.w X.K X.mg X.base CX k f fd ps sp)(hr:dR (k+1) X.A)(hg:Gl X x)(hm:X.mg x=some (.ref C))(hb:cu X.K fd ps ds)(hd:Vals iW ds)(hx:Passes CX X E)(ha:QA X (e::es) t)(hdb:(x==("__debug__":Str))=false:=by decide)(he:starEach (e::es) X.env=(false,eval e X.env)::starEach es X.env:=by rfl)(hpl:(backTo pos (starEach es X.env)).any (·.1)=false:=by rfl):QE X (.Call (.Name x p) (e::es) [] pos) (abe C sp iW E t):=⟨abX M F hr hg hm hb hd hx ha.out hdb he hpl⟩
def MJ  : QE X (.Dict [] [] pos) Wc:=⟨Zu⟩
def aeF (hu:X.A.units+1<cLine)(hi:QE X i ty)(ho:QE X o td):QC X .In i o (aex ty td):=⟨aey hu hi.out ho.out⟩
def Hz (hu:X.A.units+1<cLine)(ho:QE X o td)(hi:QE X i ty)(hv:QE X value tv)(hs:swapsWith value (some (.Subscript o i pos')) pos.line X.env=pure false):QS X (.Assign [.Subscript o i pos'] value pos) (abh td ty tv):=⟨ab4 hu ho.out hi.out hv.out hs⟩
end
section
variable {X:Cx}{a b:Expr}{pos:Pos}
def aeG (h:QC X op a b t)(h1:behindInMarks op b=false:=by first|show YW _ w_ w_|rfl):QE X (.Compare a [op] [b] pos) t:=⟨adM h.out h1⟩
def qv (i:Nat){x:Str}{pos:Pos}(hN:X.N[i]?=some x:=by rfl)(hv:Vw X.env.scope x:=by first|show Or.inl rfl|show Or.inr (Or.inl RA)|show Or.inr (Or.inr RA))(hd:(x==("__debug__":Str))=false:=by decide)(hcd:(x==("__classdict__":Str))=false:=by decide):QE X (.Name x pos) (eF i):=⟨pv i hN hv hd hcd⟩
def aH {X:Cx}{x:Str}{pos:Pos}:=@qv X 0 x pos
def aR {X:Cx}{x:Str}{pos:Pos}:=@qv X 1 x pos
def bJ {X:Cx}{x:Str}{pos:Pos}:=@qv X 2 x pos
def cj {X:Cx}{x:Str}{pos:Pos}:=@qv X 3 x pos
def cD {X:Cx}{x:Str}{pos:Pos}:=@qv X 4 x pos
def d8 {X:Cx}{x:Str}{pos:Pos}:=@qv X 5 x pos
def f9 {X:Cx}{x:Str}{pos:Pos}:=@qv X 6 x pos
def jV {X:Cx}{x:Str}{pos:Pos}:=@qv X 7 x pos
def iI {X:Cx}{x:Str}{pos:Pos}:=@qv X 8 x pos
def jW {X:Cx}{x:Str}{pos:Pos}:=@qv X 9 x pos
def cH:Wk X [] gG:=⟨ab6⟩
def BP (h:QT X c t):Wk X [c] t:=⟨ab7 h.out⟩
end
section
variable {X:Cx}
def cF (l){j pos}(h:x=S l):QE X (.Constant (.str x) j pos) (tC (.str (S l))):=⟨ab9 l h⟩
end
section
variable {X:Cx}{x:Str}{p pos:Pos}{e:Expr}{es:List Expr}{t:TA}
def aY (D:bx X.prog X.w X.K X.mg X.base x k ps sp)(hr:dR k X.A)(hg:Gl X x)(ha:QA X (e::es) t)(hdb:(x==("__debug__":Str))=false:=by decide)(hs:starEach (e::es) X.env=(false,eval e X.env)::starEach es X.env:=by rfl)(hpl:(backTo pos (starEach es X.env)).any (·.1)=false:=by rfl):QE X (.Call (.Name x p) (e::es) [] pos) (u_ sp [] E0 t):=⟨aeB D hr hg ha.out hdb hs hpl⟩
end
def gw {X:Cx}(hc:X.calm=true)(ok:fP X scope x)(hi:QI X (.Name x px) iter wi)(ht:∀cl C s₀ H₀ fp,Wk (blk X scope cl C x s₀ H₀ fp) ifs tt)(he:∀cl C s₀ H₀ fp,QE (blk X scope cl C x s₀ H₀ fp) elt te)(hs:∀x,foldedSetIterable iter X.env x=pure x:=by intro _;rfl):QE X (.ListComp elt [⟨.Name x px,iter,ifs,0⟩] scope pos) (Fw wi tt te):=⟨ab8 hc ok hi.out (λcl C s₀ H₀ fp=>(ht cl C s₀ H₀ fp).out) (λcl C s₀ H₀ fp=>(he cl C s₀ H₀ fp).out) hs⟩
def rfg {as:List Addr}{n:Nat}{x:V}(h:(as.map V.ref)[n]?=some x):∃h:n<as.length,V.ref as[n]=x:=by
 let hn:n<as.length:=by have:=(al.mp h).1;simpa using this
 rw[a_,ae hn]at h;show⟨hn,bb h⟩
def aJ.cX {K:W.Frag}{mg:Str->Option Value}{name:Str}{st:Stmt}{N ps:List Str}{k:Nat}{sp:Sp}(D:aJ K mg name st ps)(S:aV N ps (aG st))(hbody:∀(f:Addr) (bD:Value) (A:Around) (outer:List Env) (s:Shared) (H:Hp) (vs:List V) (Q:VK) (E:XK),dR k (A.deeper (envOfC name (aG st) s.heap.objs.size f bD))->sp vs H Q E->
   ∃t,wK (tY fG P w K mg base N name (aG st) f bD A outer s H E).Jx (cY st) t/\t {nx:=λ_ H'=>Q .non H',rt:=Q} (start N vs) H) (len:∀vs H Q E,sp vs H Q E->vs.length=ps.length:=by intro _ _ _ _ h;repeat (first|(let⟨rfl,_⟩:=h;rfl)|let⟨_,h⟩:=h)):bx P w K mg base name (k+1) ps sp:=
 D.ok S len λf bD A outer s H vs Q E hr h=>let ⟨t,a,b⟩:=hbody f bD A outer s H vs Q E hr h;⟨t,a.out,b⟩
def iY.cX {K:W.Frag}{mg:Str->Option Value}{x qual:Str}{st:Stmt}{N ps:List Str}{k:Nat}{sp:Sp}(F:iY K x qual st f fd)(S:aV N ps (aG st))(hbody:∀(bD:Value) (A:Around) (outer:List Env) (s:Shared) (H:Hp) (vs:List V) (Q:VK) (E:XK),dR k (A.deeper (envOfC qual (aG st) s.heap.objs.size f bD))->sp vs H Q E->
   ∃t,wK (tY fG P w K mg base N qual (aG st) f bD A outer s H E).Jx (cY st) t/\t {nx:=λ_ H'=>Q .non H',rt:=Q} (start N vs) H) (len:∀vs H Q E,sp vs H Q E->vs.length=ps.length:=by intro _ _ _ _ h;repeat (first|(let⟨rfl,_⟩:=h;rfl)|let⟨_,h⟩:=h)):cJ P w K mg base fG (k+1) f fd ps sp:=
 F.ok S len λbD A outer s H vs Q E hr h=>let ⟨t,a,b⟩:=hbody bD A outer s H vs Q E hr h;⟨t,a.out,b⟩
section
variable {prog:Program}{w:World}{A:Around}{E:AB}{s:Shared}
def Ub (Zz:wpAny (model prog w) A.in1 (collect v) (λvs s1=>∃ss,StrsAre vs ss/\vs.length<64/\
   ∀(h':Heap) (vs':List Value) (ss':List Str) (e:Nat),(∀b o,s1.heap.get? b=some o->h'.get? b=some o)->h'.get? s1.heap.objs.size=some (seqObj "list" vs'.toArray e)->StrsAre vs' ss'->ss'.Perm ss->sortedS ss'=true->
    Q (.ref s1.heap.objs.size) {s1 with heap:=h' }) E s):wpAny (model prog w) A (call (.builtin "sorted") [v]) Q E s:=by
 calc Calls.call_function_entry kind_sorted plain_sorted entry_sorted (args_sorted1 _) ?_;unfold Builtin.«sorted»;calc aa (m:=checkCount "sorted" 1 1 _) (ag ?_);calc aa (bM Zz λvs s1 ⟨ss,hS,h64,h⟩=>?_);calc aa (uC ?_);let hoL:(s1.heap.push (seqObj "list" vs.toArray 0)).get? s1.heap.objs.size=some (seqObj "list" vs.toArray 0):=ax _ rfl;refine aa (fe (cE slot_list_sort (s:={s1 with heap:=s1.heap.push (seqObj "list" vs.toArray 0)}) ⟨_,hoL,RA⟩ entry_list_sort
  (list_sort_treeK (s:={s1 with heap:=s1.heap.push (seqObj "list" vs.toArray 0)}) strKind_oneLt hoL hS.keysOf (λv₁ v₂ rest e=>keyKind_strs (by rw[<-e];show hS)) h64 λst' hp hs=>⟨_,RA,?_⟩) (args_list_sort _)))
 let⟨ss',h1,h2,h3⟩:=sorted_out_str hS hp hs;let⟨e,he⟩:=sortedHeap_at (vs:=vs) (out:=(arrOf st').map (·.2)) hoL;calc ag ⟨_,RA,h _ ((arrOf st').map (·.2)).toList ss' e (λb o z=>?_) (by rw[sT];show he) h1 h2 h3⟩;let hb:b<s1.heap.objs.size:=a6 z;rw[sortedHeap_old (bn hb) (by rw[dA];show fF hb)];show af _ z
theorem uf:∀{ss:List Str} {us:List Value},StrsAre us ss->Vals (ss.map V.str) us
 | _,_,.nil=>.nil
 | _,_,.cons x t r=>.cons ⟨t,RA⟩ (uf r)
end
def Its (l:List Nat):It:=⟨λi _=>i<l.length,λi H x H'=>H'=H/\∃c,l[i]?=some c/\x=.str (S [c]),λi _=>l.length<=i⟩
def ZC {P:Program}{w:World}{K:W.Frag}{tg:Expr}{ty:String}(hty:ty="str_ascii_iterator"\/ty="str_iterator")(l:List Nat)(t:Tok)(it:Addr):Turn P w K tg (Its l) [it] it (λi h=>i<=l.length/\h.IsStrIter it ty (S l) t i) where
 mem:=by simp
 obj:=λi h st b hb=>by
  let e:b=it:=by simpa using hb
  subst e;let⟨_,o,e,c,d⟩:=st;show⟨o,e,λv z=>by rw[d]at z;cases z⟩
 keep:=λi h h' st k=>⟨st.1,let ⟨o,ho,r⟩:=st.2;⟨o,k it w8 o ho,r⟩⟩
 item:=by
  walk_at"i";let⟨f0,f1,f2,f3,f4,f5⟩:=hf it w8;let hg':i<(S l).cps.size:=hg;let fin:∀(v:Value) (h':Heap) (tk:Nat),SignAt (S l) i v->h'.IsStrIter it ty (S l) t (i+1)->(∀b o,b∉[it]->s.heap.get? b=some o->h'.get? b=some o)->
    ∃u,some v=some u/\wpAny (model X.prog X.w) X.A (letOwnedTupleGo tg (.ref it) u) (λ_ s2=>∃x H',aM X ao σ H' s2/\bN x u/\(Its l).Jz i H x H'/\(i+1<=l.length/\s2.heap.IsStrIter it ty (S l) t (i+1))/\∀b∈[it],H' b=none) E {s with heap:=h',toks:=tk}:=by
   intro v h' tk hv st' kk;let⟨c,u,hc',rfl⟩:=hv;let I1:aM X ao σ H {s with heap:=h',toks:=tk}:=I.turned (λb o hb e=>kk b o (by simpa using hb) e) f0 f1 f3 f4 f5;let⟨o,e,c2,d2⟩:=id st';refine⟨_,RA,Fb (s:={s with heap:=h',toks:=tk}) e c2 d2 (by rcases hty with rfl|rfl <;> decide) ⟨.str (S [c]),H,I1,⟨u,RA⟩,⟨RA,c,by simpa [S] using hc',RA⟩,⟨hg,st'⟩,λb hb=>(hf b hb).1⟩⟩
  rcases hty with rfl|rfl;.show(Walks.strAscii (prog:=X.prog) (w:=X.w) (I.ok.hd hc) it (S l) t).item i s _ _ hg' st.2 λv h' tk hv st' kk=>fin v h' tk hv st' kk
  .show(Walks.strWide (prog:=X.prog) (w:=X.w) (I.ok.hd hc) it (S l) t).item i s _ _ hg' st.2 λv h' tk hv st' kk=>fin v h' tk hv st' kk
 done:=by
  walk_at"i";let⟨f0,f1,f2,f3,f4,f5⟩:=hf it w8;let hi:i=(S l).cps.size:=wt st.1 hg;let st':=st.2;rw[hi]at st';rcases hty with rfl|rfl
  .show(Walks.strAscii (prog:=X.prog) (w:=X.w) (I.ok.hd hc) it (S l) t).done s _ _ st' λh' tk kk=>⟨RA,I.turned (λb o hb e=>kk b o (by simpa using hb) e) f0 f1 f3 f4 f5⟩
  .show(Walks.strWide (prog:=X.prog) (w:=X.w) (I.ok.hd hc) it (S l) t).done s _ _ st' λh' tk kk=>⟨RA,I.turned (λb o hb e=>kk b o (by simpa using hb) e) f0 f1 f3 f4 f5⟩
 self:=λA i s Q E st h=>by
  rcases hty with rfl|rfl;.show wpAny_pyIter_striter_ascii st.2 h
  .show wpAny_pyIter_striter_wide st.2 h
def Wn {a b c:List Nat}(h1:¬b<a)(h2:¬c<b):¬c<a:=by let h1':a<=b:=h1;let h2':b<=c:=h2;show List.le_trans h1' h2'
theorem JR:∀(r:List Str) (p:Str),risingS p r=true->(∀x∈r,¬x.cps.toList<p.cps.toList)/\(r.map λy=>y.cps.toList).Pairwise (λa b=>decide (b<a)=false)
 | [],_,_=>⟨λ_ h=>by simp at h,List.Pairwise.nil⟩
 | y::r,p,h=>by
  rw[risingS,df]at h;let h0:¬y.cps.toList<p.cps.toList:=by have:=h.1;simpa [ltCps_eq] using this
  let⟨h1,h2⟩:=JR r y h.2;refine⟨λx hx=>?_,?_⟩
  .rcases ba.mp hx with e|e;.rw[e];show h0
   .show Wn h0 (h1 x e)
  .rw[b6];calc List.Pairwise.cons (λb hb=>?_) h2;let⟨x,hx,rfl⟩:=aw.mp hb;show am (h1 x hx)
def JT (ss)(h:sortedS ss=true):(ss.map λy=>y.cps.toList).Pairwise (λa b=>decide (b<a)=false):=by
 cases ss with| nil=>show List.Pairwise.nil| cons x r=>let⟨h1,h2⟩:=JR r x h;rw[b6];calc List.Pairwise.cons (λb hb=>?_) h2;let⟨y,hy,rfl⟩:=aw.mp hb;show am (h1 y hy)
section
variable {X:Cx}{tg:Expr}
def agX (tl:TE):TI:=λσ H R=>tl σ H λx H1=>∃l,x=.str (S l)/\R (Its l) H1
def wL (hl:QE X l tl):QI X tg l (agX tl):=⟨by
 intro ao s σ H R I h;calc bM (hl.out ao s σ H _ I h) λv s1 zz=>?_;let⟨x,H1,I1,r1,q1⟩:=zz;let⟨l,e,q⟩:=q1;subst e;let⟨t,rfl⟩:=r1;calc oq ?_;let hty:strIterType (S l)="str_ascii_iterator"\/strIterType (S l)="str_iterator":=by unfold strIterType;split <;> simp
 calc JJ s1.heap.objs.size [s1.heap.objs.size] _ _ H1 ⟨RA,I1.kept (t':=s1.toks) λb o e=>af _ e,ZC hty l t _,⟨cw _,_,ax _ RA,RA,RA⟩,λb hb=>?_,q⟩;let e:b=s1.heap.objs.size:=by simpa using hb
 subst e;show I1.n6 (ah _) (I1.hok.fresh (ah _))⟩
def xY {l:List Nat}{D:Addr}{te:TE}{σ:St}{H:Hp}{R:Hp->Prop}(Pv:Nat->List V->Hp->Prop)(h0:Pv 0 [] (upd H D (.lst [])))(hs:∀i c ys H,l[i]?=some c->Pv i ys H->te (some (.str (S [c]))::σ) H (Dy l.length i D ys (Pv (i+1))))(hd:∀ys H,Pv l.length ys H->R H):rH (Its l) D H R (Mw σ gG te):=Dz l.length Pv h0 (λi ys H h p=>⟨h,λx H' y=>by let⟨rfl,c,hc,rfl⟩:=y;show hs i c ys _ hc p⟩) λys H p=>⟨ah _,hd ys H p⟩
def i_ (hc:X.calm=true):fU X (.builtin "all") (λxs H Q=>∃(p:Addr) (bs:List Bool),xs=[.ref p]/\aP X.K H p (bs.map V.bl)/\Q (.bl (bs.all id)) H):=by
 walk_at"k";let⟨p,bs,rfl,hq,q⟩:=h;let⟨u,rfl,ru⟩:=vals1 r;cases ru;let⟨its,rv,pl,hz⟩:=I.list hq;let hne:p≠s.heap.objs.size:=by let⟨o,ho,_⟩:=pl.isList;show bn (a6 ho)
 let hb:∀(i:Nat) (v:Value),its[i]?=some v->v=.bool (bs.getD i true):=λi v hv=>by
  let bW:=rv.length;let hi:i<bs.length:=by have:=(al.mp hv).1;simp at bW;simp_all
  let⟨u,hu,ru⟩:=rv.get (i:=i) (x:=.bl bs[i]) (by simp[hi]);rw[hv]at hu;cases hu;cases ru;simp[List.getD,hi]
 calc call_all_walk (kr pl.isList ?_);refine JP s.heap.objs.size _ _ _ _ _ (λi=>bs.getD i true) ⟨RA,Walks.list (A:=X.A.in1) (I.ok.hd hc) s.heap.objs.size p hne its.toArray,⟨⟨_,ax _ RA,RA,RA⟩,pl.isList.at λo e=>af _ e⟩,?_,λh' tk kk=>?_⟩
 .intro i v s' Q' E' hv hq';let e:=hb i v (by simpa using hv);subst e;show eP hq'
 .let I1:aM X ao σ H {s with heap:=h',toks:=tk}:=I.kept λb o e=>kk b o (by
   intro hm;have:b=s.heap.objs.size:=by simpa using hm
   subst this;show absurd (a6 e) (iF _)) (af _ e)
  calc⟨.bl (bs.all id),H,I1,?_,q⟩;show Value.bool _=Value.bool _;let bW:its.toArray.size=bs.length:=by have:=rv.length;simp at this;simp[this]
  rw[bW];congr 1;let key:∀bs:List Bool,(List.range bs.length).all (λi=>bs.getD i true)=bs.all id:=λbs=>by
   rw[kS,gv,gv];constructor
   .intro h x hx;let⟨i,hi,rfl⟩:=b9.mp hx;have:=h i (bE.mpr hi);simpa [List.getD,hi] using this
   .intro h i hi;let hi':=bE.mp hi;have:=h bs[i] (aI _);simpa [List.getD,hi'] using this
  show key bs
def ZD:R2:=λx y H Q=>∃i j,x=.str (S i)/\y=.str (S j)/\Q (.bl (!decide (j<i))) H
def qZ:eO X (compareOp .LtE) ZD:=by walk_at"f";let⟨i,j,rfl,rfl,q⟩:=h;let⟨t,rfl⟩:=rx;let⟨t',rfl⟩:=ry;show wP ⟨.bl _,H,I,RA,q⟩
abbrev gR (l:List Nat):Key:=Sum.inr (S l)
def MN (hc:X.calm=true):fU X (.builtin "sorted") (λxs H Q=>∃(d:Addr) (kvs:List (Key×V)) (ws:AA),xs=[.ref d]/\H d=some (.dK kvs)/\kvs.map (·.1)=ws.map gR/\ws.length<64/\
  ∀(p:Addr) (ws':AA),H p=none->ws'.Perm ws->ws'.Pairwise (λa b=>decide (b<a)=false)->Q (.ref p) (upd H p (.lst (Ts ws')))):=by
 walk_at"k";let⟨d,kvs,ws,rfl,hd,hk,h64,q⟩:=h;let⟨u,rfl,ru⟩:=vals1 r;cases ru;let⟨hz,lo,vs,rel,dd⟩:=T8 I.hok hd;let⟨ep,hat⟩:=dd.dictAt;let hkv:=KV.keys rel;let zW:vs.length=ws.length:=by let h1:=KV.length rel;let h2:=congrArg List.length hk;simp at h2;lia
 calc Ub (W.kdu_collect (A:=X.A.in1) (W.kdl_dict (knd:=dz X.prog X.w) (kvs:=vs) (ep:=ep) lo) (I.ok.hd hc) hat (by rw[zW];show aT (aL wT)) λh' tk acc kk hacc=>?_);let hS:StrsAre acc.toList (ws.map S):=by
  let key:∀(l:List Value) (m:AA),l.length=m.length->(∀(j:Nat) v,l[j]?=some v->∃c,m[j]?=some c/\∃u,v=.str (S c) u)->StrsAre l (m.map S):=by
   intro l
   induction l with
   | nil=>intro m hl _;cases m with|nil=>show .nil|cons c r=>simp at hl
   | cons a r ih=>
    intro m hl hv;cases m with
    | nil=>simp at hl
    | cons c m=>
     let⟨c',e,u,rfl⟩:=hv 0 a rfl;let e':c=c':=by simpa using e
     subst e';show .cons _ u (ih m (by simpa using hl) λj v hj=>hv (j+1) v hj)
  calc key _ _ (by rw[bo,hacc.1,zW]) λj v hj=>?_;let⟨k,x,hx,hi⟩:=hacc.2 j v (by simpa using hj);let hkj:(ws.map gR)[j]?=some k:=by rw[<-hk,hkv,a_,hx];rfl
  rw[a_]at hkj;cases hw:ws[j]? with
  | none=>rw[hw]at hkj;cases hkj
  | some c=>
   rw[hw]at hkj;let e:gR c=k:=by simpa using hkj
   subst e;calc⟨c,RA,?_⟩;rcases dH (show jE (Sum.inr (S c)) v=true from hi) with⟨i,t,e1,_⟩|⟨y,t,e1,e2⟩;.cases e1
   .cases e1;show⟨t,e2⟩
 let I1:aM X ao σ H {s with heap:=h',toks:=tk}:=I.kept kk;calc⟨_,hS,by rw[bo,hacc.1,zW];show h64,λh2 vs' ss' e k2 he hS' pm so=>?_⟩;let es:ss'=(ss'.map λy=>y.cps.toList).map S:=by rw[eD];calc(lS _).symm.trans (gd λy _=>?_);show(aeA y).symm
 let wM:(ss'.map λy=>y.cps.toList).Perm ws:=by have:=pm.map λy:Str=>y.cps.toList;rw[eD]at this;let e:((λy:Str=>y.cps.toList) ∘ S)=id:=rfl;rw[e,lS]at this;show this
 let hv:Vals (Ts (ss'.map λy=>y.cps.toList)) vs':=by have:=uf hS';rw[es]at this;simpa [Ts,Function.comp_def] using this
 let hl:(Ts (ss'.map λy=>y.cps.toList)).length<=sizeLine:=by rw[ab,wM.length_eq];show aT (aL wT)
 refine⟨.ref h'.objs.size,_,I1.laid (o:=.lst _) (t':=tk) k2 (ah _) ⟨hl,vs',e,hv,he⟩,RA,q _ _ I1.fresh wM (JT ss' so)⟩
def QI.or (h1:QI X tg iter w1)(h2:QI X tg iter w2):QI X tg iter (λσ H R=>w1 σ H R\/w2 σ H R):=⟨λao s σ H R I h=>by
 rcases h with h|h;.show h1.out ao s σ H R I h
 .show h2.out ao s σ H R I h⟩
end
def aP.keep {K:W.Frag}{xs:List V}(k:∀b o,H b=some o->b≠p->H' b=some o)(hp:∀o,H p=some o->(∀ys,o≠.lst ys)/\∀u ys,o≠.qe u (.lst ys))(h:aP K H a xs):aP K H' a xs:=by
 rcases h with(h|⟨o,h⟩)|h;.show .inl (.inl (k _ _ h λe=>(hp _ (e ▸ h)).1 _ RA))
 .show .inl (.inr ⟨o,k _ _ h λe=>(hp _ (e ▸ h)).2 _ _ RA⟩)
 .show .inr h
def aN.keep {K:W.Frag}{xs:List V}(k:∀b o,H b=some o->b≠p->H' b=some o)(hp:∀o,H p=some o->(∀ys,o≠.tup ys)/\∀u ys,o≠.qe u (.tup ys))(h:aN K H a xs):aN K H' a xs:=by
 rcases h with(h|⟨o,h⟩)|h;.show .inl (.inl (k _ _ h λe=>(hp _ (e ▸ h)).1 _ RA))
 .show .inl (.inr ⟨o,k _ _ h λe=>(hp _ (e ▸ h)).2 _ _ RA⟩)
 .show .inr h
section
variable {X:Cx}
def agY:V->List V->Hp->VK->Prop:=λx vs H Q=>∃l,x=.str (S l)/\vs=[]/\l.length<=1000/\(∀c∈l,c<128)/\Q (.str (S (l.map up1))) H
def aeH:wH X "str.upper" agY:=by
 intro ao s σ H x vs v us Q I rx rv h;let⟨l,rfl,rfl,hz,ha,q⟩:=h;let⟨t,rfl⟩:=rx;let hus:=rv.zero;subst hus;let hfit:Builtin.Str.tooLong (Txt.upper (S l)).length=false:=fit_upper (by rw[mF];lia);calc call_gives F.slot_str_upper (typeIs_str s _ t) F.entry_str_upper (F.args_str_upper_1 _) (gives_str_upper (S l) t hfit) ⟨fit_le hfit,?_⟩;let e:Txt.upper (S l)=S (l.map up1):=by rw[upper_ascii (x:=S l) ha];simp[S]
 show⟨.str (S (l.map up1)),H,I.tok _,⟨s.toks,congrArg (λz=>Value.str z s.toks) e⟩,q⟩
def agZ:V->List V->Hp->VK->Prop:=λx vs H Q=>∃l,x=.str (S l)/\vs=[]/\l.length<=1000/\(∀c∈l,c<128)/\Q (.str (S (l.map lo1))) H
def Fz:wH X "str.lower" agZ:=by
 intro ao s σ H x vs v us Q I rx rv h;let⟨l,rfl,rfl,hz,ha,q⟩:=h;let⟨t,rfl⟩:=rx;let hus:=rv.zero;subst hus;let hfit:Builtin.Str.tooLong (Txt.lower (S l)).length=false:=fit_lower (by rw[mF];lia);calc call_gives F.slot_str_lower (typeIs_str s _ t) F.entry_str_lower (F.args_str_lower_1 _) (gives_str_lower (S l) t hfit) ⟨fit_le hfit,?_⟩;let e:Txt.lower (S l)=S (l.map lo1):=by rw[lower_ascii (x:=S l) ha];simp[S]
 show⟨.str (S (l.map lo1)),H,I.tok _,⟨s.toks,congrArg (λz=>Value.str z s.toks) e⟩,q⟩
end
def acd {l:List Nat}{g:TG}{tb:TS}{D:Ends}{σ:St}{H:Hp}(Pv:Nat->St->Hp->Prop)(h0:Pv 0 σ H)(hs:∀i c σ H,l[i]?=some c->Pv i σ H->g (.str (S [c])) σ H λσ2 H2=>tb {D with nx:=Pv (i+1),ct:=Pv (i+1),bk:=D.nx} σ2 H2)(hd:∀σ H,Pv l.length σ H->D.nx σ H):Du (Its l) g tb D σ H:=Mi l.length Pv h0 (λi σ H h p=>⟨h,λx H' y=>by let⟨rfl,c,hc,rfl⟩:=y;show hs i c σ _ hc p⟩) λσ H p=>⟨ah _,hd σ H p⟩
def AL:List Nat:=(List.range 26).map (97 + ·)
def DG {ds:List Int}{lo hi:Option Int}{v:V}(h:v∈k_ (ds.map V.int) lo hi):∃d∈ds,v=.int d:=by unfold k_ at h;let h2:=jn (fT h);let⟨d,hd,e⟩:=aw.mp h2;show⟨d,hd,e.symm⟩
def Rm {α:Type}{xs:List α}(hn:xs.length=n)(h:0<n)(c):∃v,jC xs (c%(n:Int))=some v/\v∈xs:=by
 let h0:0<=c%(n:Int):=e6 _ wT;let h1:c%(n:Int)<n:=du _ (oB gx h);obtain⟨k,hk⟩:∃k:Nat,c%(n:Int)=(k:Int):=⟨(c%(n:Int)).toNat,wT⟩
 rw[hk];let hl:k<xs.length:=by simp_all
 show⟨xs[k],aO (by simp[hl]),aI _⟩
inductive Dt where
 | non|int (i:Int)|str (l:List Nat)|tup (ds:List Dt)|lst (ds:List Dt)
mutual
def toP:Dt->PyData
 | .non=>.none
 | .int i=>.int i
 | .str l=>.str (S l)
 | .tup ds=>.tuple (d_ ds)
 | .lst ds=>.list (d_ ds)
def d_:List Dt->List PyData
 | []=>[]
 | d::ds=>toP d::d_ ds
end
mutual
theorem FJ:∀d e:Dt,PyData.eqv (toP d) (toP e)=true↔d=e
 | .non,.non=>by simp[toP,PyData.eqv]
 | .non,.int _=>by simp[toP,PyData.eqv]
 | .non,.str _=>by simp[toP,PyData.eqv]
 | .non,.tup _=>by simp[toP,PyData.eqv]
 | .non,.lst _=>by simp[toP,PyData.eqv]
 | .int _,.non=>by simp[toP,PyData.eqv]
 | .int _,.int _=>by simp[toP,PyData.eqv]
 | .int _,.str _=>by simp[toP,PyData.eqv]
 | .int _,.tup _=>by simp[toP,PyData.eqv]
 | .int _,.lst _=>by simp[toP,PyData.eqv]
 | .str _,.non=>by simp[toP,PyData.eqv]
 | .str _,.int _=>by simp[toP,PyData.eqv]
 | .str a,.str b=>by simp only[toP,PyData.eqv,beq_iff_eq,Dt.str.injEq];show⟨Bw,λz=>by rw[z]⟩
 | .str _,.tup _=>by simp[toP,PyData.eqv]
 | .str _,.lst _=>by simp[toP,PyData.eqv]
 | .tup _,.non=>by simp[toP,PyData.eqv]
 | .tup _,.int _=>by simp[toP,PyData.eqv]
 | .tup _,.str _=>by simp[toP,PyData.eqv]
 | .tup ds,.tup es=>by simp only[toP,PyData.eqv,Dt.tup.injEq];show MP ds es
 | .tup _,.lst _=>by simp[toP,PyData.eqv]
 | .lst _,.non=>by simp[toP,PyData.eqv]
 | .lst _,.int _=>by simp[toP,PyData.eqv]
 | .lst _,.str _=>by simp[toP,PyData.eqv]
 | .lst _,.tup _=>by simp[toP,PyData.eqv]
 | .lst ds,.lst es=>by simp only[toP,PyData.eqv,Dt.lst.injEq];show MP ds es
theorem MP:∀ds es:List Dt,PyData.eqvAll (d_ ds) (d_ es)=true↔ds=es
 | [],[]=>by simp[d_,PyData.eqvAll]
 | [],_::_=>by simp[d_,PyData.eqvAll]
 | _::_,[]=>by simp[d_,PyData.eqvAll]
 | d::ds,e::es=>by simp only[d_,PyData.eqvAll,df,List.cons.injEq];rw[FJ d e,MP ds es]
end
open Classical in
def HB (d e:Dt):PyData.eqv (toP d) (toP e)=decide (d=e):=by
 by_cases h:d=e;.rw[ar h];show(FJ d e).mpr h
 .rw[am h];cases z:PyData.eqv (toP d) (toP e) with| false=>rfl| true=>show absurd ((FJ d e).mp z) h
mutual
inductive gH (K:W.Frag) (H:Hp):Nat->Dt->V->Prop
 | non {n}:gH K H n .non .non
 | int {n} (i:Int):gH K H n (.int i) (.int i)
 | str {n} (l:List Nat) (h:∀c∈l,c<128):gH K H n (.str l) (.str (S l))
 | tup {n a ds xs} (h:aN K H a xs) (hs:dJ K H n ds xs):gH K H (n+1) (.tup ds) (.ref a)
 | lst {n a ds xs} (h:aP K H a xs) (hs:dJ K H n ds xs):gH K H (n+1) (.lst ds) (.ref a)
inductive dJ (K:W.Frag) (H:Hp):Nat->List Dt->List V->Prop
 | nil {n}:dJ K H n [] []
 | cons {n d ds x xs} (h:gH K H n d x) (hs:dJ K H n ds xs):dJ K H n (d::ds) (x::xs)
end
def Rn (h:∀c∈l,c<128):PyData.strOk (S l)=true:=by unfold PyData.strOk;show l.toArray.all _=true;rw[Array.all_eq_true_iff_forall_mem];intro x hx;have:=h x (by simpa using hx);show ar wT
mutual
theorem gH.lay {K:W.Frag}:∀{n:Nat} {d:Dt} {x:V},gH K H n d x->(toP d).canLay0=true/\(toP d).depth<=n
 | _,_,_,.non=>by simp[toP,PyData.canLay0,PyData.depth]
 | _,_,_,.int _=>by simp[toP,PyData.canLay0,PyData.depth]
 | _,_,_,.str l h=>by simp only[toP,PyData.canLay0,PyData.depth];show⟨Rn h,cw _⟩
 | _,_,_,.tup _ hs=>by simp only[toP,PyData.canLay0,PyData.depth];have:=hs.lay;show⟨this.1,g9 this.2⟩
 | _,_,_,.lst _ hs=>by simp only[toP,PyData.canLay0,PyData.depth];have:=hs.lay;show⟨this.1,g9 this.2⟩
theorem dJ.lay {K:W.Frag}:∀{n:Nat} {ds:List Dt} {xs:List V},dJ K H n ds xs->PyData.canLayAll0 (d_ ds)=true/\PyData.depthAll (d_ ds)<=n
 | _,_,_,.nil=>by simp[d_,PyData.canLayAll0,PyData.depthAll]
 | _,_,_,.cons h hs=>by let a:=h.lay;let b:=hs.lay;simp only[d_,PyData.canLayAll0,PyData.depthAll,df];show⟨⟨a.1,b.1⟩,Nat.max_le.mpr ⟨a.2,b.2⟩⟩
end
mutual
theorem gH.same {K:W.Frag}(sm:aA H H')(st:∀a xs,aN K H a xs->aN K H' a xs):∀{n:Nat} {d:Dt} {x:V},gH K H n d x->gH K H' n d x
 | _,_,_,.non=>.non
 | _,_,_,.int i=>.int i
 | _,_,_,.str l h=>.str l h
 | _,_,_,.tup h hs=>.tup (st _ _ h) (hs.same sm st)
 | _,_,_,.lst h hs=>.lst (sm.seq h) (hs.same sm st)
theorem dJ.same {K:W.Frag}(sm:aA H H')(st:∀a xs,aN K H a xs->aN K H' a xs):∀{n:Nat} {ds:List Dt} {xs:List V},dJ K H n ds xs->dJ K H' n ds xs
 | _,_,_,.nil=>.nil
 | _,_,_,.cons h hs=>.cons (h.same sm st) (hs.same sm st)
end
def aA.ZF {K:W.Frag}{xs:List V}(e:aA H H')(h:aN K H a xs):aN K H' a xs:=by
 rcases h with(h|⟨o,h⟩)|h;.show .inl (.inl (e _ _ h))
 .show .inl (.inr ⟨o,e _ _ h⟩)
 .show .inr h
def gH.mv {K:W.Frag}(sm:aA H H'){n:Nat}{d:Dt}{x:V}(h:gH K H n d x):gH K H' n d x:=h.same sm λ_ _=>sm.ZF
def dJ.mv {K:W.Frag}(sm:aA H H'){n:Nat}{d:List Dt}{x:List V}(h:dJ K H n d x):dJ K H' n d x:=h.same sm λ_ _=>sm.ZF
section
variable {X:Cx}
mutual
theorem gH.reads {ao:AC}{σ:St}{H:Hp}{s:Shared}(I:aM X ao σ H s):∀{n:Nat} {d:Dt} {x:V} {u:Value},gH X.K H n d x->bN x u->∃as,Reads s.heap u (toP d) as
 | _,_,_,u,.non,r=>by cases r;show⟨[],by rw[toP];show .none⟩
 | _,_,_,u,.int i,r=>by let⟨t,rfl⟩:=r;show⟨[],by rw[toP];show .int i t⟩
 | _,_,_,u,.str l h,r=>by let⟨t,rfl⟩:=r;show⟨[],by rw[toP];show .str _ t⟩
 | _,_,_,u,.tup h hs,r=>by cases r;let⟨its,rv,pl,_⟩:=I.tuple h;let⟨as,ra⟩:=hs.reads I rv;let⟨o,ho,hc,n,hd⟩:=pl;show⟨as,by rw[toP];show .tuple ho hc hd (by simpa using ra)⟩
 | _,_,_,u,.lst h hs,r=>by cases r;let⟨its,rv,pl,_⟩:=I.list h;let⟨as,ra⟩:=hs.reads I rv;let⟨o,ho,hc,n,hd⟩:=pl.isList;show⟨_::as,by rw[toP];show .list ho hc hd (by simpa using ra)⟩
theorem dJ.reads {ao:AC}{σ:St}{H:Hp}{s:Shared}(I:aM X ao σ H s):∀{n:Nat} {ds:List Dt} {xs:List V} {us:List Value},dJ X.K H n ds xs->Vals xs us->∃as,ReadsAll s.heap us (d_ ds) as
 | _,_,_,us,.nil,r=>by cases r;show⟨[],by rw[d_];show .nil⟩
 | _,_,_,us,.cons h hs,r=>by
  cases r with| cons q t=>let⟨as,a⟩:=h.reads I q;let⟨bs,b⟩:=hs.reads I t;show⟨as++bs,by rw[d_];show .cons a b⟩
end
def gH.shaped {K:W.Frag}{n:Nat}{d:Dt}{x:V}(h:gH K H n d x)(hn:n<=64):SeqAt.shaped (toP d)=true:=by unfold SeqAt.shaped;rw[h.lay.1,ar (a8 h.lay.2 hn)];rfl
open Classical in
def aeI (K:W.Frag)(neg:Bool):R2:=λx y H Q=>∃n d e,n<=64/\gH K H n d x/\gH K H n e y/\Q (.bl (if neg then !decide (d=e) else decide (d=e))) H
def wN (hu:X.A.units+64<cLine):eO X (compareOp .Eq) (aeI X.K false):=by walk_at"f";let⟨n,d,e,hn,hd,he,q⟩:=h;let⟨as,ra⟩:=hd.reads I rx;let⟨bs,rb⟩:=he.reads I ry;calc SeqAt.compareEq_shaped ra rb (hd.shaped hn) (he.shaped hn) hu ⟨.bl _,H,I,RA,?_⟩;rw[HB];show q
def aeJ (hu:X.A.units+64<cLine):eO X (compareOp .NotEq) (aeI X.K true):=by walk_at"f";let⟨n,d,e,hn,hd,he,q⟩:=h;let⟨as,ra⟩:=hd.reads I rx;let⟨bs,rb⟩:=he.reads I ry;calc SeqAt.compareNe_shaped ra rb (hd.shaped hn) (he.shaped hn) hu ⟨.bl _,H,I,RA,?_⟩;rw[HB];show q
def aeK (K:W.Frag):V->List V->Hp->VK->Prop:=λx vs H Q=>∃p ls,x=.str (S [])/\vs=[.ref p]/\aN K H p (Ts ls)/\ls.flatten.length<=1000/\Q (.str (S ls.flatten)) H
def DK:wH X "str.join" (aeK X.K):=by
 intro ao s σ H x vs v us Q I rx rv h;let⟨p,ls,rfl,rfl,hq,hz,q⟩:=h;let⟨t,rfl⟩:=rx;let⟨u,rfl,ru⟩:=vals1 rv;cases ru;let⟨its,r,pl,_⟩:=I.tuple hq;refine join_tuple pl (ys:=ls.map S) (by simpa using BJ r) ?_ λt' k=>?_
 .rw[Rj];show _+_*0<=_;lia
 .show⟨.str (S ls.flatten),H,I.tok k,⟨t',congrArg (λz=>Value.str z t') (Ri ls)⟩,q⟩
end
def ug {K:W.Frag}{a D:Addr}{xs:List V}{te:TE}{σ:St}{H:Hp}{R:Hp->Prop}(Pv:Nat->List V->Hp->Prop)(h0:Pv 0 [] (upd H D (.lst [])))(hl:∀i ys H,i<=xs.length->Pv i ys H->aN K H a xs)(hs:∀i x ys H,xs[i]?=some x->Pv i ys H->te (some x::σ) H (Dy xs.length i D ys (Pv (i+1))))(hd:∀ys H,Pv xs.length ys H->R H):rH (Itt K a) D H R (Mw σ gG te):=Bv Pv h0 hl hs hd
section
variable {X:Cx}{x:Str}{pos:Pos}
def jX (hg:Gl X x)(hm:∃t,X.mg x=some (.str (S l) t))(hd:(x==("__debug__":Str))=false:=by decide):QE X (.Name x pos) (tC (.str (S l))):=let ⟨t,e⟩:=hm;Rk hg e ⟨t,RA⟩ hd
def Lp (hg:Gl X x)(hm:∃t,X.mg x=some (.int i t))(hd:(x==("__debug__":Str))=false:=by decide):QE X (.Name x pos) (tC (.int i)):=let ⟨t,e⟩:=hm;Rk hg e ⟨t,RA⟩ hd
def aeL (ho:QE X o to)(hi:QE X i ti)(hs:Y4 X t)(ha:∀v,assign (.Subscript o i pos) X.env v=(do
   let ov <- holding [v] (eval o X.env)
   let iv <- holding [v,ov] (eval i X.env)
   standAt pos
   holding [v,ov,iv] (setItem ov iv v)
   release [v,ov,iv] []):=by intro _;rfl):QG X (.Subscript o i pos) (ad1 to ti t):=⟨ad2 ho.out hi.out hs ha⟩
end
def iR:bootBuiltins "all"=some (.builtin "all"):=by decide +kernel
def zX:bootBuiltins "any"=some (.builtin "any"):=by decide +kernel
def DN {K:W.Frag}(X:K.In h)(G:h.Ns mainGlobals mg)(a:W.nsIn K mainGlobals x=some (some (.str (S l) t))):∃t,mg x=some (.str (S l) t):=⟨t,pi X G a⟩
def M4 {K:W.Frag}(X:K.In h)(G:h.Ns mainGlobals mg)(a:W.nsIn K mainGlobals x=some (some (.int i t))):∃t,mg x=some (.int i t):=⟨t,pi X G a⟩
section
variable {X:Cx}
def ZG (K:W.Frag)  (h:X.K=K:=by rfl):JH X (ael K):=by subst h;show gF
def kY (K:W.Frag)  (h:X.K=K:=by rfl):JH X (T6 K):=by subst h;show bU
def ace (K:W.Frag)  (h:X.K=K:=by rfl):Q7 X (Zi K):=by subst h;show V7
def KC (K:W.Frag)  (h:X.K=K:=by rfl):fU X (.builtin "len") (λxs H Q=>∃p ys,xs=[.ref p]/\(aP K H p ys\/aN K H p ys)/\Q (.int ys.length) H):=by subst h;show cL
def M5 (K:W.Frag)  (h:X.K=K:=by rfl):fU X (.builtin "isinstance") (abl K):=by subst h;show dI
def ZJ (K:W.Frag)  (h:X.K=K:=by rfl):wH X "str.join" (rJoin K):=by subst h;show oM
def aeM {name:Str}{apos cpos:Pos}{T id:String}(K:W.Frag)(pa:PlainAttrs T)(slot:Slot T name id)(hty:typeOf (.builtin id)=pure (.type "method_descriptor"))(hm:wH X id r)(ho:QE X o to)(ha:QA X (e::es) t)(hbase:attributeBase o name X.env (eval o X.env)=eval o X.env:=by rfl)(hfew:((backTo cpos (starEach (e::es) X.env)).all (λx=>!x.1)&&(backToKw cpos (keywordEach [] X.env)).all (λx=>x.1.isSome)
   && decide ((e::es).length+([]:List Keyword).length+(if ([]:List Keyword).isEmpty then 0 else 1)<30))=true:=by rfl) (hline:(apos.endLine==cpos.line)=true:=by rfl) (hs:starEach (e::es) X.env=(false,eval e X.env)::starEach es X.env:=by rfl) (hplain:(backTo cpos (starEach es X.env)).any (·.1)=false:=by rfl) (h:X.K=K:=by rfl):QE X (.Call (.Attribute o name apos) (e::es) [] cpos) (Q_ K T r to t):=by subst h;show eX pa slot hty hm ho ha hbase hfew hline hs hplain
end
def cR (l:List Nat):List Nat:=l.takeWhile λc=>c != 46
def cG (l:List Nat):List Nat:=(l.reverse.takeWhile λc=>c != 46).reverse
theorem xZ:∀{l:List Nat} {i:Nat},l[i]?=some 46->(∀k,k<i->l[k]?≠some 46)->cR l=l.take i
 | [],i,h,_=>by simp at h
 | c::l,0,h,_=>by
  have:c=46:=by simpa using h
  subst this;simp[cR]
 | c::l,i+1,h,hk=>by let hc:c≠46:=λe=>hk 0 wT (by simp[e]);let ih:=xZ (l:=l) (i:=i) (by simpa using h) (λk hk'=>by have:=hk (k+1) (sf hk');simpa using this);unfold cR at ih ⊢;rw[uS (by simpa using hc),ih,tP]
def zY (h:46∉l):cR l=l:=by
 unfold cR
 induction l with| nil=>rfl| cons c r ih=>have hc:c≠46:=λe=>h (by rw[e];show aE);rw[uS (by simpa using hc),ih λz=>h (ay _ z)]
def JV (h:46∉l):cG l=l:=by have:=zY (l:=l.reverse) (by simpa using h);unfold cR at this;unfold cG;rw[this,List.reverse_reverse]
def M6 (h:l[i]?=some 46)(hk:∀k,i<k->l[k]?≠some 46):cG l=l.drop (i+1):=by
 let hi:i<l.length:=(al.mp h).1;let e:cR l.reverse=l.reverse.take (l.length-(i+1)):=by
  refine xZ ?_ λk hk'=>?_
  .rw[List.getElem?_reverse (ck wT wT),show l.length-1-(l.length-(i+1))=i by lia];show h
  .rw[List.getElem?_reverse (by simp[fz,gT]at *;lia)];show hk _ (by simp[fz,gT]at *;lia)
 unfold cR at e;unfold cG;rw[e,List.take_reverse,List.reverse_reverse,show l.length-(l.length-(i+1))=i+1 by rw[hG (by assumption)]]
def M7 (l:List Nat)(n:Nat):qw l none (some (n:Int))=l.take n:=by
 unfold qw;rw[HT.wG];show (l.drop 0).take (min n l.length-0)=_;rw[uj,Nat.sub_zero];by_cases h:n<=l.length;.rw[p_ h]
 .rw[Nat.min_eq_right wT,cx (ah _),cx wT]
def yc (l:List Nat)(n:Nat):qw l (some (n:Int)) none=l.drop n:=by
 unfold qw;rw[HT.wG];show (l.drop (min n l.length)).take (l.length-min n l.length)=_;rw[cx (by rw[cy];lia)];by_cases h:n<=l.length;.rw[p_ h]
 .rw[Nat.min_eq_right wT,r0 (ah _),r0 wT]
def Lq (l)(i j):Builtin.Str.strSub (S l) i j=S ((l.take j).drop i):=by unfold Builtin.Str.strSub S;congr 1;apply mr.mp;simp[List.drop_take]
section
variable {X:Cx}
def Wo (l):(Txt.partition (S l) (S [46])).1=S (cR l):=by
 rcases partition_head (S l) (S [46]) with⟨e,h⟩|⟨i,e,h,hk⟩
 .rw[e,zY λhm=>?_];let⟨i,hi⟩:=sC.mp hm;show h i ((gz (S l) 46 i).mpr hi)
 .rw[e,Lq,uj,xZ (l:=l) ((gz (S l) 46 i).mp h) λk hk' z=>hk k hk' ((gz (S l) 46 k).mpr z)]
def Uc (l):(Txt.rpartition (S l) (S [46])).2.2=S (cG l):=by
 unfold Txt.rpartition;rcases StrLaws.last_spec (S l) (S [46]) with⟨e,h⟩|⟨i,e,h,hk⟩
 .rw[e];show S l=_;rw[JV λhm=>?_];let⟨i,hi⟩:=sC.mp hm;show h i ((gz (S l) 46 i).mpr hi)
 .rw[e];show Builtin.Str.strSub (S l) (i+1) l.length=_;rw[Lq,cx (ah _),M6 (l:=l) ((gz (S l) 46 i).mp h) λk hk' z=>hk k hk' ((gz (S l) 46 k).mpr z)]
def agn:V->List V->Hp->VK->Prop:=λx vs H Q=>∃l,x=.str (S l)/\vs=[.str (S [46])]/\l.length<=1000/\∀(p:Addr) (b c:Str),H p=none->Q (.ref p) (upd H p (.tup [.str (S (cR l)),.str b,.str c]))
def acf:wH X "str.partition" agn:=by
 intro ao s σ H x vs v us Q I rx rv h;let⟨l,rfl,rfl,hz,q⟩:=h;let⟨t,rfl⟩:=rx;let⟨u,rfl,ru⟩:=vals1 rv;let⟨t2,rfl⟩:=ru;let hsz:(S l).length<=sizeLine:=aT (aL hz);calc call_meets F.slot_str_partition (typeIs_str _ _ _) F.entry_str_partition (F.args_str_partition_2 _ _) (meets_str_partition (S l) (S [46]) t t2 RA hsz) ?_;let e:=Wo l;let q':=λb c=>q s.heap.objs.size b c (I.hok.fresh (ah _));rw[<-e]at q';unfold Txt.partition at q'
 revert q'
 cases Builtin.Str.occurrences (S l) (S [46]) 0 (S l).length 1 with| nil=>intro q';calc⟨.ref s.heap.objs.size,_,I.laid (o:=.tup _) (t':=s.toks+1) (λb ob z=>af _ z) (ah _) ?_,RA,q' Str.empty Str.empty⟩;show⟨zsz 3,_,.cons ⟨_,RA⟩ (.cons ⟨_,RA⟩ (.cons ⟨_,RA⟩ .nil)),⟨_,ax _ RA,RA,0,RA⟩⟩| cons i r=>intro q';calc⟨.ref s.heap.objs.size,_,I.laid (o:=.tup _) (t':=s.toks+1+1) (λb ob z=>af _ z) (ah _) ?_,RA,q' (S [46]) (Builtin.Str.strSub (S l) (i+(S [46]).length) (S l).length)⟩;show⟨zsz 3,_,.cons ⟨_,RA⟩ (.cons ⟨_,RA⟩ (.cons ⟨_,RA⟩ .nil)),⟨_,ax _ RA,RA,0,RA⟩⟩
def aeN:V->List V->Hp->VK->Prop:=λx vs H Q=>∃l,x=.str (S l)/\vs=[.str (S [46])]/\l.length<=1000/\∀(p:Addr) (a b:Str),H p=none->Q (.ref p) (upd H p (.tup [.str a,.str b,.str (S (cG l))]))
def ZK:wH X "str.rpartition" aeN:=by
 intro ao s σ H x vs v us Q I rx rv h;let⟨l,rfl,rfl,hz,q⟩:=h;let⟨t,rfl⟩:=rx;let⟨u,rfl,ru⟩:=vals1 rv;let⟨t2,rfl⟩:=ru;let hsz:(S l).length<=sizeLine:=aT (aL hz);calc call_meets F.slot_str_rpartition (typeIs_str _ _ _) F.entry_str_rpartition (F.args_str_rpartition_2 _ _) (meets_str_rpartition (S l) (S [46]) t t2 RA hsz) ?_;let e:=Uc l;let q':=λb c=>q s.heap.objs.size b c (I.hok.fresh (ah _));rw[<-e]at q';unfold Txt.rpartition at q'
 revert q'
 cases Builtin.Str.lastOccurrence (S l) (S [46]) 0 (S l).length with| none=>intro q';calc⟨.ref s.heap.objs.size,_,I.laid (o:=.tup _) (t':=s.toks+1) (λb ob z=>af _ z) (ah _) ?_,RA,q' Str.empty Str.empty⟩;show⟨zsz 3,_,.cons ⟨_,RA⟩ (.cons ⟨_,RA⟩ (.cons ⟨_,RA⟩ .nil)),⟨_,ax _ RA,RA,0,RA⟩⟩| some i=>intro q';calc⟨.ref s.heap.objs.size,_,I.laid (o:=.tup _) (t':=s.toks+1+1) (λb ob z=>af _ z) (ah _) ?_,RA,q' (Builtin.Str.strSub (S l) 0 i) (S [46])⟩;show⟨zsz 3,_,.cons ⟨_,RA⟩ (.cons ⟨_,RA⟩ (.cons ⟨_,RA⟩ .nil)),⟨_,ax _ RA,RA,0,RA⟩⟩
end
def ZL {X:Cx}{elt iter tg:Expr}{ns N2:List Str}{f:St->St}{TP:V->Hp->(St->Prop)->Prop}{ifs:List Expr}{scope:Scope}{wi:TI}(hc:X.calm=true)(ok:fL X scope ns N2 f)(hi:PI X tg iter wi)(hg:∀cl C s₀ H₀ fp,JN (eG X scope cl C (ns++N2) s₀ H₀ fp) tg ns.length TP)(ht:∀cl C s₀ H₀ fp,Mv (eG X scope cl C (ns++N2) s₀ H₀ fp) ifs tt)(he:∀cl C s₀ H₀ fp,PE (eG X scope cl C (ns++N2) s₀ H₀ fp) elt te)(hs:∀x,foldedSetIterable iter X.env x=pure x:=by intro _;rfl):PE X (.ListComp elt [⟨tg,iter,ifs,0⟩] scope pos) (zR f ns.length wi TP tt te):=λao s σ H Q I h=>by rw[eval_ListComp];show zT hc ok hi hg ht he hs I h λD C H4 s5 m hn bk _ q=>⟨m,hn,λh' sb=>⟨.ref D,H4,bk h' sb,RA,q⟩⟩
def eY (ks:List Nat):Nat->St->St
 | _,[]=>[]
 | i,v::r=>(if ks.contains i=true then none else v)::eY ks (i+1) r
theorem JW (ks):∀(i:Nat) (σ:St),(eY ks i σ).length=σ.length
 | _,[]=>rfl
 | i,_::r=>by rw[eY,bt,bt,JW ks (i+1) r]
theorem JX (ks):∀(i:Nat) (σ:St) (j:Nat) (v:V),(eY ks i σ)[j]?=some (some v)->ks.contains (i+j)=false/\σ[j]?=some (some v)
 | _,[],j,v,h=>by simp[eY]at h
 | i,x::r,0,v,h=>by
  rw[eY]at h;cases e:ks.contains i with| true=>rw[e]at h;simp at h| false=>rw[e]at h;show⟨by first|rfl|show e,by simpa using h⟩
 | i,x::r,j+1,v,h=>by rw[eY,re]at h;let⟨a,b⟩:=JX ks (i+1) r j v h;show⟨by rw[show i+(j+1)=i+1+j by lia];show a,by rw[re];show b⟩
noncomputable def aeO (sc:Scope)(N:List Str)(scope:Scope)(N2:List Str)(ks:List Nat):Bool:=scope.kind == .function&&scope.names.all (λy=>y.2 != .cell)&&scope.names.all (λy=>y.2 != .local||scope.names.lookup y.1==some .local) &&
 scope.names.all (λy=>y.2 != .free||sc.names.lookup y.1==some .cell||sc.names.lookup y.1==some .free)&&N2.length==N.length &&
 (List.range N.length).all (λi=>ks.contains i||(N2[i]? == N[i]? && (N[i]?.map λy=>scope.names.lookup y != some .local)==some true))
def fL.of {X:Cx}(N2)(ks)(h:aeO X.env.scope X.N scope N2 ks=true):fL X scope ns N2 (eY ks 0):=by
 unfold aeO at h;simp only[df,gv,Bool.or_eq_true,bne_iff_ne,beq_iff_eq,ne_eq]at h;obtain⟨⟨⟨⟨⟨h1,h2⟩,h3⟩,h5⟩,h6⟩,h7⟩:=h;refine⟨h1,λy hy=>h2 y hy,λy hy e=>(h3 y hy).resolve_left λz=>z e,λy hy e=>?_,JW ks 0,h6,λσ i y v e1 e2=>?_⟩
 .rcases h5 y hy with(z|z)|z;.show absurd e z
  .show .inl z
  .show .inr z
 .let⟨a,b⟩:=JX ks 0 σ i v e2;rw[hV]at a;let hi:i<X.N.length:=by rw[<-h6];show(al.mp e1).1
  rcases h7 i (bE.mpr hi) with z|⟨z1,z2⟩;.rw[a]at z;cases z
  .rw[<-z1,e1]at z2;rw[z1]at e1;show⟨e1,b,by simpa using z2⟩
def HD {X:Cx}{scope:Scope}{N:List Str}(K:W.Frag)(hc:X.calm=true)(hN:N.Nodup)(h0:N[0]?=some x)(h1:N[1]?=some y)(hx:scope.names.lookup x=some .local)(hy:scope.names.lookup y=some .local)(hK:X.K=K:=by rfl):JN (eG X scope cl C N s₀ H₀ fp) (.Tuple [.Name x px,.Name y py] k pos) 2 (λv H Q=>∃a p q,v=.ref a/\aN K H a [p,q]/\Q [some p,some q]):=by
 subst hK;intro ao s pre rest H v u Q hp I r q;let⟨a,p,q',rfl,hq,q⟩:=q;obtain⟨p0,p1,rfl⟩:∃p0 p1,pre=[p0,p1]:=by
  match pre,hp with| [p0,p1],_=>show⟨p0,p1,RA⟩
 let P:PG (eG X scope cl C N s₀ H₀ fp) (.Tuple [.Name x px,.Name y py] k pos) (Tt X.K 2 (xU (oZ 0) (xU (oZ 1) Tr))):=Mf (X:=eG X scope cl C N s₀ H₀ fp) hc (qm (ql (i:=0) hN h0 (.inl (lookup_relabel_local hx)) (.inr (lookup_relabel_local hx))) (qm (ql (i:=1) hN h1 (.inl (lookup_relabel_local hy)) (.inr (lookup_relabel_local hy))) Hs));refine bM (P ao s _ H (.ref a) u (λσ' H'=>H'=H/\σ'=some p::some q'::rest) I r
  ⟨a,[p,q'],RA,hq,RA,p,[q'],RA,q',[],RA,RA,RA,RA⟩) λ_ s' ⟨σ',H',I',e1,e2⟩=>?_
 subst e1 e2;show⟨[some p,some q'],RA,I',q⟩
def mH {X:Cx}{scope:Scope}{N:List Str}(K:W.Frag)(hc:X.calm=true)(hN:N.Nodup)(h0:N[0]?=some x)(h1:N[1]?=some y)(h2:N[2]?=some z)(hx:scope.names.lookup x=some .local)(hy:scope.names.lookup y=some .local)(hz:scope.names.lookup z=some .local)(hK:X.K=K:=by rfl):JN (eG X scope cl C N s₀ H₀ fp) (.Tuple [.Name x px,.Name y py,.Name z pz] k pos) 3 (λv H Q=>∃a p q r,v=.ref a/\aN K H a [p,q,r]/\Q [some p,some q,some r]):=by
 subst hK;intro ao s pre rest H v u Q hp I r q;let⟨a,p,q',r',rfl,hq,q⟩:=q;obtain⟨p0,p1,p2,rfl⟩:∃p0 p1 p2,pre=[p0,p1,p2]:=by
  match pre,hp with| [p0,p1,p2],_=>show JE p0 p1 p2 rfl
 let P:PG (eG X scope cl C N s₀ H₀ fp) (.Tuple [.Name x px,.Name y py,.Name z pz] k pos) (Tt X.K 3 (xU (oZ 0) (xU (oZ 1) (xU (oZ 2) Tr)))):=Mf (X:=eG X scope cl C N s₀ H₀ fp) hc (qm (ql (i:=0) hN h0 (.inl (lookup_relabel_local hx)) (.inr (lookup_relabel_local hx))) (qm (ql (i:=1) hN h1 (.inl (lookup_relabel_local hy)) (.inr (lookup_relabel_local hy))) (qm (ql (i:=2) hN h2 (.inl (lookup_relabel_local hz)) (.inr (lookup_relabel_local hz))) Hs)));refine bM (P ao s _ H (.ref a) u (λσ' H'=>H'=H/\σ'=some p::some q'::some r'::rest) I r
  ⟨a,[p,q',r'],RA,hq,RA,p,[q',r'],RA,q',[r'],RA,r',[],RA,RA,RA,RA⟩) λ_ s' ⟨σ',H',I',e1,e2⟩=>?_
 subst e1 e2;show⟨[some p,some q',some r'],RA,I',q⟩
def fM {X:Cx}{elt iter tg:Expr}{ns N2:List Str}{f:St->St}{TP:V->Hp->(St->Prop)->Prop}{ifs:List Expr}{scope:Scope}{wi:TI}(hc:X.calm=true)(ok:fL X scope ns N2 f)(hi:QI X tg iter wi)(hg:∀cl C s₀ H₀ fp,JN (eG X scope cl C (ns++N2) s₀ H₀ fp) tg ns.length TP)(ht:∀cl C s₀ H₀ fp,Wk (eG X scope cl C (ns++N2) s₀ H₀ fp) ifs tt)(he:∀cl C s₀ H₀ fp,QE (eG X scope cl C (ns++N2) s₀ H₀ fp) elt te)(hs:∀x,foldedSetIterable iter X.env x=pure x:=by intro _;rfl):QE X (.ListComp elt [⟨tg,iter,ifs,0⟩] scope pos) (zR f ns.length wi TP tt te):=⟨ZL hc ok hi.out hg (λcl C s₀ H₀ fp=>(ht cl C s₀ H₀ fp).out) (λcl C s₀ H₀ fp=>(he cl C s₀ H₀ fp).out) hs⟩
def vf (n i:Nat)(D:Addr)(TP:V->Hp->(St->Prop)->Prop)(f:St->St)(σ:St)(tt:TT)(te:TE)(x:V)(H:Hp)(ys:List V)(P:List V->Hp->Prop):Prop:=CZ TP f σ tt te x H (Dy n i D ys P) λH2=>dM n i (P ys H2)
def C_ {K:W.Frag}{a:Addr}{f:St->St}{σ:St}{tt:TT}{te:TE}:=@Bv (λH=>aP K H a) (CZ (λv _ Q=>Q [some v]) f σ tt te)
def FN {K:W.Frag}{a:Addr}{f:St->St}{σ:St}{tt:TT}{te:TE}:=@Bv (λH=>aN K H a) (CZ (λv _ Q=>Q [some v]) f σ tt te)
def Ud {l:List Nat}{f:St->St}{tt:TT}{D:Addr}{te:TE}{σ:St}{H:Hp}{R:Hp->Prop}(Pv:Nat->List V->Hp->Prop)(h0:Pv 0 [] (upd H D (.lst [])))(hs:∀i c ys H,l[i]?=some c->Pv i ys H->vf l.length i D (λv _ Q=>Q [some v]) f σ tt te (.str (S [c])) H ys (Pv (i+1)))(hd:∀ys H,Pv l.length ys H->R H):rH (Its l) D H R (CZ (λv _ Q=>Q [some v]) f σ tt te):=Dz l.length Pv h0 (λi ys H h p=>⟨h,λx H' y=>by let⟨rfl,c,hc,rfl⟩:=y;show hs i c ys _ hc p⟩) λys H p=>⟨ah _,hd ys H p⟩
noncomputable def vU {K KT:W.Frag}{a:Addr}{f:St->St}{σ:St}{tt:TT}{te:TE}:=@Bv (λH=>aP K H a) (CZ (λv H Q=>∃a p q r,v=.ref a/\aN KT H a [p,q,r]/\Q [some p,some q,some r]) f σ tt te)
noncomputable def jY {K KT:W.Frag}{a:Addr}{f:St->St}{σ:St}{tt:TT}{te:TE}:=@Bv (λH=>aN K H a) (CZ (λv H Q=>∃a p q r,v=.ref a/\aN KT H a [p,q,r]/\Q [some p,some q,some r]) f σ tt te)
def abn (h:te ([some x]++f σ) H λy H3=>H3 D=some (.lst ys)/\ys.length<sizeLine/\dM n i (P (ys++[y]) (upd H3 D (.lst (ys++[y]))))):vf n i D (λv _ Q=>Q [some v]) f σ gG te x H ys P:=by show (if true=true then (te ([some x]++f σ) H λy H3=>H3 D=some (.lst ys)/\ys.length<sizeLine/\dM n i (P (ys++[y]) (upd H3 D (.lst (ys++[y]))))) else dM n i (P ys H));rw[if_pos rfl];show h
def abo {KT:W.Frag}{n i:Nat}{p q:V}{f:St->St}{x:V}{ys:List V}{P:List V->Hp->Prop}(hx:x=.ref a)(hS:aN KT H a [p,q])(h:te ([some p,some q]++f σ) H λy H3=>H3 D=some (.lst ys)/\ys.length<sizeLine/\dM n i (P (ys++[y]) (upd H3 D (.lst (ys++[y]))))):vf n i D (λv H Q=>∃a p q,v=.ref a/\aN KT H a [p,q]/\Q [some p,some q]) f σ gG te x H ys P:=by calc JE a p q ⟨hx,hS,?_⟩;show (if true=true then (te ([some p,some q]++f σ) H λy H3=>H3 D=some (.lst ys)/\ys.length<sizeLine/\dM n i (P (ys++[y]) (upd H3 D (.lst (ys++[y]))))) else dM n i (P ys H));rw[if_pos rfl];show h
def sS {KT:W.Frag}{n i:Nat}{p q r:V}{f:St->St}{x:V}{ys:List V}{P:List V->Hp->Prop}(hx:x=.ref a)(hS:aN KT H a [p,q,r])(h:te ([some p,some q,some r]++f σ) H λy H3=>H3 D=some (.lst ys)/\ys.length<sizeLine/\dM n i (P (ys++[y]) (upd H3 D (.lst (ys++[y]))))):vf n i D (λv H Q=>∃a p q r,v=.ref a/\aN KT H a [p,q,r]/\Q [some p,some q,some r]) f σ gG te x H ys P:=by calc JI a p q r ⟨hx,hS,?_⟩;show (if true=true then (te ([some p,some q,some r]++f σ) H λy H3=>H3 D=some (.lst ys)/\ys.length<sizeLine/\dM n i (P (ys++[y]) (upd H3 D (.lst (ys++[y]))))) else dM n i (P ys H));rw[if_pos rfl];show h
section
variable {X:Cx}
def acg:V->List V->Hp->VK->Prop:=λx vs H Q=>∃(l:Addr) (us:AA) (w:List Nat),x=.ref l/\vs=[.str (S w)]/\H l=some (.lst (Ts us))/\w∈us/\us.length<=1000/\Q .non (upd H l (.lst (Ts (us.erase w))))
def strEq (w:List Nat)(u:Value):Bool:=match u with| .str z _=>z.cps.toList==w| _=>false
def Wq {us:AA}:us.erase w=us.eraseIdx (us.idxOf w):=by
 induction us with
 | nil=>rfl
 | cons a r ih=>
  by_cases h:a=w;.subst h;simp
  .rw[oQ (by simpa using h),List.idxOf_cons,cond_eq_ite,if_neg (by simpa using h),rh,ih]
def Wr:MtM X "list.remove" acg:=by
 intro ao s σ H x vs v us Q I rx rv h;let⟨l,ls,w,rfl,rfl,hH,hw,hz,q⟩:=h;cases rx;let⟨u,rfl,ru⟩:=rv.one;let⟨t,rfl⟩:=ru;let⟨z,its,n,r,hl,e⟩:=I.Hx hH;let bW:its.length=ls.length:=by rw[<-hl,ab]
 let hj:ls.idxOf w<ls.length:=List.idxOf_lt_length_of_mem hw;let get:∀(m:Nat) (hm:m<its.toArray.size),∃(tk:Tok) (hm':m<ls.length),its.toArray[m]=.str (S ls[m]) tk:=λm hm=>by
  let hm':m<ls.length:=by simp at hm;simp_all
  let⟨u1,e1,s1⟩:=r.get (i:=m) (x:=.str (S ls[m])) (by simp[hm']);let⟨tk,rfl⟩:=s1;calc⟨tk,hm',?_⟩;rw[ae hm]at e1;simpa using e1
 refine call_meets F.slot_list_remove ⟨_,e,RA⟩ F.entry_list_remove (F.args_list_remove_2 _ _) (PySem.MeetsSeq.list_remove l its.toArray n (.str (S w) t) (strEq w) (λy hy=>?_) (ls.idxOf w) (by rw[bq];simp_all) ?_ (λm hm hm2=>?_) (by rw[bq,bW];show aT (aL hz))) ⟨e,?_⟩
 .let⟨m,hm,rfl⟩:=Array.mem_iff_getElem.mp hy;let⟨tk,_,e1⟩:=get m hm;rw[e1];show PySem.SeqRoads2.EqGives.str _ _ _ _
 .let⟨tk,hm',e1⟩:=get (ls.idxOf w) (by rw[bq];lia);rw[e1];show (ls[ls.idxOf w]==w)=true;rw[List.getElem_idxOf];simp
 .let⟨tk,hm',e1⟩:=get m hm;rw[e1];show (ls[m]==w)=false;have:=List.not_of_lt_findIdx (p:=λa=>a==w) (xs:=ls) (show m<ls.findIdx (λa=>a==w) from hm2);simpa using this
 .refine⟨.non,_,I.Zk (its':=its.eraseIdx (ls.idxOf w)) hH e ?_ ?_ ?_,RA,q⟩
  .rw[Array.eraseIdxIfInBounds,dif_pos (by rw[bq];lia)];simp
  .rw[Wq];let hv:=Vals.eraseIdx (ls.idxOf w) r;let em:∀(xs:AA) (i:Nat),Ts (xs.eraseIdx i)=(Ts xs).eraseIdx i:=by
    intro xs
    induction xs with
    | nil=>intro i;rfl
    | cons a r ih=>
     intro i;cases i with| zero=>rfl| succ i=>rw[rh,Ts,b6,Ts,b6,rh];congr 1;show ih i
   rw[em];show hv
  .rw[ab];show a8 (s_ ..) (aT (aL hz))
def aeP (K:W.Frag):List V->Hp->VK->Prop:=λxs H Q=>∃(a:Addr) (ws:AA),xs=[.ref a]/\aP K H a (Ts ws)/\ws.length<64/\∀(p:Addr) (ws':AA),H p=none->ws'.Perm ws->ws'.Pairwise (λa b=>decide (b<a)=false)->Q (.ref p) (upd H p (.lst (Ts ws')))
def zZ:fU X (.builtin "sorted") (aeP X.K):=by
 walk_at"k";let⟨a,ws,rfl,hS,h64,q⟩:=h;let⟨u,rfl,ru⟩:=vals1 r;cases ru;let⟨its,rv,pl,_⟩:=I.list hS;let bW:its.length=ws.length:=by have:=rv.length;simpa using this.symm
 calc sorted_strs pl.isList (BJ rv) (by simp_all) λout ss' a1 a2 a3=>?_;let⟨e,he⟩:=sortedAll_at s.heap its out;let wM:(ss'.map λy=>y.cps.toList).Perm ws:=by have:=a2.map λy:Str=>y.cps.toList;rw[eD]at this;let e:((λy:Str=>y.cps.toList) ∘ S)=id:=rfl;rw[e,lS]at this;show this
 let hv:Vals (Ts (ss'.map λy=>y.cps.toList)) out.toList:=by
  have:=uf a1;let es:(ss'.map V.str)=Ts (ss'.map λy=>y.cps.toList):=by rw[Ts,eD];show gd λy _=>by simp[Function.comp_def,aeA]
  rw[es]at this;show this
 let hl:(Ts (ss'.map λy=>y.cps.toList)).length<=sizeLine:=by rw[ab,wM.length_eq];show aT (aL wT)
 refine⟨.ref (s.heap.objs.size+1),_,I.laid (o:=.lst _) (t':=s.toks) (λb o z=>sortedAll_old z) (gy _) ⟨hl,out.toList,e,hv,by rw[sT];show he⟩,RA,q _ _ (I.hok.fresh (gy _)) wM (JT ss' a3)⟩
def ag0 (t:TS):TS:=λD σ H=>∃Iv:St->Hp->Prop,t {D with nx:=Iv} σ H/\∀σ' H',Iv σ' H'->D.nx σ' H'
def z_ {st:Stmt}(h:QS X st t):QS X st (ag0 t):=⟨λao s σ H D I ⟨Iv,a,b⟩=>by
 calc bM (h.out ao s σ H _ I a) λf s' q=>?_;cases f with
 | next=>let⟨σ7,H7,I7,n7⟩:=q;show⟨σ7,H7,I7,b _ _ n7⟩
 | cont=>show q
 | brk=>show q
 | ret v=>show q⟩
end
end L2
namespace L2
open PySem PySem.Spec PyProof.Rows PySem.W
def aeQ (H:Hp)(cf:Addr->Nat)(a:Addr):Prop:=∃(x y:Nat) (rest:List V),H a=some (.tup (.int x :: .int y::rest))/\y<1000/\cf a=x*1000+y/\(rest=[]\/∃z,rest=[.str z])
section
variable {X:Cx}{pos:Pos}
variable {prog:Program}{w:World}{A:Around}{E:AB}{s:Shared}
def aeR (K:W.Frag):List V->Hp->VK->Prop:=λxs H Q=>∃(L:Addr) (as:List Addr) (cf:Addr->Nat),xs=[.ref L]/\aP K H L (as.map V.ref)/\as.length<64/\(∀a∈as,aeQ H cf a)/\(as.map cf).Nodup/\
 ∀(p:Addr) (as':List Addr),H p=none->as'.Perm as->(as'.map cf).Pairwise (·<·)->Q (.ref p) (upd H p (.lst (as'.map V.ref)))
theorem vg:∀{as:List Addr} {us:List Value},Vals (as.map V.ref) us->us=as.map Value.ref
 | [],_,.nil=>rfl
 | a::as,_,.cons r t=>by cases r;rw[b6,vg t]
theorem Aa:∀(as:List Addr),Vals (as.map V.ref) (as.map Value.ref)
 | []=>.nil
 | a::as=>.cons RA (Aa as)
open Classical in
def ZM (K:W.Frag)(neg:Bool):R2:=λx y H Q=>∃n d es,n<=60/\gH K H n d x/\gH K H n (.tup es) y/\Q (.bl (if neg then !decide (d∈es) else decide (d∈es))) H
open Classical in
theorem HF (d:Dt):∀es:List Dt,((d_ es).any λy=>PyData.eqv y (toP d))=decide (d∈es)
 | []=>by simp[d_]
 | e::es=>by
  rw[d_,nw,HF d es,HB];by_cases z:e=d;.subst z;simp
  .let z':¬d=e:=λy=>z y.symm
   simp[z,z']
def ach {o i:Expr}{td ty:TE}(hu:X.A.units+1<cLine)(ho:QE X o td)(hi:QE X i ty)(hs:Zq i):QE X (.Subscript o i pos) (abg td ty):=⟨ab3 hu ho.out hi.out hs⟩
def ZP:QE X (.Dict [] [] pos) Wd:=⟨Zv⟩
def aeS {a b:Addr}{oa ob:Obj}{na nb:Nat}{x1 y1 x2 y2:Nat}{t1 t2 t3 t4:Tok}{r1 r2:List Value}{Q:AB}(ha:s.heap.get? a=some oa)(ca:oa.cls=.type "tuple")(da:oa.data=.seq (Value.int x1 t1::Value.int y1 t2::r1).toArray na)(hb:s.heap.get? b=some ob)(cb:ob.cls=.type "tuple")(db:ob.data=.seq (Value.int x2 t3::Value.int y2 t4::r2).toArray nb)(l1:y1<1000)(l2:y2<1000)(hu:A.units<cLine)(hne:x1*1000+y1≠x2*1000+y2)(q:Q (.bool (decide (x1*1000+y1<x2*1000+y2))) s):wpAny (model prog w) A (compareOp .Lt (.ref a) (.ref b)) Q E s:=by
 let Ta:s.TypeIs (.ref a) "tuple":=⟨oa,ha,ca⟩
 let Tb:s.TypeIs (.ref b) "tuple":=⟨ob,hb,cb⟩
 show wpAny _ _ (richCompare .Lt (.ref a) (.ref b)) Q E s;calc kM (op:=.Lt) (T:="tuple") Ta Tb nV (cE nV Ta F.entry_tuple_lt ?_ (vn _ _)) hu;walk_at"j";rw[show (Value.int (x1:Int) t1::Value.int (y1:Int) t2::r1).toArray.toList.zip (Value.int (x2:Int) t3::Value.int (y2:Int) t4::r2).toArray.toList=(Value.int (x1:Int) t1,Value.int (x2:Int) t3)::(Value.int (y1:Int) t2,Value.int (y2:Int) t4)::r1.zip r2 from rfl];walk_at"m";by_cases ex:x1=x2
 .subst ex;simp only[beq_self_eq_true,dE,a7,if_false];calc ag ?_;dsimp only;walk_at"m";let ey:((y1:Int)==(y2:Int))=false:=by
   apply beq_eq_false_iff_ne.mpr;intro z;show hne wT
  simp only[ey,ic,if_true];calc aa (fo (aa (lt_int ?_)));calc aa (ag (ag (ag (ag ⟨_,RA,w8,?_⟩))));rw[show decide ((y1:Int)<(y2:Int))=decide (x1*1000+y1<x1*1000+y2) by simp];show q
 .let ey:((x1:Int)==(x2:Int))=false:=by
   apply beq_eq_false_iff_ne.mpr;intro z;show ex wT
  simp only[ey,ic,if_true];calc aa (fo (aa (lt_int ?_)));calc aa (ag (ag (ag (ag ⟨_,RA,w8,?_⟩))));rw[show decide ((x1:Int)<(x2:Int))=decide (x1*1000+y1<x2*1000+y2) by
    by_cases z:x1<x2;.rw[ar (oB gx z),ar wT]
    .rw[am (by simp[*]),am wT]]
  show q
def ag1:R2:=λx y H Q=>∃(a b:Addr) (x1 y1 x2 y2:Nat) (r1 r2:List V),x=.ref a/\y=.ref b/\H a=some (.tup (.int x1 :: .int y1::r1))/\H b=some (.tup (.int x2 :: .int y2::r2))/\y1<1000/\y2<1000/\x1*1000+y1≠x2*1000+y2/\
 Q (.bl (decide (x1*1000+y1<x2*1000+y2))) H
def aeT (hu:X.A.units<cLine):eO X (compareOp .Lt) ag1:=by
 walk_at"f";let⟨a,b,x1,y1,x2,y2,r1,r2,rfl,rfl,ea,eb,l1,l2,hne,q⟩:=h;cases rx;cases ry;let⟨_,tv,Ws,o,ho,hc,n,hd⟩:=I.hok _ _ ea;let⟨_,tv',ZQ,o',ho',hc',n',hd'⟩:=I.hok _ _ eb;cases Ws with
 | cons q1 rr=>
  cases rr with
  | cons q2 rr=>
   cases ZQ with
   | cons q3 rr'=>
    cases rr' with| cons q4 rr'=>let⟨t1,rfl⟩:=q1;let⟨t2,rfl⟩:=q2;let⟨t3,rfl⟩:=q3;let⟨t4,rfl⟩:=q4;show aeS ho hc hd ho' hc' hd' l1 l2 hu hne ⟨.bl _,H,I,RA,q⟩
def aeU:List V->Hp->VK->Prop:=λxs H Q=>∃l:List Nat,xs=[.str (S l)]/\l.length<=1000/\∀p,H p=none->Q (.ref p) (upd H p (.lst (Ts (l.map λc=>[c]))))
theorem JZ:∀(l:List Nat) (us:List Value),us.length=l.length->(∀(i c:Nat),l[i]?=some c->∃t,us[i]?=some (.str (S [c]) t))->Vals (Ts (l.map λc=>[c])) us
 | [],[],_,_=>.nil
 | [],_::_,h,_=>by simp at h
 | _::_,[],h,_=>by simp at h
 | c::l,u::us,h,k=>by let⟨t,e⟩:=k 0 c rfl;let e:u=.str (S [c]) t:=bb e;show .cons ⟨t,e⟩ (JZ l us (by simpa using h) λi d hd=>k (i+1) d hd)
def yd (hc:X.calm=true):fU X (.type "list") aeU:=by
 walk_at"k";let⟨l,rfl,hl,q⟩:=h;let⟨u,rfl,ru⟩:=vals1 r;let⟨t,rfl⟩:=ru;let hz:l.length<=sizeLine:=aT (aL hl);calc call_list_str (I.ok.hd hc) (S l) t (λh' tk acc c' hk hD hacc=>?_) (by show l.toArray.size<=_;simpa using hz);let hsz:acc.size=l.length:=by rw[hacc.1];show l.toArray.size=_;simp
 calc⟨.ref s.heap.objs.size,_,I.laid (o:=.lst (Ts (l.map λc=>[c]))) (t':=tk) hk (ah _) ⟨by rw[ab,ab];show hz,acc.toList,c',?_,by simpa using hD⟩,RA,q _ (I.hok.fresh (ah _))⟩;calc JZ l acc.toList (by rw[bo];show hsz) λi c hc=>?_;let hi:i<acc.size:=by rw[hsz];show(al.mp hc).1
 let⟨c2,t2,e1,e2⟩:=hacc.2 i acc[i] (by simp[hi]);let e1:l.toArray[i]?=some c2:=e1;rw[List.getElem?_toArray,hc]at e1;let e1:=bb e1;show⟨t2,by rw[cn,bX hi,e2,e1];rfl⟩
end
end L2
namespace L2
open PySem PySem.Spec PyProof.Rows
def aci {X:Cx}{ix:Nat}{xn:Str}{HJ spos:Pos}{elt iter tg:Expr}{ns N2:List Str}{f:St->St}{TP:V->Hp->(St->Prop)->Prop}{ifs:List Expr}{scope:Scope}{pos:Pos}{wi:TI}{tt:TT}{te:TE}(hN:X.N.Nodup)(hxi:X.N[ix]?=some xn)(Dc:Loc X.env.scope xn)(hc:X.calm=true)(ok:fL X scope ns N2 f)(hi:PI X tg iter wi)(hg:∀cl C s₀ H₀ fp,JN (eG X scope cl C (ns++N2) s₀ H₀ fp) tg ns.length TP)(ht:∀cl C s₀ H₀ fp,Mv (eG X scope cl C (ns++N2) s₀ H₀ fp) ifs tt)(he:∀cl C s₀ H₀ fp,PE (eG X scope cl C (ns++N2) s₀ H₀ fp) elt te)(hs:∀x,foldedSetIterable iter X.env x=pure x:=by intro _;rfl)(hsw:swapsWith (.ListComp elt [⟨tg,iter,ifs,0⟩] scope pos) (some (.Name xn HJ)) spos.line X.env=pure true:=by rfl)(hf:X.fn xn=true\/X.env.scope.names.lookup xn=some .local:=by first|show .inl rfl|show .inr rfl|assumption):PS X (.Assign [.Name xn HJ] (.ListComp elt [⟨tg,iter,ifs,0⟩] scope pos) spos) (Hu (zR f ns.length wi TP tt te) (oZ ix)):=λao s σ H De I h=>by
 rw[exec_Assign_Name_used _ _ _ _ hsw];calc aa (r_ (aa (aa ?_)));calc bM (Q:=λ_ s'=>∃σ' H',aM X ao σ' H' s'/\De.nx σ' H') ?_ λ_ s' hq=>ag (ag hq);calc zT (use:=some (assign (.Name xn HJ) X.env)) hc ok hi hg ht he hs I h λD C H4 s5 m hn bk fC qn=>?_;calc vi (u9 (bk s5.heap (Heap.SameBut.refl _ _)) hN hxi Dc (show bN (.ref D) (.ref D) from RA) (λs6 I6 ⟨a,sb6,ha⟩ _=>?_) hf);let nCa:C≠a:=by
  rcases ha with z|z;.rw[z];show fC.2.1
  .show λy=>fC.2.2.2.2.1 _ _ z y.symm
 let⟨o,es,ep,e1,e2⟩:=hn;refine⟨m,(JE o es ep ⟨(sb6.2 C nCa).trans e1,e2⟩),λh' sb=>⟨_,H4,I6.turned (t':=s6.toks) (λb o hb e=>(sb.2 b hb).trans e) fC.1 fC.2.1 fC.2.2.2.1 fC.2.2.2.2.1 fC.2.2.2.2.2,qn⟩⟩
def Ro {X:Cx}{ix:Nat}{xn:Str}{HJ spos:Pos}{elt iter tg:Expr}{ns N2:List Str}{f:St->St}{TP:V->Hp->(St->Prop)->Prop}{ifs:List Expr}{scope:Scope}{pos:Pos}{wi:TI}{tt:TT}{te:TE}(hN:X.N.Nodup)(hxi:X.N[ix]?=some xn)(Dc:Loc X.env.scope xn)(hc:X.calm=true)(ok:fL X scope ns N2 f)(hi:QI X tg iter wi)(hg:∀cl C s₀ H₀ fp,JN (eG X scope cl C (ns++N2) s₀ H₀ fp) tg ns.length TP)(ht:∀cl C s₀ H₀ fp,Wk (eG X scope cl C (ns++N2) s₀ H₀ fp) ifs tt)(he:∀cl C s₀ H₀ fp,QE (eG X scope cl C (ns++N2) s₀ H₀ fp) elt te)(hs:∀x,foldedSetIterable iter X.env x=pure x:=by intro _;rfl)(hsw:swapsWith (.ListComp elt [⟨tg,iter,ifs,0⟩] scope pos) (some (.Name xn HJ)) spos.line X.env=pure true:=by rfl)(hf:X.fn xn=true\/X.env.scope.names.lookup xn=some .local:=by first|show .inl rfl|show .inr rfl|assumption):QS X (.Assign [.Name xn HJ] (.ListComp elt [⟨tg,iter,ifs,0⟩] scope pos) spos) (Hu (zR f ns.length wi TP tt te) (oZ ix)):=⟨aci hN hxi Dc hc ok hi.out hg (λa b c d e=>(ht a b c d e).out) (λa b c d e=>(he a b c d e).out) hs hsw hf⟩
end L2
namespace L2
open PySem PySem.Spec PyProof.Rows PySem.W
section
variable {X:Cx}
theorem FP:∀(m:AA) (l:List Value),l.length=m.length->(∀(j:Nat) (c:List Nat),m[j]?=some c->∃t,l[j]?=some (.str (S c) t))->Vals (Ts m) l
 | [],[],_,_=>.nil
 | [],_::_,h,_=>by simp at h
 | _::_,[],h,_=>by simp at h
 | c::m,a::l,h,k=>by
  let⟨t,e⟩:=k 0 c rfl;let e':a=.str (S c) t:=by simpa using e
  subst e';show .cons ⟨t,RA⟩ (FP m l (by simpa using h) λj c hj=>k (j+1) c hj)
def aeV:List V->Hp->VK->Prop:=λxs H Q=>∃(d:Addr) (kvs:List (Key×V)) (ws:AA),xs=[.ref d]/\H d=some (.dK kvs)/\kvs.map (·.1)=ws.map gR/\ws.length<=900/\∀p:Addr,H p=none->Q (.ref p) (upd H p (.lst (Ts ws)))
def Ue (hc:X.calm=true):fU X (.type "list") aeV:=by
 walk_at"k";let⟨d,kvs,ws,rfl,hd,hk,h64,q⟩:=h;let⟨u,rfl,ru⟩:=vals1 r;cases ru;let⟨hz,lo,vs,rel,dd⟩:=T8 I.hok hd;let⟨ep,hat⟩:=dd.dictAt;let hkv:=KV.keys rel;let zW:vs.length=ws.length:=by let h1:=KV.length rel;let h2:=congrArg List.length hk;simp at h2;lia
 calc kdl_call (kdl_dict (knd:=dz X.prog X.w) (kvs:=vs) (ep:=ep) lo) (I.ok.hd hc) hat (by rw[zW];show aT (aL wT)) λh' tk acc c' hk' hD hacc=>?_;let hv:Vals (Ts ws) acc.toList:=by
  calc FP ws _ (by rw[bo,hacc.1,zW]) λj c hj=>?_;let hjl:j<acc.size:=by rw[hacc.1,zW];show(al.mp hj).1
  let⟨k,x,hx,hi⟩:=hacc.2 j acc[j] (by simp[hjl]);let hkj:(ws.map gR)[j]?=some k:=by rw[<-hk,hkv,a_,hx];rfl
  rw[a_,hj]at hkj;let e:gR c=k:=by simpa using hkj
  subst e;rcases dH (show jE (Sum.inr (S c)) acc[j]=true from hi) with⟨i,t,e1,_⟩|⟨y,t,e1,e2⟩;.cases e1
  .cases e1;show⟨t,by rw[cn,bX hjl,e2]⟩
 show⟨.ref s.heap.objs.size,_,I.laid (o:=.lst _) (t':=tk) hk' (ah _) ⟨by rw[ab];show aT (aL wT),acc.toList,c',hv,by simpa using hD⟩,RA,q _ (I.hok.fresh (ah _))⟩
end
end L2
namespace L2
open PySem PySem.Spec PyProof.Rows PySem.W
open AutoSeq1 (wpAny_loadPart')
section
variable {prog:Program}{w:World}{A:Around}{E:AB}{s:Shared}
def ZR (t:s.heap.IsTupleIter u a i)(p:s.heap.IsTuple a g)(hx:g[i]?=some x)(q:∀h',h'.IsTupleIter u a (i+1)->Heap.SameBut u s.heap h'->Q x {s with heap:=h' }):wpAny (model prog w) A (Builtin.SmallTypes.nextOf (.ref u)) Q E s:=by let⟨o,ho,hc,hd⟩:=id t;let⟨ol,hol,_,nl,hdl⟩:=p;unfold Builtin.SmallTypes.nextOf;walk_at"l";rw[if_neg (show ¬((Value.ref a==Value.none)=true) from b8)];show wpAny _ _ (field (.ref u) 1 >>= _) _ _ s;calc aa (eB ho hd (x:=.int i 0) RA ?_);show wpAny _ _ (seqItems? (.ref a) >>= _) _ _ s;calc aa (eI hol hdl ?_);simp only[de,hx];calc aa (iS ho hd w8 (ag ⟨x,RA,ag (q _ ?_ (ge ..))⟩));show⟨_,fw _ ho (kU (fb hd _)),(rn ..).trans hc,by rw[fb hd];simp[rawInt]⟩
def Rp (hh:A.handled=none)(t:s.heap.IsTupleIter u a i)(p:s.heap.IsTuple a g)(hx:g[i]?=none)(q:∀h' e,Heap.ExtBut u s.heap h'->(∃o,h'.get? e=some o/\o.cls=.type "StopIteration")->E (.ref e) {s with heap:=h' }):wpAny (model prog w) A (Builtin.SmallTypes.nextOf (.ref u)) Q E s:=by
 let⟨o,ho,hc,hd⟩:=id t;let⟨ol,hol,_,nl,hdl⟩:=p;unfold Builtin.SmallTypes.nextOf;walk_at"l";rw[if_neg (show ¬((Value.ref a==Value.none)=true) from b8)];show wpAny _ _ (field (.ref u) 1 >>= _) _ _ s;calc aa (eB ho hd (x:=.int i 0) RA ?_);show wpAny _ _ (seqItems? (.ref a) >>= _) _ _ s;calc aa (eI hol hdl ?_);simp only[de,hx]
 first|refine aa (fo (aa (iS ho hd w8 ?_)))|refine aa (iS ho hd w8 ?_)
 show wpAny _ _ (newExc (.type "StopIteration") [] >>= _) _ _ _;calc aa ?_;simp only[newExc,newTuple];calc aa (eQ ?_ xh);calc aa (m:=firstArgMember _ _) (og (a:=Value.none) (by first|rfl|(simp only[firstArgMember];rfl)) ?_);calc eQ ?_ xh;simp only[raiseNew];refine aa (wpAny_handled ?_)
 first|rw[show A.in1.handled=none from hh]|rw[hh]
 calc aa (ag (wpAny_throw ?_));show q _ _ (((ge ..).extBut.push _).push _) ⟨_,ax _ RA,RA⟩
def aeW (hh:A.handled=none)(u a:Addr)(hne:a≠u)(g:Array Value):Draws prog w A u [u,a] g.size (λi v=>g[i]?=some v) (λi h=>h.IsTupleIter u a i/\h.IsTuple a g) where
 live:=λ_ _ st=>let ⟨o,ho,_⟩:=st.1;⟨o,ho⟩
 frame:=λ_ _ _ st hk=>⟨st.1.at λo e=>hk u w8 o e,let ⟨o,ho,r⟩:=st.2;⟨o,hk a w8 o ho,r⟩⟩
 item:=λi s Q E hi st hQ=>by calc ZR st.1 st.2 (x:=g[i]) (by simp[hi]) λh' hit' hs'=>?_;show hQ _ h' s.toks (by simp[hi]) ⟨hit',let ⟨o,ho,r⟩:=st.2;⟨o,hs'.extBut a o hne ho,r⟩⟩ hs'
 done:=λs Q E st hE=>Rp hh st.1 st.2 w8 hE
def newT (a)(g)(n)(dct)(sl):Meets (Builtin.«enumerate.__new__» ⟨[.type "enumerate",.ref a],[]⟩) (λ_ R s=>s.heap.get? a=some {cls:=.type "tuple",dict:=dct,data:=.seq g n,slots:=sl}/\
   R (.ok (.ret (.ref (s.heap.push {cls:=.type "tuple_iterator",data:=.fields #[.ref a,.int 0 0]}).objs.size)))
    {s with heap:=(s.heap.push {cls:=.type "tuple_iterator",data:=.fields #[.ref a,.int 0 0]}).push {cls:=.type "enumerate",data:=.fields #[.none,.bool false,.ref s.heap.objs.size,rawInt 0,.none,.none]} }):=
 .of_wp λprog w A R s h=>by
  let⟨hp,g,d,tk,os⟩:=s;let⟨hl,h⟩:=h;let hsub:=sub_enumerate;let hL:Heap.IsTuple (Shared.heap ⟨hp,g,d,tk,os⟩) a _:=⟨_,hl,RA,n,RA⟩
  wp_walk using tf hl
  refine wpAny_stack_any λst=>ag ?_
  split
  .rename_i c _ _ _ _ _;cases(c==Value.type "enumerate")
   .wp_walk using tf hl,nI hL
    show⟨_,RA,h⟩
   .wp_walk using tf hl,nI hL
    show⟨_,RA,h⟩
  .wp_walk using tf hl,nI hL
   show⟨_,RA,h⟩
def ago (hL:s.heap.IsTuple a g)(q:∀h',IsEnum h' (s.heap.objs.size+1) s.heap.objs.size 0 .none->h'.IsTupleIter s.heap.objs.size a 0->h'.objs.size=s.heap.objs.size+2->(∀b o,s.heap.get? b=some o->h'.get? b=some o)->Q (.ref (s.heap.objs.size+1)) {s with heap:=h' }):wpAny (model prog w) A (call (.type "enumerate") [.ref a]) Q E s:=by
 obtain⟨⟨c,dct,dt,sl⟩,hl,hc,n,hd⟩:=hL;replace hc:c=.type "tuple":=hc;replace hd:dt=.seq g n:=hd;subst hc hd;calc callType_new qo w_ (F.typeCall_enumerate_1 _) (F.newCall_enumerate_1 _) (λobj=>F.args_object_init_2 obj _) F.entry_enumerate_new (newT a g n dct sl) ⟨hl,?_⟩;let hz:(s.heap.push {cls:=.type "tuple_iterator",data:=.fields #[.ref a,.int 0 0]}).objs.size=s.heap.objs.size+1:=dA ..;show _/\_;rw[hz];let he:IsEnum ((s.heap.push {cls:=.type "tuple_iterator",data:=.fields #[.ref a,.int 0 0]}).push {cls:=.type "enumerate",data:=.fields #[.none,.bool false,.ref s.heap.objs.size,rawInt 0,.none,.none]}) (s.heap.objs.size+1) s.heap.objs.size 0 .none:=by have:=ax (s.heap.push {cls:=.type "tuple_iterator",data:=.fields #[.ref a,.int 0 0]}) (o:={cls:=.type "enumerate",data:=.fields #[.none,.bool false,.ref s.heap.objs.size,rawInt 0,.none,.none]}) rfl;rw[hz]at this;show this
 show⟨⟨_,he,RA⟩,q _ he ⟨_,af _ (ax _ RA),RA,RA⟩ (by rw[dA,hz]) λb o x=>af _ (af _ x)⟩
end
section
variable {X:Cx}{ao:AC}{σ:St}{H:Hp}{s:Shared}{h':Heap}
def aM.BR {t':Nat}{fp:List Addr}(I:aM X ao σ H s)(k:∀b o,b∉fp->s.heap.get? b=some o->h'.get? b=some o)(hf:∀b∈fp,nZ X ao H b):aM X ao σ H {s with heap:=h',toks:=t' }:=by
 let Vy:∀b u,H b=some u->b∉fp:=λb u e z=>by rw[(hf b z).1]at e;cases e
 refine I.step (g':=s.gens) (d':=s.drawn) (ch:=fp) (λb hb=>?_) (λb o _ _ hc e _=>k b o hc e) (λb o _ _ hc e _=>⟨o.slots,k b o hc e⟩) (λ_ _ _ _ n=>n)
  (λb o hc e=>⟨o,k b o hc e⟩) (λ_ _ e=>e) (λ_ _ _ e=>e) (λb ps e=>⟨#[],by rw[e];simp⟩) (λm hm=>?_) (λb u e=>?_) I.bare
 .let⟨f0,f1,f2,f3,f4,f5⟩:=hf b hb;show⟨f3,f1,f4,f5⟩
 .let⟨o,es,ep,ho,r⟩:=hm;show JE o es ep ⟨k _ o (λz=>(hf _ z).2.1 RA) ho,r⟩
 .refine(I.hok b u e).stay (λc v hc q=>k c v ?_ q) (λ_ q=>q) λ_ _ q=>q
  rcases hc with z|z;.rw[z];show Vy b u e
  .show Vy c _ z
def aM.pair {e it:Addr}{i tk:Nat}{x:V}{u:Value}{h1 h2:Heap}(I:aM X ao σ H s)(hf:∀b∈[e,it],nZ X ao H b)(le:e<s.heap.objs.size)(li:it<s.heap.objs.size)(rx:bN x u)(hT:h1.get? s.heap.objs.size=some {cls:=.type "tuple",data:=.seq #[.int i tk,u]})(hk:∀b o,b≠e->b≠it->s.heap.get? b=some o->h1.get? b=some o)(hs:Heap.SameBut e h1 h2):aM X ao σ (upd H s.heap.objs.size (.tup [.int i,x])) {s with heap:=h2,toks:=tk+1}/\∀b∈[e,it],upd H s.heap.objs.size (.tup [.int i,x]) b=none:=by
 let I2:aM X ao σ (upd H s.heap.objs.size (.tup [.int i,x])) {s with heap:=s.heap.push {cls:=.type "tuple",data:=.seq #[.int i tk,u]},toks:=tk+1}:=I.laid (λb v e=>af _ e) (ah _) ⟨zsz 2,[.int i tk,u],.cons ⟨tk,RA⟩ (.cons rx .nil),⟨_,ax _ RA,RA,_,RA⟩⟩
 let ne:∀b∈[e,it],b≠s.heap.objs.size:=λb hb=>by
  rcases ba.mp hb with z|z;.rw[z];show bn le
  .rw[ap.mp z];show bn li
 let fr:∀b∈[e,it],upd H s.heap.objs.size (.tup [.int i,x]) b=none:=λb hb=>by rw[bw (ne b hb)];show(hf b hb).1
 let I3:=aM.BR (s:={s with heap:=s.heap.push {cls:=.type "tuple",data:=.seq #[.int i tk,u]},toks:=tk+1}) (h':=h2) (fp:=[e,it]) (t':=tk+1) I2 (λb o hb g=>?_) λb hb=>?_
 .show⟨I3,fr⟩
 .let nbe:b≠e:=λz=>hb (by simp[z])
  let nbi:b≠it:=λz=>hb (by simp[z]);rw[hs.2 b nbe];rcases Heap.get?_push_cases g with⟨z1,z2⟩|z
  .rw[z1,z2];show hT
  .show hk b o nbe nbi z
 .let⟨f0,f1,f2,f3,f4,f5⟩:=hf b hb;show⟨fr b hb,f1,f2,f3,f4,f5⟩
end
def ZS (K:W.Frag)(a:Addr):It:=⟨λi H=>∃xs x,aN K H a xs/\xs[i]?=some x,λi H v H'=>∃T y,H T=none/\v=.ref T/\(∀xs,aN K H a xs->xs[i]?=some y)/\H'=upd H T (.tup [.int i,y]),λi H=>∃xs,aN K H a xs/\xs.length<=i⟩
def M8 (l:List Nat):It:=⟨λi _=>i<l.length,λi H v H'=>∃T c,H T=none/\v=.ref T/\l[i]?=some c/\H'=upd H T (.tup [.int i,.str (S [c])]),λi _=>l.length<=i⟩
section
variable {prog:Program}{w:World}{A:Around}{E:AB}{s:Shared}
def Qe {it:Addr}{fp:List Addr}{n:Nat}{Pv:Nat->Value->Prop}{St:Nat->Heap->Prop}(D:Draws prog w A it fp n Pv St)(k:Nat):Draws prog w A it fp (k+n) (λj v=>∃i,j=k+i/\Pv i v) (λj h=>∃i,j=k+i/\St i h) where
 live:=λj h ⟨i,_,st⟩=>D.live i h st
 frame:=λj h h' ⟨i,e,st⟩ hk=>⟨i,e,D.frame i h h' st hk⟩
 item:=λj s Q E hj ⟨i,e,st⟩ hQ=>by subst e;show D.item i s Q E (by simp_all) st λv h' tk hp st' hs'=>hQ v h' tk ⟨i,RA,hp⟩ ⟨i+1,RA,st'⟩ hs'
 done:=λs Q E ⟨i,e,st⟩ hE=>by
  have:i=n:=by lia
  subst this;show D.done s Q E st hE
end
def Ab (l:List Nat)(k:Nat):It:=⟨λi _=>i<l.length,λi H v H'=>∃T c,H T=none/\v=.ref T/\l[i]?=some c/\H'=upd H T (.tup [.int ((k+i:Nat):Int),.str (S [c])]),λi _=>l.length<=i⟩
def FQ {P:Program}{w:World}{K:W.Frag}{elts:List Expr}{x1}{pos:Pos}{ty:String}(hty:ty="str_ascii_iterator"\/ty="str_iterator")(l:List Nat)(k:Nat)(t:Tok)(it e:Addr):Turn P w K (.Tuple elts x1 pos) (Ab l k) [e,it] e (λi h=>e≠it/\i<=l.length/\(∃old,IsEnum h e it ((k+i:Nat):Int) old)/\h.IsStrIter it ty (S l) t i) where
 mem:=by simp
 obj:=λi h st b hb=>by
  obtain⟨_,_,⟨old,he⟩,o,ho,_,hd⟩:=st;rcases ba.mp hb with z|z;.show⟨_,by rw[z];show he,λv y=>by cases y⟩
  .show⟨o,by rw[ap.mp z];show ho,λv y=>by rw[hd]at y;cases y⟩
 keep:=λi h h' st k=>by obtain⟨n,le,⟨old,he⟩,o,ho,r⟩:=st;show⟨n,le,⟨old,k e w8 _ he⟩,o,k it w8 o ho,r⟩
 item:=by
  walk_at"i";obtain⟨ne,le,⟨old,he⟩,hs⟩:=st;let hh:X.A.in1.handled=none:=by simp[I.ok.hd hc]
  let hg':k+i<k+(S l).cps.size:=tS hg k;let fin:∀(D:Draws X.prog X.w X.A.in1 it [it] (S l).cps.size (λi v=>∃c u,(S l).cps[i]?=some c/\v=.str ⟨#[c]⟩ u) (λi h=>h.IsStrIter it ty (S l) t i)),
    wpAny (model X.prog X.w) X.A (pyNext (.ref e)) (λr s1=>∃u,r=some u/\wpAny (model X.prog X.w) X.A (letOwnedTupleGo (.Tuple elts x1 pos) (.ref e) u) (λ_ s2=>∃x H',aM X ao σ H' s2/\bN x u/\(Ab l k).Jz i H x H'/\(e≠it/\i+1<=l.length/\(∃old,IsEnum s2.heap e it ((k+(i+1):Nat):Int) old)/\s2.heap.IsStrIter it ty (S l) t (i+1))/\∀b∈[e,it],H' b=none) E s1) E s:=by
   intro D;calc wpAny_pyNext_enum_itemD (Qe D k) he ⟨i,RA,hs⟩ hg' ne (by simp[ne]) λx h' tk hP ho hs' hT hsz hk=>?_;let⟨i',ei,c,u,hc',rfl⟩:=hP;let⟨i'',ei2,hs'⟩:=hs';obtain rfl:i'=i:=by lia
   obtain rfl:i''=i'+1:=by lia
   calc⟨_,RA,wpAny_letOwnedTupleGo_enum ho λh2 he2 hs2=>?_⟩;let⟨o,ho2,r2⟩:=hs';let⟨oi,hoi,_⟩:=id hs;let⟨I3,fr⟩:=aM.pair (i:=k+i') (x:=.str (S [c])) I hf (a6 he) (a6 hoi) ⟨u,RA⟩ hT hk hs2;refine⟨.ref s.heap.objs.size,_,I3,RA,⟨s.heap.objs.size,c,I.hok.fresh (ah _),RA,by simpa [S] using hc',RA⟩,⟨ne,hg,⟨_,by simpa [Int.add_assoc] using he2⟩,o,(hs2.2 it (kq ne)).trans ho2,r2⟩,fr⟩
  rcases hty with rfl|rfl;.show fin (Draws.strAscii hh it (S l) t)
  .show fin (Draws.strWide hh it (S l) t)
 done:=by
  walk_at"i";obtain⟨ne,le,⟨old,he⟩,hs⟩:=st;let hh:X.A.in1.handled=none:=by simp[I.ok.hd hc]
  let hi:i=(S l).cps.size:=wt le hg;let hs':=hs;rw[hi]at hs';let⟨f0,f1,f2,f3,f4,f5⟩:=hf it w8;rcases hty with rfl|rfl
  .show wpAny_pyNext_enum_endD (Draws.strAscii hh it (S l) t) he hs' λh' eb=>⟨RA,I.turned (t':=s.toks) (λb o hb e=>eb b o hb e) f0 f1 f3 f4 f5⟩
  .show wpAny_pyNext_enum_endD (Draws.strWide hh it (S l) t) he hs' λh' eb=>⟨RA,I.turned (t':=s.toks) (λb o hb e=>eb b o hb e) f0 f1 f3 f4 f5⟩
 self:=λA i s Q E st h=>by obtain⟨_,_,⟨old,he⟩,_⟩:=st;show ox he h
def Ug {K:W.Frag}{elts:List Expr}{x1}{ty:String}(hty:ty="str_ascii_iterator"\/ty="str_iterator")(l:List Nat)(t:Tok)(it e:Addr):Turn P w K (.Tuple elts x1 pos) (M8 l) [e,it] e (λi h=>e≠it/\i<=l.length/\(∃old,IsEnum h e it i old)/\h.IsStrIter it ty (S l) t i):=by
 let h:=FQ (P:=P) (w:=w) (K:=K) (elts:=elts) (x1:=x1) (pos:=pos) hty l 0 t it e;let e1:Ab l 0=M8 l:=by unfold Ab M8;simp only[hV]
 simp only[hV]at h;rw[e1]at h;show h
def Uh {P:Program}{w:World}{K:W.Frag}{elts:List Expr}{x1}{pos:Pos}(a it e:Addr):Turn P w K (.Tuple elts x1 pos) (ZS K a) [e,it] e (λi h=>(e≠it/\a≠e/\a≠it)/\(∃old,IsEnum h e it i old)/\h.IsTupleIter it a i) where
 mem:=by simp
 obj:=λi h st b hb=>by
  obtain⟨_,⟨old,he⟩,o,ho,_,hd⟩:=st;rcases ba.mp hb with z|z;.show⟨_,by rw[z];show he,λv y=>by cases y⟩
  .show⟨o,by rw[ap.mp z];show ho,λv y=>by rw[hd]at y;cases y⟩
 keep:=λi h h' st k=>by obtain⟨n,⟨old,he⟩,o,ho,r⟩:=st;show⟨n,⟨old,k e w8 _ he⟩,o,k it w8 o ho,r⟩
 item:=by
  walk_at"i";obtain⟨⟨ne,nae,nai⟩,⟨old,he⟩,hs⟩:=st;let⟨xs,x,hq,hx⟩:=hg;let⟨its,rv,p,hz⟩:=I.tuple hq;let⟨v,hv,ru⟩:=rv.get hx;let hh:X.A.in1.handled=none:=by simp[I.ok.hd hc]
  let hit:i<its.toArray.size:=by have:=(al.mp hv).1;simpa using this
  let hpa:s.heap.IsTuple a its.toArray:=p;calc wpAny_pyNext_enum_itemD (aeW hh it a nai its.toArray) he ⟨hs,hpa⟩ hit ne (by simp[ne,nae.symm]) λy h' tk hP ho hs' hT hsz hk=>?_;calc⟨_,RA,wpAny_letOwnedTupleGo_enum ho λh2 he2 hs2=>?_⟩;obtain⟨⟨o,ho2,r2⟩,_⟩:=hs';let⟨oi,hoi,_⟩:=id hs;let ey:y=v:=by
   let h1:its[i]?=some y:=by simpa using hP
   rw[hv]at h1;show(bb h1).symm
  subst ey;let⟨I3,fr⟩:=aM.pair (x:=x) I hf (a6 he) (a6 hoi) ru hT hk hs2;refine⟨.ref s.heap.objs.size,_,I3,RA,⟨s.heap.objs.size,x,I.hok.fresh (ah _),RA,λys hy=>by rw[I.Jw hy hq];show hx,RA⟩,⟨⟨ne,nae,nai⟩,⟨_,by simpa using he2⟩,o,(hs2.2 it (kq ne)).trans ho2,r2⟩,fr⟩
 done:=by
  walk_at"i";obtain⟨⟨ne,nae,nai⟩,⟨old,he⟩,hs⟩:=st;let⟨xs,hq,hx⟩:=hg;let⟨its,rv,p,hz⟩:=I.tuple hq;let hl:=rv.length;let hh:X.A.in1.handled=none:=by simp[I.ok.hd hc]
  let⟨f0,f1,f2,f3,f4,f5⟩:=hf it w8;let hT:s.TypeIs (.ref e) "enumerate":=⟨_,he,RA⟩
  unfold pyNext;calc aa (iL (dC (name:=Str.ofString "__next__") hT F.slot_enumerate_next (cE F.slot_enumerate_next hT F.entry_enumerate_next ?_ (F.args_enumerate_next_1 _))));show wpAny _ _ (field (.ref e) 2 >>= _) _ _ _;calc aa (eB he RA (x:=.ref it) RA ?_);calc aa (Rp hh hs (show s.heap.IsTuple a its.toArray from p) (by simp;simp_all) λh' x he' hx'=>?_);let⟨o,ho,hc'⟩:=hx';calc aa (f_ (T:="StopIteration") (b:=true) ⟨o,ho,hc'⟩ isSubtype_stop ?_);show ag ⟨RA,I.turned (t':=s.toks) (λb o hb e=>he' b o hb e) f0 f1 f3 f4 f5⟩
 self:=λA i s Q E st h=>by obtain⟨_,⟨old,he⟩,_⟩:=st;show ox he h
section
variable {X:Cx}{elts:List Expr}{x1:Nat}{tp:Pos}
def aeX (ta:TA):TI:=λσ H R=>ta σ H λvs H1=>∃l,vs=[.str (S l)]/\R (M8 l) H1
def aeY (K:W.Frag)(ta:TA):TI:=λσ H R=>ta σ H λvs H1=>∃a,vs=[.ref a]/\(∃xs,aN K H1 a xs)/\R (ZS K a) H1
def ZV (hg:Gl X "enumerate")(hm:X.mg "enumerate"=none)(ha:QA X [a] ta)(hs:starEach [a] X.env=[(false,eval a X.env)]:=by rfl):QI X (.Tuple elts x1 tp) (.Call (.Name "enumerate" p) [a] [] pos) (aeX ta):=⟨by
 intro ao s σ H R I h;calc Call_ (mX I hg hm boot_enumerate (fv (bM (ha.out pos ao s σ H _ I h) λus s1 zz=>?_) hs RA));let⟨vs,H1,I1,r1,q1⟩:=zz;let⟨l,e,q⟩:=q1;subst e;cases r1 with
 | cons r rr=>
  cases rr;let⟨t,rfl⟩:=r;let hty:strIterType (S l)="str_ascii_iterator"\/strIterType (S l)="str_iterator":=by unfold strIterType;split <;> simp
  calc call_enumerate_str λh' he hit hsz hk=>ox he ?_;calc JJ (s1.heap.objs.size+1) [s1.heap.objs.size+1,s1.heap.objs.size] _ _ H1 ⟨RA,I1.kept (t':=s1.toks) hk,Ug hty l t s1.heap.objs.size _,⟨vT _,cw _,⟨_,he⟩,hit⟩,λb hb=>?_,q⟩;rcases ba.mp hb with z|z
  .rw[z];show I1.n6 (gy _) (I1.hok.fresh (gy _))
  .rw[ap.mp z];show I1.n6 (ah _) (I1.hok.fresh (ah _))⟩
def ZW (hg:Gl X "enumerate")(hm:X.mg "enumerate"=none)(ha:QA X [a] ta)(hs:starEach [a] X.env=[(false,eval a X.env)]:=by rfl):QI X (.Tuple elts x1 tp) (.Call (.Name "enumerate" p) [a] [] pos) (aeY X.K ta):=⟨by
 intro ao s σ H R I h;calc Call_ (mX I hg hm boot_enumerate (fv (bM (ha.out pos ao s σ H _ I h) λus s1 zz=>?_) hs RA));let⟨vs,H1,I1,r1,q1⟩:=zz;obtain⟨a,e,⟨xs,hq⟩,q⟩:=q1;subst e;cases r1 with
 | cons r rr=>
  cases rr;cases r;let⟨its,rv,pp,hz⟩:=I1.tuple hq;let hlt:a<s1.heap.objs.size:=by
   let⟨o,ho,_⟩:=(show s1.heap.IsTuple a its.toArray from pp)
   show a6 ho
  calc ago (show s1.heap.IsTuple a its.toArray from pp) λh' he hit hsz hk=>ox he ?_;calc JJ (s1.heap.objs.size+1) [s1.heap.objs.size+1,s1.heap.objs.size] _ _ H1 ⟨RA,I1.kept (t':=s1.toks) hk,Uh a s1.heap.objs.size _,⟨⟨vT _,bn (fF hlt),bn hlt⟩,⟨_,he⟩,hit⟩,λb hb=>?_,q⟩;rcases ba.mp hb with z|z
  .rw[z];show I1.n6 (gy _) (I1.hok.fresh (gy _))
  .rw[ap.mp z];show I1.n6 (ah _) (I1.hok.fresh (ah _))⟩
end
def Wt {K:W.Frag}{a:Addr}{xs:List V}{g:TG}{tb:TS}{D:Ends}{σ:St}{H:Hp}(Pv:Nat->St->Hp->Prop)(h0:Pv 0 σ H)(hl:∀i σ H,i<=xs.length->Pv i σ H->aN K H a xs)(hs:∀i x σ H T,xs[i]?=some x->Pv i σ H->H T=none->g (.ref T) σ (upd H T (.tup [.int i,x])) λσ2 H2=>tb {D with nx:=Pv (i+1),ct:=Pv (i+1),bk:=D.nx} σ2 H2)(hd:∀σ H,Pv xs.length σ H->D.nx σ H):Du (ZS K a) g tb D σ H:=Mi xs.length Pv h0 (λi σ H h p=>⟨⟨xs,xs[i],hl i σ H (aT h) p,by simp[h]⟩,λx H' y=>by let⟨T,y,hT,rfl,hy,rfl⟩:=y;show hs i y σ _ T (hy xs (hl i σ H (aT h) p)) p hT⟩) λσ H p=>⟨⟨xs,hl _ σ H (ah _) p,ah _⟩,hd σ H p⟩
def Wu {l:List Nat}{f:St->St}{tt:TT}{KT:W.Frag}{D:Addr}{te:TE}{σ:St}{H:Hp}{R:Hp->Prop}(Pv:Nat->List V->Hp->Prop)(h0:Pv 0 [] (upd H D (.lst [])))(hs:∀i c ys H T,l[i]?=some c->Pv i ys H->H T=none->vf l.length i D (λv H Q=>∃a p q,v=.ref a/\aN KT H a [p,q]/\Q [some p,some q]) f σ tt te (.ref T) (upd H T (.tup [.int i,.str (S [c])])) ys (Pv (i+1)))(hd:∀ys H,Pv l.length ys H->R H):rH (M8 l) D H R (CZ (λv H Q=>∃a p q,v=.ref a/\aN KT H a [p,q]/\Q [some p,some q]) f σ tt te):=Dz l.length Pv h0 (λi ys H h p=>⟨h,λx H' y=>by let⟨T,c,hT,rfl,hc,rfl⟩:=y;show hs i c ys H T hc p hT⟩) λys H p=>⟨ah _,hd ys H p⟩
section
variable {X:Cx}
def DP (hc:X.calm=true):fU X (.builtin "any") (λxs H Q=>∃(p:Addr) (bs:List Bool),xs=[.ref p]/\aP X.K H p (bs.map V.bl)/\Q (.bl (bs.any id)) H):=by
 walk_at"k";let⟨p,bs,rfl,hq,q⟩:=h;let⟨u,rfl,ru⟩:=vals1 r;cases ru;let⟨its,rv,pl,hz⟩:=I.list hq;let hne:p≠s.heap.objs.size:=by let⟨o,ho,_⟩:=pl.isList;show bn (a6 ho)
 let hb:∀(i:Nat) (v:Value),its[i]?=some v->v=.bool (bs.getD i false):=λi v hv=>by
  let bW:=rv.length;let hi:i<bs.length:=by have:=(al.mp hv).1;simp at bW;simp_all
  let⟨u,hu,ru⟩:=rv.get (i:=i) (x:=.bl bs[i]) (by simp[hi]);rw[hv]at hu;cases hu;cases ru;simp[List.getD,hi]
 calc call_any_walk (kr pl.isList ?_);refine JP s.heap.objs.size _ _ _ _ _ (λi=>bs.getD i false) ⟨RA,Walks.list (A:=X.A.in1) (I.ok.hd hc) s.heap.objs.size p hne its.toArray,⟨⟨_,ax _ RA,RA,RA⟩,pl.isList.at λo e=>af _ e⟩,?_,λh' tk kk=>?_⟩
 .intro i v s' Q' E' hv hq';let e:=hb i v (by simpa using hv);subst e;show eP hq'
 .let I1:aM X ao σ H {s with heap:=h',toks:=tk}:=I.kept λb o e=>kk b o (by
   intro hm;have:b=s.heap.objs.size:=by simpa using hm
   subst this;show absurd (a6 e) (iF _)) (af _ e)
  calc⟨.bl (bs.any id),H,I1,?_,q⟩;show Value.bool _=Value.bool _;let bW:its.toArray.size=bs.length:=by have:=rv.length;simp at this;simp[this]
  rw[bW];congr 1;let key:∀bs:List Bool,(List.range bs.length).any (λi=>bs.getD i false)=bs.any id:=λbs=>by
   rw[kS,sh,sh];constructor
   .intro z;let⟨i,hi,h⟩:=z;let hi':=bE.mp hi;show⟨bs[i],aI _,by simpa [List.getD,hi'] using h⟩
   .intro z;let⟨x,hx,h⟩:=z;let⟨i,hi,rfl⟩:=b9.mp hx;show⟨i,bE.mpr hi,by simpa [List.getD,hi] using h⟩
  show key bs
end
structure ZA (z ti to u v a b:Addr):Prop where
 q1:ti≠z
 q2:to≠z
 q3:u≠z
 q4:v≠z
 q5:ti≠to
 q6:ti≠u
 q7:ti≠v
 q8:to≠u
 q9:to≠v
 p1:u≠v
 p2:a≠z
 p3:a≠to
 p4:a≠u
 p5:a≠v
 p6:b≠z
 p7:b≠to
 p8:b≠u
 p9:b≠v
section
variable {X:Cx}{ao:AC}{σ:St}{H:Hp}{s:Shared}
def aM.abp {fp:List Addr}{tk:Nat}{x y:V}{p q:Value}{h2:Heap}(I:aM X ao σ H s)(hf:∀b∈fp,nZ X ao H b)(lt:∀b∈fp,b<s.heap.objs.size)(rx:bN x p)(ry:bN y q)(hT:h2.get? s.heap.objs.size=some {cls:=.type "tuple",data:=.seq #[p,q]})(hk:∀b o,b∉fp->s.heap.get? b=some o->h2.get? b=some o):aM X ao σ (upd H s.heap.objs.size (.tup [x,y])) {s with heap:=h2,toks:=tk}/\∀b∈fp,upd H s.heap.objs.size (.tup [x,y]) b=none:=by
 let I2:aM X ao σ (upd H s.heap.objs.size (.tup [x,y])) {s with heap:=s.heap.push {cls:=.type "tuple",data:=.seq #[p,q]},toks:=tk}:=I.laid (λb v e=>af _ e) (ah _) ⟨zsz 2,[p,q],.cons rx (.cons ry .nil),⟨_,ax _ RA,RA,_,RA⟩⟩
 let fr:∀b∈fp,upd H s.heap.objs.size (.tup [x,y]) b=none:=λb hb=>by rw[bw (bn (lt b hb))];show(hf b hb).1
 let I3:=aM.BR (s:={s with heap:=s.heap.push {cls:=.type "tuple",data:=.seq #[p,q]},toks:=tk}) (h':=h2) (fp:=fp) (t':=tk) I2 (λb o hb g=>?_) λb hb=>?_
 .show⟨I3,fr⟩
 .rcases Heap.get?_push_cases g with⟨z1,z2⟩|z;.rw[z1,z2];show hT
  .show hk b o hb z
 .let⟨f0,f1,f2,f3,f4,f5⟩:=hf b hb;show⟨fr b hb,f1,f2,f3,f4,f5⟩
def J0:bootBuiltins "zip"=some (.type "zip"):=by decide +kernel
end
end L2
namespace HT
open PySem PySem.Spec PyProof.Rows
end HT
namespace L2
open PySem PySem.Spec PyProof.Rows PySem.W
section
variable {prog:Program}{w:World}{A:Around}{E:AB}{s:Shared}{z ti to u v a b:Addr}{i:Nat}{f g:Array Value}{x y m n:Value}
def Wv {Q:AB}(D:ZA z ti to u v a b)(hz:IsZip s.heap z ti to .none)(hi:IsPair s.heap ti (.ref u) (.ref v))(ho:IsPair s.heap to m n)(hu:s.heap.IsListIter u a i)(hv:s.heap.IsListIter v b i)(ha:s.heap.IsList a f)(hb:s.heap.IsList b g)(hx:f[i]?=some x)(hy:g[i]?=some y)(q:∀h',IsZip h' z ti to (rawInt s.heap.objs.size)->IsPair h' to x y->h'.IsListIter u a (i+1)->h'.IsListIter v b (i+1)->IsPair h' s.heap.objs.size x y->
   (∀c o,c≠z->c≠to->c≠u->c≠v->s.heap.get? c=some o->h'.get? c=some o)->Q (.ref s.heap.objs.size) {s with heap:=h' }) :
  wpAny (model prog w) A (Builtin.«zip.__next__» ⟨[.ref z],[]⟩) (λfin s'=>∃r,fin=.done (.ret r)/\Q r s') E s:=by
 show wpAny _ _ (field (.ref z) 2 >>= _) _ _ _;walk_at"c";calc aa ?_;walk_at"e";replace z1:IsZip g1 z ti to .ellipsis:=z1;calc aa ?_;simp only[oS,tj,fc,q0];calc aa (aa (ny ?_));walk_at"d";replace o3:IsPair g3 to x n:=o3;calc aa (uu (ag ?_));calc aa (aa (ny ?_));show wpAny _ _ (Builtin.SmallTypes.nextOf (.ref v) >>= _) _ _ _;calc aa (oj (hv.at λo e=>k3.extBut _ o D.q9.symm (k2.extBut _ o D.p1.symm (k1.extBut _ o D.q4 e))) (l_ hb λo e=>k3.extBut _ o D.p7 (k2.extBut _ o D.p8 (k1.extBut _ o D.p6 e))) hy λg4 v4 k4=>ag ?_);let o4:IsPair g4 to x n:=k4.extBut _ _ D.q9 o3;calc aa (eI o4 RA (aa (lI o4 λg5 o5 k5=>?_)));replace o5:IsPair g5 to x y:=o5;calc aa (uu (ag (ag ?_)));calc aa (eI o5 RA (aa (uk ?_)));let sz:g5.objs.size=s.heap.objs.size:=by rw[k5.1,k4.1,k3.1,k2.1,k1.1]
 walk_at"h";let v5:g5.IsListIter v b (i+1):=v4.at λo e=>k5.extBut _ o D.q9.symm e;let lz:z<g5.objs.size:=a6 z5;show wpAny _ _ (Builtin.SmallTypes.ownedTupleHandOut (.ref z) (.ref g5.objs.size) >>= _) _ _ _;calc aa ?_;unfold Builtin.SmallTypes.ownedTupleHandOut;let z6:IsZip (g5.push {cls:=.type "tuple",data:=.seq #[x,y]}) z ti to .ellipsis:=af _ z5;refine aa (f6 z6 w8 λg7 z7 k7=>?_)
 replace z7:IsZip g7 z ti to (rawInt g5.objs.size):=z7;refine f6 z7 w8 λg8 z8 k8=>?_
 replace z8:IsZip g8 z ti to (rawInt g5.objs.size):=z8;let up:∀c o,c≠z->g5.get? c=some o->g8.get? c=some o:=λc o c1 e=>k8.extBut _ _ c1 (k7.extBut _ _ c1 (af _ e));let t8:IsPair g8 g5.objs.size x y:=k8.extBut _ _ (g6 lz) (k7.extBut _ _ (g6 lz) (ax _ RA));rw[sz]at z8 t8;calc ag ⟨_,RA,?_⟩;show Q (.ref g5.objs.size) _;rw[sz];show q g8 z8 (up _ _ D.q2 o5) (u5.at λo e=>up _ o D.q3 e) (v5.at λo e=>up _ o D.q4 e) t8 λc o c1 c2 c3 c4 e=>up c o c1 (kk c o c1 c2 c3 c4 e)
def ZX (hh:A.handled=none)(D:ZA z ti to u v a b)(hz:IsZip s.heap z ti to .none)(hi:IsPair s.heap ti (.ref u) (.ref v))(ho:IsPair s.heap to m n)(hu:s.heap.IsListIter u a i)(hv:s.heap.IsListIter v b i)(ha:s.heap.IsList a f)(hb:s.heap.IsList b g)(hx:f[i]?=some x)(hy:g[i]?=none)(q:∀h' e,(∀c o,c≠z->c≠to->c≠u->c≠v->s.heap.get? c=some o->h'.get? c=some o)->(∃o,h'.get? e=some o/\o.cls=.type "StopIteration")->E (.ref e) {s with heap:=h' }):wpAny (model prog w) A (Builtin.«zip.__next__» ⟨[.ref z],[]⟩) Q E s:=by
 show wpAny _ _ (field (.ref z) 2 >>= _) _ _ _;walk_at"c";calc aa ?_;walk_at"e";replace z1:IsZip g1 z ti to .ellipsis:=z1;calc aa ?_;simp only[oS,tj,fc,q0];calc aa (aa (ny ?_));walk_at"d";replace o3:IsPair g3 to x n:=o3;calc aa (uu (ag ?_));calc aa (aa (ny ?_));show wpAny _ _ (Builtin.SmallTypes.nextOf (.ref v) >>= _) _ _ _;calc aa (wpAny_nextOf_list_end hh (hv.at λo e=>k3.extBut _ o D.q9.symm (k2.extBut _ o D.p1.symm (k1.extBut _ o D.q4 e))) (l_ hb λo e=>k3.extBut _ o D.p7 (k2.extBut _ o D.p8 (k1.extBut _ o D.p6 e))) hy λg4 e k4 he=>?_);let⟨oe,e1,e2⟩:=he;let z2:IsZip g4 z ti to .ellipsis:=k4 _ _ D.q4.symm (k3.extBut _ _ D.q2.symm (k2.extBut _ _ D.q3.symm z1));let ez:e≠z:=λt=>by subst t;rw[z2]at e1;cases e1;simp at e2
 show f6 z2 w8 λg5 _ k5=>q g5 e (λc o c1 c2 c3 c4 t=>k5.extBut _ _ c1 (k4 _ _ c4 (k3.extBut _ _ c2 (k2.extBut _ _ c3 (k1.extBut _ _ c1 t))))) ⟨oe,k5.extBut _ _ ez e1,e2⟩
abbrev J1 (h:Heap)(a:Addr):Heap:=h.push {cls:=.type "list_iterator",data:=.fields #[.ref a,.int 0 0]}
abbrev zl2 (h:Heap)(a b:Addr):Heap:=(J1 h a).push {cls:=.type "list_iterator",data:=.fields #[.ref b,.int 0 0]}
abbrev zl3 (h:Heap)(a b:Addr):Heap:=(zl2 h a b).push {cls:=.type "tuple",data:=.seq #[.ref h.objs.size,.ref (J1 h a).objs.size]}
abbrev zl4 (h:Heap)(a b:Addr):Heap:=(zl3 h a b).push {cls:=.type "tuple",data:=.seq #[.none,.none]}
abbrev Rq (h:Heap)(a b:Addr):Heap:=(zl4 h a b).push {cls:=.type "zip",data:=.fields #[.none,.bool false,.bool false,.ref (zl2 h a b).objs.size,.ref (zl3 h a b).objs.size]}
def acj (a b)(f g):Meets (Builtin.«zip.__new__» ⟨[.type "zip",.ref a,.ref b],[]⟩) (λ_ R s=>s.heap.IsList a f/\s.heap.IsList b g/\R (.ok (.ret (.ref (zl4 s.heap a b).objs.size))) {s with heap:=Rq s.heap a b}):=
 .of_wp λprog w A R s h=>by
  let⟨hp,gs,d,tk,os⟩:=s;let⟨h1,h2,h⟩:=h;let hsub:=sub_zip;let j1:Heap.IsList (Shared.heap ⟨hp,gs,d,tk,os⟩) a f:=h1;let j2:Heap.IsList (Shared.heap ⟨hp.push {cls:=.type "list_iterator",data:=.fields #[.ref a,.int 0 0]},gs,d,tk,os⟩) b g:=l_ h2 λo e=>af _ e
  wp_walk using kr j1,kr j2
  show⟨_,RA,h⟩
def ag2 (ha:s.heap.IsList a f)(hb:s.heap.IsList b g)(q:∀h',IsZip h' (s.heap.objs.size+4) (s.heap.objs.size+2) (s.heap.objs.size+3) .none->IsPair h' (s.heap.objs.size+2) (.ref s.heap.objs.size) (.ref (s.heap.objs.size+1))->IsPair h' (s.heap.objs.size+3) .none .none->
   h'.IsListIter s.heap.objs.size a 0->h'.IsListIter (s.heap.objs.size+1) b 0->(∀c o,s.heap.get? c=some o->h'.get? c=some o)->Q (.ref (s.heap.objs.size+4)) {s with heap:=h' }) :
  wpAny (model prog w) A (call (.type "zip") [.ref a,.ref b]) Q E s:=by
 calc callType_new F.called_zip w_ (F.typeCall_zip_2 _ _) (F.newCall_zip_2 _ _) (λobj=>F.args_object_init_3 obj _ _) F.entry_zip_new (acj a b f g) ⟨ha,hb,?_⟩;let n1:(J1 s.heap a).objs.size=s.heap.objs.size+1:=dA ..;let n2:(zl2 s.heap a b).objs.size=s.heap.objs.size+2:=by rw[dA,n1]
 let n3:(zl3 s.heap a b).objs.size=s.heap.objs.size+3:=by rw[dA,n2]
 let n4:(zl4 s.heap a b).objs.size=s.heap.objs.size+4:=by rw[dA,n3]
 let e5:(Rq s.heap a b).get? (zl4 s.heap a b).objs.size=some _:=ax _ rfl;let e4:(Rq s.heap a b).get? (zl3 s.heap a b).objs.size=some _:=af _ (ax _ RA);let e3:(Rq s.heap a b).get? (zl2 s.heap a b).objs.size=some _:=af _ (af _ (ax _ RA));let e2:(Rq s.heap a b).get? (J1 s.heap a).objs.size=some _:=af _ (af _ (af _ (ax _ RA)));let e1:(Rq s.heap a b).get? s.heap.objs.size=some _:=af _ (af _ (af _ (af _ (ax _ RA))));show _/\_;rw[n2,n3,n4]at e5;rw[n1,n2]at e3;rw[n3]at e4;rw[n1]at e2;rw[n4];show⟨⟨_,e5,RA⟩,q _ e5 e3 e4 ⟨_,e1,RA,RA⟩ ⟨_,e2,RA,RA⟩ λc o t=>af _ (af _ (af _ (af _ (af _ t))))⟩
end
def Z0 (K:W.Frag)(a b:Addr):It:=⟨λi H=>∃xs ys x y,aP K H a xs/\aP K H b ys/\xs[i]?=some x/\ys[i]?=some y,λi H t H'=>∃T x y,H T=none/\t=.ref T/\(∀xs,aP K H a xs->xs[i]?=some x)/\(∀ys,aP K H b ys->ys[i]?=some y)/\H'=upd H T (.tup [x,y]),λi H=>∃xs ys,aP K H a xs/\aP K H b ys/\i<xs.length/\ys.length<=i⟩
def Ww {P:Program}{w:World}{K:W.Frag}{elts:List Expr}{x1:Nat}{pos:Pos}{z ti to u v a b:Addr}(D:ZA z ti to u v a b):Turn P w K (.Tuple elts x1 pos) (Z0 K a b) [z,ti,to,u,v] z (λi h=>IsZip h z ti to .none/\IsPair h ti (.ref u) (.ref v)/\(∃m n,IsPair h to m n)/\h.IsListIter u a i/\h.IsListIter v b i) where
 mem:=by simp
 obj:=λi h st c hc=>by
  obtain⟨h1,h2,⟨m,n,h3⟩,⟨o4,h4,_,d4⟩,⟨o5,h5,_,d5⟩⟩:=st;simp only[ba,e_,or_false]at hc;rcases hc with e|e|e|e|e <;> subst e
  .show⟨_,h1,λv y=>by cases y⟩
  .show⟨_,h2,λv y=>by cases y⟩
  .show⟨_,h3,λv y=>by cases y⟩
  .show⟨o4,h4,λv y=>by rw[d4]at y;cases y⟩
  .show⟨o5,h5,λv y=>by rw[d5]at y;cases y⟩
 keep:=λi h h' st k=>by obtain⟨h1,h2,⟨m,n,h3⟩,h4,h5⟩:=st;show⟨k z w8 _ h1,k ti w8 _ h2,⟨m,n,k to w8 _ h3⟩,h4.at λo e=>k u w8 o e,h5.at λo e=>k v w8 o e⟩
 item:=by
  walk_at"i";obtain⟨h1,h2,⟨m,n,h3⟩,h4,h5⟩:=st;let⟨xs,ys,x,y,hxs,hys,hx,hy⟩:=hg;let⟨fs,rf,pf,_⟩:=I.list hxs;let⟨gs,rg,pg,_⟩:=I.list hys;let⟨p,ep,rp⟩:=rf.get hx;let⟨q,eq,rq⟩:=rg.get hy;let lt:∀c∈[z,ti,to,u,v],c<s.heap.objs.size:=λc hc=>by
   simp only[ba,e_,or_false]at hc;rcases hc with e|e|e|e|e <;> subst e
   .show a6 h1
   .show a6 h2
   .show a6 h3
   .let⟨o,e,_⟩:=h4;show a6 e
   .let⟨o,e,_⟩:=h5;show a6 e
  let hT:s.TypeIs (.ref z) "zip":=⟨_,h1,RA⟩
  unfold pyNext;calc aa (iL (dC (name:=Str.ofString "__next__") hT jI (cE jI hT si ?_ (rL _))));calc Wv D h1 h2 h3 h4 h5 (show s.heap.IsList a fs.toArray from pf.isList) (show s.heap.IsList b gs.toArray from pg.isList) (x:=p) (y:=q) (by simpa using ep) (by simpa using eq) λh' k1 k2 k3 k4 k5 k6=>ag ?_;calc⟨_,RA,wpAny_letOwnedTupleGo_zip k1 λh2' e2 sb=>?_⟩;let up:∀c o,c∉[z,ti,to,u,v]->s.heap.get? c=some o->h2'.get? c=some o:=λc o hc e=>by simp only[ba,e_,or_false,not_or]at hc;show sb.extBut _ _ hc.1 (k6 c o hc.1 hc.2.2.1 hc.2.2.2.1 hc.2.2.2.2 e)
  let nz:s.heap.objs.size≠z:=g6 (lt z w8);let⟨I3,fr⟩:=aM.abp (tk:=s.toks) I hf lt rp rq (sb.extBut _ _ nz k5) up;show⟨.ref s.heap.objs.size,_,I3,RA,(JE s.heap.objs.size x y ⟨I.hok.fresh (ah _),RA,λzs hz=>by rw[I.xT hz hxs];show hx,λzs hz=>by rw[I.xT hz hys];show hy,RA⟩),
   ⟨e2,sb.extBut _ _ D.q1 (k6 _ _ D.q1 D.q5 D.q6 D.q7 h2),⟨_,_,sb.extBut _ _ D.q2 k2⟩,k3.at λo e=>sb.extBut _ o D.q3 e,k4.at λo e=>sb.extBut _ o D.q4 e⟩,fr⟩
 done:=by
  walk_at"i";obtain⟨h1,h2,⟨m,n,h3⟩,h4,h5⟩:=st;let⟨xs,ys,hxs,hys,hx,hl⟩:=hg;let⟨fs,rf,pf,_⟩:=I.list hxs;let⟨gs,rg,pg,_⟩:=I.list hys;let bW:=rg.length;let⟨p,ep,rp⟩:=rf.get (ae hx);let hh:X.A.in1.handled=none:=by simp[I.ok.hd hc]
  let hT:s.TypeIs (.ref z) "zip":=⟨_,h1,RA⟩
  unfold pyNext;calc aa (iL (dC (name:=Str.ofString "__next__") hT jI (cE jI hT si ?_ (rL _))));calc ZX hh D h1 h2 h3 h4 h5 (show s.heap.IsList a fs.toArray from pf.isList) (show s.heap.IsList b gs.toArray from pg.isList) (x:=p) (by simpa using ep) (by simp;simp_all) λh' e k zz=>?_;let⟨o,e1,e2⟩:=zz;calc aa (f_ (T:="StopIteration") (b:=true) ⟨o,e1,e2⟩ isSubtype_stop ?_);calc ag ⟨RA,aM.BR (fp:=[z,ti,to,u,v]) (t':=s.toks) I (λc o hc e=>?_) hf⟩;simp only[ba,e_,or_false,not_or]at hc;show k c o hc.1 hc.2.2.1 hc.2.2.2.1 hc.2.2.2.2 e
 self:=λA i s Q E st h=>sk st.1 h
section
variable {X:Cx}{elts:List Expr}{x1:Nat}{tp:Pos}
def agp (K:W.Frag)(ta:TA):TI:=λσ H R=>ta σ H λvs H1=>∃a b,vs=[.ref a,.ref b]/\(∃xs,aP K H1 a xs)/\(∃ys,aP K H1 b ys)/\R (Z0 K a b) H1
def acn {a b:Expr}{ta:TA}{p pos:Pos}(hg:Gl X "zip")(hm:X.mg "zip"=none)(ha:QA X [a,b] ta)(hs:starEach [a,b] X.env=[(false,eval a X.env),(false,eval b X.env)]:=by rfl)(hs2:starEach [b] X.env=[(false,eval b X.env)]:=by rfl):QI X (.Tuple elts x1 tp) (.Call (.Name "zip" p) [a,b] [] pos) (agp X.K ta):=⟨by
 intro ao s σ H R I h;calc Call_ (mX I hg hm J0 (fv (bM (ha.out pos ao s σ H _ I h) λus s1 zz=>?_) (by rw[hs,hs2]) (by rw[hs2];rfl)));let⟨vs,H1,I1,r1,q1⟩:=zz;obtain⟨a,b,e,⟨xs,hxs⟩,⟨ys,hys⟩,q⟩:=q1;subst e;cases r1 with
 | cons r rr=>
  cases rr with
  | cons r' rr=>
   cases rr;cases r;cases r';let⟨fs,rf,pf,_⟩:=I1.list hxs;let⟨gs,rg,pg,_⟩:=I1.list hys;let la:a<s1.heap.objs.size:=by
    let⟨o,ho,_⟩:=(show s1.heap.IsList a fs.toArray from pf.isList)
    show a6 ho
   let lb:b<s1.heap.objs.size:=by
    let⟨o,ho,_⟩:=(show s1.heap.IsList b gs.toArray from pg.isList)
    show a6 ho
   calc ag2 (show s1.heap.IsList a fs.toArray from pf.isList) (show s1.heap.IsList b gs.toArray from pg.isList) λh' k1 k2 k3 k4 k5 kk=>sk k1 ?_;let D:ZA (s1.heap.objs.size+4) (s1.heap.objs.size+2) (s1.heap.objs.size+3) s1.heap.objs.size (s1.heap.objs.size+1) a b:=by
    let key:∀N a b:Nat,a<N->b<N->ZA (N+4) (N+2) (N+3) N (N+1) a b:=λN a b la lb=>by constructor <;> (show (_:Nat)≠_) <;> lia
    show key _ _ _ la lb
   calc JJ (s1.heap.objs.size+4) [s1.heap.objs.size+4,s1.heap.objs.size+2,s1.heap.objs.size+3,s1.heap.objs.size,s1.heap.objs.size+1] _ _ H1 ⟨RA,I1.kept (t':=s1.toks) kk,Ww D,⟨k1,k2,⟨_,_,k3⟩,k4,k5⟩,λc hc=>?_,q⟩;let hc':s1.heap.objs.size<=c:=by
    simp only[ba,e_,or_false]at hc;let key:∀N c:Nat,(c=N+4\/c=N+2\/c=N+3\/c=N\/c=N+1)->N<=c:=λN c h=>by lia
    show key _ _ hc
   show I1.n6 hc' (I1.hok.fresh hc')⟩
end
def aeZ {K KT:W.Frag}{a b D:Addr}{xs ys:List V}{f:St->St}{tt:TT}{te:TE}{σ:St}{H:Hp}{R:Hp->Prop}(bW:xs.length=ys.length+1)(Pv:Nat->List V->Hp->Prop)(h0:Pv 0 [] (upd H D (.lst [])))(hl:∀i zs H,i<=ys.length->Pv i zs H->aP K H a xs/\aP K H b ys)(hs:∀i x y zs H T,xs[i]?=some x->ys[i]?=some y->Pv i zs H->H T=none->vf ys.length i D (λv H Q=>∃a p q,v=.ref a/\aN KT H a [p,q]/\Q [some p,some q]) f σ tt te (.ref T) (upd H T (.tup [x,y])) zs (Pv (i+1)))(hd:∀zs H,Pv ys.length zs H->R H):rH (Z0 K a b) D H R (CZ (λv H Q=>∃a p q,v=.ref a/\aN KT H a [p,q]/\Q [some p,some q]) f σ tt te):=
 Dz ys.length Pv h0 (λi zs H h p=>by let⟨q1,q2⟩:=hl i zs H (aT h) p;show⟨(JI xs ys (xs[i]) (ys[i]) ⟨q1,q2,by simp[show i<xs.length by lia],by simp[h]⟩),λt H' y=>by let⟨T,x,y,hT,rfl,hx,hy,rfl⟩:=y;show hs i x y zs H T (hx xs q1) (hy ys q2) p hT⟩) λzs H p=>⟨⟨xs,ys,(hl _ zs H (ah _) p).1,(hl _ zs H (ah _) p).2,wT,ah _⟩,hd zs H p⟩
section
variable {prog:Program}{w:World}{A:Around}{E:AB}{s:Shared}
variable {X:Cx}
def aco {a b:Addr}{oa ob:Obj}{na nb:Nat}{x1 y1:Nat}{t1 t2 t3 t4:Tok}{Q:AB}(ha:s.heap.get? a=some oa)(ca:oa.cls=.type "tuple")(da:oa.data=.seq [Value.int x1 t1,Value.int y1 t2].toArray na)(hb:s.heap.get? b=some ob)(cb:ob.cls=.type "tuple")(db:ob.data=.seq [Value.int x1 t3,Value.int y1 t4].toArray nb)(hu:A.units<cLine)(q:Q (.bool false) s):wpAny (model prog w) A (compareOp .Lt (.ref a) (.ref b)) Q E s:=by
 let Ta:s.TypeIs (.ref a) "tuple":=⟨oa,ha,ca⟩
 let Tb:s.TypeIs (.ref b) "tuple":=⟨ob,hb,cb⟩
 show wpAny _ _ (richCompare .Lt (.ref a) (.ref b)) Q E s;calc kM (op:=.Lt) (T:="tuple") Ta Tb nV (cE nV Ta F.entry_tuple_lt ?_ (vn _ _)) hu;walk_at"j";rw[show [Value.int (x1:Int) t1,Value.int (y1:Int) t2].toArray.toList.zip [Value.int (x1:Int) t3,Value.int (y1:Int) t4].toArray.toList=[(Value.int (x1:Int) t1,Value.int (x1:Int) t3),(Value.int (y1:Int) t2,Value.int (y1:Int) t4)] from rfl];walk_at"m";simp only[beq_self_eq_true,dE,a7,if_false];calc ag ?_;dsimp only;walk_at"m";simp only[beq_self_eq_true,dE,a7,if_false];calc ag ?_;dsimp only;rw[q0];calc ag ?_;dsimp only;show ag ⟨_,RA,by show Builtin.Tuple.tupleCompareSizes CmpOp.Lt 2 2≠_;decide,q⟩
def ag3:R2:=λx y H Q=>∃(a b:Addr) (x1 y1 x2 y2:Nat),x=.ref a/\y=.ref b/\H a=some (.tup [.int x1,.int y1])/\H b=some (.tup [.int x2,.int y2])/\y1<1000/\y2<1000/\
 Q (.bl (decide (x1*1000+y1<x2*1000+y2))) H
def ae0 (hu:X.A.units<cLine):eO X (compareOp .Lt) ag3:=by
 walk_at"f";let⟨a,b,x1,y1,x2,y2,rfl,rfl,ea,eb,l1,l2,q⟩:=h;by_cases hne:x1*1000+y1=x2*1000+y2
 .let e1:x1=x2:=wT;let e2:y1=y2:=by simp_all
  subst e1 e2;rw[am (iF _)]at q;cases rx;cases ry;let⟨_,tv,Ws,o,ho,hc,n,hd⟩:=I.hok _ _ ea;let⟨_,tv',ZQ,o',ho',hc',n',hd'⟩:=I.hok _ _ eb;cases Ws with
  | cons q1 rr=>
   cases rr with
   | cons q2 rr=>
    cases rr;cases ZQ with
    | cons q3 rr'=>
     cases rr' with| cons q4 rr'=>cases rr';let⟨t1,rfl⟩:=q1;let⟨t2,rfl⟩:=q2;let⟨t3,rfl⟩:=q3;let⟨t4,rfl⟩:=q4;show aco ho hc hd ho' hc' hd' hu ⟨.bl _,H,I,RA,q⟩
 .show aeT hu ao s σ H _ _ _ _ Q I rx ry (JS a b x1 y1 x2 y2 [] [] ⟨RA,RA,ea,eb,l1,l2,hne,q⟩)
open Classical in
def agq (K:W.Frag)(neg:Bool):R2:=λx y H Q=>∃n d es,n<=60/\gH K H n d x/\gH K H n (.lst es) y/\Q (.bl (if neg then !decide (d∈es) else decide (d∈es))) H
def acp (hu:X.A.units+64<cLine):eO X (compareOp .In) (agq X.K false):=by walk_at"f";let⟨n,d,es,hn,hd,he,q⟩:=h;let⟨as,ra⟩:=hd.reads I rx;let⟨bs,rb⟩:=he.reads I ry;let l1:=hd.lay;let l2:=he.lay;rw[toP]at rb;simp only[toP,PyData.canLay0,PyData.depth]at l2;calc SeqAt.in_list_reads rb ra l2.1 l1.1 (by have:=vS (PyData.depthAll (d_ es)) (toP d).depth;lia) ⟨.bl _,H,I,RA,?_⟩;rw[HF];show q
end
def SetT (w:World)(h:Heap)(a:Addr)(es:Array (Int×Value))(ep:Nat)(t:SetTable):Prop:=∃o,h.get? a=some o/\o.ExactSet/\o.data=.set es ep t/\t.fits es.size=true/\(w.params.followText "set-order"=true\/t.led=true)/\(t.plain=false\/es.size=0)
def SetT.mv {h h':Heap}(m:SetT w h a es ep t)(k:∀o,h.get? a=some o->h'.get? a=some o):SetT w h' a es ep t:=let ⟨o,p,q⟩:=m;⟨o,k _ p,q⟩
def SetT.ty {s:Shared}(m:SetT w s.heap a es ep t):s.TypeIs (.ref a) "set":=let ⟨o,p,q,_⟩:=m;⟨o,p,q.1⟩
def SetT.lt (m:SetT w h a es ep t):a<h.objs.size:=let ⟨o,p,_⟩:=m;a6 p
section
variable {prog:Program}{w:World}{A:Around}{E:AB}{s:Shared}{a:Addr}{es:Array (Int×Value)}{ep:Nat}{t:SetTable}
def FT {es':Array (Int×Value)}{t':SetTable}(m:SetT w s.heap a es ep t)(hf:t'.fits es'.size=true)(hl:t'.led=t.led)(hp:t'.plain=false)(hz:es'.size<scanBound)(q:∀h',Heap.SameBut a s.heap h'->SetT w h' a es' (ep+1) t'->Q () {s with heap:=h' }):wpAny (model prog w) A (storeSet a es' t') Q E s:=by let⟨o,ho,hex,hd,_,hb,_⟩:=m;calc wpAny_storeSet_of ho hd (q _ (ge s.heap a (Obj.putSet es' t')) ?_) (fits_of_scanBound hz);let hg:=fw (Obj.putSet es' t') ho (by rw[putSet_of es' t' hd];rfl);rw[putSet_of es' t' hd]at hg;show⟨_,hg,hex,RA,hf,by rw[hl];show hb,.inl hp⟩
def KD (a)(h:Q₁ (.ref s.heap.objs.size) {s with heap:=s.heap.push {cls:=.type "set",dict:=none,data:=.set #[] 0 (.fresh 0 0 (!w.params.followText "set-order"))} }):codeAny (model prog w) A (.call (.builtin "set.__new__") ⟨[.type "set",a],[]⟩) (wants Q₁ E) s:=by
 calc codeAny_of_tree ?_;show wpAny _ A.in1 (do checkBuiltinCall "set.__new__" ⟨[.type "set",a],[]⟩;again (.builtin "set.__new__" ⟨[.type "set",a],[]⟩)) _ _ s;calc aa (og (F.newCall_set_1 a) (ag ⟨plainId_quiet F.plain_set_new _,iq F.entry_set_new ?_⟩));rw[lL F.plain_set_new _];unfold Builtin.«set.__new__» Builtin.Frozenset.newClass;let hsub:=sub_set_self;let⟨hp,g,d,tk,os⟩:=s;dsimp only
 wp_walk
 calc mw (ag ?_);dsimp only;simp only[newObj];calc aa (wpAny_alloc (ag ?_));show ag h
end
theorem yg {α:Type}:∀(l:List α) (i:Nat) (h:i<l.length),(l[i]::l.eraseIdx i).Perm l
 | a::l,0,h=>.refl _
 | a::l,i+1,h=>(List.Perm.swap a _ _).trans ((yg l i (by simpa using h)).cons a)
def vh {α:Type}(next:Nat->Nat)(xs:Array α):(pickOrder next xs).toList.Perm xs.toList:=by
 let key:∀(f k:Nat) (l:List α) (o:Array α),f=l.length->(pickOrder.go next f k l o).toList.Perm (o.toList++l):=by
  intro f
  induction f with
  | zero=>intro k l o e;cases l with|nil=>simp[pickOrder.go]|cons a r=>simp at e
  | succ f ih=>intro k l o e;let h0:0<l.length:=wT;let hi:next k%l.length<l.length:=oT _ h0;unfold pickOrder.go;rw[ae hi];dsimp only;calc(ih _ _ _ (by rw[List.length_eraseIdx,if_pos hi];lia)).trans ?_;rw[lx,bv];show iX _ (by simpa using yg _ _ hi)
 have:=key xs.size 0 xs.toList #[] w8;simpa [pickOrder] using this
section
variable {prog:Program}{w:World}{A:Around}{E:AB}{s:Shared}
def KH (hn:n≠0)(h:∀i d,i<n->Q i {s with drawn:=d}):wpAny (model prog w) A (choose src n) Q E s:=λ_ _ _=>⟨hn,h _ _ (oT _ (Nat.pos_of_ne_zero hn))⟩
theorem Dd {α:Type}:∀(n:Nat) (xs:List α) {s:Shared} {Q:List α->Shared->Prop},n=xs.length->(∀ys d,ys.Perm xs->Q ys {s with drawn:=d})->wpAny (model prog w) A (drawOrder n xs) Q E s
 | 0,xs,s,Q,e,h=>by have:xs=[]:=ij.mp e.symm;subst this;unfold drawOrder;show ag (h [] s.drawn .nil)
 | n+1,[],s,Q,e,h=>by simp at e
 | n+1,x::xs,s,Q,e,h=>by unfold drawOrder;calc aa (KH w8 λi d hi=>?_);rw[ae hi];dsimp only;calc aa (Dd n _ (by rw[List.length_eraseIdx,if_pos hi];simp_all) λys d' p=>ag ?_);calc h _ d' ?_;show((p.cons _).trans (yg _ _ hi))
end
end L2
namespace PySem.F
def b_:Slot "set_iterator" "__next__" "set_iterator.__next__":=
 .of (owner:="set_iterator") (n:="__next__") (by rw[typeLookup_type,builtinLookup_eq_fast];kernel_rfl) xc xc xc
  (by first|show .inl xc|show .inr xc) (by rw[isSubtype_type];kernel_rfl)
def m8:Slot "set_iterator" "__iter__" "set_iterator.__iter__":=
 .of (owner:="set_iterator") (n:="__iter__") (by rw[typeLookup_type,builtinLookup_eq_fast];kernel_rfl) xc xc xc
  (by first|show .inl xc|show .inr xc) (by rw[isSubtype_type];kernel_rfl)
def gC:entryFor table "set_iterator.__next__"=some Builtin.«set_iterator.__next__»:=entryFor_of_tree xb
def FW:entryFor table "set.__iter__"=some Builtin.«frozenset.__iter__»:=entryFor_alias (id':="frozenset.__iter__") xb RA xc xb
def q_:Manifest.owners.lookup (String.ofList ['r','o','t','a','r','e','t','i','_','t','e','s'].reverse)=some Manifest.sig_set_iterator:=by kernel_rfl
def gb (a):argsOk "set_iterator.__next__" ⟨[a],[]⟩:=by unfold argsOk;rw[signature?_of (id:="set_iterator.__next__") (n:=['_','_','t','x','e','n','_','_']) (o:=['r','o','t','a','r','e','t','i','_','t','e','s']) xb q_];kernel_rfl
def uh:entryFor table "set_iterator.__iter__"=some Builtin.«dict_keyiterator.__iter__»:=entryFor_alias (id':="dict_keyiterator.__iter__") xb RA xc xb
def um (a):argsOk "set_iterator.__iter__" ⟨[a],[]⟩:=by unfold argsOk;rw[signature?_of (id:="set_iterator.__iter__") (n:=['_','_','r','e','t','i','_','_']) (o:=['r','o','t','a','r','e','t','i','_','t','e','s']) xb q_];kernel_rfl
end PySem.F
namespace L2
open PySem PySem.Spec PyProof.Rows PySem.W
def dO (h:Heap)(it:Addr)(first:Value)(i:Nat)(a:Addr)(n ep:Nat):Prop:=∃o,h.get? it=some o/\o.cls=.type "set_iterator"/\o.data=.fields #[first,.int i 0,.ref a,.int n 0,.int ep 0]
def dO.ty {s:Shared}(x:dO s.heap it f i a n ep):s.TypeIs (.ref it) "set_iterator":=let ⟨o,p,q,_⟩:=x;⟨o,p,q⟩
def dO.mv {h h':Heap}(x:dO h it f i a n ep)(k:∀o,h.get? it=some o->h'.get? it=some o):dO h' it f i a n ep:=let ⟨o,p,q⟩:=x;⟨o,k _ p,q⟩
section
variable {prog:Program}{w:World}{A:Around}{E:AB}{s:Shared}{a it:Addr}{es:Array (Int×Value)}{ep i:Nat}{t:SetTable}{first:Value}
def zq {slot k:Nat}(x:dO s.heap it (.int slot u) i a es.size ep)(m:SetT w s.heap a es ep t)(hn:∀(A':Around) (E':AB) (Q':Option (Value×Nat)->Shared->Prop),Q' (some (v,k)) s->wpAny (model prog w) A' (setNext a slot i ep) Q' E' s)(q:∀h',dO h' it (.int k 0) (i+1) a es.size ep->Heap.SameBut it s.heap h'->Q (some v) {s with heap:=h' }):wpAny (model prog w) A (pyNext (.ref it)) Q E s:=by let T:=x.ty;let⟨y,t1,t2,t3⟩:=id x;walk_at"g";calc aa (ag ?_);calc aa (ul t1 t3 ?_);dsimp only;calc aa (mS ho hd hf ?_);rw[if_neg w8];calc aa ?_;simp only[de];calc hn _ _ _ ?_;dsimp only;calc aa (iS t1 t3 w8 ?_);let g1:=fw (Obj.mapFields (·.setIfInBounds 0 (rawInt (k:Int)))) t1 (kU (fb t3 _));calc aa (iS g1 (fb t3 _) w8 ?_);let g2:=fw (Obj.mapFields (·.setIfInBounds 1 (rawInt ((i:Int)+1)))) g1 (kU (fb (fb t3 _) _));calc ag ⟨_,RA,ag ?_⟩;calc q _ ⟨_,g2,(rn ..).trans ((rn ..).trans t2),?_⟩ ((ge ..).trans (ge ..));rw[fb (fb t3 _)];simp[rawInt]
def Ac {slot:Nat}(hh:A.handled=none)(x:dO s.heap it (.int slot u) i a es.size ep)(m:SetT w s.heap a es ep t)(hn:∀(A':Around) (E':AB) (Q':Option (Value×Nat)->Shared->Prop),Q' none s->wpAny (model prog w) A' (setNext a slot i ep) Q' E' s)(q:∀h',Heap.ExtBut it s.heap h'->Q none {s with heap:=h' }):wpAny (model prog w) A (pyNext (.ref it)) Q E s:=by let T:=x.ty;let⟨y,t1,t2,t3⟩:=id x;walk_at"g";calc aa (ag ?_);calc aa (ul t1 t3 ?_);dsimp only;calc aa (mS ho hd hf ?_);rw[if_neg w8];calc aa ?_;simp only[de];calc hn _ _ _ ?_;dsimp only;calc aa (iS t1 t3 w8 ?_);calc aa ?_;simp only[PySem.newExc,newTuple];calc aa (eQ ?_ xh);calc aa (m:=firstArgMember _ _) (og (a:=Value.none) (by first|rfl|(simp only[firstArgMember];rfl)) (eQ ?_ xh));simp only[raiseNew];calc aa (wpAny_handled ?_);rw[show A.in1.handled=none from hh];calc aa (ag (wpAny_throw ?_));calc aa (m:=isInstance _ _) (f_ (T:="StopIteration") (b:=true) ⟨_,ax _ RA,RA⟩ isSubtype_stop ?_);show ag (q _ (((ge ..).extBut.push _).push _))
def HN {pe j:Nat}{hv:Int}(x:dO s.heap it (.ref tp) i a es.size ep)(m:SetT w s.heap a es ep t)(h1:s.heap.get? tp=some ot)(h2:ot.data=.seq ps pe)(hp:ps[i]?=some (.int j u))(he:es[j]?=some (hv,v))(q:∀h',dO h' it (.ref tp) (i+1) a es.size ep->Heap.SameBut it s.heap h'->Q (some v) {s with heap:=h' }):wpAny (model prog w) A (pyNext (.ref it)) Q E s:=by let T:=x.ty;let⟨y,t1,t2,t3⟩:=id x;walk_at"g";calc aa (ag ?_);calc aa (ul t1 t3 ?_);dsimp only;calc aa (mS ho hd hf ?_);rw[if_neg w8];calc aa (eI h1 h2 ?_);dsimp only;simp only[de,hp];calc aa ?_;unfold setNextDrawn;calc aa (fI ho hd hf ?_);dsimp only;rw[if_neg w8];simp only[he];calc ag ?_;calc aa (iS t1 t3 w8 ?_);let g1:=fw (Obj.mapFields (·.setIfInBounds 1 (rawInt ((i:Int)+1)))) t1 (kU (fb t3 _));calc ag ⟨_,RA,ag ?_⟩;calc q _ ⟨_,g1,(rn ..).trans t2,?_⟩ (ge ..);rw[fb t3];simp[rawInt]
def KJ (hh:A.handled=none)(x:dO s.heap it (.ref tp) i a es.size ep)(m:SetT w s.heap a es ep t)(h1:s.heap.get? tp=some ot)(h2:ot.data=.seq ps pe)(hp:ps[i]?=none)(q:∀h',Heap.ExtBut it s.heap h'->Q none {s with heap:=h' }):wpAny (model prog w) A (pyNext (.ref it)) Q E s:=by let T:=x.ty;let⟨y,t1,t2,t3⟩:=id x;walk_at"g";calc aa (ag ?_);calc aa (ul t1 t3 ?_);dsimp only;calc aa (mS ho hd hf ?_);rw[if_neg w8];calc aa (eI h1 h2 ?_);dsimp only;simp only[de,hp];calc aa (iS t1 t3 w8 ?_);let g1:=fw (Obj.mapFields (·.setIfInBounds 0 (rawInt 0))) t1 (kU (fb t3 _));calc aa (iS g1 (fb t3 _) w8 ?_);calc aa ?_;simp only[PySem.newExc,newTuple];calc aa (eQ ?_ xh);calc aa (m:=firstArgMember _ _) (og (a:=Value.none) (by first|rfl|(simp only[firstArgMember];rfl)) (eQ ?_ xh));simp only[raiseNew];calc aa (wpAny_handled ?_);rw[show A.in1.handled=none from hh];calc aa (ag (wpAny_throw ?_));calc aa (m:=isInstance _ _) (f_ (T:="StopIteration") (b:=true) ⟨_,ax _ RA,RA⟩ isSubtype_stop ?_);show ag (q _ ((((ge ..).trans (ge ..)).extBut.push _).push _))
def Z1 (m:SetT w s.heap a es ep t)(hz:es.size<=4000)(q1:(w.params.followText "set-order"=true\/(w.params.followText "set-order"=false/\es.size<=1))->Q (.ref s.heap.objs.size) {s with heap:=s.heap.push {cls:=.type "set_iterator",data:=.fields #[.int 0 0,.int 0 0,.ref a,.int es.size 0,.int ep 0]} })(q2:∀(ps:List Nat) (d:Drawn),ps.Perm (List.range es.size)->Q (.ref (s.heap.objs.size+1)) {s with heap:=(s.heap.push {cls:=.type "tuple",data:=.seq (ps.map λi:Nat=>Value.int i 0).toArray}).push {cls:=.type "set_iterator",data:=.fields #[.ref s.heap.objs.size,.int 0 0,.ref a,.int es.size 0,.int ep 0]},drawn:=d}):wpAny (model prog w) A (pyIter (.ref a)) Q E s:=by
 let T:=m.ty;let⟨o,ho,hex,hd,hf,hb,hp⟩:=m;calc wpAny_pyIter_slot T F.slot_set_iter (cE F.slot_set_iter T F.FW ?_ (F.args_set_iter_1 _));unfold Builtin.«frozenset.__iter__» Builtin.Frozenset.slot0 Builtin.Frozenset.sizeOf;calc aa (aa (ag ?_));show wpAny _ _ (pure a) _ _ _;calc ag ?_;calc aa (aa (mS ho hd hf (ag ?_)));unfold setDrawn setsByText;calc aa (aa (fI ho hd hf ?_));dsimp only;calc aa (aa (mw (ag ?_)));calc ag ?_;split
 .rename_i h;let h:(!w.params.followText "set-order" && (!t.plain&&decide (es.size > 1)))=true:=h;calc aa (Dd _ _ w8 λps d pm=>?_);calc aa (uk ?_ (by rw[ab,pm.length_eq,dP];show a8 hz w_));calc aa (wpAny_setEpoch_of (a:=a) (o:=o) (es:=es) (ep:=ep) (t:=t) (af _ ho) hd hf ?_);calc aa (eQ (ag ⟨_,RA,"set_iterator",_,⟨_,ax _ RA,RA⟩,F.b_.lookup,?_⟩));have:=q2 ps d pm;simpa [rawInt,dA] using this
 .rename_i h;let h:¬(!w.params.followText "set-order" && (!t.plain&&decide (es.size > 1)))=true:=h;calc aa (ag ?_);calc aa (wpAny_setEpoch_of ho hd hf ?_);calc aa (eQ (ag ⟨_,RA,"set_iterator",_,⟨_,ax _ RA,RA⟩,F.b_.lookup,?_⟩));have:=q1 (by
   cases e:w.params.followText "set-order" with
   | true=>show .inl rfl
   | false=>
    calc .inr ⟨RA,?_⟩;rcases hp with hp|hp;.simp[e,hp]at h;show h
    .lia)
  simpa [rawInt] using this
def Z2 (hT:s.TypeIs (.ref a) "set")(h:Q false s):wpAny (model prog w) A (Builtin.List.listLengthHint (.ref a)) Q E s:=by
 unfold Builtin.List.listLengthHint;calc aa (nS hT PySem.F.slot_set_len.lookup ?_);generalize hid:("set.__len__":String)=id0
 wp_delta
 rw[show splitId id0=some ("set","__len__") from by subst hid;decide +kernel];subst hid;calc aa (f_ (T:="set") (b:=true) hT (by rw[isSubtype_type];kernel_rfl) ?_);calc wpAny_ite_split (λhab=>absurd hab w_) (λ_=>?_);calc wpAny_ite_split (λ_=>?_) (λhab=>absurd xc hab);calc aa (sQ hT ?_);show ag h
def DQ (x:dO s.heap it first i a n ep)(q:Q (.ref it) s):wpAny (model prog w) A (pyIter (.ref it)) Q E s:=by calc wpAny_pyIter_slot x.ty F.m8 (cE F.m8 x.ty F.uh ?_ (F.um _));show wpAny _ _ (ret (.ref it)) _ _ s;show ag ⟨_,RA,"set_iterator",_,x.ty,F.b_.lookup,q⟩
def Ui {tp:Addr}{ps:List Nat}(hh:A.handled=none)(hne:a≠it)(hnt:tp≠it)(hp:∀j∈ps,j<es.size)(hl:ps.length=es.size):Walks prog w A it [it,tp,a] [it] es.size (λi v=>∃j e,ps[i]?=some j/\es[j]?=some e/\v=e.2)
   (λi h=>dO h it (.ref tp) i a es.size ep/\SetT w h a es ep t/\∃ot,h.get? tp=some ot/\ot.data=.seq (ps.map λi:Nat=>Value.int i 0).toArray 0) where
 sub:=λb hb=>by simp at hb;simp[hb]
 frame:=λ_ _ _ st hk=>⟨st.1.mv λo e=>hk it w8 o e,st.2.1.mv λo e=>hk a w8 o e,let ⟨ot,h1,h2⟩:=st.2.2;⟨ot,hk tp w8 _ h1,h2⟩⟩
 item:=λi s Q E hi st hQ=>by
  let⟨x,m,ot,h1,h2⟩:=st;let hi':i<ps.length:=by simp_all
  let hj:=hp _ (aI hi');calc HN x m h1 h2 (j:=ps[i]) (u:=0) (by simp[hi']) (hv:=es[ps[i]].1) (v:=es[ps[i]].2) (by simp[hj]) λh' x' k=>?_;show hQ _ h' s.toks ⟨ps[i],es[ps[i]],by simp[hi'],by simp[hj],RA⟩ ⟨x',m.mv λo e=>k.extBut a o hne e,ot,k.extBut tp ot hnt h1,h2⟩ λb o hb e=>k.extBut b o (λy=>hb (by simp[y])) e
 done:=λs Q E st hQ=>by let⟨x,m,ot,h1,h2⟩:=st;show KJ hh x m h1 h2 (by simp[hl]) λh' k=>hQ h' s.toks λb o hb e=>k b o (λy=>hb (by simp[y])) e
 self:=λi s Q E st hQ=>DQ st.1 hQ
def J2 (m:SetT w s.heap a es ep t)(hb:w.params.followText "set-order"=true)(h:Q (((pickOrder (w.params.setOrder a ep) es)[i]?).map λe=>(e.2,slot)) s):wpAny (model prog w) A (setNext a slot i ep) Q E s:=by let⟨o,ho,hex,hd,hf,_,_⟩:=m;unfold setNext setsByText;calc aa (fI ho hd hf ?_);dsimp only;calc aa (aa (mw (ag ?_)));rw[if_pos (by show hb)];rw[if_neg w8];unfold setWalk setsByText;calc aa ?_;calc aa (fI ho hd hf ?_);dsimp only;calc aa (aa (mw (ag ?_)));rw[if_pos (by show hb)];calc aa (mw (ag ?_));show ag h
def FZ (m:SetT w s.heap a es ep t)(hb:w.params.followText "set-order"=false)(hz:es.size<=1)(h:Q (match es[SetTable.below t.place slot]?,t.place[SetTable.below t.place slot]? with|some (_,x),some j=>some (x,j+1)|_,_=>none) s):wpAny (model prog w) A (setNext a slot i ep) Q E s:=by
 let⟨o,ho,hex,hd,hf,hl,_⟩:=m;let hl:t.led=true:=by rcases hl with z|z;rw[hb]at z;cases z;show z
 unfold setNext setsByText;calc aa (fI ho hd hf ?_);dsimp only;calc aa (aa (mw (ag ?_)));rw[if_neg (by show ¬w.params.followText "set-order"=true;rw[hb];simp)];split
 .rename_i z;let z:(!t.plain&&decide (es.size > 1))=true:=z;simp at z;lia
 .calc aa ?_;show wpAny _ _ (if (!t.led && !es.isEmpty)=true then unsupported "set:maker-not-led" else pure ()) _ _ _;rw[if_neg (by rw[hl];simp)];show ag (ag h)
def Wx (hh:A.handled=none)(hne:a≠it)(hb:w.params.followText "set-order"=true):Walks prog w A it [it,a] [it] es.size (λi v=>∃e,(pickOrder (w.params.setOrder a ep) es)[i]?=some e/\v=e.2)
   (λi h=>dO h it (.int (0:Nat) 0) i a es.size ep/\SetT w h a es ep t) where
 sub:=λb hb=>by simp at hb;simp[hb]
 frame:=λ_ _ _ st hk=>⟨st.1.mv λo e=>hk it w8 o e,st.2.mv λo e=>hk a w8 o e⟩
 item:=λi s Q E hi st hQ=>by
  let hsz:(pickOrder (w.params.setOrder a ep) es).size=es.size:=by have:=(vh (w.params.setOrder a ep) es).length_eq;simpa using this
  let hi':i<(pickOrder (w.params.setOrder a ep) es).size:=by simp_all
  calc zq (slot:=0) (k:=0) (v:=(pickOrder (w.params.setOrder a ep) es)[i].2) st.1 st.2 (λA' E' Q' q=>J2 st.2 hb (by rw[bX hi'];show q)) λh' x' k=>?_;show hQ _ h' s.toks ⟨_,by rw[bX hi'],RA⟩ ⟨x',st.2.mv λo e=>k.extBut a o hne e⟩ λb o hb e=>k.extBut b o (λy=>hb (by simp[y])) e
 done:=λs Q E st hQ=>by
  let hsz:(pickOrder (w.params.setOrder a ep) es).size=es.size:=by have:=(vh (w.params.setOrder a ep) es).length_eq;simpa using this
  refine Ac hh st.1 st.2 (λA' E' Q' q=>J2 st.2 hb (by rw[om (me hsz)];show q)) λh' k=>hQ h' s.toks λb o hb e=>k b o (λy=>hb (by simp[y])) e
 self:=λi s Q E st hQ=>DQ st.1 hQ
def Uj {p:Array Nat}(h:p.size=1):SetTable.below p 0=0:=by unfold SetTable.below;rw[h];simp[SetTable.below.go]
def Wy {p:Array Nat}(h:p.size=1):SetTable.below p (p.getD 0 0+1)=1:=by
 let⟨l⟩:=p
 match l,h with| [x],_=>simp[SetTable.below,SetTable.below.go]
def Uk (hh:A.handled=none)(hne:a≠it)(hb:w.params.followText "set-order"=false)(hz:es.size<=1):Walks prog w A it [it,a] [it] es.size (λi v=>∃e,es[i]?=some e/\v=e.2) (λi h=>∃slot:Nat,dO h it (.int slot 0) i a es.size ep/\SetT w h a es ep t/\t.place.size=es.size/\slot=(if i=0 then 0 else t.place.getD 0 0+1)) where
 sub:=λb hb=>by simp at hb;simp[hb]
 frame:=λ_ _ _ st hk=>let ⟨slot,x,m,r⟩:=st;⟨slot,x.mv λo e=>hk it w8 o e,m.mv λo e=>hk a w8 o e,r⟩
 item:=λi s Q E hi st hQ=>by
  let⟨slot,x,m,hp,hs⟩:=st;let hi0:i=0:=wT;subst hi0;rw[if_pos rfl]at hs;subst hs;let h1:es.size=1:=wT;let h1p:t.place.size=1:=wT;refine zq (slot:=0) (k:=t.place.getD 0 0+1) (v:=es[0].2) x m (λA' E' Q' q=>FZ m hb hz ?_) λh' x' k=>?_
  .rw[Uj h1p,bX hi,bX (by lia:0<t.place.size)];let e:t.place.getD 0 0=t.place[0]:=by simp[Array.getD,h1p]
   rw[e]at q;show q
  .show hQ _ h' s.toks ⟨es[0],by simp[h1],RA⟩ ⟨_,x',m.mv λo e=>k.extBut a o hne e,hp,RA⟩ λb o hb e=>k.extBut b o (λy=>hb (by simp[y])) e
 done:=λs Q E st hQ=>by
  let⟨slot,x,m,hp,hs⟩:=st;calc Ac hh x m (λA' E' Q' q=>FZ m hb hz ?_) λh' k=>hQ h' s.toks λb o hb e=>k b o (λy=>hb (by simp[y])) e;rcases(show es.size=0\/es.size=1 by lia) with h0|h1
  .rw[om wT];show q
  .rw[if_neg wT]at hs;subst hs;rw[Wy wT,om hz];show q
 self:=λi s Q E st hQ=>by let⟨slot,x,_⟩:=st;show DQ x hQ
end
def DR {l:List Value}(h:ItemsOf P acc n)(hl:l.length=n)(hP:∀i v,P i v->l[i]?=some v):acc.toList=l:=by
 apply gE;intro j;by_cases hj:j<n
 .let hj':j<acc.size:=by rw[h.1];show hj
  let e:acc[j]?=some acc[j]:=by simp[hj']
  rw[hP j _ (h.2 j _ e),cn,e]
 .rw[dL (by rw[bo,h.1];show mx hj),dL (by simp_all)]
section
variable {prog:Program}{w:World}{A:Around}{E:AB}{s:Shared}{a:Addr}{es:Array (Int×Value)}{ep i:Nat}{t:SetTable}
variable {X:Cx}
def DW {R:Result->Shared->Prop}{rs:Bool}{n:Nat}{P:Nat->Value->Prop}{St:Nat->Heap->Prop}(W:Walks prog w A.in1 I fp [I] n P St)(hSf:S0∉fp)(res:Value)(c₀:Nat)(hS:s.heap.get? S0=some {cls:=.type "list",data:=.seq #[] c₀})(st:St 0 s.heap)(hn:n<=sizeLine)(hT:s.TypeIs (.ref a) "set")(hR:∀h' tk acc' c',(∀b o,b≠S0->b≠I->s.heap.get? b=some o->h'.get? b=some o)->h'.get? S0=some {cls:=.type "list",dict:=none,data:=.seq acc' c',slots:=#[]}->ItemsOf P acc' n->R (.ok (.ret res)) {s with heap:=h',toks:=tk}):wpAny (model prog w) A.in1 (do
   let room <- holding [Value.ref I] (Builtin.List.listLengthHint (.ref a))
   if room||rs then rule "list.extend.makes-room";Builtin.List.listTouch (.ref S0)
   again (.builtin "list.extend.loop" ⟨[.ref S0,.ref I,res],[]⟩))
   (λfin s'=>match fin with|.done f=>R (.ok f) s'|.again c'=>c'.quiet=true/\codeAny (model prog w) A c' R s') (λe s'=>R (.error e) s') s:=by
 let key:∀(h:Heap) (c₁ tk:Nat),St 0 h->(∀b o,b≠S0->s.heap.get? b=some o->h.get? b=some o)->
   h.get? S0=some {cls:=.type "list",data:=.seq #[] c₁}->codeAny (model prog w) A (.builtin "list.extend.loop" ⟨[.ref S0,.ref I,res],[]⟩) R {s with heap:=h,toks:=tk}:=by
  intro h c₁ tk hst hk hS₁;calc codeAny_extend_loopS W.toS hn S0 hSf res n 0 _ #[] c₁ RA (cw _) hst hS₁ (ItemsOf.nil _) λs' acc' c' hm hS' hacc=>?_;rw[Moved.eq_with hm];calc hR s'.heap s'.toks acc' c' (λb o hb hbI e=>hm.heap b o (λhmem=>?_) (hk b o hb e)) hS' hacc;rcases ba.mp hmem with e'|hmem
  .show hb e'
  .show hbI (ap.mp hmem)
 calc aa (fe (Z2 hT ?_));calc wpAny_ite_split (λ_=>?_) (λ_=>ag ⟨plainId_quiet vz _,key _ c₀ _ st (λb o _ e=>e) hS⟩);calc aa (fo ?_);calc aa ?_;show wpAny _ _ (updateSeq S0 (·.push .none) >>= λ_=>updateSeq S0 (·.pop)) _ _ _;calc aa (wpAny_updateSeq hS RA ?_);let hS₂:=fw (Obj.mapSeq (·.push Value.none)) hS rfl;calc wpAny_updateSeq (hz:=by seq_fits) hS₂ RA ?_;let hS₃:=fw (Obj.mapSeq (·.pop)) hS₂ rfl;refine ag ⟨plainId_quiet vz _,key _ _ _ ?_ (λb o hb e=>?_) hS₃⟩
 .refine W.frame 0 _ _ st λb hb o e=>?_
  let hbS:b≠S0:=λh=>hSf (h ▸ hb);show(iE _ _ (kq hbS)).trans ((iE _ _ (kq hbS)).trans e)
 .show(iE _ _ (kq hb)).trans ((iE _ _ (kq hb)).trans e)
def Ul (hh:A.handled=none)(m:SetT w s.heap a es ep t)(hz:es.size<=4000)(S0)(hSa:S0≠a)(res)(c₀)(hS:s.heap.get? S0=some {cls:=.type "list",data:=.seq #[] c₀})(hR:∀h' tk d acc' c',(∀b o,b≠S0->s.heap.get? b=some o->h'.get? b=some o)->h'.get? S0=some {cls:=.type "list",dict:=none,data:=.seq acc' c',slots:=#[]}->acc'.toList.Perm (es.toList.map (·.2))->R (.ok (.ret res)) {s with heap:=h',toks:=tk,drawn:=d}):wpAny (model prog w) A.in1 (Builtin.List.listExtendWith (.ref S0) (.ref a) res)
   (λfin s'=>match fin with|.done f=>R (.ok f) s'|.again c'=>c'.quiet=true/\codeAny (model prog w) A c' R s') (λe s'=>R (.error e) s') s:=by
 let Ga:es.size<=sizeLine:=a8 hz w_;let hlt:=m.lt;let hSlt:=a6 hS;unfold Builtin.List.listExtendWith;calc aa (sQ (T:="set") m.ty ?_);let h1:Builtin.List.listSameRef (.ref S0) (.ref a)=false:=by simp[Builtin.List.listSameRef,hSa]
 let n1:(Value.type "set" == Value.type "list")=false:=by decide
 let n2:(Value.type "set" == Value.type "tuple")=false:=by decide
 simp only[h1,n1,n2,sd,a7,if_false];refine aa (Z1 m hz (λc=>?_) (λps d pm=>?_))
 .let m':SetT w (s.heap.push {cls:=.type "set_iterator",data:=.fields #[.int 0 0,.int 0 0,.ref a,.int es.size 0,.int ep 0]}) a es ep t:=m.mv λo e=>af _ e
  let hx:dO (s.heap.push {cls:=.type "set_iterator",data:=.fields #[.int 0 0,.int 0 0,.ref a,.int es.size 0,.int ep 0]}) s.heap.objs.size (.int (0:Nat) 0) 0 a es.size ep:=⟨_,ax _ RA,RA,RA⟩
  let hSf:S0∉[s.heap.objs.size,a]:=by simp only[ba,e_,or_false,not_or];show⟨bn hSlt,hSa⟩
  rcases c with c|⟨c,c1⟩
  .refine DW (a:=a) (Wx (t:=t) hh (bn hlt) c) hSf res c₀ (af _ hS) ⟨hx,m'⟩ Ga (SetT.ty (s:={s with heap:=_}) m') λh' tk acc' c' k hS' hacc=>?_
   let hsz:=(vh (w.params.setOrder a ep) es).length_eq;calc hR h' tk s.drawn acc' c' (λb o hb e=>k b o hb (bn (a6 e)) (af _ e)) hS' ?_;rw[DR (l:=(pickOrder (w.params.setOrder a ep) es).toList.map (·.2)) hacc (by simpa using hsz) (λi v hv=>by let⟨e,he,rfl⟩:=hv;simp[he])];show(vh _ _).map _
  .refine DW (a:=a) (Uk (t:=t) hh (bn hlt) c c1) hSf res c₀ (af _ hS) ⟨0,hx,m',?_,RA⟩ Ga (SetT.ty (s:={s with heap:=_}) m') λh' tk acc' c' k hS' hacc=>?_
   .let⟨o,_,_,_,hf,_⟩:=m;simp only[SetTable.fits,df,beq_iff_eq]at hf;show hf.1
   .calc hR h' tk s.drawn acc' c' (λb o hb e=>k b o hb (bn (a6 e)) (af _ e)) hS' ?_;rw[DR (l:=es.toList.map (·.2)) hacc w8 (λi v hv=>by let⟨e,he,rfl⟩:=hv;simp[he])]
 .generalize hh1:s.heap.push {cls:=.type "tuple",data:=.seq (ps.map λi:Nat=>Value.int i 0).toArray}=h1;let k1:∀b o,s.heap.get? b=some o->h1.get? b=some o:=λb o e=>by rw[<-hh1];show af _ e
  let z1:h1.objs.size=s.heap.objs.size+1:=by rw[<-hh1];show dA ..
  let g1:h1.get? s.heap.objs.size=some {cls:=.type "tuple",data:=.seq (ps.map λi:Nat=>Value.int i 0).toArray}:=by rw[<-hh1];show ax _ rfl
  let m':SetT w (h1.push {cls:=.type "set_iterator",data:=.fields #[.ref s.heap.objs.size,.int 0 0,.ref a,.int es.size 0,.int ep 0]}) a es ep t:=m.mv λo e=>af _ (k1 _ _ e);let hx:dO (h1.push {cls:=.type "set_iterator",data:=.fields #[.ref s.heap.objs.size,.int 0 0,.ref a,.int es.size 0,.int ep 0]}) (s.heap.objs.size+1) (.ref s.heap.objs.size) 0 a es.size ep:=⟨_,by rw[<-z1];show ax _ RA,RA,RA⟩
  let hp:∀j∈ps,j<es.size:=λj hj=>bE.mp (pm.mem_iff.mp hj);let hl:ps.length=es.size:=by rw[pm.length_eq,dP]
  let hSf:S0∉[s.heap.objs.size+1,s.heap.objs.size,a]:=by simp only[ba,e_,or_false,not_or];show⟨bn (fF hSlt),bn hSlt,hSa⟩
  calc DW (a:=a) (s:={s with heap:=h1.push {cls:=.type "set_iterator",data:=.fields #[.ref s.heap.objs.size,.int 0 0,.ref a,.int es.size 0,.int ep 0]},drawn:=d}) (Ui (t:=t) (tp:=s.heap.objs.size) (ps:=ps) hh (bn (fF hlt)) (bn (f8 _)) hp hl) hSf res c₀ (af _ (k1 _ _ hS)) ⟨hx,m',_,af _ g1,RA⟩ Ga (SetT.ty (s:={s with heap:=_,drawn:=d}) m') λh' tk acc' c' k hS' hacc=>?_;calc hR h' tk d acc' c' (λb o hb e=>k b o hb (bn (fF (a6 e))) (af _ (k1 _ _ e))) hS' ?_;rw[DR (l:=ps.map λj=>(es.getD j (0,.none)).2) hacc (by simp[hl]) (λi v hv=>by let⟨j,e,hj,he,rfl⟩:=hv;rw[a_,hj];simp[fA,he])]
  calc(pm.map _).trans (wv ?_);apply gE;intro j;rw[a_,a_];by_cases h:j<es.size;.rw[gL h];simp[h,fA]
  .rw[dL (by simpa using h),dL (by simpa using h)];rfl
def Qf (hh:A.handled=none)(m:SetT w s.heap a es ep t)(hz:es.size<=4000)(h:∀(h':Heap) (tk:Nat) (d:Drawn) (acc:List Value),(∀b o,s.heap.get? b=some o->h'.get? b=some o)->acc.Perm (es.toList.map (·.2))->R acc {s with heap:=h',toks:=tk,drawn:=d}):wpAny (model prog w) A (collect (.ref a)) R E s:=by
 let hlt:=m.lt;unfold collect;calc aa (wpAny_runValue (iq entry_proto_collect' ?_));rw[lL PySem.F.plain_proto_collect _];show wpAny _ A.in1 (newList [] >>= λl=>again (.builtin "list.__iadd__" ⟨[l,.ref a],[]⟩)) _ _ s;calc aa (eQ ?_);calc ag ⟨plainId_quiet PySem.F.plain_list_iadd _,iq entry_list_iadd' ?_⟩;rw[lL PySem.F.plain_list_iadd _];let hS₁:(s.heap.push {cls:=.type "list",data:=.seq ([]:List Value).toArray}).get? s.heap.objs.size=some {cls:=.type "list",data:=.seq #[]}:=ax _ rfl;show wpAny _ A.in1 (Builtin.List.listExtendWith (.ref s.heap.objs.size) (.ref a) (.ref s.heap.objs.size)) _ _ _;let key:=Ul (prog:=prog) (A:=A) (s:={s with heap:=s.heap.push {cls:=.type "list",data:=.seq ([]:List Value).toArray} })
  (R:=λ(q:Result) (s':Shared)=>∃(h':Heap) (tk:Nat) (d:Drawn) (acc':Array Value) (c':Nat),q=.ok (.ret (.ref s.heap.objs.size))/\s'={s with heap:=h',toks:=tk,drawn:=d}/\
   (∀b o,s.heap.get? b=some o->h'.get? b=some o)/\h'.get? s.heap.objs.size=some {cls:=.type "list",dict:=none,data:=.seq acc' c',slots:=#[]}/\acc'.toList.Perm (es.toList.map (·.2)))
  hh (m.mv λo e=>af _ e) hz s.heap.objs.size (g6 hlt) (.ref s.heap.objs.size) 0 hS₁
  (λh' tk d acc' c' hk hS' hacc=>(JJ h' tk d acc' c' ⟨RA,RA,λb o e=>hk b o (bn (a6 e)) (af _ e),hS',hacc⟩))
 refine fN key (λfin s' x=>?_) λe s' x=>?_
 .cases fin with
  | done f=>let⟨h',tk,d,acc',c',e,rfl,hk,hS',hacc⟩:=x;cases e;show wpAny _ A (load s.heap.objs.size >>= _) _ _ _;calc aa (wpAny_load hS' ?_);show ag (h h' tk d acc'.toList hk hacc)
  | again c₁=>calc⟨x.1,i9 x.2 λq s₂ y=>?_⟩;let⟨h',tk,d,acc',c',rfl,rfl,hk,hS',hacc⟩:=y;show wpAny _ A (load s.heap.objs.size >>= _) _ _ _;calc aa (wpAny_load hS' ?_);show ag (h h' tk d acc'.toList hk hacc)
 .let⟨_,_,_,_,_,e,_⟩:=x;cases e
def aM.agr {ao:AC}{σ:St}{H:Hp}{s:Shared}(I:aM X ao σ H s)(d:Drawn):aM X ao σ H {s with drawn:=d}:=⟨I.ok,I.os,I.bare,I.base,I.loc,I.cell,I.free,I.oX,I.pin,I.hok,I.len⟩
end
end L2
namespace L2
open PySem PySem.Spec PyProof.Rows PySem.SeqAt PySem.MeetsSeq PySem.MeetsSeq3 PySem.W
open AutoSeq1 (wpAny_loadPart')
open PySem.StrLaws Builtin Builtin.Str in
theorem HS (s)(c hi limit):∀(k a:Nat) (st:Array Nat×Nat),st.snd<=a->st.fst.size+k<=limit->
  (forIn (List.range' a k) st (occBody s (S [c]) hi limit)).run.fst.size=st.fst.size+((List.range' a k).filter λi=>decide (i+1<=hi)&&subAt s (S [c]) i).length
 | 0,a,st,h1,h2=>rfl
 | k+1,a,st,h1,h2=>by
  rw[List.range'_succ,fc];let hl:(S [c]).length=1:=rfl;unfold occBody;split
  .rename_i hc;let h3:((st.fst.push a,a+(S [c]).length).snd)<=a+1:=by show a+(S [c]).length<=a+1;rw[hl];show ah _
   have:=HS s c hi limit k (a+1) (st.fst.push a,a+(S [c]).length) h3 (by show (st.fst.push a).size+k<=limit;rw[Array.size_push];lia);calc this.trans ?_;let hb:(decide (a+1<=hi)&&subAt s (S [c]) a)=true:=by let h5:=hc.1.2;rw[hl]at h5;rw[hc.2];simp;show h5
   rw[v0,if_pos hb,bt];show (st.fst.push a).size+_=_;rw[Array.size_push];lia
  .rename_i hc;have:=HS s c hi limit k (a+1) (st.fst,st.snd) (ik h1) (by show st.fst.size+k<=limit;show aT h2);calc this.trans ?_;let hb:¬(decide (a+1<=hi)&&subAt s (S [c]) a)=true:=λz=>hc (by
    simp only[df,im]at z;show⟨⟨⟨wT,h1⟩,by rw[hl];show z.1⟩,z.2⟩)
   rw[v0,if_neg hb]
open Builtin.Str in
def subAt_one (l:List Nat)(c i)(hi:i<l.length):subAt (S l) (S [c]) i=decide (l[i]=c):=by
 unfold subAt;let e:(S l).cps.extract i (i+(S [c]).length)=#[l[i]]:=by
  show l.toArray.extract i (i+1)=#[l[i]];apply Array.ext;.simp;lia
  .intro j h1 h2;have:j=0:=by simp at h2;show h2
   subst this;simp
 rw[e];show (#[l[i]] == #[c])=_;by_cases h:l[i]=c;.subst h;simp
 .rw[am h];simpa using h
open Builtin.Str in
def Wz (l)(c):(occurrences (S l) (S [c]) 0 (S l).length ((S l).length+1)).length=l.count c:=by
 let hn:(S l).length=l.length:=by show l.toArray.size=l.length;simp
 rw[PySem.StrLaws.occ_eq,bo,hn];rw[HS (S l) c l.length (l.length+1) (l.length+1-0) 0 (#[],0) (ah _) w8];rw[<-List.range_eq_range',show l.length+1-0=l.length+1 from RA,fk,fi];let e1:([l.length].filter λi=>decide (i+1<=l.length)&&subAt (S l) (S [c]) i)=[]:=by simp;lia
 rw[e1,fS];let key:∀k,k<=l.length->((List.range k).filter λi=>decide (i+1<=l.length)&&subAt (S l) (S [c]) i).length=(l.take k).count c:=by
  intro k
  induction k with
  | zero=>intro _;simp
  | succ k ih=>
   intro hk;rw[fk,fi,av,ih (aT hk),bP,ae hk,vv];let e2:(decide (k+1<=l.length)&&subAt (S l) (S [c]) k)=decide (l[k]=c):=by rw[subAt_one l c k wT];simp;lia
   rw[v0,e2];by_cases h:l[k]=c;.simp[h]
   .simp[h]
 have:=key l.length (ah _);rw[cK]at this;simpa using this
section
variable {X:Cx}
def acq:V->List V->Hp->VK->Prop:=λx vs H Q=>∃(l:List Nat) (c:Nat),x=.str (S l)/\vs=[.str (S [c])]/\Q (.int (l.count c:Nat)) H
def WD:wH X "str.count" acq:=by intro ao s σ H x vs v us Q I rx rv h;let⟨l,c,rfl,rfl,q⟩:=h;let⟨t,rfl⟩:=rx;let⟨u,rfl,ru⟩:=rv.one;let⟨t',rfl⟩:=ru;calc call_gives F.slot_str_count (typeIs_str s _ t) F.entry_str_count (F.args_str_count_2 _ _) (gives_str_count (S l) (S [c]) t t') ?_;show EP X ao σ Q _ _;rw[<-Wz]at q;show⟨.int (Builtin.Str.occurrences (S l) (S [c]) 0 (S l).length ((S l).length+1)).length,H,I.tok _,⟨s.toks,RA⟩,q⟩
end
end L2
namespace L2
open PySem PySem.Spec PyProof.Rows PySem.Builtin PySem.Builtin.Str
def HW (x y z:Str)(t u v c:Tok)(hf:((occurrences x y 0 x.length 1).isEmpty||(y.length==0&&z.length==0))=false->
   (u==0||v==0)=false/\(u==v)=false/\(y==z)=false/\tooLong (x.length+(occurrences x y 0 x.length 1).length*z.length)=false) :
  Gives («str.replace» ⟨[.str x t,.str y u,.str z v,.int 1 c],[]⟩) (if ((occurrences x y 0 x.length 1).isEmpty||(y.length==0&&z.length==0))=true then .val (.str x t) else .str (glued z (partsBetween x (occurrences x y 0 x.length 1) y.length))):=by
 show Gives (if ((occurrences x y 0 x.length 1).isEmpty||(y.length==0&&z.length==0))=true then (rule "str.replace.nothing" >>= λ_=>ret (.str x t)) else
     (isSame (.str y u) (.str z v) >>= λsame=>if same=true then (rule "str.replace.old-is-new" >>= λ_=>ret (.str x t)) else if tooLong (x.length+(occurrences x y 0 x.length 1).length*z.length)=true then unsupported "str.replace:memory" else retStr (glued z (partsBetween x (occurrences x y 0 x.length 1) y.length)))) _
 cases hc:((occurrences x y 0 x.length 1).isEmpty||(y.length==0&&z.length==0))
 .let⟨h0,huv,hyz,hl⟩:=hf hc;rw[isSame_str_other y z u v h0 huv hyz,hl];show .of_eq rfl
 .show .rule (.of_eq RA)
end L2
namespace L2
open PySem PySem.Spec PyProof.Rows
def jG (prog:Program)(w:World)(A:Around)(s:Shared)(κ:PyProof.Rows.KeyKind)(kn:SortKind):Prop:=∀(E:AB) (x y:Value) (a b:κ.α) (Q:Bool->Shared->Prop),κ.keyOf x=some a->κ.keyOf y=some b->Q (κ.blt a b) s->wpAny (model prog w) A (keyLt' kn x y) Q E s
section
variable {prog:Program}{w:World}{A:Around}{E:AB}{s:Shared}{κ:PyProof.Rows.KeyKind}{kn:SortKind}
variable {α:Type}{le:α->α->Prop}
def bA {α:Type}{c:Prop}{d:Decidable c}{a b:StateT SortSt Sem α}{Q:α->SortSt->Prop}{st:SortSt}(hc:c)(h:wpS (model prog w) A E s a Q st):wpS (model prog w) A E s (@ite _ c d a b) Q st:=by rw[if_pos hc];show h
def bf {α:Type}{c:Prop}{d:Decidable c}{a b:StateT SortSt Sem α}{Q:α->SortSt->Prop}{st:SortSt}(hc:¬c)(h:wpS (model prog w) A E s b Q st):wpS (model prog w) A E s (@ite _ c d a b) Q st:=by rw[if_neg hc];show h
def Ad {st:SortSt}{x y:Keyed}{a b:κ.α}{Q:Option Bool->SortSt->Prop}(hO:jG prog w A s κ kn)(hk:kindOf st=kn)(ha:κ.keyOf x.1=some a)(hb:κ.keyOf y.1=some b)(h:Q (some (κ.blt a b)) st):wpS (model prog w) A E s (lt' x y) Q st:=by rw[lt'_eq];calc a9 (rc ?_);rw[hk];calc a9 (wpS_lift (iL (hO _ x.1 y.1 a b _ ha hb ⟨RA,?_⟩)));show bg h
def cV {st:SortSt}{arr:Array Keyed}{i:Nat}(hi:i<arr.size){Q:Keyed->SortSt->Prop}(h:Q arr[i] st):wpS (model prog w) A E s (elem' arr i) Q st:=by rw[elem'_eq,bX hi];show bg h
noncomputable def jL (κ:PyProof.Rows.KeyKind)(left:Bool)(kk:κ.α)(arr:Array Keyed)(i:Nat):Bool:=if left=true then κ.blt (KK κ arr i) kk else !κ.blt kk (KK κ arr i)
def uo (hks:KeysOf κ arr)(hi:i<arr.size):κ.keyOf arr[i].1=some (KK κ arr i):=by let⟨a,ha⟩:=hks arr[i] w8;unfold KK;rw[bX hi];simp[ha]
def wO {left:Bool}{key:Keyed}{kk:κ.α}{arr:Array Keyed}{i:Nat}{st:SortSt}{Q:Option Bool->SortSt->Prop}(hO:jG prog w A s κ kn)(hk:kindOf st=kn)(hkey:κ.keyOf key.1=some kk)(hks:KeysOf κ arr)(hi:i<arr.size)(h:Q (some (jL κ left kk arr i)) st):wpS (model prog w) A E s (do
   let p <- elem' arr i
   if left=true then lt' p key
   else do
    let r <- lt' key p
    pure (r.map λb=>!b)) Q st:=by
 calc a9 (cV hi ?_);unfold jL at h;cases left with| true=>show Ad hO hk (uo hks hi) hkey h| false=>show a9 (Ad hO hk hkey (uo hks hi) (bg h))
def mJ {left:Bool}{key:Keyed}{kk:κ.α}{arr:Array Keyed}{lo n hint:Nat}{st:SortSt}{Q:Option Nat->SortSt->Prop}(hO:jG prog w A s κ kn)(hk:kindOf st=kn)(hkey:κ.keyOf key.1=some kk)(hks:KeysOf κ arr)(hn:hint<n)(hsz:lo+n<=arr.size)(mono:∀i j,i<=j->j<n->jL κ left kk arr (lo+j)=true->jL κ left kk arr (lo+i)=true)(h:∀k,k<=n->(∀i,i<k->jL κ left kk arr (lo+i)=true)->(∀i,k<=i->i<n->jL κ left kk arr (lo+i)=false)->Q (some k) st):wpS (model prog w) A E s ((sortPriv% PySem.Builtin.gallop) left key arr lo n hint) Q st:=by
 show wpS _ _ _ _ (_ >>= _) _ _;dsimp only;generalize hbp:(λi=>jL κ left kk arr (lo+i))=bp;let eb:∀i,jL κ left kk arr (lo+i)=bp i:=λi=>by rw[<-hbp]
 let abq:∀i j,i<=j->j<n->bp j=false\/bp i=true:=λi j h1 h2=>by
  cases e:bp j with| false=>show .inl rfl| true=>show .inr (by rw[<-eb];show mono i j h1 h2 (by rw[eb];show e))
 let h':∀k,k<=n->(∀i,i<k->bp i=true)->(∀i,k<=i->i<n->bp i=false)->Q (some k) st:=λk h1 h2 h3=>h k h1 (λi hi=>by rw[eb];show h2 i hi) λi hi hj=>by rw[eb];show h3 i hi hj
 let up:∀i j,i<=j->j<n->bp j=true->bp i=true:=λi j h1 h2 h3=>by
  rcases abq i j h1 h2 with z|z;.rw[z]at h3;cases h3
  .show z
 let dn:∀i j,i<=j->j<n->bp i=false->bp j=false:=λi j h1 h2 h3=>by
  rcases abq i j h1 h2 with z|z;.show z
  .rw[z]at h3;cases h3
 calc a9 (wO hO hk hkey hks (i:=lo+hint) wT ?_);rw[eb];dsimp only;let fin:∀l0 h0,l0<=h0->h0<=n->(∀i,i<l0->bp i=true)->(∀i,h0<=i->i<n->bp i=false)->∀(f:Nat->(Option (Option Nat)×Nat×Nat)->StateT SortSt Sem (ForInStep (Option (Option Nat)×Nat×Nat))) (F:(Option (Option Nat)×Nat×Nat)->StateT SortSt Sem (Option Nat)),
   (∀x l u (Q':ForInStep (Option (Option Nat)×Nat×Nat)->SortSt->Prop),u<=n->(u<=l->Q' (.done (none,l,u)) st)->(l<u->Q' (.yield (if bp (l+(u-l)/2)=true then (none,l+(u-l)/2+1,u) else (none,l,l+(u-l)/2))) st)->wpS (model prog w) A E s (f x (none,l,u)) Q' st)->
   (∀l u,Q (some u) st->wpS (model prog w) A E s (F (none,l,u)) Q st)->
   wpS (model prog w) A E s (forIn [0:n] ((none:Option (Option Nat)),l0,h0) f >>= F) Q st:=by
  intro l0 h0 hle hh t1 t2 f F hf hF;refine a9 (io (fm (I:=λ(x:Nat) (c:Option (Option Nat)×Nat×Nat) (st':SortSt)=>∃l u,c=(none,l,u)/\st'=st/\l<=u/\u<=n/\(∀i,i<l->bp i=true)/\(∀i,u<=i->i<n->bp i=false)/\u-l<=n-x)
   (Q:=λ(c:Option (Option Nat)×Nat×Nat) (st':SortSt)=>∃l u,c=(none,l,u)/\st'=st/\u<=l/\u<=n/\(∀i,i<l->bp i=true)/\(∀i,u<=i->i<n->bp i=false)) ?_ ?_ ⟨l0,h0,RA,RA,hle,hh,t1,t2,jS wT⟩) ?_)
  .intro x c st' _ hx z;let⟨l,u,rfl,rfl,h2,h3,h4,h5,h6⟩:=z;calc hf x l u _ h3 (λz=>⟨l,u,RA,RA,z,h3,h4,h5⟩) λz=>?_;cases e:bp (l+(u-l)/2) with| true=>rw[if_pos rfl];show⟨_,_,RA,RA,by grind,h3,λi hi=>up i _ (dS hi) (by grind) e,h5,eL (ck wT wT)⟩| false=>rw[if_neg w8];show⟨_,_,RA,RA,wT,by grind,h4,λi hi hj=>dn _ i hi hj e,eL (ck wT wT)⟩
  .intro c st' z;let⟨l,u,h0',h1,h2,h3,h4,h5,h6⟩:=z;show⟨l,u,h0',h1,wT,h3,h4,h5⟩
  .intro c st' z;let⟨l,u,rfl,rfl,h2,h3,h4,h5⟩:=z;show hF l u (h' _ h3 (λi hi=>h4 i (bu hi h2)) h5)
 cases e0:bp hint with
 | true=>
  rw[if_pos rfl];refine a9 (io (fm (I:=λ(x:Nat) (c:Option (Option Nat)×Nat×Nat) (st':SortSt)=>st'=st/\c.1=none/\c.2.1<n-hint/\c.2.1<c.2.2/\x+1<=c.2.2/\bp (hint+c.2.1)=true)
   (Q:=λ(c:Option (Option Nat)×Nat×Nat) (st':SortSt)=>st'=st/\c.1=none/\c.2.1<n-hint/\c.2.1<c.2.2/\bp (hint+c.2.1)=true/\(c.2.2>=n-hint\/bp (hint+c.2.2)=false)) ?_ ?_ ⟨RA,RA,by dsimp only;show Nat.sub_pos_of_lt hn,by dsimp only;lia,by dsimp only;lia,e0⟩) ?_)
  .intro x c st' _ hx z;let⟨rfl,h1,h2,h3,h4,h5⟩:=z;by_cases z:c.2.2>=n-hint
   .rw[if_pos z];show bg ⟨RA,RA,h2,h3,h5,.inl z⟩
   .rw[if_neg z];calc a9 (wO hO hk hkey hks (i:=lo+(hint+c.2.2)) wT ?_);rw[eb];dsimp only;cases e:bp (hint+c.2.2) with| true=>rw[if_neg w8];show bg ⟨RA,RA,by dsimp only;show sn z,by dsimp only;lia,by dsimp only;lia,e⟩| false=>rw[if_pos w8];show bg ⟨RA,RA,h2,h3,h5,.inr e⟩
  .intro c st' z;let⟨h0',h1,h2,h3,h4,h5⟩:=z;show⟨h0',h1,h2,h3,h5,.inl (jS wT)⟩
  .intro c st' z;let⟨rfl,h1,h2,h3,h4,h5⟩:=z;rw[h1];dsimp only;refine fin (hint+c.2.1+1) (hint+min c.2.2 (n-hint)) wT wT (λi hi=>up i (hint+c.2.1) (dS hi) wT h4) (λi hi hj=>?_) _ _ ?_ ?_
   .rcases h5 with z|z;.lia
    .show dn (hint+c.2.2) i wT hj z
   .intro x l u Q' hun q1 q2;dsimp only;by_cases z:l>=u
    .rw[if_pos z];show bg (q1 z)
    .rw[if_neg z];calc a9 (wO hO hk hkey hks (i:=lo+(l+(u-l)/2)) (by grind) ?_);rw[eb];dsimp only;let q2:=q2 (sn z);cases e:bp (l+(u-l)/2) with| true=>rw[e,if_pos rfl]at q2;rw[if_pos rfl];show bg q2| false=>rw[e,if_neg w8]at q2;rw[if_neg w8];show bg q2
   .show λl u q=>bg q
 | false=>
  rw[if_neg w8];refine a9 (io (fm (I:=λ(x:Nat) (c:Option (Option Nat)×Nat×Nat) (st':SortSt)=>st'=st/\c.1=none/\c.2.1<=hint/\c.2.1<c.2.2/\x+1<=c.2.2/\bp (hint-c.2.1)=false)
   (Q:=λ(c:Option (Option Nat)×Nat×Nat) (st':SortSt)=>st'=st/\c.1=none/\c.2.1<=hint/\c.2.1<c.2.2/\bp (hint-c.2.1)=false/\(c.2.2>=hint+1\/bp (hint-c.2.2)=true)) ?_ ?_ ⟨RA,RA,by dsimp only;lia,by dsimp only;lia,by dsimp only;lia,e0⟩) ?_)
  .intro x c st' _ hx z;let⟨rfl,h1,h2,h3,h4,h5⟩:=z;by_cases z:c.2.2>=hint+1
   .rw[if_pos z];show bg ⟨RA,RA,h2,h3,h5,.inl z⟩
   .rw[if_neg z];calc a9 (wO hO hk hkey hks (i:=lo+(hint-c.2.2)) (by grind) ?_);rw[eb];dsimp only;cases e:bp (hint-c.2.2) with| true=>rw[if_pos rfl];show bg ⟨RA,RA,h2,h3,h5,.inr e⟩| false=>rw[if_neg w8];show bg ⟨RA,RA,by dsimp only;show mx z,by dsimp only;lia,by dsimp only;lia,e⟩
  .intro c st' z;let⟨h0',h1,h2,h3,h4,h5⟩:=z;show⟨h0',h1,h2,h3,h5,.inl wT⟩
  .intro c st' z;let⟨rfl,h1,h2,h3,h4,h5⟩:=z;rw[h1];dsimp only;refine fin (hint+1-min c.2.2 (hint+1)) (hint-c.2.1) (jS wT) (jS wT) (λi hi=>?_) (λi hi hj=>dn (hint-c.2.1) i hi hj h4) _ _ ?_ ?_
   .rcases h5 with z|z;.lia
    .show up i (hint-c.2.2) (fg wT) (kK (n0 _ _) hn) z
   .intro x l u Q' hun q1 q2;dsimp only;by_cases z:l>=u
    .rw[if_pos z];show bg (q1 z)
    .rw[if_neg z];calc a9 (wO hO hk hkey hks (i:=lo+(l+(u-l)/2)) wT ?_);rw[eb];dsimp only;let q2:=q2 wT;cases e:bp (l+(u-l)/2) with| true=>rw[e,if_pos rfl]at q2;rw[if_pos rfl];show bg q2| false=>rw[e,if_neg w8]at q2;rw[if_neg w8];show bg q2
   .show λl u q=>bg q
structure Mg (le:α->α->Prop)(a b out:List α)(i j:Nat):Prop where
 ia:i<=a.length
 jb:j<=b.length
 perm:out.Perm (a.take i++b.take j)
 up:out.Pairwise le
 M9:∀x∈out,∀y∈a.drop i,le x y
 M_:∀x∈out,∀y∈b.drop j,le x y
def yh (le:α->α->Prop)(a b r:List α):Prop:=r.Perm (a++b)/\r.Pairwise le
def Rr {out:List α}(h:out.Pairwise le)(l:∀y∈out,le y x):(out++[x]).Pairwise le:=by rw[f7];calc⟨h,List.pairwise_singleton _ _,λy hy z hz=>?_⟩;rw[ap.mp hz];show l y hy
def jM {a:List α}(h:i<a.length):a.drop i=a[i]::a.drop (i+1):=(i7 h)
def Rt {a:List α}(h:i<a.length):a.take (i+1)=a.take i++[a[i]]:=by rw[bP,ae h];rfl
def Ru {a:List α}(h:a.Pairwise le)(hi:i<a.length):∀y∈a.drop (i+1),le a[i] y:=λy hy=>by let h2:(a.drop i).Pairwise le:=h.sublist (ip i a);rw[jM hi]at h2;show(h8.mp h2).1 y hy
def Mg.vm (m:Mg le a b out i j)(ha:a.Pairwise le)(hi:i<a.length)(h:∀y∈b.drop j,le a[i] y):Mg le a b (out++[a[i]]) (i+1) j:=by
 refine⟨hi,m.jb,?_,Rr m.up λy hy=>m.M9 y hy _ (by rw[jM hi];show aE),λx hx y hy=>?_,λx hx y hy=>?_⟩
 .rw[Rt hi];calc(m.perm.append_right _).trans ?_;rw[bv,bv];show iX _ sD
 .rcases bd.mp hx with z|z;.show m.M9 x z y (by rw[jM hi];show ay _ hy)
  .rw[ap.mp z];show Ru ha hi y hy
 .rcases bd.mp hx with z|z;.show m.M_ x z y hy
  .rw[ap.mp z];show h y hy
def Mg.yj (m:Mg le a b out i j)(hb:b.Pairwise le)(hj:j<b.length)(h:∀y∈a.drop i,le b[j] y):Mg le a b (out++[b[j]]) i (j+1):=by
 refine⟨m.ia,hj,?_,Rr m.up λy hy=>m.M_ y hy _ (by rw[jM hj];show aE),λx hx y hy=>?_,λx hx y hy=>?_⟩
 .rw[Rt hj,<-bv];show m.perm.append_right _
 .rcases bd.mp hx with z|z;.show m.M9 x z y hy
  .rw[ap.mp z];show h y hy
 .rcases bd.mp hx with z|z;.show m.M_ x z y (by rw[jM hj];show ay _ hy)
  .rw[ap.mp z];show Ru hb hj y hy
theorem Mg.Ae {a b:List α}(ha:a.Pairwise le):∀(k:Nat) {out:List α} {i:Nat},Mg le a b out i j->i+k<=a.length->(∀t (ht:t<a.length),i<=t->t<i+k->∀y∈b.drop j,le a[t] y)->Mg le a b (out++(a.drop i).take k) (i+k) j
 | 0,out,i,m,_,_=>by simpa using m
 | k+1,out,i,m,hk,h=>by let hi:i<a.length:=wT;let m2:=Mg.Ae ha k (m.vm ha hi (h i hi (ah _) wT)) wT λt ht h1 h2=>h t ht (aT h1) wT;rw[jM hi,tP];rw[bv,show i+1+k=i+(k+1) by lia]at m2;show m2
theorem Mg.Af {a b:List α}(hb:b.Pairwise le):∀(k:Nat) {out:List α} {j:Nat},Mg le a b out i j->j+k<=b.length->(∀t (ht:t<b.length),j<=t->t<j+k->∀y∈a.drop i,le b[t] y)->Mg le a b (out++(b.drop j).take k) i (j+k)
 | 0,out,j,m,_,_=>by simpa using m
 | k+1,out,j,m,hk,h=>by let hj:j<b.length:=wT;let m2:=Mg.Af hb k (m.yj hb hj (h j hj (ah _) wT)) wT λt ht h1 h2=>h t ht wT wT;rw[jM hj,tP];rw[bv,show j+1+k=j+(k+1) by lia]at m2;show m2
def Mg.done (m:Mg le a b out i j)(ha:a.Pairwise le)(hb:b.Pairwise le)(h:i=a.length\/j=b.length):yh le a b (out++a.drop i++b.drop j):=by
 refine⟨?_,?_⟩
 .let p:(out++(a.drop i++b.drop j)).Perm ((a.take i++b.take j)++(a.drop i++b.drop j)):=m.perm.append_right _;rw[bv];calc p.trans ?_;let e:a++b=(a.take i++a.drop i)++(b.take j++b.drop j):=by rw[cS,cS]
  rw[e,bv,bv];calc iX _ ?_;rw[<-bv,<-bv];show List.Perm.append_right _ sD
 .rw[bv,f7];refine⟨m.up,?_,λx hx y hy=>?_⟩
  .rcases h with z|z;.rw[z,v_,List.nil_append];show hb.sublist (ip _ _)
   .rw[z,v_,fS];show ha.sublist (ip _ _)
  .rcases bd.mp hy with z|z;.show m.M9 x hx y z
   .show m.M_ x hx y z
def Mg.abr (m:Mg le a b out i j)(ha:a.Pairwise le)(hb:b.Pairwise le)(h:∀x∈b.drop j,∀y∈a.drop i,le x y):yh le a b (out++b.drop j++a.drop i):=by
 refine⟨?_,?_⟩
 .let p:(out++(b.drop j++a.drop i)).Perm ((a.take i++b.take j)++(b.drop j++a.drop i)):=m.perm.append_right _;rw[bv];calc p.trans ?_;let e:a++b=(a.take i++a.drop i)++(b.take j++b.drop j):=by rw[cS,cS]
  rw[e,bv,bv];calc iX _ ?_;rw[<-bv];show sD
 .rw[bv,f7];refine⟨m.up,?_,λx hx y hy=>?_⟩
  .rw[f7];show⟨hb.sublist (ip _ _),ha.sublist (ip _ _),h⟩
  .rcases bd.mp hy with z|z;.show m.M_ x hx y z
   .show m.M9 x hx y z
def Mg.zero:Mg le a b [] 0 0:=⟨cw _,cw _,w8,.nil,λx h=>by simp at h,λx h=>by simp at h⟩
def kf (κ:PyProof.Rows.KeyKind)(p:Keyed):κ.α:=(κ.keyOf p.1).getD κ.dflt
def kL (κ:PyProof.Rows.KeyKind)(p q:Keyed):Prop:=κ.kle (kf κ p) (kf κ q)
def yp {arr:Array Keyed}(h:i<arr.size):KK κ arr i=kf κ arr[i]:=by unfold KK kf;rw[bX h]
def m9 (hks:KeysOf κ arr)(h:i<arr.size):κ.keyOf arr[i].1=some (kf κ arr[i]):=by rw[uo hks h,yp h]
structure jR (st st':SortSt):Prop where
 kind:kindOf st'=kindOf st
 arr:arrOf st'=arrOf st
 pend:pendingOf st'=pendingOf st
 fail:failedOf st'=failedOf st
def jR.refl (st):jR st st:=⟨RA,RA,RA,RA⟩
def nC {a:Array Keyed}(h:a.toList.Pairwise (kL κ))(hij:i<=j)(hj:j<a.size):κ.kle (kf κ a[i]) (kf κ a[j]):=by
 rcases Nat.eq_or_lt_of_le hij with z|z;.subst z;show gN _
 .have:=(e8.mp h) i j (by simpa using (by show ml z hj:i<a.size)) (by simpa using hj) z;show(by simpa using this:kL κ a[i] a[j])
def wQ {a:Array Keyed}(h:y∈a.toList.drop i):∃t,∃(ht:t<a.size),i<=t/\a[t]=y:=by
 let⟨t,ht,e⟩:=b9.mp h;let ht':t<a.size-i:=by simpa using ht
 show⟨i+t,by grind,wT,by rw[<-e];simp⟩
def nD {g:Nat}{st0 st:SortSt}{Q:Unit->SortSt->Prop}(h0:jR st0 st)(h:∀st',jR st0 st'->Q () st'):wpS (model prog w) A E s ((sortPriv% PySem.Builtin.setMinGallop) g) Q st:=by show tm (h _ ⟨h0.kind,h0.arr,h0.pend,h0.fail⟩)
def wR {β α:Type}{J:β->StateT SortSt Sem α}{C:β->Prop}{m:StateT SortSt Sem α}{R:α->SortSt->Prop}{st:SortSt}(h1:∀o,C o->wpS (model prog w) A E s (J o) R st)(h2:(∀o,C o->wpS (model prog w) A E s (J o) R st)->wpS (model prog w) A E s m R st):wpS (model prog w) A E s m R st:=h2 h1
def BW {arr:Array Keyed}(hx:x<arr.size):jL κ false kk arr x=true↔κ.kle (kf κ arr[x]) kk:=by unfold jL;rw[if_neg w8,yp hx];unfold KeyOrd.kle;simp
def Nb {arr:Array Keyed}(hx:x<arr.size):jL κ false kk arr x=false↔κ.klt kk (kf κ arr[x]):=by unfold jL;rw[if_neg w8,yp hx];unfold KeyOrd.klt;simp
def BX {arr:Array Keyed}(hx:x<arr.size):jL κ true kk arr x=true↔κ.klt (kf κ arr[x]) kk:=by unfold jL;rw[if_pos RA,yp hx];rfl
def Nf {arr:Array Keyed}(hx:x<arr.size):jL κ true kk arr x=false↔κ.kle kk (kf κ arr[x]):=by unfold jL;rw[if_pos RA,yp hx];rfl
def WK {arr:Array Keyed}(hu:arr.toList.Pairwise (kL κ)){lo n:Nat}(hn:lo+n<=arr.size):∀i j,i<=j->j<n->jL κ false kk arr (lo+j)=true->jL κ false kk arr (lo+i)=true:=λi j hij hj h=>by rw[BW wT]at h ⊢;show c9 (nC hu (mP hij _) wT) h
def WL {arr:Array Keyed}(hu:arr.toList.Pairwise (kL κ)){lo n:Nat}(hn:lo+n<=arr.size):∀i j,i<=j->j<n->jL κ true kk arr (lo+j)=true->jL κ true kk arr (lo+i)=true:=λi j hij hj h=>by rw[BX wT]at h ⊢;show KeyOrd.klt_of_kle_of_klt (nC hu wT wT) h
def Qg {a b:Array Keyed}{st:SortSt}{Q:Array Keyed->SortSt->Prop}(hO:jG prog w A s κ kn)(hk:kindOf st=kn)(hka:KeysOf κ a)(hkb:KeysOf κ b)(ha:a.toList.Pairwise (kL κ))(hb:b.toList.Pairwise (kL κ))(a0:0<a.size)(b0:0<b.size)(hlo:κ.kle (kf κ b[0]) (kf κ a[0]))(hhi:∀j (hj:j<b.size),κ.klt (kf κ b[j]) (kf κ a[a.size-1]))(h:∀r st',yh (kL κ) a.toList b.toList r.toList->jR st st'->Q r st'):wpS (model prog w) A E s ((sortPriv% PySem.Builtin.mergeLo) a b) Q st:=by
 let lA:∀{i},(a.extract i).toList=a.toList.drop i:=by intro i;simp;show cx w8
 let lB:∀{i},(b.extract i).toList=b.toList.drop i:=by intro i;simp;show cx w8
 let sA:a.toList.length=a.size:=w8;let sB:b.toList.length=b.size:=w8;let gA:∀i (hi:i<a.size),a.toList[i]'(by simpa using hi)=a[i]:=λi hi=>by simp
 let gB:∀i (hi:i<b.size),b.toList[i]'(by simpa using hi)=b[i]:=λi hi=>by simp
 let Lr:∀{i j},i+1=a.size->∀x∈b.toList.drop j,∀y∈a.toList.drop i,kL κ x y:=λ{i j} hi x hx y hy=>by
  let⟨t,ht,_,rfl⟩:=wQ hx;let⟨u,hu,h1,rfl⟩:=wQ hy;obtain rfl:u=a.size-1:=by first|lia|((try dsimp only);lia)
  show d6 (hhi t ht)
 let mpA:∀{out:Array Keyed} {i j:Nat},Mg (kL κ) a.toList b.toList out.toList i j->(hi:i<a.size)->(∀u (hu:u<b.size),j<=u->κ.kle (kf κ a[i]) (kf κ b[u]))->Mg (kL κ) a.toList b.toList (out.push a[i]).toList (i+1) j:=λ{out i j} m hi q=>by
  have:=m.vm ha (by simpa using hi) λy hy=>by let⟨u,hu,h1,rfl⟩:=wQ hy;rw[gA i hi];show q u hu h1
  rw[gA i hi]at this;simpa using this
 let mpB:∀{out:Array Keyed} {i j:Nat},Mg (kL κ) a.toList b.toList out.toList i j->(hj:j<b.size)->(∀u (hu:u<a.size),i<=u->κ.kle (kf κ b[j]) (kf κ a[u]))->Mg (kL κ) a.toList b.toList (out.push b[j]).toList i (j+1):=λ{out i j} m hj q=>by
  have:=m.yj hb (by simpa using hj) λy hy=>by let⟨u,hu,h1,rfl⟩:=wQ hy;rw[gB j hj];show q u hu h1
  rw[gB j hj]at this;simpa using this
 let mbA:∀{out:Array Keyed} {i j k:Nat},Mg (kL κ) a.toList b.toList out.toList i j->i+k<=a.size->(∀t (ht:t<a.size),i<=t->t<i+k->∀u (hu:u<b.size),j<=u->κ.kle (kf κ a[t]) (kf κ b[u]))->Mg (kL κ) a.toList b.toList (out++a.extract i (i+k)).toList (i+k) j:=λ{out i j k} m hk q=>by
  have:=Mg.Ae ha k m (by simpa using hk) λt ht h1 h2 y hy=>by
   let⟨u,hu,h3,rfl⟩:=wQ hy;let ht':t<a.size:=by simpa using ht
   rw[gA t ht'];show q t ht' h1 h2 u hu h3
  rw[fq];let e:(a.extract i (i+k)).toList=(a.toList.drop i).take k:=w8;rw[e];show this
 let mbB:∀{out:Array Keyed} {i j k:Nat},Mg (kL κ) a.toList b.toList out.toList i j->j+k<=b.size->(∀t (ht:t<b.size),j<=t->t<j+k->∀u (hu:u<a.size),i<=u->κ.kle (kf κ b[t]) (kf κ a[u]))->Mg (kL κ) a.toList b.toList (out++b.extract j (j+k)).toList i (j+k):=λ{out i j k} m hk q=>by
  have:=Mg.Af hb k m (by simpa using hk) λt ht h1 h2 y hy=>by
   let⟨u,hu,h3,rfl⟩:=wQ hy;let ht':t<b.size:=by simpa using ht
   rw[gB t ht'];show q t ht' h1 h2 u hu h3
  rw[fq];let e:(b.extract j (j+k)).toList=(b.toList.drop j).take k:=w8;rw[e];show this
 let yq:∀{out:Array Keyed} {i j:Nat} {st':SortSt},jR st st'->Mg (kL κ) a.toList b.toList out.toList i j->(i=a.size\/j=b.size)->Q (out++a.extract i++b.extract j) st':=λ{out i j st'} e m z=>by calc h _ _ ?_ e;rw[fq,fq,lA,lB];show m.done ha hb (by rw[sA,sB];show z)
 let fin2:∀{out:Array Keyed} {i j:Nat} {st':SortSt},jR st st'->Mg (kL κ) a.toList b.toList out.toList i j->i+1=a.size->Q (out++b.extract j++a.extract i) st':=λ{out i j st'} e m z=>by calc h _ _ ?_ e;rw[fq,fq,lA,lB];show m.abr ha hb (Lr z)
 show wpS _ _ _ _ (_ >>= _) _ _;refine a9 (wpS_lift (fo ⟨RA,?_⟩))
 skip
 calc a9 (cV b0 ?_);let m0:Mg (kL κ) a.toList b.toList (#[b[0]]:Array Keyed).toList 0 1:=by have:=mpB (out:=#[]) (i:=0) (j:=0) Mg.zero b0 λu hu _=>c9 hlo (nC ha (cw _) hu);simpa using this
 skip
 by_cases z1:1=b.size
 .calc bA (by simpa using z1) ?_;show bg (yq (jR.refl _) m0 (.inr z1))
 calc bf (by simpa using z1) ?_;by_cases z2:0+1=a.size
 .calc bA (by simpa using z2) ?_;show bg (fin2 (jR.refl _) m0 z2)
 calc bf (by simpa using z2) ?_;refine a9 (rc ?_)
 skip
 refine a9 (io (fm (I:=λ(x:Nat) (c:Option (Array Keyed)×Array Keyed×Nat×Nat×Nat) (st':SortSt)=>∃out i j g,c=(none,out,i,j,g)/\jR st st'/\Mg (kL κ) a.toList b.toList out.toList i j/\i+1<a.size/\j<b.size/\x+1<=i+j)
  (Q:=λ(c:Option (Array Keyed)×Array Keyed×Nat×Nat×Nat) (st':SortSt)=>∃r q,c=(some r,q)/\Q r st') ?_ ?_ (JI _ _ _ _ ⟨RA,jR.refl _,m0,xf,xf,xf⟩)) ?_)
 .intro x c st1 _ hx z;let⟨out,i,j,g,rfl,e1,m1,hi,hj,hc⟩:=z
  walk_at"a"
  refine a9 (io (fm (I:=λ(y:Nat) (c:Option (Array Keyed)×Array Keyed×Nat×Nat×Nat×Nat) (st':SortSt)=>∃out i' j' p q,c=(none,out,i',j',p,q)/\jR st st'/\Mg (kL κ) a.toList b.toList out.toList i' j'/\i'+1<a.size/\j'<b.size/\i+j+y<=i'+j')
   (Q:=λ(c:Option (Array Keyed)×Array Keyed×Nat×Nat×Nat×Nat) (st':SortSt)=>(∃r q,c=(some r,q)/\Q r st')\/∃out i' j' p q,c=(none,out,i',j',p,q)/\jR st st'/\Mg (kL κ) a.toList b.toList out.toList i' j'/\i'+1<a.size/\j'<b.size/\i+j+1<=i'+j') ?_ ?_ (JJ _ _ _ _ _ ⟨RA,e1,m1,hi,hj,xf⟩)) ?_)
  .intro y c st2 _ hy z;let⟨out,i,j,p,q,rfl,e2,m2,hi,hj,hc⟩:=z
   walk_at"a"
   calc a9 (cV hj (a9 (cV (show i<a.size from aT hi) ?_)));refine a9 (Ad hO (by rw[e2.kind];show hk) (m9 hkb hj) (m9 hka xf) ?_)
   walk_at"a"
   cases e:κ.blt (kf κ b[j]) (kf κ a[i]) with
   | true=>
    calc bA RA ?_;refine a9 (cV hj ?_)
    walk_at"a"
    let m3:=mpB m2 hj λu hu h1=>c9 (d6 e) (nC ha h1 hu);by_cases z:j+1=b.size
    .calc bA (by simpa using z) ?_;show bg (.inl ⟨_,_,RA,yq e2 m3 (.inr z)⟩)
    .calc bf (by simpa using z) ?_;by_cases z':q+1>=g
     .calc bA z' ?_;show bg (.inr (JJ _ _ _ _ _ ⟨RA,e2,m3,hi,xf,xf⟩))
     .calc bf z' ?_;show bg (JJ _ _ _ _ _ ⟨RA,e2,m3,hi,xf,xf⟩)
   | false=>
    calc bf w8 ?_;refine a9 (cV (show i<a.size by first|lia|((try dsimp only);lia)) ?_)
    walk_at"a"
    let m3:=mpA m2 (show i<a.size by first|lia|((try dsimp only);lia)) λu hu h1=>c9 (show κ.kle _ _ from e) (nC hb h1 hu);by_cases z:i+1+1=a.size
    .calc bA (by simpa using z) ?_;show bg (.inl ⟨_,_,RA,fin2 e2 m3 z⟩)
    .calc bf (by simpa using z) ?_;by_cases z':p+1>=g
     .calc bA z' ?_;show bg (.inr (JJ _ _ _ _ _ ⟨RA,e2,m3,xf,hj,xf⟩))
     .calc bf z' ?_;show bg (JJ _ _ _ _ _ ⟨RA,e2,m3,xf,hj,xf⟩)
  .intro c st2 z;let⟨out,i',j',p,q,rfl,e2,m2,hi',hj',hc'⟩:=z;exfalso;lia
  .rintro c st2 (⟨r,q,rfl,hq⟩|⟨out,i',j',p,q,rfl,e2,m2,hi',hj',hc'⟩)
   .walk_at"a"
    show bg ⟨_,_,RA,hq⟩
   .walk_at"a"
    refine a9 (wpS_lift (fo ⟨RA,?_⟩))
    walk_at"a"
    refine a9 (io (fm (I:=λ(y:Nat) (c:Option (Array Keyed)×Array Keyed×Nat×Nat×Nat×Nat×Nat) (st':SortSt)=>∃out i2 j2 g p q,c=(none,out,i2,j2,g,p,q)/\jR st st'/\Mg (kL κ) a.toList b.toList out.toList i2 j2/\i2+1<a.size/\j2<b.size/\i'+j'+y<=i2+j2)
     (Q:=λ(c:Option (Array Keyed)×Array Keyed×Nat×Nat×Nat×Nat×Nat) (st':SortSt)=>(∃r q,c=(some r,q)/\Q r st')\/∃out i2 j2 g p q,c=(none,out,i2,j2,g,p,q)/\jR st st'/\Mg (kL κ) a.toList b.toList out.toList i2 j2/\i2+1<a.size/\j2<b.size/\i'+j'<=i2+j2) ?_ ?_ (JO _ _ _ _ _ _ ⟨RA,e2,m2,hi',hj',xf⟩)) ?_)
    .intro y c st3 _ hy z;let⟨out,i,j,g,p,q,rfl,e3,m3,hi,hj,hc⟩:=z
     walk_at"a"
     extract_lets -underBinder +onlyGivenNames l1 l2 l3 l4 l5 l6 l7 l8 l9 l10 l11 jp1
     let q4:l4=i:=rfl;let q4b:l3.fst=i:=rfl;let q6:l6=j:=rfl;let q6b:l5.fst=j:=rfl;let q8:l8=g:=rfl;let q8b:l7.fst=g:=rfl;refine wR (J:=λg':Nat=>jp1 () g') (C:=λ_=>True) (λg' _=>?_) (λhJ=>?_)
     rotate_left
     .by_cases z:g > 1
      .calc bA z ?_;show hJ (g-1) trivial
      .calc bf z ?_;show hJ g trivial
     walk_at"a"
     calc a9 (nD e3 λeU e4=>?_);calc a9 (cV hj ?_);calc a9 (mJ hO (by rw[e4.kind];show hk) (m9 hkb hj) hka (Nat.sub_pos_of_lt wT) (by grind) (WK ha xf) λk hk1 hk2 hk3=>?_);let kA:∀t (ht:t<a.size),i<=t->t<i+k->κ.kle (kf κ a[t]) (kf κ b[j]):=λt ht h1 h2=>by have:=hk2 (t-i) (by grind);rw[show i+(t-i)=t from ng h1,BW ht]at this;show this
     let kB:∀t (ht:t<a.size),i+k<=t->κ.klt (kf κ b[j]) (kf κ a[t]):=λt ht h1=>by have:=hk3 (t-i) (by show fg (by simp +arith [*])) xf;rw[show i+(t-i)=t by first|lia|((try dsimp only);lia),Nb ht]at this;show this
     let hkl:i+k<a.size:=by
      rcases eC (i+k) a.size with z|z;.show z
      .let h1:=kA (a.size-1) (by grind) (fg wT) (by grind);show absurd (hhi j hj) (sF h1)
     walk_at"a"
     extract_lets -underBinder +onlyGivenNames ac jp2
     refine wR (J:=λo:Array Keyed×Nat=>jp2 () o.1 o.2) (C:=λo=>Mg (kL κ) a.toList b.toList o.1.toList o.2 j/\o.2=i+k/\o.2+1<a.size) (λo ho=>?_) (λhJ=>?_)
     .let⟨o1,o2⟩:=o;let⟨mo,eo,sG⟩:=ho;let eo:o2=i+k:=eo;subst eo;let mo:Mg (kL κ) a.toList b.toList o1.toList (i+k) j:=mo;let sG:i+k+1<a.size:=sG
      walk_at"a"
      refine a9 (cV hj ?_)
      walk_at"a"
      let m5:=mpB mo hj λu hu h1=>d6 (kB u hu h1);by_cases z:j+1=b.size
      .calc bA (by simpa using z) ?_;show bg (.inl ⟨_,_,RA,yq e4 m5 (.inr z)⟩)
      calc bf (by simpa using z) ?_;calc a9 (cV hkl ?_);calc a9 (mJ hO (by rw[e4.kind];show hk) (m9 hka hkl) hkb (fg wT) (by grind) (WL hb xf) λk2 h1 h2 h3=>?_);let lb:∀t (ht:t<b.size),j+1<=t->t<j+1+k2->κ.klt (kf κ b[t]) (kf κ a[i+k]):=λt ht q1 q2=>by have:=h2 (t-(j+1)) (by grind);rw[show j+1+(t-(j+1))=t from ng q1,BX ht]at this;show this
      let la:∀t (ht:t<b.size),j+1+k2<=t->κ.kle (kf κ a[i+k]) (kf κ b[t]):=λt ht q1=>by have:=h3 (t-(j+1)) xf xf;rw[show j+1+(t-(j+1))=t by first|lia|((try dsimp only);lia),Nf ht]at this;show this
      walk_at"a"
      extract_lets -underBinder +onlyGivenNames bc jp3
      refine wR (J:=λo:Array Keyed×Nat=>jp3 () o.1 o.2) (C:=λo=>Mg (kL κ) a.toList b.toList o.1.toList (i+k) o.2/\o.2=j+1+k2/\o.2<b.size) (λo ho=>?_) (λhJ=>?_)
      .let⟨o1,o2⟩:=o;let⟨mo,eo,sG⟩:=ho;let eo:o2=j+1+k2:=eo;subst eo;let mo:Mg (kL κ) a.toList b.toList o1.toList (i+k) (j+1+k2):=mo;let sG:j+1+k2<b.size:=sG
       walk_at"a"
       refine a9 (cV hkl ?_)
       walk_at"a"
       let m6:=mpA mo hkl λu hu h1=>la u hu h1;by_cases z:i+k+1+1=a.size
       .calc bA (by simpa using z) ?_;show bg (.inl ⟨_,_,RA,fin2 e4 m6 z⟩)
       calc bf (by simpa using z) ?_;by_cases z':(decide (k<7)&&decide (k2<7))=true
       .calc bA z' ?_;show bg (.inr (JO _ _ _ _ _ _ ⟨RA,e4,m6,xf,sG,xf⟩))
       .calc bf z' ?_;show bg (JO _ _ _ _ _ _ ⟨RA,e4,m6,xf,sG,xf⟩)
      .by_cases z3:k2 > 0
       .refine bA z3 ?_
        walk_at"a"
        let m6:=mbB (k:=k2) m5 xf λt ht q1 q2 u hu q3=>d6 (qq (lb t ht q1 q2) (nC ha q3 hu));by_cases z4:j+1+k2=b.size
        .calc bA (by simpa using z4) ?_;show bg (.inl ⟨_,_,RA,yq e4 m6 (.inr z4)⟩)
        .calc bf (by simpa using z4) ?_;show hJ (_,_) ⟨m6,RA,by dsimp only;lia⟩
       .calc bf z3 ?_;obtain rfl:k2=0:=Nat.eq_zero_of_not_pos z3;show hJ (_,_) ⟨m5,RA,by dsimp only;lia⟩
     .by_cases z3:k > 0
      .refine bA z3 ?_
       walk_at"a"
       let m6:=mbA (k:=k) m3 (aT hkl) λt ht q1 q2 u hu q3=>c9 (kA t ht q1 q2) (nC hb q3 hu);by_cases z4:i+k+1=a.size
       .calc bA (by simpa using z4) ?_;show bg (.inl ⟨_,_,RA,fin2 e4 m6 z4⟩)
       .calc bf (by simpa using z4) ?_;calc bf (by simp;show bn hkl) ?_;show hJ (_,_) ⟨m6,RA,by dsimp only;lia⟩
      .calc bf z3 ?_;obtain rfl:k=0:=by first|lia|((try dsimp only);lia)
       show hJ (_,_) ⟨m3,RA,by dsimp only;lia⟩
    .intro c st3 z;let⟨out,i2,j2,g,p,q,rfl,e3,m3,hi2,hj2,hc2⟩:=z;exfalso;lia
    .rintro c st3 (⟨r,q,rfl,hq⟩|⟨out,i2,j2,g,p,q,rfl,e3,m3,hi2,hj2,hc2⟩)
     .walk_at"a"
      show bg ⟨_,_,RA,hq⟩
     .walk_at"a"
      calc a9 (nD e3 λeU e4=>?_);show bg (JI _ _ _ _ ⟨RA,e4,m3,hi2,hj2,xf⟩)
 .intro c st1 z;let⟨out,i,j,g,rfl,e1,m1,hi,hj,hc⟩:=z;exfalso;lia
 .intro c st1 z;let⟨r,q,rfl,hq⟩:=z;show bg hq
structure gO (κ:PyProof.Rows.KeyKind)(a b out:Array Keyed)(n m:Nat):Prop where
 na:n<=a.size
 mb:m<=b.size
 mg:Mg (λx y=>kL κ y x) b.toList.reverse a.toList.reverse out.toList (b.size-m) (a.size-n)
def wU {a:Array Keyed}(h:a.toList.Pairwise (kL κ)):a.toList.reverse.Pairwise (λx y=>kL κ y x):=by rw[List.pairwise_reverse];show h
def uq {a:Array Keyed}(h:n<=a.size):a.toList.reverse.drop (a.size-n)=(a.toList.take n).reverse:=by rw[List.drop_reverse];congr 2;simp;show hG h
def Gb {a:Array Keyed}(hn:n<=a.size)(h:y∈a.toList.reverse.drop (a.size-n)):∃u,∃(hu:u<a.size),u<n/\a[u]=y:=by
 rw[uq hn,wc]at h;let⟨t,ht,e⟩:=b9.mp h;let ht':t<n:=by have:=ht;simp at this;simp_all
 show⟨t,bu ht' hn,ht',by rw[<-e];simp⟩
def WM {a:Array Keyed}(h0:0<n)(hn:n<=a.size):∃h:a.size-n<a.toList.reverse.length,a.toList.reverse[a.size-n]=a[n-1]:=by calc⟨by simp;show ck wT wT,?_⟩;rw[List.getElem_reverse];simp only[Array.getElem_toList,bo];congr 1;lia
def gO.vm (g:gO κ a b out n m)(ha:a.toList.Pairwise (kL κ))(h0:0<n)(hl:n-1<a.size)(h:∀u (hu:u<b.size),u<m->κ.kle (kf κ b[u]) (kf κ a[n-1])):gO κ a b (out.push a[n-1]) (n-1) m:=by
 let⟨h1,e1⟩:=WM h0 g.na;have:=g.mg.yj (wU ha) h1 λy hy=>by let⟨u,hu,h2,rfl⟩:=Gb g.mb hy;rw[e1];show h u hu h2
 rw[e1]at this;let hn:=g.na;calc⟨aT hl,g.mb,?_⟩;rw[show a.size-(n-1)=a.size-n+1 from fh wT];simpa using this
def gO.yj (g:gO κ a b out n m)(hb:b.toList.Pairwise (kL κ))(h0:0<m)(hl:m-1<b.size)(h:∀u (hu:u<a.size),u<n->κ.kle (kf κ a[u]) (kf κ b[m-1])):gO κ a b (out.push b[m-1]) n (m-1):=by
 let⟨h1,e1⟩:=WM h0 g.mb;have:=g.mg.vm (wU hb) h1 λy hy=>by let⟨u,hu,h2,rfl⟩:=Gb g.na hy;rw[e1];show h u hu h2
 rw[e1]at this;let hm:=g.mb;calc⟨g.na,wT,?_⟩;rw[show b.size-(m-1)=b.size-m+1 by lia];simpa using this
theorem gO.Ae {a b:Array Keyed}(ha:a.toList.Pairwise (kL κ)):∀(k:Nat) {out:Array Keyed} {n:Nat},gO κ a b out n m->k<=n->(∀t (ht:t<a.size),n-k<=t->t<n->∀u (hu:u<b.size),u<m->κ.kle (kf κ b[u]) (kf κ a[t]))->gO κ a b (out++(a.extract (n-k) n).reverse) (n-k) m
 | 0,out,n,g,_,_=>by
  let e:(a.extract (n-0) n).reverse=#[]:=by simp;show qf _ _
  rw[e];simpa using g
 | k+1,out,n,g,hk,h=>by
  let hn:=g.na;let g2:=gO.Ae ha k (g.vm ha wT (ck wT wT) (h (n-1) wT (Nat.sub_le_sub_left wT _) (vE wT wT))) (vw hk) λt ht h1 h2=>h t ht wT wT;let e:out++(a.extract (n-(k+1)) n).reverse=out.push a[n-1]++(a.extract (n-1-k) (n-1)).reverse:=by
   apply mr.mp;rw[fq,fq,lx,bv];congr 1;rw[o0,o0,show n-1-k=n-(k+1) by lia];let e2:a.extract (n-(k+1)) n=(a.extract (n-(k+1)) (n-1)).push a[n-1]:=by
    apply Array.ext;.simp;lia
    .intro i h1 h2;simp at h1 h2;rw[Array.getElem_push];split;.simp
     .rename_i z;simp at z;simp;congr 1
      (simp[fz,gT]at *;lia)
   rw[e2,lx,tT];rfl
  rw[e,show n-(k+1)=n-1-k by lia];show g2
theorem gO.Af {a b:Array Keyed}(hb:b.toList.Pairwise (kL κ)):∀(k:Nat) {out:Array Keyed} {m:Nat},gO κ a b out n m->k<=m->(∀t (ht:t<b.size),m-k<=t->t<m->∀u (hu:u<a.size),u<n->κ.kle (kf κ a[u]) (kf κ b[t]))->gO κ a b (out++(b.extract (m-k) m).reverse) n (m-k)
 | 0,out,m,g,_,_=>by
  let e:(b.extract (m-0) m).reverse=#[]:=by simp;lia
  rw[e];simpa using g
 | k+1,out,m,g,hk,h=>by
  let hm:=g.mb;let g2:=gO.Af hb k (g.yj hb wT wT (h (m-1) wT wT wT)) wT λt ht h1 h2=>h t ht wT wT;let e:out++(b.extract (m-(k+1)) m).reverse=out.push b[m-1]++(b.extract (m-1-k) (m-1)).reverse:=by
   apply mr.mp;rw[fq,fq,lx,bv];congr 1;rw[o0,o0,show m-1-k=m-(k+1) by lia];let e2:b.extract (m-(k+1)) m=(b.extract (m-(k+1)) (m-1)).push b[m-1]:=by
    apply Array.ext;.simp;lia
    .intro i h1 h2;simp at h1 h2;rw[Array.getElem_push];split;.simp
     .rename_i z;simp at z;simp;congr 1;lia
   rw[e2,lx,tT];rfl
  rw[e,show m-(k+1)=m-1-k by lia];show g2
def Rv {a b r:Array Keyed}(h:yh (λx y=>kL κ y x) b.toList.reverse a.toList.reverse r.toList.reverse):yh (kL κ) a.toList b.toList r.toList:=by calc⟨?_,List.pairwise_reverse.mp h.2⟩;calc(List.reverse_perm r.toList).symm.trans (h.1.trans ?_);rw[<-tT];show List.reverse_perm _
def gO.done (g:gO κ a b out n m)(ha:a.toList.Pairwise (kL κ))(hb:b.toList.Pairwise (kL κ))(h:n=0\/m=0):yh (kL κ) a.toList b.toList (a.extract 0 n++b.extract 0 m++out.reverse).toList:=by calc Rv ?_;have:=g.mg.done (wU hb) (wU ha) (by simp;lia);rw[uq g.na,uq g.mb]at this;simpa using this
def gO.ae1 (g:gO κ a b out n m)(ha:a.toList.Pairwise (kL κ))(hb:b.toList.Pairwise (kL κ))(h:∀u (hu:u<b.size),u<m->∀t (ht:t<a.size),t<n->κ.kle (kf κ b[u]) (kf κ a[t])):yh (kL κ) a.toList b.toList (b.extract 0 m++a.extract 0 n++out.reverse).toList:=by
 calc Rv ?_;have:=g.mg.abr (wU hb) (wU ha) λx hx y hy=>by let⟨t,ht,h2,rfl⟩:=Gb g.na hx;let⟨u,hu,h1,rfl⟩:=Gb g.mb hy;show h u hu h1 t ht h2
 rw[uq g.na,uq g.mb]at this;simpa using this
def gO.zero:gO κ a b #[] a.size b.size:=⟨ah _,ah _,by rw[my,my];show Mg.zero⟩
def Qh {a b:Array Keyed}{st:SortSt}{Q:Array Keyed->SortSt->Prop}(hO:jG prog w A s κ kn)(hk:kindOf st=kn)(hka:KeysOf κ a)(hkb:KeysOf κ b)(ha:a.toList.Pairwise (kL κ))(hb:b.toList.Pairwise (kL κ))(a0:0<a.size)(b0:0<b.size)(hlo:κ.klt (kf κ b[0]) (kf κ a[0]))(hhi:∀j (hj:j<b.size),κ.kle (kf κ b[j]) (kf κ a[a.size-1]))(h:∀r st',yh (kL κ) a.toList b.toList r.toList->jR st st'->Q r st'):wpS (model prog w) A E s ((sortPriv% PySem.Builtin.mergeHi) a b) Q st:=by
 let hlow:∀t (ht:t<a.size),κ.klt (kf κ b[0]) (kf κ a[t]):=λt ht=>qq hlo (nC ha (cw _) ht);let yq:∀{out:Array Keyed} {n m:Nat} {st':SortSt},jR st st'->gO κ a b out n m->(n=0\/m=0)->Q (a.extract 0 n++b.extract 0 m++out.reverse) st':=λ{out n m st'} e g z=>h _ _ (g.done ha hb z) e;let fin2:∀{out:Array Keyed} {n m:Nat} {st':SortSt},jR st st'->gO κ a b out n m->m=1->Q (b.extract 0 m++a.extract 0 n++out.reverse) st':=λ{out n m st'} e g z=>h _ _ (g.ae1 ha hb λu hu h1 t ht h2=>by
  obtain rfl:u=0:=by first|lia|((try dsimp only);lia)
  show d6 (hlow t ht)) e
 show wpS _ _ _ _ (_ >>= _) _ _;refine a9 (wpS_lift (fo ⟨RA,?_⟩))
 skip
 walk_at"a"
 calc a9 (cV (show a.size-1<a.size by first|lia|((try dsimp only);lia)) ?_);let m0:gO κ a b (#[a[a.size-1]]:Array Keyed) (a.size-1) b.size:=by have:=gO.vm (gO.zero (κ:=κ) (a:=a) (b:=b)) ha a0 xf λu hu _=>hhi u hu;simpa using this
 walk_at"a"
 by_cases z1:a.size-1=0
 .calc bA (by simpa using z1) ?_;show bg (yq (jR.refl _) m0 (.inl z1))
 calc bf (by simpa using z1) ?_;by_cases z2:b.size=1
 .calc bA (by simpa using z2) ?_;show bg (fin2 (jR.refl _) m0 z2)
 calc bf (by simpa using z2) ?_;refine a9 (rc ?_)
 walk_at"a"
 refine a9 (io (fm (I:=λ(x:Nat) (c:Option (Array Keyed)×Nat×Nat×Array Keyed×Nat) (st':SortSt)=>∃n m out g,c=(none,n,m,out,g)/\jR st st'/\gO κ a b out n m/\1<=n/\2<=m/\n+m+x+1<=a.size+b.size)
  (Q:=λ(c:Option (Array Keyed)×Nat×Nat×Array Keyed×Nat) (st':SortSt)=>∃r q,c=(some r,q)/\Q r st') ?_ ?_ (JI _ _ _ _ ⟨RA,jR.refl _,m0,xf,xf,xf⟩)) ?_)
 .intro x c st1 _ hx z;let⟨n,m,out,g,rfl,e1,m1,hn,hm,hc⟩:=z
  walk_at"a"
  refine a9 (io (fm (I:=λ(y:Nat) (c:Option (Array Keyed)×Nat×Nat×Array Keyed×Nat×Nat) (st':SortSt)=>∃n' m' out p q,c=(none,n',m',out,p,q)/\jR st st'/\gO κ a b out n' m'/\1<=n'/\2<=m'/\n'+m'+y<=n+m)
   (Q:=λ(c:Option (Array Keyed)×Nat×Nat×Array Keyed×Nat×Nat) (st':SortSt)=>(∃r q,c=(some r,q)/\Q r st')\/∃n' m' out p q,c=(none,n',m',out,p,q)/\jR st st'/\gO κ a b out n' m'/\1<=n'/\2<=m'/\n'+m'+1<=n+m) ?_ ?_ (JJ _ _ _ _ _ ⟨RA,e1,m1,hn,hm,xf⟩)) ?_)
  .intro y c st2 _ hy z;let⟨n,m,out,p,q,rfl,e2,m2,hn,hm,hc⟩:=z;let hna:=m2.na;let hmb:=m2.mb;let ln:n-1<a.size:=ck wT wT;let lm:m-1<b.size:=ck wT wT
   walk_at"a"
   calc a9 (cV lm (a9 (cV ln ?_)));refine a9 (Ad hO (by rw[e2.kind];show hk) (m9 hkb lm) (m9 hka ln) ?_)
   walk_at"a"
   cases e:κ.blt (kf κ b[m-1]) (kf κ a[n-1]) with
   | true=>
    refine bA RA ?_
    walk_at"a"
    refine a9 (cV ln ?_)
    walk_at"a"
    let m3:=m2.vm ha hn ln λu hu h1=>c9 (nC hb (show u<=m-1 from eL h1) lm) (d6 e);by_cases z:n-1=0
    .calc bA (by simpa using z) ?_;show bg (.inl ⟨_,_,RA,yq e2 m3 (.inl z)⟩)
    .calc bf (by simpa using z) ?_;by_cases z':p+1>=g
     .calc bA z' ?_;show bg (.inr (JJ _ _ _ _ _ ⟨RA,e2,m3,xf,hm,xf⟩))
     .calc bf z' ?_;show bg (JJ _ _ _ _ _ ⟨RA,e2,m3,xf,hm,xf⟩)
   | false=>
    refine bf w8 ?_
    walk_at"a"
    refine a9 (cV lm ?_)
    walk_at"a"
    let m3:=m2.yj hb (aT hm) lm λu hu h1=>c9 (nC ha (show u<=n-1 from eL h1) ln) (show κ.kle _ _ from e);by_cases z:m-1=1
    .calc bA (by simpa using z) ?_;show bg (.inl ⟨_,_,RA,fin2 e2 m3 z⟩)
    .calc bf (by simpa using z) ?_;by_cases z':q+1>=g
     .calc bA z' ?_;show bg (.inr (JJ _ _ _ _ _ ⟨RA,e2,m3,hn,xf,xf⟩))
     .calc bf z' ?_;show bg (JJ _ _ _ _ _ ⟨RA,e2,m3,hn,xf,xf⟩)
  .intro c st2 z;let⟨n',m',out,p,q,rfl,e2,m2,hn',hm',hc'⟩:=z;exfalso;lia
  .rintro c st2 (⟨r,q,rfl,hq⟩|⟨n',m',out,p,q,rfl,e2,m2,hn',hm',hc'⟩)
   .walk_at"a"
    show bg ⟨_,_,RA,hq⟩
   .walk_at"a"
    refine a9 (wpS_lift (fo ⟨RA,?_⟩))
    walk_at"a"
    refine a9 (io (fm (I:=λ(y:Nat) (c:Option (Array Keyed)×Nat×Nat×Array Keyed×Nat×Nat×Nat) (st':SortSt)=>∃n2 m2 out g p q,c=(none,n2,m2,out,g,p,q)/\jR st st'/\gO κ a b out n2 m2/\1<=n2/\2<=m2/\n2+m2+y<=n'+m')
     (Q:=λ(c:Option (Array Keyed)×Nat×Nat×Array Keyed×Nat×Nat×Nat) (st':SortSt)=>(∃r q,c=(some r,q)/\Q r st')\/∃n2 m2 out g p q,c=(none,n2,m2,out,g,p,q)/\jR st st'/\gO κ a b out n2 m2/\1<=n2/\2<=m2/\n2+m2<=n'+m') ?_ ?_ (JO _ _ _ _ _ _ ⟨RA,e2,m2,hn',hm',xf⟩)) ?_)
    .intro y c st3 _ hy z;let⟨n,m,out,g,p,q,rfl,e3,m3,hn,hm,hc⟩:=z;let hna:=m3.na;let hmb:=m3.mb;let ln:n-1<a.size:=by first|lia|((try dsimp only);lia)
     let lm:m-1<b.size:=by first|lia|((try dsimp only);lia)
     walk_at"a"
     extract_lets -underBinder +onlyGivenNames l1 l2 l3 l4 l5 l6 l7 l8 l9 l10 l11 jp1
     let q4:l2=n:=rfl;let q4b:l1.fst=n:=rfl;let q6:l4=m:=rfl;let q6b:l3.fst=m:=rfl;let q8:l8=g:=rfl;let q8b:l7.fst=g:=rfl;refine wR (J:=λg':Nat=>jp1 () g') (C:=λ_=>True) (λg' _=>?_) (λhJ=>?_)
     rotate_left
     .by_cases z:g > 1
      .calc bA z ?_;show hJ (g-1) trivial
      .calc bf z ?_;show hJ g trivial
     walk_at"a"
     calc a9 (nD e3 λeU e4=>?_);calc a9 (cV lm ?_);calc a9 (mJ hO (by rw[e4.kind];show hk) (m9 hkb lm) hka (vE wT wT) (by simp[*]) (WK ha xf) λk hk1 hk2 hk3=>?_);let kA:∀t (ht:t<a.size),t<k->κ.kle (kf κ a[t]) (kf κ b[m-1]):=λt ht h1=>by have:=hk2 t h1;rw[hV,BW ht]at this;show this
     let kB:∀t (ht:t<a.size),k<=t->t<n->κ.klt (kf κ b[m-1]) (kf κ a[t]):=λt ht h1 h2=>by have:=hk3 t h1 h2;rw[hV,Nb ht]at this;show this
     walk_at"a"
     extract_lets -underBinder +onlyGivenNames kx ac jp2
     let q10:kx=n-k:=rfl;let q11:ac=n-k:=rfl;refine wR (J:=λo:Nat×Array Keyed=>jp2 () o.1 o.2) (C:=λo=>gO κ a b o.2 o.1 m/\o.1=k/\1<=o.1) (λo ho=>?_) (λhJ=>?_)
     .let⟨o1,o2⟩:=o;let⟨mo,eo,sG⟩:=ho;let eo:o1=k:=eo;subst eo;let mo:gO κ a b o2 o1 m:=mo;let sG:1<=o1:=sG;let lk:o1-1<a.size:=ck wT wT
      walk_at"a"
      walk_at"a"
      refine a9 (cV lm ?_)
      walk_at"a"
      let m5:=mo.yj hb xf lm λu hu h1=>kA u hu h1;by_cases z:m-1=1
      .calc bA (by simpa using z) ?_;show bg (.inl ⟨_,_,RA,fin2 e4 m5 z⟩)
      calc bf (by simpa using z) ?_;calc a9 (cV lk ?_);calc a9 (mJ hO (by rw[e4.kind];show hk) (m9 hka lk) hkb (by grind) xf (WL hb xf) λk2 h1 h2 h3=>?_);let lb:∀t (ht:t<b.size),t<k2->κ.klt (kf κ b[t]) (kf κ a[o1-1]):=λt ht q1=>by have:=h2 t q1;rw[hV,BX ht]at this;show this
      let la:∀t (ht:t<b.size),k2<=t->t<m-1->κ.kle (kf κ a[o1-1]) (kf κ b[t]):=λt ht q1 q2=>by have:=h3 t q1 q2;rw[hV,Nf ht]at this;show this
      let k20:0<k2:=by
       rcases kN k2 with z|z
       .let h4:=la 0 b0 (me z) (vw hm);show absurd (hlow (o1-1) lk) (sF h4)
       .show z
      walk_at"a"
      extract_lets -underBinder +onlyGivenNames ky bc jp3
      refine wR (J:=λo:Nat×Array Keyed=>jp3 () o.1 o.2) (C:=λo=>gO κ a b o.2 o1 o.1/\o.1=k2/\2<=o.1) (λo ho=>?_) (λhJ=>?_)
      .let⟨p1,p2⟩:=o;let⟨mo,eo,hp3⟩:=ho;let eo:p1=k2:=eo;subst eo;let mo:gO κ a b p2 o1 p1:=mo;let hp3:2<=p1:=hp3
       walk_at"a"
       walk_at"a"
       refine a9 (cV lk ?_)
       walk_at"a"
       let m6:=mo.vm ha sG lk λu hu h1=>d6 (lb u hu h1);by_cases z:o1-1=0
       .calc bA (by simpa using z) ?_;show bg (.inl ⟨_,_,RA,yq e4 m6 (.inl z)⟩)
       calc bf (by simpa using z) ?_;by_cases z':(decide (n-o1<7)&&decide (m-1-p1<7))=true
       .calc bA z' ?_;show bg (.inr (JO _ _ _ _ _ _ ⟨RA,e4,m6,xf,hp3,by grind⟩))
       .calc bf z' ?_;show bg (JO _ _ _ _ _ _ ⟨RA,e4,m6,xf,hp3,by grind⟩)
      .by_cases z3:m-1-k2 > 0
       .refine bA z3 ?_
        walk_at"a"
        let m6:=gO.Af hb (m-1-k2) m5 (n0 _ _) λt ht q1 q2 u hu q3=>c9 (nC ha (show u<=o1-1 from eL q3) lk) (la t ht xf q2);rw[show m-1-(m-1-k2)=k2 from hG h1]at m6;by_cases z4:k2=1
        .calc bA (by simpa using z4) ?_;show bg (.inl ⟨_,_,RA,fin2 e4 m6 z4⟩)
        .calc bf (by simpa using z4) ?_;calc bf (by simp;show g6 k20) ?_;show hJ (_,_) ⟨m6,RA,by dsimp only;lia⟩
       .calc bf z3 ?_;obtain rfl:k2=m-1:=by grind
        show hJ (_,_) ⟨m5,RA,by dsimp only;lia⟩
     .by_cases z3:n-k > 0
      .refine bA z3 ?_
       walk_at"a"
       let m6:=gO.Ae ha (n-k) m3 (n0 _ _) λt ht q1 q2 u hu q3=>c9 (nC hb (show u<=m-1 from eL q3) lm) (d6 (kB t ht xf q2));rw[show n-(n-k)=k by first|lia|((try dsimp only);lia)]at m6;by_cases z4:k=0
       .calc bA (by simpa using z4) ?_;show bg (.inl ⟨_,_,RA,yq e4 m6 (.inl z4)⟩)
       .calc bf (by simpa using z4) ?_;show hJ (_,_) ⟨m6,RA,by dsimp only;lia⟩
      .calc bf z3 ?_;obtain rfl:k=n:=by first|lia|((try dsimp only);lia)
       show hJ (_,_) ⟨m3,RA,by dsimp only;lia⟩
    .intro c st3 z;let⟨n2,m2',out,g,p,q,rfl,e3,m3,hn2,hm2,hc2⟩:=z;exfalso;lia
    .rintro c st3 (⟨r,q,rfl,hq⟩|⟨n2,m2',out,g,p,q,rfl,e3,m3,hn2,hm2,hc2⟩)
     .walk_at"a"
      show bg ⟨_,_,RA,hq⟩
     .walk_at"a"
      calc a9 (nD e3 λeU e4=>?_);show bg (JI _ _ _ _ ⟨RA,e4,m3,hn2,hm2,xf⟩)
 .intro c st1 z;let⟨n,m,out,g,rfl,e1,m1,hn,hm,hc⟩:=z;exfalso;lia
 .intro c st1 z;let⟨r,q,rfl,hq⟩:=z;show bg hq
def acr {σ:Type}{M:Model}{x:σ}{Q:PUnit->σ->Prop}{st:σ}(h:Q ⟨⟩ x):wpS M A E s (set x:StateT σ Sem PUnit) Q st:=by unfold wpS;rw[StateT.run_set];show ag ⟨RA,h⟩
theorem Ng:∀(m:List Keyed) (n:Nat) (o:Nat) (P X S:List Keyed) (arr:Array Keyed),arr.toList=P++(X++S)->X.length=m.length->P.length=o+n->((m.zipIdx n).foldl (λa (x:Keyed×Nat)=>a.setIfInBounds (o+x.2) x.1) arr).toList=P++(m++S)
 | [],n,o,P,X,S,arr,e,h,_=>by obtain rfl:X=[]:=ij.mp h;simpa using e
 | y::m,n,o,P,X,S,arr,e,h,hp=>by
  obtain⟨x,X',rfl⟩:∃x X',X=x::X':=by
   cases X with| nil=>simp at h| cons x X'=>show⟨x,X',RA⟩
  rw[oS,wq];let e2:(arr.setIfInBounds (o+n) y).toList=(P++[y])++(X'++S):=by rw[u7,e,<-hp,List.set_append_right _ _ (ah _),my];simp
  have:=Ng m (n+1) o (P++[y]) X' S (arr.setIfInBounds (o+n) y) e2 (by simpa using h) (by simp;lia);simpa using this
def seg_at {arr:Array Keyed}{P X S:List Keyed}(e:arr.toList=P++(X++S)){t:Nat}(ht:t<X.length):∃h:P.length+t<arr.size,arr[P.length+t]=X[t]:=by
 let hl:arr.size=P.length+(X.length+S.length):=by rw[<-bo,e];simp
 calc⟨wT,?_⟩;let h1:arr.toList[P.length+t]?=some X[t]:=by rw[e,c_ wT,ii,eJ ht,ae ht]
 rw[cn,bX wT]at h1;show bb h1
def Gd {X:List Keyed}(h:X.Pairwise (kL κ))(hij:i<=j)(hj:j<X.length):κ.kle (kf κ X[i]) (kf κ X[j]):=by
 rcases Nat.eq_or_lt_of_le hij with z|z;.subst z;show gN _
 .show(e8.mp h) i j (ml z hj) hj z
def Qi {i sa na p1 sb nb p2:Nat}{st:SortSt}{Pl X Y Sl:List Keyed}{Q:Bool->SortSt->Prop}(hO:jG prog w A s κ kn)(hk:kindOf st=kn)(hf:failedOf st=none)(hks:KeysOf κ (arrOf st))(h1:(pendingOf st)[i]?=some (sa,na,p1))(h2:(pendingOf st)[i+1]?=some (sb,nb,p2))(e:(arrOf st).toList=Pl++(X++(Y++Sl)))(lP:Pl.length=sa)(lX:X.length=na)(lY:Y.length=nb)(hsb:sb=sa+na)(x0:0<na)(y0:0<nb)(uX:X.Pairwise (kL κ))(uY:Y.Pairwise (kL κ))(h:∀st' Z,kindOf st'=kindOf st->failedOf st'=none->pendingOf st'=((pendingOf st).setIfInBounds i (sa,na+nb,p1)).eraseIdxIfInBounds (i+1)->(arrOf st').toList=Pl++(Z++Sl)->Z.Perm (X++Y)->Z.Pairwise (kL κ)->Q true st'):wpS (model prog w) A E s ((sortPriv% PySem.Builtin.mergeAt) i) Q st:=by
 subst hsb lP lX lY;let e':(arrOf st).toList=(Pl++X)++(Y++Sl):=by rw[e];simp
 let gX:∀{t},(ht:t<X.length)->∃h:Pl.length+t<(arrOf st).size,(arrOf st)[Pl.length+t]=X[t]:=λht=>seg_at e ht;let gY:∀{t},(ht:t<Y.length)->∃h:Pl.length+X.length+t<(arrOf st).size,(arrOf st)[Pl.length+X.length+t]=Y[t]:=λht=>by have:=seg_at e' ht;rw[av]at this;show this
 let hsz:(arrOf st).size=Pl.length+(X.length+(Y.length+Sl.length)):=by rw[<-bo,e];simp
 let⟨hy0,ey0⟩:=gY y0;rw[we]at hy0;let ag4:(arrOf st)[Pl.length+X.length]=Y[0]:=ey0;show wpS _ _ _ _ (_ >>= _) _ _;calc a9 (rc ?_);rw[h1,h2]
 walk_at"a"
 calc a9 (acr ?_);calc a9 (cV hy0 ?_);refine a9 (mJ hO hk (m9 hks hy0) hks x0 (show Pl.length+X.length<=(arrOf st).size from aT hy0) ?_ λk hk1 hk2 hk3=>?_)
 .intro p q hpq hq hb;let⟨g1,g2⟩:=gX hq;let⟨g3,g4⟩:=gX (show p<X.length by lia);rw[BW g1,g2]at hb;rw[BW g3,g4];show c9 (Gd uX hpq hq) hb
 rw[ag4]at hk2 hk3;let kA:∀x∈X.take k,κ.kle (kf κ x) (kf κ Y[0]):=λx hx=>by
  let⟨t,ht,rfl⟩:=b9.mp hx;let ht':t<k:=by simp at ht;simp_all
  let⟨g1,g2⟩:=gX (show t<X.length from bu ht' hk1);have:=hk2 t ht';rw[BW g1,g2]at this;simpa using this
 let kB:∀x∈X.drop k,κ.klt (kf κ Y[0]) (kf κ x):=λx hx=>by
  let⟨t,ht,rfl⟩:=b9.mp hx;let ht':k+t<X.length:=by simp at ht;lia
  let⟨g1,g2⟩:=gX ht';have:=hk3 (k+t) wT ht';rw[Nb g1,g2]at this;simpa using this
 let yl:∀y∈Y,κ.kle (kf κ Y[0]) (kf κ y):=λy hy=>by let⟨t,ht,rfl⟩:=b9.mp hy;show Gd uY (cw _) ht
 walk_at"a"
 by_cases z1:X.length-k=0
 .calc bA (by simpa using z1) ?_;calc bg (h _ (X++Y) RA hf RA (by rw[bv];show e) (wS _) ?_);rw[f7];calc⟨uX,uY,λx hx y hy=>?_⟩;have:X.take k=X:=cx wT;show c9 (kA x (by rw[this];show hx)) (yl y hy)
 calc bf (by simpa using z1) ?_;let hkx:k<X.length:=wT;let el:Pl.length+k+(X.length-k)-1=Pl.length+(X.length-1):=fh wT;let⟨hl0,hl1⟩:=gX (show X.length-1<X.length from vE x0 Nat.one_pos);let hel:Pl.length+k+(X.length-k)-1<(arrOf st).size:=by grind
 let ex:(arrOf st)[Pl.length+k+(X.length-k)-1]=X[X.length-1]:=by rw[<-hl1];congr 1
 let ags:∀x∈X,κ.kle (kf κ x) (kf κ X[X.length-1]):=λx hx=>by let⟨t,ht,rfl⟩:=b9.mp hx;show Gd uX (eL ht) wT
 let ag5:X[X.length-1]∈X.drop k:=by calc b9.mpr ⟨X.length-1-k,by simp;show fg wT,?_⟩;rw[List.getElem_drop];congr 1;grind
 calc a9 (cV hel ?_);refine a9 (mJ hO hk (m9 hks hel) hks (show Y.length-1<Y.length from vE y0 Nat.one_pos) (show Pl.length+X.length+Y.length<=(arrOf st).size by lia) ?_ λk2 hy1 hy2 hy3=>?_)
 .intro p q hpq hq hb;let⟨g1,g2⟩:=gY hq;let⟨g3,g4⟩:=gY (show p<Y.length by lia);rw[BX g1,g2]at hb;rw[BX g3,g4];show KeyOrd.klt_of_kle_of_klt (Gd uY hpq hq) hb
 rw[ex]at hy2 hy3;let yA:∀y∈Y.take k2,κ.klt (kf κ y) (kf κ X[X.length-1]):=λy hy=>by
  let⟨t,ht,rfl⟩:=b9.mp hy;let ht':t<k2:=by simp at ht;lia
  let⟨g1,g2⟩:=gY (show t<Y.length by lia);have:=hy2 t ht';rw[BX g1,g2]at this;simpa using this
 let yB:∀y∈Y.drop k2,κ.kle (kf κ X[X.length-1]) (kf κ y):=λy hy=>by
  let⟨t,ht,rfl⟩:=b9.mp hy;let ht':k2+t<Y.length:=by simp at ht;lia
  let⟨g1,g2⟩:=gY ht';have:=hy3 (k2+t) wT ht';rw[Nf g1,g2]at this;simpa using this
 walk_at"a"
 let k20:0<k2:=by
  rcases kN k2 with z|z
  .subst z;let h3:=yB Y[0] w8;show absurd (kB _ ag5) (sF h3)
  .show z
 refine bf (by simp;lia) ?_
 walk_at"a"
 let la:((arrOf st).extract (Pl.length+k) (Pl.length+X.length)).toList=X.drop k:=by rw[tq,qh,e,List.drop_length_add_append,List.drop_append_of_le_length hk1];show List.take_left' (by simp;lia)
 let lb:((arrOf st).extract (Pl.length+X.length) (Pl.length+X.length+k2)).toList=Y.take k2:=by rw[tq,qh,e',show Pl.length+X.length=(Pl++X).length by simp,List.drop_left,ii,List.take_append_of_le_length hy1]
 generalize hga:(arrOf st).extract (Pl.length+k) (Pl.length+X.length)=a at la;generalize hgb:(arrOf st).extract (Pl.length+X.length) (Pl.length+X.length+k2)=b at lb
 extract_lets -underBinder +onlyGivenNames xx yy jp
 let hJ:∀r st',yh (kL κ) a.toList b.toList r.toList->kindOf st'=kindOf st->arrOf st'=arrOf st->failedOf st'=none->pendingOf st'=((pendingOf st).setIfInBounds i (Pl.length,X.length+Y.length,p1)).eraseIdxIfInBounds (i+1)->wpS (model prog w) A E s (jp r) Q st':=by
  intro r st' fr e1 e2 e3 e4;rw[la,lb]at fr
  walk_at"a"
  calc a9 (tm (a9 (rc ?_)));let hZ:∀z∈r.toList,z∈X.drop k\/z∈Y.take k2:=λz hz=>bd.mp (fr.1.mem_iff.mp hz);let er:=Ng r.toList 0 (Pl.length+k) (Pl++X.take k) (X.drop k++Y.take k2) (Y.drop k2++Sl) (arrOf st) (by
   rw[e];rw[bv,bv,<-bv (Y.take k2),cS,<-bv (X.take k),cS]) fr.1.length_eq.symm (by simp;lia)
  refine cast (congrArg (λq=>wpS (model prog w) A E s (pure q) Q _) (show true=_ from ?_)) (bg (h _ (X.take k++(r.toList++Y.drop k2)) e1 e3 e4 ?_ ?_ ?_))
  .show true=(failedOf st').isNone;rw[e3];rfl
  .show (List.foldl _ (arrOf st') r.toList.zipIdx).toList=_;rw[e2];calc Eq.trans ?_ (er.trans w8);rfl
  .let p1:(r.toList++Y.drop k2).Perm ((X.drop k++Y.take k2)++Y.drop k2):=fr.1.append_right _;let p2:=iX (X.take k) p1;let e5:X.take k++((X.drop k++Y.take k2)++Y.drop k2)=X++Y:=by rw[bv,cS,<-bv,cS]
   rw[<-e5];show p2
  .rw[f7];refine⟨uX.sublist (rl _ _),?_,λx hx z hz=>?_⟩
   .rw[f7];calc⟨fr.2,uY.sublist (ip _ _),λz hz y hy=>?_⟩;rcases hZ z hz with q|q;.show c9 (ags z (jn q)) (yB y hy)
    .show c9 (d6 (yA z q)) (yB y hy)
   .let hxy:κ.kle (kf κ x) (kf κ Y[0]):=kA x hx;rcases bd.mp hz with q|q
    .rcases hZ z q with q|q;.show c9 hxy (d6 (kB z q))
     .show c9 hxy (yl z (fT q))
    .show c9 hxy (yl z (jn q))
 let hka:KeysOf κ a:=λp hp=>by rw[la]at hp;show hks p (by rw[e];simp[jn hp])
 let hkb:KeysOf κ b:=λp hp=>by rw[lb]at hp;show hks p (by rw[e];simp[fT hp])
 let sa:a.size=X.length-k:=by rw[<-bo,la];simp
 let sb:b.size=k2:=by rw[<-bo,lb];simp;lia
 let gb0:∀j (hj:j<b.size),b[j]∈Y.take k2:=λj hj=>by rw[<-lb];simp
 let gl:∀(hj:a.size-1<a.size),a[a.size-1]=X[X.length-1]:=λhj=>by
  let h4:a.toList[a.size-1]?=some X[X.length-1]:=by rw[la,gu,sa,show k+(X.length-k-1)=X.length-1 by grind,ae wT]
  rw[cn,bX hj]at h4;show bb h4
 let ag6:∀(hj:0<b.size),b[0]=Y[0]:=λhj=>by
  let h4:b.toList[0]?=some Y[0]:=by rw[lb,mf k20,ae y0]
  rw[cn,bX hj]at h4;show bb h4
 let ga0:∀(hj:0<a.size),a[0]∈X.drop k:=λhj=>by rw[<-la];simp
 let ua:a.toList.Pairwise (kL κ):=by rw[la];show uX.sublist (ip _ _)
 let ub:b.toList.Pairwise (kL κ):=by rw[lb];show uY.sublist (rl _ _)
 let a0:0<a.size:=wT;let b0:0<b.size:=wT;let hlo:κ.klt (kf κ b[0]) (kf κ a[0]):=by rw[ag6 b0];show kB _ (ga0 a0)
 let hhi:∀j (hj:j<b.size),κ.klt (kf κ b[j]) (kf κ a[a.size-1]):=λj hj=>by rw[gl wT];show yA _ (gb0 j hj)
 by_cases z5:X.length-k<=k2
 .calc bA z5 ?_;show a9 (Qg hO hk hka hkb ua ub a0 b0 (d6 hlo) hhi λr st' fr q=>hJ r st' fr q.kind q.arr (q.fail.trans hf) q.pend)
 .calc bf z5 ?_;show a9 (Qh hO hk hka hkb ua ub a0 b0 hlo (λj hj=>d6 (hhi j hj)) λr st' fr q=>hJ r st' fr q.kind q.arr (q.fail.trans hf) q.pend)
structure SG (st0 st:SortSt)(lo hi:Nat):Prop where
 kind:kindOf st=kindOf st0
 fail:failedOf st=failedOf st0
 pend:pendingOf st=pendingOf st0
 perm:(arrOf st).Perm (arrOf st0)
 out:∀t:Nat,t<lo\/hi<=t->(arrOf st)[t]?=(arrOf st0)[t]?
def SG.refl {st:SortSt}{lo hi:Nat}:SG st st lo hi:=⟨RA,RA,RA,Array.Perm.refl _,λ_ _=>rfl⟩
def SG.size {st0 st:SortSt}{lo hi:Nat}(g:SG st0 st lo hi):(arrOf st).size=(arrOf st0).size:=g.perm.size_eq
def SG.keys {st0 st:SortSt}{lo hi:Nat}(g:SG st0 st lo hi)(h:KeysOf κ (arrOf st0)):KeysOf κ (arrOf st):=λp hp=>h p ((u8.mp g.perm).mem_iff.mp hp)
def SG.arr {st0 st:SortSt}{lo hi:Nat}(g:SG st0 st lo hi){xs:Array Keyed}(hp:xs.Perm (arrOf st))(ho:∀t:Nat,t<lo\/hi<=t->xs[t]?=(arrOf st)[t]?):SG st0 (setArr st xs) lo hi:=⟨g.kind,g.fail,g.pend,hp.trans g.perm,λt ht=>(ho t ht).trans (g.out t ht)⟩
def lC (κ:PyProof.Rows.KeyKind)(xs:Array Keyed)(lo n:Nat):Prop:=∀i j,i<=j->j<n->κ.kle (KK κ xs (lo+i)) (KK κ xs (lo+j))
def tV {st:SortSt}{i j:Nat}{Q:Option Bool->SortSt->Prop}(hO:jG prog w A s κ kn)(hk:kindOf st=kn)(hks:KeysOf κ (arrOf st))(hi:i<(arrOf st).size)(hj:j<(arrOf st).size)(h:Q (some (κ.blt (KK κ (arrOf st) i) (KK κ (arrOf st) j))) st):wpS (model prog w) A E s ((sortPriv% PySem.Builtin.ltAt) i j) Q st:=
 by
 show wpS _ _ _ _ (ltAt' i j) Q st;rw[ltAt'_eq];calc a9 (rc ?_);show wpS _ _ _ _ (do let x <- elem' (arrOf st) i;let y <- elem' (arrOf st) j;lt' x y) Q st;show a9 (cV hi (a9 (cV hj (Ad hO hk (uo hks hi) (uo hks hj) h))))
def Um {lo n ok:Nat}{st:SortSt}{Q:Bool->SortSt->Prop}(hO:jG prog w A s κ kn)(hk:kindOf st=kn)(hks:KeysOf κ (arrOf st))(hn:lo+n<=(arrOf st).size)(hok:ok<=n)(hs:lC κ (arrOf st) lo ok)(h:∀st',SG st st' lo (lo+n)->lC κ (arrOf st') lo n->Q true st'):wpS (model prog w) A E s ((sortPriv% PySem.Builtin.binarySort) lo n ok) Q st:=by
 show wpS _ _ _ _ (_ >>= _) _ _;refine a9 (io (fm (I:=λ(k:Nat) (c:Option Bool×Unit) (st':SortSt)=>c=(none,())/\SG st st' lo (lo+n)/\lC κ (arrOf st') lo (min k n))
  (Q:=λ(c:Option Bool×Unit) (st':SortSt)=>c=(none,())/\SG st st' lo (lo+n)/\lC κ (arrOf st') lo n) ?_ ?_ ⟨RA,SG.refl,?_⟩) ?_)
 .intro k c st1 hk1 hkn z;let⟨rfl,g1,u1⟩:=z;rw[p_ (aT hkn)]at u1;let z1:=g1.size
  walk_at"a"
  refine a9 (io (fm (I:=λ(x:Nat) (c:Option Bool×Nat×Nat) (st':SortSt)=>∃l r,c=(none,l,r)/\st'=st1/\l<=r/\r<=k/\r-l<=k-x/\(∀i,i<l->κ.kle (KK κ (arrOf st1) (lo+i)) (KK κ (arrOf st1) (lo+k)))/\(∀i,r<=i->i<k->κ.klt (KK κ (arrOf st1) (lo+k)) (KK κ (arrOf st1) (lo+i))))
   (Q:=λ(c:Option Bool×Nat×Nat) (st':SortSt)=>∃l r,c=(none,l,r)/\st'=st1/\l<=k/\(∀i,i<l->κ.kle (KK κ (arrOf st1) (lo+i)) (KK κ (arrOf st1) (lo+k)))/\(∀i,l<=i->i<k->κ.klt (KK κ (arrOf st1) (lo+k)) (KK κ (arrOf st1) (lo+i)))) ?_ ?_ ⟨0,k,RA,RA,wT,wT,wT,λi hi=>by lia,λi h1 h2=>by lia⟩) ?_)
  .intro x c st2 _ hx z;let⟨l,r,rfl,rfl,h1,h2,h3,h4,h5⟩:=z
   walk_at"a"
   by_cases z:l>=r
   .calc bA z ?_;show bg ⟨l,r,RA,RA,a8 h1 h2,h4,λi q1 q2=>h5 i (a8 z q1) q2⟩
   refine bf z ?_
   walk_at"a"
   refine a9 (tV hO (g1.kind.trans hk) (g1.keys hks) wT wT ?_)
   walk_at"a"
   cases e:κ.blt (KK κ (arrOf st2) (lo+k)) (KK κ (arrOf st2) (lo+(l+r)/2)) with| true=>calc bA RA ?_;show bg ⟨l,(l+r)/2,RA,RA,wT,wT,eL (ck wT wT),h4,λi q1 q2=>qq e (u1 _ _ q1 q2)⟩| false=>calc bf w8 ?_;show bg ⟨(l+r)/2+1,r,RA,RA,o6 wT,h2,eL (ck wT wT),λi q1=>c9 (u1 i ((l+r)/2) (dS q1) (o6 wT)) (show κ.kle _ _ from e),h5⟩
  .intro c st2 z;let⟨l,r,rfl,rfl,h1,h2,h3,h4,h5⟩:=z;show⟨l,r,RA,RA,a8 h1 h2,h4,λi q1 q2=>h5 i (by simp_all;lia) q2⟩
  .intro c st2 z;let⟨l,r,rfl,rfl,h1,h4,h5⟩:=z
   walk_at"a"
   let ae2:lo+k<(arrOf st2).size:=wT;calc a9 ?_;show wpS _ _ _ _ (moveDown' (lo+k) (lo+l)) _ _;rw[moveDown'_eq];calc tm (bg ⟨RA,g1.arr (bubble_perm _ _ _) λt ht=>?_,?_⟩);.rw[getElem?_bubble ae2 _ (n0 _ _),if_neg (by rw[hG wT];lia),if_neg (by rw[hG wT];lia)]
   .rw[p_ hkn];intro i j hij hj;show κ.kle (KK κ (bubble (arrOf st2) (lo+k) (lo+k-(lo+l))) (lo+i)) (KK κ (bubble (arrOf st2) (lo+k) (lo+k-(lo+l))) (lo+j));let kb:∀t,t<=k->KK κ (bubble (arrOf st2) (lo+k) (lo+k-(lo+l))) (lo+t)=if t=l then KK κ (arrOf st2) (lo+k) else if l<t then KK κ (arrOf st2) (lo+(t-1)) else KK κ (arrOf st2) (lo+t):=λt ht=>by
     rw[KK_bubble ae2 wT];by_cases q1:t=l;.rw[if_pos (by rw[hG wT];lia),if_pos q1]
     .rw[if_neg (by rw[hG wT];lia),if_neg q1];by_cases q2:l<t;.rw[if_pos (by rw[hG wT];lia),if_pos q2,show lo+t-1=lo+(t-1) from fh wT]
      .rw[if_neg (by rw[hG wT];lia),if_neg q2]
    rw[kb i wT,kb j (dS hj)];by_cases i1:i=l
    .rw[if_pos i1];by_cases j1:j=l;.rw[if_pos j1];show gN _
     .rw[if_neg j1,if_pos wT];show d6 (h5 (j-1) (eL wT) (ck wT wT))
    .rw[if_neg i1];by_cases i2:l<i
     .rw[if_pos i2,if_neg wT,if_pos (bu i2 hij)];show u1 _ _ (tw hij _) (ck wT wT)
     .rw[if_neg i2];by_cases j1:j=l;.rw[if_pos j1];show h4 i wT
      .rw[if_neg j1];by_cases j2:l<j;.rw[if_pos j2];show u1 _ _ (fg wT) (ck wT wT)
       .rw[if_neg j2];show u1 _ _ hij wT
 .intro c st1 z;let⟨rfl,g1,u1⟩:=z;refine⟨RA,g1,?_⟩
  rwa [show min (max (max ok 1) n) n=n by lia]at u1
 .intro i j hij hj;by_cases z:ok=0
  .obtain rfl:i=j:=by lia
   show gN _
  .show hs i j hij wT
 .intro c st1 z;let⟨rfl,g1,u1⟩:=z;show bg (h _ g1 u1)
def BZ {i j:Nat}{st:SortSt}{Q:Unit->SortSt->Prop}(h:Q () (setArr st (mirror (arrOf st) i j ((j-i)/2)))):wpS (model prog w) A E s ((sortPriv% PySem.Builtin.reverseSlice) i j) Q st:=by show wpS _ _ _ _ (reverseSlice' i j) _ _;rw[reverseSlice'_eq];show tm h
def SG.rev {st0 st:SortSt}{lo hi i j:Nat}(g:SG st0 st lo hi)(h1:lo<=i)(h2:j<=hi)(hj:j<=(arrOf st).size):SG st0 (setArr st (mirror (arrOf st) i j ((j-i)/2))) lo hi:=g.arr (mirror_perm _ _ _ _) λt ht=>by rw[getElem?_mirror_all hj,if_neg wT]
def Z4 {lo m:Nat}(h1:1<=m)(h:lC κ xs lo m)(q:κ.kle (KK κ xs (lo+(m-1))) (KK κ xs (lo+m))):lC κ xs lo (m+1):=λi j hij hj=>by
 rcases eC j m with z|z;.show h i j hij z
 .obtain rfl:j=m:=by lia
  rcases eC i j with y|y;.show c9 (h i (j-1) (eL y) (vE (kK (cw _) y) Nat.one_pos)) q
  .obtain rfl:i=j:=by lia
   show gN _
def Nh {lo n m0:Nat}{st:SortSt}{f:Nat->(Option (Option Nat)×Nat)->StateT SortSt Sem (ForInStep (Option (Option Nat)×Nat))}(m1:1<=m0)(mn:m0<=n)(u0:lC κ (arrOf st) lo m0)(hf:∀x m (Q':ForInStep (Option (Option Nat)×Nat)->SortSt->Prop),1<=m->m<n->(κ.blt (KK κ (arrOf st) (lo+m)) (KK κ (arrOf st) (lo+m-1))=true->Q' (.done (none,m)) st)->(κ.blt (KK κ (arrOf st) (lo+m)) (KK κ (arrOf st) (lo+m-1))=false->Q' (.yield (none,m+1)) st)->wpS (model prog w) A E s (f x (none,m)) Q' st):wpS (model prog w) A E s (forIn [m0:n] ((none:Option (Option Nat)),m0) f) (λc st'=>st'=st/\∃m,c=(none,m)/\1<=m/\m<=n/\lC κ (arrOf st) lo m/\(m=n\/κ.klt (KK κ (arrOf st) (lo+m)) (KK κ (arrOf st) (lo+m-1)))) st:=by
 refine fm (I:=λ(x:Nat) (c:Option (Option Nat)×Nat) (st':SortSt)=>st'=st/\c=(none,x)/\1<=x/\lC κ (arrOf st) lo x) ?_ ?_ ⟨RA,RA,m1,u0⟩
 .intro x c st1 h1 h2 z;let⟨rfl,rfl,h3,h4⟩:=z;refine hf x x _ h3 h2 (λe=>⟨RA,x,RA,h3,aT h2,h4,.inr e⟩) λe=>⟨RA,RA,wT,Z4 h3 h4 ?_⟩
  rw[show lo+(x-1)=lo+x-1 by lia];show e
 .intro c st1 z;let⟨rfl,rfl,h3,h4⟩:=z;rw[Nat.max_eq_right mn]at h3 h4 ⊢;show⟨RA,n,RA,h3,ah _,h4,.inl RA⟩
def yr (κ:PyProof.Rows.KeyKind)(xs:Array Keyed)(lo n:Nat):Prop:=∀i j,i<=j->j<n->κ.kle (KK κ xs (lo+j)) (KK κ xs (lo+i))
def B_ {lo m:Nat}(h1:1<=m)(h:yr κ xs lo m)(q:κ.kle (KK κ xs (lo+m)) (KK κ xs (lo+m-1))):yr κ xs lo (m+1):=λi j hij hj=>by
 rcases eC j m with z|z;.show h i j hij z
 .obtain rfl:j=m:=by lia
  rcases eC i j with y|y
  .have:=h i (j-1) wT wT;rw[show lo+(j-1)=lo+j-1 by lia]at this;show c9 q this
  .obtain rfl:i=j:=by lia
   show gN _
def WQ {lo n:Nat}{st:SortSt}{Q:Option Nat->SortSt->Prop}(hO:jG prog w A s κ kn)(hk:kindOf st=kn)(hks:KeysOf κ (arrOf st))(hn:lo+n<=(arrOf st).size)(n1:1<=n)(h:∀st' m,SG st st' lo (lo+n)->1<=m->m<=n->lC κ (arrOf st') lo m->Q (some m) st'):wpS (model prog w) A E s ((sortPriv% PySem.Builtin.countRun) lo n) Q st:=by
 let one:∀xs,lC κ xs lo 1:=λxs i j h1 h2=>by
  obtain rfl:i=j:=by lia
  show gN _
 show wpS _ _ _ _ (_ >>= _) _ _
 walk_at"a"
 refine a9 (io (Nh (κ:=κ) (ah 1) n1 (one _) ?_) ?_)
 .intro x m Q' h1 h2 q1 q2
  walk_at"a"
  refine a9 (tV hO hk hks wT (iO wT) ?_)
  walk_at"a"
  cases e:κ.blt (KK κ (arrOf st) (lo+m)) (KK κ (arrOf st) (lo+m-1)) with| true=>calc bA RA ?_;show bg (q1 e)| false=>calc bf w8 ?_;show bg (q2 e)
 intro c st1 z;let⟨rfl,m,rfl,h1,h2,u1,h3⟩:=z
 walk_at"a"
 by_cases z:m=n
 .calc bA (by simpa using z) ?_;show bg (h _ _ SG.refl h1 h2 u1)
 calc bf (by simpa using z) ?_;let WR:κ.klt (KK κ (arrOf st1) (lo+m)) (KK κ (arrOf st1) (lo+m-1)):=h3.resolve_left z
 extract_lets -underBinder +onlyGivenNames jp
 let hJ:∀st2,SG st1 st2 lo (lo+n)->yr κ (arrOf st2) lo (m+1)->wpS (model prog w) A E s (jp ()) Q st2:=by
  intro st2 g2 d2
  walk_at"a"
  refine a9 (wpS_lift (fo ⟨RA,?_⟩))
  walk_at"a"
  refine a9 (io (fm (I:=λ(x:Nat) (c:Option (Option Nat)×Nat×Nat) (st':SortSt)=>∃q,c=(none,x,q)/\SG st1 st' lo (lo+n)/\yr κ (arrOf st') lo x/\q<x/\m+1<=x/\∀t,x-1-q<=t->t<x->KK κ (arrOf st') (lo+t)=KK κ (arrOf st') (lo+x-1))
   (Q:=λ(c:Option (Option Nat)×Nat×Nat) (st':SortSt)=>∃x q,c=(none,x,q)/\SG st1 st' lo (lo+n)/\yr κ (arrOf st') lo x/\q<x/\m+1<=x/\x<=n/\∀t,x-1-q<=t->t<x->KK κ (arrOf st') (lo+t)=KK κ (arrOf st') (lo+x-1)) ?_ ?_ ⟨0,RA,g2,d2,wT,ah _,λt q1 q2=>by rw[show lo+t=lo+(m+1)-1 by lia]⟩) ?_)
  .intro x c st3 hx1 hx2 z;let⟨q,rfl,g3,d3,hq,hmx,eq⟩:=z;let z3:=g3.size
   walk_at"a"
   refine a9 (tV hO (g3.kind.trans hk) (g3.keys hks) wT (iO wT) ?_)
   walk_at"a"
   skip
   cases e:κ.blt (KK κ (arrOf st3) (lo+x)) (KK κ (arrOf st3) (lo+x-1)) with
   | true=>
    refine bA RA ?_
    skip
    let done:∀eU,SG st1 eU lo (lo+n)->(∀t,KK κ (arrOf eU) t=KK κ (arrOf st3) t)->∃q,((none:Option (Option Nat)),x+1,0)=(none,x+1,q)/\SG st1 eU lo (lo+n)/\yr κ (arrOf eU) lo (x+1)/\q<x+1/\m+1<=x+1/\∀t,x+1-1-q<=t->t<x+1->KK κ (arrOf eU) (lo+t)=KK κ (arrOf eU) (lo+(x+1)-1):=λeU g4 k4=>by calc⟨0,RA,g4,?_,wT,ik hmx,λt q1 q2=>by rw[show lo+t=lo+(x+1)-1 by lia]⟩;calc B_ wT (λi j q1 q2=>by rw[k4,k4];show d3 i j q1 q2) ?_;rw[k4,k4];show d6 e
    by_cases z4:q > 0
    .calc bA z4 ?_;calc a9 (BZ ?_);calc bg (done _ (g3.rev (fg wT) wT wT) λt=>?_);show KK_mirror_equal wT (λu q1 q2=>by have:=eq (u-lo) (by simp[fz,gT]at *;lia) wT;rw[show lo+(u-lo)=u by rw[fz]at *;lia]at this;show this) t
    .calc bf z4 ?_;show bg (done _ g3 λt=>rfl)
   | false=>
    calc bf w8 ?_;refine a9 (tV hO (g3.kind.trans hk) (g3.keys hks) (iO wT) wT ?_)
    walk_at"a"
    cases e2:κ.blt (KK κ (arrOf st3) (lo+x-1)) (KK κ (arrOf st3) (lo+x)) with
    | true=>calc bA RA ?_;show bg ⟨x,q,RA,g3,d3,hq,hmx,wT,eq⟩
    | false=>
     calc bf w8 ?_;let ek:KK κ (arrOf st3) (lo+x-1)=KK κ (arrOf st3) (lo+x):=κ.total _ _ e2 e;calc bg ⟨q+1,RA,g3,B_ wT d3 (by rw[ek];show gN _),sf hq,wT,λt q1 q2=>?_⟩;rw[show lo+(x+1)-1=lo+x from rfl];rcases eC t x with y|y;.rw[eq t wT y,ek]
     .rw[show t=x by lia]
  .intro c st3 z;let⟨q,rfl,g3,d3,hq,hmx,eq⟩:=z;rw[Nat.max_eq_right wT]at d3 hq hmx eq ⊢;show⟨n,q,RA,g3,d3,hq,hmx,ah _,eq⟩
  .intro c st3 z;let⟨x,q,rfl,g3,d3,hq,hmx,hxn,eq⟩:=z;let z3:=g3.size
   walk_at"a"
   extract_lets -underBinder +onlyGivenNames lr ls n1 nq
   let q1:n1=x:=rfl;let q2:nq=q:=rfl
   conv=>arg 5;dsimp -zeta only[lr]
   extract_lets -underBinder +onlyGivenNames jp2
   let hJ2:∀eU,SG st1 eU lo (lo+n)->yr κ (arrOf eU) lo x->wpS (model prog w) A E s (jp2 ()) Q eU:=by
    intro eU g4 d4;let z4:=g4.size
    walk_at"a"
    calc a9 (BZ ?_);let g5:=g4.rev (i:=lo) (j:=lo+x) (ah _) (mP hxn _) wT;let u5:lC κ (arrOf (setArr eU (mirror (arrOf eU) lo (lo+x) ((lo+x-lo)/2)))) lo x:=λi j q1 q2=>by show κ.kle (KK κ (mirror (arrOf eU) lo (lo+x) ((lo+x-lo)/2)) (lo+i)) (KK κ (mirror (arrOf eU) lo (lo+x) ((lo+x-lo)/2)) (lo+j));rw[KK_mirror wT,KK_mirror wT,if_pos wT,if_pos (by simp_all),show lo+(lo+x)-1-(lo+i)=lo+(x-1-i) from fh wT,show lo+(lo+x)-1-(lo+j)=lo+(x-1-j) from fh wT];show d4 _ _ (Nat.sub_le_sub_left q1 _) (iO wT)
    generalize setArr eU (mirror (arrOf eU) lo (lo+x) ((lo+x-lo)/2))=Mj at g5 u5;let z5:=g5.size;refine a9 (io (Nh (κ:=κ) wT hxn u5 ?_) ?_)
    .intro y p Q' h1 h2 q1 q2
     walk_at"a"
     refine a9 (tV hO (g5.kind.trans hk) (g5.keys hks) wT (iO wT) ?_)
     walk_at"a"
     cases e:κ.blt (KK κ (arrOf Mj) (lo+p)) (KK κ (arrOf Mj) (lo+p-1)) with| true=>calc bA RA ?_;show bg (q1 e)| false=>calc bf w8 ?_;show bg (q2 e)
    .intro c st6 z;let⟨rfl,p,rfl,h1,h2,u6,_⟩:=z;show bg (h _ _ g5 h1 h2 u6)
   by_cases z4:q > 0
   .calc bA z4 ?_;calc a9 (BZ ?_);calc hJ2 _ (g3.rev (by simp_all;lia) (mP hxn _) wT) λi j q1 q2=>?_;let k4:∀t,KK κ (mirror (arrOf st3) (lo+x-(q+1)) (lo+x) ((lo+x-(lo+x-(q+1)))/2)) t=KK κ (arrOf st3) t:=KK_mirror_equal wT λu q1 q2=>by
     have:=eq (u-lo) wT wT;rw[show lo+(u-lo)=u by lia]at this;show this
    show κ.kle (KK κ (mirror (arrOf st3) (lo+x-(q+1)) (lo+x) ((lo+x-(lo+x-(q+1)))/2)) (lo+j)) (KK κ (mirror (arrOf st3) (lo+x-(q+1)) (lo+x) ((lo+x-(lo+x-(q+1)))/2)) (lo+i));rw[k4,k4];show d3 i j q1 q2
   .calc bf z4 ?_;show hJ2 _ g3 d3
 by_cases z2:m > 1
 .calc bA z2 ?_;refine a9 (tV hO hk hks wT (iO wT) ?_)
  walk_at"a"
  cases e:κ.blt (KK κ (arrOf st1) lo) (KK κ (arrOf st1) (lo+m-1)) with
  | true=>calc bA RA ?_;show bg (h _ _ SG.refl h1 h2 u1)
  | false=>
   calc bf w8 ?_;calc a9 (BZ ?_);let eqA:∀t,t<m->KK κ (arrOf st1) (lo+t)=KK κ (arrOf st1) (lo+m-1):=λt ht=>by let a1:=u1 t (m-1) (eL ht) wT;let a2:=u1 0 t wT ht;rw[show lo+(m-1)=lo+m-1 by lia]at a1;rw[we]at a2;show KeyOrd.kle_antisymm a1 (c9 (show κ.kle _ _ from e) a2)
   let k4:∀t,KK κ (mirror (arrOf st1) lo (lo+m) ((lo+m-lo)/2)) t=KK κ (arrOf st1) t:=KK_mirror_equal wT λu q1 q2=>by have:=eqA (u-lo) (ck wT wT);rw[show lo+(u-lo)=u from ng q1]at this;show this
   calc hJ _ (SG.refl.rev (ah _) (mP h2 _) wT) ?_;refine B_ h1 (λi j q1 q2=>?_) ?_
   .show κ.kle (KK κ (mirror (arrOf st1) lo (lo+m) ((lo+m-lo)/2)) (lo+j)) (KK κ (mirror (arrOf st1) lo (lo+m) ((lo+m-lo)/2)) (lo+i));rw[k4,k4,eqA i (kK q1 q2),eqA j q2];show gN _
   .show κ.kle (KK κ (mirror (arrOf st1) lo (lo+m) ((lo+m-lo)/2)) (lo+m)) (KK κ (mirror (arrOf st1) lo (lo+m) ((lo+m-lo)/2)) (lo+m-1));rw[k4,k4];show d6 WR
 .calc bf z2 ?_;obtain rfl:m=1:=by lia
  calc hJ _ SG.refl (B_ h1 (λi j q1 q2=>?_) (d6 WR));obtain rfl:i=j:=by lia
  show gN _
def gj:Nat->List (List Keyed)->List (Nat×Nat×Nat)->Prop
 | _,[],[]=>True
 | o,r::rs,p::ps=>p.1=o/\p.2.1=r.length/\gj (o+r.length) rs ps
 | _,_,_=>False
theorem gj.len:∀{rs:List (List Keyed)} {ps:List (Nat×Nat×Nat)} {o:Nat},gj o rs ps->ps.length=rs.length
 | [],[],_,_=>rfl
 | r::rs,p::ps,o,h=>by rw[bt,bt,gj.len h.2.2]
theorem gj.app:∀{F G:List (List Keyed)} {f g:List (Nat×Nat×Nat)} {o:Nat},gj o F f->gj (o+F.flatten.length) G g->gj o (F++G) (f++g)
 | [],G,[],g,o,_,h=>by simpa using h
 | r::F,G,p::f,g,o,h1,h2=>⟨h1.1,h1.2.1,gj.app h1.2.2 (by rw[ku,av]at h2;rw[nB];show h2)⟩
theorem gj.split:∀{F G:List (List Keyed)} {ps:List (Nat×Nat×Nat)} {o:Nat},gj o (F++G) ps->∃f g,ps=f++g/\f.length=F.length/\gj o F f/\gj (o+F.flatten.length) G g
 | [],G,ps,o,h=>⟨[],ps,RA,RA,trivial,by simpa using h⟩
 | r::F,G,p::ps,o,h=>by let⟨f,g,e,l,h1,h2⟩:=gj.split (F:=F) (G:=G) h.2.2;calc⟨p::f,g,by rw[e];rfl,by simp[l],⟨h.1,h.2.1,h1⟩,?_⟩;rw[ku,av];rw[nB]at h2;show h2
structure gk (κ:PyProof.Rows.KeyKind)(kn:SortKind)(a0:List Keyed)(st:SortSt)(rs:List (List Keyed))(rest:List Keyed):Prop where
 kind:kindOf st=kn
 fail:failedOf st=none
 keys:KeysOf κ (arrOf st)
 perm:(arrOf st).toList.Perm a0
 arr:(arrOf st).toList=rs.flatten++rest
 pend:gj 0 rs (pendingOf st).toList
 up:∀r∈rs,r.Pairwise (kL κ)
 ne:∀r∈rs,r≠[]
def keys_perm {a b:Array Keyed}(p:a.toList.Perm b.toList)(h:KeysOf κ b):KeysOf κ a:=λx hx=>h x (p.mem_iff.mp hx)
def zu {a0:List Keyed}{i:Nat}{st:SortSt}{F G:List (List Keyed)}{X Y rest:List Keyed}{Q:Bool->SortSt->Prop}(hO:jG prog w A s κ kn)(R:gk κ kn a0 st (F++X::Y::G) rest)(hi:F.length=i)(h:∀st' Z,gk κ kn a0 st' (F++Z::G) rest->Q true st'):wpS (model prog w) A E s ((sortPriv% PySem.Builtin.mergeAt) i) Q st:=by
 subst hi;let⟨f,g,ep,lf,h1,h2⟩:=R.pend.split;obtain⟨p,q,g',rfl⟩:∃p q g',g=p::q::g':=by
  match g,h2 with| p::q::g',_=>show JE p q g' rfl
 let⟨pa,pb,pc⟩:=p;let⟨qa,qb,qc⟩:=q;let⟨e1,e2,e3,e4,h3⟩:=h2;let e1:pa=0+F.flatten.length:=e1;let e2:pb=X.length:=e2;let e3:qa=0+F.flatten.length+X.length:=e3;let e4:qb=Y.length:=e4;let h3:gj (0+F.flatten.length+X.length+Y.length) G g':=h3;let nX:0<X.length:=pE.mpr (R.ne X w8);let nY:0<Y.length:=pE.mpr (R.ne Y w8);let at1:(pendingOf st)[F.length]?=some (pa,pb,pc):=by rw[<-cn,ep,<-lf];simp
 let at2:(pendingOf st)[F.length+1]?=some (qa,qb,qc):=by rw[<-cn,ep,<-lf,c_ wT];simp
 calc Qi (Pl:=F.flatten) (X:=X) (Y:=Y) (Sl:=G.flatten++rest) hO R.kind R.fail R.keys at1 at2 (by rw[R.arr];simp) wT e2.symm e4.symm (by simp_all) (by simp_all) wT (R.up X w8) (R.up Y w8) λst' Z k1 k2 k3 k4 k5 k6=>?_;let pm:(arrOf st').toList.Perm (arrOf st).toList:=by rw[k4,R.arr];simp only[ue,ku,bv];calc iX _ ?_;rw[<-bv X];show k5.append_right _
 refine h st' Z ⟨k1.trans R.kind,k2,keys_perm pm R.keys,pm.trans R.perm,by rw[k4];simp,?_,λr hr=>?_,λr hr=>?_⟩
 .let e5:(pendingOf st').toList=f++(pa,pb+qb,pc)::g':=by
   rw[k3,Array.toList_eraseIdxIfInBounds,u7,ep,<-lf];rw[List.set_append_right _ _ (ah _),my,List.eraseIdx_append_of_length_le wT];simp
  rw[e5];refine gj.app h1 ⟨e1,?_,?_⟩
  .show pb+qb=Z.length;rw[k5.length_eq,e2,e4,av]
  .rw[k5.length_eq,av,<-nB];show h3
 .rcases bd.mp hr with z|z;.show R.up r (by simp[z])
  .rcases ba.mp z with z|z;.rw[z];show k6
   .show R.up r (by simp[z])
 .rcases bd.mp hr with z|z;.show R.ne r (by simp[z])
  .rcases ba.mp z with z|z
   .rw[z];intro y;have:=k5.length_eq;rw[y,av]at this;simp at this;simp_all
   .show R.ne r (by simp[z])
def Z5 {α:Type}{l:List α}(h:2<=l.length):∃F x y,l=F++[x,y]:=by
 calc JE (l.take (l.length-2)) (l[l.length-2]) (l[l.length-1]) ?_;let e1:l.drop (l.length-2)=[l[l.length-2],l[l.length-1]]:=by rw[jM (show l.length-2<l.length by lia),jM (show l.length-2+1<l.length by simp_all +arith),List.drop_eq_nil_of_le (by simp_all +arith)];congr 2;congr 1;lia
 rw[<-e1,cS]
def uw {rs:List (List Keyed)}(h:∀r∈rs,r≠[]):rs.length<=rs.flatten.length:=by
 induction rs with| nil=>simp| cons r rs ih=>have h1:=pE.mpr (h r aE);let h2:=ih λx hx=>h x (ay _ hx);rw[bt,ku,av];lia
def Rw {β α:Type}{J:β->StateT SortSt Sem α}{C:β->SortSt->Prop}{m:StateT SortSt Sem α}{R:α->SortSt->Prop}{st:SortSt}(h1:∀o st',C o st'->wpS (model prog w) A E s (J o) R st')(h2:(∀o st',C o st'->wpS (model prog w) A E s (J o) R st')->wpS (model prog w) A E s m R st):wpS (model prog w) A E s m R st:=h2 h1
theorem gj.congr:∀{rs:List (List Keyed)} {ps qs:List (Nat×Nat×Nat)} {o:Nat},gj o rs ps->qs.map (λp=>(p.1,p.2.1))=ps.map (λp=>(p.1,p.2.1))->gj o rs qs
 | [],[],[],_,_,_=>trivial
 | [],[],_::_,_,_,e=>by simp at e
 | r::rs,p::ps,[],_,_,e=>by simp at e
 | r::rs,p::ps,q::qs,o,h,e=>by rw[b6,b6]at e;injection e with e1 e2;injection e1 with e3 e4;show⟨e3.trans h.1,e4.trans h.2.1,gj.congr h.2.2 e2⟩
def gk.len {a0:List Keyed}{st:SortSt}{rs:List (List Keyed)}{rest:List Keyed}(R:gk κ kn a0 st rs rest):rs.flatten.length+rest.length=a0.length:=by rw[<-R.perm.length_eq,R.arr,av]
def gk.size {a0:List Keyed}{st:SortSt}{rs:List (List Keyed)}{rest:List Keyed}(R:gk κ kn a0 st rs rest):(arrOf st).size=a0.length:=by rw[<-R.perm.length_eq,bo]
def gk.seg {a0:List Keyed}{st st':SortSt}{rs:List (List Keyed)}{rest:List Keyed}{n hi:Nat}(R:gk κ kn a0 st rs rest)(g:SG st st' rs.flatten.length hi)(u:lC κ (arrOf st') rs.flatten.length n)(hn:n<=rest.length):∃sg Ca,sg.length=n/\sg.Pairwise (kL κ)/\gk κ kn a0 st' rs (sg++Ca):=by
 let z:=R.size;let z':=g.size;let ln:=R.len;let e1:(arrOf st').toList.take rs.flatten.length=rs.flatten:=by
  apply gE;intro t;rcases eC t rs.flatten.length with y|y;.rw[mf y,cn,g.out t (.inl y),<-cn,R.arr,eJ y]
  .rw[dL (by rw[be];lia),dL y]
 let pm:(arrOf st').toList.Perm (arrOf st).toList:=u8.mp g.perm;calc⟨((arrOf st').toList.drop rs.flatten.length).take n,((arrOf st').toList.drop rs.flatten.length).drop n,?_,?_,⟨g.kind.trans R.kind,g.fail.trans R.fail,keys_perm pm R.keys,pm.trans R.perm,?_,by rw[g.pend];show R.pend,R.up,R.ne⟩⟩;.rw[be,cy,bo];lia
 .rw[e8];intro i j hi hj hij;let hj':j<n:=by simp at hj;lia
  let hj2:rs.flatten.length+j<(arrOf st').size:=by simp at hj;lia
  have:=u i j (aT hij) hj';rw[yp (show rs.flatten.length+i<(arrOf st').size by lia),yp hj2]at this;show κ.kle _ _;simpa using this
 .rw[cS]
  conv=>lhs;rw[<-cS rs.flatten.length (arrOf st').toList]
  rw[e1]
def acs {c:Prop} [Decidable c] (h1:a+1<n)(h2:b+1<n):(if c then a else b)+1<n:=by split <;> assumption
def HX {a0:List Keyed}{i:Nat}{st:SortSt}{rs:List (List Keyed)}{rest:List Keyed}{Q:Bool->SortSt->Prop}(hO:jG prog w A s κ kn)(R:gk κ kn a0 st rs rest)(hi:i+1<rs.length)(h:∀st' rs2,gk κ kn a0 st' rs2 rest->rs2.length+1=rs.length->Q true st'):wpS (model prog w) A E s ((sortPriv% PySem.Builtin.mergeAt) i) Q st:=by
 let e:rs=rs.take i++rs[i]::rs[i+1]::rs.drop (i+2):=by rw[<-jM hi,<-jM (show i<rs.length by lia),cS]
 let R':=R;rw[e]at R';calc zu hO R' (by rw[be];lia) λst3 Z R3=>h st3 _ R3 ?_;rw[av,be,bt,cy];lia
def Z6 {st:SortSt}{Q:Unit->SortSt->Prop}(hO:jG prog w A s κ kn)(hk:kindOf st=kn)(hf:failedOf st=none)(hp:pendingOf st=#[])(hks:KeysOf κ (arrOf st))(h:∀st',failedOf st'=none->(arrOf st').toList.Perm (arrOf st).toList->(arrOf st').toList.Pairwise (kL κ)->Q () st'):wpS (model prog w) A E s (sortPriv% PySem.Builtin.sortRuns) Q st:=by
 obtain⟨N,hN⟩:∃N,(arrOf st).size=N:=⟨_,RA⟩
 let hl:(arrOf st).toList.length=N:=by rw[bo,hN]
 let R0:gk κ kn (arrOf st).toList st [] (arrOf st).toList:=⟨hk,hf,hks,wS _,w8,by rw[hp];trivial,λr h=>by simp at h,λr h=>by simp at h⟩
 generalize (arrOf st).toList=a0 at hl R0 h;show wpS _ _ _ _ (_ >>= _) _ _;refine a9 (rc ?_)
 walk_at"a"
 rw[hN];refine a9 (io (fm (I:=λ(x:Nat) (c:Option Unit×Nat) (st':SortSt)=>∃rs rest,c=(none,rs.flatten.length)/\gk κ kn a0 st' rs rest/\(x<=rs.flatten.length\/rest=[]))
  (Q:=λ(c:Option Unit×Nat) (st':SortSt)=>∃rs l,c=(none,l)/\gk κ kn a0 st' rs []) ?_ ?_ ⟨[],a0,RA,R0,.inl w8⟩) ?_)
 .intro x c st1 _ hx z;let⟨rs,rest,rfl,R,hpr⟩:=z;let ln:=R.len
  walk_at"a"
  by_cases z:rs.flatten.length>=N
  .calc bA z ?_;obtain rfl:rest=[]:=ij.mp wT;show bg ⟨rs,_,RA,R⟩
  calc bf z ?_;let Dc:x<=rs.flatten.length:=by
   rcases hpr with y|y;.show y
   .rw[y,pV]at ln;lia
  let zs:=R.size;refine a9 (WQ hO R.kind R.keys (show rs.flatten.length+(N-rs.flatten.length)<=(arrOf st1).size by grind) (fg wT) λst2 m g2 m1 m2 u2=>?_)
  walk_at"a"
  extract_lets -underBinder +onlyGivenNames nn jp
  let qn:nn=m:=rfl;refine Rw (J:=λn:Nat=>jp () n) (C:=λn st3=>SG st1 st3 rs.flatten.length (rs.flatten.length+(N-rs.flatten.length))/\lC κ (arrOf st3) rs.flatten.length n/\1<=n/\n<=N-rs.flatten.length) (λn st3 hc=>?_) (λhJ=>?_)
  .let⟨g3,u3,n1,n2⟩:=hc;let⟨sg,Ca,ls,us,R3⟩:=R.seg g3 u3 wT
   walk_at"a"
   refine a9 (rc ?_)
   walk_at"a"
   extract_lets -underBinder +onlyGivenNames jp2
   refine Rw (J:=λ_:Unit=>jp2 ()) (C:=λ_ eU=>∃rs',gk κ kn a0 eU rs' (sg++Ca)/\rs'.flatten.length=rs.flatten.length) (λ_ eU hc=>?_) (λhJ=>?_)
   .let⟨rs',R4,l4⟩:=hc
    walk_at"a"
    refine a9 (tm (bg ⟨rs'++[sg],Ca,?_,⟨R4.kind,R4.fail,R4.keys,R4.perm,?_,?_,λr hr=>?_,λr hr=>?_⟩,.inl ?_⟩))
    .rw[ue,av];simp[ls,l4]
    .show (arrOf eU).toList=_;rw[R4.arr];simp
    .show gj 0 (rs'++[sg]) ((pendingOf eU).push (rs.flatten.length,n,0)).toList;rw[lx];show gj.app R4.pend ⟨by rw[l4];simp,ls.symm,trivial⟩
    .rcases bd.mp hr with y|y;.show R4.up r y
     .rw[ap.mp y];show us
    .rcases bd.mp hr with y|y;.show R4.ne r y
     .rw[ap.mp y];intro q;rw[q]at ls;simp at ls;lia
    .rw[ue,av,ku,List.flatten_nil,fS,l4,ls];grind
   .cases hb:(pendingOf st3).back? with
    | none=>
     walk_at"a"
     show hJ () st3 ⟨rs,R3,RA⟩
    | some v=>
     let⟨v1,v2,v3⟩:=v
     walk_at"a"
     refine a9 (io (fm (I:=λ(y:Nat) (c:Option Unit×Unit) (st':SortSt)=>c=(none,())/\∃rs',gk κ kn a0 st' rs' (sg++Ca)/\rs'.flatten.length=rs.flatten.length)
      (Q:=λ(c:Option Unit×Unit) (st':SortSt)=>c=(none,())/\∃rs',gk κ kn a0 st' rs' (sg++Ca)/\rs'.flatten.length=rs.flatten.length) ?_ ?_ ⟨RA,rs,R3,RA⟩) ?_)
     .intro y c eU _ hy z;let⟨rfl,rs',R4,l4⟩:=z;refine a9 (rc ?_)
      conv=>arg 5;dsimp only
      let lp:(pendingOf eU).size=rs'.length:=by rw[<-bo];show R4.pend.len
      by_cases z4:(pendingOf eU).size > 1
      .rw[if_pos z4];let⟨F,X,Y,rfl⟩:=Z5 (show 2<=rs'.length by lia);let lF:(pendingOf eU).size=F.length+2:=by rw[lp];simp
       rw[bX (show (pendingOf eU).size-2<(pendingOf eU).size by simp_all)];generalize (pendingOf eU)[(pendingOf eU).size-2]=v;let⟨v4,v5,v6⟩:=v
       walk_at"a"
       by_cases z5:v6<=(sortPriv% PySem.Builtin.power) N (2*v1+v2) (2*v1+v2+v2+n) N
       .calc bA z5 ?_;show bg ⟨RA,_,R4,l4⟩
       .calc bf z5 ?_;calc a9 (zu hO (F:=F) (G:=[]) R4 (show F.length=(pendingOf eU).size-2 by simp_all) λMj Z R5=>?_);calc bf w8 ?_;let l5:=R5.len;let l6:=R4.len;show bg ⟨RA,_,R5,wT⟩
      .rw[if_neg z4]
       walk_at"a"
       show bg ⟨RA,_,R4,l4⟩
     .rintro c eU hc;show hc
     .intro c eU z;let⟨rfl,rs',R4,l4⟩:=z
      walk_at"a"
      calc a9 (tm ?_);calc hJ () _ ⟨rs',⟨R4.kind,R4.fail,R4.keys,R4.perm,R4.arr,?_,R4.up,R4.ne⟩,l4⟩;calc R4.pend.congr ?_;apply gE;intro t;rw[a_,a_,cn,cn];show Option.map _ ((pendingOf eU).modify _ _)[t]?=_;rw[Array.getElem?_modify];split
      .cases(pendingOf eU)[t]? <;> rfl
      .rfl
  .by_cases z2:m<(sortPriv% PySem.Builtin.minRun) N N 0
   .calc bA z2 ?_;refine a9 (wpS_lift (fo ⟨RA,?_⟩))
    walk_at"a"
    let z2':=g2.size;calc a9 (Um hO (g2.kind.trans R.kind) (g2.keys R.keys) (by grind) (by grind) u2 λst3 g3 u3=>?_);refine bf w8 ?_
    walk_at"a"
    refine hJ _ st3 ⟨⟨g3.kind.trans g2.kind,g3.fail.trans g2.fail,g3.pend.trans g2.pend,g3.perm.trans g2.perm,λt ht=>(g3.out t (by grind)).trans (g2.out t ht)⟩,u3,by calc a8 (by assumption) ?_;lia,qf _ _⟩
   .calc bf z2 ?_;show hJ m st2 ⟨g2,u2,m1,m2⟩
 .intro c st1 z;let⟨rs,rest,rfl,R,hpr⟩:=z;let ln:=R.len;obtain rfl:rest=[]:=by
   rcases hpr with y|y;.show ij.mp wT
   .show y
  show⟨rs,_,RA,R⟩
 .intro c st1 z;let⟨rs,l,rfl,R⟩:=z
  walk_at"a"
  let ln:=R.len;rw[pV]at ln;let lr:=uw R.ne;refine a9 (io (fm (I:=λ(x:Nat) (c:Option Unit×Unit) (st':SortSt)=>c=(none,())/\∃rs',gk κ kn a0 st' rs' []/\(rs'.length+x<=N\/rs'.length<=1))
   (Q:=λ(c:Option Unit×Unit) (st':SortSt)=>c=(none,())/\∃rs',gk κ kn a0 st' rs' []/\rs'.length<=1) ?_ ?_ ⟨RA,rs,R,.inl (by simp_all)⟩) ?_)
  .intro x c st2 _ hx z;let⟨rfl,rs',R2,h2⟩:=z
   walk_at"a"
   refine a9 (rc ?_)
   walk_at"a"
   let lp:(pendingOf st2).size=rs'.length:=by rw[<-bo];show R2.pend.len
   by_cases z:(pendingOf st2).size<=1
   .calc bA z ?_;show bg ⟨RA,rs',R2,wT⟩
   refine bf z ?_
   walk_at"a"
   let lp':(pendingOf st2).size-2+1<rs'.length:=by simp_all +arith
   calc a9 (HX hO R2 ?_ λst3 rs3 R3 l3=>?_);.show acs (show (pendingOf st2).size-2-1+1<rs'.length by lia) lp'
   .calc bf w8 ?_;show bg ⟨RA,_,R3,wT⟩
  .intro c st2 z;let⟨rfl,rs',R2,h2⟩:=z;show⟨RA,rs',R2,wT⟩
  .intro c st2 z;let⟨rfl,rs',R2,h2⟩:=z;calc bg (h _ R2.fail R2.perm ?_);rw[R2.arr,fS]
   match rs',h2,R2.up with| [],_,_=>show List.Pairwise.nil| [r],_,u=>simpa using u r w8
end
end L2
namespace L2
open PySem PySem.Spec PyProof.Rows PySem.W
mutual
inductive qx (K:W.Frag) (H:Hp):Nat->PyData->V->Prop
 | non {n}:qx K H n .none .non
 | bl {n} (b:Bool):qx K H n (.bool b) (.bl b)
 | int {n} (i:Int):qx K H n (.int i) (.int i)
 | str {n} (l:List Nat) (h:∀c∈l,c<128):qx K H n (.str (S l)) (.str (S l))
 | tup {n a ds xs} (h:aN K H a xs) (hs:pB K H n ds xs):qx K H (n+1) (.tuple ds) (.ref a)
inductive pB (K:W.Frag) (H:Hp):Nat->List PyData->List V->Prop
 | nil {n}:pB K H n [] []
 | cons {n d ds x xs} (h:qx K H n d x) (hs:pB K H n ds xs):pB K H n (d::ds) (x::xs)
end
mutual
theorem qx.lay {K:W.Frag}:∀{n:Nat} {d:PyData} {x:V},qx K H n d x->d.canLay0=true/\d.depth<=n/\PyData.eqv d d=true
 | _,_,_,.non=>by simp[PyData.canLay0,PyData.depth,PyData.eqv]
 | _,_,_,.bl _=>by simp[PyData.canLay0,PyData.depth,PyData.eqv]
 | _,_,_,.int _=>by simp[PyData.canLay0,PyData.depth,PyData.eqv]
 | _,_,_,.str l h=>by simp only[PyData.canLay0,PyData.depth,PyData.eqv];show⟨Rn h,cw _,w8⟩
 | _,_,_,.tup _ hs=>by simp only[PyData.canLay0,PyData.depth,PyData.eqv];have:=hs.lay;show⟨this.1,g9 this.2.1,this.2.2⟩
theorem pB.lay {K:W.Frag}:∀{n:Nat} {ds:List PyData} {xs:List V},pB K H n ds xs->PyData.canLayAll0 ds=true/\PyData.depthAll ds<=n/\PyData.eqvAll ds ds=true
 | _,_,_,.nil=>by simp[PyData.canLayAll0,PyData.depthAll,PyData.eqvAll]
 | _,_,_,.cons h hs=>by let a:=h.lay;let b:=hs.lay;simp only[PyData.canLayAll0,PyData.depthAll,PyData.eqvAll,df];show⟨⟨a.1,b.1⟩,Nat.max_le.mpr ⟨a.2.1,b.2.1⟩,a.2.2,b.2.2⟩
end
mutual
theorem qx.iC {K:W.Frag}(st:∀a xs,aN K H a xs->aN K H' a xs):∀{n:Nat} {d:PyData} {x:V},qx K H n d x->qx K H' n d x
 | _,_,_,.non=>.non
 | _,_,_,.bl b=>.bl b
 | _,_,_,.int i=>.int i
 | _,_,_,.str l h=>.str l h
 | _,_,_,.tup h hs=>.tup (st _ _ h) (hs.iC st)
theorem pB.iC {K:W.Frag}(st:∀a xs,aN K H a xs->aN K H' a xs):∀{n:Nat} {ds:List PyData} {xs:List V},pB K H n ds xs->pB K H' n ds xs
 | _,_,_,.nil=>.nil
 | _,_,_,.cons h hs=>.cons (h.iC st) (hs.iC st)
end
section
variable {X:Cx}
variable {prog:Program}{w:World}
mutual
theorem qx.reads {ao:AC}{σ:St}{H:Hp}{s:Shared}(I:aM X ao σ H s):∀{n:Nat} {d:PyData} {x:V} {u:Value},qx X.K H n d x->bN x u->∃as,Reads s.heap u d as
 | _,_,_,u,.non,r=>by cases r;show⟨[],.none⟩
 | _,_,_,u,.bl b,r=>by cases r;show⟨[],.bool b⟩
 | _,_,_,u,.int i,r=>by let⟨t,rfl⟩:=r;show⟨[],.int i t⟩
 | _,_,_,u,.str l h,r=>by let⟨t,rfl⟩:=r;show⟨[],.str _ t⟩
 | _,_,_,u,.tup h hs,r=>by cases r;let⟨its,rv,pl,_⟩:=I.tuple h;let⟨as,ra⟩:=hs.reads I rv;let⟨o,ho,hc,n,hd⟩:=pl;show⟨as,.tuple ho hc hd (by simpa using ra)⟩
theorem pB.reads {ao:AC}{σ:St}{H:Hp}{s:Shared}(I:aM X ao σ H s):∀{n:Nat} {ds:List PyData} {xs:List V} {us:List Value},pB X.K H n ds xs->Vals xs us->∃as,ReadsAll s.heap us ds as
 | _,_,_,us,.nil,r=>by cases r;show⟨[],.nil⟩
 | _,_,_,us,.cons h hs,r=>by
  cases r with| cons q t=>let⟨as,a⟩:=h.reads I q;let⟨bs,b⟩:=hs.reads I t;show⟨as++bs,.cons a b⟩
end
inductive wV (prog:Program) (w:World) (hp:Heap) (u:Nat):List Value->List Int->Nat->Prop
 | nil:wV prog w hp u [] [] 0
 | cons {v:Value} {x:Int} {d:Nat} {vs:List Value} {xs:List Int} {ds:Nat} (hv:∀(A:Around) (E:AB) (s:Shared) (Q:Int->Shared->Prop),A.units<=u->s.heap=hp->Q x {s with toks:=s.toks+d}->wpAny (model prog w) A (pyHash v) Q E s)
   (t:wV prog w hp u vs xs ds):wV prog w hp u (v::vs) (x::xs) (d+ds)
def Z7 {A:Around}{s:Shared}(hu:A.units<cLine)(ho:s.heap.get? a=some o)(hc:o.cls=.type "tuple")(hd:o.data=.seq its n)(hI:wV prog w s.heap (A.units+1) its.toList hs dr)(q:Q (reduceHash (Builtin.Tuple.tupleHashOf hs)) {s with toks:=s.toks+(dr+1)}):wpAny (model prog w) A (pyHash (.ref a)) Q E s:=by
 let hT:s.TypeIs (.ref a) "tuple":=⟨o,ho,hc⟩
 unfold pyHash
 first|unfold pyHashByItsType|skip
 first|refine aa (wpAny_cRoomFor_or (Or.inr hu) ?_)|skip
 calc aa (nS hT oy.lookup ?_);rw[show (some (Value.builtin "tuple.__hash__")==some Value.none)=false from beq_builtin_none _];simp only[a7,if_false];calc aa (nS hT oy.lookup ?_);calc aa (wpAny_callSpecialIfBoundUnlessNone?_slot hT oy (cE oy hT F.entry_tuple_hash ?_ (F.args_tuple_hash_1 _)));show wpAny _ _ (Builtin.Tuple.tupleItemsOf (Value.ref a) >>= _) _ _ s;calc aa (gt ho hd (aa ?_));rw[<-qr];refine mB _ (λrest (b:Array Int) s1=>∃(left:List Int) (d1 d2:Nat),hs=b.toList++left/\wV prog w s.heap (A.units+1) rest left d2/\d1+d2=dr/\s1={s with toks:=s.toks+d1}) _ ?_ ?_ _ _ (JE hs 0 dr ⟨RA,hI,hV _,RA⟩)
 .intro x rest b s1 z;let⟨left,d1,d2,e1,hl,e2,rfl⟩:=z;cases hl with| @cons v h d vs xs ds hv t=>calc aa (hv _ _ _ _ (ah _) RA ?_);show ag (JE xs (d1+d) ds ⟨by rw[e1];simp,t,wT,by simp[nB]⟩)
 .intro b s1 z;let⟨left,d1,d2,e1,hl,e2,rfl⟩:=z;cases hl;let e1:hs=b.toList:=by simpa using e1
  let e2:d1=dr:=e2;subst e1 e2;calc wpAny_ret_mkInt ?_;show wpAny _ _ (pyHashByItsType.reduced (Builtin.Tuple.tupleHashOf b.toList)) Q E _;unfold pyHashByItsType.reduced;unfold reduceHash at q;split
  .rename_i z;rw[if_pos z]at q;show ag (by simpa [nB] using q)
  .rename_i z;rw[if_neg z]at q;show aa (fo (ag (by simpa [nB] using q)))
inductive ux (prog:Program) (w:World) (hp:Heap) (u:Nat):List Value->List Value->Bool->Prop
 | nil:ux prog w hp u [] [] true
 | left {y:Value} {ys:List Value}:ux prog w hp u [] (y::ys) false
 | right {x:Value} {xs:List Value}:ux prog w hp u (x::xs) [] false
 | cons {x y:Value} {xs ys:List Value} {b c:Bool} (hv:∀(A:Around) (E:AB) (s:Shared) (Q:Bool->Shared->Prop),A.units<=u->s.heap=hp->Q b s->wpAny (model prog w) A (eqBool x y) Q E s)
   (t:b=true->ux prog w hp u xs ys c) (f:b=false->c=false):ux prog w hp u (x::xs) (y::ys) c
def acu {A:Around}{s:Shared}(ha:s.heap.get? a=some oa)(hda:oa.data=.seq xs na)(hb:s.heap.get? b=some ob)(hcb:ob.cls=.type "tuple")(hdb:ob.data=.seq ys nb)(hI:ux prog w s.heap A.units xs.toList ys.toList c)(q:R (.done (.ret (.bool c))) s):wpAny (model prog w) A (Builtin.«tuple.__eq__» ⟨[.ref a,.ref b],[]⟩) R E s:=by
 let hTb:s.TypeIs (.ref b) "tuple":=⟨ob,hb,hcb⟩
 show wpAny _ _ (isInstance (Value.ref b) (.type "tuple") >>= _) _ _ s;calc aa (f_ hTb uA ?_);simp only[dE,a7,if_false];calc aa (gt ha hda (aa (gt hb hdb (aa ?_))));refine mB _ (λrest r s1=>r.1=none/\s1=s/\∃us vs,rest=List.zip us vs/\ux prog w s.heap A.units us vs c/\(us.length==vs.length)=(xs.size==ys.size)) _ ?_ ?_ _ _ ⟨RA,RA,_,_,RA,hI,w8⟩
 .rintro⟨u,v⟩ rest r s1 ⟨hr,rfl,us,vs,hz,hi,hl⟩;cases hi with
  | nil=>simp at hz
  | left=>simp at hz
  | right=>simp at hz
  | @cons x y xs1 ys1 b1 _ hv ht hf=>
   simp only[List.zip_cons_cons,List.cons.injEq,Prod.mk.injEq]at hz;obtain⟨⟨rfl,rfl⟩,rfl⟩:=hz;calc aa (hv _ _ _ _ (ah _) RA ?_);cases b1 with| true=>simp only[dE,a7,if_false];show ag ⟨RA,RA,xs1,ys1,RA,ht RA,by simpa using hl⟩| false=>simp only[ic,if_true];rw[hf rfl]at q;show aa (ag (ag (ag q)))
 .rintro⟨r1,r2⟩ s1 ⟨hr,rfl,us,vs,hz,hi,hl⟩;let hr:r1=none:=hr;subst hr;let hc:(xs.size==ys.size)=c:=by
   rw[<-hl];cases hi with| nil=>rfl| left=>simp| right=>simp| cons=>simp at hz
  calc ag ?_;show R (.done (.ret (.bool (xs.size==ys.size)))) s1;rw[hc];show q
def ae3 {A:Around}{s:Shared}(hu:A.units<cLine)(ha:s.heap.get? a=some oa)(hca:oa.cls=.type "tuple")(hda:oa.data=.seq xs na)(hb:s.heap.get? b=some ob)(hcb:ob.cls=.type "tuple")(hdb:ob.data=.seq ys nb)(hI:ux prog w s.heap (A.units+1) xs.toList ys.toList c)(hab:a=b->c=true)(q:Q c s):wpAny (model prog w) A (eqBool (.ref a) (.ref b)) Q E s:=by
 let hTa:s.TypeIs (.ref a) "tuple":=⟨oa,ha,hca⟩
 let hTb:s.TypeIs (.ref b) "tuple":=⟨ob,hb,hcb⟩
 unfold eqBool
 try with_reducible refine fe ?_
 by_cases z:(Value.ref a==Value.ref b)=true
 .rw[if_pos z];let e:a=b:=by have:=eq_of_beq z;injection this
  rw[hab e]at q;show aa (fo (ag q))
 .rw[if_neg z];show aa (kM (op:=.Eq) hTa hTb F.slot_tuple_eq (cE F.slot_tuple_eq hTa F.entry_tuple_eq (acu ha hda hb hcb hdb hI ⟨_,RA,(λe=>nomatch e),eP q⟩) (F.args_tuple_eq_2 _ _)) hu)
def WT {s:Shared}(ho:s.heap.get? a=some o)(hc:o.cls=.type "tuple")(hd:o.data=.seq its n)(hI:∀v∈its.toList,∀(Q':Bool->Shared->Prop) (E':AB),Q' true s->wpAny (model prog w) A (eqIsQuiet d v) Q' E' s)(q:Q true s):wpAny (model prog w) A (eqIsQuiet (d+1) (.ref a)) Q E s:=by
 let hT:s.TypeIs (.ref a) "tuple":=⟨o,ho,hc⟩
 unfold eqIsQuiet;calc aa (nS hT F.slot_tuple_eq.lookup ?_);show wpAny _ _ (isInstance (Value.ref a) (.type "tuple") >>= _) _ _ s;calc aa (f_ hT uA ?_);simp only[dE,a7,if_false];calc aa (eI ho hd (aa ?_));show wpAny _ _ (forIn its _ _) _ _ s;rw[<-qr];refine mB _ (λrest r s1=>r.1=none/\s1=s/\∀v∈rest,v∈its.toList) _ ?_ ?_ _ _ ⟨RA,RA,λv hv=>hv⟩
 .intro v rest r s1 z;let⟨hr,rfl,hall⟩:=z;calc aa (hI v (hall v aE) _ _ ?_);simp only[dE,a7,if_false];show ag ⟨RA,RA,λx hx=>hall x (ay _ hx)⟩
 .rintro⟨r1,r2⟩ s1 ⟨hr,rfl,_⟩;let hr:r1=none:=hr;subst hr;show ag q
end
structure fY (prog:Program)(w:World)(κ:Type) [DecidableEq κ] where
 is:Heap->κ->Value->Prop
 hash:κ->Int
 draws:κ->Nat
 deep:Nat
 inj:∀{h:Heap} {v:Value} {x y:κ},is h x v->is h y v->x=y
 keeps:∀{h h':Heap} {k:κ} {v:Value} {d:Addr} {o:Obj} {es ep},is h k v->h.get? d=some o->o.data=.dict es ep->Heap.SameBut d h h'->is h' k v
 pyHash:∀{A:Around} {E:AB} {s:Shared} {k:κ} {v:Value} {Q:Int->Shared->Prop},A.units+deep<cLine+1->is s.heap k v->Q (hash k) {s with toks:=s.toks+draws k}->wpAny (model prog w) A (PySem.pyHash v) Q E s
 eqBool:∀{A:Around} {E:AB} {s:Shared} {x y:κ} {u v:Value} {Q:Bool->Shared->Prop},A.units+deep<cLine+1->is s.heap x u->is s.heap y v->Q (decide (x=y)) s->wpAny (model prog w) A (PySem.eqBool u v) Q E s
 quiet:∀{A:Around} {E:AB} {s:Shared} {k:κ} {v:Value} {Q:Bool->Shared->Prop} (n:Nat),deep<=n->is s.heap k v->Q true s->wpAny (model prog w) A (eqIsQuiet n v) Q E s
noncomputable def vo {prog:Program}{w:World}{κ:Type} [DecidableEq κ] (knd:KeyKind prog w κ):fY prog w κ where
 is:=λ_ k v=>knd.is k v=true
 hash:=knd.hash
 draws:=λ_=>1
 deep:=0
 inj:=λh1 h2=>knd.inj _ _ _ h1 h2
 keeps:=λh _ _ _=>h
 pyHash:=λ_ h q=>knd.pyHash h q
 eqBool:=λ_ h1 h2 q=>knd.eqBool h1 h2 q
 quiet:=λn _ h q=>by rw[PySem.eqIsQuiet_byValue n (knd.byValue _ _ h)];show ag q
section
variable {prog:Program}{w:World}{κ κ1 κ2:Type}[DecidableEq κ][DecidableEq κ1][DecidableEq κ2]
def WW {h h':Heap}(h1:h.get? a=some o1)(h2:o1.data=.seq its n)(ho:h.get? d=some o)(hd:o.data=.dict es ep)(hs:Heap.SameBut d h h'):h'.get? a=some o1:=by
 let hne:a≠d:=by rintro rfl;rw[h1]at ho;cases ho;rw[h2]at hd;cases hd
 show(hs.2 a hne).trans h1
def jT (vk:fY prog w κ)(h:Heap):List κ->List Value->Prop
 | [],[]=>True
 | k::ks,v::vs=>vk.is h k v/\jT vk h ks vs
 | _,_=>False
theorem jT.inj {vk:fY prog w κ}{h:Heap}:∀{x y:List κ} {vs:List Value},jT vk h x vs->jT vk h y vs->x=y
 | [],[],[],_,_=>rfl
 | [],[],_::_,a,_=>a.elim
 | [],_::_,[],_,b=>b.elim
 | [],_::_,_::_,a,_=>a.elim
 | _::_,[],[],a,_=>a.elim
 | _::_,[],_::_,_,b=>b.elim
 | _::_,_::_,[],a,_=>a.elim
 | _::_,_::_,_::_,a,b=>by rw[vk.inj a.1 b.1,jT.inj a.2 b.2]
theorem jT.keeps {vk:fY prog w κ}{h h':Heap}{d:Addr}{o:Obj}{es:Array DictEntry}{ep:Nat}(ho:h.get? d=some o)(hd:o.data=.dict es ep)(hs:Heap.SameBut d h h'):∀{x:List κ} {vs:List Value},jT vk h x vs->jT vk h' x vs
 | [],[],_=>trivial
 | _::_,_::_,a=>⟨vk.keeps a.1 ho hd hs,jT.keeps ho hd hs a.2⟩
theorem jT.hashes {vk:fY prog w κ}(hu:u+vk.deep<cLine+1):∀{x:List κ} {vs:List Value},jT vk h x vs->wV prog w h u vs (x.map vk.hash) (x.map vk.draws).sum
 | [],[],_=>.nil
 | _::_,_::_,a=>by rw[b6,b6,List.sum_cons];show .cons (λA' E' s' Q' ha hs q'=>vk.pyHash wT (by rw[hs];show a.1) q') (jT.hashes hu a.2)
theorem jT.eqs {vk:fY prog w κ}(hu:u+vk.deep<cLine+1):∀{x y:List κ} {us vs:List Value},jT vk h x us->jT vk h y vs->ux prog w h u us vs (decide (x=y))
 | [],[],[],[],_,_=>.nil
 | [],_::_,[],_::_,_,_=>by simpa using ux.left
 | _::_,[],_::_,[],_,_=>by simpa using ux.right
 | p::x,q::y,_::_,_::_,a,b=>by
  refine .cons (b:=decide (p=q)) (λA' E' s' Q' ha hs q'=>vk.eqBool wT (by rw[hs];show a.1) (by rw[hs];show b.1) q') (λe=>?_) λe=>?_
  .have:=jT.eqs hu a.2 b.2;let e:=gI e
   rwa [show decide (p::x=q::y)=decide (x=y) from by simp[e]]
  .let e:=kP e;simp[e]
theorem jT.mem {vk:fY prog w κ}{h:Heap}:∀{x:List κ} {vs:List Value} {v:Value},jT vk h x vs->v∈vs->∃k,vk.is h k v
 | [],[],_,_,hv=>by simp at hv
 | [],_::_,_,a,_=>a.elim
 | _::_,[],_,a,_=>a.elim
 | _::_,_::_,v,a,hv=>by
  rcases ba.mp hv with e|e;.show⟨_,by rw[e];show a.1⟩
  .show jT.mem a.2 e
noncomputable def tupK (vk:fY prog w κ):fY prog w (List κ) where
 is:=λh ks v=>∃(a:Addr) (o:Obj) (n:Nat) (its:Array Value),v=.ref a/\h.get? a=some o/\o.cls=.type "tuple"/\o.data=.seq its n/\jT vk h ks its.toList
 hash:=λks=>reduceHash (Builtin.Tuple.tupleHashOf (ks.map vk.hash))
 draws:=λks=>(ks.map vk.draws).sum+1
 deep:=vk.deep+1
 inj:=by rintro h v x y ⟨a,o,n,its,rfl,h1,_,h2,h3⟩ ⟨a',o',n',its',e,h1',_,h2',h3'⟩;cases e;rw[h1]at h1';cases h1';rw[h2]at h2';injection h2' with e1 _;subst e1;show h3.inj h3'
 keeps:=by intro h h' k v d o es ep z ho hd hs;let⟨a,o1,n,its,rfl,h1,hc,h2,h3⟩:=z;show JI a o1 n its ⟨RA,WW h1 h2 ho hd hs,hc,h2,h3.keeps ho hd hs⟩
 pyHash:=by intro A E s k v Q hu z q;let⟨a,o1,n,its,rfl,h1,hc,h2,h3⟩:=z;show Z7 wT h1 hc h2 (h3.hashes wT) q
 eqBool:=by rintro A E s x y u v Q hu ⟨a,o1,n,its,rfl,h1,hc,h2,h3⟩ ⟨a',o1',n',its',rfl,h1',hc',h2',h3'⟩ q;calc ae3 (c:=decide (x=y)) wT h1 hc h2 h1' hc' h2' (h3.eqs wT h3') ?_ q;rintro rfl;rw[h1]at h1';cases h1';rw[h2]at h2';injection h2' with e1 _;subst e1;show ar (h3.inj h3')
 quiet:=by
  intro A E s k v Q n hn z q;let⟨a,o1,n1,its,rfl,h1,hc,h2,h3⟩:=z;obtain⟨m,rfl⟩:∃m,n=m+1:=⟨n-1,wT⟩
  calc WT h1 hc h2 (λv hv Q' E' q'=>?_) q;let⟨k',hk'⟩:=h3.mem hv;show vk.quiet m (dS hn) hk' q'
end
def S5:Nat->Nat
 | 0=>0
 | d+1=>5*S5 d+1
theorem Ge:∀d,5^d=4*S5 d+1
 | 0=>rfl
 | d+1=>by rw[kd,Ge d,S5];lia
theorem Ni (a):∀b,S5 (a+b)=5^a*S5 b+S5 a
 | 0=>by rw[S5,Nat.mul_zero,hV];rfl
 | b+1=>by
  show 5*S5 (a+b)+1=5^a*(5*S5 b+1)+S5 a;let h:=Ge a;rw[Ni a b,ww,ww,wx,h];let e:5*((4*S5 a+1)*S5 b)=(4*S5 a+1)*(5*S5 b):=by rw[<-lv,gf 5 (4*S5 a+1),lv]
  lia
def ae4 (e):S5 (e+e)=S5 e*(4*S5 e+2):=by
 rw[Ni,Ge];have:(4*S5 e+1)*S5 e+S5 e=S5 e*(4*S5 e+1)+S5 e:=by rw[gf]
 rw[this,<-Nat.mul_succ]
theorem WX:∀d,S5 d%2=d%2
 | 0=>rfl
 | d+1=>by have:=WX d;show (5*S5 d+1)%2=(d+1)%2;lia
def Z8 (h:2^(k+1) ∣ x*(4*y+2)):2^k ∣ x*(2*y+1):=by
 let⟨c,hc⟩:=h;calc⟨c,?_⟩;let e:x*(4*y+2)=2*(x*(2*y+1)):=by rw[show 4*y+2=2*(2*y+1) by lia,<-lv,gf x 2,lv]
 rw[e,kd,gf (2^k) 2,lv]at hc;show Nat.eq_of_mul_eq_mul_left w_ hc
theorem HY:∀{k x y:Nat},2^k ∣ x*(2*y+1)->2^k ∣ x
 | 0,x,_,_=>by rw[wf];show Nat.one_dvd x
 | k+1,x,y,h=>by
  let h2:2 ∣ x*(2*y+1):=Nat.dvd_trans ⟨2^k,by rw[kd,gf]⟩ h;let hx:x%2=0:=by have:=Nat.mod_eq_zero_of_dvd h2;rw[Nat.mul_mod]at this;let hy:(2*y+1)%2=1:=w8;rw[hy,wx,Nat.mod_mod]at this;show this
  obtain⟨z,rfl⟩:∃z,x=2*z:=⟨x/2,wT⟩
  rw[kd,gf (2^k) 2,lv]at h;have:=Nat.dvd_of_mul_dvd_mul_left w_ h;rw[kd,gf (2^k) 2];show Nat.mul_dvd_mul_left 2 (HY this)
theorem WY:∀{k d:Nat},2^k ∣ S5 d->2^k ∣ d
 | 0,d,_=>by rw[wf];show Nat.one_dvd d
 | k+1,d,h=>by
  let h2:2 ∣ S5 d:=Nat.dvd_trans ⟨2^k,by rw[kd,gf]⟩ h;let hd:d%2=0:=by rw[<-WX d];show Nat.mod_eq_zero_of_dvd h2
  obtain⟨e,rfl⟩:∃e,d=e+e:=⟨d/2,wT⟩
  rw[ae4]at h;have:=WY (HY (Z8 h));rw[kd,gf (2^k) 2,show e+e=2*e by lia];show Nat.mul_dvd_mul_left 2 this
def sH (m:Nat):Nat->Nat->Nat
 | 0,x=>x
 | n+1,x=>sH m n ((x*5+1)%m)
theorem Rx (m):∀n x,sH m n x%m=(5^n*x+S5 n)%m
 | 0,x=>by rw[sH,wf,Nat.one_mul];rfl
 | n+1,x=>by
  rw[sH,Rx m n];let e1:5^(n+1)*x+S5 (n+1)=5^n*(x*5+1)+S5 n:=by rw[Ni n 1,ww,wx,kd,gf x 5,lv];show _+(5^n*1+S5 n)=_;lia
  rw[e1,Nat.add_mod,Nat.mul_mod,Nat.mod_mod,<-Nat.mul_mod,<-Nat.add_mod]
theorem Nj (hm:0<m):∀n x,x<m->sH m n x<m
 | 0,_,h=>h
 | n+1,_,_=>Nj hm n _ (oT _ hm)
theorem Ry (m):∀a b x,sH m (a+b) x=sH m b (sH m a x)
 | 0,b,x=>by rw[hV];rfl
 | a+1,b,x=>by rw[Nat.succ_add];show Ry m a b _
def Z9 (hx:x<2^k)(h:sH (2^k) d x=x):2^k ∣ d:=by
 let hm:=Rx (2^k) d x;rw[h,Ge]at hm;let e:(4*S5 d+1)*x+S5 d=x+S5 d*(2*(2*x)+1):=by rw[Nat.add_mul,Nat.one_mul,ww,wx,gf 4 (S5 d),lv,show 2*(2*x)=4*x by lia];lia
 rw[e]at hm;let hd:2^k ∣ S5 d*(2*(2*x)+1):=by have:=Nat.sub_mod_eq_zero_of_mod_eq hm.symm;rw[ii]at this;show Nat.dvd_of_mod_eq_zero this
 show WY (HY hd)
def acv (hx:x<2^k)(ha:a<2^k)(hb:b<2^k)(h:sH (2^k) a x=sH (2^k) b x):a=b:=by
 let key:∀a b,a<=b->b<2^k->sH (2^k) a x=sH (2^k) b x->a=b:=by intro a b hab hb h;let⟨d,rfl⟩:=Nat.exists_eq_add_of_le hab;rw[Ry]at h;let hl:=Nj (Nat.two_pow_pos k) a x hx;have:=Z9 hl h.symm;let hd:d=0:=Nat.eq_zero_of_dvd_of_lt this (kK (Nat.le_add_left _ _) hb);lia
 rcases Nat.le_total a b with z|z;.show key a b z hb h
 .show(key b a z ha h.symm).symm
def ae5 {l:List Nat}(nd:l.Nodup)(hl:l.length=M)(hs:∀x∈l,x<M)(hy:y<M):y∈l:=by
 apply gS;intro hn;have:=(gp.mpr ⟨hn,nd⟩).length_le_of_subset (l₂:=List.range M) λx hx=>by
  rcases ba.mp hx with e|e;.rw[e];show bE.mpr hy
  .show bE.mpr (hs x e)
 rw[bt,dP]at this;lia
def acw (hx:x<2^k)(hy:y<2^k):∃n,n<2^k/\sH (2^k) n x=y:=by
 let nd:((List.range (2^k)).map λn=>sH (2^k) n x).Nodup:=ed.mpr (sq.imp_of_mem λ{a b} ha hb hne z=>hne (acv hx (bE.mp ha) (bE.mp hb) z));have:=ae5 nd (by rw[ab,dP]) (λz hz=>by let⟨n,_,rfl⟩:=aw.mp hz;show Nj (Nat.two_pow_pos k) n x hx) hy
 let⟨n,hn,e⟩:=aw.mp this;show⟨n,bE.mp hn,e⟩
def jo (mask:Nat):Nat->Nat×Nat->Nat×Nat
 | 0,p=>p
 | n+1,p=>jo mask n (SetTable.leap mask p.1 p.2)
theorem J3 (mask):∀a b p,jo mask (a+b) p=jo mask b (jo mask a p)
 | 0,b,p=>by rw[hV];rfl
 | a+1,b,p=>by rw[Nat.succ_add];show J3 mask a b _
theorem Gf (mask):∀n p,(jo mask n p).2=p.2/32^n
 | 0,p=>by rw[jo,wf,Nat.div_one]
 | n+1,p=>by rw[jo,Gf mask n];show p.2/32/32^n=p.2/32^(n+1);rw[Nat.div_div_eq_div_mul,kd,gf 32]
theorem Nk:∀n p,p.1<=mask->(jo mask n p).1<=mask
 | 0,_,h=>h
 | n+1,p,_=>Nk n _ (dS (oT _ (kQ mask)))
theorem Gg (mask):∀n i,jo mask n (i,0)=(sH (mask+1) n i,0)
 | 0,i=>rfl
 | n+1,i=>by
  have:SetTable.leap mask i 0=((i*5+1)%(mask+1),0):=by unfold SetTable.leap;simp
  rw[jo,this,Gg mask n];rfl
def J4 (hm:mask+1=2^k)(hi:i<=mask)(hp:p<2^64)(hy:y<=mask):∃n,n<=mask+13/\(jo mask n (i,p)).1=y:=by
 let h13:(jo mask 13 (i,p)).2=0:=by rw[Gf];show Nat.div_eq_of_lt (bu hp w_)
 let hl:=Nk (mask:=mask) 13 (i,p) hi;let⟨n,hn,e⟩:=acw (k:=k) (x:=(jo mask 13 (i,p)).1) (y:=y) wT wT;calc⟨13+n,wT,?_⟩;rw[J3,show jo mask 13 (i,p)=((jo mask 13 (i,p)).1,0) from se RA h13,Gg,hm];show e
def stp (t:SetTable):Nat->SetTable.Probe->SetTable.Probe
 | 0,p=>p
 | s+1,p=>stp t s (t.advance p)
theorem wW (t):∀a b p,stp t (a+b) p=stp t b (stp t a p)
 | 0,b,p=>by rw[hV];rfl
 | a+1,b,p=>by rw[Nat.succ_add];show wW t a b _
noncomputable def mU (t:SetTable)(q:Nat×Nat)(d:Option Nat):SetTable.Probe:={j:=q.1,more:=SetTable.runEnd t.mask q.1-q.1,i:=q.1,perturb:=q.2,dummy:=d}
def ae6 (mask i):SetTable.runEnd mask i-i<=9:=by unfold SetTable.runEnd;split <;> simp
theorem H_ (t):∀(m:Nat) (p:SetTable.Probe),p.more=m->stp t (m+1) p=mU t (SetTable.leap t.mask p.i p.perturb) p.dummy
 | 0,p,h=>by show t.advance p=_;unfold SetTable.advance mU;rw[if_neg wT]
 | m+1,p,h=>by
  show stp t (m+1) (t.advance p)=_;let e:t.advance p={p with j:=p.j+1,more:=p.more-1}:=by unfold SetTable.advance;rw[if_pos wT]
  rw[e];show H_ t m _ (by show p.more-1=m;show fh wT)
theorem J5 (t)(d):∀(n:Nat) (q:Nat×Nat),∃s,s<=10*n/\stp t s (mU t q d)=mU t (jo t.mask n q) d
 | 0,q=>⟨0,ah _,RA⟩
 | n+1,q=>by let h1:=H_ t _ (mU t q d) rfl;let⟨s,hs,e⟩:=J5 t d n (SetTable.leap t.mask q.1 q.2);let hr:(mU t q d).more<=9:=ae6 t.mask q.1;calc⟨(mU t q d).more+1+s,wT,?_⟩;rw[wW,h1];show e
def W0 (t:SetTable)(h):t.probeStart h=mU t (SetTable.bits h%(t.mask+1),SetTable.bits h) none:=rfl
def Rz (h):SetTable.bits h<2^64:=by
 unfold SetTable.bits;let h1:=e6 h (show (2^64:Int)≠0 by decide);let h2:=du h (show (0:Int)<2^64 by decide);let h3:=Int.toNat_of_nonneg h1;let h4:(((2:Nat)^64:Nat):Int)=(2^64:Int):=by decide
 simp_all
def acy {t:SetTable}(hm:t.mask+1=2^k)(h)(hy:y<=t.mask):∃s,s<=10*(t.mask+13)/\(stp t s (t.probeStart h)).j=y:=by let⟨n,hn,e⟩:=J4 (i:=SetTable.bits h%(t.mask+1)) (p:=SetTable.bits h) hm (dS (oT _ (kQ _))) (Rz h) hy;let⟨s,hs,es⟩:=J5 t none n (SetTable.bits h%(t.mask+1),SetTable.bits h);calc⟨s,wT,?_⟩;rw[W0,es];show e
def J6 (t:SetTable)(p:SetTable.Probe):(t.advance p).dummy=p.dummy:=by unfold SetTable.advance;split <;> rfl
theorem RB (t : SetTable)(hs : Nat -> Int)(h)(hd : ∀j, t.slot j ≠ .dummy) : ∀(fuel : Nat) (p : SetTable.Probe), p.dummy = none -> (∃s, s<fuel /\ t.slot (stp t s p).j = .empty) ->
    ∃s, s<fuel /\ (∀s', s'<s -> ∃i, t.slot (stp t s' p).j = .live i /\ hs i ≠ h) /\
      ((t.slot (stp t s p).j = .empty /\ SetTable.probe.go t hs h fuel p = some (.empty (stp t s p).j none)) \/
       ∃i, t.slot (stp t s p).j = .live i /\ hs i = h /\ SetTable.probe.go t hs h fuel p = some (.candidate (stp t s p).j i (stp t (s+1) p)))
  | 0, _, _, ⟨_, h, _⟩ => absurd h (ke _)
  | fuel+1, p, hp, ⟨s, hs1, hs2⟩ => by
    cases e : t.slot p.j with
    | empty => show⟨0, kQ _, λs' z => absurd z (ke _), .inl ⟨e, by unfold SetTable.probe.go; rw[e, hp]; rfl⟩⟩
    | dummy => show absurd e (hd _)
    | live i =>
      by_cases hh : hs i = h
      · refine⟨0, kQ _, λs' z => absurd z (ke _), .inr ⟨i, e, hh, ?_⟩⟩
        unfold SetTable.probe.go;rw[e];simp only[hh, beq_self_eq_true, if_true];rfl
      · have hne : s ≠ 0 := by
          rintro rfl;have : t.slot p.j = .empty := hs2;rw[e]at this; cases this
        obtain⟨s1, rfl⟩ : ∃s1, s = s1+1 := ⟨s-1, by lia⟩
        obtain⟨r, hr, hall, hend⟩ := RB t hs h hd fuel (t.advance p) (by rw[J6]; show hp) ⟨s1, dS hs1, hs2⟩;have eg : SetTable.probe.go t hs h (fuel+1) p = SetTable.probe.go t hs h fuel (t.advance p) := by
          conv => lhs; unfold SetTable.probe.go
          rw[e];simp[hh]
        refine⟨r+1, sf hr, λs' z => ?_, ?_⟩
        · cases s' with| zero => show⟨i, e, hh⟩| succ s' => show hall s' wT
        · rw[eg]
          show hend
def zx (xs:List Nat):Prop:=xs.Pairwise (λa b=>a<b)
def zx.at_ {xs:List Nat}(h:zx xs){i j a b:Nat}(hij:i<j)(ha:xs[i]?=some a)(hb:xs[j]?=some b):a<b:=by let⟨h1,e1⟩:=al.mp ha;let⟨h2,e2⟩:=al.mp hb;have:=e8.mp h i j h1 h2 hij;rw[e1,e2]at this;show this
structure Blw (xs:List Nat)(j k:Nat):Prop where
 le:k<=xs.length
 lo:∀(i a:Nat),i<k->xs[i]?=some a->a<j
 hi:∀(i a:Nat),k<=i->xs[i]?=some a->j<=a
theorem DX {xs:Array Nat}{j:Nat}(hs:zx xs.toList):∀(fuel lo hi:Nat),lo<=hi->hi<=xs.size->hi-lo<=fuel->(∀(i a:Nat),i<lo->xs.toList[i]?=some a->a<j)->(∀(i a:Nat),hi<=i->xs.toList[i]?=some a->j<=a)->Blw xs.toList j (SetTable.below.go xs j fuel lo hi)
 | 0,lo,hi,h1,h2,h3,h4,h5=>by
  have:lo=hi:=by rw[fz]at *;lia
  subst this;unfold SetTable.below.go;show⟨by simpa using h2,h4,h5⟩
 | fuel+1,lo,hi,h1,h2,h3,h4,h5=>by
  unfold SetTable.below.go;by_cases z:lo<hi
  .rw[if_pos z];let hm:(lo+hi)/2<xs.size:=o6 wT;let hg:xs.toList[(lo+hi)/2]?=some (xs.getD ((lo+hi)/2) j):=by
    rw[cn,bX hm,fA,bX hm];rfl
   by_cases c:xs.getD ((lo+hi)/2) j<j
   .simp only[c,if_true];calc DX hs fuel _ _ (o6 wT) h2 (by simp_all;lia) (λi a hi' ha=>?_) h5;rcases eC i ((lo+hi)/2) with y|y;.have:=hs.at_ y ha hg;show ml this c
    .have:i=(lo+hi)/2:=by lia
     rw[this,hg]at ha;cases ha;show c
   .simp only[c,if_false];calc DX hs fuel _ _ wT (aT hm) (by simp_all;lia) h4 (λi a hi' ha=>?_);rcases eC ((lo+hi)/2) i with y|y;.have:=hs.at_ y hg ha;lia
    .have:i=(lo+hi)/2:=wt y hi';rw[this,hg]at ha;cases ha;show mx c
  .rw[if_neg z];have:lo=hi:=by lia
   subst this;show⟨by simpa using h2,h4,h5⟩
def DY {xs:Array Nat}(hs:zx xs.toList)(j):Blw xs.toList j (SetTable.below xs j):=
 DX hs xs.size 0 xs.size (cw _) (ah _) wT (λi a h=>absurd h (ke _)) (λi a h ha=>by have:=(al.mp ha).1;rw[bo]at this;lia)
def jU {t:SetTable}(hs:zx t.place.toList):t.slot j=.live i↔t.place.toList[i]?=some j:=by
 let B:=DY hs j;constructor
 .intro h;unfold SetTable.slot at h;dsimp only at h;split at h
  .rename_i e;cases h;rw[cn];show eq_of_beq e
  .split at h <;> cases h
 .intro h;let hi:SetTable.below t.place j=i:=by
   rcases rS (SetTable.below t.place j) i with z|z|z
   .let⟨hl,_⟩:=al.mp h;obtain⟨a,ha⟩:∃a,t.place.toList[SetTable.below t.place j]?=some a:=⟨_,ae (ml z hl)⟩
    let h1:=B.hi _ a (ah _) ha;let h2:=hs.at_ z ha h;lia
   .show z
   .have:=B.lo i j z h;lia
  unfold SetTable.slot;dsimp only;rw[hi,<-cn,h];simp
def yt {t:SetTable}(hs:zx t.place.toList)(hd:t.dummies=#[]):t.slot j=.empty↔j∉t.place.toList:=by
 constructor
 .intro h hm;let⟨i,hi⟩:=ie hm;rw[(jU hs).mpr hi]at h;cases h
 .intro h;cases e:t.slot j with
  | empty=>rfl
  | live i=>show absurd (aS ((jU hs).mp e)) h
  | dummy=>
   exfalso;unfold SetTable.slot at e;dsimp only at e;split at e;.cases e
   .split at e
    .rename_i z;unfold SetTable.has at z;rw[hd]at z;simp at z
    .cases e
def Uo {t:SetTable}(hs:zx t.place.toList)(hd:t.dummies=#[])(j):t.slot j≠.dummy:=by
 intro e;by_cases h:j∈t.place.toList
 .let⟨i,hi⟩:=ie h;rw[(jU hs).mpr hi]at e;cases e
 .rw[(yt hs hd).mpr h]at e;cases e
def Z_ {t t':SetTable}(h:t.mask=t'.mask)(p:SetTable.Probe):t.advance p=t'.advance p:=by unfold SetTable.advance;rw[h]
theorem Nm {t t':SetTable}(h:t.mask=t'.mask):∀s p,stp t s p=stp t' s p
 | 0,_=>rfl
 | s+1,p=>by rw[stp,stp,Z_ h,Nm h s]
def Uq {t t':SetTable}(h:t.mask=t'.mask)(x):t.probeStart x=t'.probeStart x:=by unfold SetTable.probeStart;rw[h]
def fV (t:SetTable)(h:Int)(s:Nat):Nat:=(stp t s (t.probeStart h)).j
def Gh {t t':SetTable}(e:t.mask=t'.mask)(h)(s):fV t h s=fV t' h s:=by unfold fV;rw[Uq e,Nm e]
def Way (t:SetTable)(pl:List Nat)(h:Int)(j:Nat):Prop:=∃s,fV t h s=j/\∀s',s'<s->fV t h s'∈pl
structure jN (t:SetTable)(hs:List Int):Prop where
 zy:zx t.place.toList
 len:t.place.toList.length=hs.length
 Np:t.dummies=#[]
 two:∃k,3<=k/\k<=13/\t.mask+1=2^k
 le:∀j∈t.place.toList,j<=t.mask
 few:hs.length<=t.mask
 way:∀(i j:Nat) (h:Int),hs[i]?=some h->t.place.toList[i]?=some j->Way t t.place.toList h j
def kJ {α:Type}(xs:Array α)(p)(x:α):(SetTable.insertAt xs p x).toList=xs.toList.take p++x::xs.toList.drop p:=by unfold SetTable.insertAt;simp[tq,qh];show cx w8
def lQ {α:Type}{l:List α}{p:Nat}{x:α}(hp:p<=l.length){i:Nat}{y:α}(h:(l.take p++x::l.drop p)[i]?=some y):(i<p/\l[i]?=some y)\/(i=p/\y=x)\/(p<i/\l[i-1]?=some y):=by
 let hl:(l.take p).length=p:=by rw[be];lia
 rcases rS i p with z|z|z
 .rw[eJ (by simp[*]),qA,if_pos z]at h;show .inl ⟨z,h⟩
 .rw[c_ (by simp[*]),hl,z,my]at h;show .inr (.inl ⟨z,by simpa using h.symm⟩)
 .rw[c_ wT,hl,show i-p=(i-p-1)+1 by lia,re,gu,show p+(i-p-1)=i-1 by lia]at h;show .inr (.inr ⟨z,h⟩)
def acz (hs:zx xs)(B:Blw xs j p)(hn:j∉xs):zx (xs.take p++j::xs.drop p):=by
 unfold zx;rw[f7,h8];refine⟨hs.sublist (rl p xs),⟨λa ha=>?_,hs.sublist (ip p xs)⟩,λa ha b hb=>?_⟩
 .let⟨i,hi⟩:=ie ha;rw[gu]at hi;let h1:=B.hi _ a wT hi;let h2:a≠j:=λz=>hn (by rw[<-z];show aS hi);lia
 .let⟨i,hi⟩:=ie ha;rw[qA]at hi;split at hi
  .rename_i z;let h1:=B.lo i a z hi;rcases ba.mp hb with e|e;.simp_all
   .let⟨m,hm⟩:=ie e;rw[gu]at hm;have:=B.hi _ b wT hm;show bu h1 this
  .cases hi
def Way.mono {t t':SetTable}(w:Way t pl h j)(e:t.mask=t'.mask)(hs:∀x∈pl,x∈pl'):Way t' pl' h j:=by let⟨s,h1,h2⟩:=w;show⟨s,by rw[<-Gh e];show h1,λs' z=>by rw[<-Gh e];show hs _ (h2 s' z)⟩
def W2 (t:SetTable)(j):(t.put j).1.place=SetTable.insertAt t.place (SetTable.below t.place j) j:=rfl
def jN.put (I:jN t hs)(hj:j<=t.mask)(hn:j∉t.place.toList)(w:Way t t.place.toList h j)(hf:hs.length+1<=t.mask):jN (t.put j).1 (hs.take (SetTable.below t.place j)++h::hs.drop (SetTable.below t.place j)):=by
 let B:=DY I.zy j;let W3:(t.put j).1.place.toList=t.place.toList.take (SetTable.below t.place j)++j::t.place.toList.drop (SetTable.below t.place j):=by rw[W2,kJ]
 let mem:∀x∈t.place.toList,x∈(t.put j).1.place.toList:=λx hx=>by
  rw[W3];rw[<-cS (SetTable.below t.place j) t.place.toList]at hx;rcases bd.mp hx with z|z;.show oP _ z
  .show dm _ (ay _ z)
 let hpl:=B.le;let bW:=I.len;refine⟨by rw[W3];show acz I.zy B hn,?_,?_,I.two,λx hx=>?_,?_,λi y g h1 h2=>?_⟩
 .rw[W3];simp only[av,be,bt,cy];simp_all
 .show (if SetTable.has t.dummies j=true then _ else t.dummies)=#[];rw[I.Np];simp[SetTable.has]
 .rw[W3]at hx;rcases bd.mp hx with z|z;.show I.le x (fT z)
  .rcases ba.mp z with z|z;.rw[z];show hj
   .show I.le x (jn z)
 .simp only[av,be,bt,cy];show _<=t.mask;simp_all +arith
 .rw[W3]at h2;rcases lQ (by simp_all) h1 with⟨a,b⟩|⟨a,b⟩|⟨a,b⟩
  .rcases lQ hpl h2 with⟨c,d⟩|⟨c,d⟩|⟨c,d⟩;.show(I.way i y g b d).mono RA mem
   .lia
   .lia
  .rcases lQ hpl h2 with⟨c,d⟩|⟨c,d⟩|⟨c,d⟩;.lia
   .rw[b,d];show w.mono RA mem
   .lia
  .rcases lQ hpl h2 with⟨c,d⟩|⟨c,d⟩|⟨c,d⟩;.lia
   .lia
   .show(I.way (i-1) y g b d).mono RA mem
section
variable {P:Program}{w:World}{κ:Type}[DecidableEq κ]
def jZ (vk:fY P w κ):Prop:=∀{A:Around} {E:AB} {s:Shared} {k:κ} {v:Value} {Q:Bool->Shared->Prop} (n:Nat),vk.deep<=n->vk.is s.heap k v->Q false s->wpAny (model P w) A (ofAClassStatement n v) Q E s
structure Gi (vk:fY P w κ)(h:Heap)(es:Array (Int×Value))(ks:List κ):Prop where
 len:ks.length=es.toList.length
 at_:∀(i:Nat) e k,es.toList[i]?=some e->ks[i]?=some k->vk.is h k e.2/\e.1=vk.hash k/\∃b,e.2=.ref b
 nd:ks.Nodup
def jN.fits {es:Array (Int×Value)}(I:jN t (es.toList.map (·.1))):t.fits es.size=true:=by let h1:=I.len;let h2:=I.few;rw[ab,bo]at h1 h2;rw[bo]at h1;unfold SetTable.fits SetTable.fill;rw[I.Np];simp;simp_all
def jN.odd (I:jN t hs):t.gaveWay=false:=by
 let⟨k,h3,_,e⟩:=I.two;obtain⟨m,rfl⟩:∃m,k=m+1:=⟨k-1,wT⟩
 rw[kd]at e;unfold SetTable.gaveWay;have:t.mask%2=1:=by lia
 rw[this];rfl
def jN.hole (I:jN t hs)(h):∃s,s<=10*(t.mask+13)/\fV t h s∉t.place.toList:=by
 let h1:=I.len;let h2:=I.few;have:∃y,y<=t.mask/\y∉t.place.toList:=by apply gS;intro hn;let hall:∀y,y<=t.mask->y∈t.place.toList:=λy hy=>gS λz=>hn ⟨y,hy,z⟩;have:=(sq (n:=t.mask+1)).length_le_of_subset (l₂:=t.place.toList) λy hy=>hall y (by have:=bE.mp hy;show dS this);rw[dP]at this;lia
 let⟨y,hy,hn⟩:=this;let⟨k,_,_,e⟩:=I.two;let⟨s,hs,ey⟩:=acy e h hy;show⟨s,hs,by unfold fV;rw[ey];show hn⟩
def W4 (t)(h)(s):fV t h s<=t.mask:=by
 let key:∀s p,p.i<=t.mask->p.j+p.more<=t.mask->(stp t s p).j<=t.mask:=by
  intro s
  induction s with
  | zero=>intro p _ h;show p.j<=t.mask;lia
  | succ s ih=>
   intro p h1 h2;show (stp t s (t.advance p)).j<=t.mask;unfold SetTable.advance;split;.show ih _ h1 (by show p.j+1+(p.more-1)<=t.mask;lia)
   .let hl:(SetTable.leap t.mask p.i p.perturb).1<=t.mask:=dS (oT _ (kQ _));calc ih _ hl ?_;show (SetTable.leap t.mask p.i p.perturb).1+(SetTable.runEnd t.mask (SetTable.leap t.mask p.i p.perturb).1-(SetTable.leap t.mask p.i p.perturb).1)<=t.mask;unfold SetTable.runEnd;split <;> simp_all
 let hl:SetTable.bits h%(t.mask+1)<=t.mask:=dS (oT _ (kQ _));calc key s (t.probeStart h) hl ?_;show SetTable.bits h%(t.mask+1)+(SetTable.runEnd t.mask (SetTable.bits h%(t.mask+1))-SetTable.bits h%(t.mask+1))<=t.mask;unfold SetTable.runEnd;split <;> simp_all
variable {vk:fY P w κ}{A:Around}{E:AB}{s:Shared}
def acA (jq:vk.deep<=8)(nc:jZ vk){x:Value}{k:κ}(hx:vk.is s.heap k x){stored:List Value}(hst:∀y∈stored,∃k',vk.is s.heap k' y){Q:Bool->Shared->Prop}(h:Q false s):wpAny (model P w) A (searchCouldBeSeen x stored) Q E s:=by
 unfold searchCouldBeSeen;calc aa ?_;refine mB _ (λrest r s'=>s'=s/\r=(none,())/\∀y∈rest,∃k',vk.is s.heap k' y) _ ?_ ?_ _ _ ⟨RA,RA,hst⟩
 .intro y rest r s' z;let⟨rfl,rfl,hr⟩:=z;let⟨k',hk'⟩:=hr y aE;let hrest:∀z∈rest,∃k',vk.is s'.heap k' z:=λz hz=>hr z (ay _ hz);dsimp only
  split
  all_goals
   split;.show ag ⟨RA,RA,hrest⟩
   .calc aa (vk.quiet 8 jq hx ?_);simp only[dE,a7,if_false];calc aa (vk.quiet 8 jq hk' ?_);simp only[dE,a7,if_false];calc aa (nc 8 jq hx ?_);simp only[a7,if_false];calc aa (nc 8 jq hk' ?_);simp only[a7,if_false];show ag ⟨RA,RA,hrest⟩
 .intro r s' z;let⟨rfl,rfl,_⟩:=z;show ag h
theorem Df (jq:vk.deep<=8)(nc:jZ vk)(hu:A.units+vk.deep<cLine+1)(ho:s.heap.get? a=some o)(hd:o.data=.set es ep t)(I:jN t (es.toList.map (·.1)))(K:Gi vk s.heap es ks)(hx:vk.is s.heap k x)(h1:k∈ks->Q (.there none) s)(h2:k∉ks->∀j,j<=t.mask->j∉t.place.toList->Way t t.place.toList (vk.hash k) j->Q (.free j false) s)(he:fV t (vk.hash k) e0∉t.place.toList)(hel:e0<=10*(t.mask+13)):∀(fuel r:Nat) (stand:Option SetTable.Probe),e0-r<fuel->stand.getD (t.probeStart (vk.hash k))=stp t r (t.probeStart (vk.hash k))->(∀r',r'<r->fV t (vk.hash k) r'∈t.place.toList/\∀i:Nat,t.place.toList[i]?=some (fV t (vk.hash k) r')->ks[i]?≠some k)->
   wpAny (model P w) A (setSearchFrom a x (vk.hash k) true fuel stand) Q E s
 | 0,_,_,h,_,_=>absurd h (ke _)
 | fuel+1,r,stand,hf,Gj,hpre=>by
  let hre:r<=e0:=by
   rcases eC e0 r with z|z;.show absurd (hpre e0 z).1 he
   .show z
  unfold setSearchFrom;calc aa (fI ho hd I.fits ?_);dsimp only;rw[I.odd];simp only[a7,if_false];rw[Gj];let hdm:(stp t r (t.probeStart (vk.hash k))).dummy=none:=by
   have:∀n p,(stp t n p).dummy=p.dummy:=by
    intro n
    induction n with| zero=>intro p;rfl| succ n ih=>intro p;rw[stp,ih,J6]
   rw[this];rfl
  let hw:∀n,(stp t n (stp t r (t.probeStart (vk.hash k)))).j=fV t (vk.hash k) (r+n):=λn=>by unfold fV;rw[wW]
  let⟨n,hn,hall,hend⟩:=RB t (λi=>(es[i]?.map (·.1)).getD 0) (vk.hash k) (Uo I.zy I.Np) (10*SetTable.turns t.mask) _ hdm ⟨e0-r,by unfold SetTable.turns;show iO wT,by rw[hw,show r+(e0-r)=e0 from ng hre];show(yt I.zy I.Np).mpr he⟩;let zW:∀m,m<n->∃i:Nat,t.place.toList[i]?=some (fV t (vk.hash k) (r+m))/\(es[i]?.map (λe:Int×Value=>e.1)).getD 0≠vk.hash k:=λm hm=>by let⟨i,e1,e2⟩:=hall m hm;rw[hw]at e1;show⟨i,(jU I.zy).mp e1,e2⟩
  let m_:t.place.toList.length=ks.length:=by rw[I.len,ab,K.len]
  let hnot:∀m,m<r+n->∀i:Nat,t.place.toList[i]?=some (fV t (vk.hash k) m)->ks[i]?≠some k:=λm hm i hi hk=>by
   rcases eC m r with z|z;.show(hpre m z).2 i hi hk
   .let⟨i',e1,e2⟩:=zW (m-r) (ck wT wT);rw[show r+(m-r)=m from ng z]at e1;let hii:i=i':=by
     let a1:=(jU I.zy).mpr hi;rw[(jU I.zy).mpr e1]at a1;cases a1;rfl
    subst hii;obtain⟨e,hes⟩:∃e,es.toList[i]?=some e:=⟨_,ae (by rw[<-K.len,<-m_];show(al.mp hi).1)⟩
    have:=(K.at_ i e k hes hk).2.1;rw[<-cn,hes]at e2;show e2 this
  let dN:∀m,m<r+n->fV t (vk.hash k) m∈t.place.toList:=λm hm=>by
   rcases eC m r with z|z;.show(hpre m z).1
   .let⟨i',e1,_⟩:=zW (m-r) wT;rw[show r+(m-r)=m by lia]at e1;show aS e1
  rw[hw]at hend;rcases hend with⟨hsl,hgo⟩|⟨i,hsl,hhash,hgo⟩
  .let hemp:=(yt I.zy I.Np).mp hsl;split
   .rename_i met heq;let heq':SetTable.probe.go t (λi=>(es[i]?.map (·.1)).getD 0) (vk.hash k) (10*SetTable.turns t.mask) (stp t r (t.probeStart (vk.hash k)))=some met:=heq;rw[hgo]at heq';cases heq';dsimp only;calc ag (h2 (λhk=>?_) _ (W4 t _ _) hemp ⟨r+n,RA,dN⟩);let⟨i0,hi0⟩:=ie hk;let hil:=(al.mp hi0).1;obtain⟨j0,hj0⟩:∃j,t.place.toList[i0]?=some j:=⟨_,ae (by simp[*])⟩
    obtain⟨e,hes⟩:∃e,es.toList[i0]?=some e:=⟨_,ae (by rw[<-K.len];show hil)⟩
    let hh:=(K.at_ i0 e k hes hi0).2.1;let⟨s0,w1,w2⟩:=I.way i0 j0 (vk.hash k) (by rw[a_,hes,<-hh];rfl) hj0;rcases rS s0 (r+n) with z|z|z;.show hnot s0 z i0 (by rw[w1];show hj0) hi0
    .rw[z]at w1;show hemp (by rw[w1];show aS hj0)
    .show hemp (w2 _ z)
   .rename_i heq;let heq':SetTable.probe.go t (λi=>(es[i]?.map (·.1)).getD 0) (vk.hash k) (10*SetTable.turns t.mask) (stp t r (t.probeStart (vk.hash k)))=none:=by
     cases hq:SetTable.probe.go t (λi=>(es[i]?.map (·.1)).getD 0) (vk.hash k) (10*SetTable.turns t.mask) (stp t r (t.probeStart (vk.hash k))) with| none=>rfl| some m=>show absurd hq (heq m)
    rw[hgo]at heq';cases heq'
  .let hpl:=(jU I.zy).mp hsl;let hil:=(al.mp hpl).1;obtain⟨e,hes⟩:∃e,es.toList[i]?=some e:=⟨_,ae (by rw[<-K.len,<-m_];show hil)⟩
   obtain⟨k',hk'⟩:∃k',ks[i]?=some k':=⟨_,ae (by rw[<-m_];show hil)⟩
   let⟨hy,hh,b,hb⟩:=K.at_ i e k' hes hk';let Ur:es[i]?=some e:=by rw[<-cn];show hes
   split
   .rename_i met heq;let heq':SetTable.probe.go t (λi=>(es[i]?.map (·.1)).getD 0) (vk.hash k) (10*SetTable.turns t.mask) (stp t r (t.probeStart (vk.hash k)))=some met:=heq;rw[hgo]at heq';cases heq';dsimp only;let hsm:t.sameMemory t.moves t.mask=some true:=by unfold SetTable.sameMemory;simp
    let hr0:r≠e0:=by
     rintro rfl;rcases kN n with z|z
     .rw[z,we]at hpl;show he (aS hpl)
     .let⟨i',e1,_⟩:=zW 0 z;show he (aS e1)
    let tail:∀hkk:¬k'=k,wpAny (model P w) A (setSearchFrom a x (vk.hash k) true fuel (some (stp t (n+1) (stp t r (t.probeStart (vk.hash k)))))) Q E s:=λhkk=>
     Df jq nc hu ho hd I K hx h1 h2 he hel fuel (r+n+1) _ (by grind) (by rw[wl,<-wW,nB]) λr' hr'=>by
      rcases eC r' (r+n) with z|z;.show⟨dN r' z,hnot r' z⟩
      .have:r'=r+n:=by lia
       subst this;calc⟨aS hpl,λi2 hi2=>?_⟩;let hii:i=i2:=by let a1:=(jU I.zy).mpr hi2;rw[hsl]at a1;cases a1;rfl
       rw[<-hii,hk'];show λz=>hkk (bb z)
    let hst:∀y∈List.map (λx=>x.snd) (Array.filter (λx=>x.fst==vk.hash k) es).toList,∃k',vk.is s.heap k' y:=λy hy=>by
     let⟨e',he',rfl⟩:=aw.mp hy;let hm:e'∈es.toList:=by have:=sN.mp he';rw[Array.mem_filter]at this;show sN.mpr this.1
     let⟨i3,hi3⟩:=ie hm;obtain⟨k3,hk3⟩:∃k3,ks[i3]?=some k3:=⟨_,ae (by rw[K.len];show(al.mp hi3).1)⟩
     show⟨k3,(K.at_ i3 e' k3 hi3 hk3).1⟩
    let⟨eh,ev⟩:=e;let hb:ev=.ref b:=hb;subst hb;cases hl:t.led
    .simp only[ic,if_true];calc aa (acA jq nc hx hst ?_);simp only[a7,if_false];rw[Ur];dsimp only;calc aa (fe (vk.eqBool hu hy hx ?_));calc aa (fI ho hd I.fits ?_);dsimp only;by_cases hkk:k'=k
     .rw[ar hkk];show ag (h1 (hkk ▸ aS hk'))
     .rw[am hkk];simp only[lT,a7,if_false];rw[hsm];simp only[if_true];rw[hsl];dsimp only;rw[Ur];dsimp only;calc aa (wpAny_isSame_ref_self ?_);show aa (ag (tail hkk))
    .simp only[dE,a7,if_false];rw[Ur];dsimp only;calc aa (fe (vk.eqBool hu hy hx ?_));calc aa (fI ho hd I.fits ?_);dsimp only;by_cases hkk:k'=k
     .rw[ar hkk];show ag (h1 (hkk ▸ aS hk'))
     .rw[am hkk];simp only[lT,a7,if_false];rw[hsm];simp only[if_true];rw[hsl];dsimp only;rw[Ur];dsimp only;calc aa (wpAny_isSame_ref_self ?_);show aa (ag (tail hkk))
   .rename_i heq;let heq':SetTable.probe.go t (λi=>(es[i]?.map (·.1)).getD 0) (vk.hash k) (10*SetTable.turns t.mask) (stp t r (t.probeStart (vk.hash k)))=none:=by
     cases hq:SetTable.probe.go t (λi=>(es[i]?.map (·.1)).getD 0) (vk.hash k) (10*SetTable.turns t.mask) (stp t r (t.probeStart (vk.hash k))) with| none=>rfl| some m=>show absurd hq (heq m)
    rw[hgo]at heq';cases heq'
end
def tM (mask:Nat):SetTable:={mask:=mask,place:=#[],dummies:=#[],finger:=0,led:=false,moves:=0,plain:=false}
def Taken (ow:Array (Option Nat))(j:Nat):Prop:=(ow.getD j (some 0)).isNone=false
def ae7 (t:SetTable)(d):∀(q:Nat×Nat) (m:Nat),m<=SetTable.runEnd t.mask q.1-q.1->(stp t m (mU t q d)).j=q.1+m:=by
 intro q m hm;let key:∀(m:Nat) (p:SetTable.Probe),m<=p.more->(stp t m p).j=p.j+m:=by
  intro m
  induction m with
  | zero=>intro p _;rfl
  | succ m ih=>
   intro p h;show (stp t m (t.advance p)).j=_;let e:t.advance p={p with j:=p.j+1,more:=p.more-1}:=by unfold SetTable.advance;rw[if_pos wT]
   rw[e,ih _ (by show m<=p.more-1;show vw h)];show p.j+1+m=p.j+(m+1)
   lia
 show key m (mU t q d) hm
theorem J7 (mask)(ow):∀(fuel:Nat) (q:Nat×Nat),(∃n,n<fuel/\¬Taken ow (jo mask n q).1)->
  ∃s,SetTable.layClean.free mask ow fuel q.1 q.2=some (stp (tM mask) s (mU (tM mask) q none)).j/\¬Taken ow (stp (tM mask) s (mU (tM mask) q none)).j/\∀s',s'<s->Taken ow (stp (tM mask) s' (mU (tM mask) q none)).j
 | 0,_,⟨_,h,_⟩=>absurd h (ke _)
 | fuel+1,q,⟨n,hn,hfree⟩=>by
  let dN:=ae7 (tM mask) none q;cases e:(List.range (SetTable.runEnd mask q.1+1-q.1)).find? λk=>(ow.getD (q.1+k) (some 0)).isNone with
  | some k=>
   let h1:=List.find?_some e;let h2:=bE.mp (List.mem_of_find?_eq_some e);let hk:k<=SetTable.runEnd mask q.1-q.1:=fg wT;refine⟨k,?_,?_,λs' hs'=>?_⟩
   .unfold SetTable.layClean.free;rw[e,dN k hk]
   .rw[dN k hk];unfold Taken;rw[h1];decide
   .rw[dN s' (a8 (aT hs') hk)];let⟨as,bs,el,hall⟩:=(List.find?_eq_some_iff_append.mp e).2;let hm:s'∈as:=by
     have:(List.range (SetTable.runEnd mask q.1+1-q.1))[s']?=some s':=gL (ml hs' h2);let hk2:(List.range (SetTable.runEnd mask q.1+1-q.1))[as.length]?=some k:=by rw[el,c_ (ah _),my];rfl
     let hal:as.length<SetTable.runEnd mask q.1+1-q.1:=by have:=(al.mp hk2).1;rwa [dP]at this
     rw[gL hal]at hk2;let hak:as.length=k:=bb hk2;rw[el,eJ (by simp_all)]at this;show aS this
    have:=hall s' hm;unfold Taken;simpa using this
  | none=>
   let hall:=List.find?_eq_none.mp e;let htk:∀m,m<=SetTable.runEnd mask q.1-q.1->q.1<=SetTable.runEnd mask q.1->Taken ow (q.1+m):=λm hm hle=>by have:=hall m (bE.mpr (Nat.lt_sub_of_add_lt wT));unfold Taken;show rV.mpr this
   let hle:q.1<=SetTable.runEnd mask q.1:=by unfold SetTable.runEnd;split <;> lia
   let hn0:n≠0:=by rintro rfl;show hfree (htk 0 (cw _) hle)
   obtain⟨n1,rfl⟩:∃n1,n=n1+1:=⟨n-1,wT⟩
   let⟨s,h1,h2,h3⟩:=J7 mask ow fuel (SetTable.leap mask q.1 q.2) ⟨n1,dS hn,hfree⟩;let hrun:=H_ (tM mask) _ (mU (tM mask) q none) rfl;let hadd:∀m,stp (tM mask) ((mU (tM mask) q none).more+1+m) (mU (tM mask) q none)=stp (tM mask) m (mU (tM mask) (SetTable.leap mask q.1 q.2) none):=λm=>by rw[wW,hrun];rfl
   refine⟨(mU (tM mask) q none).more+1+s,?_,?_,λs' hs'=>?_⟩
   .rw[hadd,<-h1]
    conv=>lhs;unfold SetTable.layClean.free
    rw[e]
   .rw[hadd];show h2
   .rcases eC s' ((mU (tM mask) q none).more+1) with z|z
    .let hm:s'<=SetTable.runEnd mask q.1-q.1:=dS z;rw[dN s' hm];show htk s' hm hle
    .obtain⟨m,rfl⟩:∃m,s'=(mU (tM mask) q none).more+1+m:=⟨s'-((mU (tM mask) q none).more+1),by simp_all⟩
     rw[hadd];show h3 m (by simp_all)
structure Own (mask:Nat)(hs:List Int)(ow:Array (Option Nat))(pos:Nat->Nat):Prop where
 size:ow.size=mask+1
 le:∀i,i<hs.length->pos i<=mask
 at_:∀i,i<hs.length->ow[pos i]?=some (some i)
 only:∀j i:Nat,ow[j]?=some (some i)->i<hs.length/\j=pos i
 way:∀(i:Nat) h,hs[i]?=some h->∃s,fV (tM mask) h s=pos i/\∀s',s'<s->∃i',i'<hs.length/\fV (tM mask) h s'=pos i'
def Ag {ow:Array (Option Nat)}(hj:j<ow.size):Taken ow j↔∃i,ow[j]?=some (some i):=by
 unfold Taken;rw[fA,bX hj,wl];cases ow[j] with| none=>simp| some i=>simp
def Own.step (O:Own mask hs ow pos)(hm:mask+1=2^k)(hf:hs.length<=mask)(h):∃j,SetTable.layClean.free mask ow (SetTable.turns mask) (SetTable.bits h%(mask+1)) (SetTable.bits h)=some j/\Own mask (hs++[h]) (ow.setIfInBounds j (some hs.length)) λi=>if i=hs.length then j else pos i:=by
 let hinj:∀a b,a<hs.length->b<hs.length->pos a=pos b->a=b:=λa b ha hb e=>by let h1:=O.at_ a ha;rw[e,O.at_ b hb]at h1;show(bb (bb h1)).symm
 obtain⟨y,hy,hny⟩:∃y,y<=mask/\∀i,i<hs.length->pos i≠y:=by apply gS;intro hn;let hall:∀y,y<=mask->y∈(List.range hs.length).map pos:=λy hy=>gS λz=>hn ⟨y,hy,λi hi e=>z (aw.mpr ⟨i,bE.mpr hi,e⟩)⟩;have:=(sq (n:=mask+1)).length_le_of_subset (l₂:=(List.range hs.length).map pos) λy hy=>hall y (by have:=bE.mp hy;show dS this);rw[dP,ab,dP]at this;lia
 let hle:SetTable.bits h%(mask+1)<=mask:=dS (oT _ (kQ _));let⟨n,hn,en⟩:=J4 hm hle (Rz h) hy;let hsz:=O.size;let⟨s,e1,e2,e3⟩:=J7 mask ow (SetTable.turns mask) (SetTable.bits h%(mask+1),SetTable.bits h) ⟨n,by unfold SetTable.turns;lia,λz=>by rw[en,Ag wT]at z;let⟨i,hi⟩:=z;let⟨h1,h2⟩:=O.only y i hi;show hny i h1 h2.symm⟩
 let Ah:∀m,(stp (tM mask) m (mU (tM mask) (SetTable.bits h%(mask+1),SetTable.bits h) none)).j=fV (tM mask) h m:=λm=>rfl;rw[Ah]at e1 e2;calc⟨_,e1,?_⟩;let hjl:fV (tM mask) h s<=mask:=by apply gS;intro z;apply e2;unfold Taken;rw[fA,om wT];rfl
 let hfree:∀i,i<hs.length->pos i≠fV (tM mask) h s:=λi hi e=>e2 ((Ag wT).mpr ⟨i,by rw[<-e];show O.at_ i hi⟩);generalize hj:fV (tM mask) h s=j at *
 let hget:∀m:Nat,(ow.setIfInBounds j (some hs.length))[m]?=if j=m then some (some hs.length) else ow[m]?:=λm=>by
  rw[Array.getElem?_setIfInBounds];split
  .rename_i z;simp;lia
  .rfl
 refine⟨by rw[Array.size_setIfInBounds];show hsz,λi hi=>?_,λi hi=>?_,λm i hm'=>?_,λi g hg=>?_⟩
 .split;.show hjl
  .show O.le i (by rw[av]at hi;simp at hi;lia)
 .rw[av]at hi;simp at hi;rw[hget];by_cases z:i=hs.length;.rw[if_pos z,if_pos RA,z]
  .rw[if_neg z,if_neg λy=>hfree i wT y.symm];show O.at_ i wT
 .rw[hget]at hm';rw[av];simp only[bt,pV];split at hm'
  .rename_i z;have:hs.length=i:=by simpa using hm'
   subst this;show⟨f8 _,by rw[if_pos RA,z]⟩
  .let⟨h1,h2⟩:=O.only m i hm';show⟨fF h1,by rw[if_neg (bn h1)];show h2⟩
 .rcases eC i hs.length with z|z
  .rw[eJ z]at hg;let⟨s2,w1,w2⟩:=O.way i g hg;calc⟨s2,by rw[if_neg wT];show w1,λs' hs'=>?_⟩;let⟨i',a1,a2⟩:=w2 s' hs';show⟨i',by rw[av];simp;show fF a1,by rw[if_neg wT];show a2⟩
  .let hi0:i=hs.length:=by
    have:=(al.mp hg).1;rw[av]at this;simp at this;lia
   subst hi0;rw[c_ (ah _),my]at hg;let hg:h=g:=by simpa using hg
   subst hg;calc⟨s,by rw[if_pos rfl];show hj,λs' hs'=>?_⟩;let ht:=e3 s' hs';rw[Ah]at ht;let hl':fV (tM mask) h s'<ow.size:=by
    have:fV (tM mask) h s'<=mask:=W4 (tM mask) h s'
    (simp[Nat.sub_sub];lia)
   let⟨i',hi'⟩:=(Ag hl').mp ht;let⟨a1,a2⟩:=O.only _ i' hi';show⟨i',by rw[av];simp;lia,by rw[if_neg wT];show a2⟩
noncomputable def Us (mask:Nat)(acc:Option (Array (Option Nat)×Nat))(h:Int):Option (Array (Option Nat)×Nat):=do
 let (owner,k) <- acc
 let j <- SetTable.layClean.free mask owner (SetTable.turns mask) (SetTable.bits h%(mask+1)) (SetTable.bits h)
 pure (owner.setIfInBounds j (some k),k+1)
theorem Nq (hm:mask+1=2^k):∀(hs pre:List Int) (ow:Array (Option Nat)) (pos:Nat->Nat),Own mask pre ow pos->pre.length+hs.length<=mask->
  ∃ow' pos',hs.foldl (Us mask) (some (ow,pre.length))=some (ow',(pre++hs).length)/\Own mask (pre++hs) ow' pos'
 | [],pre,ow,pos,O,_=>⟨ow,pos,w8,by rw[fS];show O⟩
 | h::hs,pre,ow,pos,O,hl=>by
  rw[bt]at hl;let⟨j,e,O'⟩:=O.step hm wT h;let es:Us mask (some (ow,pre.length)) h=some (ow.setIfInBounds j (some pre.length),(pre++[h]).length):=by unfold Us;simp[e]
  let⟨ow',pos',e2,O2⟩:=Nq hm hs (pre++[h]) _ _ O' (by rw[av];simp;lia);calc⟨ow',pos',?_,?_⟩;.rw[wq,es,e2];simp
  .rw[bv]at O2;show O2
def acB (mask):Own mask [] (Array.replicate (mask+1) none) λ_=>0:=by calc⟨w8,λi h=>by simp at h,λi h=>by simp at h,λj i h=>?_,λi h e=>by simp at e⟩;rw[Array.getElem?_replicate]at h;split at h <;> simp at h
def Qj (hm:mask+1=2^k)(hs:Array Int)(hl:hs.size<=mask):∃ow pos,SetTable.layClean mask hs=some ow/\Own mask hs.toList ow pos:=by
 let⟨ow,pos,e,O⟩:=Nq hm hs.toList [] _ _ (acB mask) (by simpa using hl);calc⟨ow,pos,?_,by simpa using O⟩;have:SetTable.layClean mask hs=(hs.toList.foldl (Us mask) (some (Array.replicate (mask+1) none,0))).map (·.1):=by rw[Array.foldl_toList];rfl
 rw[this,show (0:Nat)=([]:List Int).length from RA,e];rfl
def lD (mask:Nat)(ow:Array (Option Nat)):List (Nat×Nat):=(List.range (mask+1)).filterMap λj=>(ow.getD j none).map (j,·)
def oE (O:Own mask hs ow pos):(j,i)∈lD mask ow↔i<hs.length/\j=pos i:=by
 unfold lD;rw[nK];constructor
 .intro z;let⟨j',hj',e⟩:=z;let hl:j'<ow.size:=by rw[O.size];show bE.mp hj'
  rw[fA,bX hl,wl]at e;cases hx:ow[j'] with
  | none=>rw[hx]at e;cases e
  | some x=>rw[hx]at e;let e:(j',x)=(j,i):=bb e;cases e;show O.only j i (by rw[bX hl,hx])
 .rintro⟨hi,rfl⟩;calc⟨pos i,bE.mpr (rX (O.le i hi)),?_⟩;rw[fA,O.at_ i hi];rfl
def Nr (mask)(ow):zx ((lD mask ow).map (·.1)):=by
 let key:∀l:List Nat,l.Pairwise (λa b=>a<b)->((l.filterMap λj=>(ow.getD j none).map (j,·)).map (·.1)).Sublist l:=by
  intro l _
  induction l with
  | nil=>show .slnil
  | cons j l ih=>
   rename_i hl;let ih:=ih (h8.mp hl).2;rw[kC];cases ow.getD j none with| none=>show ih.cons _| some x=>show ih.cons_cons _
 show List.pairwise_lt_range.sublist (key _ List.pairwise_lt_range)
def W5 (O:Own mask hs ow pos):((lD mask ow).map (·.2)).Perm (List.range hs.length):=by
 let nd1:((lD mask ow).map (·.1)).Nodup:=(Nr mask ow).imp λh=>bn h;let W6:((lD mask ow).map (·.2)).Nodup:=by calc ed.mpr ((ed.mp nd1).imp_of_mem λ{a b} ha hb hne e=>hne ?_);let⟨_,h1⟩:=(oE O (j:=a.1) (i:=a.2)).mp ha;let⟨_,h2⟩:=(oE O (j:=b.1) (i:=b.2)).mp hb;rw[h1,h2,e]
 calc(ve W6 sq).mpr λi=>?_;rw[aw,bE];constructor
 .rintro⟨⟨j,i'⟩,hm,rfl⟩;show((oE O).mp hm).1
 .intro hi;show⟨(pos i,i),(oE O).mpr ⟨hi,RA⟩,RA⟩
def acC (hm:mask+1=2^k)(h3:3<=k)(h13:k<=13)(hs:Array Int)(hl:hs.size<=mask)(finger moves)(led plain):∃t order,SetTable.laid mask finger moves led plain hs=some (t,order)/\t.mask=mask/\t.led=led/\t.plain=plain/\order.toList.Perm (List.range hs.size)/\jN t (order.toList.map λi=>hs.toList.getD i 0):=by
 let⟨ow,pos,e,O⟩:=Qj hm hs hl;let hsz:hs.toList.length=hs.size:=bo;let hperm:=W5 O;rw[hsz]at hperm;refine⟨{mask:=mask,place:=((lD mask ow).map (·.1)).toArray,dummies:=#[],finger:=finger,led:=led,moves:=moves,plain:=plain},((lD mask ow).map (·.2)).toArray,?_,RA,RA,RA,by simpa using hperm,?_⟩
 .unfold SetTable.laid;rw[e];rfl
 .let bW:(lD mask ow).length=hs.size:=by have:=hperm.length_eq;rwa [ab,dP]at this
  refine⟨by simpa using Nr mask ow,w8,RA,⟨k,h3,h13,hm⟩,λj hj=>?_,by simpa [bW] using hl,λi j h e1 e2=>?_⟩
  .let hj:j∈(lD mask ow).map (·.1):=by simpa using hj
   obtain⟨⟨j',i⟩,hm',rfl⟩:=aw.mp hj;let⟨a1,a2⟩:=(oE O).mp hm';show j'<=mask;rw[a2];show O.le i a1
  .let e2:((lD mask ow).map (·.1))[i]?=some j:=by simpa using e2
   let e1:(((lD mask ow).map (·.2)).map λi=>hs.toList.getD i 0)[i]?=some h:=by simpa using e1
   rw[a_]at e2;rw[a_,a_]at e1;cases hx:(lD mask ow)[i]? with
   | none=>rw[hx]at e2;cases e2
   | some x=>
    rw[hx]at e1 e2;let e2:x.1=j:=bb e2;let e1:hs.toList.getD x.2 0=h:=bb e1;let⟨a1,a2⟩:=(oE O (j:=x.1) (i:=x.2)).mp (aS hx);let⟨s,w1,w2⟩:=O.way x.2 h (by rw[<-e1,ai,ae a1];rfl);refine Way.mono (t:=tM mask) (pl:=(lD mask ow).map (·.1)) ⟨s,w1.trans (a2.symm.trans e2),λs' hs'=>?_⟩ RA λx hx=>by simpa using hx
    let⟨i',b1,b2⟩:=w2 s' hs';rw[b2];show aw.mpr ⟨_,(oE O).mpr ⟨b1,RA⟩,RA⟩
section
variable {P:Program}{w:World}{κ:Type}[DecidableEq κ]
def wX (vk:fY P w κ):Prop:=∀{h h':Heap} {k:κ} {v:Value} {d:Addr} {o:Obj},vk.is h k v->h.get? d=some o->(∀its n,o.data≠.seq its n)->Heap.SameBut d h h'->vk.is h' k v
def Nt (vk:fY P w κ):Prop:=∀{A:Around} {E:AB} {s:Shared} {k:κ} {v:Value} {Q:Bool->Shared->Prop},vk.is s.heap k v->Q false s->wpAny (model P w) A (hashByValue 8 v) Q E s
variable {vk:fY P w κ}{A:Around}{E:AB}{s:Shared}
def jN.acD (I:jN t hs):t.mask<=8191:=by let⟨k,_,h,e⟩:=I.two;have:2^k<=2^13:=Nat.pow_le_pow_right w_ h;lia
def W7 (jq:vk.deep<=8)(nc:jZ vk)(hu:A.units+vk.deep<cLine+1)(ho:s.heap.get? a=some o)(hd:o.data=.set es ep t)(I:jN t (es.toList.map (·.1)))(K:Gi vk s.heap es ks)(hx:vk.is s.heap k x)(h1:k∈ks->Q (.there none) s)(h2:k∉ks->∀j,j<=t.mask->j∉t.place.toList->Way t t.place.toList (vk.hash k) j->Q (.free j false) s):wpAny (model P w) A (setSearch a x (vk.hash k) true) Q E s:=by let⟨e0,hel,he⟩:=I.hole (vk.hash k);have:=I.acD;show Df jq nc hu ho hd I K hx h1 h2 he hel 100000 0 none wT RA λr' h=>absurd h (ke _)
def Gi.put (K:Gi vk h es ks)(kp:∀k v,vk.is h k v->vk.is h' k v)(hx:vk.is h k (.ref b))(hn:k∉ks)(hp:p<=es.toList.length):Gi vk h' (SetTable.insertAt es p (vk.hash k,.ref b)) (ks.take p++k::ks.drop p):=by
 let hl:=K.len;refine⟨?_,λi e k' h1 h2=>?_,?_⟩
 .rw[kJ];simp only[av,be,bt,cy];simp_all
 .rw[kJ]at h1;rcases lQ hp h1 with⟨a1,b1⟩|⟨a1,b1⟩|⟨a1,b1⟩
  .rcases lQ (by simp_all) h2 with⟨c1,d1⟩|⟨c1,d1⟩|⟨c1,d1⟩
   .let⟨y1,y2,y3⟩:=K.at_ i e k' b1 d1;show⟨kp _ _ y1,y2,y3⟩
   .lia
   .lia
  .rcases lQ wT h2 with⟨c1,d1⟩|⟨c1,d1⟩|⟨c1,d1⟩;.lia
   .subst b1 d1;show⟨kp _ _ hx,RA,b,RA⟩
   .lia
  .rcases lQ wT h2 with⟨c1,d1⟩|⟨c1,d1⟩|⟨c1,d1⟩;.lia
   .lia
   .let⟨y1,y2,y3⟩:=K.at_ (i-1) e k' b1 d1;show⟨kp _ _ y1,y2,y3⟩
 .have:(ks.take p++k::ks.drop p).Perm (k::ks):=by
   calc List.perm_middle.trans (.cons _ ?_);rw[cS]
  show this.nodup_iff.mpr (gp.mpr ⟨hn,K.nd⟩)
def aac (es:Array (Int×Value))(p:Nat)(h:Int)(x:Value):(SetTable.insertAt es p (h,x)).toList.map (·.1)=(es.toList.map (·.1)).take p++h::(es.toList.map (·.1)).drop p:=by rw[kJ,bz,b6,List.map_take,List.map_drop]
def jN.flag {t t':SetTable}(I:jN t hs)(h1:t'.mask=t.mask)(h2:t'.place=t.place)(h3:t'.dummies=t.dummies):jN t' hs:=by calc⟨by rw[h2];show I.zy,by rw[h2];show I.len,by rw[h3];show I.Np,by rw[h1];show I.two,by rw[h1,h2];show I.le,by rw[h1];show I.few,λi j h e1 e2=>?_⟩;rw[h2]at e2 ⊢;show(I.way i j h e1 e2).mono h1.symm λx hx=>hx
def Six (m:Nat):Prop:=m=7\/m=31\/m=127\/m=511\/m=2047\/m=8191
def acE (h:Six m):∃k,3<=k/\k<=13/\m+1=2^k:=by
 rcases h with rfl|rfl|rfl|rfl|rfl|rfl;.show⟨3,w_,w_,RA⟩
 .show⟨5,w_,w_,RA⟩
 .show⟨7,w_,w_,RA⟩
 .show⟨9,w_,w_,RA⟩
 .show⟨11,w_,w_,RA⟩
 .show⟨13,w_,w_,RA⟩
def aad (h:Six m)(h1:5*n<3*m)(h2:3*m<=5*(n+1))(hn:n+1<=4000):Six (SetTable.sizeAbove (SetTable.grown (n+1))-1)/\n+1<=SetTable.sizeAbove (SetTable.grown (n+1))-1/\5*(n+1)<3*(SetTable.sizeAbove (SetTable.grown (n+1))-1)/\SetTable.sizeAbove (SetTable.grown (n+1))<=sizeLine:=by
 rcases h with rfl|rfl|rfl|rfl|rfl|rfl
 .obtain rfl:n=4:=by lia
  show⟨.inr (.inl w_),w_,w_,w_⟩
 .obtain rfl:n=18:=by lia
  show⟨.inr (.inr (.inl w_)),w_,w_,w_⟩
 .obtain rfl:n=76:=by lia
  show⟨.inr (.inr (.inr (.inl w_))),w_,w_,w_⟩
 .obtain rfl:n=306:=by lia
  show⟨.inr (.inr (.inr (.inr (.inl w_)))),w_,w_,w_⟩
 .obtain rfl:n=1228:=by lia
  show⟨.inr (.inr (.inr (.inr (.inr w_)))),w_,w_,w_⟩
 .lia
theorem Ai {α:Type}(xs:List α):∀(l:List Nat),(∀i∈l,i<xs.length)->∀m:Nat,(l.filterMap λi=>xs[i]?)[m]?=(l[m]?).bind λi=>xs[i]?
 | [],_,m=>by simp
 | i::l,h,m=>by
  let hi:=h i aE;rw[kC,ae hi];cases m with| zero=>simp[hi]| succ m=>simpa using Ai xs l (λj hj=>h j (ay _ hj)) m
def aae {α:Type}(xs:List α):(List.range xs.length).filterMap (λi=>xs[i]?)=xs:=by
 apply gE;intro m;rw[Ai xs _ λi hi=>bE.mp hi];by_cases h:m<xs.length;.rw[gL h];rfl
 .rw[dL (by simpa using h),dL (mx h)];rfl
theorem Gk {α:Type}(xs:List α):∀(l:List Nat),(∀i∈l,i<xs.length)->(l.filterMap λi=>xs[i]?).length=l.length
 | [],_=>rfl
 | i::l,h=>by rw[kC,ae (h i aE),bt,bt,Gk xs l λj hj=>h j (ay _ hj)]
def Gi.perm (K:Gi vk h es ks)(kp:∀k v,vk.is h k v->vk.is h' k v){order:Array Nat}(hp:order.toList.Perm (List.range es.size)):∃ks',ks'.Perm ks/\Gi vk h' (order.filterMap (es[·]?)) ks'/\(order.filterMap (es[·]?)).size=es.size/\(order.filterMap (es[·]?)).toList.map (·.1)=order.toList.map λi=>(es.toList.map (·.1)).getD i 0:=by
 let hl:=K.len;let hsz:es.toList.length=es.size:=bo;let hlt:∀i∈order.toList,i<es.toList.length:=λi hi=>by rw[hsz];show bE.mp (hp.mem_iff.mp hi)
 let hlk:∀i∈order.toList,i<ks.length:=λi hi=>by rw[hl];show hlt i hi
 let et:(order.filterMap (es[·]?)).toList=order.toList.filterMap λi=>es.toList[i]?:=by rw[Array.toList_filterMap];congr 1;funext i;rw[cn]
 let pk:(order.toList.filterMap λi=>ks[i]?).Perm ks:=by have:=hp.filterMap λi=>ks[i]?;rw[<-hsz,<-hl,aae]at this;show this
 let hol:order.toList.length=es.size:=by rw[hp.length_eq,dP]
 calc⟨order.toList.filterMap λi=>ks[i]?,pk,⟨?_,λi e k e1 e2=>?_,pk.nodup_iff.mpr K.nd⟩,?_,?_⟩;.rw[et,Gk _ _ hlt,Gk _ _ hlk]
 .rw[et,Ai _ _ hlt]at e1;rw[Ai _ _ hlk]at e2;cases hi:order.toList[i]? with
  | none=>rw[hi]at e1;cases e1
  | some m=>rw[hi]at e1 e2;let⟨y1,y2,y3⟩:=K.at_ m e k e1 e2;show⟨kp _ _ y1,y2,y3⟩
 .rw[<-bo,et,Gk _ _ hlt,hol]
 .rw[et];apply gE;intro i;rw[a_,Ai _ _ hlt,a_];cases hi:order.toList[i]? with| none=>rfl| some m=>have hm:=hlt m (aS hi);show ((es.toList[m]?).map (·.1))=some ((es.toList.map (·.1)).getD m 0);rw[ai,a_,ae hm];rfl
end
section
variable {P:Program}{w:World}{κ:Type}[DecidableEq κ]{vk:fY P w κ}{A:Around}{E:AB}{s:Shared}
def rJ (vk:fY P w κ)(h:Heap)(a:Addr)(ks:List κ):Prop:=∃es ep t,SetT w h a es ep t/\jN t (es.toList.map (·.1))/\Gi vk h es ks/\Six t.mask/\5*es.size<3*t.mask
def aaf (I:jN t hs):t.tooFull=decide (3*t.mask<=5*hs.length):=by let h1:=I.len;rw[bo]at h1;unfold SetTable.tooFull SetTable.fill;rw[I.Np,h1];simp[gf]
def aag (jq:vk.deep<=8)(nc:jZ vk)(kps:wX vk)(hbv:Nt vk)(hu:A.units+vk.deep<cLine+1)(m:rJ vk s.heap a ks)(hx:vk.is s.heap k (.ref b))(hz:ks.length+1<=4000)(q1:k∈ks->Q false s)(q2:k∉ks->∀h' ks',Heap.SameBut a s.heap h'->rJ vk h' a ks'->ks'.Perm (k::ks)->Q true {s with heap:=h' }):wpAny (model P w) A (setAddHashed a (.ref b) (vk.hash k)) Q E s:=by
 obtain⟨es,ep,t,⟨o,ho,hex,hd,hf,hb,hpl⟩,I,K,S6,H5⟩:=m;let hsz:es.toList.length=es.size:=bo;let kl:=K.len;let hds:∀its n,o.data≠.seq its n:=λits n z=>by rw[hd]at z;cases z
 unfold setAddHashed setAddHashedIn;calc fe (aa (fI ho hd hf ?_));dsimp only;let hbs:byScan (.ref b) es=false:=by unfold byScan Value.scannable;rfl
 rw[hbs];simp only[a7,if_false];calc aa (W7 jq nc hu ho hd I K hx (λhk=>ag (q1 hk)) λhk j hj hn hw=>?_);dsimp only;calc aa (fI ho hd hf ?_);dsimp only;let B:=DY I.zy j;let bW:=I.len;rw[ab]at bW;let few:=I.few;rw[ab]at few;let hp:SetTable.below t.place j<=es.toList.length:=by have:=B.le;simp_all
 let mle:7<=t.mask:=by rcases S6 with e|e|e|e|e|e <;> simp_all
 let I1:=I.put hj hn hw (by rw[ab,hsz];lia);let hn1:es.size+1<=4000:=wT;let Nu:(SetTable.insertAt es (SetTable.below t.place j) (vk.hash k,Value.ref b)).size=es.size+1:=by rw[<-bo,kJ];simp only[av,be,bt,cy];grind
 let tail:∀t2:SetTable,t2.mask=t.mask->t2.place=(t.put j).1.place->t2.dummies=(t.put j).1.dummies->t2.led=t.led->t2.plain=false->
   wpAny (model P w) A (storeSet a (SetTable.insertAt es (SetTable.below t.place j) (vk.hash k,Value.ref b)) t2 >>= λ_=>if (!false&&t2.tooFull)=true then (setRelay a (SetTable.grown (es.size+1)) >>= λ_=>pure true) else pure true) Q E s:=by
  intro t2 c1 c2 c3 c4 c5;let I2:jN t2 ((SetTable.insertAt es (SetTable.below t.place j) (vk.hash k,Value.ref b)).toList.map (·.1)):=by rw[aac];show I1.flag c1 c2 c3
  calc aa (FT (w:=w) ⟨o,ho,hex,hd,hf,hb,hpl⟩ I2.fits c4 c5 (by rw[Nu];show es.size+1<4096;lia) λh1 sb1 m1=>?_);let Nv:∀k v,vk.is s.heap k v->vk.is h1 k v:=λk v z=>kps z ho hds sb1;let K2:=K.put Nv hx hk hp;let pm:(ks.take (SetTable.below t.place j)++k::ks.drop (SetTable.below t.place j)).Perm (k::ks):=by calc List.perm_middle.trans (.cons _ ?_);rw[cS]
  let abt:=aaf I2;rw[ab,bo,Nu,c1]at abt;rw[abt];by_cases full:3*t.mask<=5*(es.size+1)
  .rw[ar full];simp only[ic,Bool.and_self,if_true];let⟨g1,g2,g3,g4⟩:=aad S6 H5 full hn1;let⟨o1,ho1,ag7,hd1,hf1,hb1,ag8⟩:=m1;let⟨kk,k3,k13,ek⟩:=acE g1;let hz1:((SetTable.insertAt es (SetTable.below t.place j) (vk.hash k,Value.ref b)).map (·.1)).size=es.size+1:=by rw[Array.size_map,Nu]
   let⟨t3,order,el,f1,f2,f3,fp,I3⟩:=acC ek k3 k13 ((SetTable.insertAt es (SetTable.below t.place j) (vk.hash k,Value.ref b)).map (·.1)) (by rw[hz1];show g2) t2.finger (t2.movedTo (SetTable.sizeAbove (SetTable.grown (es.size+1))-1)) t2.led t2.plain;let erl:t2.relaid ((SetTable.insertAt es (SetTable.below t.place j) (vk.hash k,Value.ref b)).map (·.1)) (SetTable.grown (es.size+1))=some (t3,order):=el;calc aa ?_;unfold setRelay;calc aa (fI (s:={s with heap:=h1}) ho1 hd1 hf1 ?_);dsimp only;rw[if_neg (Nat.not_lt.mpr g4),erl];rw[hz1,<-Nu]at fp;let⟨_,_,_,sz3,hh3⟩:=K2.perm (λk v z=>z) fp;rw[sr,<-hh3]at I3;calc aa ?_;show wpAny _ _ (if ((order.filterMap λi=>(SetTable.insertAt es (SetTable.below t.place j) (vk.hash k,Value.ref b))[i]?).size != (SetTable.insertAt es (SetTable.below t.place j) (vk.hash k,Value.ref b)).size)=true then _ else _) _ _ _;rw[sz3];simp only[bne_self_eq_false,a7,if_false];calc ag ?_;dsimp only;calc FT (w:=w) (s:={s with heap:=h1}) ⟨o1,ho1,ag7,hd1,hf1,hb1,ag8⟩ I3.fits f2 (f3.trans c5) (by rw[sz3,Nu];show es.size+1<4096;lia) λh2 sb2 m2=>?_;let ag9:∀its n,o1.data≠.seq its n:=λits n z=>by rw[hd1]at z;cases z
   let⟨ks',pk,K3,_,_⟩:=K2.perm (h':=h2) (λk v z=>kps z ho1 ag9 sb2) fp;show ag (q2 hk h2 ks' (sb1.trans sb2) (JE _ _ t3 ⟨m2,I3,K3,by rw[f1];show g1,by rw[sz3,Nu,f1];show g3⟩) (pk.trans pm))
  .rw[am full];simp only[ic,lT,a7,if_false];show ag (q2 hk h1 _ sb1 (JE _ _ t2 ⟨m1,I2,K2,by rw[c1];show S6,by rw[Nu,c1];show sn full⟩) pm)
 let aha:(t.put j).snd=SetTable.below t.place j:=rfl;rw[aha];cases hpt:(t.put j).1.plain with
 | true=>simp only[if_true];calc aa (hbv hx ?_);simp only[a7,if_false];show tail _ RA RA RA RA rfl
 | false=>
  simp only[a7,if_false]
  first| show tail _ RA RA RA RA hpt| show aa (ag (tail _ RA RA RA RA hpt))
end
section
variable {P:Program}{w:World}{κ κ1 κ2:Type}[DecidableEq κ][DecidableEq κ1][DecidableEq κ2]
def acF {s:Shared}(ho:s.heap.get? a=some o)(hc:o.cls=.type "tuple")(hd:o.data=.seq its n)(hI:∀v∈its.toList,∀(Q':Bool->Shared->Prop) (E':AB),Q' false s->wpAny (model P w) A (ofAClassStatement d v) Q' E' s)(q:Q false s):wpAny (model P w) A (ofAClassStatement (d+1) (.ref a)) Q E s:=by
 let hT:s.TypeIs (.ref a) "tuple":=⟨o,ho,hc⟩
 unfold ofAClassStatement;calc aa (sQ hT ?_);simp only[beq_self_eq_true,if_true];calc aa (ag ?_);simp only[dE,a7,if_false];calc aa (eI ho hd (aa ?_));show wpAny _ _ (forIn its _ _) _ _ s;rw[<-qr];refine mB _ (λrest r s1=>r.1=none/\s1=s/\∀v∈rest,v∈its.toList) _ ?_ ?_ _ _ ⟨RA,RA,λv hv=>hv⟩
 .intro v rest r s1 z;let⟨hr,rfl,hall⟩:=z;calc aa (hI v (hall v aE) _ _ ?_);simp only[a7,if_false];show ag ⟨RA,RA,λx hx=>hall x (ay _ hx)⟩
 .rintro⟨r1,r2⟩ s1 ⟨hr,rfl,_⟩;let hr:r1=none:=hr;subst hr;show ag q
def acG:jZ (vo (dz P w)):=by
 intro A E s k v Q n _ h q;rcases dH (show jE k v=true from h) with⟨i,t,rfl,rfl⟩|⟨x,t,rfl,rfl⟩
 .cases n <;> show ag q
 .cases n <;> show ag q
def W8 {vk:fY P w κ}(nc:jZ vk):jZ (tupK vk):=by
 intro A E s k v Q n hn z q;let⟨a,o1,n1,its,rfl,h1,hc,h2,h3⟩:=z;let hn:vk.deep+1<=n:=hn;obtain⟨m,rfl⟩:∃m,n=m+1:=⟨n-1,wT⟩
 calc acF h1 hc h2 (λv hv Q' E' q'=>?_) q;let⟨k',hk'⟩:=h3.mem hv;show nc m (dS hn) hk' q'
def W9 {h h':Heap}(h1:h.get? a=some o1)(h2:o1.data=.seq its n)(ho:h.get? d=some o)(hd:∀its n,o.data≠.seq its n)(hs:Heap.SameBut d h h'):h'.get? a=some o1:=by
 let hne:a≠d:=by rintro rfl;rw[h1]at ho;cases ho;show hd _ _ h2
 show(hs.2 a hne).trans h1
def acH:wX (vo (dz P w)):=λh _ _ _=>h
theorem Nx {vk:fY P w κ}(n1:wX vk){h h':Heap}{d:Addr}{o:Obj}(ho:h.get? d=some o)(hd:∀its n,o.data≠.seq its n)(hs:Heap.SameBut d h h'):∀{x:List κ} {vs:List Value},jT vk h x vs->jT vk h' x vs
 | [],[],_=>trivial
 | [],_::_,a=>a.elim
 | _::_,[],a=>a.elim
 | _::_,_::_,a=>⟨n1 a.1 ho hd hs,Nx n1 ho hd hs a.2⟩
def W_ {vk:fY P w κ}(n1:wX vk):wX (tupK vk):=by intro h h' k v d o z ho hd hs;let⟨a,o1,n,its,rfl,h1,hc,h2,h3⟩:=z;show JI a o1 n its ⟨RA,W9 h1 h2 ho hd hs,hc,h2,Nx n1 ho hd hs h3⟩
noncomputable def Ut (vk:fY P w κ)(p:κ->Prop):fY P w κ where
 is:=λh k v=>vk.is h k v/\p k
 hash:=vk.hash
 draws:=vk.draws
 deep:=vk.deep
 inj:=λh1 h2=>vk.inj h1.1 h2.1
 keeps:=λh ho hd hs=>⟨vk.keeps h.1 ho hd hs,h.2⟩
 pyHash:=λhu h q=>vk.pyHash hu h.1 q
 eqBool:=λhu h1 h2 q=>vk.eqBool hu h1.1 h2.1 q
 quiet:=λn hn h q=>vk.quiet n hn h.1 q
def ae8 {vk:fY P w κ}{p:κ->Prop}(nc:jZ vk):jZ (Ut vk p):=λn hn h q=>nc n hn h.1 q
def ae9 {vk:fY P w κ}{p:κ->Prop}(n1:wX vk):wX (Ut vk p):=λh ho hd hs=>⟨n1 h.1 ho hd hs,h.2⟩
end
abbrev Ny:=List (List Key)
def agt (k:Ny):Prop:=k≠[]/\∀t∈k,∃(i j:Int) (x:Str),t=[Sum.inl i,Sum.inl j,Sum.inr x]
def Ia (P:Program)(w:World):fY P w Ny:=Ut (tupK (tupK (vo (dz P w)))) agt
section
variable {P:Program}{w:World}
def ae_:jZ (Ia P w):=ae8 (W8 (W8 acG))
def afa:wX (Ia P w):=ae9 (W_ (W_ acH))
def RD {s:Shared}(ho:s.heap.get? a=some o)(hc:o.cls=.type "tuple")(hd:o.data=.seq its n)(hl:its.toList=pre++v::post)(hpre:∀x∈pre,∀(Q':Bool->Shared->Prop) (E':AB),Q' true s->wpAny (model P w) A (hashByValue d x) Q' E' s)(hv:∀(Q':Bool->Shared->Prop) (E':AB),Q' false s->wpAny (model P w) A (hashByValue d v) Q' E' s)(q:Q false s):wpAny (model P w) A (hashByValue (d+1) (.ref a)) Q E s:=by
 let hT:s.TypeIs (.ref a) "tuple":=⟨o,ho,hc⟩
 unfold hashByValue;calc aa (nS hT oy.lookup ?_);dsimp only;calc aa (eI ho hd (aa ?_));show wpAny _ _ (forIn its _ _) _ _ s;rw[<-qr,hl];refine mB _ (λrest r s1=>r.1=none/\s1=s/\∃p2,rest=p2++v::post/\∀x∈p2,x∈pre) _ ?_ ?_ _ _ ⟨RA,RA,pre,RA,λx hx=>hx⟩
 .intro x rest r s1 z;let⟨hr,rfl,p2,e,hp2⟩:=z;cases p2 with
  | nil=>have e:x::rest=v::post:=e;cases e;calc aa (hv _ _ ?_);simp only[ic,if_true];show ag (ag q)
  | cons y p2=>have e:x::rest=y::(p2++v::post):=e;cases e;calc aa (hpre _ (hp2 _ aE) _ _ ?_);simp only[dE,a7,if_false];show ag ⟨RA,RA,p2,RA,λz hz=>hp2 z (ay _ hz)⟩
 .intro r s1 z;let⟨_,rfl,p2,e,_⟩:=z;cases p2 <;> cases e
def acI:Nt (Ia P w):=by
 rintro A E s k v Q ⟨⟨a,o,n,its,rfl,h1,hc,h2,h3⟩,hne,hall⟩ q;cases k with
 | nil=>show absurd RA hne
 | cons t k=>
  let⟨i,j,x,rfl⟩:=hall t aE;cases hi:its.toList with
  | nil=>rw[hi]at h3;show h3.elim
  | cons v vs=>
   rw[hi]at h3;obtain⟨⟨a2,o2,n2,its2,rfl,g1,gc,g2,g3⟩,_⟩:=h3;let g3:jT (vo (dz P w)) s.heap [Sum.inl i,Sum.inl j,Sum.inr x] its2.toList:=g3;obtain⟨u1,u2,u3,e2,y1,y2,y3⟩:∃u1 u2 u3,its2.toList=[u1,u2,u3]/\jE (Sum.inl i) u1=true/\jE (Sum.inl j) u2=true/\jE (Sum.inr x) u3=true:=by
    cases e2:its2.toList with
    | nil=>rw[e2]at g3;show g3.elim
    | cons u1 r1=>
     rw[e2]at g3;cases r1 with
     | nil=>show g3.2.elim
     | cons u2 r2=>
      cases r2 with
      | nil=>show g3.2.2.elim
      | cons u3 r3=>
       cases r3 with| nil=>show(JE u1 u2 u3 ⟨RA,g3.1,g3.2.1,g3.2.2.1⟩)| cons u4 r4=>show g3.2.2.2.elim
   let afb:∀(z:Int) (u:Value),jE (Sum.inl z) u=true->∃t,u=.int z t:=λz u h=>by
    rcases dH h with⟨i',t,e,rfl⟩|⟨x',t,e,rfl⟩;.cases e;show⟨t,RA⟩
    .cases e
   let ahb:∀(z:Str) (u:Value),jE (Sum.inr z) u=true->∃t,u=.str z t:=λz u h=>by
    rcases dH h with⟨i',t,e,rfl⟩|⟨x',t,e,rfl⟩;.cases e
    .cases e;show⟨t,RA⟩
   let⟨t1,rfl⟩:=afb i u1 y1;let⟨t2,rfl⟩:=afb j u2 y2;let⟨t3,rfl⟩:=ahb x u3 y3;calc RD (d:=7) h1 hc h2 (pre:=[]) (v:=.ref a2) (post:=vs) hi (λz hz=>by simp at hz) (λQ' E' q'=>?_) q;calc RD (d:=6) g1 gc g2 (pre:=[.int i t1,.int j t2]) (v:=.str x t3) (post:=[]) e2 (λz hz Q2 E2 q2=>?_) (λQ2 E2 q2=>ag q2) q';let hz:z=.int i t1\/z=.int j t2:=by simpa using hz
   rcases hz with rfl|rfl;.show ag q2
   .show ag q2
end
def gU (h h':Heap):Prop:=∀b o its n,h.get? b=some o->o.data=.seq its n->h'.get? b=some o
section
variable {P:Program}{w:World}{κ:Type}[DecidableEq κ]
def wY (vk:fY P w κ):Prop:=∀{h h':Heap} {k:κ} {v:Value},vk.is h k v->gU h h'->vk.is h' k v
def acJ:wY (vo (dz P w)):=λh _=>h
theorem Nz {vk:fY P w κ}(n1:wY vk){h h':Heap}(hs:gU h h'):∀{x:List κ} {vs:List Value},jT vk h x vs->jT vk h' x vs
 | [],[],_=>trivial
 | [],_::_,a=>a.elim
 | _::_,[],a=>a.elim
 | _::_,_::_,a=>⟨n1 a.1 hs,Nz n1 hs a.2⟩
def Xa {vk:fY P w κ}(n1:wY vk):wY (tupK vk):=by intro h h' k v z hs;let⟨a,o1,n,its,rfl,h1,hc,h2,h3⟩:=z;show JI a o1 n its ⟨RA,hs _ _ _ _ h1 h2,hc,h2,Nz n1 hs h3⟩
def afc {vk:fY P w κ}{p:κ->Prop}(n1:wY vk):wY (Ut vk p):=λh hs=>⟨n1 h.1 hs,h.2⟩
def afd:wY (Ia P w):=afc (Xa (Xa acJ))
def rJ.mv {vk:fY P w κ}(kt:wY vk){h h':Heap}{ks:List κ}(m:rJ vk h a ks)(k:∀o,h.get? a=some o->h'.get? a=some o)(hs:gU h h'):rJ vk h' a ks:=by let⟨es,ep,t,m1,I,K,s6,h5⟩:=m;show JE es ep t ⟨m1.mv k,I,⟨K.len,λi e k h1 h2=>by let⟨y1,y2,y3⟩:=K.at_ i e k h1 h2;show⟨kt y1 hs,y2,y3⟩,K.nd⟩,s6,h5⟩
def Uu (vk:fY P w κ){h:Heap}(e:h.get? a=some {cls:=.type "set",dict:=none,data:=.set #[] 0 (.fresh 0 0 (!w.params.followText "set-order"))}):rJ vk h a []:=by refine JE (#[]) 0 _ ⟨⟨_,e,⟨RA,RA,RA⟩,RA,RA,by cases q:w.params.followText "set-order" <;> simp[SetTable.fresh,q],.inr RA⟩,⟨List.Pairwise.nil,RA,RA,⟨3,w_,w_,RA⟩,λj hj=>by simp[SetTable.fresh]at hj,cw _,λi j h e1=>by simp at e1⟩,⟨RA,λi e k h1=>by simp at h1,oC⟩,.inl RA,(by decide:5*0<3*7)⟩
end
section
variable {prog:Program}{w:World}{κ:Type}[DecidableEq κ]{vk:fY prog w κ}{A:Around}{I:Addr}{fp wr:List Addr}{n:Nat}{P:Nat->Value->Prop}{St:Nat->Heap->Prop}{R:Result->Shared->Prop}
def Xb (jq:vk.deep<=8)(nc:jZ vk)(kt:wY vk)(kps:wX vk)(hbv:Nt vk)(hu:A.in1.units+vk.deep<cLine+1)(W:Walks prog w A.in1 I fp wr n P St)(S0)(hSf:S0∉fp)(val:Nat->κ)(h0)(hval:∀i v,P i v->∃b,v=.ref b/\vk.is h0 (val i) v)(hwr:∀(i:Nat) (h:Heap) b o its m,St i h->b∈wr->h.get? b=some o->o.data≠.seq its m)(hb:n<=3999):∀(k i:Nat) (s:Shared),n-i=k->i<=n->St i s.heap->gU h0 s.heap->(∃ks,ks.length<=i/\(∀x,x∈ks↔x∈(List.range i).map val)/\rJ vk s.heap S0 ks)->
   (∀h' tk ks,(∀b o,b∉S0::wr->s.heap.get? b=some o->h'.get? b=some o)->ks.length<=n->(∀x,x∈ks↔x∈(List.range n).map val)->rJ vk h' S0 ks->R (.ok (.ret .none)) {s with heap:=h',toks:=tk})->
   codeAny (model prog w) A (.builtin "set.update.loop" ⟨[.ref S0,.ref I],[]⟩) R s:=by
 let hSw:S0∉wr:=λh=>hSf (W.sub _ h);let sub:∀b,b∉S0::wr->b∉wr:=λb hb h=>hb (ay _ h);intro k
 induction k with
 | zero=>
  intro i s hk hi hst hrs hS hR;let dN:i=n:=by grind
  subst dN;calc iq F.entry_set_update_loop ?_;rw[lL nt _];show wpAny _ A.in1 (pyNext (.ref I) >>= _) _ _ s;calc aa (W.done s _ _ hst λh' tk hm=>?_);show wpAny _ A.in1 (ret Value.none) _ _ _;let⟨ks,l1,l2,l3⟩:=hS;let hst2:gU s.heap h':=λb o its m e1 e2=>by
   by_cases z:b∈wr;.show absurd e2 (hwr _ s.heap b o its m hst z e1)
   .show hm b o z e1
  show ag (hR h' tk ks (λb o hb e=>hm b o (sub b hb) e) l1 l2 (l3.mv kt (λo e=>hm S0 o hSw e) hst2))
 | succ k ih=>
  intro i s hk hi hst hrs hS hR;let hlt:i<n:=Nat.lt_of_sub_eq_succ hk;calc iq F.entry_set_update_loop ?_;rw[lL nt _];show wpAny _ A.in1 (pyNext (.ref I) >>= _) _ _ s;calc aa (W.item i s _ _ hlt hst λv h1 tk hP hst' hm=>?_);let⟨b0,rfl,hv0⟩:=hval i v hP;let⟨ks,l1,l2,l3⟩:=hS;let st1:gU s.heap h1:=λb o its m e1 e2=>by
   by_cases z:b∈wr;.show absurd e2 (hwr _ s.heap b o its m hst z e1)
   .show hm b o z e1
  let rs1:gU h0 h1:=λb o its m e1 e2=>st1 b o its m (hrs b o its m e1 e2) e2;let m1:=l3.mv kt (λo e=>hm S0 o hSw e) st1;let hv1:=kt hv0 rs1;show wpAny _ A.in1 (holding [Value.ref b0] (setAdd S0 (.ref b0)) >>= _) _ _ _;calc aa (fe ?_);unfold setAdd;calc fe ?_;calc aa (vk.pyHash (s:={s with heap:=h1,toks:=tk}) hu hv1 ?_);refine aag (s:={s with heap:=h1,toks:=tk+vk.draws (val i)}) jq nc kps hbv hu m1 hv1 wT (λdN=>?_) λhni h2 ks2 sb m2 pm=>?_
  .refine ag ⟨plainId_quiet nt _,ih (i+1) _ (fh wT) hlt hst' rs1 ⟨ks,ik l1,λx=>?_,m1⟩ λh3 tk3 ks3 hm3 l4 l5 m3=>?_⟩
   .rw[fk,bz,bd,<-l2];show⟨.inl,λz=>z.elim id λy=>by rw[show x=val i by simpa using y];show dN⟩
   .show hR h3 tk3 ks3 (λb o hb e=>hm3 b o hb (hm b o (sub b hb) e)) l4 l5 m3
  .let st2:gU h1 h2:=λb o its m e1 e2=>by
    by_cases z:b=S0
    .obtain⟨_,_,_,⟨o2,y1,_,y2,_⟩,_⟩:=m1;rw[z,y1]at e1;cases e1;rw[y2]at e2;cases e2
    .rw[sb.2 b z];show e1
   let rs2:gU h0 h2:=λb o its m e1 e2=>st2 b o its m (rs1 b o its m e1 e2) e2;refine ag ⟨plainId_quiet nt _,ih (i+1) _ wT hlt (W.frame _ h1 _ hst' λb hb o e=>?_) rs2 ⟨ks2,by rw[pm.length_eq,bt];show g9 l1,λx=>?_,m2⟩ λh3 tk3 ks3 hm3 l4 l5 m3=>?_⟩
   .show h2.get? b=some o;rw[sb.2 b (λh:b=S0=>hSf (by rw[<-h];show hb))];show e
   .rw[pm.mem_iff,ba,l2,fk,bz,bd,b6,mh,ap];show Or.comm
   .calc hR h3 tk3 ks3 (λb o hb e=>hm3 b o hb ?_) l4 l5 m3;show h2.get? b=some o;rw[sb.2 b (λh:b=S0=>hb (by rw[h];show aE))];show hm b o (sub b hb) e
end
section
variable {prog:Program}{w:World}{κ:Type}[DecidableEq κ]{vk:fY prog w κ}{A:Around}{E:AB}{s:Shared}
def Xc (jq:vk.deep<=8)(nc:jZ vk)(kt:wY vk)(kps:wX vk)(hbv:Nt vk)(hu:A.units+8+vk.deep<cLine)(hh:A.handled=none)(hl:s.heap.IsList l items)(hS:rJ vk s.heap S0 [])(hne:S0≠l)(hlt:S0<s.heap.objs.size)(hval:∀i v,items[i]?=some v->∃b,v=Value.ref b/\vk.is s.heap (val i) v)(hb:items.size<=3999)(q:∀h' tk ks,(∀b o,b≠S0->s.heap.get? b=some o->h'.get? b=some o)->ks.length<=items.size->(∀x,x∈ks↔x∈(List.range items.size).map val)->rJ vk h' S0 ks->Q () {s with heap:=h',toks:=tk}):wpAny (model prog w) A (Builtin.Frozenset.updateFrom "set.__init__" S0 (.ref l)) Q E s:=by
 let⟨ol,hol,hcl,nl,hdl⟩:=id hl;let⟨ocls,odict,odata,oslots⟩:=ol;simp only at hcl hdl;subst hcl;subst hdl;let hsls:=F.sub_list_set;let hslf:=F.sub_list_frozenset;let hnd:(Value.type "list" == Value.type "dict")=false:=by decide
 unfold Builtin.Frozenset.updateFrom;generalize hPI:pyIter=PI
 wp_walk
 subst hPI;calc kr hl ?_;calc aa (wpAny_runValue ?_);let hlS:l<s.heap.objs.size:=a6 hol;let hneI:l≠s.heap.objs.size:=bn hlS;let Gj:∀ob:Obj,gU s.heap (s.heap.push ob):=λob b o its m e _=>af _ e;refine Xb jq nc kt kps hbv ?_ (Walks.list (by simp[hh]) _ l hneI items) S0 (by simp only[ba,e_,or_false,not_or];show⟨bn hlt,hne⟩) val s.heap hval ?_ hb (items.size-0) 0 _ RA (cw _)
  ⟨⟨_,ax _ RA,RA,RA⟩,hl.push _⟩ (Gj _) ⟨[],cw _,λx=>by simp,hS.mv kt (λo e=>af _ e) (Gj _)⟩ λh' tk ks k l1 l2 m=>?_
 .show A.units+1+vk.deep<cLine+1;lia
 .rintro i h b o its m ⟨⟨o2,y1,_,y2⟩,_⟩ hbm e z;rw[ap.mp hbm,y1]at e;cases e;rw[y2]at z;cases z
 .calc ag ?_;calc q h' tk ks (λb o hb e=>k b o ?_ (af _ e)) l1 l2 m;simp only[ba,e_,or_false,not_or];show⟨hb,bn (a6 e)⟩
end
section
variable {prog:Program}{w:World}{A:Around}{E:AB}{s:Shared}
def Xd {Φ:Heap->Prop}{Q:AB}(hh:A.handled=none)(hu:∀(A':Around) (E':AB) (Q':Unit->Shared->Prop) (h1:Heap),A'.handled=none->A'.units<=A.units+6->h1.objs.size=s.heap.objs.size+1->h1.get? s.heap.objs.size=some {cls:=.type "set",dict:=none,data:=.set #[] 0 (.fresh 0 0 (!w.params.followText "set-order"))}->(∀b o,s.heap.get? b=some o->h1.get? b=some o)->
   (∀h' tk,(∀b o,s.heap.get? b=some o->h'.get? b=some o)->Φ h'->Q' () {s with heap:=h',toks:=tk})->
   wpAny (model prog w) A' (Builtin.Frozenset.updateFrom "set.__init__" s.heap.objs.size src) Q' E' {s with heap:=h1})
  (h:∀h' tk,(∀b o,s.heap.get? b=some o->h'.get? b=some o)->Φ h'->Q (.ref s.heap.objs.size) {s with heap:=h',toks:=tk}) :
  wpAny (model prog w) A (call (.type "set") [src]) Q E s:=by
 let⟨c,tl,hmro⟩:=mE.mro;let hmade:=mE.made;let hsub:=mE.sub;calc vy (codeAny_of_tree ?_);show wpAny _ _ (callAny (.type "set") _) _ _ _;calc ag ⟨uB _ xc,iq F.entry_type_call ?_⟩;rw[Around.under_plain (weight_type_call_type "set" [src] []) rfl];let h1:=mE.notType;let h2:=mE.canCreate;let hct:=F.typeCall_set_1 src
 repeat (any_goals (first|assumption|wp_step))
 calc i9 (KD src (E:=E) (Q₁:=λobj s₁=>obj=.ref s.heap.objs.size/\s₁={s with heap:=s.heap.push {cls:=.type "set",dict:=none,data:=.set #[] 0 (.fresh 0 0 (!w.params.followText "set-order"))} }) ⟨RA,RA⟩) λr s₁ hr=>?_;cases r with
 | error e=>show hr
 | ok fl=>
  cases fl with
  | ret obj=>
   let⟨rfl,rfl⟩:=hr;let hS:(s.heap.push {cls:=.type "set",dict:=none,data:=.set #[] 0 (.fresh 0 0 (!w.params.followText "set-order"))}).get? s.heap.objs.size=some {cls:=.type "set",dict:=none,data:=.set #[] 0 (.fresh 0 0 (!w.params.followText "set-order"))}:=ax _ rfl;let hT:Shared.TypeIs {s with heap:=s.heap.push {cls:=.type "set",dict:=none,data:=.set #[] 0 (.fresh 0 0 (!w.params.followText "set-order"))} } (.ref s.heap.objs.size) "set":=⟨_,hS,RA⟩
   let hli:=mE.init.lookup;let hbi:=mE.init.bind (.ref s.heap.objs.size)
   repeat (any_goals (first|assumption|wp_step))
   refine i9 (tz (R:=wants (λr s₂=>r=.none/\∃h' tk,s₂={s with heap:=h',toks:=tk}/\(∀b o,s.heap.get? b=some o->h'.get? b=some o)/\Φ h') E) mE.init.plain F.entry_set_init (check_set_init_1 hT ?_)) λr₂ s₂ hr₂=>?_
   .unfold Builtin.«set.__init__» noKeywords;generalize hU:Builtin.Frozenset.updateFrom=U
    wp_walk
    subst hU;calc hu _ _ _ _ (by simp[hh]) (show A.units+1+1<=A.units+6 by lia) (dA ..) hS (λb o e=>af _ e) λh' tk k m=>?_;calc ag ?_;show⟨RA,h',tk,RA,k,m⟩
   .cases r₂ with
    | error e=>show hr₂
    | ok fl₂=>
     cases fl₂ with
     | ret r=>
      let⟨rfl,h',tk,rfl,k,m⟩:=hr₂
      repeat (any_goals (first|assumption|wp_step))
      show h _ _ k m
     | _=>show hr₂.elim
  | _=>show hr.elim
end
section
variable {prog:Program}{w:World}{κ:Type}[DecidableEq κ]{vk:fY prog w κ}{A:Around}{E:AB}{s:Shared}
def Xe (jq:vk.deep<=8)(nc:jZ vk)(kt:wY vk)(kps:wX vk)(hbv:Nt vk)(hu:A.units+14+vk.deep<cLine)(hh:A.handled=none)(hl:s.heap.IsList l items)(hval:∀i v,items[i]?=some v->∃b,v=Value.ref b/\vk.is s.heap (val i) v)(hb:items.size<=3999)(q:∀h' tk ks,(∀b o,s.heap.get? b=some o->h'.get? b=some o)->ks.length<=items.size->(∀x,x∈ks↔x∈(List.range items.size).map val)->rJ vk h' s.heap.objs.size ks->Q (.ref s.heap.objs.size) {s with heap:=h',toks:=tk}):wpAny (model prog w) A (call (.type "set") [.ref l]) Q E s:=by
 let hlt:l<s.heap.objs.size:=by let⟨o,ho,_⟩:=hl;show a6 ho
 calc Xd (Φ:=λh'=>∃ks:List κ,ks.length<=items.size/\(∀x,x∈ks↔x∈(List.range items.size).map val)/\rJ vk h' s.heap.objs.size ks) hh (λA' E' Q' h1 hA' hu' s1 e1 k1 q1=>?_) λh' tk k ⟨ks,l1,l2,m⟩=>q h' tk ks k l1 l2 m;let rs:gU s.heap h1:=λb o its n e _=>k1 b o e;refine Xc (val:=val) (s:={s with heap:=h1}) jq nc kt kps hbv wT hA' (hl.at λo e=>k1 _ o e) (Uu vk e1) (g6 hlt) (by show s.heap.objs.size<h1.objs.size;simp_all) (λi v hv=>?_) hb λh' tk ks k l1 l2 m=>?_
 .let⟨b,e,hi⟩:=hval i v hv;show⟨b,e,kt hi rs⟩
 .show q1 h' tk (λb o e=>k b o (bn (a6 e)) (k1 b o e)) ⟨ks,l1,l2,m⟩
end
@[reducible] def pC (cf:Addr->List Nat) (as:List Addr):PyProof.Rows.KeyKind:={PyProof.Rows.strKind with keyOf:=λv=>match v with|.ref a=>if a∈as then some (cf a) else none|_=>none}
def yu {cf:Addr->List Nat}{as:List Addr}{v:Value}{k:List Nat}(h:(pC cf as).keyOf v=some k):∃a,v=.ref a/\a∈as/\k=cf a:=by
 cases v <;> first|(cases h;done)|skip;rename_i a;by_cases m:a∈as
 .have:(pC cf as).keyOf (.ref a)=some (cf a):=if_pos m;rw[this]at h;show⟨a,RA,m,(bb h).symm⟩
 .have:(pC cf as).keyOf (.ref a)=none:=if_neg m;rw[this]at h;cases h
theorem yw:∀vs:List Value,vs.zip vs=vs.map λv=>(v,v)
 | []=>rfl
 | v::vs=>congrArg ((v,v) :: ·) (yw vs)
def Ib (m:a∈as):(pC cf as).keyOf (.ref a)=some (cf a):=if_pos m
section
variable {prog:Program}{w:World}{A:Around}{E:AB}{s:Shared}
def NK {vs:List Value}(ho:s.heap.get? a=some (seqObj "list" vs.toArray n))(hz:vs.length<=4000)(h0:KeysOf κ (pairsOf vs))(hk:2<=vs.length->∀(h':Heap) (Q:SortKind->Shared->Prop),(∀b o,s.heap.get? b=some o->b≠a->h'.get? b=some o)->Q kn {s with heap:=h' }->wpAny (model prog w) A (keyKind' vs.toArray) Q E {s with heap:=h' })(hc:∀(h':Heap),(∀b o,s.heap.get? b=some o->b≠a->h'.get? b=some o)->jG prog w A {s with heap:=h' } κ kn)(h:∀(h':Heap) (out:List Value),out.Perm vs->out.Pairwise (λx y=>κ.kle ((κ.keyOf x).getD κ.dflt) ((κ.keyOf y).getD κ.dflt))->(∀b o,s.heap.get? b=some o->b≠a->h'.get? b=some o)->(∃e,h'.get? a=some (seqObj "list" out.toArray e))->P (.done (.ret .none)) {s with heap:=h' }):wpAny (model prog w) A (Builtin.«list.sort» ⟨[.ref a],[]⟩) P E s:=by
 rw[list_sort_plain];let ha:a<s.heap.objs.size:=a6 ho;let hvz:vs.length<=sizeLine:=a8 hz w_;calc aa (listItems_at ho RA ?_);calc aa (listUpdate_at ho RA ?_ (by rw[bq];show hvz) (cw _));obtain⟨e1,ho1⟩:∃e1,(s.heap.update a (Obj.mapSeq λ_=>#[])).get? a=some (seqObj "list" #[] e1):=⟨_,get?_update_seq ho (λ_=>#[])⟩
 calc aa (seqEpoch_at ho1 RA ?_);calc aa (uk ?_ (by show vs.length<=_;show hvz));calc aa (uC ?_ (cw _));calc fe ?_;let ho6:(((s.heap.update a (Obj.mapSeq λ_=>#[])).push (seqObj "tuple" vs.toArray 0)).push (seqObj "list" #[] 0)).get? a=some (seqObj "list" #[] e1):=by rw[vx _ _ _ (by rw[size_push',Heap.size_update];show bn (fF ha)),vx _ _ _ (by rw[Heap.size_update];show bn ha)];show ho1
 let Ls:∀b o,s.heap.get? b=some o->b≠a->(((s.heap.update a (Obj.mapSeq λ_=>(#[]:Array Value))).push (seqObj "tuple" vs.toArray 0)).push (seqObj "list" #[] 0)).get? b=some o:=λb o e hb=>by calc af _ (af _ ?_);rw[ui _ _ _ _ hb];show e
 show wpAny (model prog w) A _ P E {s with heap:=((s.heap.update a (Obj.mapSeq λ_=>#[])).push (seqObj "tuple" vs.toArray 0)).push (seqObj "list" #[] 0)};dsimp only;generalize ((s.heap.update a (Obj.mapSeq λ_=>(#[]:Array Value))).push (seqObj "tuple" vs.toArray 0)).push (seqObj "list" #[] 0)=Gm at ho6 Ls ⊢;let fin:∀(out:Array Value),out.toList.Perm vs->out.toList.Pairwise (λx y=>κ.kle ((κ.keyOf x).getD κ.dflt) ((κ.keyOf y).getD κ.dflt))->P (.done (.ret .none)) {s with heap:=Gm.update a (Obj.mapSeq λ_=>out)}:=λout pp sp=>by
  calc h _ out.toList pp sp (λb o e hb=>?_) ?_;.rw[ui _ _ _ _ hb];show Ls b o e hb
  .rw[sT];show⟨_,get?_update_seq ho6 λ_=>out⟩
 by_cases h2:vs.toArray.size<2
 .let hn2:vs.length<2:=by rw[bq]at h2;show h2
  rw[if_pos h2,if_pos h2];calc aa (ag ?_);rw[StateT.run_pure];calc aa (ag ?_);dsimp only;let eo:(arrOf (SortSt.mk' general' (vs.toArray.zip vs.toArray) #[] 7 none)).map (·.2)=vs.toArray:=by let e0:(arrOf (SortSt.mk' general' (vs.toArray.zip vs.toArray) #[] 7 none))=vs.toArray.zip vs.toArray:=rfl;rw[e0];apply mr.mp;rw[sr,wm,yw,eD];show lS _
  calc aa (seqEpoch_at ho6 RA ?_);calc aa (listUpdate_at ho6 RA ?_ (cw _) (by rw[eo,bq];show ik hvz));simp only[bne_self_eq_false,a7,if_false];calc ag (fin _ (by rw[eo]) ?_);rw[eo];show vs.Pairwise _;show(show ∀(R:Value->Value->Prop) (u:List Value),u.length<2->u.Pairwise R from λR u h=>by
   cases u with
   | nil=>show .nil
   | cons v r=>
    cases r with
    | nil=>show List.pairwise_singleton _ _
    | cons w r=>show absurd h (Nat.not_lt.mpr (Nat.le_add_left 2 r.length))) _ vs hn2
 .let hn2:2<=vs.length:=by rw[bq]at h2;show mx h2
  rw[if_neg h2,if_neg h2];calc aa (hk hn2 Gm _ Ls ?_);refine aa (fN (Z6 (κ:=κ) (kn:=kn) (hc Gm Ls) (st:=SortSt.mk' kn (vs.toArray.zip vs.toArray) #[] 7 none)
   (Q:=λ_ st'=>failedOf st'=none/\(arrOf st').toList.Perm (pairsOf vs).toList/\(arrOf st').toList.Pairwise (kL κ)) RA RA RA h0 λst' a1 a2 a3=>⟨a1,a2,a3⟩) ?_ λ_ _ e=>e)
  rintro⟨⟨⟩,st'⟩ s' ⟨rfl,hf,hp,hs⟩;dsimp only;let pv:(pairsOf vs).toList=vs.map λv=>(v,v):=by show (vs.toArray.zip vs.toArray).toList=_;rw[wm];show yw vs
  rw[pv]at hp;let hm:∀p∈(arrOf st').toList,p.1=p.2:=λp hpm=>by let⟨v,_,rfl⟩:=aw.mp (hp.mem_iff.mp hpm);rfl
  let pm:((arrOf st').map (·.2)).toList.Perm vs:=by rw[sr];have:=hp.map (·.2);rw[eD]at this;show this.trans (wv (lS _))
  let sm:((arrOf st').map (·.2)).toList.Pairwise (λx y=>κ.kle ((κ.keyOf x).getD κ.dflt) ((κ.keyOf y).getD κ.dflt)):=by rw[sr,ed];calc mI (λ{p q} hpm hqm hpq=>?_) hs;rw[<-hm p hpm,<-hm q hqm];show hpq
  refine aa (seqEpoch_at ho6 RA (aa (listUpdate_at ho6 RA ?_ (cw _) (ik ?_))))
  .rw[hf];simp only[bne_self_eq_false,a7,if_false];show ag (fin _ pm sm)
  .have:=pm.length_eq;rw[bo]at this;simp[*]
def J8 (Zz:wpAny (model prog w) A.in1 (collect v) (λvs s1=>∃(κ:PyProof.Rows.KeyKind) (kn:SortKind),vs.length<=4000/\KeysOf κ (pairsOf vs)/\
   (2<=vs.length->∀(h':Heap) (Q:SortKind->Shared->Prop) (E:AB),(∀b o,s1.heap.get? b=some o->h'.get? b=some o)->Q kn {s1 with heap:=h' }->wpAny (model prog w) A.in1.in1 (keyKind' vs.toArray) Q E {s1 with heap:=h' })/\
   (∀(h':Heap),(∀b o,s1.heap.get? b=some o->h'.get? b=some o)->jG prog w A.in1.in1 {s1 with heap:=h' } κ kn)/\
   ∀(h':Heap) (out:List Value) (e:Nat),(∀b o,s1.heap.get? b=some o->h'.get? b=some o)->out.Perm vs->out.Pairwise (λx y=>κ.kle ((κ.keyOf x).getD κ.dflt) ((κ.keyOf y).getD κ.dflt))->h'.get? s1.heap.objs.size=some (seqObj "list" out.toArray e)->
    Q (.ref s1.heap.objs.size) {s1 with heap:=h' }) E s):wpAny (model prog w) A (call (.builtin "sorted") [v]) Q E s:=by
 calc Calls.call_function_entry kind_sorted plain_sorted entry_sorted (args_sorted1 _) ?_;unfold Builtin.«sorted»;calc aa (m:=checkCount "sorted" 1 1 _) (ag ?_);calc aa (bM Zz λvs s1 ⟨κ,kn,hz,h0,hk,hc,h⟩=>?_);calc aa (uC ?_ (a8 hz w_));let hoL:(s1.heap.push (seqObj "list" vs.toArray 0)).get? s1.heap.objs.size=some (seqObj "list" vs.toArray 0):=ax _ rfl;let keep:∀b o,s1.heap.get? b=some o->(s1.heap.push (seqObj "list" vs.toArray 0)).get? b=some o:=λb o e=>af _ e;let nb:∀b o,s1.heap.get? b=some o->b≠s1.heap.objs.size:=λb o q=>bn (a6 q);refine aa (fe (cE slot_list_sort (s:={s1 with heap:=s1.heap.push (seqObj "list" vs.toArray 0)}) ⟨_,hoL,RA⟩ entry_list_sort
  (NK (s:={s1 with heap:=s1.heap.push (seqObj "list" vs.toArray 0)}) hoL hz h0 (λh2 h' Q' kp=>hk h2 h' Q' _ λb o e=>kp b o (keep b o e) (nb b o e)) (λh' kp=>hc h' λb o e=>kp b o (keep b o e) (nb b o e)) λh' out pp sp kp he=>⟨_,RA,?_⟩) (args_list_sort _)))
 let⟨e,he⟩:=he;show ag ⟨_,RA,h h' out e (λb o z=>kp b o (keep b o z) (nb b o z)) pp sp he⟩
end
abbrev T3:=Nat×Nat×Nat
def lE (t:T3):Dt:=.tup [.int t.1,.int t.2.1,.str [t.2.2]]
def Aj (t:T3):Nat:=t.1*1000000+t.2.1*1000+t.2.2
def lR (ts:List T3):Dt:=.tup (ts.map lE)
def jl (ts:List T3):List Nat:=ts.map Aj
def rK (t:T3):Prop:=t.2.1<1000/\t.2.2<128
def RG (h:lE t=lE u):t=u:=by unfold lE at h;injection h with h;injection h with h1 h2;injection h2 with h2 h3;injection h3 with h3 _;injection h1 with h1;injection h2 with h2;injection h3 with h3;injection h3 with h3 _;show se (kz h1) (se (kz h2) h3)
def RJ (ht:rK t)(hu:rK u)(h:Aj t=Aj u):t=u:=by let⟨a,b,c⟩:=t;let⟨d,e,f⟩:=u;let⟨h1,h2⟩:=ht;let⟨h3,h4⟩:=hu;simp only[Aj]at h h1 h2 h3 h4;let e1:a=d:=wT;subst e1;let e2:b=e:=wT;subst e2;let e3:c=f:=wT;subst e3;rfl
theorem NP:∀{ts us:List T3},(∀t∈ts,rK t)->(∀u∈us,rK u)->jl ts=jl us->ts=us
 | [],[],_,_,_=>rfl
 | [],_::_,_,_,h=>by cases h
 | _::_,[],_,_,h=>by cases h
 | t::ts,u::us,h1,h2,h=>by injection h with a b;rw[RJ (h1 _ aE) (h2 _ aE) a,NP (λx hx=>h1 x (ay _ hx)) (λx hx=>h2 x (ay _ hx)) b]
section
variable {prog:Program}{w:World}{A:Around}{E:AB}{s:Shared}
def Lw (r:Reads h v (toP (lE t)) as):∃(a:Addr) (o:Obj) (n:Nat) (t1 t2 t3:Tok),v=.ref a/\h.get? a=some o/\o.cls=.type "tuple"/\o.data=.seq [Value.int t.1 t1,Value.int t.2.1 t2,Value.str (S [t.2.2]) t3].toArray n:=by
 unfold lE at r;simp only[toP,d_]at r;cases r with
 | @tuple a o vs n xs as ho hc hd ra=>
  cases ra2:vs.toList with
  | nil=>rw[ra2]at ra;cases ra
  | cons v1 r1=>
   rw[ra2]at ra;cases ra with
   | cons q1 ra=>
    cases q1 with
    | int i t1=>
     cases ra with
     | cons q2 ra=>
      cases q2 with
      | int j t2=>
       cases ra with
       | cons q3 ra=>
        cases q3 with| str x t3=>cases ra;calc JO a o n t1 t2 t3 ⟨RA,ho,hc,?_⟩;rw[hd];congr 1;rw[<-ra2]
def agu (hp:Reads s.heap p (toP (lE t)) as)(hq:Reads s.heap q (toP (lE u)) bs)(ht:rK t)(hu:rK u)(hne:t≠u)(hun:A.units<cLine)(h:Q (.bool (decide (Aj t<Aj u))) s):wpAny (model prog w) A (compareOp .Lt p q) Q E s:=by
 let⟨a,oa,na,t1,t2,t3,rfl,ha,ca,da⟩:=Lw hp;let⟨b,ob,nb,u1,u2,u3,rfl,hb,cb,db⟩:=Lw hq;let⟨x1,y1,z1⟩:=t;let⟨x2,y2,z2⟩:=u;let⟨k1,k2⟩:=ht;let⟨k3,k4⟩:=hu;simp only[Aj]at h k1 k2 k3 k4 da db;let Ta:s.TypeIs (.ref a) "tuple":=⟨oa,ha,ca⟩
 let Tb:s.TypeIs (.ref b) "tuple":=⟨ob,hb,cb⟩
 show wpAny _ _ (richCompare .Lt (.ref a) (.ref b)) Q E s;calc kM (op:=.Lt) (T:="tuple") Ta Tb nV (cE nV Ta F.entry_tuple_lt ?_ (vn _ _)) hun;walk_at"j";rw[show ([Value.int (x1:Int) t1,Value.int (y1:Int) t2,Value.str (S [z1]) t3]:List Value).toArray.toList.zip ([Value.int (x2:Int) u1,Value.int (y2:Int) u2,Value.str (S [z2]) u3]:List Value).toArray.toList=[(Value.int (x1:Int) t1,Value.int (x2:Int) u1),(Value.int (y1:Int) t2,Value.int (y2:Int) u2),(Value.str (S [z1]) t3,Value.str (S [z2]) u3)] from rfl];let fin:∀c:Bool,c=decide (x1*1000000+y1*1000+z1<x2*1000000+y2*1000+z2)->Q (.bool c) s:=λc e=>by rw[e];show h
 walk_at"m";by_cases ex:x1=x2
 .subst ex;simp only[beq_self_eq_true,dE,a7,if_false];calc ag ?_;dsimp only;walk_at"m";by_cases ey:y1=y2
  .subst ey;simp only[beq_self_eq_true,dE,a7,if_false];calc ag ?_;dsimp only;rw[fc];calc aa ?_;dsimp only;let ez:z1≠z2:=λe=>hne (by rw[e]);calc aa ((eqGives_str (S [z1]) (S [z2]) t3 u3).at _ _ prog w _ _ ?_);let en:(S [z1]==S [z2])=false:=by
    apply beq_eq_false_iff_ne.mpr;intro e;show ez (by have:=Bw e;injection this)
   simp only[en,ic,if_true];calc aa (fo (aa (lt_str ?_)));calc aa (ag (ag (ag (ag ⟨_,RA,w8,?_⟩))));calc fin _ ?_;have:(S [z1]).cps.toList<(S [z2]).cps.toList↔z1<z2:=by show [z1]<[z2]↔_;simp[fE]
   by_cases z:z1<z2;.rw[ar (this.mpr z),ar (tS z _)]
   .rw[am (λy=>z (this.mp y)),am (by simp[*])]
  .let en:((y1:Int)==(y2:Int))=false:=by
    apply beq_eq_false_iff_ne.mpr;intro z;show ey wT
   simp only[en,ic,if_true];calc aa (fo (aa (lt_int ?_)));calc aa (ag (ag (ag (ag ⟨_,RA,w8,?_⟩))));calc fin _ ?_;by_cases z:y1<y2;.rw[ar (oB gx z),ar wT]
   .rw[am (by simp[*]),am wT]
 .let en:((x1:Int)==(x2:Int))=false:=by
   apply beq_eq_false_iff_ne.mpr;intro z;show ex wT
  simp only[en,ic,if_true];calc aa (fo (aa (lt_int ?_)));calc aa (ag (ag (ag (ag ⟨_,RA,w8,?_⟩))));calc fin _ ?_;by_cases z:x1<x2;.rw[ar wT,ar wT]
  .rw[am wT,am wT]
def Xf (t:T3)(h:rK t):(toP (lE t)).canLay0=true/\(toP (lE t)).depth<=1:=by
 let h1:gH (default:W.Frag) (λ_=>none) 0 (.str [t.2.2]) (.str (S [t.2.2])):=.str _ λc hc=>by rw[ap.mp hc];show h.2
 let h2:=h1.lay;constructor
 .unfold lE;simp only[toP,d_,PyData.canLay0,PyData.canLayAll0];have:=h2.1;simp only[toP]at this;simp[PyData.canLay0]at this ⊢;show this
 .unfold lE;simp[toP,d_,PyData.depth,PyData.depthAll]
theorem RK (hu:A.units+2<cLine):∀(xs ys:List Value) (ts us:List T3) (i:Nat) {as bs:List Addr},ReadsAll s.heap xs (d_ (ts.map lE)) as->ReadsAll s.heap ys (d_ (us.map lE)) bs->(∀t∈ts,rK t)->(∀u∈us,rK u)->fin=decide (xs.length<ys.length)->Q (decide (jl ts<jl us)) s->KatLex prog w A false fin Q (xs.zip ys) i s
 | xs,ys,[],us,i,as,bs,rx,ry,_,_,hf,q=>by
  simp only[mh,d_]at rx;cases rx;calc kat_nil ?_;rw[hf];cases us with
  | nil=>simp only[mh,d_]at ry;cases ry;simpa [jl] using q
  | cons u us=>simp only[b6,d_]at ry;cases ry;simpa [jl] using q
 | xs,ys,t::ts,[],i,as,bs,rx,ry,_,_,hf,q=>by simp only[mh,d_]at ry;cases ry;rw[List.zip_nil_right];calc kat_nil ?_;rw[hf];simpa [jl] using q
 | xs,ys,t::ts,u::us,i,as,bs,rx,ry,h1,h2,hf,q=>by
  simp only[b6,d_]at rx ry;cases rx with
  | @cons v vs _ _ _ _ r1 r2=>
   cases ry with
   | @cons v' vs' _ _ _ _ r3 r4=>
    let ot:=h1 t aE;let ou:=h2 u aE;let l1:=Xf t ot;let l2:=Xf u ou;rw[List.zip_cons_cons];calc kat_cons (SeqAt.eqAt_reads _ _ A s _ _ _ _ r1 r3 l1.1 l2.1 (by have:=qf (toP (lE t)).depth (toP (lE u)).depth;show aT hu) prog w _ _ ?_);by_cases e:t=u
    .subst e;rw[(FJ _ _).mpr rfl];calc kat_yes (RK hu vs vs' ts us (i+1) r2 r4 (λx hx=>h1 x (ay _ hx)) (λx hx=>h2 x (ay _ hx)) (by rw[hf];simp) ?_);have:decide (jl ts<jl us)=decide (jl (t::ts)<jl (t::us)):=sv.mpr (by simp[jl,fE]);rw[this];show q
    .let en:PyData.eqv (toP (lE t)) (toP (lE u))=false:=by
      cases z:PyData.eqv (toP (lE t)) (toP (lE u)) with| false=>rfl| true=>show absurd (RG ((FJ _ _).mp z)) e
     rw[en];calc kat_no (kat_one _ _ (agu r1 r3 ot ou e wT ?_));show Q _ s;have:decide (Aj t<Aj u)=decide (jl (t::ts)<jl (u::us)):=sv.mpr (by
      let ne:Aj t≠Aj u:=λz=>e (RJ ot ou z);simp[jl,fE,ne])
     rw[this];show q
def qL (r:Reads h v (toP (lR ts)) as):∃(a:Addr) (o:Obj) (vs:Array Value) (n:Nat) (bs:List Addr),v=.ref a/\h.get? a=some o/\o.cls=.type "tuple"/\o.data=.seq vs n/\ReadsAll h vs.toList (d_ (ts.map lE)) bs:=by
 unfold lR at r;simp only[toP]at r;cases r with| @tuple a o vs n xs as ho hc hd ra=>show JJ a o vs n as ⟨RA,ho,hc,hd,ra⟩
def ni (h:Heap)(lf:Addr->List T3)(as:List Addr):Prop:=∀a∈as,(∃rs,Reads h (.ref a) (toP (lR (lf a))) rs)/\lf a≠[]/\∀t∈lf a,rK t
def RL (h:ni s.heap lf as)(hu:A.units+2<cLine):jG prog w A s (pC (λa=>jl (lf a)) as) (tuples' false):=by intro E x y a b Q ka kb q;let⟨p,rfl,mp,rfl⟩:=yu ka;let⟨p',rfl,mp',rfl⟩:=yu kb;obtain⟨⟨rs,r⟩,_,ok⟩:=h p mp;obtain⟨⟨rs',r'⟩,_,ok'⟩:=h p' mp';let⟨_,o,vs,n,bs,e1,ho,hc,hd,ra⟩:=qL r;let⟨_,o',vs',n',bs',e2,ho',hc',hd',ra'⟩:=qL r';cases e1;cases e2;show kat_lt ho hd ho' hd' (RK hu _ _ _ _ 0 ra ra' ok ok' w8 q)
def NQ (h:ni s.heap lf as)(h0:0<as.length)(q:Q (tuples' false) s):wpAny (model prog w) A (keyKind' (as.map Value.ref).toArray) Q E s:=by
 let kt:∀(bs:List Addr),(∀b∈bs,b∈as)->∃fs,KatTups s.heap (bs.map Value.ref) fs/\fs.length=bs.length/\∀v∈fs,∃(c:Addr) (o:Obj),v=.ref c/\s.heap.get? c=some o/\o.cls=.type "tuple":=by
  intro bs
  induction bs with
  | nil=>show λ_=>⟨[],trivial,RA,λv hv=>by simp at hv⟩
  | cons b bs ih=>
   intro hb;let⟨fs,k1,k2,k3⟩:=ih λx hx=>hb x (ay _ hx);obtain⟨⟨rs,r⟩,ne,ok⟩:=h b (hb b aE);let⟨_,o,vs,n,cs,e1,ho,hc,hd,ra⟩:=qL r;cases e1;cases hts:lf b with
   | nil=>show absurd hts ne
   | cons t ts=>
    rw[hts]at ra;simp only[b6,d_]at ra;cases hvs:vs.toList with
    | nil=>rw[hvs]at ra;cases ra
    | cons v1 vr=>
     rw[hvs]at ra;cases ra with
     | cons q1 _=>
      let⟨c,oc,nc,t1,t2,t3,rfl,hoc,hcc,_⟩:=Lw q1;calc⟨.ref c::fs,KatTups.cons ho hc hd (by rw[<-cn,hvs];rfl) k1,by simp[k2],λv hv=>?_⟩;rcases ba.mp hv with z|z;.show⟨c,oc,z,hoc,hcc⟩
      .show k3 v z
 let⟨fs,k1,k2,k3⟩:=kt as λ_ h=>h;calc kat_kind (T:=.type "tuple") k1 wT (λv hv=>?_) w_ q;let⟨c,o,rfl,ho,hc⟩:=k3 v hv;rw[<-hc];show(Looks.ld ho).andThen .now
end
def ni.keeps {h h':Heap}(l:ni h lf as)(hk:∀b o,h.get? b=some o->h'.get? b=some o):ni h' lf as:=λa ha=>let ⟨⟨rs,r⟩,x⟩:=l a ha;⟨⟨rs,PyProof.Rows.Reads.keeps hk r⟩,x⟩
def ni.sub (l:ni h lf as)(hb:∀b∈bs,b∈as):ni h lf bs:=λa ha=>l a (hb a ha)
def Gn (v:Value):Addr:=match v with|.ref a=>a|_=>0
def Ak {as:List Addr}{out:List Value}(p:out.Perm (as.map Value.ref)):∃as':List Addr,out=as'.map Value.ref/\as'.Perm as:=by
 refine⟨out.map Gn,?_,?_⟩
 .rw[eD];calc(lS _).symm.trans (gd λv hv=>?_);let⟨a,_,rfl⟩:=aw.mp (p.mem_iff.mp hv);rfl
 .have:=p.map Gn;rw[eD]at this;show this.trans (wv (lS _))
def J9 (h:∀v∈vs,∃a∈as,v=.ref a):KeysOf (pC cf as) (pairsOf vs):=λp hp=>by
 let hp:p∈vs.map λv=>(v,v):=by
  have:(pairsOf vs).toList=vs.map λv=>(v,v):=by show (vs.toArray.zip vs.toArray).toList=_;rw[wm];show yw vs
  rw[<-this];show hp
 let⟨v,hv,rfl⟩:=aw.mp hp;let⟨a,ha,rfl⟩:=h v hv;show⟨cf a,Ib ha⟩
def RM {cf:Addr->List Nat}{as as':List Addr}(hs:∀a∈as',a∈as)(h:(as'.map Value.ref).Pairwise (λx y=>(pC cf as).kle (((pC cf as).keyOf x).getD (pC cf as).dflt) (((pC cf as).keyOf y).getD (pC cf as).dflt))):as'.Pairwise (λa b=>decide (cf b<cf a)=false):=by rw[ed]at h;calc mI (λ{a b} ha hb hab=>?_) h;rw[Ib (hs a ha),Ib (hs b hb)]at hab;show hab
def rM (K:W.Frag)(H:Hp)(a:Addr)(ts:List T3):Prop:=gH K H 2 (lR ts) (.ref a)/\ts≠[]/\∀t∈ts,rK t
def rM.mv {K:W.Frag}{ts:List T3}(h:rM K H a ts)(s:aA H H'):rM K H' a ts:=⟨h.1.mv s,h.2⟩
def NT (tss:List (List T3)):Prop:=tss.Pairwise (λx y=>decide (jl y<jl x)=false)
section
variable {X:Cx}{ao:AC}{σ:St}{H:Hp}{s:Shared}
def Ie (I:aM X ao σ H s)(h:∀a∈as,rM X.K H a (lf a)):ni s.heap lf as:=λa ha=>⟨(h a ha).1.reads I RA,(h a ha).2⟩
end
section
variable {X:Cx}
def Qk {prog:Program}{w:World}{A:Around}{E:AB}{s:Shared}{vs:List Value}(ho:s.heap.get? l=some o)(hc:o.cls=.type "tuple")(hd:o.data=.seq vs.toArray n)(hz:vs.length<=sizeLine)(q:Q vs {s with heap:=(s.heap.push (seqObj "list" #[] 0)).update s.heap.objs.size (Obj.mapSeq (· ++ vs.toArray))}):wpAny (model prog w) A (collect (.ref l)) Q E s:=by
 let h1:(s.heap.push (seqObj "list" #[] 0)).get? l=some o:=af _ ho;let h2:(s.heap.push (seqObj "list" #[] 0)).get? s.heap.objs.size=some (seqObj "list" #[] 0):=ax _ rfl;let t0:(Value.type "tuple" == Value.type "tuple")=true:=by rfl
 unfold collect;calc aa (wpAny_runValue (iq entry_proto_collect' (aa (uC (ag ⟨uB _ xc,iq entry_list_iadd' ?_⟩)))));show wpAny _ _ (Builtin.List.listExtendWith _ _ _) _ _ _;unfold Builtin.List.listExtendWith;calc aa (sQ (T:="tuple") ⟨o,h1,hc⟩ ?_);rw[if_pos (by rw[t0];simp)];calc aa (listItems_at h1 hd (aa (listItems_at (xs:=#[]) (n:=0) h2 RA ?_)));rw[if_neg w8];calc aa (listUpdate_at (xs:=#[]) (n:=0) h2 RA (ag ?_) (cw _) (by show (#[]++vs.toArray).size<=sizeLine+1;simp only[Array.size_append,bq,pV];lia));calc aa (wpAny_load (get?_update_seq h2 _) ?_);let e:((#[]:Array Value)++vs.toArray).toList=vs:=w8;show wpAny _ _ (pure _) Q E _;rw[e];show ag q
def Dg {ao:AC}{s:Shared}{σ:St}{H:Hp}{Q:V->Hp->Prop}{L:Addr}{as:List Addr}{cf:Addr->List Nat}{kn:SortKind}(I:aM X ao σ H s)(hS:aP X.K H L (as.map V.ref)\/aN X.K H L (as.map V.ref))(hz:as.length<=4000)(hk:∀h':Heap,(∀b o,s.heap.get? b=some o->h'.get? b=some o)->2<=as.length->∀(Q:SortKind->Shared->Prop) (E:AB),Q kn {s with heap:=h' }->wpAny (model X.prog X.w) X.A.in1.in1 (keyKind' (as.map Value.ref).toArray) Q E {s with heap:=h' })(hc:∀h':Heap,(∀b o,s.heap.get? b=some o->h'.get? b=some o)->jG X.prog X.w X.A.in1.in1 {s with heap:=h' } (pC cf as) kn)(q:∀(p:Addr) (as':List Addr),H p=none->as'.Perm as->as'.Pairwise (λa b=>decide (cf b<cf a)=false)->Q (.ref p) (upd H p (.lst (as'.map V.ref)))):wpAny (model X.prog X.w) X.A (call (.builtin "sorted") [.ref L]) (EP X ao σ Q) X.xe s:=by
 let bW:(as.map Value.ref).length=as.length:=ab _;let Ga:as.length<=sizeLine:=a8 hz w_;refine J8 ((show ∀{Q:List Value->Shared->Prop},Q (as.map Value.ref) {s with heap:=(s.heap.push (seqObj "list" #[] 0)).update s.heap.objs.size (Obj.mapSeq (· ++ (as.map Value.ref).toArray))}->wpAny (model X.prog X.w) X.A.in1 (collect (.ref L)) Q X.xe s from λq=>?_) ?_)
 .rcases hS with hS|hS
  .let⟨its,rv,pl,_⟩:=I.list hS;cases vg rv;show collect_list pl.isList q (by rw[bW];show Ga)
  .obtain⟨its,rv,⟨o,ho,hoc,no,hod⟩,_⟩:=I.tuple hS;cases vg rv;show Qk ho hoc hod (by rw[bW];show Ga) q
 let hsz:((s.heap.push (seqObj "list" #[] 0)).update s.heap.objs.size (Obj.mapSeq (· ++ (as.map Value.ref).toArray))).objs.size=s.heap.objs.size+1:=by rw[Heap.size_update,size_push']
 let keep:∀b o,s.heap.get? b=some o->((s.heap.push (seqObj "list" #[] 0)).update s.heap.objs.size (Obj.mapSeq (· ++ (as.map Value.ref).toArray))).get? b=some o:=λb o z=>by let hlt:b<s.heap.objs.size:=a6 z;rw[ui _ _ _ _ (bn hlt),vx _ _ _ (bn hlt)];show z
 refine⟨pC cf as,kn,by rw[bW];show hz,J9 λv hv=>by let⟨a,ha,rfl⟩:=aw.mp hv;show⟨a,ha,RA⟩,λh2 h' Q' E' kp q'=>?_,λh' kp=>?_,λh' out e kp pm up he=>?_⟩
 .rw[bW]at h2;show hk h' (λb o z=>kp b o (keep b o z)) h2 _ _ q'
 .show hc h' λb o z=>kp b o (keep b o z)
 .let⟨as',rfl,wM⟩:=Ak pm;let hl2:(as'.map V.ref).length<=sizeLine:=by rw[ab,wM.length_eq];show Ga
  let Xg:=RM (λa ha=>wM.mem_iff.mp ha) up;let he':h'.get? (s.heap.objs.size+1)=some (seqObj "list" (as'.map Value.ref).toArray e):=by rw[<-hsz];show he
  calc⟨.ref (s.heap.objs.size+1),_,I.laid (o:=.lst (as'.map V.ref)) (t':=s.toks) (λb o z=>kp b o (keep b o z)) (gy _) ⟨hl2,as'.map Value.ref,e,Aa _,he'⟩,?_,q _ as' (I.hok.fresh (gy _)) wM Xg⟩;show Value.ref _=_;rw[hsz]
def KN:fU X (.builtin "sorted") (aeR X.K):=by
 walk_at"k";let⟨L,as,cf,rfl,hS,h64,hcell,hnd,q⟩:=h;let⟨u,rfl,ru⟩:=vals1 r;cases ru;let tup:∀a∈as,∃(x y:Nat) (t1 t2:Tok) (o:Obj) (n:Nat) (rest:List Value),s.heap.get? a=some o/\o.cls=.type "tuple"/\o.data=.seq (Value.int x t1::Value.int y t2::rest).toArray n/\y<1000/\cf a=x*1000+y/\(rest=[]\/∃z t3,rest=[Value.str z t3]):=λa hm=>by
  let⟨x,y,rest,e,hy,hcf,hrest⟩:=hcell _ hm;let⟨_,tv,Ws,o,ho,hc,n,hd⟩:=I.hok _ _ e;cases Ws with
  | cons r1 rr=>
   cases rr with
   | cons r2 rr=>
    let⟨t1,rfl⟩:=r1;let⟨t2,rfl⟩:=r2;calc JP x y t1 t2 o n _ ⟨ho,hc,hd,hy,hcf,?_⟩;rcases hrest with rfl|⟨z,rfl⟩;.cases rr;show .inl rfl
    .cases rr with| cons r3 rr=>cases rr;let⟨t3,rfl⟩:=r3;show .inr ⟨z,t3,RA⟩
 let inj:∀a b,a∈as->b∈as->cf a=cf b->a=b:=λa b ha hb e=>by
  let⟨i,hi,rfl⟩:=b9.mp ha;let⟨j,hj,rfl⟩:=b9.mp hb;let pwi:=e8.mp hnd;rcases rS i j with z|z|z;.show absurd e (by have:=pwi i j (by simpa using hi) (by simpa using hj) z;simpa using this)
  .subst z;rfl
  .show absurd e.symm (by have:=pwi j i (by simpa using hj) (by simpa using hi) z;simpa using this)
 refine Dg (cf:=λa=>[cf a]) (kn:=tuples' true) I (.inl hS) wT ?_ ?_ ?_
 .intro h' kp h2 Q' E' hQ;let kt:∀(bs:List Addr),(∀b∈bs,b∈as)->∃fs,KatTups h' (bs.map Value.ref) fs/\fs.length=bs.length/\∀v∈fs,∃(x:Int) (t:Tok),v=.int x t:=by
   intro bs
   induction bs with
   | nil=>show λ_=>⟨[],trivial,RA,λv hv=>by simp at hv⟩
   | cons b bs ih=>
    intro hb;let⟨fs,k1,k2,k3⟩:=ih λx hx=>hb x (ay _ hx);let⟨x,y,t1,t2,o,n,rest,ho,hc,hd,_⟩:=tup b (hb b aE);show⟨.int x t1::fs,KatTups.cons (kp _ _ ho) hc hd RA k1,by simp[k2],λv hv=>by
     rcases ba.mp hv with z|z;.show⟨_,_,z⟩
     .show k3 v z⟩
  let⟨fs,k1,k2,k3⟩:=kt as λ_ h=>h;show kat_kind (s:={s with heap:=h' }) (T:=.type "int") k1 wT (λv hv=>by let⟨x,t,rfl⟩:=k3 v hv;show Looks.of_pure RA) w_ hQ
 .intro h' kp E x y a b C ka kb hC;let⟨p,rfl,mp,rfl⟩:=yu ka;let⟨p',rfl,mp',rfl⟩:=yu kb;let⟨x1,y1,t1,t2,o1,n1,r1,ho1,hc1,hd1,hy1,afe,hr1⟩:=tup p mp;let⟨x2,y2,t3,t4,o2,n2,r2,ho2,hc2,hd2,hy2,afg,hr2⟩:=tup p' mp';let hC':C (decide (x1*1000+y1<x2*1000+y2)) {s with heap:=h' }:=by
   let e:decide (x1*1000+y1<x2*1000+y2)=decide ([cf p]<[cf p']):=sv.mpr (by rw[afe,afg,fE];simp);rw[e];show hC
  calc kat_lt (s:={s with heap:=h' }) (kp _ _ ho1) hd1 (kp _ _ ho2) hd2 ?_;rw[show (Value.int (x1:Int) t1::Value.int (y1:Int) t2::r1).toArray.toList.zip (Value.int (x2:Int) t3::Value.int (y2:Int) t4::r2).toArray.toList=(Value.int (x1:Int) t1,Value.int (x2:Int) t3)::(Value.int (y1:Int) t2,Value.int (y2:Int) t4)::r1.zip r2 from rfl];calc kat_cons (gr _ _ _ _ X.prog X.w _ _ ?_);refine kat_go (λe=>kat_yes ?_) (λe=>kat_no ?_)
  .let ex:x1=x2:=by have:((x1:Int)==(x2:Int))=true:=e;have:=eq_of_beq this;lia
   calc kat_cons (gr _ _ _ _ X.prog X.w _ _ ?_);refine kat_go (λe=>kat_yes ?_) (λe=>kat_no ?_)
   .let ey:y1=y2:=by have:((y1:Int)==(y2:Int))=true:=e;have:=eq_of_beq this;lia
    let eij:p=p':=inj p p' mp mp' (by rw[afe,afg,ex,ey]);subst eij;let eo:o1=o2:=by rw[ho1]at ho2;show bb ho2
    subst eo;rw[hd1]at hd2;let er:r1=r2:=by injection hd2 with hd2 _;have:=congrArg Array.toList hd2;simp at this;show this.2.2
    subst er;let fl:decide ((Value.int (x1:Int) t1::Value.int (y1:Int) t2::r1).toArray.size<(Value.int (x2:Int) t3::Value.int (y2:Int) t4::r1).toArray.size)=decide (x1*1000+y1<x2*1000+y2):=by rw[ex,ey];simp
    rcases hr1 with rfl|⟨z,t5,rfl⟩;.show kat_nil (by rw[fl];show hC')
    .calc kat_cons (SeqAt.EqAt.same _ X.prog X.w _ _ ?_);show kat_yes (kat_nil (by rw[fl];show hC'))
   .let ey:y1≠y2:=λz=>by have:((y1:Int)==(y2:Int))=false:=e;simp[z]at this
    calc kat_one _ _ (lt_int ?_);show C (decide ((y1:Int)<(y2:Int))) _;rw[show decide ((y1:Int)<(y2:Int))=decide (x1*1000+y1<x2*1000+y2) by rw[ex];simp];show hC'
  .let ex:x1≠x2:=λz=>by have:((x1:Int)==(x2:Int))=false:=e;simp[z]at this
   show wpAny _ _ (oneLt' true _ _) _ _ _;calc oneLt_int ?_;rw[show decide ((x1:Int)<(x2:Int))=decide (x1*1000+y1<x2*1000+y2) by
    by_cases z:x1<x2;.rw[ar (oB gx z),ar wT]
    .rw[am (by simp[*]),am wT]]
   show hC'
 .intro p as' hp pm up;calc q p as' hp pm ?_;let hnd':=(pm.map cf).nodup_iff.mpr hnd;rw[ed];calc(up.and (ed.mp hnd')).imp λ{a b} h=>?_;let h1:=kP h.1;rw[fE]at h1;let h2:=h.2;have:¬cf b<cf a:=λz=>h1 (.inl z);show Nat.lt_of_le_of_ne (Iff.mp Nat.not_lt this) h2
def qy (w:World)(a:Addr)(bs:List Addr):Heap->Prop:=λh=>∃es ep t,SetT w h a es ep t/\es.toList.map (·.2)=bs.map Value.ref
def qy.ext (m:qy w a bs h):dW P w H h a (.ext (qy w a bs)):=by
 refine⟨m,?_,λh1 h2 m1 k=>?_⟩
 .obtain⟨es,ep,t,⟨o,ho,_⟩,_⟩:=m;show⟨o,ho⟩
 .let⟨es,ep,t,m2,e⟩:=m1;show JE es ep t ⟨m2.mv k,e⟩
def Ql (w:World)(K:W.Frag):List V->Hp->VK->Prop:=λxs H Q=>∃(p:Addr) (bs:List Addr) (lf:Addr->List T3),xs=[.ref p]/\H p=some (.ext (qy w p bs))/\bs.length<=4000/\(∀a∈bs,rM K H a (lf a))/\
 ∀(p':Addr) (bs':List Addr),H p'=none->bs'.Perm bs->NT (bs'.map lf)->Q (.ref p') (upd H p' (.lst (bs'.map V.ref)))
def Cz (hc:X.calm=true)(hu:X.A.units+64<cLine):fU X (.builtin "sorted") (Ql X.w X.K):=by
 walk_at"k";let⟨p,bs,lf,rfl,hd,hn,hl,q⟩:=h;let⟨u,rfl,ru⟩:=vals1 r;cases ru;obtain⟨⟨es,ep,t,m,em⟩,_,_⟩:=(show dW X.prog X.w H s.heap p (.ext (qy X.w p bs)) from I.hok _ _ hd)
 let la:=Ie I hl;let hes:es.size=bs.length:=by have:=congrArg List.length em;rw[ab,ab,bo]at this;show this
 let Ga:bs.length<=sizeLine:=a8 hn w_;calc J8 (Qf (A:=X.A.in1) (I.ok.hd hc) m wT λh1 tk d acc kk pm=>?_);rw[em]at pm;let⟨as,rfl,pa⟩:=Ak pm;let bW:(as.map Value.ref).length=as.length:=ab _;let hal:=pa.length_eq;let la1:ni h1 lf as:=(la.sub λb hb=>pa.mem_iff.mp hb).keeps kk;refine⟨pC (λa=>jl (lf a)) as,tuples' false,by rw[bW,hal];show hn,J9 λv hv=>by let⟨a,ha,rfl⟩:=aw.mp hv;show⟨a,ha,RA⟩,λh2 h' Q' E' kp q'=>?_,λh' kp=>?_,λh' out e kp pm up he=>?_⟩
 .rw[bW]at h2;show NQ (la1.keeps kp) (aT h2) q'
 .show RL (la1.keeps kp) (show X.A.units+1+1+2<cLine by lia)
 .let⟨as',rfl,wM⟩:=Ak pm;let hl2:(as'.map V.ref).length<=sizeLine:=by rw[ab,wM.length_eq,hal];show Ga
  let Xg:=RM (λa ha=>wM.mem_iff.mp ha) up;let I1:aM X ao σ H {s with heap:=h1,toks:=tk,drawn:=d}:=(I.kept (t':=tk) kk).agr d;calc⟨.ref h1.objs.size,_,I1.laid (o:=.lst (as'.map V.ref)) (t':=tk) kp (ah _) ⟨hl2,as'.map Value.ref,e,Aa _,he⟩,RA,q _ as' I1.fresh (wM.trans pa) ?_⟩;unfold NT;rw[ed];show Xg
end
section
variable {P:Program}{w:World}{κ:Type}[DecidableEq κ]
noncomputable def Xh (vk:fY P w κ)(p:κ->Value->Prop):fY P w κ where
 is:=λh k v=>vk.is h k v/\p k v
 hash:=vk.hash
 draws:=vk.draws
 deep:=vk.deep
 inj:=λh1 h2=>vk.inj h1.1 h2.1
 keeps:=λh ho hd hs=>⟨vk.keeps h.1 ho hd hs,h.2⟩
 pyHash:=λhu h q=>vk.pyHash hu h.1 q
 eqBool:=λhu h1 h2 q=>vk.eqBool hu h1.1 h2.1 q
 quiet:=λn hn h q=>vk.quiet n hn h.1 q
def agv {vk:fY P w κ}{p:κ->Value->Prop}(nc:jZ vk):jZ (Xh vk p):=λn hn h q=>nc n hn h.1 q
def agw {vk:fY P w κ}{p:κ->Value->Prop}(n1:wX vk):wX (Xh vk p):=λh ho hd hs=>⟨n1 h.1 ho hd hs,h.2⟩
def agx {vk:fY P w κ}{p:κ->Value->Prop}(n1:wY vk):wY (Xh vk p):=λh hs=>⟨n1 h.1 hs,h.2⟩
def agy {vk:fY P w κ}{p:κ->Value->Prop}(n1:Nt vk):Nt (Xh vk p):=λh q=>n1 h.1 q
end
def rN (ts:List T3):Ny:=ts.map λt=>[Sum.inl (t.1:Int),Sum.inl (t.2.1:Int),Sum.inr (S [t.2.2])]
theorem NZ:∀{ts us:List T3},rN ts=rN us->ts=us
 | [],[],_=>rfl
 | [],_::_,h=>by cases h
 | _::_,[],h=>by cases h
 | t::ts,u::us,h=>by injection h with a b;injection a with a1 a2;injection a2 with a2 a3;injection a3 with a3 _;injection a1 with a1;injection a2 with a2;injection a3 with a3;let a3:=Bw a3;injection a3 with a3 _;rw[NZ b,show t=u from se (kz a1) (se (kz a2) a3)]
section
variable {P:Program}{w:World}
variable {X:Cx}
def RN:(vo (dz P w)).is h (Sum.inl i) (Value.int i t):=by let e:jE (Sum.inl i) (Value.int i t)=true:=Jr i t;show e
def acK:(vo (dz P w)).is h (Sum.inr x) (Value.str x t):=by let e:jE (Sum.inr x) (Value.str x t)=true:=Js x t;show e
theorem RP:∀{ts:List T3} {vs:List Value} {as:List Addr},ReadsAll h vs (d_ (ts.map lE)) as->jT (tupK (vo (dz P w))) h (rN ts) vs
 | [],vs,as,r=>by simp only[mh,d_]at r;cases r;trivial
 | t::ts,vs,as,r=>by
  simp only[b6,d_]at r;cases r with| cons r1 r2=>let⟨a,o,n,t1,t2,t3,rfl,ho,hc,hd⟩:=Lw r1;show⟨(JI a o n _ ⟨RA,ho,hc,hd,RN,RN,acK,trivial⟩),RP r2⟩
def afh (r:Reads h v (toP (lR ts)) as)(hne:ts≠[]):(Ia P w).is h (rN ts) v:=by let⟨a,o,vs,n,bs,rfl,ho,hc,hd,ra⟩:=qL r;calc⟨(JI a o n vs ⟨RA,ho,hc,hd,RP ra⟩),λz=>hne (pM.mp z),λt ht=>?_⟩;let⟨u,_,rfl⟩:=aw.mp ht;show JE _ _ _ rfl
def acL (w:World)(K:W.Frag):List V->Hp->VK->Prop:=λxs H Q=>∃(L:Addr) (as:List Addr) (lf:Addr->List T3),xs=[.ref L]/\aP K H L (as.map V.ref)/\as.length<=3999/\(∀a∈as,rM K H a (lf a))/\
 ∀(p:Addr) (bs:List Addr),H p=none->(∀b∈bs,b∈as)->(bs.map lf).Nodup->(∀a∈as,lf a∈bs.map lf)->Q (.ref p) (upd H p (.ext (qy w p bs)))
def Qm (hc:X.calm=true)(hu:X.A.units+64<cLine):fU X (.type "set") (acL X.w X.K):=by
 walk_at"k";let⟨L,as,lf,rfl,hS,hz,hl,q⟩:=h;let⟨u,rfl,ru⟩:=vals1 r;cases ru;let⟨its,rv,pl,_⟩:=I.list hS;let ahc:=vg rv;subst ahc;let la:=Ie I hl;let hsz:(as.map Value.ref).toArray.size=as.length:=w8;refine Xe (vk:=Xh (Ia X.prog X.w) λk v=>∃b∈as,v=.ref b/\k=rN (lf b)) (val:=λi=>rN (lf (as.getD i 0))) (show (2:Nat)<=8 by decide) (agv ae_) (agx afd) (agw afa) (agy acI) (show X.A.units+14+2<cLine by lia) (I.ok.hd hc) pl.isList (λi v hv=>?_) (by rw[hsz];show hz) λh' tk ks kk hkl hkm m=>?_
 .let hi:i<as.length:=by
   have:=(Array.getElem?_eq_some_iff.mp hv).1;simp_all
  let ev:v=.ref as[i]:=by
   have:(as.map Value.ref)[i]?=some v:=by simpa using hv
   rw[a_,ae hi]at this;show(bb this).symm
  let eg:as.getD i 0=as[i]:=by simp[hi]
  obtain⟨⟨rs,rd⟩,ne,_⟩:=la as[i] (aI hi);calc⟨as[i],ev,?_⟩;rw[eg,ev];show⟨afh rd ne,as[i],aI hi,RA,RA⟩
 .let⟨es,ep,t,m,ti,ek,_,_⟩:=m;let hv:∀(i:Nat) e k,es.toList[i]?=some e->ks[i]?=some k->∃b∈as,e.2=.ref b/\k=rN (lf b):=λi e k h1 h2=>((ek.at_ i e k h1 h2).1).2;let eb:es.toList.map (·.2)=((es.toList.map (·.2)).map Gn).map Value.ref:=by
   rw[eD];calc(lS _).symm.trans (gd λv Xi=>?_);let⟨e,he,rfl⟩:=aw.mp Xi;let⟨i,hi,rfl⟩:=b9.mp he;let⟨b,_,e2,_⟩:=hv i _ (ks[i]'(by rw[ek.len];show hi)) (ae hi) (ae _);rw[e2];rfl
  let ekb:ks=((es.toList.map (·.2)).map Gn).map λb=>rN (lf b):=by
   apply ph;.simp[ek.len]
   .intro i h1 h2;let hi:i<es.toList.length:=by rw[<-ek.len];show h1
    let⟨b,_,e2,e3⟩:=hv i _ _ (ae hi) (ae h1);rw[e3];simp only[wn];rw[e2];rfl
  generalize (es.toList.map (·.2)).map Gn=bs at eb ekb;let hbs:∀b∈bs,b∈as:=λb hb=>by
   let⟨i,hi,rfl⟩:=b9.mp hb;let hi2:i<es.toList.length:=by have:=congrArg List.length eb;rw[ab,ab]at this;simp[*]
   let⟨b',hb',e2,_⟩:=hv i _ (ks[i]'(by rw[ek.len];show hi2)) (ae hi2) (ae _);have:(es.toList.map (·.2))[i]?=some (.ref bs[i]):=by rw[eb];simp[hi]
   rw[a_,ae hi2]at this;have:es.toList[i].2=.ref bs[i]:=bb this;rw[e2]at this;cases this;show hb'
  let nd:(bs.map lf).Nodup:=by
   have:=ek.nd;rw[ekb]at this;let e:(bs.map λb=>rN (lf b))=(bs.map lf).map rN:=by rw[eD];rfl
   rw[e]at this;show List.Pairwise.of_map rN (λa b hab z=>hab (by rw[z])) this
  calc⟨.ref s.heap.objs.size,_,I.laid (o:=.ext (qy X.w s.heap.objs.size bs)) (t':=tk) kk (ah _) (qy.ext (JE es ep t ⟨m,eb⟩)),RA,q _ bs I.fresh hbs nd λa ha=>?_⟩;let⟨i,hi,rfl⟩:=b9.mp ha;have:rN (lf as[i])∈ks:=(hkm _).mpr (aw.mpr ⟨i,by rw[hsz];show bE.mpr hi,by simp[hi]⟩);rw[ekb]at this;let⟨b,hb,e⟩:=aw.mp this;rw[<-NZ e];show aw.mpr ⟨b,hb,RA⟩
end
end L2
namespace L2
open PySem PySem.Spec PyProof.Rows
def Good (u:Value)(n:Nat):Prop:=∃x t,u=.str x t/\0<t/\t<n
def GP (X:Cx)(ao:AC)(σ:St)(Q:VK)(u:Value)(s':Shared):Prop:=∃v H',aM X ao σ H' s'/\bN v u/\Good u s'.toks/\Q v H'
structure GE (X:Cx)(e:Expr)(t:TE):Prop where
 out:∀(ao:AC) (s:Shared) (σ:St) (H:Hp) (Q:VK),aM X ao σ H s->t σ H Q->wpAny (model X.prog X.w) X.A (eval e X.env) (GP X ao σ Q) X.xe s
section
variable {X:Cx}
def abu (ha:QE X a ta)(hs:Hw (.Constant (.int i) j p)):GE X (.Subscript a (.Constant (.int i) j p) pos) (qW aem ta (tC (.int i))):=by
 calc⟨λao s σ H Q I h=>?_⟩;calc Subscript_ (bM (ha.out ao s σ H _ I h) λv s1 ⟨x,H1,I1,r1,q1⟩=>uv ?_);let⟨z,i',c,rfl,e',hz,he,q⟩:=q1;cases e';let⟨t,rfl⟩:=r1;let⟨jj,h1,h2,h3,h4,h5⟩:=Bq he;let hl:z.cps.toList.length=z.length:=by simp[Str.length]
 rw[hl]at h1 h4 h5;let hn:=tX;let I2:=I1.tok (s1.toks+1);show tail_any (typeIs_str _ z t) slot_str_getitem.lookup (getItem_str (c:=c) (by
  let e1:decide (i < -(2^63:Int))=false:=am wT;let e2:decide (i>=2^63)=false:=am wT;rw[e1,e2,sd]) (by rw[h1];simpa using h2) ⟨.str ⟨#[c]⟩,H1,I2.tok _,⟨_,RA⟩,⟨_,_,RA,kQ _,f8 _⟩,q⟩) (hs _ _)
def tUp (K:W.Frag)(to:TE):TE:=λσ H Q=>to σ H λx H1=>∃c:Nat,x=.str (S [c])/\c<128/\Q (.str (S [up1 c])) H1
def agz {apos cpos:Pos}(ho:GE X o to)(hbase:attributeBase o "upper" X.env (eval o X.env)=eval o X.env:=by rfl)(hline:(apos.endLine==cpos.line)=true:=by rfl):GE X (.Call (.Attribute o "upper" apos) [] [] cpos) (tUp X.K to):=by
 calc⟨λao s σ H Q I h=>?_⟩;calc wpAny_Call_method0_late hbase hline (bM (ho.out ao s σ H _ I h) λv s1 zz=>?_);let⟨x,H1,I1,r1,g1,c,e,hc,q⟩:=zz;subst e;let⟨t,rfl⟩:=r1;let⟨_,t',e',g2,g3⟩:=g1;refine⟨"str","str.upper",bS,PySem.F.slot_str_upper,PySem.F.type_str_upper,typeIs_str s1 _ t,λ_ e=>(nomatch e),n9 RA (PySem.evalArgs_none ?_)⟩
 .let hfit:Builtin.Str.tooLong (Txt.upper (S [c])).length=false:=fit_upper (by rw[mF];show a8 (show 1<=1000 by decide) w_);calc call_gives F.slot_str_upper (typeIs_str s1 _ t) F.entry_str_upper (F.args_str_upper_1 _) (gives_str_upper (S [c]) t hfit) ⟨fit_le hfit,?_⟩;let e:Txt.upper (S [c])=S ([c].map up1):=by rw[upper_ascii (x:=S [c]) (λd hd=>by rw[ap.mp hd];show hc)];simp[S]
  show⟨.str (S [up1 c]),H1,I1.tok _,⟨s1.toks,congrArg (λz=>Value.str z s1.toks) e⟩,⟨_,s1.toks,RA,ml g2 g3,f8 _⟩,q⟩
end
theorem N5:∀{l:List Nat} {c i:Nat},l[i]?=some c->(∀k,k<i->l[k]?≠some c)->l.take i++l.drop (i+1)=l.erase c
 | [],_,_,h,_=>by simp at h
 | d::l,c,0,h,_=>by
  have:d=c:=by simpa using h
  subst this;simp
 | d::l,c,i+1,h,hk=>by let hd:d≠c:=λe=>hk 0 wT (by simp[e]);let ih:=N5 (l:=l) (c:=c) (i:=i) (by simpa using h) (λk hk'=>by have:=hk (k+1) (sf hk');simpa using this);rw[oQ (by simpa using hd),<-ih];simp
open Builtin.Str in
def aah (l)(c)(h:c∈l):∃i,occurrences (S l) (S [c]) 0 (S l).length 1=[i]/\glued (S []) (partsBetween (S l) [i] (S [c]).length)=S (l.erase c):=by
 let hn:(S l).length=l.length:=mF l;rcases StrLaws.occ_head (S l) (S [c]) 1 (ah 1) with⟨h0,hk⟩|⟨i,r,h0,hi,hk⟩
 .let⟨i,hi⟩:=sC.mp h;show absurd ((gz (S l) c i).mpr hi) (hk i)
 .let hl:=StrLaws.occ_length_le (S l) (S [c]) 0 (S l).length 1;rw[h0]at hl;have:r=[]:=tJ (by rw[bt]at hl;lia);subst this;let e1:l[i]?=some c:=(gz (S l) c i).mp hi;let e2:∀k,k<i->l[k]?≠some c:=λk hk' z=>hk k hk' ((gz (S l) c k).mpr z);calc⟨i,h0,?_⟩;let hil:i<l.length:=(al.mp e1).1;let e3:partsBetween (S l) [i] (S [c]).length=[strSub (S l) 0 i,strSub (S l) (i+(S [c]).length) (S l).length]:=rfl;rw[e3,Lq,Lq,hn,show (S [c]).length=1 from RA,uj,cK,<-N5 e1 e2];show (⟨(S (l.take i)).cps++(S []).cps++(S (l.drop (i+1))).cps⟩:Str)=_;unfold S;congr 1;apply mr.mp;simp
def cI (c:Nat):Nat:=if 65<=c/\c<=90 then 63 else c
def Uv (a b:Nat):(!decide ([b]<[a]))=decide (a<=b):=by
 by_cases h:a<=b;.rw[ar h,am (by simp[fE];show h)];rfl
 .rw[am h,ar (by simp[fE];show sn h)];rfl
structure Gp (P:Program)(w:World)(K:W.Frag)(mg:Str->Option Value)(base:Heap)(f:Addr)(fd:FuncData):Prop where
 run:∀(A:Around) (outer:List Env) (s:Shared) (H:Hp) (args:Args) (c:Nat) (t:Tok),dR 1 A->zO P w K mg base A outer s H->BindsTo s fd args ([("sign":Str)].zip [Value.str (S [c]) t])->0<t->t<s.toks->
  codeAny (model P w) A (.call (.ref f) args) (λr s'=>∃u,r=.ok (.ret u)/\CE outer P w H s (λv H'=>v=.str (S [cI c])/\H'=H) u s'/\Good u s'.toks) s
def acM {K:W.Frag}{mg:Str->Option Value}{st:Stmt}{x1 x2 x3:Str}{j1 j3 j5:_}(F:iY K "tile_of" "tile_of" st f fd)(Sc:aV ["sign"] ["sign"] (aG st))(hloc:(aG st).names.lookup ("sign":Str)=some .local)(hb:cY st=[.Return (some (.IfExp (.Compare (.Constant (.str x1) j1 p1) [.LtE,.LtE] [.Name "sign" p2,.Constant (.str x3) j3 p3] p4) (.Constant (.str x2) j5 p5) (.Name "sign" p6) p7)) p8])(h1:x1=S [65])(h2:x2=S [63])(h3:x3=S [90]):Gp P w K mg base f fd:=by
 subst h1 h2 h3;let⟨oc,od,kV,doc,pm,an,bD,ct,osl,rfl,lk,hcd⟩:=F.ex;calc⟨λA outer s H args c t hr e0 hbd t0 t1=>?_⟩;let KX:K.In s.heap:=e0.mod.LK.keeps λb o e=>(e0.bs b o e).1;let lim:s.heap.NoLimit:=e0.mod.nolimit.keeps λb o e=>(e0.bs b o e).1;let hkind:∀y∈[("sign":Str)].zip [Value.str (S [c]) t],(aG st).names.lookup y.1=some .local\/((aG st).names.lookup y.1=some .cell/\((cellsFrom (s.heap.objs.size+1) (aG st).names []).lookup y.1).isSome=true):=λ⟨n,v⟩ hy=>by let hn:n="sign":=ap.mp (sP hy).1;subst hn;show .inl hloc
 calc codeAny_call_function hr.depth (KX _ _ lk) RA Sc.co Sc.gen RA (W.codeRec_of KX hcd) (hbd _ _ _ _ ?_);calc qj (wpAny_newFunctionEnv_cells Sc.kind hkind λenv he s1 x ht=>?_);subst he;calc⟨lim.keeps x.toInCall.keep,codeAny_func ?_⟩;let I:aM (tY fG P w K mg base ["sign"] "tile_of" (aG st) f bD A outer s H E0) [] (start ["sign"] [.str (S [c])]) H s1:=JG Sc hr.hd e0 RA (.cons ⟨t,RA⟩ .nil) x
 let hm:bindL (envOfC "tile_of" (aG st) s.heap.objs.size f bD).kindOf ([("sign":Str)].zip [Value.str (S [c]) t]) (λ_=>none) "sign"=some (Value.str (S [c]) t):=zP (i:=0) (P:=["sign"]) (vs:=[Value.str (S [c]) t]) w_ RA RA hloc
 let hns:s1.heap.Ns s.heap.objs.size (bindL (envOfC "tile_of" (aG st) s.heap.objs.size f bD).kindOf ([("sign":Str)].zip [Value.str (S [c]) t]) (λ_=>none)):=x.toInCall.ns;show wpAny _ _ (execs (cY st) _) _ _ s1;rw[hb];let tS1:t<s1.toks:=bu t1 ht;let nm:∀(tk:Nat) (p:Pos) (Q:AB) (E:AB),Q (.str (S [c]) t) {s1 with toks:=tk}->
   wpAny (model P w) (A.deeper (envOfC "tile_of" (aG st) s.heap.objs.size f bD)) (eval (.Name "sign" p) (envOfC "tile_of" (aG st) s.heap.objs.size f bD)) Q E {s1 with toks:=tk}:=λtk p Q E q=>
  qV (sL Sc.kind hloc hns hm q) w_
 let fin:∀(tk':Nat) (y:Tok) (d:Nat),d=cI c->0<y->y<tk'->∃u,(Except.ok (Flow.ret (.str (S [d]) y)):Result)=.ok (.ret u)/\CE outer P w H s (λv H'=>v=.str (S [cI c])/\H'=H) u {s1 with toks:=tk' }/\Good u tk':=λtk' y d hd a2 a3=>by let J:=I.tok tk';subst hd;show⟨_,RA,⟨.str (S [cI c]),H,J.os,J.bare,J.base,J.hok,⟨y,RA⟩,RA,RA⟩,_,y,RA,a2,a3⟩
 calc md (wpAny_Return_some (wpAny_IfExp (isTrue_chain (nE (test_link (nm _ _ _ _ (wP (eP ?_))))))));let hcp:∀a:Nat,(S [a]).cps.toList=[a]:=λa=>rfl;rw[hcp,hcp,Uv];by_cases c1:65<=c
 .rw[ar c1];calc ite_tt (test_last (nE (wP (eP ?_))));rw[hcp,hcp,Uv];by_cases c2:c<=90
  .rw[ar c2];calc ite_tt (nE ?_);show fin (s1.toks+1+1+1) (s1.toks+1+1) 63 (if_pos ⟨c1,c2⟩).symm (kQ _) (f8 _)
  .rw[am c2];show ite_ff (nm _ _ _ _ (fin (s1.toks+1+1) t c (if_neg λz=>c2 z.2).symm t0 (bu tS1 (Nat.le_add_right s1.toks 2))))
 .rw[am c1];show ite_ff (ite_ff (nm _ _ _ _ (fin (s1.toks+1) t c (if_neg λz=>c1 z.1).symm t0 (bu tS1 (gy _)))))
section
variable {X:Cx}{ao:AC}{σ:St}{H:Hp}{s:Shared}
variable {prog:Program}{w:World}{A:Around}{E:AB}
def Uw (X:Cx)(s:Shared)(x:Str)(u:Value):Prop:=∃m,s.heap.Ns X.env.locals m/\Look X.env s.heap m x u
def uy {E:AB}{x:Str}{u:Value}{pos:Pos}{Q:AB}(I:aM X ao σ H s)(h:Uw X s x u)(q:Q u s)(hd:(x==("__debug__":Str))=false:=by decide)(hcd:(x==("__classdict__":Str))=false:=by decide):wpAny (model X.prog X.w) X.A (eval (.Name x pos) X.env) Q E s:=by
 let⟨m,hn,l⟩:=h;rcases l with⟨hk,hm⟩|⟨hk,c,hc,hcell⟩;.show qV (sL I.ok.kind hk hn hm q) hd
 .rcases hk with hk|hk;.show qV (wpAny_loadName_cell I.ok.kind hk hc hcell q) hd
  .show qV (wpAny_loadName_free I.ok.kind hk hc hcell q hcd) hd
def vV (ir is it il : Nat)(tb : TS)(c : Nat) : TS := λD σ H => ∃l : List Nat, (((σ.set is (some (.str (S [c])))).set it (some (.str (S [cI c])))))[ir]? = some (some (.str (S l))) /\ l.length <= 1000 /\
  (if cI c ∈ l then tb {nx := D.nx, rt := D.rt} (((σ.set is (some (.str (S [c])))).set it (some (.str (S [cI c])))).set il (some (.str (S (l.erase (cI c)))))) H
   else D.nx ((σ.set is (some (.str (S [c])))).set it (some (.str (S [cI c])))) H)
def ahd (ir is it il:Nat)(t1 t2:TE)(tb:TS):TS:=λD σ H=>t1 σ H λx1 H1=>t2 σ H1 λx2 H2=>∃c1 c2:Nat,x1=.str (S [c1])/\x2=.str (S [c2])/\
 vV ir is it il tb c1 {nx:=vV ir is it il tb c2 D,rt:=D.rt} σ H2
structure Ux (X:Cx)(ir is it il:Nat)(f:Addr)(fd:FuncData):Prop where
 nd:X.N.Nodup
 r:X.N[ir]?=some "rack"
 s:X.N[is]?=some "sign"
 t:X.N[it]?=some "tile"
 l:X.N[il]?=some "left"
 vr:Vw X.env.scope "rack"
 vs:Loc X.env.scope "sign"
 vt:Loc X.env.scope "tile"
 vl:Loc X.env.scope "left"
 fs:X.fn "sign"=true
 ft:X.fn "tile"=true
 fl:X.fn "left"=true
 T:Gp X.prog X.w X.K X.mg X.base f fd
 b:cu X.K fd ["sign"] []
 m:X.mg "tile_of"=some (.ref f)
 k:W.keepIn X.K (.ref f)=true
 g:Gl X "tile_of"
 rm:dR 1 X.A
abbrev Ig (x0 : Str)(j0 j1 : Nat)(J_ Ka pk2 Kc Kd RQ RT RW Ke Kf vW yx yC yD vX Al Ih : Pos)(rest : List Stmt) : List Stmt :=[.Assign [.Name "tile" J_] (.Call (.Name "tile_of" Ka) [.Name "sign" pk2] [] Kc) Kd,
   .If (.Compare (.Name "tile" RQ) [.In] [.Name "rack" RT] RW) (.Assign [.Name "left" Ke] (.Call (.Attribute (.Name "rack" Kf) "replace" vW) [.Name "tile" yx, .Constant (.str x0) j0 yC, .Constant (.int 1) j1 yD] [] vX) Al::rest) [] Ih]
def Xj (Y:Ux X ir is it il f fd)(I:aM X ao σ H s):wpAny (model X.prog X.w) X.A (assign (.Name "sign" p1) X.env (.str (S [c]) t)) (λ_ s2=>aM X ao (σ.set is (some (.str (S [c])))) H s2/\Uw X s2 "sign" (.str (S [c]) t)/\s.toks<=s2.toks) X.xe s:=qj (vi (u9 I Y.nd Y.s Y.vs (v:=.str (S [c])) ⟨t,RA⟩ (λs' I' _ ex ht=>⟨I',ex,ht⟩) (.inl Y.fs)))
def aai {ir is it il:Nat}{c:Nat}{t:Tok}{x0:Str}{j0 j1:Nat}{J_ Ka pk2 Kc Kd RQ RT RW Ke Kf vW yx yC yD vX Al Ih:Pos}{rest:List Stmt}{D:Ends}(Y:Ux X ir is it il f fd)(hx0:x0=S [])(hl1:(vW.endLine==vX.line)=true)(hs1:swapsWith (.Call (.Name "tile_of" Ka) [.Name "sign" pk2] [] Kc) (some (.Name "tile" J_)) Kd.line X.env=pure false)(hs2:swapsWith (.Call (.Attribute (.Name "rack" Kf) "replace" vW) [.Name "tile" yx,.Constant (.str x0) j0 yC,.Constant (.int 1) j1 yD] [] vX) (some (.Name "left" Ke)) Al.line X.env=pure false)(hrest:wK X rest tb)(I:aM X ao (σ.set is (some (.str (S [c])))) H s)(ex:Uw X s "sign" (.str (S [c]) t))(t0:0<t)(t1:t<s.toks)(q:vV ir is it il tb c D σ H):wpAny (model X.prog X.w) X.A (execs (Ig x0 j0 j1 J_ Ka pk2 Kc Kd RQ RT RW Ke Kf vW yx yC yD vX Al Ih rest) X.env) (SP X ao {nx:=D.nx,rt:=D.rt}) X.xe s:=by
 subst hx0;let⟨l,hl,hz,q⟩:=q;calc md (vj (kH (Bl I Y.g Y.m ?_ w_)) hs1);calc qk (h₀:=X.base) I.ok.mod.LK Y.k (iP (uy I ex (rj ⟨I.jH,?_⟩))) RA rfl;calc vy (i9 (Y.T.run X.A X.stack s H ⟨[.str (S [c]) t],[]⟩ c t Y.rm I.env0 (Y.b s [.str (S [c]) t] I.jH RA) t0 t1) λr s1 hr=>?_);let⟨u,rfl,ce,y,y',hy,g0,g1⟩:=hr;let⟨v,H1,I1,rv,ev,eH⟩:=I.after ce;subst ev eH hy;let⟨y2,ey⟩:=rv;injection ey with ey1 ey2;subst ey1 ey2;calc qj (u9 I1 Y.nd Y.t Y.vt (v:=.str (S [cI c])) ⟨y',RA⟩ (λs2 I2 _ ex2 ht=>?_) (.inl Y.ft));let g2:y'<s2.toks:=bu g1 ht;let⟨m,hn,hlm⟩:=id I2.loc;obtain⟨ur,⟨tr,er⟩,lr⟩:=hlm ir "rack" _ Y.r hl Y.vr;subst er;let exr:Uw X s2 "rack" (.str (S l) tr):=⟨m,hn,lr⟩
 calc md (wpAny_If (wpAny_isTrue_Compare1 (uy I2 ex2 (uy I2 exr (in_str (eP ?_)))) (by with_unfolding_all rfl)));let ein:(!(Builtin.Str.occurrences (S l) (S [cI c]) 0 (S l).length 1).isEmpty)=decide (cI c∈l):=by let e:=StrLaws.found_one (S l) (cI c);rw[abj]at e;rw[show (S [cI c])=(⟨#[cI c]⟩:Str) from RA,e]
 rw[ein];by_cases hc:cI c∈l
 .rw[if_pos hc]at q;rw[ar hc];calc ite_tt (md (vj (wpAny_Call_method_late RA RA hl1 RA (uy I2 exr ?_)) hs2));calc⟨"str","str.replace",bS,PySem.F.slot_str_replace,PySem.F.type_str_replace,typeIs_str s2 _ tr,λ_ e=>(nomatch e),?_⟩;calc n9 RA (Calls.evalArgs_plain ?_);show wpAny _ _ (spliced ((false,eval (.Name "tile" yx) X.env)::(false,eval (.Constant (.str (S [])) j0 yC) X.env)::(false,eval (.Constant (.int 1) j1 yD) X.env)::[])) _ _ _;calc iP (uy I2 ex2 (iP (nE (iP (uv (rj ?_))))));let⟨i,ho,hgl⟩:=aah l (cI c) hc;refine call_gives F.slot_str_replace (typeIs_str _ _ tr) F.entry_str_replace (F.args_str_replace_4 _ _ _ _) (HW (S l) (S [cI c]) (S []) tr y' s2.toks _ λ_=>⟨?_,?_,?_,?_⟩) ?_
  .have:y'≠0:=g6 g0;have:s2.toks≠0:=g6 (ml g0 g2);simp[*]
  .have:y'≠s2.toks:=bn g2;simpa using this
  .rfl
  .rw[ho];unfold Builtin.Str.tooLong;rw[mF,show (S []).length=0 from RA,Nat.mul_zero,we];show am (by have:=aL (n:=l.length) hz;lia)
  rw[ho];let e0:(([i]:List Nat).isEmpty||((S [cI c]).length==0&&(S []).length==0))=false:=rfl;rw[if_neg (by rw[e0];decide),hgl];calc⟨?_,?_⟩;.rw[mF];show a8 s_ (aT (aL wT))
  .let I3:=I2.tok (s2.toks+1+1+1);calc Ds I3 Y.nd Y.l Y.vl (v:=.str (S (l.erase (cI c)))) ⟨_,RA⟩ (λs3 I4=>?_) (.inl Y.fl);calc bM (hrest.out ao s3 _ _ {nx:=D.nx,rt:=D.rt} I4 q) λfl s4 z=>?_;cases fl with| next=>show i8 z| ret v=>show z| brk=>show z| cont=>show z
 .rw[if_neg hc]at q;rw[am hc];show ite_ff (i8 (i8 ⟨_,_,I2,q⟩))
def afi {ir is it il:Nat}{x0:Str}{j0 j1:Nat}{J_ Ka pk2 Kc Kd RQ RT RW Ke Kf vW yx yC yD vX Al Ih:Pos}{rest:List Stmt}{e1 e2:Expr}{kt:_}(Y:Ux X ir is it il f fd)(hx0:x0=S [])(hp:PassesOwn (model X.prog X.w) X.A X.env X.xe)(hcm:X.calm=true)(g1:GE X e1 t1)(g2:GE X e2 t2)(hl1:(vW.endLine==vX.line)=true)(hs1:swapsWith (.Call (.Name "tile_of" Ka) [.Name "sign" pk2] [] Kc) (some (.Name "tile" J_)) Kd.line X.env=pure false)(hs2:swapsWith (.Call (.Attribute (.Name "rack" Kf) "replace" vW) [.Name "tile" yx,.Constant (.str x0) j0 yC,.Constant (.int 1) j1 yD] [] vX) (some (.Name "left" Ke)) Al.line X.env=pure false)(hst:starEach [e1,e2] X.env=[(false,eval e1 X.env),(false,eval e2 X.env)])(hs:∀x,foldedSetIterable (.Tuple [e1,e2] kt p2) X.env x=pure x)(hrest:wK X rest tb):QS X (.For (.Name "sign" p1) (.Tuple [e1,e2] kt p2) (Ig x0 j0 j1 J_ Ka pk2 Kc Kd RQ RT RW Ke Kf vW yx yC yD vX Al Ih rest) [] pos) (ahd ir is it il t1 t2 tb):=by
 calc⟨λao s σ H D I h=>?_⟩;calc wpAny_For (wpAny_Tuple_spliced ?_) hs;rw[hst];show wpAny _ _ (spliced ((false,eval e1 X.env)::(false,eval e2 X.env)::[])) _ _ s;calc iP (bM (g1.out ao s σ H _ I h) λu1 s1 ⟨v1,H1,I1,r1,gd1,q1⟩=>iP (qj (fN (g2.out ao s1 σ H1 _ I1 q1) (λu2 s2 ⟨v2,H2,I2,r2,gd2,q2⟩ ht=>rj ⟨show 2<=sizeLine by decide,?_⟩) λ_ _ z _=>z)));let⟨c1,c2,ev1,ev2,q⟩:=q2;subst ev1 ev2;let⟨tk1,rfl⟩:=r1;let⟨tk2,rfl⟩:=r2;let⟨_,_,eg,a0,a1⟩:=gd1;injection eg with eg1 eg2;subst eg1 eg2;let⟨_,_,eg,b0,b1⟩:=gd2;injection eg with eg1 eg2;subst eg1 eg2;let a2:tk1<s2.toks:=bu a1 ht;let I3:aM X ao σ H2 {s2 with heap:=s2.heap.push {cls:=.type "tuple",data:=.seq [Value.str (S [c1]) tk1,Value.str (S [c2]) tk2].toArray} }:=I2.kept (t':=s2.toks) λb o e=>af _ e;let sG:(s2.heap.push {cls:=.type "tuple",data:=.seq [Value.str (S [c1]) tk1,Value.str (S [c2]) tk2].toArray}).get? s2.heap.objs.size=some {cls:=.type "tuple",data:=.seq [Value.str (S [c1]) tk1,Value.str (S [c2]) tk2].toArray}:=ax _ rfl;let fa3:nZ X ao H2 s2.heap.objs.size:=I2.n6 (ah _) (I2.hok.fresh (ah _));let hT:∀h:Heap,h.get? s2.heap.objs.size=some {cls:=.type "tuple",data:=.seq [Value.str (S [c1]) tk1,Value.str (S [c2]) tk2].toArray}->h.IsTuple s2.heap.objs.size [Value.str (S [c1]) tk1,Value.str (S [c2]) tk2].toArray:=λh e=>⟨_,e,RA,_,RA⟩
 calc nI (hT _ sG) ?_;generalize hob:({cls:=.type "tuple",data:=.seq [Value.str (S [c1]) tk1,Value.str (S [c2]) tk2].toArray}:Obj)=Kg at I3 sG hT ⊢;generalize ha:s2.heap.objs.size=a at I3 sG fa3 hT ⊢;generalize hs3:({s2 with heap:=s2.heap.push Kg}:Shared)=s3 at I3 ⊢;let ht3:s3.toks=s2.toks:=by rw[<-hs3]
 let aaj:s3.heap.get? a=some Kg:=by rw[<-hs3];show sG
 let fit:nZ X ao H2 s3.heap.objs.size:=I3.n6 (ah _) (I3.hok.fresh (ah _));let nia:s3.heap.objs.size≠a:=λz=>by rw[<-z]at aaj;show absurd (a6 aaj) (iF _)
 refine(let S3:Nat->St->Hp->Prop:=λn σ' H'=>match n with| 0=>D.nx σ' H'| 1=>vV ir is it il tb c2 D σ' H'| _=>vV ir is it il tb c1 {nx:=vV ir is it il tb c2 D,rt:=D.rt} σ' H';?_)
 refine(let fp:List Addr:=[s3.heap.objs.size,a];?_)
 let stat:∀{H':Hp},(∀b∈fp,H' b=none)->∀b∈fp,nZ X ao H' b:=λhn b hb=>⟨hn b hb,by
  rcases ba.mp hb with z|z;.rw[z];show fit.2
  .rw[ap.mp z];show fa3.2⟩
 refine codeAny_forLoop_any (λn s'=>n<=2/\∃σ' H',aM X ao σ' H' s'/\s'.heap.IsTupleIter s3.heap.objs.size a (2-n)/\s'.heap.get? a=some Kg/\(∀b∈fp,H' b=none)/\s2.toks<=s'.toks/\S3 n σ' H') ?_ 2
  ⟨ah _,σ,H2,I3.kept (t':=s3.toks) λb o e=>af _ e,⟨_,ax _ RA,RA,RA⟩,af _ aaj,λb hb=>by
   rcases ba.mp hb with z|z;.rw[z];show fit.1
   .rw[ap.mp z];show fa3.1,by show s2.toks<=s3.toks;lia,q⟩
 intro n s4 z;let⟨hn,σ4,H4,I4,eU,ho4,Rg,tk4,q4⟩:=z;let hf:=stat Rg s3.heap.objs.size (by simp[fp]);let⟨f0,f1,f2,f3,f4,f5⟩:=hf;let one:∀(k:Nat) (c:Nat) (tk:Tok) (D':Ends),n=k+1->[Value.str (S [c1]) tk1,Value.str (S [c2]) tk2].toArray[2-n]?=some (Value.str (S [c]) tk)->0<tk->tk<s2.toks->D'.rt=D.rt->(∀σ' H',D'.nx σ' H'->S3 k σ' H')->vV ir is it il tb c D' σ4 H4->
   wpAny (model X.prog X.w) X.A (pyNext (.ref s3.heap.objs.size)) (λr s₁=>match r with
   | none=>wpAny (model X.prog X.w) X.A (execs [] X.env) (λf s₃=>SP X ao D f s₃) (notedBy (model X.prog X.w) X.A X.env λe s'=>cameBackBy (model X.prog X.w) X.A X.env X.xe e s') s₁
   | some v=>wpAny (model X.prog X.w) X.A (letOwnedTupleGo (.Name "sign" p1) (.ref s3.heap.objs.size) v) (λ_ s₁'=>
     wpAny (model X.prog X.w) X.A (assign (.Name "sign" p1) X.env v) (λ_ s₂=>wpAny (model X.prog X.w) X.A (execs (Ig x0 j0 j1 J_ Ka pk2 Kc Kd RQ RT RW Ke Kf vW yx yC yD vX Al Ih rest) X.env) (λf s₃=>match f with
      | .next|.cont=>∃m,m<n/\(m<=2/\∃σ' H',aM X ao σ' H' s₃/\s₃.heap.IsTupleIter s3.heap.objs.size a (2-m)/\s₃.heap.get? a=some Kg/\(∀b∈fp,H' b=none)/\s2.toks<=s₃.toks/\S3 m σ' H')
      | .brk=>SP X ao D .next s₃
      | .ret v=>SP X ao D (.ret v) s₃) (notedBy (model X.prog X.w) X.A X.env λe s'=>cameBackBy (model X.prog X.w) X.A X.env X.xe e s') s₂) (notedBy (model X.prog X.w) X.A X.env λe s'=>cameBackBy (model X.prog X.w) X.A X.env X.xe e s') s₁') (notedBy (model X.prog X.w) X.A X.env λe s'=>cameBackBy (model X.prog X.w) X.A X.env X.xe e s') s₁) (notedBy (model X.prog X.w) X.A X.env λe s'=>cameBackBy (model X.prog X.w) X.A X.env X.xe e s') s4:=by
  intro k c tk D' hk hit k0 k1 hrt hnx hq;calc fR hp (qj (wpAny_pyNext_tuple_item eU (hT _ ho4) (x:=Value.str (S [c]) tk) hit λh' st' sb Gq=>?_));let I5:aM X ao σ4 H4 {s4 with heap:=h' }:=I4.turned (t':=s4.toks) (λb o hb e=>(sb.2 b hb).trans e) f0 f1 f3 f4 f5;let⟨o5,e5,c5,d5⟩:=id st';let ho5:h'.get? a=some Kg:=(sb.2 a (kq nia)).trans ho4;calc fR hp (Fb (s:={s4 with heap:=h' }) e5 c5 d5 w_ ?_);let I5':=I5.pinned (stat Rg) (λb hb=>by
   rcases ba.mp hb with z|z;.rw[z];show⟨o5,e5,λv z=>by rw[d5]at z;cases z⟩
   .rw[ap.mp z];show⟨Kg,ho5,λv z=>by rw[<-hob]at z;cases z⟩)
  calc fR hp (bM (Xj Y I5' (t:=tk) (c:=c) (p1:=p1)) λ_ s6 zz=>?_);let⟨I6,ex6,t6⟩:=zz;calc fR hp (qj (fN (aai Y hx0 hl1 hs1 hs2 hrest I6 ex6 k0 (show tk<s6.toks from bu (bu k1 tk4) t6) hq) (λf s7 q7 ht7=>?_) λ_ _ z _=>z));cases f with
  | next=>
   let⟨σ7,H7,I7,n7⟩:=q7;let pn:∀b o,b∈fp->h'.get? b=some o->s7.heap.get? b=some o/\H7 b=none:=λb o hb e=>by have:=I7.pin (b,o) (dm _ (dm _ (o7 hb e)));show⟨this.1,this.2.1⟩
   let mi:s3.heap.objs.size∈fp:=aE;let ma:a∈fp:=ay _ (ap.mpr RA);refine⟨k,by simp_all,wT,σ7,H7,I7.n8,?_,(pn a Kg ma ho5).1,λb hb=>?_,a8 tk4 (a8 t6 ht7),hnx _ _ n7⟩
   .let e2:2-k=2-n+1:=fh wT;rw[e2];show st'.at λo e=>(pn _ o mi e).1
   .rcases ba.mp hb with z|z;.rw[z];show(pn _ o5 mi e5).2
    .rw[ap.mp z];show(pn a Kg ma ho5).2
  | cont=>let⟨_,_,_,z⟩:=q7;show z.elim
  | brk=>let⟨_,_,_,z⟩:=q7;show z.elim
  | ret v=>let⟨x7,σ7,H7,I7,r7,q7⟩:=q7;show JE x7 σ7 H7 ⟨I7.n8,r7,hrt ▸ q7⟩
 rcases(show n=0\/n=1\/n=2 by lia) with e|e|e
 .subst e;calc fR hp (wpAny_pyNext_tuple_end (I4.ok.hd hcm) eU (hT _ ho4) w8 λh' eb=>?_);show i8 ⟨σ4,H4,I4.turned (t':=s4.toks) (λb o hb e=>eb b o hb e) f0 f1 f3 f4 f5,q4⟩
 .subst e;show one 0 c2 tk2 D RA w8 b0 b1 RA (λ_ _ z=>z) q4
 .subst e;show one 1 c1 tk1 {nx:=vV ir is it il tb c2 D,rt:=D.rt} RA w8 a0 a2 RA (λ_ _ z=>z) q4
open Classical in
def afj (hu:X.A.units+64<cLine):eO X (compareOp .In) (ZM X.K false):=by walk_at"f";let⟨n,d,es,hn,hd,he,q⟩:=h;let⟨as,ra⟩:=hd.reads I rx;let⟨bs,rb⟩:=he.reads I ry;let l1:=hd.lay;let l2:=he.lay;rw[toP]at rb;simp only[toP,PyData.canLay0,PyData.depth]at l2;calc SeqAt.in_tuple_reads rb ra l2.1 l1.1 (by have:=vS (PyData.depthAll (d_ es)) (toP d).depth;lia) ⟨.bl _,H,I,RA,?_⟩;rw[HF];show q
def RX {X:Cx}(K:W.Frag)(hu:X.A.units+64<cLine)(h:X.K=K:=by rfl):eO X (compareOp .In) (ZM K false):=by subst h;show afj hu
def KQ (x k):checkTypeCall "enumerate" ⟨[x],[(Str.ofString "start",k)]⟩=pure ():=by kernel_rfl
def N6 (x k):checkBuiltinCall "enumerate.__new__" ⟨[.type "enumerate",x],[(Str.ofString "start",k)]⟩=pure ():=by kernel_rfl
def KR (o x k):argsOk "object.__init__" ⟨[o,x],[(Str.ofString "start",k)]⟩:=by first|show .of_eq xb|show xb|trivial
def agA (x:Str)(t:Tok)(k:Nat)(tk:Tok)(hk:k<1000):Meets (Builtin.«enumerate.__new__» ⟨[.type "enumerate",.str x t],[(Str.ofString "start",.int (k:Int) tk)]⟩) (λ_ R s=>
   R (.ok (.ret (.ref (s.heap.push {cls:=.type (strIterType x),data:=.fields #[.str x t,.int 0 0]}).objs.size)))
    {s with heap:=(s.heap.push {cls:=.type (strIterType x),data:=.fields #[.str x t,.int 0 0]}).push {cls:=.type "enumerate",data:=.fields #[.none,.bool false,.ref s.heap.objs.size,rawInt k,.none,.none]} }):=
 .of_wp λprog w A R s h=>by
  let⟨hp,g,d,tk0,os⟩:=s;let hsub:=sub_enumerate;let hfit:Builtin.SmallTypes.fitsIndex (k:Int)=true:=by unfold Builtin.SmallTypes.fitsIndex;simp only[df,im];lia
  let e1:Builtin.SmallTypes.indexObject "enumerate.__new__" (Value.int (k:Int) tk)=pure (Value.int (k:Int) tk):=by kernel_rfl
  let e2:asInt? (Value.int (k:Int) tk)=pure (some (k:Int)):=by kernel_rfl
  wp_walk
  refine wpAny_stack_any λst=>ag ?_
  split
  .rename_i c _ _ _ _ _;cases(c==Value.type "enumerate")
   .dsimp only;simp only[a7,if_false,if_true];calc aa ?_;refine og (a:=(Value.str x t,some (Value.int (k:Int) tk))) ?e ?_
    (case e=>kernel_rfl)
    simp only[e1,pure_bind,e2,hfit,dE,a7,if_false]
    wp_walk using oq
    show⟨_,RA,h⟩
   .dsimp only;simp only[a7,if_false,if_true];calc aa ?_;refine og (a:=(Value.str x t,some (Value.int (k:Int) tk))) ?e ?_
    (case e=>kernel_rfl)
    simp only[e1,pure_bind,e2,hfit,dE,a7,if_false]
    wp_walk using oq
    show⟨_,RA,h⟩
  .dsimp only;simp only[a7,if_false,if_true];calc aa ?_;refine og (a:=(Value.str x t,some (Value.int (k:Int) tk))) ?e ?_
   (case e=>kernel_rfl)
   simp only[e1,pure_bind,e2,hfit,dE,a7,if_false]
   wp_walk using oq
   show⟨_,RA,h⟩
def Ii (hl:typeLookup (.type T) "__init__"=pure (some (.builtin "object.__init__")))(hm:Bind.madeBy (.type T)=pure (some newId))(hne:(some newId != some "object.__new__")=true):Meets (Builtin.«object.__init__» ⟨[self,a],kw⟩) (λ_ R s=>s.TypeIs self T/\R (.ok (.ret .none)) s):=by
 calc Meets.of_wp λprog w A R s hs=>?_;let⟨hT,hq⟩:=hs
 repeat (any_goals (first|assumption|wp_step))
 show⟨_,RA,hq⟩
def Qn {T newId initId:String}{Bn Bi:Builtin}{kw:List (Str×Value)}{S:PySem.Spec}{Q Q₁:AB}(ft:TypeCalled T newId initId)(hct:checkTypeCall T ⟨args,kw⟩=pure ())(hcn:checkBuiltinCall newId ⟨.type T::args,kw⟩=pure ())(entryN:entryFor table newId=some Bn)(entryI:entryFor table initId=some Bi)(g:Meets (Bn ⟨.type T::args,kw⟩) S)(h:S A.in1 (wants Q₁ E) s)(hnext:∀obj s₁,Q₁ obj s₁->s₁.TypeIs obj T/\argsOk initId ⟨obj::args,kw⟩/\∃Si,Meets (Bi ⟨obj::args,kw⟩) Si/\Si A.in1 (wants (λr s₂=>r=.none/\Q obj s₂) E) s₁):wpAny (model prog w) A (call (.type T) args kw) Q E s:=by
 let⟨c,tl,hmro⟩:=ft.mro;let hmade:=ft.made;let hsub:=ft.sub;calc vy (codeAny_of_tree ?_);show wpAny _ _ (callAny (.type T) _) _ _ _;calc ag ⟨uB _ xc,iq F.entry_type_call ?_⟩;rw[Around.under_plain (weight_type_call_type T args kw) (units_type_call_type T args kw)];let h1:=ft.notType;let h2:=ft.canCreate
 repeat (any_goals (first|assumption|wp_step))
 calc i9 (tz ft.plain entryN (og hcn (g prog w A.in1 _ s h))) λr s₁ hr=>?_;cases r with
 | error e=>show hr
 | ok fl=>
  cases fl with
  | ret obj=>
   let⟨hT,hok,Si,gi,hsi⟩:=hnext _ _ hr;let hli:=ft.init.lookup;let hbi:=ft.init.bind obj
   repeat (any_goals (first|assumption|wp_step))
   calc i9 (tz ft.init.plain entryI (ft.init.check _ _ _ _ _ _ _ _ hT hok (gi prog w A.in1 _ s₁ hsi))) λr₂ s₂ hr₂=>?_;cases r₂ with
   | error e=>show hr₂
   | ok fl₂=>
    cases fl₂ with
    | ret r=>
     let⟨rfl,hq⟩:=hr₂
     repeat (any_goals (first|assumption|wp_step))
    | _=>show hr₂.elim
  | _=>show hr.elim
def Qo {x:Str}{t tk:Tok}{k:Nat}(hk:k<1000){Q:AB}(h:∀h',IsEnum h' (s.heap.objs.size+1) s.heap.objs.size k .none->h'.IsStrIter s.heap.objs.size (strIterType x) x t 0->h'.objs.size=s.heap.objs.size+2->
   (∀b o,s.heap.get? b=some o->h'.get? b=some o)->Q (.ref (s.heap.objs.size+1)) {s with heap:=h' }) :
  wpAny (model prog w) A (call (.type "enumerate") [.str x t] [(Str.ofString "start",.int (k:Int) tk)]) Q E s:=by
 refine Qn (Q₁:=λobj s₁=>s₁.TypeIs obj "enumerate"/\Q obj s₁) qo (KQ _ _) (N6 _ _) F.entry_enumerate_new F.entry_object_init (agA x t k tk hk) ?_
  λobj _ hq=>⟨hq.1,KR obj _ _,_,Ii qo.init.lookup qo.made w_,hq.1,RA,hq.2⟩
 let hz:(s.heap.push {cls:=.type (strIterType x),data:=.fields #[.str x t,.int 0 0]}).objs.size=s.heap.objs.size+1:=dA ..;show _/\_;rw[hz];let he:IsEnum ((s.heap.push {cls:=.type (strIterType x),data:=.fields #[.str x t,.int 0 0]}).push
   {cls:=.type "enumerate",data:=.fields #[.none,.bool false,.ref s.heap.objs.size,rawInt k,.none,.none]}) (s.heap.objs.size+1) s.heap.objs.size k .none:=by
  have:=ax (s.heap.push {cls:=.type (strIterType x),data:=.fields #[.str x t,.int 0 0]})
   (o:={cls:=.type "enumerate",data:=.fields #[.none,.bool false,.ref s.heap.objs.size,rawInt k,.none,.none]}) rfl
  rw[hz]at this;show this
 refine⟨⟨_,he,RA⟩,h _ he ⟨_,af _ (ax _ RA),RA,RA⟩ (by rw[dA,hz]) λb o y=>af _ (af _ y)⟩
def N7 {M:Model}{E:AB}{env:Env}{T:String}{e:Expr}{rest:List Expr}{kws:List Keyword}{Q:AB}(h:wpAny M A (spliced (backTo pos (starEach (e::rest) env))) (λvs s₁=>wpAny M A (evalAll ((backToKw pos (keywordEach kws env)).map (·.2)))
   (λkvs s₂=>wpAny M A (call (.type T) vs (((backToKw pos (keywordEach kws env)).filterMap (·.1)).zip kvs)) Q E s₂) E s₁) E s)
  (he:backTo pos (starEach (e::rest) env)=(false,eval e env)::backTo pos (starEach rest env):=by rfl)
  (hplain:(backTo pos (starEach (e::rest) env)).any (·.1)=false:=by rfl)
  (hall:(backToKw pos (keywordEach kws env)).all (·.1.isSome)=true:=by rfl)
  (hkw:(backToKw pos (keywordEach kws env)).any (·.1.isNone)=false:=by rfl) :
  wpAny M A (callWith pos (.type T) [] (backTo pos (starEach (e::rest) env)) (backToKw pos (keywordEach kws env))) Q E s:=by
 unfold callWith;rw[he]at h hplain ⊢;calc aa (fe (fN (evalArgs_kwB (f:=.type T) (Q:=λa s₁=>wpAny M A (call (.type T) ([]++a.pos) a.kw) Q E s₁) hall h) (λa s₁ h₁=>aa (r_ ?_)) λ_ _ x=>x));simp only[hplain,hkw,sd];calc aa (ag ?_);show aa (fN h₁ (λr s₂ hr=>aa (fe (wpAny_point (ag hr)))) λ_ _ x=>x)
end
def afk (ta tk:TE):TI:=λσ H R=>ta σ H λx H1=>tk σ H1 λy H2=>∃(l:List Nat) (k:Nat),[x]=[V.str (S l)]/\[y]=[V.int (k:Int)]/\k<1000/\R (Ab l k) H2
section
variable {X:Cx}{elts:List Expr}{x1:Nat}{tp:Pos}
def aak {a e:Expr}{ta tk:TE}{p pos kpos:Pos}(hg:Gl X "enumerate")(hm:X.mg "enumerate"=none)(ha:QE X a ta)(hk:QE X e tk)(hs:starEach [a] X.env=(false,eval a X.env)::starEach [] X.env:=by rfl)(hst:backTo pos (starEach [a] X.env)=(false,eval a X.env)::backTo pos (starEach [] X.env):=by rfl)(hpl:(backTo pos (starEach [a] X.env)).any (·.1)=false:=by rfl)(hall:(backToKw pos (keywordEach [⟨some (Str.ofString "start"),e,kpos⟩] X.env)).all (·.1.isSome)=true:=by rfl)(hkw:(backToKw pos (keywordEach [⟨some (Str.ofString "start"),e,kpos⟩] X.env)).any (·.1.isNone)=false:=by rfl)(hks:(backToKw pos (keywordEach [⟨some (Str.ofString "start"),e,kpos⟩] X.env)).filterMap (·.1)=[Str.ofString "start"]:=by rfl):QI X (.Tuple elts x1 tp) (.Call (.Name "enumerate" p) [a] [⟨some (Str.ofString "start"),e,kpos⟩] pos) (afk ta tk):=⟨by
 intro ao s σ H R I h;calc kH (mX I hg hm boot_enumerate ?_ w_ w_);let pa:=(aj ha aq hs).out;let pk:=abY (nm:=some (Str.ofString "start")) (kpos:=kpos) hk.out aej;calc N7 (bM (pa pos ao s σ H (λvs H1=>tk σ H1 λy H2=>∃(l:List Nat) (k:Nat),vs=[V.str (S l)]/\[y]=[V.int (k:Int)]/\k<1000/\R (Ab l k) H2) I ?_) λus s1 ⟨vs,H1,I1,r1,q1⟩=>?_) hst hpl hall hkw;.show h
 .refine bM (pk pos ao s1 σ H1 (λzs H2=>∃(l:List Nat) (k:Nat),vs=[V.str (S l)]/\zs=[V.int (k:Int)]/\k<1000/\R (Ab l k) H2) I1 ?_) λws s2 ⟨zs,H2,I2,rz,q2⟩=>?_
  .show q1
  .let⟨l,k,rfl,rfl,hk1,q⟩:=q2;let⟨u,rfl,t,rfl⟩:=vals1 r1;let⟨u2,rfl,t2,rfl⟩:=vals1 rz;rw[hks];let hty:strIterType (S l)="str_ascii_iterator"\/strIterType (S l)="str_iterator":=by unfold strIterType;split <;> simp
   calc Qo hk1 λh' he hit hsz hk=>ox he ?_;calc JJ (s2.heap.objs.size+1) [s2.heap.objs.size+1,s2.heap.objs.size] _ _ H2 ⟨RA,I2.kept (t':=s2.toks) hk,FQ hty l k t s2.heap.objs.size _,⟨vT _,cw _,⟨_,he⟩,hit⟩,λb hb=>?_,q⟩;rcases ba.mp hb with z|z
   .rw[z];show I2.n6 (gy _) (I2.hok.fresh (gy _))
   .rw[ap.mp z];show I2.n6 (ah _) (I2.hok.fresh (ah _))⟩
end
def Xk {l:List Nat}{k:Nat}{g:TG}{tb:TS}{D:Ends}{σ:St}{H:Hp}(Pv:Nat->St->Hp->Prop)(h0:Pv 0 σ H)(hs:∀i c σ H T,l[i]?=some c->Pv i σ H->H T=none->g (.ref T) σ (upd H T (.tup [.int ((k+i:Nat):Int),.str (S [c])])) λσ2 H2=>tb {D with nx:=Pv (i+1),ct:=Pv (i+1),bk:=D.nx} σ2 H2)(hd:∀σ H,Pv l.length σ H->D.nx σ H):Du (Ab l k) g tb D σ H:=Mi l.length Pv h0 (λi σ H h p=>⟨h,λx H' y=>by let⟨T,c,hT,rfl,hc,rfl⟩:=y;show hs i c σ _ T hc p hT⟩) λσ H p=>⟨ah _,hd σ H p⟩
end L2
namespace L2
open PySem PySem.Spec PyProof.Rows PySem.W
section
variable {prog:Program}{w:World}{A:Around}{E:AB}{s:Shared}{z ti to u v a:Addr}{i:Nat}{f:Array Value}{x y m n:Value}
def Xl {nv:Nat}{PV:Nat->Value->Prop}{SV:Nat->Heap->Prop}(DV:Draws prog w A v [v] nv PV SV){Q:AB}(D:ZA z ti to u v a a)(hz:IsZip s.heap z ti to .none)(hi:IsPair s.heap ti (.ref u) (.ref v))(ho:IsPair s.heap to m n)(hu:s.heap.IsListIter u a i)(hv:SV i s.heap)(ha:s.heap.IsList a f)(hx:f[i]?=some x)(hlt:i<nv)(q:∀y h' tk,PV i y->IsZip h' z ti to (rawInt s.heap.objs.size)->IsPair h' to x y->h'.IsListIter u a (i+1)->SV (i+1) h'->IsPair h' s.heap.objs.size x y->
   (∀c o,c≠z->c≠to->c≠u->c≠v->s.heap.get? c=some o->h'.get? c=some o)->Q (.ref s.heap.objs.size) {s with heap:=h',toks:=tk}) :
  wpAny (model prog w) A (Builtin.«zip.__next__» ⟨[.ref z],[]⟩) (λfin s'=>∃r,fin=.done (.ret r)/\Q r s') E s:=by
 show wpAny _ _ (field (.ref z) 2 >>= _) _ _ _;walk_at"c";calc aa ?_;walk_at"e";replace z1:IsZip g1 z ti to .ellipsis:=z1;calc aa ?_;simp only[oS,tj,fc,q0];calc aa (aa (ny ?_));walk_at"d";replace o3:IsPair g3 to x n:=o3;calc aa (uu (ag ?_));calc aa (aa (ny ?_));show wpAny _ _ (Builtin.SmallTypes.nextOf (.ref v) >>= _) _ _ _;calc aa (DV.item i _ _ _ hlt (DV.frame _ _ _ hv λc hc o e=>by rw[ap.mp hc]at e ⊢;show k3.extBut _ o D.q9.symm (k2.extBut _ o D.p1.symm (k1.extBut _ o D.q4 e))) λy g4 tk hpy v4 k4=>ag ?_);let o4:IsPair g4 to x n:=k4.extBut _ _ D.q9 o3;calc aa (eI o4 RA (aa (lI o4 λg5 o5 k5=>?_)));replace o5:IsPair g5 to x y:=o5;calc aa (uu (ag (ag ?_)));calc aa (eI o5 RA (aa (uk ?_)));let sz:g5.objs.size=s.heap.objs.size:=by rw[k5.1,k4.1,k3.1,k2.1,k1.1]
 walk_at"h";let v5:SV (i+1) g5:=DV.frame _ _ _ v4 λc hc o e=>by rw[ap.mp hc]at e ⊢;show k5.extBut _ o D.q9.symm e
 let lz:z<g5.objs.size:=a6 z5;show wpAny _ _ (Builtin.SmallTypes.ownedTupleHandOut (.ref z) (.ref g5.objs.size) >>= _) _ _ _;calc aa ?_;unfold Builtin.SmallTypes.ownedTupleHandOut;let z6:IsZip (g5.push {cls:=.type "tuple",data:=.seq #[x,y]}) z ti to .ellipsis:=af _ z5;calc aa (f6 z6 w8 λg7 z7 k7=>?_);replace z7:IsZip g7 z ti to (rawInt g5.objs.size):=z7;refine f6 z7 w8 λg8 z8 k8=>?_
 replace z8:IsZip g8 z ti to (rawInt g5.objs.size):=z8;let up:∀c o,c≠z->g5.get? c=some o->g8.get? c=some o:=λc o c1 e=>k8.extBut _ _ c1 (k7.extBut _ _ c1 (af _ e));let t8:IsPair g8 g5.objs.size x y:=k8.extBut _ _ (g6 lz) (k7.extBut _ _ (g6 lz) (ax _ RA));rw[sz]at z8 t8;calc ag ⟨_,RA,?_⟩;show Q (.ref g5.objs.size) _;rw[sz];show q y g8 tk hpy z8 (up _ _ D.q2 o5) (u5.at λo e=>up _ o D.q3 e) (DV.frame _ _ _ v5 λc hc o e=>by rw[ap.mp hc]at e ⊢;show up _ o D.q4 e) t8 λc o c1 c2 c3 c4 e=>up c o c1 (kk c o c1 c2 c3 c4 e)
def aal (hh:A.handled=none)(D:ZA z ti to u v a a)(hz:IsZip s.heap z ti to .none)(hi:IsPair s.heap ti (.ref u) (.ref v))(hu:s.heap.IsListIter u a i)(ha:s.heap.IsList a f)(hx:f[i]?=none)(q:∀h' e,(∀c o,c≠z->c≠to->c≠u->c≠v->s.heap.get? c=some o->h'.get? c=some o)->(∃o,h'.get? e=some o/\o.cls=.type "StopIteration")->E (.ref e) {s with heap:=h' }):wpAny (model prog w) A (Builtin.«zip.__next__» ⟨[.ref z],[]⟩) Q E s:=by
 show wpAny _ _ (field (.ref z) 2 >>= _) _ _ _;walk_at"c";calc aa ?_;walk_at"e";replace z1:IsZip g1 z ti to .ellipsis:=z1;calc aa ?_;simp only[oS,tj,fc,q0];calc aa (aa (ny ?_));show wpAny _ _ (Builtin.SmallTypes.nextOf (.ref u) >>= _) _ _ _;calc aa (wpAny_nextOf_list_end hh (hu.at λo e=>k1.extBut _ o D.q3 e) (l_ ha λo e=>k1.extBut _ o D.p2 e) hx λg2 e k2 he=>?_);let⟨oe,e1,e2⟩:=he;let z2:IsZip g2 z ti to .ellipsis:=k2 _ _ D.q3.symm z1;let ez:e≠z:=λt=>by subst t;rw[z2]at e1;cases e1;simp at e2
 show f6 z2 w8 λg3 _ k3=>q g3 e (λc o c1 _ c3 _ t=>k3.extBut _ _ c1 (k2 _ _ c3 (k1.extBut _ _ c1 t))) ⟨oe,k3.extBut _ _ ez e1,e2⟩
abbrev zm2 (h:Heap)(a:Addr)(x:Str)(t:Tok):Heap:=(J1 h a).push {cls:=.type (strIterType x),data:=.fields #[.str x t,.int 0 0]}
abbrev zm3 (h:Heap)(a:Addr)(x:Str)(t:Tok):Heap:=(zm2 h a x t).push {cls:=.type "tuple",data:=.seq #[.ref h.objs.size,.ref (J1 h a).objs.size]}
abbrev zm4 (h:Heap)(a:Addr)(x:Str)(t:Tok):Heap:=(zm3 h a x t).push {cls:=.type "tuple",data:=.seq #[.none,.none]}
abbrev RZ (h:Heap)(a:Addr)(x:Str)(t:Tok):Heap:=(zm4 h a x t).push {cls:=.type "zip",data:=.fields #[.none,.bool false,.bool false,.ref (zm2 h a x t).objs.size,.ref (zm3 h a x t).objs.size]}
def acN (a)(x)(t:Tok)(f):Meets (Builtin.«zip.__new__» ⟨[.type "zip",.ref a,.str x t],[]⟩) (λ_ R s=>s.heap.IsList a f/\R (.ok (.ret (.ref (zm4 s.heap a x t).objs.size))) {s with heap:=RZ s.heap a x t}):=
 .of_wp λprog w A R s h=>by
  let⟨hp,gs,d,tk,os⟩:=s;let⟨h1,h⟩:=h;let hsub:=sub_zip;let j1:Heap.IsList (Shared.heap ⟨hp,gs,d,tk,os⟩) a f:=h1
  wp_walk using kr j1,oq
  show⟨_,RA,h⟩
def ahe {x:Str}(ha:s.heap.IsList a f)(q:∀h',IsZip h' (s.heap.objs.size+4) (s.heap.objs.size+2) (s.heap.objs.size+3) .none->IsPair h' (s.heap.objs.size+2) (.ref s.heap.objs.size) (.ref (s.heap.objs.size+1))->IsPair h' (s.heap.objs.size+3) .none .none->
   h'.IsListIter s.heap.objs.size a 0->h'.IsStrIter (s.heap.objs.size+1) (strIterType x) x t 0->(∀c o,s.heap.get? c=some o->h'.get? c=some o)->Q (.ref (s.heap.objs.size+4)) {s with heap:=h' }) :
  wpAny (model prog w) A (call (.type "zip") [.ref a,.str x t]) Q E s:=by
 calc callType_new F.called_zip w_ (F.typeCall_zip_2 _ _) (F.newCall_zip_2 _ _) (λobj=>F.args_object_init_3 obj _ _) F.entry_zip_new (acN a x t f) ⟨ha,?_⟩;let n1:(J1 s.heap a).objs.size=s.heap.objs.size+1:=dA ..;let n2:(zm2 s.heap a x t).objs.size=s.heap.objs.size+2:=by rw[dA,n1]
 let n3:(zm3 s.heap a x t).objs.size=s.heap.objs.size+3:=by rw[dA,n2]
 let n4:(zm4 s.heap a x t).objs.size=s.heap.objs.size+4:=by rw[dA,n3]
 let e5:(RZ s.heap a x t).get? (zm4 s.heap a x t).objs.size=some _:=ax _ rfl;let e4:(RZ s.heap a x t).get? (zm3 s.heap a x t).objs.size=some _:=af _ (ax _ RA);let e3:(RZ s.heap a x t).get? (zm2 s.heap a x t).objs.size=some _:=af _ (af _ (ax _ RA));let e2:(RZ s.heap a x t).get? (J1 s.heap a).objs.size=some _:=af _ (af _ (af _ (ax _ RA)));let e1:(RZ s.heap a x t).get? s.heap.objs.size=some _:=af _ (af _ (af _ (af _ (ax _ RA))));show _/\_;rw[n2,n3,n4]at e5;rw[n1,n2]at e3;rw[n3]at e4;rw[n1]at e2;rw[n4];show⟨⟨_,e5,RA⟩,q _ e5 e3 e4 ⟨_,e1,RA,RA⟩ ⟨_,e2,RA,RA⟩ λc o t=>af _ (af _ (af _ (af _ (af _ t))))⟩
end
def Uy (K:W.Frag)(a:Addr)(l:List Nat):It:=⟨λi H=>∃xs x,aP K H a xs/\xs[i]?=some x/\i<l.length,λi H t H'=>∃T x c,H T=none/\t=.ref T/\(∀xs,aP K H a xs->xs[i]?=some x)/\l[i]?=some c/\H'=upd H T (.tup [x,.str (S [c])]),λi H=>∃xs,aP K H a xs/\xs.length<=i⟩
def Xm {P:Program}{w:World}{K:W.Frag}{elts:List Expr}{x1:Nat}{pos:Pos}{z ti to u v a:Addr}{ty:String}(hty:ty="str_ascii_iterator"\/ty="str_iterator")(l:List Nat)(t:Tok)(D:ZA z ti to u v a a):Turn P w K (.Tuple elts x1 pos) (Uy K a l) [z,ti,to,u,v] z (λi h=>IsZip h z ti to .none/\IsPair h ti (.ref u) (.ref v)/\(∃m n,IsPair h to m n)/\h.IsListIter u a i/\h.IsStrIter v ty (S l) t i) where
 mem:=by simp
 obj:=λi h st c hc=>by
  obtain⟨h1,h2,⟨m,n,h3⟩,⟨o4,h4,_,d4⟩,⟨o5,h5,_,d5⟩⟩:=st;simp only[ba,e_,or_false]at hc;rcases hc with e|e|e|e|e <;> subst e
  .show⟨_,h1,λv y=>by cases y⟩
  .show⟨_,h2,λv y=>by cases y⟩
  .show⟨_,h3,λv y=>by cases y⟩
  .show⟨o4,h4,λv y=>by rw[d4]at y;cases y⟩
  .show⟨o5,h5,λv y=>by rw[d5]at y;cases y⟩
 keep:=λi h h' st k=>by obtain⟨h1,h2,⟨m,n,h3⟩,h4,o,h5,r⟩:=st;show⟨k z w8 _ h1,k ti w8 _ h2,⟨m,n,k to w8 _ h3⟩,h4.at λo e=>k u w8 o e,o,k v w8 o h5,r⟩
 item:=by
  walk_at"i";obtain⟨h1,h2,⟨m,n,h3⟩,h4,h5⟩:=st;let⟨xs,x,hxs,hx,hil⟩:=hg;let⟨fs,rf,pf,_⟩:=I.list hxs;let⟨p,ep,rp⟩:=rf.get hx;let lt:∀c∈[z,ti,to,u,v],c<s.heap.objs.size:=λc hc=>by
   simp only[ba,e_,or_false]at hc;rcases hc with e|e|e|e|e <;> subst e
   .show a6 h1
   .show a6 h2
   .show a6 h3
   .let⟨o,e,_⟩:=h4;show a6 e
   .let⟨o,e,_⟩:=h5;show a6 e
  let hT:s.TypeIs (.ref z) "zip":=⟨_,h1,RA⟩
  let hh:X.A.in1.handled=none:=by simp[I.ok.hd hc]
  let fin:∀(DV:Draws X.prog X.w X.A.in1 v [v] (S l).cps.size (λi w=>∃c u,(S l).cps[i]?=some c/\w=.str ⟨#[c]⟩ u) (λi h=>h.IsStrIter v ty (S l) t i)),
    wpAny (model X.prog X.w) X.A (pyNext (.ref z)) (λr s1=>∃u1,r=some u1/\wpAny (model X.prog X.w) X.A (letOwnedTupleGo (.Tuple elts x1 pos) (.ref z) u1) (λ_ s2=>∃x H',aM X ao σ H' s2/\bN x u1/\(Uy X.K a l).Jz i H x H'/\(IsZip s2.heap z ti to .none/\IsPair s2.heap ti (.ref u) (.ref v)/\(∃m n,IsPair s2.heap to m n)/\s2.heap.IsListIter u a (i+1)/\s2.heap.IsStrIter v ty (S l) t (i+1))/\∀b∈[z,ti,to,u,v],H' b=none) E s1) E s:=by
   intro DV;unfold pyNext;calc aa (iL (dC (name:=Str.ofString "__next__") hT jI (cE jI hT si ?_ (rL _))));calc Xl DV D h1 h2 h3 h4 h5 (show s.heap.IsList a fs.toArray from pf.isList) (x:=p) (by simpa using ep) (by simpa [S] using hil) λy h' tk hPy k1 k2 k3 k4 k5 k6=>ag ?_;let⟨c,ut,hcl,rfl⟩:=hPy;calc⟨_,RA,wpAny_letOwnedTupleGo_zip k1 λh2' e2 sb=>?_⟩;let up:∀c o,c∉[z,ti,to,u,v]->s.heap.get? c=some o->h2'.get? c=some o:=λc o hc e=>by simp only[ba,e_,or_false,not_or]at hc;show sb.extBut _ _ hc.1 (k6 c o hc.1 hc.2.2.1 hc.2.2.2.1 hc.2.2.2.2 e)
   let nz:s.heap.objs.size≠z:=g6 (lt z w8);let⟨I3,fr⟩:=aM.abp (y:=.str (S [c])) (tk:=tk) I hf lt rp ⟨ut,RA⟩ (sb.extBut _ _ nz k5) up;let⟨o5,k4,r5⟩:=k4;show⟨.ref s.heap.objs.size,_,I3,RA,(JE s.heap.objs.size x c ⟨I.hok.fresh (ah _),RA,λzs hz=>by rw[I.xT hz hxs];show hx,by simpa [S] using hcl,RA⟩),
    ⟨e2,sb.extBut _ _ D.q1 (k6 _ _ D.q1 D.q5 D.q6 D.q7 h2),⟨_,_,sb.extBut _ _ D.q2 k2⟩,k3.at λo e=>sb.extBut _ o D.q3 e,o5,sb.extBut _ _ D.q4 k4,r5⟩,fr⟩
  rcases hty with rfl|rfl;.show fin (Draws.strAscii hh v (S l) t)
  .show fin (Draws.strWide hh v (S l) t)
 done:=by
  walk_at"i";obtain⟨h1,h2,⟨m,n,h3⟩,h4,h5⟩:=st;let⟨xs,hxs,hl⟩:=hg;let⟨fs,rf,pf,_⟩:=I.list hxs;let bW:=rf.length;let hh:X.A.in1.handled=none:=by simp[I.ok.hd hc]
  let hT:s.TypeIs (.ref z) "zip":=⟨_,h1,RA⟩
  unfold pyNext;calc aa (iL (dC (name:=Str.ofString "__next__") hT jI (cE jI hT si ?_ (rL _))));calc aal hh D h1 h2 h4 (show s.heap.IsList a fs.toArray from pf.isList) (by simp;simp_all) λh' e k zz=>?_;let⟨o,e1,e2⟩:=zz;calc aa (f_ (T:="StopIteration") (b:=true) ⟨o,e1,e2⟩ isSubtype_stop ?_);calc ag ⟨RA,aM.BR (fp:=[z,ti,to,u,v]) (t':=s.toks) I (λc o hc e=>?_) hf⟩;simp only[ba,e_,or_false,not_or]at hc;show k c o hc.1 hc.2.2.1 hc.2.2.2.1 hc.2.2.2.2 e
 self:=λA i s Q E st h=>sk st.1 h
section
variable {X:Cx}{elts:List Expr}{x1:Nat}{tp:Pos}
def agB (K:W.Frag)(ta:TA):TI:=λσ H R=>ta σ H λvs H1=>∃a l,vs=[.ref a,.str (S l)]/\(∃xs,aP K H1 a xs)/\R (Uy K a l) H1
def acO {a b:Expr}{ta:TA}{p pos:Pos}(hg:Gl X "zip")(hm:X.mg "zip"=none)(ha:QA X [a,b] ta)(hs:starEach [a,b] X.env=[(false,eval a X.env),(false,eval b X.env)]:=by rfl)(hs2:starEach [b] X.env=[(false,eval b X.env)]:=by rfl):QI X (.Tuple elts x1 tp) (.Call (.Name "zip" p) [a,b] [] pos) (agB X.K ta):=⟨by
 intro ao s σ H R I h;calc Call_ (mX I hg hm J0 (fv (bM (ha.out pos ao s σ H _ I h) λus s1 zz=>?_) (by rw[hs,hs2]) (by rw[hs2];rfl)));let⟨vs,H1,I1,r1,q1⟩:=zz;obtain⟨a,l,e,⟨xs,hxs⟩,q⟩:=q1;subst e;cases r1 with
 | cons r rr=>
  cases rr with
  | cons r' rr=>
   cases rr;cases r;let⟨t,rfl⟩:=r';let⟨fs,rf,pf,_⟩:=I1.list hxs;let la:a<s1.heap.objs.size:=by
    let⟨o,ho,_⟩:=(show s1.heap.IsList a fs.toArray from pf.isList)
    show a6 ho
   let hty:strIterType (S l)="str_ascii_iterator"\/strIterType (S l)="str_iterator":=by unfold strIterType;split <;> simp
   calc ahe (show s1.heap.IsList a fs.toArray from pf.isList) λh' k1 k2 k3 k4 k5 kk=>sk k1 ?_;let D:ZA (s1.heap.objs.size+4) (s1.heap.objs.size+2) (s1.heap.objs.size+3) s1.heap.objs.size (s1.heap.objs.size+1) a a:=by
    let key:∀N a b:Nat,a<N->b<N->ZA (N+4) (N+2) (N+3) N (N+1) a b:=λN a b la lb=>by constructor <;> (show (_:Nat)≠_) <;> lia
    show key _ _ _ la la
   calc JJ (s1.heap.objs.size+4) [s1.heap.objs.size+4,s1.heap.objs.size+2,s1.heap.objs.size+3,s1.heap.objs.size,s1.heap.objs.size+1] _ _ H1 ⟨RA,I1.kept (t':=s1.toks) kk,Xm hty l t D,⟨k1,k2,⟨_,_,k3⟩,k4,k5⟩,λc hc=>?_,q⟩;let hc':s1.heap.objs.size<=c:=by
    simp only[ba,e_,or_false]at hc;let key:∀N c:Nat,(c=N+4\/c=N+2\/c=N+3\/c=N\/c=N+1)->N<=c:=λN c h=>by lia
    show key _ _ hc
   show I1.n6 hc' (I1.hok.fresh hc')⟩
end
def afl {K KT:W.Frag}{a:Addr}{xs:List V}{l:List Nat}{f:St->St}{tt:TT}(bW:xs.length=l.length){D:Addr}{te:TE}{σ:St}{H:Hp}{R:Hp->Prop}(Pv:Nat->List V->Hp->Prop)(h0:Pv 0 [] (upd H D (.lst [])))(hl:∀i ys H,i<=xs.length->Pv i ys H->aP K H a xs)(hs:∀i x c ys H T,xs[i]?=some x->l[i]?=some c->Pv i ys H->H T=none->vf xs.length i D (λv H Q=>∃a p q,v=.ref a/\aN KT H a [p,q]/\Q [some p,some q]) f σ tt te (.ref T) (upd H T (.tup [x,.str (S [c])])) ys (Pv (i+1)))(hd:∀ys H,Pv xs.length ys H->R H):rH (Uy K a l) D H R (CZ (λv H Q=>∃a p q,v=.ref a/\aN KT H a [p,q]/\Q [some p,some q]) f σ tt te):=Dz xs.length Pv h0 (λi ys H h p=>⟨⟨xs,xs[i],hl i ys H (aT h) p,by simp[h],bW ▸ h⟩,λx H' y=>by let⟨T,x,c,hT,rfl,hx,hc,rfl⟩:=y;show hs i x c ys H T (hx xs (hl i ys H (aT h) p)) hc p hT⟩) λys H p=>⟨⟨xs,hl _ ys H (ah _) p,ah _⟩,hd ys H p⟩
section
variable {X:Cx}
def Xn (K:W.Frag):List V->Hp->VK->Prop:=λxs H Q=>∃(L:Addr) (as:List Addr) (lf:Addr->List T3),xs=[.ref L]/\aN K H L (as.map V.ref)/\as.length<=4000/\(∀a∈as,rM K H a (lf a))/\
 ∀(p:Addr) (as':List Addr),H p=none->as'.Perm as->NT (as'.map lf)->Q (.ref p) (upd H p (.lst (as'.map V.ref)))
def Gr (hu:X.A.units+64<cLine):fU X (.builtin "sorted") (Xn X.K):=by walk_at"k";let⟨L,as,lf,rfl,hS,hz,hl,q⟩:=h;let⟨u,rfl,ru⟩:=vals1 r;cases ru;let la:=Ie I hl;calc Dg (cf:=λa=>jl (lf a)) I (.inr hS) hz (λh' kp h2 Q' E' q'=>NQ (la.keeps kp) wT q') (λh' kp=>RL (la.keeps kp) (show X.A.units+1+1+2<cLine by lia)) λp as' hp pm up=>q p as' hp pm ?_;unfold NT;rw[ed];show up
end
end L2
namespace L2
open PySem
theorem eS {n:Nat}{P:List Value->Prop}(h:∀a us,us.length=n->P (a::us)):∀us,us.length=n+1->P us
 | a::us,e=>h a us (Nat.succ.inj e)
@[elab_as_elim] theorem e1 {P:List Value->Prop} (h:∀a,P [a]) (us:List Value) (hl:us.length=1):P us:=eS (λa us e=>(by rw[tJ e];show h a)) us hl
@[elab_as_elim] theorem e2 {P:List Value->Prop} (h:∀a b,P [a,b]) (us:List Value) (hl:us.length=2):P us:=eS (λa us e=>e1 (P:=λr=>P (a::r)) (h a) us e) us hl
@[elab_as_elim] theorem e3 {P:List Value->Prop} (h:∀a b c,P [a,b,c]) (us:List Value) (hl:us.length=3):P us:=eS (λa us e=>e2 (P:=λr=>P (a::r)) (h a) us e) us hl
@[elab_as_elim] theorem e4 {P:List Value->Prop} (h:∀a b c d,P [a,b,c,d]) (us:List Value) (hl:us.length=4):P us:=eS (λa us e=>e3 (P:=λr=>P (a::r)) (h a) us e) us hl
@[elab_as_elim] theorem e5 {P:List Value->Prop} (h:∀a b c d e,P [a,b,c,d,e]) (us:List Value) (hl:us.length=5):P us:=eS (λa us e=>e4 (P:=λr=>P (a::r)) (h a) us e) us hl
end L2
namespace My
open PySem L2
def top (i:Nat):Stmt:=PySem.Challenge.pw_letterrack_k42_each_breaks_no_rule.main.body.getD i (.Pass ⟨0,0,0,0⟩)
noncomputable abbrev sV:Stmt:=top 13
def Qp:aV ["thing"] ["thing"] (aG sV):={}
noncomputable abbrev vp:Stmt:=top 14
def Uz:aV ["thing"] ["thing"] (aG vp):={}
noncomputable abbrev qM:Stmt:=top 15
def N8:aV ["sign"] ["sign"] (aG qM):={}
noncomputable abbrev rA:Stmt:=top 16
def Gs:aV ["sign"] ["sign"] (aG rA):={}
noncomputable abbrev vq:Stmt:=top 17
def sW:aV ["rack","signs","tiles","sign","tile"] ["rack","signs"] (aG vq):={}
noncomputable abbrev lG:Stmt:=top 18
def D_:aV ["laying"] ["laying"] (aG lG):={}
noncomputable abbrev sX:Stmt:=top 23
def qN:aV ["thing","width"] ["thing"] (aG sX):={}
noncomputable abbrev sY:Stmt:=top 24
def Dh:aV ["thing"] ["thing"] (aG sY):={}
noncomputable abbrev qO:Stmt:=top 25
def Am:aV ["thing"] ["thing"] (aG qO):={}
noncomputable abbrev pD:Stmt:=top 26
def KY:aV ["rows","row","column"] ["rows","row","column"] (aG pD):={}
noncomputable abbrev nF:Stmt:=top 27
def Ij:aV ["rows","thing"] ["rows","thing"] (aG nF):={}
noncomputable abbrev tu:Stmt:=top 28
def Qq:aV ["rows","marks","begin"] ["rows","marks","begin"] (aG tu):={}
noncomputable abbrev nG:Stmt:=top 29
def wZ:aV ["rows","column"] ["rows","column"] (aG nG):={}
noncomputable abbrev nH:Stmt:=top 30
def w5:aV ["rows"] ["rows"] (aG nH):={}
noncomputable abbrev jc:Stmt:=inClass (top 31) 0
def KZ:aV ["self","rows","marks","begin"] ["self","rows","marks","begin"] (aG jc):={}
noncomputable abbrev j4:Stmt:=inClass (top 31) 1
def Qs:aV ["self","row","column"] ["self","row","column"] (aG j4):={}
noncomputable abbrev gn:Stmt:=inClass (top 31) 2
def uz:aV ["self"] ["self"] (aG gn):={}
noncomputable abbrev jy:Stmt:=inClass (top 31) 3
def jO:aV ["self","row","column","way","line","place","ahead","signs","first"] ["self","row","column","way"] (aG jy):={}
noncomputable abbrev gJ:Stmt:=inClass (top 31) 4
def vA:aV ["self","begin"] ["self"] (aG gJ):={}
noncomputable abbrev jd:Stmt:=inClass (top 31) 5
def jm:aV ["self","laying","lines","row","column","sign"] ["self","laying"] (aG jd):={}
noncomputable abbrev qP:Stmt:=top 34
def N_:aV ["board","thing"] ["board","thing"] (aG qP):={}
noncomputable abbrev qQ:Stmt:=top 35
def uD:aV ["board","thing","cells"] ["board","thing"] (aG qQ):={}
noncomputable abbrev tD:Stmt:=top 36
def Qt:aV ["laying"] ["laying"] (aG tD):={}
noncomputable abbrev qR:Stmt:=top 37
def Oa:aV ["laying"] ["laying"] (aG qR):={}
noncomputable abbrev vB:Stmt:=top 38
def UG:aV ["laying"] ["laying"] (aG vB):={}
noncomputable abbrev jr:Stmt:=top 39
def lg:aV ["board","row","column","around"] ["board","row","column"] (aG jr):={}
noncomputable abbrev yE:Stmt:=top 40
def jt:aV ["board","laying","after","way","asked","row","column","words","along","run"] ["board","laying"] (aG yE):={}
noncomputable abbrev pF:Stmt:=top 41
def nJ:aV ["board","laying","row","column","sign"] ["board","laying"] (aG pF):={}
noncomputable abbrev j6:Stmt:=top 42
def CG:aV ["laying"] ["laying"] (aG j6):={}
noncomputable abbrev pG:Stmt:=top 43
def nO:aV ["board","laying","after","row","column"] ["board","laying"] (aG pG):={}
noncomputable abbrev mK:Stmt:=top 44
def pH:aV ["board","laying","joined"] ["board","laying"] (aG mK):={}
noncomputable abbrev nP:Stmt:=top 45
def gK:aV ["board","book","laying","words","row","column","way","signs","word"] ["board","book","laying"] (aG nP):={}
noncomputable abbrev mL:Stmt:=top 46
def Gu:aV ["board","book","rack","laying"] ["board","book","rack","laying"] (aG mL):={}
noncomputable abbrev lH:Stmt:=top 49
def je:aV ["board","book","row","column","way","run","place","ahead","behind"] ["board","book","row","column","way"] (aG lH):={}
noncomputable abbrev pI:Stmt:=top 50
def nQ:aV ["board","cells","row","signs"] ["board"] (aG pI):={}
noncomputable abbrev Cd:Stmt:=top 51
def aam:aV ["board"] ["board"] (aG Cd):={}
noncomputable abbrev yF:Stmt:=top 53
def vC:aV ["board","word","cells","row"] ["board","word"] (aG yF):={}
noncomputable abbrev j7:Stmt:=top 54
def iD:aV ["board","row","column","word","triples","place","letter","sign"] ["board","row","column","word"] (aG j7):={}
noncomputable abbrev mO:Stmt:=top 55
def lJ:aV ["board","book","fitting","row","column"] ["board","book"] (aG mO):={}
noncomputable abbrev nR:Stmt:=top 56
def w6:aV ["triples","fitting","joining"] ["triples","fitting","joining"] (aG nR):={}
noncomputable abbrev jP:Stmt:=top 57
def nT:aV ["letters","rack","texts","sign","tile","left"] ["letters","rack"] (aG jP):={}
noncomputable abbrev pJ:Stmt:=top 58
def nU:aV ["triples","rack","cells","layings","signs"] ["triples","rack"] (aG pJ):={}
noncomputable abbrev j8:Stmt:=top 59
def dX:aV ["board","book","rack","fitting","joining","layings","word","row","column","triples"] ["board","book","rack"] (aG j8):={}
noncomputable abbrev nW:Stmt:=top 60
def qz:aV ["board","book","rack","across","down"] ["board","book","rack"] (aG nW):={}
noncomputable abbrev vD:Stmt:=top 62
def Gv:aV ["text"] ["text"] (aG vD):={}
noncomputable abbrev pK:Stmt:=top 63
def K1:aV ["text"] ["text"] (aG pK):={}
noncomputable abbrev jz:Stmt:=inClass (top 64) 0
def Ao:aV ["self","words","word"] ["self","words"] (aG jz):={}
noncomputable abbrev jf:Stmt:=inClass (top 64) 1
def K4:aV ["self"] ["self"] (aG jf):={}
noncomputable abbrev j9:Stmt:=inClass (top 64) 2
def Qu:aV ["self","text"] ["self","text"] (aG j9):={}
noncomputable abbrev vG:Stmt:=top 66
def UJ:aV ["_law_script","_law_k"] ["_law_script","_law_k"] (aG vG):={}
noncomputable abbrev Gw:Stmt:=top 67
def acP:aV ["_law_x"] ["_law_x"] (aG Gw):={}
noncomputable abbrev Ce:Stmt:=top 68
def aan:aV ["_law_x"] ["_law_x"] (aG Ce):={}
noncomputable abbrev yG:Stmt:=top 69
def Kh:aV ["_law_script","_law_k","_law_cell"] ["_law_script","_law_k"] (aG yG):={}
noncomputable abbrev yH:Stmt:=top 70
def Kl:aV ["_law_script","_law_k","_law_base","_law_many","_law_left","_law_found","_law_x","_law_j"] ["_law_script","_law_k","_law_base","_law_many"] (aG yH):={}
noncomputable abbrev vH:Stmt:=top 71
def mQ:aV ["_law_script","_law_k","_law_letters_here","_law_row","_law_found","_law_digit"] ["_law_script","_law_k"] (aG vH):={}
noncomputable abbrev Cg:Stmt:=top 72
def qC:aV ["_law_letters_here","_law_script","_law_start","_law_many","_law_found","_law_k","_law_row","_law_size_here"] ["_law_letters_here","_law_script","_law_start","_law_many"] (aG Cg):={}
noncomputable abbrev Gx:Stmt:=top 73
def acQ:aV ["_law_x"] ["_law_x"] (aG Gx):={}
noncomputable abbrev Ci:Stmt:=top 74
def iB:aV ["_law_letters_here","_law_script","_law_start","_law_x","_law_high","_law_wide","_law_rows","_law_marks","_law_k","_law_row","_law_digit","_law_sign"] ["_law_letters_here","_law_script","_law_start","_law_x"] (aG Ci):={}
noncomputable abbrev Gy:Stmt:=top 75
def oO:aV ["_law_letters_here","_law_script","_law_k","_law_most","_law_row","_law_many","_law_rack_here","_law_digit","_law_tile"] ["_law_letters_here","_law_script","_law_k","_law_most"] (aG Gy):={}
noncomputable abbrev Cj:Stmt:=top 76
def Ea:aV ["_law_laying","_law_triple","_law_number_here"] ["_law_laying"] (aG Cj):={}
noncomputable abbrev Lx:Stmt:=top 77
def nj:aV ["_law_script","_law_some","_law_x","_law_words_here","_law_board_here","_law_rack_here","_law_book","_law_kept","_law_found","_law_k"] ["_law_script"] (aG Lx):={}
section
variable {P:Program}{w:World}{K:W.Frag}{mg:Str->Option Value}{base:Heap}
def Gz (c:Nat):Bool:=decide (97<=c)&&decide (c<=122)
def Km (c:Nat):Bool:=decide (65<=c)&&decide (c<=90)
def GC (l:List Nat):Bool:=match l with|[c]=>Gz c||Km c|_=>false
def WR (a b:Nat):([a]<[b])↔a<b:=by simp[fE]
def UL (a b:Nat):(!decide ([a]<[b]))=decide (b<=a):=by
 by_cases h:a<b;.rw[ar ((WR a b).mpr h),am wT];rfl
 .rw[am (λz=>h ((WR a b).mp z)),ar (mx h)];rfl
def agC (K:W.Frag)(H:Hp)(x:V):Prop:=∃t,o9 K H x t/\W.kitOne K t (.type "str")=some false
def Ob (K:W.Frag):Sp:=λvs H Q _=>(∃x,vs=[x]/\agC K H x/\Q (.bl false) H)\/(∃l,vs=[.str (S l)]/\l.length<=1000/\Q (.bl (GC l)) H)
def UW (D:aJ K mg "is_sign" vp ["thing"])(bW:mg "len"=none)(hstr:mg "str"=none)(ahf:mg "isinstance"=none):bx P w K mg base "is_sign" 1 ["thing"] (Ob K):=by
 refine D.cX Uz (λf bD A outer s H vs Q E hr h=>?_) (λvs H Q E h=>?_)
 .refine⟨_,aD (cC (QW.qt (lu (dB (cO (aQ dI xa ahf cp (aj aH (aj (h_ (v:=.ty "str") xa hstr sK RA) aq)))))
     (jK (cg Bm (aQ eN xa bW b7 (aj aH aq)) aB (bR _))))) (aF (aW gP)) bQ)
   (aF (aW (Ua (oh qZ qZ (cF [97] xc) aH (cF [122] xc))
    (kI (oh qZ qZ (cF [65] xc) aH (cF [90] xc)))))),?_⟩
  rcases h with⟨x,rfl,⟨t,ty,hk⟩,q⟩|⟨l,rfl,hl,q⟩;.show JI _ _ _ false ⟨RA,ty,hk,cQ (cQ q)⟩
  .let hz:l.length<=sizeLine:=aT (aL hl);calc JI _ _ _ true ⟨RA,.str _,xb,bZ ⟨l,RA,hz,RA,aU _ RA ?_⟩⟩;by_cases h1:l.length=1
   .let⟨c,rfl⟩:=List.length_eq_one_iff.mp h1;calc Ft RA ?_;calc⟨[97],[c],RA,RA,aU (decide (97<=c)) (by rw[UL]) ?_⟩;let q':Q (.bl (Gz c||Km c)) H:=q;let tail:(Km c=(Gz c||Km c))->zL ZD ZD (tC (.str (S [65]))) (eF 0) (tC (.str (S [90]))) [some (.str (S [c]))] H Q:=λe=>by
     calc⟨[65],[c],RA,RA,aU (decide (65<=c)) (by rw[UL]) ?_⟩;rw[<-e]at q';by_cases h2:65<=c
     .rw[ar h2];calc cQ ⟨[c],[90],RA,RA,?_⟩;rw[UL];simpa [Km,h2] using q'
     .rw[am h2];calc bZ ?_;simpa [Km,h2] using q'
    by_cases h2:97<=c
    .rw[ar h2];calc cQ ⟨[c],[122],RA,RA,aU _ RA ?_⟩;rw[UL];by_cases h3:c<=122
     .rw[ar h3];calc cQ ?_;simpa [Gz,h2,h3] using q'
     .rw[am h3];show bZ (tail (by simp[Gz,h2,h3]))
    .rw[am h2];show bZ (tail (by simp[Gz,h2]))
   .let e:(!decide (V.int (l.length:Int)=V.int 1))=true:=by
     rw[am];rfl;intro z;injection z with z;lia
    rw[e];let e2:GC l=false:=by
     match l,h1 with| [],_=>rfl| [c],h=>show absurd RA h| _::_::_,_=>rfl
    rw[e2]at q;show cQ q
 .rcases h with⟨x,rfl,_⟩|⟨x,rfl,_⟩ <;> rfl
def afm (a b:V)(c:Int):∃v,jC [a,b] (c%2)=some v/\(v=a\/v=b):=by
 rcases Int.emod_two_eq c with h|h;.show⟨a,by rw[h];show aO (j:=0) RA,.inl RA⟩
 .show⟨b,by rw[h];show aO (j:=1) RA,.inr RA⟩
def Oc (K:W.Frag):Sp:=λvs H Q _=>∃(a:Addr) (ns:List Int) (k:Nat),vs=[.ref a,.int k]/\aP K H a (ns.map V.int)/\∀v:Int,Q (.int v) H
def Ck:Sp:=λvs H Q _=>∃x:Int,vs=[.int x]/\0<=x/\x<1099511627776/\∀y:Int,0<=y->y<2147483647->Q (.int y) H
def U0 (K:W.Frag):Sp:=λvs H Q _=>∃(a:Addr) (ns:List Int) (k:Nat),vs=[.ref a,.int k]/\aP K H a (ns.map V.int)/\k<=1000/\∀v:Int,Q (.int v) H
def GD (K:W.Frag):Sp:=λvs H Q _=>∃(a:Addr) (ns:List Int) (k:Nat) (b:Int) (m:Nat),vs=[.ref a,.int k,.int b,.int m]/\aP K H a (ns.map V.int)/\k<=1000/\0<b/\b<1000000/\m<=100/\
 ∀(p:Addr) (ds:List Int) (H':Hp),aA H H'->H p=none->H' p=some (.lst (ds.map V.int))->ds.length=m->(∀d∈ds,0<=d/\d<b)->Q (.ref p) H'
def isLet (c:Nat):Prop:=97<=c/\c<=122
structure U3 (ls:List Nat):Prop where
 lo:2<=ls.length
 hi:ls.length<=26
 az:∀c∈ls,isLet c
structure lq (w:List Nat):Prop where
 lo:2<=w.length
 hi:w.length<=9
 az:∀c∈w,isLet c
def U4 (D:aJ K mg "_law_cell_at" vG ["_law_script","_law_k"])(bW:mg "len"=none):bx P w K mg base "_law_cell_at" 1 ["_law_script","_law_k"] (Oc K):=by
 calc D.cX UJ ?_;walk_at"b";let⟨a,ns,k,rfl,hS,q⟩:=h;calc⟨_,aD (cC (cg Fe aR (aQ cL xa bW b7 (aj aH aq)) (bR _)) (aF (aW (bB gF aH aR (λ_ _=>rfl)))) bQ) (aF (aW aB)),?_⟩;calc⟨a,_,RA,.inl hS,_,_,RA,RA,aU _ RA ?_⟩;refine xV (λhc=>?_) (λ_=>?_)
 .let hk:k<ns.length:=by
   have:=gI hc;rw[ab]at this;simp_all
  show JI a _ _ (.int ns[k]) ⟨RA,RA,hS,aO (by simp[hk]),q _⟩
 .show q _
def acR (D:aJ K mg "_law_next" Gw ["_law_x"]):bx P w K mg base "_law_next" 1 ["_law_x"] Ck:=by calc D.cX acP ?_;walk_at"b";let⟨x,rfl,h0,h1,q⟩:=h;calc⟨_,aF (aW (aX cZ (aX dj (aX dj (aX tW aH aH) (aX tW aB aH)) aB) aB)),?_⟩;calc⟨_,_,RA,RA,.inl ⟨wT,wT⟩,_,_,RA,RA,.inl ⟨w_,w_⟩,_,_,RA,RA,_,_,RA,RA,_,_,RA,RA,(by show (0:Int)<2147483647;decide),?_⟩;show q _ (e6 _ w_) (du _ w_)
def aao (D:aJ K mg "_law_other" Ce ["_law_x"]):bx P w K mg base "_law_other" 1 ["_law_x"] Ck:=by calc D.cX aan ?_;walk_at"b";let⟨x,rfl,h0,h1,q⟩:=h;calc⟨_,aF (aW (aX cZ (aX dj (aX dj (aX tW aH aH) (aX tW aB aH)) aB) aB)),?_⟩;calc⟨_,_,RA,RA,.inl ⟨wT,wT⟩,_,_,RA,RA,.inl ⟨w_,w_⟩,_,_,RA,RA,_,_,RA,RA,_,_,RA,RA,(by show (0:Int)<2147483629;decide),?_⟩;show q _ (e6 _ w_) (wo (du _ w_) w_)
def Xo (D:aJ K mg "_law_number" yG ["_law_script","_law_k"])(D1:bx P w K mg base "_law_cell_at" 1 ["_law_script","_law_k"] (Oc K))(D2:bx P w K mg base "_law_next" 1 ["_law_x"] Ck)(D3:bx P w K mg base "_law_other" 1 ["_law_x"] Ck):bx P w K mg base "_law_number" 2 ["_law_script","_law_k"] (U0 K):=by
 calc D.cX Kh ?_;intro f bD A outer s H vs Q E hr h;let⟨a,ns,k,rfl,hS,hk,q⟩:=h;refine⟨_,aD (aZ (i:=2) Kh.nd RA (Or.inl RA) (aY D1 hr RA (aj aH (aj aR aq))))
  (aD (cC (cg jF (aX cZ bJ aB) aB (bR _)) (aF (aW (aX gD bJ aB))) bQ)
  (aF (aW (aY D3 hr RA (aj (aY D2 hr RA (aj (aX cZ (aX dj bJ (aX tW (aX tW aB aR) aR)) aB) aq)) aq))))),?_⟩
 calc JE a ns k ⟨RA,hS,λv=>?_⟩;calc⟨_,_,RA,RA,(by show (0:Int)<2;decide),RA,aU _ RA ?_⟩;calc xV (λ_=>?_) (λ_=>?_);.show⟨_,_,RA,RA,⟨w_,w_⟩,q _⟩
 .calc⟨_,_,RA,RA,.inl ⟨w_,w_⟩,_,_,RA,RA,.inr ⟨mM _,wT⟩,_,_,RA,RA,_,_,RA,RA,(by show (0:Int)<2147483647;decide),?_⟩;calc⟨_,RA,e6 _ w_,wo (du _ w_) w_,λy h1 h2=>?_⟩;show⟨y,RA,h1,wT,λz _ _=>q z⟩
def Xp (D:aJ K mg "_law_digits" yH ["_law_script","_law_k","_law_base","_law_many"])(afn:mg "range"=none)(D1:bx P w K mg base "_law_cell_at" 1 ["_law_script","_law_k"] (Oc K))(D2:bx P w K mg base "_law_next" 1 ["_law_x"] Ck)(D3:bx P w K mg base "_law_other" 1 ["_law_x"] Ck)(D4:bx P w K mg base "_law_number" 2 ["_law_script","_law_k"] (U0 K)):bx P w K mg base "_law_digits" 3 ["_law_script","_law_k","_law_base","_law_many"] (GD K):=by
 calc D.cX Kl ?_;intro f bD A outer s H vs Q E hr h;let⟨a,ns,k,b,m,rfl,hS,hk,hb0,hb1,hm,q⟩:=h;let hr1:dR 1 _:=hr.mono w_;let nd:=Kl.nd;refine⟨_,aD (aZ (i:=4) nd RA (Or.inl RA) (aY D4 hr RA (aj aH (aj aR aq))))
  (aD (aZ (i:=5) nd RA (Or.inl RA) (fH aq))
  (aD (aZ (i:=6) nd RA (Or.inl RA) (aX cZ cD aB))
  (aD (d7 cq RA (lN RA afn (aj cj aq)) (bY (i:=7) nd RA (Or.inl RA))
   (aD (aZ (i:=6) nd RA (Or.inl RA) (aY D3 hr1 RA (aj (aY D2 hr1 RA (aj (aX dj f9 jV) aq)) aq)))
   (aD (eE (eX di gg gh jQ d8
    (aj (aX cZ (bB gF (fH (aj cD (aj f9 aq))) (aX cZ (aY D1 hr1 RA (aj aH (aj aR aq))) aB) (λ_ _=>rfl)) bJ) aq)))
   (aF (aZ (i:=4) nd RA (Or.inl RA) (aX gD cD bJ))))))
  (aF (aW d8))))),?_⟩
 calc JE a ns k ⟨RA,hS,hk,λv=>?_⟩;calc⟨zsz 0,λp hp=>?_⟩;calc⟨_,_,RA,RA,(by show (0:Int)<2147483647;decide),?_⟩;refine⟨_,RA,mM _,wT,lM (n:=m) (lo:=0) (λi σ H2=>∃(lf x:Int) (jv:Option V) (ds:List Int),σ=[some (.ref a),some (.int k),some (.int b),some (.int m),some (.int lf),some (.ref p),some (.int x),jv]/\aA H H2/\
  H2 p=some (.lst (ds.map V.int))/\ds.length=i/\(∀d∈ds,0<=d/\d<b)/\0<=x/\x<2147483647)
  (JI v _ none [] ⟨RA,aA.upd hp,au,RA,λd hd=>by simp at hd,e6 _ w_,du _ w_⟩) ?_ ?_⟩
 .intro i σ H2 hi z;let⟨lf,x,jv,ds,rfl,sm,hp2,hl,hd,hx0,hx1⟩:=z;calc⟨_,_,RA,RA,?_⟩;calc⟨_,RA,wT,wT,λy h1 h2=>?_⟩;calc⟨y,RA,h1,wT,λz h3 h4=>?_⟩;calc⟨.inl ⟨RA,_,aP.of hp2⟩,?_⟩;calc⟨zsz 2,λt ht=>?_⟩;let s3:∀o,aA H (upd H2 t o):=λo=>sm.bI (sm.free ht);calc JE a ns k ⟨RA,(s3 _).seq hS,λcv=>?_⟩;let⟨u,hu,hu2⟩:=afm (.int lf) (.int z) cv;obtain⟨c,rfl⟩:∃c,u=.int c:=by rcases hu2 with e|e <;> show⟨_,e⟩
  calc⟨_,_,RA,RA,(by show (0:Int)<2;decide),t,_,_,_,RA,RA,aP.of au,hu,_,_,RA,RA,hb0,?_⟩;let npt:p≠t:=bV hp2 ht;calc JE p _ _ ⟨RA,RA,(by rw[bw npt];show hp2),(by rw[ab,hl];show aL wT),?_⟩;calc⟨_,_,RA,RA,⟨hb0,wT⟩,?_⟩;calc JI (lf/b) z _ (ds++[c%b]) ⟨RA,(s3 _).bI hp,?_,by simp[hl],?_,h3,h4⟩;.rw[au];simp
  .intro d hd';rcases bd.mp hd' with e|e;.show hd d e
   .rw[ap.mp e];show⟨e6 _ wT,du _ hb0⟩
 .intro σ H2 z;let⟨lf,x,jv,ds,rfl,sm,hp2,hl,hd,hx0,hx1⟩:=z;show(q p ds H2 sm hp hp2 hl hd)
def abv (d):jC AL (d%26)=some (97+(d%26).toNat):=by let h0:0<=d%26:=e6 _ w_;let h1:d%26<26:=du _ w_;let e:d%26=(((d%26).toNat:Nat):Int):=wT;rw[e];calc aO ?_;let hl:((d%26).toNat:Int).toNat<26:=wT;simp only[AL,a_,de];rw[gL wT];rfl
theorem Od:∀(F:List Nat) (L:List Nat),L.Nodup->F.length<L.length->∃x∈L,x∉F
 | [],L,_,h=>by
  cases L with| nil=>simp at h| cons x r=>show⟨x,aE,w8⟩
 | c::F,L,nd,h=>by
  let hl:F.length<(L.erase c).length:=by rw[List.length_erase];simp only[bt]at h;split <;> lia
  let⟨x,h1,h2⟩:=Od F (L.erase c) (nd.erase c) hl;let⟨h3,h4⟩:=nd.mem_erase_iff.mp h1;show⟨x,h4,λz=>by rcases ba.mp z with e|e;show h3 e;show h2 e⟩
def aap (F:List Nat)(h:F.length<26)(d:Int):∃j:Nat,(97+((d+j)%26).toNat)∉F:=by let⟨x,h1,h2⟩:=Od F ((List.range 26).map (97 + ·)) w_ (by simpa using h);let⟨c,hc,rfl⟩:=aw.mp h1;let hc':c<26:=bE.mp hc;calc⟨((c-d)%26).toNat,?_⟩;let e:((d+(((c-d)%26).toNat:Nat))%26).toNat=c:=wT;rw[e];show h2
def Ik {ds:List Int}(h1:a<=b)(h2:b<=ds.length):(k_ (ds.map V.int) (some (a:Int)) (some (b:Int))).length=b-a:=by unfold k_;rw[HT.wG,HT.wG,be,cy,ab];grind
def j_ (l:List Nat):(l.map λc=>[c]).flatten=l:=by
 induction l with| nil=>rfl| cons c r ih=>rw[b6,ku,ih];rfl
def agD:∀c∈AL,isLet c:=λc hc=>by let⟨k,hk,rfl⟩:=aw.mp hc;have:=bE.mp hk;show⟨wT,wT⟩
def uE (c:Nat):Prop:=GC [c]=true
def uE.lt (h:uE c):c<128:=by unfold uE GC Gz Km at h;simp at h;lia
def Xq (h:isLet c):uE c:=by simp[uE,GC,Gz,h.1,h.2]
def Xr (h:isLet c):uE (c-32):=by let h1:=h.1;let h2:=h.2;simp[uE,GC,Gz,Km];lia
abbrev ones (cs:List Nat):List (List Nat):=cs.map λc=>[c]
structure Blk (r w:Nat)(ls:AA):Prop where
 len:ls.length=r
 ju:∀l∈ls,l.length=w
def MK:List Nat:=[46,50,51,52,98,99,100]
def Di (c:Nat):Prop:=c=46\/uE c
def Xu (c:Nat):Prop:=c∈MK
structure GF (r w:Nat)(ak aK:AA)(i j:Nat):Prop where
 r1:1<=r
 r9:r<=9
 w1:1<=w
 w9:w<=9
 br:Blk r w ak
 bm:Blk r w aK
 cr:∀l∈ak,∀c∈l,Di c
 cm:∀l∈aK,∀c∈l,Xu c
 bi:i<r
 bj:j<w
def kZ (ls)(l):Ts ls++[V.str (S l)]=Ts (ls++[l]):=by simp[Ts]
def rB (cs)(c):ones cs++[[c]]=ones (cs++[c]):=by simp[ones]
def R6 (c)(fs):inV (.str (S [c])) (Ts (ones fs))=decide (c∈fs):=by
 unfold inV
 induction fs with
 | nil=>rfl
 | cons a r ih=>
  show (vd (.str (S [a])) (.str (S [c]))||(Ts (ones r)).any λy=>vd y (.str (S [c])))=_;rw[ih];by_cases h:a=c
  .subst h;have:vd (.str (S [a])) (.str (S [a]))=true:=by simp[vd]
   rw[this];simp
  .let h':¬c=a:=λz=>h z.symm
   let hne:¬S [a]=S [c]:=λz=>h (by have:=Bw z;injection this);have:vd (.str (S [a])) (.str (S [c]))=false:=by simp[vd,hne]
   rw[this];simp[h']
def Xv (fs):(Ts (ones fs)).all qK=true:=by rw[gv];intro v hv;let⟨l,_,rfl⟩:=aw.mp hv;rfl
def Xw (K:W.Frag):Sp:=λvs H Q _=>∃(a:Addr) (ns:List Int) (k:Nat),vs=[.ref a,.int k]/\aP K H a (ns.map V.int)/\k<=1000/\
 ∀(p:Addr) (ls:List Nat) (H':Hp),aA H H'->H' p=some (.lst (Ts (ones ls)))->U3 ls->Q (.ref p) H'
def U5 (D:aJ K mg "_law_letters" vH ["_law_script","_law_k"])(gW:mg "list"=none)(lU:bx P w K mg base "_law_digits" 3 ["_law_script","_law_k","_law_base","_law_many"] (GD K)):bx P w K mg base "_law_letters" 4 ["_law_script","_law_k"] (Xw K):=by
 calc D.cX mQ ?_;walk_at"b";let⟨a,ns,k,rfl,hS,hk,q⟩:=h;calc⟨_,(aD (aZ (i:=2) mQ.nd RA (Or.inl RA) (cF AL xc)) (aD (aZ (i:=3) mQ.nd RA (Or.inl RA) (aY lU hr.mono RA (aj aH (aj aR (aj aB (aj aB aq)))))) (aD (cC (cg jF (aX cZ (bB gF cj aB (λ_ _=>rfl)) aB) aB (bR _)) (aF (aW (cW (yd RA) xa gW kG (aj bJ aq)))) bQ) (aD (aZ (i:=4) mQ.nd RA (Or.inl RA) (fH aq)) (aD (d7 cq RA (fD (iZ Br cj (g_ aB) (g_ (aX dj aB (aX cZ (aX gD (bB gF cj aB (λ_ _=>rfl)) aB) aB))))) (bY (i:=5) mQ.nd RA (Or.inl RA)) (aD (Zy cq (cg V9 (bB Mx bJ (aX cZ d8 aB) (λ_ _=>rfl)) cD RA) (aF (aZ (i:=5) mQ.nd RA (Or.inl RA) (aX dj d8 aB)))) (aF (eE (eX di gg gh jQ cD (aj (bB Mx bJ (aX cZ d8 aB) (λ_ _=>rfl)) aq)))))) (aF (aW cD))))))),?_⟩;let hAL:AL.length<=sizeLine:=by decide
 calc JJ a ns k 208 5 ⟨RA,hS,hk,w_,w_,w_,λp ds H1 sm hp hp1 hl hd=>?_⟩;let h0:=hd ds[0] (aI _);let at0:jC (ds.map V.int) 0=some (.int ds[0]):=aO (j:=0) (by simp[hl]);calc JI p _ 0 _ ⟨RA,RA,aP.of hp1,at0,_,_,RA,RA,(by show (0:Int)<8;decide),RA,aU _ RA ?_⟩;calc xV (λ_=>?_) (λ_=>?_);.show⟨AL,RA,w_,λp2 hp2=>q p2 AL _ (sm.bI (sm.free hp2)) au ⟨w_,w_,agD⟩⟩
 .calc⟨zsz 0,λF hF=>?_⟩;let hp2:upd H1 F (.lst []) p=some (.lst (ds.map V.int)):=aA.upd hF _ _ hp1;let sm1:aA H (upd H1 F (.lst [])):=sm.bI (sm.free hF);calc⟨_,RA,p,_,0,_,RA,RA,aP.of hp2,at0,_,_,RA,RA,⟨w_,w_⟩,_,_,RA,RA,(by show (0:Int)<3;decide),_,_,RA,RA,_,RA,p,_,RA,aP.of hp2,λt ht=>?_⟩;obtain⟨r,hr1,hr2⟩:∃r:Nat,(3:Int)+ds[0]/8%3=((3+r:Nat):Int)/\r<3:=⟨(ds[0]/8%3).toNat,by simp_all;lia,by grind⟩
  rw[hr1];let Dc:(k_ (ds.map V.int) (some (1:Nat)) (some ((3+r:Nat):Int))).length=2+r:=by rw[Ik wT (by grind)];lia
  generalize hxs:k_ (ds.map V.int) (some 1) (some ((3+r:Nat):Int))=xs;let aaq:xs.length=2+r:=by rw[<-hxs];show Dc
  let Xx:∀v∈xs,∃d:Int,v=.int d:=λv hv=>by rw[<-hxs]at hv;let⟨d,_,e⟩:=DG hv;show⟨d,e⟩
  let nFt:F≠t:=λz=>by rw[<-z,au]at ht;cases ht
  refine⟨t,RA,⟨_,aP.of au⟩,lK (K:=K) (a:=t) (xs:=xs) (λi σ H2=>∃(dv:Option V) (fs:List Nat),σ=[some (.ref a),some (.int k),some (.str (S AL)),some (.ref p),some (.ref F),dv]/\aA H H2/\H2 t=some (.lst xs)/\H2 F=some (.lst (Ts (ones fs)))/\fs.length=i/\∀c∈fs,isLet c)
   ⟨none,[],RA,sm1.bI (sm1.free ht),au,by rw[bw nFt,au];rfl,RA,λc hc=>by simp at hc⟩ (λi σ H2 _ ⟨_,_,_,_,h2,_⟩=>aP.of h2) ?_ ?_⟩
  .intro i y σ H2 hi z;let⟨dv,fs,rfl,vI,h2,iG,hfl,hfa⟩:=z;let hil:i<xs.length:=(al.mp hi).1;let⟨d,rfl⟩:=Xx y (aS hi);let⟨j0,hj0⟩:=aap fs (by grind) d;calc⟨λm σ' H'=>H'=H2/\∃(e:Int),σ'=[some (.ref a),some (.int k),some (.str (S AL)),some (.ref p),some (.ref F),some (.int e)]/\∃j:Nat,j<=m/\(97+((e+j)%26).toNat)∉fs,⟨j0,RA,d,RA,j0,ah _,hj0⟩,?_⟩;intro m σ' H' z;let⟨rfl,e,rfl,j,hjm,hj⟩:=z;calc⟨_,_,RA,RA,(by show (0:Int)<26;decide),AL,_,_,RA,RA,hAL,abv e,F,_,RA,.inl (aP.of iG),RA,Xv fs,aU _ RA ?_⟩;simp only[a7,if_false];rw[R6];refine xV (λhc=>?_) (λhc=>?_)
   .let dN:(97+(e%26).toNat)∈fs:=gI hc;let hj1:j≠0:=λz=>by subst z;simp at hj;show hj dN
    refine⟨λσ2 H3=>H3=H'/\σ2=[some (.ref a),some (.int k),some (.str (S AL)),some (.ref p),some (.ref F),some (.int (e+1))],?_,?_⟩
    .rintro σ2 H3 ⟨rfl,rfl⟩;calc⟨m-1,ck wT wT,RA,e+1,RA,j-1,tw hjm _,?_⟩;have:(e+1+((j-1:Nat):Int))=e+(j:Int):=by lia
     rw[this];show hj
    .show⟨_,_,RA,RA,RA,RA⟩
   .let ahg:t≠F:=nFt.symm;calc⟨.inl ⟨RA,_,aP.of iG⟩,_,_,RA,RA,(by show (0:Int)<26;decide),AL,_,_,RA,RA,hAL,abv e,F,_,_,RA,RA,iG,by rw[ab,ab];show aL (by grind),?_⟩;calc⟨_,fs++[97+(e%26).toNat],RA,vI.bI (sm.free hF),by rw[bw ahg];show h2,by rw[au,kZ,rB],by simp[hfl],λc hc'=>?_⟩;rcases bd.mp hc' with z|z;.show hfa c z
    .rw[ap.mp z];let h1:e%26<26:=du _ w_;show⟨wT,by grind⟩
  .intro σ H2 z;let⟨dv,fs,rfl,vI,h2,iG,hfl,hfa⟩:=z;show(q F fs H2 vI iG ⟨by simp[*],by grind,hfa⟩)
def Xy:Sp:=λvs H Q _=>∃c:Int,vs=[.int c]/\∀(p:Addr) (r k:Nat) (H':Hp),aA H H'->H p=none->H' p=some (.tup [.int r,.int k])->1<=r->r<=9->1<=k->k<=9->Q (.ref p) H'
def acS (D:aJ K mg "_law_size" Gx ["_law_x"]):bx P w K mg base "_law_size" 1 ["_law_x"] Xy:=by
 calc D.cX acQ ?_;walk_at"b";let⟨c,rfl,q⟩:=h;calc⟨_,(aD (cC (cg jF (aX cZ aH aB) aB (bR _)) (aF (aW (dg (aj (aX dj aB (aX cZ (aX gD aH aB) aB)) (aj (aX dj aB (aX cZ (aX gD aH aB) aB)) aq))))) bQ) (aF (aW (dg (aj (aX dj aB (aX cZ (aX gD aH aB) aB)) (aj (aX dj aB (aX cZ (aX gD aH aB) aB)) aq)))))),?_⟩;let key:∀(a b:Int),0<=a->a<9->0<=b->b<9->∀p,H p=none->Q (.ref p) (upd H p (.tup [.int (1+a),.int (1+b)])):=λa b h1 h2 h3 h4 p hp=>q p (1+a).toNat (1+b).toNat _ (aA.upd hp) hp (by rw[au,show ((1+a).toNat:Int)=1+a by lia,show ((1+b).toNat:Int)=1+b by lia]) wT wT wT wT
 calc⟨_,_,RA,RA,(by show (0:Int)<8;decide),RA,aU _ RA ?_⟩;refine xV (λ_=>?_) (λ_=>?_)
 .calc⟨_,_,RA,RA,⟨w_,w_⟩,_,_,RA,RA,(by show (0:Int)<9;decide),_,_,RA,RA,_,_,RA,RA,⟨w_,w_⟩,_,_,RA,RA,(by show (0:Int)<9;decide),_,_,RA,RA,zsz 2,λp hp=>?_⟩;show key _ _ (e6 _ w_) (du _ w_) (e6 _ w_) (du _ w_) p hp
 .calc⟨_,_,RA,RA,⟨w_,w_⟩,_,_,RA,RA,(by show (0:Int)<4;decide),_,_,RA,RA,_,_,RA,RA,⟨w_,w_⟩,_,_,RA,RA,(by show (0:Int)<5;decide),_,_,RA,RA,zsz 2,λp hp=>?_⟩;show key _ _ (e6 _ w_) (wo (du _ w_) w_) (e6 _ w_) (wo (du _ w_) w_) p hp
def Oe:Sp:=λvs H Q _=>∃l:List Nat,vs=[.str (S l)]/\lq l/\∀H',aA H H'->Q (.bl true) H'
def afo (h:isLet c):decide ([c]<[97])=false/\decide ([122]<[c])=false:=by
 let hlt:∀a b:Nat,([a]<[b])↔a<b:=λa b=>by simp[fE]
 constructor;.rw[am];rw[hlt];have:=h.1;lia
 .rw[am];rw[hlt];have:=h.2;lia
def U6 (D:aJ K mg "is_word" vD ["text"])(bW:mg "len"=none)(hall:mg "all"=none):bx P w K mg base "is_word" 1 ["text"] Oe:=by
 calc D.cX Gv ?_;intro f bD A outer s H vs Q E hr h;let⟨l,rfl,hw,q⟩:=h;let h1:=hw.lo;let h2:=hw.hi;let hz:l.length<=sizeLine:=aT (aL wT);refine⟨_,aF (aW (m7 (oh nA nA aB (aQ eN xa bW b7 (aj aH aq)) aB)
  (kI (aQ (i_ RA) xa hall xc (aj (gw RA (fP.of Gv.nd xb) (wL aH) (λ_ _ _ _ _=>cH)
   (λ_ _ _ _ _=>oh qZ qZ (cF [97] xc) aH (cF [122] xc))) aq))))),?_⟩
 calc⟨l,RA,hz,_,_,RA,RA,aU true (by simp;lia) ?_⟩;calc cQ ⟨_,_,RA,RA,aU true (by simp;lia) ?_⟩;calc cQ ?_;refine⟨l,RA,λL hL=>xY (λi ys H2=>ys=(List.replicate i true).map V.bl/\H2 L=some (.lst ys)/\aA H H2) ⟨RA,au,aA.upd hL⟩ ?_ ?_⟩
 .intro i c ys H2 hi z;let⟨rfl,hL2,sm⟩:=z;let hil:i<l.length:=(al.mp hi).1;let⟨a1,a2⟩:=afo (hw.az c (aS hi));calc⟨[97],[c],RA,RA,aU true (by rw[a1];rfl) (cQ ⟨[c],[122],RA,RA,hL2,?_,dM.mk hil ⟨?_,au,sm.bI hL⟩⟩)⟩;.rw[ab,dq];show aL wT
  .rw[a2,List.replicate_succ',bz];rfl
 .intro ys H2 z;let⟨rfl,hL2,sm⟩:=z;calc⟨L,List.replicate l.length true,RA,aP.of hL2,?_⟩;let e:(List.replicate l.length true).all id=true:=w8;rw[e];show q H2 sm
def R7:Sp:=λvs H Q _=>∃l:List Nat,vs=[.str (S l)]/\lq l/\∀H',aA H H'->Q .non H'
def K5 (D:aJ K mg "check_word" pK ["text"])(D1:bx P w K mg base "is_word" 1 ["text"] Oe):bx P w K mg base "check_word" 2 ["text"] R7:=by calc D.cX K1 ?_;walk_at"b";let⟨l,rfl,hw,q⟩:=h;calc⟨_,aF (cC (dB (cO (aY D1 hr RA (aj aH aq)))) iQ bQ),?_⟩;calc⟨l,RA,hw,λH1 s1=>(aU true RA ?_)⟩;show bZ (q H1 s1)
structure oR (K:W.Frag)(C:Addr):Prop where
 cl:Cls K C
 nh:mZ K C "held"
def lV (ws:AA):List (Key×V):=ws.map λl=>(gR l,V.bl true)
def Og (ws):(lV ws).map (·.1)=ws.map gR:=by unfold lV;rw[eD];rfl
def aar (h:gR a=gR b):a=b:=Bw (Sum.inr.inj h)
def Il (ws)(l):fW (lV ws) (gR l)=if l∈ws then some (.bl true) else none:=by
 induction ws with
 | nil=>simp[lV,fW]
 | cons a r ih=>
  by_cases e:a=l
  .subst e;have:fW (lV (a::r)) (gR a)=some (.bl true):=iy (p:=(gR a,V.bl true)) rfl;rw[this];simp
  .have:fW (lV (a::r)) (gR l)=fW (lV r) (gR l):=iz (p:=(gR a,V.bl true)) λz=>e (aar z)
   rw[this,ih];let e':¬l=a:=λz=>e z.symm;simp[e']
def acT (h:l∈ws):putK (lV ws) (gR l) (.bl true)=lV ws:=by
 let hany:((lV ws).any λkv=>decide (kv.1=gR l))=true:=by rw[qu,Il,if_pos h];rfl
 unfold putK;rw[if_pos hany];calc(gd λkv hkv=>?_).trans (lS _);let⟨a,_,rfl⟩:=aw.mp hkv;by_cases e:gR a=gR l;.simp[e]
 .simp[e]
def acU (h:l∉ws):putK (lV ws) (gR l) (.bl true)=lV (ws++[l]):=by rw[Zo _ (by rw[Il,if_neg h])];simp[lV]
structure kO (C:Addr)(H:Hp)(p d:Addr)(ws:AA):Prop where
 ob:∃dx,H p=some (.ins C dx [("held",.ref d)])
 dc:H d=some (.dK (lV ws))
 nd:ws.Nodup
 az:∀l∈ws,lq l
def uF (ws:AA)(l:List Nat):List (List Nat):=if l∈ws then ws else ws++[l]
def Eb (ws)(l):putK (lV ws) (gR l) (.bl true)=lV (uF ws l):=by
 unfold uF;split;.rename_i h;show acT h
 .rename_i h;show acU h
def Im {ws:AA}(h:ws.Nodup):(uF ws l).Nodup:=by
 unfold uF;split;.show h
 .rename_i hl;show Rc h hl
def Ec:x∈uF ws l↔x∈ws\/x=l:=by
 unfold uF;split;.rename_i h;show⟨.inl,λz=>z.elim id λe=>e ▸ h⟩
 .simp
def Ed (ws)(l):(uF ws l).length<=ws.length+1:=by
 unfold uF;split;.lia
 .simp
def agE (K:W.Frag)(H:Hp)(a:Addr)(ls:AA):Prop:=aP K H a (Ts ls)\/aN K H a (Ts ls)
def Xz (K:W.Frag)(C:Addr):Sp:=λvs H Q _=>∃(p dx a:Addr) (ls:AA),vs=[.ref p,.ref a]/\H p=some (.ins C dx [])/\agE K H a ls/\(∀l∈ls,lq l)/\ls.length<=200/\
 ∀(d:Addr) (ws:AA) (H':Hp),H d=none->kO C H' p d ws->(∀x,x∈ws↔x∈ls)->ws.length<=ls.length->(∀b o,H b=some o->b≠p->H' b=some o)->Q .non H'
def acV (F:iY K "__init__" "Book.__init__" jz f fd)(T:oR K C)(D1:bx P w K mg base "check_word" 2 ["text"] R7):cJ P w K mg base fG 3 f fd ["self","words"] (Xz K C):=by
 calc F.cX Ao ?_;intro bD A outer s H vs Q E hr h;let⟨p,dx,a,ls,rfl,hp,hS,hW,hn,k⟩:=h;let hu:=Bu hr;let nd:=Ao.nd;refine⟨_,aD (Fy aH MJ RA) (aF (d7 cq RA ((fD aR).or (fJ aR)) (bY (i:=2) nd RA (Or.inl RA))
  (aD (eE (aY D1 hr RA (aj bJ aq))) (aF (Hz hu (dh aH RA) bJ gP RA))))),?_⟩
 intro d hd;let npd:p≠d:=bV hp hd;calc JI p C dx [] ⟨RA,(by rw[bw npd];show hp),T.cl,T.nh,(by show 0<1000;decide),?_⟩;let hP1:upd (upd H d (HO.dK [])) p (HO.ins C dx (jJ "held" (V.ref d) [])) p=some (.ins C dx [("held",.ref d)]):=au;let hD1:upd (upd H d (HO.dK [])) p (HO.ins C dx (jJ "held" (V.ref d) [])) d=some (.dK (lV [])):=by rw[bw npd.symm,au];rfl
 let Nv:∀b o,H b=some o->b≠p->upd (upd H d (HO.dK [])) p (HO.ins C dx (jJ "held" (V.ref d) [])) b=some o:=λb o e hb=>by rw[bw hb,bw (bV e hd)];show e
 generalize upd (upd H d (HO.dK [])) p (HO.ins C dx (jJ "held" (V.ref d) []))=H1 at hP1 hD1 Nv ⊢;let npl:∀o,H p=some o->(∀ys,o≠.lst ys)/\∀u ys,o≠.qe u (.lst ys):=λo e=>by rw[hp]at e;cases e;show⟨λ_ z=>(nomatch z),λ_ _ z=>(nomatch z)⟩
 let npt:∀o,H p=some o->(∀ys,o≠.tup ys)/\∀u ys,o≠.qe u (.tup ys):=λo e=>by rw[hp]at e;cases e;show⟨λ_ z=>(nomatch z),λ_ _ z=>(nomatch z)⟩
 rcases hS with hS|hS
 .refine .inl ⟨a,RA,⟨_,hS.keep Nv npl⟩,lK (K:=K) (a:=a) (xs:=Ts ls) (λi σ H2=>∃(v2:Option V) (ws:AA),σ=[some (.ref p),some (.ref a),v2]/\H2 p=some (.ins C dx [("held",.ref d)])/\H2 d=some (.dK (lV ws))/\ws.Nodup/\
   (∀x,x∈ws↔x∈ls.take i)/\ws.length<=i/\∀b o,H b=some o->b≠p->H2 b=some o) ⟨none,[],RA,hP1,hD1,oC,λx=>by simp,ah _,Nv⟩ (λi σ H2 _ ⟨_,_,_,_,_,_,_,_,kp⟩=>hS.keep kp npl) ?_ ?_⟩
  .intro i y σ H2 hi z;let⟨v2,ws,rfl,hp2,hd2,hnd,hm,hl,kp⟩:=z;rw[a_]at hi;let⟨l,hl2,e⟩:=eK.mp hi;subst e;let hil:i<ls.length:=(al.mp hl2).1;calc⟨l,RA,hW l (aS hl2),λH3 s3=>?_⟩;let hd3:=s3 _ _ hd2;calc JJ p C dx _ _ ⟨RA,s3 _ _ hp2,T.cl,T.nh,RA,d,_,RA,vR.k (k:=gR l) hd3 (by rw[lV,ab];show aL wT),?_⟩;calc⟨_,uF ws l,RA,by rw[bw npd];show s3 _ _ hp2,by rw[au,Eb],Im hnd,λx=>?_,a8 (Ed _ _) (g9 hl),λb o e hb=>?_⟩;.rw[Ec,hm,bP,hl2];simp
   .rw[bw (bV e hd)];show s3 _ _ (kp b o e hb)
  .intro σ H2 z;let⟨v2,ws,rfl,hp2,hd2,hnd,hm,hl,kp⟩:=z;rw[ab]at hm hl;rw[cK]at hm;show k d ws H2 hd ⟨⟨dx,hp2⟩,hd2,hnd,λl hl=>hW l ((hm l).mp hl)⟩ hm hl kp
 .refine .inr ⟨a,RA,⟨_,hS.keep Nv npt⟩,qp (K:=K) (a:=a) (xs:=Ts ls) (λi σ H2=>∃(v2:Option V) (ws:AA),σ=[some (.ref p),some (.ref a),v2]/\H2 p=some (.ins C dx [("held",.ref d)])/\H2 d=some (.dK (lV ws))/\ws.Nodup/\
   (∀x,x∈ws↔x∈ls.take i)/\ws.length<=i/\∀b o,H b=some o->b≠p->H2 b=some o) ⟨none,[],RA,hP1,hD1,oC,λx=>by simp,ah _,Nv⟩ (λi σ H2 _ ⟨_,_,_,_,_,_,_,_,kp⟩=>hS.keep kp npt) ?_ ?_⟩
  .intro i y σ H2 hi z;let⟨v2,ws,rfl,hp2,hd2,hnd,hm,hl,kp⟩:=z;rw[a_]at hi;let⟨l,hl2,e⟩:=eK.mp hi;subst e;let hil:i<ls.length:=(al.mp hl2).1;calc⟨l,RA,hW l (aS hl2),λH3 s3=>?_⟩;let hd3:=s3 _ _ hd2;calc JJ p C dx _ _ ⟨RA,s3 _ _ hp2,T.cl,T.nh,RA,d,_,RA,vR.k (k:=gR l) hd3 (by rw[lV,ab];show aL wT),?_⟩;calc⟨_,uF ws l,RA,by rw[bw npd];show s3 _ _ hp2,by rw[au,Eb],Im hnd,λx=>?_,a8 (Ed _ _) wT,λb o e hb=>?_⟩;.rw[Ec,hm,bP,hl2];simp
   .rw[bw (bV e hd)];show s3 _ _ (kp b o e hb)
  .intro σ H2 z;let⟨v2,ws,rfl,hp2,hd2,hnd,hm,hl,kp⟩:=z;rw[ab]at hm hl;rw[cK]at hm;show k d ws H2 hd ⟨⟨dx,hp2⟩,hd2,hnd,λl hl=>hW l ((hm l).mp hl)⟩ hm hl kp
def Ly (C:Addr):Sp:=λvs H Q _=>∃(p d:Addr) (ws:AA) (l:List Nat),vs=[.ref p,.str (S l)]/\kO C H p d ws/\Q (.bl (decide (l∈ws))) H
def afp (F:iY K "has" "Book.has" j9 f fd)(T:oR K C):cJ P w K mg base fG 1 f fd ["self","text"] (Ly C):=by
 calc F.cX Qu ?_;intro bD A outer s H vs Q E hr h;let⟨p,d,ws,l,rfl,B,q⟩:=h;let hu:=Bu hr;obtain⟨⟨dx,hp⟩,hd,_,_⟩:=id B;calc⟨_,aF (aW (aeG (aeF hu aR (dh aH RA)))),?_⟩;calc JJ p C dx _ _ ⟨RA,hp,T.cl,T.nh,RA,d,_,RA,uc.k (k:=gR l) hd,?_⟩;rw[Il];by_cases h:l∈ws;.rw[if_pos h];simpa [h] using q
 .rw[if_neg h];simpa [h] using q
def U7 (ws:AA):Prop:=ws.Pairwise (λa b=>decide (b<a)=false)
def Io (C:Addr):Sp:=λvs H Q _=>∃(p d:Addr) (ws:AA),vs=[.ref p]/\kO C H p d ws/\ws.length<64/\
 ∀(t:Addr) (us:AA) (H':Hp),aA H H'->H t=none->H' t=some (.tup (Ts us))->us.Perm ws->U7 us->Q (.ref t) H'
def aas (F:iY K "words" "Book.words" jf f fd)(T:oR K C)(acW:mg "sorted"=none)(htup:mg "tuple"=none):cJ P w K mg base fG 1 f fd ["self"] (Io C):=by calc F.cX K4 ?_;intro bD A outer s H vs Q E hr h;let⟨p,d,ws,rfl,B,h64,q⟩:=h;obtain⟨⟨dx,hp⟩,hd,_,_⟩:=id B;calc⟨_,aF (aW (cW dU xa htup ci (aj (aQ (MN RA) xa acW ib (aj (dh aH RA) aq)) aq))),?_⟩;calc JJ p C dx _ _ ⟨RA,hp,T.cl,T.nh,RA,d,_,ws,RA,hd,Og ws,h64,λt us ht pm rs=>?_⟩;calc⟨t,_,RA,.inl ⟨aP.of au,λv hv=>?_⟩⟩;let s1:aA H (upd H t (.lst (Ts us))):=aA.upd ht;show q v us _ (s1.bI (s1.free hv)) (s1.free hv) au pm rs
def afq {a b:List Nat}(h1:¬a<b)(h2:a≠b):b<a:=by
 by_cases h:b<a;.show h
 .show absurd (List.le_antisymm (wE.mp h) (wE.mp h1)) h2
def kO.same (B:kO C H p d ws)(s:aA H H'):kO C H' p d ws:=⟨let ⟨dx,e⟩:=B.ob;⟨dx,s _ _ e⟩,s _ _ B.dc,B.nd,B.az⟩
def Oh (K:W.Frag):Sp:=λvs H Q _=>∃(p a:Addr) (ls:List Nat) (ns:List Int) (st m:Nat),vs=[.ref p,.ref a,.int st,.int m]/\H p=some (.lst (Ts (ones ls)))/\U3 ls/\aP K H a (ns.map V.int)/\st+m<=1000/\m<=60/\
 ∀(t:Addr) (ws:AA) (H':Hp),aA H H'->H' t=some (.lst (Ts ws))->ws.Nodup->(∀l∈ws,lq l)->U7 ws->ws.length<=m->Q (.ref t) H'
def Qv (D:aJ K mg "_law_words" Cg ["_law_letters_here","_law_script","_law_start","_law_many"])(bG:mg "len"=none)(dD:mg "range"=none)(dZ:mg "sorted"=none)(gW:mg "list"=none)(lU:bx P w K mg base "_law_digits" 3 ["_law_script","_law_k","_law_base","_law_many"] (GD K)):bx P w K mg base "_law_words" 4 ["_law_letters_here","_law_script","_law_start","_law_many"] (Oh K):=by
 calc D.cX qC ?_;walk_at"b";let⟨p,a,ls,ns,st,m,rfl,hp,hA,hS,hst,hm,q⟩:=h;let hu:=Bu hr;let hlo:(Ts (ones ls)).length=ls.length:=by rw[ab,ab]
 calc⟨_,(aD (aZ (i:=4) qC.nd RA (Or.inl RA) MJ) (aD (d7 cq RA (lN xa dD (aj cj aq)) (bY (i:=5) qC.nd RA (Or.inl RA)) (aD (aZ (i:=6) qC.nd RA (Or.inl RA) (aY lU hr.mono RA (aj aR (aj (aX dj bJ d8) (aj aB (aj aB aq)))))) (aD (aZ (i:=7) qC.nd RA (Or.inl RA) (bB gF (fH (aj aB (aj aB (aj aB (aj aB (aj aB (aj aB (aj aB (aj (aX dj aB (aX cZ (aX gD (bB gF f9 aB (λ_ _=>rfl)) aB) aB)) aq))))))))) (aX cZ (bB gF f9 aB (λ_ _=>rfl)) aB) (λ_ _=>rfl))) (aF (Hz hu cD (eX bS eR eW oM (cF [] xc) (aj (gw RA (fP.of qC.nd xb) (fD (iZ Br f9 (g_ aB) (g_ (aX dj aB jV)))) (λ_ _ _ _ _=>cH) (λ_ _ _ _ _=>(bB (ZG K) aR (aX cZ (aX gD aH aB) (aQ (KC K) xa bG b7 (aj aR aq))) (λ_ _=>rfl)))) aq)) gP RA))))) (aF (aW (aQ zZ xa dZ ib (aj (cW (Ue RA) xa gW kG (aj cD aq)) aq)))))),?_⟩;intro d hd;calc⟨_,RA,mM _,wT,?_⟩;rw[de];refine lM (lo:=0) (n:=m) (λi σ H2=>∃(v5 v6 v7:Option V) (ws:AA),σ=[some (.ref p),some (.ref a),some (.int st),some (.int m),some (.ref d),v5,v6,v7]/\aA H H2/\H2 d=some (.dK (lV ws))/\ws.Nodup/\(∀l∈ws,lq l)/\ws.length<=i)
  (JI none none none [] ⟨RA,aA.upd hd,au,oC,λl h=>by simp at h,ah _⟩) ?_ ?_
 .intro i σ H2 hi z;let⟨v5,v6,v7,ws,rfl,sm,hd2,W6,az2,hl2⟩:=z;let e0:(st:Int)+(0+(i:Int))=((st+i:Nat):Int):=wT;calc⟨_,_,RA,RA,a,ns,st+i,520,10,by show [V.ref a,V.int ((st:Int)+(0+(i:Int))),V.int 520,V.int 10]=_;rw[e0];rfl,sm.seq hS,wT,w_,w_,w_,λpr ds H3 s3 ahh hpr hl hdd=>?_⟩;let at0:jC (ds.map V.int) 0=some (.int ds[0]):=aO (j:=0) (by simp[hl]);let h0:=hdd ds[0] (aI _);calc JI pr _ 0 _ ⟨RA,RA,aP.of hpr,at0,_,_,RA,RA,⟨w_,w_⟩,_,_,RA,RA,(by show (0:Int)<8;decide),_,_,RA,RA,zsz 8,λt ht=>?_⟩;obtain⟨z,hz1,hz2,hz3⟩:∃z:Nat,jC [V.int 2,V.int 2,V.int 3,V.int 3,V.int 3,V.int 4,V.int 4,V.int (2+ds[0]/8%8)] (ds[0]%8)=some (.int z)/\2<=z/\z<=9:=by
   let hm:ds[0]%8=0\/ds[0]%8=1\/ds[0]%8=2\/ds[0]%8=3\/ds[0]%8=4\/ds[0]%8=5\/ds[0]%8=6\/ds[0]%8=7:=wT;rcases hm with e|e|e|e|e|e|e|e <;> rw[e]
   .show⟨2,aO (j:=0) RA,w_,w_⟩
   .show⟨2,aO (j:=1) RA,w_,w_⟩
   .show⟨3,aO (j:=2) RA,w_,w_⟩
   .show⟨3,aO (j:=3) RA,w_,w_⟩
   .show⟨3,aO (j:=4) RA,w_,w_⟩
   .show⟨4,aO (j:=5) RA,w_,w_⟩
   .show⟨4,aO (j:=6) RA,w_,w_⟩
   .calc⟨(2+ds[0]/8%8).toNat,?_,by grind,by grind⟩;let e2:(2+ds[0]/8%8)=(((2+ds[0]/8%8).toNat:Nat):Int):=by grind
    rw[<-e2];show aO (j:=7) rfl
  let hT:upd H3 t (.lst [V.int 2,V.int 2,V.int 3,V.int 3,V.int 3,V.int 4,V.int 4,V.int (2+ds[0]/8%8)]) t=some _:=au;let s1:aA H3 (upd H3 t (.lst [V.int 2,V.int 2,V.int 3,V.int 3,V.int 3,V.int 4,V.int 4,V.int (2+ds[0]/8%8)])):=aA.upd ht;generalize upd H3 t (.lst [V.int 2,V.int 2,V.int 3,V.int 3,V.int 3,V.int 4,V.int 4,V.int (2+ds[0]/8%8)])=H4 at hT s1 ⊢;calc JI pr _ 0 _ ⟨RA,RA,aP.of (s1 _ _ hpr),at0,_,_,RA,RA,(by show (0:Int)<8;decide),t,_,_,_,RA,RA,aP.of hT,hz1,?_⟩;let Ko:aA H H4:=(sm.trans s3).trans s1;calc⟨RA,_,RA,_,_,RA,RA,_,RA,pr,_,RA,aP.of (s1 _ _ hpr),λu hu'=>?_⟩;let e1:(1:Int)+(z:Int)=((1+z:Nat):Int):=rfl;rw[e1];let Dc:(k_ (ds.map V.int) (some (1:Nat)) (some ((1+z:Nat):Int))).length=z:=by rw[Ik wT wT];lia
  generalize hxs:k_ (ds.map V.int) (some 1) (some ((1+z:Nat):Int))=xs;let aaq:xs.length=z:=by rw[<-hxs];show Dc
  let Xx:∀v∈xs,∃d:Int,v=.int d:=λv hv=>by rw[<-hxs]at hv;let⟨d,hd,e⟩:=DG hv;show⟨d,e⟩
  let sU:∀o,aA H4 (upd H4 u o):=λo=>aA.upd hu';refine⟨u,RA,⟨_,aP.of au⟩,λL hL=>qY (K:=K) (a:=u) (xs:=xs) (λi ys H5=>∃cs:List Nat,ys=Ts (cs.map λc=>[c])/\cs.length=i/\(∀c∈cs,c∈ls)/\H5 L=some (.lst ys)/\H5 u=some (.lst xs)/\aA H4 H5)
   ⟨[],RA,RA,λc hc=>by simp at hc,au,by rw[bw (bV au hL)];show au,(sU _).bI ((sU _).free hL)⟩ (λi ys H5 _ ⟨_,_,_,_,_,h2,_⟩=>aP.of h2) ?_ ?_⟩
  .intro i y ys H5 hi z;let⟨cs,rfl,hcl,hcm,hL2,hu2,vI⟩:=z;let hil:i<xs.length:=(al.mp hi).1;let⟨d,rfl⟩:=Xx y (aS hi);let hlp:(0:Int)<(ls.length:Int):=by have:=hA.lo;lia
   obtain⟨j,hj1,hj2⟩:∃j:Nat,d/20%(ls.length:Int)=(j:Int)/\j<ls.length:=by let h1:0<=d/20%(ls.length:Int):=e6 _ wT;let h2:d/20%(ls.length:Int)<ls.length:=du _ hlp;show⟨(d/20%(ls.length:Int)).toNat,wT,by simp_all⟩
   let XC:=vI _ _ (Ko _ _ hp);calc⟨_,_,RA,RA,⟨w_,w_⟩,p,_,RA,.inl (aP.of XC),_,_,RA,RA,by rw[hlo];show hlp,p,_,_,.str (S [ls[j]]),RA,RA,aP.of XC,?_,hL2,?_,?_⟩;.rw[hlo,hj1];show aO (by simp[Ts,ones,hj2])
   .show (Ts (cs.map λc=>[c])).length<sizeLine;rw[ab,ab];show aL wT
   .refine dM.mk hil ⟨cs++[ls[j]],by simp[Ts],by simp[hcl],λc hc=>?_,au,?_,λb o e=>?_⟩
    .rcases bd.mp hc with e|e;.show hcm c e
     .rw[ap.mp e];show aI _
    .rw[bw (bV au hL)];show hu2
    .rw[bw (bV ((sU _) b o e) hL)];show vI b o e
  .intro ys H5 z;let⟨cs,rfl,hcl,hcm,hL2,hu2,vI⟩:=z;calc⟨L,cs.map λc=>[c],RA,RA,aP.of hL2,by rw[j_];lia,?_⟩;rw[j_];let hd5:=vI _ _ (s1 _ _ (s3 _ _ hd2));let hW:lq cs:=⟨by simp[*],wT,λc hc=>hA.az c (hcm c hc)⟩
   calc⟨d,_,RA,vR.k (k:=gR cs) hd5 (by rw[lV,ab];show aL wT),?_⟩;calc JI _ _ _ (uF ws cs) ⟨RA,(Ko.trans vI).bI hd,by rw[au,Eb],Im W6,λl hl=>?_,a8 (Ed _ _) (g9 hl2)⟩;rcases Ec.mp hl with e|e;.show az2 l e
   .rw[e];show hW
 .intro σ H2 z;let⟨v5,v6,v7,ws,rfl,sm,hd2,W6,az2,hl2⟩:=z;calc JE d _ ws ⟨RA,hd2,Og ws,wT,λL hL=>?_⟩;let s3:aA H (upd H2 L (.lst (Ts ws))):=sm.bI (sm.free hL);calc⟨L,ws,RA,aP.of au,wT,λL2 ws' hL2 pm pw=>?_⟩;show q L2 ws' _ (s3.bI (s3.free hL2)) au (pm.nodup_iff.mpr W6) (λl hl=>az2 l (pm.mem_iff.mp hl)) pw (by rw[pm.length_eq];show hl2)
def R8:Sp:=λvs H Q _=>∃i:Int,vs=[.int i]/\Q (.bl true) H
def Qw (D:aJ K mg "is_whole" sV ["thing"])(jw:mg "int"=none)(rC:mg "bool"=none)(bC:mg "isinstance"=none):bx P w K mg base "is_whole" 1 ["thing"] R8:=by calc D.cX Qp ?_;walk_at"b";let⟨i,rfl,q⟩:=h;calc⟨_,(aF (aW (m7 (aQ dI xa bC cp (aj aH (aj (h_ (v:=.ty "int") xa jw kX RA) aq))) (kI (aeE (aQ dI xa bC cp (aj aH (aj (h_ (v:=.ty "bool") xa rC PyProof.Rows.boot_bool RA) aq)))))))),?_⟩;show JI _ _ _ true ⟨RA,.int _,xb,cQ (JI _ _ _ false ⟨RA,.int _,xb,q⟩)⟩
def tE {ls:AA}{i:Nat}{l:List Nat}(h:ls[i]?=some l):(Ts ls)[i]?=some (.str (S l)):=by simp[Ts,h]
def rD {ls:AA}{i:Nat}{x:V}(h:(Ts ls)[i]?=some x):∃l,ls[i]?=some l/\x=.str (S l):=by rw[a_]at h;let⟨l,h1,h2⟩:=eK.mp h;show⟨l,h1,h2.symm⟩
def qD (n):((List.replicate n true).all id)=true:=by simp
def oF (n):(List.replicate n true).map V.bl++[V.bl true]=(List.replicate (n+1) true).map V.bl:=by rw[List.replicate_succ',bz];rfl
def Ip:Sp:=λvs H Q _=>∃(p:Addr) (ls:AA) (r w:Nat),vs=[.ref p]/\H p=some (.tup (Ts ls))/\Blk r w ls/\1<=r/\r<=9/\1<=w/\w<=9/\∀H',aA H H'->Q (.bl true) H'
def Qx (D:aJ K mg "is_block" sX ["thing"])(bG:mg "len"=none)(bH:mg "tuple"=none)(tG:mg "str"=none)(d9:mg "all"=none)(bC:mg "isinstance"=none)(xg:∃t,mg "MOST"=some (.int 9 t)):bx P w K mg base "is_block" 1 ["thing"] Ip:=by
 calc D.cX qN ?_;walk_at"b";let⟨p,ls,r,w,rfl,hp,hb,r1,r9,w1,w9,q⟩:=h;let m_:(Ts ls).length=r:=by rw[ab,hb.len]
 let h0:0<ls.length:=by rw[hb.len];show r1
 calc⟨_,(aD (cC (QW.qt (lu (dB (cO (aQ dI xa bC cp (aj aH (aj (h_ (v:=.ty "tuple") xa bH ci RA) aq))))) (jK (dB (xX nA nA aB (aQ cL xa bG b7 (aj aH aq)) (Lp xa xg)))))) (aF (aW gP)) bQ) (aD (cC (dB (cO (aQ (i_ RA) xa d9 iR (aj (gw RA (fP.of qN.nd xb) (fJ aH) (λ_ _ _ _ _=>cH) (λ_ _ _ _ _=>(aQ (M5 K) xa bC cp (aj aH (aj (h_ (v:=.ty "str") xa tG sK RA) aq))))) aq)))) (aF (aW gP)) bQ) (aD (aZ (i:=1) qN.nd RA (Or.inr RA) (aQ eN xa bG b7 (aj (bB bU aH aB (λ_ _=>rfl)) aq))) (aF (aW (m7 (oh nA nA aB aR (Lp xa xg)) (kI (aQ (i_ RA) xa d9 iR (aj (gw RA (fP.of qN.nd xb) (fJ aH) (λ_ _ _ _ _=>cH) (λ_ _ _ _ _=>(fB jF (aQ eN xa bG b7 (aj aH aq)) bJ (bR _)))) aq))))))))),?_⟩;calc JI _ _ _ true ⟨RA,.tup hp,xb,aU _ RA (bZ ?_)⟩;calc⟨p,_,RA,.inr (aN.of hp),_,_,RA,RA,aU true (by rw[m_];simp;lia) (cQ ⟨_,_,RA,RA,aU true (by rw[m_];simp;lia) (bZ ?_)⟩)⟩;refine⟨p,RA,⟨_,aN.of hp⟩,λL hL=>ug (xs:=Ts ls) (λi ys H2=>ys=(List.replicate i true).map V.bl/\H2 L=some (.lst ys)/\aA H H2) ⟨RA,au,aA.upd hL⟩ (λi ys H2 _ h=>aN.of (h.2.2 _ _ hp)) ?_ ?_⟩
 .intro i x ys H2 hi z;let⟨rfl,hL2,sm⟩:=z;let⟨l,hl,rfl⟩:=rD hi;let hil:i<(Ts ls).length:=(al.mp hi).1;refine JI _ _ _ true ⟨RA,.str _,xb,hL2,by rw[ab,dq];show aL wT,dM.mk hil ⟨oF i,au,sm.bI hL⟩⟩
 .intro ys H2 z;let⟨rfl,hL2,sm⟩:=z;calc⟨L,_,RA,aP.of hL2,?_⟩;rw[qD];calc(aU _ RA (bZ ?_));let hw0:ls[0].length=w:=hb.ju _ (aI _);let hz:ls[0].length<=sizeLine:=aT (aL wT);calc JI p _ _ (.str (S ls[0])) ⟨RA,RA,aN.of (sm _ _ hp),aO (j:=0) (tE (by simp[h0])),_,RA,hz,?_⟩;calc⟨_,_,RA,RA,aU true (by rw[hw0];simp;lia) (cQ ⟨_,_,RA,RA,aU true (by rw[hw0];simp;lia) (cQ ?_)⟩)⟩;refine⟨p,RA,⟨_,aN.of (sm _ _ hp)⟩,λL2 Aq=>ug (xs:=Ts ls) (λi ys H3=>ys=(List.replicate i true).map V.bl/\H3 L2=some (.lst ys)/\aA H H3) ⟨RA,au,sm.bI (sm.free Aq)⟩ (λi ys H2 _ h=>aN.of (h.2.2 _ _ hp)) ?_ ?_⟩
  .intro i x ys H3 hi z;let⟨rfl,mV,sm3⟩:=z;let⟨l,hl,rfl⟩:=rD hi;let hil:i<(Ts ls).length:=(al.mp hi).1;let R9:l.length=w:=hb.ju _ (aS hl);calc⟨_,RA,aT (aL wT),RA,mV,by rw[ab,dq];show aL wT,dM.mk hil ⟨?_,au,sm3.bI (sm.free Aq)⟩⟩;rw[R9,hw0,ar rfl];show oF i
  .intro ys H3 z;let⟨rfl,mV,sm3⟩:=z;calc⟨L2,_,RA,aP.of mV,?_⟩;rw[qD];show q H3 sm3
def uw {r w:Nat}{ls:AA}(h:Blk r w ls):ls.flatten.length=r*w:=by
 rw[List.length_flatten];have:ls.map List.length=List.replicate r w:=by rw[<-h.len,List.eq_replicate_iff];show⟨w8,λb hb=>by let⟨l,hl,rfl⟩:=aw.mp hb;show h.ju l hl⟩
 rw[this,List.sum_replicate_nat]
def XD:Sp:=λvs H Q _=>∃(p:Addr) (ls:AA) (r w:Nat),vs=[.ref p]/\H p=some (.tup (Ts ls))/\Blk r w ls/\1<=r/\r<=9/\1<=w/\w<=9/\(∀l∈ls,∀c∈l,Di c)/\∀H',aA H H'->Q (.bl true) H'
def Qy (D:aJ K mg "are_rows" sY ["thing"])(d9:mg "all"=none)(cP:∃t,mg "FREE"=some (.str (S [46]) t))(yI:bx P w K mg base "is_block" 1 ["thing"] Ip)(Av:bx P w K mg base "is_sign" 1 ["thing"] (Ob K)):bx P w K mg base "are_rows" 2 ["thing"] XD:=by
 calc D.cX Dh ?_;walk_at"b";let⟨p,ls,r,w,rfl,hp,hb,r1,r9,w1,w9,hc,q⟩:=h;let hrw:r*w<=81:=kF r9 w9;let hfl:=uw hb;calc⟨_,(aF (aW (m7 (aY yI hr.mono RA (aj aH aq)) (kI (aQ (i_ RA) xa d9 iR (aj (gw RA (fP.of Dh.nd xb) (wL (eX bS eR eW DK (cF [] xc) (aj aH aq))) (λ_ _ _ _ _=>cH) (λ_ _ _ _ _=>(Ua (fB wJ aH (jX xa cP) (bR _)) (kI (aY Av hr.mono RA (aj aH aq)))))) aq)))))),?_⟩;calc JI p ls r w ⟨RA,hp,hb,r1,r9,w1,w9,λH1 s1=>(aU true RA (cQ ?_))⟩;calc⟨RA,p,ls,RA,RA,aN.of (s1 _ _ hp),wT,_,RA,λL hL=>?_⟩;refine xY (λi ys H2=>ys=(List.replicate i true).map V.bl/\H2 L=some (.lst ys)/\aA H H2) ⟨RA,au,s1.bI (s1.free hL)⟩ ?_ ?_
 .intro i c ys H2 hi z;let⟨rfl,hL2,sm⟩:=z;let hil:i<ls.flatten.length:=(al.mp hi).1;let⟨l,hl,hcl⟩:=sx.mp (aS hi);let fin:H2 L=some (.lst ((List.replicate i true).map V.bl))/\((List.replicate i true).map V.bl).length<sizeLine/\dM ls.flatten.length i ((List.replicate i true).map V.bl++[V.bl true]=(List.replicate (i+1) true).map V.bl/\upd H2 L (.lst ((List.replicate i true).map V.bl++[V.bl true])) L=some (.lst ((List.replicate i true).map V.bl++[V.bl true]))/\aA H (upd H2 L (.lst ((List.replicate i true).map V.bl++[V.bl true])))):=
   ⟨hL2,by rw[ab,dq];show aL wT,dM.mk hil ⟨oF i,au,sm.bI (s1.free hL)⟩⟩
  calc⟨[c],[46],RA,RA,aU _ RA ?_⟩;rcases hc l hl c hcl with e|e
  .subst e;rw[ar rfl];show cQ fin
  .by_cases R_:[c]=[46]
   .rw[ar R_];show cQ fin
   .rw[am R_];calc bZ (.inr ⟨[c],RA,by show 1<=1000;decide,?_⟩);rw[show GC [c]=true from e];show fin
 .intro ys H2 z;let⟨rfl,hL2,sm⟩:=z;calc⟨L,_,RA,aP.of hL2,?_⟩;rw[qD];show q H2 sm
def Sd:Sp:=λvs H Q _=>∃(p:Addr) (ls:AA) (r w:Nat),vs=[.ref p]/\H p=some (.tup (Ts ls))/\Blk r w ls/\1<=r/\r<=9/\1<=w/\w<=9/\(∀l∈ls,∀c∈l,Xu c)/\∀H',aA H H'->Q (.bl true) H'
def Oi (D:aJ K mg "are_marks" qO ["thing"])(d9:mg "all"=none)(xq:∃t,mg "MARKS"=some (.str (S MK) t))(yI:bx P w K mg base "is_block" 1 ["thing"] Ip):bx P w K mg base "are_marks" 2 ["thing"] Sd:=by
 calc D.cX Am ?_;walk_at"b";let⟨p,ls,r,w,rfl,hp,hb,r1,r9,w1,w9,hc,q⟩:=h;let hrw:r*w<=81:=kF r9 w9;let hfl:=uw hb;calc⟨_,(aF (aW (m7 (aY yI hr.mono RA (aj aH aq)) (kI (aQ (i_ RA) xa d9 iR (aj (gw RA (fP.of Am.nd xb) (wL (eX bS eR eW DK (cF [] xc) (aj aH aq))) (λ_ _ _ _ _=>cH) (λ_ _ _ _ _=>(fB Wi aH (jX xa xq) RA))) aq)))))),?_⟩;calc JI p ls r w ⟨RA,hp,hb,r1,r9,w1,w9,λH1 s1=>(aU true RA (cQ ?_))⟩;calc⟨RA,p,ls,RA,RA,aN.of (s1 _ _ hp),wT,_,RA,λL hL=>?_⟩;refine xY (λi ys H2=>ys=(List.replicate i true).map V.bl/\H2 L=some (.lst ys)/\aA H H2) ⟨RA,au,s1.bI (s1.free hL)⟩ ?_ ?_
 .intro i c ys H2 hi z;let⟨rfl,hL2,sm⟩:=z;let hil:i<ls.flatten.length:=(al.mp hi).1;let⟨l,hl,hcl⟩:=sx.mp (aS hi);calc⟨c,MK,RA,RA,hL2,by rw[ab,dq];show aL wT,dM.mk hil ⟨?_,au,sm.bI (s1.free hL)⟩⟩;rw[ar (show c∈MK from hc l hl c hcl)];show oF i
 .intro ys H2 z;let⟨rfl,hL2,sm⟩:=z;calc⟨L,_,RA,aP.of hL2,?_⟩;rw[qD];show q H2 sm
def yJ (K:W.Frag):Sp:=λvs H Q _=>∃(p:Addr) (ls:AA) (r w:Nat) (i j:Int),vs=[.ref p,.int i,.int j]/\aN K H p (Ts ls)/\Blk r w ls/\1<=r/\r<=9/\w<=9/\Q (.bl (decide (0<=i/\i<r/\0<=j/\j<w))) H
def K6 (D:aJ K mg "is_cell_of" pD ["rows","row","column"])(bG:mg "len"=none)(GJ:bx P w K mg base "is_whole" 1 ["thing"] R8):bx P w K mg base "is_cell_of" 2 ["rows","row","column"] (yJ K):=by
 calc D.cX KY ?_;walk_at"b";let⟨p,ls,r,w,i,j,rfl,hp,hb,r1,r9,w9,q⟩:=h;let m_:(Ts ls).length=r:=by rw[ab,hb.len]
 let h0:0<ls.length:=by rw[hb.len];lia
 let hw0:ls[0].length=w:=hb.ju _ (aI _);calc⟨_,(aD (cC (QW.qt (lu (dB (cO (aY GJ hr.mono RA (aj aR aq)))) (jK (dB (cO (aY GJ hr.mono RA (aj bJ aq))))))) (aF (aW gP)) bQ) (aF (aW (m7 (oh nA Fe aB aR (aQ cL xa bG b7 (aj aH aq))) (kI (oh nA Fe aB bJ (aQ eN xa bG b7 (aj (bB bU aH aB (λ_ _=>rfl)) aq)))))))),?_⟩;calc⟨i,RA,bZ ⟨j,RA,aU _ RA (bZ ?_)⟩⟩;calc⟨_,_,RA,RA,aU _ RA ?_⟩;by_cases h1:0<=i
 .rw[ar h1];calc cQ ⟨p,_,RA,.inr hp,_,_,RA,RA,aU _ RA ?_⟩;rw[m_];by_cases h2:i<(r:Int)
  .rw[ar h2];calc cQ ⟨_,_,RA,RA,aU _ RA ?_⟩;by_cases h3:0<=j
   .rw[ar h3];calc cQ (JI p _ _ (.str (S ls[0])) ⟨RA,RA,hp,aO (j:=0) (tE (by simp[h0])),_,RA,aT (aL wT),_,_,RA,RA,?_⟩);rw[hw0];simpa [h1,h2,h3] using q
   .rw[am h3];calc bZ ?_;simpa [h1,h2,h3] using q
  .rw[am h2];calc bZ ?_;simpa [h1,h2] using q
 .rw[am h1];calc bZ (aU _ RA (bZ ?_));simpa [h1] using q
def Sg (K:W.Frag):Sp:=λvs H Q _=>∃(p b:Addr) (ls:AA) (r w:Nat) (i j:Nat),vs=[.ref p,.ref b]/\H p=some (.tup (Ts ls))/\H b=some (.tup [.int i,.int j])/\Blk r w ls/\1<=r/\r<=9/\w<=9/\i<r/\j<w/\Q (.bl true) H
def Ir (D:aJ K mg "is_begin_of" nF ["rows","thing"])(bG:mg "len"=none)(bH:mg "tuple"=none)(bC:mg "isinstance"=none)(lW:bx P w K mg base "is_cell_of" 2 ["rows","row","column"] (yJ K)):bx P w K mg base "is_begin_of" 3 ["rows","thing"] (Sg K):=by calc D.cX Ij ?_;walk_at"b";let⟨p,b,ls,r,w,i,j,rfl,hp,hb,hB,r1,r9,w9,hi,hj,q⟩:=h;calc⟨_,(aF (aW (m7 (aQ dI xa bC cp (aj aR (aj (h_ (v:=.ty "tuple") xa bH ci RA) aq))) (m7 (fB jF (aQ cL xa bG b7 (aj aR aq)) aB (bR _)) (kI (aY lW hr.mono RA (aj aH (aj (bB bU aR aB (λ_ _=>rfl)) (aj (bB bU aR aB (λ_ _=>rfl)) aq))))))))),?_⟩;calc JI _ _ _ true ⟨RA,.tup hb,xb,aU true RA (cQ ?_)⟩;calc⟨b,_,RA,.inr (aN.of hb),RA,aU true RA (cQ ?_)⟩;calc JI b _ _ (.int i) ⟨RA,RA,aN.of hb,aO (j:=0) RA,b,_,_,.int j,RA,RA,aN.of hb,aO (j:=1) RA,?_⟩;calc JO p ls r w i j ⟨RA,aN.of hp,hB,r1,r9,w9,?_⟩;rw[ar ⟨wT,oB gx hi,wT,wT⟩];show q
def Sh:Sp:=λvs H Q _=>∃(pr pm pb:Addr) (r w:Nat) (ak aK:AA) (i j:Nat),vs=[.ref pr,.ref pm,.ref pb]/\H pr=some (.tup (Ts ak))/\H pm=some (.tup (Ts aK))/\H pb=some (.tup [.int i,.int j])/\GF r w ak aK i j/\∀H',aA H H'->Q (.bl true) H'
def Qz (D:aJ K mg "is_board" tu ["rows","marks","begin"])(bG:mg "len"=none)(U8:bx P w K mg base "are_rows" 2 ["thing"] XD)(QB:bx P w K mg base "are_marks" 2 ["thing"] Sd)(K7:bx P w K mg base "is_begin_of" 3 ["rows","thing"] (Sg K)):bx P w K mg base "is_board" 4 ["rows","marks","begin"] Sh:=by
 calc D.cX Qq ?_;walk_at"b";let⟨pr,pm,pb,r,w,ak,aK,i,j,rfl,hr',hm,hb,B,q⟩:=h;let l1:(Ts ak).length=r:=by rw[ab,B.br.len]
 let l2:(Ts aK).length=r:=by rw[ab,B.bm.len]
 let h0:0<ak.length:=by rw[B.br.len];show B.r1
 let h0':0<aK.length:=by rw[B.bm.len];show B.r1
 let w0:ak[0].length=w:=B.br.ju _ (aI _);let w0':aK[0].length=w:=B.bm.ju _ (aI _);let w9:=B.w9;calc⟨_,(aD (cC (QW.qt (lu (dB (cO (aY U8 hr.mono RA (aj aH aq)))) (jK (dB (cO (aY QB hr.mono RA (aj aR aq))))))) (aF (aW gP)) bQ) (aD (cC (QW.qt (lu (cg Bm (aQ cL xa bG b7 (aj aR aq)) (aQ cL xa bG b7 (aj aH aq)) (bR _)) (jK (cg Bm (aQ eN xa bG b7 (aj (bB bU aR aB (λ_ _=>rfl)) aq)) (aQ eN xa bG b7 (aj (bB bU aH aB (λ_ _=>rfl)) aq)) (bR _))))) (aF (aW gP)) bQ) (aF (aW (aY K7 hr.mono RA (aj aH (aj bJ aq))))))),?_⟩;calc JI pr ak r w ⟨RA,hr',B.br,B.r1,B.r9,B.w1,B.w9,B.cr,λH1 s1=>(aU _ RA (bZ ?_))⟩;calc JI pm aK r w ⟨RA,s1 _ _ hm,B.bm,B.r1,B.r9,B.w1,B.w9,B.cm,λH2 s2=>(aU _ RA (bZ ?_))⟩;let s12:=s1.trans s2;calc⟨pm,_,RA,.inr (aN.of (s12 _ _ hm)),pr,_,RA,.inr (aN.of (s12 _ _ hr')),RA,aU _ RA ?_⟩;calc Ft (by rw[l1,l2]) ?_;calc JI pm _ _ (.str (S aK[0])) ⟨RA,RA,aN.of (s12 _ _ hm),aO (j:=0) (tE (by simp[h0'])),_,RA,aT (aL wT),pr,_,_,.str (S ak[0]),RA,RA,aN.of (s12 _ _ hr'),aO (j:=0) (tE (by simp[h0])),_,RA,aT (aL wT),RA,aU _ RA ?_⟩;calc Ft (by rw[w0,w0']) ?_;calc JP pr pb ak r w i j ⟨RA,s12 _ _ hr',s12 _ _ hb,B.br,B.r1,B.r9,B.w9,B.bi,B.bj,?_⟩;show q H2 s12
structure dF (K:W.Frag)(C:Addr):Prop where
 cl:Cls K C
 nr:mZ K C "rows"
 nm:mZ K C "marks"
 nb:mZ K C "begin"
structure dG (C:Addr)(H:Hp)(p:Addr)(r w:Nat)(ak aK:AA)(i j:Nat):Prop where
 ex:∃dx pr pm pb,H p=some (.ins C dx [("rows",.ref pr),("marks",.ref pm),("begin",.ref pb)])/\H pr=some (.tup (Ts ak))/\H pm=some (.tup (Ts aK))/\H pb=some (.tup [.int i,.int j])
 ok:GF r w ak aK i j
def dG.mv {r w:Nat}{ak aK:AA}{i j:Nat}(B:dG C H p r w ak aK i j)(s:aA H H'):dG C H' p r w ak aK i j:=by obtain⟨⟨dx,pr,pm,pb,a,b,c,d⟩,o⟩:=B;show⟨(JI dx pr pm pb ⟨s _ _ a,s _ _ b,s _ _ c,s _ _ d⟩),o⟩
def Cm (C:Addr):Sp:=λvs H Q _=>∃(p dx pr pm pb:Addr) (r w:Nat) (ak aK:AA) (i j:Nat),vs=[.ref p,.ref pr,.ref pm,.ref pb]/\H p=some (.ins C dx [])/\H pr=some (.tup (Ts ak))/\H pm=some (.tup (Ts aK))/\H pb=some (.tup [.int i,.int j])/\GF r w ak aK i j/\
 ∀H',(∀b o,H b=some o->b≠p->H' b=some o)->H' p=some (.ins C dx [("rows",.ref pr),("marks",.ref pm),("begin",.ref pb)])->Q .non H'
def K8 (F:iY K "__init__" "Board.__init__" jc f fd)(T:dF K C)(U9:bx P w K mg base "is_board" 4 ["rows","marks","begin"] Sh):cJ P w K mg base fG 5 f fd ["self","rows","marks","begin"] (Cm C):=by
 calc F.cX KZ ?_;intro bD A outer s H vs Q E hr h;let⟨p,dx,pr,pm,pb,r,w,ak,aK,i,j,rfl,hp,hr',hm,hb,B,q⟩:=h;calc⟨_,(aD (cC (dB (cO (aY U9 hr.mono RA (aj aR (aj bJ (aj cj aq)))))) iQ bQ) (aD (Fy aH aR RA) (aD (Fy aH bJ RA) (aF (Fy aH cj RA))))),?_⟩;calc JS pr pm pb r w ak aK i ⟨j,RA,hr',hm,hb,B,λH1 s1=>(aU _ RA (bZ ?_))⟩;calc JI p C dx _ ⟨RA,s1 _ _ hp,T.cl,T.nr,by show 0<1000;decide,?_⟩;calc JI p C dx _ ⟨RA,au,T.cl,T.nm,by show 1<1000;decide,?_⟩;calc JI p C dx _ ⟨RA,au,T.cl,T.nb,by show 2<1000;decide,?_⟩;calc q _ (λb o e hne=>?_) ?_;.rw[bw hne,bw hne,bw hne];show s1 _ _ e
 .show au
def atC (ak:AA)(r w:Nat)(i j:Int):Nat:=if 0<=i/\i<r/\0<=j/\j<w then (ak.getD i.toNat []).getD j.toNat 0 else 46
def Oj (C:Addr):Sp:=λvs H Q _=>∃(p:Addr) (r w:Nat) (ak aK:AA) (bi bj:Nat) (i j:Int),vs=[.ref p,.int i,.int j]/\dG C H p r w ak aK bi bj/\Q (.str (S [atC ak r w i j])) H
def agF (F:iY K "at" "Board.at" j4 f fd)(T:dF K C)(cP:∃t,mg "FREE"=some (.str (S [46]) t))(lW:bx P w K mg base "is_cell_of" 2 ["rows","row","column"] (yJ K)):cJ P w K mg base fG 3 f fd ["self","row","column"] (Oj C):=by
 calc F.cX Qs ?_;intro bD A outer s H vs Q E hr h;let⟨p,r,w,ak,aK,bi,bj,i,j,rfl,B,q⟩:=h;obtain⟨⟨dx,pr,pm,pb,hp,hr',hm,hb⟩,O⟩:=B;let w9:=O.w9;calc⟨_,(aF (aW (oA (cO (aY lW hr.mono RA (aj (dh aH RA) (aj aR (aj bJ aq))))) (bB Mx (bB bU (dh aH RA) aR (λ_ _=>rfl)) bJ (λ_ _=>rfl)) (jX xa cP)))),?_⟩;calc JJ p C dx _ _ ⟨RA,hp,T.cl,T.nr,RA,pr,ak,r,w,i,j,RA,aN.of hr',O.br,O.r1,O.r9,O.w9,aU _ RA ?_⟩;by_cases h:0<=i/\i<r/\0<=j/\j<w
 .rw[ar h];let e:atC ak r w i j=(ak.getD i.toNat []).getD j.toNat 0:=if_pos h;rw[e]at q;obtain⟨i,rfl⟩:∃k:Nat,i=k:=⟨i.toNat,wT⟩
  obtain⟨j,rfl⟩:∃k:Nat,j=k:=⟨j.toNat,wT⟩
  rw[de,de]at q;let hi:i<ak.length:=by rw[O.br.len];simp_all
  let hgi:ak[i]?=some (ak.getD i []):=by rw[ai,ae hi];rfl
  let hw:(ak.getD i []).length=w:=O.br.ju _ (aS hgi);let hgj:(ak.getD i [])[j]?=some ((ak.getD i []).getD j 0):=by rw[ai (l:=ak.getD i []),ae (by simp_all)];rfl
  refine cQ (JJ p C dx _ _ ⟨RA,hp,T.cl,T.nr,RA,pr,_,_,_,RA,RA,aN.of hr',aO (tE hgi),_,_,_,RA,RA,aT (aL wT),aO hgj,q⟩)
 .rw[am h];let e:atC ak r w i j=46:=if_neg h;rw[e]at q;show bZ q
def isFree (ak:AA):Bool:=ak.flatten.all λc=>decide ([c]=[46])
def Ol (C:Addr):Sp:=λvs H Q _=>∃(p:Addr) (r w:Nat) (ak aK:AA) (bi bj:Nat),vs=[.ref p]/\dG C H p r w ak aK bi bj/\∀H',aA H H'->Q (.bl (isFree ak)) H'
def U_ (F:iY K "is_free" "Board.is_free" gn f fd)(T:dF K C)(d9:mg "all"=none)(cP:∃t,mg "FREE"=some (.str (S [46]) t)):cJ P w K mg base fG 1 f fd ["self"] (Ol C):=by
 calc F.cX uz ?_;intro bD A outer s H vs Q E hr h;let⟨p,r,w,ak,aK,bi,bj,rfl,B,q⟩:=h;obtain⟨⟨dx,pr,pm,pb,hp,hr',hm,hb⟩,O⟩:=B;let hrw:r*w<=81:=kF O.r9 O.w9;let hfl:=uw O.br;calc⟨_,(aF (aW (aQ (i_ RA) xa d9 iR (aj (gw RA (fP.of uz.nd xb) (wL (eX bS eR eW DK (cF [] xc) (aj (dh aH RA) aq))) (λ_ _ _ _ _=>cH) (λ_ _ _ _ _=>(fB wJ aH (jX xa cP) (bR _)))) aq)))),?_⟩;calc⟨RA,p,C,dx,_,_,RA,hp,T.cl,T.nr,RA,pr,ak,RA,RA,aN.of hr',wT,_,RA,λL hL=>?_⟩;refine xY (λi ys H2=>ys=((ak.flatten.take i).map λc=>decide ([c]=[46])).map V.bl/\H2 L=some (.lst ys)/\aA H H2) ⟨RA,au,aA.upd hL⟩ ?_ ?_
 .intro i c ys H2 hi z;let⟨rfl,hL2,sm⟩:=z;let hil:i<ak.flatten.length:=(al.mp hi).1;calc⟨[c],[46],RA,RA,hL2,?_,dM.mk hil ⟨?_,au,sm.bI hL⟩⟩;.rw[ab,ab,be];show aL wT
  .rw[bP,hi];simp
 .intro ys H2 z;let⟨rfl,hL2,sm⟩:=z;rw[cK]at hL2;calc⟨L,_,RA,aP.of hL2,?_⟩;let e:((ak.flatten.map λc=>decide ([c]=[46])).all id)=isFree ak:=by
   unfold isFree;rw[List.all_map];rfl
  rw[e];show q H2 sm
def fj (ak:AA)(j:Nat):List Nat:=ak.map λl=>l.getD j 0
def lineOf (ak:AA)(i j:Nat)(way:Int):List Nat:=if way=0 then ak.getD i [] else fj ak j
def placeOf (i j:Nat)(way:Int):Nat:=if way=0 then j else i
def Va:Sp:=λvs H Q _=>∃(p:Addr) (ak:AA) (r w j:Nat),vs=[.ref p,.int j]/\H p=some (.tup (Ts ak))/\Blk r w ak/\r<=9/\w<=9/\j<w/\∀H',aA H H'->Q (.str (S (fj ak j))) H'
def Iu (D:aJ K mg "column_text" nG ["rows","column"]):bx P w K mg base "column_text" 1 ["rows","column"] Va:=by
 calc D.cX wZ ?_;walk_at"b";let⟨p,ak,r,w,j,rfl,hp,hb,r9,w9,hj,q⟩:=h;calc⟨_,(aF (aW (eX bS eR eW oM (cF [] xc) (aj (gw RA (fP.of wZ.nd xb) (fJ aH) (λ_ _ _ _ _=>cH) (λ_ _ _ _ _=>(bB Mx aH bJ (λ_ _=>rfl)))) aq)))),?_⟩;let m_:(Ts ak).length=r:=by rw[ab,hb.len]
 refine⟨RA,p,RA,⟨_,aN.of hp⟩,λL hL=>ug (xs:=Ts ak) (λi ys H2=>ys=Ts (ones ((ak.take i).map λl=>l.getD j 0))/\H2 L=some (.lst ys)/\aA H H2) ⟨RA,au,aA.upd hL⟩ (λi ys H2 _ h=>aN.of (h.2.2 _ _ hp)) ?_ ?_⟩
 .intro i x ys H2 hi z;let⟨rfl,hL2,sm⟩:=z;let⟨l,hl,rfl⟩:=rD hi;let hil:i<(Ts ak).length:=(al.mp hi).1;let R9:l.length=w:=hb.ju _ (aS hl);calc JE l _ (l.getD j 0) ⟨RA,RA,aT (aL wT),?_,hL2,?_,dM.mk hil ⟨?_,au,sm.bI hL⟩⟩;.show aO (by rw[ai,ae (by simp_all)];rfl)
  .rw[ab,ab,ab,be];show aL (by grind)
  .rw[kZ,rB,bP,hl];simp
 .intro ys H2 z;let⟨rfl,hL2,sm⟩:=z;rw[m_,<-hb.len,cK]at hL2;calc⟨L,_,RA,RA,aP.of hL2,?_,?_⟩;.rw[j_,ab,hb.len];lia
  .rw[j_];show q H2 sm
def tH {r w:Nat}{ak:AA}(hb:Blk r w ak){i j:Nat}(hi:i<r){way:Int}:(lineOf ak i j way).length=if way=0 then w else r:=by
 unfold lineOf;by_cases h:way=0
 .rw[if_pos h,if_pos h,ai,ae (by rw[hb.len];show hi)];show hb.ju _ (aI _)
 .rw[if_neg h,if_neg h];unfold fj;rw[ab,hb.len]
def oU (l):(cG l).length<=l.length:=by unfold cG;rw[List.length_reverse];show a8 (oI _).length_le (by rw[List.length_reverse];show ah _)
def vJ (l):(cR l).length<=l.length:=(oI _).length_le
noncomputable def Ef (i j:Nat)(way:Int)(l:List Nat):List V:=if way=0 then [.int i,.int ((j:Int)-(cG (l.take j)).length),.str (S (cG (l.take j)++cR (l.drop j)))] else [.int ((i:Int)-(cG (l.take i)).length),.int j,.str (S (cG (l.take i)++cR (l.drop i)))]
def Vb (C:Addr):Sp:=λvs H Q _=>∃(p:Addr) (r w:Nat) (ak aK:AA) (bi bj i j:Nat) (way:Int),vs=[.ref p,.int i,.int j,.int way]/\dG C H p r w ak aK bi bj/\i<r/\j<w/\(way=0\/way=1)/\
 ∀(t:Addr) (H':Hp),aA H H'->H t=none->H' t=some (.tup (Ef i j way (lineOf ak i j way)))->Q (.ref t) H'
def afr (F:iY K "run" "Board.run" jy f fd)(T:dF K C)(bG:mg "len"=none)(cP:∃t,mg "FREE"=some (.str (S [46]) t))(rO:bx P w K mg base "column_text" 1 ["rows","column"] Va):cJ P w K mg base fG 2 f fd ["self","row","column","way"] (Vb C):=by
 calc F.cX jO ?_;intro bD A outer s H vs Q E hr h;let⟨p,r,w,ak,aK,bi,bj,i,j,way,rfl,B,hi,hj,Ah,q⟩:=h;obtain⟨⟨dx,pr,pm,pb,hp,hr',hm,hb⟩,O⟩:=B;let r9:=O.r9;let w9:=O.w9;calc⟨_,(aD (aZ (i:=4) jO.nd RA (Or.inl RA) (oA (cg jF cj aB (bR _)) (bB bU (dh aH RA) aR (λ_ _=>rfl)) (aY rO hr.mono RA (aj (dh aH RA) (aj bJ aq))))) (aD (aZ (i:=5) jO.nd RA (Or.inl RA) (oA (cg jF cj aB (bR _)) bJ aR)) (aD (aZ (i:=6) jO.nd RA (Or.inl RA) (bB bU (eX bS PySem.F.slot_str_rpartition PySem.F.type_str_rpartition ZK (iZ Mz cD oN (g_ d8)) (aj (jX xa cP) aq)) aB (λ_ _=>rfl))) (aD (aZ (i:=7) jO.nd RA (Or.inl RA) (aX tU f9 (bB bU (eX bS PySem.F.slot_str_partition PySem.F.type_str_partition acf (iZ Mz cD (g_ d8) oN) (aj (jX xa cP) aq)) aB (λ_ _=>rfl)))) (aD (aZ (i:=8) jO.nd RA (Or.inl RA) (aX o8 d8 (aQ eN xa bG b7 (aj f9 aq)))) (aF (aW (oA (cg jF cj aB (bR _)) (dg (aj aR (aj iI (aj jV aq)))) (dg (aj iI (aj bJ (aj jV aq)))))))))))),?_⟩;let hgi:ak[i]?=some (ak.getD i []):=by rw[ai,ae (by rw[O.br.len];show hi)];rfl
 rcases Ah with rfl|rfl
 .let hll:(lineOf ak i j 0).length=w:=tH O.br hi;let el:ak.getD i []=lineOf ak i j 0:=rfl;rw[el]at hgi;let hz:∀l:List Nat,l.length<=100->l.length<=sizeLine:=λl h=>aT (aL wT);calc⟨RA,aU _ RA (cQ ?_)⟩;calc JJ p C dx _ _ ⟨RA,hp,T.cl,T.nr,RA,pr,_,_,_,RA,RA,aN.of hr',aO (tE hgi),?_⟩;generalize hL:lineOf ak i j 0=l at hll hgi ⊢;calc⟨RA,aU _ RA (cQ ?_)⟩;calc⟨_,RA,l,RA,hz _ wT,RA,?_⟩;rw[M7];calc⟨_,RA,RA,by rw[be];grind,λp1 a1 b1 hp1=>?_⟩;calc JI p1 _ _ _ ⟨RA,RA,aN.of au,aO (j:=2) RA,?_⟩;let s1:aA H (upd H p1 (.tup [.str a1,.str b1,.str (S (cG (l.take j)))])):=aA.upd hp1;generalize upd H p1 (.tup [.str a1,.str b1,.str (S (cG (l.take j)))])=H1 at s1 ⊢;let t1:=oU (l.take j);let t2:=vJ (l.drop j);rw[be]at t1;rw[cy]at t2;calc⟨_,RA,l,RA,hz _ wT,RA,?_⟩;rw[yc];calc⟨_,RA,RA,by rw[cy];show a8 (n0 _ _) wT,λp2 b2 c2 hp2=>?_⟩;calc JI p2 _ _ _ ⟨RA,RA,aN.of au,aO (j:=0) RA,_,_,RA,RA,aT (aL (by grind)),?_⟩;let s2:=s1.bI (o:=HO.tup [.str (S (cR (l.drop j))),.str b2,.str c2]) (s1.free hp2);generalize upd H1 p2 (HO.tup [.str (S (cR (l.drop j))),.str b2,.str c2])=H2 at s2 ⊢;calc⟨_,RA,hz _ wT,_,_,RA,RA,?_⟩;calc⟨RA,aU _ RA (cQ ?_)⟩;calc⟨zsz 3,λt ht=>?_⟩;show q t _ (s2.bI (s2.free ht)) (s2.free ht) (by rw[au,hL];rfl)
 .let hll:(lineOf ak i j 1).length=r:=tH O.br hi;let el:fj ak j=lineOf ak i j 1:=rfl;let hz:∀l:List Nat,l.length<=100->l.length<=sizeLine:=λl h=>aT (aL wT);calc⟨RA,aU _ RA (bZ ?_)⟩;calc JJ p C dx _ _ ⟨RA,hp,T.cl,T.nr,RA,pr,ak,r,w,j,RA,hr',O.br,r9,w9,hj,λH0 s0=>?_⟩;rw[el];generalize hL:lineOf ak i j 1=l at hll ⊢;calc⟨RA,aU _ RA (bZ ?_)⟩;calc⟨_,RA,l,RA,hz _ wT,RA,?_⟩;rw[M7];calc⟨_,RA,RA,by rw[be];lia,λp1 a1 b1 hp1=>?_⟩;calc JI p1 _ _ _ ⟨RA,RA,aN.of au,aO (j:=2) RA,?_⟩;let s1:aA H (upd H0 p1 (.tup [.str a1,.str b1,.str (S (cG (l.take i)))])):=s0.bI (s0.free hp1);generalize upd H0 p1 (.tup [.str a1,.str b1,.str (S (cG (l.take i)))])=H1 at s1 ⊢;let t1:=oU (l.take i);let t2:=vJ (l.drop i);rw[be]at t1;rw[cy]at t2;calc⟨_,RA,l,RA,hz _ wT,RA,?_⟩;rw[yc];calc⟨_,RA,RA,by rw[cy];lia,λp2 b2 c2 hp2=>?_⟩;calc JI p2 _ _ _ ⟨RA,RA,aN.of au,aO (j:=0) RA,_,_,RA,RA,aT (aL wT),?_⟩;let s2:=s1.bI (o:=HO.tup [.str (S (cR (l.drop i))),.str b2,.str c2]) (s1.free hp2);generalize upd H1 p2 (HO.tup [.str (S (cR (l.drop i))),.str b2,.str c2])=H2 at s2 ⊢;calc⟨_,RA,hz _ wT,_,_,RA,RA,?_⟩;calc⟨RA,aU _ RA (bZ ?_)⟩;calc⟨zsz 3,λt ht=>?_⟩;show q t _ (s2.bI (s2.free ht)) (s2.free ht) (by rw[au,hL];rfl)
abbrev bK:=Nat×Nat×Nat
def rk (t:bK):Nat:=t.1*1000+t.2.1
def sw (t:bK):bK:=(t.2.1,t.1,t.2.2)
def Dj (t:bK):Prop:=t.1<9/\t.2.1<9/\t.2.2<128
def Aw (H:Hp)(a:Addr)(t:bK):Prop:=H a=some (.tup [.int t.1,.int t.2.1,.str (S [t.2.2])])
noncomputable def tO (H:Hp)(a:Addr):bK:=match H a with| some (.tup [.int x,.int y,.str z])=>(x.toNat,y.toNat,z.cps.toList.headD 0)| _=>(0,0,0)
def Vc (h:Aw H a t):tO H a=t:=by unfold tO;rw[show H a=_ from h];rfl
structure dw (H:Hp)(as:List Addr)(ts:List bK):Prop where
 at_:∀a∈as,Aw H a (tO H a)
 eq:as.map (tO H)=ts
def dw.iC (k:∀a xs,H a=some (.tup xs)->H' a=some (.tup xs))(h:dw H as ts):dw H' as ts:=by let e:∀a∈as,tO H' a=tO H a:=λa ha=>Vc (k a _ (h.at_ a ha));show⟨λa ha=>by rw[e a ha];show k a _ (h.at_ a ha),by rw[<-h.eq];show gd e⟩
def dw.mv (k:aA H H')(h:dw H as ts):dw H' as ts:=h.iC λa xs e=>k a _ e
def fu (hM:H M=some (.lst ys)):∀a xs,H a=some (.tup xs)->upd H M (.lst zs) a=some (.tup xs):=λa xs e=>by
 let ne:a≠M:=λz=>by rw[z,hM]at e;cases e
 rw[bw ne];show e
def dw.snoc (h:dw H as ts)(ha:Aw H a t):dw H (as++[a]) (ts++[t]):=by
 calc⟨λb hb=>?_,by rw[bz,h.eq,n5,Vc ha]⟩;rcases bd.mp hb with z|z;.show h.at_ b z
 .rw[ap.mp z,Vc ha];show ha
def dw.nil:dw H [] []:=⟨λa h=>by simp at h,RA⟩
def dw.len (h:dw H as ts):as.length=ts.length:=by rw[<-h.eq,ab]
def dw.get (h:dw H as ts)(hi:i<as.length):∃t,ts[i]?=some t/\Aw H as[i] t:=⟨tO H as[i],by rw[<-h.eq];simp[hi],h.at_ _ (aI _)⟩
def dw.perm {as as':List Addr}(h:dw H as ts)(p:as'.Perm as):dw H as' (as'.map (tO H))/\(as'.map (tO H)).Perm ts:=⟨⟨λa ha=>h.at_ a (p.mem_iff.mp ha),RA⟩,by rw[<-h.eq];show p.map _⟩
def bL (ak:AA)(w:Nat):List (List Nat):=(List.range w).map (fj ak)
def jA {r w:Nat}{ak:AA}(h:Blk r w ak):Blk w r (bL ak w):=
 ⟨by unfold bL;rw[ab,dP],λl hl=>by let⟨j,_,rfl⟩:=aw.mp hl;unfold fj;rw[ab,h.len]⟩
def yK {r w:Nat}{ak:AA}(h:Blk r w ak){Pc:Nat->Prop}(hp:∀l∈ak,∀c∈l,Pc c):∀l∈bL ak w,∀c∈l,Pc c:=λl hl c hc=>by let⟨j,hj,rfl⟩:=aw.mp hl;let hj:=bE.mp hj;let⟨l',hl',rfl⟩:=aw.mp hc;let hw:=h.ju l' hl';rw[ai,ae (by simp_all)];show hp l' hl' _ (aI _)
def Kp {r w:Nat}{ak:AA}(h:Blk r w ak):bL (bL ak w) r=ak:=by
 apply ph;.unfold bL;rw[ab,dP,h.len]
 .intro i h1 h2;let hw:=h.ju ak[i] (aI _);rw[show (bL (bL ak w) r)[i]=fj (bL ak w) i by simp[bL]];unfold fj bL;rw[eD];apply ph;.rw[ab,dP,hw]
  .intro j h3 h4;rw[wn,List.getElem_range];show (ak.map λl=>l.getD j 0).getD i 0=ak[i][j];rw[ai,ae (by rw[ab];show h2),wn];show (ak[i]).getD j 0=_;rw[ai,ae h4];rfl
def Om {r w:Nat}{ak aK:AA}{bi bj:Nat}(B:GF r w ak aK bi bj):GF w r (bL ak w) (bL aK w) bj bi:=⟨B.w1,B.w9,B.r1,B.r9,jA B.br,jA B.bm,yK B.br B.cr,yK B.bm B.cm,B.bj,B.bi⟩
def setAt (R:AA)(i j z:Nat):List (List Nat):=R.set i ((R.getD i []).set j z)
def bO (R:AA)(ts:List bK):List (List Nat):=ts.foldl (λR t=>setAt R t.1 t.2.1 t.2.2) R
def Iw {r w:Nat}{R:AA}(h:Blk r w R){i j z:Nat}(hi:i<r):Blk r w (setAt R i j z):=by
 calc⟨by unfold setAt;rw[nL,h.len],λl hl=>?_⟩;rcases qi hl with y|y;.show h.ju l y
 .rw[y,nL,ai,ae (by rw[h.len];show hi)];show h.ju _ (aI _)
def acX {r w:Nat}{R:AA}(h:Blk r w R){i j z:Nat}(hi:i<r){Pc:Nat->Prop}(hp:∀l∈R,∀c∈l,Pc c)(hz:Pc z):∀l∈setAt R i j z,∀c∈l,Pc c:=λl hl c hc=>by
 rcases qi hl with y|y;.show hp l y c hc
 .rw[y]at hc;rcases qi hc with u|u
  .rw[ai,ae (by rw[h.len];show hi)]at u;show hp _ (aI _) c u
  .rw[u];show hz
def inB (r w:Nat)(t:bK):Prop:=t.1<r/\t.2.1<w/\uE t.2.2
theorem jB {r w:Nat}:∀{ts:List bK} {R:AA},Blk r w R->(∀t∈ts,inB r w t)->Blk r w (bO R ts)
 | [],_,h,_=>h
 | t::ts,_,h,k=>jB (ts:=ts) (Iw h (k t aE).1) λx hx=>k x (ay _ hx)
theorem Oo {r w:Nat}:∀{ts:List bK} {R:AA},Blk r w R->(∀t∈ts,inB r w t)->(∀l∈R,∀c∈l,Di c)->∀l∈bO R ts,∀c∈l,Di c
 | [],_,_,_,g=>g
 | t::ts,_,h,k,g=>Oo (ts:=ts) (Iw h (k t aE).1) (λx hx=>k x (ay _ hx)) (acX h (k t aE).1 g (.inr (k t aE).2.2))
def aat {r w:Nat}{ak aK:AA}{bi bj:Nat}(B:GF r w ak aK bi bj)(k:∀t∈ts,inB r w t):GF r w (bO ak ts) aK bi bj:=⟨B.r1,B.r9,B.w1,B.w9,jB B.br k,B.bm,Oo B.br k B.cr,B.cm,B.bi,B.bj⟩
def XF (R)(ts:List bK)(t:bK):bO R (ts++[t])=setAt (bO R ts) t.1 t.2.1 t.2.2:=by unfold bO;rw[List.foldl_append];rfl
structure gM (H0 H:Hp)(ps:List Addr)(R:AA):Prop where
 len:ps.length=R.length
 nd:ps.Nodup
 fr:∀p∈ps,H0 p=none
 at_:∀(i:Nat) (h:i<ps.length),H ps[i]=some (.lst (Ts (ones (R.getD i []))))
def gM.mv (h:gM H0 H ps R)(k:∀p∈ps,H' p=H p):gM H0 H' ps R:=⟨h.len,h.nd,h.fr,λi hi=>by rw[k _ (aI _)];show h.at_ i hi⟩
def gM.mvS (h:gM H0 H ps R)(k:aA H H'):gM H0 H' ps R:=⟨h.len,h.nd,h.fr,λi hi=>k _ _ (h.at_ i hi)⟩
def gM.snoc (h:gM H0 H ps R)(hn:p∉ps)(h0:H0 p=none)(hp:H p=some (.lst (Ts (ones l)))):gM H0 H (ps++[p]) (R++[l]):=by
 refine⟨by simp[h.len],?_,λx hx=>?_,λi hi=>?_⟩
 .rw[List.nodup_append];calc⟨h.nd,w8,λa ha b hb=>?_⟩;rw[ap.mp hb];show λz=>hn (z ▸ ha)
 .rcases bd.mp hx with z|z;.show h.fr x z
  .rw[ap.mp z];show h0
 .by_cases c:i<ps.length;.rw[List.getElem_append_left c,h.at_ i c,ai,ai,eJ (by rw[<-h.len];show c)]
  .let e:i=ps.length:=by simp at hi;lia
   subst e;rw[List.getElem_append_right (ah _)];simp only[my,List.getElem_singleton];rw[hp,ai,c_ (by rw[h.len];show ah _),h.len];simp
def gM.set (h:gM H0 H ps R)(hi:i<ps.length):gM H0 (upd H ps[i] (.lst ((Ts (ones (R.getD i []))).set j (.str (S [z]))))) ps (setAt R i j z):=by
 let e:(Ts (ones (R.getD i []))).set j (.str (S [z]))=Ts (ones ((R.getD i []).set j z)):=by show List.set (((R.getD i []).map λc=>[c]).map λl=>V.str (S l)) j (V.str (S [z]))=((List.set (R.getD i []) j z).map λc=>[c]).map λl=>V.str (S l);rw[List.map_set,List.map_set]
 rw[e];calc⟨by unfold setAt;rw[nL];show h.len,h.nd,h.fr,λk hk=>?_⟩;by_cases c:k=i
 .subst c;rw[au];unfold setAt;rw[ai (l:=R.set _ _),iA (by rw[<-h.len];show hi)];rfl
 .rw[bw (λz=>c ((List.getElem_inj h.nd).mp z)),h.at_ k hk];unfold setAt;rw[ai (l:=R.set _ _),ly (λz=>c z.symm),<-ai]
def afs:Sp:=λvs H Q _=>∃(p:Addr) (ak:AA) (r w:Nat),vs=[.ref p]/\H p=some (.tup (Ts ak))/\Blk r w ak/\1<=r/\r<=9/\w<=9/\∀(p':Addr) (H':Hp),aA H H'->H' p'=some (.tup (Ts (bL ak w)))->Q (.ref p') H'
def Iz (D:aJ K mg "turned_rows" nH ["rows"])(bG:mg "len"=none)(dD:mg "range"=none)(bH:mg "tuple"=none)(rO:bx P w K mg base "column_text" 1 ["rows","column"] Va):bx P w K mg base "turned_rows" 2 ["rows"] afs:=by
 calc D.cX w5 ?_;walk_at"b";let⟨p,ak,r,w,rfl,hp,hb,r1,r9,w9,q⟩:=h;calc⟨_,(aF (aW (cW dU xa bH ci (aj (gw RA (fP.of w5.nd xb) (lN xa dD (aj (aQ eN xa bG b7 (aj (bB bU aH aB (λ_ _=>rfl)) aq)) aq)) (λ_ _ _ _ _=>cH) (λ_ _ _ _ _=>(aY rO hr.mono RA (aj aR (aj aH aq))))) aq)))),?_⟩;let h0:0<ak.length:=by rw[hb.len];show r1
 let w0:ak[0].length=w:=hb.ju _ (aI _);calc JI p _ _ (.str (S ak[0])) ⟨RA,RA,aN.of hp,aO (j:=0) (tE (by simp[h0])),_,RA,aT (aL wT),_,RA,mM _,wT,?_⟩;intro M hM;rw[de,w0];refine Fx (lo:=0) (n:=w) (λi ys H2=>ys=Ts ((List.range i).map (fj ak))/\H2 M=some (.lst ys)/\aA H H2) ⟨RA,au,aA.upd hM⟩ ?_ ?_
 .intro i ys H2 hi z;let⟨rfl,zA,sm⟩:=z;calc JJ p ak r w i ⟨by rw[Int.zero_add];rfl,sm _ _ hp,hb,r9,w9,hi,λH3 s3=>⟨s3 _ _ zA,?_,dM.mk hi ⟨?_,au,(sm.trans s3).bI hM⟩⟩⟩;.rw[ab,ab,dP];show aL wT
  .rw[kZ,fk,bz];rfl
 .intro ys H2 z;let⟨rfl,zA,sm⟩:=z;calc⟨M,_,RA,.inl ⟨aP.of zA,λl hl=>?_⟩⟩;show q l _ (sm.bI (sm.free hl)) au
def Oq (C:Addr):Sp:=λvs H Q _=>∃(p:Addr) (r w:Nat) (ak aK:AA) (bi bj:Nat),vs=[.ref p]/\dG C H p r w ak aK bi bj/\∀(p':Addr) (H':Hp),aA H H'->dG C H' p' w r (bL ak w) (bL aK w) bj bi->Q (.ref p') H'
def XH (F:iY K "turned" "Board.turned" gJ f fd)(T:dF K C)(uG:mg "Board"=some (.ref C))(xr:Mk K C f0)(xu:cJ P w K mg base fG 5 f0 pL ["self","rows","marks","begin"] (Cm C))(xG:cu K pL ["self","rows","marks","begin"] [])(zB:bx P w K mg base "turned_rows" 2 ["rows"] afs):cJ P w K mg base fG 8 f fd ["self"] (Oq C):=by
 calc F.cX vA ?_;intro bD A outer s H vs Q E hr h;let⟨p,r,w,ak,aK,bi,bj,rfl,BA,q⟩:=h;obtain⟨⟨dx,pr,pm,pb,hx,hpr,hpm,hpb⟩,B⟩:=BA;calc⟨_,(aD (aZ (i:=1) vA.nd RA (Or.inl RA) (dg (aj (bB bU (dh aH RA) aB (λ_ _=>rfl)) (aj (bB bU (dh aH RA) aB (λ_ _=>rfl)) aq)))) (aF (aW (BL xr xu hr.mono RA uG xG .nil fZ (aj (aY zB hr.mono RA (aj (dh aH RA) aq)) (aj (aY zB hr.mono RA (aj (dh aH RA) aq)) (aj aR aq))))))),?_⟩;calc JJ p C dx _ _ ⟨RA,hx,T.cl,T.nb,RA,pb,_,_,.int bj,RA,RA,aN.of hpb,aO (j:=1) RA,?_⟩;calc JJ p C dx _ _ ⟨RA,hx,T.cl,T.nb,RA,pb,_,_,.int bi,RA,RA,aN.of hpb,aO (j:=0) RA,zsz 2,λb hb=>?_⟩;let s1:aA H (upd H b (.tup [.int bj,.int bi])):=aA.upd hb;calc JJ p C dx _ _ ⟨RA,s1 _ _ hx,T.cl,T.nr,RA,pr,ak,r,w,RA,s1 _ _ hpr,B.br,B.r1,B.r9,B.w9,λp1 H1 t1 h1=>?_⟩;let s2:=s1.trans t1;calc JJ p C dx _ _ ⟨RA,s2 _ _ hx,T.cl,T.nm,RA,pm,aK,r,w,RA,s2 _ _ hpm,B.bm,B.r1,B.r9,B.w9,λp2 H2 t2 h2=>?_⟩;let s3:=s2.trans t2;calc(λx dy nx ndx nex=>?_);let s4:aA H2 (upd (upd H2 dy (HO.own x)) x (HO.ins C dy [])):=λb o e=>by rw[bw (bV e nx),bw (bV e ndx)];show e
 let hb2:H2 b=some (.tup [.int bj,.int bi]):=t2 _ _ (t1 _ _ au);calc JS x dy p1 p2 b w r (bL ak w) ⟨bL aK w,bj,bi,RA,au,s4 _ _ (t2 _ _ h1),s4 _ _ h2,s4 _ _ hb2,Om B,λH3 kp hx3=>⟨RA,?_⟩⟩;let s5:aA H2 H3:=λb o e=>kp b o (s4 b o e) (bV e nx);show q x H3 (s3.trans s5) ⟨(JI dy p1 p2 b ⟨hx3,s5 _ _ (t2 _ _ h1),s5 _ _ h2,s5 _ _ hb2⟩),Om B⟩
def GK (C:Addr):Sp:=λvs H Q _=>∃(p t:Addr) (as:List Addr) (ts:List bK) (r w:Nat) (ak aK:AA) (bi bj:Nat),vs=[.ref p,.ref t]/\dG C H p r w ak aK bi bj/\H t=some (.tup (as.map V.ref))/\dw H as ts/\(∀t∈ts,inB r w t)/\
 ∀(p':Addr) (H':Hp),aA H H'->dG C H' p' r w (bO ak ts) aK bi bj->Q (.ref p') H'
def acY (F:iY K "laid" "Board.laid" jd f fd)(T:dF K C)(gW:mg "list"=none)(bH:mg "tuple"=none)(uG:mg "Board"=some (.ref C))(xr:Mk K C f0)(xu:cJ P w K mg base fG 5 f0 pL ["self","rows","marks","begin"] (Cm C))(xG:cu K pL ["self","rows","marks","begin"] []):cJ P w K mg base fG 8 f fd ["self","laying"] (GK C):=by
 calc F.cX jm ?_;intro bD A outer s H vs Q E hr h;let⟨p,t,as,ts,r,w,ak,aK,bi,bj,rfl,BA,ht,hL,dN,q⟩:=h;obtain⟨⟨dx,pr,pm,pb,hx,hpr,hpm,hpb⟩,B⟩:=BA;let r9:=B.r9;let w9:=B.w9;let hbr:=B.br;calc⟨_,(aD (Ro (ix:=2) (ns:=["row"]) jm.nd RA (Or.inl RA) RA (fL.of ["self","laying","lines",".3","column","sign"] [3] xb) (fJ (dh aH RA)) (λ_ _ _ _ _=>(tR (show (["row","self","laying","lines",".3","column","sign"]:List Str).Nodup by decide +kernel) RA xa)) (λ_ _ _ _ _=>cH) (λ_ _ _ _ _=>(cW (yd RA) xa gW kG (aj aH aq)))) (aD (d7 cq RA (fJ aR) (o_ RA (cU (bY (i:=3) jm.nd RA (Or.inl RA)) (cU (bY (i:=4) jm.nd RA (Or.inl RA)) (cU (bY (i:=5) jm.nd RA (Or.inl RA)) mG)))) (aF (Wm d8 (aeL (bB gF bJ cj (λ_ _=>rfl)) cD set_list)))) (aF (aW (BL xr xu hr.mono RA uG xG .nil fZ (aj (cW dU xa bH ci (aj (gw RA (fP.of jm.nd xb) (fD bJ) (λ_ _ _ _ _=>cH) (λ_ _ _ _ _=>(aeM K bS eR eW (ZJ K) (cF [] xc) (aj aH aq)))) aq)) (aj (dh aH RA) (aj (dh aH RA) aq)))))))),?_⟩;refine JJ p C dx _ _ ⟨RA,hx,T.cl,T.nr,RA,pr,RA,⟨_,aN.of hpr⟩,λM hM=>FN (f:=eY [3] 0) (tt:=gG) (xs:=Ts ak) (λi ys H2=>∃ps:List Addr,ys=ps.map V.ref/\H2 M=some (.lst ys)/\aA H H2/\gM H H2 ps (ak.take i)/\M∉ps)
  ⟨[],RA,au,aA.upd hM,⟨w8,oC,λp h=>by simp at h,λi h=>by simp at h⟩,w8⟩ (λi ys H2 _ h=>by let⟨_,_,_,sm,_⟩:=h;show aN.of (sm _ _ hpr)) ?_ ?_⟩
 .intro i x ys H2 hi z;let⟨ps,rfl,zA,sm,zE,nM⟩:=z;let⟨l,hl,rfl⟩:=rD hi;let hil:i<(Ts ak).length:=(al.mp hi).1;let R9:l.length=w:=hbr.ju _ (aS hl);let m_:(Ts ak).length=r:=by rw[ab,hbr.len]
  let hpl:ps.length<=9:=by rw[zE.len,be,hbr.len];lia
  calc abn ⟨l,RA,wT,λc hc=>?_⟩;let ncM:M≠c:=λz=>by rw[<-z,zA]at hc;cases hc
  let ncp:c∉ps:=λz=>by let⟨k,hk,e⟩:=b9.mp z;have:=zE.at_ k hk;rw[e,hc]at this;cases this
  refine⟨by rw[bw ncM];show zA,by rw[ab];show aL wT,dM.mk hil ⟨ps++[c],w8,au,(sm.bI (sm.free hc)).bI hM,?_,?_⟩⟩
  .rw[show ak.take (i+1)=ak.take i++[l] by rw[bP,hl];rfl];calc gM.mv ((zE.mvS (aA.upd hc)).snoc ncp (sm.free hc) au) λy hy=>bw λz=>?_;rcases bd.mp hy with u|u
   .show nM (z ▸ u)
   .show ncM (z.symm.trans (ap.mp u))
  .intro z;rcases bd.mp z with u|u;.show nM u
   .show ncM (ap.mp u)
 .intro ys H2 z;let⟨ps,rfl,zA,sm,zE,nM⟩:=z;rw[cx (by rw[ab];show ah _)]at zE;refine⟨t,RA,⟨_,aN.of (sm _ _ ht)⟩,qp (K:=K) (a:=t) (xs:=as.map V.ref) (λi σ H3=>∃v3 v4 v5:Option V,σ=[some (.ref p),some (.ref t),some (.ref M),v3,v4,v5]/\aA H H3/\H3 M=some (.lst (ps.map V.ref))/\gM H H3 ps (bO ak (ts.take i)))
   (JE none none none ⟨RA,sm,zA,zE⟩) (λi σ H3 _ h=>by let⟨_,_,_,_,sm,_⟩:=h;show aN.of (sm _ _ ht)) ?_ ?_⟩
  .intro i x σ H3 hx' z;let⟨v3,v4,v5,rfl,sm3,XJ,vY⟩:=z;rw[a_]at hx';let hi:i<as.length:=by
    rcases eC i as.length with z|z;.show z
    .rw[dL z]at hx';cases hx'
   rw[ae hi]at hx';let hx':V.ref as[i]=x:=bb hx';subst hx';let⟨u,eu,hU⟩:=hL.get hi;let hum:=aS eu;let⟨u1,u2,u3⟩:=dN u hum;let hb3:Blk r w (bO ak (ts.take i)):=jB hbr λy hy=>dN y (fT hy);let hpl:ps.length=r:=by rw[vY.len,hb3.len]
   let hps:u.1<ps.length:=by simp_all
   calc⟨as[i],_,RA,aN.of (sm3 _ _ hU),RA,_,_,RA,_,_,RA,_,_,RA,RA,?_⟩;refine JI M _ _ (.ref ps[u.1]) ⟨RA,RA,aP.of XJ,aO (by simp[hps]),ps[u.1],_,_,u.2.1,RA,RA,vY.at_ u.1 hps,?_,?_⟩
   .have:((bO ak (ts.take i)).getD u.1 []).length=w:=by
     rw[ai,ae (by rw[hb3.len];show u1)];show hb3.ju _ (aI _)
    unfold CV;rw[ab,ab,this,if_pos wT,if_pos (oB gx u2)];congr 1
   .refine JE _ _ _ ⟨RA,sm3.bI (vY.fr _ (aI _)),?_,?_⟩
    .let ne:M≠ps[u.1]:=λz=>nM (by rw[z];show aI _)
     rw[bw ne];show XJ
    .rw[show bO ak (ts.take (i+1))=setAt (bO ak (ts.take i)) u.1 u.2.1 u.2.2 by rw[bP,eu];show XF _ _ _];show vY.set hps
  .intro σ H3 z;let⟨v3,v4,v5,rfl,sm3,XJ,vY⟩:=z;rw[cx (by rw[ab,hL.len];show ah _)]at vY;let B':=aat B dN;let hpl:ps.length=r:=by rw[vY.len,B'.br.len]
   refine⟨M,RA,⟨_,aP.of XJ⟩,λN hN=>qY (xs:=ps.map V.ref) (λi ys H4=>ys=Ts ((bO ak ts).take i)/\H4 N=some (.lst ys)/\aA H3 H4) ⟨RA,au,aA.upd hN⟩ (λi ys H4 _ h=>aP.of (h.2.2 _ _ XJ)) ?_ ?_⟩
   .intro i x ys H4 hi z;let⟨rfl,Ss,Ot⟩:=z;rw[a_]at hi;let hi':i<ps.length:=by
     rcases eC i ps.length with z|z;.show z
     .rw[dL z]at hi;cases hi
    rw[ae hi']at hi;let hi:V.ref ps[i]=x:=bb hi;subst hi;let hri:i<(bO ak ts).length:=by rw[<-vY.len];show hi'
    let hg:(bO ak ts).getD i []=(bO ak ts)[i]:=by rw[ai,ae hri];rfl
    let hw:(bO ak ts)[i].length=w:=B'.br.ju _ (aI _);let hat:=vY.at_ i hi';rw[hg]at hat;calc⟨RA,ps[i],ones (bO ak ts)[i],RA,RA,aP.of (Ot _ _ hat),by rw[j_,hw];lia,Ss,?_,dM.mk (by rw[ab];show hi') ⟨?_,au,Ot.bI hN⟩⟩;.rw[ab,be];show aL (by grind)
    .rw[j_,kZ,bP,ae hri];rfl
   .intro ys H4 z;let⟨rfl,Ss,Ot⟩:=z;rw[cx (by rw[ab,vY.len];show ah _)]at Ss;calc⟨N,_,RA,.inl ⟨aP.of Ss,λl hl=>?_⟩⟩;let s5:=(sm3.trans Ot).bI (o:=.tup (Ts (bO ak ts))) ((sm3.trans Ot).free hl);calc JJ p C dx _ _ ⟨RA,s5 _ _ hx,T.cl,T.nm,RA,p,C,dx,_,_,RA,s5 _ _ hx,T.cl,T.nb,RA,λx dy nx ndx nex=>?_⟩;let s6:aA (upd H4 l (.tup (Ts (bO ak ts)))) (upd (upd (upd H4 l (.tup (Ts (bO ak ts)))) dy (HO.own x)) x (HO.ins C dy [])):=λb o e=>by rw[bw (bV e nx),bw (bV e ndx)];show e
    calc JS x dy l pm pb r w (bO ak ts) ⟨aK,bi,bj,RA,au,s6 _ _ au,s6 _ _ (s5 _ _ hpm),s6 _ _ (s5 _ _ hpb),B',λH5 kp hx5=>⟨RA,?_⟩⟩;let s7:aA (upd H4 l (.tup (Ts (bO ak ts)))) H5:=λb o e=>kp b o (s6 b o e) (bV e nx);show q x H5 (s5.trans s7) ⟨(JI dy l pm pb ⟨hx5,s7 _ _ au,s7 _ _ (s5 _ _ hpm),s7 _ _ (s5 _ _ hpb)⟩),B'⟩
noncomputable def nu (l:List Nat)(k c:Nat):List Nat:=(cG (l.take k)).map PyProof.Rows.lo1++c::(cR (l.drop (k+1))).map PyProof.Rows.lo1
def acZ {r w:Nat}{ak:AA}(cr:∀l∈ak,∀c∈l,Di c){i j:Nat}{way:Int}(hb:Blk r w ak)(hj:j<w):∀c∈lineOf ak i j way,Di c:=λc hc=>by
 unfold lineOf at hc;split at hc
 .rw[ai]at hc;cases e:ak[i]? with| none=>rw[e]at hc;simp at hc| some l=>rw[e]at hc;show cr l (aS e) c hc
 .let⟨l,hl,rfl⟩:=aw.mp hc;let hjl:j<l.length:=by rw[hb.ju l hl];show hj
  rw[ai,ae hjl];show cr l hl _ (aI _)
def Vd (h:Di c):c<128:=by
 rcases h with e|e;.rw[e];decide
 .show e.lt
def abw (b:Bool)(c:Nat):Nat:=if b=true then 46 else c
def Sv (b)(c):jC [V.str (S [c]),V.str (S [46])] (if b=true then 1 else 0)=some (.str (S [abw b c])):=by
 cases b;.show aO (j:=0) rfl
 .show aO (j:=1) rfl
def Sw (h:uE c):Di (abw b c):=by
 cases b;.show .inr h
 .show .inl rfl
def Ou (K:W.Frag)(C:Addr):Sp:=λvs H Q _=>∃(p a:Addr) (ls:List Nat) (ns:List Int) (st:Nat) (x:Int),vs=[.ref p,.ref a,.int st,.int x]/\H p=some (.lst (Ts (ones ls)))/\U3 ls/\aP K H a (ns.map V.int)/\st<=900/\
 ∀(b:Addr) (r w:Nat) (ak aK:AA) (bi bj:Nat) (H':Hp),aA H H'->dG C H' b r w ak aK bi bj->Q (.ref b) H'
def XM:List Nat:=[46,46,46,46,46,46,46,50,51,52,98,99,100]
def Ov (D:aJ K mg "_law_board" Ci ["_law_letters_here","_law_script","_law_start","_law_x"])(bG:mg "len"=none)(dD:mg "range"=none)(bH:mg "tuple"=none)(jw:mg "int"=none)(uG:mg "Board"=some (.ref C))(xr:Mk K C f0)(xu:cJ P w K mg base fG 5 f0 pL ["self","rows","marks","begin"] (Cm C))(xG:cu K pL ["self","rows","marks","begin"] [])(aft:bx P w K mg base "_law_size" 1 ["_law_x"] Xy)(lU:bx P w K mg base "_law_digits" 3 ["_law_script","_law_k","_law_base","_law_many"] (GD K)):bx P w K mg base "_law_board" 8 ["_law_letters_here","_law_script","_law_start","_law_x"] (Ou K C):=by
 calc D.cX iB ?_;walk_at"b";let⟨p,a,ls,ns,st,x,rfl,hp,hA,hS,hst,q⟩:=h;let hlo:(Ts (ones ls)).length=ls.length:=by rw[ab,ab]
 let hl1:=hA.lo;calc⟨_,(aD (Wm (aY aft hr.mono RA (aj cj aq)) (o_ RA (cU (bY (i:=4) iB.nd RA (Or.inl RA)) (cU (bY (i:=5) iB.nd RA (Or.inl RA)) mG)))) (aD (aZ (i:=6) iB.nd RA (Or.inl RA) (fH aq)) (aD (aZ (i:=7) iB.nd RA (Or.inl RA) (fH aq)) (aD (d7 cq RA (lN xa dD (aj cD aq)) (bY (i:=8) iB.nd RA (Or.inl RA)) (aD (aZ (i:=9) iB.nd RA (Or.inl RA) (cF [] xc)) (aD (d7 cq RA (fD (aY lU hr.mono RA (aj aR (aj (aX dj bJ iI) (aj aB (aj d8 aq)))))) (bY (i:=10) iB.nd RA (Or.inl RA)) (aD (aZ (i:=11) iB.nd RA (Or.inl RA) (bB gF aH (aX cZ (aX gD (qv 10) aB) (aQ cL xa bG b7 (aj aH aq))) (λ_ _=>rfl))) (aD (z_ (cC (cg jF (aX cZ (aX gD (qv 10) aB) aB) aB (bR _)) (aF (aZ (i:=11) iB.nd RA (Or.inl RA) (zV bS PySem.F.slot_str_upper PySem.F.type_str_upper aeH (qv 11)))) bQ)) (aF (aZ (i:=9) iB.nd RA (Or.inl RA) (aX tU jW (bB gF (fH (aj (qv 11) (aj (cF [46] xc) aq))) (cW zM xa jw kX (aj (Ua (fB TF (aX cZ (qv 10) aB) aB (bR _)) (kI (fB jF (aX cZ (aX gD cj aB) aB) aB (bR _)))) aq)) (λ_ _=>rfl)))))))) (aD (eE (eX di gg gh jQ f9 (aj jW aq))) (aF (eE (eX di gg gh jQ jV (aj (eX bS eR eW oM (cF [] xc) (aj (gw RA (fP.of iB.nd xb) (fD (aY lU hr.mono RA (aj aR (aj (aX dj (aX dj bJ aB) iI) (aj aB (aj d8 aq)))))) (λ_ _ _ _ _=>cH) (λ_ _ _ _ _=>(bB Mx (cF [46,46,46,46,46,46,46,50,51,52,98,99,100] xc) aH (λ_ _=>rfl)))) aq)) aq)))))))) (aF (aW (BL xr xu hr.mono RA uG xG .nil fZ (aj (cW dU xa bH ci (aj f9 aq)) (aj (cW dU xa bH ci (aj jV aq)) (aj (dg (aj (aX cZ (aX gD cj aB) cD) (aj (aX cZ (aX gD cj aB) d8) aq))) aq)))))))))),?_⟩;calc⟨x,RA,λsp r w H1 s1 hsp ahi r1 r9 w1 w9=>?_⟩;calc⟨sp,_,RA,aN.of ahi,RA,_,_,RA,_,_,RA,RA,?_⟩;calc⟨zsz 0,λR hR=>⟨zsz 0,λM hM=>?_⟩⟩;let hR0:=s1.free hR;let sR:aA H (upd H1 R (HO.lst [])):=s1.bI hR0;let hM0:=sR.free hM;let nRM:R≠M:=λz=>by rw[<-z,au]at hM;cases hM
 let sM:aA H (upd (upd H1 R (HO.lst [])) M (HO.lst [])):=sR.bI hM0;calc⟨_,RA,mM _,wT,?_⟩;rw[de];refine lM (lo:=0) (n:=r) (λi σ H2=>∃(v8 v9 v10 v11:Option V) (ak aK:AA),σ=[some (.ref p),some (.ref a),some (.int st),some (.int x),some (.int r),some (.int w),some (.ref R),some (.ref M),v8,v9,v10,v11]/\
  aA H H2/\H2 R=some (.lst (Ts ak))/\H2 M=some (.lst (Ts aK))/\ak.length=i/\aK.length=i/\(∀l∈ak,l.length=w/\∀c∈l,Di c)/\∀l∈aK,l.length=w/\∀c∈l,Xu c)
  (JO none none none none [] [] ⟨RA,sM,by rw[bw nRM,au];rfl,au,RA,RA,λl h=>by simp at h,λl h=>by simp at h⟩) ?_ ?_
 .intro i σ H2 hi z;let⟨v8,v9,v10,v11,ak,aK,rfl,sm,hR2,zA,lr,lm,okr,okm⟩:=z;let e0:(st:Int)+(0+(i:Int))=((st+i:Nat):Int):=wT;calc⟨_,_,RA,RA,a,ns,st+i,624,w,by show [V.ref a,V.int ((st:Int)+(0+(i:Int))),V.int 624,V.int (w:Int)]=_;rw[e0],sm.seq hS,wT,w_,w_,wT,λpd ds H3 s3 ahM hpd hl hd=>?_⟩;let vK:=sm.trans s3;refine⟨pd,RA,⟨_,aP.of hpd⟩,lK (K:=K) (a:=pd) (xs:=ds.map V.int) (λj σ H4=>∃(v10 v11:Option V) (cs:List Nat),σ=[some (.ref p),some (.ref a),some (.int st),some (.int x),some (.int r),some (.int w),some (.ref R),some (.ref M),some (.int (0+(i:Int))),some (.str (S cs)),v10,v11]/\
   aA H3 H4/\cs.length=j/\∀c∈cs,Di c) (JE v10 v11 [] ⟨RA,aA.refl _,RA,λc h=>by simp at h⟩) (λj σ H4 _ h=>by let⟨_,_,_,_,Ot,_⟩:=h;show aP.of (Ot _ _ hpd)) ?_ ?_⟩
  .intro j y σ H4 hj z;let⟨v10,v11,cs,rfl,s4,lc,okc⟩:=z;let hjl:j<(ds.map V.int).length:=(al.mp hj).1;rw[ab]at hjl;obtain⟨d,hd1,e⟩:∃d,ds[j]?=some d/\V.int d=y:=by
    rw[a_]at hj;let⟨d,h1,h2⟩:=eK.mp hj;show⟨d,h1,h2⟩
   subst e;let XQ:=s4 _ _ (vK _ _ hp);let⟨v,hv,Xi⟩:=Rm (xs:=Ts (ones ls)) (n:=ls.length) hlo (aT hl1) (d/24);let⟨l1,aau,rfl⟩:=aw.mp Xi;let⟨c,hcm,rfl⟩:=aw.mp aau;let hc:=hA.az c hcm;calc⟨_,_,RA,RA,⟨w_,w_⟩,p,_,RA,.inl (aP.of XQ),_,_,RA,RA,by rw[hlo];show (0:Int)<(ls.length:Int);lia,p,_,_,.str (S [c]),RA,RA,aP.of XQ,by rw[hlo];show hv,?_⟩;refine⟨λσ' H'=>H'=H4/\∃z:Nat,uE z/\σ'=[some (.ref p),some (.ref a),some (.int st),some (.int x),some (.int r),some (.int w),some (.ref R),some (.ref M),some (.int (0+(i:Int))),some (.str (S cs)),some (.int d),some (.str (S [z]))],?_,?_⟩
   .calc⟨_,_,RA,RA,⟨w_,w_⟩,_,_,RA,RA,(by show (0:Int)<8;decide),RA,xV (λ_=>?_) (λ_=>⟨RA,c,Xq hc,RA⟩)⟩;calc⟨RA,[c],RA,RA,by show 1<=1000;decide,λe he=>by rw[ap.mp he];have:=hc.2;lia,?_⟩;let eu:[c].map PyProof.Rows.up1=[c-32]:=by
     rw[n5];unfold PyProof.Rows.up1;rw[if_pos (show 97<=c/\c<=122 from hc)]
    rw[eu];show⟨RA,_,Xr hc,RA⟩
   .intro σ' H' z;let⟨rfl,z,hz,rfl⟩:=z;calc⟨zsz 2,λt ht=>?_⟩;let s5:=s4.bI (o:=HO.lst [V.str (S [z]),V.str (S [46])]) (s4.free ht);calc⟨_,_,RA,RA,(by show (0:Int)<3;decide),_,_,RA,RA,aU _ RA ?_⟩;refine xV (λ_=>?_) (λ_=>?_)
    .calc .inr ⟨_,RA,t,_,_,_,RA,RA,aP.of au,Sv _ _,cs,_,RA,RA,by rw[lc];show aT (aL (by simp;lia)),?_⟩;calc JE _ _ _ ⟨RA,s5,by simp[lc],λe he=>?_⟩;rcases bd.mp he with k|k;.show okc e k
     .rw[ap.mp k];show Sw hz
    .calc⟨_,_,RA,RA,⟨w_,w_⟩,_,_,RA,RA,(by show (0:Int)<6;decide),RA,?_⟩;calc .inr ⟨_,RA,t,_,_,_,RA,RA,aP.of au,Sv _ _,cs,_,RA,RA,by rw[lc];show aT (aL (by simp;lia)),?_⟩;calc JE _ _ _ ⟨RA,s5,by simp[lc],λe he=>?_⟩;rcases bd.mp he with k|k;.show okc e k
     .rw[ap.mp k];show Sw hz
  .intro σ H4 z;let⟨v10,v11,cs,rfl,s4,lc,okc⟩:=z;rw[ab,hl]at lc;let hR4:=s4 _ _ (s3 _ _ hR2);let XR:=s4 _ _ (s3 _ _ zA);let Ko:=vK.trans s4;calc⟨.inl ⟨RA,_,aP.of hR4⟩,R,_,_,RA,RA,hR4,by rw[ab];show aL wT,?_⟩;let s5:aA H (upd H4 R (HO.lst (Ts ak++[V.str (S cs)]))):=Ko.bI hR0;let hM5:upd H4 R (HO.lst (Ts ak++[V.str (S cs)])) M=some (.lst (Ts aK)):=by rw[bw nRM.symm];show XR
   let hR5:upd H4 R (HO.lst (Ts ak++[V.str (S cs)])) R=some (.lst (Ts (ak++[cs]))):=by rw[au,kZ]
   generalize upd H4 R (HO.lst (Ts ak++[V.str (S cs)]))=H5 at s5 hM5 hR5 ⊢;let e9:(st:Int)+9+(0+(i:Int))=((st+9+i:Nat):Int):=w8;calc⟨.inl ⟨RA,_,aP.of hM5⟩,RA,_,_,RA,RA,_,_,RA,RA,a,ns,st+9+i,13,w,by show [V.ref a,V.int ((st:Int)+9+(0+(i:Int))),V.int 13,V.int (w:Int)]=_;rw[e9],s5.seq hS,wT,w_,w_,wT,λpe es H6 s6 ahN hpe hle hde=>?_⟩;refine⟨pe,RA,⟨_,aP.of hpe⟩,λL hL=>qY (K:=K) (a:=pe) (xs:=es.map V.int) (λj ys H7=>∃ms:List Nat,ys=Ts (ones ms)/\ms.length=j/\(∀c∈ms,Xu c)/\H7 L=some (.lst ys)/\aA H6 H7)
    ⟨[],RA,RA,λc h=>by simp at h,au,aA.upd hL⟩ (λj ys H7 _ h=>by let⟨_,_,_,_,_,sm7⟩:=h;show aP.of (sm7 _ _ hpe)) ?_ ?_⟩
   .intro j y ys H7 hj z;let⟨ms,rfl,XS,aav,X3,s7⟩:=z;let hjl:j<(es.map V.int).length:=(al.mp hj).1;obtain⟨d,hd1,e⟩:∃d,es[j]?=some d/\V.int d=y:=by
     rw[a_]at hj;let⟨d,h1,h2⟩:=eK.mp hj;show⟨d,h1,h2⟩
    subst e;let⟨d0,d1⟩:=hde d (aS hd1);obtain⟨n,rfl⟩:∃n:Nat,d=n:=⟨d.toNat,wT⟩
    let hn:n<XM.length:=by show n<13;show Iff.mp gx d1
    refine JE XM _ (XM[n]) ⟨RA,RA,w_,aO (ae hn),X3,?_,?_⟩
    .rw[ab,ab,XS];rw[ab]at hjl;show aL wT
    .calc dM.mk hjl ⟨ms++[XM[n]],by rw[kZ,rB],by simp[XS],λc hc=>?_,au,s7.bI hL⟩;rcases bd.mp hc with k|k;.show aav c k
     .rw[ap.mp k];have:∀x∈XM,x∈MK:=by decide
      show this _ (aI _)
   .intro ys H7 z;let⟨ms,rfl,XS,aav,X3,s7⟩:=z;rw[ab,hle]at XS;calc⟨L,ones ms,RA,RA,aP.of X3,by rw[j_];lia,?_⟩;rw[j_];let zF:=s7 _ _ (s6 _ _ hM5);calc JE M _ _ ⟨RA,RA,zF,by rw[ab];show aL wT,?_⟩;refine JO _ _ _ _ (ak++[cs]) (aK++[ms]) ⟨RA,((s5.trans s6).trans s7).bI hM0,by rw[bw nRM];show s7 _ _ (s6 _ _ hR5),by rw[au,kZ],by simp[lr],by simp[lm],λl hl'=>?_,λl hl'=>?_⟩
    .rcases bd.mp hl' with k|k;.show okr l k
     .rw[ap.mp k];show⟨lc,okc⟩
    .rcases bd.mp hl' with k|k;.show okm l k
     .rw[ap.mp k];show⟨XS,aav⟩
 .intro σ H2 z;let⟨v8,v9,v10,v11,ak,aK,rfl,sm,hR2,zA,lr,lm,okr,okm⟩:=z;calc⟨R,_,RA,.inl ⟨aP.of hR2,λT1 hT1=>?_⟩⟩;let k1:aA H2 (upd H2 T1 (HO.tup (Ts ak))):=aA.upd hT1;calc⟨M,_,RA,.inl ⟨aP.of (k1 _ _ zA),λT2 hT2=>?_⟩⟩;let k2:aA H2 (upd (upd H2 T1 (HO.tup (Ts ak))) T2 (HO.tup (Ts aK))):=k1.bI (k1.free hT2);let hT1':upd (upd H2 T1 (HO.tup (Ts ak))) T2 (HO.tup (Ts aK)) T1=some (.tup (Ts ak)):=by
   rw[bw (λz=>by rw[<-z,au]at hT2;cases hT2),au]
  let hT2':upd (upd H2 T1 (HO.tup (Ts ak))) T2 (HO.tup (Ts aK)) T2=some (.tup (Ts aK)):=au;generalize upd (upd H2 T1 (HO.tup (Ts ak))) T2 (HO.tup (Ts aK))=H3 at k2 hT1' hT2' ⊢;calc⟨_,_,RA,RA,⟨w_,w_⟩,_,_,RA,RA,(by show (0:Int)<(r:Int);show oB gx r1),_,_,RA,RA,⟨w_,w_⟩,_,_,RA,RA,(by show (0:Int)<(w:Int);lia),zsz 2,λpb hpb=>?_⟩;let i0:=e6 (x/6000) (show (r:Int)≠0 by lia);let i1:=du (x/6000) (show (0:Int)<(r:Int) by lia);let j0:=e6 (x/54000) (show (w:Int)≠0 by lia);let j1:=du (x/54000) (show (0:Int)<(w:Int) by lia);obtain⟨bi,ebi⟩:∃bi:Nat,x/6000%(r:Int)=bi:=⟨(x/6000%(r:Int)).toNat,wT⟩
  obtain⟨bj,ebj⟩:∃bj:Nat,x/54000%(w:Int)=bj:=⟨(x/54000%(w:Int)).toNat,wT⟩
  let k4:aA H3 (upd H3 pb (HO.tup [V.int (x/6000%(r:Int)),V.int (x/54000%(w:Int))])):=aA.upd hpb;let aaw:upd H3 pb (HO.tup [V.int (x/6000%(r:Int)),V.int (x/54000%(w:Int))]) pb=some (.tup [.int bi,.int bj]):=by rw[au,ebi,ebj]
  let aax:=k4 _ _ hT1';let aay:=k4 _ _ hT2';let k5:aA H _:=(sm.trans k2).trans k4;generalize upd H3 pb (HO.tup [V.int (x/6000%(r:Int)),V.int (x/54000%(w:Int))])=H4 at k5 aaw aax aay ⊢;let B:GF r w ak aK bi bj:=⟨r1,r9,w1,w9,⟨lr,λl h=>(okr l h).1⟩,⟨lm,λl h=>(okm l h).1⟩,λl h=>(okr l h).2,λl h=>(okm l h).2,by simp_all,by simp_all⟩
  intro b dx nx ndx nex;let s2:aA H4 (upd (upd H4 dx (HO.own b)) b (HO.ins C dx [])):=λc o e=>by rw[bw (bV e nx),bw (bV e ndx)];show e
  calc JS b dx T1 T2 pb r w ak ⟨aK,bi,bj,RA,au,s2 _ _ aax,s2 _ _ aay,s2 _ _ aaw,B,λH5 kp hx5=>⟨RA,?_⟩⟩;let s3:aA H4 H5:=λc o e=>kp c o (s2 c o e) (bV e nx);show q b r w ak aK bi bj H5 (k5.trans s3) ⟨(JI dx T1 T2 pb ⟨hx5,s3 _ _ aax,s3 _ _ aay,s3 _ _ aaw⟩),B⟩
def ac0 {r w:Nat}{R:AA}(hb:Blk r w R){i j z:Nat}(hi:i<r)(hj:j<w):fj (setAt R i j z) j=(fj R j).set i z:=by
 apply gE;intro m;let hil:i<R.length:=by rw[hb.len];show hi
 let hrow:(R.getD i []).length=w:=by rw[ai,ae hil];show hb.ju _ (aI _)
 unfold fj setAt;rw[a_,oz,oz,a_];by_cases hm:i=m
 .subst hm;rw[if_pos RA,if_pos RA,if_pos hil,if_pos (by rw[ab];show hil)];show some (((R.getD i []).set j z).getD j 0)=some z;rw[ai,oz,if_pos RA,if_pos wT];rfl
 .rw[if_neg hm,if_neg hm]
def aaz {r w:Nat}{R:AA}(hb:Blk r w R){i j z:Nat}(hi:i<r)(hj:j<w){way:Int}:lineOf (setAt R i j z) i j way=(lineOf R i j way).set (placeOf i j way) z:=by
 unfold lineOf placeOf;by_cases h:way=0
 .rw[if_pos h,if_pos h,if_pos h];let hil:i<R.length:=by rw[hb.len];show hi
  unfold setAt;rw[ai,oz,if_pos RA,if_pos hil];rfl
 .rw[if_neg h,if_neg h,if_neg h];show ac0 hb hi hj
def X4 {l:List Nat}(hk:k<l.length):cG ((l.set k 97).take k)=cG (l.take k)/\cR ((l.set k 97).drop k)=97::cR (l.drop (k+1)):=by
 constructor;.rw[List.take_set,qB (by rw[be];show qf _ _)]
 .let hl:k<(l.set k 97).length:=by rw[nL];show hk
  rw[i7 hl,List.getElem_set_self,List.drop_set_of_lt wT];rfl
def xH (ws:AA)(l:List Nat)(k:Nat):List Nat:=if (nu l k 97).length=1 then AL else AL.filter λc=>decide (nu l k c∈ws)
def afu (C CB:Addr):Sp:=λvs H Q _=>∃(pb pk d:Addr) (ws:AA) (r w:Nat) (ak aK:AA) (bi bj i j:Nat) (way:Int),vs=[.ref pb,.ref pk,.int i,.int j,.int way]/\dG C H pb r w ak aK bi bj/\kO CB H pk d ws/\i<r/\j<w/\(way=0\/way=1)/\
 ∀H',aA H H'->Q (.str (S (xH ws (lineOf ak i j way) (placeOf i j way)))) H'
def ac1 (hw:way=0\/way=1)(hk:placeOf i j way=k):jC (Ef i j way l) 2=some (.str (S (cG (l.take k)++cR (l.drop k))))/\(way=0->jC (Ef i j way l) 1=some (.int ((k:Int)-(cG (l.take k)).length)))/\(way=1->jC (Ef i j way l) 0=some (.int ((k:Int)-(cG (l.take k)).length))):=by
 subst hk;rcases hw with rfl|rfl;.show⟨aO (j:=2) RA,λ_=>aO (j:=1) RA,λz=>by lia⟩
 .show⟨aO (j:=2) RA,λz=>by lia,λ_=>aO (j:=0) RA⟩
def X5 (h:c∈cR l):c∈l:=(oI _).subset h
def X6 (h:c∈cG l):c∈l:=by unfold cG at h;rw[wc]at h;show wc.mp ((oI _).subset h)
def Eh (D:aJ K mg "cross_letters" lH ["board","book","row","column","way"])(bG:mg "len"=none)(oV:∃t,mg "LETTERS"=some (.str (S AL) t))(bF:dF K C)(uH:oR K CB)(lZ:Meth K C "laid" f1)(mj:cJ P w K mg base fG 8 f1 jg ["self","laying"] (GK C))(mq:cu K jg ["self","laying"] [])(vZ:Meth K C "run" f2)(wg:cJ P w K mg base fG 2 f2 fd2 ["self","row","column","way"] (Vb C))(wj:cu K fd2 ["self","row","column","way"] [])(yL:Meth K CB "has" f3)(yM:cJ P w K mg base fG 1 f3 Dk ["self","text"] (Ly CB))(yN:cu K Dk ["self","text"] []):bx P w K mg base "cross_letters" 10 ["board","book","row","column","way"] (afu C CB):=by
 calc D.cX je ?_;walk_at"b";let⟨pb,pk,d,ws,r,w,ak,aK,bi,bj,i,j,way,rfl,B,BK,hi,hj,Ah,q⟩:=h;let⟨dx,_,_,_,ex,_⟩:=id B.ex;let r9:=B.ok.r9;let w9:=B.ok.w9;let hll:=tH B.ok.br hi (j:=j) (way:=way);let hk:placeOf i j way<(lineOf ak i j way).length:=by rw[hll];unfold placeOf;split <;> assumption
 let hl9:(lineOf ak i j way).length<=9:=by rw[hll];split <;> assumption
 let hro:=acZ B.ok.cr (i:=i) (way:=way) B.ok.br hj;let hz:∀n,n<=100->n<=sizeLine:=λn h=>aT (aL wT);calc⟨_,(aD (aZ (i:=5) je.nd RA (Or.inl RA) (iV (iV aH bF.cl lZ mj hr.mono mq .nil fZ (aj (dg (aj (dg (aj bJ (aj cj (aj (cF [97] xc) aq)))) aq)) aq)) bF.cl vZ wg hr.mono wj .nil fZ (aj bJ (aj cj (aj cD aq))))) (aD (cC (cg jF (aQ eN xa bG b7 (aj (bB bU d8 aB (λ_ _=>rfl)) aq)) aB (bR _)) (aF (aW (jX xa oV))) bQ) (aD (z_ (aZ (i:=6) je.nd RA (Or.inl RA) (oA (cg jF cD aB (bR _)) (aX o8 cj (bB bU d8 aB (λ_ _=>rfl))) (aX o8 bJ (bB bU d8 aB (λ_ _=>rfl)))))) (aD (aZ (i:=7) je.nd RA (Or.inr RA) (zV bS on oo Fz (iZ Mz (bB bU d8 aB (λ_ _=>rfl)) oN (g_ f9)))) (aD (aZ (i:=8) je.nd RA (Or.inr RA) (zV bS on oo Fz (iZ Mz (bB bU d8 aB (λ_ _=>rfl)) (g_ (aX dj f9 aB)) oN))) (aF (aW (eX bS eR eW oM (cF [] xc) (aj (fM (ns:=["letter"]) RA (fL.of ["board","book","row","column","way","run","place","ahead","behind"] [] xb) (wL (jX xa oV)) (λ_ _ _ _ _=>(tR (show (["letter","board","book","row","column","way","run","place","ahead","behind"]:List Str).Nodup by decide +kernel) RA xa)) (λ_ _ _ _ _=>(BP (cO (iV bJ uH.cl yL yM hr.mono yN .nil fZ (aj (aX tU (aX tU iI aH) jW) aq))))) (λ_ _ _ _ _=>aH)) aq))))))))),?_⟩;calc JE pb dx _ ⟨RA,ex,RA,zsz 3,λt1 ht1=>⟨zsz 1,λt2 Dl=>?_⟩⟩;let s1:aA H (upd H t1 (HO.tup [V.int i,V.int j,V.str (S [97])])):=aA.upd ht1;let s2:=s1.bI (o:=HO.tup [V.ref t1]) (s1.free Dl);let n12:t1≠t2:=λz=>by rw[<-z,au]at Dl;cases Dl
 let h1:upd (upd H t1 (HO.tup [V.int i,V.int j,V.str (S [97])])) t2 (HO.tup [V.ref t1]) t1=some (.tup [.int i,.int j,.str (S [97])]):=by rw[bw n12,au]
 let h2:upd (upd H t1 (HO.tup [V.int i,V.int j,V.str (S [97])])) t2 (HO.tup [V.ref t1]) t2=some (.tup [.ref t1]):=au;generalize upd (upd H t1 (HO.tup [V.int i,V.int j,V.str (S [97])])) t2 (HO.tup [V.ref t1])=H2 at s2 h1 h2 ⊢;calc JS pb t2 [t1] [(i,j,97)] r w ak aK ⟨bi,bj,RA,B.mv s2,h2,dw.nil.snoc (t:=(i,j,97)) h1,λt ht=>by rw[ap.mp ht];show⟨hi,hj,by show GC [97]=true;decide⟩,λx1 H3 s3 B3=>?_⟩;let el:bO ak [(i,j,97)]=setAt ak i j 97:=rfl;rw[el]at B3;let⟨Ow,_,_,_,X7,_⟩:=id B3.ex;calc JE x1 Ow _ ⟨RA,X7,RA,x1,r,w,setAt ak i j 97,aK,bi,bj,i,j,way,RA,B3,hi,hj,Ah,λt H4 s4 ht Gq=>?_⟩;let Ko:=(s2.trans s3).trans s4;rw[aaz B.ok.br hi hj]at Gq;generalize lineOf ak i j way=l at hk hl9 hro q Gq;generalize hK:placeOf i j way=k at hk q Gq;let⟨pa,pc⟩:=X4 hk;let⟨va,vb,vc⟩:=ac1 (l:=l.set k 97) Ah hK;rw[pa,pc]at va;rw[pa]at vb vc;let t1l:=oU (l.take k);rw[be]at t1l;let t2l:=vJ (l.drop (k+1));rw[cy]at t2l;let hta:∀c∈cG (l.take k),c<128:=λc hc=>Vd (hro c (fT (X6 hc)));let hha:∀c∈cR (l.drop (k+1)),c<128:=λc hc=>Vd (hro c (jn (X5 hc)));let hcl:∀c,(nu l k c).length=(cG (l.take k)).length+1+(cR (l.drop (k+1))).length:=λc=>by unfold nu;rw[av,ab,bt,ab];lia
 let ecr:∀c,nu l k c=(cG (l.take k)).map PyProof.Rows.lo1++[c]++(cR (l.drop (k+1))).map PyProof.Rows.lo1:=λc=>by unfold nu;rw[bv];rfl
 generalize hX:cG (l.take k)=X at va vb vc t1l hta hcl ecr;generalize hY:cR (l.drop (k+1))=Y at va t2l hha hcl ecr;generalize Ef i j way (l.set k 97)=rv at va vb vc Gq;let X8:=aN.of (K:=K) Gq;calc JI t _ _ _ ⟨RA,RA,X8,va,_,RA,hz _ (by rw[av,bt];lia),RA,aU _ RA ?_⟩;by_cases h1:X.length+1+Y.length=1
 .let e:decide (V.int ((X++97::Y).length:Nat)=V.int 1)=true:=ar (by rw[av,bt,show X.length+(Y.length+1)=1 by lia];rfl);rw[e];calc cQ ?_;have:=q H4 Ko;unfold xH at this;rw[if_pos (by rw[hcl];show h1)]at this;show this
 .let e:decide (V.int ((X++97::Y).length:Nat)=V.int 1)=false:=am (λz=>by
   injection z with z;rw[av,bt]at z;lia)
  rw[e];calc bZ ?_;let hq:=q H4;refine⟨λσ H'=>H'=H4/\σ=[some (.ref pb),some (.ref pk),some (.int i),some (.int j),some (.int way),some (.ref t),some (.int (X.length:Nat)),none,none],?_,?_⟩
  .rcases Ah with rfl|rfl
   .calc⟨RA,cQ (JI t _ _ _ ⟨RA,RA,X8,vb RA,_,_,RA,RA,RA,?_⟩)⟩;have:(j:Int)-((k:Int)-(X.length:Int))=(X.length:Int):=by rw[<-hK];show (j:Int)-((j:Int)-_)=_;lia
    show congrArg (λv:Int=>([some (V.ref pb),some (V.ref pk),some (V.int i),some (V.int j),some (V.int 0),some (V.ref t),some (V.int v),none,none]:St)) this
   .calc⟨RA,bZ (JI t _ _ _ ⟨RA,RA,X8,vc RA,_,_,RA,RA,RA,?_⟩)⟩;have:(i:Int)-((k:Int)-(X.length:Int))=(X.length:Int):=by rw[<-hK];show (i:Int)-((i:Int)-_)=_;lia
    show congrArg (λv:Int=>([some (V.ref pb),some (V.ref pk),some (V.int i),some (V.int j),some (V.int 1),some (V.ref t),some (V.int v),none,none]:St)) this
  rintro σ H' ⟨rfl,rfl⟩;calc JI t _ _ _ ⟨RA,RA,X8,va,_,RA,_,RA,hz _ (by rw[av,bt];lia),RA,?_⟩;rw[M7,List.take_left' rfl];calc⟨X,RA,RA,wT,hta,?_⟩;let e1:(X.length:Int)+1=((X.length+1:Nat):Int):=rfl;calc JI t _ _ _ ⟨RA,RA,X8,va,_,_,RA,RA,_,RA,_,RA,hz _ (by rw[av,bt];lia),RA,?_⟩;rw[e1,yc,show (X++97::Y).drop (X.length+1)=Y by rw[List.drop_append,ii,r0 wT];rfl];calc⟨Y,RA,RA,wT,hha,?_⟩;let BK4:=BK.same Ko;refine⟨RA,AL,RA,λL hL=>Ud (f:=eY [] 0) (tt:=tB (Fj CB "has" (Ly CB) [] E0 (eF 2) (iH (qW Bx (qW Bx (eF 8) (eF 0)) (eF 9)) n_))) (te:=eF 0) (λn ys H5=>ys=Ts (ones ((AL.take n).filter λc=>decide (nu l k c∈ws)))/\H5 L=some (.lst ys)/\aA H' H5) ⟨RA,au,aA.upd hL⟩ ?_ ?_⟩
  .intro n c ys H5 hn z;let⟨rfl,GQ,s5⟩:=z;let hnl:n<AL.length:=(al.mp hn).1;let ahO:n<26:=hnl;let BK5:=BK4.same s5;let⟨dk,ek⟩:=BK5.ob;calc JE pk dk _ ⟨RA,ek,RA,_,_,RA,RA,hz _ (by rw[ab];simp;lia),_,_,RA,RA,hz _ (by rw[av,ab,ab];simp;lia),pk,d,ws,_,RA,BK5,aU _ RA ?_⟩;rw[<-ecr];by_cases hc:nu l k c∈ws
   .rw[ar hc];refine cQ ⟨GQ,?_,dM.mk hnl ⟨?_,au,s5.bI hL⟩⟩
    .rw[ab,ab];show aL (a8 (i6 _ _) (by rw[be];lia))
    .rw[bP,hn,fi,kZ,rB];simp[hc]
   .rw[am hc];calc bZ (dM.mk hnl ⟨?_,GQ,s5⟩);rw[bP,hn,fi];simp[hc]
  .intro ys H5 z;let⟨rfl,GQ,s5⟩:=z;rw[cK]at GQ;refine⟨L,_,RA,RA,aP.of GQ,?_,?_⟩
   .rw[j_];show a8 (i6 _ _) w_
   .rw[j_];have:=q H5 (Ko.trans s5);unfold xH at this;rw[if_neg (by rw[hcl];show h1)]at this;show this
def poss (i j:Int):List (Int×Int):=[(i-1,j),(i+1,j),(i,j-1),(i,j+1)]
def Ax (ak:AA)(r w:Nat)(i j:Int):Bool:=(poss i j).any λp=>!decide ([atC ak r w p.1 p.2]=[46])
def aaA {t1 t2 t3 t4:Addr}{i j:Int}{H:Hp}(h1:H t1=some (.tup [.int (i-1),.int j]))(h2:H t2=some (.tup [.int (i+1),.int j]))(h3:H t3=some (.tup [.int i,.int (j-1)]))(h4:H t4=some (.tup [.int i,.int (j+1)])){n:Nat}{x:V}(h:([V.ref t1,V.ref t2,V.ref t3,V.ref t4]:List V)[n]?=some x):∃(t:Addr) (p:Int×Int),x=.ref t/\H t=some (.tup [.int p.1,.int p.2])/\(poss i j)[n]?=some p:=by
 match n,h with| 0,h=>show⟨t1,(i-1,j),(bb h).symm,h1,RA⟩| 1,h=>show⟨t2,(i+1,j),(bb h).symm,h2,RA⟩| 2,h=>show⟨t3,(i,j-1),(bb h).symm,h3,RA⟩| 3,h=>show⟨t4,(i,j+1),(bb h).symm,h4,RA⟩| n+4,h=>show absurd h w8
def GR (C:Addr):Sp:=λvs H Q _=>∃(b:Addr) (r w:Nat) (ak aK:AA) (bi bj:Nat) (i j:Int),vs=[.ref b,.int i,.int j]/\dG C H b r w ak aK bi bj/\∀H',aA H H'->Q (.bl (Ax ak r w i j)) H'
def Ve (D:aJ K mg "is_next_to_taken" jr ["board","row","column"])(pN:mg "any"=none)(cP:∃t,mg "FREE"=some (.str (S [46]) t))(bF:dF K C)(iJ:Meth K C "at" f1)(iK:cJ P w K mg base fG 3 f1 jg ["self","row","column"] (Oj C))(iM:cu K jg ["self","row","column"] []):bx P w K mg base "is_next_to_taken" 4 ["board","row","column"] (GR C):=by
 calc D.cX lg ?_;walk_at"b";let⟨b,r,w,ak,aK,bi,bj,i,j,rfl,B,q⟩:=h;calc⟨_,(aD (aZ (i:=3) lg.nd RA (Or.inl RA) (dg (aj (dg (aj (aX o8 aR aB) (aj bJ aq))) (aj (dg (aj (aX dj aR aB) (aj bJ aq))) (aj (dg (aj aR (aj (aX o8 bJ aB) aq))) (aj (dg (aj aR (aj (aX dj bJ aB) aq))) aq)))))) (aF (aW (aQ (DP RA) xa pN zX (aj (gw RA (fP.of lg.nd xb) (fJ cj) (λ_ _ _ _ _=>cH) (λ_ _ _ _ _=>(fB zU (iV aR bF.cl iJ iK hr.mono iM .nil fZ (aj (bB (kY K) aH aB (λ_ _=>rfl)) (aj (bB (kY K) aH aB (λ_ _=>rfl)) aq))) (jX xa cP) (bR _)))) aq))))),?_⟩;calc⟨_,_,RA,RA,zsz 2,λt1 h1=>⟨_,_,RA,RA,zsz 2,λt2 h2=>⟨_,_,RA,RA,zsz 2,λt3 h3=>⟨_,_,RA,RA,zsz 2,λt4 h4=>⟨zsz 4,λT hT=>?_⟩⟩⟩⟩⟩;let s1:aA H (upd H t1 (HO.tup [.int (i-1),.int j])):=aA.upd h1;let s2:=s1.bI (o:=HO.tup [.int (i+1),.int j]) (s1.free h2);let s3:=s2.bI (o:=HO.tup [.int i,.int (j-1)]) (s2.free h3);let s4:=s3.bI (o:=HO.tup [.int i,.int (j+1)]) (s3.free h4);let s5:=s4.bI (o:=HO.tup [.ref t1,.ref t2,.ref t3,.ref t4]) (s4.free hT);let k5:aA _ _:=aA.upd (o:=HO.tup [.ref t1,.ref t2,.ref t3,.ref t4]) hT;let k4:aA _ _:=aA.upd (o:=HO.tup [.int i,.int (j+1)]) h4;let k3:aA _ _:=aA.upd (o:=HO.tup [.int i,.int (j-1)]) h3;let k2:aA _ _:=aA.upd (o:=HO.tup [.int (i+1),.int j]) h2;let e1:=k5 _ _ (k4 _ _ (k3 _ _ (k2 _ _ (au (H:=H) (a:=t1) (o:=HO.tup [.int (i-1),.int j])))));let e2:=k5 _ _ (k4 _ _ (k3 _ _ (au (a:=t2) (o:=HO.tup [.int (i+1),.int j]))));let e3:=k5 _ _ (k4 _ _ (au (a:=t3) (o:=HO.tup [.int i,.int (j-1)])));let e4:=k5 _ _ (au (a:=t4) (o:=HO.tup [.int i,.int (j+1)]));let e5:upd (upd (upd (upd (upd H t1 (HO.tup [.int (i-1),.int j])) t2 (HO.tup [.int (i+1),.int j])) t3 (HO.tup [.int i,.int (j-1)])) t4 (HO.tup [.int i,.int (j+1)])) T (HO.tup [.ref t1,.ref t2,.ref t3,.ref t4]) T=some (.tup [.ref t1,.ref t2,.ref t3,.ref t4]):=au;generalize upd (upd (upd (upd (upd H t1 (HO.tup [.int (i-1),.int j])) t2 (HO.tup [.int (i+1),.int j])) t3 (HO.tup [.int i,.int (j-1)])) t4 (HO.tup [.int i,.int (j+1)])) T (HO.tup [.ref t1,.ref t2,.ref t3,.ref t4])=H5 at s5 e1 e2 e3 e4 e5 ⊢;refine⟨T,RA,⟨_,aN.of e5⟩,λL hL=>ug (xs:=[V.ref t1,V.ref t2,V.ref t3,V.ref t4]) (λn ys H6=>ys=(((poss i j).take n).map λp=>!decide ([atC ak r w p.1 p.2]=[46])).map V.bl/\H6 L=some (.lst ys)/\aA H5 H6) ⟨RA,au,aA.upd hL⟩ (λn ys H6 _ h=>aN.of (h.2.2 _ _ e5)) ?_ ?_⟩
 .intro n x ys H6 hx z;let⟨rfl,mz,zG⟩:=z;let⟨t,p,rfl,ht,hp⟩:=aaA e1 e2 e3 e4 hx;let hn:n<4:=(al.mp hx).1;let B6:=B.mv (s5.trans zG);let⟨dx,_,_,_,ex,_⟩:=id B6.ex;let hS:=aN.of (K:=K) (zG _ _ ht);calc JE b dx _ ⟨RA,ex,RA,t,_,_,_,RA,RA,hS,aO (j:=0) RA,t,_,_,_,RA,RA,hS,aO (j:=1) RA,b,r,w,ak,aK,bi,bj,p.1,p.2,RA,B6,_,_,RA,RA,mz,?_,dM.mk hn ⟨?_,au,zG.bI hL⟩⟩;.rw[ab,ab,be];show aL (by have:(poss i j).length=4:=rfl;lia)
  .rw[bP,hp];simp
 .intro ys H6 z;let⟨rfl,mz,zG⟩:=z;calc⟨L,_,RA,aP.of mz,?_⟩;let e:((((poss i j).take 4).map λp=>!decide ([atC ak r w p.1 p.2]=[46])).any id)=Ax ak r w i j:=by
   unfold Ax;rw[List.any_map];rfl
  show Q (.bl _) H6;rw[show ([V.ref t1,V.ref t2,V.ref t3,V.ref t4]:List V).length=4 from RA,e];show q H6 (s5.trans zG)
def cells (r w:Nat):List (Nat×Nat):=(List.range r).flatMap λi=>(List.range w).map λj=>(i,j)
def X_:(cells 9 9).length=81:=by decide +kernel
def Yb:∀r w:Fin 10,cells r.val w.val=(cells 9 9).filter λc=>decide (c.1<r.val)&&decide (c.2<w.val):=by decide +kernel
def Yc {r w:Nat}{c:Nat×Nat}:c∈cells r w↔c.1<r/\c.2<w:=by
 unfold cells;constructor
 .intro h;let⟨i,hi,h⟩:=ga.mp h;let⟨j,hj,rfl⟩:=aw.mp h;show⟨bE.mp hi,bE.mp hj⟩
 .rintro⟨h1,h2⟩;show ga.mpr ⟨c.1,bE.mpr h1,aw.mpr ⟨c.2,bE.mpr h2,RA⟩⟩
def Ei (H:Hp)(a:Addr)(p:Nat×Nat):Prop:=H a=some (.tup [.int p.1,.int p.2])
def pO (H:Hp)(a:Addr):Nat×Nat:=match H a with| some (.tup [.int x,.int y])=>(x.toNat,y.toNat)| _=>(0,0)
def Vf (h:Ei H a p):pO H a=p:=by unfold pO;rw[show H a=_ from h];rfl
structure dY (H:Hp)(as:List Addr)(ps:List (Nat×Nat)):Prop where
 at_:∀a∈as,Ei H a (pO H a)
 eq:as.map (pO H)=ps
def dY.iC (k:∀a xs,H a=some (.tup xs)->H' a=some (.tup xs))(h:dY H as ps):dY H' as ps:=by let e:∀a∈as,pO H' a=pO H a:=λa ha=>Vf (k a _ (h.at_ a ha));show⟨λa ha=>by rw[e a ha];show k a _ (h.at_ a ha),by rw[<-h.eq];show gd e⟩
def dY.mv (k:aA H H')(h:dY H as ps):dY H' as ps:=h.iC λa xs e=>k a _ e
def dY.app (h:dY H as ps)(g:dY H bs qs):dY H (as++bs) (ps++qs):=by
 calc⟨λb hb=>?_,by rw[bz,h.eq,g.eq]⟩;rcases bd.mp hb with z|z;.show h.at_ b z
 .show g.at_ b z
def dY.one (ha:Ei H a p):dY H [a] [p]:=⟨λb hb=>by rw[ap.mp hb,Vf ha];show ha,by rw[n5,Vf ha]⟩
def dY.nil:dY H [] []:=⟨λa h=>by simp at h,RA⟩
def dY.len (h:dY H as ps):as.length=ps.length:=by rw[<-h.eq,ab]
def dY.get (h:dY H as ps)(hi:i<as.length):∃p,ps[i]?=some p/\Ei H as[i] p:=⟨pO H as[i],by rw[<-h.eq];simp[hi],h.at_ _ (aI _)⟩
def vL (p:Nat×Nat):Dt:=.tup [.int p.1,.int p.2]
theorem Cp:∀{as:List Addr},(∀a∈as,Ei H a (pO H a))->dJ K H 1 ((as.map (pO H)).map vL) (as.map V.ref)
 | [],_=>.nil
 | a::as,h=>.cons (.tup (aN.of (h a aE)) (.cons (.int _) (.cons (.int _) .nil))) (Cp λx hx=>h x (ay _ hx))
def dY.has (h:dY H as ps)(hp:H p=some (.lst (as.map V.ref))):gH K H 2 (.lst (ps.map vL)) (.ref p):=by rw[<-h.eq];show .lst (aP.of hp) (Cp h.at_)
def frB (ak:AA)(r w:Nat)(c:Nat×Nat):Bool:=decide ([atC ak r w c.1 c.2]=[46])
def Dm (ak:AA)(r w:Nat)(c:Nat×Nat):Bool:=Ax ak r w c.1 c.2
def vM (ak:AA)(r w:Nat):List (Nat×Nat):=(cells r w).filter λc=>frB ak r w c&&Dm ak r w c
def cM (ak:AA)(r w bi bj:Nat):List (Nat×Nat):=if isFree ak=true then [(bi,bj)] else vM ak r w
def Vg (i w):cells (i+1) w=cells i w++(List.range w).map λj=>(i,j):=by unfold cells;rw[fk,pT];simp
def afv {ak:AA}{r w i j:Nat}(hb:Blk r w ak)(hi:i<r)(hj:j<w):∃(h1:i<ak.length) (h2:j<ak[i].length),atC ak r w (i:Int) (j:Int)=ak[i][j]:=by
 let h1:i<ak.length:=by rw[hb.len];show hi
 let h2:j<ak[i].length:=by rw[hb.ju _ (aI _)];show hj
 calc⟨h1,h2,?_⟩;unfold atC;rw[if_pos ⟨wT,oB gx hi,wT,wT⟩,de,de,ai (l:=ak),ae h1];show ak[i].getD j 0=_;rw[ai,ae h2];rfl
def IK (C:Addr):Sp:=λvs H Q _=>∃(b:Addr) (r w:Nat) (ak aK:AA) (bi bj:Nat),vs=[.ref b]/\dG C H b r w ak aK bi bj/\
 ∀(p:Addr) (as:List Addr) (H':Hp),aA H H'->H' p=some (.lst (as.map V.ref))->dY H' as ((cells r w).filter (frB ak r w))->Q (.ref p) H'
def K9 (D:aJ K mg "free_cells" pI ["board"])(gQ:mg "enumerate"=none)(cP:∃t,mg "FREE"=some (.str (S [46]) t))(bF:dF K C):bx P w K mg base "free_cells" 1 ["board"] (IK C):=by
 calc D.cX nQ ?_;walk_at"b";let⟨b,r,w,ak,aK,bi,bj,rfl,B,q⟩:=h;obtain⟨⟨dx,pr,pm,pb,hb,hr',hm,hbb⟩,O⟩:=B;let r9:=O.r9;let w9:=O.w9;let m_:(Ts ak).length=r:=by rw[ab,O.br.len]
 calc⟨_,(aD (aZ (i:=1) nQ.nd RA (Or.inl RA) (fH aq)) (aD (d7 cq RA (ZW xa gQ (aj (dh aH RA) aq)) (o_ RA (cU (bY (i:=2) nQ.nd RA (Or.inr RA)) (cU (bY (i:=3) nQ.nd RA (Or.inl RA)) mG))) (aF (eE (eX di ki km qX aR (aj (fM (ns:=["column","sign"]) RA (fL.of ["board","cells","row","signs"] [] xb) (ZV xa gQ (aj cj aq)) (λ_ _ _ _ _=>(HD K RA (show (["column","sign","board","cells","row","signs"]:List Str).Nodup by decide +kernel) RA RA xa xa)) (λ_ _ _ _ _=>(BP (cg wJ aR (jX xa cP) (bR _)))) (λ_ _ _ _ _=>(dg (aj cD (aj aH aq))))) aq))))) (aF (aW aR)))),?_⟩;calc⟨zsz 0,λF hF=>?_⟩;let s0:aA H (upd H F (HO.lst [])):=aA.upd hF;refine JJ b C dx _ _ ⟨RA,s0 _ _ hb,bF.cl,bF.nr,RA,pr,RA,⟨_,aN.of (s0 _ _ hr')⟩,Wt (K:=K) (a:=pr) (xs:=Ts ak) (λi σ H2=>∃(v2 v3:Option V) (as:List Addr),σ=[some (.ref b),some (.ref F),v2,v3]/\aA H H2/\H2 F=some (.lst (as.map V.ref))/\dY H2 as ((cells i w).filter (frB ak r w))/\as.length<=i*9)
  (JE none none [] ⟨RA,s0,au,dY.nil,cw _⟩) (λi σ H2 _ h=>by let⟨_,_,_,_,sm,_⟩:=h;show aN.of (sm _ _ hr')) ?_ ?_⟩
 .intro i x σ H2 T hx z hT;let⟨v2,v3,as,rfl,sm,iG,hP,hal⟩:=z;let⟨l,hl,rfl⟩:=rD hx;let hil:i<r:=by have:=(al.mp hx).1;simp_all
  let hir:i<ak.length:=by rw[O.br.len];show hil
  let hlr:l=ak[i]:=by rw[ae hir]at hl;show(bb hl).symm
  let R9:l.length=w:=O.br.ju _ (aS hl);let k1:aA H2 (upd H2 T (HO.tup [.int i,.str (S l)])):=aA.upd hT;calc⟨T,_,RA,aN.of au,RA,_,_,RA,_,_,RA,RA,?_⟩;let sI:=k1 _ _ iG;let vK:=sm.trans k1;let Kq:=hP.mv k1;generalize upd H2 T (HO.tup [.int i,.str (S l)])=H3 at k1 sI vK Kq ⊢;refine⟨.inl ⟨RA,_,aP.of sI⟩,l,RA,λL hL=>Wu (f:=eY [] 0) (KT:=K) (λj ys H4=>∃bs:List Addr,ys=bs.map V.ref/\bs.length<=j/\H4 L=some (.lst ys)/\aA H3 H4/\dY H4 bs (((List.range j).map λj=>(i,j)).filter (frB ak r w)))
   ⟨[],RA,ah _,au,aA.upd hL,dY.nil⟩ ?_ ?_⟩
  .intro j c ys H4 U hj z hU;let⟨bs,rfl,jD,mV,s4,Ox⟩:=z;let hjl:j<l.length:=(al.mp hj).1;let⟨_,_,hat⟩:=afv O.br hil (show j<w by simp_all);let hcj:atC ak r w (i:Int) (j:Int)=c:=by
    rw[hat];subst hlr;rw[ae hjl]at hj;show bb hj
   let k5:aA H4 (upd H4 U (HO.tup [.int j,.str (S [c])])):=aA.upd hU;calc JE U _ _ ⟨RA,aN.of au,?_⟩;let GQ:=k5 _ _ mV;let Sx:=Ox.mv k5;let s5:=s4.trans k5;generalize upd H4 U (HO.tup [.int j,.str (S [c])])=H5 at k5 GQ Sx s5 ⊢;calc⟨[c],[46],RA,RA,aU _ RA ?_⟩;by_cases hc:c=46
   .let hfr:frB ak r w (i,j)=true:=by
     unfold frB;rw[hcj];show ar (by rw[hc])
    rw[ar (show [c]=[46] by rw[hc])];calc cQ ⟨zsz 2,λg hg=>?_⟩;let k6:aA H5 (upd H5 g (HO.tup [.int (i:Int),.int (j:Int)])):=aA.upd hg;let mz:=k6 _ _ GQ;calc⟨mz,by rw[ab];show aL wT,dM.mk hjl ⟨bs++[g],w8,by simp;show jD,by rw[au],(s5.trans k6).bI hL,?_⟩⟩;rw[fk,bz,fi];have:([j].map λj=>(i,j)).filter (frB ak r w)=[(i,j)]:=by simp[hfr]
    rw[this];show((Sx.mv k6).app (dY.one (show Ei _ g (i,j) from au))).iC (fu mz)
   .let hfr:frB ak r w (i,j)=false:=by
     unfold frB;rw[hcj];show am λz=>hc (by injection z)
    rw[am (show ¬[c]=[46] from λz=>hc (by injection z))];calc bZ (dM.mk hjl ⟨bs,RA,ik jD,GQ,s5,?_⟩);rw[fk,bz,fi];have:([j].map λj=>(i,j)).filter (frB ak r w)=[]:=by simp[hfr]
    rw[this,fS];show Sx
  .intro ys H4 z;let⟨bs,rfl,jD,mV,s4,Ox⟩:=z;let qg:=s4 _ _ sI;let afw:=(Kq.mv s4).app Ox;rw[R9]at afw jD;calc JI F L _ _ ⟨RA,RA,qg,mV,by rw[ab,ab];show aT (aL wT),?_⟩;calc JE _ _ (as++bs) ⟨RA,(vK.trans s4).bI hF,by rw[au,bz],?_,by simp;lia⟩;rw[Vg,fi];show afw.iC (fu qg)
 .intro σ H2 z;let⟨v2,v3,as,rfl,sm,iG,hP,hal⟩:=z;rw[m_]at hP;show(q F as H2 sm iG hP)
def Cq (C:Addr):Sp:=λvs H Q _=>∃(b:Addr) (r w:Nat) (ak aK:AA) (bi bj:Nat),vs=[.ref b]/\dG C H b r w ak aK bi bj/\
 ∀(p:Addr) (as:List Addr) (H':Hp),aA H H'->H' p=some (.tup (as.map V.ref))->dY H' as (cM ak r w bi bj)->Q (.ref p) H'
def aaB (D:aJ K mg "hooks" Cd ["board"])(bH:mg "tuple"=none)(bF:dF K C)(pP:Meth K C "is_free" f1)(pQ:cJ P w K mg base fG 1 f1 jg ["self"] (Ol C))(pR:cu K jg ["self"] [])(uI:bx P w K mg base "free_cells" 1 ["board"] (IK C))(mC:bx P w K mg base "is_next_to_taken" 4 ["board","row","column"] (GR C)):bx P w K mg base "hooks" 5 ["board"] (Cq C):=by
 calc D.cX aam ?_;walk_at"b";let⟨b,r,w,ak,aK,bi,bj,rfl,B,q⟩:=h;let⟨dx,_,_,_,hb,_,_,_⟩:=id B.ex;let r9:=B.ok.r9;let w9:=B.ok.w9;calc⟨_,(aD (cC (cO (ud aH bF.cl pP pQ hr.mono pR .nil fZ)) (aF (aW (dg (aj (dh aH RA) aq)))) bQ) (aF (aW (cW dU xa bH ci (aj (fM (ns:=["cell"]) RA (fL.of ["board"] [] xb) (fD (aY uI hr.mono RA (aj aH aq))) (λ_ _ _ _ _=>(tR (show (["cell","board"]:List Str).Nodup by decide +kernel) RA xa)) (λ_ _ _ _ _=>(BP (cO (aY mC hr.mono RA (aj aR (aj (bB (kY K) aH aB (λ_ _=>rfl)) (aj (bB (kY K) aH aB (λ_ _=>rfl)) aq))))))) (λ_ _ _ _ _=>aH)) aq))))),?_⟩;calc JE b dx _ ⟨RA,hb,RA,b,r,w,ak,aK,bi,bj,RA,B,λH1 s1=>(aU _ RA ?_)⟩;let B1:=B.mv s1;by_cases hf:isFree ak=true
 .rw[hf];let⟨Ow,pr,pm,pb,hb1,_,_,hpb⟩:=id B1.ex;calc cQ (JJ b C Ow _ _ ⟨RA,hb1,bF.cl,bF.nb,RA,zsz 1,λt ht=>?_⟩);let k:aA H1 (upd H1 t (HO.tup [.ref pb])):=aA.upd ht;calc q t [pb] _ (s1.trans k) au ?_;let e:cM ak r w bi bj=[(bi,bj)]:=if_pos hf;rw[e];show dY.one (show Ei _ pb (bi,bj) from k _ _ hpb)
 .rw[show isFree ak=false by simpa using hf];calc bZ ?_;let e:cM ak r w bi bj=vM ak r w:=if_neg hf;rw[e]at q;calc JP b r w ak aK bi bj ⟨RA,B1,λp as H2 s2 hp hP=>?_⟩;let hal:as.length<=81:=by
   rw[hP.len];calc a8 (i6 _ _) ?_;have:=Yb ⟨r,rX r9⟩ ⟨w,wT⟩;rw[this];show a8 (i6 _ _) (by rw[X_];decide)
  refine⟨p,RA,⟨_,aP.of hp⟩,λL hL=>C_ (K:=K) (a:=p) (f:=eY [] 0) (tt:=tB (u_ (GR C) [] E0 (iH (eF 1) (iH (qW (T6 K) (eF 0) (tC (V.int 0))) (iH (qW (T6 K) (eF 0) (tC (V.int 1))) n_))))) (te:=eF 0) (xs:=as.map V.ref) (λn ys H3=>∃bs:List Addr,ys=bs.map V.ref/\bs.length<=n/\H3 L=some (.lst ys)/\aA H2 H3/\dY H3 bs ((((cells r w).filter (frB ak r w)).take n).filter (Dm ak r w)))
   ⟨[],RA,ah _,au,aA.upd hL,dY.nil⟩ (λn ys H3 _ h=>by let⟨_,_,_,_,sm,_⟩:=h;show aP.of (sm _ _ hp)) ?_ ?_⟩
  .intro n x ys H3 hx z;let⟨bs,rfl,jD,Aq,s3,Kq⟩:=z;let⟨hn,hx⟩:=rfg hx;subst hx;obtain⟨⟨u,v⟩,hc,hat⟩:=(hP.mv s3).get hn;let B3:=B1.mv (s2.trans s3);let hS:=aN.of (K:=K) hat;calc JI (as[n]) _ _ _ ⟨RA,RA,hS,aO (j:=0) RA,as[n],_,_,_,RA,RA,hS,aO (j:=1) RA,b,r,w,ak,aK,bi,bj,(u:Int),(v:Int),RA,B3,λH4 s4=>(aU _ RA ?_)⟩;let mV:=s4 _ _ Aq;by_cases hc2:Dm ak r w (u,v)=true
   .have:Ax ak r w (u:Int) (v:Int)=true:=hc2;rw[this];calc cQ ⟨mV,by rw[ab];show aL wT,dM.mk (by rw[ab];show hn) ⟨bs++[as[n]],w8,by simp;show jD,by rw[au],(s3.trans s4).bI hL,?_⟩⟩;rw[bP,hc,fi];let e2:((some (u,v)).toList).filter (Dm ak r w)=[(u,v)]:=by simp[hc2]
    rw[e2];show((Kq.mv s4).app (dY.one (s4 _ _ hat))).iC (fu mV)
   .have:Ax ak r w (u:Int) (v:Int)=false:=by simpa [Dm] using hc2
    rw[this];calc bZ (dM.mk (by rw[ab];show hn) ⟨bs,RA,ik jD,mV,s3.trans s4,?_⟩);rw[bP,hc,fi];let e2:((some (u,v)).toList).filter (Dm ak r w)=[]:=by simp[hc2]
    rw[e2,fS];show Kq.mv s4
  .intro ys H3 z;let⟨bs,rfl,jD,Aq,s3,Kq⟩:=z;rw[ab,hP.len,cK,List.filter_filter]at Kq;calc⟨L,_,RA,.inl ⟨aP.of Aq,λt ht=>?_⟩⟩;let k:aA H3 (upd H3 t (HO.tup (bs.map V.ref))):=aA.upd ht;calc q t bs _ (((s1.trans s2).trans s3).trans k) au ?_;let e3:(cells r w).filter (λa=>Dm ak r w a&&frB ak r w a)=vM ak r w:=by
    unfold vM;show List.filter_congr λc _=>Bool.and_comm _ _
   rw[<-e3];show Kq.mv k
def Yd:Sp:=λvs H Q _=>∃(p:Addr) (as:List Addr) (ts:List bK),vs=[.ref p]/\H p=some (.tup (as.map V.ref))/\dw H as ts/\(∀t∈ts,Dj t)/\(ts.map λt=>rk (sw t)).Nodup/\ts.length<=63/\
 ∀(p':Addr) (as':List Addr) (ts':List bK) (H':Hp),aA H H'->H' p'=some (.tup (as'.map V.ref))->dw H' as' ts'->ts'.Perm (ts.map sw)->(ts'.map rk).Pairwise (·<·)->Q (.ref p') H'
def Ej (D:aJ K mg "turned_laying" lG ["laying"])(bH:mg "tuple"=none)(dZ:mg "sorted"=none):bx P w K mg base "turned_laying" 1 ["laying"] Yd:=by
 calc D.cX D_ ?_;intro f bD A outer s H vs Q E hr h;let⟨p,as,ts,rfl,hp,hL,hok,hnd,h63,q⟩:=h;calc⟨_,(aF (aW (cW dU xa bH ci (aj (aQ KN xa dZ ib (aj (fM (ns:=["row","column","sign"]) RA (fL.of ["laying"] [] xb) (fJ aH) (λ_ _ _ _ _=>(mH K RA (show (["row","column","sign","laying"]:List Str).Nodup by decide +kernel) RA RA RA xa xa xa)) (λ_ _ _ _ _=>cH) (λ_ _ _ _ _=>(dg (aj aR (aj aH (aj bJ aq)))))) aq)) aq)))),?_⟩;let bW:=hL.len;refine⟨p,RA,⟨_,aN.of hp⟩,λM hM=>jY (f:=eY [] 0) (tt:=gG) (xs:=as.map V.ref) (λi ys H6=>∃bs:List Addr,ys=bs.map V.ref/\bs.length=i/\H6 M=some (.lst ys)/\aA H H6/\dw H6 bs ((ts.take i).map sw))
  ⟨[],RA,RA,au,aA.upd hM,dw.nil⟩ (λi ys H6 _ h=>by let⟨_,_,_,_,sm,_⟩:=h;show aN.of (sm _ _ hp)) ?_ ?_⟩
 .intro i x ys H6 hx z;let⟨bs,rfl,jD,xJ,sm,hB⟩:=z;let⟨hi,hx⟩:=rfg hx;let⟨t,et,hT⟩:=hL.get hi;calc sS hx.symm (aN.of (sm _ _ hT)) ?_;calc⟨zsz 3,λc hc=>?_⟩;let nM:M≠c:=λz=>by rw[<-z,xJ]at hc;cases hc
  let zF:upd H6 c (.tup [.int t.2.1,.int t.1,.str (S [t.2.2])]) M=some (.lst (bs.map V.ref)):=by rw[bw nM];show xJ
  calc⟨zF,by rw[ab,jD];show aL wT,dM.mk (by rw[ab];show hi) ⟨bs++[c],w8,by simp[jD],by rw[au],?_,?_⟩⟩;.show(sm.bI (sm.free hc)).bI hM
  .rw[show (ts.take (i+1)).map sw=(ts.take i).map sw++[sw t] by rw[List.take_succ,et];simp];calc dw.snoc ?_ ?_;.show(hB.mv (aA.upd hc)).iC (fu zF)
   .show fu zF _ _ au
 .intro ys H6 z;let⟨bs,rfl,jD,xJ,sm,hB⟩:=z;rw[ab]at jD;rw[cx (by rw[ab];lia)]at hB;let ecf:bs.map (λa=>rk (tO H6 a))=ts.map λt=>rk (sw t):=by
   have:(bs.map (tO H6)).map rk=(ts.map sw).map rk:=by rw[hB.eq]
   rw[eD,eD]at this;show this
  let ahj:∀a∈bs,Dj (tO H6 a):=λa ha=>by
   have:tO H6 a∈ts.map sw:=by rw[<-hB.eq];show cz ha
   let⟨t,ht,e⟩:=aw.mp this;rw[<-e];have:=hok t ht;show⟨this.2.1,this.1,this.2.2⟩
  refine JE M bs (λa=>rk (tO H6 a)) ⟨RA,aP.of xJ,wT,λa ha=>?_,by rw[ecf];show hnd,λp1 as' hp1 pm pw=>?_⟩
  .have:=ahj a ha;show JE ((tO H6 a).1) ((tO H6 a).2.1) [.str (S [(tO H6 a).2.2])] ⟨hB.at_ a ha,by have:=this.2.1;lia,RA,.inr ⟨_,RA⟩⟩
  .let⟨l1,l2⟩:=hB.perm pm;calc⟨p1,_,RA,.inl ⟨aP.of au,λl hl=>?_⟩⟩;let s1:aA H6 (upd H6 p1 (.lst (as'.map V.ref))):=aA.upd hp1;let s2:=s1.bI (o:=.tup (as'.map V.ref)) (s1.free hl);show q l as' _ _ (sm.trans s2) au (l1.mv s2) l2 (by rw[eD];show pw)
def cA (t:bK):Nat×Nat:=(t.1,t.2.1)
def xK (K:W.Frag):Sp:=λvs H Q _=>∃(p:Addr) (as:List Addr) (ts:List bK),vs=[.ref p]/\(aP K H p (as.map V.ref)\/aN K H p (as.map V.ref))/\dw H as ts/\ts.length<=63/\
 ∀(p':Addr) (bs:List Addr) (H':Hp),aA H H'->H p'=none->H' p'=some (.lst (bs.map V.ref))->dY H' bs (ts.map cA)->Q (.ref p') H'
def QD (D:aJ K mg "cells_of" tD ["laying"]):bx P w K mg base "cells_of" 1 ["laying"] (xK K):=by
 calc D.cX Qt ?_;walk_at"b";let⟨p,as,ts,rfl,hp,hL,h63,q⟩:=h;calc⟨_,(aF (aW (fM (ns:=["row","column","sign"]) RA (fL.of ["laying"] [] xb) ((fD aH).or (fJ aH)) (λ_ _ _ _ _=>(mH K RA (show (["row","column","sign","laying"]:List Str).Nodup by decide +kernel) RA RA RA xa xa xa)) (λ_ _ _ _ _=>cH) (λ_ _ _ _ _=>(dg (aj aH (aj aR aq))))))),?_⟩;let bW:=hL.len;let step:∀(M:Addr) (i:Nat) (x:V) (ys:List V) (H6:Hp),H M=none->(as.map V.ref)[i]?=some x->(∃bs:List Addr,ys=bs.map V.ref/\bs.length=i/\H6 M=some (.lst ys)/\aA H H6/\dY H6 bs ((ts.take i).map cA))->
   vf (as.map V.ref).length i M (λv H Q=>∃a p q r,v=.ref a/\aN K H a [p,q,r]/\Q [some p,some q,some r]) (eY [] 0) [some (V.ref p)] gG (Zb (iH (eF 0) (iH (eF 1) n_))) x H6 ys λys H6=>∃bs:List Addr,ys=bs.map V.ref/\bs.length=i+1/\H6 M=some (.lst ys)/\aA H H6/\dY H6 bs ((ts.take (i+1)).map cA):=by
  intro M i x ys H6 hM hx z;let⟨bs,rfl,jD,xJ,sm,hB⟩:=z;let⟨hi,hx⟩:=rfg hx;let⟨t,et,hT⟩:=hL.get hi;calc sS hx.symm (aN.of (sm _ _ hT)) ?_;calc⟨zsz 2,λc hc=>?_⟩;let nM:M≠c:=λz=>by rw[<-z,xJ]at hc;cases hc
  let zF:upd H6 c (.tup [.int t.1,.int t.2.1]) M=some (.lst (bs.map V.ref)):=by rw[bw nM];show xJ
  calc⟨zF,by rw[ab,jD];show aL wT,dM.mk (by rw[ab];show hi) ⟨bs++[c],w8,by simp[jD],by rw[au],?_,?_⟩⟩;.show(sm.bI (sm.free hc)).bI hM
  .rw[show (ts.take (i+1)).map cA=(ts.take i).map cA++[cA t] by rw[List.take_succ,et];simp];calc dY.app ((hB.mv (aA.upd hc)).iC (fu zF)) (dY.one (p:=cA t) ?_);show fu zF _ _ au
 let fin:∀(M:Addr) (ys:List V) (H6:Hp),H M=none->(∃bs:List Addr,ys=bs.map V.ref/\bs.length=(as.map V.ref).length/\H6 M=some (.lst ys)/\aA H H6/\dY H6 bs ((ts.take (as.map V.ref).length).map cA))->Q (.ref M) H6:=by intro M ys H6 hM z;let⟨bs,rfl,jD,xJ,sm,hB⟩:=z;rw[cx (by rw[ab];lia)]at hB;show q M bs H6 sm hM xJ hB
 let nMp:∀M:Addr,H M=none->∀H6:Hp,aA H H6->(aP K H p (as.map V.ref)->aP K H6 p (as.map V.ref))/\(aN K H p (as.map V.ref)->aN K H6 p (as.map V.ref)):=λM _ H6 sm=>⟨λz=>sm.seq z,λz=>sm.ZF z⟩
 rcases hp with hp|hp
 .refine .inl ⟨p,RA,⟨_,hp⟩,λM hM=>vU (f:=eY [] 0) (tt:=gG) (xs:=as.map V.ref) (λi ys H6=>∃bs:List Addr,ys=bs.map V.ref/\bs.length=i/\H6 M=some (.lst ys)/\aA H H6/\dY H6 bs ((ts.take i).map cA))
   ⟨[],RA,RA,au,aA.upd hM,dY.nil⟩ (λi ys H6 _ h=>by let⟨_,_,_,_,sm,_⟩:=h;show(nMp M hM H6 sm).1 hp) (λi x ys H6 hx h=>step M i x ys H6 hM hx h) (λys H6 h=>fin M ys H6 hM h)⟩
 .refine .inr ⟨p,RA,⟨_,hp⟩,λM hM=>jY (f:=eY [] 0) (tt:=gG) (xs:=as.map V.ref) (λi ys H6=>∃bs:List Addr,ys=bs.map V.ref/\bs.length=i/\H6 M=some (.lst ys)/\aA H H6/\dY H6 bs ((ts.take i).map cA))
   ⟨[],RA,RA,au,aA.upd hM,dY.nil⟩ (λi ys H6 _ h=>by let⟨_,_,_,_,sm,_⟩:=h;show(nMp M hM H6 sm).2 hp) (λi x ys H6 hx h=>step M i x ys H6 hM hx h) (λys H6 h=>fin M ys H6 hM h)⟩
def Oz:Sp:=λvs H Q _=>∃c:Nat,vs=[.str (S [c])]/\c<128/\Q (.str (S [PyProof.Rows.lo1 c])) H
def OD (D:aJ K mg "letter_of" qM ["sign"]):bx P w K mg base "letter_of" 1 ["sign"] Oz:=by calc D.cX N8 ?_;walk_at"b";let⟨c,rfl,hc,q⟩:=h;calc⟨_,(aF (aW (zV bS on oo Fz aH))),?_⟩;show⟨RA,[c],RA,RA,by show 1<=1000;decide,λe he=>by rw[ap.mp he];show hc,q⟩
def ig (r w n:Nat):List (Nat×Nat):=(List.range r).flatMap λi=>(List.range (w+1-n)).map λj=>(i,j)
def Dp (r w n):ig (r+1) w n=ig r w n++(List.range (w+1-n)).map λj=>(r,j):=by unfold ig;rw[fk,pT];simp
def yO {r w n:Nat}{c:Nat×Nat}:c∈ig r w n↔c.1<r/\c.2<w+1-n:=by
 unfold ig;simp only[ga,aw,bE];constructor;.intro z;let⟨i,hi,j,hj,rfl⟩:=z;show⟨hi,hj⟩
 .rintro⟨h1,h2⟩;show⟨c.1,h1,c.2,h2,RA⟩
def yP (r w n):(ig r w n).length=r*(w+1-n):=by
 induction r with| zero=>simp[ig]| succ r ih=>rw[Dp,av,ih,ab,dP,tF]
def OJ (C:Addr):Sp:=λvs H Q _=>∃(b:Addr) (r w:Nat) (ak aK:AA) (bi bj:Nat) (l:List Nat),vs=[.ref b,.str (S l)]/\dG C H b r w ak aK bi bj/\l.length<=9/\
 ∀(p:Addr) (as:List Addr) (H':Hp),aA H H'->H p=none->H' p=some (.lst (as.map V.ref))->dY H' as (ig r w l.length)->Q (.ref p) H'
def Ye (D:aJ K mg "starts" yF ["board","word"])(bG:mg "len"=none)(dD:mg "range"=none)(bF:dF K C):bx P w K mg base "starts" 1 ["board","word"] (OJ C):=by
 calc D.cX vC ?_;walk_at"b";let⟨b,r,w,ak,aK,bi,bj,l,rfl,B,hl9,q⟩:=h;obtain⟨⟨dx,pr,pm,pb,hb,hr',hm,hbb⟩,O⟩:=B;let r9:=O.r9;let w9:=O.w9;let m_:(Ts ak).length=r:=by rw[ab,O.br.len]
 let h0:0<ak.length:=by rw[O.br.len];show O.r1
 let hw0:ak[0].length=w:=O.br.ju _ (aI _);let at0:jC (Ts ak) 0=some (.str (S ak[0])):=aO (j:=0) (tE (ae h0));calc⟨_,(aD (aZ (i:=2) vC.nd RA (Or.inl RA) (fH aq)) (aD (d7 cq RA (lN xa dD (aj (aQ cL xa bG b7 (aj (dh aH RA) aq)) aq)) (bY (i:=3) vC.nd RA (Or.inr RA)) (aF (eE (eX di ki km qX bJ (aj (gw RA (fP.of vC.nd xb) (lN xa dD (aj (aX dj (aX o8 (aQ eN xa bG b7 (aj (bB bU (dh aH RA) aB (λ_ _=>rfl)) aq)) (aQ eN xa bG b7 (aj aR aq))) aB) aq)) (λ_ _ _ _ _=>cH) (λ_ _ _ _ _=>(dg (aj cD (aj aH aq))))) aq))))) (aF (aW bJ)))),?_⟩;calc⟨zsz 0,λF hF=>?_⟩;let s0:aA H (upd H F (HO.lst [])):=aA.upd hF;calc JJ b C dx _ _ ⟨RA,s0 _ _ hb,bF.cl,bF.nr,RA,pr,_,RA,.inr (aN.of (s0 _ _ hr')),?_⟩;rw[m_];calc⟨_,RA,mM _,wT,?_⟩;rw[de];refine lM (lo:=0) (n:=r) (λi σ H2=>∃(v3:Option V) (as:List Addr),σ=[some (.ref b),some (.str (S l)),some (.ref F),v3]/\aA H H2/\H2 F=some (.lst (as.map V.ref))/\dY H2 as (ig i w l.length))
  ⟨none,[],RA,s0,au,by simpa [ig] using dY.nil⟩ ?_ ?_
 .intro i σ H2 hi z;let⟨v3,as,rfl,sm,iG,hP⟩:=z;calc⟨.inl ⟨RA,_,aP.of iG⟩,b,C,dx,_,_,RA,sm _ _ hb,bF.cl,bF.nr,RA,pr,_,_,_,RA,RA,aN.of (sm _ _ hr'),at0,_,RA,by rw[hw0];show aT (aL wT),_,RA,aT (aL wT),_,_,RA,RA,_,_,RA,RA,_,RA,?_⟩;rw[hw0];calc⟨wT,wT,?_⟩;let en:((w:Int)-(l.length:Int)+1).toNat=w+1-l.length:=wT;rw[en];refine λL hL=>Fx (lo:=0) (n:=w+1-l.length) (λj ys H4=>∃bs:List Addr,ys=bs.map V.ref/\bs.length=j/\H4 L=some (.lst ys)/\aA H2 H4/\dY H4 bs ((List.range j).map λj=>(i,j)))
   ⟨[],RA,RA,au,aA.upd hL,dY.nil⟩ ?_ ?_
  .intro j ys H4 hj z;let⟨bs,rfl,jD,mV,s4,Ox⟩:=z;calc⟨zsz 2,λg hg=>?_⟩;let k6:aA H4 (upd H4 g (HO.tup [.int (0+(i:Int)),.int (0+(j:Int))])):=aA.upd hg;let mz:=k6 _ _ mV;calc⟨mz,by rw[ab];show aL (by simp[fz,gT]at *;lia),dM.mk hj ⟨bs++[g],w8,by simp;show jD,by rw[au],(s4.trans k6).bI hL,?_⟩⟩;rw[fk,bz];calc((Ox.mv k6).app (dY.one (p:=(i,j)) ?_)).iC (fu mz);show upd H4 g (HO.tup [.int (0+(i:Int)),.int (0+(j:Int))]) g=some (.tup [.int (i:Int),.int (j:Int)]);rw[au,Int.zero_add,Int.zero_add]
  .intro ys H4 z;let⟨bs,rfl,jD,mV,s4,Ox⟩:=z;let qg:=s4 _ _ iG;let hal:=hP.len;rw[yP]at hal;let h81:i*(w+1-l.length)<=9*10:=kF wT (jS wT);calc JI F L _ _ ⟨RA,RA,qg,mV,by rw[ab,ab];show aT (aL (by simp_all;lia)),?_⟩;calc⟨_,as++bs,RA,(sm.trans s4).bI hF,by rw[au,bz],?_⟩;rw[Dp];show((hP.mv s4).app Ox).iC (fu qg)
 .intro σ H2 z;let⟨v3,as,rfl,sm,iG,hP⟩:=z;show(q F as H2 sm hF iG hP)
noncomputable def pU (ak:AA)(r w i j:Nat)(l:List Nat)(k:Nat):Bool:=decide (atC ak r w i ((j+k:Nat):Int)=46)||decide (PyProof.Rows.lo1 (atC ak r w i ((j+k:Nat):Int))=l.getD k 0)
noncomputable def pW (ak:AA)(r w i j:Nat)(l:List Nat)(k:Nat):Option bK:=if atC ak r w i ((j+k:Nat):Int)=46 then some (i,j+k,l.getD k 0) else none
def mR (ak:AA)(r w i j:Nat)(l:List Nat)(n:Nat):List bK:=(List.range n).filterMap (pW ak r w i j l)
noncomputable def tK (ak:AA)(r w i j:Nat)(l:List Nat):Bool:=decide (atC ak r w i ((j:Int)-1)=46)&&decide (atC ak r w i ((j:Int)+(l.length:Int))=46)
noncomputable def cT (ak:AA)(r w i j:Nat)(l:List Nat):List bK:=if (tK ak r w i j l&&(List.range l.length).all (pU ak r w i j l))=true then mR ak r w i j l l.length else []
def yQ (ak)(r w i j)(l)(n):mR ak r w i j l (n+1)=mR ak r w i j l n++(pW ak r w i j l n).toList:=by unfold mR;rw[fk,List.filterMap_append];congr 1
def all_succ (f:Nat->Bool)(n):(List.range (n+1)).all f=((List.range n).all f&&f n):=by rw[fk,List.all_append];simp
def Kr (ak)(r w i j)(l)(n):(mR ak r w i j l n).length<=n:=by unfold mR;show a8 (List.length_filterMap_le _ _) (by rw[dP];show ah _)
def afx {r w bi bj:Nat}{ak aK:AA}(O:GF r w ak aK bi bj)(i j:Int):atC ak r w i j<128:=by
 unfold atC;split
 .rename_i h;let⟨h1,h2,h3,h4⟩:=h;let a1:i.toNat<ak.length:=by rw[O.br.len];simp_all
  let e1:ak.getD i.toNat []=ak[i.toNat]:=by rw[ai,ae a1];rfl
  let a2:j.toNat<ak[i.toNat].length:=by rw[O.br.ju _ (aI _)];lia
  rw[e1,ai,ae a2];show Vd (O.cr _ (aI _) _ (aI _))
 .decide
def Sy (C:Addr):Sp:=λvs H Q _=>∃(b:Addr) (r w:Nat) (ak aK:AA) (bi bj i j:Nat) (l:List Nat),vs=[.ref b,.int i,.int j,.str (S l)]/\dG C H b r w ak aK bi bj/\j<1000/\l.length<=9/\
 ∀(p:Addr) (as:List Addr) (H':Hp),aA H H'->H p=none->H' p=some (.lst (as.map V.ref))->dw H' as (cT ak r w i j l)->Q (.ref p) H'
def CJ (D:aJ K mg "letters_to_lay" j7 ["board","row","column","word"])(bG:mg "len"=none)(gQ:mg "enumerate"=none)(cP:∃t,mg "FREE"=some (.str (S [46]) t))(bF:dF K C)(iJ:Meth K C "at" f1)(iK:cJ P w K mg base fG 3 f1 jg ["self","row","column"] (Oj C))(iM:cu K jg ["self","row","column"] [])(QF:bx P w K mg base "letter_of" 1 ["sign"] Oz):bx P w K mg base "letters_to_lay" 4 ["board","row","column","word"] (Sy C):=by
 calc D.cX iD ?_;walk_at"b";let⟨b,r,w,ak,aK,bi,bj,i,j,l,rfl,B,hj,hl9,q⟩:=h;let⟨dx,_,_,_,ex,_⟩:=id B.ex;let O:=B.ok;let hz:l.length<=sizeLine:=aT (aL wT);calc⟨_,(aD (cC (QW.qt (lu (cg zU (iV aH bF.cl iJ iK hr.mono iM .nil fZ (aj aR (aj (aX o8 bJ aB) aq))) (jX xa cP) (bR _)) (jK (cg zU (iV aH bF.cl iJ iK hr.mono iM .nil fZ (aj aR (aj (aX dj bJ (aQ eN xa bG b7 (aj cj aq))) aq))) (jX xa cP) (bR _))))) (aF (aW (fH aq))) bQ) (aD (aZ (i:=4) iD.nd RA (Or.inl RA) (fH aq)) (aD (d7 cq RA (aak xa gQ cj bJ) (o_ RA (cU (bY (i:=5) iD.nd RA (Or.inl RA)) (cU (bY (i:=6) iD.nd RA (Or.inl RA)) mG))) (aD (aZ (i:=7) iD.nd RA (Or.inl RA) (iV aH bF.cl iJ iK hr.mono iM .nil fZ (aj aR (aj d8 aq)))) (aF (cC (cg wJ jV (jX xa cP) (bR _)) (aF (eE (eX di gg gh jQ cD (aj (dg (aj aR (aj d8 (aj f9 aq)))) aq)))) (aF (cC (cg zU (aY QF hr.mono RA (aj jV aq)) f9 (bR _)) (aF (aW (fH aq))) bQ)))))) (aF (aW cD))))),?_⟩;let none_:cT ak r w i j l=[]->∀(H':Hp),aA H H'->(0<=sizeLine)/\∀p,H' p=none->Q (.ref p) (upd H' p (.lst [])):=λe H' sm=>⟨w_,λp hp=>q p [] _ (sm.bI (sm.free hp)) (sm.free hp) au (by rw[e];show dw.nil)⟩
 calc JE b dx _ ⟨RA,ex,RA,_,_,RA,RA,b,r,w,ak,aK,bi,bj,_,_,RA,B,_,_,RA,RA,aU _ RA ?_⟩;by_cases c1:atC ak r w (i:Int) ((j:Int)-1)=46
 .rw[ar (show [atC ak r w (i:Int) ((j:Int)-1)]=[46] by rw[c1])];calc bZ (JE b dx _ ⟨RA,ex,RA,l,RA,hz,_,_,RA,RA,b,r,w,ak,aK,bi,bj,_,_,RA,B,_,_,RA,RA,aU _ RA ?_⟩);by_cases c2:atC ak r w (i:Int) ((j:Int)+(l.length:Int))=46
  .rw[ar (show [atC ak r w (i:Int) ((j:Int)+(l.length:Int))]=[46] by rw[c2])];calc bZ ?_;let he:tK ak r w i j l=true:=by unfold tK;rw[ar c1,ar c2];rfl
   calc⟨zsz 0,λF hF=>?_⟩;let s0:aA H (upd H F (HO.lst [])):=aA.upd hF;refine⟨l,j,RA,RA,hj,Xk (l:=l) (k:=j) (λn σ H2=>∃(v5 v6 v7:Option V) (as:List Addr),σ=[some (.ref b),some (.int i),some (.int j),some (.str (S l)),some (.ref F),v5,v6,v7]/\aA H H2/\H2 F=some (.lst (as.map V.ref))/\dw H2 as (mR ak r w i j l n)/\(List.range n).all (pU ak r w i j l)=true)
    (JI none none none [] ⟨RA,s0,au,dw.nil,RA⟩) ?_ ?_⟩
   .intro n c σ H2 T hn z hT;let⟨v5,v6,v7,as,rfl,sm,iG,hL,ha⟩:=z;let hnl:n<l.length:=(al.mp hn).1;let ec:l.getD n 0=c:=by rw[ai,hn];rfl
    let k1:aA H2 (upd H2 T (HO.tup [.int ((j+n:Nat):Int),.str (S [c])])):=aA.upd hT;calc⟨T,_,RA,aN.of au,RA,_,_,RA,_,_,RA,RA,?_⟩;let sI:=k1 _ _ iG;let vK:=sm.trans k1;let Aq:=hL.mv k1;generalize upd H2 T (HO.tup [.int ((j+n:Nat):Int),.str (S [c])])=H3 at k1 sI vK Aq ⊢;let B3:=B.mv vK;let bW:=Aq.len;let htl:=Kr ak r w i j l n;calc JE b dx _ ⟨RA,vK _ _ ex,RA,b,r,w,ak,aK,bi,bj,_,_,RA,B3,?_⟩;calc⟨[atC ak r w (i:Int) ((j+n:Nat):Int)],[46],RA,RA,aU _ RA ?_⟩;by_cases c3:atC ak r w (i:Int) ((j+n:Nat):Int)=46
    .rw[ar (show [atC ak r w (i:Int) ((j+n:Nat):Int)]=[46] by rw[c3])];calc cQ ⟨.inl ⟨RA,_,aP.of sI⟩,zsz 3,λg hg=>?_⟩;let k4:aA H3 (upd H3 g (HO.tup [.int (i:Int),.int ((j+n:Nat):Int),.str (S [c])])):=aA.upd hg;let qg:=k4 _ _ sI;calc JE F _ _ ⟨RA,RA,qg,by rw[ab];show aL wT,?_⟩;refine JI _ _ _ (as++[g]) ⟨RA,(vK.trans k4).bI hF,by rw[au,bz];rfl,?_,?_⟩
     .rw[yQ];let et:pW ak r w i j l n=some (i,j+n,c):=by unfold pW;rw[if_pos c3,ec]
      rw[et];show((Aq.mv k4).snoc (t:=(i,j+n,c)) au).iC (fu qg)
     .rw[all_succ,ha];show pU ak r w i j l n=true;unfold pU;rw[ar c3];rfl
    .rw[am (show ¬[atC ak r w (i:Int) ((j+n:Nat):Int)]=[46] from λz=>c3 (by injection z))];calc bZ ⟨_,RA,afx O _ _,[PyProof.Rows.lo1 (atC ak r w (i:Int) ((j+n:Nat):Int))],[c],RA,RA,aU _ RA ?_⟩;by_cases c4:PyProof.Rows.lo1 (atC ak r w (i:Int) ((j+n:Nat):Int))=c
     .rw[ar (show [PyProof.Rows.lo1 (atC ak r w (i:Int) ((j+n:Nat):Int))]=[c] by rw[c4])];refine bZ (JI _ _ _ as ⟨RA,vK,sI,?_,?_⟩)
      .rw[yQ];let et:pW ak r w i j l n=none:=by unfold pW;rw[if_neg c3]
       rw[et];simpa using Aq
      .rw[all_succ,ha];show pU ak r w i j l n=true;unfold pU;rw[ec,ar c4,Bool.or_true]
     .rw[am (show ¬[PyProof.Rows.lo1 (atC ak r w (i:Int) ((j+n:Nat):Int))]=[c] from λz=>c4 (by injection z))];calc cQ (none_ ?_ H3 vK);unfold cT;rw[if_neg];intro z;let z2:=(df _ _ ▸ z).2;rw[gv]at z2;let z3:=z2 n (bE.mpr hnl);unfold pU at z3;rw[am c3,ec,am c4]at z3;show absurd z3 w_
   .intro σ H2 z;let⟨v5,v6,v7,as,rfl,sm,iG,hL,ha⟩:=z;calc(q F as H2 sm hF iG ?_);let e:cT ak r w i j l=mR ak r w i j l l.length:=by unfold cT;rw[he,ha];show if_pos rfl
    rw[e];show hL
  .rw[am (show ¬[atC ak r w (i:Int) ((j:Int)+(l.length:Int))]=[46] from λz=>c2 (by injection z))];calc cQ (none_ ?_ H (aA.refl _));unfold cT tK;rw[am c2,lT,kD];show if_neg w_
 .rw[am (show ¬[atC ak r w (i:Int) ((j:Int)-1)]=[46] from λz=>c1 (by injection z))];calc cQ (none_ ?_ H (aA.refl _));unfold cT tK;rw[am c1,kD,kD];show if_neg w_
def rP (c:Nat×Nat):List Key:=[Sum.inl (c.1:Int),Sum.inl (c.2:Int)]
def aaC (h:rP a=rP b):a=b:=by unfold rP at h;injection h with h1 h2;injection h2 with h2 _;injection h1 with h1;injection h2 with h2;show se (kz h1) (kz h2)
def ac2 {κ:Type} [DecidableEq κ] (kvs:List (κ×V))(k:κ)(v):(putK kvs k v).length<=kvs.length+1:=by
 unfold putK;split;.rw[ab];lia
 .simp
def aaD (hM:H M=some (.dT ks)):∀a xs,H a=some (.tup xs)->upd H M (.dT ks') a=some (.tup xs):=λa xs e=>by
 let ne:a≠M:=λz=>by rw[z,hM]at e;cases e
 rw[bw ne];show e
def pX (ws ak:AA)(c:Nat×Nat):List Nat:=xH ws (lineOf ak c.1 c.2 1) (placeOf c.1 c.2 1)
def qT (ak:AA)(r w:Nat):List (Nat×Nat):=(cells r w).filter (frB ak r w)
def Ek {ak:AA}{r w:Nat}{c:Nat×Nat}:c∈qT ak r w↔(c.1<r/\c.2<w)/\atC ak r w c.1 c.2=46:=by
 unfold qT;rw[kR];unfold frB;rw[im];constructor
 .rintro⟨h1,h2⟩;show⟨by simp only[cells,ga,aw,bE]at h1;let⟨i,hi,j,hj,rfl⟩:=h1;show⟨hi,hj⟩,by injection h2⟩
 .rintro⟨h1,h2⟩;show⟨by simp only[cells,ga,aw,bE];show⟨c.1,h1.1,c.2,h1.2,RA⟩,by rw[h2]⟩
def aaE {ak:AA}{r w:Nat}(r9:r<=9)(w9:w<=9):(qT ak r w).length<=81:=by
 unfold qT;calc a8 (i6 _ _) ?_;have:(cells r w).length=r*w:=by
  unfold cells
  induction r with| zero=>simp| succ r ih=>rw[fk,pT,av,ih (aT r9)];simp[tF]
 rw[this];show kF r9 w9
def Yg (C CB:Addr):Sp:=λvs H Q _=>∃(b k d:Addr) (ws:AA) (r w:Nat) (ak aK:AA) (bi bj:Nat),vs=[.ref b,.ref k]/\dG C H b r w ak aK bi bj/\kO CB H k d ws/\
 ∀(p:Addr) (kvs:List (List Key×V)) (H':Hp),aA H H'->H p=none->H' p=some (.dT kvs)->(∀c∈qT ak r w,fW kvs (rP c)=some (.str (S (pX ws ak c))))->Q (.ref p) H'
def GX (D:aJ K mg "letters_down" mO ["board","book"])(uI:bx P w K mg base "free_cells" 1 ["board"] (IK C))(GZ:bx P w K mg base "cross_letters" 10 ["board","book","row","column","way"] (afu C CB)):bx P w K mg base "letters_down" 11 ["board","book"] (Yg C CB):=by
 calc D.cX lJ ?_;walk_at"b";let⟨b,k,d,ws,r,w,ak,aK,bi,bj,rfl,B,BK,q⟩:=h;let hu:=Bu hr;calc⟨_,(aD (aZ (i:=2) lJ.nd RA (Or.inl RA) ZP) (aD (d7 cq RA (fD (aY uI hr.mono RA (aj aH aq))) (o_ RA (cU (bY (i:=3) lJ.nd RA (Or.inl RA)) (cU (bY (i:=4) lJ.nd RA (Or.inl RA)) mG))) (aF (Hz hu bJ (dg (aj cj (aj cD aq))) (aY GZ hr.mono RA (aj aH (aj aR (aj cj (aj cD (aj aB aq)))))) RA))) (aF (aW bJ)))),?_⟩;intro F hF;let s0:aA H (upd H F (HO.dT [])):=aA.upd hF;let xM:upd H F (HO.dT []) F=some (.dT []):=au;generalize upd H F (HO.dT [])=H0 at s0 xM ⊢;calc JP b r w ak aK bi bj ⟨RA,B.mv s0,λp as H1 s1 hp hP=>?_⟩;let hF1:=s1 _ _ xM;let npF:p≠F:=λz=>by rw[z,hF1]at hp;cases hp
 let hal:as.length<=81:=by rw[hP.len];show aaE B.ok.r9 B.ok.w9
 let hpL:(cells r w).filter (frB ak r w)=qT ak r w:=rfl;rw[hpL]at hP;refine⟨p,RA,⟨_,aP.of hp⟩,lK (K:=K) (a:=p) (xs:=as.map V.ref) (λn σ H2=>∃(v3 v4:Option V) (kvs:List (List Key×V)),σ=[some (.ref b),some (.ref k),some (.ref F),v3,v4]/\aA H H2/\H2 p=some (.lst (as.map V.ref))/\dY H2 as (qT ak r w)/\H2 F=some (.dT kvs)/\kvs.length<=n/\∀c∈(qT ak r w).take n,fW kvs (rP c)=some (.str (S (pX ws ak c))))
  (JE none none [] ⟨RA,s0.trans s1,hp,hP,hF1,ah _,λc hc=>by simp at hc⟩) (λn σ H2 _ h=>by let⟨_,_,_,_,_,h2,_⟩:=h;show aP.of h2) ?_ ?_⟩
 .intro n x σ H2 hx z;let⟨v3,v4,kvs,rfl,sm,hp2,hP2,iG,hkl,hkv⟩:=z;let⟨hi,hx⟩:=rfg hx;subst hx;let⟨c,ec,hc⟩:=hP2.get hi;let hcm:=Ek.mp (aS ec);calc⟨as[n],_,RA,aN.of hc,RA,_,_,RA,_,_,RA,RA,?_⟩;calc JS b k d ws r w ak aK ⟨bi,bj,c.1,c.2,1,RA,B.mv sm,BK.same sm,hcm.1.1,hcm.1.2,.inr RA,λH3 s3=>?_⟩;calc⟨zsz 2,λg hg=>?_⟩;let k4:aA H3 (upd H3 g (HO.tup [.int (c.1:Int),.int (c.2:Int)])):=aA.upd hg;let qg:=k4 _ _ (s3 _ _ iG);calc⟨F,_,RA,vR.t (k:=rP c) qg au (aL wT),?_⟩;calc JE _ _ (putK kvs (rP c) _) ⟨RA,((sm.trans s3).trans k4).bI hF,by rw[bw npF];show k4 _ _ (s3 _ _ hp2),((hP2.mv s3).mv k4).iC (aaD qg),au,a8 (ac2 _ _ _) (g9 hkl),λe he=>?_⟩;rw[Zn];by_cases z:rP e=rP c;.rw[if_pos z,aaC z];rfl
  .rw[if_neg z];rw[bP,ec]at he;rcases bd.mp he with y|y;.show hkv e y
   .have:e=c:=by simpa using y
    show absurd (by rw[this]) z
 .intro σ H2 z;let⟨v3,v4,kvs,rfl,sm,hp2,hP2,iG,hkl,hkv⟩:=z;rw[ab,hP2.len,cK]at hkv;show(q F kvs H2 sm hF iG hkv)
noncomputable def qF (fit:Nat×Nat->List Nat)(hk:List (Nat×Nat))(ts:List bK):Bool:=(decide (1<=ts.length)&&decide (ts.length<=7))&&(ts.all (λt=>decide (t.2.2∈fit (cA t)))&&ts.any (λt=>decide (cA t∈hk)))
def ac3 (h:vL a=vL b):a=b:=by unfold vL at h;injection h with h;injection h with h1 h2;injection h2 with h2 _;injection h1 with h1;injection h2 with h2;show se (kz h1) (kz h2)
def Cr {hk:List (Nat×Nat)}:vL c∈hk.map vL↔c∈hk:=⟨λh=>by let⟨d,hd,e⟩:=aw.mp h;rw[<-ac3 e];show hd,λh=>cz h⟩
def abx (K:W.Frag):Sp:=λvs H Q _=>∃(p d j:Addr) (as bs:List Addr) (ts:List bK) (kvs:List (List Key×V)) (fit:Nat×Nat->List Nat) (hk:List (Nat×Nat)),vs=[.ref p,.ref d,.ref j]/\H p=some (.lst (as.map V.ref))/\dw H as ts/\ts.length<=63/\H d=some (.dT kvs)/\(∀t∈ts,fW kvs (rP (cA t))=some (.str (S (fit (cA t)))))/\
 H j=some (.tup (bs.map V.ref))/\dY H bs hk/\∀H',aA H H'->Q (.bl (qF fit hk ts)) H'
def IV (D:aJ K mg "can_be_laid" nR ["triples","fitting","joining"])(bG:mg "len"=none)(d9:mg "all"=none)(pN:mg "any"=none)(gZ:∃t,mg "MOST_TILES"=some (.int 7 t))(kh:bx P w K mg base "cells_of" 1 ["laying"] (xK K)):bx P w K mg base "can_be_laid" 2 ["triples","fitting","joining"] (abx K):=by
 calc D.cX w6 ?_;walk_at"b";let⟨p,d,j,as,bs,ts,kvs,fit,hk,rfl,hp,hL,h63,hd,hkv,hj,hJ,q⟩:=h;let hu:=Bu hr;let hal:=hL.len;let hml:(as.map V.ref).length=ts.length:=by rw[ab];show hal
 calc⟨_,(aD (cC (dB (xX nA nA aB (aQ cL xa bG b7 (aj aH aq)) (Lp xa gZ))) (aF (aW gP)) bQ) (aD (cC (dB (cO (aQ (i_ RA) xa d9 iR (aj (fM (ns:=["row","column","letter"]) RA (fL.of ["triples","fitting","joining"] [] xb) (fD aH) (λ_ _ _ _ _=>(mH K RA (show (["row","column","letter","triples","fitting","joining"]:List Str).Nodup by decide +kernel) RA RA RA xa xa xa)) (λ_ _ _ _ _=>cH) (λ_ _ _ _ _=>(fB Wi bJ (ach hu cD (dg (aj aH (aj aR aq))) (λ_ _=>rfl)) RA))) aq)))) (aF (aW gP)) bQ) (aF (aW (aQ (DP RA) xa pN zX (aj (gw RA (fP.of w6.nd xb) (fD (aY kh hr.mono RA (aj aH aq))) (λ_ _ _ _ _=>cH) (λ_ _ _ _ _=>(fB (RX K hr.units) aH cj RA))) aq)))))),?_⟩;calc⟨p,_,RA,.inl (aP.of hp),_,_,RA,RA,aU _ RA ?_⟩;rw[hml];let no:qF fit hk ts=false->Q (.bl false) H:=λe=>by have:=q H (aA.refl _);rw[e]at this;show this
 by_cases c1:1<=ts.length
 .rw[ar (show (1:Int)<=(ts.length:Int) by lia)];calc cQ ⟨_,_,RA,RA,aU _ RA ?_⟩;by_cases c2:ts.length<=7
  .rw[ar (show (ts.length:Int)<=7 by lia)];calc bZ ?_;refine⟨p,RA,⟨_,aP.of hp⟩,λL zE=>vU (f:=eY [] 0) (tt:=gG) (xs:=as.map V.ref) (λi ys H6=>ys=((ts.take i).map λt=>decide (t.2.2∈fit (cA t))).map V.bl/\H6 L=some (.lst ys)/\aA H H6)
    ⟨RA,au,aA.upd zE⟩ (λi ys H6 _ h=>aP.of (h.2.2 _ _ hp)) ?_ ?_⟩
   .intro i x ys H6 hx z;let⟨rfl,mz,sm⟩:=z;let⟨hi,hx⟩:=rfg hx;let⟨t,et,hT⟩:=hL.get hi;calc sS hx.symm (aN.of (sm _ _ hT)) ?_;calc⟨zsz 2,λg hg=>?_⟩;let k4:aA H6 (upd H6 g (HO.tup [.int (t.1:Int),.int (t.2.1:Int)])):=aA.upd hg;let hg4:=uc.t (k:=rP (cA t)) (k4 _ _ (sm _ _ hd)) (show upd H6 g (HO.tup [.int (t.1:Int),.int (t.2.1:Int)]) g=some (.tup ((rP (cA t)).map kV)) from au);rw[hkv t (aS et)]at hg4;calc⟨d,_,RA,hg4,_,_,RA,RA,k4 _ _ mz,?_,dM.mk (by rw[ab];show hi) ⟨?_,au,(sm.trans k4).bI zE⟩⟩;.rw[ab,ab,be];show aL wT
    .rw[bP,et];simp
   .intro ys H6 z;let⟨rfl,mz,sm⟩:=z;rw[hml,cK]at mz;calc⟨L,_,RA,aP.of mz,aU _ RA ?_⟩;rw[List.all_map];by_cases c3:ts.all (λt=>decide (t.2.2∈fit (cA t)))=true
    .rw[show (ts.all (id ∘ λt=>decide (t.2.2∈fit (cA t))))=true from c3];calc bZ ?_;let Gm:=sm _ _ hp;calc JE p as ts ⟨RA,.inl (aP.of Gm),hL.mv sm,h63,λp7 cs H7 s7 hn7 O1 hP7=>?_⟩;let s67:=sm.trans s7;let hcl:cs.length=ts.length:=by rw[hP7.len,ab]
     refine⟨p7,RA,⟨_,aP.of O1⟩,λM hM=>qY (K:=K) (a:=p7) (xs:=cs.map V.ref) (λi ys H8=>ys=((ts.take i).map λt=>decide (cA t∈hk)).map V.bl/\H8 M=some (.lst ys)/\aA H7 H8)
      ⟨RA,au,aA.upd hM⟩ (λi ys H8 _ h=>aP.of (h.2.2 _ _ O1)) ?_ ?_⟩
     .intro i x ys H8 hx z;let⟨rfl,O6,s8⟩:=z;let⟨hi,hx⟩:=rfg hx;subst hx;let⟨c,ec,hc⟩:=hP7.get hi;obtain⟨t,et,rfl⟩:∃t,ts[i]?=some t/\cA t=c:=by
       rw[a_]at ec;show eK.mp ec
      let hJ8:=(hJ.mv s67).mv s8;let hj8:=s8 _ _ (s67 _ _ hj);refine JE 2 (vL (cA t)) (hk.map vL) ⟨w_,.tup (aN.of (s8 _ _ hc)) (.cons (.int _) (.cons (.int _) .nil)),?_,O6,?_,dM.mk (by rw[ab];show hi) ⟨?_,au,s8.bI hM⟩⟩
      .rw[<-hJ8.eq];show .tup (aN.of hj8) (Cp hJ8.at_)
      .rw[ab,ab,be];show aL wT
      .rw[bP,et,bz,bz];congr 1;show [V.bl _]=[V.bl _]
       congr 2;show sv.mpr Cr
     .intro ys H8 z;let⟨rfl,O6,s8⟩:=z;rw[ab,hcl,cK]at O6;calc⟨M,_,RA,aP.of O6,?_⟩;rw[List.any_map];let e:qF fit hk ts=ts.any (id ∘ λt=>decide (cA t∈hk)):=by
       unfold qF;rw[ar c1,ar c2,c3];rfl
      rw[<-e];show q H8 (s67.trans s8)
    .rw[show (ts.all (id ∘ λt=>decide (t.2.2∈fit (cA t))))=false from rV.mpr c3];calc cQ ?_;have:=q H6 sm;let e:qF fit hk ts=false:=by
      unfold qF;rw[rV.mpr c3,kD,lT]
     rw[e]at this;show this
  .rw[am (show ¬(ts.length:Int)<=7 by lia)];calc cQ (no ?_);unfold qF;rw[am c2,lT,kD]
 .rw[am (show ¬(1:Int)<=(ts.length:Int) by lia)];calc bZ (no ?_);unfold qF;rw[am c1,kD,kD]
noncomputable def fQ:List Nat->List Nat->List (List Nat)
 | [],_=>[[]]
 | c::ls,rk=>(if c∈rk then (fQ ls (rk.erase c)).map (c :: ·) else [])++(if 63∈rk then (fQ ls (rk.erase 63)).map (PyProof.Rows.up1 c :: ·) else [])
def IW (h:isLet c):PyProof.Rows.up1 c=c-32/\cI (PyProof.Rows.up1 c)=63/\cI c=c/\c<128/\PyProof.Rows.up1 c<128:=by let h1:=h.1;let h2:=h.2;let e:PyProof.Rows.up1 c=c-32:=if_pos (show 97<=c/\c<=122 from h);rw[e];show⟨RA,if_pos ⟨fg wT,tw h2 _⟩,if_neg wT,wT,iO wT⟩
theorem xO:∀(ls rk:List Nat) {t:List Nat},t∈fQ ls rk->t.length=ls.length
 | [],_,t,h=>by rw[ap.mp h]
 | c::ls,rk,t,h=>by
  unfold fQ at h;rcases bd.mp h with z|z
  .split at z
   .let⟨u,hu,rfl⟩:=aw.mp z;simp[xO ls _ hu]
   .simp at z
  .split at z
   .let⟨u,hu,rfl⟩:=aw.mp z;simp[xO ls _ hu]
   .simp at z
def ac4 {c:Nat}{ls rk:List Nat}(h:c∈rk):(fQ ls (rk.erase c)).length<=(fQ (c::ls) rk).length:=by rw[fQ,if_pos h,av,ab];lia
def ac5 {c:Nat}{ls rk:List Nat}(h:63∈rk):(fQ ls (rk.erase 63)).length<=(fQ (c::ls) rk).length:=by rw[fQ,if_pos h,av,ab (as:=fQ ls (rk.erase 63))];lia
def tL (o:Nat):Sp:=λvs H Q _=>∃(ls rk:List Nat),vs=[.str (S ls),.str (S rk)]/\(∀c∈ls,isLet c)/\ls.length<o/\o<=10/\rk.length<=100/\(fQ ls rk).length<=900/\
 ∀(p:Addr) (H':Hp),aA H H'->H p=none->H' p=some (.lst (Ts (fQ ls rk)))->Q (.ref p) H'
def aaF (D:aJ K mg name st ps)(no:∀vs H Q E,¬sp vs H Q E):bx P w K mg base name k ps sp:=by let⟨f,fd,F,b,g⟩:=D.ex;show⟨f,fd,⟨λvs H Q E h=>absurd h (no vs H Q E),λA outer s H args us vs Q E _ _ _ _ h=>absurd h (no vs H Q E)⟩,b,g,F.kp⟩
def QH (c:Nat)(ts:AA)(n:Nat){t:List Nat}(h:ts[n]?=some t):Ts ((ts.take (n+1)).map (c :: ·))=Ts ((ts.take n).map (c :: ·))++[V.str (S ([c]++t))]:=by rw[bP,h,bz];show(kZ _ _).symm
def O7 (hk:1<=k)(D:aJ K mg "sign_texts" jP ["letters","rack"])(T:Gp P w K mg base f fd)(bT:cu K fd ["sign"] [])(mT:mg "tile_of"=some (.ref f))(kT:W.keepIn K (.ref f)=true)(uJ:bx P w K mg base "sign_texts" k ["letters","rack"] (tL o)):bx P w K mg base "sign_texts" (k+1) ["letters","rack"] (tL (o+1)):=by
 calc D.cX nT (λf' bD A outer s H vs Q E hr h=>?_);let⟨ls,rk,rfl,hls,hlo,ho,hrk,yR,q⟩:=h;let Y:Ux (tY fG P w K mg base ["letters","rack","texts","sign","tile","left"] "sign_texts" (aG jP) f' bD A outer s H E).Jx 1 3 4 5 f fd:=⟨nT.nd,RA,RA,RA,RA,.inl RA,.inr RA,.inl RA,.inl RA,RA,RA,RA,T,bT,mT,kT,RA,hr.mono hk⟩
 refine⟨_,aD (cC (cg wJ aH (cF [] xc) (bR _)) (aF (aW (fH (aj (cF [] xc) aq)))) bQ)
  (aD (aZ (i:=2) nT.nd RA (Or.inl RA) (fH aq))
  (aD (afi Y xc cq RA (abu aH (λ_ _=>rfl)) (agz (abu aH (λ_ _=>rfl))) RA RA RA RA (λ_=>rfl)
   (aF (eE (eX di ki km qX bJ (aj (gw RA (fP.of nT.nd xb) (fD (aY uJ hr RA (aj (iZ Mz aH (g_ aB) oN) (aj d8 aq)))) (λ_ _ _ _ _=>cH) (λ_ _ _ _ _=>(aX tU cD aH))) aq)))))
  (aF (aW bJ)))),?_⟩
 refine⟨_,_,RA,RA,aU _ RA ?_⟩
 match ls,hls,hlo,yR,q with
 | [],hls,hlo,yR,q=>rw[ar rfl];show cQ ⟨zsz 1,λp hp=>q p _ (aA.upd hp) hp au⟩
 | c::ls,hls,hlo,yR,q=>
  rw[am (show ¬c::ls=[] from λz=>by cases z)];calc bZ ⟨zsz 0,λF hF=>?_⟩;let⟨u1,u2,u3,u4,u5⟩:=IW (hls c aE);let hl':∀d∈ls,isLet d:=λd hd=>hls d (ay _ hd);let hlo':ls.length<o:=by simp at hlo;show hlo
  let hz:(c::ls).length<=sizeLine:=aT (aL wT);let s0:aA H (upd H F (HO.lst [])):=aA.upd hF;let xM:upd H F (HO.lst []) F=some (.lst []):=au;generalize upd H F (HO.lst [])=H0 at s0 xM ⊢;let one:∀(d:Nat) (H2:Hp) (ts:AA) (Dn:St->Hp->Prop) (Dr:VK),aA H H2->H2 F=some (.lst (Ts ts))->cI d∈rk->ts.length<=900->(fQ ls (rk.erase (cI d))).length<=900->
    (∀H3,aA H H3->H3 F=some (.lst (Ts (ts++(fQ ls (rk.erase (cI d))).map (d :: ·))))->Dn [some (.str (S (c::ls))),some (.str (S rk)),some (.ref F),some (.str (S [d])),some (.str (S [cI d])),some (.str (S (rk.erase (cI d))))] H3)->
    (E_ (Q_ K "list" Bs (eF 2) (iH (Fw (Fd K (u_ (tL o) [] E0 (iH (Q8 T_ (eF 0) (Bp (tC (V.int 1))) tQ) (iH (eF 5) n_)))) gG (qW Bx (eF 4) (eF 0))) n_))) {nx:=Dn,rt:=Dr} [some (.str (S (c::ls))),some (.str (S rk)),some (.ref F),some (.str (S [d])),some (.str (S [cI d])),some (.str (S (rk.erase (cI d))))] H2:=by
   intro d H2 ts Dn Dr sm iG dN h9 h9' nx;let ahk:qw (c::ls) (some 1) none=ls:=by rw[show (1:Int)=((1:Nat):Int) from RA,yc];rfl
   let h10:ls.length<=10:=wT;calc⟨.inl ⟨RA,_,aP.of iG⟩,_,RA,c::ls,RA,hz,ls,rk.erase (cI d),by rw[ahk];rfl,hl',hlo',aT ho,a8 s_ hrk,h9',λp H3 s3 hn3 hp3=>?_⟩;let sI:=s3 _ _ iG;refine⟨p,RA,⟨_,aP.of hp3⟩,λL hL=>qY (K:=K) (a:=p) (xs:=Ts (fQ ls (rk.erase (cI d)))) (λi ys H4=>ys=Ts (((fQ ls (rk.erase (cI d))).take i).map (d :: ·))/\H4 L=some (.lst ys)/\aA H3 H4)
    ⟨RA,au,aA.upd hL⟩ (λi ys H4 _ h=>aP.of (h.2.2 _ _ hp3)) ?_ ?_⟩
   .intro i x ys H4 hx z;let⟨rfl,mV,s4⟩:=z;let⟨t,ht,rfl⟩:=rD hx;let hil:i<(Ts (fQ ls (rk.erase (cI d)))).length:=(al.mp hx).1;let htl:=xO _ _ (aS ht);calc⟨[d],t,RA,RA,aT (aL (by simp;lia)),mV,?_,dM.mk hil ⟨?_,au,s4.bI hL⟩⟩;.rw[ab,ab,be];show aL wT
    .show(QH d _ i ht).symm
   .intro ys H4 z;let⟨rfl,mV,s4⟩:=z;rw[ab,cK]at mV;let qg:=s4 _ _ sI;refine JI F L _ _ ⟨RA,RA,qg,mV,?_,nx _ (((sm.trans s3).trans s4).bI hF) ?_⟩
    .rw[ab,ab,ab];show a8 (Nat.add_le_add h9 h9') w_
    .rw[au];unfold Ts;rw[bz]
  calc JE (S (c::ls)) 0 c ⟨RA,RA,by rw[mF];show hz,aO (j:=0) RA,?_⟩;calc JE (S (c::ls)) 0 c ⟨RA,RA,by rw[mF];show hz,aO (j:=0) RA,c,RA,u4,c,PyProof.Rows.up1 c,RA,RA,?_⟩;let two:∀(H2:Hp) (ts:AA) (v4 v5 v6:Option V),aA H H2->H2 F=some (.lst (Ts ts))->ts=(if c∈rk then (fQ ls (rk.erase c)).map (c :: ·) else [])->
    vV 1 3 4 5 (E_ (Q_ K "list" Bs (eF 2) (iH (Fw (Fd K (u_ (tL o) [] E0 (iH (Q8 T_ (eF 0) (Bp (tC (V.int 1))) tQ) (iH (eF 5) n_)))) gG (qW Bx (eF 4) (eF 0))) n_))) (PyProof.Rows.up1 c) {nx:=Tq (eF 2) {nx:=λx H'=>Q V.non H',rt:=Q},rt:=Q} [some (.str (S (c::ls))),some (.str (S rk)),some (.ref F),v4,v5,v6] H2:=by
   intro H2 ts v4 v5 v6 sm iG ets;let ahl:ts.length<=(fQ (c::ls) rk).length:=by rw[fQ,<-ets,av];lia
   calc⟨rk,RA,wT,?_⟩;by_cases h63:63∈rk
   .rw[if_pos (by rw[u2];show h63)];refine one (PyProof.Rows.up1 c) H2 ts _ _ sm iG (by rw[u2];show h63) (a8 ahl yR) (by rw[u2];show a8 (ac5 h63) yR) λH3 s3 sI=>(q F H3 s3 hF ?_)
    rw[sI,u2,fQ,if_pos h63,ets]
   .rw[if_neg (by rw[u2];show h63)];calc(q F H2 sm hF ?_);rw[iG,fQ,if_neg h63,ets,fS]
  calc⟨rk,RA,wT,?_⟩;rw[u3];by_cases hc:c∈rk
  .rw[if_pos hc];have:=one c H0 [] (vV 1 3 4 5 (E_ (Q_ K "list" Bs (eF 2) (iH (Fw (Fd K (u_ (tL o) [] E0 (iH (Q8 T_ (eF 0) (Bp (tC (V.int 1))) tQ) (iH (eF 5) n_)))) gG (qW Bx (eF 4) (eF 0))) n_))) (PyProof.Rows.up1 c) {nx:=Tq (eF 2) {nx:=λx H'=>Q V.non H',rt:=Q},rt:=Q}) Q s0 xM (by rw[u3];show hc) (by show 0<=900;decide) (by rw[u3];show a8 (ac4 hc) yR) λH3 s3 sI=>two H3 _ _ _ _ s3 sI (by rw[u3,if_pos hc];rfl);rw[u3]at this;show this
  .rw[if_neg hc];show two H0 [] _ _ _ s0 xM (by rw[if_neg hc])
def K_ (D:aJ K mg "sign_texts" jP ["letters","rack"])(DT:aJ K mg "tile_of" rA ["sign"]):bx P w K mg base "sign_texts" 9 ["letters","rack"] (tL 8):=by
 let⟨f,fd,F,b,m⟩:=DT.ex;let T:Gp P w K mg base f fd:=acM F Gs RA RA xc xc xc;let d0:bx P w K mg base "sign_texts" 1 ["letters","rack"] (tL 0):=aaF D λvs H Q E h=>by let⟨ls,rk,_,_,h,_⟩:=h;show absurd h (ke _)
 let st:=λo k hk (h:bx P w K mg base "sign_texts" k ["letters","rack"] (tL o))=>O7 (o:=o) (k:=k) hk D T b m F.kp h;show st 7 8 w_ (st 6 7 w_ (st 5 6 w_ (st 4 5 w_ (st 3 4 w_ (st 2 3 w_ (st 1 2 w_ (st 0 1 w_ d0)))))))
noncomputable def lO (H:Hp)(a:Addr):List bK:=match H a with
 | some (.tup xs)=>xs.map λv=>match v with| .ref b=>tO H b| _=>(0,0,0)
 | _=>[]
def yS (H:Hp)(a:Addr)(ts:List bK):Prop:=∃bs:List Addr,H a=some (.tup (bs.map V.ref))/\dw H bs ts
def Vh (h:yS H a ts):lO H a=ts:=by let⟨bs,h1,h2⟩:=h;unfold lO;rw[h1];show ((bs.map V.ref).map _)=ts;rw[eD,<-h2.eq];rfl
def yS.iC (k:∀a xs,H a=some (.tup xs)->H' a=some (.tup xs))(h:yS H a ts):yS H' a ts:=let ⟨bs,h1,h2⟩:=h;⟨bs,k _ _ h1,h2.iC k⟩
structure gq (H:Hp)(as:List Addr)(ls:List (List bK)):Prop where
 at_:∀a∈as,yS H a (lO H a)
 eq:as.map (lO H)=ls
def gq.iC (k:∀a xs,H a=some (.tup xs)->H' a=some (.tup xs))(h:gq H as ls):gq H' as ls:=by let e:∀a∈as,lO H' a=lO H a:=λa ha=>Vh ((h.at_ a ha).iC k);show⟨λa ha=>by rw[e a ha];show(h.at_ a ha).iC k,by rw[<-h.eq];show gd e⟩
def gq.mv (k:aA H H')(h:gq H as ls):gq H' as ls:=h.iC λa xs e=>k a _ e
def gq.nil:gq H [] []:=⟨λa h=>by simp at h,RA⟩
def gq.app (h:gq H as ls)(g:gq H bs ms):gq H (as++bs) (ls++ms):=by
 calc⟨λb hb=>?_,by rw[bz,h.eq,g.eq]⟩;rcases bd.mp hb with z|z;.show h.at_ b z
 .show g.at_ b z
def gq.one (ha:yS H a ts):gq H [a] [ts]:=⟨λb hb=>by rw[ap.mp hb,Vh ha];show ha,by rw[n5,Vh ha]⟩
def gq.len (h:gq H as ls):as.length=ls.length:=by rw[<-h.eq,ab]
def gq.get (h:gq H as ls)(hi:i<as.length):∃t,ls[i]?=some t/\yS H as[i] t:=⟨lO H as[i],by rw[<-h.eq];simp[hi],h.at_ _ (aI _)⟩
def iu (ts:List bK)(ss:List Nat):List bK:=List.zipWith (λt c=>(t.1,t.2.1,c)) ts ss
def Vi (h1:ts[i]?=some t)(h2:ss[i]?=some c):(iu ts ss).take (i+1)=(iu ts ss).take i++[(t.1,t.2.1,c)]:=by rw[bP];congr 1;unfold iu;rw[List.getElem?_zipWith,h1,h2];rfl
def Ks {ts:List bK}{ss:List Nat}(h:ts.length=ss.length):(iu ts ss).length=ts.length:=by unfold iu;rw[List.length_zipWith];lia
def sJ (ts:List bK):List Nat:=ts.map λt=>t.2.2
def rE (ts:List bK)(rk:List Nat):List (List bK):=(fQ (sJ ts) rk).map (iu ts)
def SJ:Sp:=λvs H Q _=>∃(p:Addr) (as:List Addr) (ts:List bK) (rk:List Nat),vs=[.ref p,.str (S rk)]/\H p=some (.lst (as.map V.ref))/\dw H as ts/\ts.length<=7/\(∀t∈ts,isLet t.2.2)/\rk.length<=100/\(fQ (sJ ts) rk).length<=900/\
 ∀(p':Addr) (as':List Addr) (H':Hp),aA H H'->H p'=none->H' p'=some (.lst (as'.map V.ref))->gq H' as' (rE ts rk)->Q (.ref p') H'
def La (D:aJ K mg "layings_of" pJ ["triples","rack"])(bH:mg "tuple"=none)(vN:mg "zip"=none)(kh:bx P w K mg base "cells_of" 1 ["laying"] (xK K))(uJ:bx P w K mg base "sign_texts" 9 ["letters","rack"] (tL 8)):bx P w K mg base "layings_of" 10 ["triples","rack"] SJ:=by
 calc D.cX nU ?_;walk_at"b";let⟨p,as,ts,rk,rfl,hp,hL,h7,O8,hrk,yR,q⟩:=h;let hal:=hL.len;calc⟨_,(aD (aZ (i:=2) nU.nd RA (Or.inl RA) (aY kh hr.mono RA (aj aH aq))) (aD (aZ (i:=3) nU.nd RA (Or.inl RA) (fH aq)) (aD (d7 cq RA (fD (aY uJ hr.mono RA (aj (eX bS eR eW oM (cF [] xc) (aj (fM (ns:=["row","column","letter"]) RA (fL.of ["triples","rack","cells","layings","signs"] [] xb) (fD aH) (λ_ _ _ _ _=>(mH K RA (show (["row","column","letter","triples","rack","cells","layings","signs"]:List Str).Nodup by decide +kernel) RA RA RA xa xa xa)) (λ_ _ _ _ _=>cH) (λ_ _ _ _ _=>bJ)) aq)) (aj aR aq)))) (bY (i:=4) nU.nd RA (Or.inl RA)) (aF (eE (eX di gg gh jQ cj (aj (cW dU xa bH ci (aj (fM (ns:=["cell","sign"]) RA (fL.of ["triples","rack","cells","layings","signs"] [] xb) (acO xa vN (aj bJ (aj cD aq))) (λ_ _ _ _ _=>(HD K RA (show (["cell","sign","triples","rack","cells","layings","signs"]:List Str).Nodup by decide +kernel) RA RA xa xa)) (λ_ _ _ _ _=>cH) (λ_ _ _ _ _=>(dg (aj (bB (kY K) aH aB (λ_ _=>rfl)) (aj (bB (kY K) aH aB (λ_ _=>rfl)) (aj aR aq)))))) aq)) aq))))) (aF (aW cj))))),?_⟩;calc JE p as ts ⟨RA,.inl (aP.of hp),hL,wT,λpc cs Hc sc hnc hpc hPc=>?_⟩;let hcl:cs.length=ts.length:=by rw[hPc.len,ab]
 calc⟨zsz 0,λF hF=>?_⟩;let s0:aA Hc (upd Hc F (HO.lst [])):=aA.upd hF;let xM:upd Hc F (HO.lst []) F=some (.lst []):=au;generalize upd Hc F (HO.lst [])=H0 at s0 xM ⊢;let hp0:=s0 _ _ (sc _ _ hp);let hL0:=(hL.mv sc).mv s0;refine⟨RA,p,RA,⟨_,aP.of hp0⟩,λL zE=>vU (f:=eY [] 0) (tt:=gG) (xs:=as.map V.ref) (λi ys H6=>ys=Ts (ones ((sJ ts).take i))/\H6 L=some (.lst ys)/\aA H0 H6)
  ⟨RA,au,aA.upd zE⟩ (λi ys H6 _ h=>aP.of (h.2.2 _ _ hp0)) ?_ ?_⟩
 .intro i x ys H6 hx z;let⟨rfl,mz,sm⟩:=z;let⟨hi,hx⟩:=rfg hx;let⟨t,et,hT⟩:=hL0.get hi;calc sS hx.symm (aN.of (sm _ _ hT)) ?_;calc⟨mz,?_,dM.mk (by rw[ab];show hi) ⟨?_,au,sm.bI zE⟩⟩;.rw[ab,ab,be];show aL wT
  .have:(sJ ts)[i]?=some t.2.2:=by unfold sJ;rw[a_,et];rfl
   rw[bP,this,kZ,rB];rfl
 .intro ys H6 z;let⟨rfl,mz,sm⟩:=z;let hsl:(sJ ts).length=ts.length:=ab _;rw[ab,hal,<-hsl,cK]at mz;calc⟨L,ones (sJ ts),RA,RA,aP.of mz,by rw[j_];lia,?_⟩;rw[j_];refine⟨sJ ts,rk,RA,λc hc=>?_,wT,w_,hrk,yR,λpS H1 s1 hn1 hp1=>?_⟩
  .let⟨t,ht,rfl⟩:=aw.mp hc;show O8 t ht
  generalize hTX:fQ (sJ ts) rk=tx at yR hp1;let ahm:∀t∈tx,t.length=ts.length:=λt ht=>by rw[<-hTX]at ht;rw[xO _ _ ht,hsl]
  let sc1:aA Hc H1:=(s0.trans sm).trans s1;let hF1:=s1 _ _ (sm _ _ xM);let nSF:pS≠F:=λz=>by rw[z,sm _ _ xM]at hn1;cases hn1
  refine⟨pS,RA,⟨_,aP.of hp1⟩,lK (K:=K) (a:=pS) (xs:=Ts tx) (λn σ H2=>∃(v4:Option V) (bs:List Addr),σ=[some (.ref p),some (.str (S rk)),some (.ref pc),some (.ref F),v4]/\aA Hc H2/\H2 pS=some (.lst (Ts tx))/\H2 F=some (.lst (bs.map V.ref))/\gq H2 bs ((tx.take n).map (iu ts))/\bs.length=n)
   ⟨none,[],RA,sc1,hp1,hF1,gq.nil,RA⟩ (λn σ H2 _ h=>by let⟨_,_,_,_,h2,_⟩:=h;show aP.of h2) ?_ ?_⟩
  .intro n x σ H2 hx z;let⟨v4,bs,rfl,s2,hp2,iG,hY,jD⟩:=z;let⟨ss,hss,rfl⟩:=rD hx;let hnl:n<(Ts tx).length:=(al.mp hx).1;rw[ab]at hnl;let ahn:=ahm ss (aS hss);let afy:=s2 _ _ hpc;let aho:=hPc.mv s2;refine⟨.inl ⟨RA,_,aP.of iG⟩,pc,ss,RA,⟨_,aP.of afy⟩,λM hM=>afl (f:=eY [] 0) (tt:=gG) (KT:=K) (xs:=cs.map V.ref) (l:=ss) (by rw[ab,hcl,ahn]) (λi zs H6=>∃ds:List Addr,zs=ds.map V.ref/\ds.length=i/\H6 M=some (.lst zs)/\aA H2 H6/\dw H6 ds ((iu ts ss).take i))
    ⟨[],RA,RA,au,aA.upd hM,dw.nil⟩ (λi zs H6 _ h=>by let⟨_,_,_,_,zG,_⟩:=h;show aP.of (zG _ _ afy)) ?_ ?_⟩
   .intro i x c zs H6 T hx hc z hT;let⟨ds,rfl,hdl,xJ,s6,hB⟩:=z;let⟨hi,hx⟩:=rfg hx;subst hx;let⟨cc,ec,hcc⟩:=aho.get hi;obtain⟨t,et,rfl⟩:∃t,ts[i]?=some t/\cA t=cc:=by
     rw[a_]at ec;show eK.mp ec
    let k7:aA H6 (upd H6 T (HO.tup [.ref cs[i],.str (S [c])])):=aA.upd hT;calc abo RA (aN.of au) ?_;let afz:=k7 _ _ (s6 _ _ hcc);let zF:=k7 _ _ xJ;let s7:=s6.trans k7;let hB7:=hB.mv k7;generalize upd H6 T (HO.tup [.ref cs[i],.str (S [c])])=H7 at k7 afz zF s7 hB7 ⊢;let O9:=aN.of (K:=K) afz;calc JI (cs[i]) _ _ _ ⟨RA,RA,O9,aO (j:=0) RA,cs[i],_,_,_,RA,RA,O9,aO (j:=1) RA,zsz 3,λg hg=>?_⟩;let k8:aA H7 (upd H7 g (HO.tup [.int ((cA t).1:Int),.int ((cA t).2:Int),.str (S [c])])):=aA.upd hg;let O6:=k8 _ _ zF;calc⟨O6,by rw[ab,hdl];show aL wT,dM.mk (by rw[ab];show hi) ⟨ds++[g],w8,by simp[hdl],by rw[au],(s7.trans k8).bI hM,?_⟩⟩;rw[Vi et hc];show((hB7.mv k8).snoc (t:=(t.1,t.2.1,c)) au).iC (fu O6)
   .intro zs H6 z;let⟨ds,rfl,hdl,xJ,s6,hB⟩:=z;rw[ab]at hdl;rw[cx (by rw[Ks wT,ab];lia)]at hB;calc⟨M,_,RA,.inl ⟨aP.of xJ,λT hT=>?_⟩⟩;let k7:aA H6 (upd H6 T (HO.tup (ds.map V.ref))):=aA.upd hT;let hF7:=k7 _ _ (s6 _ _ iG);calc JE F _ _ ⟨RA,RA,hF7,by rw[ab,jD];show aL wT,?_⟩;calc⟨_,bs++[T],RA,((s2.trans s6).trans k7).bI hF,by rw[bw nSF];show k7 _ _ (s6 _ _ hp2),by rw[au,bz];rfl,?_,by simp[jD]⟩;rw[bP,hss,bz];show(((hY.mv s6).mv k7).app (gq.one (ts:=iu ts ss) ⟨ds,au,hB.mv k7⟩)).iC (fu hF7)
  .intro σ H2 z;let⟨v4,bs,rfl,s2,hp2,iG,hY,jD⟩:=z;rw[ab,cK]at hY;calc(q F bs H2 (sc.trans s2) (sc.free hF) iG ?_);unfold rE;rw[hTX];show hY
def Ay {ak:AA}{r w i j:Nat}{l:List Nat}(h:t∈cT ak r w i j l):∃k,k<l.length/\t=(i,j+k,l.getD k 0)/\atC ak r w i ((j+k:Nat):Int)=46:=by
 unfold cT at h;split at h
 .unfold mR at h;let⟨k,hk,e⟩:=nK.mp h;unfold pW at e;split at e
  .rename_i R_;show⟨k,bE.mp hk,(bb e).symm,R_⟩
  .cases e
 .simp at h
def G3 {ak:AA}{r w i j:Nat}{l:List Nat}(hi:i<r)(hj:j<w+1-l.length)(h:t∈cT ak r w i j l):cA t∈qT ak r w:=by let⟨k,hk,rfl,R_⟩:=Ay h;show Ek.mpr ⟨⟨hi,by show j+k<w;(simp[fz,gT]at *;lia)⟩,R_⟩
def Az {ak:AA}{r w i j:Nat}{l:List Nat}(hl:lq l)(h:t∈cT ak r w i j l):isLet t.2.2:=by let⟨k,hk,rfl,_⟩:=Ay h;show isLet (l.getD k 0);rw[ai,ae hk];show hl.az _ (aI _)
def Yh (ak)(r w i j)(l):(cT ak r w i j l).length<=l.length:=by
 unfold cT;split;.show Kr ..
 .show cw _
noncomputable def rQ (fit:Nat×Nat->List Nat)(hk:List (Nat×Nat))(ak:AA)(r w:Nat)(rk l:List Nat)(c:Nat×Nat):List (List bK):=if qF fit hk (cT ak r w c.1 c.2 l)=true then rE (cT ak r w c.1 c.2 l) rk else []
noncomputable def vO (fit:Nat×Nat->List Nat)(hk:List (Nat×Nat))(ak:AA)(r w:Nat)(rk l:List Nat):List (List bK):=(ig r w l.length).flatMap (rQ fit hk ak r w rk l)
noncomputable def iw (ws:AA)(hk:List (Nat×Nat))(ak:AA)(r w:Nat)(rk:List Nat)(us:AA):List (List bK):=us.flatMap (vO (pX ws ak) hk ak r w rk)
theorem Cu {α β:Type}{f:α->List β}{b:Nat}:∀{l:List α},(∀x∈l,(f x).length<=b)->(l.flatMap f).length<=l.length*b
 | [],_=>by simp
 | x::l,h=>by rw[List.flatMap_cons,av,bt,tF];have:=h x aE;have:=Cu (l:=l) λy hy=>h y (ay _ hy);lia
def aaG {hk:List (Nat×Nat)}{ak:AA}{r w g:Nat}{rk l:List Nat}(hg:∀ls,(fQ ls rk).length<=g)(c:Nat×Nat):(rQ fit hk ak r w rk l c).length<=g:=by
 unfold rQ;split;.unfold rE;rw[ab];show hg _
 .show cw _
def Ku {hk:List (Nat×Nat)}{ak:AA}{r w g:Nat}{rk l:List Nat}(hg:∀ls,(fQ ls rk).length<=g)(hl:1<=l.length):(vO fit hk ak r w rk l).length<=r*w*g:=by unfold vO;calc a8 (Cu λc _=>aaG hg c) ?_;rw[yP];show ko _ (Nat.mul_le_mul_left _ (by simp_all))
def Kv {α β:Type}{f:α->List β}{l:List α}{n:Nat}{x:α}(h:l[n]?=some x):(l.take (n+1)).flatMap f=(l.take n).flatMap f++f x:=by rw[bP,h,pT];simp
def O_ (C CB:Addr):Sp:=λvs H Q _=>∃(b k d:Addr) (ws:AA) (r w:Nat) (ak aK:AA) (bi bj g:Nat) (rk:List Nat),vs=[.ref b,.ref k,.str (S rk)]/\dG C H b r w ak aK bi bj/\kO CB H k d ws/\ws.length<64/\rk.length<=100/\(∀ls,(fQ ls rk).length<=g)/\g<=900/\ws.length*(r*w*g)<=1999/\
 ∀(p:Addr) (as:List Addr) (us:AA) (H':Hp),aA H H'->H p=none->H' p=some (.lst (as.map V.ref))->us.Perm ws->gq H' as (iw ws (cM ak r w bi bj) ak r w rk us)->as.length<=1999->Q (.ref p) H'
def CK (D:aJ K mg "layings_across" j8 ["board","book","rack"])(uH:oR K CB)(uK:Meth K CB "words" f2)(uL:cJ P w K mg base fG 1 f2 fd2 ["self"] (Io CB))(uM:cu K fd2 ["self"] [])(I_:bx P w K mg base "letters_down" 11 ["board","book"] (Yg C CB))(Ja:bx P w K mg base "hooks" 5 ["board"] (Cq C))(aaH:bx P w K mg base "starts" 1 ["board","word"] (OJ C))(El:bx P w K mg base "letters_to_lay" 4 ["board","row","column","word"] (Sy C))(Lb:bx P w K mg base "can_be_laid" 2 ["triples","fitting","joining"] (abx K))(Pa:bx P w K mg base "layings_of" 10 ["triples","rack"] SJ):bx P w K mg base "layings_across" 12 ["board","book","rack"] (O_ C CB):=by
 calc D.cX dX ?_;walk_at"b";let⟨b,k,d,ws,r,w,ak,aK,bi,bj,g,rk,rfl,B,BK,Em,hrk,hg,SM,hbd,q⟩:=h;let O:=B.ok;calc⟨_,(aD (aZ (i:=3) dX.nd RA (Or.inl RA) (aY I_ hr.mono RA (aj aH (aj aR aq)))) (aD (aZ (i:=4) dX.nd RA (Or.inl RA) (aY Ja hr.mono RA (aj aH aq))) (aD (aZ (i:=5) dX.nd RA (Or.inl RA) (fH aq)) (aD (d7 cq RA (fJ (ud aR uH.cl uK uL hr.mono uM .nil fZ)) (bY (i:=6) dX.nd RA (Or.inl RA)) (aF (d7 cq RA (fD (aY aaH hr.mono RA (aj aH (aj f9 aq)))) (o_ RA (cU (bY (i:=7) dX.nd RA (Or.inl RA)) (cU (bY (i:=8) dX.nd RA (Or.inl RA)) mG))) (aD (aZ (i:=9) dX.nd RA (Or.inl RA) (aY El hr.mono RA (aj aH (aj jV (aj iI (aj f9 aq)))))) (aF (cC (cO (aY Lb hr.mono RA (aj jW (aj cj (aj cD aq))))) (aF (eE (eX di ki km qX d8 (aj (aY Pa hr.mono RA (aj jW (aj bJ aq))) aq)))) bQ)))))) (aF (aW d8)))))),?_⟩;calc JS b k d ws r w ak aK ⟨bi,bj,RA,B,BK,λpd kvs H1 s1 hn1 hd1 hkv=>?_⟩;calc JP b r w ak aK bi bj ⟨RA,B.mv s1,λpj js H2 s2 hj2 hJ2=>?_⟩;let sj:=s1.trans s2;let hd2:=s2 _ _ hd1;calc⟨zsz 0,λF hF=>?_⟩;let s0:aA H2 (upd H2 F (HO.lst [])):=aA.upd hF;let xM:upd H2 F (HO.lst []) F=some (.lst []):=au;generalize upd H2 F (HO.lst [])=H0 at s0 xM ⊢;let BK0:=BK.same (sj.trans s0);let⟨dk,ek⟩:=BK0.ob;calc JE k dk _ ⟨RA,ek,RA,k,d,ws,RA,BK0,Em,λpu us H3 s3 hnu hpu pm _=>?_⟩;let s23:=s0.trans s3;let sI:=s3 _ _ xM;let hul:us.length=ws.length:=pm.length_eq;let huw:∀l∈us,lq l:=λl hl=>BK.az l (pm.mem_iff.mp hl);let aby:4000<=sizeLine:=by decide
 refine⟨pu,RA,⟨_,aN.of hpu⟩,qp (K:=K) (a:=pu) (xs:=Ts us) (λn σ H4=>∃(v6 v7 v8 v9:Option V) (as:List Addr),σ=[some (.ref b),some (.ref k),some (.str (S rk)),some (.ref pd),some (.ref pj),some (.ref F),v6,v7,v8,v9]/\aA H2 H4/\H4 pu=some (.tup (Ts us))/\H4 F=some (.lst (as.map V.ref))/\gq H4 as ((us.take n).flatMap (vO (pX ws ak) (cM ak r w bi bj) ak r w rk)))
  (JJ none none none none [] ⟨RA,s23,hpu,sI,gq.nil⟩) (λn σ H4 _ h=>by let⟨_,_,_,_,_,_,_,h2,_⟩:=h;show aN.of h2) ?_ ?_⟩
 .intro n x σ H4 hx z;let⟨v6,v7,v8,v9,as,rfl,s4,Yi,qg,hY⟩:=z;let⟨l,hl,rfl⟩:=rD hx;let hnl:n<us.length:=(al.mp hl).1;let hW:=huw l (aS hl);let hl2:=hW.lo;let hl9:=hW.hi;let hal:as.length<=n*(r*w*g):=by
   rw[hY.len];calc a8 (Cu (b:=r*w*g) λx hx=>Ku hg (by have:=(huw x (fT hx)).lo;show aT this)) ?_;show ko _ (by rw[be];show qf _ _)
  let hbig:(n+1)*(r*w*g)<=1999:=a8 (ko _ wT) hbd;let B4:=B.mv (sj.trans s4);calc JS b r w ak aK bi bj l ⟨RA,B4,hl9,λps cs H5 s5 hn5 XC Sx=>?_⟩;let s25:=s4.trans s5;let hF5:=s5 _ _ qg;let nsF:ps≠F:=λz=>by rw[z,qg]at hn5;cases hn5
  let hcl:cs.length<=r*w:=by rw[Sx.len,yP];show Nat.mul_le_mul_left _ (jS wT)
  refine⟨ps,RA,⟨_,aP.of XC⟩,lK (K:=K) (a:=ps) (xs:=cs.map V.ref) (λm σ H6=>∃(v7 v8 v9:Option V) (bs:List Addr),σ=[some (.ref b),some (.ref k),some (.str (S rk)),some (.ref pd),some (.ref pj),some (.ref F),some (.str (S l)),v7,v8,v9]/\aA H2 H6/\H6 pu=some (.tup (Ts us))/\H6 ps=some (.lst (cs.map V.ref))/\dY H6 cs (ig r w l.length)/\H6 F=some (.lst (bs.map V.ref))/\
    gq H6 bs ((us.take n).flatMap (vO (pX ws ak) (cM ak r w bi bj) ak r w rk)++((ig r w l.length).take m).flatMap (rQ (pX ws ak) (cM ak r w bi bj) ak r w rk l))/\bs.length<=as.length+m*g)
   (JI v7 v8 v9 as ⟨RA,s25,s5 _ _ Yi,XC,Sx,hF5,by simpa using hY.mv s5,wT⟩) (λm σ H6 _ h=>by let⟨_,_,_,_,_,_,_,h2,_⟩:=h;show aP.of h2) ?_ ?_⟩
  .intro m x σ H6 hx z;let⟨v7,v8,v9,bs,rfl,s6,hu6,Gm,Yj,hF6,G4,hb6⟩:=z;let⟨hi,hx⟩:=rfg hx;subst hx;let⟨c,ec,hc⟩:=Yj.get hi;let⟨hc1,hc2⟩:=yO.mp (aS ec);let hmg:as.length+(m+1)*g<=1999:=by
    let h1:(m+1)*g<=r*w*g:=ko _ wT;let h2:(n+1)*(r*w*g)=n*(r*w*g)+r*w*g:=tF _ _;lia
   let ahP:(m+1)*g=m*g+g:=tF _ _;calc⟨cs[m],_,RA,aN.of hc,RA,_,_,RA,_,_,RA,RA,?_⟩;let B6:=B.mv (sj.trans s6);calc JS b r w ak aK bi bj c.1 ⟨c.2,l,RA,B6,by have:=O.w9;(simp[fz,gT]at *;lia),hl9,λpt ats H7 s7 hn7 O1 hT7=>?_⟩;let s27:=s6.trans s7;let hF7:=s7 _ _ hF6;let ntF:pt≠F:=λz=>by rw[z,hF6]at hn7;cases hn7
   let htl:=Yh ak r w c.1 c.2 l;let hfree:∀t∈cT ak r w c.1 c.2 l,cA t∈qT ak r w:=λt ht=>G3 hc1 hc2 ht;calc JS pt pd pj ats js (cT ak r w c.1 c.2 l) kvs (pX ws ak) ⟨cM ak r w bi bj,RA,O1,hT7,wT,s27 _ _ hd2,λt ht=>hkv _ (hfree t ht),s27 _ _ hj2,hJ2.mv s27,λH8 s8=>(aU _ RA ?_)⟩;let s28:=s27.trans s8;let hF8:=s8 _ _ hF7;let keep:∀(H9:Hp) (cs':List Addr),aA H8 H9->gq H9 cs' (rQ (pX ws ak) (cM ak r w bi bj) ak r w rk l c)->gq H9 (bs++cs') ((us.take n).flatMap (vO (pX ws ak) (cM ak r w bi bj) ak r w rk)++((ig r w l.length).take (m+1)).flatMap (rQ (pX ws ak) (cM ak r w bi bj) ak r w rk l)):=λH9 cs' s9 hY'=>by rw[Kv ec,<-bv];show(((G4.mv s7).mv s8).mv s9).app hY'
   by_cases hcan:qF (pX ws ak) (cM ak r w bi bj) (cT ak r w c.1 c.2 l)=true
   .rw[hcan];let h7:(cT ak r w c.1 c.2 l).length<=7:=by
     unfold qF at hcan;simp only[df,im]at hcan;show hcan.1.2
    let aaI:rQ (pX ws ak) (cM ak r w bi bj) ak r w rk l c=rE (cT ak r w c.1 c.2 l) rk:=by unfold rQ;rw[if_pos hcan]
    calc cQ ⟨.inl ⟨RA,_,aP.of hF8⟩,pt,ats,cT ak r w c.1 c.2 l,rk,RA,s8 _ _ O1,hT7.mv s8,h7,λt ht=>Az hW ht,hrk,a8 (hg _) SM,λpl ls H9 s9 hn9 hp9 hY9=>?_⟩;let hF9:=s9 _ _ hF8;let hll:ls.length<=g:=by rw[hY9.len];unfold rE;rw[ab];show hg _
    calc JI F pl _ _ ⟨RA,RA,hF9,hp9,by rw[ab,ab];lia,?_⟩;calc JI _ _ _ (bs++ls) ⟨RA,(s28.trans s9).bI hF,?_,by rw[bw nsF];show s9 _ _ (s8 _ _ (s7 _ _ Gm)),?_,by rw[au,bz],?_,by rw[av];lia⟩;.show fu hF9 _ _ (s9 _ _ (s8 _ _ (s7 _ _ hu6)))
    .show(((Yj.mv s7).mv s8).mv s9).iC (fu hF9)
    .show(keep H9 ls s9 (by rw[aaI];show hY9)).iC (fu hF9)
   .rw[rV.mpr hcan];let aaI:rQ (pX ws ak) (cM ak r w bi bj) ak r w rk l c=[]:=by unfold rQ;rw[if_neg hcan]
    calc bZ (JI _ _ _ bs ⟨RA,s28,s8 _ _ (s7 _ _ hu6),s8 _ _ (s7 _ _ Gm),(Yj.mv s7).mv s8,hF8,?_,wT⟩);have:=keep H8 [] (aA.refl _) (by rw[aaI];show gq.nil);rw[fS]at this;show this
  .intro σ H6 z;let⟨v7,v8,v9,bs,rfl,s6,hu6,Gm,Yj,hF6,G4,hb6⟩:=z;calc JJ _ _ _ _ bs ⟨RA,s6,hu6,hF6,?_⟩;rw[ab,Yj.len,cK]at G4;rw[Kv hl];show G4
 .intro σ H4 z;let⟨v6,v7,v8,v9,as,rfl,s4,Yi,qg,hY⟩:=z;rw[ab,cK]at hY;let hal:as.length<=1999:=by
   rw[hY.len];calc a8 (Cu (b:=r*w*g) λx hx=>Ku hg (by have:=(huw x hx).lo;lia)) ?_;rw[hul];show hbd
  show(q F as us H4 (sj.trans s4) (sj.free hF) qg pm hY hal)
def cell (R:AA)(i j:Nat):Nat:=(R.getD i []).getD j 0
def cell_eq {R:AA}(hi:i<R.length)(hj:j<R[i].length):cell R i j=R[i][j]:=by unfold cell;rw[ai (l:=R),ae hi];show (R[i]).getD j 0=_;rw[ai,ae hj];rfl
def oW {r w:Nat}{ak:AA}(hb:Blk r w ak){i j:Nat}(hi:i<r)(hj:j<w):cell (bL ak w) j i=cell ak i j:=by
 let hi':i<ak.length:=by rw[hb.len];show hi
 unfold cell;rw[show (bL ak w).getD j []=fj ak j by
  unfold bL;rw[ai,a_,gL hj];rfl]
 unfold fj;rw[ai,a_,ae hi',ai (l:=ak),ae hi'];rfl
def ac6 {r w:Nat}{ak:AA}(hb:Blk r w ak){i j:Nat}(hi:i<r)(hj:j<w):atC (bL ak w) w r (j:Int) (i:Int)=atC ak r w (i:Int) (j:Int):=by unfold atC;rw[if_pos ⟨wT,oB gx hj,wT,wT⟩,if_pos ⟨wT,wT,wT,wT⟩];show oW hb hi hj
def yU (ak):isFree ak=true↔∀l∈ak,∀c∈l,c=46:=by
 unfold isFree;rw[gv];constructor
 .intro h l hl c hc;simpa using h c (sx.mpr ⟨l,hl,hc⟩)
 .intro h c hc;let⟨l,hl,hcl⟩:=sx.mp hc;simpa using h l hl c hcl
def Yk {r w:Nat}{ak:AA}(hb:Blk r w ak):isFree (bL ak w)=isFree ak:=by
 cases h1:isFree ak with
 | true=>show(yU _).mpr (yK hb ((yU _).mp h1))
 | false=>
  cases h2:isFree (bL ak w) with| false=>rfl| true=>have:=yK (jA hb) ((yU _).mp h2);rw[Kp hb]at this;rw[(yU _).mpr this]at h1;cases h1
def En {r w:Nat}{ak:AA}(hb:Blk r w ak)(u v:Int):atC (bL ak w) w r v u=atC ak r w u v:=by
 by_cases h:0<=u/\u<r/\0<=v/\v<w
 .obtain⟨i,rfl⟩:∃k:Nat,u=k:=⟨u.toNat,wT⟩
  obtain⟨j,rfl⟩:∃k:Nat,v=k:=⟨v.toNat,wT⟩
  show ac6 hb (by simp_all) (by simp_all)
 .let e1:atC ak r w u v=46:=if_neg h;let e2:atC (bL ak w) w r v u=46:=if_neg λz=>h ⟨z.2.2.1,z.2.2.2,z.1,z.2.1⟩;rw[e1,e2]
def ac7 {r w:Nat}{ak:AA}(hb:Blk r w ak)(u v:Int):Ax (bL ak w) w r v u=Ax ak r w u v:=by unfold Ax poss;simp only[nw,List.any_nil,sd,En hb];generalize (!decide ([atC ak r w u (v-1)]=[46]))=a;generalize (!decide ([atC ak r w u (v+1)]=[46]))=b;generalize (!decide ([atC ak r w (u-1) v]=[46]))=c;generalize (!decide ([atC ak r w (u+1) v]=[46]))=d;cases a <;> cases b <;> cases c <;> cases d <;> rfl
def Eo {ak:AA}{r w:Nat}{c:Nat×Nat}:c∈vM ak r w↔(c.1<r/\c.2<w)/\frB ak r w c=true/\Dm ak r w c=true:=by unfold vM;rw[kR,Yc,df]
def Yl {r w:Nat}{ak:AA}(hb:Blk r w ak)(i j:Nat):(j,i)∈vM (bL ak w) w r↔(i,j)∈vM ak r w:=by
 rw[Eo,Eo];let e1:frB (bL ak w) w r (j,i)=frB ak r w (i,j):=by unfold frB;rw[En hb]
 let e2:Dm (bL ak w) w r (j,i)=Dm ak r w (i,j):=ac7 hb _ _;rw[e1,e2];show⟨λ⟨⟨a,b⟩,c⟩=>⟨⟨b,a⟩,c⟩,λ⟨⟨a,b⟩,c⟩=>⟨⟨b,a⟩,c⟩⟩
theorem Ep:∀(ls rk:List Nat) {t:List Nat},(∀c∈ls,isLet c)->t∈fQ ls rk->∀c∈t,uE c
 | [],_,t,_,h,c,hc=>by rw[ap.mp h]at hc;simp at hc
 | d::ls,rk,t,hl,h,c,hc=>by
  let hd:=hl d aE;let hl':∀c∈ls,isLet c:=λc hc=>hl c (ay _ hc);unfold fQ at h;rcases bd.mp h with z|z
  .split at z
   .let⟨u,hu,rfl⟩:=aw.mp z;rcases ba.mp hc with e|e;.rw[e];show Xq hd
    .show Ep ls _ hl' hu c e
   .simp at z
  .split at z
   .let⟨u,hu,rfl⟩:=aw.mp z;rcases ba.mp hc with e|e;.rw[e,(IW hd).1];show Xr hd
    .show Ep ls _ hl' hu c e
   .simp at z
theorem Er:∀{ts:List bK} {ss:List Nat},ts.length=ss.length->(iu ts ss).map cA=ts.map cA/\sJ (iu ts ss)=ss
 | [],[],_=>⟨RA,RA⟩
 | [],_::_,h=>by simp at h
 | _::_,[],h=>by simp at h
 | t::ts,c::ss,h=>by
  let ih:=Er (ts:=ts) (ss:=ss) (by simpa using h);constructor
  .show cA t::(iu ts ss).map cA=cA t::ts.map cA;rw[ih.1]
  .show c::sJ (iu ts ss)=c::ss;rw[ih.2]
theorem A_ (ak)(r w i j)(l):∀n,((mR ak r w i j l n).map λt=>t.2.1).Pairwise (·<·)/\∀t∈mR ak r w i j l n,t.1=i/\t.2.1<j+n
 | 0=>⟨List.Pairwise.nil,λt h=>by simp[mR]at h⟩
 | n+1=>by
  let⟨h1,h2⟩:=A_ ak r w i j l n;rw[yQ];cases e:pW ak r w i j l n with
  | none=>simp only[Option.toList_none,fS];show⟨h1,λt ht=>⟨(h2 t ht).1,fF (h2 t ht).2⟩⟩
  | some u=>
   let eu:u=(i,j+n,l.getD n 0):=by
    unfold pW at e;split at e;.show(bb e).symm
    .cases e
   subst eu;simp only[Option.toList_some];constructor
   .rw[bz,f7];calc⟨h1,w8,λa ha b hb=>?_⟩;let⟨t,ht,rfl⟩:=aw.mp ha;simp only[b6,mh,ap]at hb;rw[hb];show(h2 t ht).2
   .intro t ht;rcases bd.mp ht with z|z;.show⟨(h2 t z).1,fF (h2 t z).2⟩
    .rw[ap.mp z];show⟨RA,f8 _⟩
def Ym (ak)(r w i j)(l):((cT ak r w i j l).map λt=>t.2.1).Pairwise (·<·)/\∀t∈cT ak r w i j l,t.1=i:=by
 unfold cT;split;.show⟨(A_ ak r w i j l _).1,λt ht=>((A_ ak r w i j l _).2 t ht).1⟩
 .show⟨List.Pairwise.nil,λt h=>by simp at h⟩
structure fO (ak:AA)(r w:Nat)(hk:List (Nat×Nat))(ts:List bK):Prop where
 ne:ts≠[]
 len:ts.length<=7
 cell:∀t∈ts,t.1<r/\t.2.1<w/\atC ak r w t.1 t.2.1=46/\uE t.2.2
 row:∃i,∀t∈ts,t.1=i
 col:(ts.map λt=>t.2.1).Pairwise (·<·)
 hook:∃t∈ts,cA t∈hk
def rF {ws us:AA}{hk:List (Nat×Nat)}{ak:AA}{r w:Nat}{rk:List Nat}(hw:∀l∈us,lq l)(h:x∈iw ws hk ak r w rk us):fO ak r w hk x:=by
 unfold iw at h;let⟨l,hl,h⟩:=ga.mp h;unfold vO at h;let⟨c,hc,h⟩:=ga.mp h;let⟨hc1,hc2⟩:=yO.mp hc;unfold rQ at h;split at h
 .rename_i hcan;unfold rE at h;let⟨ss,hss,rfl⟩:=aw.mp h;let bW:(cT ak r w c.1 c.2 l).length=ss.length:=by rw[xO _ _ hss];unfold sJ;rw[ab]
  let⟨e1,e2⟩:=Er bW;let ll:=Ks bW;unfold qF at hcan;simp only[df,im]at hcan;obtain⟨⟨n1,n7⟩,_,hany⟩:=hcan;let⟨k1,k2⟩:=Ym ak r w c.1 c.2 l;let O8:∀d∈sJ (cT ak r w c.1 c.2 l),isLet d:=λd hd=>by let⟨t,ht,rfl⟩:=aw.mp hd;show Az (hw l hl) ht
  let back:∀t∈iu (cT ak r w c.1 c.2 l) ss,∃t'∈cT ak r w c.1 c.2 l,cA t'=cA t:=λt ht=>by
   have:cA t∈(cT ak r w c.1 c.2 l).map cA:=by rw[<-e1];show cz ht
   let⟨t',h1,h2⟩:=aw.mp this;show⟨t',h1,h2⟩
  calc⟨λz=>?_,wT,λt ht=>?_,⟨c.1,λt ht=>?_⟩,?_,?_⟩;.rw[z]at ll;simp at ll;lia
  .let⟨t',h1,h2⟩:=back t ht;let hf:=Ek.mp (G3 hc1 hc2 h1);rw[h2]at hf;show⟨hf.1.1,hf.1.2,hf.2,Ep _ _ O8 hss _ (by rw[<-e2];show cz (f:=λt:bK=>t.2.2) ht)⟩
  .let⟨t',h1,h2⟩:=back t ht;have:=k2 t' h1;let h3:(cA t').1=(cA t).1:=by rw[h2]
   let h3:t'.1=t.1:=h3;lia
  .let e3:(iu (cT ak r w c.1 c.2 l) ss).map (λt=>t.2.1)=(cT ak r w c.1 c.2 l).map λt=>t.2.1:=by
    have:=congrArg (List.map Prod.snd) e1;rw[eD,eD]at this;show this
   rw[e3];show k1
  .let⟨t',h1,h2⟩:=sh.mp hany;let h2:=gI h2;have:cA t'∈(iu (cT ak r w c.1 c.2 l) ss).map cA:=by rw[e1];show cz h1
   let⟨t,ht,e⟩:=aw.mp this;show⟨t,ht,by rw[e];show h2⟩
 .simp at h
def fO.rk {ak:AA}{r w:Nat}{hk:List (Nat×Nat)}(h:fO ak r w hk ts):(ts.map My.rk).Pairwise (·<·):=by let⟨i,hi⟩:=h.row;let hc:=h.col;rw[ed]at hc ⊢;calc mI (λ{a b} ha hb hab=>?_) hc;unfold My.rk;rw[hi a ha,hi b hb];show tS hab _
def fO.rkw {ak:AA}{r w:Nat}{hk:List (Nat×Nat)}(h:fO ak r w hk ts):((ts.map sw).map My.rk).Pairwise (·<·):=by let⟨i,hi⟩:=h.row;let hc:=h.col;rw[eD,ed];rw[ed]at hc;calc mI (λ{a b} ha hb hab=>?_) hc;show a.2.1*1000+a.1<b.2.1*1000+b.1;rw[hi a ha,hi b hb];simp_all
structure Cv (ak:AA)(r w:Nat)(hk:List (Nat×Nat))(ts:List bK):Prop where
 ne:ts≠[]
 len:ts.length<=7
 cell:∀t∈ts,t.1<r/\t.2.1<w/\atC ak r w t.1 t.2.1=46/\uE t.2.2
 rk:(ts.map My.rk).Pairwise (·<·)
 hook:∃t∈ts,cA t∈hk
def QJ {r w bi bj:Nat}{ak:AA}(hb:Blk r w ak){c:Nat×Nat}(h:c∈cM (bL ak w) w r bj bi):(c.2,c.1)∈cM ak r w bi bj:=by
 unfold cM at h ⊢;rw[Yk hb]at h;split at h
 .rename_i hf;rw[if_pos hf];rw[ap.mp h];show ap.mpr rfl
 .rename_i hf;rw[if_neg hf];show(Yl hb c.2 c.1).mp h
noncomputable def Jb (ws:AA)(ak:AA)(r w bi bj:Nat)(rk:List Nat):List (List bK):=iw ws (cM ak r w bi bj) ak r w rk ws++(iw ws (cM (bL ak w) w r bj bi) (bL ak w) w r rk ws).map λts=>ts.map sw
def fO.ok {ak:AA}{r w:Nat}{hk:List (Nat×Nat)}(h:fO ak r w hk ts):Cv ak r w hk ts:=⟨h.ne,h.len,h.cell,h.rk,h.hook⟩
def fO.down {ak:AA}{r w bi bj:Nat}(hb:Blk r w ak)(h:fO (bL ak w) w r (cM (bL ak w) w r bj bi) ts):Cv ak r w (cM ak r w bi bj) (ts.map sw):=by
 refine⟨λz=>h.ne (pM.mp z),by rw[ab];show h.len,λt ht=>?_,h.rkw,?_⟩
 .let⟨u,hu,rfl⟩:=aw.mp ht;let⟨a,b,c,d⟩:=h.cell u hu;rw[En hb]at c;show⟨b,a,c,d⟩
 .let⟨t,ht,hh⟩:=h.hook;show⟨sw t,cz ht,QJ hb hh⟩
def SN {ws:AA}{ak:AA}{r w bi bj:Nat}{rk:List Nat}(hb:Blk r w ak)(hw:∀l∈ws,lq l)(h:x∈Jb ws ak r w bi bj rk):Cv ak r w (cM ak r w bi bj) x:=by
 unfold Jb at h;rcases bd.mp h with z|z;.show(rF hw z).ok
 .let⟨u,hu,rfl⟩:=aw.mp z;show(rF hw hu).down hb
theorem Cv.Dj {ak:AA}{r w:Nat}{hk:List (Nat×Nat)}(h:Cv ak r w hk ts)(r9:r<=9)(w9:w<=9):∀t∈ts,Dj t:=λt ht=>by let⟨a,b,_,d⟩:=h.cell t ht;show⟨bu a r9,bu b w9,d.lt⟩
def yS.lay (h:yS H a ts)(hne:ts≠[])(ok:∀t∈ts,Dj t):rM K H a ts:=by
 let⟨bs,h1,h2⟩:=h;calc⟨?_,hne,λt ht=>⟨by have:=(ok t ht).2.1;lia,(ok t ht).2.2⟩⟩;calc .tup (aN.of h1) ?_;let key:∀bs:List Addr,(∀b∈bs,Aw H b (tO H b)/\(tO H b).2.2<128)->dJ K H 1 ((bs.map (tO H)).map lE) (bs.map V.ref):=by
  intro bs
  induction bs with| nil=>show λ_=>.nil| cons b bs ih=>intro hb;let⟨hT,hz⟩:=hb b aE;show .cons (.tup (aN.of hT) (.cons (.int _) (.cons (.int _) (.cons (.str _ λc hc=>by rw[ap.mp hc];show hz) .nil)))) (ih λx hx=>hb x (ay _ hx))
 have:=key bs λb hb=>⟨h2.at_ b hb,(ok _ (by rw[<-h2.eq];show cz hb)).2.2⟩
 rw[h2.eq]at this;show this
theorem abz:∀{as bs:List bK},(as.map My.rk).Pairwise (·<·)->(bs.map My.rk).Pairwise (·<·)->as.Perm bs->as=bs
 | [],bs,_,_,p=>(List.nil_perm.mp p).symm ▸ rfl
 | a::as,[],_,_,p=>absurd p.length_eq w8
 | a::as,b::bs,ha,hb,p=>by
  let ha0:=h8.mp ha;let hb0:=h8.mp hb;let e:a=b:=by
   rcases ba.mp (p.mem_iff.mp (aE (a:=a) (l:=as))) with z|z;.show z
   .rcases ba.mp (p.mem_iff.mpr (aE (a:=b) (l:=bs))) with y|y;.show y.symm
    .let h1:=hb0.1 (My.rk a) (cz z);let h2:=ha0.1 (My.rk b) (cz y);lia
  subst e;rw[abz ha0.2 hb0.2 ((List.perm_cons _).mp p)]
def wk {ws us:AA}{hk:List (Nat×Nat)}{ak:AA}{r w:Nat}{rk:List Nat}(p:us.Perm ws)(x:List bK):x∈iw ws hk ak r w rk us↔x∈iw ws hk ak r w rk ws:=by unfold iw;rw[ga,ga];show⟨λ⟨l,h1,h2⟩=>⟨l,p.mem_iff.mp h1,h2⟩,λ⟨l,h1,h2⟩=>⟨l,p.mem_iff.mpr h1,h2⟩⟩
def abA (C CB:Addr):Sp:=λvs H Q _=>∃(b k d:Addr) (ws:AA) (r w:Nat) (ak aK:AA) (bi bj g:Nat) (rk:List Nat),vs=[.ref b,.ref k,.str (S rk)]/\dG C H b r w ak aK bi bj/\kO CB H k d ws/\ws.length<64/\rk.length<=100/\(∀ls,(fQ ls rk).length<=g)/\g<=900/\ws.length*(r*w*g)<=1999/\
 ∀(p:Addr) (as:List Addr) (L:List (List bK)) (H':Hp),aA H H'->H' p=some (.tup (as.map V.ref))->gq H' as L->NT L->L.Nodup->L.length<=3998->(∀x,x∈L↔x∈Jb ws ak r w bi bj rk)->Q (.ref p) H'
def Jc (D:aJ K mg "all_layings" nW ["board","book","rack"])(G5:mg "set"=none)(dZ:mg "sorted"=none)(bH:mg "tuple"=none)(bF:dF K C)(Jd:Meth K C "turned" f3)(Je:cJ P w K mg base fG 8 f3 Dk ["self"] (Oq C))(Jf:cu K Dk ["self"] [])(uN:bx P w K mg base "layings_across" 12 ["board","book","rack"] (O_ C CB))(G6:bx P w K mg base "turned_laying" 1 ["laying"] Yd):bx P w K mg base "all_layings" 13 ["board","book","rack"] (abA C CB):=by
 calc D.cX qz ?_;walk_at"b";let⟨b,k,d,ws,r,w',ak,aK,bi,bj,g,rk,rfl,B,BK,Em,hrk,hg,SM,hbd,q⟩:=h;let O:=B.ok;let aby:4000<=sizeLine:=by decide
 calc⟨_,(aD (aZ (i:=3) qz.nd RA (Or.inl RA) (aY uN hr.mono RA (aj aH (aj aR (aj bJ aq))))) (aD (Ro (ix:=4) (ns:=["laying"]) qz.nd RA (Or.inl RA) RA (fL.of ["board","book","rack","across","down"] [] xb) (fD (aY uN hr.mono RA (aj (ud aH bF.cl Jd Je hr.mono Jf .nil fZ) (aj aR (aj bJ aq))))) (λ_ _ _ _ _=>(tR (show (["laying","board","book","rack","across","down"]:List Str).Nodup by decide +kernel) RA xa)) (λ_ _ _ _ _=>cH) (λ_ _ _ _ _=>(aY G6 hr.mono RA (aj aH aq)))) (aF (aW (cW dU xa bH ci (aj (aQ (Cz RA hr.units) xa dZ ib (aj (cW (Qm RA hr.units) xa G5 PyProof.Rows.boot_set (aj (aX aev cj cD) aq)) aq)) aq)))))),?_⟩;calc JS b k d ws r w' ak aK ⟨bi,bj,g,rk,RA,B,BK,Em,hrk,hg,SM,hbd,λp1 as1 us1 H1 s1 hn1 hp1 SQ hY1 hl1=>?_⟩;let B1:=B.mv s1;let⟨dx,_,_,_,ex,_⟩:=id B1.ex;calc JE b dx _ ⟨RA,ex,RA,b,r,w',ak,aK,bi,bj,RA,B1,λpt Ht st Bt=>?_⟩;let s1t:=s1.trans st;calc JS pt k d ws w' r (bL ak w') (bL aK w') ⟨bj,bi,g,rk,RA,Bt,BK.same s1t,Em,hrk,hg,SM,by rw[gf w' r];show hbd,λp2 as2 us2 H2 s2 hn2 hp2 Pb hY2 hl2=>?_⟩;let Kw:=s1t.trans s2;let ahp:=s2 _ _ (st _ _ hp1);let ahq:=(hY1.mv st).mv s2;let hw1:∀l∈us1,lq l:=λl hl=>BK.az l (SQ.mem_iff.mp hl);let hw2:∀l∈us2,lq l:=λl hl=>BK.az l (Pb.mem_iff.mp hl);let ok2:∀x∈iw ws (cM (bL ak w') w' r bj bi) (bL ak w') w' r rk us2,fO (bL ak w') w' r (cM (bL ak w') w' r bj bi) x:=λx hx=>rF hw2 hx;generalize hX:iw ws (cM (bL ak w') w' r bj bi) (bL ak w') w' r rk us2=X at hY2 ok2;refine⟨p2,RA,⟨_,aP.of hp2⟩,λL hL=>C_ (f:=eY [] 0) (tt:=gG) (K:=K) (a:=p2) (xs:=as2.map V.ref) (λi ys H6=>∃ds:List Addr,ys=ds.map V.ref/\ds.length=i/\H6 L=some (.lst ys)/\aA H2 H6/\gq H6 ds ((X.take i).map λts=>ts.map sw))
  ⟨[],RA,RA,au,aA.upd hL,gq.nil⟩ (λi ys H6 _ h=>by let⟨_,_,_,_,sm,_⟩:=h;show aP.of (sm _ _ hp2)) ?_ ?_⟩
 .intro i x ys H6 hx z;let⟨ds,rfl,hdl,mz,s6,G4⟩:=z;let⟨hi,hx⟩:=rfg hx;subst hx;obtain⟨ts,et,⟨bs,hbs,Pg⟩⟩:=hY2.get hi;let hok:=ok2 ts (aS et);let ahr:=(hok.ok).Dj O.w9 O.r9;let hnd:(ts.map λt=>My.rk (sw t)).Nodup:=by
   have:=hok.rkw;rw[eD]at this;show List.Pairwise.imp (λ{a b} hab=>bn hab) this
  calc abn ?_;calc JE (as2[i]) bs ts ⟨RA,s6 _ _ hbs,Pg.mv s6,ahr,hnd,by have:=hok.len;lia,λp7 bs7 ts7 H7 s7 O1 X3 pm7 pw7=>?_⟩;let e7:ts7=ts.map sw:=abz pw7 hok.rkw pm7;subst e7;let afA:=s7 _ _ mz;calc⟨afA,by rw[ab,hdl];lia,dM.mk (by rw[ab];show hi) ⟨ds++[p7],w8,by simp[hdl],by rw[au],(s6.trans s7).bI hL,?_⟩⟩;rw[bP,et,bz];show((G4.mv s7).app (gq.one (ts:=ts.map sw) ⟨bs7,O1,X3⟩)).iC (fu afA)
 .intro ys H6 z;let⟨ds,rfl,hdl,mz,s6,G4⟩:=z;rw[ab]at hdl;rw[cx (by rw[ab];have:=hY2.len;lia)]at G4;let ahs:=s6 _ _ ahp;let aht:=ahq.mv s6;calc JI p1 L _ _ ⟨RA,RA,ahs,mz,by rw[ab,ab];lia,λpc hpc=>?_⟩;let k7:aA H6 (upd H6 pc (HO.lst (as1.map V.ref++ds.map V.ref))):=aA.upd hpc;let afB:upd H6 pc (HO.lst (as1.map V.ref++ds.map V.ref)) pc=some (.lst ((as1++ds).map V.ref)):=by rw[au,bz]
  let G7:=(aht.app G4).mv k7;let sH7:=(Kw.trans s6).trans k7;generalize upd H6 pc (HO.lst (as1.map V.ref++ds.map V.ref))=H7 at k7 afB G7 sH7 ⊢;let hmem:∀x,x∈(iw ws (cM ak r w' bi bj) ak r w' rk us1++X.map λts=>ts.map sw)↔x∈Jb ws ak r w' bi bj rk:=λx=>by
   unfold Jb;rw[bd,bd,wk SQ,<-hX,aw,aw];constructor
   .rintro(z|⟨u,hu,rfl⟩);.show .inl z
    .show .inr ⟨u,(wk Pb u).mp hu,RA⟩
   .rintro(z|⟨u,hu,rfl⟩);.show .inl z
    .show .inr ⟨u,(wk Pb u).mpr hu,RA⟩
  generalize hM:(iw ws (cM ak r w' bi bj) ak r w' rk us1++X.map λts=>ts.map sw)=M at G7 hmem;let hlay:∀a∈as1++ds,rM K H7 a (lO H7 a):=λa ha=>by
   let hm:lO H7 a∈M:=by rw[<-G7.eq];show cz ha
   let hok:=SN O.br BK.az ((hmem _).mp hm);show(G7.at_ a ha).lay hok.ne (hok.Dj O.r9 O.w9)
  calc JE pc (as1++ds) (lO H7) ⟨RA,aP.of afB,by rw[av];lia,hlay,λps bs hps hsub hnd hall=>?_⟩;let k8:aA H7 (upd H7 ps (HO.ext (qy w ps bs))):=aA.upd hps;let ahu:upd H7 ps (HO.ext (qy w ps bs)) ps=some (.ext (qy w ps bs)):=au;let jD:bs.length<=as1.length+ds.length:=by
   let h1:(bs.map (lO H7)).length<=M.length:=hnd.length_le_of_subset (l₂:=M) λx hx=>by let⟨a,ha,rfl⟩:=aw.mp hx;rw[<-G7.eq];show cz (hsub a ha)
   rw[ab]at h1;rw[<-G7.len,av]at h1;show h1
  calc JE ps bs (lO H7) ⟨RA,ahu,wT,λa ha=>(hlay a (hsub a ha)).mv k8,λpq bs' hpq pmb up=>?_⟩;let k9:=k8.bI (o:=HO.lst (bs'.map V.ref)) (k8.free hpq);let ahQ:upd (upd H7 ps (HO.ext (qy w ps bs))) pq (HO.lst (bs'.map V.ref)) pq=some (.lst (bs'.map V.ref)):=au;calc⟨pq,_,RA,.inl ⟨aP.of au,λT hT=>?_⟩⟩;let k10:=k9.bI (o:=HO.tup (bs'.map V.ref)) (k9.free hT);let hYf:gq (upd (upd (upd H7 ps (HO.ext (qy w ps bs))) pq (HO.lst (bs'.map V.ref))) T (HO.tup (bs'.map V.ref))) bs' (bs'.map (lO H7)):=(gq.mk (λa ha=>G7.at_ a (hsub a (pmb.mem_iff.mp ha))) RA).mv k10;calc q T bs' _ _ (sH7.trans k10) au hYf up ((pmb.map (lO H7)).nodup_iff.mpr hnd) (by rw[ab,pmb.length_eq];lia) λx=>?_;rw[<-hmem x,(pmb.map (lO H7)).mem_iff];constructor
  .intro hx;let⟨a,ha,rfl⟩:=aw.mp hx;rw[<-G7.eq];show cz (hsub a ha)
  .intro hx;rw[<-G7.eq]at hx;let⟨a,ha,rfl⟩:=aw.mp hx;show hall a ha
def Yn (K:W.Frag):Sp:=λvs H Q _=>∃(p a:Addr) (ls:List Nat) (ns:List Int) (k m:Nat),vs=[.ref p,.ref a,.int k,.int m]/\H p=some (.lst (Ts (ones ls)))/\U3 ls/\aP K H a (ns.map V.int)/\k<=1000/\m<=5/\
 ∀(rk:List Nat) (H':Hp),aA H H'->rk.length<=m->(rk.length<4->rk.count 63<=2)->(4<=rk.length->rk.count 63<=1)->(∀c∈rk,c=63\/isLet c)->Q (.str (S rk)) H'
def ac8 (D:aJ K mg "_law_rack" Gy ["_law_letters_here","_law_script","_law_k","_law_most"])(bG:mg "len"=none)(G8:mg "min"=none)(jw:mg "int"=none)(lU:bx P w K mg base "_law_digits" 3 ["_law_script","_law_k","_law_base","_law_many"] (GD K)):bx P w K mg base "_law_rack" 4 ["_law_letters_here","_law_script","_law_k","_law_most"] (Yn K):=by
 calc D.cX oO ?_;walk_at"b";let⟨p,a,ls,ns,k,m,rfl,hp,hA,hS,hk,hm5,q⟩:=h;let hlo:(Ts (ones ls)).length=ls.length:=by rw[ab,ab]
 let hl1:=hA.lo;calc⟨_,(aD (aZ (i:=4) oO.nd RA (Or.inl RA) (aY lU hr.mono RA (aj aR (aj bJ (aj aB (aj aB aq)))))) (aD (aZ (i:=5) oO.nd RA (Or.inl RA) (aQ (V0 RA) xa G8 PyProof.Rows.boot_min (aj cj (aj (bB gF (fH (aj aB (aj aB (aj aB (aj aB (aj aB (aj aB (aj aB (aj aB aq))))))))) (aX cZ (bB gF cD aB (λ_ _=>rfl)) aB) (λ_ _=>rfl)) aq)))) (aD (aZ (i:=6) oO.nd RA (Or.inl RA) (cF [] xc)) (aD (d7 cq RA (fD (iZ Br cD (g_ aB) (g_ (aX dj aB d8)))) (bY (i:=7) oO.nd RA (Or.inl RA)) (aD (aZ (i:=8) oO.nd RA (Or.inl RA) (bB gF aH (aX cZ (aX gD jV aB) (aQ cL xa bG b7 (aj aH aq))) (λ_ _=>rfl))) (aD (z_ (cC (QW.qt (MF (cg jF (aX cZ jV aB) aB (bR _)) (Hy (cg Fe (eX bS PySem.F.slot_str_count PySem.F.type_str_count WD f9 (aj (cF [63] xc) aq)) (aX dj aB (cW zM xa jw kX (aj (fB Fe d8 aB (bR _)) aq))) (bR _))))) (aF (aZ (i:=8) oO.nd RA (Or.inl RA) (cF [63] xc))) bQ)) (aF (aZ (i:=6) oO.nd RA (Or.inl RA) (aX tU f9 iI)))))) (aF (aW f9)))))),?_⟩;calc JJ a ns k 208 6 ⟨RA,hS,hk,w_,w_,w_,λpr ds H1 s1 ahh hpr hl hd=>?_⟩;let at0:jC (ds.map V.int) 0=some (.int ds[0]):=aO (j:=0) (by simp[hl]);calc⟨zsz 8,λt ht=>?_⟩;obtain⟨z,hz1,hz2,hz3⟩:∃z:Nat,jC [V.int 1,V.int 2,V.int 3,V.int 3,V.int 2,V.int 4,V.int 3,V.int 5] (ds[0]%8)=some (.int z)/\1<=z/\z<=5:=by
  let hm:ds[0]%8=0\/ds[0]%8=1\/ds[0]%8=2\/ds[0]%8=3\/ds[0]%8=4\/ds[0]%8=5\/ds[0]%8=6\/ds[0]%8=7:=wT;rcases hm with e|e|e|e|e|e|e|e <;> rw[e]
  .show⟨1,aO (j:=0) RA,w_,w_⟩
  .show⟨2,aO (j:=1) RA,w_,w_⟩
  .show⟨3,aO (j:=2) RA,w_,w_⟩
  .show⟨3,aO (j:=3) RA,w_,w_⟩
  .show⟨2,aO (j:=4) RA,w_,w_⟩
  .show⟨4,aO (j:=5) RA,w_,w_⟩
  .show⟨3,aO (j:=6) RA,w_,w_⟩
  .show⟨5,aO (j:=7) RA,w_,w_⟩
 let hT:upd H1 t (HO.lst [V.int 1,V.int 2,V.int 3,V.int 3,V.int 2,V.int 4,V.int 3,V.int 5]) t=some _:=au;let s2:aA H1 (upd H1 t (HO.lst [V.int 1,V.int 2,V.int 3,V.int 3,V.int 2,V.int 4,V.int 3,V.int 5])):=aA.upd ht;generalize upd H1 t (HO.lst [V.int 1,V.int 2,V.int 3,V.int 3,V.int 2,V.int 4,V.int 3,V.int 5])=H2 at hT s2 ⊢;let afC:=s2 _ _ hpr;calc JI pr _ 0 _ ⟨RA,RA,aP.of afC,at0,_,_,RA,RA,(by show (0:Int)<8;decide),t,_,_,_,RA,RA,aP.of hT,hz1,_,_,RA,?_⟩;obtain⟨n,en,hnm,hn5⟩:∃n:Nat,(if (z:Int)<(m:Int) then (z:Int) else (m:Int))=(n:Int)/\n<=m/\n<=5:=by
  by_cases c:(z:Int)<(m:Int);.show⟨z,by rw[if_pos c],wT,hz3⟩
  .show⟨m,by rw[if_neg c],ah _,hm5⟩
 rw[en];let Kw:=s1.trans s2;calc⟨_,RA,_,_,RA,RA,_,RA,pr,_,RA,aP.of afC,λu hu'=>?_⟩;let e1:(1:Int)+(n:Int)=((1+n:Nat):Int):=rfl;rw[e1];let Dc:(k_ (ds.map V.int) (some (1:Nat)) (some ((1+n:Nat):Int))).length=n:=by rw[Ik wT wT];lia
 generalize hxs:k_ (ds.map V.int) (some 1) (some ((1+n:Nat):Int))=xs;let aaq:xs.length=n:=by rw[<-hxs];show Dc
 let Xx:∀v∈xs,∃d:Int,v=.int d:=λv hv=>by rw[<-hxs]at hv;let⟨d,hd,e⟩:=DG hv;show⟨d,e⟩
 let s3:aA H (upd H2 u (HO.lst xs)):=Kw.bI (Kw.free hu');refine⟨u,RA,⟨_,aP.of au⟩,lK (K:=K) (a:=u) (xs:=xs) (λi σ H4=>∃(v7 v8:Option V) (rk:List Nat),σ=[some (.ref p),some (.ref a),some (.int k),some (.int m),some (.ref pr),some (.int n),some (.str (S rk)),v7,v8]/\aA H H4/\H4 u=some (.lst xs)/\rk.length=i/\rk.count 63<=(if n<4 then 2 else 1)/\∀c∈rk,c=63\/isLet c)
  (JE none none [] ⟨RA,s3,au,RA,cw _,λc h=>by simp at h⟩) (λi σ H4 _ h=>by let⟨_,_,_,_,_,h2,_⟩:=h;show aP.of h2) ?_ ?_⟩
 .intro i x σ H4 hi z;let⟨v7,v8,rk,rfl,s4,Yi,hrl,SX,hra⟩:=z;let hil:i<xs.length:=(al.mp hi).1;let⟨d,rfl⟩:=Xx x (aS hi);let XQ:=s4 _ _ hp;let⟨v,hv,Xi⟩:=Rm (xs:=Ts (ones ls)) (n:=ls.length) hlo (aT hl1) (d/8);let⟨l1,aau,rfl⟩:=aw.mp Xi;let⟨c,hcm,rfl⟩:=aw.mp aau;let hc:=hA.az c hcm;let ahv:c≠63:=by have:=hc.1;lia
  calc⟨_,_,RA,RA,⟨w_,w_⟩,p,_,RA,.inl (aP.of XQ),_,_,RA,RA,by rw[hlo];show (0:Int)<(ls.length:Int);lia,p,_,_,.str (S [c]),RA,RA,aP.of XQ,by rw[hlo];show hv,?_⟩;refine⟨λσ' H'=>H'=H4/\∃z:Nat,(z=63\/isLet z)/\(rk++[z]).count 63<=(if n<4 then 2 else 1)/\σ'=[some (.ref p),some (.ref a),some (.int k),some (.int m),some (.ref pr),some (.int n),some (.str (S rk)),some (.int d),some (.str (S [z]))],?_,?_⟩
  .let abB:(rk++[c]).count 63<=(if n<4 then 2 else 1):=by rw[vv,List.count_singleton];simpa [ahv] using SX
   calc⟨_,_,RA,RA,(by show (0:Int)<6;decide),RA,xV (λ_=>?_) (λ_=>⟨RA,c,.inr hc,abB,RA⟩)⟩;calc⟨RA,rk,63,RA,RA,_,_,RA,RA,.inr ⟨_,RA,_,_,RA,RA,_,_,RA,RA,aU _ RA ?_⟩⟩;calc xV (λhlt=>⟨RA,63,.inl RA,?_,RA⟩) (λ_=>⟨RA,c,.inr hc,abB,RA⟩);let hlt:=gI hlt;rw[vv,List.count_singleton];by_cases hn4:n<4
   .rw[ar (show (n:Int)<4 from oB gx hn4)]at hlt;simp only[if_true]at hlt;rw[if_pos hn4];simp;lia
   .rw[am (show ¬(n:Int)<4 by lia)]at hlt;simp only[a7,if_false]at hlt;rw[if_neg hn4];simp;lia
  .intro σ' H' z;let⟨rfl,z,hz,hzc,rfl⟩:=z;calc⟨rk,[z],RA,RA,aT (aL (by simp;lia)),?_⟩;calc JE _ _ (rk++[z]) ⟨RA,s4,Yi,by simp[hrl],hzc,λe he=>?_⟩;rcases bd.mp he with y|y;.show hra e y
   .rw[ap.mp y];show hz
 .intro σ H4 z;let⟨v7,v8,rk,rfl,s4,Yi,hrl,SX,hra⟩:=z;rw[aaq]at hrl;calc(q rk H4 s4 wT (λh=>?_) (λh=>?_) hra);.rw[if_pos (by simp_all)]at SX;show SX
  .rw[if_neg wT]at SX;show SX
theorem abC:∀{ts:List bK},(∀t∈ts,t.1=i)->ts.Pairwise (λa b=>a.1=b.1)
 | [],_=>.nil
 | t::ts,h=>.cons (λb hb=>by rw[h t aE,h b (ay _ hb)]) (abC λb hb=>h b (ay _ hb))
def G9 (ts:List bK):Prop:=ts.Pairwise (λa b=>a.1=b.1)\/ts.Pairwise (λa b=>a.1<b.1)
def G_ (ts:List bK):Prop:=(∃i,(∀t∈ts,t.1=i)/\ts.Pairwise (λa b=>a.2.1<b.2.1))\/(∃j,(∀t∈ts,t.2.1=j)/\ts.Pairwise (λa b=>a.1<b.1))
def G_.one (h:G_ ts):G9 ts:=by
 rcases h with⟨i,h,_⟩|⟨_,_,h⟩;.show .inl (abC h)
 .show .inr h
def aaJ (hM:H M=some (.lst ys)):∀a xs,H a=some (.tup xs)->upd H M (.lst zs) a=some (.tup xs):=λa xs e=>by
 let ne:a≠M:=λz=>by rw[z,hM]at e;cases e
 rw[bw ne];show e
def ac9 {l:List Nat}(a1:low<=k)(a2:k<=high)(a3:high<=l.length)(b1:cG (l.take k)=(l.take k).drop low)(b2:cR (l.drop k)=(l.drop k).take (high-k)):cG (l.take k)++cR (l.drop k)=(l.drop low).take (high-low)/\(cG (l.take k)).length=k-low:=by
 constructor;.rw[b1,b2,List.drop_take,show high-low=(k-low)+(high-k) by lia,List.take_add,List.drop_drop,show low+(k-low)=k by lia]
 .rw[b1,cy,be];lia
abbrev yV:=Nat×Nat×Nat×List Nat
noncomputable def fX (R:AA)(i j wy:Nat):yV:=(if wy=0 then i else i-(cG ((lineOf R i j (wy:Int)).take i)).length,if wy=0 then j-(cG ((lineOf R i j (wy:Int)).take j)).length else j,wy,cG ((lineOf R i j (wy:Int)).take (placeOf i j (wy:Int)))++cR ((lineOf R i j (wy:Int)).drop (placeOf i j (wy:Int))))
structure jh {α:Type}(enc:α->List V)(H:Hp)(as:List Addr)(xs:List α):Prop where
 len:as.length=xs.length
 at_:∀(i:Nat) (a:Addr) (x:α),as[i]?=some a->xs[i]?=some x->H a=some (.tup (enc x))
def jh.iC {α:Type}{enc:α->List V}{xs:List α}(k:∀a ys,H a=some (.tup ys)->H' a=some (.tup ys))(h:jh enc H as xs):jh enc H' as xs:=⟨h.len,λi a x h1 h2=>k _ _ (h.at_ i a x h1 h2)⟩
def jh.mv {α:Type}{enc:α->List V}{xs:List α}(k:aA H H')(h:jh enc H as xs):jh enc H' as xs:=h.iC λa ys e=>k a _ e
def jh.nil {α:Type}{enc:α->List V}:jh enc H [] []:=⟨RA,λi a x h=>by simp at h⟩
def jh.one {α:Type}{enc:α->List V}{x:α}(h:H a=some (.tup (enc x))):jh enc H [a] [x]:=⟨RA,λi b y h1 h2=>by
 match i,h1,h2 with
 | 0,h1,h2=>have e1:a=b:=bb h1;let e2:x=y:=bb h2;rw[<-e1,<-e2];show h
 | n+1,h1,h2=>show absurd h1 w8⟩
def jh.app {α:Type}{enc:α->List V}{xs ys:List α}(h:jh enc H as xs)(g:jh enc H bs ys):jh enc H (as++bs) (xs++ys):=by
 calc⟨by rw[av,av,h.len,g.len],λi a x h1 h2=>?_⟩;by_cases c:i<as.length
 .rw[eJ c]at h1;rw[eJ (by rw[<-h.len];show c)]at h2;show h.at_ i a x h1 h2
 .rw[c_ wT]at h1;rw[c_ (by rw[<-h.len];lia),<-h.len]at h2;show g.at_ _ a x h1 h2
def jh.get {α:Type}{enc:α->List V}{xs:List α}(h:jh enc H as xs)(hi:i<as.length):∃x,xs[i]?=some x/\H as[i]=some (.tup (enc x)):=by
 let hx:i<xs.length:=by rw[<-h.len];show hi
 show⟨xs[i],ae hx,h.at_ i _ _ (ae hi) (ae hx)⟩
abbrev QL:=jh (λq:yV=>[V.int q.1,V.int q.2.1,V.int q.2.2.1,V.str (S q.2.2.2)])
abbrev AL3:=jh (λq:Nat×Nat×Nat=>[V.int q.1,V.int q.2.1,V.int q.2.2])
def iT (ts:List bK):Nat:=if ts.head?.map (·.1)=ts.getLast?.map (·.1) then 0 else 1
def wu (ts:List bK):List (Nat×Nat×Nat):=(ts.take 1).map (λt=>(t.1,t.2.1,iT ts))++ts.map λt=>(t.1,t.2.1,1-iT ts)
def qd (R:AA)(a:Nat×Nat×Nat):yV:=fX R a.1 a.2.1 a.2.2
def Hf (q:yV):Bool:=decide (1<q.2.2.2.length)
def uO (ak:AA)(ts:List bK):List yV:=((wu ts).map (qd (bO ak ts))).filter Hf
def afD (ts:List bK):iT ts<=1:=by unfold iT;split <;> decide
def aaK {r w:Nat}{R:AA}(hb:Blk r w R)(r9:r<=9)(w9:w<=9){i j wy:Nat}(hi:i<r):(fX R i j wy).2.2.2.length<=20:=by
 let hll:=tH hb hi (j:=j) (way:=(wy:Int));let h9:(lineOf R i j (wy:Int)).length<=9:=by rw[hll];split <;> assumption
 show (cG _++cR _).length<=20;let a1:=oU ((lineOf R i j (wy:Int)).take (placeOf i j (wy:Int)));let a2:=vJ ((lineOf R i j (wy:Int)).drop (placeOf i j (wy:Int)));rw[be]at a1;rw[cy]at a2;rw[av];lia
def Yo {ts:List bK}(h:0<ts.length):iT ts=if ts[0].1=ts[ts.length-1].1 then 0 else 1:=by unfold iT;rw[r8,vF,ae h,ae wT];simp only[ja,Option.some.injEq]
def ji (hL:dw H as ts)(hi:i<ts.length):∃(h:i<as.length),H as[i]=some (.tup [.int ts[i].1,.int ts[i].2.1,.str (S [ts[i].2.2])]):=by
 let h:i<as.length:=by rw[hL.len];show hi
 let⟨t,e,ht⟩:=hL.get h;rw[ae hi]at e;let e:=bb e;rw[<-e]at ht;show⟨h,ht⟩
def ac_ {as:List Addr}(h:0<as.length):jC (as.map V.ref) (-1)=some (.ref as[as.length-1]):=by
 let e:as.map V.ref=(as.take (as.length-1)).map V.ref++[V.ref as[as.length-1]]:=by rw[<-n5,<-bz];congr 1;have:=cS (as.length-1) as;rw[i7 wT,show as.length-1+1=as.length by lia,v_]at this;show this.symm
 rw[e];show Zj _ _
def Yp (hl:G9 ts)(h0:0<ts.length):((ts.map λt=>decide (V.int (t.1:Int)=V.int (ts[0].1:Int))).all id)=decide (iT ts=0):=by
 let hd:∀a b:Nat,decide (V.int (a:Int)=V.int (b:Int))=decide (a=b):=λa b=>by
  by_cases h:a=b;.subst h;simp
  .have:¬V.int (a:Int)=V.int (b:Int):=λz=>h (by injection z with z;show kz z)
   simp[h,this]
 let key:(∀t∈ts,t.1=ts[0].1)↔ts[0].1=ts[ts.length-1].1:=by
  constructor
  .intro h;show(h _ (aI _)).symm
  .intro h t ht;let⟨i,hi,rfl⟩:=b9.mp ht;rcases hl with hl|hl
   .rw[e8]at hl;rcases kN i with z|z;.subst z;rfl
    .show(hl 0 i h0 hi z).symm
   .rw[e8]at hl;rcases kN (ts.length-1) with z|z
    .have:i=0:=by lia
     subst this;rfl
    .have:=hl 0 (ts.length-1) h0 wT z;lia
 rw[Yo h0,kS,gv,decide_eq_true_iff];constructor
 .intro h;rw[if_pos];calc key.mp λt ht=>?_;have:=h _ (aw.mpr ⟨t,ht,RA⟩);rw[hd]at this;show gI this
 .intro h x hx;let⟨t,ht,rfl⟩:=aw.mp hx;let he:ts[0].1=ts[ts.length-1].1:=by
   by_cases z:ts[0].1=ts[ts.length-1].1;.show z
   .rw[if_neg z]at h;cases h
  rw[hd];show ar (key.mpr he t ht)
def Jg:Sp:=λvs H Q _=>∃(t:Addr) (as:List Addr) (ts:List bK),vs=[.ref t]/\H t=some (.tup (as.map V.ref))/\dw H as ts/\0<ts.length/\ts.length<=7/\G9 ts/\∀H',aA H H'->Q (.bl (decide (iT ts=0))) H'
def Ph (D:aJ K mg "is_across" qR ["laying"])(d9:mg "all"=none):bx P w K mg base "is_across" 1 ["laying"] Jg:=by
 calc D.cX Oa ?_;intro f bD A outer s H vs Q E hr h;let⟨t,as,ts,rfl,ht,hL,h0,h7,hl,q⟩:=h;let hal:=hL.len;calc⟨_,(aF (aW (aQ (i_ RA) xa d9 iR (aj (fM (ns:=["row","column","sign"]) RA (fL.of ["laying"] [] xb) (fJ aH) (λ_ _ _ _ _=>(mH K RA (show (["row","column","sign","laying"]:List Str).Nodup by decide +kernel) RA RA RA xa xa xa)) (λ_ _ _ _ _=>cH) (λ_ _ _ _ _=>(fB jF aH (bB (kY K) (bB (kY K) cj aB (λ_ _=>rfl)) aB (λ_ _=>rfl)) (bR _)))) aq)))),?_⟩;refine⟨t,RA,⟨_,aN.of ht⟩,λN hN=>jY (K:=K) (KT:=K) (a:=t) (f:=eY [] 0) (tt:=gG) (xs:=as.map V.ref) (λn ys H3=>ys=((ts.take n).map λt=>decide (V.int (t.1:Int)=V.int (ts[0].1:Int))).map V.bl/\H3 N=some (.lst ys)/\aA H H3)
  ⟨RA,au,aA.upd hN⟩ (λn ys H3 _ h=>aN.of (h.2.2 _ _ ht)) ?_ ?_⟩
 .intro n x ys H3 hx z;let⟨rfl,uP,sm3⟩:=z;let⟨hn,hx⟩:=rfg hx;let hnt:n<ts.length:=wT;let⟨_,en⟩:=ji (hL.mv sm3) hnt;let⟨g0,e0⟩:=ji (hL.mv sm3) h0;calc sS hx.symm (aN.of en) ?_;calc JI t _ _ (.ref as[0]) ⟨RA,RA,aN.of (sm3 _ _ ht),aO (j:=0) (by simp[g0]),as[0],_,_,_,RA,RA,aN.of e0,aO (j:=0) RA,RA,uP,?_,dM.mk (by rw[ab];show hn) ⟨?_,au,sm3.bI hN⟩⟩;.rw[ab,ab,be];show aL wT
  .rw[show ts.take (n+1)=ts.take n++(some ts[n]).toList by rw[bP,ae hnt],bz,bz];rfl
 .intro ys H3 z;let⟨rfl,uP,sm3⟩:=z;calc⟨N,_,RA,aP.of uP,?_⟩;rw[ab,hal,cK,Yp hl h0];show q H3 sm3
def Yq {r w:Nat}{R:AA}{i j wy:Nat}(S7:wy<=1):Ef i j (wy:Int) (lineOf R i j (wy:Int))=[.int (fX R i j wy).1,.int (fX R i j wy).2.1,.str (S (fX R i j wy).2.2.2)]:=by
 unfold Ef fX placeOf;by_cases z:wy=0
 .subst z;let a1:=oU ((lineOf R i j ((0:Nat):Int)).take j);rw[be]at a1;rw[if_pos rfl];show [V.int (i:Int),V.int ((j:Int)-_),_]=[V.int (i:Int),V.int ((j-_:Nat):Int),_]
  rw[Int.ofNat_sub wT];rfl
 .have:wy=1:=by lia
  subst this;let a1:=oU ((lineOf R i j ((1:Nat):Int)).take i);rw[be]at a1;rw[if_neg w_];show [V.int ((i:Int)-_),V.int (j:Int),_]=[V.int ((i-_:Nat):Int),V.int (j:Int),_]
  rw[Int.ofNat_sub wT];rfl
def Pj (C:Addr):Sp:=λvs H Q _=>∃(b t:Addr) (as:List Addr) (ts:List bK) (r w:Nat) (ak aK:AA) (bi bj:Nat),vs=[.ref b,.ref t]/\dG C H b r w ak aK bi bj/\H t=some (.tup (as.map V.ref))/\dw H as ts/\(∀t∈ts,inB r w t)/\0<ts.length/\ts.length<=7/\G9 ts/\
 ∀(T:Addr) (bs:List Addr) (H':Hp),aA H H'->H' T=some (.tup (bs.map V.ref))->QL H' bs (uO ak ts)->Q (.ref T) H'
def Yr (D:aJ K mg "formed" yE ["board","laying"])(bG:mg "len"=none)(bH:mg "tuple"=none)(bF:dF K C)(lZ:Meth K C "laid" f1)(mj:cJ P w K mg base fG 8 f1 jg ["self","laying"] (GK C))(mq:cu K jg ["self","laying"] [])(vZ:Meth K C "run" f2)(wg:cJ P w K mg base fG 2 f2 fd2 ["self","row","column","way"] (Vb C))(wj:cu K fd2 ["self","row","column","way"] [])(wz:bx P w K mg base "is_across" 1 ["laying"] Jg):bx P w K mg base "formed" 10 ["board","laying"] (Pj C):=by
 calc D.cX jt ?_;walk_at"b";let⟨b,t,as,ts,r,w,ak,aK,bi,bj,rfl,BA,ht,hL,dN,h0,h7,hl,q⟩:=h;let⟨dx,_,_,_,ex,_⟩:=id BA.ex;let r9:=BA.ok.r9;let w9:=BA.ok.w9;let hal:=hL.len;let m_:=afD ts;calc⟨_,(aD (aZ (i:=2) jt.nd RA (Or.inl RA) (iV aH bF.cl lZ mj hr.mono mq .nil fZ (aj aR aq))) (aD (z_ (aZ (i:=3) jt.nd RA (Or.inr RA) (oA (cO (aY wz hr.mono RA (aj aR aq))) aB aB))) (aD (aZ (i:=4) jt.nd RA (Or.inl RA) (fH (aj (dg (aj (bB bU (bB bU aR aB (λ_ _=>rfl)) aB (λ_ _=>rfl)) (aj (bB bU (bB bU aR aB (λ_ _=>rfl)) aB (λ_ _=>rfl)) (aj cj aq)))) aq))) (aD (eE (eX di ki km qX cD (aj (fM (ns:=["row","column","sign"]) RA (fL.of ["board","laying","after","way","asked",".5",".6","words","along","run"] [5,6] xb) (fJ aR) (λ_ _ _ _ _=>(mH K RA (show (["row","column","sign","board","laying","after","way","asked",".5",".6","words","along","run"]:List Str).Nodup by decide +kernel) RA RA RA xa xa xa)) (λ_ _ _ _ _=>cH) (λ_ _ _ _ _=>(dg (aj aH (aj aR (aj (aX o8 aB f9) aq)))))) aq))) (aD (aZ (i:=7) jt.nd RA (Or.inl RA) (fH aq)) (aD (d7 cq RA (fD cD) (o_ RA (cU (bY (i:=5) jt.nd RA (Or.inl RA)) (cU (bY (i:=6) jt.nd RA (Or.inl RA)) (cU (bY (i:=8) jt.nd RA (Or.inl RA)) mG)))) (aD (aZ (i:=9) jt.nd RA (Or.inl RA) (iV bJ bF.cl vZ wg hr.mono wj .nil fZ (aj d8 (aj f9 (aj iI aq))))) (aF (cC (cg agc (aQ eN xa bG b7 (aj (bB bU jW aB (λ_ _=>rfl)) aq)) aB (bR _)) (aF (eE (eX di gg gh jQ jV (aj (dg (aj (bB bU jW aB (λ_ _=>rfl)) (aj (bB bU jW aB (λ_ _=>rfl)) (aj iI (aj (bB bU jW aB (λ_ _=>rfl)) aq))))) aq)))) bQ)))) (aF (aW (cW dU xa bH ci (aj jV aq)))))))))),?_⟩;calc JE b dx _ ⟨RA,ex,RA,b,t,as,ts,r,w,ak,aK,bi,bj,RA,BA,ht,hL,dN,λx1 H1 s1 B1=>?_⟩;let hb':=jB BA.ok.br dN;generalize hR:bO ak ts=R at B1 hb';refine⟨λσ H'=>aA H1 H'/\σ=[some (.ref b),some (.ref t),some (.ref x1),some (.int (iT ts)),none,none,none,none,none,none],?_,?_⟩
 .calc JE t as ts ⟨RA,s1 _ _ ht,hL.mv s1,h0,h7,hl,λH2 s2=>(aU _ RA ?_)⟩;by_cases z:iT ts=0
  .rw[ar z];calc cQ ⟨s2,?_⟩;rw[z];rfl
  .rw[am z];calc bZ ⟨s2,?_⟩;rw[show iT ts=1 by lia];rfl
 rintro σ H2 ⟨s2,rfl⟩;let s12:=s1.trans s2;let hL2:=hL.mv s12;let Dl:=s12 _ _ ht;let⟨g0,e0⟩:=ji hL2 h0;calc JI t _ _ (.ref as[0]) ⟨RA,RA,aN.of Dl,aO (j:=0) (by simp[g0]),as[0],_,_,_,RA,RA,aN.of e0,aO (j:=0) RA,t,_,_,.ref as[0],RA,RA,aN.of Dl,aO (j:=0) (by simp[g0]),as[0],_,_,_,RA,RA,aN.of e0,aO (j:=1) RA,zsz 3,λt1 ht1=>⟨zsz 1,λA0 hA0=>?_⟩⟩;let k3:aA H2 (upd H2 t1 (HO.tup [.int ts[0].1,.int ts[0].2.1,.int (iT ts)])):=aA.upd ht1;let k4:=k3.bI (o:=HO.lst [.ref t1]) (k3.free hA0);let hA0':=k3.free hA0;let n1A:t1≠A0:=λz=>by rw[<-z,au]at hA0;cases hA0
 let e1:upd (upd H2 t1 (HO.tup [.int ts[0].1,.int ts[0].2.1,.int (iT ts)])) A0 (HO.lst [.ref t1]) t1=some (.tup [.int ts[0].1,.int ts[0].2.1,.int (iT ts)]):=by rw[bw n1A,au]
 let eA:upd (upd H2 t1 (HO.tup [.int ts[0].1,.int ts[0].2.1,.int (iT ts)])) A0 (HO.lst [.ref t1]) A0=some (.lst [.ref t1]):=au;generalize upd (upd H2 t1 (HO.tup [.int ts[0].1,.int ts[0].2.1,.int (iT ts)])) A0 (HO.lst [.ref t1])=H4 at k4 e1 eA ⊢;let Gq:=k4 _ _ Dl;let mV:=hL2.mv k4;let e1l:(1:Int)-(iT ts:Int)=((1-iT ts:Nat):Int):=wT;refine⟨.inl ⟨RA,_,aP.of eA⟩,t,RA,⟨_,aN.of Gq⟩,λN hN=>jY (K:=K) (KT:=K) (a:=t) (f:=eY [5,6] 0) (tt:=gG) (xs:=as.map V.ref) (λn ys H5=>∃cs:List Addr,ys=cs.map V.ref/\cs.length=n/\H5 N=some (.lst ys)/\aA H4 H5/\AL3 H5 cs ((ts.take n).map λt=>(t.1,t.2.1,1-iT ts)))
  ⟨[],RA,RA,au,aA.upd hN,jh.nil⟩ (λn ys H5 _ h=>by let⟨_,_,_,_,sm,_⟩:=h;show aN.of (sm _ _ Gq)) ?_ ?_⟩
 .intro n x ys H5 hx z;let⟨cs,rfl,hcl,Dq,zH,hA5⟩:=z;let⟨hn,hx⟩:=rfg hx;let hnt:n<ts.length:=wT;let⟨_,en⟩:=ji (mV.mv zH) hnt;calc sS hx.symm (aN.of en) ?_;calc⟨_,_,RA,RA,zsz 3,λg hg=>?_⟩;let kg:aA H5 (upd H5 g (HO.tup [.int ts[n].1,.int ts[n].2.1,.int (1-(iT ts:Int))])):=aA.upd hg;let hNg:=kg _ _ Dq;calc⟨hNg,by rw[ab];show aL wT,dM.mk (by rw[ab];show hn) ⟨cs++[g],w8,by simp[hcl],by rw[au],(zH.trans kg).bI hN,?_⟩⟩;rw[show ts.take (n+1)=ts.take n++[ts[n]] by rw[bP,ae hnt];rfl,bz];calc((hA5.mv kg).app (jh.one (x:=(ts[n].1,ts[n].2.1,1-iT ts)) ?_)).iC (aaJ hNg);rw[au,e1l]
 intro ys H5 z;let⟨cs,rfl,hcl,Dq,zH,hA5⟩:=z;rw[ab]at hcl;rw[ab,hal,cK]at hA5;let eA5:=zH _ _ eA;calc JI A0 N _ _ ⟨RA,RA,eA5,Dq,by rw[ab,hcl];show aT (aL (by simp;lia)),?_⟩;let aaL:AL3 (upd H5 A0 (HO.lst ([V.ref t1]++cs.map V.ref))) ([t1]++cs) (wu ts):=by
  let hone:AL3 H5 [t1] ((ts.take 1).map λt=>(t.1,t.2.1,iT ts)):=by rw[List.take_one,r8,ae h0];show jh.one (x:=(ts[0].1,ts[0].2.1,iT ts)) (zH _ _ e1)
  show(hone.app hA5).iC (aaJ eA5)
 let sH6:aA H1 (upd H5 A0 (HO.lst ([V.ref t1]++cs.map V.ref))):=λa o e=>by have:=(k4.trans zH) _ _ (s2 _ _ e);rw[bw (λz=>by rw[z]at e;have:=s2 _ _ e;rw[hA0']at this;cases this)];show this
 let eA6:upd H5 A0 (HO.lst ([V.ref t1]++cs.map V.ref)) A0=some (.lst (([t1]++cs).map V.ref)):=by rw[au];simp
 generalize upd H5 A0 (HO.lst ([V.ref t1]++cs.map V.ref))=H6 at aaL sH6 eA6 ⊢;let afE:=aaL.len;let hak:(wu ts).length=1+ts.length:=by unfold wu;rw[av,ab,ab,be];lia
 let ahw:∀n (a:Nat×Nat×Nat),(wu ts)[n]?=some a->a.1<r/\a.2.1<w/\a.2.2<=1:=λn a ha=>by
  rcases bd.mp (aS ha) with z|z
  .let⟨u,hu,rfl⟩:=aw.mp z;have:=dN u (fT hu);show⟨this.1,this.2.1,m_⟩
  .let⟨u,hu,rfl⟩:=aw.mp z;have:=dN u hu;show⟨this.1,this.2.1,by show 1-iT ts<=1;lia⟩
 calc⟨zsz 0,λW hW=>?_⟩;let hW0:=sH6.free hW;let nWA:A0≠W:=λz=>by rw[<-z,eA6]at hW;cases hW
 let kW:aA H6 (upd H6 W (HO.lst [])):=aA.upd hW;refine⟨A0,RA,⟨_,aP.of (kW _ _ eA6)⟩,lK (K:=K) (a:=A0) (xs:=([t1]++cs).map V.ref) (λn σ H'=>∃(v6 v7 v8 v9:Option V) (bs:List Addr),σ=[some (.ref b),some (.ref t),some (.ref x1),some (.int (iT ts)),some (.ref A0),v6,v7,some (.ref W),v8,v9]/\aA H6 H'/\H' W=some (.lst (bs.map V.ref))/\bs.length<=n/\QL H' bs ((((wu ts).take n).map (qd R)).filter Hf))
  (JJ none none none none [] ⟨RA,kW,au,ah _,jh.nil⟩) (λn σ H' _ h=>by let⟨_,_,_,_,_,_,sm,_⟩:=h;show aP.of (sm _ _ eA6)) ?_ ?_⟩
 .intro n x σ H' hx z;let⟨v6,v7,v8,v9,bs,rfl,sm,hWb,jD,hQ⟩:=z;let hn:n<([t1]++cs).length:=by have:=(al.mp hx).1;simpa using this
  rw[a_,ae hn]at hx;let hx:V.ref ([t1]++cs)[n]=x:=bb hx;subst hx;let⟨a,ea,hat⟩:=(aaL.mv sm).get hn;let⟨c1,c2,c3⟩:=ahw n a ea;let hn9:n<9:=by rw[afE,hak]at hn;lia
  calc⟨([t1]++cs)[n],_,RA,aN.of hat,RA,_,_,RA,_,_,RA,_,_,RA,RA,?_⟩;let B2:=B1.mv (sH6.trans sm);let⟨Ow,_,_,_,X7,_⟩:=id B2.ex;calc JE x1 Ow _ ⟨RA,X7,RA,x1,r,w,R,aK,bi,bj,a.1,a.2.1,(a.2.2:Int),RA,B2,c1,c2,wT,λt2 H7 s7 _ ht7=>?_⟩;rw[Yq (r:=r) (w:=w) c3]at ht7;let bW:=aaK hb' r9 w9 c1 (j:=a.2.1) (wy:=a.2.2);let O9:=aN.of (K:=K) ht7;let aaM:=s7 _ _ hWb;calc JI t2 _ _ _ ⟨RA,RA,O9,aO (j:=2) RA,_,RA,aT (aL wT),_,_,RA,RA,aU _ RA ?_⟩;let abD:(wu ts).take (n+1)=(wu ts).take n++[a]:=by rw[bP,ea];rfl
  by_cases hc:Hf (qd R a)=true
  .have:decide ((2:Int)<=((fX R a.1 a.2.1 a.2.2).2.2.2.length:Int))=true:=ar (by have:=gI hc;show (2:Int)<=((qd R a).2.2.2.length:Int);lia);rw[this];calc cQ ⟨.inl ⟨RA,_,aP.of aaM⟩,t2,_,_,_,RA,RA,O9,aO (j:=0) RA,t2,_,_,_,RA,RA,O9,aO (j:=1) RA,t2,_,_,_,RA,RA,O9,aO (j:=2) RA,zsz 4,λg hg=>?_⟩;let kg:aA H7 (upd H7 g (HO.tup [.int (fX R a.1 a.2.1 a.2.2).1,.int (fX R a.1 a.2.1 a.2.2).2.1,.int a.2.2,.str (S (fX R a.1 a.2.1 a.2.2).2.2.2)])):=aA.upd hg;let hWg:=kg _ _ aaM;calc JE W _ _ ⟨RA,RA,hWg,by rw[ab];show aL wT,?_⟩;calc JJ _ _ _ _ (bs++[g]) ⟨RA,((sm.trans s7).trans kg).bI hW,by rw[au];simp,by simp;lia,?_⟩;rw[abD,bz,fi];let e2:([a].map (qd R)).filter Hf=[qd R a]:=by simp[hc]
   rw[e2];show(((hQ.mv s7).mv kg).app (jh.one (x:=qd R a) au)).iC (aaJ hWg)
  .have:decide ((2:Int)<=((fX R a.1 a.2.1 a.2.2).2.2.2.length:Int))=false:=am (λz=>hc (ar (by let z:(2:Int)<=((qd R a).2.2.2.length:Int):=z;lia)));rw[this];calc bZ (JJ _ _ _ _ bs ⟨RA,sm.trans s7,aaM,wT,?_⟩);rw[abD,bz,fi];let e2:([a].map (qd R)).filter Hf=[]:=by simp[hc]
   rw[e2,fS];show hQ.mv s7
 .intro σ H' z;let⟨v6,v7,v8,v9,bs,rfl,sm,hWb,jD,hQ⟩:=z;rw[ab,afE,cK]at hQ;calc⟨W,_,RA,.inl ⟨aP.of hWb,λT hT=>?_⟩⟩;let k:aA H' (upd H' T (HO.tup (bs.map V.ref))):=aA.upd hT;calc q T bs _ (((s1.trans sH6).trans sm).trans k) au ?_;unfold uO;rw[hR];show hQ.mv k
structure S8 (C:Addr)(H:Hp)(b t:Addr)(as:List Addr)(ts:List bK)(r w:Nat)(ak aK:AA)(bi bj:Nat):Prop where
 B:dG C H b r w ak aK bi bj
 tp:H t=some (.tup (as.map V.ref))
 L:dw H as ts
 pos:0<ts.length
 le:ts.length<=7
 Hg:∀t∈ts,inB r w t
def S8.mv {r w:Nat}{ak aK:AA}{bi bj:Nat}(h:S8 C H b t as ts r w ak aK bi bj)(s:aA H H'):S8 C H' b t as ts r w ak aK bi bj:=⟨h.B.mv s,s _ _ h.tp,h.L.mv s,h.pos,h.le,h.Hg⟩
def Ba (C:Addr)(G:Nat->Nat->List (List Nat)->Nat->Nat->List bK->Prop)(u:V):Sp:=λvs H Q _=>∃(b t:Addr) (as:List Addr) (ts:List bK) (r w:Nat) (ak aK:AA) (bi bj:Nat),vs=[.ref b,.ref t]/\S8 C H b t as ts r w ak aK bi bj/\G r w ak bi bj ts/\∀H',aA H H'->Q u H'
def abE (C:Addr):Sp:=λvs H Q _=>∃(b a:Addr) (t:bK) (r w:Nat) (ak aK:AA) (bi bj:Nat),vs=[.ref b,.ref a]/\dG C H b r w ak aK bi bj/\H a=some (.tup [.int t.1,.int t.2.1,.str (S [t.2.2])])/\inB r w t/\Q (.bl true) H
def Pk (D:aJ K mg "is_triple" qP ["board","thing"])(bG:mg "len"=none)(bH:mg "tuple"=none)(bC:mg "isinstance"=none)(T:dF K C)(lW:bx P w K mg base "is_cell_of" 2 ["rows","row","column"] (yJ K))(Av:bx P w K mg base "is_sign" 1 ["thing"] (Ob K)):bx P w K mg base "is_triple" 3 ["board","thing"] (abE C):=by calc D.cX N_ ?_;walk_at"b";obtain⟨b,a,t,r,w,ak,aK,bi,bj,rfl,BA,h,⟨c1,c2,c3⟩,q⟩:=h;obtain⟨⟨dx,pr,pm,pb,hb,hpr,hpm,hpb⟩,B⟩:=BA;calc⟨_,(aD (cC (QW.qt (lu (dB (cO (aQ dI xa bC cp (aj aR (aj (h_ (v:=.ty "tuple") xa bH ci RA) aq))))) (jK (cg Bm (aQ cL xa bG b7 (aj aR aq)) aB (bR _))))) (aF (aW gP)) bQ) (aF (aW (m7 (aY lW hr.mono RA (aj (dh aH RA) (aj (bB bU aR aB (λ_ _=>rfl)) (aj (bB bU aR aB (λ_ _=>rfl)) aq)))) (kI (aY Av hr.mono RA (aj (bB bU aR aB (λ_ _=>rfl)) aq))))))),?_⟩;calc JI _ _ _ true ⟨RA,.tup h,xb,bZ ⟨a,_,RA,.inr (aN.of h),RA,Ft RA ?_⟩⟩;calc JJ b C dx _ _ ⟨RA,hb,T.cl,T.nr,RA,a,_,_,_,RA,RA,aN.of h,aO (j:=0) RA,a,_,_,_,RA,RA,aN.of h,aO (j:=1) RA,pr,ak,r,w,_,_,RA,aN.of hpr,B.br,B.r1,B.r9,B.w9,aU _ RA ?_⟩;rw[ar (show (0:Int)<=t.1/\(t.1:Int)<r/\(0:Int)<=t.2.1/\(t.2.1:Int)<w from ⟨wT,wT,wT,wT⟩)];calc cQ (JI a _ _ _ ⟨RA,RA,aN.of h,aO (j:=2) RA,.inr ⟨_,RA,by show 1<=1000;decide,?_⟩⟩);rw[show GC [t.2.2]=true from c3];show q
def Pn (D:aJ K mg "is_laying" qQ ["board","thing"])(bG:mg "len"=none)(bH:mg "tuple"=none)(bC:mg "isinstance"=none)(d9:mg "all"=none)(vN:mg "zip"=none)(gZ:∃t,mg "MOST_TILES"=some (.int 7 t))(QK:bx P w K mg base "is_triple" 3 ["board","thing"] (abE C))(kh:bx P w K mg base "cells_of" 1 ["laying"] (xK K)):bx P w K mg base "is_laying" 4 ["board","thing"] (Ba C (λ_ _ _ _ _ ts=>(ts.map rk).Pairwise (·<·)) (.bl true)):=by
 calc D.cX uD ?_;walk_at"b";let⟨b,p,as,ts,r,w,ak,aK,bi,bj,rfl,O,hrk,q⟩:=h;let w9:=O.B.ok.w9;let bW:=O.L.len;let h1:=O.pos;let h7:=O.le;let hp:=O.tp;calc⟨_,(aD (cC (QW.qt (lu (dB (cO (aQ dI xa bC cp (aj aR (aj (h_ (v:=.ty "tuple") xa bH ci RA) aq))))) (jK (dB (xX nA nA aB (aQ cL xa bG b7 (aj aR aq)) (Lp xa gZ)))))) (aF (aW gP)) bQ) (aD (cC (dB (cO (aQ (i_ RA) xa d9 iR (aj (gw RA (fP.of uD.nd xb) (fJ aR) (λ_ _ _ _ _=>cH) (λ_ _ _ _ _=>(aY QK hr.mono RA (aj aR (aj aH aq))))) aq)))) (aF (aW gP)) bQ) (aD (aZ (i:=2) uD.nd RA (Or.inl RA) (aY kh hr.mono RA (aj aR aq))) (aF (aW (aQ (i_ RA) xa d9 iR (aj (fM (ns:=["cell","later"]) RA (fL.of ["board","thing","cells"] [] xb) (acn xa vN (aj bJ (aj (iZ Br bJ (g_ aB) oN) aq))) (λ_ _ _ _ _=>(HD K RA (show (["cell","later","board","thing","cells"]:List Str).Nodup by decide +kernel) RA RA xa xa)) (λ_ _ _ _ _=>cH) (λ_ _ _ _ _=>(fB (ae0 hr.aee) aH aR (bR _)))) aq))))))),?_⟩;calc JI _ _ _ true ⟨RA,.tup hp,xb,bZ ⟨p,_,RA,.inr (aN.of hp),_,_,RA,RA,aU true (by simp;lia) (cQ ⟨_,_,RA,RA,aU true (by simp;lia) (bZ ?_)⟩)⟩⟩;refine⟨p,RA,⟨_,aN.of hp⟩,λL hL=>ug (xs:=as.map V.ref) (λi ys H2=>ys=(List.replicate i true).map V.bl/\H2 L=some (.lst ys)/\aA H H2) ⟨RA,au,aA.upd hL⟩ (λi ys H2 _ h=>aN.of (h.2.2 _ _ hp)) ?_ ?_⟩
 .intro i x ys H2 hx z;let⟨rfl,hL2,sm⟩:=z;let hil:i<(as.map V.ref).length:=(al.mp hx).1;let hi:i<as.length:=by simpa using hil
  let hit:i<ts.length:=wT;rw[a_,ae hi]at hx;let hx:V.ref as[i]=x:=bb hx;subst hx;let⟨_,en⟩:=ji (O.L.mv sm) hit;show JS b (as[i]) (ts[i]) r w ak aK bi ⟨bj,RA,O.B.mv sm,en,O.Hg _ (aI hit),hL2,by rw[ab,dq];show aL wT,dM.mk hil ⟨oF i,au,sm.bI hL⟩⟩
 .intro ys H2 z;let⟨rfl,hL2,sm⟩:=z;calc⟨L,_,RA,aP.of hL2,?_⟩;rw[qD];calc JE p as ts ⟨RA,.inr (aN.of (sm _ _ hp)),O.L.mv sm,wT,λLc cs H3 s3 nLc hLc hcs=>?_⟩;let s03:=sm.trans s3;calc⟨_,RA,Lc,_,RA,aP.of hLc,λM hM=>?_⟩;let hcl:=hcs.len;rw[ab]at hcl;let eM:k_ (cs.map V.ref) (some 1) none=(cs.drop 1).map V.ref:=by
   unfold k_;rw[show (some (1:Int))=some (((1:Nat):Int)) from RA,HT.wG,HT.Zf,ab,p_ (show 1<=cs.length by lia),cx (by rw[cy,ab];lia),List.map_drop]
  rw[eM];let sM:aA H3 (upd H3 M (HO.lst ((cs.drop 1).map V.ref))):=aA.upd hM;let XR:upd H3 M (HO.lst ((cs.drop 1).map V.ref)) M=some (.lst ((cs.drop 1).map V.ref)):=au;let aaN:=sM _ _ hLc;let aaO:=hcs.mv sM;let s04:=s03.trans sM;generalize upd H3 M (HO.lst ((cs.drop 1).map V.ref))=H4 at sM XR aaN aaO s04 ⊢;refine⟨Lc,M,RA,⟨_,aP.of aaN⟩,⟨_,aP.of XR⟩,λN hN=>aeZ (f:=eY [] 0) (K:=K) (KT:=K) (a:=Lc) (b:=M) (tt:=gG) (xs:=cs.map V.ref) (ys:=(cs.drop 1).map V.ref) (by rw[ab,ab,cy];lia)
   (λn zs H5=>zs=(List.replicate n true).map V.bl/\H5 N=some (.lst zs)/\aA H4 H5)
   ⟨RA,au,aA.upd hN⟩ (λn zs H5 _ h=>⟨aP.of (h.2.2 _ _ aaN),aP.of (h.2.2 _ _ XR)⟩) ?_ ?_⟩
  .intro n x y zs H5 T hx hy z hT;let⟨rfl,Dq,zH⟩:=z;let kT:aA H5 (upd H5 T (HO.tup [x,y])):=aA.upd hT;rw[a_]at hx hy;let⟨a1,ha1,rfl⟩:=eK.mp hx;let⟨a2,ha2,rfl⟩:=eK.mp hy;rw[gu]at ha2;let⟨n1,ea1⟩:=al.mp ha1;let⟨n2,ea2⟩:=al.mp ha2;let⟨p1,g1,e1⟩:=aaO.get n1;let⟨p2,g2,e2⟩:=aaO.get n2;rw[ea1]at e1;rw[ea2]at e2;let m1:n<ts.length:=wT;let m2:1+n<ts.length:=wT;rw[a_,ae m1]at g1;rw[a_,ae m2]at g2;let g1:cA ts[n]=p1:=bb g1;let g2:cA ts[1+n]=p2:=bb g2;subst g1 g2;let b1:=(O.Hg _ (aI m1)).2.1;let b2:=(O.Hg _ (aI m2)).2.1;let hlt:rk ts[n]<rk ts[1+n]:=by
    have:=e8.mp hrk n (1+n) (by rw[ab];lia) (by rw[ab];lia) wT;simpa using this
   calc abo RA (aN.of au) ?_;calc JO a1 a2 _ _ _ _ ⟨RA,RA,kT _ _ (zH _ _ e1),kT _ _ (zH _ _ e2),by show ts[n].2.1<1000;lia,by show ts[1+n].2.1<1000;lia,kT _ _ Dq,by rw[ab,dq];show aL wT,dM.mk (by rw[ab,cy];lia) ⟨?_,au,(zH.trans kT).bI hN⟩⟩;rw[ar (show (cA ts[n]).1*1000+(cA ts[n]).2<(cA ts[1+n]).1*1000+(cA ts[1+n]).2 from hlt)];show oF n
  .intro zs H5 z;let⟨rfl,Dq,zH⟩:=z;calc⟨N,_,RA,aP.of Dq,?_⟩;rw[qD];show q H5 (s04.trans zH)
def S9:Sp:=λvs H Q _=>∃(t:Addr) (as:List Addr) (ts:List bK),vs=[.ref t]/\H t=some (.tup (as.map V.ref))/\dw H as ts/\ts.length<=7/\(∃j,∀t∈ts,t.2.1=j)/\∀H',aA H H'->Q (.bl true) H'
def Vj (D:aJ K mg "is_down" vB ["laying"])(d9:mg "all"=none):bx P w K mg base "is_down" 1 ["laying"] S9:=by
 calc D.cX UG ?_;intro f bD A outer s H vs Q E hr h;obtain⟨t,as,ts,rfl,ht,hL,h7,⟨j,hj⟩,q⟩:=h;let hal:=hL.len;calc⟨_,(aF (aW (aQ (i_ RA) xa d9 iR (aj (fM (ns:=["row","column","sign"]) RA (fL.of ["laying"] [] xb) (fJ aH) (λ_ _ _ _ _=>(mH K RA (show (["row","column","sign","laying"]:List Str).Nodup by decide +kernel) RA RA RA xa xa xa)) (λ_ _ _ _ _=>cH) (λ_ _ _ _ _=>(fB jF aR (bB (kY K) (bB (kY K) cj aB (λ_ _=>rfl)) aB (λ_ _=>rfl)) (bR _)))) aq)))),?_⟩;refine⟨t,RA,⟨_,aN.of ht⟩,λN hN=>jY (K:=K) (KT:=K) (a:=t) (f:=eY [] 0) (tt:=gG) (xs:=as.map V.ref) (λn ys H3=>ys=(List.replicate n true).map V.bl/\H3 N=some (.lst ys)/\aA H H3)
  ⟨RA,au,aA.upd hN⟩ (λn ys H3 _ h=>aN.of (h.2.2 _ _ ht)) ?_ ?_⟩
 .intro n x ys H3 hx z;let⟨rfl,uP,sm3⟩:=z;let⟨hn,hx⟩:=rfg hx;let hnt:n<ts.length:=wT;let h0:0<ts.length:=wT;let⟨_,en⟩:=ji (hL.mv sm3) hnt;let⟨g0,e0⟩:=ji (hL.mv sm3) h0;calc sS hx.symm (aN.of en) ?_;calc JI t _ _ (.ref as[0]) ⟨RA,RA,aN.of (sm3 _ _ ht),aO (j:=0) (by simp[g0]),as[0],_,_,_,RA,RA,aN.of e0,aO (j:=1) RA,RA,uP,by rw[ab,dq];show aL wT,dM.mk (by rw[ab];show hn) ⟨?_,au,sm3.bI hN⟩⟩;rw[hj _ (aI hnt),hj _ (aI h0),ar rfl];show oF n
 .intro ys H3 z;let⟨rfl,uP,sm3⟩:=z;calc⟨N,_,RA,aP.of uP,?_⟩;rw[qD];show q H3 sm3
def Es {ak:AA}{r w i j:Nat}(hi:i<r)(hj:j<w):atC ak r w (i:Int) (j:Int)=cell ak i j:=by unfold atC cell;rw[if_pos ⟨wT,wT,wT,wT⟩,de,de]
def Vk (r w:Nat)(ak:AA)(_ _:Nat)(ts:List bK):Prop:=∀t∈ts,atC ak r w t.1 t.2.1=46
def Ld (D:aJ K mg "check_free" pF ["board","laying"])(cP:∃t,mg "FREE"=some (.str (S [46]) t))(bF:dF K C)(iJ:Meth K C "at" f1)(iK:cJ P w K mg base fG 3 f1 jg ["self","row","column"] (Oj C))(iM:cu K jg ["self","row","column"] []):bx P w K mg base "check_free" 5 ["board","laying"] (Ba C Vk .non):=by
 calc D.cX nJ ?_;intro f bD A outer s H vs Q E hr h;let⟨b,t,as,ts,r,w,ak,aK,bi,bj,rfl,O,hfr,q⟩:=h;let hal:=O.L.len;calc⟨_,(aF (d7 cq RA (fJ aR) (o_ RA (cU (bY (i:=2) nJ.nd RA (Or.inl RA)) (cU (bY (i:=3) nJ.nd RA (Or.inl RA)) (cU (bY (i:=4) nJ.nd RA (Or.inl RA)) mG)))) (aF (cC (cg zU (iV aH bF.cl iJ iK hr.mono iM .nil fZ (aj bJ (aj cj aq))) (jX xa cP) (bR _)) iQ bQ)))),?_⟩;refine⟨t,RA,⟨_,aN.of O.tp⟩,qp (K:=K) (a:=t) (xs:=as.map V.ref) (λn σ H'=>∃v2 v3 v4:Option V,σ=[some (.ref b),some (.ref t),v2,v3,v4]/\aA H H')
  (JE none none none ⟨RA,aA.refl _⟩) (λn σ H' _ h=>by let⟨_,_,_,_,sm⟩:=h;show aN.of (sm _ _ O.tp)) ?_ ?_⟩
 .intro n x σ H' hx z;let⟨v2,v3,v4,rfl,sm⟩:=z;let⟨hn,hx⟩:=rfg hx;let hnt:n<ts.length:=wT;subst hx;let⟨_,en⟩:=ji (O.L.mv sm) hnt;let BA':=O.B.mv sm;let⟨dx0,_,_,_,ex,_⟩:=id BA'.ex;calc⟨as[n],_,RA,aN.of en,RA,_,_,RA,_,_,RA,_,_,RA,RA,?_⟩;calc JE b dx0 _ ⟨RA,ex,RA,b,r,w,ak,aK,bi,bj,_,_,RA,BA',[_],[46],RA,RA,aU _ RA ?_⟩;rw[hfr _ (aI hnt)];show bZ (JE _ _ _ ⟨RA,sm⟩)
 .intro σ H' z;let⟨v2,v3,v4,rfl,sm⟩:=z;show q H' sm
def ada (h:G_ ts)(h0:iT ts≠0):∃j,∀t∈ts,t.2.1=j:=by
 rcases h with⟨i,h,_⟩|⟨j,h,_⟩
 .calc absurd ?_ h0;unfold iT;rw[if_pos];cases ts with| nil=>rfl| cons a l=>rw[List.head?_cons,List.getLast?_eq_some_getLast w8,ja,ja,h a aE,h _ (List.getLast_mem w8)]
 .show⟨j,h⟩
def abF:Sp:=λvs H Q _=>∃(t:Addr) (as:List Addr) (ts:List bK),vs=[.ref t]/\H t=some (.tup (as.map V.ref))/\dw H as ts/\0<ts.length/\ts.length<=7/\G_ ts/\∀H',aA H H'->Q .non H'
def CN (D:aJ K mg "check_straight" j6 ["laying"])(wz:bx P w K mg base "is_across" 1 ["laying"] Jg)(Ys:bx P w K mg base "is_down" 1 ["laying"] S9):bx P w K mg base "check_straight" 3 ["laying"] abF:=by
 calc D.cX CG ?_;walk_at"b";let⟨t,as,ts,rfl,ht,hL,h0,h7,hl,q⟩:=h;calc⟨_,(aF (cC (QW.qt (MF (dB (cO (aY wz hr.mono RA (aj aH aq)))) (Hy (dB (cO (aY Ys hr.mono RA (aj aH aq))))))) iQ bQ)),?_⟩;calc JE t as ts ⟨RA,ht,hL,h0,h7,hl.one,λH1 s1=>(aU _ RA ?_)⟩;by_cases ha:iT ts=0
 .rw[ar ha];show bZ (bZ (q H1 s1))
 .rw[am ha];show cQ (JE t as ts ⟨RA,s1 _ _ ht,hL.mv s1,h7,ada hl ha,λH2 s2=>(q H2 (s1.trans s2))⟩)
def aaP (_ _:Nat)(ak:AA)(_ _:Nat)(ts:List bK):Prop:=∀a∈ts.head?,∀b∈ts.getLast?,∀i j,a.1<=i->i<=b.1->a.2.1<=j->j<=b.2.1->cell (bO ak ts) i j≠46
def Le (D:aJ K mg "check_gaps" pG ["board","laying"])(dD:mg "range"=none)(cP:∃t,mg "FREE"=some (.str (S [46]) t))(bF:dF K C)(iJ:Meth K C "at" f1)(iK:cJ P w K mg base fG 3 f1 jg ["self","row","column"] (Oj C))(iM:cu K jg ["self","row","column"] [])(lZ:Meth K C "laid" f2)(mj:cJ P w K mg base fG 8 f2 fd2 ["self","laying"] (GK C))(mq:cu K fd2 ["self","laying"] []):bx P w K mg base "check_gaps" 10 ["board","laying"] (Ba C aaP .non):=by
 calc D.cX nO ?_;walk_at"b";let⟨b,t,as,ts,r,w,ak,aK,bi,bj,rfl,O,hno,q⟩:=h;let hal:=O.L.len;let r9:=O.B.ok.r9;let w9:=O.B.ok.w9;let h0:=O.pos;let⟨dx,_,_,_,ex,_⟩:=id O.B.ex;calc⟨_,(aD (aZ (i:=2) nO.nd RA (Or.inl RA) (iV aH bF.cl lZ mj hr.mono mq .nil fZ (aj aR aq))) (aF (d7 cq RA (JQ xa dD (aj (bB bU (bB bU aR aB (λ_ _=>rfl)) aB (λ_ _=>rfl)) (aj (aX dj (bB bU (bB bU aR (abm VN aB) (λ_ _=>rfl)) aB (λ_ _=>rfl)) aB) aq))) (bY (i:=3) nO.nd RA (Or.inl RA)) (aF (d7 cq RA (JQ xa dD (aj (bB bU (bB bU aR aB (λ_ _=>rfl)) aB (λ_ _=>rfl)) (aj (aX dj (bB bU (bB bU aR (abm VN aB) (λ_ _=>rfl)) aB (λ_ _=>rfl)) aB) aq))) (bY (i:=4) nO.nd RA (Or.inl RA)) (aF (cC (cg wJ (iV bJ bF.cl iJ iK hr.mono iM .nil fZ (aj cj (aj cD aq))) (jX xa cP) (bR _)) iQ bQ))))))),?_⟩;calc JE b dx _ ⟨RA,ex,RA,b,t,as,ts,r,w,ak,aK,bi,bj,RA,O.B,O.tp,O.L,O.Hg,λx1 H1 s1 B1=>?_⟩;let hno:=hno ts[0] (by rw[r8,ae h0];rfl) ts[ts.length-1] (by rw[vF,ae wT];rfl);let⟨a1,a2,_⟩:=O.Hg _ (aI h0);let⟨l1,l2,_⟩:=O.Hg _ (aI (show ts.length-1<ts.length by lia));let hL1:=O.L.mv s1;let ht1:=s1 _ _ O.tp;let⟨g0,e0⟩:=ji hL1 h0;let⟨gl,el⟩:=ji hL1 (show ts.length-1<ts.length by lia);let eal:as.length-1=ts.length-1:=wT;let Lr:jC (as.map V.ref) (-1)=some (.ref as[ts.length-1]):=by rw[ac_ (show 0<as.length by lia)];simp only[eal]
 generalize hR:bO ak ts=R at B1 hno;generalize ef:ts[0]=ff at e0 hno a1 a2;generalize eg:ts[ts.length-1]=ll at el hno l1 l2;calc JI t _ _ (.ref as[0]) ⟨RA,RA,aN.of ht1,aO (j:=0) (by simp[g0]),as[0],_,_,_,RA,RA,aN.of e0,aO (j:=0) RA,_,RA,t,_,_,.ref as[ts.length-1],RA,RA,aN.of ht1,Lr,as[ts.length-1],_,_,_,RA,RA,aN.of el,aO (j:=0) RA,_,_,RA,RA,(ff.1:Int),(ll.1:Int)+1,RA,⟨wT,wT,wT,wT⟩,?_⟩;refine lM (lo:=(ff.1:Int)) (λn σ H'=>∃v3 v4:Option V,σ=[some (.ref b),some (.ref t),some (.ref x1),v3,v4]/\aA H1 H')
  ⟨none,none,RA,aA.refl _⟩ ?_ ?_
 .intro n σ H' hn z;let⟨v3,v4,rfl,sm⟩:=z;let hn2:ff.1+n<=ll.1:=wT;let en:(ff.1:Int)+(n:Int)=((ff.1+n:Nat):Int):=wT;rw[en];let Dl:=sm _ _ ht1;calc JI t _ _ (.ref as[0]) ⟨RA,RA,aN.of Dl,aO (j:=0) (by simp[g0]),as[0],_,_,_,RA,RA,aN.of (sm _ _ e0),aO (j:=1) RA,_,RA,t,_,_,.ref as[ts.length-1],RA,RA,aN.of Dl,Lr,as[ts.length-1],_,_,_,RA,RA,aN.of (sm _ _ el),aO (j:=1) RA,_,_,RA,RA,(ff.2.1:Int),(ll.2.1:Int)+1,RA,⟨wT,wT,wT,wT⟩,?_⟩;refine lM (lo:=(ff.2.1:Int)) (λm σ H2=>∃v4:Option V,σ=[some (.ref b),some (.ref t),some (.ref x1),some (.int ((ff.1+n:Nat):Int)),v4]/\aA H1 H2)
   ⟨_,RA,sm⟩ ?_ ?_
  .intro m σ H2 hm z;let⟨v4,rfl,vI⟩:=z;let hm2:ff.2.1+m<=ll.2.1:=wT;let em:(ff.2.1:Int)+(m:Int)=((ff.2.1+m:Nat):Int):=wT;rw[em];let B2:=B1.mv vI;let⟨Ow,_,_,_,X7,_⟩:=id B2.ex;calc JE x1 Ow _ ⟨RA,X7,RA,x1,r,w,R,aK,bi,bj,_,_,RA,B2,[_],[46],RA,RA,aU _ RA ?_⟩;rw[Es (show ff.1+n<r by lia) (show ff.2.1+m<w by lia),am (show ¬[cell R (ff.1+n) (ff.2.1+m)]=[46] from λz=>hno _ _ wT hn2 wT hm2 (by injection z))];show bZ ⟨_,RA,vI⟩
  .intro σ H2 z;let⟨v4,rfl,vI⟩:=z;show⟨_,_,RA,vI⟩
 .intro σ H' z;let⟨v3,v4,rfl,sm⟩:=z;show q H' (s1.trans sm)
def Vl (r w:Nat)(ak:AA)(bi bj:Nat)(ts:List bK):Prop:=∃t∈ts,cA t∈cM ak r w bi bj
open Classical in
def Hh (D:aJ K mg "check_joined" mK ["board","laying"])(pN:mg "any"=none)(bF:dF K C)(pP:Meth K C "is_free" f1)(pQ:cJ P w K mg base fG 1 f1 jg ["self"] (Ol C))(pR:cu K jg ["self"] [])(kh:bx P w K mg base "cells_of" 1 ["laying"] (xK K))(mC:bx P w K mg base "is_next_to_taken" 4 ["board","row","column"] (GR C)):bx P w K mg base "check_joined" 7 ["board","laying"] (Ba C Vl .non):=by
 calc D.cX pH ?_;walk_at"b";obtain⟨b,t,as,ts,r,w,ak,aK,bi,bj,rfl,O,⟨u,hu,hk⟩,q⟩:=h;let hal:=O.L.len;let h7:=O.le;let⟨dx,pr,pm,pb,ex,_,_,hpb⟩:=id O.B.ex;calc⟨_,(aD (z_ (cC (cO (ud aH bF.cl pP pQ hr.mono pR .nil fZ)) (aF (aZ (i:=2) pH.nd RA (Or.inl RA) (fB (acp hr.units) (dh aH RA) (aY kh hr.mono RA (aj aR aq)) RA))) (aF (aZ (i:=2) pH.nd RA (Or.inl RA) (aQ (DP RA) xa pN zX (aj (fM (ns:=["row","column","sign"]) RA (fL.of ["board","laying","joined"] [] xb) (fJ aR) (λ_ _ _ _ _=>(mH K RA (show (["row","column","sign","board","laying","joined"]:List Str).Nodup by decide +kernel) RA RA RA xa xa xa)) (λ_ _ _ _ _=>cH) (λ_ _ _ _ _=>(aY mC hr.mono RA (aj cj (aj aH (aj aR aq)))))) aq)))))) (aF (cC (dB (cO bJ)) iQ bQ))),?_⟩;unfold cM at hk;refine⟨λσ H'=>aA H H'/\σ=[some (.ref b),some (.ref t),some (.bl true)],?_,?_⟩
 .calc JE b dx _ ⟨RA,ex,RA,b,r,w,ak,aK,bi,bj,RA,O.B,λH1 s1=>(aU _ RA ?_)⟩;cases hf:isFree ak with
  | true=>
   rw[if_pos hf]at hk;calc cQ (JJ b C dx _ _ ⟨RA,s1 _ _ ex,bF.cl,bF.nb,RA,t,as,ts,RA,.inr (aN.of (s1 _ _ O.tp)),O.L.mv s1,wT,λLc cs H2 s2 nLc hLc hcs=>?_⟩);let ahx:=s2 _ _ (s1 _ _ hpb);cases hcs.has (K:=K) hLc with| lst hq hs=>calc JE 2 (vL (bi,bj)) ((ts.map cA).map vL) ⟨w_,.tup (aN.of ahx) (.cons (.int _) (.cons (.int _) .nil)),.lst hq hs,?_⟩;calc⟨s1.trans s2,?_⟩;rw[ar (Cr.mpr (aw.mpr ⟨u,hu,ap.mp hk⟩))];rfl
  | false=>
   rw[if_neg (by rw[hf];decide)]at hk;refine bZ ⟨t,RA,⟨_,aN.of (s1 _ _ O.tp)⟩,λN hN=>jY (K:=K) (KT:=K) (a:=t) (f:=eY [] 0) (tt:=gG) (xs:=as.map V.ref) (λn ys H3=>ys=((ts.take n).map λt=>Ax ak r w t.1 t.2.1).map V.bl/\H3 N=some (.lst ys)/\aA H1 H3)
    ⟨RA,au,aA.upd hN⟩ (λn ys H3 _ h=>aN.of (h.2.2 _ _ (s1 _ _ O.tp))) ?_ ?_⟩
   .intro n x ys H3 hx z;let⟨rfl,uP,sm3⟩:=z;let⟨hn,hx⟩:=rfg hx;let hnt:n<ts.length:=wT;let s03:=s1.trans sm3;let⟨_,en⟩:=ji (O.L.mv s03) hnt;calc sS hx.symm (aN.of en) ?_;calc JS b r w ak aK bi bj _ ⟨_,RA,O.B.mv s03,λH4 s4=>⟨s4 _ _ uP,?_,dM.mk (by rw[ab];show hn) ⟨?_,au,(sm3.trans s4).bI hN⟩⟩⟩;.rw[ab,ab,be];show aL wT
    .rw[show ts.take (n+1)=ts.take n++[ts[n]] by rw[bP,ae hnt];rfl,bz,bz];rfl
   .intro ys H3 z;let⟨rfl,uP,sm3⟩:=z;calc⟨N,_,RA,aP.of uP,s1.trans sm3,?_⟩;rw[ab,hal,cK,List.any_map];rw[show ts.any (id ∘ λt=>Ax ak r w t.1 t.2.1)=true from sh.mpr ⟨u,hu,(Eo.mp hk).2.2⟩];rfl
 .rintro σ H' ⟨sm,rfl⟩;show(q H' sm)
def Yt:Sp:=λvs H Q _=>∃c:Nat,vs=[.str (S [c])]/\c<128/\Q (.str (S [cI c])) H
def Vm (D:aJ K mg "tile_of" rA ["sign"]):bx P w K mg base "tile_of" 1 ["sign"] Yt:=by
 calc D.cX Gs ?_;walk_at"b";let⟨c,rfl,hc,q⟩:=h;calc⟨_,(aF (aW (oA (xX qZ qZ (cF [65] xc) aH (cF [90] xc)) (cF [63] xc) aH))),?_⟩;calc⟨[65],[c],RA,RA,?_⟩;rw[Uv];unfold cI at q;by_cases h1:65<=c
 .rw[ar h1];calc⟨[c],[90],RA,RA,?_⟩;rw[Uv];by_cases h2:c<=90
  .rw[if_pos ⟨h1,h2⟩]at q;rw[ar h2];show q
  .rw[if_neg λz=>h2 z.2]at q;rw[am h2];show q
 .rw[if_neg λz=>h1 z.1]at q;rw[am h1];show q
def Jh (us:List Nat):List Nat->Prop
 | []=>True
 | c::cs=>cI c∈us/\Jh (us.erase (cI c)) cs
def Vn (us)(c):(ones us).erase [c]=ones (us.erase c):=by
 induction us with
 | nil=>rfl
 | cons a l ih=>
  show ([a]::ones l).erase [c]=_;by_cases h:a=c;.subst h;simp
  .rw[oQ (by simpa using h),oQ (by simpa using h),ih];rfl
def Yu:Sp:=λvs H Q _=>∃(oG signs:List Nat),vs=[.str (S oG),.str (S signs)]/\oG.length<=63/\(∀c∈signs,c<128)/\Jh oG signs/\∀(l:List Nat) (H':Hp),aA H H'->Q (.str (S l)) H'
def Vo (D:aJ K mg "left_of" vq ["rack","signs"])(gW:mg "list"=none)(dZ:mg "sorted"=none)(Yv:bx P w K mg base "tile_of" 1 ["sign"] Yt):bx P w K mg base "left_of" 3 ["rack","signs"] Yu:=by
 calc D.cX sW ?_;walk_at"b";let⟨oG,signs,rfl,h63,hsg,hfit,q⟩:=h;calc⟨_,(aD (aZ (i:=2) sW.nd RA (Or.inl RA) (cW (yd RA) xa gW kG (aj aH aq))) (aD (d7 cq RA (wL aR) (bY (i:=3) sW.nd RA (Or.inl RA)) (aD (aZ (i:=4) sW.nd RA (Or.inl RA) (aY Yv hr.mono RA (aj cj aq))) (aD (cC (cg Mr cD bJ RA) iQ bQ) (aF (eE (eX di PySem.F.slot_list_remove PySem.F.type_list_remove Wr bJ (aj cD aq))))))) (aF (aW (eX bS eR eW oM (cF [] xc) (aj (aQ zZ xa dZ ib (aj bJ aq)) aq)))))),?_⟩;calc⟨oG,RA,wT,λL hL=>?_⟩;calc⟨signs,RA,?_⟩;refine acd (λi σ H2=>∃(v3 v4:Option V) (us:List Nat),σ=[some (.str (S oG)),some (.str (S signs)),some (.ref L),v3,v4]/\aA H H2/\H2 L=some (.lst (Ts (ones us)))/\us.length<=63/\Jh us (signs.drop i))
  (JE none none oG ⟨RA,aA.upd hL,au,h63,hfit⟩) ?_ ?_
 .intro i c σ H2 hc z;let⟨v3,v4,us,rfl,sm,hL2,hul,hf⟩:=z;let hcs:=hsg c (aS hc);let⟨hi,hci⟩:=al.mp hc;rw[i7 hi,hci]at hf;let⟨hm,hf⟩:=hf;calc⟨c,RA,hcs,?_⟩;calc⟨L,Ts (ones us),RA,.inl (aP.of hL2),RA,by simp[Ts,qK],?_⟩;rw[R6,ar hm];calc⟨.inl ⟨RA,_,aP.of hL2⟩,L,ones us,[cI c],RA,RA,hL2,cz hm,by rw[ab];lia,?_⟩;rw[Vn];calc JE _ _ (us.erase (cI c)) ⟨RA,sm.bI hL,au,?_,hf⟩;have:=(List.erase_sublist (a:=cI c) (l:=us)).length_le;lia
 .intro σ H2 z;let⟨v3,v4,us,rfl,sm,hL2,hul,_⟩:=z;calc⟨RA,L,ones us,RA,aP.of hL2,by rw[ab];lia,λp ws hp pm _=>?_⟩;calc⟨p,ws,RA,RA,aP.of au,?_,q _ _ (sm.bI (sm.free hp))⟩;rw[pm.flatten.length_eq,j_];lia
def Vp {ts:List bK}(h:ts.length<=7):(uO ak ts).length<=100:=by calc a8 (i6 _ _) ?_;rw[ab];unfold wu;rw[av,ab,ab,be];lia
def dQ (q:yV):Dt:=.tup [.int q.1,.int q.2.1,.int q.2.2.1,.str q.2.2.2]
theorem dJ.ofQ:∀{bs:List Addr} {qs:List yV},QL H bs qs->(∀q∈qs,∀c∈q.2.2.2,c<128)->dJ K H 1 (qs.map dQ) (bs.map V.ref)
 | [],[],_,_=>.nil
 | [],_::_,h,_=>by have:=h.len;simp at this
 | _::_,[],h,_=>by have:=h.len;simp at this
 | a::cs,c::cc,h,g=>.cons (.tup (aN.of (h.at_ 0 a c RA RA)) (.cons (.int _) (.cons (.int _) (.cons (.int _) (.cons (.str _ (g c aE)) .nil))))) (dJ.ofQ ⟨by have:=h.len;simpa using this,λi a x h1 h2=>h.at_ (i+1) a x h1 h2⟩ λq hq=>g q (ay _ hq))
def agG (h:isLet (PyProof.Rows.lo1 c)):c<128:=by unfold PyProof.Rows.lo1 isLet at h;split at h <;> lia
structure aaQ (ak ws:AA)(ts:List bK):Prop where
 ne:uO ak ts≠[]
 mem:∀q∈uO ak ts,q.2.2.2.map PyProof.Rows.lo1∈ws
def abG (C CB:Addr):Sp:=λvs H Q _=>∃(b k d t:Addr) (ws:AA) (as:List Addr) (ts:List bK) (r w:Nat) (ak aK:AA) (bi bj:Nat),vs=[.ref b,.ref k,.ref t]/\S8 C H b t as ts r w ak aK bi bj/\kO CB H k d ws/\G9 ts/\aaQ ak ws ts/\∀H',aA H H'->Q .non H'
open Classical in
def Ji (D:aJ K mg "check_words" nP ["board","book","laying"])(uH:oR K CB)(yL:Meth K CB "has" f1)(yM:cJ P w K mg base fG 1 f1 jg ["self","text"] (Ly CB))(yN:cu K jg ["self","text"] [])(aaR:bx P w K mg base "formed" 10 ["board","laying"] (Pj C)):bx P w K mg base "check_words" 12 ["board","book","laying"] (abG C CB):=by
 calc D.cX gK ?_;walk_at"b";obtain⟨b,k,d,t,ws,as,ts,r,w,ak,aK,bi,bj,rfl,O,BK,hl1,⟨wne,win⟩,q⟩:=h;let hwl:=Vp (ak:=ak) O.le;let hW9:∀q∈uO ak ts,q.2.2.2.length<=9/\∀c∈q.2.2.2,c<128:=λq hq=>by have:=BK.az _ (win q hq);show⟨by have:=this.hi;rwa [ab]at this,λc hc=>agG (this.az _ (cz hc))⟩
 calc⟨_,(aD (aZ (i:=3) gK.nd RA (Or.inl RA) (aY aaR hr.mono RA (aj aH (aj bJ aq)))) (aD (cC (cg (wN hr.units) cj (dg aq) (bR _)) iQ bQ) (aF (d7 cq RA (fJ cj) (o_ RA (cU (bY (i:=4) gK.nd RA (Or.inl RA)) (cU (bY (i:=5) gK.nd RA (Or.inl RA)) (cU (bY (i:=6) gK.nd RA (Or.inl RA)) (cU (bY (i:=7) gK.nd RA (Or.inl RA)) mG))))) (aD (aZ (i:=8) gK.nd RA (Or.inl RA) (zV bS on oo Fz jV)) (aF (cC (dB (cO (iV aR uH.cl yL yM hr.mono yN .nil fZ (aj iI aq)))) iQ bQ))))))),?_⟩;calc JS b t as ts r w ak aK ⟨bi,bj,RA,O.B,O.tp,O.L,O.Hg,O.pos,O.le,hl1,λT1 b1 H1 s1 hT1 hQ1=>?_⟩;generalize hW:uO ak ts=W at wne win hwl hW9 hQ1;calc⟨zsz 0,λZ hZ=>?_⟩;let sZ:aA H1 (upd H1 Z (HO.tup [])):=aA.upd hZ;let eZ:upd H1 Z (HO.tup []) Z=some (.tup []):=au;let hT2:=sZ _ _ hT1;let hQ2:=hQ1.mv sZ;let s02:=s1.trans sZ;generalize upd H1 Z (HO.tup [])=H2 at sZ eZ hT2 hQ2 s02 ⊢;calc JE 2 (.tup (W.map dQ)) (.tup []) ⟨w_,.tup (aN.of hT2) (dJ.ofQ hQ2 λq hq=>(hW9 q hq).2),.tup (aN.of eZ) .nil,aU _ RA ?_⟩;let jD:=hQ2.len;let hne:¬(Dt.tup (W.map dQ)=Dt.tup []):=λz=>by injection z with z;show wne (pM.mp z)
 rw[am hne];refine bZ ⟨T1,RA,⟨_,aN.of hT2⟩,qp (K:=K) (a:=T1) (xs:=b1.map V.ref) (λn σ H'=>∃v4 v5 v6 v7 v8:Option V,σ=[some (.ref b),some (.ref k),some (.ref t),some (.ref T1),v4,v5,v6,v7,v8]/\aA H2 H')
  (JJ none none none none none ⟨RA,aA.refl _⟩) (λn σ H' _ h=>by let⟨_,_,_,_,_,_,sm⟩:=h;show aN.of (sm _ _ hT2)) ?_ ?_⟩
 .intro n x σ H' hx z;let⟨v4,v5,v6,v7,v8,rfl,sm⟩:=z;let⟨hn,hx⟩:=rfg hx;let hnW:n<W.length:=wT;subst hx;let en:=(hQ2.mv sm).at_ n _ _ (ae hn) (ae hnW);let hm:=aI hnW;let⟨h9,hlt⟩:=hW9 _ hm;calc⟨b1[n],_,RA,aN.of en,RA,_,_,RA,_,_,RA,_,_,RA,_,_,RA,RA,?_⟩;calc⟨RA,W[n].2.2.2,RA,RA,wT,hlt,?_⟩;let BK':=BK.same (s02.trans sm);let⟨dk,ek⟩:=BK'.ob;calc JE k dk _ ⟨RA,ek,RA,k,d,ws,_,RA,BK',aU _ RA ?_⟩;rw[ar (win _ hm)];show bZ (JJ _ _ _ _ _ ⟨RA,sm⟩)
 .intro σ H' z;let⟨v4,v5,v6,v7,v8,rfl,sm⟩:=z;show q H' (s02.trans sm)
structure Yw (r w:Nat)(ak:AA)(bi bj:Nat)(ws:AA)(oG:List Nat)(ts:List bK):Prop where
 rk:(ts.map My.rk).Pairwise (·<·)
 free:Vk r w ak bi bj ts
 line:G_ ts
 gap:aaP r w ak bi bj ts
 join:Vl r w ak bi bj ts
 fit:Jh oG (ts.map (·.2.2))
 wd:aaQ ak ws ts
def S_ (C CB:Addr):Sp:=λvs H Q _=>∃(b k d t:Addr) (ws:AA) (oG:List Nat) (as:List Addr) (ts:List bK) (r w:Nat) (ak aK:AA) (bi bj:Nat),vs=[.ref b,.ref k,.str (S oG),.ref t]/\S8 C H b t as ts r w ak aK bi bj/\kO CB H k d ws/\oG.length<=63/\Yw r w ak bi bj ws oG ts/\∀H',aA H H'->Q .non H'
def Hi (D:aJ K mg "check_laying" mL ["board","book","rack","laying"])(QM:bx P w K mg base "is_laying" 4 ["board","thing"] (Ba C (λ_ _ _ _ _ ts=>(ts.map rk).Pairwise (·<·)) (.bl true)))(Pq:bx P w K mg base "check_free" 5 ["board","laying"] (Ba C Vk .non))(Et:bx P w K mg base "check_straight" 3 ["laying"] abF)(Pr:bx P w K mg base "check_gaps" 10 ["board","laying"] (Ba C aaP .non))(Jj:bx P w K mg base "check_joined" 7 ["board","laying"] (Ba C Vl .non))(Yx:bx P w K mg base "left_of" 3 ["rack","signs"] Yu)(Lf:bx P w K mg base "check_words" 12 ["board","book","laying"] (abG C CB)):bx P w K mg base "check_laying" 14 ["board","book","rack","laying"] (S_ C CB):=by
 calc D.cX Gu ?_;intro f bD A outer s H vs Q E hr h;let⟨b,k,d,t,ws,oG,as,ts,r,w,ak,aK,bi,bj,rfl,O,BK,h63,N,q⟩:=h;let hal:=O.L.len;let h7:=O.le;let hft:=N.fit;let hl1:=N.line.one;let hwd:=N.wd;calc⟨_,(aD (cC (dB (cO (aY QM hr.mono RA (aj aH (aj cj aq))))) iQ bQ) (aD (eE (aY Pq hr.mono RA (aj aH (aj cj aq)))) (aD (eE (aY Et hr.mono RA (aj cj aq))) (aD (eE (aY Pr hr.mono RA (aj aH (aj cj aq)))) (aD (eE (aY Jj hr.mono RA (aj aH (aj cj aq)))) (aD (eE (aY Yx hr.mono RA (aj bJ (aj (eX bS eR eW oM (cF [] xc) (aj (fM (ns:=["row","column","sign"]) RA (fL.of ["board","book","rack","laying"] [] xb) (fJ cj) (λ_ _ _ _ _=>(mH K RA (show (["row","column","sign","board","book","rack","laying"]:List Str).Nodup by decide +kernel) RA RA RA xa xa xa)) (λ_ _ _ _ _=>cH) (λ_ _ _ _ _=>bJ)) aq)) aq)))) (aF (eE (aY Lf hr.mono RA (aj aH (aj aR (aj cj aq)))))))))))),?_⟩;calc JS b t as ts r w ak aK ⟨bi,bj,RA,O,N.rk,λH1 s1=>(aU _ RA (bZ ?_))⟩;calc JS b t as ts r w ak aK ⟨bi,bj,RA,O.mv s1,N.free,λH2 s2=>?_⟩;let O2:=(O.mv s1).mv s2;calc JE t as ts ⟨RA,O2.tp,O2.L,O.pos,h7,N.line,λH3 s3=>?_⟩;let O3:=O2.mv s3;calc JS b t as ts r w ak aK ⟨bi,bj,RA,O3,N.gap,λH4 s4=>?_⟩;let O4:=O3.mv s4;calc JS b t as ts r w ak aK ⟨bi,bj,RA,O4,N.join,λH5 s5=>?_⟩;let O5:=O4.mv s5;let s05:=(((s1.trans s2).trans s3).trans s4).trans s5;refine⟨RA,t,RA,⟨_,aN.of O5.tp⟩,λN hN=>jY (K:=K) (KT:=K) (a:=t) (f:=eY [] 0) (tt:=gG) (xs:=as.map V.ref) (λn ys H6=>ys=Ts (ones ((ts.take n).map (·.2.2)))/\H6 N=some (.lst ys)/\aA H5 H6)
  ⟨RA,au,aA.upd hN⟩ (λn ys H6 _ h=>aN.of (h.2.2 _ _ O5.tp)) ?_ ?_⟩
 .intro n x ys H6 hx z;let⟨rfl,hN6,zG⟩:=z;let⟨hn,hx⟩:=rfg hx;let hnt:n<ts.length:=wT;let⟨_,en⟩:=ji (O5.L.mv zG) hnt;calc sS hx.symm (aN.of en) ?_;calc⟨hN6,?_,dM.mk (by rw[ab];show hn) ⟨?_,au,zG.bI hN⟩⟩;.rw[ab,ab,ab,be];show aL wT
  .rw[show ts.take (n+1)=ts.take n++[ts[n]] by rw[bP,ae hnt];rfl];simp only[Ts,ones,bz];rfl
 .intro ys H6 z;let⟨rfl,hN6,zG⟩:=z;rw[ab,hal,cK]at hN6;calc⟨N,ones (ts.map (·.2.2)),RA,RA,aP.of hN6,by rw[j_,ab];lia,?_⟩;rw[j_];refine⟨oG,ts.map (·.2.2),RA,h63,λc hc=>?_,hft,λl H7 s7=>?_⟩
  .let⟨u,hu,rfl⟩:=aw.mp hc;show(O.Hg u hu).2.2.lt
  let s07:=(s05.trans zG).trans s7;show JS b k d t ws as ts r ⟨w,ak,aK,bi,bj,RA,O.mv s07,BK.same s07,hl1,hwd,λH8 s8=>q H8 (s07.trans s8)⟩
def Tc {r w:Nat}{A B:AA}(ha:Blk r w A)(hb:Blk r w B)(h:∀i j,i<r->j<w->cell A i j=cell B i j):A=B:=by
 apply ph;.rw[ha.len,hb.len]
 .intro i h1 h2;let wa:=ha.ju A[i] (aI _);let wb:=hb.ju B[i] (aI _);let hr:i<r:=by rw[<-ha.len];show h1
  apply ph;.rw[wa,wb]
  .intro j h3 h4;have:=h i j hr wT;rw[cell_eq h1 h3,cell_eq h2 h4]at this;show this
def set_same {r w:Nat}{R:AA}(hb:Blk r w R){i j z:Nat}(hi:i<r)(hj:j<w):cell (setAt R i j z) i j=z:=by
 let hi':i<R.length:=by rw[hb.len];show hi
 let hw:(R.getD i []).length=w:=by rw[ai,ae hi'];show hb.ju _ (aI _)
 unfold cell setAt;rw[ai (l:=R.set _ _),iA hi'];show ((R.getD i []).set j z).getD j 0=z;rw[ai,iA (by rw[hw];show hj)];rfl
def Yy (h:¬(i=i'/\j=j')):cell (setAt R i j z) i' j'=cell R i' j':=by
 unfold cell setAt;by_cases e:i=i'
 .subst e;let ne:j≠j':=λy=>h ⟨RA,y⟩;rw[ai (l:=R.set _ _)];by_cases hi:i<R.length
  .rw[iA hi];show ((R.getD i []).set j z).getD j' 0=_;rw[ai,ly ne,<-ai]
  .rw[qB wT,<-ai]
 .rw[ai (l:=R.set _ _),ly e,<-ai]
theorem kj:∀{ts:List bK} {R:AA},(∀t∈ts,¬(t.1=i/\t.2.1=j))->cell (bO R ts) i j=cell R i j
 | [],_,_=>rfl
 | t::ts,R,h=>(kj (ts:=ts) λx hx=>h x (ay _ hx)).trans (Yy (h t aE))
theorem xP {r w:Nat}:∀{ts:List bK} {R:AA} {t:bK},Blk r w R->(∀t∈ts,inB r w t)->ts.Pairwise (λa b=>¬(a.1=b.1/\a.2.1=b.2.1))->t∈ts->cell (bO R ts) t.1 t.2.1=t.2.2
 | u::ts,R,t,hb,dN,pw,hm=>by
  let⟨p1,p2⟩:=h8.mp pw;let hu:=dN u aE;rcases ba.mp hm with z|z
  .subst z;show(kj λx hx y=>p1 x hx ⟨y.1.symm,y.2.symm⟩).trans (set_same hb hu.1 hu.2.1)
  .show xP (ts:=ts) (R:=setAt R u.1 u.2.1 u.2.2) (Iw hb hu.1) (λx hx=>dN x (ay _ hx)) p2 z
def Cw {ts:List bK}(pw:(ts.map rk).Pairwise (·<·)):ts.Pairwise (λa b=>¬(a.1=b.1/\a.2.1=b.2.1)):=by rw[ed]at pw;calc pw.imp λ{a b} h z=>?_;unfold rk at h;lia
def Yz {r w:Nat}{ak:AA}{ts ts':List bK}(hb:Blk r w ak)(dN:∀t∈ts,inB r w t)(pw:(ts.map rk).Pairwise (·<·))(pm:ts'.Perm (ts.map sw))(pw':(ts'.map rk).Pairwise (·<·)):bL (bO ak ts) w=bO (bL ak w) ts':=by
 let afF:∀t∈ts',inB w r t:=λt ht=>by let⟨u,hu,e⟩:=aw.mp (pm.mem_iff.mp ht);have:=dN u hu;rw[<-e];show⟨this.2.1,this.1,this.2.2⟩
 calc Tc (jA (jB hb dN)) (jB (jA hb) afF) λj i hj hi=>?_;rw[oW (jB hb dN) hi hj];by_cases h:∃t∈ts,t.1=i/\t.2.1=j
 .let⟨t,ht,e1,e2⟩:=h;let h1:=xP hb dN (Cw pw) ht;let hm:sw t∈ts':=pm.mem_iff.mpr (cz ht);let h2:=xP (jA hb) afF (Cw pw') hm;rw[e1,e2]at h1;let h2':cell (bO (bL ak w) ts') t.2.1 t.1=t.2.2:=h2;rw[e1,e2]at h2';rw[h1,h2']
 .let n1:∀t∈ts,¬(t.1=i/\t.2.1=j):=λt ht z=>h ⟨t,ht,z⟩
  let n2:∀t∈ts',¬(t.1=j/\t.2.1=i):=λt ht z=>by let⟨u,hu,e⟩:=aw.mp (pm.mem_iff.mp ht);rw[<-e]at z;show n1 u hu ⟨z.2,z.1⟩
  rw[kj n1,kj n2,oW hb hi hj]
def Vq {r w:Nat}{ak:AA}(hb:Blk r w ak){i j:Nat}(hi:i<r):lineOf (bL ak w) j i 1=lineOf ak i j 0:=by
 unfold lineOf;rw[if_neg w_,if_pos rfl];let e:=Kp hb;have:(bL (bL ak w) r).getD i []=fj (bL ak w) i:=by unfold bL;rw[ai,a_,gL hi];rfl
 rw[<-this,e]
def Vr {w:Nat}{ak:AA}{i j:Nat}(hj:j<w):lineOf (bL ak w) j i 0=lineOf ak i j 1:=by unfold lineOf;rw[if_pos RA,if_neg w_];unfold bL;rw[ai,a_,gL hj];rfl
def YB (q:yV):yV:=(q.2.1,q.1,1-q.2.2.1,q.2.2.2)
def Ky {r w:Nat}{R:AA}(hb:Blk r w R){i j wy:Nat}(hi:i<r)(hj:j<w)(S7:wy<=1):fX (bL R w) j i (1-wy)=YB (fX R i j wy):=by
 rcases(show wy=0\/wy=1 by lia) with z|z
 .subst z;let e:lineOf (bL R w) j i ((1:Nat):Int)=lineOf R i j ((0:Nat):Int):=Vq hb hi;show fX (bL R w) j i 1=_;unfold fX YB;rw[e];rfl
 .subst z;let e:lineOf (bL R w) j i ((0:Nat):Int)=lineOf R i j ((1:Nat):Int):=Vr hj;show fX (bL R w) j i 0=_;unfold fX YB;rw[e];rfl
def afG {r w:Nat}{ak:AA}(hb:Blk r w ak):bL (bL ak w) r=ak:=Tc (jA (jA hb)) hb λi j hi hj=>by rw[oW (jA hb) hj hi,oW hb hi hj]
def Vs (t:bK):bK:=(t.1,t.2.1,PyProof.Rows.lo1 t.2.2)
theorem Td:∀{ts:List bK} {ss:List Nat},ss.map PyProof.Rows.lo1=sJ ts->(iu ts ss).map Vs=ts
 | [],[],_=>rfl
 | [],_::_,h=>by cases h
 | _::_,[],h=>by cases h
 | t::ts,c::ss,h=>by injection h with h1 h2;show (t.1,t.2.1,PyProof.Rows.lo1 c)::(iu ts ss).map Vs=t::ts;rw[Td h2,h1]
theorem Pu:∀{ls rk t:List Nat},(∀c∈ls,isLet c)->t∈fQ ls rk->Jh rk t/\t.map PyProof.Rows.lo1=ls
 | [],_,t,_,h=>by rw[ap.mp h];show⟨trivial,RA⟩
 | d::ls,rk,t,hl,h=>by
  let hd:=hl d aE;let⟨u1,u2,u3,_⟩:=IW hd;let hl':∀c∈ls,isLet c:=λc hc=>hl c (ay _ hc);unfold isLet at hd;unfold fQ at h;rcases bd.mp h with z|z
  .split at z
   .let⟨u,hu,rfl⟩:=aw.mp z;let⟨f,e⟩:=Pu hl' hu;calc⟨⟨by rw[u3];assumption,by rw[u3];show f⟩,?_⟩;rw[b6,e,show PyProof.Rows.lo1 d=d from if_neg wT]
   .simp at z
  .split at z
   .let⟨u,hu,rfl⟩:=aw.mp z;let⟨f,e⟩:=Pu hl' hu;calc⟨⟨by rw[u2];assumption,by rw[u2];show f⟩,?_⟩;rw[b6,e,u1,show PyProof.Rows.lo1 (d-32)=d by unfold PyProof.Rows.lo1;rw[if_pos wT];lia]
   .simp at z
structure qG (ws ak:AA)(r w:Nat)(rk l:List Nat)(i j:Nat)(x:List bK):Prop where
 li:i<r
 lj:j+l.length<=w
 ends:tK ak r w i j l=true
 fit:∀k,k<l.length->pU ak r w i j l k=true
 laid:∀k,k<l.length->atC ak r w i ((j+k:Nat):Int)=46->∃t∈x,t.1=i/\t.2.1=j+k/\PyProof.Rows.lo1 t.2.2=l.getD k 0
 back:∀t∈x,∃k,k<l.length/\t.1=i/\t.2.1=j+k/\PyProof.Rows.lo1 t.2.2∈pX ws ak (i,t.2.1)
 tiles:Jh rk (x.map (·.2.2))
def Px {ws us:AA}{hk:List (Nat×Nat)}{ak:AA}{r w:Nat}{rk:List Nat}(hw:∀l∈us,lq l)(h:x∈iw ws hk ak r w rk us):∃l∈us,∃i j,qG ws ak r w rk l i j x:=by
 unfold iw at h;let⟨l,hl,h⟩:=ga.mp h;unfold vO at h;let⟨c,hc,h⟩:=ga.mp h;let⟨hc1,hc2⟩:=yO.mp hc;unfold rQ at h;split at h
 .rename_i hcan;unfold rE at h;let⟨ss,hss,rfl⟩:=aw.mp h;let O8:∀d∈sJ (cT ak r w c.1 c.2 l),isLet d:=λd hd=>by
   let⟨t,ht,rfl⟩:=aw.mp hd;show Az (hw l hl) ht
  let⟨ft,elo⟩:=Pu O8 hss;let afH:=Td elo;unfold qF at hcan;simp only[df,im,gv]at hcan;obtain⟨⟨n1,n7⟩,hall,_⟩:=hcan;let hcond:(tK ak r w c.1 c.2 l&&(List.range l.length).all (pU ak r w c.1 c.2 l))=true:=by
   by_cases z:(tK ak r w c.1 c.2 l&&(List.range l.length).all (pU ak r w c.1 c.2 l))=true;.show z
   .unfold cT at n1;rw[if_neg z]at n1;simp at n1
  let hT:cT ak r w c.1 c.2 l=mR ak r w c.1 c.2 l l.length:=if_pos hcond;let⟨he,hf⟩:=Bool.and_eq_true_iff.mp hcond;let R9:=(hw l hl).lo;let e2:(iu (cT ak r w c.1 c.2 l) ss).map (·.2.2)=ss:=(Er (by rw[<-ab (f:=PyProof.Rows.lo1) (as:=ss),elo];unfold sJ;rw[ab])).2;refine⟨l,hl,c.1,c.2,hc1,wT,he,λk hk=>gv.mp hf k (bE.mpr hk),λk hk hz=>?_,λt ht=>?_,by rw[e2];show ft⟩
  .have:(c.1,c.2+k,l.getD k 0)∈(iu (cT ak r w c.1 c.2 l) ss).map Vs:=by
    rw[afH,hT];show nK.mpr ⟨k,bE.mpr hk,if_pos hz⟩
   let⟨t,ht,e⟩:=aw.mp this;injection e with e1 e;injection e with e2 e3;show⟨t,ht,e1,e2,e3⟩
  .let hm:Vs t∈cT ak r w c.1 c.2 l:=by rw[<-afH];show cz ht
   let⟨k,hk,e,_⟩:=Ay hm;injection e with e1 e;injection e with e2 e3;have:=hall _ hm;show⟨k,hk,e1,e2,by rw[<-e1];show this⟩
 .simp at h
def adb {L:List Nat}(hp1:j<=p)(hp2:p<j+n)(hn:j+n<=L.length)(h1:∀c,j<=c->c<j+n->L[c]?≠some 46)(h2:0<j->L[j-1]?=some 46)(h3:j+n<L.length->L[j+n]?=some 46):cG (L.take p)++cR (L.drop p)=(L.drop j).take n:=by
 let b1:cG (L.take p)=(L.take p).drop j:=by
  rcases kN j with z|z
  .subst z;rw[uj];calc JV λz=>?_;let⟨c,hc,e⟩:=List.mem_take_iff_getElem.mp z;show h1 c (cw _) wT (by rw[ae wT,e])
  .have:=M6 (l:=L.take p) (i:=j-1) (by rw[mf wT];show h2 z) λk hk=>by
    rw[qA];split;.show h1 k wT wT
    .simp
   rwa [show j-1+1=j by lia]at this
 let b2:cR (L.drop p)=(L.drop p).take (j+n-p):=by
  rcases eC (j+n) L.length with z|z
  .refine xZ (by rw[gu,show p+(j+n-p)=j+n by lia];show h3 z) λk hk=>?_
   rw[gu];show h1 _ wT wT
  .rw[cx (by rw[cy];lia)];calc zY λz'=>?_;let⟨c,hc,e⟩:=b9.mp z';rw[cy]at hc;show h1 (p+c) wT wT (by rw[<-gu,ae (by rw[cy];lia),e])
 have:=(ac9 (low:=j) (high:=j+n) hp1 wT hn b1 b2).1
 rwa [show j+n-j=n by lia]at this
def Hj {r w:Nat}{R:AA}(hb:Blk r w R){i c:Nat}(hi:i<r)(hc:c<w):(R.getD i [])[c]?=some (cell R i c):=by
 let hl:(R.getD i []).length=w:=by rw[ai,ae (by rw[hb.len];show hi)];show hb.ju _ (aI _)
 unfold cell;rw[ai (l:=R.getD i []),ae wT];rfl
def YC {r w:Nat}{R:AA}(hb:Blk r w R){m c:Nat}(hm:m<r):(fj R c)[m]?=some (cell R m c):=by unfold fj cell;rw[a_,ai (l:=R),ae (by rw[hb.len];show hm)];rfl
structure Lz (R ws:AA)(ts:List bK):Prop where
 mem:∀t∈ts,∀wy,wy<=1->1<(fX R t.1 t.2.1 wy).2.2.2.length->(fX R t.1 t.2.1 wy).2.2.2.map PyProof.Rows.lo1∈ws
 long:∃wy,wy<=1/\∀t∈ts,1<(fX R t.1 t.2.1 wy).2.2.2.length
def ade (ts:List bK):iT ts<=1:=by unfold iT;split <;> decide
def Lz.wd (h:Lz (bO ak ts) ws ts)(ne:ts≠[]):aaQ ak ws ts:=by
 let hle:=ade ts;constructor
 .let⟨wy,S7,sO⟩:=h.long;cases ts with
  | nil=>show absurd RA ne
  | cons a l=>
   calc List.ne_nil_of_mem (a:=qd (bO ak (a::l)) (a.1,a.2.1,wy)) (kR.mpr ⟨cz ?_,ar (sO a aE)⟩);unfold wu;by_cases z:wy=iT (a::l);.rw[z];show oP _ (aw.mpr ⟨a,w8,RA⟩)
   .rw[show wy=1-iT (a::l) by lia];show dm _ (aw.mpr ⟨a,aE,RA⟩)
 .intro q hq;let⟨hq,sO⟩:=kR.mp hq;let⟨a,ha,rfl⟩:=aw.mp hq;let sO:=gI sO;rcases bd.mp ha with z|z
  .let⟨t,ht,rfl⟩:=aw.mp z;show h.mem t (fT ht) _ hle sO
  .let⟨t,ht,rfl⟩:=aw.mp z;show h.mem t ht _ (n0 _ _) sO
section
variable {ws ak:AA}{r w:Nat}{rk l:List Nat}{i j:Nat}{x:List bK}{hk:List (Nat×Nat)}
theorem qG.cell (A:qG ws ak r w rk l i j x)(hb:Blk r w ak)(O:fO ak r w hk x)(hk:k<l.length):PyProof.Rows.lo1 (cell (bO ak x) i (j+k))=l.getD k 0:=by
 let dN:∀t∈x,inB r w t:=λt ht=>let ⟨a,b,_,d⟩:=O.cell t ht;⟨a,b,d⟩
 let lj:=A.lj;by_cases z:atC ak r w i ((j+k:Nat):Int)=46
 .let⟨t,ht,e1,e2,e3⟩:=A.laid k hk z;have:=xP hb dN (Cw O.rk) ht;rw[e1,e2]at this;rw[this,e3]
 .let hf:=A.fit k hk;unfold pU at hf;rw[am z,Bool.false_or,im]at hf;rw[kj,<-Es A.li (show j+k<w by lia)];.show hf
  .intro t ht e;have:=(O.cell t ht).2.2.1;rw[e.1,e.2]at this;show z this
def qG.edge (A:qG ws ak r w rk l i j x)(hc:c<w)(h:c+1=j\/c=j+l.length):My.cell (bO ak x) i c=46:=by
 let he:=A.ends;unfold tK at he;simp only[df,im]at he;rw[kj,<-Es A.li hc]
 .rcases h with h|h;.rw[<-he.1,show ((j:Nat):Int)-1=(c:Int) by lia]
  .rw[<-he.2,show ((j:Nat):Int)+(l.length:Int)=(c:Int) by lia]
 .intro t ht e;let⟨k,k1,_,k2,_⟩:=A.back t ht;lia
def qG.row (A:qG ws ak r w rk l i j x)(hb:Blk r w ak)(O:fO ak r w hk x)(hl:lq l)(h1:j<=p)(h2:p<j+l.length):(fX (bO ak x) i p 0).2.2.2.map PyProof.Rows.lo1=l:=by
 let dN:∀t∈x,inB r w t:=λt ht=>let ⟨a,b,_,d⟩:=O.cell t ht;⟨a,b,d⟩
 let hB:=jB hb dN;let lj:=A.lj;let bW:((bO ak x).getD i []).length=w:=by rw[ai,ae (by rw[hB.len];show A.li)];show hB.ju _ (aI _)
 let e:(fX (bO ak x) i p 0).2.2.2=(((bO ak x).getD i []).drop j).take l.length:=by
  show cG (((bO ak x).getD i []).take p)++cR (((bO ak x).getD i []).drop p)=_;refine adb h1 h2 wT (λc c1 c2=>?_) (λz=>?_) λz=>?_
  .rw[Hj hB A.li wT];intro z;have:=A.cell hb O (k:=c-j) wT;rw[show j+(c-j)=c by lia,bb z]at this;have:=hl.az (l.getD (c-j) 0) (by rw[ai,ae wT];show aI _);unfold isLet at this;let e46:PyProof.Rows.lo1 46=46:=rfl;lia
  .rw[Hj hB A.li wT,A.edge wT (.inl wT)]
  .rw[Hj hB A.li wT,A.edge wT (.inr RA)]
 rw[e];apply gE;intro k;rw[a_,qA];split
 .rename_i hk;rw[gu,Hj hB A.li wT,ja,A.cell hb O hk,ai,ae hk];rfl
 .rw[dL wT];rfl
def adf {l:List Nat}(hk:k<l.length)(hz:z≠46):cG ((l.set k z).take k)++cR ((l.set k z).drop k)=cG (l.take k)++z::cR (l.drop (k+1)):=by
 let hl:k<(l.set k z).length:=by rw[nL];show hk
 rw[List.take_set,qB (by rw[be];lia),i7 hl,List.getElem_set_self,List.drop_set_of_lt wT];unfold cR;rw[List.takeWhile_cons,if_pos (by simpa using hz)]
def qG.col (A:qG ws ak r w rk l i j x)(hb:Blk r w ak)(O:fO ak r w hk x)(ht:t∈x)(sO:1<(fX (bO ak x) t.1 t.2.1 1).2.2.2.length):(fX (bO ak x) t.1 t.2.1 1).2.2.2.map PyProof.Rows.lo1∈ws:=by
 let dN:∀t∈x,inB r w t:=λt ht=>let ⟨a,b,_,d⟩:=O.cell t ht;⟨a,b,d⟩
 let hB:=jB hb dN;let⟨k,k1,k2,k3,k4⟩:=A.back t ht;let⟨c1,c2,_,c4⟩:=O.cell t ht;let hcl:(fj ak t.2.1).length=r:=by unfold fj;rw[ab,hb.len]
 let ec:fj (bO ak x) t.2.1=(fj ak t.2.1).set t.1 t.2.2:=by
  apply gE;intro m;rw[oz];rcases eC m r with z|z
  .rw[YC hB z,YC hb z];split
   .rename_i e;subst e;rw[if_pos wT,xP hb dN (Cw O.rk) ht]
   .rename_i e;rw[kj λu hu z=>e (by let⟨_,_,u2,_⟩:=A.back u hu;lia)]
  .rw[dL (by unfold fj;rw[ab,hB.len];show z),if_neg wT,dL wT]
 let n46:t.2.2≠46:=λz=>by rw[z]at c4;show absurd c4 (by unfold uE;decide)
 let e:(fX (bO ak x) t.1 t.2.1 1).2.2.2=cG ((fj ak t.2.1).take t.1)++t.2.2::cR ((fj ak t.2.1).drop (t.1+1)):=by show cG ((fj (bO ak x) t.2.1).take t.1)++cR ((fj (bO ak x) t.2.1).drop t.1)=_;rw[ec,adf wT n46]
 let hm:PyProof.Rows.lo1 t.2.2∈xH ws (fj ak t.2.1) t.1:=by rw[k2];show k4
 rw[e]at sO ⊢;unfold xH at hm;rw[if_neg (by unfold nu;rw[av,bt]at sO ⊢;rw[ab,ab];lia)]at hm;have:=gI (kR.mp hm).2;unfold nu at this
 rwa [bz,b6]
def qG.run (A:qG ws ak r w rk l i j x)(hb:Blk r w ak)(O:fO ak r w hk x)(hw:lq l)(hl:l∈ws):Lz (bO ak x) ws x:=by
 let main:∀t∈x,(fX (bO ak x) t.1 t.2.1 0).2.2.2.map PyProof.Rows.lo1=l:=λt ht=>by let⟨k,k1,k2,k3,_⟩:=A.back t ht;rw[k2];show A.row hb O hw wT wT
 refine⟨λt ht wy S7 sO=>?_,0,w_,λt ht=>?_⟩
 .rcases(show wy=0\/wy=1 by lia) with z|z;.subst z;rw[main t ht];show hl
  .subst z;show A.col hb O ht sO
 .have:=congrArg List.length (main t ht);rw[ab]at this;have:=hw.lo;lia
def qG.gap (A:qG ws ak r w rk l i j x)(hb:Blk r w ak)(O:fO ak r w hk x)(hw:lq l)(ha:a∈x)(hb':b∈x)(h1:a.1<=p)(h2:p<=b.1)(h3:a.2.1<=q)(h4:q<=b.2.1):My.cell (bO ak x) p q≠46:=by let⟨k,k1,k2,k3,_⟩:=A.back a ha;let⟨m,m1,m2,m3,_⟩:=A.back b hb';have:=A.cell hb O (k:=q-j) wT;rw[show p=i by lia];intro z;rw[show j+(q-j)=q by lia,z]at this;let hl:=hw.az (l.getD (q-j) 0) (by rw[ai,ae wT];show aI _);unfold isLet at hl;let e46:PyProof.Rows.lo1 46=46:=rfl;lia
end
def Vt {ws ak:AA}{r w bi bj:Nat}{rk:List Nat}(hb:Blk r w ak)(hw:∀l∈ws,lq l)(h:x∈Jb ws ak r w bi bj rk):Yw r w ak bi bj ws rk x:=by
 rcases bd.mp h with z|z
 .let O:=rF hw z;let⟨l,hl,i,j,A⟩:=Px hw z;show⟨O.rk,λt ht=>(O.cell t ht).2.2.1,.inl (let ⟨i,hi⟩:=O.row;⟨i,hi,ed.mp O.col⟩),λa ha b hb' p q h1 h2 h3 h4=>A.gap hb O (hw l hl) (List.mem_of_mem_head? ha) (List.mem_of_getLast? hb') h1 h2 h3 h4,O.hook,A.tiles,(A.run hb O (hw l hl) hl).wd O.ne⟩
 .let⟨y,hy,rfl⟩:=aw.mp z;let hb2:=jA hb;let O:=rF hw hy;let⟨l,hl,i,j,A⟩:=Px hw hy;let D:=O.down hb;let dN:∀t∈y,inB w r t:=λt ht=>let ⟨a,b,_,d⟩:=O.cell t ht;⟨a,b,d⟩
  let hB:=jB hb2 dN;let eT:bL (bO (bL ak w) y) r=bO ak (y.map sw):=by
   have:=Yz hb2 dN O.rk (wS _) O.rkw
   rwa [afG hb]at this
  let R:=A.run hb2 O (hw l hl) hl;refine⟨D.rk,λt ht=>(D.cell t ht).2.2.1,.inr ?_,λa ha b hb' p q h1 h2 h3 h4=>?_,D.hook,by rw[eD];show A.tiles,Lz.wd ⟨λt ht wy S7 sO=>?_,?_⟩ D.ne⟩
  .let⟨i,hi⟩:=O.row;calc⟨i,λt ht=>?_,ed.mpr (ed.mp O.col)⟩;let⟨u,hu,rfl⟩:=aw.mp ht;show hi u hu
  .let⟨u,hu,rfl⟩:=aw.mp (List.mem_of_mem_head? ha);let⟨v,hv,rfl⟩:=aw.mp (List.mem_of_getLast? hb');let c2:=(dN v hv)
   let h2:p<=v.2.1:=h2;let h4:q<=v.1:=h4;rw[<-eT,oW hB (show q<w by have:=c2.1;lia) (show p<r by have:=c2.2.1;lia)];show A.gap hb2 O (hw l hl) hu hv h3 h4 h1 h2
  .let⟨u,hu,rfl⟩:=aw.mp ht;let e:=Ky hB (dN u hu).1 (dN u hu).2.1 (n0 1 wy);rw[show 1-(1-wy)=wy by lia,eT]at e;let e:fX (bO ak (y.map sw)) (sw u).1 (sw u).2.1 wy=YB (fX (bO (bL ak w) y) u.1 u.2.1 (1-wy)):=e;rw[e]at sO ⊢;show R.mem u hu _ (n0 1 wy) sO
  .let⟨wy,S7,sO⟩:=R.long;calc⟨1-wy,n0 1 wy,λt ht=>?_⟩;let⟨u,hu,rfl⟩:=aw.mp ht;let e:=Ky hB (dN u hu).1 (dN u hu).2.1 S7;rw[eT]at e;let e:fX (bO ak (y.map sw)) (sw u).1 (sw u).2.1 (1-wy)=YB (fX (bO (bL ak w) y) u.1 u.2.1 wy):=e;rw[e];show sO u hu
def Te (K:W.Frag):Sp:=λvs H Q _=>∃(t:Addr) (as:List Addr) (ts:List bK),vs=[.ref t]/\H t=some (.tup (as.map V.ref))/\dw H as ts/\rM K H t ts/\∀H',aA H H'->Q (.bl true) H'
open Classical in
def aaS (D:aJ K mg "_law_plain" Cj ["_law_laying"])(bG:mg "len"=none)(bH:mg "tuple"=none)(tG:mg "str"=none)(jw:mg "int"=none)(rC:mg "bool"=none)(bC:mg "isinstance"=none):bx P w K mg base "_law_plain" 1 ["_law_laying"] (Te K):=by
 calc D.cX Ea ?_;walk_at"b";let⟨t,as,ts,rfl,ht,hL,hD,q⟩:=h;let hal:=hL.len;calc⟨_,(aD (cC (QW.qt (lu (dB (cO (aQ dI xa bC cp (aj aH (aj (h_ (v:=.ty "tuple") xa bH ci RA) aq))))) (jK (cg (wN hr.units) aH (dg aq) (bR _))))) (aF (aW gP)) bQ) (aD (d7 cq RA (fJ aH) (bY (i:=1) Ea.nd RA (Or.inl RA)) (aD (cC (QW.qt (lu (dB (cO (aQ dI xa bC cp (aj aR (aj (h_ (v:=.ty "tuple") xa bH ci RA) aq))))) (lu (cg Bm (aQ cL xa bG b7 (aj aR aq)) aB (bR _)) (jK (dB (cO (aQ dI xa bC cp (aj (bB bU aR aB (λ_ _=>rfl)) (aj (h_ (v:=.ty "str") xa tG sK RA) aq))))))))) (aF (aW gP)) bQ) (aF (d7 cq RA (fJ (iZ V7 aR oN (g_ aB))) (bY (i:=2) Ea.nd RA (Or.inl RA)) (aF (cC (QW.qt (lu (dB (cO (aQ dI xa bC cp (aj bJ (aj (h_ (v:=.ty "int") xa jw kX RA) aq))))) (jK (cO (aQ dI xa bC cp (aj bJ (aj (h_ (v:=.ty "bool") xa rC PyProof.Rows.boot_bool RA) aq))))))) (aF (aW gP)) bQ)))))) (aF (aW gP)))),?_⟩;calc JI _ _ _ true ⟨RA,.tup ht,xb,aU _ RA (bZ ?_)⟩;calc⟨zsz 0,λZ hZ=>?_⟩;calc JE 2 (lR ts) (.tup []) ⟨w_,(hD.mv (aA.upd hZ)).1,.tup (aN.of au) .nil,aU _ RA ?_⟩;let hne:¬(lR ts=Dt.tup []):=λz=>by injection z with z;show hD.2.1 (pM.mp z)
 let sZ:aA H (upd H Z (HO.tup [])):=aA.upd hZ;generalize upd H Z (HO.tup [])=H1 at sZ ⊢;rw[am hne];refine bZ ⟨t,RA,⟨_,aN.of (sZ _ _ ht)⟩,qp (K:=K) (a:=t) (xs:=as.map V.ref) (λn σ H'=>∃v1 v2:Option V,σ=[some (.ref t),v1,v2]/\aA H H')
  ⟨none,none,RA,sZ⟩ (λn σ H' _ h=>by let⟨_,_,_,sm⟩:=h;show aN.of (sm _ _ ht)) ?_ ?_⟩
 .intro n x σ H' hx z;let⟨v1,v2,rfl,sm⟩:=z;let⟨hn,hx⟩:=rfg hx;let hnt:n<ts.length:=wT;subst hx;let⟨_,en⟩:=ji (hL.mv sm) hnt;calc JI _ _ _ true ⟨RA,.tup en,xb,bZ ⟨as[n],_,RA,.inr (aN.of en),RA,Ft RA ?_⟩⟩;calc JI (as[n]) _ _ _ ⟨RA,RA,aN.of en,aO (j:=2) RA,_,_,_,true,RA,.str _,xb,aU _ RA (bZ ?_)⟩;calc⟨_,RA,as[n],_,RA,aN.of en,λz=>absurd z.2 (show ¬HT.cB 3 3 (some 2)=3 by decide),λp hp=>?_⟩;let sp:aA H' (upd H' p (HO.tup [V.int ts[n].1,.int ts[n].2.1])):=aA.upd hp;let ep:upd H' p (HO.tup [V.int ts[n].1,.int ts[n].2.1]) p=some (.tup [V.int ts[n].1,.int ts[n].2.1]):=au;show ∃a,V.ref p=V.ref a/\_;refine⟨p,RA,⟨_,aN.of ep⟩,qp (K:=K) (a:=p) (xs:=[V.int ts[n].1,.int ts[n].2.1]) (λm σ H2=>∃v2:Option V,σ=[some (.ref t),some (.ref as[n]),v2]/\aA (upd H' p (HO.tup [V.int ts[n].1,.int ts[n].2.1])) H2)
   ⟨_,RA,aA.refl _⟩ (λm σ H2 _ h=>by let⟨_,_,s2⟩:=h;show aN.of (s2 _ _ ep)) ?_ ?_⟩
  .intro m y σ H2 hy z;let⟨v2,rfl,s2⟩:=z;obtain⟨z,rfl⟩:∃z:Int,y=.int z:=by
    rcases ba.mp (aS hy) with z|z;.show⟨_,z⟩
    .show⟨_,ap.mp z⟩
   show JI _ _ _ true ⟨RA,.int _,xb,bZ (JI _ _ _ false ⟨RA,.int _,xb,bZ ⟨_,RA,s2⟩⟩)⟩
  .intro σ H2 z;let⟨v2,rfl,s2⟩:=z;show⟨_,_,RA,(sm.trans sp).trans s2⟩
 .intro σ H' z;let⟨v1,v2,rfl,sm⟩:=z;show q H' sm
theorem YD:∀{a b:List (List bK)},NT a->NT b->a.Nodup->b.Nodup->(∀x∈a,∀t∈x,rK t)->(∀x,x∈a↔x∈b)->a=b
 | [],[],_,_,_,_,_,_=>rfl
 | [],y::b,_,_,_,_,_,h=>absurd ((h y).mpr aE) w8
 | x::a,[],_,_,_,_,_,h=>absurd ((h x).mp aE) w8
 | x::a,y::b,ha,hb,na,nb,ok,h=>by
  let ha0:=h8.mp ha;let hb0:=h8.mp hb;let na0:=gp.mp na;let nb0:=gp.mp nb;let e:x=y:=by
   rcases ba.mp ((h x).mp aE) with z|z;.show z
   .rcases ba.mp ((h y).mpr aE) with z'|z';.show z'.symm
    .let h1:=kP (hb0.1 x z);let h2:=kP (ha0.1 y z');calc NP (ok x aE) (ok y (ay _ z')) ?_;by_cases q:jl x=jl y;.show q
     .show absurd (afq h1 q) h2
  subst e;rw[YD ha0.2 hb0.2 na0.2 nb0.2 (λz hz=>ok z (ay _ hz)) λz=>⟨λhz=>?_,λhz=>?_⟩]
  .rcases ba.mp ((h z).mp (ay _ hz)) with e|e;.show absurd (e ▸ hz) na0.1
   .show e
  .rcases ba.mp ((h z).mpr (ay _ hz)) with e|e;.show absurd (e ▸ hz) nb0.1
   .show e
def gq.afI (h:gq H as L)(ok:∀ts∈L,ts≠[]/\∀t∈ts,Dj t):dJ K H 2 (L.map lR) (as.map V.ref):=by
 let key:∀bs:List Addr,(∀b∈bs,rM K H b (lO H b))->dJ K H 2 ((bs.map (lO H)).map lR) (bs.map V.ref):=by
  intro bs
  induction bs with| nil=>show λ_=>.nil| cons b bs ih=>show λhb=>.cons (hb b aE).1 (ih λx hx=>hb x (ay _ hx))
 have:=key as λb hb=>by
  let hm:lO H b∈L:=by rw[<-h.eq];show cz hb
  show(h.at_ b hb).lay (ok _ hm).1 (ok _ hm).2
 rw[h.eq]at this;show this
def afJ (f:Nat->Nat):Nat->Nat
 | 0=>2*f 0
 | p+1=>max (afJ f p+f (p+1)) (2*f (p+1))
def tBr:Nat->Nat->Nat
 | 0=>λ_=>1
 | b+1=>afJ (tBr b)
def tB (p b:Nat):Nat:=tBr b p
def tB1 (b):tB 0 (b+1)=2*tB 0 b:=rfl
def tB2 (p b):tB (p+1) (b+1)=max (tB p (b+1)+tB (p+1) b) (2*tB (p+1) b):=rfl
theorem aaT:∀p b,2*tB p b<=tB p (b+1)
 | 0,b=>by rw[tB1];show ah _
 | p+1,b=>by rw[tB2];show Nat.le_max_right _ _
theorem YF (p):∀b,1<=tB p b
 | 0=>ah _
 | b+1=>by have:=YF p b;have:=aaT p b;lia
theorem ahy:∀p b,tB p b<=tB (p+1) b
 | _,0=>ah _
 | p,b+1=>by rw[tB2];lia
theorem Hl:∀(ls rk:List Nat),(fQ ls rk).length<=tB (rk.length-rk.count 63) (rk.count 63)
 | [],rk=>YF _ _
 | c::ls,rk=>by
  let hcl:rk.count 63<=rk.length:=tI;let e63:63∈rk->(fQ ls (rk.erase 63)).length<=tB (rk.length-rk.count 63) (rk.count 63-1)/\1<=rk.count 63:=λh=>by let h1:=List.count_pos_iff.mpr h;let ih:=Hl ls (rk.erase 63);rw[qE h,List.count_erase_self,show rk.length-1-(rk.count 63-1)=rk.length-rk.count 63 from fh wT]at ih;show⟨ih,h1⟩
  rw[fQ,av];by_cases h63:c=63
  .subst h63;by_cases h:63∈rk
   .let⟨h1,h2⟩:=e63 h;rw[if_pos h,if_pos h,ab,ab];obtain⟨b,hb⟩:∃b,rk.count 63=b+1:=⟨rk.count 63-1,by simp_all⟩
    rw[hb]at h1 ⊢;have:=aaT (rk.length-(b+1)) b;simp only[qS]at h1;lia
   .rw[if_neg h,if_neg h];show cw _
  .let ec:c∈rk->(fQ ls (rk.erase c)).length<=tB (rk.length-rk.count 63-1) (rk.count 63)/\rk.count 63<rk.length:=λh=>by
    let ih:=Hl ls (rk.erase c);rw[qE h,List.count_erase_of_ne (by simpa using λz=>h63 z.symm)]at ih;let h1:rk.count 63<=(rk.erase c).length:=by rw[<-List.count_erase_of_ne (a:=63) (b:=c) (by simpa using λz=>h63 z.symm)];show tI
    rw[qE h]at h1;let h2:=List.length_pos_of_mem h;rw[show rk.length-1-rk.count 63=rk.length-rk.count 63-1 by lia]at ih;show⟨ih,wT⟩
   by_cases h1:c∈rk
   .let⟨a1,a2⟩:=ec h1;obtain⟨p,hp⟩:∃p,rk.length-rk.count 63=p+1:=⟨rk.length-rk.count 63-1,fh wT⟩
    rw[if_pos h1,ab];by_cases h2:63∈rk
    .let⟨b1,b2⟩:=e63 h2;rw[if_pos h2,ab];obtain⟨b,hb⟩:∃b,rk.count 63=b+1:=⟨rk.count 63-1,wT⟩
     rw[hp,hb]at a1 b1 ⊢;rw[tB2];simp only[qS]at a1 b1;lia
    .rw[if_neg h2];rw[hp]at a1 ⊢;simp only[qS]at a1;have:=ahy p (rk.count 63);show _+0<=_;lia
   .rw[if_neg h1];by_cases h2:63∈rk
    .let⟨b1,b2⟩:=e63 h2;rw[if_pos h2,ab];obtain⟨b,hb⟩:∃b,rk.count 63=b+1:=⟨rk.count 63-1,wT⟩
     rw[hb]at b1 ⊢;have:=aaT (rk.length-(b+1)) b;simp only[qS]at b1;show 0+_<=_;lia
    .rw[if_neg h2];show cw _
def afK:∀n:Fin 6,∀b:Fin 3,(n.val<4\/b.val<=1)->tB (n.val-b.val) b.val<=7/\(n.val<=2->b.val<=n.val->tB (n.val-b.val) b.val<=4):=by decide
def afL (n)(hn:n<6)(b)(hb:b<3)(h1:n<4->b<=2)(h2:4<=n->b<=1):tB (n-b) b<=7/\(n<=2->b<=n->tB (n-b) b<=4):=afK ⟨n,hn⟩ ⟨b,hb⟩ (by rcases eC n 4 with z|z;show .inl z;show .inr (h2 z))
def adg {rk:List Nat}(h5:rk.length<=5)(h1:rk.length<4->rk.count 63<=2)(h2:4<=rk.length->rk.count 63<=1):(∀ls,(fQ ls rk).length<=7)/\(rk.length<=2->∀ls,(fQ ls rk).length<=4):=by
 let hb:rk.count 63<3:=by
  rcases eC rk.length 4 with z|z;.have:=h1 z;show rX this
  .have:=h2 z;lia
 let⟨a,b⟩:=afL rk.length (rX h5) (rk.count 63) hb h1 h2;show⟨λls=>a8 (Hl ls rk) a,λh ls=>a8 (Hl ls rk) (b h tI)⟩
def ahz (b):jC [V.int 5,V.int 2] (if b=true then 1 else 0)=some (.int ((if b=true then 2 else 5:Nat):Int)):=by
 cases b;.show aO (j:=0) rfl
 .show aO (j:=1) rfl
def aaU {a b:AA}(p:a.Perm b)(h1:U7 a)(h2:U7 b):a=b:=p.eq_of_pairwise (le:=λx y=>decide (y<x)=false) (λx y _ _ z1 z2=>List.le_antisymm (wE.mp (kP z1)) (wE.mp (kP z2))) h1 h2
theorem dJ.Ho:∀{ls:AA},(∀l∈ls,∀c∈l,c<128)->dJ K H 1 (ls.map Dt.str) (Ts ls)
 | [],_=>.nil
 | l::ls,h=>.cons (.str _ (h l aE)) (dJ.Ho λx hx=>h x (ay _ hx))
theorem Tf:∀es:List Addr,(∀e∈es,∃t:bK,H e=some (.tup [.int t.1,.int t.2.1,.str (S [t.2.2])])/\t.2.2<128)->∃ds,ds.length=es.length/\dJ K H 1 ds (es.map V.ref)
 | [],_=>⟨[],RA,.nil⟩
 | e::es,h=>by let⟨ds,h1,h2⟩:=Tf es λx hx=>h x (ay _ hx);let⟨t,h3,h4⟩:=h e aE;show⟨lE t::ds,by rw[bt,bt,h1],.cons (.tup (aN.of h3) (.cons (.int _) (.cons (.int _) (.cons (.str _ λc hc=>by rw[ap.mp hc];show h4) .nil)))) h2⟩
def adh {p A B R:Prop}{i:Decidable p}(f:R->B)(g:p->R->A)(r:R):if @decide p i=true then A else B:=by
 by_cases h:p;.rw[if_pos (ar h)];show g h r
 .rw[if_neg (by rw[am h];decide)];show f r
def aaV {a b:List bK}(h:lR a=lR b):a=b:=by injection h with h;show(List.map_inj_right λ_ _ h=>RG h).mp h
open Classical in
def afM (F:iY K "law" "law" Lx f fd)(bG:mg "len"=none)(bH:mg "tuple"=none)(jw:mg "int"=none)(dZ:mg "sorted"=none)(gW:mg "list"=none)(dD:mg "range"=none)(bC:mg "isinstance"=none)(bF:dF K C)(uH:oR K CB)(adi:mg "Book"=some (.ref CB))(afN:Mk K CB g0)(afO:cJ P w K mg base fG 3 g0 fe0 ["self","words"] (Xz K CB))(afP:cu K fe0 ["self","words"] [])(uK:Meth K CB "words" f2)(uL:cJ P w K mg base fG 1 f2 fd2 ["self"] (Io CB))(uM:cu K fd2 ["self"] [])(YG:bx P w K mg base "_law_letters" 4 ["_law_script","_law_k"] (Xw K))(Py:bx P w K mg base "_law_number" 2 ["_law_script","_law_k"] (U0 K))(adk:bx P w K mg base "_law_words" 4 ["_law_letters_here","_law_script","_law_start","_law_many"] (Oh K))(adl:bx P w K mg base "_law_board" 8 ["_law_letters_here","_law_script","_law_start","_law_x"] (Ou K C))(afQ:bx P w K mg base "_law_rack" 4 ["_law_letters_here","_law_script","_law_k","_law_most"] (Yn K))(Lg:bx P w K mg base "all_layings" 13 ["board","book","rack"] (abA C CB))(adn:bx P w K mg base "_law_plain" 1 ["_law_laying"] (Te K))(Jk:bx P w K mg base "check_laying" 14 ["board","book","rack","laying"] (S_ C CB))(Ja:bx P w K mg base "hooks" 5 ["board"] (Cq C)):cJ P w K mg base fG 15 f fd ["_law_script"] (Ln K):=by
 calc F.cX nj ?_;intro bD A outer s H vs Q E hr h;let⟨a,ns,rfl,hS,hn,q⟩:=h;let aby:4000<=sizeLine:=by decide
 let hu:=Bu hr;calc⟨_,(aD (aZ (i:=1) nj.nd RA (Or.inl RA) (aY YG hr.mono RA (aj aH (aj aB aq)))) (aD (aZ (i:=2) nj.nd RA (Or.inl RA) (aY Py hr.mono RA (aj aH (aj aB aq)))) (aD (aZ (i:=3) nj.nd RA (Or.inl RA) (aY adk hr.mono RA (aj aR (aj aH (aj aB (aj (aX dj aB (aX cZ bJ aB)) aq)))))) (aD (aZ (i:=4) nj.nd RA (Or.inr RA) (aY adl hr.mono RA (aj aR (aj aH (aj aB (aj (aY Py hr.mono RA (aj aH (aj aB aq))) aq)))))) (aD (aZ (i:=5) nj.nd RA (Or.inl RA) (aY afQ hr.mono RA (aj aR (aj aH (aj aB (aj (bB gF (fH (aj aB (aj aB aq))) (cW zM xa jw kX (aj (fB TF (aX tW (aQ cL xa bG b7 (aj (dh cD RA) aq)) (aQ eN xa bG b7 (aj (bB bU (dh cD RA) aB (λ_ _=>rfl)) aq))) aB (bR _)) aq)) (λ_ _=>rfl)) aq)))))) (aD (aZ (i:=6) nj.nd RA (Or.inl RA) (BL afN afO hr.mono RA adi afP .nil fZ (aj cj aq))) (aD (aZ (i:=7) nj.nd RA (Or.inl RA) (dg (aj (dh cD RA) (aj (dh cD RA) (aj (dh cD RA) aq))))) (aD (aZ (i:=8) nj.nd RA (Or.inl RA) (aY Lg hr.mono RA (aj cD (aj f9 (aj d8 aq))))) (aD (cC (QW.qt (lu (dB (cO (aQ dI xa bC cp (aj iI (aj (h_ (v:=.ty "tuple") xa bH ci RA) aq))))) (jK (cg (aeJ hr.units) (cW Mt xa gW kG (aj iI aq)) (aQ (Gr hr.units) xa dZ ib (aj iI aq)) (bR _))))) (aF (aW gP)) bQ) (aD (d7 cq RA (lN xa dD (aj (aQ cL xa bG b7 (aj iI aq)) aq)) (bY (i:=9) nj.nd RA (Or.inl RA)) (aD (cC (QW.qt (lu (dB (cO (aY adn hr.mono RA (aj (bB bU iI jW (λ_ _=>rfl)) aq)))) (jK (QW.qt (MF (cg TF jW aB (bR _)) (Hy (cg (wN hr.units) (bB bU iI jW (λ_ _=>rfl)) (bB bU iI (aX o8 jW aB) (λ_ _=>rfl)) (bR _)))))))) (aF (aW gP)) bQ) (aD (cC (cg abP (aY Jk hr.mono RA (aj cD (aj f9 (aj d8 (aj (bB bU iI jW (λ_ _=>rfl)) aq))))) aeD (bR _)) (aF (aW gP)) bQ) (aF (cC (cg (wN hr.units) (fM (ns:=["_law_triple"]) RA (fL.of ["_law_script","_law_some","_law_x","_law_words_here","_law_board_here","_law_rack_here","_law_book","_law_kept","_law_found","_law_k"] [] xb) (fJ (bB bU iI jW (λ_ _=>rfl))) (λ_ _ _ _ _=>(tR (show (["_law_triple","_law_script","_law_some","_law_x","_law_words_here","_law_board_here","_law_rack_here","_law_book","_law_kept","_law_found","_law_k"]:List Str).Nodup by decide +kernel) RA xa)) (λ_ _ _ _ _=>(BP (cg (RX K hr.units) (iZ (ace K) aH oN (g_ aB)) (aY Ja hr.mono RA (aj d8 aq)) RA))) (λ_ _ _ _ _=>aH)) (fH aq) (bR _)) (aF (aW gP)) bQ))))) (aF (aW (m7 (fB (wN hr.units) (dg (aj (dh cD RA) (aj (dh cD RA) (aj (dh cD RA) aq)))) jV (bR _)) (kI (fB (wN hr.units) (ud f9 uH.cl uK uL hr.mono uM .nil fZ) (cW dU xa bH ci (aj cj aq)) (bR _)))))))))))))))),?_⟩;calc JE a ns 0 ⟨RA,hS,w_,λpl ls H1 s1 hpl hA=>?_⟩;calc JE a ns 1 ⟨RA,s1.seq hS,w_,λx=>?_⟩;obtain⟨m,hm,hm6⟩:∃m:Nat,3+x%4=(m:Int)/\m<=6:=⟨(3+x%4).toNat,wT,wT⟩
 calc⟨_,_,RA,RA,(by show (0:Int)<4;decide),_,_,RA,RA,pl,a,ls,ns,3,m,by show [V.ref pl,V.ref a,V.int 3,V.int (3+x%4)]=_;rw[hm];rfl,hpl,hA,s1.seq hS,wT,wT,λpw ws H2 s2 hpw nd az rs bW=>?_⟩;let Kw:=s1.trans s2;calc JE a ns 28 ⟨RA,Kw.seq hS,w_,λy=>(JO pl a ls ns 9 y ⟨RA,s2 _ _ hpl,hA,Kw.seq hS,w_,λb r w' ak aK bi bj H3 s3 B=>?_⟩)⟩;let vK:=Kw.trans s3;let ahA:=s3 _ _ (s2 _ _ hpl);let⟨dx,pr,pm0,pb0,hb3,afR,_,_⟩:=id B.ex;let O:=B.ok;let r1:=O.r1;let r9:=O.r9;let w9:=O.w9;let hb':=O.br;let m_:(Ts ak).length=r:=by rw[ab,hb'.len]
 let h0:0<ak.length:=by rw[hb'.len];lia
 let hw0:ak[0].length=w':=hb'.ju _ (aI _);let at0:jC (Ts ak) 0=some (.str (S ak[0])):=aO (j:=0) (tE (ae h0));let hz:∀n,n<=100->n<=sizeLine:=λn h=>aT (aL wT);calc⟨zsz 2,λt ht=>?_⟩;let k3:aA H3 (upd H3 t (HO.lst [V.int 5,V.int 2])):=aA.upd ht;let hT:upd H3 t (HO.lst [V.int 5,V.int 2]) t=some (.lst [V.int 5,V.int 2]):=au;generalize upd H3 t (HO.lst [V.int 5,V.int 2])=H3' at k3 hT ⊢;calc JJ b C dx _ _ ⟨RA,k3 _ _ hb3,bF.cl,bF.nr,RA,pr,_,RA,.inr (aN.of (k3 _ _ afR)),b,C,dx,_,_,RA,k3 _ _ hb3,bF.cl,bF.nr,RA,pr,_,_,_,RA,RA,aN.of (k3 _ _ afR),at0,_,RA,hz _ wT,_,_,RA,RA,.inl ⟨by rw[m_];lia,by rw[m_];lia⟩,_,_,RA,RA,.inr ⟨_,RA,t,_,_,_,RA,RA,aP.of hT,ahz _,?_⟩⟩;rw[m_,hw0];obtain⟨mm,hmm,ahB,ahC⟩:∃mm:Nat,(if decide ((20:Int)<(r:Int)*(w':Int))=true then 2 else 5:Nat)=mm/\mm<=5/\(20<r*w'->mm<=2):=by
  by_cases c:(20:Int)<(r:Int)*(w':Int)
  .show⟨2,by rw[if_pos (ar c)],w_,λ_=>ah _⟩
  .show⟨5,by rw[if_neg (by rw[am c];decide)],w_,λz=>absurd (by exact_mod_cast z) c⟩
 calc JO pl a ls ns 2 mm ⟨by rw[<-hmm];rfl,k3 _ _ ahA,hA,(vK.trans k3).seq hS,w_,ahB,λrk H4 s4 hrl hr1 hr2 hra=>?_⟩;let s34:=k3.trans s4;let ahD:rk.length<=5:=wT;let⟨g7,g4⟩:=adg ahD hr1 hr2;let afS:=s34 _ _ (s3 _ _ hpw);calc(λk dk nk ndk nek=>?_);let afT:aA H4 (upd (upd H4 dk (HO.own k)) k (HO.ins CB dk [])):=λc o e=>by rw[bw (bV e nk),bw (bV e ndk)];show e
 calc JI k dk pw ws ⟨RA,au,.inl (aP.of (afT _ _ afS)),az,wT,λd Pz H5 hd BK hmem hlen2 kp=>⟨RA,?_⟩⟩;let s45:aA H4 H5:=λc o e=>kp c o (afT c o e) (bV e nk);let s35:=s34.trans s45;let B5:=B.mv s35;let Em:Pz.length<64:=wT
 let afU:rk.length<=100:=wT;obtain⟨g,hg,SM,hbd⟩:∃g:Nat,(∀ls,(fQ ls rk).length<=g)/\g<=900/\Pz.length*(r*w'*g)<=1999:=by
  by_cases c:20<r*w'
  .calc⟨4,g4 (by have:=ahC c;lia),w_,?_⟩;let h1:r*w'<=9*9:=kF r9 w9;show a8 (kF (show Pz.length<=6 by lia) (ko 4 h1)) w_
  .calc⟨7,g7,w_,?_⟩;show a8 (kF (show Pz.length<=6 by lia) (ko 7 (show r*w'<=20 by lia))) w_
 let ahR:=B5.ex;let⟨Tg,Hq,Bb,Hr,hb5,ahE,ahF,ahG⟩:=id B5.ex;calc JJ b C Tg _ _ ⟨RA,hb5,bF.cl,bF.nr,RA,b,C,Tg,_,_,RA,hb5,bF.cl,bF.nm,RA,b,C,Tg,_,_,RA,hb5,bF.cl,bF.nb,RA,zsz 3,λkt hkt=>?_⟩;let k6:aA H5 (upd H5 kt (HO.tup [.ref Hq,.ref Bb,.ref Hr])):=aA.upd hkt;let afV:upd H5 kt (HO.tup [.ref Hq,.ref Bb,.ref Hr]) kt=some (.tup [.ref Hq,.ref Bb,.ref Hr]):=au;generalize upd H5 kt (HO.tup [.ref Hq,.ref Bb,.ref Hr])=H6 at k6 afV ⊢;calc JS b k d Pz r w' ak aK ⟨bi,bj,g,rk,RA,B5.mv k6,BK.same k6,Em,afU,hg,SM,hbd,λpf as L H7 s7 hpf hY up ndL ahL hmL=>?_⟩;let okL:∀ts∈L,Cv ak r w' (cM ak r w' bi bj) ts:=λts h=>SN hb' BK.az ((hmL ts).mp h);let okN:∀ts∈L,ts≠[]/\∀t∈ts,Dj t:=λts h=>⟨(okL ts h).ne,(okL ts h).Dj r9 w9⟩
 let hlY:=hY.len;let hz4:L.length<=sizeLine:=wT;calc JI _ _ _ true ⟨RA,.tup hpf,xb,aU _ RA (bZ ?_)⟩;calc⟨pf,_,RA,.inr (aN.of hpf),λl1 hl1=>?_⟩;let k8:aA H7 (upd H7 l1 (HO.lst (as.map V.ref))):=aA.upd hl1;let hl8:upd H7 l1 (HO.lst (as.map V.ref)) l1=some (.lst (as.map V.ref)):=au;generalize upd H7 l1 (HO.lst (as.map V.ref))=H8 at k8 hl8 ⊢;let YH:=hY.mv k8;let hlay:∀a∈as,rM K H8 a (lO H8 a):=λa ha=>by
  let hm:lO H8 a∈L:=by rw[<-YH.eq];show cz ha
  show(YH.at_ a ha).lay (okN _ hm).1 (okN _ hm).2
 calc JE pf as (lO H8) ⟨RA,aN.of (k8 _ _ hpf),wT,hlay,λp2 as' hp2 pm Xg=>?_⟩;let k9:aA H8 (upd H8 p2 (HO.lst (as'.map V.ref))):=aA.upd hp2;let hp9:upd H8 p2 (HO.lst (as'.map V.ref)) p2=some (.lst (as'.map V.ref)):=au;generalize upd H8 p2 (HO.lst (as'.map V.ref))=H9 at k9 hp9 ⊢;let ahH:L.Nodup:=ndL;let e2:as'.map (lO H8)=L:=by
  let pmL:(as'.map (lO H8)).Perm L:=by rw[<-YH.eq];show pm.map _
  show YD Xg up (pmL.nodup_iff.mpr ndL) ndL (λz hz t ht=>by have:=(okN z (pmL.mem_iff.mp hz)).2 t ht;show⟨by have:=this.2.1;lia,this.2.2⟩) λz=>pmL.mem_iff
 let hYT:gq H9 as' L:=by rw[<-e2];show(gq.mk (λa ha=>YH.at_ a (pm.mem_iff.mp ha)) RA).mv k9
 calc JE 3 (.lst (L.map lR)) (.lst (L.map lR)) ⟨w_,.lst (aP.of (k9 _ _ hl8)) ((YH.mv k9).afI okN),.lst (aP.of hp9) (hYT.afI okN),aU _ RA ?_⟩;simp only[if_true,decide_true,dE];calc bZ ?_;let k79:=k8.trans k9;let afW:=k79 _ _ hpf;let s59:=(k6.trans s7).trans k79;calc⟨pf,_,RA,.inr (aN.of afW),_,RA,?_⟩;let bW:(as.map V.ref).length=L.length:=by rw[ab];show hlY
 rw[bW];calc⟨wT,wT,?_⟩;refine lM (lo:=0) (λn σ H'=>∃v9:Option V,σ=[some (.ref a),some (.ref pl),some (.int x),some (.ref pw),some (.ref b),some (.str (S rk)),some (.ref k),some (.ref kt),some (.ref pf),v9]/\aA H9 H')
  ⟨none,RA,aA.refl _⟩ ?_ ?_
 .intro i σ H' hi z;let⟨v9,rfl,sm⟩:=z;let hi:i<L.length:=wT;let hia:i<as.length:=wT;rw[show (0:Int)+(i:Int)=(i:Int) by lia];let s79:=k79.trans sm;let hYi:=hY.mv s79;let⟨ts,et,hat⟩:=hYi.get hia;let hm:=aS et;let hok:=okL ts hm;let⟨bs,hbs,Pg⟩:=id hat;let hlh:=hat.lay (K:=K) (okN ts hm).1 (okN ts hm).2;let PB:=sm _ _ afW;let aix:jC (as.map V.ref) (i:Int)=some (.ref as[i]):=aO (j:=i) (by simp[hia]);calc JI pf _ _ (.ref as[i]) ⟨RA,RA,aN.of PB,aix,as[i],bs,ts,RA,hbs,Pg,hlh,λH1 s1=>(aU _ RA (bZ ?_))⟩;let s91:=s79.trans s1;calc⟨_,_,RA,RA,aU _ RA ?_⟩;refine adh (λh=>bZ h) (λz h=>?_) ?_
  .let hj:i-1<as.length:=wT;let⟨us,eu,hau⟩:=(hYi.mv s1).get hj;let hmu:=aS eu;let hne:¬(lR ts=lR us):=λe=>by
    let e:ts=us:=aaV e;subst e;have:=e8.mp ahH (i-1) i wT hi wT;rw[ae hi]at et;rw[ae wT]at eu;show this ((bb eu).trans (bb et).symm)
   calc JI pf _ _ (.ref as[i]) ⟨RA,RA,aN.of (s1 _ _ PB),aix,_,_,RA,RA,pf,_,_,.ref as[i-1],RA,RA,aN.of (s1 _ _ PB),?_,2,lR ts,lR us,w_,(hlh.mv s1).1,(hau.lay (K:=K) (okN us hmu).1 (okN us hmu).2).1,aU _ RA ?_⟩;.rw[show (i:Int)-1=((i-1:Nat):Int) by lia];show aO (j:=i-1) (by simp[hj])
   .rw[am hne];show bZ h
  let s51:=(k6.trans s7).trans s91;let hb1:=s1 _ _ hbs;let hL1:=Pg.mv s1;let hal:=Pg.len;let pos:0<ts.length:=pE.mpr hok.ne;calc JI pf _ _ (.ref as[i]) ⟨RA,RA,aN.of (s1 _ _ PB),aix,b,k,d,as[i],Pz,rk,bs,ts,r,w',ak,aK,bi,bj,RA,⟨B5.mv s51,hb1,hL1,pos,hok.len,λt ht=>let ⟨c1,c2,_,c4⟩:=hok.cell t ht;⟨c1,c2,c4⟩⟩,BK.same s51,wT,Vt hb' BK.az ((hmL ts).mp hm),λH2 s2=>⟨RA,aU _ RA (bZ ?_)⟩⟩;let s12:=s1.trans s2;refine JI pf _ _ (.ref as[i]) ⟨RA,RA,aN.of (s12 _ _ PB),aix,as[i],RA,⟨_,aN.of (s12 _ _ hbs)⟩,λN hN=>FN (K:=K) (a:=as[i]) (f:=eY [] 0) (tt:=Fg (qW (ZM K false) (Q8 (Zi K) (eF 0) tQ (Bp (tC (V.int 2)))) (u_ (Cq C) [] E0 (iH (eF 5) n_)))) (te:=eF 0) (xs:=bs.map V.ref) (λn ys H'=>∃es:List Addr,ys=es.map V.ref/\es.length<=n/\(∀e∈es,e∈bs)/\(∀m,(h:m<ts.length)->m<n->cA ts[m]∈cM ak r w' bi bj->es≠[])/\H' N=some (.lst ys)/\aA H2 H')
   ⟨[],RA,ah _,λe h=>by simp at h,λm _ h=>by lia,au,aA.upd hN⟩ (λn ys H' _ h=>by let⟨_,_,_,_,_,_,sm⟩:=h;show aN.of (sm _ _ (s12 _ _ hbs))) ?_ ?_⟩
  .intro n z ys H3 hz z;let⟨es,rfl,hel,hes,hhk,uP,s3⟩:=z;rw[a_]at hz;let⟨e0,he0,rfl⟩:=eK.mp hz;let⟨hnb,ee⟩:=al.mp he0;let hnt:n<ts.length:=wT;let s13:=s12.trans s3;let⟨_,en⟩:=ji (Pg.mv s13) hnt;rw[ee]at en;calc⟨_,RA,e0,_,RA,aN.of en,λz=>absurd z.2 (show ¬HT.cB 3 3 (some 2)=3 by decide),λp hp=>?_⟩;let sp:aA H3 (upd H3 p (HO.tup [V.int ts[n].1,.int ts[n].2.1])):=aA.upd hp;let ep:upd H3 p (HO.tup [V.int ts[n].1,.int ts[n].2.1]) p=some (.tup [V.int ts[n].1,.int ts[n].2.1]):=au;let Ss:=sp _ _ uP;calc JP b r w' ak aK bi bj ⟨RA,(B5.mv (s51.trans s2)).mv (s3.trans sp),λpq hs H5 s5 hpq hPr=>?_⟩;let hps:=Cp (K:=K) hPr.at_;rw[hPr.eq]at hps;let Dq:=s5 _ _ Ss;let s25:=s3.trans (sp.trans s5);let hez:(es.map V.ref).length<sizeLine:=by rw[ab];show aL (by have:=hok.len;lia)
   let hnl:n<(bs.map V.ref).length:=by rw[ab];show hnb
   calc JE 2 (vL (cA ts[n])) ((cM ak r w' bi bj).map vL) ⟨w_,.tup (aN.of (s5 _ _ ep)) (.cons (.int _) (.cons (.int _) .nil)),.tup (aN.of hpq) hps,aU _ RA ?_⟩;simp only[a7,if_false];by_cases dN:cA ts[n]∈cM ak r w' bi bj
   .rw[ar (Cr.mpr dN)];calc cQ ⟨Dq,hez,dM.mk hnl ⟨es++[e0],w8,by simp;lia,λe he=>?_,λ_ _ _ _=>by simp,au,s25.bI hN⟩⟩;rcases bd.mp he with z|z;.show hes e z
    .rw[ap.mp z];show aS he0
   .rw[am λz=>dN (Cr.mp z)];calc bZ (dM.mk hnl ⟨es,RA,wT,hes,λm h1 h2 h3=>?_,Dq,s25⟩);rcases eC m n with z|z;.show hhk m h1 z h3
    .have:m=n:=by lia
     subst this;show absurd h3 dN
  .intro ys H3 z;let⟨es,rfl,hel,hes,hhk,uP,s3⟩:=z;let s13:=s12.trans s3;let⟨t0,ht0,htk⟩:=hok.hook;let⟨m,hm1,hm2⟩:=b9.mp ht0;let hne:es≠[]:=hhk m hm1 (by rw[ab];lia) (by rw[hm2];show htk);let⟨ds,hdl,hds⟩:=Tf (K:=K) (H:=H3) es λe he=>by
    let⟨m,hm,e1⟩:=b9.mp (hes e he);let⟨h2,en⟩:=ji (Pg.mv s13) (show m<ts.length by lia);rw[e1]at en;show⟨_,en,(hok.cell _ (aI _)).2.2.2.lt⟩
   calc⟨zsz 0,λZ hZ=>?_⟩;let sZ:aA H3 (upd H3 Z (HO.lst [])):=aA.upd hZ;calc JE 2 (.lst ds) (.lst []) ⟨w_,.lst (aP.of (sZ _ _ uP)) (hds.mv sZ),.lst (aP.of au) .nil,aU _ RA ?_⟩;rw[am (λz:Dt.lst ds=Dt.lst []=>by injection z with z;rw[z]at hdl;show hne (ij.mp hdl.symm))];show bZ ⟨_,RA,(sm.trans s13).trans sZ⟩
 .intro σ H' z;let⟨v9,rfl,sm⟩:=z;let s5':=s59.trans sm;let aaW:=s5' _ _ hb5;calc JJ b C Tg _ _ ⟨RA,aaW,bF.cl,bF.nr,RA,b,C,Tg,_,_,RA,aaW,bF.cl,bF.nm,RA,b,C,Tg,_,_,RA,aaW,bF.cl,bF.nb,RA,zsz 3,λZ hZ=>?_⟩;let sZ:aA H' (upd H' Z (HO.tup [.ref Hq,.ref Bb,.ref Hr])):=aA.upd hZ;let eZ:upd H' Z (HO.tup [.ref Hq,.ref Bb,.ref Hr]) Z=some (.tup [.ref Hq,.ref Bb,.ref Hr]):=au;generalize upd H' Z (HO.tup [.ref Hq,.ref Bb,.ref Hr])=H10 at sZ eZ ⊢;let PJ:=s5'.trans sZ;let hds:dJ K H10 2 [.tup (ak.map Dt.str),.tup (aK.map Dt.str),vL (bi,bj)] [.ref Hq,.ref Bb,.ref Hr]:=
   .cons (.tup (aN.of (PJ _ _ ahE)) (dJ.Ho λl hl c hc=>by rcases O.cr l hl c hc with z|z;rw[z];decide;show z.lt)) (.cons (.tup (aN.of (PJ _ _ ahF)) (dJ.Ho λl hl c hc=>by have:=O.cm l hl c hc;simp[Xu,MK]at this;lia)) (.cons (.tup (aN.of (PJ _ _ ahG)) (.cons (.int _) (.cons (.int _) .nil))) .nil))
  calc JE 3 _ _ ⟨w_,.tup (aN.of eZ) hds,.tup (aN.of (sZ _ _ (sm _ _ (k79 _ _ (s7 _ _ afV))))) hds,?_⟩;simp only[a7,if_false,decide_true];let afX:=BK.same PJ;let⟨ahI,ahJ⟩:=afX.ob;let agH:=PJ _ _ (s45 _ _ afS);calc JE k ahI _ ⟨RA,ahJ,RA,k,d,Pz,RA,afX,Em,λtw us H11 s11 _ htw pmu rsu=>?_⟩;calc⟨pw,_,RA,.inl ⟨aP.of (s11 _ _ agH),λl1 hl1=>?_⟩⟩;let s12:aA H11 (upd H11 l1 (HO.tup (Ts ws))):=aA.upd hl1;let eu:us=ws:=aaU (pmu.trans ((ve BK.nd nd).mpr hmem)) rsu rs;subst eu;let afY:∀l∈us,∀c∈l,c<128:=λl hl c hc=>by have:=(az l hl).az c hc;unfold isLet at this;lia
  calc JE 2 _ _ ⟨w_,.tup (aN.of (s12 _ _ htw)) (dJ.Ho afY),.tup (aN.of au) (dJ.Ho afY),?_⟩;simp only[a7,if_false,decide_true];show q _
end
end My
end
namespace My
open PySem L2
section
variable {P:Program}{w:World}{K:W.Frag}{mg:Str->Option Value}{base:Heap}
structure yW (K:W.Frag)(mg:Str->Option Value)(C f0 f1 f2 f3 f4 f5:Addr)(pL jg fd2 Dk Ti Tj:FuncData):Prop where
 T:dF K C
 YJ:mg "Board"=some (.ref C)
 M:Mk K C f0
 F0:iY K "__init__" "Board.__init__" jc f0 pL
 b0:cu K pL ["self","rows","marks","begin"] []
 F1:iY K "at" "Board.at" j4 f1 jg
 b1:cu K jg ["self","row","column"] []
 m1:Meth K C "at" f1
 F2:iY K "is_free" "Board.is_free" gn f2 fd2
 b2:cu K fd2 ["self"] []
 m2:Meth K C "is_free" f2
 F3:iY K "run" "Board.run" jy f3 Dk
 b3:cu K Dk ["self","row","column","way"] []
 m3:Meth K C "run" f3
 F4:iY K "turned" "Board.turned" gJ f4 Ti
 b4:cu K Ti ["self"] []
 m4:Meth K C "turned" f4
 F5:iY K "laid" "Board.laid" jd f5 Tj
 b5:cu K Tj ["self","laying"] []
 m5:Meth K C "laid" f5
def aaX {h:Heap}{C f0 f1 f2 f3 f4 f5:Addr}(X:K.In h)(G:h.Ns mainGlobals mg){od0 an0 od1 an1 od2 an2 od3 an3 od4 an4 od5 an5:Option Addr}{sl0 sl1 sl2 sl3 sl4 sl5:Array (Option Value)}{oc0 kV0 dc0 pm0 YK ct0 oc1 kV1 dc1 SQ YL ct1 oc2 kV2 dc2 Pb YM ct2 oc3 kV3 dc3 pm3 cd3 ct3 oc4 kV4 dc4 pm4 cd4 ct4 oc5 kV5 dc5 Bb cd5 ct5:Value}(aC:W.nsIn K mainGlobals "Board"=some (some (.ref C)))(a0:W.findIn K (.ref C) "__init__"=some (some (.ref f0)))(i0:W.isFn K (.ref f0)=true)(l0:K.lookup f0=some ⟨oc0,od0,.func (W.fnOf "__init__" "Board.__init__" (eV jc) (cY jc) (aG jc) .none kV0 dc0 pm0 an0 YK ct0),sl0⟩)(c0:W.codeIn K YK "Board.__init__"=true)(k0:W.keepIn K (.ref f0)=true)(a1:W.findIn K (.ref C) "at"=some (some (.ref f1)))(i1:W.isFn K (.ref f1)=true)(l1:K.lookup f1=some ⟨oc1,od1,.func (W.fnOf "at" "Board.at" (eV j4) (cY j4) (aG j4) .none kV1 dc1 SQ an1 YL ct1),sl1⟩)(c1:W.codeIn K YL "Board.at"=true)(k1:W.keepIn K (.ref f1)=true)(a2:W.findIn K (.ref C) "is_free"=some (some (.ref f2)))(i2:W.isFn K (.ref f2)=true)(l2:K.lookup f2=some ⟨oc2,od2,.func (W.fnOf "is_free" "Board.is_free" (eV gn) (cY gn) (aG gn) .none kV2 dc2 Pb an2 YM ct2),sl2⟩)(c2:W.codeIn K YM "Board.is_free"=true)(k2:W.keepIn K (.ref f2)=true)(a3:W.findIn K (.ref C) "run"=some (some (.ref f3)))(i3:W.isFn K (.ref f3)=true)(l3:K.lookup f3=some ⟨oc3,od3,.func (W.fnOf "run" "Board.run" (eV jy) (cY jy) (aG jy) .none kV3 dc3 pm3 an3 cd3 ct3),sl3⟩)(c3:W.codeIn K cd3 "Board.run"=true)(k3:W.keepIn K (.ref f3)=true)(a4:W.findIn K (.ref C) "turned"=some (some (.ref f4)))(i4:W.isFn K (.ref f4)=true)(l4:K.lookup f4=some ⟨oc4,od4,.func (W.fnOf "turned" "Board.turned" (eV gJ) (cY gJ) (aG gJ) .none kV4 dc4 pm4 an4 cd4 ct4),sl4⟩)(c4:W.codeIn K cd4 "Board.turned"=true)(k4:W.keepIn K (.ref f4)=true)(a5:W.findIn K (.ref C) "laid"=some (some (.ref f5)))(i5:W.isFn K (.ref f5)=true)(l5:K.lookup f5=some ⟨oc5,od5,.func (W.fnOf "laid" "Board.laid" (eV jd) (cY jd) (aG jd) .none kV5 dc5 Bb an5 cd5 ct5),sl5⟩)(c5:W.codeIn K cd5 "Board.laid"=true)(k5:W.keepIn K (.ref f5)=true)(pg:W.plainGet K C Str.empty=true)(hd:W.hasDictIn K C=true)(po:W.plainOver K C=true)(sa:W.findIn K (.ref C) "__setattr__"=some (some (.builtin "object.__setattr__")))(mk:W.makesIn K C=true)(kc:W.keepIn K (.ref C)=true)(PL:W.findIn K (.ref C) "rows"=some none)(nf1:W.findIn K (.ref C) "marks"=some none)(nf2:W.findIn K (.ref C) "begin"=some none):∃C f0 f1 f2 f3 f4 f5 pL jg fd2 Dk Ti Tj,yW K mg C f0 f1 f2 f3 f4 f5 pL jg fd2 Dk Ti Tj:=by let F0:=kE (st:=jc) l0 c0 k0;let F1:=kE (st:=j4) l1 c1 k1;let F2:=kE (st:=gn) l2 c2 k2;let F3:=kE (st:=jy) l3 c3 k3;let F4:=kE (st:=gJ) l4 c4 k4;let F5:=kE (st:=jd) l5 c5 k5;show JS C f0 f1 f2 f3 f4 f5 _ ⟨_,_,_,_,_,⟨⟨pg,hd,po,sa⟩,PL,nf1,nf2⟩,pi X G aC,⟨mk,a0,i0,kc⟩,F0,F0.binds (ps:=["self","rows","marks","begin"]) (λ_ _ _ _ _ _ us hl=>L2.e4 (λ_ _ _ _=>rfl) us hl),F1,F1.binds (ps:=["self","row","column"]) (λ_ _ _ _ _ _ us hl=>L2.e3 (λ_ _ _=>rfl) us hl),⟨a1,i1,k1⟩,F2,F2.binds (ps:=["self"]) (λ_ _ _ _ _ _ us hl=>L2.e1 (λ_=>rfl) us hl),⟨a2,i2,k2⟩,F3,F3.binds (ps:=["self","row","column","way"]) (λ_ _ _ _ _ _ us hl=>L2.e4 (λ_ _ _ _=>rfl) us hl),⟨a3,i3,k3⟩,F4,F4.binds (ps:=["self"]) (λ_ _ _ _ _ _ us hl=>L2.e1 (λ_=>rfl) us hl),⟨a4,i4,k4⟩,F5,F5.binds (ps:=["self","laying"]) (λ_ _ _ _ _ _ us hl=>L2.e2 (λ_ _=>rfl) us hl),⟨a5,i5,k5⟩⟩
structure Bc (K:W.Frag)(mg:Str->Option Value)(C f0 f1 f2:Addr)(pL jg fd2:FuncData):Prop where
 T:oR K C
 YJ:mg "Book"=some (.ref C)
 M:Mk K C f0
 F0:iY K "__init__" "Book.__init__" jz f0 pL
 b0:cu K pL ["self","words"] []
 F1:iY K "has" "Book.has" j9 f1 jg
 b1:cu K jg ["self","text"] []
 m1:Meth K C "has" f1
 F2:iY K "words" "Book.words" jf f2 fd2
 b2:cu K fd2 ["self"] []
 m2:Meth K C "words" f2
def ado {h:Heap}{C f0 f1 f2:Addr}(X:K.In h)(G:h.Ns mainGlobals mg){od0 an0 od1 an1 od2 an2:Option Addr}{sl0 sl1 sl2:Array (Option Value)}{oc0 kV0 dc0 pm0 YK ct0 oc1 kV1 dc1 SQ YL ct1 oc2 kV2 dc2 Pb YM ct2:Value}(aC:W.nsIn K mainGlobals "Book"=some (some (.ref C)))(a0:W.findIn K (.ref C) "__init__"=some (some (.ref f0)))(i0:W.isFn K (.ref f0)=true)(l0:K.lookup f0=some ⟨oc0,od0,.func (W.fnOf "__init__" "Book.__init__" (eV jz) (cY jz) (aG jz) .none kV0 dc0 pm0 an0 YK ct0),sl0⟩)(c0:W.codeIn K YK "Book.__init__"=true)(k0:W.keepIn K (.ref f0)=true)(a1:W.findIn K (.ref C) "has"=some (some (.ref f1)))(i1:W.isFn K (.ref f1)=true)(l1:K.lookup f1=some ⟨oc1,od1,.func (W.fnOf "has" "Book.has" (eV j9) (cY j9) (aG j9) .none kV1 dc1 SQ an1 YL ct1),sl1⟩)(c1:W.codeIn K YL "Book.has"=true)(k1:W.keepIn K (.ref f1)=true)(a2:W.findIn K (.ref C) "words"=some (some (.ref f2)))(i2:W.isFn K (.ref f2)=true)(l2:K.lookup f2=some ⟨oc2,od2,.func (W.fnOf "words" "Book.words" (eV jf) (cY jf) (aG jf) .none kV2 dc2 Pb an2 YM ct2),sl2⟩)(c2:W.codeIn K YM "Book.words"=true)(k2:W.keepIn K (.ref f2)=true)(pg:W.plainGet K C Str.empty=true)(hd:W.hasDictIn K C=true)(po:W.plainOver K C=true)(sa:W.findIn K (.ref C) "__setattr__"=some (some (.builtin "object.__setattr__")))(mk:W.makesIn K C=true)(kc:W.keepIn K (.ref C)=true)(PL:W.findIn K (.ref C) "held"=some none):∃C f0 f1 f2 pL jg fd2,Bc K mg C f0 f1 f2 pL jg fd2:=by let F0:=kE (st:=jz) l0 c0 k0;let F1:=kE (st:=j9) l1 c1 k1;let F2:=kE (st:=jf) l2 c2 k2;show JP C f0 f1 f2 _ _ _ ⟨⟨⟨pg,hd,po,sa⟩,PL⟩,pi X G aC,⟨mk,a0,i0,kc⟩,F0,F0.binds (ps:=["self","words"]) (λ_ _ _ _ _ _ us hl=>L2.e2 (λ_ _=>rfl) us hl),F1,F1.binds (ps:=["self","text"]) (λ_ _ _ _ _ _ us hl=>L2.e2 (λ_ _=>rfl) us hl),⟨a1,i1,k1⟩,F2,F2.binds (ps:=["self"]) (λ_ _ _ _ _ _ us hl=>L2.e1 (λ_=>rfl) us hl),⟨a2,i2,k2⟩⟩
def adp (bG:mg "len"=none)(dD:mg "range"=none)(dZ:mg "sorted"=none)(bH:mg "tuple"=none)(gW:mg "list"=none)(bC:mg "isinstance"=none)(rC:mg "bool"=none)(jw:mg "int"=none)(tG:mg "str"=none)(d9:mg "all"=none)(pN:mg "any"=none)(G5:mg "set"=none)(gQ:mg "enumerate"=none)(vN:mg "zip"=none)(G8:mg "min"=none)(cP:∃t,mg "FREE"=some (.str (S [46]) t))(xq:∃t,mg "MARKS"=some (.str (S MK) t))(xg:∃t,mg "MOST"=some (.int 9 t))(oV:∃t,mg "LETTERS"=some (.str (S AL) t))(gZ:∃t,mg "MOST_TILES"=some (.int 7 t))(yX:aJ K mg "is_whole" sV ["thing"])(Bd:aJ K mg "is_sign" vp ["thing"])(wA:aJ K mg "letter_of" qM ["sign"])(vP:aJ K mg "tile_of" rA ["sign"])(Bf:aJ K mg "left_of" vq ["rack","signs"])(pY:aJ K mg "turned_laying" lG ["laying"])(yZ:aJ K mg "is_block" sX ["thing"])(zf:aJ K mg "are_rows" sY ["thing"])(wB:aJ K mg "are_marks" qO ["thing"])(uQ:aJ K mg "is_cell_of" pD ["rows","row","column"])(rR:aJ K mg "is_begin_of" nF ["rows","thing"])(zj:aJ K mg "is_board" tu ["rows","marks","begin"])(rT:aJ K mg "column_text" nG ["rows","column"])(rW:aJ K mg "turned_rows" nH ["rows"])(wC:aJ K mg "is_triple" qP ["board","thing"])(wD:aJ K mg "is_laying" qQ ["board","thing"])(zm:aJ K mg "cells_of" tD ["laying"])(wF:aJ K mg "is_across" qR ["laying"])(Bg:aJ K mg "is_down" vB ["laying"])(mD:aJ K mg "is_next_to_taken" jr ["board","row","column"])(Eu:aJ K mg "formed" yE ["board","laying"])(uR:aJ K mg "check_free" pF ["board","laying"])(oH:aJ K mg "check_straight" j6 ["laying"])(uT:aJ K mg "check_gaps" pG ["board","laying"])(qH:aJ K mg "check_joined" mK ["board","laying"])(rY:aJ K mg "check_words" nP ["board","book","laying"])(qI:aJ K mg "check_laying" mL ["board","book","rack","laying"])(pZ:aJ K mg "cross_letters" lH ["board","book","row","column","way"])(uU:aJ K mg "free_cells" pI ["board"])(Jl:aJ K mg "hooks" Cd ["board"])(Ew:aJ K mg "starts" yF ["board","word"])(oJ:aJ K mg "letters_to_lay" j7 ["board","row","column","word"])(qJ:aJ K mg "letters_down" mO ["board","book"])(rZ:aJ K mg "can_be_laid" nR ["triples","fitting","joining"])(uV:aJ K mg "sign_texts" jP ["letters","rack"])(uW:aJ K mg "layings_of" pJ ["triples","rack"])(oK:aJ K mg "layings_across" j8 ["board","book","rack"])(su:aJ K mg "all_layings" nW ["board","book","rack"])(Bh:aJ K mg "is_word" vD ["text"])(uZ:aJ K mg "check_word" pK ["text"])(Bj:aJ K mg "_law_cell_at" vG ["_law_script","_law_k"])(PN:aJ K mg "_law_next" Gw ["_law_x"])(Jm:aJ K mg "_law_other" Ce ["_law_x"])(Ey:aJ K mg "_law_number" yG ["_law_script","_law_k"])(Ez:aJ K mg "_law_digits" yH ["_law_script","_law_k","_law_base","_law_many"])(Bk:aJ K mg "_law_letters" vH ["_law_script","_law_k"])(Jo:aJ K mg "_law_words" Cg ["_law_letters_here","_law_script","_law_start","_law_many"])(PX:aJ K mg "_law_size" Gx ["_law_x"])(Jp:aJ K mg "_law_board" Ci ["_law_letters_here","_law_script","_law_start","_law_x"])(P0:aJ K mg "_law_rack" Gy ["_law_letters_here","_law_script","_law_k","_law_most"])(Jq:aJ K mg "_law_plain" Cj ["_law_laying"]){adq adt adu adv adw adx ady:Addr}{aaY aaZ aa0 aa1 aa2 aa3:FuncData}(bh:yW K mg adq adt adu adv adw adx ady aaY aaZ aa0 aa1 aa2 aa3){afZ af0 af2 af3:Addr}{adz adA adB:FuncData}(fK:Bc K mg afZ af0 af2 af3 adz adA adB){f:Addr}{fd:FuncData}(F:iY K "law" "law" Lx f fd):cJ P w K mg base fG 20 f fd ["_law_script"] (Ln K):=by let c1:=U4 (P:=P) (w:=w) (base:=base) Bj bG;let c2:=acR (P:=P) (w:=w) (base:=base) PN;let c3:=aao (P:=P) (w:=w) (base:=base) Jm;let c4:=Xo Ey c1 c2 c3;let c5:=Xp Ez dD c1 c2 c3 c4;let c6:=U5 Bk gW c5;let c7:=Qv Jo bG dD dZ gW c5;let c8:=acS (P:=P) (w:=w) (base:=base) PX;let p1:=UW (P:=P) (w:=w) (base:=base) Bd bG tG bC;let p2:=Qw (P:=P) (w:=w) (base:=base) yX jw rC bC;let p3:=Qx (P:=P) (w:=w) (base:=base) yZ bG bH tG d9 bC xg;let p4:=Qy zf d9 cP p3 p1;let p5:=Oi wB d9 xq p3;let p6:=K6 uQ bG p2;let p7:=Ir rR bG bH bC p6;let p8:=Qz zj bG p4 p5 p7;let p9:=Iu (P:=P) (w:=w) (base:=base) rT;let pA:=Iz rW bG dD bH p9;let g0:=K8 bh.F0 bh.T p8;let g1:=agF bh.F1 bh.T cP p6;let g2:=U_ (P:=P) (w:=w) (base:=base) bh.F2 bh.T d9 cP;let g3:=afr bh.F3 bh.T bG cP p9;let g4:=XH bh.F4 bh.T bh.YJ bh.M g0 bh.b0 pA;let g5:=acY bh.F5 bh.T gW bH bh.YJ bh.M g0 bh.b0;let w1:=U6 (P:=P) (w:=w) (base:=base) Bh bG d9;let w2:=K5 uZ w1;let k0:=acV fK.F0 fK.T w2;let k1:=afp (P:=P) (w:=w) (mg:=mg) (base:=base) fK.F1 fK.T;let k2:=aas (P:=P) (w:=w) (base:=base) fK.F2 fK.T dZ bH;let x3:=Ov Jp bG dD bH jw bh.YJ bh.M g0 bh.b0 c8 c5;let x4:=Eh pZ bG oV bh.T fK.T bh.m5 g5 bh.b5 bh.m3 g3 bh.b3 fK.m1 k1 fK.b1;let y1:=Ve mD pN cP bh.T bh.m1 g1 bh.b1;let y2:=K9 (P:=P) (w:=w) (base:=base) uU gQ cP bh.T;let y3:=aaB Jl bH bh.T bh.m2 g2 bh.b2 y2 y1;let y4:=Ej (P:=P) (w:=w) (base:=base) pY bH dZ;let z1:=QD (P:=P) (w:=w) (base:=base) zm;let z2:=OD (P:=P) (w:=w) (base:=base) wA;let z3:=Ye (P:=P) (w:=w) (base:=base) Ew bG dD bh.T;let z4:=CJ oJ bG gQ cP bh.T bh.m1 g1 bh.b1 z2;let z5:=GX qJ y2 x4;let z6:=IV rZ bG d9 pN gZ z1;let z7:=K_ (P:=P) (w:=w) (base:=base) uV vP;let z8:=La uW bH vN z1 z7;let z9:=CK oK fK.T fK.m2 k2 fK.b2 z5 y3 z3 z4 z6 z8;let za:=Jc su G5 dZ bH bh.T bh.m4 g4 bh.b4 z9 y4;let zc:=ac8 P0 bG G8 jw c5;let x5:=Ph (P:=P) (w:=w) (base:=base) wF d9;let x6:=Yr Eu bG bH bh.T bh.m5 g5 bh.b5 bh.m3 g3 bh.b3 x5;let t1:=Pk wC bG bH bC bh.T p6 p1;let t2:=Pn wD bG bH bC d9 vN gZ t1 z1;let t3:=Vj (P:=P) (w:=w) (base:=base) Bg d9;let t4:=Ld uR cP bh.T bh.m1 g1 bh.b1;let t5:=CN oH x5 t3;let t6:=Le uT dD cP bh.T bh.m1 g1 bh.b1 bh.m5 g5 bh.b5;let t7:=Hh qH pN bh.T bh.m2 g2 bh.b2 z1 y1;let t8:=Vo Bf gW dZ (Vm (P:=P) (w:=w) (base:=base) vP);let t9:=Ji rY fK.T fK.m1 k1 fK.b1 x6;let ta:=Hi qI t2 t4 t5 t6 t7 t8 t9;let tb:=aaS (P:=P) (w:=w) (base:=base) Jq bG bH tG jw rC bC;show(afM F bG bH jw dZ gW dD bC bh.T fK.T fK.YJ fK.M k0 fK.b0 fK.m2 k2 fK.b2 c6 c4 c7 x3 zc za tb ta y3).mono w_
end
end My
namespace PySem.W.Fast
abbrev U:=True
def tw1991083202861430270:=U
def tw12926487109386552186:=U
def tw801726200866289089:=U
def tw10812169113837828301:=U
def tw10459845732762984124:=U
def tw10925972955680389983:=U
def tw18089380500055772850:=U
def tw15507449099675982108:=U
def tw17830556273806553017:=U
def tw3461823309722680599:=U
def tw4545634539526227721:=U
def tw1841441941623998611:=U
def tw8216435112776633379:=U
def tw1151882998497248567:=U
def tw1521215693443715133:=U
def tw10787090205269576128:=U
def tw12000853206720919722:=U
def tw16118036347863385953:=U
def tw15305406758531985952:=U
def tw11244775384678748977:=U
def tw13616956312274563028:=U
def tw4824773500641080647:=U
def tw17656581102082131234:=U
def tw251829258606551811:=U
def tw9647833067043597972:=U
def tw2959053785957642101:=U
def tw14252935333478871450:=U
def tw1672980632757431030:=U
def tw17406217436676419605:=U
def tw9388412417207962153:=U
def tw3814353177430376156:=U
def tw15292394940445046039:=U
def tw6414703818626758166:=U
def tw7523934714532234599:=U
def tw16632584431245772888:=U
def tw2824069742051774530:=U
def tw16837821590308630837:=U
def tw4353698172897163101:=U
def tw8748690082707066036:=U
def tw18339652013860831685:=U
def tw6310174174187744340:=U
def tw3360945266104174140:=U
def tw13653731390236976255:=U
def tw13616962838182417100:=U
def tw17818320725832250714:=U
def tw5787381013446352896:=U
def tw14664713406278845697:=U
def tw2734307058854645854:=U
def tw6866698634776090660:=U
def tw18385864141002394975:=U
def tw13547754586235968288:=U
def tw969507388504508788:=U
def tw1393714624480418820:=U
def tw12983092027814566631:=U
def tw9329116215072163975:=U
def tw550863657434368072:=U
def tw8177766101304792283:=U
def tw5819835444220364122:=U
def tw15249869879826668941:=U
def tw13197031860090502459:=U
def tw9730773963398612025:=U
def tw2213055609214636700:=U
def tw11866651915677850859:=U
def tw1734986981007267994:=U
def tw11937024856680695002:=U
def tw3821675758580372982:=U
def tw1194438804495793790:=U
def tw6489117477845255755:=U
def tw12529640274456225825:=U
def tw14705217412203691205:=U
def tw17806405072991067354:=U
def tw7787665993018119144:=U
def tw3858503788122084858:=U
def tw5720203671175505148:=U
def tw11851579175812221023:=U
def tw6508401629254092036:=U
def tw8522355253917563986:=U
def tw10471002453460398168:=U
def tw5223004921771268841:=U
def tw15868354888558177231:=U
def tw7051297921863799954:=U
def tw1075861020468982677:=U
def tw6159799033039551314:=U
def tw13761478566088901193:=U
def tw14391587701421110510:=U
def tw850824111442269603:=U
def tw8513585062532980570:=U
def tw9780156549141057848:=U
def tw6573327630783653698:=U
def tw12433716769525987200:=U
def tw2618536795939457480:=U
def tw14498757413156062409:=U
def tw5013237347131330474:=U
def tw4139416116544619221:=U
def tw13929469282971661593:=U
def tw353742261986871986:=U
def tw8063135487416137705:=U
def tw17262724282828051547:=U
def tw8130331255857383284:=U
def tw17388183233000415279:=U
def tw4648835474107799553:=U
def tw2749855253977716111:=U
def tw7357927683597439638:=U
def tw7069768442783561446:=U
def tw4685687992654325822:=U
def tw3366106957275464207:=U
def tw1464516239845369098:=U
def tw10245883546964786254:=U
def tw1872875553007660241:=U
def tw6560362622349990798:=U
def tw7637546164961742344:=U
def tw1634202618060886135:=U
def tw11305955472084807118:=U
def tw16738785502960219043:=U
def tw6159643627186895591:=U
def tw2935850728588042462:=U
def tw1179617924190943446:=U
def tw16289702367223223331:=U
def tw6018776026995207183:=U
def tw298459443281318920:=U
def tw8544037943284894017:=U
def tw4331015049096935214:=U
def tw5460285652897922198:=U
def tw2017253417626425030:=U
def tw7293964125414501484:=U
def tw7515334466257714111:=U
def tw16769403786337675753:=U
def tw7391149612142132391:=U
def tw763365567608851302:=U
def tw8017415184452564474:=U
def tw14636919404183538174:=U
def tw7101505415565177880:=U
def tw9092142695575837633:=U
def tw6535710015291448809:=U
def tw11959190981141398705:=U
def tw9310992373194186569:=U
def tw5927229363458244755:=U
def tw12350388099815443502:=U
def tw17469002404606305134:=U
def tw9651893952530543971:=U
def tw9957661280201488229:=U
def tw16781116105693936522:=U
def tw8681796248486768285:=U
def tw5608879100728711746:=U
def tw14894806094325736164:=U
def tw1447342804352501560:=U
def tw7063595076416271087:=U
def tw10324564420218897758:=U
def tw8973915243742494507:=U
def tw4416243630601057977:=U
def tw2599441627386419804:=U
def tw6193608095046484013:=U
def tw14330771691368405018:=U
def tw17543191528853623537:=U
def tw10819575757868321096:=U
def tw13981640958335908185:=U
def tw15906329613511654290:=U
def tw12767900445105357841:=U
def tw10003562529421128598:=U
def tw12752863004987605373:=U
def tw5044595180404489908:=U
def tw2056403761496269359:=U
def tw6913742508568546971:=U
def tw14454272388753013063:=U
def tw9220102852260270458:=U
def tw15932161581282440079:=U
def tw16041486300393170762:=U
def tw8728566914020996564:=U
def tw18100974400191947842:=U
def tw13475596746868217310:=U
def tw17472477338713995971:=U
def tw11727881739668424099:=U
def tw1671330036505077399:=U
def tw11133088134166538097:=U
def tw2117607825598679777:=U
def tw11761329056623793206:=U
def tw1332360941958434924:=U
def tw12285536452859230216:=U
def tw8174964866425477877:=U
def tw6808521342515502748:=U
def tw3991224795632035816:=U
def tw6203704069184041355:=U
def tw13666595971839432325:=U
def tw2117206341567351434:=U
def tw15894822205781929560:=U
def tw4508442243295792299:=U
def tw7772145069600778851:=U
def tw16214685345554540924:=U
def tw18371554363458068542:=U
def tw11729294020011930584:=U
def tw16402657775653110719:=U
def tw4026189214069947001:=U
def tw7939495562964164371:=U
def tw11383139747270324367:=U
def tw16142980784037744458:=U
def tw11182667485748890375:=U
def tw6676934508494318542:=U
def tw9557071395617782817:=U
def tw2870758304122055496:=U
def tw14046329589231713305:=U
def tw9661846631111847875:=U
def tw15493239809451555744:=U
def tw12994046464001941405:=U
def tw3299886510883864059:=U
def tw2286515235205376194:=U
def tw70401070976228875:=U
def tw2984086789177766425:=U
def tw1295924564921261879:=U
def tw8467468580206781271:=U
def tw1990209718753341505:=U
def tw5271364023474002905:=U
def tw14414902419042350777:=U
def tw16272048724966356226:=U
def tw11664869639543379274:=U
def tw1693615649380179929:=U
def tw8067403229854009879:=U
def tw4243350481109868274:=U
def tw14057432061738379110:=U
def tw5413967939985949519:=U
def tw5522104436779571146:=U
end PySem.W.Fast
open PySem PySem.W PyProof.Rows
def L2.dK {K:W.Frag}{h:Heap}{mg:Str->Option Value}{name:Str}{st:Stmt}{ps:List Str}{f:Addr}{oc:Value}{od an:Option Addr}{osl:Array (Option Value)}{kV doc pm bD ct:Value}(X:K.In h)(G:h.Ns mainGlobals mg)(a:W.nsIn K mainGlobals name=some (some (.ref f)):=by k_is)(l:K.lookup f=some ⟨oc,od,.func (W.fnOf name name (L2.eV st) (L2.cY st) (L2.aG st) .none kV doc pm an bD ct),osl⟩:=by k_is)(c:W.codeIn K bD name=true:=by k_is)(k:W.keepIn K (.ref f)=true:=by k_is)(hb:∀(kV doc pm:Value) (an:Option Addr) (bD ct:Value) (us:List Value),us.length=ps.length->bindArgs (W.fnOf name name (L2.eV st) (L2.cY st) (L2.aG st) .none kV doc pm an bD ct) ⟨us,[]⟩=pure (ps.zip us):=by intro _ _ _ _ _ _ us hl;first|show(L2.e1 (λ_=>rfl) us hl)|show(L2.e2 (λ_ _=>rfl) us hl)|show(L2.e3 (λ_ _ _=>rfl) us hl)|show(L2.e4 (λ_ _ _ _=>rfl) us hl)|show(L2.e5 (λ_ _ _ _ _=>rfl) us hl)):L2.aJ (L2.KOf X) mg name st ps:=L2.Zx X G a l c k hb
set_option maxRecDepth 100000 in
set_option maxHeartbeats 0 in
theorem PySem.Challenge.cw_letterrack_k42_each_breaks_no_rule_holds : PySem.Challenge.rw_letterrack_k42_each_breaks_no_rule.Holds := by
 w_on;o_law;k_head;(case hw=>w_witness2)
 k_fill
 refine L2.ab_ (x:="_law_script") (l:=PySem.Challenge.rw_letterrack_k42_each_breaks_no_rule) rfl rfl (λw h Y=>W.kIn_of Y) ?F
 case F=>
  intro w mg fa h KX G hmg;have bG:mg "len"=none:=by
   refine' ej KX G ?z
   (case z=>k_is)
  have dD:mg "range"=none:=by
   refine' ej KX G ?z
   (case z=>k_is)
  have dZ:mg "sorted"=none:=by
   refine' ej KX G ?z
   (case z=>k_is)
  have bH:mg "tuple"=none:=by
   refine' ej KX G ?z
   (case z=>k_is)
  have gW:mg "list"=none:=by
   refine' ej KX G ?z
   (case z=>k_is)
  have bC:mg "isinstance"=none:=by
   refine' ej KX G ?z
   (case z=>k_is)
  have rC:mg "bool"=none:=by
   refine' ej KX G ?z
   (case z=>k_is)
  have jw:mg "int"=none:=by
   refine' ej KX G ?z
   (case z=>k_is)
  have tG:mg "str"=none:=by
   refine' ej KX G ?z
   (case z=>k_is)
  have d9:mg "all"=none:=by
   refine' ej KX G ?z
   (case z=>k_is)
  have pN:mg "any"=none:=by
   refine' ej KX G ?z
   (case z=>k_is)
  have G5:mg "set"=none:=by
   refine' ej KX G ?z
   (case z=>k_is)
  have gQ:mg "enumerate"=none:=by
   refine' ej KX G ?z
   (case z=>k_is)
  have vN:mg "zip"=none:=by
   refine' ej KX G ?z
   (case z=>k_is)
  have G8:mg "min"=none:=by
   refine' ej KX G ?z
   (case z=>k_is)
  have cP:∃t,mg "FREE"=some (.str (L2.S [46]) t):=by
   refine' L2.DN KX G ?z
   (case z=>k_is)
  have xq:∃t,mg "MARKS"=some (.str (L2.S My.MK) t):=by
   refine' L2.DN KX G ?z
   (case z=>k_is)
  have xg:∃t,mg "MOST"=some (.int 9 t):=by
   refine' L2.M4 KX G ?z
   (case z=>k_is)
  have oV:∃t,mg "LETTERS"=some (.str (L2.S L2.AL) t):=by
   refine' L2.DN KX G ?z
   (case z=>k_is)
  have gZ:∃t,mg "MOST_TILES"=some (.int 7 t):=by
   refine' L2.M4 KX G ?z
   (case z=>k_is)
  have yX:L2.aJ (L2.KOf KX) mg "is_whole" My.sV ["thing"]:=L2.dK KX G;have Bd:L2.aJ (L2.KOf KX) mg "is_sign" My.vp ["thing"]:=L2.dK KX G;have wA:L2.aJ (L2.KOf KX) mg "letter_of" My.qM ["sign"]:=L2.dK KX G;have vP:L2.aJ (L2.KOf KX) mg "tile_of" My.rA ["sign"]:=L2.dK KX G;have Bf:L2.aJ (L2.KOf KX) mg "left_of" My.vq ["rack","signs"]:=L2.dK KX G;have pY:L2.aJ (L2.KOf KX) mg "turned_laying" My.lG ["laying"]:=L2.dK KX G;have yZ:L2.aJ (L2.KOf KX) mg "is_block" My.sX ["thing"]:=L2.dK KX G;have zf:L2.aJ (L2.KOf KX) mg "are_rows" My.sY ["thing"]:=L2.dK KX G;have wB:L2.aJ (L2.KOf KX) mg "are_marks" My.qO ["thing"]:=L2.dK KX G;have uQ:L2.aJ (L2.KOf KX) mg "is_cell_of" My.pD ["rows","row","column"]:=L2.dK KX G;have rR:L2.aJ (L2.KOf KX) mg "is_begin_of" My.nF ["rows","thing"]:=L2.dK KX G;have zj:L2.aJ (L2.KOf KX) mg "is_board" My.tu ["rows","marks","begin"]:=L2.dK KX G;have rT:L2.aJ (L2.KOf KX) mg "column_text" My.nG ["rows","column"]:=L2.dK KX G;have rW:L2.aJ (L2.KOf KX) mg "turned_rows" My.nH ["rows"]:=L2.dK KX G;have wC:L2.aJ (L2.KOf KX) mg "is_triple" My.qP ["board","thing"]:=L2.dK KX G;have wD:L2.aJ (L2.KOf KX) mg "is_laying" My.qQ ["board","thing"]:=L2.dK KX G;have zm:L2.aJ (L2.KOf KX) mg "cells_of" My.tD ["laying"]:=L2.dK KX G;have wF:L2.aJ (L2.KOf KX) mg "is_across" My.qR ["laying"]:=L2.dK KX G;have Bg:L2.aJ (L2.KOf KX) mg "is_down" My.vB ["laying"]:=L2.dK KX G;have mD:L2.aJ (L2.KOf KX) mg "is_next_to_taken" My.jr ["board","row","column"]:=L2.dK KX G;have Eu:L2.aJ (L2.KOf KX) mg "formed" My.yE ["board","laying"]:=L2.dK KX G;have uR:L2.aJ (L2.KOf KX) mg "check_free" My.pF ["board","laying"]:=L2.dK KX G;have oH:L2.aJ (L2.KOf KX) mg "check_straight" My.j6 ["laying"]:=L2.dK KX G;have uT:L2.aJ (L2.KOf KX) mg "check_gaps" My.pG ["board","laying"]:=L2.dK KX G;have qH:L2.aJ (L2.KOf KX) mg "check_joined" My.mK ["board","laying"]:=L2.dK KX G;have rY:L2.aJ (L2.KOf KX) mg "check_words" My.nP ["board","book","laying"]:=L2.dK KX G;have qI:L2.aJ (L2.KOf KX) mg "check_laying" My.mL ["board","book","rack","laying"]:=L2.dK KX G;have pZ:L2.aJ (L2.KOf KX) mg "cross_letters" My.lH ["board","book","row","column","way"]:=L2.dK KX G;have uU:L2.aJ (L2.KOf KX) mg "free_cells" My.pI ["board"]:=L2.dK KX G;have Jl:L2.aJ (L2.KOf KX) mg "hooks" My.Cd ["board"]:=L2.dK KX G;have Ew:L2.aJ (L2.KOf KX) mg "starts" My.yF ["board","word"]:=L2.dK KX G;have oJ:L2.aJ (L2.KOf KX) mg "letters_to_lay" My.j7 ["board","row","column","word"]:=L2.dK KX G;have qJ:L2.aJ (L2.KOf KX) mg "letters_down" My.mO ["board","book"]:=L2.dK KX G;have rZ:L2.aJ (L2.KOf KX) mg "can_be_laid" My.nR ["triples","fitting","joining"]:=L2.dK KX G;have uV:L2.aJ (L2.KOf KX) mg "sign_texts" My.jP ["letters","rack"]:=L2.dK KX G;have uW:L2.aJ (L2.KOf KX) mg "layings_of" My.pJ ["triples","rack"]:=L2.dK KX G;have oK:L2.aJ (L2.KOf KX) mg "layings_across" My.j8 ["board","book","rack"]:=L2.dK KX G;have su:L2.aJ (L2.KOf KX) mg "all_layings" My.nW ["board","book","rack"]:=L2.dK KX G;have Bh:L2.aJ (L2.KOf KX) mg "is_word" My.vD ["text"]:=L2.dK KX G;have uZ:L2.aJ (L2.KOf KX) mg "check_word" My.pK ["text"]:=L2.dK KX G;have Bj:L2.aJ (L2.KOf KX) mg "_law_cell_at" My.vG ["_law_script","_law_k"]:=L2.dK KX G;have PN:L2.aJ (L2.KOf KX) mg "_law_next" My.Gw ["_law_x"]:=L2.dK KX G;have Jm:L2.aJ (L2.KOf KX) mg "_law_other" My.Ce ["_law_x"]:=L2.dK KX G;have Ey:L2.aJ (L2.KOf KX) mg "_law_number" My.yG ["_law_script","_law_k"]:=L2.dK KX G;have Ez:L2.aJ (L2.KOf KX) mg "_law_digits" My.yH ["_law_script","_law_k","_law_base","_law_many"]:=L2.dK KX G;have Bk:L2.aJ (L2.KOf KX) mg "_law_letters" My.vH ["_law_script","_law_k"]:=L2.dK KX G;have Jo:L2.aJ (L2.KOf KX) mg "_law_words" My.Cg ["_law_letters_here","_law_script","_law_start","_law_many"]:=L2.dK KX G;have PX:L2.aJ (L2.KOf KX) mg "_law_size" My.Gx ["_law_x"]:=L2.dK KX G;have Jp:L2.aJ (L2.KOf KX) mg "_law_board" My.Ci ["_law_letters_here","_law_script","_law_start","_law_x"]:=L2.dK KX G;have P0:L2.aJ (L2.KOf KX) mg "_law_rack" My.Gy ["_law_letters_here","_law_script","_law_k","_law_most"]:=L2.dK KX G;have Jq:L2.aJ (L2.KOf KX) mg "_law_plain" My.Cj ["_law_laying"]:=L2.dK KX G;have YQ:∃C f0 f1 f2 f3 f4 f5 pL jg fd2 Dk Ti Tj,My.yW (L2.KOf KX) mg C f0 f1 f2 f3 f4 f5 pL jg fd2 Dk Ti Tj:=by
   dsimp only[L2.KOf];refine' My.aaX KX G ?aC ?a0 ?i0 ?l0 ?c0 ?k0 ?a1 ?i1 ?l1 ?c1 ?k1 ?a2 ?i2 ?l2 ?c2 ?k2 ?a3 ?i3 ?l3 ?c3 ?k3 ?a4 ?i4 ?l4 ?c4 ?k4 ?a5 ?i5 ?l5 ?c5 ?k5 ?pg ?hd ?po ?sa ?mk ?kc ?PL ?nf1 ?nf2
   (case aC=>k_is)
   (case a0=>k_is)
   (case i0=>k_is)
   (case l0=>k_is)
   (case c0=>k_is)
   (case k0=>k_is)
   (case a1=>k_is)
   (case i1=>k_is)
   (case l1=>k_is)
   (case c1=>k_is)
   (case k1=>k_is)
   (case a2=>k_is)
   (case i2=>k_is)
   (case l2=>k_is)
   (case c2=>k_is)
   (case k2=>k_is)
   (case a3=>k_is)
   (case i3=>k_is)
   (case l3=>k_is)
   (case c3=>k_is)
   (case k3=>k_is)
   (case a4=>k_is)
   (case i4=>k_is)
   (case l4=>k_is)
   (case c4=>k_is)
   (case k4=>k_is)
   (case a5=>k_is)
   (case i5=>k_is)
   (case l5=>k_is)
   (case c5=>k_is)
   (case k5=>k_is)
   (case pg=>k_is)
   (case hd=>k_is)
   (case po=>k_is)
   (case sa=>k_is)
   (case mk=>k_is)
   (case kc=>k_is)
   (case PL=>k_is)
   (case nf1=>k_is)
   (case nf2=>k_is)
  obtain⟨_,_,_,_,_,_,_,_,_,_,_,_,_,aa4⟩:=YQ;have aa5:∃C f0 f1 f2 pL jg fd2,My.Bc (L2.KOf KX) mg C f0 f1 f2 pL jg fd2:=by
   dsimp only[L2.KOf];refine' My.ado KX G ?aC ?a0 ?i0 ?l0 ?c0 ?k0 ?a1 ?i1 ?l1 ?c1 ?k1 ?a2 ?i2 ?l2 ?c2 ?k2 ?pg ?hd ?po ?sa ?mk ?kc ?PL
   (case aC=>k_is)
   (case a0=>k_is)
   (case i0=>k_is)
   (case l0=>k_is)
   (case c0=>k_is)
   (case k0=>k_is)
   (case a1=>k_is)
   (case i1=>k_is)
   (case l1=>k_is)
   (case c1=>k_is)
   (case k1=>k_is)
   (case a2=>k_is)
   (case i2=>k_is)
   (case l2=>k_is)
   (case c2=>k_is)
   (case k2=>k_is)
   (case pg=>k_is)
   (case hd=>k_is)
   (case po=>k_is)
   (case sa=>k_is)
   (case mk=>k_is)
   (case kc=>k_is)
   (case PL=>k_is)
  obtain⟨_,_,_,_,_,_,_,adC⟩:=aa5;have lw:∃fd:FuncData,L2.iY (L2.KOf KX) "law" "law" My.Lx fa fd/\∀(s:Shared) (v:Value),BindsTo s fd ⟨[v],[]⟩ [("_law_script",v)]:=by
   dsimp only[L2.KOf];refine' L2.aeC KX G hmg ?a ?l ?c ?k ?b
   case a|l|c|k=>k_is
   (case b=>exact λ_ _ _ _ _ _ _=>rfl)
  obtain⟨fd,F,hb⟩:=lw;exact⟨fd,hb,λbase _ _=>My.adp bG dD dZ bH gW bC rC jw tG d9 pN G5 gQ vN G8 cP xq xg oV gZ yX Bd wA vP Bf pY yZ zf wB uQ rR zj rT rW wC wD zm wF Bg mD Eu uR oH uT qH rY qI pZ uU Jl Ew oJ qJ rZ uV uW oK su Bh uZ Bj PN Jm Ey Ez Bk Jo PX Jp P0 Jq aa4 adC F⟩

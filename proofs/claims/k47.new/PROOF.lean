import PyProof.Rows.All
import Wide.All
import OpenK.AllK
import Wide.FinOn
import Lean
import PyProof.EqAt
import PyProof.EqKinds
import PyProof.TupleCall
import PyProof.Rows.StrJoinRep
import KE.KUnpack
import KE.KDictList
import PySem.Challenge.RW_boughdraw_k47_none_narrower
set_option Elab.async false
set_option linter.all false
set_option genSizeOf false
set_option compiler.reuse false
set_option compiler.extract_closed false
set_option maxRecDepth 100000
open List (range replicate)
open PySem.PyData (int)
noncomputable section
section
open Lean
def mqD(n:Name)(t:Term):MacroM Syntax:=`(command|def $(mkIdent n):ident :=$t)
def mqW(s:Syntax):MacroM Syntax:=
 let n:=s[1][1][0].getId.toString
 match s[1].getHeadInfo with
 |.original ..=>
  let p:=s[0][2].getNumArgs>0
  let s:=if p then s.setArg 0 (s[0].setArg 2 (.node .none `null #[]))else s
  let s:=(if s[1].getKind==`Lean.Parser.Command.definition&&!(n.startsWith "mq"||n=="pzS")then s.setArg 0 (s[0].setArg 4 (.node .none `null #[.node .none `Lean.Parser.Command.noncomputable #[.atom .none "noncomputable"]]))else if s[1].getKind==`Lean.Parser.Command.structure||s[1].getKind==`Lean.Parser.Command.inductive then s.rewriteBottomUp (·.setInfo .none)else s).modifyArg 1 (·.setArg 0 (.atom .none ""))
  if p then `(command|set_option tactic.hygienic true in $(⟨s⟩))else pure s
 |_=>Macro.throwUnsupported
def mqU(s:Syntax):MacroM Syntax:=
 let l:=s[1].getArgs.toList
 let p:=s[1][0].getId.toString.toList
 let w:=p.length/(l.length-1)
 if p.length<9 then Macro.throwUnsupported else (.node .none `null<|List.toArray .)<$>if s[0].isToken "include" then l.tail.zipIdx.mapM λ(x,j)=>do mqD (.mkSimple (.ofList ((p.drop (j*w)).take w))) (<-`(@$(⟨x⟩)))
 else(l.head!.getId.getString!.toList.foldl (λ((a,p,n,k):List Nat×Nat×Nat×Nat) c=>let c:=c.toNat;let n:=n*93+c-33-[64].countP (·<c);if k<8 then(a,p,n,k+1)else((n+p)::a,n+p,0,0)) ([],0,0,0)).1.mapM λn=>mqD (.str `PySem.W.Fast s!"tw{n}") (mkIdent `trivial)
end
local macro_rules(kind:=Lean.Parser.Command.declaration)|s=>mqW s
local macro_rules(kind:=Lean.Parser.Command.universe)|s=>mqU s
local macro_rules(kind:=Lean.Parser.Command.include)|s=>mqU s
open PySem.W (instObj methodObj lookIn plainGet hasDictIn findIn plainGet_of isFn plainOver takerIn makesIn emptyDict looks_findIn specialIn keepIn takesIn mroIn callWith_K cellsFrom_some fnOf codeIn nsIn kitOne kia_one excIn subIn mg_of mg_none_of)
abbrev At:=PySem.W.Frag
abbrev Ch:=Option PySem.Value
abbrev Da:=PySem.Shared
abbrev Db:=PySem.Value
abbrev Do:=PySem.Program
abbrev Ev:=PySem.World
abbrev Fk:=PySem.FuncData
abbrev Gc:=PySem.PyData
abbrev Go:=PySem.Around
abbrev Ix:=PySem.Addr
abbrev No:=PySem.Stmt
abbrev On:=PySem.Expr
abbrev Op:=PySem.Heap
local macro_rules
 |`(tactic|trivial)=>`(tactic|first|exact Or.inl rfl|exact Or.inr rfl|exact Or.inr (Or.inl rfl)|exact Or.inr (Or.inr rfl))
include OsP3K0N2Z7PsN4Z8S5S1UfNuZBXLXV if_pos if_neg List.length_map List.getElem?_map List.length_range PySem.wpAny_bind Nat.le_refl decide_eq_true and_self List.map_map congrArg List.getElem?_eq_getElem List.getElem?_eq_some_iff Option.map_eq_some_iff List.mem_map
include K9zK9wK9vK9tK9sK9qK9pK9oK9nK9mK9lK9kK9iK9hK9gK9fK9eK9dK9cK9aK9ZK9YK9XK9WK9VK9UK9TK9RK9PK9OK9NK9MK9LK9KK9JK9IK9GK9FK9EK9DK9CK9BK9AK99K98K97K95K94K93K92K91K90K8zK8yK8xK8wK8vK8uK8tK8sK8rK8qK8pK8oK8nK8mK8lK8kK8jK8iK8hK8gK8fK8eK8dK8cK8bK8aK8ZK8YK8XK8WK8VK8UK8TK8SK8RK8QK8PK8OK8NK8MK8LK8KK8JK8IK8HK8GK8FK8EK8DK8CK8BK8AK89K88K87K86K85K84K83K82K81K80K7zK7yK7xK7wK7vK7uK7tK7sK7rK7qK7pK7oK7nK7mZaaZabZacZadZaeZafZagZahZaiZajZakZalZamZanZaoZapZaqZarZasZatZauZavZawZaxZayZazZbaZbbZbcZbdZbeZbfZbgZbhZbiZbjZbkZblZbmZbnZboZbpZbqZbrZbsZbtZbuZbvZbwZbxZbyZbzZcaZcbZccZcdZceZcfZcgZchZciZcjZckZclZcmZcnZcoZcpZcqZcrZcsZctZcuZcvZcwZcxZcyZczZdaZdbZdcZddZdeZdfZdgZdhZdiZdjZdkZdlZdmZdnZdoZdpZdqZdrZdsZdtZduZdvZdwZdxZdyZdzZeaZebZecZedZeeZefZegZehZeiZejZekZelZemZenZeoZepZeqZerZesZetZeuZevZewZexZeyZezZfaZfbZfcZfdZfeZffZfgZfhZfiZfjZfkZflZfmZfnZfoZfpZfqZfrZfs List.mem_cons_self List.map_cons List.length_append List.mem_append_right List.mem_cons_of_mem decide_eq_false List.length_cons Bool.false_ne_true Int.toNat_natCast List.mem_append_left PySem.Heap.get?_push_of_some decide_eq_true_eq List.map_append PySem.Heap.lt_size PySem.W.mg_of List.length_take List.length_singleton List.append_nil List.getElem?_eq_none List.getElem?_append_right List.getElem?_range List.mem_append List.lookup_cons List.size_toArray List.getElem?_append_left Bool.and_eq_true List.nodup_append Option.some.inj Nat.lt_of_lt_of_le Nat.ne_of_lt PySem.Heap.get?_push_size List.append_assoc List.mem_of_getElem? List.ext_getElem? PySem.wpAny_pure List.getElem?_set_self List.mem_range PySem.PassesOwn.never List.getElem?_set_ne List.map_nil Nat.le_trans List.nil_append PySem.W.mg_none_of List.replicate_succ PyProof.Rows.callWith_type1 List.getElem?_take_of_lt List.mem_singleton of_eq_true List.length_range' List.cons_append Nat.le_succ List.take_of_length_le List.length_set List.length_drop Nat.zero_le List.nodup_nil List.mem_cons List.map_congr_left Array.length_toList List.take_append_of_le_length List.length_replicate Nat.min_eq_left List.find?_cons List.filter_append Nat.lt_irrefl PySem.wpAny_mono PySem.Heap.size_push List.nodup_cons Bool.eq_iff_iff List.length_filter_le PySem.wpAny_Call_Name_kw Ne.symm Nat.lt_succ_of_lt PySem.wpAny_field Nat.lt_succ_self Nat.sub_self PySem.wpAny_truthy_bool List.flatten_cons List.getElem?_replicate PySem.SeqAt.canLay_of_shaped PySem.wpAny_passesOwn PySem.wpAny_execs_nil PySem.W.kia_one List.length_nil List.reverse_cons List.getElem?_zipIdx Int.zero_add beq_self_eq_true List.not_mem_nil List.filter_cons List.drop_eq_getElem_cons PySem.mem_of_lookup PySem.wpAny_comprehension_free PySem.wpAny_setField_rec Nat.add_sub_cancel List.length_zipIdx PySem.F.plainAttrs_list Classical.axiomOfChoice PySem.wpAny_seqItems PySem.W.cellsFrom_some List.take_length List.nodup_range List.cons.inj List.range_succ List.mem_filter List.filterMap_cons Nat.zero_add PySem.call_meets List.getElem_range List.getElem?_drop if_true Sum.inl.inj List.any_cons List.all_cons PySem.wpAny_pyIter_zip PySem.wpAny_call_entry List.all_eq_true List.of_mem_zip PySem.F.slot_zip_next PySem.Heap.get?_update_self List.take_zero List.range_eq_range' List.Pairwise.filter List.take_succ_cons PySem.Heap.SameBut.update PySem.wpAny_standAt List.map_take Bool.and_self Int.mul_zero Classical.choose_spec List.getElem?_of_mem Int.mul_left_comm Int.mul_assoc Int.mul_le_mul_of_nonneg_right Int.mul_nonneg List.getElem_mem Int.mul_comm Nat.le_of_lt Int.add_zero List.getElem_of_mem Int.zero_mul List.getElem?_zip_eq_some List.length_zip List.sum_cons Int.one_mul Int.le_of_lt List.eq_nil_of_length_eq_zero Int.mul_le_mul_of_nonneg_left Int.sub_zero Int.mul_add List.getElem?_reverse List.length_reverse Int.mul_pos Option.getD_some Nat.lt_trichotomy List.filter_cons_of_neg Classical.byContradiction Int.ne_of_gt Option.map_some List.sum_append List.getLast?_eq_some_getLast Nat.not_lt_zero List.mem_range'_1 Int.eq_of_mul_eq_mul_left List.map_replicate Int.mul_one List.filter_cons_of_pos List.pairwise_iff_getElem List.getLast?_eq_getElem? Int.dvd_trans Int.add_mul Int.le_refl List.getElem?_cons_succ List.map_drop Nat.pow_le_pow_right List.getD_eq_getElem?_getD Int.mul_sub Nat.ne_of_gt List.map_set Int.natCast_mul List.mem_of_mem_drop List.mem_of_getLast? Int.neg_mul List.mem_map_of_mem Nat.lt_trans List.getElem_idxOf Nat.eq_zero_or_pos List.exists_mem_of_ne_nil Int.le_of_mul_le_mul_left Nat.mul_le_mul_right List.take_add_one Array.size_setIfInBounds Nat.pow_succ List.getElem_map List.range'_succ List.pairwise_lt_range Nat.le_mul_of_pos_left List.dropLast_cons_of_ne_nil Int.mul_right_comm Nat.add_comm List.singleton_append Int.natCast_add List.takeWhile_prefix Int.mul_neg Int.dvd_mul_right List.length_dropLast Int.natAbs_mul List.cons_ne_nil List.map_reverse List.takeWhile_cons Nat.pow_le_pow_left Nat.succ_pos Int.dvd_zero Int.le_antisymm Bool.false_eq_true List.drop_of_length_le List.filter_eq_nil_iff Int.dvd_add List.any_eq_false Int.sub_mul Nat.succ_mul Nat.mul_comm List.set_append_right List.any_eq_true List.dropLast_concat_getLast List.forIn_cons List.map_id List.idxOf_lt_length_of_mem Int.zero_lt_one Int.fdiv_eq_ediv_of_nonneg Int.eq_of_mul_eq_mul_right List.nodup_iff_pairwise_ne List.any_map List.zip_cons_cons Nat.lt_or_gt_of_ne Nat.lt_of_le_of_lt Bool.not_false Int.mul_le_mul Int.mul_ediv_cancel_left Bool.not_eq_true' List.pairwise_map List.getElem?_inj Nat.mul_assoc List.getElem_inj Int.fmod_nonneg_of_pos List.head?_eq_none_iff List.drop_eq_nil_of_le List.head?_eq_getElem? Int.le_trans List.append_inj List.take_append_drop Int.neg_mul_neg Nat.pow_zero List.mem_of_mem_head? List.range'_append_1 List.reverse_reverse List.getElem?_range' Bool.false_and Int.add_nonneg Int.add_le_add Option.isSome_some List.set_cons_zero Bool.not_true Int.natAbs_natCast Int.fmod_lt_of_pos Int.lt_or_eq_of_le Bool.and_true Int.add_assoc List.ne_nil_of_mem Nat.add_zero Nat.sub_zero List.sum_nil Nat.lt_or_ge Int.dvd_sub Nat.mul_pos Nat.mul_one Nat.pow_pos
set_option hygiene false
section
variable{A B C D E F G:Sort _}{g P Q R S T U V W X:Prop}
def mx1{P:A->Prop}(h:∃a,P a)(k:∀a,P a->g):g:=h.elim k
def mx2{P:A->B->Prop}(h:∃a b,P a b)(k:∀a b,P a b->g):g:=h.elim λa h=>mx1 h (k a)
def mx3{P:A->B->C->Prop}(h:∃a b c,P a b c)(k:∀a b c,P a b c->g):g:=h.elim λa h=>mx2 h (k a)
def mx4{P:A->B->C->D->Prop}(h:∃a b c d,P a b c d)(k:∀a b c d,P a b c d->g):g:=h.elim λa h=>mx3 h (k a)
def mx5{P:A->B->C->D->E->Prop}(h:∃a b c d e,P a b c d e)(k:∀a b c d e,P a b c d e->g):g:=h.elim λa h=>mx4 h (k a)
def mx6{P:A->B->C->D->E->F->Prop}(h:∃a b c d e f,P a b c d e f)(k:∀a b c d e f,P a b c d e f->g):g:=h.elim λa h=>mx5 h (k a)
def mx7{P:A->B->C->D->E->F->G->Prop}(h:∃a b c d e f i,P a b c d e f i)(k:∀a b c d e f i,P a b c d e f i->g):g:=h.elim λa h=>mx6 h (k a)
def mz2(h:P∧Q)(k:P->Q->g):g:=k h.1 h.2
def mz3(h:P∧Q∧R)(k:P->Q->R->g):g:=mz2 h.2 (k h.1)
def mz4(h:P∧Q∧R∧S)(k:P->Q->R->S->g):g:=mz3 h.2 (k h.1)
def mz5(h:P∧Q∧R∧S∧T)(k:P->Q->R->S->T->g):g:=mz4 h.2 (k h.1)
def mz6(h:P∧Q∧R∧S∧T∧U)(k:P->Q->R->S->T->U->g):g:=mz5 h.2 (k h.1)
def mz7(h:P∧Q∧R∧S∧T∧U∧V)(k:P->Q->R->S->T->U->V->g):g:=mz6 h.2 (k h.1)
def mz8(h:P∧Q∧R∧S∧T∧U∧V∧W)(k:P->Q->R->S->T->U->V->W->g):g:=mz7 h.2 (k h.1)
def mz9(h:P∧Q∧R∧S∧T∧U∧V∧W∧X)(k:P->Q->R->S->T->U->V->W->X->g):g:=mz8 h.2 (k h.1)
def my2{P:A->B->Prop}(a b)(h:P a b):∃a b,P a b:=⟨a,b,h⟩
def my3{P:A->B->C->Prop}(a b c)(h:P a b c):∃a b c,P a b c:=⟨a,my2 b c h⟩
def my4{P:A->B->C->D->Prop}(a b c d)(h:P a b c d):∃a b c d,P a b c d:=⟨a,my3 b c d h⟩
def my5{P:A->B->C->D->E->Prop}(a b c d e)(h:P a b c d e):∃a b c d e,P a b c d e:=⟨a,my4 b c d e h⟩
def my6{P:A->B->C->D->E->F->Prop}(a b c d e f)(h:P a b c d e f):∃a b c d e f,P a b c d e f:=⟨a,my5 b c d e f h⟩
def my7{P:A->B->C->D->E->F->G->Prop}(a b c d e f i)(h:P a b c d e f i):∃a b c d e f i,P a b c d e f i:=⟨a,my6 b c d e f i h⟩
def mx1_2{P Q:A->Prop}(h:∃a,P a∧Q a)(k:∀a,P a->Q a->g):g:=mx1 h λa h=>k a h.1 h.2
def mx1_3{P Q R:A->Prop}(h:∃a,P a∧Q a∧R a)(k:∀a,P a->Q a->R a->g):g:=mx1 h λa h=>k a h.1 h.2.1 h.2.2
def mx2_3{P Q R:A->B->Prop}(h:∃a b,P a b∧Q a b∧R a b)(k:∀a b,P a b->Q a b->R a b->g):g:=mx2 h λa b h=>k a b h.1 h.2.1 h.2.2
def mx3_2{P Q:A->B->C->Prop}(h:∃a b c,P a b c∧Q a b c)(k:∀a b c,P a b c->Q a b c->g):g:=mx3 h λa b c h=>k a b c h.1 h.2
def mx4_4{P Q R S:A->B->C->D->Prop}(h:∃a b c d,P a b c d∧Q a b c d∧R a b c d∧S a b c d)(k:∀a b c d,P a b c d->Q a b c d->R a b c d->S a b c d->g):g:=mx4 h λa b c d h=>k a b c d h.1 h.2.1 h.2.2.1 h.2.2.2
def mx2_4{P Q R S:A->B->Prop}(h:∃a b,P a b∧Q a b∧R a b∧S a b)(k:∀a b,P a b->Q a b->R a b->S a b->g):g:=mx2 h λa b h=>k a b h.1 h.2.1 h.2.2.1 h.2.2.2
end
section
open Lean
def mqA(t:String):Syntax:=.atom .none t
def mqN(k:String)(a:List Syntax):Syntax:=.node .none (k.splitOn.foldl .str `Lean.Parser) a.toArray
def mq0(a:List Syntax):Syntax:=.node .none `null a.toArray
def mqQ(a:List Syntax):=mqN "Tactic tacticSeq" [mqN "Tactic tacticSeq1Indented" [mq0 (a.intersperse (mqA ";"))]]
def mqF(x:Syntax):=mqN "Tactic failIfSuccess" [mqA "",mqQ [x]]
def mqE(o x:String)(k:Nat)(a:List Syntax):=mqN o [mqA "",mqN "Term app" [mkIdent (.mkSimple (x++k.repr)),mq0 a]]
def mqI(a:List Syntax):=mqN "Tactic rintro" [mqA "",mq0 (a.map λx=>mqN "Tactic rintroPat one" [x]),mq0 []]
def mqC(i:Syntax):=if i.isIdent then[mqN "Tactic clear" [mqA "",mq0 [i]]]else[]
def mqO(s p i:Syntax)(a:List Syntax)(d:Bool)(k:Nat):List Syntax:=
 let h:=mqN "Term syntheticHole" [mqA "",mqA "_"]
 let n:=a.length
 let r:="Tactic refine"
 if s[1].isOfKind `null then
  let b:=a.map λx=>mqN "Tactic rcasesPat paren" [mqA "",x,mqA ""]
  let j:=mkIdent `h'
  if d then mqE r ("mx"++k.repr++"_") (n-k) [i,h]::mqC i++[mqI b]
  else if k=0 then mqE r "mz" n [i,h]::mqC i++[mqI b]
  else if k+1=n then mqE r "mx" k [i,h]::mqC i++[mqI b]
  else mqE r "mx" k [i,h]::mqC i++mqI (b.take k++[mqN "Tactic rcasesPat one" [j]])::mqE r "mz" (n-k) [j,h]::mqC j++[mqI (b.drop k)]
 else[mqF (mqF (mqE r "my" k (List.replicate (k+1) h))),mqE (if s.isOfKind `Lean.Parser.Tactic.exact then"Tactic exact"else r) "my" k (a.take k++[if k+1=n then a[k]! else p.setArg 1 (mq0 ((a.drop k).intersperse (mqA ",")))])]
def mqH(s:Syntax):Bool:=match s.getHeadInfo with|.original ..=>true|_=>false
def mqG:Nat->Syntax->Syntax
|0,p=>p
|n+1,p=>if p.isOfKind `Lean.Parser.Term.tuple&&p[1].getNumArgs>0 then mqN "Term anonymousCtor" [mqA "⟨",mq0 (((p[1][0]::p[1][2].getSepArgs.toList).map (mqG n)).intersperse (mqA ",")),mqA "⟩"]else p
def mqS(s:Syntax):MacroM Syntax:=
 let s:=if mqH s then s.setArg 1 (mqG 9 s[1])else s
 let b:=s[1].isOfKind `null
 let p:=if b then s[1][0][0][0]else s[1]
 if p[0].getAtomVal=="⟨"&&s[2].getNumArgs==0 then
  let a:=p[1].getSepArgs.toList
  let q:=p.setArg 0 (mqA "")
  let l:=(List.range a.length).reverse
  let o:=mqO s p s[3][1][0] a
  pure (mqN "Tactic first" [mqA "",mq0 ((l.map (o b)++l.map (o false)++[[s.setArg 1 (if b then s[1].setArg 0 (mqN "Tactic rcasesPatMed" [mq0 [q]])else q)]]).map λx=>.node .none `group #[mqA "|",mqQ x])])
 else Macro.throwUnsupported
def mqK(k:String)(s:Syntax):MacroM Syntax:=if mqH s then pure (mqN k s.getArgs.toList)else Macro.throwUnsupported
def mqT(k:String)(s:Syntax):MacroM Syntax:=if mqH s==false then Macro.throwUnsupported else pure (mqN "Tactic first" [mqA "",mq0 ([mqN k [mqA "",mqG 9 s[1]],s.setArg 0 (mqA "")].map λx=>.node .none `group #[mqA "|",mqQ [x]])])
def mqL(s:Syntax):MacroM Syntax:=
 let d:=s[2][0]
 let p:=if mqH s then mqG 9 d[0]else d[0]
 if s[1][0].getNumArgs>0 then Macro.throwUnsupported else if (p[0].getAtomVal=="⟨")==false then mqK "Tactic tacticHave__" s else
 let t:="Tactic rcasesPat"
 mqS (mqN "Tactic obtain" [mqA "",mq0 [mqN (t++"Med") [mq0 [mqN (t++" tuple") [p[0],mq0 ((p[1].getSepArgs.toList.map λx=>mqN (t++"Lo") [mqN (t++"Med") [mq0 [mqN (t++if x.isIdent then" one"else" ignore") [x]]],mq0 []]).intersperse (mqA ",")),mqA ""]]]],mq0 [],mq0 [mqA "",mq0 [d[4]]]])
end
local macro_rules(kind:=Lean.Parser.Tactic.obtain)|s=>mqS s
local macro_rules(kind:=Lean.Parser.Tactic.tacticLet__)|s=>mqL s
local macro_rules(kind:=Lean.Elab.Tactic.Ext.ext)|s=>if mqH s&&s[2].getNumArgs==0 then pure (mqN "Tactic rintro" [mqA "",s[1],mq0 []])else Lean.Macro.throwUnsupported
local macro_rules(kind:=Lean.Parser.Tactic.delta)|s=>mqK "Tactic unfold" s
local macro_rules(kind:=Lean.Parser.Tactic.apply)|s=>mqT "Tactic refine" s
local macro_rules(kind:=Lean.Parser.Tactic.refine)|s=>mqS s
local macro_rules(kind:=Lean.Parser.Tactic.show)|s=>if mqH s then pure (mqN "Tactic refine" [mqA "",mqG 9 s[1]])else Lean.Macro.throwUnsupported
local macro_rules(kind:=Lean.Parser.Tactic.cases)|s=>let b:=s[1][0][0][0];if s[1][0][0].getNumArgs>0&&s[3].getNumArgs==0 then `(tactic|by_cases $(⟨if b.isIdent then b else b[0]⟩):ident:$(⟨s[1][0][1]⟩))else Lean.Macro.throwUnsupported
local macro_rules(kind:=Lean.Parser.Tactic.tacticErw___)|s=>pure (mqN "Tactic unfold" [mqA "",mq0 (s[2][1].getSepArgs.toList.map (·[1])),s[3]])
local macro_rules(kind:=Lean.Parser.Tactic.induction)|s=>if s[1][0][1].isOfKind `Lean.Parser.Term.hole then let y:=Lean.mkIdent `y;pure (mqN "Tactic paren" [mqA "(",mqQ [mqI [mqN "Tactic rcasesPat one" [y]],s.setArg 1 (s[1].setArg 0 (s[1][0].setArg 1 y))],mqA ")"])else Lean.Macro.throwUnsupported
local macro_rules(kind:=Lean.Parser.Tactic.exact)|s=>mqS s
def kst{α β:Prop}(b:β)(_:α):β:=b
def mq5(k:List (Array (Lean.TSyntax `term)))(w:String):List (Array (Lean.TSyntax `term)):=
 let h:Lean.Syntax:=.node .none `Lean.Parser.Term.hole #[.atom .none "_"]
 match w,k with
 |"(",_=>#[]::k
 |")",x::y::r=>y.push (Lean.Syntax.mkApp x[0]! (x.extract 1 x.size))::r
 |_,x::r=>x.push (if w=="_" then⟨h⟩else if w=="?" then⟨.node .none `Lean.Parser.Term.syntheticHole #[.atom .none "?",h]⟩else if w=="&" then Lean.Unhygienic.run `(λ_ _=>rfl) else if w=="*" then Lean.Unhygienic.run `(by assumption) else if w=="!" then Lean.Unhygienic.run `(by decide) else if w.startsWith "%" then Lean.Syntax.mkApp (Lean.mkIdent `kst) #[Lean.mkIdent (w.replace "%" "").toName]else if w.startsWith "." then⟨.node .none `Lean.Parser.Term.dotIdent #[.atom .none ".",Lean.mkIdent (w.replace "." "").toName]⟩else if w.front.isDigit then⟨Lean.Syntax.mkNumLit w⟩else Lean.mkIdent w.toName)::r
 |_,_=>k
def pzS(t:String):Lean.TSyntax `term:=
 let k:=(t.splitOn " ").foldl mq5 [#[]]
 let x:=k.head!
 Lean.Syntax.mkApp x[0]! (x.extract 1 x.size)
def mq1(l:List (List Lean.Syntax)):Lean.Syntax:=mqN "Tactic first" [mqA "",mq0 (l.map λx=>.node .none `group #[mqA "|",mqQ x])]
def mq2(v:String):Lean.Syntax:=mqN "Tactic tactic_<;>_" [mqN "Tactic refine" [mqA "",pzS v],mqA "",mqN "Tactic tacticTrivial" [mqA ""]]
def mq3(v:String):Lean.Syntax:=mqN "Tactic withReducible" [mqA "",mqQ [mqN "Tactic show" [mqA "",pzS v]]]
def mq4(c r:String):List Lean.Syntax:=match r.splitOn "," with
 |[u,v]=>[mq3 (c++" ( "++u++" )"),mq2 v]
 |_=>[mq2 r]
local macro_rules(kind:=Lean.Parser.Tactic.«tacticExists_,,»)|s=>match s[1][0].isStrLit? with
 |some q=>
  let c:=q.splitOn "~"
  pure (mqN "Tactic paren" [mqA "(",mqQ [mq3 (c[0]!++" _"),mq1 ((c[1]!.splitOn "|").map (mq4 c[0]!))],mqA ")"])
 |none=>Lean.Macro.throwUnsupported
local macro_rules|`($c:char)=>match ("".splitOn "|").find? (·.startsWith<|toString c.getChar) with
  |some s=>pure<|pzS (s.splitOn "~")[1]!
  |_=>Lean.Macro.throwUnsupported
local macro_rules(kind:=Lean.Parser.Tactic.lia)|s=>let l:=[mqN "Tactic intro" [mqA "",mq0 []],s.setArg 0 (mqA "")];let r:=λx=>mqN "Tactic withReducible" [mqA "",mqQ [x]];let f:=λx=>mqN "Tactic refine" [mqA "",pzS x];if s[0].getAtomVal=="" then Lean.Macro.throwUnsupported else pure<|mq1 [[r<|mq1<|(("Zed ( N.sub_le _ _ ) ( N.sub_lt ( N.zero_lt_of_lt * ) N.one_pos )|N.lt_of_lt_of_eq * ( Eq.symm * )|Zce * *|N.sub_sub_self ( N.le_sub_one_of_lt * )|N.add_sub_of_le ( Zaj * )|N.add_sub_cancel' *|N.add_lt_of_lt_sub *|N.le_of_not_lt *|N.add_sub_of_le ( N.succ_le_of_lt * )|N.add_lt_of_lt_sub' *|K9P * ( N.sub_le _ _ )|N.succ_le_of_lt *|N.le_sub_of_add_le' *|Eq.symm ( N.sub_add_cancel ( N.succ_le_of_lt * ) )|Zaj *|N.sub_lt * N.one_pos|*|K8f *|N.lt_of_le_of_ne ( N.le_of_lt_succ * ) *|Eq.symm ( Int.toNat_of_nonneg * )|Int.not_lt.mp *|N.lt_of_le_of_ne * *|Zeq * *|N.lt_of_succ_le *|Zeq * !|N.zero_lt_of_lt *|K9C * *|N.eq_sub_of_add_eq *|Zbx *|N.le_of_add_right_le *|Int.ofNat_lt.mpr *|Eq.symm ( N.sub_add_cancel * )|N.lt_of_lt_of_eq * *|K9C * ( N.le_add_left _ _ )|Zar *|N.sub_add_cancel *|N.sub_add_cancel ( N.succ_le_of_lt * )|K9P * *|N.pos_of_ne_zero *|Int.ofNat_lt.mp *|N.le_of_lt_succ *|N.succ_le_succ *|N.lt_of_add_right_lt *|K9O *|N.le_antisymm * ( N.le_of_not_lt * )|N.lt_of_not_le *|N.min_le_left _ _|K9C * ( N.le_add_right _ _ )|Zed * *|N.lt_succ_of_le *|N.sub_pos_of_lt *".replace "N." "Nat.").splitOn "|").map ([f ·])],(r<|f "Nat.lt_of_not_le ?")::l,(r<|f "Int.lt_of_not_ge ?")::l,l.tail]
set_option tactic.hygienic false
set_option bootstrap.genMatcherCode false
def mqaa(h:0=0:=by rfl):=h
def mqab(h:0=0:=by decide):=h
def mqac(h:0=0:=by trivial):=h
def mqad(h:0=0:=by intro _;rfl):=h
def mqae(h:0=0:=by exact L2.pv _):=h
def mqaf(h:0=0:=by intro _ _ _ _ _;trivial):=h
section
open Lean
def mqZ(p:List Name):Nat->Syntax->Array Name×String->Array Name×String
 |f+1,.node _ k a,(K,o)=>
  let i:=K.idxOf k
  a.foldl (λr x=>mqZ p f x r) (if i<K.size then K else K.push k,o++s!"\n{i}:{a.size}")
 |_,.atom _ v,(K,o)=>(K,o++"\n'"++v)
 |_,.ident _ _ v _,(K,o)=>(K,o++if p.contains v then s!"\n#{p.idxOf v}" else if v.isAnonymous then "\n\"" else "\n\""++toString v)
 |_,_,r=>r
def mqP:List Syntax->Array Name×String->Array Name×String
 |h::b::r,(K,o)=>
  let p:=(h[1].getArgs.map (·.getId)).toList
  mqP r (mqZ p 999 b (K,o++s!"\x01{if h.isIdent then h.getId else h[0].getId}\x02{p.length}"))
 |_,r=>r
def mqX(T:Unit->String)(s:Syntax)(a:List Syntax):MacroM Syntax:=
 match s.getId with
 |.str .anonymous n=>if n.front.val<128 then Macro.throwUnsupported else
  let T:=T ()
  match T.splitOn s!"\x01{n}\x02" with
  |[p,t]=>do
   let K:=(p.splitOn " ").toArray
   let w:=(t.takeWhile (·!='\x01')).toString.splitOn "\n"
   let k:=w.head!.toNat!
   let i:=s.getHeadInfo
   let r:=(w.tail.foldr (λw s=>match w.front with
    |'\''=>Syntax.atom i (w.drop 1).toString::s
    |'"'=>.ident i w.toRawSubstring (if w.length<2 then .anonymous else (w.drop 1).toString.toName) []::s
    |'#'=>a[(w.drop 1).toNat!]!::s
    |_=>let l:=w.splitOn ":"
     let n:=l[1]!.toNat!
     .node i K[l[0]!.toNat!]!.toName (s.take n).toArray::s.drop n) []).head!
   let a:=(a.drop k).toArray
   pure<|if a.isEmpty then r else if r.isOfKind `Lean.Parser.Term.app then r.setArg 1 (.node .none `null (r[1].getArgs++a)) else .node .none `Lean.Parser.Term.app #[r,.node .none `null a]
  |_=>Macro.throwUnsupported
 |.str p n=>if n.front.val<128 then Macro.throwUnsupported else match ("À length Á heap.objs.size Â objs.size Ã size Ä elim Å trans Æ toArray Ç map È get? É hok.fresh Ê isList Ë heap.get? Ì heap Í Nodup Î same Ï symm Ð lookup Ñ symm.trans Ò toNat Ó r.length Ô env.locals Õ fresh Ö take Ø toArray.size Ù dropLast Ú IsListIter Û filter Ü env Ý s₀.heap.objs.size Þ own.dom ß set à N.Nodup á mono â free ã toks ä drop å reverse æ names.lookup ç l.length è env.scope.names.lookup é _auto_1 ê list ë heap.IsList ì locals í len ï bind ð toList ñ natAbs ò kept ó mpr ô env.cells.lookup õ N.length ö dom ø prog ù IsList ú pos û push ü own.mono ý stp.trans þ hh.free ÿ heap.push Ā typeIs ā ext Ă tuple ă stack Ą ok.kind ą ok.above Ć heap.IsTuple Ĉ Pairwise ĉ keep Ċ zip ċ inv.col Č row.toRowW č list_inj Ď heap.FunFrames ď getD Đ cps.toList đ append Ē IsCell ē stp Ĕ isList.typeIs ĕ idxOf_getElem Ė frz ė allInts.items Ę same.free ę flatO Ě env.scope ě any Ĝ update ĝ turned Ğ sum ğ preF Ġ kind ġ heap.Ns Ģ extBut ģ e.toNat Ĥ deeper ĥ choose Ħ canLay0 ħ units Ĩ slots ĩ laid Ī heap.update ī getLast? Ĭ gens ĭ ff.trans Į env.globals į choose_spec İ c.length ı base Ĳ above".splitOn " ").dropWhile (·!=n) with
  |_::x::_=>let r:Syntax:=mkIdent (p++x.toName);pure<|if a.isEmpty then r else .node .none `Lean.Parser.Term.app #[r,.node .none `null a.toArray]
  |_=>Macro.throwUnsupported
 |_=>Macro.throwUnsupported
end
local macro_rules(kind:=Lean.Parser.Command.check)|s=>let t:=s[1][1];let(K,o):=mqP (t[0]::t[2].getSepArgs.toList) (#[],"");mqD `mqY (Lean.quote (K.foldl (λs k=>s++toString k++" ") ""++o))
#check(À a,List a,Á,(by lia),Â a,some a,Ã a,(a).length,Ä,.int,Å,F5 ts,Æ,(by trivial),Ç a,eC (.int a),È a,ae (aa a),É,.ref,Ê a,(a).map,Ë a b c,if a then b else c,Ì a,(a:Int),Í,nums ts,Î,.bad,Ï,.list,Ð,.inl,Ñ a,.sh (.int<|a),Ò,List Nat,Ó a,(a).getD,Ô a b,(by rw[a];show b),Õ a,decide a,Ö,some o,Ø,.inr,Ù a,F4 J0 (aa a),Ú a,a->Prop,Û,(by simp),Ü a,Option a,Ý,(by decide),Þ,nU ts s,ß a b,(a b).map,à a,autoParam a mqaa.é,á a,a[i]?,â a,some (.sh<|.list a),ã,.bool,ä a,((a:Nat):Int),å,Nat->Int,æ a,starEach a X.Ü,ç,PT ts c,è,ak ts,é,ts.À<=100,ê a,(show a by lia),ë,(k:Int),ì,N4 _,í,outF ts Ds,î,P0 S,ï,DE M X,ð,.Name x,ñ a b,F4 a (aa b),ò,.none,ó a,(a).bind,ô,.lst,õ,.nil,ö,PO ts Ds,ø,NU ts s,ù,Inv X,ú,False.elim p,û,I4 (ay ts),ü,Pi ts,ý,eN ts,þ a,.ok (.sh<|a),ÿ,(i:Int),Ā a,(range<|a).map,ā,PE X,Ă a,(by rw[a];lia),ă,S.T i,Ą,.tuple,ą,.cons,Ć,k<ts.À,ć,aR ts c,Ĉ,az M H,ĉ a,(a).trans,Ċ a b,{cls:=.type a,data:=b},ċ,DD ts s Ds,Č a,a<ts.À,č,fk ts,Ď,some x,ď,tD M n,Đ a,OD.sh a,đ,Def K mg,Ē a b c,Fq a b (ah c),ē a,top a,Ĕ a,some (.sh<|a),ĕ,EL ts,Ė,.str,ė a b c d e,K1 P w K mg base y_ a b c d (sp3 K mg e),Ę a,.ol ((a).map OD.sh),ę a,a[j]?,Ě,Z3 ts s Ds S,ě,K9s _,Ĝ,Os rfl,ĝ a,ae a ai,Ğ,Pm K,ğ a b,bD rfl rfl rfl a b (λ_ _ _ _ _ _ hr=>?_),Ġ,nwQ ts s Ds S,ġ,eUn bA,Ģ,Inv X H6 σ H s,ģ a,.ok (.ol a),Ĥ a b,(by rw[a,b]),ĥ,some v,Ħ a,.ok a,ħ,eB ba,Ĩ,Z4 ts,ĩ a,(a).toNat,Ī,.tup,ī,some c,Ĭ,R OD,ĭ a,absurd a,Į,aJ _ _ _ _ _ _,į,ST ts s,İ a,a=ts.À,ı,nwX ts s Ds S,Ĳ a,(by let:=a;lia),ĳ,sm n,Ĵ,(j:Int),ĵ,ts.À-1,Ķ,gpT ts,ķ,some u,Ĺ,F.g c,ĺ,O.À-1,Ļ,gv (ay ts),ļ,upd H,Ľ,aa 0,ľ,aA p,Ŀ,Rep K,ŀ a,a<=sizeLine,Ł a,a=false,ł a,(a).take,Ń,(az.ï p).mono,ń,S.c i,Ņ a,pA a j,ņ,Nat->Nat,Ň a,some (.ol<|a),ň,S.T n,Ŋ,aa 1,ŋ,rel (Pi ts) Tl k w,Ō,pA row,ō,ns.Ç int,Ŏ,Str->Ch,ŏ,gsF ts,Ő,wpAny (model X.ø X.w) X.A,ő,K9l _,Œ a b c,ar (K2 a) (ar (K2 b) c),œ,(by decide+kernel),Ŕ a,dJ a a,ŕ,.Subscript,Ŗ,aY _ _ _ _,ŗ,F4 a_,Ř,.sh d,ř a,pA a i,Ś a b c,a<=b/\b<=c,ś,lsF D n ch,Ŝ,NU ts true,ŝ,Ix×Obj,Ş,some k,ş,aa 4,Š,aa 3,š,.cell,Ţ a,λ_=>a,ţ a,Vals a,Ť a,atI a,ť a,(by simpa using a),Ŧ,nbN ts i,ŧ,(vw S).c,Ũ,e::es,ũ a b c,λm H=>a b λ_ _ _ q=>c,Ū,rwN ts,ū,F4 J0,Ŭ,stF Ds,ŭ,Lp.aM _,Ů a,(a).mono,ů a,s.Á+a,Ű,Nw ts s Ds S,ű a b,(by erw[a];rw[b]),Ų,ax 2,ų a,.ok (.nx<|a),Ŵ,(n:Int),ŵ a,∀i,i<n->a,Ŷ,h m H,ŷ,n0+2+2,Ÿ,aN ts,Ź,Lb ts,ź,I4 M,Ż,Uf List.length,ż,Stp F H,Ž,(·.2),ž,E5 K F,Α a,(a).filter,Β,.non,Δ,(w::W).filter,Ε,ax 3,Ζ a b c,(by rw[a,b];show c),Η a,Array a,Θ a b,∀j,j<a->b,Ι a,(a).objs.size,Κ a,aE a=true,Λ,F.R c,Μ a,a=true,Ν,λ_ _ _ _ _ _ _ _=>rfl,Ξ a b,bt rfl K9F a b,Ο,Key×Gc,Ρ,.builtin,Τ,K9t _,Υ,X.K=M.K,Φ,F.pre c,Χ,df2 X G,Ψ,RR D n,Ω,.type,γ,Gl X,δ,.seq,ε,aZ 2,ζ,⟨_,rfl⟩,η,bH I q,θ,D.À+n,ι,(a b).bind,μ,SqL K H,ν,F.pre f,ξ,plc ts,ο,.local,π b,∀a∈f,b,ς,aa 5,τ a,(a).drop,υ,cxK X (own++outs.Ç (·.2)) scope s H,χ a b c,(by erw[a];rw[b,c]),ψ,N1 K F H,ω,spF ts,ϊ,bO ai,ϋ,cL he,ό,aa 2,ύ a b,show a from b,ώ a b,∀c o,a->b,Ϗ a b,(by erw[a];rw[b];rfl),ϐ,.fields,ϑ,(a:Int),ϒ,lvN ts,ϓ,hd3 g,ϔ,(·.1),ϕ a,autoParam a mqac.é,ϖ,nsIn K mainGlobals,ϗ,X.calm=true,Ϙ a b,(by rw[<-a];show b),ϙ,frL D n,Ϛ,Ext F H,ϛ,dR D,Ϝ,.free,ϝ a,F.pre a,Ϟ a,wpAny _ _ (a >>=_) _ _ _,ϟ,cM (lvs ts),Ϡ,absurd rfl,ϡ,gTp 2,Ϣ,K9N _ rfl,ϣ a,(by rw[a];rfl),Ϥ,dig (K+1),ϥ,(vw S).T,Ϧ,DS M X,ϧ,some b,Ϩ a,(a).reverse,ϩ,Ok2 M,Ϫ a,(a).set,ϫ a,a[k]?,Ϭ a,tS M n a D σ H,ϭ,kA Ds O,Ϯ a,(by simp[a]),ϯ,cw ts k,ϰ,bsF ts,ϱ,ltN r,ϲ a,(a).lookup,ϳ,2^62,ϴ a b,(a b)=true,ϵ a b,.ok (.nx<|a i<|some<|.ol b),϶,bot ts s Ds S,Ϸ,OkE M F H Q,ϸ a b,dk (ah a) b [0],Ϲ a b,(by rw[a,b];lia),Ϻ,Nat×Nat,ϻ,["tree"],ϰa,K2 0,ϰb,fo ts,ϰc,s.Ë b,ϰd,Gc->Gc->R OD,ϰe a,.seq (a).toArray,ϰf,j<ts.À,ϰg,cons k c,ϰh,nxt n m z,ϰi,Int×Int,ϰj a,λx y H Q=>a,ϰk,ax 4,ϰl,N4 n,ϰm,a ρ,ϰn,bc _,ϰo,Os h,ϰp a,λi hi=>a,ϰq,(λ_ m=>by cases m),ϰr a b,aP (a<|aa b) (K2 0) aT,ϰs,ρ.ß i,ϰt a b,λi=>a ts s Ds S i*b,ϰu,Inv n m z k R,ϰv,pos ts Ds,ϰw,Stt M.K n,ϰx,dY ts,ϰy,Z1 K F H,ϰz,F4 cX,ϰA,K9m _,ϰB,bC ts,ϰC,hdN r,ϰD,Nu hi,ϰE,ls 2,ϰF,wpAny (model prog w) A,ϰG a,(false,eval e X.Ü)::a,ϰH,{s with heap:=h'},ϰI,eval a X.Ü,ϰJ a,ts.À<=a,ϰK a,aw (aq a),ϰL,szN ts,ϰM,gcL 0,ϰN,some d,ϰO,some y,ϰP,aK F H,ϰQ,some r,ϰR a b,sm a (λi=>b),ϰS,K8x _,ϰT a,(by rw[a]),ϰU a,λk:Nat=>a,ϰV a,(a).get?,ϰW b,λa m=>b,ϰX a,(a).any (·.1)=false,ϰY a b c,(by erw[a];rw[b,c];rfl),ϰZ,wP ts s Ds S,ϰ0,drw ts Ds,ϰ1,cq ts p s,ϰ2,aK.refl _,ϰ3,gp ts,ϰ4,cF ts,ϰ5 a,∃n,a=some n,ϰ6,H b=none,ϰ7 a b,(by rw[a,b];rfl),ϰ8,chL D,ϰ9,Eld e p,ϱa a,(ZB.mp a).1,ϱb a b,.Call a b [],ϱc a,⟨a,[]⟩,ϱd,dD Fv,ϱe,k _ _,ϱf,ls 0,ϱg,dI D,ϱh a,P3 (λz=>a),ϱi,Nu h,ϱj a,pA a k,ϱk a b,{s with heap:=a,toks:=b},ϱl a,(show a by decide),ϱm,λi hi=>?_,ϱn,ax 5,ϱo,frS D n,ϱp,.ol xs,ϱq,lvs ts,ϱr,cOf ts,ϱs,c=true,ϱt,hdN q,ϱu a b,a->a->b,ϱv,K9h e,ϱw,S.T r,ϱx,1<=Ds,ϱy,a::r,ϱz,gv s,ϱA,P3 h,ϱB a,(a:Nat),ϱC a b,(by let:=a;rw[b]at this;show this),ϱD a,autoParam a mqab.é,ϱE,ns.Ç V.int,ϱF,lrT ts l r v,ϱG,prF S n m z,ϱH a b,.BoolOp .a b pos,ϱI,(by omega),ϱJ,rel fo rv,ϱK a,(a<Tk)=True,ϱL a c d,a=c->d b=c,ϱM,Q n S i,ϱN,F4 ip,ϱO,azIf p,ϱP a,a->Bool,ϱQ,mT h,ϱR a,range a,ϱS,n0+n,ϱT,PA X,ϱU,Os H,ϱV a b,bQ (i:=a) b rfl (Or.inl rfl),ϱW,X.è x,ϱX a b,s.Ë c=a->b c=a,ϱY,F.map (rN ts),ϱZ,(by simpa using h),ϱ0 a,PyData.Ă a,ϱ1 a,a<=ts.À,ϱ2,bI ts Ds,ϱ3,cR ts,ϱ4,ax 6,ϱ5,ini ts,ϱ6,RelV x,ϱ7,some j,ϱ8,sgn a,ϱ9,.Name,ϲa,[a,b],ϲb,PS X,ϲc,P3 H,ϲd a,cutD a,ϲe,fl ts.À,ϲf a,S.Á+a,ϲg,Loc X.Ě,ϲh,eval b X.Ü,ϲi a,⟨_,a,rfl⟩,ϲj,RelV v u,ϲk,Pf n e c,ϲl,range n,ϲm,Dn ts j,ϲn,some p,ϲo,iX i,ϲp a,XV.ó a,ϲq,npA g,ϲr,I4 g,ϲs,R Out,ϲt,P3 e,ϲu,aK F,ϲv,I4 P,ϲw a,OD.ol a,ϲx a,a<=100,ϲy a,∀f:F,a,ϲz,autoParam ((x==("__debug__":Str))=false) mqab.é,ϲA,(ts.ä<|j+1).takeWhile (inB j),ϲB i,a::b::c::d::e::f::g::h::i,ϲC a b,(a s.Ì (ls 0)<|ls 1).b,ϲD,backTo pos,ϲE,(by simpa using m),ϲF,Jn n m z w A R,ϲG,xs.ß j,ϲH,(by simp[m]),ϲI,(ZB.mp h).1,ϲJ,l.Ç int,ϲK a,λ_ _ _ q=>a q,ϲL,gpL ts q,ϲM,λa m=>?_,ϲN a,ts.À-a,ϲO,r.Ė e1,ϲP a,∀i,i<=n->a,ϲQ,there O,ϲR b,λa m=>k a<|b,ϲS,dist Ds,ϲT a,F.roots a,ϲU,ft t b,ϲV,pvN S,ϲW,vw S,ϲX,cY O,ϲY,aL q,ϲZ,Ps ?_,ϲ0 a,λb o e=>a,ϲ1 a,λk H=>a,ϲ2,ih _,ϲ3 a,aw a aQ,ϲ4,R α,ϲ5,aZ 1,ϲ6,X.ô x=some c,ϲ7 a,K8e Z.zp rfl (x:=a) rfl,ϲ8,λ_ _ _ _ _ _ _=>rfl,ϲ9,y*69621%2147483629,ϳa,lvs (ts.Ö i),ϳb a b,eSl l6 (aa a) b,ϳc,(by simp;lia),ϳd,fO M n F H,ϳe,px n (pvN S),ϳf,X.Ç OD.er,ϳg,X.fn x=true,ϳh,a<ts.À,ϳi a,s.ÿ a,ϳj a,λk:Nat=>int<|a,ϳk a,(by rw[a];simp),ϳl,upR S r s,ϳm a,False.elim a,ϳn a b,dcl a b hr,ϳo,some none,ϳp,λj J=>?_,ϳq,.pl p,ϳr a b c,(by rw[a,b,c];lia),ϳs,eQ l r g,ϳt a,(a<=Tk)=True,ϳu,cx ts j,ϳv,b::rest,ϳw,dO Ds O,ϳx,n-1-k,ϳy,df1 X G,ϳz a,K89.ó a,ϳA,F4 cO,ϳB a,∀b∈fp,a,ϳC,chI ts,ϳD,N+2+2,ϳE,P3 K9o,ϳF a,F.map a,ϳG,bV he,ϳH,cK O,ϳI,prs r,ϳJ a,F.Con a,ϳK a b,clL a b s,ϳL,gv l,ϳM,eD X,ϳN,aZ 3,ϳO,.ListComp elt [⟨tg,iter,ifs,0⟩] scope pos,ϳP a b,.Call (.Name a p) b [] pos,ϳQ,model X.ø X.w,ϳR,(by simpa using B),ϳS,range ts.À,ϳT a,sm ts.À (λv=>a),ϳU,(λz=>nomatch z),ϳV a,s.ë a,ϳW a,ar (K2 a),ϳX,I.ok.hd C,ϳY,replicate k,ϳZ a,(by change a;lia),ϳ0,wt n z k H,ϳ1,gTp 3,ϳ2 a b,aX L a b ?_ ?_,ϳ3 a,replicate a,ϳ4,wdS ts t,ϳ5,K1 P w K,ϳ6,ax 1,ϳ7,ax 7,ϳ8,tT M n,ϳ9,tmO ts,ϴa,T0 S.r,ϴb,K9A X G,ϴc,ask Ds,ϴd,map h,ϴe,m+1+k,ϴf,aY g b,ϴg,v.1=k,ϴh,Room k,ϴi,DT M X,ϴj,K9Z hi,ϴk,oG ts,ϴl,n::r,ϴm,fac H,ϴn,mxN O,ϴo,gv st,ϴp,a[i]?,ϴq,Own K,ϴr,XS^14,ϴs a,aP (bY<|a),ϴt a,mg a=none,ϴu,pA l,ϴv,pd n,ϴw a,r.ï a,ϴx,bL h,ϴy a,a->Int,ϴz a,(a).2.2.1,ϴA,λ_ _ _ _ _=>dg2 0,ϴB a b,jG du fW (aq a) b,ϴC a,OpR X (binaryOp .a),ϴD,Str×NameKind,ϴE,["tree","node"],ϴF,O[j]?.getD [],ϴG,nwL ts s Ds S,ϴH,ixN xs.À,ϴI,npF ts l r g,ϴJ c,λa A b B e=>c,ϴK,.ok (.rt x),ϴL,.Attribute,ϴM,Nat×Str,ϴN,atL ts D e,ϴO a,PyData.ê a,ϴP,tA M n,ϴQ,E5.í h2,ϴR,lkB ts w,ϴS,mrB ts w,ϴT,Key×V,ϴU,E.hh _ _,ϴV,h.È a,ϴW,Zaj hi,ϴX,A m H,ϴY,SqL X.K,ϴZ,.Assign,ϴ0,(m:Int),ϴ1,K9J ?_,ϴ2,.ok x,ϴ3,Con ch,ϴ4,PSs X,ϴ5,[b,c],ϴ6,K9Z h,ϴ7,R i j,ϴ8,Nu _,ϴ9,eP x,ϵa a,a≠[],ϵb a,(a).elim,ϵc a,autoParam (PE X a (iX i)) mqae.é,ϵd,frees X.Ü scope.names [],ϵe,∀n∈ts,n.ç<=1000,ϵf a b c,a=b\/a=c,ϵg a,(K9Y.mp m).elim a,ϵh,(by simpa using e),ϵi,λp=>(kD p.1,p.2),ϵj a,∀x∈scope.names,a,ϵk,wor ts s Ds S,ϵl a b,⟨a,H,I.tok _,b,q⟩,ϵm,b<ts.À,ϵn,truth x.er,ϵo a b,keepIn a b=true,ϵp a b,(by erw[a];show b),ϵq,.pl q,ϵr,Str×Ix,ϵs,.ok true,ϵt,stM M ts,ϵu a,g1++(a++g2),ϵv,S.ā e1,ϵw,H p=none,ϵx,eP x a s,ϵy,S.2 _,ϵz,sub a m,ϵA,gv pl k,ϵB,F4 gGt,ϵC a,outs.Ç a,ϵD,aO S.c,ϵE,nj X H6,ϵF,field _,ϵG,nM he,ϵH b,λa m o q=>b,ϵI,ah T,ϵJ,K8n _,ϵK,dsD D,ϵL,some n,ϵM,E5 K H,ϵN,R Bool,ϵO,.bl b,ϵP,a::as,ϵQ a,a j=true,ϵR,ls 1,ϵS,b ρ,ϵT,s[i]?,ϵU,b[i]?,ϵV a,λc o q=>a,ϵW,EP X,ϵX,y::z,ϵY,cP p,ϵZ a,F.mir a,ϵ0 a,aB (bW<|a),ϵ1,zC3 s.Ì (ls 0) (ls 1),ϵ2,upd H s.Á,ϵ3 a,.of_defaults rfl (k _ _ a) rfl rfl rfl,ϵ4,absurd (show false=true from S) K9o,ϵ5,f9 he ts.À,ϵ6,stL ts (hd3 g),ϵ7 a,OpR X (compareOp .a),ϵ8,backTo cp,ϵ9,["tree","pulls"],϶a,ds.Ç OD.sh,϶b a,(az.ï a).ext,϶c,cons a b t,϶d,g1++(f++g2),϶e a,spt ts a n,϶f,HOk P w H h,϶g,memD ts w,϶h,F.app g b,϶i,(S q).c i,϶j a b,wpAny _ a b _ _,϶k,2*(e+1)*A,϶l,nf ts a,϶m,.dK Fv,϶n,H a=none,϶o,RelV y u,϶p,putK Fv,϶q,XV.mp hg,϶r,app f,϶s,[a,b,c],϶t,(e:Int),϶u a,K9G.ó a,϶v,F4 gn,϶w,K9L h,϶x,u+1+d,϶y,ph n S,϶z a,[(false,a)],϶A,.ok y,϶B,E5 M.K,϶C,rs[k]?,϶D,Ds<=20,϶E,hi-lo,϶F a,I.ê a,϶G,aO r,϶H,pre f,϶I,P n S,϶J a,.ol (aG a),϶K,[x,y],϶L,a∉f,϶M,cI hd,϶N,Dn ts,϶O,gc p,϶P a,Fv.Ç a,϶Q,Nu J,϶R,aS w,϶S,oA O,϶T,gT p,϶U a,λk h=>a,϶V,List.map_eq_nil_iff.mp z,϶W,bM (NU:=λ_=>[]) (n:=0),϶X,atL ts ((9+Ds)*256) e,϶Y,BlkK X sc scope outs,϶Z b,unK (λx=>b) (a ρ),϶0,λ_ _=>False,϶1,replicate m,϶2,EP X p a Q,϶3,pK ts l r g,϶4 b,λa H Q=>t a H b,϶5,tot fo rv R,϶6,v<ts.À,϶7,Halt n m,϶8,.ok false,϶9,k<O.À,Ϸa a b,d9 (pl:=a) (k:=b),Ϸb,λ_=>none,Ϸc,az.ï p,Ϸd,Wd K mg J,Ϸe,stL ts t,Ϸf,stM s ts,Ϸg a,Lp.c7 (l:=a),Ϸh,h.È b,Ϸi,F a=none,Ϸj,Nat->Row,Ϸk,laL D n,Ϸl,n-1-j,Ϸm,Uf some,Ϸn a,l.À=a,Ϸo,F4 gNe,Ϸp,PI X tg,Ϸq,.od Fv,Ϸr,Rd H a,Ϸs,g i j,Ϸt,K91 _,Ϸu,some a,Ϸv,bg q,Ϸw,ρ[i]?,Ϸx,aq 4,Ϸy a,⟨rfl,a⟩,Ϸz a,K9G.mp a,ϷA a,K*(a+Ds+1),ϷB a,λX H Q=>a,ϷC a,λc o C q=>a,ϷD,K9q h,ϷE,.func,ϷF,pL he,ϷG,S.T k,ϷH,2^63,ϷI a,keyOf a,ϷJ a,wpAny a,ϷK a,sIf (aD<|a),ϷL,aC B,ϷM,N1 K,ϷN a b,df3 X G a b rfl (λ_ _ _ _ _ _ _ _ _=>rfl),ϷO,mW ts (G.Ö i) (λ_=>none,2),ϷP,Classical.propDecidable _,ϷQ a,h.È b=a->h'.È b=a,ϷR a,of_decide_eq_true a,ϷS,cons k' c' r',ϷT a,X.A.ħ+a<cLine,ϷU,rgu (vw S) z s,ϷV,A.handled=none,ϷW,(h1.Î s).sq,ϷX,kL ts _ _ x,ϷY a,if a then n else m,ϷZ a,(by rw[a];simp[m]),Ϸ0 a,(by rw[a];show hi),Ϸ1,ts.ä (j+1),Ϸ2,nU ts strict,Ϸ3 a,Classical.choose a,Ϸ4,X.ß j,Ϸ5,R q (S.c l),Ϸ6,λ_ _ z=>z,Ϸ7,g.Ç tmD,Ϸ8,r.Ç int,Ϸ9,S.own.at e,ϸa,F.Pf.pos p,ϸb,S.fr a,ϸc,aj aV,ϸd,eB mB,ϸe,pW F H f,ϸf,DI M X tg,ϸg a b,show a=b from rfl,ϸh,F.roots f,ϸi,λq Q=>?_,ϸj,.ellipsis,ϸk,Stp n m z,ϸl a,DA M X a al,ϸm,codeIn K,ϸn,fg Ds he,ϸo,kN he hr,ϸp,Rl ts Ds,ϸq,sT Fv k,ϸr,λx=>-x,ϸs,e (n-1),ϸt,RdK K H,ϸu,okI s p,ϸv,a.T n k,ϸw,mU he,ϸx,B m H,ϸy,some i,ϸz,r.fr a,ϸA a,Z3 a s Ds,ϸB a,codeAny a,ϸC a,λx c e=>a,ϸD,ind k0,ϸE,gE Fv,ϸF a,eq_true a,ϸG,ltN q,ϸH,w::W,ϸI,z∈ns,ϸJ,ts[k]?,ϸK,ch[k]?,ϸL,mdS ts,ϸM,a+1+j,ϸN a,bh.ó a,ϸO a,E5.get a,ϸP,K9R h,ϸQ,U.T n,ϸR,aq 1,ϸS,ay ts,ϸT,aa 6,ϸU,IxR X,ϸV,okO O,ϸW,Nu L,ϸX a,iA a xg,ϸY,PT X,ϸZ,autoParam (∀x,foldedSetIterable iter X.Ü x=pure x) mqad.é,ϸ0,Str.ofString "abcdefghijklmnopqrstuvwxyz",ϸ1,dh (dh s.Ì<|ls 0),ϸ2 a b,{cls:=.type a,dict:=none,data:=b,slots:=#[]},ϸ3 a,kK rfl T.te (aq a),ϸ4,replicate ts.À,ϸ5 a b c,(by let(o,a):=b;rw[c]at a;cases a),ϸ6,["_law_tree_here"],ϸ7,["outlines","gap"],ϸ8,G1 P w K mg base J,ϸ9,G2 P w K mg base J,Ϲa a,(by erw[a];rw[d];rfl),Ϲb a,(a List.length).sum,Ϲc,[(k,true,false)],Ϲd,og ts.À,Ϲe,x≠"__name__",Ϲf a,assignEach a X.Ü,Ϲg a b,(false,eval a X.Ü)::b,Ϲh a b c d,a b c-a b d,Ϲi a,Wp a (λv S zq=>?_),Ϲj,bootBuiltins x,Ϲk,["tree","gap"],Ϲl,jF row piv s,Ϲm,a.ß i,Ϲn,eO X.ø X.w,Ϲo,(2*(n+1)*A)^n,Ϲp a,iE (ts:=ts) (G:=a),Ϲq a,Uf (List.map a),Ϲr,tP ts c M',Ϲs c,∀i,a<=i->i<b->c,Ϲt,ixN X.À,Ϲu a,(by rw[a];show h),Ϲv f,a::b::c::d::e::f,Ϲw,NU ts false,Ϲx,rowsOf ts,Ϲy a,rI0 (λi j=>.bl a),Ϲz,λx=>!x.1,ϹA,Value.ref a,ϹB,(ZB.mp H).1,ϹC,Nat->Lp.Row,ϹD,e<ts.À,ϹE a,∀s H C ex p,a,ϹF,S0 D n ch,ϹG a,Binds a fd ps,ϹH,.ok (.nx a),ϹI a,(h1.Î a).sq,ϹJ a,{s with heap:=a},ϹK a b,eD X a (λx H Q=>b),ϹL,λb B=>?_,ϹM,gR he _,ϹN,λb m=>?_,ϹO a,gpR ts a Ds,ϹP a b c,(a b)=c b,ϹQ,K9G.mp H,ϹR,xS ts s,ϹS a,(OD.ol a).er,ϹT,(by rw[e]),ϹU,R.Ė e1,ϹV,XL.mp hd,ϹW,xE D n S,ϹX a,jC (nD a) 0,ϹY,gsD ts,ϹZ,range m,Ϲ0,mir f,Ϲ1,F4 gEq,Ϲ2 a,atI a (-1),Ϲ3,SqT K H,Ϲ4,some e,Ϲ5,Stt K n,Ϲ6,S.ā D,Ϲ7,XL.mp h,Ϲ8,DSs M X,Ϲ9,F.pre r,Ϻa,XV.mp H,Ϻb,(s:Int),Ϻc a,lay_ints a,Ϻd,F.gi c,Ϻe c,c a=c b,Ϻf,rN ts,Ϻg,hg m,Ϻh,gz os,Ϻi,f p r,Ϻj a,λ_ _ _ _ _=>a,Ϻk,kP he,Ϻl,b∉ch,Ϻm,this.1,Ϻn,l7 O j,Ϻo a,(a).toArray,Ϻp,ls j,Ϻq,int 0,Ϻr,q*2^m,Ϻs a,a b=none,Ϻt a,nv (l:=a),Ϻu,j+1+s,Ϻv,n-1-P,Ϻw a,ow s a T,Ϻx,vw x,Ϻy a,nQ (a).1 k,Ϻz,c6 _,ϺA,X.K=K,ϺB,Zbr _,ϺC,fK n0,ϺD,R.2.1,ϺE,iZ he,ϺF,nB he,ϺG,aO s,ϺH,I4 s,ϺI a b,aP (iZp a<|b),ϺJ a,a[i+1]?,ϺK a,λi ρ=>a,ϺL a b,sm a (λq=>b),ϺM a b,bQ (i:=a) b rfl (Or.inr rfl),ϺN,envOfC qual scope s.Á f,ϺO a,cellsFrom a scope.names,ϺP a,bootBuiltins a=some (.type a),ϺQ,["tree","places","gap","unit"],ϺR,slots own.length outs σ,ϺS,h'.È s.Á,ϺT b c d,kh (m:=b) (ds:=c) rfl (λs u k a=>d),ϺU,N3 (λi hi=>h i<|K8f hi),ϺV a,λq=>OD.ol (nO<|chI ts a q),ϺW,(a==sysModules)=false,ϺX a,-(A:Int)<=a/\a<=A,ϺY,(λe=>C (by simp[e])),ϺZ,backTo cpos,Ϻ0,OkE.val s p,Ϻ1 a,scope.names.lookup a,Ϻ2,sc.æ x,Ϻ3,(by simpa using H),Ϻ4 a,SeqAt.shaped a=true,Ϻ5,.seq i.Æ n,Ϻ6,b≠X.Ô,Ϻ7,OkI M.K F H R',Ϻ8,h.Ns mainGlobals,Ϻ9,λy=>flat y.er,ϻa,Own K F H v x f,ϻb,T.ĉ a o q,ϻc,qv ts s Ds S,ϻd a,.Constant a j pos,ϻe a,if a then j else i,ϻf a,(a i&&a j)=true,ϻg,(by simp![S5]),ϻh,b.ß i,ϻi a,tI M n a σ H R',ϻj,p8 (Ds:=Ds),ϻk a,(by change a;decide),ϻl,⟨rfl,rfl⟩,ϻm,k _ K9z _ h,ϻn a,4*a*a,ϻo a,5*a*a,ϻp,F.Pf.g_lt p,ϻq a,(by rw[e];show a),ϻr,eO P w H h a,ϻs,Int.gcd b a,ϻt a b,[(false,a),(false,b)],ϻu,.Tuple es,ϻv,model P w,ϻw,absurd h,ϻx a b,∀(p:Int)(f:F),a->b,ϻy a,∀b∈f,∃ws,a,ϻz,pl.Ç int,ϻA,qG ts off,ϻB,K w.params,ϻC a,∀s H C ex n,a,ϻD a,OkC M (a X.K),ϻE,λ_=>k+1,ϻF a,joB ts Ds (a).1,ϻG,arr.ä j,ϻH,nwB ts s S,ϻI,OD.ers xs,ϻJ,eB lP,ϻK,aj bT,ϻL b,iU a b 0 row,ϻM a b,F.cons a b F.nil,ϻN,e1.hh _ _,ϻO,I.pin p,ϻP,.function,ϻQ,(A b).mpr,ϻR,(e+1)*A*K,ϻS,ih (i:=i),ϻT,.pl l,ϻU a,a+zs.À,ϻV,ZB.mp hi,ϻW,.ol ys,ϻX,F.c1 c,ϻY,sm (e+1),ϻZ,Mk n m R,ϻ0,pA piv s,ϻ1,gI (R e),ϻ2,full c,ϻ3 a b,fP (i:=a) (j:=b),ϻ4,tS M n,ϻ5 a,K8u (λx _=>a),ϻ6 a,a=O.À,ϻ7 a,ResL a F H,ϻ8,mkL n i,ϻ9,.dK [],Ϥa a,(a).getLast?,Ϥb,range i,Ϥc,K9g X G,Ϥd a,(a).Pairwise,Ϥe,Vals xs,Ϥf,range j,Ϥg,Dp ts 8,Ϥh,n0+3+2,Ϥi,lfR ts,Ϥj,rtR ts,Ϥk,κ×V,Ϥl,I4 l i,Ϥm a,s.TypeIs a,Ϥn a,az.ï a,Ϥo,hi p,Ϥp,i / j,Ϥq,dB 1,Ϥr,dB 2,Ϥs,n::ns,Ϥt,D.nx a,Ϥu,xs[j]?,Ϥv,azOl p,Ϥw,this.2,Ϥx,Z8 rfl,Ϥy a b,eIf (aD<|a) b,Ϥz,j+1+k,ϤA,Dr Ds,ϤB a b,jH a b=true,ϤC,qG ts,ϤD,pA q,ϤE,S _ _,ϤF,w a m,ϤG a,∀f g:F,a,ϤH,fa ρ,ϤI,k xs,ϤJ,c≠b,ϤK,c∈t,ϤL,Bd XB,ϤM,nX Fv,ϤN a,(a).flatten,ϤO a,λj:Nat=>a,ϤP b,Zag (a:=b),ϤQ a,XV.mp a,ϤR a,Gc->R a,ϤS,(by simp at m⊢;rcases m with m|m<;>simp[m]),ϤT a,Builtin.SmallTypes.ownedTupleIsFree a,ϤU,xf N (rawInt T),ϤV,(ap.endLine==cp.line)=true,ϤW,own.length+outs.À,ϤX a b,af (gL a (aB<|b) cD),ϤY,Stt K n F H σ ρ fp,ϤZ,(λv z=>by cases z),Ϥ0 a,xx X0 X1 x i*pA a i,Ϥ1,ub (aa 6),Ϥ2,K8u (λk _=>bc _),Ϥ3,nwR ts s Ds S,Ϥ4,σ.ß i,Ϥ5 a,a<s.Á,Ϥ6 a,λ_ _ _ H _ I h=>a,Ϥ7,HOk X.ø X.w,Ϥ8,Dual n m R u d,Ϥ9,l5 (yW ts l r),ϥa,iU a s p row,ϥb a,(by subst h;show a),ϥc a,D.Ç (λd=>int<|a),ϥd,(S i).c (r i),ϥe,nwG ts s Ds S,ϥf a,fH l8 qJ a,ϥg a,DG M a tg is gg,ϥh a b,-a<=b/\b<=a,ϥi a,(by rw[m];show a),ϥj,BindsTo s fd,ϥk,zc ts strict,ϥl a,dP (z / a),ϥm,X.mg x=none,ϥn,ts.À-m,ϥo c d,rel c d a b=true,ϥp a,s.Ë a,ϥq a,List.range' a,ϥr,I.cell x c,ϥs,pure false,ϥt,⟨#[c]⟩,ϥu,aJ g t e a,ϥv,λ_ _=>rfl,ϥw,way.Ö c,ϥx,256*(Ds+1),ϥy,j<D.À,ϥz,frees env,ϥA,F.full c,ϥB,eB mN,ϥC,X.mg=M.mg,ϥD,IsE n d e,ϥE,IsL n d T,ϥF,h.co i hi,ϥG,(256:Nat),ϥH a b c d e,sIf (pZ (a<|b)<|c<|d) (bF<|eC<|e) sNx,ϥI a,a i=a j,ϥJ,J.row i,ϥK,sdL ts,ϥL,putD Fv,ϥM,jl O st,ϥN,.dT Fv,ϥO a,show a from L,ϥP,K8X P,ϥQ,mP Ds he,ϥR,oY Ds he,ϥS,lnL D i,ϥT,S (i+1),ϥU,jD 3,ϥV,uB a as,ϥW,iC rfl,ϥX,OD.sh d,ϥY a,a<sizeLine,ϥZ,mW ts G,ϥ0 a,pA a (m+n),ϥ1,S.2 c,ϥ2 a,λa hg=>?_,ϥ3,d::ds,ϥ4,Rep M.K,ϥ5,XV.mp h,ϥ6,Nat->Db,ϥ7,F4 kq,ϥ8,(c:Int),ϥ9,λk=>?_,Ϧa,h.oth i,Ϧb,Nat->St,Ϧc,(S i).T,Ϧd,(r:Int),Ϧe,i.2.2.2,Ϧf a,(aG a).set,Ϧg,wX vs,Ϧh,.ol X,Ϧi a,K9T.ó a,Ϧj,K8g h,Ϧk,h p s,Ϧl,this _,Ϧm,f++g,Ϧn,p7 j,Ϧo,g c k,Ϧp,K9L H,Ϧq,.bl _,Ϧr,.no ih,Ϧs,T.nw a,Ϧt,DW M X,Ϧu,fK N 2,Ϧv,c1 c,Ϧw,K2 3,Ϧx,K9L hg,Ϧy b,λa o q=>b,Ϧz a,there a l,ϦA a,λk=>.sh<|a,ϦB a,λhK hM=>a,ϦC,x::X,ϦD,a++b,ϦE,gh c,ϦF,n0+j,ϦG a,K89.mp a,ϦH,j+1+i,ϦI a,stM a ts,ϦJ a,h.È a,ϦK,aL e,ϦL,aa 7,ϦM,k b u,ϦN,PGs X,ϦO,K9R a,ϦP,OkC M,ϦQ,As ds,ϦR,F q i,ϦS,R q j,ϦT,XS^13,ϦU a b c d e,bE (bR (i:=a) b rfl<|c rfl) (bE (bR (i:=d) b rfl<|Or.inl rfl) e),ϦV,(backToKw cp<|keywordEach [] X.Ü).all (λx=>x.1.isSome),ϦW a,Room k (A.Ĥ<|envOfC qual a s.Á f c),ϦX,⟨F.gi c (cw ts k).e,(cw ts k).l,(cw ts k).t⟩,ϦY a b c,swapsWith (.Call a b [] c) none pos.line X.Ü=pure false,ϦZ a b c,K1 X.ø X.w a b X.ı c k f fd ps (sp3 M.K M.mg fn),Ϧ0 a,opG (λ_ _=>rfl) (λs p=>⟨_,_,rfl,rfl,a s p⟩),Ϧ1 a b,X.K=M.K->X.mg=M.mg->a X e (b M X.õ f),Ϧ2,fnOf x qual (cV st) (bN st) (ah st),Ϧ3,nZ (dI D) (lkB ts w) (mrB ts w) A,Ϧ4 c d e,c[0]?=some a->(c).getLast?=some b->d=e,Ϧ5 a b,fnOf a a (cV b) (bN b) (ah b),Ϧ6 a,F4 cX (bO<|ae a ai),Ϧ7,Obj.mapSeq (λ_=>(#[]:Array Db)),Ϧ8,["node","like","mirror","felt"],Ϧ9 a,(S.2 b<|K9O<|K9P (K9h e) a).trans,ϧa,["rows","chosen","count"],ϧb a,(by let q:=a;rw[si]at q;show q),ϧc,["tree","places","unit"],ϧd,["node","like","mirror"],ϧe a b,h.rec (motive_1:=a) (motive_2:=b),ϧf,row.À=piv.À,ϧg a,Ps (K8e Z rfl (x:=a) rfl ?_),ϧh a,(by erw[a];rw[N2,h];rfl),ϧi a b,cxB X (a++b) scope s H C ex,ϧj,Run n m z k R S s r,ϧk a b c,ZS a n0 b ls (λ_=>k) c arr,ϧl b,λa H Q=>ta a H λx h=>b,ϧm a,λ_ _ _ _ _ _ _ q=>a q,ϧn,.ok (ky 0 j.Ò),ϧo,row.ß k,ϧp a b c,ZS a n0 b l (λ_=>k) c arr,ϧq,k==NameKind.free,ϧr a,FG a a,ϧs,dh s.Ì,ϧt,X.mg "range"=none,ϧu,["tree","places"],ϧv,["tree","strict"],ϧw a,sm (n+1) (λq=>a*R q j),ϧx,(by simpa using Y),ϧy,(ns.idxOf z:Nat),ϧz,⟨-1,r.l,r.t⟩,ϧA a,if a then k+1 else k,ϧB,rZ (t':=s.ã),ϧC,tD M X.õ,ϧD a b,sR ns a b b,ϧE,t.Ç Value.ref,ϧF,λe S f=>f.Ä,ϧG,X.mg "zip"=none,ϧH,Fun K x x T f d,ϧI,λ_ _ _=>False,ϧJ a b,(by let:=a;change b;lia),ϧK a,Ps (wpAny_holding<|a),ϧL a,wpAny M A a Q E s,ϧM,λz Z=>Z.pre D,ϧN,(by split<;>lia),ϧO a b,bZ (iR1<|a) (K2 b),ϧP,.sh (lD L q e1),ϧQ,17*Mf n+59392,ϧR,λ_ _ _ q=>q,ϧS a,(by rw[a];simp[J]),ϧT,rtV ts s Ds S,ϧU a,assign a X.Ü,ϧV a,Ps (K8F a rfl ?_),ϧW,⟨_,e,rfl⟩,ϧX,Jn n D.À,ϧY,ts.À-a,ϧZ,s.ä (i+1),ϧ0,n-1-(n-1-J),ϧ1 a,(by ext rfl;show a),ϧ2 a,congr (Uf _<|a),ϧ3,E5.toInts h2,ϧ4,(nbN ts k).2,ϧ5 a,λa hg t l=>?_,ϧ6,T.c.ß r s,ϧ7 a,K9q (λz=>h<|a z),ϧ8 a b,dk (ah a) b [0,1],ϧ9 a,(by erw[a];simp),Ϩa a,(by rw[a];show l),Ϩb,st.Ç int,Ϩc,row.Ö k,Ϩd,mC he p.ú,Ϩe a,(by rw[a];show H),Ϩf,hk c o C q,Ϩg,N.qn p L _,Ϩh,Passes CX X,Ϩi,g x.er y.er,Ϩj,s.ĉ a o,Ϩk,it nx i x,Ϩl,q.Ç int,Ϩm,λm M=>?_,Ϩn,aj bP,Ϩo a b,(a).map OD.er=(b).map int,Ϩp a,(by erw[a];lia),Ϩq,Uf (·+1),Ϩr,lW I hg M,Ϩs,s.Ç int,Ϩt,h n (K8d n),Ϩu,λ_ _ q=>q,Ϩv,a.Ð x,Ϩw,Vals.one r,Ϩx,H a≠none,Ϩy,λo po=>?_,Ϩz,intAt xs j,ϨA,j<O.À,ϨB,aj bS,ϨC,eB vp,ϨD,aj eE,ϨE,List Bool,ϨF,F.full d,ϨG,start N,ϨH,K9G.ó J,ϨI a,arr.À=a,ϨJ a,λp=>a*F q p,ϨK,v-(u+1),ϨL,.frz o,ϨM,h'.È b,ϨN,h'.È e,ϨO,K8k.mp nd,ϨP,λz Z=>?_,ϨQ,λq H=>?_,ϨR,["place"],ϨS,Cc ts Ds,ϨT,G.Ö i,ϨU,vV n S,ϨV,I.tok _,ϨW,jD 1,ϨX a,gdL ts a Ds,ϨY,sbT g v,ϨZ,jD 2,Ϩ0 a,rI (λ_ j=>a),Ϩ1,e _ _ h,Ϩ2,H T=none,Ϩ3,KV Fv vs,Ϩ4,fO M n,Ϩ5,(·<=·),Ϩ6,n0+3+1,Ϩ7,pick j J,Ϩ8,n0+2+1,Ϩ9,dX _ _ _,ϩa,P0 T n,ϩb,e1 e c,ϩc a,.ok (.ret<|a),ϩd a,some (some<|a),ϩe,vE F f,ϩf,cons k,ϩg,λz=>?_,ϩh,x::xs,ϩi,sp3 K,ϩj,l i hi,ϩk,out a,ϩl a b c,if h:a then b else c,ϩm,gq D E,ϩn a,Bas n (S<|a),ϩo a,K.Ð a,ϩp a,nwX a s Ds,ϩq,HOk P w,ϩr,t a H Q,ϩs,OpR X f,ϩt,T="int",ϩu,aK H H',ϩv,KT H Fv,ϩw,ZB.mp J,ϩx,(b:Int),ϩy,some bs,ϩz,xs≠[],ϩA,(·<·),ϩB,f (b+1),ϩC,enc B e,ϩD a b,(by let:=a;show b),ϩE a,∀k,k<=n->a,ϩF,.ok ds,ϩG,pN D n,ϩH a,some (.od<|a),ϩI,lx fL,ϩJ a b,∀e,∀k∈a,k<b,ϩK a b c d,(by rw[a,b,c];show d),ϩL,bN T,ϩM,k m H,ϩN,s ρ,ϩO,gK m,ϩP,xs j,ϩQ,K2 4,ϩR a,PG a tg g,ϩS a,λj r hr=>a,ϩT,K8d _,ϩU,K8g e,ϩV,aO ch,ϩW,n-1-q,ϩX a,AllBare a,ϩY a,pA a v*f v,ϩZ,a∈fp,ϩ0,2^4096,ϩ1,he.2 k,ϩ2,some l,ϩ3,r≠[],ϩ4,Lin φ,ϩ5,(·-j),ϩ6,N.b1 p,ϩ7,K.In h,ϩ8 a,λb o B q=>a,ϩ9 a,∀q,q<e->a,Ϫa,nx x,Ϫb,i+m+1,Ϫc a,∀i,i<N->a,Ϫd a,(bh.mp a).1,Ϫe a,V->V->Hp->a,Ϫf a,λh _ i k=>a,Ϫg c d,kE (a:=c) (b:=d),Ϫh a,(a).cps.toList,Ϫi,aa 9,Ϫj,w_ I,Ϫk d,a::b::c::d,Ϫl,uZ i,Ϫm,fb ρ,Ϫn,fl n,Ϫo a,Env->R a,Ϫp,Eld e,Ϫq,kN he,Ϫr,eX (kU _ rfl rfl) sL rfl T.tc PyProof.Rows.boot_sum,Ϫs a,bindArgs (fnOf x x (cV T) (bN T) (ah T) .none kV doc pm an c ct) ⟨a,[]⟩=pure (ps.Ċ a),Ϫt a b,attributeBase a b X.Ü (eval a X.Ü)=eval a X.Ü,Ϫu,opG (λ_ _=>rfl) (λs p=>⟨_,_,rfl,rfl,(azIf p).1,okI s (azIf p).2⟩),Ϫv b,.cons (b (aK.refl _) λa _ o z=>up a o z),Ϫw a,(assignEach [a] X.Ü).map (·.2)=[assign a X.Ü],Ϫx a b,bE (bR (i:=a) b rfl<|Or.inl rfl),Ϫy a b,(by let q:=a;rw[m]at q;exactλH6 s σ H R' I z=>q H6 s σ H R' I<|b z),Ϫz,opL (λ_=>rfl) (λ{a xs d F H g Q}s h1 h2 p=>?_),ϪA a,OkE.val D.fh (OkE.pre D a),ϪB,k==NameKind.free&&env.scope.kind==.function,ϪC a,⟨F,K9g X G q,F.binds λ_ _ _ _ _ _ s l=>a⟩,ϪD,Expr.Call (.Name "zip" p2) [a,b] [] P,ϪE,.Slice none none (some T) p2,ϪF a b,match x.er with| .dict Fv=>a|_=>b,ϪG,(λv z=>by rw[d]at z;cases z),ϪH,∀a H Q,t' a H Q->t a H Q,ϪI,qN (n:=3) rfl,ϪJ a b,peI a (λ_ _ _ h=>d_c (λ_ _=>b) h),ϪK a,Heap.IsList (Shared.heap a),ϪL,behindInMarks op b=false,ϪM,(show False from r).elim,ϪN,λm=>⟨m.e+s,m.l,m.t⟩,ϪO,if i<0 then -i else i,ϪP,xs.À+ys.À<=Tk,ϪQ a b,(by erw[a];rw[S1,S1];show K8u b),ϪR,ZS h n0 n ls is f0 arr,ϪS a b c d,af (sk a (ah b) c [0] [d]),ϪT a,Obj.mapSeq (·.push a),ϪU,cellsFrom n names a,ϪV a,rel_trans fL a,ϪW,tupleKind (dt P w),ϪX,G3 P w K mg base J,ϪY,A p s e H _ I h,ϪZ,Ps (wpAny_rule ?_),Ϫ0,c<n0\/n0+3+2<c,Ϫ1 a b,(by let(_,_,_,rfl):=a;show b),Ϫ2 a,p+1+a=p+(a+1),Ϫ3,I.base.â b o,Ϫ4,Vis X.Ě,Ϫ5,upd h a,Ϫ6,range O.À,Ϫ7,p6 (Ds:=Ds) h,Ϫ8 a b,bZ (bY a) (K2 b),Ϫ9,⟨0,n.l,n.t⟩,ϫa,["one","other"],ϫb,λi _ hi=>P3 hi,ϫc,model prog w,ϫd a,(by rw[aC<|a];show e),ϫe,nwT ts s Ds S,ϫf,Db->Db->Sem Db,ϫg,dh (dh h l) L,ϫh a,Wp a (λu S zq=>?_),ϫi,lfV ts s Ds S,ϫj a b,fP (u9<|a).bits (b).bits,ϫk a b,dk (ah a) b [0,1,2],ϫl,X.base.È b,ϫm,gpV ts s Ds S,ϫn,ts.À-b,ϫo,s.Å w,ϫp,d.Ç OD.sh,ϫq,B5 S.Ì H,ϫr,(by simp at h),ϫs,F4 g fa fb,ϫt,Or.inl rfl,ϫu a,A.ħ+a<cLine,ϫv,IntsAre s ns,ϫw,env.kindOf n,ϫx,IntsAre i ns,ϫy,s.Ç OD.sh,ϫz,λ_ _ h _=>h,ϫA,OkE.lstD s p,ϫB,nums.Ö i,ϫC,ts.À-k,ϫD,D.À+q,ϫE,I.freeC x c,ϫF a b,aj (dfl a b),ϫG,Zbc (λno=>?_),ϫH,swapsWith e,ϫI,K.In s.Ì,ϫJ,0<ns.À,ϫK,Res K F H v,ϫL,tG M n is,ϫM,jH i j=true,ϫN,S::zfp n0 2,ϫO,i<ts.À,ϫP,Int.gcd a b,ϫQ,J.inv.piv i,ϫR,Lone D n ch,ϫS a b,tX a (aq b),ϫT,X.À-1,ϫU,d9 (pl:=pl),ϫV,upd G T,ϫW a,(by rw[H];show a),ϫX,G.Ç tgD,ϫY,F.mir db,ϫZ a,(by rw[L];show a),ϫ0,Un fs ex H,ϫ1,false=true,ϫ2,sp v H Q E,ϫ3,K.Ð f,ϫ4,(by cases m),ϫ5,[e1,e2,e3],ϫ6,(by simp[H]),ϫ7,ok.row j r,ϫ8,j<R.À,ϫ9,I.off i hi,Ϭa,(9+Ds)*256,Ϭb,.sh x.er,Ϭc,bs.ě id,Ϭd,l.Å e,Ϭe a,{S with heap:=a},Ϭf,X.wish E,Ϭg,D.Å d,Ϭh a,.Return a pos,Ϭi,ns++[n],Ϭj,D.Ç iD,Ϭk a,pT a (d+1) x,Ϭl,PT X a tA,Ϭm,SqT X.K H,Ϭn,r x y H Q,Ϭo,.dict #[],Ϭp,pure true,Ϭq,E5.í h4,Ϭr,S.write e,Ϭs,erase ρ,Ϭt,λx h=>?_,Ϭu,rgu S z s,Ϭv,le3 S z s,Ϭw,ax 9,Ϭx a,PyData.eqv a,Ϭy a,i::j::k::l::a,Ϭz a,⟨_,Zbg a⟩,ϬA,.bl true,ϬB,@Eq Nat c,ϬC,nW K9F,ϬD,Int×Nat,ϬE,h.2 c,ϬF,ax 8,ϬG,ae fa,ϬH,xs++[y],ϬI,choose h,ϬJ,dot n x,ϬK,pq 2,ϬL a,swapsWith a,ϬM a,valueAt a k,ϬN a,take_snoc a,ϬO a,ps.À=a,ϬP a,eval a X.Ü,ϬQ a,(a).nofp.mono,ϬR a b,bM (NU:=a) (n:=b) he,ϬS,p x=true,ϬT,zfp n0 n,ϬU,K8G pick,ϬV,Zcy _ _,ϬW,vm Ds he,ϬX,a.Ċ b,ϬY,Ro n w S,ϬZ,lS f p n,Ϭ0,gI (R k),Ϭ1,rs[p.1]?,Ϭ2,rs[p.2]?,Ϭ3,nbN ts j,Ϭ4,a++[y],Ϭ5 a b,∀s H C ex a,b,Ϭ6,A pos,Ϭ7,v::vs,Ϭ8,AY M n,Ϭ9 a,(a s).same,ϭa a,Value.ref a,ϭb a,(a m M).at,ϭc,cx ts,ϭd,r x H Q,ϭe,xs++ys,ϭf,roots f,ϭg,ZB.mp H,ϭh,at0 _ _,ϭi,a.T n z,ϭj,S.c l,ϭk,tr i hi,ϭl,pS ts s,ϭm,Lp.cJ _,ϭn a,e1.Å a,ϭo b,a.À+b,ϭp,gv ls,ϭq,.ol [],ϭr,T0 rs,ϭs,I4 r i,ϭt a,λ_ _ _ z=>a,ϭu a,kinds / a,ϭv,aJ g t,ϭw,g dx,ϭx,h.lt k,ϭy,h i hi,ϭz,gy ns,ϭA,XB*XB,ϭB,gI x p,ϭC,K c o,ϭD a b,Bn a b D σ H,ϭE,int z,ϭF,aq 5,ϭG,aq 6,ϭH a,e.Å a,ϭI,aG pl,ϭJ,wpAny_callSpecial?_slot (name:=Str.ofString "__next__") h K7v,ϭK,eX (nJ _ rfl rfl) uO rfl T.t9 PyProof.Rows.boot_min,ϭL,eX (rK rfl) yL rfl T.t1 PyProof.Rows.boot_any,ϭM,(K8v.mp m).elim (λe=>e▸⟨_,h⟩),ϭN,λh' G=>⟨rfl,I.ĝ (t':=s.ã) (λb o B e=>G b o B e) F g j f4 l⟩,ϭO,spF ts (NU ts strict) (nU ts strict),ϭP a b,aw (zT uj Ac (aq a) b λ_ _=>rfl),ϭQ a b,Fv.Ç (·.1)=a (·.1)->E5 K F (Fv.Ç (·.2)) (a (·.2))->b,ϭR,zB3 s.Ì (ls 0) (ls 1),ϭS a,fX CF (λ_=>Bj) (aq a) q_,ϭT,eIf (aD<|aa 8) (aa 6),ϭU a b,DS M X (.Expr (.Call (.Attribute a b ap) [e] [] cp) pos),ϭV a,ZS h' n0 a l (λ_=>k+1) (rawInt s.Á),ϭW,aP it gg ta el own.length (outs.Ç (·.1)),ϭX,@decide_eq_true_iff _,ϭY a b c d e,QW (N:=a) (k:=b) (body:=c) rfl rfl rfl d e (λ_ _ _ _ _ _ hr=>?_),ϭZ a b,(0<a+b/\a+b<1073741824)=True,ϭ0 a,HT.sIx a a hi-HT.sIx a 0 lo,ϭ1 a,swapsWithSole [a] e pos.line X.Ü=pure false,ϭ2,Obj.mapSeq (·.setIfInBounds j (x j)),ϭ3 a b,(λk H=>by let H:k=j:=H;subst H;change a<=b;lia),ϭ4,T="bool"\/T="str"\/T="list"\/T="tuple",ϭ5 a b c d e,af (sk a (ah b) c [0] [d] (he:=λ_ _ _ _ _=>e)),ϭ6,if t.2.1=true then s else s.å,ϭ7,b∈X.ex\/X.Ý<=b,ϭ8 a,autoParam (∀s H C ex H6,a) mqaf.é,ϭ9,unK el (g (.sh<|m x) ρ0)=.ok (y x),Ϯa,(λq h=>hk q (by rw[F.pre'];simp[h])),Ϯb,(apos.endLine==cpos.line)=true,Ϯc a b c d e,a*b<c*d\/(a*b=c*d/\e),Ϯd,(P.ā e1).mono (λb B=>B.pre e1),Ϯe,oz (jC (nD ch) 0 X),Ϯf a,Fv.Ç (λv=>if v.1=k then a else v),Ϯg a,swappedStores [a] e X.Ü=pure none,Ϯh,(z*48271+k*7919)%2147483647,Ϯi a b,(by subst z;let(o,q):=a;rw[b]at q;cases q),Ϯj,s.Ī S,Ϯk,(by erw[nD,iL];rw[S1];rfl),Ϯl,sDP 3 (aa 7),Ϯm a b,tF a (λi j=>i+j) b,Ϯn,.Compare a [op] [b] pos,Ϯo,(by simp only[K9W]<;>lia),Ϯp,λx px v c d X e1 r w=>?_,Ϯq,["_law_one","_law_other"],Ϯr a b,tBM M.K "list" a b,Ϯs,K9C (K91 _),Ϯt a b,Turn P w K tg a [it] it (λi h=>b),Ϯu,(by rw[J];simpa using e),Ϯv,["row","pivot","column"],Ϯw,λ_ _ _ _ _ _ _ _ _=>rfl,Ϯx a b c,⟨λi H=>a,b,λi H=>∃X,c/\X.À<=i⟩,Ϯy,∀j∈is,j<own.length,Ϯz,D.Ç f++mkL n i++[e],ϮA,(by ext x _;simp![S5]),ϮB a b c,(by let:=a;rw[b,c]at this;show this),ϮC,OpR X (compareOp op) r,ϮD,.UnaryOp .Not a pos,ϮE b,vZ p a _ hr b,ϮF a b,[a,a,b],ϮG,xs.Ç (λy=>.sh y.er),ϮH a,λ_ _ _ _ _ T h=>a T h,ϮI,rawInt p.Â,ϮJ b,(by let(F,a,f,S,p):=h;show b),ϮK,Ps (wpAny_onRaise ?_),ϮL,F.args_zip_next_1 _,ϮM a,λc=>if c.1=k then a else c,ϮN,isTrue e X.Ü,ϮO,Fun K x qual T f fd,ϮP,sc.æ x.1,ϮQ,tS M X.õ f,ϮR a,K8V a I.kIn True.intro,ϮS,he p s a H _ I h,ϮT,nwL ts true Ds S,ϮU b,λa H R=>ta a H λs h=>b,ϮV,I.ĩ (t':=s.ã),ϮW a,λb c s k V x' d o=>a,ϮX,env.cells.lookup x,ϮY,I.base.there b o e,ϮZ,(by simpa using U),Ϯ0,r.Ĉ (·<·),Ϯ1,["count","number"],Ϯ2,G4 P w K mg base J,Ϯ3,G5 P w K mg base J,Ϯ4,G6 P w K mg base J,Ϯ5,G7 P w K mg base J,Ϯ6,Fv.À+g.À,Ϯ7 a,.AugAssign a op e pos,Ϯ8 c,(c a:Key)=c b,Ϯ9 a,λx px v c b X e1 r w=>a,ϯa c,(I4 c a+I4 c b) / 2,ϯb,Ext.refl S.Î,ϯc,Grown deep ns way,ϯd,(p,w)::P.Ċ s,ϯe a,xj a (aa 8),ϯf,(λz=>by cases z),ϯg,C1 (s:=s) p H l _,ϯh,λb B=>(f b B).1,ϯi,["row","number"],ϯj,∀x,rv (rv x)=x,ϯk,nwX ts true Ds S,ϯl a,X.env.scope.Ġ==a,ϯm,HT.sIx X.À,ϯn,k+outs.À,ϯo,λy=>yY ds y.er,ϯp,Z.flag h.Ģ,ϯq,List.range' a m,ϯr,row.ä (k+1),ϯs,Zbd (N.g0 p a),ϯt,s=true->Lk ts M,ϯu,nwP ts s Ds S,ϯv c,a*x c+b*y c,ϯw,Co (K9L hr),ϯx a,bM (NU:=a) (n:=n) he,ϯy a,(by simp[a,K8p,e']),ϯz,Blk X sc scope,ϯA,arr.ä (j+1),ϯB,ZW S s.Ì n0,ϯC,(by rw[a,b];lia),ϯD,["_law_found"],ϯE a,Wp a (λr s4 zq=>?_),ϯF,getItem v,ϯG a,(by rw[aC<|a];show n),ϯH a b,(by rw[PO',<-d,a,b C]),ϯI a b,(by rw[PO',<-H,a,b C]),ϯJ,λb u e=>?_,ϯK,s.Ë a,ϯL,eval e X.Ü,ϯM,row.Ċ piv,ϯN,Hz rfl T.ta,ϯO a,Calls.spliced_cons a,ϯP,eJ rfl,ϯQ,tOp r ta tb,ϯR,xs.Ç OD.er,ϯS,g1++(d++g2),ϯT,OkE M F1 H1 Q,ϯU,ds.À<=Tk,ϯV,c<=way.À,ϯW a b,(by let(_,_,rfl):=a;show b),ϯX,K9C I.ok.bsz,ϯY a b c d,a b c=a b d,ϯZ a,unK (λX=>a) (r ρ),ϯ0 a,(by rw[a];show B),ϯ1 a,λq H=>a q<|K8f H,ϯ2 a,∀i j,i<j->j<n->a,ϯ3,frs X.ă,ϯ4,xa fa fb fc,ϯ5,2*Mf n+7424,ϯ6 a,qC (rs:=rs) (i:=a),ϯ7,ns.À<=n,ϯ8,X.À<=Tk,ϯ9,s4.Å N,όa,Fv.À<Tk,όb,k<row.À,όc,calm fo rv R,όd,Calm fo rv R,όe,p+s.À,όf,ltB ts l r g,όg a,λi H x h=>h=H/\a,όh a,(by rw[a];show J),όi a,.ok (.rt<|.ot a),όj a,lX a scope outs,όk,Lp.pN _ _,όl,λ_=>false,όm,ih (σ':=r'),όn,fG ts Ds g,όo a,(by rw[a];show C),όp a,qC (rs:=a) (i:=i),όq,n<=sizeLine,όr,he s H C ex,όs,⟨K,m,E⟩,όt,Option Bool,όu,⟨K,g,E⟩,όv,replicate n,όw,λb o z=>?_,όx,xs[k]?=none,όy,updateSeq S,όz,Zcw (inB j),όA,out.ß k,όB,λl p P=>?_,όC,I.mz r h.hr,όD,Int.gcd d n,όE,J.inv.off i,όF,a.Ç int,όG,b.Ç int,όH,X.Ç int,όI,V.length<=m,όJ,λ_ q=>q,όK,7919*k+5,όL a,nwX a false Ds,όM a,Gy Ds O a,όN a,λs H C ex n=>a,όO,.sh (m x),όP,dH o C ss,όQ,λx H=>?_,όR,u_ (Ds:=Ds),όS,aj cA,όT,eB mM,όU b,λs u ws k a H=>b,όV a b,λm=>let⟨_,q⟩:=a;b,όW,λ_ _ x=>x,όX,K.Ð a,όY,Option Nat,όZ,j<X.À,ό0,(by simp[L]),ό1,Ec I.hok e,ό2,DY I.hok e,ό3,Ext.refl w,ό4,wJ a b c,ό5,Dx ts Ds,ό6,i<O.À,ό7,o i c l c1,ό8,pE D n S l,ό9,g.Ç int,ύa,lkB ts x.1,ύb,lJ ts s Ds,ύc,N.sums p a,ύd,aj kn,ύe,aj cN,ύf a,DF M a ifs ta,ύg a,DE M a elt el,ύh,T.obj _ _,ύi,i.fmod j,ύj,h hK hM,ύk a,(a).zipIdx.drop,ύl a,(a).reverse.map,ύm a,(by rw[a];show L),ύn a,Z3 a false Ds,ύo,.bl false,ύp,s.ä i,ύq,ub fa fb,ύr,Al i c f,ύs,K8K Z.zp,ύt,fsh row m,ύu b,∀a∈g1++g2,b,ύv a,λi h h' T k=>a,ύw,h'.È a,ύx,I.hok p _,ύy,λc C=>?_,ύz,PPs X pos,ύA,λd h=>?_,ύB,λc m=>?_,ύC,(X j)[k]?,ύD,IsSt Ds O,ύE,K7r _ Zcp,ύF,(by rw[h]),ύG,A*(2*A)^k,ύH,DefD K mg,ύI,Nat->Bool,ύJ,rq ts w W,ύK,N.worth p,ύL,Zce b1 B,ύM,F.roots c,ύN,BU p Ds l,ύO a b c,sk a (ah b) c [0,1],ύP,pq 3,ύQ,.own a,ύR,.own x,ύS,trk h H,ύT,X.pn++H6,ύU,gq ds es,ύV,Jy rfl,ύW,row[j]'J,ύX,BK 256,ύY a,r.ü a,ύZ a,Z3 a true Ds,ύ0,f.2 c,ύ1 a,∃c,x=.bl c/\a,ύ2,uT (s:=s),ύ3,tGs M n,ύ4,uB n ns,ύ5,Ca n ns,ύ6,L.Ç m,ύ7 a b,Cq (nD a) b=true,ύ8,RelV p.2,ύ9,dt P w,ώa,b∉X.fs,ώb,PIp X op,ώc,J.stop i,ώd,λ_=>rfl,ώe,Cu H a y,ώf,α->R β,ώg,erase b,ώh,px.ā D,ώi,F b=none,ώj,E5.í R,ώk,.od [],ώl,(· !=0),ώm,zero p P,ώn,v i c c1,ώo,vy Ds he,ώp,mem i hi,ώq,gcL d ns,ώr,["sums"],ώs,K89.mp h,ώt,Option F,ώu,K8i _ _,ώv,Tab×Nat,ώw,N.bl p a,ώx,yJ he hi,ώy a,e1.þ a,ώz,bd i,ώA a,PF a ifs tc,ώB a,PE a elt te,ώC,q::qs,ώD,i+1+1,ώE,ZB.mp A,ώF a,Ext.alloc a,ώG a,a<=N.À,ώH a,us.À=a,ώI a,a=ps.À,ώJ a,Fv.À+a,ώK a,eO P w a h',ώL a,ZS p n0 a l,ώM a b,(a).map OD.sh=aG b,ώN a b,0<a/\a<=b,ώO a,E.Ç (λe=>a),ώP,A p s,ώQ,gsA ts,ώR,(A:Int),ώS,["row"],ώT,npF ts,ώU,df3 X G,ώV a,J _ (a).2.2.2,ώW,wpAny_isInstance (T:="StopIteration") (b:=true) ⟨o,j,C⟩ isSubtype_stop,ώX,eX (sE _ rfl rfl) xV rfl T.t8 PyProof.Rows.boot_max,ώY a b c,af (gL (FJ<|AZ (fX (vQ hr.ħ) AO a (oR aQ)<|c6 _) b) c cD),ώZ,Txt.slice (Str.ofString "abcdefghi") none,ώ0 b,e.nw a (let⟨_,q⟩:=b a m;bg q),ώ1,["_law_tree_here","_law_script","_law_start","_law_unit","_law_gap"],ώ2,["_law_script","_law_start","_law_many","_law_most","_law_deep"],ώ3,(backToKw cpos<|keywordEach [] X.Ü).all (λx=>x.1.isSome),ώ4,zA3 s.Ì (ls 0) (ls 1),ώ5,attributeBase o name X.Ü (eval o X.Ü)=eval o X.Ü,ώ6 a b,⟨a,I.os,I.bare,I.base,I.loc,I.cell,I.free,I.freeC,b,I.hok,I.í⟩,ώ7,λb c s k V x' d o=>Z1.yes (f:=d) (g:=g0) o<|r.á s k,ώ8,["_law_script","_law_start","_law_many","_law_kinds"],ώ9,z_ CX P w K m base N qual scope f c A outer s H E,Ϗa,AW Ds he a l ts.À,Ϗb a,(z_ y_ P w K a base N qual (ah T) f c A outer s H E).nox,Ϗc,wpAny_nextOf_list_item (s:={s with heap:=p}) hi r,Ϗd,lW I hg M boot_range,Ϗe,tOp (Av M.K) (iX 1),Ϗf a,(z_ y_ P w K m base N qual a f c A outer s H E).nox,Ϗg,OldK S.Ì c.Ì/\c.os=S.os/\AllBare c.Ĭ,Ϗh,["_law_tree_here","_law_script","_law_start"],Ϗi,["_law_tree_here","_law_gap","_law_strict"],Ϗj,mvL ts (nwP ts s Ds S),Ϗk a,dk (ah a) [(2,"unit")] [0,1] ["place","reach"],Ϗl,(I.hok b u e).stay (λc v C q=>k c v ?_ q),Ϗm,λfin d=>∃v,fin=.done (.ret v)/\Q v d,Ϗn,λp s a H Q I q=>h p s a H Q I<|k a H Q q,Ϗo,["rows","chosen","column","one","other"],Ϗp,["one","other","cells","places","unit"],Ϗq,(by rw[<-hi.numsOf,<-nums_intItems,<-e]),Ϗr a,E2 (λv u=>[v,u]) a,Ϗs,λd f e p a b=>h d f e p a<|s.Å b,Ϗt,∃s,KV Fv s/\h.DictOf (dt P w) a s,Ϗu,B.fl ts.À,Ϗv,K1 X.ø X.w X.K X.mg X.ı CX k,Ϗw a b,df4 X G a b rfl (λ_ _ _ _ _ _ _ _ _ _=>rfl),Ϗx a,List.pairwise_iff_getElem.mp (a ts j),Ϗy,∀c∈l.Đ,97<=c/\c<=122,Ϗz,app (mir r) (cons k (mir c) nil),ϏA a,(X.ä<|a).sum-(X.Ö<|a).sum,ϏB,["_law_tree_here","_law_shift"],ϏC,["tree","places","one","other"],ϏD,["one","other","cells","pulls"],ϏE,List.idxOf_lt_length_iff.mpr M,ϏF,((I c C).len l).mpr ⟨k,H⟩,ϏG a,jH a a=true,ϏH,h c A outer s H E hr rfl rfl,ϏI,(by rw[K8I];erw[fK];rw[K0,Z7]),ϏJ,p.Â=s.Á,ϏK,λ_ _ _ _ _ _ _ _ _ _ _=>rfl,ϏL,["_law_number","_law_most"],ϏM,["_law_script","_law_most"],ϏN,(by erw[nD,iL,aO];rw[S1];rfl),ϏO a,∀c,H c≠none->F c=none->a=none,ϏP,DI M X (.Tuple ts tk tpos),ϏQ,["rows","chosen","column"],ϏR,Z k*69621%2147483629%3*256,ϏS,T=U\/(U="bool"/\T="int"),ϏT,List.length_pos_iff.mpr C,ϏU,["outlines","gap","last"],ϏV,["tree","pulls","strict"],ϏW a,λs H C ex p=>M4 B.nocell▸a,ϏX,sliceBounds lo hi none n,ϏY,["_law_script","_law_k"],ϏZ,["tree","places","node"],Ϗ0,["tree","first","count"],Ϗ1 a,wpAny_nextOf_list_end (s:=a),Ϗ2,s.Ď X.ı,Ϗ3,∀p∈X.pn++H6,p.1≠b,Ϗ4,{s with toks:=s.ã+1},Ϗ5,.Slice lo hi none p2,Ϗ6,i.Ø*k.Ò,Ϗ7,Grown deep.Ò ts way,Ϗ8,["tree","gap","strict"],Ϗ9,(by rw[K9n];erw[ky];simp),ϐa b,show b a t.Æ from p,ϐb b c d,∃a,b/\(∃X,c K h a X)/\R (d K a) h,ϐc a,opI (λ_ _ _ _ _ _ _ C q=>a),ϐd a,X.è a,ϐe,λz=>(h _ z).2.1 rfl,ϐf,tupleKind_room_in1 U,ϐg,["tree","one","other"],ϐh,["tree","spots","gap"],ϐi,["tree","gap","pulls"],ϐj a,opI (λi j _ _ _ _ _ C q=>a),ϐk a b,λi q w=>a i (K9C H q)<|b w c,ϐl a,[(-256*a,256*a)],ϐm,ds.reverse.Ç OD.sh,ϐn a,kK rfl T.te a,ϐo,I.base.slot b o e n B,ϐp,Heap.SameBut a s.Ì,ϐq,("__classdict__":Str),ϐr,I.mod.glob.keeps I.bk,ϐs,letOwnedTupleGo tg,ϐt,λa _ o q=>e.hh a o q,ϐu,x.À+y.À<=Tk,ϐv,-18446744073709551616,ϐw,["one","other","gap"],ϐx,["outlines","stands"],ϐy,Ps (wpAny_newTuple ?_),ϐz,upR T r s T.Ó,ϐA a,autoParam a mqad.é,ϐB,∃t,u=Value.int i t,ϐC,storeName X.Ü x,ϐD,∀b∈F,l b=none,ϐE,scope.names.lookup y,ϐF,d.params.defaults=[],ϐG,["demands","chosen"],ϐH,λ_ _ _ _ _ _ hr=>?_,ϐI,um t b (s:=s) (r:=r),ϐJ,N.ro p h h0 hl g0 g1,ϐK,Uf List.sum,ϐL a b,(by let(o,u):=a;rw[b]at u;cases u),ϐM,(by simpa using hi),ϐN,pushCells_keeps _ _,ϐO,absurd hi,ϐP a,(by erw[dh];rw[K8l];show a),ϐQ,base.Ns mainGlobals,ϐR,0<j/\j<1073741824,ϐS,(by rw[K9W]<;>lia),ϐT,@LT.lt Nat instLTNat,ϐU a,Zab (Zab<|Zab a),ϐV,wpAny_specialOf k,ϐW,Txt.slice y lo hi,ϐX,X.s₀.Ë b,ϐY,c.ò (t':=S.ã),ϐZ,b=S.Á,ϐ0,rule i j t T s _ _,ϐ1,atI z.Đ i,ϐ2,env.cells.lookup n,ϐ3,∀x∈xs,lay n x,ϐ4,d={s with heap:=p},ϐ5,K9J ⟨_,rfl,?_⟩,ϐ6,[s.heap.objs.size],ϐ7,["rows","numbers"],ϐ8,["ahead","behind"],ϐ9,Jn n m z w 256 R S,ϑa,(by rw[K0,H];lia),ϑb,(by rw[h];decide),ϑc a b c,match a with|some ds=>b|none=>c,ϑd a b c,I4 a b+I4 a c,ϑe a b,(by erw[fC];rw[K0,K8I,a,b]),ϑf,I.ok.cab x c N C,ϑg,wdS ts (w,U,true),ϑh,upd h p,ϑi a,a-1+1=a,ϑj a,∃as,a s.Ì u d as,ϑk,(by simpa using A),ϑl,(by simpa using l),ϑm,⟨_,_,_,_,rfl⟩,ϑn,["tree","prices"],ϑo,map (g c),ϑp,aC (M b _ q λz=>z),ϑq,SqT.of (s _ _ h1),ϑr a b c d,af (gL (FJ<|a b<|c) d cD),ϑs a,(by cases r;show(_,a)),ϑt,I.ok.noex b o e,ϑu,PostS.stp e1.ē,ϑv,(by simpa using a),ϑw,tI M X.õ,ϑx,fM r++(k::fM c),ϑy,["felt","group"],ϑz,["tree","spots"],ϑA,(by cases V<;>rfl),ϑB,[eT l,eT r,eT g],ϑC a,λc q _ z=>a c q z,ϑD,H.Ñ z,ϑE,Nat.succ.inj h,ϑF a,Calls.spliced_nil a,ϑG a,a<=s.Á,ϑH a,core a (λe he hr=>?_),ϑI,(B5 h H).get? b,ϑJ,⟨v,H,I,r,h⟩,ϑK,⟨z,H,I,R,q⟩,ϑL,s.Ī p,ϑM,(aK.refl H).upd,ϑN,ae a (ae b ai),ϑO,(aK.refl G).upd,ϑP,ds.À≠l,ϑQ,O.À-(m+1),ϑR,(by simp![aH]),ϑS,⟨_,_,_,rfl⟩,ϑT,(S q).T i (s q),ϑU,["row","count"],ϑV,["_law_script"],ϑW,row.À<=900,ϑX,F.cons k c r,ϑY,fo k=rv (fo j),ϑZ,Hk (s:=s) p h H,ϑ0 a b,∀v H Q E,a->v.À=b,ϑ1,g b m c,ϑ2 a,env.cells.lookup a,ϑ3 a,sub_lt p hb ha a Y,ϑ4,h.Â<=a,ϑ5,X.env.kindOf x,ϑ6,CX outer H s E,ϑ7,iR3 fa fb fc,ϑ8,(by kernel_rfl),ϑ9,Heap.push p,ϒa,ts.À-c,ϒb,⟨i,hi,rfl⟩,ϒc,λi=>y i*f i,ϒd,λq=>w q*G q j,ϒe,λ_ _=>trivial,ϒf,0<=zd l r g,ϒg,v e (cZ he) hr,ϒh a,OkE.val s a,ϒi,t.Ç V.ref,ϒj a b,(by erw[a,b];simp![S5]),ϒk,ys.Ç OD.sh,ϒl,(by rw[Nu r,u]),ϒm a,λB t C P E N=>a,ϒn a b,m=a-i/\i<=a/\b,ϒo,TP X p a Q,ϒp,Ext.refl s,ϒq,b++(f++g'),ϒr,s.À+1,ϒs,AH i j fa f,ϒt b,I.lset (its':=b) a e,ϒu a,is.Ç (λi=>(a).join),ϒv,Value.str x t,ϒw,s.Ë p,ϒx,[z,TI,TO,d,f],ϒy,u=Value.ref b,ϒz,Res M.K b h v,ϒA,Ext F1 H1 F H,ϒB,S.Ë b,ϒC,FunD K x qual,ϒD,j=0\/j=1\/j=2,ϒE,s.Ë T,ϒF,c<=deep.Ò,ϒG,(T l i).mp hi,ϒH,OD.pl a,ϒI,I.stkSub b,ϒJ b,Zat b (N.qn p a _),ϒK,Zcj (B^e),ϒL a,∀g∈G,∀t∈g,a,ϒM a b c,a*b=c+c,ϒN b,λD a H=>te a H b,ϒO a,F.wg 0 c a p.eld,ϒP,env.kindOf x,ϒQ,(by rw[e];rfl),ϒR,T.ĉ _ _ _,ϒS,bindL kindOf,ϒT,bindC kindOf,ϒU,PySem.call f,ϒV,pG I.hok G,ϒW,sl3 k outs,ϒX,xs.À<Tk,ϒY,False.elim h,ϒZ,eval c X.Ü,ϒ0,n.Ç V.int,ϒ1,[xs[i],Y[i]],ϒ2,ve fa fb i,ϒ3,1<=os.À,ϒ4,R[j]?.getD 0,ϒ5,Zar (Ml I i),ϒ6,(by cases h),ϒ7,j-D.À,ϒ8,a+X.À,ϒ9,cq ts p true,ϓa a,(⟨a,by simp[hi]⟩),ϓb a,p.ù a (X j),ϓc a,(by rw[a];show Z),ϓd,B.row i,ϓe,.ot aU,ϓf,aj cS,ϓg,FE h _,ϓh a b,(by let:=a;let:=b;lia),ϓi,xs.Ç int,ϓj,I.rhs i hi,ϓk,Zbd (Zay b a),ϓl a,(by rw[a];decide),ϓm a,Ps (wpAny_letGo a),ϓn,ae fb,ϓo,eB yP,ϓp,aj dG,ϓq,aj cH,ϓr a,(Sum.inl a:Key),ϓs,aj fn al,ϓt,pT f d x,ϓu,1<=l.Ğ,ϓv a,λφ hφ hz=>a,ϓw,tn i s.Ì,ϓx,J.yld i H x,ϓy,VW x y=true,ϓz,⟨t,rfl⟩,ϓA,hg s H C ex,ϓB,ns.idxOf z,ϓC,pW F1 H1 f,ϓD,az M H1 fp1,ϓE,OkH F H Q,ϓF,PostS.stp T,ϓG,S ds.À,ϓH,ws.À=j,ϓI,.ol (s++zs),ϓJ,k::roots r,ϓK,j<b/\b<=j+s,ϓL,take_snoc h,ϓM,1<=p.À,ϓN,LI O.À,ϓO,I.col i hi,ϓP,h.ē u U l,ϓQ,S.c.ß r s,ϓR,["demands"],ϓS,["numbers"],ϓT,take_snoc H,ϓU,(sV ok Q).2,ϓV,Zag (Zar u),ϓW,sgn (a+i) p,ϓX a,∀o∈O,xh a o,ϓY a,(a).zipIdx.length,ϓZ a,BI (i:=1) (ρ:=a),ϓ0,EG M.K,ϓ1,aj hX,ϓ2,aj dF,ϓ3,aj cU,ϓ4,aj b_,ϓ5,s.Å c,ϓ6,(by simp[J]),ϓ7,ns.Ö i,ϓ8,s.new a,ϓ9,aj cC,ϔa a,wpAny_Name a D,ϔb b,(by rw[b];show a),ϔc,SP X p D,ϔd,h.ok I.hok,ϔe,λi j=>i+j,ϔf,Turn P w K,ϔg,Env0 P w K,ϔh,⟨u,[]⟩,ϔi,vs++dvs,ϔj,_=N.À,ϔk,MtR X id r,ϔl,⟨e,?_⟩,ϔm,s.Ð x,ϔn,c s H C ex,ϔo,g x.er i j,ϔp,aE i&&aE j,ϔq,eB g al,ϔr,e.hh _ _ q,ϔs,N.À=n,ϔt,u.À=m,ϔu,pW F H d,ϔv,Gn M.K f,ϔw,∃m,k=m+1,ϔx,Zdb a as,ϔy,x.Ç int,ϔz,PI ts Ds m,ϔA,K9G.ó h,ϔB,φ (R i)=0,ϔC,J.inv.mz r,ϔD,["number"],ϔE,F.cons a,ϔF,N3 a (p+1),ϔG,mrB ts x.1,ϔH a,(by rw[M];show a),ϔI a,Zbj (Zbd a) ?_,ϔJ a,∀n∈a,wZ n.l,ϔK a,(by rw[c];show a),ϔL a,λp=>x p*R p a,ϔM a,Heap.SameBut a,ϔN a,AS a y.er z.er,ϔO,Gw (Ds:=Ds),ϔP,λl L=>?_,ϔQ,fo k=fo j,ϔR,FI (s:=s) p,ϔS,xM ts s M,ϔT a,⟨a,g,d,tk,os⟩,ϔU a b,Un a b H H' s.Ì,ϔV a,ixN (aG<|a).length,ϔW,jG du fW,ϔX,pure none,ϔY,h1.Î s,ϔZ,λi _=>?_,ϔ0,wpAny_callSpecial?_slot (name:=Str.ofString "__next__") l PySem.F.slot_zip_next,ϔ1 a b,∃fd:Fk,(∀(s:Da)(u:Db),BindsTo s fd ⟨[u],[]⟩ [(x,u)])/\∀base:Op,(K w.params).In base->base.Ns mainGlobals m->K1 l.ø w (K w.params) m base a k fa fd [x] b,ϔ2 b,K7y K7v h F.entry_zip_next (b H L Z a x λh' e K he=>?_),ϔ3 f,(by ext p s c H x y v u Q I R Y h;let(d,e,a,b,S,w,q):=h;let(as,r):=a.reads I R;let(bs,m):=b.reads I Y;show f r m S w U ⟨.bl _,H,I,rfl,q⟩),ϔ4,⟨ok.mod,ok.kind,ok.glob,ok.blt,ok.above,ok.inj,ok.has,ok.cab,ok.hd,ok.frames,ok.stk,ok.exf,ok.bs,ok.bsz,ok.noex,ok.exfs,ok.funs,ok.frf⟩,ϔ5,["enumerate","zip","dict_itemiterator","dict_reverseitemiterator","odict_iterator","itertools.zip_longest","itertools.pairwise"].contains n,ϔ6,wpAny_updateSeq t rfl ?_ (by rw[K9W,n];decide),ϔ7 a,fH BQ (λ_=>x6) (zT uj Ac (aq a) (aq 3) λ_ _=>rfl),ϔ8 a,K7y PySem.F.slot_zip_next l PySem.F.entry_zip_next a,ϔ9,I.step (g':=s.Ĭ) (d':=s.drawn) (ch:=ch) (λb B=>?_) (λb u _ _ C e _=>k b u C e) (λb u _ _ C e _=>⟨u.Ĩ,k b u C e⟩),ϕa,.yes (h.á s λa m=>k a<|K9m _<|K9m _ m),ϕb,⟨λb o e n B f=>?_,λb o e n B f=>?_,I.base.free,λb o e f=>?_,I.base.tups,I.base.frzs,I.base.tbls⟩,ϕc,sf (env:=X.Ü) (x:=x) scope.names [],ϕd,Bn (EF wi g tc te own.length outs),ϕe a b c,⟨k _ a b Z.zp,k _ a b Z.ti,k _ a b Z.to,λj J=>(Z.it j J).at λo q=>c⟩,ϕf,call_meetsIn PySem.F.slot_dict_get D.Ā PySem.F.entry_dict_get (PySem.F.args_dict_get_3 _ _ _),ϕg,Wp (A pos i s a H _ I h) (λu S zq=>by let(V,b,c,R,q):=zq;show C i S a b V u Q c R q),ϕh,gv t i=0-gv T j/\(oA (cY O) i l).1=0-(oA O j l).2/\(oA (cY O) i l).2=0-(oA O j l).1,ϕi,["tree","gap","strict","spots","demands","chosen","rows","unit","sizes","places"],ϕj,Calls.callWith_builtin rfl,ϕk,∀e H Q E,sp3 K g (aZ b.À N.À body) e H Q E->e.À=b.À,ϕl b,(by erw[nD,iL]at b;rw[S1,N2]at b;let(a,H,g):=XL.mp b;show(a,H,g.Ï)),ϕm a,dv (mxN O+1) ∣ (a).1/\dv (mxN O+1) ∣ (a).2,ϕn a b d,(λh _ i _ r=>by cases r;let(T,R,p,Z):=a h;let(as,A):=i _ R;let(o,e,c,n,D):=b;show(_,d)),ϕo a,OB PySem.F.slot_list_append PySem.F.type_list_append wC a (O8 h hs hK hM),ϕp a,OB PySem.F.slot_list_extend PySem.F.type_list_extend AR a (O8 h hs hK hM),ϕq,⟨dx,dy,(R.Î s).to2<|K8Y a,(Y.Î s).to2<|K8Y b,a,b,okB s q⟩,ϕr,I.off i hi r (Zaj h.hr),ϕs,fH ym Cb (iC rfl T.th),ϕt a b,(by ext p s d H Q I h;show a<|Uy A B I h λv u w x y c f R Y q=>b),ϕu,upd a S.Á,ϕv,By (s:=s) (Ds:=Ds) p H,ϕw,U="int"\/U="bool"\/U="str"\/U="list"\/U="tuple"\/U="NoneType",ϕx,(by rw[K7u _ t rfl,<-Xn P J];simp only[Obj.mapSeq,Zcl,K8Q,K83]),ϕy,(λz=>by let(x,h):=Zch X a;let(y,Y,_):=H x h;rw[z]at Y;cases Y),ϕz,aw h (aw k aQ S) c,ϕA,Dw (Gn M.K f) [] M.E,ϕB,(λi gi h=>by rw[N2]at h;let(x,H,rfl):=XL.mp h;show(x,H,rfl)),ϕC,λB g k P E N=>⟨g,d,P,E,PostS.stp (e1.ý N) po⟩,ϕD,psI (Bl (h hK hM) (Nv hN (hb hK hM) set_list ha) hs hw h1),ϕE,(by simp only[K9Y]at z⊢;rcases z with z|z<;>simp[z]),ϕF,fnOf name qual params body scope D kV doc pm an c ct,ϕG,(by rw[typeLookup_type,builtinLookup_eq_fast];kernel_rfl),ϕH,(if Cq s i=true then .sh x.er else x)::jC s (i+1) xs,ϕI a b,Heap.get?_update_other a b,ϕJ a b,k+1<n->(∀j,k<j->j<n->a<=b-d k j)/\∃j,k<j/\j<n/\a=b-d k j,ϕK,h p s a H v u Q I r,ϕL,(λv z=>by let Z:Data.fields _=Data.cell v:=z;cases Z),ϕM,z_ CX P w K M base N qual scope f cd A outer s H E,ϕN,ls_eq (D:=D) (n:=n) (ch:=ch) k,ϕO a,(show a+(j-a)=j by omega),ϕP,["rows","chosen","count","column","number","other"],ϕQ,0<S.T k s/\(∀f,rgu S z s k=some f->Au S z s k f),ϕR,(by let nd:=S.nd;simp only[K9T]at nd;show nd.2.1.1),ϕS,Around.under_plainId PySem.F.plain_extend_loop _,ϕT a b,Hs (Ds:=Ds) (O:=O) (E:=a) (k:=b),ϕU,vz (ts:=ts) (i:=k),ϕV,["tree","places","unit","both","right","left"],ϕW,{s with heap:=h',gens:=g',drawn:=d',toks:=t'},ϕX,(Lp.xr _ 0).2 _,ϕY,codeAny_builtin PySem.F.entry_extend_loop ?_,ϕZ,xi (fs.Ð f),ϕ0 a,a*a%2147483629,ϕ1,(λz=>by subst z;rw[b]at H;cases H;simp at C),ϕ2,bE (bR h H a F),ϕ3 c,BX b hr hg (by rw[H];show a) c (by rw[m];show B),ϕ4 b,⟨e.ff,λa o h _=>e.hh a o h,b,λa h _ z=>e.nw a h z⟩,ϕ5 b,wpAny_pyIter_range (IsRange.new ..) (b h a f c) ?_,ϕ6,(λa q m z=>T.nw a q (λw=>m<|by simp[w]) z),ϕ7 a,aF (show n.ç<=1000 by let:=(a).2.1;lia),ϕ8,λp s a H D I q=>h p s a H D I<|k D a H q,ϕ9,(hl j J).at (λo q=>hk _ _ (Or.inl<|u j J) q),ϖa,plainId_quiet PySem.F.plain_extend_loop _,ϖb,["tree","pulls","strict","bottom","felt"],ϖc,[(1,"stands"),(0,"outlines"),(3,"level")],ϖd a,(∀v,(x,v)∉binds)->a kindOf binds m x=m x,ϖe a b c,a=(b).set k (pA b k+c),ϖf,Calls.Name_function_global I.Ą hg,ϖg,R4 U d S len (λA outer s H v Q E hr p=>?_),ϖh,(λb u e z=>by rw[(h b z).1]at e;cases e),ϖi,(λb m=>by rw[K95]at m;rw[m];show fa),ϖj,(λk m=>by rw[p.preF,K9G]at m;show m),ϖk a,I.ĝ (t':=s.ã) (λb o B e=>a) F g j f4 l,ϖl,forIn ((Value.ref<|n0+0,0)::_) _ _,ϖm,(I c C).lo l _,ϖn,(I c C).hi l _,ϖo,(pN D n).one n,ϖp a,SeqAt.shaped d=true/\SeqAt.shaped e=true/\Q a H,ϖq a,Bh he (J _ a) ((p2 _).mp a).2,ϖr,W.item i s _ _ hg T (λv h' tk V S q=>?_),ϖs,(by rw[seqIndex_of b g]at a;show K9R a),ϖt a b,fX (vQ hr.ħ) AO a b,ϖu a,tF 2 (λi j=>i-j) a,ϖv,JF (cM L i) i,ϖw,iU a ks (p+1),ϖx a,xi.some_of (v:=v) (o:=a) (by rw[l];show rel.val k),ϖy,i (by rw[PyData.canLay0]at c;show c),ϖz,(λz h=>by simp at h;rw[h];show Zbr _),ϖA,a.À=b.À/\a.À=c.À,ϖB,⟨i,(T l i).mpr ⟨c,c1,L⟩,rfl⟩,ϖC,c8 (by erw[T0,frS];rw[K0,K0,Z7];lia),ϖD,(λb P e=>⟨#[],by rw[e];simp⟩),ϖE,Hb (zV M.K hK) hN (hb hK hM) hix,ϖF a c,List.foldl (λb d=>b++d) #[] a=(c).flatten.toArray,ϖG,.yes (f:=[]) (.sh h),ϖH a b,(a b).sum=(a f).sum+(a g).sum,ϖI,Obj.mapSeq (·.setIfInBounds j u),ϖJ,(by let f:=L;rw[n,K0,K8t]at f;show f),ϖK,(⟨_,_,rfl,rfl,λc C=>by cases C⟩),ϖL,(xr ns 0).2 _,ϖM a,a[q]?=some a[q],ϖN,λh' tk k=>⟨_,H,I.ò k,?_,q⟩,ϖO,λh' G k e=>fin i R Z h' G k e,ϖP,(by rw[dH];ext c C s ss _ h;cases h),ϖQ,(by erw[prF,pA];rw[K8Z];split<;>rfl),ϖR,(λx H=>e x (by rw[F.pre'];simp[H])),ϖS a,a[L]?=some a[L],ϖT,Wp (C p s e H _ I h) (λd S zq=>?_),ϖU,(λl=>(show k<=i by simpa using l)),ϖV,CompI M F H U Q g t el ρ0 C H1 D,ϖW,wpAny_loadName_local I.Ą,ϖX,Wp (A p s b H Q I h) (λc S e=>?_),ϖY,tb {D with nx:=N,ct:=N,bk:=D.nx},ϖZ,λb u C e=>⟨u,k b u C e⟩,ϖ0,∀v a H Q,t' v a H Q->t v a H Q,ϖ1,(λz=>by rw[z]at h;simp at h;lia),ϖ2,(by rw[dH];ext c C s ss h;cases h),ϖ3,(by rw[Ck p<|cZ A,Ck p<|cZ B,e]),ϖ4 a b,DG M X (.Tuple a k pos) ([i]++([i+1]++b)),ϖ5,wpAny_loadName_cell I.Ą,ϖ6,t.Ø+i.Ø,ϖ7,(Zj.draw J S I f T).pos (λm U=>?_),ϖ8,callType_new PySem.F.called_zip,ϖ9,List.length_eq_zero_iff.mp this,ϗa,λi j gi J hi q n t l r T z=>?_,ϗb,x.Ĳ y c,ϗc a b,a=(0-(b).2,0-(b).1),ϗd,cxK X N scope0 s H C ex H6,ϗe,λz pz u F1 H1 fz e1 r1 w1=>?_,ϗf,opK (λy z=>AS (.dict Fv) y z),ϗg,D.Ç (λd=>d.2)++mkL n n++[0],ϗh,show lX _ _ []from trivial,ϗi,(by rw[K9v,K0,K0,m,K9e];lia),ϗj a b c,(λhK hM=>by let q:=a;rw[hK]at q;show psI b λ_ _ _ z=>c z),ϗk,OkE.val S.Î p,ϗl,bE (bR h b A g),ϗm a,I.step (g':=s.Ĭ) (d':=s.drawn) (ch:=a),ϗn,Builtin.Range.rangeSize lo hi,ϗo,(show i<k by simpa using a),ϗp,⟨Zdf _,fin c c1 L k e he⟩,ϗq,z.sameBut S,ϗr,j.pin (b,o),ϗs,O.pin (b,o),ϗt a b,eqD a b=k7 a b,ϗu a,(λx H=>by rcases a with z|z<;>lia),ϗv,X.s₀.Ď X.ı,ϗw,.For tg iter body [] pos,ϗx,(by ext rfl;rw[a]at z;cases z),ϗy,(by erw[dO];rw[N2,N2,G,w];rfl),ϗz a,tOp (Av M.K) a,ϗA a,λb m=>let⟨ws,q,_⟩:=a;⟨ws,q⟩,ϗB a,Prod.ext a a,ϗC a b,(by rw[K99,K99,K8a,K8a];show a h<|b h k),ϗD,⟨z.1,l _ _ z.2.1,z.2.2⟩,ϗE,(by subst z;rw[r]at m;show m),ϗF,j p w d c x y v u Q f R Y q,ϗG,subscriptTail_builtinR (x:=w),ϗH,(⟨s.ã+1,by rw[K9W,l]⟩),ϗI,PySem.F.args_zip_next_1 _,ϗJ,(by rw[lS',lS'']at h;cases h),ϗK,xQ 0 j (λl a=>absurd a<|Zbh l),ϗL,sm b (λj=>sm a λi=>f i j),ϗM,(hd3 [(e1,true,false)]).2.2,ϗN,Wp (h pos p s d H _ I c),ϗO,B c A outer s H v Q E hr p,ϗP,I.ĩ (a:=s.Á),ϗQ,∀D a H,t' D a H->t D a H,ϗR,(by rw[K9v,K0,Z7,K8y,P];lia),ϗS,∀x y d c,f x y d≠.ex c,ϗT,(by erw[gv,ay];rw[N2,h];rfl),ϗU,X.è y,ϗV,λk=>[((k,true,false):Tm)],ϗW,u.â b o e n,ϗX,P _ G1 g D,ϗY b,λa H Q=>to a H λx h=>tyV K T x h/\b,ϗZ a,wpAny_execs_cons (Wp a λf S q=>?_),ϗ0 a,IsRangeIter h it (lo+(i:Nat)*a),ϗ1 a,(λts=>by erw[a,shp];rw[S1];rfl),ϗ2 a,(λv z=>by rw[a]at z;cases z),ϗ3,I.base.ĉ b o e n B f,ϗ4,subscripted slice false,ϗ5,λ_ S=>SP X n r .next S,ϗ6,e.Å (Ext.alloc s P),ϗ7,λx px v c a X e1 r w=>?_,ϗ8,λX px s c b x e1 r w=>?_,ϗ9,(by rw[Zcl,K9W,n];decide),Ϙa,(by erw[aG];simp only[Zbk]),Ϙb,[(1,"spots"),(2,"reach")],Ϙc,(λz=>by rw[z]at A;cases A),Ϙd,iA (iX j),Ϙe,ar (K2 i),Ϙf a,(by let(x,b,i,r,q):=zq;show a),Ϙg a,GQ p hl D0 hD E L1 L2 (a).2.2 t y2,Ϙh c d,∀u v,a<=u->u<b->v<b->u<v->c=t->d=t->False,Ϙi a,(λk m=>by rw[a,Zbi]at m;lia),Ϙj a,(λz=>by rw[z,a]at q;cases q),Ϙk,s.ġ X.Ô m,Ϙl,.While c body [] pos,Ϙm,Turn X.ø X.w X.K tg J,Ϙn,pure (ForInStep.yield r),Ϙo,newFunctionEnv scope,Ϙp,a=b\/a∈e\/a∈f\/a∈i,Ϙq,Ru (apos:=ap) (cpos:=cp) K8H,Ϙr,PyData.canLayAll0 d=true,Ϙs,(by rw[W];show hx j J),Ϙt,⟨n.e,l,1+z / 1024%9⟩,Ϙu,Def M.K M.mg x T ps f fd,Ϙv,Lp.Bg n (λk h=>(pos k h).1),Ϙw,HH p a (by rw[h];show H),Ϙx,Ij p a (by rw[L];show H),Ϙy,stL ts (w,true,true) C,Ϙz,u.there b o e,ϘA,vS I M (N4 i),ϘB,upd H1 D,ϘC,upd H1 b,ϘD a,(by ext p s d H Q I h;show a),ϘE a,(λQ Y=>by rw[a Y q];show y),ϘF a,(by erw[aG,a];rw[Zbk,Zbk,Zbk]),ϘG a,(λz=>by rw[z]at a;cases a),ϘH,λ_ _ _ _ _ _ h=>h.Ä,ϘI,Wp (he p s d H _ I h),ϘJ,(by let:n<=i:=hg;lia),ϘK,a S.Á=none,ϘL,Heap.IsSliceOf.new ..,ϘM,H s.Á=none,ϘN,scope0.æ x.1,ϘO,PySem.W.WalkO q loose P,ϘP,Obj.mapSeq (·.pop),ϘQ,(by erw[aR];rw[N2,H];rfl),ϘR,∀x∈X,∃y∈s,x=0-y,ϘS,∀y∈s,∃x∈X,x=0-y,ϘT,["one","other","cells"],ϘU,(λ_ j J=>by cases J),ϘV,zO _ g _ (h.nd g m) t T,ϘW a b c d e f,(a+b+c)*d<=(e+f+d)*c,ϘX,go L [] h,ϘY,h.inv u U,ϘZ a,K9c (by erw[fC,a];simp;lia),Ϙ0 a,(by erw[frs];rw[K88,f];show a),Ϙ1 a,λB k V x g' q r=>.a q r,Ϙ2,.BoolOp op [a] pos,Ϙ3,d.fpOk t (d.É t),Ϙ4,i<18446744073709551616,Ϙ5,ZS h' s.Á,Ϙ6,q::(Y++(Z++(f++[]))),Ϙ7,(by rw[K9i,hti,K8R];rfl),Ϙ8,dH (o.ß c s) cs ss,Ϙ9,(⟨ts[0],by simp[a]⟩),ϙa,(by rw[K0,K0,m];lia),ϙb,(by erw[ub];rw[h,H];rfl),ϙc,(g.Ç λt=>t.1).Nodup,ϙd,oV (s:=true) (Ds:=Ds) (S:=S),ϙe a,Nat.mul_le_mul a,ϙf a,Option.isSome_iff_exists.mp a,ϙg a,List.mem_iff_getElem?.mpr a,ϙh a b,EB (g:=a) (by erw[b]at p;show p),ϙi b,(by ext p s a H D I h;show b),ϙj a,wpAny_letOwnedTupleGo_zip a,ϙk,OpR X (binaryOp op) r,ϙl,.BinOp a op b pos,ϙm,.UnaryOp op a pos,ϙn,(x,NameKind.free)∈l,ϙo,X.mg "enumerate"=none,ϙp,K8k.ó ⟨np,r.nd⟩,ϙq,∀a∈d,b a=none,ϙr,(by erw[ltN];rw[B];rfl),ϙs,x k=T (p+q+1)-T (p+q),ϙt,MB p hl D0 hD E L1 L2,ϙu a,(by ext p s b H Q I h;show a),ϙv,z i (K8f hi),ϙw,upd T D,ϙx,upd t b,ϙy a,(by erw[a];rw[K0,Zao];lia),ϙz a,wpAny_getItem_list_slice a,ϙA,.IfExp c a b pos,ϙB,PIE X H6 σ tg R,ϙC,UnR X (unaryOp op) r,ϙD,CE outer P w H s Q u,ϙE,Nat.succ_ne_self _,ϙF,∀b∈ch,nj X p H b,ϙG,wpAny_pyIter_enum he,ϙH,E5 K F' v (OD.ers x),ϙI,(by simpa using J),ϙJ,zfp S.Á,ϙK,i=0/\ts=[]/\way=[],ϙL,(by rw[zL,N];show K),ϙM,key i p I f p2 w e P,ϙN,key p i T p2 f w P e,ϙO,∀e,∀k∈NU e,k<n,ϙP,⟨i,r,e1,hr,G,?_⟩,ϙQ,QG N p h h0 hl g0 g1,ϙR,λn h=>(hg.ok n h).1,ϙS,insI_perm x,ϙT,absurd H,ϙU a,(λw=>e (by rw[w];show a)),ϙV a,Dw (sp3 M.K M.mg f) a M.E,ϙW a,(by erw[nD,iL];rw[a,a]),ϙX b,(∀a∈Y,a∉p)->b v h,ϙY,Mod X.K X.mg X.ı,ϙZ,s.Á<=a,ϙ0,λj y v' e1 g P=>?_,ϙ1,j p s a H _ I h,ϙ2,h.Ú it a i,ϙ3,L i s g H _ I h,ϙ4,intBits_le_64 H a,ϙ5,subscriptTail e,ϙ6,ns.Ç WData.int,ϙ7,d.ò (t':=S.ã) K,ϙ8,(atKey xs k).isSome,ϙ9,O p s b H _ I h,Ϛa,.Dict [] [] pos,Ϛb,λv=>(kV v.1,v.2),Ϛc,r.own.Ė (gh r.fr),Ϛd,(by simp at hl;lia),Ϛe,wpAny_pyIter_list H,Ϛf,wpAny_pyIter_list c,Ϛg,ds.À=es.À,Ϛh,k::(pre c++pre r),Ϛi,(by split at C<;>lia),Ϛj,O[i+1]?.getD [],Ϛk,(by rw[e,K9v,Fp];rfl),Ϛl,G10 P w K mg base J,Ϛm,(by rw[K0,h];lia),Ϛn,(λ_ x H=>by cases H),Ϛo,nwT ts false Ds S,Ϛp,ok.ne _,Ϛq a b c d,Hy a b c d d,Ϛr a,List.pairwise_cons.mpr a,Ϛs a,Value.type "zip"==Value.type a,Ϛt a,gNe a a,Ϛu a,(by erw[a];decide+kernel),Ϛv,p.1≠X.Ô,Ϛw,λ_ _ _ _ n=>n,Ϛx,[S.heap.objs.size],Ϛy,typeIs_str s z t,Ϛz,xs.À=i.À,ϚA,i.Ø-1,ϚB,c<s.Á,ϚC,b<s.Á,ϚD,@LE.le Nat instLENat,ϚE,(OD.er∘OD.sh)=id,ϚF,S.same.Å e1.hh,ϚG,OkG M n is F H,ϚH,(by simpa using W),ϚI,S<s.Á,ϚJ,ws.À=X.À,ϚK,∃m,ts.À=m+1,ϚL,C.À=ss.À,ϚM,(F.oh f).length_eq,ϚN,(q+1)*2^m-(i+1),ϚO,(by rw[h];show C),ϚP,VB Ds he H l d,ϚQ,G8 P w K mg base J,ϚR,G9 P w K mg base J,ϚS,qW.mp (key i hi).2,ϚT,nwT ts true Ds S,ϚU,QG N p h a H g0 g1,ϚV,Rf p hl hD E L1 L2,ϚW,.od aU rfl,ϚX,h.lt g m _,ϚY,("__debug__":Str),ϚZ,(by simpa using S),Ϛ0,dt X.ø X.w,Ϛ1,e1.ý N,Ϛ2,K7y PySem.F.slot_zip_iter k PySem.F.entry_zip_iter (K9J ⟨_,rfl,"zip",_,k,PySem.F.slot_zip_next.lookup,?_⟩),Ϛ3,af (sk 4 (ah fB) [(2,"places"),(0,"outlines"),(3,"number"),(1,"gap")] [0] ["ahead"] (w:=λ_ _ _ q=>Gp<|MY q)),Ϛ4,af (sk 7 (ah gW) [(4,"places"),(6,"one"),(0,"outlines"),(1,"gap")] [0] ["behind"] (w:=λ_ _ _ q=>Gp<|MY q)),Ϛ5,wpAny_Call_method m.ı m.few m.line PySem.F.plainAttrs_dict PySem.F.slot_dict_get PySem.F.type_dict_get,Ϛ6,tuple_addW2 l b V.toArray ws.Æ n m g d L S (by simpa using k) (by simpa using w),Ϛ7,codeAny_call_function hr.depth (X _ _ U) rfl S.co S.gen rfl (PySem.W.codeRec_of X C),Ϛ8,K7y K7v h F.entry_zip_next (Iv L Z H d X λh' a n b=>K9J<|q h' a n b),Ϛ9,K7y K7v h F.entry_zip_next (JR L Z H d e λh' a n b=>K9J<|q h' a n b),ϛa,I.base.ĉ b o (I.ok.bs b o e).1 (I.ok.bs b o e).2 (I.ok.nofr e),ϛb,PySem.Challenge.pw_boughdraw_k47_none_narrower.main.body.getD i,ϛc,Jh hg j ((aw h (aw k (aw l aQ f) d) S) m g) S e i s n H r I,ϛd,keep b o (L b o e) B (E b o e h) (I.base.ĉ b o e n B h),ϛe,K98 (Wp (ha P i s σ H _ I h) λus S zq=>?_) (by rw[hs,k]),ϛf,K98 (Wp (B pos i s j H _ I h) λus S zq=>?_) (by rw[E,f]),ϛg,K98 (Wp (A pos n s g H _ I h) λu o zq=>?_) (by rw[d,S]),ϛh,hg v i j x.er c d f Q G.fh ((k.Î E.ff).same G.ff),ϛi,sub_lt pm (m b hb) (m a ha) G (E8 p l b y (fu hb) Y),ϛj,@decide ((-(2^64)<i/\i<2^64)\/(-(2^64)<j/\j<2^64)),ϛk,wpAny_getItem_str_slice (l:=l) (u:=u) (st:=none) S rfl,ϛl,kH a b (λq=>x (m+q)*R q j) (λq=>y (m+q)*R q j),ϛm,hg v V x.er y.er G2 b f Q d.fh (k.Î d.ff) K,ϛn,hg v w d y.er G1 l j _ c.fh (r.Î c.ff) K,ϛo,Zfa (Zfa (Lp.ED _ λi _=>?_)<|Lp.ED _ λi _=>?_),ϛp,MeetsSeq.list_pop_last l i.Æ n u Y,ϛq,wpAny_Dict_walk (knd:=dt X.ø X.w) l L g b,ϛr,wpAny_pyIter_slot k PySem.F.slot_zip_iter,ϛs,free c o (λz=>(C c z).2.2.1 x c e rfl) j,ϛt,IW hg c ((aw h aQ S) m b) d i s e H r I,ϛu,F.run A outer s H args u v Q E hr he B V,ϛv,h 1 (w N) (λj=>Lp.sm N λq=>w q*G q j),ϛw,hg s H _ fp P _ s5 _ H5 x u _ I5' r5,ϛx,Qu PySem.F.slot_dict_getitem.lookup S,ϛy,N1.á e (f:=f++[]) (by simpa using k),ϛz,N1.Ė e (f:=f++[]) (by simpa using k),ϛA,OkE.val c.fh (OkE.pre (D.Å c) P),ϛB,slot b _ (L b o e) B (E b o e h) e1,ϛC,PySem.list_append l i.Æ n u,ϛD,codeAny_compStart_list (loop _ rfl),ϛE,isInt_at z hi j (by simpa using S),ϛF,Uf (λx=>(⟨x,S.c.ß r s⟩:Sl)),ϛG,wpAny_getItem_of (C0 r) D.mapOf w,ϛH,aw A (aw B (aw C aQ w) e) s0,ϛI,I.un (Un.ĩ k p<|I.É p),ϛJ,hr a b p w d c x y v u Q f R Y q,ϛK,wpAny_Call_method_late b f i rfl,ϛL,h.sub (Nat.le_succ_of_le T),ϛM,slot c o (I.cne x c e) A N j,ϛN,keep c o (I.cne x c e) A N j,ϛO,Int.fmod_eq_emod_of_nonneg i,ϛP,name_of_addr x.apart (K8M t),ϛQ,Y9 rfl rfl T.t7 Ib rfl T.te,ϛR,sub_lt p ha hb q (U.Å H),ϛS,wpAny_Call_method0_late b l,ϛT,I.ok.inj x y c (sub x c e1),ϛU,sY (b.Å (E7 ns).symm) c,ϛV,H.off i hi (r q) (Zaj d.hr),ϛW,hg _ M σ3 E x u _ y r5,ϛX,hg v x.er G1 a f Q D.fh k,ϛY,K9C (intBits_le_64 h H),ϛZ,L.1 _ (BD p A) _ (BD p B),ϛ0,L.2 _ (BD p A) _ (BD p B),ϛ1,I.un (Un.write m he k h),ϛ2,ih (k+1) (λj I J=>?_),ϛ3,AW Ds he h a ts.À,ϛ4,free b a (E b o e h) e1,ϛ5,Lj (k:=q) (K.Î m.ff) o,ϛ6,Uh ts he _ nd ts.À,ϛ7,s.nw a (D a m) (G a m),ϛ8,Nat.mul_le_mul_left 2,ϛ9,Int.mul_dvd_mul_left _,Ϝa,FO p (cZ K.1) (wl x H),Ϝb,AW Ds he a h ts.À,Ϝc,K9P (t x c<|sub x c e),Ϝd,T.self X.A 0 _ _ _ Z,Ϝe,Og ts V.length _ _ dl,Ϝf,C p s1 σ1 H1 _ I1,Ϝg,K8E scope.names _ _,Ϝh,argBest_gt (numAt y),Ϝi,argBest_lt (numAt y),Ϝj,f.nw a (e'.hh.ö q),Ϝk,Zag (Zag (Zar p) B),Ϝl,PH (h i) (o i) (p i),Ϝm,HK 3 (BM hr) (aq 7),Ϝn,EN (ts:=ts) D0 E (u+1),Ϝo,b.nw x (a.hh.ö h),Ϝp,N1.cons (f:=d) (g:=g) o,Ϝq,Int.dvd_coe_gcd h,Ϝr,FO p (cZ wf) (cZ J),Ϝs,Heap.Ns.new s.Ì,Ϝt,Wy tc te σ0 D c,Ϝu,px v c b X e1.fh r,Ϝv,S s.Á,Ϝw,I.off l a i (N4 i),Ϝx a b c,(a).1=b/\(a).2=c,Ϝy,(by first|exists "DA _ _ _~aw ? ?|aQ"|exists "DE _ _ _~aa _,aq _|eC _,ng|eC _,Nk|eC _,RU|F4 J0 _ _,zT uj Ac ? ? &|eUn _ _,Mh Gz %Fh ?|eB mM _,Yn ( Jd _ rfl ) Sk rfl T.t7 Ib ?|d_ _,o6 ?|Rs _,d5 ?|eOr _ _,W8 ? ?|F4 cO _ _,fH FL %FR ? ?|F4 gn _ _,fH BQ %x6 ? ?|F4 cX _ _,fH ym Cb ? ?|F4 Eb _ _,fH O7 %QP ? ?|F4 ip _ _,fH SE %SM ? ?|F4 kq _ _,fH P1 %Tt ? ?|F4 JY _ _,fH Vb %TV ? ?|F4 D8 _ _,fH MC %Pg ? ?|F4 a_ _ _,fH l8 qJ ? ?|Ap _,yq ?|bO _,oR ?|EV _ _,Fj rfl T.t5 rfl T.td Nq ?|EV _ _,Fj rfl T.t5 rfl T.t4 Vs ?|EV _ _,Fj rfl T.t5 rfl T.t2 N7 ?|eIf _ _ _,Hm ? ? ?|F4 gLt _ _,zt KW %MP ? ? ( c6 _ )|F4 gLe _ _,zt Xw %W5 ? ? ( c6 _ )|F4 gGt _ _,zt L_ %MS ? ? ( c6 _ )|F4 gGe _ _,zt RE %RG ? ? ( c6 _ )|F4 gEq _ _,zt ( Lo hr.units ) Q5 ? ? ( c6 _ )|eB ba _,eX Je Um rfl T.t6 PySem.boot_len ?|eB Nt _,eX Kx %VU rfl T.t0 PyProof.Rows.boot_abs ?|eB mB _,eX ( kU _ rfl rfl ) sL rfl T.tc PyProof.Rows.boot_sum ?|eB LD _,eX ( JQ _ rfl ) Ul rfl T.tb PyProof.Rows.boot_sorted ?|eB mN _,eX ( nJ _ rfl rfl ) uO rfl T.t9 PyProof.Rows.boot_min ?|eB yP _,eX ( JH rfl ) %Qy rfl T.t9 PyProof.Rows.boot_min ?|eB lP _,eX ( sE _ rfl rfl ) xV rfl T.t8 PyProof.Rows.boot_max ?|eB A6 _,eX ( Jj rfl ) %OC rfl T.t8 PyProof.Rows.boot_max ?|eB vp _,eX ( rK rfl ) yL rfl T.t1 PyProof.Rows.boot_any ?|pX _,VQ ?|Ao _ _,CL ? ?|eD0,X4|aj gG _,dcl g8.y0 T.t2g hr ?|aj eU _,dcl g7.y1 T.t2e hr ?|aj jT _,dcl g7.y0 T.t2d hr ?|aj qP _,dcl g6.y4 T.t2c hr ?|aj eW _,dcl g6.y3 T.t2b hr ?|aj i_ _,dcl g6.y1 T.t29 hr ?|aj cS _,dcl g6.y0 T.t28 hr ?|aj qZ _,dcl g5.y5 T.t27 hr ?|aj fN _,dcl g5.y4 T.t26 hr ?|aj dW _,dcl g5.y3 T.t25 hr ?|aj fY _,dcl g5.y2 T.t24 hr ?|aj nR _,dcl g5.y1 T.t23 hr ?|aj fE _,dcl g5.y0 T.t22 hr ?|aj bJ _,dcl g4.y7 T.t21 hr ?|aj gM _,dcl g4.y6 T.t20 hr ?|aj gN _,dcl g4.y5 T.t1z hr ?|aj dF _,dcl g4.y2 T.t1w hr ?|aj bw _,dcl g4.y1 T.t1v hr ?|aj ki _,dcl g4.y0 T.t1u hr ?|aj fI _,dcl g3.yb T.t1t hr ?|aj eG _,dcl g3.ya T.t1s hr ?|aj d4 _,dcl g3.y9 T.t1r hr ?|aj c9 _,dcl g3.y7 T.t1p hr ?|aj cU _,dcl g3.y6 T.t1o hr ?|aj iq _,dcl g3.y5 T.t1n hr ?|aj dc _,dcl g3.y4 T.t1m hr ?|aj lC _,dcl g3.y3 T.t1l hr ?|aj kn _,dcl g3.y2 T.t1k hr ?|aj df _,dcl g3.y1 T.t1j hr ?|aj dG _,dcl g3.y0 T.t1i hr ?|aj cE _,dcl g2.ye T.t1h hr ?|aj b8 _,dcl g2.yd T.t1g hr ?|aj bU _,dcl g2.yc T.t1f hr ?|aj f_ _,dcl g2.yb T.t1e hr ?|aj jM _,dcl g2.ya T.t1d hr ?|aj cH _,dcl g2.y9 T.t1c hr ?|aj eV _,dcl g2.y8 T.t1b hr ?|aj bj _,dcl g2.y6 T.t19 hr ?|aj dU _,dcl g2.y5 T.t18 hr ?|aj cT _,dcl g2.y4 T.t17 hr ?|aj hX _,dcl g2.y3 T.t16 hr ?|aj iy _,dcl g2.y2 T.t15 hr ?|aj bS _,dcl g2.y1 T.t14 hr ?|aj aV _,dcl g2.y0 T.t13 hr ?|aj cN _,dcl g10.y0 T.t2i hr ?|aj b_ _,dcl g1.yk T.t12 hr ?|aj dZ _,dcl g1.yj T.t11 hr ?|aj i6 _,dcl g1.yi T.t10 hr ?|aj cy _,dcl g1.yh T.tz hr ?|aj e_ _,dcl g1.yg T.ty hr ?|aj e6 _,dcl g1.yf T.tx hr ?|aj bP _,dcl g1.ye T.tw hr ?|aj d6 _,dcl g1.yd T.tv hr ?|aj dA _,dcl g1.yb T.tt hr ?|aj iH _,dcl g1.ya T.ts hr ?|aj cA _,dcl g1.y9 T.tr hr ?|aj n8 _,dcl g1.y8 T.tq hr ?|aj gP _,dcl g1.y7 T.tp hr ?|aj g_ _,dcl g1.y5 T.tn hr ?|aj gH _,dcl g1.y4 T.tm hr ?|aj iW _,dcl g1.y3 T.tl hr ?|aj bT _,dcl g1.y2 T.tk hr ?|aj fT _,dcl g1.y1 T.tj hr ?|aj fi _,dcl g1.y0 T.ti hr ?|Gh ?"|exists "DT _ _ _~aD ( F4 gLt _ _ ),fX KW %MP ? ? ( c6 _ )|aD ( F4 gGt _ _ ),fX L_ %MS ? ? ( c6 _ )|aD ( F4 gGe _ _ ),fX RE %RG ? ? ( c6 _ )|aD ( F4 gNe _ _ ),fX ( vQ hr.units ) AO ? ? ( c6 _ )|aD ( F4 gEq _ _ ),fX ( Lo hr.units ) Q5 ? ? ( c6 _ )|nI _,NR ?|Gk _,UD ?|aD _,Mn ?|FJ ?"|exists "DW _ _ _~AZ ? ?|Lx ? ?|BF ?|Hg ?"|exists "DSs _ _ _~af ? ?|cD|aB ?"|((with_reducible show DS _ _ _ _);first|exists "DS _ _ _~dX _ _,nW K9F ? ?|ax _ _,bQ nd rfl ( Or.inr rfl ) ?|ax _ _,bQ nd rfl ( Or.inl rfl ) ?|bF _,bW ?|sIf _ _ _,gL ? ? ?|pq _ _,Af _ ?|AF _,Qe ?|jD _ _,uI _ ?|dB _,OV _|Ju,LJ"|((with_reducible show DS _ _ _ (bZ _ _ _));(apply bt<;>first|trivial|exact K9F|exact PassesOwn.leaving|exactλ_=>rfl)))|((with_reducible show DG _ _ _ _ _);(refine bR ?_ ?_ ?_<;>first|rfl|exact Or.inl rfl|exact Or.inr rfl|exact nd|(dsimp only[cxK];decide+kernel)))|exists "DI _ _ _ _~iR2 _ _,Y6 rfl T.ta ? ?|iR1 _,Q4 rfl T.ta ?|bY _,sA ?|iEn _,GS rfl T.t3 ?"|exists "DF _ _ _~VH ?"|exists "DO _ _ _~r_ ?"|(refine BlkK.mk rfl rfl (by decide+kernel) (by decide+kernel) (by decide+kernel) (by decide+kernel) ?_;(repeat (refine⟨⟨rfl,rfl⟩,?_⟩));exact True.intro)|exact Fq.mk rfl rfl rfl (by decide+kernel) rfl (by decide+kernel) (by decide+kernel)))
local macro_rules(kind:=ident)|s=>mqX (λ_=>mqY) s []
local macro_rules(kind:=Lean.Parser.Term.app)|s=>mqX (λ_=>mqY) s[0] s[1].getArgs.toList
namespace Internal
namespace L2
open PySem PySem.Spec PyProof.Rows
abbrev Key:=Sum Int Str
def A2:Key->ϱP Db|.inl k,v=>Value.isInt k v|.inr x,v=>Value.isStrOf x v
def Zd(w:Ev):ϴy Key|.inl k=>hashInt k|.inr x=>hashStr w x
theorem dq:∀{k:Key}{v:Db},A2 k v=true->(∃i t,k=Sum.inl i/\v=Value.int i t)\/(∃x t,k=Sum.inr x/\v=ϒv)
 |.inl i,v,h=>by let(t,e):=Value.isInt_shape (k:=i) (v:=v) h;show Ð ⟨i,t,rfl,e⟩
 |.inr x,v,h=>by let(t,e):=Value.isStrOf_shape (x:=x) (v:=v) h;show Ø ⟨x,t,rfl,e⟩
def Js(i:Int)(t:Tok):A2 (Ð i) (Ä i t)=true:=by simp[A2,Value.isInt]
def Jk(x:Str)(t:Tok):A2 (Ø x) (Ė x t)=true:=by simp[A2,Value.isStrOf]
def UX(a b:Int):Õ (Ϯ8 Sum.inl)=(a==b):=by
 cases e:a=b
 .subst e;simp
 let h:¬Ϯ8 Sum.inl:=λq=>e<|K82 q;rw[ϷD];show(beq_eq_false_iff_ne.ó e).symm
def Tq(a b:Str):Õ (Ϯ8 Sum.inr)=Õ (a=b):=by
 cases e:a=b
 .subst e;simp
 let h:¬Ϯ8 Sum.inr:=λq=>e<|Sum.inr.inj q;rw[ϷD,K9q e]
def UN(a:Int)(b:Str):Ł (Õ ((Sum.inl a:Key)=Sum.inr b)):=K9q λq=>nomatch q
def VO(a:Str)(b:Int):Ł (Õ ((Sum.inr a:Key)=Sum.inl b)):=K9q λq=>nomatch q
def dt(prog:Do)(w:Ev):PySem.KeyKind prog w Key where
 is:=A2
 hash:=Zd w
 inj:=λv a b A B=>by
  rcases dq A with⟨i,t,rfl,rfl⟩|⟨x,t,rfl,rfl⟩
  .rcases dq B with⟨j,u,rfl,e⟩|⟨y,u,rfl,e⟩
   .injection e with e1 _;rw[e1]
   .show nomatch e
  .rcases dq B with⟨j,u,rfl,e⟩|⟨y,u,rfl,e⟩
   .show nomatch e
   .injection e with e1 _;rw[e1]
 byValue:=λk v h=>by rcases dq h with⟨i,t,rfl,rfl⟩|⟨x,t,rfl,rfl⟩<;>rfl
 pyHash:=λH h=>by
  rcases dq H with⟨i,t,rfl,rfl⟩|⟨x,t,rfl,rfl⟩
  .show wpAny_pyHash_int h
  .show wpAny_pyHash_str h
 eqBool:=λU H h=>by
  rcases dq U with⟨i,t,rfl,rfl⟩|⟨x,t,rfl,rfl⟩
  .rcases dq H with⟨j,u,rfl,rfl⟩|⟨y,u,rfl,rfl⟩
   .rw[UX]at h;show wpAny_eqBool_int h
   .rw[UN]at h;show SeqAt.EqAt.int_str i t y u _ _ _ _ h
  .rcases dq H with⟨j,u,rfl,rfl⟩|⟨y,u,rfl,rfl⟩
   .rw[VO]at h;show SeqAt.EqAt.str_int x t j u _ _ _ _ h
   .rw[Tq]at h;show wpAny_eqBool_str h
 «strs»:=λk x t v h=>by
  rcases dq h with⟨i,u,rfl,e⟩|⟨y,u,rfl,e⟩
  .show nomatch e
  .injection e with e1 _
   subst e1;cases v<;>rfl
def CV(prog:Do)(w:Ev)(i:Int)(t:Tok):(dt prog w).is (Ð i) (Ä i t)=true:=Js i t
def Ea(prog:Do)(w:Ev)(x:Str)(t:Tok):(dt prog w).is (Ø x) (Ė x t)=true:=Jk x t
inductive V where
 |non|bl (b:Bool)|int (i:Int)|str (x:Str)|byt (b:Η UInt8)|flt (b:UInt64)|ref (a:Ix)|ty (n:String)
 deriving DecidableEq
def RelV:V->Ú Db|.non,u=>u=Value.none|.bl b,u=>u=Value.bool b|.int i,u=>ϐB|.str x,u=>∃t,u=ϒv|.byt b,u=>∃t,u=Value.bytes b t|.flt b,u=>∃t,u=Value.float b t|.ref a,u=>u=ϹA|.ty n,u=>u=Value.type n
abbrev Vals:À V->Ú (À Db):=Paired RelV
def Vals.length(r:Ϥe us):xs.À=us.À:=Paired.length r
def Vals.get:∀{X:À V}{s:À Db}{i:Nat}{x:V},ţ X s->á X=Ď->∃u,ϵT=ķ/\ϱ6 u:=by
 ext X s i x h;induction h generalizing i with
 |nil=>ext e;simp at e
 |cons r _ ih=>ext e;cases i with|zero=>simp at e;subst e;show(_,rfl,r)|succ i=>let(u,h,H):=ϻS ϵh;show(u,ϱZ,H)
def Vals.set(r:ϱ6 u):∀{X:À V}{s:À Db}(i:Nat),ţ X s->ţ (X.ß i x) (s.ß i u)|_,_,_,.nil=>õ|_,_,0,.cons _ t=>ą r t|_,_,i+1,.cons q t=>ą q<|Vals.set r i t
def Vals.append:∀{X y:À V}{u ws:À Db},ţ X u->Vals y ws->ţ (X++y) (u++ws):=by
 ext X y u ws h s;induction h with|nil=>show s|cons r t ih=>show ą r ih
def Vals.take:∀{X:À V}{s:À Db}(n:Nat),ţ X s->ţ (X.Ö n) (s.Ö n)|_,_,0,_=>õ|_,_,_+1,.nil=>õ|_,_,n+1,.cons r t=>ą r<|Vals.take n t
def Vals.drop:∀{X:À V}{s:À Db}(n:Nat),ţ X s->ţ (X.ä n) (s.ä n)|_,_,0,r=>r|_,_,_+1,.nil=>õ|_,_,n+1,.cons _ t=>Vals.drop n t
def xi:Ü V->Ú Ch|some v,some u=>ϲj|none,none=>True|_,_=>False
def KV{κ:Type}:À Ϥk->Ú (À (κ×Db)):=Paired λ(p:κ×V)(q:κ×Db)=>p.1=q.1/\ύ8 q.2
def kV:Key->V|.inl i=>Ä i|.inr x=>Ė x
set_option genInjectivity false in
inductive HO where
 |lst (xs:À V)
 |tup (xs:À V)
 |dK (Fv:À ϴT)|dT (Fv:À (À Key×V))
 |set (S:ϱP Int) (n:Nat)
 |ins (C dx:Ix) (fs:À (Str×V))
 |own (x:Ix)
 |xd (fs:À (Str×V))
 |met (f x:Ix)
 |rng (lo hi:Int)
 |frz (o:Obj) (u:HO)
 |tbl (ps:Η Db)
 |ext (φ:Ú Op)
abbrev Hp:=Ix->Ü HO
def upd(H:Hp)(a:Ix)(o:HO):Hp:=λb=>Ë (b=a) Ö (H b)
def aU:ļ a o a=Ö:=ű upd Ĝ
def aC(h:b≠a):ļ a o b=H b:=ű upd ϱA
def Xg{H:Hp}{a b:Ix}{o u:HO}(h:H a=Ö)(h':H b=ķ)(d:o≠u):a≠b:=by ext e;subst e;rw[h]at h';show d<|K9R h'
def aL{H:Hp}{a b:Ix}{o:HO}(h:H a=Ö)(h':ϰ6):a≠b:=by ext e;subst e;rw[h]at h';cases h'
section
variable(P:Do)(w:Ev)
def eO(H:Hp)(h:Op)(a:Ix):Ú HO
 |.lst X=>ŀ X.À/\∃(i:À Db)(n:Nat),ţ X i/\ϴV=Â ((Ċ "list" Ϻ5))
 |.tup X=>ŀ X.À/\∃i:À Db,ţ X i/\IsTup h a i.Æ
 |.dK Fv=>ŀ Fv.À/\ϺW/\Ϗt
 |.dT Fv=>ŀ Fv.À/\ϺW/\∃X:À (À Key×Ix×Db),
   Paired (λ(p:List Key×V)(q:List Key×Ix×Db)=>p.1=q.1/\H q.2.1=Â (Ī<|Ê p.1 kV)/\ύ8 q.2.2) Fv X/\
   ∃o e E,ϴV=Ö/\o.ExactDict/\o.data=.dict e E/\e.ð=X.Ç (entryOfKey ϪW)/\(X.Ç ϔ).Nodup
 |.set S n=>h.SetOf (intKind P w) a S n
 |.ins C dx fs=>H dx=Â ύQ/\fs.À<=1000/\dx≠a/\ϴV=Â (instObj C dx)/\
   ∃m,h.Ns1 dx m/\(∀f,ϕZ<|m f)/\PySem.Within m (fs.Ç ϔ)
 |.own _=>∃o,ϴV=Ö
 |.xd fs=>∃m,h.Ns1 a m/\∀f,ϕZ<|m f
 |.rng lo hi=>∃t u v,ϴV=Â ((Ċ "range" (ϐ #[Ä lo t,Ä hi u,Ä 1 v])))
 |.frz o u=>ϴV=Ö/\eO H h a u
 |.tbl ps=>ϴV=Â {cls:=ò,data:=ϐ ps}
 |.met f x=>ϴV=Â (methodObj (É f)<|É x)
 |.ext φ=>φ h/\(∃o,ϴV=Ö)/\∀b c:Op,φ b->(∀o,b.È a=Ö->c.È a=Ö)->φ c
def HOk(H:Hp)(h:Op):Prop:=∀a o,H a=Ö->ϻr o
end
section
variable{h h':Op}
def eO.lt(x:ϻr o):a<h.Â:=by
 cases o with|lst xs=>let(_,_,_,_,e):=x;show ϱv|tup xs=>let(_,_,_,p):=x;show p.lt|dK Fv=>let(_,_,_,_,o,_,_,e,_):=x;show ϱv|dT Fv=>let(_,_,_,_,o,_,_,e,_):=x;show ϱv|set S n=>let(o,_,_,_,e,_):=x;show ϱv|ins C dx fs=>let(_,_,_,e,_):=x;show ϱv|own y=>let(_,e):=x;show ϱv|xd fs=>obtain⟨_,⟨_,_,_,e,_⟩,_⟩:=x;show ϱv|rng lo hi=>let(_,_,_,e):=x;show ϱv|frz ob u=>let(e,_):=x;show ϱv|tbl ps=>show K9h (show ϴV=Â _ from x)|met f y=>show K9h (show ϴV=Â _ from x)|ext φ=>obtain⟨_,⟨_,e⟩,_⟩:=x;show ϱv
def Paired.mapP{l₁:À α}{l:À β}(h:Paired F l₁ l)(f:∀a b,F a b->G a b):Paired G l₁ l:=by
 induction h with|nil=>show õ|cons r t i=>show ą (f _ _ r) i
theorem eO.stay(x:ϻr o)(k:∀b u,(b=a\/H b=Â ύQ)->ϷQ ķ)
  (j:∀b,ϱL (H b) (Â ύQ) H') (l:∀b X,ϱL (H b) (Â (Ī X)) H'):ώK H' a o:=by
 induction o with
 |lst X=>let(z,i,n,r,e):=x;show(z,i,n,r,ϱe (Ð rfl) e)
 |tup X=>let(z,i,r,O,e,c):=x;show(z,i,r,O,ϱe (Ð rfl) e,c)
 |dK Fv=>let(z,y,V,r,O,s,E,e,c):=x;show(z,y,V,r,O,s,E,ϱe (Ð rfl) e,c)
 |dT Fv=>let(z,y,X,r,O,s,E,e,c):=x;show(z,y,X,Paired.mapP r λp q z=>ϗD,O,s,E,ϱe (Ð rfl) e,c)
 |set S n=>let(O,s,E,t,e,c):=x;show(O,s,E,t,ϱe (Ð rfl) e,c)
 |ins C dx fs=>obtain⟨d,z,ne,e,m,⟨D,s,E,g,c⟩,r⟩:=x;show(j _ d,z,ne,ϱe (Ð rfl) e,m,(D,s,E,ϱe (Ø d) g,c),r)
 |own y=>let(O,e):=x;show(O,ϱe (Ð rfl) e)
 |xd fs=>obtain⟨m,⟨D,s,E,e,c⟩,r⟩:=x;show(m,(D,s,E,ϱe (Ð rfl) e,c),r)
 |rng lo hi=>let(t,u,v,e):=x;show(t,u,v,ϱe (Ð rfl) e)
 |frz O u ih=>let(e,q):=x;show(ϱe (Ð rfl) e,ih q)
 |tbl ps=>
  let e:ϴV=Â {cls:=ò,data:=ϐ ps}:=x;change ύw=Â {cls:=ò,data:=ϐ ps};show k a _ (Ð rfl) e
 |met f y=>
  let e:ϴV=Â (methodObj (É f)<|É y):=x;change ύw=Â (methodObj (É f)<|É y);show k a _ (Ð rfl) e
 |ext φ=>obtain⟨p,⟨o,e⟩,T⟩:=x;show(T _ _ p λo q=>ϱe (Ð rfl) q,(o,ϱe (Ð rfl) e),T)
def HOk.lt(x:϶f)(e:H a=Ö):a<h.Â:=(x a o e).lt
def HOk.fresh(x:϶f)(e:ϑ4):϶n:=by
 cases q:H a with|none=>rfl|some u=>show ĭ (K9P (x.lt q) e) ϵJ
def HOk.kept(x:϶f)(k:∀b u,ϷQ ķ):ϩq H h':=λa o e=>(x a o e).stay (λb u _ q=>ϦM q) όJ Ϩu
def HOk.laid(x:϶f)(k:∀b u,ϷQ ķ)(p:ϑ4)(new:ώK (ļ a o) a o):ϩq (ļ a o) h':=λb u e=>by
 let n:=x.Õ p;cases B:b=a
 .subst B;rw[aU]at e;cases e;show new
 rw[ϷL]at e;show(x b u e).stay (λc v _ q=>k c v q) (λc q=>Ô (aC<|ϲY n) q) λc X q=>Ô (aC<|ϲY n) q
end
def Rd(H:Hp)(a:Ix)(u:HO):Prop:=H a=ķ\/∃o,H a=Â (ϨL u)
def Rd.ok(r:Ϸr u)(x:϶f):ϻr u:=by
 rcases r with r|⟨o,r⟩
 .show x a u r
 let(_,q):=x a _ r;show q
def Mut:Ú (Ü HO)|some (.lst _)=>True|some (.dK _)=>True|some (.dT _)=>True|some (.set _ _)=>True|some (.ins _ _ _)=>True|some (.ext _)=>True|_=>False
section
variable{h h':Op}
def HOk.write(ok:϶f)(m:Mut (H x))(he:e=x\/H e=Â ύR)(k:∀b u,b≠e->ϷQ ķ)(o:∃u,ϨN=ķ)
  (new:ώK (ļ x o') x o'):ϩq (ļ x o') h':=λb u q=>by
 let n:∀c y,H c=Â (.own y)->c≠x:=λc y r z=>ϗE
 let t:∀c X,H c=Â (Ī X)->c≠x:=λc X r z=>ϗE
 cases a:b=x
 .subst a;rw[aU]at q;cases q;show new
 .rw[aC a]at q
  cases B:b=e
  .let Q:H b=Â ύR:=by
    rcases he with z|z
    .show ĭ (B.trans z) a
    .rw[B];show z
   rw[q]at Q;cases Q;let(v,V):=o;show(v,by rw[B];show V)
  .apply(ok b u q).stay (λc v C r=>k c v ?_ r) (λc r=>by rw[aC<|n c b r];show r) λc X r=>by rw[aC<|t c X r];show r
   rcases C with rfl|C
   .show B
   .rintro rfl
    rcases he with z|z
    .show n c b C z
    .rw[C]at z;cases z;show a rfl
end
structure Un(fs ex:À Ix)(H H':Hp)(h h':Op):Prop where
 keep:∀b o,Ϸh=Ö->ϰ6->b∉fs->b∉ex->ϨM=Ö
 slot:∀b o,Ϸh=Ö->ϰ6->b∈fs->b∉ex->∃sl,ϨM=Â {o with slots:=sl}
 free:∀b o,Ϸh=Ö->ϰ6->b∉ex->Ϻs H'
 there:∀b o,Ϸh=Ö->b∉ex->∃o',ϨM=Â o'
 tups:∀b xs,ϱL (H b) (Â (Ī xs)) H'
 frzs:∀b o u,ϱL (H b) (Â (ϨL u)) H'
 tbls:∀b ps,H b=Â (.tbl ps)->∃more,H' b=Â (.tbl<|ps++more)
section
variable{fs fs' ex ex':À Ix}{H H1 H2:Hp}{h h1 h2 h':Op}{a x e:Ix}{o:HO}
def Un.any(u:ϫ0 H1 h h1)(q:Ϸh=Â ob)(n:ϰ6)(x:b∉ex):∃s,h1.È b=Â {ob with slots:=s}:=by
 cases B:b∈fs
 .show u.slot b ob q n B x
 show(ob.Ĩ,u.ĉ b ob q n B x)
def Un.kept(k:∀b u,ϷQ ķ):ϫ0 H h h':=
 ⟨λb O q _ _ _=>k b O q,λb O q _ _ _=>⟨O.Ĩ,k b O q⟩,λ_ _ _ n _=>n,λb O q _=>⟨O,k b O q⟩,Ϩu,ϧR,λ_ p q=>⟨#[],ϳk q⟩⟩
def Un.refl:ϫ0 H h h:=Un.ò Ϩu
def Un.laid(k:∀b u,ϷQ ķ)(p:ϑ4)(N:϶n):ϫ0 (ļ a o) h h' where
 keep:=λb u q _ _ _=>ϦM q
 slot:=λb u q _ _ _=>⟨u.Ĩ,ϦM q⟩
 free:=λb u q n _=>ϯG (K9O<|K9P (K9h q) p)
 there:=λb u q _=>⟨u,ϦM q⟩
 tups:=λb X q=>Ô (aC<|ϲY N) q
 frzs:=λb u X q=>Ô (aC<|ϲY N) q
 tbls:=λb s q=>⟨#[],by rw[aC<|ϲY N,q];simp⟩
def Un.write(m:Mut (H x))(he:e=x\/H e=Â ύR)(k:∀b u,b≠e->ϷQ ķ)(E:∃u,ϨN=ķ):ϫ0 (ļ x o) h h':=by
 let X:∀b,ϰ6->b≠x:=λb n z=>by subst z;rw[n]at m;show m
 let a:∀b,ϰ6->b≠e:=λb n z=>by
  subst z;rcases he with r|r
  .show X b n r
  rw[n]at r;cases r
 let M:∀b u,H b=ķ->¬Mut ķ->b≠x:=λb u q nm z=>by subst z;rw[q]at m;show nm m
 show(λb u q n _ _=>ϦM (a b n) q,λb u q n _ _=>⟨u.Ĩ,ϦM (a b n) q⟩,λb u q n _=>ϯG (X b n),λb u q _=>?_,
  λb s q=>Ô ϑp q,λb u s q=>Ô ϑp q,λb p q=>⟨#[],by rw[ϑp,q];simp⟩)
 cases B:b=e
 .subst B;show E
 show(u,ϦM B q)
end
def trk(h:Op)(H:Hp):À Ix:=Α (ϱR h.Â) λa=>(H a).isSome
def B5(h:Op)(H:Hp):Op:=PySem.W.hideAll h ύS
def Jw(h:Op)(H:Hp):Ι (B5 h H)=h.Â:=PySem.W.hideAll_size _ _
def Kv(e:Ϸh=Ö)(n:ϰ6):ϑI=Ö:=
 PySem.W.hideAll_get _ e λM=>by let q:Μ (H b).isSome:=(K89.mp M).2;rw[n]at q;simp at q
def Qw(e:ϑI=Ö):Ϸh=Ö/\ϰ6:=by
 let e':Ϸh=Ö:=PySem.W.of_hideAll ύS e;show(e',?_);cases q:H b with
 |none=>rfl
 |some x=>
  let M:b∈ύS:=ϳz ⟨϶u<|K9h e',Ϯ q⟩;let z:ϑI=none:=PySem.W.hideAll_none ύS M;rw[z]at e;cases e
structure Mod(K:At)(mg:Ŏ)(base:Op):Prop where
 kin:K.In base
 glob:ϐQ mg
 blt:∃mb,base.Ns builtinsNs mb/\∀x:Str,Ϲe->mb x=Ϲj
 nolimit:base.NoLimit
set_option genInjectivity false in
structure Cx where
 prog:Do
 w:Ev
 K:At
 mg:Ŏ
 base:Op
 A:Go
 N:À Str
 s₀:Da
 H₀:Hp
 env:Env
 outer:À Env
 stack:À Env
 ex:À Ix
 fn:ϱP Str
 calm:Bool
 pn:À ŝ
 xe:Db->Ú Da
def frs(l:À Env):À Ix:=l.filterMap (·.frame)
abbrev Cx.fs(X:Cx):À Ix:=frs X.outer
def Vis(sc:Scope)(x:Str):Prop:=Ϻ2=Â ο\/ϵf Ϻ2 (Â š) (Â Ϝ)
def Loc(sc:Scope)(x:Str):Prop:=ϵf Ϻ2 (Â ο) (Â š)
def Look(env:Env)(h:Op)(m:Ŏ)(x:Str)(u:Db):Prop:=
 (ϒP=Â ο/\m x=ķ)\/((ϵf ϒP (Â š)<|Â Ϝ)/\∃c,ϮX=ī/\h.Ē c ķ)
structure Cx.Ok(X:Cx):Prop where
 mod:ϙY
 kind:X.env.scope.Ġ=ϻP
 glob:X.Į=mainGlobals
 blt:X.env.builtins=builtinsNs
 above:X.Ý<=X.Ô
 inj:∀x y c,ϲ6->X.ô y=ī->x=y
 has:∀x,(ϵf ϑ5 (Â š)<|Â Ϝ)->∃c,ϲ6
 cab:∀x c,ϳg->ϲ6->X.Ý<=c
 hd:ϗ->X.A.handled=none
 frames:X.A.frames=Â X.ă
 stk:X.ă=X.outer\/(X.ă=X.Ü::X.outer/\X.env.frame=Â X.Ô)
 exf:∀b∈X.ex,Ϻ6/\∀x c,ϲ6->ϤJ
 bs:∀b o,ϫl=Ö->ϐX=Ö/\Ϻs X.H₀
 bsz:X.base.Â<=X.Ý
 noex:∀b o,ϫl=Ö->b∉X.ex
 exfs:∀b∈X.ex,ώa
 funs:ϗv X.outer
 frf:∀b∈X.fs,Ϻs X.H₀
structure Inv(X:Cx)(H6:À ŝ)(σ:À (Ü V))(H:Hp)(s:Da):Prop where
 ok:X.Ok
 os:s.os=X.s₀.os
 bare:ϩX s.Ĭ
 base:Un X.fs X.ex X.H₀ H X.s₀.Ì s.Ì
 loc:∃m,Ϙk/\∀(i:Nat)(x:Str)(v:V),á X.N=Ď->á σ=Â ĥ->Ϫ4 x->∃u,ϲj/\Look X.Ü s.Ì m x u
 cell:∀x c,ϲ6->∃v,s.heap.Ē c v
 free:H X.Ô=none
 freeC:∀x c,ϲ6->H c=none
 pin:∀p∈ύT,ϥp p.1=Â p.2/\H p.1=none/\Ϛv/\p.1∉X.fs/\∀v,p.2.data≠š v
 hok:Ϥ7 H s.Ì
 len:σ.À=X.õ
section
variable{X:Cx}{σ:À (Ü V)}{s:Da}{h':Op}
def Cx.Ok.nofr(ok:X.Ok)(e:ϫl=Ö):ώa:=λB=>by let:=(ok.funs.mem B).1;rw[e]at this;cases this
def Inv.bs(I:Ģ):∀b o,ϫl=Ö->ϰc=Ö/\ϰ6:=ϲ0 ⟨ϛa ϑt,Ϫ3 (I.ok.bs b o e).1 (I.ok.bs b o e).2 ϑt⟩
def Inv.bk(I:Ģ):∀b o,ϫl=Ö->ϰc=Ö:=ϲ0 (I.bs b o e).1
def Inv.mod(I:Ģ):ϙY:=I.ok.mod
def Inv.kIn(I:Ģ):X.K.In s.Ì:=I.ok.mod.kin.keeps I.bk
def Inv.lt(I:Ģ):Ϥ5 X.Ô:=let⟨_,hn,_⟩:=I.loc;hn.lt
def Inv.sz(I:Ģ):ϑG X.Ý:=K9C I.ą<|Zaj I.lt
def Inv.nofs(I:Ģ)(h:ϙZ):a∉X.fs:=λB=>by let(_,o,j,_):=I.ok.funs.mem B;show ĭ (K9P (K9h j)<|K9C I.sz h) ϵJ
def Inv.cne(I:Ģ):∀x c,ϲ6->c≠X.Ô:=λx c e z=>by let(v,o,j,d):=ϥr e;obtain⟨m,⟨a,S,E,O,h,_⟩,_⟩:=I.loc;rw[z,O]at j;cases j;rw[h]at d;cases d
def Inv.funs(I:Ģ):Ϗ2 X.outer:=by
 let all:∀(l:À Env),(∀b∈frs l,b∈X.fs)->ϗv l->Ϗ2 l:=by
  ext l
  induction l with
  |nil=>ext _ _;trivial
  |cons env r ih=>
   ext S a;obtain⟨k,⟨L,o,f,n,j,d⟩,hr⟩:=a;let h:L∈X.fs:=S L (Ϙ0 K9z);let(c,e):=I.base.slot L o j (I.ok.frf L h) h λz=>I.ok.exfs L z h;show(k,(L,_,f,n,e,d),ih (λb B=>S b<|Ϙ0 (ě B)) hr)
 show all X.outer (λ_ B=>B) I.ok.funs
def Inv.stack(I:Ģ):Ϗ2 X.ă:=by
 rcases I.ok.stk with e|⟨e,f⟩
 .rw[e];show I.funs
 rw[e];let(m,n,_):=I.loc;show ą (ϓl I.Ą) f n ?_ I.funs;show Heap.get?_none_of_le<|ϯX I.ą
def Inv.stkSub(I:Ģ):∀b∈ϯ3,b∈X.Ô::X.fs:=λb B=>by
 rcases I.ok.stk with e|⟨e,f⟩
 .rw[e]at B;show ě B
 rw[e]at B;erw[frs]at B;rw[K88,f]at B;show B
def Inv.stkFree(I:Ģ):∀b∈ϯ3,ϰ6:=λb B=>by
 rcases K8v.mp (ϒI B)with e|B
 .rw[e];show I.â
 let(_,o,j,_):=I.ok.funs.mem B;show Ϫ3 j (I.ok.frf b B) (λz=>I.ok.exfs b z B)
def Inv.step{g':Η GenState}{t':Nat}{d':Drawn}{ch:À Ix}(I:Ģ)
  (C:∀b∈ch,ϭ7/\Ϻ6/\(∀x c,ϲ6->ϤJ)/\Ϗ3)
  (keep:∀b o,Ϻ6->ώa->Ϻl->ϰc=Ö->ϰ6->ϨM=Ö)
  (slot:∀b o,Ϻ6->b∈X.fs->Ϻl->ϰc=Ö->ϰ6->∃w,ϨM=Â {o with slots:=w}) (free:∀b o,Ϻl->ϰc=Ö->ϰ6->Ϻs H')
  (there:∀b o,Ϻl->ϰc=Ö->∃a,ϨM=Ϸu)
  (T:∀b S,ϱL (H b) (Â (Ī S)) H') (f:∀b o u,ϱL (H b) (Â (ϨL u)) H') (t:∀b P,H b=Â (.tbl P)->∃more,H' b=Â (.tbl<|P++more))
  (ns:∀m,Ϙk->h'.Ns X.Ô m) (O:Ϥ7 H' h') (hg:ϩX g'):
  ù H6 σ H' ϕW:=by
 let L:∀b o,ϐX=Ö->Ϻ6:=ϲ0 (K9O<|K9P ϱv I.ą);let E:∀b o,ϐX=Ö->b∉X.ex->Ϻl:=λb o e h B=>by
  rcases(C b B).1 with z|z
  .show h z
  show ĭ (K9P ϱv z) ϵJ
 let cellK:∀x c,ϲ6->∀v,s.heap.Ē c v->h'.Ē c v:=λx c e v⟨o,j,D⟩=>by
  let N:c∉ch:=λz=>ϴz (C c z) x c e rfl;cases A:c∈X.fs
  .let(w,q):=ϛM<|ϫE e
   show(_,q,D)
  show(o,ϛN<|ϫE e,D)
 show(I.ok,I.os,hg,(λb o e n B h=>?_,λb o e n B h=>?_,λb o e n h=>?_,λb o e h=>?_,λb S e=>T b S<|I.base.tups b S e,λb o S e=>f b o S<|I.base.frzs b o S e,λb P e=>?_),?_,ϸC ?_,?_,ϸC ?_,λp F=>?_,O,I.í)
 .show ϛd<|Ϫ3 e n h
 .let(w,e1):=ϐo h
  let(y,g):=ϛB<|Ϫ3 e n h;show(y,g)
 .let(a,e1):=ϮY h
  show ϛ4<|Ϫ3 e n h
 .let(a,e1):=ϮY h
  show there b a (E b o e h) e1
 .let(M,e1):=I.base.tbls b P e
  let(Q,g):=t b _ e1;show(M++Q,Ĥ g Array.append_assoc)
 .let(m,K,J):=I.loc
  show(m,ns m K,λi x v e1 g G=>?_);let(u,r,l):=J i x v e1 g G;show(u,r,?_);rcases l with l|⟨k,c,e,z⟩
  .show Ð l
  show Ø ⟨k,c,e,cellK x c e _ z⟩
 .let(v,z):=ϥr e
  show(v,cellK x c e v z)
 .obtain⟨m,⟨o,_,_,j,_⟩,_⟩:=I.loc
  show free _ o (λz=>(C _ z).2.1 rfl) j I.â
 .let(v,o,j,D):=ϥr e
  show ϛs<|ϫE e
 let(e,n,ne,nf,d):=ϻO F;let N:p.1∉ch:=λz=>(C p.1 z).2.2.2 p F rfl;show(keep p.1 p.2 ne nf N e n,free p.1 p.2 N e n,ne,nf,d)
def Inv.un(I:Ģ)(u:ϔU X.fs [] h')(h:Ϥ7 H' h'):ù H6 σ H' ((ϱk h' t')):=by
 obtain⟨m,⟨o,S,P,j,r⟩,_⟩:=id I.loc;let(L,l):=u.ě j I.â Û;show ϗm [] (λ_ z=>nomatch z) (λb o _ B _ e n=>u.ĉ b o e n B Û) (λb o _ B _ e n=>u.slot b o e n B Û) (λb o _ e n=>ϗW Û) (λb o _ e=>Ϙz Û) u.tups u.frzs u.tbls (λa M=>by let(c,E,p,O,R):=M;rw[j]at O;cases O;show(_,E,p,l,R)) h I.bare
def Inv.call(I:Ģ)(u:ϔU ϯ3 ch h')(k:Ϥ7 H' h')(hg:ϩX g')(h:∀b∈ch,ϭ7/\Ϻ6/\(∀x c,ϲ6->ϤJ)/\Ϗ3):
  ù H6 σ H' ϕW:=by
 obtain⟨m,⟨o,a,P,j,r⟩,_⟩:=id I.loc;let(L,l):=u.ě j I.â ϐe;show I.step (ch:=ch) h (λb o l B C e n=>u.ĉ b o e n (λz=>ϵb (K8v.mp<|ϒI z) l B) C) (λb o _ _ C e n=>u.ě e n C) (λb o C e n=>ϗW C) (λb o C e=>Ϙz C) u.tups u.frzs u.tbls (λd M=>by let(f,S,E,O,R):=M;rw[j]at O;cases O;show(_,S,E,l,R)) k hg
def Inv.turned{it:Ix}(I:Ģ)(k:∀b o,b≠it->ϱL ϰc Ö h'.È)(N:H it=none)(h:it≠X.Ô)(a:it∈X.ex\/X.Ý<=it)(d:∀x c,ϲ6->c≠it)(f:∀p∈ύT,p.1≠it):ù H6 σ H ((ϱk h' t')):=by
 let i:∀b u,H b=ķ->b≠it:=λb u e z=>by rw[z,N]at e;cases e
 show ϗm [it] ϹL (λb o _ _ C e _=>k b o (λz=>C<|Ϯ z) e) (λb o _ _ C e _=>⟨o.Ĩ,k b o (λz=>C<|Ϯ z) e⟩) Ϛw (λb o C e=>⟨o,k b o (λz=>C<|Ϯ z) e⟩) (λ_ _ e=>e) (λ_ _ _ e=>e) ϖD Ϩm ϯJ I.bare
 .let e:b=it:=ϳR
  subst e;show(a,h,d,f)
 .let(o,S,E,j,r):=M
  show(o,S,E,k _ o Ϧj j,r)
 show Ϗl όJ Ϩu;rcases C with z|z
 .rw[z];show i b u e
 show i c _ z
def Inv.tok(I:Ģ)(t:Nat):ù H6 σ H {s with toks:=t}:=I.un (h':=s.Ì) (t':=t) Un.refl I.hok
def Inv.kept(I:Ģ)(k:∀b u,ϱL ϰc ķ h'.È):ù H6 σ H ((ϱk h' t')):=I.un (Un.ò k)<|I.hok.ò k
def Inv.laid(I:Ģ)(k:∀b u,ϱL ϰc ķ h'.È)(p:ϙZ)(new:Ϲn (ļ a o) h' a o):
  ù H6 σ (ļ a o) ((ϱk h' t')):=ϛI<|I.hok.ĩ k p new
def Inv.write(I:Ģ)(m:Mut (H x))(he:e=x\/H e=Â ύR)(k:∀b u,b≠e->ϱL ϰc ķ h'.È)(h:∃u,ϨN=ķ)(new:Ϲn (ļ x o) h' x o):ù H6 σ (ļ x o) ((ϱk h' t')):=ϛ1<|I.hok.write m he k h new
def Inv.weak(I:Ģ)(a:σ'.À=σ.À)(w:∀(i:Nat) v,á σ'=Â ĥ->á σ=Â ĥ):ù H6 σ' H s:=
 ⟨I.ok,I.os,I.bare,I.base,let⟨m,hn,hl'⟩:=I.loc;⟨m,hn,λi x v e1 g G=>hl' i x v e1 (w i v g) G⟩,I.cell,I.free,I.freeC,I.pin,I.hok,a.Å I.í⟩
def Inv.pins_of(I:Ģ)(h:∀p∈pins',ϥp p.1=Â p.2/\H p.1=none/\Ϛv/\p.1∉X.fs/\∀v,p.2.data≠š v):ù pins' σ H s:=
 (ώ6 I.ok (λp P=>ϵb (K9Y.mp P) (λz=>ϻO<|ϰA z)<|h p))
def Dd{N:À Str}(h:N.Í){i j:Nat}{x:Str}(a:N[i]?=Ď)(b:N[j]?=Ď):i=j:=by let(H,e1):=ZB.mp a;let(c,g):=ZB.mp b;show(Zel h).mp<|ϭn g.Ï
def Jx(I:Ģ)(hN:X.à)(hi:á X.N=Ď)(f:ϲg x)(r:ϲj)(h:∀s',ù H6 (Ϥ4 ĥ) H s'->(∃a,ϐp s'.Ì/\(a=X.Ô\/X.ô x=Ϸu))->Q () s')(hf:ϕ (ϳg\/ϱW=Â ο)):ϧL (ϐC u):=by
 let(m,R,hl):=id I.loc;let L:Ł (ϯl .class||(ϯl .module&&X.Ô !=X.Į)):=ϣ I.Ą
 let l:i<σ.À:=Ô I.í (ϻV).1
 let cne:=I.cne;let tracked:∀{a:Ix}{h':Op},(∃o,ϯK=Ö/\϶n)->ϐp h'->Ϥ7 H h':=fun{a h'} ha S b ob e=>by
  let(_,_,F):=ha;show(I.hok b ob e).stay (λc W C q=>ĉ (ϥ1 ?_) q) όJ Ϩu;ext rfl;rcases C with rfl|C
  .rw[F]at e;cases e
  rw[F]at C;cases C
 rcases f with K|K
 .apply wpAny_storeName_local K R (λh' T S=>?_) L
  let(oL,_,_,U,_):=id R;show h _ ⟨I.ok,I.os,I.bare,ϕb,⟨_,T,ϙ0⟩,λy c e=>?_,I.free,I.freeC,λp V=>?_,tracked ⟨oL,U,I.â⟩ S,ť I.í⟩ ⟨_,S,Ð rfl⟩
  .exact Ϧ9 I.ą ϗ3
  .let(sl,e1):=ϐo f
   show(sl,Ϧ9 I.ą e1)
  .let(Y,e1):=ϮY f
   show(Y,Ϧ9 I.ą e1)
  .by_cases J:j=i
   .subst J
    rw[hi]at e1;cases e1;rw[K9I l]at g;cases g;show(u,r,Ð ⟨K,Û⟩)
   rw[K9E<|K8g J]at g;let(u',Z,q):=hl j y v' e1 g P;show(u',Z,?_);rcases q with⟨k,e⟩|⟨k,c,e,z⟩
   .apply Ð ⟨k,?_⟩
    let:y≠x:=λe=>J<|Dd hN e1 (e▸hi);simp[this,e]
   show Ø ⟨k,c,e,ϗq<|cne y c e⟩
  .let(W,z):=I.cell y c e
   show(W,ϗq<|cne y c e)
  let(e,n,ne,nf,d):=ϻO V;show(ĉ (S.2 p.1 ne) e,n,ne,nf,d)
 let N:ϳg:=by
  rcases hf with z|z
  .show z
  rw[z]at K;cases K
 let(c,C):=I.ok.has x<|Ð K;let(W,z):=ϥr C;show wpAny_storeName_cell I.Ą K C z λh' t S=>?_;let(oc,O,D):=id z;show h ϰH ⟨I.ok,I.os,I.bare,ϕb,⟨m,R.sameBut S<|K8g<|cne x c C,ϙ0⟩,λy G e=>?_,I.free,I.freeC,λp V=>?_,tracked ⟨oc,O,ϫE C⟩ S,ť I.í⟩ ⟨c,S,Ø C⟩
 .exact Ϧ9 ϑf ϗ3
 .let(sl,e1):=ϐo f
  show(sl,Ϧ9 ϑf e1)
 .let(Y,e1):=ϮY f
  show(Y,Ϧ9 ϑf e1)
 .by_cases J:j=i
  .subst J
   rw[hi]at e1;cases e1;rw[K9I l]at g;cases g;show(u,r,Ø ⟨Ð K,c,C,t⟩)
  rw[K9E<|K8g J]at g;let(u',Z,q):=hl j y v' e1 g P;show(u',Z,?_);rcases q with q|⟨k,G,e,z'⟩
  .show Ð q
  show Ø ⟨k,G,e,z'.sameBut S ?_⟩;ext rfl;show J<|Dd hN e1 (I.ok.inj _ _ _ e C▸hi)
 .by_cases w:G=c
  .subst w;show(_,t)
  let(w2,z2):=I.cell y G e;show(w2,z2.sameBut S w)
 let(e,n,ne,nf,d):=ϻO V;show(ĉ (S.2 p.1 ?_) e,n,ne,nf,d);ext q;rw[q,O]at e;let q':oc=p.2:=K9R e;show d W (by rw[<-q'];show D)
def vf(I:Ģ)(n:X.à)(hi:á X.N=Ď)(b:ϲg x)(r:ϲj)(h:∀S,ù H6 (Ϥ4 ĥ) H S->Q () S)(f:ϕ (ϳg\/ϱW=Â ο)):ϧL (ϐC u):=
 Jx I n hi b r (λS a _=>h S a) f
def Inv.call'(I:Ģ)(j:s'.os=s.os)(u:ϔU ϯ3 ch s'.Ì)(O:Ϥ7 H' s'.Ì)(hg:ϩX s'.Ĭ)(C:∀b∈ch,ϭ7/\Ϻ6/\(∀x c,ϲ6->ϤJ)/\Ϗ3):ù H6 σ H' s':=by let(h',g',d',t',a):=s';let e:a=s.os:=j;subst e;show I.call (g':=g') (t':=t') (d':=d') u O hg C
end
abbrev XK:=Db->Ü Ix->Ú Hp
abbrev St:=À<|Ü V
abbrev VK:=V->Ú Hp
abbrev TE:=St->Hp->Ú VK
abbrev TT:=St->Hp->Ú (Bool->Ú Hp)
abbrev TA:=St->Hp->Ú (À V->Ú Hp)
structure Ends where
 nx:St->Ú Hp
 rt:VK
 bk:St->Ú Hp:=λ_ _=>False
 ct:St->Ú Hp:=λ_ _=>False
abbrev TS:=Ends->St->Ú Hp
def EP(X:Cx)(p:À ŝ)(a:St)(Q:VK)(u:Db)(S:Da):Prop:=∃v h,ù p a h S/\ϲj/\Q v h
def TP(X:Cx)(p:À ŝ)(a:St)(Q:Bool->Ú Hp)(b:Bool)(S:Da):Prop:=∃h,ù p a h S/\Q b h
def AP(X:Cx)(p:À ŝ)(a:St)(Q:À V->Ú Hp)(u:À Db)(S:Da):Prop:=∃s h,ù p a h S/\Vals s u/\Q s h
def SP(X:Cx)(p:À ŝ)(D:Ends)(f:Flow)(S:Da):Prop:=
 match f with
 |.next=>∃a h,ù p a h S/\Ϥt h
 |.brk=>∃a h,ù p a h S/\D.bk a h
 |.cont=>∃a h,ù p a h S/\D.ct a h
 |.ret u=>∃v a h,ù p a h S/\ϲj/\D.rt v h
def PE(X:Cx)(e:On)(t:TE):Prop:=
 ∀(p:À ŝ)(s:Da)(a:St)(H:Hp)(Q:VK),ù p a H s->ϩr->Ő ϯL ϶2 X.xe s
def PT(X:Cx)(e:On)(t:TT):Prop:=
 ∀(p:À ŝ)(s:Da)(a:St)(H:Hp)(Q:Bool->Ú Hp),ù p a H s->ϩr->Ő (ϮN ϯL) ϒo X.xe s
def PW(X:Cx)(e:On)(t:TT):Prop:=
 ∀(whole:Sem Db)(p:À ŝ)(s:Da)(a:St)(H:Hp)(Q:Bool->Ú Hp),ù p a H s->ϩr->Ő (ϮN whole) ϒo X.xe s
def PW.pt(h:PW X e t):ϸY e t:=h _
def PA(X:Cx)(e:À On)(t:TA):Prop:=
 ∀(pos:Pos)(p:À ŝ)(s:Da)(a:St)(H:Hp)(Q:À V->Ú Hp),ù p a H s->ϩr->Ő (spliced<|ϲD<|starEach e X.Ü) (AP X p a Q) X.xe s
def PS(X:Cx)(T:No)(t:TS):Prop:=
 ∀(p:À ŝ)(s:Da)(a:St)(H:Hp)(D:Ends),ù p a H s->t D a H->Ő (exec T X.Ü) ϔc X.xe s
def PSs(X:Cx)(T:À No)(t:TS):Prop:=
 ∀(p:À ŝ)(s:Da)(a:St)(H:Hp)(D:Ends),ù p a H s->t D a H->Ő (execs T X.Ü) ϔc X.xe s
def Wp(h:wpAny M A t Q E s)(q:∀a s,Q a s->Q' a s):wpAny M A t Q' E s:=K8m h q όW
section
variable{X:Cx}
def iX(i:Nat):TE:=λa H Q=>∃v,ϴp=Â ĥ/\Q v H
def tC(v:V):TE:=λ_ H Q=>Q v H
def eJ{pos:Pos}(n:á X.N=Ď)(V:Ϫ4 x)(D:ϲz)(d:ϱD (Ł<|x==ϐq)):ā (ð pos) ϲo:=by
 ext p s b H Q I h;let(v,e,h):=h;let(m,N,L):=I.loc;let(u,r,l):=L i x v n e V;let fin:ϵW p b Q u s:=ϑJ;rcases l with⟨k,M⟩|⟨k,c,a,C⟩
 .show ϔa (ϖW k N M fin)
 rcases k with k|k
 .show ϔa (ϖ5 k a C fin)
 show ϔa (wpAny_loadName_free I.Ą k a C fin d)
def Td{i j pos}:ā (ϻd<|Ä i) (tC<|Ä i):=Ϥ6 (wpAny_Constant_int ⟨Ä i,H,ϨV,ζ,h⟩)
def Yq{b j pos}:ā (ϻd<|ã b) (tC ϵO):=Ϥ6 (Constant_bool ⟨ϵO,H,I,rfl,h⟩)
def Vu{j pos}:ā (ϻd ò) (tC Β):=Ϥ6 (Constant_none ⟨Β,H,I,rfl,h⟩)
def S6{x j pos}:ā (ϻd<|Ė x) (tC<|Ė x):=Ϥ6 (Calls.Constant_str ⟨Ė x,H,ϨV,ζ,h⟩)
def Gl(X:Cx)(x:Str):Prop:=ϑ5=Â .globalImplicit
def Hu{pos:Pos}(I:Ģ)(hg:γ x)(M:X.mg x=ķ)(h:Q u s)(d:ϲz):Ő (ϬP<|ð pos) Q E s:=
 ϖf (Calls.loadGlobal_global (Ô I.ok.glob ϐr) M h) d
def lW{pos:Pos}(I:Ģ)(hg:γ x)(M:ϥm)(v:Ϲj=ķ)(h:Q u s)(n:ϱD Ϲe)(d:ϲz):Ő (ϬP<|ð pos) Q E s:=by let(m,a,b):=I.mod.blt;show ϖf (Calls.loadGlobal_builtin (Ô I.ok.glob ϐr) M (Ô I.ok.blt<|a.keeps I.bk) (ĉ (b x n) v) h) d
def Pt{pos:Pos}(hg:γ x)(M:X.mg x=ķ)(r:ϲj)(d:ϲz):ā (ð pos) (tC v):=
 Ϥ6 (Hu I hg M ϑJ d)
def O4{pos:Pos}(hg:γ x)(M:ϥm)(V:Ϲj=ķ)(r:ϲj)(n:ϱD Ϲe)(d:ϲz):ā (ð pos) (tC v):=
 Ϥ6 (Ϩr V ϑJ n d)
variable{ta tb:TE}{pos:Pos}
def tB(t:TE):TT:=϶4 (λx h=>ύ1 (Q c h))
def Ui(h:ā e t)(he:ϐA (∀whole,ϮN whole=(do let v <-whole;standAt e.ú;holding [v] (truthy v)))):ϸY e (tB t):=by
 ext p s c H Q I w;show isTrue_plain (Ϲi<|Ϧk c H _ I w)<|he _;let(x,a,i,r,b):=zq;let(d,rfl,q):=b;cases r;show K8b ⟨a,i,q⟩
variable{rest:À On}
def Ww(t u:TT):TT:=϶4 (λc h=>Ë ϱs (u a h Q) (Q false h))
def tOr(t u:TT):TT:=϶4 (λc h=>Ë ϱs (Q true h) (u a h Q))
def Yh(t:TT):TT:=϶4 (λc h=>Q (!c) h)
def QC(A:Ϭl):PW X (ϱH And [a]) tA:=by
 ext w p s b H Q I h;show isTrue_and ϖX;cases c with|true=>show isTrue_and_nil e|false=>show e
def TK(A:Ϭl):PW X (ϱH Or [a]) tA:=by
 ext w p s b H Q I h;show isTrue_or ϖX;cases c with|false=>show isTrue_or_nil e|true=>show e
def U9(A:Ϭl)(B:PW X (ϱH And ϳv) tB'):PW X (ϱH And<|a::ϳv) (Ww tA tB'):=by
 ext w p s e H Q I h;show isTrue_and<|Wp ϪY λc S zq=>?_;let(d,i,q):=zq;cases c with|true=>show B w p S e d Q i q|false=>show(d,i,q)
def X9(A:Ϭl)(B:PW X (ϱH Or ϳv) tB'):PW X (ϱH Or<|a::ϳv) (tOr tA tB'):=by
 ext w p s e H Q I h;show isTrue_or<|Wp ϪY λc S zq=>?_;let(d,i,q):=zq;cases c with|true=>show(d,i,q)|false=>show B w p S e d Q i q
def UU(A:Ϭl):ϸY ϮD (Yh tA):=ϘD (isTrue_not<|ώP d H (λc b=>Q (!c) b) I h)
def R8(ta tb:TE):TE:=ϧl (ύ1 (Ë ϱs (tb a h Q) (Q ύo h)))
def Xx(ta tb:TE):TE:=ϧl (ύ1 (Ë ϱs (Q ϬA h) (tb a h Q)))
def Ri(ta:TE):TE:=ϧl (ύ1 (Q (.bl<|!c) h))
def U5{op}(h:ā a t):ā Ϙ2 t:=λp s b H Q I w=>BoolOp_one<|Ϧk b H Q I w
def VC(A:ā a ta)(B:ā (ϱH And ϳv) tb):ā (ϱH And<|a::ϳv) (R8 ta tb):=by
 ext p s e H Q I h;show BoolOp_and<|Ϲi ϪY;let(x,d,i,r,q):=zq;let(c,rfl,q):=q;cases r;show K8b ?_;cases c with|true=>show B p S e d Q i q|false=>show(ύo,d,i,rfl,q)
def XJ(A:ā a ta)(B:ā (ϱH Or ϳv) tb):ā (ϱH Or<|a::ϳv) (Xx ta tb):=by
 ext p s e H Q I h;show BoolOp_or<|Ϲi ϪY;let(x,d,i,r,q):=zq;let(c,rfl,q):=q;cases r;show K8b ?_;cases c with|false=>show B p S e d Q i q|true=>show(ϬA,d,i,rfl,q)
def UK(A:ā a ta):ā ϮD (Ri ta):=by
 ext p s e H Q I h;show UnaryOp_<|Ϲi ϪY;let(x,d,i,r,b):=zq;let(c,rfl,b):=b;cases r;show not_of<|K8b ⟨.bl<|!c,d,i,rfl,b⟩
def tIf(t:TT)(ta tb:TE):TE:=϶4 (λc h=>Ë ϱs (ta a h Q) (tb a h Q))
def LP(C:ϸY c tA)(A:ā a ta)(B:ā b tb):ā ϙA (tIf tA ta tb):=by
 ext p s e H Q I h;show wpAny_IfExp ϖT;let(f,i,q):=zq;cases d with|true=>show A p S e f Q i q|false=>show B p S e f Q i q
end
def SqL(K:At)(H:Hp)(a:Ix)(X:À V):Prop:=
 Ϸr (ô X)\/
  ∃(o:Obj)(i:Η Db)(n:Nat),όX=Ö/\o.cls=Ω "list"/\o.dict=none/\o.data=δ i n/\ŀ i.Ã/\ţ X i.ð
def SqT(K:At)(H:Hp)(a:Ix)(X:À V):Prop:=
 Ϸr (Ī X)\/
  ∃(o:Obj)(i:Η Db)(n:Nat),όX=Ö/\o.cls=Ω "tuple"/\o.data=δ i n/\ŀ i.Ã/\ţ X i.ð
def Zi:Db->Ü V|.none=>Â Β|.bool b=>Â ϵO|.int i _=>Â<|Ä i|.str x _=>Â<|Ė x|.bytes b _=>Â<|.byt b|.float b _=>Â<|.flt b|.ref a=>Â<|É a|.type n=>Â<|.ty n|_=>none
def RelV.abs(r:ϱ6 u):Zi u=Ď:=by
 cases x with
 |non=>cases r;rfl
 |bl _=>cases r;rfl
 |int _=>let(t,rfl):=r;rfl
 |str _=>let(t,rfl):=r;rfl
 |byt _=>let(t,rfl):=r;rfl
 |flt _=>let(t,rfl):=r;rfl
 |ref _=>cases r;rfl
 |ty _=>cases r;rfl
def RelV.inj(r:ϱ6 u)(q:϶o):x=y:=K9R<|r.abs.Ñ q.abs
def Vals.inj{X y:À V}{s:À Db}(h:ţ X s)(k:Vals y s):X=y:=by
 induction X generalizing y s with
 |nil=>cases h;cases k;rfl
 |cons a X i=>cases h with|cons r t=>cases k with|cons r' t'=>rw[r.inj r',i t t']
section
variable{X:Cx}{s:Da}{xs ys:À V}
def SqL.of{K:At}(h:H a=Â (ô xs)):μ a xs:=Ð<|Ð h
def SqT.of{K:At}(h:H a=Â (Ī xs)):Ϲ3 a xs:=Ð<|Ð h
def Inv.list(I:Ģ)(h:ϴY H a xs):∃i:À Db,Ϥe i/\PlainL s.Ì a i.Æ/\ŀ xs.À:=by
 rcases h with h|⟨o,i,n,k,C,d,S,Z,r⟩
 .let(z,i,n,r,e):=ϔd
  show(i,r,(_,n,e,rfl,rfl,rfl),z)
 show(i.ð,r,(o,n,I.kIn a o k,C,d,ϚZ),?_);let e:=r.À;simp only[K8t]at e;lia
def Inv.tuple(I:Ģ)(h:Ϭm a xs):∃i:À Db,Ϥe i/\IsTup s.Ì a i.Æ/\ŀ xs.À:=by
 rcases h with h|⟨o,i,n,k,C,S,Z,r⟩
 .let(z,i,r,p):=ϔd
  show(i,r,p,z)
 show(i.ð,r,(o,I.kIn a o k,C,n,ϚZ),?_);let e:=r.À;simp only[K8t]at e;lia
def Inv.list_inj(I:Ģ)(h:ϴY H a xs)(h':ϴY H a ys):xs=ys:=by
 obtain⟨i,r,⟨o,n,e,_,_,d⟩,_⟩:=I.ê h;obtain⟨its',R,⟨O,N,e',_,_,d'⟩,_⟩:=϶F h';rw[e]at e';cases e';rw[d]at d';injection d' with D _
 let:i=its':=ť (Uf Array.toList D)
 subst this;show r.inj R
def Inv.tuple_inj(I:Ģ)(h:Ϭm a xs)(h':Ϭm a ys):xs=ys:=by
 obtain⟨i,r,⟨o,e,_,n,d⟩,_⟩:=I.Ă h;obtain⟨its',R,⟨O,e',_,N,d'⟩,_⟩:=I.Ă h';rw[e]at e';cases e';rw[d]at d';injection d' with D _
 let:i=its':=ť (Uf Array.toList D)
 subst this;show r.inj R
end
abbrev Cx.wish(X:Cx)(E:Db->Ú Da):Cx:={X with xe:=E}
abbrev Cx.nox(X:Cx):Cx:=X.wish ϶0
def Cx.Ok.wish{X:Cx}(ok:X.Ok)(E:Db->Ú Da):(Ϭf).Ok:=
 ϔ4
def Cx.Ok.unwish{X:Cx}{E:Db->Ú Da}(ok:(Ϭf).Ok):X.Ok:=
 ϔ4
section
variable{X:Cx}
def Inv.wish(I:Ģ)(E:Db->Ú Da):Inv Ϭf H6 σ H s:=(ώ6 (I.ok.wish E) I.pin)
def Inv.unwish(I:Inv Ϭf H6 σ H s):Ģ:=(ώ6 I.ok.unwish I.pin)
def SP.unwish(h:SP Ϭf H6 D f s'):SP X H6 D f s':=by
 cases f with|next=>let(a,H,I,q):=h;show(a,H,I.unwish,q)|brk=>let(a,H,I,q):=h;show(a,H,I.unwish,q)|cont=>let(a,H,I,q):=h;show(a,H,I.unwish,q)|ret u=>let(v,a,H,I,r,q):=h;show(v,a,H,I.unwish,r,q)
def PSs.nox{T:À No}(h:PSs X.nox T t):ϴ4 T t:=λp s a H D I w=>K8m (Ϧk a H D (I.wish _) w) (λ_ _ q=>q.unwish) λ_ _ z=>ϳm z
end
section
variable{X:Cx}{st:No}{rest:À No}{t u:TS}{te:TE}{pos:Pos}
def Rq:TS:=λD a H=>Ϥt H
def XW(t u:TS):TS:=λD a H=>t {D with nx:=u D} a H
def GN:ϴ4 [] Rq:=λ_ _ a H _ I h=>K8W ⟨a,H,I,h⟩
def D9(c:ϲb st t)(d:ϴ4 rest u):ϴ4 (st::rest) (XW t u):=by
 ext p s e H D I h;show ϗZ<|c p s e H {D with nx:=u D} I h;cases f with|next=>let(a,b,i,q):=q;show d p S a b D i q|ret v=>show q|brk=>show q|cont=>show q
def QX(a:ϲb st t):ϴ4 [st] t:=by
 ext p s b H D I h;show ϗZ<|a p s b H D I h;cases f with|next=>show K8W q|ret v=>show q|brk=>show q|cont=>show q
def Inv.quiet(I:Ģ):Ł (interactive X.Ü):=by simp[interactive,I.ok.kind]
def wN(te:TE):TS:=ϒN (λ_ h=>Ϥt h)
def CB(he:ā e te)(S:à (ϫH none pos.line X.Ü=ϥs)):ϲb (.Expr e pos) (wN te):=ϙi (wpAny_Expr_any (Wp ϮS λv c zq=>Ϙf ⟨a,b,i,q⟩) I.quiet S)
def J4(te:TE):TS:=ϒN D.rt
def Cp(he:ā e te):ϲb (Ϭh Ϲ4) (J4 te):=ϙi (wpAny_Return_some<|Wp ϮS λv S zq=>Ϙf ⟨x,a,b,i,r,q⟩)
def YB(c:TT)(t u:TS):TS:=λD a H=>c a H λb h=>Ë (b=true) (t D a h) (u D a h)
def Wq(C:ϸY c tc)(A:ϴ4 a t)(B:ϴ4 b u):ϲb (.If c a b pos) (YB tc t u):=by
 ext p s e H D I h;show wpAny_If ϖT;let(f,i,q):=zq;cases d with|true=>show A p S e f D i q|false=>show B p S e f D i q
def Bi:TS:=ϧI
def Lu:ϲb st Bi:=ϘH
end
abbrev TG:=V->St->Hp->Ú (St->Ú Hp)
abbrev TGs:=À V->St->Hp->Ú (St->Ú Hp)
def PG(X:Cx)(target:On)(t:TG):Prop:=
 ∀(p:À ŝ)(s:Da)(b:St)(H:Hp)(v:V)(u:Db)(Q:St->Ú Hp),ù p b H s->ϲj->t v b H Q->
  Ő (assign target X.Ü u) (λ_ S=>∃a h,ù p a h S/\Q a h) X.xe s
def PGs(X:Cx)(ts:À On)(t:TGs):Prop:=
 ∀(p:À ŝ)(s:Da)(b:St)(H:Hp)(v:À V)(u:À Db)(Q:St->Ú Hp),ù p b H s->Vals v u->t v b H Q->
  Ő (assignInOrder (Ê (Ϲf ts) Ž) u) (λ_ S=>∃a h,ù p a h S/\Q a h) X.xe s
abbrev UE:=V->Ϫe (Ú (Ú Hp))
def UP(X:Cx)(t:UE):Prop:=
 ∀(p:À ŝ)(s:Da)(a:St)(H:Hp)(o i v:V)(O I u:Db)(Q:Ú Hp),ù p a H s->RelV o O->RelV i I->ϲj->t o i v H Q->
  Ő (setItem O I u) (λ_ S=>∃h,ù p a h S/\Q h) X.xe s
abbrev TIp:=Ϫe (Ú VK)
def PIp(X:Cx)(op:Operator)(t:TIp):Prop:=
 ∀(p:À ŝ)(s:Da)(a:St)(H:Hp)(x y:V)(v u:Db)(Q:VK),ù p a H s->ϱ6 v->϶o->t x y H Q->
  Ő (inplaceOp op v u) ϶2 X.xe s
section
variable{X:Cx}{pos:Pos}
def uZ(i:Nat):TG:=λv a H Q=>Q (Ϲm ĥ) H
def HF(n:X.à)(hi:á X.N=Ď)(b:ϲg x)(f:ϕ (ϳg\/ϱW=Â ο)):PG X (ð pos) Ϫl:=by ext p s c H v u Q I r h;show wpAny_assign_Name<|vf I n hi b r (λS a=>⟨_,H,a,h⟩) f
def Yg:TGs:=λs a H Q=>s=[]/\Q a H
def RO(t:TG)(u:TGs):TGs:=λs b H Q=>∃v r,s=v::r/\t v b H λa h=>u r a h Q
def N8:ϦN [] Yg:=by ext p s a H v u Q I r h;let(e,h):=h;subst e;cases r;show assignInOrder_nil ⟨a,H,I,h⟩
def M8(c:PG X e t)(d:ϦN es u)(S:à (Ê (Ϲf Ũ) Ž=assign e X.Ü::Ê (Ϲf es) Ž)):ϦN Ũ (RO t u):=by
 ext p s g H j U Q I r h;let(v,V,e1,h):=h;subst e1;cases r with
 |cons r rr=>
  rw[S];show assignInOrder_cons<|Wp (c p s g H _ _ _ I r h) λ_ f zq=>?_;let(a,b,i,q):=zq;show d p f a b _ _ Q i rr q
def X7(K:At)(n:Nat)(t:TGs):TG:=λv b H Q=>∃a X,v=É a/\Ϲ3 a X/\X.À=n/\t X b H Q
def SO(C:ϗ)(h:ϦN es t)(N:à (Ã (Ϲf es)=n))(S:à ((Ϲf es).findIdx? ϔ=none)):PG X (ϻu k pos) (X7 X.K n t):=by
 ext p s c H v u Q I r w;let(a,f,e1,q,l,w):=w;subst e1;cases r;let(d,R,T,Z):=I.Ă q;show assign_Tuple_tuple ϳX T (by simp[N,<-l,R.length]) S λh' x=>?_;let i:ù p c H ϰH:=I.ò (t':=s.ã) (ϲ0 (x b o (K9O ϱv) e));show h p _ c H f _ Q i (by simpa using R) w
def Sd(to ti:TE)(t:UE):TG:=λv a H Q=>to a H λo h=>ti a h λi b=>t o i v b λc=>Q a c
def Nv(j:ā o to)(hi:ā i ti)(S:UP X t)(A:autoParam (∀v,ϧU (ŕ o i pos) v=(do
   let ov <-holding [v] (eval o X.Ü)
   let iv <-holding [v,ov] (eval i X.Ü)
   standAt pos
   holding [v,ov,iv] (setItem ov iv v)
   release [v,ov,iv] [])) mqad.é):PG X (ŕ o i pos) (Sd to ti t):=by
 ext p s a H v u Q I r h;rw[A];show ϧK<|Wp ϙ1 λov n zq=>?_;let(x,b,e,R,q):=zq;show ϧK<|Wp (Ϥo n a b _ e q) λiv w zq=>?_;let(y,c,f,m,k):=zq;show Ps<|K7o<|ϧK<|Wp (S p w a c x y v ov iv u _ f R m r k) λ_ z zq=>?_;let(d,g,l):=zq;show wpAny_release ⟨a,d,g,l⟩
def Bn(te:TE)(g:TG):TS:=ϒN (λx h=>g x a h D.nx)
def Bl(he:ā e te)(hg:ϩR X)(S:à (ϭ1 tg))(w:à (Ϯg tg))(c:à (Ϫw tg)):ϲb (ϴZ [tg] e pos) (Bn te g):=by
 ext p s a H D I h;show wpAny_Assign_stores (Wp ϮS λv d zq=>?_) S w;let(x,b,i,r,Q):=zq;rw[c];show Wp (hg p d a b x v _ i r Q) λ_ f q=>q
def SK(n:X.à)(hi:á X.N=Ď)(c:ϲg x)(he:ā e te)(S:à (ϫH (Â<|ð pos') pos.line X.Ü=ϥs))(F:ϕ (ϳg\/ϱW=Â ο)):
  ϲb (ϴZ [ð pos'] e pos) (Bn te Ϫl):=by
 ext p s d H D I h;show wpAny_Assign_Name (ϘI<|λv g zq=>?_) S;let(y,a,b,r,q):=zq;show vf b n hi c r (λw f=>⟨_,a,f,q⟩) F
def Xo(i:Nat)(te:TE)(ti:TIp):TS:=λD a H=>∃x,ϴp=Â Ď/\te a H λy h=>ti x y h λz b=>D.nx (Ϲm<|Â z) b
def Tg(N:X.à)(hi:á X.N=Ď)(b:ϲg x)(he:ā e te)(O:ώb ti)(F:ϕ (ϳg\/ϱW=Â ο)):
  ϲb (Ϯ7<|ð pos') (Xo i te ti):=by
 ext p s d H D I h;let(v,e1,h):=h;let(m,t,L):=I.loc;let V:Ϫ4 x:=by rcases b with k|k;show Ð k;show Ø<|Ð k
 let(u,r,l):=L i x v hi e1 V;show wpAny_AugAssign_Name ?_;let go:Ő ϯL (λw S=>Ő (inplaceOp op u w) (λr a=>Ő (ϐC r) (λ_=>ϔc .next) X.xe a) X.xe S) X.xe s:=by
  show ϘI (λw E zq=>?_);let(y,f,j,R,Q):=zq;show Wp (O p E d f v y u w _ j r R Q) λz G zq=>?_;let(Z,g,n,B,A):=zq;show vf n N hi b B (λJ o=>⟨_,g,o,A⟩) F
 rcases l with⟨K,M⟩|⟨K,c,q,C⟩
 .show ϖW K t M go
 rcases K with K|K
 .show ϖ5 K q C go
 rcases b with k|k
 .let:ϱW=Â Ϝ:=K
  rw[k]at this;cases this
 let:ϱW=Â Ϝ:=K;rw[k]at this;cases this
def Q9(to ti te:TE)(t:Ϫe (Ú VK))(p:TIp)(s:UE):TS:=λD a H=>to a H λo h=>ti a h λi b=>t o i b λx c=>te a c λy d=>p x y d λz e=>s o i z e λf=>Ϥt f
def XM(X:Cx)(t:Ϫe (Ú VK)):Prop:=
 ∀(p:À ŝ)(s:Da)(a:St)(H:Hp)(o i:V)(O I:Db)(Q:VK),ù p a H s->RelV o O->RelV i I->t o i H Q->
  Ő (getItem O I) ϶2 X.xe s
def QA(y:ā o to)(hi:ā i ti)(hg:XM X tget)(he:ā e te)(P:ώb tip)(S:UP X tset)(A:∀O V new,augStore i O V new=(do holding [new,O,V]<|setItem O V new;release [new,O,V] [];pure .next):=by intros;rfl):ϲb (Ϯ7<|ŕ o i tpos) (Q9 to ti te tget tip tset):=by
 ext p s a H D I h;show wpAny_AugAssign_SubscriptAny (Wp (y p s a H _ I h) λO K zq=>?_) A;let(x,c,l,r,Q):=zq;show Wp (Ϥo K a c _ l Q) λV L zq=>?_;let(b,d,n,m,z):=zq;show Wp (hg p L a d x b O V _ n r m z) λold M zq=>?_;let(T,f,q,R,B):=zq;show Wp (he p M a f _ q B) λv s4 zq=>?_;let(U,g,t,G,C):=zq;show Wp (P p s4 a g T U old v _ t R G C) λnew N zq=>?_;let(W,j,u,J,E):=zq;show Wp (S p N a j x b W O V new _ u r m J E) λ_ Y zq=>by let(k,w,F):=zq;show ⟨a,k,w,F⟩
def ipI(f:ϱu Int Int):TIp:=ϰj (∃i j,x=Ä i/\y=Ä j/\Q (Ä<|f i j) H)
def yN:PIp X .Add (ipI ϔe):=by ext p s a H x y v u Q I r m h;let(i,j,e1,g,q):=h;subst e1;subst g;let(t,rfl):=r;let(T,rfl):=m;show iadd_int (ϵl (Ä _) ζ)
def Nh:PIp X .Sub (ipI λi j=>i-j):=by ext p s a H x y v u Q I r m h;let(i,j,e1,g,q):=h;subst e1;subst g;let(t,rfl):=r;let(T,rfl):=m;show isub_int (ϵl (Ä _) ζ)
end
section
variable{X:Cx}{pos:Pos}
def Kt(c:TT)(tb:TS):TS:=λD a H=>∃W:Nat->St->Ú Hp,(∃m,W m a H)/\∀m a H,W m a H->
 c a H λb e=>Ë (b=true) (∃N:St->Ú Hp,(∀d h,N d h->∃M,M<m/\W M d h)/\ϖY a e) (Ϥt e)
def Mo(P:PassesOwn ϳQ X.A X.Ü X.xe)(C:ϸY c tc)(B:ϴ4 body tb):ϲb Ϙl (Kt tc tb):=by
 ext p s x H D I h;obtain⟨W,⟨m0,u⟩,turn⟩:=h;show wpAny_While<|codeAny_whileLoop (λn S=>∃e j,ù p e j S/\W n e j) ?_ m0 ⟨x,H,I,u⟩;ext n s1 ⟨σ1,H1,I1,w1⟩;show ϥP<|Wp (Ϝf<|turn n σ1 H1 w1) λb t zq=>?_;let(o,q,k):=zq;cases b with
 |true=>
  let(N,r,k):=k;rw[Ĝ];show ϥP<|Wp (B p t σ1 o _ q k) λf z l=>?_;cases f with|next=>let(a,d,g,i):=l;let(m,M,w):=r a d i;show(m,M,a,d,g,w)|cont=>let(a,d,g,i):=l;let(m,M,w):=r a d i;show(m,M,a,d,g,w)|brk=>show l|ret v=>show l
 |false=>rw[ϳE];show K8W ⟨σ1,o,q,k⟩
end
structure It where
 go:Nat->Ú Hp
 yld:Nat->Hp->V->Ú Hp
 stop:Nat->Ú Hp
def nj(X:Cx)(i:À ŝ)(H:Hp)(b:Ix):Prop:=
 ϰ6/\Ϻ6/\ώa/\ϭ7/\(∀x c,ϲ6->ϤJ)/\∀p∈X.pn++i,p.1≠b
def Inv.fpOk(I:Ģ)(B:s.Á<=b)(n:Ϻs H'):ϵE H' b:=by
 show(n,Zbx<|K9P I.lt B,I.nofs B,Ø<|K9C I.sz B,λx c e z=>?_,λp h z=>?_)
 .let(v,q):=ϥr e
  show ĭ (K9P q.lt<|ϯ0 z) ϵJ
 show ĭ (K9P (K9h (ϻO h).1)<|ϯ0 z) ϵJ
structure Turn(P:Do)(w:Ev)(K:At)(tg:On)(J:It)(fp:À Ix)(it:Ix)(tn:Nat->Ú Op):Prop where
 mem:it∈fp
 obj:∀i h,tn i h->ϳB (∃o,Ϸh=Ö/\∀v,o.data≠š v)
 keep:∀i h h',tn i h->(ϳB<|∀o,ϷQ Ö)->tn i h'
 item:∀(X:Cx),X.ø=P->X.w=w->ϺA->ϗ->∀(i:Nat)(H6:À ŝ)(s:Da)(σ:St)(H:Hp)(E:Db->Ú Da),Ģ->(ϳB<|ϵE H b)->ϓw->J.go i H->
  wpAny ϻv X.A (pyNext<|É it) (λr s1=>∃u,r=ķ/\
   ϷJ ϻv X.A (ϐs (É it) u) (λ_ s2=>∃x H',ù H6 σ H' s2/\ϱ6 u/\ϓx H'/\tn (i+1) s2.Ì/\ϳB (Ϻs H')) E s1) E s
 done:∀(X:Cx),X.ø=P->X.w=w->ϺA->ϗ->∀(i:Nat)(H6:À ŝ)(s:Da)(σ:St)(H:Hp)(E:Db->Ú Da),Ģ->(ϳB<|ϵE H b)->ϓw->ώc H->
  ϷJ ϻv X.A (pyNext<|É it) (λr s1=>r=none/\ù H6 σ H s1) E s
 self:∀(A:Go)(i:Nat)(s:Da)(Q:Db->Ú Da)(E:Db->Ú Da),ϓw->Q (É it) s->ϷJ ϻv A (pyIter<|É it) Q E s
abbrev TI:=St->Hp->Ú (It->Ú Hp)
def PIE(X:Cx)(p:À ŝ)(a:St)(tg:On)(R:It->Ú Hp)(i:Db)(w:Da):Prop:=
 ∃(it:Ix)(f:À Ix)(tn:Nat->Ú Op)(J:It)(h:Hp),i=É it/\ù p a h w/\Ϙm f it tn/\tn 0 w.Ì/\(∀b∈f,nj X p h b)/\R J h
def PI(X:Cx)(tg iter:On)(wi:TI):Prop:=
 ∀(p:À ŝ)(s:Da)(a:St)(H:Hp)(R:It->Ú Hp),ù p a H s->wi a H R->
  Ő (ϬP iter) (λv S=>Ő (pyIter v) (PIE X p a tg R) X.xe S) X.xe s
def He{it:Ix}(j:s.Ë it=Ö)(C:o.cls=Ω n)(d:o.data=ϐ vs)(H:Ł ϔ5)(q:Q () s):ϧL (ϐs (É it) u):=by
  erw[letOwnedTupleGo];cases tg<;>first
    |show K9J q
    | (cases u<;>first
        |show K9J q
        | (show Ps<|wpAny_load j ?_
           rw[C,d];change ϧL (Ë (Μ (ϔ5&&vs[0]? ==Â (rawInt _))) _ _);rw[P3<|by ext h;rw[H,Zez]at h;cases h]
           show K9J q))
def Itl(K:At)(a:Ix):It:=
 (Ϯx (∃X x,μ a X/\á X=Ď) (όg (∀X,μ a X->á X=Ď)) (μ a X))
def Itt(K:At)(a:Ix):It:=
 (Ϯx (∃X x,Ϲ3 a X/\á X=Ď) (όg (∀X,Ϲ3 a X->á X=Ď)) (Ϲ3 a X))
def Itr(lo:Int)(n:Nat):It:=⟨λi _=>i<n,όg (x=Ä (lo+i)),λi _=>n<=i⟩
def JG{P:Do}{w:Ev}{K:At}{tg:On}(a it:Ix):Ϯt (Itl K a) ϙ2 where
 mem:=Û
 obj:=λi h T b B=>by
  let e:b=it:=ϳR
  subst e;let(o,e,c,d):=T;show(o,e,ϪG)
 keep:=ύv (T.at λo e=>k it Û o e)
 item:=by
  ext X r W m C i n s A H E I f T hg;subst r W m;let(N,x,q,y):=hg;let(S,R,p,Z):=϶F q;let(u,U,L):=R.get y;let(F,g,J,j,f4,l):=f it Û;show wpAny_pyNext_list_item T p.Ê (x:=u) ϮZ λh' t M=>?_;let D:ù n A H ϰH:=ϖk (ĉ (M.2 b B) e);let(o,e,c,d):=id t;show(u,rfl,He (s:=ϰH) e c d Ý ⟨x,H,D,L,Ϸy (ϘE I.č),t,ϯh⟩)
 done:=by
  ext X r W m C i n s A H E I f T hg;subst r W m;let(N,q,y):=hg;let(S,R,p,Z):=϶F q;let(F,g,J,j,f4,l):=f it Û;let O:=R.À;show wpAny_pyNext_list_end ϳX T p.Ê ϳc ϭN
 self:=ϮH wpAny_pyIter_listiter
def EZ{P:Do}{w:Ev}{K:At}{tg:On}(a it:Ix):Ϯt (Itt K a) (h.IsTupleIter it a i) where
 mem:=Û
 obj:=λi h T b B=>by
  let e:b=it:=ϳR
  subst e;let(o,e,c,d):=T;show(o,e,ϪG)
 keep:=ύv (T.at λo e=>k it Û o e)
 item:=by
  ext X r W m C i n s A H E I f T hg;subst r W m;let(N,x,q,y):=hg;let(t,R,p,Z):=I.Ă q;let(u,U,L):=R.get y;let(F,g,J,j,f4,l):=f it Û;show wpAny_pyNext_tuple_item T (ϐa s.Ć) (x:=u) ϮZ λh' S M=>?_;let D:ù n A H ϰH:=ϖk (ĉ (M.2 b B) e);let(o,e,c,d):=id S;show(u,rfl,He (s:=ϰH) e c d Ý ⟨x,H,D,L,Ϸy (ϘE I.tuple_inj),S,ϯh⟩)
 done:=by
  ext X r W m C i n s A H E I f T hg;subst r W m;let(N,q,y):=hg;let(t,R,p,Z):=I.Ă q;let(F,g,J,j,f4,l):=f it Û;let O:=R.À;show wpAny_pyNext_tuple_end ϳX T (ϐa s.Ć) ϳc ϭN
 self:=ϮH wpAny_pyIter_tupleiter
def FC{P:Do}{w:Ev}{K:At}{tg:On}(it:Ix)(lo:Int)(n:Nat):Ϯt (Itr lo n) (ϗ0 1 (Ŵ-(i:Nat)) 1) where
 mem:=Û
 obj:=λi h T b B=>by
  let e:b=it:=ϳR
  subst e;show(_,T,ϕL)
 keep:=ύv (k it Û _ T)
 item:=by
  ext X r a m C i p s c H E I f T hg;subst r a m;let(F,g,J,j,f4,l):=f it Û;let W:=Walks.range (prog:=X.ø) (w:=X.w) ϳX it lo 1 n;show ϖr;let(t,rfl):=V;let d:ù p c H ((ϱk h' tk)):=I.ĝ (λb o B e=>q b o ϳR e) F g j f4 l;show(_,rfl,He (s:=(ϱk h' tk)) (n:="range_iterator") S rfl rfl Ý ⟨Ä<|lo+i,H,d,⟨t,?_⟩,ϻl,S,ϯh⟩);rw[Zbl]
 done:=by
  ext X r a m C i p s c H E I f T hg;subst r a m;let(F,g,J,j,f4,l):=f it Û;show wpAny_pyNext_range_end ϳX T ϘJ ϭN
 self:=ϮH wpAny_pyIter_rangeiter
section
variable{X:Cx}
def EG(K:At)(tl:TE):TI:=λb H R=>tl b H λx h=>ϐb (x=É a) SqL Itl
def Yr(K:At)(tl:TE):TI:=λb H R=>tl b H λx h=>ϐb (x=É a) SqT Itt
def HG(L:ā l tl):Ϸp l (EG X.K tl):=by
 ext i s g H R I h;show Ϲi ϙ3;let(x,d,c,r,f):=zq;obtain⟨a,e,⟨j,Q⟩,q⟩:=f;subst e;cases r;let(t,V,p,Z):=c.ê Q;show wpAny_pyIter_list p.Ê ?_;show(S.Á,Ϛx,_,_,d,rfl,ϐY ((ϲ0 (ő e))),JG a _,(_,Ϣ,rfl,rfl),ϹL,q);let e:ϐZ:=ϳR
 subst e;show c.fpOk ì<|c.É ì
def Vf(L:ā l tl):Ϸp l (Yr X.K tl):=by
 ext i s g H R I h;show Ϲi ϙ3;let(x,d,c,r,f):=zq;obtain⟨a,e,⟨j,Q⟩,q⟩:=f;subst e;cases r;let(t,V,p,Z):=c.Ă Q;show wpAny_pyIter_tuple (ϐa S.Ć) ?_;show(S.Á,Ϛx,_,_,d,rfl,ϐY ((ϲ0 (ő e))),EZ a _,(_,Ϣ,rfl,rfl),ϹL,q);let e:ϐZ:=ϳR
 subst e;show c.fpOk ì<|c.É ì
def C4{lo hi:Int}(I:Ģ)(h:-ϳ<=lo)(a:lo<ϳ)(f:-ϳ<=hi)(c:hi<ϳ)(q:R (Itr lo (ĩ ϶E)) H):Ő (pyIter<|É s.Á) ϙB E ((ϱk (ϳi ((Ċ "range" (ϐ #[Ä lo t,Ä hi u,Ä 1 v])))) tk)):=by
 show ϕ5 small_one;let i:ù H6 σ H ((ϱk (ϳi ((Ċ "range" (ϐ #[Ä lo t,Ä hi u,Ä 1 v])))) tk)):=I.ò (ϲ0 (ő e))
 show(Ι (ϳi<|(Ċ "range" (ϐ #[Ä lo t,Ä hi u,Ä 1 v]))),[Ι (ϳi<|(Ċ "range" (ϐ #[Ä lo t,Ä hi u,Ä 1 v])))],_,_,H,rfl,
  i.ò (t':=tk) (ϲ0 (ő e)),FC _ lo (ĩ ϶E),?_,ϹL,q)
 .let e1:lo+ä 0*1=lo:=Û
  let g:ä ((ĩ ϶E))-ä 0=ϗn 1:=by rw[rangeSize_one];split<;>lia
  change IsRangeIter _ _ (lo+ä 0*1) (ä ((ĩ ϶E))-ä 0) 1;rw[e1,g];show Ϣ
 let e:b=Ι (ϳi<|(Ċ "range" (ϐ #[Ä lo t,Ä hi u,Ä 1 v]))):=ϳR
 subst e;show i.fpOk ì<|i.É ì
def Q8(ta:TA):TI:=ϮU (∃j:Int,s=[Ä j]/\-ϳ<=j/\j<ϳ/\R (Itr 0 j.Ò) h)
def RB(ta:TA):TI:=ϮU (∃i j:Int,s=[Ä i,Ä j]/\(-ϳ<=i/\i<ϳ/\-ϳ<=j/\j<ϳ)/\R (Itr i (ĩ (j-i))) h)
def IW{p pos:Pos}(hg:γ "range")(M:ϧt)(A:ϱT [a] ta)(S:à (æ [a]=϶z ϰI)):Ϸp (ϳP "range" [a]) (Q8 ta):=by
 ext i s f H R I h;show Call_<|Ϗd<|K98 (Wp (Ϭ6 i s f H _ I h) λu l zq=>?_) S rfl;let(v,g,c,d,b):=zq;let(j,e,b,k,q):=b;subst e;cases d with|cons r rr=>cases rr;let(t,rfl):=r;show call_range_1 (C4 c Á Á b k<|ť q)
def IK{p pos:Pos}(hg:γ "range")(M:ϧt)(A:ϱT ϲa ta)(d:à (æ ϲa=ϻt ϰI ϲh))(S:à (æ [b]=϶z ϲh)):
  Ϸp (ϳP "range" ϲa) (RB ta):=by
 ext n s g H R I h;show Call_ (Ϗd<|ϛg<|by rw[S];rfl);let(v,m,c,f,Q):=zq;obtain⟨i,j,e,⟨Q,k,l,C⟩,q⟩:=Q;subst e;cases f with
 |cons r rr=>
  cases rr with|cons r' rr=>cases rr;let(t,rfl):=r;let(T,rfl):=r';show call_range_2<|C4 c Q k l C q
def XZ(wi:TI)(g:TG)(tb:TS):TS:=λD a H=>wi a H λJ d=>∃W:Nat->Nat->St->Ú Hp,(∃m,W 0 m a d)/\∀i m a H,W i m a H->
 (ώc H/\Ϥt H)\/(J.go i H/\∃N:St->Ú Hp,(∀b h,N b h->∃M,M<m/\W (i+1) M b h)/\∀x h,ϓx h->g x a h λc e=>ϖY c e)
def yV(f:À Ix)(h:Op):À ŝ:=f.filterMap λb=>Ê Ϸh λo=>(b,o)
def pf(B:b∈fp)(e:Ϸh=Ö):(b,o)∈yV fp h:=List.mem_filterMap.mpr ⟨b,B,ϒQ⟩
def JC(H:p∈yV fp h):p.1∈fp/\ϦJ p.1=Â p.2:=by
 let(b,B,e):=List.mem_filterMap.mp H;cases q:h.È b with
 |none=>rw[q]at e;cases e
 |some o=>rw[q]at e;let e':(b,o)=p:=K9R e;subst e';show(B,q)
def Inv.pinned(I:Ģ)(f:ϳB (ϵE H b))(j:ϳB (∃o,ϰc=Ö/\∀v,o.data≠š v)):ù (H6++yV fp s.Ì) σ H s:=
 I.pins_of λp h=>ϵb (K9Y.mp h) (λz=>ϻO<|Τ z) λz=>by let(B,e):=JC z;let(F,g,J,_):=f p.1 B;let(o,e',d):=j p.1 B;rw[e]at e';cases e';show(e,F,g,J,d)
def Inv.unpinned(I:ù (H6++pl) σ H s):Ģ:=I.pins_of λp h=>ϻO<|Τ<|ϰA h
def Sr{pos:Pos}(P:PassesOwn ϳQ X.A X.Ü X.xe)(K:ϗ)(hi:Ϸp iter wi)(hg:ϩR X)(B:ϴ4 body tb)(hs:ϸZ):ϲb ϗw (XZ wi g tb):=by
 ext p s O H D I h;show wpAny_For (Wp (Ϥo s O H _ I h) λv s1 h1=>Wp h1 λitv s2 h2=>?_) hs;obtain⟨it,F,tn,J,Q,e,V,T,A,G,W,⟨m0,w0⟩,turn⟩:=h2;subst e;let t:∀{l:Hp},ϐD->∀b∈F,nj X p l b:=λhn b B=>⟨hn b B,(G b B).2⟩
 show codeAny_forLoop_any (λn L=>∃i k l,ù p k l L/\tn i L.Ì/\ϐD/\W i n k l) ?_ m0 ⟨0,O,Q,V,A,λb B=>(G b B).1,w0⟩;ext n s3 ⟨i,σ3,H3,I3,st3,fr3,w3⟩;rcases turn i n σ3 H3 w3 with⟨stop,qn⟩|⟨go,N,hN,step⟩
 .apply ϥP<|ϯE (T.done X rfl rfl rfl K i p s3 σ3 H3 X.xe I3 (t fr3) st3 stop);let(hr,Y):=zq
  subst hr;show K8W ⟨σ3,H3,Y,qn⟩
 show ϥP<|ϯE (T.item X rfl rfl rfl K i p s3 σ3 H3 X.xe I3 (t fr3) st3 go);let(u,hr,h4):=zq;subst hr;show ϥP<|Wp h4 λ_ M zq=>?_;let(x,E,Z,r5,y5,S,R):=zq;let y:=Z.pinned (t R)<|ύh S;show ϥP<|Wp (ϛW<|step x E y5) λ_ s6 zq=>?_;let(C,U,I6,q6):=zq;show ϥP<|Wp (B _ s6 C U _ I6 q6) λf z q=>?_;let again:∀{a:St}{c:Hp},ù (p++yV F M.Ì) a c z->N a c->∃m,m<n/\∃i k l,ù p k l z/\tn i z.Ì/\ϐD/\W i m k l:=fun{a c} j w=>by
  let(m',hm,w7):=hN a c w;show(m',hm,i+1,a,c,j.unpinned,ϒR S (λb B o e=>(ϗr<|Τ<|Τ<|pf B e).1),ϹL,w7);let(o,e,d):=ύh S b B;show(ϗr<|Τ<|Τ<|pf B e).2.1
 cases f with|next=>let(a,c,j,w):=q;show again j w|cont=>let(a,c,j,w):=q;show again j w|brk=>let(a,c,j,q):=q;show(a,c,j.unpinned,q)|ret v=>let(x7,a,c,j,r7,q):=q;show(x7,a,c,j.unpinned,r7,q)
end
abbrev R2:=Ϫe (Ú VK)
def OpR(X:Cx)(f:ϫf)(r:R2):Prop:=
 ∀(p:À ŝ)(s:Da)(a:St)(H:Hp)(x y:V)(v u:Db)(Q:VK),ù p a H s->ϱ6 v->϶o->Ϭn->
  Ő (f v u) ϶2 X.xe s
def UnR(X:Cx)(f:Db->Sem Db)(r:V->Hp->Ú VK):Prop:=
 ∀(p:À ŝ)(s:Da)(a:St)(H:Hp)(x:V)(v:Db)(Q:VK),ù p a H s->ϱ6 v->ϭd->
  Ő (f v) ϶2 X.xe s
def eD(X:Cx)(f:Db)(r:À V->Hp->Ú VK):Prop:=
 ∀(p:À ŝ)(s:Da)(a:St)(H:Hp)(x:À V)(u:À Db)(Q:VK),ù p a H s->Vals x u->ϭd->
  Ő (call f u) ϶2 X.xe s
def tOp(r:R2)(ta tb:TE):TE:=ϧl (tb a h λy b=>r x y b Q)
def tUn(r:V->Hp->Ú VK)(ta:TE):TE:=ϧl (r x h Q)
def rI(C:Int->Ú Int)(g:ϱu Int V):R2:=ϰj (∃i j,x=Ä i/\y=Ä j/\C i j/\Q Ϸs H)
def rI0(g:ϱu Int V):R2:=ϰj (∃i j,x=Ä i/\y=Ä j/\Q Ϸs H)
def rU(g:Int->V):V->Hp->Ú VK:=λx H Q=>∃i,x=Ä i/\Q (g i) H
section
variable{X:Cx}{pos:Pos}
def Uy(A:ā a ta)(B:ā b tb){R:V->V->Ú Hp}(I:Ģ)(h:ta σ H λx e=>tb σ e λy c=>R x y c){Q:Db->Ú Da}{f:ϫf}(F:∀v u w x y c,ù H6 σ c w->ϱ6 v->϶o->R x y c->Ő (f v u) Q X.xe w):
  Ő ϰI (λv S=>Ő ϲh (λu d=>Ő (f v u) Q X.xe d) X.xe S) X.xe s:=by
 show Wp (A H6 s σ H _ I h) λv j zq=>?_;let(x,e,i,r,q):=zq;show Wp (B H6 j σ e _ i q) λu w zq=>?_;let(y,c,g,m,k):=zq;show F v u w x y c g r m k
def Y7(j:ϙk)(A:ā a ta)(B:ā b tb):ā ϙl ϯQ:=ϕt wpAny_BinOp ϗF
def WL(j:ϙC)(A:ā a ta):ā ϙm (tUn r ta):=ϙu (UnaryOp_<|Wp (ώP b H _ I h) λv S zq=>by let(x,c,i,R,q):=zq;show j p S b c x v Q i R q)
def opI{f:ϫf}{C:Int->Ú Int}{g:ϱu Int Int}
  (rule:∀(i j:Int)(t u:Tok)(s:Da)(Q:Db->Ú Da)(E:Db->Ú Da),C i j->Q (Ä Ϸs s.ã) Ϗ4->Ő (f (Ä i t)<|Ä j u) Q E s):
  ϩs (rI C λi j=>Ä Ϸs):=by
 ext p s a H x y v u Q I R Y h;let(i,j,rfl,rfl,c,q):=h;let(t,rfl):=R;let(T,rfl):=Y;show ϐ0 c ((ϵl (Ä Ϸs) ζ))
def Xt{f:ϫf}{g:ϱu Int Int}
  (rule:∀(i j:Int)(t u:Tok)(s:Da)(Q:Db->Ú Da)(E:Db->Ú Da),Q (Ä Ϸs s.ã) Ϗ4->Ő (f (Ä i t)<|Ä j u) Q E s):
  ϩs (rI0 λi j=>Ä Ϸs):=by
 ext p s a H x y v u Q I R Y h;let(i,j,rfl,rfl,q):=h;let(t,rfl):=R;let(T,rfl):=Y;show ϐ0 ((ϵl (Ä Ϸs) ζ))
def O3{f:ϫf}{g:Int->ϱP Int}
  (rule:∀(i j:Int)(t u:Tok)(s:Da)(Q:Db->Ú Da)(E:Db->Ú Da),Q (ã Ϸs) s->Ő (f (Ä i t)<|Ä j u) Q E s):
  ϩs (Ϲy Ϸs):=by
 ext p s a H x y v u Q I R Y h;let(i,j,rfl,rfl,q):=h;let(t,rfl):=R;let(T,rfl):=Y;show ϐ0 ⟨.bl Ϸs,H,I,rfl,q⟩
def YN(i j:Int):Prop:=ϐR
def M5(i j:Int):Prop:=(-(2^64)<i/\i<2^64)\/(-(2^64)<j/\j<2^64)
def M5.ok{i j:Int}(h:M5 i j):IntMulOk i j:=by
 rcases h with⟨H,a⟩|⟨H,a⟩
 .show .of_left ϙ4
 show .of_right ϙ4
def UZ:ϴC Add (rI0 λi j=>Ä<|i+j):=Xt (ϧm add_int)
def FL:ϴC Sub (rI0 λi j=>Ä<|i-j):=Xt (ϧm sub_int)
def Sq:ϴC Mult (rI M5 λi j=>Ä<|i*j):=ϐc (mul_int q C.ok)
def P1:ϴC FloorDiv (rI YN λi j=>Ä Ϥp):=ϐj (by let h:Ì 0<j:=C.1;let H:j<1073741824:=C.2;show floordiv_int Á (Ô (Zdx i Á) q) (Ð<|PyProof.noPylong_small Á))
def SE:ϴC Mod (Ϩ0 (0<j)<|λi j=>Ä<|i%j):=ϐj (by let h:Ì 0<j:=C;show mod_int' Á (Ô (ϛO Á) q))
def O7:ϴC Mod (Ϩ0 (j≠0)<|λi j=>Ä ύi):=ϐc (mod_int' C q)
def unI{f:Db->Sem Db}{g:ϴy Int}
  (rule:∀(i:Int)(t:Tok)(s:Da)(Q:Db->Ú Da)(E:Db->Ú Da),Q (Ä (g i) s.ã) Ϗ4->Ő (f<|Ä i t) Q E s):
  UnR X f (rU λi=>Ä<|g i):=by
 ext p s a H x v Q I R h;let(i,rfl,q):=h;let(t,rfl):=R;show rule i t s _ _ (ϵl (Ä<|g i) ζ)
def Gz:UnR X (unaryOp .USub) (rU λi=>Ä<|-i):=unI λ_ _ _ _ _ q=>neg_int q
end
def VW:V->ϱP V|.non,.non=>true| .non,.int _=>true| .int _,.non=>true| .non,.bl _=>true| .bl _,.non=>true| .non,.str _=>true| .str _,.non=>true|.int _,.int _=>true| .bl _,.bl _=>true| .str _,.str _=>true| .byt _,.byt _=>true|.int _,.str _=>true| .str _,.int _=>true| .bl _,.str _=>true| .str _,.bl _=>true|_,_=>false
def rEq:R2:=ϰj (ϓy/\Q (.bl<|Õ<|x=y) H)
def rNe:R2:=ϰj (ϓy/\Q (.bl<|! Õ (x=y)) H)
def GJ{i j:Int}:Õ (ϥI V.int)=(i==j):=ϳk K8j
def KS:Õ (ϥI V.bl)=(i==j):=ϳk K8j
def Hd:Õ (ϥI V.str)=(i==j):=ϳk K8j
def G0:Õ (ϥI V.byt)=(i.ð==j.ð):=by rw[K8j];cases i;cases j;simp
section
variable{X:Cx}{pos:Pos}
def bH(I:Ģ)(q:Q (.bl k) H)(e:k=k'):ϵW H6 σ Q (ã k') s:=by subst e;show(.bl k,H,I,rfl,q)
def YQ:ϵ7 Eq rEq:=by
 ext p s a H x y v u Q I R Y h;let(S,q):=h;cases x with
 |non=>
  cases R;cases y with
  |non=>cases Y;show PySem.EqNone.eq_none_none (η Û)
  |bl j=>cases Y;show PySem.EqNone.eq_none_bool (η Û)
  |int j=>let(T,rfl):=Y;show PySem.EqNone.eq_none_int (η Û)
  |str j=>let(T,rfl):=Y;show PySem.EqNone.eq_none_str (η Û)
  |_=>show ϵ4
 |bl i=>
  cases R;cases y with
  |non=>cases Y;show PySem.EqNone.eq_bool_none (η Û)
  |bl j=>cases Y;show eq_bool<|η KS
  |str j=>let(T,rfl):=Y;show PySem.EqMixed.eq_bool_str (η Û)
  |_=>show ϵ4
 |int i=>
  let(t,rfl):=R;cases y with
  |non=>cases Y;show PySem.EqNone.eq_int_none (η Û)
  |int j=>let(T,rfl):=Y;show eq_int<|η GJ
  |str j=>let(T,rfl):=Y;show PySem.EqMixed.eq_int_str (η Û)
  |_=>show ϵ4
 |str i=>
  let(t,rfl):=R;cases y with
  |non=>cases Y;show PySem.EqNone.eq_str_none (η Û)
  |bl j=>cases Y;show PySem.EqMixed.eq_str_bool (η Û)
  |int j=>let(T,rfl):=Y;show PySem.EqMixed.eq_str_int (η Û)
  |str j=>let(T,rfl):=Y;show eq_str<|η Hd
  |_=>show ϵ4
 |byt i=>
  let(t,rfl):=R;cases y with|byt j=>let(T,rfl):=Y;show PySem.W.eq_bytes<|η G0|_=>show ϵ4
 |_=>cases y<;>show ϵ4
def Wg:ϵ7 NotEq rNe:=by
 ext p s a H x y v u Q I R Y h;let(S,q):=h;cases x with
 |non=>
  cases R;cases y with
  |non=>cases Y;show PySem.EqNone.ne_none_none (η Û)
  |bl j=>cases Y;show PySem.EqNone.ne_none_bool (η Û)
  |int j=>let(T,rfl):=Y;show PySem.EqNone.ne_none_int (η Û)
  |str j=>let(T,rfl):=Y;show PySem.EqNone.ne_none_str (η Û)
  |_=>show ϵ4
 |bl i=>
  cases R;cases y with
  |non=>cases Y;show PySem.EqNone.ne_bool_none (η Û)
  |bl j=>cases Y;show ne_bool<|η<|Uf not KS
  |str j=>let(T,rfl):=Y;show PySem.EqMixed.ne_bool_str (η Û)
  |_=>show ϵ4
 |int i=>
  let(t,rfl):=R;cases y with
  |non=>cases Y;show PySem.EqNone.ne_int_none (η Û)
  |int j=>let(T,rfl):=Y;show ne_int<|η<|Uf not GJ
  |str j=>let(T,rfl):=Y;show PySem.EqMixed.ne_int_str (η Û)
  |_=>show ϵ4
 |str i=>
  let(t,rfl):=R;cases y with
  |non=>cases Y;show PySem.EqNone.ne_str_none (η Û)
  |bl j=>cases Y;show PySem.EqMixed.ne_str_bool (η Û)
  |int j=>let(T,rfl):=Y;show PySem.EqMixed.ne_str_int (η Û)
  |str j=>let(T,rfl):=Y;show ne_str<|η<|Uf not Hd
  |_=>show ϵ4
 |byt i=>
  let(t,rfl):=R;cases y with|byt j=>let(T,rfl):=Y;show PySem.W.ne_bytes<|η<|Uf not G0|_=>show ϵ4
 |_=>cases y<;>show ϵ4
def KW:ϵ7 Lt (Ϲy<|Õ<|i<j):=O3 (ϧm lt_int)
def Xw:ϵ7 LtE (Ϲy<|Õ<|i<=j):=O3 (ϧm le_int)
def L_:ϵ7 Gt (Ϲy<|Õ<|j<i):=O3 (ϧm gt_int)
def RE:ϵ7 GtE (Ϲy<|Õ<|j<=i):=O3 (ϧm ge_int)
def CF:ϵ7 Is (ϰj<|y=Β/\Q (.bl<|Õ<|x=Β) H):=by
 ext p s a H x y v u Q I R Y h;let(rfl,q):=h;cases Y;show is_none_gen<|η ?_;cases x<;>first
  |(cases R;rfl)
  |(let(t,rfl):=R;rfl)
def OpR.or(h:ϩs r)(h':ϩs r'):ϩs (ϰj<|Ϭn\/r' x y H Q):=by
 ext p s a H x y v u Q I R Y q;rcases q with q|q
 .show Ϧk a H x y v u Q I R Y q
 show h' p s a H x y v u Q I R Y q
def c6(b:On)(h:ϱD (op≠.In))(H:ϱD (op≠.NotIn)):ϪL:=by
 cases b with
 |Set e k p=>change Ł (k==0&&(op==.In||op==.NotIn)&&_);rw[show Ł (op==CmpOp.In||op==CmpOp.NotIn) by cases op<;>first|rfl|exact Ϡ h|exact Ϡ H,Bool.and_false];rfl
 |_=>rfl
def PV(j:ϮC)(A:ā a ta)(B:ā b tb)(M:ϪL):ā Ϯn ϯQ:=ϘD (wpAny_Compare1 (Uy A B I h λv u w x y c f R Y q=>ϗF) M)
def RL(t:TE):TT:=϶4 (λx h=>∃k,x=.bl k/\Q k h)
def NY(o:ϮC)(A:ā a ta)(B:ā b tb)(M:ϪL):ϸY Ϯn (RL ϯQ):=by
 ext p s d H Q I h;show wpAny_isTrue_Compare1 (Ϲi<|ώP d H _ I h) M;let(x,f,j,R,q):=zq;show Wp (B p S d f _ j q) λu D zq=>?_;let(y,g,l,w,n):=zq;show Wp (o p D d g x y v u _ l R w n) λc E zq=>?_;let(z,i,m,C,k,e,t):=zq;subst e;cases C;show K8b ⟨i,m,t⟩
def rQ:ϱB sizeLine<ϷH:=ϓl sizeLine_eq
def Gg:ϴC Add (ϰj<|∃i j,x=Ė i/\y=Ė j/\ŀ (i.À+j.À)/\Q (Ė<|i++j) H):=by ext p s a H x y v u Q I R Y h;let(i,j,rfl,rfl,Z,q):=h;let(t,rfl):=R;let(T,rfl):=Y;show add_str (λT tk=>(ϵl (Ė<|i++j) ζ)) Z
def vals1(r:ţ [x] us):∃u,us=[u]/\ϱ6 u:=by
 cases r with|cons r1 r2=>cases r2;show(_,rfl,r1)
def vals2(r:ţ ϶K us):∃u W,us=[u,W]/\ϱ6 u/\RelV y W:=by
 cases r with
 |cons r1 r2=>
  cases r2 with|cons r3 r4=>cases r4;show(_,_,rfl,r1,r3)
def Kx:ϹK (Ρ "abs") (∃i,x=[Ä i]/\Q (Ä ϪO) H):=by ext p s a H x U Q I r h;let(i,rfl,q):=h;let(u,rfl,t,rfl):=vals1 r;show call_abs_int λu tk=>(ϵl (Ä ϪO) ζ)
def Jj(C:ϗ):ϹK (Ρ "max") (∃i j,x=[Ä i,Ä j]/\Q (Ä (ϻe<|j > i)) H):=by
 ext p s a H x U Q I r h;let(i,j,rfl,q):=h;obtain⟨u,W,rfl,⟨t,rfl⟩,⟨T,rfl⟩⟩:=vals2 r;show max_two_ints ϳX ϖN
 cases J:j > i
 .rw[Os J,Os J];show(_,rfl)
 rw[P3 J,P3 J];show(_,rfl)
def JH(C:ϗ):ϹK (Ρ "min") (∃i j,x=[Ä i,Ä j]/\Q (Ä (ϻe<|j<i)) H):=by
 ext p s a H x U Q I r h;let(i,j,rfl,q):=h;obtain⟨u,W,rfl,⟨t,rfl⟩,⟨T,rfl⟩⟩:=vals2 r;show min_two_ints ϳX ϖN
 cases J:j<i
 .rw[Os J,Os J];show(_,rfl)
 rw[P3 J,P3 J];show(_,rfl)
end
def xi.some_of(r:xi ĥ o):∃u,o=ķ/\ϲj:=by
 cases o with|none=>show ϪM|some u=>show(u,rfl,r)
structure Con(K:At)(C:Ix)(f:Str)(v:V)(u:Db):Prop where
 at_:findIn K (É C) f=Â ķ
 rel:ϲj
 get:specialIn K u "__get__"=ϳo
 cp:Ł (PySem.W.copiedNames.contains f)
structure Room(k:Nat)(A:Go):Prop where
 hd:ϷV
 dp:A.depth+3*k+5<recursionLimit
 un:A.ħ+16*k+200<cLine
def Room.mono(r:ϴh A)(h:j<=k):Room j A:=⟨r.hd,Ĳ r.dp,Ĳ r.un⟩
def Room.deeper(r:Room (k+1) A)(env:Env):ϴh (A.Ĥ env):=
 ⟨r.hd,ϧJ r.dp (A.depth+1+3*k+5<_),ϧJ r.un (A.ħ+3+16*k+200<_)⟩
def Room.depth(r:ϴh A):A.depth<recursionLimit:=Ĳ r.dp
def Room.units(r:ϴh A):ϫu 64:=Ĳ r.un
def xg:TA:=λ_ H Q=>Q [] H
def iA(ta:TE)(tr:TA):TA:=ϧl (tr a h λX b=>Q ϦC b)
section
variable{X:Cx}{t:TA}{pos:Pos}
def tZ:ϱT [] xg:=λ_ _ _ _ H Q I h=>ϑF ⟨[],H,I,õ,h⟩
def f7(A:ā e te)(hr:ϱT es t)(S:à (æ Ũ=ϰG (æ es))):ϱT Ũ (iA te t):=by
 ext pos p s a H Q I h;rw[S];change ϶j _ (spliced<|ϰG (ϲD (æ es))) s;show ϯO<|Wp (ώP a H _ I h) λu d zq=>?_;let(x,b,i,r,q):=zq;show Wp (hr pos p d a b _ i q) λU w zq=>by let(g,c,f,m,k):=zq;show ⟨x::g,c,f,ą r m,k⟩
def Ob(t:TA):TE:=϶4 (λX h=>ŀ X.À/\∀p,h p=none->Q (É p) (ϑh<|Ī X))
def WI(t:TA):TE:=϶4 (λX h=>ŀ X.À/\∀p,h p=none->Q (É p) (ϑh<|ô X))
def Gv{x1}(h:ϱT es t):ā (ϻu x1 pos) (Ob t):=by
 ext p s d H Q I c;show wpAny_Tuple_spliced<|ϗN (λU S zq=>by let(x,a,i,r,z,q):=zq;show ⟨Ϙ r.À z,?_⟩;let f:ϘK:=i.É ì;show(É S.Á,ϕu<|Ī x,i.ĩ (t':=S.ã) (λb u e=>ő e) ì ?_,rfl,q _ f);show(z,U,r,(_,Ϣ,rfl,_,rfl)))
def V5(h:ϱT es t):ā (.List es pos) (WI t):=by
 ext p s d H Q I c;show wpAny_List_spliced<|ϗN (λU S zq=>by let(x,a,i,r,z,q):=zq;show ⟨Ϙ r.À z,?_⟩;let f:ϘK:=i.É ì;show(É S.Á,ϕu<|ô x,i.ĩ (t':=S.ã) (λb u e=>ő e) ì ?_,rfl,q _ f);show(z,U,0,r,Ϣ))
end
abbrev Sp:=À V->Hp->VK->Ú XK
abbrev CXT:=À Env->Hp->Da->XK->Db->Ú Da
structure Env0(P:Do)(w:Ev)(K:At)(mg:Ŏ)(base:Op)(A:Go)(outer:À Env)(s:Da)(H:Hp):Prop where
 frames:A.frames=Â outer
 mod:Mod K mg base
 bs:∀b o,base.È b=Ö->ϰc=Ö/\ϰ6
 bsz:ϑG base.Â
 funs:s.Ď base outer
 frf:∀b∈frs outer,ϰ6
 hok:ϩq H s.Ì
 bare:ϩX s.Ĭ
def CE(outer:À Env)(P:Do)(w:Ev)(H:Hp)(s:Da)(Q:VK)(u:Db)(S:Da):Prop:=
 ∃v h,S.os=s.os/\ϩX S.Ĭ/\Un (frs outer) [] H h s.Ì S.Ì/\ϩq h S.Ì/\ϲj/\Q v h
def CR(CX:CXT)(outer:À Env)(P:Do)(w:Ev)(H:Hp)(s:Da)(Q:VK)(E:XK)(r:Result)(S:Da):Prop:=
 match r with
 |.ok (.ret u)=>ϙD S
 |.ok _=>False
 |.error e=>ϑ6 e S
structure K1(P:Do)(w:Ev)(K:At)(mg:Ŏ)(base:Op)(CX:CXT)(k:Nat)(f:Ix)(fd:Fk)(ps:À Str)(sp:Sp):Prop where
 len:∀vs H Q E,sp vs H Q E->ώI vs.À
 run:∀(A:Go)(outer:À Env)(s:Da)(H:Hp)(args:Args)(us:À Db)(vs:À V)(Q:VK)(E:XK),ϴh A->ϔg mg base A outer s H->ϥj args (ps.Ċ us)->ţ vs us->sp vs H Q E->
  ϸB ϻv A (.call (É f) args) (CR CX outer P w H s Q E) s
def K1.imp{P:Do}{w:Ev}{K:At}{m:Ŏ}{base:Op}{CX:CXT}{k:Nat}{f:Ix}{fd:Fk}{S:À Str}{sp p:Sp}(F:ϳ5 m base CX k f fd S sp)
  (h:∀v H Q E,p v H Q E->ϫ2):ϳ5 m base CX k f fd S p:=
 ⟨λv H Q E q=>F.len v H Q E<|h _ _ _ _ q,λA outer s H args u v Q E hr he B V a=>ϛu<|h _ _ _ _ a⟩
section
variable{X:Cx}
def Inv.zS(I:Ģ):Env0 X.ø X.w X.K X.mg X.ı X.A X.ă s H:=
 ⟨I.ok.frames,I.ok.mod,I.bs,ϯX I.sz,I.stack,I.stkFree,I.hok,I.bare⟩
def Inv.after(I:Ģ)(h:CE X.ă X.ø X.w H s Q u s'):ϵW H6 σ Q u s':=by let(v,a,os,bare,un,O,r,q):=h;let(c,g,d,t,o):=s';obtain rfl:o=s.os:=os;show(v,a,I.call (h':=c) (g':=g) (d':=d) (t':=t) (ch:=[]) un O bare (λb z=>ĭ z Û),r,q)
end
def Dw(sp:Sp)(dvs:À V)(E:XK)(t:TA):TE:=϶4 (λs h=>sp (s++dvs) h Q E)
def Binds(K:At)(fd:Fk)(p:À Str)(d:À Db):Prop:=
 ∀(s:Da)(u:À Db),ϫI->Ã (u++d)=p.À->ϥj ϔh (p.Ċ<|u++d)
def Binds.all{K:At}{fd:Fk}{p:À Str}(h:∀u:À Db,u.À=p.À->bindArgs fd ϔh=pure (p.Ċ u)):Binds K fd p []:=λs u _ a=>by rw[K9d]at a⊢;show .of_eq<|h u a
def Passes(CX:CXT)(X:Cx)(E:XK):Prop:=∀(p:À ŝ)(a:St)(H:Hp)(s:Da)(e:Db)(S:Da),ù p a H s->CX X.ă H s E e S->X.xe e S
section
variable{X:Cx}{f C:Ix}{p pos apos:Pos}
def VJ(F:Ϗv f fd ps sp)(hr:ϴh X.A)(B:ϹG X.K ds)(d:ţ dvs ds)(x:Ϩh E)(I:Ģ)(r:ţ vs us)(h:sp ϔi H Q E):Ő (call (É f) us) (ϵW H6 σ Q) X.xe s:=by
 let m:ţ ϔi (us++ds):=r.đ d;let a:ώI (Ã (us++ds)):=Ϙ m.À (F.len _ _ _ _ h)
 show wpAny_call<|codeAny_mono (F.run X.A X.ă s H (ϱc us) (us++ds) ϔi Q E hr I.zS (B s us I.kIn a) m h) λr S q=>?_;cases r with
 |error e=>show x H6 σ H s e S I q
 |ok fl=>
  cases fl with|ret u=>show I.after q|next=>show ϳm q|brk=>show ϳm q|cont=>show ϳm q
def BX(F:Ϗv f fd ps sp)(hr:ϴh X.A)(hg:γ x)(M:X.mg x=Â (É f))(K:ϵo X.K (É f))(B:ϹG X.K ds)(D:ţ dvs ds)(b:Ϩh E)
  (A:ϱT Ũ t) (d:ϲz) (he:à (æ Ũ=ϰG (æ es))) (l:à (ϰX<|ϲD<|æ es)):
  ā (ϱb (ð p) Ũ pos) (Dw sp dvs E t):=by
 ext i s c H Q I h;show K8h<|Hu I hg M ?_ d;show callWith_K (h₀:=X.ı) I.ok.mod.kin K (ϫh<|Ϭ6 i s c H _ I h) he l;let(v,g,a,r,q):=zq;show(a.kIn,VJ F hr B D b a r q)
end
section
variable{fd:Fk}{ps ks:À Str}{p pos apos kpos:Pos}
structure KBinds(K:At)(fd:Fk)(ps ks:À Str)(g:ϱu (À Db) (À Db))(gV:ϱu (À V) (À V)):Prop where
 to:∀(s:Da)(us ws:À Db),ϫI->ώI (Ã (g us ws))->ϥj ⟨us,ks.Ċ ws⟩ (ps.Ċ<|g us ws)
 rel:∀{vs:À V}{us:À Db}{zs:À V}{ws:À Db},ţ vs us->Vals zs ws->ţ (gV vs zs) (g us ws)
end
structure Fq(N P:À Str)(sc:Scope):Prop where
 kind:sc.Ġ=ϻP
 co:Ł sc.isCoroutine
 gen:Ł sc.isGenerator
 nd:N.Í
 pre:N.Ö P.À=P
 par:∀x∈P,ϵf Ϻ2 (Â ο) (Â š)
 nofree:∀y∈sc.names,y.2≠Ϝ
def Ay{kindOf:Str->Ü NameKind}:∀{binds:À (Str×Db)}{m:Ŏ},ϖd bindL:=by
 induction _ with
  |nil=>
   ext _ _
   exact rfl
  |cons x28 r ih=>
   intro m h
   obtain⟨n,v⟩:=x28
   erw[bindL];rw[ih λw H=>h w<|ě H]
   split
   .let:x≠n:=ϧ1 (h v K9z)
    simp[this]
   .rfl
def AV{kindOf:Str->Ü NameKind}:∀{binds:À (Str×Db)}{m:Ŏ},ϖd bindC:=by
 induction _ with
  |nil=>
   ext _ _
   exact rfl
  |cons x43 r ih=>
   intro m h
   obtain⟨n,v⟩:=x43
   erw[bindC];rw[ih λw H=>h w<|ě H]
   split
   .rfl
   .let:x≠n:=ϧ1 (h v K9z)
    simp[this]
theorem AQ{kindOf:Str->Ü NameKind}:∀{P:À Str}{s:À Db}{i:Nat}{m:Ŏ},P.Í->á P=Ď->ϵT=ĥ->kindOf x=Â ο->
  ϒS (P.Ċ s) m x=ĥ:=by
 induction _ with
  |nil=>
   ext _ _ _ _ h _ _
   simp at h
  |cons p P ih=>
   ext x35 x36 m nd h1 h hk
   cases x35 with
    |nil=>
     simp at h
    |cons w s=>
     cases x36 with
      |zero=>
       simp at h1 h;subst h1;subst h;change ϒS ϯd m p=_;erw[bindL];rw[Ay λv H=>(ϨO).1 (K7w H).1,Os hk];simp
      |succ i=>
       change ϒS ϯd m x=_;erw[bindL];show ϻS (ϨO).2 (ť h1) ϱZ hk
theorem A1{kindOf:Str->Ü NameKind}:∀{P:À Str}{s:À Db}{i:Nat}{m:Ŏ},P.Í->á P=Ď->ϵT=ĥ->kindOf x≠Â ο->
  ϒT (P.Ċ s) m x=ĥ:=by
 induction _ with
  |nil=>
   ext _ _ _ _ h _ _
   simp at h
  |cons p P ih=>
   ext x14 x15 m nd h1 h hk
   cases x14 with
    |nil=>
     simp at h
    |cons w s=>
     cases x15 with
      |zero=>
       simp at h1 h;subst h1;subst h;change ϒT ϯd m p=_;erw[bindC];rw[AV λv H=>(ϨO).1 (K7w H).1,P3 hk];simp
      |succ i=>
       change ϒT ϯd m x=_;erw[bindC];show ϻS (ϨO).2 (ť h1) ϱZ hk
def start(N:À Str)(s:À V):St:=s.Ç some++ϳ3 (N.À-s.À) none
def z_(CX:CXT)(P:Do)(w:Ev)(K:At)(m:Ŏ)(base:Op)(N:À Str)(qual:Str)(scope:Scope)(f:Ix)(cd:Db)(A:Go)(outer:À Env)(s:Da)(H:Hp)(E:XK):Cx where
 prog:=P
 w:=w
 K:=K
 mg:=m
 base:=base
 A:=A.Ĥ<|ϺN cd
 N:=N
 s₀:=s
 H₀:=H
 env:=ϺN cd
 outer:=outer
 stack:=ϺN cd::outer
 ex:=[]
 calm:=true
 fn:=λ_=>true
 pn:=[]
 xe:=λe a=>ϷJ ϻv (A.Ĥ<|ϺN cd) (leaving (ϺN cd) e) (λ_ S=>ϑ6 e S) (λe' S=>ϑ6 e' S) a
def D6{sc:Scope}(h:Ϻ2=Â š):∃c,ϲ (cellsFrom n sc.names []) x=ī:=by let q:=K8E sc.names n []<|Ð h;show ϙf q
theorem JL{CX:CXT}{P:Do}{w:Ev}{K:At}{M:Ŏ}{base:Op}{N j:À Str}{qual:Str}{scope:Scope}{f:Ix}{cd:Db}{A:Go}{outer:À Env}{s F:Da}{H:Hp}{E:XK}{U:À Db}{l:À V}
  (S:Fq N j scope) (I:ϷV) (g:ϔg M base A outer s H) (O:Ϸn j.À) (r:Vals l U)
  (x:InCallC s s.Á (bindL (ϺN cd).kindOf (j.Ċ U) Ϸb) (ϺO (ů 1) []) (bindC (ϺN cd).kindOf (j.Ċ U) Ϸb) F):
  Inv ϕM [] (ϨG l) H F:=by
 let L:ώG j.À:=by let:=Ż S.pre;rw[K9f]at this;lia
 let(t,tk,rfl,B):=x.done;let o:∀b:Ix,b∉(ϕM).ex:=λb z=>ĭ (ύ (b∈([]:À Ix)) z) Û
 show((g.mod,S.kind,rfl,rfl,ì,λy z c t d=>?_,λy Y=>?_,λy c _ h=>?_,λ_=>I,Around.frames_deeper g.frames,Ø ϻl,λb z=>ĭ z<|o b,g.bs,g.bsz,λb _ _=>o b,λb z=>ĭ z<|o b,g.funs,g.frf),
  rfl,g.bare,Un.ò B,(_,x.toInCall.ns,λi y v t d J=>?_),λy c h=>⟨_,x.cell y c h⟩,g.É ì,λy c h=>?_,λp m=>ĭ (show p∈([]:À ŝ)from m) Û,g.hok.ò B,?_)
 .show ϛP<|K8M d
 .let Y:ϵf ϐE (Â š) (Â Ϝ):=Y
  rcases Y with Y|Y
  .show D6 Y
  show Ϡ<|S.nofree _<|K8M Y
 .show Zaj<|ϗb<|K8M h
 .let hi:i<l.À:=by
   erw[start]at d;cases hi:i<l.À
   .show hi
   rw[K9a ϐM]at d;rw[K8Z]at d;split at d<;>cases d
  let G:l[i]?=ĥ:=by
   erw[start]at d;rw[K9V ϐM,N2]at d;cases e:l[i]? with
   |none=>rw[e]at d;cases d
   |some a=>rw[e]at d;cases d;rfl
  let(u,C,R):=r.get G;let m:j[i]?=ϰO:=by rw[<-S.pre,K97 Á];show t
  let D:j.Í:=Ϙ S.pre (S.nd.sublist<|List.take_sublist _ _)
  show(u,R,?_);rcases S.par y (K9L m)with k|k
  .show Ð ⟨k,AQ D m C k⟩
  let(c,e):=D6 (n:=ů 1) k;show Ø ⟨Ð k,c,e,?_⟩;let q:=x.cell y c e;rw[A1 D m C<|by change ϐE≠_;rw[k];decide]at q;show q
 .show g.É<|Zaj<|ϗb<|K8M h
 erw[start];change ϔj;rw[K9v,K0,K8r];lia
def R4{CX:CXT}{P:Do}{w:Ev}{K:At}{m:Ŏ}{base:Op}{k:Nat}{f:Ix}{name qual:Str}{params:Arguments}{body:À No}{scope:Scope}{D kV doc pm c ct W:Db}{an Z:Ü Ix}
  {O:Η Ch} {N l:À Str} {sp:Sp} (U:ϫ3=Â ⟨W,Z,ϷE ϕF,O⟩) (C:ϸm c qual=true) (S:Fq N l scope)
  (len:∀a H Q E,sp a H Q E->a.À=l.À)
  (B:∀(A:Go)(outer:À Env)(s:Da)(H:Hp)(a:À V)(Q:VK)(E:XK),ϴh (A.Ĥ<|ϺN c)->sp a H Q E->
   ∃t,PSs ώ9 body t/\t {nx:=λ_ h=>Q Β h,rt:=Q} (ϨG a) H):
  ϳ5 m base CX (k+1) f ϕF l sp:=by
 show(len,λA outer s H args us a Q E hr j G r p=>?_);let L:=len _ _ _ _ p;let X:ϫI:=j.mod.kin.keeps (ϲ0 (j.bs b o e).1);let lim:s.heap.NoLimit:=j.mod.nolimit.keeps (ϲ0 (j.bs b o e).1);let i:∀y∈l.Ċ us,Ϻ1 y.1=Â ο\/(Ϻ1 y.1=Â š/\Μ (ϲ (ϺO (ů 1) []) y.1).isSome):=λ⟨n,v⟩ Y=>by
  rcases S.par n (K7w Y).1 with q|q
  .show Ð q
  show Ø ⟨q,K8E _ _ _<|Ð q⟩
 show Ϛ7<|G _ _ _ _ ?_;show wpAny_newFunctionEnv_cells S.Ġ i λenv he F x=>?_;subst he;show(lim.keeps x.toInCall.ĉ,codeAny_func ?_);let(t,T,M):=B A outer s H a Q E (hr.Ĥ _) p;let I:Inv ώ9 [] (ϨG a) H F:=JL S hr.hd j L r x;show K8m (T [] F (ϨG a) H _ I M) (λfl z g=>?_) λe z g=>g;let fin:∀{d:St}{h:Hp}{v:V}{u:Db},Inv ώ9 [] d h z->ϲj->Q v h->ϙD z:=
  fun{d h v u} J R q=>⟨v,h,J.os,J.bare,J.base,J.hok,R,q⟩
 cases fl with|ret u=>let(v,d,h,J,R,q):=g;show fin J R q|next=>let(d,h,J,q):=g;show fin (v:=V.non) (u:=Value.none) J rfl q|brk=>let(_,_,_,q):=g;show ϳm q|cont=>let(_,_,_,q):=g;show ϳm q
section
variable{X:Cx}{p pos:Pos}{t:TA}{id T:String}{r:À V->Hp->Ú VK}
def tCB(r:À V->Hp->Ú VK)(t:TA):TE:=϶4 (λs h=>r s h Q)
def Eu(C:ϳM (Ρ id) r)(hg:γ x)(M:ϥm)(v:Ϲj=Â (Ρ id))(A:ϱT Ũ t)(n:ϱD Ϲe)(d:ϲz)
  (he:à (æ Ũ=ϰG (æ es))) (l:à (ϰX<|ϲD<|æ es)):ā (ϱb (ð p) Ũ pos) (tCB r t):=by
 ext i s a H Q I h;show K8h<|Ϩr v ?_ n d;show PyProof.Rows.callWith_builtin1 ϕg he l
def JI(C:ϳM (Ω T) r)(hg:γ x)(M:ϥm)(v:Ϲj=Â (Ω T))(A:ϱT Ũ t)(n:ϱD Ϲe)(d:ϲz)
  (he:à (æ Ũ=ϰG (æ es))) (l:à (ϰX<|ϲD<|æ es)):ā (ϱb (ð p) Ũ pos) (tCB r t):=by
 ext i s a H Q I h;show K8h<|Ϩr v ?_ n d;show K98 ϕg he l
end
end L2
namespace HT
open PySem PyProof.Rows
section
open PySem.SeqAt
open PySem.AutoSeq1 (wpAny_loadPart')
open PySem.MeetsSeq PySem.MeetsSeq2 PySem.MeetsSeq3
end
def sIx(n d:Nat):Ü Int->Nat|none=>d|some v=>Ë (v<0) ((ĩ (v+Ŵ))) (min v.Ò n)
def CT(n d:Nat):sIx n d none=d:=rfl
def uS(n d k:Nat):sIx n d (Â ë)=min k n:=by
 change(Ë (ë<0) ((ĩ (ë+Ŵ)))<|min (ĩ (k:Int)) n)=min k n;rw[P3 Á,K9n]
end HT
namespace L2
open PySem PySem.Spec PyProof.Rows
abbrev TO:=St->Hp->Ú (Ü Int->Ú Hp)
def PO(X:Cx)(e:Ü On)(t:TO):Prop:=
 ∀(p:À ŝ)(s:Da)(a:St)(H:Hp)(Q:Ü Int->Ú Hp),ù p a H s->ϩr->
  Ő (evalPart e X.Ü) (λu S=>∃o h,ù p a h S/\IsPart u o/\Q o h) X.xe s
def GD:TO:=λ_ H Q=>Q none H
def Rm(t:TE):TO:=϶4 (λx h=>∃i,x=Ä i/\Q ϸy h)
def intsAre_of:∀{s:À Db},ţ ϱE s->ϫv:=by
 induction ns with
 |nil=>ext s r;rw[K9D]at r;cases r;show õ
 |cons n ns ih=>
  ext s r;rw[K9w]at r;cases r with|cons r1 r2=>let(t,e):=r1;subst e;show ą n t<|ih r2
section
variable{X:Cx}{te:TE}{lo hi:Ü On}{tl th:TO}{pos p2:Pos}
def Qm:PO X none GD:=by ext p s a H Q I h;rw[evalPart_none];show K9J ⟨none,H,I,ò,h⟩
def Py(h:ā e te):PO X Ϲ4 (Rm te):=by
 ext p s d H Q I w;rw[evalPart_some];show ϫh (Ϧk d H _ I w);let(x,a,b,r,c):=zq;let(i,rfl,q):=c;let(t,rfl):=r;show(ϸy,a,b,Ä i t,q)
def SlR(X:Cx)(r:V->ϱu (Ü Int) (Hp->Ú VK)):Prop:=
 ∀(p:À ŝ)(s:Da)(a:St)(H:Hp)(x:V)(v L u:Db)(lo hi:Ü Int)(l:Ix)(Q:VK),ù p a H s->ϱ6 v->s.heap.IsSliceOf l L u ò->IsPart L lo->IsPart u hi->r x lo hi H Q->
  ∃T id,typeLookup (Ω T) "__getitem__"=pure (Â<|Ρ id)/\s.TypeIs v T/\Ő (ϯF<|É l) ϶2 X.xe s
def tSl(r:V->ϱu (Ü Int) (Hp->Ú VK))(te:TE)(tl t:TO):TE:=λa H Q=>te a H λx h=>tl a h λl b=>t a b λu c=>r x l u c Q
def KA(hr:SlR X r)(he:ā e te)(m:PO X lo tl)(U:PO X hi th):ā (ŕ e Ϗ5 pos) (tSl r te tl th):=by
 ext p s a H Q I h;show Subscript_<|Ϲi ϮS;let(x,d,i,R,o):=zq;show wpAny_Slice<|Wp (m p S a d _ i o) λL A zq=>by let(l,f,g,pl,w):=zq;show Wp (U p A a f _ g w) λV z zq=>?_;let(u,c,j,pu,y):=zq;rw[evalPart_none];show ϴ1;let t:ù p a c {z with heap:=z.ÿ (Ċ "slice" (ϐ #[L,V,ò]))}:=j.ò (t':=z.ã) λb O q=>ő q;let(T,id,k,n,hg):=hr p {z with heap:=z.ÿ (Ċ "slice" (ϐ #[L,V,ò]))} a c x v L V l u z.Á Q t R ϘL pl pu y;change Ő (ϙ5 Ϗ5 v<|É z.Á) ϶2 X.xe {z with heap:=z.ÿ (Ċ "slice" (ϐ #[L,V,ò]))};show tail_any (ops:=[É z.Á,v]) n k hg (by with_unfolding_all rfl)
def NS(X:À V)(lo hi:Ü Int):À V:=ł (X.ä<|ϯm 0 lo)<|ϭ0 X.À
def El(X:À V)(lo hi:Ü Int):Ã (NS X lo hi)<=X.À:=by
 erw[NS];rw[K9f,K8y];lia
end
def ixN(n:Nat)(i:Int):όY:=Ë (0<=i) (if i<n then Â i.Ò else none) (if -Ŵ<=i then Â ((ĩ (i+n))) else none)
def atI{α:Type}(X:À α)(i:Int):Ü α:=ó (Ϲt i) λj=>ę X
def GX{i:Int}(h:ixN n i=ϱ7):seqIndex? i n=ϱ7/\j<n/\-Ŵ<=i/\i<n:=by
 erw[ixN]at h;cases a:0<=i
 .rw[Os a]at h
  cases H:i<n
  .rw[ϱU]at h
   let e:i.Ò=j:=ϸP;show(by rw[seqIndex_of a H,e],Á,Á,H)
  rw[ϲc]at h;cases h
 rw[P3 a]at h;cases H:-Ŵ<=i
 .rw[ϱU]at h
  let e:ĩ (i+n)=j:=ϸP;show(by rw[seqIndex_neg Á H,e],Á,H,Á)
 rw[ϲc]at h;cases h
def xN{i:Int}(h:atI xs i=ĥ):∃j,seqIndex? i xs.À=ϱ7/\Ϥu=ĥ/\j<xs.À/\-(Ì xs.À)<=i/\i<xs.À:=by
 erw[atI]at h;cases e:ixN xs.À i with
 |none=>rw[e]at h;cases h
 |some j=>rw[e]at h;let(H,a,f,c):=GX e;show(j,H,h,a,f,c)
def de{α:Type}{X:À α}{j:Nat}{v:α}(h:ę X=ĥ):Ť X Ĵ=ĥ:=by
 let J:όZ:=ϲI;let e:Ϲt Ĵ=ϱ7:=by erw[ixN];rw[Os Á,Os Á];simp
 erw[atI];rw[e];show h
def Ae(X:À α)(v:α):Ϲ2 (X++[v])=ĥ:=by
 let a:Ã (X++[v])=X.À+1:=Û
 let e:ixN (Ã (X++[v])) (-1)=Â X.À:=by
  erw[ixN];rw[a,P3 Ý,Os Á]
  congr 1
  lia
 erw[atI];rw[e];change(X++[v])[X.length]?=ĥ;simp
def xB(b:On):Prop:=∀o i,subscripted b false o i=operate [o,i] (getItem o i)
def IxR(X:Cx)(r:R2):Prop:=
 ∀(value slice:On)(p:À ŝ)(s:Da)(a:St)(H:Hp)(x y:V)(v u:Db)(Q:VK),ù p a H s->ϱ6 v->϶o->Ϭn->
  ϗ4 v u=operate [v,u] (ϯF u)->Ő (subscriptTail value slice v u) ϶2 X.xe s
def MtR(X:Cx)(id:String)(r:V->À V->Hp->Ú VK):Prop:=
 ∀(p:À ŝ)(s:Da)(a:St)(H:Hp)(x:V)(S:À V)(v:Db)(u:À Db)(Q:VK),ù p a H s->ϱ6 v->Vals S u->r x S H Q->
  Ő (call (Ρ id)<|v::u) ϶2 X.xe s
section
variable{X:Cx}{a b:On}{pos:Pos}
def IxR.or(h:ϸU r)(h':ϸU r'):ϸU (ϰj<|Ϭn\/r' x y H Q):=by
 ext value slice p s a H x y v u Q I R Y q S;rcases q with q|q
 .show h value slice p s a H x y v u Q I R Y q S
 show h' value slice p s a H x y v u Q I R Y q S
def Hb(hr:ϸU r)(A:ā a ta)(B:ā b tb)(S:xB b):ā (ŕ a b pos) ϯQ:=ϕt Subscript_ (ϛJ ϤE)
def Av(K:At):R2:=ϰj (∃p X i v,x=É p/\y=Ä i/\μ p X/\Ť X i=ĥ/\Q v H)
def Wi(K:At):R2:=ϰj (∃p X i v,x=É p/\y=Ä i/\Ϲ3 p X/\Ť X i=ĥ/\Q v H)
def V9:R2:=ϰj (∃z i c,x=Ė z/\y=Ä i/\ŀ z.À/\ϐ1=ī/\Q (Ė ϥt) H)
def Hr:ϸU (Av X.K):=by
 ext value slice n s c H x y v u Q I m Y h S;let(p,B,i,z,rfl,rfl,k,he,q):=h;cases m;let(t,rfl):=Y;let(T,r,pl,Z):=I.ê k;let(j,a,d,A,f,g):=xN he;let(w,e,R):=r.get d;let l:=r.À;let N:=rQ;let fin:ϵW n c Q w s:=ϑK;cases b:0<=i
 .let J:i.Ò=j:=ϖs
  show item_listR pl.Ê b Á Ϯu fin S
 let J:ĩ (i+Ì T.Ø)=j:=by
  rw[seqIndex_neg Á f]at a;rw[K9W,<-l];show ϦO
 show ϗG pl.Ĕ slot_list_getitem.Ð (wpAny_getItem_list_neg (Q:=λr o=>r=w/\ϵW n c Q r o) pl.Ê Á ϐS Á Ϯu (Ϸy fin)) S
def Vc:ϸU (Wi X.K):=by
 ext value slice n s a H x y v u Q I f Y h S;let(p,A,i,z,rfl,rfl,d,he,q):=h;cases f;let(t,rfl):=Y;let(T,r,pl,Z):=I.Ă d;let(j,b,c,k,m,o):=xN he;let(w,e,R):=r.get c;let l:=r.À;let N:=rQ;let fin:ϵW n a Q w s:=ϑK;show ϗG pl.Ā slot_tuple_getitem.Ð (getItem_tuple (j:=j) (Q:=λr g=>r=w/\ϵW n a Q r g) pl Á Á (by rw[K9W,<-l];show b) ϵh (Ϸy fin)) S
def Sw:ϸU V9:=by
 ext value slice p s k H x y v u Q I R Y h S;let(z,i,c,rfl,rfl,Z,he,q):=h;let(t,rfl):=R;let(T,rfl):=Y;let(j,a,b,f,d,e):=xN he;let l:z.cps.toList.À=z.À:=Ϯ Str.length
 rw[l]at a d e;let n:=rQ;show tail_any Ϛy slot_str_getitem.Ð (getItem_str (c:=c) (by
  let e1:Ł (Õ (i < -(ϷH:Int))):=K9q Á;let g:Ł (Õ (i ≥ ϷH)):=K9q Á
  rw[e1,g,Bool.or_false]) (by rw[a];simpa using b) (ϵl (Ė ϥt) ζ)) S
def rIx(K:At):R2:=ϰj (Av K x y H Q\/Wi K x y H Q\/V9 x y H Q)
def uj:ϸU (rIx X.K):=Hr.or<|Vc.or Sw
def E1(i:À Db)(n j:Nat)(u:Db):ϖI ((Ċ "list" Ϻ5))=Ċ "list" (ϰe (i.ß j u) n):=Ϯ Obj.mapSeq
def Inv.lst{P:À ŝ}{a:St}{H:Hp}{s:Da}{p:Ix}{x:À V}(I:ù P a H s)(h:H p=Â (ô x)):
  ∃(i:À Db)(n:Nat),Vals x i/\ϒw=Â ((Ċ "list" Ϻ5))/\ŀ x.À:=by
 let(z,i,n,r,e):=ύx h;show(i,n,r,e,z)
def Inv.lstUpd{s:Da}{S y:À V}{i its':À Db}{f:Obj->Obj}(I:Ģ)(h:H p=Â (ô S))(j:ϒw=Â ((Ċ "list" Ϻ5)))(F:f (Ċ "list" Ϻ5)=Ċ "list" (δ its'.Æ n'))(r:Vals y its')(Z:ŀ y.À)(t:Nat):
  ù H6 σ (ļ p<|ô y) {s with heap:=ϑL f,toks:=t}:=by
 let e:ϰV (ϑL f) p=Â ((Ċ "list" (δ its'.Æ n'))):=by rw[K7u f j (by rw[F]<;>rfl),F]
 show I.write (x:=p) (e:=p) (by rw[h];trivial) (Ð rfl) (λb u B q=>ĉ (ϕI _ _<|K8g B) q) ⟨_,e⟩ ?_;show(Z,its',n',r,e)
def Hw:V->Ϫe (Ú (Ú Hp)):=λo i v H Q=>∃p X k j,o=É p/\i=Ä k/\H p=Â (ô X)/\Ϲt k=ϱ7/\Q (ļ p<|ô<|Ϸ4 v)
def set_list:UP X Hw:=by
 ext P s g H o i v y w u Q I ro R V h;let(p,x,k,j,rfl,rfl,e,J,q):=h;cases ro;let(t,rfl):=R;let(T,n,r,O,Z):=I.lst e;let(a,m,f,d):=GX J;let l:=r.À;let N:=rQ;let b:ù P g (ļ p<|ô<|x.ß j v) ((ϹJ (ϑL ϖI))):=
  I.lstUpd e O (E1 T n j u) (r.ß V j) (ϓc K8z) s.ã
 cases c:0<=k
 .let K:k.Ò=j:=by rw[seqIndex_of c d]at a;show ϦO
  show PySem.W.ki_setAt O c Á (by rw[K9W,<-l];show d) (Ô K (_,b,q))
 let K:ĩ (k+Ì T.Ø)=j:=by
  rw[seqIndex_neg Á f]at a;rw[K9W,<-l];show ϦO
 show PySem.W.ki_setBack O Á (by rw[K9W,<-l];show f) Á (Ô K (_,b,q))
def Bz(lo hi:Ü Int)(n:Nat):(ϏX).1=ä (HT.sIx n 0 lo)/\Ϝx (ϏX).2 (ä (HT.sIx n n hi)) 1:=by
 show(?_,?_,rfl)
 .cases lo with
  |none=>simp[sliceBounds,HT.sIx]
  |some i=>
   simp only[sliceBounds,HT.sIx,Option.getD_none,ϱl (Ì 1 > 0),K83];cases h:i<0
   .simp only[h,K83]<;>lia
   simp only[h,if_false]<;>lia
 cases hi with
 |none=>simp[sliceBounds,HT.sIx]
 |some i=>
  simp only[sliceBounds,HT.sIx,Option.getD_none,ϱl (Ì 1 > 0),K83];cases h:i<0
  .simp only[h,K83]<;>lia
  simp only[h,if_false]<;>lia
def Aw(i:À Db)(lo hi:Ü Int):slicePick i.Æ lo hi none=Ϻo (ł (i.ä<|HT.sIx i.À 0 lo)<|ϭ0 i.À):=by let(h,H,f):=Bz lo hi i.Ø;erw[slicePick];rw[h,H,f];simp only[sliceRange_one,pick_run,K9W]<;>rfl
def Y0(K:At):V->ϱu (Ü Int) (Hp->Ú VK):=λx lo hi H Q=>∃a X,x=É a/\μ a X/\∀p,ϵw->Q (É p) (ļ p<|ô<|NS X lo hi)
def du:SlR X (Y0 X.K):=by
 ext p s e H x v V u lo hi L Q I R c pl pu h;let(a,S,rfl,d,q):=h;cases R;let(i,r,t,Z):=I.ê d;let l:=r.À;show("list",_,slot_list_getitem.lookup,t.isList.typeIs,?_);show ϙz t.Ê c pl pu ò Û ?_ ϐS;rw[Aw,<-l];show(É s.Á,_,ϮV (o:=ô<|NS S lo hi) (λb O q=>ő q) ì ?_,rfl,q _<|I.É ì);show(K9C (El S lo hi) Z,_,0,ł (r.ä<|HT.sIx S.À 0 lo)<|ϭ0 S.À,Ϣ)
def Yy:ϱP V|.non=>true|.bl _=>true|.int _=>true|.str _=>true|_=>false
def B4:ϹK (Ρ "len") (∃p y,x=[É p]/\(ϴY H p y\/Ϭm p y)/\Q (Ä y.À) H):=by
 ext n s c H x U Q I r h;let(p,y,rfl,a,q):=h;let(u,rfl,b):=vals1 r;cases b;let N:=rQ;rcases a with a|a
 .let(i,R,pl,Z):=I.ê a
  let l:=R.À;show Calls.call_len_list pl.Ê Ϯo (ϵl (Ä y.À) ϗH)
 let(i,R,pl,Z):=I.Ă a;let l:=R.À;show len_tuple pl Ϯo (ϵl (Ä y.À) ϗH)
def Cs:ϹK (Ρ "len") (∃z,x=[Ė z]/\ŀ z.À/\Q (Ä z.À) H):=by ext p s a H x U Q I r h;let(z,rfl,Z,q):=h;let(u,rfl,t,rfl):=vals1 r;let n:=rQ;show len_str Á (ϵl (Ä z.À) ζ)
def eD.or(h:ϳM f r)(h':ϳM f r'):ϳM f (λx H Q=>ϭd\/r' x H Q):=by
 ext p s a H x u Q I rs q;rcases q with q|q
 .show Ϧk a H x u Q I rs q
 show h' p s a H x u Q I rs q
def B_:ϹK (Ω "list") (∃p y,x=[É p]/\(ϴY H p y\/Ϭm p y)/\∀l,H l=none->Q (É l) (ļ l<|ô y)):=by
 ext P s f H x U Q I r h;let(p,y,rfl,a,q):=h;let(u,rfl,c):=vals1 r;cases c;let fin:∀(i:À Db),Vals y i->ŀ y.À->∀(h':Op)(G:Nat),(∀b O,ϱL ϰc (some O) h'.È)->
   ϺS=Â ((ϸ2 "list" (δ i.Æ G)))->ϵW P f Q (É s.Á) ϰH:=λi R Z h' G k e=>
  ⟨É s.Á,_,ϮV k ì (ύ (Ϲn _ h' _ (ô y)) ⟨Z,i,G,R,e⟩),rfl,q _<|I.É ì⟩
 rcases a with a|a
 .let(i,R,pl,Z):=I.ê a
  let L:=R.À;let(o,j,C,n,d):=pl.Ê;show call_list_seq p (Ð rfl) j C d ϖO Ϯo
 let(i,R,pl,Z):=I.Ă a;let L:=R.À;let(o,j,C,n,d):=pl;show call_list_seq p (Ø rfl) j C d ϖO Ϯo
def tyV(K:At)(T:String)(x:V)(H:Hp):Prop:=match x with
 |.str _=>T="str"
 |.int _=>ϩt
 |.ref p=>(T="list"/\∃X,μ p X)\/(T="tuple"/\∃o,K.Ð p=Ö/\o.cls=Ω "tuple"/\o.dict=none)\/
   (T="dict"/\((∃Fv,H p=Â ϶m)\/∃Fv,H p=Â ϥN))\/(T="set"/\∃S n,H p=Â (.set S n))
 |_=>False
theorem KY(I:Ģ)(r:ϱ6 v)(ty:tyV X.K T x H):
  s.TypeIs v T/\∀a,v=É a->∃O,ϯK=some O/\O.dict=none:=by
 cases x with
 |str z=>
  let(t,rfl):=r;cases(ύ (T="str") ty);show(Ϛy,λ_ e=>nomatch e)
 |int i=>
  let(t,rfl):=r;cases(ύ ϩt ty);show(typeIs_int s i t,λ_ e=>nomatch e)
 |ref p=>
  cases r;rcases ty with⟨rfl,f,q⟩|⟨rfl,o,k,C,d⟩|⟨rfl,k⟩|⟨rfl,S,n,k⟩
  .let(b,_,pl,_):=϶F q
   show(pl.Ĕ,λa e=>?_);cases e;let(o,n,e,c,d,_):=pl;show(o,e,d)
  .apply((o,I.kIn p o k,C),λa e=>?_)
   cases e;show(o,I.kIn _ o k,d)
  .let z:∃o,ϒw=Ö/\o.ExactDict:=by
    rcases k with⟨Fv,k⟩|⟨Fv,k⟩
    .let(_,_,_,_,o,_,_,e,ex,_):=ύx k
     show(o,e,ex)
    let(_,_,_,_,o,_,_,e,ex,_):=ύx k;show(o,e,ex)
   let(o,e,ex):=z;show((o,e,ex.1),λa g=>?_);cases g;show(o,e,ex.2.1)
  let(o,_,_,_,e,ex,_):=ύx k;show((o,e,ex.1),λa g=>?_);cases g;show(o,e,ex.2.1)
 |_=>show ϳm ty
def WR(K:At)(T:String)(r:V->À V->Hp->Ú VK)(to:TE):TE:=ϗY (r x [] h Q)
def tBM(K:At)(T:String)(r:V->À V->Hp->Ú VK)(to:TE)(t:TA):TE:=ϗY (t a h λX b=>r x X b Q)
variable{apos cpos:Pos}{T id:String}
def Ux(P:PlainAttrs T)(slot:Slot T name id)(t:typeOf (Ρ id)=pure (Ω "method_descriptor"))(M:ϔk)(j:ā o to)
  (b:à ώ5) (l:à Ϯb):ā (ϱb (ϴL o name apos) [] cpos) (WR X.K T r to):=by
 ext p s a H Q I h;show ϛS<|Ϲi ϙ1;let(x,c,i,R,ty,q):=zq;let(d,e):=KY i R ty;show(T,id,P,slot,t,d,e,ϕj<|PySem.evalArgs_none<|M p S a c x [] v [] Q i R õ q)
def Ru(P:PlainAttrs T)(slot:Slot T name id)(y:typeOf (Ρ id)=pure (Ω "method_descriptor"))(M:ϔk)(O:ā o to)(n:ϱT Ũ t)
  (b:à ώ5)
  (f:autoParam (((ϺZ<|æ Ũ).all Ϲz&&ώ3
   &&Õ (Ã Ũ+Ã ([]:À Keyword)+(Ë ([]:À Keyword).isEmpty 0 1)<30))=true) mqaa.é)
  (i:à Ϯb) (S:à (æ Ũ=ϰG (æ es))) (l:à (ϰX<|ϺZ<|æ es)):
  ā (ϱb (ϴL o name apos) Ũ cpos) (tBM X.K T r to t):=by
 ext p s a H Q I h;show ϛK<|Wp (O p s a H _ I h) λv z zq=>?_;let(x,d,c,R,ty,q):=zq;let(k,m):=KY c R ty;show(T,id,P,slot,y,k,m,?_);let A:=n cpos p z a d _ c q;rw[S]at A⊢;show Calls.callWith_builtin (by change Ł (false||(ϺZ<|æ es).any ϔ);rw[l]<;>rfl)<|Calls.evalArgs_plain ?_;show Wp A λU B zq=>by let(V,g,j,w,u):=zq;show M p B a g x V v U Q j R w u
end
def MtM(X:Cx)(id:String)(r:V->À V->Hp->Ú VK):Prop:=
 ∀(p:À ŝ)(s:Da)(a:St)(H:Hp)(x:V)(S:À V)(v:Db)(u:À Db)(Q:VK),ù p a H s->ϱ6 v->Vals S u->r x S H Q->
  Ő (call (Ρ id)<|v::u) ϶2 X.xe s
def Vals.one(h:ţ [x] us):∃u,us=[u]/\ϱ6 u:=by
 cases h with|cons r t=>cases t;show(_,rfl,r)
def Vals.two(h:ţ ϶K us):∃u v,us=[u,v]/\ϱ6 u/\RelV y v:=by
 cases h with|cons r t=>let(v,rfl,q):=Vals.one t;show(_,v,rfl,r,q)
def Vals.zero:∀{s:À Db},ţ [] s->s=[]|_,.nil=>rfl
def Vals.dropLast(h:Ϥe us):ţ xs.Ù us.Ù:=by
 induction h with
 |nil=>show õ
 |cons r t ih=>
  cases t with|nil=>show õ|cons q t'=>show ą r ih
def Vals.reverse(h:Ϥe us):ţ xs.å us.å:=by
 induction h with|nil=>show õ|cons r t ih=>rw[K8T,K8T];show Vals.append ih<|ą r õ
def Vals.rep(h:Ϥe us):∀k:Nat,ţ ((ϤN (ϳY xs))) ((ϤN (ϳY us)))|0=>õ|k+1=>ϗC Vals.append Vals.rep
def Fy(l:À α):l.eraseIdx (l.À-1)=l.Ù:=by
 induction l with
 |nil=>rfl
 |cons a r ih=>
  cases r with
  |nil=>rfl
  |cons b r=>
   let e:Ã (a::b::r)-1=(Ã (b::r)-1)+1:=by
    let h:Ã (a::b::r)=r.À+2:=rfl;let H:Ã (b::r)=r.À+1:=rfl;lia
   rw[e,List.eraseIdx_cons_succ,ih]
   all_goals rfl
theorem foldl_rep(i:À Db):∀(k:Nat)(a:À Db),
  List.foldl (λx b=>x++b) a.Æ (ϳY i.Æ)=Ϻo (a++ϤN (ϳY i)):=by
 induction _ with
  |zero=>
   intro a
   simp
  |succ k ih=>
   intro a
   let e:a.Æ++i.Æ=Ϻo (a++i):=Û
   let g:(a++i)++ϤN (ϳY i)=a++ϤN (ϳ3 (k+1) i):=by rw[K99,K8a,K9M]
   rw[<-g,<-ih (a++i),<-e,K99,List.foldl_cons]
section
variable{s:Da}{xs ys zs:À V}
def Inv.lset{i its':À Db}{f:Η Db->Η Db}(I:Ģ)(h:H l=Â (ô xs))(e:s.Ë l=Â ((Ċ "list" Ϻ5)))(F:f i.Æ=its'.Æ)(v:Vals ys its')(Z:ŀ ys.À):
  ù H6 σ (ļ l<|ô ys) ((ϱk (s.Ī l<|Obj.mapSeq f) t')):=by
 let q:=PySem.IsL.update e f;rw[F]at q;show I.write (x:=l) (e:=l) (by rw[h];show trivial) (Ð rfl) (λb u B U=>ĉ (ϕI s.Ì (Obj.mapSeq f)<|K8g B) U) ⟨_,q⟩ ?_;show(Z,its',_,v,q)
def Inv.lnew(I:Ģ)(h:Vals ys its)(Z:ŀ ys.À):
  ù H6 σ (ϵ2<|ô ys) ((ϱk (ϳi ((Ċ "list" (δ its.Æ)))) t')):=
 I.ĩ (λ_ _ q=>ő q) ì ⟨Z,its,0,h,Ϣ⟩
def Inv.fresh(I:Ģ):ϘM:=I.É ì
def Inv.lstM(I:Ģ)(h:H l=Â (ô xs)):ŀ xs.À/\∃(i:À Db)(n:Nat),Ϥe i/\Ϛz/\s.Ë l=Â ((Ċ "list" Ϻ5)):=by let(z,i,n,r,e):=I.hok l _ h;show(z,i,n,r,r.length,e)
def DH(h:όq):Ł (Builtin.List.listTooLong n):=ϵp Builtin.List.listTooLong (K9q Á)
end
def CM:V->À V->Hp->Ú VK:=λx s H Q=>∃l X y,x=É l/\s=[y]/\H l=Â (ô X)/\ϥY X.À/\Q Β (ļ l<|ô<|X++[y])
def wC:MtM X "list.append" CM:=by
 ext p s d H x V v U Q I b R h;let(l,S,y,rfl,rfl,a,Z,q):=h;cases b;let(u,rfl,L):=R.one;let(z,i,n,r,c,e):=I.lstM a;show K86 F.slot_list_append ϧW F.entry_list_append (F.args_list_append_2 _ _) (ϛC<|Ă K9W) ϔl;show(Β,_,ϒt (i++[u]) Û (r.đ<|ą L õ) ?_,rfl,q);rw[K9v,K9e];lia
def CA:V->À V->Hp->Ú VK:=λx s H Q=>∃l b X zs,x=É l/\s=[É b]/\H l=Â (ô X)/\H b=Â (ô zs)/\ŀ (ϻU X.À)/\Q Β (ļ l<|ô<|X++zs)
def AR:MtM X "list.extend" CA:=by
 ext p s k H x S v U Q I c V h;let(l,b,f,zs,rfl,rfl,a,B,Z,q):=h;cases c;let(u,rfl,R):=V.one;cases R;let(z,t,n,r,d,e):=I.lstM a;let(j,i,N,m,L,g):=I.lstM B;let hsz:ŀ ϖ6:=Ϲ K9W K9W
 let o:¬Μ (!t.toArray.isEmpty&&Builtin.List.listTooLong ϖ6):=Ζ (DH hsz) Bool.and_false K9o
 apply K86 F.slot_list_extend ϧW F.entry_list_extend (F.args_list_extend_2 _ _)
  (AutoSeq1.list_extend_list_list_0 l t.Æ n b i.Æ N o (Ă K9W) Á) ⟨e,g,?_⟩
 show(Β,_,ϒt (t++i) Û (r.đ m) ?_,rfl,q);rw[K9v];lia
def Wh:V->À V->Hp->Ú VK:=λx s H Q=>∃l X y,x=É l/\s=[]/\H l=Â (ô X)/\X[ϫT]?=ϰO/\Q y (ļ l<|ô X.Ù)
def TN:MtM X "list.pop" Wh:=by
 ext p s j H x f v S Q I d V h;let(l,g,y,rfl,rfl,a,c,q):=h;cases d;let U:=V.zero;subst U;let(z,i,n,r,L,e):=I.lstM a;let(u,b,R):=r.get c;let Y:i.Æ[ϚA]?=ķ:=by
  change i.Æ[i.À-1]?=ķ;rw[<-Array.getElem?_toList,<-L];show b
 show K86 F.slot_list_pop ϧW F.entry_list_pop (F.args_list_pop_1 _) (ϛp<|Ă K9W) ϔl;show(y,_,ϒt i.Ù ?_ r.Ù ?_,R,q)
 .change i.toArray.eraseIdxIfInBounds ϚA=i.dropLast.Æ
  rw[K9W,List.eraseIdxIfInBounds_toArray,Fy]
 rw[Zcz];lia
def len_rep(X:À α)(k:Nat):(ϳY X).flatten.length=k*X.À:=by
 induction k with|zero=>simp|succ k ih=>rw[K99,K8a,K9v,ih,Zdo,Zct]
end L2
namespace Att
open PySem PySem.W PySem.Calls PyProof.Rows
def xp:∀(ns:À Int)(s:À Db),WellAll P h s ϙ6->ϫv:=by
 ext ns
 induction ns with
 |nil=>ext s w;rw[K9D]at w;cases w;show õ
 |cons n ns ih=>
  ext s w;rw[K9w]at w;cases w with|cons a b=>cases a;show ą _ _<|ϲ2 b
theorem Jg{l:OpenLaw}(N:l.most=ϵL){h:Op}(p:l.row.toRowW.claim.pre args=true)(w:WellAll P h vals args):
  ∃a v ns,vals=[ϹA]/\args=[WData.ê ϙ6]/\ϴV=Â ((Ċ "list" (δ v.Æ)))/\IntsAre v ns/\ϯ7:=by
 let s:WShape.hasAll [] args [Ï Ä]=true:=(pre_splitW p).1;let C:l.pre.holds [] {args:=args}=true:=(pre_splitW p).2;let(d,r,rfl,H,b):=hasAllW_cons s;obtain rfl:=hasAllW_nil b;let(X,rfl,f):=hasW_list H;let(ns,rfl):=items_int f;let e:ϯ7:=by
  erw[OpenLaw.pre]at C;let c:(WTm.not<|.lt (.lit<|Ä Ŵ)<|.len<|.arg 0).holds [] {args:=[Ï<|ns.Ç Ä]}=true:=by let c:=(holds_andW C).1;rw[N]at c;show c
  let g:=condW_of c<|w_not<|w_lt w_lit<|w_len_list<|w_arg rfl;rw[K0]at g;show Nat.le_of_not_lt λq=>?_;let Q:Ŵ<Ì ns.À:=Á
  first
   |(rw[Z8 Q]at g;show ĭ g Ý)
   |(simp at g;lia)
 cases w with
 |cons w1 w2=>
  cases w2;cases w1 with|list ho hall=>show(_,_,ns,rfl,rfl,ho,xp ns _ hall,e)
def JX(l:OpenLaw)(args:À WData):l.row.toRowW.claim.post args (ã true) args=true:=
 postW_of (r:=l.Č) (X:=(true==true))
  (show WShape.has [] (ã true) ã=true by first|rfl|decide|simp[WShape.has,WShape.arms,WShape.armsAll])
  (ύ ((WTm.eq .res<|.lit<|ã true).value [] {args:=args,res:=Â<|ã true,after:=args}=Â (ã<|true==true))<|w_eq_bool (w_res rfl) w_lit) rfl
def DU{l:OpenLaw}{x:Ŏ->Ú Op}{y:Ev->Ú Op}{d:DefRec}(N:l.most=ϵL)(D:ϐF)(call:∀(w:Ev)(s₀ S:Da)(m M:Ŏ)(fa:Ix)(o:Obj)(pm cd doc:Db)(a:Ix)(s:À Db)(ns:À Int),
   Ground q loose [] x w s₀ m M S.Ì->y w S.Ì->
   S.Ë fa=Ö->o.data=ϷE (docDef d.name d.params d.body d.scope pm cd doc)->S.heap.CodeRec cd d.name->m d.name=Â (É fa)->
   S.Ë a=Â ((Ċ "list" (δ s.Æ)))->ϫv->ϯ7->S.Ĭ=#[]->
   ϸB (model l.ø w) callerA (.call (É fa) (ϱc [É a])) (λr c=>r=ϩc (ã true)/\Ϗg) S):
  WalkO q loose x y l.Č d [] (λf s=>ϒU s):=by
 ext w s₀ S m M G Y fa o pm cd doc v kV z t H e g hg args vals as p L R W O;obtain rfl:v=ò:=Dflts.none e D;obtain rfl:kV=ò:=Dflts.noKw e;let(a,s,ns,rfl,rfl,b,hints,h):=Jg N p W;show enter_call<|codeAny_mono (call w s₀ S m M fa o pm cd doc a s ns G Y z (fd_plain t) H g b hints h hg) λr c Q=>?_;let(rfl,i,j,k):=Q;show(Ð ⟨ã true,ã true,[],rfl,ώd,ã true,JX l _,Ţ ⟨List.Pairwise.nil,λ_ u=>(nomatch u)⟩⟩,i,j,k)
end Att
namespace L2
open PySem PySem.Spec PyProof.Rows
def ou:∀{s:À Db}{ns:À Int},ϫv->ţ ϱE s:=by
 ext s ns h;induction h with|nil=>show õ|cons n t h ih=>show ą ϓz ih
def U6(H:Hp):Prop:=∀b,ϰ6\/∃o X,H b=Â (ϨL<|ô X)
def cV(s:No):Arguments:=match s with
 |.FunctionDef _ a _ _ _ _ _ _ _ _=>a
 |_=>{posonlyargs:=[],args:=[],vararg:=none,kwonlyargs:=[],kw_defaults:=[],kwarg:=none,defaults:=[]}
def bN(s:No):À No:=match s with
 |.FunctionDef _ _ b _ _ _ _ _ _ _=>b
 |_=>[]
def ah(s:No):Scope:=match s with
 |.FunctionDef _ _ _ _ _ _ sc _ _ _=>sc
 |_=>{kind:=ϻP,names:=[],isGenerator:=false,isCoroutine:=false}
abbrev y_:CXT:=λ_ _ _ _ _ _=>False
abbrev E0:XK:=ϧI
structure Fun(K:At)(x qual:Str)(st:No)(f:Ix)(fd:Fk):Prop where
 ex:∃(oc:Db)(od:Ü Ix)(kV doc pm:Db)(an:Ü Ix)(cdv ct:Db)(osl:Η Ch),
  fd=Ϧ2 ò kV doc pm an cdv ct/\ϫ3=Â ⟨oc,od,ϷE fd,osl⟩/\ϸm cdv qual=true
 kp:ϵo K (É f)
section
variable{K:At}
def Fun.ok{T:No}(F:ϮO)(S:Fq N ps ϵI)(len:ϑ0 ϫ2 ps.À)(B:∀(c:Db)(A:Go)(outer:À Env)(s:Da)(H:Hp)(v:À V)(Q:VK)(E:XK),ϦW ϵI->ϫ2->
   ∃t,PSs (Ϗb mg) ϩL t/\t {nx:=λ_ a=>Q Β a,rt:=Q} (ϨG v) H):ϳ5 mg base y_ (k+1) f fd ps sp:=by
 let(W,D,kV,doc,pm,an,c,ct,O,rfl,U,d):=F.ex;show ϖg;let(t,h,q):=ϗO;show(t,h.nox,q)
def Fun.binds{T:No}(F:ϮO)(h:∀(kV doc pm:Db)(an:Ü Ix)(c ct:Db)(s:À Db),ώI s.À->bindArgs (fnOf x qual (cV T) ϩL ϵI ò kV doc pm an c ct) ⟨s,[]⟩=pure (ps.Ċ s)):ϹG K []:=by let(W,D,kV,doc,pm,an,c,ct,O,rfl,U,d):=F.ex;show .all<|h kV doc pm an c ct
def Fc{x qual:Str}{st:No}{f:Ix}{W:Db}{D an:Ü Ix}{O:Η Ch}{kV doc pm d ct:Db}(l:ϫ3=Â ⟨W,D,ϷE<|Ϧ2 ò kV doc pm an d ct,O⟩)
  (c:ϸm d qual=true) (k:ϵo K (É f)):Fun K x qual st f (Ϧ2 ò kV doc pm an d ct):=⟨⟨W,D,kV,doc,pm,an,d,ct,O,rfl,l,c⟩,k⟩
end
section
variable{X:Cx}
def pv(i:Nat){pos:Pos}(hN:à (á X.N=Ď))(hv:ϕ (Ϫ4 x))(hd:ϲz)(hcd:ϱD (Ł<|x==ϐq)):ā (ð pos) ϲo:=eJ hN hv hd hcd
end
def aK(H h:Hp):Prop:=∀b o,H b=Ö->h b=Ö
def aK.refl(H:Hp):aK H H:=λ_ _ h=>h
def aK.trans(a:aK H H1)(b:aK H1 H2):aK H H2:=λc o h=>b c o<|a c o h
def aK.free(e:ϩu)(h:H' l=Option.none):H l=Option.none:=by
 cases q:H l with|none=>rfl|some o=>rw[e l o q]at h;cases h
def aK.seq{K:At}{H b:Hp}{a:Ix}{X:À V}(e:aK H b)(h:μ a X):SqL K b a X:=by
 rcases h with (h|⟨o,h⟩)|h
 .show Ð<|Ð Ϩ1
 .show Ð<|Ø ⟨o,Ϩ1⟩
 show Ø h
end L2
set_option maxHeartbeats 4000000
namespace L2
open PySem PySem.Spec PyProof.Rows
def frees(env:Env):À ϴD->À ϵr->À ϵr|[],cs=>cs|(n,k)::r,cs=>Ë (Μ ϧq) (ϥz r ((n,Ó ϐ2 0)::cs)) (ϥz r cs)
theorem vM:∀(l:À ϴD)(s:À ϵr),(∀y∈l,y.2=Ϝ->∃c,ϑ2 y.1=ī)->
  (∀c,ϔm=ī->ϮX=ī)->ϲ (ϥz l s) x=ī->ϮX=ī:=by
 induction _ with
  |nil=>
   ext s _ hc e
   exact hc c e
  |cons x16 r ih=>
   intro s hl hc e
   obtain⟨n,k⟩:=x16
   erw[frees]at e;cases H:ϧq=true
   .rw[ϱU]at e
    let(d,D):=hl (n,k) K9z Ϻ3;let h:ϐ2=ϰN:=D;show ϲ2 (λy Y=>hl y<|ě Y) (λG e'=>?_) e;rw[K9X]at e';cases hx:x==n with
    |true=>
     rw[hx]at e';let X:x=n:=ť hx
     rw[h]at e';rw[X,h];show e'
    |false=>rw[hx]at e';show hc G e'
   .rw[ϲc]at e
    show ih s (λy Y=>hl y<|ě Y) hc e
def sf:∀(l:À ϴD)(s:À ϵr),(ϙn\/∃c,ϔm=ī)->∃c,ϲ (ϥz l s) x=ī:=by
 induction _ with
  |nil=>
   intro s h
   rcases h with h|h
   .cases h
   .show h
  |cons x1 r ih=>
   intro s h
   obtain⟨n,k⟩:=x1
   erw[frees];cases H:ϧq=true
   .rw[ϱU]
    show ϲ2 ?_;rcases h with h|⟨c,h⟩
    .rcases K8v.mp h with e|e
     .cases e
      show Ø ⟨Ó ϮX 0,Ĥ K9X K8Q⟩
     .show Ð e
    .apply Ø ?_
     rw[K9X];cases hx:x==n with|true=>show(_,rfl)|false=>show(c,h)
   .rw[ϲc]
    show ϲ2 ?_;rcases h with h|h
    .rcases K8v.mp h with e|e
     .cases e
      show Ϡ H
     .show Ð e
    .show Ø h
theorem GA{env:Env}:∀{names:À ϴD},(ϲ (names.map λ(n,k)=>Ë (ϪB&&ϫw==Â š) (n,NameKind.cell) (n,k)) x=Â k')->
  ∃k,names.lookup x=Ş/\(k'=k\/(k=Ϝ/\k'=š)):=by
 induction _ with
  |nil=>
   intro h
   simp at h
  |cons x4 r ih=>
   intro h
   obtain⟨n,k⟩:=x4
   rw[K9w]at h;dsimp only at h;rw[K9X];cases C:(ϪB&&ϫw==Â š)=true
   .rw[Os C,K9X]at h
    cases hx:x==n with
    |true=>
     rw[hx]at h;cases h;let H:k=Ϝ:=by
      rw[K9U,K9U]at C;simpa using C.1.1
     show(k,rfl,Ø ⟨H,rfl⟩)
    |false=>rw[hx]at h;show ih h
   .rw[P3 C,K9X]at h
    cases hx:x==n with
    |true=>rw[hx]at h;cases h;show(_,rfl,Ð rfl)
    |false=>rw[hx]at h;show ih h
theorem oN{env:Env}:∀{names:À ϴD},names.lookup x=Â Ϝ->
  ϵf (ϲ (names.map λ(n,k)=>Ë (ϪB&&ϫw==Â š) (n,NameKind.cell) (n,k)) x) (Â š) (Â Ϝ):=by
 induction _ with
  |nil=>
   intro h
   simp at h
  |cons x7 r ih=>
   intro h
   obtain⟨n,k⟩:=x7
   rw[K9w];dsimp only;rw[K9X]at h;cases C:(ϪB&&ϫw==Â š)=true
   .rw[Os C,K9X]
    cases hx:x==n with|true=>show Ð rfl|false=>rw[hx]at h;show ih h
   .rw[P3 C,K9X]
    cases hx:x==n with
    |true=>rw[hx]at h;cases h;show Ø rfl
    |false=>rw[hx]at h;show ih h
theorem mL:∀{l:À ϴD},l.Ð x=Ş->(x,k)∈l:=by
 induction _ with
 |nil=>ext h;cases h
 |cons p r ih=>
  let(n,j):=p;ext h;rw[K9X]at h;cases hx:x==n with
  |true=>
   rw[hx]at h;cases h;let:x=n:=ť hx
   rw[this];show K9z
  |false=>rw[hx]at h;show ě<|ih h
def yu(h:ϵj (x.2=Ϝ->∃c,ϑ2 x.1=ī)):closureFor scope env=pure (ϥz scope.names []):=by
 erw[closureFor];let key:∀(l:À ϴD)(s:À ϵr),(∀x∈l,x.2=Ϝ->∃c,ϑ2 x.1=ī)->
  (forIn l s λ(x:Str×NameKind)(r:List (Str×Ix))=>if Μ (x.2==NameKind.free) then do let a <-cellOf env x.1;pure (ForInStep.yield<|(x.1,a)::r)else Ϙn:Sem (À ϵr))=pure (ϥz l s):=by
  ext l
  induction l with
  |nil=>ext s _;rfl
  |cons x r ih=>
   ext s X;let(n,k):=x;rw[Zdt];dsimp only;let hr:=λs=>ih s λy Y=>X y<|ě Y;cases H:ϧq=true
   .let(c,C):=X (n,k) K9z Ϻ3
    let t:ϐ2=ī:=C;rw[ϱU];erw[frees];rw[ϱU];let e1:cellOf env n=pure c:=by erw[cellOf];rw[t]
    rw[e1,t,<-hr];rfl
   rw[ϲc];erw[frees];rw[ϲc,<-hr];rfl
 let:=key scope.names [] h;simp only[bind_pure];show this
def J_(ifs:À On)(env:Env):Sem Bool:=forIn ifs true λc r=>if r=true then do let ok <-isTrue c env (eval c env);pure (ForInStep.yield ok)else Ϙn
theorem Cw{pos:Pos}{it a:Db}(J:Nat->Ú Da)(turn:∀n s,J n s->wpAny ϫc A (pyNext it) (λr b=>match r with
   |none=>R (Ħ .next) b
   |some v=>wpAny ϫc A (ϐs it v) (λ_ d=>wpAny ϫc A (assign tg env v) (λ_ z=>wpAny ϫc A (J_ ifs env) (λok s4=>
     Ë (ok=true) (ϰF (eval elt env) (λx N=>ϰF (call (Ρ "list.append") [a,x]) (λ_ Y=>∃m,m<n/\J m Y) ϶0 N) ϶0 s4) (∃m,m<n/\J m s4)) ϶0 z) ϶0 d) ϶0 b) ϶0 s)(n:Nat)(h:J n s):ϸB ϫc A (.compLoop ϳO 0 it a env) R s:=by
 show codeAny_loop rfl J (λn s l=>?_) n h;let no:∀(P:Db->Ú Da)(e:Db)(S:Da),False->P e S:=λ_ _ _ f=>f.Ä;change ϷJ _ A ((compTurn ϳO 0 it a env).onRaise λx=>do noteFrame x env;theTreesLotGoes x) _ _ s;show wpAny_noted ?_;rw[compTurn_list];show Ps<|K7o<|Ps<|K8m (turn n s l) (λr b H=>?_) ϧF;cases r with
 |none=>show K9J H
 |some v=>
  show Ps<|K8m H (λ_ d g=>?_) ϧF;show Ps<|K8m g (λ_ z i=>?_) ϧF;show Ps<|K8m i (λok s4 c=>?_) ϧF;cases ok with
  |false=>show K9J ⟨rfl,c⟩
  |true=>
   show Ps<|Ps<|K8m c (λx N j=>?_) ϧF;show Ps<|K8m j (λ_ Y k=>K9J<|K9J ⟨rfl,k⟩) ϧF
def cxB(X:Cx)(N:À Str)(scope:Scope)(s:Da)(H:Hp)(C:Ix)(ex:À Ix)(p:À ŝ):Cx:=
 {X with N:=N,s₀:=s,H₀:=H,env:=compEnvC scope ϵd C X.Ü,outer:=X.ă,ex:=ex,fn:=όl,pn:=X.pn++p,xe:=϶0}
def lX(X:Cx)(scope:Scope):Ú (À ϴM)|[]=>True|p::r=>(X.N[p.1]?=Â p.2/\Ϻ1 p.2=Â Ϝ)/\lX X scope r
def lX.get:∀{outs:À ϴM}{j:Nat}{p:ϴM},όj X->ę outs=ϲn->X.N[p.1]?=Â p.2/\Ϻ1 p.2=Â Ϝ:=by
 induction _ with
  |nil=>
   ext _ _ _ e
   simp at e
  |cons q r ih=>
   ext x40 p h e
   cases x40 with
    |zero=>
     simp at e;subst e;show h.1
    |succ j=>
     exact ih (j:=j) h.2 ϵh
structure Blk(X:Cx)(sc scope:Scope)(outs:À ϴM):Prop where
 hsc:X.Ě=sc
 kind:scope.kind=ϻP
 loc:ϵj (x.2=ο->Ϻ1 x.1=Â ο)
 nocell:ϵj (x.2≠š)
 fr:ϵj (x.2=Ϝ->ϵf ϮP (Â š) (Â Ϝ))
 out:όj X
def slots(k:Nat)(outs:À ϴM)(a:St):St:=ϳY none++ϵC (λp=>(a[p.1]?).join)
def mH:St->Ú St|[],[]=>True|none::r,_::r'=>mH r r'|some v::r,w::r'=>w=ĥ/\mH r r'|_,_=>False
def mH.len:∀{σ σ':St},mH σ σ'->σ.À=σ'.À:=by
 ext σ;induction σ with
 |nil=>ext σ' h;cases σ' with|nil=>rfl|cons _ _=>cases h
 |cons o r ih=>
  ext σ' h;cases σ' with
  |nil=>cases o<;>cases h
  |cons w r'=>cases o with|none=>let:=όm h;simp[this]|some v=>let:=όm h.2;simp[this]
def mH.get:∀{σ σ':St}{i:Nat}{v:V},mH σ σ'->á σ=Â ĥ->á σ'=Â ĥ:=by
 ext σ;induction σ with
 |nil=>ext _ i v _ e;simp at e
 |cons o r ih=>
  ext σ' i v h e;cases σ' with
  |nil=>cases o<;>cases h
  |cons w r'=>
   cases o with
   |none=>cases i with|zero=>simp at e|succ i=>let:=όm (i:=i) (v:=v) h ϵh;simpa using this
   |some u=>
    cases i with
    |zero=>simp at e;rw[h.1];simp[e]
    |succ i=>let:=όm (i:=i) (v:=v) h.2 ϵh;simpa using this
def PF(X:Cx)(ifs:À On)(t:TT):Prop:=
 ∀(p:À ŝ)(s:Da)(a:St)(H:Hp)(Q:Bool->Ú Hp),ù p a H s->ϩr->Ő (J_ ifs X.Ü) ϒo X.xe s
def OW:TT:=λ_ H Q=>Q true H
def NW:PF X [] OW:=Ϥ6 (wpAny_tests_nil ⟨H,I,h⟩)
def Uq(h:ϸY c t):PF X [c] t:=λp s a H Q I q=>wpAny_tests_one<|Ϧk a H Q I q
abbrev Wy(tc:TT)(te:TE)(d:St)(D:Ix)(a:À V)(N:À V->Ú Hp):St->Ú Hp:=λc H=>mH d c/\tc c H λb h=>Ë (b=true) (te c h λy e=>e D=Â (ô a)/\ϥY a.À/\N Ϭ4 (upd e D<|ô Ϭ4)) (N a h)
def Vq(J:It)(g:TG)(tc:TT)(te:TE)(d:St)(D:Ix)(H:Hp)(Q:Ú Hp):Prop:=
 ∃W:Nat->Nat->À V->Ú Hp,(∃m,W 0 m []<|ļ D<|ô [])/\∀i m c h,W i m c h->
  (ώc h/\Q h)\/(J.go i h/\∃N:À V->Ú Hp,(∀a b,N a b->∃M,M<m/\W (i+1) M a b)/\∀x b,J.yld i h x b->g x d b (Wy tc te d D c N))
def EF(wi:TI)(g:TG)(tc:TT)(te:TE)(k:Nat)(outs:À ϴM):TE:=λa H Q=>wi a H λJ h=>∀D,h D=none->Vq J g tc te (slots k outs a) D h λb=>Q (É D) b
def yX(scope:Scope)(cl:À ϵr)(C:Ix)(env:Env):Env:=compEnvC scope (ϺO (C+1) cl) C env
private theorem iM:∀(names:À ϴD)(n:Nat)(a:À ϵr){x:Str}{c:Ix},ϲ ϪU x=ī->Ϩv=ī\/(n<=c/\(x,NameKind.cell)∈names)
 |[],n,a,x,c,h=>Ð h
 |(y,k)::r,n,a,x,c,h=>by
  erw[cellsFrom]at h;split at h
  .rename_i d
   let K:k=š:=by simpa using d
   rcases iM r (n+1) _ h with h|⟨b,H⟩
   .rw[K9X]at h
    cases hx:x==y with
    |true=>
     rw[hx]at h;cases h;let:x=y:=ť hx
     show Ø ⟨ì,by rw[<-K,this];show K9z⟩
    |false=>rw[hx]at h;show Ð h
   .show Ø ⟨Á,ě H⟩
  .rcases iM r n _ h with h|⟨b,H⟩
   .show Ð h
   .show Ø ⟨b,ě H⟩
private theorem mR:∀(names:À ϴD)(n:Nat)(a:À ϵr){x:Str},(x,NameKind.cell)∉names->ϲ ϪU x=Ϩv
 |[],n,a,x,h=>rfl
 |(y,k)::r,n,a,x,h=>by
  erw[cellsFrom];split
  .rename_i H
   let K:k=š:=Ϻ3
   rw[mR r (n+1) _ λz=>h<|ě z,K9X];let:Ł (x==y):=by
    cases hx:x==y with
    |false=>rfl
    |true=>
     let e:x=y:=ť hx
     show ĭ (by rw[e,<-K];show K9z) h
   rw[this]
  .show mR r n _ λz=>h<|ě z
private theorem mY:∀(names:À ϴD)(h:Op)(a:À ϵr){x:Str}{c:Ix},ϲ (cellsFrom h.Â names a) x=ī->Ϩv=ī\/(pushCells h names).IsCell c none
 |[],h,a,x,c,e=>Ð e
 |(y,k)::r,h,a,x,c,e=>by
  erw[cellsFrom]at e;erw[pushCells];split at e
  .rename_i H
   rw[ϱU];let sz:Ι (h.û (Ċ "cell" (š none)))=h.Â+1:=K8l ..;rw[<-sz]at e;rcases mY r (h.û (Ċ "cell" (š none))) _ e with q|q
   .rw[K9X]at q
    cases hx:x==y with
    |true=>rw[hx]at q;cases q;show Ø (ϲi (ϐN _ _ Ϣ))
    |false=>rw[hx]at q;show Ð q
   .show Ø q
  .rename_i H
   rw[ϲc];show mY r h _ e
def Eo(h:∀H:Op,(∀b o,ϱL ϰc Ö H.È)->H.Ns s.Á Ϸb->H=pushCells (ϳi<|(Ċ "dict" Ϭo)) scope.names->
   Q {scope:=scope,locals:=s.Á,globals:=globals,cells:=ϺO (ů 1) closure,qual:=qual,func:=none,code:=outer.code,frame:=outer.frame,builtins:=outer.builtins} {s with heap:=H}):
  ϧL (Ϙo globals closure [] qual none ò<|Â outer):=by
 simp only[newFunctionEnv,Zfc,K83];show Ps<|wpAny_alloc ?_;show Ps<|wpAny_layCells _ (λname kind cells=>by cases hkc:kind==NameKind.cell with|_=>simp[hkc]) _ _ _ _ ?_;rw[show((ϹJ (ϳi ((Ċ "dict" Ϭo)))):Da).heap.objs.size=ů 1 from K8l ..];show ϲZ;rw[List.forIn_nil];apply K9J<|K9J<|h _ (ϲ0<|ϐN b o<|ő e) ((Ϝs<|Ω "dict").keeps ϐN) rfl
private theorem mS:∀(names:À ϴD)(n:Nat)(a:À ϵr),(∀x c,Ϩv=ī->ϐT c n)->(∀x y c,Ϩv=ī->a.Ð y=ī->x=y)->∀x y c,ϲ ϪU x=ī->ϲ ϪU y=ī->x=y
 |[],n,a,_,hi,x,y,c,b,H=>hi x y c b H
 |(z,k)::r,n,a,hb,hi,x,y,c,b,H=>by
  erw[cellsFrom]at b H;split at b
  .rename_i K
   rw[Os K]at H;let look:∀x c,ϲ ((z,n)::a) x=ī->(x=z/\c=n)\/Ϩv=ī:=λx c h=>by
    rw[K9X]at h;cases hx:x==z with
    |true=>rw[hx]at h;show Ð ⟨ť hx,(ϸP).symm⟩
    |false=>rw[hx]at h;show Ø h
   show mS r (n+1) ((z,n)::a) (λx c h=>?_) (λx y c b H=>?_) x y c b H
   .rcases look x c h with⟨_,e⟩|h
    .rw[e]
     show K8d n
    .show K8f<|hb x c h
   .rcases look x c b with⟨e1,f⟩|b
    .rcases look y c H with⟨g,J⟩|H
     .rw[e1,g]
     .rw[f]at H
      show ĭ (hb y n H) ϵJ
    .rcases look y c H with⟨g,J⟩|H
     .rw[J]at b
      show ĭ (hb x n b) ϵJ
     .show hi x y c b H
  .rename_i K
   rw[P3 K]at H;show mS r n a hb hi x y c b H
private theorem wy:∀(l:À ϴD)(s:À ϵr),ϲ (ϥz l s) x=ī->ϔm=ī\/ϙn
 |[],s,h=>Ð h
 |(n,k)::r,s,h=>by
  erw[frees]at h;split at h
  .rename_i H
   let K:k=Ϝ:=Ϻ3
   rcases wy r _ h with h|h
   .rw[K9X]at h
    cases hx:x==n with
    |true=>
     let:x=n:=ť hx
     show Ø (by rw[this,<-K];show K9z)
    |false=>rw[hx]at h;show Ð h
   .show Ø<|ě h
  .rcases wy r _ h with h|h
   .show Ð h
   .show Ø<|ě h
def xZ(scope:Scope)(x:Str):Bool:=scope.names.any λp=>p.1==x&&p.2==NameKind.cell
def wQ(h:xZ scope x=true):(x,NameKind.cell)∈scope.names:=by
 erw[xZ]at h;rw[Zdr]at h;obtain⟨⟨y,k⟩,M,e⟩:=h;rw[K9U]at e;let e1:y=x:=ť e.1
 let g:k=š:=ť e.2
 rw[e1,g]at M;show M
def cxK(X:Cx)(N:À Str)(scope:Scope)(s:Da)(H:Hp)(C:Ix)(ex:À Ix)(p:À ŝ):Cx:=
 {X with N:=N,s₀:=s,H₀:=H,env:=yX scope ϵd C X.Ü,outer:=X.ă,ex:=ex,fn:=xZ scope,pn:=X.pn++p,xe:=϶0}
structure BlkK(X:Cx)(sc scope:Scope)(outs:À ϴM):Prop where
 hsc:X.Ě=sc
 kind:scope.kind=ϻP
 loc:ϵj (x.2=ο->Ϻ1 x.1=Â ο)
 own:ϵj (x.2=š->Ϻ1 x.1=Â š)
 ap:ϵj (x.2=Ϝ->(x.1,NameKind.cell)∉scope.names)
 fr:ϵj (x.2=Ϝ->ϵf ϮP (Â š) (Â Ϝ))
 out:όj X
section
variable{X:Cx}{sc scope:Scope}{own:À Str}{outs:À ϴM}{pos:Pos}
def vX(B:϶Y)(I:Ģ):ϵj (x.2=Ϝ->∃c,X.ô x.1=ī):=λx h f=>by
 show I.ok.has x.1 ?_;change ϵf (ϐd x.1) _ _;rw[B.hsc];show B.fr x h f
def L6(B:϶Y)(I:Ģ)(J:ϳB (ϵE H b))(fo:ϳB (∃o,ϰc=Ö))(hn:h1.Ns (ů 1) m)(old:∀b o,ϱL ϰc Ö h1.È)(hD:h1.È s.Á=Â ((Ċ "list" (δ #[] 0))))(D:∀x c,ϲ (ϺO (ů 1+1) ϵd) x=ī->ϲ ϵd x=ī\/h1.Ē c none):
  Inv (υ (ů 1) fp H6) [] ϺR (ϵ2<|ô []) (ϱk h1 tk):=by
 let V:=vX B I;let sub:∀x c,ϲ ϵd x=ī->ϲ6:=ϸC (vM _ _ V (λT e'=>by simp at e') e);let t:∀x c,ϲ6->ϚB:=λx c e=>(let⟨v,q⟩:=ϥr e;q.lt)
 let f:∀x c,ϲ ϵd x=ī->(x,NameKind.cell)∉scope.names:=λx c e=>by
  rcases wy _ _ e with q|q
  .simp at q
  show B.ap _ q rfl
 let K:∀x c,ϲ (ϺO (ů 1+1) ϵd) x=ī->ϲ6\/(ů 2<=c/\h1.Ē c none):=λx c e=>by
  rcases iM _ _ _ e with q|⟨Q,g⟩
  .show Ð<|sub x c q
  rcases D x c e with z|z
  .show ĭ g<|f x c z
  show Ø ⟨Q,z⟩
 let S:∀x c,ϲ ϵd x=ī->ϲ (ϺO (ů 1+1) ϵd) x=ī:=ϸC (by rw[mR _ _ _<|f x c e];show e)
 let F:ϳB ϚC:=λb d=>(let⟨o,e⟩:=fo b d;ϱv)
 let un:Un (υ (ů 1) fp H6).fs (υ (ů 1) fp H6).ex H (ϵ2<|ô []) s.Ì h1:=Un.ĩ old ì I.Õ;let P:Ϥ7 (ϵ2<|ô []) h1:=I.hok.ĩ old ì ⟨ϰS,[],0,õ,hD⟩;show((I.ok.mod,B.kind,I.ok.glob,I.ok.blt,Ϸt,λx y c e1 j=>mS _ _ _ (ϸC<|Ϝc<|Ϯs Ϸt) (λx y c e1 j=>ϛT<|sub y c j) x y c e1 j,λx n=>?_,λx c hf hq=>?_,I.ok.hd,I.ok.frames,Ð rfl,λb d=>⟨?_,ϸC ?_⟩,I.bs,?_,λb o e d=>?_,λb d z=>?_,I.stack,I.stkFree),
  rfl,I.bare,un,(m,hn,λi x v e1 j G=>?_),ϸC ?_,?_,ϸC ?_,λp hp=>?_,P,?_)
 .let go:∃k,scope.names.lookup x=Ş/\(k=Ϝ\/k=š):=by
   rcases n with n|n
   .let(k,e,h):=GA (show(ϲ (scope.names.map _) x=Â š)from n)
    rcases h with h|h
    .exact(k,e,Ø h.Ï)
    show(k,e,Ð h.1)
   let(k,e,h):=GA (show(ϲ (scope.names.map _) x=Â Ϝ)from n);rcases h with h|h
   .exact(k,e,Ð h.Ï)
   show(k,e,Ð h.1)
  let(k,e,h):=go;rcases h with rfl|rfl
  .let(c,A):=ϕc<|Ð<|mL e
   show(c,S x c A)
  show ϙf<|Ϝg<|Ð e
 .rcases iM _ _ _ hq with q|⟨Q,_⟩
  .show ĭ (wQ hf)<|f x c q
  show K9C (Ϯs Ϸt) Q
 .show K9O<|K8f<|F b d
 .rcases K x c e with q|⟨Q,_⟩
  .exact ϴz (J b d).2.2 x c q
  .exactλz=>ĭ (F b d) (Nat.not_lt.mpr<|Ϙ z (K9C (Ϯs Ϸt) Q))
 .show ϯX I.sz
 .rcases(J b d).2.2.2.1 with z|z
  .show ϑt z
  show ĭ (K9P ϱv<|ϯX z) ϵJ
 .rcases K8v.mp (ϒI z)with q|q
  .exact(J b d).2.1 q
  show ϴz (J b d) q
 ·
  let hi:own.length<=i:=by
   cases hi:own.length<=i
   .show hi
   let E:á ϺR=Â ĥ:=j;erw[slots]at E;rw[K9V (ť<|Nat.lt_of_not_le hi),K8Z]at E
   split at E<;>cases E
  let a:á (own++ϵC Ž)=Ď:=e1;let E:á ϺR=Â ĥ:=j;erw[slots]at E;rw[K9a hi,N2]at a;rw[K9a ϐM,K8r,N2]at E;cases ep:outs[i-own.length]? with
  |none=>rw[ep]at a;cases a
  |some p=>
   rw[ep]at a E;let ex:p.2=x:=ϦO;let ev:(σ[p.1]?).join=ĥ:=K9R E;let(U,O):=B.out.get ep;let Z:σ[p.1]?=Â ĥ:=by
    cases q:σ[p.1]? with
    |none=>rw[q]at ev;cases ev
    |some w=>rw[q]at ev;let ew:w=ĥ:=ev;rw[ew]
   rw[ex]at U O;let h:ϵf ϱW (Â š) (Â Ϝ):=Ô B.hsc (B.fr (x,Ϝ) (mL O) rfl)
   let(m0,hn0,N):=I.loc;let(u,r,l):=N p.1 x v U Z<|h.Ä (λz=>Ø<|Ð z) λz=>Ø<|Ø z;show(u,r,Ø ?_);rcases l with⟨hl,_⟩|⟨_,c,Y,A⟩
   .let L:ϱW=Â ο:=hl
    rcases h with z|z<;>(rw[z]at L;cases L)
   let(T,C):=ϕc<|Ð<|mL O;let G:=sub x T C;rw[Y]at G;cases G;let(W,Q,g):=A;show(oN O,c,S x c C,(W,old _ _ Q,g))
 .rcases K x c e with q|⟨_,q⟩
  .let(v,W,Q,g):=ϥr q
   show(v,W,old _ _ Q,g)
  show(_,q)
 .change ϵ2 (ô []) (ů 1)=none
  rw[aC ϙE];show I.É Ϸt
 .rcases K x c e with q|⟨Q,_⟩
  .rw[aC<|K9O<|t x c q]
   show ϫE q
  let M:ϚD s.Á c:=K9C (Ϯs Ϸt) Q;rw[aC λz=>by rw[z]at Q;show ĭ Q<|Nat.not_le.mpr<|Zce ϩT ϩT];show I.É M
 .let R:p∈ύT:=by
   let:p∈ύT++[]:=hp;simpa using this
  let(Q,g,q3,q4,q5):=ϻO R;show(old _ _ Q,?_,K9O<|K8f<|K9h Q,ϩg,q5)
  .rw[aC<|K9O<|K9h Q]
   show g
  rcases K8v.mp (I.stkSub p.1 z)with q|q
  .show q3 q
  show q4 q
 change Ã ϺR=Ã (own++ϵC Ž);erw[slots];simp
theorem Ef(B:϶Y)(l:ϗ)(hg:Ϭ5 P (ϩR (υ C ex P)))(hc:Ϭ5 P (ώA (υ C ex P)))(he:Ϭ5 P (ώB (υ C ex P))){s:Da}{it:Ix}{tn:Nat->Ú Op}(I:ù P σ H s)(T:Ϙm fp it tn)(st:tn 0 s.Ì)(F:ϳB (nj X P H b)){R0:Ix->Ú Hp}(hW:∀D,H D=none->Vq J g tc te ϺR D H (R0 D)){RR:Db->Ix->Result->Ú Da}{E:Db->Ú Da}(fin:∀D C f M m,ù P σ f M->nj X P f C->M.ġ C m->R0 D f->RR (É D) C (Ħ .next) M):
  Ő (newList []) (λa s3=>Ő (Ϙo X.Į ϵd [] X.env.qual none ò<|Â X.Ü) (λk s4=>ϸB ϳQ X.A (.compStart ϳO 0 (É it) a {k with scope:=relabel scope X.Ü}) (RR a k.ì) s4) E s3) E s:=by
 show wpAny_newObj_type<|Eo λQ S G R=>?_;dsimp only at G S R⊢;let hz:Ι (ϳi {cls:=Ω "list",dict:=none,data:=ϰe ([]:À Db)})=ů 1:=K8l ..;rw[hz]at G;simp only[hz];let fo:ϳB (∃o,ϰc=Ö):=λb h=>(let⟨o,e,_⟩:=T.obj 0 _ st b h;⟨o,e⟩)
 let old:∀b o,ϱL ϰc Ö Q.È:=ϲ0 (S b o<|ő e);let hD:Q.È s.Á=Â ((Ċ "list" (δ #[] 0))):=ϤE Ϣ;let hz2:Ι ((ϳi {cls:=Ω "list",dict:=none,data:=ϰe ([]:À Db)}).push (Ċ "dict" Ϭo))=ů 1+1:=Ĥ K8l hz
 let hcl:∀x c,ϲ (ϺO (ů 1+1) ϵd) x=ī->ϲ ϵd x=ī\/Q.Ē c none:=ϸC (by rw[R];rw[<-hz2]at e;show mY _ _ _ e)
 let I1:=L6 (own:=own) (tk:=s.ã) B I F fo G old hD hcl;let Z:tn 0 Q:=ϒR st (λb _ o e=>old b o e);obtain⟨W,⟨m0,w0⟩,turn⟩:=hW _ I.Õ;let w:∀{f:Hp},(ϳB<|f b=none)->ϳB (nj (υ (ů 1) fp P) [] f b):=λhn b h=>by
  let(o,eo):=fo b h;show(hn b h,K9O<|K8f<|K9h eo,I1.ok.exfs b h,Ð h,ϸC ((I1.ok.exf b h).2 x c e),λp hp=>?_);let hp':p∈X.pn++P:=by
   let:p∈(X.pn++P)++[]:=hp;simpa using this
  show(F b h).2.2.2.2.2 p hp'
 let loop:∀s0:Da,s0=ϱk Q s.ã->
   ϸB ϳQ X.A (.compLoop ϳO 0 (É it) (É s.Á)<|yX scope ϵd (ů 1) X.Ü) (RR (É s.Á)<|ů 1) s0:=by
  ext s0 rfl;show Cw (λn M=>∃i a f,Inv (υ (ů 1) fp P) [] ϺR f M/\tn i M.Ì/\(ϳB<|f b=none)/\W i n a f) ?_ m0
   ⟨0,[],_,I1,Z,λb h=>?_,w0⟩
  .rintro n s3 ⟨i,a,H3,I3,st3,fr3,w3⟩
   rcases turn i n a H3 w3 with⟨stop,q⟩|⟨go,N,hN,step⟩
   .apply ϯE (T.done (υ (ů 1) fp P) rfl rfl rfl l i [] s3 _ H3 ϶0 I3 (w fr3) st3 stop);let(hr,L):=zq
    subst hr;let IX:ù P σ H3 s4:=I.call' (ch:=fp) L.os L.ı L.hok L.bare λb h=>⟨ϴz (F b h).2,(F b h).2.1,ϴz (F b h).2.2,(F b h).2.2.2.2.2⟩
    let(m4,hn4,_):=L.loc;show fin _ _ H3 s4 m4 IX (I.fpOk Ϸt L.â) hn4 q
   .apply ϯE (T.item (υ (ů 1) fp P) rfl rfl rfl l i [] s3 _ H3 ϶0 I3 (w fr3) st3 go);let(u,hr,h4):=zq
    subst hr;show Wp h4 λ_ s5 zq=>?_;let(x,H5,I5,r5,y5,K,fr5):=zq;let I5':=I5.pinned (w fr5)<|ύh K;let back:∀{d:St}{t:Hp}{Y:Da}{A:À V},Inv (υ (ů 1) fp P) ([]++yV fp s5.Ì) d t Y->mH ϺR d->N A t->
      ∃m,m<n/\∃i a f,Inv (υ (ů 1) fp P) [] ϺR f Y/\tn i Y.Ì/\(ϳB<|f b=none)/\W i m a f:=fun{d t Y A} O hs hn6=>by
     let(m',hm,hw):=hN A t hn6;show(m',hm,i+1,A,t,O.unpinned.weak hs.í λj v e=>hs.get e,ϒR K (λb h o e=>(ϗs<|Τ<|Τ<|pf h e).1),λb h=>?_,hw);let(o,e,_):=ύh K b h;show(ϗs<|Τ<|Τ<|pf h e).2.1
    show Wp (ϛw<|step x H5 y5) λ_ Y zq=>?_;let(d,t,O,U,q6):=zq;show Wp (hc s H _ fp P _ Y d t _ O q6) λb s7 zq=>?_;let(H7,I7,q7):=zq;cases b with
    |false=>show back I7 U q7
    |true=>
     show Wp (he s H _ fp P _ s7 d H7 _ I7 q7) λyv s8 zq=>?_;let(y,H8,I8,r8,hd8,hl8,hw):=zq;show Wp (wC _ s8 d H8 (É s.Á) [y] (É s.Á) [yv] (λ_ H9=>H9=upd H8 s.Á (ô Ϭ4)) I8 rfl (ą r8 õ) ⟨_,a,y,rfl,rfl,hd8,hl8,rfl⟩) λz s9 zq=>?_;let(zv,H9,I9,_,q9):=zq;subst q9;show back I9 U hw
  .let(o,eo):=fo b h
   rw[aC<|K9O<|K9h eo];show(F b h).1
 show ϛD<|Ϝd<|loop _ rfl
def L5(own:À Str)(B:϶Y)(l:ϗ)(hi:Ϸp iter wi)(hg:ϹE (ϩR (υ C ex p)))(z:ϹE (ώA (υ C ex p)))(he:ϹE (ώB (υ C ex p)))(E:ϸZ):ā ϳO (EF wi g tc te own.length outs):=by
 ext p s c H Q I h;rw[eval_ListComp];show K8L (use:=none) rfl E (yu<|vX B I) B.kind B.loc ?_;show Wp (Ϥo s c H _ I h) λv M t=>Wp t λV O u=>?_;let(it,P,tn,J,K,e,f,T,A,F,W):=u;subst e;show Ef (RR:=λa C=>compPost ϳQ X.A X.xe none (ϵW p c Q) a C) B l hg z he f T A F W ?_;ext D C d G m i w N q;show(m,N,λh' S=>?_);let(j,c1,L,k,n,r):=w;show(É D,d,i.ĝ (t':=G.ã) (λb o y e=>ĉ (S.2 b y) e) j c1 k n r,rfl,q)
def D5(own:À Str)(hN:X.à)(j:á X.N=Ď)(hx:ϲg x)(B:϶Y)(l:ϗ)(hi:Ϸp iter wi)(hg:ϻC (ϩR (υ C ex n)))(hc:ϻC (ώA (υ C ex n)))(he:ϻC (ώB (υ C ex n)))(w:à (ϬL ϳO (Â<|ð pos') spos.line X.Ü=Ϭp))(hs:ϸZ)(hf:ϕ (ϳg\/ϱW=Â ο)):
  ϲb (ϴZ [ð pos'] ϳO spos) (ϕd Ϫl):=by
 ext n s K H r I h;rw[exec_Assign_Name_used _ _ _ _ w];show Ps<|K7o ϲZ;change ϷJ _ X.A (do let _ <-comprehension (.ListComp elt [⟨tg,iter,ifs,0⟩] scope pos) scope X.Ü _ (newList []) false (eval iter X.Ü) (some<|assign (.Name x pos') X.Ü)) _ _ s;show Ps<|Wp (K8L (use:=Â<|ϧU (ð pos')) (Q:=ϗ5) rfl hs (yu<|vX B I) B.kind B.loc ?_) λ_ S hq=>K9J<|K9J hq;show Wp (hi n s K H _ I h) λv s1 Y=>Wp Y λitv s2 Z=>?_;let(it,fp,tn,J,H2,e,L,T,A,W,hW):=Z;subst e;show Ef (RR:=λa C=>compPost ϳQ X.A X.xe (Â<|ϧU (ð pos')) ϗ5 a C) B l hg hc he L T A W hW ?_;ext D C t S m u hC hn q;let(F,c1,N,P,R,U):=hC;let(c,V,E,O,d,hr):=id hn;let M:ù (n++[(C,c)]) K t S:=u.pins_of λp hp=>ϵb (K9Y.mp hp) (λz=>u.pin p<|Τ z) λz=>by
  let E:p=(C,c):=ť z
  subst E;show(O,F,c1,N,ϪG)
 change ϶j X.A (ϧU (ð pos')<|É D) S;show wpAny_assign_Name<|vf (v:=É D) M hN j hx rfl (λG y=>?_) hf;let f:G.Ë C=ī:=(y.pin (C,c)<|Τ<|Τ Û).1;show(m,(c,V,E,f,d,hr),λh' k=>?_);show(_,t,y.unpinned.ĝ (t':=G.ã) (λb o hb e=>ĉ (k.2 b hb) e) F c1 P R U,q)
end
def Cm(kind:scope.kind=ϻP)(loc:ϵj (x.2=ο->Ϻ1 x.1=Â ο))(o:ϵj (x.2≠š))(fr:ϵj (x.2=Ϝ->ϵf ϘN (Â š) (Â Ϝ)))(out:όj ϗd):Blk ϗd (relabel scope0 X.Ü) scope outs:=by
 show(rfl,kind,loc,o,λx a f=>?_,out);rcases fr x a f with h|h
 .left
  change ϲ (scope0.names.Ç _) x.1=Â NameKind.cell;let:∀names:À ϴD,names.lookup x.1=Â š->ϲ (names.map λ(n,k)=>Ë (ϧq&&ϯl ϻP&&X.env.kindOf n==Â š) (n,NameKind.cell) (n,k)) x.1=Â š:=by
   ext names
   induction names with
   |nil=>ext h;simp at h
   |cons y r ih=>
    let(n,k):=y;ext h;rw[K9X]at h;rw[K9w];dsimp only;cases c:(ϧq&&ϯl ϻP&&X.env.kindOf n==Â š)=true
    .rw[Os c,K9X]
     cases a:x.1==n with|true=>rfl|false=>rw[a]at h;show ih h
    rw[P3 c,K9X];cases a:x.1==n with|true=>rw[a]at h;show h|false=>rw[a]at h;show ih h
  show Ϧl h
 show oN h
def CP:∀(names:À ϴD)(n:Nat)(a:À ϵr),(∀x∈names,x.2≠š)->ϪU=a:=by
 induction _ with
  |nil=>
   ext _ _ _
   exact rfl
  |cons x36 r ih=>
   intro n a h
   obtain⟨y,k⟩:=x36
   let i:=λn=>ih n a λx H=>h x<|ě H;let:=h (y,k) K9z;cases k<;>first|show Ϡ this|show i n
def M4(h:ϵj (x.2≠š)):cxK X N scope s H C ex H6=cxB X N scope s H C ex H6:=by erw[cxK,cxB,yX];rw[CP _ _ _ h,ύ (xZ scope=όl) (funext λx=>Bool.eq_false_iff.mpr λw=>h _ (wQ w) rfl)]
def Blk.toK(B:ϯz outs):϶Y:=⟨B.hsc,B.kind,B.loc,λx h e=>absurd e<|B.nocell x h,λ_ _ _ m=>B.nocell _ m rfl,B.fr,B.out⟩
section
variable{X:Cx}{own:À Str}{outs:À ϴM}{pos:Pos}
def OU(own:À Str)(h:X.à)(j:á X.N=Ď)(a:ϲg x)(B:ϯz outs)(l:ϗ)(hi:Ϸp iter wi)(hg:ϹE (ϩR (ϧi own (ϵC Ž) p)))(c:ϹE (ώA (ϧi own (ϵC Ž) p)))(he:ϹE (ώB (ϧi own (ϵC Ž) p)))(w:à (ϬL ϳO (Â<|ð pos') spos.line X.Ü=Ϭp))(S:ϸZ)(f:ϕ (ϳg\/ϱW=Â ο)):
  ϲb (ϴZ [ð pos'] ϳO spos) (ϕd Ϫl):=
 D5 own h j a B.toK l hi (ϏW<|ϓA p) (ϏW<|ϔn p) (ϏW<|όr p) w S f
end
def uT{X:Cx}{p:À ŝ}{d:St}{H:Hp}{s:Da}{ch:À Ix}{T:Ix}{o:HO}{h':Op}{t':Nat}(I:ù p d H s)(h:ϙF)(k:∀b u,Ϻl->ϱL ϰc ķ h'.È)
  (t:s.Á<=T) (new:Ϲn (ļ T o) h' T o):ù p d (ļ T o) ((ϱk h' t')):=by
 let N:Ϩ2:=I.É t;let a:∀b u,H b=ķ->Ϻl:=ϖh
 let lt:∀b u,ϰc=ķ->b≠T:=λb u e=>K9O<|K9P ϱv t;show ϔ9 (λb u _ e n=>ϯG (lt b u e)) ϖZ (λb x e=>ϫd (ϦK N)) (λb u v e=>ϫd (ϦK N)) (λb P e=>⟨#[],by rw[aC<|ϦK N,e];simp⟩) Ϩm ϯJ I.bare
 .let(F,g,J,j,f4,f):=h b B
  show(j,g,f4,f)
 .let(l,S,E,O,r):=M
  show(l,S,E,k _ l ϐe O,r)
 cases B:b=T
 .subst B
  rw[aU]at e;cases e;show new
 rw[ϷL]at e;show Ϗl (λc q=>Ô (aC<|ϲY N) q) (λc x q=>Ô (aC<|ϲY N) q)
 rcases C with z|z
 .rw[z]
  show a b u e
 show a c _ z
def rZ{X:Cx}{p:À ŝ}{a:St}{H:Hp}{s:Da}{ch:À Ix}{h':Op}{t':Nat}(I:ù p a H s)(h:ϙF)(k:∀b u,Ϻl->ϱL ϰc ķ h'.È):
  ù p a H ((ϱk h' t')):=by
 let N:∀b u,H b=ķ->Ϻl:=ϖh
 show ϔ9 Ϛw ϖZ (λ_ _ e=>e) (λ_ _ _ e=>e) ϖD Ϩm ϯJ I.bare
 .let(F,g,J,j,f4,f):=h b B
  show(j,g,f4,f)
 .let(l,S,E,o,r):=M
  show(l,S,E,k _ l ϐe o,r)
 show Ϗl όJ Ϩu;rcases C with z|z
 .rw[z]
  show N b u e
 show N c _ z
def Ite(K:At)(a:Ix):It:=
 (Ϯx (∃X x,μ a X/\á X=Ď) (λi H x h=>∃T y,Ϩ2/\x=É T/\h=ļ T (Ī [Ä i,y])/\∀X,μ a X->á X=ϰO) (μ a X))
def IG{P:Do}{w:Ev}{K:At}{M:À On}{k:Nat}{pos:Pos}(a e it:Ix)(n:e≠it):
  ϔf (.Tuple M k pos) (Ite K a) [e,it] e (λi h=>(∃old,IsEnum h e it i old)/\ϙ2) where
 mem:=Û
 obj:=λi h T b B=>by
  obtain⟨⟨old,he⟩,o,O,c,d⟩:=T;let f:b=e\/b=it:=ϳR
  rcases f with z|z
  .subst z
   show(_,he,ϤZ)
  .subst z
   show(o,O,ϪG)
 keep:=λi h h' T J=>⟨(let⟨old,he⟩:=T.1;⟨old,J e Û _ he⟩),T.2.at λo O=>J it Û o O⟩
 item:=by
  ext X r W m G i N s σ H E I F T hg;subst r W m;let(xs,x,Q,C):=hg;obtain⟨⟨old,he⟩,hit⟩:=T;let(D,R,p,hz):=϶F Q;let(u,hu,ru):=R.get C;let elt:e<s.Á:=K9h he;show wpAny_pyNext_enum_item he hit p.Ê (x:=u) (ť hu) n λV ho t Y hsz Z=>?_;show(_,rfl,wpAny_letOwnedTupleGo_enum ho λj A S=>?_);let kk:∀b v,b∉[e,it]->ϱL ϰc ĥ j.È:=λb v B q=>by
   let g:b≠e:=λz=>B (Ϯ z);let l:b≠it:=λz=>B (Ϯ z);show ĉ (S.2 b g)<|Z b v g l q
  let y:j.È s.Á=Â ((Ċ "tuple" (δ #[Ä i s.ã,u]))):=ĉ (ϵy<|Zbx elt) Y;show(É s.Á,ϵ2<|Ī [Ä i,x],ύ2 (h':=j) (t':=s.ã+1) I F kk ì ?_,rfl,(_,x,I.fresh,rfl,rfl,λys hy=>όo (I.č hy Q)),((_,A),?_),ϹL)
  .exact(ϻk (ŀ 2),[Ä i s.ã,u],ą ζ<|ą ru õ,_,y,rfl,_,rfl)
  .show t.at λo O=>ĉ (S.2 it<|K8g n) O
  .let(U,f1,f2,f3,f4,f5):=F b B
   let f:b=e\/b=it:=ϳR
   let(oi,eoi,_):=hit;let:ϚC:=by
    rcases f with z|z
    .rw[z];show elt
    .rw[z];show K9h eoi
   rw[aC<|K9O this];show U
 done:=by ext X r W m G i N s σ H E I F T hg;subst r W m;let(xs,Q,C):=hg;obtain⟨⟨old,he⟩,hit⟩:=T;let(D,R,p,hz):=϶F Q;let hl:=R.À;apply wpAny_pyNext_enum_end (I.ok.hd G) he hit p.Ê ϳc λV L=>⟨rfl,ϧB I F (λb v B q=>L b v (λz=>B<|Ϯ z) q)⟩
 self:=λ_ _ _ _ _ T h=>(let⟨old,he⟩:=T.1;ϙG h)
def R_(K:At)(ta:TA):TI:=λb H R=>ta b H λs h=>ϐb (s=[É a]) SqL Ite
def xb:ϺP "enumerate":=œ
def vP:ϺP "zip":=œ
def QQ{p pos tpos:Pos}(hg:γ "enumerate")(M:ϙo)(A:ϱT [a] ta)(n:à (æ [a]=϶z ϰI)):
  PI X (ϻu k tpos) (ϳP "enumerate" [a]) (R_ X.K ta):=by
 ext i s g H R I h;show Call_<|Ϩr xb<|K98 (Wp (Ϭ6 i s g H _ I h) λU S zq=>?_) n rfl;let(V,d,c,r,o):=zq;obtain⟨l,e,⟨x,Q⟩,q⟩:=o;subst e;let(u,rfl,L):=Ϩw;cases L;let(t,v,pl,Z):=c.ê Q;show call_enumerate_list pl.Ê λm he hit hsz K=>?_;show ϙG ?_;let j:ù i g d {S with heap:=m}:=ϐY K;show(ϲf 1,[ϲf 1,S.heap.objs.size],_,Ite X.K l,d,rfl,j,IG l _ _ ϙE,((_,he),hit),ϹL,q);let f:b=ϲf 1\/ϐZ:=ϳR
 rcases f with z|z
 .subst z
  show c.fpOk Ϸt<|c.É Ϸt
 subst z;show c.fpOk ì<|c.É ì
def Itz(K:At)(a b:Ix):It:=
 ⟨λi H=>∃X x s y,μ a X/\á X=Ď/\μ b s/\ϵT=ϰO,λi H v h=>∃T x y,Ϩ2/\v=É T/\h=ļ T (Ī ϶K)/\(∀X,μ a X->á X=Ď)/\∀s,μ b s->ϵT=ϰO,
  λi H=>∃X s,μ a X/\μ b s/\(X.À<=i\/s.À<=i)⟩
def Kh{P:Do}{w:Ev}{K:At}{es:À On}{k:Nat}{pos:Pos}(a b z TI TO d f:Ix)(Z:z≠TI/\z≠TO/\z≠d/\z≠f)(B:TI≠TO/\TI≠d/\TI≠f)(z3:TO≠d/\TO≠f)(z4:d≠f)
  (z5:a≠z/\a≠TO/\a≠d/\a≠f) (z6:b≠z/\b≠TO/\b≠d/\b≠f):
  ϔf (ϻu k pos) (Itz K a b) ϒx z (λi h=>IsZip h z TI TO ò/\IsPair h TI (É d) (É f)/\(∃u v,IsPair h TO u v)/\h.Ú d a i/\h.Ú f b i):=by
 let D:ZipApart z TI TO d f a b:=⟨K8g Z.1,K8g Z.2.1,K8g Z.2.2.1,K8g Z.2.2.2,B.1,B.2.1,B.2.2,z3.1,z3.2,z4,z5.1,z5.2.1,ϴz z5,z5.2.2.2,z6.1,z6.2.1,ϴz z6,z6.2.2.2⟩;let m:∀c,c∈ϒx->c=z\/c=TI\/c=TO\/c=d\/c=f:=λc C=>by simpa using C
 constructor
 .simp
 .intro i h g c C
  obtain⟨j,t,⟨u,v,T⟩,⟨o1,e1,c1,d1⟩,o2,e2,c2,d2⟩:=g;rcases m c C with rfl|rfl|rfl|rfl|rfl
  .exact(_,j,ϤZ)
  .exact(_,t,ϤZ)
  .exact(_,T,ϤZ)
  .exact(o1,e1,ϗ2 d1)
  show(o2,e2,ϗ2 d2)
 .intro i h h' g J
  obtain⟨j,t,⟨u,v,T⟩,n,r⟩:=g;show(J z Û _ j,J TI Û _ t,(u,v,J TO Û _ T),n.at λo e=>J d Û o e,r.at λo e=>J f Û o e)
 .intro X hP hw hK C i N s σ H E I O g hg
  subst hP hw hK;let(xs,x,ys,y,U,hx,hr,hy):=hg;obtain⟨j,t,⟨u,v,T⟩,n,r⟩:=g;let(its,rv,p,_):=I.ê U;let(G,Tl,p2,_):=϶F hr;let(V,hux,rux):=rv.get hx;let(Y,huy,ruy):=Tl.get hy;show wpAny_pyNext_zip_item D j t T n r p.Ê p2.Ê (x:=V) (y:=Y) (ť hux) (ť huy) λh3 a1 a2 a3 a4 a5 a6 R=>?_;let L:Ϥ5 z:=K9h j;show(_,rfl,ϙj a1 (λM hz4 S=>?_));let kk:∀c W,c∉ϒx->ϱX (some W) M.È:=λc W C q=>by
   let n1:c≠z:=ϺY;let n2:c≠TO:=ϺY;let n3:c≠d:=ϺY;let n4:c≠f:=ϺY;show ĉ (ϥ1 n1)<|R c W n1 n2 n3 n4 q
  let hT4:IsPair M s.Á V Y:=ĉ (ϵy<|Zbx L) a5;let F:IsPair M TI (É d) (É f):=ĉ (ϵy<|K8g Z.1)<|R _ _ (K8g Z.1) B.1 B.2.1 B.2.2 t;show(É s.Á,ϵ2<|Ī ϶K,ύ2 (h':=M) (t':=s.ã) I O kk ì ?_,rfl,(_,x,y,I.fresh,rfl,rfl,λzs l=>Ô (I.č l U) hx,λzs l=>Ô (I.č l hr) hy),
   (hz4,F,(V,Y,ĉ (ϵy<|K8g Z.2.1) a2),a3.at λo e=>ĉ (ϵy<|K8g Z.2.2.1) e,a4.at λo e=>ĉ (ϵy<|K8g Z.2.2.2) e),ύy)
  .exact(ϻk (ŀ 2),[V,Y],ą rux<|ą ruy õ,_,hT4,rfl,_,rfl)
  let clt:ϚB:=by
   let(o1,e1,_):=n;let(o2,e2,_):=r;rcases m c C with rfl|rfl|rfl|rfl|rfl
   .show L
   .show K9h t
   .show K9h T
   .show K9h e1
   show K9h e2
  rw[aC<|K9O clt];show(O c C).1
 .intro X hP hw hK C i N s σ H E I O g hg
  subst hP hw hK;let(xs,ys,U,hr,hx):=hg;obtain⟨j,t,⟨u,v,T⟩,n,r⟩:=g;let(its,rv,p,_):=I.ê U;let(G,Tl,p2,_):=϶F hr;let l1:=rv.À;let l2:=Tl.À;apply wpAny_pyNext_zip_end ϳX D j t T n r p.Ê p2.Ê ϳc λh3 R=>⟨rfl,ϧB I O (λc W C q=>R c W ϺY ϺY ϺY ϺY q)⟩
 ext A i s Q E g h;show K7z g.1 h
def neA(h:a≠b):@Ne Ix a b:=h
def Xr(K:At)(ta:TA):TI:=λc H R=>ta c H λs h=>∃a b,s=[É a,É b]/\(∃X,SqL K h a X)/\(∃y,SqL K h b y)/\R (Itz K a b) h
def Vk{p pos tpos:Pos}(hg:γ "zip")(M:ϧG)(B:ϱT ϲa ta)(E:à (æ ϲa=ϻt ϰI ϲh))(f:à (æ [b]=϶z ϲh)):
  PI X (ϻu k tpos) (ϳP "zip" ϲa) (Xr X.K ta):=by
 ext i s j H R I h;show Call_ (Ϩr vP<|ϛf<|by rw[f];rfl);let(vs,g,d,O,N):=zq;obtain⟨l,L,e,⟨xs,Q⟩,⟨ys,hr⟩,q⟩:=N;subst e;let(u,v,rfl,U,r):=Vals.two O;cases U;cases r;let(F,Y,pl,W):=d.ê Q;let(T,Tl,P,Z):=d.ê hr;let G:ϐT l S.Á:=(let⟨o,e,_⟩:=pl.Ê;ϱv);let J:ϐT L S.Á:=(let⟨o,e,_⟩:=P.Ê;ϱv);show call_zip_2 pl.Ê P.Ê λz A n w x y V K=>?_;show K7z A ?_;let m:ù i j g ((Ϭe z)):=ϙ7
 show(ϲf 4,[ϲf 4,ϲf 2,ϲf 3,S.heap.objs.size,ϲf 1],_,Itz X.K l L,g,rfl,m,
  Kh l L (ϲf 4) (ϲf 2) (ϲf 3) S.Á (ϲf 1) ⟨neA Á,neA Á,neA Á,neA Á⟩ ⟨neA Á,neA Á,neA Á⟩ ⟨neA Á,neA Á⟩ (neA Á) ⟨neA Á,neA Á,neA Á,neA Á⟩ ⟨neA Á,neA Á,neA Á,neA Á⟩,(A,n,(_,_,w),x,y),ύy,q)
 let t:ϚD S.Á c:=by
  let D:ϬB (ϲf 4)\/ϬB (ϲf 2)\/ϬB (ϲf 3)\/ϬB S.Á\/ϬB (ϲf 1):=by simpa using C
  lia
 show Ϙ3
mutual
inductive Rep(K:At)(H:Hp):V->Ú Gc
 |non:Ŀ H Β ò
 |bl (b:Bool):Ŀ H ϵO (ã b)
 |int (i:Int):Ŀ H (Ä i) (Ä i)
 |str (x:Str):Ŀ H (Ė x) (Ė x)
 |lst {a:Ix} {xs:À V} {ds:À Gc}:μ a xs->ϵM xs ds->Ŀ H (É a) (Ï ds)
 |tup {a:Ix} {xs:À V} {ds:À Gc}:Ϲ3 a xs->ϵM xs ds->Ŀ H (É a) (Ą ds)
inductive E5(K:At)(H:Hp):À V->Ú (À Gc)
 |nil:ϵM [] []
 |cons {v:V} {vs:À V} {d:Gc} {ds:À Gc}:Ŀ H v d->ϵM vs ds->ϵM Ϭ7 ϥ3
end
def E5.reads(I:Ģ)(h:E5 X.K H vs ds):∀u,ţ vs u->∃as,ReadsAll s.Ì u ds as:=ϧe (λv d _=>∀u,ϲj->ϑj Reads) (λv d _=>∀u,Vals v u->ϑj ReadsAll) (λ_ r=>ϑs ò) (λb _ r=>ϑs (ã b)) (λi _ r=>by let(t,rfl):=r;show(_,Ä i t)) (λx _ r=>by let(t,rfl):=r;show(_,Ė x t)) (ϕn I.ê p.Ê<|Ï e c D ϑk) (ϕn I.Ă (show s.Ć _ T.Æ from p)<|Ą e c D ϑk) (λ_ r=>ϑs õ) (λ_ _ i j _ r=>by cases r with|cons q t=>let(as,A):=i _ q;let(bs,B):=j _ t;show(_,ą A B))
def Rep.reads(I:Ģ){u:Db}(h:Rep X.K H v d)(r:ϲj):ϑj Reads:=by let(as,A):=E5.reads I (ą h õ) _<|ą r õ;cases A with|cons a _=>show(_,a)
def Xy(K:At):R2:=ϰj (∃d e,Ŀ H x d/\Ŀ H y e/\ϖp (.bl<|PyData.eqv d e))
def YW(K:At):R2:=ϰj (∃d e,Ŀ H x d/\Ŀ H y e/\ϖp (.bl<|!PyData.eqv d e))
def U7(U:ϷT 64):ϵ7 Eq (Xy X.K):=ϔ3 eq_dataH
def Uc(U:ϷT 64):ϵ7 NotEq (YW X.K):=ϔ3 ne_dataH
def wB:bootBuiltins "isinstance"=some (Ρ "isinstance"):=œ
def Ir(C:ϗ):ϹK (Ρ "max") (∃(a:Ix)(ns:À Int),x=[É a]/\ϴY H a ϱE/\ϫJ/\∀M,M∈ns->(∀z,ϸI->z<=M)->Q (Ä M) H):=by
 ext p s w H x U Q I r h;let(a,ns,rfl,c,L,q):=h;let(u,rfl,R):=Ϩw;cases R;let(i,g,pl,o):=I.ê c;let hi:ϫx:=intsAre_of g;let(y,e):=hi.ė;let n:ns=y.toList.Ç ϔ:=Ϗq
 let hsz:0<y.Ã:=ϖJ
 let l:=pl.Ê;rw[e]at l;show max_intList ϳX l hsz λv h' tk d k=>?_;let(t,rfl):=intItems_at d;let(m,b):=Ϝh<|y.Ã-1;show(Ä _,H,I.ò k,(t,rfl),q _ ?_ ϨP)
 .rw[n,numAt_eq]
  show getD_mem (Ϲ K0 K8t)
 rw[n]at Z;let(j,J,rfl):=mem_getD Z;rw[K0,K8t]at J;rw[<-numAt_eq];show b j Á
def Jp(C:ϗ):ϹK (Ρ "min") (∃(a:Ix)(ns:À Int),x=[É a]/\ϴY H a ϱE/\ϫJ/\∀M,M∈ns->(∀z,ϸI->M<=z)->Q (Ä M) H):=by
 ext p s w H x U Q I r h;let(a,ns,rfl,c,L,q):=h;let(u,rfl,R):=Ϩw;cases R;let(i,g,pl,o):=I.ê c;let hi:ϫx:=intsAre_of g;let(y,e):=hi.ė;let n:ns=y.toList.Ç ϔ:=Ϗq
 let hsz:0<y.Ã:=ϖJ
 let l:=pl.Ê;rw[e]at l;show min_intList ϳX l hsz λv h' tk d k=>?_;let(t,rfl):=intItems_at d;let(m,b):=Ϝi<|y.Ã-1;show(Ä _,H,I.ò k,(t,rfl),q _ ?_ ϨP)
 .rw[n,numAt_eq]
  show getD_mem (Ϲ K0 K8t)
 rw[n]at Z;let(j,J,rfl):=mem_getD Z;rw[K0,K8t]at J;rw[<-numAt_eq];show b j Á
def Jl(C:ϗ):ϹK (Ρ "sum") (∃(a:Ix)(ns:À Int),x=[É a]/\ϴY H a ϱE/\Q (Ä ns.Ğ) H):=by
 ext p s c H x U Q I r h;let(a,ns,rfl,b,q):=h;let(u,rfl,L):=Ϩw;cases L;let(i,R,pl,Z):=I.ê b;let hi:ϫx:=intsAre_of R;let(y,e):=hi.ė;let n:ns=y.toList.Ç ϔ:=Ϗq
 let l:=pl.Ê;rw[e]at l;show sum_intListG ϳX l λh' tk T k=>?_;show(Ä _,H,I.ò k,(T,?_),q);rw[preSum_eq,K90 Û,n]
def Nc:MtR X "list.index" (λx b H Q=>∃(a:Ix)(ns:À Int)(z:Int),x=É a/\b=[Ä z]/\ϴY H a ϱE/\ϸI/\Q (Ä ϧy) H):=by
 ext p s f H x b v U Q I r R h;let(a,ns,z,rfl,rfl,c,M,q):=h;cases r;let(u,rfl,t,rfl):=Vals.one R;let(i,rs,pl,Z):=I.ê c;let hi:ϫx:=intsAre_of rs;obtain⟨⟨cls,D,data,e⟩,o,C,n,d⟩:=pl.Ê;simp only at C d;subst C d;let l:=hi.À;let J:ϓB<ns.À:=ϏE;let N:=rQ;let B:ŀ ns.À:=by simpa using Z
 apply K86 PySem.F.slot_list_index ⟨_,o,rfl⟩ PySem.F.entry_list_index (PySem.F.args_list_index_2 _ _)
  (SeqAt.list_indexAt a i.Æ n D e (Ä z t) (isInt z) ϓB (by simpa[l]using J) Á ?_ ?_) ⟨o,λy Y=>(eq_isInt z t hi y ϧx).at _ _,ϵl (Ä _) ζ⟩
 .change isInt z i[ϓB]=true
  rw[isInt_at z hi _ Á J];simpa using Zcf J
 ext j S L;change isInt z i[j]=false;rw[ϛE Á];show ne_of_lt_idxOf L _
def NN{K:At}{a:Ix}{xs:À V}(Pv:Nat->À V->Ú Hp)(b:Pv 0 [] (ϘB<|ô []))(l:∀i c H,i<=xs.À->Pv i c H->μ a xs)
  (S:∀i x c H,xs[i]?=Ď->Pv i c H->g x σ0 H (Ϝt<|Pv<|i+1)) (d:∀c H,Pv xs.À c H->Q H):Vq (Itl K a) g tc te σ0 D H1 Q:=by
 show(λi m c H=>ϒn xs.À (Pv i c H),(xs.À,Û,ϰS,b),?_);ext i m c H ⟨rfl,hi,p⟩;let q:=l i c H hi p;cases L:i<xs.À
 .apply Ø ⟨⟨xs,xs[i],q,ό0⟩,Pv<|i+1,λA h P=>⟨xs.À-(i+1),Á,rfl,L,P⟩,λx h y=>?_⟩
  let(e,y):=y;subst e;show S i x c _ (y xs q) p
 let e:i=xs.À:=Á
 subst e;show Ð ⟨⟨xs,q,ì⟩,d c H p⟩
def PvM(h:Hp)(D:Ix)(r:Nat->À V)(i:Nat)(a:À V)(H:Hp):Prop:=a=r i/\aK h H/\H D=Â (ô a)
def PvM.start(d:H1 D=none)(h:r 0=[]):PvM H1 D r 0 [] (ϘB<|ô []):=
 ⟨h.Ï,ϲ0 (ϫd (ϦK d)),aU⟩
def PvM.yes{h H:Hp}{D:Ix}{r:Nat->À V}{i:Nat}{a:À V}{y:V}(d:h D=none)(p:PvM h D r i a H)(e:r (i+1)=r i++[y])(l:ϥY (Ã (r i))):
  H D=Â (ô a)/\ϥY a.À/\PvM h D r (i+1) Ϭ4 (ļ D<|ô Ϭ4):=
 ⟨p.2.2,Ϩa p.1,by rw[p.1,e],λb u q=>Ô (aC<|ϲY d) (p.2.1 b u q),aU⟩
structure Def(K:At)(mg:Ŏ)(x:Str)(st:No)(ps:À Str)(f:Ix)(fd:Fk):Prop where
 F:Fun K x x st f fd
 g:mg x=Â (É f)
 b:ϹG K []
def aK.upd(e:ϩu)(h:϶n):aK H (L2.upd H' a o):=λb u q=>Ô (aC<|ϲY h) (e b u q)
section
variable{X:Cx}
def zV(K:At)(h:ϺA):ϸU (Av K):=ϥb Hr
def Xh(K:At):À V->Hp->Ú VK:=ϷB (∃p y,X=[É p]/\(μ p y\/Ϲ3 p y)/\∀l,H l=none->Q (É l) (ļ l<|ô y))
def Jd(K:At)(h:ϺA):ϳM (Ω "list") (Xh K):=ϥb B_
def Nx(K:At)(h:ϺA)(a:ā l tl):Ϸp l (EG K tl):=ϥb (HG a)
def RY(K:At):À V->Hp->Ú VK:=ϷB (∃(a:Ix)(ns:À Int),X=[É a]/\μ a ϱE/\ϫJ/\∀M,M∈ns->(∀z,ϸI->z<=M)->Q (Ä M) H)
def sE(K:At)(h:ϺA)(C:ϗ):ϳM (Ρ "max") (RY K):=ϥb (Ir C)
def R6(K:At):À V->Hp->Ú VK:=ϷB (∃(a:Ix)(ns:À Int),X=[É a]/\μ a ϱE/\ϫJ/\∀M,M∈ns->(∀z,ϸI->M<=z)->Q (Ä M) H)
def nJ(K:At)(h:ϺA)(C:ϗ):ϳM (Ρ "min") (R6 K):=ϥb (Jp C)
def Q6(K:At):À V->Hp->Ú VK:=ϷB (∃(a:Ix)(ns:À Int),X=[É a]/\μ a ϱE/\Q (Ä ns.Ğ) H)
def kU(K:At)(h:ϺA)(C:ϗ):ϳM (Ρ "sum") (Q6 K):=ϥb (Jl C)
end
section
variable{κ:Type}[DecidableEq κ]
def sT(Fv:À Ϥk)(k:κ):Ü V:=ß Fv.find? (λv=>Õ ϴg) Ž
def putK(Fv:À Ϥk)(k:κ)(v:V):À Ϥk:=
 Ë (ϴ Fv.ě (λK=>Õ<|K.1=k)) (϶P (λK=>Ë (K.1=k) (K.1,v) K)) (Fv++[(k,v)])
def u7{p:Ϥk}(e:p.1=k):sT (p::r) k=Â p.2:=by simp[sT,K8p,e]
def vH{p:Ϥk}(e:¬p.1=k):sT (p::r) k=sT r k:=by simp[sT,K8p,e]
def EA(k:κ):∀Fv:À Ϥk,(Fv.ě λv=>Õ ϴg)=(ϸq).isSome:=by
 induction _ with
  |nil=>
   exact rfl
  |cons p r ih=>
   rw[K81];cases e:p.1=k
   .simp only[u7 e,Z8 e,Bool.true_or,Zfc]
   .rw[vH e,K9q e,Bool.false_or];show ih
def rJ(Fv:À Ϥk)(k:κ)(v:V):Ã (϶p k v)<=ώJ 1:=by
 erw[putK];split
 .rw[K0];lia
 rw[K9v,K9p,K8U];lia
def xi.isSome_eq(r:xi o u):o.isSome=u.isSome:=by
 cases o with
 |none=>cases u with|none=>rfl|some _=>show ϪM
 |some _=>cases u with|none=>show ϪM|some _=>rfl
def xi.getD(r:xi o u)(R:RelV d d'):RelV (o.ď d) (u.ď d'):=by
 cases o with
 |none=>cases u with|none=>show R|some _=>show ϪM
 |some _=>cases u with|none=>show ϪM|some _=>show r
def KV.val(r:Ϩ3)(k:κ):xi ϸq (ϬM vs):=by
 erw[KV]at r
 induction r with
 |nil=>show True.intro
 |@cons p q ps qs h t ih=>
  let(H,a):=h;cases e:p.1=k
  .let e':q.1=k:=H.Ñ e
   let b:ϬM ώC=Â q.2:=ϯy valueAt
   rw[u7 e,b];show a
  let e':¬q.1=k:=λz=>e<|H.Å z;let b:ϬM ώC=ϬM qs:=ϯy valueAt
  rw[vH e,b];show ih
def KV.any(r:Ϩ3)(k:κ):ϹP Fv.ě (λv=>Õ ϴg) vs.ě:=by
 erw[KV]at r
 induction r with|nil=>rfl|cons h t ih=>rw[K81,K81,ih,h.1]
theorem KV.repl(r:Ϩ3)(k:κ)(Y:϶o):
  KV (Ϯf (v.1,y)) (vs.Ç λv=>if ϴg then(v.1,u)else v):=by
 erw[KV]at r⊢
 induction r with
 |nil=>show õ
 |@cons p q ps qs h t ih=>
  rw[K9w,K9w];show ą ?_ ih;let(H,a):=h;cases e:p.1=k
  .rw[Os e,Os<|H.Ñ e];show(H,Y)
  rw[ϲt,ϱh (e<|H.Å z)];show(H,a)
def KV.put(r:Ϩ3)(k:κ)(Y:϶o):KV (϶p k y) (stored vs k u):=by
 erw[putK,stored];rw[r.ě k];cases e:(vs.ě λv=>Õ ϴg)=true
 .rw[Os e,Os e];show r.repl k Y
 rw[ϲt,ϲt];show Paired.snoc r ⟨rfl,Y⟩
def KV.length(r:Ϩ3):Fv.À=vs.À:=Paired.length r
end
def C0{k:Key}(r:RelV (kV k) u):(ύ9).is k u=true:=by
 cases k with|inl i=>let(t,e):=(show ϐB from r);subst e;show CV P w i t|inr x=>let(t,e):=(show∃t,u=ϒv from r);subst e;show Ea P w x t
def Ba:∀{s:À Key}{u:À Db},ţ (s.Ç kV) u->ItemsAre ύ9 s u:=by
 induction _ with
  |nil=>
   ext _ r
   rw[K9D]at r;cases r;show õ
  |cons k s ih=>
   ext _ r
   rw[K9w]at r;cases r with|cons h t=>show ą (C0 h)<|ih t
abbrev KT(H:Hp):À (À Key×V)->Ú (À (À Key×Ix×Db)):=Paired λp q=>p.1=q.1/\H q.2.1=Â (Ī<|Ê p.1 kV)/\ύ8 q.2.2
def KT.val(r:ϩv xs)(k:À Key):xi ϸq (Ê (atKey xs k) Ž):=by
 induction r with
 |nil=>show True.intro
 |@cons p q ps qs h t ih=>
  let(a,_,c):=h;cases e:p.1=k
  .let e':q.1=k:=a.Ñ e
   let b:atKey ώC k=Â q.2:=ϯy atKey
   rw[u7 e,b];show c
  let e':¬q.1=k:=λz=>e<|a.Å z;let b:atKey ώC k=atKey qs k:=ϯy atKey
  rw[vH e,b];show ih
theorem KT.repl(r:ϩv xs)(k:À Key)(Y:϶o):
  KT H (Ϯf (v.1,y)) (xs.Ç<|putAt k u):=by
 induction r with
 |nil=>show õ
 |@cons p q ps qs h t ih=>
  rw[K9w,K9w];show ą ?_ ih;let(a,b,f):=h;erw[putAt];cases e:p.1=k
  .rw[Os e,Os<|a.Ñ e];show(a,b,Y)
  rw[ϲt,ϱh (e<|a.Å z)];show(a,b,f)
def KT.put(r:ϩv xs)(k:À Key)(B:H b=Â (Ī<|k.Ç kV))(Y:϶o):
  KT H (϶p k y) (storedH xs k b u):=by
 let e:(Fv.ě λv=>Õ ϴg)=ϙ8:=by rw[EA,(r.val k).isSome_eq,Option.isSome_map]
 erw[putK,storedH];rw[e];cases q:ϙ8=true
 .rw[Os q,Os q];show r.repl k Y
 rw[P3 q,P3 q];show Paired.snoc r ⟨rfl,B,Y⟩
def KT.keeps(r:ϩv xs)(l:∀b y,ϱL (H b) (Â (Ī y)) H'):KT H' Fv xs:=
 Paired.mapP r λ_ _ z=>ϗD
section
variable{h:Op}
def RA(ok:϶f)(e:Ϸr u):ϻr u:=e.ok ok
def Ec(ok:϶f)(e:Ϸr ϶m):ŀ Fv.À/\ϺW/\Ϗt:=
 ύ (ϻr ϶m) (RA ok e)
def Rk(ok:϶f)(e:H a=Â ϶m):ŀ Fv.À/\ϺW/\Ϗt:=Ec ok<|Ð e
def pG(ok:϶f)(e:H a=Â (Ī<|ks.Ç kV)):(ϪW).is h ks a:=by
 let(_,i,r,o,b,c,n,f):=(ύ (ϻr (Ī<|ks.Ç kV))<|ok a _ e)
 show(o,i.toArray,n,b,c,f,ť (Ba r))
theorem DY(ok:϶f)(e:Ϸr ϥN):ŀ Fv.À/\ϺW/\
  ∃s,ϩv s/\h.DictOfH ϪW a s:=by
 let(z,y,s,r,o,S,E,b,c,f,d,g):=(ύ (ϻr ϥN)<|RA ok e)
 show(z,y,s,r,o,S,E,b,c,f,d,λx X=>?_,g);let all:∀{l:À (À Key×V)}{m:À (À Key×Ix×Db)},KT H l m->∀x∈m,(ϪW).is h x.1 x.2.1:=by
  ext l m q
  induction q with
  |nil=>ext x X;show nomatch X
  |@cons p q ps qs hq t ih=>
   ext x X;rcases K8v.mp X with e|X
   .subst e
    show pG ok (Ϙ hq.1 hq.2.1)
   show ih x X
 show all r x X
def WS(ok:϶f)(e:H a=Â ϥN):ŀ Fv.À/\ϺW/\
  ∃X,ϩv X/\h.DictOfH ϪW a X:=DY ok<|Ð e
end
def Cu(H:Hp)(a:Ix)(y:V)(r:Ü V):Prop:=
 (∃Fv k,Ϸr ϶m/\y=kV k/\r=ϸq)\/∃Fv k b,Ϸr ϥN/\y=É b/\H b=Â (Ī<|k.Ç kV)/\r=ϸq
def YU(H:Hp)(a:Ix)(y v:V)(h:Hp):Prop:=
 (∃Fv k,H a=Â ϶m/\y=kV k/\ϥY Fv.À/\h=ļ a (.dK<|϶p k v))\/
 ∃Fv k b,H a=Â ϥN/\y=É b/\H b=Â (Ī<|k.Ç kV)/\ϥY Fv.À/\h=ļ a (.dT<|϶p k v)
theorem Cu.k{k:Key}(e:H a=Â ϶m):Cu H a (kV k) ϸq:=Ð ⟨Fv,k,Ð e,rfl,rfl⟩
section
variable{X:Cx}{s:Da}{A:Go}
def Inv.big(I:Ģ):Ϥ5 sysModules:=by let h:Ϥ5 mainGlobals:=(ϐr).lt;show Zce Ý h
def Im(U:ϫu 1)(I:Ģ)(g:ώe ĥ)(r:϶o)(h:∀W S,ù H6 σ H S->RelV v W->Q W S):
  ϷJ ϳQ A (getItem (É a) u) Q E s:=by
 rcases g with⟨Fv,k,e,Y,l⟩|⟨Fv,k,b,e,Y,G,l⟩
 .subst Y
  let(z,d,V,rel,D):=ό1;let(W,w,R):=ϖx (ϬM V);show ϛG<|h W _ ϨV R
 subst Y;cases(show ϒy from r);let(z,d,x,rel,D):=ό2;let(W,w,R):=ϖx (Ê (atKey x k) Ž);let(p,c,P):=XL.mp w;show wpAny_getItem_heap ϐf ϒV D c ?_;rw[P];show h W _ ϨV R
def BL(I:Ģ)(m:Mut (H a))(S:ϐp h')(he:∃q,ύw=Â q)(new:Ϲn (ļ a ob) h' a ob):
  ù H6 σ (ļ a ob) ((ϱk h' t')):=
 I.write (x:=a) (e:=a) m (Ð rfl) (λb q B z=>ĉ (S.2 b B) z) he new
def Kr(z:ŀ Fv.À)(d:ϺW)(rel:Ϩ3)(D:h'.DictOf ύ9 a vs):
  ώK H' a ϶m:=⟨z,d,vs,rel,D⟩
def IL(U:ϫu 1)(I:Ģ)(g:YU H a y v H')(m:϶o)(R:RelV v r)(h:∀n,ù H6 σ H' n->Q () n):
  ϷJ ϳQ A (setItem (É a) u r) Q E s:=by
 rcases g with⟨Fv,k,e,Y,l,i⟩|⟨Fv,k,b,e,Y,G,l,i⟩
 .subst Y i
  let(z,j,V,rel,D):=Rk I.hok e;let Z:ŀ V.length:=Ϙ rel.À z
  let L:ŀ (Ã (϶p k v)):=Ĳ (rJ Fv k v)
  show wpAny_setItem_pairs (hsz:=Z) (C0 m) D λh' d S=>h _ ?_;let he:∃q,ύw=Â q:=let⟨q,_,_,f,_⟩:=d;⟨q,f⟩;show BL I (ϻq True.intro) S he<|Kr L j (rel.put k R) d
 subst Y i;cases(show ϒy from m);let(z,j,F,rel,D):=WS I.hok e;let Z:ŀ F.length:=Ϙ (Paired.length rel) z
 let L:ŀ (Ã (϶p k v)):=Ĳ (rJ Fv k v)
 show wpAny_setItem_heap (hsz:=Z) ϐf ϒV D λh' d S=>h _ ?_;let(q,o,p,f,t,w,x,_,B):=d;show BL I (ϻq True.intro) S ⟨q,f⟩ ⟨L,j,_,(rel.put k G R).keeps λc J C=>?_,q,o,p,f,t,w,x,B⟩;rw[aC<|Xg C e ϳU];show C
end
def Uz(i:On):Prop:=∀O I,subscripted i false O I=operate [O,I] (getItem O I)
theorem Qu{pos:Pos}{T id:String}(l:typeLookup (Ω T) "__getitem__"=pure (Â<|Ρ id))(d:Uz slice)(h:ϰF (eval value env) (λo a=>ϰF (eval slice env) (λi S=>S.TypeIs o T/\ϰF (getItem o i) Q E S) E a) E s):
  ϰF (eval (ŕ value slice pos) env) Q E s:=by
 show Subscript_<|K8m h (λo a h₁=>K8m h₁ (λi S H=>?_) όW) όW;let(k,H):=H;erw[subscriptTail];show ϲZ;rw[getitemInPython_of_ne k.not_modules];show Ps<|ϐV l ?_;let fin:ϰF (ϗ4 o i) (λr b=>ϰF (letTemporaryGo value o r >>=λ_=>pure r) Q E b) E S:=Ô (d o i) (wpAny_operating<|K8m H (λr b c=>Ps<|wpAny_letTemporaryGo<|K9J c) όW)
 first
  |show K9J<|Ps fin
  |show Ps<|K9J<|Ps fin
  |show Ps fin
def DJ(I:Ģ)(g:ώe o):Ϥm (É a) "dict":=by
 rcases g with⟨Fv,k,e,_,_⟩|⟨Fv,k,b,e,_,_,_⟩
 .let(_,_,v,_,D):=ό1
  show D.Ā
 let(_,_,x,_,D):=ό2;show D.Ā
def X_(td ty:TE):TE:=λc H Q=>td c H λx h=>ty c h λy b=>∃a v,x=É a/\Cu b a y ĥ/\Q v b
def RW(td ty tv:TE):TS:=λD b H=>tv b H λv h=>td b h λx c=>ty b c λy e=>∃a d,x=É a/\YU e a y v d/\D.nx b d
section
variable{X:Cx}{pos pos' tpos:Pos}
def PK(U:ϷT 1)(O:ā o td)(hi:ā i ty)(S:Uz i):ā (ŕ o i pos) (X_ td ty):=ϙu (ϛx<|Wp ϙ9 λu l zq=>by let(x,c,e,r,q):=zq;show Wp (Ϥo l b c _ e q) λV w zq=>?_;let(y,d,f,Y,a,v,ex,g,k):=zq;subst ex;obtain rfl:u=ϹA:=r;show(DJ f g,Im U f g Y λW z j R=>⟨v,d,j,R,k⟩))
def Qx(U:ϷT 1)(O:ā o td)(hi:ā i ty)(V:ā value tv)(S:swapsWith value (Â<|ŕ o i pos') pos.line X.Ü=ϥs):
  ϲb (ϴZ [ŕ o i pos'] value pos) (RW td ty tv):=by
 ext p s b H D I h;show wpAny_Assign_Subscript (Wp (V p s b H _ I h) λr n zq=>?_) S;let(v,c,f,R,q):=zq;show Wp (O p n b c _ f q) λu w zq=>?_;let(x,d,j,m,Q):=zq;show Wp (Ϥo w b d _ j Q) λA B zq=>?_;let(y,z,k,Y,a,e,ex,g,l):=zq;subst ex;obtain rfl:u=ϹA:=m;show IL U k g Y R λs4 t=>⟨b,e,t,l⟩
end
def EH(h:Op)(B:sysModules<h.Â):eO P w H (h.û (Ċ "dict" Ϭo)) h.Â ϻ9:=
 ⟨ϰS,beq_eq_false_iff_ne.ó<|K8g<|K9O B,[],õ,Heap.DictOf.new h⟩
def MF:TE:=λ_ H Q=>∀p,ϵw->Q (É p) (ļ p ϻ9)
section
variable{pos:Pos}
def J3:ā Ϛa MF:=λp s b H Q I h=>wpAny_Dict_empty ⟨É s.Á,_,ϗP (o:=ϻ9) (t':=s.ã) (λ_ _ q=>ő q) ì<|EH s.Ì I.big,rfl,h _<|I.É ì⟩
end
def Gj:À (TE×TE)->St->Hp->Ú (À (V×V)->Ú Hp)|[],_,H,Q=>Q [] H|(tk,tv)::r,σ,H,Q=>tk σ H λx h=>tv σ h λy b=>Gj r σ b λp c=>Q ((x,y)::p) c
abbrev VV:À (V×V)->Ú (À (Db×Db)):=Paired λp q=>RelV p.1 q.1/\ύ8 q.2
def PPs(X:Cx)(pos:Pos)(keys:À (Ü On))(values:À On)(t:À (TE×TE)):Prop:=
 ∀(p:À ŝ)(s:Da)(a:St)(H:Hp)(Q:À (V×V)->Ú Hp),ù p a H s->Gj t a H Q->
  Ő (evalPairs<|pairTrees keys values X.Ü pos) (λv S=>∃P h,ù p a h S/\VV P v/\Q P h) X.xe s
def PB{pos:Pos}:ύz [] [] []:=λp s a H Q I h=>pairTrees_nil_walk ⟨[],H,I,õ,h⟩
def MD{pos:Pos}(K:ā k tk)(V:ā v tv)(hr:ύz ks vs trs):
  ύz (Ş::ks) Ϭ7 ((tk,tv)::trs):=by
 ext p s a H Q I h;show pairTrees_cons_walk (ϫh<|K p s a H _ I h);let(x,b,i,R,q):=zq;show Wp (V p S a b _ i q) λW w zq=>?_;let(y,c,f,Y,e):=zq;show Wp (hr p w a c _ f e) λws z zq=>?_;let(P,d,g,rel,l):=zq;show((x,y)::P,d,g,ą ⟨R,Y⟩ rel,l)
def vY(Fv more:À ϴT):À ϴT:=more.foldl (λa v=>putK a v.1 v.2) Fv
def KV.merge:∀{more:À ϴT}{rs:À (Key×Db)}{Fv:À ϴT}{s:À (Key×Db)},KV more rs->KV Fv s->KV (vY Fv more) (merged s rs):=by
 ext more rs Fv s r;erw[KV]at r
 induction r generalizing Fv s with
 |nil=>ext q;show q
 |@cons p q ps qs h t ih=>
  ext R;let e:KV (϶p p.1 p.2) (stored s q.1 q.2):=by let:=R.put p.1 h.2;rw[<-h.1];show this
  show ih e
theorem tL:∀(more Fv:À ϴT),Ã (vY Fv more)<=ώJ more.À
 |[],Fv=>ϳZ (Fv.À<=ώJ 0)
 |p::r,Fv=>by
  let h:=tL r<|϶p p.1 p.2;let H:=rJ Fv p.1 p.2;change Ã (vY (϶p p.1 p.2) r)<=_;rw[K9p];lia
theorem zg:∀{Fv:À ϴT}{ws:À (Db×Db)},VV (϶P Ϛb) ws->∃rs,Carries ύ9 ws rs/\KV Fv rs:=by
 induction _ with
 |nil=>ext _ r;rw[K9D]at r;cases r;show([],True.intro,õ)
 |cons p Fv ih=>
  ext _ r;rw[K9w]at r;cases r with|@cons a b as bs h t=>let(rs,c,q):=ih (ws:=bs) t;let(b1,B):=b;show((p.1,B)::rs,(C0 h.1,rfl,c),ą (Ϸy h.2) q)
def RC(t:À (TE×TE)):TE:=λa H Q=>∀p,ϵw->Gj t a (ļ p ϻ9) λs b=>b p=Â ϻ9/\∃Fv:À ϴT,s=϶P Ϛb/\Fv.À<=15/\Q (É p) (upd b p<|.dK<|vY [] Fv)
def Qt{pos:Pos}(h:ύz keys values trs)(l:ϴ keys.all (·.isSome))(L:keys.À=values.À)(g:keys≠[])(b:keys.À<=15):ā (.Dict keys values pos) (RC trs):=by
 ext p s t H Q I q;let n:=I.É<|N4 s.Á;let i:=ϗP (o:=ϻ9) (h':=ϳi ((Ċ "dict" Ϭo))) (t':=s.ã) (λ_ _ q=>ő q) ì<|EH s.Ì I.big;show ϛq<|Wp (h p _ t _ _ i<|q _ n) λws y zq=>?_;let(x,u,f,rel,e,Fv,E,U,m):=zq;subst E;let(rs,c,r):=zg (P:=X.ø) (w:=X.w) rel;let(z,k,v,R,D):=Rk f.hok e;cases R;show(rs,c,D,λh' d S=>⟨É s.Á,_,?_,rfl,m⟩);let Z:ŀ (Ã (vY [] Fv)):=by let j:=tL Fv [];rw[K8U]at j;rw[sizeLine_eq];lia
 let he:∃q,ϺS=Â q:=let⟨q,_,_,hq,_⟩:=d;⟨q,hq⟩;show BL f (ϻq True.intro) S he<|Kr Z k (r.merge õ) d
structure M2(X:Cx)(o:On)(m:Str)(apos:Pos)(e f:On)(cpos:Pos):Prop where
 base:attributeBase o m X.Ü (eval o X.Ü)=eval o X.Ü
 few:((ϺZ<|æ [e,f]).all Ϲz&&ώ3
  &&Õ (Ã ([e,f]:À On)+Ã ([]:À Keyword)+(Ë ([]:À Keyword).isEmpty 0 1)<30))=true
 line:Ϯb
 trees:ϺZ (æ [e,f])=ϻt ϯL (eval f X.Ü)
def IsD(H:Hp)(a:Ix):Prop:=(∃Fv,Ϸr ϶m)\/∃Fv,Ϸr ϥN
def VD(I:Ģ)(d:IsD H a):
  Ϥm (É a) "dict"/\(∀b,ϹA=É b->∃O,ϰc=some O/\O.dict=none)/\ϺW:=by
 rcases d with⟨Fv,e⟩|⟨Fv,e⟩
 .let(_,f,v,_,D):=ό1
  show(D.Ā,λb q=>?_,f);cases q;let(O,_,_,h,c,_):=D;show(O,h,c.2.1)
 let(_,f,x,_,D):=ό2;show(D.Ā,λb q=>?_,f);cases q;let(O,_,_,h,c,_):=D;show(O,h,c.2.1)
section
variable{X:Cx}{o:Ü V}{A:Go}
def US(U:ϫu 1)(I:Ģ)(g:ώe o)(f:϶o)(R:RelV d r)(h:∀W S,ù H6 σ H S->RelV (o.ď d) W->Q W S):
  ϷJ ϳQ A (call (Ρ "dict.get") [É a,u,r]) Q E s:=by
 rcases g with⟨Fv,k,e,Y,l⟩|⟨Fv,k,b,e,Y,G,l⟩
 .subst Y
  let(z,c,v,rel,D):=ό1;show ϕf (meets_dict_get_default Ϛ0 a (C0 f) c r) ⟨_,D.mapOf,h _ _ ϨV ?_⟩;rw[l];show Ó (rel.val k) R
 subst Y;cases(show ϒy from f);let(z,c,x,rel,D):=ό2;show ϕf (meetsH_dict_get_default (tupleKind Ϛ0) a b c r) ⟨ϐf,k,x,ϒV,D,h _ _ ϨV ?_⟩;rw[l];show Ó (rel.val k) R
end
def Ko(td ty tx:TE):TE:=λb H Q=>td b H λx h=>∃a,x=É a/\IsD h a/\ty b h λy d=>tx b d λz c=>∃o,Cu c a y o/\Q (o.ď z) c
section
variable{X:Cx}
def J1(U:ϷT 1)(O:ā o td)(he:ā e ty)(F:ā f tx)(m:M2 X o "get" apos e f cpos):ā (ϱb (ϴL o "get" apos) [e,f] cpos) (Ko td ty tx):=by
 ext p s b H Q I h;show Ϛ5<|ϫh ϙ9;let(x,c,i,w,a,ex,d,q):=zq;subst ex;obtain rfl:u=ϹA:=w;let(t1,t2,_):=VD i d;show(t1,t2,?_);rw[m.trees];show ϕj<|Calls.evalArgs_plain<|ϯO<|Wp (he p S b c _ i q) λB A zq=>by let(y,j,l,Y,r):=zq;show ϯO<|Wp (F p A b j _ l r) λV D zq=>by let(z,k,n,Z,C,g,v):=zq;show ϑF ?_;show US U n g Y Z λW s4 t R=>⟨_,k,t,R,v⟩
end
end L2
namespace L3
open PySem L2 PySem.Spec PyProof.Rows
abbrev St:=L2.St
def RdK(K:At)(H:Hp)(a:Ix)(X:À V):Prop:=
 Ϸr (ô X)\/∃(i:Η Db)(n:Nat),όX=Â ((Ċ "list" (δ i n)))/\ŀ i.Ã/\ţ X i.ð
def RdK.of{K:At}{H:Hp}{a:Ix}{X:À V}(h:H a=Â (ô X)):ϸt a X:=Ð<|Ð h
def RdK.sq{K:At}{H:Hp}{a:Ix}{X:À V}(h:ϸt a X):μ a X:=by
 rcases h with h|⟨i,n,k,Z,r⟩
 .show Ð h
 show Ø ⟨_,i,n,k,rfl,rfl,rfl,Z,r⟩
def RdK.same{K:At}{H b:Hp}(e:aK H b){a:Ix}{X:À V}(h:ϸt a X):RdK K b a X:=by
 rcases h with (h|⟨o,h⟩)|h
 .show Ð<|Ð Ϩ1
 .show Ð<|Ø ⟨o,Ϩ1⟩
 show Ø h
def RdK.obj(I:Ģ)(h:RdK X.K H a xs):
  ŀ xs.À/\∃(i:À Db)(n:Nat),Ϥe i/\Ϛz/\ϯK=Â ((Ċ "list" Ϻ5)):=by
 rcases h with h|⟨i,n,k,Z,r⟩
 .let(z,i,n,r,e):=ϔd
  show(z,i,n,r,r.length,e)
 let e:=r.À;let e':=e;simp only[K8t]at e';show(Á,i.toList,n,r,e,ť (I.kIn a _ k))
end L3
namespace L3
open PySem L2
inductive OD where
 |sh (d:Gc)
 |ol (xs:À OD)
 |ot (xs:À OD)
 |od (Fv:À Ο)
 |pl (a:Ix) (xs:À OD)
def kD:Key->Gc|.inl i=>Ä i|.inr x=>Ė x
def dD(Fv:À Ο):Gc:=.dict<|϶P ϵi
mutual
def OD.er:OD->Gc|.sh d=>d|.ol xs=>Ï ϻI|.ot xs=>Ą ϻI|.od Fv=>ϱd|.pl _ xs=>Ï ϻI
def OD.ers:À OD->À Gc|[]=>[]|x::xs=>x.er::ϻI
end
def OD.er.a1{d}:OD.er Ř=d:=rfl
def OD.er.a2{xs}:OD.er ϱp=(Ï ϻI):=rfl
def OD.er'''{xs}:OD.er (.ot xs)=(Ą ϻI):=rfl
def OD.er''{Fv}:OD.er Ϸq=ϱd:=rfl
def OD.er'{w0 xs}:OD.er (.pl w0 xs)=(Ï ϻI):=rfl
def OD.ers'':OD.ers []=[]:=rfl
def OD.ers'{x xs}:OD.ers ϩh=(x.er::ϻI):=rfl
def xG:∀X:À OD,OD.ers X=ϳf:=by
 induction _ with|nil=>show rfl|cons x X N3=>rw[OD.ers',K9w,N3]
def bc(d:Gc):(ϥX).er=d:=ϰT OD.er.a1
def md(X:À OD):ϹS X=Ï ϳf:=Ĥ OD.er.a2 xG
def M_(X:À OD):(OD.ot X).er=Ą ϳf:=Ĥ OD.er''' xG
def Dj(a:Ix)(X:À OD):(ϒH X).er=Ï ϳf:=Ĥ OD.er' xG
def RI(Fv:À Ο):(OD.od Fv).er=ϱd:=ϰT OD.er''
def aI(s:À Gc):ß s.Ç OD.sh OD.er=s:=by
 rw[S1];let:ϚE:=funext λd=>bc d;rw[this,Zdu]
inductive R(α:Type) where
 |ok (a:α)
 |ex (c:Str)
 |bad
def R.bind{α β:Type}(r:ϲ4)(f:ώf):R β:=match r with
 |.ok a=>f a
 |.ex c=>.ex c
 |.bad=>Î
def cB(a:α)(f:ώf):ó (R.ok a) f=f a:=rfl
abbrev Env:=À<|Ü OD
abbrev Fe:=Env->Ĭ
abbrev Fa:=Ϫo (À OD)
abbrev Ft:=Env->ϵN
abbrev Fn:=À Gc->Ĭ
inductive Out where
 |nx (ρ:Env)
 |rt (x:OD)
 |bk (ρ:Env)
 |ct (ρ:Env)
abbrev Fs:=Env->ϲs
abbrev Fi:=Ϫo (À Gc)
abbrev Fg:=OD->Ϫo Env
def Tk:Nat:=10000000
def flat:ϱP Gc|.none=>true|.bool _=>true|.int _=>true|.str _=>true|_=>false
def aa(i:Nat):Fe:=λa=>match ϴp with
 |some (some<|.sh d)=>.ok Ř
 |_=>Î
def eC(d:Gc):Fe:=λ_=>.ok Ř
def F4(g:ϰd)(a b:Fe):Fe:=λc=>ó (a c) λx=>ó (b c) λy=>Ϩi
def eUn(g:Gc->Ĭ)(a:Fe):Fe:=λb=>ι λx=>g x.er
def truth:Gc->ϵN|.bool b=>.ok b|_=>Î
def aD(a:Fe):Ft:=λb=>ι λx=>ϵn
def p_(a b:Ft):Ft:=λd=>ó (a d) λc=>Ë ϱs (b d) ϶8
def pZ(a b:Ft):Ft:=λd=>ó (a d) λc=>Ë ϱs ϵs (b d)
def nI(a:Ft):Ft:=λb=>ι λc=>.ok<|!c
def Ao(a b:Fe):Fe:=λd=>ó (a d) λx=>ó ϵn λc=>Ë ϱs (b d) (þ (ã false))
def eOr(a b:Fe):Fe:=λd=>ó (a d) λx=>ó ϵn λc=>Ë ϱs (þ (ã true)) (b d)
def Ap(a:Fe):Fe:=λb=>ι λx=>ó ϵn λc=>þ<|ã<|!c
def eIf(t:Ft)(a b:Fe):Fe:=λd=>ó (t d) λc=>Ë ϱs (a d) (b d)
def ai:Fa:=λ_=>Ħ []
def ae(a:Fe)(r:Fa):Fa:=λb=>ι λx=>ó (r b) λX=>.ok ϦC
def shs:À OD->Ü (À Gc)
 |[]=>Â []
 |.sh d::r=>match shs r with
  |some ds=>Â ϥ3
  |none=>none
 |_::_=>none
def shs'{d r}:shs (Ř::r)=match shs r with
  |some ds=>Â ϥ3
  |none=>none:=rfl
def mkT(X:À OD):OD:=ϑc (shs X) (.sh<|Ą ds) (.ot X)
def d_(a:Fa):Fe:=λb=>ι λX=>Ë ϯ8 (Ħ (mkT X)) Î
def Rs(a:Fe):Fe:=λb=>ι λx=>þ x.er
def bO(a:Fa):Fe:=λb=>ι λX=>Ë ϯ8 (ģ X) Î
def aj(f:Fn)(a:Fa):Fe:=λb=>ι λX=>f ϳf
def eB(g:À Gc->Ĭ)(a:Fa):Fe:=λb=>ι λX=>g ϳf
def erase(a:Env):Env:=a.Ç λo=>o.Ç λx=>Đ x.er
def pX(a:Fe):Fe:=λb=>ó (a ώg) λx=>Ë (flat x.er=true) (þ x.er) Î
def flc(d:Gc)(t:Ĭ):Ĭ:=if flat d=true then t else Î
def flI{i t}:flc (Ä i) t=t:=rfl
def flS{x t}:flc (Ė x) t=t:=rfl
def flB{b t}:flc (ã b) t=t:=rfl
def flN{t}:flc ò t=t:=rfl
def flL{x t}:flc (Ï x) t=Î:=rfl
def flT{x t}:flc (Ą x) t=Î:=rfl
def mE(a:Fe):Fe:=λb=>ó (a ώg) λx=>match x with
 |.ol xs=>Ë (ϴ xs.all Ϻ9) (ģ ϮG) Î
 |_=>Î
def Gk(a:Ft):Ft:=λb=>a ώg
abbrev Fo:=Ϫo (Ü Int)
def iN:Fo:=λ_=>.ok none
def d8(a:Fe):Fo:=λb=>ι λx=>match x.er with
 |.int i=>.ok ϸy
 |_=>Î
def eSl(g:Gc->ϱu (Ü Int) Ĭ)(a:Fe)(l h:Fo):Fe:=λb=>ι λx=>ó (l b) λi=>ó (h b) λj=>ϔo
def bY(a:Fe):Fi:=λb=>ι λx=>match x.er with
 |.list ds=>ϩF
 |_=>Î
def iTp(a:Fe):Fi:=λb=>ι λx=>match x.er with
 |.tuple ds=>ϩF
 |_=>Î
def ky(lo:Int)(n:Nat):À Gc:=Ê ϲl (ϳj (lo+k))
def aE(i:Int):Bool:=@decide (-ϳ<=i/\i<ϳ) ϷP
def iR1(a:Fe):Fi:=λb=>ι λx=>match x.er with
 |.int j=>Ë (ϵQ aE) ϧn Î
 |_=>Î
def iR2(a b:Fe):Fi:=λc=>ó (a c) λx=>ó (b c) λy=>match x.er,y.er with
 |.int i,.int j=>Ë (ϻf aE) (Ħ (ky i (ĩ (j-i)))) Î
 |_,_=>Î
def fC(d:À Gc):À Gc:=d.zipIdx.Ç λp=>ϱ0 [Ä (ϱB p.2),p.1]
def gq(d e:À Gc):À Gc:=Ê (d.Ċ e) λp=>ϱ0 [p.1,p.2]
def iEn(a:Fe):Fi:=λb=>ι λx=>match x.er with
 |.list ds=>.ok<|fC ds
 |_=>Î
def iZp(a b:Fe):Fi:=λc=>ó (a c) λx=>ó (b c) λy=>match x.er,y.er with
 |.list ds,.list es=>.ok ύU
 |_,_=>Î
def K2(i:Nat):Fg:=λx a=>.ok<|Ϲm Ď
abbrev Fgs:=À OD->Ϫo Env
def bB:Fgs:=λX a=>match X with
 |[]=>.ok a
 |_=>Î
def ar(g:Fg)(r:Fgs):Fgs:=λX b=>match X with
 |x::X=>ó (g x b) λa=>r X a
 |[]=>Î
def gTp(n:Nat)(r:Fgs):Fg:=λx a=>match x with
 |.ot xs=>Ë (xs.À=n) (r xs a) Î
 |.sh (.tuple ds)=>Ë (ds.À=n) (r ϶a a) Î
 |_=>Î
def Cd:Ü (Ü OD)->Ü OD|some (some<|.sh d)=>Â Ř|_=>none
def sl3(k:Nat)(outs:Ò)(a:Env):Env:=ϳY none++ϵC (λi=>Cd ϴp)
def Jc{α:Type}:ϲ4->ϲ4|.ok a=>.ok a|_=>Î
def aJ(g:Fg)(t:Ft)(e:Fe)(a:Env):À Gc->À OD->R (À OD)|[],acc=>.ok acc|d::ds,acc=>ó (Jc<|g Ř a) λc=>ó (Jc<|t c) λb=>Ë (b=true) (ó (Jc<|e c) λy=>Ë (acc.À<Tk) (ϥu ds (acc++[y])) Î) (ϥu ds acc)
def aJ''{g t e a acc}:ϥu [] acc=(.ok acc):=rfl
def aJ'{g t e a d ds acc}:ϥu ϥ3 acc=(ó (Jc<|g Ř a) λc=>ó (Jc<|t c) λb=>Ë (b=true) (ó (Jc<|e c) λy=>Ë (acc.À<Tk) (ϥu ds (acc++[y])) Î) (ϥu ds acc)):=rfl
def aP(it:Fi)(g:Fg)(t:Ft)(e:Fe)(k:Nat)(outs:Ò):Fe:=λa=>ó (it a) λd=>ó (ϭv e (ϒW a) d []) λX=>ģ X
def aT:Ft:=λ_=>ϵs
def sNx:Fs:=λa=>ϹH
def ao(a b:Fs):Fs:=λc=>ó (a c) λo=>match o with
 |.nx ρ'=>b ρ'
 |o=>.ok o
def K_(a:Fe)(g:Fg):Fs:=λc=>ó (a c) λx=>ó (g x c) λb=>.ok<|.nx b
def ax(i:Nat)(a:Fe):Fs:=λb=>ι λx=>ų<|ϻh Ď
def AF(a:Fe):Fs:=λb=>ι λ_=>.ok<|.nx b
def bF(a:Fe):Fs:=λb=>ι λx=>ϴK
def dB(i:Nat):Fs:=λa=>match ϴp with
 |some (some x)=>ϴK
 |_=>Î
def sIf(t:Ft)(a b:Fs):Fs:=λd=>ó (t d) λc=>Ë ϱs (a d) (b d)
def Ju:Fs:=Ţ Î
def Ox(i:Nat)(a:Env):Env:=match ϴp with
 |some (some x)=>Ϲm<|Â Ϭb
 |_=>a
def pq(i:Nat)(a:Fs):Fs:=λb=>a<|Ox i b
def EU(i:Nat)(g:ϰd)(a:Fe):Fs:=λb=>match ϵU with
 |some (some<|.sh d)=>ι λy=>ó (g d y.er) λz=>ų<|ϻh<|Â z
 |_=>Î
def jD(i:Nat)(a:Fe):Fs:=λb=>match ϵU with
 |some (some<|.ol xs)=>ι λy=>Ë ϒX (ϵ b.ß ϬH) Î
 |_=>Î
def IH(i:Nat)(g:Fg):Fs:=λb=>match ϵU with
 |some (some<|.ol xs)=>match xs.ī with
  |some (.sh d)=>(g Ř<|ϻh<|Â<|.ol xs.Ù).bind λa=>ϹH
  |_=>Î
 |_=>Î
def Es(i:Nat)(a:Fe):Fs:=λb=>match ϵU with
 |some (some<|.ol xs)=>ι λy=>match y with
  |.ol ys=>Ë ϪP (ϵ b.ß ϭe) Î
  |_=>Î
 |_=>Î
def xj(i:Nat)(k:Fe)(a:Fe):Fs:=λb=>match ϵU with
 |some (some<|.ol xs)=>ι λy=>ó (k b) λz=>match z.er with
  |.int q=>match ϴH q with
   |some j=>ϵ b.ß<|ϲG y
   |none=>Î
  |_=>Î
 |_=>Î
def comps:OD->Ü (Bool×À OD)|.ol xs=>Â (true,xs)|.ot xs=>Â (false,xs)|_=>none
def wrap(l:Bool)(X:À OD):OD:=Ë (l=true) Ϧh (.ot X)
def ui(i:Nat)(k:Fe)(a:Fe):Fs:=λb=>match ϵU with
 |some (some<|.ol xs)=>ó (k b) λz=>match z.er with
  |.int q=>match ϴH q with
   |some j=>match Ϥu with
    |some (.ol ys)=>ι λy=>if ys.À<Tk then ϵ b.ß (ϲG<|.ol<|ys++[y])else Î
    |_=>Î
   |none=>Î
  |_=>Î
 |_=>Î
def aY(g:Fg)(b:Fs):À Gc->Env->ϲs
 |[],ρ=>ų ρ
 |d::ds,ρ=>ó (g Ř ρ) λa=>ó (b a) λo=>match o with
  |.nx ρ2=>ϴf ds ρ2
  |.ct ρ2=>ϴf ds ρ2
  |.bk ρ2=>ų ρ2
  |.rt x=>ϴK
def aY'{g b d ds ρ}:ϴf ϥ3 ρ=ó (g Ř ρ) λa=>ó (b a) λo=>match o with
  |.nx ρ2=>ϴf ds ρ2
  |.ct ρ2=>ϴf ds ρ2
  |.bk ρ2=>ų ρ2
  |.rt x=>ϴK:=rfl
def bZ(it:Fi)(g:Fg)(b:Fs):Fs:=λa=>ó (it a) λd=>ϴf d a
def ft(t:Ft)(b:Fs):Nat->Env->ϲs
 |0,_=>Î
 |n+1,ρ=>ó (t ρ) λc=>if ϱs then ó ϵS λo=>match o with
  |.nx ρ2=>ϲU n ρ2
  |.ct ρ2=>ϲU n ρ2
  |.bk ρ2=>ų ρ2
  |.rt x=>ϴK else ų ρ
def ft'{t b n ρ}:ϲU (n+1) ρ=ó (t ρ) λc=>if ϱs then ó ϵS λo=>match o with
  |.nx ρ2=>ϲU n ρ2
  |.ct ρ2=>ϲU n ρ2
  |.bk ρ2=>ų ρ2
  |.rt x=>ϴK else ų ρ:=rfl
open Classical in
def dX(t:Ft)(b:Fs):Fs:=λa=>ϩl (∃n,ϲU n a≠Î) (ϲU h.ĥ a) Î
def zS(n:Nat)(s:À Gc):Env:=(s.Ç λd=>Â ϥX)++ϳ3 (n-s.À) none
def aZ(np n:Nat)(b:Fs):Fn:=λd=>if d.À=np then ó (b<|zS n d) λo=>match o with
 |.rt x=>ϴ2
 |.nx _=>þ ò
 |_=>Î else Î
mutual
inductive Rep(K:At)(H:Hp):V->Ú Gc
 |non:Ŀ H Β ò
 |bl (b:Bool):Ŀ H ϵO (ã b)
 |int (i:Int):Ŀ H (Ä i) (Ä i)
 |str (x:Str):Ŀ H (Ė x) (Ė x)
 |lst {a:Ix} {xs:À V} {ds:À Gc}:ϸt a xs->ϵM xs ds->Ŀ H (É a) (Ï ds)
 |tup {a:Ix} {xs:À V} {ds:À Gc}:H a=Â (Ī xs)->ϵM xs ds->Ŀ H (É a) (Ą ds)
 |dct {a:Ix} {Fv:À ϴT} {ds:À Ο}:H a=Â ϶m->ϹP Fv.Ç ϔ ds.Ç->ϵM (϶P Ž) (ds.Ç Ž)->Ŀ H (É a) (dD ds)
inductive E5(K:At)(H:Hp):À V->Ú (À Gc)
 |nil:ϵM [] []
 |cons {v:V} {vs:À V} {d:Gc} {ds:À Gc}:Ŀ H v d->ϵM vs ds->ϵM Ϭ7 ϥ3
end
def E5.same(e:ϩu)(h:ϵM vs ds):E5 K H' vs ds:=ϧe (λv d _=>Ŀ H' v d) (λv d _=>E5 K H' v d) Β .bl Ä Ė (λh _=>ô<|h.Î e) (λh _=>Ī Ϩ1) (λh k _=>.dct Ϩ1 k) õ (λ_ _=>ą)
def Rep.same(e:ϩu)(h:Ŀ H v d):Ŀ H' v d:=by cases E5.Î e (ą h õ);assumption
mutual
inductive Own(K:At)(F H:Hp):V->OD->Ú (À Ix)
 |sh {v:V} {d:Gc}:Ŀ F v d->ϴq F H v Ř []
 |ol {a:Ix} {vs:À V} {xs:À OD} {f:À Ix}:H a=Â (ô vs)->ψ vs xs f->ϴq F H (É a) ϱp (a::f)
 |ot {a:Ix} {vs:À V} {xs:À OD} {f:À Ix}:H a=Â (Ī vs)->ψ vs xs f->ϴq F H (É a) (.ot xs) (a::f)
 |od {a:Ix} {Fv:À ϴT} {ds:À Ο}:H a=Â ϶m->ϭQ ds.Ç (ϴq F H (É a) (.od ds) [a])
 |pl {a:Ix} {vs:À V} {xs:À OD} {f:À Ix}:H a=Â (ô vs)->ψ vs xs f->ϴq F H (É a) (.pl a xs) (a::f)
inductive N1(K:At)(F H:Hp):À V->À OD->Ú (À Ix)
 |nil:ψ [] [] []
 |cons {v:V} {x:OD} {f:À Ix} {vs:À V} {xs:À OD} {g:À Ix}:ϻa->ψ vs xs g->ψ Ϭ7 ϩh Ϧm
end
def N1.mono(e:ϲu F')(k:π (∀o,H a=Ö->H' a=Ö))(h:ψ v x f):ϷM F' H' v x f:=ϧe (λv x f _=>(π<|∀o,H a=Ö->H' a=Ö)->ϴq F' H' v x f) (λv x f _=>(π<|∀o,H a=Ö->H' a=Ö)->ϷM F' H' v x f) (λr _=>.sh<|r.Î e) (Ϫf<|.ol ϻm<|i (ϲR (ě m))) (Ϫf<|.ot ϻm<|i (ϲR (ě m))) (λh q r k=>.od ϻm q<|E5.Î e r) (Ϫf<|.pl ϻm<|i (ϲR (ě m))) (Ţ õ) (λ_ _ i j k=>ą (i (ϲR (ϰA m)))<|j (ϲR (Τ m))) k
def Own.mono(e:ϲu F')(k:π (∀o,H a=Ö->H' a=Ö))(h:ϻa):ϴq F' H' v x f:=by
 let t:=ϛy<|ą h õ;rw[List.append_nil]at t;cases t with|cons a b=>cases b;simpa using a
def N1.dom(h:ψ v x f):π (∃o,H a=Ö):=ϧe (λ_ _ f _=>π (∃o,H a=Ö)) (λ_ _ f _=>π (∃o,H a=Ö)) (λ_ _ m=>ϫ4) (λh _ i a m=>ϭM<|i a) (λh _ i a m=>ϭM<|i a) (λh _ _ a m=>ϭM Û) (λh _ i a m=>ϭM<|i a) ϰq (λ_ _ i j a m=>ϵg (i a)<|j a)
def Own.dom(h:ϻa)(a)(m:a∈f):∃o,H a=Ö:=N1.ö (ą h õ) a ϲE
def N1.frz(e:ϲu F')(k:π (∀o,H a=Ö->F' a=Ö))(h:ψ v x f):ϙH:=ϧe (λv x f _=>(π<|∀o,H a=Ö->F' a=Ö)->Ŀ F' v x.er) (λv x f _=>(π<|∀o,H a=Ö->F' a=Ö)->ϙH) (λr _=>by rw[bc];show r.Î e) (Ϫf<|Ô OD.er.a2 (ô (RdK.of ϻm)<|i (ϲR (ě m)))) (Ϫf<|Ô OD.er''' (Ī ϻm<|i (ϲR (ě m)))) (λh q r k=>Ô OD.er'' (.dct ϻm q<|r.Î e)) (Ϫf<|Ô OD.er' (ô (RdK.of ϻm)<|i (ϲR (ě m)))) (λ_=>Ô OD.ers'' õ) (λ_ _ i j k=>Ô OD.ers' (ą (i (ϲR (ϰA m)))<|j (ϲR (Τ m)))) k
def Own.frz(e:ϲu F')(k:π (∀o,H a=Ö->F' a=Ö))(h:ϻa):Ŀ F' v x.er:=by
 let t:=ϛz<|ą h õ;rw[OD.ers']at t;cases t;assumption
def N1.len(o:ψ v x f):v.À=x.À:=by
 induction x generalizing v f with
 |nil=>cases o;rfl
 |cons a r ih=>
  cases o with|cons h t=>show Ϩq<|ih t
def N1.app(o:ψ v x f)(q:ψ w y g):ψ (v++w) (x++y) Ϧm:=by
 induction x generalizing v f with
 |nil=>cases o;show q
 |cons a r ih=>
  cases o with|cons h t=>rw[K92,K92,K9M];show ą h<|ih t
def N1.shs:∀{v:À V}{d:À Gc},ž v d->ψ v ϫp []:=by
 ext v d h;induction v generalizing d with|nil=>cases h;show õ|cons a v ih=>cases h with|cons h r=>show ą (f:=[]) (.sh h)<|ih r
def E5.len:∀{v:À V}{d:À Gc},ž v d->v.À=d.À|_,_,.nil=>rfl|_,_,.cons _ r=>by rw[K9p,K9p,E5.í r]
def E5.get:∀{v:À V}{s:À Gc}{i:Nat}{d:Gc},ž v s->ϵT=ϰN->∃x,v[i]?=Ď/\Ŀ F x d:=by
 ext v s i d h;induction v generalizing s i with
 |nil=>cases h;ext e;simp at e
 |cons a v ih=>
  cases h with
  |cons h r=>
   ext e;cases i with
   |zero=>simp at e;subst e;show(_,rfl,h)
   |succ i=>let(x,H,a):=ϻS r ϵh;show(x,Ϻ3,a)
def E5.app:∀{v w:À V}{d e:À Gc},ž v d->ž w e->ž (v++w) (d++e):=by
 ext v w d e h q;induction v generalizing d with|nil=>cases h;show q|cons a v ih=>cases h with|cons h r=>show ą h<|ih r
def E5.take:∀{v:À V}{d:À Gc}(n:Nat),ž v d->ž (v.Ö n) (d.Ö n):=by
 ext v d n h;induction n generalizing v d with|zero=>rw[K7t,K7t];show õ|succ n ih=>cases h with|nil=>show õ|cons h r=>show ą h<|ih r
def E5.drop:∀{v:À V}{d:À Gc}(n:Nat),ž v d->ž (v.ä n) (d.ä n)|_,_,0,r=>r|_,_,_+1,.nil=>õ|_,_,n+1,.cons h r=>E5.ä n r
def E5.toInts:∀{v:À V}{ns:À Int},ž v ō->v=ϱE:=by
 ext v ns h;induction ns generalizing v with|nil=>cases h;rfl|cons n ns ih=>cases h with|cons h r=>cases h;rw[ih r];rfl
def E5.ofInts:∀(ns:À Int),ž ϱE ō|[]=>õ|n::ns=>ą (Ä n)<|E5.ofInts ns
structure Ext(F H F' H':Hp):Prop where
 ff:ϲu F'
 hh:ϩu
 fh:aK F' H'
 nw:∀a,Ϩx->Ϸi->F' a=none
def bg(h:o=Ď):o≠none:=by rw[h];show Option.some_ne_none x
def _root_.Internal.L2.aK.dom(e:ϩu)(h:Ϩx):H' a≠none:=by
 cases q:H a with|none=>show ĭ q h|some o=>show bg<|e a o q
def Ext.refl(h:ϰP):Ϛ F H:=⟨ϰ2,ϰ2,h,Ϸ6⟩
def Ext.trans(a:Ϛ F1 H1)(b:Ext F1 H1 F2 H2):Ϛ F2 H2:=⟨a.ĭ b.ff,a.hh.Å b.hh,b.fh,λx h n=>Ϝo<|a.nw x h n⟩
def Ext.alloc(h:ϰP)(P:ϵw):Ϛ F (ļ p o):=
 ⟨ϰ2,ϑM P,(aK.upd h<|h.â P),Ϸ6⟩
def Ext.allocF(h:ϰP)(P:ϵw):Ϛ (upd F p o) (ļ p o):=by
 show((aK.refl F).upd<|h.â P,ϑM P,λb u q=>?_,λa A n=>?_)
 .by_cases e:b=p
  .subst e
   rw[aU]at q⊢;show q
  rw[aC e]at q⊢;show h b u q
 let e:a≠p:=ϧ1 (A P)
 rw[aC e];show n
structure Res(K:At)(F H:Hp)(v:V)(x:OD)(f:À Ix):Prop where
 own:ϻa
 nd:f.Í
 fr:π Ϸi
structure ResL(K:At)(F H:Hp)(v:À V)(x:À OD)(f:À Ix):Prop where
 own:ψ v x f
 nd:f.Í
 fr:π Ϸi
open Classical in
def pW(F H:Hp)(f:À Ix):Hp:=λa=>Ë (a∈f) (H a) (F a)
def pI(h:a∈f):ϸe a=H a:=ű pW ϰo
def gO(h:϶L):ϸe a=F a:=ű pW ϱA
section
variable{x:OD}{xs:À OD}
def gh(n:π Ϸi):ϲu ϸe:=λa o q=>by
 rw[gO]
 .show q
 ext m;rw[n a m]at q;cases q
def x8(h:ϰP):aK ϸe H:=λa o q=>by
 cases m:a∈f
 .rw[pI m]at q
  show q
 rw[gO m]at q;show h a o q
def Res.ext(r:ϫK x f)(e:Ϛ F' H'):Res K F' H' v x f:=
 ⟨ύY e.ff ϐt,r.nd,ϰW (ώ0 r.Þ<|ϸz m)⟩
def ResL.ext(r:ϻ7 K vs xs f)(e:Ϛ F' H'):ResL K F' H' vs xs f:=
 ⟨ύY e.ff ϐt,r.nd,ϰW (ώ0 r.Þ<|ϸz m)⟩
def Ig(e:Ϛ F1 H1)(n:π (F1 a=none))(w:π ϶n):Ϛ ϓC H1:=
 ⟨e.ĭ<|gh n,e.hh,x8 e.fh,λa h z=>by
  let m:϶L:=λm=>h ϤF
  rw[gO m];show e.nw a h z⟩
def Res.frz(e:Ϛ F1 H1)(r:Res K F1 H1 v x f)(w:π ϶n):∃G,Ϛ G H1/\Ŀ G v x.er:=
 ⟨ϓC,Ig e r.fr w,Ϛc ((ϵH (Ô (pI m) q)))⟩
def ResL.frz(e:Ϛ F1 H1)(r:ResL K F1 H1 vs xs f)(w:π ϶n):∃G,Ϛ G H1/\E5 K G vs ϯR:=
 ⟨ϓC,Ig e r.fr w,Ϙ xG (Ϛc ((ϵH (Ô (pI m) q))))⟩
def Res.sh{d:Gc}(r:Ŀ F v d):ϫK Ř []:=⟨.sh r,K8w,ϰq⟩
def ResL.nil:ϻ7 K [] [] []:=⟨õ,K8w,ϰq⟩
def ResL.cons{g:À Ix}(r:ϫK x g)(q:ϻ7 K vs xs f)(d:∀a∈g,϶L):ϻ7 K Ϭ7 ϩh (g++f):=
 ⟨ą r.own q.own,Ϧi ⟨r.nd,q.nd,λa m b n e=>d a m (e▸n)⟩,ϰW (ϵg ϸz<|q.fr a)⟩
end
inductive Z1(K:At)(F H:Hp):St->Env->Ú (À Ix)
 |nil:ϰy [] [] []
 |no {v:Ü V} {σ:St} {ρ:Env} {g:À Ix}:ϰy σ ρ g->ϰy (v::σ) (none::ρ) g
 |yes {v:V} {x:OD} {f:À Ix} {σ:St} {ρ:Env} {g:À Ix}:ϻa->ϰy σ ρ g->ϰy (ĥ::σ) (Ď::ρ) Ϧm
def Z1.mono(e:ϲu F')(k:∀a∈g,∀o,H a=Ö->H' a=Ö)(S:ϰy σ ρ g):Z1 K F' H' σ ρ g:=by
 induction S with|nil=>show õ|no r ih=>show .no<|ih k|yes h r ih=>show .yes (h.á e (ϲR (ϰA m)))<|ih (ϲR (Τ m))
def Z1.dom(S:ϰy σ ρ g):∀a∈g,∃o,H a=Ö:=by
 induction S with
 |nil=>exact ϰW ϫ4
 |no r ih=>show ih
 |yes h r ih=>exact ϰW (ϵg (h.ö a)<|ih a)
theorem Z1.at(S:ϰy σ ρ g):∀{i:Nat}{x:OD},á ρ=Â Ď->
  ∃v f g1 g2,á σ=Â ĥ/\ϻa/\g=϶d/\∀(b c:Hp),ϲu b->(ύu<|∀o,H a=Ö->c a=Ö)->∀V x' d,ϴq b c V x' d->Z1 K b c (Ϥ4<|Â V) (ϰs<|Â x') ϯS:=by
 induction S with
 |nil=>ext i x e;simp at e
 |no r ih=>
  ext i x e;cases i with
  |zero=>simp at e
  |succ i=>
   let(v,f,g1,g2,j,l,n,p):=ϻS ϵh;show(v,f,g1,g2,by simpa using j,l,n,ϮW (.no<|p b c s k V x' d o))
 |@yes v0 x0 f0 σ0 ρ0 g0 h r ih=>
  ext i x e;cases i with
  |zero=>
   simp at e;subst e;show(_,f0,[],g0,rfl,h,rfl,ώ7)
  |succ i=>
   let(v,f,g1,g2,j,l,n,p):=ϻS ϵh;show(v,f,f0++g1,g2,by simpa using j,l,by rw[n,K9M],ϮW ?_);rw[K9M];show ϕa<|p b c s (ϲR ϤS) V x' d o
theorem Z1.put(S:ϰy σ ρ g):∀{i:Nat},i<ρ.À->
  ∃f g1 g2,g=϶d/\∀(b c:Hp),ϲu b->(ύu<|∀o,H a=Ö->c a=Ö)->∀V x' d,ϴq b c V x' d->Z1 K b c (Ϥ4<|Â V) (ϰs<|Â x') ϯS:=by
 induction S with
 |nil=>ext i e;simp at e
 |@no v0 σ0 ρ0 g0 r ih=>
  ext i e;cases i with
  |zero=>show([],[],g0,rfl,ώ7)
  |succ i=>
   let(f,g1,g2,j,l):=ϻS ϵh;show(f,g1,g2,j,ϮW (.no<|l b c s k V x' d o))
 |@yes v0 x0 f0 σ0 ρ0 g0 h r ih=>
  ext i e;cases i with
  |zero=>show(f0,[],g0,rfl,ώ7)
  |succ i=>
   let(f,g1,g2,j,l):=ϻS ϵh;show(f,f0++g1,g2,by rw[j,K9M],ϮW ?_);rw[K9M];show ϕa<|l b c s (ϲR ϤS) V x' d o
def Z1.erase(e:ϰP)(S:ϰy σ ρ g):Z1 K H H σ (L3.erase ρ) []:=by
 induction S with|nil=>show õ|no r ih=>show Ϧr|yes h r ih=>show .yes (f:=[]) (.sh<|h.Ė e ϧR) ih
def Z1.len(S:ϰy σ ρ g):σ.À=ρ.À:=by
 induction S with|nil=>rfl|no r ih=>show Ϩq ih|yes h r ih=>show Ϩq ih
structure Stt(K:At)(n:Nat)(F H:Hp)(σ:St)(ρ:Env)(fp:À Ix):Prop where
 same:ϰP
 own:ϰy σ ρ fp
 nd:fp.Í
 fr:∀a∈fp,Ϸi
 len:ρ.À=n
structure Stp(F H:Hp)(fp:À Ix)(F' H':Hp)(fp':À Ix):Prop where
 ff:ϲu F'
 keep:∀a o,H a=Ö->a∉fp->H' a=Ö
 new:∀a∈fp',ϩZ\/϶n
 nw:∀a,Ϩx->a∉fp->Ϸi->F' a=none
section
variable{K:At}{n:Nat}{F H F' H' F1 H1 F2 H2:Hp}{σ:St}{ρ:Env}{fp fp1 fp2:À Ix}
def Stt.ext(s:ϤY)(e:Ϛ F' H'):Ϲ5 F' H' σ ρ fp:=
 ⟨e.fh,s.ü e.ff ϐt,s.nd,ϰW (ώ0 s.Þ<|s.fr a m),s.í⟩
def Stt.erase(s:ϤY):Ϲ5 H H σ (L3.erase ρ) []:=
 ⟨ϰ2,s.own.erase s.Î,K8w,ϰq,(by erw[L3.erase];rw[K0];show s.í)⟩
def Stp.refl:ż fp F H fp:=⟨ϰ2,ϫz,λ_ m=>Ð m,ϭt z⟩
def Ext.stp(e:Ϛ F' H'):ż fp F' H' fp:=(ϕ4 (λ_ m=>Ð m))
def Stp.out(s:ż fp F1 H1 fp1)(h:Ϩx)(m:a∉fp):a∉fp1:=λq=>ϵb (ϓ8 q) m h
def Stp.trans(s:ż fp F1 H1 fp1)(t:Stp F1 H1 fp1 F2 H2 fp2):ż fp F2 H2 fp2 where
 ff:=s.ĭ t.ff
 keep a o h m:=t.ĉ a o (Ϩj h m)<|s.out (bg h) m
 new a m:=ϵb (t.new a m) ϓ8 λz=>by
  cases q:a∈fp
  .show Ð q
  .apply Ø ?_
   cases w:H a with|none=>rfl|some o=>rw[Ϩj w q]at z;cases z
 nw a h m z:=t.nw a (by
  cases w:H a with|none=>show absurd w h|some o=>show bg<|Ϩj w m) (s.out h m)<|s.nw a h m z
def Stt.set(s:ϤY)(hi:i<n)(r:ϫK x fx)(d:∀a∈fx,a∉fp):
  ∃p,Ϲ5 F H (Ϥ4 ĥ) (ϰs Ď) p/\∀a∈p,ϩZ\/a∈fx:=by
 let(f,g1,g2,e,k):=s.own.put (i:=i) (Ϸ0 s.í);subst e;let nd:=s.nd;let sub:∀a∈ϵu fx,a∈϶d\/a∈fx:=λa m=>by
  simp only[K9Y]at m⊢;rcases m with m|m|m
  .show Ð<|Ð m
  .show Ø m
  show Ð<|Ø<|Ø m
 show(ϵu fx,(s.Î,k F H ϰ2 ϧR v x fx r.own,?_,ϰW (ϵb ϵz (s.fr a) ϸz),Ô K8z s.í),sub);simp only[K9T,K9Y]at nd d⊢;obtain⟨N,⟨h,c,j⟩,g⟩:=nd;show(N,(r.nd,c,ϴJ (d a A<|Ø<|Ø (e▸B))),ϴJ ?_);rcases B with B|B
 .show d b B<|Ð (e▸A)
 show g a A b (Ø B) e
end
structure Mx where
 K:At
 mg:Ŏ
 E:XK
def XOk(M:Mx)(c:Str)(H:Hp)(f:À Ix):Prop:=∃v,M.mg c=ĥ/\∀D h,(∀a o,H a=Ö->϶L->h a=Ö)->M.E v D h
def az(M:Mx)(H:Hp)(f:À Ix){α:Type}(P:Ú α):Ú ϲ4|.ok a=>P a|.ex c=>XOk M c H f|.bad=>False
def azIf{M H f}{α:Type}{P:Ú α}{c:Prop}{i:Decidable c}{a:ϲ4}(p:Ĉ f P (@ite _ c i a Î)):c/\Ĉ f P a:=by
 cases h:c
 .rw[ϰo]at p
  show(h,p)
 rw[ϱA]at p;show ú
section
variable{M H f}{α:Type}{P:Ú α}{o q:Ü (Ü OD)}
def azO{o:Ü (À Gc)}{k:À Gc->ϲ4}(p:Ĉ f P (match o with|some d=>k d|none=>Î)):∃d,o=ϰN/\Ĉ f P (k d):=by
 cases o with|none=>show ú|some d=>show(d,rfl,p)
def azO2{o q:Ü (À Gc)}{k:ϱu (À Gc) ϲ4}(p:Ĉ f P (match o,q with|some x,some y=>k x y|_,_=>Î)):∃x y,o=Ď/\q=ϰO/\Ĉ f P (k x y):=by
 cases o with
 |none=>show ú
 |some x=>cases q with|none=>show ú|some y=>show(x,y,rfl,rfl,p)
def azS{k:OD->ϲ4}(p:Ĉ f P (match o with|some (some x)=>k x|_=>Î)):∃x,o=Â Ď/\Ĉ f P (k x):=by
 cases o with
 |none=>show ú
 |some o=>cases o with|none=>show ú|some x=>show(x,rfl,p)
def azSh{o:Ü OD}{k:Gc->ϲ4}(p:Ĉ f P (match o with|some (.sh d)=>k d|_=>Î)):∃d,o=Â Ř/\Ĉ f P (k d):=by
 cases o with
 |none=>show ú
 |some x=>cases x with|sh d=>show(d,rfl,p)|_=>show ú
def azOl{k:À OD->ϲ4}(p:Ĉ f P (match o with|some (some (.ol xs))=>ϤI|_=>Î)):∃xs,o=Â (Â ϱp)/\Ĉ f P ϤI:=by
 cases o with
 |none=>show ú
 |some o=>
  cases o with
  |none=>show ú
  |some x=>cases x with|ol xs=>show(xs,rfl,p)|_=>show ú
def azPl{k:Ix->À OD->ϲ4}(p:Ĉ f P (match o with|some (some (.pl l xs))=>k l xs|_=>Î)):∃l xs,o=Â (Â<|ϻT xs)/\Ĉ f P (k l xs):=by
 cases o with
 |none=>show ú
 |some o=>
  cases o with
  |none=>show ú
  |some x=>cases x with|pl l xs=>show(l,xs,rfl,p)|_=>show ú
def azOd{k:À Ο->ϲ4}(p:Ĉ f P (match o with|some (some (.od xs))=>ϤI|_=>Î)):∃xs,o=Â (Â<|.od xs)/\Ĉ f P ϤI:=by
 cases o with
 |none=>show ú
 |some o=>
  cases o with
  |none=>show ú
  |some x=>cases x with|od xs=>show(xs,rfl,p)|_=>show ú
def azOo{k:ϱu (À OD) ϲ4}(p:Ĉ f P (match o,q with|some (some (.ol xs)),some (some (.ol ys))=>ϤI ys|_,_=>Î)):∃xs ys,o=Â (Â ϱp)/\q=Â (Â ϻW)/\Ĉ f P (ϤI ys):=by
 cases o with
 |none=>show ú
 |some o=>
  cases o with
  |none=>show ú
  |some x=>
   cases x with
   |ol xs=>
    cases q with
    |none=>show ú
    |some q=>
     cases q with
     |none=>show ú
     |some y=>cases y with|ol ys=>show(xs,ys,rfl,rfl,p)|_=>show ú
   |_=>show ú
def azOL{k:À OD->À Gc->ϲ4}(p:Ĉ f P (match o,q with|some (some (.ol xs)),some (some (.sh (.list ks)))=>ϤI ks|_,_=>Î)):∃xs ks,o=Â (Â ϱp)/\q=some (â ks)/\Ĉ f P (ϤI ks):=by
 cases o with
 |none=>show ú
 |some o=>
  cases o with
  |none=>show ú
  |some x=>
   cases x with
   |ol xs=>
    cases q with
    |none=>show ú
    |some q=>
     cases q with
     |none=>show ú
     |some y=>
      cases y with
      |sh d=>cases d with|list ks=>show(xs,ks,rfl,rfl,p)|_=>show ú
      |_=>show ú
   |_=>show ú
end
def OkE(M:Mx)(F H:Hp)(Q:VK)(x:OD):Prop:=∀v b h f,Ϛ b h->ϒz x f->(π ϶n)->Q v h
def OkL(M:Mx)(F H:Hp)(Q:À V->Ú Hp)(x:À OD):Prop:=∀v b h f,Ϛ b h->ResL M.K b h v x f->(π ϶n)->Q v h
def OkH(F H:Hp){α:Type}(Q:α->Ú Hp)(x:α):Prop:=∀b h,Ϛ b h->Q x h
section
variable{M:Mx}{α β:Type}{r:ϲ4}
def az.bind(h:Ĉ fp P (ϴw g)):Ĉ fp (λa=>Ĉ fp P<|g a) r:=by
 cases r with|ok a=>show h|ex c=>show h|bad=>show h
def az.mono(h:Ĉ fp P r)(k:∀a,P a->P' a):Ĉ fp P' r:=by
 cases r with|ok a=>show k a h|ex c=>show h|bad=>show h
def XOk.stp(s:ż fp F1 H1 fp1)(h:XOk M c H fp):XOk M c H1 fp1:=
 let⟨cv,e,k⟩:=h
 ⟨cv,e,λD b q=>k D b λa o z m=>q a o (Ϩj z m)<|s.out (bg z) m⟩
def az.stp(s:ż fp F1 H1 fp1)(h:Ĉ fp P r):ϓD P r:=by
 cases r with|ok a=>show h|ex c=>show XOk.ē s h|bad=>show h
def az.ext(e:Ϛ F1 H1)(h:Ĉ fp P r):az M H1 fp P r:=h.ē e.ē
def az.nofp(h:Ĉ fp P r):Ĉ [] P r:=by
 cases r with
 |ok a=>show h
 |ex c=>let(v,e,k):=h;show(v,e,λD b q=>k D b λa o z _=>q a o z Û)
 |bad=>show h
def OkE.pre(e:Ϛ F1 H1)(h:Ϸ x):ϯT x:=λv b c f e' r w=>h v b c f (ϭH e') r λa m=>e.þ ϤF
def OkH.pre(e:Ϛ F1 H1)(h:ϓE x):OkH F1 H1 Q x:=λb a e'=>h b a<|ϭH e'
def OkE.val(s:ϰP)(h:Ϸ Ř)(r:ϥ4 F v d):Q v H:=h v F H [] ϒp (Res.sh r) ϰq
def OkE.lst{Q:VK}{X:À OD}{v:À V}{f:À Ix}{p:Ix}(s:ϰP)(h:ϯT Ϧh)(e:ϒA)(r:ϻ7 M.K v X f)(w:π (H1 a=none))(P:ϵw):Q (É p) (ļ p<|ô v):=by
 let np:p∉f:=λm=>ϸ5 q (r.Þ p m) P
 show h (É p) F _ (p::f) ϗ6 ⟨.ol aU<|ύY ϰ2 ((ϵH ?_)),ϙp,ϲM⟩ ϲM
 .rw[aC<|ϲY P]
  show q
 .rcases K8v.mp m with rfl|m
  .show s.â P
  show ϸz m
 rcases K8v.mp m with rfl|m
 .show e.þ P
 show ϤF
def OkE.tup{Q:VK}{X:À OD}{v:À V}{f:À Ix}{p:Ix}(s:ϰP)(h:ϯT (.ot X))(e:ϒA)(r:ϻ7 M.K v X f)(w:π (H1 a=none))(P:ϵw):Q (É p) (ļ p<|Ī v):=by
 let np:p∉f:=λm=>ϸ5 q (r.Þ p m) P
 show h (É p) F _ (p::f) ϗ6 ⟨ϓe<|ύY ϰ2 ((ϵH ?_)),ϙp,ϲM⟩ ϲM
 .rw[aC<|ϲY P]
  show q
 .rcases K8v.mp m with rfl|m
  .show s.â P
  show ϸz m
 rcases K8v.mp m with rfl|m
 .show e.þ P
 show ϤF
def OkE.lstD(s:ϰP)(h:Ϸ (.ol ϶a))(r:϶B F vs ds)(P:ϵw):Q (É p) (ļ p<|ô vs):=
 OkE.lst s h ϒp ⟨N1.shs r,K8w,ϰq⟩ ϰq P
def OkE.tupF(s:ϰP)(h:ϯT (.sh<|Ą ds))(e:ϒA)(r:϶B F vs ds)(P:ϵw):Q (É p) (ļ p<|Ī vs):=
 h (É p) (upd F p<|Ī vs) _ [] (ϭH<|Ext.allocF s P) (Res.sh<|Ī aU<|r.Î<|(aK.refl F).upd<|s.â P) ϰq
private def N1.of_shs(o:ψ vs xs f)(e:L3.shs xs=some ds):f=[]/\ž vs ds:=by
 induction xs generalizing vs f ds with
 |nil=>cases o;erw[L3.shs]at e;cases e;show(rfl,õ)
 |cons a0 r0 ih0=>
 cases o with
 |cons h0 r=>
  let i:=λds=>ih0 (ds:=ds) r;cases h0 with
  |sh h=>
   erw[L3.shs]at e;split at e
   .rename_i s q
    cases e;let(rfl,k):=i _ q;show(rfl,ą h k)
   cases e
  |ol _ _=>erw[L3.shs]at e;cases e
  |ot _ _=>erw[L3.shs]at e;cases e
  |od _ _ _=>erw[L3.shs]at e;cases e
  |pl _ _=>erw[L3.shs]at e;cases e
end
def tD(M:Mx)(n:Nat)(f:Fe):TE:=λb H Q=>∃F a p,ϰw F H b a p/\Ĉ p Ϸ (f a)
def tA(M:Mx)(n:Nat)(f:Fa):TA:=λb H Q=>∃F a p,ϰw F H b a p/\Ĉ p (OkL M F H Q) (f a)
def tT(M:Mx)(n:Nat)(f:Ft):TT:=λb H Q=>∃F a p,ϰw F H b a p/\Ĉ p ϓE (f a)
def tO(M:Mx)(n:Nat)(f:Fo):TO:=λb H Q=>∃F a p,ϰw F H b a p/\Ĉ p ϓE (f a)
def Ok2(M:Mx)(r:R2)(g:ϰd):Prop:=∀(x y:V)(dx dy:Gc)(F H:Hp)(f:À Ix)(Q:VK),ϰP->ϥ4 F x dx->ϥ4 F y dy->Ĉ f Ϸ (ϭw dy)->Ϭn
def Ok1(M:Mx)(r:V->Hp->Ú VK)(g:Gc->Ĭ):Prop:=∀(x:V)(dx:Gc)(F H:Hp)(f:À Ix)(Q:VK),ϰP->ϥ4 F x dx->Ĉ f Ϸ ϭw->ϭd
def OkC(M:Mx)(r:À V->Hp->Ú VK)(g:À Gc->Ĭ):Prop:=∀(x:À V)(dx:À Gc)(F H:Hp)(f:À Ix)(Q:VK),ϰP->϶B F x dx->Ĉ f Ϸ ϭw->ϭd
def OkS(M:Mx)(r:V->ϱu (Ü Int) (Hp->Ú VK))(g:Gc->ϱu (Ü Int) Ĭ):Prop:=∀(x:V)(i j:Ü Int)(dx:Gc)(F H:Hp)(f:À Ix)(Q:VK),ϰP->ϥ4 F x dx->Ĉ f Ϸ (ϭw i j)->r x i j H Q
section
variable{M:Mx}{n:Nat}{σ:St}{H:Hp}{Q:VK}{QB:Bool->Ú Hp}{fa fb:Fe}{ta tb:Ft}
def Xb(h:ď (aa i) σ H Q):ϲo σ H Q:=by
 let(F,j,P,S,p):=h;erw[aa]at p;cases e:j[i]? with
 |none=>rw[e]at p;show ú
 |some o=>
  rw[e]at p;cases o with
  |none=>show ú
  |some d=>
   cases d with
   |sh d=>
    let(v,f,g1,g2,a,b,c,g):=Ϸ9;cases b with|sh r=>show(v,a,ϗk r)
   |_=>show ú
def d_c(hr:∀K F,Ŀ F v d)(h:ď (eC d) σ H Q):tC v σ H Q:=ϮJ (ϗk<|hr _ _)
def Kw(hg:ϩ r g)(h:ď ϫs σ H Q):tOp r (ď fa) (ď fb) σ H Q:=by
 let(F,a,f,S,p):=h;show(F,a,f,S,Ń λx px v c j X e1 R w=>?_);let(G1,D,k):=ϹU w;show(G1,a,f,Ϲ6,Ů (϶b px D) λy py V i b Y e m W=>?_);let(G2,d,K):=m.Ė e W;show ϛm<|Ů (py.ā Ϭg) λz Z=>Z.pre Ϭg
def Zr(hg:Ok1 M r g)(h:ď (eUn g fa) σ H Q):tUn r (ď fa) σ H Q:=by
 let(F,b,f,S,p):=h;show(F,b,f,S,Ń λx px v c a X e1 R w=>?_);let(G1,D,k):=ϹU w;show ϛX<|Ů ώh ϧM
def vk(k:Ŀ F v d)(p:Ĉ fp P (truth d)):∃b,v=ϵO/\P b:=by
 cases d with
 |bool b=>cases k;show(b,rfl,p)
 |none=>show p.Ä
 |int _=>show p.Ä
 |str _=>show p.Ä
 |list _=>show p.Ä
 |tuple _=>show p.Ä
 |dict _=>show p.Ä
def K8(h:ϳ8 (aD fa) σ H QB):RL (ď fa) σ H QB:=by
 let(F,c,f,S,p):=h;show(F,c,f,S,Ń λx px v d a X e1 r w=>?_);let(G1,D,k):=ϲO w;let(b,rfl,q):=vk k px;show(b,rfl,q G1 a D)
def d_b(h:ϳ8 (aD fa) σ H QB):tB (ď fa) σ H QB:=K8 h
def VZ(h:ϳ8 (p_ ta tb) σ H QB):Ww (ϳ8 ta) (ϳ8 tb) σ H QB:=by
 let(F,d,a,S,p):=h;show(F,d,a,S,Ń λc P f e e1=>?_);cases c with|true=>rw[Ĝ]at P⊢;show(f,d,a,ϵv,Ϯd)|false=>rw[ϳE]at P⊢;show P f e e1
def Y1(h:ϳ8 (pZ ta tb) σ H QB):tOr (ϳ8 ta) (ϳ8 tb) σ H QB:=by
 let(F,d,a,S,p):=h;show(F,d,a,S,Ń λc P f e e1=>?_);cases c with|true=>rw[Ĝ]at P⊢;show P f e e1|false=>rw[ϳE]at P⊢;show(f,d,a,ϵv,Ϯd)
def Uv(h:ϳ8 (nI ta) σ H QB):Yh (ϳ8 ta) σ H QB:=by let(F,b,P,S,p):=h;show(F,b,P,S,Ń λc C f a e1=>C f a e1)
def WM(h:ď (Ao fa fb) σ H Q):R8 (ď fa) (ď fb) σ H Q:=by
 let(F,a,f,S,p):=h;show(F,a,f,S,Ń Ϯp);let(G1,D,k):=ϲO w;let(b,rfl,q):=vk k<|Ϥn px;show(b,rfl,?_);cases b with|true=>rw[Ĝ]at q⊢;show(G1,a,f,Ϲ6,Ů (q.ā D) ϧM)|false=>rw[ϳE]at q⊢;show ϪA q Ϧq
def Z5(h:ď (eOr fa fb) σ H Q):Xx (ď fa) (ď fb) σ H Q:=by
 let(F,a,f,S,p):=h;show(F,a,f,S,Ń Ϯp);let(G1,D,k):=ϲO w;let(b,rfl,q):=vk k<|Ϥn px;show(b,rfl,?_);cases b with|true=>rw[Ĝ]at q⊢;show ϪA q Ϧq|false=>rw[ϳE]at q⊢;show(G1,a,f,Ϲ6,Ů (q.ā D) ϧM)
def YF(h:ď (Ap fa) σ H Q):Ri (ď fa) σ H Q:=by
 let(F,a,f,S,p):=h;show(F,a,f,S,Ń Ϯp);let(G1,D,k):=ϲO w;let(b,rfl,q):=vk k<|Ϥn px;show(b,rfl,ϪA q Ϧq)
def Z9(h:ď (eIf ta fa fb) σ H Q):tIf (ϳ8 ta) (ď fa) (ď fb) σ H Q:=by
 let(F,a,f,S,p):=h;show(F,a,f,S,Ń λc P d e e1=>?_);cases c with|true=>rw[Ĝ]at P⊢;show(d,a,f,ϵv,Ϯd)|false=>rw[ϳE]at P⊢;show(d,a,f,ϵv,Ϯd)
def MY(h:ď (Rs fa) σ H Q):ď fa σ H Q:=by
 let(F,a,f,S,p):=h;show(F,a,f,S,Ń (Ϯ9 ?_));let(G1,D,k):=ϲO w;show ϪA px k
def Em(h:flat d=true)(r:Ŀ F v d):Ŀ G v d:=by
 cases r with
 |non=>show Β
 |bl b=>show ϵO
 |int i=>show Ä i
 |str x=>show Ė x
 |lst _ _=>cases h
 |tup _ _=>cases h
 |dct _ _ _=>cases h
def XX(h:ď (pX fa) σ H Q):ď fa σ H Q:=by
 let(F,b,P,S,p):=h;show(H,ώg,[],S.erase,ϬQ Ϸc ϗ7);let(f,px):=azIf px
 let(G1,D,k):=ϲO w;show px v F a [] ⟨ϰ2,D.hh,S.same.Å D.hh,Ϸ6⟩ (Res.sh<|Em f k) ϰq
def SN(h:ϳ8 (Gk ta) σ H QB):ϳ8 ta σ H QB:=by
 let(F,a,f,S,p):=h;show(H,erase a,[],S.erase,ϬQ (show Ĉ f _ (ta<|erase a)from p) λb P d c e1=>?_);show P F c ⟨ϰ2,e1.hh,ϚF,Ϸ6⟩
def SS(h:ϴP ai σ H QL):xg σ H QL:=ϮJ (p [] F H [] ϯb ResL.nil ϰq)
def QZ(h:ϴP (ϬG al) σ H QL):iA (ď fa) (ϴP al) σ H QL:=by
 let(F,b,P,S,p):=h;show(F,b,P,S,Ń λx px v c e X e1 r w=>?_);show(c,b,P,ϵv,Ů (϶b px e1) λj s V i d f g R W=>?_);show s (v::V) i d (X++f) (ϭn g) (ResL.cons (r.ā g) R λa m q=>?_) ϲM
 .let(o,z):=r.Þ a m
  rw[W a q]at z;cases z
 rcases K9Y.mp m with m|m
 .show ϤF
 show ώy<|W a m
def lj(h:k<=Tk):k<=sizeLine:=K9C h Ý
def zH(h:k<Tk):k<sizeLine:=K9P h Ý
def XI(h:ď (bO al) σ H Q):WI (ϴP al) σ H Q:=by
 let(F,b,f,S,p):=h;show(F,b,f,S,Ń λX px s c d x e1 r w=>?_);let(l,px):=azIf px
 show(Ô r.own.í (lj l),λa A=>OkE.lst e1.fh px e1 r w A)
private def WD(h:ď (d_ al) σ H Q):Ob (ϴP al) σ H Q:=by
 let(F,b,f,S,p):=h;show(F,b,f,S,Ń λX px v c d x e1 r w=>?_);let(l,px):=azIf px
 show(Ô r.own.í (lj l),λa A=>?_);erw[mkT]at px;split at px
 .rename_i s q
  let(_,k):=N1.of_shs r.own q;show OkE.tupF e1.fh px e1 k A
 show OkE.tup e1.fh px e1 r w A
def sp3(K:At)(m:Ŏ)(f:Fn):Sp:=λs H Q E=>∃F d,ϰP/\ž s d/\az όs H [] (OkE όs F H Q) (f d)
def Sb(h:ď (aj f al) σ H Q):ϙV [] (ϴP al) σ H Q:=by
 let(F,a,P,S,p):=h;show(F,a,P,S,Ń ϗ8);let(G1,D,k):=ϲO w;simp only[K9d];show(G1,ϳf,D.fh,k,ϬQ ώh ϧM)
def Uo(hg:ϦP r g)(h:ď ϔq σ H Q):tCB r (ϴP al) σ H Q:=by
 let(F,b,f,S,p):=h;show(F,b,f,S,Ń λX px s c a x e1 R w=>?_);let(G1,D,k):=ϹU w;show hg s ϳf G1 a f Q D.fh k<|Ů ώh ϧM
variable{lo hi:Fo}
def OT(h:tO M n iN σ H QO):GD σ H QO:=ϮJ (p F H ϯb)
def P5(h:tO M n (d8 fa) σ H QO):Rm (ď fa) σ H QO:=by
 let(F,b,f,S,p):=h;show(F,b,f,S,Ń ϗ7);let(G1,D,k):=ϲO w;generalize x.er=d at px k;cases d with
 |int i=>cases k;show(i,rfl,px G1 a D)
 |none=>show px.Ä
 |bool _=>show px.Ä
 |str _=>show px.Ä
 |list _=>show px.Ä
 |tuple _=>show px.Ä
 |dict _=>show px.Ä
def aab(hg:OkS M r g)(h:ď (eSl g fa lo hi) σ H Q):tSl r (ď fa) (tO M n lo) (tO M n hi) σ H Q:=by
 let(F,a,f,S,p):=h;show(F,a,f,S,Ń λx px v l m X e1 R w=>?_);let(G1,D,k):=ϹU w;show(G1,a,f,Ϲ6,Ů (϶b px D) λi pi b o E=>?_);show(b,a,f,(Ϲ6).ext E,Ů (϶b pi<|D.Å E) λj P c d G=>?_);let e:=ĉ (D.Å E) G;show ϛh<|Ů (P.ā e) λz Z=>Z.pre e
end
def fO(M:Mx)(n:Nat)(F H:Hp)(f:À Ix)(D:Ends):Ú Out|.nx ρ=>∀a b h p,ϰw b h a ρ p->ż f b h p->Ϥt h|.bk ρ=>∀a b h p,ϰw b h a ρ p->ż f b h p->D.bk a h|.ct ρ=>∀a b h p,ϰw b h a ρ p->ż f b h p->D.ct a h|.rt x=>∀v b h X,aK b h->ϒz x X->ż f b h X->D.rt v h
def tS(M:Mx)(n:Nat)(f:Fs):TS:=λD b H=>∃F a p,ϰw F H b a p/\Ĉ p (ϳd p D) (f a)
def OkG(M:Mx)(n:Nat)(is:Ò)(F H:Hp)(f:À Ix)(d:St)(Q:St->Ú Hp)(c:Env):Prop:=
 ∀a b h p,ϰw b h a c p->ż f b h p->(∀j,j∉is->a[j]?=d[j]?)->Q a h
def tG(M:Mx)(n:Nat)(is:Ò)(f:Fg):TG:=λv c H Q=>∃F b p x X,ϰw F H c b p/\Res M.K F H v x X/\(∀a∈X,a∉p)/\Ĉ (p++X) (ϚG (p++X) c Q) (f x b)
def tGs(M:Mx)(n:Nat)(is:Ò)(f:Fgs):TGs:=λs c H Q=>∃F b p X x,ϰw F H c b p/\ϻ7 M.K s X x/\(∀a∈x,a∉p)/\Ĉ (p++x) (ϚG (p++x) c Q) (f X b)
section
variable{M:Mx}
def fO.stp(s:ż fp F1 H1 fp1)(h:ϳd fp D o):Ϩ4 F1 H1 fp1 D o:=by
 cases o with|nx ρ=>show Ϗs|bk ρ=>show Ϗs|ct ρ=>show Ϗs|rt x=>exactλv f e fx a b c=>h v f e fx a b ϓ5
def PostS.stp(s:ż fp F1 H1 fp1)(h:Ĉ fp (ϳd fp D) r):ϓD (Ϩ4 F1 H1 fp1 D) r:=Ů (h.ē s) λo j=>j.ē s
def Ext.stpN(e:Ϛ F1 H1)(w:∀a∈fx,϶n):ż fp F1 H1 (fp++fx):=
 (ϕ4 (λa m=>ϵg Ð (λm=>Ø ϤF)))
def Stp.sub(s:ż fp F1 H1 fp1)(h:∀a∈fp2,a∈fp1):ż fp F1 H1 fp2:=⟨s.ff,s.keep,ϰW (ϓ8<|h a m),s.nw⟩
def TC(h:Ϭ sNx):Rq D σ H:=ϮJ (p σ F H f S Stp.refl)
def Ws(h:Ϭ (ao f g)):XW (ϻ4 f) (ϻ4 g) D σ H:=by
 let(F,a,c,S,p):=h;show(F,a,c,S,Ń Ϩy);cases o with|nx ρ1=>show λd b e P s T=>⟨b,ρ1,P,s,ϓF po⟩|bk a=>show po|ct a=>show po|rt x=>show po
def Rj(h:Ϭ Ju):Bi D σ H:=by let(F,a,f,S,p):=h;show p
def ZV(h:Ϭ (sIf t f g)):YB (ϳ8 t) (ϻ4 f) (ϻ4 g) D σ H:=by
 let(F,b,a,S,p):=h;show(F,b,a,S,Ń λc P d e e1=>?_);cases c with|true=>rw[Ĝ]at P⊢;show(d,b,a,ϵv,ϑu P)|false=>rw[ϳE]at P⊢;show(d,b,a,ϵv,ϑu P)
def SD(h:Ϭ (AF a)):wN (ď a) D σ H:=by let(F,d,f,S,p):=h;show(F,d,f,S,Ń (Ϯ9 (px σ c b f ϵv e1.ē)))
def WT(h:Ϭ (bF a)):J4 (ď a) D σ H:=by let(F,d,f,S,p):=h;show(F,d,f,S,Ń (Ϯ9 (Ϝu<|(e1.stpN w).sub λa m=>Τ m)))
def Si(h:Ϭ (dB i)):J4 ϲo D σ H:=by
 let(F,g,P,S,p):=h;erw[dB]at p;let(x,e,p):=azS p
 let(v,f,g1,g2,b,c,rfl,d):=Ϸ9;let sub:π (a∈϶d):=ϰW (Τ<|ϰA m);show(v,b,p v F H f S.Î ⟨c,?_,ϰW (ϸb ϵz)⟩<|Stp.refl.sub sub);let nd:=S.nd;simp only[K9T]at nd;show nd.2.1.1
def Rc(h:Ϭ (K_ a g)):ϭD (ď a) (ϫL g):=by
 let(F,d,fp,S,p):=h;show(F,d,fp,S,Ń λx px v i t X e1 r w=>?_);let T:=e1.stpN (fp:=fp) w;show(i,d,fp,x,X,ϵv,r,λa m q=>?_,Ů ((Ϥn px).stp T) λl b c e j f s k _=>b c e j f s<|T.trans k);let(o,z):=S.Þ a q;rw[ϤF]at z;cases z
def NQ(hi:i<n)(h:tG M n [i] (K2 i) v σ H Q):Ϫl v σ H Q:=by
 let(F,b,P,x,X,S,r,d,p):=h;let(f,s,sub):=S.ß hi r d;show p _ F H f s ⟨ϰ2,ϫz,λa m=>Ð<|K9Y.ó ϵz,ϭt z⟩ ϳp;let e:i≠j:=ϧ1 (J Û)
 rw[K9E e]
def WE(h:ύ3 [] bB vs σ H Q):Yg vs σ H Q:=by
 let(F,c,f,X,b,S,r,d,p):=h;cases X with
 |nil=>
  cases r.own with|nil=>show(rfl,p σ F H f S (Stp.refl.sub λa m=>ϰA m) ϥv)
 |cons x X=>show p.Ä
def SW(h:ύ3 (is++js) (ar g gs) vs σ H Q):RO (ϫL g) (ύ3 js gs) vs σ H Q:=by
 let(F,C,b,X,Z,S,r,d,p):=h;cases X with
 |nil=>show p.Ä
 |cons x X=>
  let(ro,U,R):=r;cases ro with
  |@cons v _ f vs _ g' h1 h2=>
   let nd:=U;simp only[K9T]at nd;show(v,vs,rfl,F,C,b,x,f,S,(h1,nd.1,ϰW (R a<|ϰA m)),ϰW (d a<|ϰA m),?_);let O:Ĉ ϒq _ (ó (g x C) λc=>gs X c):=p;let s0:ż ϒq F H (b++f):=Stp.refl.sub λa m=>by
    simp only[K9Y]at m⊢;rcases m with m|m
    .show Ð m
    show Ø<|Ð m
   show Ů ((az.ï O).stp s0) λl T Y u y P L s t1=>?_;let G:∀a∈g',a∉b++f:=λa m q=>by
    rcases K9Y.mp q with q|q
    .show d a (Τ m) q
    show nd.2.2 a q a m rfl
   let D:∀a∈g',Ϩx:=λa m=>let⟨_,q⟩:=h2.ö a m;Ϸv
   let N:∀a∈g',∀o,H a=Ö->y a=Ö:=ϵH (Ϩj q<|G a m);let out:∀a∈g',a∉P:=ϰW (s.out (D a m)<|G a m)
   let B:ż ϒq u y (P++g'):=⟨s.ff,λa o q m=>Ϩj q (λz=>m ϕE),λa m=>by
    rcases K9Y.mp m with m|m
    .rcases s.new a m with z|z
     .show Ð ϕE
     show Ø z
    show Ð ϲH,λa q m z=>s.nw a q (λw=>m (by simp only[K9Y]at w⊢;rcases w with w|w<;>simp[w])) z⟩
   show(u,l,P,X,g',L,(h2.á s.ff N,nd.2.1,λa m=>ϛ7<|R a<|Τ m),out,Ů (T.ē B) λc k t E I e K V W=>k t E I e K (B.trans V) λj A=>?_);let J:j∉is:=λz=>A<|ϰA z;let i:j∉js:=λz=>A<|Τ z;rw[W j i,t1 j J]
private def Yf(h:ϫL (gTp k gs) v σ H Q):X7 M.K k (ύ3 is gs) v σ H Q:=by
 let(F,i,P,x,y,S,r,d,p):=h;erw[gTp]at p;split at p
 .rename_i X
  let(ro,U,R):=r;cases ro with
  |@ot a vs _ f h1 h2=>
   let(l,p):=ϱO
   let nd:=K8k.mp U;let s0:ż (P++(a::f)) F H (P++f):=Stp.refl.sub λb m=>by simp only[K9Y,K8v]at m⊢;rcases m with m|m<;>simp[m]
   show(a,vs,rfl,SqT.of h1,Ϩa h2.í,F,i,P,X,f,S,(h2,nd.2,λb m=>R b<|ě m),λb m=>d b<|ě m,Ů (p.ē s0) λw e g j o c t u T=>e g j o c t (s0.Å u) T)
 .rename_i s
  let(ro,U,R):=r;cases ro with
  |sh q=>
   let(l,p):=ϱO
   cases q with|@tup a vs _ h1 h2=>show(a,vs,rfl,SqT.of<|S.Î _ _ h1,Ϩa ϴQ,F,i,P,ϫy,[],S,(N1.shs h2,K8w,ϰq),ϰq,p)
 cases p
def Kc(hi:i<n)(h:Ϭ (ax i a)):ϭD (ď a) Ϫl:=by let h':Ϭ (K_ a<|K2 i):=h;let(F,d,f,S,p):=Rc (is:=[i]) h';show(F,d,f,S,p.á (Ϯ9 (NQ hi<|px v c b X e1 r w)))
private def WQ(h:Ϭ (pq i f)):ϻ4 f D σ H:=by
 let(F,u,P,S,p):=h;erw[pq,Ox]at p;split at p
 .rename_i x e
  let(v,f,g1,g2,d,k,rfl,l):=Ϸ9;let c:π Ϸi:=λa m=>ϸb<|Τ<|ϰA m;let o:=l ϸe H ϦE ϧR v Ϭb [] (.sh<|k.Ė ϦE (ϵH (Ô (pI m) q)));let s:Ϥ4 ĥ=σ:=by
   apply K9K;ext j;cases J:i=j
   .subst J
    rw[d,K9I (ZB.mp d).1]
   rw[K9E J]
  rw[s]at o;let nd:=S.nd;simp only[K9T,K9Y]at nd;obtain⟨N,⟨y,r,t⟩,g⟩:=nd;let sub:∀a∈ϵu [],a∈϶d/\϶L:=λa m=>by
   simp only[K9B,K9Y]at m⊢;rcases m with m|m
   .exact(Ð m,λz=>g a m a (Ð z) rfl)
   show(Ø<|Ø m,λz=>t a z a m rfl)
  let T:ż ϶d ϸe H (ϵu []):=⟨ϦE,ϫz,ϰW (Ð (ϵz).1),λa h m z=>by
   rw[gO λw=>m<|Τ<|ϰA w]
   show z⟩
  show(ϸe,_,_,(x8 S.Î,o,?_,ϲM,Ô K8z S.í),ϓF p)
  .simp only[K9B,K9T]
   show(N,r,λa A b B=>g a A b<|Ø B)
  rw[gO (ϵz).2];show ϸb (ϵz).1
 show(F,u,P,S,p)
end
def Walks(K:At)(F:Hp)(J:It)(s:À Gc):Prop:=∀i G H,ϲu G->aK G H->
 (∀d,ϵT=ϰN->J.go i H/\∀x h,ϓx h->∃g,Ext G H g h/\Ŀ g x d)/\(s.À<=i->ώc H)
def OkI(K:At)(F H:Hp)(R:It->Ú Hp)(d:À Gc):Prop:=∀J b h,Ϛ b h->Walks K b J d->R J h
def tI(M:Mx)(n:Nat)(f:Fi):TI:=λb H R=>∃F a p,ϰw F H b a p/\Ĉ p (OkI M.K F H R) (f a)
section
variable{M:Mx}
def TX(h:ϻi (bY a)):ϓ0 (ď a) σ H R':=by
 let(F,e,f,S,p):=h;show(F,e,f,S,Ń λx px v g b o e1 r W=>?_);let(G1,D,k):=ϲO W;generalize x.er=d at px k;cases k with
 |@lst a vs ds h1 h2=>
  show(a,rfl,(vs,ϹI D.fh),px _ G1 b D λi G j s w=>?_);let q:=(ϹI ϫo);show(λd c=>?_,λl=>⟨vs,q,Ϩa ϴQ⟩);let(u,U,L):=ϸO h2 c;show((vs,u,q,U),λx m y=>?_);let(rfl,y):=y;let X:=y vs q;rw[U]at X;cases X;show(G,ό3,L.Î s)
 |non=>show px.Ä
 |bl _=>show px.Ä
 |int _=>show px.Ä
 |str _=>show px.Ä
 |dct _ _ _=>show px.Ä
 |tup _ _=>show px.Ä
def WX(h:ϻi (iTp a)):Yr M.K (ď a) σ H R':=by
 let(F,g,f,S,p):=h;show(F,g,f,S,Ń λx px v j c o e1 r W=>?_);let(G1,D,k):=ϲO W;generalize x.er=d at px k;cases k with
 |@tup a vs ds h1 h2=>
  show(a,rfl,(vs,SqT.of<|D.fh _ _ h1),px _ G1 c D λi G b s w=>?_);let q:SqT M.K b a vs:=SqT.of<|ϫo _ _ h1;show(λd e=>?_,λl=>⟨vs,q,Ϩa ϴQ⟩);let(u,U,L):=ϸO h2 e;show((vs,u,q,U),λx m y=>?_);let(rfl,y):=y;let X:=y vs q;rw[U]at X;cases X;show(G,ό3,L.Î s)
 |non=>show px.Ä
 |bl _=>show px.Ä
 |int _=>show px.Ä
 |str _=>show px.Ä
 |dct _ _ _=>show px.Ä
 |lst _ _=>show px.Ä
def z8(lo:Int)(k:Nat):Walks K F (Itr lo k) (ky lo k):=by
 ext i G H S w;erw[ky];show(ύA,ϖU);rw[N2]at h;let(j,J,rfl):=Ϲ7;let(a,b):=ϩw;let f:i=j:=by simpa using b
 subst f;show(ϗo,λx c y=>?_);let(rfl,rfl):=y;show(G,ό3,Ä _)
def iw{i:Int}:aE i=true↔ -ϳ<=i/\i<ϳ:=ϭX ϷP
def Zx(h:ϻi (iR1 a)):Q8 (ϴP<|ae a ai) σ H R':=by
 let(F,e,f,S,p):=h;show(F,e,f,S,?_);let T:=Ϸc;change Ĉ f _ (ó (a e) λx=>R.ok [x]);cases ha:a e with
 |bad=>rw[ha]at T;show T
 |ex c=>rw[ha]at T;show T
 |ok x=>
  rw[ha]at T;ext V i g X e1 r w;let(G1,D,k):=ϲO w;cases k with
  |@cons v _ _ _ k k2=>
   cases k2;let p2:Ĉ f Ϻ7 (match x.er with| .int j=>Ë (ϵQ aE) ϧn Î|_=>Î):=T;generalize x.er=d at p2 k;cases k with
   |int j=>
    cases b:aE j=true
    .let s:=iw.mp b
     let P:Ĉ f Ϻ7 (Ë (ϵQ aE) ϧn Î):=p2;rw[Os b]at P;show(j,rfl,s.1,s.2,ϗX<|z8 _ _)
    let P:Ĉ f Ϻ7 (Ë (ϵQ aE) ϧn Î):=p2;rw[P3 b]at P;cases P
   |non=>show p2.Ä
   |bl _=>show p2.Ä
   |str _=>show p2.Ä
   |dct _ _ _=>show p2.Ä
   |lst _ _=>show p2.Ä
   |tup _ _=>show p2.Ä
theorem EB{g:Gc->ϤR (À Gc)}{q:À V->Ú Hp}(p:Ĉ fp Ϻ7 (ó ϰm λx=>ó ϵS λy=>Ϩi))(k:∀v w dx dy G h,Ϛ G h->ϥ4 G v dx->ϥ4 G w dy->Ĉ fp Ϻ7 (ϭw dy)->q [v,w] h):
  Ĉ fp (OkL M F H q) (ϑN ρ):=by
 change Ĉ fp _ (ó ϰm λx=>(ó ϵS λy=>R.ok [y]).bind λX=>R.ok ϦC);let T:=Ϸc;cases ha:a ρ with
 |bad=>rw[ha]at T;show T
 |ex c=>rw[ha]at T;show T
 |ok x=>
  rw[ha]at T;let p2:Ĉ fp _ ϵS:=az.ï T;change Ĉ fp _ ((ó ϵS λy=>R.ok [y]).bind λX=>R.ok ϦC);cases hb:b ρ with
  |bad=>rw[hb]at p2;show p2
  |ex c=>rw[hb]at p2;show p2
  |ok y=>
   rw[hb]at p2;ext s f h d e1 r W;let(G1,D,K):=ϲO W;cases K with
   |@cons v _ _ _ K k2=>
    cases k2 with|@cons w _ _ _ k2 k3=>cases k3;show k v w x.er y.er G1 h D K k2 p2
def r2F(x y:Gc):R (À Gc):=match x,y with
 |.int i,.int j=>Ë (ϻf aE) (Ħ (ky i (ĩ (j-i)))) Î
 |_,_=>Î
def ZX(h:ϻi (iR2 a b)):RB (ϴP ϑN) σ H R':=by
 let(F,k,P,S,p):=h;show(F,k,P,S,ϙh r2F iR2 (λv w dx dy G f e r R q=>?_));cases r with
 |int i=>
  cases R with
  |int j=>
   erw[r2F]at q;dsimp only at q;let(s,q):=azIf q
   rw[K9U]at s;let c:=iw.mp s.1;let d:=iw.mp s.2;show(i,j,rfl,(c.1,c.2,d.1,d.2),q _ G f e<|z8 _ _)
  |_=>show ϳm q
 |_=>show ϳm q
def kY{s:À Gc}{i:Nat}{d:Gc}(h:á (fC s)=ϰN):∃e,ϵT=Ϲ4/\d=Ą [Ä i,e]:=by erw[fC]at h;rw[N2]at h;let(p,H,rfl):=Ϲ7;rw[K8S]at H;let(e,he,rfl):=XL.mp H;show(e,he,Û)
def T9(h:ϻi (iEn a)):R_ M.K (ϴP<|ae a ai) σ H R':=by
 let(F,b,f,S,p):=h;show(F,b,f,S,?_);let P:=Ϸc;change Ĉ f _ (ι λx=>R.ok [x]);cases ha:a b with
 |bad=>rw[ha]at P;show P
 |ex c=>rw[ha]at P;show P
 |ok x=>
  rw[ha]at P;ext s B m I e1 A W;let(G1,D,k):=A.Ė e1 W;cases k with
  |@cons v _ _ _ k k2=>
   cases k2;let p2:Ĉ f Ϻ7 (match x.er with| .list ds=>Ħ (fC ds)|_=>Î):=P;generalize x.er=d at p2 k;cases k with
   |@lst a s ds h1 h2=>
    let r:Ϻ7 (fC ds):=p2;show(a,rfl,(s,ϹI D.fh),r _ G1 m D λi G C g w=>?_);let q:=(ϹI (g.Å w));show(λd o=>?_,λl=>⟨s,q,by rw[ϴQ];erw[fC]at l;simpa using l⟩);let(e,he,rfl):=kY o;let(u,U,L):=ϸO h2 he;show((s,u,q,U),λx E y=>?_);let(T,z,t,rfl,rfl,Z):=y;let X:=Z s q;rw[U]at X;cases X;show(ϫV _,Ext.allocF w t,Ī aU<|ą (Ä _)<|ą ((L.Î g).same<|ϑO<|w.â t) õ)
   |int j=>show p2.Ä
   |non=>show p2.Ä
   |bl _=>show p2.Ä
   |str _=>show p2.Ä
   |dct _ _ _=>show p2.Ä
   |tup _ _=>show p2.Ä
def O2(x y:Gc):R (À Gc):=match x,y with
 |.list ds,.list es=>.ok ύU
 |_,_=>Î
def rA{s e:À Gc}{i:Nat}{d:Gc}(h:á (gq s e)=ϰN):∃x y,ϵT=Ď/\e[i]?=ϰO/\d=Ą ϶K:=by erw[gq]at h;rw[N2]at h;let(p,H,rfl):=Ϲ7;rw[Zan]at H;show(p.1,p.2,H.1,H.2,rfl)
private def WG(h:ϻi (iZp a b)):Xr M.K (ϴP ϑN) σ H R':=by
 let(F,B,P,S,p):=h;show(F,B,P,S,ϙh O2 iZp (λv w dx dy G1 o D V R q=>?_));erw[O2]at q;split at q
 .rename_i J K
  cases V with
  |@lst a vs _ h1 h2=>
   cases R with
   |@lst b ws _ h3 h4=>
    show(a,b,rfl,(vs,ϹI D.fh),(ws,(h3.Î D.fh).sq),q _ G1 o D λi G C s c=>?_);let e:=(ϹI ϓ5);let Q:=(h3.Î ϓ5).sq;show(λd t=>?_,λl=>⟨vs,ws,e,Q,?_⟩)
    .let(x,y,X,Y,rfl):=rA t
     let(u,f,L):=ϸO h2 X;let(m,U,r):=ϸO h4 Y;show((vs,u,ws,m,e,f,Q,U),λx I y=>?_);let(T,z,N,k,rfl,rfl,A,Z):=y;let e1:=A vs e;let E:=Z ws Q;rw[f]at e1;rw[U]at E;cases e1;cases E;let j:aK G (ϫV<|Ī [u,m]):=ϑO<|c.â k;show(ϫV _,Ext.allocF c k,Ī aU<|ą (Ϭ9 L.Î j)<|ą (Ϭ9 r.Î j) õ)
    rw[ϴQ,Ϭq];erw[gq]at l;rw[K0,Zao]at l;lia
 show q.Ä
def WB{it:Fi}(h:Ϭ (bZ it g b)):XZ (tI M n it) (ϫL g) (ϻ4 b) D σ H:=by
 let(F,V,R,S,p):=h;show(F,V,R,S,Ń λs pd J I H1 e1 wk=>?_);show(λi m A k=>ϒn s.À (∃l j f,ϰw l k A j f/\aK I l/\az M k f (Ϩ4 l k f D) (ϴf ύp j)),(s.À,Û,ϰS,I,V,R,ϵv,ϰ2,ϑu pd),?_);ext i m A k ⟨rfl,hi,l,j,f,S',s',p'⟩;let(w1,w2):=wk i l k s' S'.Î;cases L:i<s.À
 .obtain⟨d,T⟩:∃d,ϵT=ϰN:=⟨s[i],ό0⟩
  let(g1,g2):=w1 d T;let e:ύp=d::ϧZ:=by
   rw[K8N L];congr 1;let:=(ZB.mp T).2;show this
  rw[e]at p';show Ø ⟨g1,λG u=>∃K c w,ϰw K u G c w/\aK I K/\az M u w (Ϩ4 K u w D) (ϴf ϧZ c),λG u q=>⟨s.À-(i+1),Á,rfl,L,q⟩,λx u y=>?_⟩
  let(G2,Q,Z):=g2 x u y;let p2:az M k f _ (ó (g Ř j) λz=>ó (b z) λo=>match o with
   |.nx c=>ϴf ϧZ c
   |.ct c=>ϴf ϧZ c
   |.bk c=>.ok<|.nx c
   |.rt x=>ϴK):=p'
  let U:Stp l k f G2 u (f++[]):=Ô K9d Q.ē
  show(G2,j,f,Ř,[],S'.ā Q,Res.sh Z,ϰq,Ů ((Ϥn p2).stp U) λz Y σ3 W H3 O X s3 _=>?_);let s4:=U.Å s3;show(W,z,O,X,Ů ((az.ï Y).stp s4) Ϩy);cases o with|nx c=>show ϒm ⟨t,c,P,E,ĉ (s'.Å s4.ff) N.ff,PostS.stp ϯ9 po⟩|ct c=>show ϒm ⟨t,c,P,E,ĉ (s'.Å s4.ff) N.ff,PostS.stp ϯ9 po⟩|bk c=>show ϒm (po B t C P E ϯ9)|rt x=>exactλv t C fx a r N=>po v t C fx a r ϯ9
 let e:i=s.À:=Á
 subst e;show Ð ⟨w2 ì,?_⟩;rw[List.drop_length]at p';show p' A l k f S' Stp.refl
private def Od(h:Ϭ (dX t b)):Kt (ϳ8 t) (ϻ4 b) D σ H:=by
 let(F,I,G,S,p):=h;erw[dX]at p;split at p
 .rename_i J
  show(λm i j=>∃s e f,ϰw s j i e f/\az M j f (Ϩ4 s j f D) (ϲU m e),(_,F,I,G,S,p),?_);ext m i j ⟨s,e,f,S',p'⟩;cases m with
  |zero=>show p'.Ä
  |succ m=>
   let p2:az M j f _ (ó (t e) λc=>if ϱs then ó (b e) λo=>match o with
    |.nx d=>ϲU m d
    |.ct d=>ϲU m d
    |.bk d=>.ok<|.nx d
    |.rt x=>ϴK else Ħ (.nx e)):=p'
   show(s,e,f,S',Ů (Ϥn p2) λc C y A e1=>?_);cases c with
   |true=>
    rw[Ĝ]at C⊢;show(λl u=>∃z d w,ϰw z u l d w/\az M u w (Ϩ4 z u w D) (ϲU m d),λl u q=>⟨m,ϩT,q⟩,y,e,f,S'.ā e1,Ů ((az.ï C).ext e1) Ϩy);cases o with|nx d=>show ϕC|ct d=>show ϕC|bk d=>show λB g k P E N=>po B g k P E Ϛ1|rt x=>exactλv g k fx a r N=>po v g k fx a r Ϛ1
   |false=>rw[ϳE]at C⊢;show C i y A f (S'.ā e1) e1.ē
 cases p
end
section
variable{M:Mx}{F H F1 H1:Hp}{ρ:Env}{fp:À Ix}{D:Ends}
def Z1.nones:∀(k:Nat){b:St}{a:Env}{g:À Ix},ϰy b a g->ϰy (ϳY none++b) (ϳY none++a) g|0,_,_,_,h=>h|k+1,_,_,_,h=>Ζ K99 K99 (.no<|Z1.nones k h)
def Z1.one(S:ϰy σ ρ fp)(i:Nat):∃f,(π ϩZ)/\(fp.Í->f.Í)/\∀{c:St}{b:Env}{g:À Ix},ϰy c b g->ϰy ((á σ).join::c) ((á ρ).join::b) Ϧm:=by
 cases e:ρ[i]? with
 |none=>show([],ϰq,Ţ K8w,λh=>.no h)
 |some o=>
  cases o with
  |none=>show([],ϰq,Ţ K8w,λh=>.no h)
  |some x=>
   let(v,f,g1,g2,d,j,rfl,k):=S.at e;show(f,ϰW (Τ<|ϰA m),λnd=>?_,λh=>?_)
   .simp only[K9T]at nd
    show nd.2.1.1
   rw[d];show .yes j h
def shE(a:Env):Env:=a.Ç λo=>match o with
 |some (.sh d)=>Â Ř
 |_=>none
def Z1.shE(S:ϰy σ ρ g):ϰy σ (L3.shE ρ) []:=by
 induction S with
 |nil=>show õ
 |no r ih=>show Ϧr
 |yes h r ih=>
  cases h with|sh h=>show ϖG ih|ol _ _=>show Ϧr|ot _ _=>show Ϧr|od _ _ _=>show Ϧr|pl _ _=>show Ϧr
theorem Z1.pick3:∀(is:Ò){c:St}{b:Env},ϰy c b []->ϰy (ϒu<|c[i]?) (ϒu ϵU) []
 |[],_,_,_=>õ
 |i::is,_,_,S=>by
  let(f,h,_,d):=S.one i;let e:f=[]:=by
   cases f with|nil=>rfl|cons u f=>show ĭ (h u K9z) Û
  subst e;show d<|Z1.pick3 is S
theorem DC:∀(k:Nat){d c:St},c.À=k+d.À->(∀j,k<=j->c[j]?=ę (ϳY none++d))->mH (ϳY none++d) c
 |0,d,c,hl,h=>by
  let e:c=d:=K9K λj=>ť (h j ϰS)
  subst e;change mH c c
  clear h hl
  induction c with
  |nil=>trivial
  |cons x r ih=>
   cases x with|none=>show ih|some v=>show(rfl,ih)
 |k+1,d,[],hl,h=>Ϛd
 |k+1,d,x::c,hl,h=>by
  rw[K99];show DC k Ϛd ϳp;let:=h (j+1) Á;simpa[K99]using this
def OX(a:Env):∀(is:Ò),(ϒu<|á<|shE a)=is.Ç λi=>Cd ϴp:=by
 induction _ with
 |nil=>show rfl
 |cons i is N3=>
  rw[K9w,K9w,N3];congr 1;erw[shE];rw[N2];cases a[i]? with
  |none=>rfl
  |some o=>
   cases o with|none=>rfl|some x=>cases x<;>rfl
def Stt.block(S:ϤY)(k:Nat)(outs:À ϴM):Stt K ϯn F H (slots k outs σ) (sl3 k (ϵC ϔ) ρ) []:=by
 show(S.Î,?_,K8w,ϰq,ϧ9 sl3);let h:=Z1.nones k (Z1.pick3 (ϵC ϔ) S.own.shE);rw[OX,S1]at h;show h
def CH(p:Ĉ fp PP (ó (ó (Jc r) g) k)):∃a,r=.ok a/\Ĉ fp PP (ó (g a) k):=by
 cases r with|ok a=>show(a,rfl,p)|ex c=>show p.Ä|bad=>show p.Ä
def CompI(M:Mx)(F H:Hp)(p:À Ix)(Q:VK)(g:Fg)(t:Ft)(l:Fe)(d:Env)(i e:Hp)(D:Ix)(s:À Gc)(c:À V)(h:Hp):Prop:=
 ∃b X f,h D=Â (ô c)/\b D=none/\Ext i e b h/\ResL M.K b h c X f/\(π<|e a=none/\a≠D)/\Ĉ p Ϸ (ó (ϭv l d s X) λX=>ģ X)
theorem MU{it:Fi}(hk:∀j∈is,j<k)(h:ď (aP it g t el k (ϵC ϔ)) σ H Q):
  EF (tI M n it) (tG M ϯn is g) (tT M ϯn t) (tD M ϯn el) k outs σ H Q:=by
 let(F,ρ,U,S,p):=h;show(F,ρ,U,S,Ń λs pd J C H1 e1 wk D I=>?_);let SB:=(ϵv).block k outs;generalize sl3 k (ϵC ϔ) ρ=ρ0 at SB pd;let fD:C D=none:=e1.fh.â I;show(λi m c l=>ϒn s.À (ϖV ύp c l),(s.À,Û,ϰS,C,[],[],aU,fD,ώF e1.fh I,ResL.nil,ϰq,pd),?_);ext i m c l ⟨rfl,hi,F',xs,fx,hacc,fD',e',rx,wx,p'⟩;let S':=SB.ā e';let(w1,w2):=wk i F' l e'.ff e'.fh;cases L:i<s.À
 .obtain⟨d,hd⟩:∃d,ϵT=ϰN:=⟨s[i],ό0⟩
  let(g1,g2):=w1 d hd;let e:ύp=d::ϧZ:=by
   rw[K8N L];congr 1;show(ZB.mp hd).2
  rw[e]at p';let(B,w,p3):=CH p';let(b,hb,P):=CH p3;show Ø ⟨g1,λA r=>ϖV ϧZ A r,λA r q=>⟨s.À-(i+1),Á,rfl,L,q⟩,λx r y=>?_⟩;let(G2,e2,rx2):=g2 x r y;show(G2,ρ0,[],Ř,[],S'.ā e2,Res.sh rx2,ϰq,?_);rw[w];ext σ3 F3 H3 O X s3 t3;let e3:Ext G2 r F3 H3:=⟨s3.ff,Ϧy (s3.ĉ a o q Û),X.same,λa q z=>s3.nw a q Û z⟩
  show(DC k (by rw[X.own.len,X.len];simp) λj hj=>t3 j λz=>Ĳ (hk j z),F3,B,O,X,?_);rw[hb];ext N H4 e4;let E:Ext F' l N H4:=ĉ (e2.Å e3) e4;cases b with
  |true=>
   rw[Ĝ]at P⊢;let(y,hy,K):=CH P;show(N,B,O,X.ā e4,?_);rw[hy];ext v G T Y e5 Z w5;cases W:xs.À<Tk
   .rw[Os W]at K
    let f:=E.Å e5;let V:T D=Â (ô c):=f.hh _ _ hacc;let u:G D=none:=f.nw D (bg hacc) fD';let yD:∀a∈Y,a≠D:=ϰW (by ext rfl;let:=ϴU hacc;rw[w5 _ m]at this;cases this)
    let R:=rx.ā f;show(V,Ô rx.own.í (zH W),G,ϬH,fx++Y,aU,u,(e'.ĭ f.ff,Ϧy ?_,Ϧy ?_,λa q z=>Ϝj<|e'.nw a q z),(?_,?_,?_),?_,K)
    .rw[aC<|ϲY I]
     show f.hh _ _<|e'.hh _ _ q
    .rw[aC<|ϲY u]
     show e5.fh _ _ q
    .let q1:N1 M.K G (ϙw<|ô<|c++[v]) c xs fx:=R.ü ϰ2 (ϵH (Ô (aC (wx a m).2) q))
     let q2:Own M.K G (ϙw<|ô<|c++[v]) v y Y:=Z.ü ϰ2 (ϵH (Ô (aC<|yD a m) q))
     let q3:=N1.app q1<|N1.cons q2 õ;rw[K9d]at q3;show q3
    .apply Ϧi ⟨rx.nd,Z.nd,λa m b m' z=>?_⟩
     subst z;let(o,q):=rx.Þ a m;let:=ϴU q;rw[w5 a m']at this;cases this
    .intro a m
     rcases K9Y.mp m with m|m
     .show R.fr a m
     show Z.fr a m
    ext a m;rcases K9Y.mp m with m|m
    .show wx a m
    show((e'.Å E).hh.free<|w5 a m,yD a m)
   rw[P3 W]at K;show K.Ä
  |false=>rw[ϳE]at P⊢;show(N,xs,fx,ϴU hacc,E.nw D (bg hacc) fD',e'.Å E,rx.ā E,wx,P)
 let e:i=s.À:=Á
 subst e;rw[List.drop_length]at p';let q:Ϸ ϱp:=p';show Ð ⟨w2 ì,q (É D) F' l (D::fx) (ϭn e') ⟨.ol hacc rx.own,K8k.ó ⟨λm=>(wx D m).2 rfl,rx.nd⟩,ϲM⟩ ϲM⟩
 .rcases K8v.mp m with rfl|m
  .show fD'
  show rx.fr a m
 rcases K8v.mp m with rfl|m
 .show e1.þ I
 show ώy (wx a m).1
def Md(o:ψ vs xs f)(e:ϴ xs.all Ϻ9):ϷM G H1 vs ϮG []:=by
 induction xs generalizing vs f with
 |nil=>cases o;show õ
 |cons x r0 ih=>
 cases o with
 |cons h r=>
  rw[K80,K9U]at e;rw[K9w];show ą (f:=[]) (g:=[]) (.sh ?_)<|ih r e.2;cases h with
  |sh q=>rw[bc]at e⊢;show Em e.1 q
  |ol _ _=>rw[md]at e;show ĭ (ύ ϫ1 e.1) K9o
  |ot _ _=>rw[M_]at e;show ĭ (ύ ϫ1 e.1) K9o
  |od _ _ _=>rw[RI]at e;show ĭ e.1 (by simp[flat,dD])
  |pl _ _=>rw[Dj]at e;show ĭ (ύ ϫ1 e.1) K9o
def Gp(h:ď (mE fa) σ H Q):ď fa σ H Q:=by
 let(F,i,g,S,p):=h;show(H,erase i,[],S.erase,ϬQ Ϸc λx px v j e X e1 r w=>?_);cases x with
 |sh d=>show px.Ä
 |ot xs=>show px.Ä
 |od xs=>show px.Ä
 |pl _ _=>show px.Ä
 |ol xs=>
  let P:Ĉ g Ϸ (Ë (ϴ xs.all Ϻ9) (ģ ϮG) Î):=px;let(c,P):=azIf P
  let(ro,U,R):=r;cases ro with
  |@ol a vs _ f h1 h2=>
   let na:϶n:=w a K9z;show P (É a) F e [a] ⟨ϰ2,e1.hh,ϚF,Ϸ6⟩ ⟨.ol h1<|Md h2 c,Û,ϹN⟩ ϹN
   .let:b=a:=ϲE
    rw[this];show S.Ę na
   let:b=a:=ϲE
   rw[this];show na
end
section
variable{M:Mx}{n:Nat}{F H F1 H1:Hp}{σ:St}{ρ:Env}{fp:À Ix}{D:Ends}{K:At}
def uo{p f q d:À Ix}(h:(p++(f++q)).Nodup)(h':d.Í)(s:∀c∈d,c∈f\/c∉p++(f++q)):(p++(d++q)).Nodup:=by
 simp only[K9T,K9Y]at h s⊢;obtain⟨N,⟨n,i,j⟩,g⟩:=h;show(N,(h',i,ϴJ ?_),ϴJ ?_)
 .subst e
  rcases s a A with z|z
  .show j a z a B rfl
  show z<|Ø<|Ø B
 subst e;rcases B with B|B
 .rcases s a B with z|z
  .show g a A a (Ð z) rfl
  show z<|Ð A
 show g a A a (Ø B) rfl
theorem N1.at:∀{S:À V}{X:À OD}{g:À Ix}{i:Nat}{x:OD},ψ S X g->á X=Ď->
  ∃v f g1 g2,S[i]?=ĥ/\ϻa/\g=϶d/\∀(b c:Hp),ϲu b->(ύu<|∀o,H a=Ö->c a=Ö)->∀j x' d,ϴq b c j x' d->ϷM b c (S.ß i j) (X.ß i x') ϯS
 |_,_,_,_,_,.nil,e=>by simp at e
 |_,_,_,0,x,.cons (f:=f) (g:=g) h r,e=>by
  simp at e;subst e;show(_,f,[],g,rfl,h,rfl,λb c s k j x' d o=>Ϝp<|r.á s k)
 |_,_,_,i+1,x,.cons (f:=f0) h r,e=>by
  let(v,f,g1,g2,l,n,p,q):=N1.at (i:=i) r ϵh;show(v,f,f0++g1,g2,ϑl,n,by rw[p,K9M],λb c s k j x' d o=>?_);rw[K9M];show ą (h.á s (ϲR (ϰA<|ϰA m)))<|q b c s (ϲR ϤS) j x' d o
def vj(h:á σ=Â ĥ):Ϥ4 ĥ=σ:=by
 apply K9K;ext j;cases J:i=j
 .subst J
  rw[h,K9I ϲI]
 rw[K9E J]
def Put(K:At)(F H:Hp)(u:V)(f:À Ix)(b h:Hp)(y:OD)(d:À Ix):Prop:=ϴq b h u y d/\d.Í/\ϙq/\ż f b h d
def SG{b:Ix}{kd:À V->HO}{mk:À OD->OD}{ws:À V}{S:À OD}{g:À Ix}{k:Nat}{y:OD}(B:H b=Â (kd ws))(W:ψ ws S g)(nd:(b::g).Nodup)(fr:∀a∈b::g,Ϸi)(G:S[k]?=ϰO)
  (M:∀d h v x g',h b=Â (kd v)->ϷM d h v x g'->ϴq d h (É b) (mk x) (b::g')):
  ∃u J,ws[k]?=ķ/\Res K F H u y J/\b∉J/\∀d h Y f,Put K F H u J d h Y f->∃C,Put K F H (É b) (b::g) d h (mk<|S.ß k Y) C:=by
 let(u,J,e,i,b1,t,rfl,A):=W.at G;let N:=nd;rw[K8k]at nd;let D:((b::e)++(J++i)).Nodup:=by simpa using N
 let n:=nd.2;simp only[K9T,K9Y]at n;obtain⟨Q,⟨L,R,O⟩,P⟩:=n;let bn:b∉J:=λz=>nd.1 (Ϯ z);show(u,J,b1,(t,L,ϰW (fr a ϲH)),bn,λd h Y f zq=>?_);let(o,nf,E,T):=zq;let out:∀a∈e++i,a∉J:=λa m z=>by
  rcases K9Y.mp m with m|m
  .show P a m a (Ð z) rfl
  show O a z a m rfl
 let own:=A d h T.ff (ϵH<|ϻb<|ϩk m) u Y f o;let s:ws.ß k u=ws:=by
  apply K9K;ext j;cases r:k=j
  .subst r
   rw[b1,K9I (ϱa b1)]
  rw[K9E r]
 rw[s]at own;let I:∀c∈f,c∈J\/c∉(b::e)++(J++i):=λc m=>by
  rcases T.new c m with z|z
  .show Ð z
  show Ø λw=>?_;let p:c=b\/c∈e++(J++i):=by simpa using w
  rcases p with rfl|p
  .rw[z]at B;cases B
  let(o,q):=W.ö c p;rw[z]at q;cases q
 show(b::(e++(f++i)),M _ _ _ _ _ (T.ĉ b _ B bn) own,by let:=uo D nf I;simpa using this,ϲM,(T.ff,λa o q m=>ϻb (λz=>m (Ϯ z)),ϲM,ϕ6))
 .let go:(a=b\/a∈e++i)->d a=none:=λm=>by
   rcases m with rfl|m
   .show Ϧs (bg B) bn (fr a Û)
   let(o,q):=W.ö a ϤS;show Ϧs Ϸv (ϩk m) (fr a ϤS)
  let l:Ϙp:=ϲE
  rcases l with m|m|m|m
  .show go<|Ð m
  .show go (Ø ϲH)
  .show E a m
  show go (Ø ϲH)
 let l:Ϙp:=ϲE
 rcases l with m|m|m|m
 .show Ð ϲH
 .show Ð ϲH
 .rcases T.new a m with z|z
  .show Ð (Ϯ z)
  show Ø z
 show Ð ϲH
def Stt.swap(S:ϤY)(X:á ρ=Â Ď):
  ∃v f,á σ=Â ĥ/\ϫK x f/\(π ϩZ)/\
   ∀b h x' d,aK b h->ϴq b h v x' d->d.Í->ϙq->ż f b h d->∃p,Ϲ5 b h σ (ϰs<|Â x') p/\ż fp b h p/\∀a∈p,(ϩZ/\϶L)\/a∈d:=by
 let(v,f,g1,g2,e,j,rfl,k):=S.own.at X;let nd:=S.nd;let N:=nd;simp only[K9T,K9Y]at N;obtain⟨u,⟨l,y,r⟩,t⟩:=N;show(v,f,e,(j,l,ϰW (ϸb ϲH)),ϰW ϲH,λb h x' d sm o nf g T=>?_);let out:ύu ϶L:=λa m z=>by
  rcases K9Y.mp m with m|m
  .show t a m a (Ð z) rfl
  show r a z a m rfl
 let s:∀c∈d,c∈f\/c∉϶d:=λc m=>by
  rcases T.new c m with z|z
  .show Ð z
  show Ø λw=>?_;let(o,q):=S.Þ c w;rw[z]at q;cases q
 let own:=k b h T.ff (ϵH<|ϻb<|ϩk m) v x' d o;rw[vj e]at own;show(ϯS,(sm,own,uo nd nf s,ϲM,Ô K8z S.í),(T.ff,λa o q m=>ϻb (λz=>m (Ϯ z)),ϲM,ϕ6),ϲM)
 .simp only[K9Y]at m
  let go:a∈g1++g2->b a=none:=λm=>by
   let(o,q):=S.Þ a ϤS;show Ϧs Ϸv (ϩk m) (ϸb ϤS)
  rcases m with m|m|m
  .show go ϲH
  .show g a m
  show go ϲH
 .simp only[K9Y]at m⊢
  rcases m with m|m|m
  .show Ð<|Ð m
  .rcases T.new a m with z|z
   .show Ð<|Ø<|Ð z
   show Ø z
  show Ð<|Ø<|Ø m
 simp only[K9Y]at m⊢;rcases m with m|m|m
 .show Ð ⟨Ð m,ϩk ϲH⟩
 .show Ø m
 show Ð ⟨Ø<|Ø m,ϩk ϲH⟩
def HI{b:Ix}{ws:À V}{f:À Ix}(B:H b=Â (ô ws))(nd:b∉f)(fb:ώi)(e:Ϛ F1 H1){w:À V}{y:À OD}{d:À Ix}(o:ϷM F1 H1 w y d)(nf:d.Í)(sub:∀c∈d,c∈f\/H c=none)(a:∀c∈d,F1 c=none):
  aK F1 (ϘC<|ô w)/\Put K F H (É b) (b::f) F1 (ϘC<|ô w) (.ol y) (b::d):=by
 let nb:∀c∈d,ϤJ:=λc m z=>by
  subst z;rcases sub c m with z|z
  .show nd z
  rw[B]at z;cases z
 let g:Ϻs F1:=e.nw b (bg B) fb;show(ϵV (Ô (aC<|ϲY g) (e.fh _ _ q)),.ol aU (o.á ϰ2 λc m o q=>Ô (aC<|nb c m) q),K8k.ó ⟨λm=>nb b m rfl,nf⟩,ύB,(e.ff,λc o q m=>?_,ύB,ϑC e.nw))
 .rcases K8v.mp m with m|m
  .rw[m]
   show g
  show a c m
 .rw[aC λz=>m<|Ô z K9z]
  show ϔr
 rcases K8v.mp m with m|m
 .show Ð (ϥi K9z)
 show(sub c m).imp ě id
theorem Stt.write(S:ϤY)(X:á ρ=Â (Â ϱp)):
  ∃a V f,á σ=Â (Â<|É a)/\H a=Â (ô V)/\ψ V xs f/\f.Í/\(∀b∈f,ώi)/\
   ∀c h s x d,Ϛ c h->ϷM c h s x d->d.Í->(∀b∈d,b∈f\/ϰ6)->(∀b∈d,c b=none)->
    ∃p,Ϲ5 c (Ϫ5<|ô s) σ (ϰs<|Â<|.ol x) p/\ż fp c (Ϫ5<|ô s) p/\(∀b∈p,b∈fp\/b∈d):=by
 let(v,q,k,r,I,wr):=S.swap X;let nd:=r.nd;let fr:=r.fr;let ro:=r.own;cases ro with
 |@ol a V _ f ha hv=>
  rw[K8k]at nd;show(a,V,f,k,ha,hv,nd.2,λb m=>fr b<|ě m,λc h s x d e o nf sub j=>?_);let(sm,T,p2,P,l):=HI ha nd.1 (fr a K9z) e o nf sub j;let(p,g,t,im):=wr c _ _ _ sm T p2 P l;show(p,g,t,ϹN);rcases im b m with z|z
  .show Ð z.1
  rcases K8v.mp z with z|z
  .show Ð (I b<|Ô z K9z)
  show Ø z
def N1.snoc(h:ψ vs xs f)(o:ϴq F H v y g):ψ (vs++[v]) ϬH Ϧm:=ϱC (N1.app h<|N1.cons o õ) K9d
def X6(h:Ϭ (jD i a)):wN (Ϯr CM ϲo<|ϸX (ď a)) D σ H:=by
 let(F,C,x,S,p):=h;erw[jD]at p;let(X,e,p):=Ϥv
 let(l,s,f,A,k,d,nf,u,wr):=Ϭr;show(_,A,Ð ⟨rfl,s,SqL.of k⟩,F,C,x,S,Ń λy py v g j Y e1 r w=>?_);let(L,py):=azIf py
 show(l,s,v,rfl,rfl,ϻN k,Ô d.í (zH L),?_);let o:N1 M.K g j (s++[v]) (X++[y]) (f++Y):=(d.á e1.ff λb _ o q=>ϻN q).snoc r.own;let(P,t,T,_):=wr g j _ _ _ e1 o (Ϧi ⟨nf,r.nd,λb m c B z=>Ϯi (d.ö b m) (w b B)⟩) (λb m=>ϵg Ð (λm=>Ø<|w b m)) λb m=>ϵg (όV (d.ö b m)<|e1.nw b Ϸv (u b m))<|r.fr b;show py σ g _ P t T
def N1.last(o:ψ vs xs f)(e:xs.ī=Â Ř):∃v,vs[vs.À-1]?=ĥ/\Ŀ F v d/\ψ vs.Ù xs.Ù f:=by
 induction xs generalizing vs f with|nil=>simp at e|cons a0 r0 ih0=>
 cases o with
 |cons h r=>
  let i:=ih0 r;cases r with
  |nil=>
   cases h with
   |sh h=>
    simp at e;subst e;show(_,rfl,h,õ)
   |ol _ _=>simp at e
   |ot _ _=>simp at e
   |od _ _ _=>simp at e
   |pl _ _=>simp at e
  |cons h' r=>
   let(v,a,b,c):=i ϵh;show(v,ϑv,b,ą h c)
def s_pop(h:Ϭ (IH i g)):ϭD (WR M.K "list" Wh ϲo) (ϫL g):=by
 let(F,G,x,S,p):=h;erw[IH]at p;let(X,e,p):=Ϥv
 let(d,A,p):=azSh p
 let(l,s,f,y,j,z,nf,u,wr):=Ϭr;let(v,v1,V,C):=z.last A;let(P,q,T,_):=wr F H _ _ f ϯb C nf (λb m=>Ð m) u;let t:ż x F (ļ l<|ô s.Ù) (P++[]):=by rw[K9d];show T
 show(_,y,Ð ⟨rfl,s,SqL.of j⟩,l,s,v,rfl,rfl,j,v1,F,_,P,Ř,[],q,Res.sh V,ϰq,Ů ((Ϸc).stp t) λE a c k o w r B _=>a c k o w r<|t.Å B)
def Wa(h:Ϭ (Es i a)):wN (Ϯr CA ϲo<|ϸX (ď a)) D σ H:=by
 let(F,x,r,S,p):=h;erw[Es]at p;let(X,e,p):=Ϥv
 let(l,V,f,C,u,j,nf,B,wr):=Ϭr;show(_,C,Ð ⟨rfl,V,SqL.of u⟩,F,x,r,S,Ń λy py v k t Y e1 R w=>?_);cases y with
 |sh d=>show py.Ä
 |ot ys=>show py.Ä
 |od ys=>show py.Ä
 |pl _ _=>show py.Ä
 |ol ys=>
  let P:Ĉ r (ϳd r D) (Ë (X.À+ys.À<=Tk) (ϵ x.ß (X++ys)) Î):=py;let(L,P):=azIf P
  let(ro,U,G):=R;cases ro with
  |@ol b ws _ g hb hw=>
   show(l,b,V,ws,rfl,rfl,ϻN u,hb,Ζ j.í hw.í (lj L),?_);let o:N1 M.K k t (V++ws) (X++ys) Ϧm:=(j.á e1.ff λb _ o q=>ϻN q).app hw;let(s,A,T,_):=wr k t _ _ _ e1 o (Ϧi ⟨nf,(K8k.mp U).2,λb m c E z=>Ϯi (j.ö b m) (w b<|ě E)⟩) (λb m=>ϵg Ð (λm=>Ø<|w b<|ě m)) λb m=>ϵg (όV (j.ö b m)<|e1.nw b Ϸv (B b m)) (λm=>G b<|ě m);show P σ k _ s A T
def M1{q:Int}(h:ixN k q=ϱ7):j<k:=by
 erw[ixN]at h;split at h
 .split at h
  .cases h
   lia
  cases h
 split at h
 .cases h
  lia
 cases h
def Xe(h:Ϭ (xj i k a)):ϭD (ď a) (Sd ϲo (ď k) Hw):=by
 let(F,t,g,S,p):=h;erw[xj]at p;let(X,e,p):=Ϥv
 show(F,t,g,S,Ń λy py v C H1 Y e1 R W=>?_);let(l,vs,f,Q,T,d,nf,B,wr):=Ϭr;show(_,Q,C,t,g,ϵv,Ů (϶b py e1) λz pz u F2 A fz N V w2=>?_);let(G2,r,K):=V.frz N w2;generalize z.er=dz at pz K;cases dz with
 |int q=>
  cases K;let P:Ĉ g (ϳd g D) (match Ϲt q with|some j=>ϵ t.ß (Ϸ4 y)|none=>Î):=pz;cases hj:ixN X.À q with
  |none=>rw[hj]at P;cases P
  |some j=>
   rw[hj]at P;let E:=e1.Å r;let J:=M1 hj;show(l,vs,q,j,rfl,rfl,ϴU T,Ô d.í hj,?_);obtain⟨x,U⟩:∃x,ę X=Ď:=⟨X[j],ϓ6⟩
   let(v0,O,g1,g2,b1,b2,I,L):=d.at U;subst I;let o:=L G2 A E.ff (λb m o q=>ϴU q) v y Y (R.ā r).own;let sub:∀b∈g1++(Y++g2),b∈g1++(O++g2)\/ϰ6:=λb m=>by
    simp only[K9Y]at m⊢;rcases m with m|m|m
    .show Ð<|Ð m
    .show Ø<|W b m
    show Ð<|Ø<|Ø m
   let(s,G,Z,_):=wr G2 A _ _ _ E o (uo nf R.nd λc m=>Ø λw=>ϸ5 q (d.ö c w) (W c m)) sub (λb m=>by
     simp only[K9Y]at m;rcases m with m|m|m
     .show let⟨_,q⟩:=d.ö b ϲH;E.nw b Ϸv (B b ϲH)
     .exact(R.ā r).fr b m
     show let⟨_,q⟩:=d.ö b ϲH;E.nw b Ϸv (B b ϲH))
   show P σ G2 _ s G Z
 |none=>show pz.Ä
 |bool _=>show pz.Ä
 |str _=>show pz.Ä
 |list _=>show pz.Ä
 |tuple _=>show pz.Ä
 |dict _=>show pz.Ä
def Wb(hi:i<n)(hg:ϩ ti g)(h:Ϭ (EU i g a)):Xo i (ď a) ti D σ H:=by
 let(F,I,j,S,p):=h;erw[EU]at p;cases e:I[i]? with
 |none=>rw[e]at p;show ú
 |some o=>
  rw[e]at p;cases o with
  |none=>show ú
  |some d=>
   cases d with
   |sh d=>
    let(v,f,g1,g2,A,B,L,N):=Ϸ9;cases B with
    |sh r=>
     show(v,A,F,I,j,S,Ń λy py w J l Y e1 R G=>?_);let(G1,c,K):=ϹU G;show ϛn<|Ů (az.ā c<|Ϥn py) λz pz u k s Z x C W=>?_;let E:=c.Å x;let(P,t,sub):=Ϫ (S.ā E) hi C λb m q=>ϸ5 z (S.Þ b q) (c.þ<|W b m)
     show pz _ k s P t ⟨E.ff,λb o q _=>ϴU q,λb m=>ϵb (sub b m) Ð λm=>Ø<|c.þ<|W b m,λb q _ z=>E.nw b q z⟩
   |_=>show ú
theorem Stt.write2(S:ϤY)(X:á ρ=Â Ö)(C:comps o=Â (l,xs))(M:Ϥu=Â ϻW):
  ∃a s b ws f,á σ=Â (Â<|É a)/\H a=Â (Ë (l=true) (ô s)<|Ī s)/\s.À=xs.À/\s[j]?=Â (É b)/\H b=Â (ô ws)/\ψ ws ys f/\f.Í/\(∀c∈f,F c=none)/\
   ∀d t w y z,Ϛ d t->ϷM d t w y z->z.Í->(∀c∈z,c∈f\/H c=none)->(∀c∈z,d c=none)->
    ∃p,Ϲ5 d (ϙx<|ô w) σ (ϰs<|some<|wrap l<|ϲG<|.ol y) p/\ż fp d (ϙx<|ô w) p:=by
 let(v,G,J,r,P,wr):=S.swap X;let nd:=r.nd;let fr:=r.fr;let L:=r.own;obtain⟨a,s,g,A,h,rfl,rfl,mk⟩:∃a s g,H a=Â (Ë (l=true) (ô s)<|Ī s)/\ψ s xs g/\v=É a/\G=a::g/\∀B k V x g',k a=Â (Ë (l=true) (ô V)<|Ī V)->ϷM B k V x g'->ϴq B k (É a) (wrap l x) (a::g'):=by
  cases L with
  |sh r=>cases C
  |od _ _ _=>cases C
  |pl _ _=>cases C
  |@ol a s _ g A h=>cases C;show(a,s,g,A,h,rfl,rfl,Ϙ1 ol)
  |@ot a s _ g A h=>cases C;show(a,s,g,A,h,rfl,rfl,Ϙ1 ot)
 let(u,Z,b1,D,bn,up):=SG (kd:=λs=>Ë (l=true) (ô s) (Ī s)) (mk:=wrap l) A h nd fr M mk;let N:=D.nd;let R:=D.fr;let O:=D.own;cases O with
 |@ol b ws _ f hb hw=>
  rw[K8k]at N;show(a,s,b,ws,f,J,A,h.len,b1,hb,hw,N.2,λc m=>R c<|ě m,λd t w y z e o nf sub I=>?_);let(sm,pt):=HI hb N.1 (R b K9z) e o nf sub I;let(Y,T,p2,Q,U):=up d _ _ _ pt;let(p,E,W,_):=wr d _ _ _ sm T p2 Q U;show(p,E,W)
private def OM(h:Ϭ (ui i k a)):wN (Ϯr CM (ϗz ϲo<|ď k)<|ϸX (ď a)) D σ H:=by
 let(F,l,g,S,p):=h;erw[ui]at p;let(X,e,p):=Ϥv
 let T:comps Ϧh=Â (true,X):=rfl;let(v0,_,_,_,C,own0,_,_):=Ϸ9;show(v0,C,F,l,g,S,Ń ϗe);let(G1,r,K):=r1.Ė e1 w1;generalize z.er=dz at pz K;cases dz with
 |int q=>
  cases K;let P:az M H g (ϳd g D) (match Ϲt q with
   |some j=>match ę X with
    |some (.ol s)=>ó (a l) λy=>if s.À<Tk then ϵ l.ß (Ϸ4<|.ol<|s++[y])else Î
    |_=>Î
   |none=>Î):=pz
  cases hj:ixN X.À q with
  |none=>rw[hj]at P;cases P
  |some j=>
   rw[hj]at P;let Z:az M H g (ϳd g D) (match ę X with
    |some (.ol s)=>ó (a l) λy=>if s.À<Tk then ϵ l.ß (Ϸ4<|.ol<|s++[y])else Î
    |_=>Î):=P
   split at Z
   .rename_i s hy
    let(N,V,b,ws,f,G,Q,U,B,I,w,nf,O,wr):=(S.ā r).write2 e T hy;rw[C]at G;cases G;let at1:Ť V q=Â (É b):=by erw[atI];rw[U,hj];show B
    show(N,V,q,É b,rfl,rfl,SqL.of Q,at1,Ð ⟨rfl,ws,SqL.of I⟩,G1,l,g,S.ā r,Ů ((az.ï Z).ext r) λy py v t A Y E R W=>?_);let(L,py):=azIf py
    show(b,ws,v,rfl,rfl,ϴU I,Ô w.í (zH L),?_);let o:N1 M.K t A (ws++[v]) (s++[y]) (f++Y):=(w.á E.ff λc _ o q=>ϴU q).snoc R.own;let(x,J,st):=wr t A _ _ _ E o (Ϧi ⟨nf,R.nd,λc m d m' z=>Ϯi (w.ö c m) (W c m')⟩) (λc m=>ϵg Ð (λm=>Ø<|W c m)) λc m=>ϵg (όV (w.ö c m)<|E.nw c Ϸv (O c m))<|R.fr c;show py σ t _ x J<|r.ý st
   show Z.Ä
 |none=>show pz.Ä
 |bool _=>show pz.Ä
 |str _=>show pz.Ä
 |list _=>show pz.Ä
 |tuple _=>show pz.Ä
 |dict _=>show pz.Ä
end
open PySem.Spec PyProof.Rows
def DE(M:Mx)(X:Cx)(e:On)(f:Fe):Prop:=Ϧ1 PE tD
def DT(M:Mx)(X:Cx)(e:On)(f:Ft):Prop:=Ϧ1 PT tT
def DW(M:Mx)(X:Cx)(e:On)(f:Ft):Prop:=Ϧ1 PW tT
def DA(M:Mx)(X:Cx)(e:À On)(f:Fa):Prop:=Ϧ1 PA tA
def DO(M:Mx)(X:Cx)(e:Ü On)(f:Fo):Prop:=Ϧ1 PO tO
def DI(M:Mx)(X:Cx)(tg e:On)(f:Fi):Prop:=Υ->ϥC->Ϸp e (ϑw f)
def DG(M:Mx)(X:Cx)(tg:On)(is:Ò)(f:Fg):Prop:=Υ->ϥC->PG X tg (tG M X.õ is f)
def DGs(M:Mx)(X:Cx)(tg:À On)(is:Ò)(f:Fgs):Prop:=Υ->ϥC->ϦN tg (tGs M X.õ is f)
def DF(M:Mx)(X:Cx)(e:À On)(f:Ft):Prop:=Ϧ1 PF tT
def DS(M:Mx)(X:Cx)(T:No)(f:Fs):Prop:=Υ->ϥC->ϲb T ϮQ
def DSs(M:Mx)(X:Cx)(T:À No)(f:Fs):Prop:=Υ->ϥC->ϴ4 T ϮQ
section
variable{M:Mx}{X:Cx}{e a b c:On}{pos:Pos}
def peI(h:ā e t)(k:ϪH):ā e t':=Ϗn
def ptI(h:ϸY e t)(k:ϪH):ϸY e t':=Ϗn
def pwI(h:PW X e t)(k:ϪH):PW X e t':=λw p s a H Q I q=>h w p s a H Q I<|k a H Q q
def paI(h:ϱT es t)(k:ϪH):ϱT es t':=λP p s a H Q I q=>h P p s a H Q I<|k a H Q q
def poI(h:PO X o t)(k:ϪH):PO X o t':=Ϗn
def psI{T:No}(h:ϲb T t)(k:ϗQ):ϲb T t':=ϕ8
def Ti{T:À No}(h:ϴ4 T t)(k:ϗQ):ϴ4 T t':=ϕ8
def aq(i:Nat)(hN:ϵc (ð pos)):ï (ð pos) (aa i):=λ_ _=>peI hN λ_ _ _ h=>Xb h
def ng{i:Int}{j}:ï (ϻd<|Ä i) (eC<|Ä i):=λ_ _=>ϪJ Td (Ä i)
def RU{j}:ï (ϻd<|ã i) (eC<|ã i):=λ_ _=>ϪJ Yq (.bl i)
def q_{j}:ï (ϻd ò) (eC ò):=λ_ _=>ϪJ Vu Β
def Nk{j}:ï (ϻd<|Ė x) (eC<|Ė x):=λ_ _=>ϪJ S6 (Ė x)
def iC{i:Int}(hg:γ x)(m:∃t,X.mg x=Â (Ä i t))(d:ϲz):ï (ð pos) (eC<|Ä i):=λ_ _=>
 let⟨t,e⟩:=m
 ϪJ (Pt (v:=Ä i) hg e ϓz d) (Ä i)
def d5(h:ï e fa):ï e (Rs fa):=ũ peI Ŷ (MY q)
def VQ(h:ï e fa):ï e (pX fa):=ũ peI Ŷ (XX q)
def CI(h:ï e fa):ï e (mE fa):=ũ peI Ŷ (Gp q)
def UD(h:ϴi e ta):ϴi e (Gk ta):=ũ ptI Ŷ (SN q)
def fH(j:ϙk)(hg:Υ->ϩ r g)(A:ï a fa)(B:ï b fb):ï ϙl ϫs:=ũ peI (Y7 j ϴX ϸx) (Kw Ϻg q)
def Mh(j:ϙC)(hg:Υ->Ok1 M r g)(A:ï a fa):ï ϙm (eUn g fa):=ũ peI (WL j ϴX) (Zr Ϻg q)
def zt(j:ϮC)(hg:Υ->ϩ r g)(A:ï a fa)(B:ï b fb)(h:ϪL):ï Ϯn ϫs:=ũ peI (PV j ϴX ϸx h) (Kw Ϻg q)
def fX(j:ϮC)(hg:Υ->ϩ r g)(A:ï a fa)(B:ï b fb)(c:ϪL):ϴi Ϯn (aD ϫs):=λm h=>
 ptI (NY j (A m h) (B m h) c) λe H Q q=>by let(F,d,f,S,p):=K8 q;show Kw Ϻg ⟨F,d,f,S,p⟩
def Mn(h:ï e fa)(he:ϐA (∀whole,ϮN whole=(do let v <-whole;standAt e.ú;holding [v] (truthy v)))):ϴi e (aD fa):=ũ ptI (Ui Ŷ he) (d_b q)
def NR(h:ϴi a ta):ϴi ϮD (nI ta):=ũ ptI (UU Ŷ) (Uv q)
def Hg(h:ϴi a ta):Ϧt (ϱH And [a]) ta:=λm H=>QC Ŷ
def BF(h:ϴi a ta):Ϧt (ϱH Or [a]) ta:=λm H=>TK Ŷ
def Lx{rest:À On}(h:ϴi a ta)(k:Ϧt (ϱH And ϳv) tb):Ϧt (ϱH And<|a::ϳv) (p_ ta tb):=ũ pwI (U9 Ŷ ϩM) (VZ q)
def AZ{rest:À On}(h:ϴi a ta)(k:Ϧt (ϱH Or ϳv) tb):Ϧt (ϱH Or<|a::ϳv) (pZ ta tb):=ũ pwI (X9 Ŷ ϩM) (Y1 q)
def FJ(h:Ϧt e ta):ϴi e ta:=λm H=>(Ŷ).pt
def Gh{op}(h:ï a fa):ï Ϙ2 fa:=λm H=>U5 Ŷ
def CL{rest:À On}(h:ï a fa)(k:ï (ϱH And ϳv) fb):ï (ϱH And<|a::ϳv) (Ao fa fb):=ũ peI (VC Ŷ ϩM) (WM q)
def W8{rest:À On}(h:ï a fa)(k:ï (ϱH Or ϳv) fb):ï (ϱH Or<|a::ϳv) (eOr fa fb):=ũ peI (XJ Ŷ ϩM) (Z5 q)
def yq(h:ï a fa):ï ϮD (Ap fa):=ũ peI (UK Ŷ) (YF q)
def Hm(h:ϴi c ta)(A:ï a fa)(B:ï b fb):ï ϙA (eIf ta fa fb):=ũ peI (LP Ŷ ϴX ϸx) (Z9 q)
def aQ:DA M X [] ai:=λ_ _=>paI tZ (ϲK SS)
def aw(h:ï e fa)(r:ϸl es)(S:à (æ Ũ=ϰG (æ es))):DA M X Ũ (ϬG al):=ũ paI (f7 Ŷ (r m H) S) (QZ q)
def o6{x1}(h:ϸl es):ï (ϻu x1 pos) (d_ al):=ũ peI (Gv Ŷ) (WD q)
def oR(h:ϸl es):ï (.List es pos) (bO al):=ũ peI (V5 Ŷ) (XI q)
def eI:DO M X none iN:=λ_ _=>poI Qm (ϲK OT)
def r_(h:ï e fa):DO M X Ϲ4 (d8 fa):=ũ poI (Py Ŷ) (P5 q)
def jG{lo hi:Ü On}{fl f:Fo}(hr:SlR X r)(hg:Υ->OkS M r g)(h:ï e fa)(a:DO M X lo fl)(c:DO M X hi f):
  ï (ŕ e Ϗ5 pos) (eSl g fa fl f):=ũ peI (KA hr Ŷ (a m H)<|c m H) (aab Ϻg q)
def zT(hr:ϸU r)(hg:Υ->ϩ r g)(A:ï a fa)(B:ï b fb)(S:xB b):ï (ŕ a b pos) ϫs:=ũ peI (Hb hr ϴX ϸx S) (Kw Ϻg q)
def eX{id:String}(C:ϳM (Ρ id) r)(j:Υ->ϦP r g)(hg:γ x)(h:ϥm)(v:Ϲj=Â (Ρ id))(A:ϸl Ũ)(n:ϱD Ϲe)(d:ϲz)(he:à (æ Ũ=ϰG (æ es)))(l:à (ϰX<|ϲD<|æ es)):
  ï (ϱb (ð p) Ũ pos) ϔq:=ũ peI (Eu C hg h v ϴX n d he l) (Uo (j m) q)
def Yn(C:ϳM (Ω T) r)(j:Υ->ϦP r g)(hg:γ x)(h:ϥm)(v:Ϲj=Â (Ω T))(A:ϸl Ũ)(n:ϱD Ϲe)(d:ϲz)(he:à (æ Ũ=ϰG (æ es)))(l:à (ϰX<|ϲD<|æ es)):
  ï (ϱb (ð p) Ũ pos) ϔq:=ũ peI (JI C hg h v ϴX n d he l) (Uo (j m) q)
def vi(F:ϦZ M.K M.mg CX)(hr:ϴh X.A)(hg:γ x)(a:M.mg x=Â (É f))(h:ϵo M.K (É f))(B:ϹG M.K [])(c:Ϩh M.E)(A:ϸl Ũ)(d:ϲz)(he:à (æ Ũ=ϰG (æ es)))(l:à (ϰX<|ϲD<|æ es)):
  ï (ϱb (ð p) Ũ pos) ϓs:=λm H=>by
 let b:ϦZ X.K X.mg CX:=by rw[m,H];show F
 show peI (ϕ3 (by rw[m];show h) õ c ϴX d he l) (ϲK Sb)
def sA(h:ï e fa):ϸf e (bY fa):=λm a=>Ϫy (HG (tg:=tg)<|h m a) TX
def LG(h:ï e fa):ϸf e (iTp fa):=λm a=>Ϫy (Vf (tg:=tg)<|h m a) WX
def Q4(hg:γ "range")(c:ϧt)(h:ï a fa)(S:à (æ [a]=(false,ϰI)::æ []))(d:à (æ [a]=϶z ϰI)):ϸf (ϳP "range" [a]) (iR1 fa):=λm b=>λi s e H r I z=>ϛt<|Zx z
def Y6(hg:γ "range")(f:ϧt)(h:ï a fa)(k:ï b fb)(c:à (æ ϲa=(false,ϰI)::æ [b]))(S:à (æ [b]=(false,ϲh)::æ []))(g:à (æ ϲa=ϻt ϰI ϲh))(d:à (æ [b]=϶z ϲh)):ϸf (ϳP "range" ϲa) (iR2 fa fb):=λm e=>λi s j H r I z=>IK hg f (ϕz m e) g d i s j H r I<|ZX z
def GS(hg:γ "enumerate")(c:ϙo)(h:ï a fa)(S:à (æ [a]=(false,ϰI)::æ []))(d:à (æ [a]=϶z ϰI)):
  ϏP (ϳP "enumerate" [a]) (iEn fa):=λm b=>Ϫy (QQ (es:=ts) (k:=tk) (tpos:=tpos) (p:=p) (pos:=pos) hg c ((aw h aQ S) m b) d) T9
def kK(hg:γ "zip")(f:ϧG)(h:ï a fa)(k:ï b fb)(c:à (æ ϲa=(false,ϰI)::æ [b]))(S:à (æ [b]=(false,ϲh)::æ []))(g:à (æ ϲa=ϻt ϰI ϲh))(d:à (æ [b]=϶z ϲh)):ϏP (ϳP "zip" ϲa) (iZp fa fb):=λm e=>Ϫy (Vk (es:=ts) (k:=tk) (tpos:=tpos) (p:=p) (pos:=pos) hg f (ϕz m e) g d) WG
def Dh{α:Type}{N:À α}{i:Nat}{x:α}(h:N[i]?=Ď):i<N.À:=ϲI
def pgI(h:PG X tg t)(k:ϖ0):PG X tg t':=λp s a H v u Q I r q=>ϕK<|ϱe _ _ q
def Wn(h:ϦN tg t)(k:ϖ0):ϦN tg t':=λp s a H v u Q I r q=>ϕK<|ϱe _ _ q
def bR(h:X.à)(hi:á X.N=Ď)(H:ϲg x)(f:ϕ (ϳg\/ϱW=Â ο)):DG M X (ð pos) [i] (K2 i):=λ_ _=>pgI (HF h hi H f) λ_ _ _ _ q=>NQ (Dh hi) q
def mG:DGs M X [] [] bB:=λ_ _=>Wn N8 λ_ _ _ _ q=>WE q
def bE(h:DG M X e is g)(k:DGs M X es js gs)(S:à (Ê (Ϲf Ũ) Ž=assign e X.Ü::Ê (Ϲf es) Ž)):DGs M X Ũ (is++js) (ar g gs):=λm H=>Wn (M8 Ŷ ϩM S) λ_ _ _ _ q=>SW q
def qN(C:ϗ)(h:DGs M X es is gs)(N:à (Ã (Ϲf es)=n))(S:à ((Ϲf es).findIdx? ϔ=none)):DG M X (ϻu k pos) is (gTp n gs):=λm H=>by let q:=SO (pos:=pos) (k:=k) C Ŷ N S;rw[m]at q;show pgI q λ_ _ _ _ z=>Yf z
variable{st:No}{rest sa sb:À No}
def cD:Ϲ8 [] sNx:=λ_ _=>Ti GN (ϲK TC)
def af(h:Ϧ st f)(k:Ϲ8 rest g):Ϲ8 (st::rest) (ao f g):=ũ Ti (D9 Ŷ ϩM) (Ws q)
def aB(h:Ϧ st f):Ϲ8 [st] f:=λm H=>QX Ŷ
def LJ:Ϧ st Ju:=λ_ _=>psI Lu (ϲK Rj)
def Qe(h:ï e fa)(S:à (ϫH none pos.line X.Ü=ϥs)):Ϧ (.Expr e pos) (AF fa):=ũ psI (CB Ŷ S) (SD q)
def bW(h:ï e fa):Ϧ (Ϭh Ϲ4) (bF fa):=ũ psI (Cp Ŷ) (WT q)
def OV(i:Nat)(hN:ϵc (ð p)):Ϧ (Ϭh<|Â<|ð p) (dB i):=λ_ _=>psI (Cp hN) (ϲK Si)
def gL(h:ϴi c ta)(A:Ϲ8 sa f)(B:Ϲ8 sb g):Ϧ (.If c sa sb pos) (sIf ta f g):=ũ psI (Wq Ŷ ϴX ϸx) (ZV q)
def Af(i:Nat)(h:Ϧ st f):Ϧ st (pq i f):=ũ psI Ŷ (WQ q)
def bQ(n:X.à)(hi:á X.N=Ď)(a:ϲg x)(h:ï e fa)(S:à (ϫH (Â<|ð p) pos.line X.Ü=ϥs))(f:ϕ (ϳg\/ϱW=Â ο)):Ϧ (ϴZ [ð p] e pos) (ax i fa):=ũ psI (SK n hi a Ŷ S f) (Kc (Dh hi) q)
def Vr(h:ï e fa)(hg:ϥg X)(S:à (ϭ1 tg))(w:à (Ϯg tg))(a:à (Ϫw tg)):Ϧ (ϴZ [tg] e pos) (K_ fa gg):=ũ psI (Bl Ŷ (Ϻg H) S w a) (Rc q)
def Gi(n:X.à)(hi:á X.N=Ď)(a:ϲg x)(h:ï e fa)(j:ώb ti)(hg:Υ->ϩ ti gd)(f:ϕ (ϳg\/ϱW=Â ο)):Ϧ (Ϯ7<|ð p) (EU i gd fa):=ũ psI (Tg n hi a Ŷ j f) (Wb (Dh hi) Ϻg q)
def bt{it:Fi}(C:ϗ)(p:PassesOwn ϳQ X.A X.Ü X.xe)(hi:ϸf iter it)(hg:ϥg X)(B:Ϲ8 body f)(S:ϸZ):Ϧ ϗw (bZ it gg f):=ũ psI (Sr p C (hi m H) (Ϻg H) ϸx S) (WB q)
def nW(p:PassesOwn ϳQ X.A X.Ü X.xe)(h:ϴi c ta)(B:Ϲ8 body f):Ϧ Ϙl (dX ta f):=ũ psI (Mo p Ŷ ϸx) (Od q)
variable{x:Str}{p ap cp:Pos}
def OB{id:String}(slot:Slot "list" name id)(y:typeOf (Ρ id)=pure (Ω "method_descriptor"))(c:ϔk)(j:ā o to)(A:ϱT [e] t)(k:∀D a H,ϮQ D a H->wN (tBM M.K "list" r to t) D a H)(b:ώ5)(w:Μ ((ϵ8<|æ [e]).all Ϲz&&ϦV&&Õ (Ã ([e]:À On)+Ã ([]:À Keyword)+(Ë ([]:À Keyword).isEmpty 0 1)<30)))(h:ϤV)(S:æ [e]=ϰG (æ []))(l:ϰX (ϵ8<|æ []))(s:ϦY (ϴL o name ap) [e] cp)(m:Υ):ϲb (.Expr (ϱb (ϴL o name ap) [e] cp) pos) ϮQ:=by let q:=Ϙq slot y c j A b w h S l;rw[m]at q;show psI (CB q s) k
def O8(h:ï e fa)(S:æ [e]=ϰG (æ []))(m:Υ)(H:ϥC):ϱT [e] (ϸX<|ϧC fa):=f7 Ŷ tZ S
def uI(i:Nat)(h:ï e fa)(hN:ϵc (ð p))
  (hbase:à (Ϫt (ð p) "append"))
  (hfew:à (Μ<|(ϵ8<|æ [e]).all Ϲz&&ϦV&&Õ (Ã ([e]:À On)+Ã ([]:À Keyword)+(Ë ([]:À Keyword).isEmpty 0 1)<30)))
  (hline:à ϤV) (hs:à (æ [e]=ϰG (æ []))) (hplain:à (ϰX<|ϵ8<|æ []))
  (hsw:à (ϦY (ϴL (ð p) "append" ap) [e] cp)):ϭU (ð p) "append" (jD i fa):=ϦB (ϕo hN (ϲK X6) hbase hfew hline hs hplain hsw hK)
def B7(i:Nat)(h:ï e fa)(hN:ϵc (ð p))
  (hbase:à (Ϫt (ð p) "extend"))
  (hfew:à (Μ<|(ϵ8<|æ [e]).all Ϲz&&ϦV&&Õ (Ã ([e]:À On)+Ã ([]:À Keyword)+(Ë ([]:À Keyword).isEmpty 0 1)<30)))
  (hline:à ϤV) (hs:à (æ [e]=ϰG (æ []))) (hplain:à (ϰX<|ϵ8<|æ []))
  (hsw:à (ϦY (ϴL (ð p) "extend" ap) [e] cp)):ϭU (ð p) "extend" (Es i fa):=ϦB (ϕp hN (ϲK Wa) hbase hfew hline hs hplain hsw hK)
def Ep(i:Nat)(hb:ï b fb)(h:ï e fa)(hix:xB b)(hN:ϵc (ð p))(hbase:à (Ϫt (ŕ (ð p) b p2) "append"))(hfew:à (Μ<|(ϵ8<|æ [e]).all Ϲz&&ϦV&&Õ (Ã ([e]:À On)+Ã ([]:À Keyword)+(Ë ([]:À Keyword).isEmpty 0 1)<30)))(hline:à ϤV)(hs:à (æ [e]=ϰG (æ [])))(hplain:à (ϰX<|ϵ8<|æ []))(hsw:à (ϦY (ϴL (ŕ (ð p) b p2) "append" ap) [e] cp)):ϭU (ŕ (ð p) b p2) "append" (ui i fb fa):=ϦB (ϕo ϖE (ϲK OM) hbase hfew hline hs hplain hsw hK)
def NG(i:Nat)(hg:ϥg X)(hN:ϵc (ð p))(hbase:à (Ϫt (ð p) "pop"))(hline:à ϤV)(hs:à (swapsWithSole [tg] (ϱb (ϴL (ð p) "pop" ap) [] cp) pos.line X.Ü=ϥs))(hw:à (swappedStores [tg] (ϱb (ϴL (ð p) "pop" ap) [] cp) X.Ü=ϔX))(h1:à (Ϫw tg)):
  Ϧ (ϴZ [tg] (ϱb (ϴL (ð p) "pop" ap) [] cp) pos) (IH i gg):=ϗj (Ux (apos:=ap) (cpos:=cp) K8H PySem.F.slot_list_pop PySem.F.type_list_pop TN hN hbase hline) (Bl q (hg hK hM) hs hw h1) s_pop
def tX(i:Nat)(hb:ï b fb)(h:ï e fa)(hN:ϵc (ð p))(hs:à (ϭ1<|ŕ (ð p) b p2))(hw:à (Ϯg<|ŕ (ð p) b p2))(ha:autoParam (∀v,ϧU (ŕ (ð p) b p2) v=(do
   let ov <-holding [v] (eval (.Name x p) X.Ü)
   let iv <-holding [v,ov] (eval b X.Ü)
   standAt p2
   holding [v,ov,iv] (setItem ov iv v)
   release [v,ov,iv] [])) mqad.é)(h1:à (Ϫw<|ŕ (ð p) b p2)):Ϧ (ϴZ [ŕ (ð p) b p2] e pos) (xj i fb fa):=ϦB (ϕD ((ϲK Xe)))
variable{outs:À ϴM}{it:Fi}
def MZ:DF M X [] aT:=λ_ _=>λi s a H Q I q=>NW i s a H Q I (by let(F,b,f,S,p):=q;show p F H ϯb)
def VH(h:ϴi c ta):DF M X [c] ta:=λm H=>Uq Ŷ
end
def oI(i:Int):Ĭ:=þ<|Ä i
def oB(b:Bool):Ĭ:=þ<|ã b
def oD(d:Gc):Ĭ:=.ok Ř
def a_:ϰd
 |.int i,.int j=>oI<|i+j
 |.str x,.str y=>Ë ϐu (oD (Ė<|x++y)) Î
 |.list xs,.list ys=>Ë ϪP (.ok (Ę ϭe)) Î
 |_,_=>Î
def cO:ϰd|.int i,.int j=>oI<|i-j|_,_=>Î
def jH(i j:Int):Bool:=ϛj ϷP
def cX:ϰd
 |.int i,.int j=>Ë ϫM (oI (i*j)) Î
 |.list xs,.int k=>@ite _ (Μ<|Õ (-ϷH<=k)&&Õ (k<ϷH)&&Õ (xs.À*k.Ò<=Tk)) ϷP (ģ<|(ϳ3 k.Ò xs).flatten.map OD.sh) Î
 |_,_=>Î
def ip:ϰd
 |.int i,.int j=>Ë (0<j) (oI (i%j)) Î
 |_,_=>Î
def kq:ϰd|.int i,.int j=>@ite _ ϐR ϷP (oI Ϥp) Î|_,_=>Î
def bA:Gc->Ĭ|.int i=>oI<|-i|_=>Î
def gLt:ϰd|.int i,.int j=>oB<|Õ<|i<j|_,_=>Î
def gLe:ϰd|.int i,.int j=>oB<|Õ<|i<=j|_,_=>Î
def gGt:ϰd|.int i,.int j=>oB<|Õ<|j<i|_,_=>Î
def gGe:ϰd|.int i,.int j=>oB<|Õ<|j<=i|_,_=>Î
def k7(x y:Gc):ϵN:=Ë (Μ (SeqAt.shaped x&&SeqAt.shaped y)) (Ħ (PyData.eqv x y)) Î
def eqD:Gc->Gc->ϵN|.int i,.int j=>.ok<|Õ<|i=j|.str x,.str y=>.ok<|Õ<|x=y|.bool x,.bool y=>.ok<|Õ<|x=y|x,y=>k7 x y
def gEq(x y:Gc):Ĭ:=ó (eqD x y) λb=>oB b
def gNe(x y:Gc):Ĭ:=ó (eqD x y) λb=>oB<|!b
def FW(x y:Gc):Ĭ:=match y with
 |.none=>oB (match x with| .none=>true|_=>false)
 |_=>Î
def lE(o:Ü Gc):Ĭ:=match o with
 |some d=>oD d
 |none=>Î
def J0:ϰd
 |.list xs,.int i=>lE<|atI xs i
 |.tuple xs,.int i=>lE<|atI xs i
 |.str z,.int i=>Ë (z.À<=Tk) (lE (Ê ϐ1 λc=>Ė ϥt)) Î
 |_,_=>Î
def cutD(X:À Gc)(lo hi:Ü Int):À Gc:=ł (X.ä<|ϯm 0 lo)<|ϭ0 X.À
def l6(x:Gc)(lo hi:Ü Int):Ĭ:=match x with
 |.list xs=>.ok<|Ę<|cutD xs lo hi
 |_=>Î
def ba:À Gc->Ĭ
 |[.list xs]=>oI xs.À
 |[.tuple xs]=>oI xs.À
 |[.str x]=>Ë (x.À<=Tk) (oI x.À) Î
 |_=>Î
def yP:À Gc->Ĭ
 |[.int i,.int j]=>oI (ϻe<|j<i)
 |_=>Î
def A6:À Gc->Ĭ
 |[.int i,.int j]=>oI (ϻe<|i<j)
 |_=>Î
def dN:À Gc->Ü (À Int)|[]=>Â []|.int i::r=>Ê (dN r) (i:: ·)|_::_=>none
def dN'{i r}:dN (Ä i::r)=(Ê (dN r) (i:: ·)):=rfl
def l_:∀ns:À Int,dN ō=Â ns:=by
 induction _ with|nil=>show rfl|cons n ns N3=>rw[K9w,dN',N3];rfl
theorem tW:∀{d:À Gc}{ns:À Int},dN d=Â ns->d=ō:=by
 induction _ with
 |nil=>ext ns h;cases h;rfl
 |cons d r ih=>ext ns h;cases d with|int i=>rw[dN']at h;let(ms,H,rfl):=Ϲ7;rw[ih H];rfl|_=>cases h
def uB:Int->À Int->Int|m,[]=>m|m,n::ns=>uB (ϷY<|m<n) ns
def uB'{m n ns}:uB m Ϥs=(uB (ϷY<|m<n) ns):=rfl
def Ca:Int->À Int->Int|m,[]=>m|m,n::ns=>Ca (ϷY<|n<m) ns
def Ca'{m n ns}:Ca m Ϥs=(Ca (ϷY<|n<m) ns):=rfl
def lP:À Gc->Ĭ
 |[.list ds]=>match dN ds with
  |some (n::ns)=>oI ύ4
  |_=>Î
 |_=>Î
def mN:À Gc->Ĭ
 |[.list ds]=>match dN ds with
  |some (n::ns)=>oI ύ5
  |_=>Î
 |_=>Î
def mB:À Gc->Ĭ
 |[.list ds]=>match dN ds with
  |some ns=>oI ns.Ğ
  |_=>Î
 |_=>Î
def mM:À Gc->Ĭ|[.list ds]=>ģ ϶a|[.tuple ds]=>ģ ϶a|_=>Î
def yY(d:À Gc)(y:Gc):Ĭ:=match y with
 |.int z=>match dN d with
  |some ns=>Ë ϸI (oI ϧy) Î
  |none=>Î
 |_=>Î
def Rv:Gc->Ü String|.int _=>some "int"|.bool _=>some "bool"|.str _=>some "str"|.list _=>some "list"|.tuple _=>some "tuple"|.none=>some "NoneType"|.dict _=>none
def Qo(T:String)(d:Gc):όt:=match Rv d with
 |some U=>if ϩt\/ϭ4 then Â (Õ ϏS)else none
 |none=>none
def Ja(T:String)(x:Gc):Ĭ:=match Qo T x with
 |some b=>oB b
 |none=>Î
section
variable{M:Mx}{X:Cx}
def okI{i:Int}(s:ϰP)(p:Ĉ fp Ϸ (oI i)):Q (Ä i) H:=Ϻ0<|Ä i
def okB(s:ϰP)(p:Ĉ fp Ϸ (oB i)):Q (.bl i) H:=Ϻ0<|.bl i
def opL{r:À V->Hp->Ú VK}{f:À Gc->Ĭ}{k:À Gc->Ĭ}(h:∀x,f x=match x with|[.list d]=>k d|_=>Î)(q:∀{a xs d F H g Q},ϰP->RdK M.K F a xs->϶B F xs d->Ĉ g Ϸ (k d)->r [É a] H Q):ϦP r f:=by
 ext x dx F H g Q s R p;rw[h]at p;cases R with
 |nil=>show ú
 |cons h r=>
  cases h with
  |lst h1 h2=>cases r with|nil=>show q s h1 h2 p|cons _ _=>show ú
  |_=>show ú
def opG{r:R2}{f:ϰd}{k:ϱu Int Ĭ}(h:∀x y,f x y=match x,y with|.int i,.int j=>k i j|_,_=>Î)(q:∀{i j F H g Q},ϰP->Ĉ g Ϸ (k i j)->r (Ä i) (Ä j) H Q):ϩ r f:=by
 ext x y dx dy F H g Q s R Y p;rw[h]at p;cases R with
 |int i=>cases Y with|int j=>show q s p|_=>show ú
 |_=>show ú
def R5(K:At):R2:=ϰj (∃l b X zs,x=É l/\y=É b/\ϸt l X/\ϸt b zs/\ŀ (ϻU X.À)/\∀p,ϵw->Q (É p) (ļ p<|ô<|X++zs))
def PR:ϴC Add (R5 X.K):=by
 ext p s f H x y v u Q I R Y h;let(l,b,S,zs,rfl,rfl,c,B,Z,q):=h;cases R;cases Y;let(z,t,n,r,d,e):=c.obj I;let(j,i,N,m,L,g):=B.obj I;show PySem.P.add_list e g ?_ (Ϲ K9W K9W);let a:t.Æ++i.Æ=Ϻo (t++i):=Û
 rw[a];show(É _,_,I.lnew (t':=s.ã) (r.đ m) (Ă K9v),rfl,q _ I.Õ)
def Rw(K:At):R2:=ϰj (rI0 (λi j=>Ä<|i+j) x y H Q\/(∃i j,x=Ė i/\y=Ė j/\ŀ (i.À+j.À)/\Q (Ė<|i++j) H)\/R5 K x y H Q)
def l8:ϴC Add (Rw X.K):=UZ.or<|Gg.or PR
def qJ(m:Υ):ϩ (Rw X.K) a_:=by
 rw[m];ext x y dx dy F H f Q s R Y p;cases R with
 |int _=>cases Y with|int _=>show Ð ⟨_,_,rfl,rfl,ϸu⟩|_=>show ú
 |str i=>cases Y with|str j=>show Ø<|Ð ⟨_,_,rfl,rfl,lj (ϱO).1,ϒh (ϱO).2<|Ė _⟩|_=>show ú
 |lst h1 h2=>cases Y with|lst h3 h4=>show Ø<|Ø ⟨_,_,_,_,rfl,rfl,ϔY,h3.Î s,Ζ ϴQ Ϭq (lj (ϱO).1),λa A=>OkE.lstD s (ϱO).2 (E5.app h2 h4) A⟩|_=>show ú
 |_=>show ú
def FR:ϩ (rI0 λi j=>Ä<|i-j) cO:=Ϧ0 okI
def O6{i j:Int}(h:ϫM):M5 i j:=(ϭX ϷP).mp h
def RK(K:At):R2:=λx y H Q=>∃l k X,x=É l/\y=Ä k/\ϸt l X/\-ϷH<=k/\k<ϷH/\ŀ (X.À*k.Ò)/\
 ∀p,ϵw->Q (É p) (ļ p<|ô (ϤN (ϳ3 k.Ò X)))
def OS:ϴC Mult (RK X.K):=by
 ext p s E H x y v u Q I R Y h;let(l,k,D,rfl,rfl,B,j,A,Z,q):=h;cases R;let(t,rfl):=Y;let(z,i,n,r,C,e):=B.obj I;let L:ŀ Ϗ6:=by rw[K9W,<-C];show Z
 let c:¬Ϗ6 > (ϷH-1) / 8:=by
  let:ϱB sizeLine<=(ϷH-1) / 8:=Ý
  lia
 let f:¬(!Builtin.List.listFitsIndex k)=true:=Ô (fitsIndex_both j A) K9o
 let o:¬ϴ Builtin.List.listTooLong Ϗ6:=Ô (DH L) K9o
 let w:ϖF (ϳ3 (Ë (Μ i.toArray.isEmpty) 0 k.Ò) i.Æ) (ϳ3 k.Ò i):=by
  let g:∀m:Nat,ϖF (϶1 i.Æ) (϶1 i):=λm=>ϱC (foldl_rep i m []) K9B
  rw[g];cases i with|nil=>simp|cons a r'=>rw[P3 Û]
 apply wpAny_binaryOp_repeat_ref (T:="list") (U:="int") Ý ϧW (λS=>typeIs_int S k t) noFill_list_mul F.fills_int_mul F.slot_int_rmul repeat_list F.slot_int_index.lookup
  (K86 F.slot_int_rmul (typeIs_int s k t) F.entry_int_rmul (F.args_int_rmul_2 _ _) (int___rmul___int_list k t l i.Æ n)
   ⟨e,rfl,ϧW,K86 F.slot_list_mul ϧW F.entry_list_mul (F.args_list_mul_2 _ _) (AutoListH.list___mul___list_int_3 l i.Æ n k t f c o) ϔl⟩)
 rw[w];show(É _,_,I.lnew (t':=s.ã) (r.rep k.Ò) (by rw[len_rep,Zdp];show Z),rfl,q _ I.Õ)
def RN(K:At):R2:=ϰj (rI M5 (λi j=>Ä<|i*j) x y H Q\/RK K x y H Q)
def ym:ϴC Mult (RN X.K):=Sq.or OS
def E5.rep{K:At}{F:Hp}{s:À V}{d:À Gc}(h:ž s d):∀k:Nat,ž ((ϤN (ϳY s))) ((ϤN (ϳY d)))|0=>õ|k+1=>ϗC E5.app E5.rep
def Cb(m:Υ):ϩ (RN X.K) cX:=by
 rw[m];ext x y dx dy F H f Q s R Y p;cases R with
 |int _=>cases Y with|int _=>show Ð ⟨_,_,rfl,rfl,O6 (ϱO).1,okI s (ϱO).2⟩|_=>show ú
 |lst h1 h2=>
  cases Y with
  |int _=>
   let(C,p):=ϱO;rw[K9U,K9U,K9k,K9k,K9k]at C;show Ø ⟨_,_,_,rfl,rfl,ϔY,C.1.1,C.1.2,Ô ϴQ (lj C.2),λa A=>ϫA (E5.rep h2 _) A⟩
  |_=>show ú
 |_=>show ú
def SM:ϩ (Ϩ0 (0<j)<|λi j=>Ä<|i%j) ip:=Ϫu
def Tt:ϩ (rI YN λi j=>Ä Ϥp) kq:=Ϫu
def Fh:Ok1 M (rU λi=>Ä<|-i) bA:=by
 ext x dx F H f Q s R p;cases R with|int _=>show(_,rfl,ϸu)|_=>show ú
def MP:ϩ (Ϲy<|Õ<|i<j) gLt:=Ϧ0 okB
def W5:ϩ (Ϲy<|Õ<|i<=j) gLe:=Ϧ0 okB
def MS:ϩ (Ϲy<|Õ<|j<i) gGt:=Ϧ0 okB
def RG:ϩ (Ϲy<|Õ<|j<=i) gGe:=Ϧ0 okB
def E5.to2{K:At}{H:Hp}{s:À V}{d:À Gc}(h:ϵM s d):Ϙr->L2.E5 K H s d:=ϧe (λv d _=>Μ d.Ħ->L2.Rep K H v d) (λv d _=>Ϙr->L2.E5 K H v d) (Ţ Β) (λb _=>ϵO) (λi _=>Ä i) (λx _=>Ė x) (λh _ i c=>ô h.sq ϖy) (λh _ i c=>Ī (SqT.of h) ϖy) (λ_ _ _ _ c=>by erw[dD]at c;rw[PyData.canLay0]at c;cases c) (Ţ õ) (λ_ _ i j c=>by rw[PyData.canLayAll0,K9U]at c;show ą (i c.1)<|j c.2)
def Rep.to2{K:At}{H:Hp}{v:V}{d:Gc}(h:Ŀ H v d)(c:Μ d.Ħ):L2.Rep K H v d:=by cases E5.to2 (ą h õ) (by rw[PyData.canLayAll0,c];rfl);assumption
def Wz(K:At):R2:=ϰj (rEq x y H Q\/Xy K x y H Q)
def V_(K:At):R2:=ϰj (rNe x y H Q\/YW K x y H Q)
def Lo(U:ϷT 64):ϵ7 Eq (Wz X.K):=YQ.or<|U7 U
def vQ(U:ϷT 64):ϵ7 NotEq (V_ X.K):=Wg.or<|Uc U
def Kp{K:At}{F H:Hp}{f:À Ix}{x y:V}{dx dy:Gc}{P:Bool->Prop}(R:Ŀ F x dx)(Y:Ŀ F y dy)(p:Ĉ f P (eqD dx dy)):
  (ϓy/\P (Õ<|x=y))\/(Ϻ4 dx/\Ϻ4 dy/\P (Ϭx dx dy)):=by
 let D:Ĉ f P (k7 dx dy)->Ϻ4 dx/\Ϻ4 dy/\P (Ϭx dx dy):=λp=>by let(h,p):=ϱO;rw[K9U]at h;show(h.1,h.2,p)
 cases R with
 |int i=>
  cases Y with
  |int j=>
   show Ð (Ϸy ?_);rw[show Õ (ϥI V.int)=Õ (i=j) by
    cases h:i=j
    .rw[h];simp
    rw[ϷD,ϧ7 V.int.inj]]
   show p
  |_=>show Ø<|D p
 |str i=>
  cases Y with
  |str j=>
   show Ð (Ϸy ?_);rw[show Õ (ϥI V.str)=Õ (i=j) by
    cases h:i=j
    .rw[h];simp
    rw[ϷD,ϧ7 V.str.inj]]
   show p
  |_=>show Ø<|D p
 |bl i=>
  cases Y with
  |bl j=>
   show Ð (Ϸy ?_);rw[show Õ (ϥI V.bl)=Õ (i=j) by
    cases h:i=j
    .rw[h];simp
    rw[ϷD,ϧ7 V.bl.inj]]
   show p
  |_=>show Ø<|D p
 |_=>show Ø<|D p
def Q5(m:Υ):ϩ (Wz X.K) gEq:=by
 rw[m];ext x y dx dy F H f Q s R Y p;rcases Kp R Y Ϸc with⟨h,q⟩|⟨a,b,q⟩
 .show Ð ⟨h,okB s q⟩
 show Ø ϕq
def AO(m:Υ):ϩ (V_ X.K) gNe:=by
 rw[m];ext x y dx dy F H f Q s R Y p;rcases Kp R Y Ϸc with⟨h,q⟩|⟨a,b,q⟩
 .show Ð ⟨h,okB s q⟩
 show Ø ϕq
def H_{K:At}{F:Hp}{S:À V}{s:À Gc}{i:Int}{d:Gc}(h:ž S s)(e:atI s i=ϰN):∃v,atI S i=ĥ/\Ŀ F v d:=by
 erw[atI]at e⊢;rw[E5.í h];cases q:ixN s.À i with
 |none=>rw[q]at e;cases e
 |some j=>rw[q]at e;let(v,H,a):=E5.get h e;show(v,H,a)
def azL{M H f P}{o:Ü Gc}(p:Ĉ f P (lE o)):∃d,o=ϰN/\Ĉ f P (oD d):=by
 cases o with|none=>show ú|some d=>show(d,rfl,p)
def Ac(m:Υ):ϩ (rIx X.K) J0:=by
 rw[m];ext x y dx dy F H f Q s R Y p;cases R with
 |lst h1 h2=>
  cases Y with
  |int i=>let(d,h,p):=azL p;let(v,e,r):=H_ h2 h;show Ð ⟨_,_,_,v,rfl,rfl,ϷW,e,Ϻ0 r⟩
  |_=>show ú
 |tup h1 h2=>
  cases Y with
  |int i=>let(d,h,p):=azL p;let(v,e,r):=H_ h2 h;show Ø<|Ð ⟨_,_,_,v,rfl,rfl,ϑq,e,Ϻ0 r⟩
  |_=>show ú
 |str z=>
  cases Y with
  |int i=>let(a,p):=ϱO;let(d,h,p):=azL p;let(c,C,rfl):=Ϲ7;show Ø<|Ø ⟨_,_,c,rfl,rfl,lj a,C,Ϻ0<|Ė _⟩
  |_=>show ú
 |_=>show ú
def fW(m:Υ):OkS M (Y0 X.K) l6:=by
 rw[m];ext x lo hi dx F H f Q s R p;cases R with
 | @lst a vs ds h1 h2=>
  show(a,vs,rfl,ϷW,λq h=>?_);show ϫA ?_ h;erw[NS,cutD];rw[ϴQ];show E5.Ö _<|E5.ä _ h2
 |_=>show ú
def Ry(K:At):À V->Hp->Ú VK:=ϷB ((∃p y,X=[É p]/\(μ p y\/Ϲ3 p y)/\Q (Ä y.À) H)\/(∃z,X=[Ė z]/\ŀ z.À/\Q (Ä z.À) H))
def Je:ϳM (Ρ "len") (Ry X.K):=B4.or Cs
def Um(m:Υ):ϻD Ry ba:=by
 rw[m];ext x dx F H f Q s R p;cases R with
 |nil=>show ú
 |cons h r=>
  cases r with
  |cons _ _=>cases h<;>show ú
  |nil=>
   cases h with
   |lst h1 h2=>show Ð ⟨_,_,rfl,Ð ϷW,Ô ϴQ ϸu⟩
   |tup h1 h2=>show Ð ⟨_,_,rfl,Ø ϑq,Ô ϴQ ϸu⟩
   |str x=>show Ø ⟨_,rfl,lj (ϱO).1,okI s (ϱO).2⟩
   |_=>show ú
def CW{K:At}{F:Hp}{x:À V}{i j:Int}(r:ž x [Ä i,Ä j]):x=[Ä i,Ä j]:=by
 cases r with
 |cons h r=>
  cases h;cases r with|cons h r=>cases h;cases r;rfl
def Qy:ϦP (ϷB<|∃i j,X=[Ä i,Ä j]/\Q (Ä (ϻe<|j<i)) H) yP:=by
 ext x dx F H f Q s R p;cases R with
 |nil=>show ú
 |cons h r=>
  cases h with
  |int i=>
   cases r with
   |nil=>show ú
   |cons g r=>
    cases g with
    |int j=>cases r with|nil=>exact(_,_,rfl,ϸu)|cons _ _=>show ú
    |_=>show ú
  |_=>show ú
def OC:ϦP (ϷB<|∃i j,X=[Ä i,Ä j]/\Q (Ä (ϻe<|j > i)) H) A6:=by
 ext x dx F H f Q s R p;cases R with
 |nil=>show ú
 |cons h r=>
  cases h with
  |int i=>
   cases r with
   |nil=>show ú
   |cons g r=>
    cases g with
    |int j=>cases r with|nil=>exact(_,_,rfl,ϸu)|cons _ _=>show ú
    |_=>show ú
  |_=>show ú
def se:∀(ns:À Int)(m:Int),uB m ns∈m::ns/\∀z∈m::ns,z<=uB m ns:=by
 induction _ with
 |nil=>ext m;show(K9z,ϖz)
 |cons n ns N3=>
  ext m;let(a,H):=N3 (ϷY<|m<n);rw[uB'];let M:m<=(ϷY<|m<n):=ϧN
  let N:n<=(ϷY<|m<n):=ϧN
  let l:=H _ K9z;show(?_,ϨP)
  .rcases K8v.mp a with h|h
   .rw[h]
    split<;>simp
   simp[h]
  rcases K8v.mp Z with rfl|Z
  .lia
  rcases K8v.mp Z with rfl|Z
  .lia
  show H z<|ě Z
def vL:∀(ns:À Int)(m:Int),Ca m ns∈m::ns/\∀z∈m::ns,Ca m ns<=z:=by
 induction _ with
 |nil=>ext m;show(K9z,ϖz)
 |cons n ns N3=>
  ext m;let(a,H):=N3 (ϷY<|n<m);rw[Ca'];let M:(ϷY<|n<m)<=m:=ϧN
  let N:(ϷY<|n<m)<=n:=ϧN
  let l:=H _ K9z;show(?_,ϨP)
  .rcases K8v.mp a with h|h
   .rw[h]
    split<;>simp
   simp[h]
  rcases K8v.mp Z with rfl|Z
  .lia
  rcases K8v.mp Z with rfl|Z
  .lia
  show H z<|ě Z
def vv{K:At}{F:Hp}{x:À V}{d:À Gc}{ns:À Int}(s:ϲu H')(r:ž x [Ï d])(e:dN d=Â ns):∃a,x=[É a]/\SqL K H' a ϱE:=by
 cases r with
 |cons h r=>
  cases r;cases h with|lst h1 h2=>rw[tW e]at h2;rw[ϧ3]at h1;show(_,rfl,ϷW)
def xV(k:Υ):ϻD RY lP:=by
 rw[k];show Ϫz;cases e:dN d with
 |none=>rw[e]at p;show ú
 |some q=>
  rw[e]at p;cases q with
  |nil=>show ú
  |cons n ns=>rw[tW e]at h2;rw[ϧ3]at h1;show(a,Ϥs,rfl,ϷW,Û,λm b c=>?_);let(K,d):=se ns n;let e:ύ4=m:=Zdh (c _ K)<|d _ b;rw[<-e];show ϸu
def uO(k:Υ):ϻD R6 mN:=by
 rw[k];show Ϫz;cases e:dN d with
 |none=>rw[e]at p;show ú
 |some q=>
  rw[e]at p;cases q with
  |nil=>show ú
  |cons n ns=>rw[tW e]at h2;rw[ϧ3]at h1;show(a,Ϥs,rfl,ϷW,Û,λm b c=>?_);let(K,d):=vL ns n;let e:ύ5=m:=Zdh (d _ b)<|c _ K;rw[<-e];show ϸu
def sL(m:Υ):ϻD Q6 mB:=by
 rw[m];show Ϫz;cases e:dN d with
 |none=>rw[e]at p;show ú
 |some ns=>rw[e]at p;rw[tW e]at h2;rw[ϧ3]at h1;show(a,ns,rfl,ϷW,ϸu)
def Sk(m:Υ):ϻD Xh mM:=by
 rw[m];ext x dx F H f Q s R p;cases R with
 |nil=>show ú
 |cons h r=>
  cases r with
  |cons _ _=>cases h<;>show ú
  |nil=>
   cases h with
   |lst h1 h2=>show(_,_,rfl,Ð ϷW,λl a=>ϫA h2 a)
   |tup h1 h2=>show(_,_,rfl,Ø ϑq,λl a=>ϫA h2 a)
   |_=>show ú
def EV(T:String)(a:Fe):Fe:=λb=>ι λx=>Ja T x.er
def Rx(K:At)(T:String):À V->Hp->Ú VK:=ϷB (∃x d b,X=[x,.ty T]/\Ŀ H x d/\Qo T d=ϧ/\Q ϵO H)
def Tj{K:At}{T U:String}(h:ϕw)(k:ϩt\/ϭ4):kitOne K (Ω U) (Ω T)=Â (Õ ϏS):=by rcases h with rfl|rfl|rfl|rfl|rfl|rfl<;>rcases k with rfl|rfl|rfl|rfl|rfl<;>rfl
def Jy{K:At}{T U:String}{d:Gc}{b:Bool}(H:Rv d=some U)(h:ϕw)(e:Qo T d=ϧ):kitOne K (Ω U) (Ω T)=ϧ:=by
 erw[Qo]at e;rw[H]at e;let e':(if ϩt\/ϭ4 then Â (Õ ϏS)else none)=ϧ:=e;cases k:ϩt\/ϭ4
 .rw[Os k]at e'
  rw[<-e'];show Tj h k
 rw[P3 k]at e';cases e'
end
section
variable{M:Mx}{X:Cx}{e a b c:On}{pos:Pos}
def Iq(T:String):ϳM (Ρ "isinstance") (Rx X.K T):=by
 ext P s g H S U Q I r h;let(x,d,b,rfl,R,e,q):=h;let(u,v,rfl,L,V):=Vals.two r;cases V;let fin:∀tk,ϵW P g Q (ã b) {s with toks:=tk}:=λtk=>⟨ϵO,H,I.tok tk,rfl,q⟩
 cases R with
 |non=>
  cases(ϥO<|u=Value.none);show ϮR PySem.W.kitx_none (ύV Û e) ϳU fin
 |bl y=>
  cases(ϥO<|u=Value.bool y);show ϮR PySem.W.kitx_bool (ύV Û e) ϳU fin
 |int i=>
  let(t,c):=(ϥO ϐB)
  cases c;show ϮR PySem.W.kitx_int (ύV Û e) ϳU fin
 |str y=>
  let(t,c):=(ϥO<|∃t,u=Value.str y t)
  cases c;show ϮR PySem.W.kitx_str (ύV Û e) ϳU fin
 |@lst a S ds h1 h2=>
  cases(ϥO<|u=ϹA);let(_,f,n,_,_,he):=h1.obj I;show K8V PySem.W.kitx_list I.kIn (ϲi he) (Jy (d:=Ï ds) rfl Û e) ϳU fin
 |@tup a S ds h1 h2=>
  cases(ϥO<|u=ϹA);let(_,_,_,p):=(ύ (Ϲn H s.Ì a (Ī S))<|I.hok a _ h1)
  let(o,k,K,_):=p;show K8V PySem.W.kitx_tuple I.kIn ⟨o,k,K⟩ (Jy (d:=Ą ds) rfl Û e) ϳU fin
 |dct _ _ _=>have e':(none:όt)=ϧ:=e;cases e'
private def Yt(h:ď (EV T fa) σ H Q):tCB (Rx M.K T) (iA (ď fa)<|ϸX (tC<|.ty T)) σ H Q:=by
 let(F,a,f,S,p):=h;show(F,a,f,S,Ń Ϯp);let(G1,D,k):=ϲO w;erw[Ja]at px;split at px
 .rename_i b B
  show(v,x.er,b,rfl,k.Î D.fh,B,ϪA px ϵO)
 cases px
def Fj(hg:γ "isinstance")(a:X.mg "isinstance"=none)(g:γ x)(m:ϥm)(t:Ϲj=Â (Ω T))(h:ï e fa)(n:ϱD Ϲe)(d:ϲz)(S:à (æ [e,ð p2]=ϰG (æ [ð p2])))(s:à (æ [ð p2]=Ϲg (ð p2) (æ [])))(l:à (ϰX<|ϲD<|æ [ð p2])):
  ï (ϳP "isinstance" [e,ð p2]) (EV T fa):=λk H=>by
 let q:=Eu (p:=p) (pos:=pos) (Iq T) hg a wB (f7 (h k H) (f7 (O4 (v:=V.ty T) (pos:=p2) g m t rfl n d) tZ s) S) Ý Ý S l;rw[k]at q;show peI q (ϭt (Yt z))
def IJ(a b:Fe):Fe:=λc=>ó (a c) λx=>match x.er with
 |.list ds=>ó (b c) ϯo
 |_=>Î
private def zk(A:ï a fa)(h:ï e fb)(b:à (attributeBase a "index" X.Ü ϰI=ϰI))(f:à (Μ<|(ϵ8<|æ [e]).all Ϲz&&ϦV&&Õ (Ã ([e]:À On)+Ã ([]:À Keyword)+(Ë ([]:À Keyword).isEmpty 0 1)<30)))(i:à ϤV)(s:à (æ [e]=ϰG (æ [])))(l:à (ϰX<|ϵ8<|æ [])):
  ï (ϱb (ϴL a "index" ap) [e] cp) (IJ fa fb):=λm n=>by
 let q:=Ϙq PySem.F.slot_list_index PySem.F.type_list_index Nc (A m n) (f7 (h m n) tZ s) b f i s l;show peI q λJ H Q h=>?_;let(F,k,g,S,p):=h;show(F,k,g,S,Ń λx px v u C I e1 r W=>?_);let(G1,D,K):=ϲO W;generalize x.er=d at px K;cases K with
 |@lst a' vs ds h1 h2=>
  let j:Ĉ g Ϸ (ó (fb k) ϯo):=px;show(Ð ⟨rfl,vs,ϥi (ϹI D.fh)⟩,G1,k,g,Ϲ6,Ů ((az.ï j).ext D) λy py w B G Y E R t=>?_);let(G2,c,o):=R.Ė E t;erw[yY]at py;generalize y.er=d' at py o;cases o with
  |int z=>
   let P:Ĉ g Ϸ (match dN ds with|some ns=>Ë ϸI (oI ϧy) Î|none=>Î):=py
   split at P
   .rename_i ns N
    split at P
    .rename_i Z
     rw[tW N]at h2;rw[ϧ3]at h1;show(a',ns,z,rfl,rfl,ϥi ((h1.Î c.ff).same c.fh).sq,Z,ϛA<|Ä _)
    .cases P
   .cases P
  |non=>show py.Ä
  |bl _=>show py.Ä
  |str _=>show py.Ä
  |dct _ _ _=>show py.Ä
  |lst _ _=>show py.Ä
  |tup _ _=>show py.Ä
 |non=>show px.Ä
 |bl _=>show px.Ä
 |int _=>show px.Ä
 |str _=>show px.Ä
 |dct _ _ _=>show px.Ä
 |tup _ _=>show px.Ä
end
theorem wA{K:At}{F H:Hp}(m:Nat):∀{v:À V}{s:À Gc},ž v s->ϰy (v.Ç some++϶1 none) ((s.Ç λd=>Â ϥX)++϶1 none) []
 |_,_,.nil=>by
  change ϰy (϶1 none) (϶1 none) [];let:=Z1.nones (K:=K) (F:=F) (H:=H) m õ;rw[K9d,K9d]at this;show this
 |_,_,.cons h r=>ϖG<|wA m r
theorem fn3{P:Do}{w:Ev}{K:At}{g:Ŏ}{base:Op}{x qual:Str}{T:No}{f:Ix}{fd:Fk}{N b:À Str}{k:Nat}{body:Fs}(F:ϮO)(S:Fq N b ϵI)
  (h:∀(c:Db)(A:Go)(outer:À PySem.Env)(s:Da)(H:Hp)(E:XK),ϦW ϵI->DSs όu (Ϗb g) ϩL body):
  ϳ5 g base y_ (k+1) f fd b (ϩi g<|aZ b.À N.À body):=by
 let C:ώG b.À:=by
  let:=Ż S.pre;rw[K9f]at this;lia
 let l:ϕk:=by
  ext e H Q E ⟨F,D,sm,R,p⟩;cases L:D.À=b.À
  .rw[ώj]
   show L
  erw[aZ]at p;rw[P3 L]at p;cases p
 show F.ok S l λc A outer s H e Q E hr n=>?_;let V:=l _ _ _ _ n;let(t,D,sm,R,p):=n;let d:D.À=b.À:=Ϙ ώj V
 erw[aZ]at p;rw[Os d]at p;show(_,ϏH,t,zS N.À D,[],(sm,?_,K8w,ϰq,?_),Ń Ϩy)
 .unfold L2.start zS
  rw[V,d];show wA _ R
 .unfold zS
  change ϔj;rw[K9v,K0,K8r,d];lia
 cases o with
 |nx ρ=>show λG i j B u T=>po Β i j [] ⟨T.ff,Ϧy (ϻb Û),u.same,λa q z=>Ϧs q Û z⟩ (Res.sh Β) ϰq
 |rt y=>exactλv i j fx sm' r T=>po v i j fx ⟨T.ff,Ϧy (ϻb Û),sm',λa q z=>Ϧs q Û z⟩ r λa m=>ϵb (T.new a m) ϯf id
 |bk ρ=>show po.Ä
 |ct ρ=>show po.Ä
def Iz{K:At}{M I:Ŏ}{S:Da}{g:À Db}{ns:À Int}(X:K.In S.Ì)(p:S.ġ mainGlobals M)(B:S.ġ builtinsNs I)(D:∀x:Str,Ϲe->I x=Ϲj)(L:S.heap.NoLimit)(hg:S.Ĭ=#[])(A:S.Ë a=Â ((Ċ "list" (δ g.Æ))))(hi:IntsAre g ns)(T:ŀ ns.À)(hr:ϴh callerA)(F:∀base:Op,K.In base->ϐQ M->ϳ5 M base CX k fa fd [x] sp)(i:∀(s:Da)(u:Db),ϥj ((ϱc [u])) [(x,u)])(G:∀H:Hp,U6 H->ϸt a ϱE->sp [É a] H (λv _=>v=ϬA) ϧI)(C:∀H e c,CX [] H S ϧI e c->False):
  ϸB ϻv callerA (.call (É fa) (ϱc [É a])) (λr c=>r=ϩc (ã true)/\Ϗg) S:=by
 let U:=ou hi;let y:=hi.À;let core:∀H:Hp,U6 H->ϸt a ϱE->ϩq H S.Ì->(∀b,H b≠none->b=a)->(Ϩx->όX=none)->
   ϸB ϻv callerA (.call (É fa) (ϱc [É a])) (λr c=>r=ϩc (ã true)/\Ϗg) S:=by
  ext H R hS O Q hK;let f:∀{b:Ix}{o:Obj},ϒB=Ö->ϰ6->ϰV ϫq b=Ö:=λe n=>Kv e n;let J:∀{b:Ix}{o:Obj}{j:Η DictEntry}{E:Nat},ϒB=Ö->o.data=.dict j E->ϰ6:=fun{b o j E} e d=>by
   cases q:H b with
   |none=>rfl
   |some u=>
    let e':b=a:=Q b (ϳk q);subst e';rw[A]at e;cases e;let d':Data.seq g.Æ _=Data.dict j E:=d;cases d'
  let N:∀{b:Ix}{m:Ŏ},S.ġ b m->(ϫq).Ns b m:=fun{b m}⟨o,j,E,e,d,r⟩=>⟨o,j,E,f e<|J e d,d,r⟩
  let l:K.In ϫq:=λb o e=>f (X b o e) (by
   cases q:H b with
   |none=>rfl
   |some u=>
    let e':b=a:=Q b (ϳk q)
    subst e';rw[hK<|ϳk q]at e;cases e)
  let hM:Mod K M ϫq:=⟨l,N p,⟨I,N B,D⟩,let⟨mc,h1,h2⟩:=L;⟨mc,N h1,h2⟩⟩;let W:ϔg M ϫq callerA [] S H:=⟨rfl,hM,ϲ0 (Qw e),Nat.le_of_eq<|Jw _ _,trivial,λb B=>ĭ (show b∈([]:À Ix)from B) Û,O,.of_eq hg⟩
  show codeAny_mono ((F _ l<|N p).run callerA [] S H (ϱc [É a]) [É a] [É a] _ _ hr W (i S<|É a) (ą rfl õ)<|G H R hS) λr c h=>?_;cases r with
  |error e=>show ϵb (C H e c h)
  |ok fl=>
   cases fl with
   |next=>show ϒY
   |brk=>show ϒY
   |cont=>show ϒY
   |ret u=>
    let(v,H',os,bare,un,t,r',q):=h;let q':v=ϬA:=q;subst q';obtain rfl:u=Value.bool true:=r';show(rfl,OldK.of_keep (ϲ0 ?_),os,bare);cases q:H b with
    |none=>show un.ĉ b o e q (by ext z;show ĭ (ύ (b∈([]:À Ix)) z) Û) Û
    |some u=>
     rcases R b with z|⟨ob,xs,z⟩
     .rw[q]at z;cases z
     .let z2:=un.frzs b ob _ z
      let(e1,_):=O b _ z;let(Y,_):=t b _ z2;rw[e]at e1;cases e1;show Y
 cases hk:K.Ð a with
 |some o=>have e:=X a o hk;rw[A]at e;cases e;apply core Ϸb (λ_=>Ð rfl) (Ø ⟨g.Æ,_,hk,by rw[K9W,y];show T,ϮZ⟩) (λb u z=>by let Z:(none:Ü HO)=ķ:=z;cases Z) (λb z=>Ϡ z) λz=>Ϡ z
 |none=>
  show core (λb=>if b=a then some (.frz (Ċ "list" (δ g.Æ))<|ô ϱE)else none) (λb=>?_) (Ð<|Ø ⟨Ċ "list" (δ g.Æ),Ĝ⟩) (λb u z=>?_) (λb z=>?_) λ_=>hk
  .by_cases B:b=a
   .show Ø ⟨_,_,Os B⟩
   show Ð<|P3 B
  .by_cases B:b=a
   .let Z:=(Os B).symm.trans z
    cases Z;subst B;show(A,by rw[K0];show T,g,_,U,A)
   let Z:=(P3 B).symm.trans z;cases Z
  cases B:b=a
  .show B
  show ĭ (P3 B) z
def Li{l:PySem.W.OpenLaw}{P:Ŏ->Ú Op}{y:Ev->Ú Op}{d:DefRec}{K:Params->At}{CX:Ev->CXT}{sp:Ev->Sp}(A:l.most=ϵL)(N:όq)(D:ϐF)(hr:ϴh callerA)(t:∀(w:Ev)(h:Op),y w h->(ϻB).In h)(F:∀(w:Ev)(m:Ŏ)(fa:Ix)(h:Op),(ϻB).In h->Ϻ8 m->m d.name=Â (É fa)->
   ϔ1 (CX w) (sp w))(p:∀(w:Ev)(H:Hp)(a:Ix)(ns:À Int),ϯ7->U6 H->RdK ϻB H a ϱE->sp w [É a] H (λv _=>v=ϬA) ϧI)(C:∀(w:Ev)(H:Hp)(s:Da)(e:Db)(c:Da),CX w [] H s ϧI e c->False):
  ϘO y l.Č d [] (λf i=>ϒU i):=by
 show Att.DU A D λw s₀ S m M fa o pm cd doc a i ns G Y O E z g b hints L hg=>?_;let X:=t w _ Y;let(fd,B,j):=F w m fa _ X G.T.g g;show Iz X G.T.g G.T.b G.T.builtins G.T.nolimit hg b hints (K9C L N) hr j B (λH R r=>p w H a ns L R r) λH e c=>C w H S e c
def WH{l:PySem.W.OpenLaw}{P:Ŏ->Ú Op}{Y:Ev->Ú Op}{d:DefRec}{K:Params->At}(N:l.most=Â 63)(g:ϐF)(hr:ϴh callerA)(A:∀(w:Ev)(h:Op),Y w h->(ϻB).In h)(B:∀ns:À Int,ns.À<=63->fn [Ï ō]=þ (ã true))(F:∀(w:Ev)(m:Ŏ)(fa:Ix)(h:Op),(ϻB).In h->Ϻ8 m->m d.name=Â (É fa)->
   ϔ1 y_ (sp3 ϻB m fn)):
  ϘO Y l.Č d [] (λf V=>ϒU V):=by
 show Li (n:=63) (k:=k) (x:=x) (CX:=Ţ y_) (sp:=λw V H Q E=>∃F D x,ϰP/\E5 ϻB F V D/\fn D=ϴ2/\OkE ⟨ϻB,Ϸb,E⟩ F H Q x) N Ý g hr A (λw m fa h a b c=>?_) (λw H a ns L _ S=>?_) λ_ _ _ _ _ z=>z
 .let(fd,o,t):=F w m fa h a b c
  show(fd,o,λbase C nb=>(t base C nb).imp ?_);ext V H Q E ⟨F0,D,y,sm,ra,e,p⟩;show(F0,D,sm,ra,?_);rw[e];exactλv i j X=>p v i j X
 show(H,[Ï ō],_,ϰ2,ą (ô S<|E5.ofInts ns) õ,B ns L,?_);ext v i j X e r w;cases r.own with|sh q=>cases q;rfl
def bD{P:Do}{w:Ev}{K:At}{m:Ŏ}{base:Op}{x qual:Str}{T:No}{f:Ix}{fd:Fk}{N p:À Str}{k np n:Nat}{body:Fs}{fn:Fn}(a:fn=aZ np n body)(d:p.À=np)(b:ϔs)(F:ϮO)(S:Fq N p ϵI)
  (h:∀(c:Db)(A:Go)(outer:À PySem.Env)(s:Da)(H:Hp)(E:XK),ϦW ϵI->DSs όs (Ϗf ϵI) ϩL body):
  ϳ5 m base y_ (k+1) f fd p (ϩi m fn):=by
 subst a d b;show fn3 F S h
def tQ:Passes y_ X E:=λ_ _ _ _ _ _ _ h=>h.Ä
def Dg:ϰd|.int i,.int j=>oI<|i+j|_,_=>Î
def EK:ϩ (ipI ϔe) Dg:=Ϧ0 okI
end L3
namespace L3
open PySem L2
def UT(i:Int):Ja "int" (Ä i)=oB true:=rfl
def Ug(i:Int):Ja "bool" (Ä i)=oB false:=rfl
def V0(i:À Gc):Ja "tuple" (Ą i)=oB true:=rfl
def aaf:ϳt 0:=Ý
def ZM:ϳt 1:=Ý
def Zu:ϳt 2:=Ý
def ZG:ϳt 3:=Ý
theorem MJ(I:Nat->Ú Env):∀(s:À Gc)(k:Nat)(a:Env),I k a->(∀(i:Nat)(d:Gc)(a:Env),ϵT=ϰN->I (k+i) a->∃j c,g Ř a=.ok j/\(b j=Ħ (.nx c)\/b j=Ħ (.ct c))/\I (k+i+1) c)->
  ∃f,ϴf s a=Ħ (.nx f)/\I (k+s.À) f:=by
 induction _ with
 |nil=>ext k a h _;show(a,rfl,h)
 |cons d s N3=>
  ext k a h T;let(j,c,l,H,m):=T 0 d a rfl h;let(f,e,n):=N3 (k+1) c m λi d' a D hi=>ϱC (T (i+1) d' a (by simpa using D) (Ϸ0<|ê (k+(i+1)=k+1+i))) (ê (k+(i+1)+1=k+1+i+1))
  show(f,?_,by rw[K9p,ê (k+ϒr=k+1+s.À)];show n);rw[aY',l,cB];rcases H with H|H
  .rw[H,cB]
   show e
  rw[H,cB];show e
def Iw(S:Nat->Ú Env)(H:S 0 c)(T:∀(i:Nat)(d:Gc)(c:Env),ds[i]?=ϰN->S i c->∃f j,g Ř c=.ok f/\(b f=Ħ (.nx j)\/b f=Ħ (.ct j))/\ϥT j):
  ∃a,ϴf ds c=ϹH/\ϓG a:=by
 let(a,e,h):=MJ S ds 0 c H λi d c D hi=>by rw[K87]at hi⊢;show T i d c D hi
 show(a,e,by rw[K87]at h;show h)
def cI{lo:Int}(h:á (ky lo n)=ϰN):i<n/\d=Ä (lo+i):=by
 erw[ky]at h;rw[N2]at h;let(j,J,rfl):=Ϲ7;let(H,a):=ϩw;let f:i=j:=ϑv
 subst f;show(Ϻ3,rfl)
def gF(lo:Int)(n:Nat):Ã (ky lo n)=n:=ϧ9 ky
def IT(h:ϲU n ρ=.ok o):dX t b ρ=.ok o:=by
 let mono:∀(n:Nat)(ρ:Env),ϲU n ρ≠Î->∀m,n<=m->ϲU m ρ=ϲU n ρ:=by
  ext n
  induction n with
  |zero=>ext ρ H;show Ϡ H
  |succ n ih=>
   ext ρ H m M;obtain⟨m,rfl⟩:∃k,m=k+1:=⟨m-1,Á⟩
   rw[ft']at H⊢;rw[ft'];cases ht:t ρ with
   |bad=>rfl
   |ex c=>rfl
   |ok c=>
    rw[ht,cB]at H;rw[cB,cB];cases c with
    |false=>rfl
    |true=>
     rw[Ĝ]at H⊢;rw[Ĝ];cases hb:b ρ with
     |bad=>rfl
     |ex c=>rfl
     |ok o=>
      rw[hb,cB]at H;rw[cB,cB];cases o with
      |nx ρ2=>show ih ρ2 H m Á
      |ct ρ2=>show ih ρ2 H m Á
      |bk ρ2=>rfl
      |rt x=>rfl
 erw[dX];let X:∃n,ϲU n ρ≠Î:=⟨n,by rw[h];exact ϯf⟩
 rw[dif_pos X];let e1:=mono n ρ (by rw[h];exact ϯf) (n+X.ĥ) Á;let g:=mono X.ĥ ρ X.į (n+X.ĥ) Á;rw[<-g,e1,h]
def JS(I:Nat->Ú Env)(Q:Ú Env)(T:∀m c,I m c->(t c=϶8/\Q c)\/(t c=ϵs/\∃d M,(b c=Ħ (.nx d)\/b c=Ħ (.ct d))/\M<m/\I M d)):∀(m:Nat)(c:Env),I m c->∃a,dX t b c=ϹH/\Q a:=by
 let go:∀(m:Nat)(c:Env),I m c->∃n a,ϲU n c=ϹH/\Q a:=by
  ext m
  induction m using Nat.strongRecOn with
  |ind m ih=>
   ext c h;rcases T m c h with⟨f,H⟩|⟨f,d,M,H,g,i⟩
   .exact(1,c,by rw[ft',f];rfl,H)
   let(n,a,e,q):=ih M g d i;show(n+1,a,?_,q);rw[ft',f,cB,Ĝ];rcases H with H|H
   .rw[H,cB]
    show e
   rw[H,cB];show e
 ext m c h;let(n,a,e,q):=go m c h;show(a,IT e,q)
def WN:Ü (Ü OD)->Ĭ|some (some<|.sh d)=>.ok Ř|_=>Î
def opK(g:ϰd)(r s:Ĭ):Ĭ:=ϴw (λx=>s.ï λy=>Ϩi)
def unK{α β:Type}(g:ώf)(r:ϲ4):R β:=ϴw g
def S9(r:ϵN)(b:Ft)(a:Env):ϵN:=ϴw (λc=>Ë ϱs (b a) ϶8)
def orK(r:ϵN)(b:Ft)(a:Env):ϵN:=ϴw (λc=>Ë ϱs ϵs (b a))
def PY(r:ϵN)(b:Fe)(a:Env):Ĭ:=ϴw (λc=>Ë ϱs (b a) (þ (ã false)))
def orV(r:ϵN)(b:Fe)(a:Env):Ĭ:=ϴw (λc=>Ë ϱs (þ (ã true)) (b a))
def ifV(r:ϵN)(a b:Fe)(d:Env):Ĭ:=ϴw (λc=>Ë ϱs (a d) (b d))
def ifK(r:ϵN)(a b:Fs)(d:Env):ϲs:=ϴw (λc=>Ë ϱs (a d) (b d))
def R3(r:Ĭ)(s:R (À OD)):R (À OD):=ϴw (λx=>s.ï λX=>.ok ϦC)
def Sg(r:ϲs)(b:Fs):ϲs:=r.ï λo=>match o with
 |.nx ρ'=>b ρ'
 |o=>.ok o
def WU(r:Ĭ)(g:Fg)(b:Env):ϲs:=ϴw (λx=>ó (g x b) λa=>ϹH)
def W7(r:R (À Gc))(g:Fg)(b:Fs)(a:Env):ϲs:=ϴw (λd=>ϴf d a)
def RT(r:R (À Gc))(g:Fg)(t:Ft)(e:Fe)(a:Env):Ĭ:=ϴw (λd=>ó (ϥu d []) λX=>ģ X)
def slK(g:Gc->ϱu (Ü Int) Ĭ)(a:Ĭ)(l h:R (Ü Int)):Ĭ:=a.ï λx=>l.ï λi=>h.ï λj=>ϔo
def UB(a:Ĭ)(b:Fe)(c:Env):Ĭ:=a.ï λx=>match x.er with
 |.list ds=>ó (b c) ϯo
 |_=>Î
def Xf(o:Ü (Ü OD))(a:Ĭ)(i:Nat)(b:Env):ϲs:=match o with
 |some (some<|.ol xs)=>unK (λy=>Ë ϒX (ϵ b.ß ϬH) Î) a
 |_=>Î
def RZ:Ü (Ü OD)->ϲs|some (some x)=>ϴK|_=>Î
def Wr(o:Ü (Ü OD))(i:Nat)(a:Env):Env:=match o with
 |some (some x)=>Ϲm<|Â Ϭb
 |_=>a
def UQ(r:ϲs):Ĭ:=r.ï λo=>match o with
 |.rt x=>ϴ2
 |.nx _=>þ ò
 |_=>Î
def Ym(o:Ü (Ü OD))(g:ϰd)(a:Ĭ)(i:Nat)(b:Env):ϲs:=match o with
 |some (some<|.sh d)=>unK (λy=>unK (λz=>ų<|ϻh<|Â z)<|g d y.er) a
 |_=>Î
section
variable{ρ:Env}{s t:Ft}
def v_var(i:Nat):aa i ρ=WN Ϸw:=rfl
def v_c(d:Gc):eC d ρ=Ħ Ř:=rfl
def aad(g:ϰd):F4 g a b ρ=opK g ϰm ϵS:=rfl
def Yc(r:ϲ4)(g:ώf):ϴw g=unK g r:=rfl
def Zg(g:Gc->Ĭ):eUn g a ρ=϶Z (g x.er):=rfl
def TZ:aD a ρ=϶Z ϵn:=rfl
def Vh:p_ s t ρ=S9 ϩN t ρ:=rfl
def Xv:pZ s t ρ=orK ϩN t ρ:=rfl
def Sx:nI s ρ=unK (λc=>.ok<|!c) ϩN:=rfl
def tru(r:Ĭ):ϵN:=unK (λx=>ϵn) r
def v_and:Ao a b ρ=PY (tru ϰm) b ρ:=by
 erw[Ao,tru];cases a ρ with
 |ok x=>
  change ó ϵn _=PY ϵn b ρ;cases truth x.er with
  |ok c=>cases c<;>rfl
  |ex c=>rfl
  |bad=>rfl
 |ex c=>rfl
 |bad=>rfl
def v_or:eOr a b ρ=orV (tru ϰm) b ρ:=by
 erw[eOr,tru];cases a ρ with
 |ok x=>
  change ó ϵn _=orV ϵn b ρ;cases truth x.er with
  |ok c=>cases c<;>rfl
  |ex c=>rfl
  |bad=>rfl
 |ex c=>rfl
 |bad=>rfl
def v_not:Ap a ρ=unK (λc=>þ<|ã<|!c) (tru ϰm):=by
 erw[Ap,tru];cases a ρ with
 |ok x=>
  change ó ϵn _=unK _ ϵn;show Yc _ _
 |ex c=>rfl
 |bad=>rfl
def Z_:eIf s a b ρ=ifV ϩN a b ρ:=rfl
def MA:ai ρ=Ħ []:=rfl
def xH:ae a r ρ=R3 ϰm (r ρ):=rfl
def XA:d_ r ρ=ϯZ (Ë ϯ8 (Ħ (mkT X)) Î):=rfl
def XE:bO r ρ=ϯZ (Ë ϯ8 (ģ X) Î):=rfl
def Ss:aj f r ρ=ϯZ (f ϳf):=rfl
def v_b:eB f r ρ=ϯZ (f ϳf):=rfl
def Zc:Rs a ρ=϶Z (þ x.er):=rfl
def v_bor:pX a ρ=unK (λx=>flc x.er<|þ x.er) (a Ϭs):=rfl
def V6:Gk s ρ=s Ϭs:=rfl
def RF:OD->Ĭ
 |.ol xs=>Ë (ϴ xs.all Ϻ9) (ģ ϮG) Î
 |_=>Î
def SH:mE a ρ=unK RF (a Ϭs):=rfl
def WY:erase []=[]:=rfl
def YS(x:OD):erase (Ď::ρ)=Â Ϭb::Ϭs:=rfl
def Y_:erase (none::ρ)=none::Ϭs:=rfl
def Oo:iN ρ=.ok none:=rfl
def RM:ϤR (Ü Int)|.int i=>.ok ϸy|_=>Î
def PC:d8 a ρ=϶Z (RM x.er):=rfl
def Zo:eSl g a l h ρ=slK g ϰm (l ρ) (h ρ):=rfl
def lstK:ϤR (À Gc)|.list ds=>ϩF|_=>Î
def tupK:ϤR (À Gc)|.tuple ds=>ϩF|_=>Î
def r1K:ϤR (À Gc)
 |.int j=>Ë (ϵQ aE) ϧn Î
 |_=>Î
def enK:ϤR (À Gc)|.list ds=>.ok<|fC ds|_=>Î
def V4:bY a ρ=϶Z (lstK x.er):=rfl
def ET:iTp a ρ=϶Z (tupK x.er):=rfl
def Zp:iR1 a ρ=϶Z (r1K x.er):=rfl
def Zm:iEn a ρ=϶Z (enK x.er):=rfl
def SQ(g:Gc->ϤR (À Gc))(r s:Ĭ):R (À Gc):=ϴw (λx=>s.ï λy=>Ϩi)
def Zv:iR2 a b ρ=SQ r2F ϰm ϵS:=rfl
def Zb:iZp a b ρ=SQ O2 ϰm ϵS:=rfl
def WW(i:Nat)(x:OD):K2 i x ρ=.ok (ϰs Ď):=rfl
def Yk:bB [] ρ=Ħ ρ:=rfl
def X8:ar g r ϩh ρ=unK (λa=>r xs a) (g x ρ):=rfl
def YT:gTp n r (.sh<|Ą ds) ρ=Ë (ds.À=n) (r ϶a ρ) Î:=rfl
def VR{it:Fi}:aP it g t a k outs ρ=RT (it ρ) g t a (ϒW ρ):=rfl
def Wm:ϒW ρ=ϳY none++ϵC (λi=>Cd Ϸw):=rfl
def Zk:sNx ρ=ų ρ:=rfl
def Xm:ao p q ρ=Sg (p ρ) q:=rfl
def YJ:K_ a g ρ=WU ϰm g ρ:=rfl
def Xa(i:Nat):ax i a ρ=϶Z (ų<|ϰs Ď):=rfl
def Tn:AF a ρ=unK (λ_=>ų ρ) ϰm:=rfl
def YG:bF a ρ=϶Z ϴK:=rfl
def Vy(i:Nat):dB i ρ=RZ Ϸw:=rfl
def XR:sIf s p q ρ=ifK ϩN p q ρ:=rfl
def YE(i:Nat):pq i p ρ=p (Ox i ρ):=rfl
def VT(i:Nat):Ox i ρ=Wr Ϸw i ρ:=rfl
def Xl(i:Nat):EU i g a ρ=Ym Ϸw g ϰm i ρ:=rfl
def XC(i:Nat):jD i a ρ=Xf Ϸw ϰm i ρ:=rfl
def Xc{it:Fi}:bZ it g p ρ=W7 (it ρ) g p ρ:=rfl
def Xj(T:String):EV T a ρ=϶Z (Ja T x.er):=rfl
def WJ:IJ a b ρ=UB ϰm b ρ:=rfl
def W_:aZ np n p ds=Ë (ds.À=np) (UQ (p<|zS n ds)) Î:=rfl
def Xk(d:Gc):WN (some<|Â Ř)=Ħ Ř:=rfl
def aag:opK g ϴ2 ϶A=Ϩi:=rfl
def We:SQ g ϴ2 ϶A=Ϩi:=rfl
def ZA:unK g ϴ2=g x:=rfl
def UG:S9 ϵs t ρ=t ρ:=rfl
def UC:S9 ϶8 t ρ=϶8:=rfl
def Wj:orK ϵs t ρ=ϵs:=rfl
def W6:orK ϶8 t ρ=t ρ:=rfl
def PZ:PY ϵs a ρ=ϰm:=rfl
def O0:PY ϶8 a ρ=þ (ã false):=rfl
def Tp:orV ϵs a ρ=þ (ã true):=rfl
def VS:orV ϶8 a ρ=ϰm:=rfl
def UA:ifV ϵs a b ρ=ϰm:=rfl
def Ua:ifV ϶8 a b ρ=ϵS:=rfl
def XN:ifK ϵs p q ρ=p ρ:=rfl
def YO:ifK ϶8 p q ρ=q ρ:=rfl
def VI:R3 ϴ2 (.ok xs)=Ħ ϩh:=rfl
def Xp:Sg (ų ρ) p=p ρ:=rfl
def So:Sg ϴK p=ϴK:=rfl
def Yx:WU ϴ2 g ρ=unK (λa=>ϹH) (g x ρ):=rfl
def Wv:W7 ϩF g p ρ=aY g p ds ρ:=rfl
def UM:RT ϩF g t a ρ=unK (λX=>ģ X) (ϭv a ρ ds []):=rfl
def ZZ:slK g ϴ2 (.ok i) (.ok j)=ϔo:=rfl
def X2:Xf (some<|Â ϱp) ϶A i ρ=Ë ϒX (ϵ ρ.ß ϬH) Î:=rfl
def T1:RZ (Â Ď)=ϴK:=rfl
def WK:Wr (Â Ď) i ρ=ϰs (Â Ϭb):=rfl
def SV:UQ ϴK=ϴ2:=rfl
def Sj:UQ (ų ρ)=þ ò:=rfl
def XU(x:OD):tru ϴ2=ϵn:=rfl
def O1(c:Bool):truth (ã c)=.ok c:=rfl
def YC:UB (þ<|Ï ds) b ρ=unK ϯo ϵS:=rfl
def W9:Ym (some<|Â Ř) g ϶A i ρ=unK (λz=>ų<|ϰs<|Â z) (g d y.er):=rfl
def Yo(d:À Gc):lstK (Ï d)=.ok d:=rfl
def Mc(d:À Gc):tupK (Ą d)=.ok d:=rfl
def Zs(d:À Gc):enK (Ï d)=Ħ (fC d):=rfl
def ZT(j:Int):r1K (Ä j)=Ë (ϵQ aE) ϧn Î:=rfl
def Zz(i j:Int):r2F (Ä i) (Ä j)=Ë (ϻf aE) (Ħ (ky i (ĩ (j-i)))) Î:=rfl
def XF(d e:À Gc):O2 (Ï d) (Ï e)=Ħ (gq d e):=rfl
def UO(i:Int):RM (Ä i)=Ħ ϸy:=rfl
def Vn(n:Nat)(s:À Gc):zS n s=(s.Ç λd=>Â ϥX)++ϳ3 (n-s.À) none:=rfl
def Yu(d:Gc):Cd (some<|Â Ř)=Â Ř:=rfl
def Yp(d:Gc):mkT [Ř]=.sh (Ą [d]):=rfl
def Yd(d e:Gc):mkT [Ř,.sh e]=.sh (Ą [d,e]):=rfl
def Xu(d e f:Gc):mkT [Ř,.sh e,.sh f]=.sh (Ą [d,e,f]):=rfl
def Yl(i j:Int):a_ (Ä i) (Ä j)=.ok (Ñ<|i+j):=rfl
def WC(i j:Int):cO (Ä i) (Ä j)=.ok (Ñ<|i-j):=rfl
def Y2(i j:Int):cX (Ä i) (Ä j)=Ë ϫM (.ok (Ñ<|i*j)) Î:=rfl
def XT(i j:Int):ip (Ä i) (Ä j)=Ë (0<j) (.ok (Ñ<|i%j)) Î:=rfl
def WV(i j:Int):kq (Ä i) (Ä j)=@ite _ ϐR ϷP (.ok<|Ñ Ϥp) Î:=rfl
def YD(i:Int):bA (Ä i)=.ok (Ñ<|-i):=rfl
def ZK(i j:Int):gLt (Ä i) (Ä j)=þ (ã<|Õ<|i<j):=rfl
def Zt(i j:Int):gLe (Ä i) (Ä j)=þ (ã<|Õ<|i<=j):=rfl
def ZE(i j:Int):gGt (Ä i) (Ä j)=þ (ã<|Õ<|j<i):=rfl
def ZD(i j:Int):gGe (Ä i) (Ä j)=þ (ã<|Õ<|j<=i):=rfl
def ZU(i j:Int):gEq (Ä i) (Ä j)=þ (ã<|Õ<|i=j):=rfl
def Z6(i j:Int):gNe (Ä i) (Ä j)=þ (ã<|! Õ (i=j)):=rfl
def Sn(i j:Int):Dg (Ä i) (Ä j)=.ok (Ñ<|i+j):=rfl
def Xz(X:À Gc)(i:Int):J0 (Ï X) (Ä i)=lE (Ť X i):=rfl
def Y8(X:À Gc)(i:Int):J0 (Ą X) (Ä i)=lE (Ť X i):=rfl
def KL(X:À Gc):ba [Ï X]=.ok (Ñ X.À):=rfl
def SR(X:À Gc):ba [Ą X]=.ok (Ñ X.À):=rfl
def Se(x:Str):ba [Ė x]=Ë (x.À<=Tk) (.ok (Ñ x.À)) Î:=rfl
def Tr(i j:Int):yP [Ä i,Ä j]=.ok (Ñ<|ϻe<|j<i):=rfl
def NT(i j:Int):A6 [Ä i,Ä j]=.ok (Ñ<|ϻe<|i<j):=rfl
def E_(n:Int)(ns:À Int):lP [Ï<|int n::ō]=.ok (Ñ ύ4):=by
 change(match dN (Ê Ϥs int)with|some (n::ns)=>oI ύ4|_=>Î)=_;rw[l_];rfl
def L8(n:Int)(ns:À Int):mN [Ï<|int n::ō]=.ok (Ñ ύ5):=by
 change(match dN (Ê Ϥs int)with|some (n::ns)=>oI ύ5|_=>Î)=_;rw[l_];rfl
def lh(ns:À Int):mB [Ï ō]=.ok (Ñ ns.Ğ):=by
 change(match dN ō with|some ns=>oI ns.Ğ|_=>Î)=_;rw[l_];rfl
def SU(d:À Gc):mM [Ï d]=ģ ϫp:=rfl
def MM(ns:À Int)(z:Int)(h:ϸI):yY ō (Ä z)=.ok (Ñ ϧy):=by
 change(match dN ō with|some ns=>Ë ϸI (oI ϧy) Î|none=>Î)=_;rw[l_];change(Ë ϸI (oI ϧy) Î)=_;rw[ϰo];rfl
def Wu(X:À Gc)(i j:Ü Int):l6 (Ï X) i j=.ok (Ę<|ϲd X i j):=rfl
def Th(d:Gc):lE ϰN=Ħ Ř:=rfl
def at0(x:α)(X:À α):Ť ϦC 0=Ď:=by let:Ť ϦC ((ä 0))=Ď:=de rfl;show this
def at1(x y:α)(X:À α):Ť (x::y::X) 1=ϰO:=by let:Ť (x::y::X) ((ä 1))=ϰO:=de rfl;show this
def at2(x y z:α)(X:À α):Ť (x::y::z::X) 2=Â z:=by let:Ť (x::y::z::X) ((ä 2))=Â z:=de rfl;show this
def W0(c:Bool):oB c=þ (ã c):=rfl
end
def EC{i j:Int}(h:ϐv<i)(H:Ϙ4):ϫM:=(ϭX ϷP).mpr<|Ð ⟨Á,Á⟩
def FG{i j:Int}(h:ϐv<j)(H:j<18446744073709551616):ϫM:=(ϭX ϷP).mpr<|Ø ⟨Á,Á⟩
def dJ{i:Int}(h:-4611686018427387904<=i)(H:i<4611686018427387904):aE i=true:=iw.ó ⟨Á,Á⟩
def c8(h:n<1000):(n<Tk)=True:=ϸF (K9P h Ý)
def aF(h:n<=1000):(n<=Tk)=True:=ϸF (K9C h Ý)
def dP(i:Int){j:Int}(h:0<j):0<=i%j/\i%j<j:=⟨Int.emod_nonneg _ Á,Int.emod_lt_of_pos _ h⟩
def Fd(X:À α)(i:Int)(a:0<=i)(h:i<X.À):∃x,X[i.toNat]?=Ď/\Ť X i=Ď:=by
 obtain⟨j,rfl⟩:∃j:Nat,i=j:=⟨i.Ò,Á⟩
 let J:όZ:=Á
 show(X[j],ϓ6,de ϓ6)
def MX(l:ϴf ds j=r)(S:Nat->Ú Env)(H:S 0 j)(T:∀(i:Nat)(d:Gc)(j:Env),ds[i]?=ϰN->S i j->∃c f,g Ř j=.ok c/\(b c=Ħ (.nx f)\/b c=Ħ (.ct f))/\ϥT f):
  ∃a,r=ϹH/\ϓG a:=by
 let(a,e,h):=Iw S H T;show(a,by rw[<-l,e],h)
def qS(S:Ú Env):Ú ϲs|.ok (.nx ρ)=>S ρ|.ok (.ct ρ)=>S ρ|_=>False
def Xd:qS S (ų ρ)=S ρ:=rfl
def GP(h:qS S (unK b r)):∃a d,r=.ok a/\(b a=Ħ (.nx d)\/b a=Ħ (.ct d))/\S d:=by
 cases r with
 |ok a=>
  let h':qS S (b a):=h;cases hb:b a with
  |ok o=>
   rw[hb]at h';cases o with|nx d=>show(a,d,rfl,Ð hb,h')|ct d=>show(a,d,rfl,Ø hb,h')|bk _=>show h'.Ä|rt _=>show h'.Ä
  |ex _=>rw[hb]at h';show h'.Ä
  |bad=>rw[hb]at h';show h'.Ä
 |ex c=>show h.Ä
 |bad=>show h.Ä
def aX{P:Prop}(L:ϴf ds j=r)(S:Nat->Ú Env)(H:S 0 j)(T:∀(i:Nat)(d:Gc)(j:Env),ds[i]?=ϰN->S i j->qS ϥT (unK b<|g Ř j))(fin:∀f,r=Ħ (.nx f)->ϓG f->P):P:=by
 let(f,e,h):=MX L S H λi d j D s=>by let(k,l,a,b,c):=GP<|T i d j D s;show(k,l,a,b,c)
 show fin f e h
def sP{P:Prop}(L:dX t b f=r)(I:Nat->Ú Env)(m:Nat)(H:I m f)(Q:Ú Env)(T:∀m f,I m f->(t f=϶8/\Q f)\/(t f=ϵs/\qS (λi=>∃M,M<m/\I M i) (b f)))(fin:∀g,r=ų g->Q g->P):P:=by
 let(g,e,h):=JS I Q (λm f l=>by
  rcases T m f l with h|⟨j,k⟩
  .show Ð h
  let(n,i,a,b,M,c,d):=GP (r:=.ok f) k
  cases a;show Ø ⟨j,i,M,b,c,d⟩) m f H
 show fin g (by rw[<-L,e]) h
def YV(o:Ü (Ü OD))(a k:Ĭ)(i:Nat)(b:Env):ϲs:=match o with
 |some (some<|.ol xs)=>unK (λy=>unK (λz=>match z.er with
  |.int q=>match ϴH q with
   |some j=>ϵ b.ß<|ϲG y
   |none=>Î
  |_=>Î) k) a
 |_=>Î
section
variable{ρ:Env}{a b k:Fe}
def v_sub(i:Nat):xj i k a ρ=YV Ϸw ϰm (k ρ) i ρ:=rfl
def yS{z:Int}(h:ϴH z=ϱ7):YV (some<|Â ϱp) ϶A (.ok<|Ñ z) i ρ=ϵ ρ.ß (ϲG y):=by
 change(match (Đ ϭE).er with
  |.int q=>match ϴH q with
   |some j=>R.ok<|Out.nx<|ϰs<|Ň<|ϲG y
   |none=>Î
  |_=>Î)=_
 rw[bc];change(match ϴH z with
   |some j=>R.ok<|Out.nx<|ϰs<|Ň<|ϲG y
   |none=>Î)=_
 rw[h]
def cW(h:j<n):ixN n Ĵ=ϱ7:=by
 erw[ixN];rw[Os Á,Os Á];simp
def T5(o:Ü (Ü OD))(g:Fg)(i:Nat)(b:Env):ϲs:=match o with
 |some (some<|.ol xs)=>match xs.ī with
  |some (.sh d)=>unK (λa=>ϹH)<|g Ř<|ϻh<|Â<|.ol xs.Ù
  |_=>Î
 |_=>Î
def V8(i:Nat):IH i g ρ=T5 Ϸw g i ρ:=rfl
def M9:T5 (some<|Ň<|xs++[Ř]) g i ρ=unK (λa=>R.ok<|Out.nx a) (g Ř<|ϰs<|Â ϱp):=by
 let h:Ϥa (xs++[ϥX])=Â Ř:=Û
 erw[T5];simp only[h,List.dropLast_concat]
def Yi(o:Ü (Ü OD))(a:Ĭ)(i:Nat)(b:Env):ϲs:=match o with
 |some (some<|.ol xs)=>unK (λy=>match y with
  |.ol ys=>Ë ϪP (ϵ b.ß ϭe) Î
  |_=>Î) a
 |_=>Î
def YY(i:Nat):Es i a ρ=Yi Ϸw ϰm i ρ:=rfl
def L9:Yi (some<|Â ϱp) (.ok ϻW) i ρ=Ë ϪP (ϵ ρ.ß ϭe) Î:=rfl
def BI{z:Int}(h:á ρ=Â (Â ϱp))(H:k ρ=.ok (Ñ z))(f:ϴH z=ϱ7)(c:Ϥu=Â ϻW)(g:ϰm=϶A)(b:ys.À<Tk):
  ui i k a ρ=ϵ ρ.ß (ϲG<|.ol<|ys++[y]):=by
 erw[ui];rw[h,H];simp only[cB,bc,f,c,g,b,K83]
end
def aS(b:aJ g aT el ρ0 ds []=r)(m:α->Gc)(y:α->OD)(L:À α)(e:ds=ύ6)(l:L.À<=Tk)(h:∀x∈L,ϭ9):r=Ħ (L.Ç y):=by
 subst e;rw[<-b];let go:∀(L:À α)(a:À OD),(∀x∈L,ϭ9)->ϭo L.À<=Tk->aJ g aT el ρ0 ύ6 a=Ħ (a++L.Ç y):=by
  ext L
  induction L with
  |nil=>ext a _ _;rw[K9D,aJ'',K9D,K9d]
  |cons x L ih=>
   ext a h l;let H:=h x K9z;rw[K9p]at l;rw[K9w,aJ'];cases hg:g όO ρ0 with
   |ok ρ=>
    rw[hg]at H;let X:el ρ=Ħ (y x):=H;simp only[Jc,cB,aT,K83,X];rw[Os Á,ih (a++[y x]) (λz Z=>h z<|ě Z) (Ϲ K9v K9e),K9w,K9M];rfl
   |ex c=>rw[hg]at H;cases H
   |bad=>rw[hg]at H;cases H
 rw[ϘX ϑl];rfl
def iS(d:ϭv el ρ0 ds []=r)(m:α->Gc)(p:ϱP α)(y:α->OD)(L:À α)(e:ds=ύ6)(l:L.À<=Tk)(h:∀x∈L,unK t (g όO ρ0)=Ħ (p x)/\(ϬS->ϭ9)):r=Ħ (Ê (L.Û p) y):=by
 subst e;rw[<-d];let go:∀(L:À α)(a:À OD),(∀x∈L,unK t (g όO ρ0)=Ħ (p x)/\(ϬS->ϭ9))->ϭo L.À<=Tk->ϭv el ρ0 ύ6 a=Ħ (a++Ê (L.Û p) y):=by
  ext L
  induction L with
  |nil=>ext a _ _;rw[K9D,aJ'',List.filter_nil,K9D,K9d]
  |cons x L ih=>
   ext a h l;let(H,b):=h x K9z;rw[K9p]at l;rw[K9w,aJ'];cases hg:g όO ρ0 with
   |ok ρ=>
    rw[hg]at H b;let X:t ρ=Ħ (p x):=H;let Y:ϬS->el ρ=Ħ (y x):=b;simp only[Jc,cB,X];cases P:p x=true
    .rw[Os P,Y P]
     simp only[cB];rw[Os Á,ih (a++[y x]) (λz Z=>h z<|ě Z) (Ϲ K9v K9e),Zbm P,K9w,K9M];rfl
    rw[P3 P,ih a (λz Z=>h z<|ě Z) Á,Zbb P]
   |ex c=>rw[hg]at H;cases H
   |bad=>rw[hg]at H;cases H
 rw[ϘX ϑl];rfl
def lay(n:Nat)(d:Gc):Prop:=Μ d.Ħ/\d.depth<=n
def Qa(i:Int):lay 0 (Ä i):=(Ϸy ì)
theorem CG:∀{xs:À Gc},ϐ3->PyData.canLayAll0 xs=true/\PyData.depthAll xs<=n:=by
 induction _ with
 |nil=>ext _;show(rfl,ϰS)
 |cons x xs ih=>
  ext h;let(A,a):=h x K9z;let(b1,B):=ih λy Y=>h y<|ě Y;erw[PyData.canLayAll0,PyData.depthAll];rw[A,b1];show(rfl,Á)
def yB(h:ϐ3):lay (n+1) (Ï xs):=by
 let(b1,B):=CG h;show(ϵp PyData.Ħ b1,?_);erw[PyData.depth];lia
def Ji(h:ϐ3):lay (n+1) (Ą xs):=by
 let(b1,B):=CG h;show(ϵp PyData.Ħ b1,?_);erw[PyData.depth];lia
def cG(h:lay n d)(H:n<=64):SeqAt.shaped d=true:=by erw[SeqAt.shaped];rw[K9U];show(h.1,Z8<|K9C h.2 H)
def lay_ints(ns:À Int):lay 1 (Ï ō):=yB λx h=>by let(n,_,rfl):=ϥ5;show Qa n
def n_(a b:À Gc):ϗt (Ï a) (Ï b):=rfl
def AG(h:lay n d)(H:n<=64):k7 d d=ϵs:=by erw[k7];rw[cG h H,K7m,Ĝ,SeqAt.eqv_refl _<|K8Y<|cG h H]
def Kj(h:lay n (Ï a))(H:ϱD (n<=64)):gEq (Ï a) (Ï a)=þ (ã true):=ϰY gEq n_ (AG h H)
def D1(h:lay n (Ï a))(H:ϱD (n<=64)):Ϛt (Ï a)=þ (ã false):=ϰY gNe n_ (AG h H)
def Yb(z:Str)(i:Int):J0 (Ė z) (Ä i)=Ë (z.À<=Tk) (lE (Ê ϐ1 λc=>Ė ϥt)) Î:=rfl
def TF(x y:Str):a_ (Ė x) (Ė y)=Ë ϐu (þ (Ė<|x++y)) Î:=rfl
def kE(x y:À Gc):a_ (Ï x) (Ï y)=Ë ϐu (.ok (Ę<|x++y)) Î:=rfl
def Tz(X:À Gc)(k:Int):cX (Ï X) (Ä k)=@ite _ (Μ<|Õ (-ϷH<=k)&&Õ (k<ϷH)&&Õ (X.À*k.Ò<=Tk)) ϷP (ģ<|(ϳ3 k.Ò X).flatten.map OD.sh) Î:=rfl
def xA(x:Gc)(n:Nat)(h:n<=1000):cX (Ï [x]) (Ä n)=.ok (Ę<|όv x):=by
 rw[Tz,Os]
 .rw[K9n]
  congr 2
  induction n with|zero=>rfl|succ n ih=>rw[K99,K8a,K9i,ih Á,K99,K9w];rfl
 rw[K9U,K9U,K9k,K9k,K9k];show((Á,Á),?_);rw[K9n,K9e,Nat.one_mul];show K94<|aF h
def rg(p:ϱP α):∀(L:À α)(i:Nat),(∀k,k<i->∀x,L[k]?=Ď->ϬS)->(∀x,L[i]?=Ď->Ł (p x))->i<=L.À->L.takeWhile p=L.Ö i:=by
 induction _ with
  |nil=>
   ext i _ _ _
   simp
  |cons x L ih=>
   ext x28 h1 h h3
   cases x28 with
    |zero=>
     rw[Zdd,h x rfl,K7t];rfl
    |succ i=>
     rw[Zdd,h1 0 Á x rfl,K7q,ih i (λk H y Y=>h1 (k+1) Á y ϧx) (λy Y=>h y ϧx)<|ť h3];rfl
def Hy(X:À Gc)(a b:Nat)(A:a<=X.À)(B:b<=X.À):ϲd X (Â ϑ) (Â ϩx)=ł (X.ä a) (b-a):=by erw[cutD];rw[HT.uS,HT.uS,K8q A,K8q B]
def i8(X:À Gc)(a:Nat)(A:a<=X.À):ϲd X (Â ϑ) none=X.ä a:=by erw[cutD];rw[HT.uS,HT.CT,K8q A,K90<|Ă K8y]
open PySem.Spec PyProof.Rows
def Itd(lo:Int)(n:Nat):It:=⟨λi _=>i<n,όg (x=Ä (lo-i)),λi _=>n<=i⟩
def Jq{P:Do}{w:Ev}{K:At}{tg:On}(it:Ix)(lo:Int)(n:Nat):Ϯt (Itd lo n) (ϗ0 (-1) (Ŵ-(i:Nat))<|-1) where
 mem:=Û
 obj:=λi h T b B=>by
  let e:b=it:=ϳR
  subst e;show(_,T,ϕL)
 keep:=ύv (k it Û _ T)
 item:=by
  ext X r a m C i p s c H E I f T hg;subst r a m;let(F,g,J,j,f4,l):=f it Û;let W:=PySem.Walks.range (prog:=X.ø) (w:=X.w) ϳX it lo (-1) n;show ϖr;let(t,rfl):=V;let d:ù p c H ((ϱk h' tk)):=I.ĝ (λb o B e=>q b o ϳR e) F g j f4 l;show(_,rfl,He (s:=(ϱk h' tk)) (n:="range_iterator") S rfl rfl Ý ⟨Ä<|lo-i,H,d,⟨t,?_⟩,ϻl,S,ϯh⟩)
  congr 1
  lia
 done:=by
  ext X r a m C i p s c H E I f T hg;subst r a m;let(F,g,J,j,f4,l):=f it Û;show wpAny_pyNext_range_end ϳX T ϘJ ϭN
 self:=ϮH wpAny_pyIter_rangeiter
def rangeSize_down(a b:Int):Builtin.Range.rangeSize a b (-1)=Ë (a > b) (a-b) 0:=by
 erw[Builtin.Range.rangeSize];simp only[ϱl (¬(Ì (-1) > 0)),if_false];let:(-(-1:Int))=1:=Ý
 rw[this,Int.ediv_one];split<;>lia
def small_down{a b:Int}(A:-ϳ<=a)(h:a<ϳ)(B:-ϳ<=b)(f:b<ϳ):Builtin.Range.small a b (-1)=true:=by
 erw[Builtin.Range.small];rw[rangeSize_down];simp only[Builtin.Range.rangeFitsLong,K9U,Bool.or_eq_true,K9k,beq_iff_eq,ϱl (¬(Ì (-1) > 0)),if_false]
 split<;>lia
section
variable{X:Cx}
def N_{s:Da}{R:It->Ú Hp}{E:Db->Ú Da}{lo hi:Int}(I:Ģ)(h:-ϳ<=lo)(a:lo<ϳ)(f:-ϳ<=hi)(c:hi<ϳ)(q:R (Itd lo (ĩ (lo-hi))) H):Ő (pyIter<|É s.Á) ϙB E ((ϱk (ϳi ((Ċ "range" (ϐ #[Ä lo t,Ä hi u,Ä (-1) v])))) tk)):=by
 show ϕ5 small_down;let i:ù H6 σ H ((ϱk (ϳi ((Ċ "range" (ϐ #[Ä lo t,Ä hi u,Ä (-1) v])))) tk)):=I.ò (ϲ0 (ő e))
 show(Ι (ϳi<|(Ċ "range" (ϐ #[Ä lo t,Ä hi u,Ä (-1) v]))),[Ι (ϳi<|(Ċ "range" (ϐ #[Ä lo t,Ä hi u,Ä (-1) v])))],_,_,H,rfl,
  i.ò (t':=tk) (ϲ0 (ő e)),Jq _ lo (ĩ (lo-hi)),?_,ϹL,q)
 .let e1:lo+ä 0*(-1)=lo:=Û
  let g:ä ((ĩ (lo-hi)))-ä 0=ϗn (-1):=by rw[rangeSize_down];split<;>lia
  change IsRangeIter _ _ (lo+ä 0*(-1)) (ä ((ĩ (lo-hi)))-ä 0) (-1);rw[e1,g];show Ϣ
 let e:b=Ι (ϳi<|(Ċ "range" (ϐ #[Ä lo t,Ä hi u,Ä (-1) v]))):=ϳR
 subst e;show i.fpOk ì<|i.É ì
def Rb(ta:TA):TI:=ϮU (∃i j:Int,s=[Ä i,Ä j,Ä<|-1]/\(-ϳ<=i/\i<ϳ/\-ϳ<=j/\j<ϳ)/\R (Itd i (ĩ (i-j))) h)
theorem Jh{p pos:Pos}(hg:γ "range")(M:ϧt)(A:ϱT ϶s ta)(f:æ ϶s=(false,ϰI)::æ ϴ5)(S:ϰX (ϲD<|æ ϴ5)):
  Ϸp (ϳP "range" ϶s) (Rb ta):=by
 ext n s m H R I h;show Call_<|Ϗd<|K98 (Wp (Ϭ6 n s m H _ I h) λU u zq=>?_) f S;let(V,o,d,g,Q):=zq;obtain⟨i,j,e,⟨Q,k,l,C⟩,q⟩:=Q;subst e;cases g with
 |cons r rr=>
  cases rr with
  |cons r' rr=>
   cases rr with|cons r'' rr=>cases rr;let(t,rfl):=r;let(v,rfl):=r';let(T,rfl):=r'';show call_range_3 Ý (N_ d Q k l C q) (Ð<|PyProof.noPylong_small Ý)
end
def yz(lo:Int)(n:Nat):À Gc:=Ê ϲl (ϳj (lo-k))
def iR3(a b c:Fe):Fi:=λd=>ó (a d) λx=>ó (b d) λy=>ó (c d) λz=>match x.er,y.er,z.er with
 |.int i,.int j,.int k=>Ë (Μ (ϔp&&Õ (k=-1))) (Ħ (yz i (ĩ (i-j)))) Î
 |_,_,_=>Î
def Gm{K:At}{F:Hp}(lo:Int)(k:Nat):Walks K F (Itd lo k) (yz lo k):=by
 ext i G H S w;erw[yz];show(ύA,ϖU);rw[N2]at h;let(j,J,rfl):=Ϲ7;let(a,b):=ϩw;let f:i=j:=by simpa using b
 subst f;show(ϗo,λx c y=>?_);let(rfl,rfl):=y;show(G,ό3,Ä _)
section
variable{M:Mx}{H:Hp}{σ:St}{X:Cx}{a b c e:On}{pos:Pos}
private def Zn(h:ϻi ϑ7):Rb (ϴP<|ϬG<|ϓn<|ĝ fc) σ H R':=by
 let(F,a,f,S,p):=h;show(F,a,f,S,?_);erw[iR3]at p;let T:=Ϸc;change Ĉ f _ (ϬG (ϓn<|ĝ fc) a);rw[xH,xH,xH,MA];cases ha:fa a with
 |bad=>rw[ha]at T;show T
 |ex c=>rw[ha]at T;show T
 |ok x=>
  rw[ha]at T;let p2:Ĉ f _ (fb a):=az.ï T;cases hb:fb a with
  |bad=>rw[hb]at p2;show p2
  |ex c=>rw[hb]at p2;show p2
  |ok y=>
   rw[hb]at p2;let b:Ĉ f _ (fc a):=Ϥn p2;cases hc:fc a with
   |bad=>rw[hc]at b;show b
   |ex c=>rw[hc]at b;show b
   |ok z=>
    rw[hc]at b;ext V l g X e1 r W;let(G1,D,K):=ϲO W;cases K with
    |@cons v _ _ _ K k2=>
     cases k2 with
     |@cons w _ _ _ k2 k3=>
      cases k3 with
      |@cons u _ _ _ k3 k4=>
       cases k4;let P:az M H f Ϻ7 (match x.er,y.er,z.er with
        |.int i,.int j,.int k=>Ë (Μ (ϔp&&Õ (k=-1))) (Ħ (yz i (ĩ (i-j)))) Î
        |_,_,_=>Î):=b
       generalize x.er=dx at P K;generalize y.er=dy at P k2;generalize z.er=dz at P k3
       split at P
       .rename_i i j k
        cases K;cases k2;cases k3;cases s:(ϔp&&Õ (k=-1))=true
        .rw[Os s]at P
         rw[K9U,K9U,K9k]at s;obtain⟨⟨d,e⟩,rfl⟩:=s;let d:=iw.mp d;let e:=iw.mp e;show(i,j,rfl,(d.1,d.2,e.1,e.2),ϗX<|Gm _ _)
        rw[P3 s]at P;cases P
       cases P
def Hz(hg:γ "range")(j:ϧt)(h:ï a fa)(k:ï b fb)(l:ï c fc)(S:à (æ ϶s=(false,ϰI)::æ ϴ5))(d:à (æ ϴ5=(false,ϲh)::æ [c]))(f:à (æ [c]=(false,ϒZ)::æ []))(e:à (ϰX<|ϲD<|æ ϴ5)):ϸf (ϳP "range" ϶s) ϑ7:=λm g=>λi s n H r I z=>ϛc<|Zn z
def Q_(K:At):V->Hp->Ú VK:=λx H Q=>∃a X,x=É a/\μ a X/\∀p,ϵw->Q (É p) (ļ p<|ô X.å)
def tRv(r:V->Hp->Ú VK)(te ts:TE):TE:=λa H Q=>te a H λx h=>ts a h λz b=>z=Ä (-1)/\r x b Q
def UL{T:On}{ops:Db->Db->À Db}(he:ā e te)(m:ā T ts)(U:∀v u,subscripted ϪE false v u=operate (ops v u) (ϯF u)):ā (ŕ e ϪE pos) (tRv (Q_ X.K) te ts):=by
 ext p s c H Q I h;show Subscript_<|Wp (he p s c H _ I h) λv A zq=>?_;let(x,f,j,R,w):=zq;show wpAny_Slice ?_;rw[evalPart_none];show ϴ1;show ϴ1;rw[evalPart_some];show Wp (m p A c f _ j w) λV S zq=>?_;let(z,g,k,y,l):=zq;let(rfl,l):=l;let(t3,rfl):=y;let(a,B,rfl,n,q):=l;cases R;let t:ù p c g ((Ϭe (S.ÿ (Ċ "slice" (ϐ #[ò,ò,Ä (-1) t3]))))):=k.ò (t':=S.ã) λb O q=>ő q;change Ő (ϙ5 ϪE (É a)<|É S.Á) (ϵW p c Q) X.xe ((Ϭe (S.ÿ (Ċ "slice" (ϐ #[ò,ò,Ä (-1) t3])))));let(i,r,d,Z):=t.ê n;show tail_any (ops:=ops (É a)<|É S.Á) d.Ĕ slot_list_getitem.Ð ?_<|U _ _;show ϙz d.Ê ϘL ò ò (Ä (-1) t3) Û ?_ (by rw[K9W,<-r.length];show Z);rw[PySem.W.krv_pick];show(É _,_,t.ĩ (t':=S.ã) (o:=ô B.reverse) (λb O q=>ő q) ì ?_,rfl,q _<|t.É ì);show(ϓc Zax,i.reverse,0,r.reverse,?_);let e:i.toArray.toList.reverse.Æ=i.reverse.Æ:=Û
 rw[e];show Ϣ
def ub(a s:Fe):Fe:=λb=>ι λx=>ó (s b) λz=>match x.er,z.er with
 |.list ds,.int k=>Ë (k=-1) (ģ ϐm) Î
 |_,_=>Î
def E5.rev{K:At}{F:Hp}:∀{s:À V}{d:À Gc},ž s d->ž s.å d.å|_,_,.nil=>õ|_,_,.cons h r=>Ζ K8T K8T (E5.app (E5.rev r)<|ą h õ)
private def YH(h:ď ύq σ H Q):tRv (Q_ M.K) (ď fa) (ď fb) σ H Q:=by
 let(F,e,f,S,p):=h;show(F,e,f,S,Ń λx px v i l X e1 r w=>?_);let(G1,D,b):=ϲO w;show(G1,e,f,Ϲ6,Ů (϶b px D) λy py V j o Y g m W=>?_);let(G2,d,c):=m.Ė g W;let E:=Ϭg;generalize x.er=dx at py b;generalize y.er=dy at py c
 split at py
 .rename_i s k
  cases c;let(K,py):=azIf py
  cases b with|@lst a vs _ h1 h2=>show(ϰT K,a,vs,rfl,((h1.Î d.ff).same d.fh).sq,λp P=>OkE.lstD d.fh (OkE.pre E py) (E5.rev<|h2.Î d.ff) P)
 cases py
def E2{T:On}(ops:Db->Db->À Db)(he:ï e fa)(S:ï T fb)(U:∀v u,subscripted ϪE false v u=operate (ops v u) (ϯF u):=by intro _ _;with_unfolding_all rfl):ï (ŕ e ϪE pos) ύq:=λm H=>by let q:=UL (pos:=pos) (p2:=p2) (he m H) (S m H) U;rw[m]at q;show peI q (ϭt (YH z))
def Pb{x y z:Int}(h:ϤH=þ (Ä x))(H:Ϫm=þ (Ä y))(f:fc ρ=.ok (Ñ z))(Z:z=-1)(S:aE x=true)(w:aE y=true):ϑ7 ρ=Ħ (yz x (ĩ (x-y))):=by erw[iR3];rw[h,H,f];subst Z;simp only[cB,bc,S,w,K7m,decide_true,K83]
def uY{lo:Int}(h:á (yz lo n)=ϰN):i<n/\d=Ä (lo-i):=by
 erw[yz]at h;rw[N2]at h;let(j,J,rfl):=Ϲ7;let(H,a):=ϩw;let f:i=j:=ϑv
 subst f;show(Ϻ3,rfl)
def zG(lo:Int)(n:Nat):Ã (yz lo n)=n:=ϧ9 yz
def v_(i:Nat)(a:Fe):Fs:=λb=>match ϵU with
 |some (some x)=>ι λy=>όi ϶K
 |_=>Î
def VM(h:f.Í)(hg:g.Í)(d:π (a∉g))(N:p∉f)(n:p∉g):(p::(f++(g++[]))).Nodup:=ϩK K9d K8k K9T (λm=>ϵb (K9Y.mp m) N n,h,hg,ϴJ (d a A (e▸B)))
def P4(h:Ϭ (v_ i fa)):J4 (Ob<|iA ϲo<|ϸX (ď fa)) D σ H:=by
 let(F,t,P,S,p):=h;erw[v_]at p;let(x,e,p):=azS p
 let(v,f,g1,g2,k,c,rfl,A):=Ϸ9;let sub:π (a∈϶d):=ϰW (Τ<|ϰA m);let d:f.Í:=ϕR
 show(v,k,F,t,_,S,Ń λy py w g b Y e1 r W=>⟨ϻk (ŀ 2),ϸi⟩);let X:Own M.K g b v x f:=c.á e1.ff λa _ o z=>ϻN z;let l:q∉f:=λm=>ϸ5 z (X.ö q m) Q
 let s:q∉Y:=λm=>ϸ5 z (r.Þ q m) Q
 let j:π (a∉Y):=λa m z=>ϐL (c.ö a m) (W a z)
 let up:∀a o,b a=Ö->upd b q (Ī [v,w]) a=Ö:=λa o z=>Ô (aC<|aL z Q) z
 show py (É q) g (upd b q<|Ī [v,w]) (q::(f++(Y++[]))) (ώF e1.fh Q).fh ⟨ϓe<|Ϫv X.á<|Ϫv r.ü õ,VM d r.nd j l s,ϲM⟩ ⟨e1.ff,λa o z _=>up a o<|ϻN z,ϲM,λa z _ u=>e1.nw a z u⟩
 .rw[K9d]at m
  rcases K8v.mp m with rfl|m
  .show e1.fh.â Q
  rcases K9Y.mp m with m|m
  .show let⟨_,z⟩:=c.ö a m;e1.nw a (bg z) (ϸb ϵz)
  show ϸz m
 rw[K9d]at m;rcases K8v.mp m with rfl|m
 .show Ø<|ώy Q
 rcases K9Y.mp m with m|m
 .show Ð ϵz
 show Ø<|W a m
def ND(i:Nat){x1}(h:ï e fa)(hN:ϵc (ð p))(hs1:à (æ [ð p,e]=Ϲg (ð p) (æ [e])))(hs2:à (æ [e]=ϰG (æ []))):
  Ϧ (Ϭh<|Â<|.Tuple [ð p,e] x1 pt) (v_ i fa):=λhK hM=>psI (Cp<|Gv<|f7 hN (f7 ύj tZ hs2) hs1) (ϲK P4)
def Qf(h:á ρ=Â Ď)(H:ϤH=϶A):v_ i fa ρ=όi ϶K:=by erw[v_];rw[h,H];rfl
end
def keyOf:Gc->Ü Key|.int i=>Â<|Ð i|.str x=>Â<|Ø x|_=>none
def EI(k:Key):ϷI (kD k)=Ş:=by cases k<;>rfl
def gE(Fv:À Ο)(k:Key):Ü Gc:=ß Fv.find? (λv=>Õ ϴg) Ž
def putD(Fv:À Ο)(k:Key)(d:Gc):À Ο:=
 Ë (ϴ Fv.ě (λv=>Õ ϴg)) (Ϯf (v.1,d)) (Fv++[(k,d)])
def qH(Fv:À (Gc×Gc))(k:Key):Ü Gc:=ß Fv.find? (λv=>Õ<|ϷI v.1=Ş) Ž
def uK(Fv:À Ο)(k:Key):qH (϶P ϵi) k=ϸE k:=by
 erw[qH,gE]
 induction Fv with
 |nil=>rfl
 |cons p r ih=>
  rw[K9w,K8p,K8p];cases h:p.1=k
  .rw[Z8 h,Z8<|by change ϷI (kD p.1)=Ş;rw[EI,h]]
   rfl
  rw[ϷD,K9q<|by change¬ϷI (kD p.1)=Ş;rw[EI];exactλz=>h<|K9R z];show ih
def gDx:ϰd
 |.dict Fv,y=>match keyOf y with
  |some k=>lE<|qH Fv k
  |none=>Î
 |_,_=>Î
def Zw(Fv:À Ο)(i:Int):gDx ϱd (Ä i)=lE (ϸE<|Ð i):=by
 change lE (qH _ _)=_;rw[uK]
def eD1(a b:Fe):Fe:=λc=>ó (a c) λx=>ó (b c) λy=>match ϷI x.er with
 |some k=>.ok<|.od [(k,y.er)]
 |none=>Î
def sDP(i:Nat)(k a:Fe):Fs:=λb=>match ϵU with
 |some (some<|.od Fv)=>ι λy=>ó (k b) λz=>match ϷI z.er with
  |some q=>Ë όa (ų (ϻh<|ϩH<|ϥL q y.er)) Î
  |none=>Î
 |_=>Î
section
variable{K:At}{F H:Hp}
def Mr:∀{Fv:À ϴT}{s:À Ο}{k:Key}{d:Gc},ϭQ s.Ç (gE s k=ϰN->∃v,ϸq=ĥ/\Ŀ F v d):=by
 ext Fv
 induction Fv with
 |nil=>
  ext s _ _ h _ e;cases s with
  |nil=>cases e
  |cons=>cases h
 |cons p Fv ih=>
  ext s k d h r e;cases s with
  |nil=>cases h
  |cons q s=>
  rw[K9w,K9w]at h r;let(c,f):=K8B h;cases r with
  |cons r1 r2=>
   erw[gE]at e;rw[K8p]at e;cases H:q.1=k
   .rw[Z8 H]at e
    let e':=K9R e;show(p.2,u7<|c.Å H,Ϙ e' r1)
   rw[K9q H]at e;let(v,a,b):=ih (k:=k) (d:=d) f r2 e;show(v,ϔb (vH λz=>H<|c.Ñ z),b)
def LU{Fv:À ϴT}{d:À Ο}(k:Key)(h:ϹP Fv.Ç ϔ d.Ç):ϹP Fv.ě (λv=>Õ ϴg) d.ě:=by
 let e1:(Fv.ě λv=>Õ ϴg)=(϶P ϔ).any λx=>Õ (x=k):=ϣ Zea
 let g:(d.ě λv=>Õ ϴg)=(d.Ç ϔ).any λx=>Õ (x=k):=ϣ Zea
 rw[e1,g,h]
theorem Mw{k:Key}(f:Ŀ F v d):∀{Fv:À ϴT}{s:À Ο},ϭQ s.Ç (ß Fv.Ç ((ϮM (c.1,v))) ϔ=ß s.Ç ((ϮM (c.1,d))) ϔ/\ž (ß Fv.Ç ((ϮM (c.1,v))) Ž) (ß s.Ç ((ϮM (c.1,d))) Ž)):=by
 ext Fv
 induction Fv with
 |nil=>
  ext s h _;cases s with|nil=>show(rfl,õ)|cons=>cases h
 |cons p Fv ih=>
  ext s h r;cases s with
  |nil=>cases h
  |cons q s=>
  rw[K9w,K9w]at h r;let(H,e):=K8B h;cases r with
  |cons r1 r2=>
   let(a,b):=ih e r2;rw[K9w,K9w,K9w,K9w,K9w,K9w,a];cases Q:q.1=k
   .rw[Os Q,Os<|H.Å Q]
    show(by rw[H],ą f b)
   rw[P3 Q,ϱh (Q ϑD)];show(by rw[H],ą r1 b)
def Lj{k:Key}(H:Ŀ F v d)(h:ϹP Fv.Ç ϔ ds.Ç)(r:ž (϶P Ž) (ds.Ç Ž)):
  Ê (϶p k v) ϔ=Ê (putD ds k d) ϔ/\ž (Ê (϶p k v) Ž) (Ê (putD ds k d) Ž):=by
 erw[putK,putD];rw[LU k h];cases A:(ds.ě λV=>Õ<|V.1=k)=true
 .rw[Os A,Os A]
  show Mw H h r
 rw[P3 A,P3 A,K9i,K9i,K9i,K9i,h];show(rfl,r.app<|ą H õ)
def pG{k:Key}(r:Ŀ F y d)(e:keyOf d=Ş):y=kV k:=by
 cases r with
 |non=>cases e
 |bl _=>cases e
 |int i=>cases e;rfl
 |str x=>cases e;rfl
 |lst _ _=>cases e
 |tup _ _=>cases e
 |dct _ _ _=>have e':(none:Ü Key)=Ş:=e;cases e'
end
section
variable{H:Hp}{Q:VK}
def Yj:R2:=ϰj (∃a v,x=É a/\ώe ĥ/\Q v H)
def XY:ϩ Yj gDx:=by
 ext x y dx dy F H f Q s R Y p;cases R with
 |non=>show p.Ä
 |bl _=>show p.Ä
 |int _=>show p.Ä
 |str _=>show p.Ä
 |lst _ _=>show p.Ä
 |tup _ _=>show p.Ä
 |@dct a Fv ds h1 h2 h3=>
  let T:az M H f Ϸ (match ϷI dy with
   |some k=>lE<|qH (ds.Ç ϵi) k
   |none=>Î):=p
  cases hk:keyOf dy with
  |none=>rw[hk]at T;show T.Ä
  |some k=>
   rw[hk]at T;let p2:Ĉ f Ϸ (lE<|qH (ds.Ç ϵi) k):=T;rw[uK]at p2;cases hv:gE ds k with|none=>rw[hv]at p2;show p2.Ä|some d=>rw[hv]at p2;let(v,v1,V):=Mr h2 h3 hv;show(a,v,rfl,Ð ⟨Fv,k,Ð<|s _ _ h1,pG Y hk,v1.Ï⟩,ϒh p2 V)
def ON(h:ď (eD1 fa fb) σ H Q):RC [(ď fa,ď fb)] σ H Q:=by
 let(F,j,i,S,p):=h;ext q a;let E:Ϛ F (ļ q ϻ9):=ώF S.Î a;show(F,j,i,S.ā E,Ů ((Ϸc).ext E) λx px v G J X e1 R W=>?_);let(G1,D,K):=ϹU W;let e:=E.Å D;show(G1,j,i,(S.ā E).ext D,Ů (϶b px e) λy py u I r Y s A C=>?_);let(G2,d,t):=A.Ė s C;let f:r q=Â ϻ9:=d.hh _ _<|D.hh _ _ aU;show(f,?_);cases hk:keyOf x.er with
 |none=>rw[hk]at py;cases py
 |some k=>
  rw[hk]at py;let V:=pG K hk;show([(k,u)],ϣ V,(ϱl<|1<=15),?_);let em:vY [] [(k,u)]=[(k,u)]:=rfl;rw[em];let P:Ϸ (.od [(k,y.er)]):=py;let c:=e.Å d;let l:F q=none:=S.Ę a;let g:G2 q=none:=(Ϭg).nw q (bg aU) l;show P (É q) G2 _ [q] ⟨c.ff,όw,όw,λb z w=>?_⟩ ⟨ϚW<|ą t õ,Û,ϹN⟩ ϹN
  .let B:b≠q:=ϗx
   rw[ϷL];show d.hh _ _ (D.hh _ _<|Ô ϷL z)
  .let B:b≠q:=by ext rfl;rw[g]at z;cases z
   rw[ϷL];show d.fh _ _ z
  .let B:b≠q:=ϧ1 (z a)
   show(Ϭg).nw b (Ô ϷL z) w
  .let:b=q:=ϲE
   rw[this];show g
  let:b=q:=ϲE
  rw[this];show a
theorem Stt.writeD{K:At}{F:Hp}{f:Env}{P:À Ix}(S:Ϲ5 F H σ f P){i:Nat}{s:À Ο}(x:f[i]?=Â (Â<|.od s)):
  ∃a Fv,á σ=Â (Â<|É a)/\H a=Â ϶m/\ϹP Fv.Ç ϔ s.Ç/\ž (϶P Ž) (s.Ç Ž)/\
   ∀c h k d,Ϛ c h->ϹP k.Ç ϔ d.Ç->E5 K c (k.Ç Ž) (d.Ç Ž)->
    ∃p,Ϲ5 c (Ϫ5<|.dK k) σ (f.ß i<|Â<|.od d) p/\ż P c (Ϫ5<|.dK k) p:=by
 let(v,t,g1,g2,g,j,rfl,l):=S.own.at x;cases j with
 |@od a Fv _ ha hk hr=>
  let nd:=S.nd;simp only[K9T,K9Y,K92,K8k,K8v,K9B]at nd;obtain⟨u,⟨na,w⟩,N⟩:=nd;show(a,Fv,g,ha,hk,hr,λc h k d e Q r=>?_);let fa:c a=none:=e.nw a (bg ha) (ϸb Û)
  let own:=l c (Ϫ5<|.dK k) e.ff (λb m o q=>by
   let:b≠a:=by
    ext rfl;rcases K9Y.mp m with m|m
    .show N b m b (Ð rfl) rfl
    show na m
   rw[aC this];show ϔr) (É a) (.od d) [a]<|.od aU Q r
  rw[vj g]at own;let frs:∀b∈ϵu [a],c b=none:=λb m=>let⟨_,q⟩:=S.Þ b m;e.nw b Ϸv (S.fr b m)
  show(ϵu [a],(?_,own,S.nd,frs,Ô K8z S.í),(e.ff,λb o q m=>?_,λb m=>Ð m,λb q m z=>e.nw b q z))
  .intro b o q
   rw[aC<|ϲY fa];show e.fh _ _ q
  let B:b≠a:=ϧ1 (m Û)
  rw[ϷL];show ϔr
def Sz(h:Ϭ (sDP i k a)):RW ϲo (ď k) (ď a) D σ H:=by
 let(F,j,f,S,p):=h;erw[sDP]at p;let(d,e,p):=azOd p
 show(F,j,f,S,Ń λy py v J O Y e1 R W=>?_);let(G1,b,K):=ϹU W;let(l,Fv,x,A,o,B,wr):=S.writeD e;show(_,x,G1,j,f,S.ā b,Ů (϶b py b) λz pz u N s Z w G I=>?_);let(G2,m,C):=G.Ė w I;let E:=b.Å m;cases hk:keyOf z.er with
 |none=>rw[hk]at pz;cases pz
 |some q=>
  rw[hk]at pz;let P:Ĉ f (ϳd f D) (Ë (d.À<Tk) (ų (j.ß i<|ϩH<|putD d q y.er)) Î):=pz;let(g,P):=azIf P
  let L:Fv.À=d.À:=ϮB (Ż o) K0 K0
  let r:=ϛ5<|B.same E.ff;let(c,t,T):=wr G2 s _ _ E r.1 r.2;show(l,_,rfl,Ð ⟨Fv,q,ϴU A,pG C hk,ϫZ (zH g),rfl⟩,P σ G2 _ c t T)
end
section
variable{X:Cx}{p pos pos':Pos}
def Ye(U:ϷT 1)(A:ï a fa)(B:ï b fb)(S:Uz b):ï (ŕ a b pos) (F4 gDx fa fb):=ũ peI (PK U ϴX ϸx S) (Kw XY q)
def XO(A:ï a fa)(B:ï b fb):ï (.Dict [Ϸu] [b] pos) (eD1 fa fb):=ũ peI (Qt (MD ϴX ϸx PB) rfl rfl Û<|ϱl (1<=15)) (ON q)
def HK(i:Nat)(hu:ϷT 1)(hb:ï b fb)(h:ï e fa)(hN:ϵc (ð p))
  (hs:à (ϫH (Â<|ŕ (ð p) b pos') pos.line X.Ü=ϥs)):Ϧ (ϴZ [ŕ (ð p) b pos'] e pos) (sDP i fb fa):=ϦB (psI (Qx hu hN (hb hK hM) ύj hs) (ϲK Sz))
end
section
variable{ρ:Env}{a b k:Fe}
def RV(o:Ü (Ü OD))(a k:Ĭ)(i:Nat)(b:Env):ϲs:=match o with
 |some (some<|.od Fv)=>unK (λy=>unK (λz=>match ϷI z.er with
  |some q=>Ë όa (ų (ϻh<|ϩH<|ϥL q y.er)) Î
  |none=>Î) k) a
 |_=>Î
def Fz(i:Nat):sDP i k a ρ=RV Ϸw ϰm (k ρ) i ρ:=rfl
def FV{z:Int}:RV (some<|Â Ϸq) (.ok Ř) (.ok<|Ñ z) i ρ=Ë όa (ų (ϰs<|ϩH<|ϥL (Ð z) d)) Î:=by
 change(match ϷI (Đ ϭE).er with
  |some q=>Ë όa (R.ok (Out.nx<|ϰs<|ϩH<|ϥL q (ϥX).er)) Î
  |none=>Î)=_
 rw[bc,bc];rfl
end
def BM(r:ϴh A):ϫu 1:=Ĳ r.ħ
def OG(x:Gc)(lo hi:Ü Int):Ĭ:=match x with
 |.str y=>Ë (y.À<=Tk) (þ (Ė ϐW)) Î
 |_=>Î
def WO:V->ϱu (Ü Int) (Hp->Ú VK):=λx lo hi H Q=>∃y,x=Ė y/\ŀ y.À/\Q (Ė ϐW) H
section
variable{X:Cx}{M:Mx}
def part_of(h:IsPart v o):∃l:Ü (Int×Tok),v=partValue l/\l.Ç ϔ=o:=by
 cases h with|none=>show(none,rfl,rfl)|int i t=>show(Â (i,t),rfl,rfl)
def Sf:SlR X WO:=by
 ext p s a H x v V U lo hi L Q I R S pl pu h;let(y,rfl,Y,q):=h;let(t,rfl):=R;let(l,rfl,rfl):=part_of pl;let(u,rfl,rfl):=part_of pu;show("str",_,PySem.F.slot_str_getitem.lookup,typeIs_str _ _ _,ϛk<|post_val_or_str ⟨K9C (Txt.slice_le y _ _) Y,λT k=>?_⟩);show(Ė _,H,I.tok k,(T,rfl),q)
def Vt(m:Υ):OkS M WO OG:=by ext x lo hi dx F H f Q s R p;cases R with|str y=>show(_,rfl,lj (ϱO).1,ϒh (ϱO).2<|Ė _)|_=>show ú
def YI(y:Str)(lo hi:Ü Int):OG (Ė y) lo hi=Ë (y.À<=Tk) (þ (Ė ϐW)) Î:=rfl
end
def dfl(f:Fn)(dv:À Gc):Fn:=λd=>f<|d++dv
section
variable{M:Mx}
def PD{dv:À Gc}(d:∀F:Hp,϶B F dvs dv)(h:ď (aj (dfl f dv) al) σ H Q):ϙV dvs (ϴP al) σ H Q:=by
 let(F,a,P,S,p):=h;show(F,a,P,S,Ń ϗ8);let(G1,D,k):=ϲO w;show(G1,ϳf++dv,D.fh,k.app<|d G1,ϬQ ώh ϧM)
def gK{α:Type}(m j:Nat)(s ws:À α):À α:=Ë (s.À=m/\ϓH) (s++ws) []
end
section
variable{M:Mx}{X:Cx}{pos kpos:Pos}
def uM{dv:À Gc}(F:ϦZ M.K M.mg CX)(hr:ϴh X.A)(hg:γ x)(a:M.mg x=Â (É f))(K:ϵo M.K (É f))(B:∃d,ϹG M.K d/\ţ dvs d)(D:∀F:Hp,϶B F dvs dv)(c:Ϩh M.E)(A:ϸl Ũ)(h:ϲz)(he:à (æ Ũ=ϰG (æ es)))(l:à (ϰX<|ϲD<|æ es)):
  ï (ϱb (ð p) Ũ pos) (ϫF fn dv al):=λm H=>by
 let b:ϦZ X.K X.mg CX:=by rw[m,H];show F
 let(d,B,v):=B;show peI (ϕ3 (ϥi K) v c ϴX h he l) λ_ _ _ q=>PD D q
end
def O_(a:ţ vs us)(b:Vals zs ws):ţ (ϩO j vs zs) (ϩO j us ws):=by
 erw[gK];rw[a.length,b.length];split
 .show a.đ b
 show õ
structure FunD(K:At)(x qual:Str)(st:No)(f:Ix)(fd:Fk):Prop where
 ex:∃(oc:Db)(od:Ü Ix)(dV kV doc pm:Db)(an:Ü Ix)(cdv ct:Db)(osl:Η Ch),
  fd=Ϧ2 dV kV doc pm an cdv ct/\ϫ3=Â ⟨oc,od,ϷE fd,osl⟩/\ϸm cdv qual=true
 kp:ϵo K (É f)
def xT{K:At}{x qual:Str}{st:No}{f:Ix}{W:Db}{o an:Ü Ix}{O:Η Ch}{D kV doc pm d ct:Db}(l:ϫ3=Â ⟨W,o,ϷE<|Ϧ2 D kV doc pm an d ct,O⟩)
  (c:ϸm d qual=true) (k:ϵo K (É f)):ϒC st f (Ϧ2 D kV doc pm an d ct):=⟨⟨W,o,D,kV,doc,pm,an,d,ct,O,rfl,l,c⟩,k⟩
def FunD.ok{P:Do}{w:Ev}{K:At}{m:Ŏ}{base:Op}{x qual:Str}{T:No}{f:Ix}{fd:Fk}{N a:À Str}{k:Nat}{sp:Sp}(F:ϒC T f fd)(S:Fq N a ϵI)(len:ϑ0 ϫ2 a.À)
  (B:∀(c:Db)(A:Go)(outer:À PySem.Env)(s:Da)(H:Hp)(v:À V)(Q:VK)(E:XK),ϦW ϵI->ϫ2->
   ∃t,PSs (Ϗf ϵI) ϩL t/\t {nx:=λ_ b=>Q Β b,rt:=Q} (ϨG v) H):ϳ5 m base y_ (k+1) f fd a sp:=by
 let(W,o,D,kV,doc,pm,an,c,ct,O,rfl,U,d):=F.ex;show ϖg;let(t,h,q):=ϗO;show(t,h.nox,q)
theorem QW{P:Do}{w:Ev}{K:At}{g:Ŏ}{base:Op}{x qual:Str}{T:No}{f:Ix}{fd:Fk}{N b:À Str}{k np n:Nat}{body:Fs}{fn:Fn}(G:fn=aZ np n body)(J:b.À=np)(I:ϔs)(F:ϒC T f fd)(S:Fq N b ϵI)
  (h:∀(c:Db)(A:Go)(outer:À PySem.Env)(s:Da)(H:Hp)(E:XK),ϦW ϵI->DSs όu (Ϗb g) ϩL body):
  ϳ5 g base y_ (k+1) f fd b (ϩi g fn):=by
 subst G J I;let M:ώG b.À:=by
  let:=Ż S.pre;rw[K9f]at this;lia
 let l:ϕk:=by
  ext e H Q E ⟨F,D,sm,R,p⟩;cases L:D.À=b.À
  .rw[ώj]
   show L
  erw[aZ]at p;rw[P3 L]at p;cases p
 show F.ok S l λc A outer s H e Q E hr t=>?_;let V:=l _ _ _ _ t;let(u,D,sm,R,p):=t;let d:D.À=b.À:=Ϙ ώj V
 erw[aZ]at p;rw[Os d]at p;show(_,ϏH,u,zS N.À D,[],(sm,?_,K8w,ϰq,?_),Ń Ϩy)
 .unfold L2.start zS
  rw[V,d];show wA _ R
 .unfold zS
  change ϔj;rw[K9v,K0,K8r,d];lia
 cases o with
 |nx ρ=>show λO i j C B T=>po Β i j [] ⟨T.ff,Ϧy (ϻb Û),B.same,λa q z=>Ϧs q Û z⟩ (Res.sh Β) ϰq
 |rt y=>exactλv i j fx sm' r T=>po v i j fx ⟨T.ff,Ϧy (ϻb Û),sm',λa q z=>Ϧs q Û z⟩ r λa m=>ϵb (T.new a m) ϯf id
 |bk ρ=>show po.Ä
 |ct ρ=>show po.Ä
structure DefD(K:At)(mg:Ŏ)(x:Str)(st:No)(ps ks:À Str)(m:Nat)(dvs:À V)(f:Ix)(fd:Fk):Prop where
 F:FunD K x x st f fd
 g:mg x=Â (É f)
 b:ϹG K []
 d:∃ds,ϹG K ds/\ţ dvs ds
 k:KBinds K fd ps ks (ϩO dvs.À) (ϩO dvs.À)
def HA{K:At}{p k:À Str}(n:0<p.À)(h:∀(s:Da)(u ws:À Db),ϫI->ϔt->ϓH->ϥj ⟨u,k.Ċ ws⟩ (p.Ċ<|u++ws)):KBinds K fd p k (ϩO j) (ϩO j):=
 ⟨λs u ws H a=>by
  erw[gK]at a⊢;cases q:ϔt/\ϓH
  .rw[Os q]
   show h s u ws H q.1 q.2
  .rw[P3 q]at a
   rw[<-a]at n;show absurd n Û,O_⟩
def kh{K:At}{p:À Str}{ds:À Db}(a:m+ds.À=p.À)(h:∀(s:Da)(u:À Db),ϫI->ϔt->ϥj ϔh (p.Ċ<|u++ds)):Binds K fd p ds:=
 λs u k q=>h s u k (by rw[K9v]at q;lia)
def BK{K:At}(i:Int)(F:Hp):ž [Ä i] [Ä i]:=ą (Ä i) õ
def Yw{dv d:À Gc}:dfl f dv d=f (d++dv):=rfl
def t_(i:Nat)(k:Fe)(a:Fe):Fs:=λb=>match ϵU with
 |some (some<|.ol xs)=>ó (k b) λz=>match z.er with
  |.int q=>match ϴH q with
   |some j=>match Ϥu with
    |some (.ol ys)=>ι λy=>match y with
     |.ol zs=>if ϻU ys.À<=Tk then ϵ b.ß (ϲG<|.ol<|ys++zs)else Î
     |_=>Î
    |_=>Î
   |none=>Î
  |_=>Î
 |_=>Î
section
variable{M:Mx}
private def OI(h:Ϭ (t_ i k a)):wN (Ϯr CA (ϗz ϲo<|ď k)<|ϸX (ď a)) D σ H:=by
 let(F,t,l,S,p):=h;erw[t_]at p;let(X,e,p):=Ϥv
 let U:comps Ϧh=Â (true,X):=rfl;let(v0,_,_,_,G,own0,_,_):=Ϸ9;show(v0,G,F,t,l,S,Ń ϗe);let(G1,w,K):=r1.Ė e1 w1;generalize z.er=dz at pz K;cases dz with
 |int q=>
  cases K;let Z:az M H l (ϳd l D) (match Ϲt q with
   |some j=>match ę X with
    |some (.ol s)=>ó (a t) λy=>match y with
     |.ol zs=>if ϻU s.À<=Tk then ϵ t.ß (Ϸ4 ϓI)else Î
     |_=>Î
    |_=>Î
   |none=>Î):=pz
  cases hj:ixN X.À q with
  |none=>rw[hj]at Z;show Z.Ä
  |some j=>
   rw[hj]at Z;let r:az M H l (ϳd l D) (match ę X with
    |some (.ol s)=>ó (a t) λy=>match y with
     |.ol zs=>if ϻU s.À<=Tk then ϵ t.ß (Ϸ4 ϓI)else Î
     |_=>Î
    |_=>Î):=Z
   split at r
   .rename_i s hy
    let(Q,V,b,ws,f,I,T,Y,B,J,W,nf,R,wr):=(S.ā w).write2 e U hy;rw[G]at I;cases I;let at1:Ť V q=Â (É b):=by erw[atI];rw[Y,hj];show B
    show(Q,V,q,É b,rfl,rfl,SqL.of T,at1,Ð ⟨rfl,ws,SqL.of J⟩,G1,t,l,S.ā w,Ů ((az.ï r).ext w) λy py v x C fy E r2 N=>?_);cases y with
    |sh d=>show py.Ä
    |ot s=>show py.Ä
    |od s=>show py.Ä
    |pl _ _=>show py.Ä
    |ol zs=>
     let P:Ĉ l (ϳd l D) (if ϻU s.À<=Tk then ϵ t.ß (Ϸ4 ϓI)else Î):=py;let(L,P):=azIf P
     let(ro,rn,rf):=r2;cases ro with
     |@ol c us _ g hcc hu=>
      show(b,c,ws,us,rfl,rfl,ϴU J,hcc,Ζ W.í hu.í (lj L),?_);let o:N1 M.K x C (ws++us) (s++zs) Ϧm:=(W.á E.ff λc _ o q=>ϴU q).app hu;let(A,O,st):=wr x C _ _ _ E o (Ϧi ⟨nf,(K8k.mp rn).2,λc m d m' z=>Ϯi (W.ö c m) (N c<|ě m')⟩) (λc m=>ϵg Ð (λm=>Ø<|N c<|ě m)) λc m=>ϵg (όV (W.ö c m)<|E.nw c Ϸv (R c m)) (λm=>rf c<|ě m);show P σ x _ A O<|w.ý st
   show r.Ä
 |none=>show pz.Ä
 |bool _=>show pz.Ä
 |str _=>show pz.Ä
 |list _=>show pz.Ä
 |tuple _=>show pz.Ä
 |dict _=>show pz.Ä
end
section
variable{X:Cx}{x:Str}{p ap cp pos:Pos}
def Ku(i:Nat)(hb:ï b fb)(h:ï e fa)(hix:xB b)(hN:ϵc (ð p))(hbase:à (Ϫt (ŕ (ð p) b p2) "extend"))(hfew:à (Μ<|(ϵ8<|æ [e]).all Ϲz&&ϦV&&Õ (Ã ([e]:À On)+Ã ([]:À Keyword)+(Ë ([]:À Keyword).isEmpty 0 1)<30)))(hline:à ϤV)(hs:à (æ [e]=ϰG (æ [])))(hplain:à (ϰX<|ϵ8<|æ []))(hsw:à (ϦY (ϴL (ŕ (ð p) b p2) "extend" ap) [e] cp)):ϭU (ŕ (ð p) b p2) "extend" (t_ i fb fa):=ϦB (ϕp ϖE (ϲK OI) hbase hfew hline hs hplain hsw hK)
end
section
variable{ρ:Env}
def Pz{z:Int}(h:á ρ=Â (Â ϱp))(H:k ρ=.ok (Ñ z))(f:ϴH z=ϱ7)(c:Ϥu=Â ϻW)(g:ϰm=Ħ (.ol zs))(b:ϻU ys.À<=Tk):
  t_ i k a ρ=ϵ ρ.ß (ϲG<|.ol<|ys++zs):=by
 erw[t_];rw[h,H];simp only[cB,bc,f,c,g,b,K83]
end
def Cq(s:À Gc)(j:Nat):Bool:=s.ě λd=>match d with
 |.int q=>Õ<|q=Ĵ
 |_=>false
def jC(s:À Gc):Nat->À OD->À OD|_,[]=>[]|i,x::xs=>ϕH
def jC'{s i x xs}:jC s i ϩh=ϕH:=rfl
def Al(i c:Nat)(f:Fs):Fs:=λa=>match ϴp,a[c]? with
 |some (some<|.ol xs),some (some<|.sh<|.list ks)=>f<|Ϲm<|Ň<|jC ks 0 xs
 |_,_=>f a
theorem N1.frzS{K:At}{F H:Hp}(S:À Gc)(i:Nat){s:À V}{X:À OD}{f:À Ix}(o:ψ s X f)(nd:f.Í):
  ∃d c:À Ix,(∀a,a∈f↔a∈d\/a∈c)/\c.Í/\(∀a∈d,a∉c)/\∀G,ϲu G->(∀a∈d,∀o,H a=Ö->G a=Ö)->ϷM G H s (jC S i X) c:=by
 induction X generalizing i s f with
 |nil=>cases o;show([],[],(λa=>Û),K8w,(ϰW ϫ4),λG e k=>N1.nil)
 |cons x r0 ih=>
 cases o with
 |@cons _ _ fh fr _ _ h r=>
  rw[K9T]at nd;let(N,t,n):=nd;let(d,c,A,j,w,l):=ih (i+1) r t;cases p:Cq S i=true
  .apply(fh++d,c,λa=>?_,j,λa m M=>?_,λG e k=>?_)
   .rw[K9Y,K9Y,A a]
    constructor
    .rintro(z|z|z)
     .show Ð<|Ð z
     .show Ð<|Ø z
     show Ø z
    rintro((z|z)|z)
    .show Ð z
    .show Ø<|Ð z
    show Ø<|Ø z
   .rcases K9Y.mp m with z|z
    .show n a z a ((A a).mpr<|Ø M) rfl
    show w a z M
   erw[jC];rw[Os p];let:=N1.cons (K:=K) (F:=G) (H:=H) (f:=[]) (g:=c) (Own.sh<|h.Ė e (ϵH (k a (ϰA m) o q)))<|l G e (ϲR (Τ m));show this
  show(d,fh++c,λa=>?_,?_,λa m M=>?_,λG e k=>?_)
  .rw[K9Y,K9Y,A a]
   constructor
   .rintro(z|z|z)
    .show Ø<|Ð z
    .show Ð z
    show Ø<|Ø z
   rintro(z|z|z)
   .show Ø<|Ð z
   .show Ð z
   show Ø<|Ø z
  .rw[K9T]
   show(N,j,λa m b Q=>n a m b<|ϻQ<|Ø Q)
  .rcases K9Y.mp M with z|z
   .show n a z a ((A a).mpr<|Ð m) rfl
   show ϤF z
  erw[jC];rw[P3 p];show ą (h.á e (ϵH q))<|l G e k
def AlD{i c f}{a:Env}(h:∀xs ks,ϴp=Â (Â ϱp)->a[c]?=some (â ks)->False):ύr a=f a:=by
 erw[Al];cases e:a[i]? with
 |none=>rfl
 |some o=>
  cases o with
  |none=>rfl
  |some x=>
   cases x with
   |ol xs=>
    cases g:a[c]? with
    |none=>rfl
    |some o=>
     cases o with
     |none=>rfl
     |some y=>
      cases y with
      |sh d=>cases d with|list ks=>cases h xs ks e g|_=>rfl
      |_=>rfl
   |_=>rfl
def Ud(h:Ϭ ύr):ϻ4 f D σ H:=by
 let(F,I,P,S,p):=h;cases h:∃X s,I[i]?=Â (Â Ϧh)/\I[c]?=some (Ĕ<|Ï s)
 .let(X,s,e,g):=h
  erw[Al]at p;rw[e,g]at p
  let(v,f,g1,g2,u,y,rfl,B):=Ϸ9;cases y with
  |@ol a vs _ fl ha hv=>
   let nd:=S.nd;let N:=nd;simp only[K9T,K9Y,K92,K8k,K8v]at N;obtain⟨C,⟨na,E,G,l⟩,g⟩:=N;let(d,j,A,r,t,x):=N1.frzS s 0 hv E;let k:∀b∈d,ώi:=λb m=>S.fr b (Ϯ<|ϻQ<|Ð m);let o:=B ϔu H (gh k) ϧR (É a) (.ol<|jC s 0 X) (a::j) (.ol ha<|x _ (gh k) λb m o q=>Ô (pI m) q);rw[vj u]at o;let sub:∀b∈ϵu (a::j),b∈ϵu (a::fl)/\b∉d:=λb m=>by
    simp only[K9Y,K8v,K92]at m⊢;rcases m with m|(m|m|m)
    .exact(Ð m,λz=>g b m b (Ø<|Ð<|ϻQ<|Ð z) rfl)
    .exact(Ø<|Ð m,λz=>na<|Ð<|by rw[<-m];show ϻQ<|Ð z)
    .exact(Ø<|Ø<|Ð<|ϻQ<|Ø m,λz=>t b z m)
    show(Ø<|Ø<|Ø m,λz=>l b (ϻQ<|Ð z) b m rfl)
   let T:ż (ϵu<|a::fl) ϔu H (ϵu<|a::j):=⟨gh k,ϫz,λb m=>Ð (sub b m).1,λb h m z=>by
    rw[gO λw=>m<|Ϯ (ϻQ<|Ð w)]
    show z⟩
   show(ϔu,_,_,(x8 S.Î,o,?_,ϹN,Ô K8z S.í),ϓF p)
   .simp only[K9T,K9Y,K92,K8k,K8v]
    show(C,(ϩg,r,G,λb m c Q=>l b (ϻQ<|Ø m) c Q),λb m c Q=>?_)
    .rcases z with z|z
     .show na<|Ð<|(A a).mpr<|Ø z
     show na<|Ø z
    rcases Q with z|z|z
    .show ϑ1<|Ð z
    .show ϑ1<|Ø<|Ð<|(A c).mpr<|Ø z
    show ϑ1<|Ø<|Ø z
   rw[gO (sub b m).2];show S.fr b (sub b m).1
 rw[AlD λX s e g=>h ⟨X,s,e,g⟩]at p;show(F,I,P,S,p)
def Qi{T:No}(i c:Nat)(h:Ϧ T f):Ϧ T ύr:=ũ psI Ŷ (Ud q)
def oz(X:À OD):À Gc->Ü (À Gc)
 |[]=>Â []
 |.int q::r=>match Ϲt q with
  |some j=>match ę X with
   |some (.sh d)=>Ê (oz X r) λs=>d::s
   |_=>none
  |none=>none
 |_::_=>none
def Gd(i c:Nat):Fe:=λa=>match ϴp,a[c]? with
 |some (some<|.ol xs),some (some<|.sh<|.list ks)=>ϑc (oz xs ks) (Ë ϯU (ģ ϶a) Î) Î
 |_,_=>Î
def wX(s:À V)(w:V):V:=match w with
 |.int q=>Ó (atI s q) Β
 |_=>Β
private def NZ{K:At}{F H:Hp}{s:À V}{X:À OD}{f:À Ix}(o:ψ s X f):∀{ws:À V}{k d:À Gc},ž ws k->oz X k=ϰN->ž (ws.Ç<|wX s) d/\∀(i:Nat)(w:V),ws[i]?=some w->∃(q:Int)(y:V),w=V.int q/\atI s q=ϰO:=by
 ext ws
 induction ws with
 |nil=>ext _ _ r e;cases r;erw[oz]at e;cases e;show(õ,λi w h=>ϫr)
 |cons w0 ws ih=>
  ext _ d r e;cases r with|cons h r=>
  cases h with
  |int q=>
   erw[oz]at e;split at e
   .rename_i j J
    split at e
    .rename_i d' D
     let(E,he,rfl):=XL.mp e;let(R,m):=ih r he;let(y,c,_,_,y1,y2,_,_):=o.at D;cases y2 with
     |sh yr=>
      let a:atI s q=ϰO:=by erw[atI];rw[o.len,J];show y1
      show(ą (by change Ŀ F (Ó (atI s q) V.non) d';rw[a];show yr) R,λi w W=>?_);cases i with
      |zero=>
       simp at W;subst W;show(q,y,rfl,a)
      |succ i=>show m i w ϚH
    cases e
   cases e
  |non=>erw[oz]at e;cases e
  |bl b=>erw[oz]at e;cases e
  |str x=>erw[oz]at e;cases e
  |lst _ _=>erw[oz]at e;cases e
  |tup _ _=>erw[oz]at e;cases e
  |dct _ _ _=>erw[oz]at e;cases e
def Yz(h:ď (Gd i c) σ H Q):EF (ϓ0<|iX c) (uZ 0) OW (Ϗe<|iX 0) 1 [(i,x)] σ H Q:=by
 let(F,T,L,S,p):=h;erw[Gd]at p;replace p:=azOL p;let(xs,O,e1,E,p):=p
 replace p:=azO p;let(I,d,p):=p
 replace p:=ϱO;let(g,p):=p
 let(v,f,g1,g2,k,o,_,_):=S.own.at e1;let(w,J,_,_,t,u,_,_):=S.own.at E;cases o with
 |@ol l vs _ fl hl ov=>
  cases u with
  |sh kr=>
   cases kr with
   |@lst a ws _ rd rw'=>
    let(r,R):=NZ ov rw' d;let s:slots 1 [(i,x)] σ=[none,Â<|É l]:=by
     erw[slots];change [none]++[(á σ).join]=_;rw[k];rfl
    show(É a,t,a,rfl,(ws,(rd.Î S.Î).sq),λD e=>?_);rw[s];show NN (K:=M.K) (xs:=ws) (PvM H D λi=>Ê (ws.Ö i) Ϧg) (PvM.start e Û) (λi A b _ pv=>((rd.Î S.Î).same pv.2.1).sq) (λi y A b Y pv=>?_) λA b pv=>?_
    .let(q,z,rfl,Z):=R i y Y
     let N:=(ZB.mp Y).1;let lw:=r.í;rw[K0]at lw;show((rfl,trivial),?_);erw[OW];simp only[reduceIte];show(É l,rfl,Ä q,rfl,l,vs,q,z,rfl,rfl,SqL.of<|pv.2.1 _ _ hl,Z,?_);show PvM.yes e pv ?_ ?_
     .show ß ws.Ö (i+1) Ϧg=Ê (ws.Ö i) Ϧg++[z]
      rw[Zck,Y,K9i];let j:Ϧg (Ä q)=z:=by change Ó (Ť vs q) V.non=z;rw[Z];rfl
      show _++[Ϧg<|Ä q]=_;rw[j]
     change ϥY (Ã (Ê (ws.Ö i) Ϧg));rw[K0,K9f];show zH Á
    let(C,B,G):=pv
    let P:A=ß ws.Ö ws.À Ϧg:=C;rw[K90 ì]at P;subst P;show p (É D) F b [D] ⟨ϰ2,B,S.same.Å B,Ϸ6⟩ ⟨.ol G<|N1.shs r,Û,λa m=>by
     let:a=D:=ϲE
     rw[this];show S.Ę e⟩ λa m=>by
     let:a=D:=ϲE
     rw[this];show e
section
variable{M:Mx}{X:Cx}{p p1 p2 p3 p4 p5 pos spos:Pos}
def SX(B:ϯz [(i,x)])(h:X.à)(j:X.N[bi]?=ϧ)(k:ϲg b)(l:ϗ)(a:X.N[c]?=Â z)(V:Ϫ4 z)(hg:ϻC (PG (ϧi [y] (Ê [(i,x)] Ž) n) (ϱ9 y p4)<|uZ 0))(he:ϻC ((ϧi [y] (Ê [(i,x)] Ž) n).K=M.K->PE (ϧi [y] (Ê [(i,x)] Ž) n) (ŕ (ð p1) (ϱ9 y p2) p3) (Ϗe<|iX 0)))(e:ϱD (Ł<|z==ϚY))(d:ϱD (Ł<|z==ϐq))(w:à (ϬL (.ListComp (ŕ (ð p1) (ϱ9 y p2) p3) [⟨ϱ9 y p4,ϱ9 z p5,[],0⟩] scope pos) (Â<|ϱ9 b p) spos.line X.Ü=Ϭp))(S:ϐA (∀v,foldedSetIterable (ϱ9 z p5) X.Ü v=pure v))(f:ϕ (X.fn b=true\/X.è b=Â ο)):
  Ϧ (ϴZ [ϱ9 b p] (.ListComp (ŕ (ð p1) (ϱ9 y p2) p3) [⟨ϱ9 y p4,ϱ9 z p5,[],0⟩] scope pos) spos) (ax bi<|Rs<|Gd i c):=λm o=>
 psI (OU (wi:=ϓ0<|iX c) (g:=uZ 0) (tc:=OW) (te:=Ϗe<|iX 0) [y] h j k B l (Nx M.K m<|eJ a V e d) hg (Ϻj NW) (όN<|όr n m) w S f) λD r H q=>by let Q:=Kc (Dh j) q;show Yz<|MY Q
end
end L3
namespace L3
open PySem L2
def Ue(h:á ρ=Â (Â ϱp))(H:ρ[c]?=some (â ks)):ύr ρ=f (ϰs<|Ň<|jC ks 0 xs):=by erw[Al];rw[h,H]
def Xi(h:á ρ=Â (Â ϱp))(H:ρ[c]?=some (â ks))(f:oz xs ks=some ds)(a:ϯU):Gd i c ρ=ģ ϶a:=by
 erw[Gd];rw[h,H];change(ϑc (oz xs ks) (Ë ϯU (R.ok (ϲw ϶a)) Î) Î)=_;rw[f];change(Ë ϯU _ _)=_;rw[Os a]
def rH(s:À Gc):∀(X:À OD)(i j:Nat),ę (jC s i X)=Ê (ę X) λx=>if Cq s (i+j)=true then Đ x.er else x:=by
 induction _ with
  |nil=>
   intro i j
   simp[jC]
  |cons x X ih=>
   ext i x24
   cases x24 with
    |zero=>
     simp[jC]
    |succ j=>
     rw[jC',Zbs,Zbs,ih (i+1) j,ê (i+1+j=i+(j+1))]
def zL(s:À Gc):∀(X:À OD)(i:Nat),Ã (jC s i X)=X.À:=by
 induction _ with|nil=>ext i;show rfl|cons x X N3=>ext i;rw[jC',K9p,K9p,N3<|i+1]
def Qn(s:À Gc):∀(X:À OD)(i:Nat),Ê (jC s i X) OD.er=ϳf:=by
 induction _ with
 |nil=>ext i;show rfl
 |cons x X N3=>
  ext i;rw[jC',K9w,K9w,N3<|i+1];congr 1
  split
  .show ϰn
  rfl
open PySem.Spec PyProof.Rows
section
variable{X:Cx}{pos:Pos}
variable{outs:À ϴM}{it:Fi}
def si(own:À Str)(s:Da)(H:Hp)(C:Ix)(ex:À Ix)(p:À ŝ):(υ C ex p).N.length=ϤW:=by
 change Ã (own++ϵC Ž)=_;rw[K9v,K0]
def J2(own:À Str)(B:϶Y)(l:ϗ)(k:Ϯy)(hi:ϸf iter it)
  (hg:ϹE (ϥg (υ C ex p))) (c:ϹE (ύf (υ C ex p))) (he:ϹE (ύg (υ C ex p)))
  (S:ϸZ):ï ϳO ϭW:=λm h=>
 peI (L5 (wi:=ϑw it) (g:=tG M ϤW is gg) (tc:=tT M ϤW ta) (te:=tD M ϤW el) own B l (hi m h)
  (λs H C ex p=>ϧb (ϓA p m h)) (λs H C ex p=>ϧb (ϔn p m h)) (λs H C ex p=>ϧb (όr p m h)) S) λ_ _ _ q=>MU k q
def NO(own:À Str)(w:∀b H Q,ϧC fe b H Q->ϧC ϭW b H Q)(N:X.à)(h:á X.N=Ď)(e:ϲg x)(B:϶Y)(l:ϗ)(k:Ϯy)(hi:ϸf iter it)(hg:ϻC (ϥg (υ C ex n)))(c:ϻC (ύf (υ C ex n)))(he:ϻC (ύg (υ C ex n)))(S:à (ϬL ϳO (Â<|ð p) spos.line X.Ü=Ϭp))(d:ϸZ)(f:ϕ (ϳg\/ϱW=Â ο)):
  Ϧ (ϴZ [ð p] ϳO spos) (ax i fe):=λm a=>
 psI (D5 (wi:=ϑw it) (g:=tG M ϤW is gg) (tc:=tT M ϤW ta) (te:=tD M ϤW el) own N h e B l (hi m a)
  (όN<|ϧb (ϓA n m a)) (όN<|ϧb (ϔn n m a)) (όN<|ϧb (όr n m a)) S d f) λD b H q=>by
  let o:=Kc (Dh h) q;show MU k<|w _ _ _ o
end
def insI(x:Int):À Int->À Int|[]=>[x]|y::r=>Ë (x<=y) (x::y::r) (y::insI x r)
def AL:À Int->À Int|[]=>[]|x::r=>insI x<|AL r
def insI_perm(x:Int):∀r:À Int,(insI x r).Perm (x::r):=by
 ext Y
 induction Y with
 |nil=>show .refl _
 |cons y r N3=>
  erw[insI];split
  .show .refl _
  show ĉ ((N3).cons y)<|.swap x y r
def E7:∀r:À Int,(AL r).Perm r:=by
 induction _ with|nil=>show .refl _|cons x r N3=>show ĉ (ϙS<|AL r)<|(N3).cons x
private theorem wH(x:Int):∀{r:À Int},r.Ĉ Ϩ5->Ϥd (insI x r) Ϩ5
 |[],_=>List.pairwise_singleton _ _
 |y::r,h=>by
  let h':=List.pairwise_cons.mp h;erw[insI];split
  .rename_i H
   show Ϛr ⟨ϨP,h⟩;rcases K8v.mp Z with rfl|Z
   .show H
   .show Zeq H<|h'.1 z Z
  .rename_i H
   show Ϛr ⟨ϨP,wH x h'.2⟩;rcases K8v.mp ((ϙS r).mem_iff.mp Z)with rfl|Z
   .lia
   .show h'.1 z Z
def BR:∀r:À Int,Ϥd (AL r) Ϩ5:=by
 induction _ with|nil=>show List.Pairwise.nil|cons x r N3=>show wH x<|N3
def sY:∀{a b:À Int},a.Perm b->a.Ĉ Ϩ5->b.Ĉ Ϩ5->a=b:=by
 induction _ with
  |nil=>
   ext b p _ _
   exact (List.nil_perm.mp p).symm▸rfl
  |cons x r ih=>
   ext x25 p ha hb
   cases x25 with
    |nil=>
     let:=p.length_eq;simp at this
    |cons y t=>
     let h:=List.pairwise_cons.mp ha;let f:=List.pairwise_cons.mp hb;let e:x=y:=by
      let M:=K8v.mp<|p.mem_iff.mp K9z;let Q:=K8v.mp<|p.mem_iff.ó<|K9z (a:=y) (l:=t);rcases M with e|M
      .show e
      .rcases Q with e|Q
       .show e.Ï
       .show Zdh (h.1 _ Q)<|f.1 _ M
     subst e;rw[ih p.cons_inv h.2 f.2]
def LD:À Gc->Ĭ
 |[.list ds]=>match dN ds with
  |some ns=>Ë (ns.À<64) (.ok (Ę<|ß AL ns int)) Î
  |_=>Î
 |_=>Î
def ou:∀{s:À Db}{ns:À Int},ϫv->ţ ϱE s|_,_,.nil=>õ|_,_,.cons n t r=>ą ϓz<|ou r
def Ni{K:At}{F:Hp}:∀(ns:À Int),ž ϱE ō:=by
 induction _ with|nil=>show õ|cons n r N3=>show ą (Ä n)<|N3
def Vw(K:At):À V->Hp->Ú VK:=ϷB (∃(a:Ix)(ns:À Int),X=[É a]/\μ a ϱE/\ns.À<64/\∀n:À Int,n.Perm ns->n.Ĉ Ϩ5->∀l,H l=none->Q (É l) (ļ l<|ô ϒ0))
section
variable{X:Cx}{M:Mx}
def MV:ϳM (Ρ "sorted") (Vw X.K):=by
 ext p s g H x U Q I r h;let(a,ns,rfl,d,f,q):=h;let(u,rfl,L):=Ϩw;cases L;let(i,R,pl,z):=I.ê d;let hi:ϫx:=intsAre_of R;let l:i.À=ns.À:=IntsAre.length hi;show sorted_ints pl.Ê hi Á λout n c A w=>?_;let(e,he):=sortedAll_at s.heap i out;let Z:ŀ (Ã ϒ0):=by rw[K0,A.length_eq];rw[K0]at z;show z
 show(É<|ů 1,_,ϮV (o:=ô ϒ0) (λb o B=>sortedAll_old B) Ϸt ⟨Z,out.toList,e,ou c,?_⟩,rfl,q n A w _<|I.É Ϸt);rw[Array.toArray_toList];show he
def JQ(K:At)(h:ϺA):ϳM (Ρ "sorted") (Vw K):=ϥb MV
def Ul(m:Υ):ϻD Vw LD:=by
 rw[m];show Ϫz;cases e:dN d with
 |none=>rw[e]at p;show ú
 |some ns=>rw[e]at p;rw[tW e]at h2;rw[ϧ3]at h1;let(L,p):=ϱO;show(a,ns,rfl,ϷW,L,λn b c l L=>?_);let e:n=AL ns:=ϛU<|BR ns;subst e;show ϫA (Ni _) L
end
def U0:ϱP OD|.sh _=>true|_=>false
open Classical in
def vE(F:Hp)(f:À Ix):Hp:=λb=>if b∈f then none else F b
def BA(h:b∈f):ϩe b=none:=ű vE ϰo
def i4(h:b∉f):ϩe b=F b:=ű vE ϱA
section
variable{K:At}{F H:Hp}{f:À Ix}
def Ha{s:À V}{X:À OD}{g:À Ix}(h:ψ s X g)(e:ϴ X.all U0):g=[]:=by
 induction X generalizing s g with
 |nil=>cases h;rfl
 |cons x X i=>
  cases h with
  |cons h r=>
   rw[K80,K9U]at e;let:=i r e.2;subst this;cases h with
   |sh _=>rfl
   |ol _ _=>cases e.1
   |ot _ _=>cases e.1
   |od _ _ _=>cases e.1
   |pl _ _=>cases e.1
end
def o7:∀s:À Gc,shs ϫy=some s:=by
 induction _ with|nil=>show rfl|cons d r N3=>rw[K9w,shs',N3]
def ex1(h:ώH 1):∃a,us=[a]:=by
 cases us with
 |nil=>cases h
 |cons a r=>
  cases r with|nil=>show(a,rfl)|cons b r=>cases h
def ex2(h:ώH 2):∃a b,us=ϲa:=by
 cases us with
 |nil=>cases h
 |cons a r=>let(b,e):=ex1 ϑE;show(a,b,ϹT)
def ex3(h:ώH 3):∃a b c,us=϶s:=by
 cases us with
 |nil=>cases h
 |cons a r=>let(b,c,e):=ex2 ϑE;show(a,b,c,ϹT)
def ex4(h:ώH 4):∃a b c d,us=[a,b,c,d]:=by
 cases us with
 |nil=>cases h
 |cons a r=>let(b,c,d,e):=ex3 ϑE;show(a,b,c,d,ϹT)
def eD0:Fe:=λ_=>.ok ώk
def ZO(h:ď eD0 σ H Q):MF σ H Q:=by
 let(F,c,f,S,p):=h;ext q a;let P:Ϸ ώk:=p;let l:F q=none:=S.Ę a;show P (É q) F _ [q] ⟨Ϸ6,όw,όw,λb z w=>w⟩ ⟨ϚW õ,Û,ϹN⟩ ϹN
 .let B:b≠q:=ϗx
  rw[ϷL];show z
 .let B:b≠q:=by ext rfl;rw[l]at z;cases z
  rw[ϷL];show S.Î _ _ z
 .let:b=q:=ϲE
  rw[this];show l
 let:b=q:=ϲE
 rw[this];show a
def X4{pos:Pos}:ï Ϛa eD0:=λ_ _=>peI J3 (ϲK ZO)
def ZJ(a:Env):eD0 a=Ħ ώk:=rfl
def cQ(i:Int):Bool:=Õ<|Builtin.Int.intBits i<=1048576
def gn:ϰd
 |.int i,.int j=>Ë (ϻf cQ) (oI (i*j)) Î
 |_,_=>Î
def BQ:ϴC Mult (rI (λi j=>ϻf cQ) λi j=>Ä<|i*j):=ϐc (mul_int q (by rw[K9U]at C;show IntMulOk.of_bits (ϷR C.1)<|ϷR C.2))
def x6:ϩ (rI (λi j=>ϻf cQ) λi j=>Ä<|i*j) gn:=Ϫu
def fP{i j:Int}(h:cQ i=true)(H:ϵQ cQ):gn (Ä i) (Ä j)=.ok (Ñ<|i*j):=by
 change(Ë (ϻf cQ) _ _)=_;rw[h,H];rfl
def pB{i:Int}(h:ϐv<i)(H:Ϙ4):cQ i=true:=
 Z8 (ϛY Ý)
end L3
namespace L2
open PySem PySem.Spec PyProof.Rows
def fK(N n:Nat):À Db:=Ê ϲl λj=>ϭa<|N+j
structure ZS(h:Op)(n0 n:Nat)(ls:ņ)(is:ņ)(f0:Db)(arr:À Db):Prop where
 zp:ϦJ (ϱS+2)=Â ((ϸ2 "zip" (ϐ #[f0,ã false,ã false,É ϱS,É<|ϱS+1])))
 ti:ϦJ ϱS=Â ((Ċ "tuple" (ϰe (ϺC n))))
 to:ϦJ (ϱS+1)=Â ((Ċ "tuple" (δ arr.Æ)))
 it:∀j,j<n->h.Ú ϦF Ϻp (is j)
def neN(h:a≠b):@Ne Ix a b:=h
def ZS.draw(Z:ϪR)(J:j<n)(s:ϔM ϦF h h1)(l:h1.Ú ϦF Ϻp (is j+1))(S:ϔM (ϱS+1) h1 h2)(k:h2.È (ϱS+1)=Â ((Ċ "tuple" (δ arr'.Æ)))):ZS h2 n0 n ls (λm=>Ë (m=j) (is m+1) (is m)) f0 arr':=by
 let up:∀c,c≠ϦF->c≠ϱS+1->h2.È c=h.È c:=λc c1 L=>ĉ (ϥ1<|neN L)<|s.2 c<|neN c1;show(ĉ (up _ Á Á) Z.zp,ĉ (up _ Á Á) Z.ti,k,Ϩm);cases e:m=j
 .subst e
  change h2.Ú _ _ (Ë (m=m) _ _);rw[Ĝ];show l.at λo q=>ĉ (ϵy<|neN Á) q
 change h2.Ú _ _ (Ë (m=j) _ _);rw[ϲt];show ϭb Z.it λo q=>ĉ (up _ Á Á) q
def ZS.flag(Z:ϪR)(S:Heap.ExtBut (ϱS+2) h h1)(z:h1.È (ϱS+2)=Â ((ϸ2 "zip" (ϐ #[f1,ã false,ã false,É ϱS,É<|ϱS+1])))):ZS h1 n0 n ls is f1 arr:=
 ⟨z,ϤE (neN Á) Z.ti,ϤE (neN Á) Z.to,λm M=>ϭb Z.it λo q=>ϤE (neN Á) q⟩
def ZS.pos(Z:ϪR)(e:∀j,j<n->is j=is' j):ZS h n0 n ls is' f0 arr:=
 ⟨Z.zp,Z.ti,Z.to,λm M=>Ϙ (e m M) (Z.it m M)⟩
def Xn{x:ϥ6}{arr:À Db}(A:arr.À=n)(J:j<n):(Ê Ϥf x++ϻG).toArray.setIfInBounds j (x j)=Ϻo (Ā (j+1) x++ϯA):=by
 rw[List.setIfInBounds_toArray];congr 1;let e:ϻG=arr[j]::ϯA:=K8N Á;rw[e,Zdq _ _ Û,K0,Z7,K8c,Zfd,K8A,K9i,K9M];rfl
def De{rest:À (Db×Nat)}(h:y::rest=ύk (ϺC n) j):j<n/\y=(É ϦF,j)/\rest=ύk (ϺC n) (j+1):=by
 let L:ϓY (ϺC n)=n:=ϏI
 let J:j<n:=by
  let:=Ż h;rw[K9p,K8y,L]at this;lia
 let e:=K8N (l:=(ϺC n).zipIdx) (i:=j) Á;rw[e]at h;injection h with H a
 show(J,?_,a);rw[H,List.getElem_zipIdx];erw[fK];rw[Zcn,K85,K87]
section
variable{A:Go}{s:Da}
def Iv{l:ņ}{X:Nat->Η Db}{x:ϥ6}{arr:À Db}{Q:Db->Ú Da}(u:Θ 3 (l j<n0))(Z:ϧp s.Ì 3 ò)(P:ϨI 3)(hl:Θ 3 (ϳV (l j) (X j)))(hx:Θ 3 (ύC=Â (x j)))(hQ:∀h',ϭV 3 (Ā 3 x)->ϺS=Â ((Ċ "tuple" (ϰe (Ā 3 x))))->
   (ώ Ϫ0<|ϱX Ö h'.È)->Q (É s.Á) ϰH):
  ϰF (Builtin.«zip.__next__» (ϱc [É Ϥh])) Ϗm E s:=by
 change Ϟ (ϵF 2);show Ps<|ϲ7 (ã false) ?_;change Ϟ (ϵF (2+1));show Ps<|ϲ7 (É<|n0+3) ?_;show ϧV Z.ti;change Ϟ (ϤT _);show ϲZ;erw[Builtin.SmallTypes.ownedTupleIsFree];show Ps<|ϲ7 ò ϴ1;simp only[K83];show ϪZ;show Ps<|ϲ7 (É Ϩ6) ?_;show Ps<|ύs Û (λh₁ z h=>?_);show ϲZ;let V:ϧp h₁ 3 ϸj:=ϯp z
 show wpAny_forIn_list _ (λrest b d=>b=(none,())/\∃j p,j<=3/\rest=ύk (ϺC 3) j/\ϐ4/\ώL 3 (λm=>ϧA (m<j)) ϸj (Ê Ϥf x++ϻG)/\
  ϏJ/\ώ Ϫ0 (ϱX Ö p.È)) _ ?_ ?_ _ _ ⟨rfl,0,h₁,ϰS,rfl,rfl,V.pos λj _=>rfl,h.1,ϷC (ĉ (ϬE<|neN Á) q)⟩
 .rintro y rest b d ⟨rfl,j,p,hj3,hr,rfl,Zj,hsz,hk⟩
  let(J,rfl,R):=De hr;show ϮK;change Ϟ (Builtin.SmallTypes.nextOf (É ϦF));let hi:=Zj.it j J;let W:(ϧA<|j<j)=k:=P3 ϵJ;let r:ϓb (l j):=ϕ9;show Ps<|Ϗc Ϙs (λi I S=>ϴ1);let t:i.È Ϩ6=Â ((Ċ "tuple" (ϰe (Ê Ϥf x++ϻG)))):=ĉ (ϵy<|neN Á) Zj.to;show Ps<|K8F t rfl ?_;let n:Ã (Ê Ϥf x++ϻG)=3:=ϗR
  show Ps (ϔ6 ϗ9);show ϓm ϴ1;let f:=K7p i Ϩ6 ϭ2;let T:ϰV (i.Ĝ Ϩ6 ϭ2) Ϩ6=Â ((Ċ "tuple" (ϰe (Ā (j+1) x++ϯA)))):=ϕx
  show(rfl,j+1,_,Á,R,rfl,ϖ7,ĉ f.1<|ĉ S.1 hsz,ϷC (ĉ (ύ0<|neN Á)<|ĉ (ϥ1<|neN Á) Ϩf));cases e:m=j
  .subst e
   rw[Ĝ,P3 ϵJ,Os ϩT]
  rw[ϲt];cases N:m<j
  .rw[Os N,Os Á]
  rw[P3 N,P3 Á]
 ext b d ⟨rfl,j,p,hj3,hr,rfl,Zj,hsz,hk⟩;let J:j=3:=by
  let L:ϓY (ϺC 3)=3:=ϏI
  let:=Ż hr;rw[K8y,L,K8U]at this;lia
 subst J;let Y:Ā 3 x++arr.ä 3=Ā 3 x:=Ĥ (Zdj Á) K9d
 rw[Y]at Zj;let g:ώL 3 ϻE ϸj (Ā 3 x):=Zj.ú λm U=>Os U;show ϧV g.to;show ϐy;show ϲZ;erw[Builtin.SmallTypes.ownedTupleHandOut];let G:ZS (p.û (Ċ "tuple" (ϰe (Ā 3 x)))) n0 3 l ϻE ϸj (Ā 3 x):=g.flag (λb o _ q=>ő q)<|ő g.zp;let F:Ϥh<p.Â:=K9h g.zp;show Ps<|K8K G.zp Û λh7 B H=>?_;let K:ZS h7 n0 3 l ϻE ϮI (Ā 3 x):=G.flag H.Ģ B;show K8K K.zp Û λO D a=>?_;let M:ZS O n0 3 l ϻE ϮI (Ā 3 x):=K.flag a.Ģ D;show ϐ5;change Q (É p.Â) _;rw[hsz]at M F⊢;show hQ O M ?_ (ϷC (ĉ (a.2 c<|neN Á)<|ĉ (H.2 c<|neN Á)<|ő Ϩf));show ĉ (a.2 _<|neN Á)<|ĉ (H.2 _<|neN Á) ?_;rw[<-hsz];show Ϣ
def IQ(j:ϷV)(t:ϱf<n0)(Z:ϧk s.Ì 3 ò)(L:ϳV ϱf xs)(X:όx)(i:∀h' e,(ώ Ϫ0<|ϱX Ö h'.È)->(∃o,ϨN=Ö/\o.cls=Ω "StopIteration")->E (É e) ϰH):
  ϰF (Builtin.«zip.__next__» (ϱc [É Ϥh])) Q E s:=by
 change Ϟ (ϵF 2);show Ps<|ϲ7 (ã false) ?_;change Ϟ (ϵF (2+1));show Ps<|ϲ7 (É<|n0+3) ?_;show ϧV Z.ti;change Ϟ (ϤT _);show ϲZ;erw[Builtin.SmallTypes.ownedTupleIsFree];show Ps<|ϲ7 ò ϴ1;simp only[K83];show ϪZ;show Ps<|ϲ7 (É Ϩ6) ?_;show Ps<|ύs Û (λh₁ a h=>?_);show ϲZ;let V:ϧk h₁ 3 ϸj:=ϯp a;change ϶j _ ϖl _;rw[Zdt];show Ps ϮK;change Ϟ (Builtin.SmallTypes.nextOf (É<|n0+0));let l:h₁.ù ϱf xs:=L.at λo q=>ĉ (h.2 _<|neN Á) q;show Ps<|Ϗ1 ((ϹJ h₁)) j (V.it 0 Ý) l X (λm e S he=>?_);let(O,H,C):=he;let b:=ϤE (neN Á) V.zp;let d:e≠Ϥh:=ϕ1
 show K8K b Û λg _ f=>i g e (λc o n q=>ĉ (ύ0<|neN Á)<|S c o (neN Á)<|ĉ (ϬE<|neN Á) q) ⟨O,ĉ (f.2 e d) H,C⟩
def F6{l:ņ}{xs:Nat->Η Db}{x:ϥ6}{arr:À Db}{Q:Ch->Ú Da}(L:Θ 3 (l j<n0))(Z:ϧp s.Ì 3 ò)(H:ϨI 3)(d:Θ 3 (ϳV (l j) ϩP))(X:Θ 3 (ϫ ϩP=Â (x j)))(q:∀h',ϭV 3 (Ā 3 x)->ϺS=Â ((Ċ "tuple" (ϰe (Ā 3 x))))->
   (ώ Ϫ0<|ϱX Ö h'.È)->Q (Â<|É s.Á) ϰH):
  ϰF (pyNext<|É Ϥh) Q E s:=by
 let h:Ϥm (É Ϥh) "zip":=(ϲi Z.zp);erw[pyNext];show Ps<|wpAny_attempt<|ϭJ<|Ϛ8 ϮL
def FT(H:ϷV)(L:ϱf<n0)(Z:ϧk s.Ì 3 ò)(a:ϳV ϱf xs)(x:όx)(q:∀h',(ώ Ϫ0<|ϱX Ö h'.È)->Q none ϰH):
  ϰF (pyNext<|É Ϥh) Q E s:=by
 let h:Ϥm (É Ϥh) "zip":=(ϲi Z.zp);erw[pyNext];show Ps<|wpAny_attempt<|ϭJ<|ϔ2 IQ ϮL;let(o,j,C):=he;show Ps<|ώW<|K9J<|q _ K
end
def dh(h:Op)(l:Nat):Op:=h.û (Ċ "list_iterator" (ϐ #[É l,Ä 0 0]))
def DZ(a b c:Db):checkTypeCall "zip" (ϱc ϶s)=pure ():=ϑ8
def FU(a b c:Db):checkBuiltinCall "zip.__new__" (ϱc [Ω "zip",a,b,c])=pure ():=ϑ8
def Cn(e a b c:Db):argsOk "object.__init__" (ϱc [e,a,b,c]):=by
 erw[argsOk];rw[signature?_of (id:="object.__init__") (n:=['_','_','t','i','n','i','_','_']) (o:=['t','c','e','j','b','o']) ϑ8 PySem.F.owner_object]
 kernel_rfl
def zA3(h:Op)(l L a:Nat):Op:=(dh ϫg a).push (Ċ "tuple" (δ #[É h.Â,É (Ι (dh h l)),É (Ι ϫg)]))
def zB3(h:Op)(l L a:Nat):Op:=(zA3 h l L a).push (Ċ "tuple" (δ #[ò,ò,ò]))
def zC3(h:Op)(l L a:Nat):Op:=(zB3 h l L a).push (Ċ "zip" (ϐ #[ò,ã false,ã false,É (Ι (dh ϫg a)),É (Ι (zA3 h l L a))]))
def K9(l L a:Nat)(x X b:Η Db):
  Meets (Builtin.«zip.__new__» (ϱc [Ω "zip",É l,É L,É a])) (λ_ R s=>s.ë l x/\s.ë L X/\s.ë a b/\
   R (ϩc<|É (Ι (zB3 s.Ì l L a))) (ϹJ (zC3 s.Ì l L a))):=
 .of_wp λprog w A R s h=>by
  let(p,g,d,tk,os):=s;let(N,f,i,h):=h;let U:=sub_zip;let H:ϪK ⟨p,g,d,tk,os⟩ l x:=N;let c:ϪK ((ϔT (ϑ9<|(Ċ "list_iterator" (ϐ #[É l,Ä 0 0]))))) L X:=(Heap.IsList.push f _);let e:ϪK ((ϔT (Heap.push (ϑ9<|(Ċ "list_iterator" (ϐ #[É l,Ä 0 0]))) (Ċ "list_iterator" (ϐ #[É L,Ä 0 0]))))) a b:=(Heap.IsList.push (Heap.IsList.push i _) _)
  wp_walk using Ϛe,Ϛf,wpAny_pyIter_list e
  show(_,rfl,h)
def Pn{E:Db->Ú Da}{s:Da}{ls:ņ}{xs:Nat->Η Db}{Q:Db->Ú Da}(a:Θ 3 (ϳV Ϻp ϩP))(h:∀h',Ϙ5 3 ls (Ţ 0) ò ((ϮF ò ò))->(∀c o,ϱX Ö h'.È)->Q (É<|ů 3+2) ϰH):
  ϰF (call (Ω "zip") [É ϱf,É ϵR,É ϰE]) Q E s:=by
 show ϖ8 Ý (DZ _ _ _) (FU _ _ _) (λobj=>Cn obj _ _ _) PySem.F.entry_zip_new (K9 ϱf ϵR ϰE (xs 0) (xs 1)<|xs 2) ⟨a 0 Ý,a 1 Ý,a 2 Ý,?_⟩;let Z:Ι (ϧs ϱf)=ů 1:=K8l ..;let z:Ι (ϸ1 ϵR)=ů 2:=ϐP (Ϩq Z)
 let b:Ι (dh (ϸ1 ϵR) ϰE)=ů 3:=ϐP (Ϩq z)
 let d:Ι (ώ4 ϰE)=ů 3+1:=by erw[zA3];rw[K8l,b]
 let zB:Ι (ϭR ϰE)=ů 3+2:=by erw[zB3];rw[K8l,d]
 let C:ώ (ϰV (ϭR ϰE) c=Ö) (ϰV (ϵ1 ϰE) c=Ö):=ϵV (ő q);let f:ώ (ϰV (ώ4 ϰE) c=Ö) (ϰV (ϵ1 ϰE) c=Ö):=ϵV (C c o<|ő q);let e:ώ ((dh (ϸ1 ϵR) ϰE).get? c=Ö) (ϰV (ϵ1 ϰE) c=Ö):=ϵV (f c o<|ő q);let K:ώ ((ϸ1 ϵR).get? c=Ö) (ϰV (ϵ1 ϰE) c=Ö):=ϵV (e c o<|ő q);let k:ώ (ϰV (ϧs ϱf) c=Ö) (ϰV (ϵ1 ϰE) c=Ö):=ϵV (ϭC<|ő q);let i:ώ (s.Ë c=Ö) (ϰV (ϵ1 ϰE) c=Ö):=ϵV (k c o<|ő q);let g:ϰV (ϵ1 ϰE) (Ι (ϭR ϰE))=Â _:=Ϣ;let B:ϰV (ϵ1 ϰE) (Ι (ώ4 ϰE))=Â _:=C _ _ Ϣ;let G:ϰV (ϵ1 ϰE) (Ι (dh (ϸ1 ϵR) ϰE))=Â _:=f _ _ Ϣ;let g0:ϰV (ϵ1 ϰE) s.Á=Â _:=ϱe Ϣ;let g1:ϰV (ϵ1 ϰE) (Ι (ϧs ϱf))=Â _:=K _ _ Ϣ;let g2:ϰV (ϵ1 ϰE) (Ι (ϸ1 ϵR))=Â _:=e _ _ Ϣ;rw[zB,d,b]at g;rw[d]at B;rw[b,z,Z]at G;rw[Z]at g1;rw[z]at g2;change _/\Q (É (Ι (ϭR ϰE))) _;rw[zB];show((_,g,rfl),h _ ⟨g,G,B,ϳp⟩ i)
 rcases(ê ϒD)with rfl|rfl|rfl
 .show(_,g0,rfl,rfl)
 .show(_,g1,rfl,rfl)
 show(_,g2,rfl,rfl)
def Itn(K:At)(n:Nat)(l:ņ):It:=
 (Ϯx (∀j,j<n->∃X x,μ (l j) X/\á X=Ď) (λi H v h=>∃(T:Ix)(X:À V),Ϩ2/\v=É T/\h=ļ T (Ī X)/\X.À=n/\∀j,j<n->∀y,μ (l j) y->ę X=y[i]?) (μ (l 0) X))
def zfp(N n:Nat):À Ix:=Ā (n+3) λj=>N+j
def vJ(h:c∈ϬT):n0<=c/\c<ϱS+3:=by
 erw[zfp]at h;let(j,J,rfl):=ϥ5;let:=K9G.mp J;lia
def vN(h:n0<=c)(H:c<ϱS+3):c∈ϬT:=ϲp ⟨c-n0,϶u Á,Á⟩
def xP(h:c∉ϬT):c<n0\/ϱS+2<c:=by
 cases H:n0<=c
 .by_cases a:c<ϱS+3
  .show ĭ (vN H a) h
  lia
 lia
def ZS.obj(Z:ϪR)(C:c∈ϬT):∃o,h.È c=Ö/\∀v,o.data≠š v:=by
 let:=vJ C;cases a:c<ϱS
 .let(o,e,_,d):=Z.it (c-n0) Á
  rw[ê (n0+(c-n0)=c)]at e;show(o,e,ϪG)
 let H:c=ϱS\/c=ϱS+1\/c=ϱS+2:=Á
 rcases H with rfl|rfl|rfl
 .exact(_,Z.ti,ϤZ)
 .exact(_,Z.to,ϤZ)
 show(_,Z.zp,ϤZ)
def ZS.kept(Z:ϪR)(k:∀b∈ϬT,∀o,ϷQ Ö):ZS h' n0 n ls is f0 arr:=
 (ϕe (vN Á Á) _ (k _ (vN Á Á) o q))
def Vals.of_get:∀{s:À V}{U:À Db},s.À=U.À->(Θ s.À<|∃v u,s[j]?=ĥ/\U[j]?=ķ/\ϲj)->Vals s U:=by
 ext s;induction s with
 |nil=>ext U l _;cases U with|nil=>show õ|cons _ _=>simp at l
 |cons v s ih=>
  ext U hl h;cases U with
  |nil=>simp at hl
  |cons u U=>
   let(a,m,e1,g,r):=h 0 Û;cases e1;cases g;show ą r<|ih (ť hl) ϳp;let(a,m,e1,g,r):=h (j+1) ϙI;show(a,m,ť e1,ť g,r)
def P9{P:Do}{w:Ev}{K:At}{F:À On}{tk:Nat}{pos:Pos}(N:Nat)(l:ņ)(L:Θ 3 (l j<N)):
  ϔf (.Tuple F tk pos) (Itn K 3 l) (zfp N 3) (N+3+2) (λi h=>∃arr,ϨI 3/\ZS h N 3 l (λ_=>i) ò arr):=by
 constructor
 .show vN Á Á
 .rintro i h ⟨arr,_,Z⟩ c C
  show Z.obj C
 .rintro i h h' ⟨arr,a,Z⟩ kp
  show(arr,a,Z.ò kp)
 .intro X r g m C i n s σ H E I f y hg
  subst r g m;let(arr,a,Z):=y;let pick:∀j,∃(xs:À V)(x:V)(t:À Db)(u:Db),j<3->ϴY H (l j) xs/\xs[i]?=Ď/\ϳV (l j) t.Æ/\t[i]?=ķ/\ϱ6 u:=λj=>by
   cases J:j<3
   .let(xs,x,e,o):=hg j J
    let(t,R,p,_):=I.ê e;let(u,U,ru):=R.get o;show(xs,x,t,u,Ţ ⟨e,o,p.isList,U,ru⟩)
   show([],Β,[],ò,λz=>ĭ z J)
  let(xs,pick):=ϬU;let(x,pick):=ϬU;let(t,pick):=ϬU;let(u,pick):=ϬU;show F6 L Z a (xs:=λj=>(Ϻo (t j))) (x:=u) (λj J=>(ϴz Ϩ7)) (λj J=>ť (ϴz (Ϩ7).2)) λD B M k=>?_;show(_,rfl,ϙj B.zp (λd v b=>?_));let zlt:Ϥ5 (N+3+2):=K9h Z.zp;let S:∀c,c≠N+3+2->d.È c=D.È c:=λc C=>b.2 c<|neN C;let O:∀c W,c∉zfp N 3->ϱX (some W) d.È:=λc W C q=>ϩD (xP C) (ĉ (S c Á)<|k c W this q)
  let T:=ĉ (Ϝv Á) M;let G:ZS d N 3 l (λ_=>i+1) ò (Ā 3 u):=B.flag b.Ģ v;show(É s.Á,ϵ2<|Ī<|Ā 3 x,ύ2 (h':=d) (t':=s.ã) I f O ì ?_,rfl,(_,Ā 3 x,I.fresh,rfl,rfl,rfl,λj J ys Y=>?_),(_,rfl,G),ύy)
  .apply(ϻk (ŀ 3),Ā 3 u,Vals.of_get rfl ϳp,_,T,rfl,_,rfl)
   let J:j<3:=J;show(x j,u j,ϰ7 N2 (K9Z J),ϰ7 N2 (K9Z J),(Ϩ7).2.2.2.2)
  .rw[N2,K9Z J,I.č Y (Ϩ7).1,(Ϩ7).2.1]
   rfl
  let:=vJ C;rw[aC<|neN Á];show(f c C).1
 .intro X r g m C i n s σ H E I f y hg
  subst r g m;let(arr,a,Z):=y;let(xs,e,o):=hg;let(t,R,p,_):=I.ê e;let l1:=R.À;apply FT ϳX (L 0 Ý) Z p.Ê ϳc λD k=>⟨rfl,ϧB I f (λc W C q=>k c W (xP C) q)⟩
 ext A i s Q E ⟨arr,a,Z⟩ h;show K7z Z.zp h
def iZ3(K:At)(ta:TA):TI:=ϮU (∃l:ņ,s=Ā 3 (λj=>V.ref<|l j)/\(Θ 3<|∃X,SqL K h (l j) X)/\R (Itn K 3 l) h)
def Wo{p pos tpos:Pos}(hg:γ "zip")(M:ϧG)(A:ϱT ϶s ta)(w:à (æ ϶s=(false,ϰI)::æ ϴ5))(f:à (ϰX<|ϲD<|æ ϴ5)):
  PI X (ϻu tk tpos) (ϳP "zip" ϶s) (iZ3 X.K ta):=by
 ext n s k H R I h;show Call_<|Ϩr vP<|K98 (ϫh<|Ϭ6 n s k H _ I h) w f;let(D,g,d,y,x):=zq;let(ls,e,v,q):=x;subst e;let E:u=Ā 3 λj=>ϭa Ϻp:=by
  let:∀(L:Ò)(u:À Db),Vals (L.Ç λj=>V.ref Ϻp) u->u=L.Ç λj=>ϭa Ϻp:=λL=>by
   induction L with
   |nil=>ext u r;cases r;rfl
   |cons c L ih=>
    ext u r;cases r with|cons a b=>cases a;rw[ϲ2 b];rfl
  show Ϧl _ y
 subst E;let pick:∀j,∃i:À Db,j<3->S.ë Ϻp i.Æ:=λj=>by
  cases J:j<3
  .let(xs,Q):=v j J
   let(i,B,pl,_):=d.ê Q;show(i,Ţ pl.Ê)
  show([],λz=>ĭ z J)
 let(i,pick):=ϬU;let lt:Θ 3 (Ϻp<S.Á):=λj J=>(let⟨o,e,_⟩:=Ϩ7;ϱv)
 show Pn (ls:=ls) (xs:=λj=>(Ϻo (i j))) pick λm Z K=>?_;show K7z Z.zp ?_;let l:ù n k g {S with heap:=m}:=ϙ7;show(ϲf 3+2,ϙJ 3,_,Itn X.K 3 ls,g,rfl,l,P9 _ ls lt,(_,rfl,Z),ύy,q);let t:=(vJ C).1;show Ϙ3
end L2
namespace L3
open PySem L2 PySem.Spec PyProof.Rows
def wJ(a b c:À Gc):À Gc:=Ā a.À λi=>ϱ0 [a.ď i ò,b.ď i ò,c.ď i ò]
def zN3:À Gc->R (À Gc)
 |[.list a,.list b,.list c]=>Ë ϖA (Ħ ό4) Î
 |_=>Î
def JU(al:Fa):Fi:=λa=>ó (al a) λX=>zN3 ϳf
def YK(h:ϖA):zN3 [Ï a,Ï b,Ï c]=Ħ ό4:=ϰo
def vU(h:á ό4=Ϲ4):i<a.À/\e=Ą [a.ď i ò,b.ď i ò,c.ď i ò]:=by erw[wJ]at h;rw[N2]at h;let(j,J,rfl):=Ϲ7;let(H,d):=ϩw;rw[K85]at d;rw[Z7]at H;subst d;show(H,rfl)
def we(a b c:À Gc):Ã ό4=a.À:=χ wJ K0 Z7
section
variable{M:Mx}{X:Cx}
def ZR(h:ϻi (JU al)):iZ3 M.K (ϴP al) σ H R':=by
 let(F,I,P,S,p):=h;show(F,I,P,S,Ń λX px vs L C Y e1 E W=>?_);let(G1,D,K):=E.Ė e1 W;generalize ϳf=es at px K;cases K with
 |nil=>show ϳm px
 |cons rr0 t0=>
  cases rr0 with
  | @lst p0 vs0 a h0 g0=>
   cases t0 with
   |nil=>show ϳm px
   |cons rr1 t1=>
    cases rr1 with
    | @lst p1 vs1 b h1 g1=>
     cases t1 with
     |nil=>show ϳm px
     |cons rr2 t2=>
      cases rr2 with
      | @lst p2 vs2 c h2 g2=>
       cases t2 with
       |cons _ _=>show ϳm px
       |nil=>
        erw[zN3]at px;dsimp only at px;let(hl,px):=azIf px
        show(λj=>Ó [p0,p1,p2] j 0,rfl,ϳp,px _ G1 C D λi G O s w=>?_)
        .rcases (ê ϒD) with rfl|rfl|rfl
         .show(vs0,(h0.Î D.fh).sq)
         .show(vs1,ϹI D.fh)
         show(vs2,(h2.Î D.fh).sq)
        let q:=(h0.Î ϫo).sq;let Q:=(ϹI ϫo);let o:=(h2.Î ϫo).sq;show(λe he=>?_,λN=>⟨vs0,q,?_⟩)
        .let(hi,rfl):=vU he
         let y0:ϴp=Â (a.ď i ò):=ϰ7 Zbv (Nu Á)
         let(u0,u,r):=ϸO g0 y0;let y1:ϵU=Â (b.ď i ò):=ϰ7 Zbv (Nu Á)
         let(k,U,R):=ϸO g1 y1;let y2:c[i]?=Â (c.ď i ò):=ϰ7 Zbv (Nu Á)
         let(m,d,f):=ϸO g2 y2;show(ϳp,λx V y=>?_)
         .rcases (ê ϒD) with rfl|rfl|rfl
          .show(vs0,u0,q,u)
          .show(vs1,k,Q,U)
          show(vs2,m,o,d)
         let(T,v,t,rfl,rfl,l,Z):=y;let z:=Z 0 Ý vs0 q;rw[u]at z;let A:=Z 1 Ý vs1 Q;rw[U]at A;let B:=Z 2 Ý vs2 o;rw[d]at B;obtain rfl:v=[u0,k,m]:=by let(w0,W,w2,e):=ex3 l;rw[e]at z A B;rw[e];cases z;cases A;cases B;rfl
         let g:aK G (ϫV<|Ī [u0,k,m]):=ϑO<|w.â t;show(ϫV _,Ext.allocF w t,Ī aU<|ą (Ϭ9 r.Î g)<|ą (Ϭ9 R.Î g)<|ą (Ϭ9 f.Î g) õ)
        rw[we]at N;rw[E5.í g0];show N
      |_=>show ϳm px
    |_=>show ϳm px
  |_=>show ϳm px
def Q0{p tpos pos:Pos}(hg:γ "zip")(d:ϧG)(A:ï a fa)(B:ï b fb)(C:ï c fc)(s0:à (æ ϶s=(false,ϰI)::æ ϴ5))(e:à (æ ϴ5=(false,ϲh)::æ [c]))(w:à (æ [c]=(false,ϒZ)::æ []))(S:à (ϰX<|ϲD<|æ ϴ5)):
  ϏP (ϳP "zip" ϶s) (JU<|ϬG<|ϓn<|ĝ fc):=λm h=>Ϫy (Wo (es:=ts) (tk:=tk) (tpos:=tpos) (p:=p) (pos:=pos) hg d (ϛH m h) s0 S) ZR
end
def Yv:JU al ρ=unK (λX=>zN3 ϳf) (al ρ):=by erw[JU];cases al ρ<;>rfl
end L3
namespace L2
open PySem PySem.Spec PyProof.Rows
def Lh:XM X (Av X.K):=by
 ext n s k H o y O v Q I x Y h;let(p,S,i,z,rfl,rfl,f,he,q):=h;cases x;let(t,rfl):=Y;let(T,r,pl,Z):=I.ê f;let(j,a,c,m,d,g):=xN he;let(w,e,R):=r.get c;let l:=r.À;let N:=rQ;let fin:ϵW n k Q w s:=ϑK;cases b:0<=i
 .let J:i.Ò=j:=ϖs
  show wpAny_getItem_list pl.Ê b Á Ϯu fin
 let J:ĩ (i+Ì T.Ø)=j:=by
  rw[seqIndex_neg Á d]at a;rw[K9W,<-l];show ϦO
 show wpAny_getItem_list_neg pl.Ê Á ϐS Á Ϯu fin
end L2
namespace L3
open PySem L2 PySem.Spec PyProof.Rows
def intAt(X:À OD)(j:Nat):Ü Int:=match ę X with
 |some (.sh<|.int p)=>ϲn
 |_=>none
def tF(i:Nat)(f:ϱu Int Int)(k a:Fe):Fs:=λb=>match ϵU with
 |some (some<|.ol xs)=>ó (k b) λz=>match z.er with
  |.int q=>match ϴH q with
   |some j=>match Ϩz with
    |some p=>ι λy=>match y.er with
     |.int r=>ϵ b.ß<|ϲG<|Ñ Ϻi
     |_=>Î
    |none=>Î
   |none=>Î
  |_=>Î
 |_=>Î
section
variable{M:Mx}{X:Cx}{p pos:Pos}
private def VL(h:Ϭ (tF i f k a)):Q9 ϲo (ď k) (ď a) (Av M.K) (ipI f) Hw D σ H:=by
 let(F,d,c,S,p):=h;erw[tF]at p;let(X,e,p):=Ϥv
 let(l,V,fl,R,A,s,nf,Q,wr):=Ϭr;show(_,R,F,d,c,S,Ń λz pz u F2 H2 fz N Y w2=>?_);let(G2,g,K):=Y.Ė N w2;generalize z.er=dz at pz K;cases dz with
 |int q=>
  cases K;let P:az M H c (ϳd c D) (match Ϲt q with
   |some j=>match intAt X j with
    |some p=>ó (a d) λy=>match y.er with
     |.int r=>ϵ d.ß<|Ϸ4<|Ñ Ϻi
     |_=>Î
    |none=>Î
   |none=>Î):=pz
  cases hj:ixN X.À q with
  |none=>rw[hj]at P;cases P
  |some j=>
   rw[hj]at P;let T:=M1 hj;let Z:az M H c (ϳd c D) (match intAt X j with
    |some p=>ó (a d) λy=>match y.er with
     |.int r=>ϵ d.ß<|Ϸ4<|Ñ Ϻi
     |_=>Î
    |none=>Î):=P
   cases hp:intAt X j with
   |none=>rw[hp]at Z;show Z.Ä
   |some m=>
    rw[hp]at Z;let W:ę X=Â (.sh<|Ä m):=by
     erw[intAt]at hp;split at hp
     .rename_i p' U
      cases hp;show U
     cases hp
    let(v0,f0,g1,g2,b1,G,I,J):=s.at W;cases G with|sh rr=>
    cases rr;let at':Ť V q=Â (Ä m):=by erw[atI];rw[s.len,hj];show b1
    show(l,V,q,_,rfl,rfl,SqL.of<|g.hh _ _ A,at',?_);let w:az M H c (ϳd c D) (ó (a d) λy=>match y.er with
     |.int r=>ϵ d.ß<|Ϸ4<|Ñ<|f m r
     |_=>Î):=Z
    show(G2,d,c,S.ā g,Ů ((az.ï w).ext g) λy py v F3 x fy O r3 w3=>?_);let(G3,L,B):=r3.Ė O w3;generalize y.er=dy at py B;cases dy with
    |int r=>
     cases B;let E:=g.Å L;show(m,r,rfl,rfl,l,V,q,j,rfl,rfl,ϴU A,Ô s.í hj,?_);subst I;let o:=J G3 x E.ff (λb m o q=>ϴU q) (Ä<|f m r) (Ñ<|f m r) []<|Ñ _;rw[K9B]at o;rw[K9B]at nf;let(t,C,st,_):=wr G3 x _ _ _ E o nf (λb m=>Ð ϲE) λb m=>let⟨_,q⟩:=s.ö b ϲE;E.nw b Ϸv (Q b ϲE)
     show py σ G3 _ t C st
    |none=>show py.Ä
    |bool _=>show py.Ä
    |str _=>show py.Ä
    |list _=>show py.Ä
    |tuple _=>show py.Ä
    |dict _=>show py.Ä
 |none=>show pz.Ä
 |bool _=>show pz.Ä
 |str _=>show pz.Ä
 |list _=>show pz.Ä
 |tuple _=>show pz.Ä
 |dict _=>show pz.Ä
def vn(i:Nat)(hop:ώb (ipI f))(hb:ï b fb)(h:ï e fa)(hN:ϵc (ð p))(ha:∀ov iv new,augStore b ov iv new=(do holding [new,ov,iv]<|setItem ov iv new;release [new,ov,iv] [];pure .next):=by intros;rfl):Ϧ (Ϯ7<|ŕ (ð p) b p2) (tF i f fb fa):=ϗj (QA (op:=op) (tpos:=p2) (pos:=pos) hN (hb hK hM) (Lh (X:=X)) ύj hop set_list ha) q VL
end
def Mq(o:Ü (Ü OD))(i:Nat)(f:ϱu Int Int)(k:Ĭ)(a:Ĭ)(b:Env):ϲs:=match o with
 |some (some<|.ol xs)=>k.ï λz=>match z.er with
  |.int q=>match ϴH q with
   |some j=>match Ϩz with
    |some p=>a.ï λy=>match y.er with
     |.int r=>ϵ b.ß<|ϲG<|Ñ Ϻi
     |_=>Î
    |none=>Î
   |none=>Î
  |_=>Î
 |_=>Î
def BG:tF i f k a ρ=Mq Ϸw i f (k ρ) ϰm ρ:=rfl
theorem Aa{z p r:Int}(h:ϴH z=ϱ7)(x:Ϥu=Â (.sh<|Ä p)):
    Mq (some<|Â ϱp) i f (.ok<|Ñ z) (þ<|Ä r) ρ=ϵ ρ.ß (ϲG<|Ñ Ϻi):=by
  erw[Mq];let e:Ϩz=ϲn:=by erw[intAt];rw[x]
  change(match (Đ ϭE).er with
    |.int q=>match ϴH q with
      |some j=>match Ϩz with
        |some p=>(R.ok<|Đ<|Ä r).bind λy=>match y.er with
          |.int r=>R.ok<|Out.nx<|ϰs<|Ň<|ϲG<|Ñ Ϻi
          |_=>Î
        |none=>Î
      |none=>Î
    |_=>Î)=_
  rw[bc];change(match ϴH z with
      |some j=>match Ϩz with
        |some p=>(R.ok<|Đ<|Ä r).bind λy=>match y.er with
          |.int r=>R.ok<|Out.nx<|ϰs<|Ň<|ϲG<|Ñ Ϻi
          |_=>Î
        |none=>Î
      |none=>Î)=_
  rw[h];change(match Ϩz with
        |some p=>(R.ok<|Đ<|Ä r).bind λy=>match y.er with
          |.int r=>R.ok<|Out.nx<|ϰs<|Ň<|ϲG<|Ñ Ϻi
          |_=>Î
        |none=>Î)=_
  rw[e];change(match (Đ<|int r).er with
          |.int r=>R.ok<|Out.nx<|ϰs<|Ň<|ϲG<|Ñ Ϻi
          |_=>Î)=_
  rw[bc]
mutual
def nol:ϱP Gc|.tuple ds=>ϦQ|.list _=>false|.dict _=>false|.none=>true|.bool _=>true|.int _=>true|.str _=>true
def As:ϱP (À Gc)|[]=>true|d::ds=>nol d&&ϦQ
end
def As'{d ds}:As ϥ3=(nol d&&ϦQ):=rfl
section
variable{K:At}{F H:Hp}{f:À Ix}
mutual
def lD(a:ϻy (F b=Â (ô ws))):Ŀ F v d->nol d=true->Ŀ ϩe v d:=by
 ext r e;cases r with
 |non=>show Β
 |bl b=>show ϵO
 |int i=>show Ä i
 |str x=>show Ė x
 |lst _ _=>rw[nol]at e;cases e
 |dct _ _ _=>erw[dD]at e;rw[nol]at e;cases e
 |tup h1 h2=>
  rw[nol]at e;show Ī ?_<|wa a h2 e;rw[i4 λm=>by let(ws,q):=a _ m;rw[h1]at q;cases q];show h1
def wa(a:ϻy (F b=Â (ô ws))):ž vs ds->ϦQ=true->E5 K ϩe vs ds|.nil,_=>õ|.cons h r,e=>by rw[As',K9U]at e;show ą (lD a h e.1)<|wa a r e.2
end
end
end L3
namespace L2
open PySem PySem.Spec PyProof.Rows
section
variable{A:Go}{s:Da}
def JR{l:ņ}{X:Nat->Η Db}{x:ϥ6}{arr:À Db}{Q:Db->Ú Da}(u:Θ 2 (l j<n0))(Z:ϧp s.Ì 2 ò)(P:ϨI 2)(hl:Θ 2 (ϳV (l j) (X j)))(hx:Θ 2 (ύC=Â (x j)))(hQ:∀h',ϭV 2 (Ā 2 x)->ϺS=Â ((Ċ "tuple" (ϰe (Ā 2 x))))->
   (ώ (c<n0\/ŷ<c)<|ϱX Ö h'.È)->Q (É s.Á) ϰH):
  ϰF (Builtin.«zip.__next__» (ϱc [É ŷ])) Ϗm E s:=by
 change Ϟ (ϵF 2);show Ps<|ϲ7 (ã false) ?_;change Ϟ (ϵF (2+1));show Ps<|ϲ7 (É<|n0+2) ?_;show ϧV Z.ti;change Ϟ (ϤT _);show ϲZ;erw[Builtin.SmallTypes.ownedTupleIsFree];show Ps<|ϲ7 ò ϴ1;simp only[K83];show ϪZ;show Ps<|ϲ7 (É Ϩ8) ?_;show Ps<|ύs Û (λh₁ z h=>?_);show ϲZ;let V:ϧp h₁ 2 ϸj:=ϯp z
 show wpAny_forIn_list _ (λrest b d=>b=(none,())/\∃j p,j<=2/\rest=ύk (ϺC 2) j/\ϐ4/\ώL 2 (λm=>ϧA (m<j)) ϸj (Ê Ϥf x++ϻG)/\
  ϏJ/\ώ (c<n0\/ŷ<c) (ϱX Ö p.È)) _ ?_ ?_ _ _ ⟨rfl,0,h₁,ϰS,rfl,rfl,V.pos λj _=>rfl,h.1,ϷC (ĉ (ϬE<|neN Á) q)⟩
 .rintro y rest b d ⟨rfl,j,p,hj3,hr,rfl,Zj,hsz,hk⟩
  let(J,rfl,R):=De hr;show ϮK;change Ϟ (Builtin.SmallTypes.nextOf (É ϦF));let hi:=Zj.it j J;let W:(ϧA<|j<j)=k:=P3 ϵJ;let r:ϓb (l j):=ϕ9;show Ps<|Ϗc Ϙs (λi I S=>ϴ1);let t:i.È Ϩ8=Â ((Ċ "tuple" (ϰe (Ê Ϥf x++ϻG)))):=ĉ (ϵy<|neN Á) Zj.to;show Ps<|K8F t rfl ?_;let n:Ã (Ê Ϥf x++ϻG)=2:=ϗR
  show Ps (ϔ6 ϗ9);show ϓm ϴ1;let f:=K7p i Ϩ8 ϭ2;let T:ϰV (i.Ĝ Ϩ8 ϭ2) Ϩ8=Â ((Ċ "tuple" (ϰe (Ā (j+1) x++ϯA)))):=ϕx
  show(rfl,j+1,_,Á,R,rfl,ϖ7,ĉ f.1<|ĉ S.1 hsz,ϷC (ĉ (ύ0<|neN Á)<|ĉ (ϥ1<|neN Á) Ϩf));cases e:m=j
  .subst e
   rw[Ĝ,P3 ϵJ,Os ϩT]
  rw[ϲt];cases N:m<j
  .rw[Os N,Os Á]
  rw[P3 N,P3 Á]
 ext b d ⟨rfl,j,p,hj3,hr,rfl,Zj,hsz,hk⟩;let J:j=2:=by
  let L:ϓY (ϺC 2)=2:=ϏI
  let:=Ż hr;rw[K8y,L,K8U]at this;lia
 subst J;let Y:Ā 2 x++arr.ä 2=Ā 2 x:=Ĥ (Zdj Á) K9d
 rw[Y]at Zj;let g:ώL 2 ϻE ϸj (Ā 2 x):=Zj.ú λm U=>Os U;show ϧV g.to;show ϐy;show ϲZ;erw[Builtin.SmallTypes.ownedTupleHandOut];let G:ZS (p.û (Ċ "tuple" (ϰe (Ā 2 x)))) n0 2 l ϻE ϸj (Ā 2 x):=g.flag (λb o _ q=>ő q)<|ő g.zp;let F:ŷ<p.Â:=K9h g.zp;show Ps<|K8K G.zp Û λh7 B H=>?_;let K:ZS h7 n0 2 l ϻE ϮI (Ā 2 x):=G.flag H.Ģ B;show K8K K.zp Û λO D a=>?_;let M:ZS O n0 2 l ϻE ϮI (Ā 2 x):=K.flag a.Ģ D;show ϐ5;change Q (É p.Â) _;rw[hsz]at M F⊢;show hQ O M ?_ (ϷC (ĉ (a.2 c<|neN Á)<|ĉ (H.2 c<|neN Á)<|ő Ϩf));show ĉ (a.2 _<|neN Á)<|ĉ (H.2 _<|neN Á) ?_;rw[<-hsz];show Ϣ
def Jr(j:ϷV)(t:ϱf<n0)(Z:ϧk s.Ì 2 ò)(L:ϳV ϱf xs)(X:όx)(i:∀h' e,(ώ (c<n0\/ŷ<c)<|ϱX Ö h'.È)->(∃o,ϨN=Ö/\o.cls=Ω "StopIteration")->E (É e) ϰH):
  ϰF (Builtin.«zip.__next__» (ϱc [É ŷ])) Q E s:=by
 change Ϟ (ϵF 2);show Ps<|ϲ7 (ã false) ?_;change Ϟ (ϵF (2+1));show Ps<|ϲ7 (É<|n0+2) ?_;show ϧV Z.ti;change Ϟ (ϤT _);show ϲZ;erw[Builtin.SmallTypes.ownedTupleIsFree];show Ps<|ϲ7 ò ϴ1;simp only[K83];show ϪZ;show Ps<|ϲ7 (É Ϩ8) ?_;show Ps<|ύs Û (λh₁ a h=>?_);show ϲZ;let V:ϧk h₁ 2 ϸj:=ϯp a;change ϶j _ ϖl _;rw[Zdt];show Ps ϮK;change Ϟ (Builtin.SmallTypes.nextOf (É<|n0+0));let l:h₁.ù ϱf xs:=L.at λo q=>ĉ (h.2 _<|neN Á) q;show Ps<|Ϗ1 ((ϹJ h₁)) j (V.it 0 Ý) l X (λm e S he=>?_);let(O,H,C):=he;let b:=ϤE (neN Á) V.zp;let d:e≠ŷ:=ϕ1
 show K8K b Û λg _ f=>i g e (λc o n q=>ĉ (ύ0<|neN Á)<|S c o (neN Á)<|ĉ (ϬE<|neN Á) q) ⟨O,ĉ (f.2 e d) H,C⟩
def Gu{l:ņ}{X:Nat->Η Db}{x:ϥ6}{arr:À Db}{Q:Ch->Ú Da}(L:Θ 2 (l j<n0))(Z:ϧp s.Ì 2 ò)(H:ϨI 2)(d:Θ 2 (ϳV (l j) (X j)))(e:Θ 2 (ύC=Â (x j)))(q:∀h',ϭV 2 (Ā 2 x)->ϺS=Â ((Ċ "tuple" (ϰe (Ā 2 x))))->
   (ώ (c<n0\/ŷ<c)<|ϱX Ö h'.È)->Q (Â<|É s.Á) ϰH):
  ϰF (pyNext<|É ŷ) Q E s:=by
 let h:Ϥm (É ŷ) "zip":=(ϲi Z.zp);erw[pyNext];show Ps<|wpAny_attempt<|ϭJ<|Ϛ9 ϮL
def FD(H:ϷV)(L:ϱf<n0)(Z:ϧk s.Ì 2 ò)(a:ϳV ϱf xs)(x:όx)(q:∀h',(ώ (c<n0\/ŷ<c)<|ϱX Ö h'.È)->Q none ϰH):
  ϰF (pyNext<|É ŷ) Q E s:=by
 let h:Ϥm (É ŷ) "zip":=(ϲi Z.zp);erw[pyNext];show Ps<|wpAny_attempt<|ϭJ<|ϔ2 Jr ϮL;let(o,j,C):=he;show Ps<|ώW<|K9J<|q _ K
end
def zLA(h:Op)(l L:Nat):Op:=(ϫg).push (Ċ "tuple" (δ #[É h.Â,É (Ι (dh h l))]))
def zLB(h:Op)(l L:Nat):Op:=(zLA h l L).push (Ċ "tuple" (δ #[ò,ò]))
def zLC(h:Op)(l L:Nat):Op:=(zLB h l L).push (Ċ "zip" (ϐ #[ò,ã false,ã false,É (Ι ϫg),É (Ι (zLA h l L))]))
def Kk(l L:Nat)(x X:Η Db):
  Meets (Builtin.«zip.__new__» (ϱc [Ω "zip",É l,É L])) (λ_ R s=>s.ë l x/\s.ë L X/\
   R (ϩc<|É (Ι (zLB s.Ì l L))) (ϹJ (zLC s.Ì l L))):=
 .of_wp λprog w A R s h=>by
  let(p,g,d,tk,os):=s;let(N,a,h):=h;let U:=sub_zip;let H:ϪK ⟨p,g,d,tk,os⟩ l x:=N;let c:ϪK ((ϔT (ϑ9<|(Ċ "list_iterator" (ϐ #[É l,Ä 0 0]))))) L X:=(Heap.IsList.push a _)
  wp_walk using Ϛe,Ϛf
  show(_,rfl,h)
def O5{E:Db->Ú Da}{s:Da}{ls:ņ}{xs:Nat->Η Db}{Q:Db->Ú Da}(a:Θ 2 (ϳV Ϻp ϩP))(h:∀h',Ϙ5 2 ls (Ţ 0) ò [ò,ò]->(∀c o,ϱX Ö h'.È)->Q (É<|ů 2+2) ϰH):
  ϰF (call (Ω "zip") [É ϱf,É ϵR]) Q E s:=by
 show ϖ8 Ý (PySem.F.typeCall_zip_2 _ _) (PySem.F.newCall_zip_2 _ _) (λobj=>PySem.F.args_object_init_3 obj _ _) PySem.F.entry_zip_new (Kk ϱf ϵR (xs 0)<|xs 1) ⟨a 0 Ý,a 1 Ý,?_⟩;let Z:Ι (ϧs ϱf)=ů 1:=K8l ..;let z:Ι (ϸ1 ϵR)=ů 2:=ϐP (Ϩq Z)
 let d:ϲC zLA objs.size=ů 2+1:=χ zLA K8l z
 let zB:ϲC zLB objs.size=ů 2+2:=by erw[zLB];rw[K8l,d]
 let C:ώ (ϲC zLB get? c=Ö) (ϲC zLC get? c=Ö):=ϵV (ő q);let f:ώ (ϲC zLA get? c=Ö) (ϲC zLC get? c=Ö):=ϵV (C c o<|ő q);let K:ώ ((ϸ1 ϵR).get? c=Ö) (ϲC zLC get? c=Ö):=ϵV (f c o<|ő q);let k:ώ (ϰV (ϧs ϱf) c=Ö) (ϲC zLC get? c=Ö):=ϵV (ϭC<|ő q);let i:ώ (s.Ë c=Ö) (ϲC zLC get? c=Ö):=ϵV (k c o<|ő q);let g:ϲC zLC get? (ϲC zLB objs.size)=Â _:=Ϣ;let B:ϲC zLC get? (ϲC zLA objs.size)=Â _:=C _ _ Ϣ;let G:ϲC zLC get? (Ι (ϸ1 ϵR))=Â _:=f _ _ Ϣ;let g0:ϲC zLC get? s.Á=Â _:=ϱe Ϣ;let g1:ϲC zLC get? (Ι (ϧs ϱf))=Â _:=K _ _ Ϣ;rw[zB,d,z]at g;rw[d]at B;rw[z,Z]at G;rw[Z]at g1;change _/\Q (É (ϲC zLB objs.size)) _;rw[zB];show((_,g,rfl),h _ ⟨g,G,B,ϳp⟩ i)
 match j,J with
 |0,_=>show(_,g0,rfl,rfl)
 |1,_=>show(_,g1,rfl,rfl)
section
variable{s:Da}
def DQ(h:Q ϯK s):ϧL (loadIfAlive a):=λΓ p hΓ=>by
 change Sem.wp M Γ (.loadIfAlive a .pure) _ _ p s;rw[Sem.wp_loadIfAlive];show K9J (M:=M) (A:=A) (E:=E) h Γ p hΓ
def xf(N:Nat)(F g:Db):Obj:=(ϸ2 "zip" (ϐ #[F,g,ã false,É<|N+2,É<|N+2+1]))
theorem wM{N T:Nat}{b:Bool}{o:Obj}{Q:Bool->Ú Da}(Z:ϥp ϳD=Â (ϤU<|ã b))(k:ϒE=Ö)
  (q:∀h',h'.È ϳD=Â (ϤU<|ã true)->ϔM ϳD s.Ì h'->Q false ϰH):ϰF (ϤT<|É ϳD) Q E s:=by
 erw[Builtin.SmallTypes.ownedTupleIsFree];show ϧg<|rawInt T;change Ϟ (loadIfAlive (ĩ (T:Int)));show Ps<|DQ ?_;rw[K9n,k];change Ϟ (ϵF 1);show ϧg<|ã b;cases b with
 |true=>show K9J<|q s.Ì Z (Ϸy ϥv)
 |false=>
  change Ϟ (setField _ 1 _);show Ps<|K8K Z Û λH h S=>K9J<|q H h S
def IM{N k T:Nat}{b:Bool}{o:Obj}{a:ņ}{X:Nat->Η Db}{x:ϥ6}{Q:Db->Ú Da}(t:Θ 2 (a j<N))(Z:ϥp ϳD=Â (ϤU<|ã b))(F:ϒE=Ö)
  (f:ϥp (N+2)=Â ((Ċ "tuple" (ϰe Ϧu)))) (hit:∀j:Nat,j<2->s.heap.Ú (N+j) (a j) k)
  (K:Θ 2 (ϳV (a j) (X j))) (O:Θ 2 (ύC=Â (x j)))
  (D:∀h',h'.È ϳD=Â (ϤU<|ã true)->(∀j:Nat,j<2->h'.Ú (N+j) (a j) (k+1))->ϺS=Â ((Ċ "tuple" (ϰe (Ā 2 x))))->
   (ώ (c<N\/ϳD<c\/c=N+2\/c=N+2+1)<|ϱX Ö h'.È)->Q (É s.Á) ϰH):
  ϰF (Builtin.«zip.__next__» (ϱc [É ϳD])) Ϗm E s:=by
 change Ϟ (ϵF 2);show ϧg<|ã false;change Ϟ (ϵF (2+1));show ϧg<|É<|N+2;show Ps<|K8F f rfl ?_;change Ϟ (ϤT _);show Ps<|wM Z F λB z h=>?_
 simp only[Zdi,if_false];show ϲZ;show PySem.MeetsSeq2.wpAny_forIn_array _ (λrest b d=>∃j p,j<=2/\rest=τ Ϧu j/\b=((none:Ü Fin),Ϻo (Ê Ϥf x))/\ϐ4/\p.È ϳD=Â (ϤU<|ã true)/\
  (∀m:Nat,m<2->p.Ú (N+m) (a m) (ϧA<|m<j))/\ϏJ/\ώ (c<N\/ϳD<c\/c=N+2\/c=N+2+1) (ϱX Ö p.È)) _ ?_ ?_ _ _ ⟨0,B,ϰS,rfl,rfl,rfl,z,λm M=>ϭb hit λo q=>ĉ (h.2 _<|neN Á) q,h.1,ϷC (ĉ (ϬE<|neN Á) q)⟩
 .rintro y rest b d ⟨j,p,hj2,hr,rfl,rfl,hzp,hip,hsz,hk⟩
  let L:Ã Ϧu=2:=χ fK K0 Z7
  let J:j<2:=by
   let:=Ż hr;rw[K9p,K8y,L]at this;lia
  let e:=K8N (l:=Ϧu) (i:=j) (L.Ï▸J);rw[e]at hr;injection hr with H R
  let Y:y=É (N+j):=by rw[H];erw[fK];rw[Zcn,K85]
  subst Y;show ϧK ?_;change Ϟ (Builtin.SmallTypes.nextOf (É<|N+j));let hi:=hip j J;let g:(ϧA<|j<j)=k:=P3 ϵJ;let r:ϓb (a j):=(K j J).at λo q=>hk _ _ (Or.inl<|t j J) q;show Ps<|Ϗc (Ô g<|O j J) (λu I S=>ϴ1);show K9J ⟨j+1,u,Á,R,?_,rfl,ĉ (ϵy<|neN Á) hzp,Ϩm,ĉ S.1 hsz,ϷC (ĉ (ϥ1<|neN Á) Ϩf)⟩
  .rw[K8A,K9i]
   simp
  cases G:m=j
  .subst G
   rw[Os ϩT];rw[g]at I;show I
  let:=ϭb hip (h':=u) λo q=>ĉ (ϵy<|neN Á) q;cases n:m<j
  .rw[Os n]at this
   rw[Os Á];show this
  rw[P3 n]at this;rw[P3 Á];show this
 ext b d ⟨j,p,hj2,hr,rfl,rfl,hzp,hip,hsz,hk⟩;let J:j=2:=by
  let L:Ã Ϧu=2:=χ fK K0 Z7
  let:=Ż hr;rw[K8y,L,K8U]at this;lia
 subst J;show ϐy;show ϐ5;change Q (É p.Â) _;rw[hsz];let P:ϳD<p.Â:=K9h hzp;show D _ (ő hzp) Ϩm ?_ (ϷC (ő Ϩf))
 .let:=ϭb hip (h':=p.û (Ċ "tuple" (ϰe (Ā 2 x)))) λo q=>ő q
  rw[Os M]at this;show this
 rw[<-hsz];show Ϣ
end
section
variable{A:Go}{s:Da}
def Jf{N k T:Nat}{b:Bool}{o:Obj}{l:ņ}{X:Η Db}{Q:Fin->Ú Da}(g:ϷV)(j:l 0<N)(Z:ϥp ϳD=Â (ϤU<|ã b))(t:ϒE=Ö)
  (f:ϥp (N+2)=Â ((Ċ "tuple" (ϰe Ϧu)))) (hit:s.heap.Ú (N+0) (l 0) k) (L:ϳV (l 0) X) (m:ϫ X=none)
  (i:∀h' e,(ώ (c<N\/ϳD<c)<|ϱX Ö h'.È)->(∃o,ϨN=Ö/\o.cls=Ω "StopIteration")->E (É e) ϰH):
  ϰF (Builtin.«zip.__next__» (ϱc [É ϳD])) Q E s:=by
 change Ϟ (ϵF 2);show ϧg<|ã false;change Ϟ (ϵF (2+1));show ϧg<|É<|N+2;show Ps<|K8F f rfl ?_;change Ϟ (ϤT _);show Ps<|wM Z t λa z S=>?_;simp only[Zdi,if_false];show ϲZ;rw[<-Array.forIn_toList];change ϶j _ (forIn (ϭa (N+0)::_) _ _) _;rw[Zdt];show Ps<|ϧK ?_;change Ϟ (Builtin.SmallTypes.nextOf (É<|N+0));let h:a.ù (l 0) X:=L.at λo q=>ĉ (ϵy<|neN Á) q;show Ps<|Ϗ1 {s with heap:=a} g (hit.at λo q=>ĉ (ϵy<|neN Á) q) h m (λd e H he=>i d e (ϷC<|H c o (neN Á)<|ĉ (ϥ1<|neN Á) q) he)
def ZW(S:Nat)(h:Op)(N:Nat)(l:ņ)(i:Nat):Prop:=
 (i=0/\∃arr,ϨI 2/\ZS h N 2 l (λ_=>i) ò arr)\/
 (0<i/\∃(T:Nat)(b:Bool)(o:Obj),T≠S/\ϳD<T/\ϦJ ϳD=Â (ϤU<|ã b)/\h.È T=Ö/\ϦJ (N+2)=Â ((Ċ "tuple" (ϰe Ϧu)))/\∀j:Nat,j<2->h.Ú (N+j) (l j) i)
def Ot{a:ņ}{xs:Nat->Η Db}{x:ϥ6}{Q:Ch->Ú Da}(L:Θ 2 (a j<n0))(h:ϚI)(Z:ϯB a i)(g:Θ 2 (ϳV (a j) ϩP))(X:Θ 2 (á ϩP=Â (x j)))(H:∀h',ZW S h' n0 a (i+1)->ϺS=Â ((Ċ "tuple" (ϰe (Ā 2 x))))->(ώ (c<n0\/ŷ<c)<|ϱX Ö h'.È)->Q (Â<|É s.Á) ϰH):
  ϰF (pyNext<|É ŷ) Q E s:=by
 rcases Z with⟨rfl,arr,v,Z⟩|⟨hi,T,b,o,t,n,m,k,f,hit⟩
 .let e:Ϥ5 ŷ:=K9h Z.zp
  show Gu L Z v g X λh' z l K=>H h' (Ø ⟨Zdf _,s.heap.objs.size,false,_,Zbx h,e,z.zp,l,z.ti,z.it⟩) l K
 let l:Ϥm (É ŷ) "zip":=⟨_,m,rfl⟩
 erw[pyNext];show Ps<|wpAny_attempt<|ϔ0<|ϔ8 (IM L m k f hit g X λh' p r u d=>K9J<|H h' (Ø ⟨Zdf _,T,true,o,t,n,p,d T o Á k,d _ _ Á f,r⟩) u (ϷC (d c o Á q))) ϗI
def Qj(h:ϷV)(L:ϱf<n0)(Z:ϯB ls i)(a:ϳV ϱf xs)(x:xs[i]?=none)(q:∀h',(ώ (c<n0\/ŷ<c)<|ϱX Ö h'.È)->Q none ϰH):ϰF (pyNext<|É ŷ) Q E s:=by
 rcases Z with⟨rfl,arr,d,Z⟩|⟨hi,T,b,o,t,n,z,k,f,hit⟩
 .show FD h L Z a x q
 let l:Ϥm (É ŷ) "zip":=(ϲi z)
 erw[pyNext];show Ps<|wpAny_attempt<|ϔ0<|ϔ8 (Jf h L z k f (hit 0 Ý) a x λh' e H he=>?_) ϗI;let(o,j,C):=he;show Ps<|ώW<|K9J<|q _ H
theorem ZW.xf(Z:ZW S h n0 ls i):∃F b,ϦJ ŷ=Â (xf n0 F<|ã b):=by
 rcases Z with⟨_,arr,_,Z⟩|⟨_,T,b,o,_,_,z,_⟩
 .exact(_,false,Z.zp)
 show(_,b,z)
def ZW.kept(Z:ZW S h n0 ls i)(s:ŷ<S)(k:∀b o,b≠S->ϷQ Ö):ZW S h' n0 ls i:=by
 rcases Z with⟨rfl,arr,A,Z⟩|⟨a,T,b,o,t,n,z,H,f,hit⟩
 .show Ð ⟨rfl,arr,A,ϕe _ Á (ϱe (neN Á) q)⟩
 show Ø ⟨a,T,b,o,t,n,ϱe Á z,ϱe t H,ϱe Á f,λj J=>(hit j J).at λo q=>ϱe (neN Á) q⟩
end
def adopt(I:Ģ)(f:ϵE H T)(new:Ϲn (ļ T o) s.Ì T o):ù H6 σ (ļ T o) s:=by
 let h:Ϩ2:=f.1;let t:∀b:Ix,b∉[T]->b≠T:=λb B z=>B (Ϯ z);show I.step (h':=s.Ì) (t':=s.ã) (g':=s.Ĭ) (d':=s.drawn) (ch:=[T]) ϹL (λb u _ _ C e _=>e) (λb u _ _ C e _=>⟨u.Ĩ,e⟩) (λb u C e n=>ϯG (t b C))
  (λb u C e=>⟨u,e⟩) (λb x e=>ϫd (ϦK h)) (λb u v e=>ϫd (ϦK h)) (λb p e=>⟨#[],by rw[aC<|ϦK h,e];simp⟩) (λm M=>M) ϯJ I.bare
 .let:b=T:=ϳR
  subst this;let(F,g,J,j,f4,l):=f;show(j,g,f4,l)
 cases B:b=T
 .subst B
  rw[aU]at e;cases e;show new
 rw[ϷL]at e;show(I.hok b u e).stay (λc v C q=>q) (λc q=>Ô (aC<|ϲY h) q) λc x q=>Ô (aC<|ϲY h) q
theorem nj.upd(h:ϵE H b)(B:b≠T):ϵE (ļ T o) b:=⟨Ô ϷL h.1,h.2⟩
structure LZ(X:Cx)(H0 H:Hp)(xs ys:À V)(Ts:À Ix):Prop where
 up:aK H0 H
 new:ώ (H c=Ö) (H0 c=Ö\/c∈Ts)
 free:∀T∈Ts,H0 T=none
 tup:∀(j:Nat)(T:Ix),ę Ts=some T->∃x y,Ϥu=Ď/\ys[j]?=ϰO/\H T=Â (Ī ϶K)
theorem QE{X:Cx}{A:Go}(hh:ϷV){v:ņ}{xs Y:À V}{R:Result->Ú Da}(res:Db)(d:Θ 2 (v j<n0))(G:ŷ<S)(hx:xs.À=n)(hy:Y.À=n)(hn:όq)(q0:ϴY H0 (v 0) xs)(q1:ϴY H0 (v 1) Y)(N:∀b,n0<=b->Ϻs H0):
  ∀(k i:Nat)(s:Da)(H:Hp)(t:À Ix)(c:Nat),n-i=k->i<=n->Ģ->(∀b∈ϫN,ϵE H b)->ϯB v i->s.Ë S=Â ((ϸ2 "list" (ϰe ϧE c)))->t.À=i->LZ X H0 H xs Y t->
  (∀(s':Da)(w:Hp)(a:À Ix)(c':Nat),ù H6 σ w s'->ϵE w S->s'.Ë S=Â ((ϸ2 "list" (ϰe (a.Ç Value.ref) c')))->a.À=n->LZ X H0 w xs Y a->R (.ok<|.ret res) s')->
  ϸB ϳQ A (Ρ "list.extend.loop" (ϱc [É S,É ŷ,res])) R s:=by
 ext k
 induction k with
 |zero=>
  ext i s H t c hk hi I f Z u U L D;let O:i=n:=Á
  subst O;show ϕY;rw[ϕS];change ϶j A.in1 (pyNext (É ŷ) >>=_) s;let(its,rv,p,_):=϶F<|L.up.seq q0;let l1:=rv.À;show Ps<|Qj (A:=A.in1) hh (d 0 Ý) Z p.Ê ϳc λh' K=>?_;show K9J<|D _ H t c (ϧB I f<|(ϩ8 ?_)) (f S Û) (K S _ Á u) U L;show K b o (xP λz=>B<|ě z) q
 |succ k ih=>
  ext i s H t c hk hi I f Z u U L D;let hlti:i<n:=Á
  show ϕY;rw[ϕS];change ϶j A.in1 (pyNext (É ŷ) >>=_) s;let(m,rv0,p0,_):=϶F<|L.up.seq q0;let(r,rv1,p1,_):=϶F<|L.up.seq q1;let e0:xs[i]?=some xs[i]:=Nu Á;let e1:Y[i]?=some Y[i]:=Nu Á
  let(u0,W,ru0):=rv0.get e0;let(u1,hu1,ru1):=rv1.get e1;let l:ϚI:=K9h u;show Ps (Ot (A:=A.in1) d l Z (xs:=λj=>Ó [m.toArray,r.toArray] j #[]) (x:=λj=>Ó [u0,u1] j ò) (λj J=>match j,J with
   |0,_=>p0.Ê
   |1,_=>p1.Ê) (λj J=>match j,J with
   |0,_=>ϚH
   |1,_=>ť hu1) λh' Z' hT K=>?_)
  let zlt:Ϥ5 ŷ:=by let(f0,b,hz):=Z.xf;show K9h hz
  let kk:∀b o,b∉ϫN->ϱL ϰc Ö h'.È:=ϩ8 (K b o (xP λz=>B<|ě z) q);let I1:ù H6 σ (ϵ2<|Ī ϒ1) ((ϱk h' s.ã)):=ύ2 I f kk ì ⟨ϻk (ŀ 2),[u0,u1],ą ru0<|ą ru1 õ,_,hT,rfl,_,rfl⟩;let nf:∀b∈ϫN,b≠s.Á:=λb B=>by
   rcases K8v.mp B with z|z
   .rw[z]
    show K9O l
   let:=(vJ z).2;show neN Á
  let F:∀b∈ϫN,ϵE (ϵ2<|Ī ϒ1) b:=λb B=>(f b B).upd<|nf b B;let h:h'.È S=Â ((ϸ2 "list" (ϰe ϧE c))):=K S _ Á u;let hTl:ŀ t.À:=Á
  change ϶j A.in1 (όy (·.push (É s.Á)) >>=_) _;show Ps (wpAny_updateSeq (s:=ϰH) h rfl ?_ (Ϲ K9W K0)<|ϳr Array.size_push K9W K0);let g:=K7p h' S (ϪT<|É s.Á);obtain⟨C,E⟩:∃C,ϰV (h'.Ĝ S (ϪT<|É s.Á)) S=Â ((ϸ2 "list" (ϰe (Ê (t++ϐ6) Value.ref) C))):=by
   show(if Μ (((ϧE).toArray.push<|É s.Á).size==(ϧE).toArray.size) then c else c+1,?_);rw[K7u _ h rfl];simp only[Obj.mapSeq,K9i,K9w,K9D,List.push_toArray]
  show K9J ⟨ϖa,ih (i+1) _ (ϵ2<|Ī ϒ1) (t++ϐ6) C Á Á (ϧB I1 F<|(ϩ8 ?_)) F (Z'.ò G (ϩ8 (ĉ (g.2 b B) q))) E (by rw[K9v,U];rfl) ⟨?_,?_,?_,?_⟩ D⟩
  .exact ĉ (g.2 b λz=>B<|Ϯ z) q
  .show L.up.Å<|ϑM I.Õ
  .intro b o B
   cases e:b=s.Á
   .show Ø (by simp[e])
   rw[aC e]at B;rcases L.new b o B with z|z
   .show Ð z
   show Ø (Ϯ z)
  .intro T M
   rcases K9Y.mp M with z|z
   .show L.â T z
   let:T=s.Á:=ť z
   rw[this];show N _ (ϳZ<|ϑG n0)
  ext j T J;cases Q:j<t.À
  .rw[K9V Q]at J
   let(x,y,h1,h2,h3):=L.tup j T J;show(x,y,h1,h2,Ô (aC<|aL h3 I.Õ) h3)
  rw[K9a Á]at J;let P:j-t.À=0:=by
   let:=(ϩw).1;simp at this;lia
  rw[P]at J;cases J;let:j=i:=Á
  subst this;show(_,_,e0,e1,aU)
def F7:typeLookup (Ω "zip") "__len__"=ϔX:=ϕG
def Dv:typeLookup (Ω "zip") "__length_hint__"=ϔX:=ϕG
def K7{X:Cx}{A:Go}(O:ϷV){l:ņ}{x y:À V}{s:Da}{R:Result->Ú Da}(L:Θ 2 (l j<n0))(N:ŷ<S)(U:x.À=n)(Y:y.À=n)(Q:όq)(q0:ϴY H0 (l 0) x)(q1:ϴY H0 (l 1) y)(i:∀b,n0<=b->Ϻs H0)(I:ù H6 σ H0 s)(F:∀b∈ϫN,ϵE H0 b)(Z:ϯB l 0)(r:s.Ë S=Â ((Ċ "list" (δ #[]))))(M:∀(a:Da)(g:Hp)(t:À Ix)(G:Nat),ù H6 σ g a->ϵE g S->a.Ë S=Â ((ϸ2 "list" (ϰe ϧE G)))->t.À=n->LZ X H0 g x y t->R (ϩc ò) a):
  ϷJ ϳQ A.in1 (Builtin.«list.__init__» (ϱc [É S,É ŷ])) (λfin a=>match fin with| .done f=>R (.ok f) a| .again G=>Μ G.quiet/\ϸB ϳQ A G R a) (λe a=>R (.error e) a) s:=by
 let key:∀(h:Op)(c:Nat),(∀b o,b≠S->ϱL ϰc Ö h.È)->h.È S=Â ((Ċ "list" (δ #[] c)))->ϸB ϳQ A (Ρ "list.extend.loop" (ϱc [É S,É ŷ,ò])) R {s with heap:=h}:=λh c K C=>QE O ò L N U Y Q q0 q1 i n 0 _ H0 [] c Á ϰS (ϧB I F<|(ϩ8 (K b o (λz=>B<|Ϯ z) q))) F (Z.ò N K) C rfl ⟨ϰ2,λc o h=>Ð h,λT k=>by simp at k,λj T P=>by simp at P⟩ M;let(v,b,W):=Z.xf;let p:S≠ŷ:=Á
 change ϷJ _ _ (do let old <-Builtin.List.listItems (.ref S);Builtin.List.listUpdate (.ref S) (λ_=>#[]);letGo old.toList.å;Builtin.List.listExtendWith (.ref S) (.ref<|n0+2+2) .none) _ _ s;show ϲZ;erw[Builtin.List.listItems];show Ps<|K8F r rfl ϴ1;change ϶j _ (όy (Ţ #[]) >>=λ_=>letGo (#[]:Η Db).toList.reverse >>=λ_=>Builtin.List.listExtendWith (É S) (É ŷ) ò) s;show Ps<|wpAny_updateSeq r rfl ?_;let u:=K7p s.Ì S Ϧ7;let H:=K7u Ϧ7 r rfl;show ϓm ?_;let d:(Ϯj Ϧ7).get? ŷ=Â (xf n0 v<|ã b):=ĉ (u.2 _<|neN Á) W;erw[Builtin.List.listExtendWith];show Ps<|wpAny_typeOf (T:="zip") ⟨_,d,rfl⟩ ?_;let w:Builtin.List.listSameRef (É S) (É ŷ)=false:=by simp[Builtin.List.listSameRef,p]
 let D:Ł (Ϛs "list"):=Ý
 let J:Ł (Ϛs "tuple"):=Ý
 simp only[w,D,J,Bool.or_false,Zdi,if_false];let k:((ϹJ (Ϯj Ϧ7)):Da).TypeIs (É ŷ) "zip":=⟨_,d,rfl⟩
 show Ps<|ϛr<|Ϛ2<|PySem.F.args_zip_iter_1 _;show ϧK ?_;erw[Builtin.List.listLengthHint];show Ps<|ϐV F7 ?_;change Ϟ (specialOf (ϭa ŷ) (Str.ofString "__length_hint__"));show Ps<|ϐV Dv ?_;show ϴ1;change ϶j _ (rule "list.extend.makes-room" >>=λ_=>Builtin.List.listTouch (É S) >>=λ_=>again<|Ρ "list.extend.loop" (ϱc [É S,É ŷ,ò])) _;show ϪZ;show ϲZ;change ϶j _ (όy (·.push ò) >>=λ_=>όy (·.pop)) _;show Ps<|wpAny_updateSeq (s:=(ϹJ _)) H rfl ?_;let s2:=K7p (Ϯj Ϧ7) S (ϪT Value.none);let E:=K7u (ϪT Value.none) H rfl;show wpAny_updateSeq (s:=(ϹJ _)) E rfl ?_;let s3:=K7p ((Ϯj Ϧ7).update S (ϪT Value.none)) S ϘP;let m:=K7u ϘP E rfl;show K9J ⟨ϖa,key _ _ (ϩ8<|ĉ (s3.2 b B)<|ĉ (s2.2 b B)<|ĉ (u.2 b B) q) m⟩
def rLz(K:At):À V->Hp->Ú VK:=λv H Q=>∃(a b:Nat)(X s:À V),v=[É a,É b]/\μ a X/\μ b s/\X.À=s.À/\
 ∀(h:Hp)(t:À Ix)(p:Ix),aK H h->(ώ (h c=Ö)<|H c=Ö\/ϤK)->(∀T∈t,Ϩ2)->t.À=X.À->(∀(j:Nat)(T:Ix),t[j]?=some T->∃x y,ę X=Ď/\s[j]?=ϰO/\h T=Â (Ī ϶K))->h p=none->Q (É p) (ϑh<|ô ϒi)
def AD:∀t:À Ix,ţ ϒi ϧE:=by
 induction _ with|nil=>show õ|cons _ t N3=>show ą rfl<|N3
def Pa{p p2 pos P:Pos}(hc:ϗ)(G:γ "list")(M:X.mg "list"=none)(y:ϺP "list")(hg:γ "zip")(hm:ϧG)(ha:ϱT ϲa ta)(hs:à (æ ϲa=ϻt ϰI ϲh))(k:à (æ [b]=϶z ϲh))(m:à (æ [ϪD]=϶z (ϬP ϪD))):
  ā (ϳP "list" [ϱb (ϱ9 "zip" p2) ϲa P]) (tCB (rLz X.K) ta):=by
 ext i s σ H Q I h;show K8h<|lW I G M y ?_;show K98 ?_ m rfl;rw[m];change ϶j _ (spliced<|Ϲg ϪD (ϲD [])) s;show ϯO ?_;show Call_ (lW I hg hm vP<|ϛe<|by rw[k];rfl);let(vs,H1,f,r1,q1):=zq;let(l,w,xs,ys,e,W,hr,E,q):=q1;subst e;let(u,v,rfl,ru,R):=Vals.two r1;cases ru;cases R;let(C,rv,pl,Y):=f.ê W;let(t,Tl,r,hz2):=f.ê hr;let D:l<S.Á:=(let⟨o,e,_⟩:=pl.Ê;ϱv);let F:w<S.Á:=(let⟨o,e,_⟩:=r.Ê;ϱv);let lt:Θ 2 ((λj=>Ó [l,w] j 0) j<S.Á):=λj J=>match j,J with
  |0,_=>D
  |1,_=>F
 show O5 (ls:=λj=>Ó [l,w] j 0) (xs:=λj=>Ó [C.toArray,t.toArray] j #[]) (λj J=>match j,J with
  |0,_=>pl.Ê
  |1,_=>r.Ê) λc Z hk=>?_
 show ϑF ?_;let N:ϲf 2+2<c.Â:=K9h Z.zp;show callType_codes (Q₁:=λobj d=>obj=É c.Â/\d=Ϭe (c.û (Ċ "list" (δ #[])))) PySem.F.called_list (PySem.F.typeCall_list_1 _) PySem.F.entry_list_init (code_list_new _ ϻl) λobj d h₁=>?_;let(rfl,rfl):=h₁;let U:ϰV (c.û (Ċ "list" (δ #[]))) c.Â=Â ((Ċ "list" (δ #[]))):=Ϣ;let K:∀b o,ϒB=Ö->ϰV (c.û (Ċ "list" (δ #[]))) b=Ö:=λb o q=>ő<|hk b o q;let I2:ù i σ H1 ((Ϭe (c.û (Ċ "list" (δ #[]))))):=f.ò (t':=S.ã) K;let big:∀b∈c.Â::ϙJ 2,S.Á<=b:=λb B=>by
  rcases K8v.mp B with z|z
  .rw[z]
   change S.Á<=c.Â;lia
  show(vJ z).1
 let Z2:ZW c.Â (c.û (Ċ "list" (δ #[]))) S.Á (λj=>Ó [l,w] j 0) 0:=
  Ð ⟨rfl,_,rfl,⟨ő Z.zp,ő Z.ti,ő Z.to,λj J=>(Z.it j J).at λo q=>ő q⟩⟩
 show((_,U,rfl),PySem.F.args_list_init_2 _ _,K7 (A:=X.A.in1) (n:=xs.À) (I.ok.hd hc) lt N rfl E.Ï Y W hr (λb B=>f.É B) I2 (λb B=>f.fpOk (big b B)<|f.É<|big b B) Z2 U λs' H' T c' I' O x g L=>?_);show(rfl,É c.Â,_,adopt (o:=ô<|T.Ç V.ref) I' O ⟨by rw[K0,g];show Y,T.Ç Value.ref,c',AD T,x⟩,rfl,q H' T _ L.up L.new L.â g L.tup O.1)
end L2
namespace L3
open PySem L2 PySem.Spec PyProof.Rows
def gLz:À Gc->Ĭ
 |[.list ds,.list es]=>Ë Ϛg (.ok (Ę ύU)) Î
 |_=>Î
def ZF(h:Ϛg):gLz [Ï ds,Ï es]=.ok (Ę ύU):=ϰo
section
variable{M:Mx}{X:Cx}
open Classical in
def YZ(P:Υ):ϻD rLz gLz:=by
 rw[P];ext x dx F H fp Q s rx p;cases rx with
 |nil=>show ú
 |cons r0 t0=>
  cases r0 with
  | @lst a xs D h1 h2=>
   cases t0 with
   |nil=>show ú
   |cons r1 t1=>
    cases r1 with
    | @lst b ys E h3 h4=>
     cases t1 with
     |cons _ _=>show ú
     |nil=>
      erw[gLz]at p;dsimp only at p;let(hle,p):=ϱO
      show(a,b,xs,ys,rfl,ϷW,(h3.Î s).sq,by rw[ϴQ,Ϭq,hle],λd t q up new free W tup G=>?_);let u:∀T∈t,F T=none:=λT n=>s.â<|free T n;let r:ϲu (λc=>Ë ϤK (d c) (F c)):=λc o C=>by
       change(Ë ϤK (d c)<|F c)=Ö;rw[P3 λm=>by rw[u c m]at C;cases C];show C
      let p':Ϸ (Ę ϩm):=p;let i:q∉t:=λm=>by let(j,J):=Zac m;let(_,_,_,_,h):=tup j q J;rw[G]at h;cases h
      let f:H q=none:=by
       cases e:H q with|none=>rfl|some o=>have:=up q o e;rw[G]at this;cases this
      let ra:϶B (λc=>Ë ϤK (d c) (F c)) ϒi ϩm:=by
       let key:∀(L:À Ix)(k:Nat),(∀j T,L[j]?=some T->T∈t/\∃x y,xs[k+j]?=Ď/\ys[k+j]?=ϰO/\d T=Â (Ī ϶K))->L.À+k=D.À->϶B (λc=>Ë ϤK (d c) (F c)) (L.Ç V.ref) (τ ϩm k):=λL=>by
        induction L with
        |nil=>
         ext k _ K;rw[Zdj<|by erw[gq];rw[K0,Zao];simp at K;lia];show õ
        |cons T L ih=>
         ext k n K;rw[K9p]at K;let l:k<Ã ϩm:=ϙy gq
         let(m,x,y,A,Y,ht):=n 0 T rfl;let S:ϫ ϩm=some ϩm[k]:=Nu l;let(d1,d2,e1,N,O):=rA S;let(u1,U,R):=ϸO h2 e1;let(u2,w,B):=ϸO h4 N;rw[Zfl]at A Y;rw[U]at A;rw[w]at Y;cases A;cases Y;rw[K8N l,K9w,O];show ą (Ī (by change(Ë (T∈t) (d T)<|F T)=_;rw[Os m];show ht)<|ą (R.Î r)<|ą (B.same r) õ) (ϛ2 Á);let:=n (j+1) I ϙI;rw[ê (k+(j+1)=k+1+j)]at this;show this
       let:=key t 0 (λj T J=>⟨K9L J,Ô K87 (tup j T J)⟩) (by rw[W,ϴQ];rfl);rw[List.drop_zero]at this;show this
      show p' (É q) (λc=>Ë ϤK (d c) (F c)) _ [q] ⟨r,λc o C=>?_,λc o C=>?_,λc C Z=>?_⟩ ⟨.ol aU<|N1.shs ra,Û,ύB⟩ ύB
      .rw[aC λz=>by rw[z,f]at C;cases C]
       show up c o C
      .let g:(Ë ϤK (d c)<|F c)=Ö:=C
       cases m:c∈t
       .rw[Os m]at g
        rw[aC λz=>i<|by rw[<-z];show m];show g
       rw[P3 m]at g;let v:=s c o g;rw[aC λz=>by rw[z,f]at v;cases v];show up c o v
      .change(Ë ϤK (d c)<|F c)=none
       rw[P3 λm=>C<|free c m];show Z
      .let:c=q:=ϲE
       rw[this];change(Ë (q∈t) (d q)<|F q)=none;rw[P3 i];show s.â f
      let:c=q:=ϲE
      rw[this];show f
    |_=>show ú
  |_=>show ú
def Y9{p p2 pos P:Pos}(C:ϗ)(G:γ "list")(h:X.mg "list"=none)(V:ϺP "list")(hg:γ "zip")(c:ϧG)(A:ϸl ϲa)(d:à (æ ϲa=ϻt ϰI ϲh))(S:à (æ [b]=϶z ϲh))(s:à (æ [ϪD]=϶z (ϬP ϪD))):
  ï (ϳP "list" [ϱb (ϱ9 "zip" p2) ϲa P]) (eB gLz al):=ũ peI (Pa C G h V hg c ϴX d S s) (Uo (YZ m) q)
end
def tB(P:Ú St)(b:Bool):TE:=λa H Q=>P a/\∀h,aK H h->Q ϵO h
end L3
namespace L3
open PySem L2
open PySem.Spec PyProof.Rows PySem.W
def ZI:Gc->όt|.bool b=>ϧ|.int i=>Â<|i !=0|_=>none
def VG:V->όt|.bl b=>ϧ|.int i=>Â<|i !=0|_=>none
def vh:À Gc->Ü ϨE
 |[]=>Â []
 |d::r=>match ZI d,vh r with
  |some b,some bs=>Â<|b::bs
  |_,_=>none
def wK:À V->Ü ϨE
 |[]=>Â []
 |d::r=>match VG d,wK r with
  |some b,some bs=>Â<|b::bs
  |_,_=>none
def vp:À Gc->Ĭ
 |[.list ds]=>(match vh ds with
  |some bs=>oB Ϭc
  |none=>Î)
 |_=>Î
def Xq(K:At):À V->Hp->Ú VK:=ϷB (∃(a:Ix)(s:À V)(bs:ϨE),X=[É a]/\ϸt a s/\wK s=ϩy/\Q (.bl Ϭc) H)
private def Y4{K:At}{F:Hp}{s:À Gc}{S:À V}(h:ž S s):∀{bs:ϨE},vh s=ϩy->wK S=ϩy:=by
 induction s generalizing S with
 |nil=>ext bs e;cases h;show e
 |cons d r ih=>
  ext bs e;cases h with
  |@cons v vs' _ _ q t=>
   erw[vh]at e;split at e
   .rename_i b B e1 g
    cases e;erw[wK];let ev:VG v=ϧ:=by
     cases q with
     |bl _=>show e1
     |int _=>show e1
     |non=>cases e1
     |str _=>cases e1
     |lst _ _=>cases e1
     |tup _ _=>cases e1
     |dct _ _ _=>cases e1
    rw[ev,ih t g]
   cases e
private def XH(r:ţ vs us):wK vs=ϩy->∀{i:Nat}{u:Db},á us=ķ->∃b v,bs[i]?=ϧ/\VG v=ϧ/\ϲj:=by
 induction r generalizing bs with
 |nil=>ext e i u U;simp at U
 |@cons v u0 vs us q t ih=>
  ext e i u U;erw[wK]at e;split at e
  .rename_i b s e1 g
   cases e;cases i with
   |zero=>cases U;show(b,v,rfl,e1,q)
   |succ i=>
    let(B,V,h,H,f):=ih g (i:=i) ϮZ;show(B,V,ϱZ,H,f)
  cases e
private def Vg:wK vs=ϩy->bs.À=vs.À:=by
 induction vs generalizing bs with
 |nil=>ext e;cases e;rfl
 |cons v vs ih=>
  ext e;erw[wK]at e;split at e
  .rename_i b B e1 g
   cases e;rw[K9p,K9p,ih g]
  cases e
def range_any(bs:ϨE):((ϱR bs.À).any λi=>Ó (bs[i]?) false)=Ϭc:=by
 rw[K8j,Zdr,Zdr];constructor
 .rintro⟨i,hi,h⟩
  rw[K9G]at hi;rw[ϰD]at h;show(bs[i],Zah hi,h)
 ext⟨b,hb,h⟩;let(i,hi):=Zac hb;show(i,϶u (ϻV).1,?_);rw[hi];show h
section
variable{M:Mx}{X:Cx}
def rK(C:ϗ):ϳM (Ρ "any") (Xq X.K):=by
 ext p s y H x U Q I r h;let(a,o,bs,rfl,m,j,q):=h;let(u,rfl,L):=Ϩw;cases(ϥO<|u=ϹA);let(T,R,pl,Z):=϶F m.sq;let l:=pl.Ê;let na:a<s.Á:=by let(_,z,_):=l;show K9h z
 let sz:T.Ø=bs.À:=Ζ K9W (Vg j) R.length.Ï
 show PySem.call_any_walk (wpAny_pyIter_list l ⟨s.Á,[s.heap.objs.size,a],ϐ6,T.toArray.size,_,_,λi=>Ó (bs[i]?) false,rfl,
  Walks.list (A:=X.A.in1) ϳX _ a (K9O na) T.Æ,⟨⟨_,Ϣ,rfl,rfl⟩,l.û _⟩,λi v S n E P f=>?_,λh' tk K=>?_⟩)
 .let V:T[i]?=ĥ:=ť P
  let(b,w,k,d,g):=XH R j V;simp only[k,Zaz]at f;cases w with
  |bl c=>
   cases d;cases(ύ (v=Value.bool b) g);show K8b f
  |int c=>
   cases d;let(t,rfl):=(ύ (∃t,v=Value.int c t) g)
   show truthy_int f
  |_=>cases d
 let e:((ϱR T.Ø).any λi=>Ó (bs[i]?) false)=Ϭc:=Ô sz (range_any bs)
 rw[e];show(Ϧq,H,I.ò<|LSm.kept_iter K,rfl,q)
def yL(m:Υ):ϻD Xq vp:=by
 rw[m];show Ϫz;cases B:vh d with
 |none=>rw[B]at p;show ú
 |some bs=>rw[B]at p;show(_,_,bs,rfl,ϔY,Y4 h2 B,Ϻ0 Ϧq)
def Dt(h:vh ds=ϩy):vp [Ï ds]=þ (ã Ϭc):=by erw[vp];simp only[h];rfl
def xR(ns:À Int):vh ō=Â (ns.Ç ώl):=by
 induction ns with|nil=>rfl|cons n r ih=>rw[K9w];erw[vh];rw[ih];rfl
def Me(ns:ϨE):vh (ns.Ç PyData.bool)=Â ns:=by
 induction ns with|nil=>rfl|cons n r ih=>rw[K9w];erw[vh];rw[ih];rfl
def D8:ϰd
 |.tuple xs,.tuple ys=>Ë (ϩz/\ys≠[]/\ϪP) (þ (Ą ϭe)) Î
 |_,_=>Î
def Mu:R2:=ϰj (∃l b X zs,x=É l/\y=É b/\H l=Â (Ī X)/\H b=Â (Ī zs)/\ϵa X/\zs≠[]/\ŀ (ϻU X.À)/\∀p,ϵw->Q (É p) (ļ p<|Ī<|X++zs))
def MC:ϴC Add Mu:=by
 ext p s G H x y v u Q I z Y h;let(l,b,f,zs,rfl,rfl,i,B,N,t,Z,q):=h;cases z;cases Y;let(A,V,r,T):=(ύ (Ϲn H s.Ì l (Ī f))<|I.hok l _ i)
 let(E,ws,R,p2):=(ύ (Ϲn H s.Ì b (Ī zs))<|I.hok b _ B)
 obtain⟨⟨cls,g,data,L⟩,j,C,n,a⟩:=T;obtain⟨⟨c,d,data2,S⟩,o,D,m,hd2⟩:=p2;simp only at C a D hd2;subst C a D hd2;let k:ϵa V:=λe=>N (Zas<|by rw[r.length,e];rfl);let w:ws≠[]:=λe=>t (Zas<|by rw[R.length,e];rfl);let e:V.toArray++ws.Æ=Ϻo (V++ws):=Û
 apply concat_meets ⟨_,j,rfl⟩ ⟨_,o,rfl⟩ noFill_tuple_add seq_tuple_add PySem.F.slot_tuple_add PySem.F.entry_tuple_add (PySem.F.args_tuple_add_2 _ _)
  (Ϛ6<|by rw[K9W,K9W,<-r.length,<-R.length];show Z) ⟨j,o,?_⟩
 rw[e];let F:ϘM:=I.É ì;show(É s.Á,ϵ2<|Ī<|f++zs,ϮV (λb u e=>ő e) ì ?_,rfl,q _ F);show(ϓc K9v,V++ws,r.đ R,(_,Ϣ,rfl,_,rfl))
def Pg:ϩ Mu D8:=by
 ext x y dx dy F H f Q s R Y p;cases R with
 |tup h1 h2=>
  cases Y with
  |tup h3 h4=>
   let(h,p):=ϱO;show(_,_,_,_,rfl,rfl,s _ _ h1,s _ _ h3,λe=>h.1 ?_,λe=>h.2.1 ?_,Ζ ϴQ Ϭq (lj h.2.2),λa A=>OkE.tupF s p ϒp (E5.app h2 h4) A)
   .show Zas (by rw[<-ϴQ,e];rfl)
   show Zas (by rw[<-Ϭq,e];rfl)
  |_=>show ú
 |_=>show ú
def sM(ns:À Int):(ϱE).all Yy=true:=by rw[List.all_map,K7x];ext x _;rfl
def Ta(X y:À Gc):D8 (Ą X) (Ą y)=Ë (ϵa X/\y≠[]/\X.À+y.À<=Tk) (þ (Ą<|X++y)) Î:=rfl
end
end L3
namespace L3
open PySem L2 PySem.Spec PyProof.Rows
mutual
def noD:ϱP Gc|.tuple ds=>My ds|.list ds=>My ds|.dict _=>false|.none=>true|.bool _=>true|.int _=>true|.str _=>true
def My:ϱP (À Gc)|[]=>true|d::ds=>noD d&&My ds
end
abbrev Fb:=Ϫo (Env×OD)
def zP(n:Nat)(X:À OD):Env:=X.Ç some++ϳ3 (n-X.À) none
def AY(M:Mx)(n:Nat)(F H:Hp)(f:À Ix)(D:Ends)(r:Env×OD):Prop:=
 ∀v c b h p Y,ϰw b h c r.1 p->ż f b h (p++Y)->ϒz r.2 Y->ϙX D.rt
def tBd(M:Mx)(n:Nat)(b:Fb):TS:=λD c H=>∃F a f,ϰw F H c a f/\Ĉ f (Ϭ8 F H f D) (b a)
def DB(M:Mx)(X:Cx)(c:Bool)(ss:À No)(b:Fb):Prop:=Υ->ϥC->∃T,ϴ4 ss T/\∀D:Ends,(ϱs->∀a H,D.rt Β H->Ϥt H)->∀a H,tBd M X.õ b D a H->T D a H
def bNx:Fb:=λa=>Ħ (a,.sh ò)
def LN(s:Fs)(b:Fb):Fb:=λa=>ó (s a) λo=>match o with
 |.nx ρ'=>b ρ'
 |_=>Î
section
variable{st:No}{pos:Pos}
def AY.stp(s:ż fp F1 H1 fp1)(h:Ϭ8 F H fp D r):Ϭ8 F1 H1 fp1 D r:=λv e f g p Y a b c d=>h v e f g p Y a (s.Å b) c d
def PostBs.stp(s:ż fp F1 H1 fp1)(h:Ĉ fp (Ϭ8 F H fp D) r):ϓD (Ϭ8 F1 H1 fp1 D) r:=Ů (h.ē s) λo j=>j.ē s
def U_:DB M X true [] bNx:=λk b=>⟨_,GN,λD e a H h=>by
 let(F,c,f,S,p):=h;show e rfl a H (p Β a F H f [] S ?_ (Res.sh Β) ϰq)
 rw[K9d];show Stp.refl⟩
def Ii(l:Ϧ st s)(n:DB M X f ss b):DB M X f (st::ss) (LN s b):=λm d=>by
 let(T,t,k):=n m d;show(_,D9 (l m d) t,λD q r H h=>?_);let(F,a,j,S,p):=h;show(F,a,j,S,Ń Ϩy);cases o with|nx ρ1=>show λc e g P i st=>k D q c g ⟨e,ρ1,P,i,PostBs.stp st po⟩|bk a=>show po.Ä|ct a=>show po.Ä|rt x=>show po.Ä
end
def spP(K:At)(np n:Nat)(b:Fb):Sp:=λs H Q _=>∃F X f,ϰP/\ϻ7 K s X f/\X.À=np/\∃r,b (zP n X)=.ok r/\
 ∀v d c h p Y,Ϲ5 c h d r.1 p->ż f c h (p++Y)->Res K c h v r.2 Y->ϙX Q
def FP{K:At}{F H:Hp}(m:Nat):∀{s:À V}{X:À OD}{f:À Ix},ψ s X f->ϰy (s.Ç some++϶1 none) (X.Ç some++϶1 none) f:=by
 ext s
 induction s with
 |nil=>
  ext _ _ r;cases r;rw[K9D,K9D,K9B,K9B]
  induction m with|zero=>show õ|succ m ih=>show Ϧr
 |cons a s ih=>
  ext _ _ r;cases r with|cons h r=>show .yes h<|ih r
def fnP{P:Do}{w:Ev}{K:At}{m:Ŏ}{base:Op}{x qual:Str}{t:No}{f:Ix}{fd:Fk}{N p:À Str}{k np n:Nat}{b:Fb}(o:p.À=np)(j:ϔs)(F:Fun K x qual t f fd)(S:Fq N p (ah t))
  (h:∀(c:Db)(A:Go)(outer:À PySem.Env)(s:Da)(H:Hp)(E:XK),ϦW (ah t)->DB όs (Ϗf (ah t)) true (bN t) b):
  ϳ5 m base y_ (k+1) f fd p (spP K np n b):=by
 subst o j;let L:ώG p.À:=by
  let:=Ż S.pre;rw[K9f]at this;lia
 let l:ϑ0 (spP K p.À N.À b v H Q E) p.À:=by ext v H Q E ⟨F,X,g,sm,R,a,_⟩;rw[R.own.len,a]
 show F.ok S l λc A outer s H v Q E hr d=>?_;let V:=l _ _ _ _ d;let(e,X,g,sm,R,a,r,B,q):=d;let(T,i,u):=ϏH;show(T,i,u _ (λ_ y H z=>z) _ H ⟨e,zP N.À X,g,⟨sm,?_,R.nd,R.fr,?_⟩,?_⟩)
 .unfold L2.start zP
  rw[V,a];show FP _ R.own
 .unfold zP
  rw[K9v,K0,K8r,a];change p.À+(N.À-p.À)=N.À;lia
 change az _ _ _ _ (b<|zP N.À X);rw[B];show q
def free:ϱP OD|.ol _=>true|_=>false
open Classical in
def E5.set{K:At}{F:Hp}{v:V}{d:Gc}(r:Ŀ F v d):∀{S:À V}{s:À Gc}(j:Nat),ž S s->ž (S.ß j v) (s.ß j d)|_,_,_,.nil=>õ|_,_,0,.cons _ q=>ą r q|_,_,j+1,.cons h q=>ą h<|E5.ß r j q
def A7:ϴ4 ss Bi:=ϘH
def IU:Ϲ8 ss Ju:=λ_ _=>Ti A7 (ϲK Rj)
section
variable{b:Fb}
def Rr(b:Fb):Out->R (Env×OD)|.nx ρ'=>b ρ'|_=>Î
def Ub:LN s b ρ=unK (Rr b) ϩN:=by
 erw[LN];cases s ρ with
 |ok o=>cases o<;>rfl
 |ex c=>rfl
 |bad=>rfl
def L0:Rr b (.nx ρ')=b ρ':=rfl
def Ya:bNx ρ=Ħ (ρ,.sh ò):=rfl
end
open Classical in
def Nt:À Gc->Ĭ
 |[.int i]=>oI ϪO
 |_=>Î
def Eb:ϰd
 |.int i,.int j=>Ë (j≠0) (oI ύi) Î
 |_,_=>Î
def pU(j:Int):Bool:=Õ (0<j)&&Õ (j.natAbs.log2<9000)
def JY:ϰd
 |.int i,.int j=>Ë (ϵQ pU) (oI Ϥp) Î
 |_,_=>Î
def VU:ϦP (ϷB<|∃i,X=[Ä i]/\Q (Ä ϪO) H) Nt:=by
 ext x dx F H f Q s R p;cases R with
 |nil=>show ú
 |cons h r=>
  cases h with
  |int i=>cases r with|nil=>show(_,rfl,ϸu)|cons _ _=>show ú
  |_=>show ú
def QP:ϩ (Ϩ0 (j≠0)<|λi j=>Ä ύi) Eb:=Ϫu
def Vb:ϴC FloorDiv (Ϩ0 (ϵQ pU)<|λi j=>Ä Ϥp):=ϐj (by let t:ϵQ pU:=C;erw[pU]at t;rw[K9U,K9k,K9k]at t;show floordiv_int Á (Ô (Zdx i Á) q)<|Ð<|PyProof.noPylong_of_log2 t.2)
def TV:ϩ (Ϩ0 (ϵQ pU)<|λi j=>Ä Ϥp) JY:=Ϫu
def P_:PIp X .Mult (rI (λi j=>ϻf cQ) λi j=>Ä<|i*j):=by ext p s a H x y v u Q I r m h;let(i,j,e1,g,C,q):=h;subst e1;subst g;let(t,rfl):=r;let(T,rfl):=m;simp only[K9U]at C;show imul_int (ϵl (Ä _) ζ)<|IntMulOk.of_bits (ϷR C.1)<|ϷR C.2
def Y3(i:Int):Nt [Ä i]=.ok (Ñ ϪO):=rfl
def T2{i j:Int}(h:j≠0):Eb (Ä i) (Ä j)=.ok (Ñ ύi):=by
 change(Ë (j≠0) _ _)=_;rw[ϰo];rfl
def RJ{i j:Int}(h:ϵQ pU):JY (Ä i) (Ä j)=.ok (Ñ Ϥp):=by
 change(Ë (ϵQ pU) _ _)=_;rw[ϰo];rfl
def log2_lt(he:0<e)(h:a<2^e):a.log2<e:=by
 rcases Zcg a with H|p
 .subst H
  show he
 show(Nat.log2_lt<|Zbx p).mpr h
def W4(i:Int):Prop:=i.ñ<ϩ0
def W4.bits{i:Int}(h:W4 i):cQ i=true:=by
 show Z8 ?_;erw[Builtin.Int.intBits];split
 .show ϰS
 let:=log2_lt Ý h;lia
def W4.b9{i:Int}(h:W4 i)(p:0<i):pU i=true:=by
 erw[pU];rw[K9U,K9k,K9k];let:=log2_lt Ý h;show(p,Á)
abbrev Fm2:=ϱu (À Gc) (ϤR (À Gc×À Gc))
def Z0(K:At)(F H:Hp)(a b:Ix)(Q:VK):Ú (R (À Gc×À Gc))|.ok r=>∀u w f h,ϲu f->aK f h->(ώ (H c=Ö)<|c≠a->ϤJ->h c=Ö)->(ϏO<|f c)->h a=Â (ô u)->h b=Â (ô w)->E5 K f u r.1->E5 K f w r.2->Q Β h|_=>False
def Gn(K:At)(f:Fm2):Sp:=λv H Q _=>∃F a b C L s ws X y,v=[É a,É b,C]/\a≠b/\ϰP/\Ŀ F C L/\H a=Â (ô s)/\H b=Â (ô ws)/\Ϸi/\ώi/\ž s X/\ž ws y/\Z0 K F H a b Q (f X y L)
def AH(i j:Nat)(fa:Fe)(f:Fm2):Fs:=λa=>match ϴp,a[j]? with
 |some (some<|.ol xs),some (some<|.ol ys)=>(match shs xs,shs ys with
  |some dx,some dy=>ó (fa a) λy=>ó (f dx dy y.er) λr=>Ë (i=j) Î (ų ((Ϲm<|some<|Ę r.1).set j<|some<|Ę r.2))
  |_,_=>Î)
 |_,_=>Î
section
variable{M:Mx}{X:Cx}
theorem Stt.flatO(S:ϰw F H σ ρ fp)(x:á ρ=Â (Â ϱp))(D:shs xs=some ds):
  ∃a U,á σ=Â (Â<|É a)/\H a=Â (ô U)/\Ϸi/\ϩZ/\϶B F U ds/\
   ∀d h u s,ϲu d->aK d h->(ώ (H c=Ö)<|c≠a->h c=Ö)->(ϏO<|d c)->h a=Â (ô u)->϶B d u s->∃p,ϰw d h σ (ϰs<|Ň ϫy) p/\ż fp d h p:=by
 let(v,f,l,r,sub,wr):=S.swap x;let ro:=r.own;cases ro with
 |@ol a U _ g ha hv=>
  let(rfl,L):=N1.of_shs hv D;show(a,U,l,ha,ϸz K9z,sub a K9z,L,λd h u s j k K nw A R=>?_);let fa:d a=none:=nw a (bg ha)<|ϸz K9z;let(p,e,T,_):=wr d h (.ol ϫy) [a] k (.ol A<|N1.shs R) Û ϖi
   ⟨j,λc o q m=>ϭC q (λz=>m (Ô z K9z)),λc m=>Ð m,ϑC nw⟩
  show(p,e,T)
theorem Stt.flatP(S:ϰw F H σ ρ fp)(x:á ρ=Â (Â<|ϻT xs))(D:shs xs=some ds):
  ∃s,á σ=Â (Â<|É l)/\H l=Â (ô s)/\F l=none/\l∈fp/\϶B F s ds/\
   ∀a h u d,ϲu a->aK a h->(ώ (H c=Ö)<|c≠l->h c=Ö)->(ϏO<|a c)->h l=Â (ô u)->϶B a u d->∃p,ϰw a h σ (ϰs<|some<|ϻT ϫp) p/\ż fp a h p:=by
 let(v,f,t,r,sub,wr):=S.swap x;let ro:=r.own;cases ro with
 |@pl _ s _ g ha hv=>
  let(rfl,L):=N1.of_shs hv D;show(s,t,ha,r.fr l K9z,sub l K9z,L,λa h u d j k K nw A R=>?_);let fa:a l=none:=nw l (bg ha)<|r.fr l K9z;let(p,e,T,_):=wr a h (ϻT ϫp) [l] k (.pl A<|N1.shs R) Û ϖi
   ⟨j,λc o q m=>ϭC q (λz=>m (Ô z K9z)),λc m=>Ð m,ϑC nw⟩
  show(p,e,T)
def Stt.twoO{F:Hp}{d:Env}{p:À Ix}(S:ϰw F H σ d p){i j:Nat}(h:i≠j){X f:À OD}{dx dy:À Gc}(x:d[i]?=Â (Â Ϧh))(y:d[j]?=Â (Â<|.ol f))(ex:shs X=Â dx)(Y:shs f=Â dy){a b:Ix}(A:á σ=Â (Â<|É a))(B:ę σ=Â (Â<|É b)):a≠b:=by
 ext rfl;let(u,s,e,l,m,C,r,wr):=S.ę x ex;rw[A]at e;cases e;let(b1,ws,g1,g2,g3,g4,g5,_):=S.ę y Y;rw[B]at g1;cases g1;rw[l]at g2;cases g2;let(P,g,T):=wr F (ļ a<|ô<|s++[Β]) (s++[Β]) (dx++[ò]) ϰ2 (λc o q=>by
  let:c≠a:=λz=>by rw[z,m]at q;cases q
  rw[aC this];show S.Î c o q) (λc o q z=>Ô (aC z) q) Ϸ6 aU<|E5.app r<|ą Β õ
 let(v,w,k,K,D,E,t,_):=g.ę (i:=j) (by rw[K9E h];show y) Y;rw[B]at k;cases k;rw[aU]at K;cases K;let L:=t.í;let G:=g5.í;rw[K9v,K9e]at L;lia
theorem SY(N:ϗS)(h:Ϭ ϒs):
  wN (ϕA<|iA ϲo<|Ϙd<|ϸX (ď fa)) D σ H:=by
 let(F,Q,t,S,p):=h;erw[AH]at p;let(xs,ys,s,E,p):=azOo p
 let(dx,dy,X,Y,p):=azO2 p
 let(a,O,u,_):=S.ę s X;let(b,ws,g1,_):=S.ę E Y;show(É a,u,É b,g1,F,Q,t,S,Ń λy py V F1 H1 fy ex r3 w3=>?_);let(G1,m,k1):=r3.Ė ex w3;let L:=S.ā m;change ϔv ([É a,É b,V]++[]) H1 (λ_ e=>D.nx σ e) M.E;cases hf:f dx dy y.er with
 |bad=>rw[hf]at py;cases py
 |ex c=>show ĭ hf<|N _ _ _ c
 |ok r=>
  rw[hf]at py;let P:Ĉ t (ϳd t D) (Ë (i=j) Î<|ų ((Q.ß i<|some<|Ę r.1).set j<|some<|Ę r.2)):=py;cases I:i=j
  .rw[Os I]at P
   cases P
  rw[P3 I]at P
  let A:=L.twoO I s E X Y u g1;let(a1,O,k,h2,h3,h4,h5,W):=L.ę s X;rw[u]at k;cases k;let(b1,ws,g,g2,g3,g4,g5,_):=L.ę E Y;rw[g1]at g;cases g;show(G1,a,b,V,y.er,O,ws,dx,dy,rfl,A,m.fh,k1,h2,g2,h3,g3,h5,g5,?_);rw[hf];ext U J l e ff K kp nw v B ru R;let fb:l b=none:=nw b (bg g2) g3;let(fp1,S2,Z):=W l (upd e b<|ô ws) U r.1 ff (λc o q=>by
   let:ϤJ:=Ϙj fb
   rw[aC this];show ϭC q) (λc o q z=>by
   cases C:c=b
   .subst C
    rw[aU,<-g2];show q
   rw[aC C]
   show kp c o q z C) nw (by rw[aC A];show v) ru
  let(b2,ws2,e1,e2,e3,e4,e5,G):=S2.ę (i:=j) (by rw[K9E I];show E) Y;rw[g1]at e1;cases e1;let(w,S3,T):=G l e J r.2 ϰ2 K (λc o q z=>by rw[aC z]at q;show q) Ϸ6 B R;show P σ l e w S3<|m.ý<|Z.Å T
def Qg{pp pos cpos:Pos}(G:K1 X.ø X.w M.K M.mg X.ı CX k g fd ps ϔv)(n:ϗS)(hr:ϴh X.A)(hg:γ nm)(e:M.mg nm=Â (É g))(K:ϵo M.K (É g))(B:ϹG M.K [])(o:Ϩh M.E)(v1:ā e1 ϲo)(V:ā e2 (iX j))(b:ï e3 fa)(S:à (ϦY (ϱ9 nm pp) ϫ5 cpos))(h:ϱD (Ł<|nm==ϚY))(he:à (æ ϫ5=Ϲg e1 (æ [e2,e3])))(l:à (ϰX<|ϺZ<|æ [e2,e3]))(s:à (æ ϫ5=Ϲg e1 (æ [e2,e3])))(w:à (æ [e2,e3]=Ϲg e2 (æ [e3])))(p:à (æ [e3]=Ϲg e3 (æ []))):
  Ϧ (.Expr (ϱb (ϱ9 nm pp) ϫ5 cpos) pos) ϒs:=λm H=>by
 let a:Ϗv g fd ps ϔv:=by rw[m,H];show G
 let q:ā (ϱb (ϱ9 nm pp) ϫ5 cpos) (ϕA<|iA ϲo<|Ϙd<|ϸX (ϧC fa)):=by apply BX (ds:=[]) (dvs:=[]) a hr hg (by rw[H];show e) (ϥi K) (by rw[m];show B) õ o (f7 v1 (f7 V (f7 (b m H) tZ p) w) s) h he l
 show psI (CB q S) (ϭt (SY n z))
end
def Bk(n:Nat)(b:Fb)(X y:À Gc)(d:Gc)(r:À Gc×À Gc):Prop:=
 ∀p q:Ix,p≠q->∃a,b (zP n [ϳq<|X.Ç OD.sh,ϵq<|y.Ç OD.sh,Ř])=Ħ (a,.sh ò)/\a[0]?=ϩd (ϳq<|Ê r.1 OD.sh)/\a[1]?=ϩd (ϵq<|Ê r.2 OD.sh)
open Classical in
def fm2(n:Nat)(b:Fb):Fm2:=λX y d=>ϩl (∃r,Bk n b X y d r) (Ħ h.ĥ) Î
def Vl(x y:À Gc)(d:Gc)(c:Str):fm2 n b x y d≠.ex c:=by
 erw[fm2];split
 .intro z;cases z
 ext z;cases z
def VY(h:Bk n b xs ys d r):fm2 n b xs ys d=.ok r:=by
 let x:∃r,Bk n b xs ys d r:=⟨r,h⟩;erw[fm2];rw[dif_pos x];let(c,e1,T,q):=x.į 0 1 Ý;let(e,g,p2,k):=h 0 1 Ý;rw[e1]at g;let E:c=e:=(Prod.mk.inj<|R.ok.inj g).1;rw[E]at T q;rw[p2]at T;rw[k]at q;let inj:∀{u v:À Gc}{a:Ix},ϩd (ϒH<|u.Ç OD.sh)=ϩd (ϒH<|v.Ç OD.sh)->u=v:=by
  ext u v a z;injection z with z
  injection z with z
  injection z with _ z
  let j:=Uf shs z;rw[o7,o7]at j;show K9R j
 show Uf R.ok<|Prod.ext (inj T).symm (inj q).symm
private def ZL{P:Do}{w:Ev}{K:At}{g:Ŏ}{base:Op}{CX:CXT}{f:Ix}{fd:Fk}{S:À Str}{k n:Nat}{b:Fb}(G:ϳ5 g base CX k f fd S (spP K 3 n b)):ϳ5 g base CX k f fd S (Gn K<|fm2 n b):=
 G.imp λvs H Q E h=>by
  let(F,p,q,v3,D,us,ws,Z,ys,rfl,d,sm,J,C,I,y,B,U,R,ok):=h;erw[fm2]at ok;split at ok
  .rename_i x
   let(ρ',e1,i,j):=x.į p q d;generalize x.ĥ=r at ok i j;show(F,[ϳq<|Z.Ç OD.sh,ϵq ϒk,.sh D],[p]++([q]++([]++[])),sm,(ą (.pl C<|N1.shs U)<|ą (.pl I<|N1.shs R)<|ą (.sh J) õ,?_,?_),rfl,_,e1,?_)
   .simp only[K9B,K9d,Zcu]
    show K8k.ó ⟨by rw[K95];show d,Û⟩
   .intro a m
    simp only[K9B,K9d,Zcu,K8v,K8P,or_false]at m;rcases m with rfl|rfl
    .show y
    .show B
   .intro v σ' l t A fy s T Y _
    let(u,s1,N,O,s4,X,_):=Stt.flatP (M:=όu) s i<|o7 _;let(W,t1,t2,t3,t4,t5,_):=Stt.flatP (M:=όu) s j<|o7 _;let V:v=Β:=by
     cases Y.own with|sh z=>cases z;rfl
    subst V;show ok u W l t T.ff s.Î (λc o e c1 L=>T.ĉ c o e ?_) (λc e z=>?_) N t2 X t5
    .simp only[K9B,K9d,Zcu,K8v,K8P,or_false]
     rintro(z|z)
     .show c1 z
     .show L z
    .by_cases c1:c=p
     .subst c1
      show O
     .by_cases L:c=q
      .subst L
       show t3
      .apply T.nw c e ?_ z
       simp only[K9B,K9d,Zcu,K8v,K8P,or_false];rintro(z|z)
       .show c1 z
       .show L z
  .show ok.Ä
def tM(i:Nat)(k a:Fe):Fs:=λb=>match ϵU with
 |some (some<|.pl l xs)=>(match shs xs with
  |some ds=>ι λy=>ó (k b) λz=>match z.er with
   |.int q=>(match ixN ds.À q with
    |some j=>ų<|ϻh<|some<|ϻT<|Ê (ds.ß j y.er) OD.sh
    |none=>Î)
   |_=>Î
  |none=>Î)
 |_=>Î
section
variable{X:Cx}
def V3(h:Ϭ (tM i k a)):ϭD (ď a) (Sd ϲo (ď k) Hw):=by
 let(F,r,f,S,p):=h;erw[tM]at p;let(l,xs,e,p):=azPl p
 let(b,w,p):=azO p
 show(F,r,f,S,Ń λy py v J N Y e1 R W=>?_);let(G1,g,C):=ϹU W;let(X,B,O,Q,U,V,_):=S.flatP e w;show(_,B,G1,r,f,S.ā g,Ů (϶b py g) λz pz u L x Z E G I=>?_);let(G2,t,K):=G.Ė E I;generalize z.er=dz at pz K;cases dz with
 |int q=>
  cases K;let P:Ĉ f (ϳd f D) (match ixN b.À q with|some j=>ų (r.ß i<|some<|ϻT<|Ê (b.ß j y.er) OD.sh)|none=>Î):=pz;cases hj:ixN b.À q with
  |none=>rw[hj]at P;cases P
  |some j=>
   rw[hj]at P;let d:=g.Å t;let(s,g1,g2,g3,g4,g5,wr):=(S.ā d).flatP e w;show(l,s,q,j,rfl,rfl,g2,Ô (E5.í g5) hj,?_)
   let(m,A,T):=wr G2 (upd x l<|ô<|s.ß j v) (s.ß j v) (b.ß j y.er) ϰ2 (λc o q=>by
    let:c≠l:=Ϙj g3
    rw[aC this];show d.fh c o q) (λc o q z=>Ô (aC z) q) Ϸ6 aU<|E5.ß (C.Î t.ff) j g5
   show P σ G2 _ m A<|d.ý T
 |none=>show pz.Ä
 |bool _=>show pz.Ä
 |str _=>show pz.Ä
 |list _=>show pz.Ä
 |tuple _=>show pz.Ä
 |dict _=>show pz.Ä
variable{p pos:Pos}
def Hc(i:Nat)(hb:ï b fb)(h:ï e fa)(hN:ϵc (ð p))(hs:à (ϭ1<|ŕ (ð p) b p2))(hw:à (Ϯg<|ŕ (ð p) b p2))(ha:autoParam (∀v,ϧU (ŕ (ð p) b p2) v=(do
   let ov <-holding [v] (eval (.Name x p) X.Ü)
   let iv <-holding [v,ov] (eval b X.Ü)
   standAt p2
   holding [v,ov,iv] (setItem ov iv v)
   release [v,ov,iv] [])) mqad.é)(h1:à (Ϫw<|ŕ (ð p) b p2)):Ϧ (ϴZ [ŕ (ð p) b p2] e pos) (tM i fb fa):=ϦB (ϕD ((ϲK V3)))
def MQ{ρ:L3.Env}{d:À Gc}{y z:OD}{q:Int}(h:á ρ=ϩd (ϻT ϫp))(H:ϰm=϶A)(f:k ρ=Ħ z)(c:z.er=Ä q)(g:ixN d.À q=ϱ7):tM i k a ρ=ų (ϰs<|some<|ϻT<|Ê (d.ß j y.er) OD.sh):=by
 erw[tM];rw[h];dsimp only;rw[o7];dsimp only;rw[H,R.bind,f,R.bind,c];dsimp only;rw[g]
end
def okO(l:Nat):ϱP OD|.sh (.list ds)=>Õ ϑP&&ϦQ|.sh d=>nol d|_=>false
def yy(i:Nat)(fa:Fe):Fe:=λa=>match ϴp with
 |some (some<|.ol xs)=>if ϴ xs.all U0 then(fa<|Ϲm<|Â<|.sh (OD.ol xs).er).bind λy=>(match y with
  |.ol ys=>Ë (ϴ ys.all (okO xs.À)) (Ħ ϻW) Î
  |_=>Î)else Î
 |_=>Î
section
variable{K:At}{F H:Hp}{f:À Ix}{l:Nat}
def Mg(H:ϻy (F b=Â (ô ws)/\ws.À=l))(h:Ŀ F v (Ï ds))(e:ϑP)(g:ϦQ=true):Ŀ ϩe v (Ï ds):=by
 let L:ϻy (F b=Â (ô ws)):=ϗA (H b m)
 cases h with
 |@lst a xs _ h r=>
  show ô ?_<|wa L r g;let n:=r.í;rcases h with (h|⟨o,h⟩)|h
  .let m:϶L:=λm=>by let(s,e1,g):=H a m;rw[h]at e1;cases e1;show e (by rw[<-n];show g)
   show Ð (Ð<|Ϲu (i4 m))
  .let m:϶L:=λm=>by let(s,e1,g):=H a m;rw[h]at e1;cases e1
   show Ð<|Ø ⟨o,Ϲu (i4 m)⟩
  show Ø h
def A4(a:ϻy (F b=Â (ô ws)/\ws.À=l)){s:À V}{X:À OD}{g:À Ix}(h:ψ s X g)(e:ϴ X.all (okO l)):ϷM ϩe H s X g:=by
 induction X generalizing s g with
 |nil=>cases h;show õ
 |cons x X i=>
  cases h with
  |cons h r=>
   rw[K80,K9U]at e;show ą ?_<|i r e.2;let e1:=e.1;let L:ϻy (F b=Â (ô ws)):=ϗA (a b m)
   cases h with
   |@sh v d q=>
    cases d with|list ds=>have E:Μ (Õ ϑP&&ϦQ):=e1;rw[K9U,K9k]at E;show .sh<|Mg a q E.1 E.2|none=>show ϧP|bool _=>show ϧP|int _=>show ϧP|str _=>show ϧP|tuple _=>show ϧP|dict _=>show ϧP
   |ol _ _=>cases e1
   |ot _ _=>cases e1
   |od _ _ _=>cases e1
   |pl _ _=>cases e1
end
private def UI(h:ď (yy i fa) σ H Q):ď fa σ H Q:=by
 let(F,J,P,S,p):=h;erw[yy]at p;replace p:=Ϥv;let(X,e,p):=p
 replace p:=ϱO;let(O,p):=p
 let(v,f,g1,g2,u,s,rfl,A):=Ϸ9;let c:π Ϸi:=λa m=>ϸb<|Τ<|ϰA m;let o:=A ϸe H ϦE ϧR v (.sh (ϹS X)) [] (.sh<|s.Ė ϦE (ϵH (Ô (pI m) q)));rw[vj u]at o;let nd:=S.nd;simp only[K9T,K9Y]at nd;obtain⟨D,⟨K,E,G⟩,N⟩:=nd;let sub:∀a∈ϵu [],a∈϶d/\϶L:=λa m=>by
  simp only[K9B,K9Y]at m⊢;rcases m with m|m
  .exact(Ð m,λz=>N a m a (Ð z) rfl)
  show(Ø<|Ø m,λz=>G a z a m rfl)
 let t:ϻy (H b=Â (ô ws)/\ϚJ):=by
  cases s with
  |@ol a vs _ f' ha hv=>
   let:=Ha hv O;subst this;ext b m;let:b=a:=ϲE
   rw[this];show(_,ha,hv.í)
 let L:ϰw ϸe H σ (J.ß i<|Â<|.sh (ϹS X)) (ϵu []):=
  ⟨x8 S.Î,o,by
   simp only[K9B,K9T];show(D,E,λa m b d=>N a m b<|Ø d),λa m=>Ô (gO (ϵz).2) (ϸb (ϵz).1),Ô K8z S.í⟩
 let T:ż ϶d ϸe H (ϵu []):=⟨ϦE,ϫz,ϰW (Ð (ϵz).1),λa h m z=>by
  rw[gO λw=>m<|Τ<|ϰA w]
  show z⟩
 show(_,_,_,L,Ů ((Ϸc).stp T) λy py v1 g j x e1 R W=>?_)
 split at py
 .rename_i Y
  split at py
  .rename_i k
   let(ro,U,I):=R;let l:ϻy (g b=Â (ô ws)/\ϚJ):=λb m=>let⟨ws,q,q2⟩:=t b m;⟨ws,e1.ff _ _ (Ô (pI m) q),q2⟩
   let r:Own M.K (vE g f) j v1 (.ol Y) x:=by
    cases ro with|ol ha hv=>show .ol ha<|A4 l hv k
   show py v1 (vE g f) j x ⟨λb o B=>?_,e1.hh,λb o B=>?_,λb B C=>?_⟩ ⟨r,U,ϹN⟩ W
   .let:b∉f:=λm=>by rw[c b m]at B;cases B
    rw[i4 this];show e1.ff _ _<|ϦE _ _ B
   .by_cases m:b∈f
    .rw[BA m]at B
     cases B
    rw[i4 m]at B;show e1.fh _ _ B
   .by_cases m:b∈f
    .show BA m
    rw[i4 m];show e1.nw b B (όo<|gO m)
   cases d:b∈f
   .show BA d
   rw[i4 d];show I b m
  cases py
 cases py
def UY(i:Nat)(fa:Fe)(a:Env)(h:ϴp=some (Ň ϶a))(H:fa (Ϲm<|Ĕ<|Ï ds)=Ħ ϻW)(f:ϴ ys.all (okO ds.À)):yy i fa a=Ħ ϻW:=by
 erw[yy];rw[h];let e1:(϶a).all U0=true:=by rw[K7x];ext x X;let(d,_,rfl):=ϤQ X;rfl
 let g:ϹS ϶a=Ï ds:=by
  rw[md,S1];show Uf PyData.ê ?_;let:ϚE:=funext λd=>bc d;rw[this,Zdu]
 dsimp only;rw[Os e1,g,H];change(Ë (ϴ ys.all (okO (Ã ϶a))) (R.ok (OD.ol ys)) Î)=_;rw[K0,Os f]
def PU(i:Nat)(h:ï e fa):ï e (yy i fa):=ũ peI Ŷ (UI q)
def ve(a b:Fe)(i:Nat):Fs:=λc=>ó (a c) λy=>ó (b c) λz=>match c[i]? with
 |some (some x)=>όi [y,z,x]
 |_=>Î
section
variable{X:Cx}{pos:Pos}
def LB(h:Ϭ ϒ2):J4 (Ob<|iA (ď fa)<|iA (ď fb)<|ϸX ϲo) D σ H:=by
 let(F,l,P,S,p):=h;show(F,l,P,S,Ń λy py w s O Y e1 R k=>?_);show(s,l,_,ϵv,Ů (϶b py e1) λz pz u j c Z g r W=>?_)
 let(x,e,pz):=azS pz
 let(v,f,g1,g2,G,d,rfl,T):=Ϸ9;let sub:π (a∈϶d):=ϰW (Τ<|ϰA m);let N:f.Í:=ϕR
 show(v,G,ϻk (ŀ 3),ϸi);let X:Own M.K j c v x f:=(d.á e1.ff λa _ o z=>ϻN z).mono g.ff λa _ o z=>g.hh _ _ z;let y1:=R.ā g;let I:q∉f:=λm=>ϸ5 z (X.ö q m) Q
 let J:q∉Y:=λm=>ϸ5 z (y1.Þ q m) Q
 let K:q∉Z:=λm=>ϸ5 z (r.Þ q m) Q
 let t:∀a∈Y,϶L:=λa z m=>ϐL (d.ö a m) (k a z)
 let C:∀a∈Y,a∉Z:=λa z m=>ϐL (R.Þ a z) (W a m)
 let L:∀a∈Z,϶L:=λa m z=>by let(o,u):=d.ö a z;let:=ϻN u;rw[W a m]at this;cases this
 let up:∀a o,c a=Ö->upd c q (Ī [w,u,v]) a=Ö:=λa o z=>Ô (aC<|aL z Q) z
 let E:=ϭn g;let nd:(Ϙ6).Nodup:=by
  rw[K9d,K8k,K9T,K9T];show(λm=>ϵb (K9Y.mp m) J λm=>ϵg K I,R.nd,(r.nd,N,ϴJ (L a A (e▸B))),ϴJ ?_);rcases K9Y.mp B with m|m
  .show C a A (e▸m)
  show t a A (e▸m)
 show pz (É q) j (upd c q<|Ī [w,u,v]) Ϙ6 (ώF E.fh Q).fh ⟨ϓe<|Ϫv y1.ü<|Ϫv r.ü<|Ϫv X.á õ,nd,ϲM⟩ ⟨E.ff,λa o z _=>up a o<|ϴU z,ϲM,λa z _ u=>E.nw a z u⟩
 .rw[K9d]at m
  rcases K8v.mp m with rfl|m
  .show E.fh.â Q
  rcases K9Y.mp m with m|m
  .show y1.fr a m
  rcases K9Y.mp m with m|m
  .show ϸz m
  show let⟨_,z⟩:=d.ö a m;E.nw a (bg z) (ϸb ϵz)
 rw[K9d]at m;rcases K8v.mp m with rfl|m
 .show Ø<|E.þ Q
 rcases K9Y.mp m with m|m
 .show Ø<|k a m
 rcases K9Y.mp m with m|m
 .show Ø<|ώy<|W a m
 show Ð ϵz
def JP(i:Nat){x1}(h:ï e fa)(h2:ï e2 fb)(hN:ϵc (ð p))(hs1:à (æ [e,e2,ð p]=ϰG (æ [e2,ð p])))(hs2:à (æ [e2,ð p]=Ϲg e2 (æ [ð p])))(hs3:à (æ [ð p]=Ϲg (ð p) (æ []))):
  Ϧ (Ϭh<|Â<|.Tuple [e,e2,ð p] x1 pt) ϒ2:=λhK hM=>psI (Cp<|Gv<|f7 ύj (f7 (h2 hK hM) (f7 hN tZ hs3) hs2) hs1) (ϲK LB)
def LF(h:á ρ=Â Ď)(H:ϤH=϶A)(f:Ϫm=Ħ z):ϒ2 ρ=όi [y,z,x]:=by erw[ve];rw[H,cB,f,cB,h]
end
open PySem.W
def isT:ϱP (À (Gc×Gc))|(.none,_)::_=>true|_=>false
def Ci(d:À Ο):isT (d.Ç ϵi)=false:=by
 cases d with|nil=>rfl|cons p r=>let(k,v):=p;cases k<;>rfl
def AS:Gc->ϰd
 |.dict Fv,y,z=>if ϴ isT Fv then Î else(match keyOf y with
  |some k=>þ<|Ó (qH Fv k) z
  |none=>Î)
 |_,_,_=>Î
def xa(a b c:Fe):Fe:=λd=>ó (a d) λx=>ϪF (Ë (ϴ isT Fv) Î (ó (b d) λy=>ó (c d) λz=>ϔN (.dict Fv))) Î
section
variable{K:At}{F H:Hp}
def JM:∀{Fv:À ϴT}{s:À Ο}{k:Key},ϭQ s.Ç ((gE s k=none/\ϸq=none)\/∃v d,ϸq=ĥ/\gE s k=ϰN/\Ŀ F v d):=by
 ext Fv
 induction Fv with
 |nil=>
  ext s _ h _;cases s with|nil=>show Ð ϻl|cons=>cases h
 |cons p Fv ih=>
  ext s k h r;cases s with
  |nil=>cases h
  |cons q s=>
  rw[K9w,K9w]at h r;let(H,a):=K8B h;let H:p.1=q.1:=H;cases r with
  |cons r1 r2=>
   erw[gE,sT];rw[K8p,K8p];cases Q:q.1=k
   .rw[Z8 Q,Z8<|H.Å Q]
    show Ø ⟨_,_,rfl,rfl,r1⟩
   rw[K9q Q,K9q λz=>Q ϑD];show ih a r2
end
section
variable{X:Cx}{pos:Pos}
def Su(h:ď ϯ4 σ H Q):Ko (ď fa) (ď fb) (ď fc) σ H Q:=by
 let(F,g,f,S,p):=h;show(F,g,f,S,Ń λx px v B J T e1 R w=>?_);let(G1,D,K):=ϹU w;generalize x.er=d at px K;cases K with
 |@dct a Fv ds h1 h2 h3=>
  let X:Ĉ f Ϸ (Ë (isT (ds.Ç ϵi)=true) Î<|ó (fb g) λy=>ó (fc g) λz=>ϔN (dD ds)):=px;rw[Ci,ϳE]at X;show(a,rfl,Ð ⟨Fv,Ð<|D.fh _ _ h1⟩,G1,g,f,Ϲ6,Ů (϶b X D) λy py v2 C N U E t W=>?_);let(G2,i,m):=t.Ė E W;show(G2,g,f,(Ϲ6).ext i,Ů (϶b py<|D.Å i) λz pz v3 I O V G u A=>?_)
  let(G3,L,r):=u.Ė G A;let Z:az M H f Ϸ (if isT (ds.Ç ϵi)=true then Î else(match ϷI y.er with
   |some k=>þ<|(qH (ds.Ç ϵi) k).getD z.er
   |none=>Î)):=pz
  rw[Ci,ϳE]at Z;let P:az M H f Ϸ (match ϷI y.er with
   |some k=>þ<|(qH (ds.Ç ϵi) k).getD z.er
   |none=>Î):=Z
  cases hk:keyOf y.er with
  |none=>rw[hk]at P;cases P
  |some k=>
   rw[hk]at P;let Y:=pG m hk;subst Y;let e:Ϸ (.sh<|(qH (ds.Ç ϵi) k).getD z.er):=P;rw[uK]at e;let b:aK G1 G3:=ϵV (L.ff c o<|i.ff c o q);show(ϸq,Cu.k<|L.fh _ _<|b _ _ h1,OkE.val L.fh (OkE.pre (ĉ (D.Å i) L) e) ?_);rcases JM (k:=k) h2 h3 with⟨j,l⟩|⟨v,d,j,l,s⟩
   .rw[j,l]
    show r
   rw[j,l];show s.Î b
 |non=>show px.Ä
 |bl _=>show px.Ä
 |int _=>show px.Ä
 |str _=>show px.Ä
 |lst _ _=>show px.Ä
 |tup _ _=>show px.Ä
def Pc(U:ϷT 1)(A:ï a fa)(B:ï b fb)(C:ï c fc)(h:à (attributeBase a "get" X.Ü ϰI=ϰI))(f:à (Μ<|(ϺZ<|æ ϴ5).all Ϲz&&ώ3&&Õ (Ã (ϴ5:À On)+Ã ([]:À Keyword)+(Ë ([]:À Keyword).isEmpty 0 1)<30)))(l:à Ϯb)(t:à (ϺZ (æ ϴ5)=ϻt ϲh ϒZ)):
  ï (ϱb (ϴL a "get" apos) ϴ5 cpos) ϯ4:=ũ peI (J1 U ϴX ϸx (C m H) ⟨h,f,l,t⟩) (Su q)
theorem To:ϯ4 ρ=unK (λx=>ϪF (Ë (ϴ isT Fv) Î (ϗf Ϫm (fc ρ))) Î) ϤH:=by
 erw[xa];cases fa ρ with
 |bad=>rfl
 |ex c=>rfl
 |ok x=>
  change(ϪF _ _)=(ϪF _ _)
  cases x.er with
  |dict Fv=>
   dsimp only
   split
   .rfl
   cases fb ρ<;>cases fc ρ<;>rfl
  |_=>rfl
def TL(Fv:À Ο)(i:Int)(z:Gc):AS ϱd (Ä i) z=þ (Ó (ϸE<|Ð i) z):=by
 change(Ë (isT (϶P ϵi)=true) R.bad<|R.ok (Đ<|(qH (϶P ϵi)<|Ð i).getD z))=_;rw[Ci,ϳE,uK]
def SA{i:Int}(h:ϤH=ϴ2)(e1:x.er=ϱd)(H:Ϫm=϶A)(g:y.er=Ä i)(f:fc ρ=Ħ z):ϯ4 ρ=þ (Ó (ϸE<|Ð i) z.er):=by
 rw[To,h,H,f];change(ϪF (Ë (ϴ isT Fv) R.bad (ϗf ϶A (Ħ z))) Î)=_;rw[e1];change(Ë (isT (϶P ϵi)=true) R.bad<|ϔN ϱd)=_;rw[Ci,ϳE,g,TL]
def Bj:ϩ (ϰj<|y=Β/\Q (.bl<|Õ<|x=Β) H) FW:=by
 ext x y dx dy F H f Q s R Y p;cases Y with
 |non=>show(rfl,?_);cases R<;>show Ϻ0 Ϧq
 |_=>show ú
end
end L3
namespace L3
open PySem L2 PySem.Spec PyProof.Rows
def GF:ϰd|.bool x,.bool y=>þ<|ã<|! Õ (x=y)|_,_=>Î
section
variable{X:Cx}{M:Mx}
def Pw:ϵ7 IsNot (ϰj<|∃i j,x=.bl i/\y=.bl j/\Q (.bl<|! Õ (i=j)) H):=by ext p s a H x y v u Q I R Y h;let(i,j,rfl,rfl,q):=h;cases R;cases Y;show K9J (η<|by cases i<;>cases j<;>rfl)
def Qr(_:Υ):ϩ (ϰj<|∃i j,x=.bl i/\y=.bl j/\Q (.bl<|! Õ (i=j)) H) GF:=by
 ext x y dx dy F H f Q s R Y p;cases R with
 |bl _=>cases Y with|bl _=>show(_,_,rfl,rfl,Ϻ0 Ϧq)|_=>show ú
 |_=>show ú
def NC(x y:Bool):GF (ã x) (ã y)=þ (ã<|! Õ (x=y)):=rfl
end
end L3
namespace B
def IsE(n:Nat)(d:Nat->å)(e:å):Prop:=e 0=0/\∀k,0<k->k<n->(∀j,j<k->e j+d j k<=e k)/\∃j,j<k/\e k=e j+d j k
def IsL(n:Nat)(d:Nat->å)(T:Int)(l:å):Prop:=l (n-1)=T/\∀k,ϕJ (l k) (l j)
def C_{n:Nat}{d:Nat->å}{e f:å}(he:ϥD)(h:IsE n d f):∀k,k<n->e k=f k:=by
 ext k
 induction k using Nat.strongRecOn with
 |ind k ih=>
  ext H;cases b:k=0
  .subst b
   rw[he.1,h.1]
  let(A,j,b1,c1):=ϩ1 Á H;let(a,J,B,L):=h.2 k Á H;let:=ih j b1 Á;let:=ih J B Á;let:=A J B;let:=a j b1;lia
def Vj{n:Nat}{d:Nat->å}{T:Int}{e l:å}(he:ϥD)(a:ϥE l)(t:T=ϸs):∀m k,k+m+1=n->e k<=l k:=by
 ext m
 induction m using Nat.strongRecOn with
 |ind m ih=>
  ext k H;cases h:m=0
  .subst h
   let:k=n-1:=Á
   rw[this,a.1,t];lia
  let(A,j,b1,B,c1):=a.2 k Á;let:=ih Ϸl Á j Á;let:=(he.2 j Á B).1 k b1;lia
def za{n:Nat}{d:Nat->å}{T:Int}{e l:å}(N:0<n)(he:ϥD)(a:ϥE l)(t:T=ϸs):l 0=0:=by
 let le:=Vj he a t;let key:∀k,k<n->l k=e k->l 0=e 0:=by
  ext k
  induction k using Nat.strongRecOn with
  |ind k ih=>
   ext H h;cases b:k=0
   .subst b
    show h
   let(A,j,b1,c1):=ϩ1 Á H;let c:=(a.2 j Á).1 k b1 H;let f:=le Ϸl j Á;show ih j b1 Á Á
 let:=key (n-1) Á (by rw[a.1,t]);rw[this,he.1]
def U8{n:Nat}{d:Nat->å}{T:Int}{l:å}(a:ϥE l):IsE n (λi j=>d Ϸl<|n-1-i) (λk=>T-l ϳx):=by
 show(?_,λk h K=>?_)
 .change T-l (n-1-0)=0
  rw[Zfm,a.1];lia
 let(A,J,b1,B,c1):=a.2 ϳx Á;show(λj H=>?_,n-1-J,Á,?_)
 .let:=A Ϸl Á Á
  change T-l Ϸl+d ϳx Ϸl<=T-l ϳx;lia
 change T-l ϳx=T-l ϧ0+d ϳx ϧ0;rw[ê (ϧ0=J)];lia
def ZY{n:Nat}{d:Nat->å}{e:å}(N:0<n)(he:ϥD):IsL n (λi j=>d Ϸl<|n-1-i) ϸs (λk=>ϸs-e ϳx):=by
 show(?_,λk K=>?_)
 .change ϸs-e (n-1-(n-1))=ϸs
  rw[ê (n-1-(n-1)=0),he.1];lia
 let(A,J,b1,c1):=he.2 ϳx Á Á;show(λj h H=>?_,n-1-J,Á,Á,?_)
 .let:=A Ϸl Á
  change ϸs-e ϳx<=ϸs-e Ϸl-d Ϸl ϳx;lia
 change ϸs-e ϳx=ϸs-e ϧ0-d ϧ0 ϳx;rw[ê (ϧ0=J)];lia
def Lf{n:Nat}{d:Nat->å}{T:Int}{l f:å}(a:ϥE l)(h:ϥE f)(k:Nat)(H:k<n):l k=f k:=by
 let:=C_ (U8 a) (U8 h) ϳx Á;let this:T-l (n-1-ϳx)=T-f (n-1-ϳx):=this;rw[ê (n-1-ϳx=k)]at this;lia
def Px{n:Nat}{d d':Nat->å}{e:å}(h:ϯ2 (d i j=d' i j))(he:ϥD):IsE n d' e:=
 ⟨he.1,λk a H=>⟨λj J=>Ϙ (h j k J H) ((ϩ1 a H).1 j J),by let(j,b,c):=(ϩ1 a H).2;show(j,b,by rw[<-h j k b H];show c)⟩⟩
def Ov{n:Nat}{d d':Nat->å}{T:Int}{e:å}(h:ϯ2 (d i j=d' i j))(he:ϥE e):IsL n d' T e:=
 ⟨he.1,λk K=>⟨λj H a=>Ϙ (h k j H a) ((ϩ1 K).1 j H a),by let(j,H,a,f):=(ϩ1 K).2;show(j,H,a,by rw[<-h k j H a];show f)⟩⟩
inductive F where
 |nil
 |cons (k:Nat) (c r:F)
namespace F
def pre:F->Ò|nil=>[]|cons k c r=>Ϛh
def pre'':pre nil=[]:=rfl
def pre'{k c r}:pre (ϰg r)=Ϛh:=rfl
def roots:F->Ò|nil=>[]|cons k _ r=>ϓJ
def roots'{k w0 r}:roots (ϩf w0 r)=ϓJ:=rfl
def fM:F->Ò|nil=>[]|cons k c r=>ϑx
def fM'':fM nil=[]:=rfl
def fM'{k c r}:fM (ϰg r)=ϑx:=rfl
def app:F->F->F|nil,g=>g|cons k c r,g=>ϰg<|app r g
def mir:F->F|nil=>nil|cons k c r=>Ϗz
def mir'':mir nil=nil:=rfl
def mir'{k c r}:mir (ϰg r)=Ϗz:=rfl
def map(h:ņ):F->F|nil=>nil|cons k c r=>cons (h k) (ϴd c)<|ϴd r
def Con(ch:Nat->Ò):F->Prop|nil=>True|cons k c r=>ch k=roots c/\ϴ3 c/\ϴ3 r
def Con''{ch}:ϴ3 nil=True:=rfl
def Con'{ch k c r}:ϴ3 (ϰg r)=(ch k=roots c/\ϴ3 c/\ϴ3 r):=rfl
def Eld(e:å):Int->F->Prop|_,nil=>True|p,cons k c r=>e k=p/\Ϫp ë c/\ϰ9 r
def Eld''{e w0}:Ϫp w0 nil=True:=rfl
def Eld'{e p k c r}:ϰ9 (ϰg r)=(e k=p/\Ϫp ë c/\ϰ9 r):=rfl
def pre_app:ϤG (pre (϶r g)=϶H++pre g):=by
 induction _ with|nil=>ext g;show rfl|cons k c r Sc Re=>ext g;rw[app,pre',pre',Re g,K92,K9M]
def Ee:ϤG (fM (϶r g)=fM g++fM f):=by
 induction _ with|nil=>ext g;rw[app,fM'',K9d]|cons k c r Sc Re=>ext g;rw[app,fM',fM',Re g,K9M]
def vW:ϤG (roots (϶r g)=ϭf++roots g):=by
 induction _ with|nil=>ext g;show rfl|cons k c r Sc Re=>ext g;rw[app,roots',roots',Re g,K92]
def OF:ϲy (϶r nil=f):=by
 induction _ with|nil=>show rfl|cons k c r Sc Re=>rw[app,Re]
def Ip:∀f g h:F,app (϶r g) h=϶r (app g h):=by
 induction _ with|nil=>ext g h;show rfl|cons k c r Sc Re=>ext g h;rw[app,app,app,Re g h]
def PL:ϤG (mir (϶r g)=app (mir g) Ϲ0):=by
 induction _ with|nil=>ext g;rw[app,mir'',OF]|cons k c r Sc Re=>ext g;rw[app,mir',mir',Re g,Ip]
def HP:ϲy (mir Ϲ0=f):=by
 induction _ with|nil=>show rfl|cons k c r Sc Re=>rw[mir',PL,mir',mir'',Sc,Re];rfl
def uJ:ϲy (pre Ϲ0=fM f):=by
 induction _ with|nil=>show rfl|cons k c r Sc Re=>rw[mir',pre_app,Re,fM',pre',Sc,pre'',K9d]
def J9(f:F):fM Ϲ0=϶H:=by rw[<-uJ Ϲ0,HP]
def xF{ch:Nat->Ò}:ϤG (ϴ3 (϶r g)↔ϴ3 f/\ϴ3 g):=by
 induction _ with|nil=>ext g;rw[app,Con''];simp|cons k c r Sc Re=>ext g;rw[app,Con',Con',Re g];simp only[and_assoc]
def BZ{e:å}{p:Int}:ϤG (ϰ9 (϶r g)↔ϰ9 f/\ϰ9 g):=by
 induction _ with|nil=>ext g;rw[app,Eld''];simp|cons k c r Sc Re=>ext g;rw[app,Eld',Eld',Re g];simp only[and_assoc]
def Qz{e:å}:ϻx (ϰ9 f) (ϰ9 Ϲ0):=by
 ext x y
 revert x
 induction y with|nil=>ext _ _;show trivial|cons k c r Sc Re=>ext p h;let(H,a,b):=h;rw[mir',BZ];show(Re p b,H,Sc _ a,trivial)
def vq(h:ņ):ϲy (pre (ϴd f)=Ê ϶H h):=by
 induction _ with|nil=>show rfl|cons k c r Sc Re=>rw[map,pre',Sc,Re,pre',K9w,K9i]
def M6(h:ņ):ϲy (fM (ϴd f)=Ê (fM f) h):=by
 induction _ with|nil=>show rfl|cons k c r Sc Re=>rw[map,fM',Sc,Re,fM',K9i,K9w]
theorem snoc:ϲy (f≠nil->∃g k c,f=app g (ϰg nil))
 |nil,h=>Ϡ h
 |cons k c nil,_=>⟨nil,k,c,rfl⟩
 |cons k c (cons k' c' r'),_=>by
  let(g,a,b,e):=snoc ϷS ϳU;show(ϰg g,a,b,by rw[app,e])
def vc{e:å}{q:Int}:ϻx (ϰ9 f) (q≠p->(∀j∈϶H,Ĵ≠q)->Α ϶H (λj=>Õ<|e j=q)=[]):=by
 ext x y
 revert x
 induction y with
 |nil=>ext _ _ _ _;show rfl
 |cons k c r Sc Re=>
  ext p h P H;let(a,b,d):=h;rw[pre',K8O,P3 (by rw[K9k,a];exactλz=>P z.Ï),K8o,Sc _ b (λz=>H k (Ô pre' K9z) z.Ï) (λj J=>H j<|ϧS pre'),Re p d P λj J=>H j<|ϧS pre'];rfl
def J6{e:å}:ϻx (ϰ9 f) ((∀j∈϶H,Ĵ≠p)->Α ϶H (λj=>Õ<|e j=p)=ϭf):=by
 ext x y
 revert x
 induction y with
 |nil=>ext _ _ _;show rfl
 |cons k c r Sc Re=>
  ext p h q;let(H,a,b):=h;rw[pre',K8O,Os (by rw[K9k,H]),K8o,vc _ c a (λz=>q k (Ô pre' K9z) z.Ï) (λj J=>q j<|ϧS pre'),Re p b (λj J=>q j<|ϧS pre'),roots];rfl
def AX{ch C:Nat->Ò}:ϲy ((∀q∈϶H,ch q=C q)->Con C f->ϴ3 f):=by
 induction _ with|nil=>ext _ _;show trivial|cons k c r Sc Re=>ext h d;let(H,a,b):=d;show(ĉ (h k<|Ô pre' K9z) H,Sc (λq m=>h q<|ϷZ pre') a,Re (λq m=>h q<|ϷZ pre') b)
def Qh{e:å}:ϻx (ϰ9 f) ((϶H).Nodup->(∀j∈϶H,Ĵ≠p)->Con (λq=>Α ϶H λj=>Õ<|e j=Ì q) f):=by
 ext x y
 revert x
 induction y with
 |nil=>ext _ _ _ _;show trivial
 |cons k c r Sc Re=>
  ext p h nd P;let(d,a,b):=h;rw[pre',K8k,K9T]at nd;let(n,N,g,i):=nd;let H:ë≠p:=P k (Ô pre' K9z)
  let K:∀j∈pre c,Ĵ≠ë:=λj m z=>n (by
   let:j=k:=Á
   rw[<-this];simp[m])
  let R:∀j∈pre r,Ĵ≠ë:=λj m z=>n (by
   let:j=k:=Á
   rw[<-this];simp[m])
  let C:∀j∈pre c,Ĵ≠p:=λj m=>P j (ϷZ pre');let pr:∀j∈pre r,Ĵ≠p:=λj m=>P j (ϷZ pre');let split:∀q:Nat,Ì q≠p->Α (pre<|ϰg r) (λj=>Õ<|e j=Ì q)=Α (pre c) (λj=>Õ<|e j=Ì q)++Α (pre r) (λj=>Õ<|e j=Ì q):=λq Q=>by rw[pre',K8O,P3 (by rw[K9k,d];exactλz=>Q z.Ï),K8o]
  show(?_,AX c (λq m=>?_)<|Sc _ a N K,AX r (λq m=>?_)<|Re p b g pr)
  .change Α (pre<|ϰg r) (λj=>Õ<|e j=ë)=roots c
   rw[split k H,J6 _ c a K,vc p r b H R,K9d]
  .change Α (pre<|ϰg r) (λj=>Õ<|e j=Ì q)=Α (pre c) (λj=>Õ<|e j=Ì q)
   rw[split q<|C q m,vc p r b (C q m) (λj M z=>i q m j M Á),K9d]
  change Α (pre<|ϰg r) (λj=>Õ<|e j=Ì q)=Α (pre r) (λj=>Õ<|e j=Ì q);rw[split q<|pr q m,vc _ c a (λz=>R q m z) (λj M z=>i j M q m Á),K9B]
end F
namespace F
def oh:ϲy ((fM f).Perm ϶H):=by
 induction _ with|nil=>show List.Perm.refl _|cons k c r Sc Re=>rw[fM',pre'];let h:=Sc;let H:=Re;let:(ϑx).Perm (k::(fM r++fM c)):=List.perm_middle;show this.Å<|List.Perm.cons k ?_;show ĉ (H.đ h) List.perm_append_comm
structure Pf(n:Nat)(e:å)(c:F):Prop where
 pre:0::pre c=ϲl
 root:e 0=-1
 eld:Ϫp 0 c
variable{n:Nat}{e:å}{c:F}
def full(c:F):F:=cons 0 c nil
def Pf.pos(h:ϲk):0<n:=by
 let:=Ż h.pre;rw[K9p,Z7]at this;lia
def Pf.preF(h:ϲk):ϝ ϻ2=ϲl:=by erw[full];rw[F.pre',F.pre'',K9d];show h.pre
def Pf.eldF(h:ϲk):Ϫp (-1) ϻ2:=⟨h.root,h.eld,trivial⟩
def Pf.con(h:ϲk):Con (λq=>Α ϲl λj=>Õ<|e j=Ì q) ϻ2:=ϱC (Qh (-1) ϻ2 h.eldF (Ô h.ğ K8C) (λj _=>Á)) h.ğ
def R(c:F):Ò:=fM ϻ2
def VX(c:F):R c=0::fM c:=by erw[R,full];rw[fM',fM'',K9B]
def Pf.perm(h:ϲk):(R c).Perm ϲl:=ϱC (oh ϻ2) h.ğ
def Pf.nodup(h:ϲk):(R c).Nodup:=h.perm.nodup_iff.ó K8C
def Pf.mem(h:ϲk){k:Nat}:k∈R c↔k<n:=Ĥ h.perm.mem_iff K9G
def Pf.len(h:ϲk):Ã (R c)=n:=Ĥ h.perm.length_eq Z7
def g(c:F)(k:Nat):Nat:=(R c).idxOf k
def Pf.g_lt(h:ϲk){k:Nat}(H:k<n):Ϧo<n:=by erw[g];rw[<-h.len];show Zdv<|h.mem.ó H
def Pf.at_g(h:ϲk){k:Nat}(H:k<n):(R c)[Ϧo]?=Ş:=χ g (Nu<|Zdv<|h.mem.ó H) Zcf
def Pf.g_at(h:ϲk){i k:Nat}(K:á (R c)=Ş):Ϧo=i:=by erw[g];let(H,a):=ZB.mp K;rw[<-a];show h.nodup.ĕ i H
def BH(c:F):g c 0=0:=χ g VX List.idxOf_cons_self
def e1(e:å)(c:F)(i:Nat):Int:=match á (R c) with
 |some k=>Ë (e k<0) (-1) (g c (ĩ (e k)):Int)
 |none=>-1
def gi(c:F)(p:Int):Int:=Ë (p<0) (-1) (g c p.Ò:Int)
def Pf.e1_g(h:ϲk){k:Nat}(H:k<n):ϩb Ϧo=gi c (e k):=by erw[e1,gi];rw[h.at_g H]
def Oa{e e':å}{h:ņ}{hi:ϴy Int}(g:∀k:Nat,hi ë=Ì (h k)):ϻx (∀k∈ν,e' (h k)=hi (e k)) (ϰ9 f->Eld e' Ϥo (ϴd f)):=by
 ext x y
 revert x
 induction y with
 |nil=>ext _ _ _;show trivial
 |cons k c r Sc Re=>
  ext p H he;let(a,b,d):=he;show(?_,?_,Re p (λj m=>H j<|ϷZ F.pre') d)
  .rw[H k (Ô F.pre' K9z),a]
  let:=Sc ë (λj m=>H j<|ϷZ F.pre') b;rw[g]at this;show this
def c1(c:F):F:=ϑo<|mir c
def xX(c:F):full Ϧv=ϑo (mir ϻ2):=by erw[full,c1];rw[mir',mir'',app,map,map,BH]
def Pf.range_g(h:ϲk):Ê (R c) (g c)=ϲl:=by
 apply K9K;ext i;rw[N2];cases hi:i<n
 .obtain⟨k,H⟩:∃k,á (R c)=Ş:=⟨(R c)[i]'(Ϸ0 h.í),Û⟩
  rw[H,Zbe,h.g_at H,ϴj]
 rw[K9c (Ă h.í),K9c<|Ă Z7];rfl
def Pf.mirrored(h:ϲk):Pf n ϩb Ϧv:=by
 let p:ϝ (full Ϧv)=ϲl:=ϩK xX vq uJ h.range_g
 show(?_,?_,?_)
 .unfold full at p
  rw[F.pre',F.pre'',K9d]at p;show p
 .let:=h.e1_g h.ú
  rw[BH,h.root]at this;show this
 let he:Eld ϩb (gi c 0) (ϑo<|mir c):=Oa (e:=e) (h:=g c) (λk=>Ϗ gi (P3 Á)) 0 (mir c) (ϲ1<|by show h.e1_g ?_;rw[uJ,(oh c).mem_iff]at H;let:k∈(0::Φ):=ě H;rw[h.pre,K9G]at this;show this)<|Qz 0 c h.eld;let z:gi c 0=0:=by
  erw[gi];rw[P3 Á];change ä (g c 0)=0;rw[BH];rfl
 rw[z]at he;show he
def Pf.R1(h:ϲk):R Ϧv=Ê ϲl (g c):=by erw[R];rw[xX,M6,J9,h.preF]
def Pf.R1_at(h:ϲk){k:Nat}(H:k<n):(R Ϧv)[k]?=Â Ϧo:=by rw[h.R1,N2,K9Z H];rfl
theorem xO{e:å}:ϻx (ϰ9 f) (∀k∈ν,e k=p\/∃j:Nat,j∈ν/\e k=Ĵ)
 |_,nil,_,_,m=>ϫ4
 |p,cons a c r,h,k,m=>by
  let(H,d,g):=h;rw[F.pre']at m;rcases K8v.mp m with rfl|m
  .show Ð H
  .rcases K9Y.mp m with m|m
   .rcases xO _ c d k m with z|⟨j,J,b⟩
    .show Ø ⟨a,Ô F.pre' K9z,z⟩
    .show Ø ⟨j,ϧS F.pre',b⟩
   .rcases xO p r g k m with z|⟨j,J,b⟩
    .show Ð z
    .show Ø ⟨j,ϧS F.pre',b⟩
def Pf.elder(h:ϲk){k:Nat}(H:k<n):e k=-1\/∃j:Nat,j<n/\e k=Ĵ:=by
 let:=xO (-1) ϻ2 h.eldF k (by rw[h.preF,K9G];show H);rcases this with z|⟨j,J,a⟩
 .show Ð z
 rw[h.preF,K9G]at J;show Ø ⟨j,J,a⟩
def Pf.twice(h:ϲk){k:Nat}(H:k<n):e1 ϩb Ϧv k=e k:=by
 let a:=h.mirrored;erw[e1];rw[h.R1_at H];change(Ë (ϩb Ϧo<0) (-1:Int)<|(ä (g Ϧv (ϩb Ϧo).toNat)))=e k;rw[h.e1_g H];rcases h.elder H with z|⟨j,b,J⟩
 .rw[z]
  rfl
 let:gi c (e k)=Ì (g c j):=by
  erw[gi];rw[J,P3 Á];rfl
 rw[this,P3 Á,K9n,a.g_at<|h.R1_at b,J]
end F
namespace F
def path:F->Ò|nil=>[]|cons k c nil=>k::path c|cons _ _ (cons k c r)=>path<|ϰg r
def path''':path nil=[]:=rfl
def path'{k c}:path (ϰg nil)=(k::path c):=rfl
def path''{w0 w1 k c r}:path (cons w0 w1 (ϰg r))=(path<|ϰg r):=rfl
def pT:F->Nat->Nat->F|f,0,x=>϶r<|cons x nil nil|nil,_+1,_=>nil|cons k c nil,d+1,x=>ϩf (pT c d x) nil|cons k c (cons k' c' r'),d+1,x=>ϰg<|Ϭk ϷS
def pT''{k c d x}:Ϭk (ϰg nil)=(ϩf (pT c d x) nil):=rfl
def pT'{k c k' c' r' d x}:Ϭk (ϰg ϷS)=(ϰg<|Ϭk ϷS):=rfl
def A_:∀(f:F)(x:Nat),path (϶r<|cons x nil nil)=[x]|nil,x=>rfl|cons k c nil,x=>rfl|cons k c (cons k' c' r'),x=>by let:=A_ ϷS x;rw[app]at this⊢;rw[app];rw[path''];show this
def wg{e e':å}:ϻx (∀k∈ν,e' k=e k) (ϰ9 f->Eld e' p f):=by
 ext x y
 revert x
 induction y with|nil=>ext _ _ _;show trivial|cons k c r Sc Re=>ext p h C;let(H,a,b):=C;show(ĉ (h k<|Ô F.pre' K9z) H,Sc _ (λq m=>h q<|ϷZ F.pre') a,Re p (λq m=>h q<|ϷZ F.pre') b)
def Ll{k d x:Nat}{c r:F}:∃K G R,Ϭk (ϰg r)=cons K G R:=by
 cases r with
 |nil=>show(_,_,_,ϰT pT'')
 |cons a b t=>show(_,_,_,ϰT pT')
theorem yG{e:å}{x:Nat}:∀(f:F)(d:Nat)(p:Int),d<=Ã (path f)->ϰ9 f->e x=(if d=0 then p else((path f)[d-1]?.getD 0:Int))->
  ϝ ϓt=ν++[x]/\path ϓt=ł (path f) d++[x]/\ϰ9 ϓt
 |f,0,p,_,h,hx=>by rw[pT,pre_app,A_,BZ];show(rfl,rfl,h,ť hx,trivial,trivial)
 |nil,d+1,p,hd,_,_=>by rw[path''']at hd;simp at hd
 |cons k c nil,d+1,p,hd,h,hx=>by
  let(H,g,j):=h;rw[path',K9p]at hd;let i:=yG (e:=e) (x:=x) c d ë Á g (by
   rw[hx,P3 Á,path'];cases D:d=0
   .subst D
    rfl
   .obtain⟨m,rfl⟩:∃m,d=m+1:=⟨d-1,Á⟩
    rw[P3 Á]
    rfl)
  rw[pT'',F.pre',F.pre',i.1,F.pre''];show(Ϯ F.pre,?_,H,i.2.2,trivial);rw[path',path',i.2.1,K7q,K92]
 |cons k c (cons k' c' r'),d+1,p,hd,h,hx=>by
  let(H,g,j):=h;let P:path (ϰg ϷS)=path ϷS:=ϰT path''
  rw[P]at hd hx;let i:=yG (e:=e) (x:=x) ϷS (d+1) p hd j hx;let(a,b,t,q):=Ll (k:=k') (d:=d) (x:=x) (c:=c') (r:=r');rw[pT',F.pre',i.1,P];show(?_,?_,H,g,i.2.2)
  .change k::(Φ++(ϝ ϷS++[x]))=(k::(Φ++ϝ ϷS))++[x]
   rw[K92,K9M]
  rw[q]at i⊢;rw[path''];show i.2.1
def jX:F->F|nil=>nil|cons _ nil nil=>nil|cons k (cons a b t) nil=>ϩf (jX ϶c) nil|cons k c (cons a b t)=>ϰg<|jX ϶c
def jX'{k a b t}:jX (ϩf ϶c nil)=(ϩf (jX ϶c) nil):=rfl
theorem uh{e:å}:∀(f:F)(p:Int),f≠nil->ϰ9 f->ϝ (jX f)=(ν).dropLast/\ϰ9 (jX f)
 |nil,_,h,_=>Ϡ h
 |cons k nil nil,p,_,_=>⟨rfl,trivial⟩
 |cons k (cons a b t) nil,p,_,h=>by
  let(H,d,g):=h;let(i,I):=uh (e:=e) ϶c ë ϳU d;rw[jX'];show(?_,H,I,trivial);change k::(ϝ (jX ϶c)++[])=(k::(ϝ ϶c++[])).dropLast;rw[i,K9d,K9d,Zcr<|ϳk F.pre]
 |cons k c (cons a b t),p,_,h=>by
  let(H,d,g):=h;let(i,I):=uh (e:=e) ϶c p ϳU g;let e1:jX (ϰg ϶c)=ϰg (jX ϶c):=by cases c<;>rw[jX]
  rw[e1];show(?_,H,d,I);rw[F.pre',i];change _=(k::(Φ++ϝ ϶c)).dropLast;let n:Φ++ϝ ϶c≠[]:=ϳk F.pre'
  rw[Zcr n,List.dropLast_append_of_ne_nil<|ϳk F.pre]
def EE{e e':å}{h:ņ}{hi:ϴy Int}:ϻx (∀k∈ν,e' (h k)=hi (e k)/\hi ë=Ì (h k)) (ϰ9 f->Eld e' Ϥo (ϴd f)):=by
 ext x y
 revert x
 induction y with
 |nil=>ext _ _ _;show trivial
 |cons k c r Sc Re=>
  ext p H he;let(a,b,d):=he;let K:=H k (Ô F.pre' K9z);show(?_,?_,Re p (λj m=>H j<|ϷZ F.pre') d)
  .rw[K.1,a]
  let:=Sc ë (λj m=>H j<|ϷZ F.pre') b;rw[K.2]at this;show this
theorem Bs{e:å}:∀(f:F)(p:Int),ϰ9 f->(∀k∈ν,p<=ë)->∀k∈ν,p<=e k
 |nil,_,_,_,_,m=>ϫ4
 |cons a c r,p,h,hp,k,m=>by
  let(H,b,d):=h;rcases xO p (cons a c r) ⟨H,b,d⟩ k m with z|⟨j,J,g⟩
  .lia
  .rw[g]
   show hp j J
end F
end B
namespace B
open PySem L2 L3
def o4:Fs:=(ao (ϷK (ñ gLt 1<|ħ<|È 0 ai) (bF<|Ù 0 Ŋ) sNx)
 (ao (Ų<|ŗ (ϰz (Ç 7919) Ŋ)<|Ç 5)
 (ao (ϷK (ϵB (ħ<|È 0 ai)<|Ç 0) (Ų<|ϱN (ŗ (ϰz (Ù 0<|ñ ip 1<|ħ<|È 0 ai)<|Ç 48271)<|ñ cX 1<|Ç 7919)<|Ç 2147483647) sNx)
 (bF<|ϱN (ñ cX 2 ό)<|Ç 2147483629))))
def bP:Fn:=ε 3 o4
def m5:Fs:=(bF<|Ao (EV "int" Ľ)<|Ap<|EV "bool" Ľ)
def e6:Fn:=ϲ5 1 m5
def m9:Fs:=(ao (Ų<|eC<|Ė "abcdefghijklmnopqrstuvwxyz")
 (ao (Ε<|eC<|Ė "")
 (ao (ϧO (ŗ (Ç 1)<|ñ ip 0 Ŋ) 4<|Ε<|ñ a_ 3<|Ù 2<|ϱN (ñ kq 0<|ŗ (Ç 9)<|ϰz (ϰz (Ç 4) ş) ş)<|Ç 26)
 (bF Š))))
def e_:Fn:=ε 5 m9
def pD:Fs:=(ao (ϱn ϊ)
 (ao (ϱ4<|Rs ϊ)
 (ao (bZ (iR1 ό) (K2 7) (ao (ϬF<|ϱN (ϰz (Ϩn<|È 0<|ĝ (ñ a_ 1 ϦL))<|Ç 69621)<|Ç 2147483629)
 (ao (sIf (aD<|ñ gGt 7<|Ç 0) (ao (Ϭw<|ŗ (Ç 1)<|ñ ip 8<|ħ<|È 6 ai)
 (ao (sIf (aD<|Ϲ1 (ϱN (ñ kq 8<|Ç 16)<|Ç 3)<|Ç 0) (Ϭw<|ħ<|È 6 ai) sNx)
 (ao (ϱ4<|Rs<|ϳb 6 iN<|d8<|ϓo<|È 9<|È 4 ai)
 (jD 5<|Rs<|d_<|ae (Ù 6<|ġ<|Ç 1)<|ae (Rs<|aj e_<|ae (ñ kq 8<|Ç 64)<|È 3 ai)<|ae (ŗ (Ç 1)<|ϱN (ñ kq 8<|Ç 4096)<|Ç 9) ai))))<|jD 5<|Rs<|d_<|ae (ġ<|Ç 1)<|ae (Rs<|aj e_<|ae (ñ kq 8<|Ç 64)<|È 3 ai)<|ae (ŗ (Ç 1)<|ϱN (ñ kq 8<|Ç 4096)<|Ç 9) ai)
 (ϱ4<|Rs<|ñ a_ 6<|bO<|È 7 ai))))
 (dB 5))))
def f_:Fn:=aZ 5 10 pD
def zga:(a::z)[0]?=Ϸu:=rfl
def zsa:Ϫ (a::z) 0 y=ϵX:=rfl
def zgb:(a::b::z)[1]?=ϧ:=rfl
def zsb:Ϫ (a::b::z) 1 y=a::ϵX:=rfl
def zgc:(Ϫk z)[2]?=ī:=rfl
def zsc:Ϫ (Ϫk z) 2 y=a::b::ϵX:=rfl
def zgd:(Ϫk<|d::z)[3]?=ϰN:=rfl
def zsd:Ϫ (Ϫk<|d::z) 3 y=Ϫk ϵX:=rfl
def zge:(Ϲv z)[4]?=Ϲ4:=rfl
def zse:Ϫ (Ϲv z) 4 y=Ϫk (d::ϵX):=rfl
def zgf:(Ϲv<|f::z)[5]?=some f:=rfl
def zsf:Ϫ (Ϲv<|f::z) 5 y=Ϲv ϵX:=rfl
def zgg:(Ϲv<|f::g::z)[6]?=Â g:=rfl
def zsg:Ϫ (Ϲv<|f::g::z) 6 y=Ϲv (f::ϵX):=rfl
def zgh:(ϲB z)[7]?=some h:=rfl
def zsh:Ϫ (ϲB z) 7 y=Ϲv (f::g::ϵX):=rfl
def zgi:(ϲB<|i::z)[8]?=ϸy:=rfl
def zsi:Ϫ (ϲB<|i::z) 8 y=ϲB ϵX:=rfl
def zgj:(ϲB<|i::j::z)[9]?=ϱ7:=rfl
def zsj:Ϫ (ϲB<|i::j::z) 9 y=ϲB (i::ϵX):=rfl
def zgk:(ϲB<|i::j::k::z)[10]?=Ş:=rfl
def zsk:Ϫ (ϲB<|i::j::k::z) 10 y=ϲB (i::j::ϵX):=rfl
def zgl:(ϲB<|Ϭy z)[11]?=ϩ2:=rfl
def zsl:Ϫ (ϲB<|Ϭy z) 11 y=ϲB (i::j::k::ϵX):=rfl
def zgm:(ϲB<|Ϭy (m::z))[12]?=some m:=rfl
def zsm:Ϫ (ϲB<|Ϭy (m::z)) 12 y=ϲB (Ϭy ϵX):=rfl
def mqV(n:String):Lean.Syntax:=mqN "Tactic simpLemma" [mq0 [],mq0 [],Lean.mkIdent n.toName]
def mqM:À Lean.Syntax:=("v_var v_c aad Zg TZ Vh Xv Sx v_and v_or v_not Z_ MA xH XA XE Ss v_b Zc v_bor V6 SH WY YS Y_ Oo PC Zo V4 ET Zp Zm Zv Zb WW Yk X8 YT VR Wm Zk Xm YJ Xa Tn YG Vy XR YE VT Xl XC Xc Xj WJ W_ Xk aag We ZA UG UC Wj W6 PZ O0 Tp VS UA Ua XN YO VI Xp So Yx Wv UM ZZ X2 T1 WK SV Sj XU O1 YC W9 Yo Mc Zs ZT Zz XF UO Vn Yu Yp Yd Xu Yl WC Y2 XT WV YD ZK Zt ZE ZD ZU Z6 Sn Xz Y8 KL SR Se Tr NT SU Wu Th at0 at1 at2 W0 UT Ug V0 aaf ZM Zu ZG bc md M_ flI flS flB flN flL flT List.map_cons List.map_nil List.length_cons List.length_nil zga zgb zgc zgd zge zgf zgg zgh zgi zgj zgk zgl zgm List.getElem?_nil zsa zsb zsc zsd zse zsf zsg zsh zsi zsj zsk zsl zsm List.cons_append List.nil_append List.append_nil List.replicate_succ List.replicate_zero Nat.reduceAdd Nat.reduceSub Nat.reduceLeDiff Nat.reduceLT Nat.reduceEqDiff Nat.zero_add Bool.not_true Bool.not_false if_true if_false Bool.false_eq_true reduceIte decide_true decide_false reduceCtorEq EC FG Int.reduceLT Int.reduceLE Int.reduceNeg Int.reducePow Int.reduceToNat Int.reduceMul Int.reduceAdd Int.reduceSub Nat.reducePow and_true true_and and_self List.length_map Xd v_sub V8 M9 YY L9 Int.cast_ofNat_Int Int.reduceEq Int.reduceNe Yb TF kE".splitOn " ").map mqV
local macro_rules(kind:=Lean.Parser.Tactic.simpAutoUnfold)|s=>if s[3].getNumArgs>0||s[4].getNumArgs==0 then Lean.Macro.throwUnsupported else do
 let t:Lean.Syntax:=(<-`(tactic|simp (maxSteps:=1000000) -implicitDefEqProofs only[x])).raw
 let c:=t[1][0]
 let t:=if s[1][0].getNumArgs>0 then t else t.setArg 1 (t[1].setArg 0 (c.setArgs (c.getArgs.extract 0 1)))
 pure ((t.setArg 4 (t[4].setArg 1 (mq0 ((mqM++s[4][1].getSepArgs.toList).intersperse (mqA ","))))).setArg 5 s[5])
def AE(z:Int):e6 [Ä z]=þ (ã true):=ϒj e6 m5
def sR(ns:À Int)(k:Int)(H:0<=k)(b:k<1000000):∃z,bP [Ï ō,Ä k]=.ok (Ñ z):=by
 erw[bP,o4];cases h:k<Ì ns.À
 .let(x,e1,g):=Fd ō k H ϱZ
  rw[N2]at e1;let(z,_,rfl):=XL.mp e1;show(z,by simp![Z8 h,g])
 cases a:Ì 0<ns.À
 .let M:=dP k a
  let(x,e1,g):=Fd ō (k%Ì ns.À) M.1 (ť M.2);rw[N2]at e1;let(z,_,rfl):=XL.mp e1;let c:=dP (z*48271+k*7919) (ϱl<|Ì 0<2147483647);let L:ϏG Ϯh:=EC Á Á;show(ϕ0 Ϯh,?_);simp![K9q h,Z8 a,a,g,L]
 let L:ϏG όK:=EC Á Á;show(ϕ0 όK,?_);simp![K9q h,K9q a,L]
structure Nd where
 e:Int
 l:Str
 t:Int
def wZ(l:Str):Prop:=1<=l.À/\l.À<=9/\Ϗy
def T4(n:Nd):Prop:=wZ n.l/\Ś 1 n.t 9
def ndD(n:Nd):Gc:=Ą [Ä n.e,Ė n.l,Ä n.t]
def ak(ts:À Nd):À Gc:=ts.Ç ndD
inductive Grown(deep:Nat):À Nd->Ú (À Int)
 |root {n:Nd}:T4 n->n.e=-1->Grown deep [n] [0]
 |step {ns:À Nd} {way:À Int} {c:Nat} {n:Nd}:ϯc->1<=c->ϯV->c<=deep->T4 n->way[c-1]?=Â n.e->Grown deep Ϭi (ϥw++[Ì ns.À])
def Grown.pos{deep:Nat}{ns:À Nd}{way:À Int}(g:ϯc):ϫJ/\0<way.À:=by
 cases g with|root=>simp|step=>simp
def Grown.ok{deep:Nat}{ns:À Nd}{way:À Int}(g:ϯc):∀n∈ns,T4 n:=by
 induction g with
 |root h=>simpa using h
 |@step ns way c n g h1 h2 h3 h4 h5 ih=>
  ext x H;rcases K9Y.mp H with H|H
  .show ih x H
  let:x=n:=Ϻ3
  rw[this];show h4
def QF{k:Int}(a:0<=k)(h:k<26):∃c,Ť ((Ϫh ϸ0)) k=ī/\97<=c/\c<=122:=by
 let e:Ϫh ϸ0=ϥq 97 26:=œ
 rw[e];let(v,e1,g):=Fd (ϥq 97 26) k a ϱZ;show(v,g,?_);let:=List.mem_range'.mp<|K9L e1;lia
def Bm(k:Int)(a:0<=k)(h:k<26):∃c,Ť ((Ϫh ϸ0)) k=ī/\(97<=c/\c<=122):=QF a h
def BO(a b:Str):Ϫh ϦD=a.Đ++b.Đ:=PyProof.Rows.cps_toList_append a b
def HC(a:Str):a.À=a.cps.toList.À:=Ϯ Str.length
def Ed(a:Str)(c:Nat):Ã (a++ϥt:Str)=ϭo 1:=by rw[HC,BO,HC,K9v];rfl
def K5(z m:Int)(g:1<=m)(Q:m<=9):∃l,wZ l/\e_ [Ä z,Ä m]=þ (Ė l):=by
 erw[e_,m9];let M:=dP z (ê<|0<m);let S:Κ (1+z%m):=Ŕ Á;let p:Ì 0<m:=Á
 obtain⟨f,H⟩:∃f:ņ,∀i:Nat,Ť ((Ϫh ϸ0)) (z / (9+ϻn (0+ÿ))%26)=Â (f i)/\(Ś 97 (f i) 122):=
  ⟨λi=>Ϸ3<|Bm _ (ϥl (9+ϻn (0+ÿ))<|ϱl (Ì 0<26)).1 (dP _ Ý).2,λi=>Zab<|Bm _ (ϥl (9+ϻn (0+ÿ))<|ϱl (Ì 0<26)).1 (dP _ Ý).2⟩
 simp![p,S];generalize b:Ŗ=r;show aX b (λi a=>∃(l:Str)(v:Ü OD),a=[some<|Ñ z,Ĕ<|Ä m,Ĕ<|Ė ϸ0,Ĕ<|Ė l,v]/\l.À=i/\Ϗy) ϖK ?_ ?_
 .rintro i d a h ⟨l,v,rfl,hl,C⟩
  let(hi,rfl):=cI h;let I:ÿ<9:=Á
  let B:Ś 0 (ϻn (0+ÿ)) (ϻn 8):=by
   let A:0<=(0+ÿ):=Á
   let n:(0+ÿ)<=8:=Á
   show(Zag Á A,?_);show Zef Á n A Á
  let Y:=(H i).1;let c1:=(H i).2.1;let L:=(H i).2.2;generalize f i=c at Y c1 L;let k:ϤB (4*(0+ÿ)) (0+ÿ):=EC Á Á;let K:ϭZ 9 (ϻn (0+ÿ)):=ϸF ⟨Á,Á⟩;let e:ϳt (Ã ϸ0):=œ
  let E:ϳt (l.À+Ã (ϥt:Str)):=aF (by rw[hl];change i+1<=1000;lia);simp![k,K,e,E,Y,Zbe];show(_,_,rfl,Ĥ Ed hl,ύA);rw[BO,K9Y]at h;rcases h with h|h
  .show C d h
  let:d=c:=ϱZ
  lia
 ext ρ' rfl ⟨l,v,rfl,hl,C⟩;rw[gF]at hl;simp![S5];show(l,(Á,Á,C),rfl)
def qX(X:À Gc)(k:Nat):ϲd X none (Â ë)=X.Ö k:=by
 erw[cutD];rw[HT.CT,HT.uS,List.drop_zero,Zfm];rcases Nat.le_total k X.À with h|h
 .rw[K8q h]
 rw[Nat.min_eq_right h,K90 ì,K90 h]
def AU{way:À Int}(a:1<=k)(b:k<=way.À):∃e,way[k-1]?=Ϲ4/\Ϲ2 (Ê (way.Ö k) int)=Â (Ä e):=by
 let H:k-1<way.À:=Á
 show(way[k-1],ϫ6,?_);let h:way.Ö (k-1+1)=way.Ö (k-1)++[way[k-1]]:=by rw[Zck];simp[H]
 rw[ê (k-1+1=k)]at h;rw[h,K9i];show Ae _ _
def aH(ts:À Nd):İ (Ã è):=ű ak K0
def uk(ts:À Nd)(n:Nd):ak (ts++[n])=è++[Ą [Ä n.e,Ė n.l,Ä n.t]]:=Ϗ ak K9i
def HM(ns:À Int)(T:Int)(many:Nat)(most deep:Int)(s0:0<=T)(S:T<=1000)(N:1<=many)(p:many<=900)(m0:1<=most)(M:most<=9)(D:1<=deep)(o:deep<=1000):
  ∃ts way,Ϗ7/\ts.À=many/\f_ [Ï ō,Ä T,Ä many,Ä most,Ä deep]=.ok (Ę è):=by
 erw[f_,pD];let s:Κ ((Ì many)):=Ŕ Á;simp![s];generalize n:Ŗ=r;apply aX n (λi m=>∃(ts:À Nd)(way:À Int)(v V f:Ü OD),m=[â ō,Ĕ<|Ä T,some<|Ñ many,some<|Ñ most,some<|Ñ deep,some<|Ę è,â<|way.Ç int,v,V,f]/\ts.À=i/\way.À<=i/\(ϙK\/(0<i/\Ϗ7)))
  ⟨[],[],_,_,_,rfl,rfl,ì,Ð ⟨rfl,rfl,rfl⟩⟩ ?_ ?_
 .rintro i d m hd ⟨ts,way,v,V,f,rfl,hti,hwi,hg⟩
  let(hi,rfl):=϶M;rw[K9n]at hi;let(y,Y):=ϧD (T+(0+ÿ)) Á;let(l,j,E):=K5 (ϲ9 / 64) most m0 M;let q:=dP (ϲ9 / 4096) (ϱl<|Ì 0<9);let b:ϱK (Ã è):=Ô aH (c8 Á)
  cases H:Ì 0<0+ÿ
  .let h:Ϗ7:=by
    rcases hg with hg|hg
    .lia
    show hg.2
   let wp:=h.pos.2;let wl:Ì 0<way.À:=Á
   let hr:=dP ϲ9 wl;let fin:∀c:Nat,1<=c->ϯV->ϒF->∀(e:Int),way[c-1]?=Ϲ4->Grown deep.Ò (ts++[⟨e,l,1+ϲ9 / 4096%9⟩]) (ϥw++[Ì ts.À]):=λc c1 L k e he=>Grown.step h c1 L k ⟨j,ϳZ (1<=1+_),ϳZ (1+_<=9)⟩ he;let lw:∀c:Nat,ϳt (Ã ϥw+1):=λc=>aF (Ă K9f);cases g:ϲ9 / 16%3=0
   .obtain⟨c,C⟩:∃c:Nat,(Ë (deep<Ì way.À) deep<|(Ì way.À))=ϥ8:=⟨ĩ (Ë (deep<Ì way.À) deep<|(Ì way.À)),ϧN⟩
    obtain⟨c1,L,k⟩:1<=c/\ϯV/\ϒF:=Ϛi
    let(e,he,a):=AU c1 L;simp![Y,E,wl,Z8 H,Z8 g,C,qX,<-K7n,aI,a,b,lw];let t1:=uk ts ⟨e,l,1+ϲ9 / 4096%9⟩;let t2:Ê è OD.sh++[Đ<|Ą [Ä e,Ė l,Ä<|1+ϲ9 / 4096%9]]=ß ak (ts++[⟨e,l,1+ϲ9 / 4096%9⟩]) OD.sh:=ϰ7 t1 K9i
    let w:Ê ϥw int++[int<|0+ÿ]=Ê (ϥw++[Ì ts.À]) int:=Ϙ7
    rw[t2,w];show(_,_,_,_,_,rfl,ϰ7 K9v hti,ϳr K9v K9f K9e,Ø ϗp)
   obtain⟨c,C⟩:∃c:Nat,(Ë (deep<1+ϲ9%Ì way.À) deep<|1+ϲ9%Ì way.À)=ϥ8:=⟨ĩ (Ë (deep<1+ϲ9%Ì way.À) deep<|1+ϲ9%Ì way.À),ϧN⟩
   obtain⟨c1,L,k⟩:1<=c/\ϯV/\ϒF:=Ϛi
   let(e,he,a):=AU c1 L;simp![Y,E,wl,Z8 H,K9q g,C,qX,<-K7n,aI,a,b,lw];let t1:=uk ts ⟨e,l,1+ϲ9 / 4096%9⟩;let t2:Ê è OD.sh++[Đ<|Ą [Ä e,Ė l,Ä<|1+ϲ9 / 4096%9]]=ß ak (ts++[⟨e,l,1+ϲ9 / 4096%9⟩]) OD.sh:=ϰ7 t1 K9i
   let w:Ê ϥw int++[int<|0+ÿ]=Ê (ϥw++[Ì ts.À]) int:=Ϙ7
   rw[t2,w];show(_,_,_,_,_,rfl,ϰ7 K9v hti,ϳr K9v K9f K9e,Ø ϗp)
  obtain⟨I,rfl,rfl⟩:ϙK:=by
   rcases hg with hg|hg
   .show hg
   lia
  simp![Y,E,K9q H,aI,b];subst I;show([⟨-1,l,1+ϲ9 / 4096%9⟩],[0],_,_,_,rfl,rfl,Ý,Ø ⟨Zdf _,Grown.root ⟨j,ϳZ (1<=1+_),ϳZ (1+_<=9)⟩ rfl⟩)
 ext ρ' rfl ⟨ts,way,v,V,f,rfl,hti,hwi,hg⟩;rw[gF,K9n]at hti hg;rcases hg with hg|hg
 .lia
 simp![S5];show(ts,way,hg.2,hti,rfl)
def fZ{ts:À Nd}{k:Nat}{n:Nd}(h:ϸJ=ϵL):Ť è ë=Â (Ą [Ä n.e,Ė n.l,Ä n.t]):=de (ϧh ak)
instance:Inhabited Nd:=⟨⟨0,"",0⟩⟩
def Z4(ts:À Nd)(k:Nat):Int:=Ó (ts[k]?.map (·.e)) 0
def PT(ts:À Nd)(c:F):Prop:=F.Pf ts.À Ĩ c
def bL{ts:À Nd}{k:Nat}{n:Nd}(h:ϸJ=ϵL):Ĩ k=n.e:=by erw[Z4];rw[h];rfl
def Et{deep:Nat}{ns:À Nd}{way:À Int}(g:ϯc):∃c,PT ns c/\way=Ê (0::F.path c) (ϰU ë):=by
 induction g with
 |@root n h1 h2=>show(F.nil,(rfl,Ô (bL (n:=n) rfl) h2,trivial),rfl)
 |@step ns way k n g h1 h2 h3 h4 h5 ih=>
  let(c,p,w):=ih;subst w;rw[K0,K9p]at h2;let same:Θ ns.À (Z4 Ϭi j=Z4 ns j):=λj J=>ű Z4 (K9V J)
  let new:Z4 Ϭi ns.À=n.e:=bL Û;let inR:∀j∈Φ,j<ns.À:=λj m=>by let:j∈0::Φ:=ě m;rw[p.pre,K9G]at this;show this
  let he:F.Eld (Z4 Ϭi) 0 c:=ϒO (λj m=>same j<|inR j m)
  let(b,q,l):=F.yG (x:=ns.À) c (k-1) 0 Á he (by
   rw[new];rw[N2]at h5;cases K:k=1
   .subst K
    let:=K9R h5;rw[Ĝ];show this.Ï
   obtain⟨m,rfl⟩:∃m,k=m+2:=⟨k-2,Á⟩
   rw[P3 Á]
   let e:(0::F.path c)[m+2-1]?=(F.path c)[m+2-1-1]?:=rfl;rw[e]at h5;let(v,H,h):=XL.mp h5;rw[H,<-h];rfl)
  show(F.pT c (k-1) ns.À,(?_,?_,l),?_)
  .rw[b,<-K92,p.pre,K9v,K9p,K8U,K8A]
  .rw[same 0 p.ú]
   show p.root
  rw[q];obtain⟨m,rfl⟩:ϔw:=⟨k-1,Á⟩
  rw[K9w,K9w,K7q,K9i,K8J,K7n];rfl
def cw(ts:À Nd)(k:Nat):Nd:=ts[k]?.getD default
def aR(ts:À Nd)(c:F):À Nd:=Ê Λ λk=>ϦX
def ue{ts:À Nd}{k:Nat}(h:Ć):(ϯ).e=Ĩ k:=by erw[cw,Z4];rw[ϱi];rfl
section
variable{ts:À Nd}{c:F}
def cP(p:ç):İ (Ã ć):=χ aR K0 p.í
def Lr(p:ç){i:Nat}(hi:ϫO):Z4 ć i=F.e1 Ĩ c i:=by
 obtain⟨k,H⟩:∃k,á Λ=Ş:=⟨Λ[i]'(Ϸ0 p.í),Û⟩
 let h:Ć:=p.mem.mp Ϧp;erw[Z4,aR,F.e1];rw[N2,H];change Ϻd (ϯ).e=_;rw[ue h];rfl
def zy{n:Nat}{e e':å}{c:F}(h:∀k,k<n->e' k=e k)(p:F.Pf n e c):F.Pf n e' c:=by
 show(p.pre,Ô (h 0 p.ú) p.root,ϒO (λk m=>h k ?_));let:k∈0::Φ:=ě m;rw[p.pre,K9G]at this;show this
def gc(p:ç):PT ć ϻX:=by erw[PT];rw[ϵY];show zy (϶U<|Lr p h) p.mirrored
def E4(p:ç):aR ć ϻX=ts:=by
 apply K9K;ext k;cases h:k<ts.À
 .let H:=p.R1_at h
  let f:=p.at_g h;let e1:cw ć (Ĺ k)=ϦX:=by erw[cw,aR];rw[N2,f];rfl
  let q:=Lr ϶O (i:=k) (Ϲu ϵY);let tw:=p.twice h;let g:(aR ć ϻX)[k]?=Â ⟨F.gi ϻX<|Ϻd (ϯ).e,(ϯ).l,(ϯ).t⟩:=by
   change ϫ (ß F.R ϻX _)=_;rw[N2,H,Zbe,e1]
  let G:F.gi ϻX (Ϻd (ϯ).e)=Ĩ k:=by
   rw[<-tw];erw[F.e1];rw[H];change _=F.gi ϻX (F.e1 Ĩ c<|Ĺ k);rw[p.e1_g h,ue h]
  rw[g,G,<-ue h];erw[cw];rw[ϱi];rfl
 rw[K9c (Ϲ (cP ϶O) ϵY),K9c Á]
end
def P7{ts s:À Nd}{c:F}(p:ç)(a:İ s.À)(h:∀k,Ć->Z4 s k=Ĩ k):PT s c:=by erw[PT];rw[a];show zy h p
def Tw{ts:À Nd}{c:F}(p:ç)(h:Č 1):∃G,PT ts.Ù G:=by
 let C:c≠F.nil:=by
  ext rfl;let:=Ż p.pre;rw[Z7]at this;simp[F.pre]at this;lia
 let(q,Q):=F.uh (e:=Ĩ) c 0 C p.eld;let hr:Φ≠[]:=by
  cases c with|nil=>show Ϡ C|cons a b t=>rw[F.pre'];simp
 let same:∀k,k<ts.dropLast.À->Z4 ts.Ù k=Ĩ k:=ϲ1 (χ Z4 List.getElem?_dropLast (Os<|by rw[Zcz]at H;show H))
 show(F.jX c,zy same ⟨?_,p.root,Q⟩);rw[q,<-Zcr hr,p.pre,Zcz];obtain⟨m,M⟩:ϚK:=⟨ĵ,Á⟩
 rw[M,K8A];simp
def og(s:Nat)(ts:À Nd):À Nd:=match ts with
 |[]=>[]
 |n::r=>Ϫ9::r.Ç ϪN
def OY{ts s:À Nd}{c d:F}(p:ç)(q:PT s d):PT (ts++Ϲd s) (F.app c (ϳF (·+ts.À) ϨF)):=by
 obtain⟨n,r,rfl⟩:∃n r,s=ϴl:=by
  cases s with
  |nil=>show ĭ q.ú Û
  |cons n r=>show(n,r,rfl)
 let e1:∀k,Ć->Z4 (ts++Ϲd ϴl) k=Ĩ k:=ϲ1 (ű Z4 (K9V H))
 let g:∀k,k<Ã ϴl->Z4 (ts++Ϲd ϴl) (k+ts.À)=Ë (k=0) 0 (Z4 ϴl k+ts.À):=λk H=>by
  erw[Z4];rw[K9a Á,K8J];cases k with
  |zero=>rfl
  |succ k=>
   rw[P3 Á];change Ó ((r.Ç λm=>(⟨m.e+ts.À,m.l,m.t⟩:Nd))[k]?.map (·.e)) 0=Ó (r[k]?.map (·.e)) 0+ts.À;rw[K9p]at H;rw[N2,Nu<|ê (k<r.À)];rfl
 let a:Ã (ts++Ϲd ϴl)=ts.À+Ã ϴl:=by rw[K9v];erw[og];rw[K9p,K0,K9p]
 show(?_,Ô (e1 0 p.ú) p.root,?_)
 .rw[F.pre_app,F.vq,q.preF,<-K92,p.pre,a,List.range_add]
  congr 1
  show K8u λk _=>Zct _ _
 rw[F.BZ];show(ϒO (λk m=>e1 k ?_),?_,?_,trivial)
 .let:k∈0::Φ:=ě m
  rw[p.pre,K9G]at this;show this
 .let:=g 0 Û
  show this
 let:=F.EE (e:=Z4 ϴl) (e':=Z4<|ts++Ϲd ϴl) (h:=(·+ts.À)) (hi:=λz=>z+ts.À) 0 d (λk m=>by
  let H:k∈0::F.pre d:=ě m;let nd:(0::F.pre d).Nodup:=Ô q.pre K8C
  rw[q.pre,K9G]at H;let i:k≠0:=λz=>(ϨO).1 (z▸m);show(?_,Á)
  let:=g k H;rw[P3 i]at this;show this) q.eld
 show this
namespace F
def ER{ch:Nat->Ò}:∀(f:F),ϴ3 f->∀q∈ν,∀b∈ch q,b∈ν:=by
 induction _ with
  |nil=>
   ext _ q m _ _
   cases m
  |cons k c r ih1 ih2=>
   intro h q m b hb
   let(e,i,j):=h;let rs:∀g:F,∀x∈roots g,x∈ϝ g:=by
    ext g
    induction g with
    |nil=>ext x H;cases H
    |cons a d t _ ih=>
     ext x H;rw[roots']at H;rw[F.pre'];rcases K8v.mp H with rfl|H
     .show K9z
     .show ě<|Τ<|ih x H
   rw[F.pre']at m⊢;rcases K8v.mp m with rfl|m
   .rw[e]at hb
    show ě<|ϰA<|rs c b hb
   .rcases K9Y.mp m with m|m
    .show ě<|ϰA<|ih1 i q m b hb
    .show ě<|Τ<|ih2 j q m b hb
theorem xI{e:å}{ch:Nat->Ò}:∀(f:F)(a m:Nat)(p:Int),ν=ϯq->ϰ9 f->ϴ3 f->p<ϑ->∀j,a<=j->j<a+m->
  ∃C s,F.pre C=ϥq (j+1) s/\Ϫp Ĵ C/\Ϻu<=a+m/\(Ϻu<a+m->e Ϻu<Ĵ)/\ϴ3 C/\ch j=roots C:=by
 induction _ with
  |nil=>
   ext a m p hp _ _ _ j h1 h2
   let:=Ż hp;rw[F.pre'',K8U,K93]at this;lia
  |cons k c r ih1 ih2=>
   intro a m p hp he hcon hpa j h1 h2
   let(e1,g,G):=he;let(U,O,u):=hcon;obtain⟨M,rfl⟩:∃M,m=M+1:=⟨m-1,Á⟩
   rw[F.pre',Zco]at hp;let(K,t):=K8B hp;subst K;let L:=Ż t;rw[K9v,K93]at L;let o:M=Ã Φ+Ã Ϲ9:=Á
   rw[o,<-Zew]at t;let(H,hr):=Zer t (ϰT K93);let first:Ã Ϲ9≠0->e (k+1+Ã Φ)=p:=λn=>by
    cases r with
    |nil=>show Ϡ n
    |cons b1 b2 b3=>
     let B:b1=k+1+Ã Φ:=by
      let:=Uf (λl=>l[0]?) hr;rw[F.pre']at this;rw[K9p,Zco]at this;show K9R this
     rw[<-B];show G.1
   cases J:j=k
   .subst J
    show(c,Ã Φ,H,g,Á,λh=>?_,O,U);rw[first Á];lia
   .by_cases i:j<k+1+Ã Φ
    .let(C,s,b,q,v,Q,E,d):=ih1 (k+1) (Ã Φ) ë H g O Á j Á i
     show(C,s,b,q,Á,λh=>?_,E,d);cases S:Ϻu<k+1+Ã Φ
     .show Q S
     .let:Ϻu=k+1+Ã Φ:=Á
      rw[this,first Á];lia
    .let(C,s,b,q,v,Q,E,d):=ih2 (k+1+Ã Φ) (Ã Ϲ9) p hr G u Á j Á Á
     show(C,s,b,q,Á,λh=>Q Á,E,d)
end F
theorem TY{ts:À Nd}{c:F}(p:ç){j:Nat}(J:ϰf):∃s,ϱ1 Ϻu/\(∀k,j<k->k<=j+s->Ĵ<=Ĩ k)/\(Č Ϻu->Ĩ Ϻu<Ĵ)/\
  ∀b,ϵm->Ĵ<=Ĩ b->Ĩ b<=ä (j+s)->ϓK:=by
 let(C,s,Q,o,l,f,E,r):=F.xI (e:=Ĩ) ϥA 0 ts.À (-1) (Ĥ p.ğ K7s) p.eldF p.con Ý j Á Á;rw[K87]at l f;let ge:=F.Bs C Ĵ o (Ϙi Q);show(s,l,λk K v=>ge k (Ϲ Q Zbi),f,λb B b1 u=>?_);let M:b∈F.pre C:=by
  obtain⟨q,n⟩:∃q:Nat,Ĩ b=Ì q:=⟨ĩ (Ĩ b),Á⟩
  let O:b∈Α ϳS (λx=>Õ<|Ĩ x=Ì q):=ϳz ⟨K9G.ó B,Z8 n⟩;cases H:q=j
  .subst H
   let i:b∈F.roots C:=by rw[<-r];show O
   let rs:∀g:F,∀x∈ϲT g,x∈ϝ g:=by
    ext g
    induction g with
    |nil=>ext x h;cases h
    |cons a d t _ ih=>
     ext x h;rw[F.roots']at h;rw[F.pre'];rcases K8v.mp h with rfl|h
     .show K9z
     show ě<|Τ<|ih x h
   show rs C b i
  show F.ER C E q (Ϲ Q Zbi) b O
 rw[Q,Zbi]at M;lia
namespace F
def C9(h:ņ):ϤG (ϴd (϶r g)=app (ϴd f) (ϴd g)):=by
 induction _ with|nil=>ext g;show rfl|cons k c r Sc Re=>ext g;rw[app,map,map,app,Re g]
def jQ(h:ņ):ϲy (roots (ϴd f)=Ê ϭf h):=by
 induction _ with|nil=>show rfl|cons k c r Sc Re=>rw[map,roots',roots',K9w,Re]
def nN:ϲy (roots Ϲ0=Ϩ ϭf):=by
 induction _ with
 |nil=>show rfl
 |cons k c r Sc Re=>
  rw[mir',vW,Re];change _++[k]=Ϩ ϓJ;rw[K8T]
def B8{ch C:Nat->Ò}{g:ņ}:ϲy (ϴ3 f->Con C (map g Ϲ0)->∀k∈ν,C (g k)=Ê (Ϩ<|ch k) g):=by
 induction _ with
  |nil=>
   ext _ _ k m
   cases m
  |cons a c r ih1 ih2=>
   intro h h' k m
   let(H,b,d):=h;rw[mir',C9,xF]at h';let(q,Q,l,e):=h';rw[F.pre']at m;rcases K8v.mp m with rfl|m
   .rw[Q,H,jQ,nN]
   .rcases K9Y.mp m with m|m
    .show ih1 b l k m
    .show ih2 d q k m
end F
def Vo{ts:À Nd}{c:F}(p:ç){k:Nat}(K:Ć):Α (ϱR<|(Ã ć)) (λj=>Õ<|Z4 ć j=ä (Ĺ k))=Ê (Ϩ<|Α ϳS λj=>Õ<|Ĩ j=ë) Ĺ:=by let h:=p.con;let H:=(϶O).con;rw[F.xX]at H;show F.B8 ϥA h H k (Ô p.ğ<|϶u K)
def nt:Fs:=(sIf (pZ (aD<|ñ gLt 1<|Ç 0)<|aD<|ñ gGe 1<|ħ<|È 0 ai) Ju sNx)
def fi:Fn:=ε 2 nt
def k8:Fs:=(ao (ϳ6 ϊ)
 (ao (Ϫ8 Ľ 2<|ϨW<|Rs<|pX<|eIf (aD<|Ϲ1 (Ù 2<|Ç 0)<|ġ<|Ç 1) (Ç 0)<|ŗ (Ù 1<|Ù 2<|Ç 0)<|Ç 1)
 Ϥq))
def fT:Fn:=ϲ5 3 k8
def oS:Fs:=(bF<|ϰr bY 0 (ϥ7 (ħ<|ĝ (Ù 0<|Ç 1))<|Ç 2) 1 [])
def bT:Fn:=ϲ5 1 oS
def jJ:Fs:=(ao (ϳ6<|ϰr bY 0 ϊ 1 [])
 (ao (bZ (iR2 (Ç 1)<|ħ<|È 0 ai) (K2 2)<|ui 1 (ū (Ù 0 ό)<|Ç 0) ό)
 Ϥq))
def dZ:Fn:=ϲ5 3 jJ
def lR:Fs:=(ao (AF<|aj fi<|È 0<|È 1 ai)
 (bF<|aP (iEn Ľ) (ϡ<|Œ 0 1 bB) (aD<|Ϲ1 (Ù 1<|Ç 0) ό) Ľ 2 [1]))
def aV:Fn:=ε 2 lR
def oy:Fs:=(ao (ϳ6 ϊ)
 (ao (bZ (iEn<|aj fT<|È 0 ai) (ϡ<|Œ 2 3 bB) (ao (sIf (Gk<|aD<|ñ gEq 3<|ħ<|È 1 ai) (ϨW ϊ) sNx)
 (ui 1 Š ό)))
 Ϥq))
def bS:Fn:=ϲ5 4 oy
def EL(ts:À Nd):Prop:=∀(k:Nat)(n:Nd),ϸJ=ϵL->(k=0->n.e=-1)/\(0<k->0<=n.e)/\n.e<k
def gZ(a:Ò)(n:Nd):Nat:=Ë (n.e=-1) 0 (Ó (a[n.e.toNat]?) 0+1)
def lvs(ts:À Nd):Ò:=ts.foldl (λa n=>a++[gZ a n]) []
def rG(ts:À Nd)(n:Nd):lvs (ts++[n])=ϱq++[gZ ϱq n]:=Ϗ lvs List.foldl_append
def snoc_ind{P:Ú (À α)}(a:P [])(S:∀X x,P X->P (X++[x]))(X:À α):P X:=by
 let:∀s:À α,P s.å:=by
  ext s
  induction s with|nil=>show a|cons y s ih=>rw[K8T];show ϤE ih
 let h:=this X.å;rwa [Zex]at h
def f6:∀ts:À Nd,İ (Ã ϱq):=by
 ext ts;show snoc_ind (P:=λts=>İ (Ã ϱq)) rfl (λts n i=>?_) ts;rw[rG,K9v,K9v,i];rfl
def take_snoc{α:Type}{X:À α}{i:Nat}{x:α}(h:á X=Ď):X.Ö (i+1)=X.Ö i++[x]:=by rw[Zck,h];rfl
def zI(ts:À Nd):∀i:Nat,ł ϱq i=ϳa:=by
 show snoc_ind (P:=λts=>∀i:Nat,ł ϱq i=ϳa) (λi=>Ϯ lvs) (λts n I=>?_) ts;ext i;rcases Nat.le_total i ts.À with h|h
 .rw[rG,K8s (Ϲu f6),K8s h,I]
 cases H:i=ts.À
 .subst H
  rw[rG,K8s (Ô f6 ì),K8s ì,I]
 rw[K90 (by rw[f6,K9v];simp;lia),K90<|by rw[K9v];simp;lia]
def uN{ts:À Nd}{i:Nat}{n:Nd}(h:á ts=ϵL):á ϱq=Â (gZ ϳa n):=by
 let hi:=ϲI;let e:=zI ts<|i+1;rw[ϓL,rG]at e;let:(ł ϱq<|i+1)[i]?=Â (gZ ϳa n):=by
  rw[e,K9a (Ϲ f6 K9f),f6,K9f,K8q Á,K8c];rfl
 rw[K97 Á]at this;show this
def aO(s:Ò):À Gc:=s.Ç (ϳj ë)
def eS(s:Ò):Ã ϺG=s.À:=ű aO K0
def GK{s:Ò}{k v:Nat}(h:s[k]?=ĥ):Ť ϺG ë=Â (Ä v):=de (ϧh aO)
def sQ(s:Ò)(k:Nat):Ê ϺG OD.sh++[Đ<|Ä ë]=ß aO (s++[k]) OD.sh:=ϰY aO K9i K9i
def zx(ts:À Nd)(he:ĕ)(j:é):fT [Ï è]=.ok (Ę<|aO ϱq):=by
 erw[fT,k8];simp![S5];generalize L:Ŗ=r';show ϳ2 (λi c=>∃V:Ü OD,c=[â è,some<|Ę<|aO ϳa,V]) ζ
 .rintro i d c hd ⟨V,rfl⟩
  erw[ak]at hd;rw[N2]at hd;let(n,N,rfl):=ϹV;let hi:=(ZB.mp N).1;let l:ϱK (Ã (aO ϳa)):=ϩK eS f6 K9f (c8 Á)
  let g:(lvs<|ts.Ö<|i+1)=ϳa++[gZ ϳa n]:=Ĥ (take_snoc N) rG
  let e:=he i n N;cases H:n.e=-1
  .let e1:gZ ϳa n=0:=ű gZ ϱU
   rw[e1]at g;let sn:=sQ ϳa 0;rw[<-g,Int.natCast_zero]at sn;simp![ndD,Z8 H,l,aI,sn];show(_,rfl)
  let f:0<i:=by
   rcases Zcg i with h|h
   .show ĭ (e.1 h) H
   show h
  obtain⟨k,K⟩:∃k:Nat,n.e=ë:=⟨n.ģ,Ĳ (e.2.1 f)⟩
  let I:k<i:=Ĳ e.2.2
  obtain⟨v,b⟩:∃v,ϳa[k]?=ĥ:=⟨ϳa[k]'(Ϲ f6 K9f),Û⟩
  let e1:gZ ϳa n=v+1:=by erw[gZ];rw[ϲc,K,K9n,b];rfl
  rw[e1]at g;let sn:=sQ ϳa<|v+1;rw[<-g,Zcv,Int.natCast_one]at sn;let ga:=GK b;let a:¬(ë=-1):=Á
  simp![ndD,K,K9q a,l,aI,ga,sn];show(_,rfl)
 ext ρ' rfl ⟨V,rfl⟩;simp![S5];rw[aH,K90 ì]
def JF(nums:À Ò)(k lv:Nat):À Ò:=Ë (lv=nums.À) (nums++[[k]]) (nums.ß lv (Ó (nums[lv]?) []++[k]))
def cM(L:Ò):Nat->À Ò|0=>[]|i+1=>ϖv<|Ó (L[i]?) 0
def cM'{L i}:cM L (i+1)=(ϖv<|Ó (L[i]?) 0):=rfl
structure NumOk(L:Ò)(i:Nat)(nums:À Ò):Prop where
 row:∀(j:Nat)(r:Ò),ę nums=ϰQ->ϩ3/\Ϯ0/\∀k,k∈r↔k<i/\L[k]?=ϱ7
 lt:∀(k v:Nat),k<i->L[k]?=ĥ->v<nums.À
 sum:Ϲb nums.Ç=i
def sum_set(f:Ò->Nat):∀(nums:À Ò)(j:Nat)(r R:Ò),ę nums=ϰQ->f R=f r+1->(Ê (nums.ß j R) f).sum=(nums.Ç f).sum+1:=by
 induction _ with
  |nil=>
   ext j _ _ h _
   simp at h
  |cons x xs ih=>
   ext x23 r R h e
   cases x23 with
    |zero=>
     simp at h;subst h;simp;lia
    |succ j=>
     let:=ih j r R ϱZ e;simp at this⊢;lia
theorem BV:∀(nums:À Ò)(j:Nat)(r:Ò),ę nums=ϰQ->r.À<=Ϲb nums.Ç
 |[],j,r,h=>ϫr
 |x::xs,0,r,h=>by
  simp at h;subst h;simp
 |x::xs,j+1,r,h=>by
  let:=BV xs j r ϱZ;simp;lia
def NumOk.step{L:Ò}{i:Nat}{nums:À Ò}(h:NumOk L i nums){v:Nat}(V:L[i]?=ĥ)(hle:v<=nums.À):NumOk L (i+1) (JF nums i v):=by
 erw[JF];cases d:v=nums.À
 .rw[Os d]
  show(ϩS ?_,λk w K W=>?_,by rw[K9i,Zbf,h.sum];simp)
  .by_cases J:j<nums.À
   .rw[K9V J]at hr
    let(a,b,c):=h.row j r hr;show(a,b,ϥ9);rw[c k];constructor
    .exactλz=>⟨Á,z.2⟩
    ext⟨z1,z2⟩;show(?_,z2);cases I:k=i
    .subst I
     rw[V]at z2;let:=K9R z2;lia
    lia
   rw[K9a Á]at hr;let e:j=nums.À:=by
    let:=(ϱa hr);simp at this;lia
   subst e;let:[i]=r:=ť hr
   subst this;show(Û,Û,ϥ9);rw[K95];constructor
   .rintro rfl
    show(Á,by rw[V,d])
   ext⟨z1,z2⟩;cases I:k=i
   .show I
   let:=ϭx _ Á z2;lia
  rw[K9v,K9e];cases I:k=i
  .subst I
   rw[V]at W;let:=K9R W;lia
  let:=ϭx w Á W;lia
 rw[P3 d];let l:v<nums.À:=Á
 obtain⟨R,H⟩:∃r,nums[v]?=ϰQ:=⟨nums[v],by simp[l]⟩
 rw[H,Zaz];let(a,b,c):=h.row v R H;show(ϩS ?_,λk w K W=>?_,?_)
 .by_cases J:v=j
  .subst J
   rw[K9I l]at hr;cases hr;show(Û,?_,ϥ9)
   .rw[List.pairwise_append]
    show(b,Û,λx X y f=>?_);let Y:y=i:=by simpa using f
    rw[Y];show((c x).mp X).1
   rw[K9Y,K95,c k];constructor
   .rintro(⟨z1,z2⟩|rfl)
    .exact(Á,z2)
    show(Á,V)
   ext⟨z1,z2⟩;cases I:k=i
   .show Ø I
   show Ð ⟨Á,z2⟩
  rw[K9E J]at hr;let(A,B,G):=h.row j r hr;show(A,B,ϥ9);rw[G k];constructor
  .exactλz=>⟨Á,z.2⟩
  ext⟨z1,z2⟩;show(?_,z2);cases I:k=i
  .subst I
   rw[V]at z2;show ĭ (K9R z2) J
  lia
 .rw[K8z]
  cases I:k=i
  .subst I
   rw[V]at W;let:=K9R W;lia
  show ϭx w Á W
 rw[sum_set List.length nums v R _ H Û,h.sum]
private def LX{ts:À Nd}(he:ĕ){i:Nat}{nums:À Ò}(h:NumOk ϱq i nums){n:Nd}(H:á ts=ϵL):gZ ϳa n<=nums.À:=by
 erw[gZ];split
 .show ϰS
 rename_i b;let e:=he i n H;let a:0<i:=by
  rcases Zcg i with h|h
  .show ĭ (e.1 h) b
  show h
 let hi:=ϹB;let k:n.ģ<i:=ϓh (e.2.1 a) e.2.2
 obtain⟨v,V⟩:∃v,ϱq[n.e.toNat]?=ĥ:=⟨ϱq[n.e.toNat]'(Ă f6),Û⟩
 let:ϳa[n.e.toNat]?=ĥ:=by rw[<-zI,K97 k];show V
 rw[this,Zaz];show h.lt _ v k V
def f9{ts:À Nd}(he:ĕ):∀i,i<=ts.À->NumOk ϱq i (ϟ i):=by
 induction _ with
 |zero=>ext _;show(λj r h=>by simp[cM]at h,λk v h=>Á,rfl)
 |succ i N3=>
  ext hi;let I:=N3 Á;obtain⟨n,H⟩:ϰ5 (á ts):=⟨ts[i]' Á,Û⟩
  let V:=uN H;rw[cM',V,Zaz];show I.step V<|LX he I H
def SJ(r:Ò):OD:=Ę ϶G
def oP(nums:À Ò):À OD:=nums.Ç SJ
def oW(nums:À Ò):À Gc:=nums.Ç λr=>Ï ϶G
def mD(nums:À Ò):ß oP nums OD.er=oW nums:=by
 erw[oP,oW];rw[S1];show K8u λr _=>?_;change(SJ r).er=_;erw[SJ];rw[md,aI]
def kl(nums:À Ò):Ã (oP nums)=nums.À:=ű oP K0
def kX(ts:À Nd)(he:ĕ)(p:é):bS [Ï è]=ģ (oP<|ϟ ts.À):=by
 erw[bS,oy];simp![zx ts he p,aI];generalize o:Ŗ=r';show aX o (ϺK<|∃l C:Ü OD,ρ=[â è,Ň<|oP<|ϟ i,l,C]) (ϲi _) ?_ ?_
 .rintro i d ρ hd ⟨l,C,rfl⟩
  let(e,H,rfl):=kY hd;erw[aO]at H;rw[N2]at H;let(v,V,rfl):=XL.mp H;let hi:=(ϱa V);rw[f6]at hi;let ok:=f9 he i Á;obtain⟨n,N⟩:ϰ5 (á ts):=⟨ts[i]' Á,Û⟩
  let hle:=LX he ok N;rw[uN N]at V;rw[K9R V]at hle;let f:á ϱq=ĥ:=Ô (uN N) V
  let E:ϟ (i+1)=JF (ϟ i) i v:=by rw[cM',f];rfl
  let q:Ã (ϟ i)<=i:=by
   let S:=ok.Ğ;let:∀nums:À Ò,(∀(j:Nat)(r:Ò),ę nums=ϰQ->ϩ3)->nums.À<=Ϲb nums.Ç:=by
    ext nums
    induction nums with
    |nil=>ext _;simp
    |cons x xs ih=>
     ext h;let c:=h 0 x rfl;let s:=ih (ϩS (h (j+1) r (ť hr)));let:1<=x.À:=by
      cases x with|nil=>show Ϡ c|cons a b=>simp
     simp;lia
   let:=Ϧl ((ϩS (ϫ7 hr).1));lia
  cases c:v=Ã (ϟ i)
  .let D:Õ ((v:Int)=Ì ((Ã (ϟ i))))=true:=Z8 Á
   let B:ϱK (Ã (ϟ i)):=c8 Á;simp![mD,kl,D,oW,B];let ap:=ϓZ [some<|Đ<|ϴO è,some<|ϲw<|oP (ϟ i)++[ϲw []],some<|Đ<|int i,some<|Đ<|int v] (k:=Š) (a:=ό) (xs:=oP (ϟ i)++[ϲw []]) (ys:=[]) (z:=v) (j:=v) (y:=.sh<|Ä i) rfl rfl (cW<|ϳr K9v kl K9e) (by rw[K9a (Ă kl),kl,c,K8c];rfl) rfl Ý;rw[ap];simp![S5];let e1:Ϫ (oP (ϟ i)++[ϲw []]) v (ϲw [Đ<|Ä i])=oP (ϟ<|i+1):=by
    rw[E];erw[JF];rw[Os c,Zdq _ _ (Ă kl),kl,c,K8c];erw[oP];rw[K9i];rfl
   rw[e1];show(_,_,rfl)
  let D:Ł (Õ ((v:Int)=Ì ((Ã (ϟ i))))):=K9q Á;let L:v<Ã (ϟ i):=Á
  obtain⟨g,R⟩:∃r,(ϟ i)[v]?=ϰQ:=⟨(ϟ i)[v],ό0⟩
  let m:g.À<=i:=ϱC (BV _ _ _ R) ok.Ğ
  simp![mD,kl,D,oW];let ap:=ϓZ [some<|Đ<|ϴO è,some<|ϲw<|oP<|ϟ i,some<|Đ<|int i,some<|Đ<|int v] (k:=Š) (a:=ό) (xs:=oP<|ϟ i) (ys:=ß aO g OD.sh) (z:=v) (j:=v) (y:=.sh<|Ä i) rfl rfl (cW<|Ă kl) (by erw[oP];rw[N2,R];rfl) rfl (Ζ K0 eS<|K94<|c8 Á);rw[ap];simp![S5];let e1:(oP<|ϟ i).set v (ϲw<|ß aO g OD.sh++[Đ<|Ä i])=oP (ϟ<|i+1):=by rw[E];erw[JF];rw[P3 c,R,sQ];erw[oP];rw[Zby];rfl
  rw[e1];show(_,_,rfl)
 ext ρ' rfl ⟨l,C,rfl⟩;let:İ (Ã (fC<|aO ϱq)):=ϑe eS f6
 rw[this];simp![S5]
def ay(ts:À Nd):À Int:=ts.Ç λn=>Ì n.ç / 2
def jR(ts:À Nd)(h:ϵe)(a:é):bT [Ï è]=ģ (ß ay ts λz=>Đ<|Ä z):=by
 erw[bT,oS];simp![S5];generalize l:Į=r;let e:=aS l ndD (λn:Nd=>Ñ<|Ì n.ç / 2) ts rfl (K94<|aF Á) (by ext n H;let:=aF<|h n H;simp![ndD,this]);subst e;simp![S5];erw[ay];rw[S1];rfl
def eL(nums:À Ò):Ã (oW nums)=nums.À:=ű oW K0
def DL(X:À Gc)(j:Nat)(h:όZ):fi [Ï X,Ä j]=þ ò:=by
 erw[fi,nt];let D:Ł (Õ (Ĵ<0)):=K9q Á;let d:Ł (Õ (Ì X.À<=Ĵ)):=K9q Á;simp![D,d]
def iL(rs:Ò):À Int:=rs.Ç (ϰU ë)
def nD(rs:Ò):À Gc:=Ê (iL rs) int
def nO(rs:Ò):À OD:=Ê (nD rs) OD.sh
def iP(rs:Ò):Ê (nO rs) OD.er=nD rs:=aI _
def eF(rs:Ò):Ã (nD rs)=rs.À:=ϙW K0
def zo(rs:Ò):Ã (nO rs)=rs.À:=χ nO K0 eF
def Gb(a b:Ò):nO a++nO b=nO ϦD:=by erw[nO,nD,iL];rw[K9i,K9i,K9i]
def vA(a:Ò)(k:Nat):nO a++[Đ<|Ä ë]=nO (a++[k]):=by rw[<-Gb];rfl
def Rp{rs:Ò}{i k:Nat}(h:rs[i]?=Ş):á (nD rs)=Â (Ä ë):=by erw[nD,iL];rw[N2,N2,h];rfl
def F5(ts:À Nd)(q:Nat):Ò:=Α ϳS λj=>Õ<|Ĩ j=Ì q
def Iu(ts:À Nd):fC è=Ā ts.À (ϰU (ϱ0 [Ä ë,ndD ϯ])):=by
 apply K9K;ext i;rw[N2];cases hi:i<ts.À
 .rw[ϴj]
  erw[fC,ak];rw[N2,K8S,N2,ϰD];erw[cw];simp[Nu hi]
 rw[ϘZ ak,K9c<|Ă Z7];rfl
def HL(L:Ò):(L.Ç (ϰU (Đ<|Ä ë)))=nO L:=by erw[nO,nD,iL];rw[S1,S1];rfl
def eA(ts:À Nd)(q:Nat)(H:Č q)(a:é):aV [Ï è,Ä q]=ģ (nO<|Å q):=by
 erw[aV,lR];let c:=DL è q (Ϩe aH);simp![c];generalize w:Į=rc
 let e:=iS w (ϰU<|ϱ0 [Ä ë,ndD ϯ]) (λk=>Õ<|Ĩ k=Ì q) (ϰU<|Ñ ë) ϳS (Iu ts) (Ô Z7<|K94<|aF Á) (by
  ext k h;rw[K9G]at h;let he:=ue h;show(?_,Ţ ?_)
  .simp![ndD,he]
  simp![ndD])
 subst e;rw[HL];simp![S5];rfl
def aG(ns:À Int):À OD:=Ê ō OD.sh
def aW(ns:À Int):ß aG ns OD.er=ō:=aI _
def d7(ns:À Int):Ã (aG ns)=ns.À:=χ aG K0 K0
def jU(f g:Nat->β)(n k:Nat)(H:∀q,q≠k->g q=f q):Ϫ (Ê ϲl f) k (g k)=Ê ϲl g:=by
 apply K9K;ext i;cases hi:k=i
 .subst hi
  cases h:k<n
  .rw[K9I ϱZ,N2,ϴ6]
   rfl
  rw[K9c ϳc,K9c ϳc]
 rw[K9E hi,N2,N2];cases h:i<n
 .rw[ϴ6]
  change Â (f i)=Â (g i);rw[H i<|K8g hi]
 rw[K9c ϳc];rfl
def chI(ts:À Nd)(i q:Nat):Ò:=Α Ϥb λj=>Õ<|Ĩ j=Ì q
def HU(ts:À Nd)(i q:Nat):Ã (ϳC i q)<=i:=by
 erw[chI];let:=K8i (λj=>Õ<|Ĩ j=Ì q) Ϥb;rw[Z7]at this;show this
def uQ(ts:À Nd)(i q:Nat):ϳC (i+1) q=ϳC i q++(Ë (Ĩ i=Ì q) [i] []):=by
 erw[chI];rw[K8A,K8o];congr 1;cases h:Ĩ i=Ì q
 .rw[ϰo]
  simp[h]
 rw[ϱA];simp[h]
def xn(ts:À Nd)(he:ĕ)(b:Č 0)(m:é):dZ [Ï è]=ģ (Ā ts.À λq=>ϲw<|nO<|Å q):=by
 erw[dZ,jJ];simp![S5];generalize w:Į=rc;let e:=϶R ndD (λ_:Nd=>ϭq) ts rfl (K94<|aF Á) (by ext n h;simp![S5]);subst e;let S:Κ 1:=Ŕ Ý;let f:Κ ((Ì ts.À)):=Ŕ Á;let Z:Ĩ 0=-1:=by
  obtain⟨n,h⟩:ϰ5 (ts[0]?):=⟨ts[0],by simp[b]⟩
  rw[ϴx];show(he 0 n h).1 rfl
 let g:(ts.Ç λ_:Nd=>ϲw [])=Ā ts.À (ϺV 1):=by
  let:∀q:Nat,ϳC 1 q=[]:=λq=>by
   rw[uQ,Z,P3 Á];rfl
  apply K9K;ext i;rw[N2,N2];cases hi:i<ts.À
  .rw[ϴj,ϰD]
   change Â (ϲw [])=some (ϲw<|nO<|ϳC 1 i);rw[this];rfl
  rw[K9c Á,K9c<|Ă Z7];rfl
 simp![g,aH,S,f,K7m];generalize L:Ŗ=r';show ϳ2 (ϺK<|∃V:Ü OD,ρ=[â è,Ň<|Ā ts.À (ϺV (i+1)),V]) ζ
 .rintro i d ρ hd ⟨V,rfl⟩
  let(hi,rfl):=϶M;let H:Č (i+1):=Á
  let s:Ì 1+ÿ=ä (i+1):=Á
  rw[s];obtain⟨n,h⟩:ϰ5 (ϺJ ts):=⟨ts[i+1],ϫ6⟩
  let l:=he (i+1) n h;obtain⟨k,K⟩:∃k:Nat,n.e=ë:=⟨n.ģ,Ĳ (l.2.1 Á)⟩
  let I:k<i+1:=Ĳ l.2.2
  let g3:=fZ h;rw[K]at g3;let c:=HU ts (i+1) k;let ap:=ϓZ [â è,Ň<|Ā ts.À (ϺV (i+1)),some<|Ñ<|(ä (i+1))] (k:=ū (Ù 0 ό)<|Ç 0) (a:=ό) (xs:=Ā ts.À (ϺV (i+1))) (ys:=nO<|ϳC (i+1) k) (z:=k) (j:=k) (y:=Ñ<|(ä (i+1))) rfl (by simp![g3]) (cW<|Ϲ K0 Z7) (ϰ7 N2<|K9Z Á) rfl (Ô zo<|K94<|c8 Á);simp![S5];rw[ap];let T:(Ā ts.À (ϺV (i+1))).set k (ϲw<|nO (ϳC (i+1) k)++[Đ<|Ä (ä (i+1))])=Ā ts.À (ϺV ώD):=by
   rw[vA];let e1:ϳC (i+1) k++[i+1]=ϳC ώD k:=by rw[uQ ts<|i+1,ϴx,K,Ĝ]
   rw[e1];show jU (ϺV<|i+1) (ϺV ώD) ts.À k ϸi;change ϲw (nO<|ϳC ώD q)=_;rw[uQ ts<|i+1,ϴx,K,P3 Á,K9d]
  rw[T];simp![S5];show(_,rfl)
 ext ρ' rfl ⟨V,rfl⟩;rw[gF,ê (İ (ĩ (Ì ts.À-1)+1))];simp![S5];rfl
def iZ{ts:À Nd}(he:ĕ)(H:Č 0):0<Ã (ϟ ts.À)/\ϱ1 (Ã (ϟ ts.À)):=by
 let ok:=ϵ5 ì;constructor
 .obtain⟨v,V⟩:∃v,ϱq[0]?=ĥ:=⟨ϱq[0]'(Ϩe f6),Û⟩
  let:=ok.lt 0 v H V;lia
 let:∀nums:À Ò,(∀(j:Nat)(r:Ò),ę nums=ϰQ->ϩ3)->nums.À<=Ϲb nums.Ç:=by
  ext nums
  induction nums with
  |nil=>ext _;simp
  |cons x xs ih=>
   ext h;let c:=h 0 x rfl;let d:=ih (ϩS (h (j+1) r (ť hr)));let:1<=x.À:=by
    cases x with|nil=>show Ϡ c|cons a b=>simp
   simp;lia
 let:=Ϧl ((ϩS (ϫ7 hr).1));rw[ok.sum]at this;show this
def mZ:Fs:=(ao (ϳ6 ϊ)
 (ao (Ϫ8 (ϨB<|È 0 ai) 2<|Es 1<|ϺI ό (ϳb 2 (d8<|Ç 1) iN) (ϡ<|Œ 0 1 bB) aT (d_<|È 0<|È 1 ai) 2 [])
 Ϥq))
def dG:Fn:=ϲ5 3 mZ
def nA:Fs:=(ao (Ų<|Rs<|ϻK<|È 0 ai)
 (bF<|ϴs (ϓp<|È 0 ai) (ϡ<|Œ 0 1 bB) aT (Rs<|d_<|È 0<|È 1<|ae (ŗ (ŗ (ŗ (Ù 2 Ľ)<|Ù 2 Ŋ) Š)<|Ç 1) ai) 2 [2,1]))
def dF:Fn:=ε 3 nA
def I4(pl:À Int)(k:Nat):Int:=Ó (ϫ pl) 0
def d9{pl:À Int}{k:Nat}(h:k<pl.À):Ť ϻz ë=Â (Ä<|I4 pl k):=de (by rw[N2];erw[I4];rw[ϱi];rfl)
def prD(p:Ϻ):Gc:=Ą [Ä (Ì p.1),Ä (Ì p.2)]
def prs(r:Ò):À Ϻ:=r.Ċ<|r.ä 1
def BW(r:Ò):Ã ϳI<=r.À:=by
 erw[prs];rw[Zao];lia
def Ht(r:Ò):gq ϶G (τ ϶G 1)=Ê ϳI prD:=by erw[gq,aO,prs];rw[<-Zbt,List.zip_map,S1];rfl
def BP{r:Ò}{p:Ϻ}(h:p∈ϳI):p.1∈r/\p.2∈r:=by let(a,b):=p;let:=K7w h;show(Ϻm,Zca Ϥw)
def lK(ts:À Nd):İ (Ã ϸS):=ű ay K0
def rsh(ts:À Nd):(ß ay ts λz=>Đ<|Ä z).map OD.er=ß ay ts int:=Ô S1 (K8u λz _=>ϰn)
def Nb(nums:À Ò)(j:Nat):(Ê (nums.Ö j) List.length).sum<=Ϲb nums.Ç:=by
 let:=Uf (λl=>(Ϲb l.Ç))<|Zes j nums;simp only[K9i,Zbf]at this;lia
def yo(s:À Gc)(d:Gc):ϫy++[ϥX]=Ê (s++[d]) OD.sh:=ϣ K9i
def hdN(r:Ò):Nat:=Ó (r[0]?) 0
def ltN(r:Ò):Nat:=Ó r.ī 0
def S4:À Ò->À Ϻ|[]=>[]|r::rs=>ϳI++S4 rs
def S4'{r rs}:S4 (r::rs)=(ϳI++S4 rs):=rfl
def P6:∀(a b:À Ò),S4 ϦD=S4 a++S4 b:=by
 induction _ with|nil=>ext b;show rfl|cons r rs N3=>ext b;rw[K92,S4',S4',N3 b,K9M]
def oO:∀a:À Ò,Ã (S4 a)<=Ϲb a.Ç:=by
 induction _ with
 |nil=>show ì
 |cons r rs N3=>
  let h:=N3;let H:=BW r;rw[S4',K9v,K9w,Zap];lia
def B6:∀{a:À Ò}{p:Ϻ},p∈S4 a->∃r∈a,p∈ϳI:=by
 induction _ with
  |nil=>
   intro p h
   simp[S4]at h
  |cons r rs ih=>
   intro p h
   rw[S4',K9Y]at h;rcases h with h|h
   .exact(r,K9z,h)
   .let(q,H,b):=ih h
    show(q,ě H,b)
abbrev nums(ts:À Nd):À Ò:=ϟ ts.À
def mU{ts:À Nd}(he:ĕ){p:Ϻ}(h:p∈S4 Í):Č p.1/\Č p.2:=by let(r,hr,H):=B6 h;let ok:=ϵ5 ì;let(j,J):=Zac hr;let(_,_,R):=ϫ7 J;let(M,Q):=BP H;show(((R _).mp M).1,((R _).mp Q).1)
def mV(ts:À Nd)(he:ĕ)(l:é):dG [Ï è]=.ok (Ę<|ß S4 Í prD):=by
 erw[dG,mZ];let ok:=ϵ5 ì;simp![kX ts he l,mD];change _=R.ok (ϲw<|Ê (ß S4 (ϟ ts.À) prD) OD.sh);generalize ϟ ts.À=nums at ok;generalize h:Ŗ=r';show aX h (λi c=>∃v:Ü OD,c=[â è,some<|Ę<|ß S4 ϫB prD,v]) ζ ?_ ?_
 .rintro i d c hd ⟨v,rfl⟩
  erw[oW]at hd;rw[N2]at hd;let(r,hr,rfl):=ϹV;let(f,m,j):=ok.row i r hr;let g:1<=r.À:=by
   cases r with|nil=>show Ϡ f|cons a b=>simp
  let c1:ϲd ϶G (Â 1) none=τ ϶G 1:=i8 ϶G 1 (Ô eS g);let tk:nums.Ö (i+1)=ϫB++[r]:=ϬN hr;let H:=BW r;let bound:Ã (S4 ϫB)+r.À<=100:=by
   let A:=oO ϫB;let n:=Nb nums<|i+1;rw[tk,K9i,Zbf,ok.sum]at n;simp only[K9w,K9D,Zap,Zfn]at n;lia
  simp![c1,aI,Ht];generalize w:Į=rc;let e:=϶R prD (λp=>.sh<|prD p) ϳI rfl (K94<|aF Á) (by ext p _;erw[prD];simp![S5]);subst e;let L:Ã (S4 ϫB)+Ã ϳI<=Tk:=K94 (aF Á);simp![L];rw[tk,P6,ϸg (S4 [r]) (ϳI++[]),K9d,K9i,K9i,S1,S1];show(_,rfl)
 ext ρ' rfl ⟨v,rfl⟩;erw[oW];simp![S5];rw[K90 ì]
def bI(ts:À Nd)(Ds:Int)(p:Ϻ):Int:=û p.1+û p.2+Ds+1
def Dx(ts:À Nd)(Ds:Int)(p:Ϻ):Gc:=Ą [Ä (Ì p.1),Ä (Ì p.2),Ä<|ϱ2 p]
def zM(ts:À Nd)(Ds:Int)(he:ĕ)(l:ϵe)(a:é):dF [Ï è,Ä Ds]=.ok (Ę<|ß S4 Í ό5):=by
 erw[dF,nA];let b:ϲx (Ã (S4 Í)):=by
  let:=oO Í;let ok:=ϵ5 ì;let:İ (Ê Í List.length).sum:=ok.Ğ;lia
 simp![jR ts l a,rsh,mV ts he a,aI];generalize w:Į=rc
 let e:=aS w prD (λp=>.sh<|ό5 p) (S4 Í) rfl (K94<|aF Á) (by
  ext p H;let h:=ϸw H;let g1:=Ϸa ϸS p.1 (Ô lK h.1);let g2:=Ϸa ϸS p.2 (Ô lK h.2)
  erw[prD,Dx,bI];simp![g1,g2])
 subst e;simp![S5];rw[S1];rfl
def iD(ns:À Int):Gc:=Ï ō
def eQ(l r g:À Int):Gc:=Ą [iD l,iD r,iD g]
def bX{r:Ò}(h:ϩ3):Ť ϶G 0=Â (Ä (ϰC:Nat))/\Ϲ2 ϶G=Â (Ä (ϱ:Nat))/\ϰC∈r/\ϱ∈r:=by
 cases r with
 |nil=>show Ϡ h
 |cons a as=>
  let e:=Zds ϔx;let L:ltN ϵP=(ϵP).getLast ϔx:=Ϗ ltN (Zbg ϔx)
  show(ϭh,?_,K9z,ϫZ (List.getLast_mem _));rw[L]
  conv=>lhs;rw[<-e]
  erw[aO];rw[K9i];show Ae _ _
def kN{ts:À Nd}(he:ĕ){j:Nat}{r:Ò}(h:ę Í=ϰQ):ϩ3/\∀k∈r,Ć:=by let ok:=ϵ5 ì;let(R,_,a):=ϫ7 h;show(R,ϲ1 ((a k).mp H).1)
def wV{ts:À Nd}(l:ϵe)(k:Nat):Ś 0 (û k) 500:=by
 erw[I4,ay];rw[N2];cases h:ts[k]? with
 |none=>show(Ý,Ý)
 |some n=>
  let:=l n ϶w;change Ś 0 (Ì n.ç / 2) 500;lia
def nL(g:À Int)(j:Nat)(z:Int):Ϧf g j (Ñ z)=aG (g.ß j z):=χ aG Zby Zby
def inB(j:Nat)(n:Nd):Bool:=Õ<|Ĵ<=n.e
def p7(j:Nat)(n:Nd):Nd:=⟨n.e-j,n.l,n.t⟩
def cx(ts:À Nd)(j:Nat):À Nd:=match ę ts with
 |some r=>ϧz::(ϲA).map Ϧn
 |none=>[]
private def wq{ts:À Nd}(h:ϔJ ts)(j:Nat):ϔJ ϳu:=by
 erw[cx];split
 .rename_i r hr
  ext n H;rcases K8v.mp H with rfl|H
  .show h r<|K9L hr
  let(m,M,rfl):=Ϻa;show h m<|Zca<|(List.takeWhile_sublist<|inB j).subset M
 ext n H;cases H
def AM{ts:À Nd}{j:Nat}(h:ϰf):1<=Ã ϳu/\ϱ1 (j+Ã ϳu):=by
 obtain⟨r,hr⟩:ϰ5 (ę ts):=⟨ts[j]' Á,Û⟩
 erw[cx];rw[hr];let:=(όz (l:=Ϸ1)).length_le;rw[K8y]at this;simp;lia
theorem Ga(p:ϱP α):∀(L:À α)(s:Nat),s<=L.À->(∀k,k<s->∀x,L[k]?=Ď->ϬS)->(∀x,L[s]?=Ď->Ł (p x))->Ã (L.takeWhile p)=s
 |[],s,h,_,_=>by simp at h;subst h;rfl
 |a::L,0,_,_,h=>by let:=h a rfl;rw[Zdd,this];rfl
 |a::L,s+1,h,h1,h2=>by
  let:=h1 0 Á a rfl;rw[Zdd,this,Ĝ,K9p,Ga p L s (by simp at h;lia) (λk K x H=>h1 (k+1) Á x H) λx H=>h2 x H]
namespace F
def Di:ϲy (Ã ϭf<=Ã ν):=by
 induction _ with
 |nil=>show ì
 |cons a c r Sc Re=>
  let:=Re;rw[roots',F.pre',K9p,K9p,K9v];lia
def Fx{e:å}:∀(f:F)(a m:Nat)(p:Int),ν=ϯq->ϰ9 f->p<ϑ->∀k∈ν,e k<ë:=by
 induction _ with
  |nil=>
   ext a m p hp _ _ j h1
   cases h1
  |cons k c r ih1 ih2=>
   intro a m p hp he hpa j J
   let(e1,g,G):=he;obtain⟨M,rfl⟩:∃M,m=M+1:=⟨m-1,by
    let:=Ż hp;rw[F.pre',K9p,K93]at this
    lia⟩
   rw[F.pre',Zco]at hp;let(h,t):=K8B hp;subst h;let l:=Ż t;rw[K9v,K93]at l;let H:M=Ã Φ+Ã Ϲ9:=Á
   rw[H,<-Zew]at t;let(C,hr):=Zer t (ϰT K93);rw[F.pre']at J;rcases K8v.mp J with rfl|J
   .lia
   .rcases K9Y.mp J with J|J
    .show ih1 (k+1) _ ë C g Á j J
    .show ih2 (k+1+Ã Φ) _ p hr G Á j J
end F
def Q7{ts:À Nd}{c:F}(p:ç){k:Nat}(h:Ć):Ĩ k<ë:=by
 show F.Fx ϥA 0 ts.À (-1) (Ĥ p.ğ K7s) p.eldF Ý k ?_;rw[p.preF,K9G];show h
def Ic{ts:À Nd}{f:F}(C:ϳJ Å f)(d:f≠F.nil)(M:∀k∈ν,Ć):∃g a b,ϸh=ϲT g++[a]/\ϳh/\ϲT g++Å a=ϲT ϶h/\ϳJ Å ϶h/\Ã ν=Ã (ϝ ϶h)+1/\(∀k∈ϝ ϶h,Ć)/\∀o:Ò,(o++[a])++F.fM ϶h=o++F.fM f:=by
 let(g,a,b,rfl):=F.snoc f d;rw[F.xF]at C;let(h,H,c,_):=C;show(g,a,b,ϣ F.vW,M a (by rw[F.pre_app];simp[F.pre]),by rw[H,F.vW],(F.xF _ _).mpr ⟨h,c⟩,?_,λk m=>M k ?_,λo=>?_)
 .rw[F.pre_app,F.pre_app,K9v,K9v,F.pre,F.pre,K9d,K9p]
  lia
 .rw[F.pre_app]at m⊢
  rcases K9Y.mp m with m|m
  .simp[m]
  simp[F.pre,m]
 rw[F.Ee,F.Ee,F.fM',F.fM'',K9B];simp
def A9{f:F}(h:ϸh=[]):f=F.nil:=by
 cases f with|nil=>rfl|cons k c r=>cases h
def aA{ts:À Nd}{c:F}(p:ç):ĕ:=by
 ext k n h;let H:=ϲI;let lt:=Q7 p H;rw[ϴx]at lt;let rt:=p.eldF.1;show(ϩg,ϩg,lt)
 .subst z
  rw[ϴx]at rt;show rt
 let P:ϝ ϥA=ϳS:=p.ğ;let:Φ=ϥq 1 ĵ:=by
  erw[F.full]at P;rw[F.pre',K7s,ê (ts.À=ĵ+1),Zco]at P;let:=(K8B P).2;rw[F.pre'',K9d]at this;show this
 let ge:=F.Bs c 0 p.eldF.2.1 (Ϙi this) k (Ϲ this Zbi);rw[ϴx]at ge;show ge
abbrev Lb(ts:À Nd):Prop:=ϔJ ts
def yR{ts:À Nd}{k:Nat}(h:Ć):ϸJ=Â ϯ:=Ϗ cw ϱi
def Bo{ts:À Nd}{c:F}(p:ç)(h:Ź):Lb ć:=by ext n N;erw[aR]at N;let(k,K,rfl):=XV.mp N;let H:=p.mem.mp K;show h ϯ<|K9L<|yR H
def uH:Fs:=(ao (Ε<|ϰz (Ç 256)<|ñ a_ 2<|Ç 1)
 (ao (ϰk<|Rs<|ϺI Ľ Ŋ (ϡ<|Œ 0 1 bB) aT (ϳA (ŗ (Ù 0<|Ç 1) ό)<|Ù 1<|Ç 0) 2 [3])
 (ao (ϱn<|ϻJ<|È 4 ai)
 (bF<|d_<|È 5<|ĝ (IJ ş ς)))))
def g_:Fn:=ϳN 6 uH
def h_:Fs:=(ao (Ų<|bO<|ĝ (Ç 0))
 (ao (bZ (iR2 (Ç 1)<|ħ<|È 0 ai) Ϧw (ao (ϰk<|Rs<|mE<|ϰr iR1 3 (ŗ (Ù 1 Ľ)<|ū (aj g_<|ae (Ù 2 Ľ)<|ae (Ù 2 Š)<|È 4 ai)<|Ç 0) 1 [2,0,3,1])
 (ϨZ<|ϻJ<|È 4 ai)))
 Ϥr))
def cT:Fn:=ε 5 h_
def jN:Fs:=(ao (Ε<|ħ<|È 0 ai)
 (ao (ϰk<|ϰz (bO<|È 2 ai) Š)
 (ao (bZ (iR3 (ñ cO 3<|Ç 2) (ġ<|Ç 1)<|ġ<|Ç 1) (K2 5) (ao (ϱ4<|Ù 0 ς)
 (ao (ϳ7<|Rs<|mE<|aP (iR2 (ñ a_ 5<|Ç 1) Š) ϰa aT (ϳA (Ù 1 Ľ)<|ū (aj g_<|È 2<|ae (Ù 3 Ľ)<|È 4 ai)<|Ç 0) 1 [4,6,0,1])
 (xj 4 ς<|ϥB<|È 7 ai))))
 (dB 4))))
def dU:Fn:=ϳN 8 jN
def uq:Fs:=(ao (Ų<|Rs<|aj cT<|È 0<|È 1 ai)
 (bF<|d_<|È 2<|ae (Rs<|aj dU<|È 0<|È 1<|ae (Ù 2<|ġ<|Ç 1) ai) ai))
def lC:Fn:=ε 3 uq
def gz(os:À ϰi):À Gc:=os.Ç λp=>Ą [Ä p.1,Ä p.2]
def ask(Ds:Int)(os p:À ϰi):À Int:=Ê (os.Ċ p) λz=>z.1.2+ϥx-z.2.1
def Dm:∀(os s:À ϰi),gq Ϻh (gz s)=Ê (os.Ċ s) λz=>Ą [Ą [Ä z.1.1,Ä z.1.2],Ą [Ä z.2.1,Ä z.2.2]]|[],_=>rfl|_::_,[]=>rfl|p::os,q::s=>by let:=Dm os s;erw[gz,gq]at this⊢;simp only[K9w,Zeb];rw[this]
theorem FH(os s:À ϰi)(Ds:Int)(o:ϒ3)(P:1<=s.À)(B:ϲx os.À):∃(m:Int)(l:Nat),g_ [Ï Ϻh,Ï<|gz s,Ä Ds]=þ (Ą [Ä m,Ä l])/\
  (∀z∈ϴc os s,z<=m)/\(ϴc os s)[l]?=some m/\∀j,j<l->ę (ϴc os s)≠some m:=by
 erw[g_,uH];simp![S5];generalize L:Į=r;let e:=aS L (λz:ϰi×ϰi=>Ą [Ą [Ä z.1.1,Ä z.1.2],Ą [Ä z.2.1,Ä z.2.2]]) (λz=>Ñ<|z.1.2+ϥx-z.2.1) (os.Ċ s) (Dm os s) (Ô Zao<|K94<|aF Á) (by ext z _;simp![S5]);subst e;let g:(Ê (os.Ċ s) λz:ϰi×ϰi=>Đ<|Ä<|z.1.2+ϥx-z.2.1).map OD.er=Ê (ϴc os s) int:=ϪQ ask (λz _=>ϰn)
 obtain⟨a,as,A⟩:∃a as,ϴc os s=ϵP:=by
  cases h:ask Ds os s with
  |nil=>
   let:=Ż h;erw[ask]at this;rw[K0,Zao,K8U]at this;lia
  |cons a as=>show(a,as,rfl)
 let(M,Q):=se as a;let hi:yY (int a::as.Ç int) (Ä ϥV)=.ok (Ñ ((ϵP).idxOf ϥV:Nat)):=MM ϵP _ M;show(ϥV,(ϵP).idxOf ϥV,?_,?_,?_,?_)
 .simp![g,A,E_,hi]
 .rw[A];show Q
 .rw[A]
  let J:=ϏE;rw[϶Q,Zcf J]
 rw[A];ext j J e;let(b,H):=ZB.mp e;let:=List.not_of_lt_findIdx (p:=(· ==ϥV)) J;rw[H]at this;simp at this
def Ka{os:À ϰi}{k:Nat}{p:ϰi}(h:ϫ os=ϲn):Ť Ϻh ë=Â (Ą [Ä p.1,Ä p.2]):=de (by erw[gz];rw[N2,h];rfl)
def PN{Ds:Int}{os s:À ϰi}{k:Nat}{p q:ϰi}(h:ϫ os=ϲn)(H:s[k]?=Â q):ϫ (ϴc os s)=Â (p.2+ϥx-q.1):=by
 erw[ask];rw[N2,Zan (z:=(p,q)) |>.mpr ⟨h,H⟩];rfl
abbrev Ol:=À ϰi
def cK(O:À Ol):À Gc:=O.Ç λos=>Ï Ϻh
def sG(O:À Ol):ϻ6 (Ã ϳH):=ű cK K0
def rD{O:À Ol}{k:Nat}{os:Ol}(h:O[k]?=Â os):Ť ϳH ë=Â (Ï Ϻh):=de (ϧh cK)
def okO(O:À Ol):Prop:=(∀os∈O,Ś 1 os.À 100)/\Ś 1 O.À 100
def dist(Ds:Int)(os p:Ol):Int:=match ϴc os p with
 |a::as=>ϥV
 |[]=>0
def Gw{Ds:Int}{os p:Ol}(H:ϒ3)(b:ϓM):∃a as,ϴc os p=ϵP:=by
 cases h:ask Ds os p with
 |nil=>
  let:=Ż h;erw[ask]at this;rw[K0,Zao,K8U]at this;lia
 |cons a as=>show(a,as,rfl)
def AI(os p:Ol)(Ds:Int)(j:ϒ3)(P:ϓM)(B:ϲx os.À):∃l:Nat,g_ [Ï Ϻh,Ï<|gz p,Ä Ds]=þ (Ą [Ä<|ϲS os p,Ä l]):=by
 let(m,l,e,h,H,_):=FH os p Ds j P B;let(a,as,A):=ϔO j P;let:ϲS os p=m:=by erw[dist];rw[A]at h H⊢;let(k,K):=se as a;show Zdh (h _ k)<|K _ Ϧp
 rw[this];show(l,e)
def jE:À Int->Int|[]=>0|a::as=>ϥV
def zW{xs:À Int}(h:ϩz):lP [Ï ϓi]=.ok (Ñ<|jE xs):=by
 cases xs with|nil=>show Ϡ h|cons a as=>show E_ a as
def vx(Ds:Int)(os p:Ol):ϲS os p=jE (ϴc os p):=by erw[dist,jE];cases ask Ds os p<;>rfl
def Gy(Ds:Int)(O:À Ol)(E:À Int)(k:Nat):À Int:=Ê (range k) λj=>E[j]?.getD 0+ϲS ϴF (O[k]?.getD [])
def kA(Ds:Int)(O:À Ol):Nat->À Int|0=>[0]|k+1=>ϭ k++[jE<|όM (ϭ k)<|k+1]
def kA'{Ds O k}:ϭ (k+1)=(ϭ k++[jE<|όM (ϭ k)<|k+1]):=rfl
def oo(Ds:Int)(O:À Ol):∀k,Ã (ϭ k)=k+1:=by
 induction _ with|zero=>show rfl|succ k N3=>rw[kA',K9v,N3];rfl
def A3(ns:À Int)(z:Int):aG ns++[Đ<|Ä z]=aG (ns++[z]):=ϰY aG K9i K9i
def int_at{ns:À Int}{k:Nat}{z:Int}(h:ϫ ns=Â z):Ť ō ë=Â (Ä z):=de (by rw[N2,h];rfl)
def IP(ns:À Int):(aG ns).all Ϻ9=true:=by erw[aG];rw[K7x];ext x H;let(d,h,rfl):=Ϻa;let(n,_,rfl):=ϥ5;rw[bc];rfl
def AK(ns:À Int):RF (϶J ns)=ģ (aG ns):=by
 change(Ë ((aG ns).all Ϻ9=true) (R.ok (OD.ol<|ß aG ns λy=>.sh y.er)) Î)=_;rw[IP,Ĝ];congr 2;erw[aG];rw[S1];show ϻ5 (by change Đ (OD.sh x).er=_;rw[bc])
def NB{Ds:Int}{O:À Ol}{E:À Int}{k j:Nat}{z:Int}{os p:Ol}(J:E[j]?=Â z)(h:O[j]?=Â os)(H:O[k]?=ϲn):E[j]?.getD 0+ϲS ϴF (O[k]?.getD [])=z+ϲS os p:=by rw[J,h,H];rfl
def Hs{Ds:Int}{O:À Ol}{E:À Int}{k:Nat}(h:0<k):Gy Ds O E k≠[]:=by
 ext z;let:=Ż z;erw[Gy]at this;simp at this;lia
def zD{α:Type}(L:À α)(f:ϴy α):(L.Ç λx=>Đ<|Ä<|f x)=aG (L.Ç f):=ϰY aG S1 S1
def Ek(O:À Ol)(Ds:Int)(R:ϸV):cT [Ï ϳH,Ä Ds]=ģ (aG<|ϭ ĺ):=by
 erw[cT,h_];let(o,N,b):=R;let S:Κ 1:=Ŕ Ý;let c:Κ ((Ì O.À)):=Ŕ Á;simp![sG,S,c,K7m];generalize L:Ŗ=r';show ϳ2 (λi a=>∃C v:Ü OD,a=[â ϳH,some<|Ñ Ds,Ň<|aG<|ϭ i,C,v]) ((ϲi _))
 .rintro i d a hd ⟨C,v,rfl⟩
  let(hi,rfl):=϶M;let I:Ì 1+ÿ=ä (i+1):=Á
  rw[I];let f:Κ ((ä (i+1))):=Ŕ Á;simp![aW,f];generalize w:Į=rc
  let e:=aS w (ϳj<|0+ë) (λj=>Ñ<|(ϭ i)[j]?.getD 0+ϲS ϴF Ϛj) (ϱR<|i+1) (ϣ K9n) (Ô Z7<|K94<|aF Á) (by
   ext k K;rw[K9G]at K;obtain⟨z,Z⟩:∃z,ϫ (ϭ i)=Â z:=⟨(ϭ i)[k]'(Ô oo K),Û⟩
   obtain⟨os,h⟩:∃p,O[k]?=ϲn:=⟨O[k]' Á,Û⟩
   obtain⟨s,H⟩:∃p,O[i+1]?=ϲn:=⟨O[i+1]' Á,Û⟩
   let(l,n):=AI os s Ds (o os ϶w).1 (o s Ϧp).1 (Ĳ (o os ϶w).2)
   let g1:=int_at Z;let g2:=rD h;let g3:=rD H;rw[K8R,NB Z h H];simp![g1,g2,g3,n])
  subst e;rw[zD];let hg:=zW (ϕT (ϭ i) (i+1) Á);let A:Ā (i+1) (λj=>(ϭ i)[j]?.getD 0+ϲS ϴF Ϛj)=όM (ϭ i) (i+1):=rfl;rw[A];let B:ϱK (Ã (aG<|ϭ i)):=Ζ d7 oo (c8 Á)
  simp![AK,aW,hg,B,A3];show(_,_,rfl)
 ext ρ' rfl ⟨C,v,rfl⟩;rw[gF];simp![S5];rw[ê (ĩ (Ì O.À-1)=ĺ)]
def DK(ns:À Int)(j:Nat)(z:Int):Ϧf ns j (Ñ z)=aG (ns.ß j z):=by erw[aG];rw[S1,S1,Zby];rfl
def gv(l:À Int)(k:Nat):Int:=l[k]?.getD 0
def dO(Ds:Int)(O:À Ol)(i j:Nat):Int:=ϲS (O[i]?.getD []) ϴF
def c_{xs:À Int}(h:ϩz):jE xs∈xs/\∀z∈xs,z<=jE xs:=by
 cases xs with|nil=>show Ϡ h|cons a as=>show se as a
def LW(h:ϩz):∃m,mN [Ï ϓi]=þ (Ä m)/\m∈xs/\∀z∈xs,m<=z:=by
 cases xs with|nil=>show Ϡ h|cons a as=>show(_,L8 a as,vL as a)
def Kl(Ds:Int)(O:À Ol)(m:Nat):∀c j,j<=m->(ϭ<|m+c)[j]?=ę (ϭ m):=by
 induction _ with
 |zero=>ext _ _;show rfl
 |succ c N3=>
  ext j h;rw[<-N3 j h,<-Nat.add_assoc];change ę (ϭ (m+c)++_)=_;rw[K9V<|Ă oo]
def Kq(Ds:Int)(O:À Ol)(n:Nat)(N:0<n):IsE n ϳw (gv<|ϭ<|n-1):=by
 let pre:∀m j,j<=m->m<n->gv (ϭ<|n-1) j=gv (ϭ m) j:=λm j h b=>by
  erw[gv];let:=Kl Ds O m (n-1-m) j h;rw[ê (m+(n-1-m)=n-1)]at this;rw[this]
 show(?_,λk a H=>?_)
 .rw[pre 0 0 ì N]
  rfl
 obtain⟨m,rfl⟩:ϔw:=⟨k-1,Á⟩
 let ev:gv (ϭ<|n-1) (m+1)=jE (όM (ϭ m)<|m+1):=by
  rw[pre (m+1) (m+1) ì H];erw[gv];change(ϭ m++_)[m+1]?.getD 0=_;rw[K9a (Ă oo),oo,K8c];rfl
 let(S,w):=c_ (ϕT (ϭ m) (m+1) Á);rw[ev];show(ϳp,?_)
 .apply w _ ?_
  erw[Gy];rw[XV];show(j,ϨH,ϣ (pre m j Á Á))
 erw[Gy]at S;rw[XV]at S;let(j,J,e):=S;rw[K9G]at J;show(j,J,?_);rw[pre m j Á Á];show e.Ï
def LI(n:Nat)(d:Nat->å)(last:Int)(m:Nat)(l:À Int):Prop:=l.À=n/\ϳL (n-1)=last/\∀k,m<=k->ϕJ (ϳL k) (ϳL j)
def VF{l:À Int}{m:Nat}{v:Int}(h:m<l.À)(k:Nat):gv (l.ß m v) k=if k=m then v else ϳL k:=by
 erw[gv];cases H:k=m
 .subst H
  rw[Ĝ,K9I h];rfl
 rw[ϲc,K9E λz=>H z.Ï]
def Po{n:Nat}{d:Nat->å}{last:Int}{m:Nat}{l:À Int}{v:Int}(h:LI n d last (m+1) l)(M:m+1<n)(H:v∈Ā (n-(m+1)) λk=>ϳL ϴe-d m ϴe)(i:∀z∈Ā (n-(m+1)) λk=>ϳL ϴe-d m ϴe,v<=z):LI n d last m (l.ß m v):=by
 let(a,b,c):=h;let s:=VF (v:=v) (ê<|m<l.À);show(ϔb K8z,?_,λk o K=>?_)
 .rw[s,P3 Á]
  show b
 cases e:k=m
 .subst e
  show(λj J f=>?_,?_)
  .rw[s,s,Ĝ,P3 Á]
   show i _ ?_;rw[XV];show(j-(k+1),϶u Á,ϰT (ê (k+1+(j-(k+1))=j)))
  rw[XV]at H;let(q,Q,e):=H;rw[K9G]at Q;show(k+1+q,Á,Á,?_);rw[s,s,Ĝ,P3 Á];show e.Ï
 let(c1,j,L,C,g):=c k Á K;show(λj J f=>?_,j,L,C,?_)
 .rw[s,s,ϲt,P3 Á]
  show c1 j J f
 rw[s,s,ϲt,P3 Á];show g
def IB(O:À Ol)(Ds last:Int)(R:ϸV):∃s:À Int,ϓN ϳw last 0 s/\dU [Ï ϳH,Ä Ds,Ä last]=ģ (aG s):=by
 erw[dU,jN];let(j,N,b):=R;let o:cX (Ï [Ä last]) (Ä (Ì O.À))=ģ (aG<|ϳ3 O.À last):=by
  rw[xA _ _ Á];erw[aG];simp only[Zbk]
 let r:=λ(ρ:L3.Env)(h:(F4 cO (aa 3)<|eC<|.int 2) ρ=.ok (.sh<|.int<|(O.À:Int)-2))=>Pb (fa:=ñ cO 3<|Ç 2) (fb:=ġ<|Ç 1) (fc:=ġ<|Ç 1) (ρ:=ρ) (x:=Ì O.À-2) (y:=-1) (z:=-1) h rfl rfl rfl (Ŕ Á) (Ŕ Ý);simp![sG,o];rw[r _ rfl];simp![S5];generalize L:Ŗ=r';let T:ϓN ϳw last (ĺ-0) (ϳ3 O.À last):=by
  show(Û,?_,λk h a=>Á);erw[gv];rw[K8Z,Os Á];rfl
 show ϳ2 (ϺK<|∃(s:À Int)(v v6 V:Ü OD),ϓN ϳw last (ĺ-i) s/\ρ=[â ϳH,some<|Ñ Ds,Ĕ<|Ä last,some<|Ñ O.À,Ň<|aG s,v,v6,V]) ⟨ϳ3 O.À last,_,_,_,T,rfl⟩
 .rintro i d ρ hd ⟨s,v,v6,V,hli,rfl⟩
  let S:=hli.1;let(hi,rfl):=uY hd;obtain⟨m,f⟩:∃m:Nat,Ì O.À-2-ÿ=ϴ0:=⟨ĩ (Ì O.À-2-ÿ),Á⟩
  let M:m+1<O.À:=Á
  rw[f];obtain⟨os,h⟩:∃p,O[m]?=ϲn:=⟨O[m]' Á,Û⟩
  let g1:=rD h;let em:ϴ0+1=ä (m+1):=Á
  let t:Κ ((ä (m+1))):=Ŕ Á;let s4:Κ ((Ì O.À)):=Ŕ Á;simp![g1,em,t,s4,K7m,aW];generalize w:Į=rc;let c:ĩ (Ì O.À-ä (m+1))=ϑQ:=Á
  let e:=aS w (ϳj<|ä (m+1)+ë) (λk=>Ñ<|ϱz ϴe-ϳw m ϴe) (ϱR ϑQ) (by rw[c];rfl) (Ô Z7<|K94<|aF Á) (by
   ext k K;rw[K9G]at K;let E:ä (m+1)+ë=ä ϴe:=Á
   rw[E];obtain⟨z,Z⟩:∃z,s[ϴe]?=Â z:=⟨s[ϴe]' Á,Û⟩
   obtain⟨P,a⟩:∃p,O[ϴe]?=ϲn:=⟨O[ϴe]' Á,Û⟩
   let(l,g):=AI os P Ds (j os ϶w).1 (j P<|K9L a).1 (Ĳ (j os ϶w).2);let g1:=int_at Z;let g3:=rD a;let q:ϱz ϴe=z:=by erw[gv];rw[Z];rfl
   let Q:ϳw m ϴe=ϲS os P:=by erw[dO];rw[h,a];rfl
   rw[q,Q];simp![g1,g3,g])
  subst e;rw[zD];let(u,n,H,hle):=LW (xs:=Ā ϑQ λk=>ϱz ϴe-ϳw m ϴe) (by
   ext z;let:=Ż z;simp at this
   lia)
  let I:ixN (Ã (aG s)) ϴ0=some m:=cW (Ă d7);let nx:=Po (Ô (ê (m+1=ĺ-i)) hli) M H hle;rw[ê (m=ĺ-(i+1))]at nx;simp![AK,aW,n,yS I,DK];rw[ê (m=ĺ-(i+1))];show(_,_,_,_,nx,rfl)
 ext ρ' rfl ⟨s,v,v6,V,hli,rfl⟩;simp![S5];show(s,?_,rfl);let:ĺ-Ã (yz (Ì O.À-2) (ĩ (Ì O.À-2 - -1)))=0:=by
  erw[yz];rw[K0,Z7];lia
 rw[this]at hli;show hli
def D_{ls:À Int}{k:Nat}(h:k<ls.À):ϫ ls=Â (ϭp k):=Ϗ gv ϱi
def HQ{ls:À Int}{n:Nat}(h:ls.À=n)(N:0<n):Ϲ2 (ls.Ç int)=some (Ä<|ϭp<|n-1):=by
 let H:ϵa ls:=ϖ1
 let e:ϭp (n-1)=ls.getLast H:=by
  let a:=D_ (ls:=ls) (k:=n-1) Á;rw[List.getLast_eq_getElem];rw[Nu Á]at a;let b:=ϦO;rw[<-b];congr 1;lia
 rw[e]
 conv=>lhs;rw[<-Zds H,K9i]
 show Ae _ _
def QU(O:À Ol)(Ds:Int)(R:ϸV):∃s l:À Int,ϻ6 s.À/\Ϸn O.À/\IsE O.À ϳw ϱz/\IsL O.À ϳw (ϱz ĺ) ϳL/\lC [Ï ϳH,Ä Ds]=þ (Ą [Ï Ϩs,Ï ϲJ]):=by
 let H:=ϺD;let le:ϻ6 (Ã (ϭ ĺ)):=Ă oo
 let Z:=HQ le Á;let(l,a,e):=IB O Ds (gv (ϭ ĺ) ĺ) R;show(_,l,le,a.1,Kq Ds O O.À Á,(a.2.1,϶U (a.2.2 k ϰS h)),?_);erw[lC,uq];simp![Ek O Ds R,aW,Z,e]
def iO:Fs:=(ao (Ų ϊ)
 (ao (bZ (iR1<|ϻJ<|ĝ (ϰr bY 0 (ħ<|È 0 ai) 1 [])) Ϧw (ao (ϰk<|Rs<|aP (iEn Ľ) (ϡ<|Œ 0 1 bB) (aD<|ñ gLt 2<|ħ<|È 1 ai) Ľ 2 [3])
 (ao (ϱn<|ϥB<|ae (ϰr bY 4 (ŗ (Ù 1 Ľ)<|ū (ū (Ù 2 Ľ) Š)<|Ç 0) 1 [1,0,3]) ai)
 (ao (ϱ4<|ϻJ<|ae (ϰr bY 4 (ŗ (Ù 1 Ľ)<|ū (ū (Ù 2 Ľ) Š)<|Ç 1) 1 [1,0,3]) ai)
 (ϨZ<|d_<|È 5<|È 6 ai)))))
 Ϥr))
def cC:Fn:=ε 7 iO
def kG:Fs:=(ao (Ų<|Rs<|aj lC<|È 0<|È 1 ai)
 (ao (Ε<|ϥ7 (ū (Ù 2<|Ç 0)<|ġ<|Ç 1)<|Ç 2)
 (bF<|ϺI (Ù 2<|Ç 0) (Ù 2<|Ç 1) (ϡ<|Œ 0 1 bB) aT (ϳA (ϥ7 (ñ a_ 0 Ŋ)<|Ç 2) ό) 2 [3])))
def bw:Fn:=ε 4 kG
def wu:Fs:=(ao (Ų<|Ϧ6 (Ç 0)<|ħ<|È 0 ai)
 (ao (Ε<|ϴs (ϻK<|È 0 ai) ϰa aT (bO<|ae (Rs<|d_<|ae (ϰz (ġ<|Ç 256) Ľ)<|ĝ (ϰz (Ç 256) Ľ)) ai) 1 [])
 (ao (bZ (iR3 (ϳA (ħ<|È 0 ai)<|Ç 1) (ġ<|Ç 1)<|ġ<|Ç 1) ϩQ (ao (ϱn<|Rs<|ϸc<|È 0<|È 4 ai)
 (sIf (aD<|ϵB (ħ<|È 5 ai)<|Ç 0) (ao (Al 3 5<|ϱ4<|Rs<|Gd 3 5)
 (ao (ϳ7<|Rs<|aj bw<|È 6<|È 1 ai)
 (ao (bZ (iZp ς ϦL) (ϡ<|Œ 8 9 bB)<|ϯe 2 Ϫi)
 (t_ 3 ş<|ϓ9<|È 6<|È 7 ai)))) sNx)))
 (ύP<|ϬK<|bF<|d_<|È 2<|È 3 ai))))
def nR:Fn:=ε 10 wu
def eT:À Int->Int|[]=>0|a::as=>Ca a as
def rE{xs:À Int}(h:ϩz):mN [Ï ϓi]=.ok (Ñ<|eT xs):=by
 cases xs with|nil=>show Ϡ h|cons a as=>show L8 a as
def dS{xs:À Int}(h:ϩz):eT xs∈xs/\∀z∈xs,eT xs<=z:=by
 cases xs with|nil=>show Ϡ h|cons a as=>show vL as a
def oA(O:À Ol)(j l:Nat):ϰi:=Ó (ϴF[l]?) (0,0)
def l7(O:À Ol)(j:Nat):Nat:=(Ã ϴF)
def there(O:À Ol)(l:Nat):Ò:=Α Ϫ6 λj=>Õ<|l<Ϻn
def jl(O:À Ol)(T:À Int)(l:Nat):ϰi:=(eT<|Ê (ϲQ l) λj=>gv T j+(϶S j l).1,jE<|Ê (ϲQ l) λj=>gv T j+(϶S j l).2)
def mxN(O:À Ol):Nat:=(jE<|O.Ç λo=>(Ì o.À)).toNat
def jo(O:À Ol)(T:À Int):Ol:=Ā ϴn<|jl O T
def rB(os:Ol):Ã Ϻh=os.À:=by erw[gz];rw[K0]
def uD{O:À Ol}(h:O≠[]):jE (O.Ç λo=>(Ì o.À))=Ì ϴn/\(∃j,ϨA/\Ϻn=ϴn)/\Θ O.À (Ϻn<=ϴn):=by
 let(S,w):=c_ (xs:=O.Ç λo=>(Ì o.À)) λz=>h ϶V;let(o,H,E):=XV.mp S;let e:jE (O.Ç λo=>(Ì o.À))=Ì ϴn:=by erw[mxN];rw[<-E];rfl
 show(e,?_,ϳp)
 .let(j,J,a):=Zal H
  show(j,J,?_);erw[l7];rw[϶Q,a];change o.À=_;let:Ì o.À=Ì ϴn:=by rw[<-e];show E
  lia
 let:=w (Ϻn:Int)<|ϲp ⟨O[j],Zah J,Ϗ l7 ϶Q⟩;rw[e]at this;lia
def n6{O:À Ol}{l:Nat}(h:O≠[])(a:l<ϴn):ϲQ l≠[]:=by
 obtain⟨_,⟨j,J,E⟩,_⟩:=uD h;ext z;let:j∈ϲQ l:=ϳz ⟨ϨH,Z8 Á⟩;rw[z]at this;cases this
def JZ(O:À Ol):fC ϳH=Ā O.À (ϤO (ϱ0 [Ä Ĵ,Ï<|gz ϴF])):=by
 apply K9K;ext i;rw[N2];cases hi:i<O.À
 .rw[ϴj]
  erw[fC,cK];rw[N2,K8S,N2,ϰD];simp[Nu hi]
 rw[ϘZ cK,K9c<|Ă Z7];rfl
def C7(O:À Ol){j:Nat}(h:ϨA):Ť ϳH Ĵ=some (Ï<|gz ϴF):=Ô ϱi (rD ϱi)
def Hf(os:Ol){l:Nat}(h:l<os.À):Ť Ϻh (l:Int)=Â (Ą [Ä (Ó (os[l]?) (0,0)).1,Ä (Ó (os[l]?) (0,0)).2]):=Ô ϱi (Ka ϱi)
def Bw{st:À Int}{j:Nat}(h:j<st.À):Ť Ϩb Ĵ=Â (Ä<|ϴo j):=int_at<|D_ h
def aae(L:Ò):ß L.Ç ((ϰU (Đ<|Ä ë))) OD.er=aO L:=by erw[aO];rw[S1];show Ϥ2
def Il(os:Ol)(p:ϰi):Ê Ϻh OD.sh++[Đ<|Ą [Ä p.1,Ä p.2]]=(gz<|os++[p]).map OD.sh:=by erw[gz];rw[K9i,K9i];rfl
def Jm(O:À Ol)(st:À Int)(R:ϸV)(s:ϻ6 st.À):cC [Ï ϳH,Ï Ϩb]=.ok (Ę<|gz<|jo O st):=by
 erw[cC,iO];let(H,N,k):=R;let n:O≠[]:=λz=>by rw[z]at N;simp at N
 let(x,X,p):=uD n;let q:ϴn<=100:=by
  let(j,J,E):=X;let:=(H O[j]<|Zah J).2;erw[l7]at E;rw[϶Q]at E;let f:Ã (O[j])=ϴn:=E;lia
 simp![S5];generalize w:Į=rc;let e:=϶R (λo:Ol=>Ï<|gz o) (λo:Ol=>Ñ<|(Ì o.À)) O rfl (K94<|aF Á) (by ext o H;simp![rB]);subst e;let g:ß O.Ç (λo:Ol=>Đ<|Ä (Ì o.À)) OD.er=ß O.Ç (λo:Ol=>(Ì o.À)) int:=Ζ S1 S1 (K8u λo _=>ϰn)
 let hg:=zW (xs:=O.Ç λo:Ol=>(Ì o.À)) λz=>n ϶V;rw[x]at hg;let S:Κ (ϴn:Int):=Ŕ Á;simp![g,hg,S];generalize L:Ŗ=r';show ϳ2 (λi c=>∃C v V v6:Ü OD,c=[â ϳH,â Ϩb,some<|Ę<|gz<|Ê Ϥb ϥM,C,v,V,v6]) ϑm
 .rintro i d c hd ⟨C,v,V,v6,rfl⟩
  let(hi,rfl):=϶M;rw[K9n]at hi;rw[K8R];let T:=n6 n hi;let t:∀j∈ϲQ i,ϨA/\i<Ϻn:=λj J=>ϩD (K89.mp J) (Ϸz Ϻm,ϷR Ϥw)
  let tl:ϲx (Ã (ϲQ i)):=by
   let:=K8i (λj=>Õ<|i<Ϻn) Ϫ6;rw[Z7]at this;erw[there];lia
  simp![S5];generalize w:Į=rc
  let e:=iS w (ϤO<|ϱ0 [Ä Ĵ,Ï<|gz ϴF]) (λj=>Õ<|i<Ϻn) (ϤO<|Ñ Ĵ) Ϫ6 (JZ O) (Ô Z7<|K94<|aF Á) (by
   ext j J;let D:Õ (ÿ<Ì ((Ã ϴF)))=Õ (i<Ϻn):=by
    erw[l7];cases h:i<Ã ϴF
    .rw[Z8 h,Z8 Á]
    rw[ϷD,K9q Á]
   show(?_,Ţ ?_)
   .simp![rB,D]
   simp![S5])
  subst e;clear w;let G:(Α Ϫ6 λj=>Õ<|i<Ϻn)=ϲQ i:=rfl;rw[G];simp![aae];generalize w:Į=rc
  let e:=aS w (ϤO<|int Ĵ) (λj=>Ñ<|ϴo j+(϶S j i).1) (ϲQ i) rfl (K94<|aF Á) (by
   ext j J;let(a,b):=t j J;let g1:=Bw (st:=st) (j:=j) Á
   let g2:=C7 O a;let g3:=Hf ϴF (l:=i) b;simp![g1,g2,g3];rfl)
  subst e;clear w;let m:=rE (xs:=Ê (ϲQ i) λj=>ϴo j+(϶S j i).1) λz=>T ϶V;let M:=zW (xs:=Ê (ϲQ i) λj=>ϴo j+(϶S j i).2) λz=>T ϶V;rw[zD];simp![aW,m];generalize w:Į=rc
  let e:=aS w (ϤO<|int Ĵ) (λj=>Ñ<|ϴo j+(϶S j i).2) (ϲQ i) rfl (K94<|aF Á) (by
   ext j J;let(a,b):=t j J;let g1:=Bw (st:=st) (j:=j) Á
   let g2:=C7 O a;let g3:=Hf ϴF (l:=i) b;simp![g1,g2,g3];rfl)
  subst e;clear w;rw[zD];let B:ϱK (Ã (gz<|Ê Ϥb ϥM)):=ϩK rB K0 Z7 (c8 Á)
  simp![aW,M,B];let sn:=Il (Ê Ϥb ϥM)<|ϥM i;rw[show Ê Ϥb ϥM++[ϥM i]=Ā (i+1) ϥM by rw[K8A,K9i];rfl]at sn;rw[<-sn];show(_,_,_,_,rfl)
 ext ρ' rfl ⟨C,v,V,v6,rfl⟩;rw[gF,K9n];simp![S5];rfl
def Fp(O:À Ol)(T:À Int):Ã (jo O T)=ϴn:=χ jo K0 Z7
def FX{e l:À Int}{n:Nat}(he:e.À=n)(a:l.À=n):gq (e.Ç int) ϲJ=Ê ϲl λk=>ϱ0 [Ä<|gv e k,Ä<|ϳL k]:=by
 apply K9K;ext i;erw[gq];rw[N2,N2];cases hi:i<n
 .rw[ϴj,(Zan (z:=(int<|gv e i,int<|ϳL i))).mpr ⟨ϰ7 N2 (D_ Á),ϰ7 N2 (D_ Á)⟩]
  rfl
 rw[K9c ϳc,K9c ϳc];rfl
structure IsSt(Ds:Int)(O:À Ol)(es ls st:À Int):Prop where
 le:ϻ6 es.À
 ll:ϻ6 ls.À
 lst:ϻ6 st.À
 isE:IsE O.À ϳw (gv es)
 isL:IsL O.À ϳw (gv es ĺ) ϭp
 eq:∀k,϶9->ϴo k=(gv es k+ϭp k) / 2-gv es ĺ / 2
def IV(O:À Ol)(Ds:Int)(R:ϸV):∃s l T:À Int,ύD s l T/\bw [Ï ϳH,Ä Ds]=ģ (aG T):=by
 let(s,l,h,H,f,c,g):=QU O Ds R;let n:=ϺD;show(s,l,Ā O.À λk=>(ϱz k+ϳL k) / 2-ϱz ĺ / 2,(h,H,Û,f,c,λk K=>ϰY gv N2 (K9Z K)),?_);erw[bw,kG];let a:=HQ h Á;let b:=R.2.2;simp![g,aW,a,FX h H];generalize w:Į=rc;let e:=϶R (ϰU<|ϱ0 [Ä<|ϱz k,Ä<|ϳL k]) (λk=>Ñ<|(ϱz k+ϳL k) / 2-ϱz ĺ / 2) Ϫ6 rfl (Ô Z7<|K94<|aF Á) (by ext k K;simp![S5]);subst e;rw[zD];simp![S5]
open Classical in
def stF(Ds:Int)(O:À Ol):À Int:=ϩl (∃T:À Int,bw [Ï ϳH,Ä Ds]=ģ (aG T)) ϬI []
def LK{a b:À Int}(h:Ϻe aG):a=b:=by
 let:=Ϲq OD.er h;rw[aW,aW]at this;let inj:∀x y:À Int,ϔy=y.Ç int->x=y:=by
  ext x
  induction x with
  |nil=>ext y Y;cases y with|nil=>rfl|cons b y=>simp at Y
  |cons a x ih=>
   ext y Y;cases y with
   |nil=>simp at Y
   |cons b y=>
    simp at Y;rw[Y.1,ih y<|ť Y.2]
 show inj a b this
def p8{O:À Ol}{Ds:Int}(o:ϸV):(∃e l,ύD e l<|Ŭ O)/\bw [Ï ϳH,Ä Ds]=ģ (aG<|Ŭ O):=by
 let(e,l,T,h,H):=IV O Ds o;let hex:∃T:À Int,bw [Ï ϳH,Ä Ds]=ģ (aG T):=⟨T,H⟩;let S:bw [Ï ϳH,Ä Ds]=ģ (aG<|Ŭ O):=by erw[stF];rw[dif_pos hex];show Zab hex
 let:Ŭ O=T:=by rw[H]at S;show(LK<|OD.ol.inj<|R.ok.inj S).symm
 show((e,l,Ϲu this),S)
def ini(ts:À Nd)(k:Nat):Ol:=(ϐl (Ļ k))
def nQ(out:À Ol)(k:Nat):Ol:=Ó (ϫ out) []
def bC(ts:À Nd)(out:À Ol)(k:Nat):À Ol:=Ê (Å k)<|nQ out
def joB(ts:À Nd)(Ds:Int)(out:À Ol)(k:Nat):Ol:=jo (ϰB out k)<|Ŭ<|ϰB out k
def Ey(ts:À Nd)(Ds:Int)(k:Nat)(out:À Ol):À Ol:=Ë (Å k=[]) out (όA (nQ out k++joB ts Ds out k))
def dH:À Int->Ò->À Int->À Int|o,c::cs,s::ss=>Ϙ8|o,_,_=>o
def dH'{o c cs s ss}:dH o (c::cs) (s::ss)=Ϙ8:=rfl
def D3(ts:À Nd)(Ds:Int)(k:Nat)(out:À Ol)(off:À Int):À Int:=if Å k=[]then off else dH off (Å k) (Ŭ<|ϰB out k)
def PO(ts:À Nd)(Ds:Int):Nat->À Ol×À Int|0=>(Ā ts.À ϱ5,ϸ4 0)|m+1=>(Ey ts Ds (ĵ-m) (ö m).1,D3 ts Ds (ĵ-m) (ö m).1 (ö m).2)
def PO'{ts Ds m}:ö (m+1)=(Ey ts Ds (ĵ-m) (ö m).1,D3 ts Ds (ĵ-m) (ö m).1 (ö m).2):=rfl
theorem wD:∀(o:À Int)(C:Ò)(ss:À Int)(c:Nat)(s:Int),ϚL->dH o (C++[c]) (ss++[s])=Ϫ όP c s
 |o,[],[],c,s,_=>rfl
 |o,[],s'::ss,c,s,h=>ϫr
 |o,c'::C,[],c,s,h=>ϫr
 |o,c'::C,s'::ss,c,s,h=>by rw[K92,K92,dH',dH',wD _ C ss c s ϱZ]
theorem uc:∀(o:À Int)(C:Ò)(ss:À Int),Ã όP=o.À
 |o,[],ss=>ϖ2
 |o,c::C,[]=>ϖP
 |o,c::C,s::ss=>by rw[dH',uc _ C ss,K8z]
theorem pC:∀(o:À Int)(C:Ò)(ss:À Int)(x:Nat),x∉C->gv όP x=gv o x
 |o,[],ss,x,_=>ϖ2
 |o,c::C,[],x,_=>ϖP
 |o,c::C,s::ss,x,h=>by
  rw[dH',pC _ C ss x λz=>h<|ě z];erw[gv];rw[K9E λz=>h<|Ô z K9z]
theorem AJ:∀(o:À Int)(C:Ò)(ss:À Int)(i:Nat)(x:Nat),C.Í->(∀c∈C,c<o.À)->ϚL->C[i]?=Ď->gv όP x=gv ss i:=by
 ext o C;induction C generalizing o with
 |nil=>ext _ _ _ _ _ _ h;simp at h
 |cons c C ih=>
  ext ss i x nd hb hl h;cases ss with
  |nil=>simp at hl
  |cons s ss=>
   let(N,n):=ϨO;rw[dH'];cases i with
   |zero=>
    let X:c=x:=ϱZ
    subst X;rw[pC _ C ss c N];erw[gv];rw[K9I<|hb c K9z];rfl
   |succ i=>
    rw[ϲ2 ss i x n (λd H=>Ô K8z (hb d<|ě H)) (ť hl) ϱZ];rfl
def bh{ts:À Nd}{k j:Nat}:j∈Å k↔ϰf/\Ĩ j=ë:=by erw[F5];rw[K89,K9G,K9k]
def cL{ts:À Nd}(he:ĕ){k j:Nat}(h:j∈Å k):k<j/\ϰf:=by
 let(H,a):=bh.mp h;obtain⟨n,N⟩:ϰ5 (ę ts):=⟨ts[j],ϫ6⟩
 let:=(he j n N).2.2;rw[bL N]at a;show(Á,H)
def Mv(ts:À Nd)(k:Nat):(Å k).Nodup:=List.Pairwise.imp (λh=>K9O h) (show Ϥd (Å k) ϩA by erw[F5];show ύE)
def RS(ts:À Nd)(k:Nat):Ϥd (Å k) ϩA:=ϵp F5 ύE
def NL(ts:À Nd)(k:Nat):ϱ1 (Ã (Å k)):=by
 erw[F5];let:=K8i (λj=>Õ<|Ĩ j=ë) ϳS;rw[Z7]at this;show this
def Dl{out:À Ol}{k j:Nat}{o:Ol}(h:k≠j):nQ (όA o) j=nQ out j:=ű nQ (K9E h)
def IS{out:À Ol}{k:Nat}{o:Ol}(h:k<out.À):nQ (όA o) k=o:=Ϗ nQ (K9I h)
def Ik{ts:À Nd}(he:ĕ){out:À Ol}{k q:Nat}{o:Ol}(h:k<=q):ϰB (όA o) q=ϰB out q:=ϵp bC (K8u λj J=>Dl (Ĳ (ϋ J).1))
structure PI(ts:À Nd)(Ds:Int)(m:Nat):Prop where
 l1:İ (Ã (ö m).1)
 l2:İ (Ã (ö m).2)
 lo:∀k,k<ϥn->Ϻy (ö m)=ϱ5 k
 hi:∀k,ϥn<=k->Ć->Ϻy (ö m)=ϱ5 k++(Ë (Å k=[]) []<|ϻF (ö m) k)
 ln:∀k,Ć->Ś 1 (Ã (Ϻy<|ö m)) ϫC
 of:∀k,ϥn<=k->Ć->∀i j,á (Å k)=ϱ7->gv (ö m).2 j=gv (Ŭ<|ϰB (ö m).1 k) i
 z:gv (ö m).2 0=0
def zh{ts:À Nd}{Ds:Int}{m k:Nat}(he:ĕ)(a:é)(h:ϔz)(H:Å k≠[]):okO (ϰB (ö m).1 k):=by
 show(λos o=>?_,?_,?_)
 .unfold bC at o
  let(j,J,rfl):=XV.mp o;let:=h.ln j (ϋ J).2;lia
 .unfold bC
  rw[K0];show List.length_pos_iff.mpr H
 erw[bC];rw[K0];let:=NL ts k;lia
def Hv{ts:À Nd}{Ds:Int}{m k:Nat}(he:ĕ)(h:ϔz)(H:Å k≠[]):Ã (ϻF (ö m) k)<=ϲN (k+1):=by
 erw[joB];rw[Fp];let n:ϰB (ö m).1 k≠[]:=by erw[bC];simp[H]
 obtain⟨_,⟨j,J,E⟩,_⟩:=uD n;rw[<-E];erw[l7,bC];erw[bC]at J;rw[K0]at J;rw[N2,϶Q];change Ã (nQ _ (Å k)[j])<=_;let g:=ϋ<|Zah J;let:=(h.ln _ g.2).2;lia
def AW{ts:À Nd}(Ds:Int)(he:ĕ)(p:Č 0)(L:é):∀m,m<=ts.À->ϔz:=by
 induction _ with
 |zero=>
  ext _;let o:∀k,Ć->Ϻy (ö 0)=ϱ5 k:=϶U (by erw[PO,nQ];rw[N2,ϴ6];rfl)
  show(ϧ9 PO,ϧ9 PO,϶U (o k Á),λk e H=>Á,϶U ?_,λk e H=>Á,?_)
  .rw[o k h]
   erw[ini];simp;lia
  erw[PO,gv];rw[K8Z,Os p];rfl
 |succ m N3=>
  ext M;let I:=N3 Á;obtain⟨K,d⟩:∃K,K=ĵ-m:=ζ;let l:Č K:=Á
  cases C:Å K=[]
  .let e1:(ö<|m+1).1=(ö m).1:=ϯH Ey Os
   let g:(ö<|m+1).2=(ö m).2:=ϯH D3 Os
   show(Ô e1 I.l1,Ô g I.l2,϶U (Ô e1 (I.lo k Á)),λk e H=>?_,϶U (Ô e1 (I.ln k h)),λk e H i j J=>?_,Ô g I.z)
   .rw[e1]
    cases h:k=K
    .subst h
     rw[I.lo k Á,Os C,K9d]
    show I.hi k Á H
   rw[e1,g];cases h:k=K
   .subst h
    rw[C]at J;simp at J
   show I.of k Á H i j J
  let e1:(ö<|m+1).1=Ϫ (ö m).1 K (nQ (ö m).1 K++ϻF (ö m) K):=ϯH Ey P3
  let g:(ö<|m+1).2=dH (ö m).2 (Å K) (Ŭ<|ϰB (ö m).1 K):=ϯH D3 P3
  let bl:∀q,K<=q->ϰB (ö<|m+1).1 q=ϰB (ö m).1 q:=λq Q=>Ô e1 (Ik he Q)
  let B:∀q,K<=q->ϻF (ö<|m+1) q=ϻF (ö m) q:=λq Q=>ű joB (bl q Q)
  let self:nQ (ö<|m+1).1 K=ϱ5 K++ϻF (ö m) K:=by rw[e1,IS (Ϩa I.l1),I.lo K Á]
  let t:∀k,k≠K->Ϻy (ö<|m+1)=Ϻy (ö m):=϶U (Ĥ e1 (Dl Ϧj))
  obtain⟨⟨E,r,S⟩,_⟩:=ϻj<|zh he L I C;let s:Ã (Å K)=Ã (Ŭ<|ϰB (ö m).1 K):=by rw[S.lst];erw[bC];rw[K0]
  show(Ζ e1 K8z I.l1,Ζ g uc I.l2,϶U (Ô (t k Á) (I.lo k Á)),λk e H=>?_,϶U ?_,λk e H i j J=>?_,?_)
  .by_cases h:k=K
   .subst h
    rw[self,P3 C,B k ì]
   rw[t k h,B k Á];show I.hi k Á H
  .by_cases f:k=K
   .subst f
    rw[self,K9v];let:=Hv (Ds:=Ds) he I C;let:Ã (ϱ5 k)=1:=rfl;lia
   rw[t k f];show I.ln k h
  .by_cases h:k=K
   .subst h
    rw[g,bl k ì];show AJ _ _ _ i j (Mv ts k) (λc n=>Ô I.l2 (ϋ n).2) s J
   rw[g,bl k Á,pC _ _ _ j ϩg]
   .show I.of k Á H i j J
   let a:=(bh.mp<|K9L J).2;let b:=(bh.mp z).2;rw[a]at b;lia
  rw[g,pC _ _ _ 0 λz=>Ĳ (ϋ z).1];show I.z
def vo{ch:Ò}{j:Nat}:Cq (nD ch) j=true↔j∈ch:=by
 erw[Cq,nD,iL];rw[Zdr];constructor
 .rintro⟨d,hd,e⟩
  rw[S1]at hd;let(k,H,rfl):=ϤQ hd;let e':Õ (ë=Ĵ)=true:=e;let:=ϷR e';rw[ê (j=k)];show H
 ext h;show(Ä Ĵ,Ô S1 (ϲp ⟨j,h,rfl⟩),Ϥx)
def PX{ch:Ò}{X:À OD}:∀C:Ò,(∀j∈C,j∈ch/\όZ)->Ϯe (nD C)=some (C.Ç λj=>Ó (X[j]?.map OD.er) ò):=by
 induction _ with
 |nil=>ext _;show rfl
 |cons j r N3=>
  ext h;let i:=N3 λk K=>h k<|ě K;let(a,H):=h j K9z;change Ϯe (Ä Ĵ::nD r)=_;erw[oz];let I:ixN (Ã (ϹX ch X)) Ĵ=ϱ7:=cW (Ϩe zL);let gt:ę (ϹX ch X)=Â (.sh (X[j]).er):=by
   rw[rH,Nu H];change Â (Ë (ύ7 ch (0+j)) (Đ (X[j]).er)<|X[j])=_;rw[K87,Os<|vo.ó a]
  rw[I];change(match ę (ϹX ch X) with|some (.sh d)=>(Ϯe<|nD r).map λs=>d::s|_=>none)=_;rw[gt];change(Ϯe<|nD r).map (λs=>(X[j]).er::s)=_;rw[i,K9w,Nu H];rfl
def pcs(q:Fs):Fs:=(ao (Ų<|Ϧ6 (Ç 0)<|ħ<|È 0 ai)
 (ao (Ε<|ϴs (ϻK<|È 0 ai) ϰa aT (bO<|ae (Rs<|d_<|ae (ϰz (ġ<|Ç 256) Ľ)<|ĝ (ϰz (Ç 256) Ľ)) ai) 1 [])
 (ao (bZ (iR3 (ϳA (ħ<|È 0 ai)<|Ç 1) (ġ<|Ç 1)<|ġ<|Ç 1) ϩQ (ao (ϱn<|Rs<|ϸc<|È 0<|È 4 ai)
 (sIf (aD<|ϵB (ħ<|È 5 ai)<|Ç 0) (ao (Al 3 5<|ϱ4<|Rs<|Gd 3 5)
 (ao (ϳ7<|Rs<|aj bw<|È 6<|È 1 ai)
 (ao (bZ (iZp ς ϦL) (ϡ<|Œ 8 9 bB)<|ϯe 2 Ϫi)
 (t_ 3 ş<|ϓ9<|È 6<|È 7 ai)))) sNx)))
 q)))
def C3(ts:À Nd)(Ds:Int)(he:ĕ)(P:Č 0)(u:é)(L:ϵe):
  ∃(xs:À OD)(ys:À Gc)(v o v6 p V f:Ü OD),(∀q:Fs,pcs q [â è,some<|Ñ Ds,none,none,none,none,none,none,none,none]=q [â è,some<|Ñ Ds,Ň<|aG (ö ts.À).2,Â ϱp,v,o,v6,p,V,f])/\ϯR=cK (ö ts.À).1/\xs[0]?=Â (.ol ϒk):=by
 erw[pcs];let rp:=xA (Ä 0) ts.À Á;let ri:ώM (ϸ4 Ϻq) (ϸ4 0):=Ϙa
 let rs:(ß ay ts λz=>Đ<|Ä z).map OD.er=ß ay ts int:=Ô S1 (K8u λz _=>ϰn)
 let R:İ (Ã ϸS):=ű ay K0
 simp![aH,rp,ri,jR ts L u,rs];generalize Q:Į=rc;let e:=aS Q int (λz:Int=>.ol [.sh<|Ą [Ä<|-256*z,Ä<|256*z]]) ϸS rfl (by rw[R];show K94<|aF Á) (by ext z hz;simp![S5]);subst e;clear Q;obtain⟨X,b⟩:∃X,X=ß ay ts λz:Int=>ϲw [.sh<|Ą [Ä<|-256*z,Ä<|256*z]]:=ζ
 let x0:∀k,Ć->ϫ X=Â (Ę<|gz<|ϱ5 k):=λk H=>by
  rw[b,N2,D_<|by rw[R];show H];rfl
 let M:ϳf=cK (ö 0).1:=by
  apply K9K;ext k;erw[cK,PO];rw[N2,S1,N2];cases H:k<ts.À
  .rw[x0 k H,K9Z H]
   change Â ((ϹS _))=Â _;rw[md,aI];rfl
  rw[K9c (by rw[b,K0,R];lia),K9c<|Ă Z7];rfl
 rw[<-b];let r3:=λ(ρ:L3.Env)(Z:(F4 cO (eB ba<|ae (aa 0) ai)<|eC<|.int 1) ρ=.ok (.sh<|.int<|(ts.À:Int)-1))=>Pb (fa:=ϳA (ħ<|È 0 ai)<|Ç 1) (fb:=ġ<|Ç 1) (fc:=ġ<|Ç 1) (ρ:=ρ) (x:=Ì ts.À-1) (y:=-1) (z:=-1) Z rfl rfl rfl (Ŕ Á) (Ŕ Ý);let r4:=r3 [â è,some<|Ñ Ds,Ň<|aG<|ϸ4 0,Â Ϧh,none,none,none,none,none,none] ϑR;simp![r4];generalize hL:Ŗ=r';apply aX hL (λm ρ=>∃(xs:À OD)(v o v6 p V f:Ü OD),ϯR=cK (ö m).1/\(∀k,k<ϥn->xs[k]?=Â (Ę<|gz<|ϱ5 k))/\(∃ys:À Gc,xs[0]?=Â (.ol ϒk))/\ρ=[â è,some<|Ñ Ds,Ň<|aG (ö m).2,Â ϱp,v,o,v6,p,V,f])
  ⟨X,_,_,_,_,_,_,M,ϲ1 (x0 k Á),⟨_,x0 0 P⟩,rfl⟩ ?_ ?_
 .rintro m d ρ hd ⟨xs,v,o,v6,p,V,f,xe,xo,⟨ys,xz⟩,rfl⟩
  let(hm,rfl):=uY hd;let hm2:m<ts.À:=Á
  obtain⟨k,H⟩:∃k:Nat,k=ĵ-m:=ζ;let K:Ć:=Á
  let W:Ì ts.À-1-ϴ0=ë:=Á
  rw[W];let I:=AW Ds he P u m Á;let O:=eA ts k K u;let N:İ xs.À:=by let:=Ż xe;rw[K0,sG,I.l1]at this;show this
  cases C:Å k=[]
  .let G:Ł (Õ (Ì 0<Ì ((Ã (nD<|Å k))))):=K9q (by rw[eF,C];decide)
   let e1:(ö<|m+1).1=(ö m).1:=ϯI Ey Os
   let E:(ö<|m+1).2=(ö m).2:=ϯI D3 Os
   simp![O,iP,G];rw[<-E];show(xs,_,_,_,_,_,_,Ô e1 xe,λq hq=>xo q Á,(ys,xz),rfl)
  let G:Õ (Ì 0<Ì ((Ã (nD<|Å k))))=true:=Z8 (by
   rw[eF];let:=ϏT
   lia)
  let e1:(ö<|m+1).1=Ϫ (ö m).1 k (Ϻy (ö m)++ϻF (ö m) k):=ϯI Ey P3
  let E:(ö<|m+1).2=dH (ö m).2 (Å k) (Ŭ<|ϰB (ö m).1 k):=ϯI D3 P3
  let B:=zh he u I C;obtain⟨⟨es,ls,S⟩,F⟩:=ϻj B;let T:=Jm (ϰB (ö m).1 k) (Ŭ<|ϰB (ö m).1 k) B S.lst;let bl:Ã (ϰB (ö m).1 k)=Ã (Å k):=ű bC K0
  let cl:=NL ts k;let gt:oz (ϹX (Å k) xs) (nD<|Å k)=Â (cK<|ϰB (ö m).1 k):=by
   rw[PX (Å k) λj J=>⟨J,by rw[N];show(ϋ J).2⟩];show Ϸm ?_;erw[bC,cK];rw[S1];show K8u ϳp;let A:=(ϋ J).2;let:=Uf (λl=>l[j]?) xe;simp only[N2]at this;let g:ę (ö m).1=Â ((ö m).1[j]'(by rw[I.l1];show A)):=ϴ8;rw[this];change Ó (ę<|cK (ö m).1) ò=ϴO (gz<|Ó (ę (ö m).1) []);erw[cK];rw[N2,g];rfl
  let jl:=Hv (Ds:=Ds) he I C;generalize t:Ŭ (ϰB (ö m).1 k)=st at S F T E;let U:Ã (Å k)=st.À:=Ĥ S.lst bl
  simp![O,iP,G];rw[Ue (xs:=xs) (ks:=nD<|Å k) rfl rfl];simp![S5];rw[Xi (i:=3) (c:=5) (xs:=ϹX (Å k) xs) (ks:=nD<|Å k) rfl rfl gt<|Ζ sG bl (K94<|aF Á)];simp![aI,F,aW];generalize w:Ŗ=r2;show aX w (ϺK<|∃V f:Ü OD,ρ=[â è,some<|Ñ Ds,Ň<|aG<|dH (ö m).2 (ł (Å k) i)<|st.Ö i,Ň<|ϹX (Å k) xs,Ĕ<|Ä k,â<|nD<|Å k,â<|cK<|ϰB (ö m).1 k,â Ϩb,V,f]) ⟨_,_,by rw[K7t,K7t,dH];ext _ _ _ _ h;cases h⟩ ?_ ?_
  .rintro i d ρ hd ⟨V,f,rfl⟩
   let(x,y,D,Y,rfl):=rA hd;erw[nD,iL]at D;rw[S1,N2]at D;let(j,J,rfl):=XL.mp D;rw[N2]at Y;let(s,hs,rfl):=XL.mp Y;let jg:=(ϋ<|K9L J).2;let ix:ϔV (dH (ö m).2 (ł (Å k) i)<|st.Ö i) Ĵ=ϱ7:=cW (ϩK d7 uc I.l2 jg);simp![Function.comp,yS ix,DK];rw[take_snoc J,ϬN hs,wD _ _ _ _ _<|by rw[K9f,K9f,U]];show(_,_,rfl)
  ext ρ' rfl ⟨V,f,rfl⟩;let zl:Ã (gq (nD<|Å k) Ϩb)=Ã (Å k):=by erw[gq];rw[K0,Zao,eF,K0,<-U,Nat.min_self]
  rw[zl,K90 ì,K90 Á,<-E];let xk:(ϹX (Å k) xs)[k]?=Â (Ę<|gz<|ϱ5 k):=by
   rw[rH,xo k Á];change Â (Ë (ύ7 (Å k) (0+k)) _ _)=_;rw[ϱh (Ĳ (ϋ<|vo.mp z).1)]
  let ex:=Pz (i:=3) (k:=ş) (a:=ϓ9<|È 6<|È 7 ai) (ρ:=[â è,some<|Ñ Ds,Ň<|aG (ö<|m+1).2,Ň<|ϹX (Å k) xs,Ĕ<|Ä k,â<|nD<|Å k,â<|cK<|ϰB (ö m).1 k,â Ϩb,V,f]) (xs:=ϹX (Å k) xs) (ys:=(gz<|ϱ5 k).map OD.sh) (zs:=(gz<|jo (ϰB (ö m).1 k) st).map OD.sh) (z:=k) (j:=k) rfl rfl (cW ϙL) xk (by simp![T]) (by
   rw[K0,K0,rB,rB];let jl2:Ã (jo (ϰB (ö m).1 k) st)<=ϲN (k+1):=by erw[joB]at jl;rw[t]at jl;show jl
   let:Ã (ϱ5 k)=1:=rfl;show K94<|aF Á)
  simp![S5];rw[ex];simp![S5];let jb:ϻF (ö m) k=jo (ϰB (ö m).1 k) st:=by erw[joB];rw[t]
  show(_,_,_,_,_,_,_,?_,λq hq=>?_,?_,rfl)
  .rw[Zby,Qn,xe,e1,I.lo k Á,jb,md]
   erw[cK,gz];rw[Zby,K9i,K9i,aI,aI]
  .rw[K9E Á,rH,xo q Á]
   change Â (Ë (ύ7 (Å k) (0+q)) _ _)=_;rw[ϱh (Ĳ (ϋ<|vo.mp z).1)]
  cases r:k=0
  .apply(gz (ϱ5 k)++gz (jo (ϰB (ö m).1 k) st),?_)
   rw[K9i,ύ (ϱB 0=k) r.Ï,K9I ϙL]
  show(ys,?_);rw[K9E r,rH,xz];change Â (Ë (ύ7 (Å k) (0+0)) _ _)=_;rw[ϱh (Ĳ (ϋ<|vo.mp z).1)]
 rintro ρ' rfl ⟨xs,v,o,v6,p,V,f,xe,xo,⟨ys,xz⟩,rfl⟩;rw[zG,ê (İ (ĩ (Ì ts.À-1 - -1)))]at xe⊢;show(xs,ys,v,o,v6,p,V,f,λq=>?_,xe,xz);simp![S5]
def JO(ts:À Nd)(Ds:Int)(he:ĕ)(a:Č 0)(h:é)(l:ϵe):
  nR [Ï è,Ä Ds]=þ (Ą [Ï<|Ê (ö ts.À).2 int,Ï<|cK (ö ts.À).1]):=by
 let(X,y,v,V,v6,b,c,f,q,xe,_):=C3 ts Ds he a h l;let e:wu=pcs (ύP<|ϬK<|bF<|d_<|È 2<|È 3 ai):=rfl;erw[nR];rw[e];simp![q,md,xe,aW]
def qG(ts:À Nd)(off:À Int):Nat->À Int|0=>[0]|i+1=>ϻA i++[gv (ϻA i) (Ĩ<|i+1).toNat+gv off (i+1)]
def qG'{ts off i}:ϻA (i+1)=(ϻA i++[gv (ϻA i) (Ĩ<|i+1).toNat+gv off (i+1)]):=rfl
def nS(ts:À Nd)(off:À Int):∀i,Ã (ϻA i)=i+1:=by
 induction _ with|zero=>show rfl|succ i N3=>rw[qG',K9v,N3];rfl
def zX(ts:À Nd)(off:À Int)(m j:Nat)(h:j<=m):∀c,gv (ϻA<|m+c) j=gv (ϻA m) j:=by
 induction _ with|zero=>show rfl|succ c N3=>rw[<-N3,<-Nat.add_assoc,qG'];erw[gv];rw[K9V<|Ă nS]
def TH(ts:À Nd)(Ds:Int)(k:Nat):Int:=gv (ö ts.À).2 k
def outF(ts:À Nd)(Ds:Int)(k:Nat):Ol:=Ϻy (ö ts.À)
def Cc(ts:À Nd)(Ds:Int):À Int:=ϤC (ö ts.À).2 ĵ
def pos(ts:À Nd)(Ds:Int)(k:Nat):Int:=gv ϨS k
def Gq(ts:À Nd)(Ds:Int):Int:=eT<|Ā ts.À λk=>ϰv k-256*Ļ k
def drw(ts:À Nd)(Ds:Int):À Int:=Ê ϨS λz=>z-Gq ts Ds
def zj{ts:À Nd}{Ds:Int}(a:Č 0):İ (Ã ϨS):=by erw[Cc];rw[nS];lia
def Oq{ts:À Nd}{Ds:Int}(a:Č 0):İ (Ã ϰ0):=χ drw K0 (zj a)
def p6{ts:À Nd}{Ds:Int}(a:Č 0){k:Nat}(h:Ć):gv ϰ0 k=ϰv k-Gq ts Ds:=by
 erw[drw,pos];erw[gv];rw[N2,Nu<|Ϲu (zj a)];rfl
def KD{ts:À Nd}{Ds:Int}:ϰv 0=0:=by erw[pos,Cc];let:=zX ts (ö ts.À).2 0 0 ì ĵ;rw[K87]at this;rw[this];rfl
def Kn{ts:À Nd}{Ds:Int}{k q:Nat}(he:ĕ)(c:0<k)(K:Ć)(H:Ĩ k=Ì q):ϰv k=ϰv q+TH ts Ds k:=by
 let Q:q<k:=by
  obtain⟨n,h⟩:ϰ5 ϸJ:=⟨ts[k],Ϯ K⟩
  let:=(he k n h).2.2;rw[ϴx]at H;lia
 obtain⟨m,rfl⟩:ϔw:=⟨k-1,Á⟩
 erw[pos,Cc,TH];let a:=zX ts (ö ts.À).2 (m+1) (m+1) ì<|ĵ-(m+1);let b:=zX ts (ö ts.À).2 m q Á<|ĵ-m;rw[ê (m+1+(ĵ-(m+1))=ĵ)]at a;rw[ê (m+(ĵ-m)=ĵ)]at b;rw[a,b,qG',H,K9n]
 conv=>lhs;erw[gv]
 rw[K9a (Ă nS),nS,K8c];rfl
def mP{ts:À Nd}(Ds:Int)(he:ĕ)(a:Č 0)(l:é){k:Nat}(h:Ć):
  í k=ϱ5 k++(Ë (Å k=[]) []<|jo (Ê (Å k) í) (Ŭ<|Ê (Å k) í)):=
 (Ϗa ì).hi k Á h
def Ql{ts:À Nd}(Ds:Int)(he:ĕ)(a:Č 0)(l:é){k i j:Nat}(h:Ć)(J:á (Å k)=ϱ7):
  TH ts Ds j=gv (Ŭ<|Ê (Å k) í) i:=
 (Ϗa ì).of k Á h i j J
def vy{ts:À Nd}(Ds:Int)(he:ĕ)(a:Č 0)(l:é){k:Nat}(h:Ć):Ś 1 (Ã (í k)) ϫC:=
 (Ϗa ì).ln k h
def oY{ts:À Nd}(Ds:Int)(he:ĕ)(h:Č 0)(a:é){k:Nat}(C:Å k≠[]):okO (Ê (Å k) í):=
 zh he a (ϛ3 ì) C
def fQ:Fs:=(ao (ϳ6 ϊ)
 (ao (Ų<|bO<|ĝ (Ç 0))
 (ao (dX (Gk<|aD<|ñ gNe 2 ϊ) (ao (IH 2 Ϧw)
 (ao (ϨW Š)
 (ϬK<|Ų<|ñ a_ 2<|aP (iR2 (ñ a_ 3<|Ç 1)<|ħ<|È 0 ai) ϰa (aD<|Ϲ1 (ū (Ù 1 Ľ)<|Ç 0) ό) Ľ 1 [0,3]))))
 Ϥq)))
def cy:Fn:=ϲ5 4 fQ
def oU:Fs:=(ao (Ų<|bO<|ae (d_<|ae (Ç 0)<|ae (ū (Ù 0<|Ç 0)<|Ç 1)<|ae (ū (Ù 0<|Ç 0)<|Ç 2) ai) ai)
 (ao (bZ (bY<|ϳb 0 (d8<|Ç 1) iN) (ϳ1<|ϳW 3<|Œ 4 5 bB)<|ϨZ<|Rs<|d_<|ae (ñ a_ 3 Ŋ)<|È 4<|È 5 ai)
 Ϥr))
def i6:Fn:=ε 6 oU
def gD:Fs:=(ao (ϳ6<|Rs<|aj cy<|È 0 ai)
 (ao (Ų ϊ)
 (ao (bZ (bY Ŋ) Ϧw (ao (K_ (Ù 0 Š)<|ϳ1<|ϳW 4<|Œ 5 6 bB)
 (ao (ϷK (ñ gGe 4<|Ç 0) (ϰk<|IJ Ŋ ş) sNx)
 (ϨZ<|d_<|È 4<|È 5<|È 6 ai))))
 Ϥr)))
def bU:Fn:=ϲ5 7 gD
def ij:Fs:=(ao (Ε ϊ)
 (ao (bZ (iR1<|ħ<|È 0 ai) ϩQ (ao (ϱn<|ϱN (ϰz (Ϩn<|È 1<|ĝ (ñ a_ 2 ş))<|Ç 39373)<|Ç 2147483629)
 (ao (ϱ4<|ŗ (ϰz (ϥ7 (ħ<|ae (ū (Ù 0 ş)<|Ç 1) ai)<|Ç 2)<|Ç 2)<|ñ ip 5<|Ç 2)
 (ao (ϳ7<|eC<|Ė "abcdefghijklmnopqrstuvwxyz")
 (ao (ϬF<|eC<|Ė "")
 (ao (ϧO (eB A6<|ae (Ç 1)<|ae (ϓo<|È 6<|ĝ (Ç 9)) ai) 9<|ϬF<|ñ a_ 8<|Ù 7<|ϱN (ñ kq 5<|ŗ (Ç 2)<|ϰz (ϰz (Ç 5) Ϫi) Ϫi)<|Ç 26)
 (ϥU<|Rs<|d_<|ae (ū (Ù 0 ş)<|Ç 0)<|È 8<|ae (ŗ (Ç 1)<|ϱN (ñ kq 5<|Ç 1024)<|Ç 9) ai)))))))
 (dB 3)))
def b8:Fn:=ϳN 10 ij
def k_:Fs:=(ao (ϰk<|Rs<|aj f_<|È 0<|È 1<|È 2<|ae (Ç 9)<|ĝ (Ç 6))
 (ao (ϱn<|Rs<|bO<|ae (Rs<|d_<|ae (ġ<|Ç 1)<|ae (Rs<|eSl OG (eC<|Ė "abcdefghi") iN<|d8<|ŗ (Ç 1)<|ñ ip 3<|Ç 9)<|ae (ŗ (Ç 1)<|ϱN (ñ kq 3<|Ç 9)<|Ç 9) ai) ai)
 (ao (bZ (iR1<|ŗ (Ç 1)<|ϱN (ñ kq 3<|Ç 81)<|Ç 3) (K2 6) (ao (ϳ7<|Rs<|aj b8<|È 4<|È 0<|ae (ŗ (ñ a_ 1<|Ç 5)<|ϰz (Ç 3) ϸT) ai)
 (ao (sIf (aD<|Ϲ1 (ϱN (ϥ7 (ñ kq 3<|Ç 243)<|ŗ (ñ cX 6 ϸT)<|Ç 1)<|Ç 3)<|Ç 1) (ϳ7<|Rs<|aj bU<|È 7 ai) sNx)
 (ao (sIf (p_ (aD<|Ϲ1 (ϱN (ϥ7 (ñ kq 3<|Ç 729)<|ñ a_ 6<|Ç 1)<|Ç 5)<|Ç 1)<|aD<|ϵB (ħ<|È 7 ai)<|Ç 1) (ϳ7<|Rs<|ϳb 7 iN<|d8<|ġ<|Ç 1) sNx)
 (ϱn<|Rs<|ñ a_ 5<|aj i6<|È 7<|ĝ (ħ<|È 5 ai))))))
 (bF ς))))
def fI:Fn:=aZ 4 8 k_
def Jo{ts:À Nd}{c:F}(p:ç){a:Nat}(A:ϳh):(Α (ϱR<|ϲN (a+1)) λj=>Õ<|Ĩ ϸM=ϑ).map (λj=>ϸM)=Å a:=by
 erw[F5];let e:ϳS=ϱR (a+1)++Ā (ϲN (a+1)) λj=>ϸM:=by rw[<-List.range_add,ê (İ (a+1+(ϲN<|a+1)))]
 rw[e,K8o,List.filter_map];let z:Α (ϱR<|a+1) (λj=>Õ<|Ĩ j=ϑ)=[]:=by
  rw[Zdk];ext j J;rw[K9G]at J;let:=Q7 p (k:=j) Á;rw[K9k];lia
 rw[z,K9B];rfl
def Oi(h:ϵa ns):gNe (Ï ō) (Ï [])=þ (ã true):=by
 cases ns with
 |nil=>show Ϡ h
 |cons a as=>
  erw[gNe];rw[n_];erw[k7];rw[cG (Ϻc ϵP) Ý,ύ (Ϻ4 (Ï [])) (cG (Ϻc []) Ý),K7m,Ĝ];rfl
def CC(ts:À Nd)(c:F)(p:ç)(A:é):cy [Ï è]=ģ (nO Λ):=by
 erw[cy,fQ];simp![S5];generalize i:Ϩ9=r;apply sP i (λm d=>∃(f:F)(o:Ò)(C:Ü OD),ϳJ Å f/\Ã ν=m/\(∀k∈ν,Ć)/\o++F.fM f=Λ/\d=[â è,Ň<|nO o,Ň<|nO ϸh,C])
  ts.À ⟨ϥA,[],_,p.con,Ĥ p.ğ Z7,ϖj,rfl,rfl⟩
  (λd=>∃V C:Ü OD,d=[â è,Ň<|nO Λ,V,C]) ?_ ?_
 .rintro m d ⟨f,o,C,hc,hm,hk,ho,rfl⟩
  cases H:ϸh=[]
  .left
   let:=A9 H;subst this;rw[F.fM,K9d]at ho;subst ho;let ge:gNe (Ï<|nD []) (Ï [])=þ (ã false):=D1<|Ϻc [];constructor
   .simp![iP,F.roots,ge]
   show(_,_,rfl)
  right;let(g,a,b,s,t,R,u,B,v,x):=Ic hc (λz=>H<|ϣ z) hk;let ge:gNe (Ï<|nD<|ϲT g++[a]) (Ï [])=þ (ã true):=Oi (ns:=iL<|ϲT g++[a]) (ϧ9 iL);let ol:ϲx o.À:=by
   let:=Ż ho;rw[K9v,p.len]at this;lia
  let l:ϱK (Ã (nO o)):=Ô zo (c8 Á)
  let L:ϳt (Ã (nD<|ϲT g)+Ã (nD<|Å a)):=by
   rw[eF,eF,<-K9v,R];let:=F.Di ϶h;let q:ϱ1 (Ã (ϝ ϶h)):=by
    let:=Ż ho;rw[K9v,p.len,ϚM]at this;lia
   show aF Á
  rw[s];constructor
  .simp![iP,ge]
  rw[<-vA];let em:ϑ+1=ä (a+1):=Á
  let S:Κ ((ä (a+1))):=Ŕ Á;let y:Κ ((Ì ts.À)):=Ŕ Á;simp![M9,l,aH,em,S,y,K7m,iP];generalize w:Į=rc;let h:ĩ (Ì ts.À-ä (a+1))=ϲN (a+1):=Á
  let e:=iS w (ϤO<|int<|ä (a+1)+Ĵ) (λj=>Õ<|Ĩ ϸM=ϑ) (λj=>Ñ<|(ä ϸM)) (ϱR<|ϲN (a+1)) (by rw[h];rfl) (Ô Z7<|K94<|aF Á) (by
   ext j J;rw[K9G]at J;rw[ê (ä (a+1)+Ĵ=ä ϸM)];obtain⟨n,N⟩:ϰ5 (ts[ϸM]?):=⟨ts[ϸM]' Á,Û⟩
   let g1:=fZ N;let g2:=bL N;rw[g2];show(?_,Ţ ?_)
   .simp![g1]
   simp![S5])
  subst e;clear w;let G:((Α (ϱR<|ϲN (a+1)) λj=>Õ<|Ĩ ϸM=ϑ).map λj=>Đ<|Ä (ä ϸM))=nO (Å a):=by rw[<-Jo p t,<-HL,S1];rfl
  rw[G];let E:Ê (nD (ϲT g)++nD (Å a)) OD.sh=nO (ϲT ϶h):=by rw[<-R,<-Gb,K9i];rfl
  simp![iP,kE,L];rw[E,vA];show(_,Á,϶h,o++[a],_,u,rfl,v,by rw[x];show ho,rfl)
 ext ρ' rfl ⟨V,C,rfl⟩;simp![S5]
def Ih(R:Ò)(k:Nat):(iL R).idxOf ë=R.idxOf k:=by
 erw[iL]
 induction R with
 |nil=>rfl
 |cons a r ih=>
  rw[K9w,List.idxOf_cons,List.idxOf_cons,ih];cases h:a=k
  .subst h
   simp
  let H:Ł (ϑ==ë):=ϳc
  let b:Ł (a==k):=by simp;show h
  rw[H,b]
def sW(ts:À Nd)(c:F)(p:ç)(f:é):bU [Ï è]=.ok (Ę<|ak ć):=by
 erw[bU,gD];let len:=p.í;simp![CC ts c p f,iP];generalize L:Ŗ=r';show ϳ2 (λi a=>∃C v V v6:Ü OD,a=[â è,â<|nD Λ,some<|Ę<|ak<|ł ć i,C,v,V,v6]) ϑm
 .rintro i d a hd ⟨C,v,V,v6,rfl⟩
  let hi:i<Ã Λ:=ϱC ((ϱa hd)) eF
  obtain⟨k,H⟩:∃k,á Λ=Ş:=⟨Λ[i],Û⟩
  rw[Rp H]at hd;cases hd;let h:=p.mem.mp Ϧp;let g1:=fZ<|yR h;let b:ϱK (Ã (ak<|ł ć i)):=Ζ aH K9f (c8 Á)
  let g:ß ak (ł ć<|i+1) OD.sh=ß ak (ł ć i) OD.sh++[Đ<|Ą [Ä<|Ϻd (ϯ).e,Ė (ϯ).l,Ä (ϯ).t]]:=by
   let:á ć=Â ϦX:=ϘQ
   rw[Zck,this];erw[ak];rw[K9i,K9i];rfl
  rcases p.elder h with z|⟨j,J,m⟩
  .let he:(ϯ).e=-1:=Ĥ (ue h) z
   let D:Ł (Õ (Ì 0<=(ϯ).e)):=K9q Á;let gi:Ϻd (ϯ).e=(ϯ).e:=ϣ he
   rw[gi]at g;simp![g1,D,b];rw[<-g];show(_,_,_,_,rfl)
  let he:(ϯ).e=Ĵ:=by rw[ue h,m]
  let D:Õ (Ì 0<=(ϯ).e)=true:=Z8 Á;let M:Ĵ∈iL Λ:=ϵp iL (ϲp ⟨j,p.mem.ó J,rfl⟩)
  let I:yY (nD Λ) (Ä (ϯ).e)=.ok (Ñ<|Ϻd (ϯ).e):=by
   rw[he];let:=MM (iL Λ) Ĵ M;rw[Ih]at this;let gi:Ϻd Ĵ=ä ((Λ).idxOf j):=Ϗ F.gi (P3 Á)
   rw[gi];show this
  simp![g1,D,b,I];rw[<-g];show(_,_,_,_,rfl)
 ext ρ' rfl ⟨C,v,V,v6,rfl⟩;let e:ł ć (Ã (nD Λ))=ć:=K90 (ϩK ϵY eF len ì);rw[e];simp![S5]
def Kb(ts:À Nd)(a:Ź)(L:é)(ns:À Int)(T:Int)(R:0<=T)(S:T<=1000):∃s:À Nd,İ s.À/\(∀k,Ć->Z4 s k=Ĩ k)/\Lb s/\b8 [Ï è,Ï ō,Ä T]=.ok (Ę<|ak s):=by
 erw[b8,ij];let s0:Κ ((Ì ts.À)):=Ŕ Á;simp![aH,s0];rw[K9n];generalize D:Ŗ=r;apply aX D (λi b=>∃(s:À Nd)(V e v6 g o p:Ü OD),s.À=i/\(∀k,k<i->Z4 s k=Ĩ k)/\Lb s/\b=[â è,â ō,Ĕ<|Ä T,some<|Ę<|ak s,V,e,v6,g,o,p])
  ⟨[],_,_,_,_,_,_,rfl,(λk E=>Á),(λn N=>by cases N),rfl⟩ ?_ ?_
 .rintro i d b h ⟨s,V,e,v6,g,o,p,hu,he,hlb,rfl⟩
  let(hi,rfl):=cI h;rw[K8R];let(y,G):=ϧD (T+ÿ) Á;obtain⟨n,N⟩:ϰ5 (á ts):=⟨ts[i]' Á,Û⟩
  let g1:=fZ N;let nl:=a n<|K9L N;let B:=ϕ7 nl;generalize Z:y*39373%2147483629=z;let I:=dP z (ϱl<|Ì 0<2);generalize hsz:Ì n.ç / 2*2+z%2=sz;let m:ϤB (Ì n.ç / 2) 2:=ϧr Ý;obtain⟨cnt,t,c1,q⟩:∃cnt:Int,A6 [Ä 1,Ä (Ë (9<sz) 9 sz)]=.ok (Ñ cnt)/\Ś 1 cnt 9:=by
   rw[NT];show(_,rfl,?_,?_)
   .split<;>(try split)<;>lia
   split<;>(try split)<;>lia
  let sc:Κ cnt:=Ŕ Á;obtain⟨f,F⟩:∃f:ņ,∀i:Nat,Ť ((Ϫh ϸ0)) (z / (2+ϻo (0+ÿ))%26)=Â (f i)/\(Ś 97 (f i) 122):=
   ⟨λi=>Ϸ3<|Bm _ (ϥl (2+ϻo (0+ÿ))<|ϱl (Ì 0<26)).1 (dP _ Ý).2,λi=>Zab<|Bm _ (ϥl (2+ϻo (0+ÿ))<|ϱl (Ì 0<26)).1 (dP _ Ý).2⟩
  simp![G,Z,g1,B,m,hsz,t,sc];generalize w:Ŗ=r2;show aX w (λj b=>∃(l:Str)(v:Ü OD),b=[â è,â ō,Ĕ<|Ä T,some<|Ę<|ak s,Ĕ<|Ä i,some<|Ñ z,some<|Ñ sz,Ĕ<|Ė ϸ0,Ĕ<|Ė l,v]/\l.À=j/\Ϗy) ϖK ?_ ?_
  .rintro i d b h ⟨l,v,rfl,L,C⟩
   let(hi,rfl):=cI h;let U:ÿ<9:=Á
   let W:Ś 0 (ϻo (0+ÿ)) (ϻo 8):=by
    let A:0<=(0+ÿ):=Á
    let u:(0+ÿ)<=8:=Á
    show(Zag Á A,?_);show Zef Á u A Á
   let Y:=(F i).1;let c1:=(F i).2.1;let q:=(F i).2.2;generalize f i=c at Y c1 q;let J:ϤB (5*(0+ÿ)) (0+ÿ):=EC Á Á;let M:ϭZ 2 (ϻo (0+ÿ)):=ϸF ⟨Á,Á⟩;let O:ϳt (Ã ϸ0):=œ
   let P:ϳt (l.À+Ã (ϥt:Str)):=aF (by rw[L];change i+1<=1000;lia);simp![J,M,O,P,Y,Zbe];show(_,_,rfl,by rw[Ed,L],ύA);rw[BO,K9Y]at h;rcases h with h|h
   .show C d h
   let:d=c:=ϱZ
   lia
  ext ρ' rfl ⟨l,v,rfl,hll,C⟩;rw[gF]at hll;let Q:ϱK (Ã (ak s)):=Ô aH (c8 Á)
  simp![g1,Q];show(s++[Ϙt],_,_,_,_,_,_,ϰ7 K9v hu,λk E=>?_,όQ,ϰ7 uk K9i)
  .by_cases K:k<i
   .rw[<-he k K]
    erw[Z4];rw[K9V Á]
   let:k=s.À:=Á
   rw[ê (k=i),bL N];show bL (n:=Ϙt) (by rw[<-hu];simp)
  rcases K9Y.mp H with H|H
  .show hlb x H
  rw[K95]at H;subst H;show(ê (1<=l.À),ê (l.À<=9),C)
 ext ρ' rfl ⟨s,V,e,v6,g,o,p,hu,he,hlb,rfl⟩;rw[gF]at hu he;show(s,hu,he,hlb,ϻg)
def QS(n:Nd)(r:À Nd)(s:Nat)(l:ϲx r.À):i6 [Ï<|ak ϴl,Ä s]=.ok (Ę<|ak<|og s ϴl):=by
 erw[i6,oU];let g1:=fZ (ts:=ϴl) (k:=0) (n:=n) rfl;rw[Int.natCast_zero]at g1;let c:ϲd (ak ϴl) (Â 1) none=ak r:=ϩD (i8 (ak ϴl) 1 (ϳk aH)) this
 simp![g1,c,aI];generalize h:Ŗ=r';show aX h (λi a=>∃C v V:Ü OD,a=[â<|ak ϴl,Ĕ<|Ä s,some<|Ę<|ak<|Ϫ9::Ê (r.Ö i) ϪN,C,v,V]) ϑS ?_ ?_
 .rintro i d a hd ⟨C,v,V,rfl⟩
  erw[ak]at hd;rw[N2]at hd;let(m,M,rfl):=ϹV;let hi:=(ZB.mp M).1;let b:ϱK (Ã (ak<|Ϫ9::Ê (r.Ö i) ϪN)):=Ô aH (c8 ϳc)
  let t1:ß ak (Ϫ9::ß r.Ö (i+1) ϪN) OD.sh=ß ak (Ϫ9::Ê (r.Ö i) ϪN) OD.sh++[Đ<|Ą [Ä<|m.e+s,Ė m.l,Ä m.t]]:=by rw[Zck,M];erw[ak];simp[ndD]
  simp![ndD,b];rw[<-t1];show(_,_,_,rfl)
 ext ρ' rfl ⟨C,v,V,rfl⟩;let e:r.Ö (Ã (ak r))=r:=K90 (Ô aH ì);rw[e];simp![S5];rfl
def ZN(r:Int)(a:0<=r)(h:r<9):wZ (ώZ<|Â<|1+r):=by
 let all:∀r:Fin 9,wZ (ώZ<|Â<|1+Ì r.val):=Ϛu wZ
 let:=all ⟨r.Ò,Á⟩;rw[show Ì (⟨r.Ò,Á⟩:Fin 9).val=r by change Ì r.Ò=r;lia]at this;show this
def MT(X:À Gc)(h:1<=X.À):ϲd X none (Â<|-1)=X.Ù:=by
 let e:ϯm X.À (Â<|-1)=ϫT:=by
  erw[HT.sIx];simp;lia
 erw[cutD];rw[e,List.dropLast_eq_take];rfl
def Gx(ts:À Nd):(è).dropLast=ak ts.Ù:=ű ak List.map_dropLast
def Dn(ts:À Nd):Nat->Nat->Nat->Prop|j,0,k=>k=j|j,l+1,k=>∃c,c∈Å j/\϶N c l k
theorem Dn.snoc{ts:À Nd}{q k:Nat}(H:k∈Å q):∀{l j:Nat},ϲm l q->ϲm (l+1) k
 |0,j,h=>by let h:q=j:=h;subst h;show(k,H,rfl)
 |l+1,j,⟨c,hc,h⟩=>⟨c,hc,Dn.snoc H h⟩
structure IsOut(ts:À Nd)(f:å)(j:Nat)(o:Ol):Prop where
 len:∀l,l<o.À↔∃k,ϲm l k
 lo:∀l p,o[l]?=ϲn->(∃k,ϲm l k/\p.1=f k-256*Ļ k-f j)/\∀k,ϲm l k->p.1<=f k-256*Ļ k-f j
 hi:∀l p,o[l]?=ϲn->(∃k,ϲm l k/\p.2=f k+256*Ļ k-f j)/\∀k,ϲm l k->f k+256*Ļ k-f j<=p.2
def fg{ts:À Nd}(Ds:Int)(he:ĕ)(a:Č 0)(h:é){j i c:Nat}(J:ϰf)(C:á (Å j)=ī):ϰv c=ϰv j+gv (Ŭ<|Ê (Å j) í) i:=by let M:=K9L C;let(c1,L):=bh.mp M;let:=(ϋ M).1;rw[Kn he Á c1 L,Ql Ds he a h J C]
def vm{ts:À Nd}(Ds:Int)(he:ĕ)(s:Č 0)(t:é):∀m j,İ (j+m)->ϰf->IsOut ts ϰv j (í j):=by
 ext m
 induction m using Nat.strongRecOn with
 |ind m ih=>
  ext j M J;let I:∀c∈Å j,IsOut ts ϰv c (í c):=λc d=>by let(c1,L):=ϋ d;show ih ϒa Á c Á L
  let zero:∀p,(í j)[0]?=ϲn->p=(-256*Ļ j,256*Ļ j):=λp P=>by
   rw[ϥQ s t J]at P;erw[ini]at P;simp at P;show P.Ï
  cases d:Å j=[]
  .let e:í j=ϱ5 j:=by rw[ϥQ s t J,Os d,K9d]
   let no:∀l k,¬ϲm (l+1) k:=λl k h=>by let(c,c1,_):=h;rw[d]at c1;cases c1
   let O:Ã (í j)=1:=ϒQ
   let lt:∀l p,(í j)[l]?=ϲn->l=0:=λl p P=>Ĳ ((ϱa P))
   show(λl=>?_,όB,όB)
   .rw[O]
    constructor
    .intro h
     let:l=0:=Á
     subst this;show(j,rfl)
    ext⟨k,H⟩;cases l with|zero=>lia|succ l=>show ϙT<|no l k
   .let:=lt l p P
    subst this;rw[ώm];show((j,rfl,ϳZ (_=_)),ϭ3 (-256*_) _)
   let:=lt l p P;subst this;rw[ώm];show((j,rfl,ϳZ (_=_)),ϭ3 _ (256*_))
  let R:=ϥR s t d;let e:í j=ϱ5 j++jo (Ê (Å j) í) (Ŭ<|Ê (Å j) í):=by rw[ϥQ s t J,P3 d]
  let v:=λi c(h:(F5 ts j)[i]?=some c)=>ϸn s t J h;generalize D:Ŭ (Ê (Å j) í)=st at e v;let N:Ê (Å j) í≠[]:=by simp[d]
  obtain⟨_,⟨Q,F,G⟩,X⟩:=uD N;let E:Ã (í j)=1+mxN (Ê (Å j) í):=Ϛk
  let n:∀i c,á (Å j)=ī->l7 (Ê (Å j) í) i=Ã (í c):=λi c h=>ϧh l7
  let o:∀i c l,á (Å j)=ī->oA (Ê (Å j) í) i l=Ó ((í c)[l]?) (0,0):=λi c l h=>ϧh oA
  let T:∀l i,i∈Ϧz (Ê (Å j) í)↔∃c,á (Å j)=ī/\l<Ã (í c):=λl i=>by
   erw[there];rw[K89,K9G,K9k,K0];constructor
   .rintro⟨a,b⟩
    let g:á (Å j)=some (Å j)[i]:=Nu a;show(_,g,by rw[<-n i _ g];show b)
   ext⟨c,c1,L⟩;show(ϱa c1,ύm (n i c c1))
  let succ:∀l p,(í j)[l+1]?=ϲn->l<mxN (Ê (Å j) í)/\p=jl (Ê (Å j) í) st l:=λl p P=>by
   let x:=(ϱa P);rw[E]at x;let f:l<mxN (Ê (Å j) í):=Á
   show(f,?_);rw[e]at P;erw[ini,jo]at P;rw[K92,K9B,Zbs,N2,K9Z f]at P;show(K9R P).symm
  show(λl=>?_,όB,όB)
  .cases l with
   |zero=>show(Ţ ⟨j,rfl⟩,λ_=>Á)
   |succ l=>
    rw[E];constructor
    .intro h
     let tn:=n6 N (ê<|l<mxN (Ê (Å j) í));let(i,hi):=Zch _ tn;let(c,c1,L):=ϒG;let C:=K9L c1;let(k,H):=((I c C).len l).mp L;show(k,c,C,H)
    ext⟨k,c,C,H⟩;let L:=ϏF;let(i,r,u):=Zal C;let:=X i (by rw[K0];show r);rw[n i c ϒl]at this;lia
  .cases l with
   |zero=>rw[ώm];show((j,rfl,ϳZ (_=_)),ϭ3 (-256*_) _)
   |succ l=>
    let(f,rfl):=succ l p P;let tn:=n6 N f;let(S,B):=dS (xs:=(Ϧz<|Ê (Å j) í).map λi=>ϴo i+(oA (Ê (Å j) í) i l).1) λz=>tn ϶V;show(?_,?_)
    .let(i,hi,w):=XV.mp S
     let(c,c1,L):=ϒG;let C:=K9L c1;obtain⟨⟨k,K,y⟩,_⟩:=ϖm ϸW;show(k,(c,C,K),?_);change eT _=_;rw[<-w,ό7,ϸW];change ϴo i+(í c)[l].1=_;rw[y,ώn];lia
    ext k ⟨c,C,H⟩;let(i,r,u):=Zal C;let c1:á (Å j)=ī:=ϒl
    let L:=ϏF;let q:=B _<|ϲp ϖB;rw[ό7,ϸW]at q;let q:eT _<=ϴo i+(í c)[l].1:=q;let:=(ϖm ϸW).2 k H;let A:=ώn;change eT _<=_;lia
  cases l with
  |zero=>rw[ώm];show((j,rfl,ϳZ (_=_)),ϭ3 _ (256*_))
  |succ l=>
   let(f,rfl):=succ l p P;let tn:=n6 N f;let(S,B):=c_ (xs:=(Ϧz<|Ê (Å j) í).map λi=>ϴo i+(oA (Ê (Å j) í) i l).2) λz=>tn ϶V;show(?_,?_)
   .let(i,hi,w):=XV.mp S
    let(c,c1,L):=ϒG;let C:=K9L c1;obtain⟨⟨k,K,y⟩,_⟩:=ϖn ϸW;show(k,(c,C,K),?_);change jE _=_;rw[<-w,ό7,ϸW];change ϴo i+(í c)[l].2=_;rw[y,ώn];lia
   ext k ⟨c,C,H⟩;let(i,r,u):=Zal C;let c1:á (Å j)=ī:=ϒl
   let L:=ϏF;let q:=B _<|ϲp ϖB;rw[ό7,ϸW]at q;let q:ϴo i+(í c)[l].2<=jE _:=q;let:=(ϖn ϸW).2 k H;let A:=ώn;change _<=jE _;lia
def lvN(ts:À Nd)(k:Nat):Nat:=Ó (ϫ ϱq) 0
def bV{ts:À Nd}(he:ĕ){j c:Nat}(h:c∈Å j):ϒ c=ϒ j+1:=by
 let(c1,L):=bh.mp h;let hg:=(ϋ h).1;obtain⟨n,H⟩:ϰ5 (ts[c]?):=⟨ts[c],Ϯ c1⟩
 rw[bL H]at L;erw[lvN];rw[uN H];change gZ _ n=_;erw[gZ];rw[P3 Á,L,K9n,<-zI,K97 hg]
theorem pL{ts:À Nd}(he:ĕ):∀{l j k:Nat},ϰf->ϲm l k->ϒ k=ϒ j+l/\j<=k/\Ć
 |0,j,k,hj,h=>by let h:k=j:=h;subst h;show(rfl,ì,hj)
 |l+1,j,k,hj,⟨c,hc,h⟩=>by let g:=ϋ hc;let(a,b,d):=ϷF g.2 h;rw[ϳG hc]at a;show(Á,Á,d)
def xJ{ts:À Nd}{c:F}(p:ç){j:Nat}(J:ϰf):∃s,Ã ϲA=s/\ϱ1 Ϻu/\(∀k,j<k->k<=j+s->Ĵ<=Ĩ k)/\
  ∀b,ϵm->Ĵ<=Ĩ b->Ĩ b<=ä (j+s)->ϓK:=by
 let(s,Q,q,l,C):=TY p J;let at1:∀k,Ϸ1[k]?=ts[Ϥz]?:=λk=>K84;show(s,Ga _ _ s (Ă K8y) (λk H x h=>?_) Ϭt,Q,q,C)
 .rw[at1]at h
  let:=q Ϥz Á Á;rw[ϴx]at this;show Z8 this
 rw[at1]at h;let L:=ϲI;let:=l L;rw[ϴx]at this;show K9q Á
theorem F8{ts:À Nd}(he:ĕ){j s:Nat}(q:∀b,ϵm->Ĵ<=Ĩ b->Ĩ b<=ä (j+s)->ϓK):∀{l i k:Nat},j<=i->i<=j+s->϶N i l k->k<=j+s
 |0,i,k,_,h,d=>by
  let d:k=i:=d;lia
 |l+1,i,k,h1,h2,⟨c,hc,d⟩=>by
  let(c1,L):=bh.mp hc;let:=q c c1 Á Á;show F8 he q Á Ϥw d
def FK{ts:À Nd}(he:ĕ){j s:Nat}(J:Č (j+s))(q:∀k,j<k->k<=j+s->Ĵ<=Ĩ k)(k:Nat)(b:j<=k)(H:k<=j+s):∃l,ϲm l k:=by
 induction k using Nat.strongRecOn with
 |ind k ih=>
  cases K:k=j
  .exact(0,K)
  let e1:=q k Á H;obtain⟨n,h⟩:ϰ5 ϸJ:=⟨ts[k]' Á,Û⟩
  let lt:=(he k n h).2.2;rw[<-ϴx]at lt;obtain⟨x,X⟩:∃x:Nat,Ĩ k=(x:Int):=⟨ĩ (Ĩ k),Á⟩
  let(l,a):=ih x Á Á Á;show(l+1,Dn.snoc (ϸN ⟨Á,X⟩) a)
def xv{ts:À Nd}{k:Nat}{n:Nd}(h:ϸJ=ϵL):Ļ k=Ì n.ç / 2:=ϗT
def Dp(ts:À Nd)(d:Nat):Prop:=∀k,Ć->ϒ k<=d
def rj{ts:À Nd}(he:ĕ)(a:Č 0):ϒ 0=0:=by
 obtain⟨n,h⟩:ϰ5 (ts[0]?):=Ϙ9
 erw[lvN];rw[uN h];change gZ _ n=0;erw[gZ];rw[Os<|(he 0 n h).1 rfl]
def dv(m:Nat):Int:=2^(9-m)
def CJ{m:Nat}(h:m+1<=9):dv m=2*dv (m+1):=by erw[dv];rw[ê (9-m=9-(m+1)+1),Int.pow_succ,Zai]
def yA{a b:Nat}(h:a<=b):dv b ∣ dv a:=by
 erw[dv];show(2^((9-a)-(9-b)),?_);rw[<-Int.pow_add];congr 1;lia
def Fu{m:Nat}(h:1<=m):dv m ∣ 256:=ϩD (yA h) this
def QJ{n:Nat}{d:Nat->å}{e:å}{D:Int}(h:ϥD)(c:ϯ2 (D ∣ d i j))(k:Nat)(K:k<n):D ∣ e k:=by
 induction k using Nat.strongRecOn with
 |ind k ih=>
  cases a:k=0
  .subst a
   rw[h.1];show Zdg _
  let(_,j,H,b):=h.2 k Á K;rw[b];show Zdl (ih j H Á)<|c j k H K
def P2{n:Nat}{d:Nat->å}{T:Int}{l:å}{D:Int}(h:ϥE l)(t:D ∣ T)(c:ϯ2 (D ∣ d i j)):∀m k,k+m+1=n->D ∣ l k:=by
 ext m
 induction m using Nat.strongRecOn with
 |ind m ih=>
  ext k K;cases a:m=0
  .subst a
   rw[ê (k=n-1),h.1];show t
  let(_,j,H,b,f):=h.2 k Á;rw[f];show Zfp (ih Ϸl Á j Á)<|c k j H b
def xh(D:Int)(o:Ol):Prop:=∀p∈o,D ∣ p.1/\D ∣ p.2
def xh.mono{D D':Int}{o:Ol}(h:xh D o)(d:D' ∣ D):xh D' o:=λp H=>⟨Zbp d (h p H).1,Zbp d (h p H).2⟩
def NA{Ds D:Int}{o p:Ol}(h:xh D o)(b:xh D p)(e:D ∣ 256)(L:1<=o.À)(l:ϓM):D ∣ ϲS o p:=by
 let(a,as,A):=ϔO L l;let(M,_):=c_ (xs:=ϴc o p) (by rw[A];simp);rw[vx];generalize jE (ϴc o p)=z at M;erw[ask]at M;obtain⟨⟨x,y⟩,H,rfl⟩:=XV.mp M;let:=K7w H;show Zfp (Zdl (h x Ϻm).2<|Zbp e ϬV) (b y Ϥw).1
def uV{D e l:Int}(h:2*D ∣ e)(H:2*D ∣ l):D ∣ (e+l) / 2/\2*((e+l) / 2)=e+l:=by
 let(a,rfl):=h;let(b,rfl):=H;let e1:2*D*a+2*D*b=2*(D*(a+b)):=by rw[Zav,Zav,Zae,Zae]
 rw[e1,Zeg _ Ý];show(ϬV,rfl)
def FA{Ds D:Int}{O:À Ol}{E s T:À Int}(h:ύD E s T)(R:ϸV)(M:ϓX (2*D))(b:2*D ∣ 256):(∀k,϶9->2*D ∣ gv E k/\2*D ∣ ϱz k)/\∀k,϶9->D ∣ gv T k:=by
 let N:=ϺD;let d:∀i j,i<j->ϨA->2*D ∣ ϳw i j:=λi j c a=>by
  let m:=Zah (l:=O) (ê ό6);let J:=Zah (l:=O) a;rw[show ϳw i j=ϲS (O[i]) (O[j])by erw[dO];rw[Nu (ê ό6),Nu a];rfl];show NA (M _ m) (M _ J) b (R.1 _ m).1 (R.1 _ J).1
 let e:=QJ h.isE d;let L:∀k,϶9->2*D ∣ ϱz k:=ϲ1 (P2 h.isL (e _ Á) d (ĺ-k) k Á);show(ϲ1 ⟨e k H,L k H⟩,ϲ1 ?_);rw[h.eq k H];let z:=uV (e ĺ Á)<|Zdg<|2*D;rw[Zak]at z;show Zfp (uV (e k H)<|L k H).1 z.1
def ML{ts:À Nd}(Ds:Int)(he:ĕ)(f:Č 0)(g:é):∀m j,İ (j+m)->ϰf->Ã (í j)<=9->xh (dv (Ã (í j))) (í j):=by
 ext m
 induction m using Nat.strongRecOn with
 |ind m ih=>
  ext j A J G;let ln:=ώo f g J;let n:∀D:Int,D ∣ 256->xh D (ϱ5 j):=λD d p h=>by erw[ini]at h;rw[K95]at h;subst h;show(Zbp (Zbp d ⟨-1,Ý⟩) ϬV,Zbp d ϬV)
  cases C:Å j=[]
  .let e:í j=ϱ5 j:=by rw[ϥQ f g J,Os C,K9d]
   rw[e];show n _ (Fu<|ϳZ (1<=1))
  let R:=ϥR f g C;let e:í j=ϱ5 j++jo (Ê (Å j) í) (Ŭ<|Ê (Å j) í):=by rw[ϥQ f g J,P3 C]
  obtain⟨⟨F,K,S⟩,_⟩:=ϻj R;let H:Ê (Å j) í≠[]:=by simp[C]
  let(_,_,X):=uD H;let E:Ã (í j)=1+mxN (Ê (Å j) í):=Ϛk
  let w:1<=mxN (Ê (Å j) í):=by
   let a:=X 0 (Ĳ ϺD);let b:=(R.1 _<|Zah (l:=Ê (Å j) í) (ύ (0<_) ϺD)).1;erw[l7]at a;rw[Nu (ύ (0<Ã (Ê (Å j) í)) ϺD)]at a;let a:Ã ((Ê (Å j) í)[0]'(ύ (0<_) ϺD))<=mxN (Ê (Å j) í):=a;lia
  let q:∀o∈Ê (Å j) í,xh (2*dv (mxN (Ê (Å j) í)+1)) o:=λo v=>by
   rw[<-CJ Á];let(i,N,I):=Zal v;let(c,x,rfl):=XV.mp v;let c1:=ϋ x;let lc:Ã (í c)<=mxN (Ê (Å j) í):=by let:=X i N;erw[l7]at this;rw[Nu N,I]at this;show this
   show Ů (ih ϒa Á c Á c1.2 Á)<|yA lc
  let d:2*dv (mxN (Ê (Å j) í)+1) ∣ 256:=Ϙ (CJ Á) (Fu w)
  let t:=(FA S R q d).2;rw[E,Zct];generalize T:Ŭ (Ê (Å j) í)=st at e t S;generalize y:Ê (Å j) í=O at e t q d R H X w S;let k:dv (ϴn+1) ∣ 256:=Zbp ⟨2,ϰT Zai⟩ d;rw[e];ext p h;rcases K9Y.mp h with h|h
  .show n _ k p h
  erw[jo]at h;let(l,M,rfl):=ϥ5;rw[K9G]at M;let tn:=n6 H M;let mem:∀i∈ϲQ l,dv (ϴn+1) ∣ ϴo i/\ϕm (϶S i l):=λi hi=>by
   let u:=K89.mp hi;let N:=Ϸz u.1;let L:=ϷR u.2;show(t i N,?_);let B:=(q _<|Zah (l:=O) N).mono (D':=dv<|ϴn+1) ⟨2,ϰT Zai⟩;erw[oA];erw[l7]at L;rw[Nu N]at L⊢;let L:l<Ã (O[i]):=L;change ϕm (Ó (O[i][l]?) (0,0));rw[ϸW];show B _<|Zah L
  show(?_,?_)
  .let(r,_):=dS (xs:=Ê (ϲQ l) λi=>ϴo i+(϶S i l).1) λz=>tn ϶V
   let(i,hi,s):=XV.mp r;change _ ∣ eT _;rw[<-s];show Zdl (ώp).1 (ώp).2.1
  let(r,_):=c_ (xs:=Ê (ϲQ l) λi=>ϴo i+(϶S i l).2) λz=>tn ϶V;let(i,hi,s):=XV.mp r;change _ ∣ jE _;rw[<-s];show Zdl (ώp).1 (ώp).2.2
def NJ{ts:À Nd}(Ds:Int)(he:ĕ)(h:Č 0)(l:é)(d:Ϥg){j:Nat}(J:ϰf):Ã (í j)+ϒ j<=9:=by
 let io:=ϬW h l (ts.À-j) j Á J;let ln:=ώo h l J;let(k,H):=(io.í<|Ã (í j)-1).mp Á;let(a,b,c):=ϷF J H;let:=d k c;lia
def iQ:Fs:=(ao (ϳ6 ϊ)
 (ao (Ų<|bO<|ĝ (Ç 0))
 (ao (dX (Gk<|aD<|ϵB (ħ<|È 2 ai)<|Ç 0) (ao (IH 2 Ϧw)
 (ao (ϨW Š)
 (Es 2<|ϸc<|È 0<|È 3 ai))))
 Ϥq)))
def df:Fn:=ϲ5 4 iQ
def nG:Fs:=(ao (Ų<|eD1 (ġ<|Ç 1)<|ġ<|Ç 1)
 (ao (bZ (iEn Ŋ) (ϡ<|Œ 3 4 bB)<|sDP 2 ş Š)
 (ao (ϱn<|Rs<|ϰr bY 1 (Ù 1 Ľ) 1 [0])
 (ϬK<|bF<|ϰr bY 5 (d_<|ae (ñ gDx 1<|Ù 0<|Ç 0)<|ae (Ù 0<|Ç 1)<|ĝ (Ù 0<|Ç 2)) 1 [2]))))
def gH:Fn:=ε 6 nG
def qY:Fs:=(ao (ϳ6<|Rs<|aj df<|È 0 ai)
 (bF<|d_<|ae (Rs<|aj gH<|È 0<|È 1 ai)<|È 1 ai))
def ki:Fn:=ϲ5 2 qY
def Ly(ts:À Nd)(c:F)(p:ç)(e:é):df [Ï è]=ģ (nO Λ):=by
 erw[df,iQ];simp![S5];generalize H:Ϩ9=r;apply sP H (λm d=>∃(f:F)(o:Ò)(C:Ü OD),ϳJ Å f/\Ã ν=m/\(∀k∈ν,Ć)/\o++F.fM f=Λ/\d=[â è,Ň<|nO o,Ň<|nO ϸh,C])
  ts.À ⟨ϥA,[],_,p.con,Ĥ p.ğ Z7,ϖj,rfl,rfl⟩
  (λd=>∃V C:Ü OD,d=[â è,Ň<|nO Λ,V,C]) ?_ ?_
 .rintro m d ⟨f,o,C,hc,hm,hk,ho,rfl⟩
  cases h:ϸh=[]
  .left
   let:=A9 h;subst this;rw[F.fM'',K9d]at ho;subst ho;constructor
   .simp![iP,eF,F.roots]
   show(_,_,rfl)
  right;let(g,a,b,i,j,R,G,J,v,x):=Ic hc (λz=>h<|ϣ z) hk;let D:Õ (Ì 0<ä ((Ã (ϲT g++[a]))))=true:=Z8 Û;let ol:ϲx o.À:=by
   let:=Ż ho;rw[K9v,p.len]at this;lia
  let l:ϱK (Ã (nO o)):=Ô zo (c8 Á)
  let L:ϳt (Ã (nO<|ϲT g)+Ã (nO<|Å a)):=by
   rw[zo,zo,<-K9v,R];let:=F.Di ϶h;let q:ϱ1 (Ã (ϝ ϶h)):=by
    let:=Ż ho;rw[K9v,p.len,ϚM]at this;lia
   show aF Á
  rw[i];constructor
  .simp![iP,eF,D]
  rw[<-vA];simp![M9,l,eA ts a j e,L9,L];rw[vA,Gb,R];show(_,Á,϶h,o++[a],_,G,rfl,v,by rw[x];show ho,rfl)
 ext ρ' rfl ⟨V,C,rfl⟩;simp![S5]
def Fv(R:Ò)(i:Nat):À Ο:=(Ð<|-1,Ä<|-1)::Ê Ϥb (ϤO (Ð (ä ϒ4),Ä Ĵ))
def Nj{k:Key}(h:∀p∈ks,p.1≠k):putD ks k d=ks++[(k,d)]:=by erw[putD];rw[P3];rw[Bool.not_eq_true,Zdm];ext p H;rw[K9k];show h p H
def Nl{R:Ò}(nd:R.Í)(hi:i<R.À)(J:ϫ8)(h:R[i]=R[j]):i=j:=by
 let a:=nd.ĕ i hi;let b:=nd.ĕ j J;rw[h]at a;lia
def Mm{R:Ò}(nd:R.Í){i k:Nat}(H:R[i]?=Ş):putD (Fv R i) (Ð ë) (Ä ÿ)=Fv R (i+1):=by
 rw[Nj]
 .unfold Fv
  rw[K8A,K9i,K92,K9w,H];rfl
 ext p h;erw[Fv]at h;rcases K8v.mp h with rfl|h
 .intro z
  let:=K82 z;lia
 let(j,J,rfl):=ϥ5;rw[K9G]at J;ext z;let Z:=K82 z;let(a,b):=ϭg;rw[Nu<|ê ϫ8]at Z;let Z:ä (R[j])=ë:=Z;let:=Nl nd (ê ϫ8) a (by rw[b];lia);lia
def Nz(R:Ò)(i:Nat):gE (Fv R i) (Ð<|-1)=Â (Ä<|-1):=by erw[gE,Fv];rw[K8p];simp
def Vd{R:Ò}(nd:R.Í){i k:Nat}(H:R[i]?=Ş):gE (Fv R R.À) (Ð ë)=Â (Ä ÿ):=by
 erw[gE,Fv];let a:Ł (Õ (ϓr (-1)=Ð ë)):=K9q λz=>Ĳ (K82 z)
 let(h,b):=ϭg;rw[K8p,a,List.find?_map];let:(ϱR R.À).find? ((λv:Ο=>Õ<|v.1=Ð ë)∘ϤO (Ð (ä ϒ4),int Ĵ))=ϸy:=by
  rw[List.find?_range_eq_some];show(?_,ϔA,ϳp)
  .change Õ (ϓr ((ä (R[i]?.getD 0)))=Ð ë)=true
   rw[H];show Ϥx
  change(! Õ (ϓr ((ä ϒ4))=Ð ë))=true;rw[Zeh,decide_eq_false_iff_not];ext z;let Z:=K82 z;rw[Nu<|ê ϫ8]at Z;let Z:ä (R[j])=ë:=Z;let:=Nl nd (ê ϫ8) h (by rw[b];lia);lia
 rw[this];rfl
def KQ{ts:À Nd}{c:F}(p:ç){k:Nat}(h:Ć):gE (Fv Λ ts.À) (Ð (ϯ).e)=Â (Ä<|Ϻd (ϯ).e):=by
 rw[ue h];rcases p.elder h with z|⟨j,J,a⟩
 .rw[z,Nz]
  rfl
 rw[a];let:=Vd p.nodup<|p.at_g J;rw[p.len]at this;rw[this];let e:Ϻd Ĵ=Ì (Ĺ j):=Ϗ F.gi (P3 Á)
 rw[e]
def KG(ts:À Nd)(c:F)(p:ç)(f:é):gH [Ï è,Ï<|nD Λ]=.ok (Ę<|ak ć):=by
 erw[gH,nG];let D:∀a:L3.Env,eD1 (ġ<|Ç 1) (ġ<|Ç 1) a=.ok (.od<|Fv Λ 0):=λa=>rfl;let len:=p.í;simp![D];generalize L:Ŗ=r';show ϳ2 (λi a=>∃C v:Ü OD,a=[â è,â<|nD Λ,ϩH<|Fv Λ i,C,v,none]) ((ϲi _))
 .rintro i d a hd ⟨C,v,rfl⟩
  let(e,he,rfl):=kY hd;let hi:i<Ã Λ:=ϱC ((ϱa he)) eF
  obtain⟨k,H⟩:∃k,á Λ=Ş:=⟨Λ[i],Û⟩
  rw[Rp H]at he;cases he;let b:ϱK (Ã (Fv Λ i)):=by erw[Fv];rw[K9p,K0,Z7];show c8 Á
  simp![Fz,FV,b,Mm p.nodup H];show(_,_,rfl)
 ext ρ' rfl ⟨C,v,rfl⟩;let E:İ (Ã (fC<|nD Λ)):=ϑe eF len
 rw[E];simp![S5];generalize w:Į=rc;let e:=϶R (ϳj ë) (ϦA<|ndD ϯ) Λ Ϯk (Ô len<|K94<|aF Á) (by ext k H;let h:=p.mem.mp H;let g1:=fZ<|yR h;simp![g1,ndD]);subst e;clear w;let g:(Ê Λ λk=>Đ<|ndD ϯ).map OD.er=Ê Λ λk=>ndD ϯ:=Ô S1 Ϥ2
 simp![g,RI];generalize w:Į=rc;let e:=϶R (ϰU<|ndD ϯ) (ϦA<|ndD ϦX) Λ rfl (Ô len<|K94<|aF Á) (by ext k H;let h:=p.mem.mp H;let g1:=KQ p h;simp![ndD,Zw,g1]);subst e;clear w;let G:(Ê Λ λk=>Đ<|ndD ϦX)=ß ak ć OD.sh:=by erw[ak,aR];rw[S1,S1];rfl
 simp![G]
def CZ(ts:À Nd)(c:F)(p:ç)(a:é):ki [Ï è]=þ (Ą [Ï<|ak ć,Ï<|nD Λ]):=by erw[ki,qY];simp![Ly ts c p a,iP,KG ts c p a,aI]
namespace Lp
abbrev Row:=å
def sm:Nat->ϴy å|0,_=>0|n+1,f=>ĳ f+f n
def sm''{w0}:sm 0 w0=0:=rfl
def sm.a2{n f}:sm (n+1) f=(ĳ f+f n):=rfl
def pd:Nat->ϴy å|0,_=>1|n+1,f=>ϴv f*f n
def pd''{w0}:pd 0 w0=1:=rfl
def pd'{n f}:pd (n+1) f=(ϴv f*f n):=rfl
def px(n:Nat)(f:å)(i:Nat):Int:=ϴv (λk=>Ë (k=i) 1 (f k))
def aM{f g:å}:∀n,(ŵ<|f i=g i)->ĳ f=ĳ g:=by
 induction _ with|zero=>ext _;show rfl|succ n N3=>ext h;rw[sm.a2,sm.a2,ϺU,Ϩt]
def kH(a b:Int)(f g:å):∀n,ĳ (λi=>a*f i+b*g i)=a*ĳ f+b*ĳ g:=by
 induction _ with|zero=>rw[sm'',sm'',sm'',Zaa,Zaa];rfl|succ n N3=>rw[sm.a2,sm.a2,sm.a2,N3,Zav,Zav];lia
def cJ{f:å}:∀n,(ŵ<|f i=0)->ĳ f=0:=by
 induction _ with|zero=>ext _;show rfl|succ n N3=>ext h;rw[sm.a2,ϺU,Ϩt];rfl
def c7{f:å}{l:Nat}:∀n,l<n->(ŵ<|i≠l->f i=0)->ĳ f=f l:=by
 induction _ with
 |zero=>ext h _;show ϻw<|Zbh l
 |succ n N3=>
  ext h z;rw[sm.a2];cases e:l=n
  .subst e
   rw[cJ _ λi hi=>ϙv<|K9O hi,K8R]
  rw[N3 Á λi hi=>ϙv,z n (K8d n) ϩU,Zak]
def ED{f:å}:∀n,(ŵ<|0<=f i)->0<=ĳ f:=by
 induction _ with|zero=>ext _;show Zbr 0|succ n N3=>ext h;show Zfa ϺU Ϩt
theorem Ki{f:å}:∀n,ĳ f<0->∃i,i<n/\f i<0
 |0,h=>ϻw<|Int.lt_irrefl 0
 |n+1,h=>by
  cases e:f n<0
  .exact(n,K8d n,e)
  .rw[sm]at h
   let(i,H,a):=Ki (f:=f) n Á;show(i,K8f H,a)
def Mb{f:å}:∀n,(ŵ<|0<f i)->0<ϴv f:=by
 induction _ with|zero=>ext _;show Zdw|succ n N3=>ext h;show Zay ϺU Ϩt
def SF{f g:å}:∀n,(ŵ<|f i=g i)->ϴv f=ϴv g:=by
 induction _ with|zero=>ext _;show rfl|succ n N3=>ext h;rw[pd',pd',ϺU,Ϩt]
theorem Cj{f:å}{i:Nat}:∀n,i<n->f i*px n f i=ϴv f
 |0,h=>ϻw<|Zbh i
 |n+1,h=>by
  erw[px];rw[pd',pd'];cases e:n=i
  .subst e
   rw[Ĝ,Zbl,SF n (f:=λk=>Ë (k=n) 1 (f k)) (g:=f) λk H=>P3<|K9O H,Zai]
  .rw[ϲt,<-Cj (f:=f) (i:=i) n Á,Zae]
   rfl
def Bg{f:å}{i:Nat}(n:Nat)(h:ŵ (0<f i)):0<px n f i:=
 Mb n λk H=>by
  change 0<Ë (k=i) 1 (f k)
  split
  .decide
  .show h k H
def Lin(φ:ϴy Row):Prop:=∀(a b:Int)(x y:Row),φ (λj=>a*x j+b*y j)=a*φ x+b*φ y
def Lin.sub{φ:ϴy Row}(h:ϩ4){g p q:Int}{x' x y:Row}(e:∀j,g*x' j=p*x j-q*y j):g*φ x'=p*φ x-q*φ y:=by
 let H:=h g 0 x' x';let a:=h p (-q) x y;let f:(λj=>g*x' j+0*x' j)=λj=>p*x j+-q*y j:=by
  funext j;rw[Zam,Zak,e j,Zcc];lia
 rw[f,a,Zam,Zak,Zcc]at H;lia
structure St where
 T:Ϸj
 c:ņ
variable{n m z k:Nat}{R:Ϸj}
structure Inv(n m z k:Nat)(R:Ϸj)(S:St):Prop where
 piv:ŵ (0<ă ń)
 off:ŵ (∀l,l<=n->l≠i->S.T l ń=0)
 col:ŵ (ń<m)
 rhs:ŵ (0<=ă z)
 up:∀φ,ϩ4->(ŵ<|φ ă=0)->ŵ ϔB
 dn:∀φ,ϩ4->(ŵ ϔB)->(ŵ<|φ ă=0)/\φ ň=ň k*φ (R n)
 mp:0<ň k
 mz:ŵ (ă k=0)
structure Stp(n m z:Nat)(S S':St)(s r:Nat):Prop where
 hs:s<m
 pos:0<ň s
 fst:∀j,j<s->ň j<=0
 hr:r<n
 rp:0<ϱw s
 best:ŵ (0<ă s->Ϯc (ϱw z) (ă s) (ă z) (ϱw s) (S.c r<=ń))
 same:S'.T r=ϱw
 oth:ϲP (i≠r->∃g:Int,0<g/\∀j,g*S'.T i j=ϱw s*ă j-ă s*ϱw j)
 cr:S'.c r=s
 co:ŵ (i≠r->S'.c i=ń)
def tV{g a:Int}(hg:0<g)(h:0<g*a):0<a:=by
 cases e:0<a
 .show e
 let:=Int.mul_nonneg_of_nonpos_of_nonpos (a:=-g) (b:=a) Á Á;rw[Zcc]at this;lia
def RQ{g a:Int}(hg:0<g)(h:0<=g*a):0<=a:=by
 cases e:0<=a
 .show e
 let:=Zay hg (b:=-a) Á;rw[Zcx]at this;lia
def CO{g a:Int}(hg:0<g)(h:g*a=0):a=0:=by
 rcases Int.mul_eq_zero.mp h with e|e
 .lia
 show e
def Inv.step{S j:St}{s r:Nat}(I:ϰu S)(h:ϸk S j s r):ϰu j where
 piv i hi:=by
  cases e:i=r
  .subst e
   rw[h.same,h.cr];show h.rp
  .let(g,hg,q):=Ϧa ϴW e
   let H:=q ń;rw[ϕr ϩU,Zaa,Zau]at H;rw[ϥF e];show tV hg (ϫW<|Zay h.rp<|I.piv i hi)
 off i hi l L hne:=by
  cases e:i=r
  .subst e
   let(g,hg,q):=h.oth l L hne;let H:=q s;rw[h.cr];show CO hg (by rw[H,Zai<|S.T l s];lia)
  .rw[ϥF e]
   cases E:l=r
   .subst E
    rw[h.same];show ϫ9 l L hne
   .let(g,hg,q):=h.oth l L E
    let H:=q ń;rw[ϫ9 l L hne,ϕr ϩU,Zaa,Zaa]at H;show CO hg H
 col i hi:=by
  cases e:i=r
  .subst e
   rw[h.cr];show h.hs
  .rw[ϥF e]
   show ϓO
 rhs i hi:=by
  cases e:i=r
  .subst e
   rw[h.same];show ϓj
  .let(g,hg,q):=Ϧa ϴW e
   show RQ hg ?_;rw[q z];let p:=Zag (Zar h.rp) ϓj;cases E:0<ă s
   .let:=h.best i hi E
    rw[Zai<|ϱw z,Zai<|ă z]at this;lia
   .let A:=ϤP (-ă s) (b:=ϱw z) Á<|I.rhs r h.hr
    rw[Zcc]at A;lia
 up φ hφ hz i hi:=by
  let d:φ ϱw=0:=by
   let:=hz r h.hr;rwa [h.same]at this
  show I.up φ hφ ϔP i hi;cases e:l=r
  .subst e
   show d
  .let(g,hg,q):=h.oth l (Zaj L) e
   let H:=hφ.sub q;rw[hz l L,d,Zaa,Zaa,Zau]at H;show CO h.rp H.Ï
 dn φ hφ hz:=by
  let(H,o):=I.dn φ hφ hz;show(ϔP,?_)
  .by_cases e:l=r
   .subst e
    rw[h.same];show H l L
   .let(g,hg,q):=h.oth l (Zaj L) e
    let f:=hφ.sub q;rw[H l L,H r h.hr,Zaa,Zaa]at f;show CO hg f
  .let(g,hg,q):=h.oth n ϰl<|Zbx h.hr
   let f:=hφ.sub q;let c:=q k;rw[H r h.hr,o,Zaa,Zau]at f;rw[όC,Zaa,Zau]at c;show ϔI hg;rw[f,<-Zae,<-c,Zae]
 mp:=by let(g,hg,q):=h.oth n ϰl<|Zbx h.hr;let c:=q k;rw[όC,Zaa,Zau]at c;show tV hg (ϔK<|Zay h.rp I.mp)
 mz i hi:=by
  cases e:i=r
  .subst e
   rw[h.same];show I.mz i hi
  .let(g,hg,q):=Ϧa ϴW e
   let c:=q k;rw[όC,I.mz i hi,Zaa,Zaa]at c;show CO hg c
def P(n:Nat)(S:St):Int:=ϴv (λi=>ă ń)
def Q(n:Nat)(S:St)(i:Nat):Int:=px n (λi=>ă ń) i
def ph(n:Nat)(S:St)(c:Nat)(a:Row):Int:=϶I*a c-ĳ (λi=>ă c*ϱM*a ń)
def vV(n:Nat)(S:St)(c:Nat):Lin (϶y c):=λa b x y=>by
 change ϶I*(a*x c+b*y c)-ĳ (λi=>ă c*ϱM*(ϯv ń))=a*(϶I*x c-ĳ (λi=>ă c*ϱM*x ń))+b*(϶I*y c-ĳ (λi=>ă c*ϱM*y ń));let h:=kH a b (λi=>ă c*ϱM*x ń) (λi=>ă c*ϱM*y ń) n;let H:(λi=>ă c*ϱM*(ϯv ń))=λi=>a*(ă c*ϱM*x ń)+b*(ă c*ϱM*y ń):=by
  funext i;rw[Zav,Zad _ a,Zad _ b]
 rw[H,h,Zbw,Zbw,Zav,Zad _ a,Zad _ b];lia
def w_{S:St}(I:ϰu S):0<϶I:=Mb n I.piv
def Ml{S:St}(I:ϰu S)(i:Nat):0<ϱM:=Bg n I.piv
def PQ{S:St}{i:Nat}(hi:i<n):ă ń*ϱM=϶I:=Cj (f:=λi=>ă ń) n hi
def TM{S:St}(I:ϰu S)(c:Nat){l:Nat}(a:l<n):϶y c (S.T l)=0:=by
 erw[ph];rw[c7 n a λi hi h=>Ĥ (ϫ9 l (Zaj a) Ϧj) Zaa,Zae,Zai<|Q n S l,PQ a,Zai];lia
def Ow{S:St}(I:ϰu S)(c:Nat):϶y c ň=϶I*ň c:=χ ph (cJ n (ϰp (Ĥ (ϫ9 n ϰl<|Zbx hi) Zaa))) Zau
def nK{S:St}(I:ϰu S)(c:Nat):ŵ (϶y c (R i)=0):=
 I.up _ (ϨU c) λ_ a=>TM I c a
def BE{S:St}(I:ϰu S)(c:Nat):϶I*ň c=ň k*϶y c (R n):=Ϙ (Ow I c) (I.dn _ (ϨU c)<|nK I c).2
def Ln{S U:St}(I:ϰu S)(J:ϰu U)(c:Nat):϶y c ϸQ=ϸQ k*϶y c (R n):=
 (J.dn _ (ϨU c)<|nK I c).2
def Qp{S U:St}{s:Nat}(I:ϰu S)(J:ϰu U)(h:0<ň s):0<϶y s ϸQ:=by rw[Ln I J s];show Zay J.mp<|tV I.mp ?_;rw[<-BE I s];show Zay Ϫj h
def Ma{S U:St}{s:Nat}(I:ϰu S)(J:ϰu U)(h:0<ň s)(j:ϸQ s<=0):∃i,i<n/\ă s*ϸQ ń<0:=by
 let H:=Qp I J h;erw[ph]at H;let c:=Zag (Zar Ϫj) (b:=-ϸQ s) Á;rw[Zcx]at c;let(i,hi,g):=Ki (f:=λi=>ă s*ϱM*ϸQ ń) n Á;show(i,hi,?_);let d:ă s*ϱM*ϸQ ń<0:=g;rw[Zcs]at d;cases e:ă s*ϸQ ń<0
 .show e
 let:=ϤP (ă s*ϸQ ń) Á ϒ5;lia
def Bas(n:Nat)(S:St)(v:Nat):Prop:=∃i,i<n/\ń=v
def Ze(n z:Nat)(S:St)(v:Nat):Prop:=ŵ (ń=v->ă z=0)
def Bas.stay{S a:St}{s r v:Nat}(h:ϸk S a s r)(H:v≠s)(b:v≠S.c r):Bas n S v↔Bas n a v:=by
 constructor
 .rintro⟨i,hi,e⟩
  let:i≠r:=λq=>b (by rw[<-e,q]);show(i,hi,by rw[ϥF this,e])
 ext⟨i,hi,e⟩;cases q:i=r
 .subst q
  rw[h.cr]at e;show ĭ e.Ï H
 show(i,hi,by rw[<-ϥF q,e])
def Ze.stay{S a:St}{s r:Nat}(h:ϸk S a s r)(d:ϱw z=0)(v:Nat):Ze n z S v↔Ze n z a v:=by
 constructor
 .intro q i hi e
  cases E:i=r
  .subst E
   rw[h.same,d]
  let(g,hg,w):=Ϧa ϴW E;let H:=w z;rw[q i hi (by rw[<-ϥF E,e]),d,Zaa,Zaa]at H;show CO hg H
 ext q i hi e;cases E:i=r
 .subst E
  show d
 let(g,hg,w):=Ϧa ϴW E;let H:=w z;rw[q i hi (by rw[ϥF E,e]),d,Zaa,Zaa,Zau]at H;show CO h.rp H.Ï
structure Run(n m z k:Nat)(R:Ϸj)(S:Ϧb)(s r:ņ)(a b:Nat):Prop where
 inv:∀i,a<=i->i<=b->ϰu (S i)
 stp:Ϲs (ϸk (S i) ϥT (s i) (r i))
 dg:Ϲs (Ϧc (r i) z=0)
def Run.sub{S:Ϧb}{s r:ņ}{a b A B:Nat}(h:ϧj a b)(H:a<=A)(c:B<=b):ϧj A B:=
 ⟨ϐk h.inv K9C,ϐk h.ē K9P,ϐk h.dg K9P⟩
def Run.ze{S:Ϧb}{s r:ņ}{a b:Nat}(h:ϧj a b)(v:Nat):∀d,a+d<=b->(Ze n z (S a) v↔Ze n z (S<|a+d) v)|0,_=>Iff.rfl|d+1,q=>ĉ (h.ze v d Á)<|Ze.stay (h.ē (a+d) Á Á) (h.dg (a+d) Á Á) v
def Run.bas{S:Ϧb}{s r:ņ}{a b v:Nat}(h:ϧj a b)(H:Ϲs (v≠s i/\v≠ϥd)):∀d,a+d<=b->(Bas n (S a) v↔ϩn (a+d) v)|0,_=>Iff.rfl|d+1,q=>ĉ (h.bas H d Á)<|Bas.stay (h.ē (a+d) Á Á) (H (a+d) Á Á).1 (H (a+d) Á Á).2
def Inv.nb{S:St}{v:Nat}(I:ϰu S)(h:ň v≠0):¬Bas n S v:=by ext⟨i,hi,e⟩;show h (by rw[<-e];show ϫ9 n ϰl<|Zbx hi)
def Run.once{S:Ϧb}{s r:ņ}{a b t p q:Nat}(h:ϧj a b)(B:Ϲs (s i<=t/\ϥd<=t))
  (P:a<=p) (p2:p<b) (E:s p=t) (Q:a<=q) (f:q<b) (eq:(S q).c (r q)=t):False:=by
 let H:=h.inv q Q<|Zaj f;let U:=h.inv p P<|Zaj p2;let d:=h.ē q Q f;let u:=h.ē p P p2;let l:s q≠t:=λe=>by
  let:=H.off (r q) d.hr n ϰl<|Zbx d.hr;rw[eq,<-e]at this;let:=d.ú;lia
 let L:s q<t:=Nat.lt_of_le_of_ne (B q Q f).1 l;let(i,hi,g):=Ma H U d.ú (u.fst _<|by rw[E];show L);let N:(S p).T n ϶i≠0:=λe=>by
  rw[e,Zaa]at g;lia
 let nb:=U.nb N;let A:ϩn q ϶i:=ϒb;let hle:϶i<=t:=by
  cases e:϶i<=t
  .show e
  show ĭ ?_ nb;let V:∀j,a<=j->j<b->϶i≠s j/\϶i≠(S j).c (r j):=λj D F=>ϩD (B j D F) (ϙU Ϻm,ϙU Ϥw)
  let x:=h.bas V (q-a) Á;let X:=h.bas V (p-a) Á;rw[ê (a+(q-a)=q)]at x;rw[ê (a+(p-a)=p)]at X;show X.mp<|x.ó A
 let y:϶i≠t:=λe=>by
  let C:i=r q:=by
   cases w:i=r q
   .show w
   let:=ϛV<|K8g w;rw[e,<-eq]at this;let:=H.piv (r q) d.hr;lia
  let v:=u.ú;rw[E]at v;rw[e,C]at g;let:=Zay d.rp v;lia
 let G:(S p).T n ϶i<=0:=u.fst _ (by rw[E];lia);let o:0<ϑT:=by
  cases e:0<ϑT
  .show e
  let:=ϤP (-ϑT) (b:=-(S p).T n ϶i) Á Á;rw[Zet]at this;lia
 let K:Ze n z (S q) ϶i:=by
  let x:=h.ze ϶i (q-a) Á;let X:=h.ze ϶i (p-a) Á;rw[ê (a+(q-a)=q)]at x;rw[ê (a+(p-a)=p)]at X;show x.mp<|X.ó λj J e=>ĭ ⟨j,J,e⟩ nb
 let Z:=K i hi rfl;let I:=h.dg q Q f;let:=d.best i hi o;rw[Z,I,eq,Zam,Zam]at this;lia
def Run.short{S:Ϧb}{s r:ņ}:∀(t a b:Nat),ϧj a b->a<=b->(Ϲs<|s i<t/\ϥd<t)->b-a<2^t:=by
 induction _ with
  |zero=>
   intro a b h hab hb
   cases e:a=b
   .subst e
    rw[K8c];decide
   .show ĭ (hb a (N4 a) Á).1<|Zbh _
  |succ t ih=>
   intro a b h hab hb
   let two:2^(t+1)=2^t+2^t:=Ă Zcm
   let H:Ϲs (s i<=t/\ϥd<=t):=λi o q=>⟨Nat.le_of_lt_succ (hb i o q).1,Nat.le_of_lt_succ (hb i o q).2⟩
   let main:∀p,a<=p->p<b->(Ϲs<|i≠p->s i≠t/\ϥd≠t)->b-a<2^(t+1):=λp T p2 O=>by
    let W:=ih a p (h.sub (N4 a)<|Zaj p2) T λi I f=>ϓh (H i I<|Zce f p2) (O i I (Zce f p2)<|K9O f)
    let F:=ih (p+1) b (ϛL<|N4 b) p2 λi I f=>ϓh (H i Á f) (O i Á f Á)
    rw[two];lia
   cases c1:∃p,a<=p/\p<b/\s p=t
   .let(p,T,p2,P):=c1
    let no:Ϲs (ϥd≠t):=λi I f e=>h.once H T p2 P I f e;show main p T p2 λi I f N=>⟨λe=>?_,no i I f⟩
    let key:Ϙh (s u) (s v):=λu v U l A V x ev=>by
     let B:ϩn (u+1) t:=⟨r u,(ϓP).hr,by rw[(ϓP).cr,x]⟩
     let bs:∀d,϶x<=v->ϩn ϶x t:=by
      ext d
      induction d with
      |zero=>ext _;show B
      |succ d ih=>
       ext D;let(j,J,E):=ih Á;let g:=h.ē ϶x Á Á;let y:j≠r ϶x:=λw=>no ϶x Á Á (by rw[<-w,E]);show(j,J,by rw[ê (u+1+(d+1)=϶x+1),g.co j J y,E])
     let bv:=bs ϨK Á;rw[ê (u+1+ϨK=v)]at bv;let pv:=(h.ē v Á A).pos;rw[ev]at pv;show(h.inv v Á Á).nb (Zbd pv) bv
    rcases Zec N with w|w
    .show ϙM
    .show ϙN
   .let ns:Ϲs (s i≠t):=λi I f e=>c1 ⟨i,I,f,e⟩
    cases L:∃p,a<=p/\p<b/\(S p).c (r p)=t
    .let(p,T,p2,P):=L
     show main p T p2 λi I f N=>⟨ns i I f,λe=>?_⟩
     let key:Ϙh ((S u).c (r u)) ((S v).c (r v)):=λu v U l A V x ev=>by
      let C:¬ϩn (u+1) t:=by
       ext⟨j,J,E⟩;let g:=ϓP;cases w:j=r u
       .subst w
        rw[g.cr]at E;show ns u U l E
       .rw[g.co j J w]at E
        let o:=(ϘY Á).off j J (r u) (Zaj g.hr)<|K8g w;let q:=(ϘY Á).piv (r u) g.hr;rw[E]at o;rw[x]at q;lia
      let bs:∀d,϶x<=v->¬ϩn ϶x t:=by
       ext d
       induction d with
       |zero=>ext _;show C
       |succ d ih=>
        ext D;ext⟨j,J,E⟩;let g:=h.ē ϶x Á Á;rw[ê (u+1+(d+1)=϶x+1)]at E;cases w:j=r ϶x
        .rw[w,g.cr]at E
         show ns ϶x Á Á E
        .rw[g.co j J w]at E
         show ih Á ⟨j,J,E⟩
      let bv:=bs ϨK Á;rw[ê (u+1+ϨK=v)]at bv;show bv ⟨r v,(h.ē v Á A).hr,ev⟩
     rcases Zec N with w|w
     .show ϙM
     .show ϙN
    .let:=ih a b h hab λi I f=>by
      let:=H i I f;let:=ns i I f;let:ϥd≠t:=λe=>L ⟨i,I,f,e⟩;lia
     rw[two];lia
end Lp
namespace Lp
variable{n m z k:Nat}{R:Ϸj}
structure Dual(n m:Nat)(R:Ϸj)(u:Int)(d:Row):Prop where
 up:0<u
 le:∀j,j<m->d j<=0
 lin:∀φ,ϩ4->(ŵ ϔB)->φ d=u*φ (R n)
def Dual.bound{u:Int}{d:Row}(D:Ϥ8){S:St}(I:ϰu S):ň k*d z<=u*ň z:=by
 let h:=BE I z;let H:=D.lin _ (ϨU z)<|nK I z;let c:϶I*d z<=϶y z d:=by
  erw[ph];let:ĳ (λi=>ă z*ϱM*d ń)<=0:=by
   let e:=ED (f:=λi=>0*0+(-1)*(ă z*ϱM*d ń)) n λi hi=>by
    let g:=Zag (Zag ϓj ϒ5) (b:=-d ń) (Ĳ<|D.le _ ϓO);rw[Zcx]at g;change 0<=0*0+(-1)*(ă z*ϱM*d ń);lia
   rw[kH 0 (-1) (Ţ 0) (λi=>ă z*ϱM*d ń) n]at e;lia
  lia
 let r:=Ϫj;let M:=I.mp;show Zci (a:=϶I) ?_ r;rw[Zad ϶I u,h,Zad u,<-H,Zad];show Zat c<|Zar M
def Dual.some{u:Int}{d:Row}(D:Ϥ8){S:St}(I:ϰu S){s:Nat}(l:s<m)(h:0<ň s):∃i,i<n/\0<ă s:=by
 show ϫG;let N:ŵ (ă s<=0):=ϰp (Int.not_lt.mp λw=>no ⟨i,hi,w⟩);let H:=BE I s;let c:=D.lin _ (ϨU s)<|nK I s;let e:0<϶y s (R n):=tV I.mp (by rw[<-H];show Zay Ϫj h);let o:0<϶y s d:=ϔK (Zay D.up e)
 let g:϶y s d<=0:=by
  erw[ph];let p:=ED (f:=λi=>ă s*ϱM*d ń) n λi hi=>by
   let g:=Zag (ϤP (-ă s) (Ĳ<|N i hi) ϒ5) (b:=-d ń) (Ĳ<|D.le _ ϓO);rw[Zcc,Zet]at g;show g
  let j:=Zag (Zar Ϫj) (b:=-d s) (Ĳ<|D.le s l);rw[Zcx]at j;lia
 lia
def fac:å|0=>1|h+1=>fac h*(h+1)
def GZ:∀h,0<fac h:=by
 induction _ with|zero=>show Zdw|succ h N3=>show Zay (N3) Á
def Oc:∀(h:Nat)(a:Int),0<a->a<=h->a ∣ fac h:=by
 induction _ with
 |zero=>
  ext a H b;lia
 |succ h N3=>
  ext a H b;cases e:a=(h:Int)+1
  .exact(fac h,by rw[e,fac,Zai])
  let(c,C):=N3 a H Á;show(c*(h+1),by rw[fac,C,Zae])
def wt(n z k H:Nat)(S:St):Int:=ϴm / ň k*ň z
def LL{S:St}{H:Nat}(I:ϰu S)(h:ň k<=H):ϳ0 S*ň k=ϴm*ň z:=χ wt Zcs (Int.ediv_mul_cancel<|Oc H _ I.mp h)
def PH{S a:St}{s r H:Nat}(I:ϰu S)(h:ϸk S a s r)(j:ň k<=H)(l:ϸv<=H):
  ϳ0 a<=ϳ0 S/\(ϱw z≠0->ϳ0 a<ϳ0 S):=by
 let i:=I.step h;let e1:=LL I j;let E:=LL i l;let(g,hg,q):=h.oth n ϰl<|Zbx h.hr;let o:=q z;let Q:=q k;rw[όC,Zaa,Zau]at Q;let M:=I.mp;let b:=i.mp;let f:=GZ H;let B:=I.rhs r h.hr;let p:=h.ú;let key:g*(ϭi*ň k-ň z*ϸv)=-(ň s*ϱw z*ň k):=by
  rw[Zbw,<-Zae,o,Zad g,Q,Zdn,Zad<|ň z,<-Zae (ϱw s)];lia
 let e:(ϳ0 S-ϳ0 a)*(ň k*ϸv)*g=ϴm*(ň s*ϱw z*ň k):=by
  let A:ϳ0 S*(ň k*ϸv)=ϴm*(ň z*ϸv):=by rw[<-Zae,e1,Zae]
  let c:ϳ0 a*(ň k*ϸv)=ϴm*(ϭi*ň k):=by rw[Zai<|ň k,<-Zae,E,Zae]
  rw[Zdn,A,c,<-Zbw,Zae,Zai _ g];let:g*(ň z*ϸv-ϭi*ň k)=ň s*ϱw z*ň k:=by
   let d:ň z*ϸv-ϭi*ň k=-(ϭi*ň k-ň z*ϸv):=Á
   rw[d,Zcx,key,Int.neg_neg]
  rw[this]
 let w:0<ň k*ϸv*g:=Zay (Zay M b) hg;let sgn:0<=ϴm*(ň s*ϱw z*ň k):=Zag (Zar f)<|Ϝk<|Zar M;rw[Zae,Zai]at e;constructor
 .let:=RQ w (ϻq sgn)
  lia
 ext N;let:=tV w (ϻq<|Zay f<|Zay (Zay p Á) M);lia
def VN{S:Ϧb}{s r:ņ}{u:Int}{d:Row}{H:Nat}(D:Ϥ8)(h:∀i,ϰu<|S i)(o:∀i,ϸk (S i) ϥT (s i)<|r i)(p:∀i,Ϧc n k<=H):False:=by
 let -zeta f:å:=λi=>u*ϳ0 (S i)-ϴm*d z
 let U:=D.up;let fn:∀i,0<=f i:=λi=>by
  let g:=D.bound<|h i;let j:=LL (h i)<|p i;let l:ϴm*(Ϧc n k*d z)<=ϴm*(u*Ϧc n z):=Zat g<|Zar<|GZ H;rw[Zad ϴm u,<-j,Zad,<-Zae u,Zai _<|Ϧc n k]at l;let:=Zci l (h i).mp;change 0<=u*ϳ0 (S i)-ϴm*d z;omega
 let fd:∀i,f (i+1)<=f i/\(Ϧc (r i) z≠0->f (i+1)<f i):=λi=>by
  let(A,t):=Ϝl<|p<|i+1;show(?_,λw=>?_)
  .let:=Zat A<|Zar U
   change u*ϳ0 ϥT-ϴm*d z<=u*ϳ0 (S i)-ϴm*d z;omega
  let:=Int.mul_lt_mul_of_pos_left (t w) U;change u*ϳ0 ϥT-ϴm*d z<u*ϳ0 (S i)-ϴm*d z;omega
 let mono:∀a c,f (a+c)<=f a:=by
  ext a c
  induction c with|zero=>show ϺB|succ c ih=>show Zeq (fd<|a+c).1 ih
 let B:∀q:Nat,f Ϻr+q<=f 0:=by
  ext q
  induction q with
  |zero=>rw[Nat.zero_mul];show Int.le_of_eq<|Zak _
  |succ q ih=>
   let:∃i,Ϻr<=i/\i<Ϻr+2^m/\Ϧc (r i) z≠0:=by
    show ϫG;let:=Run.short (n:=n) (z:=z) (k:=k) (R:=R) (S:=S) (s:=s) (r:=r) m Ϻr (Ϻr+2^m) ⟨λi _ _=>h i,λi _ _=>o i,λi g j=>Zbc λw=>no ⟨i,g,j,w⟩⟩ (Nat.le_add_right _ _)
     λi _ _=>⟨(o i).hs,(h i).col _ (o i).hr⟩
    omega
   let(i,g,j,l):=this;let b1:=mono Ϻr<|i-Ϻr;rw[show Ϻr+(i-Ϻr)=i by omega]at b1;let v:=(fd i).2 l;let I:=mono (i+1) ϚN;rw[show i+1+ϚN=(q+1)*2^m by rw[Zdo];omega]at I;omega
 let b:=B<|ĩ (f 0)+1;let c:=fn<|(ĩ (f 0)+1)*2^m;let e:=fn 0;omega
def it{a:Type}(nx:a->a):Nat->a->a|0,x=>x|i+1,x=>it nx i Ϫa
def GC{a:Type}(nx:a->a):∀(i:Nat)(x:a),it nx (i+1) x=nx Ϩk:=by
 induction _ with|zero=>ext _;show rfl|succ i N3=>ext x;show N3 Ϫa
def Be{a:Type}(nx:a->a)(p:a->Prop):Nat->a->Prop|0,x=>p x|i+1,x=>¬p x/\Be nx p i Ϫa
def QH{a:Type}{nx:a->a}{p:a->Prop}:∀(i:Nat)(x:a),p Ϩk->∃j,Be nx p j x:=by
 induction _ with
 |zero=>ext x h;show(0,h)
 |succ i N3=>
  ext x h;cases e:p x
  .exact(0,e)
  let(j,J):=N3 Ϫa h;show(j+1,e,J)
def Halt(n m:Nat)(S:St):Prop:=∀j,j<m->ň j<=0
def ends{a:Type}{vw:a->St}{nx:a->a}{J:a->Prop}{u:Int}{d:Row}{H:Nat}(D:Ϥ8)(I:∀x,J x->ϰu Ϻx)(e:∀x,J x->(Ϻx).T n k<=H)
  (b:∀x,J x->¬϶7 Ϻx->J Ϫa/\∃s r,ϸk Ϻx (vw Ϫa) s r) (x:a) (c:J x):∃j,Be nx (λx=>϶7 Ϻx) j x:=by
 show ϫG;let N:∀i,¬϶7 (vw Ϩk):=λi h=>no<|QH i x h;let l:∀i,J Ϩk:=by
  ext i
  induction i with|zero=>show c|succ i ih=>rw[GC];show(b _ ih<|N i).1
 let t:∀i,∃p:Ϻ,ϸk (vw Ϩk) (vw<|it nx (i+1) x) p.1 p.2:=λi=>by let(s,r,h):=(b _ (l i)<|N i).2;rw[<-GC nx i x]at h;show((s,r),h)
 show VN (S:=λi=>vw Ϩk) (s:=λi=>(Ϸ3<|t i).1) (r:=λi=>(Ϸ3<|t i).2) (H:=H) D (λi=>I _<|l i) (λi=>Zab<|t i) λi=>e _<|l i
end Lp
namespace Lp
variable{n m z k:Nat}{R:Ϸj}
def php:∀(b:Nat)(f:ņ),(∀i,i<=b->f i<b)->∃i j,i<j/\j<=b/\f i=f j:=by
 induction _ with
 |zero=>ext f h;show ĭ (h 0<|N4 0)<|Zbh _
 |succ b N3=>
  ext f h;cases c:∃i,i<=b/\f i=ϩB
  .let(i,a,H):=c
   show(i,b+1,Á,ì,H)
  let n:∀i,i<=b->f i≠ϩB:=λi a H=>c ⟨i,a,H⟩;let B:=h (b+1) ì;let(i,j,a,H,e):=N3 (λi=>Ë (ϩB<f i) (f i-1) (f i)) λi hi=>by
   let:=n i hi;let:=h i Á;change(Ë (ϩB<f i) (f i-1)<|f i)<b
   split<;>lia
  show(i,j,a,Á,?_);let A:=n i Á;let g:=n j H;let d:(Ë (ϩB<f i) (f i-1)<|f i)=(Ë (ϩB<f j) (f j-1)<|f j):=e
  split at d<;>split at d<;>lia
def enc(B:Nat):Nat->ņ->Nat|0,_=>0|e+1,v=>ϩC v+v e*B^e
def enc''{B w0}:enc B 0 w0=0:=rfl
def enc'{B e v}:enc B (e+1) v=(ϩC v+v e*B^e):=rfl
def E6{B:Nat}{v:ņ}:∀e,(ϩ9<|v q<B)->ϩC v<B^e:=by
 induction _ with
 |zero=>ext _;rw[enc'',Zeu];show Nat.zero_lt_one
 |succ e N3=>
  ext h;let a:=N3 λq Q=>h q<|K8f Q;let H:=ϒK<|h e<|K8d e;rw[Zdo]at H;rw[enc',Zcm,Zdp<|B^e];lia
theorem sN{B:Nat}{v w:ņ}:∀e,(ϩ9<|v q<B)->(ϩ9<|w q<B)->ϩC v=ϩC w->ϩ9 (v q=w q)
 |0,_,_,_,q,H=>ϙT<|Zbh q
 |e+1,hv,hw,h,q,H=>by
  let a:=E6 e (ϯ1 hv);let b:=E6 e (ϯ1 hw);rw[enc',enc']at h;let e1:v e=w e:=by
   rcases Zba (v e) (w e)with c|c|c
   .let:=ϒK c
    rw[Zdo]at this;lia
   .show c
   .let:=ϒK c
    rw[Zdo]at this;lia
  cases c:q=e
  .rw[c,e1]
  .rw[e1]at h
   show sN e (ϯ1 hv) (ϯ1 hw) (Nat.add_right_cancel h) q Á
def dig(B q i:Nat):Nat:=i / B^q%B
def Hn(B i:Nat):∀e,ϩC (λq=>dig B q i)=i%B^e:=by
 induction _ with|zero=>rw[enc'',Zeu,Nat.mod_one]|succ e N3=>rw[enc',N3,Zcm,Nat.mod_mul,Zdp<|B^e];rfl
def Le{f:å}{c:Int}:∀N:Nat,(Ϫc<|-c<=f i/\f i<=c)->Ś (-(N*c)) (sm N f) (N*c):=by
 induction _ with
 |zero=>ext _;rw[sm''];lia
 |succ N N3=>
  ext h;let H:=ϺU;let a:=h N<|K8d N;rw[sm.a2];let:ä (N+1)*c=N*c+c:=by rw[Int.natCast_succ,Zbq,Zaq]
  lia
def sJ{a b A C:Int}(h:-A<=a/\a<=A)(H:-C<=b/\b<=C):ϥh (A*C) (a*b):=by
 let T:=ϤP (A-a) (b:=C+b) Á Á;let p2:=ϤP (A+a) (b:=C-b) Á Á;let P:=ϤP (A-a) (b:=C-b) Á Á;let p:=ϤP (A+a) (b:=C+b) Á Á;rw[Zdn,Zav,Zav]at T;rw[Zbq,Zbw,Zbw]at p2;rw[Zdn,Zbw,Zbw]at P;rw[Zbq,Zav,Zav]at p;lia
def Ky(e A:Nat)(o:0<A)(F:Nat->å)(r:ϩ9 (∀i,i<e+1->ϺX ϦR)):
  ∃x:å,(∃i,i<e+1/\x i≠0)/\(ϩ9<|ϰR (e+1) (x i*ϦR)=0)/\∀i,-(ä (϶k^e))<=x i/\x i<=ϱB (϶k^e):=by
 generalize s:϶k^e=K;let -zeta D:=϶k*K+1
 let -zeta w:Nat->ņ:=λj q=>(ĩ (ϰR (e+1) (Ì (Ϥ i j)*ϦR)+ϱB ϻR))
 let d:∀i j,Ì (Ϥ i j)<=K:=λi j=>by
  let:Ϥ i j<K+1:=Nat.mod_lt _<|Zdf K;lia
 let V:∀j q,q<e->Ś (-(ä ϻR)) (ϰR (e+1) (Ì (Ϥ i j)*ϦR)) (ϱB ϻR):=λj q H=>by
  let a:=Le (f:=λi=>Ì (Ϥ i j)*ϦR) (c:=K*A) (e+1) λi hi=>sJ ⟨Ĳ (d i j),d i j⟩<|r q H i hi;rw[show ä ϻR=ä (e+1)*(Ì K*A)by rw[Zbz,Zbz,Zae,Zai ώR]];show a
 let W:∀j q,q<e->w j q<D:=λj q H=>by
  let:=V j q H;let t:ϒM ϶k K ϻR:=by rw[Zek 2,Zek 2,Nat.two_mul]
  change ĩ (_:Int)<϶k*K+1;lia
 let m:D^e<(K+1)^(e+1):=by
  let a:D<=϶k*(K+1):=by
   change ϶k*K+1<=_;let:1<=϶k:=Zfq Á o;rw[Nat.mul_add ϶k,Zfr ϶k];show Nat.add_le_add_left this _
  let b:=Zde a e;rw[Nat.mul_pow,s]at b;rw[Zcm,Zdp<|(K+1)^e];let g:0<(K+1)^e:=Zfs<|Zdf K;rw[Zdo];lia
 let(i,j,a,b,g):=php (D^e) (λj=>enc D e<|w j) λj _=>E6 e<|W j;let I:∃q,q<e+1/\Ϥ q i≠Ϥ q j:=by
  show ϫG;let k:=Hn (K+1) i<|e+1;let n:=Hn (K+1) j<|e+1;rw[Nat.mod_eq_of_lt Á]at k;rw[Nat.mod_eq_of_lt Á]at n;let ext:∀(v u:ņ) f,(∀q,q<f->v q=u q)->enc (K+1) f v=enc (K+1) f u:=by
   ext v u f
   induction f with|zero=>ext _;rfl|succ f ih=>ext H;rw[enc',enc',ih λq h=>H q<|K8f h,H f<|K8d f]
  let:=ext (λq=>Ϥ q i) (λq=>Ϥ q j) (e+1) λq H=>Zbc λc=>no ⟨q,H,c⟩;lia
 show(λq=>Ì (Ϥ q i)-Ϥ q j,?_,ϨQ,λq=>?_)
 .let(q,Q,E):=I
  show(q,Q,ϳZ (Ì (Ϥ q i)-Ϥ q j≠0))
 .let b1:w i q=w j q:=sN e (W i) (W j) g q H
  let y:=V i q H;let z:=V j q H;let C:ĩ (ϻY (ϨJ<|Ì (Ϥ p i))+ϱB ϻR)=ĩ (ϻY (ϨJ<|Ì (Ϥ p j))+ϱB ϻR):=b1;let B:=kH 1 (-1) (ϨJ<|Ì (Ϥ p i)) (ϨJ<|Ì (Ϥ p j))<|e+1;let l:(ϨJ<|Ì (Ϥ p i)-Ϥ p j)=λp=>1*(Ì (Ϥ p i)*F q p)+(-1)*(Ì (Ϥ p j)*F q p):=by
   funext p;rw[Zdn];lia
  change ϻY (ϨJ<|Ì (Ϥ p i)-Ϥ p j)=0;rw[l,B];lia
 let c1:=d q i;let L:=d q j;change Ś (-(Ì K)) (Ì (Ϥ q i)-Ϥ q j) K;lia
def Prm(a:Row):Prop:=∀g:Int,0<g->(∀j,g ∣ a j)->g=1
def Sv{g:Int}{f:å}:∀N,(Ϫc<|g ∣ f i)->g ∣ sm N f:=by
 induction _ with|zero=>ext _;show Zdg g|succ N N3=>ext h;show Zdl ϺU<|h N<|K8d N
def Hj{N:Nat}{x y:å}{a b K:Int}{m:Row}(u:0<b)(X:∃i,i<N/\x i≠0)(h:Ϫc (b*x i=a*y i))(k:∀j,∃f:å,m j=sm N ϒc)(P:Prm m)(r:∀i,ϥh K (x i)):Ϫc (ϥh K (y i)):=by
 let s:a≠0:=λe=>by
  let(i,n,g):=X;let:=h i n;rw[e,Zam]at this;rcases Int.mul_eq_zero.mp this with c|c
  .lia
  show g c
 obtain⟨B,d⟩:Ì ϻs ∣ b:=Int.gcd_dvd_left b a;obtain⟨A,H⟩:Ì ϻs ∣ a:=Int.gcd_dvd_right b a;let hg:0<Ì ϻs:=by
  let:=Int.gcd_pos_of_ne_zero_left (a:=b) a ϱI;omega
 let p:0<B:=tV hg (by rw[<-d];show u);let g:Ϫc (B*x i=A*y i):=ϰp (by show ϔI hg;rw[<-Zae,<-Zae,<-d,<-H,ϭy])
 let o:Nat.Coprime B.natAbs A.ñ:=by
  let g1:ϻs*Nat.gcd B.natAbs A.ñ=ϻs:=by
   rw[<-Nat.gcd_mul_left];let Q:ϻs*B.natAbs=b.ñ:=by conv=>rhs;rw[d,Zda,Zff]
   let v:ϻs*A.ñ=a.ñ:=by conv=>rhs;rw[H,Zda,Zff]
   rw[Q,v];rfl
  let g2:0<ϻs:=ϱI
  show Nat.eq_of_mul_eq_mul_left g2 (Ĥ g1 Zfr)
 let dv:Ϫc (B ∣ y i):=ϰp (by rw[<-Int.natAbs_dvd_natAbs];show o.dvd_of_dvd_mul_left ?_;rw[<-Zda,<-g i hi,Zda];show Nat.dvd_mul_right _ _)
 let one:B=1:=P B p λj=>by let(f,F):=k j;rw[F];show Sv N λi hi=>Zbp (dv i hi) ϬV
 ext i hi;let l:=g i hi;rw[one,Zaq]at l;let q:=r i;let t:A≠0:=λe=>s (by rw[H,e,Zaa]);rw[l]at q;let big:(y i).natAbs<=(A*y i).natAbs:=Ô Zda (Zcq _ ϱI)
 omega
theorem Lin.sm{φ:ϴy Row}(h:ϩ4){w:å}{G:Ϸj}:∀N,φ (λj=>sm N ϒd)=sm N λq=>w q*φ (G q)
 |0=>ϮB (h 0 0 (Ţ 0) λ_=>0) Zam Zam
 |N+1=>by
  let H:=ϛv<|G N;let e:(λj=>Lp.sm (N+1) ϒd)=λj=>1*(Lp.sm N ϒd)+w N*G N j:=by
   funext j;rw[Lp.sm,Zaq]
  rw[e,H,h.sm N,Zaq,Lp.sm]
structure Mk(n m:Nat)(R:Ϸj):Prop where
 one:ϲP (R i (m+i)=1)
 oth:ϲP (∀q,q<=n->q≠i->R i (m+q)=0)
def vS{S:St}(I:ϰu S)(M:ϻZ){i:Nat}(hi:i<=n)(j:Nat):ă j=ϧw (ă (m+q)):=by
 let L:Lin λd:Row=>d j-ϧw (d (m+q)):=λa b x y=>by
  let h:=ϛl<|n+1;let e:(λq=>(ϯv<|m+q)*ϦS)=λq=>a*(x (m+q)*ϦS)+b*(y (m+q)*ϦS):=by
   funext q;rw[Zbq,Zae,Zae]
  change a*x j+b*y j-ϧw (ϯv<|m+q)=a*(x j-ϧw (x (m+q)))+b*(y j-ϧw (y (m+q)));rw[e,h,Zbw,Zbw];lia
 let r:ϲP (ϴ7-ϧw (R i (m+q))=0):=λi hi=>ϳr (c7 (l:=i) (n+1) Á λq Q H=>Ĥ (M.oth i hi q Á H) Zam) (M.one i hi) Zaq
 let(f,g):=I.dn _ L λi hi=>r i ϴW;cases c:i=n
 .subst c
  rw[r i<|N4 i,Zaa]at g;lia
 let:=f i Á;lia
def Hx{S:St}(I:ϰu S)(M:ϻZ){w:å}(h:ŵ (ĳ (λq=>w q*R q ń)=0)){q:Nat}(a:q<n):w q=0:=by
 let H:=(ϨU<|m+q).sm (w:=w) (G:=R) n;rw[cJ n (ϰp (Ĥ (nK I (m+q) i hi) Zaa))]at H;erw[ph]at H;let b:϶I*(ĳ<|λp=>w p*R p (m+q))-ĳ (λi=>ă (m+q)*ϱM*(ĳ<|λp=>w p*R p ń))=0:=H;rw[cJ (f:=λi=>ă (m+q)*ϱM*(ĳ<|λp=>w p*R p ń)) n (ϰp (Ĥ ϭy Zaa)),Zau,c7 (l:=q) n a λi hi e=>Ĥ (M.oth i ϴW q (Zaj a) ϩU) Zaa,M.one q<|Zaj a,Zbl]at b;show CO Ϫj b
def BV{S:St}{A:Nat}(I:Inv n m z (m+n) R S)(M:ϻZ)(g:0<A)(D:ϲP (∀j,ϺX ϴ7))(t:0<n){i:Nat}(hi:i<=n)(P:Prm ă):
  ∀q,q<=n->Ś (-(ä Ϲo)) (ă (m+q)) (ϱB Ϲo):=by
 cases c:i=n
 .subst c
  let(x,o,X,T):=Ky i A g (λq p=>R p<|S.c q) λq h p P=>D p Á _;let r:=I.mp;let key:∀q,q<i+1->ă (m+i)*x q=x i*ă (m+q):=λq h=>by
   let w:∀l,l<i->sm i (λq=>(ă (m+i)*x q+-(x i)*ă (m+q))*Ϸ5)=0:=λl a=>by
    let f:=X l a;let b:=ϘA ϭj;rw[Ϝw<|Zbx a]at b;rw[sm.a2]at f b;let e:(λq=>(ă (m+i)*x q+-(x i)*ă (m+q))*Ϸ5)=λq=>ă (m+i)*(x q*Ϸ5)+-(x i)*(ă (m+q)*Ϸ5):=by
     funext q;rw[Zbq,Zae,Zae]
    rw[e,kH];let b1:sm i (λq=>x q*Ϸ5)=-(x i*R i ϭj):=Á
    let B:sm i (λq=>ă (m+q)*Ϸ5)=-(ă (m+i)*R i ϭj):=Á
    rw[b1,B,Zcx,Zet,Zad];lia
   cases c:q=i
   .subst c
    show Zai _ _
   let:=Hx I M w (q:=q) Á;rw[Zcc]at this;lia
  ext q h;show Hj (N:=i+1) (y:=λq=>ă<|m+q) r o key (λj=>⟨λq=>ϦS,ϘA j⟩) P T q Á
 obtain⟨e,rfl⟩:∃e,n=e+1:=⟨n-1,Á⟩
 let H:i<e+1:=Á
 let(x,o,X,T):=Ky e A g (λq p=>R p<|S.c (Ë (q<i) q<|q+1)) λq h p P=>D p Á _;let s:=I.piv i H;let Z:=I.mz i H;let ro:∀j,ă j=ϻY (λq=>ă (m+q)*ϦS):=λj=>by let:=vS I M hi j;rw[sm.a2,Z,Zam,Zak]at this;show this
 let key:∀q,q<e+1->ă ń*x q=ϻY (ϔL ń)*ă (m+q):=λq h=>by
  generalize k:ϻY (ϔL ń)=α;let w:∀l,l<e+1->ϻY (λq=>(ă ń*x q+-α*ă (m+q))*Ϸ5)=0:=λl a=>by
   let b:=ro ϭj;let e1:(λq=>(ă ń*x q+-α*ă (m+q))*Ϸ5)=λq=>ă ń*(x q*Ϸ5)+-α*(ă (m+q)*Ϸ5):=by
    funext q;rw[Zbq,Zae,Zae]
   rw[e1,kH,<-b];cases c:l=i
   .rw[c,k,Zcc,Zai]
    lia
   rw[I.off l a i hi<|K8g c,Zaa,Zak];let f:ϻY (ϔL ϭj)=0:=by
    cases d:l<i
    .let:=X l Á
     rwa [Os d]at this
    let:=X (l-1) Á;rwa [P3 Á,ê (l-1+1=l)]at this
   rw[f,Zaa]
  let:=Hx I M w (q:=q) h;rw[Zcc]at this;lia
 let le:=Hj (N:=e+1) (y:=λq=>ă<|m+q) s o key (λj=>⟨λq=>ϦS,ro j⟩) P T;let up:϶k^e<=(2*(e+1+1)*A)^(e+1):=by show K9C (Zde (Zcj A<|ϛ8<|K91<|e+1) e) ?_;show Zbu (Zfq Á g)<|K91 e
 ext q h;cases d:q=e+1
 .rw[d,Z]
  lia
 let:=le q Á;omega
end Lp
namespace Lp
def pA(l:À Int)(k:Nat):Int:=Ó (l[k]?) 0
def gcL(d:Int)(ns:À Int):Int:=ns.foldl (λd n=>(ä όD)) d
def gy(ns:À Int):À Int:=ns.Ç (· / ϰM ns)
def OZ{a b:Int}:Int.gcd b (a.fmod b)=ϫP:=by rw[Int.fmod_def,Zai b,Int.gcd_sub_mul_right_right,Int.gcd_comm]
def mod_lt{a b:Int}(h:b≠0):(a.fmod b).natAbs<b.ñ:=by
 rcases Int.lt_trichotomy b 0 with c|c|c
 .let H:=Zfg (-a) (b:=-b) ϱI
  let d:=Zem (-a) (b:=-b) ϱI;rw[Int.neg_fmod_neg]at H d;omega
 .show absurd c h
 let H:=Zfg a c;let d:=Zem a c;omega
def xr:∀(ns:À Int)(d:Int),ώq ∣ d/\∀n∈ns,ώq ∣ n:=by
 induction _ with
 |nil=>ext d;show(Int.dvd_refl d,λn h=>ϒ6)
 |cons n ns N3=>
  ext d;let h:=N3 (ä όD);let e:gcL d Ϥs=gcL (ä όD) ns:=rfl;rw[e];show(Zbp h.1<|Int.gcd_dvd_left d n,όQ);rcases K8v.mp H with rfl|H
  .show Zbp h.1<|Int.gcd_dvd_right d x
  show h.2 x H
def OO{g:Int}:∀(ns:À Int)(d:Int),g ∣ d->(∀n∈ns,g ∣ n)->g ∣ ώq:=by
 induction _ with|nil=>ext d h _;show h|cons n ns N3=>ext d h H;let e:gcL d Ϥs=gcL (ä όD) ns:=rfl;rw[e];show N3 _ (Ϝq<|H n K9z) λx X=>H x<|ě X
def Vi:∀(ns:À Int)(d:Int),0<=d->0<=ώq:=by
 induction _ with|nil=>ext d h;show h|cons n ns N3=>ext d h;show N3 _<|Int.natCast_nonneg _
def Ai{l:À Int}{k:Nat}(h:ϴu k≠0):ϴu k∈l:=by
 erw[pA]at h⊢;cases e:l[k]? with|none=>rw[e]at h;show Ϡ h|some x=>show K9L e
def mI{ns:À Int}{k:Nat}(h:ϱj ns≠0):0<ϰM ns:=by
 let a:=Vi ns 0<|Zbr 0;let H:=ϖL<|Ai h;rcases Zfh a with c|c
 .show c
 rw[<-c]at H;show ĭ (Int.zero_dvd.mp H) h
def Tb{l:À Int}{f:ϴy Int}(h:f 0=0)(k:Nat):ϱj (l.Ç f)=f (ϴu k):=by
 erw[pA];rw[N2];cases l[k]? with|none=>show h.Ï|some x=>rfl
def Bt{ns:À Int}(k:Nat):ϰM ns*ϱj ϭz=ϱj ns:=by
 let e:ϱj ϭz=ϱj ns / ϰM ns:=Tb (f:=λx=>x / ϰM ns) (Int.zero_ediv _) k;rw[e];show Int.mul_ediv_cancel' ?_;cases h:ϱj ns=0
 .rw[h]
  show Zdg _
 show ϖL<|Ai h
def BC(ns:À Int):Ã ϭz=ns.À:=K0 ..
def Ct{ns:À Int}{k:Nat}(h:ϱj ns≠0):Prm (pA ϭz):=by
 ext g hg d;let p:=mI h;let:g*ϰM ns ∣ ϰM ns:=OO ns 0 (Zdg _) λn N=>by
  let(j,J):=Zac N;let e:Ņ ns=n:=by erw[pA];rw[J];rfl
  rw[<-e,<-Bt j,Zai];show ϛ9<|d j
 let(c,C):=this;let H:g*c=1:=by show Zbj (Zbd p) ?_;rw[Zbl,<-Zae,Zai _ g];show C.Ï
 let:g ∣ 1:=⟨c,H.Ï⟩;show Int.eq_one_of_dvd_one (Zar hg) this
def jF(row piv:À Int)(s:Nat):À Int:=ß row.Ċ piv λp=>ϻ0*p.1-Ō s*p.2
def clL(row piv:À Int)(s:Nat):À Int:=gy Ϲl
def oH{row piv:À Int}(h:ϧf)(s j:Nat):Ņ Ϲl=ϻ0*Ō j-Ō s*Ņ piv:=by
 erw[jF];let e:pA (ß row.Ċ piv λp=>ϻ0*p.1-Ō s*p.2) j=(Ê (ę ϯM) λp=>ϻ0*p.1-Ō s*p.2).getD 0:=by
  change Ó (ę<|List.map _ _) 0=_;rw[N2]
 rw[e];cases J:j<row.À
 .let H:ę row=Â ύW:=϶Q
  let a:ę piv=Â (piv[j]' Á):=Nu Á;let f:ę ϯM=Â (ύW,piv[j]' Á):=Ô Zan (H,a)
  rw[f];change ϻ0*ύW-Ō s*piv[j]' Á=_;let A:Ō j=ύW:=by
   change Ó (ę row) 0=_;rw[H];rfl
  let n:Ņ piv=piv[j]' Á:=by
   change Ó (ę piv) 0=_;rw[a];rfl
  rw[A,n]
 let f:ę ϯM=none:=Ϲ List.getElem?_eq_none_iff Zao
 let A:Ō j=0:=Ϗ pA (K9c Á)
 let n:Ņ piv=0:=Ϗ pA (K9c Á)
 rw[f,A,n,Zaa,Zaa];rfl
def HS{row piv:À Int}(h:ϧf)(s:Nat):Ã Ϲl=row.À:=ϙy jF
def LY{row piv:À Int}(h:ϧf)(s:Nat):Ã (ϳK row piv)=row.À:=by erw[clL];rw[BC,HS h]
def Rt{row piv:À Int}(h:ϧf)(s j:Nat):ϰM Ϲl*Ņ (ϳK row piv)=ϻ0*Ō j-Ō s*Ņ piv:=χ clL Bt (oH h)
structure Sl where
 r:À (À Int)
 c:Ò
def P0(S:Sl)(i:Nat):À Int:=Ó (á S.r) []
def vw(S:Sl):St:=⟨λi=>pA<|î i,λi=>Ó (á S.c) 0⟩
def fsh(row:À Int)(m:Nat):όY:=(Α ϹZ λj=>Õ<|0<Ō j).head?
def Dy{row:À Int}{m:Nat}(h:ύt=none):∀j,j<m->Ō j<=0:=λj J=>by
 erw[fsh]at h;rw[Zen,Zdk]at h;let:=h j ϨH;rw[K9k]at this;lia
def head_filter:∀(m s:Nat),(Α ϹZ p).head?=some s->s<m/\p s=true/\∀j,j<s->Ł (p j):=by
 ext m
 induction m with
 |zero=>ext s h;cases h
 |succ m ih=>
  ext s h;rw[K8A,K8o]at h;cases e:(Α ϹZ p).head? with
  |some t=>rw[List.head?_append,e]at h;cases h;let(a,b,f):=ih s e;show(K8f a,b,f)
  |none=>
   rw[List.head?_append,e,Option.none_or]at h;rw[Zen,Zdk]at e;cases H:p m=true
   .rw[Zbm H]at h
    cases h;show(K8d m,H,ϳp);let:=e j ϨH;cases hq:p j with|true=>show ĭ hq this|false=>rfl
   rw[Zbb H]at h;cases h
def Dc{row:À Int}{m s:Nat}(h:ύt=some s):s<m/\0<Ō s/\∀j,j<s->Ō j<=0:=by
 let(H,a,f):=head_filter m s h;show(H,of_decide_eq_true a,ϳp);let:=of_decide_eq_false<|f j J;lia
def Au(S:St)(z s:Nat)(i k:Nat):Prop:=Ϯc (ă z) (ϷG s) (ϷG z) (ă s) (ń<S.c k)
instance(S:St)(z s i k:Nat):Decidable (Au S z s i k):=inferInstanceAs<|Decidable<|_\/_
def rgu(S:St)(z s:Nat):Nat->όY|0=>none|k+1=>Ë ϕQ Ş (Ϭu k)
def rgu'{S z s k}:Ϭu (k+1)=(Ë ϕQ Ş<|Ϭu k):=rfl
private theorem yQ{S:St}{z s:Nat}:∀n,Ϭu n=none->ŵ (ă s<=0)
 |0,_,i,hi=>ϐO<|Zbh i
 |n+1,h,i,hi=>by
  rw[rgu']at h;split at h
  .cases h
  .rename_i C
   let a:=yQ n h;cases e:i=n
   .subst e
    cases p:0<ă s
    .show ĭ ⟨p,λf H=>by rw[h]at H;cases H⟩ C
    .lia
   .show a i Á
def le3(S:St)(z s:Nat)(i k:Nat):Prop:=Ϯc (ă z) (ϷG s) (ϷG z) (ă s) (ń<=S.c k)
def JA{S:St}{z s i j k:Nat}(hi:0<ă s)(d:0<S.T j s)(H:0<ϷG s)(e:Ϭv i j)(m:Ϭv j k):Ϭv i k:=by
 erw[le3] at*;generalize ă z=a at*;generalize S.T j z=b at*;generalize ϷG z=c at*;generalize ă s=p at*;generalize S.T j s=q at*;generalize ϷG s=r at*;let e1:a*q<=b*p:=Á
 let g:b*r<=c*q:=Á
 let M:=Zaf e1<|Zar H;let Q:=Zaf g<|Zar hi;let x:a*q*r=a*r*q:=Zcs a q r;let X:b*p*r=b*r*p:=Zcs b p r;let T:c*q*p=c*p*q:=Zcs c q p;let le:a*r*q<=c*p*q:=Á
 let l:=Int.le_of_mul_le_mul_right le d;rcases Zfh l with h|h
 .show Ð h
 show Ø ⟨h,?_⟩;let y:a*r*q=c*p*q:=ύF
 let f:a*q*r=b*p*r:=ϱI
 let J:b*r*p=c*q*p:=Á
 let g1:a*q=b*p:=Zdy (Zbd H) f;let g2:b*r=c*q:=Zdy (Zbd hi) J;lia
private def Ej{S:St}{z s:Nat}:∀n r,Ϭu n=ϰQ->r<n/\0<ϱw s/\ŵ (0<ă s->Ϭv r i):=by
 induction _ with
 |zero=>ext r h;cases h
 |succ n N3=>
  ext r h;rw[rgu']at h;split at h
  .rename_i C
   cases h;show(K8d n,C.1,λi hi p=>?_);cases e:i=n
   .subst e
    show Ø (Ϸy ì)
   cases H:rgu S z s n with
   |none=>
    let:=yQ n H i Á;lia
   |some f=>
    let(g,J,j):=N3 f H;let a:Ϭv n f:=by
     rcases C.2 f H with q|⟨q,w⟩
     .show Ð q
     show Ø ⟨q,Zaj w⟩
    show JA C.1 J p a<|j i Á p
  rename_i C;let(g,J,j):=N3 r h;show(K8f g,J,λi hi p=>?_);cases e:i=n
  .subst e
   let ns:¬Au S z s i r:=λw=>C ⟨p,λf H=>by rw[h]at H;cases H;show w⟩;erw[Au]at ns;erw[le3];let:=Int.lt_trichotomy (ϱw z*ă s)<|ă z*ϱw s;rcases this with q|q|q
   .show Ð q
   .apply Ø ⟨q,?_⟩
    cases w:S.c r<=ń
    .show w
    show ĭ (Ø ⟨q.Ï,Á⟩) ns
   show ĭ (Ð q) ns
  show j i Á p
def nxt(n m z:Nat)(S:Sl):Sl:=match fsh (î n) m with
 |none=>S
 |some s=>match ϷU n with
  |none=>S
  |some r=>⟨Ā S.Ó λi=>Ë (i=r) (î i) (ϳK (î i) (î r)),ϓQ⟩
variable{n m z:Nat}{R:Ϸj}
structure Jn(n m z w A:Nat)(R:Ϸj)(S:Sl):Prop where
 inv:Inv n m z (m+n) R ϲW
 lr:S.Ó=n+1
 lc:S.İ=n
 row:ϲP (Ã (î i)=w)
 prm:ϲP (Prm (vw S |>.T i)\/(i<n/\∀j,ϥ i j=ϴ7))
def zC{w A:Nat}{S:Sl}{u:Int}{d:Row}(D:Ϥ8)(J:ϲF S)(y:¬϶7 ϲW):ϲF (ϰh S)/\∃s r,fsh (î n) m=some s/\ϷU n=ϰQ/\ϸk ϲW (vw<|ϰh S) s r:=by
 cases hs:fsh (î n) m with
 |none=>show ĭ (Dy hs) y
 |some s=>
  let(v,x,C):=Dc hs;cases hr:rgu ϲW z s n with
  |none=>
   let(i,hi,p):=D.some J.inv v x;let:=yQ n hr i hi;lia
  |some r=>
   let(f,b,B):=Ej n r hr;let N:ϰh S=⟨Ā S.Ó λi=>Ë (i=r) (î i) (ϳK (î i) (î r)),ϓQ⟩:=by
    erw[nxt];rw[hs];dsimp only;rw[hr]
   let o:ϲP (P0 (ϰh S) i=Ë (i=r) (î i) (ϳK (î i) (î r))):=λi hi=>by
    rw[N];erw[P0];rw[N2,K9Z<|Ă J.lr];rfl
   let l:ϲP (Ã (î i)=Ã (î r)):=ϰp (by rw[ϥJ hi,J.row r Á])
   let t:ϸk ϲW (vw<|ϰh S) s r:={
    hs:=v
    pos:=x
    fst:=C
    hr:=f
    rp:=b
    best:=λi hi p=>B i hi p
    same:=by
     change pA (P0 (ϰh S) r)=pA (î r);rw[o r Á,Ĝ]
    oth:=λi hi h=>by
     let e:∀j,ϰM (jF (î i) (î r) s)*Ņ (P0 (ϰh S) i)=pA (î r) s*Ņ (î i)-pA (î i) s*Ņ (î r):=λj=>Ζ (o i hi) ϱA (Rt ϩj s j)
     show(ϰM<|jF (î i) (î r) s,?_,e);cases c:i=n
     .let:ϥ0 (jF (î i) (î r) s)≠0:=by rw[oH ϩj];let Z:ϥ0 (î r)=0:=ϔC f;let a:0<ϥ0 (î n):=J.inv.mp;rw[Z,Zaa,Zau,c];let:=Zay b a;show Zbd this
      show mI this
     let H:i<n:=Á
     let:pA (jF (î i) (î r) s) (ŧ i)≠0:=by
      rw[oH ϩj];let Z:pA (î r) (ŧ i)=0:=όE H r Á Ϧj;let a:0<pA (î i) (ŧ i):=ϫQ H;rw[Z,Zaa,Zau];show ϓk
     show mI this
    cr:=by
     change Ó ((ϰh S).c[r]?) 0=s;rw[N];dsimp only;rw[K9I<|by rw[J.lc];show f];rfl
    co:=λi hi h=>by
     change Ó (á (ϰh S).c) 0=Ó (á S.c) 0;rw[N];dsimp only
     rw[K9E Ϧj]}
   show((J.inv.step t,?_,?_,ϱm,ϱm),s,r,rfl,hr,t)
   .rw[N]
    dsimp only;rw[K0,Z7,J.lr]
   .rw[N]
    dsimp only;rw[K8z,J.lc]
   .rw[o i hi]
    split
    .show ϥJ hi
    rw[LY ϩj,ϥJ hi]
   cases c:i=r
   .let e:(vw<|ϰh S).T i=ϥ i:=ϔK t.Î
    rw[e];show J.prm i hi
   left;let(g,hg,q):=t.oth i hi c;change Prm (pA<|P0 (ϰh S) i);rw[o i hi,P3 c];cases L:i=n
   .apply Ct (k:=m+n) ?_
    rw[oH ϩj];let Z:ϥ0 (î r)=0:=ϔC f;let a:0<ϥ0 (î n):=J.inv.mp;rw[Z,Zaa,Zau,L];show ϓk
   let H:i<n:=Á
   show Ct (k:=ŧ i) ?_;rw[oH ϩj];let Z:pA (î r) (ŧ i)=0:=όE H r Á<|K8g c;let a:0<pA (î i) (ŧ i):=ϫQ H;rw[Z,Zaa,Zau];show ϓk
def Jn.le{w A:Nat}{S:Sl}(J:ϲF S)(M:ϻZ)(a:0<A)(D:ϲP (∀j,ϺX ϴ7))(N:0<n){i:Nat}(hi:i<=n)(j:Nat):
  Ś (-(ä ((n+1)*(Ϲo*A)))) (ϥ i j) (ϱB ((n+1)*(Ϲo*A))):=by
 let big:A<=(n+1)*(Ϲo*A):=by
  let h:0<Ϲo:=Zfs<|Zfq Á a;let H:A<=Ϲo*A:=Zcq A h;show K9C H (Zcq _ Á)
 rcases J.prm i hi with p|⟨h,H⟩
 .let h:=BV J.inv M a D N hi p
  rw[vS J.inv M hi j];let:=Le (f:=λq=>ϥ i (m+q)*ϦS) (c:=(ä (Ϲo*A))) (n+1) λq Q=>Ô Zbz (sJ (h q Á)<|D q Á j)
  rw[Zbz];show this
 rw[H j];let:=D i hi j;omega
def Jn.ends{w A:Nat}{S:Sl}{u:Int}{d:Row}(D:Ϥ8)(M:ϻZ)(b:0<A)(c:ϲP (∀j,ϺX ϴ7))(N:0<n)(J:ϲF S):
  ∃j,Be ϰh (λx=>϶7 Ϻx) j S:=
 Lp.ends (vw:=vw) (J:=ϲF) (H:=(n+1)*(Ϲo*A)) D (λ_ J=>J.inv) (λ_ J=>(J.le M b c N ϰl<|m+n).2) (λx J e=>by let(h,s,r,_,_,a):=zC D J e;show(h,s,r,a)) S J
end Lp
namespace Lp
abbrev Dem:=À<|À Int×Int
def dR(D:Dem)(j:Nat):À Int:=(Ó (D[j]?) ([],0)).1
def dC(D:Dem)(j:Nat):Int:=(Ó (D[j]?) ([],0)).2
def mkL(n i:Nat):À Int:=Ā (n+1) λq=>Ë (q=i) 1 0
def frL(D:Dem)(n i:Nat):À Int:=D.Ç (λd=>ř d.1)++ϻ8++[Ë (i<2) 1 0]
def laL(D:Dem)(n:Nat):À Int:=ϗg
def RR(D:Dem)(n:Nat)(i:Nat):Row:=pA (Ë (i<n) (ϙ i) Ϸk)
def lsF(D:Dem)(n:Nat)(ch:Ò):Nat->À Int|0=>Ϸk|k+1=>clL (ś k) (ϙ k)<|Ó ϸK 0
def lsF'{D n ch k}:ś (k+1)=(clL (ś k) (ϙ k)<|Ó ϸK 0):=rfl
def S0(D:Dem)(n:Nat)(ch:Ò):Sl:=⟨Ê ϲl ϙ++[ś n],ch⟩
def ug(n i:Nat):Ã ϻ8=n+1:=χ mkL K0 Z7
def vR(D:Dem)(n i:Nat):Ã (ϙ i)=θ+2:=by
 erw[frL];rw[K9v,K9v,K0,ug,K9e];lia
def KR(D:Dem)(n:Nat):Ã Ϸk=θ+2:=by
 erw[laL];rw[K9v,K9v,K0,ug,K9e];lia
def xD{a b:À Int}{j:Nat}(h:j<a.À):Ņ ϦD=pA a j:=ű pA (K9V h)
def zz{a b:À Int}{j:Nat}(h:a.À<=j):Ņ ϦD=pA b (j-a.À):=ű pA (K9a h)
def S7{a:À Int}{j:Nat}(h:a.À<=j):pA a j=0:=Ϗ pA (K9c h)
def Ie{D:Dem}{f:À Int×Int->Int}(h:f ([],0)=0)(j:Nat):Ņ (D.Ç f)=f (Ó (D[j]?) ([],0)):=by
 erw[pA];rw[N2];cases D[j]? with|none=>show h.Ï|some x=>rfl
def XG(n i q:Nat):pA ϻ8 q=Ë (q<=n/\q=i) 1 0:=by
 erw[mkL,pA];rw[N2];cases h:q<n+1
 .rw[ϴ6]
  change(Ë (q=i) ((Ì 1)) 0)=_;cases e:q=i
  .rw[Os e,Os ⟨Á,e⟩]
  rw[ϲt,P3 λw=>e w.2]
 rw[K9c (Ă Z7),P3 λw=>h Á];rfl
def Hi(f:À Int×Int->Int)(D:Dem)(n i:Nat)(e:Int){j:Nat}(h:ϥy):Ņ Ϯz=Ņ (D.Ç f):=by rw[xD (Ϲ K9v K0),xD<|Ϲu K0]
def Ce(f:À Int×Int->Int)(D:Dem)(n i:Nat)(e:Int){q:Nat}(h:q<=n):pA Ϯz ϫD=Ë (q=i) 1 0:=by
 rw[xD (ϳr K9v K0 ug),zz (Ă K0),K0,ê (ϫD-D.À=q),XG];cases e:q=i
 .rw[Os ⟨h,e⟩,Os e]
 rw[P3 λw=>e w.2,ϲt]
def Rz(f:À Int×Int->Int)(D:Dem)(n i:Nat)(e:Int):pA Ϯz (θ+1)=e:=by
 rw[zz (ϳr K9v K0 ug),K9v,K0,ug,ê (θ+1-(D.À+(n+1))=0)];rfl
def wW{D:Dem}{n i j:Nat}(h:ϥy):Ņ (ϙ i)=ř (ϛ j):=ϰY frL (Hi _ D n i _ h) (Ie (f:=λd=>ř d.1) rfl)
def GY{D:Dem}{n j:Nat}(h:ϥy):Ņ Ϸk=dC D j:=ϰY laL (Hi _ D n n _ h) (Ie (f:=λd=>d.2) rfl)
def mJ{D:Dem}{n i:Nat}(h:i<n):Ψ i=pA (ϙ i):=ű RR ϰo
def Aj{D:Dem}{n:Nat}:Ψ n=pA Ϸk:=ű RR (P3<|K8n n)
def pN(D:Dem)(n:Nat):Mk n D.À Ψ where
 one i hi:=by
  cases h:i<n
  .rw[mJ h]
   erw[frL];rw[Ce _ D n i _ hi,Ĝ]
  .let:i=n:=Á
   subst this;rw[Aj];erw[laL];rw[Ce _ D i i _ hi,Ĝ]
 oth i hi q hq hne:=by
  cases h:i<n
  .rw[mJ h]
   erw[frL];rw[Ce _ D n i _ hq,P3 hne]
  .let:i=n:=Á
   subst this;rw[Aj];erw[laL];rw[Ce _ D i i _ hq,P3 hne]
def Jt{D:Dem}{n i:Nat}(h:i<=n):Ψ i (θ+1)=Ë (i<n) (Ë (i<2) 1 0) 0:=by
 cases h':i<n
 .rw[mJ h',Os h']
  erw[frL];rw[Rz]
 let:i=n:=Á
 subst this;rw[Aj,P3 h'];erw[laL];rw[Rz]
structure Sm(A:Nat)(D:Dem):Prop where
 pos:0<A
 row:∀j k,ϺX (ϱj (ϛ j))
 cel:∀j,ϺX (dC D j)
def Bb{A:Nat}{D:Dem}(h:Sm A D)(n i:Nat)(hi:i<=n)(j:Nat):ϺX (Ψ i j):=by
 let p:=h.ú;cases H:j<D.À
 .by_cases a:i<n
  .rw[mJ a,wW H]
   show h.row j i
  let:i=n:=Á
  subst this;rw[Aj,GY H];show h.cel j
 cases a:j<=θ
 .let e:j=D.À+ϒ7:=Á
  let M:=ϩG;cases f:ϒ7=i
  .rw[e,f,M.one i hi]
   lia
  rw[e,M.oth i hi ϒ7 Á f];lia
 cases f:j=θ+1
 .rw[f,Jt hi]
  split
  .split<;>lia
  lia
 erw[RR];let l:Ã (Ë (i<n) (ϙ i) Ϸk)<=j:=by
  split
  .rw[vR];lia
  rw[KR];lia
 rw[S7 l];lia
structure Lone(D:Dem)(n:Nat)(ch:Ò):Prop where
 len:ch.À=n
 lt:ŵ (Ó (á ch) 0<D.À)
 pos:ŵ (0<ř (ϛ<|Ó (á ch) 0))
 oth:ŵ (∀l,l<n->l≠i->pA (ϛ<|Ó (á ch) 0) l=0)
variable{D:Dem}{n:Nat}{ch:Ò}
def B3:∀k,Ã (ś k)=θ+2:=by
 induction _ with|zero=>show KR D n|succ k N3=>rw[lsF',LY (Ĥ N3 vR),N3]
structure Ls(D:Dem)(n:Nat)(ch:Ò)(k:Nat):Prop where
 mp:0<pA (ś k) θ
 off:∀i,i<k->pA (ś k) (Ó (á ch) 0)=0
 dn:∀φ,ϩ4->(ŵ<|φ (Ψ i)=0)->φ (pA<|ś k)=pA (ś k) θ*φ (Ψ n)
def ls_eq(k j:Nat):ϰM (jF (ś k) (ϙ k)<|Ó ϸK 0)*Ņ (ś<|k+1)=pA (ϙ k) (Ó ϸK 0)*Ņ (ś k)-pA (ś k) (Ó ϸK 0)*Ņ (ϙ k):=Ô lsF' (Rt (Ĥ B3 vR) _ j)
def HW(h:ϫR){k:Nat}(H:k<n)(q:Ls D n ch k):pA (jF (ś k) (ϙ k)<|Ó ϸK 0) θ≠0:=by
 rw[oH<|Ĥ B3 vR];let Z:pA (ϙ k) θ=0:=ϱC ((ϩG).oth k Á n ϰl Á) (mJ H)
 rw[Z,Zaa,Zau,wW<|ϭx H];show Zbd<|Zay (h.ú k H) q.mp
def GO(h:ϫR):ϩE (Ls D n ch k):=by
 ext Y
 induction Y with
 |zero=>
  ext _;show(by
    let:=ϖo ϰl;rw[Aj]at this;change 0<pA Ϸk θ;rw[this];show Zdw,ϰp (ϐO<|Zbh i),λφ _ _=>by
    let:=ϖo ϰl;rw[Aj]at this;change φ (pA Ϸk)=pA Ϸk θ*φ (Ψ n)
    rw[this,Zaq,Aj])
 |succ k N3=>
  ext H;let q:=N3 Á;let K:k<n:=Á
  let g0:=mI<|HW h K q;let Z:pA (ϙ k) θ=0:=ϱC ((ϩG).oth k Á n ϰl Á) (mJ K)
  let pp:0<pA (ϙ k) (Ó ϸK 0):=Ô (wW<|ϭx K) (h.ú k K)
  let em:=ϕN θ;rw[Z,Zaa,Zau]at em;show(tV g0 (Ô em<|Zay pp q.mp),ϰp (CO g0 ?_),ϓv ?_)
  .rw[ls_eq]
   cases e:i=k
   .subst e
    rw[Zai];lia
   rw[q.off i Á,wW (h.lt i Á),Ϧa Á k K Á,Zaa,Zaa];rfl
  let S:=hφ.sub (x':=pA<|ś<|k+1) (x:=pA<|ś k) (y:=pA<|ϙ k) λj=>ls_eq k j;let F:φ (pA<|ϙ k)=0:=ϱC (hz k K) (mJ K)
  rw[F,q.dn φ hφ hz,Zaa,Zau]at S;show ϔI g0;rw[S,<-Zae,<-em,Zae]
def Q2{A:Nat}(S:Sm A D)(h:ϫR):ϩE (∀j,Ś (-(ä ύG)) (Ņ (ś k)) (ϱB ύG)):=by
 induction _ with
  |zero=>
   ext _ j
   let:=Bb S n n ϰl j;rw[Aj]at this;rw[Zeu,Zfr];show this
  |succ k ih=>
   intro hk j
   let i:=ih ϱI;let g0:=mI (HW h ϱI<|GO h k ϱI);let e:=ϕN j;let fr:∀j,ϺX (Ņ (ϙ k)):=λj=>ϱC (Bb S n k ϱI j) (mJ ϱI)
   let M:=sJ (fr<|Ó ϸK 0)<|i j;let Q:=sJ (i<|Ó ϸK 0)<|fr j;let ex:ä (A*(2*A)^(k+1))=2*(ώR*ä ύG):=by rw[Zcm,<-Zek,Zdp _<|2*A,Zek 2];rw[Zbz,Zbz];rfl
   rw[ex];rw[Zai _ ώR]at Q;generalize ώR*ä ύG=Y at*;generalize ϰM (jF (ś k) (ϙ k)<|Ó ϸK 0)=g at*;generalize Ņ (ś<|k+1)=x at*;let b:ϥh (2*Y) (g*x):=ϱI
   let c1:x.ñ<=(g*x).natAbs:=Ô Zda (Zcq _ ϱI)
   omega
def MG{i:Nat}(h:i<n):P0 ϹF i=ϙ i:=by
 erw[P0,S0];dsimp only;rw[K9V (by rw[K0,Z7];show h),N2,ϴ6];rfl
def HY:P0 ϹF n=ś n:=by
 erw[P0,S0];dsimp only;rw[K9a (Ζ K0 Z7 ϰl),K0,Z7,K8c];rfl
def YL{A:Nat}(h:ϫR)(N:0<n):ϧX (θ+1) (θ+2) A Ψ ϹF:=by
 let L:=GO h n ϰl;let tr:ŵ ((vw ϹF).T i=Ψ i):=λi hi=>by
  rw[mJ hi];change pA (P0 ϹF i)=_;rw[MG hi]
 let tn:(vw ϹF).T n=pA (ś n):=by
  change pA (P0 ϹF n)=_;rw[HY]
 let tc:∀i,(vw ϹF).c i=Ó (á ch) 0:=ώd;let Z:ŵ (∀l,l<n->Ψ l (Ó (á ch) 0)=pA (ϛ<|Ó (á ch) 0) l):=λi hi l a=>by rw[mJ a,wW<|h.lt i hi]
 show((ϱm,λi hi l a H=>?_,ϱm,ϱm,λφ _ hz i hi=>?_,ϓv ⟨ϱm,?_⟩,?_,ϱm),?_,h.len,ϱm,ϱm)
 .rw[ϭk,tc,Z i hi i hi]
  show h.ú i hi
 .rw[tc]
  cases e:l=n
  .rw[e,tn]
   show L.off i hi
  rw[tr l Á,Z i hi l Á];show Ϧa hi l Á H
 .rw[tc]
  show h.lt i hi
 .rw[ϭk,Jt ϴW,Os hi]
  split<;>decide
 .let:=hz i hi
  rw[ϭk]at this;show this
 .rw[ϭk]
  show hz i hi
 .rw[tn]
  show L.dn φ hφ hz
 .rw[tn]
  show L.mp
 .rw[ϭk]
  show(ϩG).oth i ϴW n ϰl Á
 .unfold S0
  dsimp only;rw[K9v,K0,Z7,K9e]
 .by_cases e:i=n
  .rw[e,HY,B3]
  rw[MG Á,vR]
 cases e:i=n
 .left
  rw[e,tn];obtain⟨k,rfl⟩:∃k,n=k+1:=⟨n-1,Á⟩
  rw[lsF'];show Ct<|HW h (K8d k)<|GO h k<|K91 k
 right;show(Á,λj=>ϰT (tr i Á))
def QV{u:Int}{x:å}(U:0<u)(X:Θ D.À (u*dC D j<=ĳ (λi=>x i*ř (ϛ j)))):∃d,Dual n D.À Ψ u d:=by
 show(λj=>u*Ψ n j-ĳ (λi=>x i*Ψ i j),U,ϳp,ϓv ?_)
 .let:=X j J
  let e:ĳ (λi=>x i*Ψ i j)=ĳ (λi=>x i*ř (ϛ j)):=aM n (ϰp (by rw[mJ hi,wW J]))
  change u*Ψ n j-ĳ (λi=>x i*Ψ i j)<=0;rw[e,Aj,GY J];lia
 let h:=hφ.sub (g:=1) (p:=u) (q:=1) (x':=λj=>u*Ψ n j-ĳ (λi=>x i*Ψ i j)) (x:=Ψ n) (y:=λj=>ĳ (λi=>x i*Ψ i j)) (λj=>Ĥ Zaq Zaq);let H:=hφ.sm (w:=x) (G:=Ψ) n;rw[cJ n (ϰp (Ĥ (hz i hi) Zaa))]at H;rw[Zaq,Zaq,H]at h;lia
end Lp
namespace Lp
variable{D:Dem}{n A w:Nat}{S:Sl}
def xE(D:Dem)(n:Nat)(S:Sl)(k:Nat):Int:=-ϥ n (D.À+k)
def uE(D:Dem)(n:Nat)(S:Sl):Int:=ϥ n θ
def pE(D:Dem)(n:Nat)(S:Sl)(l:Nat):Int:=ϥ l (θ+1)*Q n ϲW l
def Io(J:ϧX (θ+1) w A Ψ S)(H:Halt n D.À ϲW){j:Nat}(h:ϥy):uE D n S*dC D j<=ĳ (λk=>ϹW k*ϱj (ϛ j)):=by
 let b:=vS J.inv ϩG ϰl j;let a:=H j h;rw[b,sm.a2]at a;let e:ĳ (λq=>ϥ n ϫD*Ψ q j)=-(ĳ<|λk=>ϹW k*ϱj (ϛ j)):=by
  let:=kH (-1) 0 (λk=>ϹW k*ϱj (ϛ j)) (Ţ 0) n;let g:ĳ (λq=>ϥ n ϫD*Ψ q j)=ĳ (λi=>-1*(ϹW i*ř (ϛ j))+0*0):=aM n λi hi=>by
   rw[mJ hi,wW h];erw[xE];let z:-ϥ n (D.À+i)*ř (ϛ j)=-(ϥ n (D.À+i)*ř (ϛ j)):=Zcc _ _;lia
  rw[g,this];lia
 rw[e,Aj,GY h]at a;erw[uE];lia
def Ys(J:ϧX (θ+1) w A Ψ S):0<uE D n S:=J.inv.mp
def Kg(J:ϧX (θ+1) w A Ψ S){i:Nat}(hi:i<n):ĳ (λl=>ό8*ř (ϛ<|ŧ l))=P n ϲW*(Ë (i<2) 1 0):=by
 let h:=nK J.inv (θ+1) i hi;erw[ph]at h;let e:ĳ (λl=>ϥ l (θ+1)*Q n ϲW l*Ψ i (ŧ l))=ĳ (λl=>ό8*ř (ϛ<|ŧ l)):=aM n λl a=>ϰ7 (mJ hi) (wW<|J.ċ l a)
 rw[e,Jt ϴW,Os hi]at h;lia
def Wk(J:ϧX (θ+1) w A Ψ S)(H:2<=n):ϥ n (θ+1)=-(ϹW 0+ϹW 1):=by
 let h:=vS J.inv ϩG ϰl<|θ+1;rw[h,sm.a2,Jt ϰl,P3<|K8n n,Zaa,Zak];let e:ĳ (λq=>ϥ n ϫD*Ψ q (θ+1))=ĳ (λq=>Ë (q<2) (-ϹW q) 0):=aM n λi hi=>by
  rw[Jt ϴW,Os hi];erw[xE];split
  .rw[Zbl];lia
  rw[Zaa]
 rw[e];obtain⟨m,rfl⟩:∃m,n=m+2:=⟨n-2,Á⟩
 let t:∀m,ϯY sm (m+2) (λq=>Ë (q<2) (-xE D (m+2) S q) 0) (λq=>Ë (q<2) (-xE D (m+2) S q) 0):=ώd;let g:∀(f:å)(m:Nat),ϺL (m+2) (Ë (q<2) (f q) 0)=f 0+f 1:=by
  ext f m
  induction m with
  |zero=>
   change(0+(Ë (0<2) (f 0) 0))+(Ë (1<2) (f 1) 0)=_;rw[Os Ý,Os Ý];lia
  |succ m ih=>rw[sm.a2,ih,P3 Á,Zak]
 rw[g];lia
def IY(J:ϧX (θ+1) w A Ψ S)(H:2<=n):uE D n S*ĳ (λl=>ό8*dC D (ŧ l))=P n ϲW*(ϹW 0+ϹW 1):=by
 let h:=BE J.inv<|θ+1;rw[Wk J H]at h;erw[ph]at h;let e:ĳ (λl=>ϥ l (θ+1)*Q n ϲW l*Ψ n (ŧ l))=ĳ (λl=>ό8*dC D (ŧ l)):=aM n λl a=>ϰ7 Aj (GY<|J.ċ l a)
 rw[e,Jt ϰl,P3<|K8n n,Zaa,Int.zero_sub,Zcx,Zcx]at h;erw[uE];omega
end Lp
def pV(os:Ol):Ol:=os.Ç λp=>(0-p.2,0-p.1)
def CQ(Ds:Int):∀a b:Ol,ϴc (pV a) (pV b)=ϴc b a:=by
 induction _ with
  |nil=>
   intro b
   erw[ask,pV];simp
  |cons a as ih=>
   ext x14
   cases x14 with
    |nil=>
     erw[ask,pV];simp
    |cons b bs=>
     let i:=ih bs;erw[ask,pV]at i⊢;rw[K9w,K9w,Zeb,Zeb,K9w,K9w,i];congr 1;change 0-a.1+ϥx-(0-b.2)=b.2+ϥx-a.1;lia
def IZ(Ds:Int)(a b:Ol):ϲS (pV a) (pV b)=ϲS b a:=by rw[vx,vx,CQ]
def cY(O:À Ol):À Ol:=O.reverse.Ç pV
def iu(O:À Ol):ϻ6 (Ã ϲX):=χ cY K0 Zax
def va{O:À Ol}{k:Nat}(h:϶9):ϲX[k]?.getD []=pV (O[ĺ-k]?.getD []):=by
 erw[cY];rw[N2,Zaw h,Nu<|ê (ĺ-k<O.À)];rfl
def IF{O:À Ol}(h:ϸV):okO ϲX:=by
 show(λos m=>?_,Ô iu h.2.1,Ô iu h.2.2);let(o,H,rfl):=XV.mp m;erw[pV];rw[K0];show h.1 o<|List.mem_reverse.mp H
def KJ(Ds:Int)(O:À Ol)(i j:Nat)(I:i<j)(J:ϨA):ϳw (ĺ-j) (ĺ-i)=dO Ds ϲX i j:=by erw[dO];rw[va (ê ό6),va J,IZ]
def HD{Ds:Int}{O:À Ol}(R:ϸV)(M:ϓX 2)(k:Nat)(H:϶9):gv (Ŭ ϲX) k=0-gv (Ŭ O) (ĺ-k):=by
 obtain⟨⟨e,L,h⟩,_⟩:=ϻj R;obtain⟨⟨E,s,h'⟩,_⟩:=ϻj<|IF R;let N:0<O.À:=ϺD;let m:ϓX (2*1):=M;let(t,_):=FA (D:=1) h R m ⟨128,Ý⟩;let ex:∀i j,i<j->ϨA->ϳw (ĺ-j) (ĺ-i)=dO Ds ϲX i j:=KJ Ds O;let I:=Px ex<|U8 h.isL;let l:=Ov ex<|ZY N h.isE;let Q:=h'.isE;let q:=h'.isL;let he:=h'.eq;rw[iu]at Q q he;let uE:∀k,϶9->gv E k=gv e ĺ-gv L (ĺ-k):=ϲ1 (C_ Q I k H);let T:gv E ĺ=gv e ĺ:=ϳr (uE ĺ Á) K8c (za N h.isE h.isL rfl)
 rw[T]at q;let u:∀k,϶9->ϱz k=gv e ĺ-gv e (ĺ-k):=ϲ1 (Lf q l k H);rw[he k H,h.eq (ĺ-k) Á,T,uE k H,u k H];let a:=(uV (D:=1) (t (ĺ-k) Á).1 (t (ĺ-k) Á).2).2;let b:=(uV (D:=1) (t ĺ Á).1<|Zdg _).2;rw[Zak]at b;lia
def sr{O:À Ol}{k:Nat}(h:϶9):l7 ϲX k=l7 O (ĺ-k):=by erw[l7];rw[va h];erw[pV];rw[K0]
def GV{O:À Ol}{k l:Nat}(h:϶9):ϗc (oA ϲX k l) (϶S (ĺ-k) l):=by
 erw[oA];rw[va h];erw[pV];rw[N2];cases(O[ĺ-k]?.getD [])[l]? with
 |none=>rfl
 |some p=>rfl
def GI{O:À Ol}(h:O≠[]):mxN ϲX=ϴn:=by
 let h':ϲX≠[]:=λz=>h (by let:=Ż z;rw[iu]at this;show ϖ9);obtain⟨_,⟨i,e,f⟩,I⟩:=uD h;obtain⟨_,⟨j,J,d⟩,c⟩:=uD h';rw[iu]at J c;let a:=I (ĺ-j) Á;let b:=c (ĺ-i) Á;rw[sr J]at d;rw[sr Á,ê (ĺ-(ĺ-i)=i)]at b;lia
def yw{O:À Ol}{l i:Nat}:i∈Ϧz ϲX↔ό6/\ĺ-i∈ϲQ l:=by
 erw[there];rw[K89,K89,K9G,K9G,K9k,K9k,iu];constructor
 .rintro⟨a,b⟩
  rw[sr a]at b;show(a,Á,b)
 ext⟨a,b,c⟩;show(a,by rw[sr a];show c)
def OE{X s:À Int}(a:ϵa X)(H:ϘR)(b:ϘS):eT X=0-jE s:=by
 let Y:s≠[]:=ϕy
 let(A,n):=dS a;let(b1,B):=c_ Y;let(y,y1,y2):=H _ A;let(x,c,d):=b _ b1;let:=B y y1;let:=n x c;lia
def QR{X s:À Int}(a:ϵa X)(H:ϘR)(b:ϘS):jE X=0-eT s:=by
 let Y:s≠[]:=ϕy
 let(A,n):=c_ a;let(b1,B):=dS Y;let(y,y1,y2):=H _ A;let(x,c,d):=b _ b1;let:=B y y1;let:=n x c;lia
def Qq{O:À Ol}(R:ϸV){T t:À Int}(S:∀k,϶9->gv t k=0-gv T (ĺ-k)):jo ϲX t=pV (jo O T):=by
 let n:O≠[]:=λz=>by let:=ϺD;rw[z]at this;simp at this
 erw[jo,pV];rw[GI n,S1];show K8u ϔP;rw[K9G]at L;change ϗc (jl ϲX t l) (jl O T l)
 let h:ϲX≠[]:=λz=>n (by let:=Ż z;rw[iu]at this;show ϖ9);let tn:=n6 h (l:=l) (ύm<|GI n);let M:∀i∈Ϧz ϲX,∃j∈ϲQ l,j=ĺ-i/\ϕh:=λi hi=>by
  let(a,b):=yw.mp hi;show(_,b,rfl,S i a,?_,?_)
  .rw[GV a]
  rw[GV a]
 let Q:∀j∈ϲQ l,∃i∈Ϧz ϲX,ϕh:=λj J=>by
  let jl:=Ϸz (K89.mp J).1;let hi:ĺ-j∈Ϧz ϲX:=yw.ó ⟨Á,όh (ê (ĺ-(ĺ-j)=j))⟩;let(d,_,e,a,b,c):=M _ hi;rw[ê (ĺ-(ĺ-j)=j)]at e;subst e;show(_,hi,a,b,c)
 erw[jl];show ϗB ?_
 .change eT _=0-jE _
  show OE (λz=>tn ϶V) όQ λy Y=>?_
  .let(i,hi,rfl):=Ϻa
   let(j,J,_,a,b,_):=M i hi;show(_,ϲp ⟨j,J,rfl⟩,ϯC)
  let(j,J,rfl):=XV.mp Y;let(i,hi,a,b,_):=Q j J;show(_,ϲp ϒb,ϯC)
 change jE _=0-eT _;show QR (λz=>tn ϶V) όQ λy Y=>?_
 .let(i,hi,rfl):=Ϻa
  let(j,J,_,a,_,b):=M i hi;show(_,ϲp ⟨j,J,rfl⟩,ϯC)
 let(j,J,rfl):=XV.mp Y;let(i,hi,a,_,b):=Q j J;show(_,ϲp ϒb,ϯC)
section
variable{ts:À Nd}{c:F}
def yt(p:ç){k:Nat}(H:Ć):gv (ay ć) (Ĺ k)=Ļ k:=by
 let h:=F.Pf.at_g p H;let g1:ć[Ĺ k]?=Â ϦX:=ϧh aR
 rw[xv g1,xv<|yR H]
def gT(p:ç){k:Nat}(h:Ć):F5 ć (Ĺ k)=Ê (Ϩ<|Å k) Ĺ:=Vo p h
def VB{ts:À Nd}(Ds:Int)(he:ĕ)(a:Č 0)(h:é)(d:Ϥg){j:Nat}(J:ϰf):∀o∈Ê (Å j) í,xh 2 o:=λo H=>by
 let(c,C,rfl):=Ϻa;let c1:=ϋ C;let l:=NJ Ds he a h d c1.2;let lc:=ϳG C;show Ů (ML Ds he a h ϒa c Á c1.2 Á) ?_;show yA (ê<|Ã (í c)<=8)
def Pe(p:ç)(Ds:Int)(l:é)(d:Ϥg):∀m j,İ (j+m)->ϰf->outF ć Ds (Ĺ j)=pV (í j)/\(F5 ć<|Ĺ j).map (outF ć Ds)=cY (Ê (Å j) í):=by
 let he:=ľ;let e:=aA ϶O;let H:=p.ú;let L:=ϵY;ext m
 induction m using Nat.strongRecOn with
 |ind m ih=>
  ext j M J;let gl:=ϻp J;let below:(F5 ć<|Ĺ j).map (outF ć Ds)=cY (Ê (Å j) í):=by
   rw[϶T J];erw[cY];rw[S1,<-Zdc,S1];show K8u λa A=>?_;let(b,n):=ϋ<|List.mem_reverse.mp A;show(ih ϧY Á a Á n).1
  show(?_,below);let i:ini ć (Ĺ j)=pV (ϱ5 j):=by
   erw[ini,pV];rw[yt p J];change [_]=[_]
   congr 1
   show ϗB (ϳZ<|_=0-_)
  rw[mP Ds e Á Á Á,ϥQ H l J,below,i];let h:(F5 ć (Ĺ j)=[])=(Å j=[]):=ϳk (϶T J)
  cases C:Å j=[]
  .rw[Os C,Os ϚO,K9d,K9d]
  rw[P3 C,P3 ϚO];let R:=ϥR H l C;rw[Qq R λk K=>HD R (ϚP J) k K];erw[pV];rw[K9i]
end
def oM:Fs:=(ao (Ų<|ñ a_ 1<|Ç 1)
 (ao (dX (p_ (aD<|ñ gLt 2<|ħ<|È 0 ai)<|aD<|F4 gGe (ū (Ù 0 ό)<|Ç 0) Ŋ)<|EU 2 Dg<|Ç 1)
 (bF ό)))
def iW:Fn:=ε 3 oM
def nH:Fs:=(bF<|Ao (ϵB (Ù 0 Ŋ)<|Ç 0)<|Ao (Ap<|ϨC<|ĝ (ϳb 0 iN<|d8 Ŋ))<|Ap<|ϨC<|ae (ϳb 0 (d8<|ñ a_ 1<|Ç 1) iN) ai)
def gP:Fn:=ε 2 nH
def z9:Fs:=(bF<|aP (iR1<|ñ a_ 0<|Ç 1) ϰa aT (Ϥy (ñ gEq 0 Ŋ) (Ç 1)<|Ç 0) 1 [1])
def n8:Fn:=ε 2 z9
def lL:Fs:=(ao (Ų<|Rs<|aP (iR1 Ŋ) ϰa (aD<|ϵB (Ù 1 Ľ)<|Ç 0) Ľ 1 [0])
 (bF<|eIf (aD<|ϵB (ħ<|È 2 ai)<|Ç 0) (Ù 2<|Ç 0)<|ġ<|Ç 1))
def cA:Fn:=ε 3 lL
def o_:Fs:=(ao (ϱn<|϶v (ū (Ù 0 Š)<|ġ<|Ç 1)<|ū (Ù 0 ş) ό)
 (ao (ϱ4<|϶v (ū (Ù 0 ş)<|ġ<|Ç 1)<|ū (Ù 0 Š) ό)
 (bF<|eOr (ñ gLt 5 ϸT)<|Ao (ñ gEq 5 ϸT)<|F4 gLt (Ù 1 Š)<|Ù 1 ş)))
def iH:Fn:=aZ 5 7 o_
def jB:Fs:=(ao (dX (aD<|ñ gNe 1<|Ç 0) (ao (Ų<|ñ Eb 0 Ŋ)
 (ao (ax 0 Ŋ)
 (ϳ6 ό))))
 (bF<|eB Nt<|È 0 ai))
def dA:Fn:=ε 3 jB
def lG:Fs:=(bF<|aP (iR2 (Ç 1)<|ħ<|È 0 ai) ϰa aT (ϳA (ϸd<|ĝ (ϳb 1 (d8 Ľ) iN))<|ϸd<|ĝ (ϳb 1 iN<|d8 Ľ)) 1 [0])
def i7:Fn:=ϲ5 1 lG
def lM:Fs:=(ao (Ų<|ϴs Ŋ (ϳ1<|ϳW 0<|Œ 1 2 bB) (aD Ŋ) (Ù 3 Ľ) 3 [0])
 (ao (Es 2<|ϴs Ŋ (ϳ1<|ϳW 0<|Œ 1 2 bB) (aD ό) (Rs<|ub (Ù 3 Ľ)<|ġ<|Ç 1) 3 [0])
 (ϬK<|bF<|aP (iR1<|ħ<|ĝ (Ù 2<|Ç 0)) ϰa aT (ϸd<|ĝ (ϰr bY 1 (Ù 0 Ŋ) 1 [0])) 1 [2])))
def d6:Fn:=ε 3 lM
def jK:Fs:=(bF<|F4 gLe (϶v (Ù 0<|Ç 0)<|Ù 1<|Ç 1)<|϶v (Ù 1<|Ç 0)<|Ù 0<|Ç 1)
def b_:Fn:=ε 2 jK
def rC:Fs:=(ao (AF<|aj fi<|È 0<|È 1 ai)
 (ao (Ų<|bO<|ae (d_<|ae (ġ<|Ç 1)<|ae (ū (Ù 0 Ŋ)<|Ç 1)<|ae (ū (Ù 0 Ŋ)<|Ç 2) ai) ai)
 (ao (Ϫ8 (ϳb 0 (d8<|ñ a_ 1<|Ç 1)<|d8<|aj iW<|È 0<|È 1 ai) 3<|ϨZ<|d_<|ae (ϳA (Ù 3<|Ç 0) Ŋ)<|ae (Ù 3<|Ç 1)<|ĝ (Ù 3<|Ç 2))
 Ϥr)))
def iy:Fn:=ε 4 rC
def uA:Fs:=(ao (ϳ6<|Rs<|ϰr bY 0 (Ù 0<|Ç 0) 1 [])
 (bF<|d_<|È 1<|ĝ (Rs<|ϻK<|È 0 ai)))
def hX:Fn:=ϲ5 2 uA
def fS:Fs:=(ao (Ε<|ϥB<|ae (ϺI Ŋ (ϻK<|È 0 ai) (ϡ<|Œ 0 1 bB) aT (ñ cO 0<|ñ gn 2 Ŋ) 2 [2]) ai)
 (bF<|ϰr bY 1 (ñ cO 0 Ŋ) 1 [3]))
def bj:Fn:=ϳN 4 fS
def mh:Fs:=(ao (Ε<|Rs<|eB gLz<|È 1<|ĝ (ϻK<|È 0 ai))
 (ao (ϰk<|ϻJ<|ae (ϴs Š (ϡ<|Œ 0 1 bB) aT (ñ a_ 0<|ñ cX 2<|ñ a_ 1<|Ç 1) 2 [2]) ai)
 (ao (ϱn<|ϥB<|ae (ϴs Š (ϡ<|Œ 0 1 bB) aT (ñ cO 0<|ñ cX 2 Ŋ) 2 [2]) ai)
 (bF<|ñ cO 4 ς))))
def eh:Fn:=ϳN 6 mh
def kI:Fs:=(ao (ϳ6 ϊ)
 (ao (bZ (iR1<|ħ<|ae (ū (Ù 0<|Ç 0)<|Ç 0) ai) (K2 2) (ao (Ε<|Rs<|aP (iEn Ľ) (ϡ<|Œ 0 1 bB) (aD<|aj gP<|ae (Ù 1<|Ç 0)<|È 2 ai) Ľ 2 [2])
 (ϨW<|Ù 3<|Ç 0)))
 Ϥq))
def eV:Fn:=ϲ5 4 kI
def ku:Fs:=(ao (Ε<|ġ<|Ç 1)
 (ao (ϧO (ħ<|È 1 ai) 4<|sIf (p_ (aD<|ϵB (ū (Ù 0 ş) ό)<|Ç 0)<|pZ (aD<|ñ gLt 3<|Ç 0)<|aD<|aj iH<|È 0<|È 1<|È 2<|È 4<|È 3 ai) (Ε ş) sNx)
 (bF Š)))
def cH:Fn:=ϳN 5 ku
def uF:Fs:=(ao (ϳ6<|Ç 0)
 (ao (Ϫ8 Ľ 2<|ϳ6<|Rs<|aj dA<|È 1<|È 2 ai)
 (bF<|ϰr bY 0 (ñ JY 0 Ŋ) 1 [1])))
def jM:Fn:=ϲ5 3 uF
def iG:Fs:=(ao (ϱn<|Rs<|aj dZ<|È 0 ai)
 (ao (ϱ4<|Ϧ6 (Ç 0)<|ħ<|È 0 ai)
 (ao (ϳ7<|Ç 0)
 (ao (bZ (iR1<|ħ<|È 0 ai) (K2 8) (sIf (aD<|Ϲ1 (Ù 5<|aa 8) ϊ) (ao (Ϭw<|ϱN (ϰz (Ϩn<|È 1<|ĝ (ñ a_ 2<|aa 8))<|Ç 69621)<|Ç 2147483629)
 (ao (ϳ7<|ŗ (ñ a_ 7<|ϰz (ŗ (Ç 9) ş) Š)<|ϰz (ñ ip 9<|Ç 3)<|Ç 256)
 (ϯe 6 ϦL))) sNx))
 (ao (bZ (iR3 (ϳA (ħ<|È 0 ai)<|Ç 1) (ġ<|Ç 1)<|ġ<|Ç 1) (K2 8)<|ϷK (Ϸo (Ù 5<|aa 8) ϊ) (ϯe 6<|pX<|ϥ7 (ŗ (Ù 6<|ū (Ù 5<|aa 8)<|Ç 0)<|Ù 6<|ū (Ù 5<|aa 8)<|ġ<|Ç 1)<|Ç 2) sNx)
 (dB 6))))))
def cE:Fn:=aZ 5 10 iG
def yO:Fs:=(bF<|aP (iR1<|ħ<|È 0 ai) ϰa (aD<|ϵB (ħ<|ĝ (ϸc<|È 1<|È 0 ai))<|Ç 1) Ľ 1 [0])
def kn:Fn:=ϲ5 1 yO
def iI:Fs:=(ao (Ų ϊ)
 (ao (bZ (iR1<|ħ<|È 0 ai) Ϧw (ao (ϰk<|Rs<|ϸc<|È 0<|È 3 ai)
 (sIf (p_ (aD<|ϵB (ħ<|È 4 ai)<|Ç 0)<|aD<|Ϸo (ϰz (Ç 2)<|Ù 1 Š)<|ŗ (Ù 1<|Ù 4<|Ç 0)<|Ù 1<|Ù 4<|ġ<|Ç 1) (ϨZ<|d_<|ae (eC<|Ė "middle")<|È 3 ai) sNx)))
 Ϥr))
def dc:Fn:=ε 5 iI
def qA:Fs:=(ao (Ε<|Rs<|ϸc<|È 0<|È 2 ai)
 (bF<|ϺI Š (ϳb 3 (d8<|Ç 1) iN) (ϡ<|Œ 0 1 bB) aT (ϳA (Ù 2 Ŋ)<|Ù 2 Ľ) 2 [1]))
def iq:Fn:=ϳN 4 qA
def lO:Fs:=(ao (Ε<|ϳA (ħ<|ae (ϸc<|È 0<|ĝ (Ù 1<|Ç 0)) ai)<|Ç 2)
 (ao (ϷK (Ù 1<|Ç 2) (bF<|aP (iR1<|ñ a_ 3<|Ç 1) ϰa aT (ñ a_ 1<|ϓo<|È 0<|ĝ (ñ cO 2 Ľ)) 1 [2,3]) sNx)
 (bF<|aP (iR1<|ñ a_ 3<|Ç 1) ϰa aT (ñ a_ 1 Ľ) 1 [2])))
def cU:Fn:=ϳN 4 lO
def kF:Fs:=(ao (Ų<|Rs<|ϻK<|È 0 ai)
 (ao (Ε<|Rs<|ϨB<|È 0 ai)
 (ao (ϰk<|Rs<|ϰr bY 3 (Rs<|d_<|ae (Rs<|ŗ (bO<|ae (Ç 1)<|ĝ (Ç 0))<|eSl l6 (Ù 1<|Ù 0<|Ç 0) (d8<|Ç 2) iN)<|ae (Ù 2<|Ù 0<|Ç 0) ai) 1 [1,2])
 (ao (ϱn<|Rs<|ϰr bY 3 (Rs<|d_<|ae (Rs<|ŗ (bO<|ae (Ç 0)<|ĝ (Ç 1))<|aP (bY<|eSl l6 (Ù 1<|Ù 0<|ġ<|Ç 1) (d8<|Ç 2) iN) ϰa aT (ġ Ľ) 1 [])<|ae (Ù 2<|Ù 0<|ġ<|Ç 1) ai) 1 [1,2])
 (bF<|ñ a_ 4 ς)))))
def c9:Fn:=ε 6 kF
def uz:Fs:=(bF<|aj jM<|ae (ϺI Ľ Ŋ (ϡ<|Œ 0 1 bB) aT (ϳA (϶v (Ù 2 Š) Ľ)<|϶v (Ù 4 Š) Ŋ) 2 [1,2,0]) ai)
def eE:Fn:=ϳN 3 uz
def lH:Fs:=(ao (Ε<|Ç 1)
 (ao (bZ (iZp Ľ Ŋ) (ϡ<|Œ 4 5 bB)<|EU 3 gn<|Ù 4 ς)
 (ao (ϱ4<|Ϧ6 (Ç 0) ό)
 (ao (bZ (iZp Ľ Ŋ) (ϡ<|Œ 4 5 bB)<|xj 6 ς<|϶v (Ù 4<|ġ<|Ç 1)<|ñ JY 3<|Ù 4 ς)
 (pq 6<|bF<|aj jM<|È 6 ai)))))
def d4:Fn:=ϳN 7 lH
def pH:Fs:=(ao (Ų<|Rs<|ϨB<|È 0 ai)
 (ao (sIf (aD<|Ϸo (ϰr iTp 1 (ħ<|È 0 ai) 1 [])<|bO<|ae (ħ<|È 2 ai)<|ae (ħ<|È 2 ai)<|ĝ (ħ<|È 0 ai)) (bF<|eC<|ã false) sNx)
 (ao (Ε<|ϥB<|ĝ (ϰr iTp 1 (ϥB<|È 0 ai) 1 []))
 (bF<|Ao (ñ gGe 3<|Ç 0)<|Ap<|ϨC<|ae (ϰr bY 2 (ū (Ù 1<|Ç 2)<|Ù 0<|Ç 0) 1 [1]) ai))))
def eG:Fn:=ε 4 pH
def m_:Fs:=(ao (Ų<|ħ<|È 1 ai)
 (ao (Ε ϊ)
 (ao (bZ (iR1 ό) ϩQ (ao (ϱn<|Rs<|ϰr bY 0 (ū (Ù 0<|Ç 0) Ŋ) 1 [4])
 (ϥU<|Rs<|ŗ (ñ a_ 5<|aj n8<|È 2<|È 4 ai)<|bO<|ae (Ϥy (ñ gLt 4<|Ç 2) (Ç 1)<|Ç 0) ai)))
 (ao (ϥU<|Rs<|ŗ (ŗ (ϰr bY 0 (Ù 0<|Ç 1) 1 [])<|aj n8<|È 2<|È 2 ai)<|bO<|ĝ (Ç 0))
 (ao (bZ (iEn Ŋ) (ϡ<|Œ 4 6 bB)<|xj 3 (ġ<|Ç 1)<|Rs<|mE<|ϨD<|ae (Ù 3<|ġ<|Ç 1)<|ae (Ù 3 ş)<|È 6 ai)
 (dB 3))))))
def gJ:Fn:=ε 7 m_
def oq:Fb:=(LN (Ε<|Rs<|pX<|όS<|ae (Ù 0<|ġ<|Ç 1)<|È 2 ai)
 (LN (dX (aD<|ñ gGe 3<|Ç 0) (ao (ϰk<|Rs<|pX<|ϓq<|È 0<|È 1<|È 3 ai)
 (ao (tM 1 ş Š)
 (ao (ϧO (pX<|ħ<|È 0 ai) 5<|ϷK (ñ gNe 5 ş) (tM 0 ς<|mE<|ϨD<|ae (Ù 0 ς)<|ae (Ù 0 ş)<|È 3 ai) sNx)
 (Ε<|Rs<|pX<|όS<|ae (Ù 0<|ġ<|Ç 1)<|È 2 ai)))))
 bNx))
def sx:Fm2:=fm2 6 oq
def m7:Fs:=(ao (Ų<|Rs<|ϨB<|È 0 ai)
 (ao (Ε<|ħ<|È 2 ai)
 (ao (ϰk<|Ϧ6 (Ç 0)<|ħ<|È 0 ai)
 (ao (bZ (iZp (ϓp<|È 0 ai)<|ϳb 1 (d8<|ϰz (Ç 2) Š) iN) (ϡ<|Œ 5 6 bB)<|xj 4 (Ù 5<|Ç 1) ϸT)
 (ve (ϳb 1 iN<|d8 Š) (ϳb 1 (d8 Š)<|d8<|ϰz (Ç 2) Š) 4)))))
def gN:Fn:=ε 7 m7
def ny:Fs:=(ao (Ų<|όT<|ĝ (Ù 1<|Ç 2))
 (ao (bZ (bY<|ϓp<|È 0 ai) (ϡ<|Œ 3 4 bB)<|ϖu Š<|ū (Ù 1<|Ç 2) ş)
 (ao (bZ (JU<|ae (ϨB<|È 0 ai)<|ae (Ù 1<|Ç 0)<|ĝ (Ù 1<|Ç 1)) (ϳ1<|ϳW 5<|Œ 6 7 bB) (ao (Ϯm 2 (Ù 5<|Ç 0) ϸT)
 (ϖu (Ù 5<|ġ<|Ç 1) ϦL)))
 Ϥr)))
def gM:Fn:=ε 8 ny
def eK:Fs:=(ao (Ų<|Rs<|Ϩn<|È 0<|ĝ (Ç 0))
 (ao (ϷK (Ϲ1 (ñ ip 2<|Ç 2)<|Ç 1) (bF<|aj fI<|È 0<|ae (Ç 3)<|ae (ŗ (Ç 1)<|ϱN (ñ kq 2<|Ç 2)<|Ç 2)<|ae (ϱN (Ϩn<|È 0<|ĝ (Ç 1))<|Ç 2147483647) ai) sNx)
 (bF<|aj f_<|È 0<|ae (Ç 3)<|ae (ŗ (Ç 1)<|ϱN (ñ kq 2<|Ç 2) Ŋ)<|ae (ū (bO<|ae (Ç 2)<|ĝ (Ç 9))<|ϱN (ñ kq 2<|Ç 32)<|Ç 2)<|ĝ (Ç 8))))
def bJ:Fn:=ε 3 eK
def rT:Fs:=(ao (Ε<|Rs<|ϓ1<|ĝ (aj iy<|È 0<|È 1 ai))
 (ao (ϰk<|Rs<|aj iy<|È 0<|È 2 ai)
 (ao (ϱn<|ū (aj ki<|È 4 ai)<|Ç 0)
 (bF<|d_<|ae (ñ gEq 3<|ϓ1<|È 4 ai)<|ĝ (ñ gEq 3<|ϓ1<|È 5 ai)))))
def fE:Fn:=ϳN 6 rT
def lV:Fs:=(ao (ϰk<|Rs<|ϓ2<|È 0<|È 2 ai)
 (bF<|ϴs ş (ϳ1<|ϳW 0<|Œ 1 2 bB) (aD<|F4 gLt (ϳA (Ù 3 Ŋ)<|Ù 3 Ľ)<|ñ gn 4 ό) (d_<|ae (eC<|Ė "gap")<|È 0<|È 1 ai) 3 [1,3]))
def fY:Fn:=aZ 4 5 lV
def lN:Fs:=(ao (Ε ϊ)
 (ao (bZ (bY<|ϓ2<|È 0<|È 2 ai) (ϳ1<|ϳW 4<|Œ 5 6 bB) (ao (ϳ7<|Rs<|ϺI (Ù 1 ş) (Ù 1 ς) (ϡ<|Œ 0 1 bB) aT (ñ cO 1 Ľ) 2 [])
 (ϥU<|d_<|È 7<|È 6 ai)))
 (dB 3)))
def dW:Fn:=ϳN 8 lN
def lT:Fs:=(ao (Ų<|aj gM<|È 0<|È 1 ai)
 (ao (bZ (iR3 (ϳA (ħ<|È 0 ai)<|Ç 1) (Ç 0)<|ġ<|Ç 1) Ϧw<|Ϯm 2 (ū (Ù 0 Š)<|Ç 0)<|pX<|Ù 2 Š)
 Ϥr))
def fN:Fn:=ε 4 lT
def zY:Fs:=(ao (Ε<|Rs<|ϻK<|È 0 ai)
 (ao (ϰk<|ϸd<|ĝ (Ù 2<|Ç 0))
 (ao (bZ (JU<|ae (ϨB<|È 0 ai)<|ae (Ù 2<|Ç 0)<|ĝ (Ù 2<|Ç 1)) (ϳ1<|ϳW 5<|Œ 6 7 bB)<|EU 4 Dg<|ŗ (ñ cX 6<|Ù 3<|Ù 5<|Ç 0)<|ñ cX 7<|Ù 3<|Ù 5<|ġ<|Ç 1)
 (bF<|ñ a_ 4<|ϸd<|ae (ϴs (ϓ2<|È 0<|È 1 ai) (ϳ1<|ϳW 0<|Œ 1 2 bB) aT (ϰz (ū (Ù 3<|Ç 2) Ŋ) ό) 3 [2]) ai))))
def qZ:Fn:=ϳN 8 zY
def lB:Fs:=(ao (ϳ6 ϊ)
 (ao (Ų<|Rs<|ύd<|È 0 ai)
 (ao (dX (aD<|ϵB (ħ<|È 2 ai)<|Ç 0) (ao (Ε<|Rs<|ϰr bY 2 (F4 D8 (d_<|È 0 ai)<|aj fE<|È 1<|È 0<|ĝ (Ù 2<|Ç 0)) 1 [0,2])
 (ao (ϨW<|Rs<|ϴs Š ϰa (pZ (aD<|Ù 0<|Ç 1)<|aD<|Ù 0<|Ç 2) Ľ 1 [])
 (Ų<|Rs<|ϴs Š (ϳ1<|ϳW 0<|Œ 1 2 bB) (p_ (nI<|aD Ŋ)<|nI<|aD ό) Ľ 3 []))))
 Ϥq)))
def cS:Fn:=ϲ5 4 lB
def o9:Fs:=(ao (Ų<|ū (aj nR<|È 0<|È 1 ai)<|Ç 0)
 (ao (Ε<|bO<|ĝ (Ç 0))
 (ao (bZ (iR2 (Ç 1)<|ħ<|È 0 ai) ϩQ<|ϥU<|pX<|ŗ (Ù 3<|ū (Ù 0 ş)<|Ç 0)<|Ù 2 ş)
 (ύP<|bF<|aj bj<|È 0<|È 3<|ĝ (Ç 256)))))
def i_:Fn:=ε 5 o9
def sC:Fs:=(bF<|ŗ (aj fY<|È 0<|È 1<|È 2<|È 3 ai)<|aj dc<|È 0<|È 1 ai)
def kZ:Fn:=aZ 4 4 sC
def kJ:Fs:=(ao (ϰk<|Rs<|aj fE<|È 0<|È 2<|È 3 ai)
 (ao (ϱn<|Rs<|aj iq<|È 0<|È 1<|È 2 ai)
 (ao (ϱ4<|Rs<|aj iq<|È 0<|È 1<|È 3 ai)
 (ao (ϳ7 ϊ)
 (ao (sIf (p_ (aD<|Ù 4<|Ç 0)<|aD<|ñ gNe 5 ϸT) (jD 7<|eC<|Ė "like") sNx)
 (ao (sIf (p_ (aD<|Ù 4<|Ç 1)<|aD<|ñ gNe 5<|Ϥ1<|ġ<|Ç 1) (jD 7<|eC<|Ė "mirrored") sNx)
 (dB 7)))))))
def eW:Fn:=aZ 4 8 kJ
def z7:Fs:=(ao (Ų<|Rs<|aj fN<|È 0<|È 1 ai)
 (bF<|aP (iR1<|ħ<|È 0 ai) ϰa aT (aj i7<|ae (ϴs (ϸc<|È 1<|È 0 ai) ϰa aT (Ù 1 Ľ) 1 [2]) ai) 1 [0,2]))
def qP:Fn:=ε 3 z7
def vO:Fs:=(ao (Ų<|Rs<|ύd<|È 0 ai)
 (ao (Ε ϊ)
 (ao (bZ (iEn ό) (ϡ<|Œ 4 5 bB)<|Ϫ8 (ϳb 2 (d8 ş) iN) 6<|Es 3<|aP (bY<|aj eW<|È 0<|È 1<|È 5<|È 6 ai) ϰa aT (d_<|È 1<|È 2<|È 0 ai) 1 [5,6])
 (ύP<|bF<|eB LD<|È 3 ai))))
def jT:Fn:=ε 7 vO
def kM:Fs:=(ao (Ų<|Rs<|Ϥy Ŋ (ϓf<|È 0 ai)<|ϴs (ύd<|È 0 ai) ϰa aT (Rs<|bO<|ae (d_<|È 0<|ae (eC<|ã true)<|ĝ (eC<|ã false)) ai) 1 [])
 (ao (Ε eD0)
 (ao (ϰk<|Ç 2)
 (ao (bZ (bY ό) (K2 5) (ao (ϱ4<|Rs<|ϓ3<|È 0<|ae (Ù 5<|Ç 0)<|È 4 ai)
 (ao (bZ (bY ς) (ϳ1<|ϳW 7<|Œ 8 9 bB)<|Ϯl<|Rs<|ϭT<|Ϥ1<|ġ<|Ç 1)
 (ϰk<|ŗ (ϻJ<|È 6 ai)<|Ç 1))))
 (v_ 3 ş)))))
def eU:Fn:=ε 10 kM
def my:Fs:=(ao (sIf (nI<|aD<|aj eG<|È 0<|È 1 ai) (bF<|eC<|ã false) sNx)
 (ao (Ε<|ϸd<|ĝ (Ù 1<|Ç 0))
 (ao (ϥH aD (ñ gLt 3<|Ç 1) aD (ñ gNe 3<|ϸd<|ĝ (Ù 1<|Ç 1))<|ã false)
 (ao (ϰk<|Rs<|aj qP<|È 0<|È 1 ai)
 (ao (ϷK ό (ϰk<|Rs<|ϴs (ϓf<|È 0 ai) ϰa aT (Rs<|aj d6<|È 1<|È 0 ai) 1 [4]) sNx)
 (bF<|Ap<|ϨC<|ĝ (ϰr bY 4 (ϨC<|È 0 ai) 1 [])))))))
def kj:Fn:=ϳN 5 my
def nF:Fs:=(ao (Ų<|Rs<|aj eU<|È 0<|È 1 ai)
 (ao (Ε<|bO<|ae (Rs<|Ϧ6 (Ç 0)<|Ù 2<|Ç 1) ai)
 (ao (bZ (iR2 (Ç 1)<|ħ<|È 0 ai) ϩQ (ao (ϱn<|ū (Ù 0 ş)<|Ç 0)
 (ao (ϱ4<|IJ (ϸc<|È 0<|È 5 ai) ş)
 (ao (ϳ7<|mE<|όT<|ĝ (Ù 3 ς))
 (ao (bZ (iEn<|xa (Ù 2<|Ç 0) ς ϊ) (ϡ<|Œ 8 9 bB)<|Ϯm 7 Ϫi<|Ϥy (ñ gLt 8 ϸT) (Ç 1)<|ġ<|Ç 1)
 (pq 7<|ϥU ϦL))))))
 (dB 3))))
def gG:Fn:=ε 10 nF
def kO:Fs:=(ao (ϷK (ϵB (ħ<|È 0 ai)<|Ç 12) Ju sNx)
 (ao (Ε<|Rs<|aj gG<|È 0<|È 2 ai)
 (ao (ϰk<|Rs<|ŗ (aj c9<|È 0<|È 3 ai)<|aj dW<|È 0<|È 3<|È 1 ai)
 (ao (ϱn<|aj eV<|È 4 ai)
 (ao (ϱ4<|yy 5<|aj gJ<|È 4<|È 5 ai)
 (ao (AH 6 5 (ħ<|È 4 ai) sx)
 (ao (pq 6<|ϳ7<|ū (Ù 6<|ġ<|Ç 1)<|ġ<|Ç 2)
 (ao (ϬF<|Rs<|aP (bY<|eSl l6 (Ù 6<|ġ<|Ç 1) (d8<|ħ<|È 4 ai)<|d8<|ġ<|Ç 2) ϰa aT (ġ Ľ) 1 [])
 (ao (Ϭw<|Rs<|ϰr bY 3 (ϸd<|ae (ϺI Ľ Ŋ (ϡ<|Œ 0 1 bB) aT (ñ gn 0 Ŋ) 2 []) ai) 1 [8])
 (pq 5<|bF<|d_<|ae (aj bj<|È 0<|È 9<|È 7 ai)<|È 7<|ae (aj gN<|È 0<|ae (aj d4<|È 6<|È 5<|ĝ (ħ<|È 4 ai)) ai) ai))))))))))
def kT:Fn:=ϳN 10 kO
def ni:Fs:=(ao (Ε<|Rs<|aj kT<|È 0<|È 1<|È 2 ai)
 (ao (sIf (pZ (nI<|aD<|EV "tuple" Š)<|pZ (aD<|Ϸo (ħ<|È 3 ai)<|Ç 3)<|pZ (nI<|aD<|aj e6<|ĝ (Ù 3<|Ç 1))<|aD<|F4 gLt (Ù 3<|Ç 1)<|Ç 1) (bF<|eC ò) sNx)
 (ao (sIf (pZ (aD<|Ϸo (aj kZ<|È 0<|ae (Ù 3<|Ç 0)<|È 1<|ĝ (Ù 3<|Ç 1)) ϊ)<|p_ (aD ό)<|aD<|Ϸo (aj jT<|È 0<|ĝ (Ù 3<|Ç 0)) ϊ) (bF<|eC ò) sNx)
 (ao (sIf (aD<|F4 GF (aj kj<|È 0<|ae (Ù 3<|Ç 2)<|È 2 ai)<|eC<|ã true) (bF<|eC ò) sNx)
 (ao (ϰk<|Rs<|aj eh<|È 0<|ae (Ù 3<|Ç 0)<|ĝ (Ù 3<|Ç 1))
 (ao (ϱn<|ϸd<|ae (ū (Ù 3<|Ç 2)<|Ç 0) ai)
 (ao (ϥH nI (aD<|aj e6<|È 4 ai) aD (Ϸo (ñ gn 4 ς)<|϶v (aj qZ<|È 0<|È 1<|ĝ (Ù 3<|Ç 2))<|Ù 3<|Ç 1) ò)
 (bF<|d_<|È 4<|ĝ (Ù 3<|Ç 1)))))))))
def cN:Fn:=ϳN 6 ni
def Gr:Fs:=(ao (ϳ6<|Rs<|aj bJ<|È 0<|ĝ (Ç 8))
 (ao (Ų<|ŗ (Ç 1)<|ϱN (Ϩn<|È 0<|ĝ (Ç 2))<|Ç 20)
 (ao (Ε<|Rs<|ύe<|È 1<|È 2<|ĝ (eC<|ã false))
 (ao (ϰk<|Rs<|ύe<|È 1<|È 2<|ĝ (eC<|ã true))
 (ao (ϥH aD (ñ FW 3<|eC ò) aD (ñ FW 4<|eC ò)<|ã false)
 (ao (ϱn<|Rs<|aj i_<|È 1<|È 2 ai)
 (ao (ϥH aD (Ϸo (ϫF kZ [Ä 256]<|È 1<|È 5<|È 2 ai) ϊ) aD (Ϸo (aj jT<|È 1<|È 5 ai) ϊ)<|ã false)
 (ao (ϱ4<|Rs<|d_<|ae (Rs<|ϫF eh [Ä 256]<|È 1<|È 5 ai)<|ĝ (Ç 256))
 (ao (ϳ7<|Rs<|aj cE<|È 1<|È 0<|ae (Ç 30)<|ae (Ç 256)<|È 2 ai)
 (ao (ϥH aD (Ϸo (ϫF kZ [Ä 256]<|È 1<|È 7<|È 2 ai) ϊ) nI (aD<|ϓ4<|È 3<|ae (d_<|ae (Rs<|ϫF eh [Ä 256]<|È 1<|È 7 ai)<|ĝ (Ç 256)) ai)<|ã false)
 (ao (ϥH nI (aD<|ϓ4<|È 3<|È 4 ai) nI (aD<|ϓ4<|È 4<|È 6 ai)<|ã false)
 (ao (ϬF<|Rs<|aj bU<|È 1 ai)
 (ao (Ϭw<|Rs<|ύe<|È 8<|È 2<|ĝ (eC<|ã false))
 (ao (ax 10<|Rs<|ύe<|È 8<|È 2<|ĝ (eC<|ã true))
 (ao (ϥH aD (ñ FW 9<|eC ò) aD (ñ FW 10<|eC ò)<|ã false)
 (ao (sIf (aD<|Ϸo (϶v (Ù 9<|Ç 0)<|Ù 3<|Ç 1)<|϶v (Ù 3<|Ç 0)<|Ù 9<|Ç 1) (bF<|eC<|ã false) sNx)
 (bF<|Ϲ1 (϶v (Ù 10<|Ç 0)<|Ù 4<|Ç 1)<|϶v (Ù 4<|Ç 0)<|Ù 10<|Ç 1)))))))))))))))))
def zJ:Fn:=ϲ5 11 Gr
def top(i:Nat):No:=ϛb<|.Pass ⟨0,0,0,0⟩
set_option bootstrap.genMatcherCode true in
local macro_rules|`(tactic| trivial)=>do let t<-mqX (λ_=>mqY) (Lean.mkIdent `Ϝy) [];pure (mqN "Tactic paren" [mqA "(",t[1][1],mqA ")"])
abbrev oK:No:=ē 5
def sZ:Ē ϴE ϴE oK:=Æ
abbrev mX:No:=ē 7
def qB:Ē ["tree","levels","row"] ϻ mX:=Æ
abbrev rX:No:=ē 10
def zZ:Ē ϻ ϻ rX:=Æ
abbrev rh:No:=ē 13
def oF:Ē ["tree","node","end"] ϴE rh:=Æ
abbrev iV:No:=ē 16
def nc:Ē ["rows","numbers","places","place","number","named"] ϐ7 iV:=Æ
abbrev sF:No:=ē 23
def tU:Ē ["one","other","gap","apart","asked","distance"] ϐw sF:=Æ
abbrev b7:No:=ē 32
def fA:Ē ["outlines","stands","joined","level","there","left","right"] ϐx b7:=Æ
abbrev pF:No:=ē 52
def sX:Ē ϯi ϯi pF:=Æ
abbrev xW:No:=ē 54
def EM:Ē Ϯ1 Ϯ1 xW:=Æ
abbrev jW:No:=ē 56
def qQ:Ē ["row","count","found"] ϑU jW:=Æ
abbrev qI:No:=ē 58
def vb:Ē ["rows","chosen","column","one","other","first","second"] Ϗo qI:=Æ
abbrev jS:No:=ē 61
set_option bootstrap.genMatcherCode true in
def mq:Ē ["one","other","rest"] ϫa jS:=Æ
abbrev jZ:No:=ē 66
def qO:Ē ώr ώr jZ:=Æ
abbrev eY:No:=ē 71
def lY:Ē ["felt","group","rows"] ϑy eY:=Æ
abbrev rF:No:=ē 74
def u5:Ē ["_law_script","_law_k","_law_number"] ϏY rF:=Æ
abbrev oJ:No:=ē 75
def tK:Ē ϯD ϯD oJ:=Æ
abbrev oZ:No:=ē 76
def tR:Ē ["_law_number","_law_most","_law_letters","_law_label_here","_law_k"] ϏL oZ:=Æ
abbrev dM:No:=ē 78
def fU:Ē ["_law_tree_here","_law_order","_law_left","_law_node"] ϸ6 dM:=Æ
abbrev rL:No:=ē 81
def vt:Ē ["_law_tree_here","_law_shift","_law_found","_law_elder","_law_label_here","_law_tall"] ϏB rL:=Æ
abbrev gX:No:=ē 84
def oj:Ē ["_law_tree_here","_law_some","_law_k"] ϸ6 gX:=Æ
abbrev kx:No:=ē 87
def nV:Ē Ϯq Ϯq kx:=Æ
abbrev j_:No:=ē 6
def rO:Ē ϴE ϴE j_:=Æ
abbrev qU:No:=ē 8
def vd:Ē ["tree","numbers","node","level"] ϻ qU:=Æ
abbrev ua:No:=ē 12
def wO:Ē ["tree","node","bough","row"] ϴE ua:=Æ
abbrev sO:No:=ē 18
def zQ:Ē ["bough","elders"] ["bough"] sO:=Æ
abbrev fB:No:=ē 25
def lZ:Ē ["outlines","gap","places","number","asked"] ϸ7 fB:=Æ
abbrev gW:No:=ē 26
def nP:Ē ["outlines","gap","last","count","places","number","one","asked"] ϏU gW:=Æ
abbrev eR:No:=ē 29
def jP:Ē ["tree","places","unit","least"] ϧc eR:=Æ
abbrev fR:No:=ē 41
def km:Ē ϕV ϧc fR:=Æ
abbrev iR:No:=ē 51
def pO:Ē ["demands","chosen","number","lone"] ϓR iR:=Æ
abbrev lU:No:=ē 57
def pM:Ē ["rows","chosen","column","found","number"] ϏQ lU:=Æ
abbrev sj:No:=ē 60
def Ag:Ē ["numbers","divisor","number"] ϓS sj:=Æ
abbrev rM:No:=ē 77
def o8:Ē ["_law_script","_law_start","_law_many","_law_most","_law_deep","_law_tree_here","_law_way","_law_k","_law_number","_law_keep"] ώ2 rM:=Æ
abbrev gY:No:=ē 79
def gr:Ē ["_law_tree_here","_law_order","_law_found","_law_node","_law_elder","_law_label_here","_law_tall"] ϸ6 gY:=Æ
abbrev jA:No:=ē 80
def lI:Ē ["_law_tree_here","_law_script","_law_start","_law_found","_law_k","_law_number","_law_size","_law_letters","_law_label_here","_law_j"] Ϗh jA:=Æ
abbrev jO:No:=ē 85
def mm:Ē ["_law_tree_here","_law_script","_law_start","_law_unit","_law_gap","_law_some","_law_places","_law_at","_law_k","_law_number"] ώ1 jO:=Æ
abbrev kS:No:=ē 9
def tN:Ē ["tree","pairs","level"] ϻ kS:=Æ
abbrev jL:No:=ē 15
def me:Ē ["tree","order","waiting","node"] ϻ jL:=Æ
abbrev xY:No:=ē 19
def Ez:Ē ϻ ϻ xY:=Æ
abbrev vK:No:=ē 24
def zR:Ē ["outlines","gap","earliest"] ϸ7 vK:=Æ
abbrev jI:No:=ē 37
def mO:Ē ["tree","places","found","node","children"] ϧu jI:=Æ
abbrev oX:No:=ē 40
def w6:Ē ["tree","places","node","children"] ϏZ oX:=Æ
abbrev gQ:No:=ē 47
def qF:Ē ["tree","first","count","last"] Ϗ0 gQ:=Æ
abbrev fJ:No:=ē 49
def pQ:Ē ["tree","spots","reach","levels","left","right"] ϑz fJ:=Æ
abbrev sH:No:=ē 59
def Ah:Ē Ϯv Ϯv sH:=Æ
abbrev nE:No:=ē 62
def k6:Ē ["rows","chosen","count","bottom","row","column","prices"] ϧa nE:=Æ
abbrev iz:No:=ē 70
def o5:Ē ["tree","pulls","levels","least"] ϵ9 iz:=Æ
abbrev nC:No:=ē 82
def iT:Ē ["_law_script","_law_start","_law_many","_law_kinds","_law_part","_law_tree_here","_law_k","_law_bough"] ώ8 nC:=Æ
abbrev uC:No:=ē 14
def wF:Ē ["tree","numbers"] ϻ uC:=Æ
abbrev iY:No:=ē 31
def pP:Ē ["outlines","gap","room","elder"] ϸ7 iY:=Æ
abbrev kQ:No:=ē 36
def s_:Ē ["tree","gap","reach"] Ϲk kQ:=Æ
abbrev iK:No:=ē 53
def ka:Ē ["demands","chosen","count","rows","number","row","column"] ϐG iK:=Æ
abbrev yE:No:=ē 55
def A0:Ē ϕP ϧa yE:=Æ
abbrev oT:No:=ē 63
def tJ:Ē ["tree","prices","levels","count","gaps","pair","price"] ϑn oT:=Æ
abbrev oE:No:=ē 68
def tH:Ē ["tree","pulls","told","one","other","level","left","right"] ϵ9 oE:=Æ
abbrev i5:No:=ē 83
def lQ:Ē ["_law_script","_law_most","_law_cell_here"] ϏM i5:=Æ
abbrev uG:No:=ē 17
def wL:Ē ["tree","one","other","form","bough","mirror"] ϐg uG:=Æ
abbrev qT:No:=ē 30
def rY:Ē ["tree","gap","offsets","outlines","node","children","below","stands","child","stand"] Ϲk qT:=Æ
abbrev kf:No:=ē 35
def rR:Ē ["tree","places","gap","unit","asked"] ϺQ kf:=Æ
abbrev jV:No:=ē 50
def rW:Ē ["tree","spots","gap","demands","one","other","cells","row"] ϐh jV:=Æ
abbrev m8:No:=ē 67
def rP:Ē ["tree","pulls","sums","node"] ϵ9 m8:=Æ
abbrev xK:No:=ē 72
def zF:Ē ["tree","gap","pulls","reach","total","level","left","right"] ϐi xK:=Æ
abbrev eZ:No:=ē 20
def lq:Ē ["tree","groups","waiting","held"] ϻ eZ:=Æ
abbrev BN:No:=ē 28
def CY:Ē ["tree","gap","offsets","places","node"] Ϲk BN:=Æ
abbrev nY:No:=ē 34
def AA:Ē ϺQ ϺQ nY:=Æ
abbrev ly:No:=ē 39
def pJ:Ē ["tree","places","one","other","alike","steps","other_steps","words"] ϏC ly:=Æ
abbrev yn:No:=ē 65
def Ex:Ē ["tree","pulls","sums"] ϵ9 yn:=Æ
abbrev u6:No:=ē 38
def A5:Ē ["tree","places","elders","found","number","one","other"] ϧu u6:=Æ
abbrev iF:No:=ē 46
def gU:Ē ["tree","strict","groups","numbers","count","group","steps","node","like","mirror"] ϧv iF:=Æ
abbrev fV:No:=ē 69
def rV:Ē ϖb ϏV fV:=Æ
abbrev ox:No:=ē 48
def jY:Ē ["tree","strict","steps","rows","node","elder","ahead","row","place","number"] ϧv ox:=Æ
abbrev ed:No:=ē 45
def kR:Ē ϕi Ϗ8 ed:=Æ
abbrev oQ:No:=ē 86
def ke:Ē ["_law_tree_here","_law_gap","_law_strict","_law_found","_law_wide","_law_bottom"] Ϗi oQ:=Æ
abbrev vD:No:=ē 88
def Ff:Ē ["_law_script","_law_tree_here","_law_gap","_law_least_here","_law_strict","_law_places","_law_quick","_law_own","_law_mirror","_law_there","_law_other"] ϑV vD:=Æ
def Ib:ϺP "list":=œ
def Nq:ϺP "tuple":=œ
def Vs:ϺP "int":=œ
def N7:ϺP "bool":=œ
set_option genInjectivity false
section
abbrev Ad:=(Nat->Ix)×(Nat->Fk)
abbrev zAt{α:Type}(d:α):List α->Nat->α:=λL=>@List.rec α (λ_=>Nat->α) (λ_=>d) (λp _ h n=>@Nat.rec (λ_=>α) p (λk _=>h k) n) L
abbrev zAl(L:List Prop):Prop:=@List.rec Prop (λ_=>Prop) True (λp _ h=>p/\h) L
theorem znI{L:List Prop}(H:zAl L):∀i,zAt True L i:=by
 induction L with
 |nil=>intro _;exact True.intro
 |cons p l h=>intro i;cases i with|zero=>exact H.1|succ k=>exact h H.2 k
def mqJg(x y:String):Lean.MacroM Lean.Syntax:=
 let k:=(y.toList.drop 1).foldl (λk c=>k*36+(if c.isDigit then c.toNat-48 else c.toNat-87)) 0
 let n:=Lean.Syntax.mkNumLit (toString k)
 if x=="T"&&y.front=='t'||x.front=='g'&&y.front=='y' then `(($(Lean.mkIdent (.mkSimple x)) $n))
 else if x=="J"&&y.front=='j' then if k<73 then `((J.fst $n)) else `((J.snd $(Lean.Syntax.mkNumLit (toString (k-73)))))
 else Lean.Macro.throwUnsupported
set_option bootstrap.genMatcherCode true in
def mqJ(s:Lean.Syntax):Lean.MacroM Lean.Syntax:=
 match s.getId.components with
 |.str .anonymous x::.str .anonymous y::r=>do r.foldlM (λb z=>`(($(⟨b⟩)).$(Lean.mkIdent z):ident)) (<-mqJg x y)
 |_=>Lean.Macro.throwUnsupported
local macro_rules(kind:=ident)|s=>mqJ s
def Wd(K:At)(mg:Ŏ)(J:Ad):Prop:=∀i,zAt True [
 ϴt "abs",
 ϴt "any",
 ϴt "bool",
 ϴt "enumerate",
 ϴt "int",
 ϴt "isinstance",
 ϴt "len",
 ϴt "list",
 ϴt "max",
 ϴt "min",
 ϴt "range",
 ϴt "sorted",
 ϴt "sum",
 ϴt "tuple",
 ϴt "zip",
 ∃t,mg "MOST_PLANNED"=Â (Ä 12 t),
 ∃t,mg "ROOMS"=Â (Ä 2 t),
 ∃t,mg "SHREDS"=Â (Ä 256 t),
 đ "check_node" oK ϴE J.j0 J.j21,
 đ "node_levels" mX ϻ J.j1 J.j22,
 đ "reaches" rX ϻ J.j2 J.j23,
 đ "bough_end" rh ϴE J.j3 J.j24,
 đ "renumbered" iV ϐ7 J.j4 J.j25,
 đ "nearest" sF ϐw J.j5 J.j26,
 đ "joined_outline" b7 ϐx J.j6 J.j27,
 đ "asks_alone" pF ϯi J.j7 J.j28,
 đ "marks" xW Ϯ1 J.j8 J.j29,
 đ "first_short" jW ϑU J.j9 J.j2a,
 đ "is_sooner" qI Ϗo J.ja J.j2b,
 đ "common_divisor" jS ϫa J.jb J.j2c,
 đ "child_leans" jZ ώr J.jc J.j2d,
 đ "group_leans" eY ϑy J.jd J.j2e,
 đ "_law_cell" rF ϏY J.je J.j2f,
 đ "_law_whole" oJ ϯD J.jf J.j2g,
 đ "_law_label" oZ ϏL J.jg J.j2h,
 đ "_law_mirror_order" dM ϸ6 J.jh J.j2i,
 đ "_law_hung" rL ϏB J.ji J.j2j,
 đ "_law_children" gX ϸ6 J.jj J.j2k,
 đ "_law_no_wider" kx Ϯq J.jk J.j2l,
 đ "children_of" j_ ϴE J.jl J.j2m,
 đ "levels_of" qU ϻ J.jm J.j2n,
 đ "bough_of" ua ϴE J.jn J.j2o,
 đ "form_of" sO ["bough"] J.jo J.j2p,
 đ "earliest_places" fB ϸ7 J.jp J.j2q,
 đ "latest_places" gW ϏU J.jq J.j2r,
 đ "moved_to_side" eR ϧc J.jr J.j2s,
 ύH "width_of" fR ϧc ["unit"] 2 [Ä 256] J.js J.j2t,
 đ "lone_demands" iR ϓR J.jt J.j2u,
 đ "row_given_up" lU ϏQ J.ju J.j2v,
 đ "lowered" sj ϓS J.jv J.j2w,
 đ "_law_tree" rM ώ2 J.jw J.j2x,
 đ "_law_mirror_tree" gY ϸ6 J.jx J.j2y,
 đ "_law_relabelled" jA Ϗh J.jy J.j2z,
 đ "_law_by_leaves" jO ώ1 J.jz J.j30,
 đ "neighbours" kS ϻ J.j10 J.j31,
 đ "mirrored_order" jL ϻ J.j11 J.j32,
 đ "forks" xY ϻ J.j12 J.j33,
 đ "room_of" vK ϸ7 J.j13 J.j34,
 đ "broken_middles" jI ϧu J.j14 J.j35,
 đ "steps_of" oX ϏZ J.j15 J.j36,
 đ "group_steps" gQ Ϗ0 J.j16 J.j37,
 đ "side_demands" fJ ϑz J.j17 J.j38,
 đ "cleared" sH Ϯv J.j18 J.j39,
 đ "told_prices" nE ϧa J.j19 J.j3a,
 đ "are_pulls" iz ϵ9 J.j1a J.j3b,
 đ "_law_family" nC ώ8 J.j1b J.j3c,
 đ "mirrored" uC ϻ J.j1c J.j3d,
 đ "stands_below" iY ϸ7 J.j1d J.j3e,
 đ "asked_gaps" kQ Ϲk J.j1e J.j3f,
 đ "first_rows" iK ϐG J.j1f J.j3g,
 đ "settle" yE ϧa J.j1g J.j3h,
 đ "told_pulls" oT ϑn J.j1h J.j3i,
 đ "node_pulls" oE ϵ9 J.j1i J.j3j,
 đ "_law_small_tree" i5 ϏM J.j1j J.j3k,
 đ "likeness" uG ϐg J.j1k J.j3l,
 đ "pieces" qT Ϲk J.j1l J.j3m,
 đ "broken_gaps" kf ϺQ J.j1m J.j3n,
 đ "gap_demands" jV ϐh J.j1n J.j3o,
 đ "bough_pulls" m8 ϵ9 J.j1o J.j3p,
 đ "worth" xK ϐi J.j1p J.j3q,
 đ "like_groups" eZ ϻ J.j1q J.j3r,
 đ "drawn" BN Ϲk J.j1r J.j3s,
 ύH "broken" nY ϺQ ["unit"] 3 [Ä 256] J.j1s J.j3t,
 đ "unlike_words" ly ϏC J.j1t J.j3u,
 đ "leans" yn ϵ9 J.j1u J.j3v,
 đ "unlike" u6 ϧu J.j1v J.j3w,
 đ "step_numbers" iF ϧv J.j1w J.j3x,
 ύH "is_paper" fV ϏV ["strict"] 2 [ύo] J.j1x J.j3y,
 đ "place_rows" ox ϧv J.j1y J.j3z,
 ύH "narrowest" ed Ϗ8 ["strict"] 2 [ύo] J.j1z J.j40,
 đ "_law_least" oQ Ϗi J.j20 J.j41] i
def G1(P:Do)(w:Ev)(K:At)(mg:Ŏ)(base:Op)(J:Ad):Prop:=∀i,zAt True [
 ė 1 J.j0 J.j21 ϴE fi,
 ė 1 J.j1 J.j22 ϻ fT,
 ė 1 J.j2 J.j23 ϻ bT,
 ė 1 J.j3 J.j24 ϴE iW,
 ė 1 J.j4 J.j25 ϐ7 gH,
 ė 1 J.j5 J.j26 ϐw g_,
 ė 1 J.j6 J.j27 ϐx cC,
 ė 1 J.j7 J.j28 ϯi gP,
 ė 1 J.j8 J.j29 Ϯ1 n8,
 ė 1 J.j9 J.j2a ϑU cA,
 ė 1 J.ja J.j2b Ϗo iH,
 ė 1 J.jb J.j2c ϫa dA,
 ė 1 J.jc J.j2d ώr i7,
 ė 1 J.jd J.j2e ϑy d6,
 ė 1 J.je J.j2f ϏY bP,
 ė 1 J.jf J.j2g ϯD e6,
 ϳ5 mg base y_ 1 J.jg J.j2h ϏL (ϩi mg e_),
 ė 1 J.jh J.j2i ϸ6 cy,
 ė 1 J.ji J.j2j ϏB i6,
 ė 1 J.jj J.j2k ϸ6 dZ,
 ė 1 J.jk J.j2l Ϯq b_] i
def G2(P:Do)(w:Ev)(K:At)(mg:Ŏ)(base:Op)(J:Ad):Prop:=∀i,zAt True [
 ė 2 J.jl J.j2m ϴE aV,
 ė 2 J.jm J.j2n ϻ bS,
 ė 2 J.jn J.j2o ϴE iy,
 ė 2 J.jo J.j2p ["bough"] hX,
 ė 2 J.jp J.j2q ϸ7 cT,
 ė 2 J.jq J.j2r ϏU dU,
 ė 2 J.jr J.j2s ϧc bj,
 ė 2 J.js J.j2t ϧc eh,
 ė 2 J.jt J.j2u ϓR eV,
 ė 2 J.ju J.j2v ϏQ cH,
 ė 2 J.jv J.j2w ϓS jM,
 ė 2 J.jw J.j2x ώ2 f_,
 ė 2 J.jx J.j2y ϸ6 bU,
 ė 2 J.jy J.j2z Ϗh b8,
 ė 2 J.jz J.j30 ώ1 cE] i
def G3(P:Do)(w:Ev)(K:At)(mg:Ŏ)(base:Op)(J:Ad):Prop:=∀i,zAt True [
 ė 3 J.j10 J.j31 ϻ dG,
 ė 3 J.j11 J.j32 ϻ df,
 ė 3 J.j12 J.j33 ϻ kn,
 ė 3 J.j13 J.j34 ϸ7 lC,
 ė 3 J.j14 J.j35 ϧu dc,
 ė 3 J.j15 J.j36 ϏZ iq,
 ė 3 J.j16 J.j37 Ϗ0 cU,
 ė 3 J.j17 J.j38 ϑz c9,
 ė 3 J.j18 J.j39 Ϯv eE,
 ė 3 J.j19 J.j3a ϧa d4,
 ė 3 J.j1a J.j3b ϵ9 eG,
 ė 3 J.j1b J.j3c ώ8 fI] i
def G4(P:Do)(w:Ev)(K:At)(mg:Ŏ)(base:Op)(J:Ad):Prop:=∀i,zAt True [
 ė 4 J.j1c J.j3d ϻ ki,
 ė 4 J.j1d J.j3e ϸ7 bw,
 ė 4 J.j1e J.j3f Ϲk dF,
 ė 4 J.j1f J.j3g ϐG gJ,
 ϳ5 mg base y_ 4 J.j1g J.j3h ϧa (Gn K sx),
 ė 4 J.j1h J.j3i ϑn gN,
 ė 4 J.j1i J.j3j ϵ9 gM,
 ė 4 J.j1j J.j3k ϏM bJ] i
def G5(P:Do)(w:Ev)(K:At)(mg:Ŏ)(base:Op)(J:Ad):Prop:=∀i,zAt True [
 ė 5 J.j1k J.j3l ϐg fE,
 ė 5 J.j1l J.j3m Ϲk nR,
 ė 5 J.j1m J.j3n ϺQ fY,
 ė 5 J.j1n J.j3o ϐh dW,
 ė 5 J.j1o J.j3p ϵ9 fN,
 ė 5 J.j1p J.j3q ϐi qZ] i
def G6(P:Do)(w:Ev)(K:At)(mg:Ŏ)(base:Op)(J:Ad):Prop:=∀i,zAt True [
 ė 6 J.j1q J.j3r ϻ cS,
 ė 6 J.j1r J.j3s Ϲk i_,
 ė 6 J.j1s J.j3t ϺQ kZ,
 ė 6 J.j1t J.j3u ϏC eW,
 ė 6 J.j1u J.j3v ϵ9 qP] i
def G7(P:Do)(w:Ev)(K:At)(mg:Ŏ)(base:Op)(J:Ad):Prop:=∀i,zAt True [
 ė 7 J.j1v J.j3w ϧu jT,
 ė 7 J.j1w J.j3x ϧv eU,
 ė 7 J.j1x J.j3y ϏV kj] i
def G8(P:Do)(w:Ev)(K:At)(mg:Ŏ)(base:Op)(J:Ad):Prop:=∀i,zAt True [
 ė 8 J.j1y J.j3z ϧv gG] i
def G9(P:Do)(w:Ev)(K:At)(mg:Ŏ)(base:Op)(J:Ad):Prop:=∀i,zAt True [
 ė 9 J.j1z J.j40 Ϗ8 kT] i
def G10(P:Do)(w:Ev)(K:At)(mg:Ŏ)(base:Op)(J:Ad):Prop:=∀i,zAt True [
 ė 10 J.j20 J.j41 Ϗi cN] i
variable{P:Do}{w:Ev}{K:At}{mg:Ŏ}{base:Op}{J:Ad}
def dg2(i:Nat){p T pos:Pos}(H:à (á X.N=Ď))(b:à (ϺJ X.N=ϰO))(C:à ϗ)(h:X.à:=by first|assumption|(dsimp only[cxK];decide+kernel))(a:ϕ (ϲg x))(A:ϕ (ϲg y))(F:ϕ (ϳg\/ϱW=Â ο))(g:ϕ (X.fn y=true\/ϗU=Â ο)):ϖ4 [ð p,ϱ9 y T] [] (ϡ<|Ϙe<|ϳW (i+1) bB):=qN C<|ϕ2<|ϗl mG
def dg3(i:Nat){p T p2 pos:Pos}(H:à (á X.N=Ď))(b:à (ϺJ X.N=ϰO))(c:à (X.N[i+2]?=Â z))(C:à ϗ)(h:X.à:=by first|assumption|(dsimp only[cxK];decide+kernel))(a:ϕ (ϲg x))(A:ϕ (ϲg y))(n:ϕ (ϲg z))(F:ϕ (ϳg\/ϱW=Â ο))(g:ϕ (X.fn y=true\/ϗU=Â ο))(J:ϕ (ϴ X.fn z\/ϐd z=Â ο)):ϖ4 [ð p,ϱ9 y T,ϱ9 z p2] ([i+2]++[]) (ϳ1<|Ϙe<|Œ (i+1) (i+2) bB):=qN C<|ϕ2<|ϗl<|bE (bR h c n J) mG
def dk{pos:Pos}{it:Fi}(sc:Scope)(outs:À ϴM)(is:Ò)(own:À Str)(hi:ϕ (ϸf iter it))(hg:ϭ8 (ϥg (υ C ex H6)))(hc:Ϭ5 H6 (ύf (υ C ex H6)):=by intro _ _ _ _ _;first|exact MZ|trivial)(he:ϭ8 (ύg (υ C ex H6)))(bk:ϕ ϶Y)(hm:à ϗ)(hk:ϱD Ϯy)(hs:ϸZ):ï ϳO ϭW:=J2 own bk hm hk hi hg hc he hs
def sk{pos:Pos}{it:Fi}(i:Nat)(sc:Scope)(outs:À ϴM)(is:Ò)(own:À Str)(w:∀σ H Q,ϧC fe σ H Q->ϧC ϭW σ H Q:=by first|exactλ_ _ _ q=>MY q|exactλ_ _ _ q=>q)(hi:ϕ (ϸf iter it))(hg:ϭ8 (ϥg (υ C ex H6)))(hc:Ϭ5 H6 (ύf (υ C ex H6)):=by intro _ _ _ _ _;first|exact MZ|trivial)(he:ϭ8 (ύg (υ C ex H6)))(bk:ϕ ϶Y)(hm:à ϗ)(hk:ϱD Ϯy)(hN:X.à:=by assumption)(hx:à (á X.N=Ď))(hl:ϕ (ϲg x))(hsw:à (ϬL ϳO (Â<|ð p) spos.line X.Ü=Ϭp))(hs:ϸZ)(hf:ϕ (ϳg\/ϱW=Â ο)):Ϧ (ϴZ [ð p] ϳO spos) (ax i fe):=NO own w hN hx hl bk hm hk hi hg hc he hsw hs hf
def bK(b:ϯz outs):϶Y:=⟨b.hsc,b.kind,b.loc,λx H h=>ϻw<|b.nocell x H,λx H _ h=>b.nocell _ h rfl,b.fr,b.out⟩
def dcx{pos p:Pos}{T:No}(G:ϦZ M.K M.mg CX)(D:Ϙu)(hr:Room k' X.A)(H:Ϩh M.E)(A:ϸl Ũ)(h:ϱD (k<=k'))(hg:à (γ x))(d:ϲz)(he:à (æ Ũ=ϰG (æ es)))(l:à (ϰX<|ϲD<|æ es)):ï (ϱb (ð p) Ũ pos) ϓs:=vi G (hr.á h) hg D.g D.F.kp D.b H A d he l
def dcl{pos p:Pos}{T:No}(G:ϦZ M.K M.mg y_)(D:Ϙu)(hr:Room k' X.A)(A:ϸl Ũ)(h:ϱD (k<=k'))(hg:à (γ x))(d:ϲz)(he:à (æ Ũ=ϰG (æ es)))(l:à (ϰX<|ϲD<|æ es)):ï (ϱb (ð p) Ũ pos) ϓs:=dcx G D hr tQ A h hg d he l
def mk1(T:Ϸd):ϸ8:=by
 apply znI ⟨?_,?_,?_,?_,?_,?_,?_,?_,?_,?_,?_,?_,?_,?_,?_,?_,?_,?_,?_,?_,?_,⟨⟩⟩
 .apply ğ T.ti.F sZ
  let nd:=sZ.nd;erw[nt];trivial
 .apply ğ T.tj.F qB
  let nd:=qB.nd;erw[k8];trivial
 .apply ğ T.tk.F zZ
  let nd:=zZ.nd;erw[oS];show ϵ0<|ϸ rX [] ώS
 .apply ğ T.tl.F oF
  let nd:=oF.nd;erw[oM];show af Æ (af (ϬC Æ<|aB<|Gi (i:=2) oF.nd rfl ϫt ng yN λ_=>EK) Æ)
 .apply ğ T.tm.F nc
  let nd:=nc.nd;erw[nG];show af (ϺM 2 nc.nd<|XO Æ Æ) (af (Ξ Æ (dg2 3)<|aB<|HK 2 (BM hr) Ϸx<|aq 3)<|ϪS 5 iV [(0,"rows")] "number"<|aB<|Af 2<|bW<|ϸ iV [(2,"places")] ώS (he:=Ϻj (o6<|aw (Ye (BM hr) ϸR Æ ϥv) Æ)))
 .apply ğ T.tn.F tU
  let nd:=tU.nd;erw[uH];show af (ϺM 3 tU.nd<|ϕs Æ)<|af (ύO 4 sF [(3,"apart")] ϐ8 (hi:=ϸ3 0 ϸR) (hg:=ϴA))<|af Æ<|aB<|bW<|o6<|ϰK 5<|ϲ3 (zk Ϸx ϭF)
 .apply ğ T.to.F fA
  let nd:=fA.nd;erw[iO];show af Æ (af (Ξ (Q4 rfl T.ta<|ώX<|ϲ3 (ϸ b7 [] ["outline"])) Æ<|af (ύO 4 b7 [(3,"level")] ["number","outline"] (hg:=ϴA))<|af (ϱV 5 fA.nd<|ϭK<|ϲ3 (ϸ b7 ϖc ϔD))<|af (ϱV 6 fA.nd<|ώX<|ϲ3 (ϸ b7 ϖc ϔD)) Æ) Æ)
 .apply ğ T.tp.F sX
  let nd:=sX.nd;erw[nH];show aB<|bW<|CL Æ<|CL (yq<|ϭL<|ϲ3 (ϴB 0 eI Æ))<|Gh<|yq<|ϭL<|ϲ3 (ϴB 0 Æ eI)
 .apply ğ T.tq.F EM
  let nd:=EM.nd;erw[z9];show ϵ0<|ϸ xW [(1,"number")] ϨR
 .apply ğ T.tr.F qQ
  let nd:=qQ.nd;erw[lL];show ϪS 2 jW [(0,"row")] "column" Æ
 .apply ğ T.ts.F vb
  let nd:=vb.nd;erw[o_];trivial
 .refine ğ T.tt.F mq
  have nd:=mq.nd;unfold jB;trivial
 .apply ğ T.tu.F qO
  let nd:=qO.nd;erw[lG];show ϵ0<|ϸ jZ [(0,"sums")] ϨR (he:=Ϻj (fH FL (Ţ FR) (Ϫr<|ϲ3 (ϴB 1 Æ eI))<|Ϫr<|ϲ3 (ϴB 1 eI Æ)))
 .apply ğ T.tv.F lY
  let nd:=lY.nd;erw[lM];show af (ϺM 2 lY.nd<|ϫk eY [(0,"felt")] ϧd (hg:=λ_ _ _ _ _=>ϪI<|Ϫx 0 (show List.Nodup (Ϧ8:À Str)by decide+kernel)<|ϦU 1 (show List.Nodup (Ϧ8:À Str)by decide+kernel) Or.inl 2 mG))<|af (B7 2<|ϫk eY [(0,"felt")] ϧd (hg:=λ_ _ _ _ _=>ϪI<|Ϫx 0 (show List.Nodup (Ϧ8:À Str)by decide+kernel)<|ϦU 1 (show List.Nodup (Ϧ8:À Str)by decide+kernel) Or.inl 2 mG) (he:=Ϻj (d5<|Ϗr Æ Æ)))<|aB<|Af 2<|bW<|ϸ eY [(2,"rows")] ϨR (he:=Ϻj (Ϫr<|aw (dk _ [(0,"place")] [0] ώS (bk:=bK<|Cm rfl œ œ œ (ύ (lX _ _ [(0,"place")]) ⟨ϻl,trivial⟩))) aQ))
 .apply ğ T.tw.F u5
  let nd:=u5.nd;erw[o4];trivial
 .apply ğ T.tx.F tK
  let nd:=tK.nd;erw[m5];trivial
 .apply ğ T.ty.F tR
  let nd:=tR.nd;erw[m9];trivial
 .apply ğ T.tz.F fU
  let nd:=fU.nd;erw[fQ];show af Æ (af Æ<|af (ϬC Æ<|af (NG 2 Æ)<|af Æ<|aB<|Af 2<|ϱV 2 fU.nd<|ϥf (aq 2)<|ϸ dM [(0,"_law_tree_here"),(3,"_law_node")] ["_law_k"]) Æ)
 .apply ğ T.t10.F vt
  let nd:=vt.nd;erw[oU];show af Æ (af (Ξ (sA<|ϴB 0 (r_ ng) eI) (dg3 3) Æ) Æ)
 .apply ğ T.t11.F oj
  let nd:=oj.nd;erw[jJ];show ϭ5 1 gX [] "_law_row" (oR aQ) (af (Ξ Æ Æ<|aB<|Ep 1 Æ (aq 2) ϥv) Æ)
 show ğ T.t12.F nV;let nd:=nV.nd;erw[jK];trivial
def mk2(T:Ϸd)(g1:ϸ8):ϸ9:=by
 apply znI ⟨?_,?_,?_,?_,?_,?_,?_,?_,?_,?_,?_,?_,?_,?_,?_,⟨⟩⟩
 .apply ğ T.t13.F rO
  let nd:=rO.nd;erw[lR];show af Æ<|ϵ0<|ϧ8 j_ [(1,"node")] ["number","row"] (hg:=ϴA)
 .apply ğ T.t14.F vd
  let nd:=vd.nd;erw[oy];show af Æ (af (Ξ Æ (dg2 2)<|af Æ<|aB<|Ep 1 (aq 3) (aq 2) ϥv) Æ)
 .apply ğ T.t15.F wO
  let nd:=wO.nd;erw[rC];show af Æ (af Æ<|af (Ξ (sA<|ϴB 0 Æ Æ) Æ Æ) Æ)
 .apply ğ T.t16.F zQ
  let nd:=zQ.nd;erw[uA];show ϪS 1 sO [] "row" Æ
 .apply ğ T.t17.F lZ
  let nd:=lZ.nd;erw[h_];show af Æ (af (Ξ Æ Æ<|Ϛ3 Æ) Æ)
 .apply ğ T.t18.F nP
  let nd:=nP.nd;erw[jN];show af Æ (af Æ<|af (Ξ (ϯN Æ Æ Æ) Æ<|af Æ<|Ϛ4<|aB<|ϫS 4 5 Æ) Æ)
 .apply ğ T.t19.F jP
  let nd:=jP.nd;erw[fS];show af (ϺM 3 jP.nd<|ϭK<|aw (Ϗk eR (hi:=ϸ3 1<|ϳn g1.y2 T.tk<|ϰK 0 aQ) (hg:=ϴA)) aQ)<|ϵ0<|ϸ eR [(3,"least")] ϨR
 .apply ϭY ϕV 1 mh T.t1a.F km
  let nd:=km.nd;erw[mh];show af (ϱV 3 km.nd<|d5<|ϛQ Æ) (af (ϱV 4 km.nd<|ώX<|ϲ3 (Ϗk fR (hg:=ϴA)))<|af (ϱV 5 km.nd<|ϭK<|ϲ3 (Ϗk fR (hg:=ϴA))) Æ)
 .apply ğ T.t1b.F pO
  let nd:=pO.nd;erw[kI];show af Æ (af (Ξ Æ Æ<|af (ύO 3 iR [(2,"number")] ["place","demand"] (hg:=ϴA)) Æ) Æ)
 .apply ğ T.t1c.F pM
  let nd:=pM.nd;erw[ku];trivial
 .apply ğ T.t1d.F Ag
  let nd:=Ag.nd;erw[uF];show af Æ<|af Æ<|ϵ0<|ϸ sj [(1,"divisor")] ϔD
 .apply ğ T.t1e.F o8
  let nd:=o8.nd;erw[pD];show af Æ (af Æ<|af (Ξ Æ Æ<|af Æ<|af (gL Æ (af Æ<|af Æ<|af (ϱV 6 o8.nd<|d5<|ϴB 6 eI Æ) Æ) Æ) Æ) Æ)
 .apply bD rfl rfl rfl T.t1f.F gr ϐH
  let nd:=gr.nd;erw[gD];show af Æ (af Æ<|af (Ξ Æ Æ<|af (Vr Æ<|dg3 4)<|ϤX Æ (ϱV 4 gr.nd<|zk ϸR Ϸx) Æ) Æ)
 .apply ğ T.t1g.F lI
  let nd:=lI.nd;erw[ij];trivial
 show ğ T.t1h.F mm;let nd:=mm.nd;erw[iG];show af Æ (af Æ<|af Æ<|af (Ξ Æ Æ<|aB<|gL Æ (af Æ<|af Æ<|aB<|ϫS 6 8<|aq 7) cD)<|af (Ξ (ϯN Æ Æ Æ) Æ<|aB<|gL Æ (aB<|ϫS 6 8 Æ) cD) Æ)
def mk3(T:Ϸd)(g1:ϸ8)(g2:ϸ9):ϪX:=by
 apply znI ⟨?_,?_,?_,?_,?_,?_,?_,?_,?_,?_,?_,?_,⟨⟩⟩
 .apply ğ T.t1i.F tN
  let nd:=tN.nd;erw[mZ];show af Æ (af (Ξ Æ Æ<|aB<|B7 1<|ϧ8 kS [] ϫa (hi:=ϸ3 2<|ϴB 2 (r_ ng) eI) (hg:=ϴA)) Æ)
 .apply ğ T.t1j.F me
  let nd:=me.nd;erw[iQ];show af Æ (af Æ<|af (ϬC Æ<|af (NG 2 Æ)<|af Æ<|aB<|B7 2<|ϳn g2.y0 T.t13<|ϰK 0<|ϰK 3 aQ) Æ)
 .apply ğ T.t1k.F Ez
  let nd:=Ez.nd;erw[yO];show ϵ0<|ϸ xY [(0,"tree")] ["node"]
 .apply ğ T.t1l.F zR
  let nd:=zR.nd;erw[uq];trivial
 .apply ğ T.t1m.F mO
  let nd:=mO.nd;erw[iI];trivial
 .apply ğ T.t1n.F w6
  let nd:=w6.nd;erw[qA];show af Æ<|aB<|bW<|ϧ8 oX [(1,"places")] ϐ8 (hi:=ϸ3 3<|ϴB 3 (r_ ng) eI) (hg:=ϴA)
 .apply ğ T.t1o.F qF
  let nd:=qF.nd;erw[lO];show af Æ<|ϤX Æ (bW<|ϸ gQ [(2,"count"),(3,"last")] ϨR)<|ϵ0<|ϸ gQ [(2,"count")] ϨR
 .apply ğ T.t1p.F pQ
  let nd:=pQ.nd;erw[kF];show af Æ (af Æ<|ϭ5 4 fJ Ϙb "level" (d5<|o6<|aw (d5<|ϥf Æ<|ϔW Æ (r_<|ϥW T.tg) eI) Æ)<|ϭ5 5 fJ Ϙb "level" (d5<|o6<|aw (d5<|ϥf Æ<|dk _ [] [0] ["times"] (bk:=bK<|Cm rfl œ œ œ ϗh) (hi:=sA<|ϔW Æ (r_<|ϥW T.tg) eI)) Æ) Æ)
 .apply ğ T.t1q.F Ah
  let nd:=Ah.nd;erw[uz];show aB<|bW<|ϳn g2.ya T.t1d<|aw (ϧ8 sH [(1,"pivot"),(2,"column"),(0,"row")] ["own","other"] (hi:=ϸ3 0 ϸR) (hg:=ϴA) (he:=Ϻj (fH FL (Ţ FR) (ϔ7 2<|aq 0)<|ϔ7 4 ϸR))) aQ
 .apply ğ T.t1r.F k6
  let nd:=k6.nd;erw[lH];show af Æ (af (Ξ (ϸ3 0 ϸR) (dg2 4)<|aB<|Gi (i:=3) k6.nd rfl ϫt Æ P_ λ_=>x6)<|af Æ<|af (Ξ (ϸ3 0 ϸR) (dg2 4)<|aB<|ϫS 6 5 Æ) Æ)
 .apply ğ T.t1s.F o5
  let nd:=o5.nd;erw[pH];show af Æ<|af (gL (ϖt (ϸ iz [] ["part"] (hi:=LG ϸR)) Æ Ϻz) Æ cD)<|af (ϱV 3 o5.nd<|ϭK<|aw (ϸ iz [] ["part"] (hi:=LG ϸR)) aQ)<|aB<|bW<|CL Æ<|Gh<|yq<|ϭL<|ϲ3 (ϸ iz [(1,"pulls")] ["level"])
 show ğ T.t1t.F iT;let nd:=iT.nd;erw[k_];show af Æ (af (ϱV 5 iT.nd<|d5<|oR<|aw (d5<|o6<|aw Æ<|aw (d5<|jG Sf Vt Nk eI Æ) Æ) aQ)<|af (Ξ Æ Æ<|af Æ<|af Æ<|ϤX Æ (ϱV 7 iT.nd<|d5<|ϴB 7 eI Æ) Æ) Æ)
def mk4(T:Ϸd)(g1:ϸ8)(g2:ϸ9)(g3:ϪX):Ϯ2:=by
 apply znI ⟨?_,?_,?_,?_,?_,?_,?_,?_,⟨⟩⟩
 .apply ğ T.t1u.F wF
  let nd:=wF.nd;erw[qY];trivial
 .apply ğ T.t1v.F pP
  let nd:=pP.nd;erw[kG];show af Æ<|af Æ<|aB<|bW<|ϧ8 iY [(3,"elder")] ["earliest","latest"] (hi:=ϐn Æ Æ) (hg:=ϴA)
 .apply ğ T.t1w.F s_
  let nd:=s_.nd;erw[nA];show af Æ<|ϵ0<|ϧ8 kQ [(2,"reach"),(1,"gap")] ϫa (hg:=ϴA)
 .apply ğ T.t1x.F ka
  let nd:=ka.nd;erw[m_];show af Æ (af Æ<|af (Ξ Æ Æ<|ϪS 5 iK [(4,"number")] "demand"<|aB<|uI 3<|d5<|ϥf Æ<|oR<|ϲ3 (Hm (fX KW (Ţ MP) Ϸx (ϥW T.tg) Ϻz) ng ng))<|af (uI 3<|d5<|ϥf (ϥf (ϸ iK [] ["demand"])<|ϳn g1.y8 T.tq<|ϰK 2<|ϰK 2 aQ) Æ)<|af (bt rfl K9F Æ (qN (n:=2) rfl<|ϦU 4 ka.nd Or.inr 6 mG)<|aB<|tX 3 Æ<|d5<|CI<|ϳn g3.y8 T.t1q<|ϭP 3 (Mh Gz (Ţ Fh) ng)<|ϭP 3 Ϸx<|ϰK 6 aQ) Æ)
 .apply ZL<|fnP (N:=ϕP) (k:=3) (b:=oq) rfl rfl T.t1y.F A0 ϐH
  let nd:=A0.nd;erw[oq];show Ii Æ<|Ii (ϬC Æ<|af Æ<|af (Hc 1 Ϸx<|aq 3)<|af (Ξ Æ Æ<|aB<|gL Æ (aB<|Hc 0 ϭF<|CI<|ϳn g3.y8 T.t1q<|ϭP 0 ϭF<|ϭP 0 Ϸx<|ϰK 3 aQ) cD) Æ) U_
 .apply ğ T.t1z.F tJ
  let nd:=tJ.nd;erw[m7];show af Æ (af Æ<|af Æ<|af (Ξ (ϐn (ϳn g3.y0 T.t1i<|ϰK 0 aQ)<|ϴB 1 Æ eI) (dg2 5)<|aB<|tX 4 Æ ϭG)<|aB<|JP 4 (ϴB 1 eI Æ)<|ϴB 1 Æ Æ)
 .apply ğ T.t20.F tH
  let nd:=tH.nd;erw[ny];show af Æ (af (Ξ Æ (dg2 3)<|aB<|vn 2 Nh (aq 3) Æ)<|af (Ξ (Q0 rfl T.te (ϳn g2.y1 T.t14<|ϰK 0 aQ) Æ Æ) (dg3 5)<|af (vn 2 yN Æ ϭG)<|aB<|vn 2 Nh Æ<|aq 7) Æ)
 show ğ T.t21.F lQ;let nd:=lQ.nd;erw[eK];trivial
def mk5(T:Ϸd)(g1:ϸ8)(g2:ϸ9)(g4:Ϯ2):Ϯ3:=by
 apply znI ⟨?_,?_,?_,?_,?_,?_,⟨⟩⟩
 .apply ğ T.t22.F wL
  let nd:=wL.nd;erw[rT];trivial
 .apply ğ T.t23.F rY
  let nd:=rY.nd;erw[wu];show af Æ (af (ϺM 3 rY.nd<|ϸ qT [] ["reach"] (he:=Ϻj (oR<|aw (d5<|o6<|aw (fH ym Cb (Mh Gz (Ţ Fh)<|ϥW T.th)<|aq 0)<|ϲ3 (ϕs<|aq 0)) aQ)))<|af (Ξ (ϯN Æ Æ Æ) Æ<|af Æ<|aB<|gL Æ (af (Qi 3 5<|SX (sc:=(ah qT)) (i:=3) (c:=5) (bi:=6) ⟨rfl,rfl,œ,œ,œ,⟨ϻl,trivial⟩⟩ rY.nd rfl ϫt rfl rfl Æ (Ϻj<|HF (show List.Nodup (["child","outlines"]:À Str)by decide+kernel) rfl ϫt) λ_ _ _ _ _ hK=>Hb (zV _ hK) (ϯP Æ) (ϯP Æ) ϥv)<|af Æ<|af (Ξ (ϸ3 5<|aq 7) (dg2 8)<|aB<|ϫS 2 8<|aq 9)<|aB<|Ku 3 Ϸx (ϳn g1.y6 T.to<|ϰK 6<|ϰK 7 aQ) ϥv) cD) Æ)
 .apply ğ T.t24.F rR
  let nd:=rR.nd;erw[lV];show af Æ<|ϵ0<|ϫk kf [(1,"places"),(3,"unit")] ϘT (hg:=λ_ _ _ _ _=>ϪI<|Ϫx 0 (show List.Nodup (Ϗp:À Str)by decide+kernel)<|ϦU 1 (show List.Nodup (Ϗp:À Str)by decide+kernel) Or.inl 2 mG)
 .apply ğ T.t25.F rW
  let nd:=rW.nd;erw[lN];show af Æ (af (Ξ Æ (dg3 4)<|af (ύO 7 jV [] ϐ8 (hi:=ϐn Æ Æ) (hg:=ϴA)) Æ) Æ)
 .apply ğ T.t26.F rP
  let nd:=rP.nd;erw[lT];show af Æ (af (Ξ (ϯN Æ ng Æ) Æ<|aB<|vn 2 yN Æ Æ) Æ)
 show ğ T.t27.F zF;let nd:=zF.nd;erw[zY];show af Æ<|af Æ<|af (Ξ (Q0 rfl T.te (ϳn g2.y1 T.t14<|ϰK 0 aQ) Æ Æ) (dg3 5)<|aB<|Gi (i:=4) zF.nd rfl ϫt Æ yN λ_=>EK)<|aB<|bW<|ϥf Ϸx<|Ϫr<|ϲ3 (ϫk xK [(2,"pulls")] ϘT (hg:=λ_ _ _ _ _=>ϪI<|Ϫx 0 (show List.Nodup (ϏD:À Str)by decide+kernel)<|ϦU 1 (show List.Nodup (ϏD:À Str)by decide+kernel) Or.inl 2 mG))
def mk6(T:Ϸd)(g1:ϸ8)(g2:ϸ9)(g3:ϪX)(g5:Ϯ3):Ϯ4:=by
 apply znI ⟨?_,?_,?_,?_,?_,⟨⟩⟩
 .apply ğ T.t28.F lq
  let nd:=lq.nd;erw[lB];show af Æ (af Æ<|af (ϬC Æ<|ϪS 3 eZ [(0,"tree"),(2,"waiting")] "node"<|af (uI 1<|d5<|ϸ eZ [] ["member"])<|aB<|ϺM 2 lq.nd<|d5<|ϫk eZ [] ϧd (hg:=λ_ _ _ _ _=>ϪI<|Ϫx 0 (show List.Nodup (ϧd:À Str)by decide+kernel)<|ϦU 1 (show List.Nodup (ϧd:À Str)by decide+kernel) Or.inl 2 mG)) Æ)
 .apply ğ T.t29.F CY
  let nd:=CY.nd;erw[o9];show af Æ<|af Æ<|af Æ<|aB<|Af 3<|bW<|ϳn g2.y6 T.t19<|ϰK 0<|ϰK 3<|ϲ3 (ϥW T.th)
 .apply ϭY ϺQ 5 sC T.t2a.F AA
  let nd:=AA.nd;erw[sC];trivial
 .apply ğ T.t2b.F pJ
  let nd:=pJ.nd;erw[kJ];show af Æ (af Æ<|af Æ<|af Æ<|af Æ<|ϑr Lx Æ (Hg<|ϖt ϭF (Ϗr ϭG Æ) Ϻz) Æ Æ)
 show ğ T.t2c.F Ex;let nd:=Ex.nd;erw[z7];show af Æ<|ϵ0<|ϸ yn [(0,"tree"),(2,"sums")] ["node"] (he:=Ϻj (ϳn g1.yc T.tu<|aw (dk _ [(2,"sums")] [0] ["child"] (bk:=bK<|Cm rfl œ œ œ (ύ (lX _ _ [(2,"sums")]) ⟨ϻl,trivial⟩))) aQ))
def mk7(T:Ϸd)(g1:ϸ8)(g3:ϪX)(g6:Ϯ4):Ϯ5:=by
 apply znI ⟨?_,?_,?_,⟨⟩⟩
 .apply ğ T.t2d.F A5
  let nd:=A5.nd;erw[vO];show af Æ (af Æ<|af (Ξ Æ (dg2 4)<|aB<|Ξ (sA<|ϴB 2 Æ eI) Æ<|aB<|B7 3<|ϸ u6 [(5,"one"),(6,"other")] ["word"]) Æ)
 .apply ğ T.t2e.F gU
  let nd:=gU.nd;erw[kM];show af (ϱV 2 gU.nd<|d5<|Hm Æ (ϳn g6.y0 T.t28<|ϰK 0 aQ)<|ϸ iF [] ["node"])<|af Æ<|af (ϱV 4 gU.nd<|ϥW T.tg)<|af (Ξ Æ Æ<|af Æ<|af (Ξ Æ (dg3 7)<|aB<|Ϝm<|d5<|Hm Æ ϭG<|Ϗr ϭG Æ) Æ)<|aB<|ND 3 Ϸx
 show ϭY ϖb 6 my T.t2f.F rV;let nd:=rV.nd;erw[my];show af Æ<|af Æ<|af Æ<|af Æ<|ϤX Æ (ϺM 4 rV.nd<|d5<|ϸ fV [(4,"felt")] ["group"])<|ϵ0<|yq<|ϭL<|ϲ3 (ϸ fV [] ώS)
def mk8(T:Ϸd)(g2:ϸ9)(g7:Ϯ5):ϚQ:=by
 apply znI ⟨?_,⟨⟩⟩;show ğ T.t2g.F jY;let nd:=jY.nd;erw[nF];show af Æ (af Æ<|af (Ξ Æ Æ<|af Æ<|af (ϱV 6 jY.nd<|zk (ϳn g2.y0 T.t13<|ϰK 0<|ϰK 5 aQ) Ϸx)<|af (ϱV 7 jY.nd<|CI Æ)<|af (Ξ (GS rfl T.t3<|Pc (BM hr) Æ ϭF<|oR aQ) (dg2 8)<|aB<|vn 7 yN (aq 9) Æ) Æ) Æ)
def mk9(T:Ϸd)(g2:ϸ9)(g3:ϪX)(g4:Ϯ2)(g5:Ϯ3)(g8:ϚQ):ϚR:=by
 apply znI ⟨?_,⟨⟩⟩;show ϭY ϕi 8 kO T.t2h.F kR;let nd:=kR.nd;erw[kO];show af (gL (fX L_ (Ţ MS) Æ (ϥW T.tf) Ϻz) IU cD) (af Æ<|af Æ<|af Æ<|af (ϱV 6 kR.nd<|PU 5<|ϳn g4.y3 T.t1x<|ϰK 4<|ϰK 5 aQ)<|af (Qg g4.y4 Vl (hr.á Ý) rfl T.t1y.g T.t1y.F.kp T.t1y.b tQ (ϯP Æ) (ϯP Æ) Æ)<|af Æ<|af (ϺM 8 kR.nd<|d5<|ϸ ed [] ["mark"] (hi:=sA<|ϔW Æ Æ Æ))<|ϭ5 9 ed [(8,"sizes")] "spot" (Ϫr<|aw (dk _ [] [0,1] ["times","size"] (bk:=bK<|Cm rfl œ œ œ ϗh) (hi:=ϸ3 0 ϸR) (hg:=ϴA)) aQ) Æ)
def ZQ(T:Ϸd)(g1:ϸ8)(g2:ϸ9)(g5:Ϯ3)(g6:Ϯ4)(g7:Ϯ5)(g9:ϚR):Ϛl:=by
 apply znI ⟨?_,⟨⟩⟩;show ğ T.t2i.F ke;let nd:=ke.nd;erw[ni];show af (ϱV 3 ke.nd<|d5<|vi g9.y0 (hr.á Ý) rfl T.t2h.g T.t2h.F.kp T.t2h.b tQ Æ) (ϤX Æ (bW q_)<|ώY (vi g6.y2 (hr.á Ý) rfl T.t2a.g T.t2a.F.kp T.t2a.b tQ Æ) Æ (ϵ0 q_)<|ϤX (fX Pw Qr (vi g7.y2 (hr.á Ý) rfl T.t2f.g T.t2f.F.kp T.t2f.b tQ Æ) RU Ϻz) (bW q_)<|af (ϱV 4 ke.nd<|d5<|vi g2.y7 (hr.á Ý) rfl T.t1a.g T.t1a.F.kp T.t1a.b tQ Æ)<|af Æ<|ϤX Æ (bW q_) Æ)
def Tv{f:Ix}{fd:Fk}(F:Fun K "law" "law" vD f fd)(T:Ϸd)(g1:ϸ8)(g2:ϸ9)(g4:Ϯ2)(g6:Ϯ4)(g7:Ϯ5)(g10:Ϛl):ϳ5 mg base y_ 11 f fd ϑV (ϩi mg zJ):=by
 show bD rfl rfl rfl F Ff ϐH;let nd:=Ff.nd;erw[Gr];show af Æ (af Æ<|af Æ<|af Æ<|ϑr AZ (ϭS 3 Ϻz) (BF<|ϭS 4 Ϻz) Æ<|af Æ<|ώY (uM g6.y2 (hr.á Ý) rfl T.t2a.g T.t2a.F.kp T.t2a.d ύX tQ Æ) Æ Æ<|af (ϱV 6 Ff.nd<|d5<|o6<|aw (d5<|uM g2.y7 (hr.á Ý) rfl T.t1a.g T.t1a.F.kp T.t1a.d ύX tQ Æ) Æ)<|af Æ<|ώY (uM g6.y2 (hr.á Ý) rfl T.t2a.g T.t2a.F.kp T.t2a.d ύX tQ Æ) (BF<|NR<|Mn<|ϳn g1.yk T.t12<|ϰK 3<|aw (o6<|aw (d5<|uM g2.y7 (hr.á Ý) rfl T.t1a.g T.t1a.F.kp T.t1a.d ύX tQ<|ϰK 1<|ϰK 7 aQ)<|ϲ3 ng) aQ) Æ<|af Æ<|af Æ<|af Æ<|af Æ<|ϑr AZ (ϭS 9 Ϻz) (BF<|ϭS 10 Ϻz) Æ Æ)
end
open Lp (pA gcL gy jF clL)
def YA(a b:Int):dA [Ä a,Ä b]=.ok (Ñ (ϫP:Nat)):=by
 erw[dA,jB];simp![S5];generalize l:Ϩ9=r;apply sP l (λm c=>∃(x y:Int)(v:Ü OD),m=y.ñ/\Int.gcd x y=ϫP/\c=[Ĕ<|Ä x,Ĕ<|Ä y,v]) b.ñ ⟨a,b,none,rfl,rfl,rfl⟩
  (λc=>∃(x:Int)(v:Ü OD),Int.gcd x 0=ϫP/\c=[Ĕ<|Ä x,some<|Ñ 0,v]) ?_ ?_
 .rintro m c ⟨x,y,v,rfl,hg,rfl⟩
  cases h:y=0
  .left
   subst h;constructor
   .simp![S5]
   show(x,v,hg,rfl)
  right;constructor
  .simp![K9q h,Zee]
  simp![T2 h];show(_,Lp.mod_lt h,y,x.fmod y,_,rfl,Ô Lp.OZ hg,rfl)
 ext ρ' rfl ⟨x,v,hg,rfl⟩;let e:(if x<0 then -x else x)=ä ϫP:=by rw[<-hg,Int.gcd_zero_right];split<;>lia
 simp![Y3,e]
def nv{l:À Int}{k:Nat}(h:k<l.À):Ť ϲJ ë=Â (Ä<|ϴu k):=de (ϰY pA N2 ϱi)
def Ph(ns:À Int)(n:Int):ϰM Ϭi=ä (Int.gcd (ϰM ns) n):=Ϗ gcL List.foldl_append
def yI(ns:À Int)(B:ϴ pU (ϰM ns))(H:ns.À<=900):jM [Ï ō]=ģ (aG ϭz):=by
 erw[jM,uF];simp![S5];generalize l:Ŗ=r;show aX l (λi a=>∃v,a=[â ō,some<|Ñ<|ϰM ϓ7,v]) ζ ?_ ?_
 .rintro i d a hd ⟨v,rfl⟩
  rw[N2]at hd;let(x,h,rfl):=ϹV;let c:=YA (ϰM ϓ7) x;let e:ϰM (ns.Ö<|i+1)=ä (Int.gcd (ϰM ϓ7) x):=Ĥ ϓL Ph
  simp![c];show(_,ϹT)
 ext ρ' rfl ⟨v,rfl⟩;rw[K0,K8D];simp![S5];generalize w:Į=rc;let e:=϶R int (λx=>Ñ<|x / ϰM ns) ns rfl (K94<|aF Á) (by ext x h;simp![RJ B]);subst e;simp![S5];erw[aG,gy];rw[S1,S1];rfl
def Bd(X:Nat)(l:À Int):Prop:=∀k,Ś (-(Ì X)) (ϴu k) X
def Bd.mem{X:Nat}{l:À Int}(h:Bd X l):∀x∈l,-(Ì X)<=x/\x<=X:=λx H=>by let(j,J):=Zac H;let:=h j;erw[pA]at this;rw[J]at this;show this
def XB:Nat:=2^1000
def MH{a b:Int}(h:-(Ì XB)<=a/\a<=XB)(H:-(Ì XB)<=b/\b<=XB):-(ä ϭA)<=a*b/\a*b<=ϱB ϭA:=Ô Zbz (Lp.sJ h H)
def Wx{a:Int}(h:-(ä (2*ϭA))<=a/\a<=ϱB (2*ϭA)):W4 a:=by
 let:2*ϭA<ϩ0:=œ
 erw[W4];lia
def u9{a:Int}(h:-(Ì XB)<=a/\a<=XB):W4 a:=by
 let:XB<ϩ0:=œ
 erw[W4];lia
def J8{g a:Int}(hg:g ∣ a)(A:a≠0)(h:W4 a):W4 g:=by erw[W4]at h⊢;show Zed (Nat.le_of_dvd Á<|Int.natAbs_dvd_natAbs.mpr hg) h
def Tx{row piv:À Int}{s:Nat}(l:ϧf)(h:ϤL row)(H:ϤL piv)(k:Nat):W4 (ϱj Ϲl):=by rw[Lp.oH l];let a:=MH (H s)<|h k;let b:=MH (h s)<|H k;show Wx Á
def Am(a b:À Int):gq όF όG=Ê ϬX λp=>Ą [Ä p.1,Ä p.2]:=ϰY gq List.zip_map S1
def zb{row piv:À Int}{s k:Nat}(h:ϧf)(H:ϤL row)(a:ϤL piv)(S:s<row.À)(L:ϑW)(n:ϱj Ϲl≠0):
  eE [iD row,iD piv,Ä s]=ģ (aG<|ϳK row piv):=by
 erw[eE,uz,iD];let g0:=Lp.mI n;let g1:ϴ pU (ϰM Ϲl):=(J8 (ϕX<|Lp.Ai n) n<|Tx h H a k).b9 g0;let c:=yI Ϲl g1 (ύm<|Lp.HS h);let A:=Ϻt row S;let b:=Ϻt piv (k:=s) Á;simp![Am];generalize w:Į=rc;let e:=϶R (λp:ϰi=>ϱ0 [Ä p.1,Ä p.2]) (λp=>Ñ<|ϻ0*p.1-Ō s*p.2) ϯM rfl (Ô Zao<|K94<|aF Á) (by ext p P;let T:=H.mem p.1 (K7w P).1;let p2:=a.mem p.2 (K7w P).2;simp![A,b,ϫj (a s) (u9 T),ϫj (H s) (u9 p2)]);subst e;let g:(ß row.Ċ piv λp=>Đ<|Ä<|ϻ0*p.1-Ō s*p.2).map OD.er=Ê Ϲl int:=ϪQ jF (λp _=>ϰn)
 simp![g,c];rfl
open Lp (pA gcL gy jF clL Sl P0 vw fsh rgu rgu' Au nxt)
def yM{α:Type}{X:À α}{k:Nat}{v:α}{z:Int}(h:ϫ X=ĥ)(Z:z=ë-Ì X.À):Ť X z=ĥ:=by
 let H:k<X.À:=ϲI;let e:Ϲt z=Ş:=by
  erw[ixN];rw[P3 Á,Os Á]
  congr 1
  lia
 erw[atI];rw[e];show h
def T0(rs:À (À Int)):À Gc:=rs.Ç iD
def qC{rs:À (À Int)}{i:Nat}(h:i<rs.À):Ť ϭr ÿ=Â (iD<|Ó (rs[i]?) []):=de (ϰY T0 N2 ϱi)
def Bu{rs:À (À Int)}{n:Nat}(h:rs.À=n+1):Ϲ2 ϭr=Â (iD<|Ó (rs[n]?) []):=yM (k:=n) (by
 erw[T0];rw[N2,Nu Á]
 rfl) (by erw[T0];rw[K0,h];lia)
def Bf{l:À Int}{z:Nat}(h:Ϸn (z+1)):Ϲ2 ϲJ=Â (Ä<|ϴu z):=yM (k:=z) (by
 erw[pA];rw[N2,Nu Á]
 rfl) Ϛm
def KU{l:À Int}{z:Nat}(h:Ϸn (z+2)):Ť ϲJ (-2)=Â (Ä<|ϴu z):=yM (k:=z) (by
 erw[pA];rw[N2,Nu Á]
 rfl) Ϛm
def oI1:όY->Int|some s=>Ϻb|none=>-1
def Ab(row:À Int)(m:Nat)(M:m<=row.À)(a:ϑW):cA [iD row,Ä m]=.ok (Ñ<|oI1 ύt):=by
 erw[cA,lL,iD];let S:Κ ϴ0:=Ŕ Á;simp![S];generalize w:Į=rc
 let e:=iS w (ϳj<|0+ë) (λk=>Õ<|0<Ō k) (λk=>Ñ ë) ϹZ (ϣ K9n) (Ô Z7<|K94<|aF Á) (by
  ext k h;let h:=K9G.mp h;let A:=Ϻt row (k:=k) Á;rw[K8R];constructor
  .simp![A]
  ext _
  simp![S5])
 subst e;let g:ύt=(Α ϹZ λk=>Õ<|0<Ō k).head?:=rfl;rw[g];generalize Α ϹZ (λk=>Õ<|0<Ō k)=L;cases L with
 |nil=>simp![List.head?_nil,oI1]
 |cons s r=>
  let H:Õ (Ì 0<ä (r.À+1))=true:=Ă K9k
  simp![List.head?_cons,oI1,H]
structure Ro(n w:Nat)(S:Sl):Prop where
 lr:S.Ó=n+1
 lc:S.İ=n
 row:ϲP (Ã (î i)=w)
 bd:ϲP (ϤL (î i))
def Ei{ks:Ò}{k:Nat}(h:k<ks.À):Ť (aO ks) ë=Â (Ä (ä (Ó (ϫ ks) 0))):=GK (ϣ ϱi)
def Iy{n w z s i k:Nat}{S:Sl}(R:ϬY)(W:w=z+1)(g:s<w)(hi:i<n)(K:k<n):
  iH [Ï ϴa,Ï ϵD,Ä s,Ä i,Ä k]=þ (ã<|Õ<|Au ϲW z s i k):=by
 erw[iH,o_];let d:=όp S.r (Ă R.lr);let f:=qC (rs:=S.r) (i:=k) (Ă R.lr);let c1:=Ei (ks:=S.c) (k:=i) (Ϸ0 R.lc);let L:=Ei (ks:=S.c) (k:=k) (Ô R.lc K);let r:Ó (á S.r) []=î i:=rfl;let m:Ó (ϫ S.r) []=î k:=rfl;rw[r]at d;rw[m]at f;let j:=R.row i Á;let o:=R.row k Á;let b1:=R.bd i Á;let B:=R.bd k Á;let D:Õ (Au ϲW z s i k)=Õ (Ϯc (pA (î i) z) (pA (î k) s) (pA (î k) z) (pA (î i) s)<|Ó (á S.c) 0<Ó (ϫ S.c) 0):=decide_eq_decide.ó Iff.rfl;rw[D];generalize Ó (á S.c) 0=ci at c1;generalize Ó (ϫ S.c) 0=ck at L;generalize î i=ri at*;generalize î k=rk at*;erw[iD]at d f;let A:=Bf (l:=ri) (z:=z) Á;let b:=Bf (l:=rk) (z:=z) Á;let c:=Ϻt ri (k:=s) Á;let e:=Ϻt rk (k:=s) Á;let M:=ϫj (b1 z) (u9<|B s);let Q:=ϫj (B z) (u9<|b1 s);simp![d,f,A,b,c,e,M,Q];generalize pA ri z*pA rk s=x;generalize pA rk z*pA ri s=y;cases H:x<y
 .simp![Z8 H]
  rw[Z8<|Ð H]
 cases a:x=y
 .simp![K9q H,Z8 a,c1,L]
  show Uf L3.R.ok<|Uf OD.sh<|Uf PyData.bool ?_;rw[decide_eq_decide];constructor
  .intro h
   show Ø ⟨a,Á⟩
  rintro(h|⟨_,h⟩)
  .show ϻw H
  lia
 simp![K9q H,K9q a];rw[K9q];rintro(h|⟨h,_⟩)
 .show H h
 show a h
theorem Ew{n w z s:Nat}{S:Sl}(R:ϬY)(W:w=z+1)(g:s<w)(q:n<=900):
  cH [Ï ϴa,Ï ϵD,Ä s]=.ok (Ñ<|oI1<|ϷU n):=by
 erw[cH,ku];let p:Κ ((Ì S.İ)):=Ŕ (Ă R.lc);simp![eS,p];generalize L:Ŗ=r;show ϳ2 (λi j=>∃v,j=[â ϴa,â ϵD,Ĕ<|Ä s,some<|Ñ<|oI1<|ϷU i,v]) ζ
 .rintro i d j hd ⟨v,rfl⟩
  let(hi,rfl):=϶M;rw[K9n,R.lc]at hi;rw[K8R];let I:=όp S.r (Ă R.lr);let m:Ó (á S.r) []=î i:=rfl;rw[m]at I;erw[iD]at I;let A:=Ϻt (î i) (k:=s) (Ô (R.row i Á) g);let t1:ϥ i s=pA (î i) s:=rfl;cases a:0<pA (î i) s
  .cases hf:rgu ϲW z s i with
   |none=>
    let e:ϷU (i+1)=ϸy:=Ĥ rgu' (Os ⟨a,λf H=>by rw[hf]at H;cases H⟩)
    simp![I,A,Z8 a,oI1];show(_,ϹT)
   |some f=>
    let N:f<i:=(Lp.Ej i f hf).1;let o:=Iy (z:=z) R W g hi (k:=f) Á;let c:Ł (Õ ((f:Int)<0)):=K9q Á;cases b:Au ϲW z s i f
    .let e:ϷU (i+1)=ϸy:=Ĥ rgu' (Os ⟨a,λF H=>by rw[hf]at H;cases H;show b⟩)
     rw[Z8 b]at o;simp![I,A,Z8 a,oI1,c,o];show(_,ϹT)
    let e:ϷU (i+1)=some f:=by rw[rgu',P3 λh=>b<|h.2 f hf,hf]
    rw[K9q b]at o;simp![I,A,Z8 a,oI1,c,o];show(_,ϹT)
  let e:ϷU (i+1)=ϷU i:=by rw[rgu',P3 λh=>a h.1]
  simp![I,A,K9q a];show(_,ϹT)
 ext ρ' rfl ⟨v,rfl⟩;let e:Ã (ky 0 (ĩ (Ì S.İ)))=n:=by rw[K9n,R.lc];erw[ky];simp
 rw[e];simp![S5]
open Lp (pA gcL gy jF clL Sl P0 vw fsh rgu Au nxt Jn Be Halt Dual Mk)
def TU{n m z w A:Nat}{R:ϹC}{S:Sl}(J:ϲF S){r s:Nat}(hr:r<n)(p:0<ϥ r s){i:Nat}(hi:i<=n)(h:i≠r):∃k,ϱj (jF (î i) (î r) s)≠0:=by
 let l:Ã (î i)=Ã (î r):=by rw[ϥJ hi,J.row r Á]
 cases c:i=n
 .apply(m+n,?_)
  rw[Lp.oH l];let Z:ϥ0 (î r)=0:=ϔC hr;let j:0<ϥ0 (î n):=J.inv.mp;rw[Z,Zaa,Zau,c];show Zbd<|Zay p j
 let H:i<n:=Á
 show(ŧ i,?_);rw[Lp.oH l];let Z:pA (î r) (ŧ i)=0:=όE H r Á Ϧj;let j:0<pA (î i) (ŧ i):=ϫQ H;rw[Z,Zaa,Zau];show Zbd<|Zay p j
def upR(S:Sl)(r s i:Nat):À (À Int):=Ā S.Ó λk=>Ë (k=r\/i<=k) (î k) (ϳK (î k) (î r))
def Gf(S:Sl)(r s i:Nat):Ã (ϳl i)=S.Ó:=χ upR K0 Z7
def Rn{S:Sl}{r s i k:Nat}(h:k<S.Ó):Ó (ϫ<|ϳl i) []=Ë (k=r\/i<=k) (î k) (ϳK (î k) (î r)):=ϰY upR N2 ϴ6
def PM(S:Sl)(r s:Nat):ϳl 0=S.r:=by
 apply K9K;ext k;erw[upR];cases h:k<S.Ó
 .rw[N2,ϴ6,ϱi]
  change Â (Ë (k=r\/0<=k) (î k) _)=_;rw[Os<|Ø<|K8x k];erw[P0];rw[ϱi];rfl
 rw[K9c (Ϲ K0 Z7),K9c Á]
def QN{S:Sl}{r s:Nat}:ϳl (r+1)=ϳl r:=by
 erw[upR];show K8u λk _=>?_;cases h:k=r
 .rw[Os<|Ð h,Os<|Ð h]
 cases H:r<=k
 .rw[Os (Ø Á),Os<|Ø H]
 rw[P3 Á,P3 Á]
def Uk{S:Sl}{r s i:Nat}(hi:i<S.Ó)(n:i≠r):(T0<|ϳl i).set i (iD<|ϳK (î i) (î r))=T0 (ϳl<|i+1):=by
 erw[T0];rw[<-Zby];show Ϲq iD ?_;erw[upR];let:=jU (λk=>Ë (k=r\/i<=k) (î k) (ϳK (î k) (î r))) (λk=>Ë (k=r\/i+1<=k) (î k) (ϳK (î k) (î r))) S.Ó i (λq Q=>by
  cases h:q=r
  .rw[Os<|Ð h,Os<|Ð h]
  cases H:i<=q
  .rw[Os (Ø Á),Os<|Ø H]
  rw[P3 Á,P3 Á])
 rw[P3 Á]at this;show this
def Oy{n m z:Nat}{S:Sl}{s r:Nat}(a:fsh (î n) m=some s)(b:ϷU n=ϰQ):ϰh S=⟨ϳl S.Ó,ϓQ⟩:=by
 erw[nxt];rw[a];dsimp only;rw[b];dsimp only;erw[upR];show ϛF<|K8u (ϲ1 ?_);let H:=ϹQ;cases h:k=r
 .rw[ϰo,Os<|Ð h]
 rw[ϱA,P3 Á]
def K3(c:Ò)(r s:Nat):Ϫ (aO c) r (Ä Ϻb)=aO (c.ß r s):=ű aO Zby
def sM(X:À Int):((aG X).all Ϻ9)=true:=by rw[K7x];ext y Y;erw[aG]at Y;let(d,h,rfl):=XV.mp Y;let(x,_,rfl):=ϥ5;rfl
def yU(X:À Int):ß aG X (λy=>Đ y.er)=aG X:=Ϗ aG S1
def um{n m z w A:Nat}{R:ϹC}{S:Sl}(J:ϲF S)(B:ϬY){s r:Nat}(f:s<w)(hr:r<n)(P:0<ϥ r s)(W:w<=900)(t:n<=800)(p:Ix)(c:OD)(D:OD)(v:Ü OD)(N:∀x y:Int,True):
  ∃V,ϧO (pX<|ħ<|È 0 ai) 5 (ϷK (ñ gNe 5 ş) (tM 0 ς<|mE<|ϨD<|ae (Ù 0 ς)<|ae (Ù 0 ş)<|È 3 ai) sNx) [some<|ϳq<|ß T0 S.r OD.sh,ī,some D,Ĕ<|Ä s,Ĕ<|Ä r,v]=ų [some<|ϳq<|ß T0 (ϳl S.Ó) OD.sh,ī,some D,Ĕ<|Ä s,Ĕ<|Ä r,V]:=by
 let o:Κ ((Ì S.Ó)):=Ŕ (Ă B.lr);let E:Ê (ß T0 S.r OD.sh) OD.er=ϴa:=aI _;let L:Ã ϴa=S.Ó:=ű T0 K0
 simp![Dj,E,L,o,v_bor,flI,flL];generalize H:Ŗ=r';show aX H (ϺK<|∃V,ρ=[some<|ϳq<|ß T0 (ϳl i) OD.sh,ī,some D,Ĕ<|Ä s,Ĕ<|Ä r,V]) ⟨v,by rw[PM]⟩ ?_ ?_
 .rintro i d ρ hd ⟨V,rfl⟩
  let(hi,rfl):=϶M;rw[K9n,B.lr]at hi;rw[K8R];cases h:i=r
  .let h':ÿ=Ϧd:=Á
   simp![Z8 h',Zfe];show(_,by rw[h,QN])
  let h':¬ÿ=Ϧd:=Á
  let(k,K):=TU J hr P (i:=i) Á h;let cl:=zb (row:=î i) (piv:=î r) (s:=s) (k:=k) (by rw[ϓd Á,B.row r Á]) (B.bd i Á) (B.bd r Á) (by rw[ϓd Á];show f) (by rw[ϓd Á];show W) K;let a:=όp (ϳl i) (Ϲ Gf B.lr);let b:=qC (rs:=ϳl i) (i:=r) (Ϲ Gf B.lr);rw[Rn (Ă B.lr),Os<|Ø<|N4 i]at a;rw[Rn (Ă B.lr),Os<|Ð rfl]at b;let l:Ê (ß T0 (ϳl i) OD.sh) OD.er=T0 (ϳl i):=aI _;let e1:mE (ϨD<|ae (Ù 0 ς)<|ae (Ù 0 ş)<|È 3 ai) [some<|ϳq<|ß T0 (ϳl i) OD.sh,ī,some D,Ĕ<|Ä s,Ĕ<|Ä r,some<|Ñ ÿ]=ģ (aG<|ϳK (î i) (î r)):=by
   simp![Dj,l,a,b,cl];change(Ë _ _ _)=_;rw[Os<|sM _,yU]
  let g:=MQ (ρ:=[some<|ϳq<|ß T0 (ϳl i) OD.sh,ī,some D,Ĕ<|Ä s,Ĕ<|Ä r,some<|Ñ ÿ]) (i:=0) (k:=ς) (q:=ÿ) (j:=i) rfl e1 (z:=Ñ ÿ) rfl ϰn (cW<|by erw[T0];rw[K0,Gf,B.lr];lia);let G:ϹS (aG<|ϳK (î i) (î r))=iD (ϳK (î i)<|î r):=ϰ7 md aW
  rw[G,Uk (Ă B.lr) h]at g;simp![K9q h',Zee,↓g];show(_,rfl)
 ext ρ' rfl ⟨V,rfl⟩;let e:Ã (ky 0 (ĩ (Ì S.Ó)))=S.Ó:=Ϗ9
 rw[e];show(V,rfl)
def stB:Fs:=(ao (ϰk<|Rs<|pX<|ϓq<|È 0<|È 1<|È 3 ai)
 (ao (tM 1 ş Š)
 (ao (ϧO (pX<|ħ<|È 0 ai) 5<|ϷK (ñ gNe 5 ş) (tM 0 ς<|mE<|ϨD<|ae (Ù 0 ς)<|ae (Ù 0 ş)<|È 3 ai) sNx)
 (Ε<|Rs<|pX<|όS<|ae (Ù 0<|ġ<|Ç 1)<|È 2 ai))))
theorem II{n m z w A:Nat}{R:ϹC}{S:Sl}{u:Int}{d:Lp.Row}(D:Ϥ8)(J:ϲF S)(I:∀S,ϲF S->ϬY)(Z:w=z+1)(U:m<=w)(H:w<=900)(B:n<=800){j:Nat}(K:Be ϰh (λx=>϶7 Ϻx) j S):
  ∃o,ϲF o/\϶7 (vw o)/\Bk 6 oq ϴa ϵD (Ä m) (T0 o.r,aO o.c):=by
 let fin:∀(j:Nat)(S:Sl),ϲF S->Be ϰh (λx=>϶7 Ϻx) j S->ϲF (Lp.it ϰh j S)/\϶7 (vw<|Lp.it ϰh j S):=by
  ext j
  induction j with|zero=>exactλS J h=>⟨J,h⟩|succ j ih=>exactλS J h=>ϲ2 (Lp.zC D J h.1).1 h.2
 let(M,L):=fin j S J K;show(_,M,L,λp q W=>?_);let fs:∀T,ϲF T->∀(v1 C V v:Ü OD),pX (όS<|ae (Ù 0<|ġ<|Ç 1)<|È 2 ai) [some<|ϳq<|ß T0 T.r OD.sh,v1,Ĕ<|Ä m,C,V,v]=.ok (Ñ<|oI1<|fsh ϩa m):=λT t v1 C V v=>by
  let b:=I T t;let f:=Ab ϩa m (by rw[b.row n ϰl];show U) (Ϩe<|b.row n ϰl);let a:=Bu (rs:=T.r) b.lr;let X:Ó (T.r[n]?) []=ϩa:=rfl;rw[X]at a;let E:Ê (ß T0 T.r OD.sh) OD.er=T0 T.r:=aI _;cases v1<;>cases C<;>cases V<;>cases v<;>simp![Dj,E,a,f]
 erw[oq,zP];simp![Ub,↓fs S J,L0];generalize P:Ϩ9=r;apply sP P (λk ρ=>∃(T:Sl)(V v:Ü OD),ϲF T/\Be ϰh (λx=>϶7 Ϻx) k T/\Lp.it ϰh k T=Lp.it ϰh j S/\ρ=[some<|ϳq<|ß T0 T.r OD.sh,some<|ϵq<|ß aO T.c OD.sh,Ĕ<|Ä m,some<|Ñ<|oI1<|fsh ϩa m,V,v])
  j ⟨S,none,none,J,K,rfl,rfl⟩ (λρ=>∃C V v,ρ=[some<|ϳq<|ß T0 (Lp.it ϰh j S).r OD.sh,some<|ϵq<|ß aO (Lp.it ϰh j S).c OD.sh,Ĕ<|Ä m,C,V,v]) ?_ ?_
 .rintro k ρ ⟨T,V,v,t,hk,hit,rfl⟩
  cases hf:fsh ϩa m with
  |none=>
   left;let h:϶7 (vw T):=Lp.Dy hf;cases k with
   |succ k=>show ϻw hk.1
   |zero=>
    let hit:T=Lp.it ϰh j S:=hit;constructor
    .simp![oI1]
    show(_,_,_,ϰT hit)
  |some s=>
   right;let(s1,s2,s3):=Lp.Dc hf;cases k with
   |zero=>
    let:=hk s s1;let e:(vw T).T n s=pA ϩa s:=rfl;lia
   |succ k=>
    let(N,s',r,e1,G,l):=Lp.zC D t hk.1;rw[hf]at e1;cases e1;let b:=I T t;let g:=Ew (z:=z) b Z (s:=s) Á Á;rw[G]at g;let E:Ê (ß T0 T.r OD.sh) OD.er=T0 T.r:=aI _;let Y:Ê (ß aO T.c OD.sh) OD.er=aO T.c:=aI _;let O:Õ (Ì 0<=Ϻb)=true:=Z8 Á;let eN:=Oy (z:=z) hf G;constructor
    .simp![oI1,O]
    let g1:∀(V v:Ü OD),pX (ϓq<|È 0<|È 1<|È 3 ai) [some<|ϳq<|ß T0 T.r OD.sh,some<|ϵq<|ß aO T.c OD.sh,Ĕ<|Ä m,some<|Ñ Ϻb,V,v]=.ok (Ñ Ϧd):=λV v=>by cases V<;>cases v<;>simp![Dj,E,Y,g,oI1]
    let g2:=MQ (ρ:=[some<|ϳq<|ß T0 T.r OD.sh,some<|ϵq<|ß aO T.c OD.sh,Ĕ<|Ä m,some<|Ñ Ϻb,some<|Ñ Ϧd,v]) (i:=1) (k:=ş) (a:=Š) (q:=Ϧd) (j:=r) (y:=Ñ Ϻb) rfl rfl (z:=Ñ Ϧd) rfl ϰn (cW<|Ζ eS b.lc l.hr);rw[bc,K3]at g2;let g3:=Zab<|ϐI Á l.hr l.rp H B p (ϵq<|ß aO ϧ6 OD.sh) (.sh<|Ä m) v ϒe;let F:=fs _ N;rw[eN]at F N;let Q:stB [some<|ϳq<|ß T0 T.r OD.sh,some<|ϵq<|ß aO T.c OD.sh,Ĕ<|Ä m,some<|Ñ Ϻb,V,v]=ų [some<|ϳq<|ß T0 ϐz OD.sh,some<|ϵq<|ß aO ϧ6 OD.sh,Ĕ<|Ä m,some<|Ñ<|oI1<|fsh (P0 ⟨ϐz,ϧ6⟩ n) m,some<|Ñ Ϧd,Ϸ3<|ϐI Á l.hr l.rp H B p (ϵq<|ß aO ϧ6 OD.sh) (.sh<|Ä m) v ϒe]:=by
     generalize Ϸ3 (ϐI Á l.hr l.rp H B p (ϵq<|ß aO ϧ6 OD.sh) (.sh<|Ä m) v ϒe)=v' at g3;erw[stB];simp![↓g1,↓g2,↓g3,↓F]
    change qS _ (stB [some<|ϳq<|ß T0 T.r OD.sh,some<|ϵq<|ß aO T.c OD.sh,Ĕ<|Ä m,some<|Ñ Ϻb,V,v]);rw[Q];show(k,K8d k,(ϐz,ϧ6),_,_,N,?_,?_,rfl)
    .let:=hk.2
     rw[eN]at this;show this
    rw[<-hit];change _=Lp.it ϰh k (ϰh T);rw[eN]
 ext ρ' rfl ⟨C,V,v,rfl⟩;simp![L0,Ya];show(_,rfl,rfl,rfl)
open Lp (pA gcL gy jF clL Sl P0 vw dR dC mkL frL laL lsF lsF' S0 Lone Dem Sm)
def D2(n i:Nat)(N:n<=900):n8 [Ä n,Ä i]=ģ (aG ϻ8):=by
 erw[n8,z9];let s:Κ (Ŵ+1):=Ŕ Á;simp![s];generalize w:Į=rc
 let e:=aS w (ϳj<|0+ë) (λk=>Ñ<|Ë (k=i) 1 0) (ϱR<|n+1) (ϣ<|ê (ĩ (Ŵ+1)=n+1)) (Ô Z7<|K94<|aF Á) (by
  ext k H;rw[K8R];cases h:k=i
  .let h':ë=ÿ:=Á
   simp![Z8 h',Os h]
  let h':¬ë=ÿ:=Á
  simp![K9q h',P3 h])
 subst e;simp![S5];erw[aG,mkL];rw[S1,S1];rfl
def anyB(l:À Int):Bool:=(l.Ç ώl).any id
def any_false{l:À Int}:Ł (anyB l)↔∀k,ϴu k=0:=by
 erw[anyB];rw[Zea,Zdm];constructor
 .intro h k
  cases e:ϴu k=0
  .show e
  show ĭ ϵh<|h _<|Lp.Ai e
 ext h x H;let(j,J):=Zac H;let:=h j;erw[pA]at this;rw[J]at this;let:x=0:=this;simp[this]
def rS(row:À Int)(k:Nat):Bool:=Õ (0<Ō k)&&(!anyB Ϩc&& !anyB ϯr)
def qW{row:À Int}{k:Nat}:rS row k=true↔0<Ō k/\∀l,l≠k->Ō l=0:=by
 erw[rS];rw[K9U,K9U,K9k,Zeh,Zeh,any_false,any_false];let t:∀l,pA Ϩc l=Ë (l<k) (Ō l) 0:=λl=>by erw[pA];rw[List.getElem?_take];split<;>rfl
 let d:∀l,pA ϯr l=Ō (k+1+l):=λl=>ű pA K84
 constructor
 .rintro⟨h1,h2,h3⟩
  show(h1,λl a=>?_);cases c:l<k
  .let:=h2 l
   rw[t,Os c]at this;show this
  let:=h3<|l-(k+1);rw[d,ê (k+1+(l-(k+1))=l)]at this;show this
 ext⟨h1,h2⟩;show(h1,λl=>?_,λl=>?_)
 .rw[t]
  split
  .show h2 l Á
  rfl
 rw[d];show h2 _ Á
def QI{row:À Int}{k:Nat}(h:όb)(a:ϑW):gP [iD row,Ä k]=þ (ã<|rS row k):=by
 erw[gP,nH,iD,rS];let A:=nv h;let c1:ϲd (row.Ç int) none (Â ë)=Ê Ϩc int:=Ĥ qX K7n
 let L:ϲd (row.Ç int) (Â<|ë+1) none=ß row.ä (k+1) int:=by rw[ê (ë+1=ä (k+1)),i8 _ _ (Ă K0),Zbt]
 let e1:vp [Ï<|Ê Ϩc int]=þ (ã<|anyB Ϩc):=Dt<|xR _;let g:vp [Ï<|ß row.ä (k+1) int]=þ (ã<|anyB ϯr):=Dt<|xR _;generalize anyB Ϩc=x at e1;generalize anyB ϯr=y at g;cases H:0<Ō k
 .cases x<;>cases y<;>simp![A,Z8 H,c1,L,aI,e1,g,Zee,Zfe,Bool.true_and,Zez,Bool.and_false,Zfi]
 simp![A,K9q H,Zez]
def dmD(d:À Int×Int):Gc:=Ą [iD d.1,Ä d.2]
def dsD(D:Dem):À Gc:=D.Ç dmD
def tY(D:Dem):Ã ϵK=D.À:=ű dsD K0
def lnL(D:Dem)(i:Nat):Ò:=Α (ϱR D.À) λj=>rS (ϛ j) i
def chL(D:Dem)(n:Nat):Ò:=Ê ϲl λi=>Ó (ϥS[0]?) 0
def Pr(D:Dem):fC ϵK=Ā D.À (ϰU (ϱ0 [Ä ë,dmD<|Ó (D[k]?) ([],0)])):=by
 apply K9K;ext i;rw[N2];erw[fC,dsD];rw[N2,K8S,N2];cases hi:i<D.À
 .rw[ϴj,ϰD]
  change Â (ϱ0 [Ä (ä (0+i)),dmD<|D[i]'hi])=Â (ϱ0 [Ä ÿ,dmD<|Ó (D[i]?) ([],0)]);rw[ϰD,K87];rfl
 rw[K9c Á,K9c<|Ă Z7];rfl
def HE{D:Dem}{n:Nat}(h:ŵ (∃j,ϥy/\rS (ϛ j) i=true)):Lone D n (ϰ8 n):=by
 let key:ŵ (Ó (á<|ϰ8 n) 0<D.À/\rS (ϛ<|Ó (á<|ϰ8 n) 0) i=true):=λi hi=>by
  let e:Ó (á<|ϰ8 n) 0=Ó (ϥS[0]?) 0:=ϰY chL N2 ϴj
  rw[e];let(j,J,B):=ϭy;let m:j∈ϥS:=ϳz ⟨ϨH,B⟩;cases hL:lnL D i with
  |nil=>rw[hL]at m;cases m
  |cons a r=>
   let Q:a∈ϥS:=Ô hL K9z
   let:=ϦG Q;show(Ϸz Ϻm,Ϥw)
 show(χ chL K0 Z7,ϰp (key i hi).1,ϰp (ϚS).1,λi hi l _ H=>(ϚS).2 l H)
theorem Oz{D:Dem}{n:Nat}(b:0<D.À)(hr:Θ D.À (Ã (ϛ j)=n))(o:n<=800)(f:D.À<=800)(h:ŵ (∃j,ϥy/\rS (ϛ j) i=true)):
  eV [Ï ϵK]=.ok (Ę<|aO<|ϰ8 n):=by
 erw[eV,kI];let A:Ť ϵK 0=Â (dmD<|Ó (D[0]?) ([],0)):=de (j:=0) (ϰY dsD N2<|Nu b);let N:Ã (Ê (ϛ 0) int)=n:=Ô K0 (hr 0 b)
 let g:(Ó (D[0]?) ([],0)).1=ϛ 0:=rfl;erw[dmD,iD]at A;rw[g]at A;let s:Κ Ŵ:=Ŕ Á;let G:=hr 0 b;simp![A,N,G,s,K0];generalize l:Ŗ=r;show aX l (λi c=>∃V C,c=[â ϵK,some<|Ę<|aO<|ϰ8 i,V,C]) (ϲi _) ?_ ?_
 .rintro i d c hd ⟨V,C,rfl⟩
  let(hi,rfl):=϶M;rw[K9n]at hi;rw[K8R];simp![Pr];generalize w:Į=rc
  let e:=iS w (ϰU<|ϱ0 [Ä ë,dmD<|Ó (D[k]?) ([],0)]) (λk=>rS (ϛ k) i) (λk=>Ñ ë) (ϱR D.À) rfl (Ô Z7<|K94<|aF Á) (by
   ext k H;let H:=ϹQ;let as:=QI (row:=ϛ k) (k:=i) (Ϸ0<|hr k H) (Ă<|hr k H);let g:(Ó (D[k]?) ([],0)).1=ϛ k:=rfl;erw[dmD];rw[g];constructor
   .simp![as]
   ext _
   simp![S5])
  subst e;let ex:Α (ϱR D.À) (λk=>rS (ϛ k) i)=ϥS:=rfl;rw[ex];let(j,J,B):=ϭy;let m:j∈ϥS:=ϳz ⟨ϨH,B⟩;let sn:ϰ8 (i+1)=ϰ8 i++[Ó (ϥS[0]?) 0]:=ϰY chL K8A K9i
  cases l:lnL D i with
  |nil=>rw[l]at m;cases m
  |cons a r=>
   rw[l]at sn;let L:ϱK (Ã (aO<|ϰ8 i)):=c8 (by rw[eS];erw[chL];rw[K0,Z7];lia);simp![K0,L];let sn:ϰ8 (i+1)=ϰ8 i++[a]:=sn;rw[sQ (ϰ8 i) a,<-sn];show(_,_,rfl)
 ext ρ' rfl ⟨V,C,rfl⟩;let e:Ã (ky 0 (ĩ Ŵ))=n:=Ϗ9
 rw[e];simp![S5]
def kE(h:ϭo b.À<=1000):a_ (Ï a) (Ï b)=.ok (Ę ϦD):=by
 change(Ë (ϭo b.À<=Tk) _ _)=_;rw[Os<|K94<|aF h]
def Hq(D:Dem)(n i:Nat)(e:Int)(f:À Int×Int->Int):ϥc (f d)++Ê ϻ8 int++[int e]=Ê Ϯz int:=by rw[K9i,K9i,S1];rfl
def frS(D:Dem)(n i:Nat):À (À Int):=Ê Ϥb ϙ
def OK{D:Dem}{n A:Nat}{ch:Ò}(L:ϫR)(S:Sm A D)(hr:Θ D.À (Ã (ϛ j)=n))(hn:n<=20)(hD:D.À<=400)(Q:A<=256)(h2:2<=n):
  gJ [Ï ϵK,Ï ϩV]=.ok (Ę<|T0 (ϹF).r):=by
 erw[gJ,m_];let Y:Κ Ŵ:=Ŕ Á;let cl:=L.í;simp![eS,cl,Y];generalize t:Ŗ=r;show aX t (λi g=>∃V v,g=[â ϵK,â ϩV,some<|Ñ Ŵ,some<|Ę<|T0<|ϱo i,V,v,none]) (ϲi _) ?_ ?_
 .rintro i d g H ⟨V,v,rfl⟩
  let(hi,rfl):=cI H;rw[K9n]at hi;rw[K8R];simp![S5];generalize w:Į=rc
  let e:=aS w dmD (λd=>Ñ<|ř d.1) D rfl (K94<|aF Á) (by
   ext d H;let(j,z):=Zac H;let J:ϥy:=(ϱa z);let K:d.1=ϛ j:=Ϗ dR z
   let o:=Ϻt d.1 (k:=i) (by rw[K,hr j J];show hi)
   erw[dmD,iD];simp![o])
  subst e;let mo:=D2 n i Á;let e1:ß D.Ç (λd=>Đ<|Ä<|ř d.1) OD.er=ϥc (ř d.1):=Ô S1 (K8u λd _=>ϰn)
  let m:=Lp.ug n i;let g1:=Ϫg (ϥc (ř d.1)) (Ê ϻ8 int) ϙa;let B:ϱK (Ã (T0<|ϱo i)):=ϖC;let sn:ß T0 (ϱo i) OD.sh++[Đ<|Ï<|Ê (ϙ i) int]=ß T0 (ϱo<|i+1) OD.sh:=by rw[yo];show Ϲq OD.sh ?_;erw[T0,frS];rw[K8A,K9i,K9i];rfl
  let R:∀v:OD,Ϥy (ñ gLt 4<|Ç 2) (Ç 1) (Ç 0) [â ϵK,â ϩV,some<|Ñ Ŵ,some<|Ę<|T0<|ϱo i,some<|Ñ ÿ,ĥ,none]=.ok (Ñ<|Ë (i<2) 1 0):=λv=>by
   cases h:i<2
   .let h':(ÿ<2):=Á
    simp![Z8 h',Os h]
   let h':¬(ÿ<2):=Á
   simp![K9q h',P3 h]
  let g2:=Ϫg (ϥc (ř d.1)++Ê ϻ8 int) [int (Ë (i<2) 1 0)] ϗi;rw[Hq]at g2;let F:D.Ç (λd=>ř d.1)++ϻ8++[Ë (i<2) 1 0]=ϙ i:=rfl;rw[F]at g2;simp![e1,mo,aW,g1,aI,↓R,g2,K0,B,sn];show(_,_,rfl)
 ext ρ' rfl ⟨V,v,rfl⟩;let e:Ã (ky 0 (ĩ Ŵ))=n:=Ϗ9
 rw[e];simp![S5];generalize w:Į=rc;let e:=϶R dmD (λd=>Ñ d.2) D rfl (K94<|aF Á) (by ext d H;erw[dmD,iD];simp![S5]);subst e;let mo:=D2 n n Á;let e1:ß D.Ç (λd=>Đ<|Ä d.2) OD.er=ϥc d.2:=Ô S1 (K8u λd _=>ϰn)
 let m:=Lp.ug n n;let g1:=Ϫg (ϥc d.2) (Ê (mkL n n) int) ϙa;let g2:=Ϫg (ϥc d.2++Ê (mkL n n) int) [Ϻq] ϗi;rw[Hq]at g2;let F:ϗg=Ϸk:=rfl;rw[F]at g2;let B:ϱK (Ã (T0<|ϱo n)):=ϖC;let sn:ß T0 (ϱo n) OD.sh++[Đ<|Ï<|Ê Ϸk int]=ß T0 (ϱo n++[ś 0]) OD.sh:=by rw[yo];show Ϲq OD.sh ?_;erw[T0];rw[K9i];rfl
 simp![e1,mo,aW,g1,aI,g2,K0,B,sn];generalize u:Ŗ=r2;let f:Ã (ϱo n)=n:=χ frS K0 Z7
 show aX u (λi g=>∃V v v6,g=[â ϵK,â ϩV,some<|Ñ Ŵ,some<|Ę<|T0<|ϱo n++[ś i],V,v,v6]) ϑS ?_ ?_
 .rintro i d g H ⟨V,v,v6,rfl⟩
  let(x,X,rfl):=kY H;erw[aO]at X;rw[N2]at X;let(s,C,rfl):=XL.mp X;let hi:i<n:=Ϙ cl (ZB.mp C).1
  let sc:Ó (á ch) 0=s:=by rw[C];rfl
  let slt:=L.lt i hi;let G:=Lp.GO L i ϴW;let ne:=Lp.HW L hi G;rw[sc]at slt ne;let y:=Lp.B3 (D:=D) (n:=n) (ch:=ch) i;let fl:=Lp.vR D n i;let T:A*(2*A)^i<=XB:=by
   let W:(2*A)^i<=512^20:=K9C (Zde Á i) (Zbu Ý Á);let p2:A*(2*A)^i<=256*512^20:=ϙe Q W;let p3:256*512^20<=XB:=œ
   lia
  let b1:ϤL (ś i):=λk=>Ĳ (Lp.Q2 S L i ϴW k)
  let I:ϤL (ϙ i):=λk=>by
   let:=Lp.Bb S n i ϴW k;rw[Lp.mJ hi]at this;let:ϥG<=XB:=œ
   lia
  let c:=zb (row:=ś i) (piv:=ϙ i) (s:=s) (by rw[y,fl]) b1 I (by rw[y];lia) (by rw[y];lia) ne;let O:Ê (ß T0 (ϱo n++[ś i]) OD.sh) OD.er=T0 (ϱo n++[ś i]):=aI _;let o:=Bu (rs:=ϱo n++[ś i]) (n:=n) (by rw[K9v,f,K9e]);rw[K9a (by rw[f];show ϰl),f,K8c]at o;let q:=όp (ϱo n++[ś i]) (by rw[K9v,f,K9e];lia);rw[K9V<|by rw[f];show hi]at q;let P:Ó (á<|ϱo n) []=ϙ i:=ϰY frS N2 ϴj
  rw[P]at q;let p:Ϲ2 (T0<|ϱo n++[ś i])=Â (iD<|ś i):=o;let M:mE (ϨD<|ae (Ù 3<|ġ<|Ç 1)<|ae (Ù 3 ş)<|È 6 ai) [â ϵK,â ϩV,some<|Ñ Ŵ,some<|Ę<|T0<|ϱo n++[ś i],some<|Ñ ÿ,v,some<|Ñ Ϻb]=ģ (aG<|ϳK (ś i) (ϙ i)):=by cases v<;>simp![O,p,q,c]<;>(change(Ë _ _ _)=_;rw[Os<|sM _,yU])
  let N:ϹS (aG<|ϳK (ś i) (ϙ i))=iD (ś<|i+1):=by rw[md,aW,lsF',sc];rfl
  let U:ixN (Ã (ß T0 (ϱo n++[ś i]) OD.sh)) (-1)=ϵL:=by
   let E:Ã (ß T0 (ϱo n++[ś i]) OD.sh)=n+1:=by erw[T0];rw[K0,K0,K9v,f,K9e]
   rw[E];erw[ixN];rw[P3 Á,Os Á];show Ϸm Á
  let Z:Ϫ (ß T0 (ϱo n++[ś i]) OD.sh) n (OD.sh<|iD<|ś<|i+1)=ß T0 (ϱo n++[ś<|i+1]) OD.sh:=by
   rw[<-Zby];show Ϲq OD.sh ?_;erw[T0];rw[<-Zby];show Ϲq iD ?_;rw[Zdq _ _ (by rw[f];show ϰl),f,K8c];rfl
  simp![↓M,N,yS U,Z];show(_,_,_,rfl)
 ext ρ' rfl ⟨V,v,v6,rfl⟩;let e:Ã (fC ϩV)=n:=ϑe eS cl
 rw[e];simp![S5];rfl
open Lp (pA gcL gy jF clL Sl P0 vw dR dC mkL frL laL lsF S0 Lone Dem Sm Jn Mk pd pd' pd'' px)
def XS:Nat:=2^200
def Nr{n m z w:Nat}{R:ϹC}{S:Sl}(J:ϐ9)(M:ϻZ)(D:ϲP (∀j,Ś (-(ä 256)) ϴ7 ϥG))(a:0<n)(H:n<=13):ϲP (Bd XS (î i)):=λi hi j=>by
 let h:=J.le M Ý D a hi j;let p:(2*(n+1)*256)^n<=7168^13:=K9C (Zde Á n)<|Zbu Ý H;let p2:(n+1)*((2*(n+1)*256)^n*256)<=14*(7168^13*256):=ϙe Á<|Zcj 256 p;let P:14*(7168^13*256)<=XS:=œ
 let e:ϥ i j=Ņ (î i):=rfl;rw[e]at h;lia
def DP{l:À Int}(h:Bd XS l):ϤL l:=λk=>by
 let:=h k;let:XS<=XB:=œ
 lia
def Wc{n m z w:Nat}{R:ϹC}{S:Sl}(J:ϐ9)(M:ϻZ)(D:ϲP (∀j,Ś (-(ä 256)) ϴ7 ϥG))(a:0<n)(h:n<=13):ϬY:=⟨J.lr,J.lc,J.row,ϰp (DP<|Nr J M D a h i hi)⟩
def pvN(S:Sl)(i:Nat):Int:=ϥ i<|ŧ i
def prF(S:Sl)(n m z:Nat):Nat->À Int|0=>϶1 0|k+1=>Ϫ (ϱG k) (ŧ k)<|ϥ k z*ϳe k
def prF'{S n m z k}:ϱG (k+1)=(Ϫ (ϱG k) (ŧ k)<|ϥ k z*ϳe k):=rfl
def wm(S:Sl)(n m z:Nat):∀k,Ã (ϱG k)=m:=by
 induction _ with|zero=>show K8r ..|succ k N3=>rw[prF',K8z,N3]
def Rh{f:å}{X:Nat}:∀n,(ŵ<|ώN (f i) X)->ώN (ϴv f) (ä (X^n)):=by
 induction _ with
 |zero=>ext _;rw[pd''];show(Zdw,Ô Zeu ϺB)
 |succ n N3=>
  ext h;let(a,b):=ϺU;let(H,c):=Ϩt;rw[pd',Zcm,Zbz];show(Zay a H,?_);show Zef b c (Zar H) Á
def E9{a:Int}(H:k<=14)(h:-(ä (XS^k))<=a/\a<=ϱB (XS^k)):W4 a:=by
 let T:XS^k<=ϴr:=Zbu œ H;let p2:ϴr<ϩ0:=œ
 erw[W4];lia
def zeros(m:Nat)(z:Int)(Z:z=ϴ0)(M:m<=1000):cX (Ï [Ä 0]) (Ä z)=.ok (Ę<|϶1 Ϻq):=by subst Z;show xA (Ä 0) m M
def R7(l:À Int):iD l=Ï ϲJ:=rfl
theorem JW{n m z w:Nat}{R:ϹC}{S:Sl}(J:ϐ9)(U:ϻZ)(N:ϲP (∀j,Ś (-(ä 256)) ϴ7 ϥG))(G:0<n)(hn:n<=13)(hw:w=z+1)(hmw:m<=w)(W:m<=800)(P:∃k,ϱj (ϱG n)≠0):
  d4 [Ï ϴa,Ï ϵD,Ä m]=ģ (aG<|gy<|ϱG n):=by
 erw[d4,lH];let bd:=Nr J U N G hn;let pos:ŵ (ώN (ϲV i) (ϱB XS)):=ϰp ⟨ϫQ hi,(ώz Á _).2⟩
 let p:ϩE (ώN (pd k ϲV) (ä (XS^k))):=λk h=>Rh k (ϰp (pos i Á));let D:∀(i:Nat)(x y:Gc),á ϴa=Ď->á ϵD=ϰO->i<n/\x=iD (î i)/\y=Ä (ä (ŧ i)):=λi x y X Y=>by
  erw[aO]at Y;rw[N2]at Y;let(c,o,rfl):=XL.mp Y;let hi:i<n:=Ϙ J.lc (ZB.mp o).1
  erw[T0]at X;rw[N2]at X;let(r,hr,rfl):=XL.mp X;show(hi,?_,?_)
  .change iD r=iD (Ó (á S.r) [])
   rw[hr];rfl
  change int ϥ8=Ä (ä (Ó (á S.c) 0));rw[o];rfl
 let E:∀(i:Nat)(d:Gc),(gq ϴa ϵD)[i]?=ϰN->i<n/\d=Ą [iD<|î i,Ä (ä (ŧ i))]:=λi d H=>by let(x,y,I,K,rfl):=rA H;let(hi,rfl,rfl):=D i x y I K;show(hi,rfl)
 let s:Ã (gq ϴa ϵD)=n:=by
  erw[gq,T0];rw[K0,Zao,K0,eS,J.lr,J.lc];lia
 let s2:Κ ϴ0:=Ŕ Á;simp![S5];generalize L:Ŗ=r;show ϳ2 (λi a=>∃v V,a=[â ϴa,â ϵD,some<|Ñ ϴ0,some<|Ñ<|pd i ϲV,v,V,none]) ((ϲi _))
 .rintro i d a H ⟨v,V,rfl⟩
  let(hi,rfl):=E i d H;let A:=Ϻt (î i) (k:=ŧ i) (by rw[ϥJ Á];let:=J.ċ i hi;lia);let M:=ϻ3 (pd i ϲV) (pA (î i)<|ŧ i) (E9 (k:=i) Á<|Ĳ (p i Á)).bits (u9<|DP (ώz Á) _).bits;let m2:pd i ϲV*pA (î i) (ŧ i)=pd (i+1) ϲV:=rfl;rw[m2]at M;rw[R7];simp![A,M];show(_,_,rfl)
 ext ρ' rfl ⟨v,V,rfl⟩;rw[s];let t:=zeros m ϴ0 rfl Á;let Z:ώM (϶1 Ϻq) (ϱG 0):=ϘF prF
 rw[Z]at t;let g:=p n ϰl;simp![t];generalize L:Ŗ=r2;show ϳ2 (λi a=>∃v V,a=[â ϴa,â ϵD,some<|Ñ ϴ0,some<|Ñ<|ϴv ϲV,v,V,Ň<|aG<|ϱG i]) ((ϲi _))
 .rintro i d a H ⟨v,V,rfl⟩
  let(hi,rfl):=E i d H;let B:=J.ċ i hi;let A:=Ϻt (î i) (k:=ŧ i) (Ă<|ϥJ Á);let u:=Bf (l:=î i) (z:=z) (Ĥ (ϥJ Á) hw);let pi:=pos i hi;let F:=RJ (i:=ϴv ϲV) (j:=pA (î i)<|ŧ i)<|(u9<|DP (ώz Á) _).b9 pi.1;let q:ϲV i*ϳe i=ϴv ϲV:=Lp.Cj n hi;let q2:ϴv ϲV / pA (î i) (ŧ i)=ϳe i:=Ϙ q (Zeg _<|Zbd pi.1)
  rw[q2]at F;let Q:0<ϳe i:=Ϙv;let ql:ϳe i<=ä (XS^n):=by
   show Zeq ?_ g.2;rw[<-q];let:=Zaf (ê<|Ì 1<=ϲV i)<|Zar Q;rw[Zaq]at this;show this
  let M:=ϻ3 (pA (î i) z) (ϳe i) (u9<|DP (ώz Á) _).bits (E9 (k:=n) Á Á).bits;let ix:ixN (Ã (aG<|ϱG i)) (ä (ŧ i))=Â (ŧ i):=cW (by rw[d7,wm];show B);let st:Ϧf (ϱG i) (ŧ i) (Đ<|Ä<|pA (î i) z*ϳe i)=aG (ϱG<|i+1):=ϣ nL
  rw[R7];simp![A,u,F,M,yS ix,st];show(_,_,rfl)
 ext ρ' rfl ⟨v,V,rfl⟩;rw[s];let h:=Zab P;let g0:=Lp.mI h;let f:ϩE (∀j,Ś (-(ä ϴr)) (Ņ (ϱG k)) (ϱB ϴr)):=by
  ext k
  induction k with
  |zero=>
   ext _ j;let:Ņ (ϱG 0)=0:=ϖQ
   rw[this];lia
  |succ k ih=>
   ext h j;erw[prF,pA];rw[List.getElem?_set];split
   .split
    .let Q:0<ϳe k:=Ϙv
     let q:ϲV k*ϳe k=ϴv ϲV:=Lp.Cj n Á;let ql:ϳe k<=ä (XS^n):=by
      show Zeq ?_ g.2;rw[<-q];let:=Zaf (show Ì 1<=ϲV k by let:=pos k Á;lia)<|Zar Q;rw[Zaq]at this;show this
     let:=Lp.sJ (bd k Á z) (C:=(ä (XS^n))) (b:=ϳe k) Á;let pw:XS*XS^n<=ϴr:=by rw[Zdp,<-Zcm];show Zbu œ Á
     rw[<-Zbz]at this;change Ś (-(ä ϴr)) (ϥ k z*ϳe k) (ϱB ϴr)
     let e:ϥ k z=pA (î k) z:=rfl;rw[e];omega
    change -(ä ϴr)<=0/\Ì 0<=ϱB ϴr
    lia
   show ih Á j
 let O:ϴ pU (ϰM<|ϱG n):=(J8 (ϕX<|Lp.Ai h) h<|E9 (k:=14) Á<|f n ϰl _).b9 g0;let lo:=yI (ϱG n) O (Ă wm);simp![aW,lo]
def gpL(ts:À Nd)(q:À Int):Nat->À Int|0=>ϸ4 0|k+1=>Ϫ (ϲL k) (Ó ((S4 Í)[k]?) (0,0)).2<|ϤD<|2*Ã Í+k
def gpL'{ts q k}:ϲL (k+1)=(Ϫ (ϲL k) (Ó ((S4 Í)[k]?) (0,0)).2<|ϤD<|2*Ã Í+k):=rfl
def BJ(ts:À Nd)(q:À Int):∀k,İ (Ã (ϲL k)):=by
 induction _ with|zero=>show K8r ..|succ k N3=>rw[gpL',K8z,N3]
def dY(ts:À Nd)(q:À Int):À Int:=q.Ö (Ã Í)
def cF(ts:À Nd)(q:À Int):À Int:=ł (q.ä (Ã Í)) (Ã Í)
abbrev gp(ts:À Nd)(q:À Int):À Int:=ϲL ((Ã (S4 Í)))
def Aq(ts:À Nd)(q:À Int)(he:ĕ)(f:Č 0)(L:é)(H:q.À=2*Ã Í+Ã (S4 Í)):
  gN [Ï è,Ï Ϩl]=Ħ (.ot [϶J<|ϰx q,϶J<|ϰ4 q,϶J<|ϰ3 q]):=by
 erw[gN,m7];let(N,n):=ϺE f;let nl:Ã (oW Í)=Ã Í:=eL _;let R:=zeros ts.À (Ì ts.À) rfl Á;let Z:ώM (ϸ4 Ϻq) (ϲL 0):=ϘF gpL
 rw[Z]at R;let c1:ϲd Ϩl (Â<|2*Ì ((Ã Í))) none=ß q.ä (2*Ã Í) int:=by rw[ê (Ì 2*Ì ((Ã Í))=ä (2*Ã Í)),i8 _ _ ϑa,Zbt]
 let Q:cX (Ä 2) (Ä (Ì ((Ã Í))))=.ok (Ñ<|2*Ì ((Ã Í))):=by
  let:ϤB 2 ((Ì ((Ã Í)))):=EC Á Á;simp![this]
 let lv:=kX ts he L;let G:ϟ ts.À=Í:=rfl;rw[G]at lv;simp![lv,mD,nl,aH,R,Q,mV ts he L,aI,c1];generalize g:Ŗ=r;let l:∀(i:Nat)(d:Gc),(gq (ß S4 Í prD)<|ß q.ä (2*Ã Í) int)[i]?=ϰN->i<Ã (S4 Í)/\d=Ą [prD<|Ó ((S4 Í)[i]?) (0,0),Ä<|ϤD<|2*Ã Í+i]:=λi d h=>by let(x,y,c,e,rfl):=rA h;rw[N2]at c e;let(a,A,rfl):=XL.mp c;let(b,B,rfl):=XL.mp e;rw[K84]at B;show((ώE).1,?_);erw[pA];rw[A,B];rfl
 let s:Ã (gq (ß S4 Í prD)<|ß q.ä (2*Ã Í) int)=Ã (S4 Í):=by
  erw[gq];rw[K0,Zao,K0,K0,K8y];lia
 show aX g (ϺK<|∃v v6,ρ=[â è,â Ϩl,â<|oW Í,some<|Ñ<|(Ì ((Ã Í))),Ň<|aG<|ϲL i,v,v6]) (ϲi _) ?_ ?_
 .rintro i d ρ h ⟨v,v6,rfl⟩
  let(hi,rfl):=l i d h;let lt:=(ϸw (p:=Ó ((S4 Í)[i]?) (0,0))<|Ô ϰD (Zah hi)).2;let I:ixN (Ã (aG<|ϲL i)) (Ì (Ó ((S4 Í)[i]?) (0,0)).2)=Â (Ó ((S4 Í)[i]?) (0,0)).2:=cW (by rw[d7,BJ];show lt);let T:Ϧf (ϲL i) (Ó ((S4 Í)[i]?) (0,0)).2 (OD.sh<|Ä<|ϤD<|2*Ã Í+i)=aG (ϲL<|i+1):=ϣ nL
  erw[prD];simp![yS I,T];show(_,_,rfl)
 ext ρ' rfl ⟨v,v6,rfl⟩;rw[s];let C:ϲd Ϩl none (Â<|(Ì ((Ã Í))))=Ê (ϰx q) int:=by rw[qX,<-K7n];rfl
 let k:ϲd Ϩl (Â<|(Ì ((Ã Í)))) (Â<|2*Ì ((Ã Í)))=Ê (ϰ4 q) int:=by
  rw[ê (Ì 2*Ì ((Ã Í))=ä (2*Ã Í)),Ϛq _ _ _ ϑa,ê (2*Ã Í-Ã Í=Ã Í),<-Zbt,<-K7n];rfl
 let u:=LF (fa:=ϳb 1 iN<|d8 Š) (fb:=ϳb 1 (d8 Š)<|d8<|ϰz (Ç 2) Š) (i:=4) (ρ:=[â è,â Ϩl,â<|oW Í,some<|Ñ<|(Ì ((Ã Í))),Ň<|aG<|ϲL ((Ã (S4 Í))),v,v6]) (x:=϶J<|ϲL ((Ã (S4 Í)))) (y:=϶J<|ϰx q) (z:=϶J<|ϰ4 q) rfl (by simp![C];rfl) (by simp![Q,k];rfl);simp![↓u]
def mvL(ts:À Nd)(pl:À Int)(u:Int):À Int:=pl.Ç λx=>x-eT (Ā ts.À λk=>ϵA-u*Ļ k)
def LC(ts:À Nd)(pl:À Int)(u:Int)(H:Č 0)(a:é)(l:ϵe)(p:İ pl.À)(U:W4 u):
  bj [Ï è,Ï ϻz,Ä u]=ģ (aG<|mvL ts pl u):=by
 erw[bj,fS];let rs:=rsh ts;let g:=lK ts;simp![aW,jR ts l a,rs,FX p g];generalize w:Į=rc
 let e:=aS w (ϰU<|ϱ0 [Ä ϵA,Ä<|Ļ k]) (λk=>Ñ<|ϵA-u*Ļ k) ϳS rfl (Ô Z7<|K94<|aF Á) (by
  ext k h;let b:=wV l k;let m:=fP (i:=u) (j:=Ļ k) U.bits (pB (ϧJ b.1<|_<û k)<|ϧJ b.2 (û k<_))
  simp![m])
 subst e;clear w;rw[zD];let M:=rE (xs:=Ā ts.À λk=>ϵA-u*Ļ k) (λz=>by
  let:=Ż z;rw[K0,Z7,K8U]at this
  lia)
 simp![aW,M];generalize w:Į=rc;let e:=϶R int (λx=>Ñ<|x-eT (Ā ts.À λk=>ϵA-u*Ļ k)) pl rfl (K94<|aF Á) (by ext k h;simp![S5]);subst e;simp![S5];rw[zD];rfl
def l5(f:å):å|0=>0|m+1=>l5 f m+f m
def uP{l:À Int}{i:Nat}(h:i<l.À):Ó ϲJ i ò=Ä Ϥl:=by rw[Zbv,N2];erw[I4];rw[ϱi];rfl
def C5{a:À Ò}{i:Nat}{r:Ò}(h:ϴp=ϰQ):Ó (oW a) i ò=Ï ϶G:=by erw[oW];rw[Zbv,N2,h];rfl
def fl(n:Nat)(f:å):À Int:=Ê ϲl f
def wc(n:Nat)(f:å):Ã (Ϫn f)=n:=χ fl K0 Z7
def F9{n:Nat}{f:å}{j:Nat}(h:j<n):(aG<|Ϫn f)[j]?=some (Ñ<|f j):=by erw[aG,fl];rw[N2,N2,N2,ϴ6];rfl
def Wf(g:À Int):g=fl g.À ϲr:=by
 apply K9K;ext i;erw[fl];rw[N2];cases h:i<g.À
 .rw[ϴ6]
  change _=Â (ϲr i);erw[I4];rw[ϱi];rfl
 rw[K9c Á,K9c<|Ă Z7];rfl
def UR(n:Nat)(f:å)(j:Nat)(z:Int):Ϧf (Ϫn f) j (Ñ<|f j+z)=aG (Ϫn<|λv=>f v+Ë (v=j) z 0):=by
 rw[nL];congr 1;let:=jU f (λv=>f v+Ë (v=j) z 0) n j (λq h=>Ĥ ϱA Zak);rw[Ĝ]at this;show this
def NK(n:Nat)(f:å)(j:Nat)(z:Int):Ϧf (Ϫn f) j (Ñ<|f j-z)=aG (Ϫn<|λv=>f v-Ë (v=j) z 0):=by
 rw[nL];congr 1;let:=jU f (λv=>f v-Ë (v=j) z 0) n j (λq h=>Ĥ ϱA Zau);rw[Ĝ]at this;show this
def sbT(g:À Int)(v:Nat)(p:Ϻ):Int:=Ë (v=p.1) (ϲr p.2) 0
def lrT(ts:À Nd)(l r:À Int)(v j:Nat):Int:=(Ë (v=hdN (Ó (ę Í) [])) (I4 l j) 0)-(Ë (v=ltN (Ó (ę Í) [])) (I4 r j) 0)
def npA(g:À Int)(L:À Ϻ)(v:Nat):Int:=ϲr v-(L.Ç ϨY).sum
def npF(ts:À Nd)(l r g:À Int)(v:Nat):Int:=ϲq (S4 Í) v+l5 ϱF (Ã Í)
def Na(g:À Int)(L:À Ϻ)(p:Ϻ)(v:Nat):ϲq (L++[p]) v=ϲq L v-(Ë (v=p.1) (ϲr p.2) 0):=by
 erw[npA];rw[K9i,Zbf,K9w,K9D,Zap,Zfn];erw[sbT];lia
def Vp{ts:À Nd}{j:Nat}{q:Ò}(h:ę Í=Â q)(l r:À Int)(v:Nat):ϱF j=(Ë (v=ϱt) (I4 l j) 0)-(Ë (v=ϸG) (I4 r j) 0):=by erw[lrT];rw[h];rfl
def Ar(ts:À Nd)(l r g:À Int)(he:ĕ)(s:Č 0)(L:é)(o:Ϸn (Ã Í))(R:r.À=Ã Í)(m:İ g.À):
  gM [Ï è,ϳs]=ģ (aG<|ϲe ϴI):=by
 erw[gM,ny,eQ,iD];let g0:Ê ό9 OD.sh=aG (ϲe ϲr):=by
  change aG g=_;rw[<-m,<-Wf]
 simp![mV ts he L,aI,g0];generalize h:Ŗ=r';apply aX h (λi a=>∃(C V:Ü OD),a=[â è,Ĕ<|Ą [Ï ϲJ,Ï Ϸ8,Ï ό9],Ň<|aG<|ϲe<|ϲq<|ł (S4 Í) i,C,V,none,none,none])
  ⟨_,_,by
   let:ϲr=ϲq []:=funext λv=>by erw[npA];rw[K9D,Zfn,Zau]
   rw[K7t,<-this]⟩ ?_ ?_
 .rintro i d a hd ⟨C,V,rfl⟩
  rw[N2]at hd;let(p,P,rfl):=ϹV;let lt:=ϸw<|K9L P;let X:ϔV (ϲe<|ϲq<|ł (S4 Í) i) ((Ì p.1))=Â p.1:=cW (Ζ d7 wc lt.1);let A:=Ϸa g p.2 (ϥi lt.2);let gt:=F9 (f:=ϲq<|ł (S4 Í) i) lt.1;let e:(λv=>ϲq (ł (S4 Í) i) v-Ë (v=p.1) (ϲr p.2) 0)=ϲq (ł (S4 Í)<|i+1):=funext λv=>Ĥ (ϬN P) Na
  erw[prD];simp![A,BG,Aa X gt,NK,e];show(_,_,rfl)
 ext ρ' rfl ⟨C,V,rfl⟩;rw[K0,K90 ì];clear h;let z:zN3 [Ï<|oW Í,Ï ϲJ,Ï Ϸ8]=.ok (wJ (oW Í) ϲJ Ϸ8):=YK ⟨by rw[eL,K0,o],by rw[eL,K0,R]⟩;simp![Yv,kX ts he L,mD,z];generalize h:Ŗ=r';apply aX h (λi a=>∃(b v6 c:Ü OD),a=[â è,Ĕ<|Ą [Ï ϲJ,Ï Ϸ8,Ï ό9],Ň<|aG<|ϲe (λv=>ϲq (S4 Í) v+l5 ϱF i),C,V,b,v6,c])
  ⟨_,_,_,by
   let:ϲq (S4 Í)=λv=>ϲq (S4 Í) v+l5 ϱF 0:=funext λv=>Ĥ (ϸg (l5 ϱF 0) 0) Zak
   rw[<-this]⟩ ?_ ?_
 .rintro i d a hd ⟨b,v6,c,rfl⟩
  let(hi,rfl):=vU hd;rw[eL]at hi;obtain⟨q,H⟩:∃q,á Í=Â q:=ϓa (Í[i])
  let(F,J):=Ϫq H;let(e1,n,E,j):=bX F;rw[C5 H,uP Á,uP Á];let x:∀f:å,ixN (Ã (aG<|ϲe f)) (ä ϱt)=Â ϱt:=λf=>cW (Ζ d7 wc<|J _ E);let I:∀f:å,ixN (Ã (aG<|ϲe f)) (ä ϸG)=Â ϸG:=λf=>cW (Ζ d7 wc<|J _ j);let t:=F9 (f:=λv=>ϲq (S4 Í) v+l5 ϱF i)<|J _ E;let G:=F9 (f:=λv=>(ϲq (S4 Í) v+l5 ϱF i)+Ë (v=ϱt) Ϥl 0)<|J _ j;let S:=UR ts.À (λv=>ϲq (S4 Í) v+l5 ϱF i) ϱt Ϥl;let w:=NK ts.À (λv=>(ϲq (S4 Í) v+l5 ϱF i)+Ë (v=ϱt) Ϥl 0) ϸG ϭs;let e:(λv=>ϲq (S4 Í) v+l5 ϱF i+(Ë (v=ϱt) Ϥl 0)-Ë (v=ϸG) ϭs 0)=λv=>ϲq (S4 Í) v+l5 ϱF (i+1):=funext λv=>Ϲ (ϸg (l5 ϱF (i+1)) (l5 ϱF i+ϱF i)) (Vp H)
  simp![e1,n,BG,Aa (x _) t,S,Aa (I _) G,w,e];show(_,_,_,rfl)
 ext ρ' rfl ⟨b,v6,c,rfl⟩;rw[we,eL];simp![S5];rfl
def bsF(ts:À Nd)(s:À Int):Nat->À Int|0=>s|m+1=>Ϫ (ϰ s m) (Ĩ<|ĵ-m).toNat<|ϑd (ϰ s m) (Ĩ<|ĵ-m).toNat (ĵ-m)
def bsF'{ts s m}:ϰ s (m+1)=(Ϫ (ϰ s m) (Ĩ<|ĵ-m).toNat<|ϑd (ϰ s m) (Ĩ<|ĵ-m).toNat (ĵ-m)):=rfl
def Bx(ts:À Nd)(s:À Int):∀m,Ã (ϰ s m)=s.À:=by
 induction _ with|zero=>show rfl|succ m N3=>rw[bsF',K8z,N3]
def KO{s:À Int}{j:Nat}(h:j<s.À):ę (aG s)=some (Ñ<|ϺH j):=by erw[aG,I4];rw[N2,N2,ϱi];rfl
abbrev pK(ts:À Nd)(l r g:À Int):À Int:=ϰ (ϲe ϴI) ĵ
def LA(ts:À Nd)(l r g:À Int):İ (Ã ϶3):=Ĥ Bx wc
def yC(ts:À Nd)(l r g:À Int)(he:ĕ)(H:Č 0)(i:é)(o:Ϸn (Ã Í))(R:r.À=Ã Í)(G:İ g.À):
  fN [Ï è,ϳs]=ģ (aG ϶3):=by
 erw[fN,lT];let np:=Ar ts l r g he H i o R G;let p:=λ(ρ:L3.Env)(b:(F4 cO (eB ba<|ae (aa 0) ai)<|eC<|.int 1) ρ=.ok (.sh<|.int<|(ts.À:Int)-1))=>Pb (fa:=ϳA (ħ<|È 0 ai)<|Ç 1) (fb:=Ç 0) (fc:=ġ<|Ç 1) (ρ:=ρ) (x:=Ì ts.À-1) (y:=0) (z:=-1) b rfl rfl rfl (Ŕ Á) (Ŕ Ý);let q:=p [â è,Ĕ ϳs,Ň<|aG<|ϲe ϴI,none] ϑR;simp![np,q];generalize L:Ŗ=r';show ϳ2 (λm ρ=>∃C:Ü OD,ρ=[â è,Ĕ ϳs,Ň<|aG<|ϰ (ϲe ϴI) m,C]) ζ
 .rintro m d ρ hd ⟨C,rfl⟩
  let(M,rfl):=uY hd;obtain⟨k,f⟩:∃k:Nat,k=ĵ-m:=ζ;let K:Ć:=Á
  let a:Ì ts.À-1-ϴ0=ë:=Á
  rw[a];obtain⟨n,h⟩:ϰ5 ϸJ:=⟨ts[k],Ϯ K⟩
  let E:=he k n h;obtain⟨j,J⟩:∃j:Nat,n.e=Ĵ:=⟨n.ģ,Ĳ (E.2.1 Á)⟩
  let c:j<k:=Ĳ E.2.2
  let g3:=fZ h;rw[J]at g3;let bl:İ (Ã (ϰ (ϲe ϴI) m)):=Ĥ Bx wc
  let I:ϔV (ϰ (ϲe ϴI) m) ((Ì (j:Nat)))=ϱ7:=cW (Ϲ d7 bl);let gt:=KO (s:=ϰ (ϲe ϴI) m) (j:=j) Á;let A:=d9 (pl:=ϰ (ϲe ϴI) m) (k:=k) Á;let e:ϰ (ϲe ϴI) (m+1)=(ϰ (ϲe ϴI) m).set j (I4 (ϰ (ϲe ϴI) m) j+I4 (ϰ (ϲe ϴI) m) k):=by rw[bsF',<-f,ϴx,J,K9n]
  simp![g3,aW,A,BG,Aa I gt,nL];rw[e];show(_,rfl)
 ext ρ' rfl ⟨C,rfl⟩;rw[zG,ê (ĩ (Ì ts.À-1-0)=ĵ)];simp![S5]
def wI(X:À Int):À Int:=Ā ϫT λp=>ϏA (p+1)
def cR(ts:À Nd)(s:À Int):À (À Int):=Ā ts.À λk=>wI<|Ê (Å k) ϺH
def Ho(D:À (À Int)):À OD:=D.Ç λX=>ϲw<|aG X
def D7(D:À (À Int)):Ê (Ho D) OD.er=Ϭj:=by erw[Ho];rw[S1];show K8u λX _=>by change ϹS _=_;rw[md,aW];rfl
def fu{ts:À Nd}{q k:Nat}(h:k∈Å q):Ć:=by erw[F5]at h;show Ϸz (ώs).1
def uU(ts:À Nd)(q:Nat):ϱ1 (Ã (Å q)):=HU ts ts.À q
def zw(X:À Int)(a:ϲx X.À):i7 [Ï όH]=ģ (aG<|wI X):=by
 erw[i7,lG];let S:Κ 1:=Ŕ Ý;let s:Κ ((Ì X.À)):=Ŕ Á;simp![S,s,K7m];generalize w:Į=rc
 let e:=aS w (ϳj<|1+ë) (λk=>Ñ<|ϏA (k+1)) (ϱR ϫT) (ϣ<|ê (ĩ (Ì X.À-1)=ϫT)) (Ô Z7<|K94<|aF Á) (by
  ext k h;let h:=K9G.mp h;rw[ê (Ì 1+ë=ä (k+1))];let c1:ϲd όH (Â<|(ä (k+1))) none=ß X.ä (k+1) int:=Ĥ (i8 _ _ (Ă K0)) Zbt
  let L:ϲd όH none (Â<|(ä (k+1)))=ß X.Ö (k+1) int:=Ĥ qX K7n
  simp![c1,L,aI,lh])
 subst e;simp![S5];erw[wI,aG];rw[S1,S1];rfl
def T6(ts:À Nd)(s:À Int)(k:Nat):Ϩo (Ê (Å k) λc=>Đ<|Ä<|ϺH c) (Ê (Å k) ϺH):=Ζ S1 S1 (K8u λp _=>ϰn)
def J5(ts:À Nd)(l r g:À Int)(he:ĕ)(d:Č 0)(a:é)(L:Ϸn (Ã Í))(R:r.À=Ã Í)(m:İ g.À):
  qP [Ï è,ϳs]=ģ (Ho<|ϱ3 ϶3):=by
 erw[qP,z7];let b:=yC ts l r g he d a L R m;let s:=LA ts l r g;let f:Κ ((Ì ts.À)):=Ŕ Á;simp![b,aW,aH,f];generalize ϶3=S at s;generalize w:Į=rc
 let e:=aS w (ϳj<|0+ë) (λk=>϶J<|wI<|Ê (Å k)<|I4 S) ϳS (ϣ K9n) (Ô Z7<|K94<|aF Á) (by
  ext k H;let H:=ϹQ;let cl:=uU ts k;rw[K8R];simp![eA ts k H a,iP];generalize h:Į=rc2
  let E:=aS h (λc:Nat=>int ϥ8) (λc=>Ñ<|I4 S c) (Å k) Ϯk (K94<|aF Á) (by
   ext c C;let A:=d9 (pl:=S) (k:=c) (by rw[s];show fu C)
   simp![A])
  subst E;let q:=zw (Ê (Å k)<|I4 S) (Ă K0)
  simp![T6,q])
 subst e;simp![S5];erw[Ho,cR];rw[S1];rfl
def Az(ts:À Nd)(s:À Int):İ (Ã (ϱ3 s)):=χ cR K0 Z7
def VE(ts:À Nd)(j:Nat)(h:ϰf):iW [Ï è,Ä j]=.ok (Ñ<|(ä (j+1+Ã ϲA))):=by
 erw[iW,oM];simp![S5];generalize l:Ϩ9=r;apply sP l (λm b=>∃i:Nat,m=ϲN ϦH/\ϱ1 ϦH/\b=[â è,Ĕ<|Ä j,some<|Ñ<|(ä ϦH)]/\∀k,k<i->∀n,Ϸ1[k]?=ϵL->inB j n=true) (ϲN<|j+1) ⟨0,rfl,Á,by rfl,λk f=>Á⟩
  (λb=>b=[â è,Ĕ<|Ä j,some<|Ñ<|(ä (j+1+Ã ϲA))]) ?_ ?_
 .rintro m b ⟨i,rfl,hi,rfl,ha⟩
  let fin:(∀x,Ϸ1[i]?=Ď->Ł (inB j x))->Ã ϲA=i:=λH=>ϳr (rg _ _ i ha H (Ă K8y)) K9f K8y
  cases c:ä ϦH<Ì ts.À
  .obtain⟨n,N⟩:ϰ5 (ts[ϦH]?):=⟨ts[ϦH]' Á,Û⟩
   let d:Ϸ1[i]?=ϵL:=by rw[K84];show N
   let g1:=fZ N;cases a:Ĵ<=n.e
   .right
    constructor
    .simp![aH,Z8 c,g1,Z8 a]
    simp![S5];show(_,?_,i+1,rfl,Á,?_,λk f x H=>?_)
    .lia
    .let e:ä ϦH+1=ä (j+1+(i+1)):=Á
     rw[e]
    cases K:k<i
    .show ha k K x H
    let:k=i:=Á
    subst this;rw[d]at H;cases H;show Z8 a
   left;constructor
   .simp![aH,Z8 c,g1,K9q a]
   rw[fin λx H=>by rw[d]at H;cases H;show K9q a]
  left;constructor
  .simp![aH,K9q c]
  .rw[fin λx H=>by
    let:=ϹB;rw[K8y]at this
    lia]
 ext ρ' rfl rfl;simp![S5]
def En(ts:À Nd)(j:Nat)(h:ϰf)(e:é):iy [Ï è,Ä j]=.ok (Ę<|ak ϳu):=by
 erw[iy,rC];obtain⟨r,hr⟩:ϰ5 (ę ts):=⟨ts[j]' Á,Û⟩
 let g1:=fZ hr;let c1:=DL è j (Ϲu aH);let e1:=VE ts j h;let w:Ã ϲA<=ϲN (j+1):=ϱC (όz (l:=Ϸ1)).length_le K8y
 let E:Ĵ+1=ä (j+1):=Á
 let u:=Ϛq è (j+1) (j+1+Ã ϲA) (Ă aH);let c:ł (τ è<|j+1) (j+1+Ã ϲA-(j+1))=ak ϲA:=by
  erw[ak];rw[<-Zbt,<-K7n,Nat.add_sub_cancel_left];congr 1;let p:=όz (l:=Ϸ1);show(List.prefix_iff_eq_take.mp p).symm
 rw[c]at u;simp![c1,g1,e1,E,u,aI];generalize L:Ŗ=r';show ϳ2 (λi a=>∃C:Ü OD,a=[â è,Ĕ<|Ä j,some<|Ę<|ak<|ϧz::Ê (ł ϲA i) Ϧn,C]) ζ
 .rintro i d a hd ⟨C,rfl⟩
  erw[ak]at hd;rw[N2]at hd;let(n,H,rfl):=ϹV;let hi:=ϹB;let b:ϱK (Ã (ak<|ϧz::Ê (ł ϲA i) Ϧn)):=Ô aH (c8 ϳc)
  let t1:ß ak (ϧz::Ê (ł ϲA i) Ϧn) OD.sh++[Đ<|Ą [Ä<|n.e-j,Ė n.l,Ä n.t]]=ß ak (ϧz::(ł ϲA<|i+1).map Ϧn) OD.sh:=by rw[Zck,H];erw[ak];simp[p7,ndD]
  simp![ndD,b,t1];show(_,rfl)
 ext ρ' rfl ⟨C,rfl⟩;simp![S5];erw[cx];rw[hr,aH,K90 ì]
def rc(n:Nd):Int:=Ì n.ç / 2
def shp(ts:À Nd):À ϰi:=ts.Ç λn=>(n.e,rc n)
def esI(ts:À Nd):À Int:=ts.Ç (·.e)
def rsI(ts:À Nd):À Int:=ts.Ç rc
def vG:∀a b:À Int,PyData.eqvAll όF όG=Õ (a=b):=by
 induction _ with
  |nil=>
   ext x18
   cases x18 with
    |nil=>
     rw[Ϥx];rfl
    |cons y b=>
     rw[K9q ϳU];rfl
  |cons x a ih=>
   ext x19
   cases x19 with
    |nil=>
     rw[K9q ϳU];rfl
    |cons y b=>
     rw[K9w,K9w,PyData.eqvAll,ih b,PyData.eqv];cases h:x=y
     .by_cases H:a=b
      .simp[h,H]
      .simp[h,H]
     .simp[h]
def Jz(a b:À Nd):Õ (Ϻe esI/\Ϻe rsI)=Õ (Ϻe shp):=by
 let:(Ϻe esI/\Ϻe rsI)↔Ϻe shp:=by
  let e1:∀ts,esI ts=ß shp ts ϔ:=ϗ1 esI
  let g:∀ts,rsI ts=ß shp ts Ž:=ϗ1 rsI
  constructor
  .rintro⟨h1,h2⟩
   let z:∀ts,shp ts=(esI ts).zip (rsI ts):=λts=>by erw[shp,esI,rsI];rw[List.zip_map']
   rw[z,z,h1,h2]
  ext h;show(by rw[e1,e1,h],by rw[g,g,h])
 simp only[this]
def rm(ts:À Nd):Gc:=Ą [Ï<|ß esI ts int,Ï<|ß rsI ts int]
def C6(ts:À Nd):lay 2 (rm ts):=Ji λx h=>by
 simp only[K8v,K8P,or_false]at h;rcases h with rfl|rfl
 .show Ϻc _
 show Ϻc _
def PJ(a b:À Nd):gEq (rm a) (rm b)=þ (ã<|Õ<|Ϻe shp):=by
 erw[gEq];let e:ϗt (rm a) (rm b):=rfl;rw[e];erw[k7];rw[cG (C6 a) Ý,cG (C6 b) Ý,K7m,Ĝ];let:Ϭx (rm a) (rm b)=Õ (Ϻe shp):=by erw[rm];rw[PyData.eqv,PyData.eqvAll,PyData.eqvAll,PyData.eqvAll,PyData.eqv,PyData.eqv,vG,vG,Zfi,<-Jz];simp
 rw[this];rfl
def Cz(ts:À Nd)(h:Ź)(a:é):hX [Ï è]=þ (rm ts):=by
 let R:bT [Ï è]=.ok (Ę<|ß rsI ts int):=by
  erw[bT,oS];simp![S5];generalize l:Į=r
  let e:=aS l ndD (λn:Nd=>Ñ<|Ì n.ç / 2) ts rfl (K94<|aF Á) (by
   ext n H;let:=ϕ7 (h n H)
   simp![ndD,this])
  subst e;simp![S5];erw[rsI];rw[S1,S1];rfl
 erw[hX,uA];simp![S5];generalize l:Į=r;let e:=aS l ndD (λn:Nd=>Ñ n.e) ts rfl (K94<|aF Á) (by ext n H;simp![ndD]);subst e;let g:ß ts.Ç (λn:Nd=>Đ<|Ä n.e) OD.er=ß esI ts int:=ϪQ esI (λn _=>ϰn)
 simp![g,R,aI];rfl
def O9(ts:À Nd)(h:Ź)(a:é)(i j:Nat)(hi:ϫO)(J:ϰf)(d:F)(p:PT ϳu d):
  fE [Ï è,Ä i,Ä j]=þ (Ą [ã<|Õ<|shp (ϭc i)=shp ϳu,ã<|Õ<|shp (ϭc i)=shp (aR ϳu d)]):=by
 erw[fE,rT];let b1:=AM hi;let B:=AM J;let g:=Cz (ϭc i) (wq h i) Á;let f:=Cz ϳu (wq h j) Á;let b:=Cz (aR ϳu d) (Bo p<|wq h j) (Ă ϵY);let m:=CZ ϳu d p Á;simp![En ts i hi a,En ts j J a,aI,g,f,m,b,PJ]
def lS:F->Int->Nat->À ϬD|F.nil,_,_=>[]|F.cons k c r,p,n=>(p,k)::(lS c Ŵ (n+1)++lS r p (n+1+Ã Φ))
def lS''{w0 w1}:lS (F.nil) w0 w1=[]:=rfl
def lS'{k c r p n}:lS ϑX p n=((p,k)::(lS c Ŵ (n+1)++lS r p (n+1+Ã Φ))):=rfl
def Mp:∀(f:F)(p:Int)(n:Nat)(x:ϬD),x∈ϬZ->x.1=p\/Ŵ<=x.1:=by
 induction _ with
 |nil=>ext _ _ x h;cases h
 |cons k c r Sc Re=>
  ext p n x h;rw[lS']at h;rcases K8v.mp h with rfl|h
  .show Ð rfl
  rcases K9Y.mp h with h|h
  .rcases Sc _ _ x h with z|z
   .show Ø Á
   show Ø Á
  rcases Re _ _ x h with z|z
  .show Ð z
  show Ø Á
def DN:∀(f:F)(p:Int)(n:Nat)(x:ϬD),(ϬZ).head?=Ď->x.1=p:=by
 induction _ with
 |nil=>ext _ _ x h;cases h
 |cons k c r Sc Re=>ext p n x h;rw[lS',List.head?_cons]at h;cases h;rfl
def EJ(Q:Ú α):∀{A c B b:À α},(∀x∈A,Q x)->(∀x∈c,Q x)->(∀x,B.head?=Ď->¬Q x)->(∀x,b.head?=Ď->¬Q x)->A++B=c++b->A=c/\B=b:=by
 induction _ with
  |nil=>
   ext x3 B b _ h2 h3 _ h
   cases x3 with
    |nil=>
     exact ⟨rfl,h⟩
    |cons a' c=>
     let h:B=a'::(c++b):=h;show ĭ (h2 a' K9z) (h3 a'<|by rw[h];rfl)
  |cons a A ih=>
   ext x6 B b h1 h2 h3 h4 h
   cases x6 with
    |nil=>
     let h:a::(A++B)=b:=h;show ĭ (h1 a K9z) (h4 a<|by rw[<-h];rfl)
    |cons a' c=>
     rw[K92,K92]at h;let(e1,g):=K8B h;let(G,E):=ih (λx H=>h1 x<|ě H) (λx H=>h2 x<|ě H) h3 h4 g;show(Ĥ e1 G,E)
theorem sN:∀(f g:F)(p:Int)(n:Nat),p<Ŵ->ϬZ=lS g p n->f=g
 |F.nil,F.nil,_,_,_,_=>rfl
 |F.nil,F.cons _ _ _,_,_,_,h=>ϗJ
 |F.cons _ _ _,F.nil,_,_,_,h=>ϗJ
 |F.cons k c r,F.cons k' c' r',p,n,hp,h=>by
  rw[lS',lS']at h;let(e1,e):=K8B h;let E:k=k':=Uf Prod.snd e1;let(A,a):=EJ (λx:ϬD=>Ŵ<=x.1)
   (ϗu<|Mp c _ _ x H) (ϗu<|Mp c' _ _ x H)
   (λx H=>Ĳ (DN r _ _ x H)) (λx H=>Ĳ (DN r' _ _ x H)) e
  let Y:=sN c c' _ _ Á A;subst Y;let er:=sN r r' _ _ Á a;rw[E,er]
def wG(h:ņ)(f:F):Ã (ϝ<|F.map h f)=Ã ν:=Ĥ F.vq K0
def Qs(h:ņ):∀(f:F)(p:Int)(n:Nat),lS (F.map h f) p n=Ê ϬZ λx=>(x.1,h x.2):=by
 induction _ with|nil=>ext _ _;show rfl|cons k c r Sc Re=>ext p n;rw[F.map,lS',lS',K9w,K9i,Sc,Re,wG]
def rN(ts:À Nd)(k:Nat):Nat:=(ĩ (Ļ k))
def RX{ts:À Nd}{k:Nat}:ä (Ϻf k)=Ļ k:=by
 erw[rN];let:0<=Ļ k:=by
  erw[gv,ay];rw[N2];cases ts[k]? with|none=>show ϺB|some n=>show Int.ediv_nonneg Á Ý
 lia
def GH{ch:Nat->Ò}:ϲy (ϳJ ch f->ϳJ (λk=>(Ϩ (ch k))) (F.mir f)):=by
 induction _ with|nil=>ext _;show trivial|cons k c r Sc Re=>ext⟨h1,h2,h3⟩;rw[F.mir'];show(F.xF _ _).mpr ⟨Re h3,by rw[F.nN,<-h1],Sc h2,trivial⟩
def map_two{h g k:ņ}:ϲy ((∀q∈ν,h (g q)=k q)->F.map h (ϳF g f)=F.map k f):=by
 induction _ with|nil=>ext _;show rfl|cons q c r Sc Re=>ext e;rw[F.map,F.map,F.map,e q (ϳk F.pre),Sc ϖR,Re ϖR]
def p9{f:F}{k:Nat}(h:k∈ϝ (F.mir f)):k∈ν:=by rw[F.uJ]at h;show(F.oh f).mem_iff.mp h
def NP(h:lay n (Ï ϵP))(H:n<=64):gNe (Ï ϵP) (Ï [])=þ (ã true):=by
 erw[gNe];rw[n_];erw[k7];rw[cG h H,ύ (Ϻ4 (Ï [])) (cG (Ϻc []) Ý),K7m,Ĝ];let:Ϭx (Ï ϵP) (Ï [])=false:=by erw[PyData.eqv,PyData.eqvAll];rfl
 rw[this];rfl
def Uw(ts:À Nd)(f:F):À ϰi:=Ê (lS f (-1) 0) λx=>(x.1,Ļ x.2)
section
variable{Fm:Type}[DecidableEq Fm](fo:Nat->Fm)(rv:Fm->Fm)(R:Nat->À Int)
def gI(l:À Int)(p:Nat):Int:=Ó (l[p]?) 0
def tot(W:Ò)(j p:Nat):Int:=(W.Ç λk=>(Ë ϔQ (Ϭ0 p) 0)+(Ë ϑY (gI (Ϩ (R k)) p) 0)).sum
def rel(k j:Nat):Bool:=Õ ϔQ||Õ ϑY
def calm(W:Ò)(j:Nat):Prop:=∀p,p<Ã (R j)->϶5 W j p=0
def sum_filter(L:À α)(f:ϴy α)(q:ϱP α)(h:∀x∈L,Ł (q x)->f x=0):(ß L.Û q f).sum=(L.Ç f).sum:=by
 induction L with
 |nil=>rfl
 |cons a r i=>
  let i:=i λx H=>h x<|ě H;cases e:q a with|true=>rw[Zbm e,K9w,K9w,Zap,Zap,i]|false=>rw[Zbb (ϻq K9o),K9w,Zap,h a K9z e,i,K8R]
variable{fo rv R}
def bG{k j:Nat}:ϱJ k j=true↔ϔQ\/ϑY:=by erw[rel];rw[Bool.or_eq_true,K9k,K9k]
def lA(j:Nat):ϱJ j j=true:=bG.ó<|Ð rfl
def rel_trans(hr:ϯj){a b c:Nat}(h:ϱJ a b=true)(H:ϱJ b c=true):ϱJ a c=true:=by
 rw[bG]at h H⊢;rcases h with h|h<;>rcases H with H|H
 .show Ð<|h.Å H
 .show Ø<|h.Å H
 .show Ø<|h.Å<|Uf rv H
 show Ð<|h.Å ?_;rw[H,hr]
def lx(hr:ϯj){a b:Nat}(h:ϱJ a b=true):ϱJ b a=true:=by
 rw[bG]at h⊢;rcases h with h|h
 .show Ð h.Ï
 show Ø ?_;rw[h,hr]
def An{W:Ò}{j p:Nat}(q:ύI)(h:∀k∈W,ϱJ k j=true->q k=true):϶5 (W.Û q) j p=϶5 W j p:=by
 erw[tot];show sum_filter _ _ _ λk H e=>?_;let n:¬ϱJ k j=true:=λz=>by rw[h k H z]at e;cases e
 rw[bG,not_or]at n;rw[P3 n.1,P3 n.2];rfl
def MK(hr:ϯj)(l:∀a b,ϱJ a b=true->Ã (R a)=Ã (R b)){W:Ò}{g j:Nat}(h:ϱJ j g=true)(C:όc W g):όc W j:=by
 ext p P;rw[l j g h]at P;rw[bG]at h;rcases h with h|h
 .let e:϶5 W j p=϶5 W g p:=by erw[tot];rw[h]
  rw[e];show C p P
 let e:϶5 W j p=϶5 W g (Ã (R g)-1-p):=by
  erw[tot];show ϐK<|K8u λk K=>?_;rw[h,hr];cases c:fo k=rv (fo g)
  .let L:=l k g<|bG.ó<|Ø c
   let e1:Ϭ0 p=gI (Ϩ (R k)) (Ã (R g)-1-p):=by
    erw[gI];rw[Zaw Á]
    congr 2
    lia
   cases H:fo k=fo g
   .let E:gI (Ϩ (R k)) p=Ϭ0 (Ã (R g)-1-p):=by
     erw[gI];rw[Zaw Á]
     congr 2
     lia
    rw[Os c,ϱU,ϱU,Os c,e1,E];lia
   rw[Os c,ϲc,ϲc,Os c,e1];lia
  cases H:fo k=fo g
  .let L:=l k g<|bG.ó<|Ð H
   let E:gI (Ϩ (R k)) p=Ϭ0 (Ã (R g)-1-p):=by
    erw[gI];rw[Zaw Á]
    congr 2
    lia
   rw[P3 c,ϱU,ϱU,P3 c,E];lia
  rw[P3 c,ϲc,ϲc,P3 c]
 rw[e];show C _ Á
inductive Calm(fo:Nat->Fm)(rv:Fm->Fm)(R:Nat->À Int):Ú Ò
 |nil:όd []
 |cons {w:Nat} {W:Ò}:όc (Δ λk=>ϱJ k w) w->όd (Δ λk=>! ϱJ k w)->όd ϸH
def K4(hr:ϯj)(l:∀a b,ϱJ a b=true->Ã (R a)=Ã (R b)):∀(m:Nat)(W:Ò),W.À<=m->(όd W↔∀j∈W,όc W j):=by
 ext m
 induction m with
 |zero=>
  ext W h;let:W=[]:=Zas Á;subst this;show(ϘU,Ţ õ)
 |succ m ih=>
  ext W h;cases W with
  |nil=>show(ϘU,Ţ õ)
  |cons w W=>
   let B:Ã (Δ λk=>! ϱJ k w)<=m:=by
    rw[Zbb<|Ô lA K9o];let:=K8i (λk=>! ϱJ k w) W;rw[K9p]at h;lia
   let i:=ϲ2 B;let tA:∀{j:Nat},ϱJ j w=true->∀p,϶5 (Δ λk=>ϱJ k w) j p=϶5 ϸH j p:=fun{j} J p=>An _ λk _ K=>rel_trans hr K J;let tB:∀{j:Nat},Ł (ϱJ j w)->∀p,϶5 (Δ λk=>! ϱJ k w) j p=϶5 ϸH j p:=fun{j} J p=>An _ λk _ K=>by
    cases e:rel fo rv k w with|false=>rfl|true=>rw[rel_trans hr (lx hr K) e]at J;cases J
   constructor
   .intro C j J
    cases C with
    |cons h1 h2=>
     cases e:rel fo rv j w with|true=>ext p H;rw[<-tA e];show MK hr l e h1 p H|false=>ext p H;rw[<-tB e];show i.mp h2 j (ϳz ⟨J,ϒQ⟩) p H
   ext J;show ą (λp H=>?_)<|i.ó λj c p H=>?_
   .rw[tA<|lA w]
    show J w K9z p H
   let(M,Q):=K89.mp c;rw[tB<|ť Q];show J j M p H
end
theorem IE{e:å}(f:F):∀(a m:Nat)(P p:Int)(n:Nat),ν=ϯq->F.Eld e P f->P<ϑ->
  ϬZ=Ê ν λk=>((if e k=P then p else Ŵ+(e k-ϑ)),k):=by
 induction f with
 |nil=>ext a m P p n _ _ _;rfl
 |cons k c r ihc ihr=>
  ext a m P p n b he d;let(e1,g,G):=he;let R:k::(Φ++Ϲ9)=ϯq:=b;cases m with
  |zero=>cases R
  |succ m=>
   rw[Zco]at R;let(K,h):=K8B R;subst K;let l:Ã Φ+Ã Ϲ9=m:=ϮB (Ż h) K9v K93
   let S:ϥq (k+1) m=ϥq (k+1) ((Ã Φ))++ϥq (k+1+Ã Φ) ((Ã Ϲ9)):=by rw[<-l];let:=List.range'_append (s:=k+1) (m:=(Ã Φ)) (n:=(Ã Ϲ9)) (step:=1);rw[Nat.one_mul]at this;show this.Ï
   rw[S]at h;let(C,hr):=Zer h (ϰT K93);let i:=ihc (k+1) _ ë Ŵ (n+1) C g Á;let I:=ihr (k+1+Ã Φ) _ P p (n+1+Ã Φ) hr G Á;change(p,k)::(lS c Ŵ (n+1)++lS r p (n+1+Ã Φ))=_;rw[i,I,ϸg (ϝ ϑX) (k::(Φ++Ϲ9)),K9w,K9i,e1,Ĝ]
   congr 2
   .apply K8u ϨQ
    let ge:=F.Bs c ë g (λx X=>by
     rw[C]at X;let:=List.mem_range'.mp X
     lia) q H
    rw[P3<|ê (¬e q=P)];cases Z:e q=ë
    .rw[Os Z,Z]
     congr 1
     lia
    rw[P3 Z]
    congr 1
    lia
   show K8u ϨQ;cases Z:e q=P
   .rw[Os Z,Os Z]
   rw[P3 Z,P3 Z]
   congr 1
   lia
noncomputable instance decF:DecidableEq F:=λa b=>Classical.propDecidable<|a=b
namespace F
def BY(h:ņ)(f:F):mir (ϴd f)=ϴd Ϲ0:=by
 induction f with
 |nil=>rfl
 |cons k c r ihc ihr=>
  change app (mir<|ϴd r) (cons (h k) (mir<|ϴd c) nil)=ϴd Ϗz;rw[C9,ihc,ihr];rfl
end F
def B2(f:F):À ϰi:=Ê (lS f (-1) 0) λx=>(x.1,Ì x.2)
def UW(ts:À Nd)(f:F):Uw ts f=B2 (ϱY f):=by
 erw[Uw,B2];rw[Qs,S1];show ϻ5 ?_;change(x.1,Ļ x.2)=(x.1,ä (Ϻf x.2))
 rw[RX]
def Np{f g:F}(h:B2 f=B2 g):f=g:=by
 show sN f g (-1) 0 Ý ?_;let H:=Ϲq (λx:ϰi=>(x.1,ĩ x.2)) h;erw[B2]at H;rw[S1,S1]at H;let e:((λx:ϰi=>(x.1,ĩ x.2))∘λx:ϬD=>(x.1,Ì x.2))=id:=by
  funext x;rfl
 rw[e,Zdu,Zdu]at H;show H
def Df(f g:F):Õ (B2 f=B2 g)=Õ (f=g):=by
 cases h:f=g
 .rw[Z8 h,Z8 ύF]
 rw[ϷD,ϧ7 Np]
def yH{s:À Nd}{d:F}(p:PT s d):shp s=B2 (ϳF (rN s) ϨF):=by
 rw[<-UW];erw[Uw];rw[IE (e:=Z4 s) ϨF 0 s.À (-1) (-1) 0 (Ĥ p.ğ K7s) p.eldF Ý,p.preF,S1];erw[shp];apply K9K;ext i;rw[N2,N2];cases hi:i<s.À
 .obtain⟨n,h⟩:ϰ5 ϵT:=ϓa (s[i])
  rw[h,ϴj,Zbe,Zbe];let e1:Z4 s i=n.e:=ϴx;let g:gv (ay s) i=rc n:=ϗT
  change Â (n.e,rc n)=Â ((Ë (Z4 s i=-1) (-1:Int)<|ä 0+(Z4 s i-ä 0)),gv (ay s) i);rw[e1,g];congr 2
  split<;>lia
 rw[K9c Á,K9c<|Ă Z7];rfl
def B1{s:À Nd}{d:F}(p:PT s d){k:Nat}(h:k<s.À):rN (aR s d) (F.g d k)=rN s k:=by
 let H:=p.at_g h;let a:(aR s d)[F.g d k]?=Â ⟨F.gi d (cw s k).e,(cw s k).l,(cw s k).t⟩:=ϘQ
 erw[rN,gv,ay];rw[N2,N2,a,yR h];rfl
def J7{s:À Nd}{d:F}(p:PT s d):shp (aR s d)=B2 (ϵZ<|ϳF (rN s) ϨF):=by rw[yH ϶O,F.xX,F.BY,map_two (k:=rN s)];ext q h;let h:=p9 h;rw[p.preF,K9G]at h;show B1 p h
structure NF(ts:À Nd)(a:Nat)(f:F):Prop where
 ch:Å a=ϸh
 con:ϳJ Å f
 lt:∀k∈ν,Ć
 len:ϱ1 (Ã ν)
 bough:∃d,PT (ϭc a) d/\ϳF (rN<|ϭc a) ϨF=ϱY (ϔE f F.nil)
def Ra{ts:À Nd}{c:F}(p:ç){j:Nat}(J:ϰf):∃f,NF ts j f:=by
 obtain⟨r,hr⟩:ϰ5 (ę ts):=⟨ts[j]' Á,Û⟩
 let(C,s,b,d,t,g,u,v):=F.xI (e:=Ĩ) ϥA 0 ts.À (-1) (Ĥ p.ğ K7s) p.eldF p.con Ý j Á Á;rw[K87]at t g;let ge:=F.Bs C Ĵ d (λk m=>by rw[b,Zbi]at m;lia);let at1:∀k,Ϸ1[k]?=ts[Ϥz]?:=λk=>K84
 let a:Ã ϲA=s:=Ga _ _ s (Ă K8y) (λk K x H=>by
  rw[at1]at H;let:=ge Ϥz (by rw[b,Zbi];lia)
  rw[bL H]at this;show Z8 this) (λx H=>by
  rw[at1]at H;let L:=ϹB;let:=g L;rw[bL H]at this;show K9q Á)
 let B:ϳu=ϧz::(ϲA).map Ϧn:=ű cx hr
 let bl:Ã ϳu=s+1:=by rw[B,K9p,K0,a]
 let tk:ϲA=ł Ϸ1 s:=by let:=όz (l:=Ϸ1);rw[List.prefix_iff_eq_take.mp this,a]
 let row:∀k,k<s->∀x,ts[Ϥz]?=Ď->ϳu[k+1]?=Â (Ϧn x):=λk K x H=>by rw[B,tk,Zbs,N2,K97 K,at1,H];rfl
 let E:∀k,k<s->Z4 ϳu (k+1)=Ĩ Ϥz-j:=λk K=>by
  obtain⟨x,H⟩:ϰ5 (ts[Ϥz]?):=⟨ts[Ϥz]' Á,Û⟩
  rw[bL H,bL<|row k K x H];rfl
 let P:PT ϳu (ϳF ϩ5 C):=by
  show(?_,?_,?_)
  .rw[F.vq,b,bl,K7s,Zco]
   congr 1
   apply K9K;ext i;rw[N2];cases hi:i<s
   .rw[Zey hi,Zey hi]
    simp;lia
   rw[K9c (Ă K93),K9c<|Ă K93];rfl
  .rw[B]
   rfl
  let:=F.EE (e:=Ĩ) (e':=Z4 ϳu) (h:=ϩ5) (hi:=λz=>z-j) Ĵ C (λk m=>by
   rw[b,Zbi]at m;show(?_,Á);let:=E (k-j-1) Á;rw[ê (ϑi (k-j)),ê (j+1+(k-j-1)=k)]at this
   show this) d
  rw[Int.sub_self]at this;show this
 show(C,v,u,λk K=>?_,?_,_,P,?_)
 .rw[b,Zbi]at K
  lia
 .rw[b,K93]
  lia
 let o:F.full (ϳF ϩ5 C)=ϳF ϩ5 (F.cons j C F.nil):=by
  change ϻM 0 (ϳF ϩ5 C)=ϻM (j-j) (ϳF ϩ5 C);rw[K8c]
 rw[o];show map_two (k:=Ϻf) _ ϸi;let Q:q=j\/q∈F.pre C:=by
  let:q∈j::(F.pre C++ϝ F.nil):=Q;rcases K8v.mp this with h|h
  .show Ð h
  rcases K9Y.mp h with h|h
  .show Ø h
  cases h
 erw[rN,gv,ay];rw[N2,N2];rcases Q with rfl|Q
 .rw[K8c,B,hr]
  rfl
 rw[b,Zbi]at Q;obtain⟨x,H⟩:ϰ5 (ts[q]?):=⟨ts[q]' Á,Û⟩
 let:=row (q-j-1) Á x (Ϩe<|ê (j+1+(q-j-1)=q));rw[ê (ϑi (q-j))]at this;rw[this,H];rfl
def nf(ts:À Nd)(a:Nat):F:=open Classical in ϩl (∃f,NF ts a f) ϬI F.nil
def qR{ts:À Nd}{c:F}(p:ç){a:Nat}(A:ϳh):NF ts a ϶l:=by erw[nf];rw[dif_pos<|Ra p A];show Zab<|Ra p A
def fo(ts:À Nd)(a:Nat):F:=ϱY<|ϔE ϶l F.nil
def R9{ts:À Nd}{c:F}(p:ç)(h:Ź)(a:é){i j:Nat}(hi:ϫO)(J:ϰf):
  fE [Ï è,Ä i,Ä j]=þ (Ą [ã<|Õ<|ϰb i=ϰb j,ã<|Õ<|ϰb i=ϵZ (ϰb j)]):=by
 let(d,pi,s):=(qR p hi).bough;let(D,P,E):=(qR p J).bough;rw[O9 ts h a i j hi J D P,yH pi,yH P,J7 P,s,E,Df,Df];rfl
def FO{ts:À Nd}{c:F}(p:ç){a b:Nat}(A:ϳh)(B:ϵm)(h:ϥo ϰb F.mir):Ã (Å a)=Ã (Å b):=by
 let e1:=(qR p A).ch;let g:=(qR p B).ch;let M:ϲy (Ã (ϲT<|ϱY f)=Ã ϸh):=λf=>Ĥ F.jQ K0
 rcases bG.mp h with h|h
 .let h:ϻM (Ϻf a) (ϱY ϶l)=ϻM (Ϻf b) (ϱY<|nf ts b):=h
  injection h with d H e
  rw[e1,g,<-M ϶l,H,M]
 let h:ϻM (Ϻf a) (ϱY ϶l)=ϻM (Ϻf b) (ϵZ<|ϱY<|nf ts b):=h;injection h with d H e
 rw[e1,g,<-M ϶l,H,F.nN,Zax,M]
def fk(ts:À Nd):Ò:=Α ϳS λk=>Õ<|Ì 1<Ì ((Ã (Å k)))
def cZ{ts:À Nd}{k:Nat}(h:k∈č):Ć:=Ϸz (ώs).1
def wz(ts:À Nd):ϱ1 (Ã č):=ϱC (K8i (λk=>Õ<|Ì 1<Ì ((Ã (Å k)))) ϳS) Z7
def xU(L:Ò):ß L.Ç ((ϰU (Đ<|Ä ë))) OD.er=nD L:=by rw[S1];erw[nD,iL];rw[S1];show Ϥ2
def zE(ts:À Nd)(a:é):kn [Ï è]=ģ (ß fk ts (ϰU (Đ<|Ä ë))):=by
 erw[kn,yO];let s:Κ ((Ì ts.À)):=Ŕ Á;simp![aH,s];generalize w:Į=rc
 let e:=iS w (ϳj<|0+ë) (λk=>Õ<|Ì 1<Ì ((Ã (Å k)))) (ϰU<|Ñ ë) ϳS (ϣ K9n) (Ô Z7<|K94<|aF Á) (by
  ext k h;let c:=eA ts k (K9G.mp h) a;show(?_,Ţ ?_)
  .rw[K8R]
   simp![c,iP,eF]
  rw[K8R]
  simp![S5])
 subst e;simp![S5];rfl
def Pi(ts:À Nd)(a:Nat):ώt:=if ϳh then Â (ϰb a)else none
def Tl(x:ώt):ώt:=x.Ç F.mir
def fL(x:ώt):Tl (Tl x)=x:=by
 cases x with
 |none=>rfl
 |some f=>
  change Â (ϵZ<|F.mir f)=some f;rw[F.HP]
def dQ{ts:À Nd}{a:Nat}(h:ϳh):ü a=Â (ϰb a):=ϰo
def Km{ts:À Nd}{a b:Nat}(A:ϳh)(B:ϵm):Õ (ϰb a=ϰb b)=Õ (ü a=ü b):=by
 rw[dQ A,dQ B];cases h:ϰb a=ϰb b
 .rw[Z8 h,Z8 ύF]
 rw[ϷD,ϧ7 K9R]
def TQ{ts:À Nd}{a b:Nat}(A:ϳh)(B:ϵm):Õ (ϰb a=ϵZ (ϰb b))=Õ (ü a=Tl (ü b)):=by
 rw[dQ A,dQ B];change _=Õ (Â (ϰb a)=Â (ϵZ<|ϰb b));cases h:ϰb a=ϵZ (ϰb b)
 .rw[Z8 h,Z8 ύF]
 rw[ϷD,ϧ7 K9R]
def lkB(ts:À Nd)(w k:Nat):Bool:=Õ<|ü k=ü w
def mrB(ts:À Nd)(w k:Nat):Bool:=Õ<|ü k=Tl (ü w)
def Nf(ts:À Nd)(k w:Nat):ŋ=(ϴR k||ϴS k):=rfl
def memD(ts:À Nd)(w k:Nat):Gc:=Ą [Ä ë,ã<|ϴR k,ã<|ϴS k]
def gsF(ts:À Nd):Nat->Ò->À (Nat×Ò)|0,_=>[]|_+1,[]=>[]|m+1,w::W=>(w,Δ λk=>ŋ)::ŏ m (Δ λk=>! ŋ)
def gsF'{ts m w W}:ŏ (m+1) ϸH=((w,Δ λk=>ŋ)::ŏ m (Δ λk=>! ŋ)):=rfl
def rq(ts:À Nd)(w:Nat)(W:Ò):Ã (Δ λk=>! ŋ)<=W.À:=Ô (Zbb<|Ô lA K9o) ώu
def Og(ts:À Nd):∀(m n:Nat)(V:Ò),όI->V.length<=n->ŏ m V=ŏ n V:=by
 ext m
 induction m with
 |zero=>
  ext n V h H;let:V=[]:=Zas Á;subst this;cases n<;>rfl
 |succ m ih=>
  ext n V h H;cases V with
  |nil=>cases n<;>rfl
  |cons w W=>
   rw[K9p]at h H;obtain⟨N,rfl⟩:∃N,n=N+1:=⟨n-1,Á⟩
   let dl:=ύJ;rw[gsF',gsF',ih N _ Á Á]
def gsD(ts:À Nd)(G:À (Nat×Ò)):À Gc:=G.Ç λx=>Ï<|Ê x.2<|memD ts x.1
def AN(ts:À Nd){c:F}(p:ç)(h:Ź)(l:é):cS [Ï è]=.ok (Ę<|ϹY<|ŏ ((Ã č)) č):=by
 erw[cS,lB];let fl:=wz ts;simp![zE ts l,xU];generalize i:Ϩ9=r;apply sP i (λm a=>∃(V:Ò)(G:À (Nat×Ò))(v:Ü OD),V.length=m/\(∀k∈V,Ć)/\ϱ1 (G.À+V.length)/\G++ŏ V.length V=ŏ ((Ã č)) č/\a=[â è,some<|Ę<|ϹY G,â<|nD V,v])
  (Ã č) ⟨č,[],_,rfl,ϲ1 (cZ H),Ă K8U,rfl,rfl⟩
  (λa=>∃b v:Ü OD,a=[â è,some<|Ę<|ϹY<|ŏ ((Ã č)) č,b,v]) ?_ ?_
 .rintro m a ⟨V,G,v,hm,hV,hG,ho,rfl⟩
  cases V with
  |nil=>
   left;rw[ϸg (ŏ ((Ã ([]:Ò))) []) [],K9d]at ho;subst ho;show(by simp![eF],_,_,rfl)
  |cons w V=>
   right;let W:=hV w K9z;let dl:=rq ts w V;let g:ŏ ((Ã (w::V))) (w::V)=(w,Α (w::V) λk=>ŋ)::ŏ (Α (w::V) λk=>! ŋ).length (Α (w::V) λk=>! ŋ):=by rw[K9p,gsF',Ϝe ì]
   let u:atI (nD<|w::V) (Ì 0)=Â (Ä (w:Int)):=by erw[nD,iL];show ϭh
   let ul:Ã (w::V)=V.length+1:=rfl;rw[ul]at hG hm;generalize w::V=U at hV dl g u ul ho;let D:Õ (Ì 0<Ì U.À)=true:=Z8 Á;show(by simp![eF,D],?_);let B:ϱK (Ã (ϹY G)):=by erw[gsD];rw[K0];show c8 Á
   simp![S5];generalize C:Į=rc
   let e:=aS C (ϳj ë) (ϦA<|϶g k) U Ϯk (K94<|aF Á) (by
    ext k H;let L:=R9 p h l (hV k H) W;rw[Km (hV k H) W,TQ (hV k H) W]at L;let N:(ϵa [int ë])=True:=ϸF Û;let n:∀x y:Gc,(ϵa ϶K)=True:=λx y=>ϸF Û
    simp![u,L,Ta,N,n];rfl)
   subst e;clear C;let E:ß U.Ç (λk=>Đ<|϶g k) OD.er=U.Ç ϶g:=Ô S1 Ϥ2
   simp![E];generalize C:Į=rc
   let e:=iS C ϶g (λk=>ŋ) (ϦA<|϶g k) U rfl (K94<|aF Á) (by
    ext k H;rw[Nf];show(?_,Ţ ?_)
    .cases h1:lkB ts w k<;>simp![memD,h1]<;>rfl
    simp![S5])
   subst e;clear C;let d:(ß U.Û (λk=>ŋ) λk=>Đ<|϶g k).map OD.er=ß U.Û (λk=>ŋ) ϶g:=Ô S1 Ϥ2
   let f:Ê (ϹY G) OD.sh++[OD.sh<|Ï<|ß U.Û (λk=>ŋ) ϶g]=(ϹY<|G++[(w,U.Û λk=>ŋ)]).map OD.sh:=ϰY gsD K9i K9i
   simp![d,B,f];generalize C:Į=rc
   let e:=iS C ϶g (λk=>! ŋ) (ϰU<|Ñ ë) U rfl (K94<|aF Á) (by
    ext k H;rw[Nf];show(?_,Ţ ?_)
    .cases h1:lkB ts w k<;>cases h2:mrB ts w k with|_=>simp![memD,h1,h2]<;>rfl
    simp![memD])
   subst e;clear C;simp![xU];show(_,Á,U.Û λk=>! ŋ,G++[(w,U.Û λk=>ŋ)],_,rfl,ϲ1 (hV k (K89.mp H).1),?_,?_,rfl)
   .rw[K9v,K9e]
    lia
   rw[<-ho,K9M,g];rfl
 ext ρ' rfl ⟨b,v,rfl⟩;simp![S5]
open Lp (pA sm)
def szN(ts:À Nd)(j:Nat):Nat:=Ã ϲA+1
def DR{ts:À Nd}{c:F}(p:ç){j k:Nat}(h:k∈Å j):ϰL k<ϰL j:=by
 let he:=ľ;let g:=ϋ h;let J:ϰf:=Á
 let(s,e1,e,f,Q):=xJ p J;let(S,a,b,q,d):=xJ p g.2;let(l,H):=FK he (j:=k) (s:=S) Á q (k+S) Á ì;let(c1,L):=bh.mp h;let O:=Q k c1 Á Á;let:=F8 he Q Á O.2 H;erw[szN];lia
def zU{ts:À Nd}{c:F}(p:ç){u v:Nat}(H:϶6)(V:u<v)(e:ϒ u=ϒ v){a b:Nat}(A:Ĩ u=ϑ)(B:Ĩ v=ϩx):a<=b:=by
 let he:=ľ;let m:u∈Å a:=ϸN ⟨Á,A⟩;let M:v∈Å b:=ϸN ⟨H,B⟩;let g:=ϋ m;let gv:=ϋ M;let U:=ϳG m;let lv:=ϳG M;cases h:u<=b
 .lia
 let(s,e1,Q,k,q):=xJ p (j:=b) Á;let O:=q v H Á Á;let(l,d):=FK he (j:=b) (s:=s) Á k u Á Á;let:=ϷF Á d;let L:l=1:=Á
 subst L;let(G,C,d):=d;let d:u=G:=d;subst d;let:=(bh.mp C).2;lia
def sgn(a p:Nat):Int:=Ë (p<a) 1 (-1)
def iU(a:Nat):Ò->Nat->À Int->À Int|[],_,row=>row|k::ks,p,row=>ϖw<|ϧo<|Ō k+ϱ8 p
def iU''{a w0 row}:iU a [] w0 row=row:=rfl
def iU'{a k ks p row}:iU a (k::ks) p row=(ϖw<|ϧo<|Ō k+ϱ8 p):=rfl
def Eg(a:Nat):∀(s:Ò)(p:Nat)(row:À Int),Ã ϥa=row.À:=by
 induction _ with|nil=>ext _ _;show rfl|cons k s N3=>ext p row;rw[iU',N3,K8z]
def wj{row:À Int}{k:Nat}(h:όb)(v:Int)(j:Nat):Ņ (ϧo v)=if j=k then v else Ō j:=by
 erw[pA];cases e:j=k
 .subst e
  rw[K9I h,Ĝ];rfl
 rw[K9E ϩU,ϲt]
def dot(n:Nat)(x:å)(row:À Int):Int:=ĳ (λk=>Ō k*x k)
def HZ{n:Nat}{x:å}{row:À Int}{k:Nat}(K:k<n)(hr:row.À=n)(d:Int):ϬJ (ϧo<|Ō k+d)=ϬJ row+d*x k:=by
 erw[dot];let e:(λj=>Ņ (ϧo<|Ō k+d)*x j)=λj=>1*(Ō j*x j)+d*(Ë (j=k) (x k) 0):=by
  funext j;rw[wj Á];cases h:j=k
  .rw[ϰo,ϰo,h,Zbq,Zaq]
  rw[ϱA,ϱA,Zaa,Zaq,Zak]
 rw[e,Lp.kH,Lp.c7 (l:=k) n K λi _ H=>ϲc,Ĝ,Zaq]
def eP(x:å)(a:Nat):Ò->å|[],_=>0|k::ks,p=>ϱ8 p*x k+ϴ9 a ks (p+1)
def eP''{x a w0}:ϴ9 a [] w0=0:=rfl
def eP'{x a k ks p}:ϴ9 a (k::ks) p=(ϱ8 p*x k+ϴ9 a ks (p+1)):=rfl
def Oe{n:Nat}{x:å}(a:Nat):∀(s:Ò)(p:Nat)(row:À Int),row.À=n->(∀k∈s,k<n)->ϬJ ϥa=ϬJ row+ϵx p:=by
 induction _ with
 |nil=>ext p row _ _;rw[iU'',eP'',Zak]
 |cons k s N3=>
  ext p row hr h;rw[iU',N3 (p+1) _ (Ô K8z hr) λq H=>h q<|ě H,HZ (h k K9z) hr,eP];lia
def Vz(x:å):∀(s:Ò)(a p:Nat),όe<=a->ϵx p=(s.Ç x).sum:=by
 induction _ with
 |nil=>ext _ _ _;show rfl
 |cons k s N3=>
  ext a p h;rw[K9p]at h;rw[eP',ϔF Á,K9w,Zap];erw[sgn];rw[Os Á,Zaq]
def EX(x:å):∀(s:Ò)(a p:Nat),a<=p->ϵx p=-(s.Ç x).sum:=by
 induction _ with
 |nil=>ext _ _ _;show rfl
 |cons k s N3=>
  ext a p h;rw[eP',ϔF Á,K9w,Zap];erw[sgn];rw[P3 Á];lia
def vI(x:å):∀(s:Ò)(a p q k:Nat),a=p+q->s[q]?=Ş->ϴ9 (a+1) s p=ϵx p+2*x k:=by
 induction _ with
  |nil=>
   ext _ _ _ _ _ h
   simp at h
  |cons k0 s ih=>
   ext a p x12 k ha h
   cases x12 with
    |zero=>
     let h:k0=k:=ϱZ
     subst h;let e1:ϴ9 (a+1) s (p+1)=ϵx (p+1):=by rw[EX x s (a+1) (p+1) Á,EX x s a (p+1) Á]
     rw[eP',eP',e1];erw[sgn];rw[Os Á,P3 Á];lia
    |succ q=>
     let h:s[q]?=Ş:=ϱZ
     rw[eP',eP',ih a (p+1) q k Á h];erw[sgn];rw[Os Á,Os Á];lia
def eN(ts:À Nd)(k:Nat):Nat:=(ĩ (Ĩ k))
def aN(ts:À Nd)(k:Nat):Nat:=(Å<|ý k).idxOf k
def spF(ts:À Nd)(NU:Nat->Ò)(n:Nat):Nat->À (À Int)|0=>[]|i+1=>ω NU n i++[Ë (i=0) (όv 0) (iU (Ÿ i) (NU<|ý i) 0 (Ó ((ω NU n i)[ý i]?) []))]
def spF'{ts NU n i}:ω NU n (i+1)=(ω NU n i++[Ë (i=0) (όv 0) (iU (Ÿ i) (NU<|ý i) 0 (Ó ((ω NU n i)[ý i]?) []))]):=rfl
def mQ(ts:À Nd)(NU:Nat->Ò)(n:Nat):∀i,Ã (ω NU n i)=i:=by
 induction _ with|zero=>show rfl|succ i N3=>rw[spF',K9v,N3,K9e]
def UH(ts:À Nd)(NU:Nat->Ò)(n:Nat){k:Nat}:∀i j,k<i->i<=j->ϫ (ω NU n j)=ϫ (ω NU n i):=by
 ext i j h I
 induction j with
 |zero=>lia
 |succ j ih=>
  cases e:i=j+1
  .rw[e]
  rw[spF',K9V<|Ă mQ];show ih Á
def spt(ts:À Nd)(NU:Nat->Ò)(n:Nat)(k:Nat):À Int:=Ó (ϫ<|ω NU n ts.À) []
def zf{ts:À Nd}{NU:Nat->Ò}{n k i:Nat}(hi:i<=ts.À)(h:k<i):Ó (ϫ<|ω NU n i) []=϶e NU k:=ű spt (UH ts NU n i ts.À h hi)
def qK{ts:À Nd}{NU:Nat->Ò}{n:Nat}(a:Č 0):϶e NU 0=όv 0:=by
 rw[<-zf (i:=1) Á Á];rfl
def bM{ts:À Nd}{NU:Nat->Ò}{n k:Nat}(he:ĕ)(a:0<k)(H:Ć):϶e NU k=iU (Ÿ k) (NU<|ý k) 0 (϶e NU<|ý k)/\ý k<k/\Ĩ k=Ì (ý k):=by
 obtain⟨nd,h⟩:∃nd,ϸJ=Â nd:=⟨ts[k],ϫ6⟩
 let q:=he k nd h;rw[<-ϴx]at q;let e:ý k<k:=Ϩp eN
 show(?_,e,Ϩp eN);rw[<-zf (i:=k+1) Á Á,spF',K9a (Ô mQ<|N4 k),mQ,K8c,P3 Á];change iU _ _ _ _=_;rw[zf Á e]
def gR{ts:À Nd}{NU:Nat->Ò}{n:Nat}(he:ĕ):∀k,Ć->Ã (϶e NU k)=n:=by
 ext k
 induction k using Nat.strongRecOn with
 |ind k ih=>
  ext H;cases h:k=0
  .subst h
   rw[qK H,K8r]
  let(e1,g,_):=ϯx NU Á H;rw[e1,Eg];show ϲ2 g Á
def plc(ts:À Nd)(NU:Nat->Ò)(n:Nat)(x:å)(k:Nat):Int:=ϬJ<|϶e NU k
def DM{ts:À Nd}{NU:Nat->Ò}{n:Nat}{x:å}(a:Č 0):ξ NU n x 0=0:=by
 erw[plc,dot];rw[qK a];show Lp.cJ n λi _=>by erw[pA];rw[K8Z];split<;>show Zam _
def pY{ts:À Nd}{NU:Nat->Ò}{n:Nat}{x:å}(he:ĕ)(h:ϙO){k:Nat}(a:0<k)(H:Ć):ξ NU n x k=ξ NU n x (ý k)+ϴ9 (Ÿ k) (NU<|ý k) 0:=by let(e1,g,_):=ϯx NU a H;erw[plc];rw[e1,Oe _ _ _ _ (ϹM Á)<|h _]
def JJ(ts:À Nd)(q:Nat):(Å q).Nodup:=ϵp F5 (K8C.Û _)
def nB{ts:À Nd}{e a c:Nat}(he:ĕ)(h:(Å e)[a]?=ī):ý c=e/\Ÿ c=a/\0<c/\c<ts.À:=by
 let m:=϶w;let(c1,L):=bh.mp m;let g:=ϋ m;let e1:ý c=e:=Ϩp eN
 show(e1,?_,Á,c1);erw[aN];rw[e1];let lt:=ϲI;let C:(Å e)[a]=c:=(ZB.mp h).2;rw[<-C];show(JJ ts e).idxOf_getElem a lt
def kW{ts:À Nd}{NU:Nat->Ò}{n:Nat}{x:å}(he:ĕ)(N:ϙO){e a c:Nat}(h:(Å e)[a]?=ī):ξ NU n x c=ξ NU n x e+ϴ9 a (NU e) 0:=by let(H,b,f,d):=ϺF h;rw[pY he N f d,H,b]
def iB{j:Key}(h:p.1=j):gE (p::r) j=Â p.2:=ϰY gE K8p (Z8 h)
def iJ{j:Key}(h:¬p.1=j):gE (p::r) j=gE r j:=χ gE K8p ϷD
def MW(k j:Key)(y:Gc):∀Fv:À Ο,gE (Ϯf (v.1,y)) j=Ê (ϸE j) λx=>if j=k then y else x:=by
 ext Y
 induction Y with
 |nil=>show rfl
 |cons p r N3=>
  let i:=N3;rw[K9w];cases e:p.1=j
  .by_cases h:p.1=k
   .rw[ϰo,iB (p:=(p.1,y)) e,iB e,Zbe,Os<|e.Ñ h]
   rw[ϱA,iB e,iB e,Zbe,ϱh (h<|ϭH z)]
  cases h:p.1=k
  .rw[ϰo,iJ (p:=(p.1,y)) e,iJ e,i]
  rw[ϱA,iJ e,iJ e,i]
def Dq(k:Key):∀Fv:À Ο,(Fv.ě λv=>Õ ϴg)=(ϸE k).isSome:=by
 induction _ with
 |nil=>show rfl
 |cons p r N3=>
  rw[K81];cases e:p.1=k
  .rw[Z8 e,iB e]
   rfl
  rw[K9q e,iJ e,Bool.false_or,N3]
def JK(k j:Key)(y:Gc):∀Fv:À Ο,ϸE k=none->gE (Fv++[(k,y)]) j=Ë (j=k) ϰO (ϸE j):=by
 ext Y
 induction Y with
 |nil=>
  ext _;cases e:k=j
  .rw[Os e.Ï];show iB (p:=(k,y)) e
  rw[ϱh (e z.Ï)];show iJ (p:=(k,y)) e
 |cons p r N3=>
  ext n;rw[K92];let h:¬p.1=k:=λz=>by rw[iB z]at n;cases n
  rw[iJ h]at n;let i:=N3 n;cases e:p.1=j
  .rw[iB e,iB e,ϱh (h<|ϭH z)]
  rw[iJ e,iJ e,i]
def MI(Fv:À Ο)(k j:Key)(y:Gc):gE (ϥL k y) j=Ë (j=k) ϰO (ϸE j):=by
 erw[putD];cases a:(Fv.ě λv=>Õ ϴg)=true
 .rw[Os a,MW]
  rw[Dq]at a;cases e:j=k
  .let(x,h):=Option.isSome_iff_exists.mp a
   rw[Os e,e,h,Zbe,Ĝ]
  rw[ϲt];cases gE Fv j with|none=>rfl|some x=>rw[Zbe,ϲt]
 rw[P3 a];show JK k j y Fv ?_;rw[Dq]at a;cases q:gE Fv k with|none=>rfl|some x=>rw[q]at a;show ϵb (a rfl)
def length_putD(Fv:À Ο)(k:Key)(v:Gc):Ã (ϥL k v)<=ώJ 1:=by
 erw[putD];split
 .rw[K0];lia
 rw[K9v,K9p,K8U];lia
abbrev Tm:=Nat×Bool×Bool
def tmD(t:Tm):Gc:=Ą [Ä (Ì t.1),ã t.2.1,ã t.2.2]
def tgD(g:À Tm):Gc:=Ï Ϸ7
def wdS(ts:À Nd)(t:Tm):Nat:=Ã (Å t.1)-1
def mdS(ts:À Nd)(t:Tm)(p:Nat):Nat:=if Μ t.2.2 then min p (ϳ4-1-p)else p
def stL(ts:À Nd)(t:Tm)(c:Nat):Ò:=Ā ϳ4 λp=>c+ϸL t p
def mK(ts:À Nd)(t:Tm)(c:Nat):Ã (Ϸe c)=ϳ4:=χ stL K0 Z7
def RD(L:Ò):(L.Ç (ϰU (Đ<|Ä ë)))=Ê (aO L) OD.sh:=Ϗ aO S1
def yZ(ts:À Nd)(t:Tm)(c:Nat)(b:Č t.1)(a:2<=Ã (Å t.1))(l:é):cU [Ï è,tmD t,Ä ϥ8]=.ok (Ę<|aO<|Ϸe c):=by
 erw[cU,lO,tmD];let co:=eA ts t.1 b l;let cl:=uU ts t.1;let nl:=eF<|Å t.1;let s:Κ (Ì ((Ã (Å t.1)))-2+1):=Ŕ Á;let tn:ĩ (Ì ((Ã (Å t.1)))-2+1)=ϳ4:=Ϩp wdS
 let(w,U,m):=t;cases m with
 |true=>
  simp![co,iP,nl,s];generalize h:Į=rc
  let e:=aS h (ϳj<|0+ë) (λk=>Ñ<|(ä (c+ϸL (w,U,true) k))) (ϱR ϑg) (ϣ tn) (by rw[Z7];erw[wdS];show K94<|aF Á) (by
   ext k H;let H:=ϹQ;let W:ϑg=Ã (Å w)-1:=rfl;rw[K8R];let e1:(Ë (Ì ((Ã (Å w)))-2-ë<ë) (Ì ((Ã (Å w)))-2-ë) ë)=ä (ϸL (w,U,true) k):=by
    change _=ä (min k (ϑg-1-k))
    rw[W];let a:2<=Ã (Å w):=a;split<;>lia
   simp![e1];rw[Zcv])
  subst e;simp![S5];erw[stL];rw[<-RD,S1];rfl
 |false=>
  simp![co,iP,nl,s];generalize h:Į=rc;let e:=aS h (ϳj<|0+ë) (λk=>Ñ<|(ä (c+ϸL (w,U,false) k))) (ϱR<|wdS ts (w,U,false)) (ϣ tn) (by rw[Z7];erw[wdS];show K94<|aF Á) (by ext k H;rw[K8R];simp![S5];rw[Zcv];rfl);subst e;simp![S5];erw[stL];rw[<-RD,S1];rfl
def oG(ts:À Nd)(t:Tm):Nat:=Ë (Μ t.2.2) ((ϳ4-1) / 2+1) ϳ4
def Kf{X:À Int}(h:ϵa X):lP [Ï όH]=.ok (Ñ<|jE X):=by
 cases X with|nil=>show Ϡ h|cons a as=>show E_ a as
def Uu{ts:À Nd}{t:Tm}(d:2<=Ã (Å t.1))(c:Nat):lP [Ï<|aO<|Ϸe c]=.ok (Ñ<|ä (c+ϴk t)-1):=by
 let e:aO (Ϸe c)=(Ê (Ϸe c) (ϰU ë)).map int:=Ϗ aO S1
 let w:1<=ϳ4:=by erw[wdS];omega
 let ne:(Ê (Ϸe c) (ϰU ë))≠[]:=λz=>by
  let:=Ż z;rw[K0,mK,K8U]at this;omega
 rw[e,Kf ne];let(a,Q):=c_ ne;generalize jE (Ê (Ϸe c) (ϰU ë))=M at a Q;show Uf (λz=>L3.R.ok<|Đ ϭE) ?_;let(k,H,rfl):=XV.mp a;erw[stL]at H;let(p,P,rfl):=Ϻa;let P:=Ϸz P;let mem:∀q,q<ϳ4->ä (c+ϸL t q)<=ä (c+ϸL t p):=λq b=>Q _<|ϲp ((ϲi (ϲp ⟨q,K9G.ó b,rfl⟩)));cases hm:t.2.2 with
 |true=>
  let h:=mem ((ϳ4-1) / 2) ϱI;erw[mdS,oG] at*;rw[Os hm]at h⊢;rw[Os hm]at h;rw[Os hm];omega
 |false=>
  let h:=mem (ϳ4-1) ϱI;erw[mdS,oG] at*;let m:¬Μ t.2.2:=ϓl hm
  rw[P3 m]at h⊢;rw[P3 m]at h;rw[P3 m];omega
def hd3(g:À Tm):Tm:=Ó (g[0]?) (0,false,false)
abbrev Tab:=Nat->Ü Ò
def ow(s:Ò):À Tm->Tab->Tab|[],T=>T|t::g,T=>ow s g λk=>Ë (k=t.1) (Â ϭ6) (T k)
def ow'{s t g T}:Ϻw (t::g)=(ow s g λk=>Ë (k=t.1) (Â ϭ6) (T k)):=rfl
def mW(ts:À Nd):À (À Tm)->ώv->ώv|[],r=>r|g::G,r=>ϥZ (ow (ϵ6 r.2) g r.1,r.2+ϴk ϓ)
def mW'{ts g G r}:mW ts (g::G) r=(ϥZ (ow (ϵ6 r.2) g r.1,r.2+ϴk ϓ)):=rfl
def Jb(s:Ò):∀(g:À Tm)(t:Tm)(T:Tab),Ϻw (g++[t])=λk=>Ë (k=t.1) (Â ϭ6) (Ϻw g k):=by
 induction _ with|nil=>ext t T;show rfl|cons a g N3=>ext t T;rw[K92,ow',N3 t,ow']
def A8(ts:À Nd):∀(G:À (À Tm))(g:À Tm)(r:ώv),mW ts (G++[g]) r=(ow (ϵ6 (ϥZ r).2) g (ϥZ r).1,(ϥZ r).2+ϴk ϓ):=by
 induction _ with|nil=>ext g r;show rfl|cons a G N3=>ext g r;rw[K92,mW',N3 g,mW']
def nX(Fv:À Ο)(T:Tab):Prop:=∀k:Nat,ϸE (Ð ë)=Ê (T k) λl=>Ï<|aO l
def nX.put{Fv:À Ο}{T:Tab}(h:ϤM T)(j:Nat)(l:Ò):nX (ϥL (Ð Ĵ)<|Ï<|aO l) λk=>Ë (k=j) ϩ2 (T k):=λk=>by
 rw[MI];change _=Option.map (λl=>ϴO<|aO l) (Ë (k=j) ϩ2<|T k);cases e:k=j
 .rw[Os ϹT,Os e]
  rfl
 rw[ϱh (e<|by injection z with z;lia),ϲt];show h k
structure OkG(ts:À Nd)(G:À (À Tm)):Prop where
 ne:∀g∈G,ϵa g
 lt:ϒL (Č t.1/\2<=Ã (Å t.1))
 few:ϲx (Ϲb G.Ç)
def zK{g:À Tm}(h:ϵa g):ϓ∈g:=by
 cases g with|nil=>show Ϡ h|cons a r=>show K9z
def Mi(h:ϤH=þ (Ï ds))(H:Ϫm=.ok (Ñ<|-1)):ύq ρ=ģ ϐm:=ϙb
def OA(l:Ò):Ϩ (aO l)=aO l.å:=ű aO Zdc
theorem F_(ts:À Nd)(g:À Tm)(s:Ò)(T:Tab)(Fv:À Ο)(x:ϤM T)(K:Ϯ6<=200)(v0 v1 b c:OD)(V a f:Ü OD):
  ∃v h j l,nX v (Ϻw g)/\v.À<=Ϯ6/\bZ (bY ς) (ϳ1<|ϳW 7<|Œ 8 9 bB) (Ϯl<|Rs<|ϭT<|Ϥ1<|ġ<|Ç 1)
   [Â v0,Â v1,ϧ,Â Ϸq,ī,â Ϸ7,â ϺG,V,a,f]=ų [Â v0,Â v1,ϧ,Â<|.od v,ī,â Ϸ7,â ϺG,h,j,l]:=by
 simp![S5];generalize u:Ŗ=r;show aX u (λi q=>∃(v:À Ο)(V a f:Ü OD),nX v (Ϻw<|g.Ö i)/\v.À<=Fv.À+i/\q=[Â v0,Â v1,ϧ,Â<|.od v,ī,â Ϸ7,â ϺG,V,a,f]) ⟨Fv,V,a,f,x,ì,rfl⟩ ?_ ?_
 .rintro i d q hd ⟨v,V,a,f,h1,h2,rfl⟩
  rw[N2]at hd;let(t,H,rfl):=ϹV;let hi:i<g.À:=ϹB;let L:ϱK v.À:=c8 Á;let tk:Ϻw (g.Ö<|i+1)=λk=>Ë (k=t.1) (Â ϭ6) (Ϻw (g.Ö i) k):=Ĥ ϓT Jb
  let p:=λy=>length_putD v (Ð (Ì t.1)) y;let(w,U,m):=t;let E:tmD (w,U,m)=Ą [Ä (w:Int),ã U,ã m]:=rfl;rw[E];cases U with
  |true=>
   simp![Fz,FV,L,K83];show(_,_,_,_,?_,?_,rfl)
   .rw[tk]
    show h1.put w s
   let:=p<|Ï ϺG;let e:((w,true,m):Tm).1=w:=rfl;rw[e]at this;lia
  |false=>
   let R:∀A n o:OD,Ϥ1 (ġ<|Ç 1) [Â v0,Â v1,ϧ,Â<|.od v,ī,â Ϸ7,â ϺG,some A,ϵL,Ö]=ģ (ύl ϺG OD.sh):=λA n o=>Mi ϻg ϻg;simp![↓R,aI,OA,Fz,FV,L,K83];show(_,_,_,_,?_,?_,rfl)
   .rw[tk]
    show h1.put w s.å
   let:=p<|Ï<|aO s.å;let e:((w,false,m):Tm).1=w:=rfl;rw[e]at this;lia
 ext ρ' rfl ⟨v,V,a,f,h1,h2,rfl⟩;rw[K0]at h1 h2;rw[K8D]at h1;show(v,V,a,f,h1,h2,rfl)
def nbB:Fs:=(ao (ϱ4<|Rs<|ϓ3<|È 0<|ae (Ù 5<|Ç 0)<|È 4 ai)
 (ao (bZ (bY ς) (ϳ1<|ϳW 7<|Œ 8 9 bB)<|Ϯl<|Rs<|ϭT<|Ϥ1<|ġ<|Ç 1)
 (ϰk<|ŗ (ϻJ<|È 6 ai)<|Ç 1)))
def Qd(ts:À Nd)(L:é)(g:À Tm)(ne:ϵa g)(H:Č (ϓ).1/\2<=Ã (Å (ϓ).1))(T:Tab)(c:Nat)(Fv:À Ο)(t:ϤM T)(K:Ϯ6<=200)(v1 V:OD)(v6 b d f:Ü OD):
  ∃k h v l,nX k (ow (ϵ6 c) g T)/\k.À<=Ϯ6/\nbB [â è,Â v1,Â V,Â Ϸq,some<|Ñ ϥ8,â Ϸ7,v6,b,d,f]=ų [â è,Â v1,Â V,Â<|.od k,some<|Ñ<|(ä (c+ϴk ϓ)),â Ϸ7,â<|aO<|ϵ6 c,h,v,l]:=by
 let(k,h,v,l,q,Q,i):=F_ ts g (ϵ6 c) T Fv t K (.sh<|Ï è) v1 V (Ñ ϥ8) b d f;show(k,h,v,l,q,Q,?_);let s:=yZ ts ϓ c H.1 H.2 L;let X:=Uu H.2 c;let A:Ť Ϸ7 0=Â (tmD ϓ):=de (j:=0) (by
  rw[N2];cases g with|nil=>show Ϡ ne|cons a r=>rfl)
 let e:ϑi (ä (c+ϴk ϓ)):=Á
 erw[nbB];simp![A,s,aI,↓i,X,e]
def Jv(G:À (À Tm))(i:Nat):(Ê ϨT List.length).sum<=Ϲb G.Ç:=by
 conv=>rhs;rw[<-Zes i G]
 rw[K9i,Zbf];lia
def Cy(ts:À Nd)(L:é)(G:À (À Tm))(h:OkG ts G)(v1:OD):
  ∃Fv a v6 v V f,ϤM (ϥZ (Ϸb,2)).1/\bZ (bY ό) (K2 5) (ao (ϱ4<|Rs<|ϓ3<|È 0<|ae (Ù 5<|Ç 0)<|È 4 ai)
 (ao (bZ (bY ς) (ϳ1<|ϳW 7<|Œ 8 9 bB)<|Ϯl<|Rs<|ϭT<|Ϥ1<|ġ<|Ç 1)
 (ϰk<|ŗ (ϻJ<|È 6 ai)<|Ç 1))) [â è,Â v1,â ϫX,Â ώk,some<|Ñ 2,none,none,none,none,none]=ų [â è,Â v1,â ϫX,Â Ϸq,some<|Ñ<|(Ì (ϥZ (Ϸb,2)).2),a,v6,v,V,f]:=by
 simp![S5];generalize l:Ŗ=r;show aX l (λi b=>∃(Fv:À Ο)(a v6 v V f:Ü OD),ϤM (ϷO).1/\Fv.À<=(Ê ϨT List.length).sum/\b=[â è,Â v1,â ϫX,Â Ϸq,some<|Ñ<|(Ì (ϷO).2),a,v6,v,V,f]) ⟨[],none,none,none,none,none,λk=>rfl,Û,rfl⟩ ?_ ?_
 .rintro i d b hd ⟨Fv,a,v6,v,V,f,h1,h2,rfl⟩
  rw[N2]at hd;let(g,hg,rfl):=ϹV;let m:=Ϧx;let ne:=h.ne g m;let H:=ϚX<|zK ne;let tk:G.Ö (i+1)=ϨT++[g]:=ϬN hg;let t:=A8 ts ϨT g (Ϸb,2);rw[<-tk]at t;let s:(ß G.Ö (i+1) List.length).sum=(Ê ϨT List.length).sum+g.À:=by rw[tk,K9i,Zbf];simp
  let M:=Jv G<|i+1;let w:=h.few;generalize ϷO=TB at*;let nb:=Qd ts L g ne H TB.1 TB.2 Fv h1 ϱI v1 (.sh<|Ï ϫX) v6 v V f;let n:=Zab<|ϐU nb;change qS _ (nbB [â è,Â v1,â ϫX,Â Ϸq,some<|Ñ<|(Ì TB.2),â Ϸ7,v6,v,V,f])
  rw[n.2.2];show(Ϸ3 nb,â Ϸ7,â<|aO<|ϵ6 TB.2,Ϸ3<|Zab nb,Ϸ3<|Zab<|Zab nb,Ϸ3<|ϐU nb,by
   rw[t];show n.1,by
   rw[s];let:=n.2.1
   omega,by rw[t])
 ext ρ' rfl ⟨Fv,a,v6,v,V,f,h1,h2,rfl⟩;rw[K0]at h1⊢;rw[K8D]at h1⊢;show(Fv,a,v6,v,V,f,h1,rfl)
abbrev gsA(ts:À Nd):À (Nat×Ò):=ŏ ((Ã č)) č
def tmO(ts:À Nd)(x:Nat×Ò):À Tm:=Ê x.2 λk=>(k,ύa k,ϔG k)
def gpT(ts:À Nd)(strict:Bool):À (À Tm):=if strict=true then ß gsA ts ϳ9 else ß fk ts λk=>Ϲc
def ME(q:ύI):∀V:Ò,Ã (V.filter q)+Ã (V.filter λk=>!q k)=V.length:=by
 induction _ with
 |nil=>show rfl
 |cons a V N3=>
  let i:=N3;cases h:q a with
  |true=>rw[Zbm h,Zbb ϑb,K9p,K9p];lia
  |false=>rw[Zbb ϑb,Zbm ϑb,K9p,K9p];lia
def KN(V:Ò):(V.map λ_=>1).sum=V.length:=by
 induction V with|nil=>rfl|cons a V ih=>rw[K9w,Zap,ih,K9p];lia
def N0(ts:À Nd):ϹY ώQ=(ß gsA ts ϳ9).map tgD:=by
 erw[gsD];rw[S1];show ϻ5 ?_;change ϴO _=tgD (ϳ9 x);erw[tgD,tmO];rw[S1];rfl
def LQ(ts:À Nd):∀(m:Nat)(V:Ò),(Ê (ŏ m V) λx=>(Ã x.2)).sum<=V.length:=by
 induction _ with
  |zero=>
   intro V
   let:ŏ 0 V=[]:=ϑA
   rw[this];show ϰS
  |succ m ih=>
   ext x32
   cases x32 with
    |nil=>
     exact ϰS
    |cons w W=>
     let e:ŏ (m+1) ϸH=(w,Δ λk=>ŋ)::ŏ m (Δ λk=>! ŋ):=rfl;rw[e,K9w,Zap];let i:=ih<|Δ λk=>! ŋ;let pt:=ME (λk=>ŋ) ϸH;dsimp only;lia
def kL(ts:À Nd):∀(m:Nat)(V:Ò),∀x∈ŏ m V,x.2.head?=Â x.1/\∀k∈x.2,k∈V/\rel ü Tl k x.1=true:=by
 ext m
 induction m with
 |zero=>
  ext V x h;let:ŏ 0 V=[]:=ϑA
  rw[this]at h;cases h
 |succ m ih=>
  ext V x h;cases V with
  |nil=>cases h
  |cons w W=>
   let e:ŏ (m+1) ϸH=(w,Δ λk=>ŋ)::ŏ m (Δ λk=>! ŋ):=rfl;rw[e]at h;rcases K8v.mp h with rfl|h
   .apply(?_,ϲ1 ?_)
    .change(Δ λk=>ŋ).head?=some w
     rw[Zbm (p:=λk=>ŋ)<|lA w];rfl
    let:=K89.mp H;show(Ϻm,Ϥw)
   let(b,a):=ϲ2 x h;show(b,ϲ1 ⟨(ϦG (a k H).1).1,(a k H).2⟩)
def Kz{ts:À Nd}{k:Nat}(h:k∈č):Ć/\2<=Ã (Å k):=by let:=ώs;let H:=ϷR Ϥw;show(Ϸz Ϻm,Á)
def RH(ts:À Nd)(strict:Bool)(a:é):OkG ts (Ķ strict):=by
 let fl:=wz ts;cases strict with
 |true=>
  let e:Ķ true=ß gsA ts ϳ9:=rfl;rw[e];show(ϥ2 g,ϧ5 g,?_)
  .let(x,H,rfl):=϶q
   ext z;let h:=(ϷX H).1;erw[tmO]at z;rw[List.map_eq_nil_iff]at z;rw[z]at h;cases h
  .let(x,H,rfl):=϶q
   erw[tmO]at l;let(k,K,rfl):=XV.mp l;show Kz ((ϷX H).2 k K).1
  rw[S1];let:=LQ ts (Ã č) č;let E:(ß gsA ts<|List.length∘ϳ9)=ß gsA ts λx=>(Ã x.2):=K8u λx _=>by
   change Ã (ϳ9 x)=_;erw[tmO];rw[K0]
  rw[E];show K9C this<|K9C fl a
 |false=>
  let e:Ķ false=ß fk ts λk=>Ϲc:=rfl;rw[e];show(ϥ2 g,ϧ5 g,?_)
  .let(x,H,rfl):=϶q
   show Zdb _ _
  .let(x,H,rfl):=϶q
   rw[K95]at l;rw[l];show Kz H
  rw[S1];let E:(ß fk ts<|List.length∘ϗV)=ß fk ts λ_=>1:=rfl;rw[E,KN];lia
def zc(ts:À Nd)(strict:Bool):ώv:=mW ts (Ķ strict) (Ϸb,2)
def xc(ts:À Nd){c:F}(p:ç)(h:Ź)(a:é)(strict:Bool):∃Fv,ϤM (ϥk).1/\eU [Ï è,ã strict]=Ħ (.ot [Ϸq,Ñ<|(Ì (ϥk).2)]):=by
 let(Fv,v,v6,V,b,d,Q,q):=Cy ts a (Ķ strict) (RH ts strict a)<|.sh<|ã strict;show(Fv,Q,?_);erw[eU,kM];let fl:=wz ts;let n:(mW ts (Ķ strict) (Ϸb,2)).2=(ϥk).2:=rfl;rw[n]at q;let E:∀j C l v v6 V b d:Ü OD,(Rs<|Ϥy Ŋ (ϓf<|È 0 ai)<|ϴs (ύd<|È 0 ai) ϰa aT (Rs<|bO<|ae (d_<|È 0<|ae (eC<|ã true)<|ĝ (eC<|ã false)) ai) 1 []) [â è,Ĕ<|ã strict,j,C,l,v,v6,V,b,d]=þ (Ï<|Ê (Ķ strict) tgD):=λj C l v v6 V b d=>by
  cases strict with
  |true=>have g:=AN ts p h a;let e:ϹY (ŏ ((Ã č)) č)=Ê (Ķ true) tgD:=N0 ts;rw[e]at g;simp![g,aI]
  |false=>
   let f:=zE ts a;let P:=xU č;simp![f,P];generalize w:Į=rc;let e:=϶R (ϳj ë) (ϦA<|tgD Ϲc) č Ϯk (K94<|aF Á) (by ext k H;simp![S5];rfl);subst e;let m:(ß fk ts λk=>Đ<|tgD Ϲc).map OD.er=Ê (Ķ false) tgD:=by
    let e:Ķ false=ß fk ts λk=>Ϲc:=rfl;rw[e,S1,S1];show Ϥ2
   simp![m]
 let R:=Qf (fa:=ş) (i:=3) (ρ:=[â è,Ĕ<|ã strict,â<|Ê (Ķ strict) tgD,Â Ϸq,some<|Ñ<|(Ì (ϥk).2),v,v6,V,b,d]) (x:=Ϸq) (y:=Ñ<|(Ì (ϥk).2)) rfl rfl;simp![↓E,ZJ,↓q,↓R]
def qD(T:Ò)(t:Tm):Ò:=if Μ t.2.1 then T else T.å
def yT(s:Ò)(e:Nat):∀(g:À Tm)(T:Tab),(∀t∈g,t.1≠e)->Ϻw g e=T e:=by
 induction _ with
 |nil=>ext T _;show rfl
 |cons t g N3=>
  ext T h;rw[ow',N3 _ λa l=>h a<|ě l];show P3<|K8g<|h t K9z
def zO(s:Ò):∀(g:À Tm)(T:Tab),ϙc->∀t∈g,Ϻw g t.1=Â (qD s t):=by
 induction _ with
  |nil=>
   ext T _ t h
   cases h
  |cons a g ih=>
   intro T nd t h
   rw[K9w,K8k]at nd;rw[ow'];rcases K8v.mp h with rfl|h
   .rw[yT s t.1 g _ λb l z=>nd.1<|ϲp ⟨b,l,z⟩]
    show Ĝ
   .show ϲ2 nd.2 t h
def cOf(ts:À Nd)(G:À (À Tm))(j:Nat):Nat:=2+(Ê (G.Ö j) λg=>ϴk ϓ).sum
def uX{ts:À Nd}{G:À (À Tm)}{j:Nat}{g:À Tm}(h:ę G=Â g):ϱr G (j+1)=ϱr G j+ϴk ϓ:=by
 erw[cOf];rw[ϓL,K9i,Zbf];simp;lia
def iE{ts:À Nd}{G:À (À Tm)}:∀{i j:Nat},i<=j->ϱr G i<=ϱr G j:=by
 ext i j h
 induction j with
 |zero=>
  let:i=0:=Á
  rw[this];show ì
 |succ j ih=>
  cases e:i=j+1
  .rw[e];show ì
  show K9C (ih Á) ?_;cases hg:G[j]? with
  |some g=>rw[uX hg];lia
  |none=>
   let:G.Ö (j+1)=G.Ö j:=by let:G.À<=j:=List.getElem?_eq_none_iff.mp hg;rw[K90 Á,K90 Á]
   erw[cOf];rw[this];show ì
structure OkG2(ts:À Nd)(G:À (À Tm)):Prop extends OkG ts G where
 nd:∀g∈G,ϙc
 dj:∀(i j:Nat)(gi gj:À Tm),á G=Â gi->ę G=Â gj->i≠j->∀t∈gi,∀t'∈gj,t.1≠t'.1
 same:ϒL (Ã (Å t.1)=Ã (Å (ϓ).1))
 like:∀g∈G,Μ (ϓ).2.1
 size:ϒL (ϰL t.1=ϰL (ϓ).1)
theorem FE{ts:À Nd}{G:À (À Tm)}(h:OkG2 ts G):∀i,i<=G.À->(ϷO).2=ϱr G i/\
  (∀j g,j<i->ę G=Â g->∀t∈g,(ϷO).1 t.1=Â (qD (ϵ6<|ϱr G j) t))/\
  ∀e l,(ϷO).1 e=ϩ2->∃j g t,j<i/\ę G=Â g/\t∈g/\t.1=e/\l=qD (ϵ6<|ϱr G j) t:=by
 induction _ with
 |zero=>ext _;show(rfl,λj g J=>absurd J<|Zbh j,λe l a=>by cases a)
 |succ i N3=>
  ext hi;let(q,k,Q):=N3 Á;obtain⟨g,hg⟩:∃g,á G=Â g:=⟨G[i],Nu Á⟩
  let m:=Ϧx;let f:=A8 ts ϨT g (Ϸb,2);rw[<-ϬN hg]at f;rw[f];show(by rw[uX hg,<-q],λj g' J H t T=>?_,λe l a=>?_)
  .by_cases c:j=i
   .subst c
    rw[hg]at H;cases H;change ow _ g _ t.1=_;rw[ϘV,q]
   change ow _ g _ t.1=_;rw[yT _ _ g _ λd b z=>h.dj i j g g' hg H (K8g c) d b t T z];show k j g' Á H t T
  cases c:∃t∈g,t.1=e
  .let(t,T,rfl):=c
   let a:ow (ϵ6 (ϷO).2) g (ϷO).1 t.1=ϩ2:=a;rw[ϘV,q]at a;show(i,g,t,K8d i,hg,T,rfl,(ϦO).symm)
  let a:ow (ϵ6 (ϷO).2) g (ϷO).1 e=ϩ2:=a;rw[yT _ _ g _ λt T z=>c ⟨t,T,z⟩]at a;let(j,g',t,A,n):=Q e l a;show(j,g',t,Á,n)
def NU(ts:À Nd)(s:Bool)(e:Nat):Ò:=Ó ((zc ts s).1 e) []
abbrev nU(ts:À Nd)(s:Bool):Nat:=(zc ts s).2
def QM{T:Ò}{t:Tm}{k:Nat}:k∈qD T t↔k∈T:=by
 erw[qD];split
 .show Iff.rfl
 show List.mem_reverse
def B9(T:Ò)(t:Tm):Ã (qD T t)=T.À:=by
 erw[qD];split
 .rfl
 show Zax
def Wl{ts:À Nd}{t:Tm}{p:Nat}(h:p<ϳ4):ϸL t p<ϴk t:=by erw[mdS,oG];split<;>lia
def T8{ts:À Nd}{t:Tm}{c k:Nat}(h:k∈Ϸe c):c<=k/\k<c+ϴk t:=by
 erw[stL]at h;let(p,H,rfl):=ϥ5;let:=Wl ϹQ;lia
def Ny(ts:À Nd)(t:Tm):ϴk t<=ϳ4\/ϳ4=0:=by erw[oG];split<;>lia
section
variable{ts:À Nd}{s:Bool}(h:OkG2 ts (Ķ s)) include h

theorem Pq:Þ=ϱr (Ķ s) ((Ã (Ķ s))):=ϱC (ϓg ì).1 K8D
theorem Dk{j:Nat}{g:À Tm}(hg:ę (Ķ s)=Â g){t:Tm}(l:t∈g):ø t.1=qD (ϵ6<|ϱr (Ķ s) j) t:=by let:=(ϓg ì).2.1 j g (ϱa hg) hg t l;rw[K8D]at this;erw[NU,zc];rw[this];rfl
theorem wR{e k:Nat}(H:k∈ø e):∃j g t,ę (Ķ s)=Â g/\t∈g/\t.1=e/\ϱr (Ķ s) j<=k/\k<ϱr (Ķ s) (j+1):=by
 erw[NU]at H;cases hT:(zc ts s).1 e with
 |none=>rw[hT]at H;cases H
 |some l=>
  rw[hT]at H;let H:k∈l:=H;let:=(ϓg ì).2.2 e l (Ô K8D hT);let(j,g,t,J,hg,T,he,rfl):=this;let b:=T8<|QM.mp H;show(j,g,t,hg,T,he,b.1,Ô (uX hg) b.2)
theorem sV{e k:Nat}(H:k∈ø e):2<=k/\k<Þ:=by
 let(j,g,t,hg,l,he,a,b):=wR h H;let J:=(ϱa hg);rw[Pq h];let m:=Ϲp (Ķ s) (i:=j+1) (j:=(Ã (Ķ s))) Á;let m0:=Ϲp (Ķ s) (i:=0) (j:=j) Á;let E:ϱr (Ķ s) 0=2:=rfl;lia
theorem qV:2<=Þ:=by
 rw[Pq h];let m0:=Ϲp (Ķ s) (i:=0) (j:=(Ã (Ķ s))) Á;let g:ϱr (Ķ s) 0=2:=rfl;lia
theorem QD{e e' k:Nat}(a:k∈ø e)(f:k∈ø e'):ϰL e=ϰL e':=by
 let(j,g,t,hg,l,rfl,A,n):=wR h a;let(d,g',T,H,b,rfl,b1,B):=wR h f;let:j=d:=by
  rcases Zba j d with c|c|c
  .let:=Ϲp (Ķ s) (i:=j+1) (j:=d) Á
   lia
  .show c
  let:=Ϲp (Ķ s) (i:=d+1) (j:=j) Á;lia
 subst this;rw[hg]at H;cases H;let m:=Ϧx;rw[h.Ã g m t l,h.Ã g m T b]
theorem Ak{e:Nat}(he:ø e≠[]):Ã (ø e)=Ã (Å e)-1:=by let(k,H):=Zch _ he;let(j,g,t,hg,l,rfl,_,_):=wR h H;let m:=Ϧx;rw[Dk h hg l,B9,mK];erw[wdS];rw[h.Î g m t l]
private theorem Oh{k:Nat}(d:2<=k)(H:k<Þ):∃e q:Nat,(ø e)[q]?=Ş:=by
 rw[Pq h]at H;let:∀i,i<=Ã (Ķ s)->k<ϱr (Ķ s) i->∃j,j<i/\ϱr (Ķ s) j<=k/\k<ϱr (Ķ s) (j+1):=by
  ext i
  induction i with
  |zero=>
   ext _ K;let E:ϱr (Ķ s) 0=2:=rfl;lia
  |succ i ih=>
   ext hi K;cases c:k<ϱr (Ķ s) i
   .let(j,a,b):=ih Á c
    show(j,Á,b)
   show(i,K8d i,Á,K)
 let(j,J,c1,L):=Ϧl ì H;obtain⟨g,hg⟩:∃g,ę (Ķ s)=Â g:=⟨(Ķ s)[j],϶Q⟩;let m:=Ϧx;let M:=zK<|h.ne g m;let W:=(ϚX M).2;rw[uX hg]at L;show((ϓ).1,k-ϱr (Ķ s) j,?_);rw[Dk h hg M];erw[qD];rw[Os<|h.like g m];generalize ϱr (Ķ s) j=c at c1 L;erw[stL];let w:k-c<wdS ts ϓ:=by
  let:=Ny ts ϓ;erw[wdS] at*;lia
 rw[N2,K9Z w];change Â (c+ϸL ϓ (k-c))=Ş;let:ϸL ϓ (k-c)=k-c:=by
  erw[mdS];erw[oG]at L;split
  .rename_i M
   rw[Os M]at L;lia
  rfl
 rw[this];show Ϸm Á
theorem Bq{e:Nat}(H:2<=Ã (Å e))(f:∃(j:Nat)(g:À Tm)(t:Tm),ę (Ķ s)=Â g/\t∈g/\t.1=e):Ã (ø e)=Ã (Å e)-1:=by let(j,g,t,hg,l,rfl):=f;let m:=Ϧx;rw[Dk h hg l,B9,mK];erw[wdS];rw[h.Î g m t l]
end
def LO:ϲy (Ã (F.fM f)=Ã ν):=by
 induction _ with
 |nil=>show rfl
 |cons k c r Sc Re=>
  rw[F.fM',F.pre',K9v,K9p,K9p,K9v,Sc,Re];lia
def RP{ts:À Nd}{c:F}(p:ç){a:Nat}(A:ϳh):ϰL a=Ã (ϝ<|ϰb a):=by
 let(d,pd,e):=(qR p A).bough;let e1:Ã (ϝ<|ϰb a)=Ã (ϝ ϨF):=by
  change Ã (ϝ<|ϱY<|ϔE ϶l F.nil)=_;rw[<-e,wG]
 rw[e1,pd.preF,Z7];obtain⟨r,hr⟩:ϰ5 (ts[a]?):=⟨ts[a]' Á,Û⟩
 erw[szN,cx];rw[hr];change _=Ã (_::_);rw[K9p,K0]
def FZ{ts:À Nd}{a b:Nat}(A:ϳh)(B:ϵm)(h:ϥo ü Tl):ϥo ϰb F.mir:=by
 rcases bG.mp h with h|h
 .rw[dQ A,dQ B]at h
  show bG.ó<|Ð ϸP
 rw[dQ A,dQ B]at h;show bG.ó<|Ø ϸP
def Sa{ts:À Nd}{c:F}(p:ç){a b:Nat}(A:ϳh)(B:ϵm)(h:ϥo ü Tl):ϰL a=ϰL b:=by
 rw[RP p A,RP p B];rcases bG.mp (FZ A B h)with h|h
 .rw[h]
 rw[h,F.uJ,LO]
def Lv(ts:À Nd):∀(m:Nat)(V:Ò),V.Nodup->(∀x∈ŏ m V,x.2.Nodup)/\∀(i j:Nat)(x y:Nat×Ò),á (ŏ m V)=Ď->ę (ŏ m V)=ϰO->i≠j->∀k∈x.2,k∉y.2:=by
 ext m
 induction m with
 |zero=>
  ext V _;let:ŏ 0 V=[]:=ϑA
  rw[this];show(λx h=>ϒ6,λi j x y h=>ϫr)
 |succ m ih=>
  ext V v;cases V with
  |nil=>show(λx h=>ϒ6,λi j x y h=>(by simp[gsF]at h))
  |cons w W=>
   let e:ŏ (m+1) ϸH=(w,Δ λk=>ŋ)::ŏ m (Δ λk=>! ŋ):=rfl;rw[e];let(N,c):=ih (Δ λk=>! ŋ)<|v.Û _;let first:∀(x:Nat×Ò),x∈ŏ m (Δ λk=>! ŋ)->∀k∈x.2,k∉Δ λk=>ŋ:=λx h k H z=>by let b:=((kL ts m _ x h).2 k H).1;let a:=(K89.mp b).2;let f:=(ϦG z).2;rw[f]at a;cases a
   show(Ϭt,λi j x y h Y n k H=>?_)
   .rcases K8v.mp h with rfl|h
    .change(Δ λk=>ŋ).Nodup
     show v.Û _
    show N x h
   cases i with
   |zero=>
    cases j with
    |zero=>show Ϡ n
    |succ j=>
     let h:(w,Δ λk=>ŋ)=x:=ϱZ
     subst h;let Y:(ŏ m<|Δ λk=>! ŋ)[j]?=ϰO:=ϧx
     exactλz=>first y (K9L Y) k z H
   |succ i=>
    let h:(ŏ m<|Δ λk=>! ŋ)[i]?=Ď:=ϱZ
    cases j with
    |zero=>
     let Y:(w,Δ λk=>ŋ)=y:=ϧx
     subst Y;show first x ϶w k H
    |succ j=>
     let Y:(ŏ m<|Δ λk=>! ŋ)[j]?=ϰO:=ϧx
     show c i j x y h Y Á k H
def HV{ts:À Nd}{x:Nat×Ò}(h:x.2.head?=Â x.1):hd3 (ϳ9 x)=(x.1,ύa x.1,ϔG x.1):=by
 erw[hd3,tmO];rw[N2];cases hx:x.2 with
 |nil=>rw[hx]at h;cases h
 |cons a r=>rw[hx]at h;let h:a=x.1:=ϸP;rw[h];rfl
def Eh(ts:À Nd):(č).Nodup:=K8C.Û _
def cq(ts:À Nd){c:F}(p:ç)(strict:Bool)(s:é):OkG2 ts (Ķ strict):=by
 let g:=RH ts strict s;cases strict with
 |true=>
  let e:Ķ true=ß gsA ts ϳ9:=rfl;rw[e]at g⊢;let(N,u):=Lv ts (Ã č) č<|Eh ts;let f:∀x:Nat×Ò,(Ê (ϳ9 x) λt=>t.1)=x.2:=λx=>by erw[tmO];rw[S1];show Zdu _
  let at1:∀(i:Nat)(gi:À Tm),(ß gsA ts ϳ9)[i]?=Â gi->∃x,á ώQ=Ď/\gi=ϳ9 x:=ϕB
  let o:∀x∈ώQ,∀k∈x.2,Ć:=λx H k K=>cZ ((ϷX H).2 k K).1;let wl:∀x∈ώQ,Č x.1:=λx H=>o x H _<|Zev (ϷX H).1;let m:∀(x:Nat×Ò)(t:Tm),t∈ϳ9 x->t.1∈x.2:=λx t l=>Ϙ (f x) (ϲp ⟨t,l,rfl⟩)
  show(g,ϥ2 G,ϗa,ϧ5 G,ϥ2 G,ϧ5 G)
  .let(x,H,rfl):=϶q
   rw[f];show N x H
  .let(x,H,rfl):=at1 i gi hi
   let(y,Y,rfl):=at1 j J q;show u i j x y H Y n t.1 (m x t l) ?_;rw[z];show m y r T
  .let(x,H,rfl):=϶q
   let M:=ϷX H;rw[HV M.1];let K:=M.2 t.1<|m x t l;show Ϝa<|FZ (cZ K.1) (wl x H) K.2
  .let(x,H,rfl):=϶q
   rw[HV (ϷX H).1];show Ϥx
  let(x,H,rfl):=϶q;let M:=ϷX H;rw[HV M.1];let K:=M.2 t.1<|m x t l;show Sa p (cZ K.1) (wl x H) K.2
 |false=>
  let e:Ķ false=ß fk ts λk=>Ϲc:=rfl;rw[e]at g⊢;let at1:∀(i:Nat)(gi:À Tm),(ß fk ts ϗV)[i]?=Â gi->∃k,á č=Ş/\gi=Ϲc:=ϕB
  show(g,ϥ2 G,ϗa,ϧ5 G,ϥ2 G,ϧ5 G)
  .let(k,K,rfl):=϶q
   simp
  .let(a,A,rfl):=at1 i gi hi
   let(b,B,rfl):=at1 j J q;rw[K95]at l T;subst l;subst T;let z:a=b:=z;subst z;let L:=ώE;let d:=(ZB.mp B);let(L,e1):=L;let(d,E):=d;let nd:=Eh ts;rw[List.Nodup,Zbn]at nd;rcases Zec n with c|c
   .show nd i j L d c<|ϭn E.Ï
   show nd j i d L c<|E.Å e1.Ï
  .let(k,K,rfl):=϶q
   rw[K95]at l;subst l;rfl
  .let(k,K,rfl):=϶q
   rfl
  let(k,K,rfl):=϶q;rw[K95]at l;subst l;rfl
def MO(ts:À Nd):∀(m:Nat)(V:Ò),όI->∀k∈V,∃x∈ŏ m V,k∈x.2:=by
 induction _ with
  |zero=>
   intro V hl k hk
   cases V with
   |nil=>cases hk
   |cons a V=>simp at hl
  |succ m ih=>
   ext x13 hl k hk
   cases x13 with
    |nil=>
     cases hk
    |cons w W=>
     let e:ŏ (m+1) ϸH=(w,Δ λk=>ŋ)::ŏ m (Δ λk=>! ŋ):=rfl;rw[e];cases hr:rel ü Tl k w with
     |true=>show(_,K9z,ϳz ⟨hk,hr⟩)
     |false=>
      let dl:=ύJ;let(x,H,h):=ih (Δ λk=>! ŋ) (by rw[K9p]at hl;lia) k<|ϳz ⟨hk,ϣ hr⟩;show(x,ě H,h)
def EY(ts:À Nd)(strict:Bool){k:Nat}(H:k∈č):∃(j:Nat)(g:À Tm)(t:Tm),ę (Ķ strict)=Â g/\t∈g/\t.1=k:=by
 cases strict with
 |true=>have e:Ķ true=ß gsA ts ϳ9:=rfl;let(x,X,h):=MO ts (Ã č) č ì k H;let(j,J):=Zac X;show(j,ϳ9 x,(k,ύa k,ϔG k),?_,ϲp ⟨k,h,rfl⟩,rfl);rw[e,N2,J];rfl
 |false=>
  let e:Ķ false=ß fk ts λk=>Ϲc:=rfl;let(j,J):=Zac H;show(j,Ϲc,(k,true,false),?_,K95.ó rfl,rfl);rw[e,N2,J];rfl
def prI:Fs:=(bZ (iEn<|xa (Ù 2<|Ç 0) ς ϊ) (ϡ<|Œ 8 9 bB)<|Ϯm 7 Ϫi<|Ϥy (ñ gLt 8 ϸT) (Ç 1)<|ġ<|Ç 1)
def JB(a:Nat):∀(s:Ò)(k p:Nat)(row:À Int),ϖe (iU a (s++[k]) p row) ϥa (ϱ8 όe):=by
 induction _ with|nil=>ext k p row;show rfl|cons b s N3=>ext k p row;rw[K92,iU',N3 k<|p+1,iU',K9p,ê (Ϫ2 s.À)]
def Kd(Fv:À Ο)(T:Tab)(t:ϤM T)(n:Nat)(e a:Nat)(row:À Int)(hr:∀k∈Ó (T e) [],όb)(v0 v1 C c:OD)(V v:Ü OD):
  ∃m o,prI [Â v0,Â v1,Ĕ<|Ą [ϱd,Ä Ŵ],some C,ī,some<|Ñ ϶t,some<|Ñ ϑ,Ň<|aG row,V,v]=ų [Â v0,Â v1,Ĕ<|Ą [ϱd,Ä Ŵ],some C,ī,some<|Ñ ϶t,some<|Ñ ϑ,Ň<|aG<|ϻL (Ó (T e) []),m,o]:=by
 erw[prI];let g:∀(w W b:Ü OD),xa (Ù 2<|Ç 0) ς ϊ [Â v0,Â v1,Ĕ<|Ą [ϱd,Ä Ŵ],w,W,some<|Ñ ϶t,some<|Ñ ϑ,b,V,v]=þ (Ï<|aO<|Ó (T e) []):=λw W b=>by
  let k:=SA (fa:=Ù 2<|Ç 0) (fb:=ς) (fc:=ϊ) (Fv:=Fv) (ρ:=[Â v0,Â v1,Ĕ<|Ą [ϱd,Ä Ŵ],w,W,some<|Ñ ϶t,some<|Ñ ϑ,b,V,v]) (x:=.sh ϱd) (y:=Ñ ϶t) (z:=ϭq) (i:=϶t) ϻg ϰn ϻg ϰn ϻg;rw[k,t e,md];cases T e with|none=>rfl|some l=>rfl
 simp![↓g];generalize L:Ŗ=r;show ϳ2 (ϺK<|∃V v,ρ=[Â v0,Â v1,Ĕ<|Ą [ϱd,Ä Ŵ],some C,ī,some<|Ñ ϶t,some<|Ñ ϑ,Ň<|aG<|ϻL (ł (Ó (T e) []) i),V,v]) ((ϲi _))
 .rintro i d ρ hd ⟨V,v,rfl⟩
  let(x,X,rfl):=kY hd;erw[aO]at X;rw[N2]at X;let(k,H,rfl):=XL.mp X;let lt:k<Ã (ϻL<|ł (Ó (T e) []) i):=Ô Eg (hr k Ϧp)
  let hi:i<Ã (Ó (T e) []):=ϹB;let sn:ϖe (ϻL (ł (Ó (T e) [])<|i+1)) (ϻL<|ł (Ó (T e) []) i) (ϱ8 i):=by rw[ϓT,JB,K9f,K8q Á,K87]
  generalize ϻL (ł (Ó (T e) []) i)=R at*;let s:ixN (Ã (aG R)) ë=Ş:=cW (by rw[d7];show lt);let I:ϫ (aG R)=some (Ñ<|pA R k):=by erw[aG,pA];rw[N2,N2,Nu lt];rfl
  let S:Ϫ (aG R) k (Ñ<|pA R k+ϱ8 i)=aG (ϻL<|ł (Ó (T e) [])<|i+1):=Ĥ nL sn
  let E:∀(w W b:Ü OD)(q:Ü OD),Ϥy (ñ gLt 8 ϸT) (Ç 1) (ġ<|Ç 1) [Â v0,Â v1,Ĕ<|Ą [ϱd,Ä Ŵ],w,W,some<|Ñ ϶t,some<|Ñ ϑ,b,some<|Ñ ÿ,q]=.ok (Ñ<|ϱ8 i):=λw W b q=>by
   erw[sgn];cases h:i<a
   .let h':ÿ<ϑ:=Á
    simp![Z8 h',Os h]
   let h':¬ÿ<ϑ:=Á
   simp![K9q h',P3 h]
  let K:=Aa (xs:=aG R) (i:=7) (j:=k) (z:=ë) (p:=pA R k) (r:=ϱ8 i) (f:=ϔe) (ρ:=[Â v0,Â v1,Ĕ<|Ą [ϱd,Ä Ŵ],some C,ī,some<|Ñ ϶t,some<|Ñ ϑ,Ň<|aG R,some<|Ñ ÿ,some<|Ñ ë]) s I;simp![BG,↓E,K,S];show(_,_,rfl)
 ext ρ' rfl ⟨V,v,rfl⟩;let e1:Ã (fC<|aO<|Ó (T e) [])=Ã (Ó (T e) []):=by erw[fC];rw[K0,K8I,eS]
 rw[e1,K8D];show(V,v,rfl)
def SI:UB (.ok ϱp) b ρ=unK (λy:OD=>yY ϯR y.er) ϵS:=by
 change(match (OD.ol xs).er with| .list ds=>unK (λy:OD=>yY ds y.er) ϵS|_=>L3.R.bad)=_;rw[md]
def prB:Fs:=(ao (ϱn<|ū (Ù 0 ş)<|Ç 0)
 (ao (ϱ4<|IJ (ϸc<|È 0<|È 5 ai) ş)
 (ao (ϳ7<|mE<|όT<|ĝ (Ù 3 ς))
 (ao prI
 (pq 7<|ϥU ϦL)))))
def Qc(ts:À Nd)(he:ĕ)(m:é)(Fv:À Ο)(T:Tab)(t:ϤM T)(n k:Nat)(d:0<k)(h:Ć)(N:∀e,∀q∈Ó (T e) [],q<n)(v1:OD)(o v6 p f g:Ü OD):
  ∃v V a j l,prB [â è,Â v1,Ĕ<|Ą [ϱd,Ä Ŵ],some<|Ę<|T0<|ω (λe=>Ó (T e) []) n k,some<|Ñ ë,o,v6,p,f,g]=ų [â è,Â v1,Ĕ<|Ą [ϱd,Ä Ŵ],some<|Ę<|T0<|ω (λe=>Ó (T e) []) n<|k+1,some<|Ñ ë,v,V,a,j,l]:=by
 obtain⟨nd,H⟩:∃nd,ϸJ=Â nd:=⟨ts[k],by simp[h]⟩
 let g1:=fZ H;let O:nd.e=Ì (ý k):=Ϙ (bL H) (ϯx (λe=>Ó (T e) []) d h).2.2
 let elt:=(ϯx (λe=>Ó (T e) []) d h).2.1;let co:=eA ts (ý k) Á m;let mk:k∈Å (ý k):=ϸN ⟨h,by rw[bL H];show O⟩;let I:=MM (iL<|Å<|ý k) ë<|ϲp ⟨k,mk,rfl⟩;rw[Ih]at I;let x:yY (nD<|Å<|ý k) (Ä ë)=.ok (Ñ<|(ä (Ÿ k))):=I;let R:=qC (rs:=ω (λe=>Ó (T e) []) n k) (i:=ý k) (Ô mQ elt);rw[zf Á elt]at R;let r:=gR (NU:=λe=>Ó (T e) []) (n:=n) he (ý k) Á;let L:Ê (ß T0 (ω (λe=>Ó (T e) []) n k) OD.sh) OD.er=T0 (ω (λe=>Ó (T e) []) n k):=aI _;let E:∀W b w c:Ü OD,mE (όT<|ĝ (Ù 3 ς)) [â è,Â v1,Ĕ<|Ą [ϱd,Ä Ŵ],some<|Ę<|T0<|ω (λe=>Ó (T e) []) n k,W,some<|Ñ (ý k:Int),some<|Ñ<|(ä (Ÿ k)),b,w,c]=ģ (aG<|϶e (λe=>Ó (T e) [])<|ý k):=λW b w c=>by erw[iD]at R;cases W<;>cases b<;>cases w<;>cases c<;>simp![L,R]<;>(change(Ë (((aG<|϶e (λe=>Ó (T e) [])<|ý k).all Ϻ9)=true) (L3.R.ok (OD.ol<|ß aG (϶e (λe=>Ó (T e) [])<|ý k) λy=>Đ y.er)) Î)=_;rw[Os<|sM _,yU])
 let(j,l,pi):=Kd Fv T t n (ý k) (Ÿ k) (϶e (λe=>Ó (T e) [])<|ý k) (by rw[r];show N _) (.sh<|Ï è) v1 (Ę<|T0<|ω (λe=>Ó (T e) []) n k) (Ñ ë) f g;let sn:ß T0 (ω (λe=>Ó (T e) []) n k) OD.sh++[Đ<|Ï<|(iU (Ÿ k) (Ó (T<|ý k) []) 0<|϶e (λe=>Ó (T e) [])<|ý k).map int]=ß T0 (ω (λe=>Ó (T e) []) n<|k+1) OD.sh:=by
  rw[yo];show Ϲq OD.sh ?_;rw[spF',P3 Á,zf Á elt];erw[T0];rw[K9i];rfl
 let B:ϱK (Ã (T0<|ω (λe=>Ó (T e) []) n k)):=c8 (by erw[T0];rw[K0,mQ];lia);show(some<|Ñ (ý k:Int),some<|Ñ<|(ä (Ÿ k)),â<|(iU (Ÿ k) (Ó (T<|ý k) []) 0<|϶e (λe=>Ó (T e) [])<|ý k).map int,j,l,?_);erw[prB];rw[O]at g1;simp![g1,co,SI,iP,x,↓E,↓pi,aW,K0,B,sn]
def Ax(ts:À Nd){c:F}(p:ç)(h:Ź)(l:é)(m:Č 0)(strict:Bool)(n:Ϸ2<=900):
  gG [Ï è,ã strict]=.ok (Ę<|T0<|ϭO ts.À):=by
 let he:=ľ;let(Fv,t,k):=xc ts p h l strict;let ok:=cq ts p strict l;erw[gG,nF];let Z:=zeros Ϸ2 (ä Ϸ2) rfl Á;let w:Κ 1:=Ŕ Ý;let z:Κ ((Ì ts.À)):=Ŕ Á;let E:(OD.ot [Ϸq,Ñ<|(Ì (ϥk).2)]).er=Ą [ϱd,Ä (ä Ϸ2)]:=ϣ M_
 let R:Đ (Ï ((ϳ3 Ϸ2 Ϻq)))=Đ (iD<|ϳ3 Ϸ2 0):=ű iD Zbk
 simp![k,E,Z,aI,aH,w,z,K7m];generalize H:Ŗ=r;show aX H (λi j=>∃g v v6 V a f:Ü OD,j=[â è,Ĕ<|ã strict,Ĕ<|Ą [ϱd,Ä (ä Ϸ2)],some<|Ę<|T0<|ϭO<|i+1,g,v,v6,V,a,f]) ⟨none,none,none,none,none,none,by rw[R];rfl⟩ ?_ ?_
 .rintro i d j hd ⟨g,v,v6,V,a,f,rfl⟩
  let(hi,rfl):=϶M;rw[ê (ĩ (Ì ts.À-1)=ĵ)]at hi;rw[ê (Ì 1+ÿ=ä (i+1))];let B:=Qc ts he l Fv (ϥk).1 t Ϸ2 (i+1) Á Á (λe q Q=>ϓU) (.sh<|ã strict) v v6 V a f;let b:=Zab<|ϐU<|Zab B;change qS _ (prB [â è,Ĕ<|ã strict,Ĕ<|Ą [ϱd,Ä (ä Ϸ2)],some<|Ę<|T0<|ϭO<|i+1,some<|Ñ<|(ä (i+1)),v,v6,V,a,f]);let P:prB [â è,Ĕ<|ã strict,Ĕ<|Ą [ϱd,Ä (ä Ϸ2)],some<|Ę<|T0<|ϭO<|i+1,some<|Ñ<|(ä (i+1)),v,v6,V,a,f]=_:=b;rw[P];show(_,_,_,_,_,_,rfl)
 ext ρ' rfl ⟨g,v,v6,V,a,f,rfl⟩;let e:İ (Ã (ky 1 (ĩ (Ì ts.À-1)))+1):=by
  rw[ê (ĩ (Ì ts.À-1)=ĵ)];erw[ky];simp;lia
 rw[e];simp![S5]
open Lp (pA sm Dem dR dC)
section
variable(ts:À Nd)(S:Nat->À Int)
def lfR(r:Ò):À Int×Int:=([1,0]++τ (S ϰC) 2,û ϰC)
def rtR(r:Ò):À Int×Int:=([0,1]++Ê (τ (S ϱ) 2) ϸr,û ϱ)
def Cf(a b:À Int):À Int:=Ê ϬX λp=>p.2-p.1
def gpR(Ds:Int)(p:Ϻ):À Int×Int:=(Cf (S p.1)<|S p.2,ϱ2 p)
def sdL:Dem:=Ê Í (Ϥi S)++Ê Í (Ϥj S)
def gdL(Ds:Int):Dem:=ß S4 Í<|gpR ts S Ds
def DT(Ds:Int):Dem:=ϥK S++gdL ts S Ds
end
def uI(a b:Dem):dsD a++dsD b=dsD ϦD:=ű dsD K9i
def xm(ts:À Nd)(rs:À (À Int))(he:ĕ)(p:Č 0)(L:é)(l:ϵe)(hr:İ rs.À)(n:Nat)(t:2<=n)(N:n<=900)(W:∀k,Ć->Ã (Ó ϶C [])=n):
  c9 [Ï è,Ï ϭr]=.ok (Ę<|dsD<|ϥK (λk=>Ó ϶C [])):=by
 erw[c9,kF];let nn:=ϺE p;let u:ϱ1 (Ã Í):=nn.2;let lv:=kX ts he L;let G:ϟ ts.À=Í:=rfl;rw[G]at lv;let s:=rsh ts;let v:=lK ts;simp![jR ts l L,s,lv,mD];generalize w:Į=rc
 let e:=aS w (λr:Ò=>ϴO ϶G) (λr=>.sh<|dmD<|Ϥi (λk=>Ó ϶C []) r) Í rfl (K94<|aF Á) (by
  ext r R;let(j,H):=Zac R;let(g,J):=Ϫq H;let(A,c,m,o):=bX g;let b1:=J _ m;let d:=ϯ6 ϰC Á;let q:=W _ b1;let T:=Ϸa ϸS ϰC Á;erw[iD]at d;let c1:ϲd (Ê (Ó (rs[ϰC]?) []) int) (Â 2) none=Ê (τ (Ó (rs[ϰC]?) []) 2) int:=by
   let:=i8 (Ê (Ó (rs[ϰC]?) []) int) 2 (Ă K0);rw[ϸg (ä 2) 2]at this;rw[this,Zbt]
  let g1:=Ϫg [int 1,Ϻq] (Ê (τ (Ó (rs[ϰC]?) []) 2) int) (by rw[K0,K8y];simp;lia)
  simp![A,d,c1,aI,T,g1];rfl)
 subst e;clear w;simp![S5];generalize w:Į=rc
 let e:=aS w (λr:Ò=>ϴO ϶G) (λr=>.sh<|dmD<|Ϥj (λk=>Ó ϶C []) r) Í rfl (K94<|aF Á) (by
  ext r R;let(j,H):=Zac R;let(g,J):=Ϫq H;let(A,c,m,o):=bX g;let b1:=J _ o;let d:=ϯ6 ϱ Á;let q:=W _ b1;let T:=Ϸa ϸS ϱ Á;erw[iD]at d;let c1:ϲd (Ê (Ó (rs[ϱ]?) []) int) (Â 2) none=Ê (τ (Ó (rs[ϱ]?) []) 2) int:=by
   let:=i8 (Ê (Ó (rs[ϱ]?) []) int) 2 (Ă K0);rw[ϸg (ä 2) 2]at this;rw[this,Zbt]
  simp![c,d,c1,aI,T];generalize h:Į=rc2;let E:=aS h int (λx=>Ñ<|-x) (τ (Ó (rs[ϱ]?) []) 2) rfl (Ô K8y<|K94<|aF Á) ϮA;subst E;let g1:=Ϫg [Ϻq,int 1] ((Ê (τ (Ó (rs[ϱ]?) []) 2) ϸr).map int) (by rw[K0,K0,K8y];simp;lia);let em:Ϩo (Ê (τ (Ó (rs[ϱ]?) []) 2) λx=>Đ<|Ä<|-x) (Ê (τ (Ó (rs[ϱ]?) []) 2) ϸr):=Ζ S1 S1 (ϻ5 ϰn)
  simp![em,aI,g1];rfl)
 subst e;let M:∀f:Ò->À Int×Int,(Ê Í λr=>Đ<|dmD<|f r).map OD.er=dsD (Ê Í f):=λf=>ϪQ dsD (λr _=>ϰn)
 let g2:=kE (a:=dsD<|Ê Í<|Ϥi (λk=>Ó ϶C [])) (b:=dsD<|Ê Í<|Ϥj (λk=>Ó ϶C [])) (by rw[tY,tY,K0,K0];lia);rw[uI]at g2;simp![M,g2];rfl
def zm(ts:À Nd)(rs:À (À Int))(Ds:Int)(he:ĕ)(m:Č 0)(c:é)(l:ϵe)(hr:İ rs.À)(n:Nat)(N:n<=900)(w:∀k,Ć->Ã (Ó ϶C [])=n):
  dW [Ï è,Ï ϭr,Ä Ds]=.ok (Ę<|dsD<|ϨX (λk=>Ó ϶C [])):=by
 erw[dW,lN];let as:=zM ts Ds he l c;let nl:ϲx (Ã (S4 Í)):=by
  let:=oO Í;let ok:İ (Ê Í List.length).sum:=(ϵ5 ì).sum;lia
 simp![as,aI];generalize L:Ŗ=r;show ϳ2 (λi b=>∃v V v6 a:Ü OD,b=[â è,â ϭr,some<|Ñ Ds,some<|Ę<|dsD<|Ê (ł (S4 Í) i)<|ϹO (λk=>Ó ϶C []),v,V,v6,a]) ϑm
 .rintro i d b hd ⟨v,V,v6,a,rfl⟩
  rw[N2]at hd;let(p,H,rfl):=ϹV;let hi:=ϹB;let(e,j):=ϸw Ϧp;let I:=ϯ6 p.1 Á;let f:=ϯ6 p.2 Á;let W:=w _ e;let o:=w _ j;erw[iD]at I f;let z:=Am (Ó Ϭ1 [])<|Ó Ϭ2 [];erw[Dx];simp![I,f,z];generalize h:Į=rc2;let g:=aS h (λq:ϰi=>ϱ0 [Ä q.1,Ä q.2]) (λq=>Ñ<|q.2-q.1) ((Ó Ϭ1 []).zip<|Ó Ϭ2 []) rfl (Ô Zao<|K94<|aF Á) ϮA;subst g;let em:Ϩo (((Ó Ϭ1 []).zip<|Ó Ϭ2 []).map λq=>Đ<|Ä<|q.2-q.1) (Cf (Ó Ϭ1 [])<|Ó Ϭ2 []):=ϪQ Cf (λx _=>ϰn)
  let B:ϱK (Ã (dsD<|Ê (ł (S4 Í) i)<|ϹO (λk=>Ó ϶C []))):=c8 (ϳr tY K0 K9f);let sn:ß dsD (Ê (ł (S4 Í) i)<|ϹO (λk=>Ó ϶C [])) OD.sh++[Đ<|Ą [Ï<|(Cf (Ó Ϭ1 [])<|Ó Ϭ2 []).map int,Ä<|ϱ2 p]]=ß dsD ((ł (S4 Í)<|i+1).map<|ϹO (λk=>Ó ϶C [])) OD.sh:=by rw[yo,ϓT];show Ϲq OD.sh ?_;erw[dsD];rw[K9i,K9i];rfl
  simp![em,K0,B,sn];show(_,_,_,_,rfl)
 ext ρ' rfl ⟨v,V,v6,a,rfl⟩;rw[K0,K8D];simp![S5];rfl
def HB(a:Nat):∀(s:Ò)(p:Nat)(row:À Int)(j:Nat),(∀k∈s,όb)->-(Ì s.À)<=Ņ ϥa-Ō j/\Ņ ϥa-Ō j<=s.À/\(j∉s->Ņ ϥa=Ō j):=by
 induction _ with
 |nil=>ext p row j _;rw[iU''];show(?_,?_,ώd)<;>simp
 |cons k s N3=>
  ext p row j h;let K:=h k K9z;let(H,b,f):=N3 (p+1) (ϧo<|Ō k+ϱ8 p) j λq Q=>Ô K8z (h q<|ě Q)
  rw[iU'];rw[wj K]at H b f;let g:ϵf (ϱ8 p) 1 (-1):=by erw[sgn];split<;>simp
  rw[K9p];cases e:j=k
  .subst e
   rw[Ĝ]at H b;apply(Á,Á,λn=>ĭ K9z n)
  rw[ϲt]at H b f;show(Á,Á,λn=>f λz=>n<|ě z)
section
variable{ts:À Nd}{c:F}{s:Bool}
abbrev ST(ts:À Nd)(s:Bool)(k:Nat):À Int:=spt ts ø Þ k
def vZ(p:ç)(h:é):∀v,϶6->Θ 2 (Ņ (į v)=0):=by
 let he:=ľ;let ok:=ϰ1 h;ext v
 induction v using Nat.strongRecOn with
 |ind v ih=>
  ext H j J;cases a:v=0
  .subst a
   erw[ST];rw[qK H];erw[pA];rw[K8Z];split<;>rfl
  let(e1,g,_):=ϬR ø Þ Á H;erw[ST];rw[e1,(HB _ _ _ _ j λq Q=>Ô (ϹM Á) ϓU).2.2 λz=>Ĳ (sV ok z).1];show ϲ2 g Á j J
def FI(p:ç)(a:é)(e:Nat):Ã (ø e)<=Ã (Å e)-1:=by
 cases h:ø e=[]
 .rw[h]
  show ϰS
 show Nat.le_of_eq<|Ak (ϰ1 a) h
def Ke(a:Č 0)(he:ĕ)(e:Nat):Ã (Å e)<=ĵ:=by
 erw[F5];obtain⟨m,M⟩:ϚK:=⟨ĵ,Á⟩
 rw[M,List.range_succ_eq_map,Zbb]
 .apply K9C ώu ?_
  rw[K0,Z7];lia
 obtain⟨nd,n⟩:∃nd,ts[0]?=Â nd:=Ϙ9
 let:=(he 0 nd n).1 rfl;rw[<-bL n]at this;rw[this];simp
def C1(p:ç)(h:Č 0)(l:ϰJ 12):∀v,϶6->∀j,Ś (-(11*(v:Int))) (Ņ (į v)) (11*(v:Int)):=by
 let he:=ľ;let ok:=ϰ1 Á;ext v
 induction v using Nat.strongRecOn with
 |ind v ih=>
  ext H j;cases Z:v=0
  .subst Z
   erw[ST];rw[qK H];erw[pA];rw[K8Z];split
   .exact(Ý,Ý)
   show(Ý,Ý)
  let(e1,g,_):=ϬR ø Þ Á H;let(A,a,_):=HB (Ÿ v) (ø<|ý v) 0 (į<|ý v) j λq Q=>Ô (ϹM Á) ϓU
  let b:=ϲ2 g Á j;let f:=ϔR Á<|ý v;let J:=Ke h he<|ý v;erw[ST];rw[e1];erw[ST]at A a b;lia
end
def Dz{row:À Int}(a:Ō 0=0)(h:Ō 1=0)(x y:Int)(i:Nat):ř (϶K++row.ä 2)=Ō i+(if i=0 then x else if i=1 then y else 0):=by
 match i with
 |0=>rw[Ĝ,a,K8R];rfl
 |1=>
  rw[P3 Ý,Ĝ,h,K8R];rfl
 |i+2=>
  rw[P3 Á,P3 Á,Zak];erw[pA];rw[K9a Û,K84];simp;rw[ê (2+i=i+2)]
def Cv(row:À Int)(i:Nat):pA (row.Ç ϸr) i=-Ō i:=by erw[pA];rw[N2];cases row[i]? <;>rfl
def Tc{a b:À Int}(h:a.À=b.À)(i:Nat):ř (Cf a b)=pA b i-pA a i:=by
 erw[Cf,pA];rw[N2];cases hi:i<a.À
 .let:á ϬX=Â (a[i]'hi,b[i]' Á):=Ô Zan (ϰD,Nu Á)
  rw[this,ϰD,Nu Á];rfl
 rw[K9c (Ă Zao),K9c Á,K9c Á];rfl
section
variable{ts:À Nd}{c:F}{s:Bool}{Ds:Int}
abbrev DD(ts:À Nd)(s:Bool)(Ds:Int):Dem:=DT ts į Ds
def lJ(ts:À Nd)(s:Bool)(Ds:Int):Ã ċ=2*Ã Í+Ã (S4 Í):=by
 erw[DD,DT,sdL,gdL];rw[K9v,K9v,K0,K0,K0];lia
def Ia{j:Nat}{r:Ò}(h:ę Í=ϰQ):ę ċ=Â (Ϥi į r):=by
 let J:=ϲI;erw[DD,DT,sdL];rw[K9V (Ϲ K9v K0),K9V (όh K0),N2,h];rfl
def Er{j:Nat}{r:Ò}(h:ę Í=ϰQ):ċ[Ã Í+j]?=Â (Ϥj į r):=by
 let J:=ϲI;erw[DD,DT,sdL];rw[K9V (ϳr K9v K0 K0),K9a (Ă K0),K0,N2,ê (Ã Í+j-Ã Í=j),h];rfl
def Lw{i:Nat}{p:Ϻ}(h:(S4 Í)[i]?=ϲn):ċ[2*Ã Í+i]?=Â (ϹO į p):=by
 let J:=ϲI;erw[DD,DT,sdL,gdL];rw[K9a (ϳr K9v K0 K0),K9v,K0,K0,N2,ê (2*Ã Í+i-(Ã Í+Ã Í)=i),h];rfl
def uR{j:Nat}(J:j<Ã ċ):(∃(i:Nat)(r:Ò),j=i/\á Í=ϰQ/\dR ċ j=(Ϥi į r).1/\dC ċ j=(Ϥi į r).2)\/
  (∃(i:Nat)(r:Ò),j=Ã Í+i/\á Í=ϰQ/\dR ċ j=(Ϥj į r).1/\dC ċ j=(Ϥj į r).2)\/
  (∃(i:Nat)(p:Ϻ),j=2*Ã Í+i/\(S4 Í)[i]?=ϲn/\dR ċ j=(ϹO į p).1/\dC ċ j=(ϹO į p).2):=by
 rw[lJ]at J;cases h:j<Ã Í
 .let e:=ϱi
  let d:=Ia (s:=s) (Ds:=Ds) e;show Ð ⟨j,_,rfl,e,Ϲa dR,Ϲa dC⟩
 cases H:j<2*Ã Í
 .let e:=Nu (l:=Í) (i:=j-Ã Í) ϱI
  let d:=Er (s:=s) (Ds:=Ds) e;rw[ϕO (Ã Í)]at d;show Ø<|Ð ⟨j-Ã Í,_,ϱI,e,Ϲa dR,Ϲa dC⟩
 let e:=Nu (l:=S4 Í) (i:=j-2*Ã Í) ϱI;let d:=Lw (s:=s) (Ds:=Ds) e;rw[ϕO (2*Ã Í)]at d;show Ø<|Ø ⟨j-2*Ã Í,_,ϱI,e,Ϲa dR,Ϲa dC⟩
def HH(p:ç)(a:é){r:Ò}(hr:Č ϰC)(i:Nat):ř (Ϥi į r).1=ř (į ϰC)+(Ë (i=0) 1 0):=by
 change ř ([1,0]++τ (į ϰC) 2)=_;rw[Dz (ϮE 0 Á)<|ϮE 1 Á]
 split
 .rfl
 split<;>rfl
private def Ij(p:ç)(a:é){r:Ò}(hr:Č ϱ)(i:Nat):ř (Ϥj į r).1=-ř (į ϱ)+(Ë (i=1) 1 0):=by
 change ř ([0,1]++Ê (τ (į ϱ) 2) ϸr)=_;rw[Zbt,Dz (ϰ7 Cv<|ϮE 0 Á) (ϰ7 Cv<|ϮE 1 Á),Cv]
 split
 .rename_i h
  rw[P3 Á]
 rfl
def GL(p:ç){q:Ϻ}(h:Č q.1)(H:Č q.2)(i:Nat):ř (ϹO į q).1=ř (į q.2)-ř (į q.1):=by
 let he:=ľ;change ř (Cf (į q.1)<|į q.2)=_;rw[Tc<|by rw[ϹM h,ϹM H]]
def mT(h:Ź)(k:Nat):Ś 0 (û k) 4:=by
 erw[I4,ay];rw[N2];cases hk:ts[k]? with
 |none=>show(Zbr 0,Ý)
 |some nd=>
  let:=h nd<|K9L hk;let a:=Ϻm;let b:=this.2.1;change Ś 0 (Ì nd.ç / 2) 4;lia
def Hk(p:ç)(h:Ź)(H:Č 0)(l:ϰJ 12)(g0:ϱx)(g1:϶D):Lp.Sm 256 ċ:=by
 let he:=ľ;show(Ý,λj k=>?_,λj=>?_)
 .by_cases d:j<Ã ċ
  .rcases uR d with⟨i,r,_,hr,e,_⟩|⟨i,r,_,hr,e,_⟩|⟨i,q,_,Q,e,_⟩
   .let(g,J):=ϸo
    let b:=J _ (ϴz (bX g));rw[e,HH p Á b];let:=ϯg b k;split<;>lia
   .let(g,J):=ϸo
    let b:=ώV (bX g);rw[e,Ij p Á b];let:=ϯg b k;split<;>lia
   let(L,f):=ϸw<|K9L Q;rw[e,GL p L f];let a:=ϯg L k;let b:=ϯg f k;lia
  let:dR ċ j=[]:=Ϗ dR (K9c Á)
  rw[this];let z:ϱj []=0:=rfl;rw[z];show(Ý,Ý)
 cases d:j<Ã ċ
 .rcases uR d with⟨i,r,_,hr,_,e⟩|⟨i,r,_,hr,_,e⟩|⟨i,q,_,Q,_,e⟩
  .rw[e]
   let:=ϱQ ϰC;change Ś (-(ä 256)) (û ϰC) ϥG
   lia
  .rw[e]
   let:=ϱQ ϱ;change Ś (-(ä 256)) (û ϱ) ϥG
   lia
  rw[e];let a:=ϱQ q.1;let b:=ϱQ q.2;change Ś (-(ä 256)) (ϱ2 q) ϥG
  erw[bI];lia
 let:dC ċ j=0:=Ϗ dC (K9c Á)
 rw[this];show(Ý,Ý)
end
def V1{r:Ò}(p:Ϯ0){a b:Nat}(A:a∈r)(B:b∈r)(h:a<b)(n:∀w∈r,a<w->b<=w):(a,b)∈ϳI:=by
 let(i,hi):=Zac A;let(j,H):=Zac B;let(d,f):=ϻV;let(J,c):=ϭg;rw[Zbn]at p;let I:i<j:=by
  rcases Zba i j with q|q|q
  .show q
  .subst q
   lia
  let:=p j i J d q;lia
 let L:i+1<r.À:=Á
 let W:=n _ (Zah L) (Ĳ<|p i (i+1) d L Á);let e1:r[i+1]=b:=by
  cases q:i+1=j
  .subst q
   show c
  let:=p (i+1) j L J Á;lia
 show K9L (i:=i) ?_;erw[prs];rw[Zan];show(hi,by rw[K84,ê (1+i=i+1),ϸW,e1])
def Uj{r:Ò}(p:Ϯ0){q:Ϻ}(h:q∈ϳI):q.1<q.2:=by
 let(i,hi):=Zac h;erw[prs]at hi;rw[Zan]at hi;let(a,H):=hi;rw[K84]at H;let(d,f):=ZB.mp a;let(j,J):=ϭg;rw[Zbn]at p;let:=p i (1+i) d j Á;lia
def Co{a:À Ò}{r:Ò}(hr:r∈a){q:Ϻ}(h:q∈ϳI):q∈S4 a:=by
 induction a with
 |nil=>cases hr
 |cons x a ih=>
  let e:S4 (x::a)=prs x++S4 a:=rfl;rw[e];rcases K8v.mp hr with rfl|hr
  .show ϰA h
  show Τ<|ih hr
section
variable{ts:À Nd}{c:F}{s:Bool}{Ds:Int}
def kP(he:ĕ){j:Nat}{r:Ò}(h:ę Í=ϰQ):Ϯ0/\∀k,k∈r↔Ć/\ϒ k=j:=by
 let ok:=ϵ5 ì;let(_,H,f):=ϫ7 h;show(H,ϥ9);rw[f k];constructor
 .rintro⟨a,b⟩
  show(a,?_);erw[lvN];rw[b];rfl
 ext⟨a,b⟩;show(a,?_);let:k<Ã ϱq:=ϔb f6
 rw[<-b];erw[lvN];rw[Nu this];rfl
def xy(he:ĕ){k:Nat}(h:Ć):∃r,Í[ϒ k]?=ϰQ/\k∈r:=by
 let ok:=ϵ5 ì;let U:k<Ã ϱq:=Ϲu f6
 let H:ϫ ϱq=Â (ϒ k):=Ϗ lvN (Nu U)
 let lt:=ok.lt k (ϒ k) h H;let e:Í[ϒ k]?=Â (Í[ϒ k]'lt):=Nu lt;show(_,e,(Ϻk e).2 k |>.mpr ⟨h,rfl⟩)
def nM(he:ĕ){q:Ϻ}(h:q∈S4 Í):q.1<q.2/\Č q.2/\ϒ q.1=ϒ q.2:=by let(r,hr,H):=B6 h;let(j,J):=Zac hr;let(T,p2):=Ϻk J;let(M,Q):=BP H;let a:=(p2 _).mp M;let b:=(p2 _).mp Q;show(Uj T H,b.1,Ĥ a.2 b.2)
def Om(p:ç){e a u v:Nat}(U:(Å e)[a]?=ķ)(d:(Å e)[a+1]?=ĥ):(u,v)∈S4 Í:=by
 let he:=ľ;let m:=K9L U;let M:=K9L d;let g:=ϋ m;let gv:=ϋ M;let o:=ϳG m;let lv:=ϳG M;let t:Ϥd (Å e) ϩA:=ϵp F5 ύE
 let(r,hr,h):=xy he g.2;let(T,p2):=Ϻk hr;let(A,k):=ZB.mp U;let(b1,B):=ZB.mp d;let s:=t;rw[Zbn]at s;let V:u<v:=Ĳ (s a (a+1) A b1 Á)
 show ϯw<|V1 T h ((p2 v).mpr ⟨gv.2,Á⟩) V λw f H=>?_;cases W:v<=w
 .show W
 let(b,y):=(p2 w).mp f;let E:Ĩ w=Ì (ý w):=(϶W he Á b).2.2;let x:=zU p b H Á ((bh.mp m).2) E;let Q:=zU p gv.2 Á Á E<|(bh.mp M).2;let e1:ý w=e:=Á
 let j:w∈Å e:=ϸN ⟨b,by rw[E,e1]⟩;let(i,hi):=Zac j;let(I,l):=ϻV;let c1:a<i:=by
  rcases Zba a i with q|q|q
  .show q
  .subst q
   lia
  let:=s i a I A q;lia
 let L:i<a+1:=by
  rcases Zba i (a+1)with q|q|q
  .show q
  .subst q
   lia
  let:=s (a+1) i b1 I q;lia
 lia
def GR{n:Nat}{row:À Int}{j:Nat}(J:j<n):dot n (λk=>Ë (k=j) 1 0) row=Ō j:=by
 erw[dot];change ĳ (λk=>Ō k*(Ë (k=j) 1 0))=_;rw[Lp.c7 (f:=λk=>Ō k*(Ë (k=j) 1 0)) (l:=j) n J λi _ h=>Ĥ ϱA Zaa];change Ō j*(Ë (j=j) 1 0)=_;rw[Ĝ,Zbl]
def CS(p:ç)(l:é){e q u v k:Nat}(H:(ø e)[q]?=Ş)(U:(Å e)[q]?=ķ)(V:(Å e)[q+1]?=ĥ)(j:Nat)(J:j<Þ):Ņ (į v)-Ņ (į u)=Ë (j=k) 2 0:=by
 let he:=ľ;let ok:=ϰ1 l;let n:ϩJ (ø e) Þ:=λe k H=>(sV ok H).2;let a:=kW (x:=λi=>Ë (i=j) 1 0) he n U;let b:=kW (x:=λi=>Ë (i=j) 1 0) he n V;let o:=vI (λi=>Ë (i=j) ((Ì 1)) 0) (ø e) q 0 q k Á H;erw[plc]at a b;rw[GR J,GR J]at a b;let e1:((Ë (k=j) ((Ì 1)) 0))*2=Ë (j=k) 2 0:=by
  cases h:k=j
  .rw[ϰo,Os h.Ï];rfl
  rw[ϱA,P3 Ϧj];rfl
 let O:eP (λi=>Ë (i=j) ((Ì 1)) 0) (q+1) (ø e) 0=eP (λi=>Ë (i=j) 1 0) q (ø e) 0+2*(Ë (k=j) 1 0):=o;erw[ST];rw[<-e1];lia
def FF(p:ç)(a:é):Θ (Ã ċ) (Ã (dR ċ j)=Þ):=λj h=>by
 let he:=ľ;let ok:=ϰ1 a;let N:=qV ok;rcases uR h with⟨i,r,_,hr,e,_⟩|⟨i,r,_,hr,e,_⟩|⟨i,q,_,H,e,_⟩
 .let(g,J):=ϸo
  let b:=J _ (ϴz (bX g));rw[e];change Ã ([1,0]++τ (į ϰC) 2)=_;rw[K9v,K8y,ϹM b];simp;lia
 .let(g,J):=ϸo
  let b:=ώV (bX g);rw[e];change Ã ([0,1]++Ê (τ (į ϱ) 2) ϸr)=_;rw[K9v,K0,K8y,ϹM b];simp;lia
 let(L,l):=ϸw Ϧp;rw[e];change Ã (Cf _ _)=_;erw[Cf];rw[K0,Zao,ϹM L,ϹM l];lia
def Qb{row:À Int}{i:Nat}(h:row.À<=i):Ō i=0:=Ϗ pA (K9c h)
def Bh(he:ĕ){k:Nat}(H:Ć)(h:ϒ k=0):k=0:=by
 cases a:k=0
 .show a
 let T:=϶W he Á H;let:=ϳG<|ϸN ⟨H,T.2.2⟩;lia
def By(p:ç)(H:Č 0)(a:é):∀i,i<Þ->∃j,j<Ã ċ/\rS (dR ċ j) i=true:=λi hi=>by
 let he:=ľ;let ok:=ϰ1 a;let(N,m):=ϺE H;let N:0<Ã Í:=N;let dl:=ύb;let R:Í[0]?=Â (Í[0]'N):=Nu N;let(F,J):=Ϫq R;let(P,p2):=Ϻk R;let re:=bX F;let h:hdN (Í[0]'N)=0:=ϖq ((ϴz re));let L:ltN (Í[0]'N)=0:=ϖq re.2.2.2;let Z:∀k,ϱj (į 0)=0:=λk=>by erw[ST];rw[qK H];erw[pA];rw[K8Z];split<;>rfl
 cases C:i=0
 .subst C
  show(0,Á,?_);let d:=Ia (s:=s) (Ds:=Ds) R;let e:dR ċ 0=(Ϥi į<|Í[0]'N).1:=Ϲa dR
  rw[e,qW];show(?_,λl n=>?_)
  .rw[Ϙw,h,Z,Ĝ]
   decide
  rw[Ϙw,h,Z,P3 n];rfl
 cases c1:i=1
 .subst c1
  show(Ã Í+0,Á,?_);let d:=Er (s:=s) (Ds:=Ds) R;let e:dR ċ (Ã Í+0)=(Ϥj į<|Í[0]'N).1:=Ϲa dR
  rw[e,qW];show(?_,λl n=>?_)
  .rw[Ϙx,L,Z,Ĝ]
   decide
  rw[Ϙx,L,Z,P3 n];rfl
 let(e,q,K):=Oh ok Á hi;let Q:=(ϱa K);let ln:=Ak ok (e:=e) (ϘG K);let U:(Å e)[q]?=Â ((Å e)[q]' Á):=Nu Á;let V:(Å e)[q+1]?=Â ((Å e)[q+1]' Á):=Nu Á;generalize (Å e)[q]' Á=u at U;generalize (Å e)[q+1]' Á=v at V;let(t,T):=Zac<|Om p U V;let(f,g):=ϸw<|K9L T;show(2*Ã Í+t,Ĳ (ZB.mp T).1,?_);let d:=Lw (s:=s) (Ds:=Ds) T;let er:dR ċ (2*Ã Í+t)=(ϹO į (u,v)).1:=Ϲa dR
 let r:=FF (s:=s) (Ds:=Ds) p a (2*Ã Í+t) (Ĳ (ZB.mp T).1);rw[er]at r⊢;rw[qW];show(?_,λl n=>?_)
 .rw[GL p f g]
  let:=CS p a K U V i hi;rw[Ĝ]at this;change 0<ř (į v)-ř (į u);lia
 cases b:l<Þ
 .rw[GL p f g]
  let:=CS p a K U V l b;rw[P3 n]at this;show this
 show Qb Á
end
def gS(t:Nat):Int:=(ä (64*24^t))
def CK(t:Nat):64<=gS t:=by
 erw[gS];let:1<=24^t:=Zfs Ý;lia
def Rg{a b:Nat}(h:a<b):24*gS a<=gS b:=by
 erw[gS];let H:24^(a+1)<=24^b:=Zbu Ý h;rw[Zcm]at H;lia
section
variable{ts:À Nd}{c:F}{s:Bool}{Ds:Int}
open Classical in
def xS(ts:À Nd)(s:Bool)(k:Nat):Int:=ϩl (∃e,k∈ø e) (gS (ϰL ϬI)) 0
def Nm(p:ç)(a:é){e k:Nat}(h:k∈ø e):ϹR k=gS (ϰL e):=by let x:∃e,k∈ø e:=⟨e,h⟩;erw[xS];rw[dif_pos x,QD (ϰ1 a) (Zab x) h]
def Lq(x:å)(g:Int)(hg:0<=g):∀(s:Ò)(a p:Nat),(∀k∈s,x k=g)->Ś (-(s.À*g)) (ϵx p) (s.À*g):=by
 induction _ with
 |nil=>ext _ _ _;rw[eP''];simp
 |cons k s N3=>
  ext a p h;let(b,c):=ϔF (λq H=>h q<|ě H);rw[eP',h k K9z,K9p,Zcv,Zbq];erw[sgn];split<;>lia
def QK(x:å)(g:Int)(hg:0<=g)(s:Ò)(H:∀k∈s,x k=g):∀(d a:Nat),a+d<=s.À->ϴ9 (a+d) s 0=ϵx 0+2*d*g:=by
 induction _ with
 |zero=>ext a _;rw[Zfl];simp
 |succ d N3=>
  ext a h;obtain⟨k,q⟩:∃k,s[a+d]?=Ş:=⟨s[a+d]' Á,Nu Á⟩
  let o:=vI x s (a+d) 0 (a+d) k Á q;rw[ê (a+(d+1)=a+d+1),o,N3 a Á,H k<|K9L q,Zcv,Zav,Zbq];lia
abbrev pS(ts:À Nd)(s:Bool)(k:Nat):Int:=ξ ø Þ ϹR k
def JE(p:ç)(b:Č 0)(K:ϰJ 12):∀l u v,u<v->϶6->ϒ u=l->ϒ v=l->ϭl u+64+12*gS (ϰL u)+12*gS (ϰL v)<=ϭl v:=by
 let he:=ľ;let ok:=ϰ1 Á;let N:ϩJ (ø e) Þ:=λe k h=>(sV ok h).2;ext l
 induction l with
 |zero=>
  ext u v V H _ L;let:=Bh he H L;lia
 |succ l ih=>
  ext u v V H U L;let u0:0<u:=by
   rcases Zcg u with z|z
   .subst z
    let:=rj he b;lia
   show z
  let S:=ϬR ø Þ u0 Á;let d:=ϬR ø Þ Á H;let m:u∈Å (ý u):=ϸN ⟨Á,S.2.2⟩;let M:v∈Å (ý v):=ϸN ⟨H,d.2.2⟩;let Z:=DR p m;let r:=DR p M;let I:=Rg Z;let gv:=Rg r;let em:=zU p H V Á S.2.2 d.2.2;let pu:=pY (x:=ϹR) he N u0 (Á:u<ts.À);let pv:=pY (x:=ϹR) he N (Á:0<v) H;let G:=CK<|ϰL<|ý u;let g:=CK<|ϰL<|ý v;let f:∀e,Ì ((Ã (ø e)))<=10:=λe=>by
   let C:=ϔR Á e;let J:=Ke b he e;lia
  cases E:ý u=ý v
  ·
   rw[<-E]at M gv g pv;let a:(Å<|ý u)[Ÿ u]?=ķ:=χ aN (Nu<|List.idxOf_lt_length_iff.mpr m) Zcf
   let A:(Å<|ý u)[Ÿ v]?=ĥ:=by erw[aN];rw[<-E,Nu ϏE,Zcf]
   let(j,w):=ZB.mp a;let(b1,y):=ώE;let t:Ϥd (Å<|ý u) ϩA:=ϵp F5 ύE
   rw[Zbn]at t;let B:Ÿ u<Ÿ v:=by
    rcases Zba (Ÿ u) (Ÿ v)with q|q|q
    .show q
    .let:u=v:=by let e1:=a;rw[q,A]at e1;show(K9R e1).symm
     lia
    let:=t _ _ b1 j q;lia
   let F:ý u∈č:=ϳz ⟨϶u Á,Z8 Á⟩;let ln:=Bq ok (e:=ý u) Á<|EY ts s F;let of:=QK ϹR (gS<|ϰL<|ý u) Á (ø<|ý u) (϶U<|Nm p Á h) (Ÿ v-Ÿ u) (Ÿ u) Á;rw[ê (Ÿ u+(Ÿ v-Ÿ u)=Ÿ v)]at of;let D:Ì 1<=ä (Ÿ v-Ÿ u):=Á
   let o:=Zaf D (ê<|Ì 0<=gS (ϰL<|ý u));rw[Zaq]at o;rw[Zae]at of;erw[pS];lia
  let i:=ih (ý u) (ý v) Á Á (Ĳ<|ϳG m) (Ĳ<|ϳG M);let P:=Lq ϹR (gS<|ϰL<|ý u) Á (ø<|ý u) (Ÿ u) 0 λk h=>Nm p Á h;let R:=Lq ϹR (gS<|ϰL<|ý v) Á (ø<|ý v) (Ÿ v) 0 λk h=>Nm p Á h;let O:=Zaf (f<|ý u) (ê<|Ì 0<=gS (ϰL<|ý u));let Q:=Zaf (f<|ý v) (ê<|Ì 0<=gS (ϰL<|ý v));erw[pS]at i⊢;lia
def xx(X0 X1:Int)(x:å)(k:Nat):Int:=Ë (k=0) X0 (Ë (k=1) X1 (x k))
def CD(p:ç)(l:é){v:Nat}(H:϶6)(X0 X1:Int)(x:å):ϰR Þ (Ϥ0 (į v))=ξ ø Þ x v:=by
 erw[plc,dot];show ŭ ϔZ;erw[xx];cases a:i=0
 .subst a
  rw[vZ p l v H 0 Á,Zaa,Zam]
 cases h:i=1
 .subst h
  rw[vZ p l v H 1 Á,Zaa,Zam]
 rw[P3 a,ϱA,Zai]
def YM{n:Nat}{f:å}{y:å}{j:Nat}(J:j<n)(a:Int)(g:å)(F:∀i,f i=a*g i+(Ë (i=j) 1 0)):ĳ ϒc=a*ĳ (λi=>y i*g i)+y j:=by
 let e:ϒc=λi=>a*(y i*g i)+1*(Ë (i=j) (y j) 0):=by
  funext i;rw[F i,Zav,Zad];cases h:i=j
  .rw[ϰo,ϰo,h]
   lia
  rw[ϱA,ϱA];lia
 rw[e,Lp.kH,Lp.c7 (f:=λi=>Ë (i=j) (y j) 0) (l:=j) n J λi _ H=>ϲc];change _+1*(Ë (j=j) (y j) 0)=_;rw[Ĝ];lia
def kg(p:ç)(a:é)(X0 X1:Int)(x:å){j:Nat}(H:j<Ã ċ):
  (∃(i:Nat)(r:Ò),j=i/\á Í=ϰQ/\dC ċ j=û ϰC/\ϰR Þ (Ϥ0 (dR ċ j))=ξ ø Þ x ϰC+X0)\/
  (∃(i:Nat)(r:Ò),j=Ã Í+i/\á Í=ϰQ/\dC ċ j=û ϱ/\ϰR Þ (Ϥ0 (dR ċ j))=-ξ ø Þ x ϱ+X1)\/
  (∃(i:Nat)(q:Ϻ),j=2*Ã Í+i/\(S4 Í)[i]?=Â q/\dC ċ j=ϱ2 q/\ϰR Þ (Ϥ0 (dR ċ j))=ξ ø Þ x q.2-ξ ø Þ x q.1):=by
 let he:=ľ;let N:=qV<|ϰ1 a;rcases uR H with⟨i,r,e1,hr,g,G⟩|⟨i,r,e1,hr,g,G⟩|⟨i,q,e1,h,g,G⟩
 .let(f,J):=ϸo
  let b:=J _ (ϴz (bX f));show Ð ϙP;rw[g,YM (j:=0) Á 1 (pA<|į ϰC) (λi=>Ĥ (HH p a b) Zaq),CD p a b,Zaq];rfl
 .let(f,J):=ϸo
  let b:=ώV (bX f);show Ø<|Ð ϙP;rw[g,YM (j:=1) Á (-1) (pA<|į ϱ) (λi=>Ă (Ij p a b)),CD p a b];change -1*_+X1=_;lia
 let(L,l):=ϸw ϶w;show Ø<|Ø ⟨i,q,e1,h,G,?_⟩;let e:(λi=>Ϥ0 (dR ċ j))=λi=>1*(Ϥ0<|į q.2)+(-1)*(Ϥ0<|į q.1):=by
  funext i;rw[g,GL p L l,Zbw];lia
 rw[e,Lp.kH,CD p a l,CD p a L];lia
def N6(p:ç)(h:Ź)(k:Č 0)(L:ϰJ 12)(g0:ϱx)(g1:϶D):∃d,Lp.Dual Þ (Ã ċ) (Lp.RR ċ Þ) 1 d:=by
 let he:=ľ;let big:∀m,∃B:Int,∀v,v<m->-B<=ϭl v/\ϭl v<=B:=by
  ext m
  induction m with
  |zero=>show(0,λv V=>ĭ V<|Zbh v)
  |succ m ih=>
   let(B,H):=ih;show(max B (Ì (ϭl m).natAbs),λv V=>?_);cases e:v=m
   .subst e
    lia
   let:=H v Á;lia
 let(B,H):=big ts.À;show Lp.QV (x:=xx (B+64) (B+64) ϹR) Ý λj l=>?_;rw[Zaq];rcases kg (s:=s) p Á (B+64) (B+64) ϹR l with⟨i,r,_,hr,e1,g⟩|⟨i,r,_,hr,e1,g⟩|⟨i,q,_,Q,e1,g⟩
 .let(f,J):=ϸo
  let b:=H _<|J _ (ϴz (bX f));let G:=ϱQ ϰC;rw[e1,g];erw[pS]at b;lia
 .let(f,J):=ϸo
  let b:=H _<|ώV (bX f);let G:=ϱQ ϱ;rw[e1,g];erw[pS]at b;lia
 let(N,n,o):=ϵG<|K9L Q;let far:=JE (s:=s) p k L (ϒ q.1) q.1 q.2 N n rfl o.Ï;let a:=ϱQ q.1;let b:=ϱQ q.2;let c1:=CK<|ϰL q.1;let C:=CK<|ϰL q.2;rw[e1,g];erw[bI];erw[pS]at far;lia
end
open Lp (pA sm Dem dR dC Sl P0 vw Jn Mk pd px xE uE pE RR S0 Lone gy gcL Halt)
def WZ{n m z w:Nat}{R:ϹC}{S:Sl}{A:Nat}(J:ϲF S){i l:Nat}(hi:i<n)(a:l<n)(h:ŧ i=ŧ l):i=l:=by
 cases e:i=l
 .show e
 let H:=όE hi l (Zaj a) ϩU;let b:=J.inv.piv l a;rw[h]at H;lia
theorem xQ{n m z:Nat}{S:Sl}:∀k j,(∀l,l<k->ŧ l≠j)->Ņ (ϱG k)=0
 |0,j,_=>ϖQ
 |k+1,j,h=>by
  let i:=xQ (n:=n) (m:=m) (z:=z) k j λl a=>h l Á;let e:=h k Á;erw[prF];erw[pA]at i⊢;rw[K9E e];show i
def Ms{n m z w:Nat}{R:ϹC}{S:Sl}{A:Nat}(J:ϲF S)(y:å):ϩE (sm m (λj=>Ņ (ϱG k)*y j)=sm k λl=>ϥ l z*ϳe l*y (ŧ l)):=by
 ext Y
 induction Y with
 |zero=>
  ext _;rw[Lp.cJ m λj _=>by rw[ϗK,Zam]];rfl
 |succ k N3=>
  ext H;let i:=N3 Á;let C:=J.ċ k Á;let Z:=xQ (n:=n) (m:=m) (z:=z) (S:=S) k (ŧ k) λl a h=>Ĳ (WZ J Á Á h)
  let d:=HZ (n:=m) (x:=y) (row:=ϱG k) (k:=ŧ k) C (wm S n m z k)<|ϥ k z*ϳe k;rw[Z,K8R]at d;erw[dot]at d;rw[sm.a2,<-i];show d
def Q1{n m z w:Nat}{R:ϹC}{S:Sl}{A:Nat}(J:ϲF S):ϩE (∀j,0<=Ņ (ϱG k)):=by
 induction _ with
  |zero=>
   ext _ j
   rw[ϗK];show Zbr 0
  |succ k ih=>
   intro hk j
   let h:=ih Á j;let C:=J.ċ k Á;erw[prF];rw[wj<|όo wm]
   split
   .show Zag (J.inv.rhs k Á)<|Zar<|Lp.Bg n (ϰp (ϫQ hi))
   .show h
def Tu(h:á ρ=some (Ň<|dx.Ç OD.sh))(H:ę ρ=some (Ň<|dy.Ç OD.sh))(a:ϤH=϶A)(c:f dx dy y.er=.ok r)(g:i≠j):ϒs ρ=ų ((ϰs<|some<|Ę r.1).set j<|some<|Ę r.2):=by
 erw[AH];rw[h,H];dsimp only;rw[o7,o7];dsimp only;rw[a,L3.R.bind,c,L3.R.bind,P3 g]
def MR(X:À Gc)(a n:Nat)(h:X.À=a+n+2):ϲd X (Â ϑ) (Â<|-2)=ł (X.ä a) n:=by
 erw[cutD];let e:ϯm X.À (Â<|-2)=a+n:=by
  change(Ë (Ì (-2)<0) ((ĩ (Ì (-2)+Ì X.À)))<|min (ĩ (-2:Int)) X.À)=_;rw[Os Ý,h];lia
 rw[e,HT.uS,K8q Á,ê (a+n-a=n)]
def EO(f:å):∀n,(Ê ϲl f).sum=ĳ f:=by
 induction _ with|zero=>show rfl|succ n N3=>rw[K8A,K9i,Zbf,N3,sm.a2];simp
def Mz{a b:À Int}{n:Nat}(A:a.À=n)(B:b.À=n):(Ê ϬX λp=>p.1*p.2).sum=ĳ (λk=>pA a k*pA b k):=by
 rw[<-EO];show ϐK ?_;apply K9K;ext i;rw[N2,N2];cases hi:i<n
 .let:á ϬX=Â (a[i]' Á,b[i]' Á):=Ô Zan (Nu Á,Nu Á)
  rw[this,ϴj,Zbe,Zbe];erw[pA];rw[Nu Á,Nu Á];rfl
 rw[K9c (Ă Zao),K9c<|Ă Z7];rfl
def Uh(ts:À Nd)(he:ĕ):∀(E:Ò),E.Í->∀m,m<=ts.À->(ώO<|(Ã (ϳC m e))).sum<=m-1:=by
 ext E H m
 induction m with
 |zero=>
  ext _;let:(ώO<|(Ã (ϳC 0 e)))=E.Ç λ_=>0:=K8u λe _=>rfl;rw[this];clear H this
  induction E with|nil=>show ì|cons a E i=>rw[K9w,Zap];lia
 |succ m i=>
  ext M;let i:=i Á;let e1:(ώO<|(Ã (ϳC (m+1) e)))=ώO (Ã (ϳC m e)+(Ë (Ĩ m=϶t) 1 0)):=K8u λe _=>by rw[uQ,K9v];split<;>rfl
  let c:∀(f g:ņ)(E:Ò),ϖH E.Ç (λe=>f e+g e):=by
   ext f g E
   induction E with|nil=>rfl|cons a E i=>rw[K9w,K9w,K9w,Zap,Zap,Zap,i];lia
  let G:∀(z:Int)(E:Ò),E.Í->(E.Ç λe:Nat=>(Ë (z=϶t) 1 0:Nat)).sum<=ϱB (Ë (0<=z) 1 0):=by
   ext z E H
   induction E with
   |nil=>show ϰS
   |cons a E i=>
    rw[K8k]at H;rw[K9w,Zap];cases h:z=ϑ
    .let l:∀(E:Ò),a∉E->(E.Ç λe:Nat=>(Ë (z=϶t) 1 0:Nat)).sum=0:=by
      ext E
      induction E with
      |nil=>ext _;rfl
      |cons b E i=>
       ext B;rw[K9w,Zap,i λq=>B<|ě q,P3];ext q;show B ?_;let:a=b:=Á
       rw[this];show K9z
     rw[l E H.1,ϰo,Os Á];show ì
    rw[ϱA,K87];show i H.2
  rw[e1,c];let:=G (Ĩ m) E H;cases Z:m=0
  .subst Z
   obtain⟨nd,n⟩:∃nd,ts[0]?=Â nd:=⟨ts[0]' Á,Û⟩
   let q:=(he 0 nd n).1 rfl;rw[<-bL n]at q;rw[P3<|show¬0<=Ĩ 0 by rw[q];decide]at this;lia
  split at this<;>lia
def HJ{ts:À Nd}{c:F}(p:ç)(s:Bool)(f:Č 0)(l:ϰJ 12):Þ<=13:=by
 let he:=ľ;let ok:=ϰ1 Á;rw[Pq ok];erw[cOf];rw[K8D];let k:(Ê (Ķ s) λg=>ϴk ϓ).sum<=((Ê (Ķ s) λg=>(ϓ).1).map λe=>(Ã (ϳC ts.À e))).sum:=by
  rw[S1];let:∀(G:À (À Tm)),(∀g∈G,ϴk ϓ<=Ã (Å (ϓ).1))->(G.Ç λg=>ϴk ϓ).sum<=(G.Ç<|(λe=>(Ã (ϳC ts.À e)))∘λg=>(ϓ).1).sum:=by
   ext G
   induction G with
   |nil=>ext _;show ì
   |cons g G ih=>
    ext h;rw[K9w,K9w,Zap,Zap];let a:=h g K9z;let b:=ih λg' H=>h g'<|ě H;change _<=Ã (Å (ϓ).1)+_;lia
  show Ϧl ((ϥ2 g));let:=Ny ts ϓ;let d:=(ok.lt g hg _<|zK<|ok.ne g hg).2;erw[wdS]at this;lia
 let nd:(Ê (Ķ s) λg=>(ϓ).1).Nodup:=by
  rw[List.Nodup,Zbn];ext i j hi J I;rw[K0]at hi J;rw[Zcn,Zcn];let a:=ok.dj i j _ _ ϰD ϶Q Á _ (zK<|Ϛp<|Zah hi) _<|zK<|Ϛp<|Zah J;show a
 let d:=ϛ6 ì;lia
structure Nw(ts:À Nd)(s:Bool)(Ds:Int)(S:Sl):Prop where
 J:Jn Þ (Ã ċ) (Ã ċ+Þ+1) (Ã ċ+Þ+2) 256 (RR ċ Þ) S
 H:Halt Þ (Ã ċ) ϲW
def nwX(ts:À Nd)(s:Bool)(Ds:Int)(S:Sl):å:=xE ċ Þ S
def Z3(ts:À Nd)(s:Bool)(Ds:Int)(S:Sl):Int:=uE ċ Þ S
def nwP(ts:À Nd)(s:Bool)(Ds:Int)(S:Sl):À Int:=Ā ts.À λk=>ξ ø Þ ı k
def nwR(ts:À Nd)(s:Bool)(Ds:Int)(S:Sl):À Int:=prF S Þ (Ã ċ) (Ã ċ+Þ+1) Þ
def nwQ(ts:À Nd)(s:Bool)(Ds:Int)(S:Sl):À Int:=gy Ϥ3
def nwO(ts:À Nd)(s:Bool)(Ds:Int)(S:Sl):OD:=.ot [϶J<|Ϗj Ě,Ñ Ě,.ot [϶J<|ϰx Ġ,϶J<|ϰ4 Ġ,϶J<|ϰ3 Ġ]]
def JD:∀l:À Int,ϴ As ϲJ:=by
 induction _ with|nil=>show rfl|cons a l N3=>rw[K9w,As',N3];rfl
def vC{ts:À Nd}(h:Ź):ϵe:=λn H=>Ĳ (h n H).2.1
section
variable{ts:À Nd}{c:F}{s:Bool}{Ds:Int}{S:Sl}
def Nw.ro(N:Ű)(p:ç)(h:Ź)(a:Č 0)(l:ϰJ 12)(g0:ϱx)(g1:϶D):∀i,i<=Þ->Bd XS (î i):=
 Nr N.J όk (λi hi j=>Lp.Bb (Hk p h a l g0 g1) _ i hi j) (Ĳ<|qV (ϰ1 Á)) (HJ p s a l)
def Nw.pz(N:Ű)(p:ç)(a:é):∃k,ϱj Ϥ3≠0:=by
 show ϫG;let z:∀k,ϱj Ϥ3=0:=λk=>Zbc λw=>no ⟨k,w⟩;let n:=qV<|ϰ1 a;let e:=Lp.Kg N.J (i:=0) Á;let q:=Ms N.J (λj=>pA (dR ċ j) 0) Þ ì;rw[ϭm (λj _=>by let:=z j;erw[nwR]at this;rw[this,Zam])]at q;let g:sm Þ (λl=>pE ċ Þ S l*pA (dR ċ<|ŧ l) 0)=0:=q.Ï;rw[g,Os Ý,Zbl]at e;let:=Lp.w_ N.J.inv;lia
def Nw.start(p:ç)(h:Ź)(H:Č 0)(l:ϰJ 12)(g0:ϱx)(g1:϶D):∃S,Ű/\sx (T0 (S0 ċ Þ<|chL ċ Þ).r) (aO<|chL ċ Þ) (Ä (Ì ((Ã ċ))))=Ħ (ϴa,ϵD):=by
 let ok:=ϰ1 Á;let N:=qV ok;let n:=HJ p s H l;let m:=ϑZ l g0 g1;let lo:=HE (ϕv Á);let(d,D):=N6 (s:=s) p h H l g0 g1;let R:=λi hi j=>Lp.Bb m Þ i hi j;let e:=Lp.YL (A:=256) lo (Á:0<Þ);let(j,k):=Lp.Jn.ends D όk Ý R Á e;let he:=ľ;let nl:ϲx (Ã ċ):=by
  rw[lJ];let a:=oO Í;let b:İ (Ê Í List.length).sum:=(ϵ5 ì).sum;let c:ϱ1 (Ã Í):=(ϺE H).2;lia
 let(g,M,f,r):=II D e (λS J=>Wc J όk R Á n) rfl Á Á Á k;show(g,(M,f),?_);let Y:(S0 ċ Þ<|chL ċ Þ).c=chL ċ Þ:=rfl;rw[Y]at r;show VY r
def NM(N:Ű)(k:Nat)(h:k<Þ):pA ((ł (τ (î Þ) (Ã ċ)) Þ).map ϸr) k=ı k:=by
 rw[Cv];change -ϱj _=-pA (î Þ) (Ã ċ+k);erw[pA];rw[K97 h,K84]
end
section
variable{ts:À Nd}{c:F}{s:Bool}{Ds:Int}
def Lm(ts:À Nd)(s:Bool):(ω ø Þ ts.À)=Ā ts.À į:=by
 apply K9K;ext i;rw[N2];cases hi:i<ts.À
 .rw[ϴj,Nu<|Ϸ0 mQ]
  change _=Â (Ó (á<|ω ø Þ ts.À) []);rw[Nu<|Ϸ0 mQ];rfl
 rw[K9c (Ă mQ),K9c<|Ă Z7];rfl
def BB(p:ç)(h:Ź)(H:Č 0)(m:ϰJ 12)(g0:ϱx)(g1:϶D):∃S,Ű/\kT [Ï è,Ä Ds,ã s]=Ħ (nwO ts s Ds S):=by
 let he:=ľ;let ok:=ϰ1 Á;let n2:=qV ok;let R:=HJ p s H m;let B:=vC h;let(S,N,fm):=Nw.start (s:=s) p h H m g0 g1;show(S,N,?_);let bd:=N.ro p h H m g0 g1;let nl:ϱ1 (Ã Í):=(ϺE H).2;let dl:=ύb;let bl:ϱ1 (Ã (S4 Í)):=by
  let a:=oO Í;let b:İ (Ê Í List.length).sum:=(ϵ5 ì).sum;lia
 let pr:=Ax ts p h Á H s Á;let sS:∀k,Ó (ϫ<|ω ø Þ ts.À) []=į k:=λk=>rfl;let wS:∀k,Ć->Ã (Ó (ϫ<|ω ø Þ ts.À) [])=Þ:=λk K=>gR he k K;let sd:=xm ts (ω ø Þ ts.À) he H Á B (mQ _ _ _ _) Þ n2 Á wS;let gd:=zm ts (ω ø Þ ts.À) Ds he H Á B (mQ _ _ _ _) Þ Á wS
 let T:c9 [Ï è,Ï<|T0<|ω ø Þ ts.À]=.ok (Ę<|dsD<|ϥK į):=sd;let G:dW [Ï è,Ï<|T0<|ω ø Þ ts.À,Ä Ds]=.ok (Ę<|dsD<|ϨX į):=gd;let ad:=kE (a:=dsD<|ϥK į) (b:=dsD<|ϨX į) (by
  rw[tY,tY];let:Ã (ϥK į)+Ã (ϨX į)=Ã ċ:=by
   change _=Ã (ϥK į++ϨX į);rw[K9v]
  lia)
 rw[uI]at ad;let dE:ϥK į++ϨX į=ċ:=rfl;rw[dE]at ad;let n1:0<Ã Í:=(ϺE H).1;let lo:=Oz (D:=ċ) (n:=Þ) Á (FF p Á) Á Á (By p H Á);let o:=HE (ϕv Á);let ro:=OK o (ϑZ m g0 g1) (FF p Á) Á Á Ý n2;let W:=Lp.YL (A:=256) o (Á:0<Þ);generalize g:ċ=D at*;let cl:Ã (ϰ8 Þ)=Þ:=o.í;let E:∀L:À Gc,ß L.Ç OD.sh OD.er=L:=aI;let b3:∀w7 w8 w9:Ü OD,yy 5 (aj gJ<|È 4<|È 5 ai) [â è,some<|Ñ Ds,Ĕ<|ã s,â<|T0<|ω ø Þ ts.À,â ϵK,some<|Ę<|aO<|ϰ8 Þ,none,w7,w8,w9]=.ok (Ę<|T0 (S0 D Þ<|ϰ8 Þ).r):=λw7 w8 w9=>by
  show UY 5 _ _ (ds:=aO<|ϰ8 Þ) rfl ?_ ?_
  .simp![E,ro]
  rw[K7x];ext y Y;let(d,hd,rfl):=XV.mp Y;erw[T0]at hd;let(r,hr,rfl):=ϤQ hd;let(i,hi):=Zac hr;let O:=(ϻV).1;rw[W.lr]at O;let rl:=W.row i Á;let e:P0 (S0 D Þ<|ϰ8 Þ) i=r:=by erw[P0];rw[hi];rfl
  rw[e]at rl;change Μ (Õ (Ã Ϸ8≠Ã (aO<|ϰ8 Þ))&&As Ϸ8);rw[JD,Zfi,K0,eS,cl,rl,K9k];lia
 let mu:=Tu (ρ:=[â è,some<|Ñ Ds,Ĕ<|ã s,â<|T0<|ω ø Þ ts.À,â ϵK,some<|Ę<|aO<|ϰ8 Þ,some<|Ę<|T0 (S0 D Þ<|ϰ8 Þ).r,none,none,none]) (i:=6) (j:=5) (fa:=ħ<|È 4 ai) (f:=sx) (dx:=T0 (S0 D Þ<|ϰ8 Þ).r) (dy:=aO<|ϰ8 Þ) (y:=Ñ<|(Ì D.À)) (r:=(ϴa,ϵD)) rfl rfl (by let:=tY D;simp![E,this]) (by rw[bc];show fm) Ý;let J:=N.J;rw[g]at J;let Q:=J.row Þ ì;let C:=Bu (rs:=S.r) (n:=Þ) J.lr;let r1:Ó (S.r[Þ]?) []=î Þ:=rfl;rw[r1]at C;erw[iD]at C;let X:=KU (l:=î Þ) (z:=D.À+Þ) (ϰT Q);let U:pA (î Þ) (D.À+Þ)=Ě:=Ϗ Z3 g
 rw[U]at X;let c1:ϲd ((î Þ).map int) (Â<|(Ì D.À)) (Â<|-2)=(ł (τ (î Þ) D.À) Þ).map int:=by rw[MR _ D.À Þ (Ĥ K0 Q),<-Zbt,<-K7n]
 let t:Ì ((Ã ϵK))=Ì D.À:=ϰT tY
 let tl:Ã (ł (τ (î Þ) D.À) Þ)=Þ:=ϳr K9f K8y Q
 let sz:=NM N;rw[g]at sz;let u:Ã ((ł (τ (î Þ) D.À) Þ).map ϸr)=Þ:=by rw[K0,tl]
 let bz:∀x∈((ł (τ (î Þ) D.À) Þ).map ϸr),W4 x:=λx hx=>by
  let(y,Y,rfl):=ϤQ hx;let:=(bd Þ ì).mem y<|Zca<|List.mem_of_mem_take Y;show u9 (by let:XS<=XB:=œ;lia)
 generalize hZ:((ł (τ (î Þ) D.À) Þ).map ϸr)=Z at*;let e8:∀v:L3.Env,aJ ϰa aT (ġ Ľ) (none::v) ((ł (τ (î Þ) D.À) Þ).map int) []=Ħ (aG Z):=λv=>by
  generalize I:Į=rc;let e:=aS I int (λx=>Ñ<|-x) (ł (τ (î Þ) D.À) Þ) rfl (by rw[tl];show K94<|aF Á) ϮA;subst e;rw[zD,hZ]
 let e9:aJ ϰa aT (ϸd<|ae (ϺI Ľ Ŋ (ϡ<|Œ 0 1 bB) aT (ñ gn 0 Ŋ) 2 []) ai) [none,â<|Z.Ç int] (T0<|ω ø Þ ts.À) []=.ok (aG ϯu):=by
  generalize I:Į=rc
  let e:=aS I (ϰU<|iD<|į k) (λk=>Ñ<|ξ ø Þ ı k) ϳS (ϰY T0 Lm S1) (Ô Z7<|K94<|aF Á) (by
   ext k K;let K:=Ϸz K;let zi:=Am (į k) Z;erw[iD];simp![zi];generalize M:Į=rc2
   let e2:=aS M (λq:ϰi=>ϱ0 [Ä q.1,Ä q.2]) (λq=>Ñ<|q.1*q.2) ((į k).zip Z) rfl (by rw[Zao,u];show K94<|aF Á) (by
    ext q hq;let b1:Ś (-(Ì XB)) q.1 XB:=by
     let(j,hj):=Zac (K7w hq).1;let w:=C1 (s:=s) p H m k K j;erw[pA]at w;rw[hj]at w;let:ϱB 200<=XB:=œ
     let w:ϥh (11*ë) q.1:=w;lia
    let m1:=ϫj b1 (bz _ (K7w hq).2);simp![m1])
   subst e2;let em:Ϩo (Ê ((į k).zip Z) λq=>Đ<|Ä<|q.1*q.2) (Ê ((į k).zip Z) λq=>q.1*q.2):=Ζ S1 S1 (ϻ5 ϰn)
   let zs:=Mz (a:=į k) (b:=Z) (gR he k K) u;let pe:ϰR Þ (ř (į k)*pA Z i)=ξ ø Þ ı k:=by erw[plc,dot];show ŭ ((ϰp (ϰT (sz i hi))))
   simp![em,lh,zs,pe])
  subst e;rw[zD];rfl
 let P:İ (Ã ϯu):=χ nwP K0 Z7
 let uw:W4 Ě:=by rw[<-U];show u9<|DP (bd _ ì) _
 let mv:=LC ts ϯu Ě H Á B P uw;let V:=ϑZ m g0 g1;let pz:=N.pz p Á;let po:d4 [Ï ϴa,Ï ϵD,Ä (Ì D.À)]=ģ (aG Ġ):=by
  let:=JW J όk (λi hi j=>ϱC (Lp.Bb V Þ i hi j) g) Á R rfl Á Á (by erw[nwR]at pz;rw[g]at pz;show pz);rw[this];erw[nwQ,nwR];rw[g]
 let ql:Ã Ġ=2*Ã Í+Ã (S4 Í):=by erw[nwQ];rw[Lp.BC];erw[nwR];rw[wm,g,dl]
 let tp:=Aq ts Ġ he H Á ql;erw[kT,kO,nwO];let F:Ł (Õ (Ì 12<Ì ts.À)):=K9q Á;simp![aH,F,pr,E,T,G,ad,lo,↓b3,↓mu,C,X,t,c1,e8,aW,e9,mv,po,tp];rfl
end
section
variable{ts:À Nd}{c:F}{s:Bool}{Ds:Int}{S:Sl}
def wP(ts:À Nd)(s:Bool)(Ds:Int)(S:Sl)(k:Nat):Int:=ξ ø Þ ı k
private def OJ(x:å):xx (x 0) (x 1) x=x:=by
 funext k;erw[xx];split
 .rename_i h;rw[h]
 split
 .rename_i h;rw[h]
 rfl
def Nw.dem(N:Ű){j:Nat}(J:j<Ã ċ):Ě*dC ċ j<=ϰR Þ (xx (ı 0) (ı 1) ı i*ř (dR ċ j)):=Ô OJ (Lp.Io N.J N.H J)
def Nw.left(N:Ű)(p:ç)(l:é){i:Nat}{r:Ò}(h:á Í=ϰQ):Ě*û ϰC<=ϰZ ϰC+ı 0:=by
 let hi:=ϲI;let J:i<Ã ċ:=Ă lJ
 let d:=N.dem J;rcases kg (Ds:=Ds) p l (ı 0) (ı 1) ı J with⟨k,R,e,hr,H,a⟩|⟨k,R,e,hr,H,a⟩|⟨k,q,e,hr,H,a⟩
 .subst e
  rw[h]at hr;cases hr;rw[H,a]at d;show d
 .lia
 lia
def Nw.right(N:Ű)(p:ç)(l:é){i:Nat}{r:Ò}(h:á Í=ϰQ):Ě*û ϱ<=-ϰZ ϱ+ı 1:=by
 let hi:=ϲI;let J:Ã Í+i<Ã ċ:=Ă lJ
 let d:=N.dem J;rcases kg (Ds:=Ds) p l (ı 0) (ı 1) ı J with⟨k,R,e,hr,H,a⟩|⟨k,R,e,hr,H,a⟩|⟨k,q,e,hr,H,a⟩
 .let:=(ϱa hr)
  lia
 .let e:k=i:=Á
  subst e;rw[h]at hr;cases hr;rw[H,a]at d;show d
 lia
def Nw.far(N:Ű)(p:ç)(l:é){q:Ϻ}(h:q∈S4 Í):Ě*ϱ2 q<=ϰZ q.2-ϰZ q.1:=by
 let(i,hi,Q):=Zal h;let Q:(S4 Í)[i]?=Â q:=Ĥ ϰD Q
 let J:2*Ã Í+i<Ã ċ:=Ă lJ
 let d:=N.dem J;rcases kg (Ds:=Ds) p l (ı 0) (ı 1) ı J with⟨k,R,e,hr,H,a⟩|⟨k,R,e,hr,H,a⟩|⟨k,b,e,hr,H,a⟩
 .let:=(ϱa hr)
  lia
 .let:=(ϱa hr)
  lia
 let e:k=i:=Á
 subst e;rw[Q]at hr;cases hr;rw[H,a]at d;show d
def V7(p:ç)(l:é){e a b:Nat}(A:(Å e)[0]?=Ϸu)(B:Ϥa (Å e)=ϧ):2*ϰZ e=ϰZ a+ϰZ b:=by
 let he:=ľ;let n:ϩJ (ø e) Þ:=λe k H=>(sV (ϰ1 l) H).2;erw[wP];rw[Zbo]at B;rw[kW he n A,kW he n B,EX _ _ _ _<|N4 0];cases h:ø e=[]
 .rw[h]
  simp[eP];lia
 rw[Vz]
 .lia
 rw[Ak (ϰ1 l) h];lia
end
def fj(a:Int)(f:å)(n:Nat):ĳ (λi=>a*f i)=a*ĳ f:=by let:=Lp.kH a 0 f f n;rw[Zam,Zak]at this;rw[<-this];show Lp.aM n λi _=>Ĥ Zam Zak
def lF(f g:å)(n:Nat):ĳ (λi=>f i+g i)=ĳ f+ĳ g:=by let:=Lp.kH 1 1 f g n;rw[Zaq,Zaq]at this;rw[<-this];show Lp.aM n λi _=>Ĥ Zaq Zaq
def vF(f:Nat->å)(a:Nat):∀b,sm a (λi=>sm b<|f i)=ϗL:=by
 induction _ with
 |zero=>show Lp.cJ a λi _=>rfl
 |succ b N3=>
  change sm a (λi=>sm b (f i)+f i b)=ϗL+sm a λi=>f i b;rw[lF,N3]
def vB(f:å)(a:Nat):∀b,sm (a+b) f=sm a f+sm b λj=>f (a+j):=by
 induction _ with
 |zero=>show(Zak _).symm
 |succ b N3=>
  change sm (a+b) f+f (a+b)=_+(_+_)
  rw[N3,Zfj]
def LM{f g:å}:∀n,(ŵ<|f i<=g i)->ĳ f<=ĳ g:=by
 induction _ with|zero=>ext _;show ϺB|succ n N3=>ext h;show Zfb (N3 λi hi=>h i Á) (h n Á)
section
variable{ts:À Nd}{c:F}{s:Bool}{Ds:Int}{S:Sl}
def nwG(ts:À Nd)(s:Bool)(Ds:Int)(S:Sl):Int:=ϰM Ϥ3
def qv(ts:À Nd)(s:Bool)(Ds:Int)(S:Sl)(j:Nat):Int:=Ņ Ġ
def nwB(ts:À Nd)(s:Bool)(S:Sl):Int:=Lp.P Þ ϲW
def Nw.g0(N:Ű)(p:ç)(a:é):0<ϥe:=by let(k,h):=N.pz p a;show Lp.mI h
def Nw.dot(N:Ű)(y:å):ϥe*sm (Ã ċ) (λj=>ϻc j*y j)=sm Þ λl=>pE ċ Þ S l*y (ŧ l):=by
 let:=Ms N.J y Þ ì;rw[<-fj];show Eq.trans (ŭ<|λj _=>?_) this;change _=Ņ Ϥ3*y j;rw[<-Lp.Bt (ns:=Ϥ3) j,Zae];rfl
def Nw.qn(N:Ű)(p:ç)(a:é)(j:Nat):0<=ϻc j:=by let g:=N.g0 p a;let r:0<=Ņ Ϥ3:=Q1 N.J Þ ì j;rw[<-Lp.Bt]at r;show Int.nonneg_of_mul_nonneg_right r g
def Nw.main(N:Ű)(p:ç)(a:é)(X:å):ϥe*sm (Ã ċ) (λj=>ϻc j*ϰR Þ (X i*ř (dR ċ j)))=ϻH*(X 0+X 1):=by
 rw[N.dot];let e:∀l,l<Þ->pE ċ Þ S l*ϰR Þ (X i*ř (dR ċ<|ŧ l))=ϰR Þ (X i*(pE ċ Þ S l*ř (dR ċ<|ŧ l))):=λl _=>Ϙ fj (ŭ (λi _=>Zad ..))
 rw[ŭ e,vF];let g:∀i,i<Þ->(sm Þ λl=>X i*(pE ċ Þ S l*ř (dR ċ<|ŧ l)))=ϻH*(X i*Ë (i<2) 1 0):=ϰp (Ζ fj (Lp.Kg N.J hi) (Zad ..))
 rw[ŭ g,fj];congr 1;let H:=qV<|ϰ1 a;obtain⟨m,M⟩:∃m,Þ=2+m:=⟨Þ-2,Á⟩
 rw[M,vB,Lp.cJ m λj _=>Ĥ (P3 Á) Zaa];change 0+X 0*_+X 1*_+0=_;rw[Os Ý,Os Ý];lia
def lfV(ts:À Nd)(s:Bool)(Ds:Int)(S:Sl)(i:Nat):Int:=ϻc i
def rtV(ts:À Nd)(s:Bool)(Ds:Int)(S:Sl)(i:Nat):Int:=ϻc<|Ã Í+i
def gpV(ts:À Nd)(s:Bool)(Ds:Int)(S:Sl)(i:Nat):Int:=ϻc<|2*Ã Í+i
def rwN(ts:À Nd)(i:Nat):Ò:=Ó (á Í) []
def nbN(ts:À Nd)(i:Nat):Ϻ:=Ó ((S4 Í)[i]?) (0,0)
def three(y:å):sm (Ã ċ) (λj=>ϻc j*y j)=sm (Ã Í) (ϰt lfV<|y i)+sm (Ã Í) (ϰt rtV<|y (Ã Í+i))+sm (Ã (S4 Í)) (ϰt gpV<|y (2*Ã Í+i)):=by
 rw[lJ,ê (ϒM 2 (Ã Í) (Ã Í)),vB,vB];erw[lfV,rtV,gpV];rw[ê (ϒM 2 (Ã Í) (Ã Í))]
def Nw.sums(N:Ű)(p:ç)(a:é)(X0 X1:Int)(x:å):ϥe*(sm (Ã Í) (ϰt lfV<|ξ ø Þ x (hdN<|Ū i)+X0)+sm (Ã Í) (ϰt rtV<|-ξ ø Þ x (ltN<|Ū i)+X1)+sm (Ã (S4 Í)) (ϰt gpV<|ξ ø Þ x (Ŧ).2-ξ ø Þ x (Ŧ).1))=ϻH*(X0+X1):=by
 let m:=N.main p a<|xx X0 X1 x;rw[three]at m;let m:_=ϻH*(X0+X1):=m;rw[<-m];congr 1;let d:=ύb;show ϧ2 (ϧ2 (ŭ ϱm)<|ŭ ϱm)<|ŭ ϱm
 .rcases kg (s:=s) (Ds:=Ds) p a X0 X1 x (j:=i) Á with⟨k,r,e,hr,h,H⟩|⟨k,r,e,hr,h,H⟩|⟨k,q,e,hr,h,H⟩
  .subst e
   rw[H];erw[rwN];rw[hr];rfl
  .lia
  lia
 .rcases kg (s:=s) (Ds:=Ds) p a X0 X1 x (j:=Ã Í+i) Á with⟨k,r,e,hr,h,H⟩|⟨k,r,e,hr,h,H⟩|⟨k,q,e,hr,h,H⟩
  .let:=(ϱa hr)
   lia
  .let e:k=i:=Á
   subst e;rw[H];erw[rwN];rw[hr];rfl
  lia
 rcases kg (s:=s) (Ds:=Ds) p a X0 X1 x (j:=2*Ã Í+i) Á with⟨k,r,e,hr,h,H⟩|⟨k,r,e,hr,h,H⟩|⟨k,q,e,hr,h,H⟩
 .let:=(ϱa hr)
  lia
 .let:=(ϱa hr)
  lia
 let e:k=i:=Á
 subst e;rw[H];erw[nbN];rw[hr];rfl
end
section
variable{ts:À Nd}{c:F}{s:Bool}{Ds:Int}{S:Sl}
def ko(ts:À Nd)(k:Nat):ξ ø Þ (Ţ 0) k=0:=ϭm (λi _=>Zaa _)
def bot(ts:À Nd)(s:Bool)(Ds:Int)(S:Sl):Int:=sm (Ã Í) ϫi
def Nw.bl(N:Ű)(p:ç)(a:é):ϥe*϶=ϻH:=by
 let h:=ύc 1 0 (λ_=>0);rw[Lp.aM (g:=ϫi) _ λi _=>by rw[ko,K8R,Zbl],Lp.cJ (f:=ϰt rtV _) _ λi _=>Ô ko (Zaa _),Lp.cJ (f:=ϰt gpV _) _ λi _=>Ζ ko ko (Zaa _),Zak,Zak,Zak,Zbl]at h;show h
def Nw.br(N:Ű)(p:ç)(a:é):sm (Ã Í) ϧT=϶:=by
 let h:=ύc 0 1 (λ_=>0);rw[Lp.cJ (f:=ϰt lfV _) _ λi _=>Ô ko (Zaa _),Lp.aM (g:=ϧT) _ λi _=>Ô ko (Zbl _),Lp.cJ (f:=ϰt gpV _) _ λi _=>Ζ ko ko (Zaa _),Zak,K8R,K8R,Zbl,<-ώw]at h;show Zbj ϯs h
def Nw.b1(N:Ű)(p:ç)(a:é):1<=϶:=by
 let h:=ώw;let H:0<ϻH:=Lp.w_ N.J.inv;let g:=N.g0 p a;rcases Int.lt_or_le 0 ϶ with q|q
 .show q
 let:=Int.mul_nonpos_of_nonneg_of_nonpos (Zar g) q;lia
def Nw.calm(N:Ű)(p:ç)(a:é)(x:å):Ϲh sm ((Ã Í)) (ϰt lfV<|ξ ø Þ x (hdN<|Ū i)) (ϰt rtV<|ξ ø Þ x (ltN<|Ū i))+sm (Ã (S4 Í)) (ϰt gpV<|ξ ø Þ x (Ŧ).2-ξ ø Þ x (Ŧ).1)=0:=by
 let h:=ύc 0 0 x;rw[Lp.aM (g:=ϰt lfV (ξ ø Þ x (hdN<|Ū i))) _ λi _=>ϰT Zak,Lp.aM (f:=ϰt rtV _) (g:=λi=>(-1)*(ϧT i*ξ ø Þ x (ltN<|Ū i))) _ λi _=>by rw[Zak,Zcx,Zcc,Zaq],fj,Zak,Zaa]at h;let:=(Int.mul_eq_zero.mp h).resolve_left ϯs;lia
def wor(ts:À Nd)(s:Bool)(Ds:Int)(S:Sl):Int:=sm (Ã Í) (ϰt lfV<|û (hdN<|Ū i))+sm (Ã Í) (ϰt rtV<|û (ltN<|Ū i))+sm (Ã (S4 Í)) (ϰt gpV<|ϱ2 Ŧ)
def T7(p:ç)(a:é):sm (Ã ċ) (λj=>ϻc j*dC ċ j)=ϵk:=by
 rw[three];erw[wor];let d:=ύb;show ϧ2 (ϧ2 (ŭ ϱm)<|ŭ ϱm)<|ŭ ϱm
 .rcases kg (s:=s) (Ds:=Ds) p a 0 0 (Ţ 0) (j:=i) Á with⟨k,r,e,hr,h,H⟩|⟨k,r,e,hr,h,H⟩|⟨k,q,e,hr,h,H⟩
  .subst e
   rw[h];erw[rwN];rw[hr];rfl
  .lia
  lia
 .rcases kg (s:=s) (Ds:=Ds) p a 0 0 (Ţ 0) (j:=Ã Í+i) Á with⟨k,r,e,hr,h,H⟩|⟨k,r,e,hr,h,H⟩|⟨k,q,e,hr,h,H⟩
  .let:=(ϱa hr)
   lia
  .let e:k=i:=Á
   subst e;rw[h];erw[rwN];rw[hr];rfl
  lia
 rcases kg (s:=s) (Ds:=Ds) p a 0 0 (Ţ 0) (j:=2*Ã Í+i) Á with⟨k,r,e,hr,h,H⟩|⟨k,r,e,hr,h,H⟩|⟨k,q,e,hr,h,H⟩
 .let:=(ϱa hr)
  lia
 .let:=(ϱa hr)
  lia
 let e:k=i:=Á
 subst e;rw[h];erw[nbN];rw[hr];rfl
def Nw.worth(N:Ű)(p:ç)(a:é):Ě*ϵk=϶*(ı 0+ı 1):=by let h:Ě*_=ϻH*(ı 0+ı 1):=Lp.IY N.J<|qV<|ϰ1 a;rw[<-N.dot (dC ċ),T7 p a,<-ώw,Zad,Zae]at h;show Zbj ϯs h
def Nw.any(N:Ű)(p:ç)(a:é){K X0 X1:Int}{x:å}(h:∀i,i<Ã Í->K*û (hdN<|Ū i)<=ξ ø Þ x (hdN<|Ū i)+X0)(H:∀i,i<Ã Í->K*û (ltN<|Ū i)<=-ξ ø Þ x (ltN<|Ū i)+X1)(b:∀q∈S4 Í,K*ϱ2 q<=ξ ø Þ x q.2-ξ ø Þ x q.1):K*ϵk<=϶*(X0+X1):=by
 let m:=ύc X0 X1 x;rw[<-ώw,Zae]at m;let m:=Zbj ϯs m;rw[<-m];erw[wor];rw[Zav,Zav,<-fj,<-fj,<-fj];show Zfb (Zfb (LM _ ϱm)<|LM _ ϱm)<|LM _ ϱm
 .rw[Zad]
  show ϒJ ϭy
 .rw[Zad]
  show ϒJ<|H i hi
 rw[Zad];show ϒJ<|b _ ?_;erw[nbN];rw[ϰD];show Zah _
def Nw.least(N:Ű)(p:ç)(a:é){X0 X1:Int}(h:∀i,i<Ã Í->Ě*û (hdN<|Ū i)<=ϰZ (hdN<|Ū i)+X0)(H:∀i,i<Ã Í->Ě*û (ltN<|Ū i)<=-ϰZ (ltN<|Ū i)+X1):ı 0+ı 1<=X0+X1:=by
 let le:=N.ě p a h H λq Q=>N.far p a Q;rw[ύK a]at le;show Zci le (Ĳ<|ϩ6 a)
end
def C2{r:Ò}{k:Nat}(h:k∈r):(k=ϰC\/∃j,(j,k)∈ϳI)/\(k=ϱ\/∃j,(k,j)∈ϳI):=by
 let(i,hi,rfl):=Zal h;let at2:∀m,m+1<r.À->∀(H:m<r.À)(a:m+1<r.À),(r[m],r[m+1])∈ϳI:=λm M H a=>by erw[prs];show ϙg ⟨m,?_⟩;rw[Zan];show(Nu H,?_);rw[K84,Zct];show Nu a
 constructor
 .cases i with
  |zero=>show Ð (Ϗ hdN ϰD)
  |succ m=>show Ø ⟨_,at2 m hi Á hi⟩
 cases M:i+1<r.À
 .show Ø ⟨_,at2 i M hi M⟩
 show Ð ?_;erw[ltN];rw[Zbo,ê (r.À-1=i),ϰD];rfl
section
variable{ts:À Nd}{c:F}{s:Bool}{Ds:Int}{S:Sl}
def Nw.u0(N:Ű):0<Ě:=Lp.Ys N.J
def GB(N:Ű)(p:ç)(h:Ź)(l:é)(g0:ϱx){a b:Nat}(q:(a,b)∈S4 Í):ϰZ a+Ě*û a+Ě*û b<=ϰZ b/\0<=Ě*û a/\0<=Ě*û b:=by
 let f:=N.far p l q;let u:=N.u0;erw[bI]at f;let g:=ϓV (ê<|0<=Ds+1);let e:Ě*(û (a,b).1+û (a,b).2+Ds+1)=Ě*û a+Ě*û b+Ě*(Ds+1):=by rw[Zfj,Zav,Zav]
 rw[e]at f;let f:_<=ϰZ b-ϰZ a:=f;show(Á,ϓV (ϱQ a).1,ϓV (ϱQ b).1)
def Nw.fl(N:Ű)(p:ç)(h:Ź)(a:é)(g0:ϱx):∀k,Ć->Ě*û k<=ϰZ k+ı 0:=by
 ext k
 induction k using Nat.strongRecOn with
 |ind k ih=>
  ext H;let he:=ľ;let(r,hr,M):=xy he H;rcases(C2 M).1 with e|⟨j,J⟩
  .rw[e]
   show N.left p a hr
  let q:=ϯw J;let b:=ϵG q;let i:=ih j b.1<|Zce b.1 b.2.1;let f:=GB N p h a g0 q;lia
def Nw.fr(N:Ű)(p:ç)(h:Ź)(a:é)(g0:ϱx):∀m k,Ć->ϫC<=m->Ě*û k<=-ϰZ k+ı 1:=by
 ext m
 induction m with
 |zero=>ext k H h;lia
 |succ m ih=>
  ext k H d;let he:=ľ;let(r,hr,M):=xy he H;rcases(C2 M).2 with e|⟨j,J⟩
  .rw[e]
   show N.right p a hr
  let q:=ϯw J;let b:=ϵG q;let i:=ih j b.2.1 (by let:k<j:=b.1;lia);let f:=GB N p h a g0 q;lia
def yJ(he:ĕ){i:Nat}(hi:i<Ã Í):Č (hdN (Ū i))/\Č (ltN (Ū i)):=by let hr:á Í=some Í[i]:=ϰD;let(ne,m):=ϸo;let(_,_,a,b):=bX ne;erw[rwN];rw[hr];show(m _ a,m _ b)
def Nw.width(N:Ű)(p:ç)(h:Ź)(l:é)(g0:ϱx)(m:Int):jE (Ā ts.À λk=>ϰZ k-m+Ě*(û k+1))-eT (Ā ts.À λk=>ϰZ k-m-Ě*û k)=ı 0+ı 1+Ě:=by
 let he:=ľ;let d:=p.ú;let ne:∀f:å,Ā ts.À f≠[]:=λf e=>by
  let:=Ż e;rw[K0,Z7]at this;simp at this;rw[this]at d;show absurd d Û
 let(A,n):=c_<|ne λk=>ϰZ k-m+Ě*(û k+1);let(b1,B):=dS<|ne λk=>ϰZ k-m-Ě*û k;generalize jE _=M at A n⊢;generalize eT _=m2 at b1 B⊢
 let(a,H,rfl):=XV.mp A;let(b,K,rfl):=ϤQ b1;let H:=ϹQ;let K:=Ϸz K;let g:=N.fr p h l g0 ϧY a H ì;let J:=N.fl p h l g0 b K;let le:=N.least p l (X0:=-(ϰZ b-m-Ě*û b)-m) (X1:=ϰZ a-m+Ě*(û a+1)+m-Ě) (λi hi=>by
   let:=B _<|Zcd<|϶u (ώx).1
   lia) (λi hi=>by
   let:=n _<|Zcd<|϶u (ώx).2;rw[Zav,Zbl]at this
   lia)
 rw[Zav,Zbl]at le⊢;lia
end
def dI(D:À (À Int))(k:Nat):À Int:=Ó (D[k]?) []
def HN{D:À (À Int)}{k:Nat}(h:k<D.À):Ť Ϭj ë=Â (iD<|ϱg k):=de (by rw[N2,ϱi];erw[dI];rw[ϱi];rfl)
def XD{l:À Int}{p:Nat}(h:p<l.À):Ť ϲJ (p:Int)=Â (Ä<|gI l p):=de (by rw[N2,ϱi];erw[gI];rw[ϱi];rfl)
def LV(a b:À Int):gNe (Ï όF) (Ï όG)=þ (ã<|! Õ (a=b)):=by
 erw[gNe];rw[n_];erw[k7];rw[cG (lay_ints a) Ý,cG (lay_ints b) Ý,K7m,Ĝ];let:Ϭx (Ï όF) (Ï όG)=Õ (a=b):=Ĥ PyData.eqv vG
 rw[this];rfl
def nZ(R:Nat->À Int)(U m:ύI)(A:Ò):À (À Int):=Ê (A.Û U) R++Ê (A.Û m) λk=>(Ϩ (R k))
def N9(L:À α)(f g:ϴy α):ϖH L.Ç (λx=>f x+g x):=by
 induction L with
 |nil=>rfl
 |cons a r ih=>
  rw[K9w,K9w,K9w,Zap,Zap,Zap,ih];lia
def Mj(L:À α)(q:ϱP α)(f:ϴy α):(ß L.Û q f).sum=(L.Ç λx=>Ë (q x=true) (f x) 0).sum:=by
 induction L with
 |nil=>rfl
 |cons a r ih=>
  cases e:q a with|true=>rw[Zbm e,K9w,K9w,Zap,Zap,ih,Os e]|false=>rw[Zbb (ϻq K9o),K9w,Zap,ih,P3 (ϻq K9o),K8R]
def Ks(ts:À Nd)(R:Nat->À Int)(A:Ò)(w p:Nat):(Ê (nZ R ϴR ϴS A) λx=>ϭB).sum=tot ü Tl R A w p:=by
 erw[nZ,tot];rw[K9i,Zbf,S1,S1,Mj,Mj,<-N9];show ϐK<|K8u λk _=>?_;change(Ë (ϴR k=true) (Ϭ0 p) 0)+(Ë (ϴS k=true) (gI (Ϩ (R k)) p) 0)=_;erw[lkB,mrB];simp only[K9k]
theorem L4(ts:À Nd)(D:À (À Int))(A:Ò)(w m:Nat)(b:∀k∈A,k<D.À/\Ã (ϱg k)=m)(W:w∈A)(j:ϲx A.À)(o:m<=100):
  d6 [Ï Ϭj,Ï<|A.Ç ϶g]=ģ (aG<|Ê ϹZ λp=>tot ü Tl ϱg A w p):=by
 erw[d6,lM];simp![S5];generalize c:Į=rc
 let e:=iS c ϶g ϴR (ϦA<|iD<|ϱg k) A rfl (K94<|aF Á) (by
  ext k K;let a:=HN (b k K).1;show(?_,Ţ ?_)
  .cases h1:lkB ts w k<;>simp![memD,h1]<;>rfl
  simp![memD,a])
 subst e;clear c;simp![S5];generalize c:Į=rc
 let e:=iS c ϶g ϴS (ϦA<|iD (Ϩ (ϱg k))) A rfl (K94<|aF Á) (by
  ext k K;let a:=HN (b k K).1;show(?_,Ţ ?_)
  .cases h1:mrB ts w k<;>simp![memD,h1]<;>rfl
  let R:∀a n:Ü OD,ub (Ù 3 Ľ) (ġ<|Ç 1) [some<|Ñ ë,a,n,â Ϭj]=.ok (Ę<|ύl (ϱg k) int):=λd n=>Ô Zdc (Mi (by simp![a];rfl) ϻg)
  let s:iD (Ϩ (ϱg k))=Ï (ύl (ϱg k) int):=rfl;rw[s];simp![memD,R,aI])
 subst e;clear c;let F:=K8i ϴR A;let L:=K8i ϴS A;let B:ϳt (Ã (A.Û ϴR)+Ã (A.Û ϴS)):=aF Á;let E:Ê ((ß A.Û ϴR λk=>Đ<|iD<|ϱg k)++ß A.Û ϴS λk=>Đ<|iD (Ϩ (ϱg k))) OD.er=Ê Ϧ3 iD:=by erw[nZ];rw[K9i,K9i,S1,S1,S1,S1];congr 1<;>show Ϥ2
 let g:∀x∈Ϧ3,x.À=m:=λx H=>by
  erw[nZ]at H;rcases K9Y.mp H with H|H
  .let(k,K,rfl):=Ϻa
   show(b k (ϦG K).1).2
  let(k,K,rfl):=Ϻa;rw[Zax];show(b k (ϦG K).1).2
 let r:Ã Ϧ3<=200:=by
  erw[nZ];rw[K9v,K0,K0];lia
 obtain⟨x0,X,H⟩:∃x0 X,Ϧ3=x0::X:=by
  let M:w∈A.Û ϴR:=ϳz ⟨W,ϵp lkB Ϥx⟩;let:ϱg w∈Ϧ3:=ϵp nZ (ϰA<|ϲp ⟨w,M,rfl⟩)
  cases h:nZ ϱg ϴR ϴS A with
  |nil=>rw[h]at this;cases this
  |cons x X=>show(x,X,rfl)
 let tt:=Ks ts ϱg A w;generalize Ϧ3=G at E g r H tt;let g0:Ť (G.Ç iD) ((Ì 0))=Â (iD x0):=ϫW ϭh
 let i:x0.À=m:=g x0 (ϫW K9z);let S:Κ ϴ0:=Ŕ Á;let gl:ba [iD x0]=.ok (Ñ ϴ0):=by erw[iD];rw[KL,K0,i]
 simp![L9,K0,B,E,g0,gl,S];generalize c:Į=rc
 let e:=aS c (ϳj<|0+ë) (λp=>Ñ<|tot ü Tl ϱg A w p) ϹZ (ϣ K9n) (Ô Z7<|K94<|aF Á) (by
  ext p P;let P:=Ϸz P;rw[K8R];simp![S5];generalize C:Į=rc2
  let e:=aS C iD (λx=>Ñ ϭB) G rfl (K94<|aF Á) (by
   ext x H;let:=XD (l:=x) (p:=p) (Ô (g x H) P)
   erw[iD];simp![this])
  subst e;let f:ß G.Ç (λx=>Đ<|Ä ϭB) OD.er=ß G.Ç (λx=>ϭB) int:=Ζ S1 S1 (ϻ5 ϰn)
  simp![f,lh,tt])
 subst e;simp![S5];erw[aG];rw[S1,S1];rfl
def zB(x:À Int):Bool:=(x.Ç ώl).any id
def C8{x:À Int}:Ł (zB x)↔∀p,p<x.À->ϭB=0:=by
 erw[zB];rw[Zea,Zdm];constructor
 .intro h p H
  let:=h (x[p])<|Zah H;erw[gI];rw[Nu H];simpa using this
 ext h z Z;let(p,H):=Zac Z;let:=h p ϹB;erw[gI]at this;rw[H]at this;let this:z=0:=this;subst this;show K9o
def any_rows(L:À (À Int)):(L.Ç zB).any id=!(L.all λx=>!zB x):=by
 induction L with|nil=>rfl|cons a r ih=>rw[K9w,K81,K80,ih];cases zB a<;>rfl
def ltB(ts:À Nd)(l r g:À Int):Bool:=Õ<|[Ì l.À,Ì r.À,Ì g.À]=ϮF (Ì ((Ã Í))) (Ì ts.À)
def zd(l r g:À Int):Int:=eT ϑB
def Ld(ts:À Nd)(g:À Int):Bool:=(Ê Í λq=>ϲr ϱt !=0).any id
def NV{ts:À Nd}{l r g:À Int}(h:όf=true):Ϸn (Ã Í)/\r.À=Ã Í/\İ g.À:=by
 let h:=of_decide_eq_true h;injection h with H h
 injection h with a h
 injection h with f h
 lia
theorem Us(ts:À Nd)(l r g:À Int)(he:ĕ)(f:Č 0)(i:é):
  eG [Ï è,ϳs]=þ (ã<|όf&&(Õ ϒf&& !Ld ts g)):=by
 erw[eG,pH];let nl:0<Ã Í/\ϱ1 (Ã Í):=ϺE f;let lv:bS [Ï è]=ģ (oP Í):=kX ts he i;let ne3:gNe (Ï [Ä (Ì l.À),Ä (Ì r.À),Ä (Ì g.À)]) (Ï (ϮF (Ä (Ì ((Ã Í)))) (Ä (Ì ts.À))))=þ (ã<|! όf):=LV [Ì l.À,Ì r.À,Ì g.À] (ϮF (Ì ((Ã Í))) (Ì ts.À));let c1:∀a n w:Ü OD,ϰr iTp 1 (ħ<|È 0 ai) 1 [] [a,Ĕ ϳs,n,w]=ģ [Ñ<|(Ì l.À),Ñ<|(Ì r.À),Ñ<|(Ì g.À)]:=λa n w=>by
  erw[eQ,iD];simp![ET,Mc];generalize h:Į=rc;let e:=aS h (λx:À Int=>ϴO ϔy) (λx=>Ñ<|(Ì x.À)) [l,r,g] rfl (ϱl<|3<=Tk) ϮA;subst e;rfl
 let e1:ß oP Í OD.er=oW Í:=mD _;cases hb:ltB ts l r g with
 |false=>rw[hb]at ne3;simp![lv,e1,↓c1,eL,aH,ne3];rfl
 |true=>
  rw[hb]at ne3;let(c,R,m):=NV hb;let N:l≠[]:=λz=>by rw[z]at c;simp at c;lia
  let E:ϩ3:=λz=>by rw[z]at R;simp at R;lia
  let neg:ϵa g:=λz=>by rw[z]at m;simp at m;lia
  let L:∀a n w:Ü OD,ϰr iTp 1 (ϥB<|È 0 ai) 1 [] [a,Ĕ ϳs,n,w]=ģ [Ñ<|eT l,Ñ<|eT r,Ñ<|eT g]:=λa n w=>by
   erw[eQ,iD];simp![ET,Mc];generalize h:Į=rc
   let e:=aS h (λx:À Int=>ϴO ϔy) (λx=>Ñ<|eT x) [l,r,g] rfl (ϱl<|3<=Tk) (by
    ext x H;let:x≠[]:=by
     simp only[K8v,K8P,or_false]at H;rcases H with rfl|rfl|rfl
     .show N
     .show E
     show neg
    let:=rE this;simp![this])
   subst e;rfl
  let M:mN [Ï [Ä<|eT l,Ä<|eT r,Ä<|eT g]]=.ok (Ñ<|zd l r g):=rE (xs:=ϑB) Û;let g2:J0 ϳs (Ä 2)=þ (iD g):=by erw[eQ];simp![S5]
  let cl:aJ ϰa aT (ū (Ù 1<|Ç 2)<|Ù 0<|Ç 0) [none,Ĕ ϳs] (oW Í) []=.ok (Ê Í λq=>OD.sh<|Ä<|ϲr ϱt):=by
   generalize h:Į=rc
   apply aS h (λq:Ò=>ϴO<|aO q) (λq=>Ñ<|ϲr ϱt) Í rfl (K94<|aF Á) (by
   ext q Q;let(j,J):=Zac Q;let(ne,lt):=Ϫq J;let(o,_,p,_):=bX ne;let A:=Ϸa g ϱt (ϥi<|lt _ p)
   erw[iD]at g2;simp![g2,o,A])
  let d:Ϩo (Ê Í λq=>OD.sh<|Ä<|ϲr ϱt) (Ê Í λq=>ϲr ϱt):=Ζ S1 S1 (K8u λq _=>ϰn)
  let G:((Ê Í λq=>ϲr ϱt).map ώl).any id=Ld ts g:=Ϗ Ld S1
  let b:=Dt<|xR<|Ê Í λq=>ϲr ϱt;rw[G]at b;cases hd:decide ϒf with|false=>simp![lv,e1,↓c1,eL,aH,ne3,↓L,M,hd];rfl|true=>simp![lv,e1,↓c1,eL,aH,ne3,↓L,M,hd,cl,d,b];rfl
def clB(ts:À Nd)(D:À (À Int)):Bool:=(č).all λj=>(ϱR<|(Ã (ϱg j))).all λp=>Õ<|tot ü Tl ϱg č j p=0
def HR(ts:À Nd)(D:À (À Int)):clB ts D=true↔∀j∈č,calm ü Tl ϱg č j:=by
 erw[clB,calm];rw[K7x];constructor
 .intro h j J p H
  let:=h j J;rw[K7x]at this;show ϷR<|this p<|K9G.ó H
 ext h j J;rw[K7x];ext p H;show Z8<|h j J p ϹQ
def uW{m:Nat}{f:å}{p:Nat}(h:p<m):gI (Ê ϹZ f) p=f p:=ϰY gI N2 ϴ6
def P8(ts:À Nd)(R:Nat->À Int):∀(m:Nat)(V:Ò),όI->((∀x∈ŏ m V,calm ü Tl R x.2 x.1)↔Calm ü Tl R V):=by
 ext m
 induction m with
 |zero=>
  ext V h;let:V=[]:=Zas Á;subst this;show((Ţ õ),Ϛn)
 |succ m i=>
  ext V h;cases V with
  |nil=>show((Ţ õ),Ϛn)
  |cons w W=>
   let dl:=ύJ;rw[K9p]at h;let i:=i (Δ λk=>! ŋ) Á;rw[gsF'];constructor
   .intro H
    show ą (H _ K9z)<|i.mp λx X=>H x<|ě X
   ext C x H;cases C with
   |cons h1 h2=>
    rcases K8v.mp H with rfl|H
    .show h1
    show i.ó h2 x H
def KI(D:À (À Int)):Bool:=D.all λx=>!zB x
def Za(E:À (À Int))(a:E.À<=1000):aJ ϰa aT (ϨC<|È 0 ai) [none] (E.Ç iD) []=.ok (E.Ç λx=>Đ<|ã<|zB x):=by
 generalize w:Į=rc;apply ϶R iD (λx=>.sh<|ã<|zB x) E rfl (K94<|aF a) (by ext x _;let e:=Dt<|xR x;erw[iD];simp![e];rfl)
def LH(E:À (À Int)):ß E.Ç (λx=>Đ<|ã<|zB x) OD.er=ß E.Ç zB PyData.bool:=Ζ S1 S1 (ϻ5 ϰn)
def WA(E:À (À Int)):vp [Ï<|ß E.Ç zB PyData.bool]=þ (ã<|!KI E):=ϰ7 (Dt<|Me _) any_rows
def sy(ts:À Nd)(s:À Int)(k:Nat):Ã (dI (ϱ3 s) k)=Ë Ć (Ã (Å k)-1) 0:=by
 erw[dI,cR];rw[N2];cases h:k<ts.À
 .rw[ϴ6,ϰo]
  change Ã (wI<|Ê (Å k) ϺH)=_;erw[wI];rw[K0,Z7,K0]
 rw[K9c (Ă Z7),ϱA];rfl
def Bv{ts:À Nd}{c:F}(p:ç)(s:À Int)(a b:Nat)(h:ϥo ü Tl):Ã (dI (ϱ3 s) a)=Ã (dI (ϱ3 s) b):=by
 rw[sy,sy];cases A:a<ts.À
 .by_cases B:ϵm
  .rw[Os A,Os B]
   let:ϥo ϰb F.mir:=by
    rw[bG]at h⊢;rw[dQ A,dQ B]at h;rcases h with h|h
    .show Ð ϸP
    show Ø ϸP
   rw[FO p A B this]
  rw[bG,dQ A]at h;let e:ü b=none:=P3 B;rw[e]at h;rcases h with h|h<;>cases h
 cases B:b<ts.À
 .rw[bG,dQ B]at h
  let e:ü a=none:=P3 A;rw[e]at h;rcases h with h|h<;>cases h
 rw[P3 A,P3 B]
def rowsOf(ts:À Nd)(D:À (À Int))(x:Nat×Ò):À Int:=Ā ((Ã (ϱg x.1))) λp=>tot ü Tl ϱg x.2 x.1 p
def wU(ts:À Nd)(D:À (À Int))(x:Nat×Ò):Ł (zB (Ϲx D x))↔calm ü Tl ϱg x.2 x.1:=by
 rw[C8];erw[rowsOf,calm];rw[K0,Z7];constructor
 .intro h p H
  let:=h p H;rw[uW H]at this;show this
 ext h p H;rw[uW H];show h p H
def Ge{ts:À Nd}{c:F}(p:ç)(s:À Int):KI ((ŏ ((Ã č)) č).map<|Ϲx<|ϱ3 s)=clB ts (ϱ3 s):=by
 rw[K8j,HR,<-K4 fL (Bv p s) (Ã č) č ì,<-P8 ts _ (Ã č) č ì];erw[KI];rw[List.all_map,K7x];constructor
 .intro h x H
  let:=h x H;let:Ł (zB (Ϲx (ϱ3 s) x)):=ť this
  show(wU ts _ x).mp this
 ext h x H;let:=(wU ts _ x).mpr<|h x H;change(!zB (Ϲx (ϱ3 s) x))=true;rw[this];rfl
def sdB(l r:À Int):Bool:=Õ ϓu&&Õ (l.Ğ=r.Ğ)
def QY(ts:À Nd)(l r g:À Int)(strict:Bool):Bool:=sdB l r&&(if strict then clB ts (ϱ3 ϶3)else KI (ϱ3 ϶3))
theorem Nn(ts:À Nd){c:F}(p:ç)(B:Ź)(z:ϰJ 40)(l r g:À Int)(strict:Bool)(h:eG [Ï è,ϳs]=þ (ã true))(t:Ϸn (Ã Í))(u:r.À=Ã Í)(L:İ g.À):
  kj [Ï è,ϳs,ã strict]=þ (ã<|QY ts l r g strict):=by
 erw[kj,my];let he:=ľ;let q:=ϸa;let P:J0 ϳs (Ä 0)=þ (Ï ϲJ):=ϒj eQ iD
 let E:J0 ϳs (Ä 1)=þ (Ï Ϸ8):=ϒj eQ iD
 let K:=J5 ts l r g he q Á t u L;let d:=Az ts ϶3;let A:=Ge p ϶3;let R:=λk=>sy ts ϶3 k;let e:=Bv p ϶3;erw[QY];generalize ϱ3 ϶3=D at K d A R e;erw[sdB];cases a:l.Ğ<1
 .let X:Ł (Õ ϓu):=K9q Á
  simp![h,P,lh,Z8 a,X];rfl
 let X:Õ ϓu=true:=Z8 Á;cases b:l.Ğ=r.Ğ
 .cases strict with
  |false=>
   simp![h,P,E,lh,K9q a,Z8 b,X,K,D7,Za D Á,LH,WA];simp
  |true=>
   let f:=AN ts p B Á;let M:=kL ts (Ã č) č;let gl:ϱ1 (Ã (ŏ ((Ã č)) č)):=by
    let:∀(m:Nat)(V:Ò),Ã (ŏ m V)<=m:=by
     ext m
     induction m with
     |zero=>exactλV=>ì
     |succ m ih=>
      ext V;cases V with
      |nil=>show ϰS
      |cons w W=>
       rw[gsF',K9p];let:=ih<|Δ λk=>! ŋ;lia
    show K9C (Ϧl _)<|wz ts
   let n:∀(m:Nat)(V:Ò),∀x∈ŏ m V,Ã x.2<=V.length:=by
    ext m
    induction m with
    |zero=>ext V x H;cases H
    |succ m ih=>
     ext V x H;cases V with
     |nil=>cases H
     |cons w W=>
      rw[gsF']at H;rcases K8v.mp H with rfl|H
      .show ώu
      show K9C (ϲ2 x H) ώu
   let o:=wz ts;generalize G:ŏ ((Ã č)) č=GG at f M gl A;let C:aJ ϰa aT (Rs<|aj d6<|È 1<|È 0 ai) [none,â Ϭj] (ϹY GG) []=.ok (GG.Ç λx=>Đ<|iD<|Ϲx D x):=by
    generalize s:Į=rc
    apply aS s (λx:Nat×Ò=>ϴO<|Ê x.2<|memD ts x.1) (λx=>.sh<|iD<|Ϲx D x) GG rfl (K94<|aF Á) (by
     ext x H;let(v,Q):=M x H;let N:ϲx (Ã x.2):=by
      rw[<-G]at H;let:=n _ _ x H;lia
     let cl:ϲx (Ã (ϱg x.1)):=by rw[R];let:=uU ts x.1;split<;>lia
     let go:=L4 ts D x.2 x.1 (Ã (ϱg x.1)) (λk i=>⟨by rw[d];show cZ (Q k i).1,e k x.1 (Q k i).2⟩) (Zev v) N cl
     simp![go,aW];rfl)
   let j:ß GG.Ç (λx=>Đ<|iD<|Ϲx D x) OD.er=ß GG.Ç (Ϲx D) iD:=Ζ S1 S1 (ϻ5 ϰn)
   let ca:=Za (GG.Ç<|Ϲx D) (Ă K0);simp![h,P,E,lh,K9q a,Z8 b,X,K,D7,f,aI,C,j,ca,LH,WA,A];simp
 let y:=K9q b;simp![h,P,E,lh,K9q a,y,X];rfl
structure VP(ts:À Nd)(l r g:À Int):Prop where
 ll:Ϸn (Ã Í)
 lr:r.À=Ã Í
 lg:İ g.À
 pl:∀x∈l,0<=x
 pr:∀x∈r,0<=x
 pg:∀x∈g,0<=x
 fst:∀q∈Í,ϲr ϱt=0
def nn{ts:À Nd}(he:ĕ)(a:Č 0):0<Ã Í/\ϱ1 (Ã Í):=ϺE a
def ES(h:x.À=n)(a:0<n):x≠[]:=ϖ1
def VP.are{ts:À Nd}{l r g:À Int}(v:VP ts l r g)(he:ĕ)(H:Č 0)(L:é):eG [Ï è,ϳs]=þ (ã true):=by
 rw[Us ts l r g he H L];let N:=nn he H;let a:όf=true:=by erw[ltB];rw[v.ll,v.lr,v.lg];show Ϥx
 let b:Õ ϒf=true:=by
  erw[zd];let M:=(dS (xs:=ϑB) Û).1;let d:=v.pl _ (dS<|ES v.ll N.1).1;let R:=v.pr _ (dS<|ES v.lr N.1).1;let m:=v.pg _ (dS<|ES v.lg H).1;show Z8 ?_;simp only[K8v,K8P,or_false]at M;rcases M with h|h|h<;>rw[h]<;>assumption
 let c:Ł (Ld ts g):=by erw[Ld];rw[Zea,Zdm];ext q Q;let:=v.fst q Q;simp[this]
 rw[a,b,c];rfl
def yW(ts:À Nd)(l r:À Int)(j:Nat):Int:=I4 l j*û (hdN<|Ó (ę Í) [])+I4 r j*û (ltN<|Ó (ę Í) [])
def fG(ts:À Nd)(Ds:Int)(g:À Int)(p:Ϻ):Int:=ϲr p.2*ϱ2 p
def Bp(ts:À Nd)(Ds:Int)(l r g:À Int)(i:Nat):Int:=l.Ğ+Ϥ9 i+(ß S4 (ł Í i) όn).sum
def K6(ts:À Nd)(Ds:Int)(l r g:À Int)(he:ĕ)(j:Č 0)(a:ϵe)(H:é)(g0:0<=Ds)(g1:ϲx Ds)(s:Ϸn (Ã Í))(R:r.À=Ã Í)(o:İ g.À):
  qZ [Ï è,Ä Ds,ϳs]=.ok (Ñ<|Bp ts Ds l r g (Ã Í)):=by
 erw[qZ,zY,eQ,iD];let nl:=ϺE j;let t:ϲx (Ã (S4 Í)):=by
  let:=oO Í;let ok:=ϵ5 ì;let:İ (Ê Í List.length).sum:=ok.Ğ;lia
 let z:zN3 [Ï<|oW Í,Ï ϲJ,Ï Ϸ8]=.ok (wJ (oW Í) ϲJ Ϸ8):=YK ⟨by rw[eL,K0,s],by rw[eL,K0,R]⟩;simp![jR ts a H,rsh,lh,Yv,kX ts he H,mD,z];generalize m:Ŗ=r';apply aX m (λi b=>∃(v v6 V:Ü OD),b=[â è,some<|Ñ Ds,Ĕ<|Ą [Ï ϲJ,Ï Ϸ8,Ï ό9],â<|ß ay ts int,some<|Ñ<|l.Ğ+Ϥ9 i,v,v6,V])
  ⟨_,_,_,Ĥ (ϸg (Ϥ9 0) 0) Zak⟩ ?_ ?_
 .rintro i d b hd ⟨v,v6,V,rfl⟩
  let(hi,rfl):=vU hd;rw[eL]at hi;obtain⟨q,Q⟩:∃q,á Í=Â q:=ϓa (Í[i])
  let(F,J):=Ϫq Q;let(e1,E,G,f):=bX F;rw[C5 Q,uP Á,uP Á];let A:=Ϸa ϸS ϱt (Ô lK<|J _ G);let c:=Ϸa ϸS ϸG (Ô lK<|J _ f);let b1:=wV a ϱt;let B:=wV a ϸG;let c1:ϤB Ϥl (û ϱt):=ϧr Á;let L:ϤB ϭs (û ϸG):=ϧr Á;simp![e1,E,A,c,c1,L];let tk:l.Ğ+Ϥ9 (i+1)=l.Ğ+Ϥ9 i+(Ϥl*û ϱt+ϭs*û ϸG):=by
   let e:yW ts l r i=Ϥl*û ϱt+ϭs*û ϸG:=Ϗ yW Q
   rw[ϸg (Ϥ9 (i+1)) (Ϥ9 i+yW ts l r i),e,Zfj]
  rw[tk];show(_,_,_,rfl)
 ext ρ' rfl ⟨v,v6,V,rfl⟩;rw[we,eL];simp![zM ts Ds he a H,aI];generalize w:Į=rc
 let e:=aS w ό5 (λp=>Ñ<|όn p) (S4 Í) rfl (K94<|aF Á) (by
  ext p P;let h:=ϸw P;let A:=Ϸa g p.2 (by rw[o];show h.2);let b1:=wV a p.1;let B:=wV a p.2;let c1:ϤB (ϲr p.2) (ϱ2 p):=ϧr (Ϩp bI)
  erw[Dx,fG];simp![A,c1])
 subst e;let em:Ϩo (ß S4 Í λp=>Đ<|Ä<|όn p) (ß S4 Í όn):=Ζ S1 S1 (K8u λp _=>ϰn)
 simp![em,lh];erw[Bp];rw[K90 ì]
def D4(ts:À Nd)(pl:À Int)(u:Int)(h:Č 0)(l:ϵe)(a:é)(p:İ pl.À):
  eh [Ï è,Ï ϻz,Ä u]=.ok (Ñ<|jE (Ā ts.À λk=>ϵA+u*(Ļ k+1))-eT (Ā ts.À λk=>ϵA-u*Ļ k)):=by
 erw[eh,mh];let ne:∀f:å,Ā ts.À f≠[]:=λf z=>by
  let:=Ż z;rw[K0,Z7,K8U]at this;lia
 let g:=lK ts;let L:=ZF (ds:=ϻz) (es:=ß ay ts int) (by rw[K0,K0,g,p]);let r:∀k,Ś 0 (Ļ k) 1000:=λk=>by let b:=wV l k;show(ϧJ b.1 (0<=û k),ϧJ b.2 (û k<=1000))
 simp![jR ts l a,rsh,L,aI,FX p g];generalize w:Į=rc
 let e:=aS w (ϰU<|ϱ0 [Ä ϵA,Ä<|Ļ k]) (λk=>Ñ<|ϵA+u*(Ļ k+1)) ϳS rfl (Ô Z7<|K94<|aF Á) (by
  ext k _;let C:jH u (Ļ k+1)=true:=ϧr (Ĳ<|r k)
  simp![C])
 subst e;clear w;rw[zD];let X:=Kf<|ne λk=>ϵA+u*(Ļ k+1);simp![aW,X,aI];generalize w:Į=rc
 let e:=aS w (ϰU<|ϱ0 [Ä ϵA,Ä<|Ļ k]) (λk=>Ñ<|ϵA-u*Ļ k) ϳS rfl (Ô Z7<|K94<|aF Á) (by
  ext k _;let C:jH u (Ļ k)=true:=ϧr (Ĳ<|r k)
  simp![C])
 subst e;rw[zD];let m:=rE<|ne λk=>ϵA-u*Ļ k;simp![aW,m]
def xw{α:Type}(d:α)(f:ϴy α):∀L:À α,(L.Ç f).sum=ϰR L.À (f (Ó (L[i]?) d)):=by
 ext L
 induction L using snoc_ind with
 |a=>rfl
 |S L a ih=>
  rw[K9i,Zbf,K9v,ih];change _=sm L.À _+f (Ó ((L++[a])[L.length]?) d);rw[K9a ì,K8c];show ϧ2 (ŭ ϱm) Û;rw[K9V hi]
def GU(f:å):∀n,l5 f n=ĳ f:=by
 induction _ with|zero=>show rfl|succ n N3=>change l5 f n+f n=ĳ f+f n;rw[N3]
private def parts{ts:À Nd}(he:ĕ)(f:å)(s:À Int)(S:İ s.À):∀m,m<=ĵ->ϳT (pA (ϰ s m) v*(f v-Ë (ϥn<=v) (f (ý v)) 0))=ϳT (pA s v*f v):=by
 induction _ with
 |zero=>ext _;show ŭ (λv V=>ϰ7 (P3 Á) Zau)
 |succ m N3=>
  ext h;rw[<-N3 Á];let H:Č (ĵ-m):=Á
  let e1:ý (ĵ-m)<ĵ-m:=(϶W he Á H).2.1;let g:ĩ (Ĩ<|ĵ-m)=ý (ĵ-m):=rfl;let bl:=Bx ts s m;let T:∀v,pA (ϰ s<|m+1) v=pA (ϰ s m) v+Ë (v=ý (ĵ-m)) (pA (ϰ s m) (ĵ-m)) 0:=λv=>by
   rw[bsF',g,wj Á]
   split
   .rename_i e;rw[e];rfl
   rw[Zak]
  let a:ϳT (pA (ϰ s<|m+1) v*(f v-Ë (ϲN (m+1)<=v) (f (ý v)) 0))=ϳT ((pA (ϰ s m) v*(f v-Ë (ϥn<=v) (f (ý v)) 0)+(-1)*(Ë (v=ĵ-m) (pA (ϰ s m) (ĵ-m)*f (ý<|ĵ-m)) 0))+(Ë (v=ý (ĵ-m)) (pA (ϰ s m) (ĵ-m)*f (ý<|ĵ-m)) 0)):=Lp.aM _ λv V=>by
   rw[T];cases c1:v=ý (ĵ-m)
   .rw[Os c1,P3 Á,P3 Á,P3 Á,Os c1,c1,Zau,Zbq,Zaa,Zak]
   rw[P3 c1,P3 c1,Zak,Zak];cases L:v=ĵ-m
   .rw[Os Á,P3 Á,Os L,L,Zau,Zbw]
    lia
   rw[P3 L,Zaa,Zak];cases k:ϥn<=v
   .rw[Os k,Os Á]
   rw[P3 k,P3 Á]
  rw[a,lF,lF,fj,Ϸg (ĵ-m) _ H ϫb,Ϸg (ý<|ĵ-m) _ Á ϫb,Ĝ,Ĝ];lia
def NI(p:Nat):∀(X:À Int)(a:Nat),ϰR X.À (ř X*ϓW)=ϏA (p+1-a):=by
 ext X
 induction X using snoc_ind with
 |a=>ext a;simp;rfl
 |S X x ih=>
  ext a;rw[K9v];change sm X.À _+pA (X++[x]) X.À*sgn ϒ8 p=_;let e1:ϰR X.À (ř (X++[x])*ϓW)=ϰR X.À (ř X*ϓW):=ŭ ((ϰp (ϰT (Lp.xD hi))))
  rw[e1,ih a,Lp.zz ì,K8c];change _+x*sgn ϒ8 p=_;erw[sgn];cases C:p<ϒ8
  .rw[Os C,List.drop_append_of_le_length Á,K8s Á,Zbf]
   simp;lia
  rw[P3 C,Zeo Á,Zeo ϳc,K90 Á,K90 ϳc,Zbf];simp;lia
def Hl(r:Ò):Ê ϳI Ž=r.ä 1:=ϵp prs (List.map_snd_zip Û)
def Ur{rows:À Ò}{k:Nat}(h:k∈ß S4 rows Ž):∃r∈rows,k∈r:=by
 induction rows with
 |nil=>show ϻw (Ϯ S4)
 |cons r rs ih=>
  rw[S4',K9i,K9Y,Hl]at h;rcases h with h|h
  .exact(r,K9z,Zca h)
  let(R,a,b):=ih h;show(R,ě a,b)
def X3:∀rows:À Ò,(∀r∈rows,r.Í)->rows.Ĉ (λr R=>∀k∈r,k∉R)->(ß S4 rows Ž).Nodup:=by
 induction _ with
 |nil=>ext _ _;simp[S4]
 |cons r rs N3=>
  ext h p;rw[S4',K9i,Hl];rw[List.pairwise_cons]at p;show Ϧi ⟨(h r K9z).sublist<|List.drop_sublist 1 r,N3 (λx H=>h x<|ě H) p.2,ϴJ ?_⟩;subst e;let(R,q,Q):=Ur B;show p.1 R q a (Zca A) Q
section
variable{ts:À Nd}{c:F}{s:Bool}{Ds:Int}{S:Sl}
def N5(he:ĕ):(ß S4 Í Ž).Nodup:=by
 show X3 _ (λr hr=>?_)<|List.pairwise_iff_getElem.mpr λi j hi J I k H c=>?_
 .let(i,hi,rfl):=Zal hr
  show(Ϻk ϰD).1.imp λh=>K9O h
 let a:=((Ϻk ϰD).2 k).mp H;let b:=((Ϻk ϶Q).2 k).mp c;lia
def L7(he:ĕ){i j:Nat}(hi:i<Ã (S4 Í))(J:j<Ã (S4 Í))(h:(Ŧ).2=(Ϭ3).2):i=j:=by let nd:=N5 he;erw[nbN]at h;rw[ϰD,϶Q]at h;show(Zel (h₀:=Ϸ0 K0) (h₁:=όh K0) nd).mp (by rw[Zcn,Zcn];show h)
def vz{i:Nat}(hi:i<Ã (S4 Í)):Ŧ∈S4 Í:=by erw[nbN];rw[ϰD];show Zah _
def vg(he:ĕ)(q:À Int):∀k,k<=Ã (S4 Í)->∀v,(∀i,i<k->(Ŧ).2≠v)->pA (ϲL k) v=0:=by
 induction _ with
  |zero=>
   ext _ v _
   change pA (ϸ4 0) v=0;erw[pA];rw[K8Z];split<;>rfl
  |succ k ih=>
   intro hk v h
   rw[gpL',wj (Ô BJ (ϵG<|ϕU Á).2.1),P3 λe=>h k Á e.Ï];show ih Á v (ϰp (h i Á))
def Mt(he:ĕ)(q:À Int)(f:å):∀k,k<=Ã (S4 Í)->ϳT (ϩY (ϲL k))=sm k λi=>ϤD (2*Ã Í+i)*f (Ŧ).2:=by
 induction _ with
 |zero=>ext _;show ϭm (λv _=>by rw[vg he q 0 ϰS v λi hi=>ϐO<|Zbh i,Zam])
 |succ k N3=>
  ext h;let J:=(ϵG<|ϕU Á).2.1;change _=sm k _+ϤD (2*Ã Í+k)*f ϧ4;rw[<-N3 Á];let e:∀v,϶6->ϩY (ϲL<|k+1)=ϩY (ϲL k)+Ë (v=ϧ4) (ϤD (2*Ã Í+k)*f ϧ4) 0:=λv _=>by
   rw[gpL',wj<|όh BJ];change(Ë (v=ϧ4) _ _)*_=_;cases H:v=ϧ4
   .let g:pA (ϲL k) v=0:=vg he q k Á v λi hi e=>by
     rw[H]at e;let:=L7 he Á Á e;lia
    rw[g,Zam,K8R,ϱU,ϱU,H]
   rw[ϲc,ϲc,Zak]
  rw[ŭ e,lF,Ϸg ϧ4 _ J ϫb,Ĝ]
def FY(he:ĕ)(q:À Int){i:Nat}(hi:i<Ã (S4 Í)):pA (ϰ3 q) (Ŧ).2=ϤD (2*Ã Í+i):=by
 let h:=Mt he q (λv=>Ë (v=(Ŧ).2) 1 0) _ ì;rw[Ϸg (Ŧ).2 _ (ϵG<|vz hi).2.1 (λv _ H=>Ĥ ϲc Zaa),Ĝ,Lp.c7 (l:=i) _ hi λj J n=>by rw[P3 λe=>n<|L7 he J hi e,Zaa],Ĝ,Zbl,Zbl]at h;show h
def Lg(he:ĕ)(q:À Int){i:Nat}(hi:i<Ã Í):pA (ϰ3 q) (hdN<|Ū i)=0:=by
 show vg he q _ ì _ λj J e=>?_;let b:=ϵG<|vz J;let hr:á Í=Â (Ū i):=Ϗ rwN ϰD
 let(ne,_):=ϸo;let(_,_,M,_):=bX ne;let m:=Ϻk hr;let lv:=((m.2 _).mp M).2;let h:=(m.2 (Ϭ3).1).mpr ⟨Á,by rw[b.2.2,e,lv]⟩;let hle:hdN (Ū i)<=(Ϭ3).1:=by
  let p:=m.1;erw[hdN];cases hq:rwN ts i with
  |nil=>show ĭ hq ne
  |cons a l=>
   rw[hq]at p h;rcases K8v.mp h with e'|e'
   .rw[e'];show ì
   show Zaj<|(List.pairwise_cons.mp p).1 _ e'
 lia
private def Ve(he:ĕ)(l r g:À Int)(f:å):ϳT (ϴI v*f v)=ϳT (ϩY g)-ϰR ((Ã (S4 Í))) (pA g (Ŧ).2*f (Ŧ).1)+(Ϲh sm ((Ã Í)) (λj=>ϴu j*f (hdN<|Ū j))<|λj=>pA r j*f (ltN<|Ū j)):=by
 let e:∀v,϶6->ϴI v*f v=(ϩY g+(-1)*ϰR ((Ã (S4 Í))) (ϨY Ŧ*f v))+sm (Ã Í) (λj=>ϱF j*f v):=λv _=>by
  erw[npF,npA];rw[xw (0,0),GU,Zbq,Zdn];let a:ϰR ((Ã (S4 Í))) (ϨY Ŧ*f v)=ϰR ((Ã (S4 Í))) (ϨY Ŧ)*f v:=by rw[Zai,<-fj];show ŭ (λi _=>Zai ..)
  let b:sm (Ã Í) (λj=>ϱF j*f v)=sm (Ã Í) (λj=>ϱF j)*f v:=by rw[Zai,<-fj];show ŭ (λi _=>Zai ..)
  rw[a,b,Zcc,Zaq];rfl
 rw[ŭ e,lF,lF,fj,vF λv i=>ϨY Ŧ*f v,vF λv j=>ϱF j*f v];let a:∀i,i<Ã (S4 Í)->(ϳT<|ϨY Ŧ*f v)=pA g (Ŧ).2*f (Ŧ).1:=λi hi=>by
  let b:=ϵG<|vz hi;rw[Ϸg (Ŧ).1 _ Á (λv _ V=>χ sbT (P3 V) Zam)];erw[sbT];rw[Ĝ];rfl
 let b:Θ (Ã Í) ((ϳT<|ϱF j*f v)=ϴu j*f (hdN<|Ū j)+(-1)*(pA r j*f (ltN<|Ū j))):=λj J=>by
  let(H,c):=yJ he J;let e:∀v,϶6->ϱF j*f v=(Ë (v=hdN (Ū j)) (ϴu j*f (hdN<|Ū j)) 0)+(-1)*(Ë (v=ltN (Ū j)) (pA r j*f (ltN<|Ū j)) 0):=λv _=>by
   change((Ë (v=hdN (Ū j)) (ϴu j) 0)-(Ë (v=ltN (Ū j)) (pA r j) 0))*f v=_;rw[Zdn,Zcc,Zaq,Int.sub_eq_add_neg];show ϧ2 ?_<|Uf _ ?_
   .split
    .rename_i h;rw[h]
    show Zam _
   split
   .rename_i h;rw[h]
   show Zam _
  rw[ŭ e,lF,fj,Ϸg (hdN<|Ū j) _ H ϫb,Ϸg (ltN<|Ū j) _ c ϫb,Ĝ,Ĝ]
 rw[ŭ a,ŭ b,lF,fj];lia
end
def ind(i k:Nat):Int:=Ë (k=i) 1 0
section
variable{ts:À Nd}{c:F}{Ds:Int}{S:Sl}
def KZ{j:Nat}{g:À Tm}(h:ę (Ķ false)=Â g):∃e,g=[(e,true,false)]:=by
 erw[gpT]at h;rw[P3 Ý,N2]at h;cases hq:č[j]? with
 |none=>rw[hq]at h;cases h
 |some e=>rw[hq]at h;show(e,(ϸP).symm)
def Ng(p:ç)(L:é){e:Nat}(H:2<=Ã (Å e))(he:ϹD):(Ϲw e).Nodup/\Ã (Ϲw e)=Ã (Å e)-1/\∀k∈Ϲw e,∀e',k∈Ϲw e'->e'=e:=by
 let G:=cq ts p false L;let f:e∈č:=ϳz ⟨϶u he,Z8 Á⟩;let(j,g,t,hg,l,E):=EY ts false f;show(?_,Bq G H ⟨j,g,t,hg,l,E⟩,λk i e' K=>?_)
 .let(e1,b):=KZ hg
  subst b;rw[K95]at l;subst l;let E:e1=e:=E;subst E;let:=Dk G hg<|K95.ó rfl;let this:Ϲw e1=_:=this;rw[this];change(qD _ (e1,true,false)).Nodup;erw[qD];rw[Ĝ];erw[stL];rw[Zdz,Zei];show K8C.imp λh q=>h ?_;erw[mdS]at q;rw[P3 (ύ (¬Μ ϗM)<|ϻk (¬ϫ1)),P3<|ύ (¬Μ ϗM) (ϻk (¬ϫ1))]at q;lia
 let(J,g1,t1,A,n,w,x,y):=wR G i;let(a,g2,t2,b1,B,I,m,o):=wR G K;let d:J=a:=by
  rcases Zba J a with q|q|q
  .let:=Ϲp (Ķ false) (ê<|J+1<=a)
   lia
  .show q
  let:=Ϲp (Ķ false) (ê<|a+1<=J);lia
 subst d;rw[A]at b1;cases b1;let(e1,b):=KZ A;subst b;rw[K95]at n B;subst n;subst B;rw[<-I,<-w]
def Du(f:å)(q:ύI):∀n,(Ê (Α ϲl q) f).sum=ĳ (λv=>Ë (q v=true) (f v) 0):=by
 induction _ with
 |zero=>show rfl
 |succ n N3=>
  rw[K8A,K8o,K9i,Zbf,N3];change _=ĳ _+Ë (q n=true) (f n) 0
  congr 1
  cases hq:q n with|_=>simp[hq]
def Sy(he:ĕ)(a:Č 0):Ĩ 0=-1:=by let h:ts[0]?=some ts[0]:=Nu a;rw[ϴx];show(he 0 _ h).1 rfl
end
def XQ:Int:=(ä (2*ϴr))
def Qv{i:Int}(h:-(4*XQ)<=i)(H:i<=4*XQ):W4 i:=by
 let q:4*(2*ϴr)<ϩ0:=œ
 erw[W4];erw[XQ]at h H;let:i.ñ<=4*(2*ϴr):=Á
 show Zed this q
section
variable{ts:À Nd}{c:F}{s:Bool}{Ds:Int}{S:Sl}
variable(N:Ű)(p:ç)(h:Ź)(h0:Č 0)(hl:ϰJ 12)(g0:ϱx)(g1:϶D) include N p h h0 hl g0 g1

theorem QG(k:Nat):Ś (-(Ì XS)) (ı k) XS:=by
 let:=ϐJ _ ì<|Ã ċ+k;let e:ı k=-pA (î Þ) (Ã ċ+k):=rfl;lia
theorem aaa:Ě<=XS:=(ϐJ _ ì<|Ã ċ+Þ).2
theorem YX:϶<=ä ϦT:=by
 let bl:=N.bl p Á;let g:=N.g0 p Á;let b1:=ϩ6 Á;let n:=HJ p s h0 hl;let le:ϻH<=ä (XS^Þ):=(Rh Þ (ϰp ⟨N.J.inv.piv i hi,(ϐJ i Á _).2⟩)).2;let m:XS^Þ<=ϦT:=Zbu Ý n;let:϶<=ϥe*϶:=Ĳ (Zaf (ê<|Ì 1<=ϥe) (ê<|0<=϶))
 lia
theorem ZC:Ś 0 ϵk XQ:=by
 let L:é:=Á
 let w:=ύK L;let u:=N.u0;let nn:0<=ϵk:=by
  erw[wor];show ϛo<|Lp.ED _ ϔZ
  .show Zag Ϩg (ϱQ _).1
  .show Zag Ϩg (ϱQ _).1
  show Zag Ϩg ?_;let a:=(ϱQ (Ŧ).1).1;let b:=(ϱQ (Ŧ).2).1;erw[bI];lia
 let b1:=ϩ6 L;let B:=YX N p h h0 hl g0 g1;let x0:=ϙQ 0;let x:=ϙQ 1;let a:ϵk<=Ě*ϵk:=Ĳ (Zaf (ê<|Ì 1<=Ě) nn)
 let b:϶*(ı 0+ı 1)<=϶*(2*XS):=Zat Á Á;let d:϶*(2*Ì XS)<=ä ϦT*(2*Ì XS):=Zaf B Á;let e:ä ϦT*(2*Ì XS)=XQ:=by
  erw[XQ];rw[ύ (ϴr=ϦT*XS) (Zcm ..)];push_cast;generalize Ì XS^13=A;rw[Zad]
 show(nn,Á)
theorem Zh:ä ϦT<=XQ/\Ì XS<=XQ:=by
 let a:ϦT<=2*ϴr:=œ
 let b:XS<=2*ϴr:=œ
 erw[XQ];lia
end
def Lc(l:À Int):l.Ğ=sm l.À ϴu:=ϱC (xw 0 id l) Zdu
section
variable{ts:À Nd}{c:F}{s:Bool}{Ds:Int}{S:Sl}
def nwM(ts:À Nd)(s:Bool)(Ds:Int)(S:Sl):Int:=eT<|Ā ts.À λk=>gv ϯu k-Ě*Ļ k
def nwL(ts:À Nd)(s:Bool)(Ds:Int)(S:Sl):À Int:=Ϗj Ě
def CN:İ (Ã ϴG):=by erw[nwL,mvL,nwP];rw[K0,K0,Z7]
def oV{k:Nat}(h:Ć):I4 ϴG k=ϰZ k-nwM ts s Ds S:=by erw[I4,nwL,mvL,nwP];rw[N2,N2,ϴ6];rfl
def NH:Ã Ġ=2*Ã Í+Ã (S4 Í):=by erw[nwQ,nwR];rw[Lp.BC,wm,lJ]
def FN:Ã (ϰx Ġ)=Ã Í:=by
 erw[dY];rw[K9f,NH];lia
def Fl:Ã (ϰ4 Ġ)=Ã Í:=by
 erw[cF];rw[K9f,K8y,NH];lia
def V2{j:Nat}(J:j<Ã Í):I4 (ϰx Ġ) j=ϫi j:=by erw[dY,lfV,qv,pA,I4];rw[K97 J]
def Ut{j:Nat}(J:j<Ã Í):I4 (ϰ4 Ġ) j=ϧT j:=by erw[cF,rtV,qv,pA,I4];rw[K97 J,K84]
def Fw:(ϰx Ġ).sum=϶:=Ζ Lc FN (ŭ ((ϰp (V2 hi))))
variable(N:Ű)(p:ç)(h:Ź)(h0:Č 0)(hl:ϰJ 12)(g0:ϱx)(g1:϶D) include N p

theorem TJ(a:é):(ϰ4 Ġ).sum=϶:=by rw[Lc,Fl,<-N.br p a];show ŭ ((ϰp (Ut hi)))
theorem M3(a:é):Bp ts Ds (ϰx Ġ) (ϰ4 Ġ) (ϰ3 Ġ) (Ã Í)=϶+ϵk:=by
 let he:=ľ;erw[Bp,wor];rw[Fw,GU,K90 ì,xw (0,0),Lp.aM (g:=λj=>ϫi j*û (hdN<|Ū j)+ϧT j*û (ltN<|Ū j)) _ λj J=>ϰY yW (V2 J) (Ut J),lF]
 rw[Lp.aM (g:=ϰt gpV (ϱ2 Ŧ)) (Ã (S4 Í)) λi hi=>by
  change I4 (ϰ3 Ġ) (Ŧ).2*ϱ2 Ŧ=_
  let:=FY he Ġ hi;let this:I4 (ϰ3 Ġ) (Ŧ).2=ϫm i:=this;rw[this]]
 lia
include h g0
theorem MN(a:é):jE (Ā ts.À λk=>I4 ϴG k+Ě*(û k+1))-eT (Ā ts.À λk=>I4 ϴG k-Ě*û k)=ı 0+ı 1+Ě:=by
 rw[<-N.width p h a g0 (nwM ts s Ds S)];congr 2
 .show K8u λk H=>ϰT (oV ϹQ)
 show K8u λk H=>ϰT (oV ϹQ)
include h0 hl g1
end
def T3(ts:À Nd):∀(m:Nat)(V:Ò),όI->∀k∈V,∃(j:Nat)(x:Nat×Ò),ę (ŏ m V)=Ď/\∀q∈V,q∈x.2↔rel ü Tl q k=true:=by
 ext m
 induction m with
 |zero=>
  ext V h k H;let:V=[]:=Zas Á;subst this;cases H
 |succ m ih=>
  ext V h k H;cases V with
  |nil=>cases H
  |cons w W=>
   let dl:=ύJ;let e:ŏ (m+1) ϸH=(w,Δ λk=>ŋ)::ŏ m (Δ λk=>! ŋ):=rfl;rw[e];cases hr:ŋ=true
   .apply(0,_,rfl,ϸi)
    dsimp only;rw[K89];show(λz=>ϪV z.2<|ϩI hr,λz=>⟨Q,ϪV z hr⟩)
   let K:k∈Δ λk=>! ŋ:=ϳz ⟨H,Ϯ hr⟩;let(j,x,J,X):=ϲ2 (by rw[K9p]at h;lia) k K;show(j+1,x,J,ϸi);cases f:rel ü Tl q w=true
   .constructor
    .intro z
     let:=(ϦG ((ϷX<|K9L J).2 q z).1).2;rw[f]at this;cases this
    .exactλz=>ĭ (ϪV (ϩI z) f) hr
   show X q<|ϳz ⟨Q,by simp[f]⟩
section
variable{ts:À Nd}{c:F}
def EW(p:ç)(a:é){e:Nat}(he:e∈č):∃w C:Nat,rel ü Tl w e=true/\(∀q∈č,rel ü Tl q e=true->Ŝ q=qD (stL ts (w,true,ϴS w) C) (q,ϴR q,ϴS q))/\w∈č:=by
 let G:=ϒ9 a;let(j,x,J,H):=T3 ts _ č ì e he;let hg:ę (Ķ true)=Â (ϳ9 x):=by erw[gpT];rw[Ĝ,N2,J];rfl
 let M:=ϷX<|K9L J;let h:=List.mem_of_head? M.1;let d:=HV (ts:=ts) M.1;let lt:ύa x.1=true:=Ϥx;rw[lt]at d;show(x.1,ϱr (Ķ true) j,(H _ (M.2 _ h).1).mp h,λq Q hr=>?_,(M.2 _ h).1);let:=Dk G hg<|ϲp ⟨q,(H q Q).mpr hr,rfl⟩;rw[d]at this;show this
def Gs(p:ç)(l:é){a b k:Nat}(h:k∈Ŝ a)(H:k∈Ŝ b):ϥo ü Tl/\a∈č:=by
 let G:=ϒ9 l;let(j,g1,t1,A,n,w,f,y):=wR G h;let(J,g2,t2,b1,B,I,g,i):=wR G H;let E:j=J:=by
  rcases Zba j J with q|q|q
  .let:=Ϲp (Ķ true) (ê<|j+1<=J)
   lia
  .show q
  let:=Ϲp (Ķ true) (ê<|J+1<=j);lia
 subst E;rw[A]at b1;cases b1;erw[gpT]at A;rw[Ĝ,N2]at A;let(x,X,rfl):=XL.mp A;let M:=ϷX<|K9L X;let(d,m,rfl):=XV.mp n;let(e,Q,rfl):=XV.mp B;let w:d=a:=w;let I:e=b:=I;subst w;subst I;show(ϪV (M.2 _ m).2<|ϩI (M.2 _ Q).2,(M.2 _ m).1)
def x_(p:ç)(l:é){a b:Nat}(A:a∈č)(B:b∈č)(h:ü a=ü b):Ŝ a=Ŝ b:=by let(w,C,_,n,_):=EW p l A;rw[n a A<|lA a,n b B<|bG.ó<|Ð h.Ï];erw[qD,lkB];rw[h]
def E3{t:Tm}{q:Nat}(C:Nat)(h:q<ϳ4):(Ϸe C)[q]?=Â (C+ϸL t q):=ϰY stL N2 ϴ6
def KP(t:Tm)(C:Nat)(h:Μ t.2.2):Ϩ (Ϸe C)=Ϸe C:=by
 show K9K λi=>?_;cases hi:i<ϳ4
 .rw[Zaw (Ϸ0 mK),mK,E3 C Á,E3 C hi]
  erw[mdS];rw[ϰo,ϰo];show Ϸm Á
 rw[K9c (Ϲ Zax mK),K9c<|Ă mK]
def BS(p:ç)(l:é){a b:Nat}(A:a∈č)(B:b∈č)(h:ü a=Tl (ü b)):Ŝ a=Ϩ (Ŝ b):=by
 let(w,C,W,n,_):=EW p l A;let hr:rel ü Tl b a=true:=ϩI<|bG.ó<|Ø h;rw[n a A<|lA a,n b B hr];let R:=bG.mp<|ϩI W;let r:=bG.mp<|ϪV hr<|ϩI W;erw[qD];change(Ë (ϴR a=true) _ _)=Ϩ (Ë (ϴR b=true) _ _:Ò);erw[lkB];simp only[K9k];cases d:ü a=ü w
 .rw[Os d]
  cases H:ü b=ü w
  .rw[ϱU]
   show(KP _ _<|Z8<|by rw[<-H,<-h,d,H]).symm
  rw[ϲc,Zex]
 rw[P3 d];let g:ü a=Tl (ü w):=R.resolve_left d;let H:ü b=ü w:=ϮB (Uf Tl<|h.Ñ g) fL fL
 rw[ϱU]
end
abbrev nwT(ts:À Nd)(s:Bool)(Ds:Int)(S:Sl):À Int:=pK ts (ϰx Ġ) (ϰ4 Ġ)<|ϰ3 Ġ
def VA(x:å)(a:Nat):∀(s:Ò)(p:Nat),ϵx p=ϺL s.À (ϱ8 (p+q)*x (Ó (s[q]?) 0)):=by
 induction _ with
 |nil=>ext _;show rfl
 |cons k s N3=>
  ext p;let e:ϺL (1+s.À) (ϱ8 (p+q)*x (Ó ((k::s)[q]?) 0))=ϱ8 p*x k+ϺL s.À (ϱ8 (p+1+q)*x (Ó (s[q]?) 0)):=by
   rw[vB];congr 1
   .change 0+ϱ8 (p+0)*x k=_
    rw[K8R,Zfl]
   show ŭ (λq _=>?_);rw[ê (p+1+q=p+(1+q)),Zct 1 q,Zbs]
  rw[eP',N3<|p+1,K9p,Zct s.À 1,e]
section
variable{ts:À Nd}{c:F}{Ds:Int}{S:Sl}{s:Bool}
def Nw.flow(N:Ű)(p:ç)(l:é)(x:å):ϳT (Ë (v=0) 0 (pA ϫe v*ϴ9 (Ÿ v) (ø<|ý v) 0))=0:=by
 let h:=ľ;let G:=ϰ1 l;let m:ϩJ (ø e) Þ:=λe k K=>(sV G K).2;let a:=N.calm p l x;generalize F:ξ ø Þ x=f at a;let g:f 0=0:=by rw[<-F];show DM p.ú
 let fs:∀v,0<v->϶6->f v-f (ý v)=ϴ9 (Ÿ v) (ø<|ý v) 0:=λv b H=>by
  rw[<-F];rw[pY h m b H];lia
 generalize t:ϫe=T;let pz:=parts h f (Ϗu<|ώT (ϰx Ġ) (ϰ4 Ġ)<|ϰ3 Ġ) (B.wc _ _) ĵ ì;let M:ϰ (Ϗu<|ώT (ϰx Ġ) (ϰ4 Ġ)<|ϰ3 Ġ) ĵ=T:=t;rw[M]at pz;let e1:ϳT (ϩY (Ϗu<|ώT (ϰx Ġ) (ϰ4 Ġ)<|ϰ3 Ġ))=ϳT (ώT (ϰx Ġ) (ϰ4 Ġ) (ϰ3 Ġ) v*f v):=Lp.aM _ λv H=>by
  congr 1
  erw[pA,B.fl];rw[N2,K9Z H];rfl
 rw[e1,Ve h,Mt h _ f _ ì]at pz;let A:ϰR ((Ã (S4 Í))) (pA (ϰ3 Ġ) (Ŧ).2*f (Ŧ).1)=sm (Ã (S4 Í)) (ϰt gpV (f (Ŧ).1)):=ŭ ((ϰp (ϣ (FY h _ hi))))
 let n:ϯY sm ((Ã Í)) (λj=>Ņ (ϰx Ġ)*f (hdN<|Ū j)) (λj=>ϫi j*f (hdN<|Ū j)):=Lp.aM _ λj J=>by
  congr 1
  erw[dY,lfV,qv,pA];rw[K97 J]
 let w:ϯY sm ((Ã Í)) (λj=>Ņ (ϰ4 Ġ)*f (ltN<|Ū j)) (λj=>ϧT j*f (ltN<|Ū j)):=Lp.aM _ λj J=>by
  congr 1
  erw[cF,rtV,qv,pA];rw[K97 J,K84]
 let d:sm (Ã (S4 Í)) (ϰt gpV<|f (Ŧ).2-f (Ŧ).1)=Ϲh sm ((Ã (S4 Í))) (ϰt gpV<|f (Ŧ).2) ((ϰt gpV (f (Ŧ).1))):=ϳr (ŭ (λi _=>show ϫm i*(f (Ŧ).2-f (Ŧ).1)=ϫm i*f (Ŧ).2+(-1)*(ϫm i*f (Ŧ).1)by rw[Zbw];lia)) lF fj
 rw[d]at a;rw[A,n,w]at pz;let pz:_=sm (Ã (S4 Í)) (ϰt gpV<|f (Ŧ).2)-_+_:=pz;let z:ϳT (pA T v*(f v-Ë (ϲN ĵ<=v) (f (ý v)) 0))=0:=Ă pz
 show Eq.trans (ŭ<|λv H=>?_) z;let o:=p.ú;cases b:v=0
 .subst b
  rw[Ĝ,P3 Á,g];simp
 rw[P3 b,Os Á,fs v Á H]
def S8(h:ĕ)(a:Č 0)(f:Nat->å):ϳT (Ë (v=0) 0 (f v (ý v)))=sm ts.À λe=>(Ê (Å e) λv=>f v e).sum:=by
 let e1:∀e,(Ê (Å e) λv=>f v e).sum=ϳT (Ë (v≠0/\ý v=e) (f v e) 0):=λe=>by
  erw[F5];rw[Du];show ŭ (λv H=>?_);cases Z:v=0
  .subst Z
   rw[P3 (ϳk<|Sy h a),ϱh (z.1 rfl)]
  let E:=(϶W h (ê<|0<v) H).2.2;cases C:ý v=e
  .rw[Os (by rw[E,C];simp),Os ⟨Z,C⟩]
  rw[P3 (by rw[E];simp;lia),ϱh (C z.2)]
 rw[ŭ (λe _=>e1 e),vF];show ŭ (λv H=>?_);cases Z:v=0
 .rw[Os Z,ϭm (λe _=>ϱh (z.1 Z))]
 let l:=(϶W h (ê<|0<v) H).2.1;rw[P3 Z,Lp.c7 _ (ê<|Č (ý v)) λi _ hi=>ϱh (hi z.2.symm),Os ⟨Z,rfl⟩]
def TR(T:À Int){e q:Nat}(he:ϹD)(H:q+1<Ã (Å e)):gI (dI (ϱ3 T) e) q=(τ (Ê (Å e)<|I4 T)<|q+1).sum-(ł (Ê (Å e)<|I4 T)<|q+1).sum:=by
 let h:dI (ϱ3 T) e=wI (Ê (Å e)<|I4 T):=by erw[dI,cR];rw[N2,K9Z he];rfl
 rw[h];erw[wI];rw[uW<|Ă K0]
def Nw.rows(N:Ű)(p:ç)(a:é)(x:å):sm ts.À (λe=>ϺL ((Ã (ø e))) (x (Ó ((ø e)[q]?) 0)*gI (dI (ϱ3 ϫe) e) q))=0:=by
 let h:=ľ;let fl:=N.flow p a x;rw[S8 h p.ú λv e=>pA ϫe v*ϴ9 (Ÿ v) (ø e) 0]at fl;show Eq.trans (ŭ<|λe he=>?_) fl;let nf:=ϔR a e;generalize ϫe=T;let b1:(Ê (Å e) λv=>pA T v*ϴ9 (Ÿ v) (ø e) 0).sum=ϰR ((Ã (Å e))) (ϺL ((Ã (ø e))) (ř (Ê (Å e)<|I4 T)*(sgn (0+i) q*x (Ó ((ø e)[q]?) 0)))):=by
  rw[xw 0];show ŭ ϱm;let C:á (Å e)=some (Å e)[i]:=ϰD;let ci:=nB h C;rw[C];change pA T _*ϴ9 (Ÿ<|(Å e)[i]) (ø e) 0=_;rw[ci.2.1,VA,fj];let g:ř (Ê (Å e)<|I4 T)=pA T (Å e)[i]:=by erw[pA];rw[N2,C];rfl
  rw[g];congr 1;show ŭ (λq _=>?_);rw[K87,K87]
 rw[b1,vF];show ŭ ϨQ;rw[TR T he Á];let l:=NI q (Ê (Å e)<|I4 T) 0;rw[Zfm,K0]at l;rw[<-l,<-fj];show ŭ ϔZ;rw[Zad,Zai<|sgn (0+i) q,Zad]
end
open Lp (pA sm Sl)
def yF{l:À Int}{q:Nat}(h:q<l.À):gI l.å q=gI l (l.À-1-q):=ű gI (Zaw h)
section
variable{ts:À Nd}{c:F}{Ds:Int}{S:Sl}
def xC(p:ç)(a:é){j n:Nat}(J:j∈č)(N:n=Ã (Å j)-1):
  Ã (Ŝ j)=n/\(ü j=Tl (ü j)->∃C,∀q,q<n->(Ŝ j)[q]?=Â (C+min q ϩW))/\(¬ü j=Tl (ü j)->(Ŝ j).Nodup):=by
 let(w,C,W,U,wf):=EW p a J;let e:=U j J<|lA j;let wl:Ã (Å w)=Ã (Å j):=Ϝr<|FZ (cZ wf) (cZ J) W;let d:∀b,wdS ts (w,true,b)=n:=λb=>by
  change Ã (Å w)-1=n;rw[wl,N]
 show(by rw[e,B9,mK,d],λh=>⟨C,ϸi⟩,λh=>?_)
 .let mt:ϴS w=true:=Z8 (by
   rcases bG.mp W with H|H
   .rw[H];show h
   rw[H,fL];show h.Ï)
  rw[e,mt];let s:qD Ϙy (j,ϴR j,ϴS j)=Ϙy:=by
   erw[qD];split
   .rfl
   show KP _ _ rfl
  rw[s,E3 C<|by rw[d];show Q];erw[mdS];rw[Ĝ,d]
 let m:Ł (ϴS w):=K9q λz=>h (by
  rcases bG.mp W with H|H
  .rw[<-H];show z
  let:=Uf Tl H
  rw[fL]at this;rw[<-this,fL];show z.Ï)
 rw[e,m];let sn:(stL ts (w,true,false) C).Nodup:=by
  erw[stL];rw[Zdz,Zei];show K8C.imp λh q=>h ?_;erw[mdS]at q;rw[ϳE,ϳE]at q;lia
 erw[qD];split
 .show sn
 show(List.nodup_iff_pairwise_ne.mpr<|List.pairwise_reverse.mpr<|(List.nodup_iff_pairwise_ne.mp sn).imp λh=>h.Ï)
def Nw.gcalm(N:Nw ts true Ds S)(p:ç)(L:é){j:Nat}(J:j∈č):B.calm ü Tl (dI<|ϱ3 ϚT) č j:=by
 ext P d;rw[sy,Os<|cZ J]at d;obtain⟨n,t⟩:∃n,n=Ã (Å j)-1:=ζ;rw[<-t]at d;let(nl,ns,na):=xC p L J t;let K:(Ŝ j)[P]?=Â ((Ŝ j)[P]' Á):=ϴ8;generalize (Ŝ j)[P]' Á=k0 at K;let rows:=N.rows p L ϸD;generalize D:dI (ϱ3 ϚT)=R at rows⊢;let v:∀e,ϹD->rel ü Tl e j=true->Ã (R e)=n:=λe he hr=>by rw[<-D,Bv p _ e j hr,sy,Os<|cZ J,t]
 let u:∀m:Int,(∀e,ϹD->(Ë (Õ (Ì 1<Ì ((Ã (Å e))))=true) ((Ë (ü e=ü j) (ϻ1 P) 0)+(Ë (ü e=Tl (ü j)) (gI (Ϩ (R e)) P) 0)) 0)=m*ϺL ((Ã (Ŝ e))) (ϸD (Ó ((Ŝ e)[q]?) 0)*ϻ1 q))->tot ü Tl R č j P=0:=λm h=>by erw[tot,fk];rw[Du,ŭ h,fj,rows,Zaa]
 let off:∀e,¬(rel ü Tl e j=true/\e∈č)->ϺL ((Ã (Ŝ e))) (ϸD (Ó ((Ŝ e)[q]?) 0)*ϻ1 q)=0:=λe hr=>Lp.cJ _ λq Q=>by
  let g:ϖM (Ŝ e):=Nu Q;rw[g];let:¬(Ŝ e)[q]=k0:=λz=>hr<|Gs p L (k:=k0) (Ϙ z<|Zah Q)<|K9L K;change ϸD ((Ŝ e)[q])*_=0;erw[ind];rw[P3 this,Zam]
 let core:∀m:Int,(∀e,e∈č->rel ü Tl e j=true->(Ë (ü e=ü j) (ϻ1 P) 0)+(Ë (ü e=Tl (ü j)) (gI (Ϩ (R e)) P) 0)=m*ϺL ((Ã (Ŝ e))) (ϸD (Ó ((Ŝ e)[q]?) 0)*ϻ1 q))->tot ü Tl R č j P=0:=λm h=>u m λe he=>by
  cases f:Õ (Ì 1<Ì ((Ã (Å e))))=true
  .rw[Os f]
   cases hr:rel ü Tl e j=true
   .show h e (ϳz ⟨϶u he,f⟩) hr
   rw[off e λz=>hr z.1,ϱh (hr<|bG.ó<|Ð z),ϱh (hr<|bG.ó<|Ø z),Zaa];rfl
  rw[P3 f,off e λz=>f (ϦG z.2).2,Zaa]
 cases s:ü j=Tl (ü j)
 .let(C,w):=ns s
  let E:k0=C+min P Ϻv:=ϩD (K.Ñ<|w P d) (K9R this)
  let U:∀e,e∈č->rel ü Tl e j=true->ü e=ü j/\ü e=Tl (ü j)/\Ŝ e=Ŝ j:=λe he hr=>by
   let H:ü e=ü j:=by
    rcases bG.mp hr with h|h
    .show h
    rw[h];show s.Ï
   show(H,H.Å s,x_ p L he J H)
  let I:∀q,q<n->ϸD (Ó ((Ŝ j)[q]?) 0)=Ë (q=P\/q=Ϻv) 1 0:=λq Q=>by
   rw[w q Q,E];change ind _ (C+min q ϩW)=_;erw[ind];cases h:q=P\/q=Ϻv
   .rw[ϰo,Os Á]
   rw[ϱA,P3 Á]
  cases M:P=Ϻv
  .apply ϑH 2
   let(H,o,r):=U e he hr;let l:=ϒg;rw[ϱU,Os o,yF Á,l,<-M,r,nl,Ϸg P n d (λq Q ne=>by rw[I q Q,P3 Á,Zam]),I P d,Os<|Ð rfl];lia
  show ϑH 1;let(H,o,r):=U e he hr;let l:=ϒg;let two:∀q,q<n->ϸD (Ó ((Ŝ j)[q]?) 0)*ϻ1 q=(Ë (q=P) (ϻ1 q) 0)+Ë (q=Ϻv) (ϻ1 q) 0:=λq Q=>by
   rw[I q Q];cases a:q=P
   .rw[Os<|Ð a,Os a,P3 Á]
    lia
   cases b:q=Ϻv
   .rw[Os<|Ø b,P3 a,Os b]
    lia
   rw[ϱh (z.Ä a b),P3 a,P3 b];lia
  rw[ϱU,Os o,yF Á,l,r,nl,ŭ two,lF,Ϸg P n d (λq _ ne=>P3 ne),Ϸg Ϻv n Á (λq _ ne=>P3 ne),Ĝ,Ĝ,Zaq]
 let nd:=na s;let inj:∀q,q<n->(Ŝ j)[q]?=Â k0->q=P:=λq Q h=>(Zej (i:=q) Á nd).mp<|h.Å K.Ï;show ϑH 1;let l:=ϒg;rcases bG.mp hr with H|H
 .rw[ϱU,ϱh (s ϑD),x_ p L he J H,nl,Lp.c7 (l:=P) n d λq Q ne=>by
   let g:(Ŝ j)[q]?=Â ((Ŝ j)[q]' Á):=ϴ8
   rw[g,Zaz];erw[ind];rw[P3 λz=>ne<|inj q Q<|g.Å<|Ϸm z,Zam],K]
  change _=1*(ϸD k0*_);erw[ind];rw[Ĝ];lia
 let x:∀q,q<n->(Ŝ j).reverse[q]?=(Ŝ j)[ϩW]?:=λq Q=>Ĥ (Zaw Á) nl
 rw[ϱh (s<|z.Ñ H),ϱU,yF Á,l,BS p L he J H,Zax,nl,Lp.c7 (l:=Ϻv) n Á λq Q ne=>by
  let g:(Ŝ j)[ϩW]?=Â ((Ŝ j)[ϩW]' Á):=ϴ8
  rw[x q Q,g,Zaz];erw[ind];rw[ϱh (ne (Ĳ<|inj ϩW Á<|g.Å<|Ϸm z)),Zam],x _ Á,ê (n-1-Ϻv=P),K]
 change _=1*(ϸD k0*_);erw[ind];rw[Ĝ];lia
end
def stM(M:À Int)(ts:À Nd)(q:Nat):À Int:=Ā (Ã (Å q)-1) λi=>gv M (Ó (ϺJ<|Å q) 0)-gv M (Ó (á<|Å q) 0)
section
variable{ts:À Nd}{c:F}{Ds:Int}{S:Sl}
def Cr(p:ç)(a:é){e:Nat}(he:e∈č):ϦI ϮT e=Ê (Ŝ e) λk=>2*ϯk k:=by
 let h:=ľ;let G:=ϒ9 a;let n:ϩJ (Ŝ e) (nU ts true):=λe k H=>(sV G H).2;let nl:=(xC p a he rfl).1;show K9K λi=>?_;erw[stM];rw[N2,N2];cases hi:i<Ã (Å e)-1
 .let g1:á (Å e)=Â ((Å e)[i]' Á):=ϴ8
  let g2:ϺJ (Å e)=Â ((Å e)[i+1]' Á):=ϴ8;let g3:á (Ŝ e)=Â ((Ŝ e)[i]' Á):=ϴ8;rw[ϴj,g3];change Â (Ϲh gv _ (Ó (ϺJ<|Å e) 0)<|Ó (á<|Å e) 0)=Â _;rw[g1,g2];let M:=fu<|K9L g1;let Q:=fu<|K9L g2;let A:gv ϮT _=_:=ϙd M;let b:gv ϮT _=_:=ϙd Q;rw[Zaz,Zaz,A,b];erw[wP];rw[kW h n g1,kW h n g2,vI _ (Ŝ e) i 0 i _ Á g3];show Ϸm ?_;change _=2*ϯk _;lia
 rw[K9c (Ă Z7),K9c Á];rfl
end
def Br:Ϛt (Ï [])=þ (ã false):=D1 (a:=[]) (n:=1) (yB λx h=>nomatch h) Ý
def Rl(ts:À Nd)(Ds K:Int)(M:À Int):Prop:=(∀q∈S4 Í,K*ϱ2 q<=ź q.2-ź q.1)/\∀e a b,Ϧ4 (Å e) (2*ź e) (ź a+ź b)
def Lk(ts:À Nd)(M:À Int):Prop:=(∀a∈č,∀b∈č,ü a=ü b->ϵt a=ϵt b)/\∀a∈č,∀b∈č,ü a=Tl (ü b)->ϵt a=Ϩ (ϵt b)
theorem qM(ts:À Nd)(pl:À Int)(Ds u:Int)(he:ĕ)(l:ϵe)(q:é)(s:İ pl.À)(g0:0<=Ds)(g1:ϲx Ds)(U:cQ u=true)(R:ϸp u pl):
  kZ [Ï è,Ï ϻz,Ä Ds,Ä u]=ģ []:=by
 let I:ϲx (Ã (S4 Í)):=by
  let:=oO Í;let ok:=ϵ5 ì;let:İ (Ê Í List.length).sum:=ok.Ğ;lia
 let g:fY [Ï è,Ï ϻz,Ä Ds,Ä u]=ģ []:=by
  erw[fY,lV];simp![zM ts Ds he l q,aI];generalize D:Į=rc
  let e:=iS D ό5 όl (λ_=>.sh ò) (S4 Í) rfl (K94<|aF Á) (by
   ext p P;let h:=ϸw P;let g1:=Ϸa pl p.1 Á;let g2:=Ϸa pl p.2 Á;let b1:=wV l p.1;let G:=wV l p.2;let x:=R.1 p P;erw[bI]at x;let M:=fP (i:=u) (j:=û p.1+û p.2+Ds+1) U (pB Á Á);let d:Ł (Õ (Ϲh I4 pl p.2 p.1<u*(û p.1+û p.2+Ds+1))):=K9q Á;erw[Dx,bI];show(?_,ϳU)
   simp![g1,g2,M,d])
  subst e;let z:Α (S4 Í) όl=[]:=List.filter_eq_nil_iff.mpr λ_ _ z=>nomatch z;rw[z];simp![S5]
 let m:dc [Ï è,Ï ϻz]=ģ []:=by
  erw[dc,iI];let S:Κ ((Ì ts.À)):=Ŕ Á;simp![aH,S];generalize F:Ŗ=r';show aX F (λi t=>∃C v:Ü OD,t=[â è,â ϻz,Â ϭq,C,v]) (ϲi _) ?_ ?_
  .rintro i d t hd ⟨C,v,rfl⟩
   let(hi,rfl):=϶M;rw[K9n]at hi;rw[K8R];let c:=eA ts i hi q;let g0:=ϫU (k:=i) Á;let H:=R.2 i;let cl:∀k∈Å i,Ć:=λk K=>fu K;generalize Å i=L at c H cl;cases L with
   |nil=>
    let f:Ł (Õ (Ì 0<Ì ((Ã (nD []))))):=K9q Ý;simp![c,iP,f];show(_,_,rfl)
   |cons a r=>
    let f:Õ (Ì 0<Ì ((Ã (nD ϱy))))=true:=Z8 (Ϲ eF K9p);obtain⟨b,B⟩:∃b,Ϥa ϱy=ϧ:=Ϭz Û
    let y:=H a b rfl B;let A:atI (nD ϱy) 0=Â (Ä ϑ):=ϭh;let w:Ϲ2 (nD ϱy)=Â (Ä ϩx):=by
     let:=(bX (r:=ϱy) Û).2.1;let e:ltN ϱy=b:=ϙr
     rw[e]at this;let N:ϹP nD ϱy aO:=ϏN
     rw[N];show this
    let g1:=ϫU (k:=a) (by rw[s];show cl a K9z);let g2:=ϫU (k:=b) (by rw[s];show cl b<|Zcb B);simp![c,iP,f,A,w,g0,g1,g2,Z8 y];show(_,_,rfl)
  ext ρ' rfl ⟨C,v,rfl⟩;simp![S5]
 erw[kZ,sC];let o:ϳt (Ã ([]:À Gc)+Ã ([]:À Gc)):=ϸF ϰS;let E:Ê ([]:À OD) OD.er=[]:=rfl;simp![g,m,E,o]
def sI(s:À Int)(L:Ò):À Int:=Ê (prs L) λp=>ϺH p.2-ϺH p.1
def ZP(L:Ò):gq (nD L) (τ (nD L) 1)=Ê (prs L) prD:=by
 let e:nD L=aO L:=ϏN
 rw[e];show Ht L
def Vx(p:À Int)(ts:À Nd)(q:Nat):sI p (Å q)=stM p ts q:=by
 erw[sI,stM,prs];generalize Å q=L;apply K9K;ext i;rw[N2,N2];cases hi:i<L.À-1
 .let h:L[i]?=Â (L[i]' Á):=ϴ8
  let H:L[i+1]?=Â (L[i+1]' Á):=ϴ8;let f:(L.Ċ<|L.ä 1)[i]?=Â (L[i]' Á,L[i+1]' Á):=by rw[Zan];show(h,?_);rw[K84,Zct];show H
  rw[f,ϴj,Zbe,Zbe,h,H];rfl
 rw[K9c (Ϲ Zao K8y),K9c<|Ă Z7];rfl
def CU(ts:À Nd)(s:À Int)(H:İ s.À)(l:é)(a:Nat)(A:ϳh)(C:1<=Ã (Å a)):iq [Ï è,Ï Ϩs,Ä ϑ]=ģ (aG<|Ϸf a):=by
 rw[<-Vx];erw[iq,qA];let c:=eA ts a A l;let u:ϲd (nD<|Å a) (Â 1) none=τ (nD<|Å a) 1:=i8 _ 1 (όo eF);simp![c,iP,u,aI,ZP];generalize w:Į=rc
 let cl:=uU ts a;let nl:=BW<|Å a;let e:=aS w prD (λp=>Ñ<|ϺH p.2-ϺH p.1) (prs<|Å a) rfl (K94<|aF Á) (by
  ext p h;let pm:=BP h;let b1:=d9 (pl:=s) (k:=p.1) (ϫW<|fu pm.1);let B:=d9 (pl:=s) (k:=p.2) (ϫW<|fu pm.2)
  erw[prD];simp![b1,B])
 subst e;simp![S5];erw[sI,aG];rw[S1,S1];rfl
def Wt(h:ϤH=þ (Ï ds))(H:Ϫm=.ok (Ñ<|-1)):ύq ρ=ģ ϐm:=ϙb
def G_{ts:À Nd}{k:Nat}(h:k∈č):1<Ã (Å k):=Ĳ (ϷR (ώs).2)
def FQ{ts:À Nd}{c:F}(p:ç)(h:Ź)(s:À Int)(P:İ s.À)(H:é){a b:Nat}(A:a∈č)(j:b∈č)(k:ü a=ü b->Ϸf a=Ϸf b)(i:ü a=Tl (ü b)->Ϸf a=Ϩ (Ϸf b)):
  eW [Ï è,Ï Ϩs,Ä ϑ,Ä ϩx]=ģ []:=by
 erw[eW,kJ];let L:=cZ A;let B:=cZ j;let U:=R9 p h H L B;let S:=CU ts s P H a L (Ĳ<|G_ A);let w:=CU ts s P H b B (Ĳ<|G_ j);let e1:=LV (Ϸf a)<|Ϸf b;let g:=LV (Ϸf a) (Ϩ (Ϸf b));rw[Zdc]at g;let m:Õ (ϰb a=ϵZ (ϰb b))=Õ (ü a=Tl (ü b)):=Ζ (dQ L) (dQ B) (decide_eq_decide.ó ⟨λz=>Ϸm z,λz=>K9R z⟩)
 rw[Km L B,m]at U;let R:∀f:L3.Env,f[6]?=ϩd (Đ<|Ï<|Ê (Ϸf b) int)->Ϥ1 (ġ<|Ç 1) f=ģ (ύl (Ê (Ϸf b) int) OD.sh):=λf e=>Wt (by erw[aa];rw[e]) rfl;simp![U,S,w,aW];cases q:ü a=ü b
 .let D:=Z8<|k q
  cases l:ü a=Tl (ü b)
  .let d:=Z8<|i l
   simp![Z8 q,Z8 l,e1,D,R,g,d,aI]
  simp![Z8 q,K9q l,e1,D]
 cases l:ü a=Tl (ü b)
 .let d:=Z8<|i l
  simp![K9q q,Z8 l,R,g,d,aI]
 simp![K9q q,K9q l]
def wY{ts:À Nd}{c:F}(p:ç)(h:Ź)(s:À Int)(P:İ s.À)(m:é)(L:Lk ts s):
  jT [Ï è,Ï Ϩs]=ģ []:=by
 erw[jT,vO];let k:=zE ts Á;let fl:=wz ts;let nl:ϳt (Ã ([]:À OD)+Ã ([]:À OD)):=ϸF ϰS;let E:Ê ([]:À OD) OD.er=[]:=rfl;let n:∀f:L3.Env,aJ ϰa aT (d_<|È 1<|È 2<|È 0 ai) f [] []=Ħ []:=λf=>rfl;let T:LD [Ï []]=ģ []:=rfl;simp![k,xU];generalize l:Ŗ=r;show aX l (λi f=>∃v V v6:Ü OD,f=[â è,â Ϩs,â<|nD č,Â ϭq,v,V,v6]) ϑS ?_ ?_
 .rintro i d f hd ⟨v,V,v6,rfl⟩
  let(e,he,rfl):=kY hd;obtain⟨a,A,rfl⟩:∃a,á č=Ϸu/\e=Ä ϑ:=ϕl he
  let hi:=(ώE).1;let am:=K9L A;let u:=i8 (nD č) i (Ă eF);let D:τ (nD č) i=nD (τ č i):=ϙW Zbt
  rw[D]at u;simp![u,aI];generalize w:Ŗ=r2;show aX w (λj f=>∃v6:Ü OD,f=[â è,â Ϩs,â<|nD č,Â ϭq,some<|Ñ ÿ,some<|Ñ ϑ,v6]) ζ ?_ ?_
  .rintro j d f hd2 ⟨v6,rfl⟩
   obtain⟨b,B,rfl⟩:∃b,ę (τ č i)=ϧ/\d=Ä ϩx:=ϕl hd2
   let bm:b∈č:=Zca<|K9L B;let o:=FQ p h s P Á am bm (L.1 a am b bm)<|L.2 a am b bm;simp![o,E,n,nl];show(_,rfl)
  ext ρ' rfl ⟨v6,rfl⟩;simp![S5];show(_,_,_,rfl)
 ext ρ' rfl ⟨v,V,v6,rfl⟩;simp![E,T]
section
variable{ts:À Nd}{c:F}{Ds:Int}{S:Sl}
def Nw.own0(N:Nw ts false Ds S)(p:ç)(a:é){e q:Nat}(he:ϹD)(h:q+1<Ã (Å e)):gI (dI (ϱ3 Ϛo) e) q=0:=by
 let(nd,nl,own):=Ng p a (Á:2<=Ã (Å e)) he;let Q:q<Ã (Ϲw e):=Á
 let k:ϖM (Ϲw e):=Nu Q;generalize (Ϲw e)[q]=k0 at k;let r:=N.rows p a ϸD;rw[Lp.c7 (l:=e) _ he λi _ hi=>ϭm ϳp,Ϸg q _ Q (λj J hi=>?_),k]at r
 .unfold ind at r
  rw[Zaz,Ĝ,Zaq]at r;show r
 .rw[϶Q,Zaz]
  erw[ind];rw[P3,Zam];ext z;rw[Nu Q]at k;let k:=K9R k;show hi<|(Zel nd).mp<|z.Å k.Ï
 rw[϶Q,Zaz];erw[ind];rw[P3,Zam];ext z;show hi<|own k0 (K9L k) i ?_;rw[<-z];show Zah J
end
section
variable{ts:À Nd}{c:F}{s:Bool}{Ds:Int}{S:Sl}
def Nw.rls(N:Ű)(p:ç)(h:é):ϸp Ě ϴG:=by
 let he:=ľ;show(ϨQ,λe a b A B=>?_)
 .let b:=ϵG H
  rw[oV b.2.1,oV Á];let:=N.far p h H;lia
 let M:=V7 (s:=s) (Ds:=Ds) (S:=S) p h A B;let i:=ϺF A;rw[Zbo]at B;let I:=ϺF B;let T:=(϶W he i.2.2.1 Ϧe).2.1;rw[i.1]at T;rw[oV Ϧe,oV I.2.2.2,oV Á];lia
def M7(p:ç)(h:é):Lk ts ϮT:=
 ⟨ϴJ (by rw[Cr p h A,Cr p h B,x_ p h A B e]),ϴJ (by rw[Cr p h A,Cr p h B,BS p h A B e,Zdc])⟩
def nwD(ts:À Nd)(s:Bool)(Ds:Int)(S:Sl):Gc:=eQ (ϰx Ġ) (ϰ4 Ġ)<|ϰ3 Ġ
variable(N:Ű)(p:ç)(h:Ź)(h0:Č 0)(hl:ϰJ 12)(g0:ϱx)(g1:϶D) include N p h h0 hl g0 g1

theorem Q3:VP ts (ϰx Ġ) (ϰ4 Ġ) (ϰ3 Ġ):=by
 let L:é:=Á
 let he:=ľ;show(FN,Fl,BJ ts Ġ _,Ϭt,Ϭt,Ϭt,ϨQ)
 .let(i,hi,rfl):=Zal h
  let e:I4 (ϰx Ġ) i=(ϰx Ġ)[i]:=Ϗ I4 ϰD
  rw[FN]at hi;rw[<-e,V2 hi];show Ϩg
 .let(i,hi,rfl):=Zal h
  let e:I4 (ϰ4 Ġ) i=(ϰ4 Ġ)[i]:=Ϗ I4 ϰD
  rw[Fl]at hi;rw[<-e,Ut hi];show Ϩg
 .let(i,hi,rfl):=Zal h
  let e:I4 (ϰ3 Ġ) i=(ϰ3 Ġ)[i]:=Ϗ I4 ϰD
  rw[<-e];cases k:∃j,j<Ã (S4 Í)/\(Ϭ3).2=i
  .let(j,J,e):=k
   let v:I4 (ϰ3 Ġ) (Ϭ3).2=ϫm j:=FY he _ J;rw[<-e,v];show Ϩg
  let v:I4 (ϰ3 Ġ) i=0:=vg he _ _ ì i λj J e=>k ⟨j,J,e⟩;rw[v];show ϺB
 let(i,hi):=Zac H;let:=Lg he Ġ (ϻV).1;erw[rwN]at this;rw[hi]at this;show this
theorem Lz:kj [Ï è,nwD ts s Ds S,ã s]=þ (ã true):=by
 let L:é:=Á
 let he:=ľ;let v:=Q3 N p h h0 hl g0 g1;let e:=Nn ts p h Á _ _ _ s (v.are he h0 L) v.ll v.lr v.lg;let b1:=ϩ6 L;let a:(ϰx Ġ).sum=϶:=Fw;let w:=TJ N p L;let t:sdB (ϰx Ġ) (ϰ4 Ġ)=true:=by erw[sdB];rw[a,w,Z8 b1,Ϥx];rfl
 let P:QY ts (ϰx Ġ) (ϰ4 Ġ) (ϰ3 Ġ) s=true:=by
  erw[QY];rw[t,Bool.true_and];cases s with
  |true=>show(HR ts _).mpr λj J=>N.gcalm p L J
  |false=>
   erw[KI];rw[ϳE,K7x];ext x X;let(i,hi):=Zac X;let l:ϫO:=ϱC (ϻV).1 Az
   let ex:dI (ϱ3 Ϛo) i=x:=by erw[dI];rw[hi];rfl
   let z:Ł (zB x):=C8.ó λq H=>by rw[<-ex]at H⊢;rw[sy,Os l]at H;show N.own0 p L l Á
   rw[z];rfl
 rw[P]at e;show e
end
def u_{ts:À Nd}{c:F}{Ds:Int}(s:Bool)(p:ç)(h:Ź)(H:ϰJ 12)(g0:ϱx)(g1:϶D):∃S,Ű/\(ϴ cQ (ı 0+ı 1+Ě)/\ϴ cQ Ě)/\cN [Ï è,Ä Ds,ã s]=þ (Ą [Ä<|ı 0+ı 1+Ě,Ä Ě]):=by
 let a:=p.ú;let L:é:=Á
 let he:=ľ;let l:=vC h;let(S,N,n):=BB (s:=s) (Ds:=Ds) p h a H g0 g1;let u:=N.u0;let X:=aaa N p h a H g0 g1;let x0:=ϚU 0;let x:=ϚU 1;let q:=Zh N p h a H g0 g1;let B:=YX N p h a H g0 g1;let ww:=ZC N p h a H g0 g1;let b1:=ϩ6 L;let v:=Q3 N p h a H g0 g1;let W:W4 Ě:=Qv Á Á;let b:=qM ts ϴG Ds Ě he l L CN Á Á W.bits<|N.rls p L;let P:=Lz N p h a H g0 g1;let o:eh [Ï è,Ï<|Ê ϴG int,Ä Ě]=.ok (Ñ<|ı 0+ı 1+Ě):=Ϙ (MN N p h g0 L) (D4 ts ϴG Ě a l L CN)
 let wt:=K6 ts Ds (ϰx Ġ) (ϰ4 Ġ) (ϰ3 Ġ) he a l L Á Á v.ll v.lr v.lg;rw[M3 N p L]at wt;let w:W4 (ı 0+ı 1+Ě):=Qv Á Á;let m:=ϻ3 (ı 0+ı 1+Ě) ϶ w.bits (Qv Á Á).bits;let Q:=ϻ3 (϶+ϵk) Ě (Qv Á Á).bits W.bits
 let eq:=ύK L;let d:Õ ((ı 0+ı 1+Ě)*϶=(϶+ϵk)*Ě)=true:=Z8 (by
  rw[Zbq,Zbq ϶,Zai ϵk,eq,Zai ϶ Ě,Zai ϶<|_+_]
  lia)
 let D:Ł (Õ (Ě<1)):=K9q Á;let f:(ϰx Ġ).sum=϶:=Fw;let un:s=true->jT [Ï è,Ï<|Ê ϴG int]=ģ []:=λe=>by subst e;show wY p h _ CN L<|M7 p L
 let E:Ê ([]:À OD) OD.er=[]:=rfl;show(S,N,(w.bits,W.bits),?_);erw[nwO]at n;let g:Ϗj Ě=ϴG:=rfl;rw[g]at n;erw[nwD]at P;erw[eQ,iD]at P wt;clear B ww q x0 x X eq v b1 w W;generalize y:ϴG=M at*;generalize z:Ě=U at*;generalize k:ϰx Ġ=A at*;generalize r:ϰ4 Ġ=B' at*;generalize t:ϰ3 Ġ=G at*;erw[cN,ni];cases s with|true=>simp![n,aW,AE,D,b,E,Br,un rfl,P,NC,o,wt,lh,f,m,Q,d]|false=>simp![n,aW,AE,D,b,E,Br,P,NC,o,wt,lh,f,m,Q,d]
def Pd{T x:å}{a:Nat}:∀(s:Ò)(p:Nat),a<=p->(∀q k,s[q]?=Ş->ϙs)->ϵx p=T p-T όe:=by
 ext s
 induction s with
 |nil=>ext p _ _;show(Int.sub_self _).symm
 |cons k s ih=>
  ext p h H;let i:=ih (p+1) Á λq k K=>by
   let:=H (q+1) k K;rw[ê (Ϫ2 q)];show this
  let b:x k=T (p+1)-T p:=H 0 k rfl;change ϱ8 p*x k+ϵx (p+1)=T p-T (p+ϒr);erw[sgn];rw[i,b,P3 Á,ê (Ϫ2 s.À)];lia
def ZH{T x:å}{a:Nat}:∀(s:Ò)(p j:Nat),a=p+j->j<=s.À->(∀q k,s[q]?=Ş->ϙs)->ϵx p=2*T a-T p-T όe:=by
 ext s
 induction s with
 |nil=>
  ext p j h J _;let:j=0:=by simp at J;show J
  subst this;let h:a=p:=h;change 0=2*T a-T p-T p;rw[h];lia
 |cons k s ih=>
  ext p j h J H;cases j with
  |zero=>
   rw[Pd _ p Á H,h];change _=2*T p-_-_;lia
  |succ j=>
   rw[K9p]at J;let i:=ih (p+1) j Á Á λq k K=>by
    let:=H (q+1) k K;rw[ê (Ϫ2 q)];show this
   let b:x k=T (p+1)-T p:=H 0 k rfl;change ϱ8 p*x k+ϵx (p+1)=2*T a-T p-T (p+ϒr);erw[sgn];rw[i,b,Os Á,ê (Ϫ2 s.À)];lia
section
variable{ts:À Nd}{c:F}{s:Bool}{Ds K:Int}{S:Sl}{M:À Int}
def xt(M:À Int)(ts:À Nd)(e:Nat):Ã (ϵt e)=Ã (Å e)-1:=χ stM K0 Z7
def S_(p:ç)(a:é){e k:Nat}(h:k∈ø e):ϹD/\2<=Ã (Å e)/\Ã (ø e)=Ã (Å e)-1:=by
 let n:=Ak (ϰ1 a)<|Zfk h;let l:=List.length_pos_of_mem h;show(?_,Á,n);let m:=Zah (l:=Å e) (n:=0) Á;let g:=cL ľ m;let:=fu m;lia
def aac(p:ç)(a:é)(s:Bool){e:Nat}(he:ϹD):Ã (ø e)=Ã (Å e)-1:=by
 let G:=ϰ1 a;cases h:ø e=[]
 .by_cases H:2<=Ã (Å e)
  .show Bq G H<|EY ts s<|ϳz ⟨϶u he,Z8 Á⟩
  rw[h,K8U];lia
 show Ak G h
def UJ{L:Ò}(h:v∈L):L[L.idxOf v]?=ĥ:=by let l:=List.idxOf_lt_length_iff.mpr h;rw[Nu l,Zcf]
def DX(p:ç)(a:é){j:Nat}(J:j∈č)(L:ü j=Tl (ü j)->ϵt j=Ϩ (ϵt j)){q Q k:Nat}(h:(Ŝ j)[q]?=Ş)(h':(Ŝ j)[Q]?=Ş):ϯY gI (ϵt j) q Q:=by
 let(nl,ns,na):=xC p a J rfl;let b:=ϲI;let f:=(ϱa h');let s:=xt M ts j;cases t:ü j=Tl (ü j)
 .let(d,C):=ns t
  rw[C q Á]at h;rw[C Q Á]at h';let e:=ĉ ϸP (K9R h').symm;let:q=Q\/Q=Ã (Å j)-1-1-q:=Á
  rcases this with e|e
  .rw[e]
  .conv=>lhs;rw[L t]
   rw[yF Á,s,e]
 rw[(Zej b<|na t).mp<|h.Å h'.Ï]
def same(p:ç)(a:é)(L:ϯt){e q e' Q k:Nat}(h:(ø e)[q]?=Ş)(h':(ø e')[Q]?=Ş):gI (ϵt e) q=gI (ϵt e') Q:=by
 cases s with
 |false=>have m:=S_ p a ϶w;let(nd,nl,own):=Ng p a m.2.1 m.1;let e1:=own k ϶w e'<|K9L h';subst e1;rw[(Zej ϲI nd).mp<|h.Å h'.Ï]
 |true=>
  let(l,L2):=L rfl;let(r,F):=Gs p a ϶w<|K9L h';let(_,E):=Gs p a (K9L h') ϶w;let lf:=L2 e' E e' E;rcases bG.mp r with f|f
  .rw[x_ p a F E f]at h
   rw[l e F e' E f];show DX p a E lf h h'
  rw[BS p a F E f]at h;let b:=ϲI;rw[Zax]at b;rw[Zaw b]at h;let nl:=(xC p a E rfl).1;let S:=xt M ts e';rw[L2 e F e' E f,yF Á,S,<-nl];show DX p a E lf h h'
def xM(ts:À Nd)(s:Bool)(M:À Int)(k:Nat):Int:=open Classical in ϩl (∃w:Ϻ,(ø w.1)[w.2]?=Ş) (gI (ϵt (ϬI).1) (ϬI).2) 0
def Xs(p:ç)(a:é)(L:ϯt){e q k:Nat}(h:(ø e)[q]?=Ş):ϔS k=gI (ϵt e) q:=by let w:∃w:Ϻ,(ø w.1)[w.2]?=Ş:=⟨(e,q),h⟩;erw[xM];rw[dif_pos w];show same p a L (Zab w) h
def Zl(p:ç)(a:é)(L:ϯt)(R:ϸp K M):∀v,϶6->ξ ø Þ ϔS v=2*(ź v-ź 0):=by
 let he:=ľ;ext v
 induction v using Nat.strongRecOn with
 |ind v ih=>
  ext H;cases v0:v=0
  .subst v0
   rw[DM p.ú];lia
  let N:ϩJ (ø e) Þ:=λe k h=>(sV (ϰ1 a) h).2;let t:=ϬR ø Þ (Á:0<v) H;let C:(Å<|ý v)[Ÿ v]?=ĥ:=UJ<|ϸN ⟨H,t.2.2⟩;let al:=(ZB.mp C).1;let nl:=aac p a s (e:=ý v) Á;let g0:(Å<|ý v)[0]?=Â ((Å<|ý v)[0]' Á):=ϴ8;obtain⟨b,B⟩:∃b,Ϥa (Å<|ý v)=ϧ:=Ϭz (Zfk<|K9L C);let mid:=R.2 _ _ _ g0 B;rw[Zbo]at B;rw[pY he N Á H,ϲ2 t.2.1 Á,ZH (T:=λq=>ź<|Ó ((Å<|ý v)[q]?) 0) (ø<|ý v) 0 (Ÿ v) (K87 _).symm Á λq k h=>?_]
  .change _+(2*ź (Ó ((Å<|ý v)[Ÿ v]?) 0)-ź (Ó ((Å<|ý v)[0]?) 0)-ź (Ó ((Å<|ý v)[0+Ã (ø<|ý v)]?) 0))=_
   rw[K87,nl,C,g0,B,Zaz,Zaz,Zaz];lia
  let Q:=ϲI;rw[Xs p a L h];erw[stM];rw[uW Á,K87];rfl
def Nw.le(N:Ű)(p:ç)(h:é)(g:0<=K)(R:ϸp K M)(L:ϯt){lo hi:Int}(e:∀k,Ć->lo<=ź k-K*û k)(f:∀k,Ć->ź k+K*(û k+1)<=hi):
  (ı 0+ı 1+Ě)*K<=϶E*Ě:=by
 let he:=ľ;let pm:=Zl p h L R;let a:=N.ě p h (K:=2*K) (x:=ϔS) (X0:=2*(ź 0-lo)) (X1:=2*(hi-K-ź 0)) (λi hi=>by
  let r:=(ώx).1;let:=e _ r;rw[pm _ r,Zae]
  lia) (λi hi=>by
  let r:=(ώx).2;let:=f _ r;rw[Zav,Zbl]at this;rw[pm _ r,Zae]
  lia) (λq H=>by
  let b:=ϵG H;let:=R.1 q H;rw[pm _ b.2.1,pm _<|Zce b.1 b.2.1,Zae]
  lia)
 let w:=ύK h;let b1:=ϩ6 h;let u:=N.u0;generalize ı 0+ı 1=X at*;generalize ϵk=W at*;generalize ϶=B0 at*;generalize Ě=U at*;let n:K*W<=B0*(hi-K-lo):=by
  rw[Zae,ê (2*(ź 0-lo)+2*(hi-K-ź 0)=2*(hi-K-lo)),Zad B0]at a;lia
 let A:=Zat n<|Zar u;rw[Zad,w,Zad,Zad U]at A;let d:=Zci A (ê<|0<B0);rw[Zbq,Zai X,Zai ϶E];rw[ê (hi-K-lo=϶E-K),Zbw]at d;lia
end
def Up:W4 256:=Ϛu W4
def OL(ts:À Nd)(Ds:Int)(he:ĕ)(a:Č 0)(h:é)(l:ϵe):
  i_ [Ï è,Ä Ds]=ģ (aG ϰ0):=by
 erw[i_,o9];let c:=JO ts Ds he a h l;let p:=Ϝb ì;let rs:(ß ay ts λz=>Đ<|Ä z).map OD.er=ß ay ts int:=Ô S1 (K8u λz _=>ϰn)
 let g:İ (Ã ϸS):=ű ay K0
 let S:Κ 1:=Ŕ Ý;let w:Κ ((Ì ts.À)):=Ŕ Á;simp![c,aH,S,w,K7m];generalize L:Ŗ=r';show ϳ2 (λi b=>∃v:Ü OD,b=[â è,some<|Ñ Ds,â<|Ê (ö ts.À).2 int,Ň<|aG<|ϤC (ö ts.À).2 i,v]) ζ
 .rintro i d b hd ⟨v,rfl⟩
  let(hi,rfl):=϶M;let H:Č (i+1):=Á
  let s:Ì 1+ÿ=ä (i+1):=Á
  rw[s];obtain⟨n,N⟩:ϰ5 (ϺJ ts):=⟨ts[i+1],ϫ6⟩
  let E:=he (i+1) n N;obtain⟨k,K⟩:∃k:Nat,n.e=ë:=⟨n.ģ,Ĳ (E.2.1 Á)⟩
  let I:k<i+1:=Ĳ E.2.2
  let g3:=fZ N;rw[K]at g3;let g1:=Bw (st:=ϤC (ö ts.À).2 i) (j:=k) (Ă nS);let g2:=Bw (st:=(ö ts.À).2) (j:=i+1) (Ă p.l2);let B:ϱK (Ã (aG<|ϤC (ö ts.À).2 i)):=Ζ d7 nS (c8 Á)
  simp![aW,g1,g2,g3,B,A3];let e:ϤC (ö ts.À).2 (i+1)=ϤC (ö ts.À).2 i++[gv (ϤC (ö ts.À).2 i) k+gv (ö ts.À).2 (i+1)]:=by rw[qG',bL N,K,K9n]
  rw[e];show(_,rfl)
 ext ρ' rfl ⟨v,rfl⟩;rw[gF,ê (ĩ (Ì ts.À-1)=ĵ)];let P:ϤC (ö ts.À).2 ĵ=ϨS:=rfl;rw[P];let t:bj [Ï è,Ï<|Ê ϨS int,Ä 256]=ģ (aG ϰ0):=LC ts ϨS 256 a h l (zj a)<|Up;simp![aW,t]
def Qk{Ds:Int}{O:À Ol}{s L T:À Int}(h:ύD s L T){p q:Nat}(d:p<q)(H:q<O.À):gv T p+ϳw p q<=gv T q:=by
 let e:=(h.isE.2 q Á H).1 p d;let l:=(h.isL.2 p Á).1 q d H;rw[h.eq p Á,h.eq q H];lia
def Pk{Ds:Int}{a b:Ol}{l:Nat}{p q:ϰi}(h:a[l]?=ϲn)(H:b[l]?=Â q):p.2+ϥx-q.1<=ϲS a b:=by rw[vx];let hg:=PN (Ds:=Ds) h H;let M:=Ϧx;show(c_ λz=>by rw[z]at M;cases M).2 _ M
def sub_lt{ts:À Nd}{c:F}(p:ç){j a b x y l m:Nat}(h:a∈Å j)(H:b∈Å j)(A:a<b)(X:϶N a l x)(Y:϶N b m y):x<y:=by
 let he:=ľ;let(d,n):=bh.mp h;let(b1,B):=bh.mp H;let J:=(ϋ h).1;let(s,q,Q,k,C):=xJ p d;let e:=F8 he C (N4 a) Á X;let f:=(ϷF b1 Y).2.1;let:¬b<=a+s:=λz=>by
  let:=k b A z;rw[B]at this;lia
 lia
def T_{ts:À Nd}{c:F}(p:ç)(Ds:Int)(l:é):∀(L j x y:Nat),ϰf->ϲm L x->ϲm L y->x<y->ϰv x+256*(Ļ x+Ļ y+Ds+1)<=ϰv y:=by
 ext m
 induction m with
 |zero=>
  ext j x y _ h Y X;let h:x=j:=h;let Y:y=j:=Y;lia
 |succ L N3=>
  ext j x y hj ⟨a,ha,h⟩ ⟨b,hb,Y⟩ X;let he:=ľ;let H:=ϸa;cases A:a=b
  .subst A
   show N3 a x y (Ϫd ha) h Y X
  let lt:a<b:=by
   rcases Zfo a b with z|z
   .show z
   let:=ϑ3 Á h;lia
  let(u,U,E):=Zal ha;let(v,V,ev):=Zal hb;let G:(Å j)[u]?=Ϸu:=by rw[Nu U,E]
  let w:(Å j)[v]?=ϧ:=Ĥ (Nu V) ev
  let i:u<v:=by
   rcases Zba u v with z|z|z
   .show z
   .subst z
    rw[E]at ev;show ĭ ev A
   let:=Ϗx RS v u V U z;rw[E,ev]at this;lia
  let C:Å j≠[]:=ϘG ha
  let R:=ϥR H l C;obtain⟨⟨s,q,S⟩,_⟩:=ϻj R;let ol:Ã (Ê (Å j) í)=Ã (Å j):=K0 _;let k:=Qk S i Á;let d:=(Ϫd ha);let b1:=(Ϫd hb);let o:=ϬW H l ϧY a Á d;let O:=ϬW H l ϫn b Á b1;let e:L<Ã (í a):=(o.í L).mpr ⟨x,h⟩;let f:L<Ã (í b):=(O.í L).mpr ⟨y,Y⟩;let ga:ϖS (í a):=Nu e;let g:ϖS (í b):=Nu f;let t:=(o.hi L _ ga).2 x h;let B:=(O.lo L _ g).2 y Y;let D:dO Ds (Ê (Å j) í) u v=ϲS (í a) (í b):=ϗy
  let n:=Pk (Ds:=Ds) ga g;rw[D]at k;let P:=ϸn H l hj G;let r:=ϸn H l hj w;lia
def mC{ts:À Nd}(he:ĕ)(a:Č 0){k:Nat}(K:Ć):϶N 0 (ϒ k) k:=by
 let(l,d):=FK he (j:=0) (s:=ĵ) Á (λq H b=>by
  obtain⟨n,h⟩:ϰ5 (ts[q]?):=⟨ts[q]' Á,Û⟩
  rw[ϴx];show(he q n h).2.1 H) k Á Á
 let:=(ϷF a d).1;rw[rj he a,K87]at this;rw[this];show d
def AB{ts:À Nd}{c:F}(p:ç)(Ds:Int)(h:é){x y:Nat}(X:x<ts.À)(Y:y<ts.À)(H:x<y)(e:ϒ x=ϒ y):ϰv x+256*(Ļ x+Ļ y+Ds+1)<=ϰv y:=by let he:=ľ;let a:=ϸa;let dx:=mC he a X;let dy:=mC he a Y;rw[<-e]at dy;show T_ p Ds h _ 0 x y a dx dy H
def IA{ts:À Nd}{c:F}(p:ç)(Ds:Int)(l:é)(d:Ϥg){k a b:Nat}(H:Ć)(A:(Å k)[0]?=Ϸu)(B:(Å k)[Ã (Å k)-1]?=ϧ):2*ϰv k=ϰv a+ϰv b:=by
 let he:=ľ;let h:=ϸa;let C:Å k≠[]:=Ϙc
 let R:=ϥR h l C;obtain⟨⟨e,s,S⟩,_⟩:=ϻj R;let ol:Ã (Ê (Å k) í)=Ã (Å k):=K0 _;let N:0<Ã (Å k):=ϏT;let M:=VB Ds he h l d H;let(t,_):=FA (D:=1) S R (λo j=>M o j) ⟨128,Ý⟩;let Z:gv e 0=0:=S.isE.1;let i:ϱz 0=0:=za Á S.isE S.isL rfl;let m:ϱz (Ã (Å k)-1)=gv e (Ã (Å k)-1):=ϱC S.isL.1 ol
 let g:=S.eq 0 Á;let e1:=S.eq (Ã (Å k)-1) Á;let P:=ϸn h l H A;let f:=ϸn h l H B;rw[ol]at g e1;rw[Z,i]at g;rw[m]at e1;let ev:=(t (Ã (Å k)-1) Á).1;rw[P,f,g,e1];lia
def Y5{ts:À Nd}{c:F}(p:ç):∀k,Ć->ϒ k<=k:=by
 let he:=ľ;ext k
 induction k using Nat.strongRecOn with
 |ind k ih=>
  ext h;cases a:k=0
  .subst a
   rw[rj he h];show ì
  let T:=϶W he (Á:0<k) h;rw[ϳG<|ϸN ⟨h,T.2.2⟩];let:=ϲ2 T.2.1 Á;let:=T.2.1;lia
def dp8{ts:À Nd}{c:F}(p:ç)(a:ϰJ 9):Ϥg:=λk h=>Ĳ (Y5 p k h)
def M0{ts:À Nd}{c:F}(p:ç)(Ds:Int)(L:ϰJ 9):ϸp 256 ϰ0:=by
 let he:=ľ;let h:=p.ú;let d:=dp8 p L;show(ϸi,λe a b A H=>?_)
 .let(b1,B,I):=ϵG Q
  let g:=AB p Ds Á ύL B b1 I;let e1:I4 ϰ0 q.1=_:=Ϫ7 ύL;let E:I4 ϰ0 q.2=_:=Ϫ7 B;let l:ϱ2 q=Ļ q.1+Ļ q.2+Ds+1:=rfl;rw[e1,E,l];lia
 let i:=ϺF A;rw[Zbo]at H;let f:=ϺF H;let T:=(϶W he i.2.2.1 Ϧe).2.1;rw[i.1]at T;let m:=IA p Ds Á d Á A H;let e1:I4 ϰ0 a=_:=Ϫ7 Ϧe;let E:I4 ϰ0 b=_:=Ϫ7 f.2.2.2;let G:I4 ϰ0 e=_:=Ϫ7 (Á:ϹD);rw[e1,E,G];lia
def Dr(Ds:Int):F->À Ol|F.nil=>[]|F.cons k c r=>(ϐl ë++(Ë (ύM=[]) []<|jo (ϤA c) (Ŭ<|ϤA c)))::ϤA r
def Dr'{Ds k c r}:ϤA ϑX=((ϐl ë++(Ë (ύM=[]) []<|jo (ϤA c) (Ŭ<|ϤA c)))::ϤA r):=rfl
def yp{ts:À Nd}(Ds:Int)(he:ĕ)(a:Č 0)(l:é):ϲy (ϳJ Å f->(∀k∈ν,Ć)->Ê ϸh í=ϤA (ϱY f)):=by
 induction _ with
 |nil=>ext _ _;show rfl
 |cons k c r Sc Re=>
  ext⟨h1,h2,h3⟩ hk;let I:=Sc h2 Ϯa;let i:=Re h3 Ϯa;rw[F.roots',K9w,F.map,Dr',i,ϥQ a l (hk k<|ϳk F.pre),h1,I];let e1:ϲT (ϱY c)=Ê ύM Ϻf:=F.jQ _ _;erw[ini];rw[e1,RX];cases C:ύM=[]
  .rw[Os C,Os<|by rw[C];rfl]
  rw[P3 C,ϱh (C ϶V)]
def DV{ts:À Nd}{c:F}(p:ç):ϲy (ϳJ (λk=>(Ϩ (Å k))) f->(∀k∈ν,Ć)->ϳJ (F5 ć) (ϳF Ĺ f)):=by
 induction _ with
 |nil=>ext _ _;show trivial
 |cons k d r Sc Re=>
  ext⟨h1,h2,h3⟩ hk;show(?_,Sc h2 Ϯa,Re h3 Ϯa);rw[϶T (hk k<|ϳk F.pre),F.jQ,<-h1]
def I0{ts:À Nd}{c:F}(p:ç)(Ds:Int)(l:é){a b:Nat}{d db:F}(A:Å a=F.roots d)(n:ϳJ Å d)(w:∀k∈F.pre d,Ć)(b1:Å b=ϲT db)(B:ϳJ Å db)(I:∀k∈ϝ db,Ć)
  (h:ϱY d=ϱY db):Ê (Å a) í=Ê (Å b) í:=by
 let he:=ľ;let H:=ϸa;rw[A,b1,yp Ds he H l d n w,yp Ds he H l db B I,h]
def ID{ts:À Nd}{c:F}(p:ç)(Ds:Int)(l:é)(D:Ϥg){a b:Nat}{d db:F}(B:ϵm)(A:Å a=F.roots d)(n:ϳJ Å d)(w:∀k∈F.pre d,Ć)(b1:Å b=ϲT db)(e:ϳJ Å db)(I:∀k∈ϝ db,Ć)
  (h:ϱY d=ϱY ϫY):Ê (Å a) í=cY (Ê (Å b) í):=by
 let he:=ľ;let f:=ϸa;let pm:=϶O;let L:=ϵY;let M:∀k∈ϝ ϫY,Ć:=ϲ1 (I k<|p9 H);let C:=DV p ϫY (GH db e) M;let e1:ϳF (rN ć) (ϳF Ĺ ϫY)=ϱY ϫY:=map_two _ λq Q=>ű rN (yt p<|M q Q)
 let g:=yp Ds (aA pm) Á Á _ C (ϲ1<|by rw[F.vq]at H;let(q,Q,rfl):=Ϻa;rw[L];show ϻp<|M q Q);rw[e1,<-h]at g;rw[A,yp Ds he f l d n w,<-g,F.jQ,F.nN,<-b1,<-϶T B];show(Pe p Ds l D ϫn b Á B).2
def BU{ts:À Nd}{c:F}(p:ç)(Ds:Int)(h:é){q:Nat}(H:Č q):ϦI ϰ0 q=Ā (Ã (Å q)-1) λi=>gv (Ŭ<|Ê (Å q) í) (i+1)-gv (Ŭ<|Ê (Å q) í) i:=by
 let he:=ľ;let a:=ϸa;erw[stM];apply K8u;ext i hi;rw[K9G]at hi;let g1:á (Å q)=Â ((Å q)[i]' Á):=ϴ8;let g2:ϺJ (Å q)=Â ((Å q)[i+1]' Á):=ϴ8;let M:=(Ϫd (K9L g1));let Q:=(Ϫd (K9L g2));let T:=ϸn a h H g1;let p2:=ϸn a h H g2;rw[g1,g2];change Ϲh gv ϰ0 ((Å q)[i+1]' Á) ((Å q)[i]' Á)=_;rw[p6 a M,p6 a Q,T,p2];lia
def La{ts:À Nd}{c:F}(p:ç)(Ds:Int)(l:é){a b:Nat}(A:ϳh)(B:ϵm)(h:Ê (Å a) í=Ê (Å b) í):ϦI ϰ0 a=ϦI ϰ0 b:=by let e:=Ż h;rw[K0,K0]at e;rw[ύN A,ύN B,h,e]
def LR{ts:À Nd}{c:F}(p:ç)(Ds:Int)(l:é)(d:Ϥg){a b:Nat}(A:ϳh)(B:ϵm)(C:Å b≠[])(h:Ê (Å a) í=cY (Ê (Å b) í)):ϦI ϰ0 a=Ϩ (ϦI ϰ0 b):=by
 let he:=ľ;let H:=ϸa;let e:=Ż h;rw[iu,K0,K0]at e;let R:=ϥR H l C;let ol:Ã (Ê (Å b) í)=Ã (Å b):=K0 _;let t:=λk K=>HD (Ds:=Ds) R (ϚP B) k K;rw[ύN A,ύN B,h,e];apply K9K;ext i;cases hi:i<Ã (Å b)-1
 .rw[N2,ϴj,Zaw (by rw[K0,Z7];show hi),K0,Z7,N2,K9Z Á]
  change Â (gv (Ŭ<|cY<|Ê (Å b) í) (i+1)-gv (Ŭ<|cY<|Ê (Å b) í) i)=Â (Ϲh gv (Ŭ<|Ê (Å b) í) (Ã (Å b)-1-1-i+1)<|Ã (Å b)-1-1-i);rw[t i Á,t (i+1) Á,ol];rw[ê (Ã (Å b)-1-1-i+1=Ã (Å b)-1-i),ê (Ã (Å b)-1-(i+1)=Ã (Å b)-1-1-i)];show Ϸm Á
 rw[K9c (Ϲ K0 Z7),K9c<|ϳr Zax K0 Z7]
def KH{ts:À Nd}{c:F}(p:ç)(Ds:Int)(H:ϰJ 9):Lk ts ϰ0:=by
 let d:=dp8 p H;let inj:∀{a b:Nat},ϰb a=ϰb b->ϱY ϶l=ϱY (nf ts b):=λh=>by erw[fo]at h;show(F.cons.inj h).2.1
 show(ϴJ ?_,ϴJ ?_)
 .let L:=cZ A
  let l:=cZ B;rw[dQ L,dQ l]at e;let na:=qR p L;let nb:=qR p l;show La p Ds Á L l<|I0 p Ds Á na.ch na.con na.lt nb.ch nb.con nb.lt<|inj<|K9R e
 let L:=cZ A;let l:=cZ B;rw[dQ L,dQ l]at e;let na:=qR p L;let nb:=qR p l;let e:=K9R e;show LR p Ds Á d L l ϩg<|ID p Ds Á d l na.ch na.con na.lt nb.ch nb.con nb.lt ?_
 .let:=G_ B
  rw[z]at this;show ĭ this Ý
 erw[fo]at e;rw[F.map,F.map,F.map,F.map]at e;rw[<-F.BY];show(F.cons.inj e).2.1
def OP{ch:Nat->Ò}:ϤG (ϳJ ch f->ϳJ ch g->ϸh=ϲT g->f=g):=by
 ext f
 induction f with
 |nil=>
  ext g _ _ h;cases g with|nil=>rfl|cons k c r=>cases h
 |cons k c r ih1 ih2=>
  ext g H hg h;cases g with
  |nil=>cases h
  |cons k' c' r'=>have h':k::F.roots r=k'::ϲT r':=h;let(e1,e):=K8B h';subst e1;let(A,n,w):=H;let(b1,B,I):=hg;rw[ih1 c' n B<|A.Ñ b1,ih2 r' w I e]
section
variable{ts:À Nd}{c:F}{Ds K:Int}{M M':À Int}{s:Bool}{S S':Sl}
def E8(p:ç):∀(l j k:Nat),ϰf->ϲm l k->Dn ć (Ĺ j) l (Ĺ k):=by
 ext l
 induction l with|zero=>ext j k _ h;let h:k=j:=h;subst h;rfl|succ l ih=>ext j k hj ⟨b,hb,h⟩;show(Ĺ b,?_,ih b k (fu hb) h);rw[϶T hj];show Zcd<|List.mem_reverse.mpr hb
def Cg(ts:À Nd)(q:Nat):Ϥd (Å q) ϩA:=ϵp F5 (List.pairwise_lt_range.sublist List.filter_sublist)
def Sh(p:ç):∀(l j x y:Nat),ϰf->ϲm l x->ϲm l y->x<y->Ĺ y<Ĺ x:=by
 let pm:=϶O;ext l
 induction l with
 |zero=>
  ext j x y _ H Y h;let H:x=j:=H;let Y:y=j:=Y;lia
 |succ l ih=>
  ext j x y hj ⟨a,ha,H⟩ ⟨b,hb,Y⟩ h;rcases Zba a b with q|q|q
  .let r:Ϥd (F5 ć<|Ĺ j) ϩA:=Cg _ _
   rw[϶T hj,Zei,List.pairwise_reverse]at r;let G:Ĺ b<Ĺ a:=by
    let(i,hi,e1):=Zal ha;let(k,K,g):=Zal hb;let I:i<k:=by
     rcases Zba i k with z|z|z
     .show z
     .subst z
      lia
     let:=Ϗx Cg k i K hi z;lia
    let:=List.pairwise_iff_getElem.mp r i k hi K I;rw[e1,g]at this;show this
   let m:∀z,z∈Å j->Ĺ z∈F5 ć (Ĺ j):=λz Z=>Ô (϶T hj) (Zcd<|List.mem_reverse.mpr Z)
   show ϛi<|E8 p l a x (fu ha) H
  .subst q
   show ih a x y (fu ha) H Y h
  let:=ϑ3 q H;lia
def GW(p:ç){k:Nat}(h:Ć):I4 (ay ć) (Ĺ k)=û k:=yt p h
def Of(he:ĕ)(h:Ź)(g0:ϱx)(g:0<=K)(R:ϸp K M){r:Ò}{j:Nat}(hr:ę Í=ϰQ):∀(m i a b:Nat),r[i]?=Ϸu->r[Ϫb]?=ϧ->K*ϱ2 (a,b)<=ź b-ź a:=by
 let ad:∀i a b,r[i]?=Ϸu->r[i+1]?=ϧ->K*ϱ2 (a,b)<=ź b-ź a:=λi a b c H=>by show R.1 (a,b)<|ϯw ?_;erw[prs];show ϙg ⟨i,?_⟩;rw[Zan];show(c,?_);rw[K84,Zct];show H
 ext m
 induction m with
 |zero=>show ad
 |succ m ih=>
  ext i a b c H;let l:=ϹB;let f:r[Ϫb]?=Â (r[Ϫb]' Á):=ϴ8;generalize r[Ϫb]' Á=d at f;let x:=ih i a d c f;let X:=ad Ϫb d b f H;let D:=(ϱQ d).1;erw[bI]at x X⊢;let n:=Zag g (ê<|0<=2*û d+Ds+1);let e1:ϷA (û a+û d)=K*û a+ϷA (û d):=Ϙ Zav (Uf _ Á)
  let e:ϷA (û d+û b)=ϷA (û b)+K*û d:=Ϙ Zav (Uf _ Á)
  let G:ϷA (û a+û b)=K*û a+ϷA (û b):=Ϙ Zav (Uf _ Á)
  let E:ϷA (2*û d)=ϷA (û d)+K*û d:=Ϙ Zav (Uf _ Á)
  let x:ϷA (û a+û d)<=ź d-ź a:=x;let X:ϷA (û d+û b)<=ź b-ź d:=X;change ϷA (û a+û b)<=ź b-ź a;lia
def Va(he:ĕ)(h:Ź)(g0:ϱx)(g:0<=K)(R:ϸp K M){a b:Nat}(B:ϵm)(A:a<b)(e:ϒ a=ϒ b):K*ϱ2 (a,b)<=ź b-ź a:=by
 let(r,hr,f):=xy he B;let(T,p2):=Ϻk hr;let m:=(p2 a).mpr ⟨Á,e⟩;let(i,hi):=Zac m;let(k,H):=Zac f;let(d,I):=ϻV;let(c,l):=ϭg;let j:i<k:=by
  rcases Zba i k with z|z|z
  .show z
  .subst z
   lia
  let:=List.pairwise_iff_getElem.mp T k i c d z;lia
 show Of he h g0 g R hr (k-i-1) i a b hi (Ϩe<|ê (i+(k-i-1)+1=k))
def tP(ts:À Nd)(c:F)(m:À Int):À Int:=Ā ts.À λk=>-I4 m (Ĺ k)
def mF{k:Nat}(h:Ć):I4 Ϲr k=-I4 M' (Ĺ k):=by erw[I4,tP];rw[N2,ϴ6];rfl
def Pp(p:ç)(s:Lb ć)(g0:ϱx)(j:0<=K)(R:Rl ć Ds K M'):ϸp K Ϲr:=by
 let he:=ľ;let pm:=϶O;let h:=aA pm;let M:=ϵY;show(ϸi,λe a b A g=>?_)
 .let(b1,B,I):=ϵG Q
  let L:Č q.1:=ύL;let D:=Ϩd L;let o:=Ϩd B;rw[I]at D;let t:=Sh p _ 0 _ _ p.ú D o b1;let lv:∀k,Ć->lvN ć (Ĺ k)=ϒ k:=λk r=>by
   let d:=E8 p _ 0 k p.ú<|Ϩd r;let:=pL h (ϔH<|ϻp p.ú) d;rw[F.BH,rj h (ϔH p.ú),K87]at this;show Ϻm
  let f:=Va h s g0 j R (ϔH<|ϻp L) t (by rw[lv _ L,lv _ B,I]);let ld:bI ć Ds (Ĺ q.2,Ĺ q.1)=ϱ2 q:=by
   erw[bI];change ϑd (ay ć) (Ĺ q.2) (Ĺ q.1)+Ds+1=_;rw[GW p L,GW p B,Int.add_comm<|û q.2]
  rw[ld]at f;rw[mF L,mF B];lia
 let i:=ϺF A;let H:=g;rw[Zbo]at H;let u:=ϺF H;let T:=(϶W he i.2.2.1 Ϧe).2.1;rw[i.1]at T;let l:ϹD:=Á
 let m:=R.2 (Ĺ e) (Ĺ b) (Ĺ a) (by
  rw[϶T l,N2,<-Zep,List.head?_reverse,g];rfl) (by
  rw[϶T l,List.getLast?_map,List.getLast?_reverse,Zep,A];rfl)
 rw[mF l,mF Ϧe,mF u.2.2.2];lia
def BD(p:ç){a:Nat}(A:a∈č):Ĺ a∈fk ć:=by
 let l:=cZ A;let h:=G_ A;show ϳz ⟨϶u ?_,Z8 ?_⟩
 .rw[ϵY]
  show ϻp l
 rw[϶T l,K0,Zax];lia
def Ck(p:ç){a:Nat}(A:ϳh):Pi ć (Ĺ a)=Tl (ü a):=by
 let pm:=϶O;let L:=ϵY;let gl:Ĺ a<Ã ć:=ϫZ (ϻp A)
 let na:=qR p A;let nm:=qR pm gl;let lt:∀k∈ϝ (ϵZ ϶l),Ć:=϶U (na.lt k<|p9 h);let e:nf ć (Ĺ a)=ϳF Ĺ (ϵZ ϶l):=OP _ _ nm.con (DV p _ (GH _ na.con) lt) (by rw[<-nm.ch,϶T A,F.jQ,F.nN,<-na.ch]);rw[dQ gl,dQ A];change Â (fo ć<|Ĺ a)=Â (ϵZ<|ϰb a);show Ϸm ?_;erw[fo];rw[e,F.BY];change ϻM (rN ć<|Ĺ a) (ϳF (rN ć)<|ϳF Ĺ<|ϵZ ϶l)=ϻM (Ϻf a) (ϱY<|ϵZ ϶l);rw[B1 p A,map_two _ λq H=>B1 p<|lt q H]
def x9(p:ç){a:Nat}(A:ϳh):ϦI Ϲr a=Ϩ (stM M' ć<|Ĺ a):=by
 let C:=϶T A;let cl:Ã (F5 ć<|Ĺ a)=Ã (Å a):=by rw[C,K0,Zax]
 let at_:∀i,i<Ã (Å a)->gv M' (Ó ((F5 ć<|Ĺ a)[Ã (Å a)-1-i]?) 0)=-gv Ϲr (Ó (á<|Å a) 0):=λi hi=>by
  let g1:á (Å a)=Â ((Å a)[i]'hi):=ϴ8;rw[C,N2,Zaw Á,ê (Ã (Å a)-1-(Ã (Å a)-1-i)=i),g1];let t:gv Ϲr ((Å a)[i]'hi)=_:=mF<|fu<|K9L g1;change gv M' (Ĺ<|(Å a)[i]'hi)=-gv Ϲr ((Å a)[i]'hi);rw[t];change _=- -(gv M' _);rw[Int.neg_neg]
 apply K9K;ext i;cases hi:i<Ã (Å a)-1
 .unfold stM
  rw[Zaw (by rw[K0,Z7,cl];show hi),N2,N2,K0,Z7,cl,ϴj,K9Z Á];let x:=at_ i Á;let b:=at_ (i+1) Á;show Ϸm ?_;change Ϲh gv Ϲr (Ó (ϺJ<|Å a) 0) (Ó (á<|Å a) 0)=Ϲh gv M' (Ó ((F5 ć<|Ĺ a)[Ã (Å a)-1-1-i+1]?) 0) (Ó ((F5 ć<|Ĺ a)[Ã (Å a)-1-1-i]?) 0);rw[ê (Ã (Å a)-1-1-i+1=Ã (Å a)-1-i),ê (Ã (Å a)-1-1-i=Ã (Å a)-1-(i+1)),x,b];lia
 rw[K9c (Ă xt),K9c<|ϳr Zax xt cl]
def OH(p:ç)(L:Lk ć M'):Lk ts Ϲr:=by
 show(ϴJ ?_,ϴJ ?_)
 .rw[x9 p<|cZ A,x9 p<|cZ B,ϛZ ϖ3]
 rw[x9 p<|cZ A,x9 p<|cZ B,ϛ0 ϖ3]
end
section
variable{ts:À Nd}{c:F}{Ds K:Int}{M M':À Int}{s:Bool}{S S':Sl}
def Hh(a:Č 0)(M:À Int)(K:Int):∃lo hi,jE (Ā ts.À λk=>gv M k+K*(Ļ k+1))-eT (Ā ts.À λk=>gv M k-K*Ļ k)=϶E/\(∀k,Ć->lo<=ź k-K*û k)/\(∀k,Ć->ź k+K*(û k+1)<=hi)/\∃i j,ϫO/\ϰf/\hi=ź i+K*(û i+1)/\lo=ź j-K*û j:=by
 let ne:∀f:å,Ā ts.À f≠[]:=λf z=>by
  let:=Ż z;rw[K0,Z7,K8U]at this;lia
 let(A,n):=c_<|ne λk=>gv M k+K*(Ļ k+1);let(b1,B):=dS<|ne λk=>gv M k-K*Ļ k;let(i,hi,e1):=XV.mp A;let(j,J,g):=ϤQ b1;show(_,_,rfl,λk h=>B _<|Zcd ϔA,λk h=>n _<|Zcd ϔA,i,j,K9G.mp hi,K9G.mp J,e1.symm,g.Ï)
def Nw.wide(N:Ű)(p:ç)(h:Ź)(l:é)(g0:ϱx):∃lo hi,϶E=ı 0+ı 1+Ě/\(∀k,Ć->lo<=I4 ϴG k-Ě*û k)/\∀k,Ć->I4 ϴG k+Ě*(û k+1)<=hi:=by let(lo,hi,e,a,b,_):=Hh p.ú ϴG Ě;let w:=MN N p h g0 l;show(lo,hi,e.Ñ w,a,b)
def Nw.turn(N:Ű)(p:ç)(M:Lb ć)(l:é)(g0:ϱx)(n:Nw ć s Ds S'):
  ϘW (ı 0) (ı 1) Ě (ϸA ć S') (ϩp ć S' 0) (ϩp ć S' 1):=by
 let pm:=϶O;let L:=ϵY;let u:=Zar n.u0;let(lo,hi,e,a,b):=n.wide pm M Á g0
 let w:=N.le p l u (Pp p M g0 u<|n.rls pm Á) (λz=>by
  subst z;show OH p<|M7 pm Á) (lo:=ϸA ć S'-hi) (hi:=ϸA ć S'-lo) (λk h=>by
  let:=b (Ĺ k) (ϫZ<|ϻp h);rw[GW p h,Zav,Zbl]at this;rw[mF h]
  lia) (λk h=>by
  let:=a (Ĺ k) (ϫZ<|ϻp h);rw[GW p h]at this;rw[mF h,Zav,Zbl]
  lia)
 rw[<-e];rw[ê (ϸA ć S'-lo-(ϸA ć S'-hi)=϶E)]at w;show w
def Nw.mir(N:Ű)(p:ç)(h:Ź)(M:Lb ć)(l:é)(g0:ϱx)(n:Nw ć s Ds S'):
  (ϩp ć S' 0+ϩp ć S' 1+ϸA ć S')*Ě=(ı 0+ı 1+Ě)*ϸA ć S':=by
 let a:=N.turn p M l g0 n;let t:=E4 p;let L:=ϵY;let b:∀u,u=ts->∀(U:Nw u s Ds S)(H:Lb u),aR ć ϻX=u->ϘW (ϩp ć S' 0) (ϩp ć S' 1) (ϸA ć S') (Z3 u s Ds S) (nwX u s Ds S 0) (nwX u s Ds S 1):=λu e U H z=>by subst z;show n.turn ϶O H Á g0 U
 show Zdh (b ts rfl N h t) a
end
def atL(ts:À Nd)(D:Int)(e:å):å|0=>0|k+1=>Ë (Å k=[]) (ϴN k+D+e k) (ϴN k)
def atL''{ts D e}:ϴN 0=0:=rfl
def atL'{ts D e k}:ϴN (k+1)=(Ë (Å k=[]) (ϴN k+D+e k)<|ϴN k):=rfl
def zN{l:À Int}{k:Nat}{z:Int}(h:k<l.À)(j:Nat):I4 (l.ß k z) j=Ë (j=k) z (I4 l j):=by
 erw[I4];rw[List.getElem?_set];cases e:k=j
 .subst e
  rw[Ĝ,ϰo,Ĝ];rfl
 rw[ϲt,ϱh (e z.Ï)]
def Ou{a b:Nat}{r:Ò}(B:Ϥa ϱy=ϧ):atI (nD ϱy) 0=Â (Ä ϑ)/\Ϲ2 (nD ϱy)=Â (Ä ϩx):=by
 show(ϭh,?_);let:=(bX (r:=ϱy) Û).2.1;let e:ltN ϱy=b:=ϙr
 rw[e]at this;let n:ϹP nD ϱy aO:=ϏN
 rw[n];show this
def Te{L:Ò}(h:L≠[]):gEq (Ï<|nD L) (Ï [])=þ (ã false):=by
 cases L with
 |nil=>show Ϡ h
 |cons a as=>
  erw[gEq];rw[n_];erw[k7];rw[ύ (Ϻ4 (Ï<|nD ϵP)) (cG (Ϻc<|iL ϵP) Ý),ύ (Ϻ4 (Ï [])) (cG (Ϻc []) Ý),K7m,Ĝ];rfl
theorem I_(ns:À Int)(ts:À Nd)(Ds:Int)(he:ĕ)(U:Č 0)(hl:é)(g1:0<=Ds)(g2:Ds<=1000):
  ∃(e:å)(P:À Int),(∀k,0<=e k/\Ì 256 ∣ e k)/\(∀k,e k<=512)/\İ P.À/\(∀k,Ć->Å k=[]->ϲv k=϶X (k+1))/\(∀q a b,Ϧ4 (Å q) (ϲv q) (ϯa P))/\
   cE [Ï è,Ï ō,Ä 30,Ä 256,Ä Ds]=ģ (aG P):=by
 let hq:∀j:Nat,∃z:Int,j<1000->bP [Ï ō,Ä<|30+Ĵ]=.ok (Ñ z):=λj=>by
  cases h:j<1000
  .let(z,hz):=ϧD (30+Ĵ) Á
   show(z,Ţ hz)
  show(0,λf=>absurd f h)
 let(Z,t):=Classical.skolem.mp hq;obtain⟨e,E⟩:∃e:å,e=λk=>ϏR:=ζ
 suffices H:∃P:À Int,İ P.À/\(∀k,Ć->Å k=[]->ϲv k=϶X (k+1))/\(∀q,0<=q->Č q->∀a b,Ϧ4 (Å q) (ϲv q) (ϯa P))/\cE [Ï è,Ï ō,Ä 30,Ä 256,Ä Ds]=ģ (aG P)by
  let(P,p1,p2,p3,p4):=H;show(e,P,ϥ9,ϥ9,p1,p2,λq a b m l=>p3 q ϰS ?_ a b m l,p4)
  .rw[E]
   show(ϳZ (0<=ϏR),Int.dvd_mul_left ..)
  .rw[E]
   change ϏR<=512;lia
  let D:=ϺF m;let T:=(϶W he D.2.2.1 D.2.2.2).2.1;rw[D.1]at T;lia
 erw[cE,iG];let F:=xn ts he U hl;let O:(Ā ts.À λq=>ϲw<|nO<|Å q).map OD.er=Ā ts.À λq=>ϴO (nD<|Å q):=Ô S1 (K8u λq _=>by change ϹS _=_;rw[md,iP])
 let s:∀k,Ć->atI (Ā ts.À λq=>ϴO<|nD<|Å q) ë=some (Ï<|nD<|Å k):=λk K=>de (ϰ7 N2<|K9Z K);let rp:=xA (Ä 0) ts.À Á;let s2:Κ ((Ì ts.À)):=Ŕ Á;let R:ϤB (9+Ds) 256:=EC Á Á;let ri:ώM (ϸ4 Ϻq) (ϸ4 0):=Ϙa
 let T:∀(pl:À Int)(k:Nat)(z:Int),Ϧf pl k (Đ ϭE)=aG (pl.ß k z):=λpl k z=>χ aG Zby Zby
 simp![F,O,aH,rp,ri,s2];generalize Ā ts.À (λq=>ϴO<|nD<|Å q)=chs at s⊢;generalize W:Ŗ=r';show aX W (ϺK<|∃(pl:À Int)(V v:Ü OD),(İ pl.À/\∀k,k<i->Å k=[]->I4 pl k=϶X (k+1))/\ρ=[â è,â ō,some<|Ñ 30,some<|Ñ 256,some<|Ñ Ds,â chs,Ň ϭI,some<|Ñ<|϶X i,V,v]) ⟨_,_,_,⟨ϰT K8r,λk K=>ĭ K<|Zbh k⟩,rfl⟩ ?_ ?_
 .rintro i d ρ hd ⟨pl,V,v,⟨hpl,hP⟩,rfl⟩
  let(hi,rfl):=϶M;rw[K9n]at hi;rw[K8R];let I:=s i hi;let hy:=t i Á;cases f:Å i=[]
  .let L:gEq (Ï<|nD<|Å i) (Ï [])=þ (ã true):=by rw[f];show Kj (a:=[]) (n:=1) (yB λx hx=>nomatch hx) Ý
   let X:ixN (Ã ϭI) ÿ=ϸy:=cW (Ă d7);let nx:϶X i+Ϭa+Z i*69621%2147483629%3*256=϶X (i+1):=by rw[atL',Os f,E]
   simp![I,L,hy,R,nx,yS X,T];show(_,_,_,(Ô K8z hpl,λk K c=>?_),rfl);rw[zN Á];cases q:k=i
   .rw[Os q,q]
   rw[P3 q];show hP k Á c
  let L:gEq (Ï<|nD<|Å i) (Ï [])=þ (ã false):=Te f;let nx:϶X i=϶X (i+1):=Ĥ atL' (P3 f)
  simp![I,L];rw[nx];show(pl,_,_,(hpl,λk K c=>?_),rfl);let:k≠i:=λz=>f (z▸c);show hP k Á c
 rintro ρ' rfl ⟨pl,V,v,⟨hpl,hP⟩,rfl⟩;rw[gF,K9n]at hP⊢;generalize ϶X ts.À=at';let r3:=λ(ρ:L3.Env)(f:(F4 cO (eB ba<|ae (aa 0) ai)<|eC<|.int 1) ρ=.ok (.sh<|.int<|(ts.À:Int)-1))=>Pb (fa:=ϳA (ħ<|È 0 ai)<|Ç 1) (fb:=ġ<|Ç 1) (fc:=ġ<|Ç 1) (ρ:=ρ) (x:=Ì ts.À-1) (y:=-1) (z:=-1) f rfl rfl rfl (Ŕ Á) (Ŕ Ý);let r4:=r3 [â è,â ō,some<|Ñ 30,some<|Ñ 256,some<|Ñ Ds,â chs,Ň ϭI,some<|Ñ at',V,v] ϑR;simp![r4];generalize w:Ŗ=r2;show aX w (ϺK<|∃(pl:À Int)(V:Ü OD),(İ pl.À/\(∀k,Ć->Å k=[]->I4 pl k=϶X (k+1))/\∀q,ts.À-i<=q->Č q->∀a b,Ϧ4 (Å q) (I4 pl q) (ϯa pl))/\ρ=[â è,â ō,some<|Ñ 30,some<|Ñ 256,some<|Ñ Ds,â chs,Ň ϭI,some<|Ñ at',V,v]) ⟨pl,_,⟨hpl,hP,λq f g=>ĭ g Á⟩,rfl⟩ ?_ ?_
 .rintro i d ρ hd ⟨pl,V,⟨hpl,hP,hR⟩,rfl⟩
  let(hi,rfl):=uY hd;obtain⟨k,K⟩:∃k:Nat,Ì ts.À-1-ÿ=ë:=⟨ĵ-i,Á⟩
  rw[K];let u:Ć:=Á
  let C:=s k u;cases hc:F5 ts k with
  |nil=>
   rw[hc]at C;let L:gNe (Ï<|nD []) (Ï [])=þ (ã false):=Br;simp![C,L];show(pl,_,(hpl,hP,λq f g a b m l=>?_),rfl);let:q≠k:=λz=>by rw[z,hc]at m;cases m
   show hR q Á g a b m l
  |cons a r=>
   rw[hc]at C;let L:gNe (Ï<|nD ϱy) (Ï [])=þ (ã true):=NP (n:=1) (Ϻc<|iL ϱy) Ý;obtain⟨b,l⟩:∃b,Ϥa ϱy=ϧ:=Ϭz Û
   let(G,M):=Ou l;let ca:a∈Å k:=Ô hc K9z
   let N:b∈Å k:=Ô hc (Zcb l)
   let al:=fu ca;let bl:=fu N;let q1:=ϫU (k:=a) Á;let q2:=ϫU (k:=b) Á;let X:ixN (Ã ϭI) ë=Ş:=cW (Ă d7);simp![C,L,G,M,q1,q2,aW,yS X,T];show(_,_,(Ô K8z hpl,λj Y J=>?_,λq f g o p A B=>?_),rfl)
   .let:j≠k:=λz=>by rw[z,hc]at J;cases J
    rw[zN Á,P3 this];show hP j Y J
   let ga:=ϋ<|K9L A;let gb:=ϋ<|Zcb B;rw[zN Á,zN Á,zN Á,P3 (ê<|¬o=k),P3<|ê (¬p=k)];cases Q:q=k
   .subst Q
    rw[hc]at A B;let e1:a=o:=ϑk
    let S:b=p:=by rw[l]at B;show K9R B
    rw[Ĝ,e1,S]
   rw[P3 Q];show hR q Á g o p A B
 rintro ρ' rfl ⟨pl,V,⟨hpl,hP,hR⟩,rfl⟩;simp![S5];show(pl,hpl,hP,λq f g=>hR q ?_ g,rfl);rw[zG];lia
theorem Dn.trans{ts:À Nd}{x u l:Nat}(h:϶N x l u):∀{L a:Nat},϶N a L x->϶N a (L+l) u
 |0,a,e=>by let e:x=a:=e;subst e;rw[K87];show h
 |L+1,a,⟨b,hb,e⟩=>Ô Nat.add_right_comm (b,hb,Dn.Å h e)
section
variable{ts:À Nd}{c:F}{Ds D:Int}{P:À Int}{e:å}
def YR(p:ç){x y l m u v:Nat}(U:϶N x l u)(V:϶N y m v)(h:x<y):∀(L j:Nat),ϲm L x->ϲm L y->u<v:=by
 ext L
 induction L with
 |zero=>
  ext j H Y;let H:x=j:=H;let Y:y=j:=Y;lia
 |succ L ih=>
  ext j ⟨a,ha,H⟩ ⟨b,hb,Y⟩;rcases Zba a b with q|q|q
  .show ϛR<|V.trans Y
  .subst q
   show ih a H Y
  let:=ϑ3 q H;lia
def EN(r:0<=D)(E:∀k,0<=e k/\Ì 256 ∣ e k)(i:Nat):∀m,ϴN i<=ϴN (i+m):=by
 ext m
 induction m with
 |zero=>show ϺB
 |succ m ih=>
  change _<=ϴN Ϫb;rw[atL'];let:=(E<|i+m).1;split<;>lia
def Pl(h:Ì 256 ∣ D)(E:∀k,0<=e k/\Ì 256 ∣ e k):∀i,Ì 256 ∣ ϴN i:=by
 ext i
 induction i with
 |zero=>show Zdg _
 |succ i ih=>
  rw[atL'];split
  .show Zdl (Zdl ih h) (E i).2
  show ih
variable(p:ç)(hl:ϰJ 8)(D0:0<=D)(hD:Ì 256 ∣ D)(E:∀k,0<=e k/\Ì 256 ∣ e k)(L1:∀k,Ć->Å k=[]->ϲv k=ϴN (k+1))(L2:∀q a b,Ϧ4 (Å q) (ϲv q) (ϯa P)) include p hl hD E L1 L2

theorem Rf:∀m k,İ (k+m)->Ć->dv m ∣ ϲv k/\∀a b,Ϧ4 (Å k) (2*ϲv k) (ϲv a+ϲv b):=by
 let he:=ľ;ext m
 induction m using Nat.strongRecOn with
 |ind m ih=>
  ext k M K;cases hc:F5 ts k with
  |nil=>
   show(?_,λa b i B=>by cases i);rw[L1 k K hc];show Zbp (Fu Á)<|Pl hD E _
  |cons a r=>
   obtain⟨b,B⟩:∃b,Ϥa ϱy=ϧ:=Ϭz Û
   let ca:a∈Å k:=Ô hc K9z
   let N:b∈Å k:=Ô hc (Zcb B)
   let al:=fu ca;let bl:=fu N;let ga:=ϋ ca;let G:=ϋ N;let d:=(ih ϧY Á a Á al).1;let db:=(ih ϫn Á b Á bl).1;let v:dv (m-1)=2*dv (m-1+1):=CJ Á;let d:=Zbp (yA<|ê (ϧY<=m-1)) d;let db:=Zbp (yA<|ê (ϫn<=m-1)) db;rw[v,ê (m-1+1=m)]at d db;let(H,c):=uV d db;let q:=L2 k a b (ϣ hc) (ϯ0 hc);rw[<-q]at H c;show(H,λA e h f=>?_);let e1:a=A:=ϱZ
   let g:b=e:=by rw[B]at f;show K9R f
   rw[<-e1,<-g];show c
include D0
theorem GQ{u v:Nat}(H:϶6)(h:u<v)(C:Å u=[])(c:Å v=[]):ϲv u+D<=ϲv v:=by
 rw[L1 u Á C,L1 v H c];let m:=Ϝn ϨK;rw[ê (u+1+ϨK=v)]at m;rw[show ϴN (v+1)=ϴN v+D+e v by rw[atL,Os c]];let:=(E v).1;lia
theorem MB:∀m k,İ (k+m)->Ć->∃x y l n,϶N k l x/\϶N k n y/\Å x=[]/\Å y=[]/\Ś (ϲv x) (ϲv k) (ϲv y):=by
 let he:=ľ;ext m
 induction m using Nat.strongRecOn with
 |ind m ih=>
  ext k M H;let h:=(ϚV m k M H).2;cases hc:F5 ts k with
  |nil=>show(k,k,0,0,rfl,rfl,hc,hc,ϺB,ϺB)
  |cons a r=>
   obtain⟨b,B⟩:∃b,Ϥa ϱy=ϧ:=Ϭz Û
   let ca:a∈Å k:=Ô hc K9z
   let N:b∈Å k:=Ô hc (Zcb B)
   let al:=fu ca;let bl:=fu N;let ga:=ϋ ca;let G:=ϋ N;let e:=h a b (ϣ hc) (ϯ0 hc);let(x,y,l,n,i,y1,j,y2,T,y3):=ih ϧY Á a Á al;let(x',q,L,g,X,Y,c,d,o,s):=ih ϫn Á b Á bl;let A:ϲv a<=ϲv b:=by
    cases z:a=b
    .rw[z]
     show ϺB
    let lt:a<b:=by
     let rs:=Cg ts k;rw[hc]at rs;let f:b∈ϱy:=Zcb B;rcases K8v.mp f with w|w
     .show ĭ w.Ï z
     show(List.pairwise_cons.mp rs).1 b w
    let t:=sub_lt p ca N lt y1 X;let:=Ϙg (ϷF bl X) c;lia
   show(x,q,l+1,g+1,(a,ca,i),(b,N,Y),j,d,Á,Á)
theorem JV(h:Ź)(hg:256*(9+Ds)<=D):ϸp 256 P:=by
 let he:=ľ;show(ϸi,λk a b A H=>?_)
 .let(b1,B,I):=ϵG Q
  let L:Č q.1:=ύL;let d:=Ϩd L;let c:=Ϩd B;rw[I]at d;let(_,y,_,n,_,y1,_,y2,_,y3):=ϙt (ϲN q.1) q.1 Á L;let(x,_,l,_,X,_,e,_,g,_):=ϙt (ϲN q.2) q.2 Á B;let t:=YR p y1 X b1 _ 0 d c;let f:=Ϙg (ϷF B X) e;let r:=(ϱQ q.1).2;let m:=(ϱQ q.2).2;erw[bI];lia
 let i:=ϺF A;let T:=(϶W he i.2.2.1 Ϧe).2.1;rw[i.1]at T;show(ϚV ϫC k Á Á).2 a b A H
end
def Zq(ns:À Int)(s many kinds:Int)(q0:0<=s)(q1:s<=20)(m0:1<=many)(m1:many<=2):∃(ts:À Nd)(c:F),ç/\Ź/\ϰJ 8/\fI [Ï ō,Ä s,Ä many,Ä kinds]=þ (Ï è):=by
 erw[fI,k_];let(P,way,hg,E,t):=HM ns s many.Ò 9 6 Á Á Á Á Ý Ý Ý Ý;rw[ê (Ì many.Ò=many)]at t;let(f,pp,_):=Et hg;let B:Lb P:=ϙR;let Z:∀i:Nat,∃u:À Nd,i<3->u.À=P.À/\(∀k,k<P.À->Z4 u k=Z4 P k)/\Lb u/\b8 [Ï<|ak P,Ï ō,Ä<|s+5+3*ÿ]=.ok (Ę<|ak u):=by
  ext i;cases hi:i<3
  .let(u,a):=Kb P B Á ns (s+5+3*ÿ) Á Á
   show(u,λ_=>a)
  show([],λh=>ϻw hi)
 let(uf,j):=Classical.skolem.mp Z;let K:=dP kinds (ϱl<|Ì 0<9);let k81:=dP (ϭu 81) (ϱl<|Ì 0<3);let q:=ZN (kinds %9) K.1 K.2;generalize A:ώZ (Â<|1+kinds %9)=lab at q;let k3:ϳt (Ã (Str.ofString "abcdefghi")):=œ
 let sc:Κ (1+ϭu 81%3):=Ŕ Á;simp![t,aI,YI,k3,A,sc];generalize T:Ŗ=r;apply aX T (λi J=>∃(ts:À Nd)(c:F)(v6 v:Ü OD),ç/\Ź/\ϰJ (1+2*i)/\J=[â ō,Ĕ<|Ä s,some<|Ñ many,some<|Ñ kinds,â<|ak P,â è,v6,v])
  ⟨[⟨-1,lab,1+ϭu 9%9⟩],F.nil,_,_,⟨rfl,rfl,trivial⟩,(λn N=>by rw[K95]at N;subst N;show q),Û,rfl⟩ ?_ ?_
 .rintro i d J hd ⟨ts,c,v6,v,p,tlab,tlen,rfl⟩
  let(hi,rfl):=϶M;rw[K8R];let I:i<3:=Á
  let U:=j i I;let y:=U.1;let z:=U.2.1;let o:=U.2.2.1;let G:=U.2.2.2;clear U;generalize uf i=u at y z o G;let pu:PT u f:=P7 pp y z;let ib:Ś 0 (ÿ*ÿ) (2*2):=⟨Zag Á Á,Zef Á Á Á Á⟩
  let c1:ϏG ÿ:=EC Á Á;let M:ϭZ (ÿ*ÿ) 1:=ϸF ⟨Á,Á⟩;let O:ϭZ ÿ 1:=ϸF ⟨Á,Á⟩;let L:u.À<=2:=Á
  simp![G,aI,c1,M];generalize l:ifK _ _ _ _=r1;let b:∃(ws:À Nd)(d:F),PT ws d/\Lb ws/\ws.À<=2/\r1=ų [â ō,Ĕ<|Ä s,some<|Ñ many,some<|Ñ kinds,â<|ak P,â è,Ĕ<|Ä i,â<|ak ws]:=by
   cases C:ϭu 243 / (ÿ*ÿ+1)%3=1
   .rw[Z8 C]at l
    let lm:=sW u f pu Á;simp![lm,aI]at l;show(aR u f,F.c1 f,gc pu,Bo pu o,ύm (cP pu),l.Ï)
   rw[K9q C]at l;simp![S5]at l;show(u,f,pu,o,L,l.Ï)
  clear l;let(ws,g,W,w,e,rfl):=b;simp![O,aH];generalize l:ifK _ _ _ _=r1
  let b:∃(ws:À Nd)(d:F),PT ws d/\Lb ws/\ws.À<=2/\r1=ų [â ō,Ĕ<|Ä s,some<|Ñ many,some<|Ñ kinds,â<|ak P,â è,Ĕ<|Ä i,â<|ak ws]:=by
   cases C:ϭu 729 / (ÿ+1)%5=1
   .by_cases S:1<ws.À
    .let D:Õ (Ì 1<Ì ws.À)=true:=Z8 Á
     let cl:=MT (ak ws) (Ă aH);rw[Gx]at cl;rw[Z8 C]at l;simp![aH,D,cl,aI]at l;let(d',pd):=Tw W S;show(ws.Ù,d',pd,λn N=>w n<|List.dropLast_subset _ N,Ă Zcz,l.Ï)
    let D:Ł (Õ (Ì 1<Ì ws.À)):=K9q Á;rw[Z8 C]at l;simp![aH,D]at l;show(ws,g,W,w,e,l.Ï)
   rw[K9q C]at l;simp![S5]at l;show(ws,g,W,w,e,l.Ï)
  clear l;let(ws,g,W,w,e,rfl):=b;let ph:=OY p W;obtain⟨n,R,rfl⟩:∃n R,ws=n::R:=by
   cases ws with
   |nil=>show ĭ W.ú Û
   |cons n R=>show(n,R,rfl)
  rw[K9p]at e;let V:=QS n R ts.À Á;let H:Ã (Ϲd<|n::R)=R.À+1:=χ og K9p K0
  let lb:ϳt (ts.À+Ã (Ϲd<|n::R)):=aF (by rw[H];lia);let Q:è++ak (Ϲd<|n::R)=ak (ts++Ϲd (n::R)):=ű ak K9i
  simp![aH,V,aI,L3.kE,lb,Q];show(_,_,_,_,ph,λx X=>?_,?_,rfl)
  .rcases K9Y.mp X with X|X
   .show tlab x X
   erw[og]at X;rcases K8v.mp X with rfl|X
   .show w n K9z
   let(m,Y,rfl):=ϤQ X;show w m<|ě Y
  rw[K9v,H];lia
 ext ρ' rfl ⟨ts,c,v6,v,p,tlab,tlen,rfl⟩;rw[gF]at tlen;show(ts,c,p,tlab,Á,ϻg)
def Oj(ns:À Int):∃(ts:À Nd)(c:F)(x:OD),ç/\Ź/\ϰJ 8/\x.er=Ï è/\bJ [Ï ō,Ä 8]=ϴ2:=by
 let(z,Z):=ϧD 0 Ý;let(d,H):=ϧD 1 Ý;cases a:z%2=1
 .unfold bJ eK
  let e:=ϥl 2 (ϱl<|Ì 0<2);let(ts,c,p,B,L,f):=Zq ns 3 (1+z / 2%2) (d%2147483647) Ý Ý Á Á;show(ts,c,.sh<|Ï è,p,B,L,ϰn,by simp![Z,H,Z8 a,f])
 let m:=ϥl 2 (ϱl<|Ì 0<8);obtain⟨m,M⟩:∃m:Nat,1+z / 2%8=ϴ0:=⟨ĩ (1+z / 2%8),Á⟩
 let Q:=ϥl 32 (ϱl<|Ì 0<2);let key:∀most:Int,1<=most->most<=9->Ť [int 2,int 9] (z / 32%2)=Â (Ä most)->∃(ts:À Nd)(c:F)(x:OD),ç/\Ź/\ϰJ 8/\x.er=Ï è/\bJ [Ï ō,Ä 8]=ϴ2:=by
  ext most q k ga;erw[bJ,eK];let(ts,way,hg,l,t):=HM ns 3 m most 8 Á Á Á Á q k Ý Ý;let(c,p,_):=Et hg;show(ts,c,_,p,ϙR,Á,Ĥ md aI,by simp![Z,K9q a,M,ga,t])
 cases b:z / 32%2=0
 .show key 2 Ý Ý (by rw[b];rfl)
 show key 9 Ý Ý (ϣ<|ê (z / 32%2=1))
def Pj{ts:À Nd}{j a:Nat}(h:a∈Å j):∃i,i<Ã (Å j)/\á (Å j)=Ϸu:=by let(u,U,E):=Zal h;show(u,U,by rw[Nu U,E])
def OQ{ts:À Nd}{c:F}(p:ç)(Ds:Int)(hg:0<=Ds)(a:é){j:Nat}(J:ϰf)(C:Å j≠[]):
  ∃s l,IsSt Ds (Ê (Å j) í) s l (Ŭ<|Ê (Å j) í)/\0<=ϱz (Ã (Å j)-1)/\
   ∀i,i<Ã (Å j)->Ś (-ϱz (Ã (Å j)-1)) (gv (Ŭ<|Ê (Å j) í) i) (ϱz (Ã (Å j)-1)):=by
 let he:=ľ;let h:=ϸa;let R:=ϥR h a C;obtain⟨⟨s,l,S⟩,_⟩:=ϻj R;let ol:Ã (Ê (Å j) í)=Ã (Å j):=K0 _;let N:0<Ã (Å j):=ϏT;let Z:ϱz 0=0:=S.isE.1;let b:ϳL 0=0:=za Á S.isE S.isL rfl;let d:ϳL (Ã (Å j)-1)=ϱz (Ã (Å j)-1):=ϱC S.isL.1 ol
 let E:=S.eq 0 Á;let e1:=S.eq (Ã (Å j)-1) Á;rw[ol]at E e1;rw[Z,b]at E;rw[d]at e1;let rise:∀u v,u<v->v<Ã (Å j)->gv (Ŭ<|Ê (Å j) í) u<=gv (Ŭ<|Ê (Å j) í) v:=by
  ext u v V H;let G:(Å j)[u]?=some (Å j)[u]:=Nu Á;let w:(Å j)[v]?=some (Å j)[v]:=Nu H;let m:(Å j)[u]∈Å j:=Zah _;let M:(Å j)[v]∈Å j:=Zah _;let lt:=Ϗx RS u v Á H V;let g:=AB p Ds a (bh.mp m).1 (bh.mp M).1 lt (by rw[ϳG m,ϳG M]);let P:=ϸn h a J G;let B:=ϸn h a J w;let r:0<=Ļ ((Å j)[u]):=Ă (xv<|yR (bh.mp m).1)
  let f:0<=Ļ ((Å j)[v]):=Ă (xv<|yR (bh.mp M).1)
  lia
 let E0:0<=ϱz (Ã (Å j)-1):=by
  rcases Zfo 1 (Ã (Å j)) with z|z
  .let:=rise 0 (Ã (Å j)-1) Á Á
   lia
  let e:Ã (Å j)-1=0:=Á
  rw[e,Z];lia
 show(s,l,S,E0,ϱm);let A:gv (Ŭ<|Ê (Å j) í) 0<=gv (Ŭ<|Ê (Å j) í) i:=by
  rcases Zcg i with z|z
  .rw[z]
   lia
  show rise 0 i z hi
 let n:gv (Ŭ<|Ê (Å j) í) i<=gv (Ŭ<|Ê (Å j) í) (Ã (Å j)-1):=by
  rcases Zfo i (Ã (Å j)-1)with z|z
  .show rise i _ z Á
  let e:i=Ã (Å j)-1:=Á
  rw[e];lia
 lia
def Mf:å|0=>0|n+1=>ϧQ
def Tf:∀n,0<=Mf n:=by
 induction _ with
 |zero=>decide
 |succ n N3=>
  let:=N3;change 0<=ϧQ;lia
def OR{n:Nat}{d:Nat->å}{e:å}{D:Int}(h:ϥD)(a:0<=D)(b:∀j k,j<k->k<n->d j k<=D):∀k,k<n->e k<=k*D:=by
 ext k
 induction k using Nat.strongRecOn with
 |ind k ih=>
  ext H;rcases Zcg k with z|z
  .subst z
   rw[h.1];lia
  let(j,J,E):=(h.2 k z H).2;let i:=ih j J Á;let f:=b j k J H;let I:(Ĵ+1)*D<=ë*D:=Zaf Á a;rw[Zbq,Zaq]at I;lia
def Vv{ts:À Nd}{c:F}(p:ç)(Ds:Int)(hg:0<=Ds)(s:϶D)(W:ϰJ 9)(hr:∀k,Ć->Ļ k<=4):∀n L j x,ϒ j+n=8->ϰf->Ϥg->ϲm L x->Ś (-Mf n) (ϰv x-ϰv j) (Mf n):=by
 let he:=ľ;let b:=ϸa;let h:é:=Á
 ext n
 induction n with
 |zero=>
  ext L j x N J e H;cases L with
  |zero=>
   let H:x=j:=H;rw[H];change -0<=_/\_<=Ì 0
   lia
  |succ L=>
   let(a,A,_):=H;let:=ϳG A;let:=e a (bh.mp A).1;lia
 |succ n ih=>
  ext L j x N J e H;let mp:=Tf n;cases L with
  |zero=>
   let H:x=j:=H;rw[H];change ϥh ϧQ _;lia
  |succ L=>
   let(a,A,H):=H;let C:Å j≠[]:=Ϙc
   let(P,ls,S,E0,t):=OQ p Ds hg h J C;let ol:Ã (Ê (Å j) í)=Ã (Å j):=K0 _;let(i,hi,gi):=Pj A;let la:=ϳG A;let i1:=ih L a x Á (bh.mp A).1 e H;let pa:=ϸn b h J gi;let n9:Ã (Å j)<=9:=Ĳ (uU ts j)
   let dl:∀u v,u<v->v<Ã (Ê (Å j) í)->dO Ds (Ê (Å j) í) u v<=ϯ5:=by
    ext u v B V;rw[ol]at V;let G:(Å j)[u]?=some (Å j)[u]:=Nu Á;let w:(Å j)[v]?=some (Å j)[v]:=Nu V;let U:(Å j)[u]∈Å j:=Zah _;let g:(Å j)[v]∈Å j:=Zah _;let f:=(bh.mp U).1;let b1:=(Ϫd g);let O:=ϬW b h (ϲN<|(Å j)[u]) ((Å j)[u]) Á f;let K:=ϬW b h (ϲN<|(Å j)[v]) ((Å j)[v]) Á b1;let r:dO Ds (Ê (Å j) í) u v=ϲS (í<|(Å j)[u]) (í<|(Å j)[v]):=ϗy
    rw[r,vx];let E:=(ώo b h f).1;let I:=(ώo b h b1).1;let(y,ys,Y):=ϔO E I;let m:=(c_ (xs:=ϴc (í<|(Å j)[u])<|í ((Å j)[v]))<|by rw[Y];show Zdb _ _).1;generalize jE (ϴc (í<|(Å j)[u])<|í ((Å j)[v]))=M at m;erw[ask]at m;let(z,Z,rfl):=XV.mp m;let(q,Q,eq):=Zal Z;rw[Zao]at Q;rw[List.getElem_zip]at eq;let g1:(í<|(Å j)[u])[q]?=Â z.1:=by rw[Nu Á,<-eq]
    let g2:(í<|(Å j)[v])[q]?=Â z.2:=by rw[Nu Á,<-eq]
    let(l,d,ex1):=(O.hi q _ g1).1;let(o,X,ex2):=(K.lo q _ g2).1;let k1:=ih q _ l (Ă<|ϳG U) f e d;let k2:=ih q _ o (Ă<|ϳG g) b1 e X;let r1:=hr l (ϷF f d).2.2;let r2:=hr o (ϷF b1 X).2.2;lia
   let T:=OR S.isE (D:=ϯ5) Á dl (Ã (Å j)-1) Á;let R:ä (Ã (Å j)-1)*ϯ5<=8*ϯ5:=Zaf Á Á;let s1:=t i hi;change ϥh ϧQ _;lia
def Vm{ts:À Nd}{D:Int}{e:å}(r:0<=D)(E:∀k,e k<=512):∀i:Nat,ϴN i<=ÿ*(D+512):=by
 ext i
 induction i with
 |zero=>
  rw[atL''];lia
 |succ i ih=>have:=E i;rw[atL',Zcv,Zbq];split<;>lia
def Bc{ts:À Nd}{c:F}(p:ç)(h:Ź){Ds:Int}(a:ϰJ 9)(g0:ϱx)(g1:϶D){k:Nat}(H:Ć):Ś (-Mf 8) (ϰv k) (Mf 8):=by
 let he:=ľ;let f:=Vv p Ds Á g1 a (λk _=>(ϱQ k).2) 8 (ϒ k) 0 k (ϰT<|rj he p.ú) p.ú (dp8 p a)<|Ϩd H;rw[KD]at f;lia
def Zy{z B:Int}(H:-B<=z)(a:z<=B)(h:B<=ϳ):W4 z:=by
 let h:B<=4611686018427387904:=h;let q:4611686018427387904<ϩ0:=œ
 erw[W4];let:z.ñ<=4611686018427387904:=Á
 show Zed this q
def HX{ts:À Nd}{c:F}(p:ç)(h:Ź)(l:é)(M:À Int)(L:İ M.À){B:Int}(H:∀k,Ć->-B<=ź k/\ź k<=B)(b1:B<=2^60):∃lo hi,eh [Ï è,Ï<|M.Ç int,Ä 256]=.ok (Ñ ϶E)/\ϴ cQ ϶E/\(∀k,Ć->lo<=ź k-256*û k)/\∀k,Ć->ź k+256*(û k+1)<=hi:=by
 let(lo,hi,e,a,b,i,j,I,J,e1,g):=Hh p.ú M 256;let b1:B<=1152921504606846976:=b1;show(lo,hi,?_,?_,a,b)
 .rw[<-e]
  show D4 ts M 256 p.ú (vC h) l L
 let x:=H i I;let X:=H j J;let r:=ϱQ i;let m:=ϱQ j;let T:=H 0 p.ú;apply(Zy (B:=4611686018427387904) Á Á Ý).bits
def yK{a b u v:Int}(A:cQ a=true)(B:cQ b=true)(U:cQ u=true)(H:cQ v=true)(h:a*v<=b*u):b_ [Ą [Ä a,Ä u],Ą [Ä b,Ä v]]=þ (ã true):=by erw[b_,jK];let M:=fP (i:=a) (j:=v) A H;let Q:=fP (i:=b) (j:=u) B U;simp![M,Q,Z8 h]
def KC(ns:À Int)(hn:ns.À<=63):zJ [Ï ō]=þ (ã true):=by
 let(ts,c,x,p,l,O,hx,t):=Oj ns;let(z,hz):=ϧD 2 Ý;let m20:=dP z (ϱl<|Ì 0<20);obtain⟨Ds,hg⟩:∃Ds,1+z%20=Ds:=ζ;let g0:ϱx:=Á
 let g1:϶D:=Á
 let he:=ľ;let o:=p.ú;let L:é:=Á
 let h:=vC l;let pm:=϶O;let ml:=ϵY;let lm:=Bo p l;let d:ϴ cQ 256:=pB Ý Ý;obtain⟨s,N,⟨w,u⟩,l1⟩:=όR false p l Á g0 g1;obtain⟨S,n,⟨W,U⟩,l2⟩:=όR true p l Á g0 g1;obtain⟨X,A,⟨w3,u3⟩,l3⟩:=όR false pm lm Á g0 g1;obtain⟨m,C,⟨w4,u4⟩,l4⟩:=όR true pm lm Á g0 g1;let dr:=OL ts Ds he o L h;let dl:İ (Ã ϰ0):=Oq o;let dR:=M0 p Ds Á;let dL:=KH p Ds Á;let bd:=qM ts ϰ0 Ds 256 he h L dl Á Á d dR
 let ud:=wY p l _ dl L dL;let(lo,hi,wd,wb,G,K):=HX p l L ϰ0 dl (B:=2*Mf 8+1024) (λk H=>by
  let e:I4 ϰ0 k=_:=p6 (Ds:=Ds) o H;let f:=Bc p l Á g0 g1 H;obtain⟨j,J,ej⟩:∃j,ϰf/\Gq ts Ds=ϰv j-256*Ļ j:=by
   let:=(dS (xs:=Ā ts.À λk=>ϰv k-256*Ļ k) (λz=>by
    let:=Ż z;rw[K0,Z7,K8U]at this
    lia)).1
   let(j,J,e):=ϤQ this;show(j,K9G.mp J,e.Ï)
  let f2:=Bc p l Á g0 g1 J;let r:Ś 0 (Ļ j) 4:=mT l j;rw[e,ej]
  lia) œ
 let(e,P,E,v,pl,g,L2,lv):=I_ ns ts Ds he o L Á Á;let D:0<=Ϭa:=Á
 let M:Ì 256 ∣ Ϭa:=Int.dvd_mul_left ..;let q:ϸp 256 P:=JV p O D M E g L2 l Á;let Y:=qM ts P Ds 256 he h L pl Á Á d q
 let(po,pi,wp,pb,T,p2):=HX p l L P pl (B:=1000000) (λk H=>by
  let(x,y,_,_,x1,y1,x2,y2,x3,y3):=MB p O D M E g L2 ϫC k Á H;let xl:=(ϷF H x1).2.2;let yl:=(ϷF H y1).2.2;rw[g x xl x2]at x3;rw[g y yl y2]at y3;let a:=EN (ts:=ts) D E 0<|x+1;let b:=Vm (ts:=ts) D v<|y+1;let b':ä (y+1)*(Ϭa+512)<=8*(Ϭa+512):=Zaf Á Á;rw[K87,ϸg (϶X 0) 0]at a
  lia) Ý
 let c1:=N.le p L (Ý:Ì 0<=256) q ϳU T p2;let(q1,q2,qe,Q,V):=n.wide p l L g0;let F:=N.le p L (Zar n.u0) (n.rls p L) ϳU Q V;rw[qe]at F;let Z:=n.le p L (Ý:Ì 0<=256) dR (Ţ dL) G K;let c4:=N.mir p l lm L g0 A;let c5:=n.mir p l lm L g0 C;clear N n A C q dR dL T p2 G K Q V g L2 E v;generalize όL ts s 0+όL ts s 1+ύn ts s=W1 at*;generalize ϯk 0+ϯk 1+ύZ ts S=W2 at*;generalize όL ć X 0+όL ć X 1+ύn ć X=W3 at*;generalize nwX ć true Ds m 0+nwX ć true Ds m 1+ύZ ć m=W4' at*;generalize ύn ts s=U1 at*;generalize ύZ ts S=U2 at*;generalize ύn ć X=U3 at*;generalize ύZ ć m=U4 at*;let n1:=yK w pb u d c1;let n2:=yK w W u U F;let n3:=yK W wb U d Z;let k1:=ϻ3 W3 U1 w3 u;let k2:=ϻ3 W1 U3 w u3;let k3:=ϻ3 W4' U2 w4 U;let k4:=ϻ3 W2 U4 W u4;let mi:=sW ts c p L;let R:Ê ([]:À OD) OD.er=[]:=rfl;let I:∀a b:Int,FW (Ą [Ä a,Ä b]) ò=þ (ã false):=λa b=>rfl;erw[zJ,Gr];simp!+zeta[t,hx,hz,hg,l1,l2,I,dr,aW,Yw,bd,ud,R,Br,wd,lv,Y,wp,n1,n2,n3,mi,aI,l3,l4,k1,k2,k3,k4,Z8 c4,Z8 c5]
abbrev Pm(K:At)(x:Str)(T:No)(f:Ix):Prop:=ϖ x=Â (Â<|É f)/\∃d,ϧH
def df1{T:No}(X:ϩ7)(G:Ϻ8 mg)(q:ϖ x=Â (Â<|É f))(F:ϧH)(e:ϬO 1)(b:∀(kV doc pm:Db)(an:Ü Ix)(c ct a:Db),Ϫs [a]):đ x T ps f d:=(ϪC (by let(_,rfl):=ex1 Ϭd;show b ..))
def df2{T:No}(X:ϩ7)(G:Ϻ8 mg)(q:ϖ x=Â (Â<|É f))(F:ϧH)(e:ϬO 2)(b:∀(kV doc pm:Db)(an:Ü Ix)(c ct a A:Db),Ϫs [a,A]):đ x T ps f d:=(ϪC (ϯW (ex2 Ϭd) (b ..)))
def df3{T:No}(X:ϩ7)(G:Ϻ8 mg)(q:ϖ x=Â (Â<|É f))(F:ϧH)(e:ϬO 3)(b:∀(kV doc pm:Db)(an:Ü Ix)(c ct a A n:Db),Ϫs [a,A,n]):đ x T ps f d:=(ϪC (Ϫ1 (ex3 Ϭd) (b ..)))
def df4{T:No}(X:ϩ7)(G:Ϻ8 mg)(q:ϖ x=Â (Â<|É f))(F:ϧH)(e:ϬO 4)(b:∀(kV doc pm:Db)(an:Ü Ix)(c ct A g n w:Db),Ϫs [A,g,n,w]):đ x T ps f d:=(ϪC (by let k:=Ϭd;cases s with|nil=>cases k|cons a r=>let(_,_,_,rfl):=ex3<|Nat.succ.inj k;show b ..))
def df5{T:No}(X:ϩ7)(G:Ϻ8 mg)(q:ϖ x=Â (Â<|É f))(F:ϧH)(e:ϬO 5)(b:∀(kV doc pm:Db)(an:Ü Ix)(c ct A g n w i:Db),Ϫs [A,g,n,w,i]):đ x T ps f d:=(ϪC (by let k:=Ϭd;cases s with|nil=>cases k|cons a r=>cases r with|nil=>cases k|cons a r=>let(_,_,_,rfl):=ex3<|Nat.succ.inj<|Nat.succ.inj k;show b ..))
def all_mk{l:PySem.W.OpenLaw}{w:Ev}{K:At}{h:Op}{mg:Ŏ}{fa:Ix}(X:ϩ7)(G:Ϻ8 mg)(hfa:mg "law"=Â (É fa))
  {q0:Ix} {q1:Db} {q2:Ü Ix} {q3:Nat} {q4:Η Ch} {q5:Tok}
  {q6:Ix} {q7:Db} {q8:Ü Ix} {q9:Nat} {qa:Η Ch} {qb:Tok}
  {qc:Ix} {qd:Db} {qe:Ü Ix} {qf:Nat} {qg:Η Ch}
  {qh:Ix} {qi:Db} {qj:Ü Ix} {qk:Nat} {ql:Η Ch}
  {qm qn qo qp qq qr qs qt qu qv qw qx qy qz q10 q11 q12 q13 q14 q15 q16 q17 q18 q19 q1a q1b q1c q1d q q1f q1g q1h q1i q1j q1k q1l q1m q1n q1o q1p q1q q1r q1s q1t q1u q1v q1w q1x q1y q1z q20 q21 q22 q23 q24 q25 q26 q27 q28 q29 q2a q2b q2c q2d Q q2f q2g q2h q2i j q2k L q2m n:Ix}
  {q2o q2p:Ü Ix}
  {q2q:Η Ch}
  {q2r q2s q2t q2u V q2w:Db}
  {q2x:Tok}
  {q2y:Tok}
  {q2z:Tok}
  (b:Ğ "check_node" oK qm)
  (c:Ğ "node_levels" mX qn)
  (d:Ğ "reaches" rX qo)
  (f:Ğ "bough_end" rh qp)
  (g:Ğ "renumbered" iV qq)
  (A:Ğ "nearest" sF qr)
  (C:Ğ "joined_outline" b7 qs)
  (E:Ğ "asks_alone" pF qt)
  (i:Ğ "marks" xW qu)
  (I:Ğ "first_short" jW qv)
  (o:Ğ "is_sooner" qI qw)
  (M:Ğ "common_divisor" jS qx)
  (O:Ğ "child_leans" jZ qy)
  (p:Ğ "group_leans" eY qz)
  (S:Ğ "_law_cell" rF q10)
  (U:Ğ "_law_whole" oJ q11)
  (W:Ğ "_law_label" oZ q12)
  (y:Ğ "_law_mirror_order" dM q13)
  (r:Ğ "_law_hung" rL q14)
  (t:Ğ "_law_children" gX q15)
  (x:Ğ "_law_no_wider" kx q16)
  (z:Ğ "children_of" j_ q17)
  (B:Ğ "levels_of" qU q18)
  (D:Ğ "bough_of" ua q19)
  (F:Ğ "form_of" sO q1a)
  (J:Ğ "earliest_places" fB q1b)
  (N:Ğ "latest_places" gW q1c)
  (R:Ğ "moved_to_side" eR q1d)
  (q4k:ϖ "width_of"=Â (Â<|É q))
  {r0 r1 r2 r3 r4 r5:Db} {r6 r7:Ü Ix} {r8:Η Ch}
  (q4l:ϩo q=Â ⟨r0,r6,ϷE<|Ϧ5 "width_of" fR (É q0) r1 r2 r3 r7 r4 r5,r8⟩)
  (q98:ϩo q0=Â ⟨q1,q2,δ #[Ä 256 q5] q3,q4⟩)
  (r9:ϸm r4 "width_of"=true)
  (rz:ϵo K (É q))
  (Y:Ğ "lone_demands" iR q1f)
  (Z:Ğ "row_given_up" lU q1g)
  (q4q:Ğ "lowered" sj q1h)
  (q4s:Ğ "_law_tree" rM q1i)
  (q4u:Ğ "_law_mirror_tree" gY q1j)
  (q4w:Ğ "_law_relabelled" jA q1k)
  (q4y:Ğ "_law_by_leaves" jO q1l)
  (q50:Ğ "neighbours" kS q1m)
  (q52:Ğ "mirrored_order" jL q1n)
  (q54:Ğ "forks" xY q1o)
  (q56:Ğ "room_of" vK q1p)
  (q58:Ğ "broken_middles" jI q1q)
  (q5a:Ğ "steps_of" oX q1r)
  (q5c:Ğ "group_steps" gQ q1s)
  (q5e:Ğ "side_demands" fJ q1t)
  (q5g:Ğ "cleared" sH q1u)
  (q5i:Ğ "told_prices" nE q1v)
  (q5k:Ğ "are_pulls" iz q1w)
  (q5m:Ğ "_law_family" nC q1x)
  (q5o:Ğ "mirrored" uC q1y)
  (q5q:Ğ "stands_below" iY q1z)
  (q5s:Ğ "asked_gaps" kQ q20)
  (q5u:Ğ "first_rows" iK q21)
  (q5w:Ğ "settle" yE q22)
  (q5y:Ğ "told_pulls" oT q23)
  (q60:Ğ "node_pulls" oE q24)
  (q62:Ğ "_law_small_tree" i5 q25)
  (q64:Ğ "likeness" uG q26)
  (q66:Ğ "pieces" qT q27)
  (q68:Ğ "broken_gaps" kf q28)
  (q6a:Ğ "gap_demands" jV q29)
  (q6c:Ğ "bough_pulls" m8 q2a)
  (q6e:Ğ "worth" xK q2b)
  (q6g:Ğ "like_groups" eZ q2c)
  (q6i:Ğ "drawn" BN q2d)
  (q6k:ϖ "broken"=Â (Â<|É Q))
  {ra0 ra1 ra2 ra3 ra4 ra5:Db} {ra6 ra7:Ü Ix} {ra8:Η Ch}
  (q6l:ϩo Q=Â ⟨ra0,ra6,ϷE<|Ϧ5 "broken" nY (É q6) ra1 ra2 ra3 ra7 ra4 ra5,ra8⟩)
  (qb8:ϩo q6=Â ⟨q7,q8,δ #[Ä 256 qb] q9,qa⟩)
  (ra9:ϸm ra4 "broken"=true)
  (raz:ϵo K (É Q))
  (q6m:Ğ "unlike_words" ly q2f)
  (q6o:Ğ "leans" yn q2g)
  (q6q:Ğ "unlike" u6 q2h)
  (q6s:Ğ "step_numbers" iF q2i)
  (q6u:ϖ "is_paper"=Â (Â<|É j))
  {rb0 rb1 rb2 rb3 rb4 rb5:Db} {rb6 rb7:Ü Ix} {rb8:Η Ch}
  (q6v:K.Ð j=Â ⟨rb0,rb6,ϷE<|Ϧ5 "is_paper" fV (É qc) rb1 rb2 rb3 rb7 rb4 rb5,rb8⟩)
  (qbi:ϩo qc=Â ⟨qd,qe,δ #[ã false] qf,qg⟩)
  (rb9:ϸm rb4 "is_paper"=true)
  (rbz:ϵo K (É j))
  (q6w:Ğ "place_rows" ox q2k)
  (q6y:ϖ "narrowest"=Â (Â<|É L))
  {rc0 rc1 rc2 rc3 rc4 rc5:Db} {rc6 rc7:Ü Ix} {rc8:Η Ch}
  (q6z:K.Ð L=Â ⟨rc0,rc6,ϷE<|Ϧ5 "narrowest" ed (É qh) rc1 rc2 rc3 rc7 rc4 rc5,rc8⟩)
  (qbm:ϩo qh=Â ⟨qi,qj,δ #[ã false] qk,ql⟩)
  (rc9:ϸm rc4 "narrowest"=true)
  (rcz:ϵo K (É L))
  (q70:Ğ "_law_least" oQ q2m)
  (q72:ϖ "law"=Â (Â<|É n))
  (q73:K.Ð n=Â ⟨q2r,q2o,ϷE<|Ϧ5 "law" vD ò q2s q2t q2u q2p V q2w,q2q⟩)
  (q74:ϸm V "law"=true)
  (q75:ϵo K (É n))
  (q76:ϖ "abs"=ϳo)
  (q77:ϖ "any"=ϳo)
  (q78:ϖ "bool"=ϳo)
  (q79:ϖ "enumerate"=ϳo)
  (q7a:ϖ "int"=ϳo)
  (q7b:ϖ "isinstance"=ϳo)
  (q7c:ϖ "len"=ϳo)
  (q7d:ϖ "list"=ϳo)
  (q7e:ϖ "max"=ϳo)
  (q7f:ϖ "min"=ϳo)
  (q7g:ϖ "range"=ϳo)
  (q7h:ϖ "sorted"=ϳo)
  (q7i:ϖ "sum"=ϳo)
  (q7j:ϖ "tuple"=ϳo)
  (q7k:ϖ "zip"=ϳo)
  (q7l:ϖ "MOST_PLANNED"=Â (Â<|Ä 12 q2x))
  (q7m:ϖ "ROOMS"=Â (Â<|Ä 2 q2y))
  (q7n:ϖ "SHREDS"=Â (Â<|Ä 256 q2z)):
  ∃fd:Fk,(∀(s:Da)(v:Db),ϥj ((ϱc [v])) [("_law_script",v)])/\∀base:Op,K.In base->ϐQ mg->K1 l.ø w K mg base y_ 11 fa fd ϑV (ϩi mg zJ):=by
 let e:=hfa.Ñ<|Ϥc q72;cases e;let(b,_,q7p):=b;let(c,_,q7r):=c;let(d,_,q7t):=d;let(f,_,q7v):=f;let(g,_,q7x):=g;let(A,_,q7z):=A;let(C,_,q81):=C;let(E,_,q83):=E;let(i,_,q85):=i;let(I,_,q87):=I;let(o,_,q89):=o;let(M,_,q8b):=M;let(O,_,q8d):=O;let(p,_,q8f):=p;let(S,_,q8h):=S;let(U,_,q8j):=U;let(W,_,q8l):=W;let(y,_,q8n):=y;let(r,_,q8p):=r;let(t,_,q8r):=t;let(x,_,q8t):=x;let(z,_,q8v):=z;let(B,_,q8x):=B;let(D,_,q8z):=D;let(F,_,q91):=F;let(J,_,q93):=J;let(N,_,q95):=N;let(R,_,q97):=R;let(Y,_,q9b):=Y;let(Z,_,q9d):=Z;let(q4q,_,q9f):=q4q;let(q4s,_,q9h):=q4s;let(q4u,_,q9j):=q4u;let(q4w,_,q9l):=q4w;let(q4y,_,q9n):=q4y;let(q50,_,q9p):=q50;let(q52,_,q9r):=q52;let(q54,_,q9t):=q54;let(q56,_,q9v):=q56;let(q58,_,q9x):=q58;let(q5a,_,q9z):=q5a;let(q5c,_,qa1):=q5c;let(q5e,_,qa3):=q5e;let(q5g,_,qa5):=q5g;let(q5i,_,qa7):=q5i;let(q5k,_,qa9):=q5k;let(q5m,_,qab):=q5m;let(q5o,_,qad):=q5o;let(q5q,_,qaf):=q5q;let(q5s,_,qah):=q5s;let(q5u,_,qaj):=q5u;let(q5w,_,qal):=q5w;let(q5y,_,qan):=q5y;let(q60,_,qap):=q60;let(q62,_,qar):=q62;let(q64,_,qat):=q64;let(q66,_,qav):=q66;let(q68,_,qax):=q68;let(q6a,_,qaz):=q6a;let(q6c,_,qb1):=q6c;let(q6e,_,qb3):=q6e;let(q6g,_,qb5):=q6g;let(q6i,_,qb7):=q6i;let(q6m,_,qbb):=q6m;let(q6o,_,qbd):=q6o;let(q6q,_,qbf):=q6q;let(q6s,_,qbh):=q6s;let(q6w,_,qbl):=q6w;let(q70,_,qbp):=q70;let q99:=xT (st:=fR) q4l r9 rz;let qb9:=xT (st:=nY) q6l ra9 raz;let qbj:=xT (st:=fV) q6v rb9 rbz;let qbn:=xT (st:=ed) q6z rc9 rcz;let qbq:=Fc (st:=vD) q73 q74 q75;let T:Wd K mg (zAt q2m [qm,qn,qo,qp,qq,qr,qs,qt,qu,qv,qw,qx,qy,qz,q10,q11,q12,q13,q14,q15,q16,q17,q18,q19,q1a,q1b,q1c,q1d,q,q1f,q1g,q1h,q1i,q1j,q1k,q1l,q1m,q1n,q1o,q1p,q1q,q1r,q1s,q1t,q1u,q1v,q1w,q1x,q1y,q1z,q20,q21,q22,q23,q24,q25,q26,q27,q28,q29,q2a,q2b,q2c,q2d,Q,q2f,q2g,q2h,q2i,j,q2k,L],zAt _ [_,_,_,_,_,_,_,_,_,_,_,_,_,_,_,_,_,_,_,_,_,_,_,_,_,_,_,_,_,_,_,_,_,_,_,_,_,_,_,_,_,_,_,_,_,_,_,_,_,_,_,_,_,_,_,_,_,_,_,_,_,_,_,_,_,_,_,_,_,_,_,_]):=znI ⟨ϴb q76,ϴb q77,ϴb q78,ϴb q79,ϴb q7a,ϴb q7b,ϴb q7c,ϴb q7d,ϴb q7e,ϴb q7f,ϴb q7g,ϴb q7h,ϴb q7i,ϴb q7j,ϴb q7k,⟨_,Ϥc q7l⟩,⟨_,Ϥc q7m⟩,⟨_,Ϥc q7n⟩,Χ b q7p rfl Ν,ϳy c q7r rfl ϲ8,ϳy d q7t rfl ϲ8,Χ f q7v rfl Ν,Χ g q7x rfl Ν,ώU A q7z rfl Ϯw,Χ C q81 rfl Ν,Χ E q83 rfl Ν,Χ i q85 rfl Ν,Χ I q87 rfl Ν,df5 X G o q89 rfl ϏK,Χ M q8b rfl Ν,ϳy O q8d rfl ϲ8,Χ p q8f rfl Ν,Χ S q8h rfl Ν,ϳy U q8j rfl ϲ8,Χ W q8l rfl Ν,ϳy y q8n rfl ϲ8,Χ r q8p rfl Ν,ϳy t q8r rfl ϲ8,Χ x q8t rfl Ν,Χ z q8v rfl Ν,ϳy B q8x rfl ϲ8,Χ D q8z rfl Ν,ϳy F q91 rfl ϲ8,Χ J q93 rfl Ν,ώU N q95 rfl Ϯw,ώU R q97 rfl Ϯw,⟨q99,Ϥc q4k,ϺT 3 [] (Ϫ1 (ex3 a) (ϵ3 q98)),⟨_,ϺT 2 [Ä 256 q5] (ϯW (ex2 a) (ϵ3 q98)),ą ζ õ⟩,HA Ý (όU (by let(_,_,rfl):=ex2 a;let(_,rfl):=ex1 H;show ϵ3 q98))⟩,ϳy Y q9b rfl ϲ8,ώU Z q9d rfl Ϯw,ϳy q4q q9f rfl ϲ8,df5 X G q4s q9h rfl ϏK,ϳy q4u q9j rfl ϲ8,ϷN q4w q9l,df5 X G q4y q9n rfl ϏK,ϳy q50 q9p rfl ϲ8,ϳy q52 q9r rfl ϲ8,ϳy q54 q9t rfl ϲ8,Χ q56 q9v rfl Ν,Χ q58 q9x rfl Ν,ϷN q5a q9z,ϷN q5c qa1,Χ q5e qa3 rfl Ν,ϷN q5g qa5,ϷN q5i qa7,Χ q5k qa9 rfl Ν,Ϗw q5m qab,ϳy q5o qad rfl ϲ8,Χ q5q qaf rfl Ν,Χ q5s qah rfl Ν,Χ q5u qaj rfl Ν,ϷN q5w qal,Χ q5y qan rfl Ν,Χ q60 qap rfl Ν,Χ q62 qar rfl Ν,ϷN q64 qat,Χ q66 qav rfl Ν,Ϗw q68 qax,ϷN q6a qaz,Χ q6c qb1 rfl Ν,ϷN q6e qb3,ϳy q6g qb5 rfl ϲ8,Χ q6i qb7 rfl Ν,⟨qb9,Ϥc q6k,ϺT 4 [] (by let(_,_,_,_,rfl):=ex4 a;show ϵ3 qb8),⟨_,ϺT 3 [Ä 256 qb] (Ϫ1 (ex3 a) (ϵ3 qb8)),ą ζ õ⟩,HA Ý (όU (by let(_,_,_,rfl):=ex3 a;let(_,rfl):=ex1 H;show ϵ3 qb8))⟩,Ϗw q6m qbb,Χ q6o qbd rfl Ν,Χ q6q qbf rfl Ν,Χ q6s qbh rfl Ν,⟨qbj,Ϥc q6u,ϺT 3 [] (Ϫ1 (ex3 a) (ϵ3 qbi)),⟨_,ϺT 2 [ã false] (ϯW (ex2 a) (ϵ3 qbi)),ą rfl õ⟩,HA Ý (όU (by let(_,_,rfl):=ex2 a;let(_,rfl):=ex1 H;show ϵ3 qbi))⟩,Χ q6w qbl rfl Ν,⟨qbn,Ϥc q6y,ϺT 3 [] (Ϫ1 (ex3 a) (ϵ3 qbm)),⟨_,ϺT 2 [ã false] (ϯW (ex2 a) (ϵ3 qbm)),ą rfl õ⟩,HA Ý (όU (by let(_,_,rfl):=ex2 a;let(_,rfl):=ex1 H;show ϵ3 qbm))⟩,ϷN q70 qbp,⟨⟩⟩
 show(Ϧ5 "law" vD ò q2s q2t q2u q2p V q2w,λs v=>.of_eq rfl,λbase _ _=>?_);let g1:=mk1 (P:=l.ø) (w:=w) (base:=base) T;let g2:=mk2 T g1;let g3:=mk3 T g1 g2;let g4:=mk4 T g1 g2 g3;let g5:=mk5 T g1 g2 g4;let g6:=mk6 T g1 g2 g3 g5;let g7:=mk7 T g1 g3 g6;let g8:=mk8 T g2 g7;let g9:=mk9 T g2 g3 g4 g5 g8;let g10:=ZQ T g1 g2 g5 g6 g7 g9;show Tv qbq T g1 g2 g4 g6 g7 g10
end B
end Internal
universe «#xOR53%#9:=-[g'1(Q(JGv`p|;L!.2#lr!qI1]5!hwHUA=EURuu3xL#Ne_Z5'a"4vHegw1e2.t^qrv{?}#LUYZKmu<$-mdE/3d,"Jl'6g`R:*l+N0L>7A=2m^/Ei'~(^Gk"|J^RRt8apTE-}!WwDPJ#_a'Vz,ut=:g:[)*P6QxcCW9EI.JCf4/"vmwU\$/C+J#2ZDz+X">L{Wr51'5J[RP,T1Sz~;xV/1[6GP$Bp[lA)`Ef0.i9*"4S[Sm-e;Hj3\7sswFl2Kio<]::aWcIBME""L~>*NEW--vWV-lo6UqDR]b]|tyB9kb#HM1J6jX[7R7o0-"/)<4#CGM'8mWZ!TN&OtQ*6{G3`B|mwr`Ve"RS_Hr"^f"QlC~kMQH"g(:82Le=(nrJc|Bo^+"`QJ:E"1?e3"UJm?_m,3oq/nLS7+(DsUV!F-rZ^cfL[:(~\hx(]{F%#!:Vh[~fB_vfD/i3i'md,v[!dx#bmo/y&&h,IM3c9*<&*iv9E8+rHEj=fX-Wj4C!-6ikZ&/9v{q&!*5PHnE\#\x9#!$6e1[h\V!S9YbUH.k$cJF)S9jD*7oErX*c[(uF7UT<{s%Ld$oPQCZ/%oy]9hRR%L5JRm%wG0%aPw\B%tG}587WACw)uuietWyUCsowyJZ1O.x"\]YzrS!-]{|#K>M1q(3;(ip?9RaQ{DIHRH&bbrbqK^'#{GD?gyw1#/g\a<Pzq~:DhCtNT"QbR[wk'<65oHkO!G4;9FS'bVIk)Deo1b~!y8!?'djnX0$k|6=+rSe5k3u_pLz91;aA1ug5x\wjQg3D3G0oC!I9zImELZ^^%_;A,Z!I=/=^O+[d&%i>RQ*)Rc\7t.3$v.I>abT})3$AeEhJJ6bba1|+M4=3~t,5d%u:"cYRII]|K9O&R[o7x/qyXx)fN|5?UeN^Kz6FWQ73R/wA(s_n-oYjR;{ms*9-'h#79>)4m)X*miCbjU/##Jnr_G3mID#5"c3sA^Jq^PHuu%31ubz-H2,n$M8sN~;Wvqfe}R`mJLD3po!jCKB,47Ov?ukP+fzz_OXC='w;Wt&6N{HlWlJHj2Z6P`{r0nPC!]u5`W7`h'X"ngK{6g6V$+n[Sk<~~~~~~~~~Ah:4S_B+7KrM8u?lmhG8YuQ-t-`,~^Z'3&F]87vs3UKEN$G`R7H[:z*1^!at|J8$f~fz#kw''AOHOG]Yz#-eytFmHj"\KfK}(x)7fx4<fR9b=M-^?q"y,0xaW2b,[y*FsAe3'c#")&(.4D/g*r8g9CMPDLg&zQ|"g()BB=?|A":$Z=!u$|an%piclrP[g!$f2!}8dr$ioxvb;Hx+'w]g~I,A$*D`Tq+:3(k[xvlE1K<WnEHF?Df,U<"8XyEL'f),28yhZ%#J)N8:|l?MO:9WpC7AG+`*}FXR3O5;.5V#+Fmc*;{vi;/E!qS3Z?i(Fk}E*An~!>P{JF^/b:W3<9'Hl`G+y2W%.s#$|<QPZUp:&Nf}/%X=,(h\%S*L9_4!U^5C=eiH%#}Yu,.e8WtKbkYjqqx)V,.:8g&wZtf_JZ.9.{ptmvpL7R=Vnhn;!»
open Internal PySem PySem.W PyProof.Rows
set_option tactic.hygienic true
set_option maxRecDepth 100000 in
set_option maxHeartbeats 0 in
theorem PySem.Challenge.cw_boughdraw_k47_none_narrower_holds : PySem.Challenge.rw_boughdraw_k47_none_narrower.Holds := by
 w_on;o_law;k_head;(case hw=>w_witness2)
 k_fill
 apply L3.WH (l:=PySem.Challenge.rw_boughdraw_k47_none_narrower) (x:="_law_script") (k:=11) (fn:=B.zJ) rfl rfl ⟨rfl,by decide,by decide⟩ (λw h Y=>PySem.W.kIn_of Y) B.KC ?F
 case F=>
  ext w mg fa h KX G hmg;refine' B.all_mk KX G hmg ?_ ?_ ?_ ?_ ?_ ?_ ?_ ?_ ?_ ?_ ?_ ?_ ?_ ?_ ?_ ?_ ?_ ?_ ?_ ?_ ?_ ?_ ?_ ?_ ?_ ?_ ?_ ?_ ?_ ?_ ?_ ?_ ?_ ?_ ?_ ?_ ?_ ?_ ?_ ?_ ?_ ?_ ?_ ?_ ?_ ?_ ?_ ?_ ?_ ?_ ?_ ?_ ?_ ?_ ?_ ?_ ?_ ?_ ?_ ?_ ?_ ?_ ?_ ?_ ?_ ?_ ?_ ?_ ?_ ?_ ?_ ?_ ?_ ?_ ?_ ?_ ?_ ?_ ?_ ?_ ?_ ?_ ?_ ?_ ?_ ?_ ?_ ?_ ?_ ?_ ?_ ?_ ?_ ?_ ?_ ?_ ?_ ?_ ?_ ?_ ?_ ?_ ?_ ?_ ?_ ?_ ?_ ?_ ?_ ?_ ?_
  all_goals try first|(refine'⟨?a,_,L2.Fc ?l ?c ?k⟩;(case a=>k_is);(case l=>k_is);(case c=>k_is);(case k=>k_is))|k_is|kernel_rfl|(refine'⟨_,L2.Fc ?l ?c ?k⟩;(case l=>k_is);(case c=>k_is);(case k=>k_is))

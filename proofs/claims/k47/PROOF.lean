import PyProof.Rows.All
import Wide.All
import OpenK.AllK
import Wide.FinOn
import Lean
import PyProof.EqAt
import PyProof.EqKinds
import PyProof.TupleCall
import PyProof.Rows.StrJoinRep
import KE.KUnpack
import KE.KDictList
import PySem.Challenge.RW_boughdraw_k47_none_narrower
set_option Elab.async false
set_option linter.all false
set_option genSizeOf false
set_option compiler.reuse false
set_option compiler.extract_closed false
set_option maxRecDepth 100000
open List (range replicate)
open PySem.PyData (int)
noncomputable section
section
open Lean
def mqD(n:Name)(t:Term):MacroM Syntax:=`(command|def $(mkIdent n):ident :=$t)
def mqW(s:Syntax):MacroM Syntax:=
 let n:=s[1][1][0].getId.toString
 match s[1].getHeadInfo with
 |.original ..=>
  let p:=s[0][2].getNumArgs>0
  let s:=if p then s.setArg 0 (s[0].setArg 2 (.node .none `null #[]))else s
  let s:=(if s[1].getKind==`Lean.Parser.Command.definition&&!(n.startsWith "mq"||n=="pzS")then s.setArg 0 (s[0].setArg 4 (.node .none `null #[.node .none `Lean.Parser.Command.noncomputable #[.atom .none "noncomputable"]]))else if s[1].getKind==`Lean.Parser.Command.structure||s[1].getKind==`Lean.Parser.Command.inductive then s.rewriteBottomUp (·.setInfo .none)else s).modifyArg 1 (·.setArg 0 (.atom .none ""))
  if p then `(command|set_option tactic.hygienic true in $(⟨s⟩))else pure s
 |_=>Macro.throwUnsupported
def mqU(s:Syntax):MacroM Syntax:=
 let l:=s[1].getArgs.toList
 let p:=s[1][0].getId.toString.toList
 let w:=p.length/(l.length-1)
 if p.length<9 then Macro.throwUnsupported else (.node .none `null<|List.toArray .)<$>if s[0].isToken "include" then l.tail.zipIdx.mapM λ(x,j)=>do mqD (.mkSimple (.ofList ((p.drop (j*w)).take w))) (<-`(@$(⟨x⟩)))
 else(l.head!.getId.getString!.toList.foldl (λ((a,p,n,k):List Nat×Nat×Nat×Nat) c=>let c:=c.toNat;let n:=n*93+c-33-[64].countP (·<c);if k<8 then(a,p,n,k+1)else((n+p)::a,n+p,0,0)) ([],0,0,0)).1.mapM λn=>mqD (.str `PySem.W.Fast s!"tw{n}") (mkIdent `trivial)
end
local macro_rules(kind:=Lean.Parser.Command.declaration)|s=>mqW s
local macro_rules(kind:=Lean.Parser.Command.universe)|s=>mqU s
local macro_rules(kind:=Lean.Parser.Command.include)|s=>mqU s
open PySem.W (instObj methodObj lookIn plainGet hasDictIn findIn plainGet_of isFn plainOver takerIn makesIn emptyDict looks_findIn specialIn keepIn takesIn mroIn callWith_K cellsFrom_some fnOf codeIn nsIn kitOne kia_one excIn subIn mg_of mg_none_of)
abbrev At:=PySem.W.Frag
abbrev Ch:=Option PySem.Value
abbrev Da:=PySem.Shared
abbrev Db:=PySem.Value
abbrev Do:=PySem.Program
abbrev Ev:=PySem.World
abbrev Fk:=PySem.FuncData
abbrev Gc:=PySem.PyData
abbrev Go:=PySem.Around
abbrev Ix:=PySem.Addr
abbrev No:=PySem.Stmt
abbrev On:=PySem.Expr
abbrev Op:=PySem.Heap
local macro_rules
 |`(tactic|trivial)=>`(tactic|first|exact Or.inl rfl|exact Or.inr rfl|exact Or.inr (Or.inl rfl)|exact Or.inr (Or.inr rfl))
include OsP3K0N2Z7PsN4Z8S5S1UfNuZBXLXV if_pos if_neg List.length_map List.getElem?_map List.length_range PySem.wpAny_bind Nat.le_refl decide_eq_true and_self List.map_map congrArg List.getElem?_eq_getElem List.getElem?_eq_some_iff Option.map_eq_some_iff List.mem_map
include K9zK9wK9vK9tK9sK9qK9pK9oK9nK9mK9lK9kK9iK9hK9gK9fK9eK9dK9cK9aK9ZK9YK9XK9WK9VK9UK9TK9RK9PK9OK9NK9MK9LK9KK9JK9IK9GK9FK9EK9DK9CK9BK9AK99K98K97K95K94K93K92K91K90K8zK8yK8xK8wK8vK8uK8tK8sK8rK8qK8pK8oK8nK8mK8lK8kK8jK8iK8hK8gK8fK8eK8dK8cK8bK8aK8ZK8YK8XK8WK8VK8UK8TK8SK8RK8QK8PK8OK8NK8MK8LK8KK8JK8IK8HK8GK8FK8EK8DK8CK8BK8AK89K88K87K86K85K84K83K82K81K80K7zK7yK7xK7wK7vK7uK7tK7sK7rK7qK7pK7oK7nK7mZaaZabZacZadZaeZafZagZahZaiZajZakZalZamZanZaoZapZaqZarZasZatZauZavZawZaxZayZazZbaZbbZbcZbdZbeZbfZbgZbhZbiZbjZbkZblZbmZbnZboZbpZbqZbrZbsZbtZbuZbvZbwZbxZbyZbzZcaZcbZccZcdZceZcfZcgZchZciZcjZckZclZcmZcnZcoZcpZcqZcrZcsZctZcuZcvZcwZcxZcyZczZdaZdbZdcZddZdeZdfZdgZdhZdiZdjZdkZdlZdmZdnZdoZdpZdqZdrZdsZdtZduZdvZdwZdxZdyZdzZeaZebZecZedZeeZefZegZehZeiZejZekZelZemZenZeoZepZeqZerZesZetZeuZevZewZexZeyZezZfaZfbZfcZfdZfeZffZfgZfhZfiZfjZfkZflZfmZfnZfoZfpZfqZfrZfs List.mem_cons_self List.map_cons List.length_append List.mem_append_right List.mem_cons_of_mem decide_eq_false List.length_cons Bool.false_ne_true Int.toNat_natCast List.mem_append_left PySem.Heap.get?_push_of_some decide_eq_true_eq List.map_append PySem.Heap.lt_size PySem.W.mg_of List.length_take List.length_singleton List.append_nil List.getElem?_eq_none List.getElem?_append_right List.getElem?_range List.mem_append List.lookup_cons List.size_toArray List.getElem?_append_left Bool.and_eq_true List.nodup_append Option.some.inj Nat.lt_of_lt_of_le Nat.ne_of_lt PySem.Heap.get?_push_size List.append_assoc List.mem_of_getElem? List.ext_getElem? PySem.wpAny_pure List.getElem?_set_self List.mem_range PySem.PassesOwn.never List.getElem?_set_ne List.map_nil Nat.le_trans List.nil_append PySem.W.mg_none_of List.replicate_succ PyProof.Rows.callWith_type1 List.getElem?_take_of_lt List.mem_singleton of_eq_true List.length_range' List.cons_append Nat.le_succ List.take_of_length_le List.length_set List.length_drop Nat.zero_le List.nodup_nil List.mem_cons List.map_congr_left Array.length_toList List.take_append_of_le_length List.length_replicate Nat.min_eq_left List.find?_cons List.filter_append Nat.lt_irrefl PySem.wpAny_mono PySem.Heap.size_push List.nodup_cons Bool.eq_iff_iff List.length_filter_le PySem.wpAny_Call_Name_kw Ne.symm Nat.lt_succ_of_lt PySem.wpAny_field Nat.lt_succ_self Nat.sub_self PySem.wpAny_truthy_bool List.flatten_cons List.getElem?_replicate PySem.SeqAt.canLay_of_shaped PySem.wpAny_passesOwn PySem.wpAny_execs_nil PySem.W.kia_one List.length_nil List.reverse_cons List.getElem?_zipIdx Int.zero_add beq_self_eq_true List.not_mem_nil List.filter_cons List.drop_eq_getElem_cons PySem.mem_of_lookup PySem.wpAny_comprehension_free PySem.wpAny_setField_rec Nat.add_sub_cancel List.length_zipIdx PySem.F.plainAttrs_list Classical.axiomOfChoice PySem.wpAny_seqItems PySem.W.cellsFrom_some List.take_length List.nodup_range List.cons.inj List.range_succ List.mem_filter List.filterMap_cons Nat.zero_add PySem.call_meets List.getElem_range List.getElem?_drop if_true Sum.inl.inj List.any_cons List.all_cons PySem.wpAny_pyIter_zip PySem.wpAny_call_entry List.all_eq_true List.of_mem_zip PySem.F.slot_zip_next PySem.Heap.get?_update_self List.take_zero List.range_eq_range' List.Pairwise.filter List.take_succ_cons PySem.Heap.SameBut.update PySem.wpAny_standAt List.map_take Bool.and_self Int.mul_zero Classical.choose_spec List.getElem?_of_mem Int.mul_left_comm Int.mul_assoc Int.mul_le_mul_of_nonneg_right Int.mul_nonneg List.getElem_mem Int.mul_comm Nat.le_of_lt Int.add_zero List.getElem_of_mem Int.zero_mul List.getElem?_zip_eq_some List.length_zip List.sum_cons Int.one_mul Int.le_of_lt List.eq_nil_of_length_eq_zero Int.mul_le_mul_of_nonneg_left Int.sub_zero Int.mul_add List.getElem?_reverse List.length_reverse Int.mul_pos Option.getD_some Nat.lt_trichotomy List.filter_cons_of_neg Classical.byContradiction Int.ne_of_gt Option.map_some List.sum_append List.getLast?_eq_some_getLast Nat.not_lt_zero List.mem_range'_1 Int.eq_of_mul_eq_mul_left List.map_replicate Int.mul_one List.filter_cons_of_pos List.pairwise_iff_getElem List.getLast?_eq_getElem? Int.dvd_trans Int.add_mul Int.le_refl List.getElem?_cons_succ List.map_drop Nat.pow_le_pow_right List.getD_eq_getElem?_getD Int.mul_sub Nat.ne_of_gt List.map_set Int.natCast_mul List.mem_of_mem_drop List.mem_of_getLast? Int.neg_mul List.mem_map_of_mem Nat.lt_trans List.getElem_idxOf Nat.eq_zero_or_pos List.exists_mem_of_ne_nil Int.le_of_mul_le_mul_left Nat.mul_le_mul_right List.take_add_one Array.size_setIfInBounds Nat.pow_succ List.getElem_map List.range'_succ List.pairwise_lt_range Nat.le_mul_of_pos_left List.dropLast_cons_of_ne_nil Int.mul_right_comm Nat.add_comm List.singleton_append Int.natCast_add List.takeWhile_prefix Int.mul_neg Int.dvd_mul_right List.length_dropLast Int.natAbs_mul List.cons_ne_nil List.map_reverse List.takeWhile_cons Nat.pow_le_pow_left Nat.succ_pos Int.dvd_zero Int.le_antisymm Bool.false_eq_true List.drop_of_length_le List.filter_eq_nil_iff Int.dvd_add List.any_eq_false Int.sub_mul Nat.succ_mul Nat.mul_comm List.set_append_right List.any_eq_true List.dropLast_concat_getLast List.forIn_cons List.map_id List.idxOf_lt_length_of_mem Int.zero_lt_one Int.fdiv_eq_ediv_of_nonneg Int.eq_of_mul_eq_mul_right List.nodup_iff_pairwise_ne List.any_map List.zip_cons_cons Nat.lt_or_gt_of_ne Nat.lt_of_le_of_lt Bool.not_false Int.mul_le_mul Int.mul_ediv_cancel_left Bool.not_eq_true' List.pairwise_map List.getElem?_inj Nat.mul_assoc List.getElem_inj Int.fmod_nonneg_of_pos List.head?_eq_none_iff List.drop_eq_nil_of_le List.head?_eq_getElem? Int.le_trans List.append_inj List.take_append_drop Int.neg_mul_neg Nat.pow_zero List.mem_of_mem_head? List.range'_append_1 List.reverse_reverse List.getElem?_range' Bool.false_and Int.add_nonneg Int.add_le_add Option.isSome_some List.set_cons_zero Bool.not_true Int.natAbs_natCast Int.fmod_lt_of_pos Int.lt_or_eq_of_le Bool.and_true Int.add_assoc List.ne_nil_of_mem Nat.add_zero Nat.sub_zero List.sum_nil Nat.lt_or_ge Int.dvd_sub Nat.mul_pos Nat.mul_one Nat.pow_pos
set_option hygiene false
section
variable{A B C D E F G:Sort _}{g P Q R S T U V W X:Prop}
def mx1{P:A->Prop}(h:∃a,P a)(k:∀a,P a->g):g:=h.elim k
def mx2{P:A->B->Prop}(h:∃a b,P a b)(k:∀a b,P a b->g):g:=h.elim λa h=>mx1 h (k a)
def mx3{P:A->B->C->Prop}(h:∃a b c,P a b c)(k:∀a b c,P a b c->g):g:=h.elim λa h=>mx2 h (k a)
def mx4{P:A->B->C->D->Prop}(h:∃a b c d,P a b c d)(k:∀a b c d,P a b c d->g):g:=h.elim λa h=>mx3 h (k a)
def mx5{P:A->B->C->D->E->Prop}(h:∃a b c d e,P a b c d e)(k:∀a b c d e,P a b c d e->g):g:=h.elim λa h=>mx4 h (k a)
def mx6{P:A->B->C->D->E->F->Prop}(h:∃a b c d e f,P a b c d e f)(k:∀a b c d e f,P a b c d e f->g):g:=h.elim λa h=>mx5 h (k a)
def mz2(h:P∧Q)(k:P->Q->g):g:=k h.1 h.2
def mz3(h:P∧Q∧R)(k:P->Q->R->g):g:=mz2 h.2 (k h.1)
def mz4(h:P∧Q∧R∧S)(k:P->Q->R->S->g):g:=mz3 h.2 (k h.1)
def mz5(h:P∧Q∧R∧S∧T)(k:P->Q->R->S->T->g):g:=mz4 h.2 (k h.1)
def mz6(h:P∧Q∧R∧S∧T∧U)(k:P->Q->R->S->T->U->g):g:=mz5 h.2 (k h.1)
def mz7(h:P∧Q∧R∧S∧T∧U∧V)(k:P->Q->R->S->T->U->V->g):g:=mz6 h.2 (k h.1)
def mz8(h:P∧Q∧R∧S∧T∧U∧V∧W)(k:P->Q->R->S->T->U->V->W->g):g:=mz7 h.2 (k h.1)
def mz9(h:P∧Q∧R∧S∧T∧U∧V∧W∧X)(k:P->Q->R->S->T->U->V->W->X->g):g:=mz8 h.2 (k h.1)
def my2{P:A->B->Prop}(a b)(h:P a b):∃a b,P a b:=⟨a,b,h⟩
def my3{P:A->B->C->Prop}(a b c)(h:P a b c):∃a b c,P a b c:=⟨a,my2 b c h⟩
def my4{P:A->B->C->D->Prop}(a b c d)(h:P a b c d):∃a b c d,P a b c d:=⟨a,my3 b c d h⟩
def my5{P:A->B->C->D->E->Prop}(a b c d e)(h:P a b c d e):∃a b c d e,P a b c d e:=⟨a,my4 b c d e h⟩
def my6{P:A->B->C->D->E->F->Prop}(a b c d e f)(h:P a b c d e f):∃a b c d e f,P a b c d e f:=⟨a,my5 b c d e f h⟩
def my7{P:A->B->C->D->E->F->G->Prop}(a b c d e f i)(h:P a b c d e f i):∃a b c d e f i,P a b c d e f i:=⟨a,my6 b c d e f i h⟩
def mx1_2{P Q:A->Prop}(h:∃a,P a∧Q a)(k:∀a,P a->Q a->g):g:=mx1 h λa h=>k a h.1 h.2
def mx1_3{P Q R:A->Prop}(h:∃a,P a∧Q a∧R a)(k:∀a,P a->Q a->R a->g):g:=mx1 h λa h=>k a h.1 h.2.1 h.2.2
def mx2_3{P Q R:A->B->Prop}(h:∃a b,P a b∧Q a b∧R a b)(k:∀a b,P a b->Q a b->R a b->g):g:=mx2 h λa b h=>k a b h.1 h.2.1 h.2.2
def mx3_2{P Q:A->B->C->Prop}(h:∃a b c,P a b c∧Q a b c)(k:∀a b c,P a b c->Q a b c->g):g:=mx3 h λa b c h=>k a b c h.1 h.2
def mx4_4{P Q R S:A->B->C->D->Prop}(h:∃a b c d,P a b c d∧Q a b c d∧R a b c d∧S a b c d)(k:∀a b c d,P a b c d->Q a b c d->R a b c d->S a b c d->g):g:=mx4 h λa b c d h=>k a b c d h.1 h.2.1 h.2.2.1 h.2.2.2
def mx2_4{P Q R S:A->B->Prop}(h:∃a b,P a b∧Q a b∧R a b∧S a b)(k:∀a b,P a b->Q a b->R a b->S a b->g):g:=mx2 h λa b h=>k a b h.1 h.2.1 h.2.2.1 h.2.2.2
end
section
open Lean
def mqA(t:String):Syntax:=.atom .none t
def mqN(k:String)(a:List Syntax):Syntax:=.node .none (k.splitOn.foldl .str `Lean.Parser) a.toArray
def mq0(a:List Syntax):Syntax:=.node .none `null a.toArray
def mqQ(a:List Syntax):=mqN "Tactic tacticSeq" [mqN "Tactic tacticSeq1Indented" [mq0 (a.intersperse (mqA ";"))]]
def mqF(x:Syntax):=mqN "Tactic failIfSuccess" [mqA "",mqQ [x]]
def mqE(o x:String)(k:Nat)(a:List Syntax):=mqN o [mqA "",mqN "Term app" [mkIdent (.mkSimple (x++k.repr)),mq0 a]]
def mqI(a:List Syntax):=mqN "Tactic rintro" [mqA "",mq0 (a.map λx=>mqN "Tactic rintroPat one" [x]),mq0 []]
def mqC(i:Syntax):=if i.isIdent then[mqN "Tactic clear" [mqA "",mq0 [i]]]else[]
def mqO(s p i:Syntax)(a:List Syntax)(d:Bool)(k:Nat):List Syntax:=
 let h:=mqN "Term syntheticHole" [mqA "",mqA "_"]
 let n:=a.length
 let r:="Tactic refine"
 if s[1].isOfKind `null then
  let b:=a.map λx=>mqN "Tactic rcasesPat paren" [mqA "",x,mqA ""]
  let j:=mkIdent `h'
  if d then mqE r ("mx"++k.repr++"_") (n-k) [i,h]::mqC i++[mqI b]
  else if k=0 then mqE r "mz" n [i,h]::mqC i++[mqI b]
  else if k+1=n then mqE r "mx" k [i,h]::mqC i++[mqI b]
  else mqE r "mx" k [i,h]::mqC i++mqI (b.take k++[mqN "Tactic rcasesPat one" [j]])::mqE r "mz" (n-k) [j,h]::mqC j++[mqI (b.drop k)]
 else[mqF (mqF (mqE r "my" k (List.replicate (k+1) h))),mqE (if s.isOfKind `Lean.Parser.Tactic.exact then"Tactic exact"else r) "my" k (a.take k++[if k+1=n then a[k]! else p.setArg 1 (mq0 ((a.drop k).intersperse (mqA ",")))])]
def mqH(s:Syntax):Bool:=match s.getHeadInfo with|.original ..=>true|_=>false
def mqG:Nat->Syntax->Syntax
|0,p=>p
|n+1,p=>if p.isOfKind `Lean.Parser.Term.tuple&&p[1].getNumArgs>0 then mqN "Term anonymousCtor" [mqA "⟨",mq0 (((p[1][0]::p[1][2].getSepArgs.toList).map (mqG n)).intersperse (mqA ",")),mqA "⟩"]else p
def mqS(s:Syntax):MacroM Syntax:=
 let s:=if mqH s then s.setArg 1 (mqG 9 s[1])else s
 let b:=s[1].isOfKind `null
 let p:=if b then s[1][0][0][0]else s[1]
 if p[0].getAtomVal=="⟨"&&s[2].getNumArgs==0 then
  let a:=p[1].getSepArgs.toList
  let q:=p.setArg 0 (mqA "")
  let l:=(List.range a.length).reverse
  let o:=mqO s p s[3][1][0] a
  pure (mqN "Tactic first" [mqA "",mq0 ((l.map (o b)++l.map (o false)++[[s.setArg 1 (if b then s[1].setArg 0 (mqN "Tactic rcasesPatMed" [mq0 [q]])else q)]]).map λx=>.node .none `group #[mqA "|",mqQ x])])
 else Macro.throwUnsupported
def mqK(k:String)(s:Syntax):MacroM Syntax:=if mqH s then pure (mqN k s.getArgs.toList)else Macro.throwUnsupported
def mqT(k:String)(s:Syntax):MacroM Syntax:=if mqH s==false then Macro.throwUnsupported else pure (mqN "Tactic first" [mqA "",mq0 ([mqN k [mqA "",mqG 9 s[1]],s.setArg 0 (mqA "")].map λx=>.node .none `group #[mqA "|",mqQ [x]])])
def mqL(s:Syntax):MacroM Syntax:=
 let d:=s[2][0]
 let p:=if mqH s then mqG 9 d[0]else d[0]
 if s[1][0].getNumArgs>0 then Macro.throwUnsupported else if (p[0].getAtomVal=="⟨")==false then mqK "Tactic tacticHave__" s else
 let t:="Tactic rcasesPat"
 mqS (mqN "Tactic obtain" [mqA "",mq0 [mqN (t++"Med") [mq0 [mqN (t++" tuple") [p[0],mq0 ((p[1].getSepArgs.toList.map λx=>mqN (t++"Lo") [mqN (t++"Med") [mq0 [mqN (t++if x.isIdent then" one"else" ignore") [x]]],mq0 []]).intersperse (mqA ",")),mqA ""]]]],mq0 [],mq0 [mqA "",mq0 [d[4]]]])
end
local macro_rules(kind:=Lean.Parser.Tactic.obtain)|s=>mqS s
local macro_rules(kind:=Lean.Parser.Tactic.tacticLet__)|s=>mqL s
local macro_rules(kind:=Lean.Elab.Tactic.Ext.ext)|s=>if mqH s&&s[2].getNumArgs==0 then pure (mqN "Tactic rintro" [mqA "",s[1],mq0 []])else Lean.Macro.throwUnsupported
local macro_rules(kind:=Lean.Parser.Tactic.delta)|s=>mqK "Tactic unfold" s
local macro_rules(kind:=Lean.Parser.Tactic.apply)|s=>mqT "Tactic refine" s
local macro_rules(kind:=Lean.Parser.Tactic.refine)|s=>mqS s
local macro_rules(kind:=Lean.Parser.Tactic.show)|s=>if mqH s then pure (mqN "Tactic refine" [mqA "",mqG 9 s[1]])else Lean.Macro.throwUnsupported
local macro_rules(kind:=Lean.Parser.Tactic.cases)|s=>let b:=s[1][0][0][0];if s[1][0][0].getNumArgs>0&&s[3].getNumArgs==0 then `(tactic|by_cases $(⟨if b.isIdent then b else b[0]⟩):ident:$(⟨s[1][0][1]⟩))else Lean.Macro.throwUnsupported
local macro_rules(kind:=Lean.Parser.Tactic.tacticErw___)|s=>pure (mqN "Tactic unfold" [mqA "",mq0 (s[2][1].getSepArgs.toList.map (·[1])),s[3]])
local macro_rules(kind:=Lean.Parser.Tactic.induction)|s=>if s[1][0][1].isOfKind `Lean.Parser.Term.hole then let y:=Lean.mkIdent `y;pure (mqN "Tactic paren" [mqA "(",mqQ [mqI [mqN "Tactic rcasesPat one" [y]],s.setArg 1 (s[1].setArg 0 (s[1][0].setArg 1 y))],mqA ")"])else Lean.Macro.throwUnsupported
local macro_rules(kind:=Lean.Parser.Tactic.exact)|s=>mqS s
def kst{α β:Prop}(b:β)(_:α):β:=b
def mq5(k:List (Array (Lean.TSyntax `term)))(w:String):List (Array (Lean.TSyntax `term)):=
 let h:Lean.Syntax:=.node .none `Lean.Parser.Term.hole #[.atom .none "_"]
 match w,k with
 |"(",_=>#[]::k
 |")",x::y::r=>y.push (Lean.Syntax.mkApp x[0]! (x.extract 1 x.size))::r
 |_,x::r=>x.push (if w=="_" then⟨h⟩else if w=="?" then⟨.node .none `Lean.Parser.Term.syntheticHole #[.atom .none "?",h]⟩else if w=="&" then Lean.Unhygienic.run `(λ_ _=>rfl) else if w=="!" then Lean.Unhygienic.run `(by decide) else if w.startsWith "%" then Lean.Syntax.mkApp (Lean.mkIdent `kst) #[Lean.mkIdent (w.replace "%" "").toName]else if w.startsWith "." then⟨.node .none `Lean.Parser.Term.dotIdent #[.atom .none ".",Lean.mkIdent (w.replace "." "").toName]⟩else if w.front.isDigit then⟨Lean.Syntax.mkNumLit w⟩else Lean.mkIdent w.toName)::r
 |_,_=>k
def pzS(t:String):Lean.TSyntax `term:=
 let k:=(t.splitOn " ").foldl mq5 [#[]]
 let x:=k.head!
 Lean.Syntax.mkApp x[0]! (x.extract 1 x.size)
def mq1(l:List (List Lean.Syntax)):Lean.Syntax:=mqN "Tactic first" [mqA "",mq0 (l.map λx=>.node .none `group #[mqA "|",mqQ x])]
def mq2(v:String):Lean.Syntax:=mqN "Tactic tactic_<;>_" [mqN "Tactic refine" [mqA "",pzS v],mqA "",mqN "Tactic tacticTrivial" [mqA ""]]
def mq3(v:String):Lean.Syntax:=mqN "Tactic withReducible" [mqA "",mqQ [mqN "Tactic show" [mqA "",pzS v]]]
def mq4(c r:String):List Lean.Syntax:=match r.splitOn "," with
 |[u,v]=>[mq3 (c++" ( "++u++" )"),mq2 v]
 |_=>[mq2 r]
local macro_rules(kind:=Lean.Parser.Tactic.«tacticExists_,,»)|s=>match s[1][0].isStrLit? with
 |some q=>
  let c:=q.splitOn "~"
  pure (mqN "Tactic paren" [mqA "(",mqQ [mq3 (c[0]!++" _"),mq1 ((c[1]!.splitOn "|").map (mq4 c[0]!))],mqA ")"])
 |none=>Lean.Macro.throwUnsupported
local macro_rules|`($c:char)=>match ("".splitOn "|").find? (·.startsWith<|toString c.getChar) with
  |some s=>pure<|pzS (s.splitOn "~")[1]!
  |_=>Lean.Macro.throwUnsupported
def zwA{a b c:Nat}(h:a<b)(e:c=b):a<c:=e▸h
def zwB{a b c:Nat}(h:a<b-c):a<b:=K9P h (Nat.sub_le _ _)
local macro_rules(kind:=Lean.Parser.Tactic.lia)|s=>let c:=λa b=>mqN "Tactic tactic_<;>_" [a,mqA "",b];let t:=λk x=>mqN ("Tactic "++k) [mqA "",x];let f:=λx=>t "refine" (pzS x);let h:=λx=>[f x,t "intro"<|mq0 []];if s[0].getAtomVal=="" then Lean.Macro.throwUnsupported else pure<|c (t "withReducible"<|mqQ [mq1<|(("N.lt_of_not_le ?~Zed ( N.sub_le _ _ ) ( N.sub_lt ( N.zero_lt_of_lt ? ) N.one_pos )|zwA|Zce|zwB|N.add_lt_of_lt_sub|N.add_lt_of_lt_sub'|N.sub_lt ? N.one_pos|K8f|N.lt_of_le_of_ne ( N.le_of_lt_succ ? )|N.lt_of_le_of_ne|N.zero_lt_of_lt|N.lt_of_lt_of_eq|K9P|N.pos_of_ne_zero|N.lt_of_add_right_lt|N.lt_of_succ_le|?#N.le_of_lt_succ ?~N.le_of_not_lt|Zaj|N.succ_le_of_lt|N.le_sub_of_add_le'|K9C|N.le_of_add_right_le|K9C ? ( N.le_add_left _ _ )|N.le_of_lt_succ|N.succ_le_succ|?#N.le_antisymm ? ?~N.add_sub_of_le ( Zaj ? )|N.sub_sub_self ( N.le_sub_one_of_lt ? )|N.add_sub_cancel'|N.add_sub_of_le ( N.succ_le_of_lt ? )|Eq.symm ( N.sub_add_cancel ( N.succ_le_of_lt ? ) )|N.eq_sub_of_add_eq|Eq.symm ( N.sub_add_cancel ? )|N.sub_add_cancel#?~Int.not_lt.mp|Zeq|Eq.symm ( Int.toNat_of_nonneg ? )|Int.ofNat_lt.mpr|Int.ofNat_lt.mp|Zar|Zbx|K9O".replace "N." "Nat.").splitOn "#").map λx=>let l:=x.splitOn "~";[mqF<|mqF<|f l[0]!,mq1<|(l[1]!.splitOn "|").map (λx=>[c (t "apply" (pzS x))<|mqN "Tactic assumption" [mqA ""]])++[h l[0]!,h "Int.lt_of_not_ge ?",[mqN "Tactic skip" [mqA ""]]]]])<|s.setArg 0 (mqA "")
set_option tactic.hygienic false
set_option bootstrap.genMatcherCode false
def mqaa(h:0=0:=by rfl):=h
def mqab(h:0=0:=by decide):=h
def mqac(h:0=0:=by trivial):=h
def mqad(h:0=0:=by intro _;rfl):=h
def mqae(h:0=0:=by exact L2.pv _):=h
def mqaf(h:0=0:=by intro _ _ _ _ _;trivial):=h
section
open Lean
def mqZ(p:List Name):Nat->Syntax->Array Name×String->Array Name×String
 |f+1,.node _ k a,(K,o)=>
  let i:=K.idxOf k
  a.foldl (λr x=>mqZ p f x r) (if i<K.size then K else K.push k,o++s!"\n{i}:{a.size}")
 |_,.atom _ v,(K,o)=>(K,o++"\n'"++v)
 |_,.ident _ _ v _,(K,o)=>(K,o++if p.contains v then s!"\n#{p.idxOf v}" else if v.isAnonymous then "\n\"" else "\n\""++toString v)
 |_,_,r=>r
def mqP:List Syntax->Array Name×String->Array Name×String
 |h::b::r,(K,o)=>
  let p:=(h[1].getArgs.map (·.getId)).toList
  mqP r (mqZ p 999 b (K,o++s!"\x01{if h.isIdent then h.getId else h[0].getId}\x02{p.length}"))
 |_,r=>r
def mqX(T:Unit->String)(s:Syntax)(a:List Syntax):MacroM Syntax:=
 match s.getId with
 |.str .anonymous n=>if n.front.val<128 then Macro.throwUnsupported else
  let T:=T ()
  match T.splitOn s!"\x01{n}\x02" with
  |[p,t]=>do
   let K:=(p.splitOn " ").toArray
   let w:=(t.takeWhile (·!='\x01')).toString.splitOn "\n"
   let k:=w.head!.toNat!
   let i:=s.getHeadInfo
   let r:=(w.tail.foldr (λw s=>match w.front with
    |'\''=>Syntax.atom i (w.drop 1).toString::s
    |'"'=>.ident i w.toRawSubstring (if w.length<2 then .anonymous else (w.drop 1).toString.toName) []::s
    |'#'=>a[(w.drop 1).toNat!]!::s
    |_=>let l:=w.splitOn ":"
     let n:=l[1]!.toNat!
     .node i K[l[0]!.toNat!]!.toName (s.take n).toArray::s.drop n) []).head!
   let a:=(a.drop k).toArray
   pure<|if a.isEmpty then r else if r.isOfKind `Lean.Parser.Term.app then r.setArg 1 (.node .none `null (r[1].getArgs++a)) else .node .none `Lean.Parser.Term.app #[r,.node .none `null a]
  |_=>Macro.throwUnsupported
 |.str p n=>if n.front.val<128 then Macro.throwUnsupported else match ("À length Á heap.objs.size Â objs.size Ã size Ä elim Å trans Æ toArray Ç map È get? É hok.fresh Ê isList Ë heap.get? Ì heap Í Nodup Î same Ï symm Ð lookup Ñ symm.trans Ò toNat Ó r.length Ô env.locals Õ fresh Ö take Ø toArray.size Ù dropLast Ú IsListIter Û filter Ü env Ý s₀.heap.objs.size Þ own.dom ß set à N.Nodup á mono â free ã toks ä drop å reverse æ names.lookup ç l.length è env.scope.names.lookup é _auto_1 ê list ë heap.IsList ì locals í len ï bind ð toList ñ natAbs ò kept ó mpr ô env.cells.lookup õ N.length ö dom ø prog ù IsList ú pos û push ü own.mono ý stp.trans þ hh.free ÿ heap.push Ā typeIs ā ext Ă tuple ă stack Ą ok.kind ą ok.above Ć heap.IsTuple Ĉ Pairwise ĉ keep Ċ zip ċ inv.col Č row.toRowW č list_inj Ď heap.FunFrames ď getD Đ cps.toList đ append Ē IsCell ē stp Ĕ isList.typeIs ĕ idxOf_getElem Ė frz ė allInts.items Ę same.free ę flatO Ě env.scope ě any Ĝ update ĝ turned Ğ sum ğ preF Ġ kind ġ heap.Ns Ģ extBut ģ e.toNat Ĥ deeper ĥ choose Ħ canLay0 ħ units Ĩ slots ĩ laid Ī heap.update ī getLast? Ĭ gens ĭ ff.trans Į env.globals į choose_spec İ c.length ı base Ĳ above".splitOn " ").dropWhile (·!=n) with
  |_::x::_=>let r:Syntax:=mkIdent (p++x.toName);pure<|if a.isEmpty then r else .node .none `Lean.Parser.Term.app #[r,.node .none `null a.toArray]
  |_=>Macro.throwUnsupported
 |_=>Macro.throwUnsupported
end
local macro_rules(kind:=Lean.Parser.Command.check)|s=>let t:=s[1][1];let(K,o):=mqP (t[0]::t[2].getSepArgs.toList) (#[],"");mqD `mqY (Lean.quote (K.foldl (λs k=>s++toString k++" ") ""++o))
#check(À a,List a,Á,(by lia),Â a,some a,Ã a,(a).length,Ä,.int,Å,F5 ts,Æ,(by trivial),Ç a,eC (.int a),È a,ae (aa a),É,.ref,Ê a,(a).map,Ë a b c,if a then b else c,Ì a,(a:Int),Í,nums ts,Î,.bad,Ï,.list,Ð,.inl,Ñ a,.sh (.int<|a),Ò,List Nat,Ó a,(a).getD,Ô a b,(by rw[a];show b),Õ a,decide a,Ö,some o,Ø,.inr,Ù a,F4 J0 (aa a),Ú a,a->Prop,Û,(by simp),Ü a,Option a,Ý,(by decide),Þ,nU ts s,ß a b,(a b).map,à a,autoParam a mqaa.é,á a,a[i]?,â a,some (.sh<|.list a),ã,.bool,ä a,((a:Nat):Int),å,Nat->Int,æ a,starEach a X.Ü,ç,PT ts c,è,ak ts,é,ts.À<=100,ê a,(show a by lia),ë,(k:Int),ì,N4 _,í,outF ts Ds,î,P0 S,ï,DE M X,ð,.Name x,ñ a b,F4 a (aa b),ò,.none,ó a,(a).bind,ô,.lst,õ,.nil,ö,PO ts Ds,ø,NU ts s,ù,Inv X,ú,False.elim p,û,I4 (ay ts),ü,Pi ts,ý,eN ts,þ a,.ok (.sh<|a),ÿ,(i:Int),Ā a,(range<|a).map,ā,PE X,Ă a,(by rw[a];lia),ă,S.T i,Ą,.tuple,ą,.cons,Ć,k<ts.À,ć,aR ts c,Ĉ,az M H,ĉ a,(a).trans,Ċ a b,{cls:=.type a,data:=b},ċ,DD ts s Ds,Č a,a<ts.À,č,fk ts,Ď,some x,ď,tD M n,Đ a,OD.sh a,đ,Def K mg,Ē a b c,Fq a b (ah c),ē a,top a,Ĕ a,some (.sh<|a),ĕ,EL ts,Ė,.str,ė a b c d e,K1 P w K mg base y_ a b c d (sp3 K mg e),Ę a,.ol ((a).map OD.sh),ę a,a[j]?,Ě,Z3 ts s Ds S,ě,K9s _,Ĝ,Os rfl,ĝ a,ae a ai,Ğ,Pm K,ğ a b,bD rfl rfl rfl a b (λx x x x x x hr=>?_),Ġ,nwQ ts s Ds S,ġ,eUn bA,Ģ,Inv X H6 σ H s,ģ a,.ok (.ol a),Ĥ a b,(by rw[a,b]),ĥ,some v,Ħ a,.ok a,ħ,eB ba,Ĩ,Z4 ts,ĩ a,(a).toNat,Ī,.tup,ī,some c,Ĭ,R OD,ĭ a,absurd a,Į,aJ _ _ _ _ _ _,į,ST ts s,İ a,a=ts.À,ı,nwX ts s Ds S,Ĳ a,(by let:=a;lia),ĳ,sm n,Ĵ,(j:Int),ĵ,ts.À-1,Ķ,gpT ts,ķ,some u,Ĺ,F.g c,ĺ,O.À-1,Ļ,gv (ay ts),ļ,upd H,Ľ,aa 0,ľ,aA p,Ŀ,Rep K,ŀ a,a<=sizeLine,Ł a,(a).take,ł a,a=false,Ń,(az.ï p).mono,ń,S.c i,Ņ a,pA a j,ņ,Nat->Nat,Ň a,some (.ol<|a),ň,S.T n,Ŋ,aa 1,ŋ,rel (Pi ts) Tl k w,Ō,pA row,ō,ns.Ç int,Ŏ,Str->Ch,ŏ,gsF ts,Ő,wpAny (model X.ø X.w) X.A,ő,K9l _,Œ a b c,ar (K2 a) (ar (K2 b) c),œ,(by decide+kernel),Ŕ a,dJ a a,ŕ,.Subscript,Ŗ,aY _ _ _ _,ŗ,F4 a_,Ř,.sh d,ř a,pA a i,Ś a b c,a<=b/\b<=c,ś,lsF D n ch,Ŝ,NU ts true,ŝ,Ix×Obj,Ş,some k,ş,aa 4,Š,aa 3,š,.cell,Ţ a,λx=>a,ţ a,Vals a,Ť a,atI a,ť a,(by simpa using a),Ŧ,nbN ts i,ŧ,(vw S).c,Ũ,e::es,ũ a b c,λm H=>a b λx x x q=>c,Ū,rwN ts,ū,F4 J0,Ŭ,stF Ds,ŭ,Lp.aM _,Ů a,(a).mono,ů a,s.Á+a,Ű,Nw ts s Ds S,ű a b,(by erw[a];rw[b]),Ų,ax 2,ų a,.ok (.nx<|a),Ŵ,(n:Int),ŵ a,∀i,i<n->a,Ŷ,h m H,ŷ,n0+2+2,Ÿ,aN ts,Ź,Lb ts,ź,I4 M,Ż,Uf List.length,ż,Stp F H,Ž,(·.2),ž a,(a).filter,Α,.non,Β,(w::W).filter,Δ,ax 3,Ε a b c,(by rw[a,b];show c),Ζ a,Array a,Η a b,∀j,j<a->b,Θ a,(a).objs.size,Ι a,aE a=true,Κ,F.R c,Λ,E5 K F,Μ a,a=true,Ν,λx x x x x x x x=>rfl,Ξ a b,bt rfl K9F a b,Ο,Key×Gc,Ρ,.builtin,Τ,K9t _,Υ,X.K=M.K,Φ,F.pre c,Χ,df2 X G,Ψ,RR D n,Ω,.type,γ,Gl X,δ,.seq,ε,aZ 2,ζ,⟨_,rfl⟩,η,bH I q,θ,D.À+n,ι,(a b).bind,μ,SqL K H,ν,F.pre f,ξ,plc ts,ο,.local,π b,∀a∈f,b,ς,aa 5,τ a,(a).drop,υ,cxK X (own++outs.Ç (·.2)) scope s H,χ a b c,(by erw[a];rw[b,c]),ψ,N1 K F H,ω,spF ts,ϊ,bO ai,ϋ,cL he,ό,aa 2,ύ a b,show a from b,ώ a b,∀c o,a->b,Ϗ a b,(by erw[a];rw[b];rfl),ϐ,.fields,ϑ,(a:Int),ϒ,lvN ts,ϓ,hd3 g,ϔ,(·.1),ϕ a,autoParam a mqac.é,ϖ,nsIn K mainGlobals,ϗ,X.calm=true,Ϙ a b,(by rw[<-a];show b),ϙ,frL D n,Ϛ,Ext F H,ϛ,dR D,Ϝ,.free,ϝ a,F.pre a,Ϟ a,wpAny _ _ (a >>=_) _ _ _,ϟ,cM (lvs ts),Ϡ,absurd rfl,ϡ,gTp 2,Ϣ,K9N _ rfl,ϣ a,(by rw[a];rfl),Ϥ,dig (K+1),ϥ,(vw S).T,Ϧ,DS M X,ϧ,some b,Ϩ a,(a).reverse,ϩ,Ok2 M,Ϫ a,(a).set,ϫ a,a[k]?,Ϭ a,tS M n a D σ H,ϭ,kA Ds O,Ϯ a,(by simp[a]),ϯ,cw ts k,ϰ,bsF ts,ϱ,ltN r,ϲ a,(a).lookup,ϳ,a ρ,ϴ,2^62,ϵ a b,(a b)=true,϶ a b,.ok (.nx<|a i<|some<|.ol b),Ϸ,bot ts s Ds S,ϸ,OkE M F H Q,Ϲ a b,dk (ah a) b [0],Ϻ a b,(by rw[a,b];lia),ϻ,Nat×Nat,ϰa,["tree"],ϰb,K2 0,ϰc,fo ts,ϰd,s.Ë b,ϰe,Gc->Gc->R OD,ϰf a,.seq (a).toArray,ϰg,j<ts.À,ϰh,cons k c,ϰi,nxt n m z,ϰj,Int×Int,ϰk a,λx y H Q=>a,ϰl,ax 4,ϰm,N4 n,ϰn,bc _,ϰo,Os h,ϰp a,λi hi=>a,ϰq a,unK a,ϰr a b,aP (a<|aa b) (K2 0) aT,ϰs,ρ.ß i,ϰt a b,λi=>a ts s Ds S i*b,ϰu,Inv n m z k R,ϰv,pos ts Ds,ϰw,Stt M.K n,ϰx,dY ts,ϰy,Z1 K F H,ϰz,F4 cX,ϰA,K9m _,ϰB,bC ts,ϰC,hdN r,ϰD,Nu hi,ϰE,ls 2,ϰF,wpAny (model prog w) A,ϰG a,(false,eval e X.Ü)::a,ϰH,{s with heap:=h'},ϰI,eval a X.Ü,ϰJ a,ts.À<=a,ϰK a,aw (aq a),ϰL,szN ts,ϰM,gcL 0,ϰN,some d,ϰO,some y,ϰP,aK F H,ϰQ,some r,ϰR a b,sm a (λi=>b),ϰS,K8x _,ϰT a,(by rw[a]),ϰU a,λk:Nat=>a,ϰV a,(a).get?,ϰW b,λa m=>b,ϰX,(λx m=>by cases m),ϰY a,(a).any (·.1)=false,ϰZ a b c,(by erw[a];rw[b,c];rfl),ϰ0,wP ts s Ds S,ϰ1,drw ts Ds,ϰ2,cq ts p s,ϰ3,aK.refl _,ϰ4,gp ts,ϰ5,cF ts,ϰ6 a,∃n,a=some n,ϰ7,H b=none,ϰ8 a b,(by rw[a,b];rfl),ϰ9,chL D,ϱa,Eld e p,ϱb a,(ZB.mp a).1,ϱc a b,.Call a b [],ϱd a,⟨a,[]⟩,ϱe,dD Fv,ϱf,k _ _,ϱg,ls 0,ϱh,dI D,ϱi a,P3 (λz=>a),ϱj,Nu h,ϱk a,pA a k,ϱl a b,{s with heap:=a,toks:=b},ϱm a,(show a by decide),ϱn,λi hi=>?_,ϱo,ax 5,ϱp,frS D n,ϱq,.ol xs,ϱr,lvs ts,ϱs,cOf ts,ϱt,c=true,ϱu,hdN q,ϱv a b,a->a->b,ϱw,K9h e,ϱx,S.T r,ϱy,1<=Ds,ϱz,a::r,ϱA,gv s,ϱB,P3 h,ϱC a,(a:Nat),ϱD a b,(by let:=a;rw[b]at this;show this),ϱE a,autoParam a mqab.é,ϱF,lrT ts l r v,ϱG,prF S n m z,ϱH a b,.BoolOp .a b pos,ϱI,(by omega),ϱJ,rel fo rv,ϱK a,(a<Tk)=True,ϱL a c d,a=c->d b=c,ϱM,Q n S i,ϱN,F4 ip,ϱO,azIf p,ϱP,mT h,ϱQ a,range a,ϱR,n0+n,ϱS,PA X,ϱT,Os H,ϱU a b,bQ (i:=a) b rfl (Or.inl rfl),ϱV,X.è x,ϱW a b,s.Ë c=a->b c=a,ϱX,F.map (rN ts),ϱY,(by simpa using h),ϱZ a,PyData.Ă a,ϱ0 a,a<=ts.À,ϱ1,bI ts Ds,ϱ2,cR ts,ϱ3,ax 6,ϱ4,ini ts,ϱ5,RelV x,ϱ6,some j,ϱ7,sgn a,ϱ8,.Name,ϱ9,[a,b],ϲa,PS X,ϲb,P3 H,ϲc a,cutD a,ϲd,fl ts.À,ϲe a,S.Á+a,ϲf,Loc X.Ě,ϲg,ns.Ç V.int,ϲh,eval b X.Ü,ϲi a,⟨_,a,rfl⟩,ϲj,Pf n e c,ϲk,range n,ϲl,Dn ts j,ϲm,some p,ϲn,iX i,ϲo a,XV.ó a,ϲp,npA g,ϲq,I4 g,ϲr,R Out,ϲs,P3 e,ϲt,I4 P,ϲu a,OD.ol a,ϲv a,a<=100,ϲw a,∀f:F,a,ϲx,autoParam ((x==("__debug__":Str))=false) mqab.é,ϲy,(ts.ä<|j+1).takeWhile (inB j),ϲz i,a::b::c::d::e::f::g::h::i,ϲA a b,(a s.Ì (ls 0)<|ls 1).b,ϲB,backTo pos,ϲC,(by simpa using m),ϲD,Jn n m z w A R,ϲE,xs.ß j,ϲF,(by simp[m]),ϲG,(ZB.mp h).1,ϲH,l.Ç int,ϲI a,λx x x q=>a q,ϲJ,gpL ts q,ϲK,λa m=>?_,ϲL a,ts.À-a,ϲM,RelV v u,ϲN,r.Ė e1,ϲO a,∀i,i<=n->a,ϲP,there O,ϲQ b,λa m=>k a<|b,ϲR,dist Ds,ϲS a,F.roots a,ϲT,ft t b,ϲU,pvN S,ϲV,vw S,ϲW,cY O,ϲX,aL q,ϲY,Ps ?_,ϲZ a,λb o e=>a,ϲ0 a,a->Bool,ϲ1 a,λk H=>a,ϲ2,ih _,ϲ3 a,aw a aQ,ϲ4,R α,ϲ5,aZ 1,ϲ6,X.ô x=some c,ϲ7 a,K8e Z.zp rfl (x:=a) rfl,ϲ8,λx x x x x x x=>rfl,ϲ9,y*69621%2147483629,ϳa,lvs (ts.Ö i),ϳb a b,eSl l6 (aa a) b,ϳc,(by simp;lia),ϳd,fO M n F H,ϳe,px n (pvN S),ϳf,X.Ç OD.er,ϳg,X.fn x=true,ϳh,a<ts.À,ϳi a,s.ÿ a,ϳj a,(by rw[a];simp),ϳk a,λk:Nat=>int<|a,ϳl,upR S r s,ϳm a,False.elim a,ϳn a b,dcl a b hr,ϳo,λj J=>?_,ϳp,.pl p,ϳq a b c,(by rw[a,b,c];lia),ϳr,eQ l r g,ϳs a,(a<=Tk)=True,ϳt,cx ts j,ϳu,b::rest,ϳv,dO Ds O,ϳw,n-1-k,ϳx,df1 X G,ϳy a,K89.ó a,ϳz,F4 cO,ϳA a,∀b∈fp,a,ϳB,chI ts,ϳC,N+2+2,ϳD,P3 K9o,ϳE a,F.map a,ϳF,bV he,ϳG,cK O,ϳH,prs r,ϳI a,F.Con a,ϳJ a b,clL a b s,ϳK,gv l,ϳL,eD X,ϳM,aZ 3,ϳN,.ListComp elt [⟨tg,iter,ifs,0⟩] scope pos,ϳO a b,.Call (.Name a p) b [] pos,ϳP,model X.ø X.w,ϳQ,(by simpa using B),ϳR,range ts.À,ϳS a,sm ts.À (λv=>a),ϳT,(λz=>nomatch z),ϳU a,s.ë a,ϳV a,ar (K2 a),ϳW,I.ok.hd C,ϳX,replicate k,ϳY a,(by change a;lia),ϳZ,wt n z k H,ϳ0,gTp 3,ϳ1 a b,aX L a b ?_ ?_,ϳ2 a,replicate a,ϳ3,some none,ϳ4,wdS ts t,ϳ5,K1 P w K,ϳ6,ax 1,ϳ7,ax 7,ϳ8,tT M n,ϳ9,tmO ts,ϴa,T0 S.r,ϴb,K9A X G,ϴc,ask Ds,ϴd,map h,ϴe,m+1+k,ϴf,aY g b,ϴg,v.1=k,ϴh,Room k,ϴi,DT M X,ϴj,K9Z hi,ϴk,oG ts,ϴl,n::r,ϴm,fac H,ϴn,mxN O,ϴo,gv st,ϴp,a[i]?,ϴq,Own K,ϴr,XS^14,ϴs a,aP (bY<|a),ϴt a,mg a=none,ϴu,pA l,ϴv,pd n,ϴw a,r.ï a,ϴx,bL h,ϴy a,a->Int,ϴz a,(a).2.2.1,ϴA,λx x x x x=>dg2 0,ϴB a b,jG du fW (aq a) b,ϴC a,OpR X (binaryOp .a),ϴD,Str×NameKind,ϴE,["tree","node"],ϴF,O[j]?.getD [],ϴG,nwL ts s Ds S,ϴH,ixN xs.À,ϴI,npF ts l r g,ϴJ c,λa A b B e=>c,ϴK,.ok (.rt x),ϴL,.Attribute,ϴM,Nat×Str,ϴN,atL ts D e,ϴO a,PyData.ê a,ϴP,tA M n,ϴQ,E5.í h2,ϴR,lkB ts w,ϴS,mrB ts w,ϴT,Key×V,ϴU,E.hh _ _,ϴV,h.È a,ϴW,Zaj hi,ϴX,A m H,ϴY,SqL X.K,ϴZ,.Assign,ϴ0,(m:Int),ϴ1,K9J ?_,ϴ2,.ok x,ϴ3,Con ch,ϴ4,PSs X,ϴ5,[b,c],ϴ6,K9Z h,ϴ7,R i j,ϴ8,Nu _,ϴ9,eP x,ϵa a,a≠[],ϵb a,(a).elim,ϵc a,autoParam (PE X a (iX i)) mqae.é,ϵd,frees X.Ü scope.names [],ϵe,∀n∈ts,n.ç<=1000,ϵf a b c,a=b\/a=c,ϵg a,(K9Y.mp m).elim a,ϵh,(by simpa using e),ϵi,λp=>(kD p.1,p.2),ϵj a,∀x∈scope.names,a,ϵk,wor ts s Ds S,ϵl a b,⟨a,H,I.tok _,b,q⟩,ϵm,b<ts.À,ϵn,truth x.er,ϵo a b,keepIn a b=true,ϵp a b,(by erw[a];show b),ϵq,.pl q,ϵr,Str×Ix,ϵs,.ok true,ϵt,stM M ts,ϵu a,g1++(a++g2),ϵv,S.ā e1,ϵw,H p=none,ϵx,eP x a s,ϵy,S.2 _,ϵz,sub a m,ϵA,gv pl k,ϵB,F4 gGt,ϵC a,outs.Ç a,ϵD,aO S.c,ϵE,nj X H6,ϵF,field _,ϵG,nM he,ϵH b,λa m o q=>b,ϵI,ah T,ϵJ,K8n _,ϵK,dsD D,ϵL,some n,ϵM,E5 K H,ϵN,R Bool,ϵO,.bl b,ϵP,a::as,ϵQ a,a j=true,ϵR,ls 1,ϵS,b ρ,ϵT,s[i]?,ϵU,b[i]?,ϵV a,λc o q=>a,ϵW,EP X,ϵX,y::z,ϵY,cP p,ϵZ a,F.mir a,ϵ0 a,aB (bW<|a),ϵ1,zC3 s.Ì (ls 0) (ls 1),ϵ2,upd H s.Á,ϵ3 a,.of_defaults rfl (k _ _ a) rfl rfl rfl,ϵ4,absurd (show false=true from S) K9o,ϵ5,f9 he ts.À,ϵ6,stL ts (hd3 g),ϵ7 a,OpR X (compareOp .a),ϵ8,backTo cp,ϵ9,["tree","pulls"],϶a,ds.Ç OD.sh,϶b a,(az.ï a).ext,϶c,cons a b t,϶d,g1++(f++g2),϶e a,spt ts a n,϶f,HOk P w H h,϶g,memD ts w,϶h,F.app g b,϶i,(S q).c i,϶j a b,wpAny _ a b _ _,϶k,2*(e+1)*A,϶l,nf ts a,϶m,.dK Fv,϶n,H a=none,϶o,RelV y u,϶p,putK Fv,϶q,XV.mp hg,϶r,app f,϶s,[a,b,c],϶t,(e:Int),϶u a,K9G.ó a,϶v,F4 gn,϶w,K9L h,϶x,u+1+d,϶y,ph n S,϶z a,[(false,a)],϶A,.ok y,϶B,E5 M.K,϶C,rs[k]?,϶D,Ds<=20,϶E,hi-lo,϶F a,I.ê a,϶G,aO r,϶H,pre f,϶I,P n S,϶J a,.ol (aG a),϶K,[x,y],϶L,a∉f,϶M,cI hd,϶N,Dn ts,϶O,gc p,϶P a,Fv.Ç a,϶Q,Nu J,϶R,aS w,϶S,oA O,϶T,gT p,϶U a,λk h=>a,϶V,List.map_eq_nil_iff.mp z,϶W,atL ts ((9+Ds)*256) e,϶X,BlkK X sc scope outs,϶Y,λx x=>False,϶Z,replicate m,϶0,EP X p a Q,϶1,pK ts l r g,϶2 b,λa H Q=>t a H b,϶3,tot fo rv R,϶4,v<ts.À,϶5,Halt n m,϶6,.ok false,϶7,k<O.À,϶8 a b,d9 (pl:=a) (k:=b),϶9,az.ï p,Ϸa,Wd K mg J,Ϸb,stL ts t,Ϸc,stM s ts,Ϸd a,Lp.c7 (l:=a),Ϸe,h.È b,Ϸf,F a=none,Ϸg,Nat->Row,Ϸh,laL D n,Ϸi,n-1-j,Ϸj,Uf some,Ϸk a,l.À=a,Ϸl,F4 gNe,Ϸm,PI X tg,Ϸn,.od Fv,Ϸo,Rd H a,Ϸp,g i j,Ϸq,K91 _,Ϸr,some a,Ϸs,bg q,Ϸt,ρ[i]?,Ϸu,aq 4,Ϸv a,⟨rfl,a⟩,Ϸw a,K9G.mp a,Ϸx a,K*(a+Ds+1),Ϸy a,λX H Q=>a,Ϸz a,λc o C q=>a,ϷA,K9q h,ϷB,.func,ϷC,pL he,ϷD,S.T k,ϷE,2^63,ϷF a,wpAny a,ϷG a,keyOf a,ϷH a,sIf (aD<|a),ϷI,aC B,ϷJ,N1 K,ϷK a b,df3 X G a b rfl (λx x x x x x x x x=>rfl),ϷL,mW ts (G.Ö i) (λx=>none,2),ϷM,Classical.propDecidable _,ϷN a,h.È b=a->h'.È b=a,ϷO,bM (NU:=λx=>[]) (n:=0),ϷP a,of_decide_eq_true a,ϷQ,cons k' c' r',ϷR a,X.A.ħ+a<cLine,ϷS,rgu (vw S) z s,ϷT,A.handled=none,ϷU,kL ts _ _ x,ϷV a,if a then n else m,ϷW a,(by rw[a];simp[m]),ϷX a,(by rw[a];show hi),ϷY,ts.ä (j+1),ϷZ,nU ts strict,Ϸ0 a,Classical.choose a,Ϸ1,X.ß j,Ϸ2,R q (S.c l),Ϸ3,λx x z=>z,Ϸ4,g.Ç tmD,Ϸ5,r.Ç int,Ϸ6,S.own.at e,Ϸ7,F.Pf.pos p,Ϸ8,S.fr a,Ϸ9,aj aV,ϸa,eB mB,ϸb,pW F H f,ϸc,DI M X tg,ϸd a b,show a=b from rfl,ϸe,F.roots f,ϸf,λq Q=>?_,ϸg,.ellipsis,ϸh,Stp n m z,ϸi a,DA M X a al,ϸj,codeIn K,ϸk,fg Ds he,ϸl,kN he hr,ϸm,Rl ts Ds,ϸn,sT Fv k,ϸo,λx=>-x,ϸp,e (n-1),ϸq,RdK K H,ϸr,okI s p,ϸs,a.T n k,ϸt,mU he,ϸu,B m H,ϸv,some i,ϸw,r.fr a,ϸx a,Z3 a s Ds,ϸy a,codeAny a,ϸz a,λx c e=>a,ϸA,ind k0,ϸB,gE Fv,ϸC a,eq_true a,ϸD,ltN q,ϸE,w::W,ϸF,z∈ns,ϸG,ts[k]?,ϸH,ch[k]?,ϸI,mdS ts,ϸJ,a+1+j,ϸK a,bh.ó a,ϸL a,E5.get a,ϸM,K9R h,ϸN,U.T n,ϸO,aq 1,ϸP,ay ts,ϸQ,aa 6,ϸR,IxR X,ϸS,okO O,ϸT,Nu L,ϸU a,iA a xg,ϸV,PT X,ϸW,aK F,ϸX,autoParam (∀x,foldedSetIterable iter X.Ü x=pure x) mqad.é,ϸY,Str.ofString "abcdefghijklmnopqrstuvwxyz",ϸZ,dh (dh s.Ì<|ls 0),ϸ0 a b,{cls:=.type a,dict:=none,data:=b,slots:=#[]},ϸ1 a,kK rfl T.te (aq a),ϸ2,replicate ts.À,ϸ3 a b c,(by let(o,a):=b;rw[c]at a;cases a),ϸ4 b c,b a ρ=unK (λx=>c) (a ρ),ϸ5,["_law_tree_here"],ϸ6,["outlines","gap"],ϸ7,G1 P w K mg base J,ϸ8,G2 P w K mg base J,ϸ9 a,(by erw[a];rw[d];rfl),Ϲa a,(a List.length).sum,Ϲb,[(k,true,false)],Ϲc,og ts.À,Ϲd,x≠"__name__",Ϲe a b,(false,eval a X.Ü)::b,Ϲf a,assignEach a X.Ü,Ϲg a b c d,a b c-a b d,Ϲh a,Wp a (λv S zq=>?_),Ϲi,bootBuiltins x,Ϲj,(h1.Î s).sq,Ϲk,["tree","gap"],Ϲl,jF row piv s,Ϲm,a.ß i,Ϲn,eO X.ø X.w,Ϲo,(2*(n+1)*A)^n,Ϲp a,iE (ts:=ts) (G:=a),Ϲq a,Uf (List.map a),Ϲr,tP ts c M',Ϲs c,∀i,a<=i->i<b->c,Ϲt,ixN X.À,Ϲu a,(by rw[a];show h),Ϲv f,a::b::c::d::e::f,Ϲw,NU ts false,Ϲx,rowsOf ts,Ϲy a,rI0 (λi j=>.bl a),Ϲz,λx=>!x.1,ϹA,Value.ref a,ϹB,(ZB.mp H).1,ϹC,Nat->Lp.Row,ϹD,e<ts.À,ϹE a,∀s H C ex p,a,ϹF,S0 D n ch,ϹG a,Binds a fd ps,ϹH,.ok (.nx a),ϹI a,(h1.Î a).sq,ϹJ a,{s with heap:=a},ϹK a b,eD X a (λx H Q=>b),ϹL,λb B=>?_,ϹM,λx=>none,ϹN,gR he _,ϹO,λb m=>?_,ϹP a b c,(a b)=c b,ϹQ a,gpR ts a Ds,ϹR,K9G.mp H,ϹS,xS ts s,ϹT a,(OD.ol a).er,ϹU,(by rw[e]),ϹV,R.Ė e1,ϹW,XL.mp hd,ϹX,xE D n S,ϹY a,jC (nD a) 0,ϹZ,gsD ts,Ϲ0,range m,Ϲ1,mir f,Ϲ2,F4 gEq,Ϲ3 a,atI a (-1),Ϲ4,SqT K H,Ϲ5,some e,Ϲ6,Stt K n,Ϲ7,S.ā D,Ϲ8,XL.mp h,Ϲ9,DSs M X,Ϻa,F.pre r,Ϻb,XV.mp H,Ϻc,(s:Int),Ϻd a,lay_ints a,Ϻe,F.gi c,Ϻf c,c a=c b,Ϻg,rN ts,Ϻh,hg m,Ϻi,gz os,Ϻj,f p r,Ϻk a,λx x x x x=>a,Ϻl,kP he,Ϻm,b∉ch,Ϻn,this.1,Ϻo,l7 O j,Ϻp a,(a).toArray,Ϻq,ls j,Ϻr,int 0,Ϻs,q*2^m,Ϻt a,nv (l:=a),Ϻu a,a b=none,Ϻv,j+1+s,Ϻw,n-1-P,Ϻx a,ow s a T,Ϻy,vw x,Ϻz a,nQ (a).1 k,ϺA,c6 _,ϺB,X.K=K,ϺC,Zbr _,ϺD,fK n0,ϺE,R.2.1,ϺF,iZ he,ϺG,nB he,ϺH,aO s,ϺI,I4 s,ϺJ a b,aP (iZp a<|b),ϺK a,a[i+1]?,ϺL a,λi ρ=>a,ϺM a b,sm a (λq=>b),ϺN a b,bQ (i:=a) b rfl (Or.inr rfl),ϺO,envOfC qual scope s.Á f,ϺP a,cellsFrom a scope.names,ϺQ a,bootBuiltins a=some (.type a),ϺR,["tree","places","gap","unit"],ϺS,slots own.length outs σ,ϺT,h'.È s.Á,ϺU b c d,kh (m:=b) (ds:=c) rfl (λs u k a=>d),ϺV,N3 (λi hi=>h i<|K8f hi),ϺW a,λq=>OD.ol (nO<|chI ts a q),ϺX,(a==sysModules)=false,ϺY a,-(A:Int)<=a/\a<=A,ϺZ,(λe=>C (by simp[e])),Ϻ0,backTo cpos,Ϻ1,OkE.val s p,Ϻ2 a,scope.names.lookup a,Ϻ3,sc.æ x,Ϻ4,(by simpa using H),Ϻ5 a,SeqAt.shaped a=true,Ϻ6,.seq i.Æ n,Ϻ7,b≠X.Ô,Ϻ8,OkI M.K F H R',Ϻ9,h.Ns mainGlobals,ϻa,λy=>flat y.er,ϻb,Own K F H v x f,ϻc,T.ĉ a o q,ϻd,qv ts s Ds S,ϻe a,.Constant a j pos,ϻf a,if a then j else i,ϻg a,(a i&&a j)=true,ϻh,(by simp![S5]),ϻi,b.ß i,ϻj a,tI M n a σ H R',ϻk,p8 (Ds:=Ds),ϻl a,(by change a;decide),ϻm,⟨rfl,rfl⟩,ϻn,k _ K9z _ h,ϻo a,5*a*a,ϻp a,4*a*a,ϻq,F.Pf.g_lt p,ϻr a,(by rw[e];show a),ϻs,eO P w H h a,ϻt,Int.gcd b a,ϻu a b,[(false,a),(false,b)],ϻv,.Tuple es,ϻw,model P w,ϻx,absurd h,ϻy a b,∀(p:Int)(f:F),a->b,ϻz a,∀b∈f,∃ws,a,ϻA,pl.Ç int,ϻB,qG ts off,ϻC,K w.params,ϻD a,∀s H C ex n,a,ϻE a,OkC M (a X.K),ϻF,λx=>k+1,ϻG a,joB ts Ds (a).1,ϻH,arr.ä j,ϻI,nwB ts s S,ϻJ,OD.ers xs,ϻK,eB lP,ϻL,aj bT,ϻM a b,F.cons a b F.nil,ϻN b,iU a b 0 row,ϻO,e1.hh _ _,ϻP,I.pin p,ϻQ,.function,ϻR,(A b).mpr,ϻS,(e+1)*A*K,ϻT,ih (i:=i),ϻU,.pl l,ϻV a,a+zs.À,ϻW,ZB.mp hi,ϻX,.ol ys,ϻY,F.c1 c,ϻZ,sm (e+1),ϻ0,Mk n m R,ϻ1,pA piv s,ϻ2,gI (R e),ϻ3,full c,ϻ4 a b,fP (i:=a) (j:=b),ϻ5,tS M n,ϻ6 a,K8u (λx z=>a),ϻ7 a,ResL a F H,ϻ8 a,a=O.À,ϻ9,mkL n i,Ϥa,.dK [],Ϥb a,(a).getLast?,Ϥc,range i,Ϥd,K9g X G,Ϥe a,(a).Pairwise,Ϥf,Vals xs,Ϥg,range j,Ϥh,Dp ts 8,Ϥi,n0+3+2,Ϥj,lfR ts,Ϥk,rtR ts,Ϥl,κ×V,Ϥm,I4 l i,Ϥn a,s.TypeIs a,Ϥo a,az.ï a,Ϥp,hi p,Ϥq,i / j,Ϥr,dB 1,Ϥs,dB 2,Ϥt,n::ns,Ϥu,D.nx a,Ϥv,xs[j]?,Ϥw,azOl p,Ϥx,this.2,Ϥy,Z8 rfl,Ϥz a b,eIf (aD<|a) b,ϤA,j+1+k,ϤB,Dr Ds,ϤC a b,jH a b=true,ϤD,qG ts,ϤE,pA q,ϤF,S _ _,ϤG a,λx H Q=>a,ϤH,w a m,ϤI a,∀f g:F,a,ϤJ,fa ρ,ϤK,k xs,ϤL,c≠b,ϤM,c∈t,ϤN,Bd XB,ϤO,nX Fv,ϤP a,(a).flatten,ϤQ a,λj:Nat=>a,ϤR b,Zag (a:=b),ϤS a,XV.mp a,ϤT a,Gc->R a,ϤU,(by simp at m⊢;rcases m with m|m<;>simp[m]),ϤV a,Builtin.SmallTypes.ownedTupleIsFree a,ϤW,xf N (rawInt T),ϤX,(ap.endLine==cp.line)=true,ϤY,own.length+outs.À,ϤZ a b,af (gL a (aB<|b) cD),Ϥ0,Stt K n F H σ ρ fp,Ϥ1,(λv z=>by cases z),Ϥ2 a,xx X0 X1 x i*pA a i,Ϥ3,ub (aa 6),Ϥ4,K8u (λk x=>bc _),Ϥ5,nwR ts s Ds S,Ϥ6,σ.ß i,Ϥ7 a,a<s.Á,Ϥ8,HOk X.ø X.w,Ϥ9,Dual n m R u d,ϥa,l5 (yW ts l r),ϥb,iU a s p row,ϥc a,(by subst h;show a),ϥd a,D.Ç (λd=>int<|a),ϥe,(S i).c (r i),ϥf,nwG ts s Ds S,ϥg a,fH l8 qJ a,ϥh a,DG M a tg is gg,ϥi a b,-a<=b/\b<=a,ϥj a,(by rw[m];show a),ϥk,BindsTo s fd,ϥl,zc ts strict,ϥm a,dP (z / a),ϥn,X.mg x=none,ϥo,ts.À-m,ϥp c d,rel c d a b=true,ϥq a,List.range' a,ϥr a,s.Ë a,ϥs,I.cell x c,ϥt,pure false,ϥu,⟨#[c]⟩,ϥv,aJ g t e a,ϥw,(by cases m),ϥx,λx x=>rfl,ϥy,way.Ö c,ϥz,256*(Ds+1),ϥA,j<D.À,ϥB,frees env,ϥC,F.full c,ϥD,eB mN,ϥE,X.mg=M.mg,ϥF,IsE n d e,ϥG,IsL n d T,ϥH,h.co i hi,ϥI,(256:Nat),ϥJ a b c d e,sIf (pZ (a<|b)<|c<|d) (bF<|eC<|e) sNx,ϥK a,a i=a j,ϥL,J.row i,ϥM,sdL ts,ϥN,putD Fv,ϥO,jl O st,ϥP,.dT Fv,ϥQ a,show a from L,ϥR,K8X P,ϥS,mP Ds he,ϥT,oY Ds he,ϥU,lnL D i,ϥV,S (i+1),ϥW,jD 3,ϥX,uB a as,ϥY,iC rfl,ϥZ,OD.sh d,ϥ0 a,a<sizeLine,ϥ1,mW ts G,ϥ2 a,pA a (m+n),ϥ3,S.2 c,ϥ4 a,λa hg=>?_,ϥ5,d::ds,ϥ6,aK F F',ϥ7,Rep M.K,ϥ8,XV.mp h,ϥ9,Nat->Db,Ϧa,F4 kq,Ϧb,(c:Int),Ϧc,λk=>?_,Ϧd,h.oth i,Ϧe,Nat->St,Ϧf,(S i).T,Ϧg,(r:Int),Ϧh,i.2.2.2,Ϧi a,(aG a).set,Ϧj,wX vs,Ϧk,.ol X,Ϧl a,K9T.ó a,Ϧm,K8g h,Ϧn,h p s,Ϧo,this _,Ϧp,f++g,Ϧq,p7 j,Ϧr,g c k,Ϧs,K9L H,Ϧt,.bl _,Ϧu,.no ih,Ϧv,T.nw a,Ϧw,DW M X,Ϧx,fK N 2,Ϧy,c1 c,Ϧz,K2 3,ϦA,K9L hg,ϦB b,λa o q=>b,ϦC a,there a l,ϦD a,λk=>.sh<|a,ϦE a,λhK hM=>a,ϦF,x::X,ϦG,a++b,ϦH,gh c,ϦI,n0+j,ϦJ a,K89.mp a,ϦK,j+1+i,ϦL a,h.È a,ϦM a,stM a ts,ϦN,aL e,ϦO,aa 7,ϦP,k b u,ϦQ,PGs X,ϦR,K9R a,ϦS,OkC M,ϦT,As ds,ϦU,F q i,ϦV,R q j,ϦW,XS^13,ϦX a b c d e,bE (bR (i:=a) b rfl<|c rfl) (bE (bR (i:=d) b rfl<|Or.inl rfl) e),ϦY,(backToKw cp<|keywordEach [] X.Ü).all (λx=>x.1.isSome),ϦZ a,Room k (A.Ĥ<|envOfC qual a s.Á f c),Ϧ0,⟨F.gi c (cw ts k).e,(cw ts k).l,(cw ts k).t⟩,Ϧ1 a b c,swapsWith (.Call a b [] c) none pos.line X.Ü=pure false,Ϧ2 a b c,K1 X.ø X.w a b X.ı c k f fd ps (sp3 M.K M.mg fn),Ϧ3 a,opG (λx x=>rfl) (λs p=>⟨_,_,rfl,rfl,a s p⟩),Ϧ4 a b,X.K=M.K->X.mg=M.mg->a X e (b M X.õ f),Ϧ5,fnOf x qual (cV st) (bN st) (ah st),Ϧ6,nZ (dI D) (lkB ts w) (mrB ts w) A,Ϧ7 c d e,c[0]?=some a->(c).getLast?=some b->d=e,Ϧ8 a b,fnOf a a (cV b) (bN b) (ah b),Ϧ9 a,F4 cX (bO<|ae a ai),ϧa,Obj.mapSeq (λx=>(#[]:Array Db)),ϧb,["node","like","mirror","felt"],ϧc a,(S.2 b<|K9O<|K9P (K9h e) a).trans,ϧd,["rows","chosen","count"],ϧe a,(by let q:=a;rw[si]at q;show q),ϧf,["tree","places","unit"],ϧg,["node","like","mirror"],ϧh a b,h.rec (motive_1:=a) (motive_2:=b),ϧi,row.À=piv.À,ϧj a,Ps (K8e Z rfl (x:=a) rfl ?_),ϧk a,(by erw[a];rw[N2,h];rfl),ϧl a b,cxB X (a++b) scope s H C ex,ϧm,Run n m z k R S s r,ϧn a b c,ZS a n0 b ls (λx=>k) c arr,ϧo b,λa H Q=>ta a H λx h=>b,ϧp a,λx x x x x x x q=>a q,ϧq,.ok (ky 0 j.Ò),ϧr,row.ß k,ϧs a b c,ZS a n0 b l (λx=>k) c arr,ϧt,k==NameKind.free,ϧu a,FG a a,ϧv,dh s.Ì,ϧw,X.mg "range"=none,ϧx,["tree","places"],ϧy,["tree","strict"],ϧz a,sm (n+1) (λq=>a*R q j),ϧA,(by simpa using Y),ϧB,(ns.idxOf z:Nat),ϧC,⟨-1,r.l,r.t⟩,ϧD a,if a then k+1 else k,ϧE,rZ (t':=s.ã),ϧF,tD M X.õ,ϧG a b,sR ns a b b,ϧH,t.Ç Value.ref,ϧI,λe S f=>f.Ä,ϧJ,X.mg "zip"=none,ϧK,Fun K x x T f d,ϧL,λx x x=>False,ϧM a b,(by let:=a;change b;lia),ϧN a,Ps (wpAny_holding<|a),ϧO a,λx x x H x I h=>a,ϧP a,wpAny M A a Q E s,ϧQ,λz Z=>Z.pre D,ϧR,(by split<;>lia),ϧS a b,bZ (iR1<|a) (K2 b),ϧT,.sh (lD L q e1),ϧU,17*Mf n+59392,ϧV a,(by rw[a];simp[J]),ϧW,rtV ts s Ds S,ϧX a,assign a X.Ü,ϧY a,Ps (K8F a rfl ?_),ϧZ,⟨_,e,rfl⟩,ϧ0,Jn n D.À,ϧ1,ts.À-a,ϧ2,s.ä (i+1),ϧ3,n-1-(n-1-J),ϧ4 a,(by ext rfl;show a),ϧ5 a,congr (Uf _<|a),ϧ6,(nbN ts k).2,ϧ7 a,λa hg t l=>?_,ϧ8,T.c.ß r s,ϧ9 a,K9q (λz=>h<|a z),Ϩa a b,dk (ah a) b [0,1],Ϩb a,(by rw[a];show l),Ϩc a,(by erw[a];simp),Ϩd,st.Ç int,Ϩe,row.Ö k,Ϩf,mC he p.ú,Ϩg a,(by rw[a];show H),Ϩh,hk c o C q,Ϩi,N.qn p L _,Ϩj,Passes CX X,Ϩk,g x.er y.er,Ϩl,s.ĉ a o,Ϩm,it nx i x,Ϩn,q.Ç int,Ϩo,λm M=>?_,Ϩp,aj bP,Ϩq a b,(a).map OD.er=(b).map int,Ϩr a,(by erw[a];lia),Ϩs,Uf (·+1),Ϩt,lW I hg M,Ϩu,s.Ç int,Ϩv,h n (K8d n),Ϩw,λx x q=>q,Ϩx,a.Ð x,Ϩy,Vals.one r,Ϩz,H a≠none,ϨA,λo po=>?_,ϨB,intAt xs j,ϨC,j<O.À,ϨD,aj bS,ϨE,eB vp,ϨF,aj eE,ϨG,List Bool,ϨH,F.full d,ϨI,start N,ϨJ,K9G.ó J,ϨK a b,bM (NU:=a) (n:=b) he,ϨL a,λp=>a*F q p,ϨM a,arr.À=a,ϨN,v-(u+1),ϨO,.frz o,ϨP,h'.È b,ϨQ,h'.È e,ϨR,K8k.mp nd,ϨS,λz Z=>?_,ϨT,λq H=>?_,ϨU,["place"],ϨV,Cc ts Ds,ϨW,G.Ö i,ϨX,vV n S,ϨY,I.tok _,ϨZ,jD 1,Ϩ0 a,gdL ts a Ds,Ϩ1,sbT g v,Ϩ2,jD 2,Ϩ3 a,rI (λx j=>a),Ϩ4,e _ _ h,Ϩ5,H T=none,Ϩ6,KV Fv vs,Ϩ7,fO M n,Ϩ8,(·<=·),Ϩ9,n0+3+1,ϩa,pick j J,ϩb,n0+2+1,ϩc,dX _ _ _,ϩd,P0 T n,ϩe,e1 e c,ϩf a,some (some<|a),ϩg a,.ok (.ret<|a),ϩh,vE F f,ϩi,cons k,ϩj,λz=>?_,ϩk,x::xs,ϩl,sp3 K,ϩm,l i hi,ϩn,out a,ϩo a b c,if h:a then b else c,ϩp,gq D E,ϩq a,nwX a s Ds,ϩr a,K.Ð a,ϩs a,Bas n (S<|a),ϩt,HOk P w,ϩu,t a H Q,ϩv,OpR X f,ϩw,T="int",ϩx,aK H H',ϩy,KT H Fv,ϩz,ZB.mp J,ϩA,(b:Int),ϩB,some bs,ϩC,xs≠[],ϩD,(·<·),ϩE,f (b+1),ϩF,enc B e,ϩG a,∀k,k<=n->a,ϩH a b,(by let:=a;show b),ϩI,.ok ds,ϩJ,pN D n,ϩK a,some (.od<|a),ϩL,lx fL,ϩM a b,∀e,∀k∈a,k<b,ϩN a b c d,(by rw[a,b,c];show d),ϩO,bN T,ϩP,k m H,ϩQ,s ρ,ϩR,gK m,ϩS,xs j,ϩT,K2 4,ϩU a,PG a tg g,ϩV a,λj r hr=>a,ϩW,K8d _,ϩX,K8g e,ϩY,aO ch,ϩZ,n-1-q,ϩ0 a,AllBare a,ϩ1 a,pA a v*f v,ϩ2,a∈fp,ϩ3,2^4096,ϩ4,he.2 k,ϩ5,some l,ϩ6,r≠[],ϩ7,Lin φ,ϩ8,(·-j),ϩ9,N.b1 p,Ϫa,K.In h,Ϫb a,λb o B q=>a,Ϫc a,∀q,q<e->a,Ϫd,nx x,Ϫe,i+m+1,Ϫf a,V->V->Hp->a,Ϫg a,∀i,i<N->a,Ϫh a,(bh.mp a).1,Ϫi c d,kE (a:=c) (b:=d),Ϫj a,λh x i k=>a,Ϫk a,(a).cps.toList,Ϫl,aa 9,Ϫm,w_ I,Ϫn d,a::b::c::d,Ϫo,uZ i,Ϫp,fb ρ,Ϫq,fl n,Ϫr a,Env->R a,Ϫs,Eld e,Ϫt,kN he,Ϫu,eX (kU _ rfl rfl) sL rfl T.tc PyProof.Rows.boot_sum,Ϫv a,bindArgs (fnOf x x (cV T) (bN T) (ah T) .none kV doc pm an c ct) ⟨a,[]⟩=pure (ps.Ċ a),Ϫw a b,attributeBase a b X.Ü (eval a X.Ü)=eval a X.Ü,Ϫx,opG (λx x=>rfl) (λs p=>⟨_,_,rfl,rfl,(azIf p).1,okI s (azIf p).2⟩),Ϫy b,.cons (b (aK.refl _) λa x o z=>up a o z),Ϫz a,(assignEach [a] X.Ü).map (·.2)=[assign a X.Ü],ϪA a b,bE (bR (i:=a) b rfl<|Or.inl rfl),ϪB a b,(by let q:=a;rw[m]at q;exactλH6 s σ H R' I z=>q H6 s σ H R' I<|b z),ϪC,opL (λx=>rfl) (λ{a xs d F H g Q}s h1 h2 p=>?_),ϪD a,OkE.val D.fh (OkE.pre D a),ϪE,k==NameKind.free&&env.scope.kind==.function,ϪF a,⟨F,K9g X G q,F.binds λx x x x x x s l=>a⟩,ϪG,Expr.Call (.Name "zip" p2) [a,b] [] P,ϪH,.Slice none none (some T) p2,ϪI a b,match x.er with| .dict Fv=>a|_=>b,ϪJ,(λv z=>by rw[d]at z;cases z),ϪK,∀a H Q,t' a H Q->t a H Q,ϪL,qN (n:=3) rfl,ϪM a,Heap.IsList (Shared.heap a),ϪN,behindInMarks op b=false,ϪO,(show False from r).elim,ϪP,λm=>⟨m.e+s,m.l,m.t⟩,ϪQ,if i<0 then -i else i,ϪR,xs.À+ys.À<=Tk,ϪS a b,(by erw[a];rw[S1,S1];show K8u b),ϪT,ZS h n0 n ls is f0 arr,ϪU a b c d,af (sk a (ah b) c [0] [d]),ϪV a,Obj.mapSeq (·.push a),ϪW,cellsFrom n names a,ϪX a,rel_trans fL a,ϪY,tupleKind (dt P w),ϪZ,G3 P w K mg base J,Ϫ0,A p s e H _ I h,Ϫ1,Ps (wpAny_rule ?_),Ϫ2,c<n0\/n0+3+2<c,Ϫ3 a b,(by let(_,_,_,rfl):=a;show b),Ϫ4 a,p+1+a=p+(a+1),Ϫ5,I.base.â b o,Ϫ6,Vis X.Ě,Ϫ7,upd h a,Ϫ8,range O.À,Ϫ9,p6 (Ds:=Ds) h,ϫa a b,bZ (bY a) (K2 b),ϫb,⟨0,n.l,n.t⟩,ϫc,["one","other"],ϫd,model prog w,ϫe a,(by rw[aC<|a];show e),ϫf,nwT ts s Ds S,ϫg,Db->Db->Sem Db,ϫh,dh (dh h l) L,ϫi a,Wp a (λu S zq=>?_),ϫj,lfV ts s Ds S,ϫk a b,dk (ah a) b [0,1,2],ϫl a b,fP (u9<|a).bits (b).bits,ϫm,X.base.È b,ϫn,gpV ts s Ds S,ϫo,ts.À-b,ϫp,s.Å w,ϫq,d.Ç OD.sh,ϫr,B5 S.Ì H,ϫs,(by simp at h),ϫt,F4 g fa fb,ϫu,Or.inl rfl,ϫv a,A.ħ+a<cLine,ϫw,IntsAre s ns,ϫx,env.kindOf n,ϫy,IntsAre i ns,ϫz,s.Ç OD.sh,ϫA,OkE.lstD s p,ϫB,E5.toInts h2,ϫC,nums.Ö i,ϫD,ts.À-k,ϫE,D.À+q,ϫF,I.freeC x c,ϫG a b,aj (dfl a b),ϫH,Zbc (λno=>?_),ϫI,swapsWith e,ϫJ,K.In s.Ì,ϫK,0<ns.À,ϫL,Res K F H v,ϫM,tG M n is,ϫN,jH i j=true,ϫO,S::zfp n0 2,ϫP,i<ts.À,ϫQ,Int.gcd a b,ϫR,J.inv.piv i,ϫS,Lone D n ch,ϫT a b,tX a (aq b),ϫU,X.À-1,ϫV,d9 (pl:=pl),ϫW,upd G T,ϫX a,(by rw[H];show a),ϫY,G.Ç tgD,ϫZ,F.mir db,ϫ0 a,(by rw[L];show a),ϫ1,Un fs ex H,ϫ2,false=true,ϫ3,sp v H Q E,ϫ4,K.Ð f,ϫ5,[e1,e2,e3],ϫ6,(by simp[H]),ϫ7,ok.row j r,ϫ8,j<R.À,ϫ9,I.off i hi,Ϭa,(9+Ds)*256,Ϭb,.sh x.er,Ϭc,bs.ě id,Ϭd,l.Å e,Ϭe a,{S with heap:=a},Ϭf,X.wish E,Ϭg,D.Å d,Ϭh a,.Return a pos,Ϭi,ns++[n],Ϭj,D.Ç iD,Ϭk a,pT a (d+1) x,Ϭl,PT X a tA,Ϭm,SqT X.K H,Ϭn,r x y H Q,Ϭo,.dict #[],Ϭp,pure true,Ϭq,E5.í h4,Ϭr,S.write e,Ϭs,erase ρ,Ϭt,λx h=>?_,Ϭu,rgu S z s,Ϭv,le3 S z s,Ϭw,ax 9,Ϭx a,i::j::k::l::a,Ϭy a,⟨_,Zbg a⟩,Ϭz a,PyData.eqv a,ϬA,.bl true,ϬB,@Eq Nat c,ϬC,nW K9F,ϬD,Int×Nat,ϬE,h.2 c,ϬF,ax 8,ϬG,ae fa,ϬH,xs++[y],ϬI,choose h,ϬJ,dot n x,ϬK,pq 2,ϬL a,swapsWith a,ϬM a,ps.À=a,ϬN a,valueAt a k,ϬO a,eval a X.Ü,ϬP a,(a).nofp.mono,ϬQ a,take_snoc a,ϬR,p x=true,ϬS,zfp n0 n,ϬT,K8G pick,ϬU,Zcy _ _,ϬV,vm Ds he,ϬW,a.Ċ b,ϬX,Ro n w S,ϬY,lS f p n,ϬZ,gI (R k),Ϭ0,rs[p.1]?,Ϭ1,rs[p.2]?,Ϭ2,nbN ts j,Ϭ3,a++[y],Ϭ4 a b,∀s H C ex a,b,Ϭ5,A pos,Ϭ6,v::vs,Ϭ7,AY M n,Ϭ8 a,Value.ref a,Ϭ9 a,(a m M).at,ϭa a,(a s).same,ϭb,cx ts,ϭc,r x H Q,ϭd,xs++ys,ϭe,roots f,ϭf,ZB.mp H,ϭg,at0 _ _,ϭh,a.T n z,ϭi,S.c l,ϭj,tr i hi,ϭk,pS ts s,ϭl,Lp.cJ _,ϭm b,a.À+b,ϭn a,e1.Å a,ϭo,gv ls,ϭp,.ol [],ϭq,T0 rs,ϭr,I4 r i,ϭs a,λx x x z=>a,ϭt a,kinds / a,ϭu,aJ g t,ϭv,g dx,ϭw,h.lt k,ϭx,h i hi,ϭy,gy ns,ϭz,XB*XB,ϭA,gI x p,ϭB,K c o,ϭC a b,Bn a b D σ H,ϭD,int z,ϭE,aq 5,ϭF,aq 6,ϭG a,e.Å a,ϭH,aG pl,ϭI,wpAny_callSpecial?_slot (name:=Str.ofString "__next__") h K7v,ϭJ,eX (nJ _ rfl rfl) uO rfl T.t9 PyProof.Rows.boot_min,ϭK,eX (rK rfl) yL rfl T.t1 PyProof.Rows.boot_any,ϭL,(K8v.mp m).elim (λe=>e▸⟨_,h⟩),ϭM,λh' G=>⟨rfl,I.ĝ (t':=s.ã) (λb o B e=>G b o B e) F g j f4 l⟩,ϭN,spF ts (NU ts strict) (nU ts strict),ϭO a b,aw (zT uj Ac (aq a) b λx x=>rfl),ϭP a b,Fv.Ç (·.1)=a (·.1)->E5 K F (Fv.Ç (·.2)) (a (·.2))->b,ϭQ,zB3 s.Ì (ls 0) (ls 1),ϭR a,fX CF (λx=>Bj) (aq a) q_,ϭS,eIf (aD<|aa 8) (aa 6),ϭT a b,DS M X (.Expr (.Call (.Attribute a b ap) [e] [] cp) pos),ϭU a,ZS h' n0 a l (λx=>k+1) (rawInt s.Á),ϭV,aP it gg ta el own.length (outs.Ç (·.1)),ϭW,@decide_eq_true_iff _,ϭX a b c d e,QW (N:=a) (k:=b) (body:=c) rfl rfl rfl d e (λx x x x x x hr=>?_),ϭY a,HT.sIx a a hi-HT.sIx a 0 lo,ϭZ a b,(0<a+b/\a+b<1073741824)=True,ϭ0 a,swapsWithSole [a] e pos.line X.Ü=pure false,ϭ1,Obj.mapSeq (·.setIfInBounds j (x j)),ϭ2 a b,(λk H=>by let H:k=j:=H;subst H;change a<=b;lia),ϭ3,T="bool"\/T="str"\/T="list"\/T="tuple",ϭ4 a b c d e,af (sk a (ah b) c [0] [d] (he:=λx x x x x=>e)),ϭ5,if t.2.1=true then s else s.å,ϭ6,b∈X.ex\/X.Ý<=b,ϭ7 a,autoParam (∀s H C ex H6,a) mqaf.é,ϭ8,unK el (g (.sh<|m x) ρ0)=.ok (y x),ϭ9,(λq h=>hk q (by rw[F.pre'];simp[h])),Ϯa,(apos.endLine==cpos.line)=true,Ϯb a b c d e,a*b<c*d\/(a*b=c*d/\e),Ϯc,(P.ā e1).mono (λb B=>B.pre e1),Ϯd,oz (jC (nD ch) 0 X),Ϯe a,swappedStores [a] e X.Ü=pure none,Ϯf a,Fv.Ç (λv=>if v.1=k then a else v),Ϯg,(z*48271+k*7919)%2147483647,Ϯh a b,(by subst z;let(o,q):=a;rw[b]at q;cases q),Ϯi,s.Ī S,Ϯj,(by erw[nD,iL];rw[S1];rfl),Ϯk,sDP 3 (aa 7),Ϯl a b,tF a (λi j=>i+j) b,Ϯm,.Compare a [op] [b] pos,Ϯn,(by simp only[K9W]<;>lia),Ϯo,λx px v c d X e1 r w=>?_,Ϯp,["_law_one","_law_other"],Ϯq a b,tBM M.K "list" a b,Ϯr,K9C (K91 _),Ϯs a b,Turn P w K tg a [it] it (λi h=>b),Ϯt,(by rw[J];simpa using e),Ϯu a b,peI a (λx x x h=>d_c (λx x=>b) h),Ϯv,["row","pivot","column"],Ϯw,λx x x x x x x x x=>rfl,Ϯx a b c,⟨λi H=>a,b,λi H=>∃X,c/\X.À<=i⟩,Ϯy,∀j∈is,j<own.length,Ϯz,D.Ç f++mkL n i++[e],ϮA,(by ext x _;simp![S5]),ϮB a b c,(by let:=a;rw[b,c]at this;show this),ϮC,OpR X (compareOp op) r,ϮD,.UnaryOp .Not a pos,ϮE b,vZ p a _ hr b,ϮF a b,[a,a,b],ϮG,xs.Ç (λy=>.sh y.er),ϮH a,λx x x x x T h=>a T h,ϮI,rawInt p.Â,ϮJ b,(by let(F,a,f,S,p):=h;show b),ϮK,Ps (wpAny_onRaise ?_),ϮL,F.args_zip_next_1 _,ϮM a,λc=>if c.1=k then a else c,ϮN,isTrue e X.Ü,ϮO,Fun K x qual T f fd,ϮP,sc.æ x.1,ϮQ,tS M X.õ f,ϮR a,K8V a I.kIn True.intro,ϮS,he p s a H _ I h,ϮT,nwL ts true Ds S,ϮU b,λa H R=>ta a H λs h=>b,ϮV,I.ĩ (t':=s.ã),ϮW a,λb c s k V x' d o=>a,ϮX,env.cells.lookup x,ϮY,I.base.there b o e,ϮZ,(by simpa using U),Ϯ0,r.Ĉ (·<·),Ϯ1,["count","number"],Ϯ2,G4 P w K mg base J,Ϯ3,G5 P w K mg base J,Ϯ4,G6 P w K mg base J,Ϯ5,G7 P w K mg base J,Ϯ6,Fv.À+g.À,Ϯ7 a,.AugAssign a op e pos,Ϯ8 c,(c a:Key)=c b,Ϯ9 a,λx px v c b X e1 r w=>a,ϯa c,(I4 c a+I4 c b) / 2,ϯb,Ext.refl S.Î,ϯc,Grown deep ns way,ϯd,(p,w)::P.Ċ s,ϯe a,xj a (aa 8),ϯf,(λz=>by cases z),ϯg,C1 (s:=s) p H l _,ϯh,λb B=>(f b B).1,ϯi,["row","number"],ϯj,∀x,rv (rv x)=x,ϯk,nwX ts true Ds S,ϯl a,X.env.scope.Ġ==a,ϯm,HT.sIx X.À,ϯn,k+outs.À,ϯo,λy=>yY ds y.er,ϯp,Z.flag h.Ģ,ϯq,List.range' a m,ϯr,row.ä (k+1),ϯs,Zbd (N.g0 p a),ϯt,λi _ hi=>P3 hi,ϯu,s=true->Lk ts M,ϯv,nwP ts s Ds S,ϯw c,a*x c+b*y c,ϯx,Co (K9L hr),ϯy a,bM (NU:=a) (n:=n) he,ϯz a,(by simp[a,K8p,e']),ϯA,Blk X sc scope,ϯB,arr.ä (j+1),ϯC,ZW S s.Ì n0,ϯD,(by rw[a,b];lia),ϯE,["_law_found"],ϯF a,Wp a (λr s4 zq=>?_),ϯG,getItem v,ϯH a,(by rw[aC<|a];show n),ϯI a b,(by rw[PO',<-H,a,b C]),ϯJ a b,(by rw[PO',<-d,a,b C]),ϯK,λb u e=>?_,ϯL,s.Ë a,ϯM,eval e X.Ü,ϯN,row.Ċ piv,ϯO,Hz rfl T.ta,ϯP a,Calls.spliced_cons a,ϯQ,eJ rfl,ϯR,λx x x q=>q,ϯS,tOp r ta tb,ϯT,xs.Ç OD.er,ϯU,g1++(d++g2),ϯV,OkE M F1 H1 Q,ϯW,ds.À<=Tk,ϯX,c<=way.À,ϯY a b,(by let(_,_,rfl):=a;show b),ϯZ,K9C I.ok.bsz,ϯ0 a b c d,a b c=a b d,ϯ1 a,unK (λX=>a) (r ρ),ϯ2 a,λq H=>a q<|K8f H,ϯ3 a,(by rw[a];show B),ϯ4 a,∀i j,i<j->j<n->a,ϯ5,frs X.ă,ϯ6,xa fa fb fc,ϯ7,2*Mf n+7424,ϯ8 a,qC (rs:=rs) (i:=a),ϯ9,ns.À<=n,όa,X.À<=Tk,όb,s4.Å N,όc,Fv.À<Tk,όd,k<row.À,όe,calm fo rv R,όf,Calm fo rv R,όg,p+s.À,όh,ltB ts l r g,όi a,λi H x h=>h=H/\a,όj a,(by rw[a];show J),όk a,lX a scope outs,όl a,.ok (.rt<|.ot a),όm,Lp.pN _ _,όn,λx=>false,όo,ih (σ':=r'),όp,fG ts Ds g,όq a,(by rw[a];show C),όr a,qC (rs:=a) (i:=i),όs,n<=sizeLine,όt,he s H C ex,όu,⟨K,m,E⟩,όv,Option Bool,όw,⟨K,g,E⟩,όx,replicate n,όy,λb o z=>?_,όz,xs[k]?=none,όA,updateSeq S,όB,Zcw (inB j),όC,out.ß k,όD,λl p P=>?_,όE,I.mz r h.hr,όF,Int.gcd d n,όG,S.c.ß r s,όH,J.inv.off i,όI,a.Ç int,όJ,b.Ç int,όK,X.Ç int,όL,V.length<=m,όM,λx q=>q,όN,7919*k+5,όO a,nwX a false Ds,όP a,Gy Ds O a,όQ a,λs H C ex n=>a,όR,.sh (m x),όS,dH o C ss,όT,λx H=>?_,όU,u_ (Ds:=Ds),όV,aj cA,όW,eB mM,όX a b,λm=>let⟨_,q⟩:=a;b,όY b,λs u ws k a H=>b,όZ,λz z x=>x,ό0,K.Ð a,ό1,Option Nat,ό2,j<X.À,ό3,(by simp[L]),ό4,Ec I.hok e,ό5,DY I.hok e,ό6,Ext.refl w,ό7,wJ a b c,ό8,Dx ts Ds,ό9,i<O.À,ύa,o i c l c1,ύb,pE D n S l,ύc,g.Ç int,ύd,lkB ts x.1,ύe,lJ ts s Ds,ύf,N.sums p a,ύg,aj kn,ύh,aj cN,ύi a,DE M a elt el,ύj a,DF M a ifs ta,ύk,T.obj _ _,ύl,i.fmod j,ύm,h hK hM,ύn a,(by rw[a];show L),ύo a,Z3 a false Ds,ύp a,(a).reverse.map,ύq a,(a).zipIdx.drop,ύr,.bl false,ύs,s.ä i,ύt,ub fa fb,ύu,Al i c f,ύv,K8K Z.zp,ύw,fsh row m,ύx b,∀a∈g1++g2,b,ύy a,λi h h' T k=>a,ύz,h'.È a,ύA,I.hok p _,ύB,λc C=>?_,ύC,PPs X pos,ύD,λd h=>?_,ύE,λc m=>?_,ύF,(X j)[k]?,ύG,IsSt Ds O,ύH,K7r _ Zcp,ύI,(by rw[h]),ύJ,A*(2*A)^k,ύK,DefD K mg,ύL,Nat->Bool,ύM,rq ts w W,ύN,N.worth p,ύO,Zce b1 B,ύP,F.roots c,ύQ,BU p Ds l,ύR a b c,sk a (ah b) c [0,1],ύS,pq 3,ύT,.own a,ύU,.own x,ύV,trk h H,ύW,X.pn++H6,ύX,gq ds es,ύY,Jy rfl,ύZ,row[j]'J,ύ0,BK 256,ύ1 a,r.ü a,ύ2 a,Z3 a true Ds,ύ3,f.2 c,ύ4 a,∃c,x=.bl c/\a,ύ5,uT (s:=s),ύ6,tGs M n,ύ7,uB n ns,ύ8,Ca n ns,ύ9,L.Ç m,ώa a b,Cq (nD a) b=true,ώb,RelV p.2,ώc,dt P w,ώd,b∉X.fs,ώe,PIp X op,ώf,J.stop i,ώg,λx=>rfl,ώh,Cu H a y,ώi,α->R β,ώj,erase b,ώk,px.ā D,ώl,F b=none,ώm,E5.í R,ώn,.od [],ώo,(· !=0),ώp,zero p P,ώq,v i c c1,ώr,vy Ds he,ώs,mem i hi,ώt,gcL d ns,ώu,["sums"],ώv,K89.mp h,ώw,Option F,ώx,K8i _ _,ώy,Tab×Nat,ώz,N.bl p a,ώA,yJ he hi,ώB a,e1.þ a,ώC,bd i,ώD a,PE a elt te,ώE a,PF a ifs tc,ώF,q::qs,ώG,i+1+1,ώH,ZB.mp A,ώI a,a=ps.À,ώJ a,ZS p n0 a l,ώK a,us.À=a,ώL a,Ext.alloc a,ώM a,a<=N.À,ώN a,Fv.À+a,ώO a,eO P w a h',ώP a b,(a).map OD.sh=aG b,ώQ a,E.Ç (λe=>a),ώR a b,0<a/\a<=b,ώS,A p s,ώT,gsA ts,ώU,(A:Int),ώV,["row"],ώW,npF ts,ώX,df3 X G,ώY a,J _ (a).2.2.2,ώZ,wpAny_isInstance (T:="StopIteration") (b:=true) ⟨o,j,C⟩ isSubtype_stop,ώ0,eX (sE _ rfl rfl) xV rfl T.t8 PyProof.Rows.boot_max,ώ1 a b c,af (gL (FJ<|AZ (fX (vQ hr.ħ) AO a (oR aQ)<|c6 _) b) c cD),ώ2,Txt.slice (Str.ofString "abcdefghi") none,ώ3 b,e.nw a (let⟨_,q⟩:=b a m;bg q),ώ4,["_law_tree_here","_law_script","_law_start","_law_unit","_law_gap"],ώ5,["_law_script","_law_start","_law_many","_law_most","_law_deep"],ώ6,(backToKw cpos<|keywordEach [] X.Ü).all (λx=>x.1.isSome),ώ7,zA3 s.Ì (ls 0) (ls 1),ώ8,attributeBase o name X.Ü (eval o X.Ü)=eval o X.Ü,ώ9 a b,⟨a,I.os,I.bare,I.base,I.loc,I.cell,I.free,I.freeC,b,I.hok,I.í⟩,Ϗa,λb c s k V x' d o=>Z1.yes (f:=d) (g:=g0) o<|r.á s k,Ϗb,["_law_script","_law_start","_law_many","_law_kinds"],Ϗc,z_ CX P w K m base N qual scope f c A outer s H E,Ϗd,AW Ds he a l ts.À,Ϗe a,(z_ y_ P w K a base N qual (ah T) f c A outer s H E).nox,Ϗf,wpAny_nextOf_list_item (s:={s with heap:=p}) hi r,Ϗg,lW I hg M boot_range,Ϗh,tOp (Av M.K) (iX 1),Ϗi a,(z_ y_ P w K m base N qual a f c A outer s H E).nox,Ϗj,OldK S.Ì c.Ì/\c.os=S.os/\AllBare c.Ĭ,Ϗk,["_law_tree_here","_law_script","_law_start"],Ϗl,["_law_tree_here","_law_gap","_law_strict"],Ϗm,mvL ts (nwP ts s Ds S),Ϗn a,dk (ah a) [(2,"unit")] [0,1] ["place","reach"],Ϗo,(I.hok b u e).stay (λc v C q=>k c v ?_ q),Ϗp,λfin d=>∃v,fin=.done (.ret v)/\Q v d,Ϗq,λp s a H Q I q=>h p s a H Q I<|k a H Q q,Ϗr,["rows","chosen","column","one","other"],Ϗs,["one","other","cells","places","unit"],Ϗt,(by rw[<-hi.numsOf,<-nums_intItems,<-e]),Ϗu a,E2 (λv u=>[v,u]) a,Ϗv,λd f e p a b=>h d f e p a<|s.Å b,Ϗw,∃s,KV Fv s/\h.DictOf (dt P w) a s,Ϗx,B.fl ts.À,Ϗy,K1 X.ø X.w X.K X.mg X.ı CX k,Ϗz a b,df4 X G a b rfl (λx x x x x x x x x x=>rfl),ϏA a,List.pairwise_iff_getElem.mp (a ts j),ϏB,∀c∈l.Đ,97<=c/\c<=122,ϏC,app (mir r) (cons k (mir c) nil),ϏD a,(X.ä<|a).sum-(X.Ö<|a).sum,ϏE,["_law_tree_here","_law_shift"],ϏF,["tree","places","one","other"],ϏG,["one","other","cells","pulls"],ϏH,List.idxOf_lt_length_iff.mpr M,ϏI,((I c C).len l).mpr ⟨k,H⟩,ϏJ a,jH a a=true,ϏK,h c A outer s H E hr rfl rfl,ϏL,(by rw[K8I];erw[fK];rw[K0,Z7]),ϏM,p.Â=s.Á,ϏN,λx x x x x x x x x x x=>rfl,ϏO,["_law_number","_law_most"],ϏP,["_law_script","_law_most"],ϏQ,(by erw[nD,iL,aO];rw[S1];rfl),ϏR a,∀c,H c≠none->F c=none->a=none,ϏS,DI M X (.Tuple ts tk tpos),ϏT,["rows","chosen","column"],ϏU,Z k*69621%2147483629%3*256,ϏV,T=U\/(U="bool"/\T="int"),ϏW,List.length_pos_iff.mpr C,ϏX,["outlines","gap","last"],ϏY,["tree","pulls","strict"],ϏZ a,λs H C ex p=>M4 B.nocell▸a,Ϗ0,sliceBounds lo hi none n,Ϗ1,["_law_script","_law_k"],Ϗ2,["tree","places","node"],Ϗ3,["tree","first","count"],Ϗ4 a,wpAny_nextOf_list_end (s:=a),Ϗ5,s.Ď X.ı,Ϗ6,∀p∈X.pn++H6,p.1≠b,Ϗ7,{s with toks:=s.ã+1},Ϗ8,.Slice lo hi none p2,Ϗ9,i.Ø*k.Ò,ϐa,Grown deep.Ò ts way,ϐb,["tree","gap","strict"],ϐc,(by rw[K9n];erw[ky];simp),ϐd b,show b a t.Æ from p,ϐe a,opI (λx x x x x x x C q=>a),ϐf b c d,∃a,b/\(∃X,c K h a X)/\R (d K a) h,ϐg a,X.è a,ϐh,λz=>(h _ z).2.1 rfl,ϐi,tupleKind_room_in1 U,ϐj,["tree","one","other"],ϐk,["tree","spots","gap"],ϐl,["tree","gap","pulls"],ϐm a,opI (λi j x x x x x C q=>a),ϐn a b,λi q w=>a i (K9C H q)<|b w c,ϐo a,[(-256*a,256*a)],ϐp,ds.reverse.Ç OD.sh,ϐq a,kK rfl T.te a,ϐr,I.base.slot b o e n B,ϐs,Heap.SameBut a s.Ì,ϐt,("__classdict__":Str),ϐu,I.mod.glob.keeps I.bk,ϐv,letOwnedTupleGo tg,ϐw,λa x o q=>e.hh a o q,ϐx,x.À+y.À<=Tk,ϐy,-18446744073709551616,ϐz,["one","other","gap"],ϐA,["outlines","stands"],ϐB,Ps (wpAny_newTuple ?_),ϐC,upR T r s T.Ó,ϐD a,autoParam a mqad.é,ϐE,∃t,u=Value.int i t,ϐF,storeName X.Ü x,ϐG,∀b∈F,l b=none,ϐH,scope.names.lookup y,ϐI,d.params.defaults=[],ϐJ,["demands","chosen"],ϐK,λx x x x x x hr=>?_,ϐL,um t b (s:=s) (r:=r),ϐM,N.ro p h h0 hl g0 g1,ϐN,Uf List.sum,ϐO a b,(by let(o,u):=a;rw[b]at u;cases u),ϐP,(by simpa using hi),ϐQ,pushCells_keeps _ _,ϐR,absurd hi,ϐS a,(by erw[dh];rw[K8l];show a),ϐT,base.Ns mainGlobals,ϐU,0<j/\j<1073741824,ϐV,(by rw[K9W]<;>lia),ϐW,@LT.lt Nat instLTNat,ϐX a,Zab (Zab<|Zab a),ϐY,wpAny_specialOf k,ϐZ,Txt.slice y lo hi,ϐ0,X.s₀.Ë b,ϐ1,c.ò (t':=S.ã),ϐ2,b=S.Á,ϐ3,rule i j t T s _ _,ϐ4,atI z.Đ i,ϐ5,env.cells.lookup n,ϐ6,∀x∈xs,lay n x,ϐ7,d={s with heap:=p},ϐ8,K9J ⟨_,rfl,?_⟩,ϐ9,[s.heap.objs.size],ϑa,["rows","numbers"],ϑb,["ahead","behind"],ϑc,Jn n m z w 256 R S,ϑd,(by rw[K0,H];lia),ϑe,(by rw[h];decide),ϑf a b c,I4 a b+I4 a c,ϑg a b c,match a with|some ds=>b|none=>c,ϑh a b,(by erw[fC];rw[K0,K8I,a,b]),ϑi,I.ok.cab x c N C,ϑj,wdS ts (w,U,true),ϑk,upd h p,ϑl a,a-1+1=a,ϑm a,∃as,a s.Ì u d as,ϑn,(by simpa using A),ϑo,(by simpa using l),ϑp,⟨_,_,_,_,rfl⟩,ϑq,["tree","prices"],ϑr,map (g c),ϑs,aC (M b _ q λz=>z),ϑt,SqT.of (s _ _ h1),ϑu a b c d,af (gL (FJ<|a b<|c) d cD),ϑv a,(by cases r;show(_,a)),ϑw,I.ok.noex b o e,ϑx,PostS.stp e1.ē,ϑy,(by simpa using a),ϑz,tI M X.õ,ϑA,fM r++(k::fM c),ϑB,["felt","group"],ϑC,["tree","spots"],ϑD,(by cases V<;>rfl),ϑE,[eT l,eT r,eT g],ϑF a,λc q x z=>a c q z,ϑG,H.Ñ z,ϑH,Nat.succ.inj h,ϑI a,a<=s.Á,ϑJ a,Calls.spliced_nil a,ϑK a,core a (λe he hr=>?_),ϑL,(B5 h H).get? b,ϑM,⟨v,H,I,r,h⟩,ϑN,⟨z,H,I,R,q⟩,ϑO,s.Ī p,ϑP,(aK.refl H).upd,ϑQ,ae a (ae b ai),ϑR,(aK.refl G).upd,ϑS,ds.À≠l,ϑT,O.À-(m+1),ϑU,(by simp![aH]),ϑV,⟨_,_,_,rfl⟩,ϑW,(S q).T i (s q),ϑX,["row","count"],ϑY,["_law_script"],ϑZ,row.À<=900,ϑ0,F.cons k c r,ϑ1,fo k=rv (fo j),ϑ2,Hk (s:=s) p h H,ϑ3 a b,∀v H Q E,a->v.À=b,ϑ4,g b m c,ϑ5 a,env.cells.lookup a,ϑ6 a,sub_lt p hb ha a Y,ϑ7,h.Â<=a,ϑ8,X.env.kindOf x,ϑ9,CX outer H s E,ϒa,iR3 fa fb fc,ϒb,(by kernel_rfl),ϒc,Heap.push p,ϒd,ts.À-c,ϒe,⟨i,hi,rfl⟩,ϒf,λi=>y i*f i,ϒg,λq=>w q*G q j,ϒh,λx x=>trivial,ϒi,0<=zd l r g,ϒj,v e (cZ he) hr,ϒk a,OkE.val s a,ϒl,t.Ç V.ref,ϒm a b,(by erw[a,b];simp![S5]),ϒn,ys.Ç OD.sh,ϒo,(by rw[Nu r,u]),ϒp a b,m=a-i/\i<=a/\b,ϒq a,λB t C P E N=>a,ϒr,TP X p a Q,ϒs,Ext.refl s,ϒt,b++(f++g'),ϒu,s.À+1,ϒv,AH i j fa f,ϒw a,is.Ç (λi=>(a).join),ϒx b,I.lset (its':=b) a e,ϒy,Value.str x t,ϒz,s.Ë p,ϒA,[z,TI,TO,d,f],ϒB,u=Value.ref b,ϒC,Res M.K b h v,ϒD,Ext F1 H1 F H,ϒE,S.Ë b,ϒF,FunD K x qual,ϒG,j=0\/j=1\/j=2,ϒH,s.Ë T,ϒI,c<=deep.Ò,ϒJ,(T l i).mp hi,ϒK,OD.pl a,ϒL,I.stkSub b,ϒM b,Zat b (N.qn p a _),ϒN,Zcj (B^e),ϒO a,∀g∈G,∀t∈g,a,ϒP a b c,a*b=c+c,ϒQ a,F.wg 0 c a p.eld,ϒR b,λD a H=>te a H b,ϒS,env.kindOf x,ϒT,(by rw[e];rfl),ϒU,T.ĉ _ _ _,ϒV,bindL kindOf,ϒW,bindC kindOf,ϒX,PySem.call f,ϒY,pG I.hok G,ϒZ,sl3 k outs,ϒ0,xs.À<Tk,ϒ1,λx x h x=>h,ϒ2,False.elim h,ϒ3,eval c X.Ü,ϒ4,n.Ç V.int,ϒ5,[xs[i],Y[i]],ϒ6,ve fa fb i,ϒ7,1<=os.À,ϒ8,R[j]?.getD 0,ϒ9,Zar (Ml I i),ϓa,(by cases h),ϓb,j-D.À,ϓc,a+X.À,ϓd,cq ts p true,ϓe a,(⟨a,by simp[hi]⟩),ϓf a,p.ù a (X j),ϓg a,(by rw[a];show Z),ϓh,B.row i,ϓi,.ot aU,ϓj,aj cS,ϓk,FE h _,ϓl a b,(by let:=a;let:=b;lia),ϓm,xs.Ç int,ϓn,I.rhs i hi,ϓo,Zbd (Zay b a),ϓp a,(by rw[a];decide),ϓq a,Ps (wpAny_letGo a),ϓr,ae fb,ϓs,eB yP,ϓt,aj dG,ϓu,aj cH,ϓv a,(Sum.inl a:Key),ϓw,aj fn al,ϓx,pT f d x,ϓy,1<=l.Ğ,ϓz a,λφ hφ hz=>a,ϓA,tn i s.Ì,ϓB,J.yld i H x,ϓC,VW x y=true,ϓD,⟨t,rfl⟩,ϓE,hg s H C ex,ϓF,ns.idxOf z,ϓG,pW F1 H1 f,ϓH,az M H1 fp1,ϓI,OkH F H Q,ϓJ,PostS.stp T,ϓK,S ds.À,ϓL,ws.À=j,ϓM,.ol (s++zs),ϓN,k::roots r,ϓO,j<b/\b<=j+s,ϓP,take_snoc h,ϓQ,1<=p.À,ϓR,LI O.À,ϓS,I.col i hi,ϓT,h.ē u U l,ϓU,["demands"],ϓV,["numbers"],ϓW,take_snoc H,ϓX,(sV ok Q).2,ϓY,Zag (Zar u),ϓZ,sgn (a+i) p,ϓ0 a,∀o∈O,xh a o,ϓ1 a,(a).zipIdx.length,ϓ2 a,BI (i:=1) (ρ:=a),ϓ3,EG M.K,ϓ4,aj hX,ϓ5,aj dF,ϓ6,aj cU,ϓ7,aj b_,ϓ8,s.Å c,ϓ9,(by simp[J]),ϔa,ns.Ö i,ϔb,s.new a,ϔc,aj cC,ϔd a,wpAny_Name a D,ϔe b,(by rw[b];show a),ϔf,SP X p D,ϔg,h.ok I.hok,ϔh,λi j=>i+j,ϔi,Turn P w K,ϔj,Env0 P w K,ϔk,⟨u,[]⟩,ϔl,vs++dvs,ϔm,_=N.À,ϔn,MtR X id r,ϔo,⟨e,?_⟩,ϔp,s.Ð x,ϔq,c s H C ex,ϔr,g x.er i j,ϔs,aE i&&aE j,ϔt,eB g al,ϔu,e.hh _ _ q,ϔv,N.À=n,ϔw,u.À=m,ϔx,pW F H d,ϔy,Gn M.K f,ϔz,∃m,k=m+1,ϔA,Zdb a as,ϔB,x.Ç int,ϔC,PI ts Ds m,ϔD,K9G.ó h,ϔE,φ (R i)=0,ϔF,J.inv.mz r,ϔG,["number"],ϔH,F.cons a,ϔI,N3 a (p+1),ϔJ,mrB ts x.1,ϔK a,λp=>x p*R p a,ϔL a,∀n∈a,wZ n.l,ϔM a,Heap.SameBut a,ϔN a,Zbj (Zbd a) ?_,ϔO a,AS a y.er z.er,ϔP a,(by rw[M];show a),ϔQ a,(by rw[c];show a),ϔR,Gw (Ds:=Ds),ϔS,λl L=>?_,ϔT,fo k=fo j,ϔU,FI (s:=s) p,ϔV,xM ts s M,ϔW a b,Un a b H H' s.Ì,ϔX a,⟨a,g,d,tk,os⟩,ϔY a,ixN (aG<|a).length,ϔZ,jG du fW,ϔ0,pure none,ϔ1,h1.Î s,ϔ2,λi x=>?_,ϔ3,wpAny_callSpecial?_slot (name:=Str.ofString "__next__") l PySem.F.slot_zip_next,ϔ4 a b,∃fd:Fk,(∀(s:Da)(u:Db),BindsTo s fd ⟨[u],[]⟩ [(x,u)])/\∀base:Op,(K w.params).In base->base.Ns mainGlobals m->K1 l.ø w (K w.params) m base a k fa fd [x] b,ϔ5 b,K7y K7v h F.entry_zip_next (b H L Z a x λh' e K he=>?_),ϔ6 f,(by ext p s c H x y v u Q I R Y h;let(d,e,a,b,S,w,q):=h;let(as,r):=a.reads I R;let(bs,m):=b.reads I Y;show f r m S w U ⟨.bl _,H,I,rfl,q⟩),ϔ7,⟨ok.mod,ok.kind,ok.glob,ok.blt,ok.above,ok.inj,ok.has,ok.cab,ok.hd,ok.frames,ok.stk,ok.exf,ok.bs,ok.bsz,ok.noex,ok.exfs,ok.funs,ok.frf⟩,ϔ8,["enumerate","zip","dict_itemiterator","dict_reverseitemiterator","odict_iterator","itertools.zip_longest","itertools.pairwise"].contains n,ϔ9,wpAny_updateSeq t rfl ?_ (by rw[K9W,n];decide),ϕa a,fH BQ (λx=>x6) (zT uj Ac (aq a) (aq 3) λx x=>rfl),ϕb a,K7y PySem.F.slot_zip_next l PySem.F.entry_zip_next a,ϕc,I.step (g':=s.Ĭ) (d':=s.drawn) (ch:=ch) (λb B=>?_) (λb u x x C e x=>k b u C e) (λb u x x C e x=>⟨u.Ĩ,k b u C e⟩),ϕd,.yes (h.á s λa m=>k a<|K9m _<|K9m _ m),ϕe,⟨λb o e n B f=>?_,λb o e n B f=>?_,I.base.free,λb o e f=>?_,I.base.tups,I.base.frzs,I.base.tbls⟩,ϕf,sf (env:=X.Ü) (x:=x) scope.names [],ϕg,Bn (EF wi g tc te own.length outs),ϕh a b c,⟨k _ a b Z.zp,k _ a b Z.ti,k _ a b Z.to,λj J=>(Z.it j J).at λo q=>c⟩,ϕi,call_meetsIn PySem.F.slot_dict_get D.Ā PySem.F.entry_dict_get (PySem.F.args_dict_get_3 _ _ _),ϕj,Wp (A pos i s a H _ I h) (λu S zq=>by let(V,b,c,R,q):=zq;show C i S a b V u Q c R q),ϕk,gv t i=0-gv T j/\(oA (cY O) i l).1=0-(oA O j l).2/\(oA (cY O) i l).2=0-(oA O j l).1,ϕl,["tree","gap","strict","spots","demands","chosen","rows","unit","sizes","places"],ϕm,Calls.callWith_builtin rfl,ϕn,∀e H Q E,sp3 K g (aZ b.À N.À body) e H Q E->e.À=b.À,ϕo b,(by erw[nD,iL]at b;rw[S1,N2]at b;let(a,H,g):=XL.mp b;show(a,H,g.Ï)),ϕp a,dv (mxN O+1) ∣ (a).1/\dv (mxN O+1) ∣ (a).2,ϕq a b d,(λh x i x r=>by cases r;let(T,R,p,Z):=a h;let(as,A):=i _ R;let(o,e,c,n,D):=b;show(_,d)),ϕr a,OB PySem.F.slot_list_append PySem.F.type_list_append wC a (O8 h hs hK hM),ϕs a,OB PySem.F.slot_list_extend PySem.F.type_list_extend AR a (O8 h hs hK hM),ϕt,⟨dx,dy,(R.Î s).to2<|K8Y a,(Y.Î s).to2<|K8Y b,a,b,okB s q⟩,ϕu,I.off i hi r (Zaj h.hr),ϕv,fH ym Cb (iC rfl T.th),ϕw a b,(by ext p s d H Q I h;show a<|Uy A B I h λv u w x y c f R Y q=>b),ϕx,upd a S.Á,ϕy,By (s:=s) (Ds:=Ds) p H,ϕz,U="int"\/U="bool"\/U="str"\/U="list"\/U="tuple"\/U="NoneType",ϕA,(by rw[K7u _ t rfl,<-Xn P J];simp only[Obj.mapSeq,Zcl,K8Q,K83]),ϕB,(λz=>by let(x,h):=Zch X a;let(y,Y,_):=H x h;rw[z]at Y;cases Y),ϕC,aw h (aw k aQ S) c,ϕD,Dw (Gn M.K f) [] M.E,ϕE,(λi gi h=>by rw[N2]at h;let(x,H,rfl):=XL.mp h;show(x,H,rfl)),ϕF,λB g k P E N=>⟨g,d,P,E,PostS.stp (e1.ý N) po⟩,ϕG,psI (Bl (h hK hM) (Nv hN (hb hK hM) set_list ha) hs hw h1),ϕH,(by simp only[K9Y]at z⊢;rcases z with z|z<;>simp[z]),ϕI,fnOf name qual params body scope D kV doc pm an c ct,ϕJ,(by rw[typeLookup_type,builtinLookup_eq_fast];kernel_rfl),ϕK,(if Cq s i=true then .sh x.er else x)::jC s (i+1) xs,ϕL a b,Heap.get?_update_other a b,ϕM a b,k+1<n->(∀j,k<j->j<n->a<=b-d k j)/\∃j,k<j/\j<n/\a=b-d k j,ϕN,h p s a H v u Q I r,ϕO,(λv z=>by let Z:Data.fields _=Data.cell v:=z;cases Z),ϕP,z_ CX P w K M base N qual scope f cd A outer s H E,ϕQ,ls_eq (D:=D) (n:=n) (ch:=ch) k,ϕR a,(show a+(j-a)=j by omega),ϕS,["rows","chosen","count","column","number","other"],ϕT,0<S.T k s/\(∀f,rgu S z s k=some f->Au S z s k f),ϕU,(by let nd:=S.nd;simp only[K9T]at nd;show nd.2.1.1),ϕV,Around.under_plainId PySem.F.plain_extend_loop _,ϕW a b,Hs (Ds:=Ds) (O:=O) (E:=a) (k:=b),ϕX,vz (ts:=ts) (i:=k),ϕY,["tree","places","unit","both","right","left"],ϕZ,{s with heap:=h',gens:=g',drawn:=d',toks:=t'},ϕ0,(Lp.xr _ 0).2 _,ϕ1,codeAny_builtin PySem.F.entry_extend_loop ?_,ϕ2,xi (fs.Ð f),ϕ3 a,a*a%2147483629,ϕ4,(λz=>by subst z;rw[b]at H;cases H;simp at C),ϕ5,bE (bR h H a F),ϕ6 b,wpAny_pyIter_range (IsRange.new ..) (b h a f c) ?_,ϕ7 c,BX b hr hg (by rw[H];show a) c (by rw[m];show B),ϕ8 b,⟨e.ff,λa o h x=>e.hh a o h,b,λa h x z=>e.nw a h z⟩,ϕ9,(λa q m z=>T.nw a q (λw=>m<|by simp[w]) z),ϖa a,aF (show n.ç<=1000 by let:=(a).2.1;lia),ϖb,λp s a H D I q=>h p s a H D I<|k D a H q,ϖc,(hl j J).at (λo q=>hk _ _ (Or.inl<|u j J) q),ϖd,plainId_quiet PySem.F.plain_extend_loop _,ϖe,["tree","pulls","strict","bottom","felt"],ϖf,[(1,"stands"),(0,"outlines"),(3,"level")],ϖg a,(∀v,(x,v)∉binds)->a kindOf binds m x=m x,ϖh a b c,a=(b).set k (pA b k+c),ϖi,Calls.Name_function_global I.Ą hg,ϖj,R4 U d S len (λA outer s H v Q E hr p=>?_),ϖk,(λb u e z=>by rw[(h b z).1]at e;cases e),ϖl,(λb m=>by rw[K95]at m;rw[m];show fa),ϖm,(λk m=>by rw[p.preF,K9G]at m;show m),ϖn a,I.ĝ (t':=s.ã) (λb o B e=>a) F g j f4 l,ϖo,forIn ((Value.ref<|n0+0,0)::_) _ _,ϖp,(I c C).lo l _,ϖq,(I c C).hi l _,ϖr,(pN D n).one n,ϖs a,Bh he (J _ a) ((p2 _).mp a).2,ϖt a,SeqAt.shaped d=true/\SeqAt.shaped e=true/\Q a H,ϖu,W.item i s _ _ hg T (λv h' tk V S q=>?_),ϖv,(by rw[seqIndex_of b g]at a;show K9R a),ϖw a b,fX (vQ hr.ħ) AO a b,ϖx a,tF 2 (λi j=>i-j) a,ϖy,JF (cM L i) i,ϖz,iU a ks (p+1),ϖA a,xi.some_of (v:=v) (o:=a) (by rw[l];show rel.val k),ϖB,i (by rw[PyData.canLay0]at c;show c),ϖC,(λz h=>by simp at h;rw[h];show Zbr _),ϖD,a.À=b.À/\a.À=c.À,ϖE,⟨i,(T l i).mpr ⟨c,c1,L⟩,rfl⟩,ϖF,c8 (by erw[T0,frS];rw[K0,K0,Z7];lia),ϖG,(λb P e=>⟨#[],by rw[e];simp⟩),ϖH,Hb (zV M.K hK) hN (hb hK hM) hix,ϖI a c,List.foldl (λb d=>b++d) #[] a=(c).flatten.toArray,ϖJ,.yes (f:=[]) (.sh h),ϖK a b,(a b).sum=(a f).sum+(a g).sum,ϖL,Obj.mapSeq (·.setIfInBounds j u),ϖM,(by let f:=L;rw[n,K0,K8t]at f;show f),ϖN,(⟨_,_,rfl,rfl,λc C=>by cases C⟩),ϖO,(xr ns 0).2 _,ϖP a,a[q]?=some a[q],ϖQ,λh' tk k=>⟨_,H,I.ò k,?_,q⟩,ϖR,λh' G k e=>fin i R Z h' G k e,ϖS,(by rw[dH];ext c C s ss _ h;cases h),ϖT,(by erw[prF,pA];rw[K8Z];split<;>rfl),ϖU,(λx H=>e x (by rw[F.pre'];simp[H])),ϖV a,a[L]?=some a[L],ϖW,Wp (C p s e H _ I h) (λd S zq=>?_),ϖX,(λl=>(show k<=i by simpa using l)),ϖY,CompI M F H U Q g t el ρ0 C H1 D,ϖZ,wpAny_loadName_local I.Ą,ϖ0,Wp (A p s b H Q I h) (λc S e=>?_),ϖ1,tb {D with nx:=N,ct:=N,bk:=D.nx},ϖ2,λb u C e=>⟨u,k b u C e⟩,ϖ3,∀v a H Q,t' v a H Q->t v a H Q,ϖ4,(λz=>by rw[z]at h;simp at h;lia),ϖ5,(by rw[dH];ext c C s ss h;cases h),ϖ6,(by rw[Ck p<|cZ A,Ck p<|cZ B,e]),ϖ7 a b,DG M X (.Tuple a k pos) ([i]++([i+1]++b)),ϖ8,wpAny_loadName_cell I.Ą,ϖ9,t.Ø+i.Ø,ϗa,(Zj.draw J S I f T).pos (λm U=>?_),ϗb,callType_new PySem.F.called_zip,ϗc,List.length_eq_zero_iff.mp this,ϗd,λi j gi J hi q n t l r T z=>?_,ϗe,x.Ĳ y c,ϗf a b,a=(0-(b).2,0-(b).1),ϗg,cxK X N scope0 s H C ex H6,ϗh,λz pz u F1 H1 fz e1 r1 w1=>?_,ϗi,opK (λy z=>AS (.dict Fv) y z),ϗj,D.Ç (λd=>d.2)++mkL n n++[0],ϗk,show lX _ _ []from trivial,ϗl,(by rw[K9v,K0,K0,m,K9e];lia),ϗm a b c,(λhK hM=>by let q:=a;rw[hK]at q;show psI b λx x x z=>c z),ϗn,OkE.val S.Î p,ϗo,bE (bR h b A g),ϗp a,I.step (g':=s.Ĭ) (d':=s.drawn) (ch:=a),ϗq,Builtin.Range.rangeSize lo hi,ϗr,(show i<k by simpa using a),ϗs,⟨Zdf _,fin c c1 L k e he⟩,ϗt,z.sameBut S,ϗu,j.pin (b,o),ϗv,O.pin (b,o),ϗw a,(λx H=>by rcases a with z|z<;>lia),ϗx a b,eqD a b=k7 a b,ϗy,X.s₀.Ď X.ı,ϗz,.For tg iter body [] pos,ϗA,(by ext rfl;rw[a]at z;cases z),ϗB,(by erw[dO];rw[N2,N2,G,w];rfl),ϗC a,tOp (Av M.K) a,ϗD a b,(by rw[K99,K99,K8a,K8a];show a h<|b h k),ϗE a,λb m=>let⟨ws,q,_⟩:=a;⟨ws,q⟩,ϗF a,Prod.ext a a,ϗG,⟨z.1,l _ _ z.2.1,z.2.2⟩,ϗH,(by subst z;rw[r]at m;show m),ϗI,j p w d c x y v u Q f R Y q,ϗJ,subscriptTail_builtinR (x:=w),ϗK,(⟨s.ã+1,by rw[K9W,l]⟩),ϗL,PySem.F.args_zip_next_1 _,ϗM,(by rw[lS',lS'']at h;cases h),ϗN,xQ 0 j (λl a=>absurd a<|Zbh l),ϗO,sm b (λj=>sm a λi=>f i j),ϗP,(hd3 [(e1,true,false)]).2.2,ϗQ,Wp (h pos p s d H _ I c),ϗR,B c A outer s H v Q E hr p,ϗS,I.ĩ (a:=s.Á),ϗT,∀D a H,t' D a H->t D a H,ϗU,(by rw[K9v,K0,Z7,K8y,P];lia),ϗV,∀x y d c,f x y d≠.ex c,ϗW,(by erw[gv,ay];rw[N2,h];rfl),ϗX,X.è y,ϗY,λk=>[((k,true,false):Tm)],ϗZ,u.â b o e n,ϗ0,P _ G1 g D,ϗ1 b,λa H Q=>to a H λx h=>tyV K T x h/\b,ϗ2 a,wpAny_execs_cons (Wp a λf S q=>?_),ϗ3 a,(λts=>by erw[a,shp];rw[S1];rfl),ϗ4 a,(λv z=>by rw[a]at z;cases z),ϗ5 a,IsRangeIter h it (lo+(i:Nat)*a),ϗ6,I.base.ĉ b o e n B f,ϗ7,subscripted slice false,ϗ8,λx S=>SP X n r .next S,ϗ9,e.Å (Ext.alloc s P),Ϙa,λx px v c a X e1 r w=>?_,Ϙb,λX px s c b x e1 r w=>?_,Ϙc,(by rw[Zcl,K9W,n];decide),Ϙd,(by erw[aG];simp only[Zbk]),Ϙe,[(1,"spots"),(2,"reach")],Ϙf,(λz=>by rw[z]at A;cases A),Ϙg,iA (iX j),Ϙh,ar (K2 i),Ϙi c d,∀u v,a<=u->u<b->v<b->u<v->c=t->d=t->False,Ϙj a,(by let(x,b,i,r,q):=zq;show a),Ϙk a,GQ p hl D0 hD E L1 L2 (a).2.2 t y2,Ϙl a,(λz=>by rw[z,a]at q;cases q),Ϙm a,(λk m=>by rw[a,Zbi]at m;lia),Ϙn,s.ġ X.Ô m,Ϙo,.While c body [] pos,Ϙp,Turn X.ø X.w X.K tg J,Ϙq,pure (ForInStep.yield r),Ϙr,newFunctionEnv scope,Ϙs,a=b\/a∈e\/a∈f\/a∈i,Ϙt,Ru (apos:=ap) (cpos:=cp) K8H,Ϙu,PyData.canLayAll0 d=true,Ϙv,(by rw[W];show hx j J),Ϙw,⟨n.e,l,1+z / 1024%9⟩,Ϙx,Def M.K M.mg x T ps f fd,Ϙy,Lp.Bg n (λk h=>(pos k h).1),Ϙz,HH p a (by rw[h];show H),ϘA,Ij p a (by rw[L];show H),ϘB,stL ts (w,true,true) C,ϘC,u.there b o e,ϘD,vS I M (N4 i),ϘE,upd H1 D,ϘF,upd H1 b,ϘG a,(by ext p s d H Q I h;show a),ϘH a,(λQ Y=>by rw[a Y q];show y),ϘI a,(λz=>by rw[z]at a;cases a),ϘJ a,(by erw[aG,a];rw[Zbk,Zbk,Zbk]),ϘK,λx x x x x x h=>h.Ä,ϘL,Wp (he p s d H _ I h),ϘM,(by let:n<=i:=hg;lia),ϘN,a S.Á=none,ϘO,Heap.IsSliceOf.new ..,ϘP,H s.Á=none,ϘQ,scope0.æ x.1,ϘR,PySem.W.WalkO q loose P,ϘS,Obj.mapSeq (·.pop),ϘT,(by erw[aR];rw[N2,H];rfl),ϘU,∀x∈X,∃y∈s,x=0-y,ϘV,∀y∈s,∃x∈X,x=0-y,ϘW,["one","other","cells"],ϘX,(λx j J=>by cases J),ϘY,zO _ g _ (h.nd g m) t T,ϘZ a b c d e f,(a+b+c)*d<=(e+f+d)*c,Ϙ0,go L [] h,Ϙ1,h.inv u U,Ϙ2 a,(by erw[frs];rw[K88,f];show a),Ϙ3 a,K9c (by erw[fC,a];simp;lia),Ϙ4 a,λB k V x g' q r=>.a q r,Ϙ5,.BoolOp op [a] pos,Ϙ6,d.fpOk t (d.É t),Ϙ7,i<18446744073709551616,Ϙ8,ZS h' s.Á,Ϙ9,q::(Y++(Z++(f++[]))),ϙa,(by rw[K9i,hti,K8R];rfl),ϙb,dH (o.ß c s) cs ss,ϙc,(⟨ts[0],by simp[a]⟩),ϙd,(by rw[K0,K0,m];lia),ϙe,(by erw[ub];rw[h,H];rfl),ϙf,(g.Ç λt=>t.1).Nodup,ϙg,oV (s:=true) (Ds:=Ds) (S:=S),ϙh a,Nat.mul_le_mul a,ϙi a b,EB (g:=a) (by erw[b]at p;show p),ϙj a,List.mem_iff_getElem?.mpr a,ϙk b,(by ext p s a H D I h;show b),ϙl a,Option.isSome_iff_exists.mp a,ϙm a,wpAny_letOwnedTupleGo_zip a,ϙn,OpR X (binaryOp op) r,ϙo,.BinOp a op b pos,ϙp,.UnaryOp op a pos,ϙq,(x,NameKind.free)∈l,ϙr,X.mg "enumerate"=none,ϙs,K8k.ó ⟨np,r.nd⟩,ϙt,∀a∈d,b a=none,ϙu,(by erw[ltN];rw[B];rfl),ϙv,x k=T (p+q+1)-T (p+q),ϙw,MB p hl D0 hD E L1 L2,ϙx a,(by ext p s b H Q I h;show a),ϙy,z i (K8f hi),ϙz,upd T D,ϙA,upd t b,ϙB a,(by erw[a];rw[K0,Zao];lia),ϙC a,wpAny_getItem_list_slice a,ϙD,.IfExp c a b pos,ϙE,PIE X H6 σ tg R,ϙF,UnR X (unaryOp op) r,ϙG,CE outer P w H s Q u,ϙH,Nat.succ_ne_self _,ϙI,∀b∈ch,nj X p H b,ϙJ,wpAny_pyIter_enum he,ϙK,E5 K F' v (OD.ers x),ϙL,(by simpa using J),ϙM,zfp S.Á,ϙN,i=0/\ts=[]/\way=[],ϙO,(by rw[zL,N];show K),ϙP,key i p I f p2 w e P,ϙQ,key p i T p2 f w P e,ϙR,∀e,∀k∈NU e,k<n,ϙS,⟨i,r,e1,hr,G,?_⟩,ϙT,QG N p h h0 hl g0 g1,ϙU,λn h=>(hg.ok n h).1,ϙV,insI_perm x,ϙW,absurd H,ϙX a,(by erw[nD,iL];rw[a,a]),ϙY a,(λw=>e (by rw[w];show a)),ϙZ a,Dw (sp3 M.K M.mg f) a M.E,ϙ0 b,(∀a∈Y,a∉p)->b v h,ϙ1,Mod X.K X.mg X.ı,ϙ2,s.Á<=a,ϙ3,λj y v' e1 g P=>?_,ϙ4,j p s a H _ I h,ϙ5,h.Ú it a i,ϙ6,L i s g H _ I h,ϙ7,intBits_le_64 H a,ϙ8,subscriptTail e,ϙ9,ns.Ç WData.int,Ϛa,d.ò (t':=S.ã) K,Ϛb,(atKey xs k).isSome,Ϛc,O p s b H _ I h,Ϛd,.Dict [] [] pos,Ϛe,λv=>(kV v.1,v.2),Ϛf,r.own.Ė (gh r.fr),Ϛg,(by simp at hl;lia),Ϛh,wpAny_pyIter_list H,Ϛi,wpAny_pyIter_list c,Ϛj,ds.À=es.À,Ϛk,k::(pre c++pre r),Ϛl,(by split at C<;>lia),Ϛm,O[i+1]?.getD [],Ϛn,(by rw[e,K9v,Fp];rfl),Ϛo,G10 P w K mg base J,Ϛp,(by rw[K0,h];lia),Ϛq,(λz x H=>by cases H),Ϛr,nwT ts false Ds S,Ϛs,ok.ne _,Ϛt a b c d,Hy a b c d d,Ϛu a,List.pairwise_cons.mpr a,Ϛv a,Value.type "zip"==Value.type a,Ϛw a,gNe a a,Ϛx a,(by erw[a];decide+kernel),Ϛy,p.1≠X.Ô,Ϛz,λx x x x n=>n,ϚA,[S.heap.objs.size],ϚB,typeIs_str s z t,ϚC,xs.À=i.À,ϚD,i.Ø-1,ϚE,c<s.Á,ϚF,b<s.Á,ϚG,@LE.le Nat instLENat,ϚH,(OD.er∘OD.sh)=id,ϚI,S.same.Å e1.hh,ϚJ,OkG M n is F H,ϚK,(by simpa using W),ϚL,S<s.Á,ϚM,ws.À=X.À,ϚN,∃m,ts.À=m+1,ϚO,C.À=ss.À,ϚP,(F.oh f).length_eq,ϚQ,(q+1)*2^m-(i+1),ϚR,(by rw[h];show C),ϚS,VB Ds he H l d,ϚT,G8 P w K mg base J,ϚU,G9 P w K mg base J,ϚV,qW.mp (key i hi).2,ϚW,nwT ts true Ds S,ϚX,QG N p h a H g0 g1,ϚY,Rf p hl hD E L1 L2,ϚZ,.od aU rfl,Ϛ0,h.lt g m _,Ϛ1,("__debug__":Str),Ϛ2,(by simpa using S),Ϛ3,dt X.ø X.w,Ϛ4,e1.ý N,Ϛ5,K7y PySem.F.slot_zip_iter k PySem.F.entry_zip_iter (K9J ⟨_,rfl,"zip",_,k,PySem.F.slot_zip_next.lookup,?_⟩),Ϛ6,af (sk 4 (ah fB) [(2,"places"),(0,"outlines"),(3,"number"),(1,"gap")] [0] ["ahead"] (w:=λx x x q=>Gp<|MY q)),Ϛ7,af (sk 7 (ah gW) [(4,"places"),(6,"one"),(0,"outlines"),(1,"gap")] [0] ["behind"] (w:=λx x x q=>Gp<|MY q)),Ϛ8,wpAny_Call_method m.ı m.few m.line PySem.F.plainAttrs_dict PySem.F.slot_dict_get PySem.F.type_dict_get,Ϛ9,tuple_addW2 l b V.toArray ws.Æ n m g d L S (by simpa using k) (by simpa using w),ϛa,codeAny_call_function hr.depth (X _ _ U) rfl S.co S.gen rfl (PySem.W.codeRec_of X C),ϛb,K7y K7v h F.entry_zip_next (Iv L Z H d X λh' a n b=>K9J<|q h' a n b),ϛc,K7y K7v h F.entry_zip_next (JR L Z H d e λh' a n b=>K9J<|q h' a n b),ϛd,I.base.ĉ b o (I.ok.bs b o e).1 (I.ok.bs b o e).2 (I.ok.nofr e),ϛe,PySem.Challenge.pw_boughdraw_k47_none_narrower.main.body.getD i,ϛf,Jh hg j ((aw h (aw k (aw l aQ f) d) S) m g) S e i s n H r I,ϛg,keep b o (L b o e) B (E b o e h) (I.base.ĉ b o e n B h),ϛh,K98 (Wp (ha P i s σ H _ I h) λus S zq=>?_) (by rw[hs,k]),ϛi,K98 (Wp (B pos i s j H _ I h) λus S zq=>?_) (by rw[E,f]),ϛj,K98 (Wp (A pos n s g H _ I h) λu o zq=>?_) (by rw[d,S]),ϛk,hg v i j x.er c d f Q G.fh ((k.Î E.ff).same G.ff),ϛl,sub_lt pm (m b hb) (m a ha) G (E8 p l b y (fu hb) Y),ϛm,@decide ((-(2^64)<i/\i<2^64)\/(-(2^64)<j/\j<2^64)),ϛn,wpAny_getItem_str_slice (l:=l) (u:=u) (st:=none) S rfl,ϛo,kH a b (λq=>x (m+q)*R q j) (λq=>y (m+q)*R q j),ϛp,hg v V x.er y.er G2 b f Q d.fh (k.Î d.ff) K,ϛq,hg v w d y.er G1 l j _ c.fh (r.Î c.ff) K,ϛr,Zfa (Zfa (Lp.ED _ λi x=>?_)<|Lp.ED _ λi x=>?_),ϛs,MeetsSeq.list_pop_last l i.Æ n u Y,ϛt,wpAny_Dict_walk (knd:=dt X.ø X.w) l L g b,ϛu,wpAny_pyIter_slot k PySem.F.slot_zip_iter,ϛv,free c o (λz=>(C c z).2.2.1 x c e rfl) j,ϛw,IW hg c ((aw h aQ S) m b) d i s e H r I,ϛx,F.run A outer s H args u v Q E hr he B V,ϛy,h 1 (w N) (λj=>Lp.sm N λq=>w q*G q j),ϛz,hg s H _ fp P _ s5 _ H5 x u _ I5' r5,ϛA,Qu PySem.F.slot_dict_getitem.lookup S,ϛB,N1.á e (f:=f++[]) (by simpa using k),ϛC,N1.Ė e (f:=f++[]) (by simpa using k),ϛD,OkE.val c.fh (OkE.pre (D.Å c) P),ϛE,slot b _ (L b o e) B (E b o e h) e1,ϛF,PySem.list_append l i.Æ n u,ϛG,codeAny_compStart_list (loop _ rfl),ϛH,isInt_at z hi j (by simpa using S),ϛI,wpAny_getItem_of (C0 r) D.mapOf w,ϛJ,aw A (aw B (aw C aQ w) e) s0,ϛK,I.un (Un.ĩ k p<|I.É p),ϛL,hr a b p w d c x y v u Q f R Y q,ϛM,wpAny_Call_method_late b f i rfl,ϛN,h.sub (Nat.le_succ_of_le T),ϛO,slot c o (I.cne x c e) A N j,ϛP,keep c o (I.cne x c e) A N j,ϛQ,Int.fmod_eq_emod_of_nonneg i,ϛR,name_of_addr x.apart (K8M t),ϛS,Y9 rfl rfl T.t7 Ib rfl T.te,ϛT,sub_lt p ha hb q (U.Å H),ϛU,wpAny_Call_method0_late b l,ϛV,I.ok.inj x y c (sub x c e1),ϛW,sY (b.Å (E7 ns).symm) c,ϛX,H.off i hi (r q) (Zaj d.hr),ϛY,hg _ M σ3 E x u _ y r5,ϛZ,hg v x.er G1 a f Q D.fh k,ϛ0,K9C (intBits_le_64 h H),ϛ1,L.1 _ (BD p A) _ (BD p B),ϛ2,L.2 _ (BD p A) _ (BD p B),ϛ3,I.un (Un.write m he k h),ϛ4,ih (k+1) (λj I J=>?_),ϛ5,AW Ds he h a ts.À,ϛ6,free b a (E b o e h) e1,ϛ7,Lj (k:=q) (K.Î m.ff) o,ϛ8,Uh ts he _ nd ts.À,ϛ9,s.nw a (D a m) (G a m),Ϝa,Nat.mul_le_mul_left 2,Ϝb,Int.mul_dvd_mul_left _,Ϝc,FO p (cZ K.1) (wl x H),Ϝd,AW Ds he a h ts.À,Ϝe,K9P (t x c<|sub x c e),Ϝf,T.self X.A 0 _ _ _ Z,Ϝg,Og ts V.length _ _ dl,Ϝh,C p s1 σ1 H1 _ I1,Ϝi,K8E scope.names _ _,Ϝj,argBest_gt (numAt y),Ϝk,argBest_lt (numAt y),Ϝl,f.nw a (e'.hh.ö q),Ϝm,Zag (Zag (Zar p) B),Ϝn,PH (h i) (o i) (p i),Ϝo,HK 3 (BM hr) (aq 7),Ϝp,EN (ts:=ts) D0 E (u+1),Ϝq,b.nw x (a.hh.ö h),Ϝr,N1.cons (f:=d) (g:=g) o,Ϝs,Int.dvd_coe_gcd h,Ϝt,FO p (cZ wf) (cZ J),Ϝu,Heap.Ns.new s.Ì,Ϝv,Wy tc te σ0 D c,Ϝw,px v c b X e1.fh r,Ϝx,S s.Á,Ϝy,I.off l a i (N4 i),Ϝz a b c,(a).1=b/\(a).2=c,ϜA,(by first|exists "DA _ _ _~aw ? ?|aQ"|exists "DE _ _ _~aa _,aq _|eC _,ng|eC _,Nk|eC _,RU|F4 J0 _ _,zT uj Ac ? ? &|eUn _ _,Mh Gz %Fh ?|eB mM _,Yn ( Jd _ rfl ) Sk rfl T.t7 Ib ?|d_ _,o6 ?|Rs _,d5 ?|eOr _ _,W8 ? ?|F4 cO _ _,fH FL %FR ? ?|F4 gn _ _,fH BQ %x6 ? ?|F4 cX _ _,fH ym Cb ? ?|F4 Eb _ _,fH O7 %QP ? ?|F4 ip _ _,fH SE %SM ? ?|F4 kq _ _,fH P1 %Tt ? ?|F4 JY _ _,fH Vb %TV ? ?|F4 D8 _ _,fH MC %Pg ? ?|F4 a_ _ _,fH l8 qJ ? ?|Ap _,yq ?|bO _,oR ?|EV _ _,Fj rfl T.t5 rfl T.td Nq ?|EV _ _,Fj rfl T.t5 rfl T.t4 Vs ?|EV _ _,Fj rfl T.t5 rfl T.t2 N7 ?|eIf _ _ _,Hm ? ? ?|F4 gLt _ _,zt KW %MP ? ? ( c6 _ )|F4 gLe _ _,zt Xw %W5 ? ? ( c6 _ )|F4 gGt _ _,zt L_ %MS ? ? ( c6 _ )|F4 gGe _ _,zt RE %RG ? ? ( c6 _ )|F4 gEq _ _,zt ( Lo hr.units ) Q5 ? ? ( c6 _ )|eB ba _,eX Je Um rfl T.t6 PySem.boot_len ?|eB Nt _,eX Kx %VU rfl T.t0 PyProof.Rows.boot_abs ?|eB mB _,eX ( kU _ rfl rfl ) sL rfl T.tc PyProof.Rows.boot_sum ?|eB LD _,eX ( JQ _ rfl ) Ul rfl T.tb PyProof.Rows.boot_sorted ?|eB mN _,eX ( nJ _ rfl rfl ) uO rfl T.t9 PyProof.Rows.boot_min ?|eB yP _,eX ( JH rfl ) %Qy rfl T.t9 PyProof.Rows.boot_min ?|eB lP _,eX ( sE _ rfl rfl ) xV rfl T.t8 PyProof.Rows.boot_max ?|eB A6 _,eX ( Jj rfl ) %OC rfl T.t8 PyProof.Rows.boot_max ?|eB vp _,eX ( rK rfl ) yL rfl T.t1 PyProof.Rows.boot_any ?|pX _,VQ ?|Ao _ _,CL ? ?|eD0,X4|aj gG _,dcl g8.y0 T.t2g hr ?|aj eU _,dcl g7.y1 T.t2e hr ?|aj jT _,dcl g7.y0 T.t2d hr ?|aj qP _,dcl g6.y4 T.t2c hr ?|aj eW _,dcl g6.y3 T.t2b hr ?|aj i_ _,dcl g6.y1 T.t29 hr ?|aj cS _,dcl g6.y0 T.t28 hr ?|aj qZ _,dcl g5.y5 T.t27 hr ?|aj fN _,dcl g5.y4 T.t26 hr ?|aj dW _,dcl g5.y3 T.t25 hr ?|aj fY _,dcl g5.y2 T.t24 hr ?|aj nR _,dcl g5.y1 T.t23 hr ?|aj fE _,dcl g5.y0 T.t22 hr ?|aj bJ _,dcl g4.y7 T.t21 hr ?|aj gM _,dcl g4.y6 T.t20 hr ?|aj gN _,dcl g4.y5 T.t1z hr ?|aj dF _,dcl g4.y2 T.t1w hr ?|aj bw _,dcl g4.y1 T.t1v hr ?|aj ki _,dcl g4.y0 T.t1u hr ?|aj fI _,dcl g3.yb T.t1t hr ?|aj eG _,dcl g3.ya T.t1s hr ?|aj d4 _,dcl g3.y9 T.t1r hr ?|aj c9 _,dcl g3.y7 T.t1p hr ?|aj cU _,dcl g3.y6 T.t1o hr ?|aj iq _,dcl g3.y5 T.t1n hr ?|aj dc _,dcl g3.y4 T.t1m hr ?|aj lC _,dcl g3.y3 T.t1l hr ?|aj kn _,dcl g3.y2 T.t1k hr ?|aj df _,dcl g3.y1 T.t1j hr ?|aj dG _,dcl g3.y0 T.t1i hr ?|aj cE _,dcl g2.ye T.t1h hr ?|aj b8 _,dcl g2.yd T.t1g hr ?|aj bU _,dcl g2.yc T.t1f hr ?|aj f_ _,dcl g2.yb T.t1e hr ?|aj jM _,dcl g2.ya T.t1d hr ?|aj cH _,dcl g2.y9 T.t1c hr ?|aj eV _,dcl g2.y8 T.t1b hr ?|aj bj _,dcl g2.y6 T.t19 hr ?|aj dU _,dcl g2.y5 T.t18 hr ?|aj cT _,dcl g2.y4 T.t17 hr ?|aj hX _,dcl g2.y3 T.t16 hr ?|aj iy _,dcl g2.y2 T.t15 hr ?|aj bS _,dcl g2.y1 T.t14 hr ?|aj aV _,dcl g2.y0 T.t13 hr ?|aj cN _,dcl g10.y0 T.t2i hr ?|aj b_ _,dcl g1.yk T.t12 hr ?|aj dZ _,dcl g1.yj T.t11 hr ?|aj i6 _,dcl g1.yi T.t10 hr ?|aj cy _,dcl g1.yh T.tz hr ?|aj e_ _,dcl g1.yg T.ty hr ?|aj e6 _,dcl g1.yf T.tx hr ?|aj bP _,dcl g1.ye T.tw hr ?|aj d6 _,dcl g1.yd T.tv hr ?|aj dA _,dcl g1.yb T.tt hr ?|aj iH _,dcl g1.ya T.ts hr ?|aj cA _,dcl g1.y9 T.tr hr ?|aj n8 _,dcl g1.y8 T.tq hr ?|aj gP _,dcl g1.y7 T.tp hr ?|aj g_ _,dcl g1.y5 T.tn hr ?|aj gH _,dcl g1.y4 T.tm hr ?|aj iW _,dcl g1.y3 T.tl hr ?|aj bT _,dcl g1.y2 T.tk hr ?|aj fT _,dcl g1.y1 T.tj hr ?|aj fi _,dcl g1.y0 T.ti hr ?|Gh ?"|exists "DT _ _ _~aD ( F4 gLt _ _ ),fX KW %MP ? ? ( c6 _ )|aD ( F4 gGt _ _ ),fX L_ %MS ? ? ( c6 _ )|aD ( F4 gGe _ _ ),fX RE %RG ? ? ( c6 _ )|aD ( F4 gNe _ _ ),fX ( vQ hr.units ) AO ? ? ( c6 _ )|aD ( F4 gEq _ _ ),fX ( Lo hr.units ) Q5 ? ? ( c6 _ )|nI _,NR ?|Gk _,UD ?|aD _,Mn ?|FJ ?"|exists "DW _ _ _~AZ ? ?|Lx ? ?|BF ?|Hg ?"|exists "DSs _ _ _~af ? ?|cD|aB ?"|((with_reducible show DS _ _ _ _);first|exists "DS _ _ _~dX _ _,nW K9F ? ?|ax _ _,bQ nd rfl ( Or.inr rfl ) ?|ax _ _,bQ nd rfl ( Or.inl rfl ) ?|bF _,bW ?|sIf _ _ _,gL ? ? ?|pq _ _,Af _ ?|AF _,Qe ?|jD _ _,uI _ ?|dB _,OV _|Ju,LJ"|((with_reducible show DS _ _ _ (bZ _ _ _));(apply bt<;>first|trivial|exact K9F|exact PassesOwn.leaving|exactλ_=>rfl)))|((with_reducible show DG _ _ _ _ _);(refine bR ?_ ?_ ?_<;>first|rfl|exact Or.inl rfl|exact Or.inr rfl|exact nd|(dsimp only[cxK];decide+kernel)))|exists "DI _ _ _ _~iR2 _ _,Y6 rfl T.ta ? ?|iR1 _,Q4 rfl T.ta ?|bY _,sA ?|iEn _,GS rfl T.t3 ?"|exists "DF _ _ _~VH ?"|exists "DO _ _ _~r_ ?"|(refine BlkK.mk rfl rfl (by decide+kernel) (by decide+kernel) (by decide+kernel) (by decide+kernel) ?_;(repeat (refine⟨⟨rfl,rfl⟩,?_⟩));exact True.intro)|exact Fq.mk rfl rfl rfl (by decide+kernel) rfl (by decide+kernel) (by decide+kernel)))
local macro_rules(kind:=ident)|s=>mqX (λ_=>mqY) s []
local macro_rules(kind:=Lean.Parser.Term.app)|s=>mqX (λ_=>mqY) s[0] s[1].getArgs.toList
namespace Internal
namespace L2
open PySem PySem.Spec PyProof.Rows
abbrev Key:=Sum Int Str
def A2:Key->ϲ0 Db|.inl k,v=>Value.isInt k v|.inr x,v=>Value.isStrOf x v
def Zd(w:Ev):ϴy Key|.inl k=>hashInt k|.inr x=>hashStr w x
theorem dq:∀{k:Key}{v:Db},A2 k v=true->(∃i t,k=Sum.inl i/\v=Value.int i t)\/(∃x t,k=Sum.inr x/\v=ϒy)
 |.inl i,v,h=>by let(t,e):=Value.isInt_shape (k:=i) (v:=v) h;show Ð ⟨i,t,rfl,e⟩
 |.inr x,v,h=>by let(t,e):=Value.isStrOf_shape (x:=x) (v:=v) h;show Ø ⟨x,t,rfl,e⟩
def Js(i:Int)(t:Tok):A2 (Ð i) (Ä i t)=true:=by simp[A2,Value.isInt]
def Jk(x:Str)(t:Tok):A2 (Ø x) (Ė x t)=true:=by simp[A2,Value.isStrOf]
def UX(a b:Int):Õ (Ϯ8 Sum.inl)=(a==b):=by
 cases e:a=b
 .subst e;simp
 let h:¬Ϯ8 Sum.inl:=λq=>e<|K82 q;rw[ϷA];show(beq_eq_false_iff_ne.ó e).symm
def Tq(a b:Str):Õ (Ϯ8 Sum.inr)=Õ (a=b):=by
 cases e:a=b
 .subst e;simp
 let h:¬Ϯ8 Sum.inr:=λq=>e<|Sum.inr.inj q;rw[ϷA,K9q e]
def UN(a:Int)(b:Str):ł (Õ ((Sum.inl a:Key)=Sum.inr b)):=K9q λq=>nomatch q
def VO(a:Str)(b:Int):ł (Õ ((Sum.inr a:Key)=Sum.inl b)):=K9q λq=>nomatch q
def dt(prog:Do)(w:Ev):PySem.KeyKind prog w Key where
 is:=A2
 hash:=Zd w
 inj:=λv a b A B=>by
  rcases dq A with⟨i,t,rfl,rfl⟩|⟨x,t,rfl,rfl⟩
  .rcases dq B with⟨j,u,rfl,e⟩|⟨y,u,rfl,e⟩
   .injection e with e1 _;rw[e1]
   .show nomatch e
  .rcases dq B with⟨j,u,rfl,e⟩|⟨y,u,rfl,e⟩
   .show nomatch e
   .injection e with e1 _;rw[e1]
 byValue:=λk v h=>by rcases dq h with⟨i,t,rfl,rfl⟩|⟨x,t,rfl,rfl⟩<;>rfl
 pyHash:=λH h=>by
  rcases dq H with⟨i,t,rfl,rfl⟩|⟨x,t,rfl,rfl⟩
  .show wpAny_pyHash_int h
  .show wpAny_pyHash_str h
 eqBool:=λU H h=>by
  rcases dq U with⟨i,t,rfl,rfl⟩|⟨x,t,rfl,rfl⟩
  .rcases dq H with⟨j,u,rfl,rfl⟩|⟨y,u,rfl,rfl⟩
   .rw[UX]at h;show wpAny_eqBool_int h
   .rw[UN]at h;show SeqAt.EqAt.int_str i t y u _ _ _ _ h
  .rcases dq H with⟨j,u,rfl,rfl⟩|⟨y,u,rfl,rfl⟩
   .rw[VO]at h;show SeqAt.EqAt.str_int x t j u _ _ _ _ h
   .rw[Tq]at h;show wpAny_eqBool_str h
 «strs»:=λk x t v h=>by
  rcases dq h with⟨i,u,rfl,e⟩|⟨y,u,rfl,e⟩
  .show nomatch e
  .injection e with e1 _
   subst e1;cases v<;>rfl
def CV(prog:Do)(w:Ev)(i:Int)(t:Tok):(dt prog w).is (Ð i) (Ä i t)=true:=Js i t
def Ea(prog:Do)(w:Ev)(x:Str)(t:Tok):(dt prog w).is (Ø x) (Ė x t)=true:=Jk x t
inductive V where
 |non|bl (b:Bool)|int (i:Int)|str (x:Str)|byt (b:Ζ UInt8)|flt (b:UInt64)|ref (a:Ix)|ty (n:String)
 deriving DecidableEq
def RelV:V->Ú Db|.non,u=>u=Value.none|.bl b,u=>u=Value.bool b|.int i,u=>ϐE|.str x,u=>∃t,u=ϒy|.byt b,u=>∃t,u=Value.bytes b t|.flt b,u=>∃t,u=Value.float b t|.ref a,u=>u=ϹA|.ty n,u=>u=Value.type n
abbrev Vals:À V->Ú (À Db):=Paired RelV
def Vals.length(r:Ϥf us):xs.À=us.À:=Paired.length r
def Vals.get:∀{X:À V}{s:À Db}{i:Nat}{x:V},ţ X s->á X=Ď->∃u,ϵT=ķ/\ϱ5 u:=by
 ext X s i x h;induction h generalizing i with
 |nil=>ext e;simp at e
 |cons r _ ih=>ext e;cases i with|zero=>simp at e;subst e;show(_,rfl,r)|succ i=>let(u,h,H):=ϻT ϵh;show(u,ϱY,H)
def Vals.set(r:ϱ5 u):∀{X:À V}{s:À Db}(i:Nat),ţ X s->ţ (X.ß i x) (s.ß i u)|_,_,_,.nil=>õ|_,_,0,.cons _ t=>ą r t|_,_,i+1,.cons q t=>ą q<|Vals.set r i t
def Vals.append:∀{X y:À V}{u ws:À Db},ţ X u->Vals y ws->ţ (X++y) (u++ws):=by
 ext X y u ws h s;induction h with|nil=>show s|cons r t ih=>show ą r ih
def Vals.take:∀{X:À V}{s:À Db}(n:Nat),ţ X s->ţ (X.Ö n) (s.Ö n)|_,_,0,_=>õ|_,_,_+1,.nil=>õ|_,_,n+1,.cons r t=>ą r<|Vals.take n t
def Vals.drop:∀{X:À V}{s:À Db}(n:Nat),ţ X s->ţ (X.ä n) (s.ä n)|_,_,0,r=>r|_,_,_+1,.nil=>õ|_,_,n+1,.cons _ t=>Vals.drop n t
def xi:Ü V->Ú Ch|some v,some u=>ϲM|none,none=>True|_,_=>False
def KV{κ:Type}:À Ϥl->Ú (À (κ×Db)):=Paired λ(p:κ×V)(q:κ×Db)=>p.1=q.1/\ώb q.2
def kV:Key->V|.inl i=>Ä i|.inr x=>Ė x
set_option genInjectivity false in
inductive HO where
 |lst (xs:À V)
 |tup (xs:À V)
 |dK (Fv:À ϴT)|dT (Fv:À (À Key×V))
 |set (S:ϲ0 Int) (n:Nat)
 |ins (C dx:Ix) (fs:À (Str×V))
 |own (x:Ix)
 |xd (fs:À (Str×V))
 |met (f x:Ix)
 |rng (lo hi:Int)
 |frz (o:Obj) (u:HO)
 |tbl (ps:Ζ Db)
 |ext (φ:Ú Op)
abbrev Hp:=Ix->Ü HO
def upd(H:Hp)(a:Ix)(o:HO):Hp:=λb=>Ë (b=a) Ö (H b)
def aU:ļ a o a=Ö:=ű upd Ĝ
def aC(h:b≠a):ļ a o b=H b:=ű upd ϱB
def Xg{H:Hp}{a b:Ix}{o u:HO}(h:H a=Ö)(h':H b=ķ)(d:o≠u):a≠b:=by ext e;subst e;rw[h]at h';show d<|K9R h'
def aL{H:Hp}{a b:Ix}{o:HO}(h:H a=Ö)(h':ϰ7):a≠b:=by ext e;subst e;rw[h]at h';cases h'
section
variable(P:Do)(w:Ev)
def eO(H:Hp)(h:Op)(a:Ix):Ú HO
 |.lst X=>ŀ X.À/\∃(i:À Db)(n:Nat),ţ X i/\ϴV=Â ((Ċ "list" Ϻ6))
 |.tup X=>ŀ X.À/\∃i:À Db,ţ X i/\IsTup h a i.Æ
 |.dK Fv=>ŀ Fv.À/\ϺX/\Ϗw
 |.dT Fv=>ŀ Fv.À/\ϺX/\∃X:À (À Key×Ix×Db),
   Paired (λ(p:List Key×V)(q:List Key×Ix×Db)=>p.1=q.1/\H q.2.1=Â (Ī<|Ê p.1 kV)/\ώb q.2.2) Fv X/\
   ∃o e E,ϴV=Ö/\o.ExactDict/\o.data=.dict e E/\e.ð=X.Ç (entryOfKey ϪY)/\(X.Ç ϔ).Nodup
 |.set S n=>h.SetOf (intKind P w) a S n
 |.ins C dx fs=>H dx=Â ύT/\fs.À<=1000/\dx≠a/\ϴV=Â (instObj C dx)/\
   ∃m,h.Ns1 dx m/\(∀f,ϕ2<|m f)/\PySem.Within m (fs.Ç ϔ)
 |.own _=>∃o,ϴV=Ö
 |.xd fs=>∃m,h.Ns1 a m/\∀f,ϕ2<|m f
 |.rng lo hi=>∃t u v,ϴV=Â ((Ċ "range" (ϐ #[Ä lo t,Ä hi u,Ä 1 v])))
 |.frz o u=>ϴV=Ö/\eO H h a u
 |.tbl ps=>ϴV=Â {cls:=ò,data:=ϐ ps}
 |.met f x=>ϴV=Â (methodObj (É f)<|É x)
 |.ext φ=>φ h/\(∃o,ϴV=Ö)/\∀b c:Op,φ b->(∀o,b.È a=Ö->c.È a=Ö)->φ c
def HOk(H:Hp)(h:Op):Prop:=∀a o,H a=Ö->ϻs o
end
section
variable{h h':Op}
def eO.lt(x:ϻs o):a<h.Â:=by
 cases o with|lst xs=>let(_,_,_,_,e):=x;show ϱw|tup xs=>let(_,_,_,p):=x;show p.lt|dK Fv=>let(_,_,_,_,o,_,_,e,_):=x;show ϱw|dT Fv=>let(_,_,_,_,o,_,_,e,_):=x;show ϱw|set S n=>let(o,_,_,_,e,_):=x;show ϱw|ins C dx fs=>let(_,_,_,e,_):=x;show ϱw|own y=>let(_,e):=x;show ϱw|xd fs=>obtain⟨_,⟨_,_,_,e,_⟩,_⟩:=x;show ϱw|rng lo hi=>let(_,_,_,e):=x;show ϱw|frz ob u=>let(e,_):=x;show ϱw|tbl ps=>show K9h (show ϴV=Â _ from x)|met f y=>show K9h (show ϴV=Â _ from x)|ext φ=>obtain⟨_,⟨_,e⟩,_⟩:=x;show ϱw
def Paired.mapP{l₁:À α}{l:À β}(h:Paired F l₁ l)(f:∀a b,F a b->G a b):Paired G l₁ l:=by
 induction h with|nil=>show õ|cons r t i=>show ą (f _ _ r) i
theorem eO.stay(x:ϻs o)(k:∀b u,(b=a\/H b=Â ύT)->ϷN ķ)
  (j:∀b,ϱL (H b) (Â ύT) H') (l:∀b X,ϱL (H b) (Â (Ī X)) H'):ώO H' a o:=by
 induction o with
 |lst X=>let(z,i,n,r,e):=x;show(z,i,n,r,ϱf (Ð rfl) e)
 |tup X=>let(z,i,r,O,e,c):=x;show(z,i,r,O,ϱf (Ð rfl) e,c)
 |dK Fv=>let(z,y,V,r,O,s,E,e,c):=x;show(z,y,V,r,O,s,E,ϱf (Ð rfl) e,c)
 |dT Fv=>let(z,y,X,r,O,s,E,e,c):=x;show(z,y,X,Paired.mapP r λp q z=>ϗG,O,s,E,ϱf (Ð rfl) e,c)
 |set S n=>let(O,s,E,t,e,c):=x;show(O,s,E,t,ϱf (Ð rfl) e,c)
 |ins C dx fs=>obtain⟨d,z,ne,e,m,⟨D,s,E,g,c⟩,r⟩:=x;show(j _ d,z,ne,ϱf (Ð rfl) e,m,(D,s,E,ϱf (Ø d) g,c),r)
 |own y=>let(O,e):=x;show(O,ϱf (Ð rfl) e)
 |xd fs=>obtain⟨m,⟨D,s,E,e,c⟩,r⟩:=x;show(m,(D,s,E,ϱf (Ð rfl) e,c),r)
 |rng lo hi=>let(t,u,v,e):=x;show(t,u,v,ϱf (Ð rfl) e)
 |frz O u ih=>let(e,q):=x;show(ϱf (Ð rfl) e,ih q)
 |tbl ps=>
  let e:ϴV=Â {cls:=ò,data:=ϐ ps}:=x;change ύz=Â {cls:=ò,data:=ϐ ps};show k a _ (Ð rfl) e
 |met f y=>
  let e:ϴV=Â (methodObj (É f)<|É y):=x;change ύz=Â (methodObj (É f)<|É y);show k a _ (Ð rfl) e
 |ext φ=>obtain⟨p,⟨o,e⟩,T⟩:=x;show(T _ _ p λo q=>ϱf (Ð rfl) q,(o,ϱf (Ð rfl) e),T)
def HOk.lt(x:϶f)(e:H a=Ö):a<h.Â:=(x a o e).lt
def HOk.fresh(x:϶f)(e:ϑ7):϶n:=by
 cases q:H a with|none=>rfl|some u=>show ĭ (K9P (x.lt q) e) ϵJ
def HOk.kept(x:϶f)(k:∀b u,ϷN ķ):ϩt H h':=λa o e=>(x a o e).stay (λb u x q=>ϦP q) όM Ϩw
def HOk.laid(x:϶f)(k:∀b u,ϷN ķ)(p:ϑ7)(new:ώO (ļ a o) a o):ϩt (ļ a o) h':=λb u e=>by
 let n:=x.Õ p;cases B:b=a
 .subst B;rw[aU]at e;cases e;show new
 rw[ϷI]at e;show(x b u e).stay (λc v x q=>k c v q) (λc q=>Ô (aC<|ϲX n) q) λc X q=>Ô (aC<|ϲX n) q
end
def Rd(H:Hp)(a:Ix)(u:HO):Prop:=H a=ķ\/∃o,H a=Â (ϨO u)
def Rd.ok(r:Ϸo u)(x:϶f):ϻs u:=by
 rcases r with r|⟨o,r⟩
 .show x a u r
 let(_,q):=x a _ r;show q
def Mut:Ú (Ü HO)|some (.lst _)=>True|some (.dK _)=>True|some (.dT _)=>True|some (.set _ _)=>True|some (.ins _ _ _)=>True|some (.ext _)=>True|_=>False
section
variable{h h':Op}
def HOk.write(ok:϶f)(m:Mut (H x))(he:e=x\/H e=Â ύU)(k:∀b u,b≠e->ϷN ķ)(o:∃u,ϨQ=ķ)
  (new:ώO (ļ x o') x o'):ϩt (ļ x o') h':=λb u q=>by
 let n:∀c y,H c=Â (.own y)->c≠x:=λc y r z=>ϗH
 let t:∀c X,H c=Â (Ī X)->c≠x:=λc X r z=>ϗH
 cases a:b=x
 .subst a;rw[aU]at q;cases q;show new
 .rw[aC a]at q
  cases B:b=e
  .let Q:H b=Â ύU:=by
    rcases he with z|z
    .show ĭ (B.trans z) a
    .rw[B];show z
   rw[q]at Q;cases Q;let(v,V):=o;show(v,by rw[B];show V)
  .apply(ok b u q).stay (λc v C r=>k c v ?_ r) (λc r=>by rw[aC<|n c b r];show r) λc X r=>by rw[aC<|t c X r];show r
   rcases C with rfl|C
   .show B
   .rintro rfl
    rcases he with z|z
    .show n c b C z
    .rw[C]at z;cases z;show a rfl
end
structure Un(fs ex:À Ix)(H H':Hp)(h h':Op):Prop where
 keep:∀b o,Ϸe=Ö->ϰ7->b∉fs->b∉ex->ϨP=Ö
 slot:∀b o,Ϸe=Ö->ϰ7->b∈fs->b∉ex->∃sl,ϨP=Â {o with slots:=sl}
 free:∀b o,Ϸe=Ö->ϰ7->b∉ex->Ϻu H'
 there:∀b o,Ϸe=Ö->b∉ex->∃o',ϨP=Â o'
 tups:∀b xs,ϱL (H b) (Â (Ī xs)) H'
 frzs:∀b o u,ϱL (H b) (Â (ϨO u)) H'
 tbls:∀b ps,H b=Â (.tbl ps)->∃more,H' b=Â (.tbl<|ps++more)
section
variable{fs fs' ex ex':À Ix}{H H1 H2:Hp}{h h1 h2 h':Op}{a x e:Ix}{o:HO}
def Un.any(u:ϫ1 H1 h h1)(q:Ϸe=Â ob)(n:ϰ7)(x:b∉ex):∃s,h1.È b=Â {ob with slots:=s}:=by
 cases B:b∈fs
 .show u.slot b ob q n B x
 show(ob.Ĩ,u.ĉ b ob q n B x)
def Un.kept(k:∀b u,ϷN ķ):ϫ1 H h h':=
 ⟨λb O q x x x=>k b O q,λb O q x x x=>⟨O.Ĩ,k b O q⟩,λx x x n x=>n,λb O q x=>⟨O,k b O q⟩,Ϩw,ϯR,λx p q=>⟨#[],ϳj q⟩⟩
def Un.refl:ϫ1 H h h:=Un.ò Ϩw
def Un.laid(k:∀b u,ϷN ķ)(p:ϑ7)(N:϶n):ϫ1 (ļ a o) h h' where
 keep:=λb u q x x x=>ϦP q
 slot:=λb u q x x x=>⟨u.Ĩ,ϦP q⟩
 free:=λb u q n x=>ϯH (K9O<|K9P (K9h q) p)
 there:=λb u q x=>⟨u,ϦP q⟩
 tups:=λb X q=>Ô (aC<|ϲX N) q
 frzs:=λb u X q=>Ô (aC<|ϲX N) q
 tbls:=λb s q=>⟨#[],by rw[aC<|ϲX N,q];simp⟩
def Un.write(m:Mut (H x))(he:e=x\/H e=Â ύU)(k:∀b u,b≠e->ϷN ķ)(E:∃u,ϨQ=ķ):ϫ1 (ļ x o) h h':=by
 let X:∀b,ϰ7->b≠x:=λb n z=>by subst z;rw[n]at m;show m
 let a:∀b,ϰ7->b≠e:=λb n z=>by
  subst z;rcases he with r|r
  .show X b n r
  rw[n]at r;cases r
 let M:∀b u,H b=ķ->¬Mut ķ->b≠x:=λb u q nm z=>by subst z;rw[q]at m;show nm m
 show(λb u q n x x=>ϦP (a b n) q,λb u q n x x=>⟨u.Ĩ,ϦP (a b n) q⟩,λb u q n x=>ϯH (X b n),λb u q x=>?_,
  λb s q=>Ô ϑs q,λb u s q=>Ô ϑs q,λb p q=>⟨#[],by rw[ϑs,q];simp⟩)
 cases B:b=e
 .subst B;show E
 show(u,ϦP B q)
end
def trk(h:Op)(H:Hp):À Ix:=ž (ϱQ h.Â) λa=>(H a).isSome
def B5(h:Op)(H:Hp):Op:=PySem.W.hideAll h ύV
def Jw(h:Op)(H:Hp):Θ (B5 h H)=h.Â:=PySem.W.hideAll_size _ _
def Kv(e:Ϸe=Ö)(n:ϰ7):ϑL=Ö:=
 PySem.W.hideAll_get _ e λM=>by let q:Μ (H b).isSome:=(K89.mp M).2;rw[n]at q;simp at q
def Qw(e:ϑL=Ö):Ϸe=Ö/\ϰ7:=by
 let e':Ϸe=Ö:=PySem.W.of_hideAll ύV e;show(e',?_);cases q:H b with
 |none=>rfl
 |some x=>
  let M:b∈ύV:=ϳy ⟨϶u<|K9h e',Ϯ q⟩;let z:ϑL=none:=PySem.W.hideAll_none ύV M;rw[z]at e;cases e
structure Mod(K:At)(mg:Ŏ)(base:Op):Prop where
 kin:K.In base
 glob:ϐT mg
 blt:∃mb,base.Ns builtinsNs mb/\∀x:Str,Ϲd->mb x=Ϲi
 nolimit:base.NoLimit
set_option genInjectivity false in
structure Cx where
 prog:Do
 w:Ev
 K:At
 mg:Ŏ
 base:Op
 A:Go
 N:À Str
 s₀:Da
 H₀:Hp
 env:Env
 outer:À Env
 stack:À Env
 ex:À Ix
 fn:ϲ0 Str
 calm:Bool
 pn:À ŝ
 xe:Db->Ú Da
def frs(l:À Env):À Ix:=l.filterMap (·.frame)
abbrev Cx.fs(X:Cx):À Ix:=frs X.outer
def Vis(sc:Scope)(x:Str):Prop:=Ϻ3=Â ο\/ϵf Ϻ3 (Â š) (Â Ϝ)
def Loc(sc:Scope)(x:Str):Prop:=ϵf Ϻ3 (Â ο) (Â š)
def Look(env:Env)(h:Op)(m:Ŏ)(x:Str)(u:Db):Prop:=
 (ϒS=Â ο/\m x=ķ)\/((ϵf ϒS (Â š)<|Â Ϝ)/\∃c,ϮX=ī/\h.Ē c ķ)
structure Cx.Ok(X:Cx):Prop where
 mod:ϙ1
 kind:X.env.scope.Ġ=ϻQ
 glob:X.Į=mainGlobals
 blt:X.env.builtins=builtinsNs
 above:X.Ý<=X.Ô
 inj:∀x y c,ϲ6->X.ô y=ī->x=y
 has:∀x,(ϵf ϑ8 (Â š)<|Â Ϝ)->∃c,ϲ6
 cab:∀x c,ϳg->ϲ6->X.Ý<=c
 hd:ϗ->X.A.handled=none
 frames:X.A.frames=Â X.ă
 stk:X.ă=X.outer\/(X.ă=X.Ü::X.outer/\X.env.frame=Â X.Ô)
 exf:∀b∈X.ex,Ϻ7/\∀x c,ϲ6->ϤL
 bs:∀b o,ϫm=Ö->ϐ0=Ö/\Ϻu X.H₀
 bsz:X.base.Â<=X.Ý
 noex:∀b o,ϫm=Ö->b∉X.ex
 exfs:∀b∈X.ex,ώd
 funs:ϗy X.outer
 frf:∀b∈X.fs,Ϻu X.H₀
structure Inv(X:Cx)(H6:À ŝ)(σ:À (Ü V))(H:Hp)(s:Da):Prop where
 ok:X.Ok
 os:s.os=X.s₀.os
 bare:ϩ0 s.Ĭ
 base:Un X.fs X.ex X.H₀ H X.s₀.Ì s.Ì
 loc:∃m,Ϙn/\∀(i:Nat)(x:Str)(v:V),á X.N=Ď->á σ=Â ĥ->Ϫ6 x->∃u,ϲM/\Look X.Ü s.Ì m x u
 cell:∀x c,ϲ6->∃v,s.heap.Ē c v
 free:H X.Ô=none
 freeC:∀x c,ϲ6->H c=none
 pin:∀p∈ύW,ϥr p.1=Â p.2/\H p.1=none/\Ϛy/\p.1∉X.fs/\∀v,p.2.data≠š v
 hok:Ϥ8 H s.Ì
 len:σ.À=X.õ
section
variable{X:Cx}{σ:À (Ü V)}{s:Da}{h':Op}
def Cx.Ok.nofr(ok:X.Ok)(e:ϫm=Ö):ώd:=λB=>by let:=(ok.funs.mem B).1;rw[e]at this;cases this
def Inv.bs(I:Ģ):∀b o,ϫm=Ö->ϰd=Ö/\ϰ7:=ϲZ ⟨ϛd ϑw,Ϫ5 (I.ok.bs b o e).1 (I.ok.bs b o e).2 ϑw⟩
def Inv.bk(I:Ģ):∀b o,ϫm=Ö->ϰd=Ö:=ϲZ (I.bs b o e).1
def Inv.mod(I:Ģ):ϙ1:=I.ok.mod
def Inv.kIn(I:Ģ):X.K.In s.Ì:=I.ok.mod.kin.keeps I.bk
def Inv.lt(I:Ģ):Ϥ7 X.Ô:=let⟨_,hn,_⟩:=I.loc;hn.lt
def Inv.sz(I:Ģ):ϑI X.Ý:=K9C I.ą<|Zaj I.lt
def Inv.nofs(I:Ģ)(h:ϙ2):a∉X.fs:=λB=>by let(_,o,j,_):=I.ok.funs.mem B;show ĭ (K9P (K9h j)<|K9C I.sz h) ϵJ
def Inv.cne(I:Ģ):∀x c,ϲ6->c≠X.Ô:=λx c e z=>by let(v,o,j,d):=ϥs e;obtain⟨m,⟨a,S,E,O,h,_⟩,_⟩:=I.loc;rw[z,O]at j;cases j;rw[h]at d;cases d
def Inv.funs(I:Ģ):Ϗ5 X.outer:=by
 let all:∀(l:À Env),(∀b∈frs l,b∈X.fs)->ϗy l->Ϗ5 l:=by
  ext l
  induction l with
  |nil=>ext _ _;trivial
  |cons env r ih=>
   ext S a;obtain⟨k,⟨L,o,f,n,j,d⟩,hr⟩:=a;let h:L∈X.fs:=S L (Ϙ2 K9z);let(c,e):=I.base.slot L o j (I.ok.frf L h) h λz=>I.ok.exfs L z h;show(k,(L,_,f,n,e,d),ih (λb B=>S b<|Ϙ2 (ě B)) hr)
 show all X.outer (λx B=>B) I.ok.funs
def Inv.stack(I:Ģ):Ϗ5 X.ă:=by
 rcases I.ok.stk with e|⟨e,f⟩
 .rw[e];show I.funs
 rw[e];let(m,n,_):=I.loc;show ą (ϓp I.Ą) f n ?_ I.funs;show Heap.get?_none_of_le<|ϯZ I.ą
def Inv.stkSub(I:Ģ):∀b∈ϯ5,b∈X.Ô::X.fs:=λb B=>by
 rcases I.ok.stk with e|⟨e,f⟩
 .rw[e]at B;show ě B
 rw[e]at B;erw[frs]at B;rw[K88,f]at B;show B
def Inv.stkFree(I:Ģ):∀b∈ϯ5,ϰ7:=λb B=>by
 rcases K8v.mp (ϒL B)with e|B
 .rw[e];show I.â
 let(_,o,j,_):=I.ok.funs.mem B;show Ϫ5 j (I.ok.frf b B) (λz=>I.ok.exfs b z B)
def Inv.step{g':Ζ GenState}{t':Nat}{d':Drawn}{ch:À Ix}(I:Ģ)
  (C:∀b∈ch,ϭ6/\Ϻ7/\(∀x c,ϲ6->ϤL)/\Ϗ6)
  (keep:∀b o,Ϻ7->ώd->Ϻm->ϰd=Ö->ϰ7->ϨP=Ö)
  (slot:∀b o,Ϻ7->b∈X.fs->Ϻm->ϰd=Ö->ϰ7->∃w,ϨP=Â {o with slots:=w}) (free:∀b o,Ϻm->ϰd=Ö->ϰ7->Ϻu H')
  (there:∀b o,Ϻm->ϰd=Ö->∃a,ϨP=Ϸr)
  (T:∀b S,ϱL (H b) (Â (Ī S)) H') (f:∀b o u,ϱL (H b) (Â (ϨO u)) H') (t:∀b P,H b=Â (.tbl P)->∃more,H' b=Â (.tbl<|P++more))
  (ns:∀m,Ϙn->h'.Ns X.Ô m) (O:Ϥ8 H' h') (hg:ϩ0 g'):
  ù H6 σ H' ϕZ:=by
 let L:∀b o,ϐ0=Ö->Ϻ7:=ϲZ (K9O<|K9P ϱw I.ą);let E:∀b o,ϐ0=Ö->b∉X.ex->Ϻm:=λb o e h B=>by
  rcases(C b B).1 with z|z
  .show h z
  show ĭ (K9P ϱw z) ϵJ
 let cellK:∀x c,ϲ6->∀v,s.heap.Ē c v->h'.Ē c v:=λx c e v⟨o,j,D⟩=>by
  let N:c∉ch:=λz=>ϴz (C c z) x c e rfl;cases A:c∈X.fs
  .let(w,q):=ϛO<|ϫF e
   show(_,q,D)
  show(o,ϛP<|ϫF e,D)
 show(I.ok,I.os,hg,(λb o e n B h=>?_,λb o e n B h=>?_,λb o e n h=>?_,λb o e h=>?_,λb S e=>T b S<|I.base.tups b S e,λb o S e=>f b o S<|I.base.frzs b o S e,λb P e=>?_),?_,ϸz ?_,?_,ϸz ?_,λp F=>?_,O,I.í)
 .show ϛg<|Ϫ5 e n h
 .let(w,e1):=ϐr h
  let(y,g):=ϛE<|Ϫ5 e n h;show(y,g)
 .let(a,e1):=ϮY h
  show ϛ6<|Ϫ5 e n h
 .let(a,e1):=ϮY h
  show there b a (E b o e h) e1
 .let(M,e1):=I.base.tbls b P e
  let(Q,g):=t b _ e1;show(M++Q,Ĥ g Array.append_assoc)
 .let(m,K,J):=I.loc
  show(m,ns m K,λi x v e1 g G=>?_);let(u,r,l):=J i x v e1 g G;show(u,r,?_);rcases l with l|⟨k,c,e,z⟩
  .show Ð l
  show Ø ⟨k,c,e,cellK x c e _ z⟩
 .let(v,z):=ϥs e
  show(v,cellK x c e v z)
 .obtain⟨m,⟨o,_,_,j,_⟩,_⟩:=I.loc
  show free _ o (λz=>(C _ z).2.1 rfl) j I.â
 .let(v,o,j,D):=ϥs e
  show ϛv<|ϫF e
 let(e,n,ne,nf,d):=ϻP F;let N:p.1∉ch:=λz=>(C p.1 z).2.2.2 p F rfl;show(keep p.1 p.2 ne nf N e n,free p.1 p.2 N e n,ne,nf,d)
def Inv.un(I:Ģ)(u:ϔW X.fs [] h')(h:Ϥ8 H' h'):ù H6 σ H' ((ϱl h' t')):=by
 obtain⟨m,⟨o,S,P,j,r⟩,_⟩:=id I.loc;let(L,l):=u.ě j I.â Û;show ϗp [] (λx z=>nomatch z) (λb o x B x e n=>u.ĉ b o e n B Û) (λb o x B x e n=>u.slot b o e n B Û) (λb o x e n=>ϗZ Û) (λb o x e=>ϘC Û) u.tups u.frzs u.tbls (λa M=>by let(c,E,p,O,R):=M;rw[j]at O;cases O;show(_,E,p,l,R)) h I.bare
def Inv.call(I:Ģ)(u:ϔW ϯ5 ch h')(k:Ϥ8 H' h')(hg:ϩ0 g')(h:∀b∈ch,ϭ6/\Ϻ7/\(∀x c,ϲ6->ϤL)/\Ϗ6):
  ù H6 σ H' ϕZ:=by
 obtain⟨m,⟨o,a,P,j,r⟩,_⟩:=id I.loc;let(L,l):=u.ě j I.â ϐh;show I.step (ch:=ch) h (λb o l B C e n=>u.ĉ b o e n (λz=>ϵb (K8v.mp<|ϒL z) l B) C) (λb o x x C e n=>u.ě e n C) (λb o C e n=>ϗZ C) (λb o C e=>ϘC C) u.tups u.frzs u.tbls (λd M=>by let(f,S,E,O,R):=M;rw[j]at O;cases O;show(_,S,E,l,R)) k hg
def Inv.turned{it:Ix}(I:Ģ)(k:∀b o,b≠it->ϱL ϰd Ö h'.È)(N:H it=none)(h:it≠X.Ô)(a:it∈X.ex\/X.Ý<=it)(d:∀x c,ϲ6->c≠it)(f:∀p∈ύW,p.1≠it):ù H6 σ H ((ϱl h' t')):=by
 let i:∀b u,H b=ķ->b≠it:=λb u e z=>by rw[z,N]at e;cases e
 show ϗp [it] ϹL (λb o x x C e x=>k b o (λz=>C<|Ϯ z) e) (λb o x x C e x=>⟨o.Ĩ,k b o (λz=>C<|Ϯ z) e⟩) Ϛz (λb o C e=>⟨o,k b o (λz=>C<|Ϯ z) e⟩) (λx x e=>e) (λx x x e=>e) ϖG Ϩo ϯK I.bare
 .let e:b=it:=ϳQ
  subst e;show(a,h,d,f)
 .let(o,S,E,j,r):=M
  show(o,S,E,k _ o Ϧm j,r)
 show Ϗo όM Ϩw;rcases C with z|z
 .rw[z];show i b u e
 show i c _ z
def Inv.tok(I:Ģ)(t:Nat):ù H6 σ H {s with toks:=t}:=I.un (h':=s.Ì) (t':=t) Un.refl I.hok
def Inv.kept(I:Ģ)(k:∀b u,ϱL ϰd ķ h'.È):ù H6 σ H ((ϱl h' t')):=I.un (Un.ò k)<|I.hok.ò k
def Inv.laid(I:Ģ)(k:∀b u,ϱL ϰd ķ h'.È)(p:ϙ2)(new:Ϲn (ļ a o) h' a o):
  ù H6 σ (ļ a o) ((ϱl h' t')):=ϛK<|I.hok.ĩ k p new
def Inv.write(I:Ģ)(m:Mut (H x))(he:e=x\/H e=Â ύU)(k:∀b u,b≠e->ϱL ϰd ķ h'.È)(h:∃u,ϨQ=ķ)(new:Ϲn (ļ x o) h' x o):ù H6 σ (ļ x o) ((ϱl h' t')):=ϛ3<|I.hok.write m he k h new
def Inv.weak(I:Ģ)(a:σ'.À=σ.À)(w:∀(i:Nat) v,á σ'=Â ĥ->á σ=Â ĥ):ù H6 σ' H s:=
 ⟨I.ok,I.os,I.bare,I.base,let⟨m,hn,hl'⟩:=I.loc;⟨m,hn,λi x v e1 g G=>hl' i x v e1 (w i v g) G⟩,I.cell,I.free,I.freeC,I.pin,I.hok,a.Å I.í⟩
def Inv.pins_of(I:Ģ)(h:∀p∈pins',ϥr p.1=Â p.2/\H p.1=none/\Ϛy/\p.1∉X.fs/\∀v,p.2.data≠š v):ù pins' σ H s:=
 (ώ9 I.ok (λp P=>ϵb (K9Y.mp P) (λz=>ϻP<|ϰA z)<|h p))
def Dd{N:À Str}(h:N.Í){i j:Nat}{x:Str}(a:N[i]?=Ď)(b:N[j]?=Ď):i=j:=by let(H,e1):=ZB.mp a;let(c,g):=ZB.mp b;show(Zel h).mp<|ϭn g.Ï
def Jx(I:Ģ)(hN:X.à)(hi:á X.N=Ď)(f:ϲf x)(r:ϲM)(h:∀s',ù H6 (Ϥ6 ĥ) H s'->(∃a,ϐs s'.Ì/\(a=X.Ô\/X.ô x=Ϸr))->Q () s')(hf:ϕ (ϳg\/ϱV=Â ο)):ϧP (ϐF u):=by
 let(m,R,hl):=id I.loc;let L:ł (ϯl .class||(ϯl .module&&X.Ô !=X.Į)):=ϣ I.Ą
 let l:i<σ.À:=Ô I.í (ϻW).1
 let cne:=I.cne;let tracked:∀{a:Ix}{h':Op},(∃o,ϯL=Ö/\϶n)->ϐs h'->Ϥ8 H h':=fun{a h'} ha S b ob e=>by
  let(_,_,F):=ha;show(I.hok b ob e).stay (λc W C q=>ĉ (ϥ3 ?_) q) όM Ϩw;ext rfl;rcases C with rfl|C
  .rw[F]at e;cases e
  rw[F]at C;cases C
 rcases f with K|K
 .apply wpAny_storeName_local K R (λh' T S=>?_) L
  let(oL,_,_,U,_):=id R;show h _ ⟨I.ok,I.os,I.bare,ϕe,⟨_,T,ϙ3⟩,λy c e=>?_,I.free,I.freeC,λp V=>?_,tracked ⟨oL,U,I.â⟩ S,ť I.í⟩ ⟨_,S,Ð rfl⟩
  .exact ϧc I.ą ϗ6
  .let(sl,e1):=ϐr f
   show(sl,ϧc I.ą e1)
  .let(Y,e1):=ϮY f
   show(Y,ϧc I.ą e1)
  .by_cases J:j=i
   .subst J
    rw[hi]at e1;cases e1;rw[K9I l]at g;cases g;show(u,r,Ð ⟨K,Û⟩)
   rw[K9E<|K8g J]at g;let(u',Z,q):=hl j y v' e1 g P;show(u',Z,?_);rcases q with⟨k,e⟩|⟨k,c,e,z⟩
   .apply Ð ⟨k,?_⟩
    let:y≠x:=λe=>J<|Dd hN e1 (e▸hi);simp[this,e]
   show Ø ⟨k,c,e,ϗt<|cne y c e⟩
  .let(W,z):=I.cell y c e
   show(W,ϗt<|cne y c e)
  let(e,n,ne,nf,d):=ϻP V;show(ĉ (S.2 p.1 ne) e,n,ne,nf,d)
 let N:ϳg:=by
  rcases hf with z|z
  .show z
  rw[z]at K;cases K
 let(c,C):=I.ok.has x<|Ð K;let(W,z):=ϥs C;show wpAny_storeName_cell I.Ą K C z λh' t S=>?_;let(oc,O,D):=id z;show h ϰH ⟨I.ok,I.os,I.bare,ϕe,⟨m,R.sameBut S<|K8g<|cne x c C,ϙ3⟩,λy G e=>?_,I.free,I.freeC,λp V=>?_,tracked ⟨oc,O,ϫF C⟩ S,ť I.í⟩ ⟨c,S,Ø C⟩
 .exact ϧc ϑi ϗ6
 .let(sl,e1):=ϐr f
  show(sl,ϧc ϑi e1)
 .let(Y,e1):=ϮY f
  show(Y,ϧc ϑi e1)
 .by_cases J:j=i
  .subst J
   rw[hi]at e1;cases e1;rw[K9I l]at g;cases g;show(u,r,Ø ⟨Ð K,c,C,t⟩)
  rw[K9E<|K8g J]at g;let(u',Z,q):=hl j y v' e1 g P;show(u',Z,?_);rcases q with q|⟨k,G,e,z'⟩
  .show Ð q
  show Ø ⟨k,G,e,z'.sameBut S ?_⟩;ext rfl;show J<|Dd hN e1 (I.ok.inj _ _ _ e C▸hi)
 .by_cases w:G=c
  .subst w;show(_,t)
  let(w2,z2):=I.cell y G e;show(w2,z2.sameBut S w)
 let(e,n,ne,nf,d):=ϻP V;show(ĉ (S.2 p.1 ?_) e,n,ne,nf,d);ext q;rw[q,O]at e;let q':oc=p.2:=K9R e;show d W (by rw[<-q'];show D)
def vf(I:Ģ)(n:X.à)(hi:á X.N=Ď)(b:ϲf x)(r:ϲM)(h:∀S,ù H6 (Ϥ6 ĥ) H S->Q () S)(f:ϕ (ϳg\/ϱV=Â ο)):ϧP (ϐF u):=
 Jx I n hi b r (λS a x=>h S a) f
def Inv.call'(I:Ģ)(j:s'.os=s.os)(u:ϔW ϯ5 ch s'.Ì)(O:Ϥ8 H' s'.Ì)(hg:ϩ0 s'.Ĭ)(C:∀b∈ch,ϭ6/\Ϻ7/\(∀x c,ϲ6->ϤL)/\Ϗ6):ù H6 σ H' s':=by let(h',g',d',t',a):=s';let e:a=s.os:=j;subst e;show I.call (g':=g') (t':=t') (d':=d') u O hg C
end
abbrev XK:=Db->Ü Ix->Ú Hp
abbrev St:=À<|Ü V
abbrev VK:=V->Ú Hp
abbrev TE:=St->Hp->Ú VK
abbrev TT:=St->Hp->Ú (Bool->Ú Hp)
abbrev TA:=St->Hp->Ú (À V->Ú Hp)
structure Ends where
 nx:St->Ú Hp
 rt:VK
 bk:St->Ú Hp:=λx x=>False
 ct:St->Ú Hp:=λx x=>False
abbrev TS:=Ends->St->Ú Hp
def EP(X:Cx)(p:À ŝ)(a:St)(Q:VK)(u:Db)(S:Da):Prop:=∃v h,ù p a h S/\ϲM/\Q v h
def TP(X:Cx)(p:À ŝ)(a:St)(Q:Bool->Ú Hp)(b:Bool)(S:Da):Prop:=∃h,ù p a h S/\Q b h
def AP(X:Cx)(p:À ŝ)(a:St)(Q:À V->Ú Hp)(u:À Db)(S:Da):Prop:=∃s h,ù p a h S/\Vals s u/\Q s h
def SP(X:Cx)(p:À ŝ)(D:Ends)(f:Flow)(S:Da):Prop:=
 match f with
 |.next=>∃a h,ù p a h S/\Ϥu h
 |.brk=>∃a h,ù p a h S/\D.bk a h
 |.cont=>∃a h,ù p a h S/\D.ct a h
 |.ret u=>∃v a h,ù p a h S/\ϲM/\D.rt v h
def PE(X:Cx)(e:On)(t:TE):Prop:=
 ∀(p:À ŝ)(s:Da)(a:St)(H:Hp)(Q:VK),ù p a H s->ϩu->Ő ϯM ϶0 X.xe s
def PT(X:Cx)(e:On)(t:TT):Prop:=
 ∀(p:À ŝ)(s:Da)(a:St)(H:Hp)(Q:Bool->Ú Hp),ù p a H s->ϩu->Ő (ϮN ϯM) ϒr X.xe s
def PW(X:Cx)(e:On)(t:TT):Prop:=
 ∀(whole:Sem Db)(p:À ŝ)(s:Da)(a:St)(H:Hp)(Q:Bool->Ú Hp),ù p a H s->ϩu->Ő (ϮN whole) ϒr X.xe s
def PW.pt(h:PW X e t):ϸV e t:=h _
def PA(X:Cx)(e:À On)(t:TA):Prop:=
 ∀(pos:Pos)(p:À ŝ)(s:Da)(a:St)(H:Hp)(Q:À V->Ú Hp),ù p a H s->ϩu->Ő (spliced<|ϲB<|starEach e X.Ü) (AP X p a Q) X.xe s
def PS(X:Cx)(T:No)(t:TS):Prop:=
 ∀(p:À ŝ)(s:Da)(a:St)(H:Hp)(D:Ends),ù p a H s->t D a H->Ő (exec T X.Ü) ϔf X.xe s
def PSs(X:Cx)(T:À No)(t:TS):Prop:=
 ∀(p:À ŝ)(s:Da)(a:St)(H:Hp)(D:Ends),ù p a H s->t D a H->Ő (execs T X.Ü) ϔf X.xe s
def Wp(h:wpAny M A t Q E s)(q:∀a s,Q a s->Q' a s):wpAny M A t Q' E s:=K8m h q όZ
section
variable{X:Cx}
def iX(i:Nat):TE:=λa H Q=>∃v,ϴp=Â ĥ/\Q v H
def tC(v:V):TE:=ϤG (Q v H)
def eJ{pos:Pos}(n:á X.N=Ď)(V:Ϫ6 x)(D:ϲx)(d:ϱE (ł<|x==ϐt)):ā (ð pos) ϲn:=by
 ext p s b H Q I h;let(v,e,h):=h;let(m,N,L):=I.loc;let(u,r,l):=L i x v n e V;let fin:ϵW p b Q u s:=ϑM;rcases l with⟨k,M⟩|⟨k,c,a,C⟩
 .show ϔd (ϖZ k N M fin)
 rcases k with k|k
 .show ϔd (ϖ8 k a C fin)
 show ϔd (wpAny_loadName_free I.Ą k a C fin d)
def Td{i j pos}:ā (ϻe<|Ä i) (tC<|Ä i):=ϧO (wpAny_Constant_int ⟨Ä i,H,ϨY,ζ,h⟩)
def Yq{b j pos}:ā (ϻe<|ã b) (tC ϵO):=ϧO (Constant_bool ⟨ϵO,H,I,rfl,h⟩)
def Vu{j pos}:ā (ϻe ò) (tC Α):=ϧO (Constant_none ⟨Α,H,I,rfl,h⟩)
def S6{x j pos}:ā (ϻe<|Ė x) (tC<|Ė x):=λz z z H z I h=>Calls.Constant_str ⟨Ė x,H,ϨY,ζ,h⟩
def Gl(X:Cx)(x:Str):Prop:=ϑ8=Â .globalImplicit
def Hu{pos:Pos}(I:Ģ)(hg:γ x)(M:X.mg x=ķ)(h:Q u s)(d:ϲx):Ő (ϬO<|ð pos) Q E s:=
 ϖi (Calls.loadGlobal_global (Ô I.ok.glob ϐu) M h) d
def lW{pos:Pos}(I:Ģ)(hg:γ x)(M:ϥn)(v:Ϲi=ķ)(h:Q u s)(n:ϱE Ϲd)(d:ϲx):Ő (ϬO<|ð pos) Q E s:=by let(m,a,b):=I.mod.blt;show ϖi (Calls.loadGlobal_builtin (Ô I.ok.glob ϐu) M (Ô I.ok.blt<|a.keeps I.bk) (ĉ (b x n) v) h) d
def Pt{pos:Pos}(hg:γ x)(M:X.mg x=ķ)(r:ϲM)(d:ϲx):ā (ð pos) (tC v):=
 ϧO (Hu I hg M ϑM d)
def O4{pos:Pos}(hg:γ x)(M:ϥn)(V:Ϲi=ķ)(r:ϲM)(n:ϱE Ϲd)(d:ϲx):ā (ð pos) (tC v):=
 ϧO (Ϩt V ϑM n d)
variable{ta tb:TE}{pos:Pos}
def tB(t:TE):TT:=϶2 (λx h=>ύ4 (Q c h))
def Ui(h:ā e t)(he:ϐD (∀whole,ϮN whole=(do let v <-whole;standAt e.ú;holding [v] (truthy v)))):ϸV e (tB t):=by
 ext p s c H Q I w;show isTrue_plain (Ϲh<|Ϧn c H _ I w)<|he _;let(x,a,i,r,b):=zq;let(d,rfl,q):=b;cases r;show K8b ⟨a,i,q⟩
variable{rest:À On}
def Ww(t u:TT):TT:=϶2 (λc h=>Ë ϱt (u a h Q) (Q false h))
def tOr(t u:TT):TT:=϶2 (λc h=>Ë ϱt (Q true h) (u a h Q))
def Yh(t:TT):TT:=϶2 (λc h=>Q (!c) h)
def QC(A:Ϭl):PW X (ϱH And [a]) tA:=by
 ext w p s b H Q I h;show isTrue_and ϖ0;cases c with|true=>show isTrue_and_nil e|false=>show e
def TK(A:Ϭl):PW X (ϱH Or [a]) tA:=by
 ext w p s b H Q I h;show isTrue_or ϖ0;cases c with|false=>show isTrue_or_nil e|true=>show e
def U9(A:Ϭl)(B:PW X (ϱH And ϳu) tB'):PW X (ϱH And<|a::ϳu) (Ww tA tB'):=by
 ext w p s e H Q I h;show isTrue_and<|Wp Ϫ0 λc S zq=>?_;let(d,i,q):=zq;cases c with|true=>show B w p S e d Q i q|false=>show(d,i,q)
def X9(A:Ϭl)(B:PW X (ϱH Or ϳu) tB'):PW X (ϱH Or<|a::ϳu) (tOr tA tB'):=by
 ext w p s e H Q I h;show isTrue_or<|Wp Ϫ0 λc S zq=>?_;let(d,i,q):=zq;cases c with|true=>show(d,i,q)|false=>show B w p S e d Q i q
def UU(A:Ϭl):ϸV ϮD (Yh tA):=ϘG (isTrue_not<|ώS d H (λc b=>Q (!c) b) I h)
def R8(ta tb:TE):TE:=ϧo (ύ4 (Ë ϱt (tb a h Q) (Q ύr h)))
def Xx(ta tb:TE):TE:=ϧo (ύ4 (Ë ϱt (Q ϬA h) (tb a h Q)))
def Ri(ta:TE):TE:=ϧo (ύ4 (Q (.bl<|!c) h))
def U5{op}(h:ā a t):ā Ϙ5 t:=λp s b H Q I w=>BoolOp_one<|Ϧn b H Q I w
def VC(A:ā a ta)(B:ā (ϱH And ϳu) tb):ā (ϱH And<|a::ϳu) (R8 ta tb):=by
 ext p s e H Q I h;show BoolOp_and<|Ϲh Ϫ0;let(x,d,i,r,q):=zq;let(c,rfl,q):=q;cases r;show K8b ?_;cases c with|true=>show B p S e d Q i q|false=>show(ύr,d,i,rfl,q)
def XJ(A:ā a ta)(B:ā (ϱH Or ϳu) tb):ā (ϱH Or<|a::ϳu) (Xx ta tb):=by
 ext p s e H Q I h;show BoolOp_or<|Ϲh Ϫ0;let(x,d,i,r,q):=zq;let(c,rfl,q):=q;cases r;show K8b ?_;cases c with|false=>show B p S e d Q i q|true=>show(ϬA,d,i,rfl,q)
def UK(A:ā a ta):ā ϮD (Ri ta):=by
 ext p s e H Q I h;show UnaryOp_<|Ϲh Ϫ0;let(x,d,i,r,b):=zq;let(c,rfl,b):=b;cases r;show not_of<|K8b ⟨.bl<|!c,d,i,rfl,b⟩
def tIf(t:TT)(ta tb:TE):TE:=϶2 (λc h=>Ë ϱt (ta a h Q) (tb a h Q))
def LP(C:ϸV c tA)(A:ā a ta)(B:ā b tb):ā ϙD (tIf tA ta tb):=by
 ext p s e H Q I h;show wpAny_IfExp ϖW;let(f,i,q):=zq;cases d with|true=>show A p S e f Q i q|false=>show B p S e f Q i q
end
def SqL(K:At)(H:Hp)(a:Ix)(X:À V):Prop:=
 Ϸo (ô X)\/
  ∃(o:Obj)(i:Ζ Db)(n:Nat),ό0=Ö/\o.cls=Ω "list"/\o.dict=none/\o.data=δ i n/\ŀ i.Ã/\ţ X i.ð
def SqT(K:At)(H:Hp)(a:Ix)(X:À V):Prop:=
 Ϸo (Ī X)\/
  ∃(o:Obj)(i:Ζ Db)(n:Nat),ό0=Ö/\o.cls=Ω "tuple"/\o.data=δ i n/\ŀ i.Ã/\ţ X i.ð
def Zi:Db->Ü V|.none=>Â Α|.bool b=>Â ϵO|.int i _=>Â<|Ä i|.str x _=>Â<|Ė x|.bytes b _=>Â<|.byt b|.float b _=>Â<|.flt b|.ref a=>Â<|É a|.type n=>Â<|.ty n|_=>none
def RelV.abs(r:ϱ5 u):Zi u=Ď:=by
 cases x with
 |non=>cases r;rfl
 |bl _=>cases r;rfl
 |int _=>let(t,rfl):=r;rfl
 |str _=>let(t,rfl):=r;rfl
 |byt _=>let(t,rfl):=r;rfl
 |flt _=>let(t,rfl):=r;rfl
 |ref _=>cases r;rfl
 |ty _=>cases r;rfl
def RelV.inj(r:ϱ5 u)(q:϶o):x=y:=K9R<|r.abs.Ñ q.abs
def Vals.inj{X y:À V}{s:À Db}(h:ţ X s)(k:Vals y s):X=y:=by
 induction X generalizing y s with
 |nil=>cases h;cases k;rfl
 |cons a X i=>cases h with|cons r t=>cases k with|cons r' t'=>rw[r.inj r',i t t']
section
variable{X:Cx}{s:Da}{xs ys:À V}
def SqL.of{K:At}(h:H a=Â (ô xs)):μ a xs:=Ð<|Ð h
def SqT.of{K:At}(h:H a=Â (Ī xs)):Ϲ4 a xs:=Ð<|Ð h
def Inv.list(I:Ģ)(h:ϴY H a xs):∃i:À Db,Ϥf i/\PlainL s.Ì a i.Æ/\ŀ xs.À:=by
 rcases h with h|⟨o,i,n,k,C,d,S,Z,r⟩
 .let(z,i,n,r,e):=ϔg
  show(i,r,(_,n,e,rfl,rfl,rfl),z)
 show(i.ð,r,(o,n,I.kIn a o k,C,d,Ϛ2),?_);let e:=r.À;simp only[K8t]at e;lia
def Inv.tuple(I:Ģ)(h:Ϭm a xs):∃i:À Db,Ϥf i/\IsTup s.Ì a i.Æ/\ŀ xs.À:=by
 rcases h with h|⟨o,i,n,k,C,S,Z,r⟩
 .let(z,i,r,p):=ϔg
  show(i,r,p,z)
 show(i.ð,r,(o,I.kIn a o k,C,n,Ϛ2),?_);let e:=r.À;simp only[K8t]at e;lia
def Inv.list_inj(I:Ģ)(h:ϴY H a xs)(h':ϴY H a ys):xs=ys:=by
 obtain⟨i,r,⟨o,n,e,_,_,d⟩,_⟩:=I.ê h;obtain⟨its',R,⟨O,N,e',_,_,d'⟩,_⟩:=϶F h';rw[e]at e';cases e';rw[d]at d';injection d' with D _
 let:i=its':=ť (Uf Array.toList D)
 subst this;show r.inj R
def Inv.tuple_inj(I:Ģ)(h:Ϭm a xs)(h':Ϭm a ys):xs=ys:=by
 obtain⟨i,r,⟨o,e,_,n,d⟩,_⟩:=I.Ă h;obtain⟨its',R,⟨O,e',_,N,d'⟩,_⟩:=I.Ă h';rw[e]at e';cases e';rw[d]at d';injection d' with D _
 let:i=its':=ť (Uf Array.toList D)
 subst this;show r.inj R
end
abbrev Cx.wish(X:Cx)(E:Db->Ú Da):Cx:={X with xe:=E}
abbrev Cx.nox(X:Cx):Cx:=X.wish ϶Y
def Cx.Ok.wish{X:Cx}(ok:X.Ok)(E:Db->Ú Da):(Ϭf).Ok:=
 ϔ7
def Cx.Ok.unwish{X:Cx}{E:Db->Ú Da}(ok:(Ϭf).Ok):X.Ok:=
 ϔ7
section
variable{X:Cx}
def Inv.wish(I:Ģ)(E:Db->Ú Da):Inv Ϭf H6 σ H s:=(ώ9 (I.ok.wish E) I.pin)
def Inv.unwish(I:Inv Ϭf H6 σ H s):Ģ:=(ώ9 I.ok.unwish I.pin)
def SP.unwish(h:SP Ϭf H6 D f s'):SP X H6 D f s':=by
 cases f with|next=>let(a,H,I,q):=h;show(a,H,I.unwish,q)|brk=>let(a,H,I,q):=h;show(a,H,I.unwish,q)|cont=>let(a,H,I,q):=h;show(a,H,I.unwish,q)|ret u=>let(v,a,H,I,r,q):=h;show(v,a,H,I.unwish,r,q)
def PSs.nox{T:À No}(h:PSs X.nox T t):ϴ4 T t:=λp s a H D I w=>K8m (Ϧn a H D (I.wish _) w) (λx x q=>q.unwish) λx x z=>ϳm z
end
section
variable{X:Cx}{st:No}{rest:À No}{t u:TS}{te:TE}{pos:Pos}
def Rq:TS:=λD a H=>Ϥu H
def XW(t u:TS):TS:=λD a H=>t {D with nx:=u D} a H
def GN:ϴ4 [] Rq:=λx x a H x I h=>K8W ⟨a,H,I,h⟩
def D9(c:ϲa st t)(d:ϴ4 rest u):ϴ4 (st::rest) (XW t u):=by
 ext p s e H D I h;show ϗ2<|c p s e H {D with nx:=u D} I h;cases f with|next=>let(a,b,i,q):=q;show d p S a b D i q|ret v=>show q|brk=>show q|cont=>show q
def QX(a:ϲa st t):ϴ4 [st] t:=by
 ext p s b H D I h;show ϗ2<|a p s b H D I h;cases f with|next=>show K8W q|ret v=>show q|brk=>show q|cont=>show q
def Inv.quiet(I:Ģ):ł (interactive X.Ü):=by simp[interactive,I.ok.kind]
def wN(te:TE):TS:=ϒR (λx h=>Ϥu h)
def CB(he:ā e te)(S:à (ϫI none pos.line X.Ü=ϥt)):ϲa (.Expr e pos) (wN te):=ϙk (wpAny_Expr_any (Wp ϮS λv c zq=>Ϙj ⟨a,b,i,q⟩) I.quiet S)
def J4(te:TE):TS:=ϒR D.rt
def Cp(he:ā e te):ϲa (Ϭh Ϲ5) (J4 te):=ϙk (wpAny_Return_some<|Wp ϮS λv S zq=>Ϙj ⟨x,a,b,i,r,q⟩)
def YB(c:TT)(t u:TS):TS:=λD a H=>c a H λb h=>Ë (b=true) (t D a h) (u D a h)
def Wq(C:ϸV c tc)(A:ϴ4 a t)(B:ϴ4 b u):ϲa (.If c a b pos) (YB tc t u):=by
 ext p s e H D I h;show wpAny_If ϖW;let(f,i,q):=zq;cases d with|true=>show A p S e f D i q|false=>show B p S e f D i q
def Bi:TS:=ϧL
def Lu:ϲa st Bi:=ϘK
end
abbrev TG:=V->St->Hp->Ú (St->Ú Hp)
abbrev TGs:=À V->St->Hp->Ú (St->Ú Hp)
def PG(X:Cx)(target:On)(t:TG):Prop:=
 ∀(p:À ŝ)(s:Da)(b:St)(H:Hp)(v:V)(u:Db)(Q:St->Ú Hp),ù p b H s->ϲM->t v b H Q->
  Ő (assign target X.Ü u) (λx S=>∃a h,ù p a h S/\Q a h) X.xe s
def PGs(X:Cx)(ts:À On)(t:TGs):Prop:=
 ∀(p:À ŝ)(s:Da)(b:St)(H:Hp)(v:À V)(u:À Db)(Q:St->Ú Hp),ù p b H s->Vals v u->t v b H Q->
  Ő (assignInOrder (Ê (Ϲf ts) Ž) u) (λx S=>∃a h,ù p a h S/\Q a h) X.xe s
abbrev UE:=V->Ϫf (Ú (Ú Hp))
def UP(X:Cx)(t:UE):Prop:=
 ∀(p:À ŝ)(s:Da)(a:St)(H:Hp)(o i v:V)(O I u:Db)(Q:Ú Hp),ù p a H s->RelV o O->RelV i I->ϲM->t o i v H Q->
  Ő (setItem O I u) (λx S=>∃h,ù p a h S/\Q h) X.xe s
abbrev TIp:=Ϫf (Ú VK)
def PIp(X:Cx)(op:Operator)(t:TIp):Prop:=
 ∀(p:À ŝ)(s:Da)(a:St)(H:Hp)(x y:V)(v u:Db)(Q:VK),ù p a H s->ϱ5 v->϶o->t x y H Q->
  Ő (inplaceOp op v u) ϶0 X.xe s
section
variable{X:Cx}{pos:Pos}
def uZ(i:Nat):TG:=λv a H Q=>Q (Ϲm ĥ) H
def HF(n:X.à)(hi:á X.N=Ď)(b:ϲf x)(f:ϕ (ϳg\/ϱV=Â ο)):PG X (ð pos) Ϫo:=by ext p s c H v u Q I r h;show wpAny_assign_Name<|vf I n hi b r (λS a=>⟨_,H,a,h⟩) f
def Yg:TGs:=λs a H Q=>s=[]/\Q a H
def RO(t:TG)(u:TGs):TGs:=λs b H Q=>∃v r,s=v::r/\t v b H λa h=>u r a h Q
def N8:ϦQ [] Yg:=by ext p s a H v u Q I r h;let(e,h):=h;subst e;cases r;show assignInOrder_nil ⟨a,H,I,h⟩
def M8(c:PG X e t)(d:ϦQ es u)(S:à (Ê (Ϲf Ũ) Ž=assign e X.Ü::Ê (Ϲf es) Ž)):ϦQ Ũ (RO t u):=by
 ext p s g H j U Q I r h;let(v,V,e1,h):=h;subst e1;cases r with
 |cons r rr=>
  rw[S];show assignInOrder_cons<|Wp (c p s g H _ _ _ I r h) λx f zq=>?_;let(a,b,i,q):=zq;show d p f a b _ _ Q i rr q
def X7(K:At)(n:Nat)(t:TGs):TG:=λv b H Q=>∃a X,v=É a/\Ϲ4 a X/\X.À=n/\t X b H Q
def SO(C:ϗ)(h:ϦQ es t)(N:à (Ã (Ϲf es)=n))(S:à ((Ϲf es).findIdx? ϔ=none)):PG X (ϻv k pos) (X7 X.K n t):=by
 ext p s c H v u Q I r w;let(a,f,e1,q,l,w):=w;subst e1;cases r;let(d,R,T,Z):=I.Ă q;show assign_Tuple_tuple ϳW T (by simp[N,<-l,R.length]) S λh' x=>?_;let i:ù p c H ϰH:=I.ò (t':=s.ã) (ϲZ (x b o (K9O ϱw) e));show h p _ c H f _ Q i (by simpa using R) w
def Sd(to ti:TE)(t:UE):TG:=λv a H Q=>to a H λo h=>ti a h λi b=>t o i v b λc=>Q a c
def Nv(j:ā o to)(hi:ā i ti)(S:UP X t)(A:autoParam (∀v,ϧX (ŕ o i pos) v=(do
   let ov <-holding [v] (eval o X.Ü)
   let iv <-holding [v,ov] (eval i X.Ü)
   standAt pos
   holding [v,ov,iv] (setItem ov iv v)
   release [v,ov,iv] [])) mqad.é):PG X (ŕ o i pos) (Sd to ti t):=by
 ext p s a H v u Q I r h;rw[A];show ϧN<|Wp ϙ4 λov n zq=>?_;let(x,b,e,R,q):=zq;show ϧN<|Wp (Ϥp n a b _ e q) λiv w zq=>?_;let(y,c,f,m,k):=zq;show Ps<|K7o<|ϧN<|Wp (S p w a c x y v ov iv u _ f R m r k) λx z zq=>?_;let(d,g,l):=zq;show wpAny_release ⟨a,d,g,l⟩
def Bn(te:TE)(g:TG):TS:=ϒR (λx h=>g x a h D.nx)
def Bl(he:ā e te)(hg:ϩU X)(S:à (ϭ0 tg))(w:à (Ϯe tg))(c:à (Ϫz tg)):ϲa (ϴZ [tg] e pos) (Bn te g):=by
 ext p s a H D I h;show wpAny_Assign_stores (Wp ϮS λv d zq=>?_) S w;let(x,b,i,r,Q):=zq;rw[c];show Wp (hg p d a b x v _ i r Q) λx f q=>q
def SK(n:X.à)(hi:á X.N=Ď)(c:ϲf x)(he:ā e te)(S:à (ϫI (Â<|ð pos') pos.line X.Ü=ϥt))(F:ϕ (ϳg\/ϱV=Â ο)):
  ϲa (ϴZ [ð pos'] e pos) (Bn te Ϫo):=by
 ext p s d H D I h;show wpAny_Assign_Name (ϘL<|λv g zq=>?_) S;let(y,a,b,r,q):=zq;show vf b n hi c r (λw f=>⟨_,a,f,q⟩) F
def Xo(i:Nat)(te:TE)(ti:TIp):TS:=λD a H=>∃x,ϴp=Â Ď/\te a H λy h=>ti x y h λz b=>D.nx (Ϲm<|Â z) b
def Tg(N:X.à)(hi:á X.N=Ď)(b:ϲf x)(he:ā e te)(O:ώe ti)(F:ϕ (ϳg\/ϱV=Â ο)):
  ϲa (Ϯ7<|ð pos') (Xo i te ti):=by
 ext p s d H D I h;let(v,e1,h):=h;let(m,t,L):=I.loc;let V:Ϫ6 x:=by rcases b with k|k;show Ð k;show Ø<|Ð k
 let(u,r,l):=L i x v hi e1 V;show wpAny_AugAssign_Name ?_;let go:Ő ϯM (λw S=>Ő (inplaceOp op u w) (λr a=>Ő (ϐF r) (λx=>ϔf .next) X.xe a) X.xe S) X.xe s:=by
  show ϘL (λw E zq=>?_);let(y,f,j,R,Q):=zq;show Wp (O p E d f v y u w _ j r R Q) λz G zq=>?_;let(Z,g,n,B,A):=zq;show vf n N hi b B (λJ o=>⟨_,g,o,A⟩) F
 rcases l with⟨K,M⟩|⟨K,c,q,C⟩
 .show ϖZ K t M go
 rcases K with K|K
 .show ϖ8 K q C go
 rcases b with k|k
 .let:ϱV=Â Ϝ:=K
  rw[k]at this;cases this
 let:ϱV=Â Ϝ:=K;rw[k]at this;cases this
def Q9(to ti te:TE)(t:Ϫf (Ú VK))(p:TIp)(s:UE):TS:=λD a H=>to a H λo h=>ti a h λi b=>t o i b λx c=>te a c λy d=>p x y d λz e=>s o i z e λf=>Ϥu f
def XM(X:Cx)(t:Ϫf (Ú VK)):Prop:=
 ∀(p:À ŝ)(s:Da)(a:St)(H:Hp)(o i:V)(O I:Db)(Q:VK),ù p a H s->RelV o O->RelV i I->t o i H Q->
  Ő (getItem O I) ϶0 X.xe s
def QA(y:ā o to)(hi:ā i ti)(hg:XM X tget)(he:ā e te)(P:ώe tip)(S:UP X tset)(A:∀O V new,augStore i O V new=(do holding [new,O,V]<|setItem O V new;release [new,O,V] [];pure .next):=by intros;rfl):ϲa (Ϯ7<|ŕ o i tpos) (Q9 to ti te tget tip tset):=by
 ext p s a H D I h;show wpAny_AugAssign_SubscriptAny (Wp (y p s a H _ I h) λO K zq=>?_) A;let(x,c,l,r,Q):=zq;show Wp (Ϥp K a c _ l Q) λV L zq=>?_;let(b,d,n,m,z):=zq;show Wp (hg p L a d x b O V _ n r m z) λold M zq=>?_;let(T,f,q,R,B):=zq;show Wp (he p M a f _ q B) λv s4 zq=>?_;let(U,g,t,G,C):=zq;show Wp (P p s4 a g T U old v _ t R G C) λnew N zq=>?_;let(W,j,u,J,E):=zq;show Wp (S p N a j x b W O V new _ u r m J E) λx Y zq=>by let(k,w,F):=zq;show ⟨a,k,w,F⟩
def ipI(f:ϱv Int Int):TIp:=ϰk (∃i j,x=Ä i/\y=Ä j/\Q (Ä<|f i j) H)
def yN:PIp X .Add (ipI ϔh):=by ext p s a H x y v u Q I r m h;let(i,j,e1,g,q):=h;subst e1;subst g;let(t,rfl):=r;let(T,rfl):=m;show iadd_int (ϵl (Ä _) ζ)
def Nh:PIp X .Sub (ipI λi j=>i-j):=by ext p s a H x y v u Q I r m h;let(i,j,e1,g,q):=h;subst e1;subst g;let(t,rfl):=r;let(T,rfl):=m;show isub_int (ϵl (Ä _) ζ)
end
section
variable{X:Cx}{pos:Pos}
def Kt(c:TT)(tb:TS):TS:=λD a H=>∃W:Nat->St->Ú Hp,(∃m,W m a H)/\∀m a H,W m a H->
 c a H λb e=>Ë (b=true) (∃N:St->Ú Hp,(∀d h,N d h->∃M,M<m/\W M d h)/\ϖ1 a e) (Ϥu e)
def Mo(P:PassesOwn ϳP X.A X.Ü X.xe)(C:ϸV c tc)(B:ϴ4 body tb):ϲa Ϙo (Kt tc tb):=by
 ext p s x H D I h;obtain⟨W,⟨m0,u⟩,turn⟩:=h;show wpAny_While<|codeAny_whileLoop (λn S=>∃e j,ù p e j S/\W n e j) ?_ m0 ⟨x,H,I,u⟩;ext n s1 ⟨σ1,H1,I1,w1⟩;show ϥR<|Wp (Ϝh<|turn n σ1 H1 w1) λb t zq=>?_;let(o,q,k):=zq;cases b with
 |true=>
  let(N,r,k):=k;rw[Ĝ];show ϥR<|Wp (B p t σ1 o _ q k) λf z l=>?_;cases f with|next=>let(a,d,g,i):=l;let(m,M,w):=r a d i;show(m,M,a,d,g,w)|cont=>let(a,d,g,i):=l;let(m,M,w):=r a d i;show(m,M,a,d,g,w)|brk=>show l|ret v=>show l
 |false=>rw[ϳD];show K8W ⟨σ1,o,q,k⟩
end
structure It where
 go:Nat->Ú Hp
 yld:Nat->Hp->V->Ú Hp
 stop:Nat->Ú Hp
def nj(X:Cx)(i:À ŝ)(H:Hp)(b:Ix):Prop:=
 ϰ7/\Ϻ7/\ώd/\ϭ6/\(∀x c,ϲ6->ϤL)/\∀p∈X.pn++i,p.1≠b
def Inv.fpOk(I:Ģ)(B:s.Á<=b)(n:Ϻu H'):ϵE H' b:=by
 show(n,Zbx<|K9P I.lt B,I.nofs B,Ø<|K9C I.sz B,λx c e z=>?_,λp h z=>?_)
 .let(v,q):=ϥs e
  show ĭ (K9P q.lt<|ϯ3 z) ϵJ
 show ĭ (K9P (K9h (ϻP h).1)<|ϯ3 z) ϵJ
structure Turn(P:Do)(w:Ev)(K:At)(tg:On)(J:It)(fp:À Ix)(it:Ix)(tn:Nat->Ú Op):Prop where
 mem:it∈fp
 obj:∀i h,tn i h->ϳA (∃o,Ϸe=Ö/\∀v,o.data≠š v)
 keep:∀i h h',tn i h->(ϳA<|∀o,ϷN Ö)->tn i h'
 item:∀(X:Cx),X.ø=P->X.w=w->ϺB->ϗ->∀(i:Nat)(H6:À ŝ)(s:Da)(σ:St)(H:Hp)(E:Db->Ú Da),Ģ->(ϳA<|ϵE H b)->ϓA->J.go i H->
  wpAny ϻw X.A (pyNext<|É it) (λr s1=>∃u,r=ķ/\
   ϷF ϻw X.A (ϐv (É it) u) (λz s2=>∃x H',ù H6 σ H' s2/\ϱ5 u/\ϓB H'/\tn (i+1) s2.Ì/\ϳA (Ϻu H')) E s1) E s
 done:∀(X:Cx),X.ø=P->X.w=w->ϺB->ϗ->∀(i:Nat)(H6:À ŝ)(s:Da)(σ:St)(H:Hp)(E:Db->Ú Da),Ģ->(ϳA<|ϵE H b)->ϓA->ώf H->
  ϷF ϻw X.A (pyNext<|É it) (λr s1=>r=none/\ù H6 σ H s1) E s
 self:∀(A:Go)(i:Nat)(s:Da)(Q:Db->Ú Da)(E:Db->Ú Da),ϓA->Q (É it) s->ϷF ϻw A (pyIter<|É it) Q E s
abbrev TI:=St->Hp->Ú (It->Ú Hp)
def PIE(X:Cx)(p:À ŝ)(a:St)(tg:On)(R:It->Ú Hp)(i:Db)(w:Da):Prop:=
 ∃(it:Ix)(f:À Ix)(tn:Nat->Ú Op)(J:It)(h:Hp),i=É it/\ù p a h w/\Ϙp f it tn/\tn 0 w.Ì/\(∀b∈f,nj X p h b)/\R J h
def PI(X:Cx)(tg iter:On)(wi:TI):Prop:=
 ∀(p:À ŝ)(s:Da)(a:St)(H:Hp)(R:It->Ú Hp),ù p a H s->wi a H R->
  Ő (ϬO iter) (λv S=>Ő (pyIter v) (PIE X p a tg R) X.xe S) X.xe s
def He{it:Ix}(j:s.Ë it=Ö)(C:o.cls=Ω n)(d:o.data=ϐ vs)(H:ł ϔ8)(q:Q () s):ϧP (ϐv (É it) u):=by
  erw[letOwnedTupleGo];cases tg<;>first
    |show K9J q
    | (cases u<;>first
        |show K9J q
        | (show Ps<|wpAny_load j ?_
           rw[C,d];change ϧP (Ë (Μ (ϔ8&&vs[0]? ==Â (rawInt _))) _ _);rw[P3<|by ext h;rw[H,Zez]at h;cases h]
           show K9J q))
def Itl(K:At)(a:Ix):It:=
 (Ϯx (∃X x,μ a X/\á X=Ď) (όi (∀X,μ a X->á X=Ď)) (μ a X))
def Itt(K:At)(a:Ix):It:=
 (Ϯx (∃X x,Ϲ4 a X/\á X=Ď) (όi (∀X,Ϲ4 a X->á X=Ď)) (Ϲ4 a X))
def Itr(lo:Int)(n:Nat):It:=⟨λi x=>i<n,όi (x=Ä (lo+i)),λi x=>n<=i⟩
def JG{P:Do}{w:Ev}{K:At}{tg:On}(a it:Ix):Ϯs (Itl K a) ϙ5 where
 mem:=Û
 obj:=λi h T b B=>by
  let e:b=it:=ϳQ
  subst e;let(o,e,c,d):=T;show(o,e,ϪJ)
 keep:=ύy (T.at λo e=>k it Û o e)
 item:=by
  ext X r W m C i n s A H E I f T hg;subst r W m;let(N,x,q,y):=hg;let(S,R,p,Z):=϶F q;let(u,U,L):=R.get y;let(F,g,J,j,f4,l):=f it Û;show wpAny_pyNext_list_item T p.Ê (x:=u) ϮZ λh' t M=>?_;let D:ù n A H ϰH:=ϖn (ĉ (M.2 b B) e);let(o,e,c,d):=id t;show(u,rfl,He (s:=ϰH) e c d Ý ⟨x,H,D,L,Ϸv (ϘH I.č),t,ϯh⟩)
 done:=by
  ext X r W m C i n s A H E I f T hg;subst r W m;let(N,q,y):=hg;let(S,R,p,Z):=϶F q;let(F,g,J,j,f4,l):=f it Û;let O:=R.À;show wpAny_pyNext_list_end ϳW T p.Ê ϳc ϭM
 self:=ϮH wpAny_pyIter_listiter
def EZ{P:Do}{w:Ev}{K:At}{tg:On}(a it:Ix):Ϯs (Itt K a) (h.IsTupleIter it a i) where
 mem:=Û
 obj:=λi h T b B=>by
  let e:b=it:=ϳQ
  subst e;let(o,e,c,d):=T;show(o,e,ϪJ)
 keep:=ύy (T.at λo e=>k it Û o e)
 item:=by
  ext X r W m C i n s A H E I f T hg;subst r W m;let(N,x,q,y):=hg;let(t,R,p,Z):=I.Ă q;let(u,U,L):=R.get y;let(F,g,J,j,f4,l):=f it Û;show wpAny_pyNext_tuple_item T (ϐd s.Ć) (x:=u) ϮZ λh' S M=>?_;let D:ù n A H ϰH:=ϖn (ĉ (M.2 b B) e);let(o,e,c,d):=id S;show(u,rfl,He (s:=ϰH) e c d Ý ⟨x,H,D,L,Ϸv (ϘH I.tuple_inj),S,ϯh⟩)
 done:=by
  ext X r W m C i n s A H E I f T hg;subst r W m;let(N,q,y):=hg;let(t,R,p,Z):=I.Ă q;let(F,g,J,j,f4,l):=f it Û;let O:=R.À;show wpAny_pyNext_tuple_end ϳW T (ϐd s.Ć) ϳc ϭM
 self:=ϮH wpAny_pyIter_tupleiter
def FC{P:Do}{w:Ev}{K:At}{tg:On}(it:Ix)(lo:Int)(n:Nat):Ϯs (Itr lo n) (ϗ5 1 (Ŵ-(i:Nat)) 1) where
 mem:=Û
 obj:=λi h T b B=>by
  let e:b=it:=ϳQ
  subst e;show(_,T,ϕO)
 keep:=ύy (k it Û _ T)
 item:=by
  ext X r a m C i p s c H E I f T hg;subst r a m;let(F,g,J,j,f4,l):=f it Û;let W:=Walks.range (prog:=X.ø) (w:=X.w) ϳW it lo 1 n;show ϖu;let(t,rfl):=V;let d:ù p c H ((ϱl h' tk)):=I.ĝ (λb o B e=>q b o ϳQ e) F g j f4 l;show(_,rfl,He (s:=(ϱl h' tk)) (n:="range_iterator") S rfl rfl Ý ⟨Ä<|lo+i,H,d,⟨t,?_⟩,ϻm,S,ϯh⟩);rw[Zbl]
 done:=by
  ext X r a m C i p s c H E I f T hg;subst r a m;let(F,g,J,j,f4,l):=f it Û;show wpAny_pyNext_range_end ϳW T ϘM ϭM
 self:=ϮH wpAny_pyIter_rangeiter
section
variable{X:Cx}
def EG(K:At)(tl:TE):TI:=λb H R=>tl b H λx h=>ϐf (x=É a) SqL Itl
def Yr(K:At)(tl:TE):TI:=λb H R=>tl b H λx h=>ϐf (x=É a) SqT Itt
def HG(L:ā l tl):Ϸm l (EG X.K tl):=by
 ext i s g H R I h;show Ϲh ϙ6;let(x,d,c,r,f):=zq;obtain⟨a,e,⟨j,Q⟩,q⟩:=f;subst e;cases r;let(t,V,p,Z):=c.ê Q;show wpAny_pyIter_list p.Ê ?_;show(S.Á,ϚA,_,_,d,rfl,ϐ1 ((ϲZ (ő e))),JG a _,(_,Ϣ,rfl,rfl),ϹL,q);let e:ϐ2:=ϳQ
 subst e;show c.fpOk ì<|c.É ì
def Vf(L:ā l tl):Ϸm l (Yr X.K tl):=by
 ext i s g H R I h;show Ϲh ϙ6;let(x,d,c,r,f):=zq;obtain⟨a,e,⟨j,Q⟩,q⟩:=f;subst e;cases r;let(t,V,p,Z):=c.Ă Q;show wpAny_pyIter_tuple (ϐd S.Ć) ?_;show(S.Á,ϚA,_,_,d,rfl,ϐ1 ((ϲZ (ő e))),EZ a _,(_,Ϣ,rfl,rfl),ϹL,q);let e:ϐ2:=ϳQ
 subst e;show c.fpOk ì<|c.É ì
def C4{lo hi:Int}(I:Ģ)(h:-ϴ<=lo)(a:lo<ϴ)(f:-ϴ<=hi)(c:hi<ϴ)(q:R (Itr lo (ĩ ϶E)) H):Ő (pyIter<|É s.Á) ϙE E ((ϱl (ϳi ((Ċ "range" (ϐ #[Ä lo t,Ä hi u,Ä 1 v])))) tk)):=by
 show ϕ6 small_one;let i:ù H6 σ H ((ϱl (ϳi ((Ċ "range" (ϐ #[Ä lo t,Ä hi u,Ä 1 v])))) tk)):=I.ò (ϲZ (ő e))
 show(Θ (ϳi<|(Ċ "range" (ϐ #[Ä lo t,Ä hi u,Ä 1 v]))),[Θ (ϳi<|(Ċ "range" (ϐ #[Ä lo t,Ä hi u,Ä 1 v])))],_,_,H,rfl,
  i.ò (t':=tk) (ϲZ (ő e)),FC _ lo (ĩ ϶E),?_,ϹL,q)
 .let e1:lo+ä 0*1=lo:=Û
  let g:ä ((ĩ ϶E))-ä 0=ϗq 1:=by rw[rangeSize_one];split<;>lia
  change IsRangeIter _ _ (lo+ä 0*1) (ä ((ĩ ϶E))-ä 0) 1;rw[e1,g];show Ϣ
 let e:b=Θ (ϳi<|(Ċ "range" (ϐ #[Ä lo t,Ä hi u,Ä 1 v]))):=ϳQ
 subst e;show i.fpOk ì<|i.É ì
def Q8(ta:TA):TI:=ϮU (∃j:Int,s=[Ä j]/\-ϴ<=j/\j<ϴ/\R (Itr 0 j.Ò) h)
def RB(ta:TA):TI:=ϮU (∃i j:Int,s=[Ä i,Ä j]/\(-ϴ<=i/\i<ϴ/\-ϴ<=j/\j<ϴ)/\R (Itr i (ĩ (j-i))) h)
def IW{p pos:Pos}(hg:γ "range")(M:ϧw)(A:ϱS [a] ta)(S:à (æ [a]=϶z ϰI)):Ϸm (ϳO "range" [a]) (Q8 ta):=by
 ext i s f H R I h;show Call_<|Ϗg<|K98 (Wp (Ϭ5 i s f H _ I h) λu l zq=>?_) S rfl;let(v,g,c,d,b):=zq;let(j,e,b,k,q):=b;subst e;cases d with|cons r rr=>cases rr;let(t,rfl):=r;show call_range_1 (C4 c Á Á b k<|ť q)
def IK{p pos:Pos}(hg:γ "range")(M:ϧw)(A:ϱS ϱ9 ta)(d:à (æ ϱ9=ϻu ϰI ϲh))(S:à (æ [b]=϶z ϲh)):
  Ϸm (ϳO "range" ϱ9) (RB ta):=by
 ext n s g H R I h;show Call_ (Ϗg<|ϛj<|by rw[S];rfl);let(v,m,c,f,Q):=zq;obtain⟨i,j,e,⟨Q,k,l,C⟩,q⟩:=Q;subst e;cases f with
 |cons r rr=>
  cases rr with|cons r' rr=>cases rr;let(t,rfl):=r;let(T,rfl):=r';show call_range_2<|C4 c Q k l C q
def XZ(wi:TI)(g:TG)(tb:TS):TS:=λD a H=>wi a H λJ d=>∃W:Nat->Nat->St->Ú Hp,(∃m,W 0 m a d)/\∀i m a H,W i m a H->
 (ώf H/\Ϥu H)\/(J.go i H/\∃N:St->Ú Hp,(∀b h,N b h->∃M,M<m/\W (i+1) M b h)/\∀x h,ϓB h->g x a h λc e=>ϖ1 c e)
def yV(f:À Ix)(h:Op):À ŝ:=f.filterMap λb=>Ê Ϸe λo=>(b,o)
def pf(B:b∈fp)(e:Ϸe=Ö):(b,o)∈yV fp h:=List.mem_filterMap.mpr ⟨b,B,ϒT⟩
def JC(H:p∈yV fp h):p.1∈fp/\ϦL p.1=Â p.2:=by
 let(b,B,e):=List.mem_filterMap.mp H;cases q:h.È b with
 |none=>rw[q]at e;cases e
 |some o=>rw[q]at e;let e':(b,o)=p:=K9R e;subst e';show(B,q)
def Inv.pinned(I:Ģ)(f:ϳA (ϵE H b))(j:ϳA (∃o,ϰd=Ö/\∀v,o.data≠š v)):ù (H6++yV fp s.Ì) σ H s:=
 I.pins_of λp h=>ϵb (K9Y.mp h) (λz=>ϻP<|Τ z) λz=>by let(B,e):=JC z;let(F,g,J,_):=f p.1 B;let(o,e',d):=j p.1 B;rw[e]at e';cases e';show(e,F,g,J,d)
def Inv.unpinned(I:ù (H6++pl) σ H s):Ģ:=I.pins_of λp h=>ϻP<|Τ<|ϰA h
def Sr{pos:Pos}(P:PassesOwn ϳP X.A X.Ü X.xe)(K:ϗ)(hi:Ϸm iter wi)(hg:ϩU X)(B:ϴ4 body tb)(hs:ϸX):ϲa ϗz (XZ wi g tb):=by
 ext p s O H D I h;show wpAny_For (Wp (Ϥp s O H _ I h) λv s1 h1=>Wp h1 λitv s2 h2=>?_) hs;obtain⟨it,F,tn,J,Q,e,V,T,A,G,W,⟨m0,w0⟩,turn⟩:=h2;subst e;let t:∀{l:Hp},ϐG->∀b∈F,nj X p l b:=λhn b B=>⟨hn b B,(G b B).2⟩
 show codeAny_forLoop_any (λn L=>∃i k l,ù p k l L/\tn i L.Ì/\ϐG/\W i n k l) ?_ m0 ⟨0,O,Q,V,A,λb B=>(G b B).1,w0⟩;ext n s3 ⟨i,σ3,H3,I3,st3,fr3,w3⟩;rcases turn i n σ3 H3 w3 with⟨stop,qn⟩|⟨go,N,hN,step⟩
 .apply ϥR<|ϯF (T.done X rfl rfl rfl K i p s3 σ3 H3 X.xe I3 (t fr3) st3 stop);let(hr,Y):=zq
  subst hr;show K8W ⟨σ3,H3,Y,qn⟩
 show ϥR<|ϯF (T.item X rfl rfl rfl K i p s3 σ3 H3 X.xe I3 (t fr3) st3 go);let(u,hr,h4):=zq;subst hr;show ϥR<|Wp h4 λx M zq=>?_;let(x,E,Z,r5,y5,S,R):=zq;let y:=Z.pinned (t R)<|ύk S;show ϥR<|Wp (ϛY<|step x E y5) λx s6 zq=>?_;let(C,U,I6,q6):=zq;show ϥR<|Wp (B _ s6 C U _ I6 q6) λf z q=>?_;let again:∀{a:St}{c:Hp},ù (p++yV F M.Ì) a c z->N a c->∃m,m<n/\∃i k l,ù p k l z/\tn i z.Ì/\ϐG/\W i m k l:=fun{a c} j w=>by
  let(m',hm,w7):=hN a c w;show(m',hm,i+1,a,c,j.unpinned,ϒU S (λb B o e=>(ϗu<|Τ<|Τ<|pf B e).1),ϹL,w7);let(o,e,d):=ύk S b B;show(ϗu<|Τ<|Τ<|pf B e).2.1
 cases f with|next=>let(a,c,j,w):=q;show again j w|cont=>let(a,c,j,w):=q;show again j w|brk=>let(a,c,j,q):=q;show(a,c,j.unpinned,q)|ret v=>let(x7,a,c,j,r7,q):=q;show(x7,a,c,j.unpinned,r7,q)
end
abbrev R2:=Ϫf (Ú VK)
def OpR(X:Cx)(f:ϫg)(r:R2):Prop:=
 ∀(p:À ŝ)(s:Da)(a:St)(H:Hp)(x y:V)(v u:Db)(Q:VK),ù p a H s->ϱ5 v->϶o->Ϭn->
  Ő (f v u) ϶0 X.xe s
def UnR(X:Cx)(f:Db->Sem Db)(r:V->Hp->Ú VK):Prop:=
 ∀(p:À ŝ)(s:Da)(a:St)(H:Hp)(x:V)(v:Db)(Q:VK),ù p a H s->ϱ5 v->ϭc->
  Ő (f v) ϶0 X.xe s
def eD(X:Cx)(f:Db)(r:À V->Hp->Ú VK):Prop:=
 ∀(p:À ŝ)(s:Da)(a:St)(H:Hp)(x:À V)(u:À Db)(Q:VK),ù p a H s->Vals x u->ϭc->
  Ő (call f u) ϶0 X.xe s
def tOp(r:R2)(ta tb:TE):TE:=ϧo (tb a h λy b=>r x y b Q)
def tUn(r:V->Hp->Ú VK)(ta:TE):TE:=ϧo (r x h Q)
def rI(C:Int->Ú Int)(g:ϱv Int V):R2:=ϰk (∃i j,x=Ä i/\y=Ä j/\C i j/\Q Ϸp H)
def rI0(g:ϱv Int V):R2:=ϰk (∃i j,x=Ä i/\y=Ä j/\Q Ϸp H)
def rU(g:Int->V):V->Hp->Ú VK:=ϤG (∃i,x=Ä i/\Q (g i) H)
section
variable{X:Cx}{pos:Pos}
def Uy(A:ā a ta)(B:ā b tb){R:V->V->Ú Hp}(I:Ģ)(h:ta σ H λx e=>tb σ e λy c=>R x y c){Q:Db->Ú Da}{f:ϫg}(F:∀v u w x y c,ù H6 σ c w->ϱ5 v->϶o->R x y c->Ő (f v u) Q X.xe w):
  Ő ϰI (λv S=>Ő ϲh (λu d=>Ő (f v u) Q X.xe d) X.xe S) X.xe s:=by
 show Wp (A H6 s σ H _ I h) λv j zq=>?_;let(x,e,i,r,q):=zq;show Wp (B H6 j σ e _ i q) λu w zq=>?_;let(y,c,g,m,k):=zq;show F v u w x y c g r m k
def Y7(j:ϙn)(A:ā a ta)(B:ā b tb):ā ϙo ϯS:=ϕw wpAny_BinOp ϗI
def WL(j:ϙF)(A:ā a ta):ā ϙp (tUn r ta):=ϙx (UnaryOp_<|Wp (ώS b H _ I h) λv S zq=>by let(x,c,i,R,q):=zq;show j p S b c x v Q i R q)
def opI{f:ϫg}{C:Int->Ú Int}{g:ϱv Int Int}
  (rule:∀(i j:Int)(t u:Tok)(s:Da)(Q:Db->Ú Da)(E:Db->Ú Da),C i j->Q (Ä Ϸp s.ã) Ϗ7->Ő (f (Ä i t)<|Ä j u) Q E s):
  ϩv (rI C λi j=>Ä Ϸp):=by
 ext p s a H x y v u Q I R Y h;let(i,j,rfl,rfl,c,q):=h;let(t,rfl):=R;let(T,rfl):=Y;show ϐ3 c ((ϵl (Ä Ϸp) ζ))
def Xt{f:ϫg}{g:ϱv Int Int}
  (rule:∀(i j:Int)(t u:Tok)(s:Da)(Q:Db->Ú Da)(E:Db->Ú Da),Q (Ä Ϸp s.ã) Ϗ7->Ő (f (Ä i t)<|Ä j u) Q E s):
  ϩv (rI0 λi j=>Ä Ϸp):=by
 ext p s a H x y v u Q I R Y h;let(i,j,rfl,rfl,q):=h;let(t,rfl):=R;let(T,rfl):=Y;show ϐ3 ((ϵl (Ä Ϸp) ζ))
def O3{f:ϫg}{g:Int->ϲ0 Int}
  (rule:∀(i j:Int)(t u:Tok)(s:Da)(Q:Db->Ú Da)(E:Db->Ú Da),Q (ã Ϸp) s->Ő (f (Ä i t)<|Ä j u) Q E s):
  ϩv (Ϲy Ϸp):=by
 ext p s a H x y v u Q I R Y h;let(i,j,rfl,rfl,q):=h;let(t,rfl):=R;let(T,rfl):=Y;show ϐ3 ⟨.bl Ϸp,H,I,rfl,q⟩
def YN(i j:Int):Prop:=ϐU
def M5(i j:Int):Prop:=(-(2^64)<i/\i<2^64)\/(-(2^64)<j/\j<2^64)
def M5.ok{i j:Int}(h:M5 i j):IntMulOk i j:=by
 rcases h with⟨H,a⟩|⟨H,a⟩
 .show .of_left ϙ7
 show .of_right ϙ7
def UZ:ϴC Add (rI0 λi j=>Ä<|i+j):=Xt (ϧp add_int)
def FL:ϴC Sub (rI0 λi j=>Ä<|i-j):=Xt (ϧp sub_int)
def Sq:ϴC Mult (rI M5 λi j=>Ä<|i*j):=ϐe (mul_int q C.ok)
def P1:ϴC FloorDiv (rI YN λi j=>Ä Ϥq):=ϐm (by let h:Ì 0<j:=C.1;let H:j<1073741824:=C.2;show floordiv_int Á (Ô (Zdx i Á) q) (Ð<|PyProof.noPylong_small Á))
def SE:ϴC Mod (Ϩ3 (0<j)<|λi j=>Ä<|i%j):=ϐm (by let h:Ì 0<j:=C;show mod_int' Á (Ô (ϛQ Á) q))
def O7:ϴC Mod (Ϩ3 (j≠0)<|λi j=>Ä ύl):=ϐe (mod_int' C q)
def unI{f:Db->Sem Db}{g:ϴy Int}
  (rule:∀(i:Int)(t:Tok)(s:Da)(Q:Db->Ú Da)(E:Db->Ú Da),Q (Ä (g i) s.ã) Ϗ7->Ő (f<|Ä i t) Q E s):
  UnR X f (rU λi=>Ä<|g i):=by
 ext p s a H x v Q I R h;let(i,rfl,q):=h;let(t,rfl):=R;show rule i t s _ _ (ϵl (Ä<|g i) ζ)
def Gz:UnR X (unaryOp .USub) (rU λi=>Ä<|-i):=unI λx x x x x q=>neg_int q
end
def VW:V->ϲ0 V|.non,.non=>true| .non,.int _=>true| .int _,.non=>true| .non,.bl _=>true| .bl _,.non=>true| .non,.str _=>true| .str _,.non=>true|.int _,.int _=>true| .bl _,.bl _=>true| .str _,.str _=>true| .byt _,.byt _=>true|.int _,.str _=>true| .str _,.int _=>true| .bl _,.str _=>true| .str _,.bl _=>true|_,_=>false
def rEq:R2:=ϰk (ϓC/\Q (.bl<|Õ<|x=y) H)
def rNe:R2:=ϰk (ϓC/\Q (.bl<|! Õ (x=y)) H)
def GJ{i j:Int}:Õ (ϥK V.int)=(i==j):=ϳj K8j
def KS:Õ (ϥK V.bl)=(i==j):=ϳj K8j
def Hd:Õ (ϥK V.str)=(i==j):=ϳj K8j
def G0:Õ (ϥK V.byt)=(i.ð==j.ð):=by rw[K8j];cases i;cases j;simp
section
variable{X:Cx}{pos:Pos}
def bH(I:Ģ)(q:Q (.bl k) H)(e:k=k'):ϵW H6 σ Q (ã k') s:=by subst e;show(.bl k,H,I,rfl,q)
def YQ:ϵ7 Eq rEq:=by
 ext p s a H x y v u Q I R Y h;let(S,q):=h;cases x with
 |non=>
  cases R;cases y with
  |non=>cases Y;show PySem.EqNone.eq_none_none (η Û)
  |bl j=>cases Y;show PySem.EqNone.eq_none_bool (η Û)
  |int j=>let(T,rfl):=Y;show PySem.EqNone.eq_none_int (η Û)
  |str j=>let(T,rfl):=Y;show PySem.EqNone.eq_none_str (η Û)
  |_=>show ϵ4
 |bl i=>
  cases R;cases y with
  |non=>cases Y;show PySem.EqNone.eq_bool_none (η Û)
  |bl j=>cases Y;show eq_bool<|η KS
  |str j=>let(T,rfl):=Y;show PySem.EqMixed.eq_bool_str (η Û)
  |_=>show ϵ4
 |int i=>
  let(t,rfl):=R;cases y with
  |non=>cases Y;show PySem.EqNone.eq_int_none (η Û)
  |int j=>let(T,rfl):=Y;show eq_int<|η GJ
  |str j=>let(T,rfl):=Y;show PySem.EqMixed.eq_int_str (η Û)
  |_=>show ϵ4
 |str i=>
  let(t,rfl):=R;cases y with
  |non=>cases Y;show PySem.EqNone.eq_str_none (η Û)
  |bl j=>cases Y;show PySem.EqMixed.eq_str_bool (η Û)
  |int j=>let(T,rfl):=Y;show PySem.EqMixed.eq_str_int (η Û)
  |str j=>let(T,rfl):=Y;show eq_str<|η Hd
  |_=>show ϵ4
 |byt i=>
  let(t,rfl):=R;cases y with|byt j=>let(T,rfl):=Y;show PySem.W.eq_bytes<|η G0|_=>show ϵ4
 |_=>cases y<;>show ϵ4
def Wg:ϵ7 NotEq rNe:=by
 ext p s a H x y v u Q I R Y h;let(S,q):=h;cases x with
 |non=>
  cases R;cases y with
  |non=>cases Y;show PySem.EqNone.ne_none_none (η Û)
  |bl j=>cases Y;show PySem.EqNone.ne_none_bool (η Û)
  |int j=>let(T,rfl):=Y;show PySem.EqNone.ne_none_int (η Û)
  |str j=>let(T,rfl):=Y;show PySem.EqNone.ne_none_str (η Û)
  |_=>show ϵ4
 |bl i=>
  cases R;cases y with
  |non=>cases Y;show PySem.EqNone.ne_bool_none (η Û)
  |bl j=>cases Y;show ne_bool<|η<|Uf not KS
  |str j=>let(T,rfl):=Y;show PySem.EqMixed.ne_bool_str (η Û)
  |_=>show ϵ4
 |int i=>
  let(t,rfl):=R;cases y with
  |non=>cases Y;show PySem.EqNone.ne_int_none (η Û)
  |int j=>let(T,rfl):=Y;show ne_int<|η<|Uf not GJ
  |str j=>let(T,rfl):=Y;show PySem.EqMixed.ne_int_str (η Û)
  |_=>show ϵ4
 |str i=>
  let(t,rfl):=R;cases y with
  |non=>cases Y;show PySem.EqNone.ne_str_none (η Û)
  |bl j=>cases Y;show PySem.EqMixed.ne_str_bool (η Û)
  |int j=>let(T,rfl):=Y;show PySem.EqMixed.ne_str_int (η Û)
  |str j=>let(T,rfl):=Y;show ne_str<|η<|Uf not Hd
  |_=>show ϵ4
 |byt i=>
  let(t,rfl):=R;cases y with|byt j=>let(T,rfl):=Y;show PySem.W.ne_bytes<|η<|Uf not G0|_=>show ϵ4
 |_=>cases y<;>show ϵ4
def KW:ϵ7 Lt (Ϲy<|Õ<|i<j):=O3 (ϧp lt_int)
def Xw:ϵ7 LtE (Ϲy<|Õ<|i<=j):=O3 (ϧp le_int)
def L_:ϵ7 Gt (Ϲy<|Õ<|j<i):=O3 (ϧp gt_int)
def RE:ϵ7 GtE (Ϲy<|Õ<|j<=i):=O3 (ϧp ge_int)
def CF:ϵ7 Is (ϰk<|y=Α/\Q (.bl<|Õ<|x=Α) H):=by
 ext p s a H x y v u Q I R Y h;let(rfl,q):=h;cases Y;show is_none_gen<|η ?_;cases x<;>first
  |(cases R;rfl)
  |(let(t,rfl):=R;rfl)
def OpR.or(h:ϩv r)(h':ϩv r'):ϩv (ϰk<|Ϭn\/r' x y H Q):=by
 ext p s a H x y v u Q I R Y q;rcases q with q|q
 .show Ϧn a H x y v u Q I R Y q
 show h' p s a H x y v u Q I R Y q
def c6(b:On)(h:ϱE (op≠.In))(H:ϱE (op≠.NotIn)):ϪN:=by
 cases b with
 |Set e k p=>change ł (k==0&&(op==.In||op==.NotIn)&&_);rw[show ł (op==CmpOp.In||op==CmpOp.NotIn) by cases op<;>first|rfl|exact Ϡ h|exact Ϡ H,Bool.and_false];rfl
 |_=>rfl
def PV(j:ϮC)(A:ā a ta)(B:ā b tb)(M:ϪN):ā Ϯm ϯS:=ϘG (wpAny_Compare1 (Uy A B I h λv u w x y c f R Y q=>ϗI) M)
def RL(t:TE):TT:=϶2 (λx h=>∃k,x=.bl k/\Q k h)
def NY(o:ϮC)(A:ā a ta)(B:ā b tb)(M:ϪN):ϸV Ϯm (RL ϯS):=by
 ext p s d H Q I h;show wpAny_isTrue_Compare1 (Ϲh<|ώS d H _ I h) M;let(x,f,j,R,q):=zq;show Wp (B p S d f _ j q) λu D zq=>?_;let(y,g,l,w,n):=zq;show Wp (o p D d g x y v u _ l R w n) λc E zq=>?_;let(z,i,m,C,k,e,t):=zq;subst e;cases C;show K8b ⟨i,m,t⟩
def rQ:ϱC sizeLine<ϷE:=ϓp sizeLine_eq
def Gg:ϴC Add (ϰk<|∃i j,x=Ė i/\y=Ė j/\ŀ (i.À+j.À)/\Q (Ė<|i++j) H):=by ext p s a H x y v u Q I R Y h;let(i,j,rfl,rfl,Z,q):=h;let(t,rfl):=R;let(T,rfl):=Y;show add_str (λT tk=>(ϵl (Ė<|i++j) ζ)) Z
def vals1(r:ţ [x] us):∃u,us=[u]/\ϱ5 u:=by
 cases r with|cons r1 r2=>cases r2;show(_,rfl,r1)
def vals2(r:ţ ϶K us):∃u W,us=[u,W]/\ϱ5 u/\RelV y W:=by
 cases r with
 |cons r1 r2=>
  cases r2 with|cons r3 r4=>cases r4;show(_,_,rfl,r1,r3)
def Kx:ϹK (Ρ "abs") (∃i,x=[Ä i]/\Q (Ä ϪQ) H):=by ext p s a H x U Q I r h;let(i,rfl,q):=h;let(u,rfl,t,rfl):=vals1 r;show call_abs_int λu tk=>(ϵl (Ä ϪQ) ζ)
def Jj(C:ϗ):ϹK (Ρ "max") (∃i j,x=[Ä i,Ä j]/\Q (Ä (ϻf<|j > i)) H):=by
 ext p s a H x U Q I r h;let(i,j,rfl,q):=h;obtain⟨u,W,rfl,⟨t,rfl⟩,⟨T,rfl⟩⟩:=vals2 r;show max_two_ints ϳW ϖQ
 cases J:j > i
 .rw[Os J,Os J];show(_,rfl)
 rw[P3 J,P3 J];show(_,rfl)
def JH(C:ϗ):ϹK (Ρ "min") (∃i j,x=[Ä i,Ä j]/\Q (Ä (ϻf<|j<i)) H):=by
 ext p s a H x U Q I r h;let(i,j,rfl,q):=h;obtain⟨u,W,rfl,⟨t,rfl⟩,⟨T,rfl⟩⟩:=vals2 r;show min_two_ints ϳW ϖQ
 cases J:j<i
 .rw[Os J,Os J];show(_,rfl)
 rw[P3 J,P3 J];show(_,rfl)
end
def xi.some_of(r:xi ĥ o):∃u,o=ķ/\ϲM:=by
 cases o with|none=>show ϪO|some u=>show(u,rfl,r)
structure Room(k:Nat)(A:Go):Prop where
 hd:ϷT
 dp:A.depth+3*k+5<recursionLimit
 un:A.ħ+16*k+200<cLine
def Room.mono(r:ϴh A)(h:j<=k):Room j A:=⟨r.hd,Ĳ r.dp,Ĳ r.un⟩
def Room.deeper(r:Room (k+1) A)(env:Env):ϴh (A.Ĥ env):=
 ⟨r.hd,ϧM r.dp (A.depth+1+3*k+5<_),ϧM r.un (A.ħ+3+16*k+200<_)⟩
def Room.depth(r:ϴh A):A.depth<recursionLimit:=Ĳ r.dp
def Room.units(r:ϴh A):ϫv 64:=Ĳ r.un
def xg:TA:=ϤG (Q [] H)
def iA(ta:TE)(tr:TA):TA:=ϧo (tr a h λX b=>Q ϦF b)
section
variable{X:Cx}{t:TA}{pos:Pos}
def tZ:ϱS [] xg:=λx x x x H Q I h=>ϑJ ⟨[],H,I,õ,h⟩
def f7(A:ā e te)(hr:ϱS es t)(S:à (æ Ũ=ϰG (æ es))):ϱS Ũ (iA te t):=by
 ext pos p s a H Q I h;rw[S];change ϶j _ (spliced<|ϰG (ϲB (æ es))) s;show ϯP<|Wp (ώS a H _ I h) λu d zq=>?_;let(x,b,i,r,q):=zq;show Wp (hr pos p d a b _ i q) λU w zq=>by let(g,c,f,m,k):=zq;show ⟨x::g,c,f,ą r m,k⟩
def Ob(t:TA):TE:=϶2 (λX h=>ŀ X.À/\∀p,h p=none->Q (É p) (ϑk<|Ī X))
def WI(t:TA):TE:=϶2 (λX h=>ŀ X.À/\∀p,h p=none->Q (É p) (ϑk<|ô X))
def Gv{x1}(h:ϱS es t):ā (ϻv x1 pos) (Ob t):=by
 ext p s d H Q I c;show wpAny_Tuple_spliced<|ϗQ (λU S zq=>by let(x,a,i,r,z,q):=zq;show ⟨Ϙ r.À z,?_⟩;let f:ϘN:=i.É ì;show(É S.Á,ϕx<|Ī x,i.ĩ (t':=S.ã) (λb u e=>ő e) ì ?_,rfl,q _ f);show(z,U,r,(_,Ϣ,rfl,_,rfl)))
def V5(h:ϱS es t):ā (.List es pos) (WI t):=by
 ext p s d H Q I c;show wpAny_List_spliced<|ϗQ (λU S zq=>by let(x,a,i,r,z,q):=zq;show ⟨Ϙ r.À z,?_⟩;let f:ϘN:=i.É ì;show(É S.Á,ϕx<|ô x,i.ĩ (t':=S.ã) (λb u e=>ő e) ì ?_,rfl,q _ f);show(z,U,0,r,Ϣ))
end
abbrev Sp:=À V->Hp->VK->Ú XK
abbrev CXT:=À Env->Hp->Da->XK->Db->Ú Da
structure Env0(P:Do)(w:Ev)(K:At)(mg:Ŏ)(base:Op)(A:Go)(outer:À Env)(s:Da)(H:Hp):Prop where
 frames:A.frames=Â outer
 mod:Mod K mg base
 bs:∀b o,base.È b=Ö->ϰd=Ö/\ϰ7
 bsz:ϑI base.Â
 funs:s.Ď base outer
 frf:∀b∈frs outer,ϰ7
 hok:ϩt H s.Ì
 bare:ϩ0 s.Ĭ
def CE(outer:À Env)(P:Do)(w:Ev)(H:Hp)(s:Da)(Q:VK)(u:Db)(S:Da):Prop:=
 ∃v h,S.os=s.os/\ϩ0 S.Ĭ/\Un (frs outer) [] H h s.Ì S.Ì/\ϩt h S.Ì/\ϲM/\Q v h
def CR(CX:CXT)(outer:À Env)(P:Do)(w:Ev)(H:Hp)(s:Da)(Q:VK)(E:XK)(r:Result)(S:Da):Prop:=
 match r with
 |.ok (.ret u)=>ϙG S
 |.ok _=>False
 |.error e=>ϑ9 e S
structure K1(P:Do)(w:Ev)(K:At)(mg:Ŏ)(base:Op)(CX:CXT)(k:Nat)(f:Ix)(fd:Fk)(ps:À Str)(sp:Sp):Prop where
 len:∀vs H Q E,sp vs H Q E->ώI vs.À
 run:∀(A:Go)(outer:À Env)(s:Da)(H:Hp)(args:Args)(us:À Db)(vs:À V)(Q:VK)(E:XK),ϴh A->ϔj mg base A outer s H->ϥk args (ps.Ċ us)->ţ vs us->sp vs H Q E->
  ϸy ϻw A (.call (É f) args) (CR CX outer P w H s Q E) s
def K1.imp{P:Do}{w:Ev}{K:At}{m:Ŏ}{base:Op}{CX:CXT}{k:Nat}{f:Ix}{fd:Fk}{S:À Str}{sp p:Sp}(F:ϳ5 m base CX k f fd S sp)
  (h:∀v H Q E,p v H Q E->ϫ3):ϳ5 m base CX k f fd S p:=
 ⟨λv H Q E q=>F.len v H Q E<|h _ _ _ _ q,λA outer s H args u v Q E hr he B V a=>ϛx<|h _ _ _ _ a⟩
section
variable{X:Cx}
def Inv.zS(I:Ģ):Env0 X.ø X.w X.K X.mg X.ı X.A X.ă s H:=
 ⟨I.ok.frames,I.ok.mod,I.bs,ϯZ I.sz,I.stack,I.stkFree,I.hok,I.bare⟩
def Inv.after(I:Ģ)(h:CE X.ă X.ø X.w H s Q u s'):ϵW H6 σ Q u s':=by let(v,a,os,bare,un,O,r,q):=h;let(c,g,d,t,o):=s';obtain rfl:o=s.os:=os;show(v,a,I.call (h':=c) (g':=g) (d':=d) (t':=t) (ch:=[]) un O bare (λb z=>ĭ z Û),r,q)
end
def Dw(sp:Sp)(dvs:À V)(E:XK)(t:TA):TE:=϶2 (λs h=>sp (s++dvs) h Q E)
def Binds(K:At)(fd:Fk)(p:À Str)(d:À Db):Prop:=
 ∀(s:Da)(u:À Db),ϫJ->Ã (u++d)=p.À->ϥk ϔk (p.Ċ<|u++d)
def Binds.all{K:At}{fd:Fk}{p:À Str}(h:∀u:À Db,u.À=p.À->bindArgs fd ϔk=pure (p.Ċ u)):Binds K fd p []:=λs u x a=>by rw[K9d]at a⊢;show .of_eq<|h u a
def Passes(CX:CXT)(X:Cx)(E:XK):Prop:=∀(p:À ŝ)(a:St)(H:Hp)(s:Da)(e:Db)(S:Da),ù p a H s->CX X.ă H s E e S->X.xe e S
section
variable{X:Cx}{f C:Ix}{p pos apos:Pos}
def VJ(F:Ϗy f fd ps sp)(hr:ϴh X.A)(B:ϹG X.K ds)(d:ţ dvs ds)(x:Ϩj E)(I:Ģ)(r:ţ vs us)(h:sp ϔl H Q E):Ő (call (É f) us) (ϵW H6 σ Q) X.xe s:=by
 let m:ţ ϔl (us++ds):=r.đ d;let a:ώI (Ã (us++ds)):=Ϙ m.À (F.len _ _ _ _ h)
 show wpAny_call<|codeAny_mono (F.run X.A X.ă s H (ϱd us) (us++ds) ϔl Q E hr I.zS (B s us I.kIn a) m h) λr S q=>?_;cases r with
 |error e=>show x H6 σ H s e S I q
 |ok fl=>
  cases fl with|ret u=>show I.after q|next=>show ϳm q|brk=>show ϳm q|cont=>show ϳm q
def BX(F:Ϗy f fd ps sp)(hr:ϴh X.A)(hg:γ x)(M:X.mg x=Â (É f))(K:ϵo X.K (É f))(B:ϹG X.K ds)(D:ţ dvs ds)(b:Ϩj E)
  (A:ϱS Ũ t) (d:ϲx) (he:à (æ Ũ=ϰG (æ es))) (l:à (ϰY<|ϲB<|æ es)):
  ā (ϱc (ð p) Ũ pos) (Dw sp dvs E t):=by
 ext i s c H Q I h;show K8h<|Hu I hg M ?_ d;show callWith_K (h₀:=X.ı) I.ok.mod.kin K (ϫi<|Ϭ5 i s c H _ I h) he l;let(v,g,a,r,q):=zq;show(a.kIn,VJ F hr B D b a r q)
end
section
variable{fd:Fk}{ps ks:À Str}{p pos apos kpos:Pos}
structure KBinds(K:At)(fd:Fk)(ps ks:À Str)(g:ϱv (À Db) (À Db))(gV:ϱv (À V) (À V)):Prop where
 to:∀(s:Da)(us ws:À Db),ϫJ->ώI (Ã (g us ws))->ϥk ⟨us,ks.Ċ ws⟩ (ps.Ċ<|g us ws)
 rel:∀{vs:À V}{us:À Db}{zs:À V}{ws:À Db},ţ vs us->Vals zs ws->ţ (gV vs zs) (g us ws)
end
structure Fq(N P:À Str)(sc:Scope):Prop where
 kind:sc.Ġ=ϻQ
 co:ł sc.isCoroutine
 gen:ł sc.isGenerator
 nd:N.Í
 pre:N.Ö P.À=P
 par:∀x∈P,ϵf Ϻ3 (Â ο) (Â š)
 nofree:∀y∈sc.names,y.2≠Ϝ
def Ay{kindOf:Str->Ü NameKind}:∀{binds:À (Str×Db)}{m:Ŏ},ϖg bindL:=by
 induction _ with
  |nil=>
   ext _ _
   exact rfl
  |cons x28 r ih=>
   intro m h
   obtain⟨n,v⟩:=x28
   erw[bindL];rw[ih λw H=>h w<|ě H]
   split
   .let:x≠n:=ϧ4 (h v K9z)
    simp[this]
   .rfl
def AV{kindOf:Str->Ü NameKind}:∀{binds:À (Str×Db)}{m:Ŏ},ϖg bindC:=by
 induction _ with
  |nil=>
   ext _ _
   exact rfl
  |cons x43 r ih=>
   intro m h
   obtain⟨n,v⟩:=x43
   erw[bindC];rw[ih λw H=>h w<|ě H]
   split
   .rfl
   .let:x≠n:=ϧ4 (h v K9z)
    simp[this]
theorem AQ{kindOf:Str->Ü NameKind}:∀{P:À Str}{s:À Db}{i:Nat}{m:Ŏ},P.Í->á P=Ď->ϵT=ĥ->kindOf x=Â ο->
  ϒV (P.Ċ s) m x=ĥ:=by
 induction _ with
  |nil=>
   ext _ _ _ _ h _ _
   simp at h
  |cons p P ih=>
   ext x35 x36 m nd h1 h hk
   cases x35 with
    |nil=>
     simp at h
    |cons w s=>
     cases x36 with
      |zero=>
       simp at h1 h;subst h1;subst h;change ϒV ϯd m p=_;erw[bindL];rw[Ay λv H=>(ϨR).1 (K7w H).1,Os hk];simp
      |succ i=>
       change ϒV ϯd m x=_;erw[bindL];show ϻT (ϨR).2 (ť h1) ϱY hk
theorem A1{kindOf:Str->Ü NameKind}:∀{P:À Str}{s:À Db}{i:Nat}{m:Ŏ},P.Í->á P=Ď->ϵT=ĥ->kindOf x≠Â ο->
  ϒW (P.Ċ s) m x=ĥ:=by
 induction _ with
  |nil=>
   ext _ _ _ _ h _ _
   simp at h
  |cons p P ih=>
   ext x14 x15 m nd h1 h hk
   cases x14 with
    |nil=>
     simp at h
    |cons w s=>
     cases x15 with
      |zero=>
       simp at h1 h;subst h1;subst h;change ϒW ϯd m p=_;erw[bindC];rw[AV λv H=>(ϨR).1 (K7w H).1,P3 hk];simp
      |succ i=>
       change ϒW ϯd m x=_;erw[bindC];show ϻT (ϨR).2 (ť h1) ϱY hk
def start(N:À Str)(s:À V):St:=s.Ç some++ϳ2 (N.À-s.À) none
def z_(CX:CXT)(P:Do)(w:Ev)(K:At)(m:Ŏ)(base:Op)(N:À Str)(qual:Str)(scope:Scope)(f:Ix)(cd:Db)(A:Go)(outer:À Env)(s:Da)(H:Hp)(E:XK):Cx where
 prog:=P
 w:=w
 K:=K
 mg:=m
 base:=base
 A:=A.Ĥ<|ϺO cd
 N:=N
 s₀:=s
 H₀:=H
 env:=ϺO cd
 outer:=outer
 stack:=ϺO cd::outer
 ex:=[]
 calm:=true
 fn:=λx=>true
 pn:=[]
 xe:=λe a=>ϷF ϻw (A.Ĥ<|ϺO cd) (leaving (ϺO cd) e) (λx S=>ϑ9 e S) (λe' S=>ϑ9 e' S) a
def D6{sc:Scope}(h:Ϻ3=Â š):∃c,ϲ (cellsFrom n sc.names []) x=ī:=by let q:=K8E sc.names n []<|Ð h;show ϙl q
theorem JL{CX:CXT}{P:Do}{w:Ev}{K:At}{M:Ŏ}{base:Op}{N j:À Str}{qual:Str}{scope:Scope}{f:Ix}{cd:Db}{A:Go}{outer:À Env}{s F:Da}{H:Hp}{E:XK}{U:À Db}{l:À V}
  (S:Fq N j scope) (I:ϷT) (g:ϔj M base A outer s H) (O:Ϸk j.À) (r:Vals l U)
  (x:InCallC s s.Á (bindL (ϺO cd).kindOf (j.Ċ U) λ_=>none) (ϺP (ů 1) []) (bindC (ϺO cd).kindOf (j.Ċ U) λ_=>none) F):
  Inv ϕP [] (ϨI l) H F:=by
 let L:ώM j.À:=by let:=Ż S.pre;rw[K9f]at this;lia
 let(t,tk,rfl,B):=x.done;let o:∀b:Ix,b∉(ϕP).ex:=λb z=>ĭ (ύ (b∈([]:À Ix)) z) Û
 show((g.mod,S.kind,rfl,rfl,ì,λy z c t d=>?_,λy Y=>?_,λy c _ h=>?_,λ_=>I,Around.frames_deeper g.frames,Ø ϻm,λb z=>ĭ z<|o b,g.bs,g.bsz,λb _ _=>o b,λb z=>ĭ z<|o b,g.funs,g.frf),
  rfl,g.bare,Un.ò B,(_,x.toInCall.ns,λi y v t d J=>?_),λy c h=>⟨_,x.cell y c h⟩,g.É ì,λy c h=>?_,λp m=>ĭ (show p∈([]:À ŝ)from m) Û,g.hok.ò B,?_)
 .show ϛR<|K8M d
 .let Y:ϵf ϐH (Â š) (Â Ϝ):=Y
  rcases Y with Y|Y
  .show D6 Y
  show Ϡ<|S.nofree _<|K8M Y
 .show Zaj<|ϗe<|K8M h
 .let hi:i<l.À:=by
   erw[start]at d;cases hi:i<l.À
   .show hi
   rw[K9a ϐP]at d;rw[K8Z]at d;split at d<;>cases d
  let G:l[i]?=ĥ:=by
   erw[start]at d;rw[K9V ϐP,N2]at d;cases e:l[i]? with
   |none=>rw[e]at d;cases d
   |some a=>rw[e]at d;cases d;rfl
  let(u,C,R):=r.get G;let m:j[i]?=ϰO:=by rw[<-S.pre,K97 Á];show t
  let D:j.Í:=Ϙ S.pre (S.nd.sublist<|List.take_sublist _ _)
  show(u,R,?_);rcases S.par y (K9L m)with k|k
  .show Ð ⟨k,AQ D m C k⟩
  let(c,e):=D6 (n:=ů 1) k;show Ø ⟨Ð k,c,e,?_⟩;let q:=x.cell y c e;rw[A1 D m C<|by change ϐH≠_;rw[k];decide]at q;show q
 .show g.É<|Zaj<|ϗe<|K8M h
 erw[start];change ϔm;rw[K9v,K0,K8r];lia
def R4{CX:CXT}{P:Do}{w:Ev}{K:At}{m:Ŏ}{base:Op}{k:Nat}{f:Ix}{name qual:Str}{params:Arguments}{body:À No}{scope:Scope}{D kV doc pm c ct W:Db}{an Z:Ü Ix}
  {O:Ζ Ch} {N l:À Str} {sp:Sp} (U:ϫ4=Â ⟨W,Z,ϷB ϕI,O⟩) (C:ϸj c qual=true) (S:Fq N l scope)
  (len:∀a H Q E,sp a H Q E->a.À=l.À)
  (B:∀(A:Go)(outer:À Env)(s:Da)(H:Hp)(a:À V)(Q:VK)(E:XK),ϴh (A.Ĥ<|ϺO c)->sp a H Q E->
   ∃t,PSs Ϗc body t/\t {nx:=λx h=>Q Α h,rt:=Q} (ϨI a) H):
  ϳ5 m base CX (k+1) f ϕI l sp:=by
 show(len,λA outer s H args us a Q E hr j G r p=>?_);let L:=len _ _ _ _ p;let X:ϫJ:=j.mod.kin.keeps (ϲZ (j.bs b o e).1);let lim:s.heap.NoLimit:=j.mod.nolimit.keeps (ϲZ (j.bs b o e).1);let i:∀y∈l.Ċ us,Ϻ2 y.1=Â ο\/(Ϻ2 y.1=Â š/\Μ (ϲ (ϺP (ů 1) []) y.1).isSome):=λ⟨n,v⟩ Y=>by
  rcases S.par n (K7w Y).1 with q|q
  .show Ð q
  show Ø ⟨q,K8E _ _ _<|Ð q⟩
 show ϛa<|G _ _ _ _ ?_;show wpAny_newFunctionEnv_cells S.Ġ i λenv he F x=>?_;subst he;show(lim.keeps x.toInCall.ĉ,codeAny_func ?_);let(t,T,M):=B A outer s H a Q E (hr.Ĥ _) p;let I:Inv Ϗc [] (ϨI a) H F:=JL S hr.hd j L r x;show K8m (T [] F (ϨI a) H _ I M) (λfl z g=>?_) λe z g=>g;let fin:∀{d:St}{h:Hp}{v:V}{u:Db},Inv Ϗc [] d h z->ϲM->Q v h->ϙG z:=
  fun{d h v u} J R q=>⟨v,h,J.os,J.bare,J.base,J.hok,R,q⟩
 cases fl with|ret u=>let(v,d,h,J,R,q):=g;show fin J R q|next=>let(d,h,J,q):=g;show fin (v:=V.non) (u:=Value.none) J rfl q|brk=>let(_,_,_,q):=g;show ϳm q|cont=>let(_,_,_,q):=g;show ϳm q
section
variable{X:Cx}{p pos:Pos}{t:TA}{id T:String}{r:À V->Hp->Ú VK}
def tCB(r:À V->Hp->Ú VK)(t:TA):TE:=϶2 (λs h=>r s h Q)
def Eu(C:ϳL (Ρ id) r)(hg:γ x)(M:ϥn)(v:Ϲi=Â (Ρ id))(A:ϱS Ũ t)(n:ϱE Ϲd)(d:ϲx)
  (he:à (æ Ũ=ϰG (æ es))) (l:à (ϰY<|ϲB<|æ es)):ā (ϱc (ð p) Ũ pos) (tCB r t):=by
 ext i s a H Q I h;show K8h<|Ϩt v ?_ n d;show PyProof.Rows.callWith_builtin1 ϕj he l
def JI(C:ϳL (Ω T) r)(hg:γ x)(M:ϥn)(v:Ϲi=Â (Ω T))(A:ϱS Ũ t)(n:ϱE Ϲd)(d:ϲx)
  (he:à (æ Ũ=ϰG (æ es))) (l:à (ϰY<|ϲB<|æ es)):ā (ϱc (ð p) Ũ pos) (tCB r t):=by
 ext i s a H Q I h;show K8h<|Ϩt v ?_ n d;show K98 ϕj he l
end
end L2
namespace HT
open PySem PyProof.Rows
section
open PySem.SeqAt
open PySem.AutoSeq1 (wpAny_loadPart')
open PySem.MeetsSeq PySem.MeetsSeq2 PySem.MeetsSeq3
end
def sIx(n d:Nat):Ü Int->Nat|none=>d|some v=>Ë (v<0) ((ĩ (v+Ŵ))) (min v.Ò n)
def CT(n d:Nat):sIx n d none=d:=rfl
def uS(n d k:Nat):sIx n d (Â ë)=min k n:=by
 change(Ë (ë<0) ((ĩ (ë+Ŵ)))<|min (ĩ (k:Int)) n)=min k n;rw[P3 Á,K9n]
end HT
namespace L2
open PySem PySem.Spec PyProof.Rows
abbrev TO:=St->Hp->Ú (Ü Int->Ú Hp)
def PO(X:Cx)(e:Ü On)(t:TO):Prop:=
 ∀(p:À ŝ)(s:Da)(a:St)(H:Hp)(Q:Ü Int->Ú Hp),ù p a H s->ϩu->
  Ő (evalPart e X.Ü) (λu S=>∃o h,ù p a h S/\IsPart u o/\Q o h) X.xe s
def GD:TO:=ϤG (Q none H)
def Rm(t:TE):TO:=϶2 (λx h=>∃i,x=Ä i/\Q ϸv h)
def intsAre_of:∀{s:À Db},ţ ϲg s->ϫw:=by
 induction ns with
 |nil=>ext s r;rw[K9D]at r;cases r;show õ
 |cons n ns ih=>
  ext s r;rw[K9w]at r;cases r with|cons r1 r2=>let(t,e):=r1;subst e;show ą n t<|ih r2
section
variable{X:Cx}{te:TE}{lo hi:Ü On}{tl th:TO}{pos p2:Pos}
def Qm:PO X none GD:=by ext p s a H Q I h;rw[evalPart_none];show K9J ⟨none,H,I,ò,h⟩
def Py(h:ā e te):PO X Ϲ5 (Rm te):=by
 ext p s d H Q I w;rw[evalPart_some];show ϫi (Ϧn d H _ I w);let(x,a,b,r,c):=zq;let(i,rfl,q):=c;let(t,rfl):=r;show(ϸv,a,b,Ä i t,q)
def SlR(X:Cx)(r:V->ϱv (Ü Int) (Hp->Ú VK)):Prop:=
 ∀(p:À ŝ)(s:Da)(a:St)(H:Hp)(x:V)(v L u:Db)(lo hi:Ü Int)(l:Ix)(Q:VK),ù p a H s->ϱ5 v->s.heap.IsSliceOf l L u ò->IsPart L lo->IsPart u hi->r x lo hi H Q->
  ∃T id,typeLookup (Ω T) "__getitem__"=pure (Â<|Ρ id)/\s.TypeIs v T/\Ő (ϯG<|É l) ϶0 X.xe s
def tSl(r:V->ϱv (Ü Int) (Hp->Ú VK))(te:TE)(tl t:TO):TE:=λa H Q=>te a H λx h=>tl a h λl b=>t a b λu c=>r x l u c Q
def KA(hr:SlR X r)(he:ā e te)(m:PO X lo tl)(U:PO X hi th):ā (ŕ e Ϗ8 pos) (tSl r te tl th):=by
 ext p s a H Q I h;show Subscript_<|Ϲh ϮS;let(x,d,i,R,o):=zq;show wpAny_Slice<|Wp (m p S a d _ i o) λL A zq=>by let(l,f,g,pl,w):=zq;show Wp (U p A a f _ g w) λV z zq=>?_;let(u,c,j,pu,y):=zq;rw[evalPart_none];show ϴ1;let t:ù p a c {z with heap:=z.ÿ (Ċ "slice" (ϐ #[L,V,ò]))}:=j.ò (t':=z.ã) λb O q=>ő q;let(T,id,k,n,hg):=hr p {z with heap:=z.ÿ (Ċ "slice" (ϐ #[L,V,ò]))} a c x v L V l u z.Á Q t R ϘO pl pu y;change Ő (ϙ8 Ϗ8 v<|É z.Á) ϶0 X.xe {z with heap:=z.ÿ (Ċ "slice" (ϐ #[L,V,ò]))};show tail_any (ops:=[É z.Á,v]) n k hg (by with_unfolding_all rfl)
def NS(X:À V)(lo hi:Ü Int):À V:=Ł (X.ä<|ϯm 0 lo)<|ϭY X.À
def El(X:À V)(lo hi:Ü Int):Ã (NS X lo hi)<=X.À:=by
 erw[NS];rw[K9f,K8y];lia
end
def ixN(n:Nat)(i:Int):ό1:=Ë (0<=i) (if i<n then Â i.Ò else none) (if -Ŵ<=i then Â ((ĩ (i+n))) else none)
def atI{α:Type}(X:À α)(i:Int):Ü α:=ó (Ϲt i) λj=>ę X
def GX{i:Int}(h:ixN n i=ϱ6):seqIndex? i n=ϱ6/\j<n/\-Ŵ<=i/\i<n:=by
 erw[ixN]at h;cases a:0<=i
 .rw[Os a]at h
  cases H:i<n
  .rw[ϱT]at h
   let e:i.Ò=j:=ϸM;show(by rw[seqIndex_of a H,e],Á,Á,H)
  rw[ϲb]at h;cases h
 rw[P3 a]at h;cases H:-Ŵ<=i
 .rw[ϱT]at h
  let e:ĩ (i+n)=j:=ϸM;show(by rw[seqIndex_neg Á H,e],Á,H,Á)
 rw[ϲb]at h;cases h
def xN{i:Int}(h:atI xs i=ĥ):∃j,seqIndex? i xs.À=ϱ6/\Ϥv=ĥ/\j<xs.À/\-(Ì xs.À)<=i/\i<xs.À:=by
 erw[atI]at h;cases e:ixN xs.À i with
 |none=>rw[e]at h;cases h
 |some j=>rw[e]at h;let(H,a,f,c):=GX e;show(j,H,h,a,f,c)
def de{α:Type}{X:À α}{j:Nat}{v:α}(h:ę X=ĥ):Ť X Ĵ=ĥ:=by
 let J:ό2:=ϲG;let e:Ϲt Ĵ=ϱ6:=by erw[ixN];rw[Os Á,Os Á];simp
 erw[atI];rw[e];show h
def Ae(X:À α)(v:α):Ϲ3 (X++[v])=ĥ:=by
 let a:Ã (X++[v])=X.À+1:=Û
 let e:ixN (Ã (X++[v])) (-1)=Â X.À:=by
  erw[ixN];rw[a,P3 Ý,Os Á]
  congr 1
  lia
 erw[atI];rw[e];change(X++[v])[X.length]?=ĥ;simp
def xB(b:On):Prop:=∀o i,subscripted b false o i=operate [o,i] (getItem o i)
def IxR(X:Cx)(r:R2):Prop:=
 ∀(value slice:On)(p:À ŝ)(s:Da)(a:St)(H:Hp)(x y:V)(v u:Db)(Q:VK),ù p a H s->ϱ5 v->϶o->Ϭn->
  ϗ7 v u=operate [v,u] (ϯG u)->Ő (subscriptTail value slice v u) ϶0 X.xe s
def MtR(X:Cx)(id:String)(r:V->À V->Hp->Ú VK):Prop:=
 ∀(p:À ŝ)(s:Da)(a:St)(H:Hp)(x:V)(S:À V)(v:Db)(u:À Db)(Q:VK),ù p a H s->ϱ5 v->Vals S u->r x S H Q->
  Ő (call (Ρ id)<|v::u) ϶0 X.xe s
section
variable{X:Cx}{a b:On}{pos:Pos}
def IxR.or(h:ϸR r)(h':ϸR r'):ϸR (ϰk<|Ϭn\/r' x y H Q):=by
 ext value slice p s a H x y v u Q I R Y q S;rcases q with q|q
 .show h value slice p s a H x y v u Q I R Y q S
 show h' value slice p s a H x y v u Q I R Y q S
def Hb(hr:ϸR r)(A:ā a ta)(B:ā b tb)(S:xB b):ā (ŕ a b pos) ϯS:=ϕw Subscript_ (ϛL ϤF)
def Av(K:At):R2:=ϰk (∃p X i v,x=É p/\y=Ä i/\μ p X/\Ť X i=ĥ/\Q v H)
def Wi(K:At):R2:=ϰk (∃p X i v,x=É p/\y=Ä i/\Ϲ4 p X/\Ť X i=ĥ/\Q v H)
def V9:R2:=ϰk (∃z i c,x=Ė z/\y=Ä i/\ŀ z.À/\ϐ4=ī/\Q (Ė ϥu) H)
def Hr:ϸR (Av X.K):=by
 ext value slice n s c H x y v u Q I m Y h S;let(p,B,i,z,rfl,rfl,k,he,q):=h;cases m;let(t,rfl):=Y;let(T,r,pl,Z):=I.ê k;let(j,a,d,A,f,g):=xN he;let(w,e,R):=r.get d;let l:=r.À;let N:=rQ;let fin:ϵW n c Q w s:=ϑN;cases b:0<=i
 .let J:i.Ò=j:=ϖv
  show item_listR pl.Ê b Á Ϯt fin S
 let J:ĩ (i+Ì T.Ø)=j:=by
  rw[seqIndex_neg Á f]at a;rw[K9W,<-l];show ϦR
 show ϗJ pl.Ĕ slot_list_getitem.Ð (wpAny_getItem_list_neg (Q:=λr o=>r=w/\ϵW n c Q r o) pl.Ê Á ϐV Á Ϯt (Ϸv fin)) S
def Vc:ϸR (Wi X.K):=by
 ext value slice n s a H x y v u Q I f Y h S;let(p,A,i,z,rfl,rfl,d,he,q):=h;cases f;let(t,rfl):=Y;let(T,r,pl,Z):=I.Ă d;let(j,b,c,k,m,o):=xN he;let(w,e,R):=r.get c;let l:=r.À;let N:=rQ;let fin:ϵW n a Q w s:=ϑN;show ϗJ pl.Ā slot_tuple_getitem.Ð (getItem_tuple (j:=j) (Q:=λr g=>r=w/\ϵW n a Q r g) pl Á Á (by rw[K9W,<-l];show b) ϵh (Ϸv fin)) S
def Sw:ϸR V9:=by
 ext value slice p s k H x y v u Q I R Y h S;let(z,i,c,rfl,rfl,Z,he,q):=h;let(t,rfl):=R;let(T,rfl):=Y;let(j,a,b,f,d,e):=xN he;let l:z.cps.toList.À=z.À:=Ϯ Str.length
 rw[l]at a d e;let n:=rQ;show tail_any ϚB slot_str_getitem.Ð (getItem_str (c:=c) (by
  let e1:ł (Õ (i < -(ϷE:Int))):=K9q Á;let g:ł (Õ (i ≥ ϷE)):=K9q Á
  rw[e1,g,Bool.or_false]) (by rw[a];simpa using b) (ϵl (Ė ϥu) ζ)) S
def rIx(K:At):R2:=ϰk (Av K x y H Q\/Wi K x y H Q\/V9 x y H Q)
def uj:ϸR (rIx X.K):=Hr.or<|Vc.or Sw
def E1(i:À Db)(n j:Nat)(u:Db):ϖL ((Ċ "list" Ϻ6))=Ċ "list" (ϰf (i.ß j u) n):=Ϯ Obj.mapSeq
def Inv.lst{P:À ŝ}{a:St}{H:Hp}{s:Da}{p:Ix}{x:À V}(I:ù P a H s)(h:H p=Â (ô x)):
  ∃(i:À Db)(n:Nat),Vals x i/\ϒz=Â ((Ċ "list" Ϻ6))/\ŀ x.À:=by
 let(z,i,n,r,e):=ύA h;show(i,n,r,e,z)
def Inv.lstUpd{s:Da}{S y:À V}{i its':À Db}{f:Obj->Obj}(I:Ģ)(h:H p=Â (ô S))(j:ϒz=Â ((Ċ "list" Ϻ6)))(F:f (Ċ "list" Ϻ6)=Ċ "list" (δ its'.Æ n'))(r:Vals y its')(Z:ŀ y.À)(t:Nat):
  ù H6 σ (ļ p<|ô y) {s with heap:=ϑO f,toks:=t}:=by
 let e:ϰV (ϑO f) p=Â ((Ċ "list" (δ its'.Æ n'))):=by rw[K7u f j (by rw[F]<;>rfl),F]
 show I.write (x:=p) (e:=p) (by rw[h];trivial) (Ð rfl) (λb u B q=>ĉ (ϕL _ _<|K8g B) q) ⟨_,e⟩ ?_;show(Z,its',n',r,e)
def Hw:V->Ϫf (Ú (Ú Hp)):=λo i v H Q=>∃p X k j,o=É p/\i=Ä k/\H p=Â (ô X)/\Ϲt k=ϱ6/\Q (ļ p<|ô<|Ϸ1 v)
def set_list:UP X Hw:=by
 ext P s g H o i v y w u Q I ro R V h;let(p,x,k,j,rfl,rfl,e,J,q):=h;cases ro;let(t,rfl):=R;let(T,n,r,O,Z):=I.lst e;let(a,m,f,d):=GX J;let l:=r.À;let N:=rQ;let b:ù P g (ļ p<|ô<|x.ß j v) ((ϹJ (ϑO ϖL))):=
  I.lstUpd e O (E1 T n j u) (r.ß V j) (ϓg K8z) s.ã
 cases c:0<=k
 .let K:k.Ò=j:=by rw[seqIndex_of c d]at a;show ϦR
  show PySem.W.ki_setAt O c Á (by rw[K9W,<-l];show d) (Ô K (_,b,q))
 let K:ĩ (k+Ì T.Ø)=j:=by
  rw[seqIndex_neg Á f]at a;rw[K9W,<-l];show ϦR
 show PySem.W.ki_setBack O Á (by rw[K9W,<-l];show f) Á (Ô K (_,b,q))
def Bz(lo hi:Ü Int)(n:Nat):(Ϗ0).1=ä (HT.sIx n 0 lo)/\Ϝz (Ϗ0).2 (ä (HT.sIx n n hi)) 1:=by
 show(?_,?_,rfl)
 .cases lo with
  |none=>simp[sliceBounds,HT.sIx]
  |some i=>
   simp only[sliceBounds,HT.sIx,Option.getD_none,ϱm (Ì 1 > 0),K83];cases h:i<0
   .simp only[h,K83]<;>lia
   simp only[h,if_false]<;>lia
 cases hi with
 |none=>simp[sliceBounds,HT.sIx]
 |some i=>
  simp only[sliceBounds,HT.sIx,Option.getD_none,ϱm (Ì 1 > 0),K83];cases h:i<0
  .simp only[h,K83]<;>lia
  simp only[h,if_false]<;>lia
def Aw(i:À Db)(lo hi:Ü Int):slicePick i.Æ lo hi none=Ϻp (Ł (i.ä<|HT.sIx i.À 0 lo)<|ϭY i.À):=by let(h,H,f):=Bz lo hi i.Ø;erw[slicePick];rw[h,H,f];simp only[sliceRange_one,pick_run,K9W]<;>rfl
def Y0(K:At):V->ϱv (Ü Int) (Hp->Ú VK):=λx lo hi H Q=>∃a X,x=É a/\μ a X/\∀p,ϵw->Q (É p) (ļ p<|ô<|NS X lo hi)
def du:SlR X (Y0 X.K):=by
 ext p s e H x v V u lo hi L Q I R c pl pu h;let(a,S,rfl,d,q):=h;cases R;let(i,r,t,Z):=I.ê d;let l:=r.À;show("list",_,slot_list_getitem.lookup,t.isList.typeIs,?_);show ϙC t.Ê c pl pu ò Û ?_ ϐV;rw[Aw,<-l];show(É s.Á,_,ϮV (o:=ô<|NS S lo hi) (λb O q=>ő q) ì ?_,rfl,q _<|I.É ì);show(K9C (El S lo hi) Z,_,0,Ł (r.ä<|HT.sIx S.À 0 lo)<|ϭY S.À,Ϣ)
def B4:ϹK (Ρ "len") (∃p y,x=[É p]/\(ϴY H p y\/Ϭm p y)/\Q (Ä y.À) H):=by
 ext n s c H x U Q I r h;let(p,y,rfl,a,q):=h;let(u,rfl,b):=vals1 r;cases b;let N:=rQ;rcases a with a|a
 .let(i,R,pl,Z):=I.ê a
  let l:=R.À;show Calls.call_len_list pl.Ê Ϯn (ϵl (Ä y.À) ϗK)
 let(i,R,pl,Z):=I.Ă a;let l:=R.À;show len_tuple pl Ϯn (ϵl (Ä y.À) ϗK)
def Cs:ϹK (Ρ "len") (∃z,x=[Ė z]/\ŀ z.À/\Q (Ä z.À) H):=by ext p s a H x U Q I r h;let(z,rfl,Z,q):=h;let(u,rfl,t,rfl):=vals1 r;let n:=rQ;show len_str Á (ϵl (Ä z.À) ζ)
def eD.or(h:ϳL f r)(h':ϳL f r'):ϳL f (ϤG<|ϭc\/r' x H Q):=by
 ext p s a H x u Q I rs q;rcases q with q|q
 .show Ϧn a H x u Q I rs q
 show h' p s a H x u Q I rs q
def B_:ϹK (Ω "list") (∃p y,x=[É p]/\(ϴY H p y\/Ϭm p y)/\∀l,H l=none->Q (É l) (ļ l<|ô y)):=by
 ext P s f H x U Q I r h;let(p,y,rfl,a,q):=h;let(u,rfl,c):=vals1 r;cases c;let fin:∀(i:À Db),Vals y i->ŀ y.À->∀(h':Op)(G:Nat),(∀b O,ϱL ϰd (some O) h'.È)->
   ϺT=Â ((ϸ0 "list" (δ i.Æ G)))->ϵW P f Q (É s.Á) ϰH:=λi R Z h' G k e=>
  ⟨É s.Á,_,ϮV k ì (ύ (Ϲn _ h' _ (ô y)) ⟨Z,i,G,R,e⟩),rfl,q _<|I.É ì⟩
 rcases a with a|a
 .let(i,R,pl,Z):=I.ê a
  let L:=R.À;let(o,j,C,n,d):=pl.Ê;show call_list_seq p (Ð rfl) j C d ϖR Ϯn
 let(i,R,pl,Z):=I.Ă a;let L:=R.À;let(o,j,C,n,d):=pl;show call_list_seq p (Ø rfl) j C d ϖR Ϯn
def tyV(K:At)(T:String)(x:V)(H:Hp):Prop:=match x with
 |.str _=>T="str"
 |.int _=>ϩw
 |.ref p=>(T="list"/\∃X,μ p X)\/(T="tuple"/\∃o,K.Ð p=Ö/\o.cls=Ω "tuple"/\o.dict=none)\/
   (T="dict"/\((∃Fv,H p=Â ϶m)\/∃Fv,H p=Â ϥP))\/(T="set"/\∃S n,H p=Â (.set S n))
 |_=>False
theorem KY(I:Ģ)(r:ϱ5 v)(ty:tyV X.K T x H):
  s.TypeIs v T/\∀a,v=É a->∃O,ϯL=some O/\O.dict=none:=by
 cases x with
 |str z=>
  let(t,rfl):=r;cases(ύ (T="str") ty);show(ϚB,λx e=>nomatch e)
 |int i=>
  let(t,rfl):=r;cases(ύ ϩw ty);show(typeIs_int s i t,λx e=>nomatch e)
 |ref p=>
  cases r;rcases ty with⟨rfl,f,q⟩|⟨rfl,o,k,C,d⟩|⟨rfl,k⟩|⟨rfl,S,n,k⟩
  .let(b,_,pl,_):=϶F q
   show(pl.Ĕ,λa e=>?_);cases e;let(o,n,e,c,d,_):=pl;show(o,e,d)
  .apply((o,I.kIn p o k,C),λa e=>?_)
   cases e;show(o,I.kIn _ o k,d)
  .let z:∃o,ϒz=Ö/\o.ExactDict:=by
    rcases k with⟨Fv,k⟩|⟨Fv,k⟩
    .let(_,_,_,_,o,_,_,e,ex,_):=ύA k
     show(o,e,ex)
    let(_,_,_,_,o,_,_,e,ex,_):=ύA k;show(o,e,ex)
   let(o,e,ex):=z;show((o,e,ex.1),λa g=>?_);cases g;show(o,e,ex.2.1)
  let(o,_,_,_,e,ex,_):=ύA k;show((o,e,ex.1),λa g=>?_);cases g;show(o,e,ex.2.1)
 |_=>show ϳm ty
def WR(K:At)(T:String)(r:V->À V->Hp->Ú VK)(to:TE):TE:=ϗ1 (r x [] h Q)
def tBM(K:At)(T:String)(r:V->À V->Hp->Ú VK)(to:TE)(t:TA):TE:=ϗ1 (t a h λX b=>r x X b Q)
variable{apos cpos:Pos}{T id:String}
def Ux(P:PlainAttrs T)(slot:Slot T name id)(t:typeOf (Ρ id)=pure (Ω "method_descriptor"))(M:ϔn)(j:ā o to)
  (b:à ώ8) (l:à Ϯa):ā (ϱc (ϴL o name apos) [] cpos) (WR X.K T r to):=by
 ext p s a H Q I h;show ϛU<|Ϲh ϙ4;let(x,c,i,R,ty,q):=zq;let(d,e):=KY i R ty;show(T,id,P,slot,t,d,e,ϕm<|PySem.evalArgs_none<|M p S a c x [] v [] Q i R õ q)
def Ru(P:PlainAttrs T)(slot:Slot T name id)(y:typeOf (Ρ id)=pure (Ω "method_descriptor"))(M:ϔn)(O:ā o to)(n:ϱS Ũ t)
  (b:à ώ8)
  (f:autoParam (((Ϻ0<|æ Ũ).all Ϲz&&ώ6
   &&Õ (Ã Ũ+Ã ([]:À Keyword)+(Ë ([]:À Keyword).isEmpty 0 1)<30))=true) mqaa.é)
  (i:à Ϯa) (S:à (æ Ũ=ϰG (æ es))) (l:à (ϰY<|Ϻ0<|æ es)):
  ā (ϱc (ϴL o name apos) Ũ cpos) (tBM X.K T r to t):=by
 ext p s a H Q I h;show ϛM<|Wp (O p s a H _ I h) λv z zq=>?_;let(x,d,c,R,ty,q):=zq;let(k,m):=KY c R ty;show(T,id,P,slot,y,k,m,?_);let A:=n cpos p z a d _ c q;rw[S]at A⊢;show Calls.callWith_builtin (by change ł (false||(Ϻ0<|æ es).any ϔ);rw[l]<;>rfl)<|Calls.evalArgs_plain ?_;show Wp A λU B zq=>by let(V,g,j,w,u):=zq;show M p B a g x V v U Q j R w u
end
def MtM(X:Cx)(id:String)(r:V->À V->Hp->Ú VK):Prop:=
 ∀(p:À ŝ)(s:Da)(a:St)(H:Hp)(x:V)(S:À V)(v:Db)(u:À Db)(Q:VK),ù p a H s->ϱ5 v->Vals S u->r x S H Q->
  Ő (call (Ρ id)<|v::u) ϶0 X.xe s
def Vals.one(h:ţ [x] us):∃u,us=[u]/\ϱ5 u:=by
 cases h with|cons r t=>cases t;show(_,rfl,r)
def Vals.two(h:ţ ϶K us):∃u v,us=[u,v]/\ϱ5 u/\RelV y v:=by
 cases h with|cons r t=>let(v,rfl,q):=Vals.one t;show(_,v,rfl,r,q)
def Vals.zero:∀{s:À Db},ţ [] s->s=[]|_,.nil=>rfl
def Vals.dropLast(h:Ϥf us):ţ xs.Ù us.Ù:=by
 induction h with
 |nil=>show õ
 |cons r t ih=>
  cases t with|nil=>show õ|cons q t'=>show ą r ih
def Vals.reverse(h:Ϥf us):ţ xs.å us.å:=by
 induction h with|nil=>show õ|cons r t ih=>rw[K8T,K8T];show Vals.append ih<|ą r õ
def Vals.rep(h:Ϥf us):∀k:Nat,ţ ((ϤP (ϳX xs))) ((ϤP (ϳX us)))|0=>õ|k+1=>ϗD Vals.append Vals.rep
def Fy(l:À α):l.eraseIdx (l.À-1)=l.Ù:=by
 induction l with
 |nil=>rfl
 |cons a r ih=>
  cases r with
  |nil=>rfl
  |cons b r=>
   let e:Ã (a::b::r)-1=(Ã (b::r)-1)+1:=by
    let h:Ã (a::b::r)=r.À+2:=rfl;let H:Ã (b::r)=r.À+1:=rfl;lia
   rw[e,List.eraseIdx_cons_succ,ih]
   all_goals rfl
theorem foldl_rep(i:À Db):∀(k:Nat)(a:À Db),
  List.foldl (λx b=>x++b) a.Æ (ϳX i.Æ)=Ϻp (a++ϤP (ϳX i)):=by
 induction _ with
  |zero=>
   intro a
   simp
  |succ k ih=>
   intro a
   let e:a.Æ++i.Æ=Ϻp (a++i):=Û
   let g:(a++i)++ϤP (ϳX i)=a++ϤP (ϳ2 (k+1) i):=by rw[K99,K8a,K9M]
   rw[<-g,<-ih (a++i),<-e,K99,List.foldl_cons]
section
variable{s:Da}{xs ys zs:À V}
def Inv.lset{i its':À Db}{f:Ζ Db->Ζ Db}(I:Ģ)(h:H l=Â (ô xs))(e:s.Ë l=Â ((Ċ "list" Ϻ6)))(F:f i.Æ=its'.Æ)(v:Vals ys its')(Z:ŀ ys.À):
  ù H6 σ (ļ l<|ô ys) ((ϱl (s.Ī l<|Obj.mapSeq f) t')):=by
 let q:=PySem.IsL.update e f;rw[F]at q;show I.write (x:=l) (e:=l) (by rw[h];show trivial) (Ð rfl) (λb u B U=>ĉ (ϕL s.Ì (Obj.mapSeq f)<|K8g B) U) ⟨_,q⟩ ?_;show(Z,its',_,v,q)
def Inv.lnew(I:Ģ)(h:Vals ys its)(Z:ŀ ys.À):
  ù H6 σ (ϵ2<|ô ys) ((ϱl (ϳi ((Ċ "list" (δ its.Æ)))) t')):=
 I.ĩ (λx x q=>ő q) ì ⟨Z,its,0,h,Ϣ⟩
def Inv.fresh(I:Ģ):ϘP:=I.É ì
def Inv.lstM(I:Ģ)(h:H l=Â (ô xs)):ŀ xs.À/\∃(i:À Db)(n:Nat),Ϥf i/\ϚC/\s.Ë l=Â ((Ċ "list" Ϻ6)):=by let(z,i,n,r,e):=I.hok l _ h;show(z,i,n,r,r.length,e)
def DH(h:όs):ł (Builtin.List.listTooLong n):=ϵp Builtin.List.listTooLong (K9q Á)
end
def CM:V->À V->Hp->Ú VK:=λx s H Q=>∃l X y,x=É l/\s=[y]/\H l=Â (ô X)/\ϥ0 X.À/\Q Α (ļ l<|ô<|X++[y])
def wC:MtM X "list.append" CM:=by
 ext p s d H x V v U Q I b R h;let(l,S,y,rfl,rfl,a,Z,q):=h;cases b;let(u,rfl,L):=R.one;let(z,i,n,r,c,e):=I.lstM a;show K86 F.slot_list_append ϧZ F.entry_list_append (F.args_list_append_2 _ _) (ϛF<|Ă K9W) ϔo;show(Α,_,ϒx (i++[u]) Û (r.đ<|ą L õ) ?_,rfl,q);rw[K9v,K9e];lia
def CA:V->À V->Hp->Ú VK:=λx s H Q=>∃l b X zs,x=É l/\s=[É b]/\H l=Â (ô X)/\H b=Â (ô zs)/\ŀ (ϻV X.À)/\Q Α (ļ l<|ô<|X++zs)
def AR:MtM X "list.extend" CA:=by
 ext p s k H x S v U Q I c V h;let(l,b,f,zs,rfl,rfl,a,B,Z,q):=h;cases c;let(u,rfl,R):=V.one;cases R;let(z,t,n,r,d,e):=I.lstM a;let(j,i,N,m,L,g):=I.lstM B;let hsz:ŀ ϖ9:=Ϻ K9W K9W
 let o:¬Μ (!t.toArray.isEmpty&&Builtin.List.listTooLong ϖ9):=Ε (DH hsz) Bool.and_false K9o
 apply K86 F.slot_list_extend ϧZ F.entry_list_extend (F.args_list_extend_2 _ _)
  (AutoSeq1.list_extend_list_list_0 l t.Æ n b i.Æ N o (Ă K9W) Á) ⟨e,g,?_⟩
 show(Α,_,ϒx (t++i) Û (r.đ m) ?_,rfl,q);rw[K9v];lia
def Wh:V->À V->Hp->Ú VK:=λx s H Q=>∃l X y,x=É l/\s=[]/\H l=Â (ô X)/\X[ϫU]?=ϰO/\Q y (ļ l<|ô X.Ù)
def TN:MtM X "list.pop" Wh:=by
 ext p s j H x f v S Q I d V h;let(l,g,y,rfl,rfl,a,c,q):=h;cases d;let U:=V.zero;subst U;let(z,i,n,r,L,e):=I.lstM a;let(u,b,R):=r.get c;let Y:i.Æ[ϚD]?=ķ:=by
  change i.Æ[i.À-1]?=ķ;rw[<-Array.getElem?_toList,<-L];show b
 show K86 F.slot_list_pop ϧZ F.entry_list_pop (F.args_list_pop_1 _) (ϛs<|Ă K9W) ϔo;show(y,_,ϒx i.Ù ?_ r.Ù ?_,R,q)
 .change i.toArray.eraseIdxIfInBounds ϚD=i.dropLast.Æ
  rw[K9W,List.eraseIdxIfInBounds_toArray,Fy]
 rw[Zcz];lia
def len_rep(X:À α)(k:Nat):(ϳX X).flatten.length=k*X.À:=by
 induction k with|zero=>simp|succ k ih=>rw[K99,K8a,K9v,ih,Zdo,Zct]
end L2
namespace Att
open PySem PySem.W PySem.Calls PyProof.Rows
def xp:∀(ns:À Int)(s:À Db),WellAll P h s ϙ9->ϫw:=by
 ext ns
 induction ns with
 |nil=>ext s w;rw[K9D]at w;cases w;show õ
 |cons n ns ih=>
  ext s w;rw[K9w]at w;cases w with|cons a b=>cases a;show ą _ _<|ϲ2 b
theorem Jg{l:OpenLaw}(N:l.most=ϵL){h:Op}(p:l.row.toRowW.claim.pre args=true)(w:WellAll P h vals args):
  ∃a v ns,vals=[ϹA]/\args=[WData.ê ϙ9]/\ϴV=Â ((Ċ "list" (δ v.Æ)))/\IntsAre v ns/\ϯ9:=by
 let s:WShape.hasAll [] args [Ï Ä]=true:=(pre_splitW p).1;let C:l.pre.holds [] {args:=args}=true:=(pre_splitW p).2;let(d,r,rfl,H,b):=hasAllW_cons s;obtain rfl:=hasAllW_nil b;let(X,rfl,f):=hasW_list H;let(ns,rfl):=items_int f;let e:ϯ9:=by
  erw[OpenLaw.pre]at C;let c:(WTm.not<|.lt (.lit<|Ä Ŵ)<|.len<|.arg 0).holds [] {args:=[Ï<|ns.Ç Ä]}=true:=by let c:=(holds_andW C).1;rw[N]at c;show c
  let g:=condW_of c<|w_not<|w_lt w_lit<|w_len_list<|w_arg rfl;rw[K0]at g;show Nat.le_of_not_lt λq=>?_;let Q:Ŵ<Ì ns.À:=Á
  first
   |(rw[Z8 Q]at g;show ĭ g Ý)
   |(simp at g;lia)
 cases w with
 |cons w1 w2=>
  cases w2;cases w1 with|list ho hall=>show(_,_,ns,rfl,rfl,ho,xp ns _ hall,e)
def JX(l:OpenLaw)(args:À WData):l.row.toRowW.claim.post args (ã true) args=true:=
 postW_of (r:=l.Č) (X:=(true==true))
  (show WShape.has [] (ã true) ã=true by first|rfl|decide|simp[WShape.has,WShape.arms,WShape.armsAll])
  (ύ ((WTm.eq .res<|.lit<|ã true).value [] {args:=args,res:=Â<|ã true,after:=args}=Â (ã<|true==true))<|w_eq_bool (w_res rfl) w_lit) rfl
def DU{l:OpenLaw}{x:Ŏ->Ú Op}{y:Ev->Ú Op}{d:DefRec}(N:l.most=ϵL)(D:ϐI)(call:∀(w:Ev)(s₀ S:Da)(m M:Ŏ)(fa:Ix)(o:Obj)(pm cd doc:Db)(a:Ix)(s:À Db)(ns:À Int),
   Ground q loose [] x w s₀ m M S.Ì->y w S.Ì->
   S.Ë fa=Ö->o.data=ϷB (docDef d.name d.params d.body d.scope pm cd doc)->S.heap.CodeRec cd d.name->m d.name=Â (É fa)->
   S.Ë a=Â ((Ċ "list" (δ s.Æ)))->ϫw->ϯ9->S.Ĭ=#[]->
   ϸy (model l.ø w) callerA (.call (É fa) (ϱd [É a])) (λr c=>r=ϩg (ã true)/\Ϗj) S):
  WalkO q loose x y l.Č d [] (λf s=>ϒX s):=by
 ext w s₀ S m M G Y fa o pm cd doc v kV z t H e g hg args vals as p L R W O;obtain rfl:v=ò:=Dflts.none e D;obtain rfl:kV=ò:=Dflts.noKw e;let(a,s,ns,rfl,rfl,b,hints,h):=Jg N p W;show enter_call<|codeAny_mono (call w s₀ S m M fa o pm cd doc a s ns G Y z (fd_plain t) H g b hints h hg) λr c Q=>?_;let(rfl,i,j,k):=Q;show(Ð ⟨ã true,ã true,[],rfl,ώg,ã true,JX l _,Ţ ⟨List.Pairwise.nil,λx u=>(nomatch u)⟩⟩,i,j,k)
end Att
namespace L2
open PySem PySem.Spec PyProof.Rows
def ou:∀{s:À Db}{ns:À Int},ϫw->ţ ϲg s:=by
 ext s ns h;induction h with|nil=>show õ|cons n t h ih=>show ą ϓD ih
def U6(H:Hp):Prop:=∀b,ϰ7\/∃o X,H b=Â (ϨO<|ô X)
def cV(s:No):Arguments:=match s with
 |.FunctionDef _ a _ _ _ _ _ _ _ _=>a
 |_=>{posonlyargs:=[],args:=[],vararg:=none,kwonlyargs:=[],kw_defaults:=[],kwarg:=none,defaults:=[]}
def bN(s:No):À No:=match s with
 |.FunctionDef _ _ b _ _ _ _ _ _ _=>b
 |_=>[]
def ah(s:No):Scope:=match s with
 |.FunctionDef _ _ _ _ _ _ sc _ _ _=>sc
 |_=>{kind:=ϻQ,names:=[],isGenerator:=false,isCoroutine:=false}
abbrev y_:CXT:=λx x x x x x=>False
abbrev E0:XK:=ϧL
structure Fun(K:At)(x qual:Str)(st:No)(f:Ix)(fd:Fk):Prop where
 ex:∃(oc:Db)(od:Ü Ix)(kV doc pm:Db)(an:Ü Ix)(cdv ct:Db)(osl:Ζ Ch),
  fd=Ϧ5 ò kV doc pm an cdv ct/\ϫ4=Â ⟨oc,od,ϷB fd,osl⟩/\ϸj cdv qual=true
 kp:ϵo K (É f)
section
variable{K:At}
def Fun.ok{T:No}(F:ϮO)(S:Fq N ps ϵI)(len:ϑ3 ϫ3 ps.À)(B:∀(c:Db)(A:Go)(outer:À Env)(s:Da)(H:Hp)(v:À V)(Q:VK)(E:XK),ϦZ ϵI->ϫ3->
   ∃t,PSs (Ϗe mg) ϩO t/\t {nx:=λx a=>Q Α a,rt:=Q} (ϨI v) H):ϳ5 mg base y_ (k+1) f fd ps sp:=by
 let(W,D,kV,doc,pm,an,c,ct,O,rfl,U,d):=F.ex;show ϖj;let(t,h,q):=ϗR;show(t,h.nox,q)
def Fun.binds{T:No}(F:ϮO)(h:∀(kV doc pm:Db)(an:Ü Ix)(c ct:Db)(s:À Db),ώI s.À->bindArgs (fnOf x qual (cV T) ϩO ϵI ò kV doc pm an c ct) ⟨s,[]⟩=pure (ps.Ċ s)):ϹG K []:=by let(W,D,kV,doc,pm,an,c,ct,O,rfl,U,d):=F.ex;show .all<|h kV doc pm an c ct
def Fc{x qual:Str}{st:No}{f:Ix}{W:Db}{D an:Ü Ix}{O:Ζ Ch}{kV doc pm d ct:Db}(l:ϫ4=Â ⟨W,D,ϷB<|Ϧ5 ò kV doc pm an d ct,O⟩)
  (c:ϸj d qual=true) (k:ϵo K (É f)):Fun K x qual st f (Ϧ5 ò kV doc pm an d ct):=⟨⟨W,D,kV,doc,pm,an,d,ct,O,rfl,l,c⟩,k⟩
end
section
variable{X:Cx}
def pv(i:Nat){pos:Pos}(hN:à (á X.N=Ď))(hv:ϕ (Ϫ6 x))(hd:ϲx)(hcd:ϱE (ł<|x==ϐt)):ā (ð pos) ϲn:=eJ hN hv hd hcd
end
def aK(H h:Hp):Prop:=∀b o,H b=Ö->h b=Ö
def aK.refl(H:Hp):aK H H:=λx x h=>h
def aK.trans(a:aK H H1)(b:aK H1 H2):aK H H2:=λc o h=>b c o<|a c o h
def aK.free(e:ϩx)(h:H' l=Option.none):H l=Option.none:=by
 cases q:H l with|none=>rfl|some o=>rw[e l o q]at h;cases h
def aK.seq{K:At}{H b:Hp}{a:Ix}{X:À V}(e:aK H b)(h:μ a X):SqL K b a X:=by
 rcases h with (h|⟨o,h⟩)|h
 .show Ð<|Ð Ϩ4
 .show Ð<|Ø ⟨o,Ϩ4⟩
 show Ø h
end L2
set_option maxHeartbeats 4000000
namespace L2
open PySem PySem.Spec PyProof.Rows
def frees(env:Env):À ϴD->À ϵr->À ϵr|[],cs=>cs|(n,k)::r,cs=>Ë (Μ ϧt) (ϥB r ((n,Ó ϐ5 0)::cs)) (ϥB r cs)
theorem vM:∀(l:À ϴD)(s:À ϵr),(∀y∈l,y.2=Ϝ->∃c,ϑ5 y.1=ī)->
  (∀c,ϔp=ī->ϮX=ī)->ϲ (ϥB l s) x=ī->ϮX=ī:=by
 induction _ with
  |nil=>
   ext s _ hc e
   exact hc c e
  |cons x16 r ih=>
   intro s hl hc e
   obtain⟨n,k⟩:=x16
   erw[frees]at e;cases H:ϧt=true
   .rw[ϱT]at e
    let(d,D):=hl (n,k) K9z Ϻ4;let h:ϐ5=ϰN:=D;show ϲ2 (λy Y=>hl y<|ě Y) (λG e'=>?_) e;rw[K9X]at e';cases hx:x==n with
    |true=>
     rw[hx]at e';let X:x=n:=ť hx
     rw[h]at e';rw[X,h];show e'
    |false=>rw[hx]at e';show hc G e'
   .rw[ϲb]at e
    show ih s (λy Y=>hl y<|ě Y) hc e
def sf:∀(l:À ϴD)(s:À ϵr),(ϙq\/∃c,ϔp=ī)->∃c,ϲ (ϥB l s) x=ī:=by
 induction _ with
  |nil=>
   intro s h
   rcases h with h|h
   .cases h
   .show h
  |cons x1 r ih=>
   intro s h
   obtain⟨n,k⟩:=x1
   erw[frees];cases H:ϧt=true
   .rw[ϱT]
    show ϲ2 ?_;rcases h with h|⟨c,h⟩
    .rcases K8v.mp h with e|e
     .cases e
      show Ø ⟨Ó ϮX 0,Ĥ K9X K8Q⟩
     .show Ð e
    .apply Ø ?_
     rw[K9X];cases hx:x==n with|true=>show(_,rfl)|false=>show(c,h)
   .rw[ϲb]
    show ϲ2 ?_;rcases h with h|h
    .rcases K8v.mp h with e|e
     .cases e
      show Ϡ H
     .show Ð e
    .show Ø h
theorem GA{env:Env}:∀{names:À ϴD},(ϲ (names.map λ(n,k)=>Ë (ϪE&&ϫx==Â š) (n,NameKind.cell) (n,k)) x=Â k')->
  ∃k,names.lookup x=Ş/\(k'=k\/(k=Ϝ/\k'=š)):=by
 induction _ with
  |nil=>
   intro h
   simp at h
  |cons x4 r ih=>
   intro h
   obtain⟨n,k⟩:=x4
   rw[K9w]at h;dsimp only at h;rw[K9X];cases C:(ϪE&&ϫx==Â š)=true
   .rw[Os C,K9X]at h
    cases hx:x==n with
    |true=>
     rw[hx]at h;cases h;let H:k=Ϝ:=by
      rw[K9U,K9U]at C;simpa using C.1.1
     show(k,rfl,Ø ⟨H,rfl⟩)
    |false=>rw[hx]at h;show ih h
   .rw[P3 C,K9X]at h
    cases hx:x==n with
    |true=>rw[hx]at h;cases h;show(_,rfl,Ð rfl)
    |false=>rw[hx]at h;show ih h
theorem oN{env:Env}:∀{names:À ϴD},names.lookup x=Â Ϝ->
  ϵf (ϲ (names.map λ(n,k)=>Ë (ϪE&&ϫx==Â š) (n,NameKind.cell) (n,k)) x) (Â š) (Â Ϝ):=by
 induction _ with
  |nil=>
   intro h
   simp at h
  |cons x7 r ih=>
   intro h
   obtain⟨n,k⟩:=x7
   rw[K9w];dsimp only;rw[K9X]at h;cases C:(ϪE&&ϫx==Â š)=true
   .rw[Os C,K9X]
    cases hx:x==n with|true=>show Ð rfl|false=>rw[hx]at h;show ih h
   .rw[P3 C,K9X]
    cases hx:x==n with
    |true=>rw[hx]at h;cases h;show Ø rfl
    |false=>rw[hx]at h;show ih h
theorem mL:∀{l:À ϴD},l.Ð x=Ş->(x,k)∈l:=by
 induction _ with
 |nil=>ext h;cases h
 |cons p r ih=>
  let(n,j):=p;ext h;rw[K9X]at h;cases hx:x==n with
  |true=>
   rw[hx]at h;cases h;let:x=n:=ť hx
   rw[this];show K9z
  |false=>rw[hx]at h;show ě<|ih h
def yu(h:ϵj (x.2=Ϝ->∃c,ϑ5 x.1=ī)):closureFor scope env=pure (ϥB scope.names []):=by
 erw[closureFor];let key:∀(l:À ϴD)(s:À ϵr),(∀x∈l,x.2=Ϝ->∃c,ϑ5 x.1=ī)->
  (forIn l s λ(x:Str×NameKind)(r:List (Str×Ix))=>if Μ (x.2==NameKind.free) then do let a <-cellOf env x.1;pure (ForInStep.yield<|(x.1,a)::r)else Ϙq:Sem (À ϵr))=pure (ϥB l s):=by
  ext l
  induction l with
  |nil=>ext s _;rfl
  |cons x r ih=>
   ext s X;let(n,k):=x;rw[Zdt];dsimp only;let hr:=λs=>ih s λy Y=>X y<|ě Y;cases H:ϧt=true
   .let(c,C):=X (n,k) K9z Ϻ4
    let t:ϐ5=ī:=C;rw[ϱT];erw[frees];rw[ϱT];let e1:cellOf env n=pure c:=by erw[cellOf];rw[t]
    rw[e1,t,<-hr];rfl
   rw[ϲb];erw[frees];rw[ϲb,<-hr];rfl
 let:=key scope.names [] h;simp only[bind_pure];show this
def J_(ifs:À On)(env:Env):Sem Bool:=forIn ifs true λc r=>if r=true then do let ok <-isTrue c env (eval c env);pure (ForInStep.yield ok)else Ϙq
theorem Cw{pos:Pos}{it a:Db}(J:Nat->Ú Da)(turn:∀n s,J n s->wpAny ϫd A (pyNext it) (λr b=>match r with
   |none=>R (Ħ .next) b
   |some v=>wpAny ϫd A (ϐv it v) (λu d=>wpAny ϫd A (assign tg env v) (λv z=>wpAny ϫd A (J_ ifs env) (λok s4=>
     Ë (ok=true) (ϰF (eval elt env) (λx N=>ϰF (call (Ρ "list.append") [a,x]) (λx Y=>∃m,m<n/\J m Y) ϶Y N) ϶Y s4) (∃m,m<n/\J m s4)) ϶Y z) ϶Y d) ϶Y b) ϶Y s)(n:Nat)(h:J n s):ϸy ϫd A (.compLoop ϳN 0 it a env) R s:=by
 show codeAny_loop rfl J (λn s l=>?_) n h;let no:∀(P:Db->Ú Da)(e:Db)(S:Da),False->P e S:=λx x x f=>f.Ä;change ϷF _ A ((compTurn ϳN 0 it a env).onRaise λx=>do noteFrame x env;theTreesLotGoes x) _ _ s;show wpAny_noted ?_;rw[compTurn_list];show Ps<|K7o<|Ps<|K8m (turn n s l) (λr b H=>?_) ϧI;cases r with
 |none=>show K9J H
 |some v=>
  show Ps<|K8m H (λx d g=>?_) ϧI;show Ps<|K8m g (λx z i=>?_) ϧI;show Ps<|K8m i (λok s4 c=>?_) ϧI;cases ok with
  |false=>show K9J ⟨rfl,c⟩
  |true=>
   show Ps<|Ps<|K8m c (λx N j=>?_) ϧI;show Ps<|K8m j (λx Y k=>K9J<|K9J ⟨rfl,k⟩) ϧI
def cxB(X:Cx)(N:À Str)(scope:Scope)(s:Da)(H:Hp)(C:Ix)(ex:À Ix)(p:À ŝ):Cx:=
 {X with N:=N,s₀:=s,H₀:=H,env:=compEnvC scope ϵd C X.Ü,outer:=X.ă,ex:=ex,fn:=όn,pn:=X.pn++p,xe:=϶Y}
def lX(X:Cx)(scope:Scope):Ú (À ϴM)|[]=>True|p::r=>(X.N[p.1]?=Â p.2/\Ϻ2 p.2=Â Ϝ)/\lX X scope r
def lX.get:∀{outs:À ϴM}{j:Nat}{p:ϴM},όk X->ę outs=ϲm->X.N[p.1]?=Â p.2/\Ϻ2 p.2=Â Ϝ:=by
 induction _ with
  |nil=>
   ext _ _ _ e
   simp at e
  |cons q r ih=>
   ext x40 p h e
   cases x40 with
    |zero=>
     simp at e;subst e;show h.1
    |succ j=>
     exact ih (j:=j) h.2 ϵh
structure Blk(X:Cx)(sc scope:Scope)(outs:À ϴM):Prop where
 hsc:X.Ě=sc
 kind:scope.kind=ϻQ
 loc:ϵj (x.2=ο->Ϻ2 x.1=Â ο)
 nocell:ϵj (x.2≠š)
 fr:ϵj (x.2=Ϝ->ϵf ϮP (Â š) (Â Ϝ))
 out:όk X
def slots(k:Nat)(outs:À ϴM)(a:St):St:=ϳX none++ϵC (λp=>(a[p.1]?).join)
def mH:St->Ú St|[],[]=>True|none::r,_::r'=>mH r r'|some v::r,w::r'=>w=ĥ/\mH r r'|_,_=>False
def mH.len:∀{σ σ':St},mH σ σ'->σ.À=σ'.À:=by
 ext σ;induction σ with
 |nil=>ext σ' h;cases σ' with|nil=>rfl|cons _ _=>cases h
 |cons o r ih=>
  ext σ' h;cases σ' with
  |nil=>cases o<;>cases h
  |cons w r'=>cases o with|none=>let:=όo h;simp[this]|some v=>let:=όo h.2;simp[this]
def mH.get:∀{σ σ':St}{i:Nat}{v:V},mH σ σ'->á σ=Â ĥ->á σ'=Â ĥ:=by
 ext σ;induction σ with
 |nil=>ext _ i v _ e;simp at e
 |cons o r ih=>
  ext σ' i v h e;cases σ' with
  |nil=>cases o<;>cases h
  |cons w r'=>
   cases o with
   |none=>cases i with|zero=>simp at e|succ i=>let:=όo (i:=i) (v:=v) h ϵh;simpa using this
   |some u=>
    cases i with
    |zero=>simp at e;rw[h.1];simp[e]
    |succ i=>let:=όo (i:=i) (v:=v) h.2 ϵh;simpa using this
def PF(X:Cx)(ifs:À On)(t:TT):Prop:=
 ∀(p:À ŝ)(s:Da)(a:St)(H:Hp)(Q:Bool->Ú Hp),ù p a H s->ϩu->Ő (J_ ifs X.Ü) ϒr X.xe s
def OW:TT:=ϤG (Q true H)
def NW:PF X [] OW:=ϧO (wpAny_tests_nil ⟨H,I,h⟩)
def Uq(h:ϸV c t):PF X [c] t:=λp s a H Q I q=>wpAny_tests_one<|Ϧn a H Q I q
abbrev Wy(tc:TT)(te:TE)(d:St)(D:Ix)(a:À V)(N:À V->Ú Hp):St->Ú Hp:=λc H=>mH d c/\tc c H λb h=>Ë (b=true) (te c h λy e=>e D=Â (ô a)/\ϥ0 a.À/\N Ϭ3 (upd e D<|ô Ϭ3)) (N a h)
def Vq(J:It)(g:TG)(tc:TT)(te:TE)(d:St)(D:Ix)(H:Hp)(Q:Ú Hp):Prop:=
 ∃W:Nat->Nat->À V->Ú Hp,(∃m,W 0 m []<|ļ D<|ô [])/\∀i m c h,W i m c h->
  (ώf h/\Q h)\/(J.go i h/\∃N:À V->Ú Hp,(∀a b,N a b->∃M,M<m/\W (i+1) M a b)/\∀x b,J.yld i h x b->g x d b (Wy tc te d D c N))
def EF(wi:TI)(g:TG)(tc:TT)(te:TE)(k:Nat)(outs:À ϴM):TE:=λa H Q=>wi a H λJ h=>∀D,h D=none->Vq J g tc te (slots k outs a) D h λb=>Q (É D) b
def yX(scope:Scope)(cl:À ϵr)(C:Ix)(env:Env):Env:=compEnvC scope (ϺP (C+1) cl) C env
private theorem iM:∀(names:À ϴD)(n:Nat)(a:À ϵr){x:Str}{c:Ix},ϲ ϪW x=ī->Ϩx=ī\/(n<=c/\(x,NameKind.cell)∈names)
 |[],n,a,x,c,h=>Ð h
 |(y,k)::r,n,a,x,c,h=>by
  erw[cellsFrom]at h;split at h
  .rename_i d
   let K:k=š:=by simpa using d
   rcases iM r (n+1) _ h with h|⟨b,H⟩
   .rw[K9X]at h
    cases hx:x==y with
    |true=>
     rw[hx]at h;cases h;let:x=y:=ť hx
     show Ø ⟨ì,by rw[<-K,this];show K9z⟩
    |false=>rw[hx]at h;show Ð h
   .show Ø ⟨Á,ě H⟩
  .rcases iM r n _ h with h|⟨b,H⟩
   .show Ð h
   .show Ø ⟨b,ě H⟩
private theorem mR:∀(names:À ϴD)(n:Nat)(a:À ϵr){x:Str},(x,NameKind.cell)∉names->ϲ ϪW x=Ϩx
 |[],n,a,x,h=>rfl
 |(y,k)::r,n,a,x,h=>by
  erw[cellsFrom];split
  .rename_i H
   let K:k=š:=Ϻ4
   rw[mR r (n+1) _ λz=>h<|ě z,K9X];let:ł (x==y):=by
    cases hx:x==y with
    |false=>rfl
    |true=>
     let e:x=y:=ť hx
     show ĭ (by rw[e,<-K];show K9z) h
   rw[this]
  .show mR r n _ λz=>h<|ě z
private theorem mY:∀(names:À ϴD)(h:Op)(a:À ϵr){x:Str}{c:Ix},ϲ (cellsFrom h.Â names a) x=ī->Ϩx=ī\/(pushCells h names).IsCell c none
 |[],h,a,x,c,e=>Ð e
 |(y,k)::r,h,a,x,c,e=>by
  erw[cellsFrom]at e;erw[pushCells];split at e
  .rename_i H
   rw[ϱT];let sz:Θ (h.û (Ċ "cell" (š none)))=h.Â+1:=K8l ..;rw[<-sz]at e;rcases mY r (h.û (Ċ "cell" (š none))) _ e with q|q
   .rw[K9X]at q
    cases hx:x==y with
    |true=>rw[hx]at q;cases q;show Ø (ϲi (ϐQ _ _ Ϣ))
    |false=>rw[hx]at q;show Ð q
   .show Ø q
  .rename_i H
   rw[ϲb];show mY r h _ e
def Eo(h:∀H:Op,(∀b o,ϱL ϰd Ö H.È)->H.Ns s.Á ϹM->H=pushCells (ϳi<|(Ċ "dict" Ϭo)) scope.names->
   Q {scope:=scope,locals:=s.Á,globals:=globals,cells:=ϺP (ů 1) closure,qual:=qual,func:=none,code:=outer.code,frame:=outer.frame,builtins:=outer.builtins} {s with heap:=H}):
  ϧP (Ϙr globals closure [] qual none ò<|Â outer):=by
 simp only[newFunctionEnv,Zfc,K83];show Ps<|wpAny_alloc ?_;show Ps<|wpAny_layCells _ (λname kind cells=>by cases hkc:kind==NameKind.cell with|_=>simp[hkc]) _ _ _ _ ?_;rw[show((ϹJ (ϳi ((Ċ "dict" Ϭo)))):Da).heap.objs.size=ů 1 from K8l ..];show ϲY;rw[List.forIn_nil];apply K9J<|K9J<|h _ (ϲZ<|ϐQ b o<|ő e) ((Ϝu<|Ω "dict").keeps ϐQ) rfl
private theorem mS:∀(names:À ϴD)(n:Nat)(a:À ϵr),(∀x c,Ϩx=ī->ϐW c n)->(∀x y c,Ϩx=ī->a.Ð y=ī->x=y)->∀x y c,ϲ ϪW x=ī->ϲ ϪW y=ī->x=y
 |[],n,a,_,hi,x,y,c,b,H=>hi x y c b H
 |(z,k)::r,n,a,hb,hi,x,y,c,b,H=>by
  erw[cellsFrom]at b H;split at b
  .rename_i K
   rw[Os K]at H;let look:∀x c,ϲ ((z,n)::a) x=ī->(x=z/\c=n)\/Ϩx=ī:=λx c h=>by
    rw[K9X]at h;cases hx:x==z with
    |true=>rw[hx]at h;show Ð ⟨ť hx,(ϸM).symm⟩
    |false=>rw[hx]at h;show Ø h
   show mS r (n+1) ((z,n)::a) (λx c h=>?_) (λx y c b H=>?_) x y c b H
   .rcases look x c h with⟨_,e⟩|h
    .rw[e]
     show K8d n
    .show K8f<|hb x c h
   .rcases look x c b with⟨e1,f⟩|b
    .rcases look y c H with⟨g,J⟩|H
     .rw[e1,g]
     .rw[f]at H
      show ĭ (hb y n H) ϵJ
    .rcases look y c H with⟨g,J⟩|H
     .rw[J]at b
      show ĭ (hb x n b) ϵJ
     .show hi x y c b H
  .rename_i K
   rw[P3 K]at H;show mS r n a hb hi x y c b H
private theorem wy:∀(l:À ϴD)(s:À ϵr),ϲ (ϥB l s) x=ī->ϔp=ī\/ϙq
 |[],s,h=>Ð h
 |(n,k)::r,s,h=>by
  erw[frees]at h;split at h
  .rename_i H
   let K:k=Ϝ:=Ϻ4
   rcases wy r _ h with h|h
   .rw[K9X]at h
    cases hx:x==n with
    |true=>
     let:x=n:=ť hx
     show Ø (by rw[this,<-K];show K9z)
    |false=>rw[hx]at h;show Ð h
   .show Ø<|ě h
  .rcases wy r _ h with h|h
   .show Ð h
   .show Ø<|ě h
def xZ(scope:Scope)(x:Str):Bool:=scope.names.any λp=>p.1==x&&p.2==NameKind.cell
def wQ(h:xZ scope x=true):(x,NameKind.cell)∈scope.names:=by
 erw[xZ]at h;rw[Zdr]at h;obtain⟨⟨y,k⟩,M,e⟩:=h;rw[K9U]at e;let e1:y=x:=ť e.1
 let g:k=š:=ť e.2
 rw[e1,g]at M;show M
def cxK(X:Cx)(N:À Str)(scope:Scope)(s:Da)(H:Hp)(C:Ix)(ex:À Ix)(p:À ŝ):Cx:=
 {X with N:=N,s₀:=s,H₀:=H,env:=yX scope ϵd C X.Ü,outer:=X.ă,ex:=ex,fn:=xZ scope,pn:=X.pn++p,xe:=϶Y}
structure BlkK(X:Cx)(sc scope:Scope)(outs:À ϴM):Prop where
 hsc:X.Ě=sc
 kind:scope.kind=ϻQ
 loc:ϵj (x.2=ο->Ϻ2 x.1=Â ο)
 own:ϵj (x.2=š->Ϻ2 x.1=Â š)
 ap:ϵj (x.2=Ϝ->(x.1,NameKind.cell)∉scope.names)
 fr:ϵj (x.2=Ϝ->ϵf ϮP (Â š) (Â Ϝ))
 out:όk X
section
variable{X:Cx}{sc scope:Scope}{own:À Str}{outs:À ϴM}{pos:Pos}
def vX(B:϶X)(I:Ģ):ϵj (x.2=Ϝ->∃c,X.ô x.1=ī):=λx h f=>by
 show I.ok.has x.1 ?_;change ϵf (ϐg x.1) _ _;rw[B.hsc];show B.fr x h f
def L6(B:϶X)(I:Ģ)(J:ϳA (ϵE H b))(fo:ϳA (∃o,ϰd=Ö))(hn:h1.Ns (ů 1) m)(old:∀b o,ϱL ϰd Ö h1.È)(hD:h1.È s.Á=Â ((Ċ "list" (δ #[] 0))))(D:∀x c,ϲ (ϺP (ů 1+1) ϵd) x=ī->ϲ ϵd x=ī\/h1.Ē c none):
  Inv (υ (ů 1) fp H6) [] ϺS (ϵ2<|ô []) (ϱl h1 tk):=by
 let V:=vX B I;let sub:∀x c,ϲ ϵd x=ī->ϲ6:=ϸz (vM _ _ V (λT e'=>by simp at e') e);let t:∀x c,ϲ6->ϚE:=λx c e=>(let⟨v,q⟩:=ϥs e;q.lt)
 let f:∀x c,ϲ ϵd x=ī->(x,NameKind.cell)∉scope.names:=λx c e=>by
  rcases wy _ _ e with q|q
  .simp at q
  show B.ap _ q rfl
 let K:∀x c,ϲ (ϺP (ů 1+1) ϵd) x=ī->ϲ6\/(ů 2<=c/\h1.Ē c none):=λx c e=>by
  rcases iM _ _ _ e with q|⟨Q,g⟩
  .show Ð<|sub x c q
  rcases D x c e with z|z
  .show ĭ g<|f x c z
  show Ø ⟨Q,z⟩
 let S:∀x c,ϲ ϵd x=ī->ϲ (ϺP (ů 1+1) ϵd) x=ī:=ϸz (by rw[mR _ _ _<|f x c e];show e)
 let F:ϳA ϚF:=λb d=>(let⟨o,e⟩:=fo b d;ϱw)
 let un:Un (υ (ů 1) fp H6).fs (υ (ů 1) fp H6).ex H (ϵ2<|ô []) s.Ì h1:=Un.ĩ old ì I.Õ;let P:Ϥ8 (ϵ2<|ô []) h1:=I.hok.ĩ old ì ⟨ϰS,[],0,õ,hD⟩;show((I.ok.mod,B.kind,I.ok.glob,I.ok.blt,Ϸq,λx y c e1 j=>mS _ _ _ (ϸz<|Ϝe<|Ϯr Ϸq) (λx y c e1 j=>ϛV<|sub y c j) x y c e1 j,λx n=>?_,λx c hf hq=>?_,I.ok.hd,I.ok.frames,Ð rfl,λb d=>⟨?_,ϸz ?_⟩,I.bs,?_,λb o e d=>?_,λb d z=>?_,I.stack,I.stkFree),
  rfl,I.bare,un,(m,hn,λi x v e1 j G=>?_),ϸz ?_,?_,ϸz ?_,λp hp=>?_,P,?_)
 .let go:∃k,scope.names.lookup x=Ş/\(k=Ϝ\/k=š):=by
   rcases n with n|n
   .let(k,e,h):=GA (show(ϲ (scope.names.map _) x=Â š)from n)
    rcases h with h|h
    .exact(k,e,Ø h.Ï)
    show(k,e,Ð h.1)
   let(k,e,h):=GA (show(ϲ (scope.names.map _) x=Â Ϝ)from n);rcases h with h|h
   .exact(k,e,Ð h.Ï)
   show(k,e,Ð h.1)
  let(k,e,h):=go;rcases h with rfl|rfl
  .let(c,A):=ϕf<|Ð<|mL e
   show(c,S x c A)
  show ϙl<|Ϝi<|Ð e
 .rcases iM _ _ _ hq with q|⟨Q,_⟩
  .show ĭ (wQ hf)<|f x c q
  show K9C (Ϯr Ϸq) Q
 .show K9O<|K8f<|F b d
 .rcases K x c e with q|⟨Q,_⟩
  .exact ϴz (J b d).2.2 x c q
  .exactλz=>ĭ (F b d) (Nat.not_lt.mpr<|Ϙ z (K9C (Ϯr Ϸq) Q))
 .show ϯZ I.sz
 .rcases(J b d).2.2.2.1 with z|z
  .show ϑw z
  show ĭ (K9P ϱw<|ϯZ z) ϵJ
 .rcases K8v.mp (ϒL z)with q|q
  .exact(J b d).2.1 q
  show ϴz (J b d) q
 ·
  let hi:own.length<=i:=by
   cases hi:own.length<=i
   .show hi
   let E:á ϺS=Â ĥ:=j;erw[slots]at E;rw[K9V (ť<|Nat.lt_of_not_le hi),K8Z]at E
   split at E<;>cases E
  let a:á (own++ϵC Ž)=Ď:=e1;let E:á ϺS=Â ĥ:=j;erw[slots]at E;rw[K9a hi,N2]at a;rw[K9a ϐP,K8r,N2]at E;cases ep:outs[i-own.length]? with
  |none=>rw[ep]at a;cases a
  |some p=>
   rw[ep]at a E;let ex:p.2=x:=ϦR;let ev:(σ[p.1]?).join=ĥ:=K9R E;let(U,O):=B.out.get ep;let Z:σ[p.1]?=Â ĥ:=by
    cases q:σ[p.1]? with
    |none=>rw[q]at ev;cases ev
    |some w=>rw[q]at ev;let ew:w=ĥ:=ev;rw[ew]
   rw[ex]at U O;let h:ϵf ϱV (Â š) (Â Ϝ):=Ô B.hsc (B.fr (x,Ϝ) (mL O) rfl)
   let(m0,hn0,N):=I.loc;let(u,r,l):=N p.1 x v U Z<|h.Ä (λz=>Ø<|Ð z) λz=>Ø<|Ø z;show(u,r,Ø ?_);rcases l with⟨hl,_⟩|⟨_,c,Y,A⟩
   .let L:ϱV=Â ο:=hl
    rcases h with z|z<;>(rw[z]at L;cases L)
   let(T,C):=ϕf<|Ð<|mL O;let G:=sub x T C;rw[Y]at G;cases G;let(W,Q,g):=A;show(oN O,c,S x c C,(W,old _ _ Q,g))
 .rcases K x c e with q|⟨_,q⟩
  .let(v,W,Q,g):=ϥs q
   show(v,W,old _ _ Q,g)
  show(_,q)
 .change ϵ2 (ô []) (ů 1)=none
  rw[aC ϙH];show I.É Ϸq
 .rcases K x c e with q|⟨Q,_⟩
  .rw[aC<|K9O<|t x c q]
   show ϫF q
  let M:ϚG s.Á c:=K9C (Ϯr Ϸq) Q;rw[aC λz=>by rw[z]at Q;show ĭ Q<|Nat.not_le.mpr<|Zce ϩW ϩW];show I.É M
 .let R:p∈ύW:=by
   let:p∈ύW++[]:=hp;simpa using this
  let(Q,g,q3,q4,q5):=ϻP R;show(old _ _ Q,?_,K9O<|K8f<|K9h Q,ϩj,q5)
  .rw[aC<|K9O<|K9h Q]
   show g
  rcases K8v.mp (I.stkSub p.1 z)with q|q
  .show q3 q
  show q4 q
 change Ã ϺS=Ã (own++ϵC Ž);erw[slots];simp
theorem Ef(B:϶X)(l:ϗ)(hg:Ϭ4 P (ϩU (υ C ex P)))(hc:Ϭ4 P (ώE (υ C ex P)))(he:Ϭ4 P (ώD (υ C ex P))){s:Da}{it:Ix}{tn:Nat->Ú Op}(I:ù P σ H s)(T:Ϙp fp it tn)(st:tn 0 s.Ì)(F:ϳA (nj X P H b)){R0:Ix->Ú Hp}(hW:∀D,H D=none->Vq J g tc te ϺS D H (R0 D)){RR:Db->Ix->Result->Ú Da}{E:Db->Ú Da}(fin:∀D C f M m,ù P σ f M->nj X P f C->M.ġ C m->R0 D f->RR (É D) C (Ħ .next) M):
  Ő (newList []) (λa s3=>Ő (Ϙr X.Į ϵd [] X.env.qual none ò<|Â X.Ü) (λk s4=>ϸy ϳP X.A (.compStart ϳN 0 (É it) a {k with scope:=relabel scope X.Ü}) (RR a k.ì) s4) E s3) E s:=by
 show wpAny_newObj_type<|Eo λQ S G R=>?_;dsimp only at G S R⊢;let hz:Θ (ϳi {cls:=Ω "list",dict:=none,data:=ϰf ([]:À Db)})=ů 1:=K8l ..;rw[hz]at G;simp only[hz];let fo:ϳA (∃o,ϰd=Ö):=λb h=>(let⟨o,e,_⟩:=T.obj 0 _ st b h;⟨o,e⟩)
 let old:∀b o,ϱL ϰd Ö Q.È:=ϲZ (S b o<|ő e);let hD:Q.È s.Á=Â ((Ċ "list" (δ #[] 0))):=ϤF Ϣ;let hz2:Θ ((ϳi {cls:=Ω "list",dict:=none,data:=ϰf ([]:À Db)}).push (Ċ "dict" Ϭo))=ů 1+1:=Ĥ K8l hz
 let hcl:∀x c,ϲ (ϺP (ů 1+1) ϵd) x=ī->ϲ ϵd x=ī\/Q.Ē c none:=ϸz (by rw[R];rw[<-hz2]at e;show mY _ _ _ e)
 let I1:=L6 (own:=own) (tk:=s.ã) B I F fo G old hD hcl;let Z:tn 0 Q:=ϒU st (λb x o e=>old b o e);obtain⟨W,⟨m0,w0⟩,turn⟩:=hW _ I.Õ;let w:∀{f:Hp},(ϳA<|f b=none)->ϳA (nj (υ (ů 1) fp P) [] f b):=λhn b h=>by
  let(o,eo):=fo b h;show(hn b h,K9O<|K8f<|K9h eo,I1.ok.exfs b h,Ð h,ϸz ((I1.ok.exf b h).2 x c e),λp hp=>?_);let hp':p∈X.pn++P:=by
   let:p∈(X.pn++P)++[]:=hp;simpa using this
  show(F b h).2.2.2.2.2 p hp'
 let loop:∀s0:Da,s0=ϱl Q s.ã->
   ϸy ϳP X.A (.compLoop ϳN 0 (É it) (É s.Á)<|yX scope ϵd (ů 1) X.Ü) (RR (É s.Á)<|ů 1) s0:=by
  ext s0 rfl;show Cw (λn M=>∃i a f,Inv (υ (ů 1) fp P) [] ϺS f M/\tn i M.Ì/\(ϳA<|f b=none)/\W i n a f) ?_ m0
   ⟨0,[],_,I1,Z,λb h=>?_,w0⟩
  .rintro n s3 ⟨i,a,H3,I3,st3,fr3,w3⟩
   rcases turn i n a H3 w3 with⟨stop,q⟩|⟨go,N,hN,step⟩
   .apply ϯF (T.done (υ (ů 1) fp P) rfl rfl rfl l i [] s3 _ H3 ϶Y I3 (w fr3) st3 stop);let(hr,L):=zq
    subst hr;let IX:ù P σ H3 s4:=I.call' (ch:=fp) L.os L.ı L.hok L.bare λb h=>⟨ϴz (F b h).2,(F b h).2.1,ϴz (F b h).2.2,(F b h).2.2.2.2.2⟩
    let(m4,hn4,_):=L.loc;show fin _ _ H3 s4 m4 IX (I.fpOk Ϸq L.â) hn4 q
   .apply ϯF (T.item (υ (ů 1) fp P) rfl rfl rfl l i [] s3 _ H3 ϶Y I3 (w fr3) st3 go);let(u,hr,h4):=zq
    subst hr;show Wp h4 λx s5 zq=>?_;let(x,H5,I5,r5,y5,K,fr5):=zq;let I5':=I5.pinned (w fr5)<|ύk K;let back:∀{d:St}{t:Hp}{Y:Da}{A:À V},Inv (υ (ů 1) fp P) ([]++yV fp s5.Ì) d t Y->mH ϺS d->N A t->
      ∃m,m<n/\∃i a f,Inv (υ (ů 1) fp P) [] ϺS f Y/\tn i Y.Ì/\(ϳA<|f b=none)/\W i m a f:=fun{d t Y A} O hs hn6=>by
     let(m',hm,hw):=hN A t hn6;show(m',hm,i+1,A,t,O.unpinned.weak hs.í λj v e=>hs.get e,ϒU K (λb h o e=>(ϗv<|Τ<|Τ<|pf h e).1),λb h=>?_,hw);let(o,e,_):=ύk K b h;show(ϗv<|Τ<|Τ<|pf h e).2.1
    show Wp (ϛz<|step x H5 y5) λx Y zq=>?_;let(d,t,O,U,q6):=zq;show Wp (hc s H _ fp P _ Y d t _ O q6) λb s7 zq=>?_;let(H7,I7,q7):=zq;cases b with
    |false=>show back I7 U q7
    |true=>
     show Wp (he s H _ fp P _ s7 d H7 _ I7 q7) λyv s8 zq=>?_;let(y,H8,I8,r8,hd8,hl8,hw):=zq;show Wp (wC _ s8 d H8 (É s.Á) [y] (É s.Á) [yv] (λx H9=>H9=upd H8 s.Á (ô Ϭ3)) I8 rfl (ą r8 õ) ⟨_,a,y,rfl,rfl,hd8,hl8,rfl⟩) λz s9 zq=>?_;let(zv,H9,I9,_,q9):=zq;subst q9;show back I9 U hw
  .let(o,eo):=fo b h
   rw[aC<|K9O<|K9h eo];show(F b h).1
 show ϛG<|Ϝf<|loop _ rfl
def L5(own:À Str)(B:϶X)(l:ϗ)(hi:Ϸm iter wi)(hg:ϹE (ϩU (υ C ex p)))(z:ϹE (ώE (υ C ex p)))(he:ϹE (ώD (υ C ex p)))(E:ϸX):ā ϳN (EF wi g tc te own.length outs):=by
 ext p s c H Q I h;rw[eval_ListComp];show K8L (use:=none) rfl E (yu<|vX B I) B.kind B.loc ?_;show Wp (Ϥp s c H _ I h) λv M t=>Wp t λV O u=>?_;let(it,P,tn,J,K,e,f,T,A,F,W):=u;subst e;show Ef (RR:=λa C=>compPost ϳP X.A X.xe none (ϵW p c Q) a C) B l hg z he f T A F W ?_;ext D C d G m i w N q;show(m,N,λh' S=>?_);let(j,c1,L,k,n,r):=w;show(É D,d,i.ĝ (t':=G.ã) (λb o y e=>ĉ (S.2 b y) e) j c1 k n r,rfl,q)
def D5(own:À Str)(hN:X.à)(j:á X.N=Ď)(hx:ϲf x)(B:϶X)(l:ϗ)(hi:Ϸm iter wi)(hg:ϻD (ϩU (υ C ex n)))(hc:ϻD (ώE (υ C ex n)))(he:ϻD (ώD (υ C ex n)))(w:à (ϬL ϳN (Â<|ð pos') spos.line X.Ü=Ϭp))(hs:ϸX)(hf:ϕ (ϳg\/ϱV=Â ο)):
  ϲa (ϴZ [ð pos'] ϳN spos) (ϕg Ϫo):=by
 ext n s K H r I h;rw[exec_Assign_Name_used _ _ _ _ w];show Ps<|K7o ϲY;change ϷF _ X.A (do let _ <-comprehension (.ListComp elt [⟨tg,iter,ifs,0⟩] scope pos) scope X.Ü _ (newList []) false (eval iter X.Ü) (some<|assign (.Name x pos') X.Ü)) _ _ s;show Ps<|Wp (K8L (use:=Â<|ϧX (ð pos')) (Q:=ϗ8) rfl hs (yu<|vX B I) B.kind B.loc ?_) λx S hq=>K9J<|K9J hq;show Wp (hi n s K H _ I h) λv s1 Y=>Wp Y λitv s2 Z=>?_;let(it,fp,tn,J,H2,e,L,T,A,W,hW):=Z;subst e;show Ef (RR:=λa C=>compPost ϳP X.A X.xe (Â<|ϧX (ð pos')) ϗ8 a C) B l hg hc he L T A W hW ?_;ext D C t S m u hC hn q;let(F,c1,N,P,R,U):=hC;let(c,V,E,O,d,hr):=id hn;let M:ù (n++[(C,c)]) K t S:=u.pins_of λp hp=>ϵb (K9Y.mp hp) (λz=>u.pin p<|Τ z) λz=>by
  let E:p=(C,c):=ť z
  subst E;show(O,F,c1,N,ϪJ)
 change ϶j X.A (ϧX (ð pos')<|É D) S;show wpAny_assign_Name<|vf (v:=É D) M hN j hx rfl (λG y=>?_) hf;let f:G.Ë C=ī:=(y.pin (C,c)<|Τ<|Τ Û).1;show(m,(c,V,E,f,d,hr),λh' k=>?_);show(_,t,y.unpinned.ĝ (t':=G.ã) (λb o hb e=>ĉ (k.2 b hb) e) F c1 P R U,q)
end
def Cm(kind:scope.kind=ϻQ)(loc:ϵj (x.2=ο->Ϻ2 x.1=Â ο))(o:ϵj (x.2≠š))(fr:ϵj (x.2=Ϝ->ϵf ϘQ (Â š) (Â Ϝ)))(out:όk ϗg):Blk ϗg (relabel scope0 X.Ü) scope outs:=by
 show(rfl,kind,loc,o,λx a f=>?_,out);rcases fr x a f with h|h
 .left
  change ϲ (scope0.names.Ç _) x.1=Â NameKind.cell;let:∀names:À ϴD,names.lookup x.1=Â š->ϲ (names.map λ(n,k)=>Ë (ϧt&&ϯl ϻQ&&X.env.kindOf n==Â š) (n,NameKind.cell) (n,k)) x.1=Â š:=by
   ext names
   induction names with
   |nil=>ext h;simp at h
   |cons y r ih=>
    let(n,k):=y;ext h;rw[K9X]at h;rw[K9w];dsimp only;cases c:(ϧt&&ϯl ϻQ&&X.env.kindOf n==Â š)=true
    .rw[Os c,K9X]
     cases a:x.1==n with|true=>rfl|false=>rw[a]at h;show ih h
    rw[P3 c,K9X];cases a:x.1==n with|true=>rw[a]at h;show h|false=>rw[a]at h;show ih h
  show Ϧo h
 show oN h
def CP:∀(names:À ϴD)(n:Nat)(a:À ϵr),(∀x∈names,x.2≠š)->ϪW=a:=by
 induction _ with
  |nil=>
   ext _ _ _
   exact rfl
  |cons x36 r ih=>
   intro n a h
   obtain⟨y,k⟩:=x36
   let i:=λn=>ih n a λx H=>h x<|ě H;let:=h (y,k) K9z;cases k<;>first|show Ϡ this|show i n
def M4(h:ϵj (x.2≠š)):cxK X N scope s H C ex H6=cxB X N scope s H C ex H6:=by erw[cxK,cxB,yX];rw[CP _ _ _ h,ύ (xZ scope=όn) (funext λx=>Bool.eq_false_iff.mpr λw=>h _ (wQ w) rfl)]
def Blk.toK(B:ϯA outs):϶X:=⟨B.hsc,B.kind,B.loc,λx h e=>absurd e<|B.nocell x h,λx x x m=>B.nocell _ m rfl,B.fr,B.out⟩
section
variable{X:Cx}{own:À Str}{outs:À ϴM}{pos:Pos}
def OU(own:À Str)(h:X.à)(j:á X.N=Ď)(a:ϲf x)(B:ϯA outs)(l:ϗ)(hi:Ϸm iter wi)(hg:ϹE (ϩU (ϧl own (ϵC Ž) p)))(c:ϹE (ώE (ϧl own (ϵC Ž) p)))(he:ϹE (ώD (ϧl own (ϵC Ž) p)))(w:à (ϬL ϳN (Â<|ð pos') spos.line X.Ü=Ϭp))(S:ϸX)(f:ϕ (ϳg\/ϱV=Â ο)):
  ϲa (ϴZ [ð pos'] ϳN spos) (ϕg Ϫo):=
 D5 own h j a B.toK l hi (ϏZ<|ϓE p) (ϏZ<|ϔq p) (ϏZ<|όt p) w S f
end
def uT{X:Cx}{p:À ŝ}{d:St}{H:Hp}{s:Da}{ch:À Ix}{T:Ix}{o:HO}{h':Op}{t':Nat}(I:ù p d H s)(h:ϙI)(k:∀b u,Ϻm->ϱL ϰd ķ h'.È)
  (t:s.Á<=T) (new:Ϲn (ļ T o) h' T o):ù p d (ļ T o) ((ϱl h' t')):=by
 let N:Ϩ5:=I.É t;let a:∀b u,H b=ķ->Ϻm:=ϖk
 let lt:∀b u,ϰd=ķ->b≠T:=λb u e=>K9O<|K9P ϱw t;show ϕc (λb u x e n=>ϯH (lt b u e)) ϖ2 (λb x e=>ϫe (ϦN N)) (λb u v e=>ϫe (ϦN N)) (λb P e=>⟨#[],by rw[aC<|ϦN N,e];simp⟩) Ϩo ϯK I.bare
 .let(F,g,J,j,f4,f):=h b B
  show(j,g,f4,f)
 .let(l,S,E,O,r):=M
  show(l,S,E,k _ l ϐh O,r)
 cases B:b=T
 .subst B
  rw[aU]at e;cases e;show new
 rw[ϷI]at e;show Ϗo (λc q=>Ô (aC<|ϲX N) q) (λc x q=>Ô (aC<|ϲX N) q)
 rcases C with z|z
 .rw[z]
  show a b u e
 show a c _ z
def rZ{X:Cx}{p:À ŝ}{a:St}{H:Hp}{s:Da}{ch:À Ix}{h':Op}{t':Nat}(I:ù p a H s)(h:ϙI)(k:∀b u,Ϻm->ϱL ϰd ķ h'.È):
  ù p a H ((ϱl h' t')):=by
 let N:∀b u,H b=ķ->Ϻm:=ϖk
 show ϕc Ϛz ϖ2 (λx x e=>e) (λx x x e=>e) ϖG Ϩo ϯK I.bare
 .let(F,g,J,j,f4,f):=h b B
  show(j,g,f4,f)
 .let(l,S,E,o,r):=M
  show(l,S,E,k _ l ϐh o,r)
 show Ϗo όM Ϩw;rcases C with z|z
 .rw[z]
  show N b u e
 show N c _ z
def Ite(K:At)(a:Ix):It:=
 (Ϯx (∃X x,μ a X/\á X=Ď) (λi H x h=>∃T y,Ϩ5/\x=É T/\h=ļ T (Ī [Ä i,y])/\∀X,μ a X->á X=ϰO) (μ a X))
def IG{P:Do}{w:Ev}{K:At}{M:À On}{k:Nat}{pos:Pos}(a e it:Ix)(n:e≠it):
  ϔi (.Tuple M k pos) (Ite K a) [e,it] e (λi h=>(∃old,IsEnum h e it i old)/\ϙ5) where
 mem:=Û
 obj:=λi h T b B=>by
  obtain⟨⟨old,he⟩,o,O,c,d⟩:=T;let f:b=e\/b=it:=ϳQ
  rcases f with z|z
  .subst z
   show(_,he,Ϥ1)
  .subst z
   show(o,O,ϪJ)
 keep:=λi h h' T J=>⟨(let⟨old,he⟩:=T.1;⟨old,J e Û _ he⟩),T.2.at λo O=>J it Û o O⟩
 item:=by
  ext X r W m G i N s σ H E I F T hg;subst r W m;let(xs,x,Q,C):=hg;obtain⟨⟨old,he⟩,hit⟩:=T;let(D,R,p,hz):=϶F Q;let(u,hu,ru):=R.get C;let elt:e<s.Á:=K9h he;show wpAny_pyNext_enum_item he hit p.Ê (x:=u) (ť hu) n λV ho t Y hsz Z=>?_;show(_,rfl,wpAny_letOwnedTupleGo_enum ho λj A S=>?_);let kk:∀b v,b∉[e,it]->ϱL ϰd ĥ j.È:=λb v B q=>by
   let g:b≠e:=λz=>B (Ϯ z);let l:b≠it:=λz=>B (Ϯ z);show ĉ (S.2 b g)<|Z b v g l q
  let y:j.È s.Á=Â ((Ċ "tuple" (δ #[Ä i s.ã,u]))):=ĉ (ϵy<|Zbx elt) Y;show(É s.Á,ϵ2<|Ī [Ä i,x],ύ5 (h':=j) (t':=s.ã+1) I F kk ì ?_,rfl,(_,x,I.fresh,rfl,rfl,λys hy=>όq (I.č hy Q)),((_,A),?_),ϹL)
  .exact(ϻl (ŀ 2),[Ä i s.ã,u],ą ζ<|ą ru õ,_,y,rfl,_,rfl)
  .show t.at λo O=>ĉ (S.2 it<|K8g n) O
  .let(U,f1,f2,f3,f4,f5):=F b B
   let f:b=e\/b=it:=ϳQ
   let(oi,eoi,_):=hit;let:ϚF:=by
    rcases f with z|z
    .rw[z];show elt
    .rw[z];show K9h eoi
   rw[aC<|K9O this];show U
 done:=by ext X r W m G i N s σ H E I F T hg;subst r W m;let(xs,Q,C):=hg;obtain⟨⟨old,he⟩,hit⟩:=T;let(D,R,p,hz):=϶F Q;let hl:=R.À;apply wpAny_pyNext_enum_end (I.ok.hd G) he hit p.Ê ϳc λV L=>⟨rfl,ϧE I F (λb v B q=>L b v (λz=>B<|Ϯ z) q)⟩
 self:=λx x x x x T h=>(let⟨old,he⟩:=T.1;ϙJ h)
def R_(K:At)(ta:TA):TI:=λb H R=>ta b H λs h=>ϐf (s=[É a]) SqL Ite
def xb:ϺQ "enumerate":=œ
def vP:ϺQ "zip":=œ
def QQ{p pos tpos:Pos}(hg:γ "enumerate")(M:ϙr)(A:ϱS [a] ta)(n:à (æ [a]=϶z ϰI)):
  PI X (ϻv k tpos) (ϳO "enumerate" [a]) (R_ X.K ta):=by
 ext i s g H R I h;show Call_<|Ϩt xb<|K98 (Wp (Ϭ5 i s g H _ I h) λU S zq=>?_) n rfl;let(V,d,c,r,o):=zq;obtain⟨l,e,⟨x,Q⟩,q⟩:=o;subst e;let(u,rfl,L):=Ϩy;cases L;let(t,v,pl,Z):=c.ê Q;show call_enumerate_list pl.Ê λm he hit hsz K=>?_;show ϙJ ?_;let j:ù i g d {S with heap:=m}:=ϐ1 K;show(ϲe 1,[ϲe 1,S.heap.objs.size],_,Ite X.K l,d,rfl,j,IG l _ _ ϙH,((_,he),hit),ϹL,q);let f:b=ϲe 1\/ϐ2:=ϳQ
 rcases f with z|z
 .subst z
  show c.fpOk Ϸq<|c.É Ϸq
 subst z;show c.fpOk ì<|c.É ì
def Itz(K:At)(a b:Ix):It:=
 ⟨λi H=>∃X x s y,μ a X/\á X=Ď/\μ b s/\ϵT=ϰO,λi H v h=>∃T x y,Ϩ5/\v=É T/\h=ļ T (Ī ϶K)/\(∀X,μ a X->á X=Ď)/\∀s,μ b s->ϵT=ϰO,
  λi H=>∃X s,μ a X/\μ b s/\(X.À<=i\/s.À<=i)⟩
def Kh{P:Do}{w:Ev}{K:At}{es:À On}{k:Nat}{pos:Pos}(a b z TI TO d f:Ix)(Z:z≠TI/\z≠TO/\z≠d/\z≠f)(B:TI≠TO/\TI≠d/\TI≠f)(z3:TO≠d/\TO≠f)(z4:d≠f)
  (z5:a≠z/\a≠TO/\a≠d/\a≠f) (z6:b≠z/\b≠TO/\b≠d/\b≠f):
  ϔi (ϻv k pos) (Itz K a b) ϒA z (λi h=>IsZip h z TI TO ò/\IsPair h TI (É d) (É f)/\(∃u v,IsPair h TO u v)/\h.Ú d a i/\h.Ú f b i):=by
 let D:ZipApart z TI TO d f a b:=⟨K8g Z.1,K8g Z.2.1,K8g Z.2.2.1,K8g Z.2.2.2,B.1,B.2.1,B.2.2,z3.1,z3.2,z4,z5.1,z5.2.1,ϴz z5,z5.2.2.2,z6.1,z6.2.1,ϴz z6,z6.2.2.2⟩;let m:∀c,c∈ϒA->c=z\/c=TI\/c=TO\/c=d\/c=f:=λc C=>by simpa using C
 constructor
 .simp
 .intro i h g c C
  obtain⟨j,t,⟨u,v,T⟩,⟨o1,e1,c1,d1⟩,o2,e2,c2,d2⟩:=g;rcases m c C with rfl|rfl|rfl|rfl|rfl
  .exact(_,j,Ϥ1)
  .exact(_,t,Ϥ1)
  .exact(_,T,Ϥ1)
  .exact(o1,e1,ϗ4 d1)
  show(o2,e2,ϗ4 d2)
 .intro i h h' g J
  obtain⟨j,t,⟨u,v,T⟩,n,r⟩:=g;show(J z Û _ j,J TI Û _ t,(u,v,J TO Û _ T),n.at λo e=>J d Û o e,r.at λo e=>J f Û o e)
 .intro X hP hw hK C i N s σ H E I O g hg
  subst hP hw hK;let(xs,x,ys,y,U,hx,hr,hy):=hg;obtain⟨j,t,⟨u,v,T⟩,n,r⟩:=g;let(its,rv,p,_):=I.ê U;let(G,Tl,p2,_):=϶F hr;let(V,hux,rux):=rv.get hx;let(Y,huy,ruy):=Tl.get hy;show wpAny_pyNext_zip_item D j t T n r p.Ê p2.Ê (x:=V) (y:=Y) (ť hux) (ť huy) λh3 a1 a2 a3 a4 a5 a6 R=>?_;let L:Ϥ7 z:=K9h j;show(_,rfl,ϙm a1 (λM hz4 S=>?_));let kk:∀c W,c∉ϒA->ϱW (some W) M.È:=λc W C q=>by
   let n1:c≠z:=ϺZ;let n2:c≠TO:=ϺZ;let n3:c≠d:=ϺZ;let n4:c≠f:=ϺZ;show ĉ (ϥ3 n1)<|R c W n1 n2 n3 n4 q
  let hT4:IsPair M s.Á V Y:=ĉ (ϵy<|Zbx L) a5;let F:IsPair M TI (É d) (É f):=ĉ (ϵy<|K8g Z.1)<|R _ _ (K8g Z.1) B.1 B.2.1 B.2.2 t;show(É s.Á,ϵ2<|Ī ϶K,ύ5 (h':=M) (t':=s.ã) I O kk ì ?_,rfl,(_,x,y,I.fresh,rfl,rfl,λzs l=>Ô (I.č l U) hx,λzs l=>Ô (I.č l hr) hy),
   (hz4,F,(V,Y,ĉ (ϵy<|K8g Z.2.1) a2),a3.at λo e=>ĉ (ϵy<|K8g Z.2.2.1) e,a4.at λo e=>ĉ (ϵy<|K8g Z.2.2.2) e),ύB)
  .exact(ϻl (ŀ 2),[V,Y],ą rux<|ą ruy õ,_,hT4,rfl,_,rfl)
  let clt:ϚE:=by
   let(o1,e1,_):=n;let(o2,e2,_):=r;rcases m c C with rfl|rfl|rfl|rfl|rfl
   .show L
   .show K9h t
   .show K9h T
   .show K9h e1
   show K9h e2
  rw[aC<|K9O clt];show(O c C).1
 .intro X hP hw hK C i N s σ H E I O g hg
  subst hP hw hK;let(xs,ys,U,hr,hx):=hg;obtain⟨j,t,⟨u,v,T⟩,n,r⟩:=g;let(its,rv,p,_):=I.ê U;let(G,Tl,p2,_):=϶F hr;let l1:=rv.À;let l2:=Tl.À;apply wpAny_pyNext_zip_end ϳW D j t T n r p.Ê p2.Ê ϳc λh3 R=>⟨rfl,ϧE I O (λc W C q=>R c W ϺZ ϺZ ϺZ ϺZ q)⟩
 ext A i s Q E g h;show K7z g.1 h
def neA(h:a≠b):@Ne Ix a b:=h
def Xr(K:At)(ta:TA):TI:=λc H R=>ta c H λs h=>∃a b,s=[É a,É b]/\(∃X,SqL K h a X)/\(∃y,SqL K h b y)/\R (Itz K a b) h
def Vk{p pos tpos:Pos}(hg:γ "zip")(M:ϧJ)(B:ϱS ϱ9 ta)(E:à (æ ϱ9=ϻu ϰI ϲh))(f:à (æ [b]=϶z ϲh)):
  PI X (ϻv k tpos) (ϳO "zip" ϱ9) (Xr X.K ta):=by
 ext i s j H R I h;show Call_ (Ϩt vP<|ϛi<|by rw[f];rfl);let(vs,g,d,O,N):=zq;obtain⟨l,L,e,⟨xs,Q⟩,⟨ys,hr⟩,q⟩:=N;subst e;let(u,v,rfl,U,r):=Vals.two O;cases U;cases r;let(F,Y,pl,W):=d.ê Q;let(T,Tl,P,Z):=d.ê hr;let G:ϐW l S.Á:=(let⟨o,e,_⟩:=pl.Ê;ϱw);let J:ϐW L S.Á:=(let⟨o,e,_⟩:=P.Ê;ϱw);show call_zip_2 pl.Ê P.Ê λz A n w x y V K=>?_;show K7z A ?_;let m:ù i j g ((Ϭe z)):=Ϛa
 show(ϲe 4,[ϲe 4,ϲe 2,ϲe 3,S.heap.objs.size,ϲe 1],_,Itz X.K l L,g,rfl,m,
  Kh l L (ϲe 4) (ϲe 2) (ϲe 3) S.Á (ϲe 1) ⟨neA Á,neA Á,neA Á,neA Á⟩ ⟨neA Á,neA Á,neA Á⟩ ⟨neA Á,neA Á⟩ (neA Á) ⟨neA Á,neA Á,neA Á,neA Á⟩ ⟨neA Á,neA Á,neA Á,neA Á⟩,(A,n,(_,_,w),x,y),ύB,q)
 let t:ϚG S.Á c:=by
  let D:ϬB (ϲe 4)\/ϬB (ϲe 2)\/ϬB (ϲe 3)\/ϬB S.Á\/ϬB (ϲe 1):=by simpa using C
  lia
 show Ϙ6
mutual
inductive Rep(K:At)(H:Hp):V->Ú Gc
 |non:Ŀ H Α ò
 |bl (b:Bool):Ŀ H ϵO (ã b)
 |int (i:Int):Ŀ H (Ä i) (Ä i)
 |str (x:Str):Ŀ H (Ė x) (Ė x)
 |lst {a:Ix} {xs:À V} {ds:À Gc}:μ a xs->ϵM xs ds->Ŀ H (É a) (Ï ds)
 |tup {a:Ix} {xs:À V} {ds:À Gc}:Ϲ4 a xs->ϵM xs ds->Ŀ H (É a) (Ą ds)
inductive E5(K:At)(H:Hp):À V->Ú (À Gc)
 |nil:ϵM [] []
 |cons {v:V} {vs:À V} {d:Gc} {ds:À Gc}:Ŀ H v d->ϵM vs ds->ϵM Ϭ6 ϥ5
end
def E5.reads(I:Ģ)(h:E5 X.K H vs ds):∀u,ţ vs u->∃as,ReadsAll s.Ì u ds as:=ϧh (λv d x=>∀u,ϲM->ϑm Reads) (λv d x=>∀u,Vals v u->ϑm ReadsAll) (λx r=>ϑv ò) (λb x r=>ϑv (ã b)) (λi x r=>by let(t,rfl):=r;show(_,Ä i t)) (λx z r=>by let(t,rfl):=r;show(_,Ė x t)) (ϕq I.ê p.Ê<|Ï e c D ϑn) (ϕq I.Ă (show s.Ć _ T.Æ from p)<|Ą e c D ϑn) (λx r=>ϑv õ) (λx x i j x r=>by cases r with|cons q t=>let(as,A):=i _ q;let(bs,B):=j _ t;show(_,ą A B))
def Rep.reads(I:Ģ){u:Db}(h:Rep X.K H v d)(r:ϲM):ϑm Reads:=by let(as,A):=E5.reads I (ą h õ) _<|ą r õ;cases A with|cons a _=>show(_,a)
def Xy(K:At):R2:=ϰk (∃d e,Ŀ H x d/\Ŀ H y e/\ϖt (.bl<|PyData.eqv d e))
def YW(K:At):R2:=ϰk (∃d e,Ŀ H x d/\Ŀ H y e/\ϖt (.bl<|!PyData.eqv d e))
def U7(U:ϷR 64):ϵ7 Eq (Xy X.K):=ϔ6 eq_dataH
def Uc(U:ϷR 64):ϵ7 NotEq (YW X.K):=ϔ6 ne_dataH
def wB:bootBuiltins "isinstance"=some (Ρ "isinstance"):=œ
def Ir(C:ϗ):ϹK (Ρ "max") (∃(a:Ix)(ns:À Int),x=[É a]/\ϴY H a ϲg/\ϫK/\∀M,M∈ns->(∀z,ϸF->z<=M)->Q (Ä M) H):=by
 ext p s w H x U Q I r h;let(a,ns,rfl,c,L,q):=h;let(u,rfl,R):=Ϩy;cases R;let(i,g,pl,o):=I.ê c;let hi:ϫy:=intsAre_of g;let(y,e):=hi.ė;let n:ns=y.toList.Ç ϔ:=Ϗt
 let hsz:0<y.Ã:=ϖM
 let l:=pl.Ê;rw[e]at l;show max_intList ϳW l hsz λv h' tk d k=>?_;let(t,rfl):=intItems_at d;let(m,b):=Ϝj<|y.Ã-1;show(Ä _,H,I.ò k,(t,rfl),q _ ?_ ϨS)
 .rw[n,numAt_eq]
  show getD_mem (Ϻ K0 K8t)
 rw[n]at Z;let(j,J,rfl):=mem_getD Z;rw[K0,K8t]at J;rw[<-numAt_eq];show b j Á
def Jp(C:ϗ):ϹK (Ρ "min") (∃(a:Ix)(ns:À Int),x=[É a]/\ϴY H a ϲg/\ϫK/\∀M,M∈ns->(∀z,ϸF->M<=z)->Q (Ä M) H):=by
 ext p s w H x U Q I r h;let(a,ns,rfl,c,L,q):=h;let(u,rfl,R):=Ϩy;cases R;let(i,g,pl,o):=I.ê c;let hi:ϫy:=intsAre_of g;let(y,e):=hi.ė;let n:ns=y.toList.Ç ϔ:=Ϗt
 let hsz:0<y.Ã:=ϖM
 let l:=pl.Ê;rw[e]at l;show min_intList ϳW l hsz λv h' tk d k=>?_;let(t,rfl):=intItems_at d;let(m,b):=Ϝk<|y.Ã-1;show(Ä _,H,I.ò k,(t,rfl),q _ ?_ ϨS)
 .rw[n,numAt_eq]
  show getD_mem (Ϻ K0 K8t)
 rw[n]at Z;let(j,J,rfl):=mem_getD Z;rw[K0,K8t]at J;rw[<-numAt_eq];show b j Á
def Jl(C:ϗ):ϹK (Ρ "sum") (∃(a:Ix)(ns:À Int),x=[É a]/\ϴY H a ϲg/\Q (Ä ns.Ğ) H):=by
 ext p s c H x U Q I r h;let(a,ns,rfl,b,q):=h;let(u,rfl,L):=Ϩy;cases L;let(i,R,pl,Z):=I.ê b;let hi:ϫy:=intsAre_of R;let(y,e):=hi.ė;let n:ns=y.toList.Ç ϔ:=Ϗt
 let l:=pl.Ê;rw[e]at l;show sum_intListG ϳW l λh' tk T k=>?_;show(Ä _,H,I.ò k,(T,?_),q);rw[preSum_eq,K90 Û,n]
def Nc:MtR X "list.index" (λx b H Q=>∃(a:Ix)(ns:À Int)(z:Int),x=É a/\b=[Ä z]/\ϴY H a ϲg/\ϸF/\Q (Ä ϧB) H):=by
 ext p s f H x b v U Q I r R h;let(a,ns,z,rfl,rfl,c,M,q):=h;cases r;let(u,rfl,t,rfl):=Vals.one R;let(i,rs,pl,Z):=I.ê c;let hi:ϫy:=intsAre_of rs;obtain⟨⟨cls,D,data,e⟩,o,C,n,d⟩:=pl.Ê;simp only at C d;subst C d;let l:=hi.À;let J:ϓF<ns.À:=ϏH;let N:=rQ;let B:ŀ ns.À:=by simpa using Z
 apply K86 PySem.F.slot_list_index ⟨_,o,rfl⟩ PySem.F.entry_list_index (PySem.F.args_list_index_2 _ _)
  (SeqAt.list_indexAt a i.Æ n D e (Ä z t) (isInt z) ϓF (by simpa[l]using J) Á ?_ ?_) ⟨o,λy Y=>(eq_isInt z t hi y ϧA).at _ _,ϵl (Ä _) ζ⟩
 .change isInt z i[ϓF]=true
  rw[isInt_at z hi _ Á J];simpa using Zcf J
 ext j S L;change isInt z i[j]=false;rw[ϛH Á];show ne_of_lt_idxOf L _
def NN{K:At}{a:Ix}{xs:À V}(Pv:Nat->À V->Ú Hp)(b:Pv 0 [] (ϘE<|ô []))(l:∀i c H,i<=xs.À->Pv i c H->μ a xs)
  (S:∀i x c H,xs[i]?=Ď->Pv i c H->g x σ0 H (Ϝv<|Pv<|i+1)) (d:∀c H,Pv xs.À c H->Q H):Vq (Itl K a) g tc te σ0 D H1 Q:=by
 show(λi m c H=>ϒp xs.À (Pv i c H),(xs.À,Û,ϰS,b),?_);ext i m c H ⟨rfl,hi,p⟩;let q:=l i c H hi p;cases L:i<xs.À
 .apply Ø ⟨⟨xs,xs[i],q,ό3⟩,Pv<|i+1,λA h P=>⟨xs.À-(i+1),Á,rfl,L,P⟩,λx h y=>?_⟩
  let(e,y):=y;subst e;show S i x c _ (y xs q) p
 let e:i=xs.À:=Á
 subst e;show Ð ⟨⟨xs,q,ì⟩,d c H p⟩
def PvM(h:Hp)(D:Ix)(r:Nat->À V)(i:Nat)(a:À V)(H:Hp):Prop:=a=r i/\aK h H/\H D=Â (ô a)
def PvM.start(d:H1 D=none)(h:r 0=[]):PvM H1 D r 0 [] (ϘE<|ô []):=
 ⟨h.Ï,ϲZ (ϫe (ϦN d)),aU⟩
def PvM.yes{h H:Hp}{D:Ix}{r:Nat->À V}{i:Nat}{a:À V}{y:V}(d:h D=none)(p:PvM h D r i a H)(e:r (i+1)=r i++[y])(l:ϥ0 (Ã (r i))):
  H D=Â (ô a)/\ϥ0 a.À/\PvM h D r (i+1) Ϭ3 (ļ D<|ô Ϭ3):=
 ⟨p.2.2,Ϩb p.1,by rw[p.1,e],λb u q=>Ô (aC<|ϲX d) (p.2.1 b u q),aU⟩
structure Def(K:At)(mg:Ŏ)(x:Str)(st:No)(ps:À Str)(f:Ix)(fd:Fk):Prop where
 F:Fun K x x st f fd
 g:mg x=Â (É f)
 b:ϹG K []
def aK.upd(e:ϩx)(h:϶n):aK H (L2.upd H' a o):=λb u q=>Ô (aC<|ϲX h) (e b u q)
section
variable{X:Cx}
def zV(K:At)(h:ϺB):ϸR (Av K):=ϥc Hr
def Xh(K:At):À V->Hp->Ú VK:=Ϸy (∃p y,X=[É p]/\(μ p y\/Ϲ4 p y)/\∀l,H l=none->Q (É l) (ļ l<|ô y))
def Jd(K:At)(h:ϺB):ϳL (Ω "list") (Xh K):=ϥc B_
def Nx(K:At)(h:ϺB)(a:ā l tl):Ϸm l (EG K tl):=ϥc (HG a)
def RY(K:At):À V->Hp->Ú VK:=Ϸy (∃(a:Ix)(ns:À Int),X=[É a]/\μ a ϲg/\ϫK/\∀M,M∈ns->(∀z,ϸF->z<=M)->Q (Ä M) H)
def sE(K:At)(h:ϺB)(C:ϗ):ϳL (Ρ "max") (RY K):=ϥc (Ir C)
def R6(K:At):À V->Hp->Ú VK:=Ϸy (∃(a:Ix)(ns:À Int),X=[É a]/\μ a ϲg/\ϫK/\∀M,M∈ns->(∀z,ϸF->M<=z)->Q (Ä M) H)
def nJ(K:At)(h:ϺB)(C:ϗ):ϳL (Ρ "min") (R6 K):=ϥc (Jp C)
def Q6(K:At):À V->Hp->Ú VK:=Ϸy (∃(a:Ix)(ns:À Int),X=[É a]/\μ a ϲg/\Q (Ä ns.Ğ) H)
def kU(K:At)(h:ϺB)(C:ϗ):ϳL (Ρ "sum") (Q6 K):=ϥc (Jl C)
end
section
variable{κ:Type}[DecidableEq κ]
def sT(Fv:À Ϥl)(k:κ):Ü V:=ß Fv.find? (λv=>Õ ϴg) Ž
def putK(Fv:À Ϥl)(k:κ)(v:V):À Ϥl:=
 Ë (ϵ Fv.ě (λK=>Õ<|K.1=k)) (϶P (λK=>Ë (K.1=k) (K.1,v) K)) (Fv++[(k,v)])
def u7{p:Ϥl}(e:p.1=k):sT (p::r) k=Â p.2:=by simp[sT,K8p,e]
def vH{p:Ϥl}(e:¬p.1=k):sT (p::r) k=sT r k:=by simp[sT,K8p,e]
def EA(k:κ):∀Fv:À Ϥl,(Fv.ě λv=>Õ ϴg)=(ϸn).isSome:=by
 induction _ with
  |nil=>
   exact rfl
  |cons p r ih=>
   rw[K81];cases e:p.1=k
   .simp only[u7 e,Z8 e,Bool.true_or,Zfc]
   .rw[vH e,K9q e,Bool.false_or];show ih
def rJ(Fv:À Ϥl)(k:κ)(v:V):Ã (϶p k v)<=ώN 1:=by
 erw[putK];split
 .rw[K0];lia
 rw[K9v,K9p,K8U];lia
def xi.isSome_eq(r:xi o u):o.isSome=u.isSome:=by
 cases o with
 |none=>cases u with|none=>rfl|some _=>show ϪO
 |some _=>cases u with|none=>show ϪO|some _=>rfl
def xi.getD(r:xi o u)(R:RelV d d'):RelV (o.ď d) (u.ď d'):=by
 cases o with
 |none=>cases u with|none=>show R|some _=>show ϪO
 |some _=>cases u with|none=>show ϪO|some _=>show r
def KV.val(r:Ϩ6)(k:κ):xi ϸn (ϬN vs):=by
 erw[KV]at r
 induction r with
 |nil=>show True.intro
 |@cons p q ps qs h t ih=>
  let(H,a):=h;cases e:p.1=k
  .let e':q.1=k:=H.Ñ e
   let b:ϬN ώF=Â q.2:=ϯz valueAt
   rw[u7 e,b];show a
  let e':¬q.1=k:=λz=>e<|H.Å z;let b:ϬN ώF=ϬN qs:=ϯz valueAt
  rw[vH e,b];show ih
def KV.any(r:Ϩ6)(k:κ):ϹP Fv.ě (λv=>Õ ϴg) vs.ě:=by
 erw[KV]at r
 induction r with|nil=>rfl|cons h t ih=>rw[K81,K81,ih,h.1]
theorem KV.repl(r:Ϩ6)(k:κ)(Y:϶o):
  KV (Ϯf (v.1,y)) (vs.Ç λv=>if ϴg then(v.1,u)else v):=by
 erw[KV]at r⊢
 induction r with
 |nil=>show õ
 |@cons p q ps qs h t ih=>
  rw[K9w,K9w];show ą ?_ ih;let(H,a):=h;cases e:p.1=k
  .rw[Os e,Os<|H.Ñ e];show(H,Y)
  rw[ϲs,ϱi (e<|H.Å z)];show(H,a)
def KV.put(r:Ϩ6)(k:κ)(Y:϶o):KV (϶p k y) (stored vs k u):=by
 erw[putK,stored];rw[r.ě k];cases e:(vs.ě λv=>Õ ϴg)=true
 .rw[Os e,Os e];show r.repl k Y
 rw[ϲs,ϲs];show Paired.snoc r ⟨rfl,Y⟩
def KV.length(r:Ϩ6):Fv.À=vs.À:=Paired.length r
end
def C0{k:Key}(r:RelV (kV k) u):(ώc).is k u=true:=by
 cases k with|inl i=>let(t,e):=(show ϐE from r);subst e;show CV P w i t|inr x=>let(t,e):=(show∃t,u=ϒy from r);subst e;show Ea P w x t
def Ba:∀{s:À Key}{u:À Db},ţ (s.Ç kV) u->ItemsAre ώc s u:=by
 induction _ with
  |nil=>
   ext _ r
   rw[K9D]at r;cases r;show õ
  |cons k s ih=>
   ext _ r
   rw[K9w]at r;cases r with|cons h t=>show ą (C0 h)<|ih t
abbrev KT(H:Hp):À (À Key×V)->Ú (À (À Key×Ix×Db)):=Paired λp q=>p.1=q.1/\H q.2.1=Â (Ī<|Ê p.1 kV)/\ώb q.2.2
def KT.val(r:ϩy xs)(k:À Key):xi ϸn (Ê (atKey xs k) Ž):=by
 induction r with
 |nil=>show True.intro
 |@cons p q ps qs h t ih=>
  let(a,_,c):=h;cases e:p.1=k
  .let e':q.1=k:=a.Ñ e
   let b:atKey ώF k=Â q.2:=ϯz atKey
   rw[u7 e,b];show c
  let e':¬q.1=k:=λz=>e<|a.Å z;let b:atKey ώF k=atKey qs k:=ϯz atKey
  rw[vH e,b];show ih
theorem KT.repl(r:ϩy xs)(k:À Key)(Y:϶o):
  KT H (Ϯf (v.1,y)) (xs.Ç<|putAt k u):=by
 induction r with
 |nil=>show õ
 |@cons p q ps qs h t ih=>
  rw[K9w,K9w];show ą ?_ ih;let(a,b,f):=h;erw[putAt];cases e:p.1=k
  .rw[Os e,Os<|a.Ñ e];show(a,b,Y)
  rw[ϲs,ϱi (e<|a.Å z)];show(a,b,f)
def KT.put(r:ϩy xs)(k:À Key)(B:H b=Â (Ī<|k.Ç kV))(Y:϶o):
  KT H (϶p k y) (storedH xs k b u):=by
 let e:(Fv.ě λv=>Õ ϴg)=Ϛb:=by rw[EA,(r.val k).isSome_eq,Option.isSome_map]
 erw[putK,storedH];rw[e];cases q:Ϛb=true
 .rw[Os q,Os q];show r.repl k Y
 rw[P3 q,P3 q];show Paired.snoc r ⟨rfl,B,Y⟩
def KT.keeps(r:ϩy xs)(l:∀b y,ϱL (H b) (Â (Ī y)) H'):KT H' Fv xs:=
 Paired.mapP r λx x z=>ϗG
section
variable{h:Op}
def RA(ok:϶f)(e:Ϸo u):ϻs u:=e.ok ok
def Ec(ok:϶f)(e:Ϸo ϶m):ŀ Fv.À/\ϺX/\Ϗw:=
 ύ (ϻs ϶m) (RA ok e)
def Rk(ok:϶f)(e:H a=Â ϶m):ŀ Fv.À/\ϺX/\Ϗw:=Ec ok<|Ð e
def pG(ok:϶f)(e:H a=Â (Ī<|ks.Ç kV)):(ϪY).is h ks a:=by
 let(_,i,r,o,b,c,n,f):=(ύ (ϻs (Ī<|ks.Ç kV))<|ok a _ e)
 show(o,i.toArray,n,b,c,f,ť (Ba r))
theorem DY(ok:϶f)(e:Ϸo ϥP):ŀ Fv.À/\ϺX/\
  ∃s,ϩy s/\h.DictOfH ϪY a s:=by
 let(z,y,s,r,o,S,E,b,c,f,d,g):=(ύ (ϻs ϥP)<|RA ok e)
 show(z,y,s,r,o,S,E,b,c,f,d,λx X=>?_,g);let all:∀{l:À (À Key×V)}{m:À (À Key×Ix×Db)},KT H l m->∀x∈m,(ϪY).is h x.1 x.2.1:=by
  ext l m q
  induction q with
  |nil=>ext x X;show nomatch X
  |@cons p q ps qs hq t ih=>
   ext x X;rcases K8v.mp X with e|X
   .subst e
    show pG ok (Ϙ hq.1 hq.2.1)
   show ih x X
 show all r x X
def WS(ok:϶f)(e:H a=Â ϥP):ŀ Fv.À/\ϺX/\
  ∃X,ϩy X/\h.DictOfH ϪY a X:=DY ok<|Ð e
end
def Cu(H:Hp)(a:Ix)(y:V)(r:Ü V):Prop:=
 (∃Fv k,Ϸo ϶m/\y=kV k/\r=ϸn)\/∃Fv k b,Ϸo ϥP/\y=É b/\H b=Â (Ī<|k.Ç kV)/\r=ϸn
def YU(H:Hp)(a:Ix)(y v:V)(h:Hp):Prop:=
 (∃Fv k,H a=Â ϶m/\y=kV k/\ϥ0 Fv.À/\h=ļ a (.dK<|϶p k v))\/
 ∃Fv k b,H a=Â ϥP/\y=É b/\H b=Â (Ī<|k.Ç kV)/\ϥ0 Fv.À/\h=ļ a (.dT<|϶p k v)
theorem Cu.k{k:Key}(e:H a=Â ϶m):Cu H a (kV k) ϸn:=Ð ⟨Fv,k,Ð e,rfl,rfl⟩
section
variable{X:Cx}{s:Da}{A:Go}
def Inv.big(I:Ģ):Ϥ7 sysModules:=by let h:Ϥ7 mainGlobals:=(ϐu).lt;show Zce Ý h
def Im(U:ϫv 1)(I:Ģ)(g:ώh ĥ)(r:϶o)(h:∀W S,ù H6 σ H S->RelV v W->Q W S):
  ϷF ϳP A (getItem (É a) u) Q E s:=by
 rcases g with⟨Fv,k,e,Y,l⟩|⟨Fv,k,b,e,Y,G,l⟩
 .subst Y
  let(z,d,V,rel,D):=ό4;let(W,w,R):=ϖA (ϬN V);show ϛI<|h W _ ϨY R
 subst Y;cases(show ϒB from r);let(z,d,x,rel,D):=ό5;let(W,w,R):=ϖA (Ê (atKey x k) Ž);let(p,c,P):=XL.mp w;show wpAny_getItem_heap ϐi ϒY D c ?_;rw[P];show h W _ ϨY R
def BL(I:Ģ)(m:Mut (H a))(S:ϐs h')(he:∃q,ύz=Â q)(new:Ϲn (ļ a ob) h' a ob):
  ù H6 σ (ļ a ob) ((ϱl h' t')):=
 I.write (x:=a) (e:=a) m (Ð rfl) (λb q B z=>ĉ (S.2 b B) z) he new
def Kr(z:ŀ Fv.À)(d:ϺX)(rel:Ϩ6)(D:h'.DictOf ώc a vs):
  ώO H' a ϶m:=⟨z,d,vs,rel,D⟩
def IL(U:ϫv 1)(I:Ģ)(g:YU H a y v H')(m:϶o)(R:RelV v r)(h:∀n,ù H6 σ H' n->Q () n):
  ϷF ϳP A (setItem (É a) u r) Q E s:=by
 rcases g with⟨Fv,k,e,Y,l,i⟩|⟨Fv,k,b,e,Y,G,l,i⟩
 .subst Y i
  let(z,j,V,rel,D):=Rk I.hok e;let Z:ŀ V.length:=Ϙ rel.À z
  let L:ŀ (Ã (϶p k v)):=Ĳ (rJ Fv k v)
  show wpAny_setItem_pairs (hsz:=Z) (C0 m) D λh' d S=>h _ ?_;let he:∃q,ύz=Â q:=let⟨q,_,_,f,_⟩:=d;⟨q,f⟩;show BL I (ϻr True.intro) S he<|Kr L j (rel.put k R) d
 subst Y i;cases(show ϒB from m);let(z,j,F,rel,D):=WS I.hok e;let Z:ŀ F.length:=Ϙ (Paired.length rel) z
 let L:ŀ (Ã (϶p k v)):=Ĳ (rJ Fv k v)
 show wpAny_setItem_heap (hsz:=Z) ϐi ϒY D λh' d S=>h _ ?_;let(q,o,p,f,t,w,x,_,B):=d;show BL I (ϻr True.intro) S ⟨q,f⟩ ⟨L,j,_,(rel.put k G R).keeps λc J C=>?_,q,o,p,f,t,w,x,B⟩;rw[aC<|Xg C e ϳT];show C
end
def Uz(i:On):Prop:=∀O I,subscripted i false O I=operate [O,I] (getItem O I)
theorem Qu{pos:Pos}{T id:String}(l:typeLookup (Ω T) "__getitem__"=pure (Â<|Ρ id))(d:Uz slice)(h:ϰF (eval value env) (λo a=>ϰF (eval slice env) (λi S=>S.TypeIs o T/\ϰF (getItem o i) Q E S) E a) E s):
  ϰF (eval (ŕ value slice pos) env) Q E s:=by
 show Subscript_<|K8m h (λo a h₁=>K8m h₁ (λi S H=>?_) όZ) όZ;let(k,H):=H;erw[subscriptTail];show ϲY;rw[getitemInPython_of_ne k.not_modules];show Ps<|ϐY l ?_;let fin:ϰF (ϗ7 o i) (λr b=>ϰF (letTemporaryGo value o r >>=λx=>pure r) Q E b) E S:=Ô (d o i) (wpAny_operating<|K8m H (λr b c=>Ps<|wpAny_letTemporaryGo<|K9J c) όZ)
 first
  |show K9J<|Ps fin
  |show Ps<|K9J<|Ps fin
  |show Ps fin
def DJ(I:Ģ)(g:ώh o):Ϥn (É a) "dict":=by
 rcases g with⟨Fv,k,e,_,_⟩|⟨Fv,k,b,e,_,_,_⟩
 .let(_,_,v,_,D):=ό4
  show D.Ā
 let(_,_,x,_,D):=ό5;show D.Ā
def X_(td ty:TE):TE:=λc H Q=>td c H λx h=>ty c h λy b=>∃a v,x=É a/\Cu b a y ĥ/\Q v b
def RW(td ty tv:TE):TS:=λD b H=>tv b H λv h=>td b h λx c=>ty b c λy e=>∃a d,x=É a/\YU e a y v d/\D.nx b d
section
variable{X:Cx}{pos pos' tpos:Pos}
def PK(U:ϷR 1)(O:ā o td)(hi:ā i ty)(S:Uz i):ā (ŕ o i pos) (X_ td ty):=ϙx (ϛA<|Wp Ϛc λu l zq=>by let(x,c,e,r,q):=zq;show Wp (Ϥp l b c _ e q) λV w zq=>?_;let(y,d,f,Y,a,v,ex,g,k):=zq;subst ex;obtain rfl:u=ϹA:=r;show(DJ f g,Im U f g Y λW z j R=>⟨v,d,j,R,k⟩))
def Qx(U:ϷR 1)(O:ā o td)(hi:ā i ty)(V:ā value tv)(S:swapsWith value (Â<|ŕ o i pos') pos.line X.Ü=ϥt):
  ϲa (ϴZ [ŕ o i pos'] value pos) (RW td ty tv):=by
 ext p s b H D I h;show wpAny_Assign_Subscript (Wp (V p s b H _ I h) λr n zq=>?_) S;let(v,c,f,R,q):=zq;show Wp (O p n b c _ f q) λu w zq=>?_;let(x,d,j,m,Q):=zq;show Wp (Ϥp w b d _ j Q) λA B zq=>?_;let(y,z,k,Y,a,e,ex,g,l):=zq;subst ex;obtain rfl:u=ϹA:=m;show IL U k g Y R λs4 t=>⟨b,e,t,l⟩
end
def EH(h:Op)(B:sysModules<h.Â):eO P w H (h.û (Ċ "dict" Ϭo)) h.Â Ϥa:=
 ⟨ϰS,beq_eq_false_iff_ne.ó<|K8g<|K9O B,[],õ,Heap.DictOf.new h⟩
def MF:TE:=ϤG (∀p,ϵw->Q (É p) (ļ p Ϥa))
section
variable{pos:Pos}
def J3:ā Ϛd MF:=λp s b H Q I h=>wpAny_Dict_empty ⟨É s.Á,_,ϗS (o:=Ϥa) (t':=s.ã) (λx x q=>ő q) ì<|EH s.Ì I.big,rfl,h _<|I.É ì⟩
end
def Gj:À (TE×TE)->St->Hp->Ú (À (V×V)->Ú Hp)|[],_,H,Q=>Q [] H|(tk,tv)::r,σ,H,Q=>tk σ H λx h=>tv σ h λy b=>Gj r σ b λp c=>Q ((x,y)::p) c
abbrev VV:À (V×V)->Ú (À (Db×Db)):=Paired λp q=>RelV p.1 q.1/\ώb q.2
def PPs(X:Cx)(pos:Pos)(keys:À (Ü On))(values:À On)(t:À (TE×TE)):Prop:=
 ∀(p:À ŝ)(s:Da)(a:St)(H:Hp)(Q:À (V×V)->Ú Hp),ù p a H s->Gj t a H Q->
  Ő (evalPairs<|pairTrees keys values X.Ü pos) (λv S=>∃P h,ù p a h S/\VV P v/\Q P h) X.xe s
def PB{pos:Pos}:ύC [] [] []:=λp s a H Q I h=>pairTrees_nil_walk ⟨[],H,I,õ,h⟩
def MD{pos:Pos}(K:ā k tk)(V:ā v tv)(hr:ύC ks vs trs):
  ύC (Ş::ks) Ϭ6 ((tk,tv)::trs):=by
 ext p s a H Q I h;show pairTrees_cons_walk (ϫi<|K p s a H _ I h);let(x,b,i,R,q):=zq;show Wp (V p S a b _ i q) λW w zq=>?_;let(y,c,f,Y,e):=zq;show Wp (hr p w a c _ f e) λws z zq=>?_;let(P,d,g,rel,l):=zq;show((x,y)::P,d,g,ą ⟨R,Y⟩ rel,l)
def vY(Fv more:À ϴT):À ϴT:=more.foldl (λa v=>putK a v.1 v.2) Fv
def KV.merge:∀{more:À ϴT}{rs:À (Key×Db)}{Fv:À ϴT}{s:À (Key×Db)},KV more rs->KV Fv s->KV (vY Fv more) (merged s rs):=by
 ext more rs Fv s r;erw[KV]at r
 induction r generalizing Fv s with
 |nil=>ext q;show q
 |@cons p q ps qs h t ih=>
  ext R;let e:KV (϶p p.1 p.2) (stored s q.1 q.2):=by let:=R.put p.1 h.2;rw[<-h.1];show this
  show ih e
theorem tL:∀(more Fv:À ϴT),Ã (vY Fv more)<=ώN more.À
 |[],Fv=>ϳY (Fv.À<=ώN 0)
 |p::r,Fv=>by
  let h:=tL r<|϶p p.1 p.2;let H:=rJ Fv p.1 p.2;change Ã (vY (϶p p.1 p.2) r)<=_;rw[K9p];lia
theorem zg:∀{Fv:À ϴT}{ws:À (Db×Db)},VV (϶P Ϛe) ws->∃rs,Carries ώc ws rs/\KV Fv rs:=by
 induction _ with
 |nil=>ext _ r;rw[K9D]at r;cases r;show([],True.intro,õ)
 |cons p Fv ih=>
  ext _ r;rw[K9w]at r;cases r with|@cons a b as bs h t=>let(rs,c,q):=ih (ws:=bs) t;let(b1,B):=b;show((p.1,B)::rs,(C0 h.1,rfl,c),ą (Ϸv h.2) q)
def RC(t:À (TE×TE)):TE:=λa H Q=>∀p,ϵw->Gj t a (ļ p Ϥa) λs b=>b p=Â Ϥa/\∃Fv:À ϴT,s=϶P Ϛe/\Fv.À<=15/\Q (É p) (upd b p<|.dK<|vY [] Fv)
def Qt{pos:Pos}(h:ύC keys values trs)(l:ϵ keys.all (·.isSome))(L:keys.À=values.À)(g:keys≠[])(b:keys.À<=15):ā (.Dict keys values pos) (RC trs):=by
 ext p s t H Q I q;let n:=I.É<|N4 s.Á;let i:=ϗS (o:=Ϥa) (h':=ϳi ((Ċ "dict" Ϭo))) (t':=s.ã) (λx x q=>ő q) ì<|EH s.Ì I.big;show ϛt<|Wp (h p _ t _ _ i<|q _ n) λws y zq=>?_;let(x,u,f,rel,e,Fv,E,U,m):=zq;subst E;let(rs,c,r):=zg (P:=X.ø) (w:=X.w) rel;let(z,k,v,R,D):=Rk f.hok e;cases R;show(rs,c,D,λh' d S=>⟨É s.Á,_,?_,rfl,m⟩);let Z:ŀ (Ã (vY [] Fv)):=by let j:=tL Fv [];rw[K8U]at j;rw[sizeLine_eq];lia
 let he:∃q,ϺT=Â q:=let⟨q,_,_,hq,_⟩:=d;⟨q,hq⟩;show BL f (ϻr True.intro) S he<|Kr Z k (r.merge õ) d
structure M2(X:Cx)(o:On)(m:Str)(apos:Pos)(e f:On)(cpos:Pos):Prop where
 base:attributeBase o m X.Ü (eval o X.Ü)=eval o X.Ü
 few:((Ϻ0<|æ [e,f]).all Ϲz&&ώ6
  &&Õ (Ã ([e,f]:À On)+Ã ([]:À Keyword)+(Ë ([]:À Keyword).isEmpty 0 1)<30))=true
 line:Ϯa
 trees:Ϻ0 (æ [e,f])=ϻu ϯM (eval f X.Ü)
def IsD(H:Hp)(a:Ix):Prop:=(∃Fv,Ϸo ϶m)\/∃Fv,Ϸo ϥP
def VD(I:Ģ)(d:IsD H a):
  Ϥn (É a) "dict"/\(∀b,ϹA=É b->∃O,ϰd=some O/\O.dict=none)/\ϺX:=by
 rcases d with⟨Fv,e⟩|⟨Fv,e⟩
 .let(_,f,v,_,D):=ό4
  show(D.Ā,λb q=>?_,f);cases q;let(O,_,_,h,c,_):=D;show(O,h,c.2.1)
 let(_,f,x,_,D):=ό5;show(D.Ā,λb q=>?_,f);cases q;let(O,_,_,h,c,_):=D;show(O,h,c.2.1)
section
variable{X:Cx}{o:Ü V}{A:Go}
def US(U:ϫv 1)(I:Ģ)(g:ώh o)(f:϶o)(R:RelV d r)(h:∀W S,ù H6 σ H S->RelV (o.ď d) W->Q W S):
  ϷF ϳP A (call (Ρ "dict.get") [É a,u,r]) Q E s:=by
 rcases g with⟨Fv,k,e,Y,l⟩|⟨Fv,k,b,e,Y,G,l⟩
 .subst Y
  let(z,c,v,rel,D):=ό4;show ϕi (meets_dict_get_default Ϛ3 a (C0 f) c r) ⟨_,D.mapOf,h _ _ ϨY ?_⟩;rw[l];show Ó (rel.val k) R
 subst Y;cases(show ϒB from f);let(z,c,x,rel,D):=ό5;show ϕi (meetsH_dict_get_default (tupleKind Ϛ3) a b c r) ⟨ϐi,k,x,ϒY,D,h _ _ ϨY ?_⟩;rw[l];show Ó (rel.val k) R
end
def Ko(td ty tx:TE):TE:=λb H Q=>td b H λx h=>∃a,x=É a/\IsD h a/\ty b h λy d=>tx b d λz c=>∃o,Cu c a y o/\Q (o.ď z) c
section
variable{X:Cx}
def J1(U:ϷR 1)(O:ā o td)(he:ā e ty)(F:ā f tx)(m:M2 X o "get" apos e f cpos):ā (ϱc (ϴL o "get" apos) [e,f] cpos) (Ko td ty tx):=by
 ext p s b H Q I h;show Ϛ8<|ϫi Ϛc;let(x,c,i,w,a,ex,d,q):=zq;subst ex;obtain rfl:u=ϹA:=w;let(t1,t2,_):=VD i d;show(t1,t2,?_);rw[m.trees];show ϕm<|Calls.evalArgs_plain<|ϯP<|Wp (he p S b c _ i q) λB A zq=>by let(y,j,l,Y,r):=zq;show ϯP<|Wp (F p A b j _ l r) λV D zq=>by let(z,k,n,Z,C,g,v):=zq;show ϑJ ?_;show US U n g Y Z λW s4 t R=>⟨_,k,t,R,v⟩
end
end L2
namespace L3
open PySem L2 PySem.Spec PyProof.Rows
abbrev St:=L2.St
def RdK(K:At)(H:Hp)(a:Ix)(X:À V):Prop:=
 Ϸo (ô X)\/∃(i:Ζ Db)(n:Nat),ό0=Â ((Ċ "list" (δ i n)))/\ŀ i.Ã/\ţ X i.ð
def RdK.of{K:At}{H:Hp}{a:Ix}{X:À V}(h:H a=Â (ô X)):ϸq a X:=Ð<|Ð h
def RdK.sq{K:At}{H:Hp}{a:Ix}{X:À V}(h:ϸq a X):μ a X:=by
 rcases h with h|⟨i,n,k,Z,r⟩
 .show Ð h
 show Ø ⟨_,i,n,k,rfl,rfl,rfl,Z,r⟩
def RdK.same{K:At}{H b:Hp}(e:aK H b){a:Ix}{X:À V}(h:ϸq a X):RdK K b a X:=by
 rcases h with (h|⟨o,h⟩)|h
 .show Ð<|Ð Ϩ4
 .show Ð<|Ø ⟨o,Ϩ4⟩
 show Ø h
def RdK.obj(I:Ģ)(h:RdK X.K H a xs):
  ŀ xs.À/\∃(i:À Db)(n:Nat),Ϥf i/\ϚC/\ϯL=Â ((Ċ "list" Ϻ6)):=by
 rcases h with h|⟨i,n,k,Z,r⟩
 .let(z,i,n,r,e):=ϔg
  show(z,i,n,r,r.length,e)
 let e:=r.À;let e':=e;simp only[K8t]at e';show(Á,i.toList,n,r,e,ť (I.kIn a _ k))
end L3
namespace L3
open PySem L2
inductive OD where
 |sh (d:Gc)
 |ol (xs:À OD)
 |ot (xs:À OD)
 |od (Fv:À Ο)
 |pl (a:Ix) (xs:À OD)
def kD:Key->Gc|.inl i=>Ä i|.inr x=>Ė x
def dD(Fv:À Ο):Gc:=.dict<|϶P ϵi
mutual
def OD.er:OD->Gc|.sh d=>d|.ol xs=>Ï ϻJ|.ot xs=>Ą ϻJ|.od Fv=>ϱe|.pl _ xs=>Ï ϻJ
def OD.ers:À OD->À Gc|[]=>[]|x::xs=>x.er::ϻJ
end
def OD.er.a1{d}:OD.er Ř=d:=rfl
def OD.er.a2{xs}:OD.er ϱq=(Ï ϻJ):=rfl
def OD.er'''{xs}:OD.er (.ot xs)=(Ą ϻJ):=rfl
def OD.er''{Fv}:OD.er Ϸn=ϱe:=rfl
def OD.er'{w0 xs}:OD.er (.pl w0 xs)=(Ï ϻJ):=rfl
def OD.ers'':OD.ers []=[]:=rfl
def OD.ers'{x xs}:OD.ers ϩk=(x.er::ϻJ):=rfl
def xG:∀X:À OD,OD.ers X=ϳf:=by
 induction _ with|nil=>show rfl|cons x X N3=>rw[OD.ers',K9w,N3]
def bc(d:Gc):(ϥZ).er=d:=ϰT OD.er.a1
def md(X:À OD):ϹT X=Ï ϳf:=Ĥ OD.er.a2 xG
def M_(X:À OD):(OD.ot X).er=Ą ϳf:=Ĥ OD.er''' xG
def Dj(a:Ix)(X:À OD):(ϒK X).er=Ï ϳf:=Ĥ OD.er' xG
def RI(Fv:À Ο):(OD.od Fv).er=ϱe:=ϰT OD.er''
def aI(s:À Gc):ß s.Ç OD.sh OD.er=s:=by
 rw[S1];let:ϚH:=funext λd=>bc d;rw[this,Zdu]
inductive R(α:Type) where
 |ok (a:α)
 |ex (c:Str)
 |bad
def R.bind{α β:Type}(r:ϲ4)(f:ώi):R β:=match r with
 |.ok a=>f a
 |.ex c=>.ex c
 |.bad=>Î
def cB(a:α)(f:ώi):ó (R.ok a) f=f a:=rfl
abbrev Env:=À<|Ü OD
abbrev Fe:=Env->Ĭ
abbrev Fa:=Ϫr (À OD)
abbrev Ft:=Env->ϵN
abbrev Fn:=À Gc->Ĭ
inductive Out where
 |nx (ρ:Env)
 |rt (x:OD)
 |bk (ρ:Env)
 |ct (ρ:Env)
abbrev Fs:=Env->ϲr
abbrev Fi:=Ϫr (À Gc)
abbrev Fg:=OD->Ϫr Env
def Tk:Nat:=10000000
def flat:ϲ0 Gc|.none=>true|.bool _=>true|.int _=>true|.str _=>true|_=>false
def aa(i:Nat):Fe:=λa=>match ϴp with
 |some (some<|.sh d)=>.ok Ř
 |_=>Î
def eC(d:Gc):Fe:=λx=>.ok Ř
def F4(g:ϰe)(a b:Fe):Fe:=λc=>ó (a c) λx=>ó (b c) λy=>Ϩk
def eUn(g:Gc->Ĭ)(a:Fe):Fe:=λb=>ι λx=>g x.er
def truth:Gc->ϵN|.bool b=>.ok b|_=>Î
def aD(a:Fe):Ft:=λb=>ι λx=>ϵn
def p_(a b:Ft):Ft:=λd=>ó (a d) λc=>Ë ϱt (b d) ϶6
def pZ(a b:Ft):Ft:=λd=>ó (a d) λc=>Ë ϱt ϵs (b d)
def nI(a:Ft):Ft:=λb=>ι λc=>.ok<|!c
def Ao(a b:Fe):Fe:=λd=>ó (a d) λx=>ó ϵn λc=>Ë ϱt (b d) (þ (ã false))
def eOr(a b:Fe):Fe:=λd=>ó (a d) λx=>ó ϵn λc=>Ë ϱt (þ (ã true)) (b d)
def Ap(a:Fe):Fe:=λb=>ι λx=>ó ϵn λc=>þ<|ã<|!c
def eIf(t:Ft)(a b:Fe):Fe:=λd=>ó (t d) λc=>Ë ϱt (a d) (b d)
def ai:Fa:=λx=>Ħ []
def ae(a:Fe)(r:Fa):Fa:=λb=>ι λx=>ó (r b) λX=>.ok ϦF
def shs:À OD->Ü (À Gc)
 |[]=>Â []
 |.sh d::r=>match shs r with
  |some ds=>Â ϥ5
  |none=>none
 |_::_=>none
def shs'{d r}:shs (Ř::r)=match shs r with
  |some ds=>Â ϥ5
  |none=>none:=rfl
def mkT(X:À OD):OD:=ϑg (shs X) (.sh<|Ą ds) (.ot X)
def d_(a:Fa):Fe:=λb=>ι λX=>Ë όa (Ħ (mkT X)) Î
def Rs(a:Fe):Fe:=λb=>ι λx=>þ x.er
def bO(a:Fa):Fe:=λb=>ι λX=>Ë όa (ģ X) Î
def aj(f:Fn)(a:Fa):Fe:=λb=>ι λX=>f ϳf
def eB(g:À Gc->Ĭ)(a:Fa):Fe:=λb=>ι λX=>g ϳf
def erase(a:Env):Env:=a.Ç λo=>o.Ç λx=>Đ x.er
def pX(a:Fe):Fe:=λb=>ó (a ώj) λx=>Ë (flat x.er=true) (þ x.er) Î
def flc(d:Gc)(t:Ĭ):Ĭ:=if flat d=true then t else Î
def flI{i t}:flc (Ä i) t=t:=rfl
def flS{x t}:flc (Ė x) t=t:=rfl
def flB{b t}:flc (ã b) t=t:=rfl
def flN{t}:flc ò t=t:=rfl
def flL{x t}:flc (Ï x) t=Î:=rfl
def flT{x t}:flc (Ą x) t=Î:=rfl
def mE(a:Fe):Fe:=λb=>ó (a ώj) λx=>match x with
 |.ol xs=>Ë (ϵ xs.all ϻa) (ģ ϮG) Î
 |_=>Î
def Gk(a:Ft):Ft:=λb=>a ώj
abbrev Fo:=Ϫr (Ü Int)
def iN:Fo:=λx=>.ok none
def d8(a:Fe):Fo:=λb=>ι λx=>match x.er with
 |.int i=>.ok ϸv
 |_=>Î
def eSl(g:Gc->ϱv (Ü Int) Ĭ)(a:Fe)(l h:Fo):Fe:=λb=>ι λx=>ó (l b) λi=>ó (h b) λj=>ϔr
def bY(a:Fe):Fi:=λb=>ι λx=>match x.er with
 |.list ds=>ϩI
 |_=>Î
def iTp(a:Fe):Fi:=λb=>ι λx=>match x.er with
 |.tuple ds=>ϩI
 |_=>Î
def ky(lo:Int)(n:Nat):À Gc:=Ê ϲk (ϳk (lo+k))
def aE(i:Int):Bool:=@decide (-ϴ<=i/\i<ϴ) ϷM
def iR1(a:Fe):Fi:=λb=>ι λx=>match x.er with
 |.int j=>Ë (ϵQ aE) ϧq Î
 |_=>Î
def iR2(a b:Fe):Fi:=λc=>ó (a c) λx=>ó (b c) λy=>match x.er,y.er with
 |.int i,.int j=>Ë (ϻg aE) (Ħ (ky i (ĩ (j-i)))) Î
 |_,_=>Î
def fC(d:À Gc):À Gc:=d.zipIdx.Ç λp=>ϱZ [Ä (ϱC p.2),p.1]
def gq(d e:À Gc):À Gc:=Ê (d.Ċ e) λp=>ϱZ [p.1,p.2]
def iEn(a:Fe):Fi:=λb=>ι λx=>match x.er with
 |.list ds=>.ok<|fC ds
 |_=>Î
def iZp(a b:Fe):Fi:=λc=>ó (a c) λx=>ó (b c) λy=>match x.er,y.er with
 |.list ds,.list es=>.ok ύX
 |_,_=>Î
def K2(i:Nat):Fg:=λx a=>.ok<|Ϲm Ď
abbrev Fgs:=À OD->Ϫr Env
def bB:Fgs:=λX a=>match X with
 |[]=>.ok a
 |_=>Î
def ar(g:Fg)(r:Fgs):Fgs:=λX b=>match X with
 |x::X=>ó (g x b) λa=>r X a
 |[]=>Î
def gTp(n:Nat)(r:Fgs):Fg:=λx a=>match x with
 |.ot xs=>Ë (xs.À=n) (r xs a) Î
 |.sh (.tuple ds)=>Ë (ds.À=n) (r ϶a a) Î
 |_=>Î
def Cd:Ü (Ü OD)->Ü OD|some (some<|.sh d)=>Â Ř|_=>none
def sl3(k:Nat)(outs:Ò)(a:Env):Env:=ϳX none++ϵC (λi=>Cd ϴp)
def Jc{α:Type}:ϲ4->ϲ4|.ok a=>.ok a|_=>Î
def aJ(g:Fg)(t:Ft)(e:Fe)(a:Env):À Gc->À OD->R (À OD)|[],acc=>.ok acc|d::ds,acc=>ó (Jc<|g Ř a) λc=>ó (Jc<|t c) λb=>Ë (b=true) (ó (Jc<|e c) λy=>Ë (acc.À<Tk) (ϥv ds (acc++[y])) Î) (ϥv ds acc)
def aJ''{g t e a acc}:ϥv [] acc=(.ok acc):=rfl
def aJ'{g t e a d ds acc}:ϥv ϥ5 acc=(ó (Jc<|g Ř a) λc=>ó (Jc<|t c) λb=>Ë (b=true) (ó (Jc<|e c) λy=>Ë (acc.À<Tk) (ϥv ds (acc++[y])) Î) (ϥv ds acc)):=rfl
def aP(it:Fi)(g:Fg)(t:Ft)(e:Fe)(k:Nat)(outs:Ò):Fe:=λa=>ó (it a) λd=>ó (ϭu e (ϒZ a) d []) λX=>ģ X
def aT:Ft:=λx=>ϵs
def sNx:Fs:=λa=>ϹH
def ao(a b:Fs):Fs:=λc=>ó (a c) λo=>match o with
 |.nx ρ'=>b ρ'
 |o=>.ok o
def K_(a:Fe)(g:Fg):Fs:=λc=>ó (a c) λx=>ó (g x c) λb=>.ok<|.nx b
def ax(i:Nat)(a:Fe):Fs:=λb=>ι λx=>ų<|ϻi Ď
def AF(a:Fe):Fs:=λb=>ι λx=>.ok<|.nx b
def bF(a:Fe):Fs:=λb=>ι λx=>ϴK
def dB(i:Nat):Fs:=λa=>match ϴp with
 |some (some x)=>ϴK
 |_=>Î
def sIf(t:Ft)(a b:Fs):Fs:=λd=>ó (t d) λc=>Ë ϱt (a d) (b d)
def Ju:Fs:=Ţ Î
def Ox(i:Nat)(a:Env):Env:=match ϴp with
 |some (some x)=>Ϲm<|Â Ϭb
 |_=>a
def pq(i:Nat)(a:Fs):Fs:=λb=>a<|Ox i b
def EU(i:Nat)(g:ϰe)(a:Fe):Fs:=λb=>match ϵU with
 |some (some<|.sh d)=>ι λy=>ó (g d y.er) λz=>ų<|ϻi<|Â z
 |_=>Î
def jD(i:Nat)(a:Fe):Fs:=λb=>match ϵU with
 |some (some<|.ol xs)=>ι λy=>Ë ϒ0 (϶ b.ß ϬH) Î
 |_=>Î
def IH(i:Nat)(g:Fg):Fs:=λb=>match ϵU with
 |some (some<|.ol xs)=>match xs.ī with
  |some (.sh d)=>(g Ř<|ϻi<|Â<|.ol xs.Ù).bind λa=>ϹH
  |_=>Î
 |_=>Î
def Es(i:Nat)(a:Fe):Fs:=λb=>match ϵU with
 |some (some<|.ol xs)=>ι λy=>match y with
  |.ol ys=>Ë ϪR (϶ b.ß ϭd) Î
  |_=>Î
 |_=>Î
def xj(i:Nat)(k:Fe)(a:Fe):Fs:=λb=>match ϵU with
 |some (some<|.ol xs)=>ι λy=>ó (k b) λz=>match z.er with
  |.int q=>match ϴH q with
   |some j=>϶ b.ß<|ϲE y
   |none=>Î
  |_=>Î
 |_=>Î
def comps:OD->Ü (Bool×À OD)|.ol xs=>Â (true,xs)|.ot xs=>Â (false,xs)|_=>none
def wrap(l:Bool)(X:À OD):OD:=Ë (l=true) Ϧk (.ot X)
def ui(i:Nat)(k:Fe)(a:Fe):Fs:=λb=>match ϵU with
 |some (some<|.ol xs)=>ó (k b) λz=>match z.er with
  |.int q=>match ϴH q with
   |some j=>match Ϥv with
    |some (.ol ys)=>ι λy=>if ys.À<Tk then ϶ b.ß (ϲE<|.ol<|ys++[y])else Î
    |_=>Î
   |none=>Î
  |_=>Î
 |_=>Î
def aY(g:Fg)(b:Fs):À Gc->Env->ϲr
 |[],ρ=>ų ρ
 |d::ds,ρ=>ó (g Ř ρ) λa=>ó (b a) λo=>match o with
  |.nx ρ2=>ϴf ds ρ2
  |.ct ρ2=>ϴf ds ρ2
  |.bk ρ2=>ų ρ2
  |.rt x=>ϴK
def aY'{g b d ds ρ}:ϴf ϥ5 ρ=ó (g Ř ρ) λa=>ó (b a) λo=>match o with
  |.nx ρ2=>ϴf ds ρ2
  |.ct ρ2=>ϴf ds ρ2
  |.bk ρ2=>ų ρ2
  |.rt x=>ϴK:=rfl
def bZ(it:Fi)(g:Fg)(b:Fs):Fs:=λa=>ó (it a) λd=>ϴf d a
def ft(t:Ft)(b:Fs):Nat->Env->ϲr
 |0,_=>Î
 |n+1,ρ=>ó (t ρ) λc=>if ϱt then ó ϵS λo=>match o with
  |.nx ρ2=>ϲT n ρ2
  |.ct ρ2=>ϲT n ρ2
  |.bk ρ2=>ų ρ2
  |.rt x=>ϴK else ų ρ
def ft'{t b n ρ}:ϲT (n+1) ρ=ó (t ρ) λc=>if ϱt then ó ϵS λo=>match o with
  |.nx ρ2=>ϲT n ρ2
  |.ct ρ2=>ϲT n ρ2
  |.bk ρ2=>ų ρ2
  |.rt x=>ϴK else ų ρ:=rfl
open Classical in
def dX(t:Ft)(b:Fs):Fs:=λa=>ϩo (∃n,ϲT n a≠Î) (ϲT h.ĥ a) Î
def zS(n:Nat)(s:À Gc):Env:=(s.Ç λd=>Â ϥZ)++ϳ2 (n-s.À) none
def aZ(np n:Nat)(b:Fs):Fn:=λd=>if d.À=np then ó (b<|zS n d) λo=>match o with
 |.rt x=>ϴ2
 |.nx _=>þ ò
 |_=>Î else Î
mutual
inductive Rep(K:At)(H:Hp):V->Ú Gc
 |non:Ŀ H Α ò
 |bl (b:Bool):Ŀ H ϵO (ã b)
 |int (i:Int):Ŀ H (Ä i) (Ä i)
 |str (x:Str):Ŀ H (Ė x) (Ė x)
 |lst {a:Ix} {xs:À V} {ds:À Gc}:ϸq a xs->ϵM xs ds->Ŀ H (É a) (Ï ds)
 |tup {a:Ix} {xs:À V} {ds:À Gc}:H a=Â (Ī xs)->ϵM xs ds->Ŀ H (É a) (Ą ds)
 |dct {a:Ix} {Fv:À ϴT} {ds:À Ο}:H a=Â ϶m->ϹP Fv.Ç ϔ ds.Ç->ϵM (϶P Ž) (ds.Ç Ž)->Ŀ H (É a) (dD ds)
inductive E5(K:At)(H:Hp):À V->Ú (À Gc)
 |nil:ϵM [] []
 |cons {v:V} {vs:À V} {d:Gc} {ds:À Gc}:Ŀ H v d->ϵM vs ds->ϵM Ϭ6 ϥ5
end
def E5.same(e:ϩx)(h:ϵM vs ds):E5 K H' vs ds:=ϧh (λv d x=>Ŀ H' v d) (λv d x=>E5 K H' v d) Α .bl Ä Ė (λh x=>ô<|h.Î e) (λh x=>Ī Ϩ4) (λh k x=>.dct Ϩ4 k) õ (λx x=>ą)
def Rep.same(e:ϩx)(h:Ŀ H v d):Ŀ H' v d:=by cases E5.Î e (ą h õ);assumption
mutual
inductive Own(K:At)(F H:Hp):V->OD->Ú (À Ix)
 |sh {v:V} {d:Gc}:Ŀ F v d->ϴq F H v Ř []
 |ol {a:Ix} {vs:À V} {xs:À OD} {f:À Ix}:H a=Â (ô vs)->ψ vs xs f->ϴq F H (É a) ϱq (a::f)
 |ot {a:Ix} {vs:À V} {xs:À OD} {f:À Ix}:H a=Â (Ī vs)->ψ vs xs f->ϴq F H (É a) (.ot xs) (a::f)
 |od {a:Ix} {Fv:À ϴT} {ds:À Ο}:H a=Â ϶m->ϭP ds.Ç (ϴq F H (É a) (.od ds) [a])
 |pl {a:Ix} {vs:À V} {xs:À OD} {f:À Ix}:H a=Â (ô vs)->ψ vs xs f->ϴq F H (É a) (.pl a xs) (a::f)
inductive N1(K:At)(F H:Hp):À V->À OD->Ú (À Ix)
 |nil:ψ [] [] []
 |cons {v:V} {x:OD} {f:À Ix} {vs:À V} {xs:À OD} {g:À Ix}:ϻb->ψ vs xs g->ψ Ϭ6 ϩk Ϧp
end
def N1.mono(e:ϥ6)(k:π (∀o,H a=Ö->H' a=Ö))(h:ψ v x f):ϷJ F' H' v x f:=ϧh (λv x f z=>(π<|∀o,H a=Ö->H' a=Ö)->ϴq F' H' v x f) (λv x f z=>(π<|∀o,H a=Ö->H' a=Ö)->ϷJ F' H' v x f) (λr x=>.sh<|r.Î e) (Ϫj<|.ol ϻn<|i (ϲQ (ě m))) (Ϫj<|.ot ϻn<|i (ϲQ (ě m))) (λh q r k=>.od ϻn q<|E5.Î e r) (Ϫj<|.pl ϻn<|i (ϲQ (ě m))) (Ţ õ) (λx x i j k=>ą (i (ϲQ (ϰA m)))<|j (ϲQ (Τ m))) k
def Own.mono(e:ϥ6)(k:π (∀o,H a=Ö->H' a=Ö))(h:ϻb):ϴq F' H' v x f:=by
 let t:=ϛB<|ą h õ;rw[List.append_nil]at t;cases t with|cons a b=>cases b;simpa using a
def N1.dom(h:ψ v x f):π (∃o,H a=Ö):=ϧh (λx x f x=>π (∃o,H a=Ö)) (λx x f x=>π (∃o,H a=Ö)) (λx x m=>ϥw) (λh x i a m=>ϭL<|i a) (λh x i a m=>ϭL<|i a) (λh x x a m=>ϭL Û) (λh x i a m=>ϭL<|i a) ϰX (λx x i j a m=>ϵg (i a)<|j a)
def Own.dom(h:ϻb)(a)(m:a∈f):∃o,H a=Ö:=N1.ö (ą h õ) a ϲC
def N1.frz(e:ϥ6)(k:π (∀o,H a=Ö->F' a=Ö))(h:ψ v x f):ϙK:=ϧh (λv x f z=>(π<|∀o,H a=Ö->F' a=Ö)->Ŀ F' v x.er) (λv x f z=>(π<|∀o,H a=Ö->F' a=Ö)->ϙK) (λr x=>by rw[bc];show r.Î e) (Ϫj<|Ô OD.er.a2 (ô (RdK.of ϻn)<|i (ϲQ (ě m)))) (Ϫj<|Ô OD.er''' (Ī ϻn<|i (ϲQ (ě m)))) (λh q r k=>Ô OD.er'' (.dct ϻn q<|r.Î e)) (Ϫj<|Ô OD.er' (ô (RdK.of ϻn)<|i (ϲQ (ě m)))) (λx=>Ô OD.ers'' õ) (λx x i j k=>Ô OD.ers' (ą (i (ϲQ (ϰA m)))<|j (ϲQ (Τ m)))) k
def Own.frz(e:ϥ6)(k:π (∀o,H a=Ö->F' a=Ö))(h:ϻb):Ŀ F' v x.er:=by
 let t:=ϛC<|ą h õ;rw[OD.ers']at t;cases t;assumption
def N1.len(o:ψ v x f):v.À=x.À:=by
 induction x generalizing v f with
 |nil=>cases o;rfl
 |cons a r ih=>
  cases o with|cons h t=>show Ϩs<|ih t
def N1.app(o:ψ v x f)(q:ψ w y g):ψ (v++w) (x++y) Ϧp:=by
 induction x generalizing v f with
 |nil=>cases o;show q
 |cons a r ih=>
  cases o with|cons h t=>rw[K92,K92,K9M];show ą h<|ih t
def N1.shs:∀{v:À V}{d:À Gc},Λ v d->ψ v ϫq []:=by
 ext v d h;induction v generalizing d with|nil=>cases h;show õ|cons a v ih=>cases h with|cons h r=>show ą (f:=[]) (.sh h)<|ih r
def E5.len:∀{v:À V}{d:À Gc},Λ v d->v.À=d.À|_,_,.nil=>rfl|_,_,.cons _ r=>by rw[K9p,K9p,E5.í r]
def E5.get:∀{v:À V}{s:À Gc}{i:Nat}{d:Gc},Λ v s->ϵT=ϰN->∃x,v[i]?=Ď/\Ŀ F x d:=by
 ext v s i d h;induction v generalizing s i with
 |nil=>cases h;ext e;simp at e
 |cons a v ih=>
  cases h with
  |cons h r=>
   ext e;cases i with
   |zero=>simp at e;subst e;show(_,rfl,h)
   |succ i=>let(x,H,a):=ϻT r ϵh;show(x,Ϻ4,a)
def E5.app:∀{v w:À V}{d e:À Gc},Λ v d->Λ w e->Λ (v++w) (d++e):=by
 ext v w d e h q;induction v generalizing d with|nil=>cases h;show q|cons a v ih=>cases h with|cons h r=>show ą h<|ih r
def E5.take:∀{v:À V}{d:À Gc}(n:Nat),Λ v d->Λ (v.Ö n) (d.Ö n):=by
 ext v d n h;induction n generalizing v d with|zero=>rw[K7t,K7t];show õ|succ n ih=>cases h with|nil=>show õ|cons h r=>show ą h<|ih r
def E5.drop:∀{v:À V}{d:À Gc}(n:Nat),Λ v d->Λ (v.ä n) (d.ä n)|_,_,0,r=>r|_,_,_+1,.nil=>õ|_,_,n+1,.cons h r=>E5.ä n r
def E5.toInts:∀{v:À V}{ns:À Int},Λ v ō->v=ϲg:=by
 ext v ns h;induction ns generalizing v with|nil=>cases h;rfl|cons n ns ih=>cases h with|cons h r=>cases h;rw[ih r];rfl
def E5.ofInts:∀(ns:À Int),Λ ϲg ō|[]=>õ|n::ns=>ą (Ä n)<|E5.ofInts ns
structure Ext(F H F' H':Hp):Prop where
 ff:ϥ6
 hh:ϩx
 fh:aK F' H'
 nw:∀a,Ϩz->Ϸf->F' a=none
def bg(h:o=Ď):o≠none:=by rw[h];show Option.some_ne_none x
def _root_.Internal.L2.aK.dom(e:ϩx)(h:Ϩz):H' a≠none:=by
 cases q:H a with|none=>show ĭ q h|some o=>show bg<|e a o q
def Ext.refl(h:ϰP):Ϛ F H:=⟨ϰ3,ϰ3,h,Ϸ3⟩
def Ext.trans(a:Ϛ F1 H1)(b:Ext F1 H1 F2 H2):Ϛ F2 H2:=⟨a.ĭ b.ff,a.hh.Å b.hh,b.fh,λx h n=>Ϝq<|a.nw x h n⟩
def Ext.alloc(h:ϰP)(P:ϵw):Ϛ F (ļ p o):=
 ⟨ϰ3,ϑP P,(aK.upd h<|h.â P),Ϸ3⟩
def Ext.allocF(h:ϰP)(P:ϵw):Ϛ (upd F p o) (ļ p o):=by
 show((aK.refl F).upd<|h.â P,ϑP P,λb u q=>?_,λa A n=>?_)
 .by_cases e:b=p
  .subst e
   rw[aU]at q⊢;show q
  rw[aC e]at q⊢;show h b u q
 let e:a≠p:=ϧ4 (A P)
 rw[aC e];show n
structure Res(K:At)(F H:Hp)(v:V)(x:OD)(f:À Ix):Prop where
 own:ϻb
 nd:f.Í
 fr:π Ϸf
structure ResL(K:At)(F H:Hp)(v:À V)(x:À OD)(f:À Ix):Prop where
 own:ψ v x f
 nd:f.Í
 fr:π Ϸf
open Classical in
def pW(F H:Hp)(f:À Ix):Hp:=λa=>Ë (a∈f) (H a) (F a)
def pI(h:a∈f):ϸb a=H a:=ű pW ϰo
def gO(h:϶L):ϸb a=F a:=ű pW ϱB
section
variable{x:OD}{xs:À OD}
def gh(n:π Ϸf):ϸW ϸb:=λa o q=>by
 rw[gO]
 .show q
 ext m;rw[n a m]at q;cases q
def x8(h:ϰP):aK ϸb H:=λa o q=>by
 cases m:a∈f
 .rw[pI m]at q
  show q
 rw[gO m]at q;show h a o q
def Res.ext(r:ϫL x f)(e:Ϛ F' H'):Res K F' H' v x f:=
 ⟨ύ1 e.ff ϐw,r.nd,ϰW (ώ3 r.Þ<|ϸw m)⟩
def ResL.ext(r:ϻ7 K vs xs f)(e:Ϛ F' H'):ResL K F' H' vs xs f:=
 ⟨ύ1 e.ff ϐw,r.nd,ϰW (ώ3 r.Þ<|ϸw m)⟩
def Ig(e:Ϛ F1 H1)(n:π (F1 a=none))(w:π ϶n):Ϛ ϓG H1:=
 ⟨e.ĭ<|gh n,e.hh,x8 e.fh,λa h z=>by
  let m:϶L:=λm=>h ϤH
  rw[gO m];show e.nw a h z⟩
def Res.frz(e:Ϛ F1 H1)(r:Res K F1 H1 v x f)(w:π ϶n):∃G,Ϛ G H1/\Ŀ G v x.er:=
 ⟨ϓG,Ig e r.fr w,Ϛf ((ϵH (Ô (pI m) q)))⟩
def ResL.frz(e:Ϛ F1 H1)(r:ResL K F1 H1 vs xs f)(w:π ϶n):∃G,Ϛ G H1/\E5 K G vs ϯT:=
 ⟨ϓG,Ig e r.fr w,Ϙ xG (Ϛf ((ϵH (Ô (pI m) q))))⟩
def Res.sh{d:Gc}(r:Ŀ F v d):ϫL Ř []:=⟨.sh r,K8w,ϰX⟩
def ResL.nil:ϻ7 K [] [] []:=⟨õ,K8w,ϰX⟩
def ResL.cons{g:À Ix}(r:ϫL x g)(q:ϻ7 K vs xs f)(d:∀a∈g,϶L):ϻ7 K Ϭ6 ϩk (g++f):=
 ⟨ą r.own q.own,Ϧl ⟨r.nd,q.nd,λa m b n e=>d a m (e▸n)⟩,ϰW (ϵg ϸw<|q.fr a)⟩
end
inductive Z1(K:At)(F H:Hp):St->Env->Ú (À Ix)
 |nil:ϰy [] [] []
 |no {v:Ü V} {σ:St} {ρ:Env} {g:À Ix}:ϰy σ ρ g->ϰy (v::σ) (none::ρ) g
 |yes {v:V} {x:OD} {f:À Ix} {σ:St} {ρ:Env} {g:À Ix}:ϻb->ϰy σ ρ g->ϰy (ĥ::σ) (Ď::ρ) Ϧp
def Z1.mono(e:ϥ6)(k:∀a∈g,∀o,H a=Ö->H' a=Ö)(S:ϰy σ ρ g):Z1 K F' H' σ ρ g:=by
 induction S with|nil=>show õ|no r ih=>show .no<|ih k|yes h r ih=>show .yes (h.á e (ϲQ (ϰA m)))<|ih (ϲQ (Τ m))
def Z1.dom(S:ϰy σ ρ g):∀a∈g,∃o,H a=Ö:=by
 induction S with
 |nil=>exact ϰW ϥw
 |no r ih=>show ih
 |yes h r ih=>exact ϰW (ϵg (h.ö a)<|ih a)
theorem Z1.at(S:ϰy σ ρ g):∀{i:Nat}{x:OD},á ρ=Â Ď->
  ∃v f g1 g2,á σ=Â ĥ/\ϻb/\g=϶d/\∀(b c:Hp),ϸW b->(ύx<|∀o,H a=Ö->c a=Ö)->∀V x' d,ϴq b c V x' d->Z1 K b c (Ϥ6<|Â V) (ϰs<|Â x') ϯU:=by
 induction S with
 |nil=>ext i x e;simp at e
 |no r ih=>
  ext i x e;cases i with
  |zero=>simp at e
  |succ i=>
   let(v,f,g1,g2,j,l,n,p):=ϻT ϵh;show(v,f,g1,g2,by simpa using j,l,n,ϮW (.no<|p b c s k V x' d o))
 |@yes v0 x0 f0 σ0 ρ0 g0 h r ih=>
  ext i x e;cases i with
  |zero=>
   simp at e;subst e;show(_,f0,[],g0,rfl,h,rfl,Ϗa)
  |succ i=>
   let(v,f,g1,g2,j,l,n,p):=ϻT ϵh;show(v,f,f0++g1,g2,by simpa using j,l,by rw[n,K9M],ϮW ?_);rw[K9M];show ϕd<|p b c s (ϲQ ϤU) V x' d o
theorem Z1.put(S:ϰy σ ρ g):∀{i:Nat},i<ρ.À->
  ∃f g1 g2,g=϶d/\∀(b c:Hp),ϸW b->(ύx<|∀o,H a=Ö->c a=Ö)->∀V x' d,ϴq b c V x' d->Z1 K b c (Ϥ6<|Â V) (ϰs<|Â x') ϯU:=by
 induction S with
 |nil=>ext i e;simp at e
 |@no v0 σ0 ρ0 g0 r ih=>
  ext i e;cases i with
  |zero=>show([],[],g0,rfl,Ϗa)
  |succ i=>
   let(f,g1,g2,j,l):=ϻT ϵh;show(f,g1,g2,j,ϮW (.no<|l b c s k V x' d o))
 |@yes v0 x0 f0 σ0 ρ0 g0 h r ih=>
  ext i e;cases i with
  |zero=>show(f0,[],g0,rfl,Ϗa)
  |succ i=>
   let(f,g1,g2,j,l):=ϻT ϵh;show(f,f0++g1,g2,by rw[j,K9M],ϮW ?_);rw[K9M];show ϕd<|l b c s (ϲQ ϤU) V x' d o
def Z1.erase(e:ϰP)(S:ϰy σ ρ g):Z1 K H H σ (L3.erase ρ) []:=by
 induction S with|nil=>show õ|no r ih=>show Ϧu|yes h r ih=>show .yes (f:=[]) (.sh<|h.Ė e ϯR) ih
def Z1.len(S:ϰy σ ρ g):σ.À=ρ.À:=by
 induction S with|nil=>rfl|no r ih=>show Ϩs ih|yes h r ih=>show Ϩs ih
structure Stt(K:At)(n:Nat)(F H:Hp)(σ:St)(ρ:Env)(fp:À Ix):Prop where
 same:ϰP
 own:ϰy σ ρ fp
 nd:fp.Í
 fr:∀a∈fp,Ϸf
 len:ρ.À=n
structure Stp(F H:Hp)(fp:À Ix)(F' H':Hp)(fp':À Ix):Prop where
 ff:ϥ6
 keep:∀a o,H a=Ö->a∉fp->H' a=Ö
 new:∀a∈fp',ϩ2\/϶n
 nw:∀a,Ϩz->a∉fp->Ϸf->F' a=none
section
variable{K:At}{n:Nat}{F H F' H' F1 H1 F2 H2:Hp}{σ:St}{ρ:Env}{fp fp1 fp2:À Ix}
def Stt.ext(s:Ϥ0)(e:Ϛ F' H'):Ϲ6 F' H' σ ρ fp:=
 ⟨e.fh,s.ü e.ff ϐw,s.nd,ϰW (ώ3 s.Þ<|s.fr a m),s.í⟩
def Stt.erase(s:Ϥ0):Ϲ6 H H σ (L3.erase ρ) []:=
 ⟨ϰ3,s.own.erase s.Î,K8w,ϰX,(by erw[L3.erase];rw[K0];show s.í)⟩
def Stp.refl:ż fp F H fp:=⟨ϰ3,ϒ1,λx m=>Ð m,ϭs z⟩
def Ext.stp(e:Ϛ F' H'):ż fp F' H' fp:=(ϕ8 (λx m=>Ð m))
def Stp.out(s:ż fp F1 H1 fp1)(h:Ϩz)(m:a∉fp):a∉fp1:=λq=>ϵb (ϔb q) m h
def Stp.trans(s:ż fp F1 H1 fp1)(t:Stp F1 H1 fp1 F2 H2 fp2):ż fp F2 H2 fp2 where
 ff:=s.ĭ t.ff
 keep a o h m:=t.ĉ a o (Ϩl h m)<|s.out (bg h) m
 new a m:=ϵb (t.new a m) ϔb λz=>by
  cases q:a∈fp
  .show Ð q
  .apply Ø ?_
   cases w:H a with|none=>rfl|some o=>rw[Ϩl w q]at z;cases z
 nw a h m z:=t.nw a (by
  cases w:H a with|none=>show absurd w h|some o=>show bg<|Ϩl w m) (s.out h m)<|s.nw a h m z
def Stt.set(s:Ϥ0)(hi:i<n)(r:ϫL x fx)(d:∀a∈fx,a∉fp):
  ∃p,Ϲ6 F H (Ϥ6 ĥ) (ϰs Ď) p/\∀a∈p,ϩ2\/a∈fx:=by
 let(f,g1,g2,e,k):=s.own.put (i:=i) (ϷX s.í);subst e;let nd:=s.nd;let sub:∀a∈ϵu fx,a∈϶d\/a∈fx:=λa m=>by
  simp only[K9Y]at m⊢;rcases m with m|m|m
  .show Ð<|Ð m
  .show Ø m
  show Ð<|Ø<|Ø m
 show(ϵu fx,(s.Î,k F H ϰ3 ϯR v x fx r.own,?_,ϰW (ϵb ϵz (s.fr a) ϸw),Ô K8z s.í),sub);simp only[K9T,K9Y]at nd d⊢;obtain⟨N,⟨h,c,j⟩,g⟩:=nd;show(N,(r.nd,c,ϴJ (d a A<|Ø<|Ø (e▸B))),ϴJ ?_);rcases B with B|B
 .show d b B<|Ð (e▸A)
 show g a A b (Ø B) e
end
structure Mx where
 K:At
 mg:Ŏ
 E:XK
def XOk(M:Mx)(c:Str)(H:Hp)(f:À Ix):Prop:=∃v,M.mg c=ĥ/\∀D h,(∀a o,H a=Ö->϶L->h a=Ö)->M.E v D h
def az(M:Mx)(H:Hp)(f:À Ix){α:Type}(P:Ú α):Ú ϲ4|.ok a=>P a|.ex c=>XOk M c H f|.bad=>False
def azIf{M H f}{α:Type}{P:Ú α}{c:Prop}{i:Decidable c}{a:ϲ4}(p:Ĉ f P (@ite _ c i a Î)):c/\Ĉ f P a:=by
 cases h:c
 .rw[ϰo]at p
  show(h,p)
 rw[ϱB]at p;show ú
section
variable{M H f}{α:Type}{P:Ú α}{o q:Ü (Ü OD)}
def azO{o:Ü (À Gc)}{k:À Gc->ϲ4}(p:Ĉ f P (match o with|some d=>k d|none=>Î)):∃d,o=ϰN/\Ĉ f P (k d):=by
 cases o with|none=>show ú|some d=>show(d,rfl,p)
def azO2{o q:Ü (À Gc)}{k:ϱv (À Gc) ϲ4}(p:Ĉ f P (match o,q with|some x,some y=>k x y|_,_=>Î)):∃x y,o=Ď/\q=ϰO/\Ĉ f P (k x y):=by
 cases o with
 |none=>show ú
 |some x=>cases q with|none=>show ú|some y=>show(x,y,rfl,rfl,p)
def azS{k:OD->ϲ4}(p:Ĉ f P (match o with|some (some x)=>k x|_=>Î)):∃x,o=Â Ď/\Ĉ f P (k x):=by
 cases o with
 |none=>show ú
 |some o=>cases o with|none=>show ú|some x=>show(x,rfl,p)
def azSh{o:Ü OD}{k:Gc->ϲ4}(p:Ĉ f P (match o with|some (.sh d)=>k d|_=>Î)):∃d,o=Â Ř/\Ĉ f P (k d):=by
 cases o with
 |none=>show ú
 |some x=>cases x with|sh d=>show(d,rfl,p)|_=>show ú
def azOl{k:À OD->ϲ4}(p:Ĉ f P (match o with|some (some (.ol xs))=>ϤK|_=>Î)):∃xs,o=Â (Â ϱq)/\Ĉ f P ϤK:=by
 cases o with
 |none=>show ú
 |some o=>
  cases o with
  |none=>show ú
  |some x=>cases x with|ol xs=>show(xs,rfl,p)|_=>show ú
def azPl{k:Ix->À OD->ϲ4}(p:Ĉ f P (match o with|some (some (.pl l xs))=>k l xs|_=>Î)):∃l xs,o=Â (Â<|ϻU xs)/\Ĉ f P (k l xs):=by
 cases o with
 |none=>show ú
 |some o=>
  cases o with
  |none=>show ú
  |some x=>cases x with|pl l xs=>show(l,xs,rfl,p)|_=>show ú
def azOd{k:À Ο->ϲ4}(p:Ĉ f P (match o with|some (some (.od xs))=>ϤK|_=>Î)):∃xs,o=Â (Â<|.od xs)/\Ĉ f P ϤK:=by
 cases o with
 |none=>show ú
 |some o=>
  cases o with
  |none=>show ú
  |some x=>cases x with|od xs=>show(xs,rfl,p)|_=>show ú
def azOo{k:ϱv (À OD) ϲ4}(p:Ĉ f P (match o,q with|some (some (.ol xs)),some (some (.ol ys))=>ϤK ys|_,_=>Î)):∃xs ys,o=Â (Â ϱq)/\q=Â (Â ϻX)/\Ĉ f P (ϤK ys):=by
 cases o with
 |none=>show ú
 |some o=>
  cases o with
  |none=>show ú
  |some x=>
   cases x with
   |ol xs=>
    cases q with
    |none=>show ú
    |some q=>
     cases q with
     |none=>show ú
     |some y=>cases y with|ol ys=>show(xs,ys,rfl,rfl,p)|_=>show ú
   |_=>show ú
def azOL{k:À OD->À Gc->ϲ4}(p:Ĉ f P (match o,q with|some (some (.ol xs)),some (some (.sh (.list ks)))=>ϤK ks|_,_=>Î)):∃xs ks,o=Â (Â ϱq)/\q=some (â ks)/\Ĉ f P (ϤK ks):=by
 cases o with
 |none=>show ú
 |some o=>
  cases o with
  |none=>show ú
  |some x=>
   cases x with
   |ol xs=>
    cases q with
    |none=>show ú
    |some q=>
     cases q with
     |none=>show ú
     |some y=>
      cases y with
      |sh d=>cases d with|list ks=>show(xs,ks,rfl,rfl,p)|_=>show ú
      |_=>show ú
   |_=>show ú
end
def OkE(M:Mx)(F H:Hp)(Q:VK)(x:OD):Prop:=∀v b h f,Ϛ b h->ϒC x f->(π ϶n)->Q v h
def OkL(M:Mx)(F H:Hp)(Q:À V->Ú Hp)(x:À OD):Prop:=∀v b h f,Ϛ b h->ResL M.K b h v x f->(π ϶n)->Q v h
def OkH(F H:Hp){α:Type}(Q:α->Ú Hp)(x:α):Prop:=∀b h,Ϛ b h->Q x h
section
variable{M:Mx}{α β:Type}{r:ϲ4}
def az.bind(h:Ĉ fp P (ϴw g)):Ĉ fp (λa=>Ĉ fp P<|g a) r:=by
 cases r with|ok a=>show h|ex c=>show h|bad=>show h
def az.mono(h:Ĉ fp P r)(k:∀a,P a->P' a):Ĉ fp P' r:=by
 cases r with|ok a=>show k a h|ex c=>show h|bad=>show h
def XOk.stp(s:ż fp F1 H1 fp1)(h:XOk M c H fp):XOk M c H1 fp1:=
 let⟨cv,e,k⟩:=h
 ⟨cv,e,λD b q=>k D b λa o z m=>q a o (Ϩl z m)<|s.out (bg z) m⟩
def az.stp(s:ż fp F1 H1 fp1)(h:Ĉ fp P r):ϓH P r:=by
 cases r with|ok a=>show h|ex c=>show XOk.ē s h|bad=>show h
def az.ext(e:Ϛ F1 H1)(h:Ĉ fp P r):az M H1 fp P r:=h.ē e.ē
def az.nofp(h:Ĉ fp P r):Ĉ [] P r:=by
 cases r with
 |ok a=>show h
 |ex c=>let(v,e,k):=h;show(v,e,λD b q=>k D b λa o z x=>q a o z Û)
 |bad=>show h
def OkE.pre(e:Ϛ F1 H1)(h:ϸ x):ϯV x:=λv b c f e' r w=>h v b c f (ϭG e') r λa m=>e.þ ϤH
def OkH.pre(e:Ϛ F1 H1)(h:ϓI x):OkH F1 H1 Q x:=λb a e'=>h b a<|ϭG e'
def OkE.val(s:ϰP)(h:ϸ Ř)(r:ϥ7 F v d):Q v H:=h v F H [] ϒs (Res.sh r) ϰX
def OkE.lst{Q:VK}{X:À OD}{v:À V}{f:À Ix}{p:Ix}(s:ϰP)(h:ϯV Ϧk)(e:ϒD)(r:ϻ7 M.K v X f)(w:π (H1 a=none))(P:ϵw):Q (É p) (ļ p<|ô v):=by
 let np:p∉f:=λm=>ϸ3 q (r.Þ p m) P
 show h (É p) F _ (p::f) ϗ9 ⟨.ol aU<|ύ1 ϰ3 ((ϵH ?_)),ϙs,ϲK⟩ ϲK
 .rw[aC<|ϲX P]
  show q
 .rcases K8v.mp m with rfl|m
  .show s.â P
  show ϸw m
 rcases K8v.mp m with rfl|m
 .show e.þ P
 show ϤH
def OkE.tup{Q:VK}{X:À OD}{v:À V}{f:À Ix}{p:Ix}(s:ϰP)(h:ϯV (.ot X))(e:ϒD)(r:ϻ7 M.K v X f)(w:π (H1 a=none))(P:ϵw):Q (É p) (ļ p<|Ī v):=by
 let np:p∉f:=λm=>ϸ3 q (r.Þ p m) P
 show h (É p) F _ (p::f) ϗ9 ⟨ϓi<|ύ1 ϰ3 ((ϵH ?_)),ϙs,ϲK⟩ ϲK
 .rw[aC<|ϲX P]
  show q
 .rcases K8v.mp m with rfl|m
  .show s.â P
  show ϸw m
 rcases K8v.mp m with rfl|m
 .show e.þ P
 show ϤH
def OkE.lstD(s:ϰP)(h:ϸ (.ol ϶a))(r:϶B F vs ds)(P:ϵw):Q (É p) (ļ p<|ô vs):=
 OkE.lst s h ϒs ⟨N1.shs r,K8w,ϰX⟩ ϰX P
def OkE.tupF(s:ϰP)(h:ϯV (.sh<|Ą ds))(e:ϒD)(r:϶B F vs ds)(P:ϵw):Q (É p) (ļ p<|Ī vs):=
 h (É p) (upd F p<|Ī vs) _ [] (ϭG<|Ext.allocF s P) (Res.sh<|Ī aU<|r.Î<|(aK.refl F).upd<|s.â P) ϰX
private def N1.of_shs(o:ψ vs xs f)(e:L3.shs xs=some ds):f=[]/\Λ vs ds:=by
 induction xs generalizing vs f ds with
 |nil=>cases o;erw[L3.shs]at e;cases e;show(rfl,õ)
 |cons a0 r0 ih0=>
 cases o with
 |cons h0 r=>
  let i:=λds=>ih0 (ds:=ds) r;cases h0 with
  |sh h=>
   erw[L3.shs]at e;split at e
   .rename_i s q
    cases e;let(rfl,k):=i _ q;show(rfl,ą h k)
   cases e
  |ol _ _=>erw[L3.shs]at e;cases e
  |ot _ _=>erw[L3.shs]at e;cases e
  |od _ _ _=>erw[L3.shs]at e;cases e
  |pl _ _=>erw[L3.shs]at e;cases e
end
def tD(M:Mx)(n:Nat)(f:Fe):TE:=λb H Q=>∃F a p,ϰw F H b a p/\Ĉ p ϸ (f a)
def tA(M:Mx)(n:Nat)(f:Fa):TA:=λb H Q=>∃F a p,ϰw F H b a p/\Ĉ p (OkL M F H Q) (f a)
def tT(M:Mx)(n:Nat)(f:Ft):TT:=λb H Q=>∃F a p,ϰw F H b a p/\Ĉ p ϓI (f a)
def tO(M:Mx)(n:Nat)(f:Fo):TO:=λb H Q=>∃F a p,ϰw F H b a p/\Ĉ p ϓI (f a)
def Ok2(M:Mx)(r:R2)(g:ϰe):Prop:=∀(x y:V)(dx dy:Gc)(F H:Hp)(f:À Ix)(Q:VK),ϰP->ϥ7 F x dx->ϥ7 F y dy->Ĉ f ϸ (ϭv dy)->Ϭn
def Ok1(M:Mx)(r:V->Hp->Ú VK)(g:Gc->Ĭ):Prop:=∀(x:V)(dx:Gc)(F H:Hp)(f:À Ix)(Q:VK),ϰP->ϥ7 F x dx->Ĉ f ϸ ϭv->ϭc
def OkC(M:Mx)(r:À V->Hp->Ú VK)(g:À Gc->Ĭ):Prop:=∀(x:À V)(dx:À Gc)(F H:Hp)(f:À Ix)(Q:VK),ϰP->϶B F x dx->Ĉ f ϸ ϭv->ϭc
def OkS(M:Mx)(r:V->ϱv (Ü Int) (Hp->Ú VK))(g:Gc->ϱv (Ü Int) Ĭ):Prop:=∀(x:V)(i j:Ü Int)(dx:Gc)(F H:Hp)(f:À Ix)(Q:VK),ϰP->ϥ7 F x dx->Ĉ f ϸ (ϭv i j)->r x i j H Q
section
variable{M:Mx}{n:Nat}{σ:St}{H:Hp}{Q:VK}{QB:Bool->Ú Hp}{fa fb:Fe}{ta tb:Ft}
def Xb(h:ď (aa i) σ H Q):ϲn σ H Q:=by
 let(F,j,P,S,p):=h;erw[aa]at p;cases e:j[i]? with
 |none=>rw[e]at p;show ú
 |some o=>
  rw[e]at p;cases o with
  |none=>show ú
  |some d=>
   cases d with
   |sh d=>
    let(v,f,g1,g2,a,b,c,g):=Ϸ6;cases b with|sh r=>show(v,a,ϗn r)
   |_=>show ú
def d_c(hr:∀K F,Ŀ F v d)(h:ď (eC d) σ H Q):tC v σ H Q:=ϮJ (ϗn<|hr _ _)
def Kw(hg:ϩ r g)(h:ď ϫt σ H Q):tOp r (ď fa) (ď fb) σ H Q:=by
 let(F,a,f,S,p):=h;show(F,a,f,S,Ń λx px v c j X e1 R w=>?_);let(G1,D,k):=ϹV w;show(G1,a,f,Ϲ7,Ů (϶b px D) λy py V i b Y e m W=>?_);let(G2,d,K):=m.Ė e W;show ϛp<|Ů (py.ā Ϭg) λz Z=>Z.pre Ϭg
def Zr(hg:Ok1 M r g)(h:ď (eUn g fa) σ H Q):tUn r (ď fa) σ H Q:=by
 let(F,b,f,S,p):=h;show(F,b,f,S,Ń λx px v c a X e1 R w=>?_);let(G1,D,k):=ϹV w;show ϛZ<|Ů ώk ϧQ
def vk(k:Ŀ F v d)(p:Ĉ fp P (truth d)):∃b,v=ϵO/\P b:=by
 cases d with
 |bool b=>cases k;show(b,rfl,p)
 |none=>show p.Ä
 |int _=>show p.Ä
 |str _=>show p.Ä
 |list _=>show p.Ä
 |tuple _=>show p.Ä
 |dict _=>show p.Ä
def K8(h:ϳ8 (aD fa) σ H QB):RL (ď fa) σ H QB:=by
 let(F,c,f,S,p):=h;show(F,c,f,S,Ń λx px v d a X e1 r w=>?_);let(G1,D,k):=ϲN w;let(b,rfl,q):=vk k px;show(b,rfl,q G1 a D)
def d_b(h:ϳ8 (aD fa) σ H QB):tB (ď fa) σ H QB:=K8 h
def VZ(h:ϳ8 (p_ ta tb) σ H QB):Ww (ϳ8 ta) (ϳ8 tb) σ H QB:=by
 let(F,d,a,S,p):=h;show(F,d,a,S,Ń λc P f e e1=>?_);cases c with|true=>rw[Ĝ]at P⊢;show(f,d,a,ϵv,Ϯc)|false=>rw[ϳD]at P⊢;show P f e e1
def Y1(h:ϳ8 (pZ ta tb) σ H QB):tOr (ϳ8 ta) (ϳ8 tb) σ H QB:=by
 let(F,d,a,S,p):=h;show(F,d,a,S,Ń λc P f e e1=>?_);cases c with|true=>rw[Ĝ]at P⊢;show P f e e1|false=>rw[ϳD]at P⊢;show(f,d,a,ϵv,Ϯc)
def Uv(h:ϳ8 (nI ta) σ H QB):Yh (ϳ8 ta) σ H QB:=by let(F,b,P,S,p):=h;show(F,b,P,S,Ń λc C f a e1=>C f a e1)
def WM(h:ď (Ao fa fb) σ H Q):R8 (ď fa) (ď fb) σ H Q:=by
 let(F,a,f,S,p):=h;show(F,a,f,S,Ń Ϯo);let(G1,D,k):=ϲN w;let(b,rfl,q):=vk k<|Ϥo px;show(b,rfl,?_);cases b with|true=>rw[Ĝ]at q⊢;show(G1,a,f,Ϲ7,Ů (q.ā D) ϧQ)|false=>rw[ϳD]at q⊢;show ϪD q Ϧt
def Z5(h:ď (eOr fa fb) σ H Q):Xx (ď fa) (ď fb) σ H Q:=by
 let(F,a,f,S,p):=h;show(F,a,f,S,Ń Ϯo);let(G1,D,k):=ϲN w;let(b,rfl,q):=vk k<|Ϥo px;show(b,rfl,?_);cases b with|true=>rw[Ĝ]at q⊢;show ϪD q Ϧt|false=>rw[ϳD]at q⊢;show(G1,a,f,Ϲ7,Ů (q.ā D) ϧQ)
def YF(h:ď (Ap fa) σ H Q):Ri (ď fa) σ H Q:=by
 let(F,a,f,S,p):=h;show(F,a,f,S,Ń Ϯo);let(G1,D,k):=ϲN w;let(b,rfl,q):=vk k<|Ϥo px;show(b,rfl,ϪD q Ϧt)
def Z9(h:ď (eIf ta fa fb) σ H Q):tIf (ϳ8 ta) (ď fa) (ď fb) σ H Q:=by
 let(F,a,f,S,p):=h;show(F,a,f,S,Ń λc P d e e1=>?_);cases c with|true=>rw[Ĝ]at P⊢;show(d,a,f,ϵv,Ϯc)|false=>rw[ϳD]at P⊢;show(d,a,f,ϵv,Ϯc)
def MY(h:ď (Rs fa) σ H Q):ď fa σ H Q:=by
 let(F,a,f,S,p):=h;show(F,a,f,S,Ń (Ϯ9 ?_));let(G1,D,k):=ϲN w;show ϪD px k
def Em(h:flat d=true)(r:Ŀ F v d):Ŀ G v d:=by
 cases r with
 |non=>show Α
 |bl b=>show ϵO
 |int i=>show Ä i
 |str x=>show Ė x
 |lst _ _=>cases h
 |tup _ _=>cases h
 |dct _ _ _=>cases h
def XX(h:ď (pX fa) σ H Q):ď fa σ H Q:=by
 let(F,b,P,S,p):=h;show(H,ώj,[],S.erase,ϬP ϶9 Ϙa);let(f,px):=azIf px
 let(G1,D,k):=ϲN w;show px v F a [] ⟨ϰ3,D.hh,S.same.Å D.hh,Ϸ3⟩ (Res.sh<|Em f k) ϰX
def SN(h:ϳ8 (Gk ta) σ H QB):ϳ8 ta σ H QB:=by
 let(F,a,f,S,p):=h;show(H,erase a,[],S.erase,ϬP (show Ĉ f _ (ta<|erase a)from p) λb P d c e1=>?_);show P F c ⟨ϰ3,e1.hh,ϚI,Ϸ3⟩
def SS(h:ϴP ai σ H QL):xg σ H QL:=ϮJ (p [] F H [] ϯb ResL.nil ϰX)
def QZ(h:ϴP (ϬG al) σ H QL):iA (ď fa) (ϴP al) σ H QL:=by
 let(F,b,P,S,p):=h;show(F,b,P,S,Ń λx px v c e X e1 r w=>?_);show(c,b,P,ϵv,Ů (϶b px e1) λj s V i d f g R W=>?_);show s (v::V) i d (X++f) (ϭn g) (ResL.cons (r.ā g) R λa m q=>?_) ϲK
 .let(o,z):=r.Þ a m
  rw[W a q]at z;cases z
 rcases K9Y.mp m with m|m
 .show ϤH
 show ώB<|W a m
def lj(h:k<=Tk):k<=sizeLine:=K9C h Ý
def zH(h:k<Tk):k<sizeLine:=K9P h Ý
def XI(h:ď (bO al) σ H Q):WI (ϴP al) σ H Q:=by
 let(F,b,f,S,p):=h;show(F,b,f,S,Ń λX px s c d x e1 r w=>?_);let(l,px):=azIf px
 show(Ô r.own.í (lj l),λa A=>OkE.lst e1.fh px e1 r w A)
private def WD(h:ď (d_ al) σ H Q):Ob (ϴP al) σ H Q:=by
 let(F,b,f,S,p):=h;show(F,b,f,S,Ń λX px v c d x e1 r w=>?_);let(l,px):=azIf px
 show(Ô r.own.í (lj l),λa A=>?_);erw[mkT]at px;split at px
 .rename_i s q
  let(_,k):=N1.of_shs r.own q;show OkE.tupF e1.fh px e1 k A
 show OkE.tup e1.fh px e1 r w A
def sp3(K:At)(m:Ŏ)(f:Fn):Sp:=λs H Q E=>∃F d,ϰP/\Λ s d/\az όu H [] (OkE όu F H Q) (f d)
def Sb(h:ď (aj f al) σ H Q):ϙZ [] (ϴP al) σ H Q:=by
 let(F,a,P,S,p):=h;show(F,a,P,S,Ń Ϙb);let(G1,D,k):=ϲN w;simp only[K9d];show(G1,ϳf,D.fh,k,ϬP ώk ϧQ)
def Uo(hg:ϦS r g)(h:ď ϔt σ H Q):tCB r (ϴP al) σ H Q:=by
 let(F,b,f,S,p):=h;show(F,b,f,S,Ń λX px s c a x e1 R w=>?_);let(G1,D,k):=ϹV w;show hg s ϳf G1 a f Q D.fh k<|Ů ώk ϧQ
variable{lo hi:Fo}
def OT(h:tO M n iN σ H QO):GD σ H QO:=ϮJ (p F H ϯb)
def P5(h:tO M n (d8 fa) σ H QO):Rm (ď fa) σ H QO:=by
 let(F,b,f,S,p):=h;show(F,b,f,S,Ń Ϙa);let(G1,D,k):=ϲN w;generalize x.er=d at px k;cases d with
 |int i=>cases k;show(i,rfl,px G1 a D)
 |none=>show px.Ä
 |bool _=>show px.Ä
 |str _=>show px.Ä
 |list _=>show px.Ä
 |tuple _=>show px.Ä
 |dict _=>show px.Ä
def aab(hg:OkS M r g)(h:ď (eSl g fa lo hi) σ H Q):tSl r (ď fa) (tO M n lo) (tO M n hi) σ H Q:=by
 let(F,a,f,S,p):=h;show(F,a,f,S,Ń λx px v l m X e1 R w=>?_);let(G1,D,k):=ϹV w;show(G1,a,f,Ϲ7,Ů (϶b px D) λi pi b o E=>?_);show(b,a,f,(Ϲ7).ext E,Ů (϶b pi<|D.Å E) λj P c d G=>?_);let e:=ĉ (D.Å E) G;show ϛk<|Ů (P.ā e) λz Z=>Z.pre e
end
def fO(M:Mx)(n:Nat)(F H:Hp)(f:À Ix)(D:Ends):Ú Out|.nx ρ=>∀a b h p,ϰw b h a ρ p->ż f b h p->Ϥu h|.bk ρ=>∀a b h p,ϰw b h a ρ p->ż f b h p->D.bk a h|.ct ρ=>∀a b h p,ϰw b h a ρ p->ż f b h p->D.ct a h|.rt x=>∀v b h X,aK b h->ϒC x X->ż f b h X->D.rt v h
def tS(M:Mx)(n:Nat)(f:Fs):TS:=λD b H=>∃F a p,ϰw F H b a p/\Ĉ p (ϳd p D) (f a)
def OkG(M:Mx)(n:Nat)(is:Ò)(F H:Hp)(f:À Ix)(d:St)(Q:St->Ú Hp)(c:Env):Prop:=
 ∀a b h p,ϰw b h a c p->ż f b h p->(∀j,j∉is->a[j]?=d[j]?)->Q a h
def tG(M:Mx)(n:Nat)(is:Ò)(f:Fg):TG:=λv c H Q=>∃F b p x X,ϰw F H c b p/\Res M.K F H v x X/\(∀a∈X,a∉p)/\Ĉ (p++X) (ϚJ (p++X) c Q) (f x b)
def tGs(M:Mx)(n:Nat)(is:Ò)(f:Fgs):TGs:=λs c H Q=>∃F b p X x,ϰw F H c b p/\ϻ7 M.K s X x/\(∀a∈x,a∉p)/\Ĉ (p++x) (ϚJ (p++x) c Q) (f X b)
section
variable{M:Mx}
def fO.stp(s:ż fp F1 H1 fp1)(h:ϳd fp D o):Ϩ7 F1 H1 fp1 D o:=by
 cases o with|nx ρ=>show Ϗv|bk ρ=>show Ϗv|ct ρ=>show Ϗv|rt x=>exactλv f e fx a b c=>h v f e fx a b ϓ8
def PostS.stp(s:ż fp F1 H1 fp1)(h:Ĉ fp (ϳd fp D) r):ϓH (Ϩ7 F1 H1 fp1 D) r:=Ů (h.ē s) λo j=>j.ē s
def Ext.stpN(e:Ϛ F1 H1)(w:∀a∈fx,϶n):ż fp F1 H1 (fp++fx):=
 (ϕ8 (λa m=>ϵg Ð (λm=>Ø ϤH)))
def Stp.sub(s:ż fp F1 H1 fp1)(h:∀a∈fp2,a∈fp1):ż fp F1 H1 fp2:=⟨s.ff,s.keep,ϰW (ϔb<|h a m),s.nw⟩
def TC(h:Ϭ sNx):Rq D σ H:=ϮJ (p σ F H f S Stp.refl)
def Ws(h:Ϭ (ao f g)):XW (ϻ5 f) (ϻ5 g) D σ H:=by
 let(F,a,c,S,p):=h;show(F,a,c,S,Ń ϨA);cases o with|nx ρ1=>show λd b e P s T=>⟨b,ρ1,P,s,ϓJ po⟩|bk a=>show po|ct a=>show po|rt x=>show po
def Rj(h:Ϭ Ju):Bi D σ H:=by let(F,a,f,S,p):=h;show p
def ZV(h:Ϭ (sIf t f g)):YB (ϳ8 t) (ϻ5 f) (ϻ5 g) D σ H:=by
 let(F,b,a,S,p):=h;show(F,b,a,S,Ń λc P d e e1=>?_);cases c with|true=>rw[Ĝ]at P⊢;show(d,b,a,ϵv,ϑx P)|false=>rw[ϳD]at P⊢;show(d,b,a,ϵv,ϑx P)
def SD(h:Ϭ (AF a)):wN (ď a) D σ H:=by let(F,d,f,S,p):=h;show(F,d,f,S,Ń (Ϯ9 (px σ c b f ϵv e1.ē)))
def WT(h:Ϭ (bF a)):J4 (ď a) D σ H:=by let(F,d,f,S,p):=h;show(F,d,f,S,Ń (Ϯ9 (Ϝw<|(e1.stpN w).sub λa m=>Τ m)))
def Si(h:Ϭ (dB i)):J4 ϲn D σ H:=by
 let(F,g,P,S,p):=h;erw[dB]at p;let(x,e,p):=azS p
 let(v,f,g1,g2,b,c,rfl,d):=Ϸ6;let sub:π (a∈϶d):=ϰW (Τ<|ϰA m);show(v,b,p v F H f S.Î ⟨c,?_,ϰW (Ϸ8 ϵz)⟩<|Stp.refl.sub sub);let nd:=S.nd;simp only[K9T]at nd;show nd.2.1.1
def Rc(h:Ϭ (K_ a g)):ϭC (ď a) (ϫM g):=by
 let(F,d,fp,S,p):=h;show(F,d,fp,S,Ń λx px v i t X e1 r w=>?_);let T:=e1.stpN (fp:=fp) w;show(i,d,fp,x,X,ϵv,r,λa m q=>?_,Ů ((Ϥo px).stp T) λl b c e j f s k x=>b c e j f s<|T.trans k);let(o,z):=S.Þ a q;rw[ϤH]at z;cases z
def NQ(hi:i<n)(h:tG M n [i] (K2 i) v σ H Q):Ϫo v σ H Q:=by
 let(F,b,P,x,X,S,r,d,p):=h;let(f,s,sub):=S.ß hi r d;show p _ F H f s ⟨ϰ3,ϒ1,λa m=>Ð<|K9Y.ó ϵz,ϭs z⟩ ϳo;let e:i≠j:=ϧ4 (J Û)
 rw[K9E e]
def WE(h:ύ6 [] bB vs σ H Q):Yg vs σ H Q:=by
 let(F,c,f,X,b,S,r,d,p):=h;cases X with
 |nil=>
  cases r.own with|nil=>show(rfl,p σ F H f S (Stp.refl.sub λa m=>ϰA m) ϥx)
 |cons x X=>show p.Ä
def SW(h:ύ6 (is++js) (ar g gs) vs σ H Q):RO (ϫM g) (ύ6 js gs) vs σ H Q:=by
 let(F,C,b,X,Z,S,r,d,p):=h;cases X with
 |nil=>show p.Ä
 |cons x X=>
  let(ro,U,R):=r;cases ro with
  |@cons v _ f vs _ g' h1 h2=>
   let nd:=U;simp only[K9T]at nd;show(v,vs,rfl,F,C,b,x,f,S,(h1,nd.1,ϰW (R a<|ϰA m)),ϰW (d a<|ϰA m),?_);let O:Ĉ ϒt _ (ó (g x C) λc=>gs X c):=p;let s0:ż ϒt F H (b++f):=Stp.refl.sub λa m=>by
    simp only[K9Y]at m⊢;rcases m with m|m
    .show Ð m
    show Ø<|Ð m
   show Ů ((az.ï O).stp s0) λl T Y u y P L s t1=>?_;let G:∀a∈g',a∉b++f:=λa m q=>by
    rcases K9Y.mp q with q|q
    .show d a (Τ m) q
    show nd.2.2 a q a m rfl
   let D:∀a∈g',Ϩz:=λa m=>let⟨_,q⟩:=h2.ö a m;Ϸs
   let N:∀a∈g',∀o,H a=Ö->y a=Ö:=ϵH (Ϩl q<|G a m);let out:∀a∈g',a∉P:=ϰW (s.out (D a m)<|G a m)
   let B:ż ϒt u y (P++g'):=⟨s.ff,λa o q m=>Ϩl q (λz=>m ϕH),λa m=>by
    rcases K9Y.mp m with m|m
    .rcases s.new a m with z|z
     .show Ð ϕH
     show Ø z
    show Ð ϲF,λa q m z=>s.nw a q (λw=>m (by simp only[K9Y]at w⊢;rcases w with w|w<;>simp[w])) z⟩
   show(u,l,P,X,g',L,(h2.á s.ff N,nd.2.1,λa m=>ϛ9<|R a<|Τ m),out,Ů (T.ē B) λc k t E I e K V W=>k t E I e K (B.trans V) λj A=>?_);let J:j∉is:=λz=>A<|ϰA z;let i:j∉js:=λz=>A<|Τ z;rw[W j i,t1 j J]
private def Yf(h:ϫM (gTp k gs) v σ H Q):X7 M.K k (ύ6 is gs) v σ H Q:=by
 let(F,i,P,x,y,S,r,d,p):=h;erw[gTp]at p;split at p
 .rename_i X
  let(ro,U,R):=r;cases ro with
  |@ot a vs _ f h1 h2=>
   let(l,p):=ϱO
   let nd:=K8k.mp U;let s0:ż (P++(a::f)) F H (P++f):=Stp.refl.sub λb m=>by simp only[K9Y,K8v]at m⊢;rcases m with m|m<;>simp[m]
   show(a,vs,rfl,SqT.of h1,Ϩb h2.í,F,i,P,X,f,S,(h2,nd.2,λb m=>R b<|ě m),λb m=>d b<|ě m,Ů (p.ē s0) λw e g j o c t u T=>e g j o c t (s0.Å u) T)
 .rename_i s
  let(ro,U,R):=r;cases ro with
  |sh q=>
   let(l,p):=ϱO
   cases q with|@tup a vs _ h1 h2=>show(a,vs,rfl,SqT.of<|S.Î _ _ h1,Ϩb ϴQ,F,i,P,ϫz,[],S,(N1.shs h2,K8w,λ_ m=>ϥw),(λ_ m=>ϥw),p)
 cases p
def Kc(hi:i<n)(h:Ϭ (ax i a)):ϭC (ď a) Ϫo:=by let h':Ϭ (K_ a<|K2 i):=h;let(F,d,f,S,p):=Rc (is:=[i]) h';show(F,d,f,S,p.á (Ϯ9 (NQ hi<|px v c b X e1 r w)))
private def WQ(h:Ϭ (pq i f)):ϻ5 f D σ H:=by
 let(F,u,P,S,p):=h;erw[pq,Ox]at p;split at p
 .rename_i x e
  let(v,f,g1,g2,d,k,rfl,l):=Ϸ6;let c:π Ϸf:=λa m=>Ϸ8<|Τ<|ϰA m;let o:=l ϸb H ϦH (λ_ _ _ q=>q) v Ϭb [] (.sh<|k.Ė ϦH (ϵH (Ô (pI m) q)));let s:Ϥ6 ĥ=σ:=by
   apply K9K;ext j;cases J:i=j
   .subst J
    rw[d,K9I (ZB.mp d).1]
   rw[K9E J]
  rw[s]at o;let nd:=S.nd;simp only[K9T,K9Y]at nd;obtain⟨N,⟨y,r,t⟩,g⟩:=nd;let sub:∀a∈ϵu [],a∈϶d/\϶L:=λa m=>by
   simp only[K9B,K9Y]at m⊢;rcases m with m|m
   .exact(Ð m,λz=>g a m a (Ð z) rfl)
   show(Ø<|Ø m,λz=>t a z a m rfl)
  let T:ż ϶d ϸb H (ϵu []):=⟨ϦH,λ_ _ h _=>h,ϰW (Ð (ϵz).1),λa h m z=>by
   rw[gO λw=>m<|Τ<|ϰA w]
   show z⟩
  show(ϸb,_,_,(x8 S.Î,o,?_,ϲK,Ô K8z S.í),ϓJ p)
  .simp only[K9B,K9T]
   show(N,r,λa A b B=>g a A b<|Ø B)
  rw[gO (ϵz).2];show Ϸ8 (ϵz).1
 show(F,u,P,S,p)
end
def Walks(K:At)(F:Hp)(J:It)(s:À Gc):Prop:=∀i G H,ϸW G->aK G H->
 (∀d,ϵT=ϰN->J.go i H/\∀x h,ϓB h->∃g,Ext G H g h/\Ŀ g x d)/\(s.À<=i->ώf H)
def OkI(K:At)(F H:Hp)(R:It->Ú Hp)(d:À Gc):Prop:=∀J b h,Ϛ b h->Walks K b J d->R J h
def tI(M:Mx)(n:Nat)(f:Fi):TI:=λb H R=>∃F a p,ϰw F H b a p/\Ĉ p (OkI M.K F H R) (f a)
section
variable{M:Mx}
def TX(h:ϻj (bY a)):ϓ3 (ď a) σ H R':=by
 let(F,e,f,S,p):=h;show(F,e,f,S,Ń λx px v g b o e1 r W=>?_);let(G1,D,k):=ϲN W;generalize x.er=d at px k;cases k with
 |@lst a vs ds h1 h2=>
  show(a,rfl,(vs,ϹI D.fh),px _ G1 b D λi G j s w=>?_);let q:=(ϹI ϫp);show(λd c=>?_,λl=>⟨vs,q,Ϩb ϴQ⟩);let(u,U,L):=ϸL h2 c;show((vs,u,q,U),λx m y=>?_);let(rfl,y):=y;let X:=y vs q;rw[U]at X;cases X;show(G,ό6,L.Î s)
 |non=>show px.Ä
 |bl _=>show px.Ä
 |int _=>show px.Ä
 |str _=>show px.Ä
 |dct _ _ _=>show px.Ä
 |tup _ _=>show px.Ä
def WX(h:ϻj (iTp a)):Yr M.K (ď a) σ H R':=by
 let(F,g,f,S,p):=h;show(F,g,f,S,Ń λx px v j c o e1 r W=>?_);let(G1,D,k):=ϲN W;generalize x.er=d at px k;cases k with
 |@tup a vs ds h1 h2=>
  show(a,rfl,(vs,SqT.of<|D.fh _ _ h1),px _ G1 c D λi G b s w=>?_);let q:SqT M.K b a vs:=SqT.of<|ϫp _ _ h1;show(λd e=>?_,λl=>⟨vs,q,Ϩb ϴQ⟩);let(u,U,L):=ϸL h2 e;show((vs,u,q,U),λx m y=>?_);let(rfl,y):=y;let X:=y vs q;rw[U]at X;cases X;show(G,ό6,L.Î s)
 |non=>show px.Ä
 |bl _=>show px.Ä
 |int _=>show px.Ä
 |str _=>show px.Ä
 |dct _ _ _=>show px.Ä
 |lst _ _=>show px.Ä
def z8(lo:Int)(k:Nat):Walks K F (Itr lo k) (ky lo k):=by
 ext i G H S w;erw[ky];show(ύD,ϖX);rw[N2]at h;let(j,J,rfl):=Ϲ8;let(a,b):=ϩz;let f:i=j:=by simpa using b
 subst f;show(ϗr,λx c y=>?_);let(rfl,rfl):=y;show(G,ό6,Ä _)
def iw{i:Int}:aE i=true↔ -ϴ<=i/\i<ϴ:=ϭW ϷM
def Zx(h:ϻj (iR1 a)):Q8 (ϴP<|ae a ai) σ H R':=by
 let(F,e,f,S,p):=h;show(F,e,f,S,?_);let T:=϶9;change Ĉ f _ (ó (a e) λx=>R.ok [x]);cases ha:a e with
 |bad=>rw[ha]at T;show T
 |ex c=>rw[ha]at T;show T
 |ok x=>
  rw[ha]at T;ext V i g X e1 r w;let(G1,D,k):=ϲN w;cases k with
  |@cons v _ _ _ k k2=>
   cases k2;let p2:Ĉ f Ϻ8 (match x.er with| .int j=>Ë (ϵQ aE) ϧq Î|_=>Î):=T;generalize x.er=d at p2 k;cases k with
   |int j=>
    cases b:aE j=true
    .let s:=iw.mp b
     let P:Ĉ f Ϻ8 (Ë (ϵQ aE) ϧq Î):=p2;rw[Os b]at P;show(j,rfl,s.1,s.2,ϗ0<|z8 _ _)
    let P:Ĉ f Ϻ8 (Ë (ϵQ aE) ϧq Î):=p2;rw[P3 b]at P;cases P
   |non=>show p2.Ä
   |bl _=>show p2.Ä
   |str _=>show p2.Ä
   |dct _ _ _=>show p2.Ä
   |lst _ _=>show p2.Ä
   |tup _ _=>show p2.Ä
theorem EB{g:Gc->ϤT (À Gc)}{q:À V->Ú Hp}(p:Ĉ fp Ϻ8 (ó ϳ λx=>ó ϵS λy=>Ϩk))(k:∀v w dx dy G h,Ϛ G h->ϥ7 G v dx->ϥ7 G w dy->Ĉ fp Ϻ8 (ϭv dy)->q [v,w] h):
  Ĉ fp (OkL M F H q) (ϑQ ρ):=by
 change Ĉ fp _ (ó ϳ λx=>(ó ϵS λy=>R.ok [y]).bind λX=>R.ok ϦF);let T:=϶9;cases ha:a ρ with
 |bad=>rw[ha]at T;show T
 |ex c=>rw[ha]at T;show T
 |ok x=>
  rw[ha]at T;let p2:Ĉ fp _ ϵS:=az.ï T;change Ĉ fp _ ((ó ϵS λy=>R.ok [y]).bind λX=>R.ok ϦF);cases hb:b ρ with
  |bad=>rw[hb]at p2;show p2
  |ex c=>rw[hb]at p2;show p2
  |ok y=>
   rw[hb]at p2;ext s f h d e1 r W;let(G1,D,K):=ϲN W;cases K with
   |@cons v _ _ _ K k2=>
    cases k2 with|@cons w _ _ _ k2 k3=>cases k3;show k v w x.er y.er G1 h D K k2 p2
def r2F(x y:Gc):R (À Gc):=match x,y with
 |.int i,.int j=>Ë (ϻg aE) (Ħ (ky i (ĩ (j-i)))) Î
 |_,_=>Î
def ZX(h:ϻj (iR2 a b)):RB (ϴP ϑQ) σ H R':=by
 let(F,k,P,S,p):=h;show(F,k,P,S,ϙi r2F iR2 (λv w dx dy G f e r R q=>?_));cases r with
 |int i=>
  cases R with
  |int j=>
   erw[r2F]at q;dsimp only at q;let(s,q):=azIf q
   rw[K9U]at s;let c:=iw.mp s.1;let d:=iw.mp s.2;show(i,j,rfl,(c.1,c.2,d.1,d.2),q _ G f e<|z8 _ _)
  |_=>show ϳm q
 |_=>show ϳm q
def kY{s:À Gc}{i:Nat}{d:Gc}(h:á (fC s)=ϰN):∃e,ϵT=Ϲ5/\d=Ą [Ä i,e]:=by erw[fC]at h;rw[N2]at h;let(p,H,rfl):=Ϲ8;rw[K8S]at H;let(e,he,rfl):=XL.mp H;show(e,he,Û)
def T9(h:ϻj (iEn a)):R_ M.K (ϴP<|ae a ai) σ H R':=by
 let(F,b,f,S,p):=h;show(F,b,f,S,?_);let P:=϶9;change Ĉ f _ (ι λx=>R.ok [x]);cases ha:a b with
 |bad=>rw[ha]at P;show P
 |ex c=>rw[ha]at P;show P
 |ok x=>
  rw[ha]at P;ext s B m I e1 A W;let(G1,D,k):=A.Ė e1 W;cases k with
  |@cons v _ _ _ k k2=>
   cases k2;let p2:Ĉ f Ϻ8 (match x.er with| .list ds=>Ħ (fC ds)|_=>Î):=P;generalize x.er=d at p2 k;cases k with
   |@lst a s ds h1 h2=>
    let r:Ϻ8 (fC ds):=p2;show(a,rfl,(s,ϹI D.fh),r _ G1 m D λi G C g w=>?_);let q:=(ϹI (g.Å w));show(λd o=>?_,λl=>⟨s,q,by rw[ϴQ];erw[fC]at l;simpa using l⟩);let(e,he,rfl):=kY o;let(u,U,L):=ϸL h2 he;show((s,u,q,U),λx E y=>?_);let(T,z,t,rfl,rfl,Z):=y;let X:=Z s q;rw[U]at X;cases X;show(ϫW _,Ext.allocF w t,Ī aU<|ą (Ä _)<|ą ((L.Î g).same<|ϑR<|w.â t) õ)
   |int j=>show p2.Ä
   |non=>show p2.Ä
   |bl _=>show p2.Ä
   |str _=>show p2.Ä
   |dct _ _ _=>show p2.Ä
   |tup _ _=>show p2.Ä
def O2(x y:Gc):R (À Gc):=match x,y with
 |.list ds,.list es=>.ok ύX
 |_,_=>Î
def rA{s e:À Gc}{i:Nat}{d:Gc}(h:á (gq s e)=ϰN):∃x y,ϵT=Ď/\e[i]?=ϰO/\d=Ą ϶K:=by erw[gq]at h;rw[N2]at h;let(p,H,rfl):=Ϲ8;rw[Zan]at H;show(p.1,p.2,H.1,H.2,rfl)
private def WG(h:ϻj (iZp a b)):Xr M.K (ϴP ϑQ) σ H R':=by
 let(F,B,P,S,p):=h;show(F,B,P,S,ϙi O2 iZp (λv w dx dy G1 o D V R q=>?_));erw[O2]at q;split at q
 .rename_i J K
  cases V with
  |@lst a vs _ h1 h2=>
   cases R with
   |@lst b ws _ h3 h4=>
    show(a,b,rfl,(vs,ϹI D.fh),(ws,(h3.Î D.fh).sq),q _ G1 o D λi G C s c=>?_);let e:=(ϹI ϓ8);let Q:=(h3.Î ϓ8).sq;show(λd t=>?_,λl=>⟨vs,ws,e,Q,?_⟩)
    .let(x,y,X,Y,rfl):=rA t
     let(u,f,L):=ϸL h2 X;let(m,U,r):=ϸL h4 Y;show((vs,u,ws,m,e,f,Q,U),λx I y=>?_);let(T,z,N,k,rfl,rfl,A,Z):=y;let e1:=A vs e;let E:=Z ws Q;rw[f]at e1;rw[U]at E;cases e1;cases E;let j:aK G (ϫW<|Ī [u,m]):=ϑR<|c.â k;show(ϫW _,Ext.allocF c k,Ī aU<|ą (ϭa L.Î j)<|ą (ϭa r.Î j) õ)
    rw[ϴQ,Ϭq];erw[gq]at l;rw[K0,Zao]at l;lia
 show q.Ä
def WB{it:Fi}(h:Ϭ (bZ it g b)):XZ (tI M n it) (ϫM g) (ϻ5 b) D σ H:=by
 let(F,V,R,S,p):=h;show(F,V,R,S,Ń λs pd J I H1 e1 wk=>?_);show(λi m A k=>ϒp s.À (∃l j f,ϰw l k A j f/\aK I l/\az M k f (Ϩ7 l k f D) (ϴf ύs j)),(s.À,Û,ϰS,I,V,R,ϵv,ϰ3,ϑx pd),?_);ext i m A k ⟨rfl,hi,l,j,f,S',s',p'⟩;let(w1,w2):=wk i l k s' S'.Î;cases L:i<s.À
 .obtain⟨d,T⟩:∃d,ϵT=ϰN:=⟨s[i],ό3⟩
  let(g1,g2):=w1 d T;let e:ύs=d::ϧ2:=by
   rw[K8N L];congr 1;let:=(ZB.mp T).2;show this
  rw[e]at p';show Ø ⟨g1,λG u=>∃K c w,ϰw K u G c w/\aK I K/\az M u w (Ϩ7 K u w D) (ϴf ϧ2 c),λG u q=>⟨s.À-(i+1),Á,rfl,L,q⟩,λx u y=>?_⟩
  let(G2,Q,Z):=g2 x u y;let p2:az M k f _ (ó (g Ř j) λz=>ó (b z) λo=>match o with
   |.nx c=>ϴf ϧ2 c
   |.ct c=>ϴf ϧ2 c
   |.bk c=>.ok<|.nx c
   |.rt x=>ϴK):=p'
  let U:Stp l k f G2 u (f++[]):=Ô K9d Q.ē
  show(G2,j,f,Ř,[],S'.ā Q,Res.sh Z,ϰX,Ů ((Ϥo p2).stp U) λz Y σ3 W H3 O X s3 x=>?_);let s4:=U.Å s3;show(W,z,O,X,Ů ((az.ï Y).stp s4) ϨA);cases o with|nx c=>show ϒq ⟨t,c,P,E,ĉ (s'.Å s4.ff) N.ff,PostS.stp όb po⟩|ct c=>show ϒq ⟨t,c,P,E,ĉ (s'.Å s4.ff) N.ff,PostS.stp όb po⟩|bk c=>show ϒq (po B t C P E όb)|rt x=>exactλv t C fx a r N=>po v t C fx a r όb
 let e:i=s.À:=Á
 subst e;show Ð ⟨w2 ì,?_⟩;rw[List.drop_length]at p';show p' A l k f S' Stp.refl
private def Od(h:Ϭ (dX t b)):Kt (ϳ8 t) (ϻ5 b) D σ H:=by
 let(F,I,G,S,p):=h;erw[dX]at p;split at p
 .rename_i J
  show(λm i j=>∃s e f,ϰw s j i e f/\az M j f (Ϩ7 s j f D) (ϲT m e),(_,F,I,G,S,p),?_);ext m i j ⟨s,e,f,S',p'⟩;cases m with
  |zero=>show p'.Ä
  |succ m=>
   let p2:az M j f _ (ó (t e) λc=>if ϱt then ó (b e) λo=>match o with
    |.nx d=>ϲT m d
    |.ct d=>ϲT m d
    |.bk d=>.ok<|.nx d
    |.rt x=>ϴK else Ħ (.nx e)):=p'
   show(s,e,f,S',Ů (Ϥo p2) λc C y A e1=>?_);cases c with
   |true=>
    rw[Ĝ]at C⊢;show(λl u=>∃z d w,ϰw z u l d w/\az M u w (Ϩ7 z u w D) (ϲT m d),λl u q=>⟨m,ϩW,q⟩,y,e,f,S'.ā e1,Ů ((az.ï C).ext e1) ϨA);cases o with|nx d=>show ϕF|ct d=>show ϕF|bk d=>show λB g k P E N=>po B g k P E Ϛ4|rt x=>exactλv g k fx a r N=>po v g k fx a r Ϛ4
   |false=>rw[ϳD]at C⊢;show C i y A f (S'.ā e1) e1.ē
 cases p
end
section
variable{M:Mx}{F H F1 H1:Hp}{ρ:Env}{fp:À Ix}{D:Ends}
def Z1.nones:∀(k:Nat){b:St}{a:Env}{g:À Ix},ϰy b a g->ϰy (ϳX none++b) (ϳX none++a) g|0,_,_,_,h=>h|k+1,_,_,_,h=>Ε K99 K99 (.no<|Z1.nones k h)
def Z1.one(S:ϰy σ ρ fp)(i:Nat):∃f,(π ϩ2)/\(fp.Í->f.Í)/\∀{c:St}{b:Env}{g:À Ix},ϰy c b g->ϰy ((á σ).join::c) ((á ρ).join::b) Ϧp:=by
 cases e:ρ[i]? with
 |none=>show([],ϰX,Ţ K8w,λh=>.no h)
 |some o=>
  cases o with
  |none=>show([],ϰX,Ţ K8w,λh=>.no h)
  |some x=>
   let(v,f,g1,g2,d,j,rfl,k):=S.at e;show(f,ϰW (Τ<|ϰA m),λnd=>?_,λh=>?_)
   .simp only[K9T]at nd
    show nd.2.1.1
   rw[d];show .yes j h
def shE(a:Env):Env:=a.Ç λo=>match o with
 |some (.sh d)=>Â Ř
 |_=>none
def Z1.shE(S:ϰy σ ρ g):ϰy σ (L3.shE ρ) []:=by
 induction S with
 |nil=>show õ
 |no r ih=>show Ϧu
 |yes h r ih=>
  cases h with|sh h=>show ϖJ ih|ol _ _=>show Ϧu|ot _ _=>show Ϧu|od _ _ _=>show Ϧu|pl _ _=>show Ϧu
theorem Z1.pick3:∀(is:Ò){c:St}{b:Env},ϰy c b []->ϰy (ϒw<|c[i]?) (ϒw ϵU) []
 |[],_,_,_=>õ
 |i::is,_,_,S=>by
  let(f,h,_,d):=S.one i;let e:f=[]:=by
   cases f with|nil=>rfl|cons u f=>show ĭ (h u K9z) Û
  subst e;show d<|Z1.pick3 is S
theorem DC:∀(k:Nat){d c:St},c.À=k+d.À->(∀j,k<=j->c[j]?=ę (ϳX none++d))->mH (ϳX none++d) c
 |0,d,c,hl,h=>by
  let e:c=d:=K9K λj=>ť (h j ϰS)
  subst e;change mH c c
  clear h hl
  induction c with
  |nil=>trivial
  |cons x r ih=>
   cases x with|none=>show ih|some v=>show(rfl,ih)
 |k+1,d,[],hl,h=>Ϛg
 |k+1,d,x::c,hl,h=>by
  rw[K99];show DC k Ϛg ϳo;let:=h (j+1) Á;simpa[K99]using this
def OX(a:Env):∀(is:Ò),(ϒw<|á<|shE a)=is.Ç λi=>Cd ϴp:=by
 induction _ with
 |nil=>show rfl
 |cons i is N3=>
  rw[K9w,K9w,N3];congr 1;erw[shE];rw[N2];cases a[i]? with
  |none=>rfl
  |some o=>
   cases o with|none=>rfl|some x=>cases x<;>rfl
def Stt.block(S:Ϥ0)(k:Nat)(outs:À ϴM):Stt K ϯn F H (slots k outs σ) (sl3 k (ϵC ϔ) ρ) []:=by
 show(S.Î,?_,K8w,ϰX,Ϩc sl3);let h:=Z1.nones k (Z1.pick3 (ϵC ϔ) S.own.shE);rw[OX,S1]at h;show h
def CH(p:Ĉ fp PP (ó (ó (Jc r) g) k)):∃a,r=.ok a/\Ĉ fp PP (ó (g a) k):=by
 cases r with|ok a=>show(a,rfl,p)|ex c=>show p.Ä|bad=>show p.Ä
def CompI(M:Mx)(F H:Hp)(p:À Ix)(Q:VK)(g:Fg)(t:Ft)(l:Fe)(d:Env)(i e:Hp)(D:Ix)(s:À Gc)(c:À V)(h:Hp):Prop:=
 ∃b X f,h D=Â (ô c)/\b D=none/\Ext i e b h/\ResL M.K b h c X f/\(π<|e a=none/\a≠D)/\Ĉ p ϸ (ó (ϭu l d s X) λX=>ģ X)
theorem MU{it:Fi}(hk:∀j∈is,j<k)(h:ď (aP it g t el k (ϵC ϔ)) σ H Q):
  EF (tI M n it) (tG M ϯn is g) (tT M ϯn t) (tD M ϯn el) k outs σ H Q:=by
 let(F,ρ,U,S,p):=h;show(F,ρ,U,S,Ń λs pd J C H1 e1 wk D I=>?_);let SB:=(ϵv).block k outs;generalize sl3 k (ϵC ϔ) ρ=ρ0 at SB pd;let fD:C D=none:=e1.fh.â I;show(λi m c l=>ϒp s.À (ϖY ύs c l),(s.À,Û,ϰS,C,[],[],aU,fD,ώL e1.fh I,ResL.nil,ϰX,pd),?_);ext i m c l ⟨rfl,hi,F',xs,fx,hacc,fD',e',rx,wx,p'⟩;let S':=SB.ā e';let(w1,w2):=wk i F' l e'.ff e'.fh;cases L:i<s.À
 .obtain⟨d,hd⟩:∃d,ϵT=ϰN:=⟨s[i],ό3⟩
  let(g1,g2):=w1 d hd;let e:ύs=d::ϧ2:=by
   rw[K8N L];congr 1;show(ZB.mp hd).2
  rw[e]at p';let(B,w,p3):=CH p';let(b,hb,P):=CH p3;show Ø ⟨g1,λA r=>ϖY ϧ2 A r,λA r q=>⟨s.À-(i+1),Á,rfl,L,q⟩,λx r y=>?_⟩;let(G2,e2,rx2):=g2 x r y;show(G2,ρ0,[],Ř,[],S'.ā e2,Res.sh rx2,ϰX,?_);rw[w];ext σ3 F3 H3 O X s3 t3;let e3:Ext G2 r F3 H3:=⟨s3.ff,ϦB (s3.ĉ a o q Û),X.same,λa q z=>s3.nw a q Û z⟩
  show(DC k (by rw[X.own.len,X.len];simp) λj hj=>t3 j λz=>Ĳ (hk j z),F3,B,O,X,?_);rw[hb];ext N H4 e4;let E:Ext F' l N H4:=ĉ (e2.Å e3) e4;cases b with
  |true=>
   rw[Ĝ]at P⊢;let(y,hy,K):=CH P;show(N,B,O,X.ā e4,?_);rw[hy];ext v G T Y e5 Z w5;cases W:xs.À<Tk
   .rw[Os W]at K
    let f:=E.Å e5;let V:T D=Â (ô c):=f.hh _ _ hacc;let u:G D=none:=f.nw D (bg hacc) fD';let yD:∀a∈Y,a≠D:=ϰW (by ext rfl;let:=ϴU hacc;rw[w5 _ m]at this;cases this)
    let R:=rx.ā f;show(V,Ô rx.own.í (zH W),G,ϬH,fx++Y,aU,u,(e'.ĭ f.ff,ϦB ?_,ϦB ?_,λa q z=>Ϝl<|e'.nw a q z),(?_,?_,?_),?_,K)
    .rw[aC<|ϲX I]
     show f.hh _ _<|e'.hh _ _ q
    .rw[aC<|ϲX u]
     show e5.fh _ _ q
    .let q1:N1 M.K G (ϙz<|ô<|c++[v]) c xs fx:=R.ü ϰ3 (ϵH (Ô (aC (wx a m).2) q))
     let q2:Own M.K G (ϙz<|ô<|c++[v]) v y Y:=Z.ü ϰ3 (ϵH (Ô (aC<|yD a m) q))
     let q3:=N1.app q1<|N1.cons q2 õ;rw[K9d]at q3;show q3
    .apply Ϧl ⟨rx.nd,Z.nd,λa m b m' z=>?_⟩
     subst z;let(o,q):=rx.Þ a m;let:=ϴU q;rw[w5 a m']at this;cases this
    .intro a m
     rcases K9Y.mp m with m|m
     .show R.fr a m
     show Z.fr a m
    ext a m;rcases K9Y.mp m with m|m
    .show wx a m
    show((e'.Å E).hh.free<|w5 a m,yD a m)
   rw[P3 W]at K;show K.Ä
  |false=>rw[ϳD]at P⊢;show(N,xs,fx,ϴU hacc,E.nw D (bg hacc) fD',e'.Å E,rx.ā E,wx,P)
 let e:i=s.À:=Á
 subst e;rw[List.drop_length]at p';let q:ϸ ϱq:=p';show Ð ⟨w2 ì,q (É D) F' l (D::fx) (ϭn e') ⟨.ol hacc rx.own,K8k.ó ⟨λm=>(wx D m).2 rfl,rx.nd⟩,ϲK⟩ ϲK⟩
 .rcases K8v.mp m with rfl|m
  .show fD'
  show rx.fr a m
 rcases K8v.mp m with rfl|m
 .show e1.þ I
 show ώB (wx a m).1
def Md(o:ψ vs xs f)(e:ϵ xs.all ϻa):ϷJ G H1 vs ϮG []:=by
 induction xs generalizing vs f with
 |nil=>cases o;show õ
 |cons x r0 ih=>
 cases o with
 |cons h r=>
  rw[K80,K9U]at e;rw[K9w];show ą (f:=[]) (g:=[]) (.sh ?_)<|ih r e.2;cases h with
  |sh q=>rw[bc]at e⊢;show Em e.1 q
  |ol _ _=>rw[md]at e;show ĭ (ύ ϫ2 e.1) K9o
  |ot _ _=>rw[M_]at e;show ĭ (ύ ϫ2 e.1) K9o
  |od _ _ _=>rw[RI]at e;show ĭ e.1 (by simp[flat,dD])
  |pl _ _=>rw[Dj]at e;show ĭ (ύ ϫ2 e.1) K9o
def Gp(h:ď (mE fa) σ H Q):ď fa σ H Q:=by
 let(F,i,g,S,p):=h;show(H,erase i,[],S.erase,ϬP ϶9 λx px v j e X e1 r w=>?_);cases x with
 |sh d=>show px.Ä
 |ot xs=>show px.Ä
 |od xs=>show px.Ä
 |pl _ _=>show px.Ä
 |ol xs=>
  let P:Ĉ g ϸ (Ë (ϵ xs.all ϻa) (ģ ϮG) Î):=px;let(c,P):=azIf P
  let(ro,U,R):=r;cases ro with
  |@ol a vs _ f h1 h2=>
   let na:϶n:=w a K9z;show P (É a) F e [a] ⟨ϰ3,e1.hh,ϚI,Ϸ3⟩ ⟨.ol h1<|Md h2 c,Û,ϹO⟩ ϹO
   .let:b=a:=ϲC
    rw[this];show S.Ę na
   let:b=a:=ϲC
   rw[this];show na
end
section
variable{M:Mx}{n:Nat}{F H F1 H1:Hp}{σ:St}{ρ:Env}{fp:À Ix}{D:Ends}{K:At}
def uo{p f q d:À Ix}(h:(p++(f++q)).Nodup)(h':d.Í)(s:∀c∈d,c∈f\/c∉p++(f++q)):(p++(d++q)).Nodup:=by
 simp only[K9T,K9Y]at h s⊢;obtain⟨N,⟨n,i,j⟩,g⟩:=h;show(N,(h',i,ϴJ ?_),ϴJ ?_)
 .subst e
  rcases s a A with z|z
  .show j a z a B rfl
  show z<|Ø<|Ø B
 subst e;rcases B with B|B
 .rcases s a B with z|z
  .show g a A a (Ð z) rfl
  show z<|Ð A
 show g a A a (Ø B) rfl
theorem N1.at:∀{S:À V}{X:À OD}{g:À Ix}{i:Nat}{x:OD},ψ S X g->á X=Ď->
  ∃v f g1 g2,S[i]?=ĥ/\ϻb/\g=϶d/\∀(b c:Hp),ϸW b->(ύx<|∀o,H a=Ö->c a=Ö)->∀j x' d,ϴq b c j x' d->ϷJ b c (S.ß i j) (X.ß i x') ϯU
 |_,_,_,_,_,.nil,e=>by simp at e
 |_,_,_,0,x,.cons (f:=f) (g:=g) h r,e=>by
  simp at e;subst e;show(_,f,[],g,rfl,h,rfl,λb c s k j x' d o=>Ϝr<|r.á s k)
 |_,_,_,i+1,x,.cons (f:=f0) h r,e=>by
  let(v,f,g1,g2,l,n,p,q):=N1.at (i:=i) r ϵh;show(v,f,f0++g1,g2,ϑo,n,by rw[p,K9M],λb c s k j x' d o=>?_);rw[K9M];show ą (h.á s (ϲQ (ϰA<|ϰA m)))<|q b c s (ϲQ ϤU) j x' d o
def vj(h:á σ=Â ĥ):Ϥ6 ĥ=σ:=by
 apply K9K;ext j;cases J:i=j
 .subst J
  rw[h,K9I ϲG]
 rw[K9E J]
def Put(K:At)(F H:Hp)(u:V)(f:À Ix)(b h:Hp)(y:OD)(d:À Ix):Prop:=ϴq b h u y d/\d.Í/\ϙt/\ż f b h d
def SG{b:Ix}{kd:À V->HO}{mk:À OD->OD}{ws:À V}{S:À OD}{g:À Ix}{k:Nat}{y:OD}(B:H b=Â (kd ws))(W:ψ ws S g)(nd:(b::g).Nodup)(fr:∀a∈b::g,Ϸf)(G:S[k]?=ϰO)
  (M:∀d h v x g',h b=Â (kd v)->ϷJ d h v x g'->ϴq d h (É b) (mk x) (b::g')):
  ∃u J,ws[k]?=ķ/\Res K F H u y J/\b∉J/\∀d h Y f,Put K F H u J d h Y f->∃C,Put K F H (É b) (b::g) d h (mk<|S.ß k Y) C:=by
 let(u,J,e,i,b1,t,rfl,A):=W.at G;let N:=nd;rw[K8k]at nd;let D:((b::e)++(J++i)).Nodup:=by simpa using N
 let n:=nd.2;simp only[K9T,K9Y]at n;obtain⟨Q,⟨L,R,O⟩,P⟩:=n;let bn:b∉J:=λz=>nd.1 (Ϯ z);show(u,J,b1,(t,L,ϰW (fr a ϲF)),bn,λd h Y f zq=>?_);let(o,nf,E,T):=zq;let out:∀a∈e++i,a∉J:=λa m z=>by
  rcases K9Y.mp m with m|m
  .show P a m a (Ð z) rfl
  show O a z a m rfl
 let own:=A d h T.ff (ϵH<|ϻc<|ϩn m) u Y f o;let s:ws.ß k u=ws:=by
  apply K9K;ext j;cases r:k=j
  .subst r
   rw[b1,K9I (ϱb b1)]
  rw[K9E r]
 rw[s]at own;let I:∀c∈f,c∈J\/c∉(b::e)++(J++i):=λc m=>by
  rcases T.new c m with z|z
  .show Ð z
  show Ø λw=>?_;let p:c=b\/c∈e++(J++i):=by simpa using w
  rcases p with rfl|p
  .rw[z]at B;cases B
  let(o,q):=W.ö c p;rw[z]at q;cases q
 show(b::(e++(f++i)),M _ _ _ _ _ (T.ĉ b _ B bn) own,by let:=uo D nf I;simpa using this,ϲK,(T.ff,λa o q m=>ϻc (λz=>m (Ϯ z)),ϲK,ϕ9))
 .let go:(a=b\/a∈e++i)->d a=none:=λm=>by
   rcases m with rfl|m
   .show Ϧv (bg B) bn (fr a Û)
   let(o,q):=W.ö a ϤU;show Ϧv Ϸs (ϩn m) (fr a ϤU)
  let l:Ϙs:=ϲC
  rcases l with m|m|m|m
  .show go<|Ð m
  .show go (Ø ϲF)
  .show E a m
  show go (Ø ϲF)
 let l:Ϙs:=ϲC
 rcases l with m|m|m|m
 .show Ð ϲF
 .show Ð ϲF
 .rcases T.new a m with z|z
  .show Ð (Ϯ z)
  show Ø z
 show Ð ϲF
def Stt.swap(S:Ϥ0)(X:á ρ=Â Ď):
  ∃v f,á σ=Â ĥ/\ϫL x f/\(π ϩ2)/\
   ∀b h x' d,aK b h->ϴq b h v x' d->d.Í->ϙt->ż f b h d->∃p,Ϲ6 b h σ (ϰs<|Â x') p/\ż fp b h p/\∀a∈p,(ϩ2/\϶L)\/a∈d:=by
 let(v,f,g1,g2,e,j,rfl,k):=S.own.at X;let nd:=S.nd;let N:=nd;simp only[K9T,K9Y]at N;obtain⟨u,⟨l,y,r⟩,t⟩:=N;show(v,f,e,(j,l,ϰW (Ϸ8 ϲF)),ϰW ϲF,λb h x' d sm o nf g T=>?_);let out:ύx ϶L:=λa m z=>by
  rcases K9Y.mp m with m|m
  .show t a m a (Ð z) rfl
  show r a z a m rfl
 let s:∀c∈d,c∈f\/c∉϶d:=λc m=>by
  rcases T.new c m with z|z
  .show Ð z
  show Ø λw=>?_;let(o,q):=S.Þ c w;rw[z]at q;cases q
 let own:=k b h T.ff (ϵH<|ϻc<|ϩn m) v x' d o;rw[vj e]at own;show(ϯU,(sm,own,uo nd nf s,ϲK,Ô K8z S.í),(T.ff,λa o q m=>ϻc (λz=>m (Ϯ z)),ϲK,ϕ9),ϲK)
 .simp only[K9Y]at m
  let go:a∈g1++g2->b a=none:=λm=>by
   let(o,q):=S.Þ a ϤU;show Ϧv Ϸs (ϩn m) (Ϸ8 ϤU)
  rcases m with m|m|m
  .show go ϲF
  .show g a m
  show go ϲF
 .simp only[K9Y]at m⊢
  rcases m with m|m|m
  .show Ð<|Ð m
  .rcases T.new a m with z|z
   .show Ð<|Ø<|Ð z
   show Ø z
  show Ð<|Ø<|Ø m
 simp only[K9Y]at m⊢;rcases m with m|m|m
 .show Ð ⟨Ð m,ϩn ϲF⟩
 .show Ø m
 show Ð ⟨Ø<|Ø m,ϩn ϲF⟩
def HI{b:Ix}{ws:À V}{f:À Ix}(B:H b=Â (ô ws))(nd:b∉f)(fb:ώl)(e:Ϛ F1 H1){w:À V}{y:À OD}{d:À Ix}(o:ϷJ F1 H1 w y d)(nf:d.Í)(sub:∀c∈d,c∈f\/H c=none)(a:∀c∈d,F1 c=none):
  aK F1 (ϘF<|ô w)/\Put K F H (É b) (b::f) F1 (ϘF<|ô w) (.ol y) (b::d):=by
 let nb:∀c∈d,ϤL:=λc m z=>by
  subst z;rcases sub c m with z|z
  .show nd z
  rw[B]at z;cases z
 let g:Ϻu F1:=e.nw b (bg B) fb;show(ϵV (Ô (aC<|ϲX g) (e.fh _ _ q)),.ol aU (o.á ϰ3 λc m o q=>Ô (aC<|nb c m) q),K8k.ó ⟨λm=>nb b m rfl,nf⟩,ύE,(e.ff,λc o q m=>?_,ύE,ϑF e.nw))
 .rcases K8v.mp m with m|m
  .rw[m]
   show g
  show a c m
 .rw[aC λz=>m<|Ô z K9z]
  show ϔu
 rcases K8v.mp m with m|m
 .show Ð (ϥj K9z)
 show(sub c m).imp ě id
theorem Stt.write(S:Ϥ0)(X:á ρ=Â (Â ϱq)):
  ∃a V f,á σ=Â (Â<|É a)/\H a=Â (ô V)/\ψ V xs f/\f.Í/\(∀b∈f,ώl)/\
   ∀c h s x d,Ϛ c h->ϷJ c h s x d->d.Í->(∀b∈d,b∈f\/ϰ7)->(∀b∈d,c b=none)->
    ∃p,Ϲ6 c (Ϫ7<|ô s) σ (ϰs<|Â<|.ol x) p/\ż fp c (Ϫ7<|ô s) p/\(∀b∈p,b∈fp\/b∈d):=by
 let(v,q,k,r,I,wr):=S.swap X;let nd:=r.nd;let fr:=r.fr;let ro:=r.own;cases ro with
 |@ol a V _ f ha hv=>
  rw[K8k]at nd;show(a,V,f,k,ha,hv,nd.2,λb m=>fr b<|ě m,λc h s x d e o nf sub j=>?_);let(sm,T,p2,P,l):=HI ha nd.1 (fr a K9z) e o nf sub j;let(p,g,t,im):=wr c _ _ _ sm T p2 P l;show(p,g,t,ϹO);rcases im b m with z|z
  .show Ð z.1
  rcases K8v.mp z with z|z
  .show Ð (I b<|Ô z K9z)
  show Ø z
def N1.snoc(h:ψ vs xs f)(o:ϴq F H v y g):ψ (vs++[v]) ϬH Ϧp:=ϱD (N1.app h<|N1.cons o õ) K9d
def X6(h:Ϭ (jD i a)):wN (Ϯq CM ϲn<|ϸU (ď a)) D σ H:=by
 let(F,C,x,S,p):=h;erw[jD]at p;let(X,e,p):=Ϥw
 let(l,s,f,A,k,d,nf,u,wr):=Ϭr;show(_,A,Ð ⟨rfl,s,SqL.of k⟩,F,C,x,S,Ń λy py v g j Y e1 r w=>?_);let(L,py):=azIf py
 show(l,s,v,rfl,rfl,ϻO k,Ô d.í (zH L),?_);let o:N1 M.K g j (s++[v]) (X++[y]) (f++Y):=(d.á e1.ff λb x o q=>ϻO q).snoc r.own;let(P,t,T,_):=wr g j _ _ _ e1 o (Ϧl ⟨nf,r.nd,λb m c B z=>Ϯh (d.ö b m) (w b B)⟩) (λb m=>ϵg Ð (λm=>Ø<|w b m)) λb m=>ϵg (όX (d.ö b m)<|e1.nw b Ϸs (u b m))<|r.fr b;show py σ g _ P t T
def N1.last(o:ψ vs xs f)(e:xs.ī=Â Ř):∃v,vs[vs.À-1]?=ĥ/\Ŀ F v d/\ψ vs.Ù xs.Ù f:=by
 induction xs generalizing vs f with|nil=>simp at e|cons a0 r0 ih0=>
 cases o with
 |cons h r=>
  let i:=ih0 r;cases r with
  |nil=>
   cases h with
   |sh h=>
    simp at e;subst e;show(_,rfl,h,õ)
   |ol _ _=>simp at e
   |ot _ _=>simp at e
   |od _ _ _=>simp at e
   |pl _ _=>simp at e
  |cons h' r=>
   let(v,a,b,c):=i ϵh;show(v,ϑy,b,ą h c)
def s_pop(h:Ϭ (IH i g)):ϭC (WR M.K "list" Wh ϲn) (ϫM g):=by
 let(F,G,x,S,p):=h;erw[IH]at p;let(X,e,p):=Ϥw
 let(d,A,p):=azSh p
 let(l,s,f,y,j,z,nf,u,wr):=Ϭr;let(v,v1,V,C):=z.last A;let(P,q,T,_):=wr F H _ _ f ϯb C nf (λb m=>Ð m) u;let t:ż x F (ļ l<|ô s.Ù) (P++[]):=by rw[K9d];show T
 show(_,y,Ð ⟨rfl,s,SqL.of j⟩,l,s,v,rfl,rfl,j,v1,F,_,P,Ř,[],q,Res.sh V,ϰX,Ů ((϶9).stp t) λE a c k o w r B x=>a c k o w r<|t.Å B)
def Wa(h:Ϭ (Es i a)):wN (Ϯq CA ϲn<|ϸU (ď a)) D σ H:=by
 let(F,x,r,S,p):=h;erw[Es]at p;let(X,e,p):=Ϥw
 let(l,V,f,C,u,j,nf,B,wr):=Ϭr;show(_,C,Ð ⟨rfl,V,SqL.of u⟩,F,x,r,S,Ń λy py v k t Y e1 R w=>?_);cases y with
 |sh d=>show py.Ä
 |ot ys=>show py.Ä
 |od ys=>show py.Ä
 |pl _ _=>show py.Ä
 |ol ys=>
  let P:Ĉ r (ϳd r D) (Ë (X.À+ys.À<=Tk) (϶ x.ß (X++ys)) Î):=py;let(L,P):=azIf P
  let(ro,U,G):=R;cases ro with
  |@ol b ws _ g hb hw=>
   show(l,b,V,ws,rfl,rfl,ϻO u,hb,Ε j.í hw.í (lj L),?_);let o:N1 M.K k t (V++ws) (X++ys) Ϧp:=(j.á e1.ff λb x o q=>ϻO q).app hw;let(s,A,T,_):=wr k t _ _ _ e1 o (Ϧl ⟨nf,(K8k.mp U).2,λb m c E z=>Ϯh (j.ö b m) (w b<|ě E)⟩) (λb m=>ϵg Ð (λm=>Ø<|w b<|ě m)) λb m=>ϵg (όX (j.ö b m)<|e1.nw b Ϸs (B b m)) (λm=>G b<|ě m);show P σ k _ s A T
def M1{q:Int}(h:ixN k q=ϱ6):j<k:=by
 erw[ixN]at h;split at h
 .split at h
  .cases h
   lia
  cases h
 split at h
 .cases h
  lia
 cases h
def Xe(h:Ϭ (xj i k a)):ϭC (ď a) (Sd ϲn (ď k) Hw):=by
 let(F,t,g,S,p):=h;erw[xj]at p;let(X,e,p):=Ϥw
 show(F,t,g,S,Ń λy py v C H1 Y e1 R W=>?_);let(l,vs,f,Q,T,d,nf,B,wr):=Ϭr;show(_,Q,C,t,g,ϵv,Ů (϶b py e1) λz pz u F2 A fz N V w2=>?_);let(G2,r,K):=V.frz N w2;generalize z.er=dz at pz K;cases dz with
 |int q=>
  cases K;let P:Ĉ g (ϳd g D) (match Ϲt q with|some j=>϶ t.ß (Ϸ1 y)|none=>Î):=pz;cases hj:ixN X.À q with
  |none=>rw[hj]at P;cases P
  |some j=>
   rw[hj]at P;let E:=e1.Å r;let J:=M1 hj;show(l,vs,q,j,rfl,rfl,ϴU T,Ô d.í hj,?_);obtain⟨x,U⟩:∃x,ę X=Ď:=⟨X[j],ϓ9⟩
   let(v0,O,g1,g2,b1,b2,I,L):=d.at U;subst I;let o:=L G2 A E.ff (λb m o q=>ϴU q) v y Y (R.ā r).own;let sub:∀b∈g1++(Y++g2),b∈g1++(O++g2)\/ϰ7:=λb m=>by
    simp only[K9Y]at m⊢;rcases m with m|m|m
    .show Ð<|Ð m
    .show Ø<|W b m
    show Ð<|Ø<|Ø m
   let(s,G,Z,_):=wr G2 A _ _ _ E o (uo nf R.nd λc m=>Ø λw=>ϸ3 q (d.ö c w) (W c m)) sub (λb m=>by
     simp only[K9Y]at m;rcases m with m|m|m
     .show let⟨_,q⟩:=d.ö b ϲF;E.nw b Ϸs (B b ϲF)
     .exact(R.ā r).fr b m
     show let⟨_,q⟩:=d.ö b ϲF;E.nw b Ϸs (B b ϲF))
   show P σ G2 _ s G Z
 |none=>show pz.Ä
 |bool _=>show pz.Ä
 |str _=>show pz.Ä
 |list _=>show pz.Ä
 |tuple _=>show pz.Ä
 |dict _=>show pz.Ä
def Wb(hi:i<n)(hg:ϩ ti g)(h:Ϭ (EU i g a)):Xo i (ď a) ti D σ H:=by
 let(F,I,j,S,p):=h;erw[EU]at p;cases e:I[i]? with
 |none=>rw[e]at p;show ú
 |some o=>
  rw[e]at p;cases o with
  |none=>show ú
  |some d=>
   cases d with
   |sh d=>
    let(v,f,g1,g2,A,B,L,N):=Ϸ6;cases B with
    |sh r=>
     show(v,A,F,I,j,S,Ń λy py w J l Y e1 R G=>?_);let(G1,c,K):=ϹV G;show ϛq<|Ů (az.ā c<|Ϥo py) λz pz u k s Z x C W=>?_;let E:=c.Å x;let(P,t,sub):=Ϫ (S.ā E) hi C λb m q=>ϸ3 z (S.Þ b q) (c.þ<|W b m)
     show pz _ k s P t ⟨E.ff,λb o q x=>ϴU q,λb m=>ϵb (sub b m) Ð λm=>Ø<|c.þ<|W b m,λb q x z=>E.nw b q z⟩
   |_=>show ú
theorem Stt.write2(S:Ϥ0)(X:á ρ=Â Ö)(C:comps o=Â (l,xs))(M:Ϥv=Â ϻX):
  ∃a s b ws f,á σ=Â (Â<|É a)/\H a=Â (Ë (l=true) (ô s)<|Ī s)/\s.À=xs.À/\s[j]?=Â (É b)/\H b=Â (ô ws)/\ψ ws ys f/\f.Í/\(∀c∈f,F c=none)/\
   ∀d t w y z,Ϛ d t->ϷJ d t w y z->z.Í->(∀c∈z,c∈f\/H c=none)->(∀c∈z,d c=none)->
    ∃p,Ϲ6 d (ϙA<|ô w) σ (ϰs<|some<|wrap l<|ϲE<|.ol y) p/\ż fp d (ϙA<|ô w) p:=by
 let(v,G,J,r,P,wr):=S.swap X;let nd:=r.nd;let fr:=r.fr;let L:=r.own;obtain⟨a,s,g,A,h,rfl,rfl,mk⟩:∃a s g,H a=Â (Ë (l=true) (ô s)<|Ī s)/\ψ s xs g/\v=É a/\G=a::g/\∀B k V x g',k a=Â (Ë (l=true) (ô V)<|Ī V)->ϷJ B k V x g'->ϴq B k (É a) (wrap l x) (a::g'):=by
  cases L with
  |sh r=>cases C
  |od _ _ _=>cases C
  |pl _ _=>cases C
  |@ol a s _ g A h=>cases C;show(a,s,g,A,h,rfl,rfl,Ϙ4 ol)
  |@ot a s _ g A h=>cases C;show(a,s,g,A,h,rfl,rfl,Ϙ4 ot)
 let(u,Z,b1,D,bn,up):=SG (kd:=λs=>Ë (l=true) (ô s) (Ī s)) (mk:=wrap l) A h nd fr M mk;let N:=D.nd;let R:=D.fr;let O:=D.own;cases O with
 |@ol b ws _ f hb hw=>
  rw[K8k]at N;show(a,s,b,ws,f,J,A,h.len,b1,hb,hw,N.2,λc m=>R c<|ě m,λd t w y z e o nf sub I=>?_);let(sm,pt):=HI hb N.1 (R b K9z) e o nf sub I;let(Y,T,p2,Q,U):=up d _ _ _ pt;let(p,E,W,_):=wr d _ _ _ sm T p2 Q U;show(p,E,W)
private def OM(h:Ϭ (ui i k a)):wN (Ϯq CM (ϗC ϲn<|ď k)<|ϸU (ď a)) D σ H:=by
 let(F,l,g,S,p):=h;erw[ui]at p;let(X,e,p):=Ϥw
 let T:comps Ϧk=Â (true,X):=rfl;let(v0,_,_,_,C,own0,_,_):=Ϸ6;show(v0,C,F,l,g,S,Ń ϗh);let(G1,r,K):=r1.Ė e1 w1;generalize z.er=dz at pz K;cases dz with
 |int q=>
  cases K;let P:az M H g (ϳd g D) (match Ϲt q with
   |some j=>match ę X with
    |some (.ol s)=>ó (a l) λy=>if s.À<Tk then ϶ l.ß (Ϸ1<|.ol<|s++[y])else Î
    |_=>Î
   |none=>Î):=pz
  cases hj:ixN X.À q with
  |none=>rw[hj]at P;cases P
  |some j=>
   rw[hj]at P;let Z:az M H g (ϳd g D) (match ę X with
    |some (.ol s)=>ó (a l) λy=>if s.À<Tk then ϶ l.ß (Ϸ1<|.ol<|s++[y])else Î
    |_=>Î):=P
   split at Z
   .rename_i s hy
    let(N,V,b,ws,f,G,Q,U,B,I,w,nf,O,wr):=(S.ā r).write2 e T hy;rw[C]at G;cases G;let at1:Ť V q=Â (É b):=by erw[atI];rw[U,hj];show B
    show(N,V,q,É b,rfl,rfl,SqL.of Q,at1,Ð ⟨rfl,ws,SqL.of I⟩,G1,l,g,S.ā r,Ů ((az.ï Z).ext r) λy py v t A Y E R W=>?_);let(L,py):=azIf py
    show(b,ws,v,rfl,rfl,ϴU I,Ô w.í (zH L),?_);let o:N1 M.K t A (ws++[v]) (s++[y]) (f++Y):=(w.á E.ff λc _ o q=>ϴU q).snoc R.own;let(x,J,st):=wr t A _ _ _ E o (Ϧl ⟨nf,R.nd,λc m d m' z=>Ϯh (w.ö c m) (W c m')⟩) (λc m=>ϵg Ð (λm=>Ø<|W c m)) λc m=>ϵg (όX (w.ö c m)<|E.nw c Ϸs (O c m))<|R.fr c;show py σ t _ x J<|r.ý st
   show Z.Ä
 |none=>show pz.Ä
 |bool _=>show pz.Ä
 |str _=>show pz.Ä
 |list _=>show pz.Ä
 |tuple _=>show pz.Ä
 |dict _=>show pz.Ä
end
open PySem.Spec PyProof.Rows
def DE(M:Mx)(X:Cx)(e:On)(f:Fe):Prop:=Ϧ4 PE tD
def DT(M:Mx)(X:Cx)(e:On)(f:Ft):Prop:=Ϧ4 PT tT
def DW(M:Mx)(X:Cx)(e:On)(f:Ft):Prop:=Ϧ4 PW tT
def DA(M:Mx)(X:Cx)(e:À On)(f:Fa):Prop:=Ϧ4 PA tA
def DO(M:Mx)(X:Cx)(e:Ü On)(f:Fo):Prop:=Ϧ4 PO tO
def DI(M:Mx)(X:Cx)(tg e:On)(f:Fi):Prop:=Υ->ϥE->Ϸm e (ϑz f)
def DG(M:Mx)(X:Cx)(tg:On)(is:Ò)(f:Fg):Prop:=Υ->ϥE->PG X tg (tG M X.õ is f)
def DGs(M:Mx)(X:Cx)(tg:À On)(is:Ò)(f:Fgs):Prop:=Υ->ϥE->ϦQ tg (tGs M X.õ is f)
def DF(M:Mx)(X:Cx)(e:À On)(f:Ft):Prop:=Ϧ4 PF tT
def DS(M:Mx)(X:Cx)(T:No)(f:Fs):Prop:=Υ->ϥE->ϲa T ϮQ
def DSs(M:Mx)(X:Cx)(T:À No)(f:Fs):Prop:=Υ->ϥE->ϴ4 T ϮQ
section
variable{M:Mx}{X:Cx}{e a b c:On}{pos:Pos}
def peI(h:ā e t)(k:ϪK):ā e t':=Ϗq
def ptI(h:ϸV e t)(k:ϪK):ϸV e t':=Ϗq
def pwI(h:PW X e t)(k:ϪK):PW X e t':=λw p s a H Q I q=>h w p s a H Q I<|k a H Q q
def paI(h:ϱS es t)(k:ϪK):ϱS es t':=λP p s a H Q I q=>h P p s a H Q I<|k a H Q q
def poI(h:PO X o t)(k:ϪK):PO X o t':=Ϗq
def psI{T:No}(h:ϲa T t)(k:ϗT):ϲa T t':=ϖb
def Ti{T:À No}(h:ϴ4 T t)(k:ϗT):ϴ4 T t':=ϖb
def aq(i:Nat)(hN:ϵc (ð pos)):ï (ð pos) (aa i):=λx x=>peI hN λx x x h=>Xb h
def ng{i:Int}{j}:ï (ϻe<|Ä i) (eC<|Ä i):=λx x=>Ϯu Td (Ä i)
def RU{j}:ï (ϻe<|ã i) (eC<|ã i):=λx x=>Ϯu Yq (.bl i)
def q_{j}:ï (ϻe ò) (eC ò):=λx x=>Ϯu Vu Α
def Nk{j}:ï (ϻe<|Ė x) (eC<|Ė x):=λz z=>peI S6 λz z z h=>d_c (λz z=>Ė x) h
def iC{i:Int}(hg:γ x)(m:∃t,X.mg x=Â (Ä i t))(d:ϲx):ï (ð pos) (eC<|Ä i):=λx x=>
 let⟨t,e⟩:=m
 Ϯu (Pt (v:=Ä i) hg e ϓD d) (Ä i)
def d5(h:ï e fa):ï e (Rs fa):=ũ peI Ŷ (MY q)
def VQ(h:ï e fa):ï e (pX fa):=ũ peI Ŷ (XX q)
def CI(h:ï e fa):ï e (mE fa):=ũ peI Ŷ (Gp q)
def UD(h:ϴi e ta):ϴi e (Gk ta):=ũ ptI Ŷ (SN q)
def fH(j:ϙn)(hg:Υ->ϩ r g)(A:ï a fa)(B:ï b fb):ï ϙo ϫt:=ũ peI (Y7 j ϴX ϸu) (Kw Ϻh q)
def Mh(j:ϙF)(hg:Υ->Ok1 M r g)(A:ï a fa):ï ϙp (eUn g fa):=ũ peI (WL j ϴX) (Zr Ϻh q)
def zt(j:ϮC)(hg:Υ->ϩ r g)(A:ï a fa)(B:ï b fb)(h:ϪN):ï Ϯm ϫt:=ũ peI (PV j ϴX ϸu h) (Kw Ϻh q)
def fX(j:ϮC)(hg:Υ->ϩ r g)(A:ï a fa)(B:ï b fb)(c:ϪN):ϴi Ϯm (aD ϫt):=λm h=>
 ptI (NY j (A m h) (B m h) c) λe H Q q=>by let(F,d,f,S,p):=K8 q;show Kw Ϻh ⟨F,d,f,S,p⟩
def Mn(h:ï e fa)(he:ϐD (∀whole,ϮN whole=(do let v <-whole;standAt e.ú;holding [v] (truthy v)))):ϴi e (aD fa):=ũ ptI (Ui Ŷ he) (d_b q)
def NR(h:ϴi a ta):ϴi ϮD (nI ta):=ũ ptI (UU Ŷ) (Uv q)
def Hg(h:ϴi a ta):Ϧw (ϱH And [a]) ta:=λm H=>QC Ŷ
def BF(h:ϴi a ta):Ϧw (ϱH Or [a]) ta:=λm H=>TK Ŷ
def Lx{rest:À On}(h:ϴi a ta)(k:Ϧw (ϱH And ϳu) tb):Ϧw (ϱH And<|a::ϳu) (p_ ta tb):=ũ pwI (U9 Ŷ ϩP) (VZ q)
def AZ{rest:À On}(h:ϴi a ta)(k:Ϧw (ϱH Or ϳu) tb):Ϧw (ϱH Or<|a::ϳu) (pZ ta tb):=ũ pwI (X9 Ŷ ϩP) (Y1 q)
def FJ(h:Ϧw e ta):ϴi e ta:=λm H=>(Ŷ).pt
def Gh{op}(h:ï a fa):ï Ϙ5 fa:=λm H=>U5 Ŷ
def CL{rest:À On}(h:ï a fa)(k:ï (ϱH And ϳu) fb):ï (ϱH And<|a::ϳu) (Ao fa fb):=ũ peI (VC Ŷ ϩP) (WM q)
def W8{rest:À On}(h:ï a fa)(k:ï (ϱH Or ϳu) fb):ï (ϱH Or<|a::ϳu) (eOr fa fb):=ũ peI (XJ Ŷ ϩP) (Z5 q)
def yq(h:ï a fa):ï ϮD (Ap fa):=ũ peI (UK Ŷ) (YF q)
def Hm(h:ϴi c ta)(A:ï a fa)(B:ï b fb):ï ϙD (eIf ta fa fb):=ũ peI (LP Ŷ ϴX ϸu) (Z9 q)
def aQ:DA M X [] ai:=λx x=>paI tZ (ϲI SS)
def aw(h:ï e fa)(r:ϸi es)(S:à (æ Ũ=ϰG (æ es))):DA M X Ũ (ϬG al):=ũ paI (f7 Ŷ (r m H) S) (QZ q)
def o6{x1}(h:ϸi es):ï (ϻv x1 pos) (d_ al):=ũ peI (Gv Ŷ) (WD q)
def oR(h:ϸi es):ï (.List es pos) (bO al):=ũ peI (V5 Ŷ) (XI q)
def eI:DO M X none iN:=λx x=>poI Qm (ϲI OT)
def r_(h:ï e fa):DO M X Ϲ5 (d8 fa):=ũ poI (Py Ŷ) (P5 q)
def jG{lo hi:Ü On}{fl f:Fo}(hr:SlR X r)(hg:Υ->OkS M r g)(h:ï e fa)(a:DO M X lo fl)(c:DO M X hi f):
  ï (ŕ e Ϗ8 pos) (eSl g fa fl f):=ũ peI (KA hr Ŷ (a m H)<|c m H) (aab Ϻh q)
def zT(hr:ϸR r)(hg:Υ->ϩ r g)(A:ï a fa)(B:ï b fb)(S:xB b):ï (ŕ a b pos) ϫt:=ũ peI (Hb hr ϴX ϸu S) (Kw Ϻh q)
def eX{id:String}(C:ϳL (Ρ id) r)(j:Υ->ϦS r g)(hg:γ x)(h:ϥn)(v:Ϲi=Â (Ρ id))(A:ϸi Ũ)(n:ϱE Ϲd)(d:ϲx)(he:à (æ Ũ=ϰG (æ es)))(l:à (ϰY<|ϲB<|æ es)):
  ï (ϱc (ð p) Ũ pos) ϔt:=ũ peI (Eu C hg h v ϴX n d he l) (Uo (j m) q)
def Yn(C:ϳL (Ω T) r)(j:Υ->ϦS r g)(hg:γ x)(h:ϥn)(v:Ϲi=Â (Ω T))(A:ϸi Ũ)(n:ϱE Ϲd)(d:ϲx)(he:à (æ Ũ=ϰG (æ es)))(l:à (ϰY<|ϲB<|æ es)):
  ï (ϱc (ð p) Ũ pos) ϔt:=ũ peI (JI C hg h v ϴX n d he l) (Uo (j m) q)
def vi(F:Ϧ2 M.K M.mg CX)(hr:ϴh X.A)(hg:γ x)(a:M.mg x=Â (É f))(h:ϵo M.K (É f))(B:ϹG M.K [])(c:Ϩj M.E)(A:ϸi Ũ)(d:ϲx)(he:à (æ Ũ=ϰG (æ es)))(l:à (ϰY<|ϲB<|æ es)):
  ï (ϱc (ð p) Ũ pos) ϓw:=λm H=>by
 let b:Ϧ2 X.K X.mg CX:=by rw[m,H];show F
 show peI (ϕ7 (by rw[m];show h) õ c ϴX d he l) (ϲI Sb)
def sA(h:ï e fa):ϸc e (bY fa):=λm a=>ϪB (HG (tg:=tg)<|h m a) TX
def LG(h:ï e fa):ϸc e (iTp fa):=λm a=>ϪB (Vf (tg:=tg)<|h m a) WX
def Q4(hg:γ "range")(c:ϧw)(h:ï a fa)(S:à (æ [a]=(false,ϰI)::æ []))(d:à (æ [a]=϶z ϰI)):ϸc (ϳO "range" [a]) (iR1 fa):=λm b=>λi s e H r I z=>ϛw<|Zx z
def Y6(hg:γ "range")(f:ϧw)(h:ï a fa)(k:ï b fb)(c:à (æ ϱ9=(false,ϰI)::æ [b]))(S:à (æ [b]=(false,ϲh)::æ []))(g:à (æ ϱ9=ϻu ϰI ϲh))(d:à (æ [b]=϶z ϲh)):ϸc (ϳO "range" ϱ9) (iR2 fa fb):=λm e=>λi s j H r I z=>IK hg f (ϕC m e) g d i s j H r I<|ZX z
def GS(hg:γ "enumerate")(c:ϙr)(h:ï a fa)(S:à (æ [a]=(false,ϰI)::æ []))(d:à (æ [a]=϶z ϰI)):
  ϏS (ϳO "enumerate" [a]) (iEn fa):=λm b=>ϪB (QQ (es:=ts) (k:=tk) (tpos:=tpos) (p:=p) (pos:=pos) hg c ((aw h aQ S) m b) d) T9
def kK(hg:γ "zip")(f:ϧJ)(h:ï a fa)(k:ï b fb)(c:à (æ ϱ9=(false,ϰI)::æ [b]))(S:à (æ [b]=(false,ϲh)::æ []))(g:à (æ ϱ9=ϻu ϰI ϲh))(d:à (æ [b]=϶z ϲh)):ϏS (ϳO "zip" ϱ9) (iZp fa fb):=λm e=>ϪB (Vk (es:=ts) (k:=tk) (tpos:=tpos) (p:=p) (pos:=pos) hg f (ϕC m e) g d) WG
def Dh{α:Type}{N:À α}{i:Nat}{x:α}(h:N[i]?=Ď):i<N.À:=ϲG
def pgI(h:PG X tg t)(k:ϖ3):PG X tg t':=λp s a H v u Q I r q=>ϕN<|ϱf _ _ q
def Wn(h:ϦQ tg t)(k:ϖ3):ϦQ tg t':=λp s a H v u Q I r q=>ϕN<|ϱf _ _ q
def bR(h:X.à)(hi:á X.N=Ď)(H:ϲf x)(f:ϕ (ϳg\/ϱV=Â ο)):DG M X (ð pos) [i] (K2 i):=λx x=>pgI (HF h hi H f) λx x x x q=>NQ (Dh hi) q
def mG:DGs M X [] [] bB:=λx x=>Wn N8 λx x x x q=>WE q
def bE(h:DG M X e is g)(k:DGs M X es js gs)(S:à (Ê (Ϲf Ũ) Ž=assign e X.Ü::Ê (Ϲf es) Ž)):DGs M X Ũ (is++js) (ar g gs):=λm H=>Wn (M8 Ŷ ϩP S) λx x x x q=>SW q
def qN(C:ϗ)(h:DGs M X es is gs)(N:à (Ã (Ϲf es)=n))(S:à ((Ϲf es).findIdx? ϔ=none)):DG M X (ϻv k pos) is (gTp n gs):=λm H=>by let q:=SO (pos:=pos) (k:=k) C Ŷ N S;rw[m]at q;show pgI q λx x x x z=>Yf z
variable{st:No}{rest sa sb:À No}
def cD:Ϲ9 [] sNx:=λx x=>Ti GN (ϲI TC)
def af(h:Ϧ st f)(k:Ϲ9 rest g):Ϲ9 (st::rest) (ao f g):=ũ Ti (D9 Ŷ ϩP) (Ws q)
def aB(h:Ϧ st f):Ϲ9 [st] f:=λm H=>QX Ŷ
def LJ:Ϧ st Ju:=λx x=>psI Lu (ϲI Rj)
def Qe(h:ï e fa)(S:à (ϫI none pos.line X.Ü=ϥt)):Ϧ (.Expr e pos) (AF fa):=ũ psI (CB Ŷ S) (SD q)
def bW(h:ï e fa):Ϧ (Ϭh Ϲ5) (bF fa):=ũ psI (Cp Ŷ) (WT q)
def OV(i:Nat)(hN:ϵc (ð p)):Ϧ (Ϭh<|Â<|ð p) (dB i):=λx x=>psI (Cp hN) (ϲI Si)
def gL(h:ϴi c ta)(A:Ϲ9 sa f)(B:Ϲ9 sb g):Ϧ (.If c sa sb pos) (sIf ta f g):=ũ psI (Wq Ŷ ϴX ϸu) (ZV q)
def Af(i:Nat)(h:Ϧ st f):Ϧ st (pq i f):=ũ psI Ŷ (WQ q)
def bQ(n:X.à)(hi:á X.N=Ď)(a:ϲf x)(h:ï e fa)(S:à (ϫI (Â<|ð p) pos.line X.Ü=ϥt))(f:ϕ (ϳg\/ϱV=Â ο)):Ϧ (ϴZ [ð p] e pos) (ax i fa):=ũ psI (SK n hi a Ŷ S f) (Kc (Dh hi) q)
def Vr(h:ï e fa)(hg:ϥh X)(S:à (ϭ0 tg))(w:à (Ϯe tg))(a:à (Ϫz tg)):Ϧ (ϴZ [tg] e pos) (K_ fa gg):=ũ psI (Bl Ŷ (Ϻh H) S w a) (Rc q)
def Gi(n:X.à)(hi:á X.N=Ď)(a:ϲf x)(h:ï e fa)(j:ώe ti)(hg:Υ->ϩ ti gd)(f:ϕ (ϳg\/ϱV=Â ο)):Ϧ (Ϯ7<|ð p) (EU i gd fa):=ũ psI (Tg n hi a Ŷ j f) (Wb (Dh hi) Ϻh q)
def bt{it:Fi}(C:ϗ)(p:PassesOwn ϳP X.A X.Ü X.xe)(hi:ϸc iter it)(hg:ϥh X)(B:Ϲ9 body f)(S:ϸX):Ϧ ϗz (bZ it gg f):=ũ psI (Sr p C (hi m H) (Ϻh H) ϸu S) (WB q)
def nW(p:PassesOwn ϳP X.A X.Ü X.xe)(h:ϴi c ta)(B:Ϲ9 body f):Ϧ Ϙo (dX ta f):=ũ psI (Mo p Ŷ ϸu) (Od q)
variable{x:Str}{p ap cp:Pos}
def OB{id:String}(slot:Slot "list" name id)(y:typeOf (Ρ id)=pure (Ω "method_descriptor"))(c:ϔn)(j:ā o to)(A:ϱS [e] t)(k:∀D a H,ϮQ D a H->wN (tBM M.K "list" r to t) D a H)(b:ώ8)(w:Μ ((ϵ8<|æ [e]).all Ϲz&&ϦY&&Õ (Ã ([e]:À On)+Ã ([]:À Keyword)+(Ë ([]:À Keyword).isEmpty 0 1)<30)))(h:ϤX)(S:æ [e]=ϰG (æ []))(l:ϰY (ϵ8<|æ []))(s:Ϧ1 (ϴL o name ap) [e] cp)(m:Υ):ϲa (.Expr (ϱc (ϴL o name ap) [e] cp) pos) ϮQ:=by let q:=Ϙt slot y c j A b w h S l;rw[m]at q;show psI (CB q s) k
def O8(h:ï e fa)(S:æ [e]=ϰG (æ []))(m:Υ)(H:ϥE):ϱS [e] (ϸU<|ϧF fa):=f7 Ŷ tZ S
def uI(i:Nat)(h:ï e fa)(hN:ϵc (ð p))
  (hbase:à (Ϫw (ð p) "append"))
  (hfew:à (Μ<|(ϵ8<|æ [e]).all Ϲz&&ϦY&&Õ (Ã ([e]:À On)+Ã ([]:À Keyword)+(Ë ([]:À Keyword).isEmpty 0 1)<30)))
  (hline:à ϤX) (hs:à (æ [e]=ϰG (æ []))) (hplain:à (ϰY<|ϵ8<|æ []))
  (hsw:à (Ϧ1 (ϴL (ð p) "append" ap) [e] cp)):ϭT (ð p) "append" (jD i fa):=ϦE (ϕr hN (ϲI X6) hbase hfew hline hs hplain hsw hK)
def B7(i:Nat)(h:ï e fa)(hN:ϵc (ð p))
  (hbase:à (Ϫw (ð p) "extend"))
  (hfew:à (Μ<|(ϵ8<|æ [e]).all Ϲz&&ϦY&&Õ (Ã ([e]:À On)+Ã ([]:À Keyword)+(Ë ([]:À Keyword).isEmpty 0 1)<30)))
  (hline:à ϤX) (hs:à (æ [e]=ϰG (æ []))) (hplain:à (ϰY<|ϵ8<|æ []))
  (hsw:à (Ϧ1 (ϴL (ð p) "extend" ap) [e] cp)):ϭT (ð p) "extend" (Es i fa):=ϦE (ϕs hN (ϲI Wa) hbase hfew hline hs hplain hsw hK)
def Ep(i:Nat)(hb:ï b fb)(h:ï e fa)(hix:xB b)(hN:ϵc (ð p))(hbase:à (Ϫw (ŕ (ð p) b p2) "append"))(hfew:à (Μ<|(ϵ8<|æ [e]).all Ϲz&&ϦY&&Õ (Ã ([e]:À On)+Ã ([]:À Keyword)+(Ë ([]:À Keyword).isEmpty 0 1)<30)))(hline:à ϤX)(hs:à (æ [e]=ϰG (æ [])))(hplain:à (ϰY<|ϵ8<|æ []))(hsw:à (Ϧ1 (ϴL (ŕ (ð p) b p2) "append" ap) [e] cp)):ϭT (ŕ (ð p) b p2) "append" (ui i fb fa):=ϦE (ϕr ϖH (ϲI OM) hbase hfew hline hs hplain hsw hK)
def NG(i:Nat)(hg:ϥh X)(hN:ϵc (ð p))(hbase:à (Ϫw (ð p) "pop"))(hline:à ϤX)(hs:à (swapsWithSole [tg] (ϱc (ϴL (ð p) "pop" ap) [] cp) pos.line X.Ü=ϥt))(hw:à (swappedStores [tg] (ϱc (ϴL (ð p) "pop" ap) [] cp) X.Ü=ϔ0))(h1:à (Ϫz tg)):
  Ϧ (ϴZ [tg] (ϱc (ϴL (ð p) "pop" ap) [] cp) pos) (IH i gg):=ϗm (Ux (apos:=ap) (cpos:=cp) K8H PySem.F.slot_list_pop PySem.F.type_list_pop TN hN hbase hline) (Bl q (hg hK hM) hs hw h1) s_pop
def tX(i:Nat)(hb:ï b fb)(h:ï e fa)(hN:ϵc (ð p))(hs:à (ϭ0<|ŕ (ð p) b p2))(hw:à (Ϯe<|ŕ (ð p) b p2))(ha:autoParam (∀v,ϧX (ŕ (ð p) b p2) v=(do
   let ov <-holding [v] (eval (.Name x p) X.Ü)
   let iv <-holding [v,ov] (eval b X.Ü)
   standAt p2
   holding [v,ov,iv] (setItem ov iv v)
   release [v,ov,iv] [])) mqad.é)(h1:à (Ϫz<|ŕ (ð p) b p2)):Ϧ (ϴZ [ŕ (ð p) b p2] e pos) (xj i fb fa):=ϦE (ϕG ((ϲI Xe)))
variable{outs:À ϴM}{it:Fi}
def MZ:DF M X [] aT:=λx x=>λi s a H Q I q=>NW i s a H Q I (by let(F,b,f,S,p):=q;show p F H ϯb)
def VH(h:ϴi c ta):DF M X [c] ta:=λm H=>Uq Ŷ
end
def oI(i:Int):Ĭ:=þ<|Ä i
def oB(b:Bool):Ĭ:=þ<|ã b
def oD(d:Gc):Ĭ:=.ok Ř
def a_:ϰe
 |.int i,.int j=>oI<|i+j
 |.str x,.str y=>Ë ϐx (oD (Ė<|x++y)) Î
 |.list xs,.list ys=>Ë ϪR (.ok (Ę ϭd)) Î
 |_,_=>Î
def cO:ϰe|.int i,.int j=>oI<|i-j|_,_=>Î
def jH(i j:Int):Bool:=ϛm ϷM
def cX:ϰe
 |.int i,.int j=>Ë ϫN (oI (i*j)) Î
 |.list xs,.int k=>@ite _ (Μ<|Õ (-ϷE<=k)&&Õ (k<ϷE)&&Õ (xs.À*k.Ò<=Tk)) ϷM (ģ<|(ϳ2 k.Ò xs).flatten.map OD.sh) Î
 |_,_=>Î
def ip:ϰe
 |.int i,.int j=>Ë (0<j) (oI (i%j)) Î
 |_,_=>Î
def kq:ϰe|.int i,.int j=>@ite _ ϐU ϷM (oI Ϥq) Î|_,_=>Î
def bA:Gc->Ĭ|.int i=>oI<|-i|_=>Î
def gLt:ϰe|.int i,.int j=>oB<|Õ<|i<j|_,_=>Î
def gLe:ϰe|.int i,.int j=>oB<|Õ<|i<=j|_,_=>Î
def gGt:ϰe|.int i,.int j=>oB<|Õ<|j<i|_,_=>Î
def gGe:ϰe|.int i,.int j=>oB<|Õ<|j<=i|_,_=>Î
def k7(x y:Gc):ϵN:=Ë (Μ (SeqAt.shaped x&&SeqAt.shaped y)) (Ħ (PyData.eqv x y)) Î
def eqD:Gc->Gc->ϵN|.int i,.int j=>.ok<|Õ<|i=j|.str x,.str y=>.ok<|Õ<|x=y|.bool x,.bool y=>.ok<|Õ<|x=y|x,y=>k7 x y
def gEq(x y:Gc):Ĭ:=ó (eqD x y) λb=>oB b
def gNe(x y:Gc):Ĭ:=ó (eqD x y) λb=>oB<|!b
def FW(x y:Gc):Ĭ:=match y with
 |.none=>oB (match x with| .none=>true|_=>false)
 |_=>Î
def lE(o:Ü Gc):Ĭ:=match o with
 |some d=>oD d
 |none=>Î
def J0:ϰe
 |.list xs,.int i=>lE<|atI xs i
 |.tuple xs,.int i=>lE<|atI xs i
 |.str z,.int i=>Ë (z.À<=Tk) (lE (Ê ϐ4 λc=>Ė ϥu)) Î
 |_,_=>Î
def cutD(X:À Gc)(lo hi:Ü Int):À Gc:=Ł (X.ä<|ϯm 0 lo)<|ϭY X.À
def l6(x:Gc)(lo hi:Ü Int):Ĭ:=match x with
 |.list xs=>.ok<|Ę<|cutD xs lo hi
 |_=>Î
def ba:À Gc->Ĭ
 |[.list xs]=>oI xs.À
 |[.tuple xs]=>oI xs.À
 |[.str x]=>Ë (x.À<=Tk) (oI x.À) Î
 |_=>Î
def yP:À Gc->Ĭ
 |[.int i,.int j]=>oI (ϻf<|j<i)
 |_=>Î
def A6:À Gc->Ĭ
 |[.int i,.int j]=>oI (ϻf<|i<j)
 |_=>Î
def dN:À Gc->Ü (À Int)|[]=>Â []|.int i::r=>Ê (dN r) (i:: ·)|_::_=>none
def dN'{i r}:dN (Ä i::r)=(Ê (dN r) (i:: ·)):=rfl
def l_:∀ns:À Int,dN ō=Â ns:=by
 induction _ with|nil=>show rfl|cons n ns N3=>rw[K9w,dN',N3];rfl
theorem tW:∀{d:À Gc}{ns:À Int},dN d=Â ns->d=ō:=by
 induction _ with
 |nil=>ext ns h;cases h;rfl
 |cons d r ih=>ext ns h;cases d with|int i=>rw[dN']at h;let(ms,H,rfl):=Ϲ8;rw[ih H];rfl|_=>cases h
def uB:Int->À Int->Int|m,[]=>m|m,n::ns=>uB (ϷV<|m<n) ns
def uB'{m n ns}:uB m Ϥt=(uB (ϷV<|m<n) ns):=rfl
def Ca:Int->À Int->Int|m,[]=>m|m,n::ns=>Ca (ϷV<|n<m) ns
def Ca'{m n ns}:Ca m Ϥt=(Ca (ϷV<|n<m) ns):=rfl
def lP:À Gc->Ĭ
 |[.list ds]=>match dN ds with
  |some (n::ns)=>oI ύ7
  |_=>Î
 |_=>Î
def mN:À Gc->Ĭ
 |[.list ds]=>match dN ds with
  |some (n::ns)=>oI ύ8
  |_=>Î
 |_=>Î
def mB:À Gc->Ĭ
 |[.list ds]=>match dN ds with
  |some ns=>oI ns.Ğ
  |_=>Î
 |_=>Î
def mM:À Gc->Ĭ|[.list ds]=>ģ ϶a|[.tuple ds]=>ģ ϶a|_=>Î
def yY(d:À Gc)(y:Gc):Ĭ:=match y with
 |.int z=>match dN d with
  |some ns=>Ë ϸF (oI ϧB) Î
  |none=>Î
 |_=>Î
def Rv:Gc->Ü String|.int _=>some "int"|.bool _=>some "bool"|.str _=>some "str"|.list _=>some "list"|.tuple _=>some "tuple"|.none=>some "NoneType"|.dict _=>none
def Qo(T:String)(d:Gc):όv:=match Rv d with
 |some U=>if ϩw\/ϭ3 then Â (Õ ϏV)else none
 |none=>none
def Ja(T:String)(x:Gc):Ĭ:=match Qo T x with
 |some b=>oB b
 |none=>Î
section
variable{M:Mx}{X:Cx}
def okI{i:Int}(s:ϰP)(p:Ĉ fp ϸ (oI i)):Q (Ä i) H:=Ϻ1<|Ä i
def okB(s:ϰP)(p:Ĉ fp ϸ (oB i)):Q (.bl i) H:=Ϻ1<|.bl i
def opL{r:À V->Hp->Ú VK}{f:À Gc->Ĭ}{k:À Gc->Ĭ}(h:∀x,f x=match x with|[.list d]=>k d|_=>Î)(q:∀{a xs d F H g Q},ϰP->RdK M.K F a xs->϶B F xs d->Ĉ g ϸ (k d)->r [É a] H Q):ϦS r f:=by
 ext x dx F H g Q s R p;rw[h]at p;cases R with
 |nil=>show ú
 |cons h r=>
  cases h with
  |lst h1 h2=>cases r with|nil=>show q s h1 h2 p|cons _ _=>show ú
  |_=>show ú
def opG{r:R2}{f:ϰe}{k:ϱv Int Ĭ}(h:∀x y,f x y=match x,y with|.int i,.int j=>k i j|_,_=>Î)(q:∀{i j F H g Q},ϰP->Ĉ g ϸ (k i j)->r (Ä i) (Ä j) H Q):ϩ r f:=by
 ext x y dx dy F H g Q s R Y p;rw[h]at p;cases R with
 |int i=>cases Y with|int j=>show q s p|_=>show ú
 |_=>show ú
def R5(K:At):R2:=ϰk (∃l b X zs,x=É l/\y=É b/\ϸq l X/\ϸq b zs/\ŀ (ϻV X.À)/\∀p,ϵw->Q (É p) (ļ p<|ô<|X++zs))
def PR:ϴC Add (R5 X.K):=by
 ext p s f H x y v u Q I R Y h;let(l,b,S,zs,rfl,rfl,c,B,Z,q):=h;cases R;cases Y;let(z,t,n,r,d,e):=c.obj I;let(j,i,N,m,L,g):=B.obj I;show PySem.P.add_list e g ?_ (Ϻ K9W K9W);let a:t.Æ++i.Æ=Ϻp (t++i):=Û
 rw[a];show(É _,_,I.lnew (t':=s.ã) (r.đ m) (Ă K9v),rfl,q _ I.Õ)
def Rw(K:At):R2:=ϰk (rI0 (λi j=>Ä<|i+j) x y H Q\/(∃i j,x=Ė i/\y=Ė j/\ŀ (i.À+j.À)/\Q (Ė<|i++j) H)\/R5 K x y H Q)
def l8:ϴC Add (Rw X.K):=UZ.or<|Gg.or PR
def qJ(m:Υ):ϩ (Rw X.K) a_:=by
 rw[m];ext x y dx dy F H f Q s R Y p;cases R with
 |int _=>cases Y with|int _=>show Ð ⟨_,_,rfl,rfl,ϸr⟩|_=>show ú
 |str i=>cases Y with|str j=>show Ø<|Ð ⟨_,_,rfl,rfl,lj (ϱO).1,ϒk (ϱO).2<|Ė _⟩|_=>show ú
 |lst h1 h2=>cases Y with|lst h3 h4=>show Ø<|Ø ⟨_,_,_,_,rfl,rfl,ϔ1,h3.Î s,Ε ϴQ Ϭq (lj (ϱO).1),λa A=>OkE.lstD s (ϱO).2 (E5.app h2 h4) A⟩|_=>show ú
 |_=>show ú
def FR:ϩ (rI0 λi j=>Ä<|i-j) cO:=Ϧ3 okI
def O6{i j:Int}(h:ϫN):M5 i j:=(ϭW ϷM).mp h
def RK(K:At):R2:=λx y H Q=>∃l k X,x=É l/\y=Ä k/\ϸq l X/\-ϷE<=k/\k<ϷE/\ŀ (X.À*k.Ò)/\
 ∀p,ϵw->Q (É p) (ļ p<|ô (ϤP (ϳ2 k.Ò X)))
def OS:ϴC Mult (RK X.K):=by
 ext p s E H x y v u Q I R Y h;let(l,k,D,rfl,rfl,B,j,A,Z,q):=h;cases R;let(t,rfl):=Y;let(z,i,n,r,C,e):=B.obj I;let L:ŀ Ϗ9:=by rw[K9W,<-C];show Z
 let c:¬Ϗ9 > (ϷE-1) / 8:=by
  let:ϱC sizeLine<=(ϷE-1) / 8:=Ý
  lia
 let f:¬(!Builtin.List.listFitsIndex k)=true:=Ô (fitsIndex_both j A) K9o
 let o:¬ϵ Builtin.List.listTooLong Ϗ9:=Ô (DH L) K9o
 let w:ϖI (ϳ2 (Ë (Μ i.toArray.isEmpty) 0 k.Ò) i.Æ) (ϳ2 k.Ò i):=by
  let g:∀m:Nat,ϖI (϶Z i.Æ) (϶Z i):=λm=>ϱD (foldl_rep i m []) K9B
  rw[g];cases i with|nil=>simp|cons a r'=>rw[P3 Û]
 apply wpAny_binaryOp_repeat_ref (T:="list") (U:="int") Ý ϧZ (λS=>typeIs_int S k t) noFill_list_mul F.fills_int_mul F.slot_int_rmul repeat_list F.slot_int_index.lookup
  (K86 F.slot_int_rmul (typeIs_int s k t) F.entry_int_rmul (F.args_int_rmul_2 _ _) (int___rmul___int_list k t l i.Æ n)
   ⟨e,rfl,ϧZ,K86 F.slot_list_mul ϧZ F.entry_list_mul (F.args_list_mul_2 _ _) (AutoListH.list___mul___list_int_3 l i.Æ n k t f c o) ϔo⟩)
 rw[w];show(É _,_,I.lnew (t':=s.ã) (r.rep k.Ò) (by rw[len_rep,Zdp];show Z),rfl,q _ I.Õ)
def RN(K:At):R2:=ϰk (rI M5 (λi j=>Ä<|i*j) x y H Q\/RK K x y H Q)
def ym:ϴC Mult (RN X.K):=Sq.or OS
def E5.rep{K:At}{F:Hp}{s:À V}{d:À Gc}(h:Λ s d):∀k:Nat,Λ ((ϤP (ϳX s))) ((ϤP (ϳX d)))|0=>õ|k+1=>ϗD E5.app E5.rep
def Cb(m:Υ):ϩ (RN X.K) cX:=by
 rw[m];ext x y dx dy F H f Q s R Y p;cases R with
 |int _=>cases Y with|int _=>show Ð ⟨_,_,rfl,rfl,O6 (ϱO).1,okI s (ϱO).2⟩|_=>show ú
 |lst h1 h2=>
  cases Y with
  |int _=>
   let(C,p):=ϱO;rw[K9U,K9U,K9k,K9k,K9k]at C;show Ø ⟨_,_,_,rfl,rfl,ϔ1,C.1.1,C.1.2,Ô ϴQ (lj C.2),λa A=>ϫA (E5.rep h2 _) A⟩
  |_=>show ú
 |_=>show ú
def SM:ϩ (Ϩ3 (0<j)<|λi j=>Ä<|i%j) ip:=Ϫx
def Tt:ϩ (rI YN λi j=>Ä Ϥq) kq:=Ϫx
def Fh:Ok1 M (rU λi=>Ä<|-i) bA:=by
 ext x dx F H f Q s R p;cases R with|int _=>show(_,rfl,ϸr)|_=>show ú
def MP:ϩ (Ϲy<|Õ<|i<j) gLt:=Ϧ3 okB
def W5:ϩ (Ϲy<|Õ<|i<=j) gLe:=Ϧ3 okB
def MS:ϩ (Ϲy<|Õ<|j<i) gGt:=Ϧ3 okB
def RG:ϩ (Ϲy<|Õ<|j<=i) gGe:=Ϧ3 okB
def E5.to2{K:At}{H:Hp}{s:À V}{d:À Gc}(h:ϵM s d):Ϙu->L2.E5 K H s d:=ϧh (λv d x=>Μ d.Ħ->L2.Rep K H v d) (λv d x=>Ϙu->L2.E5 K H v d) (Ţ Α) (λb x=>ϵO) (λi x=>Ä i) (λx z=>Ė x) (λh x i c=>ô h.sq ϖB) (λh x i c=>Ī (SqT.of h) ϖB) (λx x x x c=>by erw[dD]at c;rw[PyData.canLay0]at c;cases c) (Ţ õ) (λx x i j c=>by rw[PyData.canLayAll0,K9U]at c;show ą (i c.1)<|j c.2)
def Rep.to2{K:At}{H:Hp}{v:V}{d:Gc}(h:Ŀ H v d)(c:Μ d.Ħ):L2.Rep K H v d:=by cases E5.to2 (ą h õ) (by rw[PyData.canLayAll0,c];rfl);assumption
def Wz(K:At):R2:=ϰk (rEq x y H Q\/Xy K x y H Q)
def V_(K:At):R2:=ϰk (rNe x y H Q\/YW K x y H Q)
def Lo(U:ϷR 64):ϵ7 Eq (Wz X.K):=YQ.or<|U7 U
def vQ(U:ϷR 64):ϵ7 NotEq (V_ X.K):=Wg.or<|Uc U
def Kp{K:At}{F H:Hp}{f:À Ix}{x y:V}{dx dy:Gc}{P:Bool->Prop}(R:Ŀ F x dx)(Y:Ŀ F y dy)(p:Ĉ f P (eqD dx dy)):
  (ϓC/\P (Õ<|x=y))\/(Ϻ5 dx/\Ϻ5 dy/\P (Ϭz dx dy)):=by
 let D:Ĉ f P (k7 dx dy)->Ϻ5 dx/\Ϻ5 dy/\P (Ϭz dx dy):=λp=>by let(h,p):=ϱO;rw[K9U]at h;show(h.1,h.2,p)
 cases R with
 |int i=>
  cases Y with
  |int j=>
   show Ð (Ϸv ?_);rw[show Õ (ϥK V.int)=Õ (i=j) by
    cases h:i=j
    .rw[h];simp
    rw[ϷA,ϧ9 V.int.inj]]
   show p
  |_=>show Ø<|D p
 |str i=>
  cases Y with
  |str j=>
   show Ð (Ϸv ?_);rw[show Õ (ϥK V.str)=Õ (i=j) by
    cases h:i=j
    .rw[h];simp
    rw[ϷA,ϧ9 V.str.inj]]
   show p
  |_=>show Ø<|D p
 |bl i=>
  cases Y with
  |bl j=>
   show Ð (Ϸv ?_);rw[show Õ (ϥK V.bl)=Õ (i=j) by
    cases h:i=j
    .rw[h];simp
    rw[ϷA,ϧ9 V.bl.inj]]
   show p
  |_=>show Ø<|D p
 |_=>show Ø<|D p
def Q5(m:Υ):ϩ (Wz X.K) gEq:=by
 rw[m];ext x y dx dy F H f Q s R Y p;rcases Kp R Y ϶9 with⟨h,q⟩|⟨a,b,q⟩
 .show Ð ⟨h,okB s q⟩
 show Ø ϕt
def AO(m:Υ):ϩ (V_ X.K) gNe:=by
 rw[m];ext x y dx dy F H f Q s R Y p;rcases Kp R Y ϶9 with⟨h,q⟩|⟨a,b,q⟩
 .show Ð ⟨h,okB s q⟩
 show Ø ϕt
def H_{K:At}{F:Hp}{S:À V}{s:À Gc}{i:Int}{d:Gc}(h:Λ S s)(e:atI s i=ϰN):∃v,atI S i=ĥ/\Ŀ F v d:=by
 erw[atI]at e⊢;rw[E5.í h];cases q:ixN s.À i with
 |none=>rw[q]at e;cases e
 |some j=>rw[q]at e;let(v,H,a):=E5.get h e;show(v,H,a)
def azL{M H f P}{o:Ü Gc}(p:Ĉ f P (lE o)):∃d,o=ϰN/\Ĉ f P (oD d):=by
 cases o with|none=>show ú|some d=>show(d,rfl,p)
def Ac(m:Υ):ϩ (rIx X.K) J0:=by
 rw[m];ext x y dx dy F H f Q s R Y p;cases R with
 |lst h1 h2=>
  cases Y with
  |int i=>let(d,h,p):=azL p;let(v,e,r):=H_ h2 h;show Ð ⟨_,_,_,v,rfl,rfl,Ϲj,e,Ϻ1 r⟩
  |_=>show ú
 |tup h1 h2=>
  cases Y with
  |int i=>let(d,h,p):=azL p;let(v,e,r):=H_ h2 h;show Ø<|Ð ⟨_,_,_,v,rfl,rfl,ϑt,e,Ϻ1 r⟩
  |_=>show ú
 |str z=>
  cases Y with
  |int i=>let(a,p):=ϱO;let(d,h,p):=azL p;let(c,C,rfl):=Ϲ8;show Ø<|Ø ⟨_,_,c,rfl,rfl,lj a,C,Ϻ1<|Ė _⟩
  |_=>show ú
 |_=>show ú
def fW(m:Υ):OkS M (Y0 X.K) l6:=by
 rw[m];ext x lo hi dx F H f Q s R p;cases R with
 | @lst a vs ds h1 h2=>
  show(a,vs,rfl,Ϲj,λq h=>?_);show ϫA ?_ h;erw[NS,cutD];rw[ϴQ];show E5.Ö _<|E5.ä _ h2
 |_=>show ú
def Ry(K:At):À V->Hp->Ú VK:=Ϸy ((∃p y,X=[É p]/\(μ p y\/Ϲ4 p y)/\Q (Ä y.À) H)\/(∃z,X=[Ė z]/\ŀ z.À/\Q (Ä z.À) H))
def Je:ϳL (Ρ "len") (Ry X.K):=B4.or Cs
def Um(m:Υ):ϻE Ry ba:=by
 rw[m];ext x dx F H f Q s R p;cases R with
 |nil=>show ú
 |cons h r=>
  cases r with
  |cons _ _=>cases h<;>show ú
  |nil=>
   cases h with
   |lst h1 h2=>show Ð ⟨_,_,rfl,Ð Ϲj,Ô ϴQ ϸr⟩
   |tup h1 h2=>show Ð ⟨_,_,rfl,Ø ϑt,Ô ϴQ ϸr⟩
   |str x=>show Ø ⟨_,rfl,lj (ϱO).1,okI s (ϱO).2⟩
   |_=>show ú
def Qy:ϦS (Ϸy<|∃i j,X=[Ä i,Ä j]/\Q (Ä (ϻf<|j<i)) H) yP:=by
 ext x dx F H f Q s R p;cases R with
 |nil=>show ú
 |cons h r=>
  cases h with
  |int i=>
   cases r with
   |nil=>show ú
   |cons g r=>
    cases g with
    |int j=>cases r with|nil=>exact(_,_,rfl,ϸr)|cons _ _=>show ú
    |_=>show ú
  |_=>show ú
def OC:ϦS (Ϸy<|∃i j,X=[Ä i,Ä j]/\Q (Ä (ϻf<|j > i)) H) A6:=by
 ext x dx F H f Q s R p;cases R with
 |nil=>show ú
 |cons h r=>
  cases h with
  |int i=>
   cases r with
   |nil=>show ú
   |cons g r=>
    cases g with
    |int j=>cases r with|nil=>exact(_,_,rfl,ϸr)|cons _ _=>show ú
    |_=>show ú
  |_=>show ú
def se:∀(ns:À Int)(m:Int),uB m ns∈m::ns/\∀z∈m::ns,z<=uB m ns:=by
 induction _ with
 |nil=>ext m;show(K9z,ϖC)
 |cons n ns N3=>
  ext m;let(a,H):=N3 (ϷV<|m<n);rw[uB'];let M:m<=(ϷV<|m<n):=ϧR
  let N:n<=(ϷV<|m<n):=ϧR
  let l:=H _ K9z;show(?_,ϨS)
  .rcases K8v.mp a with h|h
   .rw[h]
    split<;>simp
   simp[h]
  rcases K8v.mp Z with rfl|Z
  .lia
  rcases K8v.mp Z with rfl|Z
  .lia
  show H z<|ě Z
def vL:∀(ns:À Int)(m:Int),Ca m ns∈m::ns/\∀z∈m::ns,Ca m ns<=z:=by
 induction _ with
 |nil=>ext m;show(K9z,ϖC)
 |cons n ns N3=>
  ext m;let(a,H):=N3 (ϷV<|n<m);rw[Ca'];let M:(ϷV<|n<m)<=m:=ϧR
  let N:(ϷV<|n<m)<=n:=ϧR
  let l:=H _ K9z;show(?_,ϨS)
  .rcases K8v.mp a with h|h
   .rw[h]
    split<;>simp
   simp[h]
  rcases K8v.mp Z with rfl|Z
  .lia
  rcases K8v.mp Z with rfl|Z
  .lia
  show H z<|ě Z
def xV(k:Υ):ϻE RY lP:=by
 rw[k];show ϪC;cases e:dN d with
 |none=>rw[e]at p;show ú
 |some q=>
  rw[e]at p;cases q with
  |nil=>show ú
  |cons n ns=>rw[tW e]at h2;rw[ϫB]at h1;show(a,Ϥt,rfl,Ϲj,Û,λm b c=>?_);let(K,d):=se ns n;let e:ύ7=m:=Zdh (c _ K)<|d _ b;rw[<-e];show ϸr
def uO(k:Υ):ϻE R6 mN:=by
 rw[k];show ϪC;cases e:dN d with
 |none=>rw[e]at p;show ú
 |some q=>
  rw[e]at p;cases q with
  |nil=>show ú
  |cons n ns=>rw[tW e]at h2;rw[ϫB]at h1;show(a,Ϥt,rfl,Ϲj,Û,λm b c=>?_);let(K,d):=vL ns n;let e:ύ8=m:=Zdh (d _ b)<|c _ K;rw[<-e];show ϸr
def sL(m:Υ):ϻE Q6 mB:=by
 rw[m];show ϪC;cases e:dN d with
 |none=>rw[e]at p;show ú
 |some ns=>rw[e]at p;rw[tW e]at h2;rw[ϫB]at h1;show(a,ns,rfl,Ϲj,ϸr)
def Sk(m:Υ):ϻE Xh mM:=by
 rw[m];ext x dx F H f Q s R p;cases R with
 |nil=>show ú
 |cons h r=>
  cases r with
  |cons _ _=>cases h<;>show ú
  |nil=>
   cases h with
   |lst h1 h2=>show(_,_,rfl,Ð Ϲj,λl a=>ϫA h2 a)
   |tup h1 h2=>show(_,_,rfl,Ø ϑt,λl a=>ϫA h2 a)
   |_=>show ú
def EV(T:String)(a:Fe):Fe:=λb=>ι λx=>Ja T x.er
def Rx(K:At)(T:String):À V->Hp->Ú VK:=Ϸy (∃x d b,X=[x,.ty T]/\Ŀ H x d/\Qo T d=ϧ/\Q ϵO H)
def Tj{K:At}{T U:String}(h:ϕz)(k:ϩw\/ϭ3):kitOne K (Ω U) (Ω T)=Â (Õ ϏV):=by rcases h with rfl|rfl|rfl|rfl|rfl|rfl<;>rcases k with rfl|rfl|rfl|rfl|rfl<;>rfl
def Jy{K:At}{T U:String}{d:Gc}{b:Bool}(H:Rv d=some U)(h:ϕz)(e:Qo T d=ϧ):kitOne K (Ω U) (Ω T)=ϧ:=by
 erw[Qo]at e;rw[H]at e;let e':(if ϩw\/ϭ3 then Â (Õ ϏV)else none)=ϧ:=e;cases k:ϩw\/ϭ3
 .rw[Os k]at e'
  rw[<-e'];show Tj h k
 rw[P3 k]at e';cases e'
end
section
variable{M:Mx}{X:Cx}{e a b c:On}{pos:Pos}
def Iq(T:String):ϳL (Ρ "isinstance") (Rx X.K T):=by
 ext P s g H S U Q I r h;let(x,d,b,rfl,R,e,q):=h;let(u,v,rfl,L,V):=Vals.two r;cases V;let fin:∀tk,ϵW P g Q (ã b) {s with toks:=tk}:=λtk=>⟨ϵO,H,I.tok tk,rfl,q⟩
 cases R with
 |non=>
  cases(ϥQ<|u=Value.none);show ϮR PySem.W.kitx_none (ύY Û e) ϳT fin
 |bl y=>
  cases(ϥQ<|u=Value.bool y);show ϮR PySem.W.kitx_bool (ύY Û e) ϳT fin
 |int i=>
  let(t,c):=(ϥQ ϐE)
  cases c;show ϮR PySem.W.kitx_int (ύY Û e) ϳT fin
 |str y=>
  let(t,c):=(ϥQ<|∃t,u=Value.str y t)
  cases c;show ϮR PySem.W.kitx_str (ύY Û e) ϳT fin
 |@lst a S ds h1 h2=>
  cases(ϥQ<|u=ϹA);let(_,f,n,_,_,he):=h1.obj I;show K8V PySem.W.kitx_list I.kIn (ϲi he) (Jy (d:=Ï ds) rfl Û e) ϳT fin
 |@tup a S ds h1 h2=>
  cases(ϥQ<|u=ϹA);let(_,_,_,p):=(ύ (Ϲn H s.Ì a (Ī S))<|I.hok a _ h1)
  let(o,k,K,_):=p;show K8V PySem.W.kitx_tuple I.kIn ⟨o,k,K⟩ (Jy (d:=Ą ds) rfl Û e) ϳT fin
 |dct _ _ _=>have e':(none:όv)=ϧ:=e;cases e'
private def Yt(h:ď (EV T fa) σ H Q):tCB (Rx M.K T) (iA (ď fa)<|ϸU (tC<|.ty T)) σ H Q:=by
 let(F,a,f,S,p):=h;show(F,a,f,S,Ń Ϯo);let(G1,D,k):=ϲN w;erw[Ja]at px;split at px
 .rename_i b B
  show(v,x.er,b,rfl,k.Î D.fh,B,ϪD px ϵO)
 cases px
def Fj(hg:γ "isinstance")(a:X.mg "isinstance"=none)(g:γ x)(m:ϥn)(t:Ϲi=Â (Ω T))(h:ï e fa)(n:ϱE Ϲd)(d:ϲx)(S:à (æ [e,ð p2]=ϰG (æ [ð p2])))(s:à (æ [ð p2]=Ϲe (ð p2) (æ [])))(l:à (ϰY<|ϲB<|æ [ð p2])):
  ï (ϳO "isinstance" [e,ð p2]) (EV T fa):=λk H=>by
 let q:=Eu (p:=p) (pos:=pos) (Iq T) hg a wB (f7 (h k H) (f7 (O4 (v:=V.ty T) (pos:=p2) g m t rfl n d) tZ s) S) Ý Ý S l;rw[k]at q;show peI q (ϭs (Yt z))
def IJ(a b:Fe):Fe:=λc=>ó (a c) λx=>match x.er with
 |.list ds=>ó (b c) ϯo
 |_=>Î
private def zk(A:ï a fa)(h:ï e fb)(b:à (attributeBase a "index" X.Ü ϰI=ϰI))(f:à (Μ<|(ϵ8<|æ [e]).all Ϲz&&ϦY&&Õ (Ã ([e]:À On)+Ã ([]:À Keyword)+(Ë ([]:À Keyword).isEmpty 0 1)<30)))(i:à ϤX)(s:à (æ [e]=ϰG (æ [])))(l:à (ϰY<|ϵ8<|æ [])):
  ï (ϱc (ϴL a "index" ap) [e] cp) (IJ fa fb):=λm n=>by
 let q:=Ϙt PySem.F.slot_list_index PySem.F.type_list_index Nc (A m n) (f7 (h m n) tZ s) b f i s l;show peI q λJ H Q h=>?_;let(F,k,g,S,p):=h;show(F,k,g,S,Ń λx px v u C I e1 r W=>?_);let(G1,D,K):=ϲN W;generalize x.er=d at px K;cases K with
 |@lst a' vs ds h1 h2=>
  let j:Ĉ g ϸ (ó (fb k) ϯo):=px;show(Ð ⟨rfl,vs,ϥj (ϹI D.fh)⟩,G1,k,g,Ϲ7,Ů ((az.ï j).ext D) λy py w B G Y E R t=>?_);let(G2,c,o):=R.Ė E t;erw[yY]at py;generalize y.er=d' at py o;cases o with
  |int z=>
   let P:Ĉ g ϸ (match dN ds with|some ns=>Ë ϸF (oI ϧB) Î|none=>Î):=py
   split at P
   .rename_i ns N
    split at P
    .rename_i Z
     rw[tW N]at h2;rw[ϫB]at h1;show(a',ns,z,rfl,rfl,ϥj ((h1.Î c.ff).same c.fh).sq,Z,ϛD<|Ä _)
    .cases P
   .cases P
  |non=>show py.Ä
  |bl _=>show py.Ä
  |str _=>show py.Ä
  |dct _ _ _=>show py.Ä
  |lst _ _=>show py.Ä
  |tup _ _=>show py.Ä
 |non=>show px.Ä
 |bl _=>show px.Ä
 |int _=>show px.Ä
 |str _=>show px.Ä
 |dct _ _ _=>show px.Ä
 |tup _ _=>show px.Ä
end
theorem wA{K:At}{F H:Hp}(m:Nat):∀{v:À V}{s:À Gc},Λ v s->ϰy (v.Ç some++϶Z none) ((s.Ç λd=>Â ϥZ)++϶Z none) []
 |_,_,.nil=>by
  change ϰy (϶Z none) (϶Z none) [];let:=Z1.nones (K:=K) (F:=F) (H:=H) m õ;rw[K9d,K9d]at this;show this
 |_,_,.cons h r=>ϖJ<|wA m r
theorem fn3{P:Do}{w:Ev}{K:At}{g:Ŏ}{base:Op}{x qual:Str}{T:No}{f:Ix}{fd:Fk}{N b:À Str}{k:Nat}{body:Fs}(F:ϮO)(S:Fq N b ϵI)
  (h:∀(c:Db)(A:Go)(outer:À PySem.Env)(s:Da)(H:Hp)(E:XK),ϦZ ϵI->DSs όw (Ϗe g) ϩO body):
  ϳ5 g base y_ (k+1) f fd b (ϩl g<|aZ b.À N.À body):=by
 let C:ώM b.À:=by
  let:=Ż S.pre;rw[K9f]at this;lia
 let l:ϕn:=by
  ext e H Q E ⟨F,D,sm,R,p⟩;cases L:D.À=b.À
  .rw[ώm]
   show L
  erw[aZ]at p;rw[P3 L]at p;cases p
 show F.ok S l λc A outer s H e Q E hr n=>?_;let V:=l _ _ _ _ n;let(t,D,sm,R,p):=n;let d:D.À=b.À:=Ϙ ώm V
 erw[aZ]at p;rw[Os d]at p;show(_,ϏK,t,zS N.À D,[],(sm,?_,K8w,ϰX,?_),Ń ϨA)
 .unfold L2.start zS
  rw[V,d];show wA _ R
 .unfold zS
  change ϔm;rw[K9v,K0,K8r,d];lia
 cases o with
 |nx ρ=>show λG i j B u T=>po Α i j [] ⟨T.ff,ϦB (ϻc Û),u.same,λa q z=>Ϧv q Û z⟩ (Res.sh Α) ϰX
 |rt y=>exactλv i j fx sm' r T=>po v i j fx ⟨T.ff,ϦB (ϻc Û),sm',λa q z=>Ϧv q Û z⟩ r λa m=>ϵb (T.new a m) ϯf id
 |bk ρ=>show po.Ä
 |ct ρ=>show po.Ä
def Iz{K:At}{M I:Ŏ}{S:Da}{g:À Db}{ns:À Int}(X:K.In S.Ì)(p:S.ġ mainGlobals M)(B:S.ġ builtinsNs I)(D:∀x:Str,Ϲd->I x=Ϲi)(L:S.heap.NoLimit)(hg:S.Ĭ=#[])(A:S.Ë a=Â ((Ċ "list" (δ g.Æ))))(hi:IntsAre g ns)(T:ŀ ns.À)(hr:ϴh callerA)(F:∀base:Op,K.In base->ϐT M->ϳ5 M base CX k fa fd [x] sp)(i:∀(s:Da)(u:Db),ϥk ((ϱd [u])) [(x,u)])(G:∀H:Hp,U6 H->ϸq a ϲg->sp [É a] H (λv x=>v=ϬA) ϧL)(C:∀H e c,CX [] H S ϧL e c->False):
  ϸy ϻw callerA (.call (É fa) (ϱd [É a])) (λr c=>r=ϩg (ã true)/\Ϗj) S:=by
 let U:=ou hi;let y:=hi.À;let core:∀H:Hp,U6 H->ϸq a ϲg->ϩt H S.Ì->(∀b,H b≠none->b=a)->(Ϩz->ό0=none)->
   ϸy ϻw callerA (.call (É fa) (ϱd [É a])) (λr c=>r=ϩg (ã true)/\Ϗj) S:=by
  ext H R hS O Q hK;let f:∀{b:Ix}{o:Obj},ϒE=Ö->ϰ7->ϰV ϫr b=Ö:=λe n=>Kv e n;let J:∀{b:Ix}{o:Obj}{j:Ζ DictEntry}{E:Nat},ϒE=Ö->o.data=.dict j E->ϰ7:=fun{b o j E} e d=>by
   cases q:H b with
   |none=>rfl
   |some u=>
    let e':b=a:=Q b (ϳj q);subst e';rw[A]at e;cases e;let d':Data.seq g.Æ _=Data.dict j E:=d;cases d'
  let N:∀{b:Ix}{m:Ŏ},S.ġ b m->(ϫr).Ns b m:=fun{b m}⟨o,j,E,e,d,r⟩=>⟨o,j,E,f e<|J e d,d,r⟩
  let l:K.In ϫr:=λb o e=>f (X b o e) (by
   cases q:H b with
   |none=>rfl
   |some u=>
    let e':b=a:=Q b (ϳj q)
    subst e';rw[hK<|ϳj q]at e;cases e)
  let hM:Mod K M ϫr:=⟨l,N p,⟨I,N B,D⟩,let⟨mc,h1,h2⟩:=L;⟨mc,N h1,h2⟩⟩;let W:ϔj M ϫr callerA [] S H:=⟨rfl,hM,ϲZ (Qw e),Nat.le_of_eq<|Jw _ _,trivial,λb B=>ĭ (show b∈([]:À Ix)from B) Û,O,.of_eq hg⟩
  show codeAny_mono ((F _ l<|N p).run callerA [] S H (ϱd [É a]) [É a] [É a] _ _ hr W (i S<|É a) (ą rfl õ)<|G H R hS) λr c h=>?_;cases r with
  |error e=>show ϵb (C H e c h)
  |ok fl=>
   cases fl with
   |next=>show ϒ2
   |brk=>show ϒ2
   |cont=>show ϒ2
   |ret u=>
    let(v,H',os,bare,un,t,r',q):=h;let q':v=ϬA:=q;subst q';obtain rfl:u=Value.bool true:=r';show(rfl,OldK.of_keep (ϲZ ?_),os,bare);cases q:H b with
    |none=>show un.ĉ b o e q (by ext z;show ĭ (ύ (b∈([]:À Ix)) z) Û) Û
    |some u=>
     rcases R b with z|⟨ob,xs,z⟩
     .rw[q]at z;cases z
     .let z2:=un.frzs b ob _ z
      let(e1,_):=O b _ z;let(Y,_):=t b _ z2;rw[e]at e1;cases e1;show Y
 cases hk:K.Ð a with
 |some o=>have e:=X a o hk;rw[A]at e;cases e;apply core ϹM (λx=>Ð rfl) (Ø ⟨g.Æ,_,hk,by rw[K9W,y];show T,ϮZ⟩) (λb u z=>by let Z:(none:Ü HO)=ķ:=z;cases Z) (λb z=>Ϡ z) λz=>Ϡ z
 |none=>
  show core (λb=>if b=a then some (.frz (Ċ "list" (δ g.Æ))<|ô ϲg)else none) (λb=>?_) (Ð<|Ø ⟨Ċ "list" (δ g.Æ),Ĝ⟩) (λb u z=>?_) (λb z=>?_) λx=>hk
  .by_cases B:b=a
   .show Ø ⟨_,_,Os B⟩
   show Ð<|P3 B
  .by_cases B:b=a
   .let Z:=(Os B).symm.trans z
    cases Z;subst B;show(A,by rw[K0];show T,g,_,U,A)
   let Z:=(P3 B).symm.trans z;cases Z
  cases B:b=a
  .show B
  show ĭ (P3 B) z
def Li{l:PySem.W.OpenLaw}{P:Ŏ->Ú Op}{y:Ev->Ú Op}{d:DefRec}{K:Params->At}{CX:Ev->CXT}{sp:Ev->Sp}(A:l.most=ϵL)(N:όs)(D:ϐI)(hr:ϴh callerA)(t:∀(w:Ev)(h:Op),y w h->(ϻC).In h)(F:∀(w:Ev)(m:Ŏ)(fa:Ix)(h:Op),(ϻC).In h->Ϻ9 m->m d.name=Â (É fa)->
   ϔ4 (CX w) (sp w))(p:∀(w:Ev)(H:Hp)(a:Ix)(ns:À Int),ϯ9->U6 H->RdK ϻC H a ϲg->sp w [É a] H (λv x=>v=ϬA) ϧL)(C:∀(w:Ev)(H:Hp)(s:Da)(e:Db)(c:Da),CX w [] H s ϧL e c->False):
  ϘR y l.Č d [] (λf i=>ϒX i):=by
 show Att.DU A D λw s₀ S m M fa o pm cd doc a i ns G Y O E z g b hints L hg=>?_;let X:=t w _ Y;let(fd,B,j):=F w m fa _ X G.T.g g;show Iz X G.T.g G.T.b G.T.builtins G.T.nolimit hg b hints (K9C L N) hr j B (λH R r=>p w H a ns L R r) λH e c=>C w H S e c
def WH{l:PySem.W.OpenLaw}{P:Ŏ->Ú Op}{Y:Ev->Ú Op}{d:DefRec}{K:Params->At}(N:l.most=Â 63)(g:ϐI)(hr:ϴh callerA)(A:∀(w:Ev)(h:Op),Y w h->(ϻC).In h)(B:∀ns:À Int,ns.À<=63->fn [Ï ō]=þ (ã true))(F:∀(w:Ev)(m:Ŏ)(fa:Ix)(h:Op),(ϻC).In h->Ϻ9 m->m d.name=Â (É fa)->
   ϔ4 y_ (sp3 ϻC m fn)):
  ϘR Y l.Č d [] (λf V=>ϒX V):=by
 show Li (n:=63) (k:=k) (x:=x) (CX:=Ţ y_) (sp:=λw V H Q E=>∃F D x,ϰP/\E5 ϻC F V D/\fn D=ϴ2/\OkE ⟨ϻC,ϹM,E⟩ F H Q x) N Ý g hr A (λw m fa h a b c=>?_) (λw H a ns L x S=>?_) λx x x x x z=>z
 .let(fd,o,t):=F w m fa h a b c
  show(fd,o,λbase C nb=>(t base C nb).imp ?_);ext V H Q E ⟨F0,D,y,sm,ra,e,p⟩;show(F0,D,sm,ra,?_);rw[e];exactλv i j X=>p v i j X
 show(H,[Ï ō],_,ϰ3,ą (ô S<|E5.ofInts ns) õ,B ns L,?_);ext v i j X e r w;cases r.own with|sh q=>cases q;rfl
def bD{P:Do}{w:Ev}{K:At}{m:Ŏ}{base:Op}{x qual:Str}{T:No}{f:Ix}{fd:Fk}{N p:À Str}{k np n:Nat}{body:Fs}{fn:Fn}(a:fn=aZ np n body)(d:p.À=np)(b:ϔv)(F:ϮO)(S:Fq N p ϵI)
  (h:∀(c:Db)(A:Go)(outer:À PySem.Env)(s:Da)(H:Hp)(E:XK),ϦZ ϵI->DSs όu (Ϗi ϵI) ϩO body):
  ϳ5 m base y_ (k+1) f fd p (ϩl m fn):=by
 subst a d b;show fn3 F S h
def tQ:Passes y_ X E:=λx x x x x x x h=>h.Ä
def Dg:ϰe|.int i,.int j=>oI<|i+j|_,_=>Î
def EK:ϩ (ipI ϔh) Dg:=Ϧ3 okI
end L3
namespace L3
open PySem L2
def UT(i:Int):Ja "int" (Ä i)=oB true:=rfl
def Ug(i:Int):Ja "bool" (Ä i)=oB false:=rfl
def V0(i:À Gc):Ja "tuple" (Ą i)=oB true:=rfl
def aaf:ϳs 0:=Ý
def ZM:ϳs 1:=Ý
def Zu:ϳs 2:=Ý
def ZG:ϳs 3:=Ý
theorem MJ(I:Nat->Ú Env):∀(s:À Gc)(k:Nat)(a:Env),I k a->(∀(i:Nat)(d:Gc)(a:Env),ϵT=ϰN->I (k+i) a->∃j c,g Ř a=.ok j/\(b j=Ħ (.nx c)\/b j=Ħ (.ct c))/\I (k+i+1) c)->
  ∃f,ϴf s a=Ħ (.nx f)/\I (k+s.À) f:=by
 induction _ with
 |nil=>ext k a h _;show(a,rfl,h)
 |cons d s N3=>
  ext k a h T;let(j,c,l,H,m):=T 0 d a rfl h;let(f,e,n):=N3 (k+1) c m λi d' a D hi=>ϱD (T (i+1) d' a (by simpa using D) (ϷX<|ê (k+(i+1)=k+1+i))) (ê (k+(i+1)+1=k+1+i+1))
  show(f,?_,by rw[K9p,ê (k+ϒu=k+1+s.À)];show n);rw[aY',l,cB];rcases H with H|H
  .rw[H,cB]
   show e
  rw[H,cB];show e
def Iw(S:Nat->Ú Env)(H:S 0 c)(T:∀(i:Nat)(d:Gc)(c:Env),ds[i]?=ϰN->S i c->∃f j,g Ř c=.ok f/\(b f=Ħ (.nx j)\/b f=Ħ (.ct j))/\ϥV j):
  ∃a,ϴf ds c=ϹH/\ϓK a:=by
 let(a,e,h):=MJ S ds 0 c H λi d c D hi=>by rw[K87]at hi⊢;show T i d c D hi
 show(a,e,by rw[K87]at h;show h)
def cI{lo:Int}(h:á (ky lo n)=ϰN):i<n/\d=Ä (lo+i):=by
 erw[ky]at h;rw[N2]at h;let(j,J,rfl):=Ϲ8;let(H,a):=ϩz;let f:i=j:=ϑy
 subst f;show(Ϻ4,rfl)
def gF(lo:Int)(n:Nat):Ã (ky lo n)=n:=Ϩc ky
def IT(h:ϲT n ρ=.ok o):dX t b ρ=.ok o:=by
 let mono:∀(n:Nat)(ρ:Env),ϲT n ρ≠Î->∀m,n<=m->ϲT m ρ=ϲT n ρ:=by
  ext n
  induction n with
  |zero=>ext ρ H;show Ϡ H
  |succ n ih=>
   ext ρ H m M;obtain⟨m,rfl⟩:∃k,m=k+1:=⟨m-1,Á⟩
   rw[ft']at H⊢;rw[ft'];cases ht:t ρ with
   |bad=>rfl
   |ex c=>rfl
   |ok c=>
    rw[ht,cB]at H;rw[cB,cB];cases c with
    |false=>rfl
    |true=>
     rw[Ĝ]at H⊢;rw[Ĝ];cases hb:b ρ with
     |bad=>rfl
     |ex c=>rfl
     |ok o=>
      rw[hb,cB]at H;rw[cB,cB];cases o with
      |nx ρ2=>show ih ρ2 H m Á
      |ct ρ2=>show ih ρ2 H m Á
      |bk ρ2=>rfl
      |rt x=>rfl
 erw[dX];let X:∃n,ϲT n ρ≠Î:=⟨n,by rw[h];exact ϯf⟩
 rw[dif_pos X];let e1:=mono n ρ (by rw[h];exact ϯf) (n+X.ĥ) Á;let g:=mono X.ĥ ρ X.į (n+X.ĥ) Á;rw[<-g,e1,h]
def JS(I:Nat->Ú Env)(Q:Ú Env)(T:∀m c,I m c->(t c=϶6/\Q c)\/(t c=ϵs/\∃d M,(b c=Ħ (.nx d)\/b c=Ħ (.ct d))/\M<m/\I M d)):∀(m:Nat)(c:Env),I m c->∃a,dX t b c=ϹH/\Q a:=by
 let go:∀(m:Nat)(c:Env),I m c->∃n a,ϲT n c=ϹH/\Q a:=by
  ext m
  induction m using Nat.strongRecOn with
  |ind m ih=>
   ext c h;rcases T m c h with⟨f,H⟩|⟨f,d,M,H,g,i⟩
   .exact(1,c,by rw[ft',f];rfl,H)
   let(n,a,e,q):=ih M g d i;show(n+1,a,?_,q);rw[ft',f,cB,Ĝ];rcases H with H|H
   .rw[H,cB]
    show e
   rw[H,cB];show e
 ext m c h;let(n,a,e,q):=go m c h;show(a,IT e,q)
def WN:Ü (Ü OD)->Ĭ|some (some<|.sh d)=>.ok Ř|_=>Î
def opK(g:ϰe)(r s:Ĭ):Ĭ:=ϴw (λx=>s.ï λy=>Ϩk)
def unK{α β:Type}(g:ώi)(r:ϲ4):R β:=ϴw g
def S9(r:ϵN)(b:Ft)(a:Env):ϵN:=ϴw (λc=>Ë ϱt (b a) ϶6)
def orK(r:ϵN)(b:Ft)(a:Env):ϵN:=ϴw (λc=>Ë ϱt ϵs (b a))
def PY(r:ϵN)(b:Fe)(a:Env):Ĭ:=ϴw (λc=>Ë ϱt (b a) (þ (ã false)))
def orV(r:ϵN)(b:Fe)(a:Env):Ĭ:=ϴw (λc=>Ë ϱt (þ (ã true)) (b a))
def ifV(r:ϵN)(a b:Fe)(d:Env):Ĭ:=ϴw (λc=>Ë ϱt (a d) (b d))
def ifK(r:ϵN)(a b:Fs)(d:Env):ϲr:=ϴw (λc=>Ë ϱt (a d) (b d))
def R3(r:Ĭ)(s:R (À OD)):R (À OD):=ϴw (λx=>s.ï λX=>.ok ϦF)
def Sg(r:ϲr)(b:Fs):ϲr:=r.ï λo=>match o with
 |.nx ρ'=>b ρ'
 |o=>.ok o
def WU(r:Ĭ)(g:Fg)(b:Env):ϲr:=ϴw (λx=>ó (g x b) λa=>ϹH)
def W7(r:R (À Gc))(g:Fg)(b:Fs)(a:Env):ϲr:=ϴw (λd=>ϴf d a)
def RT(r:R (À Gc))(g:Fg)(t:Ft)(e:Fe)(a:Env):Ĭ:=ϴw (λd=>ó (ϥv d []) λX=>ģ X)
def slK(g:Gc->ϱv (Ü Int) Ĭ)(a:Ĭ)(l h:R (Ü Int)):Ĭ:=a.ï λx=>l.ï λi=>h.ï λj=>ϔr
def UB(a:Ĭ)(b:Fe)(c:Env):Ĭ:=a.ï λx=>match x.er with
 |.list ds=>ó (b c) ϯo
 |_=>Î
def Xf(o:Ü (Ü OD))(a:Ĭ)(i:Nat)(b:Env):ϲr:=match o with
 |some (some<|.ol xs)=>ϰq (λy=>Ë ϒ0 (϶ b.ß ϬH) Î) a
 |_=>Î
def RZ:Ü (Ü OD)->ϲr|some (some x)=>ϴK|_=>Î
def Wr(o:Ü (Ü OD))(i:Nat)(a:Env):Env:=match o with
 |some (some x)=>Ϲm<|Â Ϭb
 |_=>a
def UQ(r:ϲr):Ĭ:=r.ï λo=>match o with
 |.rt x=>ϴ2
 |.nx _=>þ ò
 |_=>Î
def Ym(o:Ü (Ü OD))(g:ϰe)(a:Ĭ)(i:Nat)(b:Env):ϲr:=match o with
 |some (some<|.sh d)=>ϰq (λy=>ϰq (λz=>ų<|ϻi<|Â z)<|g d y.er) a
 |_=>Î
section
variable{ρ:Env}{s t:Ft}
def v_var(i:Nat):aa i ρ=WN Ϸt:=rfl
def v_c(d:Gc):eC d ρ=Ħ Ř:=rfl
def aad(g:ϰe):F4 g a b ρ=opK g ϳ ϵS:=rfl
def Yc(r:ϲ4)(g:ώi):ϴw g=ϰq g r:=rfl
def Zg(g:Gc->Ĭ):eUn g a ρ=ϰq (λx=>g x.er) ϳ:=rfl
def TZ:ϸ4 aD ϵn:=rfl
def Vh:p_ s t ρ=S9 ϩQ t ρ:=rfl
def Xv:pZ s t ρ=orK ϩQ t ρ:=rfl
def Sx:nI s ρ=ϰq (λc=>.ok<|!c) ϩQ:=rfl
def tru(r:Ĭ):ϵN:=ϰq (λx=>ϵn) r
def v_and:Ao a b ρ=PY (tru ϳ) b ρ:=by
 erw[Ao,tru];cases a ρ with
 |ok x=>
  change ó ϵn _=PY ϵn b ρ;cases truth x.er with
  |ok c=>cases c<;>rfl
  |ex c=>rfl
  |bad=>rfl
 |ex c=>rfl
 |bad=>rfl
def v_or:eOr a b ρ=orV (tru ϳ) b ρ:=by
 erw[eOr,tru];cases a ρ with
 |ok x=>
  change ó ϵn _=orV ϵn b ρ;cases truth x.er with
  |ok c=>cases c<;>rfl
  |ex c=>rfl
  |bad=>rfl
 |ex c=>rfl
 |bad=>rfl
def v_not:Ap a ρ=ϰq (λc=>þ<|ã<|!c) (tru ϳ):=by
 erw[Ap,tru];cases a ρ with
 |ok x=>
  change ó ϵn _=ϰq _ ϵn;show Yc _ _
 |ex c=>rfl
 |bad=>rfl
def Z_:eIf s a b ρ=ifV ϩQ a b ρ:=rfl
def MA:ai ρ=Ħ []:=rfl
def xH:ae a r ρ=R3 ϳ (r ρ):=rfl
def XA:d_ r ρ=ϯ1 (Ë όa (Ħ (mkT X)) Î):=rfl
def XE:bO r ρ=ϯ1 (Ë όa (ģ X) Î):=rfl
def Ss:aj f r ρ=ϯ1 (f ϳf):=rfl
def v_b:eB f r ρ=ϯ1 (f ϳf):=rfl
def Zc:ϸ4 Rs (þ x.er):=rfl
def v_bor:pX a ρ=ϰq (λx=>flc x.er<|þ x.er) (a Ϭs):=rfl
def V6:Gk s ρ=s Ϭs:=rfl
def RF:OD->Ĭ
 |.ol xs=>Ë (ϵ xs.all ϻa) (ģ ϮG) Î
 |_=>Î
def SH:mE a ρ=ϰq RF (a Ϭs):=rfl
def WY:erase []=[]:=rfl
def YS(x:OD):erase (Ď::ρ)=Â Ϭb::Ϭs:=rfl
def Y_:erase (none::ρ)=none::Ϭs:=rfl
def Oo:iN ρ=.ok none:=rfl
def RM:ϤT (Ü Int)|.int i=>.ok ϸv|_=>Î
def PC:ϸ4 d8 (RM x.er):=rfl
def Zo:eSl g a l h ρ=slK g ϳ (l ρ) (h ρ):=rfl
def lstK:ϤT (À Gc)|.list ds=>ϩI|_=>Î
def tupK:ϤT (À Gc)|.tuple ds=>ϩI|_=>Î
def r1K:ϤT (À Gc)
 |.int j=>Ë (ϵQ aE) ϧq Î
 |_=>Î
def enK:ϤT (À Gc)|.list ds=>.ok<|fC ds|_=>Î
def V4:ϸ4 bY (lstK x.er):=rfl
def ET:ϸ4 iTp (tupK x.er):=rfl
def Zp:ϸ4 iR1 (r1K x.er):=rfl
def Zm:ϸ4 iEn (enK x.er):=rfl
def SQ(g:Gc->ϤT (À Gc))(r s:Ĭ):R (À Gc):=ϴw (λx=>s.ï λy=>Ϩk)
def Zv:iR2 a b ρ=SQ r2F ϳ ϵS:=rfl
def Zb:iZp a b ρ=SQ O2 ϳ ϵS:=rfl
def WW(i:Nat)(x:OD):K2 i x ρ=.ok (ϰs Ď):=rfl
def Yk:bB [] ρ=Ħ ρ:=rfl
def X8:ar g r ϩk ρ=ϰq (λa=>r xs a) (g x ρ):=rfl
def YT:gTp n r (.sh<|Ą ds) ρ=Ë (ds.À=n) (r ϶a ρ) Î:=rfl
def VR{it:Fi}:aP it g t a k outs ρ=RT (it ρ) g t a (ϒZ ρ):=rfl
def Wm:ϒZ ρ=ϳX none++ϵC (λi=>Cd Ϸt):=rfl
def Zk:sNx ρ=ų ρ:=rfl
def Xm:ao p q ρ=Sg (p ρ) q:=rfl
def YJ:K_ a g ρ=WU ϳ g ρ:=rfl
def Xa(i:Nat):ax i a ρ=ϰq (λx=>ų<|ϰs Ď) ϳ:=rfl
def Tn:ϸ4 AF (ų ρ):=rfl
def YG:ϸ4 bF ϴK:=rfl
def Vy(i:Nat):dB i ρ=RZ Ϸt:=rfl
def XR:sIf s p q ρ=ifK ϩQ p q ρ:=rfl
def YE(i:Nat):pq i p ρ=p (Ox i ρ):=rfl
def VT(i:Nat):Ox i ρ=Wr Ϸt i ρ:=rfl
def Xl(i:Nat):EU i g a ρ=Ym Ϸt g ϳ i ρ:=rfl
def XC(i:Nat):jD i a ρ=Xf Ϸt ϳ i ρ:=rfl
def Xc{it:Fi}:bZ it g p ρ=W7 (it ρ) g p ρ:=rfl
def Xj(T:String):EV T a ρ=ϰq (λx=>Ja T x.er) ϳ:=rfl
def WJ:IJ a b ρ=UB ϳ b ρ:=rfl
def W_:aZ np n p ds=Ë (ds.À=np) (UQ (p<|zS n ds)) Î:=rfl
def Xk(d:Gc):WN (some<|Â Ř)=Ħ Ř:=rfl
def aag:opK g ϴ2 ϶A=Ϩk:=rfl
def We:SQ g ϴ2 ϶A=Ϩk:=rfl
def ZA:ϰq g ϴ2=g x:=rfl
def UG:S9 ϵs t ρ=t ρ:=rfl
def UC:S9 ϶6 t ρ=϶6:=rfl
def Wj:orK ϵs t ρ=ϵs:=rfl
def W6:orK ϶6 t ρ=t ρ:=rfl
def PZ:PY ϵs a ρ=ϳ:=rfl
def O0:PY ϶6 a ρ=þ (ã false):=rfl
def Tp:orV ϵs a ρ=þ (ã true):=rfl
def VS:orV ϶6 a ρ=ϳ:=rfl
def UA:ifV ϵs a b ρ=ϳ:=rfl
def Ua:ifV ϶6 a b ρ=ϵS:=rfl
def XN:ifK ϵs p q ρ=p ρ:=rfl
def YO:ifK ϶6 p q ρ=q ρ:=rfl
def VI:R3 ϴ2 (.ok xs)=Ħ ϩk:=rfl
def Xp:Sg (ų ρ) p=p ρ:=rfl
def So:Sg ϴK p=ϴK:=rfl
def Yx:WU ϴ2 g ρ=ϰq (λa=>ϹH) (g x ρ):=rfl
def Wv:W7 ϩI g p ρ=aY g p ds ρ:=rfl
def UM:RT ϩI g t a ρ=ϰq (λX=>ģ X) (ϭu a ρ ds []):=rfl
def ZZ:slK g ϴ2 (.ok i) (.ok j)=ϔr:=rfl
def X2:Xf (some<|Â ϱq) ϶A i ρ=Ë ϒ0 (϶ ρ.ß ϬH) Î:=rfl
def T1:RZ (Â Ď)=ϴK:=rfl
def WK:Wr (Â Ď) i ρ=ϰs (Â Ϭb):=rfl
def SV:UQ ϴK=ϴ2:=rfl
def Sj:UQ (ų ρ)=þ ò:=rfl
def XU(x:OD):tru ϴ2=ϵn:=rfl
def O1(c:Bool):truth (ã c)=.ok c:=rfl
def YC:UB (þ<|Ï ds) b ρ=ϰq ϯo ϵS:=rfl
def W9:Ym (some<|Â Ř) g ϶A i ρ=ϰq (λz=>ų<|ϰs<|Â z) (g d y.er):=rfl
def Yo(d:À Gc):lstK (Ï d)=.ok d:=rfl
def Mc(d:À Gc):tupK (Ą d)=.ok d:=rfl
def Zs(d:À Gc):enK (Ï d)=Ħ (fC d):=rfl
def ZT(j:Int):r1K (Ä j)=Ë (ϵQ aE) ϧq Î:=rfl
def Zz(i j:Int):r2F (Ä i) (Ä j)=Ë (ϻg aE) (Ħ (ky i (ĩ (j-i)))) Î:=rfl
def XF(d e:À Gc):O2 (Ï d) (Ï e)=Ħ (gq d e):=rfl
def UO(i:Int):RM (Ä i)=Ħ ϸv:=rfl
def Vn(n:Nat)(s:À Gc):zS n s=(s.Ç λd=>Â ϥZ)++ϳ2 (n-s.À) none:=rfl
def Yu(d:Gc):Cd (some<|Â Ř)=Â Ř:=rfl
def Yp(d:Gc):mkT [Ř]=.sh (Ą [d]):=rfl
def Yd(d e:Gc):mkT [Ř,.sh e]=.sh (Ą [d,e]):=rfl
def Xu(d e f:Gc):mkT [Ř,.sh e,.sh f]=.sh (Ą [d,e,f]):=rfl
def Yl(i j:Int):a_ (Ä i) (Ä j)=.ok (Ñ<|i+j):=rfl
def WC(i j:Int):cO (Ä i) (Ä j)=.ok (Ñ<|i-j):=rfl
def Y2(i j:Int):cX (Ä i) (Ä j)=Ë ϫN (.ok (Ñ<|i*j)) Î:=rfl
def XT(i j:Int):ip (Ä i) (Ä j)=Ë (0<j) (.ok (Ñ<|i%j)) Î:=rfl
def WV(i j:Int):kq (Ä i) (Ä j)=@ite _ ϐU ϷM (.ok<|Ñ Ϥq) Î:=rfl
def YD(i:Int):bA (Ä i)=.ok (Ñ<|-i):=rfl
def ZK(i j:Int):gLt (Ä i) (Ä j)=þ (ã<|Õ<|i<j):=rfl
def Zt(i j:Int):gLe (Ä i) (Ä j)=þ (ã<|Õ<|i<=j):=rfl
def ZE(i j:Int):gGt (Ä i) (Ä j)=þ (ã<|Õ<|j<i):=rfl
def ZD(i j:Int):gGe (Ä i) (Ä j)=þ (ã<|Õ<|j<=i):=rfl
def ZU(i j:Int):gEq (Ä i) (Ä j)=þ (ã<|Õ<|i=j):=rfl
def Z6(i j:Int):gNe (Ä i) (Ä j)=þ (ã<|! Õ (i=j)):=rfl
def Sn(i j:Int):Dg (Ä i) (Ä j)=.ok (Ñ<|i+j):=rfl
def Xz(X:À Gc)(i:Int):J0 (Ï X) (Ä i)=lE (Ť X i):=rfl
def Y8(X:À Gc)(i:Int):J0 (Ą X) (Ä i)=lE (Ť X i):=rfl
def KL(X:À Gc):ba [Ï X]=.ok (Ñ X.À):=rfl
def SR(X:À Gc):ba [Ą X]=.ok (Ñ X.À):=rfl
def Se(x:Str):ba [Ė x]=Ë (x.À<=Tk) (.ok (Ñ x.À)) Î:=rfl
def Tr(i j:Int):yP [Ä i,Ä j]=.ok (Ñ<|ϻf<|j<i):=rfl
def NT(i j:Int):A6 [Ä i,Ä j]=.ok (Ñ<|ϻf<|i<j):=rfl
def E_(n:Int)(ns:À Int):lP [Ï<|int n::ō]=.ok (Ñ ύ7):=by
 change(match dN (Ê Ϥt int)with|some (n::ns)=>oI ύ7|_=>Î)=_;rw[l_];rfl
def L8(n:Int)(ns:À Int):mN [Ï<|int n::ō]=.ok (Ñ ύ8):=by
 change(match dN (Ê Ϥt int)with|some (n::ns)=>oI ύ8|_=>Î)=_;rw[l_];rfl
def lh(ns:À Int):mB [Ï ō]=.ok (Ñ ns.Ğ):=by
 change(match dN ō with|some ns=>oI ns.Ğ|_=>Î)=_;rw[l_];rfl
def SU(d:À Gc):mM [Ï d]=ģ ϫq:=rfl
def MM(ns:À Int)(z:Int)(h:ϸF):yY ō (Ä z)=.ok (Ñ ϧB):=by
 change(match dN ō with|some ns=>Ë ϸF (oI ϧB) Î|none=>Î)=_;rw[l_];change(Ë ϸF (oI ϧB) Î)=_;rw[ϰo];rfl
def Wu(X:À Gc)(i j:Ü Int):l6 (Ï X) i j=.ok (Ę<|ϲc X i j):=rfl
def Th(d:Gc):lE ϰN=Ħ Ř:=rfl
def at0(x:α)(X:À α):Ť ϦF 0=Ď:=by let:Ť ϦF ((ä 0))=Ď:=de rfl;show this
def at1(x y:α)(X:À α):Ť (x::y::X) 1=ϰO:=by let:Ť (x::y::X) ((ä 1))=ϰO:=de rfl;show this
def at2(x y z:α)(X:À α):Ť (x::y::z::X) 2=Â z:=by let:Ť (x::y::z::X) ((ä 2))=Â z:=de rfl;show this
def W0(c:Bool):oB c=þ (ã c):=rfl
end
def EC{i j:Int}(h:ϐy<i)(H:Ϙ7):ϫN:=(ϭW ϷM).mpr<|Ð ⟨Á,Á⟩
def FG{i j:Int}(h:ϐy<j)(H:j<18446744073709551616):ϫN:=(ϭW ϷM).mpr<|Ø ⟨Á,Á⟩
def dJ{i:Int}(h:-4611686018427387904<=i)(H:i<4611686018427387904):aE i=true:=iw.ó ⟨Á,Á⟩
def c8(h:n<1000):(n<Tk)=True:=ϸC (K9P h Ý)
def aF(h:n<=1000):(n<=Tk)=True:=ϸC (K9C h Ý)
def dP(i:Int){j:Int}(h:0<j):0<=i%j/\i%j<j:=⟨Int.emod_nonneg _ Á,Int.emod_lt_of_pos _ h⟩
def Fd(X:À α)(i:Int)(a:0<=i)(h:i<X.À):∃x,X[i.toNat]?=Ď/\Ť X i=Ď:=by
 obtain⟨j,rfl⟩:∃j:Nat,i=j:=⟨i.Ò,Á⟩
 let J:ό2:=Á
 show(X[j],ϓ9,de ϓ9)
def MX(l:ϴf ds j=r)(S:Nat->Ú Env)(H:S 0 j)(T:∀(i:Nat)(d:Gc)(j:Env),ds[i]?=ϰN->S i j->∃c f,g Ř j=.ok c/\(b c=Ħ (.nx f)\/b c=Ħ (.ct f))/\ϥV f):
  ∃a,r=ϹH/\ϓK a:=by
 let(a,e,h):=Iw S H T;show(a,by rw[<-l,e],h)
def qS(S:Ú Env):Ú ϲr|.ok (.nx ρ)=>S ρ|.ok (.ct ρ)=>S ρ|_=>False
def Xd:qS S (ų ρ)=S ρ:=rfl
def GP(h:qS S (unK b r)):∃a d,r=.ok a/\(b a=Ħ (.nx d)\/b a=Ħ (.ct d))/\S d:=by
 cases r with
 |ok a=>
  let h':qS S (b a):=h;cases hb:b a with
  |ok o=>
   rw[hb]at h';cases o with|nx d=>show(a,d,rfl,Ð hb,h')|ct d=>show(a,d,rfl,Ø hb,h')|bk _=>show h'.Ä|rt _=>show h'.Ä
  |ex _=>rw[hb]at h';show h'.Ä
  |bad=>rw[hb]at h';show h'.Ä
 |ex c=>show h.Ä
 |bad=>show h.Ä
def aX{P:Prop}(L:ϴf ds j=r)(S:Nat->Ú Env)(H:S 0 j)(T:∀(i:Nat)(d:Gc)(j:Env),ds[i]?=ϰN->S i j->qS ϥV (unK b<|g Ř j))(fin:∀f,r=Ħ (.nx f)->ϓK f->P):P:=by
 let(f,e,h):=MX L S H λi d j D s=>by let(k,l,a,b,c):=GP<|T i d j D s;show(k,l,a,b,c)
 show fin f e h
def sP{P:Prop}(L:dX t b f=r)(I:Nat->Ú Env)(m:Nat)(H:I m f)(Q:Ú Env)(T:∀m f,I m f->(t f=϶6/\Q f)\/(t f=ϵs/\qS (λi=>∃M,M<m/\I M i) (b f)))(fin:∀g,r=ų g->Q g->P):P:=by
 let(g,e,h):=JS I Q (λm f l=>by
  rcases T m f l with h|⟨j,k⟩
  .show Ð h
  let(n,i,a,b,M,c,d):=GP (r:=.ok f) k
  cases a;show Ø ⟨j,i,M,b,c,d⟩) m f H
 show fin g (by rw[<-L,e]) h
def YV(o:Ü (Ü OD))(a k:Ĭ)(i:Nat)(b:Env):ϲr:=match o with
 |some (some<|.ol xs)=>unK (λy=>unK (λz=>match z.er with
  |.int q=>match ϴH q with
   |some j=>϶ b.ß<|ϲE y
   |none=>Î
  |_=>Î) k) a
 |_=>Î
section
variable{ρ:Env}{a b k:Fe}
def v_sub(i:Nat):xj i k a ρ=YV Ϸt ϳ (k ρ) i ρ:=rfl
def yS{z:Int}(h:ϴH z=ϱ6):YV (some<|Â ϱq) ϶A (.ok<|Ñ z) i ρ=϶ ρ.ß (ϲE y):=by
 change(match (Đ ϭD).er with
  |.int q=>match ϴH q with
   |some j=>R.ok<|Out.nx<|ϰs<|Ň<|ϲE y
   |none=>Î
  |_=>Î)=_
 rw[bc];change(match ϴH z with
   |some j=>R.ok<|Out.nx<|ϰs<|Ň<|ϲE y
   |none=>Î)=_
 rw[h]
def cW(h:j<n):ixN n Ĵ=ϱ6:=by
 erw[ixN];rw[Os Á,Os Á];simp
def T5(o:Ü (Ü OD))(g:Fg)(i:Nat)(b:Env):ϲr:=match o with
 |some (some<|.ol xs)=>match xs.ī with
  |some (.sh d)=>ϰq (λa=>ϹH)<|g Ř<|ϻi<|Â<|.ol xs.Ù
  |_=>Î
 |_=>Î
def V8(i:Nat):IH i g ρ=T5 Ϸt g i ρ:=rfl
def M9:T5 (some<|Ň<|xs++[Ř]) g i ρ=ϰq (λa=>R.ok<|Out.nx a) (g Ř<|ϰs<|Â ϱq):=by
 let h:Ϥb (xs++[ϥZ])=Â Ř:=Û
 erw[T5];simp only[h,List.dropLast_concat]
def Yi(o:Ü (Ü OD))(a:Ĭ)(i:Nat)(b:Env):ϲr:=match o with
 |some (some<|.ol xs)=>unK (λy=>match y with
  |.ol ys=>Ë ϪR (϶ b.ß ϭd) Î
  |_=>Î) a
 |_=>Î
def YY(i:Nat):Es i a ρ=Yi Ϸt ϳ i ρ:=rfl
def L9:Yi (some<|Â ϱq) (.ok ϻX) i ρ=Ë ϪR (϶ ρ.ß ϭd) Î:=rfl
def BI{z:Int}(h:á ρ=Â (Â ϱq))(H:k ρ=.ok (Ñ z))(f:ϴH z=ϱ6)(c:Ϥv=Â ϻX)(g:ϳ=϶A)(b:ys.À<Tk):
  ui i k a ρ=϶ ρ.ß (ϲE<|.ol<|ys++[y]):=by
 erw[ui];rw[h,H];simp only[cB,bc,f,c,g,b,K83]
end
def aS(b:aJ g aT el ρ0 ds []=r)(m:α->Gc)(y:α->OD)(L:À α)(e:ds=ύ9)(l:L.À<=Tk)(h:∀x∈L,ϭ8):r=Ħ (L.Ç y):=by
 subst e;rw[<-b];let go:∀(L:À α)(a:À OD),(∀x∈L,ϭ8)->ϭm L.À<=Tk->aJ g aT el ρ0 ύ9 a=Ħ (a++L.Ç y):=by
  ext L
  induction L with
  |nil=>ext a _ _;rw[K9D,aJ'',K9D,K9d]
  |cons x L ih=>
   ext a h l;let H:=h x K9z;rw[K9p]at l;rw[K9w,aJ'];cases hg:g όR ρ0 with
   |ok ρ=>
    rw[hg]at H;let X:el ρ=Ħ (y x):=H;simp only[Jc,cB,aT,K83,X];rw[Os Á,ih (a++[y x]) (λz Z=>h z<|ě Z) (Ϻ K9v K9e),K9w,K9M];rfl
   |ex c=>rw[hg]at H;cases H
   |bad=>rw[hg]at H;cases H
 rw[Ϙ0 ϑo];rfl
def iS(d:ϭu el ρ0 ds []=r)(m:α->Gc)(p:ϲ0 α)(y:α->OD)(L:À α)(e:ds=ύ9)(l:L.À<=Tk)(h:∀x∈L,unK t (g όR ρ0)=Ħ (p x)/\(ϬR->ϭ8)):r=Ħ (Ê (L.Û p) y):=by
 subst e;rw[<-d];let go:∀(L:À α)(a:À OD),(∀x∈L,unK t (g όR ρ0)=Ħ (p x)/\(ϬR->ϭ8))->ϭm L.À<=Tk->ϭu el ρ0 ύ9 a=Ħ (a++Ê (L.Û p) y):=by
  ext L
  induction L with
  |nil=>ext a _ _;rw[K9D,aJ'',List.filter_nil,K9D,K9d]
  |cons x L ih=>
   ext a h l;let(H,b):=h x K9z;rw[K9p]at l;rw[K9w,aJ'];cases hg:g όR ρ0 with
   |ok ρ=>
    rw[hg]at H b;let X:t ρ=Ħ (p x):=H;let Y:ϬR->el ρ=Ħ (y x):=b;simp only[Jc,cB,X];cases P:p x=true
    .rw[Os P,Y P]
     simp only[cB];rw[Os Á,ih (a++[y x]) (λz Z=>h z<|ě Z) (Ϻ K9v K9e),Zbm P,K9w,K9M];rfl
    rw[P3 P,ih a (λz Z=>h z<|ě Z) Á,Zbb P]
   |ex c=>rw[hg]at H;cases H
   |bad=>rw[hg]at H;cases H
 rw[Ϙ0 ϑo];rfl
def lay(n:Nat)(d:Gc):Prop:=Μ d.Ħ/\d.depth<=n
def Qa(i:Int):lay 0 (Ä i):=(Ϸv ì)
theorem CG:∀{xs:À Gc},ϐ6->PyData.canLayAll0 xs=true/\PyData.depthAll xs<=n:=by
 induction _ with
 |nil=>ext _;show(rfl,ϰS)
 |cons x xs ih=>
  ext h;let(A,a):=h x K9z;let(b1,B):=ih λy Y=>h y<|ě Y;erw[PyData.canLayAll0,PyData.depthAll];rw[A,b1];show(rfl,Á)
def yB(h:ϐ6):lay (n+1) (Ï xs):=by
 let(b1,B):=CG h;show(ϵp PyData.Ħ b1,?_);erw[PyData.depth];lia
def Ji(h:ϐ6):lay (n+1) (Ą xs):=by
 let(b1,B):=CG h;show(ϵp PyData.Ħ b1,?_);erw[PyData.depth];lia
def cG(h:lay n d)(H:n<=64):SeqAt.shaped d=true:=by erw[SeqAt.shaped];rw[K9U];show(h.1,Z8<|K9C h.2 H)
def lay_ints(ns:À Int):lay 1 (Ï ō):=yB λx h=>by let(n,_,rfl):=ϥ8;show Qa n
def n_(a b:À Gc):ϗx (Ï a) (Ï b):=rfl
def AG(h:lay n d)(H:n<=64):k7 d d=ϵs:=by erw[k7];rw[cG h H,K7m,Ĝ,SeqAt.eqv_refl _<|K8Y<|cG h H]
def Kj(h:lay n (Ï a))(H:ϱE (n<=64)):gEq (Ï a) (Ï a)=þ (ã true):=ϰZ gEq n_ (AG h H)
def D1(h:lay n (Ï a))(H:ϱE (n<=64)):Ϛw (Ï a)=þ (ã false):=ϰZ gNe n_ (AG h H)
def Yb(z:Str)(i:Int):J0 (Ė z) (Ä i)=Ë (z.À<=Tk) (lE (Ê ϐ4 λc=>Ė ϥu)) Î:=rfl
def TF(x y:Str):a_ (Ė x) (Ė y)=Ë ϐx (þ (Ė<|x++y)) Î:=rfl
def kE(x y:À Gc):a_ (Ï x) (Ï y)=Ë ϐx (.ok (Ę<|x++y)) Î:=rfl
def Tz(X:À Gc)(k:Int):cX (Ï X) (Ä k)=@ite _ (Μ<|Õ (-ϷE<=k)&&Õ (k<ϷE)&&Õ (X.À*k.Ò<=Tk)) ϷM (ģ<|(ϳ2 k.Ò X).flatten.map OD.sh) Î:=rfl
def xA(x:Gc)(n:Nat)(h:n<=1000):cX (Ï [x]) (Ä n)=.ok (Ę<|όx x):=by
 rw[Tz,Os]
 .rw[K9n]
  congr 2
  induction n with|zero=>rfl|succ n ih=>rw[K99,K8a,K9i,ih Á,K99,K9w];rfl
 rw[K9U,K9U,K9k,K9k,K9k];show((Á,Á),?_);rw[K9n,K9e,Nat.one_mul];show K94<|aF h
def rg(p:ϲ0 α):∀(L:À α)(i:Nat),(∀k,k<i->∀x,L[k]?=Ď->ϬR)->(∀x,L[i]?=Ď->ł (p x))->i<=L.À->L.takeWhile p=L.Ö i:=by
 induction _ with
  |nil=>
   ext i _ _ _
   simp
  |cons x L ih=>
   ext x28 h1 h h3
   cases x28 with
    |zero=>
     rw[Zdd,h x rfl,K7t];rfl
    |succ i=>
     rw[Zdd,h1 0 Á x rfl,K7q,ih i (λk H y Y=>h1 (k+1) Á y ϧA) (λy Y=>h y ϧA)<|ť h3];rfl
def Hy(X:À Gc)(a b:Nat)(A:a<=X.À)(B:b<=X.À):ϲc X (Â ϑ) (Â ϩA)=Ł (X.ä a) (b-a):=by erw[cutD];rw[HT.uS,HT.uS,K8q A,K8q B]
def i8(X:À Gc)(a:Nat)(A:a<=X.À):ϲc X (Â ϑ) none=X.ä a:=by erw[cutD];rw[HT.uS,HT.CT,K8q A,K90<|Ă K8y]
open PySem.Spec PyProof.Rows
def Itd(lo:Int)(n:Nat):It:=⟨λi x=>i<n,όi (x=Ä (lo-i)),λi x=>n<=i⟩
def Jq{P:Do}{w:Ev}{K:At}{tg:On}(it:Ix)(lo:Int)(n:Nat):Ϯs (Itd lo n) (ϗ5 (-1) (Ŵ-(i:Nat))<|-1) where
 mem:=Û
 obj:=λi h T b B=>by
  let e:b=it:=ϳQ
  subst e;show(_,T,ϕO)
 keep:=ύy (k it Û _ T)
 item:=by
  ext X r a m C i p s c H E I f T hg;subst r a m;let(F,g,J,j,f4,l):=f it Û;let W:=PySem.Walks.range (prog:=X.ø) (w:=X.w) ϳW it lo (-1) n;show ϖu;let(t,rfl):=V;let d:ù p c H ((ϱl h' tk)):=I.ĝ (λb o B e=>q b o ϳQ e) F g j f4 l;show(_,rfl,He (s:=(ϱl h' tk)) (n:="range_iterator") S rfl rfl Ý ⟨Ä<|lo-i,H,d,⟨t,?_⟩,ϻm,S,ϯh⟩)
  congr 1
  lia
 done:=by
  ext X r a m C i p s c H E I f T hg;subst r a m;let(F,g,J,j,f4,l):=f it Û;show wpAny_pyNext_range_end ϳW T ϘM ϭM
 self:=ϮH wpAny_pyIter_rangeiter
def rangeSize_down(a b:Int):Builtin.Range.rangeSize a b (-1)=Ë (a > b) (a-b) 0:=by
 erw[Builtin.Range.rangeSize];simp only[ϱm (¬(Ì (-1) > 0)),if_false];let:(-(-1:Int))=1:=Ý
 rw[this,Int.ediv_one];split<;>lia
def small_down{a b:Int}(A:-ϴ<=a)(h:a<ϴ)(B:-ϴ<=b)(f:b<ϴ):Builtin.Range.small a b (-1)=true:=by
 erw[Builtin.Range.small];rw[rangeSize_down];simp only[Builtin.Range.rangeFitsLong,K9U,Bool.or_eq_true,K9k,beq_iff_eq,ϱm (¬(Ì (-1) > 0)),if_false]
 split<;>lia
section
variable{X:Cx}
def N_{s:Da}{R:It->Ú Hp}{E:Db->Ú Da}{lo hi:Int}(I:Ģ)(h:-ϴ<=lo)(a:lo<ϴ)(f:-ϴ<=hi)(c:hi<ϴ)(q:R (Itd lo (ĩ (lo-hi))) H):Ő (pyIter<|É s.Á) ϙE E ((ϱl (ϳi ((Ċ "range" (ϐ #[Ä lo t,Ä hi u,Ä (-1) v])))) tk)):=by
 show ϕ6 small_down;let i:ù H6 σ H ((ϱl (ϳi ((Ċ "range" (ϐ #[Ä lo t,Ä hi u,Ä (-1) v])))) tk)):=I.ò (ϲZ (ő e))
 show(Θ (ϳi<|(Ċ "range" (ϐ #[Ä lo t,Ä hi u,Ä (-1) v]))),[Θ (ϳi<|(Ċ "range" (ϐ #[Ä lo t,Ä hi u,Ä (-1) v])))],_,_,H,rfl,
  i.ò (t':=tk) (ϲZ (ő e)),Jq _ lo (ĩ (lo-hi)),?_,ϹL,q)
 .let e1:lo+ä 0*(-1)=lo:=Û
  let g:ä ((ĩ (lo-hi)))-ä 0=ϗq (-1):=by rw[rangeSize_down];split<;>lia
  change IsRangeIter _ _ (lo+ä 0*(-1)) (ä ((ĩ (lo-hi)))-ä 0) (-1);rw[e1,g];show Ϣ
 let e:b=Θ (ϳi<|(Ċ "range" (ϐ #[Ä lo t,Ä hi u,Ä (-1) v]))):=ϳQ
 subst e;show i.fpOk ì<|i.É ì
def Rb(ta:TA):TI:=ϮU (∃i j:Int,s=[Ä i,Ä j,Ä<|-1]/\(-ϴ<=i/\i<ϴ/\-ϴ<=j/\j<ϴ)/\R (Itd i (ĩ (i-j))) h)
theorem Jh{p pos:Pos}(hg:γ "range")(M:ϧw)(A:ϱS ϶s ta)(f:æ ϶s=(false,ϰI)::æ ϴ5)(S:ϰY (ϲB<|æ ϴ5)):
  Ϸm (ϳO "range" ϶s) (Rb ta):=by
 ext n s m H R I h;show Call_<|Ϗg<|K98 (Wp (Ϭ5 n s m H _ I h) λU u zq=>?_) f S;let(V,o,d,g,Q):=zq;obtain⟨i,j,e,⟨Q,k,l,C⟩,q⟩:=Q;subst e;cases g with
 |cons r rr=>
  cases rr with
  |cons r' rr=>
   cases rr with|cons r'' rr=>cases rr;let(t,rfl):=r;let(v,rfl):=r';let(T,rfl):=r'';show call_range_3 Ý (N_ d Q k l C q) (Ð<|PyProof.noPylong_small Ý)
end
def yz(lo:Int)(n:Nat):À Gc:=Ê ϲk (ϳk (lo-k))
def iR3(a b c:Fe):Fi:=λd=>ó (a d) λx=>ó (b d) λy=>ó (c d) λz=>match x.er,y.er,z.er with
 |.int i,.int j,.int k=>Ë (Μ (ϔs&&Õ (k=-1))) (Ħ (yz i (ĩ (i-j)))) Î
 |_,_,_=>Î
def Gm{K:At}{F:Hp}(lo:Int)(k:Nat):Walks K F (Itd lo k) (yz lo k):=by
 ext i G H S w;erw[yz];show(ύD,ϖX);rw[N2]at h;let(j,J,rfl):=Ϲ8;let(a,b):=ϩz;let f:i=j:=by simpa using b
 subst f;show(ϗr,λx c y=>?_);let(rfl,rfl):=y;show(G,ό6,Ä _)
section
variable{M:Mx}{H:Hp}{σ:St}{X:Cx}{a b c e:On}{pos:Pos}
private def Zn(h:ϻj ϒa):Rb (ϴP<|ϬG<|ϓr<|ĝ fc) σ H R':=by
 let(F,a,f,S,p):=h;show(F,a,f,S,?_);erw[iR3]at p;let T:=϶9;change Ĉ f _ (ϬG (ϓr<|ĝ fc) a);rw[xH,xH,xH,MA];cases ha:fa a with
 |bad=>rw[ha]at T;show T
 |ex c=>rw[ha]at T;show T
 |ok x=>
  rw[ha]at T;let p2:Ĉ f _ (fb a):=az.ï T;cases hb:fb a with
  |bad=>rw[hb]at p2;show p2
  |ex c=>rw[hb]at p2;show p2
  |ok y=>
   rw[hb]at p2;let b:Ĉ f _ (fc a):=Ϥo p2;cases hc:fc a with
   |bad=>rw[hc]at b;show b
   |ex c=>rw[hc]at b;show b
   |ok z=>
    rw[hc]at b;ext V l g X e1 r W;let(G1,D,K):=ϲN W;cases K with
    |@cons v _ _ _ K k2=>
     cases k2 with
     |@cons w _ _ _ k2 k3=>
      cases k3 with
      |@cons u _ _ _ k3 k4=>
       cases k4;let P:az M H f Ϻ8 (match x.er,y.er,z.er with
        |.int i,.int j,.int k=>Ë (Μ (ϔs&&Õ (k=-1))) (Ħ (yz i (ĩ (i-j)))) Î
        |_,_,_=>Î):=b
       generalize x.er=dx at P K;generalize y.er=dy at P k2;generalize z.er=dz at P k3
       split at P
       .rename_i i j k
        cases K;cases k2;cases k3;cases s:(ϔs&&Õ (k=-1))=true
        .rw[Os s]at P
         rw[K9U,K9U,K9k]at s;obtain⟨⟨d,e⟩,rfl⟩:=s;let d:=iw.mp d;let e:=iw.mp e;show(i,j,rfl,(d.1,d.2,e.1,e.2),ϗ0<|Gm _ _)
        rw[P3 s]at P;cases P
       cases P
def Hz(hg:γ "range")(j:ϧw)(h:ï a fa)(k:ï b fb)(l:ï c fc)(S:à (æ ϶s=(false,ϰI)::æ ϴ5))(d:à (æ ϴ5=(false,ϲh)::æ [c]))(f:à (æ [c]=(false,ϒ3)::æ []))(e:à (ϰY<|ϲB<|æ ϴ5)):ϸc (ϳO "range" ϶s) ϒa:=λm g=>λi s n H r I z=>ϛf<|Zn z
def Q_(K:At):V->Hp->Ú VK:=ϤG (∃a X,x=É a/\μ a X/\∀p,ϵw->Q (É p) (ļ p<|ô X.å))
def tRv(r:V->Hp->Ú VK)(te ts:TE):TE:=λa H Q=>te a H λx h=>ts a h λz b=>z=Ä (-1)/\r x b Q
def UL{T:On}{ops:Db->Db->À Db}(he:ā e te)(m:ā T ts)(U:∀v u,subscripted ϪH false v u=operate (ops v u) (ϯG u)):ā (ŕ e ϪH pos) (tRv (Q_ X.K) te ts):=by
 ext p s c H Q I h;show Subscript_<|Wp (he p s c H _ I h) λv A zq=>?_;let(x,f,j,R,w):=zq;show wpAny_Slice ?_;rw[evalPart_none];show ϴ1;show ϴ1;rw[evalPart_some];show Wp (m p A c f _ j w) λV S zq=>?_;let(z,g,k,y,l):=zq;let(rfl,l):=l;let(t3,rfl):=y;let(a,B,rfl,n,q):=l;cases R;let t:ù p c g ((Ϭe (S.ÿ (Ċ "slice" (ϐ #[ò,ò,Ä (-1) t3]))))):=k.ò (t':=S.ã) λb O q=>ő q;change Ő (ϙ8 ϪH (É a)<|É S.Á) (ϵW p c Q) X.xe ((Ϭe (S.ÿ (Ċ "slice" (ϐ #[ò,ò,Ä (-1) t3])))));let(i,r,d,Z):=t.ê n;show tail_any (ops:=ops (É a)<|É S.Á) d.Ĕ slot_list_getitem.Ð ?_<|U _ _;show ϙC d.Ê ϘO ò ò (Ä (-1) t3) Û ?_ (by rw[K9W,<-r.length];show Z);rw[PySem.W.krv_pick];show(É _,_,t.ĩ (t':=S.ã) (o:=ô B.reverse) (λb O q=>ő q) ì ?_,rfl,q _<|t.É ì);show(ϓg Zax,i.reverse,0,r.reverse,?_);let e:i.toArray.toList.reverse.Æ=i.reverse.Æ:=Û
 rw[e];show Ϣ
def ub(a s:Fe):Fe:=λb=>ι λx=>ó (s b) λz=>match x.er,z.er with
 |.list ds,.int k=>Ë (k=-1) (ģ ϐp) Î
 |_,_=>Î
def E5.rev{K:At}{F:Hp}:∀{s:À V}{d:À Gc},Λ s d->Λ s.å d.å|_,_,.nil=>õ|_,_,.cons h r=>Ε K8T K8T (E5.app (E5.rev r)<|ą h õ)
private def YH(h:ď ύt σ H Q):tRv (Q_ M.K) (ď fa) (ď fb) σ H Q:=by
 let(F,e,f,S,p):=h;show(F,e,f,S,Ń λx px v i l X e1 r w=>?_);let(G1,D,b):=ϲN w;show(G1,e,f,Ϲ7,Ů (϶b px D) λy py V j o Y g m W=>?_);let(G2,d,c):=m.Ė g W;let E:=Ϭg;generalize x.er=dx at py b;generalize y.er=dy at py c
 split at py
 .rename_i s k
  cases c;let(K,py):=azIf py
  cases b with|@lst a vs _ h1 h2=>show(ϰT K,a,vs,rfl,((h1.Î d.ff).same d.fh).sq,λp P=>OkE.lstD d.fh (OkE.pre E py) (E5.rev<|h2.Î d.ff) P)
 cases py
def E2{T:On}(ops:Db->Db->À Db)(he:ï e fa)(S:ï T fb)(U:∀v u,subscripted ϪH false v u=operate (ops v u) (ϯG u):=by intro _ _;with_unfolding_all rfl):ï (ŕ e ϪH pos) ύt:=λm H=>by let q:=UL (pos:=pos) (p2:=p2) (he m H) (S m H) U;rw[m]at q;show peI q (ϭs (YH z))
def Pb{x y z:Int}(h:ϤJ=þ (Ä x))(H:Ϫp=þ (Ä y))(f:fc ρ=.ok (Ñ z))(Z:z=-1)(S:aE x=true)(w:aE y=true):ϒa ρ=Ħ (yz x (ĩ (x-y))):=by erw[iR3];rw[h,H,f];subst Z;simp only[cB,bc,S,w,K7m,decide_true,K83]
def uY{lo:Int}(h:á (yz lo n)=ϰN):i<n/\d=Ä (lo-i):=by
 erw[yz]at h;rw[N2]at h;let(j,J,rfl):=Ϲ8;let(H,a):=ϩz;let f:i=j:=ϑy
 subst f;show(Ϻ4,rfl)
def zG(lo:Int)(n:Nat):Ã (yz lo n)=n:=Ϩc yz
def v_(i:Nat)(a:Fe):Fs:=λb=>match ϵU with
 |some (some x)=>ι λy=>όl ϶K
 |_=>Î
def VM(h:f.Í)(hg:g.Í)(d:π (a∉g))(N:p∉f)(n:p∉g):(p::(f++(g++[]))).Nodup:=ϩN K9d K8k K9T (λm=>ϵb (K9Y.mp m) N n,h,hg,ϴJ (d a A (e▸B)))
def P4(h:Ϭ (v_ i fa)):J4 (Ob<|iA ϲn<|ϸU (ď fa)) D σ H:=by
 let(F,t,P,S,p):=h;erw[v_]at p;let(x,e,p):=azS p
 let(v,f,g1,g2,k,c,rfl,A):=Ϸ6;let sub:π (a∈϶d):=ϰW (Τ<|ϰA m);let d:f.Í:=ϕU
 show(v,k,F,t,_,S,Ń λy py w g b Y e1 r W=>⟨ϻl (ŀ 2),ϸf⟩);let X:Own M.K g b v x f:=c.á e1.ff λa x o z=>ϻO z;let l:q∉f:=λm=>ϸ3 z (X.ö q m) Q
 let s:q∉Y:=λm=>ϸ3 z (r.Þ q m) Q
 let j:π (a∉Y):=λa m z=>ϐO (c.ö a m) (W a z)
 let up:∀a o,b a=Ö->upd b q (Ī [v,w]) a=Ö:=λa o z=>Ô (aC<|aL z Q) z
 show py (É q) g (upd b q<|Ī [v,w]) (q::(f++(Y++[]))) (ώL e1.fh Q).fh ⟨ϓi<|Ϫy X.á<|Ϫy r.ü õ,VM d r.nd j l s,ϲK⟩ ⟨e1.ff,λa o z x=>up a o<|ϻO z,ϲK,λa z x u=>e1.nw a z u⟩
 .rw[K9d]at m
  rcases K8v.mp m with rfl|m
  .show e1.fh.â Q
  rcases K9Y.mp m with m|m
  .show let⟨_,z⟩:=c.ö a m;e1.nw a (bg z) (Ϸ8 ϵz)
  show ϸw m
 rw[K9d]at m;rcases K8v.mp m with rfl|m
 .show Ø<|ώB Q
 rcases K9Y.mp m with m|m
 .show Ð ϵz
 show Ø<|W a m
def ND(i:Nat){x1}(h:ï e fa)(hN:ϵc (ð p))(hs1:à (æ [ð p,e]=Ϲe (ð p) (æ [e])))(hs2:à (æ [e]=ϰG (æ []))):
  Ϧ (Ϭh<|Â<|.Tuple [ð p,e] x1 pt) (v_ i fa):=λhK hM=>psI (Cp<|Gv<|f7 hN (f7 ύm tZ hs2) hs1) (ϲI P4)
def Qf(h:á ρ=Â Ď)(H:ϤJ=϶A):v_ i fa ρ=όl ϶K:=by erw[v_];rw[h,H];rfl
end
def keyOf:Gc->Ü Key|.int i=>Â<|Ð i|.str x=>Â<|Ø x|_=>none
def EI(k:Key):ϷG (kD k)=Ş:=by cases k<;>rfl
def gE(Fv:À Ο)(k:Key):Ü Gc:=ß Fv.find? (λv=>Õ ϴg) Ž
def putD(Fv:À Ο)(k:Key)(d:Gc):À Ο:=
 Ë (ϵ Fv.ě (λv=>Õ ϴg)) (Ϯf (v.1,d)) (Fv++[(k,d)])
def qH(Fv:À (Gc×Gc))(k:Key):Ü Gc:=ß Fv.find? (λv=>Õ<|ϷG v.1=Ş) Ž
def uK(Fv:À Ο)(k:Key):qH (϶P ϵi) k=ϸB k:=by
 erw[qH,gE]
 induction Fv with
 |nil=>rfl
 |cons p r ih=>
  rw[K9w,K8p,K8p];cases h:p.1=k
  .rw[Z8 h,Z8<|by change ϷG (kD p.1)=Ş;rw[EI,h]]
   rfl
  rw[ϷA,K9q<|by change¬ϷG (kD p.1)=Ş;rw[EI];exactλz=>h<|K9R z];show ih
def gDx:ϰe
 |.dict Fv,y=>match keyOf y with
  |some k=>lE<|qH Fv k
  |none=>Î
 |_,_=>Î
def Zw(Fv:À Ο)(i:Int):gDx ϱe (Ä i)=lE (ϸB<|Ð i):=by
 change lE (qH _ _)=_;rw[uK]
def eD1(a b:Fe):Fe:=λc=>ó (a c) λx=>ó (b c) λy=>match ϷG x.er with
 |some k=>.ok<|.od [(k,y.er)]
 |none=>Î
def sDP(i:Nat)(k a:Fe):Fs:=λb=>match ϵU with
 |some (some<|.od Fv)=>ι λy=>ó (k b) λz=>match ϷG z.er with
  |some q=>Ë όc (ų (ϻi<|ϩK<|ϥN q y.er)) Î
  |none=>Î
 |_=>Î
section
variable{K:At}{F H:Hp}
def Mr:∀{Fv:À ϴT}{s:À Ο}{k:Key}{d:Gc},ϭP s.Ç (gE s k=ϰN->∃v,ϸn=ĥ/\Ŀ F v d):=by
 ext Fv
 induction Fv with
 |nil=>
  ext s _ _ h _ e;cases s with
  |nil=>cases e
  |cons=>cases h
 |cons p Fv ih=>
  ext s k d h r e;cases s with
  |nil=>cases h
  |cons q s=>
  rw[K9w,K9w]at h r;let(c,f):=K8B h;cases r with
  |cons r1 r2=>
   erw[gE]at e;rw[K8p]at e;cases H:q.1=k
   .rw[Z8 H]at e
    let e':=K9R e;show(p.2,u7<|c.Å H,Ϙ e' r1)
   rw[K9q H]at e;let(v,a,b):=ih (k:=k) (d:=d) f r2 e;show(v,ϔe (vH λz=>H<|c.Ñ z),b)
def LU{Fv:À ϴT}{d:À Ο}(k:Key)(h:ϹP Fv.Ç ϔ d.Ç):ϹP Fv.ě (λv=>Õ ϴg) d.ě:=by
 let e1:(Fv.ě λv=>Õ ϴg)=(϶P ϔ).any λx=>Õ (x=k):=ϣ Zea
 let g:(d.ě λv=>Õ ϴg)=(d.Ç ϔ).any λx=>Õ (x=k):=ϣ Zea
 rw[e1,g,h]
theorem Mw{k:Key}(f:Ŀ F v d):∀{Fv:À ϴT}{s:À Ο},ϭP s.Ç (ß Fv.Ç ((ϮM (c.1,v))) ϔ=ß s.Ç ((ϮM (c.1,d))) ϔ/\Λ (ß Fv.Ç ((ϮM (c.1,v))) Ž) (ß s.Ç ((ϮM (c.1,d))) Ž)):=by
 ext Fv
 induction Fv with
 |nil=>
  ext s h _;cases s with|nil=>show(rfl,õ)|cons=>cases h
 |cons p Fv ih=>
  ext s h r;cases s with
  |nil=>cases h
  |cons q s=>
  rw[K9w,K9w]at h r;let(H,e):=K8B h;cases r with
  |cons r1 r2=>
   let(a,b):=ih e r2;rw[K9w,K9w,K9w,K9w,K9w,K9w,a];cases Q:q.1=k
   .rw[Os Q,Os<|H.Å Q]
    show(by rw[H],ą f b)
   rw[P3 Q,ϱi (Q ϑG)];show(by rw[H],ą r1 b)
def Lj{k:Key}(H:Ŀ F v d)(h:ϹP Fv.Ç ϔ ds.Ç)(r:Λ (϶P Ž) (ds.Ç Ž)):
  Ê (϶p k v) ϔ=Ê (putD ds k d) ϔ/\Λ (Ê (϶p k v) Ž) (Ê (putD ds k d) Ž):=by
 erw[putK,putD];rw[LU k h];cases A:(ds.ě λV=>Õ<|V.1=k)=true
 .rw[Os A,Os A]
  show Mw H h r
 rw[P3 A,P3 A,K9i,K9i,K9i,K9i,h];show(rfl,r.app<|ą H õ)
def pG{k:Key}(r:Ŀ F y d)(e:keyOf d=Ş):y=kV k:=by
 cases r with
 |non=>cases e
 |bl _=>cases e
 |int i=>cases e;rfl
 |str x=>cases e;rfl
 |lst _ _=>cases e
 |tup _ _=>cases e
 |dct _ _ _=>have e':(none:Ü Key)=Ş:=e;cases e'
end
section
variable{H:Hp}{Q:VK}
def Yj:R2:=ϰk (∃a v,x=É a/\ώh ĥ/\Q v H)
def XY:ϩ Yj gDx:=by
 ext x y dx dy F H f Q s R Y p;cases R with
 |non=>show p.Ä
 |bl _=>show p.Ä
 |int _=>show p.Ä
 |str _=>show p.Ä
 |lst _ _=>show p.Ä
 |tup _ _=>show p.Ä
 |@dct a Fv ds h1 h2 h3=>
  let T:az M H f ϸ (match ϷG dy with
   |some k=>lE<|qH (ds.Ç ϵi) k
   |none=>Î):=p
  cases hk:keyOf dy with
  |none=>rw[hk]at T;show T.Ä
  |some k=>
   rw[hk]at T;let p2:Ĉ f ϸ (lE<|qH (ds.Ç ϵi) k):=T;rw[uK]at p2;cases hv:gE ds k with|none=>rw[hv]at p2;show p2.Ä|some d=>rw[hv]at p2;let(v,v1,V):=Mr h2 h3 hv;show(a,v,rfl,Ð ⟨Fv,k,Ð<|s _ _ h1,pG Y hk,v1.Ï⟩,ϒk p2 V)
def ON(h:ď (eD1 fa fb) σ H Q):RC [(ď fa,ď fb)] σ H Q:=by
 let(F,j,i,S,p):=h;ext q a;let E:Ϛ F (ļ q Ϥa):=ώL S.Î a;show(F,j,i,S.ā E,Ů ((϶9).ext E) λx px v G J X e1 R W=>?_);let(G1,D,K):=ϹV W;let e:=E.Å D;show(G1,j,i,(S.ā E).ext D,Ů (϶b px e) λy py u I r Y s A C=>?_);let(G2,d,t):=A.Ė s C;let f:r q=Â Ϥa:=d.hh _ _<|D.hh _ _ aU;show(f,?_);cases hk:keyOf x.er with
 |none=>rw[hk]at py;cases py
 |some k=>
  rw[hk]at py;let V:=pG K hk;show([(k,u)],ϣ V,(ϱm<|1<=15),?_);let em:vY [] [(k,u)]=[(k,u)]:=rfl;rw[em];let P:ϸ (.od [(k,y.er)]):=py;let c:=e.Å d;let l:F q=none:=S.Ę a;let g:G2 q=none:=(Ϭg).nw q (bg aU) l;show P (É q) G2 _ [q] ⟨c.ff,όy,όy,λb z w=>?_⟩ ⟨ϚZ<|ą t õ,Û,ϹO⟩ ϹO
  .let B:b≠q:=ϗA
   rw[ϷI];show d.hh _ _ (D.hh _ _<|Ô ϷI z)
  .let B:b≠q:=by ext rfl;rw[g]at z;cases z
   rw[ϷI];show d.fh _ _ z
  .let B:b≠q:=ϧ4 (z a)
   show(Ϭg).nw b (Ô ϷI z) w
  .let:b=q:=ϲC
   rw[this];show g
  let:b=q:=ϲC
  rw[this];show a
theorem Stt.writeD{K:At}{F:Hp}{f:Env}{P:À Ix}(S:Ϲ6 F H σ f P){i:Nat}{s:À Ο}(x:f[i]?=Â (Â<|.od s)):
  ∃a Fv,á σ=Â (Â<|É a)/\H a=Â ϶m/\ϹP Fv.Ç ϔ s.Ç/\Λ (϶P Ž) (s.Ç Ž)/\
   ∀c h k d,Ϛ c h->ϹP k.Ç ϔ d.Ç->E5 K c (k.Ç Ž) (d.Ç Ž)->
    ∃p,Ϲ6 c (Ϫ7<|.dK k) σ (f.ß i<|Â<|.od d) p/\ż P c (Ϫ7<|.dK k) p:=by
 let(v,t,g1,g2,g,j,rfl,l):=S.own.at x;cases j with
 |@od a Fv _ ha hk hr=>
  let nd:=S.nd;simp only[K9T,K9Y,K92,K8k,K8v,K9B]at nd;obtain⟨u,⟨na,w⟩,N⟩:=nd;show(a,Fv,g,ha,hk,hr,λc h k d e Q r=>?_);let fa:c a=none:=e.nw a (bg ha) (Ϸ8 Û)
  let own:=l c (Ϫ7<|.dK k) e.ff (λb m o q=>by
   let:b≠a:=by
    ext rfl;rcases K9Y.mp m with m|m
    .show N b m b (Ð rfl) rfl
    show na m
   rw[aC this];show ϔu) (É a) (.od d) [a]<|.od aU Q r
  rw[vj g]at own;let frs:∀b∈ϵu [a],c b=none:=λb m=>let⟨_,q⟩:=S.Þ b m;e.nw b Ϸs (S.fr b m)
  show(ϵu [a],(?_,own,S.nd,frs,Ô K8z S.í),(e.ff,λb o q m=>?_,λb m=>Ð m,λb q m z=>e.nw b q z))
  .intro b o q
   rw[aC<|ϲX fa];show e.fh _ _ q
  let B:b≠a:=ϧ4 (m Û)
  rw[ϷI];show ϔu
def Sz(h:Ϭ (sDP i k a)):RW ϲn (ď k) (ď a) D σ H:=by
 let(F,j,f,S,p):=h;erw[sDP]at p;let(d,e,p):=azOd p
 show(F,j,f,S,Ń λy py v J O Y e1 R W=>?_);let(G1,b,K):=ϹV W;let(l,Fv,x,A,o,B,wr):=S.writeD e;show(_,x,G1,j,f,S.ā b,Ů (϶b py b) λz pz u N s Z w G I=>?_);let(G2,m,C):=G.Ė w I;let E:=b.Å m;cases hk:keyOf z.er with
 |none=>rw[hk]at pz;cases pz
 |some q=>
  rw[hk]at pz;let P:Ĉ f (ϳd f D) (Ë (d.À<Tk) (ų (j.ß i<|ϩK<|putD d q y.er)) Î):=pz;let(g,P):=azIf P
  let L:Fv.À=d.À:=ϮB (Ż o) K0 K0
  let r:=ϛ7<|B.same E.ff;let(c,t,T):=wr G2 s _ _ E r.1 r.2;show(l,_,rfl,Ð ⟨Fv,q,ϴU A,pG C hk,ϫ0 (zH g),rfl⟩,P σ G2 _ c t T)
end
section
variable{X:Cx}{p pos pos':Pos}
def Ye(U:ϷR 1)(A:ï a fa)(B:ï b fb)(S:Uz b):ï (ŕ a b pos) (F4 gDx fa fb):=ũ peI (PK U ϴX ϸu S) (Kw XY q)
def XO(A:ï a fa)(B:ï b fb):ï (.Dict [Ϸr] [b] pos) (eD1 fa fb):=ũ peI (Qt (MD ϴX ϸu PB) rfl rfl Û<|ϱm (1<=15)) (ON q)
def HK(i:Nat)(hu:ϷR 1)(hb:ï b fb)(h:ï e fa)(hN:ϵc (ð p))
  (hs:à (ϫI (Â<|ŕ (ð p) b pos') pos.line X.Ü=ϥt)):Ϧ (ϴZ [ŕ (ð p) b pos'] e pos) (sDP i fb fa):=ϦE (psI (Qx hu hN (hb hK hM) ύm hs) (ϲI Sz))
end
section
variable{ρ:Env}{a b k:Fe}
def RV(o:Ü (Ü OD))(a k:Ĭ)(i:Nat)(b:Env):ϲr:=match o with
 |some (some<|.od Fv)=>unK (λy=>unK (λz=>match ϷG z.er with
  |some q=>Ë όc (ų (ϻi<|ϩK<|ϥN q y.er)) Î
  |none=>Î) k) a
 |_=>Î
def Fz(i:Nat):sDP i k a ρ=RV Ϸt ϳ (k ρ) i ρ:=rfl
def FV{z:Int}:RV (some<|Â Ϸn) (.ok Ř) (.ok<|Ñ z) i ρ=Ë όc (ų (ϰs<|ϩK<|ϥN (Ð z) d)) Î:=by
 change(match ϷG (Đ ϭD).er with
  |some q=>Ë όc (R.ok (Out.nx<|ϰs<|ϩK<|ϥN q (ϥZ).er)) Î
  |none=>Î)=_
 rw[bc,bc];rfl
end
def BM(r:ϴh A):ϫv 1:=Ĳ r.ħ
def OG(x:Gc)(lo hi:Ü Int):Ĭ:=match x with
 |.str y=>Ë (y.À<=Tk) (þ (Ė ϐZ)) Î
 |_=>Î
def WO:V->ϱv (Ü Int) (Hp->Ú VK):=λx lo hi H Q=>∃y,x=Ė y/\ŀ y.À/\Q (Ė ϐZ) H
section
variable{X:Cx}{M:Mx}
def part_of(h:IsPart v o):∃l:Ü (Int×Tok),v=partValue l/\l.Ç ϔ=o:=by
 cases h with|none=>show(none,rfl,rfl)|int i t=>show(Â (i,t),rfl,rfl)
def Sf:SlR X WO:=by
 ext p s a H x v V U lo hi L Q I R S pl pu h;let(y,rfl,Y,q):=h;let(t,rfl):=R;let(l,rfl,rfl):=part_of pl;let(u,rfl,rfl):=part_of pu;show("str",_,PySem.F.slot_str_getitem.lookup,typeIs_str _ _ _,ϛn<|post_val_or_str ⟨K9C (Txt.slice_le y _ _) Y,λT k=>?_⟩);show(Ė _,H,I.tok k,(T,rfl),q)
def Vt(m:Υ):OkS M WO OG:=by ext x lo hi dx F H f Q s R p;cases R with|str y=>show(_,rfl,lj (ϱO).1,ϒk (ϱO).2<|Ė _)|_=>show ú
def YI(y:Str)(lo hi:Ü Int):OG (Ė y) lo hi=Ë (y.À<=Tk) (þ (Ė ϐZ)) Î:=rfl
end
def dfl(f:Fn)(dv:À Gc):Fn:=λd=>f<|d++dv
section
variable{M:Mx}
def PD{dv:À Gc}(d:∀F:Hp,϶B F dvs dv)(h:ď (aj (dfl f dv) al) σ H Q):ϙZ dvs (ϴP al) σ H Q:=by
 let(F,a,P,S,p):=h;show(F,a,P,S,Ń Ϙb);let(G1,D,k):=ϲN w;show(G1,ϳf++dv,D.fh,k.app<|d G1,ϬP ώk ϧQ)
def gK{α:Type}(m j:Nat)(s ws:À α):À α:=Ë (s.À=m/\ϓL) (s++ws) []
end
section
variable{M:Mx}{X:Cx}{pos kpos:Pos}
def uM{dv:À Gc}(F:Ϧ2 M.K M.mg CX)(hr:ϴh X.A)(hg:γ x)(a:M.mg x=Â (É f))(K:ϵo M.K (É f))(B:∃d,ϹG M.K d/\ţ dvs d)(D:∀F:Hp,϶B F dvs dv)(c:Ϩj M.E)(A:ϸi Ũ)(h:ϲx)(he:à (æ Ũ=ϰG (æ es)))(l:à (ϰY<|ϲB<|æ es)):
  ï (ϱc (ð p) Ũ pos) (ϫG fn dv al):=λm H=>by
 let b:Ϧ2 X.K X.mg CX:=by rw[m,H];show F
 let(d,B,v):=B;show peI (ϕ7 (ϥj K) v c ϴX h he l) λx x x q=>PD D q
end
def O_(a:ţ vs us)(b:Vals zs ws):ţ (ϩR j vs zs) (ϩR j us ws):=by
 erw[gK];rw[a.length,b.length];split
 .show a.đ b
 show õ
structure FunD(K:At)(x qual:Str)(st:No)(f:Ix)(fd:Fk):Prop where
 ex:∃(oc:Db)(od:Ü Ix)(dV kV doc pm:Db)(an:Ü Ix)(cdv ct:Db)(osl:Ζ Ch),
  fd=Ϧ5 dV kV doc pm an cdv ct/\ϫ4=Â ⟨oc,od,ϷB fd,osl⟩/\ϸj cdv qual=true
 kp:ϵo K (É f)
def xT{K:At}{x qual:Str}{st:No}{f:Ix}{W:Db}{o an:Ü Ix}{O:Ζ Ch}{D kV doc pm d ct:Db}(l:ϫ4=Â ⟨W,o,ϷB<|Ϧ5 D kV doc pm an d ct,O⟩)
  (c:ϸj d qual=true) (k:ϵo K (É f)):ϒF st f (Ϧ5 D kV doc pm an d ct):=⟨⟨W,o,D,kV,doc,pm,an,d,ct,O,rfl,l,c⟩,k⟩
def FunD.ok{P:Do}{w:Ev}{K:At}{m:Ŏ}{base:Op}{x qual:Str}{T:No}{f:Ix}{fd:Fk}{N a:À Str}{k:Nat}{sp:Sp}(F:ϒF T f fd)(S:Fq N a ϵI)(len:ϑ3 ϫ3 a.À)
  (B:∀(c:Db)(A:Go)(outer:À PySem.Env)(s:Da)(H:Hp)(v:À V)(Q:VK)(E:XK),ϦZ ϵI->ϫ3->
   ∃t,PSs (Ϗi ϵI) ϩO t/\t {nx:=λx b=>Q Α b,rt:=Q} (ϨI v) H):ϳ5 m base y_ (k+1) f fd a sp:=by
 let(W,o,D,kV,doc,pm,an,c,ct,O,rfl,U,d):=F.ex;show ϖj;let(t,h,q):=ϗR;show(t,h.nox,q)
theorem QW{P:Do}{w:Ev}{K:At}{g:Ŏ}{base:Op}{x qual:Str}{T:No}{f:Ix}{fd:Fk}{N b:À Str}{k np n:Nat}{body:Fs}{fn:Fn}(G:fn=aZ np n body)(J:b.À=np)(I:ϔv)(F:ϒF T f fd)(S:Fq N b ϵI)
  (h:∀(c:Db)(A:Go)(outer:À PySem.Env)(s:Da)(H:Hp)(E:XK),ϦZ ϵI->DSs όw (Ϗe g) ϩO body):
  ϳ5 g base y_ (k+1) f fd b (ϩl g fn):=by
 subst G J I;let M:ώM b.À:=by
  let:=Ż S.pre;rw[K9f]at this;lia
 let l:ϕn:=by
  ext e H Q E ⟨F,D,sm,R,p⟩;cases L:D.À=b.À
  .rw[ώm]
   show L
  erw[aZ]at p;rw[P3 L]at p;cases p
 show F.ok S l λc A outer s H e Q E hr t=>?_;let V:=l _ _ _ _ t;let(u,D,sm,R,p):=t;let d:D.À=b.À:=Ϙ ώm V
 erw[aZ]at p;rw[Os d]at p;show(_,ϏK,u,zS N.À D,[],(sm,?_,K8w,ϰX,?_),Ń ϨA)
 .unfold L2.start zS
  rw[V,d];show wA _ R
 .unfold zS
  change ϔm;rw[K9v,K0,K8r,d];lia
 cases o with
 |nx ρ=>show λO i j C B T=>po Α i j [] ⟨T.ff,ϦB (ϻc Û),B.same,λa q z=>Ϧv q Û z⟩ (Res.sh Α) ϰX
 |rt y=>exactλv i j fx sm' r T=>po v i j fx ⟨T.ff,ϦB (ϻc Û),sm',λa q z=>Ϧv q Û z⟩ r λa m=>ϵb (T.new a m) ϯf id
 |bk ρ=>show po.Ä
 |ct ρ=>show po.Ä
structure DefD(K:At)(mg:Ŏ)(x:Str)(st:No)(ps ks:À Str)(m:Nat)(dvs:À V)(f:Ix)(fd:Fk):Prop where
 F:FunD K x x st f fd
 g:mg x=Â (É f)
 b:ϹG K []
 d:∃ds,ϹG K ds/\ţ dvs ds
 k:KBinds K fd ps ks (ϩR dvs.À) (ϩR dvs.À)
def HA{K:At}{p k:À Str}(n:0<p.À)(h:∀(s:Da)(u ws:À Db),ϫJ->ϔw->ϓL->ϥk ⟨u,k.Ċ ws⟩ (p.Ċ<|u++ws)):KBinds K fd p k (ϩR j) (ϩR j):=
 ⟨λs u ws H a=>by
  erw[gK]at a⊢;cases q:ϔw/\ϓL
  .rw[Os q]
   show h s u ws H q.1 q.2
  .rw[P3 q]at a
   rw[<-a]at n;show absurd n Û,O_⟩
def kh{K:At}{p:À Str}{ds:À Db}(a:m+ds.À=p.À)(h:∀(s:Da)(u:À Db),ϫJ->ϔw->ϥk ϔk (p.Ċ<|u++ds)):Binds K fd p ds:=
 λs u k q=>h s u k (by rw[K9v]at q;lia)
def BK{K:At}(i:Int)(F:Hp):Λ [Ä i] [Ä i]:=ą (Ä i) õ
def Yw{dv d:À Gc}:dfl f dv d=f (d++dv):=rfl
def t_(i:Nat)(k:Fe)(a:Fe):Fs:=λb=>match ϵU with
 |some (some<|.ol xs)=>ó (k b) λz=>match z.er with
  |.int q=>match ϴH q with
   |some j=>match Ϥv with
    |some (.ol ys)=>ι λy=>match y with
     |.ol zs=>if ϻV ys.À<=Tk then ϶ b.ß (ϲE<|.ol<|ys++zs)else Î
     |_=>Î
    |_=>Î
   |none=>Î
  |_=>Î
 |_=>Î
section
variable{M:Mx}
private def OI(h:Ϭ (t_ i k a)):wN (Ϯq CA (ϗC ϲn<|ď k)<|ϸU (ď a)) D σ H:=by
 let(F,t,l,S,p):=h;erw[t_]at p;let(X,e,p):=Ϥw
 let U:comps Ϧk=Â (true,X):=rfl;let(v0,_,_,_,G,own0,_,_):=Ϸ6;show(v0,G,F,t,l,S,Ń ϗh);let(G1,w,K):=r1.Ė e1 w1;generalize z.er=dz at pz K;cases dz with
 |int q=>
  cases K;let Z:az M H l (ϳd l D) (match Ϲt q with
   |some j=>match ę X with
    |some (.ol s)=>ó (a t) λy=>match y with
     |.ol zs=>if ϻV s.À<=Tk then ϶ t.ß (Ϸ1 ϓM)else Î
     |_=>Î
    |_=>Î
   |none=>Î):=pz
  cases hj:ixN X.À q with
  |none=>rw[hj]at Z;show Z.Ä
  |some j=>
   rw[hj]at Z;let r:az M H l (ϳd l D) (match ę X with
    |some (.ol s)=>ó (a t) λy=>match y with
     |.ol zs=>if ϻV s.À<=Tk then ϶ t.ß (Ϸ1 ϓM)else Î
     |_=>Î
    |_=>Î):=Z
   split at r
   .rename_i s hy
    let(Q,V,b,ws,f,I,T,Y,B,J,W,nf,R,wr):=(S.ā w).write2 e U hy;rw[G]at I;cases I;let at1:Ť V q=Â (É b):=by erw[atI];rw[Y,hj];show B
    show(Q,V,q,É b,rfl,rfl,SqL.of T,at1,Ð ⟨rfl,ws,SqL.of J⟩,G1,t,l,S.ā w,Ů ((az.ï r).ext w) λy py v x C fy E r2 N=>?_);cases y with
    |sh d=>show py.Ä
    |ot s=>show py.Ä
    |od s=>show py.Ä
    |pl _ _=>show py.Ä
    |ol zs=>
     let P:Ĉ l (ϳd l D) (if ϻV s.À<=Tk then ϶ t.ß (Ϸ1 ϓM)else Î):=py;let(L,P):=azIf P
     let(ro,rn,rf):=r2;cases ro with
     |@ol c us _ g hcc hu=>
      show(b,c,ws,us,rfl,rfl,ϴU J,hcc,Ε W.í hu.í (lj L),?_);let o:N1 M.K x C (ws++us) (s++zs) Ϧp:=(W.á E.ff λc _ o q=>ϴU q).app hu;let(A,O,st):=wr x C _ _ _ E o (Ϧl ⟨nf,(K8k.mp rn).2,λc m d m' z=>Ϯh (W.ö c m) (N c<|ě m')⟩) (λc m=>ϵg Ð (λm=>Ø<|N c<|ě m)) λc m=>ϵg (όX (W.ö c m)<|E.nw c Ϸs (R c m)) (λm=>rf c<|ě m);show P σ x _ A O<|w.ý st
   show r.Ä
 |none=>show pz.Ä
 |bool _=>show pz.Ä
 |str _=>show pz.Ä
 |list _=>show pz.Ä
 |tuple _=>show pz.Ä
 |dict _=>show pz.Ä
end
section
variable{X:Cx}{x:Str}{p ap cp pos:Pos}
def Ku(i:Nat)(hb:ï b fb)(h:ï e fa)(hix:xB b)(hN:ϵc (ð p))(hbase:à (Ϫw (ŕ (ð p) b p2) "extend"))(hfew:à (Μ<|(ϵ8<|æ [e]).all Ϲz&&ϦY&&Õ (Ã ([e]:À On)+Ã ([]:À Keyword)+(Ë ([]:À Keyword).isEmpty 0 1)<30)))(hline:à ϤX)(hs:à (æ [e]=ϰG (æ [])))(hplain:à (ϰY<|ϵ8<|æ []))(hsw:à (Ϧ1 (ϴL (ŕ (ð p) b p2) "extend" ap) [e] cp)):ϭT (ŕ (ð p) b p2) "extend" (t_ i fb fa):=ϦE (ϕs ϖH (ϲI OI) hbase hfew hline hs hplain hsw hK)
end
section
variable{ρ:Env}
def Pz{z:Int}(h:á ρ=Â (Â ϱq))(H:k ρ=.ok (Ñ z))(f:ϴH z=ϱ6)(c:Ϥv=Â ϻX)(g:ϳ=Ħ (.ol zs))(b:ϻV ys.À<=Tk):
  t_ i k a ρ=϶ ρ.ß (ϲE<|.ol<|ys++zs):=by
 erw[t_];rw[h,H];simp only[cB,bc,f,c,g,b,K83]
end
def Cq(s:À Gc)(j:Nat):Bool:=s.ě λd=>match d with
 |.int q=>Õ<|q=Ĵ
 |_=>false
def jC(s:À Gc):Nat->À OD->À OD|_,[]=>[]|i,x::xs=>ϕK
def jC'{s i x xs}:jC s i ϩk=ϕK:=rfl
def Al(i c:Nat)(f:Fs):Fs:=λa=>match ϴp,a[c]? with
 |some (some<|.ol xs),some (some<|.sh<|.list ks)=>f<|Ϲm<|Ň<|jC ks 0 xs
 |_,_=>f a
theorem N1.frzS{K:At}{F H:Hp}(S:À Gc)(i:Nat){s:À V}{X:À OD}{f:À Ix}(o:ψ s X f)(nd:f.Í):
  ∃d c:À Ix,(∀a,a∈f↔a∈d\/a∈c)/\c.Í/\(∀a∈d,a∉c)/\∀G,ϸW G->(∀a∈d,∀o,H a=Ö->G a=Ö)->ϷJ G H s (jC S i X) c:=by
 induction X generalizing i s f with
 |nil=>cases o;show([],[],(λa=>Û),K8w,(ϰW ϥw),λG e k=>N1.nil)
 |cons x r0 ih=>
 cases o with
 |@cons _ _ fh fr _ _ h r=>
  rw[K9T]at nd;let(N,t,n):=nd;let(d,c,A,j,w,l):=ih (i+1) r t;cases p:Cq S i=true
  .apply(fh++d,c,λa=>?_,j,λa m M=>?_,λG e k=>?_)
   .rw[K9Y,K9Y,A a]
    constructor
    .rintro(z|z|z)
     .show Ð<|Ð z
     .show Ð<|Ø z
     show Ø z
    rintro((z|z)|z)
    .show Ð z
    .show Ø<|Ð z
    show Ø<|Ø z
   .rcases K9Y.mp m with z|z
    .show n a z a ((A a).mpr<|Ø M) rfl
    show w a z M
   erw[jC];rw[Os p];let:=N1.cons (K:=K) (F:=G) (H:=H) (f:=[]) (g:=c) (Own.sh<|h.Ė e (ϵH (k a (ϰA m) o q)))<|l G e (ϲQ (Τ m));show this
  show(d,fh++c,λa=>?_,?_,λa m M=>?_,λG e k=>?_)
  .rw[K9Y,K9Y,A a]
   constructor
   .rintro(z|z|z)
    .show Ø<|Ð z
    .show Ð z
    show Ø<|Ø z
   rintro(z|z|z)
   .show Ø<|Ð z
   .show Ð z
   show Ø<|Ø z
  .rw[K9T]
   show(N,j,λa m b Q=>n a m b<|ϻR<|Ø Q)
  .rcases K9Y.mp M with z|z
   .show n a z a ((A a).mpr<|Ð m) rfl
   show ϤH z
  erw[jC];rw[P3 p];show ą (h.á e (ϵH q))<|l G e k
def AlD{i c f}{a:Env}(h:∀xs ks,ϴp=Â (Â ϱq)->a[c]?=some (â ks)->False):ύu a=f a:=by
 erw[Al];cases e:a[i]? with
 |none=>rfl
 |some o=>
  cases o with
  |none=>rfl
  |some x=>
   cases x with
   |ol xs=>
    cases g:a[c]? with
    |none=>rfl
    |some o=>
     cases o with
     |none=>rfl
     |some y=>
      cases y with
      |sh d=>cases d with|list ks=>cases h xs ks e g|_=>rfl
      |_=>rfl
   |_=>rfl
def Ud(h:Ϭ ύu):ϻ5 f D σ H:=by
 let(F,I,P,S,p):=h;cases h:∃X s,I[i]?=Â (Â Ϧk)/\I[c]?=some (Ĕ<|Ï s)
 .let(X,s,e,g):=h
  erw[Al]at p;rw[e,g]at p
  let(v,f,g1,g2,u,y,rfl,B):=Ϸ6;cases y with
  |@ol a vs _ fl ha hv=>
   let nd:=S.nd;let N:=nd;simp only[K9T,K9Y,K92,K8k,K8v]at N;obtain⟨C,⟨na,E,G,l⟩,g⟩:=N;let(d,j,A,r,t,x):=N1.frzS s 0 hv E;let k:∀b∈d,ώl:=λb m=>S.fr b (Ϯ<|ϻR<|Ð m);let o:=B ϔx H (gh k) ϯR (É a) (.ol<|jC s 0 X) (a::j) (.ol ha<|x _ (gh k) λb m o q=>Ô (pI m) q);rw[vj u]at o;let sub:∀b∈ϵu (a::j),b∈ϵu (a::fl)/\b∉d:=λb m=>by
    simp only[K9Y,K8v,K92]at m⊢;rcases m with m|(m|m|m)
    .exact(Ð m,λz=>g b m b (Ø<|Ð<|ϻR<|Ð z) rfl)
    .exact(Ø<|Ð m,λz=>na<|Ð<|by rw[<-m];show ϻR<|Ð z)
    .exact(Ø<|Ø<|Ð<|ϻR<|Ø m,λz=>t b z m)
    show(Ø<|Ø<|Ø m,λz=>l b (ϻR<|Ð z) b m rfl)
   let T:ż (ϵu<|a::fl) ϔx H (ϵu<|a::j):=⟨gh k,ϒ1,λb m=>Ð (sub b m).1,λb h m z=>by
    rw[gO λw=>m<|Ϯ (ϻR<|Ð w)]
    show z⟩
   show(ϔx,_,_,(x8 S.Î,o,?_,ϹO,Ô K8z S.í),ϓJ p)
   .simp only[K9T,K9Y,K92,K8k,K8v]
    show(C,(ϩj,r,G,λb m c Q=>l b (ϻR<|Ø m) c Q),λb m c Q=>?_)
    .rcases z with z|z
     .show na<|Ð<|(A a).mpr<|Ø z
     show na<|Ø z
    rcases Q with z|z|z
    .show ϑ4<|Ð z
    .show ϑ4<|Ø<|Ð<|(A c).mpr<|Ø z
    show ϑ4<|Ø<|Ø z
   rw[gO (sub b m).2];show S.fr b (sub b m).1
 rw[AlD λX s e g=>h ⟨X,s,e,g⟩]at p;show(F,I,P,S,p)
def Qi{T:No}(i c:Nat)(h:Ϧ T f):Ϧ T ύu:=ũ psI Ŷ (Ud q)
def oz(X:À OD):À Gc->Ü (À Gc)
 |[]=>Â []
 |.int q::r=>match Ϲt q with
  |some j=>match ę X with
   |some (.sh d)=>Ê (oz X r) λs=>d::s
   |_=>none
  |none=>none
 |_::_=>none
def Gd(i c:Nat):Fe:=λa=>match ϴp,a[c]? with
 |some (some<|.ol xs),some (some<|.sh<|.list ks)=>ϑg (oz xs ks) (Ë ϯW (ģ ϶a) Î) Î
 |_,_=>Î
def wX(s:À V)(w:V):V:=match w with
 |.int q=>Ó (atI s q) Α
 |_=>Α
private def NZ{K:At}{F H:Hp}{s:À V}{X:À OD}{f:À Ix}(o:ψ s X f):∀{ws:À V}{k d:À Gc},Λ ws k->oz X k=ϰN->Λ (ws.Ç<|wX s) d/\∀(i:Nat)(w:V),ws[i]?=some w->∃(q:Int)(y:V),w=V.int q/\atI s q=ϰO:=by
 ext ws
 induction ws with
 |nil=>ext _ _ r e;cases r;erw[oz]at e;cases e;show(õ,λi w h=>ϫs)
 |cons w0 ws ih=>
  ext _ d r e;cases r with|cons h r=>
  cases h with
  |int q=>
   erw[oz]at e;split at e
   .rename_i j J
    split at e
    .rename_i d' D
     let(E,he,rfl):=XL.mp e;let(R,m):=ih r he;let(y,c,_,_,y1,y2,_,_):=o.at D;cases y2 with
     |sh yr=>
      let a:atI s q=ϰO:=by erw[atI];rw[o.len,J];show y1
      show(ą (by change Ŀ F (Ó (atI s q) V.non) d';rw[a];show yr) R,λi w W=>?_);cases i with
      |zero=>
       simp at W;subst W;show(q,y,rfl,a)
      |succ i=>show m i w ϚK
    cases e
   cases e
  |non=>erw[oz]at e;cases e
  |bl b=>erw[oz]at e;cases e
  |str x=>erw[oz]at e;cases e
  |lst _ _=>erw[oz]at e;cases e
  |tup _ _=>erw[oz]at e;cases e
  |dct _ _ _=>erw[oz]at e;cases e
def Yz(h:ď (Gd i c) σ H Q):EF (ϓ3<|iX c) (uZ 0) OW (Ϗh<|iX 0) 1 [(i,x)] σ H Q:=by
 let(F,T,L,S,p):=h;erw[Gd]at p;replace p:=azOL p;let(xs,O,e1,E,p):=p
 replace p:=azO p;let(I,d,p):=p
 replace p:=ϱO;let(g,p):=p
 let(v,f,g1,g2,k,o,_,_):=S.own.at e1;let(w,J,_,_,t,u,_,_):=S.own.at E;cases o with
 |@ol l vs _ fl hl ov=>
  cases u with
  |sh kr=>
   cases kr with
   |@lst a ws _ rd rw'=>
    let(r,R):=NZ ov rw' d;let s:slots 1 [(i,x)] σ=[none,Â<|É l]:=by
     erw[slots];change [none]++[(á σ).join]=_;rw[k];rfl
    show(É a,t,a,rfl,(ws,(rd.Î S.Î).sq),λD e=>?_);rw[s];show NN (K:=M.K) (xs:=ws) (PvM H D λi=>Ê (ws.Ö i) Ϧj) (PvM.start e Û) (λi A b x pv=>((rd.Î S.Î).same pv.2.1).sq) (λi y A b Y pv=>?_) λA b pv=>?_
    .let(q,z,rfl,Z):=R i y Y
     let N:=(ZB.mp Y).1;let lw:=r.í;rw[K0]at lw;show((rfl,trivial),?_);erw[OW];simp only[reduceIte];show(É l,rfl,Ä q,rfl,l,vs,q,z,rfl,rfl,SqL.of<|pv.2.1 _ _ hl,Z,?_);show PvM.yes e pv ?_ ?_
     .show ß ws.Ö (i+1) Ϧj=Ê (ws.Ö i) Ϧj++[z]
      rw[Zck,Y,K9i];let j:Ϧj (Ä q)=z:=by change Ó (Ť vs q) V.non=z;rw[Z];rfl
      show _++[Ϧj<|Ä q]=_;rw[j]
     change ϥ0 (Ã (Ê (ws.Ö i) Ϧj));rw[K0,K9f];show zH Á
    let(C,B,G):=pv
    let P:A=ß ws.Ö ws.À Ϧj:=C;rw[K90 ì]at P;subst P;show p (É D) F b [D] ⟨ϰ3,B,S.same.Å B,Ϸ3⟩ ⟨.ol G<|N1.shs r,Û,λa m=>by
     let:a=D:=ϲC
     rw[this];show S.Ę e⟩ λa m=>by
     let:a=D:=ϲC
     rw[this];show e
section
variable{M:Mx}{X:Cx}{p p1 p2 p3 p4 p5 pos spos:Pos}
def SX(B:ϯA [(i,x)])(h:X.à)(j:X.N[bi]?=ϧ)(k:ϲf b)(l:ϗ)(a:X.N[c]?=Â z)(V:Ϫ6 z)(hg:ϻD (PG (ϧl [y] (Ê [(i,x)] Ž) n) (ϱ8 y p4)<|uZ 0))(he:ϻD ((ϧl [y] (Ê [(i,x)] Ž) n).K=M.K->PE (ϧl [y] (Ê [(i,x)] Ž) n) (ŕ (ð p1) (ϱ8 y p2) p3) (Ϗh<|iX 0)))(e:ϱE (ł<|z==Ϛ1))(d:ϱE (ł<|z==ϐt))(w:à (ϬL (.ListComp (ŕ (ð p1) (ϱ8 y p2) p3) [⟨ϱ8 y p4,ϱ8 z p5,[],0⟩] scope pos) (Â<|ϱ8 b p) spos.line X.Ü=Ϭp))(S:ϐD (∀v,foldedSetIterable (ϱ8 z p5) X.Ü v=pure v))(f:ϕ (X.fn b=true\/X.è b=Â ο)):
  Ϧ (ϴZ [ϱ8 b p] (.ListComp (ŕ (ð p1) (ϱ8 y p2) p3) [⟨ϱ8 y p4,ϱ8 z p5,[],0⟩] scope pos) spos) (ax bi<|Rs<|Gd i c):=λm o=>
 psI (OU (wi:=ϓ3<|iX c) (g:=uZ 0) (tc:=OW) (te:=Ϗh<|iX 0) [y] h j k B l (Nx M.K m<|eJ a V e d) hg (Ϻk NW) (όQ<|όt n m) w S f) λD r H q=>by let Q:=Kc (Dh j) q;show Yz<|MY Q
end
end L3
namespace L3
open PySem L2
def Ue(h:á ρ=Â (Â ϱq))(H:ρ[c]?=some (â ks)):ύu ρ=f (ϰs<|Ň<|jC ks 0 xs):=by erw[Al];rw[h,H]
def Xi(h:á ρ=Â (Â ϱq))(H:ρ[c]?=some (â ks))(f:oz xs ks=some ds)(a:ϯW):Gd i c ρ=ģ ϶a:=by
 erw[Gd];rw[h,H];change(ϑg (oz xs ks) (Ë ϯW (R.ok (ϲu ϶a)) Î) Î)=_;rw[f];change(Ë ϯW _ _)=_;rw[Os a]
def rH(s:À Gc):∀(X:À OD)(i j:Nat),ę (jC s i X)=Ê (ę X) λx=>if Cq s (i+j)=true then Đ x.er else x:=by
 induction _ with
  |nil=>
   intro i j
   simp[jC]
  |cons x X ih=>
   ext i x24
   cases x24 with
    |zero=>
     simp[jC]
    |succ j=>
     rw[jC',Zbs,Zbs,ih (i+1) j,ê (i+1+j=i+(j+1))]
def zL(s:À Gc):∀(X:À OD)(i:Nat),Ã (jC s i X)=X.À:=by
 induction _ with|nil=>ext i;show rfl|cons x X N3=>ext i;rw[jC',K9p,K9p,N3<|i+1]
def Qn(s:À Gc):∀(X:À OD)(i:Nat),Ê (jC s i X) OD.er=ϳf:=by
 induction _ with
 |nil=>ext i;show rfl
 |cons x X N3=>
  ext i;rw[jC',K9w,K9w,N3<|i+1];congr 1
  split
  .show ϰn
  rfl
open PySem.Spec PyProof.Rows
section
variable{X:Cx}{pos:Pos}
variable{outs:À ϴM}{it:Fi}
def si(own:À Str)(s:Da)(H:Hp)(C:Ix)(ex:À Ix)(p:À ŝ):(υ C ex p).N.length=ϤY:=by
 change Ã (own++ϵC Ž)=_;rw[K9v,K0]
def J2(own:À Str)(B:϶X)(l:ϗ)(k:Ϯy)(hi:ϸc iter it)
  (hg:ϹE (ϥh (υ C ex p))) (c:ϹE (ύj (υ C ex p))) (he:ϹE (ύi (υ C ex p)))
  (S:ϸX):ï ϳN ϭV:=λm h=>
 peI (L5 (wi:=ϑz it) (g:=tG M ϤY is gg) (tc:=tT M ϤY ta) (te:=tD M ϤY el) own B l (hi m h)
  (λs H C ex p=>ϧe (ϓE p m h)) (λs H C ex p=>ϧe (ϔq p m h)) (λs H C ex p=>ϧe (όt p m h)) S) λx x x q=>MU k q
def NO(own:À Str)(w:∀b H Q,ϧF fe b H Q->ϧF ϭV b H Q)(N:X.à)(h:á X.N=Ď)(e:ϲf x)(B:϶X)(l:ϗ)(k:Ϯy)(hi:ϸc iter it)(hg:ϻD (ϥh (υ C ex n)))(c:ϻD (ύj (υ C ex n)))(he:ϻD (ύi (υ C ex n)))(S:à (ϬL ϳN (Â<|ð p) spos.line X.Ü=Ϭp))(d:ϸX)(f:ϕ (ϳg\/ϱV=Â ο)):
  Ϧ (ϴZ [ð p] ϳN spos) (ax i fe):=λm a=>
 psI (D5 (wi:=ϑz it) (g:=tG M ϤY is gg) (tc:=tT M ϤY ta) (te:=tD M ϤY el) own N h e B l (hi m a)
  (όQ<|ϧe (ϓE n m a)) (όQ<|ϧe (ϔq n m a)) (όQ<|ϧe (όt n m a)) S d f) λD b H q=>by
  let o:=Kc (Dh h) q;show MU k<|w _ _ _ o
end
def insI(x:Int):À Int->À Int|[]=>[x]|y::r=>Ë (x<=y) (x::y::r) (y::insI x r)
def AL:À Int->À Int|[]=>[]|x::r=>insI x<|AL r
def insI_perm(x:Int):∀r:À Int,(insI x r).Perm (x::r):=by
 ext Y
 induction Y with
 |nil=>show .refl _
 |cons y r N3=>
  erw[insI];split
  .show .refl _
  show ĉ ((N3).cons y)<|.swap x y r
def E7:∀r:À Int,(AL r).Perm r:=by
 induction _ with|nil=>show .refl _|cons x r N3=>show ĉ (ϙV<|AL r)<|(N3).cons x
private theorem wH(x:Int):∀{r:À Int},r.Ĉ Ϩ8->Ϥe (insI x r) Ϩ8
 |[],_=>List.pairwise_singleton _ _
 |y::r,h=>by
  let h':=List.pairwise_cons.mp h;erw[insI];split
  .rename_i H
   show Ϛu ⟨ϨS,h⟩;rcases K8v.mp Z with rfl|Z
   .show H
   .show Zeq H<|h'.1 z Z
  .rename_i H
   show Ϛu ⟨ϨS,wH x h'.2⟩;rcases K8v.mp ((ϙV r).mem_iff.mp Z)with rfl|Z
   .lia
   .show h'.1 z Z
def BR:∀r:À Int,Ϥe (AL r) Ϩ8:=by
 induction _ with|nil=>show List.Pairwise.nil|cons x r N3=>show wH x<|N3
def sY:∀{a b:À Int},a.Perm b->a.Ĉ Ϩ8->b.Ĉ Ϩ8->a=b:=by
 induction _ with
  |nil=>
   ext b p _ _
   exact (List.nil_perm.mp p).symm▸rfl
  |cons x r ih=>
   ext x25 p ha hb
   cases x25 with
    |nil=>
     let:=p.length_eq;simp at this
    |cons y t=>
     let h:=List.pairwise_cons.mp ha;let f:=List.pairwise_cons.mp hb;let e:x=y:=by
      let M:=K8v.mp<|p.mem_iff.mp K9z;let Q:=K8v.mp<|p.mem_iff.ó<|K9z (a:=y) (l:=t);rcases M with e|M
      .show e
      .rcases Q with e|Q
       .show e.Ï
       .show Zdh (h.1 _ Q)<|f.1 _ M
     subst e;rw[ih p.cons_inv h.2 f.2]
def LD:À Gc->Ĭ
 |[.list ds]=>match dN ds with
  |some ns=>Ë (ns.À<64) (.ok (Ę<|ß AL ns int)) Î
  |_=>Î
 |_=>Î
def ou:∀{s:À Db}{ns:À Int},ϫw->ţ ϲg s|_,_,.nil=>õ|_,_,.cons n t r=>ą ϓD<|ou r
def Ni{K:At}{F:Hp}:∀(ns:À Int),Λ ϲg ō:=by
 induction _ with|nil=>show õ|cons n r N3=>show ą (Ä n)<|N3
def Vw(K:At):À V->Hp->Ú VK:=Ϸy (∃(a:Ix)(ns:À Int),X=[É a]/\μ a ϲg/\ns.À<64/\∀n:À Int,n.Perm ns->n.Ĉ Ϩ8->∀l,H l=none->Q (É l) (ļ l<|ô ϒ4))
section
variable{X:Cx}{M:Mx}
def MV:ϳL (Ρ "sorted") (Vw X.K):=by
 ext p s g H x U Q I r h;let(a,ns,rfl,d,f,q):=h;let(u,rfl,L):=Ϩy;cases L;let(i,R,pl,z):=I.ê d;let hi:ϫy:=intsAre_of R;let l:i.À=ns.À:=IntsAre.length hi;show sorted_ints pl.Ê hi Á λout n c A w=>?_;let(e,he):=sortedAll_at s.heap i out;let Z:ŀ (Ã ϒ4):=by rw[K0,A.length_eq];rw[K0]at z;show z
 show(É<|ů 1,_,ϮV (o:=ô ϒ4) (λb o B=>sortedAll_old B) Ϸq ⟨Z,out.toList,e,ou c,?_⟩,rfl,q n A w _<|I.É Ϸq);rw[Array.toArray_toList];show he
def JQ(K:At)(h:ϺB):ϳL (Ρ "sorted") (Vw K):=ϥc MV
def Ul(m:Υ):ϻE Vw LD:=by
 rw[m];show ϪC;cases e:dN d with
 |none=>rw[e]at p;show ú
 |some ns=>rw[e]at p;rw[tW e]at h2;rw[ϫB]at h1;let(L,p):=ϱO;show(a,ns,rfl,Ϲj,L,λn b c l L=>?_);let e:n=AL ns:=ϛW<|BR ns;subst e;show ϫA (Ni _) L
end
def U0:ϲ0 OD|.sh _=>true|_=>false
open Classical in
def vE(F:Hp)(f:À Ix):Hp:=λb=>if b∈f then none else F b
def BA(h:b∈f):ϩh b=none:=ű vE ϰo
def i4(h:b∉f):ϩh b=F b:=ű vE ϱB
section
variable{K:At}{F H:Hp}{f:À Ix}
def Ha{s:À V}{X:À OD}{g:À Ix}(h:ψ s X g)(e:ϵ X.all U0):g=[]:=by
 induction X generalizing s g with
 |nil=>cases h;rfl
 |cons x X i=>
  cases h with
  |cons h r=>
   rw[K80,K9U]at e;let:=i r e.2;subst this;cases h with
   |sh _=>rfl
   |ol _ _=>cases e.1
   |ot _ _=>cases e.1
   |od _ _ _=>cases e.1
   |pl _ _=>cases e.1
end
def o7:∀s:À Gc,shs ϫz=some s:=by
 induction _ with|nil=>show rfl|cons d r N3=>rw[K9w,shs',N3]
def ex1(h:ώK 1):∃a,us=[a]:=by
 cases us with
 |nil=>cases h
 |cons a r=>
  cases r with|nil=>show(a,rfl)|cons b r=>cases h
def ex2(h:ώK 2):∃a b,us=ϱ9:=by
 cases us with
 |nil=>cases h
 |cons a r=>let(b,e):=ex1 ϑH;show(a,b,ϹU)
def ex3(h:ώK 3):∃a b c,us=϶s:=by
 cases us with
 |nil=>cases h
 |cons a r=>let(b,c,e):=ex2 ϑH;show(a,b,c,ϹU)
def ex4(h:ώK 4):∃a b c d,us=[a,b,c,d]:=by
 cases us with
 |nil=>cases h
 |cons a r=>let(b,c,d,e):=ex3 ϑH;show(a,b,c,d,ϹU)
def eD0:Fe:=λx=>.ok ώn
def ZO(h:ď eD0 σ H Q):MF σ H Q:=by
 let(F,c,f,S,p):=h;ext q a;let P:ϸ ώn:=p;let l:F q=none:=S.Ę a;show P (É q) F _ [q] ⟨Ϸ3,όy,όy,λb z w=>w⟩ ⟨ϚZ õ,Û,ϹO⟩ ϹO
 .let B:b≠q:=ϗA
  rw[ϷI];show z
 .let B:b≠q:=by ext rfl;rw[l]at z;cases z
  rw[ϷI];show S.Î _ _ z
 .let:b=q:=ϲC
  rw[this];show l
 let:b=q:=ϲC
 rw[this];show a
def X4{pos:Pos}:ï Ϛd eD0:=λx x=>peI J3 (ϲI ZO)
def ZJ(a:Env):eD0 a=Ħ ώn:=rfl
def cQ(i:Int):Bool:=Õ<|Builtin.Int.intBits i<=1048576
def gn:ϰe
 |.int i,.int j=>Ë (ϻg cQ) (oI (i*j)) Î
 |_,_=>Î
def BQ:ϴC Mult (rI (λi j=>ϻg cQ) λi j=>Ä<|i*j):=ϐe (mul_int q (by rw[K9U]at C;show IntMulOk.of_bits (ϷP C.1)<|ϷP C.2))
def x6:ϩ (rI (λi j=>ϻg cQ) λi j=>Ä<|i*j) gn:=Ϫx
def fP{i j:Int}(h:cQ i=true)(H:ϵQ cQ):gn (Ä i) (Ä j)=.ok (Ñ<|i*j):=by
 change(Ë (ϻg cQ) _ _)=_;rw[h,H];rfl
def pB{i:Int}(h:ϐy<i)(H:Ϙ7):cQ i=true:=
 Z8 (ϛ0 Ý)
end L3
namespace L2
open PySem PySem.Spec PyProof.Rows
def fK(N n:Nat):À Db:=Ê ϲk λj=>Ϭ8<|N+j
structure ZS(h:Op)(n0 n:Nat)(ls:ņ)(is:ņ)(f0:Db)(arr:À Db):Prop where
 zp:ϦL (ϱR+2)=Â ((ϸ0 "zip" (ϐ #[f0,ã false,ã false,É ϱR,É<|ϱR+1])))
 ti:ϦL ϱR=Â ((Ċ "tuple" (ϰf (ϺD n))))
 to:ϦL (ϱR+1)=Â ((Ċ "tuple" (δ arr.Æ)))
 it:∀j,j<n->h.Ú ϦI Ϻq (is j)
def neN(h:a≠b):@Ne Ix a b:=h
def ZS.draw(Z:ϪT)(J:j<n)(s:ϔM ϦI h h1)(l:h1.Ú ϦI Ϻq (is j+1))(S:ϔM (ϱR+1) h1 h2)(k:h2.È (ϱR+1)=Â ((Ċ "tuple" (δ arr'.Æ)))):ZS h2 n0 n ls (λm=>Ë (m=j) (is m+1) (is m)) f0 arr':=by
 let up:∀c,c≠ϦI->c≠ϱR+1->h2.È c=h.È c:=λc c1 L=>ĉ (ϥ3<|neN L)<|s.2 c<|neN c1;show(ĉ (up _ Á Á) Z.zp,ĉ (up _ Á Á) Z.ti,k,Ϩo);cases e:m=j
 .subst e
  change h2.Ú _ _ (Ë (m=m) _ _);rw[Ĝ];show l.at λo q=>ĉ (ϵy<|neN Á) q
 change h2.Ú _ _ (Ë (m=j) _ _);rw[ϲs];show Ϭ9 Z.it λo q=>ĉ (up _ Á Á) q
def ZS.flag(Z:ϪT)(S:Heap.ExtBut (ϱR+2) h h1)(z:h1.È (ϱR+2)=Â ((ϸ0 "zip" (ϐ #[f1,ã false,ã false,É ϱR,É<|ϱR+1])))):ZS h1 n0 n ls is f1 arr:=
 ⟨z,ϤF (neN Á) Z.ti,ϤF (neN Á) Z.to,λm M=>Ϭ9 Z.it λo q=>ϤF (neN Á) q⟩
def ZS.pos(Z:ϪT)(e:∀j,j<n->is j=is' j):ZS h n0 n ls is' f0 arr:=
 ⟨Z.zp,Z.ti,Z.to,λm M=>Ϙ (e m M) (Z.it m M)⟩
def Xn{x:ϥ9}{arr:À Db}(A:arr.À=n)(J:j<n):(Ê Ϥg x++ϻH).toArray.setIfInBounds j (x j)=Ϻp (Ā (j+1) x++ϯB):=by
 rw[List.setIfInBounds_toArray];congr 1;let e:ϻH=arr[j]::ϯB:=K8N Á;rw[e,Zdq _ _ Û,K0,Z7,K8c,Zfd,K8A,K9i,K9M];rfl
def De{rest:À (Db×Nat)}(h:y::rest=ύq (ϺD n) j):j<n/\y=(É ϦI,j)/\rest=ύq (ϺD n) (j+1):=by
 let L:ϓ1 (ϺD n)=n:=ϏL
 let J:j<n:=by
  let:=Ż h;rw[K9p,K8y,L]at this;lia
 let e:=K8N (l:=(ϺD n).zipIdx) (i:=j) Á;rw[e]at h;injection h with H a
 show(J,?_,a);rw[H,List.getElem_zipIdx];erw[fK];rw[Zcn,K85,K87]
section
variable{A:Go}{s:Da}
def Iv{l:ņ}{X:Nat->Ζ Db}{x:ϥ9}{arr:À Db}{Q:Db->Ú Da}(u:Η 3 (l j<n0))(Z:ϧs s.Ì 3 ò)(P:ϨM 3)(hl:Η 3 (ϳU (l j) (X j)))(hx:Η 3 (ύF=Â (x j)))(hQ:∀h',ϭU 3 (Ā 3 x)->ϺT=Â ((Ċ "tuple" (ϰf (Ā 3 x))))->
   (ώ Ϫ2<|ϱW Ö h'.È)->Q (É s.Á) ϰH):
  ϰF (Builtin.«zip.__next__» (ϱd [É Ϥi])) Ϗp E s:=by
 change Ϟ (ϵF 2);show Ps<|ϲ7 (ã false) ?_;change Ϟ (ϵF (2+1));show Ps<|ϲ7 (É<|n0+3) ?_;show ϧY Z.ti;change Ϟ (ϤV _);show ϲY;erw[Builtin.SmallTypes.ownedTupleIsFree];show Ps<|ϲ7 ò ϴ1;simp only[K83];show Ϫ1;show Ps<|ϲ7 (É Ϩ9) ?_;show Ps<|ύv Û (λh₁ z h=>?_);show ϲY;let V:ϧs h₁ 3 ϸg:=ϯp z
 show wpAny_forIn_list _ (λrest b d=>b=(none,())/\∃j p,j<=3/\rest=ύq (ϺD 3) j/\ϐ7/\ώJ 3 (λm=>ϧD (m<j)) ϸg (Ê Ϥg x++ϻH)/\
  ϏM/\ώ Ϫ2 (ϱW Ö p.È)) _ ?_ ?_ _ _ ⟨rfl,0,h₁,ϰS,rfl,rfl,V.pos λj x=>rfl,h.1,Ϸz (ĉ (ϬE<|neN Á) q)⟩
 .rintro y rest b d ⟨rfl,j,p,hj3,hr,rfl,Zj,hsz,hk⟩
  let(J,rfl,R):=De hr;show ϮK;change Ϟ (Builtin.SmallTypes.nextOf (É ϦI));let hi:=Zj.it j J;let W:(ϧD<|j<j)=k:=P3 ϵJ;let r:ϓf (l j):=ϖc;show Ps<|Ϗf Ϙv (λi I S=>ϴ1);let t:i.È Ϩ9=Â ((Ċ "tuple" (ϰf (Ê Ϥg x++ϻH)))):=ĉ (ϵy<|neN Á) Zj.to;show Ps<|K8F t rfl ?_;let n:Ã (Ê Ϥg x++ϻH)=3:=ϗU
  show Ps (ϔ9 Ϙc);show ϓq ϴ1;let f:=K7p i Ϩ9 ϭ1;let T:ϰV (i.Ĝ Ϩ9 ϭ1) Ϩ9=Â ((Ċ "tuple" (ϰf (Ā (j+1) x++ϯB)))):=ϕA
  show(rfl,j+1,_,Á,R,rfl,ϗa,ĉ f.1<|ĉ S.1 hsz,Ϸz (ĉ (ύ3<|neN Á)<|ĉ (ϥ3<|neN Á) Ϩh));cases e:m=j
  .subst e
   rw[Ĝ,P3 ϵJ,Os ϩW]
  rw[ϲs];cases N:m<j
  .rw[Os N,Os Á]
  rw[P3 N,P3 Á]
 ext b d ⟨rfl,j,p,hj3,hr,rfl,Zj,hsz,hk⟩;let J:j=3:=by
  let L:ϓ1 (ϺD 3)=3:=ϏL
  let:=Ż hr;rw[K8y,L,K8U]at this;lia
 subst J;let Y:Ā 3 x++arr.ä 3=Ā 3 x:=Ĥ (Zdj Á) K9d
 rw[Y]at Zj;let g:ώJ 3 ϻF ϸg (Ā 3 x):=Zj.ú λm U=>Os U;show ϧY g.to;show ϐB;show ϲY;erw[Builtin.SmallTypes.ownedTupleHandOut];let G:ZS (p.û (Ċ "tuple" (ϰf (Ā 3 x)))) n0 3 l ϻF ϸg (Ā 3 x):=g.flag (λb o x q=>ő q)<|ő g.zp;let F:Ϥi<p.Â:=K9h g.zp;show Ps<|K8K G.zp Û λh7 B H=>?_;let K:ZS h7 n0 3 l ϻF ϮI (Ā 3 x):=G.flag H.Ģ B;show K8K K.zp Û λO D a=>?_;let M:ZS O n0 3 l ϻF ϮI (Ā 3 x):=K.flag a.Ģ D;show ϐ8;change Q (É p.Â) _;rw[hsz]at M F⊢;show hQ O M ?_ (Ϸz (ĉ (a.2 c<|neN Á)<|ĉ (H.2 c<|neN Á)<|ő Ϩh));show ĉ (a.2 _<|neN Á)<|ĉ (H.2 _<|neN Á) ?_;rw[<-hsz];show Ϣ
def IQ(j:ϷT)(t:ϱg<n0)(Z:ϧn s.Ì 3 ò)(L:ϳU ϱg xs)(X:όz)(i:∀h' e,(ώ Ϫ2<|ϱW Ö h'.È)->(∃o,ϨQ=Ö/\o.cls=Ω "StopIteration")->E (É e) ϰH):
  ϰF (Builtin.«zip.__next__» (ϱd [É Ϥi])) Q E s:=by
 change Ϟ (ϵF 2);show Ps<|ϲ7 (ã false) ?_;change Ϟ (ϵF (2+1));show Ps<|ϲ7 (É<|n0+3) ?_;show ϧY Z.ti;change Ϟ (ϤV _);show ϲY;erw[Builtin.SmallTypes.ownedTupleIsFree];show Ps<|ϲ7 ò ϴ1;simp only[K83];show Ϫ1;show Ps<|ϲ7 (É Ϩ9) ?_;show Ps<|ύv Û (λh₁ a h=>?_);show ϲY;let V:ϧn h₁ 3 ϸg:=ϯp a;change ϶j _ ϖo _;rw[Zdt];show Ps ϮK;change Ϟ (Builtin.SmallTypes.nextOf (É<|n0+0));let l:h₁.ù ϱg xs:=L.at λo q=>ĉ (h.2 _<|neN Á) q;show Ps<|Ϗ4 ((ϹJ h₁)) j (V.it 0 Ý) l X (λm e S he=>?_);let(O,H,C):=he;let b:=ϤF (neN Á) V.zp;let d:e≠Ϥi:=ϕ4
 show K8K b Û λg x f=>i g e (λc o n q=>ĉ (ύ3<|neN Á)<|S c o (neN Á)<|ĉ (ϬE<|neN Á) q) ⟨O,ĉ (f.2 e d) H,C⟩
def F6{l:ņ}{xs:Nat->Ζ Db}{x:ϥ9}{arr:À Db}{Q:Ch->Ú Da}(L:Η 3 (l j<n0))(Z:ϧs s.Ì 3 ò)(H:ϨM 3)(d:Η 3 (ϳU (l j) ϩS))(X:Η 3 (ϫ ϩS=Â (x j)))(q:∀h',ϭU 3 (Ā 3 x)->ϺT=Â ((Ċ "tuple" (ϰf (Ā 3 x))))->
   (ώ Ϫ2<|ϱW Ö h'.È)->Q (Â<|É s.Á) ϰH):
  ϰF (pyNext<|É Ϥi) Q E s:=by
 let h:Ϥn (É Ϥi) "zip":=(ϲi Z.zp);erw[pyNext];show Ps<|wpAny_attempt<|ϭI<|ϛb ϮL
def FT(H:ϷT)(L:ϱg<n0)(Z:ϧn s.Ì 3 ò)(a:ϳU ϱg xs)(x:όz)(q:∀h',(ώ Ϫ2<|ϱW Ö h'.È)->Q none ϰH):
  ϰF (pyNext<|É Ϥi) Q E s:=by
 let h:Ϥn (É Ϥi) "zip":=(ϲi Z.zp);erw[pyNext];show Ps<|wpAny_attempt<|ϭI<|ϔ5 IQ ϮL;let(o,j,C):=he;show Ps<|ώZ<|K9J<|q _ K
end
def dh(h:Op)(l:Nat):Op:=h.û (Ċ "list_iterator" (ϐ #[É l,Ä 0 0]))
def DZ(a b c:Db):checkTypeCall "zip" (ϱd ϶s)=pure ():=ϒb
def FU(a b c:Db):checkBuiltinCall "zip.__new__" (ϱd [Ω "zip",a,b,c])=pure ():=ϒb
def Cn(e a b c:Db):argsOk "object.__init__" (ϱd [e,a,b,c]):=by
 erw[argsOk];rw[signature?_of (id:="object.__init__") (n:=['_','_','t','i','n','i','_','_']) (o:=['t','c','e','j','b','o']) ϒb PySem.F.owner_object]
 kernel_rfl
def zA3(h:Op)(l L a:Nat):Op:=(dh ϫh a).push (Ċ "tuple" (δ #[É h.Â,É (Θ (dh h l)),É (Θ ϫh)]))
def zB3(h:Op)(l L a:Nat):Op:=(zA3 h l L a).push (Ċ "tuple" (δ #[ò,ò,ò]))
def zC3(h:Op)(l L a:Nat):Op:=(zB3 h l L a).push (Ċ "zip" (ϐ #[ò,ã false,ã false,É (Θ (dh ϫh a)),É (Θ (zA3 h l L a))]))
def K9(l L a:Nat)(x X b:Ζ Db):
  Meets (Builtin.«zip.__new__» (ϱd [Ω "zip",É l,É L,É a])) (λ_ R s=>s.ë l x/\s.ë L X/\s.ë a b/\
   R (ϩg<|É (Θ (zB3 s.Ì l L a))) (ϹJ (zC3 s.Ì l L a))):=
 .of_wp λprog w A R s h=>by
  let(p,g,d,tk,os):=s;let(N,f,i,h):=h;let U:=sub_zip;let H:ϪM ⟨p,g,d,tk,os⟩ l x:=N;let c:ϪM ((ϔX (ϒc<|(Ċ "list_iterator" (ϐ #[É l,Ä 0 0]))))) L X:=(Heap.IsList.push f _);let e:ϪM ((ϔX (Heap.push (ϒc<|(Ċ "list_iterator" (ϐ #[É l,Ä 0 0]))) (Ċ "list_iterator" (ϐ #[É L,Ä 0 0]))))) a b:=(Heap.IsList.push (Heap.IsList.push i _) _)
  wp_walk using Ϛh,Ϛi,wpAny_pyIter_list e
  show(_,rfl,h)
def Pn{E:Db->Ú Da}{s:Da}{ls:ņ}{xs:Nat->Ζ Db}{Q:Db->Ú Da}(a:Η 3 (ϳU Ϻq ϩS))(h:∀h',Ϙ8 3 ls (Ţ 0) ò ((ϮF ò ò))->(∀c o,ϱW Ö h'.È)->Q (É<|ů 3+2) ϰH):
  ϰF (call (Ω "zip") [É ϱg,É ϵR,É ϰE]) Q E s:=by
 show ϗb Ý (DZ _ _ _) (FU _ _ _) (λobj=>Cn obj _ _ _) PySem.F.entry_zip_new (K9 ϱg ϵR ϰE (xs 0) (xs 1)<|xs 2) ⟨a 0 Ý,a 1 Ý,a 2 Ý,?_⟩;let Z:Θ (ϧv ϱg)=ů 1:=K8l ..;let z:Θ (ϸZ ϵR)=ů 2:=ϐS (Ϩs Z)
 let b:Θ (dh (ϸZ ϵR) ϰE)=ů 3:=ϐS (Ϩs z)
 let d:Θ (ώ7 ϰE)=ů 3+1:=by erw[zA3];rw[K8l,b]
 let zB:Θ (ϭQ ϰE)=ů 3+2:=by erw[zB3];rw[K8l,d]
 let C:ώ (ϰV (ϭQ ϰE) c=Ö) (ϰV (ϵ1 ϰE) c=Ö):=ϵV (ő q);let f:ώ (ϰV (ώ7 ϰE) c=Ö) (ϰV (ϵ1 ϰE) c=Ö):=ϵV (C c o<|ő q);let e:ώ ((dh (ϸZ ϵR) ϰE).get? c=Ö) (ϰV (ϵ1 ϰE) c=Ö):=ϵV (f c o<|ő q);let K:ώ ((ϸZ ϵR).get? c=Ö) (ϰV (ϵ1 ϰE) c=Ö):=ϵV (e c o<|ő q);let k:ώ (ϰV (ϧv ϱg) c=Ö) (ϰV (ϵ1 ϰE) c=Ö):=ϵV (ϭB<|ő q);let i:ώ (s.Ë c=Ö) (ϰV (ϵ1 ϰE) c=Ö):=ϵV (k c o<|ő q);let g:ϰV (ϵ1 ϰE) (Θ (ϭQ ϰE))=Â _:=Ϣ;let B:ϰV (ϵ1 ϰE) (Θ (ώ7 ϰE))=Â _:=C _ _ Ϣ;let G:ϰV (ϵ1 ϰE) (Θ (dh (ϸZ ϵR) ϰE))=Â _:=f _ _ Ϣ;let g0:ϰV (ϵ1 ϰE) s.Á=Â _:=ϱf Ϣ;let g1:ϰV (ϵ1 ϰE) (Θ (ϧv ϱg))=Â _:=K _ _ Ϣ;let g2:ϰV (ϵ1 ϰE) (Θ (ϸZ ϵR))=Â _:=e _ _ Ϣ;rw[zB,d,b]at g;rw[d]at B;rw[b,z,Z]at G;rw[Z]at g1;rw[z]at g2;change _/\Q (É (Θ (ϭQ ϰE))) _;rw[zB];show((_,g,rfl),h _ ⟨g,G,B,ϳo⟩ i)
 rcases(ê ϒG)with rfl|rfl|rfl
 .show(_,g0,rfl,rfl)
 .show(_,g1,rfl,rfl)
 show(_,g2,rfl,rfl)
def Itn(K:At)(n:Nat)(l:ņ):It:=
 (Ϯx (∀j,j<n->∃X x,μ (l j) X/\á X=Ď) (λi H v h=>∃(T:Ix)(X:À V),Ϩ5/\v=É T/\h=ļ T (Ī X)/\X.À=n/\∀j,j<n->∀y,μ (l j) y->ę X=y[i]?) (μ (l 0) X))
def zfp(N n:Nat):À Ix:=Ā (n+3) λj=>N+j
def vJ(h:c∈ϬS):n0<=c/\c<ϱR+3:=by
 erw[zfp]at h;let(j,J,rfl):=ϥ8;let:=K9G.mp J;lia
def vN(h:n0<=c)(H:c<ϱR+3):c∈ϬS:=ϲo ⟨c-n0,϶u Á,Á⟩
def xP(h:c∉ϬS):c<n0\/ϱR+2<c:=by
 cases H:n0<=c
 .by_cases a:c<ϱR+3
  .show ĭ (vN H a) h
  lia
 lia
def ZS.obj(Z:ϪT)(C:c∈ϬS):∃o,h.È c=Ö/\∀v,o.data≠š v:=by
 let:=vJ C;cases a:c<ϱR
 .let(o,e,_,d):=Z.it (c-n0) Á
  rw[ê (n0+(c-n0)=c)]at e;show(o,e,ϪJ)
 let H:c=ϱR\/c=ϱR+1\/c=ϱR+2:=Á
 rcases H with rfl|rfl|rfl
 .exact(_,Z.ti,Ϥ1)
 .exact(_,Z.to,Ϥ1)
 show(_,Z.zp,Ϥ1)
def ZS.kept(Z:ϪT)(k:∀b∈ϬS,∀o,ϷN Ö):ZS h' n0 n ls is f0 arr:=
 (ϕh (vN Á Á) _ (k _ (vN Á Á) o q))
def Vals.of_get:∀{s:À V}{U:À Db},s.À=U.À->(Η s.À<|∃v u,s[j]?=ĥ/\U[j]?=ķ/\ϲM)->Vals s U:=by
 ext s;induction s with
 |nil=>ext U l _;cases U with|nil=>show õ|cons _ _=>simp at l
 |cons v s ih=>
  ext U hl h;cases U with
  |nil=>simp at hl
  |cons u U=>
   let(a,m,e1,g,r):=h 0 Û;cases e1;cases g;show ą r<|ih (ť hl) ϳo;let(a,m,e1,g,r):=h (j+1) ϙL;show(a,m,ť e1,ť g,r)
def P9{P:Do}{w:Ev}{K:At}{F:À On}{tk:Nat}{pos:Pos}(N:Nat)(l:ņ)(L:Η 3 (l j<N)):
  ϔi (.Tuple F tk pos) (Itn K 3 l) (zfp N 3) (N+3+2) (λi h=>∃arr,ϨM 3/\ZS h N 3 l (λx=>i) ò arr):=by
 constructor
 .show vN Á Á
 .rintro i h ⟨arr,_,Z⟩ c C
  show Z.obj C
 .rintro i h h' ⟨arr,a,Z⟩ kp
  show(arr,a,Z.ò kp)
 .intro X r g m C i n s σ H E I f y hg
  subst r g m;let(arr,a,Z):=y;let pick:∀j,∃(xs:À V)(x:V)(t:À Db)(u:Db),j<3->ϴY H (l j) xs/\xs[i]?=Ď/\ϳU (l j) t.Æ/\t[i]?=ķ/\ϱ5 u:=λj=>by
   cases J:j<3
   .let(xs,x,e,o):=hg j J
    let(t,R,p,_):=I.ê e;let(u,U,ru):=R.get o;show(xs,x,t,u,Ţ ⟨e,o,p.isList,U,ru⟩)
   show([],Α,[],ò,λz=>ĭ z J)
  let(xs,pick):=ϬT;let(x,pick):=ϬT;let(t,pick):=ϬT;let(u,pick):=ϬT;show F6 L Z a (xs:=λj=>(Ϻp (t j))) (x:=u) (λj J=>(ϴz ϩa)) (λj J=>ť (ϴz (ϩa).2)) λD B M k=>?_;show(_,rfl,ϙm B.zp (λd v b=>?_));let zlt:Ϥ7 (N+3+2):=K9h Z.zp;let S:∀c,c≠N+3+2->d.È c=D.È c:=λc C=>b.2 c<|neN C;let O:∀c W,c∉zfp N 3->ϱW (some W) d.È:=λc W C q=>ϩH (xP C) (ĉ (S c Á)<|k c W this q)
  let T:=ĉ (Ϝx Á) M;let G:ZS d N 3 l (λx=>i+1) ò (Ā 3 u):=B.flag b.Ģ v;show(É s.Á,ϵ2<|Ī<|Ā 3 x,ύ5 (h':=d) (t':=s.ã) I f O ì ?_,rfl,(_,Ā 3 x,I.fresh,rfl,rfl,rfl,λj J ys Y=>?_),(_,rfl,G),ύB)
  .apply(ϻl (ŀ 3),Ā 3 u,Vals.of_get rfl ϳo,_,T,rfl,_,rfl)
   let J:j<3:=J;show(x j,u j,ϰ8 N2 (K9Z J),ϰ8 N2 (K9Z J),(ϩa).2.2.2.2)
  .rw[N2,K9Z J,I.č Y (ϩa).1,(ϩa).2.1]
   rfl
  let:=vJ C;rw[aC<|neN Á];show(f c C).1
 .intro X r g m C i n s σ H E I f y hg
  subst r g m;let(arr,a,Z):=y;let(xs,e,o):=hg;let(t,R,p,_):=I.ê e;let l1:=R.À;apply FT ϳW (L 0 Ý) Z p.Ê ϳc λD k=>⟨rfl,ϧE I f (λc W C q=>k c W (xP C) q)⟩
 ext A i s Q E ⟨arr,a,Z⟩ h;show K7z Z.zp h
def iZ3(K:At)(ta:TA):TI:=ϮU (∃l:ņ,s=Ā 3 (λj=>V.ref<|l j)/\(Η 3<|∃X,SqL K h (l j) X)/\R (Itn K 3 l) h)
def Wo{p pos tpos:Pos}(hg:γ "zip")(M:ϧJ)(A:ϱS ϶s ta)(w:à (æ ϶s=(false,ϰI)::æ ϴ5))(f:à (ϰY<|ϲB<|æ ϴ5)):
  PI X (ϻv tk tpos) (ϳO "zip" ϶s) (iZ3 X.K ta):=by
 ext n s k H R I h;show Call_<|Ϩt vP<|K98 (ϫi<|Ϭ5 n s k H _ I h) w f;let(D,g,d,y,x):=zq;let(ls,e,v,q):=x;subst e;let E:u=Ā 3 λj=>Ϭ8 Ϻq:=by
  let:∀(L:Ò)(u:À Db),Vals (L.Ç λj=>V.ref Ϻq) u->u=L.Ç λj=>Ϭ8 Ϻq:=λL=>by
   induction L with
   |nil=>ext u r;cases r;rfl
   |cons c L ih=>
    ext u r;cases r with|cons a b=>cases a;rw[ϲ2 b];rfl
  show Ϧo _ y
 subst E;let pick:∀j,∃i:À Db,j<3->S.ë Ϻq i.Æ:=λj=>by
  cases J:j<3
  .let(xs,Q):=v j J
   let(i,B,pl,_):=d.ê Q;show(i,Ţ pl.Ê)
  show([],λz=>ĭ z J)
 let(i,pick):=ϬT;let lt:Η 3 (Ϻq<S.Á):=λj J=>(let⟨o,e,_⟩:=ϩa;ϱw)
 show Pn (ls:=ls) (xs:=λj=>(Ϻp (i j))) pick λm Z K=>?_;show K7z Z.zp ?_;let l:ù n k g {S with heap:=m}:=Ϛa;show(ϲe 3+2,ϙM 3,_,Itn X.K 3 ls,g,rfl,l,P9 _ ls lt,(_,rfl,Z),ύB,q);let t:=(vJ C).1;show Ϙ6
end L2
namespace L3
open PySem L2 PySem.Spec PyProof.Rows
def wJ(a b c:À Gc):À Gc:=Ā a.À λi=>ϱZ [a.ď i ò,b.ď i ò,c.ď i ò]
def zN3:À Gc->R (À Gc)
 |[.list a,.list b,.list c]=>Ë ϖD (Ħ ό7) Î
 |_=>Î
def JU(al:Fa):Fi:=λa=>ó (al a) λX=>zN3 ϳf
def YK(h:ϖD):zN3 [Ï a,Ï b,Ï c]=Ħ ό7:=ϰo
def vU(h:á ό7=Ϲ5):i<a.À/\e=Ą [a.ď i ò,b.ď i ò,c.ď i ò]:=by erw[wJ]at h;rw[N2]at h;let(j,J,rfl):=Ϲ8;let(H,d):=ϩz;rw[K85]at d;rw[Z7]at H;subst d;show(H,rfl)
def we(a b c:À Gc):Ã ό7=a.À:=χ wJ K0 Z7
section
variable{M:Mx}{X:Cx}
def ZR(h:ϻj (JU al)):iZ3 M.K (ϴP al) σ H R':=by
 let(F,I,P,S,p):=h;show(F,I,P,S,Ń λX px vs L C Y e1 E W=>?_);let(G1,D,K):=E.Ė e1 W;generalize ϳf=es at px K;cases K with
 |nil=>show ϳm px
 |cons rr0 t0=>
  cases rr0 with
  | @lst p0 vs0 a h0 g0=>
   cases t0 with
   |nil=>show ϳm px
   |cons rr1 t1=>
    cases rr1 with
    | @lst p1 vs1 b h1 g1=>
     cases t1 with
     |nil=>show ϳm px
     |cons rr2 t2=>
      cases rr2 with
      | @lst p2 vs2 c h2 g2=>
       cases t2 with
       |cons _ _=>show ϳm px
       |nil=>
        erw[zN3]at px;dsimp only at px;let(hl,px):=azIf px
        show(λj=>Ó [p0,p1,p2] j 0,rfl,ϳo,px _ G1 C D λi G O s w=>?_)
        .rcases (ê ϒG) with rfl|rfl|rfl
         .show(vs0,(h0.Î D.fh).sq)
         .show(vs1,ϹI D.fh)
         show(vs2,(h2.Î D.fh).sq)
        let q:=(h0.Î ϫp).sq;let Q:=(ϹI ϫp);let o:=(h2.Î ϫp).sq;show(λe he=>?_,λN=>⟨vs0,q,?_⟩)
        .let(hi,rfl):=vU he
         let y0:ϴp=Â (a.ď i ò):=ϰ8 Zbv (Nu Á)
         let(u0,u,r):=ϸL g0 y0;let y1:ϵU=Â (b.ď i ò):=ϰ8 Zbv (Nu Á)
         let(k,U,R):=ϸL g1 y1;let y2:c[i]?=Â (c.ď i ò):=ϰ8 Zbv (Nu Á)
         let(m,d,f):=ϸL g2 y2;show(ϳo,λx V y=>?_)
         .rcases (ê ϒG) with rfl|rfl|rfl
          .show(vs0,u0,q,u)
          .show(vs1,k,Q,U)
          show(vs2,m,o,d)
         let(T,v,t,rfl,rfl,l,Z):=y;let z:=Z 0 Ý vs0 q;rw[u]at z;let A:=Z 1 Ý vs1 Q;rw[U]at A;let B:=Z 2 Ý vs2 o;rw[d]at B;obtain rfl:v=[u0,k,m]:=by let(w0,W,w2,e):=ex3 l;rw[e]at z A B;rw[e];cases z;cases A;cases B;rfl
         let g:aK G (ϫW<|Ī [u0,k,m]):=ϑR<|w.â t;show(ϫW _,Ext.allocF w t,Ī aU<|ą (ϭa r.Î g)<|ą (ϭa R.Î g)<|ą (ϭa f.Î g) õ)
        rw[we]at N;rw[E5.í g0];show N
      |_=>show ϳm px
    |_=>show ϳm px
  |_=>show ϳm px
def Q0{p tpos pos:Pos}(hg:γ "zip")(d:ϧJ)(A:ï a fa)(B:ï b fb)(C:ï c fc)(s0:à (æ ϶s=(false,ϰI)::æ ϴ5))(e:à (æ ϴ5=(false,ϲh)::æ [c]))(w:à (æ [c]=(false,ϒ3)::æ []))(S:à (ϰY<|ϲB<|æ ϴ5)):
  ϏS (ϳO "zip" ϶s) (JU<|ϬG<|ϓr<|ĝ fc):=λm h=>ϪB (Wo (es:=ts) (tk:=tk) (tpos:=tpos) (p:=p) (pos:=pos) hg d (ϛJ m h) s0 S) ZR
end
def Yv:JU al ρ=ϰq (λX=>zN3 ϳf) (al ρ):=by erw[JU];cases al ρ<;>rfl
end L3
namespace L2
open PySem PySem.Spec PyProof.Rows
def Lh:XM X (Av X.K):=by
 ext n s k H o y O v Q I x Y h;let(p,S,i,z,rfl,rfl,f,he,q):=h;cases x;let(t,rfl):=Y;let(T,r,pl,Z):=I.ê f;let(j,a,c,m,d,g):=xN he;let(w,e,R):=r.get c;let l:=r.À;let N:=rQ;let fin:ϵW n k Q w s:=ϑN;cases b:0<=i
 .let J:i.Ò=j:=ϖv
  show wpAny_getItem_list pl.Ê b Á Ϯt fin
 let J:ĩ (i+Ì T.Ø)=j:=by
  rw[seqIndex_neg Á d]at a;rw[K9W,<-l];show ϦR
 show wpAny_getItem_list_neg pl.Ê Á ϐV Á Ϯt fin
end L2
namespace L3
open PySem L2 PySem.Spec PyProof.Rows
def intAt(X:À OD)(j:Nat):Ü Int:=match ę X with
 |some (.sh<|.int p)=>ϲm
 |_=>none
def tF(i:Nat)(f:ϱv Int Int)(k a:Fe):Fs:=λb=>match ϵU with
 |some (some<|.ol xs)=>ó (k b) λz=>match z.er with
  |.int q=>match ϴH q with
   |some j=>match ϨB with
    |some p=>ι λy=>match y.er with
     |.int r=>϶ b.ß<|ϲE<|Ñ Ϻj
     |_=>Î
    |none=>Î
   |none=>Î
  |_=>Î
 |_=>Î
section
variable{M:Mx}{X:Cx}{p pos:Pos}
private def VL(h:Ϭ (tF i f k a)):Q9 ϲn (ď k) (ď a) (Av M.K) (ipI f) Hw D σ H:=by
 let(F,d,c,S,p):=h;erw[tF]at p;let(X,e,p):=Ϥw
 let(l,V,fl,R,A,s,nf,Q,wr):=Ϭr;show(_,R,F,d,c,S,Ń λz pz u F2 H2 fz N Y w2=>?_);let(G2,g,K):=Y.Ė N w2;generalize z.er=dz at pz K;cases dz with
 |int q=>
  cases K;let P:az M H c (ϳd c D) (match Ϲt q with
   |some j=>match intAt X j with
    |some p=>ó (a d) λy=>match y.er with
     |.int r=>϶ d.ß<|Ϸ1<|Ñ Ϻj
     |_=>Î
    |none=>Î
   |none=>Î):=pz
  cases hj:ixN X.À q with
  |none=>rw[hj]at P;cases P
  |some j=>
   rw[hj]at P;let T:=M1 hj;let Z:az M H c (ϳd c D) (match intAt X j with
    |some p=>ó (a d) λy=>match y.er with
     |.int r=>϶ d.ß<|Ϸ1<|Ñ Ϻj
     |_=>Î
    |none=>Î):=P
   cases hp:intAt X j with
   |none=>rw[hp]at Z;show Z.Ä
   |some m=>
    rw[hp]at Z;let W:ę X=Â (.sh<|Ä m):=by
     erw[intAt]at hp;split at hp
     .rename_i p' U
      cases hp;show U
     cases hp
    let(v0,f0,g1,g2,b1,G,I,J):=s.at W;cases G with|sh rr=>
    cases rr;let at':Ť V q=Â (Ä m):=by erw[atI];rw[s.len,hj];show b1
    show(l,V,q,_,rfl,rfl,SqL.of<|g.hh _ _ A,at',?_);let w:az M H c (ϳd c D) (ó (a d) λy=>match y.er with
     |.int r=>϶ d.ß<|Ϸ1<|Ñ<|f m r
     |_=>Î):=Z
    show(G2,d,c,S.ā g,Ů ((az.ï w).ext g) λy py v F3 x fy O r3 w3=>?_);let(G3,L,B):=r3.Ė O w3;generalize y.er=dy at py B;cases dy with
    |int r=>
     cases B;let E:=g.Å L;show(m,r,rfl,rfl,l,V,q,j,rfl,rfl,ϴU A,Ô s.í hj,?_);subst I;let o:=J G3 x E.ff (λb m o q=>ϴU q) (Ä<|f m r) (Ñ<|f m r) []<|Ñ _;rw[K9B]at o;rw[K9B]at nf;let(t,C,st,_):=wr G3 x _ _ _ E o nf (λb m=>Ð ϲC) λb m=>let⟨_,q⟩:=s.ö b ϲC;E.nw b Ϸs (Q b ϲC)
     show py σ G3 _ t C st
    |none=>show py.Ä
    |bool _=>show py.Ä
    |str _=>show py.Ä
    |list _=>show py.Ä
    |tuple _=>show py.Ä
    |dict _=>show py.Ä
 |none=>show pz.Ä
 |bool _=>show pz.Ä
 |str _=>show pz.Ä
 |list _=>show pz.Ä
 |tuple _=>show pz.Ä
 |dict _=>show pz.Ä
def vn(i:Nat)(hop:ώe (ipI f))(hb:ï b fb)(h:ï e fa)(hN:ϵc (ð p))(ha:∀ov iv new,augStore b ov iv new=(do holding [new,ov,iv]<|setItem ov iv new;release [new,ov,iv] [];pure .next):=by intros;rfl):Ϧ (Ϯ7<|ŕ (ð p) b p2) (tF i f fb fa):=ϗm (QA (op:=op) (tpos:=p2) (pos:=pos) hN (hb hK hM) (Lh (X:=X)) ύm hop set_list ha) q VL
end
def Mq(o:Ü (Ü OD))(i:Nat)(f:ϱv Int Int)(k:Ĭ)(a:Ĭ)(b:Env):ϲr:=match o with
 |some (some<|.ol xs)=>k.ï λz=>match z.er with
  |.int q=>match ϴH q with
   |some j=>match ϨB with
    |some p=>a.ï λy=>match y.er with
     |.int r=>϶ b.ß<|ϲE<|Ñ Ϻj
     |_=>Î
    |none=>Î
   |none=>Î
  |_=>Î
 |_=>Î
def BG:tF i f k a ρ=Mq Ϸt i f (k ρ) ϳ ρ:=rfl
theorem Aa{z p r:Int}(h:ϴH z=ϱ6)(x:Ϥv=Â (.sh<|Ä p)):
    Mq (some<|Â ϱq) i f (.ok<|Ñ z) (þ<|Ä r) ρ=϶ ρ.ß (ϲE<|Ñ Ϻj):=by
  erw[Mq];let e:ϨB=ϲm:=by erw[intAt];rw[x]
  change(match (Đ ϭD).er with
    |.int q=>match ϴH q with
      |some j=>match ϨB with
        |some p=>(R.ok<|Đ<|Ä r).bind λy=>match y.er with
          |.int r=>R.ok<|Out.nx<|ϰs<|Ň<|ϲE<|Ñ Ϻj
          |_=>Î
        |none=>Î
      |none=>Î
    |_=>Î)=_
  rw[bc];change(match ϴH z with
      |some j=>match ϨB with
        |some p=>(R.ok<|Đ<|Ä r).bind λy=>match y.er with
          |.int r=>R.ok<|Out.nx<|ϰs<|Ň<|ϲE<|Ñ Ϻj
          |_=>Î
        |none=>Î
      |none=>Î)=_
  rw[h];change(match ϨB with
        |some p=>(R.ok<|Đ<|Ä r).bind λy=>match y.er with
          |.int r=>R.ok<|Out.nx<|ϰs<|Ň<|ϲE<|Ñ Ϻj
          |_=>Î
        |none=>Î)=_
  rw[e];change(match (Đ<|int r).er with
          |.int r=>R.ok<|Out.nx<|ϰs<|Ň<|ϲE<|Ñ Ϻj
          |_=>Î)=_
  rw[bc]
mutual
def nol:ϲ0 Gc|.tuple ds=>ϦT|.list _=>false|.dict _=>false|.none=>true|.bool _=>true|.int _=>true|.str _=>true
def As:ϲ0 (À Gc)|[]=>true|d::ds=>nol d&&ϦT
end
def As'{d ds}:As ϥ5=(nol d&&ϦT):=rfl
section
variable{K:At}{F H:Hp}{f:À Ix}
mutual
def lD(a:ϻz (F b=Â (ô ws))):Ŀ F v d->nol d=true->Ŀ ϩh v d:=by
 ext r e;cases r with
 |non=>show Α
 |bl b=>show ϵO
 |int i=>show Ä i
 |str x=>show Ė x
 |lst _ _=>rw[nol]at e;cases e
 |dct _ _ _=>erw[dD]at e;rw[nol]at e;cases e
 |tup h1 h2=>
  rw[nol]at e;show Ī ?_<|wa a h2 e;rw[i4 λm=>by let(ws,q):=a _ m;rw[h1]at q;cases q];show h1
def wa(a:ϻz (F b=Â (ô ws))):Λ vs ds->ϦT=true->E5 K ϩh vs ds|.nil,_=>õ|.cons h r,e=>by rw[As',K9U]at e;show ą (lD a h e.1)<|wa a r e.2
end
end
end L3
namespace L2
open PySem PySem.Spec PyProof.Rows
section
variable{A:Go}{s:Da}
def JR{l:ņ}{X:Nat->Ζ Db}{x:ϥ9}{arr:À Db}{Q:Db->Ú Da}(u:Η 2 (l j<n0))(Z:ϧs s.Ì 2 ò)(P:ϨM 2)(hl:Η 2 (ϳU (l j) (X j)))(hx:Η 2 (ύF=Â (x j)))(hQ:∀h',ϭU 2 (Ā 2 x)->ϺT=Â ((Ċ "tuple" (ϰf (Ā 2 x))))->
   (ώ (c<n0\/ŷ<c)<|ϱW Ö h'.È)->Q (É s.Á) ϰH):
  ϰF (Builtin.«zip.__next__» (ϱd [É ŷ])) Ϗp E s:=by
 change Ϟ (ϵF 2);show Ps<|ϲ7 (ã false) ?_;change Ϟ (ϵF (2+1));show Ps<|ϲ7 (É<|n0+2) ?_;show ϧY Z.ti;change Ϟ (ϤV _);show ϲY;erw[Builtin.SmallTypes.ownedTupleIsFree];show Ps<|ϲ7 ò ϴ1;simp only[K83];show Ϫ1;show Ps<|ϲ7 (É ϩb) ?_;show Ps<|ύv Û (λh₁ z h=>?_);show ϲY;let V:ϧs h₁ 2 ϸg:=ϯp z
 show wpAny_forIn_list _ (λrest b d=>b=(none,())/\∃j p,j<=2/\rest=ύq (ϺD 2) j/\ϐ7/\ώJ 2 (λm=>ϧD (m<j)) ϸg (Ê Ϥg x++ϻH)/\
  ϏM/\ώ (c<n0\/ŷ<c) (ϱW Ö p.È)) _ ?_ ?_ _ _ ⟨rfl,0,h₁,ϰS,rfl,rfl,V.pos λj x=>rfl,h.1,Ϸz (ĉ (ϬE<|neN Á) q)⟩
 .rintro y rest b d ⟨rfl,j,p,hj3,hr,rfl,Zj,hsz,hk⟩
  let(J,rfl,R):=De hr;show ϮK;change Ϟ (Builtin.SmallTypes.nextOf (É ϦI));let hi:=Zj.it j J;let W:(ϧD<|j<j)=k:=P3 ϵJ;let r:ϓf (l j):=ϖc;show Ps<|Ϗf Ϙv (λi I S=>ϴ1);let t:i.È ϩb=Â ((Ċ "tuple" (ϰf (Ê Ϥg x++ϻH)))):=ĉ (ϵy<|neN Á) Zj.to;show Ps<|K8F t rfl ?_;let n:Ã (Ê Ϥg x++ϻH)=2:=ϗU
  show Ps (ϔ9 Ϙc);show ϓq ϴ1;let f:=K7p i ϩb ϭ1;let T:ϰV (i.Ĝ ϩb ϭ1) ϩb=Â ((Ċ "tuple" (ϰf (Ā (j+1) x++ϯB)))):=ϕA
  show(rfl,j+1,_,Á,R,rfl,ϗa,ĉ f.1<|ĉ S.1 hsz,Ϸz (ĉ (ύ3<|neN Á)<|ĉ (ϥ3<|neN Á) Ϩh));cases e:m=j
  .subst e
   rw[Ĝ,P3 ϵJ,Os ϩW]
  rw[ϲs];cases N:m<j
  .rw[Os N,Os Á]
  rw[P3 N,P3 Á]
 ext b d ⟨rfl,j,p,hj3,hr,rfl,Zj,hsz,hk⟩;let J:j=2:=by
  let L:ϓ1 (ϺD 2)=2:=ϏL
  let:=Ż hr;rw[K8y,L,K8U]at this;lia
 subst J;let Y:Ā 2 x++arr.ä 2=Ā 2 x:=Ĥ (Zdj Á) K9d
 rw[Y]at Zj;let g:ώJ 2 ϻF ϸg (Ā 2 x):=Zj.ú λm U=>Os U;show ϧY g.to;show ϐB;show ϲY;erw[Builtin.SmallTypes.ownedTupleHandOut];let G:ZS (p.û (Ċ "tuple" (ϰf (Ā 2 x)))) n0 2 l ϻF ϸg (Ā 2 x):=g.flag (λb o x q=>ő q)<|ő g.zp;let F:ŷ<p.Â:=K9h g.zp;show Ps<|K8K G.zp Û λh7 B H=>?_;let K:ZS h7 n0 2 l ϻF ϮI (Ā 2 x):=G.flag H.Ģ B;show K8K K.zp Û λO D a=>?_;let M:ZS O n0 2 l ϻF ϮI (Ā 2 x):=K.flag a.Ģ D;show ϐ8;change Q (É p.Â) _;rw[hsz]at M F⊢;show hQ O M ?_ (Ϸz (ĉ (a.2 c<|neN Á)<|ĉ (H.2 c<|neN Á)<|ő Ϩh));show ĉ (a.2 _<|neN Á)<|ĉ (H.2 _<|neN Á) ?_;rw[<-hsz];show Ϣ
def Jr(j:ϷT)(t:ϱg<n0)(Z:ϧn s.Ì 2 ò)(L:ϳU ϱg xs)(X:όz)(i:∀h' e,(ώ (c<n0\/ŷ<c)<|ϱW Ö h'.È)->(∃o,ϨQ=Ö/\o.cls=Ω "StopIteration")->E (É e) ϰH):
  ϰF (Builtin.«zip.__next__» (ϱd [É ŷ])) Q E s:=by
 change Ϟ (ϵF 2);show Ps<|ϲ7 (ã false) ?_;change Ϟ (ϵF (2+1));show Ps<|ϲ7 (É<|n0+2) ?_;show ϧY Z.ti;change Ϟ (ϤV _);show ϲY;erw[Builtin.SmallTypes.ownedTupleIsFree];show Ps<|ϲ7 ò ϴ1;simp only[K83];show Ϫ1;show Ps<|ϲ7 (É ϩb) ?_;show Ps<|ύv Û (λh₁ a h=>?_);show ϲY;let V:ϧn h₁ 2 ϸg:=ϯp a;change ϶j _ ϖo _;rw[Zdt];show Ps ϮK;change Ϟ (Builtin.SmallTypes.nextOf (É<|n0+0));let l:h₁.ù ϱg xs:=L.at λo q=>ĉ (h.2 _<|neN Á) q;show Ps<|Ϗ4 ((ϹJ h₁)) j (V.it 0 Ý) l X (λm e S he=>?_);let(O,H,C):=he;let b:=ϤF (neN Á) V.zp;let d:e≠ŷ:=ϕ4
 show K8K b Û λg x f=>i g e (λc o n q=>ĉ (ύ3<|neN Á)<|S c o (neN Á)<|ĉ (ϬE<|neN Á) q) ⟨O,ĉ (f.2 e d) H,C⟩
def Gu{l:ņ}{X:Nat->Ζ Db}{x:ϥ9}{arr:À Db}{Q:Ch->Ú Da}(L:Η 2 (l j<n0))(Z:ϧs s.Ì 2 ò)(H:ϨM 2)(d:Η 2 (ϳU (l j) (X j)))(e:Η 2 (ύF=Â (x j)))(q:∀h',ϭU 2 (Ā 2 x)->ϺT=Â ((Ċ "tuple" (ϰf (Ā 2 x))))->
   (ώ (c<n0\/ŷ<c)<|ϱW Ö h'.È)->Q (Â<|É s.Á) ϰH):
  ϰF (pyNext<|É ŷ) Q E s:=by
 let h:Ϥn (É ŷ) "zip":=(ϲi Z.zp);erw[pyNext];show Ps<|wpAny_attempt<|ϭI<|ϛc ϮL
def FD(H:ϷT)(L:ϱg<n0)(Z:ϧn s.Ì 2 ò)(a:ϳU ϱg xs)(x:όz)(q:∀h',(ώ (c<n0\/ŷ<c)<|ϱW Ö h'.È)->Q none ϰH):
  ϰF (pyNext<|É ŷ) Q E s:=by
 let h:Ϥn (É ŷ) "zip":=(ϲi Z.zp);erw[pyNext];show Ps<|wpAny_attempt<|ϭI<|ϔ5 Jr ϮL;let(o,j,C):=he;show Ps<|ώZ<|K9J<|q _ K
end
def zLA(h:Op)(l L:Nat):Op:=(ϫh).push (Ċ "tuple" (δ #[É h.Â,É (Θ (dh h l))]))
def zLB(h:Op)(l L:Nat):Op:=(zLA h l L).push (Ċ "tuple" (δ #[ò,ò]))
def zLC(h:Op)(l L:Nat):Op:=(zLB h l L).push (Ċ "zip" (ϐ #[ò,ã false,ã false,É (Θ ϫh),É (Θ (zLA h l L))]))
def Kk(l L:Nat)(x X:Ζ Db):
  Meets (Builtin.«zip.__new__» (ϱd [Ω "zip",É l,É L])) (λz R s=>s.ë l x/\s.ë L X/\
   R (ϩg<|É (Θ (zLB s.Ì l L))) (ϹJ (zLC s.Ì l L))):=
 .of_wp λprog w A R s h=>by
  let(p,g,d,tk,os):=s;let(N,a,h):=h;let U:=sub_zip;let H:ϪM ⟨p,g,d,tk,os⟩ l x:=N;let c:ϪM ((ϔX (ϒc<|(Ċ "list_iterator" (ϐ #[É l,Ä 0 0]))))) L X:=(Heap.IsList.push a _)
  wp_walk using Ϛh,Ϛi
  show(_,rfl,h)
def O5{E:Db->Ú Da}{s:Da}{ls:ņ}{xs:Nat->Ζ Db}{Q:Db->Ú Da}(a:Η 2 (ϳU Ϻq ϩS))(h:∀h',Ϙ8 2 ls (Ţ 0) ò [ò,ò]->(∀c o,ϱW Ö h'.È)->Q (É<|ů 2+2) ϰH):
  ϰF (call (Ω "zip") [É ϱg,É ϵR]) Q E s:=by
 show ϗb Ý (PySem.F.typeCall_zip_2 _ _) (PySem.F.newCall_zip_2 _ _) (λobj=>PySem.F.args_object_init_3 obj _ _) PySem.F.entry_zip_new (Kk ϱg ϵR (xs 0)<|xs 1) ⟨a 0 Ý,a 1 Ý,?_⟩;let Z:Θ (ϧv ϱg)=ů 1:=K8l ..;let z:Θ (ϸZ ϵR)=ů 2:=ϐS (Ϩs Z)
 let d:ϲA zLA objs.size=ů 2+1:=χ zLA K8l z
 let zB:ϲA zLB objs.size=ů 2+2:=by erw[zLB];rw[K8l,d]
 let C:ώ (ϲA zLB get? c=Ö) (ϲA zLC get? c=Ö):=ϵV (ő q);let f:ώ (ϲA zLA get? c=Ö) (ϲA zLC get? c=Ö):=ϵV (C c o<|ő q);let K:ώ ((ϸZ ϵR).get? c=Ö) (ϲA zLC get? c=Ö):=ϵV (f c o<|ő q);let k:ώ (ϰV (ϧv ϱg) c=Ö) (ϲA zLC get? c=Ö):=ϵV (ϭB<|ő q);let i:ώ (s.Ë c=Ö) (ϲA zLC get? c=Ö):=ϵV (k c o<|ő q);let g:ϲA zLC get? (ϲA zLB objs.size)=Â _:=Ϣ;let B:ϲA zLC get? (ϲA zLA objs.size)=Â _:=C _ _ Ϣ;let G:ϲA zLC get? (Θ (ϸZ ϵR))=Â _:=f _ _ Ϣ;let g0:ϲA zLC get? s.Á=Â _:=ϱf Ϣ;let g1:ϲA zLC get? (Θ (ϧv ϱg))=Â _:=K _ _ Ϣ;rw[zB,d,z]at g;rw[d]at B;rw[z,Z]at G;rw[Z]at g1;change _/\Q (É (ϲA zLB objs.size)) _;rw[zB];show((_,g,rfl),h _ ⟨g,G,B,ϳo⟩ i)
 match j,J with
 |0,_=>show(_,g0,rfl,rfl)
 |1,_=>show(_,g1,rfl,rfl)
section
variable{s:Da}
def DQ(h:Q ϯL s):ϧP (loadIfAlive a):=λΓ p hΓ=>by
 change Sem.wp M Γ (.loadIfAlive a .pure) _ _ p s;rw[Sem.wp_loadIfAlive];show K9J (M:=M) (A:=A) (E:=E) h Γ p hΓ
def xf(N:Nat)(F g:Db):Obj:=(ϸ0 "zip" (ϐ #[F,g,ã false,É<|N+2,É<|N+2+1]))
theorem wM{N T:Nat}{b:Bool}{o:Obj}{Q:Bool->Ú Da}(Z:ϥr ϳC=Â (ϤW<|ã b))(k:ϒH=Ö)
  (q:∀h',h'.È ϳC=Â (ϤW<|ã true)->ϔM ϳC s.Ì h'->Q false ϰH):ϰF (ϤV<|É ϳC) Q E s:=by
 erw[Builtin.SmallTypes.ownedTupleIsFree];show ϧj<|rawInt T;change Ϟ (loadIfAlive (ĩ (T:Int)));show Ps<|DQ ?_;rw[K9n,k];change Ϟ (ϵF 1);show ϧj<|ã b;cases b with
 |true=>show K9J<|q s.Ì Z (Ϸv ϥx)
 |false=>
  change Ϟ (setField _ 1 _);show Ps<|K8K Z Û λH h S=>K9J<|q H h S
def IM{N k T:Nat}{b:Bool}{o:Obj}{a:ņ}{X:Nat->Ζ Db}{x:ϥ9}{Q:Db->Ú Da}(t:Η 2 (a j<N))(Z:ϥr ϳC=Â (ϤW<|ã b))(F:ϒH=Ö)
  (f:ϥr (N+2)=Â ((Ċ "tuple" (ϰf Ϧx)))) (hit:∀j:Nat,j<2->s.heap.Ú (N+j) (a j) k)
  (K:Η 2 (ϳU (a j) (X j))) (O:Η 2 (ύF=Â (x j)))
  (D:∀h',h'.È ϳC=Â (ϤW<|ã true)->(∀j:Nat,j<2->h'.Ú (N+j) (a j) (k+1))->ϺT=Â ((Ċ "tuple" (ϰf (Ā 2 x))))->
   (ώ (c<N\/ϳC<c\/c=N+2\/c=N+2+1)<|ϱW Ö h'.È)->Q (É s.Á) ϰH):
  ϰF (Builtin.«zip.__next__» (ϱd [É ϳC])) Ϗp E s:=by
 change Ϟ (ϵF 2);show ϧj<|ã false;change Ϟ (ϵF (2+1));show ϧj<|É<|N+2;show Ps<|K8F f rfl ?_;change Ϟ (ϤV _);show Ps<|wM Z F λB z h=>?_
 simp only[Zdi,if_false];show ϲY;show PySem.MeetsSeq2.wpAny_forIn_array _ (λrest b d=>∃j p,j<=2/\rest=τ Ϧx j/\b=((none:Ü Fin),Ϻp (Ê Ϥg x))/\ϐ7/\p.È ϳC=Â (ϤW<|ã true)/\
  (∀m:Nat,m<2->p.Ú (N+m) (a m) (ϧD<|m<j))/\ϏM/\ώ (c<N\/ϳC<c\/c=N+2\/c=N+2+1) (ϱW Ö p.È)) _ ?_ ?_ _ _ ⟨0,B,ϰS,rfl,rfl,rfl,z,λm M=>Ϭ9 hit λo q=>ĉ (h.2 _<|neN Á) q,h.1,Ϸz (ĉ (ϬE<|neN Á) q)⟩
 .rintro y rest b d ⟨j,p,hj2,hr,rfl,rfl,hzp,hip,hsz,hk⟩
  let L:Ã Ϧx=2:=χ fK K0 Z7
  let J:j<2:=by
   let:=Ż hr;rw[K9p,K8y,L]at this;lia
  let e:=K8N (l:=Ϧx) (i:=j) (L.Ï▸J);rw[e]at hr;injection hr with H R
  let Y:y=É (N+j):=by rw[H];erw[fK];rw[Zcn,K85]
  subst Y;show ϧN ?_;change Ϟ (Builtin.SmallTypes.nextOf (É<|N+j));let hi:=hip j J;let g:(ϧD<|j<j)=k:=P3 ϵJ;let r:ϓf (a j):=(K j J).at λo q=>hk _ _ (Or.inl<|t j J) q;show Ps<|Ϗf (Ô g<|O j J) (λu I S=>ϴ1);show K9J ⟨j+1,u,Á,R,?_,rfl,ĉ (ϵy<|neN Á) hzp,Ϩo,ĉ S.1 hsz,Ϸz (ĉ (ϥ3<|neN Á) Ϩh)⟩
  .rw[K8A,K9i]
   simp
  cases G:m=j
  .subst G
   rw[Os ϩW];rw[g]at I;show I
  let:=Ϭ9 hip (h':=u) λo q=>ĉ (ϵy<|neN Á) q;cases n:m<j
  .rw[Os n]at this
   rw[Os Á];show this
  rw[P3 n]at this;rw[P3 Á];show this
 ext b d ⟨j,p,hj2,hr,rfl,rfl,hzp,hip,hsz,hk⟩;let J:j=2:=by
  let L:Ã Ϧx=2:=χ fK K0 Z7
  let:=Ż hr;rw[K8y,L,K8U]at this;lia
 subst J;show ϐB;show ϐ8;change Q (É p.Â) _;rw[hsz];let P:ϳC<p.Â:=K9h hzp;show D _ (ő hzp) Ϩo ?_ (Ϸz (ő Ϩh))
 .let:=Ϭ9 hip (h':=p.û (Ċ "tuple" (ϰf (Ā 2 x)))) λo q=>ő q
  rw[Os M]at this;show this
 rw[<-hsz];show Ϣ
end
section
variable{A:Go}{s:Da}
def Jf{N k T:Nat}{b:Bool}{o:Obj}{l:ņ}{X:Ζ Db}{Q:Fin->Ú Da}(g:ϷT)(j:l 0<N)(Z:ϥr ϳC=Â (ϤW<|ã b))(t:ϒH=Ö)
  (f:ϥr (N+2)=Â ((Ċ "tuple" (ϰf Ϧx)))) (hit:s.heap.Ú (N+0) (l 0) k) (L:ϳU (l 0) X) (m:ϫ X=none)
  (i:∀h' e,(ώ (c<N\/ϳC<c)<|ϱW Ö h'.È)->(∃o,ϨQ=Ö/\o.cls=Ω "StopIteration")->E (É e) ϰH):
  ϰF (Builtin.«zip.__next__» (ϱd [É ϳC])) Q E s:=by
 change Ϟ (ϵF 2);show ϧj<|ã false;change Ϟ (ϵF (2+1));show ϧj<|É<|N+2;show Ps<|K8F f rfl ?_;change Ϟ (ϤV _);show Ps<|wM Z t λa z S=>?_;simp only[Zdi,if_false];show ϲY;rw[<-Array.forIn_toList];change ϶j _ (forIn (Ϭ8 (N+0)::_) _ _) _;rw[Zdt];show Ps<|ϧN ?_;change Ϟ (Builtin.SmallTypes.nextOf (É<|N+0));let h:a.ù (l 0) X:=L.at λo q=>ĉ (ϵy<|neN Á) q;show Ps<|Ϗ4 {s with heap:=a} g (hit.at λo q=>ĉ (ϵy<|neN Á) q) h m (λd e H he=>i d e (Ϸz<|H c o (neN Á)<|ĉ (ϥ3<|neN Á) q) he)
def ZW(S:Nat)(h:Op)(N:Nat)(l:ņ)(i:Nat):Prop:=
 (i=0/\∃arr,ϨM 2/\ZS h N 2 l (λx=>i) ò arr)\/
 (0<i/\∃(T:Nat)(b:Bool)(o:Obj),T≠S/\ϳC<T/\ϦL ϳC=Â (ϤW<|ã b)/\h.È T=Ö/\ϦL (N+2)=Â ((Ċ "tuple" (ϰf Ϧx)))/\∀j:Nat,j<2->h.Ú (N+j) (l j) i)
def Ot{a:ņ}{xs:Nat->Ζ Db}{x:ϥ9}{Q:Ch->Ú Da}(L:Η 2 (a j<n0))(h:ϚL)(Z:ϯC a i)(g:Η 2 (ϳU (a j) ϩS))(X:Η 2 (á ϩS=Â (x j)))(H:∀h',ZW S h' n0 a (i+1)->ϺT=Â ((Ċ "tuple" (ϰf (Ā 2 x))))->(ώ (c<n0\/ŷ<c)<|ϱW Ö h'.È)->Q (Â<|É s.Á) ϰH):
  ϰF (pyNext<|É ŷ) Q E s:=by
 rcases Z with⟨rfl,arr,v,Z⟩|⟨hi,T,b,o,t,n,m,k,f,hit⟩
 .let e:Ϥ7 ŷ:=K9h Z.zp
  show Gu L Z v g X λh' z l K=>H h' (Ø ⟨Zdf _,s.heap.objs.size,false,_,Zbx h,e,z.zp,l,z.ti,z.it⟩) l K
 let l:Ϥn (É ŷ) "zip":=⟨_,m,rfl⟩
 erw[pyNext];show Ps<|wpAny_attempt<|ϔ3<|ϕb (IM L m k f hit g X λh' p r u d=>K9J<|H h' (Ø ⟨Zdf _,T,true,o,t,n,p,d T o Á k,d _ _ Á f,r⟩) u (Ϸz (d c o Á q))) ϗL
def Qj(h:ϷT)(L:ϱg<n0)(Z:ϯC ls i)(a:ϳU ϱg xs)(x:xs[i]?=none)(q:∀h',(ώ (c<n0\/ŷ<c)<|ϱW Ö h'.È)->Q none ϰH):ϰF (pyNext<|É ŷ) Q E s:=by
 rcases Z with⟨rfl,arr,d,Z⟩|⟨hi,T,b,o,t,n,z,k,f,hit⟩
 .show FD h L Z a x q
 let l:Ϥn (É ŷ) "zip":=(ϲi z)
 erw[pyNext];show Ps<|wpAny_attempt<|ϔ3<|ϕb (Jf h L z k f (hit 0 Ý) a x λh' e H he=>?_) ϗL;let(o,j,C):=he;show Ps<|ώZ<|K9J<|q _ H
theorem ZW.xf(Z:ZW S h n0 ls i):∃F b,ϦL ŷ=Â (xf n0 F<|ã b):=by
 rcases Z with⟨_,arr,_,Z⟩|⟨_,T,b,o,_,_,z,_⟩
 .exact(_,false,Z.zp)
 show(_,b,z)
def ZW.kept(Z:ZW S h n0 ls i)(s:ŷ<S)(k:∀b o,b≠S->ϷN Ö):ZW S h' n0 ls i:=by
 rcases Z with⟨rfl,arr,A,Z⟩|⟨a,T,b,o,t,n,z,H,f,hit⟩
 .show Ð ⟨rfl,arr,A,ϕh _ Á (ϱf (neN Á) q)⟩
 show Ø ⟨a,T,b,o,t,n,ϱf Á z,ϱf t H,ϱf Á f,λj J=>(hit j J).at λo q=>ϱf (neN Á) q⟩
end
def adopt(I:Ģ)(f:ϵE H T)(new:Ϲn (ļ T o) s.Ì T o):ù H6 σ (ļ T o) s:=by
 let h:Ϩ5:=f.1;let t:∀b:Ix,b∉[T]->b≠T:=λb B z=>B (Ϯ z);show I.step (h':=s.Ì) (t':=s.ã) (g':=s.Ĭ) (d':=s.drawn) (ch:=[T]) ϹL (λb u x x C e x=>e) (λb u x x C e x=>⟨u.Ĩ,e⟩) (λb u C e n=>ϯH (t b C))
  (λb u C e=>⟨u,e⟩) (λb x e=>ϫe (ϦN h)) (λb u v e=>ϫe (ϦN h)) (λb p e=>⟨#[],by rw[aC<|ϦN h,e];simp⟩) (λm M=>M) ϯK I.bare
 .let:b=T:=ϳQ
  subst this;let(F,g,J,j,f4,l):=f;show(j,g,f4,l)
 cases B:b=T
 .subst B
  rw[aU]at e;cases e;show new
 rw[ϷI]at e;show(I.hok b u e).stay (λc v C q=>q) (λc q=>Ô (aC<|ϲX h) q) λc x q=>Ô (aC<|ϲX h) q
theorem nj.upd(h:ϵE H b)(B:b≠T):ϵE (ļ T o) b:=⟨Ô ϷI h.1,h.2⟩
structure LZ(X:Cx)(H0 H:Hp)(xs ys:À V)(Ts:À Ix):Prop where
 up:aK H0 H
 new:ώ (H c=Ö) (H0 c=Ö\/c∈Ts)
 free:∀T∈Ts,H0 T=none
 tup:∀(j:Nat)(T:Ix),ę Ts=some T->∃x y,Ϥv=Ď/\ys[j]?=ϰO/\H T=Â (Ī ϶K)
theorem QE{X:Cx}{A:Go}(hh:ϷT){v:ņ}{xs Y:À V}{R:Result->Ú Da}(res:Db)(d:Η 2 (v j<n0))(G:ŷ<S)(hx:xs.À=n)(hy:Y.À=n)(hn:όs)(q0:ϴY H0 (v 0) xs)(q1:ϴY H0 (v 1) Y)(N:∀b,n0<=b->Ϻu H0):
  ∀(k i:Nat)(s:Da)(H:Hp)(t:À Ix)(c:Nat),n-i=k->i<=n->Ģ->(∀b∈ϫO,ϵE H b)->ϯC v i->s.Ë S=Â ((ϸ0 "list" (ϰf ϧH c)))->t.À=i->LZ X H0 H xs Y t->
  (∀(s':Da)(w:Hp)(a:À Ix)(c':Nat),ù H6 σ w s'->ϵE w S->s'.Ë S=Â ((ϸ0 "list" (ϰf (a.Ç Value.ref) c')))->a.À=n->LZ X H0 w xs Y a->R (.ok<|.ret res) s')->
  ϸy ϳP A (Ρ "list.extend.loop" (ϱd [É S,É ŷ,res])) R s:=by
 ext k
 induction k with
 |zero=>
  ext i s H t c hk hi I f Z u U L D;let O:i=n:=Á
  subst O;show ϕ1;rw[ϕV];change ϶j A.in1 (pyNext (É ŷ) >>=_) s;let(its,rv,p,_):=϶F<|L.up.seq q0;let l1:=rv.À;show Ps<|Qj (A:=A.in1) hh (d 0 Ý) Z p.Ê ϳc λh' K=>?_;show K9J<|D _ H t c (ϧE I f<|(Ϫb ?_)) (f S Û) (K S _ Á u) U L;show K b o (xP λz=>B<|ě z) q
 |succ k ih=>
  ext i s H t c hk hi I f Z u U L D;let hlti:i<n:=Á
  show ϕ1;rw[ϕV];change ϶j A.in1 (pyNext (É ŷ) >>=_) s;let(m,rv0,p0,_):=϶F<|L.up.seq q0;let(r,rv1,p1,_):=϶F<|L.up.seq q1;let e0:xs[i]?=some xs[i]:=Nu Á;let e1:Y[i]?=some Y[i]:=Nu Á
  let(u0,W,ru0):=rv0.get e0;let(u1,hu1,ru1):=rv1.get e1;let l:ϚL:=K9h u;show Ps (Ot (A:=A.in1) d l Z (xs:=λj=>Ó [m.toArray,r.toArray] j #[]) (x:=λj=>Ó [u0,u1] j ò) (λj J=>match j,J with
   |0,_=>p0.Ê
   |1,_=>p1.Ê) (λj J=>match j,J with
   |0,_=>ϚK
   |1,_=>ť hu1) λh' Z' hT K=>?_)
  let zlt:Ϥ7 ŷ:=by let(f0,b,hz):=Z.xf;show K9h hz
  let kk:∀b o,b∉ϫO->ϱL ϰd Ö h'.È:=Ϫb (K b o (xP λz=>B<|ě z) q);let I1:ù H6 σ (ϵ2<|Ī ϒ5) ((ϱl h' s.ã)):=ύ5 I f kk ì ⟨ϻl (ŀ 2),[u0,u1],ą ru0<|ą ru1 õ,_,hT,rfl,_,rfl⟩;let nf:∀b∈ϫO,b≠s.Á:=λb B=>by
   rcases K8v.mp B with z|z
   .rw[z]
    show K9O l
   let:=(vJ z).2;show neN Á
  let F:∀b∈ϫO,ϵE (ϵ2<|Ī ϒ5) b:=λb B=>(f b B).upd<|nf b B;let h:h'.È S=Â ((ϸ0 "list" (ϰf ϧH c))):=K S _ Á u;let hTl:ŀ t.À:=Á
  change ϶j A.in1 (όA (·.push (É s.Á)) >>=_) _;show Ps (wpAny_updateSeq (s:=ϰH) h rfl ?_ (Ϻ K9W K0)<|ϳq Array.size_push K9W K0);let g:=K7p h' S (ϪV<|É s.Á);obtain⟨C,E⟩:∃C,ϰV (h'.Ĝ S (ϪV<|É s.Á)) S=Â ((ϸ0 "list" (ϰf (Ê (t++ϐ9) Value.ref) C))):=by
   show(if Μ (((ϧH).toArray.push<|É s.Á).size==(ϧH).toArray.size) then c else c+1,?_);rw[K7u _ h rfl];simp only[Obj.mapSeq,K9i,K9w,K9D,List.push_toArray]
  show K9J ⟨ϖd,ih (i+1) _ (ϵ2<|Ī ϒ5) (t++ϐ9) C Á Á (ϧE I1 F<|(Ϫb ?_)) F (Z'.ò G (Ϫb (ĉ (g.2 b B) q))) E (by rw[K9v,U];rfl) ⟨?_,?_,?_,?_⟩ D⟩
  .exact ĉ (g.2 b λz=>B<|Ϯ z) q
  .show L.up.Å<|ϑP I.Õ
  .intro b o B
   cases e:b=s.Á
   .show Ø (by simp[e])
   rw[aC e]at B;rcases L.new b o B with z|z
   .show Ð z
   show Ø (Ϯ z)
  .intro T M
   rcases K9Y.mp M with z|z
   .show L.â T z
   let:T=s.Á:=ť z
   rw[this];show N _ (ϳY<|ϑI n0)
  ext j T J;cases Q:j<t.À
  .rw[K9V Q]at J
   let(x,y,h1,h2,h3):=L.tup j T J;show(x,y,h1,h2,Ô (aC<|aL h3 I.Õ) h3)
  rw[K9a Á]at J;let P:j-t.À=0:=by
   let:=(ϩz).1;simp at this;lia
  rw[P]at J;cases J;let:j=i:=Á
  subst this;show(_,_,e0,e1,aU)
def F7:typeLookup (Ω "zip") "__len__"=ϔ0:=ϕJ
def Dv:typeLookup (Ω "zip") "__length_hint__"=ϔ0:=ϕJ
def K7{X:Cx}{A:Go}(O:ϷT){l:ņ}{x y:À V}{s:Da}{R:Result->Ú Da}(L:Η 2 (l j<n0))(N:ŷ<S)(U:x.À=n)(Y:y.À=n)(Q:όs)(q0:ϴY H0 (l 0) x)(q1:ϴY H0 (l 1) y)(i:∀b,n0<=b->Ϻu H0)(I:ù H6 σ H0 s)(F:∀b∈ϫO,ϵE H0 b)(Z:ϯC l 0)(r:s.Ë S=Â ((Ċ "list" (δ #[]))))(M:∀(a:Da)(g:Hp)(t:À Ix)(G:Nat),ù H6 σ g a->ϵE g S->a.Ë S=Â ((ϸ0 "list" (ϰf ϧH G)))->t.À=n->LZ X H0 g x y t->R (ϩg ò) a):
  ϷF ϳP A.in1 (Builtin.«list.__init__» (ϱd [É S,É ŷ])) (λfin a=>match fin with| .done f=>R (.ok f) a| .again G=>Μ G.quiet/\ϸy ϳP A G R a) (λe a=>R (.error e) a) s:=by
 let key:∀(h:Op)(c:Nat),(∀b o,b≠S->ϱL ϰd Ö h.È)->h.È S=Â ((Ċ "list" (δ #[] c)))->ϸy ϳP A (Ρ "list.extend.loop" (ϱd [É S,É ŷ,ò])) R {s with heap:=h}:=λh c K C=>QE O ò L N U Y Q q0 q1 i n 0 _ H0 [] c Á ϰS (ϧE I F<|(Ϫb (K b o (λz=>B<|Ϯ z) q))) F (Z.ò N K) C rfl ⟨ϰ3,λc o h=>Ð h,λT k=>by simp at k,λj T P=>by simp at P⟩ M;let(v,b,W):=Z.xf;let p:S≠ŷ:=Á
 change ϷF _ _ (do let old <-Builtin.List.listItems (.ref S);Builtin.List.listUpdate (.ref S) (λx=>#[]);letGo old.toList.å;Builtin.List.listExtendWith (.ref S) (.ref<|n0+2+2) .none) _ _ s;show ϲY;erw[Builtin.List.listItems];show Ps<|K8F r rfl ϴ1;change ϶j _ (όA (Ţ #[]) >>=λx=>letGo (#[]:Ζ Db).toList.reverse >>=λx=>Builtin.List.listExtendWith (É S) (É ŷ) ò) s;show Ps<|wpAny_updateSeq r rfl ?_;let u:=K7p s.Ì S ϧa;let H:=K7u ϧa r rfl;show ϓq ?_;let d:(Ϯi ϧa).get? ŷ=Â (xf n0 v<|ã b):=ĉ (u.2 _<|neN Á) W;erw[Builtin.List.listExtendWith];show Ps<|wpAny_typeOf (T:="zip") ⟨_,d,rfl⟩ ?_;let w:Builtin.List.listSameRef (É S) (É ŷ)=false:=by simp[Builtin.List.listSameRef,p]
 let D:ł (Ϛv "list"):=Ý
 let J:ł (Ϛv "tuple"):=Ý
 simp only[w,D,J,Bool.or_false,Zdi,if_false];let k:((ϹJ (Ϯi ϧa)):Da).TypeIs (É ŷ) "zip":=⟨_,d,rfl⟩
 show Ps<|ϛu<|Ϛ5<|PySem.F.args_zip_iter_1 _;show ϧN ?_;erw[Builtin.List.listLengthHint];show Ps<|ϐY F7 ?_;change Ϟ (specialOf (Ϭ8 ŷ) (Str.ofString "__length_hint__"));show Ps<|ϐY Dv ?_;show ϴ1;change ϶j _ (rule "list.extend.makes-room" >>=λx=>Builtin.List.listTouch (É S) >>=λx=>again<|Ρ "list.extend.loop" (ϱd [É S,É ŷ,ò])) _;show Ϫ1;show ϲY;change ϶j _ (όA (·.push ò) >>=λx=>όA (·.pop)) _;show Ps<|wpAny_updateSeq (s:=(ϹJ _)) H rfl ?_;let s2:=K7p (Ϯi ϧa) S (ϪV Value.none);let E:=K7u (ϪV Value.none) H rfl;show wpAny_updateSeq (s:=(ϹJ _)) E rfl ?_;let s3:=K7p ((Ϯi ϧa).update S (ϪV Value.none)) S ϘS;let m:=K7u ϘS E rfl;show K9J ⟨ϖd,key _ _ (Ϫb<|ĉ (s3.2 b B)<|ĉ (s2.2 b B)<|ĉ (u.2 b B) q) m⟩
def rLz(K:At):À V->Hp->Ú VK:=λv H Q=>∃(a b:Nat)(X s:À V),v=[É a,É b]/\μ a X/\μ b s/\X.À=s.À/\
 ∀(h:Hp)(t:À Ix)(p:Ix),aK H h->(ώ (h c=Ö)<|H c=Ö\/ϤM)->(∀T∈t,Ϩ5)->t.À=X.À->(∀(j:Nat)(T:Ix),t[j]?=some T->∃x y,ę X=Ď/\s[j]?=ϰO/\h T=Â (Ī ϶K))->h p=none->Q (É p) (ϑk<|ô ϒl)
def AD:∀t:À Ix,ţ ϒl ϧH:=by
 induction _ with|nil=>show õ|cons _ t N3=>show ą rfl<|N3
def Pa{p p2 pos P:Pos}(hc:ϗ)(G:γ "list")(M:X.mg "list"=none)(y:ϺQ "list")(hg:γ "zip")(hm:ϧJ)(ha:ϱS ϱ9 ta)(hs:à (æ ϱ9=ϻu ϰI ϲh))(k:à (æ [b]=϶z ϲh))(m:à (æ [ϪG]=϶z (ϬO ϪG))):
  ā (ϳO "list" [ϱc (ϱ8 "zip" p2) ϱ9 P]) (tCB (rLz X.K) ta):=by
 ext i s σ H Q I h;show K8h<|lW I G M y ?_;show K98 ?_ m rfl;rw[m];change ϶j _ (spliced<|Ϲe ϪG (ϲB [])) s;show ϯP ?_;show Call_ (lW I hg hm vP<|ϛh<|by rw[k];rfl);let(vs,H1,f,r1,q1):=zq;let(l,w,xs,ys,e,W,hr,E,q):=q1;subst e;let(u,v,rfl,ru,R):=Vals.two r1;cases ru;cases R;let(C,rv,pl,Y):=f.ê W;let(t,Tl,r,hz2):=f.ê hr;let D:l<S.Á:=(let⟨o,e,_⟩:=pl.Ê;ϱw);let F:w<S.Á:=(let⟨o,e,_⟩:=r.Ê;ϱw);let lt:Η 2 ((λj=>Ó [l,w] j 0) j<S.Á):=λj J=>match j,J with
  |0,_=>D
  |1,_=>F
 show O5 (ls:=λj=>Ó [l,w] j 0) (xs:=λj=>Ó [C.toArray,t.toArray] j #[]) (λj J=>match j,J with
  |0,_=>pl.Ê
  |1,_=>r.Ê) λc Z hk=>?_
 show ϑJ ?_;let N:ϲe 2+2<c.Â:=K9h Z.zp;show callType_codes (Q₁:=λobj d=>obj=É c.Â/\d=Ϭe (c.û (Ċ "list" (δ #[])))) PySem.F.called_list (PySem.F.typeCall_list_1 _) PySem.F.entry_list_init (code_list_new _ ϻm) λobj d h₁=>?_;let(rfl,rfl):=h₁;let U:ϰV (c.û (Ċ "list" (δ #[]))) c.Â=Â ((Ċ "list" (δ #[]))):=Ϣ;let K:∀b o,ϒE=Ö->ϰV (c.û (Ċ "list" (δ #[]))) b=Ö:=λb o q=>ő<|hk b o q;let I2:ù i σ H1 ((Ϭe (c.û (Ċ "list" (δ #[]))))):=f.ò (t':=S.ã) K;let big:∀b∈c.Â::ϙM 2,S.Á<=b:=λb B=>by
  rcases K8v.mp B with z|z
  .rw[z]
   change S.Á<=c.Â;lia
  show(vJ z).1
 let Z2:ZW c.Â (c.û (Ċ "list" (δ #[]))) S.Á (λj=>Ó [l,w] j 0) 0:=
  Ð ⟨rfl,_,rfl,⟨ő Z.zp,ő Z.ti,ő Z.to,λj J=>(Z.it j J).at λo q=>ő q⟩⟩
 show((_,U,rfl),PySem.F.args_list_init_2 _ _,K7 (A:=X.A.in1) (n:=xs.À) (I.ok.hd hc) lt N rfl E.Ï Y W hr (λb B=>f.É B) I2 (λb B=>f.fpOk (big b B)<|f.É<|big b B) Z2 U λs' H' T c' I' O x g L=>?_);show(rfl,É c.Â,_,adopt (o:=ô<|T.Ç V.ref) I' O ⟨by rw[K0,g];show Y,T.Ç Value.ref,c',AD T,x⟩,rfl,q H' T _ L.up L.new L.â g L.tup O.1)
end L2
namespace L3
open PySem L2 PySem.Spec PyProof.Rows
def gLz:À Gc->Ĭ
 |[.list ds,.list es]=>Ë Ϛj (.ok (Ę ύX)) Î
 |_=>Î
def ZF(h:Ϛj):gLz [Ï ds,Ï es]=.ok (Ę ύX):=ϰo
section
variable{M:Mx}{X:Cx}
open Classical in
def YZ(P:Υ):ϻE rLz gLz:=by
 rw[P];ext x dx F H fp Q s rx p;cases rx with
 |nil=>show ú
 |cons r0 t0=>
  cases r0 with
  | @lst a xs D h1 h2=>
   cases t0 with
   |nil=>show ú
   |cons r1 t1=>
    cases r1 with
    | @lst b ys E h3 h4=>
     cases t1 with
     |cons _ _=>show ú
     |nil=>
      erw[gLz]at p;dsimp only at p;let(hle,p):=ϱO
      show(a,b,xs,ys,rfl,Ϲj,(h3.Î s).sq,by rw[ϴQ,Ϭq,hle],λd t q up new free W tup G=>?_);let u:∀T∈t,F T=none:=λT n=>s.â<|free T n;let r:ϸW (λc=>Ë ϤM (d c) (F c)):=λc o C=>by
       change(Ë ϤM (d c)<|F c)=Ö;rw[P3 λm=>by rw[u c m]at C;cases C];show C
      let p':ϸ (Ę ϩp):=p;let i:q∉t:=λm=>by let(j,J):=Zac m;let(_,_,_,_,h):=tup j q J;rw[G]at h;cases h
      let f:H q=none:=by
       cases e:H q with|none=>rfl|some o=>have:=up q o e;rw[G]at this;cases this
      let ra:϶B (λc=>Ë ϤM (d c) (F c)) ϒl ϩp:=by
       let key:∀(L:À Ix)(k:Nat),(∀j T,L[j]?=some T->T∈t/\∃x y,xs[k+j]?=Ď/\ys[k+j]?=ϰO/\d T=Â (Ī ϶K))->L.À+k=D.À->϶B (λc=>Ë ϤM (d c) (F c)) (L.Ç V.ref) (τ ϩp k):=λL=>by
        induction L with
        |nil=>
         ext k _ K;rw[Zdj<|by erw[gq];rw[K0,Zao];simp at K;lia];show õ
        |cons T L ih=>
         ext k n K;rw[K9p]at K;let l:k<Ã ϩp:=ϙB gq
         let(m,x,y,A,Y,ht):=n 0 T rfl;let S:ϫ ϩp=some ϩp[k]:=Nu l;let(d1,d2,e1,N,O):=rA S;let(u1,U,R):=ϸL h2 e1;let(u2,w,B):=ϸL h4 N;rw[Zfl]at A Y;rw[U]at A;rw[w]at Y;cases A;cases Y;rw[K8N l,K9w,O];show ą (Ī (by change(Ë (T∈t) (d T)<|F T)=_;rw[Os m];show ht)<|ą (R.Î r)<|ą (B.same r) õ) (ϛ4 Á);let:=n (j+1) I ϙL;rw[ê (k+(j+1)=k+1+j)]at this;show this
       let:=key t 0 (λj T J=>⟨K9L J,Ô K87 (tup j T J)⟩) (by rw[W,ϴQ];rfl);rw[List.drop_zero]at this;show this
      show p' (É q) (λc=>Ë ϤM (d c) (F c)) _ [q] ⟨r,λc o C=>?_,λc o C=>?_,λc C Z=>?_⟩ ⟨.ol aU<|N1.shs ra,Û,ύE⟩ ύE
      .rw[aC λz=>by rw[z,f]at C;cases C]
       show up c o C
      .let g:(Ë ϤM (d c)<|F c)=Ö:=C
       cases m:c∈t
       .rw[Os m]at g
        rw[aC λz=>i<|by rw[<-z];show m];show g
       rw[P3 m]at g;let v:=s c o g;rw[aC λz=>by rw[z,f]at v;cases v];show up c o v
      .change(Ë ϤM (d c)<|F c)=none
       rw[P3 λm=>C<|free c m];show Z
      .let:c=q:=ϲC
       rw[this];change(Ë (q∈t) (d q)<|F q)=none;rw[P3 i];show s.â f
      let:c=q:=ϲC
      rw[this];show f
    |_=>show ú
  |_=>show ú
def Y9{p p2 pos P:Pos}(C:ϗ)(G:γ "list")(h:X.mg "list"=none)(V:ϺQ "list")(hg:γ "zip")(c:ϧJ)(A:ϸi ϱ9)(d:à (æ ϱ9=ϻu ϰI ϲh))(S:à (æ [b]=϶z ϲh))(s:à (æ [ϪG]=϶z (ϬO ϪG))):
  ï (ϳO "list" [ϱc (ϱ8 "zip" p2) ϱ9 P]) (eB gLz al):=ũ peI (Pa C G h V hg c ϴX d S s) (Uo (YZ m) q)
end
def tB(P:Ú St)(b:Bool):TE:=λa H Q=>P a/\∀h,aK H h->Q ϵO h
end L3
namespace L3
open PySem L2
open PySem.Spec PyProof.Rows PySem.W
def ZI:Gc->όv|.bool b=>ϧ|.int i=>Â<|i !=0|_=>none
def VG:V->όv|.bl b=>ϧ|.int i=>Â<|i !=0|_=>none
def vh:À Gc->Ü ϨG
 |[]=>Â []
 |d::r=>match ZI d,vh r with
  |some b,some bs=>Â<|b::bs
  |_,_=>none
def wK:À V->Ü ϨG
 |[]=>Â []
 |d::r=>match VG d,wK r with
  |some b,some bs=>Â<|b::bs
  |_,_=>none
def vp:À Gc->Ĭ
 |[.list ds]=>(match vh ds with
  |some bs=>oB Ϭc
  |none=>Î)
 |_=>Î
def Xq(K:At):À V->Hp->Ú VK:=Ϸy (∃(a:Ix)(s:À V)(bs:ϨG),X=[É a]/\ϸq a s/\wK s=ϩB/\Q (.bl Ϭc) H)
private def Y4{K:At}{F:Hp}{s:À Gc}{S:À V}(h:Λ S s):∀{bs:ϨG},vh s=ϩB->wK S=ϩB:=by
 induction s generalizing S with
 |nil=>ext bs e;cases h;show e
 |cons d r ih=>
  ext bs e;cases h with
  |@cons v vs' _ _ q t=>
   erw[vh]at e;split at e
   .rename_i b B e1 g
    cases e;erw[wK];let ev:VG v=ϧ:=by
     cases q with
     |bl _=>show e1
     |int _=>show e1
     |non=>cases e1
     |str _=>cases e1
     |lst _ _=>cases e1
     |tup _ _=>cases e1
     |dct _ _ _=>cases e1
    rw[ev,ih t g]
   cases e
private def XH(r:ţ vs us):wK vs=ϩB->∀{i:Nat}{u:Db},á us=ķ->∃b v,bs[i]?=ϧ/\VG v=ϧ/\ϲM:=by
 induction r generalizing bs with
 |nil=>ext e i u U;simp at U
 |@cons v u0 vs us q t ih=>
  ext e i u U;erw[wK]at e;split at e
  .rename_i b s e1 g
   cases e;cases i with
   |zero=>cases U;show(b,v,rfl,e1,q)
   |succ i=>
    let(B,V,h,H,f):=ih g (i:=i) ϮZ;show(B,V,ϱY,H,f)
  cases e
private def Vg:wK vs=ϩB->bs.À=vs.À:=by
 induction vs generalizing bs with
 |nil=>ext e;cases e;rfl
 |cons v vs ih=>
  ext e;erw[wK]at e;split at e
  .rename_i b B e1 g
   cases e;rw[K9p,K9p,ih g]
  cases e
def range_any(bs:ϨG):((ϱQ bs.À).any λi=>Ó (bs[i]?) false)=Ϭc:=by
 rw[K8j,Zdr,Zdr];constructor
 .rintro⟨i,hi,h⟩
  rw[K9G]at hi;rw[ϰD]at h;show(bs[i],Zah hi,h)
 ext⟨b,hb,h⟩;let(i,hi):=Zac hb;show(i,϶u (ϻW).1,?_);rw[hi];show h
section
variable{M:Mx}{X:Cx}
def rK(C:ϗ):ϳL (Ρ "any") (Xq X.K):=by
 ext p s y H x U Q I r h;let(a,o,bs,rfl,m,j,q):=h;let(u,rfl,L):=Ϩy;cases(ϥQ<|u=ϹA);let(T,R,pl,Z):=϶F m.sq;let l:=pl.Ê;let na:a<s.Á:=by let(_,z,_):=l;show K9h z
 let sz:T.Ø=bs.À:=Ε K9W (Vg j) R.length.Ï
 show PySem.call_any_walk (wpAny_pyIter_list l ⟨s.Á,[s.heap.objs.size,a],ϐ9,T.toArray.size,_,_,λi=>Ó (bs[i]?) false,rfl,
  Walks.list (A:=X.A.in1) ϳW _ a (K9O na) T.Æ,⟨⟨_,Ϣ,rfl,rfl⟩,l.û _⟩,λi v S n E P f=>?_,λh' tk K=>?_⟩)
 .let V:T[i]?=ĥ:=ť P
  let(b,w,k,d,g):=XH R j V;simp only[k,Zaz]at f;cases w with
  |bl c=>
   cases d;cases(ύ (v=Value.bool b) g);show K8b f
  |int c=>
   cases d;let(t,rfl):=(ύ (∃t,v=Value.int c t) g)
   show truthy_int f
  |_=>cases d
 let e:((ϱQ T.Ø).any λi=>Ó (bs[i]?) false)=Ϭc:=Ô sz (range_any bs)
 rw[e];show(Ϧt,H,I.ò<|LSm.kept_iter K,rfl,q)
def yL(m:Υ):ϻE Xq vp:=by
 rw[m];show ϪC;cases B:vh d with
 |none=>rw[B]at p;show ú
 |some bs=>rw[B]at p;show(_,_,bs,rfl,ϔ1,Y4 h2 B,Ϻ1 Ϧt)
def Dt(h:vh ds=ϩB):vp [Ï ds]=þ (ã Ϭc):=by erw[vp];simp only[h];rfl
def xR(ns:À Int):vh ō=Â (ns.Ç ώo):=by
 induction ns with|nil=>rfl|cons n r ih=>rw[K9w];erw[vh];rw[ih];rfl
def Me(ns:ϨG):vh (ns.Ç PyData.bool)=Â ns:=by
 induction ns with|nil=>rfl|cons n r ih=>rw[K9w];erw[vh];rw[ih];rfl
def D8:ϰe
 |.tuple xs,.tuple ys=>Ë (ϩC/\ys≠[]/\ϪR) (þ (Ą ϭd)) Î
 |_,_=>Î
def Mu:R2:=ϰk (∃l b X zs,x=É l/\y=É b/\H l=Â (Ī X)/\H b=Â (Ī zs)/\ϵa X/\zs≠[]/\ŀ (ϻV X.À)/\∀p,ϵw->Q (É p) (ļ p<|Ī<|X++zs))
def MC:ϴC Add Mu:=by
 ext p s G H x y v u Q I z Y h;let(l,b,f,zs,rfl,rfl,i,B,N,t,Z,q):=h;cases z;cases Y;let(A,V,r,T):=(ύ (Ϲn H s.Ì l (Ī f))<|I.hok l _ i)
 let(E,ws,R,p2):=(ύ (Ϲn H s.Ì b (Ī zs))<|I.hok b _ B)
 obtain⟨⟨cls,g,data,L⟩,j,C,n,a⟩:=T;obtain⟨⟨c,d,data2,S⟩,o,D,m,hd2⟩:=p2;simp only at C a D hd2;subst C a D hd2;let k:ϵa V:=λe=>N (Zas<|by rw[r.length,e];rfl);let w:ws≠[]:=λe=>t (Zas<|by rw[R.length,e];rfl);let e:V.toArray++ws.Æ=Ϻp (V++ws):=Û
 apply concat_meets ⟨_,j,rfl⟩ ⟨_,o,rfl⟩ noFill_tuple_add seq_tuple_add PySem.F.slot_tuple_add PySem.F.entry_tuple_add (PySem.F.args_tuple_add_2 _ _)
  (Ϛ9<|by rw[K9W,K9W,<-r.length,<-R.length];show Z) ⟨j,o,?_⟩
 rw[e];let F:ϘP:=I.É ì;show(É s.Á,ϵ2<|Ī<|f++zs,ϮV (λb u e=>ő e) ì ?_,rfl,q _ F);show(ϓg K9v,V++ws,r.đ R,(_,Ϣ,rfl,_,rfl))
def Pg:ϩ Mu D8:=by
 ext x y dx dy F H f Q s R Y p;cases R with
 |tup h1 h2=>
  cases Y with
  |tup h3 h4=>
   let(h,p):=ϱO;show(_,_,_,_,rfl,rfl,s _ _ h1,s _ _ h3,λe=>h.1 ?_,λe=>h.2.1 ?_,Ε ϴQ Ϭq (lj h.2.2),λa A=>OkE.tupF s p ϒs (E5.app h2 h4) A)
   .show Zas (by rw[<-ϴQ,e];rfl)
   show Zas (by rw[<-Ϭq,e];rfl)
  |_=>show ú
 |_=>show ú
def Ta(X y:À Gc):D8 (Ą X) (Ą y)=Ë (ϵa X/\y≠[]/\X.À+y.À<=Tk) (þ (Ą<|X++y)) Î:=rfl
end
end L3
namespace L3
open PySem L2 PySem.Spec PyProof.Rows
abbrev Fb:=Ϫr (Env×OD)
def zP(n:Nat)(X:À OD):Env:=X.Ç some++ϳ2 (n-X.À) none
def AY(M:Mx)(n:Nat)(F H:Hp)(f:À Ix)(D:Ends)(r:Env×OD):Prop:=
 ∀v c b h p Y,ϰw b h c r.1 p->ż f b h (p++Y)->ϒC r.2 Y->ϙ0 D.rt
def tBd(M:Mx)(n:Nat)(b:Fb):TS:=λD c H=>∃F a f,ϰw F H c a f/\Ĉ f (Ϭ7 F H f D) (b a)
def DB(M:Mx)(X:Cx)(c:Bool)(ss:À No)(b:Fb):Prop:=Υ->ϥE->∃T,ϴ4 ss T/\∀D:Ends,(ϱt->∀a H,D.rt Α H->Ϥu H)->∀a H,tBd M X.õ b D a H->T D a H
def bNx:Fb:=λa=>Ħ (a,.sh ò)
def LN(s:Fs)(b:Fb):Fb:=λa=>ó (s a) λo=>match o with
 |.nx ρ'=>b ρ'
 |_=>Î
section
variable{st:No}{pos:Pos}
def AY.stp(s:ż fp F1 H1 fp1)(h:Ϭ7 F H fp D r):Ϭ7 F1 H1 fp1 D r:=λv e f g p Y a b c d=>h v e f g p Y a (s.Å b) c d
def PostBs.stp(s:ż fp F1 H1 fp1)(h:Ĉ fp (Ϭ7 F H fp D) r):ϓH (Ϭ7 F1 H1 fp1 D) r:=Ů (h.ē s) λo j=>j.ē s
def U_:DB M X true [] bNx:=λk b=>⟨_,GN,λD e a H h=>by
 let(F,c,f,S,p):=h;show e rfl a H (p Α a F H f [] S ?_ (Res.sh Α) ϰX)
 rw[K9d];show Stp.refl⟩
def Ii(l:Ϧ st s)(n:DB M X f ss b):DB M X f (st::ss) (LN s b):=λm d=>by
 let(T,t,k):=n m d;show(_,D9 (l m d) t,λD q r H h=>?_);let(F,a,j,S,p):=h;show(F,a,j,S,Ń ϨA);cases o with|nx ρ1=>show λc e g P i st=>k D q c g ⟨e,ρ1,P,i,PostBs.stp st po⟩|bk a=>show po.Ä|ct a=>show po.Ä|rt x=>show po.Ä
end
def spP(K:At)(np n:Nat)(b:Fb):Sp:=λs H Q x=>∃F X f,ϰP/\ϻ7 K s X f/\X.À=np/\∃r,b (zP n X)=.ok r/\
 ∀v d c h p Y,Ϲ6 c h d r.1 p->ż f c h (p++Y)->Res K c h v r.2 Y->ϙ0 Q
def FP{K:At}{F H:Hp}(m:Nat):∀{s:À V}{X:À OD}{f:À Ix},ψ s X f->ϰy (s.Ç some++϶Z none) (X.Ç some++϶Z none) f:=by
 ext s
 induction s with
 |nil=>
  ext _ _ r;cases r;rw[K9D,K9D,K9B,K9B]
  induction m with|zero=>show õ|succ m ih=>show Ϧu
 |cons a s ih=>
  ext _ _ r;cases r with|cons h r=>show .yes h<|ih r
def fnP{P:Do}{w:Ev}{K:At}{m:Ŏ}{base:Op}{x qual:Str}{t:No}{f:Ix}{fd:Fk}{N p:À Str}{k np n:Nat}{b:Fb}(o:p.À=np)(j:ϔv)(F:Fun K x qual t f fd)(S:Fq N p (ah t))
  (h:∀(c:Db)(A:Go)(outer:À PySem.Env)(s:Da)(H:Hp)(E:XK),ϦZ (ah t)->DB όu (Ϗi (ah t)) true (bN t) b):
  ϳ5 m base y_ (k+1) f fd p (spP K np n b):=by
 subst o j;let L:ώM p.À:=by
  let:=Ż S.pre;rw[K9f]at this;lia
 let l:ϑ3 (spP K p.À N.À b v H Q E) p.À:=by ext v H Q E ⟨F,X,g,sm,R,a,_⟩;rw[R.own.len,a]
 show F.ok S l λc A outer s H v Q E hr d=>?_;let V:=l _ _ _ _ d;let(e,X,g,sm,R,a,r,B,q):=d;let(T,i,u):=ϏK;show(T,i,u _ (λx y H z=>z) _ H ⟨e,zP N.À X,g,⟨sm,?_,R.nd,R.fr,?_⟩,?_⟩)
 .unfold L2.start zP
  rw[V,a];show FP _ R.own
 .unfold zP
  rw[K9v,K0,K8r,a];change p.À+(N.À-p.À)=N.À;lia
 change az _ _ _ _ (b<|zP N.À X);rw[B];show q
def free:ϲ0 OD|.ol _=>true|_=>false
open Classical in
def E5.set{K:At}{F:Hp}{v:V}{d:Gc}(r:Ŀ F v d):∀{S:À V}{s:À Gc}(j:Nat),Λ S s->Λ (S.ß j v) (s.ß j d)|_,_,_,.nil=>õ|_,_,0,.cons _ q=>ą r q|_,_,j+1,.cons h q=>ą h<|E5.ß r j q
def A7:ϴ4 ss Bi:=ϘK
def IU:Ϲ9 ss Ju:=λx x=>Ti A7 (ϲI Rj)
section
variable{b:Fb}
def Rr(b:Fb):Out->R (Env×OD)|.nx ρ'=>b ρ'|_=>Î
def Ub:LN s b ρ=ϰq (Rr b) ϩQ:=by
 erw[LN];cases s ρ with
 |ok o=>cases o<;>rfl
 |ex c=>rfl
 |bad=>rfl
def L0:Rr b (.nx ρ')=b ρ':=rfl
def Ya:bNx ρ=Ħ (ρ,.sh ò):=rfl
end
open Classical in
def Nt:À Gc->Ĭ
 |[.int i]=>oI ϪQ
 |_=>Î
def Eb:ϰe
 |.int i,.int j=>Ë (j≠0) (oI ύl) Î
 |_,_=>Î
def pU(j:Int):Bool:=Õ (0<j)&&Õ (j.natAbs.log2<9000)
def JY:ϰe
 |.int i,.int j=>Ë (ϵQ pU) (oI Ϥq) Î
 |_,_=>Î
def VU:ϦS (Ϸy<|∃i,X=[Ä i]/\Q (Ä ϪQ) H) Nt:=by
 ext x dx F H f Q s R p;cases R with
 |nil=>show ú
 |cons h r=>
  cases h with
  |int i=>cases r with|nil=>show(_,rfl,ϸr)|cons _ _=>show ú
  |_=>show ú
def QP:ϩ (Ϩ3 (j≠0)<|λi j=>Ä ύl) Eb:=Ϫx
def Vb:ϴC FloorDiv (Ϩ3 (ϵQ pU)<|λi j=>Ä Ϥq):=ϐm (by let t:ϵQ pU:=C;erw[pU]at t;rw[K9U,K9k,K9k]at t;show floordiv_int Á (Ô (Zdx i Á) q)<|Ð<|PyProof.noPylong_of_log2 t.2)
def TV:ϩ (Ϩ3 (ϵQ pU)<|λi j=>Ä Ϥq) JY:=Ϫx
def P_:PIp X .Mult (rI (λi j=>ϻg cQ) λi j=>Ä<|i*j):=by ext p s a H x y v u Q I r m h;let(i,j,e1,g,C,q):=h;subst e1;subst g;let(t,rfl):=r;let(T,rfl):=m;simp only[K9U]at C;show imul_int (ϵl (Ä _) ζ)<|IntMulOk.of_bits (ϷP C.1)<|ϷP C.2
def Y3(i:Int):Nt [Ä i]=.ok (Ñ ϪQ):=rfl
def T2{i j:Int}(h:j≠0):Eb (Ä i) (Ä j)=.ok (Ñ ύl):=by
 change(Ë (j≠0) _ _)=_;rw[ϰo];rfl
def RJ{i j:Int}(h:ϵQ pU):JY (Ä i) (Ä j)=.ok (Ñ Ϥq):=by
 change(Ë (ϵQ pU) _ _)=_;rw[ϰo];rfl
def log2_lt(he:0<e)(h:a<2^e):a.log2<e:=by
 rcases Zcg a with H|p
 .subst H
  show he
 show(Nat.log2_lt<|Zbx p).mpr h
def W4(i:Int):Prop:=i.ñ<ϩ3
def W4.bits{i:Int}(h:W4 i):cQ i=true:=by
 show Z8 ?_;erw[Builtin.Int.intBits];split
 .show ϰS
 let:=log2_lt Ý h;lia
def W4.b9{i:Int}(h:W4 i)(p:0<i):pU i=true:=by
 erw[pU];rw[K9U,K9k,K9k];let:=log2_lt Ý h;show(p,Á)
abbrev Fm2:=ϱv (À Gc) (ϤT (À Gc×À Gc))
def Z0(K:At)(F H:Hp)(a b:Ix)(Q:VK):Ú (R (À Gc×À Gc))|.ok r=>∀u w f h,ϸW f->aK f h->(ώ (H c=Ö)<|c≠a->ϤL->h c=Ö)->(ϏR<|f c)->h a=Â (ô u)->h b=Â (ô w)->E5 K f u r.1->E5 K f w r.2->Q Α h|_=>False
def Gn(K:At)(f:Fm2):Sp:=λv H Q x=>∃F a b C L s ws X y,v=[É a,É b,C]/\a≠b/\ϰP/\Ŀ F C L/\H a=Â (ô s)/\H b=Â (ô ws)/\Ϸf/\ώl/\Λ s X/\Λ ws y/\Z0 K F H a b Q (f X y L)
def AH(i j:Nat)(fa:Fe)(f:Fm2):Fs:=λa=>match ϴp,a[j]? with
 |some (some<|.ol xs),some (some<|.ol ys)=>(match shs xs,shs ys with
  |some dx,some dy=>ó (fa a) λy=>ó (f dx dy y.er) λr=>Ë (i=j) Î (ų ((Ϲm<|some<|Ę r.1).set j<|some<|Ę r.2))
  |_,_=>Î)
 |_,_=>Î
section
variable{M:Mx}{X:Cx}
theorem Stt.flatO(S:ϰw F H σ ρ fp)(x:á ρ=Â (Â ϱq))(D:shs xs=some ds):
  ∃a U,á σ=Â (Â<|É a)/\H a=Â (ô U)/\Ϸf/\ϩ2/\϶B F U ds/\
   ∀d h u s,ϸW d->aK d h->(ώ (H c=Ö)<|c≠a->h c=Ö)->(ϏR<|d c)->h a=Â (ô u)->϶B d u s->∃p,ϰw d h σ (ϰs<|Ň ϫz) p/\ż fp d h p:=by
 let(v,f,l,r,sub,wr):=S.swap x;let ro:=r.own;cases ro with
 |@ol a U _ g ha hv=>
  let(rfl,L):=N1.of_shs hv D;show(a,U,l,ha,ϸw K9z,sub a K9z,L,λd h u s j k K nw A R=>?_);let fa:d a=none:=nw a (bg ha)<|ϸw K9z;let(p,e,T,_):=wr d h (.ol ϫz) [a] k (.ol A<|N1.shs R) Û ϖl
   ⟨j,λc o q m=>ϭB q (λz=>m (Ô z K9z)),λc m=>Ð m,ϑF nw⟩
  show(p,e,T)
theorem Stt.flatP(S:ϰw F H σ ρ fp)(x:á ρ=Â (Â<|ϻU xs))(D:shs xs=some ds):
  ∃s,á σ=Â (Â<|É l)/\H l=Â (ô s)/\F l=none/\l∈fp/\϶B F s ds/\
   ∀a h u d,ϸW a->aK a h->(ώ (H c=Ö)<|c≠l->h c=Ö)->(ϏR<|a c)->h l=Â (ô u)->϶B a u d->∃p,ϰw a h σ (ϰs<|some<|ϻU ϫq) p/\ż fp a h p:=by
 let(v,f,t,r,sub,wr):=S.swap x;let ro:=r.own;cases ro with
 |@pl _ s _ g ha hv=>
  let(rfl,L):=N1.of_shs hv D;show(s,t,ha,r.fr l K9z,sub l K9z,L,λa h u d j k K nw A R=>?_);let fa:a l=none:=nw l (bg ha)<|r.fr l K9z;let(p,e,T,_):=wr a h (ϻU ϫq) [l] k (.pl A<|N1.shs R) Û ϖl
   ⟨j,λc o q m=>ϭB q (λz=>m (Ô z K9z)),λc m=>Ð m,ϑF nw⟩
  show(p,e,T)
def Stt.twoO{F:Hp}{d:Env}{p:À Ix}(S:ϰw F H σ d p){i j:Nat}(h:i≠j){X f:À OD}{dx dy:À Gc}(x:d[i]?=Â (Â Ϧk))(y:d[j]?=Â (Â<|.ol f))(ex:shs X=Â dx)(Y:shs f=Â dy){a b:Ix}(A:á σ=Â (Â<|É a))(B:ę σ=Â (Â<|É b)):a≠b:=by
 ext rfl;let(u,s,e,l,m,C,r,wr):=S.ę x ex;rw[A]at e;cases e;let(b1,ws,g1,g2,g3,g4,g5,_):=S.ę y Y;rw[B]at g1;cases g1;rw[l]at g2;cases g2;let(P,g,T):=wr F (ļ a<|ô<|s++[Α]) (s++[Α]) (dx++[ò]) ϰ3 (λc o q=>by
  let:c≠a:=λz=>by rw[z,m]at q;cases q
  rw[aC this];show S.Î c o q) (λc o q z=>Ô (aC z) q) Ϸ3 aU<|E5.app r<|ą Α õ
 let(v,w,k,K,D,E,t,_):=g.ę (i:=j) (by rw[K9E h];show y) Y;rw[B]at k;cases k;rw[aU]at K;cases K;let L:=t.í;let G:=g5.í;rw[K9v,K9e]at L;lia
theorem SY(N:ϗV)(h:Ϭ ϒv):
  wN (ϕD<|iA ϲn<|Ϙg<|ϸU (ď fa)) D σ H:=by
 let(F,Q,t,S,p):=h;erw[AH]at p;let(xs,ys,s,E,p):=azOo p
 let(dx,dy,X,Y,p):=azO2 p
 let(a,O,u,_):=S.ę s X;let(b,ws,g1,_):=S.ę E Y;show(É a,u,É b,g1,F,Q,t,S,Ń λy py V F1 H1 fy ex r3 w3=>?_);let(G1,m,k1):=r3.Ė ex w3;let L:=S.ā m;change ϔy ([É a,É b,V]++[]) H1 (λx e=>D.nx σ e) M.E;cases hf:f dx dy y.er with
 |bad=>rw[hf]at py;cases py
 |ex c=>show ĭ hf<|N _ _ _ c
 |ok r=>
  rw[hf]at py;let P:Ĉ t (ϳd t D) (Ë (i=j) Î<|ų ((Q.ß i<|some<|Ę r.1).set j<|some<|Ę r.2)):=py;cases I:i=j
  .rw[Os I]at P
   cases P
  rw[P3 I]at P
  let A:=L.twoO I s E X Y u g1;let(a1,O,k,h2,h3,h4,h5,W):=L.ę s X;rw[u]at k;cases k;let(b1,ws,g,g2,g3,g4,g5,_):=L.ę E Y;rw[g1]at g;cases g;show(G1,a,b,V,y.er,O,ws,dx,dy,rfl,A,m.fh,k1,h2,g2,h3,g3,h5,g5,?_);rw[hf];ext U J l e ff K kp nw v B ru R;let fb:l b=none:=nw b (bg g2) g3;let(fp1,S2,Z):=W l (upd e b<|ô ws) U r.1 ff (λc o q=>by
   let:ϤL:=Ϙl fb
   rw[aC this];show ϭB q) (λc o q z=>by
   cases C:c=b
   .subst C
    rw[aU,<-g2];show q
   rw[aC C]
   show kp c o q z C) nw (by rw[aC A];show v) ru
  let(b2,ws2,e1,e2,e3,e4,e5,G):=S2.ę (i:=j) (by rw[K9E I];show E) Y;rw[g1]at e1;cases e1;let(w,S3,T):=G l e J r.2 ϰ3 K (λc o q z=>by rw[aC z]at q;show q) Ϸ3 B R;show P σ l e w S3<|m.ý<|Z.Å T
def Qg{pp pos cpos:Pos}(G:K1 X.ø X.w M.K M.mg X.ı CX k g fd ps ϔy)(n:ϗV)(hr:ϴh X.A)(hg:γ nm)(e:M.mg nm=Â (É g))(K:ϵo M.K (É g))(B:ϹG M.K [])(o:Ϩj M.E)(v1:ā e1 ϲn)(V:ā e2 (iX j))(b:ï e3 fa)(S:à (Ϧ1 (ϱ8 nm pp) ϫ5 cpos))(h:ϱE (ł<|nm==Ϛ1))(he:à (æ ϫ5=Ϲe e1 (æ [e2,e3])))(l:à (ϰY<|Ϻ0<|æ [e2,e3]))(s:à (æ ϫ5=Ϲe e1 (æ [e2,e3])))(w:à (æ [e2,e3]=Ϲe e2 (æ [e3])))(p:à (æ [e3]=Ϲe e3 (æ []))):
  Ϧ (.Expr (ϱc (ϱ8 nm pp) ϫ5 cpos) pos) ϒv:=λm H=>by
 let a:Ϗy g fd ps ϔy:=by rw[m,H];show G
 let q:ā (ϱc (ϱ8 nm pp) ϫ5 cpos) (ϕD<|iA ϲn<|Ϙg<|ϸU (ϧF fa)):=by apply BX (ds:=[]) (dvs:=[]) a hr hg (by rw[H];show e) (ϥj K) (by rw[m];show B) õ o (f7 v1 (f7 V (f7 (b m H) tZ p) w) s) h he l
 show psI (CB q S) (ϭs (SY n z))
end
def Bk(n:Nat)(b:Fb)(X y:À Gc)(d:Gc)(r:À Gc×À Gc):Prop:=
 ∀p q:Ix,p≠q->∃a,b (zP n [ϳp<|X.Ç OD.sh,ϵq<|y.Ç OD.sh,Ř])=Ħ (a,.sh ò)/\a[0]?=ϩf (ϳp<|Ê r.1 OD.sh)/\a[1]?=ϩf (ϵq<|Ê r.2 OD.sh)
open Classical in
def fm2(n:Nat)(b:Fb):Fm2:=λX y d=>ϩo (∃r,Bk n b X y d r) (Ħ h.ĥ) Î
def Vl(x y:À Gc)(d:Gc)(c:Str):fm2 n b x y d≠.ex c:=by
 erw[fm2];split
 .intro z;cases z
 ext z;cases z
def VY(h:Bk n b xs ys d r):fm2 n b xs ys d=.ok r:=by
 let x:∃r,Bk n b xs ys d r:=⟨r,h⟩;erw[fm2];rw[dif_pos x];let(c,e1,T,q):=x.į 0 1 Ý;let(e,g,p2,k):=h 0 1 Ý;rw[e1]at g;let E:c=e:=(Prod.mk.inj<|R.ok.inj g).1;rw[E]at T q;rw[p2]at T;rw[k]at q;let inj:∀{u v:À Gc}{a:Ix},ϩf (ϒK<|u.Ç OD.sh)=ϩf (ϒK<|v.Ç OD.sh)->u=v:=by
  ext u v a z;injection z with z
  injection z with z
  injection z with _ z
  let j:=Uf shs z;rw[o7,o7]at j;show K9R j
 show Uf R.ok<|Prod.ext (inj T).symm (inj q).symm
private def ZL{P:Do}{w:Ev}{K:At}{g:Ŏ}{base:Op}{CX:CXT}{f:Ix}{fd:Fk}{S:À Str}{k n:Nat}{b:Fb}(G:ϳ5 g base CX k f fd S (spP K 3 n b)):ϳ5 g base CX k f fd S (Gn K<|fm2 n b):=
 G.imp λvs H Q E h=>by
  let(F,p,q,v3,D,us,ws,Z,ys,rfl,d,sm,J,C,I,y,B,U,R,ok):=h;erw[fm2]at ok;split at ok
  .rename_i x
   let(ρ',e1,i,j):=x.į p q d;generalize x.ĥ=r at ok i j;show(F,[ϳp<|Z.Ç OD.sh,ϵq ϒn,.sh D],[p]++([q]++([]++[])),sm,(ą (.pl C<|N1.shs U)<|ą (.pl I<|N1.shs R)<|ą (.sh J) õ,?_,?_),rfl,_,e1,?_)
   .simp only[K9B,K9d,Zcu]
    show K8k.ó ⟨by rw[K95];show d,Û⟩
   .intro a m
    simp only[K9B,K9d,Zcu,K8v,K8P,or_false]at m;rcases m with rfl|rfl
    .show y
    .show B
   .intro v σ' l t A fy s T Y _
    let(u,s1,N,O,s4,X,_):=Stt.flatP (M:=όw) s i<|o7 _;let(W,t1,t2,t3,t4,t5,_):=Stt.flatP (M:=όw) s j<|o7 _;let V:v=Α:=by
     cases Y.own with|sh z=>cases z;rfl
    subst V;show ok u W l t T.ff s.Î (λc o e c1 L=>T.ĉ c o e ?_) (λc e z=>?_) N t2 X t5
    .simp only[K9B,K9d,Zcu,K8v,K8P,or_false]
     rintro(z|z)
     .show c1 z
     .show L z
    .by_cases c1:c=p
     .subst c1
      show O
     .by_cases L:c=q
      .subst L
       show t3
      .apply T.nw c e ?_ z
       simp only[K9B,K9d,Zcu,K8v,K8P,or_false];rintro(z|z)
       .show c1 z
       .show L z
  .show ok.Ä
def tM(i:Nat)(k a:Fe):Fs:=λb=>match ϵU with
 |some (some<|.pl l xs)=>(match shs xs with
  |some ds=>ι λy=>ó (k b) λz=>match z.er with
   |.int q=>(match ixN ds.À q with
    |some j=>ų<|ϻi<|some<|ϻU<|Ê (ds.ß j y.er) OD.sh
    |none=>Î)
   |_=>Î
  |none=>Î)
 |_=>Î
section
variable{X:Cx}
def V3(h:Ϭ (tM i k a)):ϭC (ď a) (Sd ϲn (ď k) Hw):=by
 let(F,r,f,S,p):=h;erw[tM]at p;let(l,xs,e,p):=azPl p
 let(b,w,p):=azO p
 show(F,r,f,S,Ń λy py v J N Y e1 R W=>?_);let(G1,g,C):=ϹV W;let(X,B,O,Q,U,V,_):=S.flatP e w;show(_,B,G1,r,f,S.ā g,Ů (϶b py g) λz pz u L x Z E G I=>?_);let(G2,t,K):=G.Ė E I;generalize z.er=dz at pz K;cases dz with
 |int q=>
  cases K;let P:Ĉ f (ϳd f D) (match ixN b.À q with|some j=>ų (r.ß i<|some<|ϻU<|Ê (b.ß j y.er) OD.sh)|none=>Î):=pz;cases hj:ixN b.À q with
  |none=>rw[hj]at P;cases P
  |some j=>
   rw[hj]at P;let d:=g.Å t;let(s,g1,g2,g3,g4,g5,wr):=(S.ā d).flatP e w;show(l,s,q,j,rfl,rfl,g2,Ô (E5.í g5) hj,?_)
   let(m,A,T):=wr G2 (upd x l<|ô<|s.ß j v) (s.ß j v) (b.ß j y.er) ϰ3 (λc o q=>by
    let:c≠l:=Ϙl g3
    rw[aC this];show d.fh c o q) (λc o q z=>Ô (aC z) q) Ϸ3 aU<|E5.ß (C.Î t.ff) j g5
   show P σ G2 _ m A<|d.ý T
 |none=>show pz.Ä
 |bool _=>show pz.Ä
 |str _=>show pz.Ä
 |list _=>show pz.Ä
 |tuple _=>show pz.Ä
 |dict _=>show pz.Ä
variable{p pos:Pos}
def Hc(i:Nat)(hb:ï b fb)(h:ï e fa)(hN:ϵc (ð p))(hs:à (ϭ0<|ŕ (ð p) b p2))(hw:à (Ϯe<|ŕ (ð p) b p2))(ha:autoParam (∀v,ϧX (ŕ (ð p) b p2) v=(do
   let ov <-holding [v] (eval (.Name x p) X.Ü)
   let iv <-holding [v,ov] (eval b X.Ü)
   standAt p2
   holding [v,ov,iv] (setItem ov iv v)
   release [v,ov,iv] [])) mqad.é)(h1:à (Ϫz<|ŕ (ð p) b p2)):Ϧ (ϴZ [ŕ (ð p) b p2] e pos) (tM i fb fa):=ϦE (ϕG ((ϲI V3)))
def MQ{ρ:L3.Env}{d:À Gc}{y z:OD}{q:Int}(h:á ρ=ϩf (ϻU ϫq))(H:ϳ=϶A)(f:k ρ=Ħ z)(c:z.er=Ä q)(g:ixN d.À q=ϱ6):tM i k a ρ=ų (ϰs<|some<|ϻU<|Ê (d.ß j y.er) OD.sh):=by
 erw[tM];rw[h];dsimp only;rw[o7];dsimp only;rw[H,R.bind,f,R.bind,c];dsimp only;rw[g]
end
def okO(l:Nat):ϲ0 OD|.sh (.list ds)=>Õ ϑS&&ϦT|.sh d=>nol d|_=>false
def yy(i:Nat)(fa:Fe):Fe:=λa=>match ϴp with
 |some (some<|.ol xs)=>if ϵ xs.all U0 then(fa<|Ϲm<|Â<|.sh (OD.ol xs).er).bind λy=>(match y with
  |.ol ys=>Ë (ϵ ys.all (okO xs.À)) (Ħ ϻX) Î
  |_=>Î)else Î
 |_=>Î
section
variable{K:At}{F H:Hp}{f:À Ix}{l:Nat}
def Mg(H:ϻz (F b=Â (ô ws)/\ws.À=l))(h:Ŀ F v (Ï ds))(e:ϑS)(g:ϦT=true):Ŀ ϩh v (Ï ds):=by
 let L:ϻz (F b=Â (ô ws)):=ϗE (H b m)
 cases h with
 |@lst a xs _ h r=>
  show ô ?_<|wa L r g;let n:=r.í;rcases h with (h|⟨o,h⟩)|h
  .let m:϶L:=λm=>by let(s,e1,g):=H a m;rw[h]at e1;cases e1;show e (by rw[<-n];show g)
   show Ð (Ð<|Ϲu (i4 m))
  .let m:϶L:=λm=>by let(s,e1,g):=H a m;rw[h]at e1;cases e1
   show Ð<|Ø ⟨o,Ϲu (i4 m)⟩
  show Ø h
def A4(a:ϻz (F b=Â (ô ws)/\ws.À=l)){s:À V}{X:À OD}{g:À Ix}(h:ψ s X g)(e:ϵ X.all (okO l)):ϷJ ϩh H s X g:=by
 induction X generalizing s g with
 |nil=>cases h;show õ
 |cons x X i=>
  cases h with
  |cons h r=>
   rw[K80,K9U]at e;show ą ?_<|i r e.2;let e1:=e.1;let L:ϻz (F b=Â (ô ws)):=ϗE (a b m)
   cases h with
   |@sh v d q=>
    cases d with|list ds=>have E:Μ (Õ ϑS&&ϦT):=e1;rw[K9U,K9k]at E;show .sh<|Mg a q E.1 E.2|none=>show ϧT|bool _=>show ϧT|int _=>show ϧT|str _=>show ϧT|tuple _=>show ϧT|dict _=>show ϧT
   |ol _ _=>cases e1
   |ot _ _=>cases e1
   |od _ _ _=>cases e1
   |pl _ _=>cases e1
end
private def UI(h:ď (yy i fa) σ H Q):ď fa σ H Q:=by
 let(F,J,P,S,p):=h;erw[yy]at p;replace p:=Ϥw;let(X,e,p):=p
 replace p:=ϱO;let(O,p):=p
 let(v,f,g1,g2,u,s,rfl,A):=Ϸ6;let c:π Ϸf:=λa m=>Ϸ8<|Τ<|ϰA m;let o:=A ϸb H ϦH (λ_ _ _ q=>q) v (.sh (ϹT X)) [] (.sh<|s.Ė ϦH (ϵH (Ô (pI m) q)));rw[vj u]at o;let nd:=S.nd;simp only[K9T,K9Y]at nd;obtain⟨D,⟨K,E,G⟩,N⟩:=nd;let sub:∀a∈ϵu [],a∈϶d/\϶L:=λa m=>by
  simp only[K9B,K9Y]at m⊢;rcases m with m|m
  .exact(Ð m,λz=>N a m a (Ð z) rfl)
  show(Ø<|Ø m,λz=>G a z a m rfl)
 let t:ϻz (H b=Â (ô ws)/\ϚM):=by
  cases s with
  |@ol a vs _ f' ha hv=>
   let:=Ha hv O;subst this;ext b m;let:b=a:=ϲC
   rw[this];show(_,ha,hv.í)
 let L:ϰw ϸb H σ (J.ß i<|Â<|.sh (ϹT X)) (ϵu []):=
  ⟨x8 S.Î,o,by
   simp only[K9B,K9T];show(D,E,λa m b d=>N a m b<|Ø d),λa m=>Ô (gO (ϵz).2) (Ϸ8 (ϵz).1),Ô K8z S.í⟩
 let T:ż ϶d ϸb H (ϵu []):=⟨ϦH,λ_ _ h _=>h,ϰW (Ð (ϵz).1),λa h m z=>by
  rw[gO λw=>m<|Τ<|ϰA w]
  show z⟩
 show(_,_,_,L,Ů ((϶9).stp T) λy py v1 g j x e1 R W=>?_)
 split at py
 .rename_i Y
  split at py
  .rename_i k
   let(ro,U,I):=R;let l:ϻz (g b=Â (ô ws)/\ϚM):=λb m=>let⟨ws,q,q2⟩:=t b m;⟨ws,e1.ff _ _ (Ô (pI m) q),q2⟩
   let r:Own M.K (vE g f) j v1 (.ol Y) x:=by
    cases ro with|ol ha hv=>show .ol ha<|A4 l hv k
   show py v1 (vE g f) j x ⟨λb o B=>?_,e1.hh,λb o B=>?_,λb B C=>?_⟩ ⟨r,U,ϹO⟩ W
   .let:b∉f:=λm=>by rw[c b m]at B;cases B
    rw[i4 this];show e1.ff _ _<|ϦH _ _ B
   .by_cases m:b∈f
    .rw[BA m]at B
     cases B
    rw[i4 m]at B;show e1.fh _ _ B
   .by_cases m:b∈f
    .show BA m
    rw[i4 m];show e1.nw b B (όq<|gO m)
   cases d:b∈f
   .show BA d
   rw[i4 d];show I b m
  cases py
 cases py
def UY(i:Nat)(fa:Fe)(a:Env)(h:ϴp=some (Ň ϶a))(H:fa (Ϲm<|Ĕ<|Ï ds)=Ħ ϻX)(f:ϵ ys.all (okO ds.À)):yy i fa a=Ħ ϻX:=by
 erw[yy];rw[h];let e1:(϶a).all U0=true:=by rw[K7x];ext x X;let(d,_,rfl):=ϤS X;rfl
 let g:ϹT ϶a=Ï ds:=by
  rw[md,S1];show Uf PyData.ê ?_;let:ϚH:=funext λd=>bc d;rw[this,Zdu]
 dsimp only;rw[Os e1,g,H];change(Ë (ϵ ys.all (okO (Ã ϶a))) (R.ok (OD.ol ys)) Î)=_;rw[K0,Os f]
def PU(i:Nat)(h:ï e fa):ï e (yy i fa):=ũ peI Ŷ (UI q)
def ve(a b:Fe)(i:Nat):Fs:=λc=>ó (a c) λy=>ó (b c) λz=>match c[i]? with
 |some (some x)=>όl [y,z,x]
 |_=>Î
section
variable{X:Cx}{pos:Pos}
def LB(h:Ϭ ϒ6):J4 (Ob<|iA (ď fa)<|iA (ď fb)<|ϸU ϲn) D σ H:=by
 let(F,l,P,S,p):=h;show(F,l,P,S,Ń λy py w s O Y e1 R k=>?_);show(s,l,_,ϵv,Ů (϶b py e1) λz pz u j c Z g r W=>?_)
 let(x,e,pz):=azS pz
 let(v,f,g1,g2,G,d,rfl,T):=Ϸ6;let sub:π (a∈϶d):=ϰW (Τ<|ϰA m);let N:f.Í:=ϕU
 show(v,G,ϻl (ŀ 3),ϸf);let X:Own M.K j c v x f:=(d.á e1.ff λa x o z=>ϻO z).mono g.ff λa x o z=>g.hh _ _ z;let y1:=R.ā g;let I:q∉f:=λm=>ϸ3 z (X.ö q m) Q
 let J:q∉Y:=λm=>ϸ3 z (y1.Þ q m) Q
 let K:q∉Z:=λm=>ϸ3 z (r.Þ q m) Q
 let t:∀a∈Y,϶L:=λa z m=>ϐO (d.ö a m) (k a z)
 let C:∀a∈Y,a∉Z:=λa z m=>ϐO (R.Þ a z) (W a m)
 let L:∀a∈Z,϶L:=λa m z=>by let(o,u):=d.ö a z;let:=ϻO u;rw[W a m]at this;cases this
 let up:∀a o,c a=Ö->upd c q (Ī [w,u,v]) a=Ö:=λa o z=>Ô (aC<|aL z Q) z
 let E:=ϭn g;let nd:(Ϙ9).Nodup:=by
  rw[K9d,K8k,K9T,K9T];show(λm=>ϵb (K9Y.mp m) J λm=>ϵg K I,R.nd,(r.nd,N,ϴJ (L a A (e▸B))),ϴJ ?_);rcases K9Y.mp B with m|m
  .show C a A (e▸m)
  show t a A (e▸m)
 show pz (É q) j (upd c q<|Ī [w,u,v]) Ϙ9 (ώL E.fh Q).fh ⟨ϓi<|Ϫy y1.ü<|Ϫy r.ü<|Ϫy X.á õ,nd,ϲK⟩ ⟨E.ff,λa o z x=>up a o<|ϴU z,ϲK,λa z x u=>E.nw a z u⟩
 .rw[K9d]at m
  rcases K8v.mp m with rfl|m
  .show E.fh.â Q
  rcases K9Y.mp m with m|m
  .show y1.fr a m
  rcases K9Y.mp m with m|m
  .show ϸw m
  show let⟨_,z⟩:=d.ö a m;E.nw a (bg z) (Ϸ8 ϵz)
 rw[K9d]at m;rcases K8v.mp m with rfl|m
 .show Ø<|E.þ Q
 rcases K9Y.mp m with m|m
 .show Ø<|k a m
 rcases K9Y.mp m with m|m
 .show Ø<|ώB<|W a m
 show Ð ϵz
def JP(i:Nat){x1}(h:ï e fa)(h2:ï e2 fb)(hN:ϵc (ð p))(hs1:à (æ [e,e2,ð p]=ϰG (æ [e2,ð p])))(hs2:à (æ [e2,ð p]=Ϲe e2 (æ [ð p])))(hs3:à (æ [ð p]=Ϲe (ð p) (æ []))):
  Ϧ (Ϭh<|Â<|.Tuple [e,e2,ð p] x1 pt) ϒ6:=λhK hM=>psI (Cp<|Gv<|f7 ύm (f7 (h2 hK hM) (f7 hN tZ hs3) hs2) hs1) (ϲI LB)
def LF(h:á ρ=Â Ď)(H:ϤJ=϶A)(f:Ϫp=Ħ z):ϒ6 ρ=όl [y,z,x]:=by erw[ve];rw[H,cB,f,cB,h]
end
open PySem.W
def isT:ϲ0 (À (Gc×Gc))|(.none,_)::_=>true|_=>false
def Ci(d:À Ο):isT (d.Ç ϵi)=false:=by
 cases d with|nil=>rfl|cons p r=>let(k,v):=p;cases k<;>rfl
def AS:Gc->ϰe
 |.dict Fv,y,z=>if ϵ isT Fv then Î else(match keyOf y with
  |some k=>þ<|Ó (qH Fv k) z
  |none=>Î)
 |_,_,_=>Î
def xa(a b c:Fe):Fe:=λd=>ó (a d) λx=>ϪI (Ë (ϵ isT Fv) Î (ó (b d) λy=>ó (c d) λz=>ϔO (.dict Fv))) Î
section
variable{K:At}{F H:Hp}
def JM:∀{Fv:À ϴT}{s:À Ο}{k:Key},ϭP s.Ç ((gE s k=none/\ϸn=none)\/∃v d,ϸn=ĥ/\gE s k=ϰN/\Ŀ F v d):=by
 ext Fv
 induction Fv with
 |nil=>
  ext s _ h _;cases s with|nil=>show Ð ϻm|cons=>cases h
 |cons p Fv ih=>
  ext s k h r;cases s with
  |nil=>cases h
  |cons q s=>
  rw[K9w,K9w]at h r;let(H,a):=K8B h;let H:p.1=q.1:=H;cases r with
  |cons r1 r2=>
   erw[gE,sT];rw[K8p,K8p];cases Q:q.1=k
   .rw[Z8 Q,Z8<|H.Å Q]
    show Ø ⟨_,_,rfl,rfl,r1⟩
   rw[K9q Q,K9q λz=>Q ϑG];show ih a r2
end
section
variable{X:Cx}{pos:Pos}
def Su(h:ď ϯ6 σ H Q):Ko (ď fa) (ď fb) (ď fc) σ H Q:=by
 let(F,g,f,S,p):=h;show(F,g,f,S,Ń λx px v B J T e1 R w=>?_);let(G1,D,K):=ϹV w;generalize x.er=d at px K;cases K with
 |@dct a Fv ds h1 h2 h3=>
  let X:Ĉ f ϸ (Ë (isT (ds.Ç ϵi)=true) Î<|ó (fb g) λy=>ó (fc g) λz=>ϔO (dD ds)):=px;rw[Ci,ϳD]at X;show(a,rfl,Ð ⟨Fv,Ð<|D.fh _ _ h1⟩,G1,g,f,Ϲ7,Ů (϶b X D) λy py v2 C N U E t W=>?_);let(G2,i,m):=t.Ė E W;show(G2,g,f,(Ϲ7).ext i,Ů (϶b py<|D.Å i) λz pz v3 I O V G u A=>?_)
  let(G3,L,r):=u.Ė G A;let Z:az M H f ϸ (if isT (ds.Ç ϵi)=true then Î else(match ϷG y.er with
   |some k=>þ<|(qH (ds.Ç ϵi) k).getD z.er
   |none=>Î)):=pz
  rw[Ci,ϳD]at Z;let P:az M H f ϸ (match ϷG y.er with
   |some k=>þ<|(qH (ds.Ç ϵi) k).getD z.er
   |none=>Î):=Z
  cases hk:keyOf y.er with
  |none=>rw[hk]at P;cases P
  |some k=>
   rw[hk]at P;let Y:=pG m hk;subst Y;let e:ϸ (.sh<|(qH (ds.Ç ϵi) k).getD z.er):=P;rw[uK]at e;let b:aK G1 G3:=ϵV (L.ff c o<|i.ff c o q);show(ϸn,Cu.k<|L.fh _ _<|b _ _ h1,OkE.val L.fh (OkE.pre (ĉ (D.Å i) L) e) ?_);rcases JM (k:=k) h2 h3 with⟨j,l⟩|⟨v,d,j,l,s⟩
   .rw[j,l]
    show r
   rw[j,l];show s.Î b
 |non=>show px.Ä
 |bl _=>show px.Ä
 |int _=>show px.Ä
 |str _=>show px.Ä
 |lst _ _=>show px.Ä
 |tup _ _=>show px.Ä
def Pc(U:ϷR 1)(A:ï a fa)(B:ï b fb)(C:ï c fc)(h:à (attributeBase a "get" X.Ü ϰI=ϰI))(f:à (Μ<|(Ϻ0<|æ ϴ5).all Ϲz&&ώ6&&Õ (Ã (ϴ5:À On)+Ã ([]:À Keyword)+(Ë ([]:À Keyword).isEmpty 0 1)<30)))(l:à Ϯa)(t:à (Ϻ0 (æ ϴ5)=ϻu ϲh ϒ3)):
  ï (ϱc (ϴL a "get" apos) ϴ5 cpos) ϯ6:=ũ peI (J1 U ϴX ϸu (C m H) ⟨h,f,l,t⟩) (Su q)
theorem To:ϯ6 ρ=unK (λx=>ϪI (Ë (ϵ isT Fv) Î (ϗi Ϫp (fc ρ))) Î) ϤJ:=by
 erw[xa];cases fa ρ with
 |bad=>rfl
 |ex c=>rfl
 |ok x=>
  change(ϪI _ _)=(ϪI _ _)
  cases x.er with
  |dict Fv=>
   dsimp only
   split
   .rfl
   cases fb ρ<;>cases fc ρ<;>rfl
  |_=>rfl
def TL(Fv:À Ο)(i:Int)(z:Gc):AS ϱe (Ä i) z=þ (Ó (ϸB<|Ð i) z):=by
 change(Ë (isT (϶P ϵi)=true) R.bad<|R.ok (Đ<|(qH (϶P ϵi)<|Ð i).getD z))=_;rw[Ci,ϳD,uK]
def SA{i:Int}(h:ϤJ=ϴ2)(e1:x.er=ϱe)(H:Ϫp=϶A)(g:y.er=Ä i)(f:fc ρ=Ħ z):ϯ6 ρ=þ (Ó (ϸB<|Ð i) z.er):=by
 rw[To,h,H,f];change(ϪI (Ë (ϵ isT Fv) R.bad (ϗi ϶A (Ħ z))) Î)=_;rw[e1];change(Ë (isT (϶P ϵi)=true) R.bad<|ϔO ϱe)=_;rw[Ci,ϳD,g,TL]
def Bj:ϩ (ϰk<|y=Α/\Q (.bl<|Õ<|x=Α) H) FW:=by
 ext x y dx dy F H f Q s R Y p;cases Y with
 |non=>show(rfl,?_);cases R<;>show Ϻ1 Ϧt
 |_=>show ú
end
end L3
namespace L3
open PySem L2 PySem.Spec PyProof.Rows
def GF:ϰe|.bool x,.bool y=>þ<|ã<|! Õ (x=y)|_,_=>Î
section
variable{X:Cx}{M:Mx}
def Pw:ϵ7 IsNot (ϰk<|∃i j,x=.bl i/\y=.bl j/\Q (.bl<|! Õ (i=j)) H):=by ext p s a H x y v u Q I R Y h;let(i,j,rfl,rfl,q):=h;cases R;cases Y;show K9J (η<|by cases i<;>cases j<;>rfl)
def Qr(_:Υ):ϩ (ϰk<|∃i j,x=.bl i/\y=.bl j/\Q (.bl<|! Õ (i=j)) H) GF:=by
 ext x y dx dy F H f Q s R Y p;cases R with
 |bl _=>cases Y with|bl _=>show(_,_,rfl,rfl,Ϻ1 Ϧt)|_=>show ú
 |_=>show ú
def NC(x y:Bool):GF (ã x) (ã y)=þ (ã<|! Õ (x=y)):=rfl
end
end L3
namespace B
def IsE(n:Nat)(d:Nat->å)(e:å):Prop:=e 0=0/\∀k,0<k->k<n->(∀j,j<k->e j+d j k<=e k)/\∃j,j<k/\e k=e j+d j k
def IsL(n:Nat)(d:Nat->å)(T:Int)(l:å):Prop:=l (n-1)=T/\∀k,ϕM (l k) (l j)
def C_{n:Nat}{d:Nat->å}{e f:å}(he:ϥF)(h:IsE n d f):∀k,k<n->e k=f k:=by
 ext k
 induction k using Nat.strongRecOn with
 |ind k ih=>
  ext H;cases b:k=0
  .subst b
   rw[he.1,h.1]
  let(A,j,b1,c1):=ϩ4 Á H;let(a,J,B,L):=h.2 k Á H;let:=ih j b1 Á;let:=ih J B Á;let:=A J B;let:=a j b1;lia
def Vj{n:Nat}{d:Nat->å}{T:Int}{e l:å}(he:ϥF)(a:ϥG l)(t:T=ϸp):∀m k,k+m+1=n->e k<=l k:=by
 ext m
 induction m using Nat.strongRecOn with
 |ind m ih=>
  ext k H;cases h:m=0
  .subst h
   let:k=n-1:=Á
   rw[this,a.1,t];lia
  let(A,j,b1,B,c1):=a.2 k Á;let:=ih Ϸi Á j Á;let:=(he.2 j Á B).1 k b1;lia
def za{n:Nat}{d:Nat->å}{T:Int}{e l:å}(N:0<n)(he:ϥF)(a:ϥG l)(t:T=ϸp):l 0=0:=by
 let le:=Vj he a t;let key:∀k,k<n->l k=e k->l 0=e 0:=by
  ext k
  induction k using Nat.strongRecOn with
  |ind k ih=>
   ext H h;cases b:k=0
   .subst b
    show h
   let(A,j,b1,c1):=ϩ4 Á H;let c:=(a.2 j Á).1 k b1 H;let f:=le Ϸi j Á;show ih j b1 Á Á
 let:=key (n-1) Á (by rw[a.1,t]);rw[this,he.1]
def U8{n:Nat}{d:Nat->å}{T:Int}{l:å}(a:ϥG l):IsE n (λi j=>d Ϸi<|n-1-i) (λk=>T-l ϳw):=by
 show(?_,λk h K=>?_)
 .change T-l (n-1-0)=0
  rw[Zfm,a.1];lia
 let(A,J,b1,B,c1):=a.2 ϳw Á;show(λj H=>?_,n-1-J,Á,?_)
 .let:=A Ϸi Á Á
  change T-l Ϸi+d ϳw Ϸi<=T-l ϳw;lia
 change T-l ϳw=T-l ϧ3+d ϳw ϧ3;rw[ê (ϧ3=J)];lia
def ZY{n:Nat}{d:Nat->å}{e:å}(N:0<n)(he:ϥF):IsL n (λi j=>d Ϸi<|n-1-i) ϸp (λk=>ϸp-e ϳw):=by
 show(?_,λk K=>?_)
 .change ϸp-e (n-1-(n-1))=ϸp
  rw[ê (n-1-(n-1)=0),he.1];lia
 let(A,J,b1,c1):=he.2 ϳw Á Á;show(λj h H=>?_,n-1-J,Á,Á,?_)
 .let:=A Ϸi Á
  change ϸp-e ϳw<=ϸp-e Ϸi-d Ϸi ϳw;lia
 change ϸp-e ϳw=ϸp-e ϧ3-d ϧ3 ϳw;rw[ê (ϧ3=J)];lia
def Lf{n:Nat}{d:Nat->å}{T:Int}{l f:å}(a:ϥG l)(h:ϥG f)(k:Nat)(H:k<n):l k=f k:=by
 let:=C_ (U8 a) (U8 h) ϳw Á;let this:T-l (n-1-ϳw)=T-f (n-1-ϳw):=this;rw[ê (n-1-ϳw=k)]at this;lia
def Px{n:Nat}{d d':Nat->å}{e:å}(h:ϯ4 (d i j=d' i j))(he:ϥF):IsE n d' e:=
 ⟨he.1,λk a H=>⟨λj J=>Ϙ (h j k J H) ((ϩ4 a H).1 j J),by let(j,b,c):=(ϩ4 a H).2;show(j,b,by rw[<-h j k b H];show c)⟩⟩
def Ov{n:Nat}{d d':Nat->å}{T:Int}{e:å}(h:ϯ4 (d i j=d' i j))(he:ϥG e):IsL n d' T e:=
 ⟨he.1,λk K=>⟨λj H a=>Ϙ (h k j H a) ((ϩ4 K).1 j H a),by let(j,H,a,f):=(ϩ4 K).2;show(j,H,a,by rw[<-h k j H a];show f)⟩⟩
inductive F where
 |nil
 |cons (k:Nat) (c r:F)
namespace F
def pre:F->Ò|nil=>[]|cons k c r=>Ϛk
def pre'':pre nil=[]:=rfl
def pre'{k c r}:pre (ϰh r)=Ϛk:=rfl
def roots:F->Ò|nil=>[]|cons k _ r=>ϓN
def roots'{k w0 r}:roots (ϩi w0 r)=ϓN:=rfl
def fM:F->Ò|nil=>[]|cons k c r=>ϑA
def fM'':fM nil=[]:=rfl
def fM'{k c r}:fM (ϰh r)=ϑA:=rfl
def app:F->F->F|nil,g=>g|cons k c r,g=>ϰh<|app r g
def mir:F->F|nil=>nil|cons k c r=>ϏC
def mir'':mir nil=nil:=rfl
def mir'{k c r}:mir (ϰh r)=ϏC:=rfl
def map(h:ņ):F->F|nil=>nil|cons k c r=>cons (h k) (ϴd c)<|ϴd r
def Con(ch:Nat->Ò):F->Prop|nil=>True|cons k c r=>ch k=roots c/\ϴ3 c/\ϴ3 r
def Con''{ch}:ϴ3 nil=True:=rfl
def Con'{ch k c r}:ϴ3 (ϰh r)=(ch k=roots c/\ϴ3 c/\ϴ3 r):=rfl
def Eld(e:å):Int->F->Prop|_,nil=>True|p,cons k c r=>e k=p/\Ϫs ë c/\ϱa r
def Eld''{e w0}:Ϫs w0 nil=True:=rfl
def Eld'{e p k c r}:ϱa (ϰh r)=(e k=p/\Ϫs ë c/\ϱa r):=rfl
def pre_app:ϤI (pre (϶r g)=϶H++pre g):=by
 induction _ with|nil=>ext g;show rfl|cons k c r Sc Re=>ext g;rw[app,pre',pre',Re g,K92,K9M]
def Ee:ϤI (fM (϶r g)=fM g++fM f):=by
 induction _ with|nil=>ext g;rw[app,fM'',K9d]|cons k c r Sc Re=>ext g;rw[app,fM',fM',Re g,K9M]
def vW:ϤI (roots (϶r g)=ϭe++roots g):=by
 induction _ with|nil=>ext g;show rfl|cons k c r Sc Re=>ext g;rw[app,roots',roots',Re g,K92]
def OF:ϲw (϶r nil=f):=by
 induction _ with|nil=>show rfl|cons k c r Sc Re=>rw[app,Re]
def Ip:∀f g h:F,app (϶r g) h=϶r (app g h):=by
 induction _ with|nil=>ext g h;show rfl|cons k c r Sc Re=>ext g h;rw[app,app,app,Re g h]
def PL:ϤI (mir (϶r g)=app (mir g) Ϲ1):=by
 induction _ with|nil=>ext g;rw[app,mir'',OF]|cons k c r Sc Re=>ext g;rw[app,mir',mir',Re g,Ip]
def HP:ϲw (mir Ϲ1=f):=by
 induction _ with|nil=>show rfl|cons k c r Sc Re=>rw[mir',PL,mir',mir'',Sc,Re];rfl
def uJ:ϲw (pre Ϲ1=fM f):=by
 induction _ with|nil=>show rfl|cons k c r Sc Re=>rw[mir',pre_app,Re,fM',pre',Sc,pre'',K9d]
def J9(f:F):fM Ϲ1=϶H:=by rw[<-uJ Ϲ1,HP]
def xF{ch:Nat->Ò}:ϤI (ϴ3 (϶r g)↔ϴ3 f/\ϴ3 g):=by
 induction _ with|nil=>ext g;rw[app,Con''];simp|cons k c r Sc Re=>ext g;rw[app,Con',Con',Re g];simp only[and_assoc]
def BZ{e:å}{p:Int}:ϤI (ϱa (϶r g)↔ϱa f/\ϱa g):=by
 induction _ with|nil=>ext g;rw[app,Eld''];simp|cons k c r Sc Re=>ext g;rw[app,Eld',Eld',Re g];simp only[and_assoc]
def Qz{e:å}:ϻy (ϱa f) (ϱa Ϲ1):=by
 ext x y
 revert x
 induction y with|nil=>ext _ _;show trivial|cons k c r Sc Re=>ext p h;let(H,a,b):=h;rw[mir',BZ];show(Re p b,H,Sc _ a,trivial)
def vq(h:ņ):ϲw (pre (ϴd f)=Ê ϶H h):=by
 induction _ with|nil=>show rfl|cons k c r Sc Re=>rw[map,pre',Sc,Re,pre',K9w,K9i]
def M6(h:ņ):ϲw (fM (ϴd f)=Ê (fM f) h):=by
 induction _ with|nil=>show rfl|cons k c r Sc Re=>rw[map,fM',Sc,Re,fM',K9i,K9w]
theorem snoc:ϲw (f≠nil->∃g k c,f=app g (ϰh nil))
 |nil,h=>Ϡ h
 |cons k c nil,_=>⟨nil,k,c,rfl⟩
 |cons k c (cons k' c' r'),_=>by
  let(g,a,b,e):=snoc ϷQ ϳT;show(ϰh g,a,b,by rw[app,e])
def vc{e:å}{q:Int}:ϻy (ϱa f) (q≠p->(∀j∈϶H,Ĵ≠q)->ž ϶H (λj=>Õ<|e j=q)=[]):=by
 ext x y
 revert x
 induction y with
 |nil=>ext _ _ _ _;show rfl
 |cons k c r Sc Re=>
  ext p h P H;let(a,b,d):=h;rw[pre',K8O,P3 (by rw[K9k,a];exactλz=>P z.Ï),K8o,Sc _ b (λz=>H k (Ô pre' K9z) z.Ï) (λj J=>H j<|ϧV pre'),Re p d P λj J=>H j<|ϧV pre'];rfl
def J6{e:å}:ϻy (ϱa f) ((∀j∈϶H,Ĵ≠p)->ž ϶H (λj=>Õ<|e j=p)=ϭe):=by
 ext x y
 revert x
 induction y with
 |nil=>ext _ _ _;show rfl
 |cons k c r Sc Re=>
  ext p h q;let(H,a,b):=h;rw[pre',K8O,Os (by rw[K9k,H]),K8o,vc _ c a (λz=>q k (Ô pre' K9z) z.Ï) (λj J=>q j<|ϧV pre'),Re p b (λj J=>q j<|ϧV pre'),roots];rfl
def AX{ch C:Nat->Ò}:ϲw ((∀q∈϶H,ch q=C q)->Con C f->ϴ3 f):=by
 induction _ with|nil=>ext _ _;show trivial|cons k c r Sc Re=>ext h d;let(H,a,b):=d;show(ĉ (h k<|Ô pre' K9z) H,Sc (λq m=>h q<|ϷW pre') a,Re (λq m=>h q<|ϷW pre') b)
def Qh{e:å}:ϻy (ϱa f) ((϶H).Nodup->(∀j∈϶H,Ĵ≠p)->Con (λq=>ž ϶H λj=>Õ<|e j=Ì q) f):=by
 ext x y
 revert x
 induction y with
 |nil=>ext _ _ _ _;show trivial
 |cons k c r Sc Re=>
  ext p h nd P;let(d,a,b):=h;rw[pre',K8k,K9T]at nd;let(n,N,g,i):=nd;let H:ë≠p:=P k (Ô pre' K9z)
  let K:∀j∈pre c,Ĵ≠ë:=λj m z=>n (by
   let:j=k:=Á
   rw[<-this];simp[m])
  let R:∀j∈pre r,Ĵ≠ë:=λj m z=>n (by
   let:j=k:=Á
   rw[<-this];simp[m])
  let C:∀j∈pre c,Ĵ≠p:=λj m=>P j (ϷW pre');let pr:∀j∈pre r,Ĵ≠p:=λj m=>P j (ϷW pre');let split:∀q:Nat,Ì q≠p->ž (pre<|ϰh r) (λj=>Õ<|e j=Ì q)=ž (pre c) (λj=>Õ<|e j=Ì q)++ž (pre r) (λj=>Õ<|e j=Ì q):=λq Q=>by rw[pre',K8O,P3 (by rw[K9k,d];exactλz=>Q z.Ï),K8o]
  show(?_,AX c (λq m=>?_)<|Sc _ a N K,AX r (λq m=>?_)<|Re p b g pr)
  .change ž (pre<|ϰh r) (λj=>Õ<|e j=ë)=roots c
   rw[split k H,J6 _ c a K,vc p r b H R,K9d]
  .change ž (pre<|ϰh r) (λj=>Õ<|e j=Ì q)=ž (pre c) (λj=>Õ<|e j=Ì q)
   rw[split q<|C q m,vc p r b (C q m) (λj M z=>i q m j M Á),K9d]
  change ž (pre<|ϰh r) (λj=>Õ<|e j=Ì q)=ž (pre r) (λj=>Õ<|e j=Ì q);rw[split q<|pr q m,vc _ c a (λz=>R q m z) (λj M z=>i j M q m Á),K9B]
end F
namespace F
def oh:ϲw ((fM f).Perm ϶H):=by
 induction _ with|nil=>show List.Perm.refl _|cons k c r Sc Re=>rw[fM',pre'];let h:=Sc;let H:=Re;let:(ϑA).Perm (k::(fM r++fM c)):=List.perm_middle;show this.Å<|List.Perm.cons k ?_;show ĉ (H.đ h) List.perm_append_comm
structure Pf(n:Nat)(e:å)(c:F):Prop where
 pre:0::pre c=ϲk
 root:e 0=-1
 eld:Ϫs 0 c
variable{n:Nat}{e:å}{c:F}
def full(c:F):F:=cons 0 c nil
def Pf.pos(h:ϲj):0<n:=by
 let:=Ż h.pre;rw[K9p,Z7]at this;lia
def Pf.preF(h:ϲj):ϝ ϻ3=ϲk:=by erw[full];rw[F.pre',F.pre'',K9d];show h.pre
def Pf.eldF(h:ϲj):Ϫs (-1) ϻ3:=⟨h.root,h.eld,trivial⟩
def Pf.con(h:ϲj):Con (λq=>ž ϲk λj=>Õ<|e j=Ì q) ϻ3:=ϱD (Qh (-1) ϻ3 h.eldF (Ô h.ğ K8C) (λj x=>Á)) h.ğ
def R(c:F):Ò:=fM ϻ3
def VX(c:F):R c=0::fM c:=by erw[R,full];rw[fM',fM'',K9B]
def Pf.perm(h:ϲj):(R c).Perm ϲk:=ϱD (oh ϻ3) h.ğ
def Pf.nodup(h:ϲj):(R c).Nodup:=h.perm.nodup_iff.ó K8C
def Pf.mem(h:ϲj){k:Nat}:k∈R c↔k<n:=Ĥ h.perm.mem_iff K9G
def Pf.len(h:ϲj):Ã (R c)=n:=Ĥ h.perm.length_eq Z7
def g(c:F)(k:Nat):Nat:=(R c).idxOf k
def Pf.g_lt(h:ϲj){k:Nat}(H:k<n):Ϧr<n:=by erw[g];rw[<-h.len];show Zdv<|h.mem.ó H
def Pf.at_g(h:ϲj){k:Nat}(H:k<n):(R c)[Ϧr]?=Ş:=χ g (Nu<|Zdv<|h.mem.ó H) Zcf
def Pf.g_at(h:ϲj){i k:Nat}(K:á (R c)=Ş):Ϧr=i:=by erw[g];let(H,a):=ZB.mp K;rw[<-a];show h.nodup.ĕ i H
def BH(c:F):g c 0=0:=χ g VX List.idxOf_cons_self
def e1(e:å)(c:F)(i:Nat):Int:=match á (R c) with
 |some k=>Ë (e k<0) (-1) (g c (ĩ (e k)):Int)
 |none=>-1
def gi(c:F)(p:Int):Int:=Ë (p<0) (-1) (g c p.Ò:Int)
def Pf.e1_g(h:ϲj){k:Nat}(H:k<n):ϩe Ϧr=gi c (e k):=by erw[e1,gi];rw[h.at_g H]
def Oa{e e':å}{h:ņ}{hi:ϴy Int}(g:∀k:Nat,hi ë=Ì (h k)):ϻy (∀k∈ν,e' (h k)=hi (e k)) (ϱa f->Eld e' Ϥp (ϴd f)):=by
 ext x y
 revert x
 induction y with
 |nil=>ext _ _ _;show trivial
 |cons k c r Sc Re=>
  ext p H he;let(a,b,d):=he;show(?_,?_,Re p (λj m=>H j<|ϷW F.pre') d)
  .rw[H k (Ô F.pre' K9z),a]
  let:=Sc ë (λj m=>H j<|ϷW F.pre') b;rw[g]at this;show this
def c1(c:F):F:=ϑr<|mir c
def xX(c:F):full Ϧy=ϑr (mir ϻ3):=by erw[full,c1];rw[mir',mir'',app,map,map,BH]
def Pf.range_g(h:ϲj):Ê (R c) (g c)=ϲk:=by
 apply K9K;ext i;rw[N2];cases hi:i<n
 .obtain⟨k,H⟩:∃k,á (R c)=Ş:=⟨(R c)[i]'(ϷX h.í),Û⟩
  rw[H,Zbe,h.g_at H,ϴj]
 rw[K9c (Ă h.í),K9c<|Ă Z7];rfl
def Pf.mirrored(h:ϲj):Pf n ϩe Ϧy:=by
 let p:ϝ (full Ϧy)=ϲk:=ϩN xX vq uJ h.range_g
 show(?_,?_,?_)
 .unfold full at p
  rw[F.pre',F.pre'',K9d]at p;show p
 .let:=h.e1_g h.ú
  rw[BH,h.root]at this;show this
 let he:Eld ϩe (gi c 0) (ϑr<|mir c):=Oa (e:=e) (h:=g c) (λk=>Ϗ gi (P3 Á)) 0 (mir c) (ϲ1<|by show h.e1_g ?_;rw[uJ,(oh c).mem_iff]at H;let:k∈(0::Φ):=ě H;rw[h.pre,K9G]at this;show this)<|Qz 0 c h.eld;let z:gi c 0=0:=by
  erw[gi];rw[P3 Á];change ä (g c 0)=0;rw[BH];rfl
 rw[z]at he;show he
def Pf.R1(h:ϲj):R Ϧy=Ê ϲk (g c):=by erw[R];rw[xX,M6,J9,h.preF]
def Pf.R1_at(h:ϲj){k:Nat}(H:k<n):(R Ϧy)[k]?=Â Ϧr:=by rw[h.R1,N2,K9Z H];rfl
theorem xO{e:å}:ϻy (ϱa f) (∀k∈ν,e k=p\/∃j:Nat,j∈ν/\e k=Ĵ)
 |_,nil,_,_,m=>ϥw
 |p,cons a c r,h,k,m=>by
  let(H,d,g):=h;rw[F.pre']at m;rcases K8v.mp m with rfl|m
  .show Ð H
  .rcases K9Y.mp m with m|m
   .rcases xO _ c d k m with z|⟨j,J,b⟩
    .show Ø ⟨a,Ô F.pre' K9z,z⟩
    .show Ø ⟨j,ϧV F.pre',b⟩
   .rcases xO p r g k m with z|⟨j,J,b⟩
    .show Ð z
    .show Ø ⟨j,ϧV F.pre',b⟩
def Pf.elder(h:ϲj){k:Nat}(H:k<n):e k=-1\/∃j:Nat,j<n/\e k=Ĵ:=by
 let:=xO (-1) ϻ3 h.eldF k (by rw[h.preF,K9G];show H);rcases this with z|⟨j,J,a⟩
 .show Ð z
 rw[h.preF,K9G]at J;show Ø ⟨j,J,a⟩
def Pf.twice(h:ϲj){k:Nat}(H:k<n):e1 ϩe Ϧy k=e k:=by
 let a:=h.mirrored;erw[e1];rw[h.R1_at H];change(Ë (ϩe Ϧr<0) (-1:Int)<|(ä (g Ϧy (ϩe Ϧr).toNat)))=e k;rw[h.e1_g H];rcases h.elder H with z|⟨j,b,J⟩
 .rw[z]
  rfl
 let:gi c (e k)=Ì (g c j):=by
  erw[gi];rw[J,P3 Á];rfl
 rw[this,P3 Á,K9n,a.g_at<|h.R1_at b,J]
end F
namespace F
def path:F->Ò|nil=>[]|cons k c nil=>k::path c|cons _ _ (cons k c r)=>path<|ϰh r
def path''':path nil=[]:=rfl
def path'{k c}:path (ϰh nil)=(k::path c):=rfl
def path''{w0 w1 k c r}:path (cons w0 w1 (ϰh r))=(path<|ϰh r):=rfl
def pT:F->Nat->Nat->F|f,0,x=>϶r<|cons x nil nil|nil,_+1,_=>nil|cons k c nil,d+1,x=>ϩi (pT c d x) nil|cons k c (cons k' c' r'),d+1,x=>ϰh<|Ϭk ϷQ
def pT''{k c d x}:Ϭk (ϰh nil)=(ϩi (pT c d x) nil):=rfl
def pT'{k c k' c' r' d x}:Ϭk (ϰh ϷQ)=(ϰh<|Ϭk ϷQ):=rfl
def A_:∀(f:F)(x:Nat),path (϶r<|cons x nil nil)=[x]|nil,x=>rfl|cons k c nil,x=>rfl|cons k c (cons k' c' r'),x=>by let:=A_ ϷQ x;rw[app]at this⊢;rw[app];rw[path''];show this
def wg{e e':å}:ϻy (∀k∈ν,e' k=e k) (ϱa f->Eld e' p f):=by
 ext x y
 revert x
 induction y with|nil=>ext _ _ _;show trivial|cons k c r Sc Re=>ext p h C;let(H,a,b):=C;show(ĉ (h k<|Ô F.pre' K9z) H,Sc _ (λq m=>h q<|ϷW F.pre') a,Re p (λq m=>h q<|ϷW F.pre') b)
def Ll{k d x:Nat}{c r:F}:∃K G R,Ϭk (ϰh r)=cons K G R:=by
 cases r with
 |nil=>show(_,_,_,ϰT pT'')
 |cons a b t=>show(_,_,_,ϰT pT')
theorem yG{e:å}{x:Nat}:∀(f:F)(d:Nat)(p:Int),d<=Ã (path f)->ϱa f->e x=(if d=0 then p else((path f)[d-1]?.getD 0:Int))->
  ϝ ϓx=ν++[x]/\path ϓx=Ł (path f) d++[x]/\ϱa ϓx
 |f,0,p,_,h,hx=>by rw[pT,pre_app,A_,BZ];show(rfl,rfl,h,ť hx,trivial,trivial)
 |nil,d+1,p,hd,_,_=>by rw[path''']at hd;simp at hd
 |cons k c nil,d+1,p,hd,h,hx=>by
  let(H,g,j):=h;rw[path',K9p]at hd;let i:=yG (e:=e) (x:=x) c d ë Á g (by
   rw[hx,P3 Á,path'];cases D:d=0
   .subst D
    rfl
   .obtain⟨m,rfl⟩:∃m,d=m+1:=⟨d-1,Á⟩
    rw[P3 Á]
    rfl)
  rw[pT'',F.pre',F.pre',i.1,F.pre''];show(Ϯ F.pre,?_,H,i.2.2,trivial);rw[path',path',i.2.1,K7q,K92]
 |cons k c (cons k' c' r'),d+1,p,hd,h,hx=>by
  let(H,g,j):=h;let P:path (ϰh ϷQ)=path ϷQ:=ϰT path''
  rw[P]at hd hx;let i:=yG (e:=e) (x:=x) ϷQ (d+1) p hd j hx;let(a,b,t,q):=Ll (k:=k') (d:=d) (x:=x) (c:=c') (r:=r');rw[pT',F.pre',i.1,P];show(?_,?_,H,g,i.2.2)
  .change k::(Φ++(ϝ ϷQ++[x]))=(k::(Φ++ϝ ϷQ))++[x]
   rw[K92,K9M]
  rw[q]at i⊢;rw[path''];show i.2.1
def jX:F->F|nil=>nil|cons _ nil nil=>nil|cons k (cons a b t) nil=>ϩi (jX ϶c) nil|cons k c (cons a b t)=>ϰh<|jX ϶c
def jX'{k a b t}:jX (ϩi ϶c nil)=(ϩi (jX ϶c) nil):=rfl
theorem uh{e:å}:∀(f:F)(p:Int),f≠nil->ϱa f->ϝ (jX f)=(ν).dropLast/\ϱa (jX f)
 |nil,_,h,_=>Ϡ h
 |cons k nil nil,p,_,_=>⟨rfl,trivial⟩
 |cons k (cons a b t) nil,p,_,h=>by
  let(H,d,g):=h;let(i,I):=uh (e:=e) ϶c ë ϳT d;rw[jX'];show(?_,H,I,trivial);change k::(ϝ (jX ϶c)++[])=(k::(ϝ ϶c++[])).dropLast;rw[i,K9d,K9d,Zcr<|ϳj F.pre]
 |cons k c (cons a b t),p,_,h=>by
  let(H,d,g):=h;let(i,I):=uh (e:=e) ϶c p ϳT g;let e1:jX (ϰh ϶c)=ϰh (jX ϶c):=by cases c<;>rw[jX]
  rw[e1];show(?_,H,d,I);rw[F.pre',i];change _=(k::(Φ++ϝ ϶c)).dropLast;let n:Φ++ϝ ϶c≠[]:=ϳj F.pre'
  rw[Zcr n,List.dropLast_append_of_ne_nil<|ϳj F.pre]
def EE{e e':å}{h:ņ}{hi:ϴy Int}:ϻy (∀k∈ν,e' (h k)=hi (e k)/\hi ë=Ì (h k)) (ϱa f->Eld e' Ϥp (ϴd f)):=by
 ext x y
 revert x
 induction y with
 |nil=>ext _ _ _;show trivial
 |cons k c r Sc Re=>
  ext p H he;let(a,b,d):=he;let K:=H k (Ô F.pre' K9z);show(?_,?_,Re p (λj m=>H j<|ϷW F.pre') d)
  .rw[K.1,a]
  let:=Sc ë (λj m=>H j<|ϷW F.pre') b;rw[K.2]at this;show this
theorem Bs{e:å}:∀(f:F)(p:Int),ϱa f->(∀k∈ν,p<=ë)->∀k∈ν,p<=e k
 |nil,_,_,_,_,m=>ϥw
 |cons a c r,p,h,hp,k,m=>by
  let(H,b,d):=h;rcases xO p (cons a c r) ⟨H,b,d⟩ k m with z|⟨j,J,g⟩
  .lia
  .rw[g]
   show hp j J
end F
end B
namespace B
open PySem L2 L3
def o4:Fs:=(ao (ϷH (ñ gLt 1<|ħ<|È 0 ai) (bF<|Ù 0 Ŋ) sNx)
 (ao (Ų<|ŗ (ϰz (Ç 7919) Ŋ)<|Ç 5)
 (ao (ϷH (ϵB (ħ<|È 0 ai)<|Ç 0) (Ų<|ϱN (ŗ (ϰz (Ù 0<|ñ ip 1<|ħ<|È 0 ai)<|Ç 48271)<|ñ cX 1<|Ç 7919)<|Ç 2147483647) sNx)
 (bF<|ϱN (ñ cX 2 ό)<|Ç 2147483629))))
def bP:Fn:=ε 3 o4
def m5:Fs:=(bF<|Ao (EV "int" Ľ)<|Ap<|EV "bool" Ľ)
def e6:Fn:=ϲ5 1 m5
def m9:Fs:=(ao (Ų<|eC<|Ė "abcdefghijklmnopqrstuvwxyz")
 (ao (Δ<|eC<|Ė "")
 (ao (ϧS (ŗ (Ç 1)<|ñ ip 0 Ŋ) 4<|Δ<|ñ a_ 3<|Ù 2<|ϱN (ñ kq 0<|ŗ (Ç 9)<|ϰz (ϰz (Ç 4) ş) ş)<|Ç 26)
 (bF Š))))
def e_:Fn:=ε 5 m9
def pD:Fs:=(ao (ϱo ϊ)
 (ao (ϱ3<|Rs ϊ)
 (ao (bZ (iR1 ό) (K2 7) (ao (ϬF<|ϱN (ϰz (Ϩp<|È 0<|ĝ (ñ a_ 1 ϦO))<|Ç 69621)<|Ç 2147483629)
 (ao (sIf (aD<|ñ gGt 7<|Ç 0) (ao (Ϭw<|ŗ (Ç 1)<|ñ ip 8<|ħ<|È 6 ai)
 (ao (sIf (aD<|Ϲ2 (ϱN (ñ kq 8<|Ç 16)<|Ç 3)<|Ç 0) (Ϭw<|ħ<|È 6 ai) sNx)
 (ao (ϱ3<|Rs<|ϳb 6 iN<|d8<|ϓs<|È 9<|È 4 ai)
 (jD 5<|Rs<|d_<|ae (Ù 6<|ġ<|Ç 1)<|ae (Rs<|aj e_<|ae (ñ kq 8<|Ç 64)<|È 3 ai)<|ae (ŗ (Ç 1)<|ϱN (ñ kq 8<|Ç 4096)<|Ç 9) ai))))<|jD 5<|Rs<|d_<|ae (ġ<|Ç 1)<|ae (Rs<|aj e_<|ae (ñ kq 8<|Ç 64)<|È 3 ai)<|ae (ŗ (Ç 1)<|ϱN (ñ kq 8<|Ç 4096)<|Ç 9) ai)
 (ϱ3<|Rs<|ñ a_ 6<|bO<|È 7 ai))))
 (dB 5))))
def f_:Fn:=aZ 5 10 pD
def zga:(a::z)[0]?=Ϸr:=rfl
def zsa:Ϫ (a::z) 0 y=ϵX:=rfl
def zgb:(a::b::z)[1]?=ϧ:=rfl
def zsb:Ϫ (a::b::z) 1 y=a::ϵX:=rfl
def zgc:(Ϫn z)[2]?=ī:=rfl
def zsc:Ϫ (Ϫn z) 2 y=a::b::ϵX:=rfl
def zgd:(Ϫn<|d::z)[3]?=ϰN:=rfl
def zsd:Ϫ (Ϫn<|d::z) 3 y=Ϫn ϵX:=rfl
def zge:(Ϲv z)[4]?=Ϲ5:=rfl
def zse:Ϫ (Ϲv z) 4 y=Ϫn (d::ϵX):=rfl
def zgf:(Ϲv<|f::z)[5]?=some f:=rfl
def zsf:Ϫ (Ϲv<|f::z) 5 y=Ϲv ϵX:=rfl
def zgg:(Ϲv<|f::g::z)[6]?=Â g:=rfl
def zsg:Ϫ (Ϲv<|f::g::z) 6 y=Ϲv (f::ϵX):=rfl
def zgh:(ϲz z)[7]?=some h:=rfl
def zsh:Ϫ (ϲz z) 7 y=Ϲv (f::g::ϵX):=rfl
def zgi:(ϲz<|i::z)[8]?=ϸv:=rfl
def zsi:Ϫ (ϲz<|i::z) 8 y=ϲz ϵX:=rfl
def zgj:(ϲz<|i::j::z)[9]?=ϱ6:=rfl
def zsj:Ϫ (ϲz<|i::j::z) 9 y=ϲz (i::ϵX):=rfl
def zgk:(ϲz<|i::j::k::z)[10]?=Ş:=rfl
def zsk:Ϫ (ϲz<|i::j::k::z) 10 y=ϲz (i::j::ϵX):=rfl
def zgl:(ϲz<|Ϭx z)[11]?=ϩ5:=rfl
def zsl:Ϫ (ϲz<|Ϭx z) 11 y=ϲz (i::j::k::ϵX):=rfl
def zgm:(ϲz<|Ϭx (m::z))[12]?=some m:=rfl
def zsm:Ϫ (ϲz<|Ϭx (m::z)) 12 y=ϲz (Ϭx ϵX):=rfl
def mqV(n:String):Lean.Syntax:=mqN "Tactic simpLemma" [mq0 [],mq0 [],Lean.mkIdent n.toName]
def mqM:À Lean.Syntax:=("v_var v_c aad Zg TZ Vh Xv Sx v_and v_or v_not Z_ MA xH XA XE Ss v_b Zc v_bor V6 SH WY YS Y_ Oo PC Zo V4 ET Zp Zm Zv Zb WW Yk X8 YT VR Wm Zk Xm YJ Xa Tn YG Vy XR YE VT Xl XC Xc Xj WJ W_ Xk aag We ZA UG UC Wj W6 PZ O0 Tp VS UA Ua XN YO VI Xp So Yx Wv UM ZZ X2 T1 WK SV Sj XU O1 YC W9 Yo Mc Zs ZT Zz XF UO Vn Yu Yp Yd Xu Yl WC Y2 XT WV YD ZK Zt ZE ZD ZU Z6 Sn Xz Y8 KL SR Se Tr NT SU Wu Th at0 at1 at2 W0 UT Ug V0 aaf ZM Zu ZG bc md M_ flI flS flB flN flL flT List.map_cons List.map_nil List.length_cons List.length_nil zga zgb zgc zgd zge zgf zgg zgh zgi zgj zgk zgl zgm List.getElem?_nil zsa zsb zsc zsd zse zsf zsg zsh zsi zsj zsk zsl zsm List.cons_append List.nil_append List.append_nil List.replicate_succ List.replicate_zero Nat.reduceAdd Nat.reduceSub Nat.reduceLeDiff Nat.reduceLT Nat.reduceEqDiff Nat.zero_add Bool.not_true Bool.not_false if_true if_false Bool.false_eq_true reduceIte decide_true decide_false reduceCtorEq EC FG Int.reduceLT Int.reduceLE Int.reduceNeg Int.reducePow Int.reduceToNat Int.reduceMul Int.reduceAdd Int.reduceSub Nat.reducePow and_true true_and and_self List.length_map Xd v_sub V8 M9 YY L9 Int.cast_ofNat_Int Int.reduceEq Int.reduceNe Yb TF kE".splitOn " ").map mqV
local macro_rules(kind:=Lean.Parser.Tactic.simpAutoUnfold)|s=>if s[3].getNumArgs>0||s[4].getNumArgs==0 then Lean.Macro.throwUnsupported else do
 let t:Lean.Syntax:=(<-`(tactic|simp (maxSteps:=1000000) -implicitDefEqProofs only[x])).raw
 let c:=t[1][0]
 let t:=if s[1][0].getNumArgs>0 then t else t.setArg 1 (t[1].setArg 0 (c.setArgs (c.getArgs.extract 0 1)))
 pure ((t.setArg 4 (t[4].setArg 1 (mq0 ((mqM++s[4][1].getSepArgs.toList).intersperse (mqA ","))))).setArg 5 s[5])
def AE(z:Int):e6 [Ä z]=þ (ã true):=ϒm e6 m5
def sR(ns:À Int)(k:Int)(H:0<=k)(b:k<1000000):∃z,bP [Ï ō,Ä k]=.ok (Ñ z):=by
 erw[bP,o4];cases h:k<Ì ns.À
 .let(x,e1,g):=Fd ō k H ϱY
  rw[N2]at e1;let(z,_,rfl):=XL.mp e1;show(z,by simp![Z8 h,g])
 cases a:Ì 0<ns.À
 .let M:=dP k a
  let(x,e1,g):=Fd ō (k%Ì ns.À) M.1 (ť M.2);rw[N2]at e1;let(z,_,rfl):=XL.mp e1;let c:=dP (z*48271+k*7919) (ϱm<|Ì 0<2147483647);let L:ϏJ Ϯg:=EC Á Á;show(ϕ3 Ϯg,?_);simp![K9q h,Z8 a,a,g,L]
 let L:ϏJ όN:=EC Á Á;show(ϕ3 όN,?_);simp![K9q h,K9q a,L]
structure Nd where
 e:Int
 l:Str
 t:Int
def wZ(l:Str):Prop:=1<=l.À/\l.À<=9/\ϏB
def T4(n:Nd):Prop:=wZ n.l/\Ś 1 n.t 9
def ndD(n:Nd):Gc:=Ą [Ä n.e,Ė n.l,Ä n.t]
def ak(ts:À Nd):À Gc:=ts.Ç ndD
inductive Grown(deep:Nat):À Nd->Ú (À Int)
 |root {n:Nd}:T4 n->n.e=-1->Grown deep [n] [0]
 |step {ns:À Nd} {way:À Int} {c:Nat} {n:Nd}:ϯc->1<=c->ϯX->c<=deep->T4 n->way[c-1]?=Â n.e->Grown deep Ϭi (ϥy++[Ì ns.À])
def Grown.pos{deep:Nat}{ns:À Nd}{way:À Int}(g:ϯc):ϫK/\0<way.À:=by
 cases g with|root=>simp|step=>simp
def Grown.ok{deep:Nat}{ns:À Nd}{way:À Int}(g:ϯc):∀n∈ns,T4 n:=by
 induction g with
 |root h=>simpa using h
 |@step ns way c n g h1 h2 h3 h4 h5 ih=>
  ext x H;rcases K9Y.mp H with H|H
  .show ih x H
  let:x=n:=Ϻ4
  rw[this];show h4
def QF{k:Int}(a:0<=k)(h:k<26):∃c,Ť ((Ϫk ϸY)) k=ī/\97<=c/\c<=122:=by
 let e:Ϫk ϸY=ϥq 97 26:=œ
 rw[e];let(v,e1,g):=Fd (ϥq 97 26) k a ϱY;show(v,g,?_);let:=List.mem_range'.mp<|K9L e1;lia
def Bm(k:Int)(a:0<=k)(h:k<26):∃c,Ť ((Ϫk ϸY)) k=ī/\(97<=c/\c<=122):=QF a h
def BO(a b:Str):Ϫk ϦG=a.Đ++b.Đ:=PyProof.Rows.cps_toList_append a b
def HC(a:Str):a.À=a.cps.toList.À:=Ϯ Str.length
def Ed(a:Str)(c:Nat):Ã (a++ϥu:Str)=ϭm 1:=by rw[HC,BO,HC,K9v];rfl
def K5(z m:Int)(g:1<=m)(Q:m<=9):∃l,wZ l/\e_ [Ä z,Ä m]=þ (Ė l):=by
 erw[e_,m9];let M:=dP z (ê<|0<m);let S:Ι (1+z%m):=Ŕ Á;let p:Ì 0<m:=Á
 obtain⟨f,H⟩:∃f:ņ,∀i:Nat,Ť ((Ϫk ϸY)) (z / (9+ϻp (0+ÿ))%26)=Â (f i)/\(Ś 97 (f i) 122):=
  ⟨λi=>Ϸ0<|Bm _ (ϥm (9+ϻp (0+ÿ))<|ϱm (Ì 0<26)).1 (dP _ Ý).2,λi=>Zab<|Bm _ (ϥm (9+ϻp (0+ÿ))<|ϱm (Ì 0<26)).1 (dP _ Ý).2⟩
 simp![p,S];generalize b:Ŗ=r;show aX b (λi a=>∃(l:Str)(v:Ü OD),a=[some<|Ñ z,Ĕ<|Ä m,Ĕ<|Ė ϸY,Ĕ<|Ė l,v]/\l.À=i/\ϏB) ϖN ?_ ?_
 .rintro i d a h ⟨l,v,rfl,hl,C⟩
  let(hi,rfl):=cI h;let I:ÿ<9:=Á
  let B:Ś 0 (ϻp (0+ÿ)) (ϻp 8):=by
   let A:0<=(0+ÿ):=Á
   let n:(0+ÿ)<=8:=Á
   show(Zag Á A,?_);show Zef Á n A Á
  let Y:=(H i).1;let c1:=(H i).2.1;let L:=(H i).2.2;generalize f i=c at Y c1 L;let k:ϤC (4*(0+ÿ)) (0+ÿ):=EC Á Á;let K:ϭZ 9 (ϻp (0+ÿ)):=ϸC ⟨Á,Á⟩;let e:ϳs (Ã ϸY):=œ
  let E:ϳs (l.À+Ã (ϥu:Str)):=aF (by rw[hl];change i+1<=1000;lia);simp![k,K,e,E,Y,Zbe];show(_,_,rfl,Ĥ Ed hl,ύD);rw[BO,K9Y]at h;rcases h with h|h
  .show C d h
  let:d=c:=ϱY
  lia
 ext ρ' rfl ⟨l,v,rfl,hl,C⟩;rw[gF]at hl;simp![S5];show(l,(Á,Á,C),rfl)
def qX(X:À Gc)(k:Nat):ϲc X none (Â ë)=X.Ö k:=by
 erw[cutD];rw[HT.CT,HT.uS,List.drop_zero,Zfm];rcases Nat.le_total k X.À with h|h
 .rw[K8q h]
 rw[Nat.min_eq_right h,K90 ì,K90 h]
def AU{way:À Int}(a:1<=k)(b:k<=way.À):∃e,way[k-1]?=Ϲ5/\Ϲ3 (Ê (way.Ö k) int)=Â (Ä e):=by
 let H:k-1<way.À:=Á
 show(way[k-1],ϫ6,?_);let h:way.Ö (k-1+1)=way.Ö (k-1)++[way[k-1]]:=by rw[Zck];simp[H]
 rw[ê (k-1+1=k)]at h;rw[h,K9i];show Ae _ _
def aH(ts:À Nd):İ (Ã è):=ű ak K0
def uk(ts:À Nd)(n:Nd):ak (ts++[n])=è++[Ą [Ä n.e,Ė n.l,Ä n.t]]:=Ϗ ak K9i
def HM(ns:À Int)(T:Int)(many:Nat)(most deep:Int)(s0:0<=T)(S:T<=1000)(N:1<=many)(p:many<=900)(m0:1<=most)(M:most<=9)(D:1<=deep)(o:deep<=1000):
  ∃ts way,ϐa/\ts.À=many/\f_ [Ï ō,Ä T,Ä many,Ä most,Ä deep]=.ok (Ę è):=by
 erw[f_,pD];let s:Ι ((Ì many)):=Ŕ Á;simp![s];generalize n:Ŗ=r;apply aX n (λi m=>∃(ts:À Nd)(way:À Int)(v V f:Ü OD),m=[â ō,Ĕ<|Ä T,some<|Ñ many,some<|Ñ most,some<|Ñ deep,some<|Ę è,â<|way.Ç int,v,V,f]/\ts.À=i/\way.À<=i/\(ϙN\/(0<i/\ϐa)))
  ⟨[],[],_,_,_,rfl,rfl,ì,Ð ⟨rfl,rfl,rfl⟩⟩ ?_ ?_
 .rintro i d m hd ⟨ts,way,v,V,f,rfl,hti,hwi,hg⟩
  let(hi,rfl):=϶M;rw[K9n]at hi;let(y,Y):=ϧG (T+(0+ÿ)) Á;let(l,j,E):=K5 (ϲ9 / 64) most m0 M;let q:=dP (ϲ9 / 4096) (ϱm<|Ì 0<9);let b:ϱK (Ã è):=Ô aH (c8 Á)
  cases H:Ì 0<0+ÿ
  .let h:ϐa:=by
    rcases hg with hg|hg
    .lia
    show hg.2
   let wp:=h.pos.2;let wl:Ì 0<way.À:=Á
   let hr:=dP ϲ9 wl;let fin:∀c:Nat,1<=c->ϯX->ϒI->∀(e:Int),way[c-1]?=Ϲ5->Grown deep.Ò (ts++[⟨e,l,1+ϲ9 / 4096%9⟩]) (ϥy++[Ì ts.À]):=λc c1 L k e he=>Grown.step h c1 L k ⟨j,ϳY (1<=1+_),ϳY (1+_<=9)⟩ he;let lw:∀c:Nat,ϳs (Ã ϥy+1):=λc=>aF (Ă K9f);cases g:ϲ9 / 16%3=0
   .obtain⟨c,C⟩:∃c:Nat,(Ë (deep<Ì way.À) deep<|(Ì way.À))=Ϧb:=⟨ĩ (Ë (deep<Ì way.À) deep<|(Ì way.À)),ϧR⟩
    obtain⟨c1,L,k⟩:1<=c/\ϯX/\ϒI:=Ϛl
    let(e,he,a):=AU c1 L;simp![Y,E,wl,Z8 H,Z8 g,C,qX,<-K7n,aI,a,b,lw];let t1:=uk ts ⟨e,l,1+ϲ9 / 4096%9⟩;let t2:Ê è OD.sh++[Đ<|Ą [Ä e,Ė l,Ä<|1+ϲ9 / 4096%9]]=ß ak (ts++[⟨e,l,1+ϲ9 / 4096%9⟩]) OD.sh:=ϰ8 t1 K9i
    let w:Ê ϥy int++[int<|0+ÿ]=Ê (ϥy++[Ì ts.À]) int:=ϙa
    rw[t2,w];show(_,_,_,_,_,rfl,ϰ8 K9v hti,ϳq K9v K9f K9e,Ø ϗs)
   obtain⟨c,C⟩:∃c:Nat,(Ë (deep<1+ϲ9%Ì way.À) deep<|1+ϲ9%Ì way.À)=Ϧb:=⟨ĩ (Ë (deep<1+ϲ9%Ì way.À) deep<|1+ϲ9%Ì way.À),ϧR⟩
   obtain⟨c1,L,k⟩:1<=c/\ϯX/\ϒI:=Ϛl
   let(e,he,a):=AU c1 L;simp![Y,E,wl,Z8 H,K9q g,C,qX,<-K7n,aI,a,b,lw];let t1:=uk ts ⟨e,l,1+ϲ9 / 4096%9⟩;let t2:Ê è OD.sh++[Đ<|Ą [Ä e,Ė l,Ä<|1+ϲ9 / 4096%9]]=ß ak (ts++[⟨e,l,1+ϲ9 / 4096%9⟩]) OD.sh:=ϰ8 t1 K9i
   let w:Ê ϥy int++[int<|0+ÿ]=Ê (ϥy++[Ì ts.À]) int:=ϙa
   rw[t2,w];show(_,_,_,_,_,rfl,ϰ8 K9v hti,ϳq K9v K9f K9e,Ø ϗs)
  obtain⟨I,rfl,rfl⟩:ϙN:=by
   rcases hg with hg|hg
   .show hg
   lia
  simp![Y,E,K9q H,aI,b];subst I;show([⟨-1,l,1+ϲ9 / 4096%9⟩],[0],_,_,_,rfl,rfl,Ý,Ø ⟨Zdf _,Grown.root ⟨j,ϳY (1<=1+_),ϳY (1+_<=9)⟩ rfl⟩)
 ext ρ' rfl ⟨ts,way,v,V,f,rfl,hti,hwi,hg⟩;rw[gF,K9n]at hti hg;rcases hg with hg|hg
 .lia
 simp![S5];show(ts,way,hg.2,hti,rfl)
def fZ{ts:À Nd}{k:Nat}{n:Nd}(h:ϸG=ϵL):Ť è ë=Â (Ą [Ä n.e,Ė n.l,Ä n.t]):=de (ϧk ak)
instance:Inhabited Nd:=⟨⟨0,"",0⟩⟩
def Z4(ts:À Nd)(k:Nat):Int:=Ó (ts[k]?.map (·.e)) 0
def PT(ts:À Nd)(c:F):Prop:=F.Pf ts.À Ĩ c
def bL{ts:À Nd}{k:Nat}{n:Nd}(h:ϸG=ϵL):Ĩ k=n.e:=by erw[Z4];rw[h];rfl
def Et{deep:Nat}{ns:À Nd}{way:À Int}(g:ϯc):∃c,PT ns c/\way=Ê (0::F.path c) (ϰU ë):=by
 induction g with
 |@root n h1 h2=>show(F.nil,(rfl,Ô (bL (n:=n) rfl) h2,trivial),rfl)
 |@step ns way k n g h1 h2 h3 h4 h5 ih=>
  let(c,p,w):=ih;subst w;rw[K0,K9p]at h2;let same:Η ns.À (Z4 Ϭi j=Z4 ns j):=λj J=>ű Z4 (K9V J)
  let new:Z4 Ϭi ns.À=n.e:=bL Û;let inR:∀j∈Φ,j<ns.À:=λj m=>by let:j∈0::Φ:=ě m;rw[p.pre,K9G]at this;show this
  let he:F.Eld (Z4 Ϭi) 0 c:=ϒQ (λj m=>same j<|inR j m)
  let(b,q,l):=F.yG (x:=ns.À) c (k-1) 0 Á he (by
   rw[new];rw[N2]at h5;cases K:k=1
   .subst K
    let:=K9R h5;rw[Ĝ];show this.Ï
   obtain⟨m,rfl⟩:∃m,k=m+2:=⟨k-2,Á⟩
   rw[P3 Á]
   let e:(0::F.path c)[m+2-1]?=(F.path c)[m+2-1-1]?:=rfl;rw[e]at h5;let(v,H,h):=XL.mp h5;rw[H,<-h];rfl)
  show(F.pT c (k-1) ns.À,(?_,?_,l),?_)
  .rw[b,<-K92,p.pre,K9v,K9p,K8U,K8A]
  .rw[same 0 p.ú]
   show p.root
  rw[q];obtain⟨m,rfl⟩:ϔz:=⟨k-1,Á⟩
  rw[K9w,K9w,K7q,K9i,K8J,K7n];rfl
def cw(ts:À Nd)(k:Nat):Nd:=ts[k]?.getD default
def aR(ts:À Nd)(c:F):À Nd:=Ê Κ λk=>Ϧ0
def ue{ts:À Nd}{k:Nat}(h:Ć):(ϯ).e=Ĩ k:=by erw[cw,Z4];rw[ϱj];rfl
section
variable{ts:À Nd}{c:F}
def cP(p:ç):İ (Ã ć):=χ aR K0 p.í
def Lr(p:ç){i:Nat}(hi:ϫP):Z4 ć i=F.e1 Ĩ c i:=by
 obtain⟨k,H⟩:∃k,á Κ=Ş:=⟨Κ[i]'(ϷX p.í),Û⟩
 let h:Ć:=p.mem.mp Ϧs;erw[Z4,aR,F.e1];rw[N2,H];change Ϻe (ϯ).e=_;rw[ue h];rfl
def zy{n:Nat}{e e':å}{c:F}(h:∀k,k<n->e' k=e k)(p:F.Pf n e c):F.Pf n e' c:=by
 show(p.pre,Ô (h 0 p.ú) p.root,ϒQ (λk m=>h k ?_));let:k∈0::Φ:=ě m;rw[p.pre,K9G]at this;show this
def gc(p:ç):PT ć ϻY:=by erw[PT];rw[ϵY];show zy (϶U<|Lr p h) p.mirrored
def E4(p:ç):aR ć ϻY=ts:=by
 apply K9K;ext k;cases h:k<ts.À
 .let H:=p.R1_at h
  let f:=p.at_g h;let e1:cw ć (Ĺ k)=Ϧ0:=by erw[cw,aR];rw[N2,f];rfl
  let q:=Lr ϶O (i:=k) (Ϲu ϵY);let tw:=p.twice h;let g:(aR ć ϻY)[k]?=Â ⟨F.gi ϻY<|Ϻe (ϯ).e,(ϯ).l,(ϯ).t⟩:=by
   change ϫ (ß F.R ϻY _)=_;rw[N2,H,Zbe,e1]
  let G:F.gi ϻY (Ϻe (ϯ).e)=Ĩ k:=by
   rw[<-tw];erw[F.e1];rw[H];change _=F.gi ϻY (F.e1 Ĩ c<|Ĺ k);rw[p.e1_g h,ue h]
  rw[g,G,<-ue h];erw[cw];rw[ϱj];rfl
 rw[K9c (Ϻ (cP ϶O) ϵY),K9c Á]
end
def P7{ts s:À Nd}{c:F}(p:ç)(a:İ s.À)(h:∀k,Ć->Z4 s k=Ĩ k):PT s c:=by erw[PT];rw[a];show zy h p
def Tw{ts:À Nd}{c:F}(p:ç)(h:Č 1):∃G,PT ts.Ù G:=by
 let C:c≠F.nil:=by
  ext rfl;let:=Ż p.pre;rw[Z7]at this;simp[F.pre]at this;lia
 let(q,Q):=F.uh (e:=Ĩ) c 0 C p.eld;let hr:Φ≠[]:=by
  cases c with|nil=>show Ϡ C|cons a b t=>rw[F.pre'];simp
 let same:∀k,k<ts.dropLast.À->Z4 ts.Ù k=Ĩ k:=ϲ1 (χ Z4 List.getElem?_dropLast (Os<|by rw[Zcz]at H;show H))
 show(F.jX c,zy same ⟨?_,p.root,Q⟩);rw[q,<-Zcr hr,p.pre,Zcz];obtain⟨m,M⟩:ϚN:=⟨ĵ,Á⟩
 rw[M,K8A];simp
def og(s:Nat)(ts:À Nd):À Nd:=match ts with
 |[]=>[]
 |n::r=>ϫb::r.Ç ϪP
def OY{ts s:À Nd}{c d:F}(p:ç)(q:PT s d):PT (ts++Ϲc s) (F.app c (ϳE (·+ts.À) ϨH)):=by
 obtain⟨n,r,rfl⟩:∃n r,s=ϴl:=by
  cases s with
  |nil=>show ĭ q.ú Û
  |cons n r=>show(n,r,rfl)
 let e1:∀k,Ć->Z4 (ts++Ϲc ϴl) k=Ĩ k:=ϲ1 (ű Z4 (K9V H))
 let g:∀k,k<Ã ϴl->Z4 (ts++Ϲc ϴl) (k+ts.À)=Ë (k=0) 0 (Z4 ϴl k+ts.À):=λk H=>by
  erw[Z4];rw[K9a Á,K8J];cases k with
  |zero=>rfl
  |succ k=>
   rw[P3 Á];change Ó ((r.Ç λm=>(⟨m.e+ts.À,m.l,m.t⟩:Nd))[k]?.map (·.e)) 0=Ó (r[k]?.map (·.e)) 0+ts.À;rw[K9p]at H;rw[N2,Nu<|ê (k<r.À)];rfl
 let a:Ã (ts++Ϲc ϴl)=ts.À+Ã ϴl:=by rw[K9v];erw[og];rw[K9p,K0,K9p]
 show(?_,Ô (e1 0 p.ú) p.root,?_)
 .rw[F.pre_app,F.vq,q.preF,<-K92,p.pre,a,List.range_add]
  congr 1
  show K8u λk x=>Zct _ _
 rw[F.BZ];show(ϒQ (λk m=>e1 k ?_),?_,?_,trivial)
 .let:k∈0::Φ:=ě m
  rw[p.pre,K9G]at this;show this
 .let:=g 0 Û
  show this
 let:=F.EE (e:=Z4 ϴl) (e':=Z4<|ts++Ϲc ϴl) (h:=(·+ts.À)) (hi:=λz=>z+ts.À) 0 d (λk m=>by
  let H:k∈0::F.pre d:=ě m;let nd:(0::F.pre d).Nodup:=Ô q.pre K8C
  rw[q.pre,K9G]at H;let i:k≠0:=λz=>(ϨR).1 (z▸m);show(?_,Á)
  let:=g k H;rw[P3 i]at this;show this) q.eld
 show this
namespace F
def ER{ch:Nat->Ò}:∀(f:F),ϴ3 f->∀q∈ν,∀b∈ch q,b∈ν:=by
 induction _ with
  |nil=>
   ext _ q m _ _
   cases m
  |cons k c r ih1 ih2=>
   intro h q m b hb
   let(e,i,j):=h;let rs:∀g:F,∀x∈roots g,x∈ϝ g:=by
    ext g
    induction g with
    |nil=>ext x H;cases H
    |cons a d t _ ih=>
     ext x H;rw[roots']at H;rw[F.pre'];rcases K8v.mp H with rfl|H
     .show K9z
     .show ě<|Τ<|ih x H
   rw[F.pre']at m⊢;rcases K8v.mp m with rfl|m
   .rw[e]at hb
    show ě<|ϰA<|rs c b hb
   .rcases K9Y.mp m with m|m
    .show ě<|ϰA<|ih1 i q m b hb
    .show ě<|Τ<|ih2 j q m b hb
theorem xI{e:å}{ch:Nat->Ò}:∀(f:F)(a m:Nat)(p:Int),ν=ϯq->ϱa f->ϴ3 f->p<ϑ->∀j,a<=j->j<a+m->
  ∃C s,F.pre C=ϥq (j+1) s/\Ϫs Ĵ C/\Ϻv<=a+m/\(Ϻv<a+m->e Ϻv<Ĵ)/\ϴ3 C/\ch j=roots C:=by
 induction _ with
  |nil=>
   ext a m p hp _ _ _ j h1 h2
   let:=Ż hp;rw[F.pre'',K8U,K93]at this;lia
  |cons k c r ih1 ih2=>
   intro a m p hp he hcon hpa j h1 h2
   let(e1,g,G):=he;let(U,O,u):=hcon;obtain⟨M,rfl⟩:∃M,m=M+1:=⟨m-1,Á⟩
   rw[F.pre',Zco]at hp;let(K,t):=K8B hp;subst K;let L:=Ż t;rw[K9v,K93]at L;let o:M=Ã Φ+Ã Ϻa:=Á
   rw[o,<-Zew]at t;let(H,hr):=Zer t (ϰT K93);let first:Ã Ϻa≠0->e (k+1+Ã Φ)=p:=λn=>by
    cases r with
    |nil=>show Ϡ n
    |cons b1 b2 b3=>
     let B:b1=k+1+Ã Φ:=by
      let:=Uf (λl=>l[0]?) hr;rw[F.pre']at this;rw[K9p,Zco]at this;show K9R this
     rw[<-B];show G.1
   cases J:j=k
   .subst J
    show(c,Ã Φ,H,g,Á,λh=>?_,O,U);rw[first Á];lia
   .by_cases i:j<k+1+Ã Φ
    .let(C,s,b,q,v,Q,E,d):=ih1 (k+1) (Ã Φ) ë H g O Á j Á i
     show(C,s,b,q,Á,λh=>?_,E,d);cases S:Ϻv<k+1+Ã Φ
     .show Q S
     .let:Ϻv=k+1+Ã Φ:=Á
      rw[this,first Á];lia
    .let(C,s,b,q,v,Q,E,d):=ih2 (k+1+Ã Φ) (Ã Ϻa) p hr G u Á j Á Á
     show(C,s,b,q,Á,λh=>Q Á,E,d)
end F
theorem TY{ts:À Nd}{c:F}(p:ç){j:Nat}(J:ϰg):∃s,ϱ0 Ϻv/\(∀k,j<k->k<=j+s->Ĵ<=Ĩ k)/\(Č Ϻv->Ĩ Ϻv<Ĵ)/\
  ∀b,ϵm->Ĵ<=Ĩ b->Ĩ b<=ä (j+s)->ϓO:=by
 let(C,s,Q,o,l,f,E,r):=F.xI (e:=Ĩ) ϥC 0 ts.À (-1) (Ĥ p.ğ K7s) p.eldF p.con Ý j Á Á;rw[K87]at l f;let ge:=F.Bs C Ĵ o (Ϙm Q);show(s,l,λk K v=>ge k (Ϻ Q Zbi),f,λb B b1 u=>?_);let M:b∈F.pre C:=by
  obtain⟨q,n⟩:∃q:Nat,Ĩ b=Ì q:=⟨ĩ (Ĩ b),Á⟩
  let O:b∈ž ϳR (λx=>Õ<|Ĩ x=Ì q):=ϳy ⟨K9G.ó B,Z8 n⟩;cases H:q=j
  .subst H
   let i:b∈F.roots C:=by rw[<-r];show O
   let rs:∀g:F,∀x∈ϲS g,x∈ϝ g:=by
    ext g
    induction g with
    |nil=>ext x h;cases h
    |cons a d t _ ih=>
     ext x h;rw[F.roots']at h;rw[F.pre'];rcases K8v.mp h with rfl|h
     .show K9z
     show ě<|Τ<|ih x h
   show rs C b i
  show F.ER C E q (Ϻ Q Zbi) b O
 rw[Q,Zbi]at M;lia
namespace F
def C9(h:ņ):ϤI (ϴd (϶r g)=app (ϴd f) (ϴd g)):=by
 induction _ with|nil=>ext g;show rfl|cons k c r Sc Re=>ext g;rw[app,map,map,app,Re g]
def jQ(h:ņ):ϲw (roots (ϴd f)=Ê ϭe h):=by
 induction _ with|nil=>show rfl|cons k c r Sc Re=>rw[map,roots',roots',K9w,Re]
def nN:ϲw (roots Ϲ1=Ϩ ϭe):=by
 induction _ with
 |nil=>show rfl
 |cons k c r Sc Re=>
  rw[mir',vW,Re];change _++[k]=Ϩ ϓN;rw[K8T]
def B8{ch C:Nat->Ò}{g:ņ}:ϲw (ϴ3 f->Con C (map g Ϲ1)->∀k∈ν,C (g k)=Ê (Ϩ<|ch k) g):=by
 induction _ with
  |nil=>
   ext _ _ k m
   cases m
  |cons a c r ih1 ih2=>
   intro h h' k m
   let(H,b,d):=h;rw[mir',C9,xF]at h';let(q,Q,l,e):=h';rw[F.pre']at m;rcases K8v.mp m with rfl|m
   .rw[Q,H,jQ,nN]
   .rcases K9Y.mp m with m|m
    .show ih1 b l k m
    .show ih2 d q k m
end F
def Vo{ts:À Nd}{c:F}(p:ç){k:Nat}(K:Ć):ž (ϱQ<|(Ã ć)) (λj=>Õ<|Z4 ć j=ä (Ĺ k))=Ê (Ϩ<|ž ϳR λj=>Õ<|Ĩ j=ë) Ĺ:=by let h:=p.con;let H:=(϶O).con;rw[F.xX]at H;show F.B8 ϥC h H k (Ô p.ğ<|϶u K)
def nt:Fs:=(sIf (pZ (aD<|ñ gLt 1<|Ç 0)<|aD<|ñ gGe 1<|ħ<|È 0 ai) Ju sNx)
def fi:Fn:=ε 2 nt
def k8:Fs:=(ao (ϳ6 ϊ)
 (ao (ϫa Ľ 2<|ϨZ<|Rs<|pX<|eIf (aD<|Ϲ2 (Ù 2<|Ç 0)<|ġ<|Ç 1) (Ç 0)<|ŗ (Ù 1<|Ù 2<|Ç 0)<|Ç 1)
 Ϥr))
def fT:Fn:=ϲ5 3 k8
def oS:Fs:=(bF<|ϰr bY 0 (Ϧa (ħ<|ĝ (Ù 0<|Ç 1))<|Ç 2) 1 [])
def bT:Fn:=ϲ5 1 oS
def jJ:Fs:=(ao (ϳ6<|ϰr bY 0 ϊ 1 [])
 (ao (bZ (iR2 (Ç 1)<|ħ<|È 0 ai) (K2 2)<|ui 1 (ū (Ù 0 ό)<|Ç 0) ό)
 Ϥr))
def dZ:Fn:=ϲ5 3 jJ
def lR:Fs:=(ao (AF<|aj fi<|È 0<|È 1 ai)
 (bF<|aP (iEn Ľ) (ϡ<|Œ 0 1 bB) (aD<|Ϲ2 (Ù 1<|Ç 0) ό) Ľ 2 [1]))
def aV:Fn:=ε 2 lR
def oy:Fs:=(ao (ϳ6 ϊ)
 (ao (bZ (iEn<|aj fT<|È 0 ai) (ϡ<|Œ 2 3 bB) (ao (sIf (Gk<|aD<|ñ gEq 3<|ħ<|È 1 ai) (ϨZ ϊ) sNx)
 (ui 1 Š ό)))
 Ϥr))
def bS:Fn:=ϲ5 4 oy
def EL(ts:À Nd):Prop:=∀(k:Nat)(n:Nd),ϸG=ϵL->(k=0->n.e=-1)/\(0<k->0<=n.e)/\n.e<k
def gZ(a:Ò)(n:Nd):Nat:=Ë (n.e=-1) 0 (Ó (a[n.e.toNat]?) 0+1)
def lvs(ts:À Nd):Ò:=ts.foldl (λa n=>a++[gZ a n]) []
def rG(ts:À Nd)(n:Nd):lvs (ts++[n])=ϱr++[gZ ϱr n]:=Ϗ lvs List.foldl_append
def snoc_ind{P:Ú (À α)}(a:P [])(S:∀X x,P X->P (X++[x]))(X:À α):P X:=by
 let:∀s:À α,P s.å:=by
  ext s
  induction s with|nil=>show a|cons y s ih=>rw[K8T];show ϤF ih
 let h:=this X.å;rwa [Zex]at h
def f6:∀ts:À Nd,İ (Ã ϱr):=by
 ext ts;show snoc_ind (P:=λts=>İ (Ã ϱr)) rfl (λts n i=>?_) ts;rw[rG,K9v,K9v,i];rfl
def take_snoc{α:Type}{X:À α}{i:Nat}{x:α}(h:á X=Ď):X.Ö (i+1)=X.Ö i++[x]:=by rw[Zck,h];rfl
def zI(ts:À Nd):∀i:Nat,Ł ϱr i=ϳa:=by
 show snoc_ind (P:=λts=>∀i:Nat,Ł ϱr i=ϳa) (λi=>Ϯ lvs) (λts n I=>?_) ts;ext i;rcases Nat.le_total i ts.À with h|h
 .rw[rG,K8s (Ϲu f6),K8s h,I]
 cases H:i=ts.À
 .subst H
  rw[rG,K8s (Ô f6 ì),K8s ì,I]
 rw[K90 (by rw[f6,K9v];simp;lia),K90<|by rw[K9v];simp;lia]
def uN{ts:À Nd}{i:Nat}{n:Nd}(h:á ts=ϵL):á ϱr=Â (gZ ϳa n):=by
 let hi:=ϲG;let e:=zI ts<|i+1;rw[ϓP,rG]at e;let:(Ł ϱr<|i+1)[i]?=Â (gZ ϳa n):=by
  rw[e,K9a (Ϻ f6 K9f),f6,K9f,K8q Á,K8c];rfl
 rw[K97 Á]at this;show this
def aO(s:Ò):À Gc:=s.Ç (ϳk ë)
def eS(s:Ò):Ã ϺH=s.À:=ű aO K0
def GK{s:Ò}{k v:Nat}(h:s[k]?=ĥ):Ť ϺH ë=Â (Ä v):=de (ϧk aO)
def sQ(s:Ò)(k:Nat):Ê ϺH OD.sh++[Đ<|Ä ë]=ß aO (s++[k]) OD.sh:=ϰZ aO K9i K9i
def zx(ts:À Nd)(he:ĕ)(j:é):fT [Ï è]=.ok (Ę<|aO ϱr):=by
 erw[fT,k8];simp![S5];generalize L:Ŗ=r';show ϳ1 (λi c=>∃V:Ü OD,c=[â è,some<|Ę<|aO ϳa,V]) ζ
 .rintro i d c hd ⟨V,rfl⟩
  erw[ak]at hd;rw[N2]at hd;let(n,N,rfl):=ϹW;let hi:=(ZB.mp N).1;let l:ϱK (Ã (aO ϳa)):=ϩN eS f6 K9f (c8 Á)
  let g:(lvs<|ts.Ö<|i+1)=ϳa++[gZ ϳa n]:=Ĥ (take_snoc N) rG
  let e:=he i n N;cases H:n.e=-1
  .let e1:gZ ϳa n=0:=ű gZ ϱT
   rw[e1]at g;let sn:=sQ ϳa 0;rw[<-g,Int.natCast_zero]at sn;simp![ndD,Z8 H,l,aI,sn];show(_,rfl)
  let f:0<i:=by
   rcases Zcg i with h|h
   .show ĭ (e.1 h) H
   show h
  obtain⟨k,K⟩:∃k:Nat,n.e=ë:=⟨n.ģ,Ĳ (e.2.1 f)⟩
  let I:k<i:=Ĳ e.2.2
  obtain⟨v,b⟩:∃v,ϳa[k]?=ĥ:=⟨ϳa[k]'(Ϻ f6 K9f),Û⟩
  let e1:gZ ϳa n=v+1:=by erw[gZ];rw[ϲb,K,K9n,b];rfl
  rw[e1]at g;let sn:=sQ ϳa<|v+1;rw[<-g,Zcv,Int.natCast_one]at sn;let ga:=GK b;let a:¬(ë=-1):=Á
  simp![ndD,K,K9q a,l,aI,ga,sn];show(_,rfl)
 ext ρ' rfl ⟨V,rfl⟩;simp![S5];rw[aH,K90 ì]
def JF(nums:À Ò)(k lv:Nat):À Ò:=Ë (lv=nums.À) (nums++[[k]]) (nums.ß lv (Ó (nums[lv]?) []++[k]))
def cM(L:Ò):Nat->À Ò|0=>[]|i+1=>ϖy<|Ó (L[i]?) 0
def cM'{L i}:cM L (i+1)=(ϖy<|Ó (L[i]?) 0):=rfl
structure NumOk(L:Ò)(i:Nat)(nums:À Ò):Prop where
 row:∀(j:Nat)(r:Ò),ę nums=ϰQ->ϩ6/\Ϯ0/\∀k,k∈r↔k<i/\L[k]?=ϱ6
 lt:∀(k v:Nat),k<i->L[k]?=ĥ->v<nums.À
 sum:Ϲa nums.Ç=i
def sum_set(f:Ò->Nat):∀(nums:À Ò)(j:Nat)(r R:Ò),ę nums=ϰQ->f R=f r+1->(Ê (nums.ß j R) f).sum=(nums.Ç f).sum+1:=by
 induction _ with
  |nil=>
   ext j _ _ h _
   simp at h
  |cons x xs ih=>
   ext x23 r R h e
   cases x23 with
    |zero=>
     simp at h;subst h;simp;lia
    |succ j=>
     let:=ih j r R ϱY e;simp at this⊢;lia
theorem BV:∀(nums:À Ò)(j:Nat)(r:Ò),ę nums=ϰQ->r.À<=Ϲa nums.Ç
 |[],j,r,h=>ϫs
 |x::xs,0,r,h=>by
  simp at h;subst h;simp
 |x::xs,j+1,r,h=>by
  let:=BV xs j r ϱY;simp;lia
def NumOk.step{L:Ò}{i:Nat}{nums:À Ò}(h:NumOk L i nums){v:Nat}(V:L[i]?=ĥ)(hle:v<=nums.À):NumOk L (i+1) (JF nums i v):=by
 erw[JF];cases d:v=nums.À
 .rw[Os d]
  show(ϩV ?_,λk w K W=>?_,by rw[K9i,Zbf,h.sum];simp)
  .by_cases J:j<nums.À
   .rw[K9V J]at hr
    let(a,b,c):=h.row j r hr;show(a,b,Ϧc);rw[c k];constructor
    .exactλz=>⟨Á,z.2⟩
    ext⟨z1,z2⟩;show(?_,z2);cases I:k=i
    .subst I
     rw[V]at z2;let:=K9R z2;lia
    lia
   rw[K9a Á]at hr;let e:j=nums.À:=by
    let:=(ϱb hr);simp at this;lia
   subst e;let:[i]=r:=ť hr
   subst this;show(Û,Û,Ϧc);rw[K95];constructor
   .rintro rfl
    show(Á,by rw[V,d])
   ext⟨z1,z2⟩;cases I:k=i
   .show I
   let:=ϭw _ Á z2;lia
  rw[K9v,K9e];cases I:k=i
  .subst I
   rw[V]at W;let:=K9R W;lia
  let:=ϭw w Á W;lia
 rw[P3 d];let l:v<nums.À:=Á
 obtain⟨R,H⟩:∃r,nums[v]?=ϰQ:=⟨nums[v],by simp[l]⟩
 rw[H,Zaz];let(a,b,c):=h.row v R H;show(ϩV ?_,λk w K W=>?_,?_)
 .by_cases J:v=j
  .subst J
   rw[K9I l]at hr;cases hr;show(Û,?_,Ϧc)
   .rw[List.pairwise_append]
    show(b,Û,λx X y f=>?_);let Y:y=i:=by simpa using f
    rw[Y];show((c x).mp X).1
   rw[K9Y,K95,c k];constructor
   .rintro(⟨z1,z2⟩|rfl)
    .exact(Á,z2)
    show(Á,V)
   ext⟨z1,z2⟩;cases I:k=i
   .show Ø I
   show Ð ⟨Á,z2⟩
  rw[K9E J]at hr;let(A,B,G):=h.row j r hr;show(A,B,Ϧc);rw[G k];constructor
  .exactλz=>⟨Á,z.2⟩
  ext⟨z1,z2⟩;show(?_,z2);cases I:k=i
  .subst I
   rw[V]at z2;show ĭ (K9R z2) J
  lia
 .rw[K8z]
  cases I:k=i
  .subst I
   rw[V]at W;let:=K9R W;lia
  show ϭw w Á W
 rw[sum_set List.length nums v R _ H Û,h.sum]
private def LX{ts:À Nd}(he:ĕ){i:Nat}{nums:À Ò}(h:NumOk ϱr i nums){n:Nd}(H:á ts=ϵL):gZ ϳa n<=nums.À:=by
 erw[gZ];split
 .show ϰS
 rename_i b;let e:=he i n H;let a:0<i:=by
  rcases Zcg i with h|h
  .show ĭ (e.1 h) b
  show h
 let hi:=ϹB;let k:n.ģ<i:=ϓl (e.2.1 a) e.2.2
 obtain⟨v,V⟩:∃v,ϱr[n.e.toNat]?=ĥ:=⟨ϱr[n.e.toNat]'(Ă f6),Û⟩
 let:ϳa[n.e.toNat]?=ĥ:=by rw[<-zI,K97 k];show V
 rw[this,Zaz];show h.lt _ v k V
def f9{ts:À Nd}(he:ĕ):∀i,i<=ts.À->NumOk ϱr i (ϟ i):=by
 induction _ with
 |zero=>ext _;show(λj r h=>by simp[cM]at h,λk v h=>Á,rfl)
 |succ i N3=>
  ext hi;let I:=N3 Á;obtain⟨n,H⟩:ϰ6 (á ts):=⟨ts[i]' Á,Û⟩
  let V:=uN H;rw[cM',V,Zaz];show I.step V<|LX he I H
def SJ(r:Ò):OD:=Ę ϶G
def oP(nums:À Ò):À OD:=nums.Ç SJ
def oW(nums:À Ò):À Gc:=nums.Ç λr=>Ï ϶G
def mD(nums:À Ò):ß oP nums OD.er=oW nums:=by
 erw[oP,oW];rw[S1];show K8u λr x=>?_;change(SJ r).er=_;erw[SJ];rw[md,aI]
def kl(nums:À Ò):Ã (oP nums)=nums.À:=ű oP K0
def kX(ts:À Nd)(he:ĕ)(p:é):bS [Ï è]=ģ (oP<|ϟ ts.À):=by
 erw[bS,oy];simp![zx ts he p,aI];generalize o:Ŗ=r';show aX o (ϺL<|∃l C:Ü OD,ρ=[â è,Ň<|oP<|ϟ i,l,C]) (ϲi _) ?_ ?_
 .rintro i d ρ hd ⟨l,C,rfl⟩
  let(e,H,rfl):=kY hd;erw[aO]at H;rw[N2]at H;let(v,V,rfl):=XL.mp H;let hi:=(ϱb V);rw[f6]at hi;let ok:=f9 he i Á;obtain⟨n,N⟩:ϰ6 (á ts):=⟨ts[i]' Á,Û⟩
  let hle:=LX he ok N;rw[uN N]at V;rw[K9R V]at hle;let f:á ϱr=ĥ:=Ô (uN N) V
  let E:ϟ (i+1)=JF (ϟ i) i v:=by rw[cM',f];rfl
  let q:Ã (ϟ i)<=i:=by
   let S:=ok.Ğ;let:∀nums:À Ò,(∀(j:Nat)(r:Ò),ę nums=ϰQ->ϩ6)->nums.À<=Ϲa nums.Ç:=by
    ext nums
    induction nums with
    |nil=>ext _;simp
    |cons x xs ih=>
     ext h;let c:=h 0 x rfl;let s:=ih (ϩV (h (j+1) r (ť hr)));let:1<=x.À:=by
      cases x with|nil=>show Ϡ c|cons a b=>simp
     simp;lia
   let:=Ϧo ((ϩV (ϫ7 hr).1));lia
  cases c:v=Ã (ϟ i)
  .let D:Õ ((v:Int)=Ì ((Ã (ϟ i))))=true:=Z8 Á
   let B:ϱK (Ã (ϟ i)):=c8 Á;simp![mD,kl,D,oW,B];let ap:=ϓ2 [some<|Đ<|ϴO è,some<|ϲu<|oP (ϟ i)++[ϲu []],some<|Đ<|int i,some<|Đ<|int v] (k:=Š) (a:=ό) (xs:=oP (ϟ i)++[ϲu []]) (ys:=[]) (z:=v) (j:=v) (y:=.sh<|Ä i) rfl rfl (cW<|ϳq K9v kl K9e) (by rw[K9a (Ă kl),kl,c,K8c];rfl) rfl Ý;rw[ap];simp![S5];let e1:Ϫ (oP (ϟ i)++[ϲu []]) v (ϲu [Đ<|Ä i])=oP (ϟ<|i+1):=by
    rw[E];erw[JF];rw[Os c,Zdq _ _ (Ă kl),kl,c,K8c];erw[oP];rw[K9i];rfl
   rw[e1];show(_,_,rfl)
  let D:ł (Õ ((v:Int)=Ì ((Ã (ϟ i))))):=K9q Á;let L:v<Ã (ϟ i):=Á
  obtain⟨g,R⟩:∃r,(ϟ i)[v]?=ϰQ:=⟨(ϟ i)[v],ό3⟩
  let m:g.À<=i:=ϱD (BV _ _ _ R) ok.Ğ
  simp![mD,kl,D,oW];let ap:=ϓ2 [some<|Đ<|ϴO è,some<|ϲu<|oP<|ϟ i,some<|Đ<|int i,some<|Đ<|int v] (k:=Š) (a:=ό) (xs:=oP<|ϟ i) (ys:=ß aO g OD.sh) (z:=v) (j:=v) (y:=.sh<|Ä i) rfl rfl (cW<|Ă kl) (by erw[oP];rw[N2,R];rfl) rfl (Ε K0 eS<|K94<|c8 Á);rw[ap];simp![S5];let e1:(oP<|ϟ i).set v (ϲu<|ß aO g OD.sh++[Đ<|Ä i])=oP (ϟ<|i+1):=by rw[E];erw[JF];rw[P3 c,R,sQ];erw[oP];rw[Zby];rfl
  rw[e1];show(_,_,rfl)
 ext ρ' rfl ⟨l,C,rfl⟩;let:İ (Ã (fC<|aO ϱr)):=ϑh eS f6
 rw[this];simp![S5]
def ay(ts:À Nd):À Int:=ts.Ç λn=>Ì n.ç / 2
def jR(ts:À Nd)(h:ϵe)(a:é):bT [Ï è]=ģ (ß ay ts λz=>Đ<|Ä z):=by
 erw[bT,oS];simp![S5];generalize l:Į=r;let e:=aS l ndD (λn:Nd=>Ñ<|Ì n.ç / 2) ts rfl (K94<|aF Á) (by ext n H;let:=aF<|h n H;simp![ndD,this]);subst e;simp![S5];erw[ay];rw[S1];rfl
def eL(nums:À Ò):Ã (oW nums)=nums.À:=ű oW K0
def DL(X:À Gc)(j:Nat)(h:ό2):fi [Ï X,Ä j]=þ ò:=by
 erw[fi,nt];let D:ł (Õ (Ĵ<0)):=K9q Á;let d:ł (Õ (Ì X.À<=Ĵ)):=K9q Á;simp![D,d]
def iL(rs:Ò):À Int:=rs.Ç (ϰU ë)
def nD(rs:Ò):À Gc:=Ê (iL rs) int
def nO(rs:Ò):À OD:=Ê (nD rs) OD.sh
def iP(rs:Ò):Ê (nO rs) OD.er=nD rs:=aI _
def eF(rs:Ò):Ã (nD rs)=rs.À:=ϙX K0
def zo(rs:Ò):Ã (nO rs)=rs.À:=χ nO K0 eF
def Gb(a b:Ò):nO a++nO b=nO ϦG:=by erw[nO,nD,iL];rw[K9i,K9i,K9i]
def vA(a:Ò)(k:Nat):nO a++[Đ<|Ä ë]=nO (a++[k]):=by rw[<-Gb];rfl
def Rp{rs:Ò}{i k:Nat}(h:rs[i]?=Ş):á (nD rs)=Â (Ä ë):=by erw[nD,iL];rw[N2,N2,h];rfl
def F5(ts:À Nd)(q:Nat):Ò:=ž ϳR λj=>Õ<|Ĩ j=Ì q
def Iu(ts:À Nd):fC è=Ā ts.À (ϰU (ϱZ [Ä ë,ndD ϯ])):=by
 apply K9K;ext i;rw[N2];cases hi:i<ts.À
 .rw[ϴj]
  erw[fC,ak];rw[N2,K8S,N2,ϰD];erw[cw];simp[Nu hi]
 rw[Ϙ3 ak,K9c<|Ă Z7];rfl
def HL(L:Ò):(L.Ç (ϰU (Đ<|Ä ë)))=nO L:=by erw[nO,nD,iL];rw[S1,S1];rfl
def eA(ts:À Nd)(q:Nat)(H:Č q)(a:é):aV [Ï è,Ä q]=ģ (nO<|Å q):=by
 erw[aV,lR];let c:=DL è q (Ϩg aH);simp![c];generalize w:Į=rc
 let e:=iS w (ϰU<|ϱZ [Ä ë,ndD ϯ]) (λk=>Õ<|Ĩ k=Ì q) (ϰU<|Ñ ë) ϳR (Iu ts) (Ô Z7<|K94<|aF Á) (by
  ext k h;rw[K9G]at h;let he:=ue h;show(?_,Ţ ?_)
  .simp![ndD,he]
  simp![ndD])
 subst e;rw[HL];simp![S5];rfl
def aG(ns:À Int):À OD:=Ê ō OD.sh
def aW(ns:À Int):ß aG ns OD.er=ō:=aI _
def d7(ns:À Int):Ã (aG ns)=ns.À:=χ aG K0 K0
def jU(f g:Nat->β)(n k:Nat)(H:∀q,q≠k->g q=f q):Ϫ (Ê ϲk f) k (g k)=Ê ϲk g:=by
 apply K9K;ext i;cases hi:k=i
 .subst hi
  cases h:k<n
  .rw[K9I ϱY,N2,ϴ6]
   rfl
  rw[K9c ϳc,K9c ϳc]
 rw[K9E hi,N2,N2];cases h:i<n
 .rw[ϴ6]
  change Â (f i)=Â (g i);rw[H i<|K8g hi]
 rw[K9c ϳc];rfl
def chI(ts:À Nd)(i q:Nat):Ò:=ž Ϥc λj=>Õ<|Ĩ j=Ì q
def HU(ts:À Nd)(i q:Nat):Ã (ϳB i q)<=i:=by
 erw[chI];let:=K8i (λj=>Õ<|Ĩ j=Ì q) Ϥc;rw[Z7]at this;show this
def uQ(ts:À Nd)(i q:Nat):ϳB (i+1) q=ϳB i q++(Ë (Ĩ i=Ì q) [i] []):=by
 erw[chI];rw[K8A,K8o];congr 1;cases h:Ĩ i=Ì q
 .rw[ϰo]
  simp[h]
 rw[ϱB];simp[h]
def xn(ts:À Nd)(he:ĕ)(b:Č 0)(m:é):dZ [Ï è]=ģ (Ā ts.À λq=>ϲu<|nO<|Å q):=by
 erw[dZ,jJ];simp![S5];generalize w:Į=rc;let e:=϶R ndD (λx:Nd=>ϭp) ts rfl (K94<|aF Á) (by ext n h;simp![S5]);subst e;let S:Ι 1:=Ŕ Ý;let f:Ι ((Ì ts.À)):=Ŕ Á;let Z:Ĩ 0=-1:=by
  obtain⟨n,h⟩:ϰ6 (ts[0]?):=⟨ts[0],by simp[b]⟩
  rw[ϴx];show(he 0 n h).1 rfl
 let g:(ts.Ç λx:Nd=>ϲu [])=Ā ts.À (ϺW 1):=by
  let:∀q:Nat,ϳB 1 q=[]:=λq=>by
   rw[uQ,Z,P3 Á];rfl
  apply K9K;ext i;rw[N2,N2];cases hi:i<ts.À
  .rw[ϴj,ϰD]
   change Â (ϲu [])=some (ϲu<|nO<|ϳB 1 i);rw[this];rfl
  rw[K9c Á,K9c<|Ă Z7];rfl
 simp![g,aH,S,f,K7m];generalize L:Ŗ=r';show ϳ1 (ϺL<|∃V:Ü OD,ρ=[â è,Ň<|Ā ts.À (ϺW (i+1)),V]) ζ
 .rintro i d ρ hd ⟨V,rfl⟩
  let(hi,rfl):=϶M;let H:Č (i+1):=Á
  let s:Ì 1+ÿ=ä (i+1):=Á
  rw[s];obtain⟨n,h⟩:ϰ6 (ϺK ts):=⟨ts[i+1],ϫ6⟩
  let l:=he (i+1) n h;obtain⟨k,K⟩:∃k:Nat,n.e=ë:=⟨n.ģ,Ĳ (l.2.1 Á)⟩
  let I:k<i+1:=Ĳ l.2.2
  let g3:=fZ h;rw[K]at g3;let c:=HU ts (i+1) k;let ap:=ϓ2 [â è,Ň<|Ā ts.À (ϺW (i+1)),some<|Ñ<|(ä (i+1))] (k:=ū (Ù 0 ό)<|Ç 0) (a:=ό) (xs:=Ā ts.À (ϺW (i+1))) (ys:=nO<|ϳB (i+1) k) (z:=k) (j:=k) (y:=Ñ<|(ä (i+1))) rfl (by simp![g3]) (cW<|Ϻ K0 Z7) (ϰ8 N2<|K9Z Á) rfl (Ô zo<|K94<|c8 Á);simp![S5];rw[ap];let T:(Ā ts.À (ϺW (i+1))).set k (ϲu<|nO (ϳB (i+1) k)++[Đ<|Ä (ä (i+1))])=Ā ts.À (ϺW ώG):=by
   rw[vA];let e1:ϳB (i+1) k++[i+1]=ϳB ώG k:=by rw[uQ ts<|i+1,ϴx,K,Ĝ]
   rw[e1];show jU (ϺW<|i+1) (ϺW ώG) ts.À k ϸf;change ϲu (nO<|ϳB ώG q)=_;rw[uQ ts<|i+1,ϴx,K,P3 Á,K9d]
  rw[T];simp![S5];show(_,rfl)
 ext ρ' rfl ⟨V,rfl⟩;rw[gF,ê (İ (ĩ (Ì ts.À-1)+1))];simp![S5];rfl
def iZ{ts:À Nd}(he:ĕ)(H:Č 0):0<Ã (ϟ ts.À)/\ϱ0 (Ã (ϟ ts.À)):=by
 let ok:=ϵ5 ì;constructor
 .obtain⟨v,V⟩:∃v,ϱr[0]?=ĥ:=⟨ϱr[0]'(Ϩg f6),Û⟩
  let:=ok.lt 0 v H V;lia
 let:∀nums:À Ò,(∀(j:Nat)(r:Ò),ę nums=ϰQ->ϩ6)->nums.À<=Ϲa nums.Ç:=by
  ext nums
  induction nums with
  |nil=>ext _;simp
  |cons x xs ih=>
   ext h;let c:=h 0 x rfl;let d:=ih (ϩV (h (j+1) r (ť hr)));let:1<=x.À:=by
    cases x with|nil=>show Ϡ c|cons a b=>simp
   simp;lia
 let:=Ϧo ((ϩV (ϫ7 hr).1));rw[ok.sum]at this;show this
def mZ:Fs:=(ao (ϳ6 ϊ)
 (ao (ϫa (ϨD<|È 0 ai) 2<|Es 1<|ϺJ ό (ϳb 2 (d8<|Ç 1) iN) (ϡ<|Œ 0 1 bB) aT (d_<|È 0<|È 1 ai) 2 [])
 Ϥr))
def dG:Fn:=ϲ5 3 mZ
def nA:Fs:=(ao (Ų<|Rs<|ϻL<|È 0 ai)
 (bF<|ϴs (ϓt<|È 0 ai) (ϡ<|Œ 0 1 bB) aT (Rs<|d_<|È 0<|È 1<|ae (ŗ (ŗ (ŗ (Ù 2 Ľ)<|Ù 2 Ŋ) Š)<|Ç 1) ai) 2 [2,1]))
def dF:Fn:=ε 3 nA
def I4(pl:À Int)(k:Nat):Int:=Ó (ϫ pl) 0
def d9{pl:À Int}{k:Nat}(h:k<pl.À):Ť ϻA ë=Â (Ä<|I4 pl k):=de (by rw[N2];erw[I4];rw[ϱj];rfl)
def prD(p:ϻ):Gc:=Ą [Ä (Ì p.1),Ä (Ì p.2)]
def prs(r:Ò):À ϻ:=r.Ċ<|r.ä 1
def BW(r:Ò):Ã ϳH<=r.À:=by
 erw[prs];rw[Zao];lia
def Ht(r:Ò):gq ϶G (τ ϶G 1)=Ê ϳH prD:=by erw[gq,aO,prs];rw[<-Zbt,List.zip_map,S1];rfl
def BP{r:Ò}{p:ϻ}(h:p∈ϳH):p.1∈r/\p.2∈r:=by let(a,b):=p;let:=K7w h;show(Ϻn,Zca Ϥx)
def lK(ts:À Nd):İ (Ã ϸP):=ű ay K0
def rsh(ts:À Nd):(ß ay ts λz=>Đ<|Ä z).map OD.er=ß ay ts int:=Ô S1 (K8u λz x=>ϰn)
def Nb(nums:À Ò)(j:Nat):(Ê (nums.Ö j) List.length).sum<=Ϲa nums.Ç:=by
 let:=Uf (λl=>(Ϲa l.Ç))<|Zes j nums;simp only[K9i,Zbf]at this;lia
def yo(s:À Gc)(d:Gc):ϫz++[ϥZ]=Ê (s++[d]) OD.sh:=ϣ K9i
def hdN(r:Ò):Nat:=Ó (r[0]?) 0
def ltN(r:Ò):Nat:=Ó r.ī 0
def S4:À Ò->À ϻ|[]=>[]|r::rs=>ϳH++S4 rs
def S4'{r rs}:S4 (r::rs)=(ϳH++S4 rs):=rfl
def P6:∀(a b:À Ò),S4 ϦG=S4 a++S4 b:=by
 induction _ with|nil=>ext b;show rfl|cons r rs N3=>ext b;rw[K92,S4',S4',N3 b,K9M]
def oO:∀a:À Ò,Ã (S4 a)<=Ϲa a.Ç:=by
 induction _ with
 |nil=>show ì
 |cons r rs N3=>
  let h:=N3;let H:=BW r;rw[S4',K9v,K9w,Zap];lia
def B6:∀{a:À Ò}{p:ϻ},p∈S4 a->∃r∈a,p∈ϳH:=by
 induction _ with
  |nil=>
   intro p h
   simp[S4]at h
  |cons r rs ih=>
   intro p h
   rw[S4',K9Y]at h;rcases h with h|h
   .exact(r,K9z,h)
   .let(q,H,b):=ih h
    show(q,ě H,b)
abbrev nums(ts:À Nd):À Ò:=ϟ ts.À
def mU{ts:À Nd}(he:ĕ){p:ϻ}(h:p∈S4 Í):Č p.1/\Č p.2:=by let(r,hr,H):=B6 h;let ok:=ϵ5 ì;let(j,J):=Zac hr;let(_,_,R):=ϫ7 J;let(M,Q):=BP H;show(((R _).mp M).1,((R _).mp Q).1)
def mV(ts:À Nd)(he:ĕ)(l:é):dG [Ï è]=.ok (Ę<|ß S4 Í prD):=by
 erw[dG,mZ];let ok:=ϵ5 ì;simp![kX ts he l,mD];change _=R.ok (ϲu<|Ê (ß S4 (ϟ ts.À) prD) OD.sh);generalize ϟ ts.À=nums at ok;generalize h:Ŗ=r';show aX h (λi c=>∃v:Ü OD,c=[â è,some<|Ę<|ß S4 ϫC prD,v]) ζ ?_ ?_
 .rintro i d c hd ⟨v,rfl⟩
  erw[oW]at hd;rw[N2]at hd;let(r,hr,rfl):=ϹW;let(f,m,j):=ok.row i r hr;let g:1<=r.À:=by
   cases r with|nil=>show Ϡ f|cons a b=>simp
  let c1:ϲc ϶G (Â 1) none=τ ϶G 1:=i8 ϶G 1 (Ô eS g);let tk:nums.Ö (i+1)=ϫC++[r]:=ϬQ hr;let H:=BW r;let bound:Ã (S4 ϫC)+r.À<=100:=by
   let A:=oO ϫC;let n:=Nb nums<|i+1;rw[tk,K9i,Zbf,ok.sum]at n;simp only[K9w,K9D,Zap,Zfn]at n;lia
  simp![c1,aI,Ht];generalize w:Į=rc;let e:=϶R prD (λp=>.sh<|prD p) ϳH rfl (K94<|aF Á) (by ext p _;erw[prD];simp![S5]);subst e;let L:Ã (S4 ϫC)+Ã ϳH<=Tk:=K94 (aF Á);simp![L];rw[tk,P6,ϸd (S4 [r]) (ϳH++[]),K9d,K9i,K9i,S1,S1];show(_,rfl)
 ext ρ' rfl ⟨v,rfl⟩;erw[oW];simp![S5];rw[K90 ì]
def bI(ts:À Nd)(Ds:Int)(p:ϻ):Int:=û p.1+û p.2+Ds+1
def Dx(ts:À Nd)(Ds:Int)(p:ϻ):Gc:=Ą [Ä (Ì p.1),Ä (Ì p.2),Ä<|ϱ1 p]
def zM(ts:À Nd)(Ds:Int)(he:ĕ)(l:ϵe)(a:é):dF [Ï è,Ä Ds]=.ok (Ę<|ß S4 Í ό8):=by
 erw[dF,nA];let b:ϲv (Ã (S4 Í)):=by
  let:=oO Í;let ok:=ϵ5 ì;let:İ (Ê Í List.length).sum:=ok.Ğ;lia
 simp![jR ts l a,rsh,mV ts he a,aI];generalize w:Į=rc
 let e:=aS w prD (λp=>.sh<|ό8 p) (S4 Í) rfl (K94<|aF Á) (by
  ext p H;let h:=ϸt H;let g1:=϶8 ϸP p.1 (Ô lK h.1);let g2:=϶8 ϸP p.2 (Ô lK h.2)
  erw[prD,Dx,bI];simp![g1,g2])
 subst e;simp![S5];rw[S1];rfl
def iD(ns:À Int):Gc:=Ï ō
def eQ(l r g:À Int):Gc:=Ą [iD l,iD r,iD g]
def bX{r:Ò}(h:ϩ6):Ť ϶G 0=Â (Ä (ϰC:Nat))/\Ϲ3 ϶G=Â (Ä (ϱ:Nat))/\ϰC∈r/\ϱ∈r:=by
 cases r with
 |nil=>show Ϡ h
 |cons a as=>
  let e:=Zds ϔA;let L:ltN ϵP=(ϵP).getLast ϔA:=Ϗ ltN (Zbg ϔA)
  show(ϭg,?_,K9z,ϫ0 (List.getLast_mem _));rw[L]
  conv=>lhs;rw[<-e]
  erw[aO];rw[K9i];show Ae _ _
def kN{ts:À Nd}(he:ĕ){j:Nat}{r:Ò}(h:ę Í=ϰQ):ϩ6/\∀k∈r,Ć:=by let ok:=ϵ5 ì;let(R,_,a):=ϫ7 h;show(R,ϲ1 ((a k).mp H).1)
def wV{ts:À Nd}(l:ϵe)(k:Nat):Ś 0 (û k) 500:=by
 erw[I4,ay];rw[N2];cases h:ts[k]? with
 |none=>show(Ý,Ý)
 |some n=>
  let:=l n ϶w;change Ś 0 (Ì n.ç / 2) 500;lia
def nL(g:À Int)(j:Nat)(z:Int):Ϧi g j (Ñ z)=aG (g.ß j z):=χ aG Zby Zby
def inB(j:Nat)(n:Nd):Bool:=Õ<|Ĵ<=n.e
def p7(j:Nat)(n:Nd):Nd:=⟨n.e-j,n.l,n.t⟩
def cx(ts:À Nd)(j:Nat):À Nd:=match ę ts with
 |some r=>ϧC::(ϲy).map Ϧq
 |none=>[]
private def wq{ts:À Nd}(h:ϔL ts)(j:Nat):ϔL ϳt:=by
 erw[cx];split
 .rename_i r hr
  ext n H;rcases K8v.mp H with rfl|H
  .show h r<|K9L hr
  let(m,M,rfl):=Ϻb;show h m<|Zca<|(List.takeWhile_sublist<|inB j).subset M
 ext n H;cases H
def AM{ts:À Nd}{j:Nat}(h:ϰg):1<=Ã ϳt/\ϱ0 (j+Ã ϳt):=by
 obtain⟨r,hr⟩:ϰ6 (ę ts):=⟨ts[j]' Á,Û⟩
 erw[cx];rw[hr];let:=(όB (l:=ϷY)).length_le;rw[K8y]at this;simp;lia
theorem Ga(p:ϲ0 α):∀(L:À α)(s:Nat),s<=L.À->(∀k,k<s->∀x,L[k]?=Ď->ϬR)->(∀x,L[s]?=Ď->ł (p x))->Ã (L.takeWhile p)=s
 |[],s,h,_,_=>by simp at h;subst h;rfl
 |a::L,0,_,_,h=>by let:=h a rfl;rw[Zdd,this];rfl
 |a::L,s+1,h,h1,h2=>by
  let:=h1 0 Á a rfl;rw[Zdd,this,Ĝ,K9p,Ga p L s (by simp at h;lia) (λk K x H=>h1 (k+1) Á x H) λx H=>h2 x H]
namespace F
def Di:ϲw (Ã ϭe<=Ã ν):=by
 induction _ with
 |nil=>show ì
 |cons a c r Sc Re=>
  let:=Re;rw[roots',F.pre',K9p,K9p,K9v];lia
def Fx{e:å}:∀(f:F)(a m:Nat)(p:Int),ν=ϯq->ϱa f->p<ϑ->∀k∈ν,e k<ë:=by
 induction _ with
  |nil=>
   ext a m p hp _ _ j h1
   cases h1
  |cons k c r ih1 ih2=>
   intro a m p hp he hpa j J
   let(e1,g,G):=he;obtain⟨M,rfl⟩:∃M,m=M+1:=⟨m-1,by
    let:=Ż hp;rw[F.pre',K9p,K93]at this
    lia⟩
   rw[F.pre',Zco]at hp;let(h,t):=K8B hp;subst h;let l:=Ż t;rw[K9v,K93]at l;let H:M=Ã Φ+Ã Ϻa:=Á
   rw[H,<-Zew]at t;let(C,hr):=Zer t (ϰT K93);rw[F.pre']at J;rcases K8v.mp J with rfl|J
   .lia
   .rcases K9Y.mp J with J|J
    .show ih1 (k+1) _ ë C g Á j J
    .show ih2 (k+1+Ã Φ) _ p hr G Á j J
end F
def Q7{ts:À Nd}{c:F}(p:ç){k:Nat}(h:Ć):Ĩ k<ë:=by
 show F.Fx ϥC 0 ts.À (-1) (Ĥ p.ğ K7s) p.eldF Ý k ?_;rw[p.preF,K9G];show h
def Ic{ts:À Nd}{f:F}(C:ϳI Å f)(d:f≠F.nil)(M:∀k∈ν,Ć):∃g a b,ϸe=ϲS g++[a]/\ϳh/\ϲS g++Å a=ϲS ϶h/\ϳI Å ϶h/\Ã ν=Ã (ϝ ϶h)+1/\(∀k∈ϝ ϶h,Ć)/\∀o:Ò,(o++[a])++F.fM ϶h=o++F.fM f:=by
 let(g,a,b,rfl):=F.snoc f d;rw[F.xF]at C;let(h,H,c,_):=C;show(g,a,b,ϣ F.vW,M a (by rw[F.pre_app];simp[F.pre]),by rw[H,F.vW],(F.xF _ _).mpr ⟨h,c⟩,?_,λk m=>M k ?_,λo=>?_)
 .rw[F.pre_app,F.pre_app,K9v,K9v,F.pre,F.pre,K9d,K9p]
  lia
 .rw[F.pre_app]at m⊢
  rcases K9Y.mp m with m|m
  .simp[m]
  simp[F.pre,m]
 rw[F.Ee,F.Ee,F.fM',F.fM'',K9B];simp
def A9{f:F}(h:ϸe=[]):f=F.nil:=by
 cases f with|nil=>rfl|cons k c r=>cases h
def aA{ts:À Nd}{c:F}(p:ç):ĕ:=by
 ext k n h;let H:=ϲG;let lt:=Q7 p H;rw[ϴx]at lt;let rt:=p.eldF.1;show(ϩj,ϩj,lt)
 .subst z
  rw[ϴx]at rt;show rt
 let P:ϝ ϥC=ϳR:=p.ğ;let:Φ=ϥq 1 ĵ:=by
  erw[F.full]at P;rw[F.pre',K7s,ê (ts.À=ĵ+1),Zco]at P;let:=(K8B P).2;rw[F.pre'',K9d]at this;show this
 let ge:=F.Bs c 0 p.eldF.2.1 (Ϙm this) k (Ϻ this Zbi);rw[ϴx]at ge;show ge
abbrev Lb(ts:À Nd):Prop:=ϔL ts
def yR{ts:À Nd}{k:Nat}(h:Ć):ϸG=Â ϯ:=Ϗ cw ϱj
def Bo{ts:À Nd}{c:F}(p:ç)(h:Ź):Lb ć:=by ext n N;erw[aR]at N;let(k,K,rfl):=XV.mp N;let H:=p.mem.mp K;show h ϯ<|K9L<|yR H
def uH:Fs:=(ao (Δ<|ϰz (Ç 256)<|ñ a_ 2<|Ç 1)
 (ao (ϰl<|Rs<|ϺJ Ľ Ŋ (ϡ<|Œ 0 1 bB) aT (ϳz (ŗ (Ù 0<|Ç 1) ό)<|Ù 1<|Ç 0) 2 [3])
 (ao (ϱo<|ϻK<|È 4 ai)
 (bF<|d_<|È 5<|ĝ (IJ ş ς)))))
def g_:Fn:=ϳM 6 uH
def h_:Fs:=(ao (Ų<|bO<|ĝ (Ç 0))
 (ao (bZ (iR2 (Ç 1)<|ħ<|È 0 ai) Ϧz (ao (ϰl<|Rs<|mE<|ϰr iR1 3 (ŗ (Ù 1 Ľ)<|ū (aj g_<|ae (Ù 2 Ľ)<|ae (Ù 2 Š)<|È 4 ai)<|Ç 0) 1 [2,0,3,1])
 (Ϩ2<|ϻK<|È 4 ai)))
 Ϥs))
def cT:Fn:=ε 5 h_
def jN:Fs:=(ao (Δ<|ħ<|È 0 ai)
 (ao (ϰl<|ϰz (bO<|È 2 ai) Š)
 (ao (bZ (iR3 (ñ cO 3<|Ç 2) (ġ<|Ç 1)<|ġ<|Ç 1) (K2 5) (ao (ϱ3<|Ù 0 ς)
 (ao (ϳ7<|Rs<|mE<|aP (iR2 (ñ a_ 5<|Ç 1) Š) ϰb aT (ϳz (Ù 1 Ľ)<|ū (aj g_<|È 2<|ae (Ù 3 Ľ)<|È 4 ai)<|Ç 0) 1 [4,6,0,1])
 (xj 4 ς<|ϥD<|È 7 ai))))
 (dB 4))))
def dU:Fn:=ϳM 8 jN
def uq:Fs:=(ao (Ų<|Rs<|aj cT<|È 0<|È 1 ai)
 (bF<|d_<|È 2<|ae (Rs<|aj dU<|È 0<|È 1<|ae (Ù 2<|ġ<|Ç 1) ai) ai))
def lC:Fn:=ε 3 uq
def gz(os:À ϰj):À Gc:=os.Ç λp=>Ą [Ä p.1,Ä p.2]
def ask(Ds:Int)(os p:À ϰj):À Int:=Ê (os.Ċ p) λz=>z.1.2+ϥz-z.2.1
def Dm:∀(os s:À ϰj),gq Ϻi (gz s)=Ê (os.Ċ s) λz=>Ą [Ą [Ä z.1.1,Ä z.1.2],Ą [Ä z.2.1,Ä z.2.2]]|[],_=>rfl|_::_,[]=>rfl|p::os,q::s=>by let:=Dm os s;erw[gz,gq]at this⊢;simp only[K9w,Zeb];rw[this]
theorem FH(os s:À ϰj)(Ds:Int)(o:ϒ7)(P:1<=s.À)(B:ϲv os.À):∃(m:Int)(l:Nat),g_ [Ï Ϻi,Ï<|gz s,Ä Ds]=þ (Ą [Ä m,Ä l])/\
  (∀z∈ϴc os s,z<=m)/\(ϴc os s)[l]?=some m/\∀j,j<l->ę (ϴc os s)≠some m:=by
 erw[g_,uH];simp![S5];generalize L:Į=r;let e:=aS L (λz:ϰj×ϰj=>Ą [Ą [Ä z.1.1,Ä z.1.2],Ą [Ä z.2.1,Ä z.2.2]]) (λz=>Ñ<|z.1.2+ϥz-z.2.1) (os.Ċ s) (Dm os s) (Ô Zao<|K94<|aF Á) (by ext z _;simp![S5]);subst e;let g:(Ê (os.Ċ s) λz:ϰj×ϰj=>Đ<|Ä<|z.1.2+ϥz-z.2.1).map OD.er=Ê (ϴc os s) int:=ϪS ask (λz x=>ϰn)
 obtain⟨a,as,A⟩:∃a as,ϴc os s=ϵP:=by
  cases h:ask Ds os s with
  |nil=>
   let:=Ż h;erw[ask]at this;rw[K0,Zao,K8U]at this;lia
  |cons a as=>show(a,as,rfl)
 let(M,Q):=se as a;let hi:yY (int a::as.Ç int) (Ä ϥX)=.ok (Ñ ((ϵP).idxOf ϥX:Nat)):=MM ϵP _ M;show(ϥX,(ϵP).idxOf ϥX,?_,?_,?_,?_)
 .simp![g,A,E_,hi]
 .rw[A];show Q
 .rw[A]
  let J:=ϏH;rw[϶Q,Zcf J]
 rw[A];ext j J e;let(b,H):=ZB.mp e;let:=List.not_of_lt_findIdx (p:=(· ==ϥX)) J;rw[H]at this;simp at this
def Ka{os:À ϰj}{k:Nat}{p:ϰj}(h:ϫ os=ϲm):Ť Ϻi ë=Â (Ą [Ä p.1,Ä p.2]):=de (by erw[gz];rw[N2,h];rfl)
def PN{Ds:Int}{os s:À ϰj}{k:Nat}{p q:ϰj}(h:ϫ os=ϲm)(H:s[k]?=Â q):ϫ (ϴc os s)=Â (p.2+ϥz-q.1):=by
 erw[ask];rw[N2,Zan (z:=(p,q)) |>.mpr ⟨h,H⟩];rfl
abbrev Ol:=À ϰj
def cK(O:À Ol):À Gc:=O.Ç λos=>Ï Ϻi
def sG(O:À Ol):ϻ8 (Ã ϳG):=ű cK K0
def rD{O:À Ol}{k:Nat}{os:Ol}(h:O[k]?=Â os):Ť ϳG ë=Â (Ï Ϻi):=de (ϧk cK)
def okO(O:À Ol):Prop:=(∀os∈O,Ś 1 os.À 100)/\Ś 1 O.À 100
def dist(Ds:Int)(os p:Ol):Int:=match ϴc os p with
 |a::as=>ϥX
 |[]=>0
def Gw{Ds:Int}{os p:Ol}(H:ϒ7)(b:ϓQ):∃a as,ϴc os p=ϵP:=by
 cases h:ask Ds os p with
 |nil=>
  let:=Ż h;erw[ask]at this;rw[K0,Zao,K8U]at this;lia
 |cons a as=>show(a,as,rfl)
def AI(os p:Ol)(Ds:Int)(j:ϒ7)(P:ϓQ)(B:ϲv os.À):∃l:Nat,g_ [Ï Ϻi,Ï<|gz p,Ä Ds]=þ (Ą [Ä<|ϲR os p,Ä l]):=by
 let(m,l,e,h,H,_):=FH os p Ds j P B;let(a,as,A):=ϔR j P;let:ϲR os p=m:=by erw[dist];rw[A]at h H⊢;let(k,K):=se as a;show Zdh (h _ k)<|K _ Ϧs
 rw[this];show(l,e)
def jE:À Int->Int|[]=>0|a::as=>ϥX
def zW{xs:À Int}(h:ϩC):lP [Ï ϓm]=.ok (Ñ<|jE xs):=by
 cases xs with|nil=>show Ϡ h|cons a as=>show E_ a as
def vx(Ds:Int)(os p:Ol):ϲR os p=jE (ϴc os p):=by erw[dist,jE];cases ask Ds os p<;>rfl
def Gy(Ds:Int)(O:À Ol)(E:À Int)(k:Nat):À Int:=Ê (range k) λj=>E[j]?.getD 0+ϲR ϴF (O[k]?.getD [])
def kA(Ds:Int)(O:À Ol):Nat->À Int|0=>[0]|k+1=>ϭ k++[jE<|όP (ϭ k)<|k+1]
def kA'{Ds O k}:ϭ (k+1)=(ϭ k++[jE<|όP (ϭ k)<|k+1]):=rfl
def oo(Ds:Int)(O:À Ol):∀k,Ã (ϭ k)=k+1:=by
 induction _ with|zero=>show rfl|succ k N3=>rw[kA',K9v,N3];rfl
def A3(ns:À Int)(z:Int):aG ns++[Đ<|Ä z]=aG (ns++[z]):=ϰZ aG K9i K9i
def int_at{ns:À Int}{k:Nat}{z:Int}(h:ϫ ns=Â z):Ť ō ë=Â (Ä z):=de (by rw[N2,h];rfl)
def IP(ns:À Int):(aG ns).all ϻa=true:=by erw[aG];rw[K7x];ext x H;let(d,h,rfl):=Ϻb;let(n,_,rfl):=ϥ8;rw[bc];rfl
def AK(ns:À Int):RF (϶J ns)=ģ (aG ns):=by
 change(Ë ((aG ns).all ϻa=true) (R.ok (OD.ol<|ß aG ns λy=>.sh y.er)) Î)=_;rw[IP,Ĝ];congr 2;erw[aG];rw[S1];show ϻ6 (by change Đ (OD.sh x).er=_;rw[bc])
def NB{Ds:Int}{O:À Ol}{E:À Int}{k j:Nat}{z:Int}{os p:Ol}(J:E[j]?=Â z)(h:O[j]?=Â os)(H:O[k]?=ϲm):E[j]?.getD 0+ϲR ϴF (O[k]?.getD [])=z+ϲR os p:=by rw[J,h,H];rfl
def Hs{Ds:Int}{O:À Ol}{E:À Int}{k:Nat}(h:0<k):Gy Ds O E k≠[]:=by
 ext z;let:=Ż z;erw[Gy]at this;simp at this;lia
def zD{α:Type}(L:À α)(f:ϴy α):(L.Ç λx=>Đ<|Ä<|f x)=aG (L.Ç f):=ϰZ aG S1 S1
def Ek(O:À Ol)(Ds:Int)(R:ϸS):cT [Ï ϳG,Ä Ds]=ģ (aG<|ϭ ĺ):=by
 erw[cT,h_];let(o,N,b):=R;let S:Ι 1:=Ŕ Ý;let c:Ι ((Ì O.À)):=Ŕ Á;simp![sG,S,c,K7m];generalize L:Ŗ=r';show ϳ1 (λi a=>∃C v:Ü OD,a=[â ϳG,some<|Ñ Ds,Ň<|aG<|ϭ i,C,v]) ((ϲi _))
 .rintro i d a hd ⟨C,v,rfl⟩
  let(hi,rfl):=϶M;let I:Ì 1+ÿ=ä (i+1):=Á
  rw[I];let f:Ι ((ä (i+1))):=Ŕ Á;simp![aW,f];generalize w:Į=rc
  let e:=aS w (ϳk<|0+ë) (λj=>Ñ<|(ϭ i)[j]?.getD 0+ϲR ϴF Ϛm) (ϱQ<|i+1) (ϣ K9n) (Ô Z7<|K94<|aF Á) (by
   ext k K;rw[K9G]at K;obtain⟨z,Z⟩:∃z,ϫ (ϭ i)=Â z:=⟨(ϭ i)[k]'(Ô oo K),Û⟩
   obtain⟨os,h⟩:∃p,O[k]?=ϲm:=⟨O[k]' Á,Û⟩
   obtain⟨s,H⟩:∃p,O[i+1]?=ϲm:=⟨O[i+1]' Á,Û⟩
   let(l,n):=AI os s Ds (o os ϶w).1 (o s Ϧs).1 (Ĳ (o os ϶w).2)
   let g1:=int_at Z;let g2:=rD h;let g3:=rD H;rw[K8R,NB Z h H];simp![g1,g2,g3,n])
  subst e;rw[zD];let hg:=zW (ϕW (ϭ i) (i+1) Á);let A:Ā (i+1) (λj=>(ϭ i)[j]?.getD 0+ϲR ϴF Ϛm)=όP (ϭ i) (i+1):=rfl;rw[A];let B:ϱK (Ã (aG<|ϭ i)):=Ε d7 oo (c8 Á)
  simp![AK,aW,hg,B,A3];show(_,_,rfl)
 ext ρ' rfl ⟨C,v,rfl⟩;rw[gF];simp![S5];rw[ê (ĩ (Ì O.À-1)=ĺ)]
def DK(ns:À Int)(j:Nat)(z:Int):Ϧi ns j (Ñ z)=aG (ns.ß j z):=by erw[aG];rw[S1,S1,Zby];rfl
def gv(l:À Int)(k:Nat):Int:=l[k]?.getD 0
def dO(Ds:Int)(O:À Ol)(i j:Nat):Int:=ϲR (O[i]?.getD []) ϴF
def c_{xs:À Int}(h:ϩC):jE xs∈xs/\∀z∈xs,z<=jE xs:=by
 cases xs with|nil=>show Ϡ h|cons a as=>show se as a
def LW(h:ϩC):∃m,mN [Ï ϓm]=þ (Ä m)/\m∈xs/\∀z∈xs,m<=z:=by
 cases xs with|nil=>show Ϡ h|cons a as=>show(_,L8 a as,vL as a)
def Kl(Ds:Int)(O:À Ol)(m:Nat):∀c j,j<=m->(ϭ<|m+c)[j]?=ę (ϭ m):=by
 induction _ with
 |zero=>ext _ _;show rfl
 |succ c N3=>
  ext j h;rw[<-N3 j h,<-Nat.add_assoc];change ę (ϭ (m+c)++_)=_;rw[K9V<|Ă oo]
def Kq(Ds:Int)(O:À Ol)(n:Nat)(N:0<n):IsE n ϳv (gv<|ϭ<|n-1):=by
 let pre:∀m j,j<=m->m<n->gv (ϭ<|n-1) j=gv (ϭ m) j:=λm j h b=>by
  erw[gv];let:=Kl Ds O m (n-1-m) j h;rw[ê (m+(n-1-m)=n-1)]at this;rw[this]
 show(?_,λk a H=>?_)
 .rw[pre 0 0 ì N]
  rfl
 obtain⟨m,rfl⟩:ϔz:=⟨k-1,Á⟩
 let ev:gv (ϭ<|n-1) (m+1)=jE (όP (ϭ m)<|m+1):=by
  rw[pre (m+1) (m+1) ì H];erw[gv];change(ϭ m++_)[m+1]?.getD 0=_;rw[K9a (Ă oo),oo,K8c];rfl
 let(S,w):=c_ (ϕW (ϭ m) (m+1) Á);rw[ev];show(ϳo,?_)
 .apply w _ ?_
  erw[Gy];rw[XV];show(j,ϨJ,ϣ (pre m j Á Á))
 erw[Gy]at S;rw[XV]at S;let(j,J,e):=S;rw[K9G]at J;show(j,J,?_);rw[pre m j Á Á];show e.Ï
def LI(n:Nat)(d:Nat->å)(last:Int)(m:Nat)(l:À Int):Prop:=l.À=n/\ϳK (n-1)=last/\∀k,m<=k->ϕM (ϳK k) (ϳK j)
def VF{l:À Int}{m:Nat}{v:Int}(h:m<l.À)(k:Nat):gv (l.ß m v) k=if k=m then v else ϳK k:=by
 erw[gv];cases H:k=m
 .subst H
  rw[Ĝ,K9I h];rfl
 rw[ϲb,K9E λz=>H z.Ï]
def Po{n:Nat}{d:Nat->å}{last:Int}{m:Nat}{l:À Int}{v:Int}(h:LI n d last (m+1) l)(M:m+1<n)(H:v∈Ā (n-(m+1)) λk=>ϳK ϴe-d m ϴe)(i:∀z∈Ā (n-(m+1)) λk=>ϳK ϴe-d m ϴe,v<=z):LI n d last m (l.ß m v):=by
 let(a,b,c):=h;let s:=VF (v:=v) (ê<|m<l.À);show(ϔe K8z,?_,λk o K=>?_)
 .rw[s,P3 Á]
  show b
 cases e:k=m
 .subst e
  show(λj J f=>?_,?_)
  .rw[s,s,Ĝ,P3 Á]
   show i _ ?_;rw[XV];show(j-(k+1),϶u Á,ϰT (ê (k+1+(j-(k+1))=j)))
  rw[XV]at H;let(q,Q,e):=H;rw[K9G]at Q;show(k+1+q,Á,Á,?_);rw[s,s,Ĝ,P3 Á];show e.Ï
 let(c1,j,L,C,g):=c k Á K;show(λj J f=>?_,j,L,C,?_)
 .rw[s,s,ϲs,P3 Á]
  show c1 j J f
 rw[s,s,ϲs,P3 Á];show g
def IB(O:À Ol)(Ds last:Int)(R:ϸS):∃s:À Int,ϓR ϳv last 0 s/\dU [Ï ϳG,Ä Ds,Ä last]=ģ (aG s):=by
 erw[dU,jN];let(j,N,b):=R;let o:cX (Ï [Ä last]) (Ä (Ì O.À))=ģ (aG<|ϳ2 O.À last):=by
  rw[xA _ _ Á];erw[aG];simp only[Zbk]
 let r:=λ(ρ:L3.Env)(h:(F4 cO (aa 3)<|eC<|.int 2) ρ=.ok (.sh<|.int<|(O.À:Int)-2))=>Pb (fa:=ñ cO 3<|Ç 2) (fb:=ġ<|Ç 1) (fc:=ġ<|Ç 1) (ρ:=ρ) (x:=Ì O.À-2) (y:=-1) (z:=-1) h rfl rfl rfl (Ŕ Á) (Ŕ Ý);simp![sG,o];rw[r _ rfl];simp![S5];generalize L:Ŗ=r';let T:ϓR ϳv last (ĺ-0) (ϳ2 O.À last):=by
  show(Û,?_,λk h a=>Á);erw[gv];rw[K8Z,Os Á];rfl
 show ϳ1 (ϺL<|∃(s:À Int)(v v6 V:Ü OD),ϓR ϳv last (ĺ-i) s/\ρ=[â ϳG,some<|Ñ Ds,Ĕ<|Ä last,some<|Ñ O.À,Ň<|aG s,v,v6,V]) ⟨ϳ2 O.À last,_,_,_,T,rfl⟩
 .rintro i d ρ hd ⟨s,v,v6,V,hli,rfl⟩
  let S:=hli.1;let(hi,rfl):=uY hd;obtain⟨m,f⟩:∃m:Nat,Ì O.À-2-ÿ=ϴ0:=⟨ĩ (Ì O.À-2-ÿ),Á⟩
  let M:m+1<O.À:=Á
  rw[f];obtain⟨os,h⟩:∃p,O[m]?=ϲm:=⟨O[m]' Á,Û⟩
  let g1:=rD h;let em:ϴ0+1=ä (m+1):=Á
  let t:Ι ((ä (m+1))):=Ŕ Á;let s4:Ι ((Ì O.À)):=Ŕ Á;simp![g1,em,t,s4,K7m,aW];generalize w:Į=rc;let c:ĩ (Ì O.À-ä (m+1))=ϑT:=Á
  let e:=aS w (ϳk<|ä (m+1)+ë) (λk=>Ñ<|ϱA ϴe-ϳv m ϴe) (ϱQ ϑT) (by rw[c];rfl) (Ô Z7<|K94<|aF Á) (by
   ext k K;rw[K9G]at K;let E:ä (m+1)+ë=ä ϴe:=Á
   rw[E];obtain⟨z,Z⟩:∃z,s[ϴe]?=Â z:=⟨s[ϴe]' Á,Û⟩
   obtain⟨P,a⟩:∃p,O[ϴe]?=ϲm:=⟨O[ϴe]' Á,Û⟩
   let(l,g):=AI os P Ds (j os ϶w).1 (j P<|K9L a).1 (Ĳ (j os ϶w).2);let g1:=int_at Z;let g3:=rD a;let q:ϱA ϴe=z:=by erw[gv];rw[Z];rfl
   let Q:ϳv m ϴe=ϲR os P:=by erw[dO];rw[h,a];rfl
   rw[q,Q];simp![g1,g3,g])
  subst e;rw[zD];let(u,n,H,hle):=LW (xs:=Ā ϑT λk=>ϱA ϴe-ϳv m ϴe) (by
   ext z;let:=Ż z;simp at this
   lia)
  let I:ixN (Ã (aG s)) ϴ0=some m:=cW (Ă d7);let nx:=Po (Ô (ê (m+1=ĺ-i)) hli) M H hle;rw[ê (m=ĺ-(i+1))]at nx;simp![AK,aW,n,yS I,DK];rw[ê (m=ĺ-(i+1))];show(_,_,_,_,nx,rfl)
 ext ρ' rfl ⟨s,v,v6,V,hli,rfl⟩;simp![S5];show(s,?_,rfl);let:ĺ-Ã (yz (Ì O.À-2) (ĩ (Ì O.À-2 - -1)))=0:=by
  erw[yz];rw[K0,Z7];lia
 rw[this]at hli;show hli
def D_{ls:À Int}{k:Nat}(h:k<ls.À):ϫ ls=Â (ϭo k):=Ϗ gv ϱj
def HQ{ls:À Int}{n:Nat}(h:ls.À=n)(N:0<n):Ϲ3 (ls.Ç int)=some (Ä<|ϭo<|n-1):=by
 let H:ϵa ls:=ϖ4
 let e:ϭo (n-1)=ls.getLast H:=by
  let a:=D_ (ls:=ls) (k:=n-1) Á;rw[List.getLast_eq_getElem];rw[Nu Á]at a;let b:=ϦR;rw[<-b];congr 1;lia
 rw[e]
 conv=>lhs;rw[<-Zds H,K9i]
 show Ae _ _
def QU(O:À Ol)(Ds:Int)(R:ϸS):∃s l:À Int,ϻ8 s.À/\Ϸk O.À/\IsE O.À ϳv ϱA/\IsL O.À ϳv (ϱA ĺ) ϳK/\lC [Ï ϳG,Ä Ds]=þ (Ą [Ï Ϩu,Ï ϲH]):=by
 let H:=ϺE;let le:ϻ8 (Ã (ϭ ĺ)):=Ă oo
 let Z:=HQ le Á;let(l,a,e):=IB O Ds (gv (ϭ ĺ) ĺ) R;show(_,l,le,a.1,Kq Ds O O.À Á,(a.2.1,϶U (a.2.2 k ϰS h)),?_);erw[lC,uq];simp![Ek O Ds R,aW,Z,e]
def iO:Fs:=(ao (Ų ϊ)
 (ao (bZ (iR1<|ϻK<|ĝ (ϰr bY 0 (ħ<|È 0 ai) 1 [])) Ϧz (ao (ϰl<|Rs<|aP (iEn Ľ) (ϡ<|Œ 0 1 bB) (aD<|ñ gLt 2<|ħ<|È 1 ai) Ľ 2 [3])
 (ao (ϱo<|ϥD<|ae (ϰr bY 4 (ŗ (Ù 1 Ľ)<|ū (ū (Ù 2 Ľ) Š)<|Ç 0) 1 [1,0,3]) ai)
 (ao (ϱ3<|ϻK<|ae (ϰr bY 4 (ŗ (Ù 1 Ľ)<|ū (ū (Ù 2 Ľ) Š)<|Ç 1) 1 [1,0,3]) ai)
 (Ϩ2<|d_<|È 5<|È 6 ai)))))
 Ϥs))
def cC:Fn:=ε 7 iO
def kG:Fs:=(ao (Ų<|Rs<|aj lC<|È 0<|È 1 ai)
 (ao (Δ<|Ϧa (ū (Ù 2<|Ç 0)<|ġ<|Ç 1)<|Ç 2)
 (bF<|ϺJ (Ù 2<|Ç 0) (Ù 2<|Ç 1) (ϡ<|Œ 0 1 bB) aT (ϳz (Ϧa (ñ a_ 0 Ŋ)<|Ç 2) ό) 2 [3])))
def bw:Fn:=ε 4 kG
def wu:Fs:=(ao (Ų<|Ϧ9 (Ç 0)<|ħ<|È 0 ai)
 (ao (Δ<|ϴs (ϻL<|È 0 ai) ϰb aT (bO<|ae (Rs<|d_<|ae (ϰz (ġ<|Ç 256) Ľ)<|ĝ (ϰz (Ç 256) Ľ)) ai) 1 [])
 (ao (bZ (iR3 (ϳz (ħ<|È 0 ai)<|Ç 1) (ġ<|Ç 1)<|ġ<|Ç 1) ϩT (ao (ϱo<|Rs<|Ϸ9<|È 0<|È 4 ai)
 (sIf (aD<|ϵB (ħ<|È 5 ai)<|Ç 0) (ao (Al 3 5<|ϱ3<|Rs<|Gd 3 5)
 (ao (ϳ7<|Rs<|aj bw<|È 6<|È 1 ai)
 (ao (bZ (iZp ς ϦO) (ϡ<|Œ 8 9 bB)<|ϯe 2 Ϫl)
 (t_ 3 ş<|ϔc<|È 6<|È 7 ai)))) sNx)))
 (ύS<|ϬK<|bF<|d_<|È 2<|È 3 ai))))
def nR:Fn:=ε 10 wu
def eT:À Int->Int|[]=>0|a::as=>Ca a as
def rE{xs:À Int}(h:ϩC):mN [Ï ϓm]=.ok (Ñ<|eT xs):=by
 cases xs with|nil=>show Ϡ h|cons a as=>show L8 a as
def dS{xs:À Int}(h:ϩC):eT xs∈xs/\∀z∈xs,eT xs<=z:=by
 cases xs with|nil=>show Ϡ h|cons a as=>show vL as a
def oA(O:À Ol)(j l:Nat):ϰj:=Ó (ϴF[l]?) (0,0)
def l7(O:À Ol)(j:Nat):Nat:=(Ã ϴF)
def there(O:À Ol)(l:Nat):Ò:=ž Ϫ8 λj=>Õ<|l<Ϻo
def jl(O:À Ol)(T:À Int)(l:Nat):ϰj:=(eT<|Ê (ϲP l) λj=>gv T j+(϶S j l).1,jE<|Ê (ϲP l) λj=>gv T j+(϶S j l).2)
def mxN(O:À Ol):Nat:=(jE<|O.Ç λo=>(Ì o.À)).toNat
def jo(O:À Ol)(T:À Int):Ol:=Ā ϴn<|jl O T
def rB(os:Ol):Ã Ϻi=os.À:=by erw[gz];rw[K0]
def uD{O:À Ol}(h:O≠[]):jE (O.Ç λo=>(Ì o.À))=Ì ϴn/\(∃j,ϨC/\Ϻo=ϴn)/\Η O.À (Ϻo<=ϴn):=by
 let(S,w):=c_ (xs:=O.Ç λo=>(Ì o.À)) λz=>h ϶V;let(o,H,E):=XV.mp S;let e:jE (O.Ç λo=>(Ì o.À))=Ì ϴn:=by erw[mxN];rw[<-E];rfl
 show(e,?_,ϳo)
 .let(j,J,a):=Zal H
  show(j,J,?_);erw[l7];rw[϶Q,a];change o.À=_;let:Ì o.À=Ì ϴn:=by rw[<-e];show E
  lia
 let:=w (Ϻo:Int)<|ϲo ⟨O[j],Zah J,Ϗ l7 ϶Q⟩;rw[e]at this;lia
def n6{O:À Ol}{l:Nat}(h:O≠[])(a:l<ϴn):ϲP l≠[]:=by
 obtain⟨_,⟨j,J,E⟩,_⟩:=uD h;ext z;let:j∈ϲP l:=ϳy ⟨ϨJ,Z8 Á⟩;rw[z]at this;cases this
def JZ(O:À Ol):fC ϳG=Ā O.À (ϤQ (ϱZ [Ä Ĵ,Ï<|gz ϴF])):=by
 apply K9K;ext i;rw[N2];cases hi:i<O.À
 .rw[ϴj]
  erw[fC,cK];rw[N2,K8S,N2,ϰD];simp[Nu hi]
 rw[Ϙ3 cK,K9c<|Ă Z7];rfl
def C7(O:À Ol){j:Nat}(h:ϨC):Ť ϳG Ĵ=some (Ï<|gz ϴF):=Ô ϱj (rD ϱj)
def Hf(os:Ol){l:Nat}(h:l<os.À):Ť Ϻi (l:Int)=Â (Ą [Ä (Ó (os[l]?) (0,0)).1,Ä (Ó (os[l]?) (0,0)).2]):=Ô ϱj (Ka ϱj)
def Bw{st:À Int}{j:Nat}(h:j<st.À):Ť Ϩd Ĵ=Â (Ä<|ϴo j):=int_at<|D_ h
def aae(L:Ò):ß L.Ç ((ϰU (Đ<|Ä ë))) OD.er=aO L:=by erw[aO];rw[S1];show Ϥ4
def Il(os:Ol)(p:ϰj):Ê Ϻi OD.sh++[Đ<|Ą [Ä p.1,Ä p.2]]=(gz<|os++[p]).map OD.sh:=by erw[gz];rw[K9i,K9i];rfl
def Jm(O:À Ol)(st:À Int)(R:ϸS)(s:ϻ8 st.À):cC [Ï ϳG,Ï Ϩd]=.ok (Ę<|gz<|jo O st):=by
 erw[cC,iO];let(H,N,k):=R;let n:O≠[]:=λz=>by rw[z]at N;simp at N
 let(x,X,p):=uD n;let q:ϴn<=100:=by
  let(j,J,E):=X;let:=(H O[j]<|Zah J).2;erw[l7]at E;rw[϶Q]at E;let f:Ã (O[j])=ϴn:=E;lia
 simp![S5];generalize w:Į=rc;let e:=϶R (λo:Ol=>Ï<|gz o) (λo:Ol=>Ñ<|(Ì o.À)) O rfl (K94<|aF Á) (by ext o H;simp![rB]);subst e;let g:ß O.Ç (λo:Ol=>Đ<|Ä (Ì o.À)) OD.er=ß O.Ç (λo:Ol=>(Ì o.À)) int:=Ε S1 S1 (K8u λo x=>ϰn)
 let hg:=zW (xs:=O.Ç λo:Ol=>(Ì o.À)) λz=>n ϶V;rw[x]at hg;let S:Ι (ϴn:Int):=Ŕ Á;simp![g,hg,S];generalize L:Ŗ=r';show ϳ1 (λi c=>∃C v V v6:Ü OD,c=[â ϳG,â Ϩd,some<|Ę<|gz<|Ê Ϥc ϥO,C,v,V,v6]) ϑp
 .rintro i d c hd ⟨C,v,V,v6,rfl⟩
  let(hi,rfl):=϶M;rw[K9n]at hi;rw[K8R];let T:=n6 n hi;let t:∀j∈ϲP i,ϨC/\i<Ϻo:=λj J=>ϩH (K89.mp J) (Ϸw Ϻn,ϷP Ϥx)
  let tl:ϲv (Ã (ϲP i)):=by
   let:=K8i (λj=>Õ<|i<Ϻo) Ϫ8;rw[Z7]at this;erw[there];lia
  simp![S5];generalize w:Į=rc
  let e:=iS w (ϤQ<|ϱZ [Ä Ĵ,Ï<|gz ϴF]) (λj=>Õ<|i<Ϻo) (ϤQ<|Ñ Ĵ) Ϫ8 (JZ O) (Ô Z7<|K94<|aF Á) (by
   ext j J;let D:Õ (ÿ<Ì ((Ã ϴF)))=Õ (i<Ϻo):=by
    erw[l7];cases h:i<Ã ϴF
    .rw[Z8 h,Z8 Á]
    rw[ϷA,K9q Á]
   show(?_,Ţ ?_)
   .simp![rB,D]
   simp![S5])
  subst e;clear w;let G:(ž Ϫ8 λj=>Õ<|i<Ϻo)=ϲP i:=rfl;rw[G];simp![aae];generalize w:Į=rc
  let e:=aS w (ϤQ<|int Ĵ) (λj=>Ñ<|ϴo j+(϶S j i).1) (ϲP i) rfl (K94<|aF Á) (by
   ext j J;let(a,b):=t j J;let g1:=Bw (st:=st) (j:=j) Á
   let g2:=C7 O a;let g3:=Hf ϴF (l:=i) b;simp![g1,g2,g3];rfl)
  subst e;clear w;let m:=rE (xs:=Ê (ϲP i) λj=>ϴo j+(϶S j i).1) λz=>T ϶V;let M:=zW (xs:=Ê (ϲP i) λj=>ϴo j+(϶S j i).2) λz=>T ϶V;rw[zD];simp![aW,m];generalize w:Į=rc
  let e:=aS w (ϤQ<|int Ĵ) (λj=>Ñ<|ϴo j+(϶S j i).2) (ϲP i) rfl (K94<|aF Á) (by
   ext j J;let(a,b):=t j J;let g1:=Bw (st:=st) (j:=j) Á
   let g2:=C7 O a;let g3:=Hf ϴF (l:=i) b;simp![g1,g2,g3];rfl)
  subst e;clear w;rw[zD];let B:ϱK (Ã (gz<|Ê Ϥc ϥO)):=ϩN rB K0 Z7 (c8 Á)
  simp![aW,M,B];let sn:=Il (Ê Ϥc ϥO)<|ϥO i;rw[show Ê Ϥc ϥO++[ϥO i]=Ā (i+1) ϥO by rw[K8A,K9i];rfl]at sn;rw[<-sn];show(_,_,_,_,rfl)
 ext ρ' rfl ⟨C,v,V,v6,rfl⟩;rw[gF,K9n];simp![S5];rfl
def Fp(O:À Ol)(T:À Int):Ã (jo O T)=ϴn:=χ jo K0 Z7
def FX{e l:À Int}{n:Nat}(he:e.À=n)(a:l.À=n):gq (e.Ç int) ϲH=Ê ϲk λk=>ϱZ [Ä<|gv e k,Ä<|ϳK k]:=by
 apply K9K;ext i;erw[gq];rw[N2,N2];cases hi:i<n
 .rw[ϴj,(Zan (z:=(int<|gv e i,int<|ϳK i))).mpr ⟨ϰ8 N2 (D_ Á),ϰ8 N2 (D_ Á)⟩]
  rfl
 rw[K9c ϳc,K9c ϳc];rfl
structure IsSt(Ds:Int)(O:À Ol)(es ls st:À Int):Prop where
 le:ϻ8 es.À
 ll:ϻ8 ls.À
 lst:ϻ8 st.À
 isE:IsE O.À ϳv (gv es)
 isL:IsL O.À ϳv (gv es ĺ) ϭo
 eq:∀k,϶7->ϴo k=(gv es k+ϭo k) / 2-gv es ĺ / 2
def IV(O:À Ol)(Ds:Int)(R:ϸS):∃s l T:À Int,ύG s l T/\bw [Ï ϳG,Ä Ds]=ģ (aG T):=by
 let(s,l,h,H,f,c,g):=QU O Ds R;let n:=ϺE;show(s,l,Ā O.À λk=>(ϱA k+ϳK k) / 2-ϱA ĺ / 2,(h,H,Û,f,c,λk K=>ϰZ gv N2 (K9Z K)),?_);erw[bw,kG];let a:=HQ h Á;let b:=R.2.2;simp![g,aW,a,FX h H];generalize w:Į=rc;let e:=϶R (ϰU<|ϱZ [Ä<|ϱA k,Ä<|ϳK k]) (λk=>Ñ<|(ϱA k+ϳK k) / 2-ϱA ĺ / 2) Ϫ8 rfl (Ô Z7<|K94<|aF Á) (by ext k K;simp![S5]);subst e;rw[zD];simp![S5]
open Classical in
def stF(Ds:Int)(O:À Ol):À Int:=ϩo (∃T:À Int,bw [Ï ϳG,Ä Ds]=ģ (aG T)) ϬI []
def LK{a b:À Int}(h:Ϻf aG):a=b:=by
 let:=Ϲq OD.er h;rw[aW,aW]at this;let inj:∀x y:À Int,ϔB=y.Ç int->x=y:=by
  ext x
  induction x with
  |nil=>ext y Y;cases y with|nil=>rfl|cons b y=>simp at Y
  |cons a x ih=>
   ext y Y;cases y with
   |nil=>simp at Y
   |cons b y=>
    simp at Y;rw[Y.1,ih y<|ť Y.2]
 show inj a b this
def p8{O:À Ol}{Ds:Int}(o:ϸS):(∃e l,ύG e l<|Ŭ O)/\bw [Ï ϳG,Ä Ds]=ģ (aG<|Ŭ O):=by
 let(e,l,T,h,H):=IV O Ds o;let hex:∃T:À Int,bw [Ï ϳG,Ä Ds]=ģ (aG T):=⟨T,H⟩;let S:bw [Ï ϳG,Ä Ds]=ģ (aG<|Ŭ O):=by erw[stF];rw[dif_pos hex];show Zab hex
 let:Ŭ O=T:=by rw[H]at S;show(LK<|OD.ol.inj<|R.ok.inj S).symm
 show((e,l,Ϲu this),S)
def ini(ts:À Nd)(k:Nat):Ol:=(ϐo (Ļ k))
def nQ(out:À Ol)(k:Nat):Ol:=Ó (ϫ out) []
def bC(ts:À Nd)(out:À Ol)(k:Nat):À Ol:=Ê (Å k)<|nQ out
def joB(ts:À Nd)(Ds:Int)(out:À Ol)(k:Nat):Ol:=jo (ϰB out k)<|Ŭ<|ϰB out k
def Ey(ts:À Nd)(Ds:Int)(k:Nat)(out:À Ol):À Ol:=Ë (Å k=[]) out (όC (nQ out k++joB ts Ds out k))
def dH:À Int->Ò->À Int->À Int|o,c::cs,s::ss=>ϙb|o,_,_=>o
def dH'{o c cs s ss}:dH o (c::cs) (s::ss)=ϙb:=rfl
def D3(ts:À Nd)(Ds:Int)(k:Nat)(out:À Ol)(off:À Int):À Int:=if Å k=[]then off else dH off (Å k) (Ŭ<|ϰB out k)
def PO(ts:À Nd)(Ds:Int):Nat->À Ol×À Int|0=>(Ā ts.À ϱ4,ϸ2 0)|m+1=>(Ey ts Ds (ĵ-m) (ö m).1,D3 ts Ds (ĵ-m) (ö m).1 (ö m).2)
def PO'{ts Ds m}:ö (m+1)=(Ey ts Ds (ĵ-m) (ö m).1,D3 ts Ds (ĵ-m) (ö m).1 (ö m).2):=rfl
theorem wD:∀(o:À Int)(C:Ò)(ss:À Int)(c:Nat)(s:Int),ϚO->dH o (C++[c]) (ss++[s])=Ϫ όS c s
 |o,[],[],c,s,_=>rfl
 |o,[],s'::ss,c,s,h=>ϫs
 |o,c'::C,[],c,s,h=>ϫs
 |o,c'::C,s'::ss,c,s,h=>by rw[K92,K92,dH',dH',wD _ C ss c s ϱY]
theorem uc:∀(o:À Int)(C:Ò)(ss:À Int),Ã όS=o.À
 |o,[],ss=>ϖ5
 |o,c::C,[]=>ϖS
 |o,c::C,s::ss=>by rw[dH',uc _ C ss,K8z]
theorem pC:∀(o:À Int)(C:Ò)(ss:À Int)(x:Nat),x∉C->gv όS x=gv o x
 |o,[],ss,x,_=>ϖ5
 |o,c::C,[],x,_=>ϖS
 |o,c::C,s::ss,x,h=>by
  rw[dH',pC _ C ss x λz=>h<|ě z];erw[gv];rw[K9E λz=>h<|Ô z K9z]
theorem AJ:∀(o:À Int)(C:Ò)(ss:À Int)(i:Nat)(x:Nat),C.Í->(∀c∈C,c<o.À)->ϚO->C[i]?=Ď->gv όS x=gv ss i:=by
 ext o C;induction C generalizing o with
 |nil=>ext _ _ _ _ _ _ h;simp at h
 |cons c C ih=>
  ext ss i x nd hb hl h;cases ss with
  |nil=>simp at hl
  |cons s ss=>
   let(N,n):=ϨR;rw[dH'];cases i with
   |zero=>
    let X:c=x:=ϱY
    subst X;rw[pC _ C ss c N];erw[gv];rw[K9I<|hb c K9z];rfl
   |succ i=>
    rw[ϲ2 ss i x n (λd H=>Ô K8z (hb d<|ě H)) (ť hl) ϱY];rfl
def bh{ts:À Nd}{k j:Nat}:j∈Å k↔ϰg/\Ĩ j=ë:=by erw[F5];rw[K89,K9G,K9k]
def cL{ts:À Nd}(he:ĕ){k j:Nat}(h:j∈Å k):k<j/\ϰg:=by
 let(H,a):=bh.mp h;obtain⟨n,N⟩:ϰ6 (ę ts):=⟨ts[j],ϫ6⟩
 let:=(he j n N).2.2;rw[bL N]at a;show(Á,H)
def Mv(ts:À Nd)(k:Nat):(Å k).Nodup:=List.Pairwise.imp (λh=>K9O h) (show Ϥe (Å k) ϩD by erw[F5];show ύH)
def RS(ts:À Nd)(k:Nat):Ϥe (Å k) ϩD:=ϵp F5 ύH
def NL(ts:À Nd)(k:Nat):ϱ0 (Ã (Å k)):=by
 erw[F5];let:=K8i (λj=>Õ<|Ĩ j=ë) ϳR;rw[Z7]at this;show this
def Dl{out:À Ol}{k j:Nat}{o:Ol}(h:k≠j):nQ (όC o) j=nQ out j:=ű nQ (K9E h)
def IS{out:À Ol}{k:Nat}{o:Ol}(h:k<out.À):nQ (όC o) k=o:=Ϗ nQ (K9I h)
def Ik{ts:À Nd}(he:ĕ){out:À Ol}{k q:Nat}{o:Ol}(h:k<=q):ϰB (όC o) q=ϰB out q:=ϵp bC (K8u λj J=>Dl (Ĳ (ϋ J).1))
structure PI(ts:À Nd)(Ds:Int)(m:Nat):Prop where
 l1:İ (Ã (ö m).1)
 l2:İ (Ã (ö m).2)
 lo:∀k,k<ϥo->Ϻz (ö m)=ϱ4 k
 hi:∀k,ϥo<=k->Ć->Ϻz (ö m)=ϱ4 k++(Ë (Å k=[]) []<|ϻG (ö m) k)
 ln:∀k,Ć->Ś 1 (Ã (Ϻz<|ö m)) ϫD
 of:∀k,ϥo<=k->Ć->∀i j,á (Å k)=ϱ6->gv (ö m).2 j=gv (Ŭ<|ϰB (ö m).1 k) i
 z:gv (ö m).2 0=0
def zh{ts:À Nd}{Ds:Int}{m k:Nat}(he:ĕ)(a:é)(h:ϔC)(H:Å k≠[]):okO (ϰB (ö m).1 k):=by
 show(λos o=>?_,?_,?_)
 .unfold bC at o
  let(j,J,rfl):=XV.mp o;let:=h.ln j (ϋ J).2;lia
 .unfold bC
  rw[K0];show List.length_pos_iff.mpr H
 erw[bC];rw[K0];let:=NL ts k;lia
def Hv{ts:À Nd}{Ds:Int}{m k:Nat}(he:ĕ)(h:ϔC)(H:Å k≠[]):Ã (ϻG (ö m) k)<=ϲL (k+1):=by
 erw[joB];rw[Fp];let n:ϰB (ö m).1 k≠[]:=by erw[bC];simp[H]
 obtain⟨_,⟨j,J,E⟩,_⟩:=uD n;rw[<-E];erw[l7,bC];erw[bC]at J;rw[K0]at J;rw[N2,϶Q];change Ã (nQ _ (Å k)[j])<=_;let g:=ϋ<|Zah J;let:=(h.ln _ g.2).2;lia
def AW{ts:À Nd}(Ds:Int)(he:ĕ)(p:Č 0)(L:é):∀m,m<=ts.À->ϔC:=by
 induction _ with
 |zero=>
  ext _;let o:∀k,Ć->Ϻz (ö 0)=ϱ4 k:=϶U (by erw[PO,nQ];rw[N2,ϴ6];rfl)
  show(Ϩc PO,Ϩc PO,϶U (o k Á),λk e H=>Á,϶U ?_,λk e H=>Á,?_)
  .rw[o k h]
   erw[ini];simp;lia
  erw[PO,gv];rw[K8Z,Os p];rfl
 |succ m N3=>
  ext M;let I:=N3 Á;obtain⟨K,d⟩:∃K,K=ĵ-m:=ζ;let l:Č K:=Á
  cases C:Å K=[]
  .let e1:(ö<|m+1).1=(ö m).1:=ϯJ Ey Os
   let g:(ö<|m+1).2=(ö m).2:=ϯJ D3 Os
   show(Ô e1 I.l1,Ô g I.l2,϶U (Ô e1 (I.lo k Á)),λk e H=>?_,϶U (Ô e1 (I.ln k h)),λk e H i j J=>?_,Ô g I.z)
   .rw[e1]
    cases h:k=K
    .subst h
     rw[I.lo k Á,Os C,K9d]
    show I.hi k Á H
   rw[e1,g];cases h:k=K
   .subst h
    rw[C]at J;simp at J
   show I.of k Á H i j J
  let e1:(ö<|m+1).1=Ϫ (ö m).1 K (nQ (ö m).1 K++ϻG (ö m) K):=ϯJ Ey P3
  let g:(ö<|m+1).2=dH (ö m).2 (Å K) (Ŭ<|ϰB (ö m).1 K):=ϯJ D3 P3
  let bl:∀q,K<=q->ϰB (ö<|m+1).1 q=ϰB (ö m).1 q:=λq Q=>Ô e1 (Ik he Q)
  let B:∀q,K<=q->ϻG (ö<|m+1) q=ϻG (ö m) q:=λq Q=>ű joB (bl q Q)
  let self:nQ (ö<|m+1).1 K=ϱ4 K++ϻG (ö m) K:=by rw[e1,IS (Ϩb I.l1),I.lo K Á]
  let t:∀k,k≠K->Ϻz (ö<|m+1)=Ϻz (ö m):=϶U (Ĥ e1 (Dl Ϧm))
  obtain⟨⟨E,r,S⟩,_⟩:=ϻk<|zh he L I C;let s:Ã (Å K)=Ã (Ŭ<|ϰB (ö m).1 K):=by rw[S.lst];erw[bC];rw[K0]
  show(Ε e1 K8z I.l1,Ε g uc I.l2,϶U (Ô (t k Á) (I.lo k Á)),λk e H=>?_,϶U ?_,λk e H i j J=>?_,?_)
  .by_cases h:k=K
   .subst h
    rw[self,P3 C,B k ì]
   rw[t k h,B k Á];show I.hi k Á H
  .by_cases f:k=K
   .subst f
    rw[self,K9v];let:=Hv (Ds:=Ds) he I C;let:Ã (ϱ4 k)=1:=rfl;lia
   rw[t k f];show I.ln k h
  .by_cases h:k=K
   .subst h
    rw[g,bl k ì];show AJ _ _ _ i j (Mv ts k) (λc n=>Ô I.l2 (ϋ n).2) s J
   rw[g,bl k Á,pC _ _ _ j ϩj]
   .show I.of k Á H i j J
   let a:=(bh.mp<|K9L J).2;let b:=(bh.mp z).2;rw[a]at b;lia
  rw[g,pC _ _ _ 0 λz=>Ĳ (ϋ z).1];show I.z
def vo{ch:Ò}{j:Nat}:Cq (nD ch) j=true↔j∈ch:=by
 erw[Cq,nD,iL];rw[Zdr];constructor
 .rintro⟨d,hd,e⟩
  rw[S1]at hd;let(k,H,rfl):=ϤS hd;let e':Õ (ë=Ĵ)=true:=e;let:=ϷP e';rw[ê (j=k)];show H
 ext h;show(Ä Ĵ,Ô S1 (ϲo ⟨j,h,rfl⟩),Ϥy)
def PX{ch:Ò}{X:À OD}:∀C:Ò,(∀j∈C,j∈ch/\ό2)->Ϯd (nD C)=some (C.Ç λj=>Ó (X[j]?.map OD.er) ò):=by
 induction _ with
 |nil=>ext _;show rfl
 |cons j r N3=>
  ext h;let i:=N3 λk K=>h k<|ě K;let(a,H):=h j K9z;change Ϯd (Ä Ĵ::nD r)=_;erw[oz];let I:ixN (Ã (ϹY ch X)) Ĵ=ϱ6:=cW (Ϩg zL);let gt:ę (ϹY ch X)=Â (.sh (X[j]).er):=by
   rw[rH,Nu H];change Â (Ë (ώa ch (0+j)) (Đ (X[j]).er)<|X[j])=_;rw[K87,Os<|vo.ó a]
  rw[I];change(match ę (ϹY ch X) with|some (.sh d)=>(Ϯd<|nD r).map λs=>d::s|_=>none)=_;rw[gt];change(Ϯd<|nD r).map (λs=>(X[j]).er::s)=_;rw[i,K9w,Nu H];rfl
def pcs(q:Fs):Fs:=(ao (Ų<|Ϧ9 (Ç 0)<|ħ<|È 0 ai)
 (ao (Δ<|ϴs (ϻL<|È 0 ai) ϰb aT (bO<|ae (Rs<|d_<|ae (ϰz (ġ<|Ç 256) Ľ)<|ĝ (ϰz (Ç 256) Ľ)) ai) 1 [])
 (ao (bZ (iR3 (ϳz (ħ<|È 0 ai)<|Ç 1) (ġ<|Ç 1)<|ġ<|Ç 1) ϩT (ao (ϱo<|Rs<|Ϸ9<|È 0<|È 4 ai)
 (sIf (aD<|ϵB (ħ<|È 5 ai)<|Ç 0) (ao (Al 3 5<|ϱ3<|Rs<|Gd 3 5)
 (ao (ϳ7<|Rs<|aj bw<|È 6<|È 1 ai)
 (ao (bZ (iZp ς ϦO) (ϡ<|Œ 8 9 bB)<|ϯe 2 Ϫl)
 (t_ 3 ş<|ϔc<|È 6<|È 7 ai)))) sNx)))
 q)))
def C3(ts:À Nd)(Ds:Int)(he:ĕ)(P:Č 0)(u:é)(L:ϵe):
  ∃(xs:À OD)(ys:À Gc)(v o v6 p V f:Ü OD),(∀q:Fs,pcs q [â è,some<|Ñ Ds,none,none,none,none,none,none,none,none]=q [â è,some<|Ñ Ds,Ň<|aG (ö ts.À).2,Â ϱq,v,o,v6,p,V,f])/\ϯT=cK (ö ts.À).1/\xs[0]?=Â (.ol ϒn):=by
 erw[pcs];let rp:=xA (Ä 0) ts.À Á;let ri:ώP (ϸ2 Ϻr) (ϸ2 0):=Ϙd
 let rs:(ß ay ts λz=>Đ<|Ä z).map OD.er=ß ay ts int:=Ô S1 (K8u λz x=>ϰn)
 let R:İ (Ã ϸP):=ű ay K0
 simp![aH,rp,ri,jR ts L u,rs];generalize Q:Į=rc;let e:=aS Q int (λz:Int=>.ol [.sh<|Ą [Ä<|-256*z,Ä<|256*z]]) ϸP rfl (by rw[R];show K94<|aF Á) (by ext z hz;simp![S5]);subst e;clear Q;obtain⟨X,b⟩:∃X,X=ß ay ts λz:Int=>ϲu [.sh<|Ą [Ä<|-256*z,Ä<|256*z]]:=ζ
 let x0:∀k,Ć->ϫ X=Â (Ę<|gz<|ϱ4 k):=λk H=>by
  rw[b,N2,D_<|by rw[R];show H];rfl
 let M:ϳf=cK (ö 0).1:=by
  apply K9K;ext k;erw[cK,PO];rw[N2,S1,N2];cases H:k<ts.À
  .rw[x0 k H,K9Z H]
   change Â ((ϹT _))=Â _;rw[md,aI];rfl
  rw[K9c (by rw[b,K0,R];lia),K9c<|Ă Z7];rfl
 rw[<-b];let r3:=λ(ρ:L3.Env)(Z:(F4 cO (eB ba<|ae (aa 0) ai)<|eC<|.int 1) ρ=.ok (.sh<|.int<|(ts.À:Int)-1))=>Pb (fa:=ϳz (ħ<|È 0 ai)<|Ç 1) (fb:=ġ<|Ç 1) (fc:=ġ<|Ç 1) (ρ:=ρ) (x:=Ì ts.À-1) (y:=-1) (z:=-1) Z rfl rfl rfl (Ŕ Á) (Ŕ Ý);let r4:=r3 [â è,some<|Ñ Ds,Ň<|aG<|ϸ2 0,Â Ϧk,none,none,none,none,none,none] ϑU;simp![r4];generalize hL:Ŗ=r';apply aX hL (λm ρ=>∃(xs:À OD)(v o v6 p V f:Ü OD),ϯT=cK (ö m).1/\(∀k,k<ϥo->xs[k]?=Â (Ę<|gz<|ϱ4 k))/\(∃ys:À Gc,xs[0]?=Â (.ol ϒn))/\ρ=[â è,some<|Ñ Ds,Ň<|aG (ö m).2,Â ϱq,v,o,v6,p,V,f])
  ⟨X,_,_,_,_,_,_,M,ϲ1 (x0 k Á),⟨_,x0 0 P⟩,rfl⟩ ?_ ?_
 .rintro m d ρ hd ⟨xs,v,o,v6,p,V,f,xe,xo,⟨ys,xz⟩,rfl⟩
  let(hm,rfl):=uY hd;let hm2:m<ts.À:=Á
  obtain⟨k,H⟩:∃k:Nat,k=ĵ-m:=ζ;let K:Ć:=Á
  let W:Ì ts.À-1-ϴ0=ë:=Á
  rw[W];let I:=AW Ds he P u m Á;let O:=eA ts k K u;let N:İ xs.À:=by let:=Ż xe;rw[K0,sG,I.l1]at this;show this
  cases C:Å k=[]
  .let G:ł (Õ (Ì 0<Ì ((Ã (nD<|Å k))))):=K9q (by rw[eF,C];decide)
   let e1:(ö<|m+1).1=(ö m).1:=ϯI Ey Os
   let E:(ö<|m+1).2=(ö m).2:=ϯI D3 Os
   simp![O,iP,G];rw[<-E];show(xs,_,_,_,_,_,_,Ô e1 xe,λq hq=>xo q Á,(ys,xz),rfl)
  let G:Õ (Ì 0<Ì ((Ã (nD<|Å k))))=true:=Z8 (by
   rw[eF];let:=ϏW
   lia)
  let e1:(ö<|m+1).1=Ϫ (ö m).1 k (Ϻz (ö m)++ϻG (ö m) k):=ϯI Ey P3
  let E:(ö<|m+1).2=dH (ö m).2 (Å k) (Ŭ<|ϰB (ö m).1 k):=ϯI D3 P3
  let B:=zh he u I C;obtain⟨⟨es,ls,S⟩,F⟩:=ϻk B;let T:=Jm (ϰB (ö m).1 k) (Ŭ<|ϰB (ö m).1 k) B S.lst;let bl:Ã (ϰB (ö m).1 k)=Ã (Å k):=ű bC K0
  let cl:=NL ts k;let gt:oz (ϹY (Å k) xs) (nD<|Å k)=Â (cK<|ϰB (ö m).1 k):=by
   rw[PX (Å k) λj J=>⟨J,by rw[N];show(ϋ J).2⟩];show Ϸj ?_;erw[bC,cK];rw[S1];show K8u ϳo;let A:=(ϋ J).2;let:=Uf (λl=>l[j]?) xe;simp only[N2]at this;let g:ę (ö m).1=Â ((ö m).1[j]'(by rw[I.l1];show A)):=ϴ8;rw[this];change Ó (ę<|cK (ö m).1) ò=ϴO (gz<|Ó (ę (ö m).1) []);erw[cK];rw[N2,g];rfl
  let jl:=Hv (Ds:=Ds) he I C;generalize t:Ŭ (ϰB (ö m).1 k)=st at S F T E;let U:Ã (Å k)=st.À:=Ĥ S.lst bl
  simp![O,iP,G];rw[Ue (xs:=xs) (ks:=nD<|Å k) rfl rfl];simp![S5];rw[Xi (i:=3) (c:=5) (xs:=ϹY (Å k) xs) (ks:=nD<|Å k) rfl rfl gt<|Ε sG bl (K94<|aF Á)];simp![aI,F,aW];generalize w:Ŗ=r2;show aX w (ϺL<|∃V f:Ü OD,ρ=[â è,some<|Ñ Ds,Ň<|aG<|dH (ö m).2 (Ł (Å k) i)<|st.Ö i,Ň<|ϹY (Å k) xs,Ĕ<|Ä k,â<|nD<|Å k,â<|cK<|ϰB (ö m).1 k,â Ϩd,V,f]) ⟨_,_,by rw[K7t,K7t,dH];ext _ _ _ _ h;cases h⟩ ?_ ?_
  .rintro i d ρ hd ⟨V,f,rfl⟩
   let(x,y,D,Y,rfl):=rA hd;erw[nD,iL]at D;rw[S1,N2]at D;let(j,J,rfl):=XL.mp D;rw[N2]at Y;let(s,hs,rfl):=XL.mp Y;let jg:=(ϋ<|K9L J).2;let ix:ϔY (dH (ö m).2 (Ł (Å k) i)<|st.Ö i) Ĵ=ϱ6:=cW (ϩN d7 uc I.l2 jg);simp![Function.comp,yS ix,DK];rw[take_snoc J,ϬQ hs,wD _ _ _ _ _<|by rw[K9f,K9f,U]];show(_,_,rfl)
  ext ρ' rfl ⟨V,f,rfl⟩;let zl:Ã (gq (nD<|Å k) Ϩd)=Ã (Å k):=by erw[gq];rw[K0,Zao,eF,K0,<-U,Nat.min_self]
  rw[zl,K90 ì,K90 Á,<-E];let xk:(ϹY (Å k) xs)[k]?=Â (Ę<|gz<|ϱ4 k):=by
   rw[rH,xo k Á];change Â (Ë (ώa (Å k) (0+k)) _ _)=_;rw[ϱi (Ĳ (ϋ<|vo.mp z).1)]
  let ex:=Pz (i:=3) (k:=ş) (a:=ϔc<|È 6<|È 7 ai) (ρ:=[â è,some<|Ñ Ds,Ň<|aG (ö<|m+1).2,Ň<|ϹY (Å k) xs,Ĕ<|Ä k,â<|nD<|Å k,â<|cK<|ϰB (ö m).1 k,â Ϩd,V,f]) (xs:=ϹY (Å k) xs) (ys:=(gz<|ϱ4 k).map OD.sh) (zs:=(gz<|jo (ϰB (ö m).1 k) st).map OD.sh) (z:=k) (j:=k) rfl rfl (cW ϙO) xk (by simp![T]) (by
   rw[K0,K0,rB,rB];let jl2:Ã (jo (ϰB (ö m).1 k) st)<=ϲL (k+1):=by erw[joB]at jl;rw[t]at jl;show jl
   let:Ã (ϱ4 k)=1:=rfl;show K94<|aF Á)
  simp![S5];rw[ex];simp![S5];let jb:ϻG (ö m) k=jo (ϰB (ö m).1 k) st:=by erw[joB];rw[t]
  show(_,_,_,_,_,_,_,?_,λq hq=>?_,?_,rfl)
  .rw[Zby,Qn,xe,e1,I.lo k Á,jb,md]
   erw[cK,gz];rw[Zby,K9i,K9i,aI,aI]
  .rw[K9E Á,rH,xo q Á]
   change Â (Ë (ώa (Å k) (0+q)) _ _)=_;rw[ϱi (Ĳ (ϋ<|vo.mp z).1)]
  cases r:k=0
  .apply(gz (ϱ4 k)++gz (jo (ϰB (ö m).1 k) st),?_)
   rw[K9i,ύ (ϱC 0=k) r.Ï,K9I ϙO]
  show(ys,?_);rw[K9E r,rH,xz];change Â (Ë (ώa (Å k) (0+0)) _ _)=_;rw[ϱi (Ĳ (ϋ<|vo.mp z).1)]
 rintro ρ' rfl ⟨xs,v,o,v6,p,V,f,xe,xo,⟨ys,xz⟩,rfl⟩;rw[zG,ê (İ (ĩ (Ì ts.À-1 - -1)))]at xe⊢;show(xs,ys,v,o,v6,p,V,f,λq=>?_,xe,xz);simp![S5]
def JO(ts:À Nd)(Ds:Int)(he:ĕ)(a:Č 0)(h:é)(l:ϵe):
  nR [Ï è,Ä Ds]=þ (Ą [Ï<|Ê (ö ts.À).2 int,Ï<|cK (ö ts.À).1]):=by
 let(X,y,v,V,v6,b,c,f,q,xe,_):=C3 ts Ds he a h l;let e:wu=pcs (ύS<|ϬK<|bF<|d_<|È 2<|È 3 ai):=rfl;erw[nR];rw[e];simp![q,md,xe,aW]
def qG(ts:À Nd)(off:À Int):Nat->À Int|0=>[0]|i+1=>ϻB i++[gv (ϻB i) (Ĩ<|i+1).toNat+gv off (i+1)]
def qG'{ts off i}:ϻB (i+1)=(ϻB i++[gv (ϻB i) (Ĩ<|i+1).toNat+gv off (i+1)]):=rfl
def nS(ts:À Nd)(off:À Int):∀i,Ã (ϻB i)=i+1:=by
 induction _ with|zero=>show rfl|succ i N3=>rw[qG',K9v,N3];rfl
def zX(ts:À Nd)(off:À Int)(m j:Nat)(h:j<=m):∀c,gv (ϻB<|m+c) j=gv (ϻB m) j:=by
 induction _ with|zero=>show rfl|succ c N3=>rw[<-N3,<-Nat.add_assoc,qG'];erw[gv];rw[K9V<|Ă nS]
def TH(ts:À Nd)(Ds:Int)(k:Nat):Int:=gv (ö ts.À).2 k
def outF(ts:À Nd)(Ds:Int)(k:Nat):Ol:=Ϻz (ö ts.À)
def Cc(ts:À Nd)(Ds:Int):À Int:=ϤD (ö ts.À).2 ĵ
def pos(ts:À Nd)(Ds:Int)(k:Nat):Int:=gv ϨV k
def Gq(ts:À Nd)(Ds:Int):Int:=eT<|Ā ts.À λk=>ϰv k-256*Ļ k
def drw(ts:À Nd)(Ds:Int):À Int:=Ê ϨV λz=>z-Gq ts Ds
def zj{ts:À Nd}{Ds:Int}(a:Č 0):İ (Ã ϨV):=by erw[Cc];rw[nS];lia
def Oq{ts:À Nd}{Ds:Int}(a:Č 0):İ (Ã ϰ1):=χ drw K0 (zj a)
def p6{ts:À Nd}{Ds:Int}(a:Č 0){k:Nat}(h:Ć):gv ϰ1 k=ϰv k-Gq ts Ds:=by
 erw[drw,pos];erw[gv];rw[N2,Nu<|Ϲu (zj a)];rfl
def KD{ts:À Nd}{Ds:Int}:ϰv 0=0:=by erw[pos,Cc];let:=zX ts (ö ts.À).2 0 0 ì ĵ;rw[K87]at this;rw[this];rfl
def Kn{ts:À Nd}{Ds:Int}{k q:Nat}(he:ĕ)(c:0<k)(K:Ć)(H:Ĩ k=Ì q):ϰv k=ϰv q+TH ts Ds k:=by
 let Q:q<k:=by
  obtain⟨n,h⟩:ϰ6 ϸG:=⟨ts[k],Ϯ K⟩
  let:=(he k n h).2.2;rw[ϴx]at H;lia
 obtain⟨m,rfl⟩:ϔz:=⟨k-1,Á⟩
 erw[pos,Cc,TH];let a:=zX ts (ö ts.À).2 (m+1) (m+1) ì<|ĵ-(m+1);let b:=zX ts (ö ts.À).2 m q Á<|ĵ-m;rw[ê (m+1+(ĵ-(m+1))=ĵ)]at a;rw[ê (m+(ĵ-m)=ĵ)]at b;rw[a,b,qG',H,K9n]
 conv=>lhs;erw[gv]
 rw[K9a (Ă nS),nS,K8c];rfl
def mP{ts:À Nd}(Ds:Int)(he:ĕ)(a:Č 0)(l:é){k:Nat}(h:Ć):
  í k=ϱ4 k++(Ë (Å k=[]) []<|jo (Ê (Å k) í) (Ŭ<|Ê (Å k) í)):=
 (Ϗd ì).hi k Á h
def Ql{ts:À Nd}(Ds:Int)(he:ĕ)(a:Č 0)(l:é){k i j:Nat}(h:Ć)(J:á (Å k)=ϱ6):
  TH ts Ds j=gv (Ŭ<|Ê (Å k) í) i:=
 (Ϗd ì).of k Á h i j J
def vy{ts:À Nd}(Ds:Int)(he:ĕ)(a:Č 0)(l:é){k:Nat}(h:Ć):Ś 1 (Ã (í k)) ϫD:=
 (Ϗd ì).ln k h
def oY{ts:À Nd}(Ds:Int)(he:ĕ)(h:Č 0)(a:é){k:Nat}(C:Å k≠[]):okO (Ê (Å k) í):=
 zh he a (ϛ5 ì) C
def fQ:Fs:=(ao (ϳ6 ϊ)
 (ao (Ų<|bO<|ĝ (Ç 0))
 (ao (dX (Gk<|aD<|ñ gNe 2 ϊ) (ao (IH 2 Ϧz)
 (ao (ϨZ Š)
 (ϬK<|Ų<|ñ a_ 2<|aP (iR2 (ñ a_ 3<|Ç 1)<|ħ<|È 0 ai) ϰb (aD<|Ϲ2 (ū (Ù 1 Ľ)<|Ç 0) ό) Ľ 1 [0,3]))))
 Ϥr)))
def cy:Fn:=ϲ5 4 fQ
def oU:Fs:=(ao (Ų<|bO<|ae (d_<|ae (Ç 0)<|ae (ū (Ù 0<|Ç 0)<|Ç 1)<|ae (ū (Ù 0<|Ç 0)<|Ç 2) ai) ai)
 (ao (bZ (bY<|ϳb 0 (d8<|Ç 1) iN) (ϳ0<|ϳV 3<|Œ 4 5 bB)<|Ϩ2<|Rs<|d_<|ae (ñ a_ 3 Ŋ)<|È 4<|È 5 ai)
 Ϥs))
def i6:Fn:=ε 6 oU
def gD:Fs:=(ao (ϳ6<|Rs<|aj cy<|È 0 ai)
 (ao (Ų ϊ)
 (ao (bZ (bY Ŋ) Ϧz (ao (K_ (Ù 0 Š)<|ϳ0<|ϳV 4<|Œ 5 6 bB)
 (ao (ϷH (ñ gGe 4<|Ç 0) (ϰl<|IJ Ŋ ş) sNx)
 (Ϩ2<|d_<|È 4<|È 5<|È 6 ai))))
 Ϥs)))
def bU:Fn:=ϲ5 7 gD
def ij:Fs:=(ao (Δ ϊ)
 (ao (bZ (iR1<|ħ<|È 0 ai) ϩT (ao (ϱo<|ϱN (ϰz (Ϩp<|È 1<|ĝ (ñ a_ 2 ş))<|Ç 39373)<|Ç 2147483629)
 (ao (ϱ3<|ŗ (ϰz (Ϧa (ħ<|ae (ū (Ù 0 ş)<|Ç 1) ai)<|Ç 2)<|Ç 2)<|ñ ip 5<|Ç 2)
 (ao (ϳ7<|eC<|Ė "abcdefghijklmnopqrstuvwxyz")
 (ao (ϬF<|eC<|Ė "")
 (ao (ϧS (eB A6<|ae (Ç 1)<|ae (ϓs<|È 6<|ĝ (Ç 9)) ai) 9<|ϬF<|ñ a_ 8<|Ù 7<|ϱN (ñ kq 5<|ŗ (Ç 2)<|ϰz (ϰz (Ç 5) Ϫl) Ϫl)<|Ç 26)
 (ϥW<|Rs<|d_<|ae (ū (Ù 0 ş)<|Ç 0)<|È 8<|ae (ŗ (Ç 1)<|ϱN (ñ kq 5<|Ç 1024)<|Ç 9) ai)))))))
 (dB 3)))
def b8:Fn:=ϳM 10 ij
def k_:Fs:=(ao (ϰl<|Rs<|aj f_<|È 0<|È 1<|È 2<|ae (Ç 9)<|ĝ (Ç 6))
 (ao (ϱo<|Rs<|bO<|ae (Rs<|d_<|ae (ġ<|Ç 1)<|ae (Rs<|eSl OG (eC<|Ė "abcdefghi") iN<|d8<|ŗ (Ç 1)<|ñ ip 3<|Ç 9)<|ae (ŗ (Ç 1)<|ϱN (ñ kq 3<|Ç 9)<|Ç 9) ai) ai)
 (ao (bZ (iR1<|ŗ (Ç 1)<|ϱN (ñ kq 3<|Ç 81)<|Ç 3) (K2 6) (ao (ϳ7<|Rs<|aj b8<|È 4<|È 0<|ae (ŗ (ñ a_ 1<|Ç 5)<|ϰz (Ç 3) ϸQ) ai)
 (ao (sIf (aD<|Ϲ2 (ϱN (Ϧa (ñ kq 3<|Ç 243)<|ŗ (ñ cX 6 ϸQ)<|Ç 1)<|Ç 3)<|Ç 1) (ϳ7<|Rs<|aj bU<|È 7 ai) sNx)
 (ao (sIf (p_ (aD<|Ϲ2 (ϱN (Ϧa (ñ kq 3<|Ç 729)<|ñ a_ 6<|Ç 1)<|Ç 5)<|Ç 1)<|aD<|ϵB (ħ<|È 7 ai)<|Ç 1) (ϳ7<|Rs<|ϳb 7 iN<|d8<|ġ<|Ç 1) sNx)
 (ϱo<|Rs<|ñ a_ 5<|aj i6<|È 7<|ĝ (ħ<|È 5 ai))))))
 (bF ς))))
def fI:Fn:=aZ 4 8 k_
def Jo{ts:À Nd}{c:F}(p:ç){a:Nat}(A:ϳh):(ž (ϱQ<|ϲL (a+1)) λj=>Õ<|Ĩ ϸJ=ϑ).map (λj=>ϸJ)=Å a:=by
 erw[F5];let e:ϳR=ϱQ (a+1)++Ā (ϲL (a+1)) λj=>ϸJ:=by rw[<-List.range_add,ê (İ (a+1+(ϲL<|a+1)))]
 rw[e,K8o,List.filter_map];let z:ž (ϱQ<|a+1) (λj=>Õ<|Ĩ j=ϑ)=[]:=by
  rw[Zdk];ext j J;rw[K9G]at J;let:=Q7 p (k:=j) Á;rw[K9k];lia
 rw[z,K9B];rfl
def Oi(h:ϵa ns):gNe (Ï ō) (Ï [])=þ (ã true):=by
 cases ns with
 |nil=>show Ϡ h
 |cons a as=>
  erw[gNe];rw[n_];erw[k7];rw[cG (Ϻd ϵP) Ý,ύ (Ϻ5 (Ï [])) (cG (Ϻd []) Ý),K7m,Ĝ];rfl
def CC(ts:À Nd)(c:F)(p:ç)(A:é):cy [Ï è]=ģ (nO Κ):=by
 erw[cy,fQ];simp![S5];generalize i:ϩc=r;apply sP i (λm d=>∃(f:F)(o:Ò)(C:Ü OD),ϳI Å f/\Ã ν=m/\(∀k∈ν,Ć)/\o++F.fM f=Κ/\d=[â è,Ň<|nO o,Ň<|nO ϸe,C])
  ts.À ⟨ϥC,[],_,p.con,Ĥ p.ğ Z7,ϖm,rfl,rfl⟩
  (λd=>∃V C:Ü OD,d=[â è,Ň<|nO Κ,V,C]) ?_ ?_
 .rintro m d ⟨f,o,C,hc,hm,hk,ho,rfl⟩
  cases H:ϸe=[]
  .left
   let:=A9 H;subst this;rw[F.fM,K9d]at ho;subst ho;let ge:gNe (Ï<|nD []) (Ï [])=þ (ã false):=D1<|Ϻd [];constructor
   .simp![iP,F.roots,ge]
   show(_,_,rfl)
  right;let(g,a,b,s,t,R,u,B,v,x):=Ic hc (λz=>H<|ϣ z) hk;let ge:gNe (Ï<|nD<|ϲS g++[a]) (Ï [])=þ (ã true):=Oi (ns:=iL<|ϲS g++[a]) (Ϩc iL);let ol:ϲv o.À:=by
   let:=Ż ho;rw[K9v,p.len]at this;lia
  let l:ϱK (Ã (nO o)):=Ô zo (c8 Á)
  let L:ϳs (Ã (nD<|ϲS g)+Ã (nD<|Å a)):=by
   rw[eF,eF,<-K9v,R];let:=F.Di ϶h;let q:ϱ0 (Ã (ϝ ϶h)):=by
    let:=Ż ho;rw[K9v,p.len,ϚP]at this;lia
   show aF Á
  rw[s];constructor
  .simp![iP,ge]
  rw[<-vA];let em:ϑ+1=ä (a+1):=Á
  let S:Ι ((ä (a+1))):=Ŕ Á;let y:Ι ((Ì ts.À)):=Ŕ Á;simp![M9,l,aH,em,S,y,K7m,iP];generalize w:Į=rc;let h:ĩ (Ì ts.À-ä (a+1))=ϲL (a+1):=Á
  let e:=iS w (ϤQ<|int<|ä (a+1)+Ĵ) (λj=>Õ<|Ĩ ϸJ=ϑ) (λj=>Ñ<|(ä ϸJ)) (ϱQ<|ϲL (a+1)) (by rw[h];rfl) (Ô Z7<|K94<|aF Á) (by
   ext j J;rw[K9G]at J;rw[ê (ä (a+1)+Ĵ=ä ϸJ)];obtain⟨n,N⟩:ϰ6 (ts[ϸJ]?):=⟨ts[ϸJ]' Á,Û⟩
   let g1:=fZ N;let g2:=bL N;rw[g2];show(?_,Ţ ?_)
   .simp![g1]
   simp![S5])
  subst e;clear w;let G:((ž (ϱQ<|ϲL (a+1)) λj=>Õ<|Ĩ ϸJ=ϑ).map λj=>Đ<|Ä (ä ϸJ))=nO (Å a):=by rw[<-Jo p t,<-HL,S1];rfl
  rw[G];let E:Ê (nD (ϲS g)++nD (Å a)) OD.sh=nO (ϲS ϶h):=by rw[<-R,<-Gb,K9i];rfl
  simp![iP,kE,L];rw[E,vA];show(_,Á,϶h,o++[a],_,u,rfl,v,by rw[x];show ho,rfl)
 ext ρ' rfl ⟨V,C,rfl⟩;simp![S5]
def Ih(R:Ò)(k:Nat):(iL R).idxOf ë=R.idxOf k:=by
 erw[iL]
 induction R with
 |nil=>rfl
 |cons a r ih=>
  rw[K9w,List.idxOf_cons,List.idxOf_cons,ih];cases h:a=k
  .subst h
   simp
  let H:ł (ϑ==ë):=ϳc
  let b:ł (a==k):=by simp;show h
  rw[H,b]
def sW(ts:À Nd)(c:F)(p:ç)(f:é):bU [Ï è]=.ok (Ę<|ak ć):=by
 erw[bU,gD];let len:=p.í;simp![CC ts c p f,iP];generalize L:Ŗ=r';show ϳ1 (λi a=>∃C v V v6:Ü OD,a=[â è,â<|nD Κ,some<|Ę<|ak<|Ł ć i,C,v,V,v6]) ϑp
 .rintro i d a hd ⟨C,v,V,v6,rfl⟩
  let hi:i<Ã Κ:=ϱD ((ϱb hd)) eF
  obtain⟨k,H⟩:∃k,á Κ=Ş:=⟨Κ[i],Û⟩
  rw[Rp H]at hd;cases hd;let h:=p.mem.mp Ϧs;let g1:=fZ<|yR h;let b:ϱK (Ã (ak<|Ł ć i)):=Ε aH K9f (c8 Á)
  let g:ß ak (Ł ć<|i+1) OD.sh=ß ak (Ł ć i) OD.sh++[Đ<|Ą [Ä<|Ϻe (ϯ).e,Ė (ϯ).l,Ä (ϯ).t]]:=by
   let:á ć=Â Ϧ0:=ϘT
   rw[Zck,this];erw[ak];rw[K9i,K9i];rfl
  rcases p.elder h with z|⟨j,J,m⟩
  .let he:(ϯ).e=-1:=Ĥ (ue h) z
   let D:ł (Õ (Ì 0<=(ϯ).e)):=K9q Á;let gi:Ϻe (ϯ).e=(ϯ).e:=ϣ he
   rw[gi]at g;simp![g1,D,b];rw[<-g];show(_,_,_,_,rfl)
  let he:(ϯ).e=Ĵ:=by rw[ue h,m]
  let D:Õ (Ì 0<=(ϯ).e)=true:=Z8 Á;let M:Ĵ∈iL Κ:=ϵp iL (ϲo ⟨j,p.mem.ó J,rfl⟩)
  let I:yY (nD Κ) (Ä (ϯ).e)=.ok (Ñ<|Ϻe (ϯ).e):=by
   rw[he];let:=MM (iL Κ) Ĵ M;rw[Ih]at this;let gi:Ϻe Ĵ=ä ((Κ).idxOf j):=Ϗ F.gi (P3 Á)
   rw[gi];show this
  simp![g1,D,b,I];rw[<-g];show(_,_,_,_,rfl)
 ext ρ' rfl ⟨C,v,V,v6,rfl⟩;let e:Ł ć (Ã (nD Κ))=ć:=K90 (ϩN ϵY eF len ì);rw[e];simp![S5]
def Kb(ts:À Nd)(a:Ź)(L:é)(ns:À Int)(T:Int)(R:0<=T)(S:T<=1000):∃s:À Nd,İ s.À/\(∀k,Ć->Z4 s k=Ĩ k)/\Lb s/\b8 [Ï è,Ï ō,Ä T]=.ok (Ę<|ak s):=by
 erw[b8,ij];let s0:Ι ((Ì ts.À)):=Ŕ Á;simp![aH,s0];rw[K9n];generalize D:Ŗ=r;apply aX D (λi b=>∃(s:À Nd)(V e v6 g o p:Ü OD),s.À=i/\(∀k,k<i->Z4 s k=Ĩ k)/\Lb s/\b=[â è,â ō,Ĕ<|Ä T,some<|Ę<|ak s,V,e,v6,g,o,p])
  ⟨[],_,_,_,_,_,_,rfl,(λk E=>Á),(λn N=>by cases N),rfl⟩ ?_ ?_
 .rintro i d b h ⟨s,V,e,v6,g,o,p,hu,he,hlb,rfl⟩
  let(hi,rfl):=cI h;rw[K8R];let(y,G):=ϧG (T+ÿ) Á;obtain⟨n,N⟩:ϰ6 (á ts):=⟨ts[i]' Á,Û⟩
  let g1:=fZ N;let nl:=a n<|K9L N;let B:=ϖa nl;generalize Z:y*39373%2147483629=z;let I:=dP z (ϱm<|Ì 0<2);generalize hsz:Ì n.ç / 2*2+z%2=sz;let m:ϤC (Ì n.ç / 2) 2:=ϧu Ý;obtain⟨cnt,t,c1,q⟩:∃cnt:Int,A6 [Ä 1,Ä (Ë (9<sz) 9 sz)]=.ok (Ñ cnt)/\Ś 1 cnt 9:=by
   rw[NT];show(_,rfl,?_,?_)
   .split<;>(try split)<;>lia
   split<;>(try split)<;>lia
  let sc:Ι cnt:=Ŕ Á;obtain⟨f,F⟩:∃f:ņ,∀i:Nat,Ť ((Ϫk ϸY)) (z / (2+ϻo (0+ÿ))%26)=Â (f i)/\(Ś 97 (f i) 122):=
   ⟨λi=>Ϸ0<|Bm _ (ϥm (2+ϻo (0+ÿ))<|ϱm (Ì 0<26)).1 (dP _ Ý).2,λi=>Zab<|Bm _ (ϥm (2+ϻo (0+ÿ))<|ϱm (Ì 0<26)).1 (dP _ Ý).2⟩
  simp![G,Z,g1,B,m,hsz,t,sc];generalize w:Ŗ=r2;show aX w (λj b=>∃(l:Str)(v:Ü OD),b=[â è,â ō,Ĕ<|Ä T,some<|Ę<|ak s,Ĕ<|Ä i,some<|Ñ z,some<|Ñ sz,Ĕ<|Ė ϸY,Ĕ<|Ė l,v]/\l.À=j/\ϏB) ϖN ?_ ?_
  .rintro i d b h ⟨l,v,rfl,L,C⟩
   let(hi,rfl):=cI h;let U:ÿ<9:=Á
   let W:Ś 0 (ϻo (0+ÿ)) (ϻo 8):=by
    let A:0<=(0+ÿ):=Á
    let u:(0+ÿ)<=8:=Á
    show(Zag Á A,?_);show Zef Á u A Á
   let Y:=(F i).1;let c1:=(F i).2.1;let q:=(F i).2.2;generalize f i=c at Y c1 q;let J:ϤC (5*(0+ÿ)) (0+ÿ):=EC Á Á;let M:ϭZ 2 (ϻo (0+ÿ)):=ϸC ⟨Á,Á⟩;let O:ϳs (Ã ϸY):=œ
   let P:ϳs (l.À+Ã (ϥu:Str)):=aF (by rw[L];change i+1<=1000;lia);simp![J,M,O,P,Y,Zbe];show(_,_,rfl,by rw[Ed,L],ύD);rw[BO,K9Y]at h;rcases h with h|h
   .show C d h
   let:d=c:=ϱY
   lia
  ext ρ' rfl ⟨l,v,rfl,hll,C⟩;rw[gF]at hll;let Q:ϱK (Ã (ak s)):=Ô aH (c8 Á)
  simp![g1,Q];show(s++[Ϙw],_,_,_,_,_,_,ϰ8 K9v hu,λk E=>?_,όT,ϰ8 uk K9i)
  .by_cases K:k<i
   .rw[<-he k K]
    erw[Z4];rw[K9V Á]
   let:k=s.À:=Á
   rw[ê (k=i),bL N];show bL (n:=Ϙw) (by rw[<-hu];simp)
  rcases K9Y.mp H with H|H
  .show hlb x H
  rw[K95]at H;subst H;show(ê (1<=l.À),ê (l.À<=9),C)
 ext ρ' rfl ⟨s,V,e,v6,g,o,p,hu,he,hlb,rfl⟩;rw[gF]at hu he;show(s,hu,he,hlb,ϻh)
def QS(n:Nd)(r:À Nd)(s:Nat)(l:ϲv r.À):i6 [Ï<|ak ϴl,Ä s]=.ok (Ę<|ak<|og s ϴl):=by
 erw[i6,oU];let g1:=fZ (ts:=ϴl) (k:=0) (n:=n) rfl;rw[Int.natCast_zero]at g1;let c:ϲc (ak ϴl) (Â 1) none=ak r:=ϩH (i8 (ak ϴl) 1 (ϳj aH)) this
 simp![g1,c,aI];generalize h:Ŗ=r';show aX h (λi a=>∃C v V:Ü OD,a=[â<|ak ϴl,Ĕ<|Ä s,some<|Ę<|ak<|ϫb::Ê (r.Ö i) ϪP,C,v,V]) ϑV ?_ ?_
 .rintro i d a hd ⟨C,v,V,rfl⟩
  erw[ak]at hd;rw[N2]at hd;let(m,M,rfl):=ϹW;let hi:=(ZB.mp M).1;let b:ϱK (Ã (ak<|ϫb::Ê (r.Ö i) ϪP)):=Ô aH (c8 ϳc)
  let t1:ß ak (ϫb::ß r.Ö (i+1) ϪP) OD.sh=ß ak (ϫb::Ê (r.Ö i) ϪP) OD.sh++[Đ<|Ą [Ä<|m.e+s,Ė m.l,Ä m.t]]:=by rw[Zck,M];erw[ak];simp[ndD]
  simp![ndD,b];rw[<-t1];show(_,_,_,rfl)
 ext ρ' rfl ⟨C,v,V,rfl⟩;let e:r.Ö (Ã (ak r))=r:=K90 (Ô aH ì);rw[e];simp![S5];rfl
def ZN(r:Int)(a:0<=r)(h:r<9):wZ (ώ2<|Â<|1+r):=by
 let all:∀r:Fin 9,wZ (ώ2<|Â<|1+Ì r.val):=Ϛx wZ
 let:=all ⟨r.Ò,Á⟩;rw[show Ì (⟨r.Ò,Á⟩:Fin 9).val=r by change Ì r.Ò=r;lia]at this;show this
def MT(X:À Gc)(h:1<=X.À):ϲc X none (Â<|-1)=X.Ù:=by
 let e:ϯm X.À (Â<|-1)=ϫU:=by
  erw[HT.sIx];simp;lia
 erw[cutD];rw[e,List.dropLast_eq_take];rfl
def Gx(ts:À Nd):(è).dropLast=ak ts.Ù:=ű ak List.map_dropLast
def Dn(ts:À Nd):Nat->Nat->Nat->Prop|j,0,k=>k=j|j,l+1,k=>∃c,c∈Å j/\϶N c l k
theorem Dn.snoc{ts:À Nd}{q k:Nat}(H:k∈Å q):∀{l j:Nat},ϲl l q->ϲl (l+1) k
 |0,j,h=>by let h:q=j:=h;subst h;show(k,H,rfl)
 |l+1,j,⟨c,hc,h⟩=>⟨c,hc,Dn.snoc H h⟩
structure IsOut(ts:À Nd)(f:å)(j:Nat)(o:Ol):Prop where
 len:∀l,l<o.À↔∃k,ϲl l k
 lo:∀l p,o[l]?=ϲm->(∃k,ϲl l k/\p.1=f k-256*Ļ k-f j)/\∀k,ϲl l k->p.1<=f k-256*Ļ k-f j
 hi:∀l p,o[l]?=ϲm->(∃k,ϲl l k/\p.2=f k+256*Ļ k-f j)/\∀k,ϲl l k->f k+256*Ļ k-f j<=p.2
def fg{ts:À Nd}(Ds:Int)(he:ĕ)(a:Č 0)(h:é){j i c:Nat}(J:ϰg)(C:á (Å j)=ī):ϰv c=ϰv j+gv (Ŭ<|Ê (Å j) í) i:=by let M:=K9L C;let(c1,L):=bh.mp M;let:=(ϋ M).1;rw[Kn he Á c1 L,Ql Ds he a h J C]
def vm{ts:À Nd}(Ds:Int)(he:ĕ)(s:Č 0)(t:é):∀m j,İ (j+m)->ϰg->IsOut ts ϰv j (í j):=by
 ext m
 induction m using Nat.strongRecOn with
 |ind m ih=>
  ext j M J;let I:∀c∈Å j,IsOut ts ϰv c (í c):=λc d=>by let(c1,L):=ϋ d;show ih ϒd Á c Á L
  let zero:∀p,(í j)[0]?=ϲm->p=(-256*Ļ j,256*Ļ j):=λp P=>by
   rw[ϥS s t J]at P;erw[ini]at P;simp at P;show P.Ï
  cases d:Å j=[]
  .let e:í j=ϱ4 j:=by rw[ϥS s t J,Os d,K9d]
   let no:∀l k,¬ϲl (l+1) k:=λl k h=>by let(c,c1,_):=h;rw[d]at c1;cases c1
   let O:Ã (í j)=1:=ϒT
   let lt:∀l p,(í j)[l]?=ϲm->l=0:=λl p P=>Ĳ ((ϱb P))
   show(λl=>?_,όD,όD)
   .rw[O]
    constructor
    .intro h
     let:l=0:=Á
     subst this;show(j,rfl)
    ext⟨k,H⟩;cases l with|zero=>lia|succ l=>show ϙW<|no l k
   .let:=lt l p P
    subst this;rw[ώp];show((j,rfl,ϳY (_=_)),ϭ2 (-256*_) _)
   let:=lt l p P;subst this;rw[ώp];show((j,rfl,ϳY (_=_)),ϭ2 _ (256*_))
  let R:=ϥT s t d;let e:í j=ϱ4 j++jo (Ê (Å j) í) (Ŭ<|Ê (Å j) í):=by rw[ϥS s t J,P3 d]
  let v:=λi c(h:(F5 ts j)[i]?=some c)=>ϸk s t J h;generalize D:Ŭ (Ê (Å j) í)=st at e v;let N:Ê (Å j) í≠[]:=by simp[d]
  obtain⟨_,⟨Q,F,G⟩,X⟩:=uD N;let E:Ã (í j)=1+mxN (Ê (Å j) í):=Ϛn
  let n:∀i c,á (Å j)=ī->l7 (Ê (Å j) í) i=Ã (í c):=λi c h=>ϧk l7
  let o:∀i c l,á (Å j)=ī->oA (Ê (Å j) í) i l=Ó ((í c)[l]?) (0,0):=λi c l h=>ϧk oA
  let T:∀l i,i∈ϦC (Ê (Å j) í)↔∃c,á (Å j)=ī/\l<Ã (í c):=λl i=>by
   erw[there];rw[K89,K9G,K9k,K0];constructor
   .rintro⟨a,b⟩
    let g:á (Å j)=some (Å j)[i]:=Nu a;show(_,g,by rw[<-n i _ g];show b)
   ext⟨c,c1,L⟩;show(ϱb c1,ύn (n i c c1))
  let succ:∀l p,(í j)[l+1]?=ϲm->l<mxN (Ê (Å j) í)/\p=jl (Ê (Å j) í) st l:=λl p P=>by
   let x:=(ϱb P);rw[E]at x;let f:l<mxN (Ê (Å j) í):=Á
   show(f,?_);rw[e]at P;erw[ini,jo]at P;rw[K92,K9B,Zbs,N2,K9Z f]at P;show(K9R P).symm
  show(λl=>?_,όD,όD)
  .cases l with
   |zero=>show(Ţ ⟨j,rfl⟩,λx=>Á)
   |succ l=>
    rw[E];constructor
    .intro h
     let tn:=n6 N (ê<|l<mxN (Ê (Å j) í));let(i,hi):=Zch _ tn;let(c,c1,L):=ϒJ;let C:=K9L c1;let(k,H):=((I c C).len l).mp L;show(k,c,C,H)
    ext⟨k,c,C,H⟩;let L:=ϏI;let(i,r,u):=Zal C;let:=X i (by rw[K0];show r);rw[n i c ϒo]at this;lia
  .cases l with
   |zero=>rw[ώp];show((j,rfl,ϳY (_=_)),ϭ2 (-256*_) _)
   |succ l=>
    let(f,rfl):=succ l p P;let tn:=n6 N f;let(S,B):=dS (xs:=(ϦC<|Ê (Å j) í).map λi=>ϴo i+(oA (Ê (Å j) í) i l).1) λz=>tn ϶V;show(?_,?_)
    .let(i,hi,w):=XV.mp S
     let(c,c1,L):=ϒJ;let C:=K9L c1;obtain⟨⟨k,K,y⟩,_⟩:=ϖp ϸT;show(k,(c,C,K),?_);change eT _=_;rw[<-w,ύa,ϸT];change ϴo i+(í c)[l].1=_;rw[y,ώq];lia
    ext k ⟨c,C,H⟩;let(i,r,u):=Zal C;let c1:á (Å j)=ī:=ϒo
    let L:=ϏI;let q:=B _<|ϲo ϖE;rw[ύa,ϸT]at q;let q:eT _<=ϴo i+(í c)[l].1:=q;let:=(ϖp ϸT).2 k H;let A:=ώq;change eT _<=_;lia
  cases l with
  |zero=>rw[ώp];show((j,rfl,ϳY (_=_)),ϭ2 _ (256*_))
  |succ l=>
   let(f,rfl):=succ l p P;let tn:=n6 N f;let(S,B):=c_ (xs:=(ϦC<|Ê (Å j) í).map λi=>ϴo i+(oA (Ê (Å j) í) i l).2) λz=>tn ϶V;show(?_,?_)
   .let(i,hi,w):=XV.mp S
    let(c,c1,L):=ϒJ;let C:=K9L c1;obtain⟨⟨k,K,y⟩,_⟩:=ϖq ϸT;show(k,(c,C,K),?_);change jE _=_;rw[<-w,ύa,ϸT];change ϴo i+(í c)[l].2=_;rw[y,ώq];lia
   ext k ⟨c,C,H⟩;let(i,r,u):=Zal C;let c1:á (Å j)=ī:=ϒo
   let L:=ϏI;let q:=B _<|ϲo ϖE;rw[ύa,ϸT]at q;let q:ϴo i+(í c)[l].2<=jE _:=q;let:=(ϖq ϸT).2 k H;let A:=ώq;change _<=jE _;lia
def lvN(ts:À Nd)(k:Nat):Nat:=Ó (ϫ ϱr) 0
def bV{ts:À Nd}(he:ĕ){j c:Nat}(h:c∈Å j):ϒ c=ϒ j+1:=by
 let(c1,L):=bh.mp h;let hg:=(ϋ h).1;obtain⟨n,H⟩:ϰ6 (ts[c]?):=⟨ts[c],Ϯ c1⟩
 rw[bL H]at L;erw[lvN];rw[uN H];change gZ _ n=_;erw[gZ];rw[P3 Á,L,K9n,<-zI,K97 hg]
theorem pL{ts:À Nd}(he:ĕ):∀{l j k:Nat},ϰg->ϲl l k->ϒ k=ϒ j+l/\j<=k/\Ć
 |0,j,k,hj,h=>by let h:k=j:=h;subst h;show(rfl,ì,hj)
 |l+1,j,k,hj,⟨c,hc,h⟩=>by let g:=ϋ hc;let(a,b,d):=ϷC g.2 h;rw[ϳF hc]at a;show(Á,Á,d)
def xJ{ts:À Nd}{c:F}(p:ç){j:Nat}(J:ϰg):∃s,Ã ϲy=s/\ϱ0 Ϻv/\(∀k,j<k->k<=j+s->Ĵ<=Ĩ k)/\
  ∀b,ϵm->Ĵ<=Ĩ b->Ĩ b<=ä (j+s)->ϓO:=by
 let(s,Q,q,l,C):=TY p J;let at1:∀k,ϷY[k]?=ts[ϤA]?:=λk=>K84;show(s,Ga _ _ s (Ă K8y) (λk H x h=>?_) Ϭt,Q,q,C)
 .rw[at1]at h
  let:=q ϤA Á Á;rw[ϴx]at this;show Z8 this
 rw[at1]at h;let L:=ϲG;let:=l L;rw[ϴx]at this;show K9q Á
theorem F8{ts:À Nd}(he:ĕ){j s:Nat}(q:∀b,ϵm->Ĵ<=Ĩ b->Ĩ b<=ä (j+s)->ϓO):∀{l i k:Nat},j<=i->i<=j+s->϶N i l k->k<=j+s
 |0,i,k,_,h,d=>by
  let d:k=i:=d;lia
 |l+1,i,k,h1,h2,⟨c,hc,d⟩=>by
  let(c1,L):=bh.mp hc;let:=q c c1 Á Á;show F8 he q Á Ϥx d
def FK{ts:À Nd}(he:ĕ){j s:Nat}(J:Č (j+s))(q:∀k,j<k->k<=j+s->Ĵ<=Ĩ k)(k:Nat)(b:j<=k)(H:k<=j+s):∃l,ϲl l k:=by
 induction k using Nat.strongRecOn with
 |ind k ih=>
  cases K:k=j
  .exact(0,K)
  let e1:=q k Á H;obtain⟨n,h⟩:ϰ6 ϸG:=⟨ts[k]' Á,Û⟩
  let lt:=(he k n h).2.2;rw[<-ϴx]at lt;obtain⟨x,X⟩:∃x:Nat,Ĩ k=(x:Int):=⟨ĩ (Ĩ k),Á⟩
  let(l,a):=ih x Á Á Á;show(l+1,Dn.snoc (ϸK ⟨Á,X⟩) a)
def xv{ts:À Nd}{k:Nat}{n:Nd}(h:ϸG=ϵL):Ļ k=Ì n.ç / 2:=ϗW
def Dp(ts:À Nd)(d:Nat):Prop:=∀k,Ć->ϒ k<=d
def rj{ts:À Nd}(he:ĕ)(a:Č 0):ϒ 0=0:=by
 obtain⟨n,h⟩:ϰ6 (ts[0]?):=ϙc
 erw[lvN];rw[uN h];change gZ _ n=0;erw[gZ];rw[Os<|(he 0 n h).1 rfl]
def dv(m:Nat):Int:=2^(9-m)
def CJ{m:Nat}(h:m+1<=9):dv m=2*dv (m+1):=by erw[dv];rw[ê (9-m=9-(m+1)+1),Int.pow_succ,Zai]
def yA{a b:Nat}(h:a<=b):dv b ∣ dv a:=by
 erw[dv];show(2^((9-a)-(9-b)),?_);rw[<-Int.pow_add];congr 1;lia
def Fu{m:Nat}(h:1<=m):dv m ∣ 256:=ϩH (yA h) this
def QJ{n:Nat}{d:Nat->å}{e:å}{D:Int}(h:ϥF)(c:ϯ4 (D ∣ d i j))(k:Nat)(K:k<n):D ∣ e k:=by
 induction k using Nat.strongRecOn with
 |ind k ih=>
  cases a:k=0
  .subst a
   rw[h.1];show Zdg _
  let(_,j,H,b):=h.2 k Á K;rw[b];show Zdl (ih j H Á)<|c j k H K
def P2{n:Nat}{d:Nat->å}{T:Int}{l:å}{D:Int}(h:ϥG l)(t:D ∣ T)(c:ϯ4 (D ∣ d i j)):∀m k,k+m+1=n->D ∣ l k:=by
 ext m
 induction m using Nat.strongRecOn with
 |ind m ih=>
  ext k K;cases a:m=0
  .subst a
   rw[ê (k=n-1),h.1];show t
  let(_,j,H,b,f):=h.2 k Á;rw[f];show Zfp (ih Ϸi Á j Á)<|c k j H b
def xh(D:Int)(o:Ol):Prop:=∀p∈o,D ∣ p.1/\D ∣ p.2
def xh.mono{D D':Int}{o:Ol}(h:xh D o)(d:D' ∣ D):xh D' o:=λp H=>⟨Zbp d (h p H).1,Zbp d (h p H).2⟩
def NA{Ds D:Int}{o p:Ol}(h:xh D o)(b:xh D p)(e:D ∣ 256)(L:1<=o.À)(l:ϓQ):D ∣ ϲR o p:=by
 let(a,as,A):=ϔR L l;let(M,_):=c_ (xs:=ϴc o p) (by rw[A];simp);rw[vx];generalize jE (ϴc o p)=z at M;erw[ask]at M;obtain⟨⟨x,y⟩,H,rfl⟩:=XV.mp M;let:=K7w H;show Zfp (Zdl (h x Ϻn).2<|Zbp e ϬU) (b y Ϥx).1
def uV{D e l:Int}(h:2*D ∣ e)(H:2*D ∣ l):D ∣ (e+l) / 2/\2*((e+l) / 2)=e+l:=by
 let(a,rfl):=h;let(b,rfl):=H;let e1:2*D*a+2*D*b=2*(D*(a+b)):=by rw[Zav,Zav,Zae,Zae]
 rw[e1,Zeg _ Ý];show(ϬU,rfl)
def FA{Ds D:Int}{O:À Ol}{E s T:À Int}(h:ύG E s T)(R:ϸS)(M:ϓ0 (2*D))(b:2*D ∣ 256):(∀k,϶7->2*D ∣ gv E k/\2*D ∣ ϱA k)/\∀k,϶7->D ∣ gv T k:=by
 let N:=ϺE;let d:∀i j,i<j->ϨC->2*D ∣ ϳv i j:=λi j c a=>by
  let m:=Zah (l:=O) (ê ό9);let J:=Zah (l:=O) a;rw[show ϳv i j=ϲR (O[i]) (O[j])by erw[dO];rw[Nu (ê ό9),Nu a];rfl];show NA (M _ m) (M _ J) b (R.1 _ m).1 (R.1 _ J).1
 let e:=QJ h.isE d;let L:∀k,϶7->2*D ∣ ϱA k:=ϲ1 (P2 h.isL (e _ Á) d (ĺ-k) k Á);show(ϲ1 ⟨e k H,L k H⟩,ϲ1 ?_);rw[h.eq k H];let z:=uV (e ĺ Á)<|Zdg<|2*D;rw[Zak]at z;show Zfp (uV (e k H)<|L k H).1 z.1
def ML{ts:À Nd}(Ds:Int)(he:ĕ)(f:Č 0)(g:é):∀m j,İ (j+m)->ϰg->Ã (í j)<=9->xh (dv (Ã (í j))) (í j):=by
 ext m
 induction m using Nat.strongRecOn with
 |ind m ih=>
  ext j A J G;let ln:=ώr f g J;let n:∀D:Int,D ∣ 256->xh D (ϱ4 j):=λD d p h=>by erw[ini]at h;rw[K95]at h;subst h;show(Zbp (Zbp d ⟨-1,Ý⟩) ϬU,Zbp d ϬU)
  cases C:Å j=[]
  .let e:í j=ϱ4 j:=by rw[ϥS f g J,Os C,K9d]
   rw[e];show n _ (Fu<|ϳY (1<=1))
  let R:=ϥT f g C;let e:í j=ϱ4 j++jo (Ê (Å j) í) (Ŭ<|Ê (Å j) í):=by rw[ϥS f g J,P3 C]
  obtain⟨⟨F,K,S⟩,_⟩:=ϻk R;let H:Ê (Å j) í≠[]:=by simp[C]
  let(_,_,X):=uD H;let E:Ã (í j)=1+mxN (Ê (Å j) í):=Ϛn
  let w:1<=mxN (Ê (Å j) í):=by
   let a:=X 0 (Ĳ ϺE);let b:=(R.1 _<|Zah (l:=Ê (Å j) í) (ύ (0<_) ϺE)).1;erw[l7]at a;rw[Nu (ύ (0<Ã (Ê (Å j) í)) ϺE)]at a;let a:Ã ((Ê (Å j) í)[0]'(ύ (0<_) ϺE))<=mxN (Ê (Å j) í):=a;lia
  let q:∀o∈Ê (Å j) í,xh (2*dv (mxN (Ê (Å j) í)+1)) o:=λo v=>by
   rw[<-CJ Á];let(i,N,I):=Zal v;let(c,x,rfl):=XV.mp v;let c1:=ϋ x;let lc:Ã (í c)<=mxN (Ê (Å j) í):=by let:=X i N;erw[l7]at this;rw[Nu N,I]at this;show this
   show Ů (ih ϒd Á c Á c1.2 Á)<|yA lc
  let d:2*dv (mxN (Ê (Å j) í)+1) ∣ 256:=Ϙ (CJ Á) (Fu w)
  let t:=(FA S R q d).2;rw[E,Zct];generalize T:Ŭ (Ê (Å j) í)=st at e t S;generalize y:Ê (Å j) í=O at e t q d R H X w S;let k:dv (ϴn+1) ∣ 256:=Zbp ⟨2,ϰT Zai⟩ d;rw[e];ext p h;rcases K9Y.mp h with h|h
  .show n _ k p h
  erw[jo]at h;let(l,M,rfl):=ϥ8;rw[K9G]at M;let tn:=n6 H M;let mem:∀i∈ϲP l,dv (ϴn+1) ∣ ϴo i/\ϕp (϶S i l):=λi hi=>by
   let u:=K89.mp hi;let N:=Ϸw u.1;let L:=ϷP u.2;show(t i N,?_);let B:=(q _<|Zah (l:=O) N).mono (D':=dv<|ϴn+1) ⟨2,ϰT Zai⟩;erw[oA];erw[l7]at L;rw[Nu N]at L⊢;let L:l<Ã (O[i]):=L;change ϕp (Ó (O[i][l]?) (0,0));rw[ϸT];show B _<|Zah L
  show(?_,?_)
  .let(r,_):=dS (xs:=Ê (ϲP l) λi=>ϴo i+(϶S i l).1) λz=>tn ϶V
   let(i,hi,s):=XV.mp r;change _ ∣ eT _;rw[<-s];show Zdl (ώs).1 (ώs).2.1
  let(r,_):=c_ (xs:=Ê (ϲP l) λi=>ϴo i+(϶S i l).2) λz=>tn ϶V;let(i,hi,s):=XV.mp r;change _ ∣ jE _;rw[<-s];show Zdl (ώs).1 (ώs).2.2
def NJ{ts:À Nd}(Ds:Int)(he:ĕ)(h:Č 0)(l:é)(d:Ϥh){j:Nat}(J:ϰg):Ã (í j)+ϒ j<=9:=by
 let io:=ϬV h l (ts.À-j) j Á J;let ln:=ώr h l J;let(k,H):=(io.í<|Ã (í j)-1).mp Á;let(a,b,c):=ϷC J H;let:=d k c;lia
def iQ:Fs:=(ao (ϳ6 ϊ)
 (ao (Ų<|bO<|ĝ (Ç 0))
 (ao (dX (Gk<|aD<|ϵB (ħ<|È 2 ai)<|Ç 0) (ao (IH 2 Ϧz)
 (ao (ϨZ Š)
 (Es 2<|Ϸ9<|È 0<|È 3 ai))))
 Ϥr)))
def df:Fn:=ϲ5 4 iQ
def nG:Fs:=(ao (Ų<|eD1 (ġ<|Ç 1)<|ġ<|Ç 1)
 (ao (bZ (iEn Ŋ) (ϡ<|Œ 3 4 bB)<|sDP 2 ş Š)
 (ao (ϱo<|Rs<|ϰr bY 1 (Ù 1 Ľ) 1 [0])
 (ϬK<|bF<|ϰr bY 5 (d_<|ae (ñ gDx 1<|Ù 0<|Ç 0)<|ae (Ù 0<|Ç 1)<|ĝ (Ù 0<|Ç 2)) 1 [2]))))
def gH:Fn:=ε 6 nG
def qY:Fs:=(ao (ϳ6<|Rs<|aj df<|È 0 ai)
 (bF<|d_<|ae (Rs<|aj gH<|È 0<|È 1 ai)<|È 1 ai))
def ki:Fn:=ϲ5 2 qY
def Ly(ts:À Nd)(c:F)(p:ç)(e:é):df [Ï è]=ģ (nO Κ):=by
 erw[df,iQ];simp![S5];generalize H:ϩc=r;apply sP H (λm d=>∃(f:F)(o:Ò)(C:Ü OD),ϳI Å f/\Ã ν=m/\(∀k∈ν,Ć)/\o++F.fM f=Κ/\d=[â è,Ň<|nO o,Ň<|nO ϸe,C])
  ts.À ⟨ϥC,[],_,p.con,Ĥ p.ğ Z7,ϖm,rfl,rfl⟩
  (λd=>∃V C:Ü OD,d=[â è,Ň<|nO Κ,V,C]) ?_ ?_
 .rintro m d ⟨f,o,C,hc,hm,hk,ho,rfl⟩
  cases h:ϸe=[]
  .left
   let:=A9 h;subst this;rw[F.fM'',K9d]at ho;subst ho;constructor
   .simp![iP,eF,F.roots]
   show(_,_,rfl)
  right;let(g,a,b,i,j,R,G,J,v,x):=Ic hc (λz=>h<|ϣ z) hk;let D:Õ (Ì 0<ä ((Ã (ϲS g++[a]))))=true:=Z8 Û;let ol:ϲv o.À:=by
   let:=Ż ho;rw[K9v,p.len]at this;lia
  let l:ϱK (Ã (nO o)):=Ô zo (c8 Á)
  let L:ϳs (Ã (nO<|ϲS g)+Ã (nO<|Å a)):=by
   rw[zo,zo,<-K9v,R];let:=F.Di ϶h;let q:ϱ0 (Ã (ϝ ϶h)):=by
    let:=Ż ho;rw[K9v,p.len,ϚP]at this;lia
   show aF Á
  rw[i];constructor
  .simp![iP,eF,D]
  rw[<-vA];simp![M9,l,eA ts a j e,L9,L];rw[vA,Gb,R];show(_,Á,϶h,o++[a],_,G,rfl,v,by rw[x];show ho,rfl)
 ext ρ' rfl ⟨V,C,rfl⟩;simp![S5]
def Fv(R:Ò)(i:Nat):À Ο:=(Ð<|-1,Ä<|-1)::Ê Ϥc (ϤQ (Ð (ä ϒ8),Ä Ĵ))
def Nj{k:Key}(h:∀p∈ks,p.1≠k):putD ks k d=ks++[(k,d)]:=by erw[putD];rw[P3];rw[Bool.not_eq_true,Zdm];ext p H;rw[K9k];show h p H
def Nl{R:Ò}(nd:R.Í)(hi:i<R.À)(J:ϫ8)(h:R[i]=R[j]):i=j:=by
 let a:=nd.ĕ i hi;let b:=nd.ĕ j J;rw[h]at a;lia
def Mm{R:Ò}(nd:R.Í){i k:Nat}(H:R[i]?=Ş):putD (Fv R i) (Ð ë) (Ä ÿ)=Fv R (i+1):=by
 rw[Nj]
 .unfold Fv
  rw[K8A,K9i,K92,K9w,H];rfl
 ext p h;erw[Fv]at h;rcases K8v.mp h with rfl|h
 .intro z
  let:=K82 z;lia
 let(j,J,rfl):=ϥ8;rw[K9G]at J;ext z;let Z:=K82 z;let(a,b):=ϭf;rw[Nu<|ê ϫ8]at Z;let Z:ä (R[j])=ë:=Z;let:=Nl nd (ê ϫ8) a (by rw[b];lia);lia
def Nz(R:Ò)(i:Nat):gE (Fv R i) (Ð<|-1)=Â (Ä<|-1):=by erw[gE,Fv];rw[K8p];simp
def Vd{R:Ò}(nd:R.Í){i k:Nat}(H:R[i]?=Ş):gE (Fv R R.À) (Ð ë)=Â (Ä ÿ):=by
 erw[gE,Fv];let a:ł (Õ (ϓv (-1)=Ð ë)):=K9q λz=>Ĳ (K82 z)
 let(h,b):=ϭf;rw[K8p,a,List.find?_map];let:(ϱQ R.À).find? ((λv:Ο=>Õ<|v.1=Ð ë)∘ϤQ (Ð (ä ϒ8),int Ĵ))=ϸv:=by
  rw[List.find?_range_eq_some];show(?_,ϔD,ϳo)
  .change Õ (ϓv ((ä (R[i]?.getD 0)))=Ð ë)=true
   rw[H];show Ϥy
  change(! Õ (ϓv ((ä ϒ8))=Ð ë))=true;rw[Zeh,decide_eq_false_iff_not];ext z;let Z:=K82 z;rw[Nu<|ê ϫ8]at Z;let Z:ä (R[j])=ë:=Z;let:=Nl nd (ê ϫ8) h (by rw[b];lia);lia
 rw[this];rfl
def KQ{ts:À Nd}{c:F}(p:ç){k:Nat}(h:Ć):gE (Fv Κ ts.À) (Ð (ϯ).e)=Â (Ä<|Ϻe (ϯ).e):=by
 rw[ue h];rcases p.elder h with z|⟨j,J,a⟩
 .rw[z,Nz]
  rfl
 rw[a];let:=Vd p.nodup<|p.at_g J;rw[p.len]at this;rw[this];let e:Ϻe Ĵ=Ì (Ĺ j):=Ϗ F.gi (P3 Á)
 rw[e]
def KG(ts:À Nd)(c:F)(p:ç)(f:é):gH [Ï è,Ï<|nD Κ]=.ok (Ę<|ak ć):=by
 erw[gH,nG];let D:∀a:L3.Env,eD1 (ġ<|Ç 1) (ġ<|Ç 1) a=.ok (.od<|Fv Κ 0):=λa=>rfl;let len:=p.í;simp![D];generalize L:Ŗ=r';show ϳ1 (λi a=>∃C v:Ü OD,a=[â è,â<|nD Κ,ϩK<|Fv Κ i,C,v,none]) ((ϲi _))
 .rintro i d a hd ⟨C,v,rfl⟩
  let(e,he,rfl):=kY hd;let hi:i<Ã Κ:=ϱD ((ϱb he)) eF
  obtain⟨k,H⟩:∃k,á Κ=Ş:=⟨Κ[i],Û⟩
  rw[Rp H]at he;cases he;let b:ϱK (Ã (Fv Κ i)):=by erw[Fv];rw[K9p,K0,Z7];show c8 Á
  simp![Fz,FV,b,Mm p.nodup H];show(_,_,rfl)
 ext ρ' rfl ⟨C,v,rfl⟩;let E:İ (Ã (fC<|nD Κ)):=ϑh eF len
 rw[E];simp![S5];generalize w:Į=rc;let e:=϶R (ϳk ë) (ϦD<|ndD ϯ) Κ Ϯj (Ô len<|K94<|aF Á) (by ext k H;let h:=p.mem.mp H;let g1:=fZ<|yR h;simp![g1,ndD]);subst e;clear w;let g:(Ê Κ λk=>Đ<|ndD ϯ).map OD.er=Ê Κ λk=>ndD ϯ:=Ô S1 Ϥ4
 simp![g,RI];generalize w:Į=rc;let e:=϶R (ϰU<|ndD ϯ) (ϦD<|ndD Ϧ0) Κ rfl (Ô len<|K94<|aF Á) (by ext k H;let h:=p.mem.mp H;let g1:=KQ p h;simp![ndD,Zw,g1]);subst e;clear w;let G:(Ê Κ λk=>Đ<|ndD Ϧ0)=ß ak ć OD.sh:=by erw[ak,aR];rw[S1,S1];rfl
 simp![G]
def CZ(ts:À Nd)(c:F)(p:ç)(a:é):ki [Ï è]=þ (Ą [Ï<|ak ć,Ï<|nD Κ]):=by erw[ki,qY];simp![Ly ts c p a,iP,KG ts c p a,aI]
namespace Lp
abbrev Row:=å
def sm:Nat->ϴy å|0,_=>0|n+1,f=>ĳ f+f n
def sm''{w0}:sm 0 w0=0:=rfl
def sm.a2{n f}:sm (n+1) f=(ĳ f+f n):=rfl
def pd:Nat->ϴy å|0,_=>1|n+1,f=>ϴv f*f n
def pd''{w0}:pd 0 w0=1:=rfl
def pd'{n f}:pd (n+1) f=(ϴv f*f n):=rfl
def px(n:Nat)(f:å)(i:Nat):Int:=ϴv (λk=>Ë (k=i) 1 (f k))
def aM{f g:å}:∀n,(ŵ<|f i=g i)->ĳ f=ĳ g:=by
 induction _ with|zero=>ext _;show rfl|succ n N3=>ext h;rw[sm.a2,sm.a2,ϺV,Ϩv]
def kH(a b:Int)(f g:å):∀n,ĳ (λi=>a*f i+b*g i)=a*ĳ f+b*ĳ g:=by
 induction _ with|zero=>rw[sm'',sm'',sm'',Zaa,Zaa];rfl|succ n N3=>rw[sm.a2,sm.a2,sm.a2,N3,Zav,Zav];lia
def cJ{f:å}:∀n,(ŵ<|f i=0)->ĳ f=0:=by
 induction _ with|zero=>ext _;show rfl|succ n N3=>ext h;rw[sm.a2,ϺV,Ϩv];rfl
def c7{f:å}{l:Nat}:∀n,l<n->(ŵ<|i≠l->f i=0)->ĳ f=f l:=by
 induction _ with
 |zero=>ext h _;show ϻx<|Zbh l
 |succ n N3=>
  ext h z;rw[sm.a2];cases e:l=n
  .subst e
   rw[cJ _ λi hi=>ϙy<|K9O hi,K8R]
  rw[N3 Á λi hi=>ϙy,z n (K8d n) ϩX,Zak]
def ED{f:å}:∀n,(ŵ<|0<=f i)->0<=ĳ f:=by
 induction _ with|zero=>ext _;show Zbr 0|succ n N3=>ext h;show Zfa ϺV Ϩv
theorem Ki{f:å}:∀n,ĳ f<0->∃i,i<n/\f i<0
 |0,h=>ϻx<|Int.lt_irrefl 0
 |n+1,h=>by
  cases e:f n<0
  .exact(n,K8d n,e)
  .rw[sm]at h
   let(i,H,a):=Ki (f:=f) n Á;show(i,K8f H,a)
def Mb{f:å}:∀n,(ŵ<|0<f i)->0<ϴv f:=by
 induction _ with|zero=>ext _;show Zdw|succ n N3=>ext h;show Zay ϺV Ϩv
def SF{f g:å}:∀n,(ŵ<|f i=g i)->ϴv f=ϴv g:=by
 induction _ with|zero=>ext _;show rfl|succ n N3=>ext h;rw[pd',pd',ϺV,Ϩv]
theorem Cj{f:å}{i:Nat}:∀n,i<n->f i*px n f i=ϴv f
 |0,h=>ϻx<|Zbh i
 |n+1,h=>by
  erw[px];rw[pd',pd'];cases e:n=i
  .subst e
   rw[Ĝ,Zbl,SF n (f:=λk=>Ë (k=n) 1 (f k)) (g:=f) λk H=>P3<|K9O H,Zai]
  .rw[ϲs,<-Cj (f:=f) (i:=i) n Á,Zae]
   rfl
def Bg{f:å}{i:Nat}(n:Nat)(h:ŵ (0<f i)):0<px n f i:=
 Mb n λk H=>by
  change 0<Ë (k=i) 1 (f k)
  split
  .decide
  .show h k H
def Lin(φ:ϴy Row):Prop:=∀(a b:Int)(x y:Row),φ (λj=>a*x j+b*y j)=a*φ x+b*φ y
def Lin.sub{φ:ϴy Row}(h:ϩ7){g p q:Int}{x' x y:Row}(e:∀j,g*x' j=p*x j-q*y j):g*φ x'=p*φ x-q*φ y:=by
 let H:=h g 0 x' x';let a:=h p (-q) x y;let f:(λj=>g*x' j+0*x' j)=λj=>p*x j+-q*y j:=by
  funext j;rw[Zam,Zak,e j,Zcc];lia
 rw[f,a,Zam,Zak,Zcc]at H;lia
structure St where
 T:Ϸg
 c:ņ
variable{n m z k:Nat}{R:Ϸg}
structure Inv(n m z k:Nat)(R:Ϸg)(S:St):Prop where
 piv:ŵ (0<ă ń)
 off:ŵ (∀l,l<=n->l≠i->S.T l ń=0)
 col:ŵ (ń<m)
 rhs:ŵ (0<=ă z)
 up:∀φ,ϩ7->(ŵ<|φ ă=0)->ŵ ϔE
 dn:∀φ,ϩ7->(ŵ ϔE)->(ŵ<|φ ă=0)/\φ ň=ň k*φ (R n)
 mp:0<ň k
 mz:ŵ (ă k=0)
structure Stp(n m z:Nat)(S S':St)(s r:Nat):Prop where
 hs:s<m
 pos:0<ň s
 fst:∀j,j<s->ň j<=0
 hr:r<n
 rp:0<ϱx s
 best:ŵ (0<ă s->Ϯb (ϱx z) (ă s) (ă z) (ϱx s) (S.c r<=ń))
 same:S'.T r=ϱx
 oth:ϲO (i≠r->∃g:Int,0<g/\∀j,g*S'.T i j=ϱx s*ă j-ă s*ϱx j)
 cr:S'.c r=s
 co:ŵ (i≠r->S'.c i=ń)
def tV{g a:Int}(hg:0<g)(h:0<g*a):0<a:=by
 cases e:0<a
 .show e
 let:=Int.mul_nonneg_of_nonpos_of_nonpos (a:=-g) (b:=a) Á Á;rw[Zcc]at this;lia
def RQ{g a:Int}(hg:0<g)(h:0<=g*a):0<=a:=by
 cases e:0<=a
 .show e
 let:=Zay hg (b:=-a) Á;rw[Zcx]at this;lia
def CO{g a:Int}(hg:0<g)(h:g*a=0):a=0:=by
 rcases Int.mul_eq_zero.mp h with e|e
 .lia
 show e
def Inv.step{S j:St}{s r:Nat}(I:ϰu S)(h:ϸh S j s r):ϰu j where
 piv i hi:=by
  cases e:i=r
  .subst e
   rw[h.same,h.cr];show h.rp
  .let(g,hg,q):=Ϧd ϴW e
   let H:=q ń;rw[ϕu ϩX,Zaa,Zau]at H;rw[ϥH e];show tV hg (ϫX<|Zay h.rp<|I.piv i hi)
 off i hi l L hne:=by
  cases e:i=r
  .subst e
   let(g,hg,q):=h.oth l L hne;let H:=q s;rw[h.cr];show CO hg (by rw[H,Zai<|S.T l s];lia)
  .rw[ϥH e]
   cases E:l=r
   .subst E
    rw[h.same];show ϫ9 l L hne
   .let(g,hg,q):=h.oth l L E
    let H:=q ń;rw[ϫ9 l L hne,ϕu ϩX,Zaa,Zaa]at H;show CO hg H
 col i hi:=by
  cases e:i=r
  .subst e
   rw[h.cr];show h.hs
  .rw[ϥH e]
   show ϓS
 rhs i hi:=by
  cases e:i=r
  .subst e
   rw[h.same];show ϓn
  .let(g,hg,q):=Ϧd ϴW e
   show RQ hg ?_;rw[q z];let p:=Zag (Zar h.rp) ϓn;cases E:0<ă s
   .let:=h.best i hi E
    rw[Zai<|ϱx z,Zai<|ă z]at this;lia
   .let A:=ϤR (-ă s) (b:=ϱx z) Á<|I.rhs r h.hr
    rw[Zcc]at A;lia
 up φ hφ hz i hi:=by
  let d:φ ϱx=0:=by
   let:=hz r h.hr;rwa [h.same]at this
  show I.up φ hφ ϔS i hi;cases e:l=r
  .subst e
   show d
  .let(g,hg,q):=h.oth l (Zaj L) e
   let H:=hφ.sub q;rw[hz l L,d,Zaa,Zaa,Zau]at H;show CO h.rp H.Ï
 dn φ hφ hz:=by
  let(H,o):=I.dn φ hφ hz;show(ϔS,?_)
  .by_cases e:l=r
   .subst e
    rw[h.same];show H l L
   .let(g,hg,q):=h.oth l (Zaj L) e
    let f:=hφ.sub q;rw[H l L,H r h.hr,Zaa,Zaa]at f;show CO hg f
  .let(g,hg,q):=h.oth n ϰm<|Zbx h.hr
   let f:=hφ.sub q;let c:=q k;rw[H r h.hr,o,Zaa,Zau]at f;rw[όE,Zaa,Zau]at c;show ϔN hg;rw[f,<-Zae,<-c,Zae]
 mp:=by let(g,hg,q):=h.oth n ϰm<|Zbx h.hr;let c:=q k;rw[όE,Zaa,Zau]at c;show tV hg (ϔQ<|Zay h.rp I.mp)
 mz i hi:=by
  cases e:i=r
  .subst e
   rw[h.same];show I.mz i hi
  .let(g,hg,q):=Ϧd ϴW e
   let c:=q k;rw[όE,I.mz i hi,Zaa,Zaa]at c;show CO hg c
def P(n:Nat)(S:St):Int:=ϴv (λi=>ă ń)
def Q(n:Nat)(S:St)(i:Nat):Int:=px n (λi=>ă ń) i
def ph(n:Nat)(S:St)(c:Nat)(a:Row):Int:=϶I*a c-ĳ (λi=>ă c*ϱM*a ń)
def vV(n:Nat)(S:St)(c:Nat):Lin (϶y c):=λa b x y=>by
 change ϶I*(a*x c+b*y c)-ĳ (λi=>ă c*ϱM*(ϯw ń))=a*(϶I*x c-ĳ (λi=>ă c*ϱM*x ń))+b*(϶I*y c-ĳ (λi=>ă c*ϱM*y ń));let h:=kH a b (λi=>ă c*ϱM*x ń) (λi=>ă c*ϱM*y ń) n;let H:(λi=>ă c*ϱM*(ϯw ń))=λi=>a*(ă c*ϱM*x ń)+b*(ă c*ϱM*y ń):=by
  funext i;rw[Zav,Zad _ a,Zad _ b]
 rw[H,h,Zbw,Zbw,Zav,Zad _ a,Zad _ b];lia
def w_{S:St}(I:ϰu S):0<϶I:=Mb n I.piv
def Ml{S:St}(I:ϰu S)(i:Nat):0<ϱM:=Bg n I.piv
def PQ{S:St}{i:Nat}(hi:i<n):ă ń*ϱM=϶I:=Cj (f:=λi=>ă ń) n hi
def TM{S:St}(I:ϰu S)(c:Nat){l:Nat}(a:l<n):϶y c (S.T l)=0:=by
 erw[ph];rw[c7 n a λi hi h=>Ĥ (ϫ9 l (Zaj a) Ϧm) Zaa,Zae,Zai<|Q n S l,PQ a,Zai];lia
def Ow{S:St}(I:ϰu S)(c:Nat):϶y c ň=϶I*ň c:=χ ph (cJ n (ϰp (Ĥ (ϫ9 n ϰm<|Zbx hi) Zaa))) Zau
def nK{S:St}(I:ϰu S)(c:Nat):ŵ (϶y c (R i)=0):=
 I.up _ (ϨX c) λx a=>TM I c a
def BE{S:St}(I:ϰu S)(c:Nat):϶I*ň c=ň k*϶y c (R n):=Ϙ (Ow I c) (I.dn _ (ϨX c)<|nK I c).2
def Ln{S U:St}(I:ϰu S)(J:ϰu U)(c:Nat):϶y c ϸN=ϸN k*϶y c (R n):=
 (J.dn _ (ϨX c)<|nK I c).2
def Qp{S U:St}{s:Nat}(I:ϰu S)(J:ϰu U)(h:0<ň s):0<϶y s ϸN:=by rw[Ln I J s];show Zay J.mp<|tV I.mp ?_;rw[<-BE I s];show Zay Ϫm h
def Ma{S U:St}{s:Nat}(I:ϰu S)(J:ϰu U)(h:0<ň s)(j:ϸN s<=0):∃i,i<n/\ă s*ϸN ń<0:=by
 let H:=Qp I J h;erw[ph]at H;let c:=Zag (Zar Ϫm) (b:=-ϸN s) Á;rw[Zcx]at c;let(i,hi,g):=Ki (f:=λi=>ă s*ϱM*ϸN ń) n Á;show(i,hi,?_);let d:ă s*ϱM*ϸN ń<0:=g;rw[Zcs]at d;cases e:ă s*ϸN ń<0
 .show e
 let:=ϤR (ă s*ϸN ń) Á ϒ9;lia
def Bas(n:Nat)(S:St)(v:Nat):Prop:=∃i,i<n/\ń=v
def Ze(n z:Nat)(S:St)(v:Nat):Prop:=ŵ (ń=v->ă z=0)
def Bas.stay{S a:St}{s r v:Nat}(h:ϸh S a s r)(H:v≠s)(b:v≠S.c r):Bas n S v↔Bas n a v:=by
 constructor
 .rintro⟨i,hi,e⟩
  let:i≠r:=λq=>b (by rw[<-e,q]);show(i,hi,by rw[ϥH this,e])
 ext⟨i,hi,e⟩;cases q:i=r
 .subst q
  rw[h.cr]at e;show ĭ e.Ï H
 show(i,hi,by rw[<-ϥH q,e])
def Ze.stay{S a:St}{s r:Nat}(h:ϸh S a s r)(d:ϱx z=0)(v:Nat):Ze n z S v↔Ze n z a v:=by
 constructor
 .intro q i hi e
  cases E:i=r
  .subst E
   rw[h.same,d]
  let(g,hg,w):=Ϧd ϴW E;let H:=w z;rw[q i hi (by rw[<-ϥH E,e]),d,Zaa,Zaa]at H;show CO hg H
 ext q i hi e;cases E:i=r
 .subst E
  show d
 let(g,hg,w):=Ϧd ϴW E;let H:=w z;rw[q i hi (by rw[ϥH E,e]),d,Zaa,Zaa,Zau]at H;show CO h.rp H.Ï
structure Run(n m z k:Nat)(R:Ϸg)(S:Ϧe)(s r:ņ)(a b:Nat):Prop where
 inv:∀i,a<=i->i<=b->ϰu (S i)
 stp:Ϲs (ϸh (S i) ϥV (s i) (r i))
 dg:Ϲs (Ϧf (r i) z=0)
def Run.sub{S:Ϧe}{s r:ņ}{a b A B:Nat}(h:ϧm a b)(H:a<=A)(c:B<=b):ϧm A B:=
 ⟨ϐn h.inv K9C,ϐn h.ē K9P,ϐn h.dg K9P⟩
def Run.ze{S:Ϧe}{s r:ņ}{a b:Nat}(h:ϧm a b)(v:Nat):∀d,a+d<=b->(Ze n z (S a) v↔Ze n z (S<|a+d) v)|0,_=>Iff.rfl|d+1,q=>ĉ (h.ze v d Á)<|Ze.stay (h.ē (a+d) Á Á) (h.dg (a+d) Á Á) v
def Run.bas{S:Ϧe}{s r:ņ}{a b v:Nat}(h:ϧm a b)(H:Ϲs (v≠s i/\v≠ϥe)):∀d,a+d<=b->(Bas n (S a) v↔ϩs (a+d) v)|0,_=>Iff.rfl|d+1,q=>ĉ (h.bas H d Á)<|Bas.stay (h.ē (a+d) Á Á) (H (a+d) Á Á).1 (H (a+d) Á Á).2
def Inv.nb{S:St}{v:Nat}(I:ϰu S)(h:ň v≠0):¬Bas n S v:=by ext⟨i,hi,e⟩;show h (by rw[<-e];show ϫ9 n ϰm<|Zbx hi)
def Run.once{S:Ϧe}{s r:ņ}{a b t p q:Nat}(h:ϧm a b)(B:Ϲs (s i<=t/\ϥe<=t))
  (P:a<=p) (p2:p<b) (E:s p=t) (Q:a<=q) (f:q<b) (eq:(S q).c (r q)=t):False:=by
 let H:=h.inv q Q<|Zaj f;let U:=h.inv p P<|Zaj p2;let d:=h.ē q Q f;let u:=h.ē p P p2;let l:s q≠t:=λe=>by
  let:=H.off (r q) d.hr n ϰm<|Zbx d.hr;rw[eq,<-e]at this;let:=d.ú;lia
 let L:s q<t:=Nat.lt_of_le_of_ne (B q Q f).1 l;let(i,hi,g):=Ma H U d.ú (u.fst _<|by rw[E];show L);let N:(S p).T n ϶i≠0:=λe=>by
  rw[e,Zaa]at g;lia
 let nb:=U.nb N;let A:ϩs q ϶i:=ϒe;let hle:϶i<=t:=by
  cases e:϶i<=t
  .show e
  show ĭ ?_ nb;let V:∀j,a<=j->j<b->϶i≠s j/\϶i≠(S j).c (r j):=λj D F=>ϩH (B j D F) (ϙY Ϻn,ϙY Ϥx)
  let x:=h.bas V (q-a) Á;let X:=h.bas V (p-a) Á;rw[ê (a+(q-a)=q)]at x;rw[ê (a+(p-a)=p)]at X;show X.mp<|x.ó A
 let y:϶i≠t:=λe=>by
  let C:i=r q:=by
   cases w:i=r q
   .show w
   let:=ϛX<|K8g w;rw[e,<-eq]at this;let:=H.piv (r q) d.hr;lia
  let v:=u.ú;rw[E]at v;rw[e,C]at g;let:=Zay d.rp v;lia
 let G:(S p).T n ϶i<=0:=u.fst _ (by rw[E];lia);let o:0<ϑW:=by
  cases e:0<ϑW
  .show e
  let:=ϤR (-ϑW) (b:=-(S p).T n ϶i) Á Á;rw[Zet]at this;lia
 let K:Ze n z (S q) ϶i:=by
  let x:=h.ze ϶i (q-a) Á;let X:=h.ze ϶i (p-a) Á;rw[ê (a+(q-a)=q)]at x;rw[ê (a+(p-a)=p)]at X;show x.mp<|X.ó λj J e=>ĭ ⟨j,J,e⟩ nb
 let Z:=K i hi rfl;let I:=h.dg q Q f;let:=d.best i hi o;rw[Z,I,eq,Zam,Zam]at this;lia
def Run.short{S:Ϧe}{s r:ņ}:∀(t a b:Nat),ϧm a b->a<=b->(Ϲs<|s i<t/\ϥe<t)->b-a<2^t:=by
 induction _ with
  |zero=>
   intro a b h hab hb
   cases e:a=b
   .subst e
    rw[K8c];decide
   .show ĭ (hb a (N4 a) Á).1<|Zbh _
  |succ t ih=>
   intro a b h hab hb
   let two:2^(t+1)=2^t+2^t:=Ă Zcm
   let H:Ϲs (s i<=t/\ϥe<=t):=λi o q=>⟨Nat.le_of_lt_succ (hb i o q).1,Nat.le_of_lt_succ (hb i o q).2⟩
   let main:∀p,a<=p->p<b->(Ϲs<|i≠p->s i≠t/\ϥe≠t)->b-a<2^(t+1):=λp T p2 O=>by
    let W:=ih a p (h.sub (N4 a)<|Zaj p2) T λi I f=>ϓl (H i I<|Zce f p2) (O i I (Zce f p2)<|K9O f)
    let F:=ih (p+1) b (ϛN<|N4 b) p2 λi I f=>ϓl (H i Á f) (O i Á f Á)
    rw[two];lia
   cases c1:∃p,a<=p/\p<b/\s p=t
   .let(p,T,p2,P):=c1
    let no:Ϲs (ϥe≠t):=λi I f e=>h.once H T p2 P I f e;show main p T p2 λi I f N=>⟨λe=>?_,no i I f⟩
    let key:Ϙi (s u) (s v):=λu v U l A V x ev=>by
     let B:ϩs (u+1) t:=⟨r u,(ϓT).hr,by rw[(ϓT).cr,x]⟩
     let bs:∀d,϶x<=v->ϩs ϶x t:=by
      ext d
      induction d with
      |zero=>ext _;show B
      |succ d ih=>
       ext D;let(j,J,E):=ih Á;let g:=h.ē ϶x Á Á;let y:j≠r ϶x:=λw=>no ϶x Á Á (by rw[<-w,E]);show(j,J,by rw[ê (u+1+(d+1)=϶x+1),g.co j J y,E])
     let bv:=bs ϨN Á;rw[ê (u+1+ϨN=v)]at bv;let pv:=(h.ē v Á A).pos;rw[ev]at pv;show(h.inv v Á Á).nb (Zbd pv) bv
    rcases Zec N with w|w
    .show ϙP
    .show ϙQ
   .let ns:Ϲs (s i≠t):=λi I f e=>c1 ⟨i,I,f,e⟩
    cases L:∃p,a<=p/\p<b/\(S p).c (r p)=t
    .let(p,T,p2,P):=L
     show main p T p2 λi I f N=>⟨ns i I f,λe=>?_⟩
     let key:Ϙi ((S u).c (r u)) ((S v).c (r v)):=λu v U l A V x ev=>by
      let C:¬ϩs (u+1) t:=by
       ext⟨j,J,E⟩;let g:=ϓT;cases w:j=r u
       .subst w
        rw[g.cr]at E;show ns u U l E
       .rw[g.co j J w]at E
        let o:=(Ϙ1 Á).off j J (r u) (Zaj g.hr)<|K8g w;let q:=(Ϙ1 Á).piv (r u) g.hr;rw[E]at o;rw[x]at q;lia
      let bs:∀d,϶x<=v->¬ϩs ϶x t:=by
       ext d
       induction d with
       |zero=>ext _;show C
       |succ d ih=>
        ext D;ext⟨j,J,E⟩;let g:=h.ē ϶x Á Á;rw[ê (u+1+(d+1)=϶x+1)]at E;cases w:j=r ϶x
        .rw[w,g.cr]at E
         show ns ϶x Á Á E
        .rw[g.co j J w]at E
         show ih Á ⟨j,J,E⟩
      let bv:=bs ϨN Á;rw[ê (u+1+ϨN=v)]at bv;show bv ⟨r v,(h.ē v Á A).hr,ev⟩
     rcases Zec N with w|w
     .show ϙP
     .show ϙQ
    .let:=ih a b h hab λi I f=>by
      let:=H i I f;let:=ns i I f;let:ϥe≠t:=λe=>L ⟨i,I,f,e⟩;lia
     rw[two];lia
end Lp
namespace Lp
variable{n m z k:Nat}{R:Ϸg}
structure Dual(n m:Nat)(R:Ϸg)(u:Int)(d:Row):Prop where
 up:0<u
 le:∀j,j<m->d j<=0
 lin:∀φ,ϩ7->(ŵ ϔE)->φ d=u*φ (R n)
def Dual.bound{u:Int}{d:Row}(D:Ϥ9){S:St}(I:ϰu S):ň k*d z<=u*ň z:=by
 let h:=BE I z;let H:=D.lin _ (ϨX z)<|nK I z;let c:϶I*d z<=϶y z d:=by
  erw[ph];let:ĳ (λi=>ă z*ϱM*d ń)<=0:=by
   let e:=ED (f:=λi=>0*0+(-1)*(ă z*ϱM*d ń)) n λi hi=>by
    let g:=Zag (Zag ϓn ϒ9) (b:=-d ń) (Ĳ<|D.le _ ϓS);rw[Zcx]at g;change 0<=0*0+(-1)*(ă z*ϱM*d ń);lia
   rw[kH 0 (-1) (Ţ 0) (λi=>ă z*ϱM*d ń) n]at e;lia
  lia
 let r:=Ϫm;let M:=I.mp;show Zci (a:=϶I) ?_ r;rw[Zad ϶I u,h,Zad u,<-H,Zad];show Zat c<|Zar M
def Dual.some{u:Int}{d:Row}(D:Ϥ9){S:St}(I:ϰu S){s:Nat}(l:s<m)(h:0<ň s):∃i,i<n/\0<ă s:=by
 show ϫH;let N:ŵ (ă s<=0):=ϰp (Int.not_lt.mp λw=>no ⟨i,hi,w⟩);let H:=BE I s;let c:=D.lin _ (ϨX s)<|nK I s;let e:0<϶y s (R n):=tV I.mp (by rw[<-H];show Zay Ϫm h);let o:0<϶y s d:=ϔQ (Zay D.up e)
 let g:϶y s d<=0:=by
  erw[ph];let p:=ED (f:=λi=>ă s*ϱM*d ń) n λi hi=>by
   let g:=Zag (ϤR (-ă s) (Ĳ<|N i hi) ϒ9) (b:=-d ń) (Ĳ<|D.le _ ϓS);rw[Zcc,Zet]at g;show g
  let j:=Zag (Zar Ϫm) (b:=-d s) (Ĳ<|D.le s l);rw[Zcx]at j;lia
 lia
def fac:å|0=>1|h+1=>fac h*(h+1)
def GZ:∀h,0<fac h:=by
 induction _ with|zero=>show Zdw|succ h N3=>show Zay (N3) Á
def Oc:∀(h:Nat)(a:Int),0<a->a<=h->a ∣ fac h:=by
 induction _ with
 |zero=>
  ext a H b;lia
 |succ h N3=>
  ext a H b;cases e:a=(h:Int)+1
  .exact(fac h,by rw[e,fac,Zai])
  let(c,C):=N3 a H Á;show(c*(h+1),by rw[fac,C,Zae])
def wt(n z k H:Nat)(S:St):Int:=ϴm / ň k*ň z
def LL{S:St}{H:Nat}(I:ϰu S)(h:ň k<=H):ϳZ S*ň k=ϴm*ň z:=χ wt Zcs (Int.ediv_mul_cancel<|Oc H _ I.mp h)
def PH{S a:St}{s r H:Nat}(I:ϰu S)(h:ϸh S a s r)(j:ň k<=H)(l:ϸs<=H):
  ϳZ a<=ϳZ S/\(ϱx z≠0->ϳZ a<ϳZ S):=by
 let i:=I.step h;let e1:=LL I j;let E:=LL i l;let(g,hg,q):=h.oth n ϰm<|Zbx h.hr;let o:=q z;let Q:=q k;rw[όE,Zaa,Zau]at Q;let M:=I.mp;let b:=i.mp;let f:=GZ H;let B:=I.rhs r h.hr;let p:=h.ú;let key:g*(ϭh*ň k-ň z*ϸs)=-(ň s*ϱx z*ň k):=by
  rw[Zbw,<-Zae,o,Zad g,Q,Zdn,Zad<|ň z,<-Zae (ϱx s)];lia
 let e:(ϳZ S-ϳZ a)*(ň k*ϸs)*g=ϴm*(ň s*ϱx z*ň k):=by
  let A:ϳZ S*(ň k*ϸs)=ϴm*(ň z*ϸs):=by rw[<-Zae,e1,Zae]
  let c:ϳZ a*(ň k*ϸs)=ϴm*(ϭh*ň k):=by rw[Zai<|ň k,<-Zae,E,Zae]
  rw[Zdn,A,c,<-Zbw,Zae,Zai _ g];let:g*(ň z*ϸs-ϭh*ň k)=ň s*ϱx z*ň k:=by
   let d:ň z*ϸs-ϭh*ň k=-(ϭh*ň k-ň z*ϸs):=Á
   rw[d,Zcx,key,Int.neg_neg]
  rw[this]
 let w:0<ň k*ϸs*g:=Zay (Zay M b) hg;let sgn:0<=ϴm*(ň s*ϱx z*ň k):=Zag (Zar f)<|Ϝm<|Zar M;rw[Zae,Zai]at e;constructor
 .let:=RQ w (ϻr sgn)
  lia
 ext N;let:=tV w (ϻr<|Zay f<|Zay (Zay p Á) M);lia
def VN{S:Ϧe}{s r:ņ}{u:Int}{d:Row}{H:Nat}(D:Ϥ9)(h:∀i,ϰu<|S i)(o:∀i,ϸh (S i) ϥV (s i)<|r i)(p:∀i,Ϧf n k<=H):False:=by
 let -zeta f:å:=λi=>u*ϳZ (S i)-ϴm*d z
 let U:=D.up;let fn:∀i,0<=f i:=λi=>by
  let g:=D.bound<|h i;let j:=LL (h i)<|p i;let l:ϴm*(Ϧf n k*d z)<=ϴm*(u*Ϧf n z):=Zat g<|Zar<|GZ H;rw[Zad ϴm u,<-j,Zad,<-Zae u,Zai _<|Ϧf n k]at l;let:=Zci l (h i).mp;change 0<=u*ϳZ (S i)-ϴm*d z;omega
 let fd:∀i,f (i+1)<=f i/\(Ϧf (r i) z≠0->f (i+1)<f i):=λi=>by
  let(A,t):=Ϝn<|p<|i+1;show(?_,λw=>?_)
  .let:=Zat A<|Zar U
   change u*ϳZ ϥV-ϴm*d z<=u*ϳZ (S i)-ϴm*d z;omega
  let:=Int.mul_lt_mul_of_pos_left (t w) U;change u*ϳZ ϥV-ϴm*d z<u*ϳZ (S i)-ϴm*d z;omega
 let mono:∀a c,f (a+c)<=f a:=by
  ext a c
  induction c with|zero=>show ϺC|succ c ih=>show Zeq (fd<|a+c).1 ih
 let B:∀q:Nat,f Ϻs+q<=f 0:=by
  ext q
  induction q with
  |zero=>rw[Nat.zero_mul];show Int.le_of_eq<|Zak _
  |succ q ih=>
   let:∃i,Ϻs<=i/\i<Ϻs+2^m/\Ϧf (r i) z≠0:=by
    show ϫH;let:=Run.short (n:=n) (z:=z) (k:=k) (R:=R) (S:=S) (s:=s) (r:=r) m Ϻs (Ϻs+2^m) ⟨λi x x=>h i,λi x x=>o i,λi g j=>Zbc λw=>no ⟨i,g,j,w⟩⟩ (Nat.le_add_right _ _)
     λi x x=>⟨(o i).hs,(h i).col _ (o i).hr⟩
    omega
   let(i,g,j,l):=this;let b1:=mono Ϻs<|i-Ϻs;rw[show Ϻs+(i-Ϻs)=i by omega]at b1;let v:=(fd i).2 l;let I:=mono (i+1) ϚQ;rw[show i+1+ϚQ=(q+1)*2^m by rw[Zdo];omega]at I;omega
 let b:=B<|ĩ (f 0)+1;let c:=fn<|(ĩ (f 0)+1)*2^m;let e:=fn 0;omega
def it{a:Type}(nx:a->a):Nat->a->a|0,x=>x|i+1,x=>it nx i Ϫd
def GC{a:Type}(nx:a->a):∀(i:Nat)(x:a),it nx (i+1) x=nx Ϩm:=by
 induction _ with|zero=>ext _;show rfl|succ i N3=>ext x;show N3 Ϫd
def Be{a:Type}(nx:a->a)(p:a->Prop):Nat->a->Prop|0,x=>p x|i+1,x=>¬p x/\Be nx p i Ϫd
def QH{a:Type}{nx:a->a}{p:a->Prop}:∀(i:Nat)(x:a),p Ϩm->∃j,Be nx p j x:=by
 induction _ with
 |zero=>ext x h;show(0,h)
 |succ i N3=>
  ext x h;cases e:p x
  .exact(0,e)
  let(j,J):=N3 Ϫd h;show(j+1,e,J)
def Halt(n m:Nat)(S:St):Prop:=∀j,j<m->ň j<=0
def ends{a:Type}{vw:a->St}{nx:a->a}{J:a->Prop}{u:Int}{d:Row}{H:Nat}(D:Ϥ9)(I:∀x,J x->ϰu Ϻy)(e:∀x,J x->(Ϻy).T n k<=H)
  (b:∀x,J x->¬϶5 Ϻy->J Ϫd/\∃s r,ϸh Ϻy (vw Ϫd) s r) (x:a) (c:J x):∃j,Be nx (λx=>϶5 Ϻy) j x:=by
 show ϫH;let N:∀i,¬϶5 (vw Ϩm):=λi h=>no<|QH i x h;let l:∀i,J Ϩm:=by
  ext i
  induction i with|zero=>show c|succ i ih=>rw[GC];show(b _ ih<|N i).1
 let t:∀i,∃p:ϻ,ϸh (vw Ϩm) (vw<|it nx (i+1) x) p.1 p.2:=λi=>by let(s,r,h):=(b _ (l i)<|N i).2;rw[<-GC nx i x]at h;show((s,r),h)
 show VN (S:=λi=>vw Ϩm) (s:=λi=>(Ϸ0<|t i).1) (r:=λi=>(Ϸ0<|t i).2) (H:=H) D (λi=>I _<|l i) (λi=>Zab<|t i) λi=>e _<|l i
end Lp
namespace Lp
variable{n m z k:Nat}{R:Ϸg}
def php:∀(b:Nat)(f:ņ),(∀i,i<=b->f i<b)->∃i j,i<j/\j<=b/\f i=f j:=by
 induction _ with
 |zero=>ext f h;show ĭ (h 0<|N4 0)<|Zbh _
 |succ b N3=>
  ext f h;cases c:∃i,i<=b/\f i=ϩE
  .let(i,a,H):=c
   show(i,b+1,Á,ì,H)
  let n:∀i,i<=b->f i≠ϩE:=λi a H=>c ⟨i,a,H⟩;let B:=h (b+1) ì;let(i,j,a,H,e):=N3 (λi=>Ë (ϩE<f i) (f i-1) (f i)) λi hi=>by
   let:=n i hi;let:=h i Á;change(Ë (ϩE<f i) (f i-1)<|f i)<b
   split<;>lia
  show(i,j,a,Á,?_);let A:=n i Á;let g:=n j H;let d:(Ë (ϩE<f i) (f i-1)<|f i)=(Ë (ϩE<f j) (f j-1)<|f j):=e
  split at d<;>split at d<;>lia
def enc(B:Nat):Nat->ņ->Nat|0,_=>0|e+1,v=>ϩF v+v e*B^e
def enc''{B w0}:enc B 0 w0=0:=rfl
def enc'{B e v}:enc B (e+1) v=(ϩF v+v e*B^e):=rfl
def E6{B:Nat}{v:ņ}:∀e,(Ϫc<|v q<B)->ϩF v<B^e:=by
 induction _ with
 |zero=>ext _;rw[enc'',Zeu];show Nat.zero_lt_one
 |succ e N3=>
  ext h;let a:=N3 λq Q=>h q<|K8f Q;let H:=ϒN<|h e<|K8d e;rw[Zdo]at H;rw[enc',Zcm,Zdp<|B^e];lia
theorem sN{B:Nat}{v w:ņ}:∀e,(Ϫc<|v q<B)->(Ϫc<|w q<B)->ϩF v=ϩF w->Ϫc (v q=w q)
 |0,_,_,_,q,H=>ϙW<|Zbh q
 |e+1,hv,hw,h,q,H=>by
  let a:=E6 e (ϯ2 hv);let b:=E6 e (ϯ2 hw);rw[enc',enc']at h;let e1:v e=w e:=by
   rcases Zba (v e) (w e)with c|c|c
   .let:=ϒN c
    rw[Zdo]at this;lia
   .show c
   .let:=ϒN c
    rw[Zdo]at this;lia
  cases c:q=e
  .rw[c,e1]
  .rw[e1]at h
   show sN e (ϯ2 hv) (ϯ2 hw) (Nat.add_right_cancel h) q Á
def dig(B q i:Nat):Nat:=i / B^q%B
def Hn(B i:Nat):∀e,ϩF (λq=>dig B q i)=i%B^e:=by
 induction _ with|zero=>rw[enc'',Zeu,Nat.mod_one]|succ e N3=>rw[enc',N3,Zcm,Nat.mod_mul,Zdp<|B^e];rfl
def Le{f:å}{c:Int}:∀N:Nat,(Ϫg<|-c<=f i/\f i<=c)->Ś (-(N*c)) (sm N f) (N*c):=by
 induction _ with
 |zero=>ext _;rw[sm''];lia
 |succ N N3=>
  ext h;let H:=ϺV;let a:=h N<|K8d N;rw[sm.a2];let:ä (N+1)*c=N*c+c:=by rw[Int.natCast_succ,Zbq,Zaq]
  lia
def sJ{a b A C:Int}(h:-A<=a/\a<=A)(H:-C<=b/\b<=C):ϥi (A*C) (a*b):=by
 let T:=ϤR (A-a) (b:=C+b) Á Á;let p2:=ϤR (A+a) (b:=C-b) Á Á;let P:=ϤR (A-a) (b:=C-b) Á Á;let p:=ϤR (A+a) (b:=C+b) Á Á;rw[Zdn,Zav,Zav]at T;rw[Zbq,Zbw,Zbw]at p2;rw[Zdn,Zbw,Zbw]at P;rw[Zbq,Zav,Zav]at p;lia
def Ky(e A:Nat)(o:0<A)(F:Nat->å)(r:Ϫc (∀i,i<e+1->ϺY ϦU)):
  ∃x:å,(∃i,i<e+1/\x i≠0)/\(Ϫc<|ϰR (e+1) (x i*ϦU)=0)/\∀i,-(ä (϶k^e))<=x i/\x i<=ϱC (϶k^e):=by
 generalize s:϶k^e=K;let -zeta D:=϶k*K+1
 let -zeta w:Nat->ņ:=λj q=>(ĩ (ϰR (e+1) (Ì (Ϥ i j)*ϦU)+ϱC ϻS))
 let d:∀i j,Ì (Ϥ i j)<=K:=λi j=>by
  let:Ϥ i j<K+1:=Nat.mod_lt _<|Zdf K;lia
 let V:∀j q,q<e->Ś (-(ä ϻS)) (ϰR (e+1) (Ì (Ϥ i j)*ϦU)) (ϱC ϻS):=λj q H=>by
  let a:=Le (f:=λi=>Ì (Ϥ i j)*ϦU) (c:=K*A) (e+1) λi hi=>sJ ⟨Ĳ (d i j),d i j⟩<|r q H i hi;rw[show ä ϻS=ä (e+1)*(Ì K*A)by rw[Zbz,Zbz,Zae,Zai ώU]];show a
 let W:∀j q,q<e->w j q<D:=λj q H=>by
  let:=V j q H;let t:ϒP ϶k K ϻS:=by rw[Zek 2,Zek 2,Nat.two_mul]
  change ĩ (_:Int)<϶k*K+1;lia
 let m:D^e<(K+1)^(e+1):=by
  let a:D<=϶k*(K+1):=by
   change ϶k*K+1<=_;let:1<=϶k:=Zfq Á o;rw[Nat.mul_add ϶k,Zfr ϶k];show Nat.add_le_add_left this _
  let b:=Zde a e;rw[Nat.mul_pow,s]at b;rw[Zcm,Zdp<|(K+1)^e];let g:0<(K+1)^e:=Zfs<|Zdf K;rw[Zdo];lia
 let(i,j,a,b,g):=php (D^e) (λj=>enc D e<|w j) λj x=>E6 e<|W j;let I:∃q,q<e+1/\Ϥ q i≠Ϥ q j:=by
  show ϫH;let k:=Hn (K+1) i<|e+1;let n:=Hn (K+1) j<|e+1;rw[Nat.mod_eq_of_lt Á]at k;rw[Nat.mod_eq_of_lt Á]at n;let ext:∀(v u:ņ) f,(∀q,q<f->v q=u q)->enc (K+1) f v=enc (K+1) f u:=by
   ext v u f
   induction f with|zero=>ext _;rfl|succ f ih=>ext H;rw[enc',enc',ih λq h=>H q<|K8f h,H f<|K8d f]
  let:=ext (λq=>Ϥ q i) (λq=>Ϥ q j) (e+1) λq H=>Zbc λc=>no ⟨q,H,c⟩;lia
 show(λq=>Ì (Ϥ q i)-Ϥ q j,?_,ϨT,λq=>?_)
 .let(q,Q,E):=I
  show(q,Q,ϳY (Ì (Ϥ q i)-Ϥ q j≠0))
 .let b1:w i q=w j q:=sN e (W i) (W j) g q H
  let y:=V i q H;let z:=V j q H;let C:ĩ (ϻZ (ϨL<|Ì (Ϥ p i))+ϱC ϻS)=ĩ (ϻZ (ϨL<|Ì (Ϥ p j))+ϱC ϻS):=b1;let B:=kH 1 (-1) (ϨL<|Ì (Ϥ p i)) (ϨL<|Ì (Ϥ p j))<|e+1;let l:(ϨL<|Ì (Ϥ p i)-Ϥ p j)=λp=>1*(Ì (Ϥ p i)*F q p)+(-1)*(Ì (Ϥ p j)*F q p):=by
   funext p;rw[Zdn];lia
  change ϻZ (ϨL<|Ì (Ϥ p i)-Ϥ p j)=0;rw[l,B];lia
 let c1:=d q i;let L:=d q j;change Ś (-(Ì K)) (Ì (Ϥ q i)-Ϥ q j) K;lia
def Prm(a:Row):Prop:=∀g:Int,0<g->(∀j,g ∣ a j)->g=1
def Sv{g:Int}{f:å}:∀N,(Ϫg<|g ∣ f i)->g ∣ sm N f:=by
 induction _ with|zero=>ext _;show Zdg g|succ N N3=>ext h;show Zdl ϺV<|h N<|K8d N
def Hj{N:Nat}{x y:å}{a b K:Int}{m:Row}(u:0<b)(X:∃i,i<N/\x i≠0)(h:Ϫg (b*x i=a*y i))(k:∀j,∃f:å,m j=sm N ϒf)(P:Prm m)(r:∀i,ϥi K (x i)):Ϫg (ϥi K (y i)):=by
 let s:a≠0:=λe=>by
  let(i,n,g):=X;let:=h i n;rw[e,Zam]at this;rcases Int.mul_eq_zero.mp this with c|c
  .lia
  show g c
 obtain⟨B,d⟩:Ì ϻt ∣ b:=Int.gcd_dvd_left b a;obtain⟨A,H⟩:Ì ϻt ∣ a:=Int.gcd_dvd_right b a;let hg:0<Ì ϻt:=by
  let:=Int.gcd_pos_of_ne_zero_left (a:=b) a ϱI;omega
 let p:0<B:=tV hg (by rw[<-d];show u);let g:Ϫg (B*x i=A*y i):=ϰp (by show ϔN hg;rw[<-Zae,<-Zae,<-d,<-H,ϭx])
 let o:Nat.Coprime B.natAbs A.ñ:=by
  let g1:ϻt*Nat.gcd B.natAbs A.ñ=ϻt:=by
   rw[<-Nat.gcd_mul_left];let Q:ϻt*B.natAbs=b.ñ:=by conv=>rhs;rw[d,Zda,Zff]
   let v:ϻt*A.ñ=a.ñ:=by conv=>rhs;rw[H,Zda,Zff]
   rw[Q,v];rfl
  let g2:0<ϻt:=ϱI
  show Nat.eq_of_mul_eq_mul_left g2 (Ĥ g1 Zfr)
 let dv:Ϫg (B ∣ y i):=ϰp (by rw[<-Int.natAbs_dvd_natAbs];show o.dvd_of_dvd_mul_left ?_;rw[<-Zda,<-g i hi,Zda];show Nat.dvd_mul_right _ _)
 let one:B=1:=P B p λj=>by let(f,F):=k j;rw[F];show Sv N λi hi=>Zbp (dv i hi) ϬU
 ext i hi;let l:=g i hi;rw[one,Zaq]at l;let q:=r i;let t:A≠0:=λe=>s (by rw[H,e,Zaa]);rw[l]at q;let big:(y i).natAbs<=(A*y i).natAbs:=Ô Zda (Zcq _ ϱI)
 omega
theorem Lin.sm{φ:ϴy Row}(h:ϩ7){w:å}{G:Ϸg}:∀N,φ (λj=>sm N ϒg)=sm N λq=>w q*φ (G q)
 |0=>ϮB (h 0 0 (λ_=>0) λ_=>0) Zam Zam
 |N+1=>by
  let H:=ϛy<|G N;let e:(λj=>Lp.sm (N+1) ϒg)=λj=>1*(Lp.sm N ϒg)+w N*G N j:=by
   funext j;rw[Lp.sm,Zaq]
  rw[e,H,h.sm N,Zaq,Lp.sm]
structure Mk(n m:Nat)(R:Ϸg):Prop where
 one:ϲO (R i (m+i)=1)
 oth:ϲO (∀q,q<=n->q≠i->R i (m+q)=0)
def vS{S:St}(I:ϰu S)(M:ϻ0){i:Nat}(hi:i<=n)(j:Nat):ă j=ϧz (ă (m+q)):=by
 let L:Lin λd:Row=>d j-ϧz (d (m+q)):=λa b x y=>by
  let h:=ϛo<|n+1;let e:(λq=>(ϯw<|m+q)*ϦV)=λq=>a*(x (m+q)*ϦV)+b*(y (m+q)*ϦV):=by
   funext q;rw[Zbq,Zae,Zae]
  change a*x j+b*y j-ϧz (ϯw<|m+q)=a*(x j-ϧz (x (m+q)))+b*(y j-ϧz (y (m+q)));rw[e,h,Zbw,Zbw];lia
 let r:ϲO (ϴ7-ϧz (R i (m+q))=0):=λi hi=>ϳq (c7 (l:=i) (n+1) Á λq Q H=>Ĥ (M.oth i hi q Á H) Zam) (M.one i hi) Zaq
 let(f,g):=I.dn _ L λi hi=>r i ϴW;cases c:i=n
 .subst c
  rw[r i<|N4 i,Zaa]at g;lia
 let:=f i Á;lia
def Hx{S:St}(I:ϰu S)(M:ϻ0){w:å}(h:ŵ (ĳ (λq=>w q*R q ń)=0)){q:Nat}(a:q<n):w q=0:=by
 let H:=(ϨX<|m+q).sm (w:=w) (G:=R) n;rw[cJ n (ϰp (Ĥ (nK I (m+q) i hi) Zaa))]at H;erw[ph]at H;let b:϶I*(ĳ<|λp=>w p*R p (m+q))-ĳ (λi=>ă (m+q)*ϱM*(ĳ<|λp=>w p*R p ń))=0:=H;rw[cJ (f:=λi=>ă (m+q)*ϱM*(ĳ<|λp=>w p*R p ń)) n (ϰp (Ĥ ϭx Zaa)),Zau,c7 (l:=q) n a λi hi e=>Ĥ (M.oth i ϴW q (Zaj a) ϩX) Zaa,M.one q<|Zaj a,Zbl]at b;show CO Ϫm b
def BV{S:St}{A:Nat}(I:Inv n m z (m+n) R S)(M:ϻ0)(g:0<A)(D:ϲO (∀j,ϺY ϴ7))(t:0<n){i:Nat}(hi:i<=n)(P:Prm ă):
  ∀q,q<=n->Ś (-(ä Ϲo)) (ă (m+q)) (ϱC Ϲo):=by
 cases c:i=n
 .subst c
  let(x,o,X,T):=Ky i A g (λq p=>R p<|S.c q) λq h p P=>D p Á _;let r:=I.mp;let key:∀q,q<i+1->ă (m+i)*x q=x i*ă (m+q):=λq h=>by
   let w:∀l,l<i->sm i (λq=>(ă (m+i)*x q+-(x i)*ă (m+q))*Ϸ2)=0:=λl a=>by
    let f:=X l a;let b:=ϘD ϭi;rw[Ϝy<|Zbx a]at b;rw[sm.a2]at f b;let e:(λq=>(ă (m+i)*x q+-(x i)*ă (m+q))*Ϸ2)=λq=>ă (m+i)*(x q*Ϸ2)+-(x i)*(ă (m+q)*Ϸ2):=by
     funext q;rw[Zbq,Zae,Zae]
    rw[e,kH];let b1:sm i (λq=>x q*Ϸ2)=-(x i*R i ϭi):=Á
    let B:sm i (λq=>ă (m+q)*Ϸ2)=-(ă (m+i)*R i ϭi):=Á
    rw[b1,B,Zcx,Zet,Zad];lia
   cases c:q=i
   .subst c
    show Zai _ _
   let:=Hx I M w (q:=q) Á;rw[Zcc]at this;lia
  ext q h;show Hj (N:=i+1) (y:=λq=>ă<|m+q) r o key (λj=>⟨λq=>ϦV,ϘD j⟩) P T q Á
 obtain⟨e,rfl⟩:∃e,n=e+1:=⟨n-1,Á⟩
 let H:i<e+1:=Á
 let(x,o,X,T):=Ky e A g (λq p=>R p<|S.c (Ë (q<i) q<|q+1)) λq h p P=>D p Á _;let s:=I.piv i H;let Z:=I.mz i H;let ro:∀j,ă j=ϻZ (λq=>ă (m+q)*ϦV):=λj=>by let:=vS I M hi j;rw[sm.a2,Z,Zam,Zak]at this;show this
 let key:∀q,q<e+1->ă ń*x q=ϻZ (ϔK ń)*ă (m+q):=λq h=>by
  generalize k:ϻZ (ϔK ń)=α;let w:∀l,l<e+1->ϻZ (λq=>(ă ń*x q+-α*ă (m+q))*Ϸ2)=0:=λl a=>by
   let b:=ro ϭi;let e1:(λq=>(ă ń*x q+-α*ă (m+q))*Ϸ2)=λq=>ă ń*(x q*Ϸ2)+-α*(ă (m+q)*Ϸ2):=by
    funext q;rw[Zbq,Zae,Zae]
   rw[e1,kH,<-b];cases c:l=i
   .rw[c,k,Zcc,Zai]
    lia
   rw[I.off l a i hi<|K8g c,Zaa,Zak];let f:ϻZ (ϔK ϭi)=0:=by
    cases d:l<i
    .let:=X l Á
     rwa [Os d]at this
    let:=X (l-1) Á;rwa [P3 Á,ê (l-1+1=l)]at this
   rw[f,Zaa]
  let:=Hx I M w (q:=q) h;rw[Zcc]at this;lia
 let le:=Hj (N:=e+1) (y:=λq=>ă<|m+q) s o key (λj=>⟨λq=>ϦV,ro j⟩) P T;let up:϶k^e<=(2*(e+1+1)*A)^(e+1):=by show K9C (Zde (Zcj A<|Ϝa<|K91<|e+1) e) ?_;show Zbu (Zfq Á g)<|K91 e
 ext q h;cases d:q=e+1
 .rw[d,Z]
  lia
 let:=le q Á;omega
end Lp
namespace Lp
def pA(l:À Int)(k:Nat):Int:=Ó (l[k]?) 0
def gcL(d:Int)(ns:À Int):Int:=ns.foldl (λd n=>(ä όF)) d
def gy(ns:À Int):À Int:=ns.Ç (· / ϰM ns)
def OZ{a b:Int}:Int.gcd b (a.fmod b)=ϫQ:=by rw[Int.fmod_def,Zai b,Int.gcd_sub_mul_right_right,Int.gcd_comm]
def mod_lt{a b:Int}(h:b≠0):(a.fmod b).natAbs<b.ñ:=by
 rcases Int.lt_trichotomy b 0 with c|c|c
 .let H:=Zfg (-a) (b:=-b) ϱI
  let d:=Zem (-a) (b:=-b) ϱI;rw[Int.neg_fmod_neg]at H d;omega
 .show absurd c h
 let H:=Zfg a c;let d:=Zem a c;omega
def xr:∀(ns:À Int)(d:Int),ώt ∣ d/\∀n∈ns,ώt ∣ n:=by
 induction _ with
 |nil=>ext d;show(Int.dvd_refl d,λn h=>ϓa)
 |cons n ns N3=>
  ext d;let h:=N3 (ä όF);let e:gcL d Ϥt=gcL (ä όF) ns:=rfl;rw[e];show(Zbp h.1<|Int.gcd_dvd_left d n,όT);rcases K8v.mp H with rfl|H
  .show Zbp h.1<|Int.gcd_dvd_right d x
  show h.2 x H
def OO{g:Int}:∀(ns:À Int)(d:Int),g ∣ d->(∀n∈ns,g ∣ n)->g ∣ ώt:=by
 induction _ with|nil=>ext d h _;show h|cons n ns N3=>ext d h H;let e:gcL d Ϥt=gcL (ä όF) ns:=rfl;rw[e];show N3 _ (Ϝs<|H n K9z) λx X=>H x<|ě X
def Vi:∀(ns:À Int)(d:Int),0<=d->0<=ώt:=by
 induction _ with|nil=>ext d h;show h|cons n ns N3=>ext d h;show N3 _<|Int.natCast_nonneg _
def Ai{l:À Int}{k:Nat}(h:ϴu k≠0):ϴu k∈l:=by
 erw[pA]at h⊢;cases e:l[k]? with|none=>rw[e]at h;show Ϡ h|some x=>show K9L e
def mI{ns:À Int}{k:Nat}(h:ϱk ns≠0):0<ϰM ns:=by
 let a:=Vi ns 0<|Zbr 0;let H:=ϖO<|Ai h;rcases Zfh a with c|c
 .show c
 rw[<-c]at H;show ĭ (Int.zero_dvd.mp H) h
def Tb{l:À Int}{f:ϴy Int}(h:f 0=0)(k:Nat):ϱk (l.Ç f)=f (ϴu k):=by
 erw[pA];rw[N2];cases l[k]? with|none=>show h.Ï|some x=>rfl
def Bt{ns:À Int}(k:Nat):ϰM ns*ϱk ϭy=ϱk ns:=by
 let e:ϱk ϭy=ϱk ns / ϰM ns:=Tb (f:=λx=>x / ϰM ns) (Int.zero_ediv _) k;rw[e];show Int.mul_ediv_cancel' ?_;cases h:ϱk ns=0
 .rw[h]
  show Zdg _
 show ϖO<|Ai h
def BC(ns:À Int):Ã ϭy=ns.À:=K0 ..
def Ct{ns:À Int}{k:Nat}(h:ϱk ns≠0):Prm (pA ϭy):=by
 ext g hg d;let p:=mI h;let:g*ϰM ns ∣ ϰM ns:=OO ns 0 (Zdg _) λn N=>by
  let(j,J):=Zac N;let e:Ņ ns=n:=by erw[pA];rw[J];rfl
  rw[<-e,<-Bt j,Zai];show Ϝb<|d j
 let(c,C):=this;let H:g*c=1:=by show Zbj (Zbd p) ?_;rw[Zbl,<-Zae,Zai _ g];show C.Ï
 let:g ∣ 1:=⟨c,H.Ï⟩;show Int.eq_one_of_dvd_one (Zar hg) this
def jF(row piv:À Int)(s:Nat):À Int:=ß row.Ċ piv λp=>ϻ1*p.1-Ō s*p.2
def clL(row piv:À Int)(s:Nat):À Int:=gy Ϲl
def oH{row piv:À Int}(h:ϧi)(s j:Nat):Ņ Ϲl=ϻ1*Ō j-Ō s*Ņ piv:=by
 erw[jF];let e:pA (ß row.Ċ piv λp=>ϻ1*p.1-Ō s*p.2) j=(Ê (ę ϯN) λp=>ϻ1*p.1-Ō s*p.2).getD 0:=by
  change Ó (ę<|List.map _ _) 0=_;rw[N2]
 rw[e];cases J:j<row.À
 .let H:ę row=Â ύZ:=϶Q
  let a:ę piv=Â (piv[j]' Á):=Nu Á;let f:ę ϯN=Â (ύZ,piv[j]' Á):=Ô Zan (H,a)
  rw[f];change ϻ1*ύZ-Ō s*piv[j]' Á=_;let A:Ō j=ύZ:=by
   change Ó (ę row) 0=_;rw[H];rfl
  let n:Ņ piv=piv[j]' Á:=by
   change Ó (ę piv) 0=_;rw[a];rfl
  rw[A,n]
 let f:ę ϯN=none:=Ϻ List.getElem?_eq_none_iff Zao
 let A:Ō j=0:=Ϗ pA (K9c Á)
 let n:Ņ piv=0:=Ϗ pA (K9c Á)
 rw[f,A,n,Zaa,Zaa];rfl
def HS{row piv:À Int}(h:ϧi)(s:Nat):Ã Ϲl=row.À:=ϙB jF
def LY{row piv:À Int}(h:ϧi)(s:Nat):Ã (ϳJ row piv)=row.À:=by erw[clL];rw[BC,HS h]
def Rt{row piv:À Int}(h:ϧi)(s j:Nat):ϰM Ϲl*Ņ (ϳJ row piv)=ϻ1*Ō j-Ō s*Ņ piv:=χ clL Bt (oH h)
structure Sl where
 r:À (À Int)
 c:Ò
def P0(S:Sl)(i:Nat):À Int:=Ó (á S.r) []
def vw(S:Sl):St:=⟨λi=>pA<|î i,λi=>Ó (á S.c) 0⟩
def fsh(row:À Int)(m:Nat):ό1:=(ž Ϲ0 λj=>Õ<|0<Ō j).head?
def Dy{row:À Int}{m:Nat}(h:ύw=none):∀j,j<m->Ō j<=0:=λj J=>by
 erw[fsh]at h;rw[Zen,Zdk]at h;let:=h j ϨJ;rw[K9k]at this;lia
def head_filter:∀(m s:Nat),(ž Ϲ0 p).head?=some s->s<m/\p s=true/\∀j,j<s->ł (p j):=by
 ext m
 induction m with
 |zero=>ext s h;cases h
 |succ m ih=>
  ext s h;rw[K8A,K8o]at h;cases e:(ž Ϲ0 p).head? with
  |some t=>rw[List.head?_append,e]at h;cases h;let(a,b,f):=ih s e;show(K8f a,b,f)
  |none=>
   rw[List.head?_append,e,Option.none_or]at h;rw[Zen,Zdk]at e;cases H:p m=true
   .rw[Zbm H]at h
    cases h;show(K8d m,H,ϳo);let:=e j ϨJ;cases hq:p j with|true=>show ĭ hq this|false=>rfl
   rw[Zbb H]at h;cases h
def Dc{row:À Int}{m s:Nat}(h:ύw=some s):s<m/\0<Ō s/\∀j,j<s->Ō j<=0:=by
 let(H,a,f):=head_filter m s h;show(H,of_decide_eq_true a,ϳo);let:=of_decide_eq_false<|f j J;lia
def Au(S:St)(z s:Nat)(i k:Nat):Prop:=Ϯb (ă z) (ϷD s) (ϷD z) (ă s) (ń<S.c k)
instance(S:St)(z s i k:Nat):Decidable (Au S z s i k):=inferInstanceAs<|Decidable<|_\/_
def rgu(S:St)(z s:Nat):Nat->ό1|0=>none|k+1=>Ë ϕT Ş (Ϭu k)
def rgu'{S z s k}:Ϭu (k+1)=(Ë ϕT Ş<|Ϭu k):=rfl
private theorem yQ{S:St}{z s:Nat}:∀n,Ϭu n=none->ŵ (ă s<=0)
 |0,_,i,hi=>ϐR<|Zbh i
 |n+1,h,i,hi=>by
  rw[rgu']at h;split at h
  .cases h
  .rename_i C
   let a:=yQ n h;cases e:i=n
   .subst e
    cases p:0<ă s
    .show ĭ ⟨p,λf H=>by rw[h]at H;cases H⟩ C
    .lia
   .show a i Á
def le3(S:St)(z s:Nat)(i k:Nat):Prop:=Ϯb (ă z) (ϷD s) (ϷD z) (ă s) (ń<=S.c k)
def JA{S:St}{z s i j k:Nat}(hi:0<ă s)(d:0<S.T j s)(H:0<ϷD s)(e:Ϭv i j)(m:Ϭv j k):Ϭv i k:=by
 erw[le3] at*;generalize ă z=a at*;generalize S.T j z=b at*;generalize ϷD z=c at*;generalize ă s=p at*;generalize S.T j s=q at*;generalize ϷD s=r at*;let e1:a*q<=b*p:=Á
 let g:b*r<=c*q:=Á
 let M:=Zaf e1<|Zar H;let Q:=Zaf g<|Zar hi;let x:a*q*r=a*r*q:=Zcs a q r;let X:b*p*r=b*r*p:=Zcs b p r;let T:c*q*p=c*p*q:=Zcs c q p;let le:a*r*q<=c*p*q:=Á
 let l:=Int.le_of_mul_le_mul_right le d;rcases Zfh l with h|h
 .show Ð h
 show Ø ⟨h,?_⟩;let y:a*r*q=c*p*q:=ύI
 let f:a*q*r=b*p*r:=ϱI
 let J:b*r*p=c*q*p:=Á
 let g1:a*q=b*p:=Zdy (Zbd H) f;let g2:b*r=c*q:=Zdy (Zbd hi) J;lia
private def Ej{S:St}{z s:Nat}:∀n r,Ϭu n=ϰQ->r<n/\0<ϱx s/\ŵ (0<ă s->Ϭv r i):=by
 induction _ with
 |zero=>ext r h;cases h
 |succ n N3=>
  ext r h;rw[rgu']at h;split at h
  .rename_i C
   cases h;show(K8d n,C.1,λi hi p=>?_);cases e:i=n
   .subst e
    show Ø (Ϸv ì)
   cases H:rgu S z s n with
   |none=>
    let:=yQ n H i Á;lia
   |some f=>
    let(g,J,j):=N3 f H;let a:Ϭv n f:=by
     rcases C.2 f H with q|⟨q,w⟩
     .show Ð q
     show Ø ⟨q,Zaj w⟩
    show JA C.1 J p a<|j i Á p
  rename_i C;let(g,J,j):=N3 r h;show(K8f g,J,λi hi p=>?_);cases e:i=n
  .subst e
   let ns:¬Au S z s i r:=λw=>C ⟨p,λf H=>by rw[h]at H;cases H;show w⟩;erw[Au]at ns;erw[le3];let:=Int.lt_trichotomy (ϱx z*ă s)<|ă z*ϱx s;rcases this with q|q|q
   .show Ð q
   .apply Ø ⟨q,?_⟩
    cases w:S.c r<=ń
    .show w
    show ĭ (Ø ⟨q.Ï,Á⟩) ns
   show ĭ (Ð q) ns
  show j i Á p
def nxt(n m z:Nat)(S:Sl):Sl:=match fsh (î n) m with
 |none=>S
 |some s=>match ϷS n with
  |none=>S
  |some r=>⟨Ā S.Ó λi=>Ë (i=r) (î i) (ϳJ (î i) (î r)),όG⟩
variable{n m z:Nat}{R:Ϸg}
structure Jn(n m z w A:Nat)(R:Ϸg)(S:Sl):Prop where
 inv:Inv n m z (m+n) R ϲV
 lr:S.Ó=n+1
 lc:S.İ=n
 row:ϲO (Ã (î i)=w)
 prm:ϲO (Prm (vw S |>.T i)\/(i<n/\∀j,ϥ i j=ϴ7))
def zC{w A:Nat}{S:Sl}{u:Int}{d:Row}(D:Ϥ9)(J:ϲD S)(y:¬϶5 ϲV):ϲD (ϰi S)/\∃s r,fsh (î n) m=some s/\ϷS n=ϰQ/\ϸh ϲV (vw<|ϰi S) s r:=by
 cases hs:fsh (î n) m with
 |none=>show ĭ (Dy hs) y
 |some s=>
  let(v,x,C):=Dc hs;cases hr:rgu ϲV z s n with
  |none=>
   let(i,hi,p):=D.some J.inv v x;let:=yQ n hr i hi;lia
  |some r=>
   let(f,b,B):=Ej n r hr;let N:ϰi S=⟨Ā S.Ó λi=>Ë (i=r) (î i) (ϳJ (î i) (î r)),όG⟩:=by
    erw[nxt];rw[hs];dsimp only;rw[hr]
   let o:ϲO (P0 (ϰi S) i=Ë (i=r) (î i) (ϳJ (î i) (î r))):=λi hi=>by
    rw[N];erw[P0];rw[N2,K9Z<|Ă J.lr];rfl
   let l:ϲO (Ã (î i)=Ã (î r)):=ϰp (by rw[ϥL hi,J.row r Á])
   let t:ϸh ϲV (vw<|ϰi S) s r:={
    hs:=v
    pos:=x
    fst:=C
    hr:=f
    rp:=b
    best:=λi hi p=>B i hi p
    same:=by
     change pA (P0 (ϰi S) r)=pA (î r);rw[o r Á,Ĝ]
    oth:=λi hi h=>by
     let e:∀j,ϰM (jF (î i) (î r) s)*Ņ (P0 (ϰi S) i)=pA (î r) s*Ņ (î i)-pA (î i) s*Ņ (î r):=λj=>Ε (o i hi) ϱB (Rt ϩm s j)
     show(ϰM<|jF (î i) (î r) s,?_,e);cases c:i=n
     .let:ϥ2 (jF (î i) (î r) s)≠0:=by rw[oH ϩm];let Z:ϥ2 (î r)=0:=ϔF f;let a:0<ϥ2 (î n):=J.inv.mp;rw[Z,Zaa,Zau,c];let:=Zay b a;show Zbd this
      show mI this
     let H:i<n:=Á
     let:pA (jF (î i) (î r) s) (ŧ i)≠0:=by
      rw[oH ϩm];let Z:pA (î r) (ŧ i)=0:=όH H r Á Ϧm;let a:0<pA (î i) (ŧ i):=ϫR H;rw[Z,Zaa,Zau];show ϓo
     show mI this
    cr:=by
     change Ó ((ϰi S).c[r]?) 0=s;rw[N];dsimp only;rw[K9I<|by rw[J.lc];show f];rfl
    co:=λi hi h=>by
     change Ó (á (ϰi S).c) 0=Ó (á S.c) 0;rw[N];dsimp only
     rw[K9E Ϧm]}
   show((J.inv.step t,?_,?_,ϱn,ϱn),s,r,rfl,hr,t)
   .rw[N]
    dsimp only;rw[K0,Z7,J.lr]
   .rw[N]
    dsimp only;rw[K8z,J.lc]
   .rw[o i hi]
    split
    .show ϥL hi
    rw[LY ϩm,ϥL hi]
   cases c:i=r
   .let e:(vw<|ϰi S).T i=ϥ i:=ϔQ t.Î
    rw[e];show J.prm i hi
   left;let(g,hg,q):=t.oth i hi c;change Prm (pA<|P0 (ϰi S) i);rw[o i hi,P3 c];cases L:i=n
   .apply Ct (k:=m+n) ?_
    rw[oH ϩm];let Z:ϥ2 (î r)=0:=ϔF f;let a:0<ϥ2 (î n):=J.inv.mp;rw[Z,Zaa,Zau,L];show ϓo
   let H:i<n:=Á
   show Ct (k:=ŧ i) ?_;rw[oH ϩm];let Z:pA (î r) (ŧ i)=0:=όH H r Á<|K8g c;let a:0<pA (î i) (ŧ i):=ϫR H;rw[Z,Zaa,Zau];show ϓo
def Jn.le{w A:Nat}{S:Sl}(J:ϲD S)(M:ϻ0)(a:0<A)(D:ϲO (∀j,ϺY ϴ7))(N:0<n){i:Nat}(hi:i<=n)(j:Nat):
  Ś (-(ä ((n+1)*(Ϲo*A)))) (ϥ i j) (ϱC ((n+1)*(Ϲo*A))):=by
 let big:A<=(n+1)*(Ϲo*A):=by
  let h:0<Ϲo:=Zfs<|Zfq Á a;let H:A<=Ϲo*A:=Zcq A h;show K9C H (Zcq _ Á)
 rcases J.prm i hi with p|⟨h,H⟩
 .let h:=BV J.inv M a D N hi p
  rw[vS J.inv M hi j];let:=Le (f:=λq=>ϥ i (m+q)*ϦV) (c:=(ä (Ϲo*A))) (n+1) λq Q=>Ô Zbz (sJ (h q Á)<|D q Á j)
  rw[Zbz];show this
 rw[H j];let:=D i hi j;omega
def Jn.ends{w A:Nat}{S:Sl}{u:Int}{d:Row}(D:Ϥ9)(M:ϻ0)(b:0<A)(c:ϲO (∀j,ϺY ϴ7))(N:0<n)(J:ϲD S):
  ∃j,Be ϰi (λx=>϶5 Ϻy) j S:=
 Lp.ends (vw:=vw) (J:=ϲD) (H:=(n+1)*(Ϲo*A)) D (λx J=>J.inv) (λx J=>(J.le M b c N ϰm<|m+n).2) (λx J e=>by let(h,s,r,_,_,a):=zC D J e;show(h,s,r,a)) S J
end Lp
namespace Lp
abbrev Dem:=À<|À Int×Int
def dR(D:Dem)(j:Nat):À Int:=(Ó (D[j]?) ([],0)).1
def dC(D:Dem)(j:Nat):Int:=(Ó (D[j]?) ([],0)).2
def mkL(n i:Nat):À Int:=Ā (n+1) λq=>Ë (q=i) 1 0
def frL(D:Dem)(n i:Nat):À Int:=D.Ç (λd=>ř d.1)++ϻ9++[Ë (i<2) 1 0]
def laL(D:Dem)(n:Nat):À Int:=ϗj
def RR(D:Dem)(n:Nat)(i:Nat):Row:=pA (Ë (i<n) (ϙ i) Ϸh)
def lsF(D:Dem)(n:Nat)(ch:Ò):Nat->À Int|0=>Ϸh|k+1=>clL (ś k) (ϙ k)<|Ó ϸH 0
def lsF'{D n ch k}:ś (k+1)=(clL (ś k) (ϙ k)<|Ó ϸH 0):=rfl
def S0(D:Dem)(n:Nat)(ch:Ò):Sl:=⟨Ê ϲk ϙ++[ś n],ch⟩
def ug(n i:Nat):Ã ϻ9=n+1:=χ mkL K0 Z7
def vR(D:Dem)(n i:Nat):Ã (ϙ i)=θ+2:=by
 erw[frL];rw[K9v,K9v,K0,ug,K9e];lia
def KR(D:Dem)(n:Nat):Ã Ϸh=θ+2:=by
 erw[laL];rw[K9v,K9v,K0,ug,K9e];lia
def xD{a b:À Int}{j:Nat}(h:j<a.À):Ņ ϦG=pA a j:=ű pA (K9V h)
def zz{a b:À Int}{j:Nat}(h:a.À<=j):Ņ ϦG=pA b (j-a.À):=ű pA (K9a h)
def S7{a:À Int}{j:Nat}(h:a.À<=j):pA a j=0:=Ϗ pA (K9c h)
def Ie{D:Dem}{f:À Int×Int->Int}(h:f ([],0)=0)(j:Nat):Ņ (D.Ç f)=f (Ó (D[j]?) ([],0)):=by
 erw[pA];rw[N2];cases D[j]? with|none=>show h.Ï|some x=>rfl
def XG(n i q:Nat):pA ϻ9 q=Ë (q<=n/\q=i) 1 0:=by
 erw[mkL,pA];rw[N2];cases h:q<n+1
 .rw[ϴ6]
  change(Ë (q=i) ((Ì 1)) 0)=_;cases e:q=i
  .rw[Os e,Os ⟨Á,e⟩]
  rw[ϲs,P3 λw=>e w.2]
 rw[K9c (Ă Z7),P3 λw=>h Á];rfl
def Hi(f:À Int×Int->Int)(D:Dem)(n i:Nat)(e:Int){j:Nat}(h:ϥA):Ņ Ϯz=Ņ (D.Ç f):=by rw[xD (Ϻ K9v K0),xD<|Ϲu K0]
def Ce(f:À Int×Int->Int)(D:Dem)(n i:Nat)(e:Int){q:Nat}(h:q<=n):pA Ϯz ϫE=Ë (q=i) 1 0:=by
 rw[xD (ϳq K9v K0 ug),zz (Ă K0),K0,ê (ϫE-D.À=q),XG];cases e:q=i
 .rw[Os ⟨h,e⟩,Os e]
 rw[P3 λw=>e w.2,ϲs]
def Rz(f:À Int×Int->Int)(D:Dem)(n i:Nat)(e:Int):pA Ϯz (θ+1)=e:=by
 rw[zz (ϳq K9v K0 ug),K9v,K0,ug,ê (θ+1-(D.À+(n+1))=0)];rfl
def wW{D:Dem}{n i j:Nat}(h:ϥA):Ņ (ϙ i)=ř (ϛ j):=ϰZ frL (Hi _ D n i _ h) (Ie (f:=λd=>ř d.1) rfl)
def GY{D:Dem}{n j:Nat}(h:ϥA):Ņ Ϸh=dC D j:=ϰZ laL (Hi _ D n n _ h) (Ie (f:=λd=>d.2) rfl)
def mJ{D:Dem}{n i:Nat}(h:i<n):Ψ i=pA (ϙ i):=ű RR ϰo
def Aj{D:Dem}{n:Nat}:Ψ n=pA Ϸh:=ű RR (P3<|K8n n)
def pN(D:Dem)(n:Nat):Mk n D.À Ψ where
 one i hi:=by
  cases h:i<n
  .rw[mJ h]
   erw[frL];rw[Ce _ D n i _ hi,Ĝ]
  .let:i=n:=Á
   subst this;rw[Aj];erw[laL];rw[Ce _ D i i _ hi,Ĝ]
 oth i hi q hq hne:=by
  cases h:i<n
  .rw[mJ h]
   erw[frL];rw[Ce _ D n i _ hq,P3 hne]
  .let:i=n:=Á
   subst this;rw[Aj];erw[laL];rw[Ce _ D i i _ hq,P3 hne]
def Jt{D:Dem}{n i:Nat}(h:i<=n):Ψ i (θ+1)=Ë (i<n) (Ë (i<2) 1 0) 0:=by
 cases h':i<n
 .rw[mJ h',Os h']
  erw[frL];rw[Rz]
 let:i=n:=Á
 subst this;rw[Aj,P3 h'];erw[laL];rw[Rz]
structure Sm(A:Nat)(D:Dem):Prop where
 pos:0<A
 row:∀j k,ϺY (ϱk (ϛ j))
 cel:∀j,ϺY (dC D j)
def Bb{A:Nat}{D:Dem}(h:Sm A D)(n i:Nat)(hi:i<=n)(j:Nat):ϺY (Ψ i j):=by
 let p:=h.ú;cases H:j<D.À
 .by_cases a:i<n
  .rw[mJ a,wW H]
   show h.row j i
  let:i=n:=Á
  subst this;rw[Aj,GY H];show h.cel j
 cases a:j<=θ
 .let e:j=D.À+ϓb:=Á
  let M:=ϩJ;cases f:ϓb=i
  .rw[e,f,M.one i hi]
   lia
  rw[e,M.oth i hi ϓb Á f];lia
 cases f:j=θ+1
 .rw[f,Jt hi]
  split
  .split<;>lia
  lia
 erw[RR];let l:Ã (Ë (i<n) (ϙ i) Ϸh)<=j:=by
  split
  .rw[vR];lia
  rw[KR];lia
 rw[S7 l];lia
structure Lone(D:Dem)(n:Nat)(ch:Ò):Prop where
 len:ch.À=n
 lt:ŵ (Ó (á ch) 0<D.À)
 pos:ŵ (0<ř (ϛ<|Ó (á ch) 0))
 oth:ŵ (∀l,l<n->l≠i->pA (ϛ<|Ó (á ch) 0) l=0)
variable{D:Dem}{n:Nat}{ch:Ò}
def B3:∀k,Ã (ś k)=θ+2:=by
 induction _ with|zero=>show KR D n|succ k N3=>rw[lsF',LY (Ĥ N3 vR),N3]
structure Ls(D:Dem)(n:Nat)(ch:Ò)(k:Nat):Prop where
 mp:0<pA (ś k) θ
 off:∀i,i<k->pA (ś k) (Ó (á ch) 0)=0
 dn:∀φ,ϩ7->(ŵ<|φ (Ψ i)=0)->φ (pA<|ś k)=pA (ś k) θ*φ (Ψ n)
def ls_eq(k j:Nat):ϰM (jF (ś k) (ϙ k)<|Ó ϸH 0)*Ņ (ś<|k+1)=pA (ϙ k) (Ó ϸH 0)*Ņ (ś k)-pA (ś k) (Ó ϸH 0)*Ņ (ϙ k):=Ô lsF' (Rt (Ĥ B3 vR) _ j)
def HW(h:ϫS){k:Nat}(H:k<n)(q:Ls D n ch k):pA (jF (ś k) (ϙ k)<|Ó ϸH 0) θ≠0:=by
 rw[oH<|Ĥ B3 vR];let Z:pA (ϙ k) θ=0:=ϱD ((ϩJ).oth k Á n ϰm Á) (mJ H)
 rw[Z,Zaa,Zau,wW<|ϭw H];show Zbd<|Zay (h.ú k H) q.mp
def GO(h:ϫS):ϩG (Ls D n ch k):=by
 ext Y
 induction Y with
 |zero=>
  ext _;show(by
    let:=ϖr ϰm;rw[Aj]at this;change 0<pA Ϸh θ;rw[this];show Zdw,ϰp (ϐR<|Zbh i),λφ x x=>by
    let:=ϖr ϰm;rw[Aj]at this;change φ (pA Ϸh)=pA Ϸh θ*φ (Ψ n)
    rw[this,Zaq,Aj])
 |succ k N3=>
  ext H;let q:=N3 Á;let K:k<n:=Á
  let g0:=mI<|HW h K q;let Z:pA (ϙ k) θ=0:=ϱD ((ϩJ).oth k Á n ϰm Á) (mJ K)
  let pp:0<pA (ϙ k) (Ó ϸH 0):=Ô (wW<|ϭw K) (h.ú k K)
  let em:=ϕQ θ;rw[Z,Zaa,Zau]at em;show(tV g0 (Ô em<|Zay pp q.mp),ϰp (CO g0 ?_),ϓz ?_)
  .rw[ls_eq]
   cases e:i=k
   .subst e
    rw[Zai];lia
   rw[q.off i Á,wW (h.lt i Á),Ϧd Á k K Á,Zaa,Zaa];rfl
  let S:=hφ.sub (x':=pA<|ś<|k+1) (x:=pA<|ś k) (y:=pA<|ϙ k) λj=>ls_eq k j;let F:φ (pA<|ϙ k)=0:=ϱD (hz k K) (mJ K)
  rw[F,q.dn φ hφ hz,Zaa,Zau]at S;show ϔN g0;rw[S,<-Zae,<-em,Zae]
def Q2{A:Nat}(S:Sm A D)(h:ϫS):ϩG (∀j,Ś (-(ä ύJ)) (Ņ (ś k)) (ϱC ύJ)):=by
 induction _ with
  |zero=>
   ext _ j
   let:=Bb S n n ϰm j;rw[Aj]at this;rw[Zeu,Zfr];show this
  |succ k ih=>
   intro hk j
   let i:=ih ϱI;let g0:=mI (HW h ϱI<|GO h k ϱI);let e:=ϕQ j;let fr:∀j,ϺY (Ņ (ϙ k)):=λj=>ϱD (Bb S n k ϱI j) (mJ ϱI)
   let M:=sJ (fr<|Ó ϸH 0)<|i j;let Q:=sJ (i<|Ó ϸH 0)<|fr j;let ex:ä (A*(2*A)^(k+1))=2*(ώU*ä ύJ):=by rw[Zcm,<-Zek,Zdp _<|2*A,Zek 2];rw[Zbz,Zbz];rfl
   rw[ex];rw[Zai _ ώU]at Q;generalize ώU*ä ύJ=Y at*;generalize ϰM (jF (ś k) (ϙ k)<|Ó ϸH 0)=g at*;generalize Ņ (ś<|k+1)=x at*;let b:ϥi (2*Y) (g*x):=ϱI
   let c1:x.ñ<=(g*x).natAbs:=Ô Zda (Zcq _ ϱI)
   omega
def MG{i:Nat}(h:i<n):P0 ϹF i=ϙ i:=by
 erw[P0,S0];dsimp only;rw[K9V (by rw[K0,Z7];show h),N2,ϴ6];rfl
def HY:P0 ϹF n=ś n:=by
 erw[P0,S0];dsimp only;rw[K9a (Ε K0 Z7 ϰm),K0,Z7,K8c];rfl
def YL{A:Nat}(h:ϫS)(N:0<n):ϧ0 (θ+1) (θ+2) A Ψ ϹF:=by
 let L:=GO h n ϰm;let tr:ŵ ((vw ϹF).T i=Ψ i):=λi hi=>by
  rw[mJ hi];change pA (P0 ϹF i)=_;rw[MG hi]
 let tn:(vw ϹF).T n=pA (ś n):=by
  change pA (P0 ϹF n)=_;rw[HY]
 let tc:∀i,(vw ϹF).c i=Ó (á ch) 0:=ώg;let Z:ŵ (∀l,l<n->Ψ l (Ó (á ch) 0)=pA (ϛ<|Ó (á ch) 0) l):=λi hi l a=>by rw[mJ a,wW<|h.lt i hi]
 show((ϱn,λi hi l a H=>?_,ϱn,ϱn,λφ x hz i hi=>?_,ϓz ⟨ϱn,?_⟩,?_,ϱn),?_,h.len,ϱn,ϱn)
 .rw[ϭj,tc,Z i hi i hi]
  show h.ú i hi
 .rw[tc]
  cases e:l=n
  .rw[e,tn]
   show L.off i hi
  rw[tr l Á,Z i hi l Á];show Ϧd hi l Á H
 .rw[tc]
  show h.lt i hi
 .rw[ϭj,Jt ϴW,Os hi]
  split<;>decide
 .let:=hz i hi
  rw[ϭj]at this;show this
 .rw[ϭj]
  show hz i hi
 .rw[tn]
  show L.dn φ hφ hz
 .rw[tn]
  show L.mp
 .rw[ϭj]
  show(ϩJ).oth i ϴW n ϰm Á
 .unfold S0
  dsimp only;rw[K9v,K0,Z7,K9e]
 .by_cases e:i=n
  .rw[e,HY,B3]
  rw[MG Á,vR]
 cases e:i=n
 .left
  rw[e,tn];obtain⟨k,rfl⟩:∃k,n=k+1:=⟨n-1,Á⟩
  rw[lsF'];show Ct<|HW h (K8d k)<|GO h k<|K91 k
 right;show(Á,λj=>ϰT (tr i Á))
def QV{u:Int}{x:å}(U:0<u)(X:Η D.À (u*dC D j<=ĳ (λi=>x i*ř (ϛ j)))):∃d,Dual n D.À Ψ u d:=by
 show(λj=>u*Ψ n j-ĳ (λi=>x i*Ψ i j),U,ϳo,ϓz ?_)
 .let:=X j J
  let e:ĳ (λi=>x i*Ψ i j)=ĳ (λi=>x i*ř (ϛ j)):=aM n (ϰp (by rw[mJ hi,wW J]))
  change u*Ψ n j-ĳ (λi=>x i*Ψ i j)<=0;rw[e,Aj,GY J];lia
 let h:=hφ.sub (g:=1) (p:=u) (q:=1) (x':=λj=>u*Ψ n j-ĳ (λi=>x i*Ψ i j)) (x:=Ψ n) (y:=λj=>ĳ (λi=>x i*Ψ i j)) (λj=>Ĥ Zaq Zaq);let H:=hφ.sm (w:=x) (G:=Ψ) n;rw[cJ n (ϰp (Ĥ (hz i hi) Zaa))]at H;rw[Zaq,Zaq,H]at h;lia
end Lp
namespace Lp
variable{D:Dem}{n A w:Nat}{S:Sl}
def xE(D:Dem)(n:Nat)(S:Sl)(k:Nat):Int:=-ϥ n (D.À+k)
def uE(D:Dem)(n:Nat)(S:Sl):Int:=ϥ n θ
def pE(D:Dem)(n:Nat)(S:Sl)(l:Nat):Int:=ϥ l (θ+1)*Q n ϲV l
def Io(J:ϧ0 (θ+1) w A Ψ S)(H:Halt n D.À ϲV){j:Nat}(h:ϥA):uE D n S*dC D j<=ĳ (λk=>ϹX k*ϱk (ϛ j)):=by
 let b:=vS J.inv ϩJ ϰm j;let a:=H j h;rw[b,sm.a2]at a;let e:ĳ (λq=>ϥ n ϫE*Ψ q j)=-(ĳ<|λk=>ϹX k*ϱk (ϛ j)):=by
  let:=kH (-1) 0 (λk=>ϹX k*ϱk (ϛ j)) (Ţ 0) n;let g:ĳ (λq=>ϥ n ϫE*Ψ q j)=ĳ (λi=>-1*(ϹX i*ř (ϛ j))+0*0):=aM n λi hi=>by
   rw[mJ hi,wW h];erw[xE];let z:-ϥ n (D.À+i)*ř (ϛ j)=-(ϥ n (D.À+i)*ř (ϛ j)):=Zcc _ _;lia
  rw[g,this];lia
 rw[e,Aj,GY h]at a;erw[uE];lia
def Ys(J:ϧ0 (θ+1) w A Ψ S):0<uE D n S:=J.inv.mp
def Kg(J:ϧ0 (θ+1) w A Ψ S){i:Nat}(hi:i<n):ĳ (λl=>ύb*ř (ϛ<|ŧ l))=P n ϲV*(Ë (i<2) 1 0):=by
 let h:=nK J.inv (θ+1) i hi;erw[ph]at h;let e:ĳ (λl=>ϥ l (θ+1)*Q n ϲV l*Ψ i (ŧ l))=ĳ (λl=>ύb*ř (ϛ<|ŧ l)):=aM n λl a=>ϰ8 (mJ hi) (wW<|J.ċ l a)
 rw[e,Jt ϴW,Os hi]at h;lia
def Wk(J:ϧ0 (θ+1) w A Ψ S)(H:2<=n):ϥ n (θ+1)=-(ϹX 0+ϹX 1):=by
 let h:=vS J.inv ϩJ ϰm<|θ+1;rw[h,sm.a2,Jt ϰm,P3<|K8n n,Zaa,Zak];let e:ĳ (λq=>ϥ n ϫE*Ψ q (θ+1))=ĳ (λq=>Ë (q<2) (-ϹX q) 0):=aM n λi hi=>by
  rw[Jt ϴW,Os hi];erw[xE];split
  .rw[Zbl];lia
  rw[Zaa]
 rw[e];obtain⟨m,rfl⟩:∃m,n=m+2:=⟨n-2,Á⟩
 let t:∀m,ϯ0 sm (m+2) (λq=>Ë (q<2) (-xE D (m+2) S q) 0) (λq=>Ë (q<2) (-xE D (m+2) S q) 0):=ώg;let g:∀(f:å)(m:Nat),ϺM (m+2) (Ë (q<2) (f q) 0)=f 0+f 1:=by
  ext f m
  induction m with
  |zero=>
   change(0+(Ë (0<2) (f 0) 0))+(Ë (1<2) (f 1) 0)=_;rw[Os Ý,Os Ý];lia
  |succ m ih=>rw[sm.a2,ih,P3 Á,Zak]
 rw[g];lia
def IY(J:ϧ0 (θ+1) w A Ψ S)(H:2<=n):uE D n S*ĳ (λl=>ύb*dC D (ŧ l))=P n ϲV*(ϹX 0+ϹX 1):=by
 let h:=BE J.inv<|θ+1;rw[Wk J H]at h;erw[ph]at h;let e:ĳ (λl=>ϥ l (θ+1)*Q n ϲV l*Ψ n (ŧ l))=ĳ (λl=>ύb*dC D (ŧ l)):=aM n λl a=>ϰ8 Aj (GY<|J.ċ l a)
 rw[e,Jt ϰm,P3<|K8n n,Zaa,Int.zero_sub,Zcx,Zcx]at h;erw[uE];omega
end Lp
def pV(os:Ol):Ol:=os.Ç λp=>(0-p.2,0-p.1)
def CQ(Ds:Int):∀a b:Ol,ϴc (pV a) (pV b)=ϴc b a:=by
 induction _ with
  |nil=>
   intro b
   erw[ask,pV];simp
  |cons a as ih=>
   ext x14
   cases x14 with
    |nil=>
     erw[ask,pV];simp
    |cons b bs=>
     let i:=ih bs;erw[ask,pV]at i⊢;rw[K9w,K9w,Zeb,Zeb,K9w,K9w,i];congr 1;change 0-a.1+ϥz-(0-b.2)=b.2+ϥz-a.1;lia
def IZ(Ds:Int)(a b:Ol):ϲR (pV a) (pV b)=ϲR b a:=by rw[vx,vx,CQ]
def cY(O:À Ol):À Ol:=O.reverse.Ç pV
def iu(O:À Ol):ϻ8 (Ã ϲW):=χ cY K0 Zax
def va{O:À Ol}{k:Nat}(h:϶7):ϲW[k]?.getD []=pV (O[ĺ-k]?.getD []):=by
 erw[cY];rw[N2,Zaw h,Nu<|ê (ĺ-k<O.À)];rfl
def IF{O:À Ol}(h:ϸS):okO ϲW:=by
 show(λos m=>?_,Ô iu h.2.1,Ô iu h.2.2);let(o,H,rfl):=XV.mp m;erw[pV];rw[K0];show h.1 o<|List.mem_reverse.mp H
def KJ(Ds:Int)(O:À Ol)(i j:Nat)(I:i<j)(J:ϨC):ϳv (ĺ-j) (ĺ-i)=dO Ds ϲW i j:=by erw[dO];rw[va (ê ό9),va J,IZ]
def HD{Ds:Int}{O:À Ol}(R:ϸS)(M:ϓ0 2)(k:Nat)(H:϶7):gv (Ŭ ϲW) k=0-gv (Ŭ O) (ĺ-k):=by
 obtain⟨⟨e,L,h⟩,_⟩:=ϻk R;obtain⟨⟨E,s,h'⟩,_⟩:=ϻk<|IF R;let N:0<O.À:=ϺE;let m:ϓ0 (2*1):=M;let(t,_):=FA (D:=1) h R m ⟨128,Ý⟩;let ex:∀i j,i<j->ϨC->ϳv (ĺ-j) (ĺ-i)=dO Ds ϲW i j:=KJ Ds O;let I:=Px ex<|U8 h.isL;let l:=Ov ex<|ZY N h.isE;let Q:=h'.isE;let q:=h'.isL;let he:=h'.eq;rw[iu]at Q q he;let uE:∀k,϶7->gv E k=gv e ĺ-gv L (ĺ-k):=ϲ1 (C_ Q I k H);let T:gv E ĺ=gv e ĺ:=ϳq (uE ĺ Á) K8c (za N h.isE h.isL rfl)
 rw[T]at q;let u:∀k,϶7->ϱA k=gv e ĺ-gv e (ĺ-k):=ϲ1 (Lf q l k H);rw[he k H,h.eq (ĺ-k) Á,T,uE k H,u k H];let a:=(uV (D:=1) (t (ĺ-k) Á).1 (t (ĺ-k) Á).2).2;let b:=(uV (D:=1) (t ĺ Á).1<|Zdg _).2;rw[Zak]at b;lia
def sr{O:À Ol}{k:Nat}(h:϶7):l7 ϲW k=l7 O (ĺ-k):=by erw[l7];rw[va h];erw[pV];rw[K0]
def GV{O:À Ol}{k l:Nat}(h:϶7):ϗf (oA ϲW k l) (϶S (ĺ-k) l):=by
 erw[oA];rw[va h];erw[pV];rw[N2];cases(O[ĺ-k]?.getD [])[l]? with
 |none=>rfl
 |some p=>rfl
def GI{O:À Ol}(h:O≠[]):mxN ϲW=ϴn:=by
 let h':ϲW≠[]:=λz=>h (by let:=Ż z;rw[iu]at this;show ϗc);obtain⟨_,⟨i,e,f⟩,I⟩:=uD h;obtain⟨_,⟨j,J,d⟩,c⟩:=uD h';rw[iu]at J c;let a:=I (ĺ-j) Á;let b:=c (ĺ-i) Á;rw[sr J]at d;rw[sr Á,ê (ĺ-(ĺ-i)=i)]at b;lia
def yw{O:À Ol}{l i:Nat}:i∈ϦC ϲW↔ό9/\ĺ-i∈ϲP l:=by
 erw[there];rw[K89,K89,K9G,K9G,K9k,K9k,iu];constructor
 .rintro⟨a,b⟩
  rw[sr a]at b;show(a,Á,b)
 ext⟨a,b,c⟩;show(a,by rw[sr a];show c)
def OE{X s:À Int}(a:ϵa X)(H:ϘU)(b:ϘV):eT X=0-jE s:=by
 let Y:s≠[]:=ϕB
 let(A,n):=dS a;let(b1,B):=c_ Y;let(y,y1,y2):=H _ A;let(x,c,d):=b _ b1;let:=B y y1;let:=n x c;lia
def QR{X s:À Int}(a:ϵa X)(H:ϘU)(b:ϘV):jE X=0-eT s:=by
 let Y:s≠[]:=ϕB
 let(A,n):=c_ a;let(b1,B):=dS Y;let(y,y1,y2):=H _ A;let(x,c,d):=b _ b1;let:=B y y1;let:=n x c;lia
def Qq{O:À Ol}(R:ϸS){T t:À Int}(S:∀k,϶7->gv t k=0-gv T (ĺ-k)):jo ϲW t=pV (jo O T):=by
 let n:O≠[]:=λz=>by let:=ϺE;rw[z]at this;simp at this
 erw[jo,pV];rw[GI n,S1];show K8u ϔS;rw[K9G]at L;change ϗf (jl ϲW t l) (jl O T l)
 let h:ϲW≠[]:=λz=>n (by let:=Ż z;rw[iu]at this;show ϗc);let tn:=n6 h (l:=l) (ύn<|GI n);let M:∀i∈ϦC ϲW,∃j∈ϲP l,j=ĺ-i/\ϕk:=λi hi=>by
  let(a,b):=yw.mp hi;show(_,b,rfl,S i a,?_,?_)
  .rw[GV a]
  rw[GV a]
 let Q:∀j∈ϲP l,∃i∈ϦC ϲW,ϕk:=λj J=>by
  let jl:=Ϸw (K89.mp J).1;let hi:ĺ-j∈ϦC ϲW:=yw.ó ⟨Á,όj (ê (ĺ-(ĺ-j)=j))⟩;let(d,_,e,a,b,c):=M _ hi;rw[ê (ĺ-(ĺ-j)=j)]at e;subst e;show(_,hi,a,b,c)
 erw[jl];show ϗF ?_
 .change eT _=0-jE _
  show OE (λz=>tn ϶V) όT λy Y=>?_
  .let(i,hi,rfl):=Ϻb
   let(j,J,_,a,b,_):=M i hi;show(_,ϲo ⟨j,J,rfl⟩,ϯD)
  let(j,J,rfl):=XV.mp Y;let(i,hi,a,b,_):=Q j J;show(_,ϲo ϒe,ϯD)
 change jE _=0-eT _;show QR (λz=>tn ϶V) όT λy Y=>?_
 .let(i,hi,rfl):=Ϻb
  let(j,J,_,a,_,b):=M i hi;show(_,ϲo ⟨j,J,rfl⟩,ϯD)
 let(j,J,rfl):=XV.mp Y;let(i,hi,a,_,b):=Q j J;show(_,ϲo ϒe,ϯD)
section
variable{ts:À Nd}{c:F}
def yt(p:ç){k:Nat}(H:Ć):gv (ay ć) (Ĺ k)=Ļ k:=by
 let h:=F.Pf.at_g p H;let g1:ć[Ĺ k]?=Â Ϧ0:=ϧk aR
 rw[xv g1,xv<|yR H]
def gT(p:ç){k:Nat}(h:Ć):F5 ć (Ĺ k)=Ê (Ϩ<|Å k) Ĺ:=Vo p h
def VB{ts:À Nd}(Ds:Int)(he:ĕ)(a:Č 0)(h:é)(d:Ϥh){j:Nat}(J:ϰg):∀o∈Ê (Å j) í,xh 2 o:=λo H=>by
 let(c,C,rfl):=Ϻb;let c1:=ϋ C;let l:=NJ Ds he a h d c1.2;let lc:=ϳF C;show Ů (ML Ds he a h ϒd c Á c1.2 Á) ?_;show yA (ê<|Ã (í c)<=8)
def Pe(p:ç)(Ds:Int)(l:é)(d:Ϥh):∀m j,İ (j+m)->ϰg->outF ć Ds (Ĺ j)=pV (í j)/\(F5 ć<|Ĺ j).map (outF ć Ds)=cY (Ê (Å j) í):=by
 let he:=ľ;let e:=aA ϶O;let H:=p.ú;let L:=ϵY;ext m
 induction m using Nat.strongRecOn with
 |ind m ih=>
  ext j M J;let gl:=ϻq J;let below:(F5 ć<|Ĺ j).map (outF ć Ds)=cY (Ê (Å j) í):=by
   rw[϶T J];erw[cY];rw[S1,<-Zdc,S1];show K8u λa A=>?_;let(b,n):=ϋ<|List.mem_reverse.mp A;show(ih ϧ1 Á a Á n).1
  show(?_,below);let i:ini ć (Ĺ j)=pV (ϱ4 j):=by
   erw[ini,pV];rw[yt p J];change [_]=[_]
   congr 1
   show ϗF (ϳY<|_=0-_)
  rw[mP Ds e Á Á Á,ϥS H l J,below,i];let h:(F5 ć (Ĺ j)=[])=(Å j=[]):=ϳj (϶T J)
  cases C:Å j=[]
  .rw[Os C,Os ϚR,K9d,K9d]
  rw[P3 C,P3 ϚR];let R:=ϥT H l C;rw[Qq R λk K=>HD R (ϚS J) k K];erw[pV];rw[K9i]
end
def oM:Fs:=(ao (Ų<|ñ a_ 1<|Ç 1)
 (ao (dX (p_ (aD<|ñ gLt 2<|ħ<|È 0 ai)<|aD<|F4 gGe (ū (Ù 0 ό)<|Ç 0) Ŋ)<|EU 2 Dg<|Ç 1)
 (bF ό)))
def iW:Fn:=ε 3 oM
def nH:Fs:=(bF<|Ao (ϵB (Ù 0 Ŋ)<|Ç 0)<|Ao (Ap<|ϨE<|ĝ (ϳb 0 iN<|d8 Ŋ))<|Ap<|ϨE<|ae (ϳb 0 (d8<|ñ a_ 1<|Ç 1) iN) ai)
def gP:Fn:=ε 2 nH
def z9:Fs:=(bF<|aP (iR1<|ñ a_ 0<|Ç 1) ϰb aT (Ϥz (ñ gEq 0 Ŋ) (Ç 1)<|Ç 0) 1 [1])
def n8:Fn:=ε 2 z9
def lL:Fs:=(ao (Ų<|Rs<|aP (iR1 Ŋ) ϰb (aD<|ϵB (Ù 1 Ľ)<|Ç 0) Ľ 1 [0])
 (bF<|eIf (aD<|ϵB (ħ<|È 2 ai)<|Ç 0) (Ù 2<|Ç 0)<|ġ<|Ç 1))
def cA:Fn:=ε 3 lL
def o_:Fs:=(ao (ϱo<|϶v (ū (Ù 0 Š)<|ġ<|Ç 1)<|ū (Ù 0 ş) ό)
 (ao (ϱ3<|϶v (ū (Ù 0 ş)<|ġ<|Ç 1)<|ū (Ù 0 Š) ό)
 (bF<|eOr (ñ gLt 5 ϸQ)<|Ao (ñ gEq 5 ϸQ)<|F4 gLt (Ù 1 Š)<|Ù 1 ş)))
def iH:Fn:=aZ 5 7 o_
def jB:Fs:=(ao (dX (aD<|ñ gNe 1<|Ç 0) (ao (Ų<|ñ Eb 0 Ŋ)
 (ao (ax 0 Ŋ)
 (ϳ6 ό))))
 (bF<|eB Nt<|È 0 ai))
def dA:Fn:=ε 3 jB
def lG:Fs:=(bF<|aP (iR2 (Ç 1)<|ħ<|È 0 ai) ϰb aT (ϳz (ϸa<|ĝ (ϳb 1 (d8 Ľ) iN))<|ϸa<|ĝ (ϳb 1 iN<|d8 Ľ)) 1 [0])
def i7:Fn:=ϲ5 1 lG
def lM:Fs:=(ao (Ų<|ϴs Ŋ (ϳ0<|ϳV 0<|Œ 1 2 bB) (aD Ŋ) (Ù 3 Ľ) 3 [0])
 (ao (Es 2<|ϴs Ŋ (ϳ0<|ϳV 0<|Œ 1 2 bB) (aD ό) (Rs<|ub (Ù 3 Ľ)<|ġ<|Ç 1) 3 [0])
 (ϬK<|bF<|aP (iR1<|ħ<|ĝ (Ù 2<|Ç 0)) ϰb aT (ϸa<|ĝ (ϰr bY 1 (Ù 0 Ŋ) 1 [0])) 1 [2])))
def d6:Fn:=ε 3 lM
def jK:Fs:=(bF<|F4 gLe (϶v (Ù 0<|Ç 0)<|Ù 1<|Ç 1)<|϶v (Ù 1<|Ç 0)<|Ù 0<|Ç 1)
def b_:Fn:=ε 2 jK
def rC:Fs:=(ao (AF<|aj fi<|È 0<|È 1 ai)
 (ao (Ų<|bO<|ae (d_<|ae (ġ<|Ç 1)<|ae (ū (Ù 0 Ŋ)<|Ç 1)<|ae (ū (Ù 0 Ŋ)<|Ç 2) ai) ai)
 (ao (ϫa (ϳb 0 (d8<|ñ a_ 1<|Ç 1)<|d8<|aj iW<|È 0<|È 1 ai) 3<|Ϩ2<|d_<|ae (ϳz (Ù 3<|Ç 0) Ŋ)<|ae (Ù 3<|Ç 1)<|ĝ (Ù 3<|Ç 2))
 Ϥs)))
def iy:Fn:=ε 4 rC
def uA:Fs:=(ao (ϳ6<|Rs<|ϰr bY 0 (Ù 0<|Ç 0) 1 [])
 (bF<|d_<|È 1<|ĝ (Rs<|ϻL<|È 0 ai)))
def hX:Fn:=ϲ5 2 uA
def fS:Fs:=(ao (Δ<|ϥD<|ae (ϺJ Ŋ (ϻL<|È 0 ai) (ϡ<|Œ 0 1 bB) aT (ñ cO 0<|ñ gn 2 Ŋ) 2 [2]) ai)
 (bF<|ϰr bY 1 (ñ cO 0 Ŋ) 1 [3]))
def bj:Fn:=ϳM 4 fS
def mh:Fs:=(ao (Δ<|Rs<|eB gLz<|È 1<|ĝ (ϻL<|È 0 ai))
 (ao (ϰl<|ϻK<|ae (ϴs Š (ϡ<|Œ 0 1 bB) aT (ñ a_ 0<|ñ cX 2<|ñ a_ 1<|Ç 1) 2 [2]) ai)
 (ao (ϱo<|ϥD<|ae (ϴs Š (ϡ<|Œ 0 1 bB) aT (ñ cO 0<|ñ cX 2 Ŋ) 2 [2]) ai)
 (bF<|ñ cO 4 ς))))
def eh:Fn:=ϳM 6 mh
def kI:Fs:=(ao (ϳ6 ϊ)
 (ao (bZ (iR1<|ħ<|ae (ū (Ù 0<|Ç 0)<|Ç 0) ai) (K2 2) (ao (Δ<|Rs<|aP (iEn Ľ) (ϡ<|Œ 0 1 bB) (aD<|aj gP<|ae (Ù 1<|Ç 0)<|È 2 ai) Ľ 2 [2])
 (ϨZ<|Ù 3<|Ç 0)))
 Ϥr))
def eV:Fn:=ϲ5 4 kI
def ku:Fs:=(ao (Δ<|ġ<|Ç 1)
 (ao (ϧS (ħ<|È 1 ai) 4<|sIf (p_ (aD<|ϵB (ū (Ù 0 ş) ό)<|Ç 0)<|pZ (aD<|ñ gLt 3<|Ç 0)<|aD<|aj iH<|È 0<|È 1<|È 2<|È 4<|È 3 ai) (Δ ş) sNx)
 (bF Š)))
def cH:Fn:=ϳM 5 ku
def uF:Fs:=(ao (ϳ6<|Ç 0)
 (ao (ϫa Ľ 2<|ϳ6<|Rs<|aj dA<|È 1<|È 2 ai)
 (bF<|ϰr bY 0 (ñ JY 0 Ŋ) 1 [1])))
def jM:Fn:=ϲ5 3 uF
def iG:Fs:=(ao (ϱo<|Rs<|aj dZ<|È 0 ai)
 (ao (ϱ3<|Ϧ9 (Ç 0)<|ħ<|È 0 ai)
 (ao (ϳ7<|Ç 0)
 (ao (bZ (iR1<|ħ<|È 0 ai) (K2 8) (sIf (aD<|Ϲ2 (Ù 5<|aa 8) ϊ) (ao (Ϭw<|ϱN (ϰz (Ϩp<|È 1<|ĝ (ñ a_ 2<|aa 8))<|Ç 69621)<|Ç 2147483629)
 (ao (ϳ7<|ŗ (ñ a_ 7<|ϰz (ŗ (Ç 9) ş) Š)<|ϰz (ñ ip 9<|Ç 3)<|Ç 256)
 (ϯe 6 ϦO))) sNx))
 (ao (bZ (iR3 (ϳz (ħ<|È 0 ai)<|Ç 1) (ġ<|Ç 1)<|ġ<|Ç 1) (K2 8)<|ϷH (Ϸl (Ù 5<|aa 8) ϊ) (ϯe 6<|pX<|Ϧa (ŗ (Ù 6<|ū (Ù 5<|aa 8)<|Ç 0)<|Ù 6<|ū (Ù 5<|aa 8)<|ġ<|Ç 1)<|Ç 2) sNx)
 (dB 6))))))
def cE:Fn:=aZ 5 10 iG
def yO:Fs:=(bF<|aP (iR1<|ħ<|È 0 ai) ϰb (aD<|ϵB (ħ<|ĝ (Ϸ9<|È 1<|È 0 ai))<|Ç 1) Ľ 1 [0])
def kn:Fn:=ϲ5 1 yO
def iI:Fs:=(ao (Ų ϊ)
 (ao (bZ (iR1<|ħ<|È 0 ai) Ϧz (ao (ϰl<|Rs<|Ϸ9<|È 0<|È 3 ai)
 (sIf (p_ (aD<|ϵB (ħ<|È 4 ai)<|Ç 0)<|aD<|Ϸl (ϰz (Ç 2)<|Ù 1 Š)<|ŗ (Ù 1<|Ù 4<|Ç 0)<|Ù 1<|Ù 4<|ġ<|Ç 1) (Ϩ2<|d_<|ae (eC<|Ė "middle")<|È 3 ai) sNx)))
 Ϥs))
def dc:Fn:=ε 5 iI
def qA:Fs:=(ao (Δ<|Rs<|Ϸ9<|È 0<|È 2 ai)
 (bF<|ϺJ Š (ϳb 3 (d8<|Ç 1) iN) (ϡ<|Œ 0 1 bB) aT (ϳz (Ù 2 Ŋ)<|Ù 2 Ľ) 2 [1]))
def iq:Fn:=ϳM 4 qA
def lO:Fs:=(ao (Δ<|ϳz (ħ<|ae (Ϸ9<|È 0<|ĝ (Ù 1<|Ç 0)) ai)<|Ç 2)
 (ao (ϷH (Ù 1<|Ç 2) (bF<|aP (iR1<|ñ a_ 3<|Ç 1) ϰb aT (ñ a_ 1<|ϓs<|È 0<|ĝ (ñ cO 2 Ľ)) 1 [2,3]) sNx)
 (bF<|aP (iR1<|ñ a_ 3<|Ç 1) ϰb aT (ñ a_ 1 Ľ) 1 [2])))
def cU:Fn:=ϳM 4 lO
def kF:Fs:=(ao (Ų<|Rs<|ϻL<|È 0 ai)
 (ao (Δ<|Rs<|ϨD<|È 0 ai)
 (ao (ϰl<|Rs<|ϰr bY 3 (Rs<|d_<|ae (Rs<|ŗ (bO<|ae (Ç 1)<|ĝ (Ç 0))<|eSl l6 (Ù 1<|Ù 0<|Ç 0) (d8<|Ç 2) iN)<|ae (Ù 2<|Ù 0<|Ç 0) ai) 1 [1,2])
 (ao (ϱo<|Rs<|ϰr bY 3 (Rs<|d_<|ae (Rs<|ŗ (bO<|ae (Ç 0)<|ĝ (Ç 1))<|aP (bY<|eSl l6 (Ù 1<|Ù 0<|ġ<|Ç 1) (d8<|Ç 2) iN) ϰb aT (ġ Ľ) 1 [])<|ae (Ù 2<|Ù 0<|ġ<|Ç 1) ai) 1 [1,2])
 (bF<|ñ a_ 4 ς)))))
def c9:Fn:=ε 6 kF
def uz:Fs:=(bF<|aj jM<|ae (ϺJ Ľ Ŋ (ϡ<|Œ 0 1 bB) aT (ϳz (϶v (Ù 2 Š) Ľ)<|϶v (Ù 4 Š) Ŋ) 2 [1,2,0]) ai)
def eE:Fn:=ϳM 3 uz
def lH:Fs:=(ao (Δ<|Ç 1)
 (ao (bZ (iZp Ľ Ŋ) (ϡ<|Œ 4 5 bB)<|EU 3 gn<|Ù 4 ς)
 (ao (ϱ3<|Ϧ9 (Ç 0) ό)
 (ao (bZ (iZp Ľ Ŋ) (ϡ<|Œ 4 5 bB)<|xj 6 ς<|϶v (Ù 4<|ġ<|Ç 1)<|ñ JY 3<|Ù 4 ς)
 (pq 6<|bF<|aj jM<|È 6 ai)))))
def d4:Fn:=ϳM 7 lH
def pH:Fs:=(ao (Ų<|Rs<|ϨD<|È 0 ai)
 (ao (sIf (aD<|Ϸl (ϰr iTp 1 (ħ<|È 0 ai) 1 [])<|bO<|ae (ħ<|È 2 ai)<|ae (ħ<|È 2 ai)<|ĝ (ħ<|È 0 ai)) (bF<|eC<|ã false) sNx)
 (ao (Δ<|ϥD<|ĝ (ϰr iTp 1 (ϥD<|È 0 ai) 1 []))
 (bF<|Ao (ñ gGe 3<|Ç 0)<|Ap<|ϨE<|ae (ϰr bY 2 (ū (Ù 1<|Ç 2)<|Ù 0<|Ç 0) 1 [1]) ai))))
def eG:Fn:=ε 4 pH
def m_:Fs:=(ao (Ų<|ħ<|È 1 ai)
 (ao (Δ ϊ)
 (ao (bZ (iR1 ό) ϩT (ao (ϱo<|Rs<|ϰr bY 0 (ū (Ù 0<|Ç 0) Ŋ) 1 [4])
 (ϥW<|Rs<|ŗ (ñ a_ 5<|aj n8<|È 2<|È 4 ai)<|bO<|ae (Ϥz (ñ gLt 4<|Ç 2) (Ç 1)<|Ç 0) ai)))
 (ao (ϥW<|Rs<|ŗ (ŗ (ϰr bY 0 (Ù 0<|Ç 1) 1 [])<|aj n8<|È 2<|È 2 ai)<|bO<|ĝ (Ç 0))
 (ao (bZ (iEn Ŋ) (ϡ<|Œ 4 6 bB)<|xj 3 (ġ<|Ç 1)<|Rs<|mE<|ϨF<|ae (Ù 3<|ġ<|Ç 1)<|ae (Ù 3 ş)<|È 6 ai)
 (dB 3))))))
def gJ:Fn:=ε 7 m_
def oq:Fb:=(LN (Δ<|Rs<|pX<|όV<|ae (Ù 0<|ġ<|Ç 1)<|È 2 ai)
 (LN (dX (aD<|ñ gGe 3<|Ç 0) (ao (ϰl<|Rs<|pX<|ϓu<|È 0<|È 1<|È 3 ai)
 (ao (tM 1 ş Š)
 (ao (ϧS (pX<|ħ<|È 0 ai) 5<|ϷH (ñ gNe 5 ş) (tM 0 ς<|mE<|ϨF<|ae (Ù 0 ς)<|ae (Ù 0 ş)<|È 3 ai) sNx)
 (Δ<|Rs<|pX<|όV<|ae (Ù 0<|ġ<|Ç 1)<|È 2 ai)))))
 bNx))
def sx:Fm2:=fm2 6 oq
def m7:Fs:=(ao (Ų<|Rs<|ϨD<|È 0 ai)
 (ao (Δ<|ħ<|È 2 ai)
 (ao (ϰl<|Ϧ9 (Ç 0)<|ħ<|È 0 ai)
 (ao (bZ (iZp (ϓt<|È 0 ai)<|ϳb 1 (d8<|ϰz (Ç 2) Š) iN) (ϡ<|Œ 5 6 bB)<|xj 4 (Ù 5<|Ç 1) ϸQ)
 (ve (ϳb 1 iN<|d8 Š) (ϳb 1 (d8 Š)<|d8<|ϰz (Ç 2) Š) 4)))))
def gN:Fn:=ε 7 m7
def ny:Fs:=(ao (Ų<|όW<|ĝ (Ù 1<|Ç 2))
 (ao (bZ (bY<|ϓt<|È 0 ai) (ϡ<|Œ 3 4 bB)<|ϖx Š<|ū (Ù 1<|Ç 2) ş)
 (ao (bZ (JU<|ae (ϨD<|È 0 ai)<|ae (Ù 1<|Ç 0)<|ĝ (Ù 1<|Ç 1)) (ϳ0<|ϳV 5<|Œ 6 7 bB) (ao (Ϯl 2 (Ù 5<|Ç 0) ϸQ)
 (ϖx (Ù 5<|ġ<|Ç 1) ϦO)))
 Ϥs)))
def gM:Fn:=ε 8 ny
def eK:Fs:=(ao (Ų<|Rs<|Ϩp<|È 0<|ĝ (Ç 0))
 (ao (ϷH (Ϲ2 (ñ ip 2<|Ç 2)<|Ç 1) (bF<|aj fI<|È 0<|ae (Ç 3)<|ae (ŗ (Ç 1)<|ϱN (ñ kq 2<|Ç 2)<|Ç 2)<|ae (ϱN (Ϩp<|È 0<|ĝ (Ç 1))<|Ç 2147483647) ai) sNx)
 (bF<|aj f_<|È 0<|ae (Ç 3)<|ae (ŗ (Ç 1)<|ϱN (ñ kq 2<|Ç 2) Ŋ)<|ae (ū (bO<|ae (Ç 2)<|ĝ (Ç 9))<|ϱN (ñ kq 2<|Ç 32)<|Ç 2)<|ĝ (Ç 8))))
def bJ:Fn:=ε 3 eK
def rT:Fs:=(ao (Δ<|Rs<|ϓ4<|ĝ (aj iy<|È 0<|È 1 ai))
 (ao (ϰl<|Rs<|aj iy<|È 0<|È 2 ai)
 (ao (ϱo<|ū (aj ki<|È 4 ai)<|Ç 0)
 (bF<|d_<|ae (ñ gEq 3<|ϓ4<|È 4 ai)<|ĝ (ñ gEq 3<|ϓ4<|È 5 ai)))))
def fE:Fn:=ϳM 6 rT
def lV:Fs:=(ao (ϰl<|Rs<|ϓ5<|È 0<|È 2 ai)
 (bF<|ϴs ş (ϳ0<|ϳV 0<|Œ 1 2 bB) (aD<|F4 gLt (ϳz (Ù 3 Ŋ)<|Ù 3 Ľ)<|ñ gn 4 ό) (d_<|ae (eC<|Ė "gap")<|È 0<|È 1 ai) 3 [1,3]))
def fY:Fn:=aZ 4 5 lV
def lN:Fs:=(ao (Δ ϊ)
 (ao (bZ (bY<|ϓ5<|È 0<|È 2 ai) (ϳ0<|ϳV 4<|Œ 5 6 bB) (ao (ϳ7<|Rs<|ϺJ (Ù 1 ş) (Ù 1 ς) (ϡ<|Œ 0 1 bB) aT (ñ cO 1 Ľ) 2 [])
 (ϥW<|d_<|È 7<|È 6 ai)))
 (dB 3)))
def dW:Fn:=ϳM 8 lN
def lT:Fs:=(ao (Ų<|aj gM<|È 0<|È 1 ai)
 (ao (bZ (iR3 (ϳz (ħ<|È 0 ai)<|Ç 1) (Ç 0)<|ġ<|Ç 1) Ϧz<|Ϯl 2 (ū (Ù 0 Š)<|Ç 0)<|pX<|Ù 2 Š)
 Ϥs))
def fN:Fn:=ε 4 lT
def zY:Fs:=(ao (Δ<|Rs<|ϻL<|È 0 ai)
 (ao (ϰl<|ϸa<|ĝ (Ù 2<|Ç 0))
 (ao (bZ (JU<|ae (ϨD<|È 0 ai)<|ae (Ù 2<|Ç 0)<|ĝ (Ù 2<|Ç 1)) (ϳ0<|ϳV 5<|Œ 6 7 bB)<|EU 4 Dg<|ŗ (ñ cX 6<|Ù 3<|Ù 5<|Ç 0)<|ñ cX 7<|Ù 3<|Ù 5<|ġ<|Ç 1)
 (bF<|ñ a_ 4<|ϸa<|ae (ϴs (ϓ5<|È 0<|È 1 ai) (ϳ0<|ϳV 0<|Œ 1 2 bB) aT (ϰz (ū (Ù 3<|Ç 2) Ŋ) ό) 3 [2]) ai))))
def qZ:Fn:=ϳM 8 zY
def lB:Fs:=(ao (ϳ6 ϊ)
 (ao (Ų<|Rs<|ύg<|È 0 ai)
 (ao (dX (aD<|ϵB (ħ<|È 2 ai)<|Ç 0) (ao (Δ<|Rs<|ϰr bY 2 (F4 D8 (d_<|È 0 ai)<|aj fE<|È 1<|È 0<|ĝ (Ù 2<|Ç 0)) 1 [0,2])
 (ao (ϨZ<|Rs<|ϴs Š ϰb (pZ (aD<|Ù 0<|Ç 1)<|aD<|Ù 0<|Ç 2) Ľ 1 [])
 (Ų<|Rs<|ϴs Š (ϳ0<|ϳV 0<|Œ 1 2 bB) (p_ (nI<|aD Ŋ)<|nI<|aD ό) Ľ 3 []))))
 Ϥr)))
def cS:Fn:=ϲ5 4 lB
def o9:Fs:=(ao (Ų<|ū (aj nR<|È 0<|È 1 ai)<|Ç 0)
 (ao (Δ<|bO<|ĝ (Ç 0))
 (ao (bZ (iR2 (Ç 1)<|ħ<|È 0 ai) ϩT<|ϥW<|pX<|ŗ (Ù 3<|ū (Ù 0 ş)<|Ç 0)<|Ù 2 ş)
 (ύS<|bF<|aj bj<|È 0<|È 3<|ĝ (Ç 256)))))
def i_:Fn:=ε 5 o9
def sC:Fs:=(bF<|ŗ (aj fY<|È 0<|È 1<|È 2<|È 3 ai)<|aj dc<|È 0<|È 1 ai)
def kZ:Fn:=aZ 4 4 sC
def kJ:Fs:=(ao (ϰl<|Rs<|aj fE<|È 0<|È 2<|È 3 ai)
 (ao (ϱo<|Rs<|aj iq<|È 0<|È 1<|È 2 ai)
 (ao (ϱ3<|Rs<|aj iq<|È 0<|È 1<|È 3 ai)
 (ao (ϳ7 ϊ)
 (ao (sIf (p_ (aD<|Ù 4<|Ç 0)<|aD<|ñ gNe 5 ϸQ) (jD 7<|eC<|Ė "like") sNx)
 (ao (sIf (p_ (aD<|Ù 4<|Ç 1)<|aD<|ñ gNe 5<|Ϥ3<|ġ<|Ç 1) (jD 7<|eC<|Ė "mirrored") sNx)
 (dB 7)))))))
def eW:Fn:=aZ 4 8 kJ
def z7:Fs:=(ao (Ų<|Rs<|aj fN<|È 0<|È 1 ai)
 (bF<|aP (iR1<|ħ<|È 0 ai) ϰb aT (aj i7<|ae (ϴs (Ϸ9<|È 1<|È 0 ai) ϰb aT (Ù 1 Ľ) 1 [2]) ai) 1 [0,2]))
def qP:Fn:=ε 3 z7
def vO:Fs:=(ao (Ų<|Rs<|ύg<|È 0 ai)
 (ao (Δ ϊ)
 (ao (bZ (iEn ό) (ϡ<|Œ 4 5 bB)<|ϫa (ϳb 2 (d8 ş) iN) 6<|Es 3<|aP (bY<|aj eW<|È 0<|È 1<|È 5<|È 6 ai) ϰb aT (d_<|È 1<|È 2<|È 0 ai) 1 [5,6])
 (ύS<|bF<|eB LD<|È 3 ai))))
def jT:Fn:=ε 7 vO
def kM:Fs:=(ao (Ų<|Rs<|Ϥz Ŋ (ϓj<|È 0 ai)<|ϴs (ύg<|È 0 ai) ϰb aT (Rs<|bO<|ae (d_<|È 0<|ae (eC<|ã true)<|ĝ (eC<|ã false)) ai) 1 [])
 (ao (Δ eD0)
 (ao (ϰl<|Ç 2)
 (ao (bZ (bY ό) (K2 5) (ao (ϱ3<|Rs<|ϓ6<|È 0<|ae (Ù 5<|Ç 0)<|È 4 ai)
 (ao (bZ (bY ς) (ϳ0<|ϳV 7<|Œ 8 9 bB)<|Ϯk<|Rs<|ϭS<|Ϥ3<|ġ<|Ç 1)
 (ϰl<|ŗ (ϻK<|È 6 ai)<|Ç 1))))
 (v_ 3 ş)))))
def eU:Fn:=ε 10 kM
def my:Fs:=(ao (sIf (nI<|aD<|aj eG<|È 0<|È 1 ai) (bF<|eC<|ã false) sNx)
 (ao (Δ<|ϸa<|ĝ (Ù 1<|Ç 0))
 (ao (ϥJ aD (ñ gLt 3<|Ç 1) aD (ñ gNe 3<|ϸa<|ĝ (Ù 1<|Ç 1))<|ã false)
 (ao (ϰl<|Rs<|aj qP<|È 0<|È 1 ai)
 (ao (ϷH ό (ϰl<|Rs<|ϴs (ϓj<|È 0 ai) ϰb aT (Rs<|aj d6<|È 1<|È 0 ai) 1 [4]) sNx)
 (bF<|Ap<|ϨE<|ĝ (ϰr bY 4 (ϨE<|È 0 ai) 1 [])))))))
def kj:Fn:=ϳM 5 my
def nF:Fs:=(ao (Ų<|Rs<|aj eU<|È 0<|È 1 ai)
 (ao (Δ<|bO<|ae (Rs<|Ϧ9 (Ç 0)<|Ù 2<|Ç 1) ai)
 (ao (bZ (iR2 (Ç 1)<|ħ<|È 0 ai) ϩT (ao (ϱo<|ū (Ù 0 ş)<|Ç 0)
 (ao (ϱ3<|IJ (Ϸ9<|È 0<|È 5 ai) ş)
 (ao (ϳ7<|mE<|όW<|ĝ (Ù 3 ς))
 (ao (bZ (iEn<|xa (Ù 2<|Ç 0) ς ϊ) (ϡ<|Œ 8 9 bB)<|Ϯl 7 Ϫl<|Ϥz (ñ gLt 8 ϸQ) (Ç 1)<|ġ<|Ç 1)
 (pq 7<|ϥW ϦO))))))
 (dB 3))))
def gG:Fn:=ε 10 nF
def kO:Fs:=(ao (ϷH (ϵB (ħ<|È 0 ai)<|Ç 12) Ju sNx)
 (ao (Δ<|Rs<|aj gG<|È 0<|È 2 ai)
 (ao (ϰl<|Rs<|ŗ (aj c9<|È 0<|È 3 ai)<|aj dW<|È 0<|È 3<|È 1 ai)
 (ao (ϱo<|aj eV<|È 4 ai)
 (ao (ϱ3<|yy 5<|aj gJ<|È 4<|È 5 ai)
 (ao (AH 6 5 (ħ<|È 4 ai) sx)
 (ao (pq 6<|ϳ7<|ū (Ù 6<|ġ<|Ç 1)<|ġ<|Ç 2)
 (ao (ϬF<|Rs<|aP (bY<|eSl l6 (Ù 6<|ġ<|Ç 1) (d8<|ħ<|È 4 ai)<|d8<|ġ<|Ç 2) ϰb aT (ġ Ľ) 1 [])
 (ao (Ϭw<|Rs<|ϰr bY 3 (ϸa<|ae (ϺJ Ľ Ŋ (ϡ<|Œ 0 1 bB) aT (ñ gn 0 Ŋ) 2 []) ai) 1 [8])
 (pq 5<|bF<|d_<|ae (aj bj<|È 0<|È 9<|È 7 ai)<|È 7<|ae (aj gN<|È 0<|ae (aj d4<|È 6<|È 5<|ĝ (ħ<|È 4 ai)) ai) ai))))))))))
def kT:Fn:=ϳM 10 kO
def ni:Fs:=(ao (Δ<|Rs<|aj kT<|È 0<|È 1<|È 2 ai)
 (ao (sIf (pZ (nI<|aD<|EV "tuple" Š)<|pZ (aD<|Ϸl (ħ<|È 3 ai)<|Ç 3)<|pZ (nI<|aD<|aj e6<|ĝ (Ù 3<|Ç 1))<|aD<|F4 gLt (Ù 3<|Ç 1)<|Ç 1) (bF<|eC ò) sNx)
 (ao (sIf (pZ (aD<|Ϸl (aj kZ<|È 0<|ae (Ù 3<|Ç 0)<|È 1<|ĝ (Ù 3<|Ç 1)) ϊ)<|p_ (aD ό)<|aD<|Ϸl (aj jT<|È 0<|ĝ (Ù 3<|Ç 0)) ϊ) (bF<|eC ò) sNx)
 (ao (sIf (aD<|F4 GF (aj kj<|È 0<|ae (Ù 3<|Ç 2)<|È 2 ai)<|eC<|ã true) (bF<|eC ò) sNx)
 (ao (ϰl<|Rs<|aj eh<|È 0<|ae (Ù 3<|Ç 0)<|ĝ (Ù 3<|Ç 1))
 (ao (ϱo<|ϸa<|ae (ū (Ù 3<|Ç 2)<|Ç 0) ai)
 (ao (ϥJ nI (aD<|aj e6<|È 4 ai) aD (Ϸl (ñ gn 4 ς)<|϶v (aj qZ<|È 0<|È 1<|ĝ (Ù 3<|Ç 2))<|Ù 3<|Ç 1) ò)
 (bF<|d_<|È 4<|ĝ (Ù 3<|Ç 1)))))))))
def cN:Fn:=ϳM 6 ni
def Gr:Fs:=(ao (ϳ6<|Rs<|aj bJ<|È 0<|ĝ (Ç 8))
 (ao (Ų<|ŗ (Ç 1)<|ϱN (Ϩp<|È 0<|ĝ (Ç 2))<|Ç 20)
 (ao (Δ<|Rs<|ύh<|È 1<|È 2<|ĝ (eC<|ã false))
 (ao (ϰl<|Rs<|ύh<|È 1<|È 2<|ĝ (eC<|ã true))
 (ao (ϥJ aD (ñ FW 3<|eC ò) aD (ñ FW 4<|eC ò)<|ã false)
 (ao (ϱo<|Rs<|aj i_<|È 1<|È 2 ai)
 (ao (ϥJ aD (Ϸl (ϫG kZ [Ä 256]<|È 1<|È 5<|È 2 ai) ϊ) aD (Ϸl (aj jT<|È 1<|È 5 ai) ϊ)<|ã false)
 (ao (ϱ3<|Rs<|d_<|ae (Rs<|ϫG eh [Ä 256]<|È 1<|È 5 ai)<|ĝ (Ç 256))
 (ao (ϳ7<|Rs<|aj cE<|È 1<|È 0<|ae (Ç 30)<|ae (Ç 256)<|È 2 ai)
 (ao (ϥJ aD (Ϸl (ϫG kZ [Ä 256]<|È 1<|È 7<|È 2 ai) ϊ) nI (aD<|ϓ7<|È 3<|ae (d_<|ae (Rs<|ϫG eh [Ä 256]<|È 1<|È 7 ai)<|ĝ (Ç 256)) ai)<|ã false)
 (ao (ϥJ nI (aD<|ϓ7<|È 3<|È 4 ai) nI (aD<|ϓ7<|È 4<|È 6 ai)<|ã false)
 (ao (ϬF<|Rs<|aj bU<|È 1 ai)
 (ao (Ϭw<|Rs<|ύh<|È 8<|È 2<|ĝ (eC<|ã false))
 (ao (ax 10<|Rs<|ύh<|È 8<|È 2<|ĝ (eC<|ã true))
 (ao (ϥJ aD (ñ FW 9<|eC ò) aD (ñ FW 10<|eC ò)<|ã false)
 (ao (sIf (aD<|Ϸl (϶v (Ù 9<|Ç 0)<|Ù 3<|Ç 1)<|϶v (Ù 3<|Ç 0)<|Ù 9<|Ç 1) (bF<|eC<|ã false) sNx)
 (bF<|Ϲ2 (϶v (Ù 10<|Ç 0)<|Ù 4<|Ç 1)<|϶v (Ù 4<|Ç 0)<|Ù 10<|Ç 1)))))))))))))))))
def zJ:Fn:=ϲ5 11 Gr
def top(i:Nat):No:=ϛe<|.Pass ⟨0,0,0,0⟩
set_option bootstrap.genMatcherCode true in
local macro_rules|`(tactic| trivial)=>do let t<-mqX (λ_=>mqY) (Lean.mkIdent `ϜA) [];pure (mqN "Tactic paren" [mqA "(",t[1][1],mqA ")"])
abbrev oK:No:=ē 5
def sZ:Ē ϴE ϴE oK:=Æ
abbrev mX:No:=ē 7
def qB:Ē ["tree","levels","row"] ϰa mX:=Æ
abbrev rX:No:=ē 10
def zZ:Ē ϰa ϰa rX:=Æ
abbrev rh:No:=ē 13
def oF:Ē ["tree","node","end"] ϴE rh:=Æ
abbrev iV:No:=ē 16
def nc:Ē ["rows","numbers","places","place","number","named"] ϑa iV:=Æ
abbrev sF:No:=ē 23
def tU:Ē ["one","other","gap","apart","asked","distance"] ϐz sF:=Æ
abbrev b7:No:=ē 32
def fA:Ē ["outlines","stands","joined","level","there","left","right"] ϐA b7:=Æ
abbrev pF:No:=ē 52
def sX:Ē ϯi ϯi pF:=Æ
abbrev xW:No:=ē 54
def EM:Ē Ϯ1 Ϯ1 xW:=Æ
abbrev jW:No:=ē 56
def qQ:Ē ["row","count","found"] ϑX jW:=Æ
abbrev qI:No:=ē 58
def vb:Ē ["rows","chosen","column","one","other","first","second"] Ϗr qI:=Æ
abbrev jS:No:=ē 61
set_option bootstrap.genMatcherCode true in
def mq:Ē ["one","other","rest"] ϫc jS:=Æ
abbrev jZ:No:=ē 66
def qO:Ē ώu ώu jZ:=Æ
abbrev eY:No:=ē 71
def lY:Ē ["felt","group","rows"] ϑB eY:=Æ
abbrev rF:No:=ē 74
def u5:Ē ["_law_script","_law_k","_law_number"] Ϗ1 rF:=Æ
abbrev oJ:No:=ē 75
def tK:Ē ϯE ϯE oJ:=Æ
abbrev oZ:No:=ē 76
def tR:Ē ["_law_number","_law_most","_law_letters","_law_label_here","_law_k"] ϏO oZ:=Æ
abbrev dM:No:=ē 78
def fU:Ē ["_law_tree_here","_law_order","_law_left","_law_node"] ϸ5 dM:=Æ
abbrev rL:No:=ē 81
def vt:Ē ["_law_tree_here","_law_shift","_law_found","_law_elder","_law_label_here","_law_tall"] ϏE rL:=Æ
abbrev gX:No:=ē 84
def oj:Ē ["_law_tree_here","_law_some","_law_k"] ϸ5 gX:=Æ
abbrev kx:No:=ē 87
def nV:Ē Ϯp Ϯp kx:=Æ
abbrev j_:No:=ē 6
def rO:Ē ϴE ϴE j_:=Æ
abbrev qU:No:=ē 8
def vd:Ē ["tree","numbers","node","level"] ϰa qU:=Æ
abbrev ua:No:=ē 12
def wO:Ē ["tree","node","bough","row"] ϴE ua:=Æ
abbrev sO:No:=ē 18
def zQ:Ē ["bough","elders"] ["bough"] sO:=Æ
abbrev fB:No:=ē 25
def lZ:Ē ["outlines","gap","places","number","asked"] ϸ6 fB:=Æ
abbrev gW:No:=ē 26
def nP:Ē ["outlines","gap","last","count","places","number","one","asked"] ϏX gW:=Æ
abbrev eR:No:=ē 29
def jP:Ē ["tree","places","unit","least"] ϧf eR:=Æ
abbrev fR:No:=ē 41
def km:Ē ϕY ϧf fR:=Æ
abbrev iR:No:=ē 51
def pO:Ē ["demands","chosen","number","lone"] ϓU iR:=Æ
abbrev lU:No:=ē 57
def pM:Ē ["rows","chosen","column","found","number"] ϏT lU:=Æ
abbrev sj:No:=ē 60
def Ag:Ē ["numbers","divisor","number"] ϓV sj:=Æ
abbrev rM:No:=ē 77
def o8:Ē ["_law_script","_law_start","_law_many","_law_most","_law_deep","_law_tree_here","_law_way","_law_k","_law_number","_law_keep"] ώ5 rM:=Æ
abbrev gY:No:=ē 79
def gr:Ē ["_law_tree_here","_law_order","_law_found","_law_node","_law_elder","_law_label_here","_law_tall"] ϸ5 gY:=Æ
abbrev jA:No:=ē 80
def lI:Ē ["_law_tree_here","_law_script","_law_start","_law_found","_law_k","_law_number","_law_size","_law_letters","_law_label_here","_law_j"] Ϗk jA:=Æ
abbrev jO:No:=ē 85
def mm:Ē ["_law_tree_here","_law_script","_law_start","_law_unit","_law_gap","_law_some","_law_places","_law_at","_law_k","_law_number"] ώ4 jO:=Æ
abbrev kS:No:=ē 9
def tN:Ē ["tree","pairs","level"] ϰa kS:=Æ
abbrev jL:No:=ē 15
def me:Ē ["tree","order","waiting","node"] ϰa jL:=Æ
abbrev xY:No:=ē 19
def Ez:Ē ϰa ϰa xY:=Æ
abbrev vK:No:=ē 24
def zR:Ē ["outlines","gap","earliest"] ϸ6 vK:=Æ
abbrev jI:No:=ē 37
def mO:Ē ["tree","places","found","node","children"] ϧx jI:=Æ
abbrev oX:No:=ē 40
def w6:Ē ["tree","places","node","children"] Ϗ2 oX:=Æ
abbrev gQ:No:=ē 47
def qF:Ē ["tree","first","count","last"] Ϗ3 gQ:=Æ
abbrev fJ:No:=ē 49
def pQ:Ē ["tree","spots","reach","levels","left","right"] ϑC fJ:=Æ
abbrev sH:No:=ē 59
def Ah:Ē Ϯv Ϯv sH:=Æ
abbrev nE:No:=ē 62
def k6:Ē ["rows","chosen","count","bottom","row","column","prices"] ϧd nE:=Æ
abbrev iz:No:=ē 70
def o5:Ē ["tree","pulls","levels","least"] ϵ9 iz:=Æ
abbrev nC:No:=ē 82
def iT:Ē ["_law_script","_law_start","_law_many","_law_kinds","_law_part","_law_tree_here","_law_k","_law_bough"] Ϗb nC:=Æ
abbrev uC:No:=ē 14
def wF:Ē ["tree","numbers"] ϰa uC:=Æ
abbrev iY:No:=ē 31
def pP:Ē ["outlines","gap","room","elder"] ϸ6 iY:=Æ
abbrev kQ:No:=ē 36
def s_:Ē ["tree","gap","reach"] Ϲk kQ:=Æ
abbrev iK:No:=ē 53
def ka:Ē ["demands","chosen","count","rows","number","row","column"] ϐJ iK:=Æ
abbrev yE:No:=ē 55
def A0:Ē ϕS ϧd yE:=Æ
abbrev oT:No:=ē 63
def tJ:Ē ["tree","prices","levels","count","gaps","pair","price"] ϑq oT:=Æ
abbrev oE:No:=ē 68
def tH:Ē ["tree","pulls","told","one","other","level","left","right"] ϵ9 oE:=Æ
abbrev i5:No:=ē 83
def lQ:Ē ["_law_script","_law_most","_law_cell_here"] ϏP i5:=Æ
abbrev uG:No:=ē 17
def wL:Ē ["tree","one","other","form","bough","mirror"] ϐj uG:=Æ
abbrev qT:No:=ē 30
def rY:Ē ["tree","gap","offsets","outlines","node","children","below","stands","child","stand"] Ϲk qT:=Æ
abbrev kf:No:=ē 35
def rR:Ē ["tree","places","gap","unit","asked"] ϺR kf:=Æ
abbrev jV:No:=ē 50
def rW:Ē ["tree","spots","gap","demands","one","other","cells","row"] ϐk jV:=Æ
abbrev m8:No:=ē 67
def rP:Ē ["tree","pulls","sums","node"] ϵ9 m8:=Æ
abbrev xK:No:=ē 72
def zF:Ē ["tree","gap","pulls","reach","total","level","left","right"] ϐl xK:=Æ
abbrev eZ:No:=ē 20
def lq:Ē ["tree","groups","waiting","held"] ϰa eZ:=Æ
abbrev BN:No:=ē 28
def CY:Ē ["tree","gap","offsets","places","node"] Ϲk BN:=Æ
abbrev nY:No:=ē 34
def AA:Ē ϺR ϺR nY:=Æ
abbrev ly:No:=ē 39
def pJ:Ē ["tree","places","one","other","alike","steps","other_steps","words"] ϏF ly:=Æ
abbrev yn:No:=ē 65
def Ex:Ē ["tree","pulls","sums"] ϵ9 yn:=Æ
abbrev u6:No:=ē 38
def A5:Ē ["tree","places","elders","found","number","one","other"] ϧx u6:=Æ
abbrev iF:No:=ē 46
def gU:Ē ["tree","strict","groups","numbers","count","group","steps","node","like","mirror"] ϧy iF:=Æ
abbrev fV:No:=ē 69
def rV:Ē ϖe ϏY fV:=Æ
abbrev ox:No:=ē 48
def jY:Ē ["tree","strict","steps","rows","node","elder","ahead","row","place","number"] ϧy ox:=Æ
abbrev ed:No:=ē 45
def kR:Ē ϕl ϐb ed:=Æ
abbrev oQ:No:=ē 86
def ke:Ē ["_law_tree_here","_law_gap","_law_strict","_law_found","_law_wide","_law_bottom"] Ϗl oQ:=Æ
abbrev vD:No:=ē 88
def Ff:Ē ["_law_script","_law_tree_here","_law_gap","_law_least_here","_law_strict","_law_places","_law_quick","_law_own","_law_mirror","_law_there","_law_other"] ϑY vD:=Æ
def Ib:ϺQ "list":=œ
def Nq:ϺQ "tuple":=œ
def Vs:ϺQ "int":=œ
def N7:ϺQ "bool":=œ
set_option genInjectivity false
section
abbrev Ad:=(Nat->Ix)×(Nat->Fk)
abbrev zAt{α:Type}(d:α):List α->Nat->α:=λL=>@List.rec α (λ_=>Nat->α) (λ_=>d) (λp _ h n=>@Nat.rec (λ_=>α) p (λk _=>h k) n) L
abbrev zAl(L:List Prop):Prop:=@List.rec Prop (λ_=>Prop) True (λp _ h=>p/\h) L
theorem znI{L:List Prop}(H:zAl L):∀i,zAt True L i:=by
 induction L with
 |nil=>intro _;exact True.intro
 |cons p l h=>intro i;cases i with|zero=>exact H.1|succ k=>exact h H.2 k
def mqJg(x y:String):Lean.MacroM Lean.Syntax:=
 let k:=(y.toList.drop 1).foldl (λk c=>k*36+(if c.isDigit then c.toNat-48 else c.toNat-87)) 0
 let n:=Lean.Syntax.mkNumLit (toString k)
 if x=="T"&&y.front=='t'||x.front=='g'&&y.front=='y' then `(($(Lean.mkIdent (.mkSimple x)) $n))
 else if x=="J"&&y.front=='j' then if k<73 then `((J.fst $n)) else `((J.snd $(Lean.Syntax.mkNumLit (toString (k-73)))))
 else Lean.Macro.throwUnsupported
set_option bootstrap.genMatcherCode true in
def mqJ(s:Lean.Syntax):Lean.MacroM Lean.Syntax:=
 match s.getId.components with
 |.str .anonymous x::.str .anonymous y::r=>do r.foldlM (λb z=>`(($(⟨b⟩)).$(Lean.mkIdent z):ident)) (<-mqJg x y)
 |_=>Lean.Macro.throwUnsupported
local macro_rules(kind:=ident)|s=>mqJ s
def Wd(K:At)(mg:Ŏ)(J:Ad):Prop:=∀i,zAt True [
 ϴt "abs",
 ϴt "any",
 ϴt "bool",
 ϴt "enumerate",
 ϴt "int",
 ϴt "isinstance",
 ϴt "len",
 ϴt "list",
 ϴt "max",
 ϴt "min",
 ϴt "range",
 ϴt "sorted",
 ϴt "sum",
 ϴt "tuple",
 ϴt "zip",
 ∃t,mg "MOST_PLANNED"=Â (Ä 12 t),
 ∃t,mg "ROOMS"=Â (Ä 2 t),
 ∃t,mg "SHREDS"=Â (Ä 256 t),
 đ "check_node" oK ϴE J.j0 J.j21,
 đ "node_levels" mX ϰa J.j1 J.j22,
 đ "reaches" rX ϰa J.j2 J.j23,
 đ "bough_end" rh ϴE J.j3 J.j24,
 đ "renumbered" iV ϑa J.j4 J.j25,
 đ "nearest" sF ϐz J.j5 J.j26,
 đ "joined_outline" b7 ϐA J.j6 J.j27,
 đ "asks_alone" pF ϯi J.j7 J.j28,
 đ "marks" xW Ϯ1 J.j8 J.j29,
 đ "first_short" jW ϑX J.j9 J.j2a,
 đ "is_sooner" qI Ϗr J.ja J.j2b,
 đ "common_divisor" jS ϫc J.jb J.j2c,
 đ "child_leans" jZ ώu J.jc J.j2d,
 đ "group_leans" eY ϑB J.jd J.j2e,
 đ "_law_cell" rF Ϗ1 J.je J.j2f,
 đ "_law_whole" oJ ϯE J.jf J.j2g,
 đ "_law_label" oZ ϏO J.jg J.j2h,
 đ "_law_mirror_order" dM ϸ5 J.jh J.j2i,
 đ "_law_hung" rL ϏE J.ji J.j2j,
 đ "_law_children" gX ϸ5 J.jj J.j2k,
 đ "_law_no_wider" kx Ϯp J.jk J.j2l,
 đ "children_of" j_ ϴE J.jl J.j2m,
 đ "levels_of" qU ϰa J.jm J.j2n,
 đ "bough_of" ua ϴE J.jn J.j2o,
 đ "form_of" sO ["bough"] J.jo J.j2p,
 đ "earliest_places" fB ϸ6 J.jp J.j2q,
 đ "latest_places" gW ϏX J.jq J.j2r,
 đ "moved_to_side" eR ϧf J.jr J.j2s,
 ύK "width_of" fR ϧf ["unit"] 2 [Ä 256] J.js J.j2t,
 đ "lone_demands" iR ϓU J.jt J.j2u,
 đ "row_given_up" lU ϏT J.ju J.j2v,
 đ "lowered" sj ϓV J.jv J.j2w,
 đ "_law_tree" rM ώ5 J.jw J.j2x,
 đ "_law_mirror_tree" gY ϸ5 J.jx J.j2y,
 đ "_law_relabelled" jA Ϗk J.jy J.j2z,
 đ "_law_by_leaves" jO ώ4 J.jz J.j30,
 đ "neighbours" kS ϰa J.j10 J.j31,
 đ "mirrored_order" jL ϰa J.j11 J.j32,
 đ "forks" xY ϰa J.j12 J.j33,
 đ "room_of" vK ϸ6 J.j13 J.j34,
 đ "broken_middles" jI ϧx J.j14 J.j35,
 đ "steps_of" oX Ϗ2 J.j15 J.j36,
 đ "group_steps" gQ Ϗ3 J.j16 J.j37,
 đ "side_demands" fJ ϑC J.j17 J.j38,
 đ "cleared" sH Ϯv J.j18 J.j39,
 đ "told_prices" nE ϧd J.j19 J.j3a,
 đ "are_pulls" iz ϵ9 J.j1a J.j3b,
 đ "_law_family" nC Ϗb J.j1b J.j3c,
 đ "mirrored" uC ϰa J.j1c J.j3d,
 đ "stands_below" iY ϸ6 J.j1d J.j3e,
 đ "asked_gaps" kQ Ϲk J.j1e J.j3f,
 đ "first_rows" iK ϐJ J.j1f J.j3g,
 đ "settle" yE ϧd J.j1g J.j3h,
 đ "told_pulls" oT ϑq J.j1h J.j3i,
 đ "node_pulls" oE ϵ9 J.j1i J.j3j,
 đ "_law_small_tree" i5 ϏP J.j1j J.j3k,
 đ "likeness" uG ϐj J.j1k J.j3l,
 đ "pieces" qT Ϲk J.j1l J.j3m,
 đ "broken_gaps" kf ϺR J.j1m J.j3n,
 đ "gap_demands" jV ϐk J.j1n J.j3o,
 đ "bough_pulls" m8 ϵ9 J.j1o J.j3p,
 đ "worth" xK ϐl J.j1p J.j3q,
 đ "like_groups" eZ ϰa J.j1q J.j3r,
 đ "drawn" BN Ϲk J.j1r J.j3s,
 ύK "broken" nY ϺR ["unit"] 3 [Ä 256] J.j1s J.j3t,
 đ "unlike_words" ly ϏF J.j1t J.j3u,
 đ "leans" yn ϵ9 J.j1u J.j3v,
 đ "unlike" u6 ϧx J.j1v J.j3w,
 đ "step_numbers" iF ϧy J.j1w J.j3x,
 ύK "is_paper" fV ϏY ["strict"] 2 [ύr] J.j1x J.j3y,
 đ "place_rows" ox ϧy J.j1y J.j3z,
 ύK "narrowest" ed ϐb ["strict"] 2 [ύr] J.j1z J.j40,
 đ "_law_least" oQ Ϗl J.j20 J.j41] i
def G1(P:Do)(w:Ev)(K:At)(mg:Ŏ)(base:Op)(J:Ad):Prop:=∀i,zAt True [
 ė 1 J.j0 J.j21 ϴE fi,
 ė 1 J.j1 J.j22 ϰa fT,
 ė 1 J.j2 J.j23 ϰa bT,
 ė 1 J.j3 J.j24 ϴE iW,
 ė 1 J.j4 J.j25 ϑa gH,
 ė 1 J.j5 J.j26 ϐz g_,
 ė 1 J.j6 J.j27 ϐA cC,
 ė 1 J.j7 J.j28 ϯi gP,
 ė 1 J.j8 J.j29 Ϯ1 n8,
 ė 1 J.j9 J.j2a ϑX cA,
 ė 1 J.ja J.j2b Ϗr iH,
 ė 1 J.jb J.j2c ϫc dA,
 ė 1 J.jc J.j2d ώu i7,
 ė 1 J.jd J.j2e ϑB d6,
 ė 1 J.je J.j2f Ϗ1 bP,
 ė 1 J.jf J.j2g ϯE e6,
 ϳ5 mg base y_ 1 J.jg J.j2h ϏO (ϩl mg e_),
 ė 1 J.jh J.j2i ϸ5 cy,
 ė 1 J.ji J.j2j ϏE i6,
 ė 1 J.jj J.j2k ϸ5 dZ,
 ė 1 J.jk J.j2l Ϯp b_] i
def G2(P:Do)(w:Ev)(K:At)(mg:Ŏ)(base:Op)(J:Ad):Prop:=∀i,zAt True [
 ė 2 J.jl J.j2m ϴE aV,
 ė 2 J.jm J.j2n ϰa bS,
 ė 2 J.jn J.j2o ϴE iy,
 ė 2 J.jo J.j2p ["bough"] hX,
 ė 2 J.jp J.j2q ϸ6 cT,
 ė 2 J.jq J.j2r ϏX dU,
 ė 2 J.jr J.j2s ϧf bj,
 ė 2 J.js J.j2t ϧf eh,
 ė 2 J.jt J.j2u ϓU eV,
 ė 2 J.ju J.j2v ϏT cH,
 ė 2 J.jv J.j2w ϓV jM,
 ė 2 J.jw J.j2x ώ5 f_,
 ė 2 J.jx J.j2y ϸ5 bU,
 ė 2 J.jy J.j2z Ϗk b8,
 ė 2 J.jz J.j30 ώ4 cE] i
def G3(P:Do)(w:Ev)(K:At)(mg:Ŏ)(base:Op)(J:Ad):Prop:=∀i,zAt True [
 ė 3 J.j10 J.j31 ϰa dG,
 ė 3 J.j11 J.j32 ϰa df,
 ė 3 J.j12 J.j33 ϰa kn,
 ė 3 J.j13 J.j34 ϸ6 lC,
 ė 3 J.j14 J.j35 ϧx dc,
 ė 3 J.j15 J.j36 Ϗ2 iq,
 ė 3 J.j16 J.j37 Ϗ3 cU,
 ė 3 J.j17 J.j38 ϑC c9,
 ė 3 J.j18 J.j39 Ϯv eE,
 ė 3 J.j19 J.j3a ϧd d4,
 ė 3 J.j1a J.j3b ϵ9 eG,
 ė 3 J.j1b J.j3c Ϗb fI] i
def G4(P:Do)(w:Ev)(K:At)(mg:Ŏ)(base:Op)(J:Ad):Prop:=∀i,zAt True [
 ė 4 J.j1c J.j3d ϰa ki,
 ė 4 J.j1d J.j3e ϸ6 bw,
 ė 4 J.j1e J.j3f Ϲk dF,
 ė 4 J.j1f J.j3g ϐJ gJ,
 ϳ5 mg base y_ 4 J.j1g J.j3h ϧd (Gn K sx),
 ė 4 J.j1h J.j3i ϑq gN,
 ė 4 J.j1i J.j3j ϵ9 gM,
 ė 4 J.j1j J.j3k ϏP bJ] i
def G5(P:Do)(w:Ev)(K:At)(mg:Ŏ)(base:Op)(J:Ad):Prop:=∀i,zAt True [
 ė 5 J.j1k J.j3l ϐj fE,
 ė 5 J.j1l J.j3m Ϲk nR,
 ė 5 J.j1m J.j3n ϺR fY,
 ė 5 J.j1n J.j3o ϐk dW,
 ė 5 J.j1o J.j3p ϵ9 fN,
 ė 5 J.j1p J.j3q ϐl qZ] i
def G6(P:Do)(w:Ev)(K:At)(mg:Ŏ)(base:Op)(J:Ad):Prop:=∀i,zAt True [
 ė 6 J.j1q J.j3r ϰa cS,
 ė 6 J.j1r J.j3s Ϲk i_,
 ė 6 J.j1s J.j3t ϺR kZ,
 ė 6 J.j1t J.j3u ϏF eW,
 ė 6 J.j1u J.j3v ϵ9 qP] i
def G7(P:Do)(w:Ev)(K:At)(mg:Ŏ)(base:Op)(J:Ad):Prop:=∀i,zAt True [
 ė 7 J.j1v J.j3w ϧx jT,
 ė 7 J.j1w J.j3x ϧy eU,
 ė 7 J.j1x J.j3y ϏY kj] i
def G8(P:Do)(w:Ev)(K:At)(mg:Ŏ)(base:Op)(J:Ad):Prop:=∀i,zAt True [
 ė 8 J.j1y J.j3z ϧy gG] i
def G9(P:Do)(w:Ev)(K:At)(mg:Ŏ)(base:Op)(J:Ad):Prop:=∀i,zAt True [
 ė 9 J.j1z J.j40 ϐb kT] i
def G10(P:Do)(w:Ev)(K:At)(mg:Ŏ)(base:Op)(J:Ad):Prop:=∀i,zAt True [
 ė 10 J.j20 J.j41 Ϗl cN] i
variable{P:Do}{w:Ev}{K:At}{mg:Ŏ}{base:Op}{J:Ad}
def dg2(i:Nat){p T pos:Pos}(H:à (á X.N=Ď))(b:à (ϺK X.N=ϰO))(C:à ϗ)(h:X.à:=by first|assumption|(dsimp only[cxK];decide+kernel))(a:ϕ (ϲf x))(A:ϕ (ϲf y))(F:ϕ (ϳg\/ϱV=Â ο))(g:ϕ (X.fn y=true\/ϗX=Â ο)):ϖ7 [ð p,ϱ8 y T] [] (ϡ<|Ϙh<|ϳV (i+1) bB):=qN C<|ϕ5<|ϗo mG
def dg3(i:Nat){p T p2 pos:Pos}(H:à (á X.N=Ď))(b:à (ϺK X.N=ϰO))(c:à (X.N[i+2]?=Â z))(C:à ϗ)(h:X.à:=by first|assumption|(dsimp only[cxK];decide+kernel))(a:ϕ (ϲf x))(A:ϕ (ϲf y))(n:ϕ (ϲf z))(F:ϕ (ϳg\/ϱV=Â ο))(g:ϕ (X.fn y=true\/ϗX=Â ο))(J:ϕ (ϵ X.fn z\/ϐg z=Â ο)):ϖ7 [ð p,ϱ8 y T,ϱ8 z p2] ([i+2]++[]) (ϳ0<|Ϙh<|Œ (i+1) (i+2) bB):=qN C<|ϕ5<|ϗo<|bE (bR h c n J) mG
def dk{pos:Pos}{it:Fi}(sc:Scope)(outs:À ϴM)(is:Ò)(own:À Str)(hi:ϕ (ϸc iter it))(hg:ϭ7 (ϥh (υ C ex H6)))(hc:Ϭ4 H6 (ύj (υ C ex H6)):=by intro _ _ _ _ _;first|exact MZ|trivial)(he:ϭ7 (ύi (υ C ex H6)))(bk:ϕ ϶X)(hm:à ϗ)(hk:ϱE Ϯy)(hs:ϸX):ï ϳN ϭV:=J2 own bk hm hk hi hg hc he hs
def sk{pos:Pos}{it:Fi}(i:Nat)(sc:Scope)(outs:À ϴM)(is:Ò)(own:À Str)(w:∀σ H Q,ϧF fe σ H Q->ϧF ϭV σ H Q:=by first|exactλx x x q=>MY q|exactλx x x q=>q)(hi:ϕ (ϸc iter it))(hg:ϭ7 (ϥh (υ C ex H6)))(hc:Ϭ4 H6 (ύj (υ C ex H6)):=by intro _ _ _ _ _;first|exact MZ|trivial)(he:ϭ7 (ύi (υ C ex H6)))(bk:ϕ ϶X)(hm:à ϗ)(hk:ϱE Ϯy)(hN:X.à:=by assumption)(hx:à (á X.N=Ď))(hl:ϕ (ϲf x))(hsw:à (ϬL ϳN (Â<|ð p) spos.line X.Ü=Ϭp))(hs:ϸX)(hf:ϕ (ϳg\/ϱV=Â ο)):Ϧ (ϴZ [ð p] ϳN spos) (ax i fe):=NO own w hN hx hl bk hm hk hi hg hc he hsw hs hf
def bK(b:ϯA outs):϶X:=⟨b.hsc,b.kind,b.loc,λx H h=>ϻx<|b.nocell x H,λx H z h=>b.nocell _ h rfl,b.fr,b.out⟩
def dcx{pos p:Pos}{T:No}(G:Ϧ2 M.K M.mg CX)(D:Ϙx)(hr:Room k' X.A)(H:Ϩj M.E)(A:ϸi Ũ)(h:ϱE (k<=k'))(hg:à (γ x))(d:ϲx)(he:à (æ Ũ=ϰG (æ es)))(l:à (ϰY<|ϲB<|æ es)):ï (ϱc (ð p) Ũ pos) ϓw:=vi G (hr.á h) hg D.g D.F.kp D.b H A d he l
def dcl{pos p:Pos}{T:No}(G:Ϧ2 M.K M.mg y_)(D:Ϙx)(hr:Room k' X.A)(A:ϸi Ũ)(h:ϱE (k<=k'))(hg:à (γ x))(d:ϲx)(he:à (æ Ũ=ϰG (æ es)))(l:à (ϰY<|ϲB<|æ es)):ï (ϱc (ð p) Ũ pos) ϓw:=dcx G D hr tQ A h hg d he l
def mk1(T:Ϸa):ϸ7:=by
 apply znI ⟨?_,?_,?_,?_,?_,?_,?_,?_,?_,?_,?_,?_,?_,?_,?_,?_,?_,?_,?_,?_,?_,⟨⟩⟩
 .apply ğ T.ti.F sZ
  let nd:=sZ.nd;erw[nt];trivial
 .apply ğ T.tj.F qB
  let nd:=qB.nd;erw[k8];trivial
 .apply ğ T.tk.F zZ
  let nd:=zZ.nd;erw[oS];show ϵ0<|Ϲ rX [] ώV
 .apply ğ T.tl.F oF
  let nd:=oF.nd;erw[oM];show af Æ (af (ϬC Æ<|aB<|Gi (i:=2) oF.nd rfl ϫu ng yN λx=>EK) Æ)
 .apply ğ T.tm.F nc
  let nd:=nc.nd;erw[nG];show af (ϺN 2 nc.nd<|XO Æ Æ) (af (Ξ Æ (dg2 3)<|aB<|HK 2 (BM hr) Ϸu<|aq 3)<|ϪU 5 iV [(0,"rows")] "number"<|aB<|Af 2<|bW<|Ϲ iV [(2,"places")] ώV (he:=Ϻk (o6<|aw (Ye (BM hr) ϸO Æ ϥx) Æ)))
 .apply ğ T.tn.F tU
  let nd:=tU.nd;erw[uH];show af (ϺN 3 tU.nd<|ϕv Æ)<|af (ύR 4 sF [(3,"apart")] ϑb (hi:=ϸ1 0 ϸO) (hg:=ϴA))<|af Æ<|aB<|bW<|o6<|ϰK 5<|ϲ3 (zk Ϸu ϭE)
 .apply ğ T.to.F fA
  let nd:=fA.nd;erw[iO];show af Æ (af (Ξ (Q4 rfl T.ta<|ώ0<|ϲ3 (Ϲ b7 [] ["outline"])) Æ<|af (ύR 4 b7 [(3,"level")] ["number","outline"] (hg:=ϴA))<|af (ϱU 5 fA.nd<|ϭJ<|ϲ3 (Ϲ b7 ϖf ϔG))<|af (ϱU 6 fA.nd<|ώ0<|ϲ3 (Ϲ b7 ϖf ϔG)) Æ) Æ)
 .apply ğ T.tp.F sX
  let nd:=sX.nd;erw[nH];show aB<|bW<|CL Æ<|CL (yq<|ϭK<|ϲ3 (ϴB 0 eI Æ))<|Gh<|yq<|ϭK<|ϲ3 (ϴB 0 Æ eI)
 .apply ğ T.tq.F EM
  let nd:=EM.nd;erw[z9];show ϵ0<|Ϲ xW [(1,"number")] ϨU
 .apply ğ T.tr.F qQ
  let nd:=qQ.nd;erw[lL];show ϪU 2 jW [(0,"row")] "column" Æ
 .apply ğ T.ts.F vb
  let nd:=vb.nd;erw[o_];trivial
 .refine ğ T.tt.F mq
  have nd:=mq.nd;unfold jB;trivial
 .apply ğ T.tu.F qO
  let nd:=qO.nd;erw[lG];show ϵ0<|Ϲ jZ [(0,"sums")] ϨU (he:=Ϻk (fH FL (Ţ FR) (Ϫu<|ϲ3 (ϴB 1 Æ eI))<|Ϫu<|ϲ3 (ϴB 1 eI Æ)))
 .apply ğ T.tv.F lY
  let nd:=lY.nd;erw[lM];show af (ϺN 2 lY.nd<|ϫk eY [(0,"felt")] ϧg (hg:=λx x x x x=>ϪL<|ϪA 0 (show List.Nodup (ϧb:À Str)by decide+kernel)<|ϦX 1 (show List.Nodup (ϧb:À Str)by decide+kernel) Or.inl 2 mG))<|af (B7 2<|ϫk eY [(0,"felt")] ϧg (hg:=λx x x x x=>ϪL<|ϪA 0 (show List.Nodup (ϧb:À Str)by decide+kernel)<|ϦX 1 (show List.Nodup (ϧb:À Str)by decide+kernel) Or.inl 2 mG) (he:=Ϻk (d5<|Ϗu Æ Æ)))<|aB<|Af 2<|bW<|Ϲ eY [(2,"rows")] ϨU (he:=Ϻk (Ϫu<|aw (dk _ [(0,"place")] [0] ώV (bk:=bK<|Cm rfl œ œ œ (ύ (lX _ _ [(0,"place")]) ⟨ϻm,trivial⟩))) aQ))
 .apply ğ T.tw.F u5
  let nd:=u5.nd;erw[o4];trivial
 .apply ğ T.tx.F tK
  let nd:=tK.nd;erw[m5];trivial
 .apply ğ T.ty.F tR
  let nd:=tR.nd;erw[m9];trivial
 .apply ğ T.tz.F fU
  let nd:=fU.nd;erw[fQ];show af Æ (af Æ<|af (ϬC Æ<|af (NG 2 Æ)<|af Æ<|aB<|Af 2<|ϱU 2 fU.nd<|ϥg (aq 2)<|Ϲ dM [(0,"_law_tree_here"),(3,"_law_node")] ["_law_k"]) Æ)
 .apply ğ T.t10.F vt
  let nd:=vt.nd;erw[oU];show af Æ (af (Ξ (sA<|ϴB 0 (r_ ng) eI) (dg3 3) Æ) Æ)
 .apply ğ T.t11.F oj
  let nd:=oj.nd;erw[jJ];show ϭ4 1 gX [] "_law_row" (oR aQ) (af (Ξ Æ Æ<|aB<|Ep 1 Æ (aq 2) ϥx) Æ)
 show ğ T.t12.F nV;let nd:=nV.nd;erw[jK];trivial
def mk2(T:Ϸa)(g1:ϸ7):ϸ8:=by
 apply znI ⟨?_,?_,?_,?_,?_,?_,?_,?_,?_,?_,?_,?_,?_,?_,?_,⟨⟩⟩
 .apply ğ T.t13.F rO
  let nd:=rO.nd;erw[lR];show af Æ<|ϵ0<|Ϩa j_ [(1,"node")] ["number","row"] (hg:=ϴA)
 .apply ğ T.t14.F vd
  let nd:=vd.nd;erw[oy];show af Æ (af (Ξ Æ (dg2 2)<|af Æ<|aB<|Ep 1 (aq 3) (aq 2) ϥx) Æ)
 .apply ğ T.t15.F wO
  let nd:=wO.nd;erw[rC];show af Æ (af Æ<|af (Ξ (sA<|ϴB 0 Æ Æ) Æ Æ) Æ)
 .apply ğ T.t16.F zQ
  let nd:=zQ.nd;erw[uA];show ϪU 1 sO [] "row" Æ
 .apply ğ T.t17.F lZ
  let nd:=lZ.nd;erw[h_];show af Æ (af (Ξ Æ Æ<|Ϛ6 Æ) Æ)
 .apply ğ T.t18.F nP
  let nd:=nP.nd;erw[jN];show af Æ (af Æ<|af (Ξ (ϯO Æ Æ Æ) Æ<|af Æ<|Ϛ7<|aB<|ϫT 4 5 Æ) Æ)
 .apply ğ T.t19.F jP
  let nd:=jP.nd;erw[fS];show af (ϺN 3 jP.nd<|ϭJ<|aw (Ϗn eR (hi:=ϸ1 1<|ϳn g1.y2 T.tk<|ϰK 0 aQ) (hg:=ϴA)) aQ)<|ϵ0<|Ϲ eR [(3,"least")] ϨU
 .apply ϭX ϕY 1 mh T.t1a.F km
  let nd:=km.nd;erw[mh];show af (ϱU 3 km.nd<|d5<|ϛS Æ) (af (ϱU 4 km.nd<|ώ0<|ϲ3 (Ϗn fR (hg:=ϴA)))<|af (ϱU 5 km.nd<|ϭJ<|ϲ3 (Ϗn fR (hg:=ϴA))) Æ)
 .apply ğ T.t1b.F pO
  let nd:=pO.nd;erw[kI];show af Æ (af (Ξ Æ Æ<|af (ύR 3 iR [(2,"number")] ["place","demand"] (hg:=ϴA)) Æ) Æ)
 .apply ğ T.t1c.F pM
  let nd:=pM.nd;erw[ku];trivial
 .apply ğ T.t1d.F Ag
  let nd:=Ag.nd;erw[uF];show af Æ<|af Æ<|ϵ0<|Ϲ sj [(1,"divisor")] ϔG
 .apply ğ T.t1e.F o8
  let nd:=o8.nd;erw[pD];show af Æ (af Æ<|af (Ξ Æ Æ<|af Æ<|af (gL Æ (af Æ<|af Æ<|af (ϱU 6 o8.nd<|d5<|ϴB 6 eI Æ) Æ) Æ) Æ) Æ)
 .apply bD rfl rfl rfl T.t1f.F gr ϐK
  let nd:=gr.nd;erw[gD];show af Æ (af Æ<|af (Ξ Æ Æ<|af (Vr Æ<|dg3 4)<|ϤZ Æ (ϱU 4 gr.nd<|zk ϸO Ϸu) Æ) Æ)
 .apply ğ T.t1g.F lI
  let nd:=lI.nd;erw[ij];trivial
 show ğ T.t1h.F mm;let nd:=mm.nd;erw[iG];show af Æ (af Æ<|af Æ<|af (Ξ Æ Æ<|aB<|gL Æ (af Æ<|af Æ<|aB<|ϫT 6 8<|aq 7) cD)<|af (Ξ (ϯO Æ Æ Æ) Æ<|aB<|gL Æ (aB<|ϫT 6 8 Æ) cD) Æ)
def mk3(T:Ϸa)(g1:ϸ7)(g2:ϸ8):ϪZ:=by
 apply znI ⟨?_,?_,?_,?_,?_,?_,?_,?_,?_,?_,?_,?_,⟨⟩⟩
 .apply ğ T.t1i.F tN
  let nd:=tN.nd;erw[mZ];show af Æ (af (Ξ Æ Æ<|aB<|B7 1<|Ϩa kS [] ϫc (hi:=ϸ1 2<|ϴB 2 (r_ ng) eI) (hg:=ϴA)) Æ)
 .apply ğ T.t1j.F me
  let nd:=me.nd;erw[iQ];show af Æ (af Æ<|af (ϬC Æ<|af (NG 2 Æ)<|af Æ<|aB<|B7 2<|ϳn g2.y0 T.t13<|ϰK 0<|ϰK 3 aQ) Æ)
 .apply ğ T.t1k.F Ez
  let nd:=Ez.nd;erw[yO];show ϵ0<|Ϲ xY [(0,"tree")] ["node"]
 .apply ğ T.t1l.F zR
  let nd:=zR.nd;erw[uq];trivial
 .apply ğ T.t1m.F mO
  let nd:=mO.nd;erw[iI];trivial
 .apply ğ T.t1n.F w6
  let nd:=w6.nd;erw[qA];show af Æ<|aB<|bW<|Ϩa oX [(1,"places")] ϑb (hi:=ϸ1 3<|ϴB 3 (r_ ng) eI) (hg:=ϴA)
 .apply ğ T.t1o.F qF
  let nd:=qF.nd;erw[lO];show af Æ<|ϤZ Æ (bW<|Ϲ gQ [(2,"count"),(3,"last")] ϨU)<|ϵ0<|Ϲ gQ [(2,"count")] ϨU
 .apply ğ T.t1p.F pQ
  let nd:=pQ.nd;erw[kF];show af Æ (af Æ<|ϭ4 4 fJ Ϙe "level" (d5<|o6<|aw (d5<|ϥg Æ<|ϔZ Æ (r_<|ϥY T.tg) eI) Æ)<|ϭ4 5 fJ Ϙe "level" (d5<|o6<|aw (d5<|ϥg Æ<|dk _ [] [0] ["times"] (bk:=bK<|Cm rfl œ œ œ ϗk) (hi:=sA<|ϔZ Æ (r_<|ϥY T.tg) eI)) Æ) Æ)
 .apply ğ T.t1q.F Ah
  let nd:=Ah.nd;erw[uz];show aB<|bW<|ϳn g2.ya T.t1d<|aw (Ϩa sH [(1,"pivot"),(2,"column"),(0,"row")] ["own","other"] (hi:=ϸ1 0 ϸO) (hg:=ϴA) (he:=Ϻk (fH FL (Ţ FR) (ϕa 2<|aq 0)<|ϕa 4 ϸO))) aQ
 .apply ğ T.t1r.F k6
  let nd:=k6.nd;erw[lH];show af Æ (af (Ξ (ϸ1 0 ϸO) (dg2 4)<|aB<|Gi (i:=3) k6.nd rfl ϫu Æ P_ λx=>x6)<|af Æ<|af (Ξ (ϸ1 0 ϸO) (dg2 4)<|aB<|ϫT 6 5 Æ) Æ)
 .apply ğ T.t1s.F o5
  let nd:=o5.nd;erw[pH];show af Æ<|af (gL (ϖw (Ϲ iz [] ["part"] (hi:=LG ϸO)) Æ ϺA) Æ cD)<|af (ϱU 3 o5.nd<|ϭJ<|aw (Ϲ iz [] ["part"] (hi:=LG ϸO)) aQ)<|aB<|bW<|CL Æ<|Gh<|yq<|ϭK<|ϲ3 (Ϲ iz [(1,"pulls")] ["level"])
 show ğ T.t1t.F iT;let nd:=iT.nd;erw[k_];show af Æ (af (ϱU 5 iT.nd<|d5<|oR<|aw (d5<|o6<|aw Æ<|aw (d5<|jG Sf Vt Nk eI Æ) Æ) aQ)<|af (Ξ Æ Æ<|af Æ<|af Æ<|ϤZ Æ (ϱU 7 iT.nd<|d5<|ϴB 7 eI Æ) Æ) Æ)
def mk4(T:Ϸa)(g1:ϸ7)(g2:ϸ8)(g3:ϪZ):Ϯ2:=by
 apply znI ⟨?_,?_,?_,?_,?_,?_,?_,?_,⟨⟩⟩
 .apply ğ T.t1u.F wF
  let nd:=wF.nd;erw[qY];trivial
 .apply ğ T.t1v.F pP
  let nd:=pP.nd;erw[kG];show af Æ<|af Æ<|aB<|bW<|Ϩa iY [(3,"elder")] ["earliest","latest"] (hi:=ϐq Æ Æ) (hg:=ϴA)
 .apply ğ T.t1w.F s_
  let nd:=s_.nd;erw[nA];show af Æ<|ϵ0<|Ϩa kQ [(2,"reach"),(1,"gap")] ϫc (hg:=ϴA)
 .apply ğ T.t1x.F ka
  let nd:=ka.nd;erw[m_];show af Æ (af Æ<|af (Ξ Æ Æ<|ϪU 5 iK [(4,"number")] "demand"<|aB<|uI 3<|d5<|ϥg Æ<|oR<|ϲ3 (Hm (fX KW (Ţ MP) Ϸu (ϥY T.tg) ϺA) ng ng))<|af (uI 3<|d5<|ϥg (ϥg (Ϲ iK [] ["demand"])<|ϳn g1.y8 T.tq<|ϰK 2<|ϰK 2 aQ) Æ)<|af (bt rfl K9F Æ (qN (n:=2) rfl<|ϦX 4 ka.nd Or.inr 6 mG)<|aB<|tX 3 Æ<|d5<|CI<|ϳn g3.y8 T.t1q<|ϭO 3 (Mh Gz (Ţ Fh) ng)<|ϭO 3 Ϸu<|ϰK 6 aQ) Æ)
 .apply ZL<|fnP (N:=ϕS) (k:=3) (b:=oq) rfl rfl T.t1y.F A0 ϐK
  let nd:=A0.nd;erw[oq];show Ii Æ<|Ii (ϬC Æ<|af Æ<|af (Hc 1 Ϸu<|aq 3)<|af (Ξ Æ Æ<|aB<|gL Æ (aB<|Hc 0 ϭE<|CI<|ϳn g3.y8 T.t1q<|ϭO 0 ϭE<|ϭO 0 Ϸu<|ϰK 3 aQ) cD) Æ) U_
 .apply ğ T.t1z.F tJ
  let nd:=tJ.nd;erw[m7];show af Æ (af Æ<|af Æ<|af (Ξ (ϐq (ϳn g3.y0 T.t1i<|ϰK 0 aQ)<|ϴB 1 Æ eI) (dg2 5)<|aB<|tX 4 Æ ϭF)<|aB<|JP 4 (ϴB 1 eI Æ)<|ϴB 1 Æ Æ)
 .apply ğ T.t20.F tH
  let nd:=tH.nd;erw[ny];show af Æ (af (Ξ Æ (dg2 3)<|aB<|vn 2 Nh (aq 3) Æ)<|af (Ξ (Q0 rfl T.te (ϳn g2.y1 T.t14<|ϰK 0 aQ) Æ Æ) (dg3 5)<|af (vn 2 yN Æ ϭF)<|aB<|vn 2 Nh Æ<|aq 7) Æ)
 show ğ T.t21.F lQ;let nd:=lQ.nd;erw[eK];trivial
def mk5(T:Ϸa)(g1:ϸ7)(g2:ϸ8)(g4:Ϯ2):Ϯ3:=by
 apply znI ⟨?_,?_,?_,?_,?_,?_,⟨⟩⟩
 .apply ğ T.t22.F wL
  let nd:=wL.nd;erw[rT];trivial
 .apply ğ T.t23.F rY
  let nd:=rY.nd;erw[wu];show af Æ (af (ϺN 3 rY.nd<|Ϲ qT [] ["reach"] (he:=Ϻk (oR<|aw (d5<|o6<|aw (fH ym Cb (Mh Gz (Ţ Fh)<|ϥY T.th)<|aq 0)<|ϲ3 (ϕv<|aq 0)) aQ)))<|af (Ξ (ϯO Æ Æ Æ) Æ<|af Æ<|aB<|gL Æ (af (Qi 3 5<|SX (sc:=(ah qT)) (i:=3) (c:=5) (bi:=6) ⟨rfl,rfl,œ,œ,œ,⟨ϻm,trivial⟩⟩ rY.nd rfl ϫu rfl rfl Æ (Ϻk<|HF (show List.Nodup (["child","outlines"]:À Str)by decide+kernel) rfl ϫu) λx x x x x hK=>Hb (zV _ hK) (ϯQ Æ) (ϯQ Æ) ϥx)<|af Æ<|af (Ξ (ϸ1 5<|aq 7) (dg2 8)<|aB<|ϫT 2 8<|aq 9)<|aB<|Ku 3 Ϸu (ϳn g1.y6 T.to<|ϰK 6<|ϰK 7 aQ) ϥx) cD) Æ)
 .apply ğ T.t24.F rR
  let nd:=rR.nd;erw[lV];show af Æ<|ϵ0<|ϫk kf [(1,"places"),(3,"unit")] ϘW (hg:=λx x x x x=>ϪL<|ϪA 0 (show List.Nodup (Ϗs:À Str)by decide+kernel)<|ϦX 1 (show List.Nodup (Ϗs:À Str)by decide+kernel) Or.inl 2 mG)
 .apply ğ T.t25.F rW
  let nd:=rW.nd;erw[lN];show af Æ (af (Ξ Æ (dg3 4)<|af (ύR 7 jV [] ϑb (hi:=ϐq Æ Æ) (hg:=ϴA)) Æ) Æ)
 .apply ğ T.t26.F rP
  let nd:=rP.nd;erw[lT];show af Æ (af (Ξ (ϯO Æ ng Æ) Æ<|aB<|vn 2 yN Æ Æ) Æ)
 show ğ T.t27.F zF;let nd:=zF.nd;erw[zY];show af Æ<|af Æ<|af (Ξ (Q0 rfl T.te (ϳn g2.y1 T.t14<|ϰK 0 aQ) Æ Æ) (dg3 5)<|aB<|Gi (i:=4) zF.nd rfl ϫu Æ yN λx=>EK)<|aB<|bW<|ϥg Ϸu<|Ϫu<|ϲ3 (ϫk xK [(2,"pulls")] ϘW (hg:=λx x x x x=>ϪL<|ϪA 0 (show List.Nodup (ϏG:À Str)by decide+kernel)<|ϦX 1 (show List.Nodup (ϏG:À Str)by decide+kernel) Or.inl 2 mG))
def mk6(T:Ϸa)(g1:ϸ7)(g2:ϸ8)(g3:ϪZ)(g5:Ϯ3):Ϯ4:=by
 apply znI ⟨?_,?_,?_,?_,?_,⟨⟩⟩
 .apply ğ T.t28.F lq
  let nd:=lq.nd;erw[lB];show af Æ (af Æ<|af (ϬC Æ<|ϪU 3 eZ [(0,"tree"),(2,"waiting")] "node"<|af (uI 1<|d5<|Ϲ eZ [] ["member"])<|aB<|ϺN 2 lq.nd<|d5<|ϫk eZ [] ϧg (hg:=λx x x x x=>ϪL<|ϪA 0 (show List.Nodup (ϧg:À Str)by decide+kernel)<|ϦX 1 (show List.Nodup (ϧg:À Str)by decide+kernel) Or.inl 2 mG)) Æ)
 .apply ğ T.t29.F CY
  let nd:=CY.nd;erw[o9];show af Æ<|af Æ<|af Æ<|aB<|Af 3<|bW<|ϳn g2.y6 T.t19<|ϰK 0<|ϰK 3<|ϲ3 (ϥY T.th)
 .apply ϭX ϺR 5 sC T.t2a.F AA
  let nd:=AA.nd;erw[sC];trivial
 .apply ğ T.t2b.F pJ
  let nd:=pJ.nd;erw[kJ];show af Æ (af Æ<|af Æ<|af Æ<|af Æ<|ϑu Lx Æ (Hg<|ϖw ϭE (Ϗu ϭF Æ) ϺA) Æ Æ)
 show ğ T.t2c.F Ex;let nd:=Ex.nd;erw[z7];show af Æ<|ϵ0<|Ϲ yn [(0,"tree"),(2,"sums")] ["node"] (he:=Ϻk (ϳn g1.yc T.tu<|aw (dk _ [(2,"sums")] [0] ["child"] (bk:=bK<|Cm rfl œ œ œ (ύ (lX _ _ [(2,"sums")]) ⟨ϻm,trivial⟩))) aQ))
def mk7(T:Ϸa)(g1:ϸ7)(g3:ϪZ)(g6:Ϯ4):Ϯ5:=by
 apply znI ⟨?_,?_,?_,⟨⟩⟩
 .apply ğ T.t2d.F A5
  let nd:=A5.nd;erw[vO];show af Æ (af Æ<|af (Ξ Æ (dg2 4)<|aB<|Ξ (sA<|ϴB 2 Æ eI) Æ<|aB<|B7 3<|Ϲ u6 [(5,"one"),(6,"other")] ["word"]) Æ)
 .apply ğ T.t2e.F gU
  let nd:=gU.nd;erw[kM];show af (ϱU 2 gU.nd<|d5<|Hm Æ (ϳn g6.y0 T.t28<|ϰK 0 aQ)<|Ϲ iF [] ["node"])<|af Æ<|af (ϱU 4 gU.nd<|ϥY T.tg)<|af (Ξ Æ Æ<|af Æ<|af (Ξ Æ (dg3 7)<|aB<|Ϝo<|d5<|Hm Æ ϭF<|Ϗu ϭF Æ) Æ)<|aB<|ND 3 Ϸu
 show ϭX ϖe 6 my T.t2f.F rV;let nd:=rV.nd;erw[my];show af Æ<|af Æ<|af Æ<|af Æ<|ϤZ Æ (ϺN 4 rV.nd<|d5<|Ϲ fV [(4,"felt")] ["group"])<|ϵ0<|yq<|ϭK<|ϲ3 (Ϲ fV [] ώV)
def mk8(T:Ϸa)(g2:ϸ8)(g7:Ϯ5):ϚT:=by
 apply znI ⟨?_,⟨⟩⟩;show ğ T.t2g.F jY;let nd:=jY.nd;erw[nF];show af Æ (af Æ<|af (Ξ Æ Æ<|af Æ<|af (ϱU 6 jY.nd<|zk (ϳn g2.y0 T.t13<|ϰK 0<|ϰK 5 aQ) Ϸu)<|af (ϱU 7 jY.nd<|CI Æ)<|af (Ξ (GS rfl T.t3<|Pc (BM hr) Æ ϭE<|oR aQ) (dg2 8)<|aB<|vn 7 yN (aq 9) Æ) Æ) Æ)
def mk9(T:Ϸa)(g2:ϸ8)(g3:ϪZ)(g4:Ϯ2)(g5:Ϯ3)(g8:ϚT):ϚU:=by
 apply znI ⟨?_,⟨⟩⟩;show ϭX ϕl 8 kO T.t2h.F kR;let nd:=kR.nd;erw[kO];show af (gL (fX L_ (Ţ MS) Æ (ϥY T.tf) ϺA) IU cD) (af Æ<|af Æ<|af Æ<|af (ϱU 6 kR.nd<|PU 5<|ϳn g4.y3 T.t1x<|ϰK 4<|ϰK 5 aQ)<|af (Qg g4.y4 Vl (hr.á Ý) rfl T.t1y.g T.t1y.F.kp T.t1y.b tQ (ϯQ Æ) (ϯQ Æ) Æ)<|af Æ<|af (ϺN 8 kR.nd<|d5<|Ϲ ed [] ["mark"] (hi:=sA<|ϔZ Æ Æ Æ))<|ϭ4 9 ed [(8,"sizes")] "spot" (Ϫu<|aw (dk _ [] [0,1] ["times","size"] (bk:=bK<|Cm rfl œ œ œ ϗk) (hi:=ϸ1 0 ϸO) (hg:=ϴA)) aQ) Æ)
def ZQ(T:Ϸa)(g1:ϸ7)(g2:ϸ8)(g5:Ϯ3)(g6:Ϯ4)(g7:Ϯ5)(g9:ϚU):Ϛo:=by
 apply znI ⟨?_,⟨⟩⟩;show ğ T.t2i.F ke;let nd:=ke.nd;erw[ni];show af (ϱU 3 ke.nd<|d5<|vi g9.y0 (hr.á Ý) rfl T.t2h.g T.t2h.F.kp T.t2h.b tQ Æ) (ϤZ Æ (bW q_)<|ώ1 (vi g6.y2 (hr.á Ý) rfl T.t2a.g T.t2a.F.kp T.t2a.b tQ Æ) Æ (ϵ0 q_)<|ϤZ (fX Pw Qr (vi g7.y2 (hr.á Ý) rfl T.t2f.g T.t2f.F.kp T.t2f.b tQ Æ) RU ϺA) (bW q_)<|af (ϱU 4 ke.nd<|d5<|vi g2.y7 (hr.á Ý) rfl T.t1a.g T.t1a.F.kp T.t1a.b tQ Æ)<|af Æ<|ϤZ Æ (bW q_) Æ)
def Tv{f:Ix}{fd:Fk}(F:Fun K "law" "law" vD f fd)(T:Ϸa)(g1:ϸ7)(g2:ϸ8)(g4:Ϯ2)(g6:Ϯ4)(g7:Ϯ5)(g10:Ϛo):ϳ5 mg base y_ 11 f fd ϑY (ϩl mg zJ):=by
 show bD rfl rfl rfl F Ff ϐK;let nd:=Ff.nd;erw[Gr];show af Æ (af Æ<|af Æ<|af Æ<|ϑu AZ (ϭR 3 ϺA) (BF<|ϭR 4 ϺA) Æ<|af Æ<|ώ1 (uM g6.y2 (hr.á Ý) rfl T.t2a.g T.t2a.F.kp T.t2a.d ύ0 tQ Æ) Æ Æ<|af (ϱU 6 Ff.nd<|d5<|o6<|aw (d5<|uM g2.y7 (hr.á Ý) rfl T.t1a.g T.t1a.F.kp T.t1a.d ύ0 tQ Æ) Æ)<|af Æ<|ώ1 (uM g6.y2 (hr.á Ý) rfl T.t2a.g T.t2a.F.kp T.t2a.d ύ0 tQ Æ) (BF<|NR<|Mn<|ϳn g1.yk T.t12<|ϰK 3<|aw (o6<|aw (d5<|uM g2.y7 (hr.á Ý) rfl T.t1a.g T.t1a.F.kp T.t1a.d ύ0 tQ<|ϰK 1<|ϰK 7 aQ)<|ϲ3 ng) aQ) Æ<|af Æ<|af Æ<|af Æ<|af Æ<|ϑu AZ (ϭR 9 ϺA) (BF<|ϭR 10 ϺA) Æ Æ)
end
open Lp (pA gcL gy jF clL)
def YA(a b:Int):dA [Ä a,Ä b]=.ok (Ñ (ϫQ:Nat)):=by
 erw[dA,jB];simp![S5];generalize l:ϩc=r;apply sP l (λm c=>∃(x y:Int)(v:Ü OD),m=y.ñ/\Int.gcd x y=ϫQ/\c=[Ĕ<|Ä x,Ĕ<|Ä y,v]) b.ñ ⟨a,b,none,rfl,rfl,rfl⟩
  (λc=>∃(x:Int)(v:Ü OD),Int.gcd x 0=ϫQ/\c=[Ĕ<|Ä x,some<|Ñ 0,v]) ?_ ?_
 .rintro m c ⟨x,y,v,rfl,hg,rfl⟩
  cases h:y=0
  .left
   subst h;constructor
   .simp![S5]
   show(x,v,hg,rfl)
  right;constructor
  .simp![K9q h,Zee]
  simp![T2 h];show(_,Lp.mod_lt h,y,x.fmod y,_,rfl,Ô Lp.OZ hg,rfl)
 ext ρ' rfl ⟨x,v,hg,rfl⟩;let e:(if x<0 then -x else x)=ä ϫQ:=by rw[<-hg,Int.gcd_zero_right];split<;>lia
 simp![Y3,e]
def nv{l:À Int}{k:Nat}(h:k<l.À):Ť ϲH ë=Â (Ä<|ϴu k):=de (ϰZ pA N2 ϱj)
def Ph(ns:À Int)(n:Int):ϰM Ϭi=ä (Int.gcd (ϰM ns) n):=Ϗ gcL List.foldl_append
def yI(ns:À Int)(B:ϵ pU (ϰM ns))(H:ns.À<=900):jM [Ï ō]=ģ (aG ϭy):=by
 erw[jM,uF];simp![S5];generalize l:Ŗ=r;show aX l (λi a=>∃v,a=[â ō,some<|Ñ<|ϰM ϔa,v]) ζ ?_ ?_
 .rintro i d a hd ⟨v,rfl⟩
  rw[N2]at hd;let(x,h,rfl):=ϹW;let c:=YA (ϰM ϔa) x;let e:ϰM (ns.Ö<|i+1)=ä (Int.gcd (ϰM ϔa) x):=Ĥ ϓP Ph
  simp![c];show(_,ϹU)
 ext ρ' rfl ⟨v,rfl⟩;rw[K0,K8D];simp![S5];generalize w:Į=rc;let e:=϶R int (λx=>Ñ<|x / ϰM ns) ns rfl (K94<|aF Á) (by ext x h;simp![RJ B]);subst e;simp![S5];erw[aG,gy];rw[S1,S1];rfl
def Bd(X:Nat)(l:À Int):Prop:=∀k,Ś (-(Ì X)) (ϴu k) X
def Bd.mem{X:Nat}{l:À Int}(h:Bd X l):∀x∈l,-(Ì X)<=x/\x<=X:=λx H=>by let(j,J):=Zac H;let:=h j;erw[pA]at this;rw[J]at this;show this
def XB:Nat:=2^1000
def MH{a b:Int}(h:-(Ì XB)<=a/\a<=XB)(H:-(Ì XB)<=b/\b<=XB):-(ä ϭz)<=a*b/\a*b<=ϱC ϭz:=Ô Zbz (Lp.sJ h H)
def Wx{a:Int}(h:-(ä (2*ϭz))<=a/\a<=ϱC (2*ϭz)):W4 a:=by
 let:2*ϭz<ϩ3:=œ
 erw[W4];lia
def u9{a:Int}(h:-(Ì XB)<=a/\a<=XB):W4 a:=by
 let:XB<ϩ3:=œ
 erw[W4];lia
def J8{g a:Int}(hg:g ∣ a)(A:a≠0)(h:W4 a):W4 g:=by erw[W4]at h⊢;show Zed (Nat.le_of_dvd Á<|Int.natAbs_dvd_natAbs.mpr hg) h
def Tx{row piv:À Int}{s:Nat}(l:ϧi)(h:ϤN row)(H:ϤN piv)(k:Nat):W4 (ϱk Ϲl):=by rw[Lp.oH l];let a:=MH (H s)<|h k;let b:=MH (h s)<|H k;show Wx Á
def Am(a b:À Int):gq όI όJ=Ê ϬW λp=>Ą [Ä p.1,Ä p.2]:=ϰZ gq List.zip_map S1
def zb{row piv:À Int}{s k:Nat}(h:ϧi)(H:ϤN row)(a:ϤN piv)(S:s<row.À)(L:ϑZ)(n:ϱk Ϲl≠0):
  eE [iD row,iD piv,Ä s]=ģ (aG<|ϳJ row piv):=by
 erw[eE,uz,iD];let g0:=Lp.mI n;let g1:ϵ pU (ϰM Ϲl):=(J8 (ϕ0<|Lp.Ai n) n<|Tx h H a k).b9 g0;let c:=yI Ϲl g1 (ύn<|Lp.HS h);let A:=Ϻt row S;let b:=Ϻt piv (k:=s) Á;simp![Am];generalize w:Į=rc;let e:=϶R (λp:ϰj=>ϱZ [Ä p.1,Ä p.2]) (λp=>Ñ<|ϻ1*p.1-Ō s*p.2) ϯN rfl (Ô Zao<|K94<|aF Á) (by ext p P;let T:=H.mem p.1 (K7w P).1;let p2:=a.mem p.2 (K7w P).2;simp![A,b,ϫl (a s) (u9 T),ϫl (H s) (u9 p2)]);subst e;let g:(ß row.Ċ piv λp=>Đ<|Ä<|ϻ1*p.1-Ō s*p.2).map OD.er=Ê Ϲl int:=ϪS jF (λp x=>ϰn)
 simp![g,c];rfl
open Lp (pA gcL gy jF clL Sl P0 vw fsh rgu rgu' Au nxt)
def yM{α:Type}{X:À α}{k:Nat}{v:α}{z:Int}(h:ϫ X=ĥ)(Z:z=ë-Ì X.À):Ť X z=ĥ:=by
 let H:k<X.À:=ϲG;let e:Ϲt z=Ş:=by
  erw[ixN];rw[P3 Á,Os Á]
  congr 1
  lia
 erw[atI];rw[e];show h
def T0(rs:À (À Int)):À Gc:=rs.Ç iD
def qC{rs:À (À Int)}{i:Nat}(h:i<rs.À):Ť ϭq ÿ=Â (iD<|Ó (rs[i]?) []):=de (ϰZ T0 N2 ϱj)
def Bu{rs:À (À Int)}{n:Nat}(h:rs.À=n+1):Ϲ3 ϭq=Â (iD<|Ó (rs[n]?) []):=yM (k:=n) (by
 erw[T0];rw[N2,Nu Á]
 rfl) (by erw[T0];rw[K0,h];lia)
def Bf{l:À Int}{z:Nat}(h:Ϸk (z+1)):Ϲ3 ϲH=Â (Ä<|ϴu z):=yM (k:=z) (by
 erw[pA];rw[N2,Nu Á]
 rfl) Ϛp
def KU{l:À Int}{z:Nat}(h:Ϸk (z+2)):Ť ϲH (-2)=Â (Ä<|ϴu z):=yM (k:=z) (by
 erw[pA];rw[N2,Nu Á]
 rfl) Ϛp
def oI1:ό1->Int|some s=>Ϻc|none=>-1
def Ab(row:À Int)(m:Nat)(M:m<=row.À)(a:ϑZ):cA [iD row,Ä m]=.ok (Ñ<|oI1 ύw):=by
 erw[cA,lL,iD];let S:Ι ϴ0:=Ŕ Á;simp![S];generalize w:Į=rc
 let e:=iS w (ϳk<|0+ë) (λk=>Õ<|0<Ō k) (λk=>Ñ ë) Ϲ0 (ϣ K9n) (Ô Z7<|K94<|aF Á) (by
  ext k h;let h:=K9G.mp h;let A:=Ϻt row (k:=k) Á;rw[K8R];constructor
  .simp![A]
  ext _
  simp![S5])
 subst e;let g:ύw=(ž Ϲ0 λk=>Õ<|0<Ō k).head?:=rfl;rw[g];generalize ž Ϲ0 (λk=>Õ<|0<Ō k)=L;cases L with
 |nil=>simp![List.head?_nil,oI1]
 |cons s r=>
  let H:Õ (Ì 0<ä (r.À+1))=true:=Ă K9k
  simp![List.head?_cons,oI1,H]
structure Ro(n w:Nat)(S:Sl):Prop where
 lr:S.Ó=n+1
 lc:S.İ=n
 row:ϲO (Ã (î i)=w)
 bd:ϲO (ϤN (î i))
def Ei{ks:Ò}{k:Nat}(h:k<ks.À):Ť (aO ks) ë=Â (Ä (ä (Ó (ϫ ks) 0))):=GK (ϣ ϱj)
def Iy{n w z s i k:Nat}{S:Sl}(R:ϬX)(W:w=z+1)(g:s<w)(hi:i<n)(K:k<n):
  iH [Ï ϴa,Ï ϵD,Ä s,Ä i,Ä k]=þ (ã<|Õ<|Au ϲV z s i k):=by
 erw[iH,o_];let d:=όr S.r (Ă R.lr);let f:=qC (rs:=S.r) (i:=k) (Ă R.lr);let c1:=Ei (ks:=S.c) (k:=i) (ϷX R.lc);let L:=Ei (ks:=S.c) (k:=k) (Ô R.lc K);let r:Ó (á S.r) []=î i:=rfl;let m:Ó (ϫ S.r) []=î k:=rfl;rw[r]at d;rw[m]at f;let j:=R.row i Á;let o:=R.row k Á;let b1:=R.bd i Á;let B:=R.bd k Á;let D:Õ (Au ϲV z s i k)=Õ (Ϯb (pA (î i) z) (pA (î k) s) (pA (î k) z) (pA (î i) s)<|Ó (á S.c) 0<Ó (ϫ S.c) 0):=decide_eq_decide.ó Iff.rfl;rw[D];generalize Ó (á S.c) 0=ci at c1;generalize Ó (ϫ S.c) 0=ck at L;generalize î i=ri at*;generalize î k=rk at*;erw[iD]at d f;let A:=Bf (l:=ri) (z:=z) Á;let b:=Bf (l:=rk) (z:=z) Á;let c:=Ϻt ri (k:=s) Á;let e:=Ϻt rk (k:=s) Á;let M:=ϫl (b1 z) (u9<|B s);let Q:=ϫl (B z) (u9<|b1 s);simp![d,f,A,b,c,e,M,Q];generalize pA ri z*pA rk s=x;generalize pA rk z*pA ri s=y;cases H:x<y
 .simp![Z8 H]
  rw[Z8<|Ð H]
 cases a:x=y
 .simp![K9q H,Z8 a,c1,L]
  show Uf L3.R.ok<|Uf OD.sh<|Uf PyData.bool ?_;rw[decide_eq_decide];constructor
  .intro h
   show Ø ⟨a,Á⟩
  rintro(h|⟨_,h⟩)
  .show ϻx H
  lia
 simp![K9q H,K9q a];rw[K9q];rintro(h|⟨h,_⟩)
 .show H h
 show a h
theorem Ew{n w z s:Nat}{S:Sl}(R:ϬX)(W:w=z+1)(g:s<w)(q:n<=900):
  cH [Ï ϴa,Ï ϵD,Ä s]=.ok (Ñ<|oI1<|ϷS n):=by
 erw[cH,ku];let p:Ι ((Ì S.İ)):=Ŕ (Ă R.lc);simp![eS,p];generalize L:Ŗ=r;show ϳ1 (λi j=>∃v,j=[â ϴa,â ϵD,Ĕ<|Ä s,some<|Ñ<|oI1<|ϷS i,v]) ζ
 .rintro i d j hd ⟨v,rfl⟩
  let(hi,rfl):=϶M;rw[K9n,R.lc]at hi;rw[K8R];let I:=όr S.r (Ă R.lr);let m:Ó (á S.r) []=î i:=rfl;rw[m]at I;erw[iD]at I;let A:=Ϻt (î i) (k:=s) (Ô (R.row i Á) g);let t1:ϥ i s=pA (î i) s:=rfl;cases a:0<pA (î i) s
  .cases hf:rgu ϲV z s i with
   |none=>
    let e:ϷS (i+1)=ϸv:=Ĥ rgu' (Os ⟨a,λf H=>by rw[hf]at H;cases H⟩)
    simp![I,A,Z8 a,oI1];show(_,ϹU)
   |some f=>
    let N:f<i:=(Lp.Ej i f hf).1;let o:=Iy (z:=z) R W g hi (k:=f) Á;let c:ł (Õ ((f:Int)<0)):=K9q Á;cases b:Au ϲV z s i f
    .let e:ϷS (i+1)=ϸv:=Ĥ rgu' (Os ⟨a,λF H=>by rw[hf]at H;cases H;show b⟩)
     rw[Z8 b]at o;simp![I,A,Z8 a,oI1,c,o];show(_,ϹU)
    let e:ϷS (i+1)=some f:=by rw[rgu',P3 λh=>b<|h.2 f hf,hf]
    rw[K9q b]at o;simp![I,A,Z8 a,oI1,c,o];show(_,ϹU)
  let e:ϷS (i+1)=ϷS i:=by rw[rgu',P3 λh=>a h.1]
  simp![I,A,K9q a];show(_,ϹU)
 ext ρ' rfl ⟨v,rfl⟩;let e:Ã (ky 0 (ĩ (Ì S.İ)))=n:=by rw[K9n,R.lc];erw[ky];simp
 rw[e];simp![S5]
open Lp (pA gcL gy jF clL Sl P0 vw fsh rgu Au nxt Jn Be Halt Dual Mk)
def TU{n m z w A:Nat}{R:ϹC}{S:Sl}(J:ϲD S){r s:Nat}(hr:r<n)(p:0<ϥ r s){i:Nat}(hi:i<=n)(h:i≠r):∃k,ϱk (jF (î i) (î r) s)≠0:=by
 let l:Ã (î i)=Ã (î r):=by rw[ϥL hi,J.row r Á]
 cases c:i=n
 .apply(m+n,?_)
  rw[Lp.oH l];let Z:ϥ2 (î r)=0:=ϔF hr;let j:0<ϥ2 (î n):=J.inv.mp;rw[Z,Zaa,Zau,c];show Zbd<|Zay p j
 let H:i<n:=Á
 show(ŧ i,?_);rw[Lp.oH l];let Z:pA (î r) (ŧ i)=0:=όH H r Á Ϧm;let j:0<pA (î i) (ŧ i):=ϫR H;rw[Z,Zaa,Zau];show Zbd<|Zay p j
def upR(S:Sl)(r s i:Nat):À (À Int):=Ā S.Ó λk=>Ë (k=r\/i<=k) (î k) (ϳJ (î k) (î r))
def Gf(S:Sl)(r s i:Nat):Ã (ϳl i)=S.Ó:=χ upR K0 Z7
def Rn{S:Sl}{r s i k:Nat}(h:k<S.Ó):Ó (ϫ<|ϳl i) []=Ë (k=r\/i<=k) (î k) (ϳJ (î k) (î r)):=ϰZ upR N2 ϴ6
def PM(S:Sl)(r s:Nat):ϳl 0=S.r:=by
 apply K9K;ext k;erw[upR];cases h:k<S.Ó
 .rw[N2,ϴ6,ϱj]
  change Â (Ë (k=r\/0<=k) (î k) _)=_;rw[Os<|Ø<|K8x k];erw[P0];rw[ϱj];rfl
 rw[K9c (Ϻ K0 Z7),K9c Á]
def QN{S:Sl}{r s:Nat}:ϳl (r+1)=ϳl r:=by
 erw[upR];show K8u λk x=>?_;cases h:k=r
 .rw[Os<|Ð h,Os<|Ð h]
 cases H:r<=k
 .rw[Os (Ø Á),Os<|Ø H]
 rw[P3 Á,P3 Á]
def Uk{S:Sl}{r s i:Nat}(hi:i<S.Ó)(n:i≠r):(T0<|ϳl i).set i (iD<|ϳJ (î i) (î r))=T0 (ϳl<|i+1):=by
 erw[T0];rw[<-Zby];show Ϲq iD ?_;erw[upR];let:=jU (λk=>Ë (k=r\/i<=k) (î k) (ϳJ (î k) (î r))) (λk=>Ë (k=r\/i+1<=k) (î k) (ϳJ (î k) (î r))) S.Ó i (λq Q=>by
  cases h:q=r
  .rw[Os<|Ð h,Os<|Ð h]
  cases H:i<=q
  .rw[Os (Ø Á),Os<|Ø H]
  rw[P3 Á,P3 Á])
 rw[P3 Á]at this;show this
def Oy{n m z:Nat}{S:Sl}{s r:Nat}(a:fsh (î n) m=some s)(b:ϷS n=ϰQ):ϰi S=⟨ϳl S.Ó,όG⟩:=by
 erw[nxt];rw[a];dsimp only;rw[b];dsimp only;erw[upR];show Uf (Ţ (⟨x,όG⟩:Sl))<|K8u (ϲ1 ?_);let H:=ϹR;cases h:k=r
 .rw[ϰo,Os<|Ð h]
 rw[ϱB,P3 Á]
def K3(c:Ò)(r s:Nat):Ϫ (aO c) r (Ä Ϻc)=aO (c.ß r s):=ű aO Zby
def sM(X:À Int):((aG X).all ϻa)=true:=by rw[K7x];ext y Y;erw[aG]at Y;let(d,h,rfl):=XV.mp Y;let(x,_,rfl):=ϥ8;rfl
def yU(X:À Int):ß aG X (λy=>Đ y.er)=aG X:=Ϗ aG S1
def um{n m z w A:Nat}{R:ϹC}{S:Sl}(J:ϲD S)(B:ϬX){s r:Nat}(f:s<w)(hr:r<n)(P:0<ϥ r s)(W:w<=900)(t:n<=800)(p:Ix)(c:OD)(D:OD)(v:Ü OD)(N:∀x y:Int,True):
  ∃V,ϧS (pX<|ħ<|È 0 ai) 5 (ϷH (ñ gNe 5 ş) (tM 0 ς<|mE<|ϨF<|ae (Ù 0 ς)<|ae (Ù 0 ş)<|È 3 ai) sNx) [some<|ϳp<|ß T0 S.r OD.sh,ī,some D,Ĕ<|Ä s,Ĕ<|Ä r,v]=ų [some<|ϳp<|ß T0 (ϳl S.Ó) OD.sh,ī,some D,Ĕ<|Ä s,Ĕ<|Ä r,V]:=by
 let o:Ι ((Ì S.Ó)):=Ŕ (Ă B.lr);let E:Ê (ß T0 S.r OD.sh) OD.er=ϴa:=aI _;let L:Ã ϴa=S.Ó:=ű T0 K0
 simp![Dj,E,L,o,v_bor,flI,flL];generalize H:Ŗ=r';show aX H (ϺL<|∃V,ρ=[some<|ϳp<|ß T0 (ϳl i) OD.sh,ī,some D,Ĕ<|Ä s,Ĕ<|Ä r,V]) ⟨v,by rw[PM]⟩ ?_ ?_
 .rintro i d ρ hd ⟨V,rfl⟩
  let(hi,rfl):=϶M;rw[K9n,B.lr]at hi;rw[K8R];cases h:i=r
  .let h':ÿ=Ϧg:=Á
   simp![Z8 h',Zfe];show(_,by rw[h,QN])
  let h':¬ÿ=Ϧg:=Á
  let(k,K):=TU J hr P (i:=i) Á h;let cl:=zb (row:=î i) (piv:=î r) (s:=s) (k:=k) (by rw[ϓh Á,B.row r Á]) (B.bd i Á) (B.bd r Á) (by rw[ϓh Á];show f) (by rw[ϓh Á];show W) K;let a:=όr (ϳl i) (Ϻ Gf B.lr);let b:=qC (rs:=ϳl i) (i:=r) (Ϻ Gf B.lr);rw[Rn (Ă B.lr),Os<|Ø<|N4 i]at a;rw[Rn (Ă B.lr),Os<|Ð rfl]at b;let l:Ê (ß T0 (ϳl i) OD.sh) OD.er=T0 (ϳl i):=aI _;let e1:mE (ϨF<|ae (Ù 0 ς)<|ae (Ù 0 ş)<|È 3 ai) [some<|ϳp<|ß T0 (ϳl i) OD.sh,ī,some D,Ĕ<|Ä s,Ĕ<|Ä r,some<|Ñ ÿ]=ģ (aG<|ϳJ (î i) (î r)):=by
   simp![Dj,l,a,b,cl];change(Ë _ _ _)=_;rw[Os<|sM _,yU]
  let g:=MQ (ρ:=[some<|ϳp<|ß T0 (ϳl i) OD.sh,ī,some D,Ĕ<|Ä s,Ĕ<|Ä r,some<|Ñ ÿ]) (i:=0) (k:=ς) (q:=ÿ) (j:=i) rfl e1 (z:=Ñ ÿ) rfl ϰn (cW<|by erw[T0];rw[K0,Gf,B.lr];lia);let G:ϹT (aG<|ϳJ (î i) (î r))=iD (ϳJ (î i)<|î r):=ϰ8 md aW
  rw[G,Uk (Ă B.lr) h]at g;simp![K9q h',Zee,↓g];show(_,rfl)
 ext ρ' rfl ⟨V,rfl⟩;let e:Ã (ky 0 (ĩ (Ì S.Ó)))=S.Ó:=ϐc
 rw[e];show(V,rfl)
def stB:Fs:=(ao (ϰl<|Rs<|pX<|ϓu<|È 0<|È 1<|È 3 ai)
 (ao (tM 1 ş Š)
 (ao (ϧS (pX<|ħ<|È 0 ai) 5<|ϷH (ñ gNe 5 ş) (tM 0 ς<|mE<|ϨF<|ae (Ù 0 ς)<|ae (Ù 0 ş)<|È 3 ai) sNx)
 (Δ<|Rs<|pX<|όV<|ae (Ù 0<|ġ<|Ç 1)<|È 2 ai))))
theorem II{n m z w A:Nat}{R:ϹC}{S:Sl}{u:Int}{d:Lp.Row}(D:Ϥ9)(J:ϲD S)(I:∀S,ϲD S->ϬX)(Z:w=z+1)(U:m<=w)(H:w<=900)(B:n<=800){j:Nat}(K:Be ϰi (λx=>϶5 Ϻy) j S):
  ∃o,ϲD o/\϶5 (vw o)/\Bk 6 oq ϴa ϵD (Ä m) (T0 o.r,aO o.c):=by
 let fin:∀(j:Nat)(S:Sl),ϲD S->Be ϰi (λx=>϶5 Ϻy) j S->ϲD (Lp.it ϰi j S)/\϶5 (vw<|Lp.it ϰi j S):=by
  ext j
  induction j with|zero=>exactλS J h=>⟨J,h⟩|succ j ih=>exactλS J h=>ϲ2 (Lp.zC D J h.1).1 h.2
 let(M,L):=fin j S J K;show(_,M,L,λp q W=>?_);let fs:∀T,ϲD T->∀(v1 C V v:Ü OD),pX (όV<|ae (Ù 0<|ġ<|Ç 1)<|È 2 ai) [some<|ϳp<|ß T0 T.r OD.sh,v1,Ĕ<|Ä m,C,V,v]=.ok (Ñ<|oI1<|fsh ϩd m):=λT t v1 C V v=>by
  let b:=I T t;let f:=Ab ϩd m (by rw[b.row n ϰm];show U) (Ϩg<|b.row n ϰm);let a:=Bu (rs:=T.r) b.lr;let X:Ó (T.r[n]?) []=ϩd:=rfl;rw[X]at a;let E:Ê (ß T0 T.r OD.sh) OD.er=T0 T.r:=aI _;cases v1<;>cases C<;>cases V<;>cases v<;>simp![Dj,E,a,f]
 erw[oq,zP];simp![Ub,↓fs S J,L0];generalize P:ϩc=r;apply sP P (λk ρ=>∃(T:Sl)(V v:Ü OD),ϲD T/\Be ϰi (λx=>϶5 Ϻy) k T/\Lp.it ϰi k T=Lp.it ϰi j S/\ρ=[some<|ϳp<|ß T0 T.r OD.sh,some<|ϵq<|ß aO T.c OD.sh,Ĕ<|Ä m,some<|Ñ<|oI1<|fsh ϩd m,V,v])
  j ⟨S,none,none,J,K,rfl,rfl⟩ (λρ=>∃C V v,ρ=[some<|ϳp<|ß T0 (Lp.it ϰi j S).r OD.sh,some<|ϵq<|ß aO (Lp.it ϰi j S).c OD.sh,Ĕ<|Ä m,C,V,v]) ?_ ?_
 .rintro k ρ ⟨T,V,v,t,hk,hit,rfl⟩
  cases hf:fsh ϩd m with
  |none=>
   left;let h:϶5 (vw T):=Lp.Dy hf;cases k with
   |succ k=>show ϻx hk.1
   |zero=>
    let hit:T=Lp.it ϰi j S:=hit;constructor
    .simp![oI1]
    show(_,_,_,ϰT hit)
  |some s=>
   right;let(s1,s2,s3):=Lp.Dc hf;cases k with
   |zero=>
    let:=hk s s1;let e:(vw T).T n s=pA ϩd s:=rfl;lia
   |succ k=>
    let(N,s',r,e1,G,l):=Lp.zC D t hk.1;rw[hf]at e1;cases e1;let b:=I T t;let g:=Ew (z:=z) b Z (s:=s) Á Á;rw[G]at g;let E:Ê (ß T0 T.r OD.sh) OD.er=T0 T.r:=aI _;let Y:Ê (ß aO T.c OD.sh) OD.er=aO T.c:=aI _;let O:Õ (Ì 0<=Ϻc)=true:=Z8 Á;let eN:=Oy (z:=z) hf G;constructor
    .simp![oI1,O]
    let g1:∀(V v:Ü OD),pX (ϓu<|È 0<|È 1<|È 3 ai) [some<|ϳp<|ß T0 T.r OD.sh,some<|ϵq<|ß aO T.c OD.sh,Ĕ<|Ä m,some<|Ñ Ϻc,V,v]=.ok (Ñ Ϧg):=λV v=>by cases V<;>cases v<;>simp![Dj,E,Y,g,oI1]
    let g2:=MQ (ρ:=[some<|ϳp<|ß T0 T.r OD.sh,some<|ϵq<|ß aO T.c OD.sh,Ĕ<|Ä m,some<|Ñ Ϻc,some<|Ñ Ϧg,v]) (i:=1) (k:=ş) (a:=Š) (q:=Ϧg) (j:=r) (y:=Ñ Ϻc) rfl rfl (z:=Ñ Ϧg) rfl ϰn (cW<|Ε eS b.lc l.hr);rw[bc,K3]at g2;let g3:=Zab<|ϐL Á l.hr l.rp H B p (ϵq<|ß aO ϧ8 OD.sh) (.sh<|Ä m) v ϒh;let F:=fs _ N;rw[eN]at F N;let Q:stB [some<|ϳp<|ß T0 T.r OD.sh,some<|ϵq<|ß aO T.c OD.sh,Ĕ<|Ä m,some<|Ñ Ϻc,V,v]=ų [some<|ϳp<|ß T0 ϐC OD.sh,some<|ϵq<|ß aO ϧ8 OD.sh,Ĕ<|Ä m,some<|Ñ<|oI1<|fsh (P0 ⟨ϐC,ϧ8⟩ n) m,some<|Ñ Ϧg,Ϸ0<|ϐL Á l.hr l.rp H B p (ϵq<|ß aO ϧ8 OD.sh) (.sh<|Ä m) v ϒh]:=by
     generalize Ϸ0 (ϐL Á l.hr l.rp H B p (ϵq<|ß aO ϧ8 OD.sh) (.sh<|Ä m) v ϒh)=v' at g3;erw[stB];simp![↓g1,↓g2,↓g3,↓F]
    change qS _ (stB [some<|ϳp<|ß T0 T.r OD.sh,some<|ϵq<|ß aO T.c OD.sh,Ĕ<|Ä m,some<|Ñ Ϻc,V,v]);rw[Q];show(k,K8d k,(ϐC,ϧ8),_,_,N,?_,?_,rfl)
    .let:=hk.2
     rw[eN]at this;show this
    rw[<-hit];change _=Lp.it ϰi k (ϰi T);rw[eN]
 ext ρ' rfl ⟨C,V,v,rfl⟩;simp![L0,Ya];show(_,rfl,rfl,rfl)
open Lp (pA gcL gy jF clL Sl P0 vw dR dC mkL frL laL lsF lsF' S0 Lone Dem Sm)
def D2(n i:Nat)(N:n<=900):n8 [Ä n,Ä i]=ģ (aG ϻ9):=by
 erw[n8,z9];let s:Ι (Ŵ+1):=Ŕ Á;simp![s];generalize w:Į=rc
 let e:=aS w (ϳk<|0+ë) (λk=>Ñ<|Ë (k=i) 1 0) (ϱQ<|n+1) (ϣ<|ê (ĩ (Ŵ+1)=n+1)) (Ô Z7<|K94<|aF Á) (by
  ext k H;rw[K8R];cases h:k=i
  .let h':ë=ÿ:=Á
   simp![Z8 h',Os h]
  let h':¬ë=ÿ:=Á
  simp![K9q h',P3 h])
 subst e;simp![S5];erw[aG,mkL];rw[S1,S1];rfl
def anyB(l:À Int):Bool:=(l.Ç ώo).any id
def any_false{l:À Int}:ł (anyB l)↔∀k,ϴu k=0:=by
 erw[anyB];rw[Zea,Zdm];constructor
 .intro h k
  cases e:ϴu k=0
  .show e
  show ĭ ϵh<|h _<|Lp.Ai e
 ext h x H;let(j,J):=Zac H;let:=h j;erw[pA]at this;rw[J]at this;let:x=0:=this;simp[this]
def rS(row:À Int)(k:Nat):Bool:=Õ (0<Ō k)&&(!anyB Ϩe&& !anyB ϯr)
def qW{row:À Int}{k:Nat}:rS row k=true↔0<Ō k/\∀l,l≠k->Ō l=0:=by
 erw[rS];rw[K9U,K9U,K9k,Zeh,Zeh,any_false,any_false];let t:∀l,pA Ϩe l=Ë (l<k) (Ō l) 0:=λl=>by erw[pA];rw[List.getElem?_take];split<;>rfl
 let d:∀l,pA ϯr l=Ō (k+1+l):=λl=>ű pA K84
 constructor
 .rintro⟨h1,h2,h3⟩
  show(h1,λl a=>?_);cases c:l<k
  .let:=h2 l
   rw[t,Os c]at this;show this
  let:=h3<|l-(k+1);rw[d,ê (k+1+(l-(k+1))=l)]at this;show this
 ext⟨h1,h2⟩;show(h1,λl=>?_,λl=>?_)
 .rw[t]
  split
  .show h2 l Á
  rfl
 rw[d];show h2 _ Á
def QI{row:À Int}{k:Nat}(h:όd)(a:ϑZ):gP [iD row,Ä k]=þ (ã<|rS row k):=by
 erw[gP,nH,iD,rS];let A:=nv h;let c1:ϲc (row.Ç int) none (Â ë)=Ê Ϩe int:=Ĥ qX K7n
 let L:ϲc (row.Ç int) (Â<|ë+1) none=ß row.ä (k+1) int:=by rw[ê (ë+1=ä (k+1)),i8 _ _ (Ă K0),Zbt]
 let e1:vp [Ï<|Ê Ϩe int]=þ (ã<|anyB Ϩe):=Dt<|xR _;let g:vp [Ï<|ß row.ä (k+1) int]=þ (ã<|anyB ϯr):=Dt<|xR _;generalize anyB Ϩe=x at e1;generalize anyB ϯr=y at g;cases H:0<Ō k
 .cases x<;>cases y<;>simp![A,Z8 H,c1,L,aI,e1,g,Zee,Zfe,Bool.true_and,Zez,Bool.and_false,Zfi]
 simp![A,K9q H,Zez]
def dmD(d:À Int×Int):Gc:=Ą [iD d.1,Ä d.2]
def dsD(D:Dem):À Gc:=D.Ç dmD
def tY(D:Dem):Ã ϵK=D.À:=ű dsD K0
def lnL(D:Dem)(i:Nat):Ò:=ž (ϱQ D.À) λj=>rS (ϛ j) i
def chL(D:Dem)(n:Nat):Ò:=Ê ϲk λi=>Ó (ϥU[0]?) 0
def Pr(D:Dem):fC ϵK=Ā D.À (ϰU (ϱZ [Ä ë,dmD<|Ó (D[k]?) ([],0)])):=by
 apply K9K;ext i;rw[N2];erw[fC,dsD];rw[N2,K8S,N2];cases hi:i<D.À
 .rw[ϴj,ϰD]
  change Â (ϱZ [Ä (ä (0+i)),dmD<|D[i]'hi])=Â (ϱZ [Ä ÿ,dmD<|Ó (D[i]?) ([],0)]);rw[ϰD,K87];rfl
 rw[K9c Á,K9c<|Ă Z7];rfl
def HE{D:Dem}{n:Nat}(h:ŵ (∃j,ϥA/\rS (ϛ j) i=true)):Lone D n (ϰ9 n):=by
 let key:ŵ (Ó (á<|ϰ9 n) 0<D.À/\rS (ϛ<|Ó (á<|ϰ9 n) 0) i=true):=λi hi=>by
  let e:Ó (á<|ϰ9 n) 0=Ó (ϥU[0]?) 0:=ϰZ chL N2 ϴj
  rw[e];let(j,J,B):=ϭx;let m:j∈ϥU:=ϳy ⟨ϨJ,B⟩;cases hL:lnL D i with
  |nil=>rw[hL]at m;cases m
  |cons a r=>
   let Q:a∈ϥU:=Ô hL K9z
   let:=ϦJ Q;show(Ϸw Ϻn,Ϥx)
 show(χ chL K0 Z7,ϰp (key i hi).1,ϰp (ϚV).1,λi hi l x H=>(ϚV).2 l H)
theorem Oz{D:Dem}{n:Nat}(b:0<D.À)(hr:Η D.À (Ã (ϛ j)=n))(o:n<=800)(f:D.À<=800)(h:ŵ (∃j,ϥA/\rS (ϛ j) i=true)):
  eV [Ï ϵK]=.ok (Ę<|aO<|ϰ9 n):=by
 erw[eV,kI];let A:Ť ϵK 0=Â (dmD<|Ó (D[0]?) ([],0)):=de (j:=0) (ϰZ dsD N2<|Nu b);let N:Ã (Ê (ϛ 0) int)=n:=Ô K0 (hr 0 b)
 let g:(Ó (D[0]?) ([],0)).1=ϛ 0:=rfl;erw[dmD,iD]at A;rw[g]at A;let s:Ι Ŵ:=Ŕ Á;let G:=hr 0 b;simp![A,N,G,s,K0];generalize l:Ŗ=r;show aX l (λi c=>∃V C,c=[â ϵK,some<|Ę<|aO<|ϰ9 i,V,C]) (ϲi _) ?_ ?_
 .rintro i d c hd ⟨V,C,rfl⟩
  let(hi,rfl):=϶M;rw[K9n]at hi;rw[K8R];simp![Pr];generalize w:Į=rc
  let e:=iS w (ϰU<|ϱZ [Ä ë,dmD<|Ó (D[k]?) ([],0)]) (λk=>rS (ϛ k) i) (λk=>Ñ ë) (ϱQ D.À) rfl (Ô Z7<|K94<|aF Á) (by
   ext k H;let H:=ϹR;let as:=QI (row:=ϛ k) (k:=i) (ϷX<|hr k H) (Ă<|hr k H);let g:(Ó (D[k]?) ([],0)).1=ϛ k:=rfl;erw[dmD];rw[g];constructor
   .simp![as]
   ext _
   simp![S5])
  subst e;let ex:ž (ϱQ D.À) (λk=>rS (ϛ k) i)=ϥU:=rfl;rw[ex];let(j,J,B):=ϭx;let m:j∈ϥU:=ϳy ⟨ϨJ,B⟩;let sn:ϰ9 (i+1)=ϰ9 i++[Ó (ϥU[0]?) 0]:=ϰZ chL K8A K9i
  cases l:lnL D i with
  |nil=>rw[l]at m;cases m
  |cons a r=>
   rw[l]at sn;let L:ϱK (Ã (aO<|ϰ9 i)):=c8 (by rw[eS];erw[chL];rw[K0,Z7];lia);simp![K0,L];let sn:ϰ9 (i+1)=ϰ9 i++[a]:=sn;rw[sQ (ϰ9 i) a,<-sn];show(_,_,rfl)
 ext ρ' rfl ⟨V,C,rfl⟩;let e:Ã (ky 0 (ĩ Ŵ))=n:=ϐc
 rw[e];simp![S5]
def kE(h:ϭm b.À<=1000):a_ (Ï a) (Ï b)=.ok (Ę ϦG):=by
 change(Ë (ϭm b.À<=Tk) _ _)=_;rw[Os<|K94<|aF h]
def Hq(D:Dem)(n i:Nat)(e:Int)(f:À Int×Int->Int):ϥd (f d)++Ê ϻ9 int++[int e]=Ê Ϯz int:=by rw[K9i,K9i,S1];rfl
def frS(D:Dem)(n i:Nat):À (À Int):=Ê Ϥc ϙ
def OK{D:Dem}{n A:Nat}{ch:Ò}(L:ϫS)(S:Sm A D)(hr:Η D.À (Ã (ϛ j)=n))(hn:n<=20)(hD:D.À<=400)(Q:A<=256)(h2:2<=n):
  gJ [Ï ϵK,Ï ϩY]=.ok (Ę<|T0 (ϹF).r):=by
 erw[gJ,m_];let Y:Ι Ŵ:=Ŕ Á;let cl:=L.í;simp![eS,cl,Y];generalize t:Ŗ=r;show aX t (λi g=>∃V v,g=[â ϵK,â ϩY,some<|Ñ Ŵ,some<|Ę<|T0<|ϱp i,V,v,none]) (ϲi _) ?_ ?_
 .rintro i d g H ⟨V,v,rfl⟩
  let(hi,rfl):=cI H;rw[K9n]at hi;rw[K8R];simp![S5];generalize w:Į=rc
  let e:=aS w dmD (λd=>Ñ<|ř d.1) D rfl (K94<|aF Á) (by
   ext d H;let(j,z):=Zac H;let J:ϥA:=(ϱb z);let K:d.1=ϛ j:=Ϗ dR z
   let o:=Ϻt d.1 (k:=i) (by rw[K,hr j J];show hi)
   erw[dmD,iD];simp![o])
  subst e;let mo:=D2 n i Á;let e1:ß D.Ç (λd=>Đ<|Ä<|ř d.1) OD.er=ϥd (ř d.1):=Ô S1 (K8u λd x=>ϰn)
  let m:=Lp.ug n i;let g1:=Ϫi (ϥd (ř d.1)) (Ê ϻ9 int) ϙd;let B:ϱK (Ã (T0<|ϱp i)):=ϖF;let sn:ß T0 (ϱp i) OD.sh++[Đ<|Ï<|Ê (ϙ i) int]=ß T0 (ϱp<|i+1) OD.sh:=by rw[yo];show Ϲq OD.sh ?_;erw[T0,frS];rw[K8A,K9i,K9i];rfl
  let R:∀v:OD,Ϥz (ñ gLt 4<|Ç 2) (Ç 1) (Ç 0) [â ϵK,â ϩY,some<|Ñ Ŵ,some<|Ę<|T0<|ϱp i,some<|Ñ ÿ,ĥ,none]=.ok (Ñ<|Ë (i<2) 1 0):=λv=>by
   cases h:i<2
   .let h':(ÿ<2):=Á
    simp![Z8 h',Os h]
   let h':¬(ÿ<2):=Á
   simp![K9q h',P3 h]
  let g2:=Ϫi (ϥd (ř d.1)++Ê ϻ9 int) [int (Ë (i<2) 1 0)] ϗl;rw[Hq]at g2;let F:D.Ç (λd=>ř d.1)++ϻ9++[Ë (i<2) 1 0]=ϙ i:=rfl;rw[F]at g2;simp![e1,mo,aW,g1,aI,↓R,g2,K0,B,sn];show(_,_,rfl)
 ext ρ' rfl ⟨V,v,rfl⟩;let e:Ã (ky 0 (ĩ Ŵ))=n:=ϐc
 rw[e];simp![S5];generalize w:Į=rc;let e:=϶R dmD (λd=>Ñ d.2) D rfl (K94<|aF Á) (by ext d H;erw[dmD,iD];simp![S5]);subst e;let mo:=D2 n n Á;let e1:ß D.Ç (λd=>Đ<|Ä d.2) OD.er=ϥd d.2:=Ô S1 (K8u λd x=>ϰn)
 let m:=Lp.ug n n;let g1:=Ϫi (ϥd d.2) (Ê (mkL n n) int) ϙd;let g2:=Ϫi (ϥd d.2++Ê (mkL n n) int) [Ϻr] ϗl;rw[Hq]at g2;let F:ϗj=Ϸh:=rfl;rw[F]at g2;let B:ϱK (Ã (T0<|ϱp n)):=ϖF;let sn:ß T0 (ϱp n) OD.sh++[Đ<|Ï<|Ê Ϸh int]=ß T0 (ϱp n++[ś 0]) OD.sh:=by rw[yo];show Ϲq OD.sh ?_;erw[T0];rw[K9i];rfl
 simp![e1,mo,aW,g1,aI,g2,K0,B,sn];generalize u:Ŗ=r2;let f:Ã (ϱp n)=n:=χ frS K0 Z7
 show aX u (λi g=>∃V v v6,g=[â ϵK,â ϩY,some<|Ñ Ŵ,some<|Ę<|T0<|ϱp n++[ś i],V,v,v6]) ϑV ?_ ?_
 .rintro i d g H ⟨V,v,v6,rfl⟩
  let(x,X,rfl):=kY H;erw[aO]at X;rw[N2]at X;let(s,C,rfl):=XL.mp X;let hi:i<n:=Ϙ cl (ZB.mp C).1
  let sc:Ó (á ch) 0=s:=by rw[C];rfl
  let slt:=L.lt i hi;let G:=Lp.GO L i ϴW;let ne:=Lp.HW L hi G;rw[sc]at slt ne;let y:=Lp.B3 (D:=D) (n:=n) (ch:=ch) i;let fl:=Lp.vR D n i;let T:A*(2*A)^i<=XB:=by
   let W:(2*A)^i<=512^20:=K9C (Zde Á i) (Zbu Ý Á);let p2:A*(2*A)^i<=256*512^20:=ϙh Q W;let p3:256*512^20<=XB:=œ
   lia
  let b1:ϤN (ś i):=λk=>Ĳ (Lp.Q2 S L i ϴW k)
  let I:ϤN (ϙ i):=λk=>by
   let:=Lp.Bb S n i ϴW k;rw[Lp.mJ hi]at this;let:ϥI<=XB:=œ
   lia
  let c:=zb (row:=ś i) (piv:=ϙ i) (s:=s) (by rw[y,fl]) b1 I (by rw[y];lia) (by rw[y];lia) ne;let O:Ê (ß T0 (ϱp n++[ś i]) OD.sh) OD.er=T0 (ϱp n++[ś i]):=aI _;let o:=Bu (rs:=ϱp n++[ś i]) (n:=n) (by rw[K9v,f,K9e]);rw[K9a (by rw[f];show ϰm),f,K8c]at o;let q:=όr (ϱp n++[ś i]) (by rw[K9v,f,K9e];lia);rw[K9V<|by rw[f];show hi]at q;let P:Ó (á<|ϱp n) []=ϙ i:=ϰZ frS N2 ϴj
  rw[P]at q;let p:Ϲ3 (T0<|ϱp n++[ś i])=Â (iD<|ś i):=o;let M:mE (ϨF<|ae (Ù 3<|ġ<|Ç 1)<|ae (Ù 3 ş)<|È 6 ai) [â ϵK,â ϩY,some<|Ñ Ŵ,some<|Ę<|T0<|ϱp n++[ś i],some<|Ñ ÿ,v,some<|Ñ Ϻc]=ģ (aG<|ϳJ (ś i) (ϙ i)):=by cases v<;>simp![O,p,q,c]<;>(change(Ë _ _ _)=_;rw[Os<|sM _,yU])
  let N:ϹT (aG<|ϳJ (ś i) (ϙ i))=iD (ś<|i+1):=by rw[md,aW,lsF',sc];rfl
  let U:ixN (Ã (ß T0 (ϱp n++[ś i]) OD.sh)) (-1)=ϵL:=by
   let E:Ã (ß T0 (ϱp n++[ś i]) OD.sh)=n+1:=by erw[T0];rw[K0,K0,K9v,f,K9e]
   rw[E];erw[ixN];rw[P3 Á,Os Á];show Ϸj Á
  let Z:Ϫ (ß T0 (ϱp n++[ś i]) OD.sh) n (OD.sh<|iD<|ś<|i+1)=ß T0 (ϱp n++[ś<|i+1]) OD.sh:=by
   rw[<-Zby];show Ϲq OD.sh ?_;erw[T0];rw[<-Zby];show Ϲq iD ?_;rw[Zdq _ _ (by rw[f];show ϰm),f,K8c];rfl
  simp![↓M,N,yS U,Z];show(_,_,_,rfl)
 ext ρ' rfl ⟨V,v,v6,rfl⟩;let e:Ã (fC ϩY)=n:=ϑh eS cl
 rw[e];simp![S5];rfl
open Lp (pA gcL gy jF clL Sl P0 vw dR dC mkL frL laL lsF S0 Lone Dem Sm Jn Mk pd pd' pd'' px)
def XS:Nat:=2^200
def Nr{n m z w:Nat}{R:ϹC}{S:Sl}(J:ϑc)(M:ϻ0)(D:ϲO (∀j,Ś (-(ä 256)) ϴ7 ϥI))(a:0<n)(H:n<=13):ϲO (Bd XS (î i)):=λi hi j=>by
 let h:=J.le M Ý D a hi j;let p:(2*(n+1)*256)^n<=7168^13:=K9C (Zde Á n)<|Zbu Ý H;let p2:(n+1)*((2*(n+1)*256)^n*256)<=14*(7168^13*256):=ϙh Á<|Zcj 256 p;let P:14*(7168^13*256)<=XS:=œ
 let e:ϥ i j=Ņ (î i):=rfl;rw[e]at h;lia
def DP{l:À Int}(h:Bd XS l):ϤN l:=λk=>by
 let:=h k;let:XS<=XB:=œ
 lia
def Wc{n m z w:Nat}{R:ϹC}{S:Sl}(J:ϑc)(M:ϻ0)(D:ϲO (∀j,Ś (-(ä 256)) ϴ7 ϥI))(a:0<n)(h:n<=13):ϬX:=⟨J.lr,J.lc,J.row,ϰp (DP<|Nr J M D a h i hi)⟩
def pvN(S:Sl)(i:Nat):Int:=ϥ i<|ŧ i
def prF(S:Sl)(n m z:Nat):Nat->À Int|0=>϶Z 0|k+1=>Ϫ (ϱG k) (ŧ k)<|ϥ k z*ϳe k
def prF'{S n m z k}:ϱG (k+1)=(Ϫ (ϱG k) (ŧ k)<|ϥ k z*ϳe k):=rfl
def wm(S:Sl)(n m z:Nat):∀k,Ã (ϱG k)=m:=by
 induction _ with|zero=>show K8r ..|succ k N3=>rw[prF',K8z,N3]
def Rh{f:å}{X:Nat}:∀n,(ŵ<|ώR (f i) X)->ώR (ϴv f) (ä (X^n)):=by
 induction _ with
 |zero=>ext _;rw[pd''];show(Zdw,Ô Zeu ϺC)
 |succ n N3=>
  ext h;let(a,b):=ϺV;let(H,c):=Ϩv;rw[pd',Zcm,Zbz];show(Zay a H,?_);show Zef b c (Zar H) Á
def E9{a:Int}(H:k<=14)(h:-(ä (XS^k))<=a/\a<=ϱC (XS^k)):W4 a:=by
 let T:XS^k<=ϴr:=Zbu œ H;let p2:ϴr<ϩ3:=œ
 erw[W4];lia
def zeros(m:Nat)(z:Int)(Z:z=ϴ0)(M:m<=1000):cX (Ï [Ä 0]) (Ä z)=.ok (Ę<|϶Z Ϻr):=by subst Z;show xA (Ä 0) m M
def R7(l:À Int):iD l=Ï ϲH:=rfl
theorem JW{n m z w:Nat}{R:ϹC}{S:Sl}(J:ϑc)(U:ϻ0)(N:ϲO (∀j,Ś (-(ä 256)) ϴ7 ϥI))(G:0<n)(hn:n<=13)(hw:w=z+1)(hmw:m<=w)(W:m<=800)(P:∃k,ϱk (ϱG n)≠0):
  d4 [Ï ϴa,Ï ϵD,Ä m]=ģ (aG<|gy<|ϱG n):=by
 erw[d4,lH];let bd:=Nr J U N G hn;let pos:ŵ (ώR (ϲU i) (ϱC XS)):=ϰp ⟨ϫR hi,(ώC Á _).2⟩
 let p:ϩG (ώR (pd k ϲU) (ä (XS^k))):=λk h=>Rh k (ϰp (pos i Á));let D:∀(i:Nat)(x y:Gc),á ϴa=Ď->á ϵD=ϰO->i<n/\x=iD (î i)/\y=Ä (ä (ŧ i)):=λi x y X Y=>by
  erw[aO]at Y;rw[N2]at Y;let(c,o,rfl):=XL.mp Y;let hi:i<n:=Ϙ J.lc (ZB.mp o).1
  erw[T0]at X;rw[N2]at X;let(r,hr,rfl):=XL.mp X;show(hi,?_,?_)
  .change iD r=iD (Ó (á S.r) [])
   rw[hr];rfl
  change int Ϧb=Ä (ä (Ó (á S.c) 0));rw[o];rfl
 let E:∀(i:Nat)(d:Gc),(gq ϴa ϵD)[i]?=ϰN->i<n/\d=Ą [iD<|î i,Ä (ä (ŧ i))]:=λi d H=>by let(x,y,I,K,rfl):=rA H;let(hi,rfl,rfl):=D i x y I K;show(hi,rfl)
 let s:Ã (gq ϴa ϵD)=n:=by
  erw[gq,T0];rw[K0,Zao,K0,eS,J.lr,J.lc];lia
 let s2:Ι ϴ0:=Ŕ Á;simp![S5];generalize L:Ŗ=r;show ϳ1 (λi a=>∃v V,a=[â ϴa,â ϵD,some<|Ñ ϴ0,some<|Ñ<|pd i ϲU,v,V,none]) ((ϲi _))
 .rintro i d a H ⟨v,V,rfl⟩
  let(hi,rfl):=E i d H;let A:=Ϻt (î i) (k:=ŧ i) (by rw[ϥL Á];let:=J.ċ i hi;lia);let M:=ϻ4 (pd i ϲU) (pA (î i)<|ŧ i) (E9 (k:=i) Á<|Ĳ (p i Á)).bits (u9<|DP (ώC Á) _).bits;let m2:pd i ϲU*pA (î i) (ŧ i)=pd (i+1) ϲU:=rfl;rw[m2]at M;rw[R7];simp![A,M];show(_,_,rfl)
 ext ρ' rfl ⟨v,V,rfl⟩;rw[s];let t:=zeros m ϴ0 rfl Á;let Z:ώP (϶Z Ϻr) (ϱG 0):=ϘJ prF
 rw[Z]at t;let g:=p n ϰm;simp![t];generalize L:Ŗ=r2;show ϳ1 (λi a=>∃v V,a=[â ϴa,â ϵD,some<|Ñ ϴ0,some<|Ñ<|ϴv ϲU,v,V,Ň<|aG<|ϱG i]) ((ϲi _))
 .rintro i d a H ⟨v,V,rfl⟩
  let(hi,rfl):=E i d H;let B:=J.ċ i hi;let A:=Ϻt (î i) (k:=ŧ i) (Ă<|ϥL Á);let u:=Bf (l:=î i) (z:=z) (Ĥ (ϥL Á) hw);let pi:=pos i hi;let F:=RJ (i:=ϴv ϲU) (j:=pA (î i)<|ŧ i)<|(u9<|DP (ώC Á) _).b9 pi.1;let q:ϲU i*ϳe i=ϴv ϲU:=Lp.Cj n hi;let q2:ϴv ϲU / pA (î i) (ŧ i)=ϳe i:=Ϙ q (Zeg _<|Zbd pi.1)
  rw[q2]at F;let Q:0<ϳe i:=Ϙy;let ql:ϳe i<=ä (XS^n):=by
   show Zeq ?_ g.2;rw[<-q];let:=Zaf (ê<|Ì 1<=ϲU i)<|Zar Q;rw[Zaq]at this;show this
  let M:=ϻ4 (pA (î i) z) (ϳe i) (u9<|DP (ώC Á) _).bits (E9 (k:=n) Á Á).bits;let ix:ixN (Ã (aG<|ϱG i)) (ä (ŧ i))=Â (ŧ i):=cW (by rw[d7,wm];show B);let st:Ϧi (ϱG i) (ŧ i) (Đ<|Ä<|pA (î i) z*ϳe i)=aG (ϱG<|i+1):=ϣ nL
  rw[R7];simp![A,u,F,M,yS ix,st];show(_,_,rfl)
 ext ρ' rfl ⟨v,V,rfl⟩;rw[s];let h:=Zab P;let g0:=Lp.mI h;let f:ϩG (∀j,Ś (-(ä ϴr)) (Ņ (ϱG k)) (ϱC ϴr)):=by
  ext k
  induction k with
  |zero=>
   ext _ j;let:Ņ (ϱG 0)=0:=ϖT
   rw[this];lia
  |succ k ih=>
   ext h j;erw[prF,pA];rw[List.getElem?_set];split
   .split
    .let Q:0<ϳe k:=Ϙy
     let q:ϲU k*ϳe k=ϴv ϲU:=Lp.Cj n Á;let ql:ϳe k<=ä (XS^n):=by
      show Zeq ?_ g.2;rw[<-q];let:=Zaf (show Ì 1<=ϲU k by let:=pos k Á;lia)<|Zar Q;rw[Zaq]at this;show this
     let:=Lp.sJ (bd k Á z) (C:=(ä (XS^n))) (b:=ϳe k) Á;let pw:XS*XS^n<=ϴr:=by rw[Zdp,<-Zcm];show Zbu œ Á
     rw[<-Zbz]at this;change Ś (-(ä ϴr)) (ϥ k z*ϳe k) (ϱC ϴr)
     let e:ϥ k z=pA (î k) z:=rfl;rw[e];omega
    change -(ä ϴr)<=0/\Ì 0<=ϱC ϴr
    lia
   show ih Á j
 let O:ϵ pU (ϰM<|ϱG n):=(J8 (ϕ0<|Lp.Ai h) h<|E9 (k:=14) Á<|f n ϰm _).b9 g0;let lo:=yI (ϱG n) O (Ă wm);simp![aW,lo]
def gpL(ts:À Nd)(q:À Int):Nat->À Int|0=>ϸ2 0|k+1=>Ϫ (ϲJ k) (Ó ((S4 Í)[k]?) (0,0)).2<|ϤE<|2*Ã Í+k
def gpL'{ts q k}:ϲJ (k+1)=(Ϫ (ϲJ k) (Ó ((S4 Í)[k]?) (0,0)).2<|ϤE<|2*Ã Í+k):=rfl
def BJ(ts:À Nd)(q:À Int):∀k,İ (Ã (ϲJ k)):=by
 induction _ with|zero=>show K8r ..|succ k N3=>rw[gpL',K8z,N3]
def dY(ts:À Nd)(q:À Int):À Int:=q.Ö (Ã Í)
def cF(ts:À Nd)(q:À Int):À Int:=Ł (q.ä (Ã Í)) (Ã Í)
abbrev gp(ts:À Nd)(q:À Int):À Int:=ϲJ ((Ã (S4 Í)))
def Aq(ts:À Nd)(q:À Int)(he:ĕ)(f:Č 0)(L:é)(H:q.À=2*Ã Í+Ã (S4 Í)):
  gN [Ï è,Ï Ϩn]=Ħ (.ot [϶J<|ϰx q,϶J<|ϰ5 q,϶J<|ϰ4 q]):=by
 erw[gN,m7];let(N,n):=ϺF f;let nl:Ã (oW Í)=Ã Í:=eL _;let R:=zeros ts.À (Ì ts.À) rfl Á;let Z:ώP (ϸ2 Ϻr) (ϲJ 0):=ϘJ gpL
 rw[Z]at R;let c1:ϲc Ϩn (Â<|2*Ì ((Ã Í))) none=ß q.ä (2*Ã Í) int:=by rw[ê (Ì 2*Ì ((Ã Í))=ä (2*Ã Í)),i8 _ _ ϑd,Zbt]
 let Q:cX (Ä 2) (Ä (Ì ((Ã Í))))=.ok (Ñ<|2*Ì ((Ã Í))):=by
  let:ϤC 2 ((Ì ((Ã Í)))):=EC Á Á;simp![this]
 let lv:=kX ts he L;let G:ϟ ts.À=Í:=rfl;rw[G]at lv;simp![lv,mD,nl,aH,R,Q,mV ts he L,aI,c1];generalize g:Ŗ=r;let l:∀(i:Nat)(d:Gc),(gq (ß S4 Í prD)<|ß q.ä (2*Ã Í) int)[i]?=ϰN->i<Ã (S4 Í)/\d=Ą [prD<|Ó ((S4 Í)[i]?) (0,0),Ä<|ϤE<|2*Ã Í+i]:=λi d h=>by let(x,y,c,e,rfl):=rA h;rw[N2]at c e;let(a,A,rfl):=XL.mp c;let(b,B,rfl):=XL.mp e;rw[K84]at B;show((ώH).1,?_);erw[pA];rw[A,B];rfl
 let s:Ã (gq (ß S4 Í prD)<|ß q.ä (2*Ã Í) int)=Ã (S4 Í):=by
  erw[gq];rw[K0,Zao,K0,K0,K8y];lia
 show aX g (ϺL<|∃v v6,ρ=[â è,â Ϩn,â<|oW Í,some<|Ñ<|(Ì ((Ã Í))),Ň<|aG<|ϲJ i,v,v6]) (ϲi _) ?_ ?_
 .rintro i d ρ h ⟨v,v6,rfl⟩
  let(hi,rfl):=l i d h;let lt:=(ϸt (p:=Ó ((S4 Í)[i]?) (0,0))<|Ô ϰD (Zah hi)).2;let I:ixN (Ã (aG<|ϲJ i)) (Ì (Ó ((S4 Í)[i]?) (0,0)).2)=Â (Ó ((S4 Í)[i]?) (0,0)).2:=cW (by rw[d7,BJ];show lt);let T:Ϧi (ϲJ i) (Ó ((S4 Í)[i]?) (0,0)).2 (OD.sh<|Ä<|ϤE<|2*Ã Í+i)=aG (ϲJ<|i+1):=ϣ nL
  erw[prD];simp![yS I,T];show(_,_,rfl)
 ext ρ' rfl ⟨v,v6,rfl⟩;rw[s];let C:ϲc Ϩn none (Â<|(Ì ((Ã Í))))=Ê (ϰx q) int:=by rw[qX,<-K7n];rfl
 let k:ϲc Ϩn (Â<|(Ì ((Ã Í)))) (Â<|2*Ì ((Ã Í)))=Ê (ϰ5 q) int:=by
  rw[ê (Ì 2*Ì ((Ã Í))=ä (2*Ã Í)),Ϛt _ _ _ ϑd,ê (2*Ã Í-Ã Í=Ã Í),<-Zbt,<-K7n];rfl
 let u:=LF (fa:=ϳb 1 iN<|d8 Š) (fb:=ϳb 1 (d8 Š)<|d8<|ϰz (Ç 2) Š) (i:=4) (ρ:=[â è,â Ϩn,â<|oW Í,some<|Ñ<|(Ì ((Ã Í))),Ň<|aG<|ϲJ ((Ã (S4 Í))),v,v6]) (x:=϶J<|ϲJ ((Ã (S4 Í)))) (y:=϶J<|ϰx q) (z:=϶J<|ϰ5 q) rfl (by simp![C];rfl) (by simp![Q,k];rfl);simp![↓u]
def mvL(ts:À Nd)(pl:À Int)(u:Int):À Int:=pl.Ç λx=>x-eT (Ā ts.À λk=>ϵA-u*Ļ k)
def LC(ts:À Nd)(pl:À Int)(u:Int)(H:Č 0)(a:é)(l:ϵe)(p:İ pl.À)(U:W4 u):
  bj [Ï è,Ï ϻA,Ä u]=ģ (aG<|mvL ts pl u):=by
 erw[bj,fS];let rs:=rsh ts;let g:=lK ts;simp![aW,jR ts l a,rs,FX p g];generalize w:Į=rc
 let e:=aS w (ϰU<|ϱZ [Ä ϵA,Ä<|Ļ k]) (λk=>Ñ<|ϵA-u*Ļ k) ϳR rfl (Ô Z7<|K94<|aF Á) (by
  ext k h;let b:=wV l k;let m:=fP (i:=u) (j:=Ļ k) U.bits (pB (ϧM b.1<|_<û k)<|ϧM b.2 (û k<_))
  simp![m])
 subst e;clear w;rw[zD];let M:=rE (xs:=Ā ts.À λk=>ϵA-u*Ļ k) (λz=>by
  let:=Ż z;rw[K0,Z7,K8U]at this
  lia)
 simp![aW,M];generalize w:Į=rc;let e:=϶R int (λx=>Ñ<|x-eT (Ā ts.À λk=>ϵA-u*Ļ k)) pl rfl (K94<|aF Á) (by ext k h;simp![S5]);subst e;simp![S5];rw[zD];rfl
def l5(f:å):å|0=>0|m+1=>l5 f m+f m
def uP{l:À Int}{i:Nat}(h:i<l.À):Ó ϲH i ò=Ä Ϥm:=by rw[Zbv,N2];erw[I4];rw[ϱj];rfl
def C5{a:À Ò}{i:Nat}{r:Ò}(h:ϴp=ϰQ):Ó (oW a) i ò=Ï ϶G:=by erw[oW];rw[Zbv,N2,h];rfl
def fl(n:Nat)(f:å):À Int:=Ê ϲk f
def wc(n:Nat)(f:å):Ã (Ϫq f)=n:=χ fl K0 Z7
def F9{n:Nat}{f:å}{j:Nat}(h:j<n):(aG<|Ϫq f)[j]?=some (Ñ<|f j):=by erw[aG,fl];rw[N2,N2,N2,ϴ6];rfl
def Wf(g:À Int):g=fl g.À ϲq:=by
 apply K9K;ext i;erw[fl];rw[N2];cases h:i<g.À
 .rw[ϴ6]
  change _=Â (ϲq i);erw[I4];rw[ϱj];rfl
 rw[K9c Á,K9c<|Ă Z7];rfl
def UR(n:Nat)(f:å)(j:Nat)(z:Int):Ϧi (Ϫq f) j (Ñ<|f j+z)=aG (Ϫq<|λv=>f v+Ë (v=j) z 0):=by
 rw[nL];congr 1;let:=jU f (λv=>f v+Ë (v=j) z 0) n j (λq h=>Ĥ ϱB Zak);rw[Ĝ]at this;show this
def NK(n:Nat)(f:å)(j:Nat)(z:Int):Ϧi (Ϫq f) j (Ñ<|f j-z)=aG (Ϫq<|λv=>f v-Ë (v=j) z 0):=by
 rw[nL];congr 1;let:=jU f (λv=>f v-Ë (v=j) z 0) n j (λq h=>Ĥ ϱB Zau);rw[Ĝ]at this;show this
def sbT(g:À Int)(v:Nat)(p:ϻ):Int:=Ë (v=p.1) (ϲq p.2) 0
def lrT(ts:À Nd)(l r:À Int)(v j:Nat):Int:=(Ë (v=hdN (Ó (ę Í) [])) (I4 l j) 0)-(Ë (v=ltN (Ó (ę Í) [])) (I4 r j) 0)
def npA(g:À Int)(L:À ϻ)(v:Nat):Int:=ϲq v-(L.Ç Ϩ1).sum
def npF(ts:À Nd)(l r g:À Int)(v:Nat):Int:=ϲp (S4 Í) v+l5 ϱF (Ã Í)
def Na(g:À Int)(L:À ϻ)(p:ϻ)(v:Nat):ϲp (L++[p]) v=ϲp L v-(Ë (v=p.1) (ϲq p.2) 0):=by
 erw[npA];rw[K9i,Zbf,K9w,K9D,Zap,Zfn];erw[sbT];lia
def Vp{ts:À Nd}{j:Nat}{q:Ò}(h:ę Í=Â q)(l r:À Int)(v:Nat):ϱF j=(Ë (v=ϱu) (I4 l j) 0)-(Ë (v=ϸD) (I4 r j) 0):=by erw[lrT];rw[h];rfl
def Ar(ts:À Nd)(l r g:À Int)(he:ĕ)(s:Č 0)(L:é)(o:Ϸk (Ã Í))(R:r.À=Ã Í)(m:İ g.À):
  gM [Ï è,ϳr]=ģ (aG<|ϲd ϴI):=by
 erw[gM,ny,eQ,iD];let g0:Ê ύc OD.sh=aG (ϲd ϲq):=by
  change aG g=_;rw[<-m,<-Wf]
 simp![mV ts he L,aI,g0];generalize h:Ŗ=r';apply aX h (λi a=>∃(C V:Ü OD),a=[â è,Ĕ<|Ą [Ï ϲH,Ï Ϸ5,Ï ύc],Ň<|aG<|ϲd<|ϲp<|Ł (S4 Í) i,C,V,none,none,none])
  ⟨_,_,by
   let:ϲq=ϲp []:=funext λv=>by erw[npA];rw[K9D,Zfn,Zau]
   rw[K7t,<-this]⟩ ?_ ?_
 .rintro i d a hd ⟨C,V,rfl⟩
  rw[N2]at hd;let(p,P,rfl):=ϹW;let lt:=ϸt<|K9L P;let X:ϔY (ϲd<|ϲp<|Ł (S4 Í) i) ((Ì p.1))=Â p.1:=cW (Ε d7 wc lt.1);let A:=϶8 g p.2 (ϥj lt.2);let gt:=F9 (f:=ϲp<|Ł (S4 Í) i) lt.1;let e:(λv=>ϲp (Ł (S4 Í) i) v-Ë (v=p.1) (ϲq p.2) 0)=ϲp (Ł (S4 Í)<|i+1):=funext λv=>Ĥ (ϬQ P) Na
  erw[prD];simp![A,BG,Aa X gt,NK,e];show(_,_,rfl)
 ext ρ' rfl ⟨C,V,rfl⟩;rw[K0,K90 ì];clear h;let z:zN3 [Ï<|oW Í,Ï ϲH,Ï Ϸ5]=.ok (wJ (oW Í) ϲH Ϸ5):=YK ⟨by rw[eL,K0,o],by rw[eL,K0,R]⟩;simp![Yv,kX ts he L,mD,z];generalize h:Ŗ=r';apply aX h (λi a=>∃(b v6 c:Ü OD),a=[â è,Ĕ<|Ą [Ï ϲH,Ï Ϸ5,Ï ύc],Ň<|aG<|ϲd (λv=>ϲp (S4 Í) v+l5 ϱF i),C,V,b,v6,c])
  ⟨_,_,_,by
   let:ϲp (S4 Í)=λv=>ϲp (S4 Í) v+l5 ϱF 0:=funext λv=>Ĥ (ϸd (l5 ϱF 0) 0) Zak
   rw[<-this]⟩ ?_ ?_
 .rintro i d a hd ⟨b,v6,c,rfl⟩
  let(hi,rfl):=vU hd;rw[eL]at hi;obtain⟨q,H⟩:∃q,á Í=Â q:=ϓe (Í[i])
  let(F,J):=Ϫt H;let(e1,n,E,j):=bX F;rw[C5 H,uP Á,uP Á];let x:∀f:å,ixN (Ã (aG<|ϲd f)) (ä ϱu)=Â ϱu:=λf=>cW (Ε d7 wc<|J _ E);let I:∀f:å,ixN (Ã (aG<|ϲd f)) (ä ϸD)=Â ϸD:=λf=>cW (Ε d7 wc<|J _ j);let t:=F9 (f:=λv=>ϲp (S4 Í) v+l5 ϱF i)<|J _ E;let G:=F9 (f:=λv=>(ϲp (S4 Í) v+l5 ϱF i)+Ë (v=ϱu) Ϥm 0)<|J _ j;let S:=UR ts.À (λv=>ϲp (S4 Í) v+l5 ϱF i) ϱu Ϥm;let w:=NK ts.À (λv=>(ϲp (S4 Í) v+l5 ϱF i)+Ë (v=ϱu) Ϥm 0) ϸD ϭr;let e:(λv=>ϲp (S4 Í) v+l5 ϱF i+(Ë (v=ϱu) Ϥm 0)-Ë (v=ϸD) ϭr 0)=λv=>ϲp (S4 Í) v+l5 ϱF (i+1):=funext λv=>Ϻ (ϸd (l5 ϱF (i+1)) (l5 ϱF i+ϱF i)) (Vp H)
  simp![e1,n,BG,Aa (x _) t,S,Aa (I _) G,w,e];show(_,_,_,rfl)
 ext ρ' rfl ⟨b,v6,c,rfl⟩;rw[we,eL];simp![S5];rfl
def bsF(ts:À Nd)(s:À Int):Nat->À Int|0=>s|m+1=>Ϫ (ϰ s m) (Ĩ<|ĵ-m).toNat<|ϑf (ϰ s m) (Ĩ<|ĵ-m).toNat (ĵ-m)
def bsF'{ts s m}:ϰ s (m+1)=(Ϫ (ϰ s m) (Ĩ<|ĵ-m).toNat<|ϑf (ϰ s m) (Ĩ<|ĵ-m).toNat (ĵ-m)):=rfl
def Bx(ts:À Nd)(s:À Int):∀m,Ã (ϰ s m)=s.À:=by
 induction _ with|zero=>show rfl|succ m N3=>rw[bsF',K8z,N3]
def KO{s:À Int}{j:Nat}(h:j<s.À):ę (aG s)=some (Ñ<|ϺI j):=by erw[aG,I4];rw[N2,N2,ϱj];rfl
abbrev pK(ts:À Nd)(l r g:À Int):À Int:=ϰ (ϲd ϴI) ĵ
def LA(ts:À Nd)(l r g:À Int):İ (Ã ϶1):=Ĥ Bx wc
def yC(ts:À Nd)(l r g:À Int)(he:ĕ)(H:Č 0)(i:é)(o:Ϸk (Ã Í))(R:r.À=Ã Í)(G:İ g.À):
  fN [Ï è,ϳr]=ģ (aG ϶1):=by
 erw[fN,lT];let np:=Ar ts l r g he H i o R G;let p:=λ(ρ:L3.Env)(b:(F4 cO (eB ba<|ae (aa 0) ai)<|eC<|.int 1) ρ=.ok (.sh<|.int<|(ts.À:Int)-1))=>Pb (fa:=ϳz (ħ<|È 0 ai)<|Ç 1) (fb:=Ç 0) (fc:=ġ<|Ç 1) (ρ:=ρ) (x:=Ì ts.À-1) (y:=0) (z:=-1) b rfl rfl rfl (Ŕ Á) (Ŕ Ý);let q:=p [â è,Ĕ ϳr,Ň<|aG<|ϲd ϴI,none] ϑU;simp![np,q];generalize L:Ŗ=r';show ϳ1 (λm ρ=>∃C:Ü OD,ρ=[â è,Ĕ ϳr,Ň<|aG<|ϰ (ϲd ϴI) m,C]) ζ
 .rintro m d ρ hd ⟨C,rfl⟩
  let(M,rfl):=uY hd;obtain⟨k,f⟩:∃k:Nat,k=ĵ-m:=ζ;let K:Ć:=Á
  let a:Ì ts.À-1-ϴ0=ë:=Á
  rw[a];obtain⟨n,h⟩:ϰ6 ϸG:=⟨ts[k],Ϯ K⟩
  let E:=he k n h;obtain⟨j,J⟩:∃j:Nat,n.e=Ĵ:=⟨n.ģ,Ĳ (E.2.1 Á)⟩
  let c:j<k:=Ĳ E.2.2
  let g3:=fZ h;rw[J]at g3;let bl:İ (Ã (ϰ (ϲd ϴI) m)):=Ĥ Bx wc
  let I:ϔY (ϰ (ϲd ϴI) m) ((Ì (j:Nat)))=ϱ6:=cW (Ϻ d7 bl);let gt:=KO (s:=ϰ (ϲd ϴI) m) (j:=j) Á;let A:=d9 (pl:=ϰ (ϲd ϴI) m) (k:=k) Á;let e:ϰ (ϲd ϴI) (m+1)=(ϰ (ϲd ϴI) m).set j (I4 (ϰ (ϲd ϴI) m) j+I4 (ϰ (ϲd ϴI) m) k):=by rw[bsF',<-f,ϴx,J,K9n]
  simp![g3,aW,A,BG,Aa I gt,nL];rw[e];show(_,rfl)
 ext ρ' rfl ⟨C,rfl⟩;rw[zG,ê (ĩ (Ì ts.À-1-0)=ĵ)];simp![S5]
def wI(X:À Int):À Int:=Ā ϫU λp=>ϏD (p+1)
def cR(ts:À Nd)(s:À Int):À (À Int):=Ā ts.À λk=>wI<|Ê (Å k) ϺI
def Ho(D:À (À Int)):À OD:=D.Ç λX=>ϲu<|aG X
def D7(D:À (À Int)):Ê (Ho D) OD.er=Ϭj:=by erw[Ho];rw[S1];show K8u λX x=>by change ϹT _=_;rw[md,aW];rfl
def fu{ts:À Nd}{q k:Nat}(h:k∈Å q):Ć:=by erw[F5]at h;show Ϸw (ώv).1
def uU(ts:À Nd)(q:Nat):ϱ0 (Ã (Å q)):=HU ts ts.À q
def zw(X:À Int)(a:ϲv X.À):i7 [Ï όK]=ģ (aG<|wI X):=by
 erw[i7,lG];let S:Ι 1:=Ŕ Ý;let s:Ι ((Ì X.À)):=Ŕ Á;simp![S,s,K7m];generalize w:Į=rc
 let e:=aS w (ϳk<|1+ë) (λk=>Ñ<|ϏD (k+1)) (ϱQ ϫU) (ϣ<|ê (ĩ (Ì X.À-1)=ϫU)) (Ô Z7<|K94<|aF Á) (by
  ext k h;let h:=K9G.mp h;rw[ê (Ì 1+ë=ä (k+1))];let c1:ϲc όK (Â<|(ä (k+1))) none=ß X.ä (k+1) int:=Ĥ (i8 _ _ (Ă K0)) Zbt
  let L:ϲc όK none (Â<|(ä (k+1)))=ß X.Ö (k+1) int:=Ĥ qX K7n
  simp![c1,L,aI,lh])
 subst e;simp![S5];erw[wI,aG];rw[S1,S1];rfl
def T6(ts:À Nd)(s:À Int)(k:Nat):Ϩq (Ê (Å k) λc=>Đ<|Ä<|ϺI c) (Ê (Å k) ϺI):=Ε S1 S1 (K8u λp x=>ϰn)
def J5(ts:À Nd)(l r g:À Int)(he:ĕ)(d:Č 0)(a:é)(L:Ϸk (Ã Í))(R:r.À=Ã Í)(m:İ g.À):
  qP [Ï è,ϳr]=ģ (Ho<|ϱ2 ϶1):=by
 erw[qP,z7];let b:=yC ts l r g he d a L R m;let s:=LA ts l r g;let f:Ι ((Ì ts.À)):=Ŕ Á;simp![b,aW,aH,f];generalize ϶1=S at s;generalize w:Į=rc
 let e:=aS w (ϳk<|0+ë) (λk=>϶J<|wI<|Ê (Å k)<|I4 S) ϳR (ϣ K9n) (Ô Z7<|K94<|aF Á) (by
  ext k H;let H:=ϹR;let cl:=uU ts k;rw[K8R];simp![eA ts k H a,iP];generalize h:Į=rc2
  let E:=aS h (λc:Nat=>int Ϧb) (λc=>Ñ<|I4 S c) (Å k) Ϯj (K94<|aF Á) (by
   ext c C;let A:=d9 (pl:=S) (k:=c) (by rw[s];show fu C)
   simp![A])
  subst E;let q:=zw (Ê (Å k)<|I4 S) (Ă K0)
  simp![T6,q])
 subst e;simp![S5];erw[Ho,cR];rw[S1];rfl
def Az(ts:À Nd)(s:À Int):İ (Ã (ϱ2 s)):=χ cR K0 Z7
def VE(ts:À Nd)(j:Nat)(h:ϰg):iW [Ï è,Ä j]=.ok (Ñ<|(ä (j+1+Ã ϲy))):=by
 erw[iW,oM];simp![S5];generalize l:ϩc=r;apply sP l (λm b=>∃i:Nat,m=ϲL ϦK/\ϱ0 ϦK/\b=[â è,Ĕ<|Ä j,some<|Ñ<|(ä ϦK)]/\∀k,k<i->∀n,ϷY[k]?=ϵL->inB j n=true) (ϲL<|j+1) ⟨0,rfl,Á,by rfl,λk f=>Á⟩
  (λb=>b=[â è,Ĕ<|Ä j,some<|Ñ<|(ä (j+1+Ã ϲy))]) ?_ ?_
 .rintro m b ⟨i,rfl,hi,rfl,ha⟩
  let fin:(∀x,ϷY[i]?=Ď->ł (inB j x))->Ã ϲy=i:=λH=>ϳq (rg _ _ i ha H (Ă K8y)) K9f K8y
  cases c:ä ϦK<Ì ts.À
  .obtain⟨n,N⟩:ϰ6 (ts[ϦK]?):=⟨ts[ϦK]' Á,Û⟩
   let d:ϷY[i]?=ϵL:=by rw[K84];show N
   let g1:=fZ N;cases a:Ĵ<=n.e
   .right
    constructor
    .simp![aH,Z8 c,g1,Z8 a]
    simp![S5];show(_,?_,i+1,rfl,Á,?_,λk f x H=>?_)
    .lia
    .let e:ä ϦK+1=ä (j+1+(i+1)):=Á
     rw[e]
    cases K:k<i
    .show ha k K x H
    let:k=i:=Á
    subst this;rw[d]at H;cases H;show Z8 a
   left;constructor
   .simp![aH,Z8 c,g1,K9q a]
   rw[fin λx H=>by rw[d]at H;cases H;show K9q a]
  left;constructor
  .simp![aH,K9q c]
  .rw[fin λx H=>by
    let:=ϹB;rw[K8y]at this
    lia]
 ext ρ' rfl rfl;simp![S5]
def En(ts:À Nd)(j:Nat)(h:ϰg)(e:é):iy [Ï è,Ä j]=.ok (Ę<|ak ϳt):=by
 erw[iy,rC];obtain⟨r,hr⟩:ϰ6 (ę ts):=⟨ts[j]' Á,Û⟩
 let g1:=fZ hr;let c1:=DL è j (Ϲu aH);let e1:=VE ts j h;let w:Ã ϲy<=ϲL (j+1):=ϱD (όB (l:=ϷY)).length_le K8y
 let E:Ĵ+1=ä (j+1):=Á
 let u:=Ϛt è (j+1) (j+1+Ã ϲy) (Ă aH);let c:Ł (τ è<|j+1) (j+1+Ã ϲy-(j+1))=ak ϲy:=by
  erw[ak];rw[<-Zbt,<-K7n,Nat.add_sub_cancel_left];congr 1;let p:=όB (l:=ϷY);show(List.prefix_iff_eq_take.mp p).symm
 rw[c]at u;simp![c1,g1,e1,E,u,aI];generalize L:Ŗ=r';show ϳ1 (λi a=>∃C:Ü OD,a=[â è,Ĕ<|Ä j,some<|Ę<|ak<|ϧC::Ê (Ł ϲy i) Ϧq,C]) ζ
 .rintro i d a hd ⟨C,rfl⟩
  erw[ak]at hd;rw[N2]at hd;let(n,H,rfl):=ϹW;let hi:=ϹB;let b:ϱK (Ã (ak<|ϧC::Ê (Ł ϲy i) Ϧq)):=Ô aH (c8 ϳc)
  let t1:ß ak (ϧC::Ê (Ł ϲy i) Ϧq) OD.sh++[Đ<|Ą [Ä<|n.e-j,Ė n.l,Ä n.t]]=ß ak (ϧC::(Ł ϲy<|i+1).map Ϧq) OD.sh:=by rw[Zck,H];erw[ak];simp[p7,ndD]
  simp![ndD,b,t1];show(_,rfl)
 ext ρ' rfl ⟨C,rfl⟩;simp![S5];erw[cx];rw[hr,aH,K90 ì]
def rc(n:Nd):Int:=Ì n.ç / 2
def shp(ts:À Nd):À ϰj:=ts.Ç λn=>(n.e,rc n)
def esI(ts:À Nd):À Int:=ts.Ç (·.e)
def rsI(ts:À Nd):À Int:=ts.Ç rc
def vG:∀a b:À Int,PyData.eqvAll όI όJ=Õ (a=b):=by
 induction _ with
  |nil=>
   ext x18
   cases x18 with
    |nil=>
     rw[Ϥy];rfl
    |cons y b=>
     rw[K9q ϳT];rfl
  |cons x a ih=>
   ext x19
   cases x19 with
    |nil=>
     rw[K9q ϳT];rfl
    |cons y b=>
     rw[K9w,K9w,PyData.eqvAll,ih b,PyData.eqv];cases h:x=y
     .by_cases H:a=b
      .simp[h,H]
      .simp[h,H]
     .simp[h]
def Jz(a b:À Nd):Õ (Ϻf esI/\Ϻf rsI)=Õ (Ϻf shp):=by
 let:(Ϻf esI/\Ϻf rsI)↔Ϻf shp:=by
  let e1:∀ts,esI ts=ß shp ts ϔ:=ϗ3 esI
  let g:∀ts,rsI ts=ß shp ts Ž:=ϗ3 rsI
  constructor
  .rintro⟨h1,h2⟩
   let z:∀ts,shp ts=(esI ts).zip (rsI ts):=λts=>by erw[shp,esI,rsI];rw[List.zip_map']
   rw[z,z,h1,h2]
  ext h;show(by rw[e1,e1,h],by rw[g,g,h])
 simp only[this]
def rm(ts:À Nd):Gc:=Ą [Ï<|ß esI ts int,Ï<|ß rsI ts int]
def C6(ts:À Nd):lay 2 (rm ts):=Ji λx h=>by
 simp only[K8v,K8P,or_false]at h;rcases h with rfl|rfl
 .show Ϻd _
 show Ϻd _
def PJ(a b:À Nd):gEq (rm a) (rm b)=þ (ã<|Õ<|Ϻf shp):=by
 erw[gEq];let e:ϗx (rm a) (rm b):=rfl;rw[e];erw[k7];rw[cG (C6 a) Ý,cG (C6 b) Ý,K7m,Ĝ];let:Ϭz (rm a) (rm b)=Õ (Ϻf shp):=by erw[rm];rw[PyData.eqv,PyData.eqvAll,PyData.eqvAll,PyData.eqvAll,PyData.eqv,PyData.eqv,vG,vG,Zfi,<-Jz];simp
 rw[this];rfl
def Cz(ts:À Nd)(h:Ź)(a:é):hX [Ï è]=þ (rm ts):=by
 let R:bT [Ï è]=.ok (Ę<|ß rsI ts int):=by
  erw[bT,oS];simp![S5];generalize l:Į=r
  let e:=aS l ndD (λn:Nd=>Ñ<|Ì n.ç / 2) ts rfl (K94<|aF Á) (by
   ext n H;let:=ϖa (h n H)
   simp![ndD,this])
  subst e;simp![S5];erw[rsI];rw[S1,S1];rfl
 erw[hX,uA];simp![S5];generalize l:Į=r;let e:=aS l ndD (λn:Nd=>Ñ n.e) ts rfl (K94<|aF Á) (by ext n H;simp![ndD]);subst e;let g:ß ts.Ç (λn:Nd=>Đ<|Ä n.e) OD.er=ß esI ts int:=ϪS esI (λn x=>ϰn)
 simp![g,R,aI];rfl
def O9(ts:À Nd)(h:Ź)(a:é)(i j:Nat)(hi:ϫP)(J:ϰg)(d:F)(p:PT ϳt d):
  fE [Ï è,Ä i,Ä j]=þ (Ą [ã<|Õ<|shp (ϭb i)=shp ϳt,ã<|Õ<|shp (ϭb i)=shp (aR ϳt d)]):=by
 erw[fE,rT];let b1:=AM hi;let B:=AM J;let g:=Cz (ϭb i) (wq h i) Á;let f:=Cz ϳt (wq h j) Á;let b:=Cz (aR ϳt d) (Bo p<|wq h j) (Ă ϵY);let m:=CZ ϳt d p Á;simp![En ts i hi a,En ts j J a,aI,g,f,m,b,PJ]
def lS:F->Int->Nat->À ϬD|F.nil,_,_=>[]|F.cons k c r,p,n=>(p,k)::(lS c Ŵ (n+1)++lS r p (n+1+Ã Φ))
def lS''{w0 w1}:lS (F.nil) w0 w1=[]:=rfl
def lS'{k c r p n}:lS ϑ0 p n=((p,k)::(lS c Ŵ (n+1)++lS r p (n+1+Ã Φ))):=rfl
def Mp:∀(f:F)(p:Int)(n:Nat)(x:ϬD),x∈ϬY->x.1=p\/Ŵ<=x.1:=by
 induction _ with
 |nil=>ext _ _ x h;cases h
 |cons k c r Sc Re=>
  ext p n x h;rw[lS']at h;rcases K8v.mp h with rfl|h
  .show Ð rfl
  rcases K9Y.mp h with h|h
  .rcases Sc _ _ x h with z|z
   .show Ø Á
   show Ø Á
  rcases Re _ _ x h with z|z
  .show Ð z
  show Ø Á
def DN:∀(f:F)(p:Int)(n:Nat)(x:ϬD),(ϬY).head?=Ď->x.1=p:=by
 induction _ with
 |nil=>ext _ _ x h;cases h
 |cons k c r Sc Re=>ext p n x h;rw[lS',List.head?_cons]at h;cases h;rfl
def EJ(Q:Ú α):∀{A c B b:À α},(∀x∈A,Q x)->(∀x∈c,Q x)->(∀x,B.head?=Ď->¬Q x)->(∀x,b.head?=Ď->¬Q x)->A++B=c++b->A=c/\B=b:=by
 induction _ with
  |nil=>
   ext x3 B b _ h2 h3 _ h
   cases x3 with
    |nil=>
     exact ⟨rfl,h⟩
    |cons a' c=>
     let h:B=a'::(c++b):=h;show ĭ (h2 a' K9z) (h3 a'<|by rw[h];rfl)
  |cons a A ih=>
   ext x6 B b h1 h2 h3 h4 h
   cases x6 with
    |nil=>
     let h:a::(A++B)=b:=h;show ĭ (h1 a K9z) (h4 a<|by rw[<-h];rfl)
    |cons a' c=>
     rw[K92,K92]at h;let(e1,g):=K8B h;let(G,E):=ih (λx H=>h1 x<|ě H) (λx H=>h2 x<|ě H) h3 h4 g;show(Ĥ e1 G,E)
theorem sN:∀(f g:F)(p:Int)(n:Nat),p<Ŵ->ϬY=lS g p n->f=g
 |F.nil,F.nil,_,_,_,_=>rfl
 |F.nil,F.cons _ _ _,_,_,_,h=>ϗM
 |F.cons _ _ _,F.nil,_,_,_,h=>ϗM
 |F.cons k c r,F.cons k' c' r',p,n,hp,h=>by
  rw[lS',lS']at h;let(e1,e):=K8B h;let E:k=k':=Uf Prod.snd e1;let(A,a):=EJ (λx:ϬD=>Ŵ<=x.1)
   (ϗw<|Mp c _ _ x H) (ϗw<|Mp c' _ _ x H)
   (λx H=>Ĳ (DN r _ _ x H)) (λx H=>Ĳ (DN r' _ _ x H)) e
  let Y:=sN c c' _ _ Á A;subst Y;let er:=sN r r' _ _ Á a;rw[E,er]
def wG(h:ņ)(f:F):Ã (ϝ<|F.map h f)=Ã ν:=Ĥ F.vq K0
def Qs(h:ņ):∀(f:F)(p:Int)(n:Nat),lS (F.map h f) p n=Ê ϬY λx=>(x.1,h x.2):=by
 induction _ with|nil=>ext _ _;show rfl|cons k c r Sc Re=>ext p n;rw[F.map,lS',lS',K9w,K9i,Sc,Re,wG]
def rN(ts:À Nd)(k:Nat):Nat:=(ĩ (Ļ k))
def RX{ts:À Nd}{k:Nat}:ä (Ϻg k)=Ļ k:=by
 erw[rN];let:0<=Ļ k:=by
  erw[gv,ay];rw[N2];cases ts[k]? with|none=>show ϺC|some n=>show Int.ediv_nonneg Á Ý
 lia
def GH{ch:Nat->Ò}:ϲw (ϳI ch f->ϳI (λk=>(Ϩ (ch k))) (F.mir f)):=by
 induction _ with|nil=>ext _;show trivial|cons k c r Sc Re=>ext⟨h1,h2,h3⟩;rw[F.mir'];show(F.xF _ _).mpr ⟨Re h3,by rw[F.nN,<-h1],Sc h2,trivial⟩
def map_two{h g k:ņ}:ϲw ((∀q∈ν,h (g q)=k q)->F.map h (ϳE g f)=F.map k f):=by
 induction _ with|nil=>ext _;show rfl|cons q c r Sc Re=>ext e;rw[F.map,F.map,F.map,e q (ϳj F.pre),Sc ϖU,Re ϖU]
def p9{f:F}{k:Nat}(h:k∈ϝ (F.mir f)):k∈ν:=by rw[F.uJ]at h;show(F.oh f).mem_iff.mp h
def NP(h:lay n (Ï ϵP))(H:n<=64):gNe (Ï ϵP) (Ï [])=þ (ã true):=by
 erw[gNe];rw[n_];erw[k7];rw[cG h H,ύ (Ϻ5 (Ï [])) (cG (Ϻd []) Ý),K7m,Ĝ];let:Ϭz (Ï ϵP) (Ï [])=false:=by erw[PyData.eqv,PyData.eqvAll];rfl
 rw[this];rfl
def Uw(ts:À Nd)(f:F):À ϰj:=Ê (lS f (-1) 0) λx=>(x.1,Ļ x.2)
section
variable{Fm:Type}[DecidableEq Fm](fo:Nat->Fm)(rv:Fm->Fm)(R:Nat->À Int)
def gI(l:À Int)(p:Nat):Int:=Ó (l[p]?) 0
def tot(W:Ò)(j p:Nat):Int:=(W.Ç λk=>(Ë ϔT (ϬZ p) 0)+(Ë ϑ1 (gI (Ϩ (R k)) p) 0)).sum
def rel(k j:Nat):Bool:=Õ ϔT||Õ ϑ1
def calm(W:Ò)(j:Nat):Prop:=∀p,p<Ã (R j)->϶3 W j p=0
def sum_filter(L:À α)(f:ϴy α)(q:ϲ0 α)(h:∀x∈L,ł (q x)->f x=0):(ß L.Û q f).sum=(L.Ç f).sum:=by
 induction L with
 |nil=>rfl
 |cons a r i=>
  let i:=i λx H=>h x<|ě H;cases e:q a with|true=>rw[Zbm e,K9w,K9w,Zap,Zap,i]|false=>rw[Zbb (ϻr K9o),K9w,Zap,h a K9z e,i,K8R]
variable{fo rv R}
def bG{k j:Nat}:ϱJ k j=true↔ϔT\/ϑ1:=by erw[rel];rw[Bool.or_eq_true,K9k,K9k]
def lA(j:Nat):ϱJ j j=true:=bG.ó<|Ð rfl
def rel_trans(hr:ϯj){a b c:Nat}(h:ϱJ a b=true)(H:ϱJ b c=true):ϱJ a c=true:=by
 rw[bG]at h H⊢;rcases h with h|h<;>rcases H with H|H
 .show Ð<|h.Å H
 .show Ø<|h.Å H
 .show Ø<|h.Å<|Uf rv H
 show Ð<|h.Å ?_;rw[H,hr]
def lx(hr:ϯj){a b:Nat}(h:ϱJ a b=true):ϱJ b a=true:=by
 rw[bG]at h⊢;rcases h with h|h
 .show Ð h.Ï
 show Ø ?_;rw[h,hr]
def An{W:Ò}{j p:Nat}(q:ύL)(h:∀k∈W,ϱJ k j=true->q k=true):϶3 (W.Û q) j p=϶3 W j p:=by
 erw[tot];show sum_filter _ _ _ λk H e=>?_;let n:¬ϱJ k j=true:=λz=>by rw[h k H z]at e;cases e
 rw[bG,not_or]at n;rw[P3 n.1,P3 n.2];rfl
def MK(hr:ϯj)(l:∀a b,ϱJ a b=true->Ã (R a)=Ã (R b)){W:Ò}{g j:Nat}(h:ϱJ j g=true)(C:όe W g):όe W j:=by
 ext p P;rw[l j g h]at P;rw[bG]at h;rcases h with h|h
 .let e:϶3 W j p=϶3 W g p:=by erw[tot];rw[h]
  rw[e];show C p P
 let e:϶3 W j p=϶3 W g (Ã (R g)-1-p):=by
  erw[tot];show ϐN<|K8u λk K=>?_;rw[h,hr];cases c:fo k=rv (fo g)
  .let L:=l k g<|bG.ó<|Ø c
   let e1:ϬZ p=gI (Ϩ (R k)) (Ã (R g)-1-p):=by
    erw[gI];rw[Zaw Á]
    congr 2
    lia
   cases H:fo k=fo g
   .let E:gI (Ϩ (R k)) p=ϬZ (Ã (R g)-1-p):=by
     erw[gI];rw[Zaw Á]
     congr 2
     lia
    rw[Os c,ϱT,ϱT,Os c,e1,E];lia
   rw[Os c,ϲb,ϲb,Os c,e1];lia
  cases H:fo k=fo g
  .let L:=l k g<|bG.ó<|Ð H
   let E:gI (Ϩ (R k)) p=ϬZ (Ã (R g)-1-p):=by
    erw[gI];rw[Zaw Á]
    congr 2
    lia
   rw[P3 c,ϱT,ϱT,P3 c,E];lia
  rw[P3 c,ϲb,ϲb,P3 c]
 rw[e];show C _ Á
inductive Calm(fo:Nat->Fm)(rv:Fm->Fm)(R:Nat->À Int):Ú Ò
 |nil:όf []
 |cons {w:Nat} {W:Ò}:όe (Β λk=>ϱJ k w) w->όf (Β λk=>! ϱJ k w)->όf ϸE
def K4(hr:ϯj)(l:∀a b,ϱJ a b=true->Ã (R a)=Ã (R b)):∀(m:Nat)(W:Ò),W.À<=m->(όf W↔∀j∈W,όe W j):=by
 ext m
 induction m with
 |zero=>
  ext W h;let:W=[]:=Zas Á;subst this;show(ϘX,Ţ õ)
 |succ m ih=>
  ext W h;cases W with
  |nil=>show(ϘX,Ţ õ)
  |cons w W=>
   let B:Ã (Β λk=>! ϱJ k w)<=m:=by
    rw[Zbb<|Ô lA K9o];let:=K8i (λk=>! ϱJ k w) W;rw[K9p]at h;lia
   let i:=ϲ2 B;let tA:∀{j:Nat},ϱJ j w=true->∀p,϶3 (Β λk=>ϱJ k w) j p=϶3 ϸE j p:=fun{j} J p=>An _ λk x K=>rel_trans hr K J;let tB:∀{j:Nat},ł (ϱJ j w)->∀p,϶3 (Β λk=>! ϱJ k w) j p=϶3 ϸE j p:=fun{j} J p=>An _ λk x K=>by
    cases e:rel fo rv k w with|false=>rfl|true=>rw[rel_trans hr (lx hr K) e]at J;cases J
   constructor
   .intro C j J
    cases C with
    |cons h1 h2=>
     cases e:rel fo rv j w with|true=>ext p H;rw[<-tA e];show MK hr l e h1 p H|false=>ext p H;rw[<-tB e];show i.mp h2 j (ϳy ⟨J,ϒT⟩) p H
   ext J;show ą (λp H=>?_)<|i.ó λj c p H=>?_
   .rw[tA<|lA w]
    show J w K9z p H
   let(M,Q):=K89.mp c;rw[tB<|ť Q];show J j M p H
end
theorem IE{e:å}(f:F):∀(a m:Nat)(P p:Int)(n:Nat),ν=ϯq->F.Eld e P f->P<ϑ->
  ϬY=Ê ν λk=>((if e k=P then p else Ŵ+(e k-ϑ)),k):=by
 induction f with
 |nil=>ext a m P p n _ _ _;rfl
 |cons k c r ihc ihr=>
  ext a m P p n b he d;let(e1,g,G):=he;let R:k::(Φ++Ϻa)=ϯq:=b;cases m with
  |zero=>cases R
  |succ m=>
   rw[Zco]at R;let(K,h):=K8B R;subst K;let l:Ã Φ+Ã Ϻa=m:=ϮB (Ż h) K9v K93
   let S:ϥq (k+1) m=ϥq (k+1) ((Ã Φ))++ϥq (k+1+Ã Φ) ((Ã Ϻa)):=by rw[<-l];let:=List.range'_append (s:=k+1) (m:=(Ã Φ)) (n:=(Ã Ϻa)) (step:=1);rw[Nat.one_mul]at this;show this.Ï
   rw[S]at h;let(C,hr):=Zer h (ϰT K93);let i:=ihc (k+1) _ ë Ŵ (n+1) C g Á;let I:=ihr (k+1+Ã Φ) _ P p (n+1+Ã Φ) hr G Á;change(p,k)::(lS c Ŵ (n+1)++lS r p (n+1+Ã Φ))=_;rw[i,I,ϸd (ϝ ϑ0) (k::(Φ++Ϻa)),K9w,K9i,e1,Ĝ]
   congr 2
   .apply K8u ϨT
    let ge:=F.Bs c ë g (λx X=>by
     rw[C]at X;let:=List.mem_range'.mp X
     lia) q H
    rw[P3<|ê (¬e q=P)];cases Z:e q=ë
    .rw[Os Z,Z]
     congr 1
     lia
    rw[P3 Z]
    congr 1
    lia
   show K8u ϨT;cases Z:e q=P
   .rw[Os Z,Os Z]
   rw[P3 Z,P3 Z]
   congr 1
   lia
noncomputable instance decF:DecidableEq F:=λa b=>Classical.propDecidable<|a=b
namespace F
def BY(h:ņ)(f:F):mir (ϴd f)=ϴd Ϲ1:=by
 induction f with
 |nil=>rfl
 |cons k c r ihc ihr=>
  change app (mir<|ϴd r) (cons (h k) (mir<|ϴd c) nil)=ϴd ϏC;rw[C9,ihc,ihr];rfl
end F
def B2(f:F):À ϰj:=Ê (lS f (-1) 0) λx=>(x.1,Ì x.2)
def UW(ts:À Nd)(f:F):Uw ts f=B2 (ϱX f):=by
 erw[Uw,B2];rw[Qs,S1];show ϻ6 ?_;change(x.1,Ļ x.2)=(x.1,ä (Ϻg x.2))
 rw[RX]
def Np{f g:F}(h:B2 f=B2 g):f=g:=by
 show sN f g (-1) 0 Ý ?_;let H:=Ϲq (λx:ϰj=>(x.1,ĩ x.2)) h;erw[B2]at H;rw[S1,S1]at H;let e:((λx:ϰj=>(x.1,ĩ x.2))∘λx:ϬD=>(x.1,Ì x.2))=id:=by
  funext x;rfl
 rw[e,Zdu,Zdu]at H;show H
def Df(f g:F):Õ (B2 f=B2 g)=Õ (f=g):=by
 cases h:f=g
 .rw[Z8 h,Z8 ύI]
 rw[ϷA,ϧ9 Np]
def yH{s:À Nd}{d:F}(p:PT s d):shp s=B2 (ϳE (rN s) ϨH):=by
 rw[<-UW];erw[Uw];rw[IE (e:=Z4 s) ϨH 0 s.À (-1) (-1) 0 (Ĥ p.ğ K7s) p.eldF Ý,p.preF,S1];erw[shp];apply K9K;ext i;rw[N2,N2];cases hi:i<s.À
 .obtain⟨n,h⟩:ϰ6 ϵT:=ϓe (s[i])
  rw[h,ϴj,Zbe,Zbe];let e1:Z4 s i=n.e:=ϴx;let g:gv (ay s) i=rc n:=ϗW
  change Â (n.e,rc n)=Â ((Ë (Z4 s i=-1) (-1:Int)<|ä 0+(Z4 s i-ä 0)),gv (ay s) i);rw[e1,g];congr 2
  split<;>lia
 rw[K9c Á,K9c<|Ă Z7];rfl
def B1{s:À Nd}{d:F}(p:PT s d){k:Nat}(h:k<s.À):rN (aR s d) (F.g d k)=rN s k:=by
 let H:=p.at_g h;let a:(aR s d)[F.g d k]?=Â ⟨F.gi d (cw s k).e,(cw s k).l,(cw s k).t⟩:=ϘT
 erw[rN,gv,ay];rw[N2,N2,a,yR h];rfl
def J7{s:À Nd}{d:F}(p:PT s d):shp (aR s d)=B2 (ϵZ<|ϳE (rN s) ϨH):=by rw[yH ϶O,F.xX,F.BY,map_two (k:=rN s)];ext q h;let h:=p9 h;rw[p.preF,K9G]at h;show B1 p h
structure NF(ts:À Nd)(a:Nat)(f:F):Prop where
 ch:Å a=ϸe
 con:ϳI Å f
 lt:∀k∈ν,Ć
 len:ϱ0 (Ã ν)
 bough:∃d,PT (ϭb a) d/\ϳE (rN<|ϭb a) ϨH=ϱX (ϔH f F.nil)
def Ra{ts:À Nd}{c:F}(p:ç){j:Nat}(J:ϰg):∃f,NF ts j f:=by
 obtain⟨r,hr⟩:ϰ6 (ę ts):=⟨ts[j]' Á,Û⟩
 let(C,s,b,d,t,g,u,v):=F.xI (e:=Ĩ) ϥC 0 ts.À (-1) (Ĥ p.ğ K7s) p.eldF p.con Ý j Á Á;rw[K87]at t g;let ge:=F.Bs C Ĵ d (λk m=>by rw[b,Zbi]at m;lia);let at1:∀k,ϷY[k]?=ts[ϤA]?:=λk=>K84
 let a:Ã ϲy=s:=Ga _ _ s (Ă K8y) (λk K x H=>by
  rw[at1]at H;let:=ge ϤA (by rw[b,Zbi];lia)
  rw[bL H]at this;show Z8 this) (λx H=>by
  rw[at1]at H;let L:=ϹB;let:=g L;rw[bL H]at this;show K9q Á)
 let B:ϳt=ϧC::(ϲy).map Ϧq:=ű cx hr
 let bl:Ã ϳt=s+1:=by rw[B,K9p,K0,a]
 let tk:ϲy=Ł ϷY s:=by let:=όB (l:=ϷY);rw[List.prefix_iff_eq_take.mp this,a]
 let row:∀k,k<s->∀x,ts[ϤA]?=Ď->ϳt[k+1]?=Â (Ϧq x):=λk K x H=>by rw[B,tk,Zbs,N2,K97 K,at1,H];rfl
 let E:∀k,k<s->Z4 ϳt (k+1)=Ĩ ϤA-j:=λk K=>by
  obtain⟨x,H⟩:ϰ6 (ts[ϤA]?):=⟨ts[ϤA]' Á,Û⟩
  rw[bL H,bL<|row k K x H];rfl
 let P:PT ϳt (ϳE ϩ8 C):=by
  show(?_,?_,?_)
  .rw[F.vq,b,bl,K7s,Zco]
   congr 1
   apply K9K;ext i;rw[N2];cases hi:i<s
   .rw[Zey hi,Zey hi]
    simp;lia
   rw[K9c (Ă K93),K9c<|Ă K93];rfl
  .rw[B]
   rfl
  let:=F.EE (e:=Ĩ) (e':=Z4 ϳt) (h:=ϩ8) (hi:=λz=>z-j) Ĵ C (λk m=>by
   rw[b,Zbi]at m;show(?_,Á);let:=E (k-j-1) Á;rw[ê (ϑl (k-j)),ê (j+1+(k-j-1)=k)]at this
   show this) d
  rw[Int.sub_self]at this;show this
 show(C,v,u,λk K=>?_,?_,_,P,?_)
 .rw[b,Zbi]at K
  lia
 .rw[b,K93]
  lia
 let o:F.full (ϳE ϩ8 C)=ϳE ϩ8 (F.cons j C F.nil):=by
  change ϻM 0 (ϳE ϩ8 C)=ϻM (j-j) (ϳE ϩ8 C);rw[K8c]
 rw[o];show map_two (k:=Ϻg) _ ϸf;let Q:q=j\/q∈F.pre C:=by
  let:q∈j::(F.pre C++ϝ F.nil):=Q;rcases K8v.mp this with h|h
  .show Ð h
  rcases K9Y.mp h with h|h
  .show Ø h
  cases h
 erw[rN,gv,ay];rw[N2,N2];rcases Q with rfl|Q
 .rw[K8c,B,hr]
  rfl
 rw[b,Zbi]at Q;obtain⟨x,H⟩:ϰ6 (ts[q]?):=⟨ts[q]' Á,Û⟩
 let:=row (q-j-1) Á x (Ϩg<|ê (j+1+(q-j-1)=q));rw[ê (ϑl (q-j))]at this;rw[this,H];rfl
def nf(ts:À Nd)(a:Nat):F:=open Classical in ϩo (∃f,NF ts a f) ϬI F.nil
def qR{ts:À Nd}{c:F}(p:ç){a:Nat}(A:ϳh):NF ts a ϶l:=by erw[nf];rw[dif_pos<|Ra p A];show Zab<|Ra p A
def fo(ts:À Nd)(a:Nat):F:=ϱX<|ϔH ϶l F.nil
def R9{ts:À Nd}{c:F}(p:ç)(h:Ź)(a:é){i j:Nat}(hi:ϫP)(J:ϰg):
  fE [Ï è,Ä i,Ä j]=þ (Ą [ã<|Õ<|ϰc i=ϰc j,ã<|Õ<|ϰc i=ϵZ (ϰc j)]):=by
 let(d,pi,s):=(qR p hi).bough;let(D,P,E):=(qR p J).bough;rw[O9 ts h a i j hi J D P,yH pi,yH P,J7 P,s,E,Df,Df];rfl
def FO{ts:À Nd}{c:F}(p:ç){a b:Nat}(A:ϳh)(B:ϵm)(h:ϥp ϰc F.mir):Ã (Å a)=Ã (Å b):=by
 let e1:=(qR p A).ch;let g:=(qR p B).ch;let M:ϲw (Ã (ϲS<|ϱX f)=Ã ϸe):=λf=>Ĥ F.jQ K0
 rcases bG.mp h with h|h
 .let h:ϻM (Ϻg a) (ϱX ϶l)=ϻM (Ϻg b) (ϱX<|nf ts b):=h
  injection h with d H e
  rw[e1,g,<-M ϶l,H,M]
 let h:ϻM (Ϻg a) (ϱX ϶l)=ϻM (Ϻg b) (ϵZ<|ϱX<|nf ts b):=h;injection h with d H e
 rw[e1,g,<-M ϶l,H,F.nN,Zax,M]
def fk(ts:À Nd):Ò:=ž ϳR λk=>Õ<|Ì 1<Ì ((Ã (Å k)))
def cZ{ts:À Nd}{k:Nat}(h:k∈č):Ć:=Ϸw (ώv).1
def wz(ts:À Nd):ϱ0 (Ã č):=ϱD (K8i (λk=>Õ<|Ì 1<Ì ((Ã (Å k)))) ϳR) Z7
def xU(L:Ò):ß L.Ç ((ϰU (Đ<|Ä ë))) OD.er=nD L:=by rw[S1];erw[nD,iL];rw[S1];show Ϥ4
def zE(ts:À Nd)(a:é):kn [Ï è]=ģ (ß fk ts (ϰU (Đ<|Ä ë))):=by
 erw[kn,yO];let s:Ι ((Ì ts.À)):=Ŕ Á;simp![aH,s];generalize w:Į=rc
 let e:=iS w (ϳk<|0+ë) (λk=>Õ<|Ì 1<Ì ((Ã (Å k)))) (ϰU<|Ñ ë) ϳR (ϣ K9n) (Ô Z7<|K94<|aF Á) (by
  ext k h;let c:=eA ts k (K9G.mp h) a;show(?_,Ţ ?_)
  .rw[K8R]
   simp![c,iP,eF]
  rw[K8R]
  simp![S5])
 subst e;simp![S5];rfl
def Pi(ts:À Nd)(a:Nat):ώw:=if ϳh then Â (ϰc a)else none
def Tl(x:ώw):ώw:=x.Ç F.mir
def fL(x:ώw):Tl (Tl x)=x:=by
 cases x with
 |none=>rfl
 |some f=>
  change Â (ϵZ<|F.mir f)=some f;rw[F.HP]
def dQ{ts:À Nd}{a:Nat}(h:ϳh):ü a=Â (ϰc a):=ϰo
def Km{ts:À Nd}{a b:Nat}(A:ϳh)(B:ϵm):Õ (ϰc a=ϰc b)=Õ (ü a=ü b):=by
 rw[dQ A,dQ B];cases h:ϰc a=ϰc b
 .rw[Z8 h,Z8 ύI]
 rw[ϷA,ϧ9 K9R]
def TQ{ts:À Nd}{a b:Nat}(A:ϳh)(B:ϵm):Õ (ϰc a=ϵZ (ϰc b))=Õ (ü a=Tl (ü b)):=by
 rw[dQ A,dQ B];change _=Õ (Â (ϰc a)=Â (ϵZ<|ϰc b));cases h:ϰc a=ϵZ (ϰc b)
 .rw[Z8 h,Z8 ύI]
 rw[ϷA,ϧ9 K9R]
def lkB(ts:À Nd)(w k:Nat):Bool:=Õ<|ü k=ü w
def mrB(ts:À Nd)(w k:Nat):Bool:=Õ<|ü k=Tl (ü w)
def Nf(ts:À Nd)(k w:Nat):ŋ=(ϴR k||ϴS k):=rfl
def memD(ts:À Nd)(w k:Nat):Gc:=Ą [Ä ë,ã<|ϴR k,ã<|ϴS k]
def gsF(ts:À Nd):Nat->Ò->À (Nat×Ò)|0,_=>[]|_+1,[]=>[]|m+1,w::W=>(w,Β λk=>ŋ)::ŏ m (Β λk=>! ŋ)
def gsF'{ts m w W}:ŏ (m+1) ϸE=((w,Β λk=>ŋ)::ŏ m (Β λk=>! ŋ)):=rfl
def rq(ts:À Nd)(w:Nat)(W:Ò):Ã (Β λk=>! ŋ)<=W.À:=Ô (Zbb<|Ô lA K9o) ώx
def Og(ts:À Nd):∀(m n:Nat)(V:Ò),όL->V.length<=n->ŏ m V=ŏ n V:=by
 ext m
 induction m with
 |zero=>
  ext n V h H;let:V=[]:=Zas Á;subst this;cases n<;>rfl
 |succ m ih=>
  ext n V h H;cases V with
  |nil=>cases n<;>rfl
  |cons w W=>
   rw[K9p]at h H;obtain⟨N,rfl⟩:∃N,n=N+1:=⟨n-1,Á⟩
   let dl:=ύM;rw[gsF',gsF',ih N _ Á Á]
def gsD(ts:À Nd)(G:À (Nat×Ò)):À Gc:=G.Ç λx=>Ï<|Ê x.2<|memD ts x.1
def AN(ts:À Nd){c:F}(p:ç)(h:Ź)(l:é):cS [Ï è]=.ok (Ę<|ϹZ<|ŏ ((Ã č)) č):=by
 erw[cS,lB];let fl:=wz ts;simp![zE ts l,xU];generalize i:ϩc=r;apply sP i (λm a=>∃(V:Ò)(G:À (Nat×Ò))(v:Ü OD),V.length=m/\(∀k∈V,Ć)/\ϱ0 (G.À+V.length)/\G++ŏ V.length V=ŏ ((Ã č)) č/\a=[â è,some<|Ę<|ϹZ G,â<|nD V,v])
  (Ã č) ⟨č,[],_,rfl,ϲ1 (cZ H),Ă K8U,rfl,rfl⟩
  (λa=>∃b v:Ü OD,a=[â è,some<|Ę<|ϹZ<|ŏ ((Ã č)) č,b,v]) ?_ ?_
 .rintro m a ⟨V,G,v,hm,hV,hG,ho,rfl⟩
  cases V with
  |nil=>
   left;rw[ϸd (ŏ ((Ã ([]:Ò))) []) [],K9d]at ho;subst ho;show(by simp![eF],_,_,rfl)
  |cons w V=>
   right;let W:=hV w K9z;let dl:=rq ts w V;let g:ŏ ((Ã (w::V))) (w::V)=(w,ž (w::V) λk=>ŋ)::ŏ (ž (w::V) λk=>! ŋ).length (ž (w::V) λk=>! ŋ):=by rw[K9p,gsF',Ϝg ì]
   let u:atI (nD<|w::V) (Ì 0)=Â (Ä (w:Int)):=by erw[nD,iL];show ϭg
   let ul:Ã (w::V)=V.length+1:=rfl;rw[ul]at hG hm;generalize w::V=U at hV dl g u ul ho;let D:Õ (Ì 0<Ì U.À)=true:=Z8 Á;show(by simp![eF,D],?_);let B:ϱK (Ã (ϹZ G)):=by erw[gsD];rw[K0];show c8 Á
   simp![S5];generalize C:Į=rc
   let e:=aS C (ϳk ë) (ϦD<|϶g k) U Ϯj (K94<|aF Á) (by
    ext k H;let L:=R9 p h l (hV k H) W;rw[Km (hV k H) W,TQ (hV k H) W]at L;let N:(ϵa [int ë])=True:=ϸC Û;let n:∀x y:Gc,(ϵa ϶K)=True:=λx y=>ϸC Û
    simp![u,L,Ta,N,n];rfl)
   subst e;clear C;let E:ß U.Ç (λk=>Đ<|϶g k) OD.er=U.Ç ϶g:=Ô S1 Ϥ4
   simp![E];generalize C:Į=rc
   let e:=iS C ϶g (λk=>ŋ) (ϦD<|϶g k) U rfl (K94<|aF Á) (by
    ext k H;rw[Nf];show(?_,Ţ ?_)
    .cases h1:lkB ts w k<;>simp![memD,h1]<;>rfl
    simp![S5])
   subst e;clear C;let d:(ß U.Û (λk=>ŋ) λk=>Đ<|϶g k).map OD.er=ß U.Û (λk=>ŋ) ϶g:=Ô S1 Ϥ4
   let f:Ê (ϹZ G) OD.sh++[OD.sh<|Ï<|ß U.Û (λk=>ŋ) ϶g]=(ϹZ<|G++[(w,U.Û λk=>ŋ)]).map OD.sh:=ϰZ gsD K9i K9i
   simp![d,B,f];generalize C:Į=rc
   let e:=iS C ϶g (λk=>! ŋ) (ϰU<|Ñ ë) U rfl (K94<|aF Á) (by
    ext k H;rw[Nf];show(?_,Ţ ?_)
    .cases h1:lkB ts w k<;>cases h2:mrB ts w k with|_=>simp![memD,h1,h2]<;>rfl
    simp![memD])
   subst e;clear C;simp![xU];show(_,Á,U.Û λk=>! ŋ,G++[(w,U.Û λk=>ŋ)],_,rfl,ϲ1 (hV k (K89.mp H).1),?_,?_,rfl)
   .rw[K9v,K9e]
    lia
   rw[<-ho,K9M,g];rfl
 ext ρ' rfl ⟨b,v,rfl⟩;simp![S5]
open Lp (pA sm)
def szN(ts:À Nd)(j:Nat):Nat:=Ã ϲy+1
def DR{ts:À Nd}{c:F}(p:ç){j k:Nat}(h:k∈Å j):ϰL k<ϰL j:=by
 let he:=ľ;let g:=ϋ h;let J:ϰg:=Á
 let(s,e1,e,f,Q):=xJ p J;let(S,a,b,q,d):=xJ p g.2;let(l,H):=FK he (j:=k) (s:=S) Á q (k+S) Á ì;let(c1,L):=bh.mp h;let O:=Q k c1 Á Á;let:=F8 he Q Á O.2 H;erw[szN];lia
def zU{ts:À Nd}{c:F}(p:ç){u v:Nat}(H:϶4)(V:u<v)(e:ϒ u=ϒ v){a b:Nat}(A:Ĩ u=ϑ)(B:Ĩ v=ϩA):a<=b:=by
 let he:=ľ;let m:u∈Å a:=ϸK ⟨Á,A⟩;let M:v∈Å b:=ϸK ⟨H,B⟩;let g:=ϋ m;let gv:=ϋ M;let U:=ϳF m;let lv:=ϳF M;cases h:u<=b
 .lia
 let(s,e1,Q,k,q):=xJ p (j:=b) Á;let O:=q v H Á Á;let(l,d):=FK he (j:=b) (s:=s) Á k u Á Á;let:=ϷC Á d;let L:l=1:=Á
 subst L;let(G,C,d):=d;let d:u=G:=d;subst d;let:=(bh.mp C).2;lia
def sgn(a p:Nat):Int:=Ë (p<a) 1 (-1)
def iU(a:Nat):Ò->Nat->À Int->À Int|[],_,row=>row|k::ks,p,row=>ϖz<|ϧr<|Ō k+ϱ7 p
def iU''{a w0 row}:iU a [] w0 row=row:=rfl
def iU'{a k ks p row}:iU a (k::ks) p row=(ϖz<|ϧr<|Ō k+ϱ7 p):=rfl
def Eg(a:Nat):∀(s:Ò)(p:Nat)(row:À Int),Ã ϥb=row.À:=by
 induction _ with|nil=>ext _ _;show rfl|cons k s N3=>ext p row;rw[iU',N3,K8z]
def wj{row:À Int}{k:Nat}(h:όd)(v:Int)(j:Nat):Ņ (ϧr v)=if j=k then v else Ō j:=by
 erw[pA];cases e:j=k
 .subst e
  rw[K9I h,Ĝ];rfl
 rw[K9E ϩX,ϲs]
def dot(n:Nat)(x:å)(row:À Int):Int:=ĳ (λk=>Ō k*x k)
def HZ{n:Nat}{x:å}{row:À Int}{k:Nat}(K:k<n)(hr:row.À=n)(d:Int):ϬJ (ϧr<|Ō k+d)=ϬJ row+d*x k:=by
 erw[dot];let e:(λj=>Ņ (ϧr<|Ō k+d)*x j)=λj=>1*(Ō j*x j)+d*(Ë (j=k) (x k) 0):=by
  funext j;rw[wj Á];cases h:j=k
  .rw[ϰo,ϰo,h,Zbq,Zaq]
  rw[ϱB,ϱB,Zaa,Zaq,Zak]
 rw[e,Lp.kH,Lp.c7 (l:=k) n K λi x H=>ϲb,Ĝ,Zaq]
def eP(x:å)(a:Nat):Ò->å|[],_=>0|k::ks,p=>ϱ7 p*x k+ϴ9 a ks (p+1)
def eP''{x a w0}:ϴ9 a [] w0=0:=rfl
def eP'{x a k ks p}:ϴ9 a (k::ks) p=(ϱ7 p*x k+ϴ9 a ks (p+1)):=rfl
def Oe{n:Nat}{x:å}(a:Nat):∀(s:Ò)(p:Nat)(row:À Int),row.À=n->(∀k∈s,k<n)->ϬJ ϥb=ϬJ row+ϵx p:=by
 induction _ with
 |nil=>ext p row _ _;rw[iU'',eP'',Zak]
 |cons k s N3=>
  ext p row hr h;rw[iU',N3 (p+1) _ (Ô K8z hr) λq H=>h q<|ě H,HZ (h k K9z) hr,eP];lia
def Vz(x:å):∀(s:Ò)(a p:Nat),όg<=a->ϵx p=(s.Ç x).sum:=by
 induction _ with
 |nil=>ext _ _ _;show rfl
 |cons k s N3=>
  ext a p h;rw[K9p]at h;rw[eP',ϔI Á,K9w,Zap];erw[sgn];rw[Os Á,Zaq]
def EX(x:å):∀(s:Ò)(a p:Nat),a<=p->ϵx p=-(s.Ç x).sum:=by
 induction _ with
 |nil=>ext _ _ _;show rfl
 |cons k s N3=>
  ext a p h;rw[eP',ϔI Á,K9w,Zap];erw[sgn];rw[P3 Á];lia
def vI(x:å):∀(s:Ò)(a p q k:Nat),a=p+q->s[q]?=Ş->ϴ9 (a+1) s p=ϵx p+2*x k:=by
 induction _ with
  |nil=>
   ext _ _ _ _ _ h
   simp at h
  |cons k0 s ih=>
   ext a p x12 k ha h
   cases x12 with
    |zero=>
     let h:k0=k:=ϱY
     subst h;let e1:ϴ9 (a+1) s (p+1)=ϵx (p+1):=by rw[EX x s (a+1) (p+1) Á,EX x s a (p+1) Á]
     rw[eP',eP',e1];erw[sgn];rw[Os Á,P3 Á];lia
    |succ q=>
     let h:s[q]?=Ş:=ϱY
     rw[eP',eP',ih a (p+1) q k Á h];erw[sgn];rw[Os Á,Os Á];lia
def eN(ts:À Nd)(k:Nat):Nat:=(ĩ (Ĩ k))
def aN(ts:À Nd)(k:Nat):Nat:=(Å<|ý k).idxOf k
def spF(ts:À Nd)(NU:Nat->Ò)(n:Nat):Nat->À (À Int)|0=>[]|i+1=>ω NU n i++[Ë (i=0) (όx 0) (iU (Ÿ i) (NU<|ý i) 0 (Ó ((ω NU n i)[ý i]?) []))]
def spF'{ts NU n i}:ω NU n (i+1)=(ω NU n i++[Ë (i=0) (όx 0) (iU (Ÿ i) (NU<|ý i) 0 (Ó ((ω NU n i)[ý i]?) []))]):=rfl
def mQ(ts:À Nd)(NU:Nat->Ò)(n:Nat):∀i,Ã (ω NU n i)=i:=by
 induction _ with|zero=>show rfl|succ i N3=>rw[spF',K9v,N3,K9e]
def UH(ts:À Nd)(NU:Nat->Ò)(n:Nat){k:Nat}:∀i j,k<i->i<=j->ϫ (ω NU n j)=ϫ (ω NU n i):=by
 ext i j h I
 induction j with
 |zero=>lia
 |succ j ih=>
  cases e:i=j+1
  .rw[e]
  rw[spF',K9V<|Ă mQ];show ih Á
def spt(ts:À Nd)(NU:Nat->Ò)(n:Nat)(k:Nat):À Int:=Ó (ϫ<|ω NU n ts.À) []
def zf{ts:À Nd}{NU:Nat->Ò}{n k i:Nat}(hi:i<=ts.À)(h:k<i):Ó (ϫ<|ω NU n i) []=϶e NU k:=ű spt (UH ts NU n i ts.À h hi)
def qK{ts:À Nd}{NU:Nat->Ò}{n:Nat}(a:Č 0):϶e NU 0=όx 0:=by
 rw[<-zf (i:=1) Á Á];rfl
def bM{ts:À Nd}{NU:Nat->Ò}{n k:Nat}(he:ĕ)(a:0<k)(H:Ć):϶e NU k=iU (Ÿ k) (NU<|ý k) 0 (϶e NU<|ý k)/\ý k<k/\Ĩ k=Ì (ý k):=by
 obtain⟨nd,h⟩:∃nd,ϸG=Â nd:=⟨ts[k],ϫ6⟩
 let q:=he k nd h;rw[<-ϴx]at q;let e:ý k<k:=Ϩr eN
 show(?_,e,Ϩr eN);rw[<-zf (i:=k+1) Á Á,spF',K9a (Ô mQ<|N4 k),mQ,K8c,P3 Á];change iU _ _ _ _=_;rw[zf Á e]
def gR{ts:À Nd}{NU:Nat->Ò}{n:Nat}(he:ĕ):∀k,Ć->Ã (϶e NU k)=n:=by
 ext k
 induction k using Nat.strongRecOn with
 |ind k ih=>
  ext H;cases h:k=0
  .subst h
   rw[qK H,K8r]
  let(e1,g,_):=ϯy NU Á H;rw[e1,Eg];show ϲ2 g Á
def plc(ts:À Nd)(NU:Nat->Ò)(n:Nat)(x:å)(k:Nat):Int:=ϬJ<|϶e NU k
def DM{ts:À Nd}{NU:Nat->Ò}{n:Nat}{x:å}(a:Č 0):ξ NU n x 0=0:=by
 erw[plc,dot];rw[qK a];show Lp.cJ n λi x=>by erw[pA];rw[K8Z];split<;>show Zam _
def pY{ts:À Nd}{NU:Nat->Ò}{n:Nat}{x:å}(he:ĕ)(h:ϙR){k:Nat}(a:0<k)(H:Ć):ξ NU n x k=ξ NU n x (ý k)+ϴ9 (Ÿ k) (NU<|ý k) 0:=by let(e1,g,_):=ϯy NU a H;erw[plc];rw[e1,Oe _ _ _ _ (ϹN Á)<|h _]
def JJ(ts:À Nd)(q:Nat):(Å q).Nodup:=ϵp F5 (K8C.Û _)
def nB{ts:À Nd}{e a c:Nat}(he:ĕ)(h:(Å e)[a]?=ī):ý c=e/\Ÿ c=a/\0<c/\c<ts.À:=by
 let m:=϶w;let(c1,L):=bh.mp m;let g:=ϋ m;let e1:ý c=e:=Ϩr eN
 show(e1,?_,Á,c1);erw[aN];rw[e1];let lt:=ϲG;let C:(Å e)[a]=c:=(ZB.mp h).2;rw[<-C];show(JJ ts e).idxOf_getElem a lt
def kW{ts:À Nd}{NU:Nat->Ò}{n:Nat}{x:å}(he:ĕ)(N:ϙR){e a c:Nat}(h:(Å e)[a]?=ī):ξ NU n x c=ξ NU n x e+ϴ9 a (NU e) 0:=by let(H,b,f,d):=ϺG h;rw[pY he N f d,H,b]
def iB{j:Key}(h:p.1=j):gE (p::r) j=Â p.2:=ϰZ gE K8p (Z8 h)
def iJ{j:Key}(h:¬p.1=j):gE (p::r) j=gE r j:=χ gE K8p ϷA
def MW(k j:Key)(y:Gc):∀Fv:À Ο,gE (Ϯf (v.1,y)) j=Ê (ϸB j) λx=>if j=k then y else x:=by
 ext Y
 induction Y with
 |nil=>show rfl
 |cons p r N3=>
  let i:=N3;rw[K9w];cases e:p.1=j
  .by_cases h:p.1=k
   .rw[ϰo,iB (p:=(p.1,y)) e,iB e,Zbe,Os<|e.Ñ h]
   rw[ϱB,iB e,iB e,Zbe,ϱi (h<|ϭG z)]
  cases h:p.1=k
  .rw[ϰo,iJ (p:=(p.1,y)) e,iJ e,i]
  rw[ϱB,iJ e,iJ e,i]
def Dq(k:Key):∀Fv:À Ο,(Fv.ě λv=>Õ ϴg)=(ϸB k).isSome:=by
 induction _ with
 |nil=>show rfl
 |cons p r N3=>
  rw[K81];cases e:p.1=k
  .rw[Z8 e,iB e]
   rfl
  rw[K9q e,iJ e,Bool.false_or,N3]
def JK(k j:Key)(y:Gc):∀Fv:À Ο,ϸB k=none->gE (Fv++[(k,y)]) j=Ë (j=k) ϰO (ϸB j):=by
 ext Y
 induction Y with
 |nil=>
  ext _;cases e:k=j
  .rw[Os e.Ï];show iB (p:=(k,y)) e
  rw[ϱi (e z.Ï)];show iJ (p:=(k,y)) e
 |cons p r N3=>
  ext n;rw[K92];let h:¬p.1=k:=λz=>by rw[iB z]at n;cases n
  rw[iJ h]at n;let i:=N3 n;cases e:p.1=j
  .rw[iB e,iB e,ϱi (h<|ϭG z)]
  rw[iJ e,iJ e,i]
def MI(Fv:À Ο)(k j:Key)(y:Gc):gE (ϥN k y) j=Ë (j=k) ϰO (ϸB j):=by
 erw[putD];cases a:(Fv.ě λv=>Õ ϴg)=true
 .rw[Os a,MW]
  rw[Dq]at a;cases e:j=k
  .let(x,h):=Option.isSome_iff_exists.mp a
   rw[Os e,e,h,Zbe,Ĝ]
  rw[ϲs];cases gE Fv j with|none=>rfl|some x=>rw[Zbe,ϲs]
 rw[P3 a];show JK k j y Fv ?_;rw[Dq]at a;cases q:gE Fv k with|none=>rfl|some x=>rw[q]at a;show ϵb (a rfl)
def length_putD(Fv:À Ο)(k:Key)(v:Gc):Ã (ϥN k v)<=ώN 1:=by
 erw[putD];split
 .rw[K0];lia
 rw[K9v,K9p,K8U];lia
abbrev Tm:=Nat×Bool×Bool
def tmD(t:Tm):Gc:=Ą [Ä (Ì t.1),ã t.2.1,ã t.2.2]
def tgD(g:À Tm):Gc:=Ï Ϸ4
def wdS(ts:À Nd)(t:Tm):Nat:=Ã (Å t.1)-1
def mdS(ts:À Nd)(t:Tm)(p:Nat):Nat:=if Μ t.2.2 then min p (ϳ4-1-p)else p
def stL(ts:À Nd)(t:Tm)(c:Nat):Ò:=Ā ϳ4 λp=>c+ϸI t p
def mK(ts:À Nd)(t:Tm)(c:Nat):Ã (Ϸb c)=ϳ4:=χ stL K0 Z7
def RD(L:Ò):(L.Ç (ϰU (Đ<|Ä ë)))=Ê (aO L) OD.sh:=Ϗ aO S1
def yZ(ts:À Nd)(t:Tm)(c:Nat)(b:Č t.1)(a:2<=Ã (Å t.1))(l:é):cU [Ï è,tmD t,Ä Ϧb]=.ok (Ę<|aO<|Ϸb c):=by
 erw[cU,lO,tmD];let co:=eA ts t.1 b l;let cl:=uU ts t.1;let nl:=eF<|Å t.1;let s:Ι (Ì ((Ã (Å t.1)))-2+1):=Ŕ Á;let tn:ĩ (Ì ((Ã (Å t.1)))-2+1)=ϳ4:=Ϩr wdS
 let(w,U,m):=t;cases m with
 |true=>
  simp![co,iP,nl,s];generalize h:Į=rc
  let e:=aS h (ϳk<|0+ë) (λk=>Ñ<|(ä (c+ϸI (w,U,true) k))) (ϱQ ϑj) (ϣ tn) (by rw[Z7];erw[wdS];show K94<|aF Á) (by
   ext k H;let H:=ϹR;let W:ϑj=Ã (Å w)-1:=rfl;rw[K8R];let e1:(Ë (Ì ((Ã (Å w)))-2-ë<ë) (Ì ((Ã (Å w)))-2-ë) ë)=ä (ϸI (w,U,true) k):=by
    change _=ä (min k (ϑj-1-k))
    rw[W];let a:2<=Ã (Å w):=a;split<;>lia
   simp![e1];rw[Zcv])
  subst e;simp![S5];erw[stL];rw[<-RD,S1];rfl
 |false=>
  simp![co,iP,nl,s];generalize h:Į=rc;let e:=aS h (ϳk<|0+ë) (λk=>Ñ<|(ä (c+ϸI (w,U,false) k))) (ϱQ<|wdS ts (w,U,false)) (ϣ tn) (by rw[Z7];erw[wdS];show K94<|aF Á) (by ext k H;rw[K8R];simp![S5];rw[Zcv];rfl);subst e;simp![S5];erw[stL];rw[<-RD,S1];rfl
def oG(ts:À Nd)(t:Tm):Nat:=Ë (Μ t.2.2) ((ϳ4-1) / 2+1) ϳ4
def Kf{X:À Int}(h:ϵa X):lP [Ï όK]=.ok (Ñ<|jE X):=by
 cases X with|nil=>show Ϡ h|cons a as=>show E_ a as
def Uu{ts:À Nd}{t:Tm}(d:2<=Ã (Å t.1))(c:Nat):lP [Ï<|aO<|Ϸb c]=.ok (Ñ<|ä (c+ϴk t)-1):=by
 let e:aO (Ϸb c)=(Ê (Ϸb c) (ϰU ë)).map int:=Ϗ aO S1
 let w:1<=ϳ4:=by erw[wdS];omega
 let ne:(Ê (Ϸb c) (ϰU ë))≠[]:=λz=>by
  let:=Ż z;rw[K0,mK,K8U]at this;omega
 rw[e,Kf ne];let(a,Q):=c_ ne;generalize jE (Ê (Ϸb c) (ϰU ë))=M at a Q;show Uf (λz=>L3.R.ok<|Đ ϭD) ?_;let(k,H,rfl):=XV.mp a;erw[stL]at H;let(p,P,rfl):=Ϻb;let P:=Ϸw P;let mem:∀q,q<ϳ4->ä (c+ϸI t q)<=ä (c+ϸI t p):=λq b=>Q _<|ϲo ((ϲi (ϲo ⟨q,K9G.ó b,rfl⟩)));cases hm:t.2.2 with
 |true=>
  let h:=mem ((ϳ4-1) / 2) ϱI;erw[mdS,oG] at*;rw[Os hm]at h⊢;rw[Os hm]at h;rw[Os hm];omega
 |false=>
  let h:=mem (ϳ4-1) ϱI;erw[mdS,oG] at*;let m:¬Μ t.2.2:=ϓp hm
  rw[P3 m]at h⊢;rw[P3 m]at h;rw[P3 m];omega
def hd3(g:À Tm):Tm:=Ó (g[0]?) (0,false,false)
abbrev Tab:=Nat->Ü Ò
def ow(s:Ò):À Tm->Tab->Tab|[],T=>T|t::g,T=>ow s g λk=>Ë (k=t.1) (Â ϭ5) (T k)
def ow'{s t g T}:Ϻx (t::g)=(ow s g λk=>Ë (k=t.1) (Â ϭ5) (T k)):=rfl
def mW(ts:À Nd):À (À Tm)->ώy->ώy|[],r=>r|g::G,r=>ϥ1 (ow (ϵ6 r.2) g r.1,r.2+ϴk ϓ)
def mW'{ts g G r}:mW ts (g::G) r=(ϥ1 (ow (ϵ6 r.2) g r.1,r.2+ϴk ϓ)):=rfl
def Jb(s:Ò):∀(g:À Tm)(t:Tm)(T:Tab),Ϻx (g++[t])=λk=>Ë (k=t.1) (Â ϭ5) (Ϻx g k):=by
 induction _ with|nil=>ext t T;show rfl|cons a g N3=>ext t T;rw[K92,ow',N3 t,ow']
def A8(ts:À Nd):∀(G:À (À Tm))(g:À Tm)(r:ώy),mW ts (G++[g]) r=(ow (ϵ6 (ϥ1 r).2) g (ϥ1 r).1,(ϥ1 r).2+ϴk ϓ):=by
 induction _ with|nil=>ext g r;show rfl|cons a G N3=>ext g r;rw[K92,mW',N3 g,mW']
def nX(Fv:À Ο)(T:Tab):Prop:=∀k:Nat,ϸB (Ð ë)=Ê (T k) λl=>Ï<|aO l
def nX.put{Fv:À Ο}{T:Tab}(h:ϤO T)(j:Nat)(l:Ò):nX (ϥN (Ð Ĵ)<|Ï<|aO l) λk=>Ë (k=j) ϩ5 (T k):=λk=>by
 rw[MI];change _=Option.map (λl=>ϴO<|aO l) (Ë (k=j) ϩ5<|T k);cases e:k=j
 .rw[Os ϹU,Os e]
  rfl
 rw[ϱi (e<|by injection z with z;lia),ϲs];show h k
structure OkG(ts:À Nd)(G:À (À Tm)):Prop where
 ne:∀g∈G,ϵa g
 lt:ϒO (Č t.1/\2<=Ã (Å t.1))
 few:ϲv (Ϲa G.Ç)
def zK{g:À Tm}(h:ϵa g):ϓ∈g:=by
 cases g with|nil=>show Ϡ h|cons a r=>show K9z
def Mi(h:ϤJ=þ (Ï ds))(H:Ϫp=.ok (Ñ<|-1)):ύt ρ=ģ ϐp:=ϙe
def OA(l:Ò):Ϩ (aO l)=aO l.å:=ű aO Zdc
theorem F_(ts:À Nd)(g:À Tm)(s:Ò)(T:Tab)(Fv:À Ο)(x:ϤO T)(K:Ϯ6<=200)(v0 v1 b c:OD)(V a f:Ü OD):
  ∃v h j l,nX v (Ϻx g)/\v.À<=Ϯ6/\bZ (bY ς) (ϳ0<|ϳV 7<|Œ 8 9 bB) (Ϯk<|Rs<|ϭS<|Ϥ3<|ġ<|Ç 1)
   [Â v0,Â v1,ϧ,Â Ϸn,ī,â Ϸ4,â ϺH,V,a,f]=ų [Â v0,Â v1,ϧ,Â<|.od v,ī,â Ϸ4,â ϺH,h,j,l]:=by
 simp![S5];generalize u:Ŗ=r;show aX u (λi q=>∃(v:À Ο)(V a f:Ü OD),nX v (Ϻx<|g.Ö i)/\v.À<=Fv.À+i/\q=[Â v0,Â v1,ϧ,Â<|.od v,ī,â Ϸ4,â ϺH,V,a,f]) ⟨Fv,V,a,f,x,ì,rfl⟩ ?_ ?_
 .rintro i d q hd ⟨v,V,a,f,h1,h2,rfl⟩
  rw[N2]at hd;let(t,H,rfl):=ϹW;let hi:i<g.À:=ϹB;let L:ϱK v.À:=c8 Á;let tk:Ϻx (g.Ö<|i+1)=λk=>Ë (k=t.1) (Â ϭ5) (Ϻx (g.Ö i) k):=Ĥ ϓW Jb
  let p:=λy=>length_putD v (Ð (Ì t.1)) y;let(w,U,m):=t;let E:tmD (w,U,m)=Ą [Ä (w:Int),ã U,ã m]:=rfl;rw[E];cases U with
  |true=>
   simp![Fz,FV,L,K83];show(_,_,_,_,?_,?_,rfl)
   .rw[tk]
    show h1.put w s
   let:=p<|Ï ϺH;let e:((w,true,m):Tm).1=w:=rfl;rw[e]at this;lia
  |false=>
   let R:∀A n o:OD,Ϥ3 (ġ<|Ç 1) [Â v0,Â v1,ϧ,Â<|.od v,ī,â Ϸ4,â ϺH,some A,ϵL,Ö]=ģ (ύp ϺH OD.sh):=λA n o=>Mi ϻh ϻh;simp![↓R,aI,OA,Fz,FV,L,K83];show(_,_,_,_,?_,?_,rfl)
   .rw[tk]
    show h1.put w s.å
   let:=p<|Ï<|aO s.å;let e:((w,false,m):Tm).1=w:=rfl;rw[e]at this;lia
 ext ρ' rfl ⟨v,V,a,f,h1,h2,rfl⟩;rw[K0]at h1 h2;rw[K8D]at h1;show(v,V,a,f,h1,h2,rfl)
def nbB:Fs:=(ao (ϱ3<|Rs<|ϓ6<|È 0<|ae (Ù 5<|Ç 0)<|È 4 ai)
 (ao (bZ (bY ς) (ϳ0<|ϳV 7<|Œ 8 9 bB)<|Ϯk<|Rs<|ϭS<|Ϥ3<|ġ<|Ç 1)
 (ϰl<|ŗ (ϻK<|È 6 ai)<|Ç 1)))
def Qd(ts:À Nd)(L:é)(g:À Tm)(ne:ϵa g)(H:Č (ϓ).1/\2<=Ã (Å (ϓ).1))(T:Tab)(c:Nat)(Fv:À Ο)(t:ϤO T)(K:Ϯ6<=200)(v1 V:OD)(v6 b d f:Ü OD):
  ∃k h v l,nX k (ow (ϵ6 c) g T)/\k.À<=Ϯ6/\nbB [â è,Â v1,Â V,Â Ϸn,some<|Ñ Ϧb,â Ϸ4,v6,b,d,f]=ų [â è,Â v1,Â V,Â<|.od k,some<|Ñ<|(ä (c+ϴk ϓ)),â Ϸ4,â<|aO<|ϵ6 c,h,v,l]:=by
 let(k,h,v,l,q,Q,i):=F_ ts g (ϵ6 c) T Fv t K (.sh<|Ï è) v1 V (Ñ Ϧb) b d f;show(k,h,v,l,q,Q,?_);let s:=yZ ts ϓ c H.1 H.2 L;let X:=Uu H.2 c;let A:Ť Ϸ4 0=Â (tmD ϓ):=de (j:=0) (by
  rw[N2];cases g with|nil=>show Ϡ ne|cons a r=>rfl)
 let e:ϑl (ä (c+ϴk ϓ)):=Á
 erw[nbB];simp![A,s,aI,↓i,X,e]
def Jv(G:À (À Tm))(i:Nat):(Ê ϨW List.length).sum<=Ϲa G.Ç:=by
 conv=>rhs;rw[<-Zes i G]
 rw[K9i,Zbf];lia
def Cy(ts:À Nd)(L:é)(G:À (À Tm))(h:OkG ts G)(v1:OD):
  ∃Fv a v6 v V f,ϤO (ϥ1 (ϹM,2)).1/\bZ (bY ό) (K2 5) (ao (ϱ3<|Rs<|ϓ6<|È 0<|ae (Ù 5<|Ç 0)<|È 4 ai)
 (ao (bZ (bY ς) (ϳ0<|ϳV 7<|Œ 8 9 bB)<|Ϯk<|Rs<|ϭS<|Ϥ3<|ġ<|Ç 1)
 (ϰl<|ŗ (ϻK<|È 6 ai)<|Ç 1))) [â è,Â v1,â ϫY,Â ώn,some<|Ñ 2,none,none,none,none,none]=ų [â è,Â v1,â ϫY,Â Ϸn,some<|Ñ<|(Ì (ϥ1 (ϹM,2)).2),a,v6,v,V,f]:=by
 simp![S5];generalize l:Ŗ=r;show aX l (λi b=>∃(Fv:À Ο)(a v6 v V f:Ü OD),ϤO (ϷL).1/\Fv.À<=(Ê ϨW List.length).sum/\b=[â è,Â v1,â ϫY,Â Ϸn,some<|Ñ<|(Ì (ϷL).2),a,v6,v,V,f]) ⟨[],none,none,none,none,none,λk=>rfl,Û,rfl⟩ ?_ ?_
 .rintro i d b hd ⟨Fv,a,v6,v,V,f,h1,h2,rfl⟩
  rw[N2]at hd;let(g,hg,rfl):=ϹW;let m:=ϦA;let ne:=h.ne g m;let H:=Ϛ0<|zK ne;let tk:G.Ö (i+1)=ϨW++[g]:=ϬQ hg;let t:=A8 ts ϨW g (ϹM,2);rw[<-tk]at t;let s:(ß G.Ö (i+1) List.length).sum=(Ê ϨW List.length).sum+g.À:=by rw[tk,K9i,Zbf];simp
  let M:=Jv G<|i+1;let w:=h.few;generalize ϷL=TB at*;let nb:=Qd ts L g ne H TB.1 TB.2 Fv h1 ϱI v1 (.sh<|Ï ϫY) v6 v V f;let n:=Zab<|ϐX nb;change qS _ (nbB [â è,Â v1,â ϫY,Â Ϸn,some<|Ñ<|(Ì TB.2),â Ϸ4,v6,v,V,f])
  rw[n.2.2];show(Ϸ0 nb,â Ϸ4,â<|aO<|ϵ6 TB.2,Ϸ0<|Zab nb,Ϸ0<|Zab<|Zab nb,Ϸ0<|ϐX nb,by
   rw[t];show n.1,by
   rw[s];let:=n.2.1
   omega,by rw[t])
 ext ρ' rfl ⟨Fv,a,v6,v,V,f,h1,h2,rfl⟩;rw[K0]at h1⊢;rw[K8D]at h1⊢;show(Fv,a,v6,v,V,f,h1,rfl)
abbrev gsA(ts:À Nd):À (Nat×Ò):=ŏ ((Ã č)) č
def tmO(ts:À Nd)(x:Nat×Ò):À Tm:=Ê x.2 λk=>(k,ύd k,ϔJ k)
def gpT(ts:À Nd)(strict:Bool):À (À Tm):=if strict=true then ß gsA ts ϳ9 else ß fk ts λk=>Ϲb
def ME(q:ύL):∀V:Ò,Ã (V.filter q)+Ã (V.filter λk=>!q k)=V.length:=by
 induction _ with
 |nil=>show rfl
 |cons a V N3=>
  let i:=N3;cases h:q a with
  |true=>rw[Zbm h,Zbb ϑe,K9p,K9p];lia
  |false=>rw[Zbb ϑe,Zbm ϑe,K9p,K9p];lia
def KN(V:Ò):(V.map λx=>1).sum=V.length:=by
 induction V with|nil=>rfl|cons a V ih=>rw[K9w,Zap,ih,K9p];lia
def N0(ts:À Nd):ϹZ ώT=(ß gsA ts ϳ9).map tgD:=by
 erw[gsD];rw[S1];show ϻ6 ?_;change ϴO _=tgD (ϳ9 x);erw[tgD,tmO];rw[S1];rfl
def LQ(ts:À Nd):∀(m:Nat)(V:Ò),(Ê (ŏ m V) λx=>(Ã x.2)).sum<=V.length:=by
 induction _ with
  |zero=>
   intro V
   let:ŏ 0 V=[]:=ϑD
   rw[this];show ϰS
  |succ m ih=>
   ext x32
   cases x32 with
    |nil=>
     exact ϰS
    |cons w W=>
     let e:ŏ (m+1) ϸE=(w,Β λk=>ŋ)::ŏ m (Β λk=>! ŋ):=rfl;rw[e,K9w,Zap];let i:=ih<|Β λk=>! ŋ;let pt:=ME (λk=>ŋ) ϸE;dsimp only;lia
def kL(ts:À Nd):∀(m:Nat)(V:Ò),∀x∈ŏ m V,x.2.head?=Â x.1/\∀k∈x.2,k∈V/\rel ü Tl k x.1=true:=by
 ext m
 induction m with
 |zero=>
  ext V x h;let:ŏ 0 V=[]:=ϑD
  rw[this]at h;cases h
 |succ m ih=>
  ext V x h;cases V with
  |nil=>cases h
  |cons w W=>
   let e:ŏ (m+1) ϸE=(w,Β λk=>ŋ)::ŏ m (Β λk=>! ŋ):=rfl;rw[e]at h;rcases K8v.mp h with rfl|h
   .apply(?_,ϲ1 ?_)
    .change(Β λk=>ŋ).head?=some w
     rw[Zbm (p:=λk=>ŋ)<|lA w];rfl
    let:=K89.mp H;show(Ϻn,Ϥx)
   let(b,a):=ϲ2 x h;show(b,ϲ1 ⟨(ϦJ (a k H).1).1,(a k H).2⟩)
def Kz{ts:À Nd}{k:Nat}(h:k∈č):Ć/\2<=Ã (Å k):=by let:=ώv;let H:=ϷP Ϥx;show(Ϸw Ϻn,Á)
def RH(ts:À Nd)(strict:Bool)(a:é):OkG ts (Ķ strict):=by
 let fl:=wz ts;cases strict with
 |true=>
  let e:Ķ true=ß gsA ts ϳ9:=rfl;rw[e];show(ϥ4 g,ϧ7 g,?_)
  .let(x,H,rfl):=϶q
   ext z;let h:=(ϷU H).1;erw[tmO]at z;rw[List.map_eq_nil_iff]at z;rw[z]at h;cases h
  .let(x,H,rfl):=϶q
   erw[tmO]at l;let(k,K,rfl):=XV.mp l;show Kz ((ϷU H).2 k K).1
  rw[S1];let:=LQ ts (Ã č) č;let E:(ß gsA ts<|List.length∘ϳ9)=ß gsA ts λx=>(Ã x.2):=K8u λx z=>by
   change Ã (ϳ9 x)=_;erw[tmO];rw[K0]
  rw[E];show K9C this<|K9C fl a
 |false=>
  let e:Ķ false=ß fk ts λk=>Ϲb:=rfl;rw[e];show(ϥ4 g,ϧ7 g,?_)
  .let(x,H,rfl):=϶q
   show Zdb _ _
  .let(x,H,rfl):=϶q
   rw[K95]at l;rw[l];show Kz H
  rw[S1];let E:(ß fk ts<|List.length∘ϗY)=ß fk ts λx=>1:=rfl;rw[E,KN];lia
def zc(ts:À Nd)(strict:Bool):ώy:=mW ts (Ķ strict) (ϹM,2)
def xc(ts:À Nd){c:F}(p:ç)(h:Ź)(a:é)(strict:Bool):∃Fv,ϤO (ϥl).1/\eU [Ï è,ã strict]=Ħ (.ot [Ϸn,Ñ<|(Ì (ϥl).2)]):=by
 let(Fv,v,v6,V,b,d,Q,q):=Cy ts a (Ķ strict) (RH ts strict a)<|.sh<|ã strict;show(Fv,Q,?_);erw[eU,kM];let fl:=wz ts;let n:(mW ts (Ķ strict) (ϹM,2)).2=(ϥl).2:=rfl;rw[n]at q;let E:∀j C l v v6 V b d:Ü OD,(Rs<|Ϥz Ŋ (ϓj<|È 0 ai)<|ϴs (ύg<|È 0 ai) ϰb aT (Rs<|bO<|ae (d_<|È 0<|ae (eC<|ã true)<|ĝ (eC<|ã false)) ai) 1 []) [â è,Ĕ<|ã strict,j,C,l,v,v6,V,b,d]=þ (Ï<|Ê (Ķ strict) tgD):=λj C l v v6 V b d=>by
  cases strict with
  |true=>have g:=AN ts p h a;let e:ϹZ (ŏ ((Ã č)) č)=Ê (Ķ true) tgD:=N0 ts;rw[e]at g;simp![g,aI]
  |false=>
   let f:=zE ts a;let P:=xU č;simp![f,P];generalize w:Į=rc;let e:=϶R (ϳk ë) (ϦD<|tgD Ϲb) č Ϯj (K94<|aF Á) (by ext k H;simp![S5];rfl);subst e;let m:(ß fk ts λk=>Đ<|tgD Ϲb).map OD.er=Ê (Ķ false) tgD:=by
    let e:Ķ false=ß fk ts λk=>Ϲb:=rfl;rw[e,S1,S1];show Ϥ4
   simp![m]
 let R:=Qf (fa:=ş) (i:=3) (ρ:=[â è,Ĕ<|ã strict,â<|Ê (Ķ strict) tgD,Â Ϸn,some<|Ñ<|(Ì (ϥl).2),v,v6,V,b,d]) (x:=Ϸn) (y:=Ñ<|(Ì (ϥl).2)) rfl rfl;simp![↓E,ZJ,↓q,↓R]
def qD(T:Ò)(t:Tm):Ò:=if Μ t.2.1 then T else T.å
def yT(s:Ò)(e:Nat):∀(g:À Tm)(T:Tab),(∀t∈g,t.1≠e)->Ϻx g e=T e:=by
 induction _ with
 |nil=>ext T _;show rfl
 |cons t g N3=>
  ext T h;rw[ow',N3 _ λa l=>h a<|ě l];show P3<|K8g<|h t K9z
def zO(s:Ò):∀(g:À Tm)(T:Tab),ϙf->∀t∈g,Ϻx g t.1=Â (qD s t):=by
 induction _ with
  |nil=>
   ext T _ t h
   cases h
  |cons a g ih=>
   intro T nd t h
   rw[K9w,K8k]at nd;rw[ow'];rcases K8v.mp h with rfl|h
   .rw[yT s t.1 g _ λb l z=>nd.1<|ϲo ⟨b,l,z⟩]
    show Ĝ
   .show ϲ2 nd.2 t h
def cOf(ts:À Nd)(G:À (À Tm))(j:Nat):Nat:=2+(Ê (G.Ö j) λg=>ϴk ϓ).sum
def uX{ts:À Nd}{G:À (À Tm)}{j:Nat}{g:À Tm}(h:ę G=Â g):ϱs G (j+1)=ϱs G j+ϴk ϓ:=by
 erw[cOf];rw[ϓP,K9i,Zbf];simp;lia
def iE{ts:À Nd}{G:À (À Tm)}:∀{i j:Nat},i<=j->ϱs G i<=ϱs G j:=by
 ext i j h
 induction j with
 |zero=>
  let:i=0:=Á
  rw[this];show ì
 |succ j ih=>
  cases e:i=j+1
  .rw[e];show ì
  show K9C (ih Á) ?_;cases hg:G[j]? with
  |some g=>rw[uX hg];lia
  |none=>
   let:G.Ö (j+1)=G.Ö j:=by let:G.À<=j:=List.getElem?_eq_none_iff.mp hg;rw[K90 Á,K90 Á]
   erw[cOf];rw[this];show ì
structure OkG2(ts:À Nd)(G:À (À Tm)):Prop extends OkG ts G where
 nd:∀g∈G,ϙf
 dj:∀(i j:Nat)(gi gj:À Tm),á G=Â gi->ę G=Â gj->i≠j->∀t∈gi,∀t'∈gj,t.1≠t'.1
 same:ϒO (Ã (Å t.1)=Ã (Å (ϓ).1))
 like:∀g∈G,Μ (ϓ).2.1
 size:ϒO (ϰL t.1=ϰL (ϓ).1)
theorem FE{ts:À Nd}{G:À (À Tm)}(h:OkG2 ts G):∀i,i<=G.À->(ϷL).2=ϱs G i/\
  (∀j g,j<i->ę G=Â g->∀t∈g,(ϷL).1 t.1=Â (qD (ϵ6<|ϱs G j) t))/\
  ∀e l,(ϷL).1 e=ϩ5->∃j g t,j<i/\ę G=Â g/\t∈g/\t.1=e/\l=qD (ϵ6<|ϱs G j) t:=by
 induction _ with
 |zero=>ext _;show(rfl,λj g J=>absurd J<|Zbh j,λe l a=>by cases a)
 |succ i N3=>
  ext hi;let(q,k,Q):=N3 Á;obtain⟨g,hg⟩:∃g,á G=Â g:=⟨G[i],Nu Á⟩
  let m:=ϦA;let f:=A8 ts ϨW g (ϹM,2);rw[<-ϬQ hg]at f;rw[f];show(by rw[uX hg,<-q],λj g' J H t T=>?_,λe l a=>?_)
  .by_cases c:j=i
   .subst c
    rw[hg]at H;cases H;change ow _ g _ t.1=_;rw[ϘY,q]
   change ow _ g _ t.1=_;rw[yT _ _ g _ λd b z=>h.dj i j g g' hg H (K8g c) d b t T z];show k j g' Á H t T
  cases c:∃t∈g,t.1=e
  .let(t,T,rfl):=c
   let a:ow (ϵ6 (ϷL).2) g (ϷL).1 t.1=ϩ5:=a;rw[ϘY,q]at a;show(i,g,t,K8d i,hg,T,rfl,(ϦR).symm)
  let a:ow (ϵ6 (ϷL).2) g (ϷL).1 e=ϩ5:=a;rw[yT _ _ g _ λt T z=>c ⟨t,T,z⟩]at a;let(j,g',t,A,n):=Q e l a;show(j,g',t,Á,n)
def NU(ts:À Nd)(s:Bool)(e:Nat):Ò:=Ó ((zc ts s).1 e) []
abbrev nU(ts:À Nd)(s:Bool):Nat:=(zc ts s).2
def QM{T:Ò}{t:Tm}{k:Nat}:k∈qD T t↔k∈T:=by
 erw[qD];split
 .show Iff.rfl
 show List.mem_reverse
def B9(T:Ò)(t:Tm):Ã (qD T t)=T.À:=by
 erw[qD];split
 .rfl
 show Zax
def Wl{ts:À Nd}{t:Tm}{p:Nat}(h:p<ϳ4):ϸI t p<ϴk t:=by erw[mdS,oG];split<;>lia
def T8{ts:À Nd}{t:Tm}{c k:Nat}(h:k∈Ϸb c):c<=k/\k<c+ϴk t:=by
 erw[stL]at h;let(p,H,rfl):=ϥ8;let:=Wl ϹR;lia
def Ny(ts:À Nd)(t:Tm):ϴk t<=ϳ4\/ϳ4=0:=by erw[oG];split<;>lia
section
variable{ts:À Nd}{s:Bool}(h:OkG2 ts (Ķ s)) include h

theorem Pq:Þ=ϱs (Ķ s) ((Ã (Ķ s))):=ϱD (ϓk ì).1 K8D
theorem Dk{j:Nat}{g:À Tm}(hg:ę (Ķ s)=Â g){t:Tm}(l:t∈g):ø t.1=qD (ϵ6<|ϱs (Ķ s) j) t:=by let:=(ϓk ì).2.1 j g (ϱb hg) hg t l;rw[K8D]at this;erw[NU,zc];rw[this];rfl
theorem wR{e k:Nat}(H:k∈ø e):∃j g t,ę (Ķ s)=Â g/\t∈g/\t.1=e/\ϱs (Ķ s) j<=k/\k<ϱs (Ķ s) (j+1):=by
 erw[NU]at H;cases hT:(zc ts s).1 e with
 |none=>rw[hT]at H;cases H
 |some l=>
  rw[hT]at H;let H:k∈l:=H;let:=(ϓk ì).2.2 e l (Ô K8D hT);let(j,g,t,J,hg,T,he,rfl):=this;let b:=T8<|QM.mp H;show(j,g,t,hg,T,he,b.1,Ô (uX hg) b.2)
theorem sV{e k:Nat}(H:k∈ø e):2<=k/\k<Þ:=by
 let(j,g,t,hg,l,he,a,b):=wR h H;let J:=(ϱb hg);rw[Pq h];let m:=Ϲp (Ķ s) (i:=j+1) (j:=(Ã (Ķ s))) Á;let m0:=Ϲp (Ķ s) (i:=0) (j:=j) Á;let E:ϱs (Ķ s) 0=2:=rfl;lia
theorem qV:2<=Þ:=by
 rw[Pq h];let m0:=Ϲp (Ķ s) (i:=0) (j:=(Ã (Ķ s))) Á;let g:ϱs (Ķ s) 0=2:=rfl;lia
theorem QD{e e' k:Nat}(a:k∈ø e)(f:k∈ø e'):ϰL e=ϰL e':=by
 let(j,g,t,hg,l,rfl,A,n):=wR h a;let(d,g',T,H,b,rfl,b1,B):=wR h f;let:j=d:=by
  rcases Zba j d with c|c|c
  .let:=Ϲp (Ķ s) (i:=j+1) (j:=d) Á
   lia
  .show c
  let:=Ϲp (Ķ s) (i:=d+1) (j:=j) Á;lia
 subst this;rw[hg]at H;cases H;let m:=ϦA;rw[h.Ã g m t l,h.Ã g m T b]
theorem Ak{e:Nat}(he:ø e≠[]):Ã (ø e)=Ã (Å e)-1:=by let(k,H):=Zch _ he;let(j,g,t,hg,l,rfl,_,_):=wR h H;let m:=ϦA;rw[Dk h hg l,B9,mK];erw[wdS];rw[h.Î g m t l]
private theorem Oh{k:Nat}(d:2<=k)(H:k<Þ):∃e q:Nat,(ø e)[q]?=Ş:=by
 rw[Pq h]at H;let:∀i,i<=Ã (Ķ s)->k<ϱs (Ķ s) i->∃j,j<i/\ϱs (Ķ s) j<=k/\k<ϱs (Ķ s) (j+1):=by
  ext i
  induction i with
  |zero=>
   ext _ K;let E:ϱs (Ķ s) 0=2:=rfl;lia
  |succ i ih=>
   ext hi K;cases c:k<ϱs (Ķ s) i
   .let(j,a,b):=ih Á c
    show(j,Á,b)
   show(i,K8d i,Á,K)
 let(j,J,c1,L):=Ϧo ì H;obtain⟨g,hg⟩:∃g,ę (Ķ s)=Â g:=⟨(Ķ s)[j],϶Q⟩;let m:=ϦA;let M:=zK<|h.ne g m;let W:=(Ϛ0 M).2;rw[uX hg]at L;show((ϓ).1,k-ϱs (Ķ s) j,?_);rw[Dk h hg M];erw[qD];rw[Os<|h.like g m];generalize ϱs (Ķ s) j=c at c1 L;erw[stL];let w:k-c<wdS ts ϓ:=by
  let:=Ny ts ϓ;erw[wdS] at*;lia
 rw[N2,K9Z w];change Â (c+ϸI ϓ (k-c))=Ş;let:ϸI ϓ (k-c)=k-c:=by
  erw[mdS];erw[oG]at L;split
  .rename_i M
   rw[Os M]at L;lia
  rfl
 rw[this];show Ϸj Á
theorem Bq{e:Nat}(H:2<=Ã (Å e))(f:∃(j:Nat)(g:À Tm)(t:Tm),ę (Ķ s)=Â g/\t∈g/\t.1=e):Ã (ø e)=Ã (Å e)-1:=by let(j,g,t,hg,l,rfl):=f;let m:=ϦA;rw[Dk h hg l,B9,mK];erw[wdS];rw[h.Î g m t l]
end
def LO:ϲw (Ã (F.fM f)=Ã ν):=by
 induction _ with
 |nil=>show rfl
 |cons k c r Sc Re=>
  rw[F.fM',F.pre',K9v,K9p,K9p,K9v,Sc,Re];lia
def RP{ts:À Nd}{c:F}(p:ç){a:Nat}(A:ϳh):ϰL a=Ã (ϝ<|ϰc a):=by
 let(d,pd,e):=(qR p A).bough;let e1:Ã (ϝ<|ϰc a)=Ã (ϝ ϨH):=by
  change Ã (ϝ<|ϱX<|ϔH ϶l F.nil)=_;rw[<-e,wG]
 rw[e1,pd.preF,Z7];obtain⟨r,hr⟩:ϰ6 (ts[a]?):=⟨ts[a]' Á,Û⟩
 erw[szN,cx];rw[hr];change _=Ã (_::_);rw[K9p,K0]
def FZ{ts:À Nd}{a b:Nat}(A:ϳh)(B:ϵm)(h:ϥp ü Tl):ϥp ϰc F.mir:=by
 rcases bG.mp h with h|h
 .rw[dQ A,dQ B]at h
  show bG.ó<|Ð ϸM
 rw[dQ A,dQ B]at h;show bG.ó<|Ø ϸM
def Sa{ts:À Nd}{c:F}(p:ç){a b:Nat}(A:ϳh)(B:ϵm)(h:ϥp ü Tl):ϰL a=ϰL b:=by
 rw[RP p A,RP p B];rcases bG.mp (FZ A B h)with h|h
 .rw[h]
 rw[h,F.uJ,LO]
def Lv(ts:À Nd):∀(m:Nat)(V:Ò),V.Nodup->(∀x∈ŏ m V,x.2.Nodup)/\∀(i j:Nat)(x y:Nat×Ò),á (ŏ m V)=Ď->ę (ŏ m V)=ϰO->i≠j->∀k∈x.2,k∉y.2:=by
 ext m
 induction m with
 |zero=>
  ext V _;let:ŏ 0 V=[]:=ϑD
  rw[this];show(λx h=>ϓa,λi j x y h=>ϫs)
 |succ m ih=>
  ext V v;cases V with
  |nil=>show(λx h=>ϓa,λi j x y h=>(by simp[gsF]at h))
  |cons w W=>
   let e:ŏ (m+1) ϸE=(w,Β λk=>ŋ)::ŏ m (Β λk=>! ŋ):=rfl;rw[e];let(N,c):=ih (Β λk=>! ŋ)<|v.Û _;let first:∀(x:Nat×Ò),x∈ŏ m (Β λk=>! ŋ)->∀k∈x.2,k∉Β λk=>ŋ:=λx h k H z=>by let b:=((kL ts m _ x h).2 k H).1;let a:=(K89.mp b).2;let f:=(ϦJ z).2;rw[f]at a;cases a
   show(Ϭt,λi j x y h Y n k H=>?_)
   .rcases K8v.mp h with rfl|h
    .change(Β λk=>ŋ).Nodup
     show v.Û _
    show N x h
   cases i with
   |zero=>
    cases j with
    |zero=>show Ϡ n
    |succ j=>
     let h:(w,Β λk=>ŋ)=x:=ϱY
     subst h;let Y:(ŏ m<|Β λk=>! ŋ)[j]?=ϰO:=ϧA
     exactλz=>first y (K9L Y) k z H
   |succ i=>
    let h:(ŏ m<|Β λk=>! ŋ)[i]?=Ď:=ϱY
    cases j with
    |zero=>
     let Y:(w,Β λk=>ŋ)=y:=ϧA
     subst Y;show first x ϶w k H
    |succ j=>
     let Y:(ŏ m<|Β λk=>! ŋ)[j]?=ϰO:=ϧA
     show c i j x y h Y Á k H
def HV{ts:À Nd}{x:Nat×Ò}(h:x.2.head?=Â x.1):hd3 (ϳ9 x)=(x.1,ύd x.1,ϔJ x.1):=by
 erw[hd3,tmO];rw[N2];cases hx:x.2 with
 |nil=>rw[hx]at h;cases h
 |cons a r=>rw[hx]at h;let h:a=x.1:=ϸM;rw[h];rfl
def Eh(ts:À Nd):(č).Nodup:=K8C.Û _
def cq(ts:À Nd){c:F}(p:ç)(strict:Bool)(s:é):OkG2 ts (Ķ strict):=by
 let g:=RH ts strict s;cases strict with
 |true=>
  let e:Ķ true=ß gsA ts ϳ9:=rfl;rw[e]at g⊢;let(N,u):=Lv ts (Ã č) č<|Eh ts;let f:∀x:Nat×Ò,(Ê (ϳ9 x) λt=>t.1)=x.2:=λx=>by erw[tmO];rw[S1];show Zdu _
  let at1:∀(i:Nat)(gi:À Tm),(ß gsA ts ϳ9)[i]?=Â gi->∃x,á ώT=Ď/\gi=ϳ9 x:=ϕE
  let o:∀x∈ώT,∀k∈x.2,Ć:=λx H k K=>cZ ((ϷU H).2 k K).1;let wl:∀x∈ώT,Č x.1:=λx H=>o x H _<|Zev (ϷU H).1;let m:∀(x:Nat×Ò)(t:Tm),t∈ϳ9 x->t.1∈x.2:=λx t l=>Ϙ (f x) (ϲo ⟨t,l,rfl⟩)
  show(g,ϥ4 G,ϗd,ϧ7 G,ϥ4 G,ϧ7 G)
  .let(x,H,rfl):=϶q
   rw[f];show N x H
  .let(x,H,rfl):=at1 i gi hi
   let(y,Y,rfl):=at1 j J q;show u i j x y H Y n t.1 (m x t l) ?_;rw[z];show m y r T
  .let(x,H,rfl):=϶q
   let M:=ϷU H;rw[HV M.1];let K:=M.2 t.1<|m x t l;show Ϝc<|FZ (cZ K.1) (wl x H) K.2
  .let(x,H,rfl):=϶q
   rw[HV (ϷU H).1];show Ϥy
  let(x,H,rfl):=϶q;let M:=ϷU H;rw[HV M.1];let K:=M.2 t.1<|m x t l;show Sa p (cZ K.1) (wl x H) K.2
 |false=>
  let e:Ķ false=ß fk ts λk=>Ϲb:=rfl;rw[e]at g⊢;let at1:∀(i:Nat)(gi:À Tm),(ß fk ts ϗY)[i]?=Â gi->∃k,á č=Ş/\gi=Ϲb:=ϕE
  show(g,ϥ4 G,ϗd,ϧ7 G,ϥ4 G,ϧ7 G)
  .let(k,K,rfl):=϶q
   simp
  .let(a,A,rfl):=at1 i gi hi
   let(b,B,rfl):=at1 j J q;rw[K95]at l T;subst l;subst T;let z:a=b:=z;subst z;let L:=ώH;let d:=(ZB.mp B);let(L,e1):=L;let(d,E):=d;let nd:=Eh ts;rw[List.Nodup,Zbn]at nd;rcases Zec n with c|c
   .show nd i j L d c<|ϭn E.Ï
   show nd j i d L c<|E.Å e1.Ï
  .let(k,K,rfl):=϶q
   rw[K95]at l;subst l;rfl
  .let(k,K,rfl):=϶q
   rfl
  let(k,K,rfl):=϶q;rw[K95]at l;subst l;rfl
def MO(ts:À Nd):∀(m:Nat)(V:Ò),όL->∀k∈V,∃x∈ŏ m V,k∈x.2:=by
 induction _ with
  |zero=>
   intro V hl k hk
   cases V with
   |nil=>cases hk
   |cons a V=>simp at hl
  |succ m ih=>
   ext x13 hl k hk
   cases x13 with
    |nil=>
     cases hk
    |cons w W=>
     let e:ŏ (m+1) ϸE=(w,Β λk=>ŋ)::ŏ m (Β λk=>! ŋ):=rfl;rw[e];cases hr:rel ü Tl k w with
     |true=>show(_,K9z,ϳy ⟨hk,hr⟩)
     |false=>
      let dl:=ύM;let(x,H,h):=ih (Β λk=>! ŋ) (by rw[K9p]at hl;lia) k<|ϳy ⟨hk,ϣ hr⟩;show(x,ě H,h)
def EY(ts:À Nd)(strict:Bool){k:Nat}(H:k∈č):∃(j:Nat)(g:À Tm)(t:Tm),ę (Ķ strict)=Â g/\t∈g/\t.1=k:=by
 cases strict with
 |true=>have e:Ķ true=ß gsA ts ϳ9:=rfl;let(x,X,h):=MO ts (Ã č) č ì k H;let(j,J):=Zac X;show(j,ϳ9 x,(k,ύd k,ϔJ k),?_,ϲo ⟨k,h,rfl⟩,rfl);rw[e,N2,J];rfl
 |false=>
  let e:Ķ false=ß fk ts λk=>Ϲb:=rfl;let(j,J):=Zac H;show(j,Ϲb,(k,true,false),?_,K95.ó rfl,rfl);rw[e,N2,J];rfl
def prI:Fs:=(bZ (iEn<|xa (Ù 2<|Ç 0) ς ϊ) (ϡ<|Œ 8 9 bB)<|Ϯl 7 Ϫl<|Ϥz (ñ gLt 8 ϸQ) (Ç 1)<|ġ<|Ç 1)
def JB(a:Nat):∀(s:Ò)(k p:Nat)(row:À Int),ϖh (iU a (s++[k]) p row) ϥb (ϱ7 όg):=by
 induction _ with|nil=>ext k p row;show rfl|cons b s N3=>ext k p row;rw[K92,iU',N3 k<|p+1,iU',K9p,ê (Ϫ4 s.À)]
def Kd(Fv:À Ο)(T:Tab)(t:ϤO T)(n:Nat)(e a:Nat)(row:À Int)(hr:∀k∈Ó (T e) [],όd)(v0 v1 C c:OD)(V v:Ü OD):
  ∃m o,prI [Â v0,Â v1,Ĕ<|Ą [ϱe,Ä Ŵ],some C,ī,some<|Ñ ϶t,some<|Ñ ϑ,Ň<|aG row,V,v]=ų [Â v0,Â v1,Ĕ<|Ą [ϱe,Ä Ŵ],some C,ī,some<|Ñ ϶t,some<|Ñ ϑ,Ň<|aG<|ϻN (Ó (T e) []),m,o]:=by
 erw[prI];let g:∀(w W b:Ü OD),xa (Ù 2<|Ç 0) ς ϊ [Â v0,Â v1,Ĕ<|Ą [ϱe,Ä Ŵ],w,W,some<|Ñ ϶t,some<|Ñ ϑ,b,V,v]=þ (Ï<|aO<|Ó (T e) []):=λw W b=>by
  let k:=SA (fa:=Ù 2<|Ç 0) (fb:=ς) (fc:=ϊ) (Fv:=Fv) (ρ:=[Â v0,Â v1,Ĕ<|Ą [ϱe,Ä Ŵ],w,W,some<|Ñ ϶t,some<|Ñ ϑ,b,V,v]) (x:=.sh ϱe) (y:=Ñ ϶t) (z:=ϭp) (i:=϶t) ϻh ϰn ϻh ϰn ϻh;rw[k,t e,md];cases T e with|none=>rfl|some l=>rfl
 simp![↓g];generalize L:Ŗ=r;show ϳ1 (ϺL<|∃V v,ρ=[Â v0,Â v1,Ĕ<|Ą [ϱe,Ä Ŵ],some C,ī,some<|Ñ ϶t,some<|Ñ ϑ,Ň<|aG<|ϻN (Ł (Ó (T e) []) i),V,v]) ((ϲi _))
 .rintro i d ρ hd ⟨V,v,rfl⟩
  let(x,X,rfl):=kY hd;erw[aO]at X;rw[N2]at X;let(k,H,rfl):=XL.mp X;let lt:k<Ã (ϻN<|Ł (Ó (T e) []) i):=Ô Eg (hr k Ϧs)
  let hi:i<Ã (Ó (T e) []):=ϹB;let sn:ϖh (ϻN (Ł (Ó (T e) [])<|i+1)) (ϻN<|Ł (Ó (T e) []) i) (ϱ7 i):=by rw[ϓW,JB,K9f,K8q Á,K87]
  generalize ϻN (Ł (Ó (T e) []) i)=R at*;let s:ixN (Ã (aG R)) ë=Ş:=cW (by rw[d7];show lt);let I:ϫ (aG R)=some (Ñ<|pA R k):=by erw[aG,pA];rw[N2,N2,Nu lt];rfl
  let S:Ϫ (aG R) k (Ñ<|pA R k+ϱ7 i)=aG (ϻN<|Ł (Ó (T e) [])<|i+1):=Ĥ nL sn
  let E:∀(w W b:Ü OD)(q:Ü OD),Ϥz (ñ gLt 8 ϸQ) (Ç 1) (ġ<|Ç 1) [Â v0,Â v1,Ĕ<|Ą [ϱe,Ä Ŵ],w,W,some<|Ñ ϶t,some<|Ñ ϑ,b,some<|Ñ ÿ,q]=.ok (Ñ<|ϱ7 i):=λw W b q=>by
   erw[sgn];cases h:i<a
   .let h':ÿ<ϑ:=Á
    simp![Z8 h',Os h]
   let h':¬ÿ<ϑ:=Á
   simp![K9q h',P3 h]
  let K:=Aa (xs:=aG R) (i:=7) (j:=k) (z:=ë) (p:=pA R k) (r:=ϱ7 i) (f:=ϔh) (ρ:=[Â v0,Â v1,Ĕ<|Ą [ϱe,Ä Ŵ],some C,ī,some<|Ñ ϶t,some<|Ñ ϑ,Ň<|aG R,some<|Ñ ÿ,some<|Ñ ë]) s I;simp![BG,↓E,K,S];show(_,_,rfl)
 ext ρ' rfl ⟨V,v,rfl⟩;let e1:Ã (fC<|aO<|Ó (T e) [])=Ã (Ó (T e) []):=by erw[fC];rw[K0,K8I,eS]
 rw[e1,K8D];show(V,v,rfl)
def SI:UB (.ok ϱq) b ρ=ϰq (λy:OD=>yY ϯT y.er) ϵS:=by
 change(match (OD.ol xs).er with| .list ds=>ϰq (λy:OD=>yY ds y.er) ϵS|_=>L3.R.bad)=_;rw[md]
def prB:Fs:=(ao (ϱo<|ū (Ù 0 ş)<|Ç 0)
 (ao (ϱ3<|IJ (Ϸ9<|È 0<|È 5 ai) ş)
 (ao (ϳ7<|mE<|όW<|ĝ (Ù 3 ς))
 (ao prI
 (pq 7<|ϥW ϦO)))))
def Qc(ts:À Nd)(he:ĕ)(m:é)(Fv:À Ο)(T:Tab)(t:ϤO T)(n k:Nat)(d:0<k)(h:Ć)(N:∀e,∀q∈Ó (T e) [],q<n)(v1:OD)(o v6 p f g:Ü OD):
  ∃v V a j l,prB [â è,Â v1,Ĕ<|Ą [ϱe,Ä Ŵ],some<|Ę<|T0<|ω (λe=>Ó (T e) []) n k,some<|Ñ ë,o,v6,p,f,g]=ų [â è,Â v1,Ĕ<|Ą [ϱe,Ä Ŵ],some<|Ę<|T0<|ω (λe=>Ó (T e) []) n<|k+1,some<|Ñ ë,v,V,a,j,l]:=by
 obtain⟨nd,H⟩:∃nd,ϸG=Â nd:=⟨ts[k],by simp[h]⟩
 let g1:=fZ H;let O:nd.e=Ì (ý k):=Ϙ (bL H) (ϯy (λe=>Ó (T e) []) d h).2.2
 let elt:=(ϯy (λe=>Ó (T e) []) d h).2.1;let co:=eA ts (ý k) Á m;let mk:k∈Å (ý k):=ϸK ⟨h,by rw[bL H];show O⟩;let I:=MM (iL<|Å<|ý k) ë<|ϲo ⟨k,mk,rfl⟩;rw[Ih]at I;let x:yY (nD<|Å<|ý k) (Ä ë)=.ok (Ñ<|(ä (Ÿ k))):=I;let R:=qC (rs:=ω (λe=>Ó (T e) []) n k) (i:=ý k) (Ô mQ elt);rw[zf Á elt]at R;let r:=gR (NU:=λe=>Ó (T e) []) (n:=n) he (ý k) Á;let L:Ê (ß T0 (ω (λe=>Ó (T e) []) n k) OD.sh) OD.er=T0 (ω (λe=>Ó (T e) []) n k):=aI _;let E:∀W b w c:Ü OD,mE (όW<|ĝ (Ù 3 ς)) [â è,Â v1,Ĕ<|Ą [ϱe,Ä Ŵ],some<|Ę<|T0<|ω (λe=>Ó (T e) []) n k,W,some<|Ñ (ý k:Int),some<|Ñ<|(ä (Ÿ k)),b,w,c]=ģ (aG<|϶e (λe=>Ó (T e) [])<|ý k):=λW b w c=>by erw[iD]at R;cases W<;>cases b<;>cases w<;>cases c<;>simp![L,R]<;>(change(Ë (((aG<|϶e (λe=>Ó (T e) [])<|ý k).all ϻa)=true) (L3.R.ok (OD.ol<|ß aG (϶e (λe=>Ó (T e) [])<|ý k) λy=>Đ y.er)) Î)=_;rw[Os<|sM _,yU])
 let(j,l,pi):=Kd Fv T t n (ý k) (Ÿ k) (϶e (λe=>Ó (T e) [])<|ý k) (by rw[r];show N _) (.sh<|Ï è) v1 (Ę<|T0<|ω (λe=>Ó (T e) []) n k) (Ñ ë) f g;let sn:ß T0 (ω (λe=>Ó (T e) []) n k) OD.sh++[Đ<|Ï<|(iU (Ÿ k) (Ó (T<|ý k) []) 0<|϶e (λe=>Ó (T e) [])<|ý k).map int]=ß T0 (ω (λe=>Ó (T e) []) n<|k+1) OD.sh:=by
  rw[yo];show Ϲq OD.sh ?_;rw[spF',P3 Á,zf Á elt];erw[T0];rw[K9i];rfl
 let B:ϱK (Ã (T0<|ω (λe=>Ó (T e) []) n k)):=c8 (by erw[T0];rw[K0,mQ];lia);show(some<|Ñ (ý k:Int),some<|Ñ<|(ä (Ÿ k)),â<|(iU (Ÿ k) (Ó (T<|ý k) []) 0<|϶e (λe=>Ó (T e) [])<|ý k).map int,j,l,?_);erw[prB];rw[O]at g1;simp![g1,co,SI,iP,x,↓E,↓pi,aW,K0,B,sn]
def Ax(ts:À Nd){c:F}(p:ç)(h:Ź)(l:é)(m:Č 0)(strict:Bool)(n:ϷZ<=900):
  gG [Ï è,ã strict]=.ok (Ę<|T0<|ϭN ts.À):=by
 let he:=ľ;let(Fv,t,k):=xc ts p h l strict;let ok:=cq ts p strict l;erw[gG,nF];let Z:=zeros ϷZ (ä ϷZ) rfl Á;let w:Ι 1:=Ŕ Ý;let z:Ι ((Ì ts.À)):=Ŕ Á;let E:(OD.ot [Ϸn,Ñ<|(Ì (ϥl).2)]).er=Ą [ϱe,Ä (ä ϷZ)]:=ϣ M_
 let R:Đ (Ï ((ϳ2 ϷZ Ϻr)))=Đ (iD<|ϳ2 ϷZ 0):=ű iD Zbk
 simp![k,E,Z,aI,aH,w,z,K7m];generalize H:Ŗ=r;show aX H (λi j=>∃g v v6 V a f:Ü OD,j=[â è,Ĕ<|ã strict,Ĕ<|Ą [ϱe,Ä (ä ϷZ)],some<|Ę<|T0<|ϭN<|i+1,g,v,v6,V,a,f]) ⟨none,none,none,none,none,none,by rw[R];rfl⟩ ?_ ?_
 .rintro i d j hd ⟨g,v,v6,V,a,f,rfl⟩
  let(hi,rfl):=϶M;rw[ê (ĩ (Ì ts.À-1)=ĵ)]at hi;rw[ê (Ì 1+ÿ=ä (i+1))];let B:=Qc ts he l Fv (ϥl).1 t ϷZ (i+1) Á Á (λe q Q=>ϓX) (.sh<|ã strict) v v6 V a f;let b:=Zab<|ϐX<|Zab B;change qS _ (prB [â è,Ĕ<|ã strict,Ĕ<|Ą [ϱe,Ä (ä ϷZ)],some<|Ę<|T0<|ϭN<|i+1,some<|Ñ<|(ä (i+1)),v,v6,V,a,f]);let P:prB [â è,Ĕ<|ã strict,Ĕ<|Ą [ϱe,Ä (ä ϷZ)],some<|Ę<|T0<|ϭN<|i+1,some<|Ñ<|(ä (i+1)),v,v6,V,a,f]=_:=b;rw[P];show(_,_,_,_,_,_,rfl)
 ext ρ' rfl ⟨g,v,v6,V,a,f,rfl⟩;let e:İ (Ã (ky 1 (ĩ (Ì ts.À-1)))+1):=by
  rw[ê (ĩ (Ì ts.À-1)=ĵ)];erw[ky];simp;lia
 rw[e];simp![S5]
open Lp (pA sm Dem dR dC)
section
variable(ts:À Nd)(S:Nat->À Int)
def lfR(r:Ò):À Int×Int:=([1,0]++τ (S ϰC) 2,û ϰC)
def rtR(r:Ò):À Int×Int:=([0,1]++Ê (τ (S ϱ) 2) ϸo,û ϱ)
def Cf(a b:À Int):À Int:=Ê ϬW λp=>p.2-p.1
def gpR(Ds:Int)(p:ϻ):À Int×Int:=(Cf (S p.1)<|S p.2,ϱ1 p)
def sdL:Dem:=Ê Í (Ϥj S)++Ê Í (Ϥk S)
def gdL(Ds:Int):Dem:=ß S4 Í<|gpR ts S Ds
def DT(Ds:Int):Dem:=ϥM S++gdL ts S Ds
end
def uI(a b:Dem):dsD a++dsD b=dsD ϦG:=ű dsD K9i
def xm(ts:À Nd)(rs:À (À Int))(he:ĕ)(p:Č 0)(L:é)(l:ϵe)(hr:İ rs.À)(n:Nat)(t:2<=n)(N:n<=900)(W:∀k,Ć->Ã (Ó ϶C [])=n):
  c9 [Ï è,Ï ϭq]=.ok (Ę<|dsD<|ϥM (λk=>Ó ϶C [])):=by
 erw[c9,kF];let nn:=ϺF p;let u:ϱ0 (Ã Í):=nn.2;let lv:=kX ts he L;let G:ϟ ts.À=Í:=rfl;rw[G]at lv;let s:=rsh ts;let v:=lK ts;simp![jR ts l L,s,lv,mD];generalize w:Į=rc
 let e:=aS w (λr:Ò=>ϴO ϶G) (λr=>.sh<|dmD<|Ϥj (λk=>Ó ϶C []) r) Í rfl (K94<|aF Á) (by
  ext r R;let(j,H):=Zac R;let(g,J):=Ϫt H;let(A,c,m,o):=bX g;let b1:=J _ m;let d:=ϯ8 ϰC Á;let q:=W _ b1;let T:=϶8 ϸP ϰC Á;erw[iD]at d;let c1:ϲc (Ê (Ó (rs[ϰC]?) []) int) (Â 2) none=Ê (τ (Ó (rs[ϰC]?) []) 2) int:=by
   let:=i8 (Ê (Ó (rs[ϰC]?) []) int) 2 (Ă K0);rw[ϸd (ä 2) 2]at this;rw[this,Zbt]
  let g1:=Ϫi [int 1,Ϻr] (Ê (τ (Ó (rs[ϰC]?) []) 2) int) (by rw[K0,K8y];simp;lia)
  simp![A,d,c1,aI,T,g1];rfl)
 subst e;clear w;simp![S5];generalize w:Į=rc
 let e:=aS w (λr:Ò=>ϴO ϶G) (λr=>.sh<|dmD<|Ϥk (λk=>Ó ϶C []) r) Í rfl (K94<|aF Á) (by
  ext r R;let(j,H):=Zac R;let(g,J):=Ϫt H;let(A,c,m,o):=bX g;let b1:=J _ o;let d:=ϯ8 ϱ Á;let q:=W _ b1;let T:=϶8 ϸP ϱ Á;erw[iD]at d;let c1:ϲc (Ê (Ó (rs[ϱ]?) []) int) (Â 2) none=Ê (τ (Ó (rs[ϱ]?) []) 2) int:=by
   let:=i8 (Ê (Ó (rs[ϱ]?) []) int) 2 (Ă K0);rw[ϸd (ä 2) 2]at this;rw[this,Zbt]
  simp![c,d,c1,aI,T];generalize h:Į=rc2;let E:=aS h int (λx=>Ñ<|-x) (τ (Ó (rs[ϱ]?) []) 2) rfl (Ô K8y<|K94<|aF Á) ϮA;subst E;let g1:=Ϫi [Ϻr,int 1] ((Ê (τ (Ó (rs[ϱ]?) []) 2) ϸo).map int) (by rw[K0,K0,K8y];simp;lia);let em:Ϩq (Ê (τ (Ó (rs[ϱ]?) []) 2) λx=>Đ<|Ä<|-x) (Ê (τ (Ó (rs[ϱ]?) []) 2) ϸo):=Ε S1 S1 (ϻ6 ϰn)
  simp![em,aI,g1];rfl)
 subst e;let M:∀f:Ò->À Int×Int,(Ê Í λr=>Đ<|dmD<|f r).map OD.er=dsD (Ê Í f):=λf=>ϪS dsD (λr x=>ϰn)
 let g2:=kE (a:=dsD<|Ê Í<|Ϥj (λk=>Ó ϶C [])) (b:=dsD<|Ê Í<|Ϥk (λk=>Ó ϶C [])) (by rw[tY,tY,K0,K0];lia);rw[uI]at g2;simp![M,g2];rfl
def zm(ts:À Nd)(rs:À (À Int))(Ds:Int)(he:ĕ)(m:Č 0)(c:é)(l:ϵe)(hr:İ rs.À)(n:Nat)(N:n<=900)(w:∀k,Ć->Ã (Ó ϶C [])=n):
  dW [Ï è,Ï ϭq,Ä Ds]=.ok (Ę<|dsD<|Ϩ0 (λk=>Ó ϶C [])):=by
 erw[dW,lN];let as:=zM ts Ds he l c;let nl:ϲv (Ã (S4 Í)):=by
  let:=oO Í;let ok:İ (Ê Í List.length).sum:=(ϵ5 ì).sum;lia
 simp![as,aI];generalize L:Ŗ=r;show ϳ1 (λi b=>∃v V v6 a:Ü OD,b=[â è,â ϭq,some<|Ñ Ds,some<|Ę<|dsD<|Ê (Ł (S4 Í) i)<|ϹQ (λk=>Ó ϶C []),v,V,v6,a]) ϑp
 .rintro i d b hd ⟨v,V,v6,a,rfl⟩
  rw[N2]at hd;let(p,H,rfl):=ϹW;let hi:=ϹB;let(e,j):=ϸt Ϧs;let I:=ϯ8 p.1 Á;let f:=ϯ8 p.2 Á;let W:=w _ e;let o:=w _ j;erw[iD]at I f;let z:=Am (Ó Ϭ0 [])<|Ó Ϭ1 [];erw[Dx];simp![I,f,z];generalize h:Į=rc2;let g:=aS h (λq:ϰj=>ϱZ [Ä q.1,Ä q.2]) (λq=>Ñ<|q.2-q.1) ((Ó Ϭ0 []).zip<|Ó Ϭ1 []) rfl (Ô Zao<|K94<|aF Á) ϮA;subst g;let em:Ϩq (((Ó Ϭ0 []).zip<|Ó Ϭ1 []).map λq=>Đ<|Ä<|q.2-q.1) (Cf (Ó Ϭ0 [])<|Ó Ϭ1 []):=ϪS Cf (λx z=>ϰn)
  let B:ϱK (Ã (dsD<|Ê (Ł (S4 Í) i)<|ϹQ (λk=>Ó ϶C []))):=c8 (ϳq tY K0 K9f);let sn:ß dsD (Ê (Ł (S4 Í) i)<|ϹQ (λk=>Ó ϶C [])) OD.sh++[Đ<|Ą [Ï<|(Cf (Ó Ϭ0 [])<|Ó Ϭ1 []).map int,Ä<|ϱ1 p]]=ß dsD ((Ł (S4 Í)<|i+1).map<|ϹQ (λk=>Ó ϶C [])) OD.sh:=by rw[yo,ϓW];show Ϲq OD.sh ?_;erw[dsD];rw[K9i,K9i];rfl
  simp![em,K0,B,sn];show(_,_,_,_,rfl)
 ext ρ' rfl ⟨v,V,v6,a,rfl⟩;rw[K0,K8D];simp![S5];rfl
def HB(a:Nat):∀(s:Ò)(p:Nat)(row:À Int)(j:Nat),(∀k∈s,όd)->-(Ì s.À)<=Ņ ϥb-Ō j/\Ņ ϥb-Ō j<=s.À/\(j∉s->Ņ ϥb=Ō j):=by
 induction _ with
 |nil=>ext p row j _;rw[iU''];show(?_,?_,ώg)<;>simp
 |cons k s N3=>
  ext p row j h;let K:=h k K9z;let(H,b,f):=N3 (p+1) (ϧr<|Ō k+ϱ7 p) j λq Q=>Ô K8z (h q<|ě Q)
  rw[iU'];rw[wj K]at H b f;let g:ϵf (ϱ7 p) 1 (-1):=by erw[sgn];split<;>simp
  rw[K9p];cases e:j=k
  .subst e
   rw[Ĝ]at H b;apply(Á,Á,λn=>ĭ K9z n)
  rw[ϲs]at H b f;show(Á,Á,λn=>f λz=>n<|ě z)
section
variable{ts:À Nd}{c:F}{s:Bool}
abbrev ST(ts:À Nd)(s:Bool)(k:Nat):À Int:=spt ts ø Þ k
def vZ(p:ç)(h:é):∀v,϶4->Η 2 (Ņ (į v)=0):=by
 let he:=ľ;let ok:=ϰ2 h;ext v
 induction v using Nat.strongRecOn with
 |ind v ih=>
  ext H j J;cases a:v=0
  .subst a
   erw[ST];rw[qK H];erw[pA];rw[K8Z];split<;>rfl
  let(e1,g,_):=ϨK ø Þ Á H;erw[ST];rw[e1,(HB _ _ _ _ j λq Q=>Ô (ϹN Á) ϓX).2.2 λz=>Ĳ (sV ok z).1];show ϲ2 g Á j J
def FI(p:ç)(a:é)(e:Nat):Ã (ø e)<=Ã (Å e)-1:=by
 cases h:ø e=[]
 .rw[h]
  show ϰS
 show Nat.le_of_eq<|Ak (ϰ2 a) h
def Ke(a:Č 0)(he:ĕ)(e:Nat):Ã (Å e)<=ĵ:=by
 erw[F5];obtain⟨m,M⟩:ϚN:=⟨ĵ,Á⟩
 rw[M,List.range_succ_eq_map,Zbb]
 .apply K9C ώx ?_
  rw[K0,Z7];lia
 obtain⟨nd,n⟩:∃nd,ts[0]?=Â nd:=ϙc
 let:=(he 0 nd n).1 rfl;rw[<-bL n]at this;rw[this];simp
def C1(p:ç)(h:Č 0)(l:ϰJ 12):∀v,϶4->∀j,Ś (-(11*(v:Int))) (Ņ (į v)) (11*(v:Int)):=by
 let he:=ľ;let ok:=ϰ2 Á;ext v
 induction v using Nat.strongRecOn with
 |ind v ih=>
  ext H j;cases Z:v=0
  .subst Z
   erw[ST];rw[qK H];erw[pA];rw[K8Z];split
   .exact(Ý,Ý)
   show(Ý,Ý)
  let(e1,g,_):=ϨK ø Þ Á H;let(A,a,_):=HB (Ÿ v) (ø<|ý v) 0 (į<|ý v) j λq Q=>Ô (ϹN Á) ϓX
  let b:=ϲ2 g Á j;let f:=ϔU Á<|ý v;let J:=Ke h he<|ý v;erw[ST];rw[e1];erw[ST]at A a b;lia
end
def Dz{row:À Int}(a:Ō 0=0)(h:Ō 1=0)(x y:Int)(i:Nat):ř (϶K++row.ä 2)=Ō i+(if i=0 then x else if i=1 then y else 0):=by
 match i with
 |0=>rw[Ĝ,a,K8R];rfl
 |1=>
  rw[P3 Ý,Ĝ,h,K8R];rfl
 |i+2=>
  rw[P3 Á,P3 Á,Zak];erw[pA];rw[K9a Û,K84];simp;rw[ê (2+i=i+2)]
def Cv(row:À Int)(i:Nat):pA (row.Ç ϸo) i=-Ō i:=by erw[pA];rw[N2];cases row[i]? <;>rfl
def Tc{a b:À Int}(h:a.À=b.À)(i:Nat):ř (Cf a b)=pA b i-pA a i:=by
 erw[Cf,pA];rw[N2];cases hi:i<a.À
 .let:á ϬW=Â (a[i]'hi,b[i]' Á):=Ô Zan (ϰD,Nu Á)
  rw[this,ϰD,Nu Á];rfl
 rw[K9c (Ă Zao),K9c Á,K9c Á];rfl
section
variable{ts:À Nd}{c:F}{s:Bool}{Ds:Int}
abbrev DD(ts:À Nd)(s:Bool)(Ds:Int):Dem:=DT ts į Ds
def lJ(ts:À Nd)(s:Bool)(Ds:Int):Ã ċ=2*Ã Í+Ã (S4 Í):=by
 erw[DD,DT,sdL,gdL];rw[K9v,K9v,K0,K0,K0];lia
def Ia{j:Nat}{r:Ò}(h:ę Í=ϰQ):ę ċ=Â (Ϥj į r):=by
 let J:=ϲG;erw[DD,DT,sdL];rw[K9V (Ϻ K9v K0),K9V (όj K0),N2,h];rfl
def Er{j:Nat}{r:Ò}(h:ę Í=ϰQ):ċ[Ã Í+j]?=Â (Ϥk į r):=by
 let J:=ϲG;erw[DD,DT,sdL];rw[K9V (ϳq K9v K0 K0),K9a (Ă K0),K0,N2,ê (Ã Í+j-Ã Í=j),h];rfl
def Lw{i:Nat}{p:ϻ}(h:(S4 Í)[i]?=ϲm):ċ[2*Ã Í+i]?=Â (ϹQ į p):=by
 let J:=ϲG;erw[DD,DT,sdL,gdL];rw[K9a (ϳq K9v K0 K0),K9v,K0,K0,N2,ê (2*Ã Í+i-(Ã Í+Ã Í)=i),h];rfl
def uR{j:Nat}(J:j<Ã ċ):(∃(i:Nat)(r:Ò),j=i/\á Í=ϰQ/\dR ċ j=(Ϥj į r).1/\dC ċ j=(Ϥj į r).2)\/
  (∃(i:Nat)(r:Ò),j=Ã Í+i/\á Í=ϰQ/\dR ċ j=(Ϥk į r).1/\dC ċ j=(Ϥk į r).2)\/
  (∃(i:Nat)(p:ϻ),j=2*Ã Í+i/\(S4 Í)[i]?=ϲm/\dR ċ j=(ϹQ į p).1/\dC ċ j=(ϹQ į p).2):=by
 rw[lJ]at J;cases h:j<Ã Í
 .let e:=ϱj
  let d:=Ia (s:=s) (Ds:=Ds) e;show Ð ⟨j,_,rfl,e,ϸ9 dR,ϸ9 dC⟩
 cases H:j<2*Ã Í
 .let e:=Nu (l:=Í) (i:=j-Ã Í) ϱI
  let d:=Er (s:=s) (Ds:=Ds) e;rw[ϕR (Ã Í)]at d;show Ø<|Ð ⟨j-Ã Í,_,ϱI,e,ϸ9 dR,ϸ9 dC⟩
 let e:=Nu (l:=S4 Í) (i:=j-2*Ã Í) ϱI;let d:=Lw (s:=s) (Ds:=Ds) e;rw[ϕR (2*Ã Í)]at d;show Ø<|Ø ⟨j-2*Ã Í,_,ϱI,e,ϸ9 dR,ϸ9 dC⟩
def HH(p:ç)(a:é){r:Ò}(hr:Č ϰC)(i:Nat):ř (Ϥj į r).1=ř (į ϰC)+(Ë (i=0) 1 0):=by
 change ř ([1,0]++τ (į ϰC) 2)=_;rw[Dz (ϮE 0 Á)<|ϮE 1 Á]
 split
 .rfl
 split<;>rfl
private def Ij(p:ç)(a:é){r:Ò}(hr:Č ϱ)(i:Nat):ř (Ϥk į r).1=-ř (į ϱ)+(Ë (i=1) 1 0):=by
 change ř ([0,1]++Ê (τ (į ϱ) 2) ϸo)=_;rw[Zbt,Dz (ϰ8 Cv<|ϮE 0 Á) (ϰ8 Cv<|ϮE 1 Á),Cv]
 split
 .rename_i h
  rw[P3 Á]
 rfl
def GL(p:ç){q:ϻ}(h:Č q.1)(H:Č q.2)(i:Nat):ř (ϹQ į q).1=ř (į q.2)-ř (į q.1):=by
 let he:=ľ;change ř (Cf (į q.1)<|į q.2)=_;rw[Tc<|by rw[ϹN h,ϹN H]]
def mT(h:Ź)(k:Nat):Ś 0 (û k) 4:=by
 erw[I4,ay];rw[N2];cases hk:ts[k]? with
 |none=>show(Zbr 0,Ý)
 |some nd=>
  let:=h nd<|K9L hk;let a:=Ϻn;let b:=this.2.1;change Ś 0 (Ì nd.ç / 2) 4;lia
def Hk(p:ç)(h:Ź)(H:Č 0)(l:ϰJ 12)(g0:ϱy)(g1:϶D):Lp.Sm 256 ċ:=by
 let he:=ľ;show(Ý,λj k=>?_,λj=>?_)
 .by_cases d:j<Ã ċ
  .rcases uR d with⟨i,r,_,hr,e,_⟩|⟨i,r,_,hr,e,_⟩|⟨i,q,_,Q,e,_⟩
   .let(g,J):=ϸl
    let b:=J _ (ϴz (bX g));rw[e,HH p Á b];let:=ϯg b k;split<;>lia
   .let(g,J):=ϸl
    let b:=ώY (bX g);rw[e,Ij p Á b];let:=ϯg b k;split<;>lia
   let(L,f):=ϸt<|K9L Q;rw[e,GL p L f];let a:=ϯg L k;let b:=ϯg f k;lia
  let:dR ċ j=[]:=Ϗ dR (K9c Á)
  rw[this];let z:ϱk []=0:=rfl;rw[z];show(Ý,Ý)
 cases d:j<Ã ċ
 .rcases uR d with⟨i,r,_,hr,_,e⟩|⟨i,r,_,hr,_,e⟩|⟨i,q,_,Q,_,e⟩
  .rw[e]
   let:=ϱP ϰC;change Ś (-(ä 256)) (û ϰC) ϥI
   lia
  .rw[e]
   let:=ϱP ϱ;change Ś (-(ä 256)) (û ϱ) ϥI
   lia
  rw[e];let a:=ϱP q.1;let b:=ϱP q.2;change Ś (-(ä 256)) (ϱ1 q) ϥI
  erw[bI];lia
 let:dC ċ j=0:=Ϗ dC (K9c Á)
 rw[this];show(Ý,Ý)
end
def V1{r:Ò}(p:Ϯ0){a b:Nat}(A:a∈r)(B:b∈r)(h:a<b)(n:∀w∈r,a<w->b<=w):(a,b)∈ϳH:=by
 let(i,hi):=Zac A;let(j,H):=Zac B;let(d,f):=ϻW;let(J,c):=ϭf;rw[Zbn]at p;let I:i<j:=by
  rcases Zba i j with q|q|q
  .show q
  .subst q
   lia
  let:=p j i J d q;lia
 let L:i+1<r.À:=Á
 let W:=n _ (Zah L) (Ĳ<|p i (i+1) d L Á);let e1:r[i+1]=b:=by
  cases q:i+1=j
  .subst q
   show c
  let:=p (i+1) j L J Á;lia
 show K9L (i:=i) ?_;erw[prs];rw[Zan];show(hi,by rw[K84,ê (1+i=i+1),ϸT,e1])
def Uj{r:Ò}(p:Ϯ0){q:ϻ}(h:q∈ϳH):q.1<q.2:=by
 let(i,hi):=Zac h;erw[prs]at hi;rw[Zan]at hi;let(a,H):=hi;rw[K84]at H;let(d,f):=ZB.mp a;let(j,J):=ϭf;rw[Zbn]at p;let:=p i (1+i) d j Á;lia
def Co{a:À Ò}{r:Ò}(hr:r∈a){q:ϻ}(h:q∈ϳH):q∈S4 a:=by
 induction a with
 |nil=>cases hr
 |cons x a ih=>
  let e:S4 (x::a)=prs x++S4 a:=rfl;rw[e];rcases K8v.mp hr with rfl|hr
  .show ϰA h
  show Τ<|ih hr
section
variable{ts:À Nd}{c:F}{s:Bool}{Ds:Int}
def kP(he:ĕ){j:Nat}{r:Ò}(h:ę Í=ϰQ):Ϯ0/\∀k,k∈r↔Ć/\ϒ k=j:=by
 let ok:=ϵ5 ì;let(_,H,f):=ϫ7 h;show(H,Ϧc);rw[f k];constructor
 .rintro⟨a,b⟩
  show(a,?_);erw[lvN];rw[b];rfl
 ext⟨a,b⟩;show(a,?_);let:k<Ã ϱr:=ϔe f6
 rw[<-b];erw[lvN];rw[Nu this];rfl
def xy(he:ĕ){k:Nat}(h:Ć):∃r,Í[ϒ k]?=ϰQ/\k∈r:=by
 let ok:=ϵ5 ì;let U:k<Ã ϱr:=Ϲu f6
 let H:ϫ ϱr=Â (ϒ k):=Ϗ lvN (Nu U)
 let lt:=ok.lt k (ϒ k) h H;let e:Í[ϒ k]?=Â (Í[ϒ k]'lt):=Nu lt;show(_,e,(Ϻl e).2 k |>.mpr ⟨h,rfl⟩)
def nM(he:ĕ){q:ϻ}(h:q∈S4 Í):q.1<q.2/\Č q.2/\ϒ q.1=ϒ q.2:=by let(r,hr,H):=B6 h;let(j,J):=Zac hr;let(T,p2):=Ϻl J;let(M,Q):=BP H;let a:=(p2 _).mp M;let b:=(p2 _).mp Q;show(Uj T H,b.1,Ĥ a.2 b.2)
def Om(p:ç){e a u v:Nat}(U:(Å e)[a]?=ķ)(d:(Å e)[a+1]?=ĥ):(u,v)∈S4 Í:=by
 let he:=ľ;let m:=K9L U;let M:=K9L d;let g:=ϋ m;let gv:=ϋ M;let o:=ϳF m;let lv:=ϳF M;let t:Ϥe (Å e) ϩD:=ϵp F5 ύH
 let(r,hr,h):=xy he g.2;let(T,p2):=Ϻl hr;let(A,k):=ZB.mp U;let(b1,B):=ZB.mp d;let s:=t;rw[Zbn]at s;let V:u<v:=Ĳ (s a (a+1) A b1 Á)
 show ϯx<|V1 T h ((p2 v).mpr ⟨gv.2,Á⟩) V λw f H=>?_;cases W:v<=w
 .show W
 let(b,y):=(p2 w).mp f;let E:Ĩ w=Ì (ý w):=(ϷO he Á b).2.2;let x:=zU p b H Á ((bh.mp m).2) E;let Q:=zU p gv.2 Á Á E<|(bh.mp M).2;let e1:ý w=e:=Á
 let j:w∈Å e:=ϸK ⟨b,by rw[E,e1]⟩;let(i,hi):=Zac j;let(I,l):=ϻW;let c1:a<i:=by
  rcases Zba a i with q|q|q
  .show q
  .subst q
   lia
  let:=s i a I A q;lia
 let L:i<a+1:=by
  rcases Zba i (a+1)with q|q|q
  .show q
  .subst q
   lia
  let:=s (a+1) i b1 I q;lia
 lia
def GR{n:Nat}{row:À Int}{j:Nat}(J:j<n):dot n (λk=>Ë (k=j) 1 0) row=Ō j:=by
 erw[dot];change ĳ (λk=>Ō k*(Ë (k=j) 1 0))=_;rw[Lp.c7 (f:=λk=>Ō k*(Ë (k=j) 1 0)) (l:=j) n J λi x h=>Ĥ ϱB Zaa];change Ō j*(Ë (j=j) 1 0)=_;rw[Ĝ,Zbl]
def CS(p:ç)(l:é){e q u v k:Nat}(H:(ø e)[q]?=Ş)(U:(Å e)[q]?=ķ)(V:(Å e)[q+1]?=ĥ)(j:Nat)(J:j<Þ):Ņ (į v)-Ņ (į u)=Ë (j=k) 2 0:=by
 let he:=ľ;let ok:=ϰ2 l;let n:ϩM (ø e) Þ:=λe k H=>(sV ok H).2;let a:=kW (x:=λi=>Ë (i=j) 1 0) he n U;let b:=kW (x:=λi=>Ë (i=j) 1 0) he n V;let o:=vI (λi=>Ë (i=j) ((Ì 1)) 0) (ø e) q 0 q k Á H;erw[plc]at a b;rw[GR J,GR J]at a b;let e1:((Ë (k=j) ((Ì 1)) 0))*2=Ë (j=k) 2 0:=by
  cases h:k=j
  .rw[ϰo,Os h.Ï];rfl
  rw[ϱB,P3 Ϧm];rfl
 let O:eP (λi=>Ë (i=j) ((Ì 1)) 0) (q+1) (ø e) 0=eP (λi=>Ë (i=j) 1 0) q (ø e) 0+2*(Ë (k=j) 1 0):=o;erw[ST];rw[<-e1];lia
def FF(p:ç)(a:é):Η (Ã ċ) (Ã (dR ċ j)=Þ):=λj h=>by
 let he:=ľ;let ok:=ϰ2 a;let N:=qV ok;rcases uR h with⟨i,r,_,hr,e,_⟩|⟨i,r,_,hr,e,_⟩|⟨i,q,_,H,e,_⟩
 .let(g,J):=ϸl
  let b:=J _ (ϴz (bX g));rw[e];change Ã ([1,0]++τ (į ϰC) 2)=_;rw[K9v,K8y,ϹN b];simp;lia
 .let(g,J):=ϸl
  let b:=ώY (bX g);rw[e];change Ã ([0,1]++Ê (τ (į ϱ) 2) ϸo)=_;rw[K9v,K0,K8y,ϹN b];simp;lia
 let(L,l):=ϸt Ϧs;rw[e];change Ã (Cf _ _)=_;erw[Cf];rw[K0,Zao,ϹN L,ϹN l];lia
def Qb{row:À Int}{i:Nat}(h:row.À<=i):Ō i=0:=Ϗ pA (K9c h)
def Bh(he:ĕ){k:Nat}(H:Ć)(h:ϒ k=0):k=0:=by
 cases a:k=0
 .show a
 let T:=ϷO he Á H;let:=ϳF<|ϸK ⟨H,T.2.2⟩;lia
def By(p:ç)(H:Č 0)(a:é):∀i,i<Þ->∃j,j<Ã ċ/\rS (dR ċ j) i=true:=λi hi=>by
 let he:=ľ;let ok:=ϰ2 a;let(N,m):=ϺF H;let N:0<Ã Í:=N;let dl:=ύe;let R:Í[0]?=Â (Í[0]'N):=Nu N;let(F,J):=Ϫt R;let(P,p2):=Ϻl R;let re:=bX F;let h:hdN (Í[0]'N)=0:=ϖs ((ϴz re));let L:ltN (Í[0]'N)=0:=ϖs re.2.2.2;let Z:∀k,ϱk (į 0)=0:=λk=>by erw[ST];rw[qK H];erw[pA];rw[K8Z];split<;>rfl
 cases C:i=0
 .subst C
  show(0,Á,?_);let d:=Ia (s:=s) (Ds:=Ds) R;let e:dR ċ 0=(Ϥj į<|Í[0]'N).1:=ϸ9 dR
  rw[e,qW];show(?_,λl n=>?_)
  .rw[Ϙz,h,Z,Ĝ]
   decide
  rw[Ϙz,h,Z,P3 n];rfl
 cases c1:i=1
 .subst c1
  show(Ã Í+0,Á,?_);let d:=Er (s:=s) (Ds:=Ds) R;let e:dR ċ (Ã Í+0)=(Ϥk į<|Í[0]'N).1:=ϸ9 dR
  rw[e,qW];show(?_,λl n=>?_)
  .rw[ϘA,L,Z,Ĝ]
   decide
  rw[ϘA,L,Z,P3 n];rfl
 let(e,q,K):=Oh ok Á hi;let Q:=(ϱb K);let ln:=Ak ok (e:=e) (ϘI K);let U:(Å e)[q]?=Â ((Å e)[q]' Á):=Nu Á;let V:(Å e)[q+1]?=Â ((Å e)[q+1]' Á):=Nu Á;generalize (Å e)[q]' Á=u at U;generalize (Å e)[q+1]' Á=v at V;let(t,T):=Zac<|Om p U V;let(f,g):=ϸt<|K9L T;show(2*Ã Í+t,Ĳ (ZB.mp T).1,?_);let d:=Lw (s:=s) (Ds:=Ds) T;let er:dR ċ (2*Ã Í+t)=(ϹQ į (u,v)).1:=ϸ9 dR
 let r:=FF (s:=s) (Ds:=Ds) p a (2*Ã Í+t) (Ĳ (ZB.mp T).1);rw[er]at r⊢;rw[qW];show(?_,λl n=>?_)
 .rw[GL p f g]
  let:=CS p a K U V i hi;rw[Ĝ]at this;change 0<ř (į v)-ř (į u);lia
 cases b:l<Þ
 .rw[GL p f g]
  let:=CS p a K U V l b;rw[P3 n]at this;show this
 show Qb Á
end
def gS(t:Nat):Int:=(ä (64*24^t))
def CK(t:Nat):64<=gS t:=by
 erw[gS];let:1<=24^t:=Zfs Ý;lia
def Rg{a b:Nat}(h:a<b):24*gS a<=gS b:=by
 erw[gS];let H:24^(a+1)<=24^b:=Zbu Ý h;rw[Zcm]at H;lia
section
variable{ts:À Nd}{c:F}{s:Bool}{Ds:Int}
open Classical in
def xS(ts:À Nd)(s:Bool)(k:Nat):Int:=ϩo (∃e,k∈ø e) (gS (ϰL ϬI)) 0
def Nm(p:ç)(a:é){e k:Nat}(h:k∈ø e):ϹS k=gS (ϰL e):=by let x:∃e,k∈ø e:=⟨e,h⟩;erw[xS];rw[dif_pos x,QD (ϰ2 a) (Zab x) h]
def Lq(x:å)(g:Int)(hg:0<=g):∀(s:Ò)(a p:Nat),(∀k∈s,x k=g)->Ś (-(s.À*g)) (ϵx p) (s.À*g):=by
 induction _ with
 |nil=>ext _ _ _;rw[eP''];simp
 |cons k s N3=>
  ext a p h;let(b,c):=ϔI (λq H=>h q<|ě H);rw[eP',h k K9z,K9p,Zcv,Zbq];erw[sgn];split<;>lia
def QK(x:å)(g:Int)(hg:0<=g)(s:Ò)(H:∀k∈s,x k=g):∀(d a:Nat),a+d<=s.À->ϴ9 (a+d) s 0=ϵx 0+2*d*g:=by
 induction _ with
 |zero=>ext a _;rw[Zfl];simp
 |succ d N3=>
  ext a h;obtain⟨k,q⟩:∃k,s[a+d]?=Ş:=⟨s[a+d]' Á,Nu Á⟩
  let o:=vI x s (a+d) 0 (a+d) k Á q;rw[ê (a+(d+1)=a+d+1),o,N3 a Á,H k<|K9L q,Zcv,Zav,Zbq];lia
abbrev pS(ts:À Nd)(s:Bool)(k:Nat):Int:=ξ ø Þ ϹS k
def JE(p:ç)(b:Č 0)(K:ϰJ 12):∀l u v,u<v->϶4->ϒ u=l->ϒ v=l->ϭk u+64+12*gS (ϰL u)+12*gS (ϰL v)<=ϭk v:=by
 let he:=ľ;let ok:=ϰ2 Á;let N:ϩM (ø e) Þ:=λe k h=>(sV ok h).2;ext l
 induction l with
 |zero=>
  ext u v V H _ L;let:=Bh he H L;lia
 |succ l ih=>
  ext u v V H U L;let u0:0<u:=by
   rcases Zcg u with z|z
   .subst z
    let:=rj he b;lia
   show z
  let S:=ϨK ø Þ u0 Á;let d:=ϨK ø Þ Á H;let m:u∈Å (ý u):=ϸK ⟨Á,S.2.2⟩;let M:v∈Å (ý v):=ϸK ⟨H,d.2.2⟩;let Z:=DR p m;let r:=DR p M;let I:=Rg Z;let gv:=Rg r;let em:=zU p H V Á S.2.2 d.2.2;let pu:=pY (x:=ϹS) he N u0 (Á:u<ts.À);let pv:=pY (x:=ϹS) he N (Á:0<v) H;let G:=CK<|ϰL<|ý u;let g:=CK<|ϰL<|ý v;let f:∀e,Ì ((Ã (ø e)))<=10:=λe=>by
   let C:=ϔU Á e;let J:=Ke b he e;lia
  cases E:ý u=ý v
  ·
   rw[<-E]at M gv g pv;let a:(Å<|ý u)[Ÿ u]?=ķ:=χ aN (Nu<|List.idxOf_lt_length_iff.mpr m) Zcf
   let A:(Å<|ý u)[Ÿ v]?=ĥ:=by erw[aN];rw[<-E,Nu ϏH,Zcf]
   let(j,w):=ZB.mp a;let(b1,y):=ώH;let t:Ϥe (Å<|ý u) ϩD:=ϵp F5 ύH
   rw[Zbn]at t;let B:Ÿ u<Ÿ v:=by
    rcases Zba (Ÿ u) (Ÿ v)with q|q|q
    .show q
    .let:u=v:=by let e1:=a;rw[q,A]at e1;show(K9R e1).symm
     lia
    let:=t _ _ b1 j q;lia
   let F:ý u∈č:=ϳy ⟨϶u Á,Z8 Á⟩;let ln:=Bq ok (e:=ý u) Á<|EY ts s F;let of:=QK ϹS (gS<|ϰL<|ý u) Á (ø<|ý u) (϶U<|Nm p Á h) (Ÿ v-Ÿ u) (Ÿ u) Á;rw[ê (Ÿ u+(Ÿ v-Ÿ u)=Ÿ v)]at of;let D:Ì 1<=ä (Ÿ v-Ÿ u):=Á
   let o:=Zaf D (ê<|Ì 0<=gS (ϰL<|ý u));rw[Zaq]at o;rw[Zae]at of;erw[pS];lia
  let i:=ih (ý u) (ý v) Á Á (Ĳ<|ϳF m) (Ĳ<|ϳF M);let P:=Lq ϹS (gS<|ϰL<|ý u) Á (ø<|ý u) (Ÿ u) 0 λk h=>Nm p Á h;let R:=Lq ϹS (gS<|ϰL<|ý v) Á (ø<|ý v) (Ÿ v) 0 λk h=>Nm p Á h;let O:=Zaf (f<|ý u) (ê<|Ì 0<=gS (ϰL<|ý u));let Q:=Zaf (f<|ý v) (ê<|Ì 0<=gS (ϰL<|ý v));erw[pS]at i⊢;lia
def xx(X0 X1:Int)(x:å)(k:Nat):Int:=Ë (k=0) X0 (Ë (k=1) X1 (x k))
def CD(p:ç)(l:é){v:Nat}(H:϶4)(X0 X1:Int)(x:å):ϰR Þ (Ϥ2 (į v))=ξ ø Þ x v:=by
 erw[plc,dot];show ŭ ϔ2;erw[xx];cases a:i=0
 .subst a
  rw[vZ p l v H 0 Á,Zaa,Zam]
 cases h:i=1
 .subst h
  rw[vZ p l v H 1 Á,Zaa,Zam]
 rw[P3 a,ϱB,Zai]
def YM{n:Nat}{f:å}{y:å}{j:Nat}(J:j<n)(a:Int)(g:å)(F:∀i,f i=a*g i+(Ë (i=j) 1 0)):ĳ ϒf=a*ĳ (λi=>y i*g i)+y j:=by
 let e:ϒf=λi=>a*(y i*g i)+1*(Ë (i=j) (y j) 0):=by
  funext i;rw[F i,Zav,Zad];cases h:i=j
  .rw[ϰo,ϰo,h]
   lia
  rw[ϱB,ϱB];lia
 rw[e,Lp.kH,Lp.c7 (f:=λi=>Ë (i=j) (y j) 0) (l:=j) n J λi x H=>ϲb];change _+1*(Ë (j=j) (y j) 0)=_;rw[Ĝ];lia
def kg(p:ç)(a:é)(X0 X1:Int)(x:å){j:Nat}(H:j<Ã ċ):
  (∃(i:Nat)(r:Ò),j=i/\á Í=ϰQ/\dC ċ j=û ϰC/\ϰR Þ (Ϥ2 (dR ċ j))=ξ ø Þ x ϰC+X0)\/
  (∃(i:Nat)(r:Ò),j=Ã Í+i/\á Í=ϰQ/\dC ċ j=û ϱ/\ϰR Þ (Ϥ2 (dR ċ j))=-ξ ø Þ x ϱ+X1)\/
  (∃(i:Nat)(q:ϻ),j=2*Ã Í+i/\(S4 Í)[i]?=Â q/\dC ċ j=ϱ1 q/\ϰR Þ (Ϥ2 (dR ċ j))=ξ ø Þ x q.2-ξ ø Þ x q.1):=by
 let he:=ľ;let N:=qV<|ϰ2 a;rcases uR H with⟨i,r,e1,hr,g,G⟩|⟨i,r,e1,hr,g,G⟩|⟨i,q,e1,h,g,G⟩
 .let(f,J):=ϸl
  let b:=J _ (ϴz (bX f));show Ð ϙS;rw[g,YM (j:=0) Á 1 (pA<|į ϰC) (λi=>Ĥ (HH p a b) Zaq),CD p a b,Zaq];rfl
 .let(f,J):=ϸl
  let b:=ώY (bX f);show Ø<|Ð ϙS;rw[g,YM (j:=1) Á (-1) (pA<|į ϱ) (λi=>Ă (Ij p a b)),CD p a b];change -1*_+X1=_;lia
 let(L,l):=ϸt ϶w;show Ø<|Ø ⟨i,q,e1,h,G,?_⟩;let e:(λi=>Ϥ2 (dR ċ j))=λi=>1*(Ϥ2<|į q.2)+(-1)*(Ϥ2<|į q.1):=by
  funext i;rw[g,GL p L l,Zbw];lia
 rw[e,Lp.kH,CD p a l,CD p a L];lia
def N6(p:ç)(h:Ź)(k:Č 0)(L:ϰJ 12)(g0:ϱy)(g1:϶D):∃d,Lp.Dual Þ (Ã ċ) (Lp.RR ċ Þ) 1 d:=by
 let he:=ľ;let big:∀m,∃B:Int,∀v,v<m->-B<=ϭk v/\ϭk v<=B:=by
  ext m
  induction m with
  |zero=>show(0,λv V=>ĭ V<|Zbh v)
  |succ m ih=>
   let(B,H):=ih;show(max B (Ì (ϭk m).natAbs),λv V=>?_);cases e:v=m
   .subst e
    lia
   let:=H v Á;lia
 let(B,H):=big ts.À;show Lp.QV (x:=xx (B+64) (B+64) ϹS) Ý λj l=>?_;rw[Zaq];rcases kg (s:=s) p Á (B+64) (B+64) ϹS l with⟨i,r,_,hr,e1,g⟩|⟨i,r,_,hr,e1,g⟩|⟨i,q,_,Q,e1,g⟩
 .let(f,J):=ϸl
  let b:=H _<|J _ (ϴz (bX f));let G:=ϱP ϰC;rw[e1,g];erw[pS]at b;lia
 .let(f,J):=ϸl
  let b:=H _<|ώY (bX f);let G:=ϱP ϱ;rw[e1,g];erw[pS]at b;lia
 let(N,n,o):=ϵG<|K9L Q;let far:=JE (s:=s) p k L (ϒ q.1) q.1 q.2 N n rfl o.Ï;let a:=ϱP q.1;let b:=ϱP q.2;let c1:=CK<|ϰL q.1;let C:=CK<|ϰL q.2;rw[e1,g];erw[bI];erw[pS]at far;lia
end
open Lp (pA sm Dem dR dC Sl P0 vw Jn Mk pd px xE uE pE RR S0 Lone gy gcL Halt)
def WZ{n m z w:Nat}{R:ϹC}{S:Sl}{A:Nat}(J:ϲD S){i l:Nat}(hi:i<n)(a:l<n)(h:ŧ i=ŧ l):i=l:=by
 cases e:i=l
 .show e
 let H:=όH hi l (Zaj a) ϩX;let b:=J.inv.piv l a;rw[h]at H;lia
theorem xQ{n m z:Nat}{S:Sl}:∀k j,(∀l,l<k->ŧ l≠j)->Ņ (ϱG k)=0
 |0,j,_=>ϖT
 |k+1,j,h=>by
  let i:=xQ (n:=n) (m:=m) (z:=z) k j λl a=>h l Á;let e:=h k Á;erw[prF];erw[pA]at i⊢;rw[K9E e];show i
def Ms{n m z w:Nat}{R:ϹC}{S:Sl}{A:Nat}(J:ϲD S)(y:å):ϩG (sm m (λj=>Ņ (ϱG k)*y j)=sm k λl=>ϥ l z*ϳe l*y (ŧ l)):=by
 ext Y
 induction Y with
 |zero=>
  ext _;rw[Lp.cJ m λj x=>by rw[ϗN,Zam]];rfl
 |succ k N3=>
  ext H;let i:=N3 Á;let C:=J.ċ k Á;let Z:=xQ (n:=n) (m:=m) (z:=z) (S:=S) k (ŧ k) λl a h=>Ĳ (WZ J Á Á h)
  let d:=HZ (n:=m) (x:=y) (row:=ϱG k) (k:=ŧ k) C (wm S n m z k)<|ϥ k z*ϳe k;rw[Z,K8R]at d;erw[dot]at d;rw[sm.a2,<-i];show d
def Q1{n m z w:Nat}{R:ϹC}{S:Sl}{A:Nat}(J:ϲD S):ϩG (∀j,0<=Ņ (ϱG k)):=by
 induction _ with
  |zero=>
   ext _ j
   rw[ϗN];show Zbr 0
  |succ k ih=>
   intro hk j
   let h:=ih Á j;let C:=J.ċ k Á;erw[prF];rw[wj<|όq wm]
   split
   .show Zag (J.inv.rhs k Á)<|Zar<|Lp.Bg n (ϰp (ϫR hi))
   .show h
def Tu(h:á ρ=some (Ň<|dx.Ç OD.sh))(H:ę ρ=some (Ň<|dy.Ç OD.sh))(a:ϤJ=϶A)(c:f dx dy y.er=.ok r)(g:i≠j):ϒv ρ=ų ((ϰs<|some<|Ę r.1).set j<|some<|Ę r.2):=by
 erw[AH];rw[h,H];dsimp only;rw[o7,o7];dsimp only;rw[a,L3.R.bind,c,L3.R.bind,P3 g]
def MR(X:À Gc)(a n:Nat)(h:X.À=a+n+2):ϲc X (Â ϑ) (Â<|-2)=Ł (X.ä a) n:=by
 erw[cutD];let e:ϯm X.À (Â<|-2)=a+n:=by
  change(Ë (Ì (-2)<0) ((ĩ (Ì (-2)+Ì X.À)))<|min (ĩ (-2:Int)) X.À)=_;rw[Os Ý,h];lia
 rw[e,HT.uS,K8q Á,ê (a+n-a=n)]
def EO(f:å):∀n,(Ê ϲk f).sum=ĳ f:=by
 induction _ with|zero=>show rfl|succ n N3=>rw[K8A,K9i,Zbf,N3,sm.a2];simp
def Mz{a b:À Int}{n:Nat}(A:a.À=n)(B:b.À=n):(Ê ϬW λp=>p.1*p.2).sum=ĳ (λk=>pA a k*pA b k):=by
 rw[<-EO];show ϐN ?_;apply K9K;ext i;rw[N2,N2];cases hi:i<n
 .let:á ϬW=Â (a[i]' Á,b[i]' Á):=Ô Zan (Nu Á,Nu Á)
  rw[this,ϴj,Zbe,Zbe];erw[pA];rw[Nu Á,Nu Á];rfl
 rw[K9c (Ă Zao),K9c<|Ă Z7];rfl
def Uh(ts:À Nd)(he:ĕ):∀(E:Ò),E.Í->∀m,m<=ts.À->(ώQ<|(Ã (ϳB m e))).sum<=m-1:=by
 ext E H m
 induction m with
 |zero=>
  ext _;let:(ώQ<|(Ã (ϳB 0 e)))=E.Ç λx=>0:=K8u λe x=>rfl;rw[this];clear H this
  induction E with|nil=>show ì|cons a E i=>rw[K9w,Zap];lia
 |succ m i=>
  ext M;let i:=i Á;let e1:(ώQ<|(Ã (ϳB (m+1) e)))=ώQ (Ã (ϳB m e)+(Ë (Ĩ m=϶t) 1 0)):=K8u λe x=>by rw[uQ,K9v];split<;>rfl
  let c:∀(f g:ņ)(E:Ò),ϖK E.Ç (λe=>f e+g e):=by
   ext f g E
   induction E with|nil=>rfl|cons a E i=>rw[K9w,K9w,K9w,Zap,Zap,Zap,i];lia
  let G:∀(z:Int)(E:Ò),E.Í->(E.Ç λe:Nat=>(Ë (z=϶t) 1 0:Nat)).sum<=ϱC (Ë (0<=z) 1 0):=by
   ext z E H
   induction E with
   |nil=>show ϰS
   |cons a E i=>
    rw[K8k]at H;rw[K9w,Zap];cases h:z=ϑ
    .let l:∀(E:Ò),a∉E->(E.Ç λe:Nat=>(Ë (z=϶t) 1 0:Nat)).sum=0:=by
      ext E
      induction E with
      |nil=>ext _;rfl
      |cons b E i=>
       ext B;rw[K9w,Zap,i λq=>B<|ě q,P3];ext q;show B ?_;let:a=b:=Á
       rw[this];show K9z
     rw[l E H.1,ϰo,Os Á];show ì
    rw[ϱB,K87];show i H.2
  rw[e1,c];let:=G (Ĩ m) E H;cases Z:m=0
  .subst Z
   obtain⟨nd,n⟩:∃nd,ts[0]?=Â nd:=⟨ts[0]' Á,Û⟩
   let q:=(he 0 nd n).1 rfl;rw[<-bL n]at q;rw[P3<|show¬0<=Ĩ 0 by rw[q];decide]at this;lia
  split at this<;>lia
def HJ{ts:À Nd}{c:F}(p:ç)(s:Bool)(f:Č 0)(l:ϰJ 12):Þ<=13:=by
 let he:=ľ;let ok:=ϰ2 Á;rw[Pq ok];erw[cOf];rw[K8D];let k:(Ê (Ķ s) λg=>ϴk ϓ).sum<=((Ê (Ķ s) λg=>(ϓ).1).map λe=>(Ã (ϳB ts.À e))).sum:=by
  rw[S1];let:∀(G:À (À Tm)),(∀g∈G,ϴk ϓ<=Ã (Å (ϓ).1))->(G.Ç λg=>ϴk ϓ).sum<=(G.Ç<|(λe=>(Ã (ϳB ts.À e)))∘λg=>(ϓ).1).sum:=by
   ext G
   induction G with
   |nil=>ext _;show ì
   |cons g G ih=>
    ext h;rw[K9w,K9w,Zap,Zap];let a:=h g K9z;let b:=ih λg' H=>h g'<|ě H;change _<=Ã (Å (ϓ).1)+_;lia
  show Ϧo ((ϥ4 g));let:=Ny ts ϓ;let d:=(ok.lt g hg _<|zK<|ok.ne g hg).2;erw[wdS]at this;lia
 let nd:(Ê (Ķ s) λg=>(ϓ).1).Nodup:=by
  rw[List.Nodup,Zbn];ext i j hi J I;rw[K0]at hi J;rw[Zcn,Zcn];let a:=ok.dj i j _ _ ϰD ϶Q Á _ (zK<|Ϛs<|Zah hi) _<|zK<|Ϛs<|Zah J;show a
 let d:=ϛ8 ì;lia
structure Nw(ts:À Nd)(s:Bool)(Ds:Int)(S:Sl):Prop where
 J:Jn Þ (Ã ċ) (Ã ċ+Þ+1) (Ã ċ+Þ+2) 256 (RR ċ Þ) S
 H:Halt Þ (Ã ċ) ϲV
def nwX(ts:À Nd)(s:Bool)(Ds:Int)(S:Sl):å:=xE ċ Þ S
def Z3(ts:À Nd)(s:Bool)(Ds:Int)(S:Sl):Int:=uE ċ Þ S
def nwP(ts:À Nd)(s:Bool)(Ds:Int)(S:Sl):À Int:=Ā ts.À λk=>ξ ø Þ ı k
def nwR(ts:À Nd)(s:Bool)(Ds:Int)(S:Sl):À Int:=prF S Þ (Ã ċ) (Ã ċ+Þ+1) Þ
def nwQ(ts:À Nd)(s:Bool)(Ds:Int)(S:Sl):À Int:=gy Ϥ5
def nwO(ts:À Nd)(s:Bool)(Ds:Int)(S:Sl):OD:=.ot [϶J<|Ϗm Ě,Ñ Ě,.ot [϶J<|ϰx Ġ,϶J<|ϰ5 Ġ,϶J<|ϰ4 Ġ]]
def JD:∀l:À Int,ϵ As ϲH:=by
 induction _ with|nil=>show rfl|cons a l N3=>rw[K9w,As',N3];rfl
def vC{ts:À Nd}(h:Ź):ϵe:=λn H=>Ĳ (h n H).2.1
section
variable{ts:À Nd}{c:F}{s:Bool}{Ds:Int}{S:Sl}
def Nw.ro(N:Ű)(p:ç)(h:Ź)(a:Č 0)(l:ϰJ 12)(g0:ϱy)(g1:϶D):∀i,i<=Þ->Bd XS (î i):=
 Nr N.J όm (λi hi j=>Lp.Bb (Hk p h a l g0 g1) _ i hi j) (Ĳ<|qV (ϰ2 Á)) (HJ p s a l)
def Nw.pz(N:Ű)(p:ç)(a:é):∃k,ϱk Ϥ5≠0:=by
 show ϫH;let z:∀k,ϱk Ϥ5=0:=λk=>Zbc λw=>no ⟨k,w⟩;let n:=qV<|ϰ2 a;let e:=Lp.Kg N.J (i:=0) Á;let q:=Ms N.J (λj=>pA (dR ċ j) 0) Þ ì;rw[ϭl (λj x=>by let:=z j;erw[nwR]at this;rw[this,Zam])]at q;let g:sm Þ (λl=>pE ċ Þ S l*pA (dR ċ<|ŧ l) 0)=0:=q.Ï;rw[g,Os Ý,Zbl]at e;let:=Lp.w_ N.J.inv;lia
def Nw.start(p:ç)(h:Ź)(H:Č 0)(l:ϰJ 12)(g0:ϱy)(g1:϶D):∃S,Ű/\sx (T0 (S0 ċ Þ<|chL ċ Þ).r) (aO<|chL ċ Þ) (Ä (Ì ((Ã ċ))))=Ħ (ϴa,ϵD):=by
 let ok:=ϰ2 Á;let N:=qV ok;let n:=HJ p s H l;let m:=ϑ2 l g0 g1;let lo:=HE (ϕy Á);let(d,D):=N6 (s:=s) p h H l g0 g1;let R:=λi hi j=>Lp.Bb m Þ i hi j;let e:=Lp.YL (A:=256) lo (Á:0<Þ);let(j,k):=Lp.Jn.ends D όm Ý R Á e;let he:=ľ;let nl:ϲv (Ã ċ):=by
  rw[lJ];let a:=oO Í;let b:İ (Ê Í List.length).sum:=(ϵ5 ì).sum;let c:ϱ0 (Ã Í):=(ϺF H).2;lia
 let(g,M,f,r):=II D e (λS J=>Wc J όm R Á n) rfl Á Á Á k;show(g,(M,f),?_);let Y:(S0 ċ Þ<|chL ċ Þ).c=chL ċ Þ:=rfl;rw[Y]at r;show VY r
def NM(N:Ű)(k:Nat)(h:k<Þ):pA ((Ł (τ (î Þ) (Ã ċ)) Þ).map ϸo) k=ı k:=by
 rw[Cv];change -ϱk _=-pA (î Þ) (Ã ċ+k);erw[pA];rw[K97 h,K84]
end
section
variable{ts:À Nd}{c:F}{s:Bool}{Ds:Int}
def Lm(ts:À Nd)(s:Bool):(ω ø Þ ts.À)=Ā ts.À į:=by
 apply K9K;ext i;rw[N2];cases hi:i<ts.À
 .rw[ϴj,Nu<|ϷX mQ]
  change _=Â (Ó (á<|ω ø Þ ts.À) []);rw[Nu<|ϷX mQ];rfl
 rw[K9c (Ă mQ),K9c<|Ă Z7];rfl
def BB(p:ç)(h:Ź)(H:Č 0)(m:ϰJ 12)(g0:ϱy)(g1:϶D):∃S,Ű/\kT [Ï è,Ä Ds,ã s]=Ħ (nwO ts s Ds S):=by
 let he:=ľ;let ok:=ϰ2 Á;let n2:=qV ok;let R:=HJ p s H m;let B:=vC h;let(S,N,fm):=Nw.start (s:=s) p h H m g0 g1;show(S,N,?_);let bd:=N.ro p h H m g0 g1;let nl:ϱ0 (Ã Í):=(ϺF H).2;let dl:=ύe;let bl:ϱ0 (Ã (S4 Í)):=by
  let a:=oO Í;let b:İ (Ê Í List.length).sum:=(ϵ5 ì).sum;lia
 let pr:=Ax ts p h Á H s Á;let sS:∀k,Ó (ϫ<|ω ø Þ ts.À) []=į k:=λk=>rfl;let wS:∀k,Ć->Ã (Ó (ϫ<|ω ø Þ ts.À) [])=Þ:=λk K=>gR he k K;let sd:=xm ts (ω ø Þ ts.À) he H Á B (mQ _ _ _ _) Þ n2 Á wS;let gd:=zm ts (ω ø Þ ts.À) Ds he H Á B (mQ _ _ _ _) Þ Á wS
 let T:c9 [Ï è,Ï<|T0<|ω ø Þ ts.À]=.ok (Ę<|dsD<|ϥM į):=sd;let G:dW [Ï è,Ï<|T0<|ω ø Þ ts.À,Ä Ds]=.ok (Ę<|dsD<|Ϩ0 į):=gd;let ad:=kE (a:=dsD<|ϥM į) (b:=dsD<|Ϩ0 į) (by
  rw[tY,tY];let:Ã (ϥM į)+Ã (Ϩ0 į)=Ã ċ:=by
   change _=Ã (ϥM į++Ϩ0 į);rw[K9v]
  lia)
 rw[uI]at ad;let dE:ϥM į++Ϩ0 į=ċ:=rfl;rw[dE]at ad;let n1:0<Ã Í:=(ϺF H).1;let lo:=Oz (D:=ċ) (n:=Þ) Á (FF p Á) Á Á (By p H Á);let o:=HE (ϕy Á);let ro:=OK o (ϑ2 m g0 g1) (FF p Á) Á Á Ý n2;let W:=Lp.YL (A:=256) o (Á:0<Þ);generalize g:ċ=D at*;let cl:Ã (ϰ9 Þ)=Þ:=o.í;let E:∀L:À Gc,ß L.Ç OD.sh OD.er=L:=aI;let b3:∀w7 w8 w9:Ü OD,yy 5 (aj gJ<|È 4<|È 5 ai) [â è,some<|Ñ Ds,Ĕ<|ã s,â<|T0<|ω ø Þ ts.À,â ϵK,some<|Ę<|aO<|ϰ9 Þ,none,w7,w8,w9]=.ok (Ę<|T0 (S0 D Þ<|ϰ9 Þ).r):=λw7 w8 w9=>by
  show UY 5 _ _ (ds:=aO<|ϰ9 Þ) rfl ?_ ?_
  .simp![E,ro]
  rw[K7x];ext y Y;let(d,hd,rfl):=XV.mp Y;erw[T0]at hd;let(r,hr,rfl):=ϤS hd;let(i,hi):=Zac hr;let O:=(ϻW).1;rw[W.lr]at O;let rl:=W.row i Á;let e:P0 (S0 D Þ<|ϰ9 Þ) i=r:=by erw[P0];rw[hi];rfl
  rw[e]at rl;change Μ (Õ (Ã Ϸ5≠Ã (aO<|ϰ9 Þ))&&As Ϸ5);rw[JD,Zfi,K0,eS,cl,rl,K9k];lia
 let mu:=Tu (ρ:=[â è,some<|Ñ Ds,Ĕ<|ã s,â<|T0<|ω ø Þ ts.À,â ϵK,some<|Ę<|aO<|ϰ9 Þ,some<|Ę<|T0 (S0 D Þ<|ϰ9 Þ).r,none,none,none]) (i:=6) (j:=5) (fa:=ħ<|È 4 ai) (f:=sx) (dx:=T0 (S0 D Þ<|ϰ9 Þ).r) (dy:=aO<|ϰ9 Þ) (y:=Ñ<|(Ì D.À)) (r:=(ϴa,ϵD)) rfl rfl (by let:=tY D;simp![E,this]) (by rw[bc];show fm) Ý;let J:=N.J;rw[g]at J;let Q:=J.row Þ ì;let C:=Bu (rs:=S.r) (n:=Þ) J.lr;let r1:Ó (S.r[Þ]?) []=î Þ:=rfl;rw[r1]at C;erw[iD]at C;let X:=KU (l:=î Þ) (z:=D.À+Þ) (ϰT Q);let U:pA (î Þ) (D.À+Þ)=Ě:=Ϗ Z3 g
 rw[U]at X;let c1:ϲc ((î Þ).map int) (Â<|(Ì D.À)) (Â<|-2)=(Ł (τ (î Þ) D.À) Þ).map int:=by rw[MR _ D.À Þ (Ĥ K0 Q),<-Zbt,<-K7n]
 let t:Ì ((Ã ϵK))=Ì D.À:=ϰT tY
 let tl:Ã (Ł (τ (î Þ) D.À) Þ)=Þ:=ϳq K9f K8y Q
 let sz:=NM N;rw[g]at sz;let u:Ã ((Ł (τ (î Þ) D.À) Þ).map ϸo)=Þ:=by rw[K0,tl]
 let bz:∀x∈((Ł (τ (î Þ) D.À) Þ).map ϸo),W4 x:=λx hx=>by
  let(y,Y,rfl):=ϤS hx;let:=(bd Þ ì).mem y<|Zca<|List.mem_of_mem_take Y;show u9 (by let:XS<=XB:=œ;lia)
 generalize hZ:((Ł (τ (î Þ) D.À) Þ).map ϸo)=Z at*;let e8:∀v:L3.Env,aJ ϰb aT (ġ Ľ) (none::v) ((Ł (τ (î Þ) D.À) Þ).map int) []=Ħ (aG Z):=λv=>by
  generalize I:Į=rc;let e:=aS I int (λx=>Ñ<|-x) (Ł (τ (î Þ) D.À) Þ) rfl (by rw[tl];show K94<|aF Á) ϮA;subst e;rw[zD,hZ]
 let e9:aJ ϰb aT (ϸa<|ae (ϺJ Ľ Ŋ (ϡ<|Œ 0 1 bB) aT (ñ gn 0 Ŋ) 2 []) ai) [none,â<|Z.Ç int] (T0<|ω ø Þ ts.À) []=.ok (aG ϯv):=by
  generalize I:Į=rc
  let e:=aS I (ϰU<|iD<|į k) (λk=>Ñ<|ξ ø Þ ı k) ϳR (ϰZ T0 Lm S1) (Ô Z7<|K94<|aF Á) (by
   ext k K;let K:=Ϸw K;let zi:=Am (į k) Z;erw[iD];simp![zi];generalize M:Į=rc2
   let e2:=aS M (λq:ϰj=>ϱZ [Ä q.1,Ä q.2]) (λq=>Ñ<|q.1*q.2) ((į k).zip Z) rfl (by rw[Zao,u];show K94<|aF Á) (by
    ext q hq;let b1:Ś (-(Ì XB)) q.1 XB:=by
     let(j,hj):=Zac (K7w hq).1;let w:=C1 (s:=s) p H m k K j;erw[pA]at w;rw[hj]at w;let:ϱC 200<=XB:=œ
     let w:ϥi (11*ë) q.1:=w;lia
    let m1:=ϫl b1 (bz _ (K7w hq).2);simp![m1])
   subst e2;let em:Ϩq (Ê ((į k).zip Z) λq=>Đ<|Ä<|q.1*q.2) (Ê ((į k).zip Z) λq=>q.1*q.2):=Ε S1 S1 (ϻ6 ϰn)
   let zs:=Mz (a:=į k) (b:=Z) (gR he k K) u;let pe:ϰR Þ (ř (į k)*pA Z i)=ξ ø Þ ı k:=by erw[plc,dot];show ŭ ((ϰp (ϰT (sz i hi))))
   simp![em,lh,zs,pe])
  subst e;rw[zD];rfl
 let P:İ (Ã ϯv):=χ nwP K0 Z7
 let uw:W4 Ě:=by rw[<-U];show u9<|DP (bd _ ì) _
 let mv:=LC ts ϯv Ě H Á B P uw;let V:=ϑ2 m g0 g1;let pz:=N.pz p Á;let po:d4 [Ï ϴa,Ï ϵD,Ä (Ì D.À)]=ģ (aG Ġ):=by
  let:=JW J όm (λi hi j=>ϱD (Lp.Bb V Þ i hi j) g) Á R rfl Á Á (by erw[nwR]at pz;rw[g]at pz;show pz);rw[this];erw[nwQ,nwR];rw[g]
 let ql:Ã Ġ=2*Ã Í+Ã (S4 Í):=by erw[nwQ];rw[Lp.BC];erw[nwR];rw[wm,g,dl]
 let tp:=Aq ts Ġ he H Á ql;erw[kT,kO,nwO];let F:ł (Õ (Ì 12<Ì ts.À)):=K9q Á;simp![aH,F,pr,E,T,G,ad,lo,↓b3,↓mu,C,X,t,c1,e8,aW,e9,mv,po,tp];rfl
end
section
variable{ts:À Nd}{c:F}{s:Bool}{Ds:Int}{S:Sl}
def wP(ts:À Nd)(s:Bool)(Ds:Int)(S:Sl)(k:Nat):Int:=ξ ø Þ ı k
private def OJ(x:å):xx (x 0) (x 1) x=x:=by
 funext k;erw[xx];split
 .rename_i h;rw[h]
 split
 .rename_i h;rw[h]
 rfl
def Nw.dem(N:Ű){j:Nat}(J:j<Ã ċ):Ě*dC ċ j<=ϰR Þ (xx (ı 0) (ı 1) ı i*ř (dR ċ j)):=Ô OJ (Lp.Io N.J N.H J)
def Nw.left(N:Ű)(p:ç)(l:é){i:Nat}{r:Ò}(h:á Í=ϰQ):Ě*û ϰC<=ϰ0 ϰC+ı 0:=by
 let hi:=ϲG;let J:i<Ã ċ:=Ă lJ
 let d:=N.dem J;rcases kg (Ds:=Ds) p l (ı 0) (ı 1) ı J with⟨k,R,e,hr,H,a⟩|⟨k,R,e,hr,H,a⟩|⟨k,q,e,hr,H,a⟩
 .subst e
  rw[h]at hr;cases hr;rw[H,a]at d;show d
 .lia
 lia
def Nw.right(N:Ű)(p:ç)(l:é){i:Nat}{r:Ò}(h:á Í=ϰQ):Ě*û ϱ<=-ϰ0 ϱ+ı 1:=by
 let hi:=ϲG;let J:Ã Í+i<Ã ċ:=Ă lJ
 let d:=N.dem J;rcases kg (Ds:=Ds) p l (ı 0) (ı 1) ı J with⟨k,R,e,hr,H,a⟩|⟨k,R,e,hr,H,a⟩|⟨k,q,e,hr,H,a⟩
 .let:=(ϱb hr)
  lia
 .let e:k=i:=Á
  subst e;rw[h]at hr;cases hr;rw[H,a]at d;show d
 lia
def Nw.far(N:Ű)(p:ç)(l:é){q:ϻ}(h:q∈S4 Í):Ě*ϱ1 q<=ϰ0 q.2-ϰ0 q.1:=by
 let(i,hi,Q):=Zal h;let Q:(S4 Í)[i]?=Â q:=Ĥ ϰD Q
 let J:2*Ã Í+i<Ã ċ:=Ă lJ
 let d:=N.dem J;rcases kg (Ds:=Ds) p l (ı 0) (ı 1) ı J with⟨k,R,e,hr,H,a⟩|⟨k,R,e,hr,H,a⟩|⟨k,b,e,hr,H,a⟩
 .let:=(ϱb hr)
  lia
 .let:=(ϱb hr)
  lia
 let e:k=i:=Á
 subst e;rw[Q]at hr;cases hr;rw[H,a]at d;show d
def V7(p:ç)(l:é){e a b:Nat}(A:(Å e)[0]?=Ϸr)(B:Ϥb (Å e)=ϧ):2*ϰ0 e=ϰ0 a+ϰ0 b:=by
 let he:=ľ;let n:ϩM (ø e) Þ:=λe k H=>(sV (ϰ2 l) H).2;erw[wP];rw[Zbo]at B;rw[kW he n A,kW he n B,EX _ _ _ _<|N4 0];cases h:ø e=[]
 .rw[h]
  simp[eP];lia
 rw[Vz]
 .lia
 rw[Ak (ϰ2 l) h];lia
end
def fj(a:Int)(f:å)(n:Nat):ĳ (λi=>a*f i)=a*ĳ f:=by let:=Lp.kH a 0 f f n;rw[Zam,Zak]at this;rw[<-this];show Lp.aM n λi x=>Ĥ Zam Zak
def lF(f g:å)(n:Nat):ĳ (λi=>f i+g i)=ĳ f+ĳ g:=by let:=Lp.kH 1 1 f g n;rw[Zaq,Zaq]at this;rw[<-this];show Lp.aM n λi x=>Ĥ Zaq Zaq
def vF(f:Nat->å)(a:Nat):∀b,sm a (λi=>sm b<|f i)=ϗO:=by
 induction _ with
 |zero=>show Lp.cJ a λi x=>rfl
 |succ b N3=>
  change sm a (λi=>sm b (f i)+f i b)=ϗO+sm a λi=>f i b;rw[lF,N3]
def vB(f:å)(a:Nat):∀b,sm (a+b) f=sm a f+sm b λj=>f (a+j):=by
 induction _ with
 |zero=>show(Zak _).symm
 |succ b N3=>
  change sm (a+b) f+f (a+b)=_+(_+_)
  rw[N3,Zfj]
def LM{f g:å}:∀n,(ŵ<|f i<=g i)->ĳ f<=ĳ g:=by
 induction _ with|zero=>ext _;show ϺC|succ n N3=>ext h;show Zfb (N3 λi hi=>h i Á) (h n Á)
section
variable{ts:À Nd}{c:F}{s:Bool}{Ds:Int}{S:Sl}
def nwG(ts:À Nd)(s:Bool)(Ds:Int)(S:Sl):Int:=ϰM Ϥ5
def qv(ts:À Nd)(s:Bool)(Ds:Int)(S:Sl)(j:Nat):Int:=Ņ Ġ
def nwB(ts:À Nd)(s:Bool)(S:Sl):Int:=Lp.P Þ ϲV
def Nw.g0(N:Ű)(p:ç)(a:é):0<ϥf:=by let(k,h):=N.pz p a;show Lp.mI h
def Nw.dot(N:Ű)(y:å):ϥf*sm (Ã ċ) (λj=>ϻd j*y j)=sm Þ λl=>pE ċ Þ S l*y (ŧ l):=by
 let:=Ms N.J y Þ ì;rw[<-fj];show Eq.trans (ŭ<|λj x=>?_) this;change _=Ņ Ϥ5*y j;rw[<-Lp.Bt (ns:=Ϥ5) j,Zae];rfl
def Nw.qn(N:Ű)(p:ç)(a:é)(j:Nat):0<=ϻd j:=by let g:=N.g0 p a;let r:0<=Ņ Ϥ5:=Q1 N.J Þ ì j;rw[<-Lp.Bt]at r;show Int.nonneg_of_mul_nonneg_right r g
def Nw.main(N:Ű)(p:ç)(a:é)(X:å):ϥf*sm (Ã ċ) (λj=>ϻd j*ϰR Þ (X i*ř (dR ċ j)))=ϻI*(X 0+X 1):=by
 rw[N.dot];let e:∀l,l<Þ->pE ċ Þ S l*ϰR Þ (X i*ř (dR ċ<|ŧ l))=ϰR Þ (X i*(pE ċ Þ S l*ř (dR ċ<|ŧ l))):=λl x=>Ϙ fj (ŭ (λi x=>Zad ..))
 rw[ŭ e,vF];let g:∀i,i<Þ->(sm Þ λl=>X i*(pE ċ Þ S l*ř (dR ċ<|ŧ l)))=ϻI*(X i*Ë (i<2) 1 0):=ϰp (Ε fj (Lp.Kg N.J hi) (Zad ..))
 rw[ŭ g,fj];congr 1;let H:=qV<|ϰ2 a;obtain⟨m,M⟩:∃m,Þ=2+m:=⟨Þ-2,Á⟩
 rw[M,vB,Lp.cJ m λj x=>Ĥ (P3 Á) Zaa];change 0+X 0*_+X 1*_+0=_;rw[Os Ý,Os Ý];lia
def lfV(ts:À Nd)(s:Bool)(Ds:Int)(S:Sl)(i:Nat):Int:=ϻd i
def rtV(ts:À Nd)(s:Bool)(Ds:Int)(S:Sl)(i:Nat):Int:=ϻd<|Ã Í+i
def gpV(ts:À Nd)(s:Bool)(Ds:Int)(S:Sl)(i:Nat):Int:=ϻd<|2*Ã Í+i
def rwN(ts:À Nd)(i:Nat):Ò:=Ó (á Í) []
def nbN(ts:À Nd)(i:Nat):ϻ:=Ó ((S4 Í)[i]?) (0,0)
def three(y:å):sm (Ã ċ) (λj=>ϻd j*y j)=sm (Ã Í) (ϰt lfV<|y i)+sm (Ã Í) (ϰt rtV<|y (Ã Í+i))+sm (Ã (S4 Í)) (ϰt gpV<|y (2*Ã Í+i)):=by
 rw[lJ,ê (ϒP 2 (Ã Í) (Ã Í)),vB,vB];erw[lfV,rtV,gpV];rw[ê (ϒP 2 (Ã Í) (Ã Í))]
def Nw.sums(N:Ű)(p:ç)(a:é)(X0 X1:Int)(x:å):ϥf*(sm (Ã Í) (ϰt lfV<|ξ ø Þ x (hdN<|Ū i)+X0)+sm (Ã Í) (ϰt rtV<|-ξ ø Þ x (ltN<|Ū i)+X1)+sm (Ã (S4 Í)) (ϰt gpV<|ξ ø Þ x (Ŧ).2-ξ ø Þ x (Ŧ).1))=ϻI*(X0+X1):=by
 let m:=N.main p a<|xx X0 X1 x;rw[three]at m;let m:_=ϻI*(X0+X1):=m;rw[<-m];congr 1;let d:=ύe;show ϧ5 (ϧ5 (ŭ ϱn)<|ŭ ϱn)<|ŭ ϱn
 .rcases kg (s:=s) (Ds:=Ds) p a X0 X1 x (j:=i) Á with⟨k,r,e,hr,h,H⟩|⟨k,r,e,hr,h,H⟩|⟨k,q,e,hr,h,H⟩
  .subst e
   rw[H];erw[rwN];rw[hr];rfl
  .lia
  lia
 .rcases kg (s:=s) (Ds:=Ds) p a X0 X1 x (j:=Ã Í+i) Á with⟨k,r,e,hr,h,H⟩|⟨k,r,e,hr,h,H⟩|⟨k,q,e,hr,h,H⟩
  .let:=(ϱb hr)
   lia
  .let e:k=i:=Á
   subst e;rw[H];erw[rwN];rw[hr];rfl
  lia
 rcases kg (s:=s) (Ds:=Ds) p a X0 X1 x (j:=2*Ã Í+i) Á with⟨k,r,e,hr,h,H⟩|⟨k,r,e,hr,h,H⟩|⟨k,q,e,hr,h,H⟩
 .let:=(ϱb hr)
  lia
 .let:=(ϱb hr)
  lia
 let e:k=i:=Á
 subst e;rw[H];erw[nbN];rw[hr];rfl
end
section
variable{ts:À Nd}{c:F}{s:Bool}{Ds:Int}{S:Sl}
def ko(ts:À Nd)(k:Nat):ξ ø Þ (Ţ 0) k=0:=ϭl (λi x=>Zaa _)
def bot(ts:À Nd)(s:Bool)(Ds:Int)(S:Sl):Int:=sm (Ã Í) ϫj
def Nw.bl(N:Ű)(p:ç)(a:é):ϥf*Ϸ=ϻI:=by
 let h:=ύf 1 0 (λx=>0);rw[Lp.aM (g:=ϫj) _ λi x=>by rw[ko,K8R,Zbl],Lp.cJ (f:=ϰt rtV _) _ λi x=>Ô ko (Zaa _),Lp.cJ (f:=ϰt gpV _) _ λi x=>Ε ko ko (Zaa _),Zak,Zak,Zak,Zbl]at h;show h
def Nw.br(N:Ű)(p:ç)(a:é):sm (Ã Í) ϧW=Ϸ:=by
 let h:=ύf 0 1 (λx=>0);rw[Lp.cJ (f:=ϰt lfV _) _ λi x=>Ô ko (Zaa _),Lp.aM (g:=ϧW) _ λi x=>Ô ko (Zbl _),Lp.cJ (f:=ϰt gpV _) _ λi x=>Ε ko ko (Zaa _),Zak,K8R,K8R,Zbl,<-ώz]at h;show Zbj ϯs h
def Nw.b1(N:Ű)(p:ç)(a:é):1<=Ϸ:=by
 let h:=ώz;let H:0<ϻI:=Lp.w_ N.J.inv;let g:=N.g0 p a;rcases Int.lt_or_le 0 Ϸ with q|q
 .show q
 let:=Int.mul_nonpos_of_nonneg_of_nonpos (Zar g) q;lia
def Nw.calm(N:Ű)(p:ç)(a:é)(x:å):Ϲg sm ((Ã Í)) (ϰt lfV<|ξ ø Þ x (hdN<|Ū i)) (ϰt rtV<|ξ ø Þ x (ltN<|Ū i))+sm (Ã (S4 Í)) (ϰt gpV<|ξ ø Þ x (Ŧ).2-ξ ø Þ x (Ŧ).1)=0:=by
 let h:=ύf 0 0 x;rw[Lp.aM (g:=ϰt lfV (ξ ø Þ x (hdN<|Ū i))) _ λi x=>ϰT Zak,Lp.aM (f:=ϰt rtV _) (g:=λi=>(-1)*(ϧW i*ξ ø Þ x (ltN<|Ū i))) _ λi x=>by rw[Zak,Zcx,Zcc,Zaq],fj,Zak,Zaa]at h;let:=(Int.mul_eq_zero.mp h).resolve_left ϯs;lia
def wor(ts:À Nd)(s:Bool)(Ds:Int)(S:Sl):Int:=sm (Ã Í) (ϰt lfV<|û (hdN<|Ū i))+sm (Ã Í) (ϰt rtV<|û (ltN<|Ū i))+sm (Ã (S4 Í)) (ϰt gpV<|ϱ1 Ŧ)
def T7(p:ç)(a:é):sm (Ã ċ) (λj=>ϻd j*dC ċ j)=ϵk:=by
 rw[three];erw[wor];let d:=ύe;show ϧ5 (ϧ5 (ŭ ϱn)<|ŭ ϱn)<|ŭ ϱn
 .rcases kg (s:=s) (Ds:=Ds) p a 0 0 (Ţ 0) (j:=i) Á with⟨k,r,e,hr,h,H⟩|⟨k,r,e,hr,h,H⟩|⟨k,q,e,hr,h,H⟩
  .subst e
   rw[h];erw[rwN];rw[hr];rfl
  .lia
  lia
 .rcases kg (s:=s) (Ds:=Ds) p a 0 0 (Ţ 0) (j:=Ã Í+i) Á with⟨k,r,e,hr,h,H⟩|⟨k,r,e,hr,h,H⟩|⟨k,q,e,hr,h,H⟩
  .let:=(ϱb hr)
   lia
  .let e:k=i:=Á
   subst e;rw[h];erw[rwN];rw[hr];rfl
  lia
 rcases kg (s:=s) (Ds:=Ds) p a 0 0 (Ţ 0) (j:=2*Ã Í+i) Á with⟨k,r,e,hr,h,H⟩|⟨k,r,e,hr,h,H⟩|⟨k,q,e,hr,h,H⟩
 .let:=(ϱb hr)
  lia
 .let:=(ϱb hr)
  lia
 let e:k=i:=Á
 subst e;rw[h];erw[nbN];rw[hr];rfl
def Nw.worth(N:Ű)(p:ç)(a:é):Ě*ϵk=Ϸ*(ı 0+ı 1):=by let h:Ě*_=ϻI*(ı 0+ı 1):=Lp.IY N.J<|qV<|ϰ2 a;rw[<-N.dot (dC ċ),T7 p a,<-ώz,Zad,Zae]at h;show Zbj ϯs h
def Nw.any(N:Ű)(p:ç)(a:é){K X0 X1:Int}{x:å}(h:∀i,i<Ã Í->K*û (hdN<|Ū i)<=ξ ø Þ x (hdN<|Ū i)+X0)(H:∀i,i<Ã Í->K*û (ltN<|Ū i)<=-ξ ø Þ x (ltN<|Ū i)+X1)(b:∀q∈S4 Í,K*ϱ1 q<=ξ ø Þ x q.2-ξ ø Þ x q.1):K*ϵk<=Ϸ*(X0+X1):=by
 let m:=ύf X0 X1 x;rw[<-ώz,Zae]at m;let m:=Zbj ϯs m;rw[<-m];erw[wor];rw[Zav,Zav,<-fj,<-fj,<-fj];show Zfb (Zfb (LM _ ϱn)<|LM _ ϱn)<|LM _ ϱn
 .rw[Zad]
  show ϒM ϭx
 .rw[Zad]
  show ϒM<|H i hi
 rw[Zad];show ϒM<|b _ ?_;erw[nbN];rw[ϰD];show Zah _
def Nw.least(N:Ű)(p:ç)(a:é){X0 X1:Int}(h:∀i,i<Ã Í->Ě*û (hdN<|Ū i)<=ϰ0 (hdN<|Ū i)+X0)(H:∀i,i<Ã Í->Ě*û (ltN<|Ū i)<=-ϰ0 (ltN<|Ū i)+X1):ı 0+ı 1<=X0+X1:=by
 let le:=N.ě p a h H λq Q=>N.far p a Q;rw[ύN a]at le;show Zci le (Ĳ<|ϩ9 a)
end
def C2{r:Ò}{k:Nat}(h:k∈r):(k=ϰC\/∃j,(j,k)∈ϳH)/\(k=ϱ\/∃j,(k,j)∈ϳH):=by
 let(i,hi,rfl):=Zal h;let at2:∀m,m+1<r.À->∀(H:m<r.À)(a:m+1<r.À),(r[m],r[m+1])∈ϳH:=λm M H a=>by erw[prs];show ϙj ⟨m,?_⟩;rw[Zan];show(Nu H,?_);rw[K84,Zct];show Nu a
 constructor
 .cases i with
  |zero=>show Ð (Ϗ hdN ϰD)
  |succ m=>show Ø ⟨_,at2 m hi Á hi⟩
 cases M:i+1<r.À
 .show Ø ⟨_,at2 i M hi M⟩
 show Ð ?_;erw[ltN];rw[Zbo,ê (r.À-1=i),ϰD];rfl
section
variable{ts:À Nd}{c:F}{s:Bool}{Ds:Int}{S:Sl}
def Nw.u0(N:Ű):0<Ě:=Lp.Ys N.J
def GB(N:Ű)(p:ç)(h:Ź)(l:é)(g0:ϱy){a b:Nat}(q:(a,b)∈S4 Í):ϰ0 a+Ě*û a+Ě*û b<=ϰ0 b/\0<=Ě*û a/\0<=Ě*û b:=by
 let f:=N.far p l q;let u:=N.u0;erw[bI]at f;let g:=ϓY (ê<|0<=Ds+1);let e:Ě*(û (a,b).1+û (a,b).2+Ds+1)=Ě*û a+Ě*û b+Ě*(Ds+1):=by rw[Zfj,Zav,Zav]
 rw[e]at f;let f:_<=ϰ0 b-ϰ0 a:=f;show(Á,ϓY (ϱP a).1,ϓY (ϱP b).1)
def Nw.fl(N:Ű)(p:ç)(h:Ź)(a:é)(g0:ϱy):∀k,Ć->Ě*û k<=ϰ0 k+ı 0:=by
 ext k
 induction k using Nat.strongRecOn with
 |ind k ih=>
  ext H;let he:=ľ;let(r,hr,M):=xy he H;rcases(C2 M).1 with e|⟨j,J⟩
  .rw[e]
   show N.left p a hr
  let q:=ϯx J;let b:=ϵG q;let i:=ih j b.1<|Zce b.1 b.2.1;let f:=GB N p h a g0 q;lia
def Nw.fr(N:Ű)(p:ç)(h:Ź)(a:é)(g0:ϱy):∀m k,Ć->ϫD<=m->Ě*û k<=-ϰ0 k+ı 1:=by
 ext m
 induction m with
 |zero=>ext k H h;lia
 |succ m ih=>
  ext k H d;let he:=ľ;let(r,hr,M):=xy he H;rcases(C2 M).2 with e|⟨j,J⟩
  .rw[e]
   show N.right p a hr
  let q:=ϯx J;let b:=ϵG q;let i:=ih j b.2.1 (by let:k<j:=b.1;lia);let f:=GB N p h a g0 q;lia
def yJ(he:ĕ){i:Nat}(hi:i<Ã Í):Č (hdN (Ū i))/\Č (ltN (Ū i)):=by let hr:á Í=some Í[i]:=ϰD;let(ne,m):=ϸl;let(_,_,a,b):=bX ne;erw[rwN];rw[hr];show(m _ a,m _ b)
def Nw.width(N:Ű)(p:ç)(h:Ź)(l:é)(g0:ϱy)(m:Int):jE (Ā ts.À λk=>ϰ0 k-m+Ě*(û k+1))-eT (Ā ts.À λk=>ϰ0 k-m-Ě*û k)=ı 0+ı 1+Ě:=by
 let he:=ľ;let d:=p.ú;let ne:∀f:å,Ā ts.À f≠[]:=λf e=>by
  let:=Ż e;rw[K0,Z7]at this;simp at this;rw[this]at d;show absurd d Û
 let(A,n):=c_<|ne λk=>ϰ0 k-m+Ě*(û k+1);let(b1,B):=dS<|ne λk=>ϰ0 k-m-Ě*û k;generalize jE _=M at A n⊢;generalize eT _=m2 at b1 B⊢
 let(a,H,rfl):=XV.mp A;let(b,K,rfl):=ϤS b1;let H:=ϹR;let K:=Ϸw K;let g:=N.fr p h l g0 ϧ1 a H ì;let J:=N.fl p h l g0 b K;let le:=N.least p l (X0:=-(ϰ0 b-m-Ě*û b)-m) (X1:=ϰ0 a-m+Ě*(û a+1)+m-Ě) (λi hi=>by
   let:=B _<|Zcd<|϶u (ώA).1
   lia) (λi hi=>by
   let:=n _<|Zcd<|϶u (ώA).2;rw[Zav,Zbl]at this
   lia)
 rw[Zav,Zbl]at le⊢;lia
end
def dI(D:À (À Int))(k:Nat):À Int:=Ó (D[k]?) []
def HN{D:À (À Int)}{k:Nat}(h:k<D.À):Ť Ϭj ë=Â (iD<|ϱh k):=de (by rw[N2,ϱj];erw[dI];rw[ϱj];rfl)
def XD{l:À Int}{p:Nat}(h:p<l.À):Ť ϲH (p:Int)=Â (Ä<|gI l p):=de (by rw[N2,ϱj];erw[gI];rw[ϱj];rfl)
def LV(a b:À Int):gNe (Ï όI) (Ï όJ)=þ (ã<|! Õ (a=b)):=by
 erw[gNe];rw[n_];erw[k7];rw[cG (lay_ints a) Ý,cG (lay_ints b) Ý,K7m,Ĝ];let:Ϭz (Ï όI) (Ï όJ)=Õ (a=b):=Ĥ PyData.eqv vG
 rw[this];rfl
def nZ(R:Nat->À Int)(U m:ύL)(A:Ò):À (À Int):=Ê (A.Û U) R++Ê (A.Û m) λk=>(Ϩ (R k))
def N9(L:À α)(f g:ϴy α):ϖK L.Ç (λx=>f x+g x):=by
 induction L with
 |nil=>rfl
 |cons a r ih=>
  rw[K9w,K9w,K9w,Zap,Zap,Zap,ih];lia
def Mj(L:À α)(q:ϲ0 α)(f:ϴy α):(ß L.Û q f).sum=(L.Ç λx=>Ë (q x=true) (f x) 0).sum:=by
 induction L with
 |nil=>rfl
 |cons a r ih=>
  cases e:q a with|true=>rw[Zbm e,K9w,K9w,Zap,Zap,ih,Os e]|false=>rw[Zbb (ϻr K9o),K9w,Zap,ih,P3 (ϻr K9o),K8R]
def Ks(ts:À Nd)(R:Nat->À Int)(A:Ò)(w p:Nat):(Ê (nZ R ϴR ϴS A) λx=>ϭA).sum=tot ü Tl R A w p:=by
 erw[nZ,tot];rw[K9i,Zbf,S1,S1,Mj,Mj,<-N9];show ϐN<|K8u λk x=>?_;change(Ë (ϴR k=true) (ϬZ p) 0)+(Ë (ϴS k=true) (gI (Ϩ (R k)) p) 0)=_;erw[lkB,mrB];simp only[K9k]
theorem L4(ts:À Nd)(D:À (À Int))(A:Ò)(w m:Nat)(b:∀k∈A,k<D.À/\Ã (ϱh k)=m)(W:w∈A)(j:ϲv A.À)(o:m<=100):
  d6 [Ï Ϭj,Ï<|A.Ç ϶g]=ģ (aG<|Ê Ϲ0 λp=>tot ü Tl ϱh A w p):=by
 erw[d6,lM];simp![S5];generalize c:Į=rc
 let e:=iS c ϶g ϴR (ϦD<|iD<|ϱh k) A rfl (K94<|aF Á) (by
  ext k K;let a:=HN (b k K).1;show(?_,Ţ ?_)
  .cases h1:lkB ts w k<;>simp![memD,h1]<;>rfl
  simp![memD,a])
 subst e;clear c;simp![S5];generalize c:Į=rc
 let e:=iS c ϶g ϴS (ϦD<|iD (Ϩ (ϱh k))) A rfl (K94<|aF Á) (by
  ext k K;let a:=HN (b k K).1;show(?_,Ţ ?_)
  .cases h1:mrB ts w k<;>simp![memD,h1]<;>rfl
  let R:∀a n:Ü OD,ub (Ù 3 Ľ) (ġ<|Ç 1) [some<|Ñ ë,a,n,â Ϭj]=.ok (Ę<|ύp (ϱh k) int):=λd n=>Ô Zdc (Mi (by simp![a];rfl) ϻh)
  let s:iD (Ϩ (ϱh k))=Ï (ύp (ϱh k) int):=rfl;rw[s];simp![memD,R,aI])
 subst e;clear c;let F:=K8i ϴR A;let L:=K8i ϴS A;let B:ϳs (Ã (A.Û ϴR)+Ã (A.Û ϴS)):=aF Á;let E:Ê ((ß A.Û ϴR λk=>Đ<|iD<|ϱh k)++ß A.Û ϴS λk=>Đ<|iD (Ϩ (ϱh k))) OD.er=Ê Ϧ6 iD:=by erw[nZ];rw[K9i,K9i,S1,S1,S1,S1];congr 1<;>show Ϥ4
 let g:∀x∈Ϧ6,x.À=m:=λx H=>by
  erw[nZ]at H;rcases K9Y.mp H with H|H
  .let(k,K,rfl):=Ϻb
   show(b k (ϦJ K).1).2
  let(k,K,rfl):=Ϻb;rw[Zax];show(b k (ϦJ K).1).2
 let r:Ã Ϧ6<=200:=by
  erw[nZ];rw[K9v,K0,K0];lia
 obtain⟨x0,X,H⟩:∃x0 X,Ϧ6=x0::X:=by
  let M:w∈A.Û ϴR:=ϳy ⟨W,ϵp lkB Ϥy⟩;let:ϱh w∈Ϧ6:=ϵp nZ (ϰA<|ϲo ⟨w,M,rfl⟩)
  cases h:nZ ϱh ϴR ϴS A with
  |nil=>rw[h]at this;cases this
  |cons x X=>show(x,X,rfl)
 let tt:=Ks ts ϱh A w;generalize Ϧ6=G at E g r H tt;let g0:Ť (G.Ç iD) ((Ì 0))=Â (iD x0):=ϫX ϭg
 let i:x0.À=m:=g x0 (ϫX K9z);let S:Ι ϴ0:=Ŕ Á;let gl:ba [iD x0]=.ok (Ñ ϴ0):=by erw[iD];rw[KL,K0,i]
 simp![L9,K0,B,E,g0,gl,S];generalize c:Į=rc
 let e:=aS c (ϳk<|0+ë) (λp=>Ñ<|tot ü Tl ϱh A w p) Ϲ0 (ϣ K9n) (Ô Z7<|K94<|aF Á) (by
  ext p P;let P:=Ϸw P;rw[K8R];simp![S5];generalize C:Į=rc2
  let e:=aS C iD (λx=>Ñ ϭA) G rfl (K94<|aF Á) (by
   ext x H;let:=XD (l:=x) (p:=p) (Ô (g x H) P)
   erw[iD];simp![this])
  subst e;let f:ß G.Ç (λx=>Đ<|Ä ϭA) OD.er=ß G.Ç (λx=>ϭA) int:=Ε S1 S1 (ϻ6 ϰn)
  simp![f,lh,tt])
 subst e;simp![S5];erw[aG];rw[S1,S1];rfl
def zB(x:À Int):Bool:=(x.Ç ώo).any id
def C8{x:À Int}:ł (zB x)↔∀p,p<x.À->ϭA=0:=by
 erw[zB];rw[Zea,Zdm];constructor
 .intro h p H
  let:=h (x[p])<|Zah H;erw[gI];rw[Nu H];simpa using this
 ext h z Z;let(p,H):=Zac Z;let:=h p ϹB;erw[gI]at this;rw[H]at this;let this:z=0:=this;subst this;show K9o
def any_rows(L:À (À Int)):(L.Ç zB).any id=!(L.all λx=>!zB x):=by
 induction L with|nil=>rfl|cons a r ih=>rw[K9w,K81,K80,ih];cases zB a<;>rfl
def ltB(ts:À Nd)(l r g:À Int):Bool:=Õ<|[Ì l.À,Ì r.À,Ì g.À]=ϮF (Ì ((Ã Í))) (Ì ts.À)
def zd(l r g:À Int):Int:=eT ϑE
def Ld(ts:À Nd)(g:À Int):Bool:=(Ê Í λq=>ϲq ϱu !=0).any id
def NV{ts:À Nd}{l r g:À Int}(h:όh=true):Ϸk (Ã Í)/\r.À=Ã Í/\İ g.À:=by
 let h:=of_decide_eq_true h;injection h with H h
 injection h with a h
 injection h with f h
 lia
theorem Us(ts:À Nd)(l r g:À Int)(he:ĕ)(f:Č 0)(i:é):
  eG [Ï è,ϳr]=þ (ã<|όh&&(Õ ϒi&& !Ld ts g)):=by
 erw[eG,pH];let nl:0<Ã Í/\ϱ0 (Ã Í):=ϺF f;let lv:bS [Ï è]=ģ (oP Í):=kX ts he i;let ne3:gNe (Ï [Ä (Ì l.À),Ä (Ì r.À),Ä (Ì g.À)]) (Ï (ϮF (Ä (Ì ((Ã Í)))) (Ä (Ì ts.À))))=þ (ã<|! όh):=LV [Ì l.À,Ì r.À,Ì g.À] (ϮF (Ì ((Ã Í))) (Ì ts.À));let c1:∀a n w:Ü OD,ϰr iTp 1 (ħ<|È 0 ai) 1 [] [a,Ĕ ϳr,n,w]=ģ [Ñ<|(Ì l.À),Ñ<|(Ì r.À),Ñ<|(Ì g.À)]:=λa n w=>by
  erw[eQ,iD];simp![ET,Mc];generalize h:Į=rc;let e:=aS h (λx:À Int=>ϴO ϔB) (λx=>Ñ<|(Ì x.À)) [l,r,g] rfl (ϱm<|3<=Tk) ϮA;subst e;rfl
 let e1:ß oP Í OD.er=oW Í:=mD _;cases hb:ltB ts l r g with
 |false=>rw[hb]at ne3;simp![lv,e1,↓c1,eL,aH,ne3];rfl
 |true=>
  rw[hb]at ne3;let(c,R,m):=NV hb;let N:l≠[]:=λz=>by rw[z]at c;simp at c;lia
  let E:ϩ6:=λz=>by rw[z]at R;simp at R;lia
  let neg:ϵa g:=λz=>by rw[z]at m;simp at m;lia
  let L:∀a n w:Ü OD,ϰr iTp 1 (ϥD<|È 0 ai) 1 [] [a,Ĕ ϳr,n,w]=ģ [Ñ<|eT l,Ñ<|eT r,Ñ<|eT g]:=λa n w=>by
   erw[eQ,iD];simp![ET,Mc];generalize h:Į=rc
   let e:=aS h (λx:À Int=>ϴO ϔB) (λx=>Ñ<|eT x) [l,r,g] rfl (ϱm<|3<=Tk) (by
    ext x H;let:x≠[]:=by
     simp only[K8v,K8P,or_false]at H;rcases H with rfl|rfl|rfl
     .show N
     .show E
     show neg
    let:=rE this;simp![this])
   subst e;rfl
  let M:mN [Ï [Ä<|eT l,Ä<|eT r,Ä<|eT g]]=.ok (Ñ<|zd l r g):=rE (xs:=ϑE) Û;let g2:J0 ϳr (Ä 2)=þ (iD g):=by erw[eQ];simp![S5]
  let cl:aJ ϰb aT (ū (Ù 1<|Ç 2)<|Ù 0<|Ç 0) [none,Ĕ ϳr] (oW Í) []=.ok (Ê Í λq=>OD.sh<|Ä<|ϲq ϱu):=by
   generalize h:Į=rc
   apply aS h (λq:Ò=>ϴO<|aO q) (λq=>Ñ<|ϲq ϱu) Í rfl (K94<|aF Á) (by
   ext q Q;let(j,J):=Zac Q;let(ne,lt):=Ϫt J;let(o,_,p,_):=bX ne;let A:=϶8 g ϱu (ϥj<|lt _ p)
   erw[iD]at g2;simp![g2,o,A])
  let d:Ϩq (Ê Í λq=>OD.sh<|Ä<|ϲq ϱu) (Ê Í λq=>ϲq ϱu):=Ε S1 S1 (K8u λq x=>ϰn)
  let G:((Ê Í λq=>ϲq ϱu).map ώo).any id=Ld ts g:=Ϗ Ld S1
  let b:=Dt<|xR<|Ê Í λq=>ϲq ϱu;rw[G]at b;cases hd:decide ϒi with|false=>simp![lv,e1,↓c1,eL,aH,ne3,↓L,M,hd];rfl|true=>simp![lv,e1,↓c1,eL,aH,ne3,↓L,M,hd,cl,d,b];rfl
def clB(ts:À Nd)(D:À (À Int)):Bool:=(č).all λj=>(ϱQ<|(Ã (ϱh j))).all λp=>Õ<|tot ü Tl ϱh č j p=0
def HR(ts:À Nd)(D:À (À Int)):clB ts D=true↔∀j∈č,calm ü Tl ϱh č j:=by
 erw[clB,calm];rw[K7x];constructor
 .intro h j J p H
  let:=h j J;rw[K7x]at this;show ϷP<|this p<|K9G.ó H
 ext h j J;rw[K7x];ext p H;show Z8<|h j J p ϹR
def uW{m:Nat}{f:å}{p:Nat}(h:p<m):gI (Ê Ϲ0 f) p=f p:=ϰZ gI N2 ϴ6
def P8(ts:À Nd)(R:Nat->À Int):∀(m:Nat)(V:Ò),όL->((∀x∈ŏ m V,calm ü Tl R x.2 x.1)↔Calm ü Tl R V):=by
 ext m
 induction m with
 |zero=>
  ext V h;let:V=[]:=Zas Á;subst this;show((Ţ õ),Ϛq)
 |succ m i=>
  ext V h;cases V with
  |nil=>show((Ţ õ),Ϛq)
  |cons w W=>
   let dl:=ύM;rw[K9p]at h;let i:=i (Β λk=>! ŋ) Á;rw[gsF'];constructor
   .intro H
    show ą (H _ K9z)<|i.mp λx X=>H x<|ě X
   ext C x H;cases C with
   |cons h1 h2=>
    rcases K8v.mp H with rfl|H
    .show h1
    show i.ó h2 x H
def KI(D:À (À Int)):Bool:=D.all λx=>!zB x
def Za(E:À (À Int))(a:E.À<=1000):aJ ϰb aT (ϨE<|È 0 ai) [none] (E.Ç iD) []=.ok (E.Ç λx=>Đ<|ã<|zB x):=by
 generalize w:Į=rc;apply ϶R iD (λx=>.sh<|ã<|zB x) E rfl (K94<|aF a) (by ext x _;let e:=Dt<|xR x;erw[iD];simp![e];rfl)
def LH(E:À (À Int)):ß E.Ç (λx=>Đ<|ã<|zB x) OD.er=ß E.Ç zB PyData.bool:=Ε S1 S1 (ϻ6 ϰn)
def WA(E:À (À Int)):vp [Ï<|ß E.Ç zB PyData.bool]=þ (ã<|!KI E):=ϰ8 (Dt<|Me _) any_rows
def sy(ts:À Nd)(s:À Int)(k:Nat):Ã (dI (ϱ2 s) k)=Ë Ć (Ã (Å k)-1) 0:=by
 erw[dI,cR];rw[N2];cases h:k<ts.À
 .rw[ϴ6,ϰo]
  change Ã (wI<|Ê (Å k) ϺI)=_;erw[wI];rw[K0,Z7,K0]
 rw[K9c (Ă Z7),ϱB];rfl
def Bv{ts:À Nd}{c:F}(p:ç)(s:À Int)(a b:Nat)(h:ϥp ü Tl):Ã (dI (ϱ2 s) a)=Ã (dI (ϱ2 s) b):=by
 rw[sy,sy];cases A:a<ts.À
 .by_cases B:ϵm
  .rw[Os A,Os B]
   let:ϥp ϰc F.mir:=by
    rw[bG]at h⊢;rw[dQ A,dQ B]at h;rcases h with h|h
    .show Ð ϸM
    show Ø ϸM
   rw[FO p A B this]
  rw[bG,dQ A]at h;let e:ü b=none:=P3 B;rw[e]at h;rcases h with h|h<;>cases h
 cases B:b<ts.À
 .rw[bG,dQ B]at h
  let e:ü a=none:=P3 A;rw[e]at h;rcases h with h|h<;>cases h
 rw[P3 A,P3 B]
def rowsOf(ts:À Nd)(D:À (À Int))(x:Nat×Ò):À Int:=Ā ((Ã (ϱh x.1))) λp=>tot ü Tl ϱh x.2 x.1 p
def wU(ts:À Nd)(D:À (À Int))(x:Nat×Ò):ł (zB (Ϲx D x))↔calm ü Tl ϱh x.2 x.1:=by
 rw[C8];erw[rowsOf,calm];rw[K0,Z7];constructor
 .intro h p H
  let:=h p H;rw[uW H]at this;show this
 ext h p H;rw[uW H];show h p H
def Ge{ts:À Nd}{c:F}(p:ç)(s:À Int):KI ((ŏ ((Ã č)) č).map<|Ϲx<|ϱ2 s)=clB ts (ϱ2 s):=by
 rw[K8j,HR,<-K4 fL (Bv p s) (Ã č) č ì,<-P8 ts _ (Ã č) č ì];erw[KI];rw[List.all_map,K7x];constructor
 .intro h x H
  let:=h x H;let:ł (zB (Ϲx (ϱ2 s) x)):=ť this
  show(wU ts _ x).mp this
 ext h x H;let:=(wU ts _ x).mpr<|h x H;change(!zB (Ϲx (ϱ2 s) x))=true;rw[this];rfl
def sdB(l r:À Int):Bool:=Õ ϓy&&Õ (l.Ğ=r.Ğ)
def QY(ts:À Nd)(l r g:À Int)(strict:Bool):Bool:=sdB l r&&(if strict then clB ts (ϱ2 ϶1)else KI (ϱ2 ϶1))
theorem Nn(ts:À Nd){c:F}(p:ç)(B:Ź)(z:ϰJ 40)(l r g:À Int)(strict:Bool)(h:eG [Ï è,ϳr]=þ (ã true))(t:Ϸk (Ã Í))(u:r.À=Ã Í)(L:İ g.À):
  kj [Ï è,ϳr,ã strict]=þ (ã<|QY ts l r g strict):=by
 erw[kj,my];let he:=ľ;let q:=Ϸ7;let P:J0 ϳr (Ä 0)=þ (Ï ϲH):=ϒm eQ iD
 let E:J0 ϳr (Ä 1)=þ (Ï Ϸ5):=ϒm eQ iD
 let K:=J5 ts l r g he q Á t u L;let d:=Az ts ϶1;let A:=Ge p ϶1;let R:=λk=>sy ts ϶1 k;let e:=Bv p ϶1;erw[QY];generalize ϱ2 ϶1=D at K d A R e;erw[sdB];cases a:l.Ğ<1
 .let X:ł (Õ ϓy):=K9q Á
  simp![h,P,lh,Z8 a,X];rfl
 let X:Õ ϓy=true:=Z8 Á;cases b:l.Ğ=r.Ğ
 .cases strict with
  |false=>
   simp![h,P,E,lh,K9q a,Z8 b,X,K,D7,Za D Á,LH,WA];simp
  |true=>
   let f:=AN ts p B Á;let M:=kL ts (Ã č) č;let gl:ϱ0 (Ã (ŏ ((Ã č)) č)):=by
    let:∀(m:Nat)(V:Ò),Ã (ŏ m V)<=m:=by
     ext m
     induction m with
     |zero=>exactλV=>ì
     |succ m ih=>
      ext V;cases V with
      |nil=>show ϰS
      |cons w W=>
       rw[gsF',K9p];let:=ih<|Β λk=>! ŋ;lia
    show K9C (Ϧo _)<|wz ts
   let n:∀(m:Nat)(V:Ò),∀x∈ŏ m V,Ã x.2<=V.length:=by
    ext m
    induction m with
    |zero=>ext V x H;cases H
    |succ m ih=>
     ext V x H;cases V with
     |nil=>cases H
     |cons w W=>
      rw[gsF']at H;rcases K8v.mp H with rfl|H
      .show ώx
      show K9C (ϲ2 x H) ώx
   let o:=wz ts;generalize G:ŏ ((Ã č)) č=GG at f M gl A;let C:aJ ϰb aT (Rs<|aj d6<|È 1<|È 0 ai) [none,â Ϭj] (ϹZ GG) []=.ok (GG.Ç λx=>Đ<|iD<|Ϲx D x):=by
    generalize s:Į=rc
    apply aS s (λx:Nat×Ò=>ϴO<|Ê x.2<|memD ts x.1) (λx=>.sh<|iD<|Ϲx D x) GG rfl (K94<|aF Á) (by
     ext x H;let(v,Q):=M x H;let N:ϲv (Ã x.2):=by
      rw[<-G]at H;let:=n _ _ x H;lia
     let cl:ϲv (Ã (ϱh x.1)):=by rw[R];let:=uU ts x.1;split<;>lia
     let go:=L4 ts D x.2 x.1 (Ã (ϱh x.1)) (λk i=>⟨by rw[d];show cZ (Q k i).1,e k x.1 (Q k i).2⟩) (Zev v) N cl
     simp![go,aW];rfl)
   let j:ß GG.Ç (λx=>Đ<|iD<|Ϲx D x) OD.er=ß GG.Ç (Ϲx D) iD:=Ε S1 S1 (ϻ6 ϰn)
   let ca:=Za (GG.Ç<|Ϲx D) (Ă K0);simp![h,P,E,lh,K9q a,Z8 b,X,K,D7,f,aI,C,j,ca,LH,WA,A];simp
 let y:=K9q b;simp![h,P,E,lh,K9q a,y,X];rfl
structure VP(ts:À Nd)(l r g:À Int):Prop where
 ll:Ϸk (Ã Í)
 lr:r.À=Ã Í
 lg:İ g.À
 pl:∀x∈l,0<=x
 pr:∀x∈r,0<=x
 pg:∀x∈g,0<=x
 fst:∀q∈Í,ϲq ϱu=0
def nn{ts:À Nd}(he:ĕ)(a:Č 0):0<Ã Í/\ϱ0 (Ã Í):=ϺF a
def ES(h:x.À=n)(a:0<n):x≠[]:=ϖ4
def VP.are{ts:À Nd}{l r g:À Int}(v:VP ts l r g)(he:ĕ)(H:Č 0)(L:é):eG [Ï è,ϳr]=þ (ã true):=by
 rw[Us ts l r g he H L];let N:=nn he H;let a:όh=true:=by erw[ltB];rw[v.ll,v.lr,v.lg];show Ϥy
 let b:Õ ϒi=true:=by
  erw[zd];let M:=(dS (xs:=ϑE) Û).1;let d:=v.pl _ (dS<|ES v.ll N.1).1;let R:=v.pr _ (dS<|ES v.lr N.1).1;let m:=v.pg _ (dS<|ES v.lg H).1;show Z8 ?_;simp only[K8v,K8P,or_false]at M;rcases M with h|h|h<;>rw[h]<;>assumption
 let c:ł (Ld ts g):=by erw[Ld];rw[Zea,Zdm];ext q Q;let:=v.fst q Q;simp[this]
 rw[a,b,c];rfl
def yW(ts:À Nd)(l r:À Int)(j:Nat):Int:=I4 l j*û (hdN<|Ó (ę Í) [])+I4 r j*û (ltN<|Ó (ę Í) [])
def fG(ts:À Nd)(Ds:Int)(g:À Int)(p:ϻ):Int:=ϲq p.2*ϱ1 p
def Bp(ts:À Nd)(Ds:Int)(l r g:À Int)(i:Nat):Int:=l.Ğ+ϥa i+(ß S4 (Ł Í i) όp).sum
def K6(ts:À Nd)(Ds:Int)(l r g:À Int)(he:ĕ)(j:Č 0)(a:ϵe)(H:é)(g0:0<=Ds)(g1:ϲv Ds)(s:Ϸk (Ã Í))(R:r.À=Ã Í)(o:İ g.À):
  qZ [Ï è,Ä Ds,ϳr]=.ok (Ñ<|Bp ts Ds l r g (Ã Í)):=by
 erw[qZ,zY,eQ,iD];let nl:=ϺF j;let t:ϲv (Ã (S4 Í)):=by
  let:=oO Í;let ok:=ϵ5 ì;let:İ (Ê Í List.length).sum:=ok.Ğ;lia
 let z:zN3 [Ï<|oW Í,Ï ϲH,Ï Ϸ5]=.ok (wJ (oW Í) ϲH Ϸ5):=YK ⟨by rw[eL,K0,s],by rw[eL,K0,R]⟩;simp![jR ts a H,rsh,lh,Yv,kX ts he H,mD,z];generalize m:Ŗ=r';apply aX m (λi b=>∃(v v6 V:Ü OD),b=[â è,some<|Ñ Ds,Ĕ<|Ą [Ï ϲH,Ï Ϸ5,Ï ύc],â<|ß ay ts int,some<|Ñ<|l.Ğ+ϥa i,v,v6,V])
  ⟨_,_,_,Ĥ (ϸd (ϥa 0) 0) Zak⟩ ?_ ?_
 .rintro i d b hd ⟨v,v6,V,rfl⟩
  let(hi,rfl):=vU hd;rw[eL]at hi;obtain⟨q,Q⟩:∃q,á Í=Â q:=ϓe (Í[i])
  let(F,J):=Ϫt Q;let(e1,E,G,f):=bX F;rw[C5 Q,uP Á,uP Á];let A:=϶8 ϸP ϱu (Ô lK<|J _ G);let c:=϶8 ϸP ϸD (Ô lK<|J _ f);let b1:=wV a ϱu;let B:=wV a ϸD;let c1:ϤC Ϥm (û ϱu):=ϧu Á;let L:ϤC ϭr (û ϸD):=ϧu Á;simp![e1,E,A,c,c1,L];let tk:l.Ğ+ϥa (i+1)=l.Ğ+ϥa i+(Ϥm*û ϱu+ϭr*û ϸD):=by
   let e:yW ts l r i=Ϥm*û ϱu+ϭr*û ϸD:=Ϗ yW Q
   rw[ϸd (ϥa (i+1)) (ϥa i+yW ts l r i),e,Zfj]
  rw[tk];show(_,_,_,rfl)
 ext ρ' rfl ⟨v,v6,V,rfl⟩;rw[we,eL];simp![zM ts Ds he a H,aI];generalize w:Į=rc
 let e:=aS w ό8 (λp=>Ñ<|όp p) (S4 Í) rfl (K94<|aF Á) (by
  ext p P;let h:=ϸt P;let A:=϶8 g p.2 (by rw[o];show h.2);let b1:=wV a p.1;let B:=wV a p.2;let c1:ϤC (ϲq p.2) (ϱ1 p):=ϧu (Ϩr bI)
  erw[Dx,fG];simp![A,c1])
 subst e;let em:Ϩq (ß S4 Í λp=>Đ<|Ä<|όp p) (ß S4 Í όp):=Ε S1 S1 (K8u λp x=>ϰn)
 simp![em,lh];erw[Bp];rw[K90 ì]
def D4(ts:À Nd)(pl:À Int)(u:Int)(h:Č 0)(l:ϵe)(a:é)(p:İ pl.À):
  eh [Ï è,Ï ϻA,Ä u]=.ok (Ñ<|jE (Ā ts.À λk=>ϵA+u*(Ļ k+1))-eT (Ā ts.À λk=>ϵA-u*Ļ k)):=by
 erw[eh,mh];let ne:∀f:å,Ā ts.À f≠[]:=λf z=>by
  let:=Ż z;rw[K0,Z7,K8U]at this;lia
 let g:=lK ts;let L:=ZF (ds:=ϻA) (es:=ß ay ts int) (by rw[K0,K0,g,p]);let r:∀k,Ś 0 (Ļ k) 1000:=λk=>by let b:=wV l k;show(ϧM b.1 (0<=û k),ϧM b.2 (û k<=1000))
 simp![jR ts l a,rsh,L,aI,FX p g];generalize w:Į=rc
 let e:=aS w (ϰU<|ϱZ [Ä ϵA,Ä<|Ļ k]) (λk=>Ñ<|ϵA+u*(Ļ k+1)) ϳR rfl (Ô Z7<|K94<|aF Á) (by
  ext k _;let C:jH u (Ļ k+1)=true:=ϧu (Ĳ<|r k)
  simp![C])
 subst e;clear w;rw[zD];let X:=Kf<|ne λk=>ϵA+u*(Ļ k+1);simp![aW,X,aI];generalize w:Į=rc
 let e:=aS w (ϰU<|ϱZ [Ä ϵA,Ä<|Ļ k]) (λk=>Ñ<|ϵA-u*Ļ k) ϳR rfl (Ô Z7<|K94<|aF Á) (by
  ext k _;let C:jH u (Ļ k)=true:=ϧu (Ĳ<|r k)
  simp![C])
 subst e;rw[zD];let m:=rE<|ne λk=>ϵA-u*Ļ k;simp![aW,m]
def xw{α:Type}(d:α)(f:ϴy α):∀L:À α,(L.Ç f).sum=ϰR L.À (f (Ó (L[i]?) d)):=by
 ext L
 induction L using snoc_ind with
 |a=>rfl
 |S L a ih=>
  rw[K9i,Zbf,K9v,ih];change _=sm L.À _+f (Ó ((L++[a])[L.length]?) d);rw[K9a ì,K8c];show ϧ5 (ŭ ϱn) Û;rw[K9V hi]
def GU(f:å):∀n,l5 f n=ĳ f:=by
 induction _ with|zero=>show rfl|succ n N3=>change l5 f n+f n=ĳ f+f n;rw[N3]
private def parts{ts:À Nd}(he:ĕ)(f:å)(s:À Int)(S:İ s.À):∀m,m<=ĵ->ϳS (pA (ϰ s m) v*(f v-Ë (ϥo<=v) (f (ý v)) 0))=ϳS (pA s v*f v):=by
 induction _ with
 |zero=>ext _;show ŭ (λv V=>ϰ8 (P3 Á) Zau)
 |succ m N3=>
  ext h;rw[<-N3 Á];let H:Č (ĵ-m):=Á
  let e1:ý (ĵ-m)<ĵ-m:=(ϨK (λ_=>[]) 0 Á H).2.1;let g:ĩ (Ĩ<|ĵ-m)=ý (ĵ-m):=rfl;let bl:=Bx ts s m;let T:∀v,pA (ϰ s<|m+1) v=pA (ϰ s m) v+Ë (v=ý (ĵ-m)) (pA (ϰ s m) (ĵ-m)) 0:=λv=>by
   rw[bsF',g,wj Á]
   split
   .rename_i e;rw[e];rfl
   rw[Zak]
  let a:ϳS (pA (ϰ s<|m+1) v*(f v-Ë (ϲL (m+1)<=v) (f (ý v)) 0))=ϳS ((pA (ϰ s m) v*(f v-Ë (ϥo<=v) (f (ý v)) 0)+(-1)*(Ë (v=ĵ-m) (pA (ϰ s m) (ĵ-m)*f (ý<|ĵ-m)) 0))+(Ë (v=ý (ĵ-m)) (pA (ϰ s m) (ĵ-m)*f (ý<|ĵ-m)) 0)):=Lp.aM _ λv V=>by
   rw[T];cases c1:v=ý (ĵ-m)
   .rw[Os c1,P3 Á,P3 Á,P3 Á,Os c1,c1,Zau,Zbq,Zaa,Zak]
   rw[P3 c1,P3 c1,Zak,Zak];cases L:v=ĵ-m
   .rw[Os Á,P3 Á,Os L,L,Zau,Zbw]
    lia
   rw[P3 L,Zaa,Zak];cases k:ϥo<=v
   .rw[Os k,Os Á]
   rw[P3 k,P3 Á]
  rw[a,lF,lF,fj,Ϸd (ĵ-m) _ H ϯt,Ϸd (ý<|ĵ-m) _ Á ϯt,Ĝ,Ĝ];lia
def NI(p:Nat):∀(X:À Int)(a:Nat),ϰR X.À (ř X*ϓZ)=ϏD (p+1-a):=by
 ext X
 induction X using snoc_ind with
 |a=>ext a;simp;rfl
 |S X x ih=>
  ext a;rw[K9v];change sm X.À _+pA (X++[x]) X.À*sgn ϓc p=_;let e1:ϰR X.À (ř (X++[x])*ϓZ)=ϰR X.À (ř X*ϓZ):=ŭ ((ϰp (ϰT (Lp.xD hi))))
  rw[e1,ih a,Lp.zz ì,K8c];change _+x*sgn ϓc p=_;erw[sgn];cases C:p<ϓc
  .rw[Os C,List.drop_append_of_le_length Á,K8s Á,Zbf]
   simp;lia
  rw[P3 C,Zeo Á,Zeo ϳc,K90 Á,K90 ϳc,Zbf];simp;lia
def Hl(r:Ò):Ê ϳH Ž=r.ä 1:=ϵp prs (List.map_snd_zip Û)
def Ur{rows:À Ò}{k:Nat}(h:k∈ß S4 rows Ž):∃r∈rows,k∈r:=by
 induction rows with
 |nil=>show ϻx (Ϯ S4)
 |cons r rs ih=>
  rw[S4',K9i,K9Y,Hl]at h;rcases h with h|h
  .exact(r,K9z,Zca h)
  let(R,a,b):=ih h;show(R,ě a,b)
def X3:∀rows:À Ò,(∀r∈rows,r.Í)->rows.Ĉ (λr R=>∀k∈r,k∉R)->(ß S4 rows Ž).Nodup:=by
 induction _ with
 |nil=>ext _ _;simp[S4]
 |cons r rs N3=>
  ext h p;rw[S4',K9i,Hl];rw[List.pairwise_cons]at p;show Ϧl ⟨(h r K9z).sublist<|List.drop_sublist 1 r,N3 (λx H=>h x<|ě H) p.2,ϴJ ?_⟩;subst e;let(R,q,Q):=Ur B;show p.1 R q a (Zca A) Q
section
variable{ts:À Nd}{c:F}{s:Bool}{Ds:Int}{S:Sl}
def N5(he:ĕ):(ß S4 Í Ž).Nodup:=by
 show X3 _ (λr hr=>?_)<|List.pairwise_iff_getElem.mpr λi j hi J I k H c=>?_
 .let(i,hi,rfl):=Zal hr
  show(Ϻl ϰD).1.imp λh=>K9O h
 let a:=((Ϻl ϰD).2 k).mp H;let b:=((Ϻl ϶Q).2 k).mp c;lia
def L7(he:ĕ){i j:Nat}(hi:i<Ã (S4 Í))(J:j<Ã (S4 Í))(h:(Ŧ).2=(Ϭ2).2):i=j:=by let nd:=N5 he;erw[nbN]at h;rw[ϰD,϶Q]at h;show(Zel (h₀:=ϷX K0) (h₁:=όj K0) nd).mp (by rw[Zcn,Zcn];show h)
def vz{i:Nat}(hi:i<Ã (S4 Í)):Ŧ∈S4 Í:=by erw[nbN];rw[ϰD];show Zah _
def vg(he:ĕ)(q:À Int):∀k,k<=Ã (S4 Í)->∀v,(∀i,i<k->(Ŧ).2≠v)->pA (ϲJ k) v=0:=by
 induction _ with
  |zero=>
   ext _ v _
   change pA (ϸ2 0) v=0;erw[pA];rw[K8Z];split<;>rfl
  |succ k ih=>
   intro hk v h
   rw[gpL',wj (Ô BJ (ϵG<|ϕX Á).2.1),P3 λe=>h k Á e.Ï];show ih Á v (ϰp (h i Á))
def Mt(he:ĕ)(q:À Int)(f:å):∀k,k<=Ã (S4 Í)->ϳS (ϩ1 (ϲJ k))=sm k λi=>ϤE (2*Ã Í+i)*f (Ŧ).2:=by
 induction _ with
 |zero=>ext _;show ϭl (λv x=>by rw[vg he q 0 ϰS v λi hi=>ϐR<|Zbh i,Zam])
 |succ k N3=>
  ext h;let J:=(ϵG<|ϕX Á).2.1;change _=sm k _+ϤE (2*Ã Í+k)*f ϧ6;rw[<-N3 Á];let e:∀v,϶4->ϩ1 (ϲJ<|k+1)=ϩ1 (ϲJ k)+Ë (v=ϧ6) (ϤE (2*Ã Í+k)*f ϧ6) 0:=λv x=>by
   rw[gpL',wj<|όj BJ];change(Ë (v=ϧ6) _ _)*_=_;cases H:v=ϧ6
   .let g:pA (ϲJ k) v=0:=vg he q k Á v λi hi e=>by
     rw[H]at e;let:=L7 he Á Á e;lia
    rw[g,Zam,K8R,ϱT,ϱT,H]
   rw[ϲb,ϲb,Zak]
  rw[ŭ e,lF,Ϸd ϧ6 _ J (λi x hi=>P3 hi),Ĝ]
def FY(he:ĕ)(q:À Int){i:Nat}(hi:i<Ã (S4 Í)):pA (ϰ4 q) (Ŧ).2=ϤE (2*Ã Í+i):=by
 let h:=Mt he q (λv=>Ë (v=(Ŧ).2) 1 0) _ ì;rw[Ϸd (Ŧ).2 _ (ϵG<|vz hi).2.1 (λv x H=>Ĥ ϲb Zaa),Ĝ,Lp.c7 (l:=i) _ hi λj J n=>by rw[P3 λe=>n<|L7 he J hi e,Zaa],Ĝ,Zbl,Zbl]at h;show h
def Lg(he:ĕ)(q:À Int){i:Nat}(hi:i<Ã Í):pA (ϰ4 q) (hdN<|Ū i)=0:=by
 show vg he q _ ì _ λj J e=>?_;let b:=ϵG<|vz J;let hr:á Í=Â (Ū i):=Ϗ rwN ϰD
 let(ne,_):=ϸl;let(_,_,M,_):=bX ne;let m:=Ϻl hr;let lv:=((m.2 _).mp M).2;let h:=(m.2 (Ϭ2).1).mpr ⟨Á,by rw[b.2.2,e,lv]⟩;let hle:hdN (Ū i)<=(Ϭ2).1:=by
  let p:=m.1;erw[hdN];cases hq:rwN ts i with
  |nil=>show ĭ hq ne
  |cons a l=>
   rw[hq]at p h;rcases K8v.mp h with e'|e'
   .rw[e'];show ì
   show Zaj<|(List.pairwise_cons.mp p).1 _ e'
 lia
private def Ve(he:ĕ)(l r g:À Int)(f:å):ϳS (ϴI v*f v)=ϳS (ϩ1 g)-ϰR ((Ã (S4 Í))) (pA g (Ŧ).2*f (Ŧ).1)+(Ϲg sm ((Ã Í)) (λj=>ϴu j*f (hdN<|Ū j))<|λj=>pA r j*f (ltN<|Ū j)):=by
 let e:∀v,϶4->ϴI v*f v=(ϩ1 g+(-1)*ϰR ((Ã (S4 Í))) (Ϩ1 Ŧ*f v))+sm (Ã Í) (λj=>ϱF j*f v):=λv _=>by
  erw[npF,npA];rw[xw (0,0),GU,Zbq,Zdn];let a:ϰR ((Ã (S4 Í))) (Ϩ1 Ŧ*f v)=ϰR ((Ã (S4 Í))) (Ϩ1 Ŧ)*f v:=by rw[Zai,<-fj];show ŭ (λi _=>Zai ..)
  let b:sm (Ã Í) (λj=>ϱF j*f v)=sm (Ã Í) (λj=>ϱF j)*f v:=by rw[Zai,<-fj];show ŭ (λi _=>Zai ..)
  rw[a,b,Zcc,Zaq];rfl
 rw[ŭ e,lF,lF,fj,vF λv i=>Ϩ1 Ŧ*f v,vF λv j=>ϱF j*f v];let a:∀i,i<Ã (S4 Í)->(ϳS<|Ϩ1 Ŧ*f v)=pA g (Ŧ).2*f (Ŧ).1:=λi hi=>by
  let b:=ϵG<|vz hi;rw[Ϸd (Ŧ).1 _ Á (λv _ V=>χ sbT (P3 V) Zam)];erw[sbT];rw[Ĝ];rfl
 let b:Η (Ã Í) ((ϳS<|ϱF j*f v)=ϴu j*f (hdN<|Ū j)+(-1)*(pA r j*f (ltN<|Ū j))):=λj J=>by
  let(H,c):=yJ he J;let e:∀v,϶4->ϱF j*f v=(Ë (v=hdN (Ū j)) (ϴu j*f (hdN<|Ū j)) 0)+(-1)*(Ë (v=ltN (Ū j)) (pA r j*f (ltN<|Ū j)) 0):=λv _=>by
   change((Ë (v=hdN (Ū j)) (ϴu j) 0)-(Ë (v=ltN (Ū j)) (pA r j) 0))*f v=_;rw[Zdn,Zcc,Zaq,Int.sub_eq_add_neg];show ϧ5 ?_<|Uf _ ?_
   .split
    .rename_i h;rw[h]
    show Zam _
   split
   .rename_i h;rw[h]
   show Zam _
  rw[ŭ e,lF,fj,Ϸd (hdN<|Ū j) _ H ϯt,Ϸd (ltN<|Ū j) _ c ϯt,Ĝ,Ĝ]
 rw[ŭ a,ŭ b,lF,fj];lia
end
def ind(i k:Nat):Int:=Ë (k=i) 1 0
section
variable{ts:À Nd}{c:F}{Ds:Int}{S:Sl}
def KZ{j:Nat}{g:À Tm}(h:ę (Ķ false)=Â g):∃e,g=[(e,true,false)]:=by
 erw[gpT]at h;rw[P3 Ý,N2]at h;cases hq:č[j]? with
 |none=>rw[hq]at h;cases h
 |some e=>rw[hq]at h;show(e,(ϸM).symm)
def Ng(p:ç)(L:é){e:Nat}(H:2<=Ã (Å e))(he:ϹD):(Ϲw e).Nodup/\Ã (Ϲw e)=Ã (Å e)-1/\∀k∈Ϲw e,∀e',k∈Ϲw e'->e'=e:=by
 let G:=cq ts p false L;let f:e∈č:=ϳy ⟨϶u he,Z8 Á⟩;let(j,g,t,hg,l,E):=EY ts false f;show(?_,Bq G H ⟨j,g,t,hg,l,E⟩,λk i e' K=>?_)
 .let(e1,b):=KZ hg
  subst b;rw[K95]at l;subst l;let E:e1=e:=E;subst E;let:=Dk G hg<|K95.ó rfl;let this:Ϲw e1=_:=this;rw[this];change(qD _ (e1,true,false)).Nodup;erw[qD];rw[Ĝ];erw[stL];rw[Zdz,Zei];show K8C.imp λh q=>h ?_;erw[mdS]at q;rw[P3 (ύ (¬Μ ϗP)<|ϻl (¬ϫ2)),P3<|ύ (¬Μ ϗP) (ϻl (¬ϫ2))]at q;lia
 let(J,g1,t1,A,n,w,x,y):=wR G i;let(a,g2,t2,b1,B,I,m,o):=wR G K;let d:J=a:=by
  rcases Zba J a with q|q|q
  .let:=Ϲp (Ķ false) (ê<|J+1<=a)
   lia
  .show q
  let:=Ϲp (Ķ false) (ê<|a+1<=J);lia
 subst d;rw[A]at b1;cases b1;let(e1,b):=KZ A;subst b;rw[K95]at n B;subst n;subst B;rw[<-I,<-w]
def Du(f:å)(q:ύL):∀n,(Ê (ž ϲk q) f).sum=ĳ (λv=>Ë (q v=true) (f v) 0):=by
 induction _ with
 |zero=>show rfl
 |succ n N3=>
  rw[K8A,K8o,K9i,Zbf,N3];change _=ĳ _+Ë (q n=true) (f n) 0
  congr 1
  cases hq:q n with|_=>simp[hq]
def Sy(he:ĕ)(a:Č 0):Ĩ 0=-1:=by let h:ts[0]?=some ts[0]:=Nu a;rw[ϴx];show(he 0 _ h).1 rfl
end
def XQ:Int:=(ä (2*ϴr))
def Qv{i:Int}(h:-(4*XQ)<=i)(H:i<=4*XQ):W4 i:=by
 let q:4*(2*ϴr)<ϩ3:=œ
 erw[W4];erw[XQ]at h H;let:i.ñ<=4*(2*ϴr):=Á
 show Zed this q
section
variable{ts:À Nd}{c:F}{s:Bool}{Ds:Int}{S:Sl}
variable(N:Ű)(p:ç)(h:Ź)(h0:Č 0)(hl:ϰJ 12)(g0:ϱy)(g1:϶D) include N p h h0 hl g0 g1

theorem QG(k:Nat):Ś (-(Ì XS)) (ı k) XS:=by
 let:=ϐM _ ì<|Ã ċ+k;let e:ı k=-pA (î Þ) (Ã ċ+k):=rfl;lia
theorem aaa:Ě<=XS:=(ϐM _ ì<|Ã ċ+Þ).2
theorem YX:Ϸ<=ä ϦW:=by
 let bl:=N.bl p Á;let g:=N.g0 p Á;let b1:=ϩ9 Á;let n:=HJ p s h0 hl;let le:ϻI<=ä (XS^Þ):=(Rh Þ (ϰp ⟨N.J.inv.piv i hi,(ϐM i Á _).2⟩)).2;let m:XS^Þ<=ϦW:=Zbu Ý n;let:Ϸ<=ϥf*Ϸ:=Ĳ (Zaf (ê<|Ì 1<=ϥf) (ê<|0<=Ϸ))
 lia
theorem ZC:Ś 0 ϵk XQ:=by
 let L:é:=Á
 let w:=ύN L;let u:=N.u0;let nn:0<=ϵk:=by
  erw[wor];show ϛr<|Lp.ED _ ϔ2
  .show Zag Ϩi (ϱP _).1
  .show Zag Ϩi (ϱP _).1
  show Zag Ϩi ?_;let a:=(ϱP (Ŧ).1).1;let b:=(ϱP (Ŧ).2).1;erw[bI];lia
 let b1:=ϩ9 L;let B:=YX N p h h0 hl g0 g1;let x0:=ϙT 0;let x:=ϙT 1;let a:ϵk<=Ě*ϵk:=Ĳ (Zaf (ê<|Ì 1<=Ě) nn)
 let b:Ϸ*(ı 0+ı 1)<=Ϸ*(2*XS):=Zat Á Á;let d:Ϸ*(2*Ì XS)<=ä ϦW*(2*Ì XS):=Zaf B Á;let e:ä ϦW*(2*Ì XS)=XQ:=by
  erw[XQ];rw[ύ (ϴr=ϦW*XS) (Zcm ..)];push_cast;generalize Ì XS^13=A;rw[Zad]
 show(nn,Á)
theorem Zh:ä ϦW<=XQ/\Ì XS<=XQ:=by
 let a:ϦW<=2*ϴr:=œ
 let b:XS<=2*ϴr:=œ
 erw[XQ];lia
end
def Lc(l:À Int):l.Ğ=sm l.À ϴu:=ϱD (xw 0 id l) Zdu
section
variable{ts:À Nd}{c:F}{s:Bool}{Ds:Int}{S:Sl}
def nwM(ts:À Nd)(s:Bool)(Ds:Int)(S:Sl):Int:=eT<|Ā ts.À λk=>gv ϯv k-Ě*Ļ k
def nwL(ts:À Nd)(s:Bool)(Ds:Int)(S:Sl):À Int:=Ϗm Ě
def CN:İ (Ã ϴG):=by erw[nwL,mvL,nwP];rw[K0,K0,Z7]
def oV{k:Nat}(h:Ć):I4 ϴG k=ϰ0 k-nwM ts s Ds S:=by erw[I4,nwL,mvL,nwP];rw[N2,N2,ϴ6];rfl
def NH:Ã Ġ=2*Ã Í+Ã (S4 Í):=by erw[nwQ,nwR];rw[Lp.BC,wm,lJ]
def FN:Ã (ϰx Ġ)=Ã Í:=by
 erw[dY];rw[K9f,NH];lia
def Fl:Ã (ϰ5 Ġ)=Ã Í:=by
 erw[cF];rw[K9f,K8y,NH];lia
def V2{j:Nat}(J:j<Ã Í):I4 (ϰx Ġ) j=ϫj j:=by erw[dY,lfV,qv,pA,I4];rw[K97 J]
def Ut{j:Nat}(J:j<Ã Í):I4 (ϰ5 Ġ) j=ϧW j:=by erw[cF,rtV,qv,pA,I4];rw[K97 J,K84]
def Fw:(ϰx Ġ).sum=Ϸ:=Ε Lc FN (ŭ ((ϰp (V2 hi))))
variable(N:Ű)(p:ç)(h:Ź)(h0:Č 0)(hl:ϰJ 12)(g0:ϱy)(g1:϶D) include N p

theorem TJ(a:é):(ϰ5 Ġ).sum=Ϸ:=by rw[Lc,Fl,<-N.br p a];show ŭ ((ϰp (Ut hi)))
theorem M3(a:é):Bp ts Ds (ϰx Ġ) (ϰ5 Ġ) (ϰ4 Ġ) (Ã Í)=Ϸ+ϵk:=by
 let he:=ľ;erw[Bp,wor];rw[Fw,GU,K90 ì,xw (0,0),Lp.aM (g:=λj=>ϫj j*û (hdN<|Ū j)+ϧW j*û (ltN<|Ū j)) _ λj J=>ϰZ yW (V2 J) (Ut J),lF]
 rw[Lp.aM (g:=ϰt gpV (ϱ1 Ŧ)) (Ã (S4 Í)) λi hi=>by
  change I4 (ϰ4 Ġ) (Ŧ).2*ϱ1 Ŧ=_
  let:=FY he Ġ hi;let this:I4 (ϰ4 Ġ) (Ŧ).2=ϫn i:=this;rw[this]]
 lia
include h g0
theorem MN(a:é):jE (Ā ts.À λk=>I4 ϴG k+Ě*(û k+1))-eT (Ā ts.À λk=>I4 ϴG k-Ě*û k)=ı 0+ı 1+Ě:=by
 rw[<-N.width p h a g0 (nwM ts s Ds S)];congr 2
 .show K8u λk H=>ϰT (oV ϹR)
 show K8u λk H=>ϰT (oV ϹR)
include h0 hl g1
end
def T3(ts:À Nd):∀(m:Nat)(V:Ò),όL->∀k∈V,∃(j:Nat)(x:Nat×Ò),ę (ŏ m V)=Ď/\∀q∈V,q∈x.2↔rel ü Tl q k=true:=by
 ext m
 induction m with
 |zero=>
  ext V h k H;let:V=[]:=Zas Á;subst this;cases H
 |succ m ih=>
  ext V h k H;cases V with
  |nil=>cases H
  |cons w W=>
   let dl:=ύM;let e:ŏ (m+1) ϸE=(w,Β λk=>ŋ)::ŏ m (Β λk=>! ŋ):=rfl;rw[e];cases hr:ŋ=true
   .apply(0,_,rfl,ϸf)
    dsimp only;rw[K89];show(λz=>ϪX z.2<|ϩL hr,λz=>⟨Q,ϪX z hr⟩)
   let K:k∈Β λk=>! ŋ:=ϳy ⟨H,Ϯ hr⟩;let(j,x,J,X):=ϲ2 (by rw[K9p]at h;lia) k K;show(j+1,x,J,ϸf);cases f:rel ü Tl q w=true
   .constructor
    .intro z
     let:=(ϦJ ((ϷU<|K9L J).2 q z).1).2;rw[f]at this;cases this
    .exactλz=>ĭ (ϪX (ϩL z) f) hr
   show X q<|ϳy ⟨Q,by simp[f]⟩
section
variable{ts:À Nd}{c:F}
def EW(p:ç)(a:é){e:Nat}(he:e∈č):∃w C:Nat,rel ü Tl w e=true/\(∀q∈č,rel ü Tl q e=true->Ŝ q=qD (stL ts (w,true,ϴS w) C) (q,ϴR q,ϴS q))/\w∈č:=by
 let G:=ϓd a;let(j,x,J,H):=T3 ts _ č ì e he;let hg:ę (Ķ true)=Â (ϳ9 x):=by erw[gpT];rw[Ĝ,N2,J];rfl
 let M:=ϷU<|K9L J;let h:=List.mem_of_head? M.1;let d:=HV (ts:=ts) M.1;let lt:ύd x.1=true:=Ϥy;rw[lt]at d;show(x.1,ϱs (Ķ true) j,(H _ (M.2 _ h).1).mp h,λq Q hr=>?_,(M.2 _ h).1);let:=Dk G hg<|ϲo ⟨q,(H q Q).mpr hr,rfl⟩;rw[d]at this;show this
def Gs(p:ç)(l:é){a b k:Nat}(h:k∈Ŝ a)(H:k∈Ŝ b):ϥp ü Tl/\a∈č:=by
 let G:=ϓd l;let(j,g1,t1,A,n,w,f,y):=wR G h;let(J,g2,t2,b1,B,I,g,i):=wR G H;let E:j=J:=by
  rcases Zba j J with q|q|q
  .let:=Ϲp (Ķ true) (ê<|j+1<=J)
   lia
  .show q
  let:=Ϲp (Ķ true) (ê<|J+1<=j);lia
 subst E;rw[A]at b1;cases b1;erw[gpT]at A;rw[Ĝ,N2]at A;let(x,X,rfl):=XL.mp A;let M:=ϷU<|K9L X;let(d,m,rfl):=XV.mp n;let(e,Q,rfl):=XV.mp B;let w:d=a:=w;let I:e=b:=I;subst w;subst I;show(ϪX (M.2 _ m).2<|ϩL (M.2 _ Q).2,(M.2 _ m).1)
def x_(p:ç)(l:é){a b:Nat}(A:a∈č)(B:b∈č)(h:ü a=ü b):Ŝ a=Ŝ b:=by let(w,C,_,n,_):=EW p l A;rw[n a A<|lA a,n b B<|bG.ó<|Ð h.Ï];erw[qD,lkB];rw[h]
def E3{t:Tm}{q:Nat}(C:Nat)(h:q<ϳ4):(Ϸb C)[q]?=Â (C+ϸI t q):=ϰZ stL N2 ϴ6
def KP(t:Tm)(C:Nat)(h:Μ t.2.2):Ϩ (Ϸb C)=Ϸb C:=by
 show K9K λi=>?_;cases hi:i<ϳ4
 .rw[Zaw (ϷX mK),mK,E3 C Á,E3 C hi]
  erw[mdS];rw[ϰo,ϰo];show Ϸj Á
 rw[K9c (Ϻ Zax mK),K9c<|Ă mK]
def BS(p:ç)(l:é){a b:Nat}(A:a∈č)(B:b∈č)(h:ü a=Tl (ü b)):Ŝ a=Ϩ (Ŝ b):=by
 let(w,C,W,n,_):=EW p l A;let hr:rel ü Tl b a=true:=ϩL<|bG.ó<|Ø h;rw[n a A<|lA a,n b B hr];let R:=bG.mp<|ϩL W;let r:=bG.mp<|ϪX hr<|ϩL W;erw[qD];change(Ë (ϴR a=true) _ _)=Ϩ (Ë (ϴR b=true) _ _:Ò);erw[lkB];simp only[K9k];cases d:ü a=ü w
 .rw[Os d]
  cases H:ü b=ü w
  .rw[ϱT]
   show(KP _ _<|Z8<|by rw[<-H,<-h,d,H]).symm
  rw[ϲb,Zex]
 rw[P3 d];let g:ü a=Tl (ü w):=R.resolve_left d;let H:ü b=ü w:=ϮB (Uf Tl<|h.Ñ g) fL fL
 rw[ϱT]
end
abbrev nwT(ts:À Nd)(s:Bool)(Ds:Int)(S:Sl):À Int:=pK ts (ϰx Ġ) (ϰ5 Ġ)<|ϰ4 Ġ
def VA(x:å)(a:Nat):∀(s:Ò)(p:Nat),ϵx p=ϺM s.À (ϱ7 (p+q)*x (Ó (s[q]?) 0)):=by
 induction _ with
 |nil=>ext _;show rfl
 |cons k s N3=>
  ext p;let e:ϺM (1+s.À) (ϱ7 (p+q)*x (Ó ((k::s)[q]?) 0))=ϱ7 p*x k+ϺM s.À (ϱ7 (p+1+q)*x (Ó (s[q]?) 0)):=by
   rw[vB];congr 1
   .change 0+ϱ7 (p+0)*x k=_
    rw[K8R,Zfl]
   show ŭ (λq x=>?_);rw[ê (p+1+q=p+(1+q)),Zct 1 q,Zbs]
  rw[eP',N3<|p+1,K9p,Zct s.À 1,e]
section
variable{ts:À Nd}{c:F}{Ds:Int}{S:Sl}{s:Bool}
def Nw.flow(N:Ű)(p:ç)(l:é)(x:å):ϳS (Ë (v=0) 0 (pA ϫf v*ϴ9 (Ÿ v) (ø<|ý v) 0))=0:=by
 let h:=ľ;let G:=ϰ2 l;let m:ϩM (ø e) Þ:=λe k K=>(sV G K).2;let a:=N.calm p l x;generalize F:ξ ø Þ x=f at a;let g:f 0=0:=by rw[<-F];show DM p.ú
 let fs:∀v,0<v->϶4->f v-f (ý v)=ϴ9 (Ÿ v) (ø<|ý v) 0:=λv b H=>by
  rw[<-F];rw[pY h m b H];lia
 generalize t:ϫf=T;let pz:=parts h f (Ϗx<|ώW (ϰx Ġ) (ϰ5 Ġ)<|ϰ4 Ġ) (B.wc _ _) ĵ ì;let M:ϰ (Ϗx<|ώW (ϰx Ġ) (ϰ5 Ġ)<|ϰ4 Ġ) ĵ=T:=t;rw[M]at pz;let e1:ϳS (ϩ1 (Ϗx<|ώW (ϰx Ġ) (ϰ5 Ġ)<|ϰ4 Ġ))=ϳS (ώW (ϰx Ġ) (ϰ5 Ġ) (ϰ4 Ġ) v*f v):=Lp.aM _ λv H=>by
  congr 1
  erw[pA,B.fl];rw[N2,K9Z H];rfl
 rw[e1,Ve h,Mt h _ f _ ì]at pz;let A:ϰR ((Ã (S4 Í))) (pA (ϰ4 Ġ) (Ŧ).2*f (Ŧ).1)=sm (Ã (S4 Í)) (ϰt gpV (f (Ŧ).1)):=ŭ ((ϰp (ϣ (FY h _ hi))))
 let n:ϯ0 sm ((Ã Í)) (λj=>Ņ (ϰx Ġ)*f (hdN<|Ū j)) (λj=>ϫj j*f (hdN<|Ū j)):=Lp.aM _ λj J=>by
  congr 1
  erw[dY,lfV,qv,pA];rw[K97 J]
 let w:ϯ0 sm ((Ã Í)) (λj=>Ņ (ϰ5 Ġ)*f (ltN<|Ū j)) (λj=>ϧW j*f (ltN<|Ū j)):=Lp.aM _ λj J=>by
  congr 1
  erw[cF,rtV,qv,pA];rw[K97 J,K84]
 let d:sm (Ã (S4 Í)) (ϰt gpV<|f (Ŧ).2-f (Ŧ).1)=Ϲg sm ((Ã (S4 Í))) (ϰt gpV<|f (Ŧ).2) ((ϰt gpV (f (Ŧ).1))):=ϳq (ŭ (λi x=>show ϫn i*(f (Ŧ).2-f (Ŧ).1)=ϫn i*f (Ŧ).2+(-1)*(ϫn i*f (Ŧ).1)by rw[Zbw];lia)) lF fj
 rw[d]at a;rw[A,n,w]at pz;let pz:_=sm (Ã (S4 Í)) (ϰt gpV<|f (Ŧ).2)-_+_:=pz;let z:ϳS (pA T v*(f v-Ë (ϲL ĵ<=v) (f (ý v)) 0))=0:=Ă pz
 show Eq.trans (ŭ<|λv H=>?_) z;let o:=p.ú;cases b:v=0
 .subst b
  rw[Ĝ,P3 Á,g];simp
 rw[P3 b,Os Á,fs v Á H]
def S8(h:ĕ)(a:Č 0)(f:Nat->å):ϳS (Ë (v=0) 0 (f v (ý v)))=sm ts.À λe=>(Ê (Å e) λv=>f v e).sum:=by
 let e1:∀e,(Ê (Å e) λv=>f v e).sum=ϳS (Ë (v≠0/\ý v=e) (f v e) 0):=λe=>by
  erw[F5];rw[Du];show ŭ (λv H=>?_);cases Z:v=0
  .subst Z
   rw[P3 (ϳj<|Sy h a),ϱi (z.1 rfl)]
  let E:=(ϷO h (ê<|0<v) H).2.2;cases C:ý v=e
  .rw[Os (by rw[E,C];simp),Os ⟨Z,C⟩]
  rw[P3 (by rw[E];simp;lia),ϱi (C z.2)]
 rw[ŭ (λe x=>e1 e),vF];show ŭ (λv H=>?_);cases Z:v=0
 .rw[Os Z,ϭl (λe x=>ϱi (z.1 Z))]
 let l:=(ϷO h (ê<|0<v) H).2.1;rw[P3 Z,Lp.c7 _ (ê<|Č (ý v)) λi x hi=>ϱi (hi z.2.symm),Os ⟨Z,rfl⟩]
def TR(T:À Int){e q:Nat}(he:ϹD)(H:q+1<Ã (Å e)):gI (dI (ϱ2 T) e) q=(τ (Ê (Å e)<|I4 T)<|q+1).sum-(Ł (Ê (Å e)<|I4 T)<|q+1).sum:=by
 let h:dI (ϱ2 T) e=wI (Ê (Å e)<|I4 T):=by erw[dI,cR];rw[N2,K9Z he];rfl
 rw[h];erw[wI];rw[uW<|Ă K0]
def Nw.rows(N:Ű)(p:ç)(a:é)(x:å):sm ts.À (λe=>ϺM ((Ã (ø e))) (x (Ó ((ø e)[q]?) 0)*gI (dI (ϱ2 ϫf) e) q))=0:=by
 let h:=ľ;let fl:=N.flow p a x;rw[S8 h p.ú λv e=>pA ϫf v*ϴ9 (Ÿ v) (ø e) 0]at fl;show Eq.trans (ŭ<|λe he=>?_) fl;let nf:=ϔU a e;generalize ϫf=T;let b1:(Ê (Å e) λv=>pA T v*ϴ9 (Ÿ v) (ø e) 0).sum=ϰR ((Ã (Å e))) (ϺM ((Ã (ø e))) (ř (Ê (Å e)<|I4 T)*(sgn (0+i) q*x (Ó ((ø e)[q]?) 0)))):=by
  rw[xw 0];show ŭ ϱn;let C:á (Å e)=some (Å e)[i]:=ϰD;let ci:=nB h C;rw[C];change pA T _*ϴ9 (Ÿ<|(Å e)[i]) (ø e) 0=_;rw[ci.2.1,VA,fj];let g:ř (Ê (Å e)<|I4 T)=pA T (Å e)[i]:=by erw[pA];rw[N2,C];rfl
  rw[g];congr 1;show ŭ (λq x=>?_);rw[K87,K87]
 rw[b1,vF];show ŭ ϨT;rw[TR T he Á];let l:=NI q (Ê (Å e)<|I4 T) 0;rw[Zfm,K0]at l;rw[<-l,<-fj];show ŭ ϔ2;rw[Zad,Zai<|sgn (0+i) q,Zad]
end
open Lp (pA sm Sl)
def yF{l:À Int}{q:Nat}(h:q<l.À):gI l.å q=gI l (l.À-1-q):=ű gI (Zaw h)
section
variable{ts:À Nd}{c:F}{Ds:Int}{S:Sl}
def xC(p:ç)(a:é){j n:Nat}(J:j∈č)(N:n=Ã (Å j)-1):
  Ã (Ŝ j)=n/\(ü j=Tl (ü j)->∃C,∀q,q<n->(Ŝ j)[q]?=Â (C+min q ϩZ))/\(¬ü j=Tl (ü j)->(Ŝ j).Nodup):=by
 let(w,C,W,U,wf):=EW p a J;let e:=U j J<|lA j;let wl:Ã (Å w)=Ã (Å j):=Ϝt<|FZ (cZ wf) (cZ J) W;let d:∀b,wdS ts (w,true,b)=n:=λb=>by
  change Ã (Å w)-1=n;rw[wl,N]
 show(by rw[e,B9,mK,d],λh=>⟨C,ϸf⟩,λh=>?_)
 .let mt:ϴS w=true:=Z8 (by
   rcases bG.mp W with H|H
   .rw[H];show h
   rw[H,fL];show h.Ï)
  rw[e,mt];let s:qD ϘB (j,ϴR j,ϴS j)=ϘB:=by
   erw[qD];split
   .rfl
   show KP _ _ rfl
  rw[s,E3 C<|by rw[d];show Q];erw[mdS];rw[Ĝ,d]
 let m:ł (ϴS w):=K9q λz=>h (by
  rcases bG.mp W with H|H
  .rw[<-H];show z
  let:=Uf Tl H
  rw[fL]at this;rw[<-this,fL];show z.Ï)
 rw[e,m];let sn:(stL ts (w,true,false) C).Nodup:=by
  erw[stL];rw[Zdz,Zei];show K8C.imp λh q=>h ?_;erw[mdS]at q;rw[ϳD,ϳD]at q;lia
 erw[qD];split
 .show sn
 show(List.nodup_iff_pairwise_ne.mpr<|List.pairwise_reverse.mpr<|(List.nodup_iff_pairwise_ne.mp sn).imp λh=>h.Ï)
def Nw.gcalm(N:Nw ts true Ds S)(p:ç)(L:é){j:Nat}(J:j∈č):B.calm ü Tl (dI<|ϱ2 ϚW) č j:=by
 ext P d;rw[sy,Os<|cZ J]at d;obtain⟨n,t⟩:∃n,n=Ã (Å j)-1:=ζ;rw[<-t]at d;let(nl,ns,na):=xC p L J t;let K:(Ŝ j)[P]?=Â ((Ŝ j)[P]' Á):=ϴ8;generalize (Ŝ j)[P]' Á=k0 at K;let rows:=N.rows p L ϸA;generalize D:dI (ϱ2 ϚW)=R at rows⊢;let v:∀e,ϹD->rel ü Tl e j=true->Ã (R e)=n:=λe he hr=>by rw[<-D,Bv p _ e j hr,sy,Os<|cZ J,t]
 let u:∀m:Int,(∀e,ϹD->(Ë (Õ (Ì 1<Ì ((Ã (Å e))))=true) ((Ë (ü e=ü j) (ϻ2 P) 0)+(Ë (ü e=Tl (ü j)) (gI (Ϩ (R e)) P) 0)) 0)=m*ϺM ((Ã (Ŝ e))) (ϸA (Ó ((Ŝ e)[q]?) 0)*ϻ2 q))->tot ü Tl R č j P=0:=λm h=>by erw[tot,fk];rw[Du,ŭ h,fj,rows,Zaa]
 let off:∀e,¬(rel ü Tl e j=true/\e∈č)->ϺM ((Ã (Ŝ e))) (ϸA (Ó ((Ŝ e)[q]?) 0)*ϻ2 q)=0:=λe hr=>Lp.cJ _ λq Q=>by
  let g:ϖP (Ŝ e):=Nu Q;rw[g];let:¬(Ŝ e)[q]=k0:=λz=>hr<|Gs p L (k:=k0) (Ϙ z<|Zah Q)<|K9L K;change ϸA ((Ŝ e)[q])*_=0;erw[ind];rw[P3 this,Zam]
 let core:∀m:Int,(∀e,e∈č->rel ü Tl e j=true->(Ë (ü e=ü j) (ϻ2 P) 0)+(Ë (ü e=Tl (ü j)) (gI (Ϩ (R e)) P) 0)=m*ϺM ((Ã (Ŝ e))) (ϸA (Ó ((Ŝ e)[q]?) 0)*ϻ2 q))->tot ü Tl R č j P=0:=λm h=>u m λe he=>by
  cases f:Õ (Ì 1<Ì ((Ã (Å e))))=true
  .rw[Os f]
   cases hr:rel ü Tl e j=true
   .show h e (ϳy ⟨϶u he,f⟩) hr
   rw[off e λz=>hr z.1,ϱi (hr<|bG.ó<|Ð z),ϱi (hr<|bG.ó<|Ø z),Zaa];rfl
  rw[P3 f,off e λz=>f (ϦJ z.2).2,Zaa]
 cases s:ü j=Tl (ü j)
 .let(C,w):=ns s
  let E:k0=C+min P Ϻw:=ϩH (K.Ñ<|w P d) (K9R this)
  let U:∀e,e∈č->rel ü Tl e j=true->ü e=ü j/\ü e=Tl (ü j)/\Ŝ e=Ŝ j:=λe he hr=>by
   let H:ü e=ü j:=by
    rcases bG.mp hr with h|h
    .show h
    rw[h];show s.Ï
   show(H,H.Å s,x_ p L he J H)
  let I:∀q,q<n->ϸA (Ó ((Ŝ j)[q]?) 0)=Ë (q=P\/q=Ϻw) 1 0:=λq Q=>by
   rw[w q Q,E];change ind _ (C+min q ϩZ)=_;erw[ind];cases h:q=P\/q=Ϻw
   .rw[ϰo,Os Á]
   rw[ϱB,P3 Á]
  cases M:P=Ϻw
  .apply ϑK 2
   let(H,o,r):=U e he hr;let l:=ϒj;rw[ϱT,Os o,yF Á,l,<-M,r,nl,Ϸd P n d (λq Q ne=>by rw[I q Q,P3 Á,Zam]),I P d,Os<|Ð rfl];lia
  show ϑK 1;let(H,o,r):=U e he hr;let l:=ϒj;let two:∀q,q<n->ϸA (Ó ((Ŝ j)[q]?) 0)*ϻ2 q=(Ë (q=P) (ϻ2 q) 0)+Ë (q=Ϻw) (ϻ2 q) 0:=λq Q=>by
   rw[I q Q];cases a:q=P
   .rw[Os<|Ð a,Os a,P3 Á]
    lia
   cases b:q=Ϻw
   .rw[Os<|Ø b,P3 a,Os b]
    lia
   rw[ϱi (z.Ä a b),P3 a,P3 b];lia
  rw[ϱT,Os o,yF Á,l,r,nl,ŭ two,lF,Ϸd P n d (λq x ne=>P3 ne),Ϸd Ϻw n Á (λq x ne=>P3 ne),Ĝ,Ĝ,Zaq]
 let nd:=na s;let inj:∀q,q<n->(Ŝ j)[q]?=Â k0->q=P:=λq Q h=>(Zej (i:=q) Á nd).mp<|h.Å K.Ï;show ϑK 1;let l:=ϒj;rcases bG.mp hr with H|H
 .rw[ϱT,ϱi (s ϑG),x_ p L he J H,nl,Lp.c7 (l:=P) n d λq Q ne=>by
   let g:(Ŝ j)[q]?=Â ((Ŝ j)[q]' Á):=ϴ8
   rw[g,Zaz];erw[ind];rw[P3 λz=>ne<|inj q Q<|g.Å<|Ϸj z,Zam],K]
  change _=1*(ϸA k0*_);erw[ind];rw[Ĝ];lia
 let x:∀q,q<n->(Ŝ j).reverse[q]?=(Ŝ j)[ϩZ]?:=λq Q=>Ĥ (Zaw Á) nl
 rw[ϱi (s<|z.Ñ H),ϱT,yF Á,l,BS p L he J H,Zax,nl,Lp.c7 (l:=Ϻw) n Á λq Q ne=>by
  let g:(Ŝ j)[ϩZ]?=Â ((Ŝ j)[ϩZ]' Á):=ϴ8
  rw[x q Q,g,Zaz];erw[ind];rw[ϱi (ne (Ĳ<|inj ϩZ Á<|g.Å<|Ϸj z)),Zam],x _ Á,ê (n-1-Ϻw=P),K]
 change _=1*(ϸA k0*_);erw[ind];rw[Ĝ];lia
end
def stM(M:À Int)(ts:À Nd)(q:Nat):À Int:=Ā (Ã (Å q)-1) λi=>gv M (Ó (ϺK<|Å q) 0)-gv M (Ó (á<|Å q) 0)
section
variable{ts:À Nd}{c:F}{Ds:Int}{S:Sl}
def Cr(p:ç)(a:é){e:Nat}(he:e∈č):ϦM ϮT e=Ê (Ŝ e) λk=>2*ϯk k:=by
 let h:=ľ;let G:=ϓd a;let n:ϩM (Ŝ e) (nU ts true):=λe k H=>(sV G H).2;let nl:=(xC p a he rfl).1;show K9K λi=>?_;erw[stM];rw[N2,N2];cases hi:i<Ã (Å e)-1
 .let g1:á (Å e)=Â ((Å e)[i]' Á):=ϴ8
  let g2:ϺK (Å e)=Â ((Å e)[i+1]' Á):=ϴ8;let g3:á (Ŝ e)=Â ((Ŝ e)[i]' Á):=ϴ8;rw[ϴj,g3];change Â (Ϲg gv _ (Ó (ϺK<|Å e) 0)<|Ó (á<|Å e) 0)=Â _;rw[g1,g2];let M:=fu<|K9L g1;let Q:=fu<|K9L g2;let A:gv ϮT _=_:=ϙg M;let b:gv ϮT _=_:=ϙg Q;rw[Zaz,Zaz,A,b];erw[wP];rw[kW h n g1,kW h n g2,vI _ (Ŝ e) i 0 i _ Á g3];show Ϸj ?_;change _=2*ϯk _;lia
 rw[K9c (Ă Z7),K9c Á];rfl
end
def Br:Ϛw (Ï [])=þ (ã false):=D1 (a:=[]) (n:=1) (yB λx h=>nomatch h) Ý
def Rl(ts:À Nd)(Ds K:Int)(M:À Int):Prop:=(∀q∈S4 Í,K*ϱ1 q<=ź q.2-ź q.1)/\∀e a b,Ϧ7 (Å e) (2*ź e) (ź a+ź b)
def Lk(ts:À Nd)(M:À Int):Prop:=(∀a∈č,∀b∈č,ü a=ü b->ϵt a=ϵt b)/\∀a∈č,∀b∈č,ü a=Tl (ü b)->ϵt a=Ϩ (ϵt b)
theorem qM(ts:À Nd)(pl:À Int)(Ds u:Int)(he:ĕ)(l:ϵe)(q:é)(s:İ pl.À)(g0:0<=Ds)(g1:ϲv Ds)(U:cQ u=true)(R:ϸm u pl):
  kZ [Ï è,Ï ϻA,Ä Ds,Ä u]=ģ []:=by
 let I:ϲv (Ã (S4 Í)):=by
  let:=oO Í;let ok:=ϵ5 ì;let:İ (Ê Í List.length).sum:=ok.Ğ;lia
 let g:fY [Ï è,Ï ϻA,Ä Ds,Ä u]=ģ []:=by
  erw[fY,lV];simp![zM ts Ds he l q,aI];generalize D:Į=rc
  let e:=iS D ό8 όn (λx=>.sh ò) (S4 Í) rfl (K94<|aF Á) (by
   ext p P;let h:=ϸt P;let g1:=϶8 pl p.1 Á;let g2:=϶8 pl p.2 Á;let b1:=wV l p.1;let G:=wV l p.2;let x:=R.1 p P;erw[bI]at x;let M:=fP (i:=u) (j:=û p.1+û p.2+Ds+1) U (pB Á Á);let d:ł (Õ (Ϲg I4 pl p.2 p.1<u*(û p.1+û p.2+Ds+1))):=K9q Á;erw[Dx,bI];show(?_,ϳT)
   simp![g1,g2,M,d])
  subst e;let z:ž (S4 Í) όn=[]:=List.filter_eq_nil_iff.mpr λx x z=>nomatch z;rw[z];simp![S5]
 let m:dc [Ï è,Ï ϻA]=ģ []:=by
  erw[dc,iI];let S:Ι ((Ì ts.À)):=Ŕ Á;simp![aH,S];generalize F:Ŗ=r';show aX F (λi t=>∃C v:Ü OD,t=[â è,â ϻA,Â ϭp,C,v]) (ϲi _) ?_ ?_
  .rintro i d t hd ⟨C,v,rfl⟩
   let(hi,rfl):=϶M;rw[K9n]at hi;rw[K8R];let c:=eA ts i hi q;let g0:=ϫV (k:=i) Á;let H:=R.2 i;let cl:∀k∈Å i,Ć:=λk K=>fu K;generalize Å i=L at c H cl;cases L with
   |nil=>
    let f:ł (Õ (Ì 0<Ì ((Ã (nD []))))):=K9q Ý;simp![c,iP,f];show(_,_,rfl)
   |cons a r=>
    let f:Õ (Ì 0<Ì ((Ã (nD ϱz))))=true:=Z8 (Ϻ eF K9p);obtain⟨b,B⟩:∃b,Ϥb ϱz=ϧ:=Ϭy Û
    let y:=H a b rfl B;let A:atI (nD ϱz) 0=Â (Ä ϑ):=ϭg;let w:Ϲ3 (nD ϱz)=Â (Ä ϩA):=by
     let:=(bX (r:=ϱz) Û).2.1;let e:ltN ϱz=b:=ϙu
     rw[e]at this;let N:ϹP nD ϱz aO:=ϏQ
     rw[N];show this
    let g1:=ϫV (k:=a) (by rw[s];show cl a K9z);let g2:=ϫV (k:=b) (by rw[s];show cl b<|Zcb B);simp![c,iP,f,A,w,g0,g1,g2,Z8 y];show(_,_,rfl)
  ext ρ' rfl ⟨C,v,rfl⟩;simp![S5]
 erw[kZ,sC];let o:ϳs (Ã ([]:À Gc)+Ã ([]:À Gc)):=ϸC ϰS;let E:Ê ([]:À OD) OD.er=[]:=rfl;simp![g,m,E,o]
def sI(s:À Int)(L:Ò):À Int:=Ê (prs L) λp=>ϺI p.2-ϺI p.1
def ZP(L:Ò):gq (nD L) (τ (nD L) 1)=Ê (prs L) prD:=by
 let e:nD L=aO L:=ϏQ
 rw[e];show Ht L
def Vx(p:À Int)(ts:À Nd)(q:Nat):sI p (Å q)=stM p ts q:=by
 erw[sI,stM,prs];generalize Å q=L;apply K9K;ext i;rw[N2,N2];cases hi:i<L.À-1
 .let h:L[i]?=Â (L[i]' Á):=ϴ8
  let H:L[i+1]?=Â (L[i+1]' Á):=ϴ8;let f:(L.Ċ<|L.ä 1)[i]?=Â (L[i]' Á,L[i+1]' Á):=by rw[Zan];show(h,?_);rw[K84,Zct];show H
  rw[f,ϴj,Zbe,Zbe,h,H];rfl
 rw[K9c (Ϻ Zao K8y),K9c<|Ă Z7];rfl
def CU(ts:À Nd)(s:À Int)(H:İ s.À)(l:é)(a:Nat)(A:ϳh)(C:1<=Ã (Å a)):iq [Ï è,Ï Ϩu,Ä ϑ]=ģ (aG<|Ϸc a):=by
 rw[<-Vx];erw[iq,qA];let c:=eA ts a A l;let u:ϲc (nD<|Å a) (Â 1) none=τ (nD<|Å a) 1:=i8 _ 1 (όq eF);simp![c,iP,u,aI,ZP];generalize w:Į=rc
 let cl:=uU ts a;let nl:=BW<|Å a;let e:=aS w prD (λp=>Ñ<|ϺI p.2-ϺI p.1) (prs<|Å a) rfl (K94<|aF Á) (by
  ext p h;let pm:=BP h;let b1:=d9 (pl:=s) (k:=p.1) (ϫX<|fu pm.1);let B:=d9 (pl:=s) (k:=p.2) (ϫX<|fu pm.2)
  erw[prD];simp![b1,B])
 subst e;simp![S5];erw[sI,aG];rw[S1,S1];rfl
def Wt(h:ϤJ=þ (Ï ds))(H:Ϫp=.ok (Ñ<|-1)):ύt ρ=ģ ϐp:=ϙe
def G_{ts:À Nd}{k:Nat}(h:k∈č):1<Ã (Å k):=Ĳ (ϷP (ώv).2)
def FQ{ts:À Nd}{c:F}(p:ç)(h:Ź)(s:À Int)(P:İ s.À)(H:é){a b:Nat}(A:a∈č)(j:b∈č)(k:ü a=ü b->Ϸc a=Ϸc b)(i:ü a=Tl (ü b)->Ϸc a=Ϩ (Ϸc b)):
  eW [Ï è,Ï Ϩu,Ä ϑ,Ä ϩA]=ģ []:=by
 erw[eW,kJ];let L:=cZ A;let B:=cZ j;let U:=R9 p h H L B;let S:=CU ts s P H a L (Ĳ<|G_ A);let w:=CU ts s P H b B (Ĳ<|G_ j);let e1:=LV (Ϸc a)<|Ϸc b;let g:=LV (Ϸc a) (Ϩ (Ϸc b));rw[Zdc]at g;let m:Õ (ϰc a=ϵZ (ϰc b))=Õ (ü a=Tl (ü b)):=Ε (dQ L) (dQ B) (decide_eq_decide.ó ⟨λz=>Ϸj z,λz=>K9R z⟩)
 rw[Km L B,m]at U;let R:∀f:L3.Env,f[6]?=ϩf (Đ<|Ï<|Ê (Ϸc b) int)->Ϥ3 (ġ<|Ç 1) f=ģ (ύp (Ê (Ϸc b) int) OD.sh):=λf e=>Wt (by erw[aa];rw[e]) rfl;simp![U,S,w,aW];cases q:ü a=ü b
 .let D:=Z8<|k q
  cases l:ü a=Tl (ü b)
  .let d:=Z8<|i l
   simp![Z8 q,Z8 l,e1,D,R,g,d,aI]
  simp![Z8 q,K9q l,e1,D]
 cases l:ü a=Tl (ü b)
 .let d:=Z8<|i l
  simp![K9q q,Z8 l,R,g,d,aI]
 simp![K9q q,K9q l]
def wY{ts:À Nd}{c:F}(p:ç)(h:Ź)(s:À Int)(P:İ s.À)(m:é)(L:Lk ts s):
  jT [Ï è,Ï Ϩu]=ģ []:=by
 erw[jT,vO];let k:=zE ts Á;let fl:=wz ts;let nl:ϳs (Ã ([]:À OD)+Ã ([]:À OD)):=ϸC ϰS;let E:Ê ([]:À OD) OD.er=[]:=rfl;let n:∀f:L3.Env,aJ ϰb aT (d_<|È 1<|È 2<|È 0 ai) f [] []=Ħ []:=λf=>rfl;let T:LD [Ï []]=ģ []:=rfl;simp![k,xU];generalize l:Ŗ=r;show aX l (λi f=>∃v V v6:Ü OD,f=[â è,â Ϩu,â<|nD č,Â ϭp,v,V,v6]) ϑV ?_ ?_
 .rintro i d f hd ⟨v,V,v6,rfl⟩
  let(e,he,rfl):=kY hd;obtain⟨a,A,rfl⟩:∃a,á č=Ϸr/\e=Ä ϑ:=ϕo he
  let hi:=(ώH).1;let am:=K9L A;let u:=i8 (nD č) i (Ă eF);let D:τ (nD č) i=nD (τ č i):=ϙX Zbt
  rw[D]at u;simp![u,aI];generalize w:Ŗ=r2;show aX w (λj f=>∃v6:Ü OD,f=[â è,â Ϩu,â<|nD č,Â ϭp,some<|Ñ ÿ,some<|Ñ ϑ,v6]) ζ ?_ ?_
  .rintro j d f hd2 ⟨v6,rfl⟩
   obtain⟨b,B,rfl⟩:∃b,ę (τ č i)=ϧ/\d=Ä ϩA:=ϕo hd2
   let bm:b∈č:=Zca<|K9L B;let o:=FQ p h s P Á am bm (L.1 a am b bm)<|L.2 a am b bm;simp![o,E,n,nl];show(_,rfl)
  ext ρ' rfl ⟨v6,rfl⟩;simp![S5];show(_,_,_,rfl)
 ext ρ' rfl ⟨v,V,v6,rfl⟩;simp![E,T]
section
variable{ts:À Nd}{c:F}{Ds:Int}{S:Sl}
def Nw.own0(N:Nw ts false Ds S)(p:ç)(a:é){e q:Nat}(he:ϹD)(h:q+1<Ã (Å e)):gI (dI (ϱ2 Ϛr) e) q=0:=by
 let(nd,nl,own):=Ng p a (Á:2<=Ã (Å e)) he;let Q:q<Ã (Ϲw e):=Á
 let k:ϖP (Ϲw e):=Nu Q;generalize (Ϲw e)[q]=k0 at k;let r:=N.rows p a ϸA;rw[Lp.c7 (l:=e) _ he λi x hi=>ϭl ϳo,Ϸd q _ Q (λj J hi=>?_),k]at r
 .unfold ind at r
  rw[Zaz,Ĝ,Zaq]at r;show r
 .rw[϶Q,Zaz]
  erw[ind];rw[P3,Zam];ext z;rw[Nu Q]at k;let k:=K9R k;show hi<|(Zel nd).mp<|z.Å k.Ï
 rw[϶Q,Zaz];erw[ind];rw[P3,Zam];ext z;show hi<|own k0 (K9L k) i ?_;rw[<-z];show Zah J
end
section
variable{ts:À Nd}{c:F}{s:Bool}{Ds:Int}{S:Sl}
def Nw.rls(N:Ű)(p:ç)(h:é):ϸm Ě ϴG:=by
 let he:=ľ;show(ϨT,λe a b A B=>?_)
 .let b:=ϵG H
  rw[oV b.2.1,oV Á];let:=N.far p h H;lia
 let M:=V7 (s:=s) (Ds:=Ds) (S:=S) p h A B;let i:=ϺG A;rw[Zbo]at B;let I:=ϺG B;let T:=(ϷO he i.2.2.1 Ϧh).2.1;rw[i.1]at T;rw[oV Ϧh,oV I.2.2.2,oV Á];lia
def M7(p:ç)(h:é):Lk ts ϮT:=
 ⟨ϴJ (by rw[Cr p h A,Cr p h B,x_ p h A B e]),ϴJ (by rw[Cr p h A,Cr p h B,BS p h A B e,Zdc])⟩
def nwD(ts:À Nd)(s:Bool)(Ds:Int)(S:Sl):Gc:=eQ (ϰx Ġ) (ϰ5 Ġ)<|ϰ4 Ġ
variable(N:Ű)(p:ç)(h:Ź)(h0:Č 0)(hl:ϰJ 12)(g0:ϱy)(g1:϶D) include N p h h0 hl g0 g1

theorem Q3:VP ts (ϰx Ġ) (ϰ5 Ġ) (ϰ4 Ġ):=by
 let L:é:=Á
 let he:=ľ;show(FN,Fl,BJ ts Ġ _,Ϭt,Ϭt,Ϭt,ϨT)
 .let(i,hi,rfl):=Zal h
  let e:I4 (ϰx Ġ) i=(ϰx Ġ)[i]:=Ϗ I4 ϰD
  rw[FN]at hi;rw[<-e,V2 hi];show Ϩi
 .let(i,hi,rfl):=Zal h
  let e:I4 (ϰ5 Ġ) i=(ϰ5 Ġ)[i]:=Ϗ I4 ϰD
  rw[Fl]at hi;rw[<-e,Ut hi];show Ϩi
 .let(i,hi,rfl):=Zal h
  let e:I4 (ϰ4 Ġ) i=(ϰ4 Ġ)[i]:=Ϗ I4 ϰD
  rw[<-e];cases k:∃j,j<Ã (S4 Í)/\(Ϭ2).2=i
  .let(j,J,e):=k
   let v:I4 (ϰ4 Ġ) (Ϭ2).2=ϫn j:=FY he _ J;rw[<-e,v];show Ϩi
  let v:I4 (ϰ4 Ġ) i=0:=vg he _ _ ì i λj J e=>k ⟨j,J,e⟩;rw[v];show ϺC
 let(i,hi):=Zac H;let:=Lg he Ġ (ϻW).1;erw[rwN]at this;rw[hi]at this;show this
theorem Lz:kj [Ï è,nwD ts s Ds S,ã s]=þ (ã true):=by
 let L:é:=Á
 let he:=ľ;let v:=Q3 N p h h0 hl g0 g1;let e:=Nn ts p h Á _ _ _ s (v.are he h0 L) v.ll v.lr v.lg;let b1:=ϩ9 L;let a:(ϰx Ġ).sum=Ϸ:=Fw;let w:=TJ N p L;let t:sdB (ϰx Ġ) (ϰ5 Ġ)=true:=by erw[sdB];rw[a,w,Z8 b1,Ϥy];rfl
 let P:QY ts (ϰx Ġ) (ϰ5 Ġ) (ϰ4 Ġ) s=true:=by
  erw[QY];rw[t,Bool.true_and];cases s with
  |true=>show(HR ts _).mpr λj J=>N.gcalm p L J
  |false=>
   erw[KI];rw[ϳD,K7x];ext x X;let(i,hi):=Zac X;let l:ϫP:=ϱD (ϻW).1 Az
   let ex:dI (ϱ2 Ϛr) i=x:=by erw[dI];rw[hi];rfl
   let z:ł (zB x):=C8.ó λq H=>by rw[<-ex]at H⊢;rw[sy,Os l]at H;show N.own0 p L l Á
   rw[z];rfl
 rw[P]at e;show e
end
def u_{ts:À Nd}{c:F}{Ds:Int}(s:Bool)(p:ç)(h:Ź)(H:ϰJ 12)(g0:ϱy)(g1:϶D):∃S,Ű/\(ϵ cQ (ı 0+ı 1+Ě)/\ϵ cQ Ě)/\cN [Ï è,Ä Ds,ã s]=þ (Ą [Ä<|ı 0+ı 1+Ě,Ä Ě]):=by
 let a:=p.ú;let L:é:=Á
 let he:=ľ;let l:=vC h;let(S,N,n):=BB (s:=s) (Ds:=Ds) p h a H g0 g1;let u:=N.u0;let X:=aaa N p h a H g0 g1;let x0:=ϚX 0;let x:=ϚX 1;let q:=Zh N p h a H g0 g1;let B:=YX N p h a H g0 g1;let ww:=ZC N p h a H g0 g1;let b1:=ϩ9 L;let v:=Q3 N p h a H g0 g1;let W:W4 Ě:=Qv Á Á;let b:=qM ts ϴG Ds Ě he l L CN Á Á W.bits<|N.rls p L;let P:=Lz N p h a H g0 g1;let o:eh [Ï è,Ï<|Ê ϴG int,Ä Ě]=.ok (Ñ<|ı 0+ı 1+Ě):=Ϙ (MN N p h g0 L) (D4 ts ϴG Ě a l L CN)
 let wt:=K6 ts Ds (ϰx Ġ) (ϰ5 Ġ) (ϰ4 Ġ) he a l L Á Á v.ll v.lr v.lg;rw[M3 N p L]at wt;let w:W4 (ı 0+ı 1+Ě):=Qv Á Á;let m:=ϻ4 (ı 0+ı 1+Ě) Ϸ w.bits (Qv Á Á).bits;let Q:=ϻ4 (Ϸ+ϵk) Ě (Qv Á Á).bits W.bits
 let eq:=ύN L;let d:Õ ((ı 0+ı 1+Ě)*Ϸ=(Ϸ+ϵk)*Ě)=true:=Z8 (by
  rw[Zbq,Zbq Ϸ,Zai ϵk,eq,Zai Ϸ Ě,Zai Ϸ<|_+_]
  lia)
 let D:ł (Õ (Ě<1)):=K9q Á;let f:(ϰx Ġ).sum=Ϸ:=Fw;let un:s=true->jT [Ï è,Ï<|Ê ϴG int]=ģ []:=λe=>by subst e;show wY p h _ CN L<|M7 p L
 let E:Ê ([]:À OD) OD.er=[]:=rfl;show(S,N,(w.bits,W.bits),?_);erw[nwO]at n;let g:Ϗm Ě=ϴG:=rfl;rw[g]at n;erw[nwD]at P;erw[eQ,iD]at P wt;clear B ww q x0 x X eq v b1 w W;generalize y:ϴG=M at*;generalize z:Ě=U at*;generalize k:ϰx Ġ=A at*;generalize r:ϰ5 Ġ=B' at*;generalize t:ϰ4 Ġ=G at*;erw[cN,ni];cases s with|true=>simp![n,aW,AE,D,b,E,Br,un rfl,P,NC,o,wt,lh,f,m,Q,d]|false=>simp![n,aW,AE,D,b,E,Br,P,NC,o,wt,lh,f,m,Q,d]
def Pd{T x:å}{a:Nat}:∀(s:Ò)(p:Nat),a<=p->(∀q k,s[q]?=Ş->ϙv)->ϵx p=T p-T όg:=by
 ext s
 induction s with
 |nil=>ext p _ _;show(Int.sub_self _).symm
 |cons k s ih=>
  ext p h H;let i:=ih (p+1) Á λq k K=>by
   let:=H (q+1) k K;rw[ê (Ϫ4 q)];show this
  let b:x k=T (p+1)-T p:=H 0 k rfl;change ϱ7 p*x k+ϵx (p+1)=T p-T (p+ϒu);erw[sgn];rw[i,b,P3 Á,ê (Ϫ4 s.À)];lia
def ZH{T x:å}{a:Nat}:∀(s:Ò)(p j:Nat),a=p+j->j<=s.À->(∀q k,s[q]?=Ş->ϙv)->ϵx p=2*T a-T p-T όg:=by
 ext s
 induction s with
 |nil=>
  ext p j h J _;let:j=0:=by simp at J;show J
  subst this;let h:a=p:=h;change 0=2*T a-T p-T p;rw[h];lia
 |cons k s ih=>
  ext p j h J H;cases j with
  |zero=>
   rw[Pd _ p Á H,h];change _=2*T p-_-_;lia
  |succ j=>
   rw[K9p]at J;let i:=ih (p+1) j Á Á λq k K=>by
    let:=H (q+1) k K;rw[ê (Ϫ4 q)];show this
   let b:x k=T (p+1)-T p:=H 0 k rfl;change ϱ7 p*x k+ϵx (p+1)=2*T a-T p-T (p+ϒu);erw[sgn];rw[i,b,Os Á,ê (Ϫ4 s.À)];lia
section
variable{ts:À Nd}{c:F}{s:Bool}{Ds K:Int}{S:Sl}{M:À Int}
def xt(M:À Int)(ts:À Nd)(e:Nat):Ã (ϵt e)=Ã (Å e)-1:=χ stM K0 Z7
def S_(p:ç)(a:é){e k:Nat}(h:k∈ø e):ϹD/\2<=Ã (Å e)/\Ã (ø e)=Ã (Å e)-1:=by
 let n:=Ak (ϰ2 a)<|Zfk h;let l:=List.length_pos_of_mem h;show(?_,Á,n);let m:=Zah (l:=Å e) (n:=0) Á;let g:=cL ľ m;let:=fu m;lia
def aac(p:ç)(a:é)(s:Bool){e:Nat}(he:ϹD):Ã (ø e)=Ã (Å e)-1:=by
 let G:=ϰ2 a;cases h:ø e=[]
 .by_cases H:2<=Ã (Å e)
  .show Bq G H<|EY ts s<|ϳy ⟨϶u he,Z8 Á⟩
  rw[h,K8U];lia
 show Ak G h
def UJ{L:Ò}(h:v∈L):L[L.idxOf v]?=ĥ:=by let l:=List.idxOf_lt_length_iff.mpr h;rw[Nu l,Zcf]
def DX(p:ç)(a:é){j:Nat}(J:j∈č)(L:ü j=Tl (ü j)->ϵt j=Ϩ (ϵt j)){q Q k:Nat}(h:(Ŝ j)[q]?=Ş)(h':(Ŝ j)[Q]?=Ş):ϯ0 gI (ϵt j) q Q:=by
 let(nl,ns,na):=xC p a J rfl;let b:=ϲG;let f:=(ϱb h');let s:=xt M ts j;cases t:ü j=Tl (ü j)
 .let(d,C):=ns t
  rw[C q Á]at h;rw[C Q Á]at h';let e:=ĉ ϸM (K9R h').symm;let:q=Q\/Q=Ã (Å j)-1-1-q:=Á
  rcases this with e|e
  .rw[e]
  .conv=>lhs;rw[L t]
   rw[yF Á,s,e]
 rw[(Zej b<|na t).mp<|h.Å h'.Ï]
def same(p:ç)(a:é)(L:ϯu){e q e' Q k:Nat}(h:(ø e)[q]?=Ş)(h':(ø e')[Q]?=Ş):gI (ϵt e) q=gI (ϵt e') Q:=by
 cases s with
 |false=>have m:=S_ p a ϶w;let(nd,nl,own):=Ng p a m.2.1 m.1;let e1:=own k ϶w e'<|K9L h';subst e1;rw[(Zej ϲG nd).mp<|h.Å h'.Ï]
 |true=>
  let(l,L2):=L rfl;let(r,F):=Gs p a ϶w<|K9L h';let(_,E):=Gs p a (K9L h') ϶w;let lf:=L2 e' E e' E;rcases bG.mp r with f|f
  .rw[x_ p a F E f]at h
   rw[l e F e' E f];show DX p a E lf h h'
  rw[BS p a F E f]at h;let b:=ϲG;rw[Zax]at b;rw[Zaw b]at h;let nl:=(xC p a E rfl).1;let S:=xt M ts e';rw[L2 e F e' E f,yF Á,S,<-nl];show DX p a E lf h h'
def xM(ts:À Nd)(s:Bool)(M:À Int)(k:Nat):Int:=open Classical in ϩo (∃w:ϻ,(ø w.1)[w.2]?=Ş) (gI (ϵt (ϬI).1) (ϬI).2) 0
def Xs(p:ç)(a:é)(L:ϯu){e q k:Nat}(h:(ø e)[q]?=Ş):ϔV k=gI (ϵt e) q:=by let w:∃w:ϻ,(ø w.1)[w.2]?=Ş:=⟨(e,q),h⟩;erw[xM];rw[dif_pos w];show same p a L (Zab w) h
def Zl(p:ç)(a:é)(L:ϯu)(R:ϸm K M):∀v,϶4->ξ ø Þ ϔV v=2*(ź v-ź 0):=by
 let he:=ľ;ext v
 induction v using Nat.strongRecOn with
 |ind v ih=>
  ext H;cases v0:v=0
  .subst v0
   rw[DM p.ú];lia
  let N:ϩM (ø e) Þ:=λe k h=>(sV (ϰ2 a) h).2;let t:=ϨK ø Þ (Á:0<v) H;let C:(Å<|ý v)[Ÿ v]?=ĥ:=UJ<|ϸK ⟨H,t.2.2⟩;let al:=(ZB.mp C).1;let nl:=aac p a s (e:=ý v) Á;let g0:(Å<|ý v)[0]?=Â ((Å<|ý v)[0]' Á):=ϴ8;obtain⟨b,B⟩:∃b,Ϥb (Å<|ý v)=ϧ:=Ϭy (Zfk<|K9L C);let mid:=R.2 _ _ _ g0 B;rw[Zbo]at B;rw[pY he N Á H,ϲ2 t.2.1 Á,ZH (T:=λq=>ź<|Ó ((Å<|ý v)[q]?) 0) (ø<|ý v) 0 (Ÿ v) (K87 _).symm Á λq k h=>?_]
  .change _+(2*ź (Ó ((Å<|ý v)[Ÿ v]?) 0)-ź (Ó ((Å<|ý v)[0]?) 0)-ź (Ó ((Å<|ý v)[0+Ã (ø<|ý v)]?) 0))=_
   rw[K87,nl,C,g0,B,Zaz,Zaz,Zaz];lia
  let Q:=ϲG;rw[Xs p a L h];erw[stM];rw[uW Á,K87];rfl
def Nw.le(N:Ű)(p:ç)(h:é)(g:0<=K)(R:ϸm K M)(L:ϯu){lo hi:Int}(e:∀k,Ć->lo<=ź k-K*û k)(f:∀k,Ć->ź k+K*(û k+1)<=hi):
  (ı 0+ı 1+Ě)*K<=϶E*Ě:=by
 let he:=ľ;let pm:=Zl p h L R;let a:=N.ě p h (K:=2*K) (x:=ϔV) (X0:=2*(ź 0-lo)) (X1:=2*(hi-K-ź 0)) (λi hi=>by
  let r:=(ώA).1;let:=e _ r;rw[pm _ r,Zae]
  lia) (λi hi=>by
  let r:=(ώA).2;let:=f _ r;rw[Zav,Zbl]at this;rw[pm _ r,Zae]
  lia) (λq H=>by
  let b:=ϵG H;let:=R.1 q H;rw[pm _ b.2.1,pm _<|Zce b.1 b.2.1,Zae]
  lia)
 let w:=ύN h;let b1:=ϩ9 h;let u:=N.u0;generalize ı 0+ı 1=X at*;generalize ϵk=W at*;generalize Ϸ=B0 at*;generalize Ě=U at*;let n:K*W<=B0*(hi-K-lo):=by
  rw[Zae,ê (2*(ź 0-lo)+2*(hi-K-ź 0)=2*(hi-K-lo)),Zad B0]at a;lia
 let A:=Zat n<|Zar u;rw[Zad,w,Zad,Zad U]at A;let d:=Zci A (ê<|0<B0);rw[Zbq,Zai X,Zai ϶E];rw[ê (hi-K-lo=϶E-K),Zbw]at d;lia
end
def Up:W4 256:=Ϛx W4
def OL(ts:À Nd)(Ds:Int)(he:ĕ)(a:Č 0)(h:é)(l:ϵe):
  i_ [Ï è,Ä Ds]=ģ (aG ϰ1):=by
 erw[i_,o9];let c:=JO ts Ds he a h l;let p:=Ϝd ì;let rs:(ß ay ts λz=>Đ<|Ä z).map OD.er=ß ay ts int:=Ô S1 (K8u λz x=>ϰn)
 let g:İ (Ã ϸP):=ű ay K0
 let S:Ι 1:=Ŕ Ý;let w:Ι ((Ì ts.À)):=Ŕ Á;simp![c,aH,S,w,K7m];generalize L:Ŗ=r';show ϳ1 (λi b=>∃v:Ü OD,b=[â è,some<|Ñ Ds,â<|Ê (ö ts.À).2 int,Ň<|aG<|ϤD (ö ts.À).2 i,v]) ζ
 .rintro i d b hd ⟨v,rfl⟩
  let(hi,rfl):=϶M;let H:Č (i+1):=Á
  let s:Ì 1+ÿ=ä (i+1):=Á
  rw[s];obtain⟨n,N⟩:ϰ6 (ϺK ts):=⟨ts[i+1],ϫ6⟩
  let E:=he (i+1) n N;obtain⟨k,K⟩:∃k:Nat,n.e=ë:=⟨n.ģ,Ĳ (E.2.1 Á)⟩
  let I:k<i+1:=Ĳ E.2.2
  let g3:=fZ N;rw[K]at g3;let g1:=Bw (st:=ϤD (ö ts.À).2 i) (j:=k) (Ă nS);let g2:=Bw (st:=(ö ts.À).2) (j:=i+1) (Ă p.l2);let B:ϱK (Ã (aG<|ϤD (ö ts.À).2 i)):=Ε d7 nS (c8 Á)
  simp![aW,g1,g2,g3,B,A3];let e:ϤD (ö ts.À).2 (i+1)=ϤD (ö ts.À).2 i++[gv (ϤD (ö ts.À).2 i) k+gv (ö ts.À).2 (i+1)]:=by rw[qG',bL N,K,K9n]
  rw[e];show(_,rfl)
 ext ρ' rfl ⟨v,rfl⟩;rw[gF,ê (ĩ (Ì ts.À-1)=ĵ)];let P:ϤD (ö ts.À).2 ĵ=ϨV:=rfl;rw[P];let t:bj [Ï è,Ï<|Ê ϨV int,Ä 256]=ģ (aG ϰ1):=LC ts ϨV 256 a h l (zj a)<|Up;simp![aW,t]
def Qk{Ds:Int}{O:À Ol}{s L T:À Int}(h:ύG s L T){p q:Nat}(d:p<q)(H:q<O.À):gv T p+ϳv p q<=gv T q:=by
 let e:=(h.isE.2 q Á H).1 p d;let l:=(h.isL.2 p Á).1 q d H;rw[h.eq p Á,h.eq q H];lia
def Pk{Ds:Int}{a b:Ol}{l:Nat}{p q:ϰj}(h:a[l]?=ϲm)(H:b[l]?=Â q):p.2+ϥz-q.1<=ϲR a b:=by rw[vx];let hg:=PN (Ds:=Ds) h H;let M:=ϦA;show(c_ λz=>by rw[z]at M;cases M).2 _ M
def sub_lt{ts:À Nd}{c:F}(p:ç){j a b x y l m:Nat}(h:a∈Å j)(H:b∈Å j)(A:a<b)(X:϶N a l x)(Y:϶N b m y):x<y:=by
 let he:=ľ;let(d,n):=bh.mp h;let(b1,B):=bh.mp H;let J:=(ϋ h).1;let(s,q,Q,k,C):=xJ p d;let e:=F8 he C (N4 a) Á X;let f:=(ϷC b1 Y).2.1;let:¬b<=a+s:=λz=>by
  let:=k b A z;rw[B]at this;lia
 lia
def T_{ts:À Nd}{c:F}(p:ç)(Ds:Int)(l:é):∀(L j x y:Nat),ϰg->ϲl L x->ϲl L y->x<y->ϰv x+256*(Ļ x+Ļ y+Ds+1)<=ϰv y:=by
 ext m
 induction m with
 |zero=>
  ext j x y _ h Y X;let h:x=j:=h;let Y:y=j:=Y;lia
 |succ L N3=>
  ext j x y hj ⟨a,ha,h⟩ ⟨b,hb,Y⟩ X;let he:=ľ;let H:=Ϸ7;cases A:a=b
  .subst A
   show N3 a x y (Ϫh ha) h Y X
  let lt:a<b:=by
   rcases Zfo a b with z|z
   .show z
   let:=ϑ6 Á h;lia
  let(u,U,E):=Zal ha;let(v,V,ev):=Zal hb;let G:(Å j)[u]?=Ϸr:=by rw[Nu U,E]
  let w:(Å j)[v]?=ϧ:=Ĥ (Nu V) ev
  let i:u<v:=by
   rcases Zba u v with z|z|z
   .show z
   .subst z
    rw[E]at ev;show ĭ ev A
   let:=ϏA RS v u V U z;rw[E,ev]at this;lia
  let C:Å j≠[]:=ϘI ha
  let R:=ϥT H l C;obtain⟨⟨s,q,S⟩,_⟩:=ϻk R;let ol:Ã (Ê (Å j) í)=Ã (Å j):=K0 _;let k:=Qk S i Á;let d:=(Ϫh ha);let b1:=(Ϫh hb);let o:=ϬV H l ϧ1 a Á d;let O:=ϬV H l ϫo b Á b1;let e:L<Ã (í a):=(o.í L).mpr ⟨x,h⟩;let f:L<Ã (í b):=(O.í L).mpr ⟨y,Y⟩;let ga:ϖV (í a):=Nu e;let g:ϖV (í b):=Nu f;let t:=(o.hi L _ ga).2 x h;let B:=(O.lo L _ g).2 y Y;let D:dO Ds (Ê (Å j) í) u v=ϲR (í a) (í b):=ϗB
  let n:=Pk (Ds:=Ds) ga g;rw[D]at k;let P:=ϸk H l hj G;let r:=ϸk H l hj w;lia
def mC{ts:À Nd}(he:ĕ)(a:Č 0){k:Nat}(K:Ć):϶N 0 (ϒ k) k:=by
 let(l,d):=FK he (j:=0) (s:=ĵ) Á (λq H b=>by
  obtain⟨n,h⟩:ϰ6 (ts[q]?):=⟨ts[q]' Á,Û⟩
  rw[ϴx];show(he q n h).2.1 H) k Á Á
 let:=(ϷC a d).1;rw[rj he a,K87]at this;rw[this];show d
def AB{ts:À Nd}{c:F}(p:ç)(Ds:Int)(h:é){x y:Nat}(X:x<ts.À)(Y:y<ts.À)(H:x<y)(e:ϒ x=ϒ y):ϰv x+256*(Ļ x+Ļ y+Ds+1)<=ϰv y:=by let he:=ľ;let a:=Ϸ7;let dx:=mC he a X;let dy:=mC he a Y;rw[<-e]at dy;show T_ p Ds h _ 0 x y a dx dy H
def IA{ts:À Nd}{c:F}(p:ç)(Ds:Int)(l:é)(d:Ϥh){k a b:Nat}(H:Ć)(A:(Å k)[0]?=Ϸr)(B:(Å k)[Ã (Å k)-1]?=ϧ):2*ϰv k=ϰv a+ϰv b:=by
 let he:=ľ;let h:=Ϸ7;let C:Å k≠[]:=Ϙf
 let R:=ϥT h l C;obtain⟨⟨e,s,S⟩,_⟩:=ϻk R;let ol:Ã (Ê (Å k) í)=Ã (Å k):=K0 _;let N:0<Ã (Å k):=ϏW;let M:=VB Ds he h l d H;let(t,_):=FA (D:=1) S R (λo j=>M o j) ⟨128,Ý⟩;let Z:gv e 0=0:=S.isE.1;let i:ϱA 0=0:=za Á S.isE S.isL rfl;let m:ϱA (Ã (Å k)-1)=gv e (Ã (Å k)-1):=ϱD S.isL.1 ol
 let g:=S.eq 0 Á;let e1:=S.eq (Ã (Å k)-1) Á;let P:=ϸk h l H A;let f:=ϸk h l H B;rw[ol]at g e1;rw[Z,i]at g;rw[m]at e1;let ev:=(t (Ã (Å k)-1) Á).1;rw[P,f,g,e1];lia
def Y5{ts:À Nd}{c:F}(p:ç):∀k,Ć->ϒ k<=k:=by
 let he:=ľ;ext k
 induction k using Nat.strongRecOn with
 |ind k ih=>
  ext h;cases a:k=0
  .subst a
   rw[rj he h];show ì
  let T:=ϷO he (Á:0<k) h;rw[ϳF<|ϸK ⟨h,T.2.2⟩];let:=ϲ2 T.2.1 Á;let:=T.2.1;lia
def dp8{ts:À Nd}{c:F}(p:ç)(a:ϰJ 9):Ϥh:=λk h=>Ĳ (Y5 p k h)
def M0{ts:À Nd}{c:F}(p:ç)(Ds:Int)(L:ϰJ 9):ϸm 256 ϰ1:=by
 let he:=ľ;let h:=p.ú;let d:=dp8 p L;show(ϸf,λe a b A H=>?_)
 .let(b1,B,I):=ϵG Q
  let g:=AB p Ds Á ύO B b1 I;let e1:I4 ϰ1 q.1=_:=Ϫ9 ύO;let E:I4 ϰ1 q.2=_:=Ϫ9 B;let l:ϱ1 q=Ļ q.1+Ļ q.2+Ds+1:=rfl;rw[e1,E,l];lia
 let i:=ϺG A;rw[Zbo]at H;let f:=ϺG H;let T:=(ϷO he i.2.2.1 Ϧh).2.1;rw[i.1]at T;let m:=IA p Ds Á d Á A H;let e1:I4 ϰ1 a=_:=Ϫ9 Ϧh;let E:I4 ϰ1 b=_:=Ϫ9 f.2.2.2;let G:I4 ϰ1 e=_:=Ϫ9 (Á:ϹD);rw[e1,E,G];lia
def Dr(Ds:Int):F->À Ol|F.nil=>[]|F.cons k c r=>(ϐo ë++(Ë (ύP=[]) []<|jo (ϤB c) (Ŭ<|ϤB c)))::ϤB r
def Dr'{Ds k c r}:ϤB ϑ0=((ϐo ë++(Ë (ύP=[]) []<|jo (ϤB c) (Ŭ<|ϤB c)))::ϤB r):=rfl
def yp{ts:À Nd}(Ds:Int)(he:ĕ)(a:Č 0)(l:é):ϲw (ϳI Å f->(∀k∈ν,Ć)->Ê ϸe í=ϤB (ϱX f)):=by
 induction _ with
 |nil=>ext _ _;show rfl
 |cons k c r Sc Re=>
  ext⟨h1,h2,h3⟩ hk;let I:=Sc h2 ϭ9;let i:=Re h3 ϭ9;rw[F.roots',K9w,F.map,Dr',i,ϥS a l (hk k<|ϳj F.pre),h1,I];let e1:ϲS (ϱX c)=Ê ύP Ϻg:=F.jQ _ _;erw[ini];rw[e1,RX];cases C:ύP=[]
  .rw[Os C,Os<|by rw[C];rfl]
  rw[P3 C,ϱi (C ϶V)]
def DV{ts:À Nd}{c:F}(p:ç):ϲw (ϳI (λk=>(Ϩ (Å k))) f->(∀k∈ν,Ć)->ϳI (F5 ć) (ϳE Ĺ f)):=by
 induction _ with
 |nil=>ext _ _;show trivial
 |cons k d r Sc Re=>
  ext⟨h1,h2,h3⟩ hk;show(?_,Sc h2 ϭ9,Re h3 ϭ9);rw[϶T (hk k<|ϳj F.pre),F.jQ,<-h1]
def I0{ts:À Nd}{c:F}(p:ç)(Ds:Int)(l:é){a b:Nat}{d db:F}(A:Å a=F.roots d)(n:ϳI Å d)(w:∀k∈F.pre d,Ć)(b1:Å b=ϲS db)(B:ϳI Å db)(I:∀k∈ϝ db,Ć)
  (h:ϱX d=ϱX db):Ê (Å a) í=Ê (Å b) í:=by
 let he:=ľ;let H:=Ϸ7;rw[A,b1,yp Ds he H l d n w,yp Ds he H l db B I,h]
def ID{ts:À Nd}{c:F}(p:ç)(Ds:Int)(l:é)(D:Ϥh){a b:Nat}{d db:F}(B:ϵm)(A:Å a=F.roots d)(n:ϳI Å d)(w:∀k∈F.pre d,Ć)(b1:Å b=ϲS db)(e:ϳI Å db)(I:∀k∈ϝ db,Ć)
  (h:ϱX d=ϱX ϫZ):Ê (Å a) í=cY (Ê (Å b) í):=by
 let he:=ľ;let f:=Ϸ7;let pm:=϶O;let L:=ϵY;let M:∀k∈ϝ ϫZ,Ć:=ϲ1 (I k<|p9 H);let C:=DV p ϫZ (GH db e) M;let e1:ϳE (rN ć) (ϳE Ĺ ϫZ)=ϱX ϫZ:=map_two _ λq Q=>ű rN (yt p<|M q Q)
 let g:=yp Ds (aA pm) Á Á _ C (ϲ1<|by rw[F.vq]at H;let(q,Q,rfl):=Ϻb;rw[L];show ϻq<|M q Q);rw[e1,<-h]at g;rw[A,yp Ds he f l d n w,<-g,F.jQ,F.nN,<-b1,<-϶T B];show(Pe p Ds l D ϫo b Á B).2
def BU{ts:À Nd}{c:F}(p:ç)(Ds:Int)(h:é){q:Nat}(H:Č q):ϦM ϰ1 q=Ā (Ã (Å q)-1) λi=>gv (Ŭ<|Ê (Å q) í) (i+1)-gv (Ŭ<|Ê (Å q) í) i:=by
 let he:=ľ;let a:=Ϸ7;erw[stM];apply K8u;ext i hi;rw[K9G]at hi;let g1:á (Å q)=Â ((Å q)[i]' Á):=ϴ8;let g2:ϺK (Å q)=Â ((Å q)[i+1]' Á):=ϴ8;let M:=(Ϫh (K9L g1));let Q:=(Ϫh (K9L g2));let T:=ϸk a h H g1;let p2:=ϸk a h H g2;rw[g1,g2];change Ϲg gv ϰ1 ((Å q)[i+1]' Á) ((Å q)[i]' Á)=_;rw[p6 a M,p6 a Q,T,p2];lia
def La{ts:À Nd}{c:F}(p:ç)(Ds:Int)(l:é){a b:Nat}(A:ϳh)(B:ϵm)(h:Ê (Å a) í=Ê (Å b) í):ϦM ϰ1 a=ϦM ϰ1 b:=by let e:=Ż h;rw[K0,K0]at e;rw[ύQ A,ύQ B,h,e]
def LR{ts:À Nd}{c:F}(p:ç)(Ds:Int)(l:é)(d:Ϥh){a b:Nat}(A:ϳh)(B:ϵm)(C:Å b≠[])(h:Ê (Å a) í=cY (Ê (Å b) í)):ϦM ϰ1 a=Ϩ (ϦM ϰ1 b):=by
 let he:=ľ;let H:=Ϸ7;let e:=Ż h;rw[iu,K0,K0]at e;let R:=ϥT H l C;let ol:Ã (Ê (Å b) í)=Ã (Å b):=K0 _;let t:=λk K=>HD (Ds:=Ds) R (ϚS B) k K;rw[ύQ A,ύQ B,h,e];apply K9K;ext i;cases hi:i<Ã (Å b)-1
 .rw[N2,ϴj,Zaw (by rw[K0,Z7];show hi),K0,Z7,N2,K9Z Á]
  change Â (gv (Ŭ<|cY<|Ê (Å b) í) (i+1)-gv (Ŭ<|cY<|Ê (Å b) í) i)=Â (Ϲg gv (Ŭ<|Ê (Å b) í) (Ã (Å b)-1-1-i+1)<|Ã (Å b)-1-1-i);rw[t i Á,t (i+1) Á,ol];rw[ê (Ã (Å b)-1-1-i+1=Ã (Å b)-1-i),ê (Ã (Å b)-1-(i+1)=Ã (Å b)-1-1-i)];show Ϸj Á
 rw[K9c (Ϻ K0 Z7),K9c<|ϳq Zax K0 Z7]
def KH{ts:À Nd}{c:F}(p:ç)(Ds:Int)(H:ϰJ 9):Lk ts ϰ1:=by
 let d:=dp8 p H;let inj:∀{a b:Nat},ϰc a=ϰc b->ϱX ϶l=ϱX (nf ts b):=λh=>by erw[fo]at h;show(F.cons.inj h).2.1
 show(ϴJ ?_,ϴJ ?_)
 .let L:=cZ A
  let l:=cZ B;rw[dQ L,dQ l]at e;let na:=qR p L;let nb:=qR p l;show La p Ds Á L l<|I0 p Ds Á na.ch na.con na.lt nb.ch nb.con nb.lt<|inj<|K9R e
 let L:=cZ A;let l:=cZ B;rw[dQ L,dQ l]at e;let na:=qR p L;let nb:=qR p l;let e:=K9R e;show LR p Ds Á d L l ϩj<|ID p Ds Á d l na.ch na.con na.lt nb.ch nb.con nb.lt ?_
 .let:=G_ B
  rw[z]at this;show ĭ this Ý
 erw[fo]at e;rw[F.map,F.map,F.map,F.map]at e;rw[<-F.BY];show(F.cons.inj e).2.1
def OP{ch:Nat->Ò}:ϤI (ϳI ch f->ϳI ch g->ϸe=ϲS g->f=g):=by
 ext f
 induction f with
 |nil=>
  ext g _ _ h;cases g with|nil=>rfl|cons k c r=>cases h
 |cons k c r ih1 ih2=>
  ext g H hg h;cases g with
  |nil=>cases h
  |cons k' c' r'=>have h':k::F.roots r=k'::ϲS r':=h;let(e1,e):=K8B h';subst e1;let(A,n,w):=H;let(b1,B,I):=hg;rw[ih1 c' n B<|A.Ñ b1,ih2 r' w I e]
section
variable{ts:À Nd}{c:F}{Ds K:Int}{M M':À Int}{s:Bool}{S S':Sl}
def E8(p:ç):∀(l j k:Nat),ϰg->ϲl l k->Dn ć (Ĺ j) l (Ĺ k):=by
 ext l
 induction l with|zero=>ext j k _ h;let h:k=j:=h;subst h;rfl|succ l ih=>ext j k hj ⟨b,hb,h⟩;show(Ĺ b,?_,ih b k (fu hb) h);rw[϶T hj];show Zcd<|List.mem_reverse.mpr hb
def Cg(ts:À Nd)(q:Nat):Ϥe (Å q) ϩD:=ϵp F5 (List.pairwise_lt_range.sublist List.filter_sublist)
def Sh(p:ç):∀(l j x y:Nat),ϰg->ϲl l x->ϲl l y->x<y->Ĺ y<Ĺ x:=by
 let pm:=϶O;ext l
 induction l with
 |zero=>
  ext j x y _ H Y h;let H:x=j:=H;let Y:y=j:=Y;lia
 |succ l ih=>
  ext j x y hj ⟨a,ha,H⟩ ⟨b,hb,Y⟩ h;rcases Zba a b with q|q|q
  .let r:Ϥe (F5 ć<|Ĺ j) ϩD:=Cg _ _
   rw[϶T hj,Zei,List.pairwise_reverse]at r;let G:Ĺ b<Ĺ a:=by
    let(i,hi,e1):=Zal ha;let(k,K,g):=Zal hb;let I:i<k:=by
     rcases Zba i k with z|z|z
     .show z
     .subst z
      lia
     let:=ϏA Cg k i K hi z;lia
    let:=List.pairwise_iff_getElem.mp r i k hi K I;rw[e1,g]at this;show this
   let m:∀z,z∈Å j->Ĺ z∈F5 ć (Ĺ j):=λz Z=>Ô (϶T hj) (Zcd<|List.mem_reverse.mpr Z)
   show ϛl<|E8 p l a x (fu ha) H
  .subst q
   show ih a x y (fu ha) H Y h
  let:=ϑ6 q H;lia
def GW(p:ç){k:Nat}(h:Ć):I4 (ay ć) (Ĺ k)=û k:=yt p h
def Of(he:ĕ)(h:Ź)(g0:ϱy)(g:0<=K)(R:ϸm K M){r:Ò}{j:Nat}(hr:ę Í=ϰQ):∀(m i a b:Nat),r[i]?=Ϸr->r[Ϫe]?=ϧ->K*ϱ1 (a,b)<=ź b-ź a:=by
 let ad:∀i a b,r[i]?=Ϸr->r[i+1]?=ϧ->K*ϱ1 (a,b)<=ź b-ź a:=λi a b c H=>by show R.1 (a,b)<|ϯx ?_;erw[prs];show ϙj ⟨i,?_⟩;rw[Zan];show(c,?_);rw[K84,Zct];show H
 ext m
 induction m with
 |zero=>show ad
 |succ m ih=>
  ext i a b c H;let l:=ϹB;let f:r[Ϫe]?=Â (r[Ϫe]' Á):=ϴ8;generalize r[Ϫe]' Á=d at f;let x:=ih i a d c f;let X:=ad Ϫe d b f H;let D:=(ϱP d).1;erw[bI]at x X⊢;let n:=Zag g (ê<|0<=2*û d+Ds+1);let e1:Ϸx (û a+û d)=K*û a+Ϸx (û d):=Ϙ Zav (Uf _ Á)
  let e:Ϸx (û d+û b)=Ϸx (û b)+K*û d:=Ϙ Zav (Uf _ Á)
  let G:Ϸx (û a+û b)=K*û a+Ϸx (û b):=Ϙ Zav (Uf _ Á)
  let E:Ϸx (2*û d)=Ϸx (û d)+K*û d:=Ϙ Zav (Uf _ Á)
  let x:Ϸx (û a+û d)<=ź d-ź a:=x;let X:Ϸx (û d+û b)<=ź b-ź d:=X;change Ϸx (û a+û b)<=ź b-ź a;lia
def Va(he:ĕ)(h:Ź)(g0:ϱy)(g:0<=K)(R:ϸm K M){a b:Nat}(B:ϵm)(A:a<b)(e:ϒ a=ϒ b):K*ϱ1 (a,b)<=ź b-ź a:=by
 let(r,hr,f):=xy he B;let(T,p2):=Ϻl hr;let m:=(p2 a).mpr ⟨Á,e⟩;let(i,hi):=Zac m;let(k,H):=Zac f;let(d,I):=ϻW;let(c,l):=ϭf;let j:i<k:=by
  rcases Zba i k with z|z|z
  .show z
  .subst z
   lia
  let:=List.pairwise_iff_getElem.mp T k i c d z;lia
 show Of he h g0 g R hr (k-i-1) i a b hi (Ϩg<|ê (i+(k-i-1)+1=k))
def tP(ts:À Nd)(c:F)(m:À Int):À Int:=Ā ts.À λk=>-I4 m (Ĺ k)
def mF{k:Nat}(h:Ć):I4 Ϲr k=-I4 M' (Ĺ k):=by erw[I4,tP];rw[N2,ϴ6];rfl
def Pp(p:ç)(s:Lb ć)(g0:ϱy)(j:0<=K)(R:Rl ć Ds K M'):ϸm K Ϲr:=by
 let he:=ľ;let pm:=϶O;let h:=aA pm;let M:=ϵY;show(ϸf,λe a b A g=>?_)
 .let(b1,B,I):=ϵG Q
  let L:Č q.1:=ύO;let D:=Ϩf L;let o:=Ϩf B;rw[I]at D;let t:=Sh p _ 0 _ _ p.ú D o b1;let lv:∀k,Ć->lvN ć (Ĺ k)=ϒ k:=λk r=>by
   let d:=E8 p _ 0 k p.ú<|Ϩf r;let:=pL h (ϔP<|ϻq p.ú) d;rw[F.BH,rj h (ϔP p.ú),K87]at this;show Ϻn
  let f:=Va h s g0 j R (ϔP<|ϻq L) t (by rw[lv _ L,lv _ B,I]);let ld:bI ć Ds (Ĺ q.2,Ĺ q.1)=ϱ1 q:=by
   erw[bI];change ϑf (ay ć) (Ĺ q.2) (Ĺ q.1)+Ds+1=_;rw[GW p L,GW p B,Int.add_comm<|û q.2]
  rw[ld]at f;rw[mF L,mF B];lia
 let i:=ϺG A;let H:=g;rw[Zbo]at H;let u:=ϺG H;let T:=(ϷO he i.2.2.1 Ϧh).2.1;rw[i.1]at T;let l:ϹD:=Á
 let m:=R.2 (Ĺ e) (Ĺ b) (Ĺ a) (by
  rw[϶T l,N2,<-Zep,List.head?_reverse,g];rfl) (by
  rw[϶T l,List.getLast?_map,List.getLast?_reverse,Zep,A];rfl)
 rw[mF l,mF Ϧh,mF u.2.2.2];lia
def BD(p:ç){a:Nat}(A:a∈č):Ĺ a∈fk ć:=by
 let l:=cZ A;let h:=G_ A;show ϳy ⟨϶u ?_,Z8 ?_⟩
 .rw[ϵY]
  show ϻq l
 rw[϶T l,K0,Zax];lia
def Ck(p:ç){a:Nat}(A:ϳh):Pi ć (Ĺ a)=Tl (ü a):=by
 let pm:=϶O;let L:=ϵY;let gl:Ĺ a<Ã ć:=ϫ0 (ϻq A)
 let na:=qR p A;let nm:=qR pm gl;let lt:∀k∈ϝ (ϵZ ϶l),Ć:=϶U (na.lt k<|p9 h);let e:nf ć (Ĺ a)=ϳE Ĺ (ϵZ ϶l):=OP _ _ nm.con (DV p _ (GH _ na.con) lt) (by rw[<-nm.ch,϶T A,F.jQ,F.nN,<-na.ch]);rw[dQ gl,dQ A];change Â (fo ć<|Ĺ a)=Â (ϵZ<|ϰc a);show Ϸj ?_;erw[fo];rw[e,F.BY];change ϻM (rN ć<|Ĺ a) (ϳE (rN ć)<|ϳE Ĺ<|ϵZ ϶l)=ϻM (Ϻg a) (ϱX<|ϵZ ϶l);rw[B1 p A,map_two _ λq H=>B1 p<|lt q H]
def x9(p:ç){a:Nat}(A:ϳh):ϦM Ϲr a=Ϩ (stM M' ć<|Ĺ a):=by
 let C:=϶T A;let cl:Ã (F5 ć<|Ĺ a)=Ã (Å a):=by rw[C,K0,Zax]
 let at_:∀i,i<Ã (Å a)->gv M' (Ó ((F5 ć<|Ĺ a)[Ã (Å a)-1-i]?) 0)=-gv Ϲr (Ó (á<|Å a) 0):=λi hi=>by
  let g1:á (Å a)=Â ((Å a)[i]'hi):=ϴ8;rw[C,N2,Zaw Á,ê (Ã (Å a)-1-(Ã (Å a)-1-i)=i),g1];let t:gv Ϲr ((Å a)[i]'hi)=_:=mF<|fu<|K9L g1;change gv M' (Ĺ<|(Å a)[i]'hi)=-gv Ϲr ((Å a)[i]'hi);rw[t];change _=- -(gv M' _);rw[Int.neg_neg]
 apply K9K;ext i;cases hi:i<Ã (Å a)-1
 .unfold stM
  rw[Zaw (by rw[K0,Z7,cl];show hi),N2,N2,K0,Z7,cl,ϴj,K9Z Á];let x:=at_ i Á;let b:=at_ (i+1) Á;show Ϸj ?_;change Ϲg gv Ϲr (Ó (ϺK<|Å a) 0) (Ó (á<|Å a) 0)=Ϲg gv M' (Ó ((F5 ć<|Ĺ a)[Ã (Å a)-1-1-i+1]?) 0) (Ó ((F5 ć<|Ĺ a)[Ã (Å a)-1-1-i]?) 0);rw[ê (Ã (Å a)-1-1-i+1=Ã (Å a)-1-i),ê (Ã (Å a)-1-1-i=Ã (Å a)-1-(i+1)),x,b];lia
 rw[K9c (Ă xt),K9c<|ϳq Zax xt cl]
def OH(p:ç)(L:Lk ć M'):Lk ts Ϲr:=by
 show(ϴJ ?_,ϴJ ?_)
 .rw[x9 p<|cZ A,x9 p<|cZ B,ϛ1 ϖ6]
 rw[x9 p<|cZ A,x9 p<|cZ B,ϛ2 ϖ6]
end
section
variable{ts:À Nd}{c:F}{Ds K:Int}{M M':À Int}{s:Bool}{S S':Sl}
def Hh(a:Č 0)(M:À Int)(K:Int):∃lo hi,jE (Ā ts.À λk=>gv M k+K*(Ļ k+1))-eT (Ā ts.À λk=>gv M k-K*Ļ k)=϶E/\(∀k,Ć->lo<=ź k-K*û k)/\(∀k,Ć->ź k+K*(û k+1)<=hi)/\∃i j,ϫP/\ϰg/\hi=ź i+K*(û i+1)/\lo=ź j-K*û j:=by
 let ne:∀f:å,Ā ts.À f≠[]:=λf z=>by
  let:=Ż z;rw[K0,Z7,K8U]at this;lia
 let(A,n):=c_<|ne λk=>gv M k+K*(Ļ k+1);let(b1,B):=dS<|ne λk=>gv M k-K*Ļ k;let(i,hi,e1):=XV.mp A;let(j,J,g):=ϤS b1;show(_,_,rfl,λk h=>B _<|Zcd ϔD,λk h=>n _<|Zcd ϔD,i,j,K9G.mp hi,K9G.mp J,e1.symm,g.Ï)
def Nw.wide(N:Ű)(p:ç)(h:Ź)(l:é)(g0:ϱy):∃lo hi,϶E=ı 0+ı 1+Ě/\(∀k,Ć->lo<=I4 ϴG k-Ě*û k)/\∀k,Ć->I4 ϴG k+Ě*(û k+1)<=hi:=by let(lo,hi,e,a,b,_):=Hh p.ú ϴG Ě;let w:=MN N p h g0 l;show(lo,hi,e.Ñ w,a,b)
def Nw.turn(N:Ű)(p:ç)(M:Lb ć)(l:é)(g0:ϱy)(n:Nw ć s Ds S'):
  ϘZ (ı 0) (ı 1) Ě (ϸx ć S') (ϩq ć S' 0) (ϩq ć S' 1):=by
 let pm:=϶O;let L:=ϵY;let u:=Zar n.u0;let(lo,hi,e,a,b):=n.wide pm M Á g0
 let w:=N.le p l u (Pp p M g0 u<|n.rls pm Á) (λz=>by
  subst z;show OH p<|M7 pm Á) (lo:=ϸx ć S'-hi) (hi:=ϸx ć S'-lo) (λk h=>by
  let:=b (Ĺ k) (ϫ0<|ϻq h);rw[GW p h,Zav,Zbl]at this;rw[mF h]
  lia) (λk h=>by
  let:=a (Ĺ k) (ϫ0<|ϻq h);rw[GW p h]at this;rw[mF h,Zav,Zbl]
  lia)
 rw[<-e];rw[ê (ϸx ć S'-lo-(ϸx ć S'-hi)=϶E)]at w;show w
def Nw.mir(N:Ű)(p:ç)(h:Ź)(M:Lb ć)(l:é)(g0:ϱy)(n:Nw ć s Ds S'):
  (ϩq ć S' 0+ϩq ć S' 1+ϸx ć S')*Ě=(ı 0+ı 1+Ě)*ϸx ć S':=by
 let a:=N.turn p M l g0 n;let t:=E4 p;let L:=ϵY;let b:∀u,u=ts->∀(U:Nw u s Ds S)(H:Lb u),aR ć ϻY=u->ϘZ (ϩq ć S' 0) (ϩq ć S' 1) (ϸx ć S') (Z3 u s Ds S) (nwX u s Ds S 0) (nwX u s Ds S 1):=λu e U H z=>by subst z;show n.turn ϶O H Á g0 U
 show Zdh (b ts rfl N h t) a
end
def atL(ts:À Nd)(D:Int)(e:å):å|0=>0|k+1=>Ë (Å k=[]) (ϴN k+D+e k) (ϴN k)
def atL''{ts D e}:ϴN 0=0:=rfl
def atL'{ts D e k}:ϴN (k+1)=(Ë (Å k=[]) (ϴN k+D+e k)<|ϴN k):=rfl
def zN{l:À Int}{k:Nat}{z:Int}(h:k<l.À)(j:Nat):I4 (l.ß k z) j=Ë (j=k) z (I4 l j):=by
 erw[I4];rw[List.getElem?_set];cases e:k=j
 .subst e
  rw[Ĝ,ϰo,Ĝ];rfl
 rw[ϲs,ϱi (e z.Ï)]
def Ou{a b:Nat}{r:Ò}(B:Ϥb ϱz=ϧ):atI (nD ϱz) 0=Â (Ä ϑ)/\Ϲ3 (nD ϱz)=Â (Ä ϩA):=by
 show(ϭg,?_);let:=(bX (r:=ϱz) Û).2.1;let e:ltN ϱz=b:=ϙu
 rw[e]at this;let n:ϹP nD ϱz aO:=ϏQ
 rw[n];show this
def Te{L:Ò}(h:L≠[]):gEq (Ï<|nD L) (Ï [])=þ (ã false):=by
 cases L with
 |nil=>show Ϡ h
 |cons a as=>
  erw[gEq];rw[n_];erw[k7];rw[ύ (Ϻ5 (Ï<|nD ϵP)) (cG (Ϻd<|iL ϵP) Ý),ύ (Ϻ5 (Ï [])) (cG (Ϻd []) Ý),K7m,Ĝ];rfl
theorem I_(ns:À Int)(ts:À Nd)(Ds:Int)(he:ĕ)(U:Č 0)(hl:é)(g1:0<=Ds)(g2:Ds<=1000):
  ∃(e:å)(P:À Int),(∀k,0<=e k/\Ì 256 ∣ e k)/\(∀k,e k<=512)/\İ P.À/\(∀k,Ć->Å k=[]->ϲt k=϶W (k+1))/\(∀q a b,Ϧ7 (Å q) (ϲt q) (ϯa P))/\
   cE [Ï è,Ï ō,Ä 30,Ä 256,Ä Ds]=ģ (aG P):=by
 let hq:∀j:Nat,∃z:Int,j<1000->bP [Ï ō,Ä<|30+Ĵ]=.ok (Ñ z):=λj=>by
  cases h:j<1000
  .let(z,hz):=ϧG (30+Ĵ) Á
   show(z,Ţ hz)
  show(0,λf=>absurd f h)
 let(Z,t):=Classical.skolem.mp hq;obtain⟨e,E⟩:∃e:å,e=λk=>ϏU:=ζ
 suffices H:∃P:À Int,İ P.À/\(∀k,Ć->Å k=[]->ϲt k=϶W (k+1))/\(∀q,0<=q->Č q->∀a b,Ϧ7 (Å q) (ϲt q) (ϯa P))/\cE [Ï è,Ï ō,Ä 30,Ä 256,Ä Ds]=ģ (aG P)by
  let(P,p1,p2,p3,p4):=H;show(e,P,Ϧc,Ϧc,p1,p2,λq a b m l=>p3 q ϰS ?_ a b m l,p4)
  .rw[E]
   show(ϳY (0<=ϏU),Int.dvd_mul_left ..)
  .rw[E]
   change ϏU<=512;lia
  let D:=ϺG m;let T:=(ϷO he D.2.2.1 D.2.2.2).2.1;rw[D.1]at T;lia
 erw[cE,iG];let F:=xn ts he U hl;let O:(Ā ts.À λq=>ϲu<|nO<|Å q).map OD.er=Ā ts.À λq=>ϴO (nD<|Å q):=Ô S1 (K8u λq x=>by change ϹT _=_;rw[md,iP])
 let s:∀k,Ć->atI (Ā ts.À λq=>ϴO<|nD<|Å q) ë=some (Ï<|nD<|Å k):=λk K=>de (ϰ8 N2<|K9Z K);let rp:=xA (Ä 0) ts.À Á;let s2:Ι ((Ì ts.À)):=Ŕ Á;let R:ϤC (9+Ds) 256:=EC Á Á;let ri:ώP (ϸ2 Ϻr) (ϸ2 0):=Ϙd
 let T:∀(pl:À Int)(k:Nat)(z:Int),Ϧi pl k (Đ ϭD)=aG (pl.ß k z):=λpl k z=>χ aG Zby Zby
 simp![F,O,aH,rp,ri,s2];generalize Ā ts.À (λq=>ϴO<|nD<|Å q)=chs at s⊢;generalize W:Ŗ=r';show aX W (ϺL<|∃(pl:À Int)(V v:Ü OD),(İ pl.À/\∀k,k<i->Å k=[]->I4 pl k=϶W (k+1))/\ρ=[â è,â ō,some<|Ñ 30,some<|Ñ 256,some<|Ñ Ds,â chs,Ň ϭH,some<|Ñ<|϶W i,V,v]) ⟨_,_,_,⟨ϰT K8r,λk K=>ĭ K<|Zbh k⟩,rfl⟩ ?_ ?_
 .rintro i d ρ hd ⟨pl,V,v,⟨hpl,hP⟩,rfl⟩
  let(hi,rfl):=϶M;rw[K9n]at hi;rw[K8R];let I:=s i hi;let hy:=t i Á;cases f:Å i=[]
  .let L:gEq (Ï<|nD<|Å i) (Ï [])=þ (ã true):=by rw[f];show Kj (a:=[]) (n:=1) (yB λx hx=>nomatch hx) Ý
   let X:ixN (Ã ϭH) ÿ=ϸv:=cW (Ă d7);let nx:϶W i+Ϭa+Z i*69621%2147483629%3*256=϶W (i+1):=by rw[atL',Os f,E]
   simp![I,L,hy,R,nx,yS X,T];show(_,_,_,(Ô K8z hpl,λk K c=>?_),rfl);rw[zN Á];cases q:k=i
   .rw[Os q,q]
   rw[P3 q];show hP k Á c
  let L:gEq (Ï<|nD<|Å i) (Ï [])=þ (ã false):=Te f;let nx:϶W i=϶W (i+1):=Ĥ atL' (P3 f)
  simp![I,L];rw[nx];show(pl,_,_,(hpl,λk K c=>?_),rfl);let:k≠i:=λz=>f (z▸c);show hP k Á c
 rintro ρ' rfl ⟨pl,V,v,⟨hpl,hP⟩,rfl⟩;rw[gF,K9n]at hP⊢;generalize ϶W ts.À=at';let r3:=λ(ρ:L3.Env)(f:(F4 cO (eB ba<|ae (aa 0) ai)<|eC<|.int 1) ρ=.ok (.sh<|.int<|(ts.À:Int)-1))=>Pb (fa:=ϳz (ħ<|È 0 ai)<|Ç 1) (fb:=ġ<|Ç 1) (fc:=ġ<|Ç 1) (ρ:=ρ) (x:=Ì ts.À-1) (y:=-1) (z:=-1) f rfl rfl rfl (Ŕ Á) (Ŕ Ý);let r4:=r3 [â è,â ō,some<|Ñ 30,some<|Ñ 256,some<|Ñ Ds,â chs,Ň ϭH,some<|Ñ at',V,v] ϑU;simp![r4];generalize w:Ŗ=r2;show aX w (ϺL<|∃(pl:À Int)(V:Ü OD),(İ pl.À/\(∀k,Ć->Å k=[]->I4 pl k=϶W (k+1))/\∀q,ts.À-i<=q->Č q->∀a b,Ϧ7 (Å q) (I4 pl q) (ϯa pl))/\ρ=[â è,â ō,some<|Ñ 30,some<|Ñ 256,some<|Ñ Ds,â chs,Ň ϭH,some<|Ñ at',V,v]) ⟨pl,_,⟨hpl,hP,λq f g=>ĭ g Á⟩,rfl⟩ ?_ ?_
 .rintro i d ρ hd ⟨pl,V,⟨hpl,hP,hR⟩,rfl⟩
  let(hi,rfl):=uY hd;obtain⟨k,K⟩:∃k:Nat,Ì ts.À-1-ÿ=ë:=⟨ĵ-i,Á⟩
  rw[K];let u:Ć:=Á
  let C:=s k u;cases hc:F5 ts k with
  |nil=>
   rw[hc]at C;let L:gNe (Ï<|nD []) (Ï [])=þ (ã false):=Br;simp![C,L];show(pl,_,(hpl,hP,λq f g a b m l=>?_),rfl);let:q≠k:=λz=>by rw[z,hc]at m;cases m
   show hR q Á g a b m l
  |cons a r=>
   rw[hc]at C;let L:gNe (Ï<|nD ϱz) (Ï [])=þ (ã true):=NP (n:=1) (Ϻd<|iL ϱz) Ý;obtain⟨b,l⟩:∃b,Ϥb ϱz=ϧ:=Ϭy Û
   let(G,M):=Ou l;let ca:a∈Å k:=Ô hc K9z
   let N:b∈Å k:=Ô hc (Zcb l)
   let al:=fu ca;let bl:=fu N;let q1:=ϫV (k:=a) Á;let q2:=ϫV (k:=b) Á;let X:ixN (Ã ϭH) ë=Ş:=cW (Ă d7);simp![C,L,G,M,q1,q2,aW,yS X,T];show(_,_,(Ô K8z hpl,λj Y J=>?_,λq f g o p A B=>?_),rfl)
   .let:j≠k:=λz=>by rw[z,hc]at J;cases J
    rw[zN Á,P3 this];show hP j Y J
   let ga:=ϋ<|K9L A;let gb:=ϋ<|Zcb B;rw[zN Á,zN Á,zN Á,P3 (ê<|¬o=k),P3<|ê (¬p=k)];cases Q:q=k
   .subst Q
    rw[hc]at A B;let e1:a=o:=ϑn
    let S:b=p:=by rw[l]at B;show K9R B
    rw[Ĝ,e1,S]
   rw[P3 Q];show hR q Á g o p A B
 rintro ρ' rfl ⟨pl,V,⟨hpl,hP,hR⟩,rfl⟩;simp![S5];show(pl,hpl,hP,λq f g=>hR q ?_ g,rfl);rw[zG];lia
theorem Dn.trans{ts:À Nd}{x u l:Nat}(h:϶N x l u):∀{L a:Nat},϶N a L x->϶N a (L+l) u
 |0,a,e=>by let e:x=a:=e;subst e;rw[K87];show h
 |L+1,a,⟨b,hb,e⟩=>Ô Nat.add_right_comm (b,hb,Dn.Å h e)
section
variable{ts:À Nd}{c:F}{Ds D:Int}{P:À Int}{e:å}
def YR(p:ç){x y l m u v:Nat}(U:϶N x l u)(V:϶N y m v)(h:x<y):∀(L j:Nat),ϲl L x->ϲl L y->u<v:=by
 ext L
 induction L with
 |zero=>
  ext j H Y;let H:x=j:=H;let Y:y=j:=Y;lia
 |succ L ih=>
  ext j ⟨a,ha,H⟩ ⟨b,hb,Y⟩;rcases Zba a b with q|q|q
  .show ϛT<|V.trans Y
  .subst q
   show ih a H Y
  let:=ϑ6 q H;lia
def EN(r:0<=D)(E:∀k,0<=e k/\Ì 256 ∣ e k)(i:Nat):∀m,ϴN i<=ϴN (i+m):=by
 ext m
 induction m with
 |zero=>show ϺC
 |succ m ih=>
  change _<=ϴN Ϫe;rw[atL'];let:=(E<|i+m).1;split<;>lia
def Pl(h:Ì 256 ∣ D)(E:∀k,0<=e k/\Ì 256 ∣ e k):∀i,Ì 256 ∣ ϴN i:=by
 ext i
 induction i with
 |zero=>show Zdg _
 |succ i ih=>
  rw[atL'];split
  .show Zdl (Zdl ih h) (E i).2
  show ih
variable(p:ç)(hl:ϰJ 8)(D0:0<=D)(hD:Ì 256 ∣ D)(E:∀k,0<=e k/\Ì 256 ∣ e k)(L1:∀k,Ć->Å k=[]->ϲt k=ϴN (k+1))(L2:∀q a b,Ϧ7 (Å q) (ϲt q) (ϯa P)) include p hl hD E L1 L2

theorem Rf:∀m k,İ (k+m)->Ć->dv m ∣ ϲt k/\∀a b,Ϧ7 (Å k) (2*ϲt k) (ϲt a+ϲt b):=by
 let he:=ľ;ext m
 induction m using Nat.strongRecOn with
 |ind m ih=>
  ext k M K;cases hc:F5 ts k with
  |nil=>
   show(?_,λa b i B=>by cases i);rw[L1 k K hc];show Zbp (Fu Á)<|Pl hD E _
  |cons a r=>
   obtain⟨b,B⟩:∃b,Ϥb ϱz=ϧ:=Ϭy Û
   let ca:a∈Å k:=Ô hc K9z
   let N:b∈Å k:=Ô hc (Zcb B)
   let al:=fu ca;let bl:=fu N;let ga:=ϋ ca;let G:=ϋ N;let d:=(ih ϧ1 Á a Á al).1;let db:=(ih ϫo Á b Á bl).1;let v:dv (m-1)=2*dv (m-1+1):=CJ Á;let d:=Zbp (yA<|ê (ϧ1<=m-1)) d;let db:=Zbp (yA<|ê (ϫo<=m-1)) db;rw[v,ê (m-1+1=m)]at d db;let(H,c):=uV d db;let q:=L2 k a b (ϣ hc) (ϯ3 hc);rw[<-q]at H c;show(H,λA e h f=>?_);let e1:a=A:=ϱY
   let g:b=e:=by rw[B]at f;show K9R f
   rw[<-e1,<-g];show c
include D0
theorem GQ{u v:Nat}(H:϶4)(h:u<v)(C:Å u=[])(c:Å v=[]):ϲt u+D<=ϲt v:=by
 rw[L1 u Á C,L1 v H c];let m:=Ϝp ϨN;rw[ê (u+1+ϨN=v)]at m;rw[show ϴN (v+1)=ϴN v+D+e v by rw[atL,Os c]];let:=(E v).1;lia
theorem MB:∀m k,İ (k+m)->Ć->∃x y l n,϶N k l x/\϶N k n y/\Å x=[]/\Å y=[]/\Ś (ϲt x) (ϲt k) (ϲt y):=by
 let he:=ľ;ext m
 induction m using Nat.strongRecOn with
 |ind m ih=>
  ext k M H;let h:=(ϚY m k M H).2;cases hc:F5 ts k with
  |nil=>show(k,k,0,0,rfl,rfl,hc,hc,ϺC,ϺC)
  |cons a r=>
   obtain⟨b,B⟩:∃b,Ϥb ϱz=ϧ:=Ϭy Û
   let ca:a∈Å k:=Ô hc K9z
   let N:b∈Å k:=Ô hc (Zcb B)
   let al:=fu ca;let bl:=fu N;let ga:=ϋ ca;let G:=ϋ N;let e:=h a b (ϣ hc) (ϯ3 hc);let(x,y,l,n,i,y1,j,y2,T,y3):=ih ϧ1 Á a Á al;let(x',q,L,g,X,Y,c,d,o,s):=ih ϫo Á b Á bl;let A:ϲt a<=ϲt b:=by
    cases z:a=b
    .rw[z]
     show ϺC
    let lt:a<b:=by
     let rs:=Cg ts k;rw[hc]at rs;let f:b∈ϱz:=Zcb B;rcases K8v.mp f with w|w
     .show ĭ w.Ï z
     show(List.pairwise_cons.mp rs).1 b w
    let t:=sub_lt p ca N lt y1 X;let:=Ϙk (ϷC bl X) c;lia
   show(x,q,l+1,g+1,(a,ca,i),(b,N,Y),j,d,Á,Á)
theorem JV(h:Ź)(hg:256*(9+Ds)<=D):ϸm 256 P:=by
 let he:=ľ;show(ϸf,λk a b A H=>?_)
 .let(b1,B,I):=ϵG Q
  let L:Č q.1:=ύO;let d:=Ϩf L;let c:=Ϩf B;rw[I]at d;let(_,y,_,n,_,y1,_,y2,_,y3):=ϙw (ϲL q.1) q.1 Á L;let(x,_,l,_,X,_,e,_,g,_):=ϙw (ϲL q.2) q.2 Á B;let t:=YR p y1 X b1 _ 0 d c;let f:=Ϙk (ϷC B X) e;let r:=(ϱP q.1).2;let m:=(ϱP q.2).2;erw[bI];lia
 let i:=ϺG A;let T:=(ϷO he i.2.2.1 Ϧh).2.1;rw[i.1]at T;show(ϚY ϫD k Á Á).2 a b A H
end
def Zq(ns:À Int)(s many kinds:Int)(q0:0<=s)(q1:s<=20)(m0:1<=many)(m1:many<=2):∃(ts:À Nd)(c:F),ç/\Ź/\ϰJ 8/\fI [Ï ō,Ä s,Ä many,Ä kinds]=þ (Ï è):=by
 erw[fI,k_];let(P,way,hg,E,t):=HM ns s many.Ò 9 6 Á Á Á Á Ý Ý Ý Ý;rw[ê (Ì many.Ò=many)]at t;let(f,pp,_):=Et hg;let B:Lb P:=ϙU;let Z:∀i:Nat,∃u:À Nd,i<3->u.À=P.À/\(∀k,k<P.À->Z4 u k=Z4 P k)/\Lb u/\b8 [Ï<|ak P,Ï ō,Ä<|s+5+3*ÿ]=.ok (Ę<|ak u):=by
  ext i;cases hi:i<3
  .let(u,a):=Kb P B Á ns (s+5+3*ÿ) Á Á
   show(u,λx=>a)
  show([],λh=>ϻx hi)
 let(uf,j):=Classical.skolem.mp Z;let K:=dP kinds (ϱm<|Ì 0<9);let k81:=dP (ϭt 81) (ϱm<|Ì 0<3);let q:=ZN (kinds %9) K.1 K.2;generalize A:ώ2 (Â<|1+kinds %9)=lab at q;let k3:ϳs (Ã (Str.ofString "abcdefghi")):=œ
 let sc:Ι (1+ϭt 81%3):=Ŕ Á;simp![t,aI,YI,k3,A,sc];generalize T:Ŗ=r;apply aX T (λi J=>∃(ts:À Nd)(c:F)(v6 v:Ü OD),ç/\Ź/\ϰJ (1+2*i)/\J=[â ō,Ĕ<|Ä s,some<|Ñ many,some<|Ñ kinds,â<|ak P,â è,v6,v])
  ⟨[⟨-1,lab,1+ϭt 9%9⟩],F.nil,_,_,⟨rfl,rfl,trivial⟩,(λn N=>by rw[K95]at N;subst N;show q),Û,rfl⟩ ?_ ?_
 .rintro i d J hd ⟨ts,c,v6,v,p,tlab,tlen,rfl⟩
  let(hi,rfl):=϶M;rw[K8R];let I:i<3:=Á
  let U:=j i I;let y:=U.1;let z:=U.2.1;let o:=U.2.2.1;let G:=U.2.2.2;clear U;generalize uf i=u at y z o G;let pu:PT u f:=P7 pp y z;let ib:Ś 0 (ÿ*ÿ) (2*2):=⟨Zag Á Á,Zef Á Á Á Á⟩
  let c1:ϏJ ÿ:=EC Á Á;let M:ϭZ (ÿ*ÿ) 1:=ϸC ⟨Á,Á⟩;let O:ϭZ ÿ 1:=ϸC ⟨Á,Á⟩;let L:u.À<=2:=Á
  simp![G,aI,c1,M];generalize l:ifK _ _ _ _=r1;let b:∃(ws:À Nd)(d:F),PT ws d/\Lb ws/\ws.À<=2/\r1=ų [â ō,Ĕ<|Ä s,some<|Ñ many,some<|Ñ kinds,â<|ak P,â è,Ĕ<|Ä i,â<|ak ws]:=by
   cases C:ϭt 243 / (ÿ*ÿ+1)%3=1
   .rw[Z8 C]at l
    let lm:=sW u f pu Á;simp![lm,aI]at l;show(aR u f,F.c1 f,gc pu,Bo pu o,ύn (cP pu),l.Ï)
   rw[K9q C]at l;simp![S5]at l;show(u,f,pu,o,L,l.Ï)
  clear l;let(ws,g,W,w,e,rfl):=b;simp![O,aH];generalize l:ifK _ _ _ _=r1
  let b:∃(ws:À Nd)(d:F),PT ws d/\Lb ws/\ws.À<=2/\r1=ų [â ō,Ĕ<|Ä s,some<|Ñ many,some<|Ñ kinds,â<|ak P,â è,Ĕ<|Ä i,â<|ak ws]:=by
   cases C:ϭt 729 / (ÿ+1)%5=1
   .by_cases S:1<ws.À
    .let D:Õ (Ì 1<Ì ws.À)=true:=Z8 Á
     let cl:=MT (ak ws) (Ă aH);rw[Gx]at cl;rw[Z8 C]at l;simp![aH,D,cl,aI]at l;let(d',pd):=Tw W S;show(ws.Ù,d',pd,λn N=>w n<|List.dropLast_subset _ N,Ă Zcz,l.Ï)
    let D:ł (Õ (Ì 1<Ì ws.À)):=K9q Á;rw[Z8 C]at l;simp![aH,D]at l;show(ws,g,W,w,e,l.Ï)
   rw[K9q C]at l;simp![S5]at l;show(ws,g,W,w,e,l.Ï)
  clear l;let(ws,g,W,w,e,rfl):=b;let ph:=OY p W;obtain⟨n,R,rfl⟩:∃n R,ws=n::R:=by
   cases ws with
   |nil=>show ĭ W.ú Û
   |cons n R=>show(n,R,rfl)
  rw[K9p]at e;let V:=QS n R ts.À Á;let H:Ã (Ϲc<|n::R)=R.À+1:=χ og K9p K0
  let lb:ϳs (ts.À+Ã (Ϲc<|n::R)):=aF (by rw[H];lia);let Q:è++ak (Ϲc<|n::R)=ak (ts++Ϲc (n::R)):=ű ak K9i
  simp![aH,V,aI,L3.kE,lb,Q];show(_,_,_,_,ph,λx X=>?_,?_,rfl)
  .rcases K9Y.mp X with X|X
   .show tlab x X
   erw[og]at X;rcases K8v.mp X with rfl|X
   .show w n K9z
   let(m,Y,rfl):=ϤS X;show w m<|ě Y
  rw[K9v,H];lia
 ext ρ' rfl ⟨ts,c,v6,v,p,tlab,tlen,rfl⟩;rw[gF]at tlen;show(ts,c,p,tlab,Á,ϻh)
def Oj(ns:À Int):∃(ts:À Nd)(c:F)(x:OD),ç/\Ź/\ϰJ 8/\x.er=Ï è/\bJ [Ï ō,Ä 8]=ϴ2:=by
 let(z,Z):=ϧG 0 Ý;let(d,H):=ϧG 1 Ý;cases a:z%2=1
 .unfold bJ eK
  let e:=ϥm 2 (ϱm<|Ì 0<2);let(ts,c,p,B,L,f):=Zq ns 3 (1+z / 2%2) (d%2147483647) Ý Ý Á Á;show(ts,c,.sh<|Ï è,p,B,L,ϰn,by simp![Z,H,Z8 a,f])
 let m:=ϥm 2 (ϱm<|Ì 0<8);obtain⟨m,M⟩:∃m:Nat,1+z / 2%8=ϴ0:=⟨ĩ (1+z / 2%8),Á⟩
 let Q:=ϥm 32 (ϱm<|Ì 0<2);let key:∀most:Int,1<=most->most<=9->Ť [int 2,int 9] (z / 32%2)=Â (Ä most)->∃(ts:À Nd)(c:F)(x:OD),ç/\Ź/\ϰJ 8/\x.er=Ï è/\bJ [Ï ō,Ä 8]=ϴ2:=by
  ext most q k ga;erw[bJ,eK];let(ts,way,hg,l,t):=HM ns 3 m most 8 Á Á Á Á q k Ý Ý;let(c,p,_):=Et hg;show(ts,c,_,p,ϙU,Á,Ĥ md aI,by simp![Z,K9q a,M,ga,t])
 cases b:z / 32%2=0
 .show key 2 Ý Ý (by rw[b];rfl)
 show key 9 Ý Ý (ϣ<|ê (z / 32%2=1))
def Pj{ts:À Nd}{j a:Nat}(h:a∈Å j):∃i,i<Ã (Å j)/\á (Å j)=Ϸr:=by let(u,U,E):=Zal h;show(u,U,by rw[Nu U,E])
def OQ{ts:À Nd}{c:F}(p:ç)(Ds:Int)(hg:0<=Ds)(a:é){j:Nat}(J:ϰg)(C:Å j≠[]):
  ∃s l,IsSt Ds (Ê (Å j) í) s l (Ŭ<|Ê (Å j) í)/\0<=ϱA (Ã (Å j)-1)/\
   ∀i,i<Ã (Å j)->Ś (-ϱA (Ã (Å j)-1)) (gv (Ŭ<|Ê (Å j) í) i) (ϱA (Ã (Å j)-1)):=by
 let he:=ľ;let h:=Ϸ7;let R:=ϥT h a C;obtain⟨⟨s,l,S⟩,_⟩:=ϻk R;let ol:Ã (Ê (Å j) í)=Ã (Å j):=K0 _;let N:0<Ã (Å j):=ϏW;let Z:ϱA 0=0:=S.isE.1;let b:ϳK 0=0:=za Á S.isE S.isL rfl;let d:ϳK (Ã (Å j)-1)=ϱA (Ã (Å j)-1):=ϱD S.isL.1 ol
 let E:=S.eq 0 Á;let e1:=S.eq (Ã (Å j)-1) Á;rw[ol]at E e1;rw[Z,b]at E;rw[d]at e1;let rise:∀u v,u<v->v<Ã (Å j)->gv (Ŭ<|Ê (Å j) í) u<=gv (Ŭ<|Ê (Å j) í) v:=by
  ext u v V H;let G:(Å j)[u]?=some (Å j)[u]:=Nu Á;let w:(Å j)[v]?=some (Å j)[v]:=Nu H;let m:(Å j)[u]∈Å j:=Zah _;let M:(Å j)[v]∈Å j:=Zah _;let lt:=ϏA RS u v Á H V;let g:=AB p Ds a (bh.mp m).1 (bh.mp M).1 lt (by rw[ϳF m,ϳF M]);let P:=ϸk h a J G;let B:=ϸk h a J w;let r:0<=Ļ ((Å j)[u]):=Ă (xv<|yR (bh.mp m).1)
  let f:0<=Ļ ((Å j)[v]):=Ă (xv<|yR (bh.mp M).1)
  lia
 let E0:0<=ϱA (Ã (Å j)-1):=by
  rcases Zfo 1 (Ã (Å j)) with z|z
  .let:=rise 0 (Ã (Å j)-1) Á Á
   lia
  let e:Ã (Å j)-1=0:=Á
  rw[e,Z];lia
 show(s,l,S,E0,ϱn);let A:gv (Ŭ<|Ê (Å j) í) 0<=gv (Ŭ<|Ê (Å j) í) i:=by
  rcases Zcg i with z|z
  .rw[z]
   lia
  show rise 0 i z hi
 let n:gv (Ŭ<|Ê (Å j) í) i<=gv (Ŭ<|Ê (Å j) í) (Ã (Å j)-1):=by
  rcases Zfo i (Ã (Å j)-1)with z|z
  .show rise i _ z Á
  let e:i=Ã (Å j)-1:=Á
  rw[e];lia
 lia
def Mf:å|0=>0|n+1=>ϧU
def Tf:∀n,0<=Mf n:=by
 induction _ with
 |zero=>decide
 |succ n N3=>
  let:=N3;change 0<=ϧU;lia
def OR{n:Nat}{d:Nat->å}{e:å}{D:Int}(h:ϥF)(a:0<=D)(b:∀j k,j<k->k<n->d j k<=D):∀k,k<n->e k<=k*D:=by
 ext k
 induction k using Nat.strongRecOn with
 |ind k ih=>
  ext H;rcases Zcg k with z|z
  .subst z
   rw[h.1];lia
  let(j,J,E):=(h.2 k z H).2;let i:=ih j J Á;let f:=b j k J H;let I:(Ĵ+1)*D<=ë*D:=Zaf Á a;rw[Zbq,Zaq]at I;lia
def Vv{ts:À Nd}{c:F}(p:ç)(Ds:Int)(hg:0<=Ds)(s:϶D)(W:ϰJ 9)(hr:∀k,Ć->Ļ k<=4):∀n L j x,ϒ j+n=8->ϰg->Ϥh->ϲl L x->Ś (-Mf n) (ϰv x-ϰv j) (Mf n):=by
 let he:=ľ;let b:=Ϸ7;let h:é:=Á
 ext n
 induction n with
 |zero=>
  ext L j x N J e H;cases L with
  |zero=>
   let H:x=j:=H;rw[H];change -0<=_/\_<=Ì 0
   lia
  |succ L=>
   let(a,A,_):=H;let:=ϳF A;let:=e a (bh.mp A).1;lia
 |succ n ih=>
  ext L j x N J e H;let mp:=Tf n;cases L with
  |zero=>
   let H:x=j:=H;rw[H];change ϥi ϧU _;lia
  |succ L=>
   let(a,A,H):=H;let C:Å j≠[]:=Ϙf
   let(P,ls,S,E0,t):=OQ p Ds hg h J C;let ol:Ã (Ê (Å j) í)=Ã (Å j):=K0 _;let(i,hi,gi):=Pj A;let la:=ϳF A;let i1:=ih L a x Á (bh.mp A).1 e H;let pa:=ϸk b h J gi;let n9:Ã (Å j)<=9:=Ĳ (uU ts j)
   let dl:∀u v,u<v->v<Ã (Ê (Å j) í)->dO Ds (Ê (Å j) í) u v<=ϯ7:=by
    ext u v B V;rw[ol]at V;let G:(Å j)[u]?=some (Å j)[u]:=Nu Á;let w:(Å j)[v]?=some (Å j)[v]:=Nu V;let U:(Å j)[u]∈Å j:=Zah _;let g:(Å j)[v]∈Å j:=Zah _;let f:=(bh.mp U).1;let b1:=(Ϫh g);let O:=ϬV b h (ϲL<|(Å j)[u]) ((Å j)[u]) Á f;let K:=ϬV b h (ϲL<|(Å j)[v]) ((Å j)[v]) Á b1;let r:dO Ds (Ê (Å j) í) u v=ϲR (í<|(Å j)[u]) (í<|(Å j)[v]):=ϗB
    rw[r,vx];let E:=(ώr b h f).1;let I:=(ώr b h b1).1;let(y,ys,Y):=ϔR E I;let m:=(c_ (xs:=ϴc (í<|(Å j)[u])<|í ((Å j)[v]))<|by rw[Y];show Zdb _ _).1;generalize jE (ϴc (í<|(Å j)[u])<|í ((Å j)[v]))=M at m;erw[ask]at m;let(z,Z,rfl):=XV.mp m;let(q,Q,eq):=Zal Z;rw[Zao]at Q;rw[List.getElem_zip]at eq;let g1:(í<|(Å j)[u])[q]?=Â z.1:=by rw[Nu Á,<-eq]
    let g2:(í<|(Å j)[v])[q]?=Â z.2:=by rw[Nu Á,<-eq]
    let(l,d,ex1):=(O.hi q _ g1).1;let(o,X,ex2):=(K.lo q _ g2).1;let k1:=ih q _ l (Ă<|ϳF U) f e d;let k2:=ih q _ o (Ă<|ϳF g) b1 e X;let r1:=hr l (ϷC f d).2.2;let r2:=hr o (ϷC b1 X).2.2;lia
   let T:=OR S.isE (D:=ϯ7) Á dl (Ã (Å j)-1) Á;let R:ä (Ã (Å j)-1)*ϯ7<=8*ϯ7:=Zaf Á Á;let s1:=t i hi;change ϥi ϧU _;lia
def Vm{ts:À Nd}{D:Int}{e:å}(r:0<=D)(E:∀k,e k<=512):∀i:Nat,ϴN i<=ÿ*(D+512):=by
 ext i
 induction i with
 |zero=>
  rw[atL''];lia
 |succ i ih=>have:=E i;rw[atL',Zcv,Zbq];split<;>lia
def Bc{ts:À Nd}{c:F}(p:ç)(h:Ź){Ds:Int}(a:ϰJ 9)(g0:ϱy)(g1:϶D){k:Nat}(H:Ć):Ś (-Mf 8) (ϰv k) (Mf 8):=by
 let he:=ľ;let f:=Vv p Ds Á g1 a (λk x=>(ϱP k).2) 8 (ϒ k) 0 k (ϰT<|rj he p.ú) p.ú (dp8 p a)<|Ϩf H;rw[KD]at f;lia
def Zy{z B:Int}(H:-B<=z)(a:z<=B)(h:B<=ϴ):W4 z:=by
 let h:B<=4611686018427387904:=h;let q:4611686018427387904<ϩ3:=œ
 erw[W4];let:z.ñ<=4611686018427387904:=Á
 show Zed this q
def HX{ts:À Nd}{c:F}(p:ç)(h:Ź)(l:é)(M:À Int)(L:İ M.À){B:Int}(H:∀k,Ć->-B<=ź k/\ź k<=B)(b1:B<=2^60):∃lo hi,eh [Ï è,Ï<|M.Ç int,Ä 256]=.ok (Ñ ϶E)/\ϵ cQ ϶E/\(∀k,Ć->lo<=ź k-256*û k)/\∀k,Ć->ź k+256*(û k+1)<=hi:=by
 let(lo,hi,e,a,b,i,j,I,J,e1,g):=Hh p.ú M 256;let b1:B<=1152921504606846976:=b1;show(lo,hi,?_,?_,a,b)
 .rw[<-e]
  show D4 ts M 256 p.ú (vC h) l L
 let x:=H i I;let X:=H j J;let r:=ϱP i;let m:=ϱP j;let T:=H 0 p.ú;apply(Zy (B:=4611686018427387904) Á Á Ý).bits
def yK{a b u v:Int}(A:cQ a=true)(B:cQ b=true)(U:cQ u=true)(H:cQ v=true)(h:a*v<=b*u):b_ [Ą [Ä a,Ä u],Ą [Ä b,Ä v]]=þ (ã true):=by erw[b_,jK];let M:=fP (i:=a) (j:=v) A H;let Q:=fP (i:=b) (j:=u) B U;simp![M,Q,Z8 h]
def KC(ns:À Int)(hn:ns.À<=63):zJ [Ï ō]=þ (ã true):=by
 let(ts,c,x,p,l,O,hx,t):=Oj ns;let(z,hz):=ϧG 2 Ý;let m20:=dP z (ϱm<|Ì 0<20);obtain⟨Ds,hg⟩:∃Ds,1+z%20=Ds:=ζ;let g0:ϱy:=Á
 let g1:϶D:=Á
 let he:=ľ;let o:=p.ú;let L:é:=Á
 let h:=vC l;let pm:=϶O;let ml:=ϵY;let lm:=Bo p l;let d:ϵ cQ 256:=pB Ý Ý;obtain⟨s,N,⟨w,u⟩,l1⟩:=όU false p l Á g0 g1;obtain⟨S,n,⟨W,U⟩,l2⟩:=όU true p l Á g0 g1;obtain⟨X,A,⟨w3,u3⟩,l3⟩:=όU false pm lm Á g0 g1;obtain⟨m,C,⟨w4,u4⟩,l4⟩:=όU true pm lm Á g0 g1;let dr:=OL ts Ds he o L h;let dl:İ (Ã ϰ1):=Oq o;let dR:=M0 p Ds Á;let dL:=KH p Ds Á;let bd:=qM ts ϰ1 Ds 256 he h L dl Á Á d dR
 let ud:=wY p l _ dl L dL;let(lo,hi,wd,wb,G,K):=HX p l L ϰ1 dl (B:=2*Mf 8+1024) (λk H=>by
  let e:I4 ϰ1 k=_:=p6 (Ds:=Ds) o H;let f:=Bc p l Á g0 g1 H;obtain⟨j,J,ej⟩:∃j,ϰg/\Gq ts Ds=ϰv j-256*Ļ j:=by
   let:=(dS (xs:=Ā ts.À λk=>ϰv k-256*Ļ k) (λz=>by
    let:=Ż z;rw[K0,Z7,K8U]at this
    lia)).1
   let(j,J,e):=ϤS this;show(j,K9G.mp J,e.Ï)
  let f2:=Bc p l Á g0 g1 J;let r:Ś 0 (Ļ j) 4:=mT l j;rw[e,ej]
  lia) œ
 let(e,P,E,v,pl,g,L2,lv):=I_ ns ts Ds he o L Á Á;let D:0<=Ϭa:=Á
 let M:Ì 256 ∣ Ϭa:=Int.dvd_mul_left ..;let q:ϸm 256 P:=JV p O D M E g L2 l Á;let Y:=qM ts P Ds 256 he h L pl Á Á d q
 let(po,pi,wp,pb,T,p2):=HX p l L P pl (B:=1000000) (λk H=>by
  let(x,y,_,_,x1,y1,x2,y2,x3,y3):=MB p O D M E g L2 ϫD k Á H;let xl:=(ϷC H x1).2.2;let yl:=(ϷC H y1).2.2;rw[g x xl x2]at x3;rw[g y yl y2]at y3;let a:=EN (ts:=ts) D E 0<|x+1;let b:=Vm (ts:=ts) D v<|y+1;let b':ä (y+1)*(Ϭa+512)<=8*(Ϭa+512):=Zaf Á Á;rw[K87,ϸd (϶W 0) 0]at a
  lia) Ý
 let c1:=N.le p L (Ý:Ì 0<=256) q ϳT T p2;let(q1,q2,qe,Q,V):=n.wide p l L g0;let F:=N.le p L (Zar n.u0) (n.rls p L) ϳT Q V;rw[qe]at F;let Z:=n.le p L (Ý:Ì 0<=256) dR (Ţ dL) G K;let c4:=N.mir p l lm L g0 A;let c5:=n.mir p l lm L g0 C;clear N n A C q dR dL T p2 G K Q V g L2 E v;generalize όO ts s 0+όO ts s 1+ύo ts s=W1 at*;generalize ϯk 0+ϯk 1+ύ2 ts S=W2 at*;generalize όO ć X 0+όO ć X 1+ύo ć X=W3 at*;generalize nwX ć true Ds m 0+nwX ć true Ds m 1+ύ2 ć m=W4' at*;generalize ύo ts s=U1 at*;generalize ύ2 ts S=U2 at*;generalize ύo ć X=U3 at*;generalize ύ2 ć m=U4 at*;let n1:=yK w pb u d c1;let n2:=yK w W u U F;let n3:=yK W wb U d Z;let k1:=ϻ4 W3 U1 w3 u;let k2:=ϻ4 W1 U3 w u3;let k3:=ϻ4 W4' U2 w4 U;let k4:=ϻ4 W2 U4 W u4;let mi:=sW ts c p L;let R:Ê ([]:À OD) OD.er=[]:=rfl;let I:∀a b:Int,FW (Ą [Ä a,Ä b]) ò=þ (ã false):=λa b=>rfl;erw[zJ,Gr];simp!+zeta[t,hx,hz,hg,l1,l2,I,dr,aW,Yw,bd,ud,R,Br,wd,lv,Y,wp,n1,n2,n3,mi,aI,l3,l4,k1,k2,k3,k4,Z8 c4,Z8 c5]
abbrev Pm(K:At)(x:Str)(T:No)(f:Ix):Prop:=ϖ x=Â (Â<|É f)/\∃d,ϧK
def df1{T:No}(X:Ϫa)(G:Ϻ9 mg)(q:ϖ x=Â (Â<|É f))(F:ϧK)(e:ϬM 1)(b:∀(kV doc pm:Db)(an:Ü Ix)(c ct a:Db),Ϫv [a]):đ x T ps f d:=(ϪF (by let(_,rfl):=ex1 Ϭd;show b ..))
def df2{T:No}(X:Ϫa)(G:Ϻ9 mg)(q:ϖ x=Â (Â<|É f))(F:ϧK)(e:ϬM 2)(b:∀(kV doc pm:Db)(an:Ü Ix)(c ct a A:Db),Ϫv [a,A]):đ x T ps f d:=(ϪF (ϯY (ex2 Ϭd) (b ..)))
def df3{T:No}(X:Ϫa)(G:Ϻ9 mg)(q:ϖ x=Â (Â<|É f))(F:ϧK)(e:ϬM 3)(b:∀(kV doc pm:Db)(an:Ü Ix)(c ct a A n:Db),Ϫv [a,A,n]):đ x T ps f d:=(ϪF (Ϫ3 (ex3 Ϭd) (b ..)))
def df4{T:No}(X:Ϫa)(G:Ϻ9 mg)(q:ϖ x=Â (Â<|É f))(F:ϧK)(e:ϬM 4)(b:∀(kV doc pm:Db)(an:Ü Ix)(c ct A g n w:Db),Ϫv [A,g,n,w]):đ x T ps f d:=(ϪF (by let k:=Ϭd;cases s with|nil=>cases k|cons a r=>let(_,_,_,rfl):=ex3<|Nat.succ.inj k;show b ..))
def df5{T:No}(X:Ϫa)(G:Ϻ9 mg)(q:ϖ x=Â (Â<|É f))(F:ϧK)(e:ϬM 5)(b:∀(kV doc pm:Db)(an:Ü Ix)(c ct A g n w i:Db),Ϫv [A,g,n,w,i]):đ x T ps f d:=(ϪF (by let k:=Ϭd;cases s with|nil=>cases k|cons a r=>cases r with|nil=>cases k|cons a r=>let(_,_,_,rfl):=ex3<|Nat.succ.inj<|Nat.succ.inj k;show b ..))
def all_mk{l:PySem.W.OpenLaw}{w:Ev}{K:At}{h:Op}{mg:Ŏ}{fa:Ix}(X:Ϫa)(G:Ϻ9 mg)(hfa:mg "law"=Â (É fa))
  {q0:Ix} {q1:Db} {q2:Ü Ix} {q3:Nat} {q4:Ζ Ch} {q5:Tok}
  {q6:Ix} {q7:Db} {q8:Ü Ix} {q9:Nat} {qa:Ζ Ch} {qb:Tok}
  {qc:Ix} {qd:Db} {qe:Ü Ix} {qf:Nat} {qg:Ζ Ch}
  {qh:Ix} {qi:Db} {qj:Ü Ix} {qk:Nat} {ql:Ζ Ch}
  {qm qn qo qp qq qr qs qt qu qv qw qx qy qz q10 q11 q12 q13 q14 q15 q16 q17 q18 q19 q1a q1b q1c q1d q q1f q1g q1h q1i q1j q1k q1l q1m q1n q1o q1p q1q q1r q1s q1t q1u q1v q1w q1x q1y q1z q20 q21 q22 q23 q24 q25 q26 q27 q28 q29 q2a q2b q2c q2d Q q2f q2g q2h q2i j q2k L q2m n:Ix}
  {q2o q2p:Ü Ix}
  {q2q:Ζ Ch}
  {q2r q2s q2t q2u V q2w:Db}
  {q2x:Tok}
  {q2y:Tok}
  {q2z:Tok}
  (b:Ğ "check_node" oK qm)
  (c:Ğ "node_levels" mX qn)
  (d:Ğ "reaches" rX qo)
  (f:Ğ "bough_end" rh qp)
  (g:Ğ "renumbered" iV qq)
  (A:Ğ "nearest" sF qr)
  (C:Ğ "joined_outline" b7 qs)
  (E:Ğ "asks_alone" pF qt)
  (i:Ğ "marks" xW qu)
  (I:Ğ "first_short" jW qv)
  (o:Ğ "is_sooner" qI qw)
  (M:Ğ "common_divisor" jS qx)
  (O:Ğ "child_leans" jZ qy)
  (p:Ğ "group_leans" eY qz)
  (S:Ğ "_law_cell" rF q10)
  (U:Ğ "_law_whole" oJ q11)
  (W:Ğ "_law_label" oZ q12)
  (y:Ğ "_law_mirror_order" dM q13)
  (r:Ğ "_law_hung" rL q14)
  (t:Ğ "_law_children" gX q15)
  (x:Ğ "_law_no_wider" kx q16)
  (z:Ğ "children_of" j_ q17)
  (B:Ğ "levels_of" qU q18)
  (D:Ğ "bough_of" ua q19)
  (F:Ğ "form_of" sO q1a)
  (J:Ğ "earliest_places" fB q1b)
  (N:Ğ "latest_places" gW q1c)
  (R:Ğ "moved_to_side" eR q1d)
  (q4k:ϖ "width_of"=Â (Â<|É q))
  {r0 r1 r2 r3 r4 r5:Db} {r6 r7:Ü Ix} {r8:Ζ Ch}
  (q4l:ϩr q=Â ⟨r0,r6,ϷB<|Ϧ8 "width_of" fR (É q0) r1 r2 r3 r7 r4 r5,r8⟩)
  (q98:ϩr q0=Â ⟨q1,q2,δ #[Ä 256 q5] q3,q4⟩)
  (r9:ϸj r4 "width_of"=true)
  (rz:ϵo K (É q))
  (Y:Ğ "lone_demands" iR q1f)
  (Z:Ğ "row_given_up" lU q1g)
  (q4q:Ğ "lowered" sj q1h)
  (q4s:Ğ "_law_tree" rM q1i)
  (q4u:Ğ "_law_mirror_tree" gY q1j)
  (q4w:Ğ "_law_relabelled" jA q1k)
  (q4y:Ğ "_law_by_leaves" jO q1l)
  (q50:Ğ "neighbours" kS q1m)
  (q52:Ğ "mirrored_order" jL q1n)
  (q54:Ğ "forks" xY q1o)
  (q56:Ğ "room_of" vK q1p)
  (q58:Ğ "broken_middles" jI q1q)
  (q5a:Ğ "steps_of" oX q1r)
  (q5c:Ğ "group_steps" gQ q1s)
  (q5e:Ğ "side_demands" fJ q1t)
  (q5g:Ğ "cleared" sH q1u)
  (q5i:Ğ "told_prices" nE q1v)
  (q5k:Ğ "are_pulls" iz q1w)
  (q5m:Ğ "_law_family" nC q1x)
  (q5o:Ğ "mirrored" uC q1y)
  (q5q:Ğ "stands_below" iY q1z)
  (q5s:Ğ "asked_gaps" kQ q20)
  (q5u:Ğ "first_rows" iK q21)
  (q5w:Ğ "settle" yE q22)
  (q5y:Ğ "told_pulls" oT q23)
  (q60:Ğ "node_pulls" oE q24)
  (q62:Ğ "_law_small_tree" i5 q25)
  (q64:Ğ "likeness" uG q26)
  (q66:Ğ "pieces" qT q27)
  (q68:Ğ "broken_gaps" kf q28)
  (q6a:Ğ "gap_demands" jV q29)
  (q6c:Ğ "bough_pulls" m8 q2a)
  (q6e:Ğ "worth" xK q2b)
  (q6g:Ğ "like_groups" eZ q2c)
  (q6i:Ğ "drawn" BN q2d)
  (q6k:ϖ "broken"=Â (Â<|É Q))
  {ra0 ra1 ra2 ra3 ra4 ra5:Db} {ra6 ra7:Ü Ix} {ra8:Ζ Ch}
  (q6l:ϩr Q=Â ⟨ra0,ra6,ϷB<|Ϧ8 "broken" nY (É q6) ra1 ra2 ra3 ra7 ra4 ra5,ra8⟩)
  (qb8:ϩr q6=Â ⟨q7,q8,δ #[Ä 256 qb] q9,qa⟩)
  (ra9:ϸj ra4 "broken"=true)
  (raz:ϵo K (É Q))
  (q6m:Ğ "unlike_words" ly q2f)
  (q6o:Ğ "leans" yn q2g)
  (q6q:Ğ "unlike" u6 q2h)
  (q6s:Ğ "step_numbers" iF q2i)
  (q6u:ϖ "is_paper"=Â (Â<|É j))
  {rb0 rb1 rb2 rb3 rb4 rb5:Db} {rb6 rb7:Ü Ix} {rb8:Ζ Ch}
  (q6v:K.Ð j=Â ⟨rb0,rb6,ϷB<|Ϧ8 "is_paper" fV (É qc) rb1 rb2 rb3 rb7 rb4 rb5,rb8⟩)
  (qbi:ϩr qc=Â ⟨qd,qe,δ #[ã false] qf,qg⟩)
  (rb9:ϸj rb4 "is_paper"=true)
  (rbz:ϵo K (É j))
  (q6w:Ğ "place_rows" ox q2k)
  (q6y:ϖ "narrowest"=Â (Â<|É L))
  {rc0 rc1 rc2 rc3 rc4 rc5:Db} {rc6 rc7:Ü Ix} {rc8:Ζ Ch}
  (q6z:K.Ð L=Â ⟨rc0,rc6,ϷB<|Ϧ8 "narrowest" ed (É qh) rc1 rc2 rc3 rc7 rc4 rc5,rc8⟩)
  (qbm:ϩr qh=Â ⟨qi,qj,δ #[ã false] qk,ql⟩)
  (rc9:ϸj rc4 "narrowest"=true)
  (rcz:ϵo K (É L))
  (q70:Ğ "_law_least" oQ q2m)
  (q72:ϖ "law"=Â (Â<|É n))
  (q73:K.Ð n=Â ⟨q2r,q2o,ϷB<|Ϧ8 "law" vD ò q2s q2t q2u q2p V q2w,q2q⟩)
  (q74:ϸj V "law"=true)
  (q75:ϵo K (É n))
  (q76:ϖ "abs"=ϳ3)
  (q77:ϖ "any"=ϳ3)
  (q78:ϖ "bool"=ϳ3)
  (q79:ϖ "enumerate"=ϳ3)
  (q7a:ϖ "int"=ϳ3)
  (q7b:ϖ "isinstance"=ϳ3)
  (q7c:ϖ "len"=ϳ3)
  (q7d:ϖ "list"=ϳ3)
  (q7e:ϖ "max"=ϳ3)
  (q7f:ϖ "min"=ϳ3)
  (q7g:ϖ "range"=ϳ3)
  (q7h:ϖ "sorted"=ϳ3)
  (q7i:ϖ "sum"=ϳ3)
  (q7j:ϖ "tuple"=ϳ3)
  (q7k:ϖ "zip"=ϳ3)
  (q7l:ϖ "MOST_PLANNED"=Â (Â<|Ä 12 q2x))
  (q7m:ϖ "ROOMS"=Â (Â<|Ä 2 q2y))
  (q7n:ϖ "SHREDS"=Â (Â<|Ä 256 q2z)):
  ∃fd:Fk,(∀(s:Da)(v:Db),ϥk ((ϱd [v])) [("_law_script",v)])/\∀base:Op,K.In base->ϐT mg->K1 l.ø w K mg base y_ 11 fa fd ϑY (ϩl mg zJ):=by
 let e:=hfa.Ñ<|Ϥd q72;cases e;let(b,_,q7p):=b;let(c,_,q7r):=c;let(d,_,q7t):=d;let(f,_,q7v):=f;let(g,_,q7x):=g;let(A,_,q7z):=A;let(C,_,q81):=C;let(E,_,q83):=E;let(i,_,q85):=i;let(I,_,q87):=I;let(o,_,q89):=o;let(M,_,q8b):=M;let(O,_,q8d):=O;let(p,_,q8f):=p;let(S,_,q8h):=S;let(U,_,q8j):=U;let(W,_,q8l):=W;let(y,_,q8n):=y;let(r,_,q8p):=r;let(t,_,q8r):=t;let(x,_,q8t):=x;let(z,_,q8v):=z;let(B,_,q8x):=B;let(D,_,q8z):=D;let(F,_,q91):=F;let(J,_,q93):=J;let(N,_,q95):=N;let(R,_,q97):=R;let(Y,_,q9b):=Y;let(Z,_,q9d):=Z;let(q4q,_,q9f):=q4q;let(q4s,_,q9h):=q4s;let(q4u,_,q9j):=q4u;let(q4w,_,q9l):=q4w;let(q4y,_,q9n):=q4y;let(q50,_,q9p):=q50;let(q52,_,q9r):=q52;let(q54,_,q9t):=q54;let(q56,_,q9v):=q56;let(q58,_,q9x):=q58;let(q5a,_,q9z):=q5a;let(q5c,_,qa1):=q5c;let(q5e,_,qa3):=q5e;let(q5g,_,qa5):=q5g;let(q5i,_,qa7):=q5i;let(q5k,_,qa9):=q5k;let(q5m,_,qab):=q5m;let(q5o,_,qad):=q5o;let(q5q,_,qaf):=q5q;let(q5s,_,qah):=q5s;let(q5u,_,qaj):=q5u;let(q5w,_,qal):=q5w;let(q5y,_,qan):=q5y;let(q60,_,qap):=q60;let(q62,_,qar):=q62;let(q64,_,qat):=q64;let(q66,_,qav):=q66;let(q68,_,qax):=q68;let(q6a,_,qaz):=q6a;let(q6c,_,qb1):=q6c;let(q6e,_,qb3):=q6e;let(q6g,_,qb5):=q6g;let(q6i,_,qb7):=q6i;let(q6m,_,qbb):=q6m;let(q6o,_,qbd):=q6o;let(q6q,_,qbf):=q6q;let(q6s,_,qbh):=q6s;let(q6w,_,qbl):=q6w;let(q70,_,qbp):=q70;let q99:=xT (st:=fR) q4l r9 rz;let qb9:=xT (st:=nY) q6l ra9 raz;let qbj:=xT (st:=fV) q6v rb9 rbz;let qbn:=xT (st:=ed) q6z rc9 rcz;let qbq:=Fc (st:=vD) q73 q74 q75;let T:Wd K mg (zAt q2m [qm,qn,qo,qp,qq,qr,qs,qt,qu,qv,qw,qx,qy,qz,q10,q11,q12,q13,q14,q15,q16,q17,q18,q19,q1a,q1b,q1c,q1d,q,q1f,q1g,q1h,q1i,q1j,q1k,q1l,q1m,q1n,q1o,q1p,q1q,q1r,q1s,q1t,q1u,q1v,q1w,q1x,q1y,q1z,q20,q21,q22,q23,q24,q25,q26,q27,q28,q29,q2a,q2b,q2c,q2d,Q,q2f,q2g,q2h,q2i,j,q2k,L],zAt _ [_,_,_,_,_,_,_,_,_,_,_,_,_,_,_,_,_,_,_,_,_,_,_,_,_,_,_,_,_,_,_,_,_,_,_,_,_,_,_,_,_,_,_,_,_,_,_,_,_,_,_,_,_,_,_,_,_,_,_,_,_,_,_,_,_,_,_,_,_,_,_,_]):=znI ⟨ϴb q76,ϴb q77,ϴb q78,ϴb q79,ϴb q7a,ϴb q7b,ϴb q7c,ϴb q7d,ϴb q7e,ϴb q7f,ϴb q7g,ϴb q7h,ϴb q7i,ϴb q7j,ϴb q7k,⟨_,Ϥd q7l⟩,⟨_,Ϥd q7m⟩,⟨_,Ϥd q7n⟩,Χ b q7p rfl Ν,ϳx c q7r rfl ϲ8,ϳx d q7t rfl ϲ8,Χ f q7v rfl Ν,Χ g q7x rfl Ν,ώX A q7z rfl Ϯw,Χ C q81 rfl Ν,Χ E q83 rfl Ν,Χ i q85 rfl Ν,Χ I q87 rfl Ν,df5 X G o q89 rfl ϏN,Χ M q8b rfl Ν,ϳx O q8d rfl ϲ8,Χ p q8f rfl Ν,Χ S q8h rfl Ν,ϳx U q8j rfl ϲ8,Χ W q8l rfl Ν,ϳx y q8n rfl ϲ8,Χ r q8p rfl Ν,ϳx t q8r rfl ϲ8,Χ x q8t rfl Ν,Χ z q8v rfl Ν,ϳx B q8x rfl ϲ8,Χ D q8z rfl Ν,ϳx F q91 rfl ϲ8,Χ J q93 rfl Ν,ώX N q95 rfl Ϯw,ώX R q97 rfl Ϯw,⟨q99,Ϥd q4k,ϺU 3 [] (Ϫ3 (ex3 a) (ϵ3 q98)),⟨_,ϺU 2 [Ä 256 q5] (ϯY (ex2 a) (ϵ3 q98)),ą ζ õ⟩,HA Ý (όY (by let(_,_,rfl):=ex2 a;let(_,rfl):=ex1 H;show ϵ3 q98))⟩,ϳx Y q9b rfl ϲ8,ώX Z q9d rfl Ϯw,ϳx q4q q9f rfl ϲ8,df5 X G q4s q9h rfl ϏN,ϳx q4u q9j rfl ϲ8,ϷK q4w q9l,df5 X G q4y q9n rfl ϏN,ϳx q50 q9p rfl ϲ8,ϳx q52 q9r rfl ϲ8,ϳx q54 q9t rfl ϲ8,Χ q56 q9v rfl Ν,Χ q58 q9x rfl Ν,ϷK q5a q9z,ϷK q5c qa1,Χ q5e qa3 rfl Ν,ϷK q5g qa5,ϷK q5i qa7,Χ q5k qa9 rfl Ν,Ϗz q5m qab,ϳx q5o qad rfl ϲ8,Χ q5q qaf rfl Ν,Χ q5s qah rfl Ν,Χ q5u qaj rfl Ν,ϷK q5w qal,Χ q5y qan rfl Ν,Χ q60 qap rfl Ν,Χ q62 qar rfl Ν,ϷK q64 qat,Χ q66 qav rfl Ν,Ϗz q68 qax,ϷK q6a qaz,Χ q6c qb1 rfl Ν,ϷK q6e qb3,ϳx q6g qb5 rfl ϲ8,Χ q6i qb7 rfl Ν,⟨qb9,Ϥd q6k,ϺU 4 [] (by let(_,_,_,_,rfl):=ex4 a;show ϵ3 qb8),⟨_,ϺU 3 [Ä 256 qb] (Ϫ3 (ex3 a) (ϵ3 qb8)),ą ζ õ⟩,HA Ý (όY (by let(_,_,_,rfl):=ex3 a;let(_,rfl):=ex1 H;show ϵ3 qb8))⟩,Ϗz q6m qbb,Χ q6o qbd rfl Ν,Χ q6q qbf rfl Ν,Χ q6s qbh rfl Ν,⟨qbj,Ϥd q6u,ϺU 3 [] (Ϫ3 (ex3 a) (ϵ3 qbi)),⟨_,ϺU 2 [ã false] (ϯY (ex2 a) (ϵ3 qbi)),ą rfl õ⟩,HA Ý (όY (by let(_,_,rfl):=ex2 a;let(_,rfl):=ex1 H;show ϵ3 qbi))⟩,Χ q6w qbl rfl Ν,⟨qbn,Ϥd q6y,ϺU 3 [] (Ϫ3 (ex3 a) (ϵ3 qbm)),⟨_,ϺU 2 [ã false] (ϯY (ex2 a) (ϵ3 qbm)),ą rfl õ⟩,HA Ý (όY (by let(_,_,rfl):=ex2 a;let(_,rfl):=ex1 H;show ϵ3 qbm))⟩,ϷK q70 qbp,⟨⟩⟩
 show(Ϧ8 "law" vD ò q2s q2t q2u q2p V q2w,λs v=>.of_eq rfl,λbase x x=>?_);let g1:=mk1 (P:=l.ø) (w:=w) (base:=base) T;let g2:=mk2 T g1;let g3:=mk3 T g1 g2;let g4:=mk4 T g1 g2 g3;let g5:=mk5 T g1 g2 g4;let g6:=mk6 T g1 g2 g3 g5;let g7:=mk7 T g1 g3 g6;let g8:=mk8 T g2 g7;let g9:=mk9 T g2 g3 g4 g5 g8;let g10:=ZQ T g1 g2 g5 g6 g7 g9;show Tv qbq T g1 g2 g4 g6 g7 g10
end B
end Internal
universe «#xOR53%#9:=-[g'1(Q(JGv`p|;L!.2#lr!qI1]5!hwHUA;/{N"sYU(#5Y%t"ZEE#H]KOy,}m!')5+:yb4#/+i\*~f6,>]6Xd(3"'J_eT**kz!Ym.N8soJ.;pdF_(PU#LUYZKmu<"[.Y`tGBw"R`+c9lC4"Jl'6g`R:*l+N0L>7A&5OC-{`^Q-Vu[Z7C{O(ytCcc%s-#LT=cN`Xs(^Gk"|J^R"!,-&7('xBc5m[C66q01vg0z'o4!WwDPJ#_a'Vz,ut=:g30jt)+_NF(K=5H+qL><DVIu^%XB%WZ&v0Z:j"\)t[?jP[4/"vmwU\$"'Gd_k?Cl.;cdCG;"/"]H);K#rV)yZ61RT~_1'5J[RP,T)'z/2zeM_"r>~i3\s(#SOl~dqx_%'3$A&Ask>uRXePFE"%c:"YX7rb!"z_4me|/7Z_6PLNGzA)`Ef0.i9(|sHB|_DK"$A,9V.i;0?j.I2(1R&";2gj2eD''drL;Z}$(Df\D:ON3)G{GDt=H?'E&8v7&,7/]J0,JK\R:aWcIBME""L~>*NEW--vWV-lo6U%*15Z!-sRm:BI)]p"IB9kb#HM1J6jX[7R7o0-"/)<4#CG6[mbx[eW!6KK+]}:|N"[0Oy}<<}$se"/8`*5.qV8%>&2D"$uuiE.rm&/6o,,uh!8P}7m?Q,t3l<Y1e&\`"RS_Hr"^f"QlC~kMQH"g(:82Le=(nrJc|Bo^+"`QJ:E"10j[k[8F-a(!h(=k!7E(xn.\GHzZ`{)J83%2S-0+GY{j:!'<j9hPnjW0m=+,%f5n-rZ^cfL[:(~\hx(]{F%#!:Vh[~f.'=?>HkDQ%'o=h*<$s!H'~no$)l0+c*Mm^bY'md,v[!dx#bmo/y&&h&2RL%qkHv'6yg^G=s/*iv9E8+rH3pA6DmL]T$X:K7evm|*}~WI<nCU!he:S*KpT#Y}5"2y+[)4KV?n,}r$-FdWP"7s6Ao_4Hm5\!>L<_&^Yl%k$0bRsd*)iY}9;oS7,C?c*2E}0#'F1LeA':(%\3?Dc3(>cD87St~a!$6e1[h\V!S9YbUH.k$cJF)S9jD*-^G]+*L/!+1}6N!8M(uF7UT<{s%Ld$oPQCZ/%oy]9hRR"y-?OkwTz#R)+$"-DL0%aPw\B%tG}587WACw)uuietWyU-9X0"#{w2")q"CG{k&5RGgV~`N8.x"\]YzrS!-]{|#K>M+BkBHK:?p"}-}!u6JU%R.rqg:'y"ws'|+~+40(Z|r>dRk%K5UI)IB]$'|vcp<Iu>v#+Z)QI<)/`X9ZB#C'#{GD?gyw1#/g\a<PzQ=v*hQgkk7bbEh\3sR*}`t75xm7"QbR[wk'<,NMp8h:%$*gCWSefC12TKD;kfyT)dz/junO8!t_1\B6$\(O'^UBh|>8!?'djnX0$k|6=+rSe22sgNYg/V$Y?/27dkc1;aA1ug5x3jY|(fX*/J.1T_Lk*8-Q`:P.?_O$>aex,[i?ELZ^^%_;A,Z!I=/=^O+[d&%i>RQ*)Rc\7t.3$v.I>abT}(AM1&6vVC!qW0`.ps(/fTL+cfso#C+QtJ!f-%Z$d1oCq8=3~t,5d%u2d,DKe[k:(=X6'blqc57'ss$v^n6#H1^WwY+/qyXx)fN|5?UeN^Kz6FWQ73R/wA"Ou`/AJWQ'Ei.}P04"(rol<"vV0/WAhZ%1,4%R]>43%FF#79>)4m)X*$)|#Y/9b!j`F`2FtA#Jnr_G3mID#5"c3sA^"n7O]*MsZ"OfX}PpCj)(5LLxmK]#rNx;WZ))0Z:;I9B[G+~bg\Rm^c1ubz-H2,n$M8sN~;WvaX-[utjW,-:huawYR=$3T5JK'E<!a<7PIC{g(.r\-4/g4+V95"0=Vq"B=B\<}s*0.H]7*v93,47Ov?ukP'Kt%OVvV9%<'v0w`l%'w;Wt&6N{'D9WHYI_t!;5B!|f2K6bbup9x`O)-sCVG=tg#>R[Z1Dj&6P`{r0nPC!]u5`W7`h&yR.dI_T#!]Pa$#<be!PFg7_07X/HU-sM(e/'^)6cP;nV"v|TU[\-l8J>)aoNE,%1e/TG"YHI(KwD8Ayl$Epw$#M#9A5U1iegk&5813'c9Lo"<74Q*Gj|&>_WA).<8(C-w=^+Xg>2_i8YTxiArd`w)8CT#UMun]wgp#oH>iGd#<,~^Z'3&F]87vs3UKEN$G`R7H[:z*/hQif[HE!"tOw/C"s$f~fz#kw''AOHOG]Yz#-eytFmHj"\KfK}(x).<>Y0aRwS#~$>mHR|m'LW<>]MDC=M-^?q"y,0xaW2b,[y*FsAe3'c#")&(.4D/g!}ACE$2~j(cak$}&a<"16YpB4n=H=Tke$"XN%JR/ky!/Z)BB=?|A":$Z=!u$|an!o0Eb)`m-%"Z?+inm[!$f2!}8dr$ioxvb;Hx*pXMd83Td!6A1$g5W\#lx7XRSt^!<KI{?WEU(k[xvlE1K/#+vu9?~J!pfM{ln28-c{~U?13&,U<"8XyEL#"_<aO&ls%dInPiszf%#J)N8:|l&NgER#)fy%9rAty~Pj)nlLT-[Pa".Y[:3X<$+gNN%:U>n,U-O'[[\/&=?]W.d/c/T^TM5&l`3O5;.5V#+Fmc*;{vi;/E!qS3Z?i!fCxFT'3{'_J%}V:\$!>P{JF^/b:W3<9'Hl`G+y2W%.s#$|<QPZUp:&Nf}/%X=,(h\%S*L9_.py3~CLTV&/[K5~q24&,|.zh/:Y?`g_iU~4l#7>0sW|_A3jI)w3dj'%R'*JA2Or!;G8B8bQx\'qvEPu|Y.cno'BL:>#yjo9-K6a&3[~H/Mj0&wZtf_JZ.7\\!=zMz9"RApWrJu3,z>AulW)g$xcT]BH9X'];a;Zowa*ts,{k:as»
open Internal PySem PySem.W PyProof.Rows
set_option tactic.hygienic true
set_option maxRecDepth 100000 in
set_option maxHeartbeats 0 in
theorem PySem.Challenge.cw_boughdraw_k47_none_narrower_holds : PySem.Challenge.rw_boughdraw_k47_none_narrower.Holds := by
 w_on;o_law;k_head;(case hw=>w_witness2)
 k_fill
 apply L3.WH (l:=PySem.Challenge.rw_boughdraw_k47_none_narrower) (x:="_law_script") (k:=11) (fn:=B.zJ) rfl rfl ⟨rfl,by decide,by decide⟩ (λw h Y=>PySem.W.kIn_of Y) B.KC ?F
 case F=>
  ext w mg fa h KX G hmg;refine' B.all_mk KX G hmg ..
  all_goals try first|(refine'⟨?a,_,L2.Fc ?l ?c ?k⟩;(case a=>k_is);(case l=>k_is);(case c=>k_is);(case k=>k_is))|k_is|kernel_rfl|(refine'⟨_,L2.Fc ?l ?c ?k⟩;(case l=>k_is);(case c=>k_is);(case k=>k_is))

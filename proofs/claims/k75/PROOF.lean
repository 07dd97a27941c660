import PyProof.Rows.All
import Wide.All
import OpenK.AllK
import Wide.FinOn
import Lean
import PyProof.EqAt
import PyProof.EqKinds
import PyProof.TupleCall
import KE.KDictList
import PySem.Challenge.RW_boughdraw_k75_redrawn
import PyProof.SetScanFacts
import PyProof.SetKind
import PyProof.Rows.SetFrom
import PyProof.Rows.SortShell
import PyProof.CollectWalk
import PyProof.Rows.SortWalk
set_option Elab.async false
set_option linter.all false
set_option genSizeOf false
set_option compiler.reuse false
set_option compiler.extract_closed false
set_option maxRecDepth 100000
open List (range replicate)
open PySem.PyData (int)
noncomputable section
section
open Lean
def mqD(n:Name)(t:Term):MacroM Syntax:=`(command|def $(mkIdent n):ident :=$t)
def mqW(s:Syntax):MacroM Syntax:=
 let n:=s[1][1][0].getId.toString
 match s[1].getHeadInfo with|.original ..=>pure ((if s[1].getKind==`Lean.Parser.Command.definition&&!(n.startsWith "mq"||n=="pzS")then s.setArg 0 (s[0].setArg 4 (.node .none `null #[.node .none `Lean.Parser.Command.noncomputable #[.atom .none "noncomputable"]]))else if s[1].getKind==`Lean.Parser.Command.structure||s[1].getKind==`Lean.Parser.Command.inductive then s.rewriteBottomUp (·.setInfo .none)else s).modifyArg 1 (·.setArg 0 (.atom .none "")))|_=>Macro.throwUnsupported
def mqU(s:Syntax):MacroM Syntax:=
 let l:=s[1].getArgs.toList
 let p:=s[1][0].getId.toString.toList
 let w:=p.length/(l.length-1)
 if p.length<9 then Macro.throwUnsupported else (.node .none `null<|List.toArray .)<$>if s[0].isToken "include" then l.tail.zipIdx.mapM λ(x,j)=>do mqD (.mkSimple (.ofList ((p.drop (j*w)).take w))) (<-`(@$(⟨x⟩)))
 else l.mapM λi=>mqD (.str `PySem.W.Fast ("tw"++Nat.repr (i.getId.toString.foldl (λn c=>let k:=c.toNat;n*62+if k>96 then k-97 else if k>64 then k-39 else k+4) 0))) (mkIdent `trivial)
end
local macro_rules(kind:=Lean.Parser.Command.declaration)|s=>mqW s
local macro_rules(kind:=Lean.Parser.Command.universe)|s=>mqU s
local macro_rules(kind:=Lean.Parser.Command.include)|s=>mqU s
open PySem.W (instObj methodObj lookIn plainGet hasDictIn findIn plainGet_of isFn plainOver takerIn makesIn emptyDict looks_findIn specialIn keepIn takesIn mroIn callWith_K cellsFrom_some fnOf codeIn nsIn kitOne kia_one excIn subIn mg_of mg_none_of)
abbrev At:=PySem.W.Frag
abbrev Ch:=Option PySem.Value
abbrev Da:=PySem.Shared
abbrev Db:=PySem.Value
abbrev Do:=PySem.Program
abbrev Ev:=PySem.World
abbrev Fk:=PySem.FuncData
abbrev Gc:=PySem.PyData
abbrev Go:=PySem.Around
abbrev Ix:=PySem.Addr
abbrev No:=PySem.Stmt
abbrev On:=PySem.Expr
abbrev Op:=PySem.Heap
local macro_rules
 |`(tactic|trivial)=>`(tactic|first|exact Or.inl rfl|exact Or.inr (Or.inl rfl)|exact Or.inr (Or.inr rfl))
include OsP3P0K1T2L4WwWuXvWpFqLlXtXdXzY0XuYzW2WxXqZgXfYeW6ZsP1YsYtYaS5ZhW5ZtYmZ3Y4Y_PsXnX4Z5Z_ZdXbY8Yfy_W7ZeZmYjYgZaZbZc if_pos if_neg List.mem_cons_self List.length_map List.getElem?_map List.map_cons List.length_append List.length_range List.mem_append_right List.mem_cons_of_mem PySem.wpAny_bind decide_eq_false List.length_cons Bool.false_ne_true Int.toNat_natCast List.mem_append_left PySem.Heap.get?_push_of_some decide_eq_true_eq Nat.le_refl List.map_append PySem.Heap.lt_size List.length_take List.append_nil List.getElem?_eq_none decide_eq_true List.getElem?_range List.mem_append List.size_toArray Bool.and_eq_true List.nodup_append and_self Option.some.inj List.map_map Nat.lt_of_lt_of_le Nat.ne_of_lt PySem.Heap.get?_push_size List.mem_of_getElem? List.ext_getElem? PySem.wpAny_pure congrArg List.mem_range PySem.PassesOwn.never List.map_nil Nat.le_trans List.getElem?_eq_getElem List.mem_singleton of_eq_true List.cons_append List.mem_cons List.map_congr_left List.filter_append List.nodup_cons List.mem_filter List.getElem?_eq_some_iff Option.map_eq_some_iff List.mem_map
include K9gK9eK9aK9XK9VK9MK9IK9EK9BK9AK99K98K97K93K91K90K8zK8yK8xK8wK8tK8sK8rK8qK8pK8nK8mK8lK8jK8iK8hK8gK8fK8eK8dK8cK8bK8aK8ZK8YK8XK8WK8VK8UK8TK8SK8RK8QK8PK8OK8NK8MK8LK8KK8JK8IK8HK8GK8FK8EK8DK8CK8BK8AK89K88K87K86K84K83K82K81K80K7zK7yK7xK7wK7vK7uK7tK7sK7rK7qK7pK7oK7nK7mK7lK7kK7jK7iK7hK7gK7fK7eK7dK7cZaaZabZacZadZaeZafZagZahZaiZajZakZalZamZanZaoZapZaqZarZasZatZauZavZawZaxZayZazZbaZbbZbcZbdZbeZbfZbgZbhZbiZbjZbkZblZbmZbnZboZbpZbqZbrZbsZbtZbuZbvZbwZbxZbyZbzZcaZcbZccZcdZceZcfZcgZchZciZcjZckZclZcmZcnZcoZcpZcqZcrZcsZctZcu PySem.W.mg_of List.length_singleton List.getElem?_append_right List.lookup_cons List.getElem?_append_left List.append_assoc List.getElem?_set_self List.getElem?_set_ne List.nil_append PySem.W.mg_none_of List.replicate_succ PyProof.Rows.callWith_type1 List.getElem?_take_of_lt List.length_range' Nat.le_succ List.take_of_length_le List.length_set List.length_drop Nat.zero_le List.nodup_nil Array.length_toList List.take_append_of_le_length List.length_replicate Nat.min_eq_left List.find?_cons Nat.lt_irrefl PySem.wpAny_mono PySem.Heap.size_push Bool.eq_iff_iff List.length_filter_le PySem.wpAny_Call_Name_kw Ne.symm Nat.lt_succ_of_lt PySem.wpAny_field Nat.lt_succ_self Nat.sub_self PySem.wpAny_truthy_bool List.flatten_cons List.filter_congr PySem.F.slot_tuple_iterator_next List.getElem?_replicate PySem.SeqAt.canLay_of_shaped PySem.wpAny_passesOwn PySem.wpAny_execs_nil PySem.W.kia_one List.length_nil List.reverse_cons List.getElem?_zipIdx Int.zero_add beq_self_eq_true List.filter_cons List.drop_eq_getElem_cons PySem.mem_of_lookup PySem.wpAny_comprehension_free PySem.wpAny_setField_rec PySem.W.callWith_K Nat.add_sub_cancel List.length_zipIdx PySem.F.plainAttrs_list PySem.codeAny_mono PySem.wpAny_seqItems PySem.wpAny_loadPart_at PySem.W.cellsFrom_some List.take_length List.nodup_range List.cons.inj PySem.W.looks_findIn List.range_succ List.filterMap_cons Nat.zero_add List.all_map PySem.call_meets List.getElem_range List.getElem?_drop if_true PySem.sizeLine_eq Sum.inl.inj PySem.wpAny_newObj_type List.any_cons List.all_cons PySem.wpAny_call_entry List.all_eq_true List.of_mem_zip List.idxOf_cons PySem.F.slot_zip_next PySem.Heap.get?_update_self Array.getElem?_toList List.take_zero List.range_eq_range' List.Pairwise.filter Array.toArray_toList PySem.W.plainGet_of List.take_succ_cons PySem.Heap.SameBut.update PySem.wpAny_standAt List.map_take Bool.and_self List.mem_range'_1 List.getElem_mem Option.getD_some List.filter_cons_of_pos Option.map_some Bool.false_and Nat.add_sub_cancel_left List.pairwise_lt_range List.range'_append_1 List.filter_cons_of_neg Bool.true_and Bool.not_false List.map_replicate List.getElem?_of_mem List.pairwise_append List.getElem?_cons_succ Classical.epsilon_spec List.getElem_idxOf List.length_zip Option.map_none List.take_append_drop Bool.and_true List.perm_ext_iff_of_nodup List.any_eq_true List.range'_succ List.takeWhile_cons Nat.le_of_lt List.getElem?_cons_zero Bool.not_true List.filter_filter List.map_drop List.take_succ_eq_append_getElem List.range_succ_eq_map List.take_add_one List.range_add List.eq_nil_of_length_eq_zero List.filter_map List.getElem_of_mem List.length_eraseIdx_of_lt Nat.ne_of_gt Bool.false_eq_true Bool.and_false List.rel_of_pairwise_cons List.any_eq_false Bool.not_eq_true' List.nodup_range' List.eraseIdx_cons_succ List.pairwise_singleton Nat.succ_ne_self Bool.not_eq_true List.length_pos_of_mem List.foldl_cons List.forIn_cons Int.le_antisymm Bool.or_eq_true List.append_inj List.contains_iff_mem List.dropLast_concat Bool.or_eq_false_iff List.mem_of_mem_take List.forIn_nil Option.isSome_some List.find?_eq_none List.contains_cons Nat.eq_zero_or_pos List.set_cons_zero List.set_cons_succ List.pairwise_cons List.any_map Nat.succ_pos List.map_set List.map_id' Nat.add_zero
set_option hygiene false
section
variable{A B C D E F G:Sort _}{g P Q R S T U V W X:Prop}
def mx1{P:A->Prop}(h:∃a,P a)(k:∀a,P a->g):g:=h.elim k
def mx2{P:A->B->Prop}(h:∃a b,P a b)(k:∀a b,P a b->g):g:=h.elim λa h=>mx1 h (k a)
def mx3{P:A->B->C->Prop}(h:∃a b c,P a b c)(k:∀a b c,P a b c->g):g:=h.elim λa h=>mx2 h (k a)
def mx4{P:A->B->C->D->Prop}(h:∃a b c d,P a b c d)(k:∀a b c d,P a b c d->g):g:=h.elim λa h=>mx3 h (k a)
def mx5{P:A->B->C->D->E->Prop}(h:∃a b c d e,P a b c d e)(k:∀a b c d e,P a b c d e->g):g:=h.elim λa h=>mx4 h (k a)
def mx6{P:A->B->C->D->E->F->Prop}(h:∃a b c d e f,P a b c d e f)(k:∀a b c d e f,P a b c d e f->g):g:=h.elim λa h=>mx5 h (k a)
def mx7{P:A->B->C->D->E->F->G->Prop}(h:∃a b c d e f i,P a b c d e f i)(k:∀a b c d e f i,P a b c d e f i->g):g:=h.elim λa h=>mx6 h (k a)
def mz2(h:P∧Q)(k:P->Q->g):g:=k h.1 h.2
def mz3(h:P∧Q∧R)(k:P->Q->R->g):g:=mz2 h.2 (k h.1)
def mz4(h:P∧Q∧R∧S)(k:P->Q->R->S->g):g:=mz3 h.2 (k h.1)
def mz5(h:P∧Q∧R∧S∧T)(k:P->Q->R->S->T->g):g:=mz4 h.2 (k h.1)
def mz6(h:P∧Q∧R∧S∧T∧U)(k:P->Q->R->S->T->U->g):g:=mz5 h.2 (k h.1)
def mz7(h:P∧Q∧R∧S∧T∧U∧V)(k:P->Q->R->S->T->U->V->g):g:=mz6 h.2 (k h.1)
def mz8(h:P∧Q∧R∧S∧T∧U∧V∧W)(k:P->Q->R->S->T->U->V->W->g):g:=mz7 h.2 (k h.1)
def mz9(h:P∧Q∧R∧S∧T∧U∧V∧W∧X)(k:P->Q->R->S->T->U->V->W->X->g):g:=mz8 h.2 (k h.1)
def my2{P:A->B->Prop}(a b)(h:P a b):∃a b,P a b:=⟨a,b,h⟩
def my3{P:A->B->C->Prop}(a b c)(h:P a b c):∃a b c,P a b c:=⟨a,my2 b c h⟩
def my4{P:A->B->C->D->Prop}(a b c d)(h:P a b c d):∃a b c d,P a b c d:=⟨a,my3 b c d h⟩
def my5{P:A->B->C->D->E->Prop}(a b c d e)(h:P a b c d e):∃a b c d e,P a b c d e:=⟨a,my4 b c d e h⟩
def my6{P:A->B->C->D->E->F->Prop}(a b c d e f)(h:P a b c d e f):∃a b c d e f,P a b c d e f:=⟨a,my5 b c d e f h⟩
def my7{P:A->B->C->D->E->F->G->Prop}(a b c d e f i)(h:P a b c d e f i):∃a b c d e f i,P a b c d e f i:=⟨a,my6 b c d e f i h⟩
def mx1_2{P Q:A->Prop}(h:∃a,P a∧Q a)(k:∀a,P a->Q a->g):g:=mx1 h λa h=>k a h.1 h.2
def mx1_3{P Q R:A->Prop}(h:∃a,P a∧Q a∧R a)(k:∀a,P a->Q a->R a->g):g:=mx1 h λa h=>k a h.1 h.2.1 h.2.2
def mx2_3{P Q R:A->B->Prop}(h:∃a b,P a b∧Q a b∧R a b)(k:∀a b,P a b->Q a b->R a b->g):g:=mx2 h λa b h=>k a b h.1 h.2.1 h.2.2
def mx3_2{P Q:A->B->C->Prop}(h:∃a b c,P a b c∧Q a b c)(k:∀a b c,P a b c->Q a b c->g):g:=mx3 h λa b c h=>k a b c h.1 h.2
def mx4_4{P Q R S:A->B->C->D->Prop}(h:∃a b c d,P a b c d∧Q a b c d∧R a b c d∧S a b c d)(k:∀a b c d,P a b c d->Q a b c d->R a b c d->S a b c d->g):g:=mx4 h λa b c d h=>k a b c d h.1 h.2.1 h.2.2.1 h.2.2.2
def mx2_4{P Q R S:A->B->Prop}(h:∃a b,P a b∧Q a b∧R a b∧S a b)(k:∀a b,P a b->Q a b->R a b->S a b->g):g:=mx2 h λa b h=>k a b h.1 h.2.1 h.2.2.1 h.2.2.2
end
section
open Lean
def mqA(t:String):Syntax:=.atom .none t
def mqN(k:String)(a:List Syntax):Syntax:=.node .none (k.splitOn.foldl .str `Lean.Parser) a.toArray
def mq0(a:List Syntax):Syntax:=.node .none `null a.toArray
def mqQ(a:List Syntax):=mqN "Tactic tacticSeq" [mqN "Tactic tacticSeq1Indented" [mq0 (a.intersperse (mqA ";"))]]
def mqF(x:Syntax):=mqN "Tactic failIfSuccess" [mqA "",mqQ [x]]
def mqE(o x:String)(k:Nat)(a:List Syntax):=mqN o [mqA "",mqN "Term app" [mkIdent (.mkSimple (x++k.repr)),mq0 a]]
def mqI(a:List Syntax):=mqN "Tactic rintro" [mqA "",mq0 (a.map λx=>mqN "Tactic rintroPat one" [x]),mq0 []]
def mqC(i:Syntax):=if i.isIdent then[mqN "Tactic clear" [mqA "",mq0 [i]]]else[]
def mqO(s p i:Syntax)(a:List Syntax)(d:Bool)(k:Nat):List Syntax:=
 let h:=mqN "Term syntheticHole" [mqA "",mqA "_"]
 let n:=a.length
 let r:="Tactic refine"
 if s[1].isOfKind `null then
  let b:=a.map λx=>mqN "Tactic rcasesPat paren" [mqA "",x,mqA ""]
  let j:=mkIdent `h'
  if d then mqE r ("mx"++k.repr++"_") (n-k) [i,h]::mqC i++[mqI b]
  else if k=0 then mqE r "mz" n [i,h]::mqC i++[mqI b]
  else if k+1=n then mqE r "mx" k [i,h]::mqC i++[mqI b]
  else mqE r "mx" k [i,h]::mqC i++mqI (b.take k++[mqN "Tactic rcasesPat one" [j]])::mqE r "mz" (n-k) [j,h]::mqC j++[mqI (b.drop k)]
 else[mqF (mqF (mqE r "my" k (List.replicate (k+1) h))),mqE (if s.isOfKind `Lean.Parser.Tactic.exact then"Tactic exact"else r) "my" k (a.take k++[if k+1=n then a[k]! else p.setArg 1 (mq0 ((a.drop k).intersperse (mqA ",")))])]
def mqH(s:Syntax):Bool:=match s.getHeadInfo with|.original ..=>true|_=>false
def mqG:Nat->Syntax->Syntax
|0,p=>p
|n+1,p=>if p.isOfKind `Lean.Parser.Term.tuple&&p[1].getNumArgs>0 then mqN "Term anonymousCtor" [mqA "⟨",mq0 (((p[1][0]::p[1][2].getSepArgs.toList).map (mqG n)).intersperse (mqA ",")),mqA "⟩"]else p
def mqS(s:Syntax):MacroM Syntax:=
 let s:=if mqH s then s.setArg 1 (mqG 9 s[1])else s
 let b:=s[1].isOfKind `null
 let p:=if b then s[1][0][0][0]else s[1]
 if p[0].getAtomVal=="⟨"&&s[2].getNumArgs==0 then
  let a:=p[1].getSepArgs.toList
  let q:=p.setArg 0 (mqA "")
  let l:=(List.range a.length).reverse
  let o:=mqO s p s[3][1][0] a
  pure (mqN "Tactic first" [mqA "",mq0 ((l.map (o b)++l.map (o false)++[[s.setArg 1 (if b then s[1].setArg 0 (mqN "Tactic rcasesPatMed" [mq0 [q]])else q)]]).map λx=>.node .none `group #[mqA "|",mqQ x])])
 else Macro.throwUnsupported
def mqK(k:String)(s:Syntax):MacroM Syntax:=if mqH s then pure (mqN k s.getArgs.toList)else Macro.throwUnsupported
def mqT(k:String)(s:Syntax):MacroM Syntax:=if mqH s==false then Macro.throwUnsupported else pure (mqN "Tactic first" [mqA "",mq0 ([mqN k [mqA "",mqG 9 s[1]],s.setArg 0 (mqA "")].map λx=>.node .none `group #[mqA "|",mqQ [x]])])
def mqL(s:Syntax):MacroM Syntax:=
 let d:=s[2][0]
 let p:=if mqH s then mqG 9 d[0]else d[0]
 if s[1][0].getNumArgs>0 then Macro.throwUnsupported else if (p[0].getAtomVal=="⟨")==false then mqK "Tactic tacticHave__" s else
 let t:="Tactic rcasesPat"
 mqS (mqN "Tactic obtain" [mqA "",mq0 [mqN (t++"Med") [mq0 [mqN (t++" tuple") [p[0],mq0 ((p[1].getSepArgs.toList.map λx=>mqN (t++"Lo") [mqN (t++"Med") [mq0 [mqN (t++if x.isIdent then" one"else" ignore") [x]]],mq0 []]).intersperse (mqA ",")),mqA ""]]]],mq0 [],mq0 [mqA "",mq0 [d[4]]]])
end
local macro_rules(kind:=Lean.Parser.Tactic.obtain)|s=>mqS s
local macro_rules(kind:=Lean.Parser.Tactic.tacticLet__)|s=>mqL s
local macro_rules(kind:=Lean.Elab.Tactic.Ext.ext)|s=>if mqH s&&s[2].getNumArgs==0 then pure (mqN "Tactic rintro" [mqA "",s[1],mq0 []])else Lean.Macro.throwUnsupported
local macro_rules(kind:=Lean.Parser.Tactic.delta)|s=>mqK "Tactic unfold" s
local macro_rules(kind:=Lean.Parser.Tactic.apply)|s=>mqT "Tactic refine" s
local macro_rules(kind:=Lean.Parser.Tactic.refine)|s=>mqS s
local macro_rules(kind:=Lean.Parser.Tactic.show)|s=>if mqH s then pure (mqN "Tactic exact" [mqA "",mqG 9 s[1]])else Lean.Macro.throwUnsupported
local macro_rules(kind:=Lean.Parser.Tactic.exact)|s=>mqS s
def kst{α β:Prop}(b:β)(_:α):β:=b
def pzS(t:String):Lean.TSyntax `term:=
 let h:Lean.Syntax:=.node .none `Lean.Parser.Term.hole #[.atom .none "_"]
 let k:=(t.splitOn " ").foldl (λk w=>match w,k with
  |"(",_=>#[]::k
  |")",x::y::r=>y.push (Lean.Syntax.mkApp x[0]! (x.extract 1 x.size))::r
  |_,x::r=>x.push (if w=="_" then⟨h⟩else if w=="?" then⟨.node .none `Lean.Parser.Term.syntheticHole #[.atom .none "?",h]⟩else if w=="&" then Lean.Unhygienic.run `(λ_ _=>rfl) else if w=="!" then Lean.Unhygienic.run `(by decide) else if w.startsWith "%" then Lean.Syntax.mkApp (Lean.mkIdent `kst) #[Lean.mkIdent (w.replace "%" "").toName]else if w.startsWith "." then⟨.node .none `Lean.Parser.Term.dotIdent #[.atom .none ".",Lean.mkIdent (w.replace "." "").toName]⟩else if w.front.isDigit then⟨Lean.Syntax.mkNumLit w⟩else Lean.mkIdent w.toName)::r
  |_,_=>k) [(#[]:Array (Lean.TSyntax `term))]
 let x:=k.head!
 Lean.Syntax.mkApp x[0]! (x.extract 1 x.size)
local macro_rules|`($c:char)=>match ("".splitOn "|").find? (·.startsWith<|toString c.getChar) with
  |some s=>pure<|pzS (s.splitOn "~")[1]!
  |_=>Lean.Macro.throwUnsupported
set_option tactic.hygienic false
set_option bootstrap.genMatcherCode false
def mqaa(h:0=0:=by rfl):=h
def mqab(h:0=0:=by decide):=h
def mqac(h:0=0:=by trivial):=h
def mqad(h:0=0:=by first|exact .inl rfl|exact .inr rfl|assumption):=h
def mqae(h:0=0:=by intro _;rfl):=h
def mqaf(h:0=0:=by intro _ _ _ _ _;trivial):=h
def mqag(h:0=0:=by first|exact Or.inl rfl|exact Or.inr rfl):=h
section
open Lean
def mqZ(p:List Name):Nat->Syntax->Array Name×String->Array Name×String
 |f+1,.node _ k a,(K,o)=>
  let i:=K.idxOf k
  a.foldl (λr x=>mqZ p f x r) (if i<K.size then K else K.push k,o++s!"\n{i}:{a.size}")
 |_,.atom _ v,(K,o)=>(K,o++"\n'"++v)
 |_,.ident _ _ v _,(K,o)=>(K,o++if p.contains v then s!"\n#{p.idxOf v}" else if v.isAnonymous then "\n\"" else "\n\""++toString v)
 |_,_,r=>r
def mqP:List Syntax->Array Name×String->Array Name×String
 |h::b::r,(K,o)=>
  let p:=(h[1].getArgs.map (·.getId)).toList
  mqP r (mqZ p 999 b (K,o++s!"\x01{if h.isIdent then h.getId else h[0].getId}\x02{p.length}"))
 |_,r=>r
def mqX(T:Unit->String)(s:Syntax)(a:List Syntax):MacroM Syntax:=
 match s.getId with
 |.str .anonymous n=>if n.front.val<128 then Macro.throwUnsupported else
  let T:=T ()
  match T.splitOn s!"\x01{n}\x02" with
  |[p,t]=>do
   let K:=(p.splitOn " ").toArray
   let w:=(t.takeWhile (·!='\x01')).toString.splitOn "\n"
   let k:=w.head!.toNat!
   let i:=s.getHeadInfo
   let r:=(w.tail.foldr (λw s=>match w.front with
    |'\''=>Syntax.atom i (w.drop 1).toString::s
    |'"'=>.ident i w.toRawSubstring (if w.length<2 then .anonymous else (w.drop 1).toString.toName) []::s
    |'#'=>a[(w.drop 1).toNat!]!::s
    |_=>let l:=w.splitOn ":"
     let n:=l[1]!.toNat!
     .node i K[l[0]!.toNat!]!.toName (s.take n).toArray::s.drop n) []).head!
   let a:=(a.drop k).toArray
   pure<|if a.isEmpty then r else if r.isOfKind `Lean.Parser.Term.app then r.setArg 1 (.node .none `null (r[1].getArgs++a)) else .node .none `Lean.Parser.Term.app #[r,.node .none `null a]
  |_=>Macro.throwUnsupported
 |_=>Macro.throwUnsupported
end
local macro_rules(kind:=Lean.Parser.Command.check)|s=>let t:=s[1][1];let(K,o):=mqP (t[0]::t[2].getSepArgs.toList) (#[],"");mqD `mqY (Lean.quote (K.foldl (λs k=>s++toString k++" ") ""++o))
#check(À a,List a,
Á,.int,
Â a,some a,
Ã,(by lia),
Ä,.ref,
Å,.list,
Æ,(by trivial),
Ç a,decide a,
È,.bad,
É a,some (.sh a),
Ê,.inl,
Ë a,(a:Int),
Ì a,(a).length,
Í a,ae (aa a),
Î a b,B2 a (aa b),
Ï a b c,if a then b else c,
Ð,.inr,
Ñ a,autoParam a mqaa._auto_1,
Ò,List Nat,
Ó a,(a).map,
Ô,.str,
Õ a,starEach a X.env,
Ö a,Option a,
Ø,some o,
Ù a b,(by rw[a];show b),
Ú a,.ok (.sh<|a),
Û,(by simp),
Ü,.Name x,
Ý a b,a->b->Prop,
Þ,(k:Int),
ß,.bool,
à a,a=false,
á,(by decide),
â,DE M X,
ã a,(a).bind,
ä,.lst,
å,Nat->Bool,
æ,.none,
ç,PE X,
è a,(a).trans,
é a,(a).filter,
ê,tD M n,
ë,(i:Int),
ì,Inv X,
í,.nil,
î a,(by rw[a];lia),
ï,.tuple,
ð,.cons,
ñ,(by decide+kernel),
ò a,.ok a,
ó,PT ts c,
ô a b,.Call a b [],
õ,W2 _,
ö,(e:Int),
ø,Inv X D0 σ H s,
ù,aa 0,
ú,.Name,
û,.Subscript,
ü a,.ok (.nx<|a),
ý,aE ts x,
þ a,a=true,
ÿ,aq M H,
Ā,Wp _,
ā a b,a b=true,
Ă a,OD.sh a,
ă,some v,
Ą a,a<=sizeLine,
ą,(j:Int),
Ć a,absurd a,
ć,.type,
Ĉ,ak ts,
ĉ,aa 1,
Ċ,x<ts.length,
ċ,λi=>fl<|h i,
Č,Os rfl,
č,R OD,
Ď a,some (.ol a),
ď,e::es,
Đ,some x,
đ,λnm=>decide<|nm="Easel",
Ē,.sh d,
ē a,(a).toNat,
Ĕ,wpAny (model X.prog X.w) X.A,
ĕ a b c d e f,E2 P w K mg base a b c d e (Tk K mg f),
Ė a,nsIn a mainGlobals,
ė,.Constant,
Ę,upd H,
ę,I2 T k,
Ě,Nat->Nat,
ě,some u,
Ĝ,Rep K,
ĝ,.Attribute,
Ğ,rest ts x,
ğ,.builtin,
Ġ,Def K mg,
ġ a,autoParam ((x==(a:Str))=false) mqab._auto_1,
Ģ a b,{cls:=.type a,data:=b},
ģ,(·.1),
Ĥ,eB bU,
ĥ a b,.ok (.ol<|a b),
Ħ,Gl X,
ħ,(aq.bind p).mono,
Ĩ a,.ol ((a).map OD.sh),
ĩ,W4 ts bs,
Ī,.tup,
ī a,ae a ai,
Ĭ a,top a,
ĭ,(x:Int),
Į a,λk:Nat=>a,
į a,a->Prop,
İ,Pm K,
ı a,.sh a,
Ĳ a,(a<=I6)=True,
ĳ,Str->Ch,
Ĵ,(c:Int),
ĵ,B2 F4,
Ķ a,a[i]?,
ķ,H6 ts,
Ĺ,Xu _,
ĺ,Ix×Obj,
Ļ,Xv _,
ļ,s.heap.objs.size+1,
Ľ,ts.length<=40,
ľ,k<ts.length,
Ŀ,Y0 _,
ŀ a b,cZ rfl rfl rfl a b (λ_ _ _ _ _ _ hr=>?_),
Ł,wpAny (model prog w) A,
ł,ρ.set i,
Ń,h r m,
ń a,range a,
Ņ,aA rfl,
ņ a,(show a by lia),
Ň a,λ_ _ _ q=>a,
ň,(·.2),
Ŋ,ρ[i]?,
ŋ,DS M X,
Ō,ak T,
ō,e<ts.length,
Ŏ,X9 F H,
ŏ,.cell,
Ő,.oi none "Easel",
ő,ns.map int,
Œ a,(by let:=a;lia),
œ,B2 bB,
Ŕ a,(a).any (·.1)=false,
ŕ,X.K=M.K,
Ŗ a b c,E1 a b (ag c),
ŗ,H6 T k,
Ř,range ts.length,
ř,Xp ts g fl an,
Ś a,tS M n a D σ H,
ś,(a b).bind,
Ŝ,seen ts,
ŝ,(p:Int),
Ş,I2 ts,
ş,aK ts g fl an,
Š a,wpAny _ _ a _ _,
š,Xo ts x e p,
Ţ a,s.heap.push a,
ţ,aB.refl _,
Ť,bj 2,
ť a,(by simpa using a),
Ŧ a,ao (aj a),
ŧ,F5 K F H,
Ũ,(n:Int),
ũ,x::xs,
Ū,B1 K F,
ū,Wv us.length,
Ŭ a,ae (eC<|a),
ŭ,ch q,
Ů a,aV (cB a) (Rm 0),
ů,Xl us ch fl,
Ű a,(by simp[a]),
ű,b::bs,
Ų,.local,
ų b,∀a∈f,b,
Ŵ a,(a).mono,
ŵ,range T.length,
Ŷ a b,(by delta a;rw[b]),
ŷ a,((a).getD 0:Nat),
Ÿ,F.pre f,
Ź a,a->Bool,
ź a,(false,eval e X.env)::a,
Ż,bo _ _ _ _ _ _,
ż,X.calm=true,
Ž,seen T fl,
ž a,autoParam a,
Α,Ext F H,
Β,some k,
Δ,Ps ?_,
Ε,P3 z,
Ζ,Y6 X (own++outs.map (·.2)) scope s H,
Η a,List.range' a,
Θ,T0 M F H Q,
Ι,bM I q,
Κ,.fields,
Λ,.oi (some a) "Easel",
Μ,λ_ _ _ _ _ _ _ _=>rfl,
Ν a,autoParam a mqab._auto_1,
Ξ,X.N[i]?=some x,
Ο,Nm us ts ch h,
Ρ,Yl eZ,
Τ,h.get? a,
Υ,findIn K,
Φ,B2 Xr,
Χ,Os z,
Ψ a,(a).mpr,
Ω,Kx ts x e,
γ,some y,
δ,aa 2,
ε,.free,
ζ a,(a).take,
η,some none,
θ,Z3 _ rfl,
ι,Nat->Int,
μ,a ρ,
ν a,Yf (ax a),
ξ a,Q a H,
ο a b c,λr m=>a b λ_ _ _ q=>c q,
π,eval a X.env,
ς,Key×Gc,
τ,S1.map h,
υ a,a<ts.length,
χ,.ok y,
ψ,[a,b],
ω a b,show a from b,
ϊ a,(a).getD,
ϋ a,(a).set,
ϰa,λ_ _ _ _ _ _ hr=>?_,
ϰb,Y9 ts x e p,
ϰc,Lp ts e i,
ϰd a,(by rw[a];rfl),
ϰe,aC 2,
ϰf,some c,
ϰg,cx i,
ϰh,k _ _,
ϰi,pre f,
ϰj,2^62,
ϰk,fG pt,
ϰl,X8 ts,
ϰm,.seq,
ϰn,(λ_ m=>by cases m),
ϰo,Z2 ts x,
ϰp,S.ext d1,
ϰq,stK us,
ϰr,cY 0,
ϰs a,(a).Nodup,
ϰt b,λa m=>b,
ϰu a b,kitOne K a b=some false,
ϰv a b,(false,eval a X.env)::b,
ϰw,ns.map V.int,
ϰx,s.heap.get? b,
ϰy a b,(by rw[<-a];show b),
ϰz,br _ _ _ _,
ϰA a,(a).objs.size,
ϰB,Sc K F H,
ϰC,X7 M.K n,
ϰD a,λx y H Q=>a,
ϰE,.ins C,
ϰF a b,Xc a b hr,
ϰG,(m:Int),
ϰH,some d,
ϰI a,⟨a,[]⟩,
ϰJ,aa 4,
ϰK,nD A,
ϰL,iL L,
ϰM,PA X,
ϰN k,a::b::c::d::e::f::g::h::i::j::k,
ϰO,model X.prog X.w,
ϰP a b,(by rw[a,b];lia),
ϰQ,some n,
ϰR,some j,
ϰS,aS _,
ϰT,Zz M,
ϰU,backTo pos,
ϰV,k<T.length,
ϰW,Xe prog w,
ϰX,Y3 ts fl,
ϰY,H b=none,
ϰZ a,aq.bind a,
ϰ0,B2 fW,
ϰ1,c=true,
ϰ2,aa 3,
ϰ3 a,Array a,
ϰ4,nD L,
ϰ5,a[i]?,
ϰ6,P3 Xd,
ϰ7 a,bI (eC<|a),
ϰ8 a,F.pre a,
ϰ9 a,λ_=>a,
ϱa a,∀f:F,a,
ϱb a b,cJ rfl Z5 a b,
ϱc,("Easel":Str),
ϱd a,(show a by decide),
ϱe,F.roots g,
ϱf,Str×Gc,
ϱg,tA M n,
ϱh,aC 3,
ϱi,PT bs d,
ϱj a,[(false,a)],
ϱk a,λb o e=>a,
ϱl a,(by rw[a]),
ϱm a b,E1 a a (ag b),
ϱn,Gc->Gc->R OD,
ϱo a,mD a a,
ϱp a b,.BoolOp .a b pos,
ϱq,S2.map h2,
ϱr,(h x:Int),
ϱs a,T.length<=a,
ϱt a,⟨_,a,rfl⟩,
ϱu,RelV v u,
ϱv,(a:Int),
ϱw,λa=>?_,
ϱx,RelV x,
ϱy,aB F H,
ϱz,.bl b,
ϱA,ak bs,
ϱB a,⟨rfl,a⟩,
ϱC,nD R,
ϱD,H6 T,
ϱE a,r.bind a,
ϱF a,(a:Nat),
ϱG a b c,E2 X.prog X.w a b X.base c k,
ϱH,["tree","node"],
ϱI,s.map OD.er,
ϱJ,(by cases h),
ϱK a,ts.length+a,
ϱL b,λa m=>k a<|b,
ϱM,K91 _,
ϱN,some b,
ϱO,Z9 xs,
ϱP,s[i]?,
ϱQ,R Out,
ϱR a b c,⟨a,b,c⟩,
ϱS a b c,dM (λnm=>List.lookup nm [("Easel",a)]) b (aa c),
ϱT,Xn List.length,
ϱU,seen ts2 fl2,
ϱV,I.ok.hd hc,
ϱW b,λa H Q=>t a H b,
ϱX,Own K F H v,
ϱY a,Yn M.K a n' b,
ϱZ a,(by rw[a];simp),
ϱ0,aq.bind p,
ϱ1 a b,Z1 X G a b rfl,
ϱ2,Yq ts x e,
ϱ3,some true,
ϱ4 a,DA M X a al,
ϱ5,Zn P w,
ϱ6,f.map h,
ϱ7,Xa K H a,
ϱ8,tS M n,
ϱ9,aE ts e,
ϲa,.sh D,
ϲb,K.1=k,
ϲc,gv ps,
ϲd,aZ pt,
ϲe,X8 T,
ϲf,PS X,
ϲg a b,b_ (i:=a) b rfl (Or.inl rfl),
ϲh,λp=>(.tuple [.str p.1],p.2),
ϲi,X.env.scope.names.lookup x,
ϲj,E2 P w K mg base W9,
ϲk,λp=>(kD p.1,p.2),
ϲl a,(a).lookup x=some c,
ϲm,model prog w,
ϲn,λi=>F2<|h2 i,
ϲo,b.set i,
ϲp a,λq=>OD.ol<|nO a,
ϲq,(by simp[m]),
ϲr,λ_=>false,
ϲs,replicate k,
ϲt a,e_ (nD a) 0 xs,
ϲu,i<ts.length,
ϲv,absurd rfl,
ϲw,dY ts x e,
ϲx a,{s with heap:=a},
ϲy a,replicate a,
ϲz,λa m=>?_,
ϲA,r.W3 e1 w,
ϲB a,a=ps.length,
ϲC a,.ok (.ol<|a),
ϲD,.ol xs,
ϲE,br g b,
ϲF,bX ai,
ϲG,σ[i]?,
ϲH,DT M X,
ϲI,I2 T,
ϲJ,Own K,
ϲK a b,(by rw[a,b]),
ϲL a,ds.map a,
ϲM,y::z,
ϲN a b,((backTo a<|starEach b X.env).all (λx=>!x.1)&&(backToKw a<|keywordEach [] X.env).all (λx=>x.1.isSome)&&decide ((b:List On).length+([]:List Keyword).length+(if([]:List Keyword).isEmpty then 0 else 1)<30))=true,
ϲO a,de (tb:=λnm=>decide<|nm="Easel") (i:=0) (bu T.Xg ⟨T.Xk.c,a⟩),
ϲP,autoParam (Zr X.env.scope x) mqac._auto_1,
ϲQ,X.env.cells.lookup x=some c,
ϲR,rmC ch (h x) (h d),
ϲS,y*69621%2147483629,
ϲT,Loc X.env.scope,
ϲU,a.set i,
ϲV,eval b X.env,
ϲW,Or.inl rfl,
ϲX,d1.trans d2,
ϲY,Passes CX X,
ϲZ a,Binds a fd ps,
ϲ0,λ_ _=>rfl,
ϲ1,cons k c,
ϲ2 a,PyData.list a,
ϲ3 a,eval a X.env,
ϲ4 a,g1++(a++g2),
ϲ5,S.ext e1,
ϲ6,b::rest,
ϲ7,aC 4,
ϲ8 a b c,(a b)=c b,
ϲ9,sub a m,
ϳa a,λ_ _ _ z=>a,
ϳb a,some (some<|a),
ϳc,.Assign,
ϳd a,∀b∈fp,a,
ϳe a,X.mg a=none,
ϳf,.ol s,
ϳg,B1 K H,
ϳh,Fq ?_,
ϳi a,(a).idxOf,
ϳj,P3 H,
ϳk,EL T,
ϳl,Z4 us ts ch h fl Z0 ts2 ch2 h2 F2 R K S1 S2,
ϳm,["_law_state","_law_node"],
ϳn a,List.filter_eq_nil_iff.mpr a,
ϳo a b,Expr.Call (.Name a p2) b [] P,
ϳp,(by simpa using B),
ϳq,(by simpa using m),
ϳr,aA hN hv hd Yy,
ϳs,["self","node"],
ϳt,λ_ _=>False,
ϳu,ts.length+j,
ϳv a,PyData.tuple a,
ϳw,Lx ts x e p,
ϳx,.oi p nm,
ϳy,pure false,
ϳz,snL T fl,
ϳA,plS a us,
ϳB a b,(by rw[a,b];rfl),
ϳC,Str×V,
ϳD,E.hh _ _,
ϳE,H a=none,
ϳF,RelV y u,
ϳG,sn T fl,
ϳH a b c,(by rw[a,b];show c),
ϳI,tT M n,
ϳJ,iX ts,
ϳK,okI s p,
ϳL,K9A X G,
ϳM a,Vals a us,
ϳN,K.In h,
ϳO,Yn K,
ϳP a,Zc.mpr a,
ϳQ,c_ us,
ϳR,aJ q,
ϳS a,λq:Nat=>a,
ϳT,.Expr,
ϳU,SqB t,
ϳV,pre c,
ϳW a,(a).toArray,
ϳX,EP X,
ϳY a,mg a=none,
ϳZ,Os H,
ϳ0,d5 X,
ϳ1,Z7 K,
ϳ2 a,s.map a,
ϳ3,w.params.followText "set-order",
ϳ4,F.map h (F.cons x s F.nil),
ϳ5,hgH ts.length us.length h,
ϳ6 a b,gTp 2 (aX (Rm a)<|aX (Rm b) fT),
ϳ7 a b,((aq.bind a).ext b).mono,
ϳ8,(by simpa using e),
ϳ9 a b,{s with heap:=a,toks:=b},
ϴa,Str×NameKind,
ϴb,sy rfl rfl rfl,
ϴc,X3 (T.take i),
ϴd,(by simp;lia),
ϴe,.oi none nm,
ϴf,g1++(f++g2),
ϴg,X.fn x=true,
ϴh a b c,(by delta a;rw[b,c]),
ϴi,Nat×Str,
ϴj a,(a<I6)=True,
ϴk a,λ_ _ _ _ _=>a,
ϴl,Key×V,
ϴm,aC 5,
ϴn a,a=T.length,
ϴo a,outs.map a,
ϴp,.pl l,
ϴq,range n,
ϴr a,λc o hc q=>a,
ϴs a b,a->a->b,
ϴt,dZ t b,
ϴu b,λa m o q=>b,
ϴv,.ok x,
ϴw,K8x _,
ϴx,.next,
ϴy,c_ T,
ϴz,Yu K,
ϴA a,(a).drop,
ϴB,.ListComp elt [⟨tg,iter,ifs,0⟩] scope pos,
ϴC a,bootBuiltins a=some (.type a),
ϴD,frees X.env scope.names [],
ϴE,Classical.propDecidable _,
ϴF a b,(by let:=a;rw[b]at this;show this),
ϴG a c,∃b,bZ _ _ a=.ok (b,c)/\_,
ϴH,backTo cpos,
ϴI a,X7 a n F H σ ρ fp,
ϴJ,Y5 fl us.length,
ϴK a,∀x∈scope.names,a,
ϴL a,Rn a (λv s1 zz=>?_),
ϴM,intKind prog w,
ϴN b,X6 (λx=>b) (a ρ),
ϴO,s.heap.get? c,
ϴP,eO M n F H,
ϴQ,y.map OD.er,
ϴR,Value.ref a,
ϴS,k<us.length,
ϴT a,isFn K a=true,
ϴU,.ok (.rt x),
ϴV,truth x.er,
ϴW a b,dk (ag a) b [0],
ϴX a b,keepIn a b=true,
ϴY,Yk P w H h,
ϴZ,λ_ _ z=>z,
ϴ0,S.own.at e,
ϴ1,lQ F H f,
ϴ2,F.roots f,
ϴ3,jL x e p,
ϴ4,Str×Ix,
ϴ5,.ok true,
ϴ6,Kx T x e,
ϴ7 a,show a from r,
ϴ8,W0 k X.A,
ϴ9,H p=none,
ϵa,F.app g,
ϵb,anw e m,
ϵc a,a<us.length,
ϵd,ptT ts,
ϵe a,(Za.mp a).1,
ϵf,λ_=>?_,
ϵg,aB H H',
ϵh,F.pre c,
ϵi a,h ((a).getD 0),
ϵj,B2 jT,
ϵk a,codeAny a,
ϵl,.pl a,
ϵm,R Bool,
ϵn a,∃j:Nat,a,
ϵo,.ex c,
ϵp,PSs X,
ϵq,b[i]?,
ϵr,EL ts,
ϵs a,(a).lookup,
ϵt,Xq e,
ϵu a,Vals a,
ϵv a b,attributeBase a b X.env (eval a X.env)=eval a X.env,
ϵw a b c,swapsWith (.Call a b [] c) none pos.line X.env=pure false,
ϵx,Gd ts h fl ts2 h2 F2 R K S2.length,
ϵy,absurd (show false=true from S) Xd,
ϵz a b c,a=b\/a=c,
ϵA a,Yd X (compareOp .a),
ϵB,b≠X.env.locals,
ϵC,⟨h,g,d,t,os⟩,
ϵD,fV us.length ch,
ϵE,Array (Int×Db),
ϵF g,a::b::c::d::e::f::g,
ϵG,eval o X.env,
ϵH,(by simp at h),
ϵI a b c,ae (ar a<|ae b c),
ϵJ a,aK ts2 g a,
ϵK,j<bs.length,
ϵL a,List.lookup a,
ϵM a,aK ts g a,
ϵN,gK e i bs,
ϵO,S.fr a,
ϵP,gB false,
ϵQ,cO fl k,
ϵR a,I.Uf.fresh a,
ϵS,gB true,
ϵT,.ol ys,
ϵU,h.get? b,
ϵV,F a=none,
ϵW,["self"],
ϵX,at_ i hi,
ϵY,aC 6,
ϵZ a,.ok (.od a),
ϵ0,S.2 b,
ϵ1,dN ts k,
ϵ2 a,HT.X0 a 0,
ϵ3,Zc.mp H,
ϵ4,bN us k,
ϵ5,(v:Int),
ϵ6 a,a<T.length,
ϵ7 a,oM (au<|a),
ϵ8,Z1 X G,
ϵ9,aa 7,
϶a,.dict,
϶b,R[i]?,
϶c,n[i]?,
϶d a,Zb.mp a,
϶e a,wpAny a,
϶f,2^63,
϶g,fl k,
϶h,H' a,
϶i a,λh=>a,
϶j,(ap.endLine==cp.line)=true,
϶k,bgD us ch fl,
϶l,List.range' x,
϶m a,(P1.mp m).elim a,
϶n a,∀n∈a,n.l.length<=9,
϶o,Zi X sc scope outs,
϶p,Sm us ts ch h fl c,
϶q,("__debug__":Str),
϶r,(by simpa using h),
϶s,λy=>flat y.er,
϶t,(λz=>by cases z),
϶u,(λz=>nomatch z),
϶v,Tk M.K M.mg fn,
϶w a,Yd X (binaryOp .a),
϶x,fV T.length ch,
϶y,Y5 fl T.length,
϶z,sgm h h2 S1 S2,
϶A a b c,(by delta a;rw[b,c];rfl),
϶B,Zt (Xq e),
϶C,ds.map OD.sh,
϶D,⟨_,rfl⟩,
϶E,fnP rfl rfl,
϶F a b,af (cb a b bt),
϶G,Yp X.stack,
϶H,.ok false,
϶I,reN us R,
϶J,ctU us,
϶K,h'.get? b,
϶L,H' b=none,
϶M,B1.len h2,
϶N,λb m=>?_,
϶O,gv (kT T),
϶P,Nat->Prop,
϶Q,Wd K mg J,
϶R,(h e:Int),
϶S,I.pin p,
϶T,S.map h,
϶U a,a=ts.length,
϶V,Xw e p f,
϶W,["tree"],
϶X,λz=>?_,
϶Y a,some (.od<|a),
϶Z,app f,
϶0,K9g X G,
϶1 a,T.length-a,
϶2,(0:Nat),
϶3,(·<·),
϶4,(d:Int),
϶5,bN T k,
϶6,o++[a],
϶7,Rd H a,
϶8 a,ts.length-a,
϶9,g i j,
Ϸa,s++zs,
Ϸb,aE T x,
Ϸc,Vals s,
Ϸd,K8n _,
Ϸe,jV f v,
Ϸf,z∈ns,
Ϸg,F5 M.K,
Ϸh,some s,
Ϸi,oE ds2,
Ϸj,X3 bs,
Ϸk,aa 5,
Ϸl a,∀b∈f,a,
Ϸm,cV c,
Ϸn,b ρ,
Ϸo,a∉f,
Ϸp,pre r,
Ϸq,pre g,
Ϸr,Zs hi,
Ϸs,bN ts,
Ϸt,lO O,
Ϸu,Y4 H,
Ϸv a,λc o q=>a,
Ϸw,nO L,
Ϸx a,ao a aI,
Ϸy,PT X,
Ϸz,F5 K,
ϷA,dC f,
ϷB,Up e,
ϷC a b c d e,⟨_,⟨T.Xk.c,a,⟨_,_,E2.mono (k:=b) c d,e⟩⟩⟩,
ϷD a,(iR<|top 39).getD a (.Pass ⟨0,0,0,0⟩),
ϷE a,kitOne K a a=some true,
ϷF a b,fi (nm:="Easel") (m:=a) (k:=b),
ϷG a,⟨a,H,I.tok _,⟨_,rfl⟩,q⟩,
ϷH b c d,⟨b,c λ_ _ _ _ _ _ us a=>d⟩,
ϷI a,List.filter_eq_self.mpr a,
ϷJ,X.mg "range"=none,
ϷK,backTo cp,
ϷL,x≠"__name__",
ϷM a,X.A.units+a<cLine,
ϷN,bootBuiltins x,
ϷO,A.handled=none,
ϷP,σ.set i,
ϷQ a,(Sum.inl a:Key),
ϷR a,(by rw[a];show h),
ϷS,xs.set j,
ϷT,EP X p a Q,
ϷU,xs.length+1,
ϷV,dw P w H h a,
ϷW,(Za.mp h).1,
ϷX,d<ts.length,
ϷY,(l+hi) / 2,
ϷZ,⟨#[c]⟩,
Ϸ0,PO ts Rs m,
Ϸ1,DI M X tg,
Ϸ2,lZ T.Xg,
Ϸ3,T0.Zx s p,
Ϸ4 a,ps.length=a,
Ϸ5,I.tok _,
Ϸ6 a,(by cases a),
Ϸ7,sN F f,
Ϸ8,H6 us k,
Ϸ9,aH pt,
ϸa,PI X tg,
ϸb,R.W3 e1,
ϸc,Zb.mp h,
ϸd,DSs M X,
ϸe a,λx c e=>a,
ϸf a,eq_true a,
ϸg,some a,
ϸh,ag T,
ϸi,b=true,
ϸj,X_ K H,
ϸk,X7 K n,
ϸl,xs[c]?,
ϸm,DefM K,
ϸn,aj 1,
ϸo a,a y=true,
ϸp a,a x=true,
ϸq a,λs H Q=>a,
ϸr a,(a).flatten,
ϸs,aj 2,
ϸt a,λk=>int a,
ϸu,IxR X,
ϸv,oj x,
ϸw a,λj:Nat=>a,
ϸx,X3 T,
ϸy a,(a).isSome,
ϸz a,pyNext a,
ϸA a,bz a fH,
ϸB a,keyOf a,
ϸC a b,[(a,b),("NoNode",1),("NoPlace",3),("NoTree",4)],
ϸD a b,a b b hi-a b 0 l,
ϸE,(by delta nD iL;rw[W5];rfl),
ϸF,["_law_easel","_law_deed"],
ϸG,cO fl (h k) b,
ϸH,ns.foldl step_dedup,
ϸI,X.s₀.heap.get? b,
ϸJ,["outlines","gap"],
ϸK a,codeAny_builtin a ?_,
ϸL a,(show a by decide+kernel),
ϸM,T0.val s p,
ϸN,.seq i.toArray n,
ϸO,OkI M.K F H R',
ϸP,h.Ns mainGlobals,
ϸQ,a==sysModules,
ϸR,eval e X.env,
ϸS,⟨_,e,rfl⟩,
ϸT,Xx xs.length,
ϸU,chI T (i+1),
ϸV,ctH ts h x,
ϸW b c,λa _ o b=>c a o b,
ϸX,(Za.mp H).1,
ϸY,Meth K J.j0,
ϸZ,Qx ts x q,
ϸ0 a,(by rw[a];decide),
ϸ1 a,(a S.pt H).mp,
ϸ2,.ok (.nx a),
ϸ3 a,(by change a;lia),
ϸ4,λi hi=>?_,
ϸ5,λ_ _ q=>q,
ϸ6,chg ts2 R,
ϸ7 a,ptR ts a e i,
ϸ8 a,wpAny_holding a,
ϸ9,Tk K mg,
Ϲa,Res K F H,
Ϲb,λj J=>?_,
Ϲc,X.mg=M.mg,
Ϲd,List Bool,
Ϲe a,Inv a D0 σ,
Ϲf a b,∀s H C ex a,b,
Ϲg,E2 P w K,
Ϲh,Up e k s,
Ϲi,nm.lt i,
Ϲj a,a<bs.length,
Ϲk a,(a).Pairwise,
Ϲl,some e,
Ϲm a b c d e,K81 a b c (d _ _) e,
Ϲn,Vals xs,
Ϲo,A r m,
Ϲp,subIn K,
Ϲq,B r m,
Ϲr,map h,
Ϲs,ak ts2,
Ϲt,κ×V,
Ϲu,cxM X,
Ϲv,F.cQ G,
Ϲw,B2 Yc,
Ϲx,I2 bs,
Ϲy,b∉ch,
Ϲz,aW n b,
ϹA,PT T c,
ϹB,K8l ..,
ϹC,aH t,
ϹD,aH q,
ϹE a,Ya.mpr a,
ϹF,.sh e,
ϹG,xq a,
ϹH,Xb hi,
ϹI,p.1=k,
ϹJ,Yv ch,
ϹK,.self,
ϹL,h2 s,
ϹM a,Xy.Wy a,
ϹN,Xw e,
ϹO a b c d e f g,k8 (tb:=(λnm=>List.lookup nm [("Easel",a)])) (k:=b) (cK T.Xg ⟨_,⟨T.Xk.c,c,⟨_,_,E2.mono (k:=b) d e,f⟩⟩⟩ dE) (hr.mono<|by decide) g (aj 0),
ϹP,autoParam (∀x,foldedSetIterable iter X.env x=pure x) mqae._auto_1,
ϹQ,wpAny_setState_of B.ob rfl B.ft,
ϹR,upd H s.heap.objs.size,
ϹS,Str.ofString "abcdefghijklmnopqrstuvwxyz",
ϹT,W_ (oX M.K) (cx i),
ϹU a,kitOne K a (.type "ValueError")=some true,
ϹV,envOfC qual scope s.heap.objs.size f,
ϹW a,K8e Z.zp rfl (x:=a) rfl,
ϹX a,cellsFrom a scope.names,
ϹY,slots own.length outs σ,
ϹZ a b c d,kO (tBM M.K "list" a b<|dB c d) D σ H,
Ϲ0 a,h.get? b=a->h'.get? b=a,
Ϲ1 a,some (.pl l<|xs.set c<|.ol<|a),
Ϲ2,{s with toks:=s.toks+1},
Ϲ3,["tree","folds","node"],
Ϲ4 a,K98 (Rn a λus s1 zz=>?_),
Ϲ5,hgC us.length ch,
Ϲ6 a,H b=a->H' b=a,
Ϲ7,F.roots (F.app g d),
Ϲ8 a,bu T.Xg ⟨T.Xk.c,a⟩,
Ϲ9,h2 (S2[p]?.getD 0),
Ϻa,G1 P w K mg base J,
Ϻb a,scope.names.lookup a,
Ϻc,(by simpa using l),
Ϻd,sc.names.lookup x,
Ϻe,(by simpa using H),
Ϻf,pS (e9 M.K hK),
Ϻg,ki us.length ch,
Ϻh a,assignEach a X.env,
Ϻi,mvH ts h x e p,
Ϻj,cons k' c' r',
Ϻk,T.keep a o q,
Ϻl,X.env::X.outer,
Ϻm,Zr X.env.scope,
Ϻn a,if a then n else m,
Ϻo,ae (aa j) ai,
Ϻp,Yk X.prog X.w,
Ϻq,dw X.prog X.w,
Ϻr a,4*a*a,
Ϻs,λi=>C<|H i,
Ϻt,False.elim q,
Ϻu,k _ P0 _ h,
Ϻv a,wpAny M A a Q E,
Ϻw a,k::l::m::n::o::a,
Ϻx a,aW 2 a (oE ds),
Ϻy,model P w,
Ϻz,X.mg x=none,
ϺA,Pe i ea j,
ϺB,nm.order pt,
ϺC,K w.params,
ϺD,F.pr fl,
ϺE a,∀s H C ex n,a,
ϺF,K.map int,
ϺG,Xa X.K H a,
ϺH,F.full c,
ϺI,d2.hh _ _,
ϺJ,nm.lt q Q,
ϺK,λb B=>?_,
ϺL,elI T i k,
ϺM,plD L ps,
ϺN a b,field a b >>=_,
ϺO,.function,
ϺP,(A b).mpr,
ϺQ a b,cD L a b ?_ ?_,
ϺR,X.pn++D0,
ϺS,SX Rs,
ϺT,iX ts2,
ϺU,aC 7,
ϺV,λ_=>rfl,
ϺW,Yj.mp nd,
ϺX,(·<=·),
ϺY,OD.sh d,
ϺZ,e _ _ h,
Ϻ0,old b o,
Ϻ1,thr O i,
Ϻ2,ch (h e),
Ϻ3,K.map h,
Ϻ4,.dK [],
Ϻ5,X4.mp J,
Ϻ6,nwL ts,
Ϻ7 a,s.TypeIs a,
Ϻ8,Zc.mp h,
Ϻ9,c≠n+4,
ϻa,okD n O,
ϻb,Xw el P,
ϻc,F.pre s,
ϻd a,.ol [.sh<|a],
ϻe,some i,
ϻf,B2 fS,
ϻg a b,Yg.mpr ⟨a,b⟩,
ϻh a,λp a=>?_,
ϻi,W4 ts,
ϻj,pr fl,
ϻk,a_ fQ,
ϻl,Q v H',
ϻm,qK nm,
ϻn,bw q,
ϻo,.no ih,
ϻp,B1 M.K,
ϻq,W6 rfl,
ϻr,x::s,
ϻs,u9 he,
ϻt,w a m,
ϻu,uj R,
ϻv,fm T,
ϻw,SP X,
ϻx,cj ns,
ϻy a b c,dD (plD a b c),
ϻz a,a="fold",
ϻA,X.K=K,
ϻB,.call,
ϻC,OkC M,
ϻD,b∈f,
ϻE,nO o,
ϻF,fl q,
ϻG a b c d e,kM (tb:=(λnm=>List.lookup nm [("Easel",a)])) (k:=b) (cK T.Xg ⟨_,⟨T.Xk.c,c,⟨_,_,E2.mono (k:=b) d (by decide),e⟩⟩⟩ dE) (hr.mono<|by decide) dA,
ϻH,{cls:=.type "set",dict:=none,data:=.set #[] 0 (.fresh 0 0 led)},
ϻI a b,b_ (i:=a) b rfl (Or.inr rfl),
ϻJ,(by simp at m⊢;rcases m with m|m<;>simp[m]),
ϻK,fl2 (ctC ch<|h x) fl (h d),
ϻL,["_law_found","_law_due_here"],
ϻM,E2 P w K m base CX k f fd ps,
ϻN a b c,(λm=>by let(o,a):=b;rw[c]at a;cases a),
ϻO,own.length+outs.length,
ϻP,λ_ _ _ _ _ _ _ _ _=>rfl,
ϻQ,SetTable.grown S.size,
ϻR,us.length+bs.length,
ϻS a,Obj.mapSeq (·.push a),
ϻT,s.length+zs.length,
ϻU,X0 items.size 0 l,
ϻV a b c,cN a kJ (aj b) (aj c) rfl,
ϻW,PyData.str "put",
ϻX,aK us g F2 an2,
ϻY a,λ_ _ _ H _ I h=>a,
ϻZ,Zn X.prog X.w,
ϻ0,W1 deep ns way,
ϻ1,Z7 K x x T f d,
ϻ2,a_ (a_<|a_ fQ),
ϻ3,(by simp![S5]),
ϻ4 a,∀l∈X3 a,l<=8,
ϻ5 a,tI M n a σ H R',
ϻ6,lay_ints [],
ϻ7 a,(by rw[a];show H),
ϻ8,xs.length<I6,
ϻ9,IsB t s.heap,
Ϥa,frO fl b c,
Ϥb,.ex "NoDeed",
Ϥc,(by simp[h]),
Ϥd,.Tuple es,
Ϥe,aG i&&aG j,
Ϥf a b,wpAny a A b Q E s,
Ϥg a,rI0 (λi j=>.bl a),
Ϥh,Xx s.length,
Ϥi c,λa A b B e=>c,
Ϥj,λ_ q=>q,
Ϥk,Yp X.outer,
Ϥl,vf pM va,
Ϥm,I.cell x c,
Ϥn,Yr K H a s,
Ϥo,λ_=>none,
Ϥp,Vals.one r,
Ϥq,(by cases m),
Ϥr,way.take c,
Ϥs,j<R.length,
Ϥt,s.set j,
Ϥu,frees env,
Ϥv,eB mQ,
Ϥw,λq Q=>?_,
Ϥx,λk K=>?_,
Ϥy a b,d5 X a (λx H Q=>b),
Ϥz a,aX (Rm a),
ϤA,erase ρ,
ϤB,λz Z=>?_,
ϤC,aG j=true,
ϤD,bo g t el,
ϤE,fl a=true,
ϤF a,a i=a j,
ϤG,nm.inj q,
ϤH a,swapsWith a,
ϤI a b,Yj.mpr ⟨a,b⟩,
ϤJ a,L.length<=a,
ϤK a,OD.ol (nO a),
ϤL a,ns.length<a,
ϤM a,a<=ts.length,
ϤN,.dK L0,
ϤO a,(a).nofp.mono,
ϤP,L.map h,
ϤQ a,show a from L,
ϤR,K8V P,
ϤS a b,.ok (.rt<|.a b),
ϤT,H l=none,
ϤU,p x=true,
ϤV,cP _ _ _,
ϤW a,ke n b a,
ϤX,eSl xp,
ϤY,ch (h k),
ϤZ a,a<sizeLine,
Ϥ0,.refl _,
Ϥ1,A h m,
Ϥ2,range x,
Ϥ3,E1 N ps,
Ϥ4,aB F F',
Ϥ5,vk T Rs,
Ϥ6,F.Yv ch,
Ϥ7,df3 X G,
Ϥ8 a,Value.type a,
Ϥ9,eqU x,
ϥa,r.fr a,
ϥb,uQ vs,
ϥc,isB b,
ϥd,h p s,
ϥe,Zp f,
ϥf,qW 0,
ϥg,k r m,
ϥh,cons k,
ϥi a,dC m a=none,
ϥj,Yk P w,
ϥk,D.nx a,
ϥl,T.nw a,
ϥm,DW M X,
ϥn,uY p q,
ϥo b,λa o q=>b,
ϥp,S _ _,
ϥq,fa ρ,
ϥr,fb ρ,
ϥs,h _ _,
ϥt a,iN.mpr a,
ϥu,aa 8,
ϥv,iL K,
ϥw,j+1+i,
ϥx,Y4 Q,
ϥy a,fs.map a,
ϥz b,b a=none,
ϥA,aa 6,
ϥB,gQ _,
ϥC,k b u,
ϥD,PGs X,
ϥE,s[j]?,
ϥF,q.1=k,
ϥG,K88 h,
ϥH,qU pt,
ϥI,H6 bs,
ϥJ a,bindArgs (fnOf x x (fC T) (cU T) (ag T) .none kV doc pm an c ct) ⟨a,[]⟩=pure (ps.zip a),
ϥK a b,⟨a,I.os,I.bare,I.base,I.loc,I.cell,I.free,I.Xj,b,I.Uf,I.len⟩,
ϥL,eF "Easel" "settle" 8 0 bq,
ϥM a b c,a (·.1)=b (·.1)->B1 K F (a (·.2)) (b (·.2))->c,
ϥN,dY (W4 us bs 0) us.length,
ϥO a,T0.val d1.fh (T0.pre d1 a),
ϥP a,I.turned (t':=s.toks) (λb o B e=>a) g j,
ϥQ,tb nm=true->Cls M.K C/\e8 M.K C f,
ϥR,(apos.endLine==cpos.line)=true,
ϥS a b,fl2 (a b (h x) (h e) p) fl (h d),
ϥT,["_law_state","_law_deed"],
ϥU a,(by let q:=a;rw[qE]at q;show q),
ϥV,(show False from r).elim,
ϥW a,wpAny _ A.in1 (a >>=_) _ _,
ϥX,λ_ _ _ _ _ _ _=>rfl,
ϥY a,HT.X0 a a,
ϥZ,behindInMarks op b,
ϥ0,.ok (rj 0 j.toNat),
ϥ1,["rows","numbers"],
ϥ2,G2 P w K mg base J,
ϥ3,h2 (S2[i]?.getD 0),
ϥ4,SetTable.below xs,
ϥ5 a b,fX (cB a) (Rm b),
ϥ6,k==NameKind.free,
ϥ7,Ext.refl S.same,
ϥ8,replicate m none,
ϥ9,(ns.idxOf z:Nat),
Ϧa,tD M X.N.length,
Ϧb,λ_ _ _=>False,
Ϧc,qG (e:=e) (p:=p),
Ϧd,upd h a,
Ϧe,attributeBase o,
Ϧf,λe S f=>f.elim,
Ϧg,(by kernel_rfl),
Ϧh,sbO us ch fl,
Ϧi a b,⟨a,(b).l,(b).t⟩,
Ϧj,(h1.same s).sq,
Ϧk,(by split<;>lia),
Ϧl,["tree","gap"],
Ϧm,(ch a).reverse,
Ϧn,ts2.length<=40,
Ϧo,ys.map OD.er,
Ϧp,hgP ts e x,
Ϧq a,(by subst h;show a),
Ϧr a,assign a X.env,
Ϧs a,λA l C P B K=>a,
Ϧt,s.heap.get? a,
Ϧu,⟨rfl,rfl⟩,
Ϧv,λy=>.sh y.er,
Ϧw,y.length+1=np,
Ϧx,s.drop (i+1),
Ϧy a,(by ext rfl;show a),
Ϧz a,DG M a tg is gg,
ϦA,(by simp at e),
ϦB,s.length<=I6,
ϦC,λ_ _ h _=>h,
ϦD,n.map V.int,
ϦE,Xn (·+1),
ϦF a,(by rw[a];show l),
ϦG a,S.same.trans a,
ϦH,swapsWith e,
ϦI,K.In s.heap,
ϦJ,ps.zip us,
ϦK,g x.er y.er,
ϦL,H' b≠none,
ϦM,pA n i b al,
ϦN,lsO #[] 0,
ϦO,(by simp[L]),
ϦP a,∀s H C ex p,a,
ϦQ a b,[(false,a),(false,b)],
ϦR,BP (zs:=zs),
ϦS a b,∀(p:Int)(f:F),a->b,
ϦT,hb hK hM,
ϦU a,(by rw[a];show e),
ϦV a,OkC M (a X.K),
ϦW,gJ I hg M,
ϦX,T.map int,
ϦY,a.lookup x,
ϦZ,H a≠none,
Ϧ0,λo po=>?_,
Ϧ1,i<T.length,
Ϧ2,j<T.length,
Ϧ3,ar bJ,
Ϧ4 a,.Return a pos,
Ϧ5,kf ch fl,
Ϧ6,eB uh,
Ϧ7,ar bF,
Ϧ8,h hK hM,
Ϧ9,mJ fl b c,
ϧa,S.idxOf j,
ϧb,Lp T e i,
ϧc a,IntsAre a ns,
ϧd a,(a:Nat)<1000,
ϧe,e1.hh _ _,
ϧf,W.s1 q,
ϧg,Rep M.K F,
ϧh,Put K F H,
ϧi,fl k=true,
ϧj,λk H=>?_,
ϧk,(h d:Int),
ϧl a,λx a y=>?_,
ϧm e,a::b::c::d::e,
ϧn a,nat (z / a),
ϧo a,R.ok (OD.ol a),
ϧp,.ol aP,
ϧq a,Value.ref a,
ϧr a,us.length=a,
ϧs,.own x,
ϧt,KV L0 vs,
ϧu,eO M n,
ϧv,oB false,
ϧw,sE ts2,
ϧx,full c,
ϧy a,a<=T.length,
ϧz a,.ok (.ret<|a),
ϧA,s++[v],
ϧB a,λx d H Q=>a,
ϧC,out a,
ϧD a,a[i]?.getD,
ϧE,t a H Q,
ϧF,KT H L0,
ϧG,Res M.K,
ϧH,n<=1000,
ϧI,[a,b,c],
ϧJ,Nat->Gc,
ϧK,kS Z5,
ϧL,aW 8 aT,
ϧM,df1 X G,
ϧN a,a<scanBound,
ϧO a,P3 (λw=>z<|a),
ϧP,B p s1,
ϧQ,T1 s i,
ϧR,.ok ds,
ϧS,jJ b k,
ϧT a,Ze (λk _=>a),
ϧU,.dK k,
ϧV a,(a).cps.toList,
ϧW,hi p,
ϧX,f++g,
ϧY,s ρ,
ϧZ,K8d _,
ϧ0,.bl _,
ϧ1,k≠K,
ϧ2,aj 3,
ϧ3,elI T,
ϧ4 a,⟨a,rfl⟩,
ϧ5,dW _,
ϧ6 a b,∀s,s∈a↔b,
ϧ7 a b,zd a b D σ H,
ϧ8,some O,
ϧ9,X.mg x,
Ϩa,Yd X f,
Ϩb,xs[j]?,
Ϩc,a∈fp,
Ϩd,wM _ _,
Ϩe,bj 1 1,
Ϩf,I2 S p,
Ϩg,(N+·),
Ϩh a,a="Easel",
Ϩi a,λh _ i k=>a,
Ϩj,@ite _,
Ϩk,chI T,
Ϩl a,k::l::m::a,
Ϩm a,aV (iEn a),
Ϩn,.bl k,
Ϩo,X8 bs,
Ϩp a,rawInt a,
Ϩq,aj 0,
Ϩr a,Env->R a,
Ϩs a b c d,af a (af b<|af c d),
Ϩt,Q .Re,
Ϩu,dg2 0,
Ϩv,wpAny_callSpecial?_slot (name:=Str.ofString "__next__"),
Ϩw a,W0 k (A.deeper<|envOfC qual a s.heap.objs.size f c),
Ϩx,gJ I hg M boot_range,
Ϩy a,∃q,(q<S.length/\h (S[q]?.getD 0)∈a)/\Up e q s,
Ϩz,k==NameKind.free&&env.scope.kind==.function,
ϨA a b,(a).l=(b).l/\(a).t=(b).t,
ϨB a,⟨F,K9g X G q,F.binds λ_ _ _ _ _ _ us l=>a⟩,
ϨC,OD.oi none "Easel",
ϨD,xA (fl:=fl) (a:=a),
ϨE,["self","elder","place","tree"],
ϨF,["self","node","elder","place"],
ϨG,.Slice none none (some T) p2,
ϨH a b,X.mg=M.mg->a X e (b M X.N.length f),
ϨI,instObj C s.heap.objs.size,
ϨJ a b,match x.er with| .dict L0=>a|_=>b,
ϨK,v_ (apos:=ap) (cpos:=cp) K8F,
ϨL,((ch i).take<|j+1).contains,
ϨM,.pl a [.ol A,.ol B,.ol C],
ϨN a b c,(by let q:=a;rw[r]at q;show b q λ_ _ _ z=>c),
ϨO,∀a H Q,t' a H Q->t a H Q,
ϨP,sJ (g:=g) (fl:=fl) (an:=an),
ϨQ,show false=true from f,
ϨR,((ch i).take j).contains,
ϨS,dY us (h x),
ϨT,(zC2 s.heap l l').get?,
ϨU,nwL ts fl ts2 fl2 R K,
ϨV a,Around.under_plainId a _,
ϨW a,beq_eq_false_iff_ne.mpr a,
ϨX,Heap.SameBut a s.heap,
ϨY,("__classdict__":Str),
ϨZ a b,(by let:=a;rw[b]at this;lia),
Ϩ0 a b,yt tK xj (aj a) b,
Ϩ1 a,λ(x0 x1:Option OD)(r:L3.Env)=>a,
Ϩ2,cellsFrom n names a,
Ϩ3 a,decide_eq_decide.mpr a,
Ϩ4 a,λ_ _ _ _ _ _ _ q=>a q,
Ϩ5,F.cons x s F.nil,
Ϩ6,tupleKind (cy P w),
Ϩ7,I.base.there b o e,
Ϩ8,Z7 K x qual T f fd,
Ϩ9,G3 P w K mg base J,
ϩa a,List.pairwise_map.mpr a,
ϩb,A p s e H _ I h,
ϩc,(by simpa using Y),
ϩd,(by simpa using a),
ϩe a,Calls.spliced_nil a,
ϩf,{s with heap:=d},
ϩg,{s with heap:=H},
ϩh a,fits_of_scanBound a,
ϩi,I.base.free b o,
ϩj a b c,eF "Easel" a b 0 c,
ϩk a,Calls.spliced_cons a,
ϩl,Ey h hs hK hM,
ϩm b c d,I.lset (its':=b) a e c d ?_,
ϩn a,inC a (h x) (h e) p,
ϩo a,s.heap.objs.size+a,
ϩp,λz Z=>Z.pre d1,
ϩq,gI (e:=e) (p:=p),
ϩr a,k _ a a _,
ϩs a,u4 a [] M.E,
ϩt,cy X.prog X.w,
ϩu a,a<s.heap.objs.size,
ϩv,Db->Db->Sem Db,
ϩw,s'.heap.get? b,
ϩx,("NoDeed":Str),
ϩy,X.base.get? b,
ϩz,λi=>d<|H i,
ϩA a,(by let:=a;simp;lia),
ϩB a,gW nY rh a,
ϩC a,(by delta a;simp),
ϩD,λb u e=>?_,
ϩE,zL S.heap H,
ϩF,uk s.heap l,
ϩG,vb fa fb,
ϩH,B1.same e r,
ϩI,B2 g fa fb,
ϩJ,fm ts2,
ϩK a,A.units+a<cLine,
ϩL a,a+ds.length<=I6,
ϩM,Value.bool b,
ϩN,env.kindOf n,
ϩO,IntsAre i ns,
ϩP,tbl.lookup c,
ϩQ,T.take (i+1),
ϩR,nD (Y3 T fl),
ϩS,("tree":Str),
ϩT,("move":Str),
ϩU a,K8D a rfl,
ϩV,s.map OD.sh,
ϩW b,mP M S b (a:=a),
ϩX,vW (p:=p) pt,
ϩY,.ex "NoTree",
ϩZ,keep c o,
ϩ0,s.length<=i,
ϩ1,0<ns.length,
ϩ2,tG M n is,
ϩ3,r1.W3 e1 w1,
ϩ4,u6 i j=true,
ϩ5,free y=true,
ϩ6,("put":Str),
ϩ7,("cut":Str),
ϩ8,ar cA,
ϩ9,Y8.mpr rfl,
Ϫa a b,Rn a (λ_ b zz=>?_),
Ϫb,λc hc=>?_,
Ϫc,λm M=>?_,
Ϫd,chO ch fl,
Ϫe,nB (ch:=ch),
Ϫf,Y3 ts2 fl2,
Ϫg,kf ch2 F2,
Ϫh,eB jP,
Ϫi,eW f y.er,
Ϫj,ar bT,
Ϫk,Un fs ex H,
Ϫl,false=true,
Ϫm,plainGet K,
Ϫn,Env0 P w K,
Ϫo,sp d H Q E,
Ϫp,⟨e,?_⟩,
Ϫq,ar bH,
Ϫr,.W3 o u,
Ϫs,X.wish E,
Ϫt,vs++dvs,
Ϫu,d1.fh _ _,
Ϫv,λk h=>?_,
Ϫw,L.map int,
Ϫx,l.trans e,
Ϫy a,PyData.bool a,
Ϫz,K7j _ Zah,
ϪA,eB qO,
ϪB a,r.own.mono a,
ϪC,PT X a tA,
ϪD,r x y H Q,
ϪE,λc m=>?_,
ϪF,λq h=>?_,
ϪG,(i+1:Nat),
ϪH,seen ts2,
ϪI,ma S.pt H,
ϪJ,I.Xj x c,
ϪK,aC 1,
ϪL,jQ 3,
ϪM a,e1.hh.free a,
ϪN a,ts.length<=a,
ϪO,.own a,
ϪP,.bl true,
ϪQ,Gc×Gc,
ϪR,.ol zs,
ϪS,i∈ns,
ϪT,jQ 2,
ϪU,qJ I hg,
ϪV,xs++[y],
ϪW,nD (ch a),
ϪX,lt s M,
ϪY a,valueAt a k,
ϪZ a b c,(by rw[a,b,c];lia),
Ϫ0,W0 (k+1),
Ϫ1,us++ds,
Ϫ2,I.Uf p _,
Ϫ3,I.lstM a,
Ϫ4,erase b,
Ϫ5,Y7 K F H,
Ϫ6,H.get? c,
Ϫ7,B.get? b,
Ϫ8,DB M X f,
Ϫ9,nm.mem q,
ϫa,W.good g,
ϫb,Xn not,
ϫc a,Fq (wpAny_rule<|a),
ϫd,a++[y],
ϫe,wV T fl,
ϫf,A pos,
ϫg,v::vs,
ϫh,S.ext E,
ϫi,xX M n,
ϫj,Wv n ch,
ϫk,range m,
ϫl,j=h x,
ϫm,oS ts e,
ϫn,K c o,
ϫo,A p s,
ϫp,B2 gGt,
ϫq,range i,
ϫr a,λb B=>(a).1,
ϫs a,a=us.length,
ϫt,PG X tg,
ϫu,r x H Q,
ϫv,vals1 r,
ϫw,Cls K C,
ϫx,AL al m,
ϫy,Za.mp H,
ϫz,roots f,
ϫA,n.e=-1,
ϫB,(L:Int),
ϫC,aW 4 aO,
ϫD a,a x y=true,
ϫE c,∃a b:Int,c,
ϫF,o8 hi,
ϫG,bN us,
ϫH a,Q (.bl<|a) H,
ϫI,ak us,
ϫJ,zi us,
ϫK,bZ _ _,
ϫL a,λi x H=>a,
ϫM,aj 5,
ϫN a,e.trans a,
ϫO a,λj q Q=>a,
ϫP a b c d e f g,(λoe Zq=>by apply a;show(da ⟨b,P0,Zq⟩ (λ_ h=>h.1) rfl (Or.inl rfl) rfl T.t4 rfl T.tk c);show(da ⟨b,P0,Zq⟩ (λ_ h=>h.1) rfl (Or.inl rfl) rfl T.t4 rfl T.tj d);show(da ⟨b,P0,Zq⟩ (λ_ h=>h.1) rfl (Or.inl rfl) rfl T.t4 rfl T.tl e);show(da ⟨b,P0,Zq⟩ (λ_ h=>h.1) rfl (Or.inl rfl) rfl T.t4 rfl T.tm f);show(vq ⟨b,P0,Zq⟩ (λ_ h=>h.1) rfl (Or.inl rfl) rfl T.t4 rfl T.t0 iO g)),
ϫQ,oK (mU _ rfl rfl) tR rfl T.t7 PyProof.Rows.boot_max,
ϫR,["_law_state","_law_elder","_law_place","_law_many","_law_height_here","_law_held"],
ϫS a,(assignEach [a] X.env).map (·.2)=[assign a X.env],
ϫT,(W7.mp m).elim (λe=>e▸⟨_,h⟩),
ϫU,Fq (m:=Builtin.Tuple.tupleExact _),
ϫV a b,(λr m=>by let q:=a;rw[r]at q;exactλD0 s σ H R' I z=>q D0 s σ H R' I<|b z),
ϫW a,Ref us ts ch h fl g an a\/Acc us ts ch h fl g an a,
ϫX,(show i.toArray.any (eqU x)=i.any (eqU x)by simp),
ϫY,T="int"\/T="bool"\/T="str"\/T="list"\/T="tuple",
ϫZ,@decide_eq_true_iff _,
ϫ0,λu σ2 H2 s2 sm J ru=>hq u σ2 H2 s2 sm J ru,
ϫ1,["_law_elder","_law_label_here","_law_tall"],
ϫ2,(λw W=>pW R f r fs w<|by simpa using W),
ϫ3 a,sT (i:=2) (j:=3) (k:=a) hca hfr bL.nd rfl rfl,
ϫ4,b∈X.ex\/X.s₀.heap.objs.size<=b,
ϫ5 a,(a).take p++x::(a).drop p,
ϫ6,["tree","elder","children","place"],
ϫ7,X6 el (g (.sh<|m x) ρ0)=.ok (y x),
ϫ8 a b,λ_ _=>Y1 a λ_ _ _ h=>d_c (λ_ _=>b) h,
ϫ9,t.toArray.size+i.toArray.size,
Ϭa,(P.ext e1).mono (λb B=>B.pre e1),
Ϭb,(T.drop<|j+1).takeWhile (inB j),
Ϭc,(z*48271+k*7919)%2147483647,
Ϭd a b,(by subst z;let(o,q):=a;rw[b]at q;cases q),
Ϭe a,if neg then ! a else a,
Ϭf,aV it gg ta el own.length,
Ϭg a b,(a λc=>if c.1=k then b else c).map,
Ϭh,(λv z=>by rw[d]at z;cases z),
Ϭi,(by rw[e];show True.intro),
Ϭj a,(by simp at e;subst e;show a),
Ϭk,.Compare a [op] [b] pos,
Ϭl,Value.ref l==Value.none,
Ϭm,∃k,(k<m/\P k)/\Up e k s,
Ϭn a b,vz a (lC hr) (aj b),
Ϭo a,(by cases op<;>first|rfl|show a),
Ϭp a,(by delta nD iL;rw[a,a];rfl),
Ϭq,{s with heap:=c,toks:=tk},
Ϭr,∀n∈T,n.l.length<=1000,
Ϭs a b,Turn P w K tg a [it] it (λi h=>b),
Ϭt,(by simp only[Ys]<;>lia),
Ϭu,λx P v c d X e1 r w=>?_,
Ϭv a b c,T0.val a (T0.pre b c),
Ϭw,relayAll t1 S,
Ϭx,∀j∈is,j<own.length,
Ϭy a b c,∃p y,a/\(Xa b H p y\/Yr b H p y)/\c,
Ϭz,ys.length+zs.length<=I6,
ϬA,(I2 bs<|q-N).map (N+·),
ϬB,if j<i then j else i,
ϬC,SetTable.below t.place,
ϬD,T++wc T.length (n::r),
ϬE,λz=>(C _ z).2.1 rfl,
ϬF,⟨.bl _,H,I,rfl,?_⟩,
ϬG,(by delta Lx;rw[hL];rfl),
ϬH,Xp ts g fl,
ϬI,Zd (K8i _ _),
ϬJ,.UnaryOp .Not a pos,
ϬK,K7v ?_ (by size_fits),
ϬL,(by rw[F.pre];simp[m]),
ϬM,mvC ch (h x) (h e) p,
ϬN,Wv T.length,
ϬO,Yd X (compareOp op) r,
ϬP,Ps ⟨_,rfl,Ps h⟩,
ϬQ,["self","tree","gap"],
ϬR,flP us.length fl,
ϬS a,λ_ _ _ _ _ T h=>a T h,
ϬT b,(by let(F,a,f,S,p):=h;show b),
ϬU a,(by delta a;rw[T2,h];rfl),
ϬV,(by rw[pre];show P0),
ϬW,∃t,u=Value.int i t,
ϬX,(by rw[pre];simp[m]),
ϬY,(by simpa using hi),
ϬZ,(by rw[pre];simp[J]),
Ϭ0,isTrue e X.env,
Ϭ1,ps.length<=N.length,
Ϭ2,sc.names.lookup x.1,
Ϭ3,SeqAt.shaped d=true,
Ϭ4,tS M X.N.length f,
Ϭ5,R.length=ts2.length,
Ϭ6 a,Xn (List.map a),
Ϭ7,he p s a H _ I h,
Ϭ8,(by simpa using U),
Ϭ9,I.laid (t':=s.toks),
ϭa a,λb H' s k V X c o=>a,
ϭb a,Fq (K8e g d (x:=a) rfl ?_),
ϭc,env.cells.lookup x,
ϭd,d.length=xs.length,
ϭe,e1.ff _ _,
ϭf a,K8T a I.Zj True.intro,
ϭg c,(c a:Key)=c b,
ϭh,(by rw[r];show B),
ϭi,I.base.slot b o e,
ϭj,(by simpa using b),
ϭk,{s' with heap:=g},
ϭl,T.length=O.length,
ϭm a,(a λe=>vI e.2).Perm,
ϭn,(p,w)::P.zip d,
ϭo a,λx P v c b X e1 r w=>a,
ϭp,V.int k=V.int K,
ϭq,X.A.handled=none,
ϭr,{s with heap:=f},
ϭs,IsRange.new ..,
ϭt,{s with heap:=c},
ϭu,{s with heap:=h},
ϭv a,s1.heap.objs.size+a,
ϭw,k+outs.length,
ϭx,λy=>Ac ds y.er,
ϭy,λp=>flat p.2,
ϭz,λk=>!b&&fl k,
ϭA a b c,a<=b/\b<=c,
ϭB,Yr.of (s _ _ h1),
ϭC,e1.Wy.trans K,
ϭD,{X with xe:=xe},
ϭE,o8 (i:=3) rfl,
ϭF,t.set i,
ϭG,hgN ts.length,
ϭH a,(by simp[a,K8p,e']),
ϭI a,Rn a (λu s1 zz=>?_),
ϭJ,(X0 n 0 l:Nat),
ϭK,X.env.kindOf n,
ϭL,["_law_found"],
ϭM,chI T (i+1+1),
ϭN,("unfold":Str),
ϭO a,Rn a (λr s4 zz=>?_),
ϭP,getItem v,
ϭQ a,λi H x H'=>H'=H/\a,
ϭR a,plainId_quiet a _,
ϭS,es.size > 1,
ϭT,97<=c/\c<=122,
ϭU,xs.set c,
ϭV,x.set j,
ϭW a,λx h=>∃c,x=.bl c/\a,
ϭX,ds.length<=I6,
ϭY,[b1,b2,b3,b4],
ϭZ,c<=way.length,
ϭ0,kA "NoDeed",
ϭ1,("folds":Str),
ϭ2,A.length<=200,
ϭ3,Xp T g fl an,
ϭ4 a,(by cases a<;>rfl),
ϭ5 a,setFlight a none,
ϭ6,ns.take (i+1),
ϭ7,aK T g fl an,
ϭ8,ctC ch,
ϭ9,W_ r ta tb,
Ϯa,W.down g hc,
Ϯb,BindsTo s fd,
Ϯc,ns.length<=n,
Ϯd,T0 M F1 H1 Q,
Ϯe,s4.trans K,
Ϯf,L0.length<I6,
Ϯg,zB2 s.heap l,
Ϯh,al ρ=.ok ys,
Ϯi,("fold":Str),
Ϯj,nm.eld x d X,
Ϯk a,(by rw[y];show a),
Ϯl a,o4 a scope outs,
Ϯm a,(by rw[L];show a),
Ϯn a,(by rw[r];show a),
Ϯo,Zd I.ok.bsz,
Ϯp,s.keep a o,
Ϯq,st.map int,
Ϯr a,X6 (λs=>a) (r ρ),
Ϯs,s.length+1,
Ϯt,S.nm.inj q,
Ϯu a,dW (z / a),
Ϯv a b,(by rw[a,b];show l),
Ϯw,fs.lookup f,
Ϯx,vo X D0 H b,
Ϯy,Vals dvs ds,
Ϯz,⟨t,rfl⟩,
ϮA,⟨K,m,E⟩,
ϮB,Option Bool,
ϮC,replicate n,
ϮD,λb o z=>?_,
ϮE,λb o B=>?_,
ϮF,Kz n s.heap,
ϮG,λp=>kV p.1,
ϮH,("gap":Str),
ϮI,j<ts.length,
ϮJ,nm.kid e he,
ϮK,bs.idxOf b,
ϮL,7919*k+5,
ϮM,nm="cut",
ϮN a,⟨_,a,rfl,rfl⟩,
ϮO,.bl false,
ϮP,Xl T ch fl,
ϮQ a,λs H C ex n=>a,
ϮR,cne y c e,
ϮS,.sh (m x),
ϮT,dq o C ss,
ϮU a b,dk (ag a) b [0,1],
ϮV,putK L0 k,
ϮW,nm.lt e he,
ϮX,Xn some,
ϮY a b,cD hL a b ?_ ?_,
ϮZ,λ_ _ x=>x,
Ϯ0,K.lookup a,
Ϯ1,j<s.length,
Ϯ2,OD.ers xs,
Ϯ3,Ext.refl m,
Ϯ4,e.hh _ _ q,
Ϯ5,x.length=1,
Ϯ6,ns.erase m,
Ϯ7,x<T.length,
Ϯ8,q<S.length,
Ϯ9 a,∀p∈a,p.1≠b,
ϯa,ar ba,
ϯb a,DE M a elt el,
ϯc a,DF M a ifs ta,
ϯd,T.obj _ _,
ϯe,Str×Db,
ϯf,lG ds es,
ϯg,Str×α,
ϯh,u7 x r.1,
ϯi,key _ _ _,
ϯj a,F.Xw a (-1) f,
ϯk a,backTo a,
ϯl,s.drop i,
ϯm,ns++[n],
ϯn,i<ln O j,
ϯo b,∀a∈g1++g2,b,
ϯp a,show a from rfl,
ϯq,G b o B e,
ϯr,I.tuple a,
ϯs,pure true,
ϯt,qM L0 k,
ϯu,Af I.Uf e,
ϯv,Be I.Uf e,
ϯw,PPs X pos,
ϯx,r.same e,
ϯy,r_ S.same,
ϯz,λd D=>?_,
ϯA,P σ G2 _,
ϯB,JW (hg h),
ϯC,l<n/\l'<n,
ϯD,Env×OD,
ϯE,Array Nat,
ϯF,Int×Int,
ϯG,(1+i:Nat),
ϯH,e8 K J.j0,
ϯI,o++F.cQ f,
ϯJ,OkF ts fl,
ϯK,rest T x,
ϯL,R.idxOf j,
ϯM,aC 8,
ϯN,aC 9,
ϯO a,Zt (Xq a),
ϯP,trk h H,
ϯQ,he p s,
ϯR,EV rfl,
ϯS,b0::Zu,
ϯT,S.2 _,
ϯU,oN 2,
ϯV,ih (i:=i),
ϯW,tGs M n,
ϯX,xn n ns,
ϯY,yJ n ns,
ϯZ,L.map m,
ϯ0,putD L0,
ϯ1,CU (i:=i),
ϯ2,X4.mp h,
ϯ3,oN 5,
ϯ4,ae fa,
ϯ5 a,show a from n,
ϯ6,RelV p.2,
ϯ7,cy P w,
ϯ8,b∉X.fs,
ϯ9,id I.loc,
όa,J.stop i,
όb,I.Uf a _,
όc,codeIn K,
όd,I.list a,
όe,Sem Bool,
όf,xm H a y,
όg,α->R β,
όh,erase a,
όi,sQ s R e,
όj,B1.len R,
όk,IsPair h,
όl,h.get? c,
όm,qH T.1 _,
όn,H.2 c hc,
όo,Pf n e c,
όp,DrR T Rs,
όq,A.ch p g,
όr,nm.kid k,
όs,AY pt he,
όt,bN bs j,
όu,yK S H E,
όv a,Str.ofString a,
όw a,us.length<=a,
όx,eqV y x,
όy,q::qs,
όz,L2.jV f,
όA a,a=ns.length,
όB a,λq m=>h q a,
όC a,dw P w a h',
όD b,Yr b H a xs,
όE a,rB ts a b k,
όF a,∃G,PT a G,
όG a,Ext.alloc a,
όH a,R.length<=a,
όI,jB 3,
όJ,kD p.1,
όK a,⟨I.ok.mod,I.ok.kind,I.ok.glob,I.ok.blt,I.ok.above,I.ok.inj,I.ok.has,I.ok.cab,a,I.ok.frames,I.ok.stk,I.ok.exf,I.ok.bs,I.ok.bsz,I.ok.noex,I.ok.exfs,I.ok.Yo,I.ok.frf⟩,
όL c d,List.pairwise_map.mpr ((nA c _).imp_of_mem fun{a b} ha hb hab e=>hab<|d a b (cW ha) (cW hb) e),
όM,["_law_state","_law_sight","_law_anew_here","_law_ahead","_law_now","_law_boughs"],
όN b,e.nw a (let⟨_,q⟩:=b a m;bw q),
όO,["_law_script","_law_start_here","_law_many","_law_most","_law_deep"],
όP a,L.Nodup/\(∀m,m∈L↔Rch (kf ch fl) (h x) m)/\L.length<=40/\a,
όQ,λb H' s k V X c o=>Sc.yes (f:=c) (g:=g0) o<|r.mono s k,
όR,E9 PySem.F.slot_list_append PySem.F.type_list_append mz,
όS,wy CX P w K m base N qual scope f c A outer s H E,
όT,Value.builtin "BaseException.__getattribute__",
όU,F.run A outer s H args us d Q E,
όV,T.hasType PySem.F.excBase_ValueError.hasBase,
όW,upd (upd a d<|.own x) x,
όX a b,.handlers a [.ExceptHandler none b (b0::Zu) Zk] X.env,
όY,W_ (oX M.K) (cx 1),
όZ,["_law_state","_law_sight","_law_touched"],
ό0 a b,wy a P w K b base N qual (ag T) f c A outer s H E,
ό1,λp s a H Q I q=>h p s a H Q I<|k a H Q q,
ό2,(I.Uf b u e).Yb (λc v hc q=>k c v ?_ q),
ό3,["_law_number","_law_size","_law_kinds"],
ό4,λd f H' p a b=>h d f H' p a<|s.trans b,
ό5 a b,(0<a+b/\a+b<1073741824)=True,
ό6,0<=m/\m<=zs.length/\zs.length<1000000,
ό7 a b,h.rec (motive_1:=λv d _=>a) (motive_2:=λv d _=>b),
ό8,oO (fs.lookup f),
ό9,fnOf x qual (fC st) (cU st) (ag st),
ύa,["self","changed","folds","touched"],
ύb,Tk K g (bj ps.length N.length body),
ύc,∃d,KV L0 d/\h.DictOf (cy P w) a d,
ύd a,AG rfl T.te (aj a),
ύe,λi x H=>⟨(a i x H).1,λh=>?_⟩,
ύf,(ns.take i).foldl step_dedup [],
ύg a,K8e o d (x:=a) rfl,
ύh a b,df4 X G a b rfl (λ_ _ _ _ _ _ _ _ _ _=>rfl),
ύi,["_law_state","_law_all_of_them"],
ύj,(by rw[rangeSize_one];split<;>lia),
ύk,0<=i/\i<=65536/\0<=j/\j<=65536,
ύl,["tree","elder","place","other"],
ύm,["tree","node","elder","place"],
ύn,tY us ch fl nm.mem nm.eu nm.len,
ύo a,(by delta bN;rw[a h];show(rfl,rfl)),
ύp,λz pz u F1 H1 fz e1 r1 w1=>?_,
ύq,List.pairwise_iff_getElem.mp R,
ύr,List.pairwise_iff_getElem.mp W,
ύs,(by let(_,_,_,_,rfl):=ex4 a;rfl),
ύt b c,(λa z m=>by let(o,u):=b;rw[c]at u;cases u),
ύu a,(by delta lG;rw[K1,Zas,a,K1];lia),
ύv a,swappedStores [a] e X.env=pure none,
ύw,List.foldl (λx1 x2=>x1++x2),
ύx,h c A outer s H E hr rfl rfl,
ύy a,swapsWithSole [a] e pos.line X.env,
ύz,I.laid (a:=s.heap.objs.size),
ύA,["_law_number","_law_most"],
ύB,["_law_easel","_law_sight"],
ύC,bs.set 2 ⟨x.e,x.l,9⟩,
ύD,DI M X (.Tuple ts tk tpos),
ύE,(by let(_,_,rfl):=ex2 a;rfl),
ύF,T=U\/(U="bool"/\T="int"),
ύG,beq_eq_false_iff_ne.mpr h,
ύH,["outlines","gap","last"],
ύI a b,(k=0->a=-1)/\(0<k->0<=a)/\b,
ύJ,F.len d H Q E,
ύK,z.sameBut S,
ύL,["_law_script","_law_k"],
ύM,["tree","places","unit"],
ύN,(by let(_,rfl):=ex1 a;rfl),
ύO a b,HasM X.prog X.w a b X.base CX k,
ύP,s.heap.FunFrames X.base,
ύQ,sliceBounds l hi none n,
ύR,i.toArray.size*k.toNat,
ύS b,show b a t.toArray from p,
ύT b c d,∃a,b/\(∃s,c K h a s)/\R (d K a) h,
ύU a,SI w a S I es ep t fp vs i,
ύV a,X.env.scope.names.lookup a,
ύW,tupleKind_room_in1 U,
ύX,u_ n' i b al w s1 s2,
ύY,Obj.mapSeq (·.pop),
ύZ,(by rw[kd_len];show u),
ύ0,T0.val S.same p,
ύ1,I.mod.glob.keeps I.bk,
ύ2,letOwnedTupleGo tg,
ύ3,if k then 1 else 0,
ύ4,ObjM s.heap x dx C mA,
ύ5,x.length+y.length<=I6,
ύ6,["one","other","gap"],
ύ7,["outlines","stands"],
ύ8,r.1.set j,
ύ9 a,List.pairwise_cons.mpr a,
ώa a,List.mem_filterMap.mpr a,
ώb a,(by delta a;rw[Yg,X4,Yz]),
ώc,∃t,u=Value.str x t,
ώd,storeName X.env x,
ώe,scope.names.lookup y,
ώf,d.params.defaults=[],
ώg,Code.quiet_builtin _,
ώh,λy c H' g i o z=>?_,
ώi,sbO Z0 ch2 F2 (h2 s),
ώj,P _ G1 g d1,
ώk,pushCells_keeps _ _,
ώl a b c,(by let:=a;rw[b,b]at this;show c),
ώm,base.Ns mainGlobals,
ώn,c.kept (t':=s1.toks),
ώo,b=s1.heap.objs.size,
ώp,0<j/\j<1073741824,
ώq,W1 deep.toNat T way,
ώr,["changed","folds"],
ώs,(by rw[m];show hi),
ώt,I.base.keep b o e,
ώu,I.ok.cab x c N hc,
ώv,nd.idxOf_getElem i,
ώw,rule i j t T s _ _,
ώx,hasDictIn K C=true,
ώy,env.cells.lookup n,
ώz,(h1.same d1.fh).sq,
ώA,A.in1.handled=none,
ώB,["_law_tree_here"],
ώC,G4 P w K mg base J,
ώD,G7 P w K mg base J,
ώE a b c,match a with|some ds=>b|none=>c,
ώF,(by rw[w];show P0),
ώG,upd j B,
ώH a b,Y6 X (a++b) scope s H C ex n,
ώI a,wpAny_updateSeq (s:=a),
ώJ a,∃as,a s.heap u d as,
ώK,attributeBase e f,
ώL,T1 z.cps.toList i,
ώM,λi G H' s1 m=>?_,
ώN,IntsAre.length hi,
ώO,e.length=O.length,
ώP,K.contains j=true,
ώQ,dc (e:=e) (p:=p) pt,
ώR,s1.trans m,
ώS b,λa H R=>t a H λd h=>b,
ώT a b,zA ns a b b,
ώU,putK k p.1 p.2,
ώV a,W_ (oX M.K) a,
ώW a,λc hc=>(a).2 c<|neN hc,
ώX a,excIn a D vE vN=true,
ώY a,excIn a C vE vN=true,
ώZ a,(by cases r;show(_,a)),
ώ0,I.ok.noex b o e,
ώ1,beq_iff_eq.mpr h,
ώ2,(by simpa using d),
ώ3,tBM M.K "list",
ώ4,tI M X.N.length,
ώ5,s.heap.IsTuple l,
ώ6,(by simpa using M),
ώ7,["tree","nodes"],
ώ8,["tree","folds"],
ώ9,λk=>R.idxOf k,
Ϗa,Nat.succ.inj h,
Ϗb,ys.set j,
Ϗc,instObj C dx,
Ϗd,(zL h H).get? b,
Ϗe,⟨v,H,I,r,h⟩,
Ϗf,s.heap.update p,
Ϗg,ae a (ae b ai),
Ϗh,IsB true s.heap,
Ϗi,["_law_script"],
Ϗj,wm (i:=i) p q he,
Ϗk,AS i c k,
Ϗl a,aK a g fl2,
Ϗm a,(by let:=a;simpa using this),
Ϗn a,Calls.evalArgs_plain a,
Ϗo,M b _ q (λz=>z),
Ϗp,d b m c,
Ϗq,stF Rs,
Ϗr,key j _,
Ϗs a,env.cells.lookup a,
Ϗt a,Lx a ts.length e i,
Ϗu,h.objs.size<=a,
Ϗv,X.env.kindOf x,
Ϗw,AllBare s.gens,
Ϗx,λ_ _ _ e=>e,
Ϗy,J.yld i H x H',
Ϗz,lookIn name od,
ϏA,fs.length<1000,
ϏB,CX outer H s E,
ϏC,flat x.er=true,
ϏD,g1++(c++g2),
ϏE,(by cases h;rfl),
ϏF,iR3 fa fb fc,
ϏG,⟨_,rfl,?_⟩,
ϏH,.ExceptHandler,
ϏI,bs.map V.bl,
ϏJ,ds.length<1000,
ϏK,ns.getD i 0,
ϏL,SW w S es ep t,
ϏM,["_law_state"],
ϏN,j=us.length,
ϏO,(by rw[<-m];rfl),
ϏP,d1.hh _ _,
ϏQ,PyData.eqv d,
ϏR,same.trans sm,
ϏS,T.drop (j+1),
ϏT,ptR ts bs e i,
ϏU a b,m=a-i/\i<=a/\b,
ϏV,TP X p a Q,
ϏW,r.append R,
ϏX,n-s.length,
ϏY,Ext.refl s,
ϏZ,b++(f++g'),
Ϗ0,Res.sh .Re,
Ϗ1,lX 4 2 aM aO,
Ϗ2,R[j]?.getD 0,
Ϗ3,N+bs.length,
Ϗ4,Xl Z0 ch2 F2,
Ϗ5 a,is.map (λi=>(a).join),
Ϗ6,F.len _ _ _ _,
Ϗ7,min v.toNat n,
Ϗ8,s.heap.get? p,
Ϗ9,u=Value.ref b,
ϐa,Ext F1 H1 F H,
ϐb,S.heap.get? b,
ϐc,List.lookup c,
ϐd,Z8 (nt q hsw),
ϐe,c<=deep.toNat,
ϐf,p8 (b1:=false),
ϐg,ts.map (·.e),
ϐh,tJ (fl:=fl) nm,
ϐi,I.stkSub b,
ϐj,Txt.mul x n,
ϐk,BU fa fb fc,
ϐl a,seqItems? a >>=_,
ϐm a b,fX (iR1<|a) (Rm b),
ϐn,jQ 14,
ϐo a,qV true a,
ϐp a b d,aL (a (c:=b) 0 d),
ϐq b,λD a H=>te a H b,
ϐr,u=Value.none,
ϐs,env.kindOf x,
ϐt,λ_ _ e=>e,
ϐu,(Za.mp hi).1,
ϐv,T.keep _ _ _,
ϐw,Value.ref C,
ϐx,eval e env,
ϐy,bindL kindOf,
ϐz,bindC kindOf,
ϐA,PySem.call f,
ϐB,sl3 k outs,
ϐC,Y7 M.K F H d,
ϐD,B1.toInts h2,
ϐE,W0 k callerA,
ϐF,False.elim h,
ϐG,Xx ys.length,
ϐH,(by simp[hi]),
ϐI,False.elim R,
ϐJ,tQ fa i fb,
ϐK,zb T out k,
ϐL,ps.map int,
ϐM,("anew":Str),
ϐN,k-ts.length,
ϐO,ts.length+i,
ϐP,W4 us bs 0,
ϐQ,Nm us T ch h,
ϐR,S.nm.inj k,
ϐS,lX 4 i aM aO,
ϐT a,a≠X.env.locals,
ϐU a,(by rw[B];show a),
ϐV a,(by rw[a];show Z),
ϐW a,(by rw[a];show S),
ϐX,.ex "NoPlace",
ϐY a,qV false a,
ϐZ,s4.2 _,
ϐ0,jB 14,
ϐ1 a,aV (iR1 a) (Rm 0) cn,
ϐ2,ar cX,
ϐ3,ar cH,
ϐ4 a,rV (np:=np) (Q:=a) S,
ϐ5 a,mvC a us.length,
ϐ6,(k,x)::r,
ϐ7,h.mono s,
ϐ8,ar fn al,
ϐ9,oJ f d x,
ϑa,(by simp[H]),
ϑb a,(P1.mp a).elim,
ϑc,tn i s.heap,
ϑd,plainOver K,
ϑe,specialIn K,
ϑf,j<xs.length,
ϑg,ns.idxOf z,
ϑh,putK s k v,
ϑi,nN I.Uf G,
ϑj,lQ F1 H1 f,
ϑk,aq M H1 fp1,
ϑl,OkH F H Q,
ϑm,Y.length<I6,
ϑn,Tk K m fn,
ϑo,S ds.length,
ϑp,⟨s,rfl⟩,
ϑq,d2.fh _ _ z,
ϑr,he s H C ex,
ϑs,cY i tb f,
ϑt,qW i tb f,
ϑu,pJ n i b al,
ϑv,(a i x H).2,
ϑw,λd a H=>?_,
ϑx,ts.length-m,
ϑy,Ze (λq _=>?_),
ϑz,i<us.length,
ϑA a,es.toList.map a,
ϑB a,zE (ts:=a) (r:=0),
ϑC a,(by rw[<-l];show a),
ϑD a,Fq (Fq<|wpAny_onRaise<|Fq<|a),
ϑE,f.hh _ _,
ϑF,Bj M.K,
ϑG,eB vd,
ϑH,ar c9,
ϑI,eB Cf,
ϑJ,fm ts,
ϑK,(by simp[J]),
ϑL,lt j q Q,
ϑM,s.new a,
ϑN,upd G T,
ϑO a,wpAny_Name a D,
ϑP a,⟨_,_,rfl,rfl,a⟩,
ϑQ,jV f y fs,
ϑR,start N,
ϑS,_=N.length,
ϑT,K.lookup f,
ϑU,Aw s l hi,
ϑV,Option Nat,
ϑW,Xa K H p s,
ϑX,rIn X.K,
ϑY,MtR X id r,
ϑZ,s.lookup x,
ϑ0,atKey xs k,
ϑ1,g x.er i j,
ϑ2,eB g al,
ϑ3,S.own.Xm a,
ϑ4,i<s.length,
ϑ5,N.length=n,
ϑ6,bo g cn el,
ϑ7,Mq fa fb,
ϑ8,yB i c f,
ϑ9,lQ F H g,
ϒa,ZB t h n l,
ϒb,h''.get? b,
ϒc,kitOne X.K,
ϒd,(xs[j]).er,
ϒe,p<S.length,
ϒf,["number"],
ϒg,i<R.length,
ϒh,Lx T x e p,
ϒi,e<T.length,
ϒj,iW ts e he,
ϒk,W.mem W.s1,
ϒl a,yx a y.er z.er,
ϒm,BR (fl:=fl),
ϒn,hgP T v x,
ϒo,S.nm.lt k,
ϒp a b,Un a b H H' s.heap,
ϒq a b,Zd (a b b),
ϒr,ns.take i,
ϒs,mC rfl,
ϒt,W_ rNe (u4 (spS M.K M.mg fn np n' b) [] M.E<|dB (cx i)<|tA M n al),
ϒu,tZ (ts:=bs) (ks:=Wv bs.length<|I2 bs) (ch:=I2 bs) (λ_=>false),
ϒv,K7s K8Y hit.typeIs PySem.F.entry_tuple_iterator_next ?_,
ϒw a b,∃fd:Fk,(∀(s:Da)(u:Db),BindsTo s fd ⟨[u],[]⟩ [(x,u)])/\∀base:Op,(K w.params).In base->base.Ns mainGlobals m->E2 l.prog w (K w.params) m base a k fa fd [x] b,
ϒx,oK (ug _ rfl rfl) yW rfl T.t8 PyProof.Rows.boot_min,
ϒy f,(by ext p s c H x y v u Q I R Y h;let(d,e,a,b,s1,m,q):=h;let(as,r):=a.reads I R;let(bs,l):=b.reads I Y;show f r l s1 m U ⟨.bl _,H,I,rfl,q⟩),
ϒz,["enumerate","zip","dict_itemiterator","dict_reverseitemiterator","odict_iterator","itertools.zip_longest","itertools.pairwise"].contains n,
ϒA,⟨ok.mod,ok.kind,ok.glob,ok.blt,ok.above,ok.inj,ok.has,ok.cab,ok.hd,ok.frames,ok.stk,ok.exf,ok.bs,ok.bsz,ok.noex,ok.exfs,ok.Yo,ok.frf⟩,
ϒB b,AX (a:=a) (ch:=b) (fl:=fl) (x1:=x1) (x2:=x2) (x3:=x3) (x4:=x4) (x5:=x5) (y:=y),
ϒC,HasM X.prog X.w M.K M.mg X.base CX k mt C f,
ϒD,I.step (g':=s.gens) (d':=s.drawn) (ch:=ch) (λb B=>?_) (λb u _ _ hc e _=>k b u hc e) (λb u _ _ hc e _=>⟨u.slots,k b u hc e⟩),
ϒE a,af (sk a (ag qI) [(6,"later")] [0] ["number"]),
ϒF a b c d e f g,h.rec (motive_1:=a) (motive_2:=b) c d e f g d,
ϒG,⟨λb o e n B f=>?_,λb o e n B f=>?_,I.base.free,λb o e f=>?_,I.base.tups,I.base.frzs,I.base.tbls⟩,
ϒH,pZ (env:=X.env) (x:=x) scope.names [],
ϒI,Fq (m:=firstArgMember _ _) (wpAny_of_eq (a:=Value.none) (by first|rfl|(simp only[firstArgMember];rfl)) ?_),
ϒJ,call_meetsIn PySem.F.slot_dict_get D.typeIs PySem.F.entry_dict_get (PySem.F.args_dict_get_2 _ _),
ϒK b,K8I (h₀:=X.base) I.ok.mod.kin b (Rn (A pos i s c H _ I h) λus s1⟨v,g,a,r,q⟩=>⟨a.Zj,?_⟩) he l,
ϒL,X.env.scope.kind==.class||(X.env.scope.kind==.module&&X.env.locals !=X.env.globals),
ϒM,(λk d H=>by let(j,rfl,c,f,a,b,ab):=g3 k d H;simp![uu c,(xt Q f).1,ab];show(_,rfl)),
ϒN,Rn (A pos i s a H _ I h) (λus s1⟨V,b,c,R,q⟩=>hc i s1 a b V us Q c R q),
ϒO,Calls.callWith_builtin rfl,
ϒP a b d,(λh _ i _ r=>by cases r;let(T,R,p,Z):=a h;let(as,A):=i _ R;let(o,e,c,n,D):=b;show(_,d)),
ϒQ,AutoSeq1.list_extend_list_list_0 l t.toArray n b i.toArray N o,
ϒR,PySem.W.methodCall_KW (pl:=pl) (Rn (he p s c H _ I h) λu s1 zz=>?_) j,
ϒS,⟨d,D,(R.same s).to2<|K8W a,(Y.same s).to2<|K8W b,a,b,okB s q⟩,
ϒT,upd a s1.heap.objs.size,
ϒU,gW vJ yR (mC rfl T.th),
ϒV a,dQ (b.trans (fO a).symm) c,
ϒW a,(λ_ _ _ _ c=>by delta a at c;rw[PyData.canLay0]at c;cases c),
ϒX,yX (kd:=HO.lst) (mk:=OD.pl l) ha hv nd fr hc (λ_ _ _ _ _ q r=>.pl q r),
ϒY a b,S.os=s.os/\AllBare S.gens/\Un (Yp outer) [] H H' s.heap S.heap/\Yk P w H' S.heap/\a/\b,
ϒZ a b,(by ext p s d H Q I h;show a<|RF A B I h λv u m x y c f R Y q=>b),
ϒ0,E9 (r:=AI M.K) PySem.F.slot_list_extend PySem.F.type_list_extend,
ϒ1,U="int"\/U="bool"\/U="str"\/U="list"\/U="tuple"\/U="NoneType",
ϒ2 a,cN JU (λ_=>Hb) (aj a) Cn,
ϒ3,ao h (ao k aI S) c,
ϒ4 a b,Hu (apos:=a) (cpos:=b) K8F PySem.F.slot_list_pop PySem.F.type_list_pop IF,
ϒ5,fnOf name qual params body scope D kV doc pm an c ct,
ϒ6,(by simp only[P1]at z⊢;rcases z with z|z<;>simp[z]),
ϒ7,h i true S P T s1 n,
ϒ8,(by rcases elt (aH q) J with⟨w,z⟩|⟨i,w,z⟩<;>lia),
ϒ9 a b,Heap.get?_update_other a b,
ϓa,IW rfl T.te (aj 0),
ϓb,h p s a H v u Q I r,
ϓc,(λv z=>by let Z:Data.fields _=Data.cell v:=z;cases Z),
ϓd,wy CX P w K M base N qual scope f cd A outer s H E,
ϓe,Jd (fun{F H ρ fp zs P b us g Q} S hb ow pp K=>?_) h,
ϓf,J2 (m:=m) (λk H=>by let(_,_,_,_,h):=g k H;show h) u f,
ϓg,(by let:=B.ft;simp[SetTable.fits]at this;show this.1),
ϓh,["_law_state","_law_node","_law_found","_law_left"],
ϓi,(by let nd:=S.nd;simp only[Ya]at nd;show nd.2.1.1),
ϓj,Fq (m:=newObj _ _),
ϓk,Pk M.K "list" QI,
ϓl,OldK S.heap c.heap/\c.os=S.os/\AllBare c.gens,
ϓm,zs.take m.toNat++.sh y.er::zs.drop m.toNat,
ϓn b,λ⟨k,a,u⟩=>⟨k,⟨a.1,(h k a.1).b a.2⟩,u⟩,
ϓo a,(by let(t,e):=Value.isStrOf_shape (x:=x) (v:=v) h;show a),
ϓp,t {nx:=λ_ H'=>Q .Re H',rt:=Q} (start N d) H,
ϓq,(λz h=>by simp at h;rw[h];show Int.le_refl _),
ϓr a,a*a%2147483629,
ϓs a,(wy W9 P w K m base N qual a f c A outer s H E).nox,
ϓt a,u6 a a=true,
ϓu a,(by let(t,e):=Value.isInt_shape (k:=i) (v:=v) h;show a),
ϓv b,⟨e.ff,λa o h _=>e.hh a o h,b,λa h _ z=>e.nw a h z⟩,
ϓw,(λa q m z=>T.nw a q (λw=>m<|by simp[w]) z),
ϓx,λp s a H D I q=>h p s a H D I<|k D a H q,
ϓy,[(1,"stands"),(0,"outlines"),(3,"level")],
ϓz a,λA outer s H args us d Q E hr he B v S=>a,
ϓA,po v l C fx a r,
ϓB a b,wpAny_storeSet_of a rfl b,
ϓC a,(∀v,(x,v)∉binds)->a kindOf binds m x=m x,
ϓD c,λs1 x0 x1 x4 x5 m o q B X a p b e=>c,
ϓE,Calls.Name_function_global I.ok.kind hg,
ϓF,(λb u e z=>by rw[(C b z).1]at e;cases e),
ϓG,rz 0 2 (aa 6),
ϓH,(by rw[<-hi.numsOf,<-nums_intItems,<-e]),
ϓI,PySem.F.args_tuple_iterator_next_1 _,
ϓJ a,λm=>let⟨_,q⟩:=w.Xm c m;E.nw c (bw q) a,
ϓK,(λb ps e=>⟨#[],by rw[e];simp⟩),
ϓL,Value.builtin "object.__getattribute__",
ϓM,A0 G hr hg c H B e v a r h d he l,
ϓN,(bC.mp<|(S.nm.mem (h k) lt m).mp f).1,
ϓO,fnOf "law" "law" (fC q_) (cU q_) (ag q_),
ϓP a,{s with heap:=h',gens:=g',drawn:=d',toks:=a},
ϓQ a,oO.some_of (v:=v) (o:=a) (by rw[l];show rel.val k),
ϓR,W.item i s _ _ hg T (λv c tk V S u=>?_),
ϓS,i (by rw[PyData.canLay0]at c;show c),
ϓT,pR (λk H w=>nm.inj k x (bC.mp H).1 X w),
ϓU,SeqAt.list_indexAt a i.toArray n,
ϓV,(by rw[isSubtype_type];kernel_rfl),
ϓW,.yes (f:=[]) (.sh h),
ϓX,Rn (hc p s e H _ I h) (λd s1 zz=>?_),
ϓY,Obj.mapSeq (·.setIfInBounds j u),
ϓZ,(by let b:=L;rw[n,K1,K8t]at b;show b),
ϓ0,.Compare a [.LtE,.Lt] [b,c] pos,
ϓ1,(λq h=>hk q<|by rw[pre];simp[h]),
ϓ2,.oi p "Easel",
ϓ3 a b,ptI a (λe H Q q=>by let(F,d,f,S,p):=BZ q;show b),
ϓ4 a b,sO (Dl Z.k Z.pin Z.ob) g m iC (bz a (bz b fH s) S),
ϓ5,λb u hc e=>⟨u,k b u hc e⟩,
ϓ6,(by rw[dq];ext c C s ss _ h;cases h),
ϓ7,Ye (by delta eA;rw[K1,K8G,aD];lia),
ϓ8,SeqAt.EqAt A s u v,
ϓ9,handleBy e X.env,
ϔa,Rn (A p s b H Q I h) (λc s1 e=>?_),
ϔb,wpAny_getItem_list_slice j.isList,
ϔc,(λL=>(show k<=i by simpa using L)),
ϔd,CompI M F H T Q g t el ρ0 B H1 D,
ϔe,(λh=>by cases k<;>simp[keyOf]at h),
ϔf,(by delta mvH;rw[rR pt q he,H];rfl),
ϔg,zM (ps:=ps) N,
ϔh,zM (ps:=qs) D,
ϔi a b,df6 X G a b rfl (λ_ _ _ _ _ _ _ _ _ _ _ _=>rfl),
ϔj a,ay (λw=>by subst w;rw[a]at z;cases z),
ϔk,wpAny_loadName_local I.ok.kind,
ϔl,tb {D with nx:=N,ct:=N,bk:=D.nx},
ϔm,Builtin.Slice.sliceAdjust l hi 1,
ϔn,λc G k e=>fin i R Z c G k e,
ϔo,∀v a H Q,t' v a H Q->t v a H Q,
ϔp,(by rw[dq];ext c C s ss h;cases h),
ϔq,(by rw[<-R];delta nD iL;rw[Wx,Wx]),
ϔr,po A l C P B,
ϔs,g.way_lt n.e,
ϔt a,(λb ps q=>⟨#[],by rw[ay<|a,q];simp⟩),
ϔu,wpAny_loadName_cell I.ok.kind,
ϔv,((h1.same d2.ff).same d2.fh).sq,
ϔw,(by rw[<-S];show I.ok.frames),
ϔx,List.getElem?_eq_none_iff.mp hL,
ϔy,x.above y c,
ϔz,af (xZ 2 3),
ϔA,kU.get (σ:=r) (σ':=r') (i:=i) (v:=v),
ϔB,List.Pairwise _ t.place.toList,
ϔC,(⟨j,by rw[F.pre];simp[J],b⟩),
ϔD,ax (by delta gD;rw[K1,cL];lia),
ϔE a b,(by rw[<-M];delta nwL;rw[<-e3];show a b),
ϔF a,I.step (g':=s.gens) (d':=s.drawn) (ch:=a),
ϔG,(show i<k by simpa using a),
ϔH,(λm=>by rw[c b m]at B;cases B),
ϔI,⟨Zcr _,fin c c1 K j e he⟩,
ϔJ,List.contains_iff_mem.mpr h,
ϔK,Nat.succ.inj (Nat.succ.inj k),
ϔL,j.pin (b,o),
ϔM,Y.pin (b,o),
ϔN a,(λb u q n _=>by rw[ay<|a];show n),
ϔO a b,(λj q Q=>by rw[c8<|a];delta b;rw[Q];rfl),
ϔP a,Fq (wpAny_setEpoch_of a rfl B.ft ?_),
ϔQ,X.s₀.heap.FunFrames X.base,
ϔR,Builtin.Range.rangeSize l hi,
ϔS,.For tg iter body [] pos,
ϔT,(by ext rfl;rw[a]at z;cases z),
ϔU,ax (by rw[aD,aD,Wu,K93];lia),
ϔV,hgP ts v x,
ϔW a b,(by rw[K99,K99,K8a,K8a];show a h<|b h k),
ϔX c d,∀{a b:Nat},Up e a b->e b=c->Up e a d,
ϔY,⟨z.1,j _ _ z.2.1,z.2.2⟩,
ϔZ,(by subst z;rw[r]at m;show m),
ϔ0,g p m d c x y v u Q f R Y q,
ϔ1,X0 items.size items.size hi,
ϔ2,subscriptTail_builtinR (x:=w),
ϔ3,rawInt s.heap.objs.size,
ϔ4,Zc.mp (List.mem_toArray.mp Y),
ϔ5,ay (λw=>bn<|by rw[<-w];show m),
ϔ6,H.update s.heap.objs.size,
ϔ7,(iL fs).foldl step_dedup [],
ϔ8,xW "Easel" 3 bR,
ϔ9,J8 p q he,
ϕa a,wpAny_execs_cons (Rn a λf s1 q=>?_),
ϕb a,Y1 (a hc g m V hg H (A r h) s S),
ϕc,Rn (h pos p s d H _ I c),
ϕd,(by rw[J];simpa using e),
ϕe,(⟨s.toks+1,by rw[Ys,l]⟩),
ϕf,∀D a H,t' D a H->t D a H,
ϕg,X.env.scope.names.lookup n,
ϕh,.List [c1,c2,c3,c4] p2,
ϕi,lastMarks [.LtE,.Lt] [b,c],
ϕj,X.env.scope.names.lookup y,
ϕk,Fq (wpAny_fieldsOf l rfl ?_),
ϕl,updateSeq s.heap.objs.size,
ϕm,seqObj "list" v.toArray 0,
ϕn,(by rw[K7l]at h;cases h),
ϕo,Os (by delta iL;rw[K1];lia),
ϕp,ou ts h fl ts2 h2 F2 R K i,
ϕq,u.free b o e n,
ϕr,pJ 2 0 bE,
ϕs,vj "tuple",
ϕt b,λa H Q=>to a H λx h=>tyV K T x h/\b,
ϕu a,(by rw[Z_]at r;cases r;show a),
ϕv a,(λv z=>by rw[a]at z;cases z),
ϕw,s.heap.IsSliceOf sl vl vu,
ϕx,subscripted slice false,
ϕy,Y6 X N Zw s H C ex D0,
ϕz,k.map (λK=>(kV K.1,K.2)),
ϕA,e.trans (Ext.alloc s P),
ϕB,⟨?_,A.toList,c,?_,?_⟩,
ϕC,s.heap.IsTupleIter it l i,
ϕD,IsZip h (n+4) (n+2) (n+3),
ϕE,ZB true s.heap n l l' k k,
ϕF,beq_eq_false_iff_ne.mpr F,
ϕG,λv d=>o7 j v σ d D.nx,
ϕH,{s with heap:=a,drawn:=d},
ϕI,{s with heap:=H,drawn:=d},
ϕJ,(by rw[gI pt h];show a),
ϕK,λn N=>(r.ok n N).1.2.1,
ϕL a,PyProof.Rows.callWith_builtin1 a,
ϕM a,Yc a a,
ϕN a,IsRangeIter h it (l+(i:Nat)*a),
ϕO,s.heap.Ns X.env.locals m,
ϕP,.While c body [] pos,
ϕQ,Turn X.prog X.w X.K tg J,
ϕR,a s1.heap.objs.size=none,
ϕS,pure (ForInStep.yield r),
ϕT,newFunctionEnv scope,
ϕU,λx P v c a X e1 r w=>?_,
ϕV,λs P v c d x e1 r w=>?_,
ϕW,λx P v e b j e1 r w=>?_,
ϕX,a=b\/a∈e\/a∈f\/a∈h,
ϕY,PyData.canLayAll0 d=true,
ϕZ,SeqAt.EqAt.bool_bool c b,
ϕ0,(by delta cE iV;simp![S5]),
ϕ1,Def M.K M.mg x T ps f fd,
ϕ2,yP (fl:=F2) W.n2 (p:=p) (s:=s),
ϕ3,Nat.mod_lt _,
ϕ4,qQ 14 8 3 aT,
ϕ5,u.there b o e,
ϕ6,s1.keep a o q,
ϕ7,upd H1 D,
ϕ8,upd H1 b,
ϕ9,upd a b4,
ϖa a,(by ext p s d H Q I h;show a),
ϖb a,(λQ Y=>by rw[a Y q];show A),
ϖc a,DSs ⟨K,g,E⟩ a (cU T) body,
ϖd a,λz H' s x g' q r=>.a q r,
ϖe a,(by delta Yp;rw[K84,f];show a),
ϖf,(by let:n<=i:=hg;lia),
ϖg,List.take_sublist _ _,
ϖh,Heap.IsSliceOf.new ..,
ϖi,PySem.W.WalkO q loose P,
ϖj,(λq=>z (by injection q)),
ϖk,(⟨T[i+1],by simp[I]⟩),
ϖl,ui (g:=g) (fl:=fl) he a l B,
ϖm a,opI (λi j _ _ _ _ _ hc q=>a),
ϖn,B1.take _,
ϖo,go L [] h,
ϖp,up b _ e1,
ϖq,vj "list",
ϖr a,Heap.IsTuple (Shared.heap a),
ϖs,∃t,u=Value.bytes b t,
ϖt,∃t,u=Value.float b t,
ϖu,.BoolOp op [a] pos,
ϖv,if b then 1 else 0,
ϖw,(by simpa[l]using J),
ϖx,λz=>Q<|H.symm.trans z,
ϖy,ZB t s.heap n l l' k k,
ϖz,q::(Y++(f++(Z++[]))),
ϖA,PyProof.Rows.isInt m,
ϖB,(by rw[Xf]at m;show m),
ϖC,SetTable.insertAt xs,
ϖD,SetTable.has t.dummies,
ϖE,IntsAre vs (vs.map vI),
ϖF,S.nm.order S.pt S.l fl,
ϖG,.fresh 0 0,
ϖH,qQ 6 3 0 bS,
ϖI a,M.heap c o a,
ϖJ a,Os (List.contains_iff_mem.mpr<|a),
ϖK a b,if a<0 then r else a+b,
ϖL b,(by ext p s a H D I h;show b),
ϖM a,Builtin.Slice.slicePlaces a,
ϖN a,Option.isSome_iff_exists.mp a,
ϖO a,(by simp![↓oT,↓oF,a,g1]),
ϖP,PySem.W.hideAll_get _,
ϖQ,.BinOp a op b pos,
ϖR,.UnaryOp op a pos,
ϖS,(x,NameKind.free)∈l,
ϖT,-18446744073709551616,
ϖU,a.length+L.length<=I6,
ϖV,z P n s u H _ I h,
ϖW,Obj.data_mapFields d,
ϖX,F.args_zip_next_1 _,
ϖY,wpAny_pyIter_zip Z.zp,
ϖZ,noteFrame e X.env,
ϖ0,Ap (CX:=CX) (k:=k) (E:=M.E),
ϖ1,s.heap.IsList l items,
ϖ2,setNext S slot i ep,
ϖ3,setEntries S >>=_,
ϖ4,(by rw[Wx,hti,K8P];rfl),
ϖ5,P3 (by rw[gP J,w];lia),
ϖ6,(by rw[eX h];show w),
ϖ7,W.go d1 d2 H r i G nn,
ϖ8 a,wpAny_newTuple a,
ϖ9,upd h p,
ϗa,upd O D,
ϗb,upd k b,
ϗc,upd d b,
ϗd,upd c a,
ϗe,e.set j,
ϗf,upd a b,
ϗg,upd s b,
ϗh,vj "str",
ϗi,F.map h,
ϗj a b,Bu (us:=a) (vs:=b) (dvs:=[]) (ds:=[]) F hr B,
ϗk a,Builtin.List.listTooLong a,
ϗl a b,(by ext rfl;rw[a]at b;cases b),
ϗm a,List.contains_iff_mem.mp a,
ϗn,σ.length=X.N.length,
ϗo,.IfExp c a b pos,
ϗp,PIE X D0 σ tg R,
ϗq,Yd X (binaryOp op) r,
ϗr,UnR X (unaryOp op) r,
ϗs,CE outer P w H s Q u,
ϗt,kU.len (σ:=r) (σ':=r'),
ϗu,∀b∈ch,vo X p H b,
ϗv,wpAny_pyIter_enum he,
ϗw,B1 K F' v (OD.ers x),
ϗx,(by rw[T];congr 1;lia),
ϗy,wpAny_setField g d,
ϗz,setFlight e none,
ϗA,behindInMarks .NotEq,
ϗB,Obj.putSet es' t',
ϗC,putSet_of es' t' rfl,
ϗD,intKind_is _ _ _ _,
ϗE,t.place.size=es.size,
ϗF,(by split at hc<;>lia),
ϗG,(by simp![S5];rfl),
ϗH,⟨k,e,p,G,el,rfl⟩,
ϗI,x*48271%2147483647,
ϗJ,insI_perm x,
ϗK,absurd h,
ϗL a,(λh=>by rw[<-b,<-b2];show a),
ϗM b,xD (g:=g) (fl:=b) (an:=an) (a:=a),
ϗN a,a++[fJ a n],
ϗO a,(by delta a;rw[Xb h];rfl),
ϗP,Mod X.K X.mg X.base,
ϗQ,s.heap.objs.size<=a,
ϗR,λj y v' e1 g P=>?_,
ϗS,op==CmpOp.NotIn,
ϗT,O p s a H _ I h,
ϗU,h.IsListIter it a i,
ϗV,L i s g H _ I h,
ϗW,[s1.heap.objs.size],
ϗX,intBits_le_64 H a,
ϗY,rI (λ_ j=>0<j),
ϗZ,(by rw[Ys]<;>lia),
ϗ0,ns.map WData.int,
ϗ1,Zw.names.lookup x.1,
ϗ2,Blk X sc scope outs,
ϗ3,SeqAt.shaped e=true,
ϗ4,wpAny_specialOf t,
ϗ5,O p s b H _ I h,
ϗ6,.Dict [] [] pos,
ϗ7,(by simp at hl;lia),
ϗ8,∀x∈xs,lay n x,
ϗ9,Fq (wpAny_handled ?_),
Ϙa,λz=>⟨z.1,?_⟩,
Ϙb,eO M X.N.length,
Ϙc,(by rw[h];show c),
Ϙd,yH (ds:=[]) (dvs:=[]),
Ϙe,lX n' i fn b al,
Ϙf,ws.length=ys.length,
Ϙg,codeAny_of_tree ?_,
Ϙh,bootBuiltins "sorted",
Ϙi,i=0/\T=[]/\way=[],
Ϙj,(by rw[<-iM];rfl),
Ϙk,xB (fl:=fl) nm pt a H,
Ϙl,⟨false,k,G,rfl⟩,
Ϙm a,wpAny_newList a,
Ϙn,l.set i,
Ϙo a,⟨a,B.el,B.sz,B.ft,B.tb,B.pm⟩,
Ϙp a,aq _ _ _ _ (a x.er y.er),
Ϙq a,(by delta ctH;rw[a];rfl),
Ϙr,λ_ _ _ _ n=>n,
Ϙs,B w p s1 e d Q i q,
Ϙt,Xn Array.toList d1,
Ϙu,i.laid (t':=s1.toks),
Ϙv,typeIs_str s z t,
Ϙw,xs.length=i.length,
Ϙx,i.toArray.size-1,
Ϙy,b<s.heap.objs.size,
Ϙz,(by simpa using A),
ϘA,r.own.W3 (cV r.fr),
ϘB,OkG M n is F H,
ϘC,(by simpa using D),
ϘD,0<=j/\j<=65536,
ϘE,fin=.done (.ret v),
ϘF,o c J (zV hc).1 q,
ϘG,λb z=>(Zh z).symm,
ϘH,⟨rfl,_,sq O d⟩,
ϘI,d1.hh.trans e'.hh,
ϘJ,qQ j n' i b al,
ϘK,set_tail hg B l,
ϘL,C.length=ss.length,
ϘM,[(1,"_law_first")],
ϘN,G5 P w K mg base J,
ϘO,G6 P w K mg base J,
ϘP,G8 P w K mg base J,
ϘQ,(F.mq _).length_eq,
ϘR,(ch2<|h d).isEmpty,
ϘS,S.nm.inj i k hi H,
ϘT b,AH (RR:=λa C=>b) B l hg hc he,
ϘU,.od aP rfl,
ϘV a,Nat.lt_trans a,
ϘW,gK e i,
ϘX,spS M.K M.mg fn,
ϘY,(by simpa using S),
ϘZ,cN (ze hr.units) Dy (gW yO (λ_=>yZ) (AQ (lC hr) (aj 4) (aj 9) λ_ _=>rfl)<|AQ (lC hr) (aj 4) (aj 7) λ_ _=>rfl) (gW yO (λ_=>yZ) (AQ (lC hr) (aj 3) (aj 9) λ_ _=>rfl)<|AQ (lC hr) (aj 3) (aj 7) λ_ _=>rfl),
Ϙ0,aL (sk 7 (ag eE) [(3,"touched"),(4,"before")] [0,1] ["node","number"] (hg:=λ_ _ _ _ _=>dg2 0) (hc:=λ_ _ _ _ _=>zf<|BE<|xT (cN jZ kJ (aj 1) (aj 2) rfl)<|wO<|cN fZ kJ (aj 1) (aj 3) rfl)),
Ϙ1,K7s vy H GB (K8m h (λfin S⟨v,e,q⟩=>⟨v,e,Ps q⟩) λe S⟨t,q⟩=>Fq<|wpAny_isInstance (T:="StopIteration") (b:=true) t isSubtype_stop<|Ps q),
Ϙ2,cN CT (λ_=>DP) (aj 2) (oK yC Js rfl T.t5 PySem.boot_len<|ao (dk (ag fA) [(5,"_law_held")] [0] ["_law_child"]) aI),
Ϙ3,af (sk 4 (ag qA) [(3,"apart")] [0,1] ["ahead","behind"] (hi:=AG rfl T.te (aj 0)<|aj 1) (hg:=λ_ _ _ _ _=>dg2 0)),
Ϙ4,wpAny_Call_method m.base m.few m.line PySem.F.plainAttrs_dict PySem.F.slot_dict_get PySem.F.type_dict_get,
Ϙ5,K7s K7o a F.entry_zip_next (QR d lt.1 Z f (x.resolve_right λz=>nomatch z.1) λh e K he=>?_),
Ϙ6,codeAny_call_function hr.depth (X _ _ G) rfl S.co S.gen rfl (PySem.W.codeRec_of X C),
Ϙ7,List.Pairwise.imp_of_mem (λA B n z=>n<|nm.inj _ _ (bC.mp A).1 (bC.mp B).1 z),
Ϙ8,wpAny_isInstance (T:="StopIteration") (b:=true) ⟨o,O,hc⟩ isSubtype_stop,
Ϙ9,K7s PyProof.Rows.slot_tuple_getitem j.typeIs entry_tuple_getitem ?_,
ϙa,K7s K7o T F.entry_zip_next (Mu lt Z f L X Y λh a b c=>Ps<|H h a b c),
ϙb,I.base.keep b o (I.ok.bs b o e).1 (I.ok.bs b o e).2 (I.ok.nofr e),
ϙc,codeAny_call_builtin PySem.W.KF.slot_gs.plain PySem.W.KF.entry_gs,
ϙd,Fy hg g ((ao h (ao k (ao l aI f) d) S) K m) S e i s j H r I,
ϙe,keep b o (L b o e) B (E b o e h) (I.base.keep b o e n B h),
ϙf,PySem.Challenge.pw_boughdraw_k75_redrawn.main.body.getD i,
ϙg,codeAny_call_builtin FB.ga.plain PySem.F.entry_bexc_ga,
ϙh,cN (ze hr.units) Dy (LN (lC hr) (aj 5)<|aj 7) (aj 8),
ϙi,hg v i j x.er b c f Q y.fh ((k.same E.ff).same y.ff),
ϙj,h s.heap _ es ep t (Heap.SameBut.refl a s.heap) ?_,
ϙk,KH rfl rfl T.tb PyProof.Rows.boot_sorted rfl T.ta,
ϙl,h.elim (c.run A outer s H args us d Q E hr a B v),
ϙm,aL (sk 6 (ag eE) [(1,"changed")] [0] ["number"]),
ϙn,ao (gW vJ yR (N8 I_ (λ_=>Gw)<|mC rfl T.th)<|aj 0),
ϙo,hg v V x.er y.er G2 b f Q d2.fh (k.same d2.ff) K,
ϙp,@decide ((-(2^64)<i/\i<2^64)\/(-(2^64)<j/\j<2^64)),
ϙq,af (sk 5 (ag gw) [(0,"rows")] [0] ["number"]),
ϙr,hg v w d y.er G1 k c _ d1.fh (r.same d1.ff) K,
ϙs,af (sk 5 (ag qI) [(1,"node")] [0] ["child"]),
ϙt,A.out he a b1 (S.length-c) c (A.up p g c hc),
ϙu,cons k (if fl k=true then nil else pr fl c),
ϙv a b,if a then s1 b else Wz b,
ϙw,subscriptTail e (.Slice lo hi none p2) v,
ϙx,MeetsSeq.list_pop_last l i.toArray n u Y,
ϙy,free c o (λz=>(C c z).2.2.1 x c e rfl) g,
ϙz,E_ hg b ((ao h aI S) k m) c i s d H r I,
ϙA,get_map I.Zj O (c.get f) c.hd n U (E0 L),
ϙB,(W7.mp m).elim (λe=>e▸⟨_,h.2.2⟩),
ϙC,hg s H _ fp P _ s5 _ H5 x u _ I5' r5,
ϙD,M6 PySem.F.slot_dict_getitem.lookup S,
ϙE,F5.mono e (f:=f++[]) (by simpa using k),
ϙF,zd (C5 wi g tc te own.length outs),
ϙG,.oi ⟨h.1,h.2.1,k _ P0 _ h.2.2⟩ q,
ϙH,slot b _ (L b o e) B (E b o e h) e1,
ϙI,PySem.list_append l i.toArray n u,
ϙJ,codeAny_compStart_list (loop _ rfl),
ϙK,F5.W3 e (f:=f++[]) (by simpa using k),
ϙL,wpAny_pyIter_slot T F.slot_set_iter,
ϙM,isInt_at z hi j (by simpa using S),
ϙN,.oi ⟨hh.1,hh.2.1,aP⟩ (yp hk),
ϙO,Fq (m:=Builtin.Frozenset.slot0 _ _),
ϙP,BB (g:=g) (an:=an) S.nm.et S.l S.f H,
ϙQ,wpAny_getItem_of (Ab r) D.mapOf w,
ϙR,.ins ⟨h.2.1,k _ P0 _ h.2.2⟩ q,
ϙS,hr a b p m d c x y v u Q f R Y q,
ϙT,wpAny_Call_method_late b f i rfl,
ϙU,wpAny_of_eq (F.newCall_set_1 a),
ϙV,Fq (m:=Builtin.Frozenset.sizeOf _),
ϙW,I.un (Un.laid k p<|I.Uf.fresh p),
ϙX,C b o (un.keep b o q n h x) h,
ϙY,u h c (λa o g r q=>K a o g q),
ϙZ,vD (ts:=us) (x:=h x) (e:=h e) (k:=h q),
ϙ0,nB (n:=us.length) (ch:=ch) (k:=h e),
ϙ1,slot c o (I.cne x c e) hc N g,
ϙ2,PySem.W.findObj_own b a rfl,
ϙ3,Fq (m:=checkCount "sorted" 1 1 _),
ϙ4,Int.fdiv_eq_ediv_of_nonneg i,
ϙ5,Int.fmod_eq_emod_of_nonneg i,
ϙ6,name_of_addr x.apart (K8L m),
ϙ7,K7s F.slot_set_iter T Ly ?_,
ϙ8,wpAny_Call_method0_late b l,
ϙ9,I.ok.inj x y c (sub x c e1),
Ϛa,C b a Q (ns b n<|nb b o q),
Ϛb,hg v x.er G1 a f Q d1.fh k,
Ϛc,hg _ K σ3 C x u _ w r5,
Ϛd,C c v q (λm=>hc<|H c m),
Ϛe,R r.1 g H' l (ka h) C.own,
Ϛf,OG T (PO T Rs T.length).2,
Ϛg,List.set_append_right _ _,
Ϛh,I.un (Un.write m he k h),
Ϛi,Jp (k:=q) (K.same d2.ff) j,
Ϛj,free b O (E b o e h) e1,
Ϛk,PySem.W.set_plain X J g,
Ϛl,s1.nw a (D a m) (G a m),
Ϛm,GQ hr (h k m) (a k m),
Ϛn,Gg (us:=us) (y:=h x) (k:=h q),
Ϛo,NF (e:=e) (p:=p) S.nm H D E,
Ϛp,BN (fl:=fl) S.nm S.pt S.l,
Ϛq,J.base.keep b o q n h,
Ϛr,PySem.W.hideAll s.heap,
Ϛs,h.elim (c.len d H Q E),
Ϛt,Jk (F8 S.pt S.l H x0),
Ϛu,hc p s1 σ1 H1 _ I1,
Ϛv,T.self X.A 0 _ _ _ R,
Ϛw,J.base.slot b o q n h,
Ϛx,F.map (·+T.length),
Ϛy,xA (us:=us) (fl:=fl) (a:=a),
Ϛz,Zt (t x c<|sub x c e),
ϚA,K8B scope.names _ _,
ϚB,argBest_gt (numAt y),
ϚC,argBest_lt (numAt y),
ϚD,IA (ka h.1) (ka s.1),
ϚE,BN (fl:=fl) W.n1 pt l1,
ϚF,f.nw a (e'.hh.Xm q),
ϚG,F5.cons (f:=c) (g:=g) o,
ϚH,J.base.free b o q n,
ϚI,IL (g:=g) (an:=an) he,
ϚJ,Heap.Ns.new s.heap,
ϚK,UR tc te σ0 D c,
ϚL,b.nw x (a.hh.Xm h),
ϚM,J.base.there b o q,
ϚN,J.base.there b u z,
ϚO,relayAll_perm t1 S,
ϚP,relayAll_fits t1 S,
ϚQ,(xt Q c).2.2.2.2 _,
ϚR,(by first|exists "DA _ _ _~ao ? ?|aI"|((with_reducible show DE _ _ _ _);first|exists "DE _ _ _~aa _,aj _|eC _,ie|eC _,Q0|eC _,xU|B2 F4 _ _,vf pM va ? ? &|Yl _ _,N8 I_ %Gw ?|eB Cf _,JD Ef %Kr rfl T.t3 JE ?|eB jP _,JD ( Eb _ rfl ) OS rfl T.t6 rW ?|eB Ez _,JD ( He rfl ) %Qj rfl T.t6 rW ?|gT _,zW ?|W8 _,jK ?|B2 fS _ _,gW yO %yZ ? ?|B2 jT _ _,gW vJ yR ? ?|B2 fW _ _,gW QJ %QW ? ?|B2 kF _ _,gW MR %Oh ? ?|B2 bB _ _,gW nY rh ? ?|E6 _,Rc ?|bX _,ur ?|eB qO _,MA rfl rfl T.t6 rW rfl T.t9 ?|eB uh _,Pw rfl rfl T.t6 rW rfl T.t9 ?|vj _ _,xg rfl T.t4 rfl T.td Hh ?|vj _ _,xg rfl T.t4 rfl T.tc P8 ?|vj _ _,xg rfl T.t4 rfl T.t6 rW ?|vj _ _,xg rfl T.t4 rfl T.t3 JE ?|vj _ _,xg rfl T.t4 rfl T.t1 Mj ?|eIf _ _ _,U2 ? ? ?"|((with_reducible show DE _ _ _ (mK _ _ _));first|(refine zc (tb:=λnm=>decide (nm="Easel")) (bu T.Xg ⟨T.Xk.c,T.t1n⟩) ?_<;>trivial)|(refine zc (tb:=λnm=>decide (nm="Easel")) (bu T.Xg ⟨T.Xk.c,T.t1m⟩) ?_<;>trivial)|(refine zc (tb:=λnm=>decide (nm="Easel")) (bu T.Xg ⟨T.Xk.c,T.t1k⟩) ?_<;>trivial))|exists "DE _ _ _~B2 Yc _ _,Cm ( ze hr.units ) Dy ? ? ( gQ _ )|B2 Xr _ _,Cm ( FX hr.units ) N7 ? ? ( gQ _ )|eB bU _,oK yC Js rfl T.t5 PySem.boot_len ?|eB BF _,oK ( En _ rfl ) RH rfl T.tb PyProof.Rows.boot_sorted ?|eB vd _,oK ( ug _ rfl rfl ) yW rfl T.t8 PyProof.Rows.boot_min ?|eB Bc _,oK ( EG rfl ) %MT rfl T.t8 PyProof.Rows.boot_min ?|eB mQ _,oK ( mU _ rfl rfl ) tR rfl T.t7 PyProof.Rows.boot_max ?|vn _,HG ?|xo _ _,IS ? ?|eD0,Tz|ar mB _,Xc g5.y0 T.t3a hr ?|ar bP _,Xc g4.y2 T.t38 hr ?|ar bV _,Xc g4.y0 T.t36 hr ?|ar b6 _,Xc g3.yb T.t34 hr ?|ar eG _,Xc g3.ya T.t33 hr ?|ar m6 _,Xc g3.y8 T.t31 hr ?|ar di _,Xc g2.yg T.t2w hr ?|ar bJ _,Xc g2.yd T.t2t hr ?|ar gL _,Xc g2.yc T.t2s hr ?|ar dh _,Xc g2.ya T.t2q hr ?|ar cI _,Xc g2.y9 T.t2p hr ?|ar B3 _,Xc ( fnx g2.y8 ) T.t2o hr ?|ar ud _,Xc ( fnx g2.y6 ) T.t2n hr ?|ar cq _,Xc g2.y4 T.t2m hr ?|ar o_ _,Xc g2.y1 T.t2k hr ?|ar bT _,Xc g2.y0 T.t2j hr ?|ar aY _,Xc g1.yl T.t2i hr ?|ar cG _,Xc g1.yk T.t2h hr ?|ar c9 _,Xc g1.yj T.t2g hr ?|ar cH _,Xc g1.yi T.t2f hr ?|ar bH _,Xc g1.yh T.t2e hr ?|ar b9 _,Xc g1.yg T.t2d hr ?|ar dU _,Xc g1.yf T.t2c hr ?|ar cE _,Xc g1.ye T.t2b hr ?|ar cA _,Xc g1.yd T.t2a hr ?|ar hX _,Xc g1.y6 T.t23 hr ?|ar ba _,Xc g1.y5 T.t22 hr ?|ar cX _,Xc g1.y4 T.t21 hr ?|ar iz _,Xc g1.y3 T.t20 hr ?|ar eL _,Xc g1.y2 T.t1z hr ?|ar fv _,Xc g1.y0 T.t1y hr ?|ar df _,dcx g3.y7 T.t30 hr Lv.of.pass ?|ar cS _,dcx g3.y5 T.t2z hr Lv.of.pass ?|ar dG _,dcx g3.y3 T.t2y hr Lv.of.pass ?|ar dR _,dcx g3.y1 T.t2x hr Lv.of.pass ?|ar bO _,dcx g2.y8 T.t2o hr Lv.of.pass ?|ar bA _,dcx g2.y6 T.t2n hr Lv.of.pass ?|ar cT _,dcx g2.y3 T.t2l hr Lv.of.pass ?|ar bF _,dcx g1.y1 T.t1y hr Lv.of.pass ?|B2 _ _ _,gW Mt MO ? ?|ar _ _,Xc Z6 T.t39 hr ?|By ?")|exists "DT _ _ _~au ( B2 gLt _ _ ),cN UT %Vn ? ? ( gQ _ )|au ( B2 gGt _ _ ),cN CT %DP ? ? ( gQ _ )|au ( B2 gGe _ _ ),cN TU %UW ? ? ( gQ _ )|au ( B2 Yc _ _ ),cN ( ze hr.units ) Dy ? ? ( gQ _ )|au ( B2 Xr _ _ ),cN ( FX hr.units ) N7 ? ? ( gQ _ )|lg _,Cc ?|tM _,Bt ?|au _,BQ ?|BE ?"|exists "DW _ _ _~xT ? ?|Jv ? ?|wO ?|Du ?"|exists "DSs _ _ _~af ? ?|bt|aw ?"|((with_reducible show DS _ _ _ _);first|exists "DS _ _ _~cP _ _,kS Z5 ? ?|aC _ _,b_ nd rfl ( Or.inr rfl ) ?|aC _ _,b_ nd rfl ( Or.inl rfl ) ?|bI _,iw ?|X5 _ _ _,cb ? ? ?|jQ _ _,jB _ ?|eD _,gf ?|oN _ _,BV _ ?|lA _,MM _|kA _,rX Lv.of rfl rfl T.tm T.tq.ex|kA _,rX Lv.of rfl rfl T.tl T.tp.ex|kA _,rX Lv.of rfl rfl T.tk T.to.ex|kA _,rX Lv.of rfl rfl T.tj T.tn.ex|EE,HF"|((with_reducible show DS _ _ _ (fX _ _ _));(apply cJ<;>first|trivial|exact Z5|exact PassesOwn.leaving|exactλ_=>rfl)))|((with_reducible show DG _ _ _ _ _);(refine p7 ?_ ?_ ?_<;>first|rfl|exact Or.inl rfl|exact Or.inr rfl|exact nd|(dsimp only[Y6];decide+kernel)))|exists "DI _ _ _ _~iR2 _ _,Vy rfl T.t9 ? ?|iR1 _,Oc rfl T.t9 ?|cB _,vH ?|iEn _,Lc rfl T.t2 ?"|exists "DF _ _ _~zf ?"|exists "DO _ _ _~sf ?"|exists "DB _ _ _ _~IP ?"|(refine Zi.mk rfl rfl (by decide+kernel) (by decide+kernel) (by decide+kernel) (by decide+kernel) ?_;(repeat (refine⟨⟨rfl,rfl⟩,?_⟩));exact True.intro)|exact E1.mk rfl rfl rfl (by decide+kernel) rfl (by decide+kernel) (by decide+kernel)))
local macro_rules(kind:=ident)|s=>mqX (λ_=>mqY) s []
local macro_rules(kind:=Lean.Parser.Term.app)|s=>mqX (λ_=>mqY) s[0] s[1].getArgs.toList
namespace L2
open PySem PySem.Spec PyProof.Rows
abbrev Key:=Sum Int Str
def wt:Key->Ź Db|.inl k,v=>Value.isInt k v|.inr x,v=>Value.isStrOf x v
def VS(w:Ev):Key->Int|.inl k=>hashInt k|.inr x=>hashStr w x
theorem c7:∀{k:Key}{v:Db},wt k v=true->(∃i t,k=Sum.inl i/\v=Value.int i t)\/(∃x t,k=Sum.inr x/\v=Value.str x t)
 |.inl i,v,h=>ϓu (Ê ⟨i,t,rfl,e⟩)
 |.inr x,v,h=>ϓo (Ð ⟨x,t,rfl,e⟩)
def EJ(i:Int)(t:Tok):wt (Ê i) (Á i t)=true:=by simp[wt,Value.isInt]
def EC(x:Str)(t:Tok):wt (Ð x) (Ô x t)=true:=by simp[wt,Value.isStrOf]
def Pt(a b:Int):Ç (ϭg Sum.inl)=(a==b):=by
 by_cases e:a=b
 .subst e;simp
 let h:¬ϭg Sum.inl:=λq=>e<|K7w q;rw[Ll h];show(beq_eq_false_iff_ne.mpr e).symm
def Qd(a b:Str):Ç (ϭg Sum.inr)=Ç (a=b):=by
 by_cases e:a=b
 .subst e;simp
 let h:¬ϭg Sum.inr:=λq=>e<|Sum.inr.inj q;rw[Ll h,Ll e]
def RA(a:Int)(b:Str):à (Ç ((Sum.inl a:Key)=Sum.inr b)):=Ll λq=>nomatch q
def RS(a:Str)(b:Int):à (Ç ((Sum.inr a:Key)=Sum.inl b)):=Ll λq=>nomatch q
def cy(prog:Do)(w:Ev):PySem.KeyKind prog w Key where
 is:=wt
 hash:=VS w
 inj:=λv a b A B=>by
  rcases c7 A with⟨i,t,rfl,rfl⟩|⟨x,t,rfl,rfl⟩
  .rcases c7 B with⟨j,u,rfl,e⟩|⟨y,u,rfl,e⟩
   .injection e with e1 _;rw[e1]
   .exact nomatch e
  .rcases c7 B with⟨j,u,rfl,e⟩|⟨y,u,rfl,e⟩
   .exact nomatch e
   .injection e with e1 _;rw[e1]
 byValue:=λk v h=>by rcases c7 h with⟨i,t,rfl,rfl⟩|⟨x,t,rfl,rfl⟩<;>rfl
 pyHash:=λH h=>by
  rcases c7 H with⟨i,t,rfl,rfl⟩|⟨x,t,rfl,rfl⟩
  .exact wpAny_pyHash_int h
  .exact wpAny_pyHash_str h
 eqBool:=λU H h=>by
  rcases c7 U with⟨i,t,rfl,rfl⟩|⟨x,t,rfl,rfl⟩
  .rcases c7 H with⟨j,u,rfl,rfl⟩|⟨y,u,rfl,rfl⟩
   .rw[Pt]at h;show wpAny_eqBool_int h
   .rw[RA]at h;show SeqAt.EqAt.int_str i t y u _ _ _ _ h
  .rcases c7 H with⟨j,u,rfl,rfl⟩|⟨y,u,rfl,rfl⟩
   .rw[RS]at h;show SeqAt.EqAt.str_int x t j u _ _ _ _ h
   .rw[Qd]at h;show wpAny_eqBool_str h
 «strs»:=λk x t v h=>by
  rcases c7 h with⟨i,u,rfl,e⟩|⟨y,u,rfl,e⟩
  .exact nomatch e
  .injection e with e1 _
   subst e1;cases v<;>rfl
def AF(prog:Do)(w:Ev)(i:Int)(t:Tok):(cy prog w).is (Ê i) (Á i t)=true:=EJ i t
def Ao(prog:Do)(w:Ev)(x:Str)(t:Tok):(cy prog w).is (Ð x) (Ô x t)=true:=EC x t
inductive V where
 |Re|bl (b:Bool)|int (i:Int)|str (x:Str)|byt (b:ϰ3 UInt8)|flt (b:UInt64)|ref (a:Ix)|ty (n:String)
 deriving DecidableEq
def RelV:Ý V Db|.Re,u=>ϐr|.bl b,u=>u=ϩM|.int i,u=>ϬW|.str x,u=>ώc|.byt b,u=>ϖs|.flt b,u=>ϖt|.ref a,u=>u=ϴR|.ty n,u=>u=Value.type n
abbrev Vals:À V->į (À Db):=Paired RelV
def Vals.length(r:Ϲn us):ϫs xs.length:=Paired.length r
theorem Vals.get:∀{s:À V}{us:À Db}{i:Nat}{x:V},Ϸc us->ϱP=Đ->∃u,Ķ us=ě/\ϱx u
 |_,_,_,_,.nil,e=>ϦA
 |_,_,0,_,.cons r _,e=>Ϭj (_,rfl,r)
 |_,_,i+1,x,.cons _ t,e=>by
  let(u,h,H):=Vals.get (i:=i) (x:=x) t ϳ8;show(u,϶r,H)
theorem Vals.set(r:ϱx u):∀{s:À V}{us:À Db}(i:Nat),Ϸc us->ϵu (s.set i x) (us.set i u)|_,_,_,.nil=>í|_,_,0,.cons _ t=>ð r t|_,_,i+1,.cons q t=>ð q<|Vals.set r i t
theorem Vals.append:∀{x y:À V}{us ws:À Db},Vals x us->Vals y ws->ϵu (x++y) (us++ws)|_,_,_,_,.nil,s=>s|_,_,_,_,.cons r t,s=>ð r<|Vals.append t s
theorem Vals.take:∀{s:À V}{us:À Db}(n:Nat),Ϸc us->ϵu (s.take n) (us.take n)|_,_,0,_=>í|_,_,_+1,.nil=>í|_,_,n+1,.cons r t=>ð r<|Vals.take n t
theorem Vals.drop:∀{s:À V}{us:À Db}(n:Nat),Ϸc us->ϵu (s.drop n) (us.drop n)|_,_,0,r=>r|_,_,_+1,.nil=>í|_,_,n+1,.cons _ t=>Vals.drop n t
def oO:Ý (Ö V) Ch|some v,some u=>ϱu|none,none=>True|_,_=>False
def KV{κ:Type}:À Ϲt->į (À (κ×Db)):=Paired λ(p:κ×V)(q:κ×Db)=>p.1=q.1/\ϯ6 q.2
def kV:Key->V|.inl i=>Á i|.inr x=>Ô x
set_option genInjectivity false in
inductive HO where
 |lst (xs:À V)
 |tup (xs:À V)
 |dK (L0:À ϴl)|dT (L0:À (À Key×V))
 |set (S:Ź Int) (n:Nat)
 |ins (C dx:Ix) (fs:À ϳC)
 |own (x:Ix)
 |xd (fs:À ϳC)
 |met (f x:Ix)
 |rng (lo hi:Int)
 |W3 (o:Obj) (u:HO)
 |tbl (ps:ϰ3 Db)
 |ext (φ:į Op)
abbrev Hp:=Ix->Ö HO
def upd(H:Hp)(a:Ix)(o:HO):Hp:=λb=>Ï (b=a) Ø (H b)
def aP:Ę a o a=Ø:=Ŷ upd Č
def ay(h:b≠a):Ę a o b=H b:=Ŷ upd (P3 h)
def Vo{H:Hp}{a b:Ix}{o u:HO}(h:H a=Ø)(c:H b=ě)(d:o≠u):a≠b:=by ext e;subst e;rw[h]at c;show d<|Zh c
def aJ{H:Hp}{a b:Ix}{o:HO}(h:H a=Ø)(c:ϰY):a≠b:=by ext e;subst e;rw[h]at c;cases c
section
variable(P:Do)(w:Ev)
def dw(H:Hp)(h:Op)(a:Ix):į HO
 |.lst s=>Ą s.length/\∃(i:À Db)(n:Nat),Ϸc i/\Τ=Â ((Ģ "list" ϸN))
 |.tup s=>Ą s.length/\∃i:À Db,Ϸc i/\IsTup h a i.toArray
 |.dK L0=>Ą L0.length/\à ϸQ/\ύc
 |.dT L0=>Ą L0.length/\à ϸQ/\∃s:À (À Key×Ix×Db),
   Paired (λ(p:List Key×V)(q:List Key×Ix×Db)=>p.1=q.1/\H q.2.1=Â (Ī<|Ó p.1 kV)/\ϯ6 q.2.2) L0 s/\
   ∃o e ep,Τ=Ø/\o.ExactDict/\o.data=϶a e ep/\e.toList=ϳ2 (entryOfKey Ϩ6)/\ϰs (ϳ2 ģ)
 |.set S n=>h.SetOf (intKind P w) a S n
 |.ins C dx fs=>H dx=Â ϪO/\fs.length<=1000/\dx≠a/\Τ=Â Ϗc/\
   ∃m,h.Ns1 dx m/\(∀f,ό8<|m f)/\PySem.Within m (ϥy ģ)
 |.own _=>∃o,Τ=Ø
 |.xd fs=>∃m,h.Ns1 a m/\∀f,ό8<|m f
 |.rng lo hi=>∃t u v,Τ=Â ((Ģ "range" (Κ #[Á lo t,Á hi u,Á 1 v])))
 |.W3 o u=>Τ=Ø/\dw H h a u
 |.tbl ps=>Τ=Â {cls:=æ,data:=Κ ps}
 |.met f x=>Τ=Â (methodObj (Ä f)<|Ä x)
 |.ext φ=>φ h/\(∃o,Τ=Ø)/\∀b c:Op,φ b->(∀o,b.get? a=Ø->c.get? a=Ø)->φ c
def Yk(H:Hp)(h:Op):Prop:=∀a o,H a=Ø->ϷV o
end
section
variable{h h':Op}
def dw.lt(x:ϷV o):a<h.objs.size:=by
 cases o with|lst xs=>let(_,_,_,_,e):=x;show ϵt|tup xs=>let(_,_,_,p):=x;show p.lt|dK L0=>let(_,_,_,_,o,_,_,e,_):=x;show ϵt|dT L0=>let(_,_,_,_,o,_,_,e,_):=x;show ϵt|set S n=>let(o,_,_,_,e,_):=x;show ϵt|ins C dx fs=>let(_,_,_,e,_):=x;show ϵt|own y=>let(_,e):=x;show ϵt|xd fs=>obtain⟨_,⟨_,_,_,e,_⟩,_⟩:=x;show ϵt|rng lo hi=>let(_,_,_,e):=x;show ϵt|W3 ob u=>let(e,_):=x;show ϵt|tbl ps=>show Xq (show Τ=Â _ from x)|met f y=>show Xq (show Τ=Â _ from x)|ext φ=>obtain⟨_,⟨_,e⟩,_⟩:=x;show ϵt
def Paired.mapP{l₁:À α}{l:À β}(h:Paired F l₁ l)(f:∀a b,F a b->G a b):Paired G l₁ l:=by
 induction h with|nil=>show í|cons r t i=>show ð (f _ _ r) i
theorem dw.Yb(x:ϷV o)(k:∀b u,(b=a\/H b=Â ϪO)->Ϲ0 ě)
  (g:∀b,Ϲ6 (Â ϪO)) (j:∀b X,Ϲ6 (Â (Ī X))):όC H' a o:=by
 induction o with
 |lst X=>let(z,i,n,r,e):=x;show(z,i,n,r,ϰh (Ê rfl) e)
 |tup X=>let(z,i,r,O,e,c):=x;show(z,i,r,O,ϰh (Ê rfl) e,c)
 |dK L0=>let(z,y,V,r,O,s,ep,e,c):=x;show(z,y,V,r,O,s,ep,ϰh (Ê rfl) e,c)
 |dT L0=>let(z,y,X,r,O,s,ep,e,c):=x;show(z,y,X,Paired.mapP r λp q z=>ϔY,O,s,ep,ϰh (Ê rfl) e,c)
 |set S n=>let(O,s,ep,t,e,c):=x;show(O,s,ep,t,ϰh (Ê rfl) e,c)
 |ins C dx fs=>obtain⟨d,z,ne,e,m,⟨od,s,ep,E,c⟩,r⟩:=x;show(g _ d,z,ne,ϰh (Ê rfl) e,m,(od,s,ep,ϰh (Ð d) E,c),r)
 |own y=>let(O,e):=x;show(O,ϰh (Ê rfl) e)
 |xd fs=>obtain⟨m,⟨od,s,ep,e,c⟩,r⟩:=x;show(m,(od,s,ep,ϰh (Ê rfl) e,c),r)
 |rng lo hi=>let(t,u,v,e):=x;show(t,u,v,ϰh (Ê rfl) e)
 |W3 O u ih=>let(e,q):=x;show(ϰh (Ê rfl) e,ih q)
 |tbl ps=>
  let e:Τ=Â {cls:=æ,data:=Κ ps}:=x;change h'.get? a=Â {cls:=æ,data:=Κ ps};show k a _ (Ê rfl) e
 |met f y=>
  let e:Τ=Â (methodObj (Ä f)<|Ä y):=x;change h'.get? a=Â (methodObj (Ä f)<|Ä y);show k a _ (Ê rfl) e
 |ext φ=>obtain⟨p,⟨o,e⟩,T⟩:=x;show(T _ _ p λo q=>ϰh (Ê rfl) q,(o,ϰh (Ê rfl) e),T)
def Yk.lt(x:ϴY)(e:H a=Ø):a<h.objs.size:=(x a o e).lt
def Yk.fresh(x:ϴY)(e:Ϗu):ϳE:=by
 cases q:H a with|none=>rfl|some u=>show Ć (Zt (x.lt q) e) Ϸd
def Yk.kept(x:ϴY)(k:∀b u,Ϲ0 ě):ϥj H h':=λa o e=>(x a o e).Yb (λb u _ q=>ϥC q) Ϥj ϸ5
def Yk.laid(x:ϴY)(k:∀b u,Ϲ0 ě)(p:Ϗu)(new:όC (Ę a o) a o):ϥj (Ę a o) h':=λb u e=>by
 let n:=x.fresh p;by_cases B:b=a
 .subst B;rw[aP]at e;cases e;show new
 rw[ay B]at e;show(x b u e).Yb (λc v _ q=>k c v q) (λc q=>Ù (ay<|ϳR n) q) λc s q=>Ù (ay<|ϳR n) q
end
def Rd(H:Hp)(a:Ix)(u:HO):Prop:=H a=ě\/∃o,H a=Â Ϫr
def Rd.ok(r:϶7 u)(x:ϴY):ϷV u:=by
 rcases r with r|⟨o,r⟩
 .exact x a u r
 let(_,q):=x a _ r;show q
def Mut:į (Ö HO)|some (.lst _)=>True|some (.dK _)=>True|some (.dT _)=>True|some (.set _ _)=>True|some (.ins _ _ _)=>True|some (.ext _)=>True|_=>False
section
variable{h h':Op}
def Yk.write(ok:ϴY)(m:Mut (H x))(he:e=x\/H e=Â ϧs)(k:∀b u,b≠e->Ϲ0 ě)(o:∃u,h'.get? e=ě)
  (new:όC (Ę x o') x o'):ϥj (Ę x o') h':=λb u q=>by
 let n:∀c y,H c=Â (.own y)->c≠x:=λc y r z=>ϔZ
 let t:∀c s,H c=Â (Ī s)->c≠x:=λc s r z=>ϔZ
 by_cases a:b=x
 .subst a;rw[aP]at q;cases q;show new
 .rw[ay a]at q
  by_cases B:b=e
  .let Q:H b=Â ϧs:=by
    rcases he with z|z
    .exact Ć (B.trans z) a
    .rw[B];show z
   rw[q]at Q;cases Q;let(v,V):=o;show(v,ϐU V)
  .apply(ok b u q).Yb (λc v hc r=>k c v ?_ r) (λc r=>by rw[ay<|n c b r];show r) λc s r=>by rw[ay<|t c s r];show r
   rcases hc with rfl|hc
   .exact B
   .rintro rfl
    rcases he with z|z
    .exact n c b hc z
    .rw[hc]at z;cases z;show a rfl
end
structure Un(fs ex:À Ix)(H H':Hp)(h h':Op):Prop where
 keep:∀b o,ϵU=Ø->ϰY->b∉fs->b∉ex->϶K=Ø
 slot:∀b o,ϵU=Ø->ϰY->b∈fs->b∉ex->∃sl,϶K=Â {o with slots:=sl}
 free:∀b o,ϵU=Ø->ϰY->b∉ex->϶L
 there:∀b o,ϵU=Ø->b∉ex->∃o',϶K=Â o'
 tups:∀b xs,Ϲ6 (Â (Ī xs))
 frzs:∀b o u,Ϲ6 (Â Ϫr)
 tbls:∀b ps,H b=Â (.tbl ps)->∃more,H' b=Â (.tbl<|ps++more)
section
variable{fs fs' ex ex':À Ix}{H H1 H2:Hp}{h h1 h2 h':Op}{a x e:Ix}{o:HO}
def Un.any(u:Ϫk H1 h h1)(q:ϵU=Â ob)(n:ϰY)(x:b∉ex):∃s,h1.get? b=Â {ob with slots:=s}:=by
 by_cases B:b∈fs
 .exact u.slot b ob q n B x
 show(ob.slots,u.keep b ob q n B x)
def Un.kept(k:∀b u,Ϲ0 ě):Ϫk H h h':=
 ⟨λb O q _ _ _=>k b O q,λb O q _ _ _=>⟨O.slots,k b O q⟩,λ_ _ _ n _=>n,λb O q _=>⟨O,k b O q⟩,ϸ5,Ň q,λ_ ps q=>⟨#[],ϱZ q⟩⟩
def Un.refl:Ϫk H h h:=Un.kept ϸ5
def Un.laid(k:∀b u,Ϲ0 ě)(p:Ϗu)(N:ϳE):Ϫk (Ę a o) h h' where
 keep:=λb u q _ _ _=>ϥC q
 slot:=λb u q _ _ _=>⟨u.slots,ϥC q⟩
 free:=ϔN (Ym<|ϯO q p)
 there:=λb u q _=>⟨u,ϥC q⟩
 tups:=λb s q=>Ù (ay<|ϳR N) q
 frzs:=λb u s q=>Ù (ay<|ϳR N) q
 tbls:=ϔt (ϳR N)
def Un.write(m:Mut (H x))(he:e=x\/H e=Â ϧs)(k:∀b u,b≠e->Ϲ0 ě)(E:∃u,h'.get? e=ě):Ϫk (Ę x o) h h':=by
 let X:∀b,ϰY->b≠x:=λb n z=>by subst z;rw[n]at m;show m
 let a:∀b,ϰY->b≠e:=λb n z=>by
  subst z;rcases he with r|r
  .exact X b n r
  rw[n]at r;cases r
 let M:∀b u,H b=ě->¬Mut ě->b≠x:=λb u q nm z=>by subst z;rw[q]at m;show nm m
 apply(λb u q n _ _=>ϥC (a b n) q,λb u q n _ _=>⟨u.slots,ϥC (a b n) q⟩,ϔN (X b n),λb u q _=>?_,
  λb s q=>Ù (ay Ϗo) q,λb u s q=>Ù (ay Ϗo) q,ϔt Ϗo)
 by_cases B:b=e
 .subst B;show E
 show(u,ϥC B q)
end
def trk(h:Op)(H:Hp):À Ix:=é (ń h.objs.size) λa=>(ϸy (H a))
def zL(h:Op)(H:Hp):Op:=PySem.W.hideAll h ϯP
def EA(h:Op)(H:Hp):ϰA (zL h H)=h.objs.size:=PySem.W.hideAll_size _ _
def Hr(e:ϵU=Ø)(n:ϰY):Ϗd=Ø:=
 ϖP e (λM=>by let q:þ (ϸy (H b)):=(Yg.mp M).2;rw[n]at q;simp at q)
def Le(e:Ϗd=Ø):ϵU=Ø/\ϰY:=by
 let e':ϵU=Ø:=PySem.W.of_hideAll ϯP e;apply(e',?_);cases q:H b with
 |none=>rfl
 |some x=>
  let M:b∈ϯP:=ϻg (X4.mpr<|Xq e') (Ű q);let z:Ϗd=none:=PySem.W.hideAll_none ϯP M;rw[z]at e;cases e
def C2(g h:Op)(L:Ix):À ĺ:=(ń h.objs.size).filterMap λa=>if a=L\/þ (ϸy (g.get? a)) then none else Ó Τ λo=>(a,o)
def Ae(b:a≠L)(c:ϥz g.get?)(H:Τ=Ø):(a,o)∈C2 g h L:=
 ώa ⟨a,X4.mpr<|Xq H,by simp[b,c,H]⟩
def rest(g h:Op)(L d:Ix):À ĺ:=é (C2 g h L) λp=>Ç<|p.1≠d
def aZ(H:a≠L)(b:ϥz g.get?)(c:Τ=Ø)(e:a≠d):(a,o)∈rest g h L d:=
 ϻg (Ae H b c) (W6 e)
structure Mod(K:At)(mg:ĳ)(base:Op):Prop where
 kin:K.In base
 glob:ώm mg
 blt:∃mb,base.Ns builtinsNs mb/\∀x:Str,ϷL->mb x=ϷN
 nolimit:base.NoLimit
set_option genInjectivity false in
structure Cx where
 prog:Do
 w:Ev
 K:At
 mg:ĳ
 base:Op
 A:Go
 N:À Str
 s₀:Da
 H₀:Hp
 env:Env
 outer:À Env
 stack:À Env
 ex:À Ix
 fn:Ź Str
 calm:Bool
 pn:À ĺ
 xe:Ý Db Da
def Yp(l:À Env):À Ix:=l.filterMap (·.frame)
abbrev Cx.fs(X:Cx):À Ix:=Ϥk
def Zr(sc:Scope)(x:Str):Prop:=Ϻd=Â Ų\/ϵz Ϻd (Â ŏ) (Â ε)
def Loc(sc:Scope)(x:Str):Prop:=ϵz Ϻd (Â Ų) (Â ŏ)
def Look(env:Env)(h:Op)(m:ĳ)(x:Str)(u:Db):Prop:=
 (ϐs=Â Ų/\m x=ě)\/((ϵz ϐs (Â ŏ)<|Â ε)/\∃c,ϭc=ϰf/\h.IsCell c ě)
structure Cx.Ok(X:Cx):Prop where
 mod:ϗP
 kind:X.env.scope.kind=ϺO
 glob:X.env.globals=mainGlobals
 blt:X.env.builtins=builtinsNs
 above:X.s₀.heap.objs.size<=X.env.locals
 inj:∀x y c,ϲQ->X.env.cells.lookup y=ϰf->x=y
 has:∀x,(ϵz Ϗv (Â ŏ)<|Â ε)->∃c,ϲQ
 cab:∀x c,ϴg->ϲQ->X.s₀.heap.objs.size<=c
 hd:ż->ϭq
 frames:X.A.frames=Â X.stack
 stk:X.stack=X.outer\/(X.stack=Ϻl/\X.env.frame=Â X.env.locals)
 exf:∀b∈X.ex,ϵB/\∀x c,ϲQ->c≠b
 bs:∀b o,ϩy=Ø->ϸI=Ø/\X.H₀ b=none
 bsz:X.base.objs.size<=X.s₀.heap.objs.size
 noex:∀b o,ϩy=Ø->b∉X.ex
 exfs:∀b∈X.ex,ϯ8
 Yo:ϔQ X.outer
 frf:∀b∈X.fs,X.H₀ b=none
structure Inv(X:Cx)(D0:À ĺ)(σ:À (Ö V))(H:Hp)(s:Da):Prop where
 ok:X.Ok
 os:s.os=X.s₀.os
 bare:Ϗw
 base:Un X.fs X.ex X.H₀ H X.s₀.heap s.heap
 loc:∃m,ϕO/\∀(i:Nat)(x:Str)(v:V),Ξ->ϲG=Â ă->Ϻm x->∃u,ϱu/\Look X.env s.heap m x u
 cell:∀x c,ϲQ->∃v,s.heap.IsCell c v
 free:H X.env.locals=none
 Xj:∀x c,ϲQ->H c=none
 pin:∀p∈ϺR,s.heap.get? p.1=Â p.2/\H p.1=none/\ϐT p.1/\p.1∉X.fs/\∀v,p.2.data≠ŏ v
 Uf:Ϻp H s.heap
 len:ϗn
section
variable{X:Cx}{σ:À (Ö V)}{s:Da}{h':Op}
def Cx.Ok.nofr(ok:X.Ok)(e:ϩy=Ø):ϯ8:=λB=>by let:=(ok.Yo.mem B).1;rw[e]at this;cases this
def Inv.bs(I:ø):∀b o,ϩy=Ø->ϰx=Ø/\ϰY:=ϱk ⟨ϙb ώ0,ϩi (I.ok.bs b o e).1 (I.ok.bs b o e).2 ώ0⟩
def Inv.bk(I:ø):∀b o,ϩy=Ø->ϰx=Ø:=ϱk (I.bs b o e).1
def Inv.mod(I:ø):ϗP:=I.ok.mod
def Inv.Zj(I:ø):X.K.In s.heap:=I.ok.mod.kin.keeps I.bk
def Inv.lt(I:ø):ϩu X.env.locals:=let⟨_,hn,_⟩:=I.loc;hn.lt
def Inv.sz(I:ø):X.s₀.heap.objs.size<=s.heap.objs.size:=Zd I.ok.above<|Zba I.lt
def Inv.nofs(I:ø)(h:ϗQ):a∉X.fs:=λB=>by let(_,o,g,_):=I.ok.Yo.mem B;show Ć (ϯO g<|Zd I.sz h) Ϸd
def Inv.cne(I:ø):∀x c,ϲQ->c≠X.env.locals:=λx c e z=>by let(v,o,g,d):=Ϥm e;obtain⟨m,⟨a,E,ep,O,h,_⟩,_⟩:=I.loc;rw[z,O]at g;cases g;rw[h]at d;cases d
def Inv.Yo(I:ø):ύP X.outer:=by
 let all:∀(l:À Env),(∀b∈Yp l,b∈X.fs)->ϔQ l->ύP l:=by
  ext l
  induction l with
  |nil=>ext _ _;trivial
  |cons env r ih=>
   ext S a;obtain⟨k,⟨L,o,f,n,g,d⟩,hr⟩:=a;let h:L∈X.fs:=S L (ϖe P0);let(c,e):=I.base.slot L o g (I.ok.frf L h) h λz=>I.ok.exfs L z h;show(k,(L,_,f,n,e,d),ih (λb B=>S b<|ϖe (Ā B)) hr)
 show all X.outer (λ_ B=>B) I.ok.Yo
def Inv.stack(I:ø):ύP X.stack:=by
 rcases I.ok.stk with e|⟨e,f⟩
 .rw[e];show I.Yo
 rw[e];let(m,n,_):=I.loc;apply ð (ϸ0 I.ok.kind) f n ?_ I.Yo;show Heap.get?_none_of_le<|Ϯo I.ok.above
def Inv.stkSub(I:ø):∀b∈϶G,b∈X.env.locals::X.fs:=λb B=>by
 rcases I.ok.stk with e|⟨e,f⟩
 .rw[e]at B;show Ā B
 rw[e]at B;delta Yp at B;rw[K84,f]at B;show B
def Inv.Zo(I:ø):∀b∈϶G,ϰY:=λb B=>by
 rcases W7.mp (ϐi B)with e|B
 .rw[e];show I.free
 let(_,o,g,_):=I.ok.Yo.mem B;show ϩi g (I.ok.frf b B) (λz=>I.ok.exfs b z B)
def Inv.step{g':ϰ3 GenState}{Q:Nat}{d':Drawn}{ch:À Ix}(I:ø)
  (C:∀b∈ch,ϫ4/\ϵB/\(∀x c,ϲQ->c≠b)/\Ϯ9 ϺR)
  (keep:∀b o,ϵB->ϯ8->Ϲy->ϰx=Ø->ϰY->϶K=Ø)
  (slot:∀b o,ϵB->b∈X.fs->Ϲy->ϰx=Ø->ϰY->∃j,϶K=Â {o with slots:=j}) (free:∀b o,Ϲy->ϰx=Ø->ϰY->϶L)
  (there:∀b o,Ϲy->ϰx=Ø->∃O,϶K=ϧ8)
  (T:∀b S,Ϲ6 (Â (Ī S))) (f:∀b o u,Ϲ6 (Â Ϫr)) (t:∀b ps,H b=Â (.tbl ps)->∃more,H' b=Â (.tbl<|ps++more))
  (ns:∀m,ϕO->h'.Ns X.env.locals m) (K:Ϻp H' h') (hg:AllBare g'):
  ì D0 σ H' ((ϓP Q)):=by
 let L:∀b o,ϸI=Ø->ϵB:=ϱk (Ym<|϶B I.ok.above);let E:∀b o,ϸI=Ø->b∉X.ex->Ϲy:=λb o e h B=>by
  rcases(C b B).1 with z|z
  .exact h z
  show Ć (϶B z) Ϸd
 let cellK:∀x c,ϲQ->∀v,s.heap.IsCell c v->h'.IsCell c v:=λx c e v⟨o,g,D⟩=>by
  let N:c∉ch:=λz=>(C c z).2.2.1 x c e rfl;by_cases hc:c∈X.fs
  .let(j,q):=ϙ1<|ϪJ e
   show(_,q,D)
  show(o,ϩZ (I.cne x c e) hc N g<|ϪJ e,D)
 apply(I.ok,I.os,hg,(λb o e n B h=>?_,λb o e n B h=>?_,λb o e n h=>?_,λb o e h=>?_,λb S e=>T b S<|I.base.tups b S e,λb o S e=>f b o S<|I.base.frzs b o S e,λb ps e=>?_),?_,ϸe ?_,?_,ϸe ?_,ϻh P,K,I.len)
 .exact ϙe<|ϩi e n h
 .let(j,e1):=ϭi n B h
  let(w,a):=ϙH<|ϩi e n h;show(w,a)
 .let(O,e1):=Ϩ7 h
  show Ϛj<|ϩi e n h
 .let(O,e1):=Ϩ7 h
  show there b O (E b o e h) e1
 .let(M,e1):=I.base.tbls b ps e
  let(J,a):=t b _ e1;show(M++J,by rw[a,Array.append_assoc])
 .let(m,G,A):=I.loc
  apply(m,ns m G,λi x v e1 a y=>?_);let(u,r,l):=A i x v e1 a y;apply(u,r,?_);rcases l with l|⟨k,c,e,z⟩
  .exact Ê l
  show Ð ⟨k,c,e,cellK x c e _ z⟩
 .let(v,z):=Ϥm e
  show(v,cellK x c e v z)
 .obtain⟨m,⟨o,_,_,g,_⟩,_⟩:=I.loc
  show free _ o ϬE g I.free
 .let(v,o,g,D):=Ϥm e
  show ϙy<|ϪJ e
 let(e,n,ne,F,d):=϶S P;let N:p.1∉ch:=λz=>(C p.1 z).2.2.2 p P rfl;show(keep p.1 p.2 ne F N e n,free p.1 p.2 N e n,ne,F,d)
def Inv.un(I:ø)(u:ϒp X.fs [] h')(K:Ϻp H' h'):ì D0 σ H' ((ϳ9 h' t')):=by
 obtain⟨m,⟨o,S,ep,g,r⟩,_⟩:=ϯ9;let(l,h):=u.any g I.free Û;show ϔF [] (λ_ z=>nomatch z) (λb o _ B _ e n=>u.keep b o e n B Û) (λb o _ B _ e n=>u.slot b o e n B Û) (λb o _ e n=>ϕq Û) (λb o _ e=>ϕ5 Û) u.tups u.frzs u.tbls (λa M=>by let(c,E,p,O,R):=M;rw[g]at O;cases O;show(_,E,p,h,R)) K I.bare
def Inv.call(I:ø)(u:ϒp ϶G ch h')(K:Ϻp H' h')(hg:AllBare g')(C:∀b∈ch,ϫ4/\ϵB/\(∀x c,ϲQ->c≠b)/\Ϯ9 ϺR):
  ì D0 σ H' ((ϓP t')):=by
 obtain⟨m,⟨o,a,ep,g,r⟩,_⟩:=ϯ9;let(l,h):=u.any g I.free ϬE;show I.step (ch:=ch) C (λb o h B hc e n=>u.keep b o e n (λz=>(W7.mp<|ϐi z).elim h B) hc) (λb o _ _ hc e n=>u.any e n hc) (λb o hc e n=>ϕq hc) (λb o hc e=>ϕ5 hc) u.tups u.frzs u.tbls (λd M=>by let(f,S,E,O,R):=M;rw[g]at O;cases O;show(_,S,E,h,R)) K hg
def Inv.turned{it:Ix}(I:ø)(k:∀b o,b≠it->ϰx=Ø->϶K=Ø)(N:H it=none)(h:it≠X.env.locals)(a:it∈X.ex\/X.s₀.heap.objs.size<=it)(d:∀x c,ϲQ->c≠it)(f:∀p∈ϺR,p.1≠it):ì D0 σ H ((ϳ9 h' t')):=by
 let i:∀b u,H b=ě->b≠it:=λb u e z=>by rw[z,N]at e;cases e
 apply ϔF [it] ϺK (λb o _ _ hc e _=>k b o (λz=>hc<|Ű z) e) (λb o _ _ hc e _=>⟨o.slots,k b o (λz=>hc<|Ű z) e⟩) Ϙr (λb o hc e=>⟨o,k b o (λz=>hc<|Ű z) e⟩) ϐt Ϗx ϓK Ϫc ϩD I.bare
 .let e:b=it:=ϳp
  subst e;show(a,h,d,f)
 .let(o,E,ep,g,r):=M
  show(o,E,ep,k _ o (K8g h) g,r)
 apply ό2 Ϥj ϸ5;rcases hc with z|z
 .rw[z];show i b u e
 show i c _ z
def Inv.tok(I:ø)(t:Nat):ì D0 σ H {s with toks:=t}:=I.un (h':=s.heap) (t':=t) Un.refl I.Uf
def Inv.kept(I:ø)(k:∀b u,ϰx=ě->϶K=ě):ì D0 σ H ((ϳ9 h' t')):=I.un (Un.kept k)<|I.Uf.kept k
def Inv.laid(I:ø)(k:∀b u,ϰx=ě->϶K=ě)(p:ϗQ)(new:Ϻq (Ę a o) h' a o):
  ì D0 σ (Ę a o) ((ϳ9 h' t')):=ϙW<|I.Uf.laid k p new
def Inv.write(I:ø)(m:Mut (H x))(he:e=x\/H e=Â ϧs)(k:∀b u,b≠e->ϰx=ě->϶K=ě)(h:∃u,h'.get? e=ě)(new:Ϻq (Ę x o) h' x o):ì D0 σ (Ę x o) ((ϳ9 h' t')):=Ϛh<|I.Uf.write m he k h new
def Inv.weak(I:ø)(a:σ'.length=σ.length)(w:∀(i:Nat) v,Ķ σ'=Â ă->ϲG=Â ă):ì D0 σ' H s:=
 ⟨I.ok,I.os,I.bare,I.base,let⟨m,hn,hl'⟩:=I.loc;⟨m,hn,λi x v e1 E y=>hl' i x v e1 (w i v E) y⟩,I.cell,I.free,I.Xj,I.pin,I.Uf,a.trans I.len⟩
def Inv.pins_of(I:ø)(h:∀p∈pins',s.heap.get? p.1=Â p.2/\H p.1=none/\ϐT p.1/\p.1∉X.fs/\∀v,p.2.data≠ŏ v):ì pins' σ H s:=
 (ϥK I.ok (λp P=>ϑb P (λz=>϶S<|Ŀ z)<|h p))
def wN{N:À Str}(h:N.Nodup){i j:Nat}{x:Str}(a:N[i]?=Đ)(b:N[j]?=Đ):i=j:=by let(H,e1):=Za.mp a;let(c,E):=Za.mp b;show(List.getElem_inj h).mp<|e1.trans E.symm
def D_(I:ø)(hN:X.N.Nodup)(hi:Ξ)(f:ϲT x)(r:ϱu)(h:∀s',ì D0 (ϷP ă) H s'->(∃a,ϨX s'.heap/\(a=X.env.locals\/X.env.cells.lookup x=ϸg))->Q () s')(hf:ž (ϴg\/ϲi=Â Ų) mqad._auto_1):Ϻv (ώd u) s:=by
 let(m,R,hl):=ϯ9;let L:à ϒL:=ϰd I.ok.kind
 let l:i<σ.length:=Ù I.len ϐu
 let cne:=I.cne;let tracked:∀{a:Ix}{t:Op},(∃o,Ϧt=Ø/\ϳE)->ϨX t->Ϻp H t:=fun{a t} ha S b ob e=>by
  let(_,_,F):=ha;apply(I.Uf b ob e).Yb (λc W hc q=>è (S.2 c ?_) q) Ϥj ϸ5;ext rfl;rcases hc with rfl|hc
  .rw[F]at e;cases e
  rw[F]at hc;cases hc
 rcases f with K|K
 .apply wpAny_storeName_local K R (λt T S=>?_) L
  let(oL,_,_,U,_):=id R;apply h _ ⟨I.ok,I.os,I.bare,ϒG,⟨_,T,ϗR⟩,λy c e=>?_,I.free,I.Xj,ϻh V,tracked ⟨oL,U,I.free⟩ S,ť I.len⟩ ⟨_,S,Ê rfl⟩
  .exact è (ϵ0<|Ym<|϶B I.ok.above)<|ώt n B f
  .let(sl,e1):=ϭi n B f
   show(sl,è (ϵ0<|Ym<|϶B I.ok.above) e1)
  .let(Z,e1):=Ϩ7 f
   show(Z,è (ϵ0<|Ym<|϶B I.ok.above) e1)
  .by_cases J:j=i
   .subst J
    rw[hi]at e1;cases e1;rw[K9I l]at g;cases g;show(u,r,Ê ⟨K,Û⟩)
   rw[K9E<|K8g J]at g;let(u',r',q):=hl j y v' e1 g P;apply(u',r',?_);rcases q with⟨k,e⟩|⟨k,c,e,z⟩
   .apply Ê ⟨k,?_⟩
    let:y≠x:=λe=>J<|wN hN e1 (e▸hi);simp[this,e]
   show Ð ⟨k,c,e,ύK ϮR⟩
  .let(W,z):=I.cell y c e
   show(W,ύK ϮR)
  let(e,n,ne,Y,d):=϶S V;show(è (S.2 p.1 ne) e,n,ne,Y,d)
 let N:ϴg:=by
  rcases hf with z|z
  .exact z
  rw[z]at K;cases K
 let(c,hc):=I.ok.has x<|Ê K;let(W,z):=Ϥm hc;apply wpAny_storeName_cell I.ok.kind K hc z λt C S=>?_;let(oc,O,D):=id z;apply h {s with heap:=t} ⟨I.ok,I.os,I.bare,ϒG,⟨m,R.sameBut S<|K8g<|cne x c hc,ϗR⟩,λy G e=>?_,I.free,I.Xj,ϻh V,tracked ⟨oc,O,ϪJ hc⟩ S,ť I.len⟩ ⟨c,S,Ð hc⟩
 .exact(ϵ0<|Ym<|϶B ώu).trans<|ώt n B f
 .let(sl,e1):=ϭi n B f
  show(sl,(ϵ0<|Ym<|϶B ώu).trans e1)
 .let(Z,e1):=Ϩ7 f
  show(Z,(ϵ0<|Ym<|϶B ώu).trans e1)
 .by_cases J:j=i
  .subst J
   rw[hi]at e1;cases e1;rw[K9I l]at g;cases g;show(u,r,Ð ⟨Ê K,c,hc,C⟩)
  rw[K9E<|K8g J]at g;let(u',r',q):=hl j y v' e1 g P;apply(u',r',?_);rcases q with q|⟨k,G,e,z'⟩
  .exact Ê q
  apply Ð ⟨k,G,e,z'.sameBut S ?_⟩;ext rfl;show J<|wN hN e1 (I.ok.inj _ _ _ e hc▸hi)
 .by_cases w:G=c
  .subst w;show(_,C)
  let(w2,z2):=I.cell y G e;show(w2,z2.sameBut S w)
 let(e,n,ne,Y,d):=϶S V;apply(è (S.2 p.1 ?_) e,n,ne,Y,d);ext q;rw[q,O]at e;let q':oc=p.2:=Zh e;show d W (by rw[<-q'];show D)
def mh(I:ø)(n:X.N.Nodup)(hi:Ξ)(b:ϲT x)(r:ϱu)(h:∀S,ì D0 (ϷP ă) H S->Q () S)(f:ž (ϴg\/ϲi=Â Ų) mqad._auto_1):Ϻv (ώd u) s:=
 D_ I n hi b r (λS a _=>h S a) f
def Inv.call'(I:ø)(g:s'.os=s.os)(u:ϒp ϶G ch s'.heap)(K:Ϻp H' s'.heap)(hg:AllBare s'.gens)(C:∀b∈ch,ϫ4/\ϵB/\(∀x c,ϲQ->c≠b)/\Ϯ9 ϺR):ì D0 σ H' s':=by let(h,g',d',t',a):=s';let e:a=s.os:=g;subst e;show I.call (g':=g') (t':=t') (d':=d') u K hg C
end
abbrev XK:=Db->Ý (Ö Ix) Hp
abbrev St:=À<|Ö V
abbrev VK:=Ý V Hp
abbrev TE:=St->Ý Hp VK
abbrev TT:=St->Ý Hp (Bool->į Hp)
abbrev TA:=St->Ý Hp (Ý (À V) Hp)
structure Ends where
 nx:Ý St Hp
 rt:VK
 bk:Ý St Hp:=λ_ _=>False
 ct:Ý St Hp:=λ_ _=>False
abbrev TS:=Ends->Ý St Hp
def EP(X:Cx)(p:À ĺ)(a:St)(Q:VK)(u:Db)(S:Da):Prop:=∃v H',ì p a H' S/\ϱu/\ϻl
def TP(X:Cx)(p:À ĺ)(a:St)(Q:Bool->į Hp)(b:Bool)(S:Da):Prop:=∃H',ì p a H' S/\Q b H'
def AP(X:Cx)(p:À ĺ)(a:St)(Q:Ý (À V) Hp)(us:À Db)(S:Da):Prop:=∃d H',ì p a H' S/\Vals d us/\Q d H'
def SP(X:Cx)(p:À ĺ)(D:Ends)(f:Flow)(S:Da):Prop:=
 match f with
 |.next=>∃a H',ì p a H' S/\ϥk H'
 |.brk=>∃a H',ì p a H' S/\D.bk a H'
 |.cont=>∃a H',ì p a H' S/\D.ct a H'
 |.ret u=>∃v a H',ì p a H' S/\ϱu/\D.rt v H'
def PE(X:Cx)(e:On)(t:TE):Prop:=
 ∀(p:À ĺ)(s:Da)(a:St)(H:Hp)(Q:VK),ì p a H s->ϧE->Ĕ ϸR ϷT X.xe s
def PT(X:Cx)(e:On)(t:TT):Prop:=
 ∀(p:À ĺ)(s:Da)(a:St)(H:Hp)(Q:Bool->į Hp),ì p a H s->ϧE->Ĕ (Ϭ0 ϸR) ϏV X.xe s
def PW(X:Cx)(e:On)(t:TT):Prop:=
 ∀(whole:Sem Db)(p:À ĺ)(s:Da)(a:St)(H:Hp)(Q:Bool->į Hp),ì p a H s->ϧE->Ĕ (Ϭ0 whole) ϏV X.xe s
def PW.pt(h:PW X e t):Ϸy e t:=h _
def PA(X:Cx)(e:À On)(t:TA):Prop:=
 ∀(pos:Pos)(p:À ĺ)(s:Da)(a:St)(H:Hp)(Q:Ý (À V) Hp),ì p a H s->ϧE->Ĕ (spliced<|ϰU<|starEach e X.env) (AP X p a Q) X.xe s
def PS(X:Cx)(T:No)(t:TS):Prop:=
 ∀(p:À ĺ)(s:Da)(a:St)(H:Hp)(D:Ends),ì p a H s->t D a H->Ĕ (exec T X.env) (ϻw p D) X.xe s
def PSs(X:Cx)(T:À No)(t:TS):Prop:=
 ∀(p:À ĺ)(s:Da)(a:St)(H:Hp)(D:Ends),ì p a H s->t D a H->Ĕ (execs T X.env) (ϻw p D) X.xe s
def Rn(h:wpAny M A t Q E s)(q:∀a s,Q a s->Q' a s):wpAny M A t Q' E s:=K8m h q ϮZ
section
variable{X:Cx}
def cx(i:Nat):TE:=λa H Q=>∃v,ϰ5=Â ă/\Q v H
def tC(v:V):TE:=λ_ H Q=>Q v H
def aA{pos:Pos}(n:Ξ)(V:Ϻm x)(D:ġ "__debug__")(d:ġ "__classdict__"):ç (Ü pos) ϰg:=by
 ext p s b H Q I h;let(v,e,h):=h;let(m,N,a):=I.loc;let(u,r,l):=a i x v n e V;let fin:ϳX p b Q u s:=Ϗe;rcases l with⟨k,M⟩|⟨k,c,hc,C⟩
 .exact ϑO (ϔk k N M fin)
 rcases k with k|k
 .exact ϑO (ϔu k hc C fin)
 show ϑO (wpAny_loadName_free I.ok.kind k hc C fin d)
def nQ{i j pos}:ç (ė (Á i) j pos) (tC<|Á i):=ϻY (wpAny_Constant_int ⟨Á i,H,Ϸ5,϶D,h⟩)
def GW{b j pos}:ç (ė (ß b) j pos) (tC ϱz):=ϻY (Constant_bool ⟨ϱz,H,I,rfl,h⟩)
def Qu{j pos}:ç (ė æ j pos) (tC .Re):=ϻY (Constant_none ⟨.Re,H,I,rfl,h⟩)
def Ih{x j pos}:ç (ė (Ô x) j pos) (tC<|Ô x):=ϻY (Calls.Constant_str ⟨Ô x,H,Ϸ5,϶D,h⟩)
def Gl(X:Cx)(x:Str):Prop:=Ϗv=Â .globalImplicit
def qJ{pos:Pos}(I:ø)(hg:Ħ x)(M:ϧ9=ě)(h:Q u s)(d:ġ "__debug__"):Ĕ (ϲ3<|Ü pos) Q E s:=
 ϓE (Calls.loadGlobal_global (Ù I.ok.glob ύ1) M h) d
def gJ{pos:Pos}(I:ø)(hg:Ħ x)(M:Ϻz)(v:ϷN=ě)(h:Q u s)(n:Ν ϷL)(d:ġ "__debug__"):Ĕ (ϲ3<|Ü pos) Q E s:=by let(m,a,b):=I.mod.blt;show ϓE (Calls.loadGlobal_builtin (Ù I.ok.glob ύ1) M (Ù I.ok.blt<|a.keeps I.bk) (è (b x n) v) h) d
def Dv{pos:Pos}(hg:Ħ x)(M:ϧ9=ě)(r:ϱu)(d:ġ "__debug__"):ç (Ü pos) (tC v):=
 ϻY (ϪU M Ϗe d)
def Df{pos:Pos}(hg:Ħ x)(M:Ϻz)(V:ϷN=ě)(r:ϱu)(n:Ν ϷL)(d:ġ "__debug__"):ç (Ü pos) (tC v):=
 ϻY (ϦW V Ϗe n d)
variable{ta tb:TE}{pos:Pos}
def AW(b:On)(h:op≠.In)(H:op≠.NotIn):à ϥZ:=by
 let e1:à (op==CmpOp.In):=Ϭo (ϲv h)
 let E:à ϗS:=Ϭo (ϲv H)
 cases b<;>simp[behindInMarks,e1,E]
def tB(t:TE):TT:=ϱW ((ϭW (Q c h)))
def Gv(h:ç e t)(he:ž (∀whole,Ϭ0 whole=(do let v <-whole;standAt e.pos;holding [v] (truthy v))) mqae._auto_1):Ϸy e (tB t):=by
 ext p s c H Q I w;apply isTrue_plain (ϴL<|ϥd c H _ I w)<|he _;let(x,a,i,r,b):=zz;let(d,rfl,q):=b;cases r;show K8b ⟨a,i,q⟩
variable{rest:À On}
def U7(t u:TT):TT:=ϱW (λc h=>Ï ϰ1 (u a h Q) (Q false h))
def tOr(t u:TT):TT:=ϱW (λc h=>Ï ϰ1 (Q true h) (u a h Q))
def Ti(t:TT):TT:=ϱW (λc h=>Q (!c) h)
def Lf(A:ϪC):PW X (ϱp And [a]) tA:=by
 ext w p s b H Q I h;apply isTrue_and ϔa;cases c with|true=>show isTrue_and_nil e|false=>show e
def HE(A:ϪC):PW X (ϱp Or [a]) tA:=by
 ext w p s b H Q I h;apply isTrue_or ϔa;cases c with|false=>show isTrue_or_nil e|true=>show e
def QY(A:ϪC)(B:PW X (ϱp And ϲ6) tB'):PW X (ϱp And<|a::ϲ6) (U7 tA tB'):=by
 ext w p s e H Q I h;apply isTrue_and<|Rn ϩb λc s1 zz=>?_;let(d,i,q):=zz;cases c with|true=>show Ϙs|false=>show(d,i,q)
def Nn(A:ϪC)(B:PW X (ϱp Or ϲ6) tB'):PW X (ϱp Or<|a::ϲ6) (tOr tA tB'):=by
 ext w p s e H Q I h;apply isTrue_or<|Rn ϩb λc s1 zz=>?_;let(d,i,q):=zz;cases c with|true=>show(d,i,q)|false=>show Ϙs
def Iz(A:ϪC):Ϸy ϬJ (Ti tA):=ϖa (isTrue_not<|ϫo d H (λc b=>Q (!c) b) I h)
def NR(t tb:TE):TE:=ϱW ((ϭW (Ï ϰ1 (tb a h Q) (Q ϮO h))))
def Vz(t tb:TE):TE:=ϱW ((ϭW (Ï ϰ1 (Q ϪP h) (tb a h Q))))
def NN(t:TE):TE:=ϱW ((ϭW (Q (.bl<|!c) h)))
def Qr{op}(h:ç a t):ç ϖu t:=λp s b H Q I w=>BoolOp_one<|ϥd b H Q I w
def OE(A:ç a ta)(B:ç (ϱp And ϲ6) tb):ç (ϱp And<|a::ϲ6) (NR ta tb):=by
 ext p s e H Q I h;apply BoolOp_and<|ϴL ϩb;let(x,d,i,r,q):=zz;let(c,rfl,q):=q;cases r;apply K8b ?_;cases c with|true=>show ϧP e d Q i q|false=>show(ϮO,d,i,rfl,q)
def Tf(A:ç a ta)(B:ç (ϱp Or ϲ6) tb):ç (ϱp Or<|a::ϲ6) (Vz ta tb):=by
 ext p s e H Q I h;apply BoolOp_or<|ϴL ϩb;let(x,d,i,r,q):=zz;let(c,rfl,q):=q;cases r;apply K8b ?_;cases c with|false=>show ϧP e d Q i q|true=>show(ϪP,d,i,rfl,q)
def OY(A:ç a ta):ç ϬJ (NN ta):=by
 ext p s e H Q I h;apply UnaryOp_<|ϴL ϩb;let(x,d,i,r,b):=zz;let(c,rfl,b):=b;cases r;show not_of<|K8b ⟨.bl<|!c,d,i,rfl,b⟩
def tIf(t:TT)(T tb:TE):TE:=ϱW (λc h=>Ï ϰ1 (T a h Q) (tb a h Q))
def Jm(hc:Ϸy c tA)(A:ç a ta)(B:ç b tb):ç ϗo (tIf tA ta tb):=by
 ext p s e H Q I h;apply wpAny_IfExp ϓX;let(f,i,q):=zz;cases d with|true=>show A p s1 e f Q i q|false=>show ϧP e f Q i q
end
def Xa(K:At)(H:Hp)(a:Ix)(s:À V):Prop:=
 ϶7 (ä s)\/
  ∃(o:Obj)(i:ϰ3 Db)(n:Nat),Ϯ0=Ø/\o.cls=ć "list"/\o.dict=none/\o.data=ϰm i n/\Ą i.size/\Ϸc i.toList
def Yr(K:At)(H:Hp)(a:Ix)(s:À V):Prop:=
 ϶7 (Ī s)\/
  ∃(o:Obj)(i:ϰ3 Db)(n:Nat),Ϯ0=Ø/\o.cls=ć "tuple"/\o.data=ϰm i n/\Ą i.size/\Ϸc i.toList
def VR:Db->Ö V|.none=>Â .Re|.bool b=>Â ϱz|.int i _=>Â<|Á i|.str x _=>Â<|Ô x|.bytes b _=>Â<|.byt b|.float b _=>Â<|.flt b|.ref a=>Â<|Ä a|.type n=>Â<|.ty n|_=>none
def RelV.abs(r:ϱx u):VR u=Đ:=by
 cases x with
 |Re=>cases r;rfl
 |bl _=>cases r;rfl
 |int _=>let(t,rfl):=r;rfl
 |str _=>let(t,rfl):=r;rfl
 |byt _=>let(t,rfl):=r;rfl
 |flt _=>let(t,rfl):=r;rfl
 |ref _=>cases r;rfl
 |ty _=>cases r;rfl
def RelV.inj(r:ϱx u)(q:ϳF):x=y:=Zh<|r.abs.symm.trans q.abs
theorem Vals.inj:∀{s y:À V}{us:À Db},Ϸc us->Vals y us->s=y|_,_,_,.nil,.nil=>rfl|_,_,_,.cons r t,.cons r' t'=>by rw[r.inj r',Vals.inj t t']
section
variable{X:Cx}{s:Da}{xs ys:À V}
def Xa.of{K:At}(h:H a=Â (ä xs)):ϱ7 xs:=Ê<|Ê h
def Yr.of{K:At}(h:H a=Â (Ī xs)):όD K:=Ê<|Ê h
def Inv.list(I:ø)(h:ϺG xs):∃i:À Db,Ϲn i/\PlainL s.heap a i.toArray/\Ą xs.length:=by
 rcases h with h|⟨o,i,n,k,hc,d,S,Z,r⟩
 .let(z,i,n,r,e):=h.ok I.Uf
  show(i,r,(_,n,e,rfl,rfl,rfl),z)
 apply(i.toList,r,(o,n,I.Zj a o k,hc,d,ϘY),?_);let e:=r.length;simp only[K8t]at e;lia
def Inv.tuple(I:ø)(h:όD X.K):∃i:À Db,Ϲn i/\IsTup s.heap a i.toArray/\Ą xs.length:=by
 rcases h with h|⟨o,i,n,k,hc,S,Z,r⟩
 .let(z,i,r,p):=h.ok I.Uf
  show(i,r,p,z)
 apply(i.toList,r,(o,I.Zj a o k,hc,n,ϘY),?_);let e:=r.length;simp only[K8t]at e;lia
def Inv.Zy(I:ø)(h:ϺG xs)(c:ϺG ys):xs=ys:=by
 obtain⟨i,r,⟨o,n,e,_,_,d⟩,_⟩:=I.list h;obtain⟨its',R,⟨O,N,e',_,_,d'⟩,_⟩:=I.list c;rw[e]at e';cases e';rw[d]at d';injection d' with d1 _
 let:i=its':=ť Ϙt
 subst this;show r.inj R
def Inv.tuple_inj(I:ø)(h:όD X.K)(c:Yr X.K H a ys):xs=ys:=by
 obtain⟨i,r,⟨o,e,_,n,d⟩,_⟩:=I.tuple h;obtain⟨its',R,⟨O,e',_,N,d'⟩,_⟩:=I.tuple c;rw[e]at e';cases e';rw[d]at d';injection d' with d1 _
 let:i=its':=ť Ϙt
 subst this;show r.inj R
end
abbrev Cx.wish(X:Cx)(E:Ý Db Da):Cx:={X with xe:=E}
abbrev Cx.nox(X:Cx):Cx:=X.wish ϳt
def Cx.Ok.wish{X:Cx}(ok:X.Ok)(E:Ý Db Da):(Ϫs).Ok:=
 ϒA
def Cx.Ok.Yh{X:Cx}{E:Ý Db Da}(ok:(Ϫs).Ok):X.Ok:=
 ϒA
section
variable{X:Cx}
def Inv.wish(I:ø)(E:Ý Db Da):Ϲe Ϫs H s:=(ϥK (I.ok.wish E) I.pin)
def Inv.Yh(I:Ϲe Ϫs H s):ø:=(ϥK I.ok.Yh I.pin)
def SP.Yh(h:SP Ϫs D0 D f s'):ϻw D0 D f s':=by
 cases f with|next=>let(a,H',I,q):=h;show(a,H',I.Yh,q)|brk=>let(a,H',I,q):=h;show(a,H',I.Yh,q)|cont=>let(a,H',I,q):=h;show(a,H',I.Yh,q)|ret u=>let(v,a,H',I,r,q):=h;show(v,a,H',I.Yh,r,q)
def PSs.nox{T:À No}(h:PSs X.nox T t):ϵp T t:=λp s a H D I w=>K8m (ϥd a H D (I.wish _) w) (λ_ _ q=>q.Yh) λ_ _ z=>False.elim z
end
section
variable{X:Cx}{st:No}{rest:À No}{t u:TS}{te:TE}{pos:Pos}
def NW:TS:=λD a H=>ϥk H
def UN(t u:TS):TS:=λD a H=>t {D with nx:=u D} a H
def vM:ϵp [] NW:=λ_ _ a H _ I h=>K8U ⟨a,H,I,h⟩
def pY(b:ϲf st t)(c:ϵp rest u):ϵp (st::rest) (UN t u):=by
 ext p s d H D I h;apply ϕa<|b p s d H {D with nx:=u D} I h;cases f with|next=>let(a,H',i,q):=q;show c p s1 a H' D i q|ret v=>show q|brk=>show q|cont=>show q
def vA(a:ϲf st t):ϵp [st] t:=by
 ext p s b H D I h;apply ϕa<|a p s b H D I h;cases f with|next=>show K8U q|ret v=>show q|brk=>show q|cont=>show q
def Inv.quiet(I:ø):à (interactive X.env):=by simp[interactive,I.ok.kind]
def kO(te:TE):TS:=ϐq (λ_ h=>ϥk h)
def nt(he:ç e te)(S:Ñ (ϦH none pos.line X.env=ϳy)):ϲf (ϳT e pos) (kO te):=ϖL (wpAny_Expr_any (Rn Ϭ7 λv s1⟨x,b,i,r,q⟩=>⟨a,b,i,q⟩) I.quiet S)
def HX(te:TE):TS:=ϐq D.rt
def rC(he:ç e te):ϲf (Ϧ4 Ϲl) (HX te):=ϖL (wpAny_Return_some<|Rn Ϭ7 λv s1⟨x,b,i,r,q⟩=>⟨x,a,b,i,r,q⟩)
def H0(c:TT)(t u:TS):TS:=λD a H=>c a H λb h=>Ï ϸi (t D a h) (u D a h)
def CK(hc:Ϸy c tc)(A:ϵp a t)(B:ϵp b u):ϲf (.If c a b pos) (H0 tc t u):=by
 ext p s e H D I h;apply wpAny_If ϓX;let(f,i,q):=zz;cases d with|true=>show A p s1 e f D i q|false=>show ϧP e f D i q
def HW:TS:=Ϧb
def IB:ϲf st HW:=λ_ _ _ _ _ _ h=>h.elim
end
abbrev TG:=V->St->Ý Hp (Ý St Hp)
abbrev TGs:=À V->St->Ý Hp (Ý St Hp)
def PG(X:Cx)(target:On)(t:TG):Prop:=
 ∀(p:À ĺ)(s:Da)(b:St)(H:Hp)(v:V)(u:Db)(Q:Ý St Hp),ì p b H s->ϱu->t v b H Q->
  Ĕ (assign target X.env u) (λ_ S=>∃a H',ì p a H' S/\Q a H') X.xe s
def PGs(X:Cx)(T:À On)(t:TGs):Prop:=
 ∀(p:À ĺ)(s:Da)(b:St)(H:Hp)(d:À V)(us:À Db)(Q:Ý St Hp),ì p b H s->Vals d us->t d b H Q->
  Ĕ (assignInOrder (Ó (assignEach T X.env) ň) us) (λ_ S=>∃a H',ì p a H' S/\Q a H') X.xe s
abbrev Sa:=V->V->V->Ý Hp (į Hp)
def T5(X:Cx)(t:Sa):Prop:=
 ∀(p:À ĺ)(s:Da)(a:St)(H:Hp)(o i v:V)(O I u:Db)(Q:į Hp),ì p a H s->RelV o O->RelV i I->ϱu->t o i v H Q->
  Ĕ (setItem O I u) (λ_ S=>∃H',ì p a H' S/\Q H') X.xe s
abbrev TIp:=V->V->Ý Hp VK
def PIp(X:Cx)(op:Operator)(t:TIp):Prop:=
 ∀(p:À ĺ)(s:Da)(a:St)(H:Hp)(x y:V)(v u:Db)(Q:VK),ì p a H s->ϱx v->ϳF->t x y H Q->
  Ĕ (inplaceOp op v u) ϷT X.xe s
section
variable{X:Cx}{pos:Pos}
def o7(i:Nat):TG:=λv a H Q=>Q (ϲU ă) H
def CO(n:X.N.Nodup)(hi:Ξ)(b:ϲT x)(f:ž (ϴg\/ϲi=Â Ų) mqad._auto_1):PG X (Ü pos) (o7 i):=by ext p s c H v u Q I r h;show wpAny_assign_Name<|mh I n hi b r (λS a=>⟨_,H,a,h⟩) f
def Tp:TGs:=λd a H Q=>d=[]/\Q a H
def Nh(t:TG)(u:TGs):TGs:=λd b H Q=>∃v r,d=v::r/\t v b H λa H'=>u r a H' Q
def Kv:ϥD [] Tp:=by ext p s a H d us Q I r h;let(e,h):=h;subst e;cases r;show assignInOrder_nil ⟨a,H,I,h⟩
def Iw(c:PG X e t)(d:ϥD es u)(S:Ñ (Ó (Ϻh ď) ň=assign e X.env::Ó (Ϻh es) ň)):ϥD ď (Nh t u):=by
 ext p s f H g us Q I r h;let(v,V,e1,h):=h;subst e1;cases r with
 |cons r rr=>
  rw[S];apply assignInOrder_cons<|Ϫa (c p s f H _ _ _ I r h) s1;let(a,b,i,q):=zz;show d p s1 a b _ _ Q i rr q
def Sq(K:At)(n:Nat)(t:TGs):TG:=λv b H Q=>∃a s,v=Ä a/\Ϥn/\s.length=n/\t s b H Q
def RL(hc:ż)(h:ϥD es t)(N:Ñ (Ì (Ϻh es)=n))(S:Ñ ((Ϻh es).findIdx? ģ=none)):PG X (Ϥd k pos) (Sq X.K n t):=by
 ext p s c H v u Q I r w;let(a,f,e1,q,l,w):=w;subst e1;cases r;let(T,R,j,Z):=I.tuple q;apply assign_Tuple_tuple ϱV j (by simp[N,<-l,R.length]) S λd x=>?_;let i:ì p c H ϩf:=I.kept (t':=s.toks) (ϱk (x b o (Ym ϵt) e));show h p _ c H f _ Q i (by simpa using R) w
def QN(to T:TE)(t:Sa):TG:=λv a H Q=>to a H λo h=>T a h λi b=>t o i v b λc=>Q a c
def J3(O:ç o to)(hi:ç i ti)(S:T5 X t)(A:autoParam (∀v,Ϧr (û o i pos) v=(do
   let ov <-holding [v] (eval o X.env)
   let iv <-holding [v,ov] (eval i X.env)
   standAt pos
   holding [v,ov,iv] (setItem ov iv v)
   release [v,ov,iv] [])) mqae._auto_1):PG X (û o i pos) (QN to ti t):=by
 ext p s a H v u Q I r h;rw[A];apply Fq<|ϸ8<|Rn ϗT λov s1 zz=>?_;let(x,b,e,R,q):=zz;apply Fq<|ϸ8<|Rn (ϧW s1 a b _ e q) λiv m zz=>?_;let(y,c,f,l,j):=zz;apply Fq<|K7e<|Fq<|ϸ8<|Rn (S p m a c x y v ov iv u _ f R l r j) λ_ n zz=>?_;let(d,g,k):=zz;show wpAny_release ⟨a,d,g,k⟩
def zd(te:TE)(g:TG):TS:=ϐq (λx h=>g x a h D.nx)
def Br(he:ç e te)(hg:ϫt g)(S:Ñ (ύy tg=ϳy))(w:Ñ (ύv tg))(c:Ñ (ϫS tg)):ϲf (ϳc [tg] e pos) (zd te g):=by
 ext p s a H D I h;apply wpAny_Assign_stores (ϴL Ϭ7) S w;let(x,b,i,r,Q):=zz;rw[c];show Rn (hg p s1 a b x v _ i r Q) λ_ m q=>q
def Cs(n:X.N.Nodup)(hi:Ξ)(c:ϲT x)(he:ç e te)(S:Ñ (ϦH (Â<|Ü pos') pos.line X.env=ϳy))(F:ž (ϴg\/ϲi=Â Ų) mqad._auto_1):
  ϲf (ϳc [Ü pos'] e pos) (zd te<|o7 i):=by
 ext p s d H D I h;apply wpAny_Assign_Name (ϴL<|ϯQ d H _ I h) S;let(y,a,b,r,q):=zz;show mh b n hi c r (λm f=>⟨_,a,f,q⟩) F
def Sh(i:Nat)(te:TE)(T:TIp):TS:=λD a H=>∃x,ϰ5=Â Đ/\te a H λy h=>T x y h λz b=>D.nx (ϲU<|Â z) b
def Q9(N:X.N.Nodup)(hi:Ξ)(b:ϲT x)(he:ç e te)(O:PIp X op ti)(F:ž (ϴg\/ϲi=Â Ų) mqad._auto_1):
  ϲf (.AugAssign (Ü pos') op e pos) (Sh i te ti):=by
 ext p s d H D I h;let(v,e1,h):=h;let(m,q,L):=I.loc;let V:Ϻm x:=by rcases b with k|k;show Ê k;show Ð<|Ê k
 let(u,r,l):=L i x v hi e1 V;apply wpAny_AugAssign_Name ?_;let go:Ĕ ϸR (λw S=>Ĕ (inplaceOp op u w) (λr a=>Ĕ (ώd r) (λ_=>ϻw p D ϴx) X.xe a) X.xe S) X.xe s:=by
  apply Rn (ϯQ d H _ I h) λw s1 zz=>?_;let(y,f,j,R,Q):=zz;apply Rn (O p s1 d f v y u w _ j r R Q) λz B zz=>?_;let(Z,g,n,A,t):=zz;show mh n N hi b A (λE o=>⟨_,g,o,t⟩) F
 rcases l with⟨K,M⟩|⟨K,c,hc,C⟩
 .exact ϔk K q M go
 rcases K with K|K
 .exact ϔu K hc C go
 rcases b with k|k
 .let:ϲi=Â ε:=K
  rw[k]at this;cases this
 let:ϲi=Â ε:=K;rw[k]at this;cases this
def ipI(f:ϴs Int Int):TIp:=ϰD (∃i j,x=Á i/\y=Á j/\Q (Á<|f i j) H)
def PH:PIp X .Add (ipI λi j=>i+j):=by ext p s a H x y v u Q I r l h;let(i,j,e1,E,q):=h;subst e1;subst E;let(t,rfl):=r;let(T,rfl):=l;show iadd_int (ϷG (Á _))
end
section
variable{X:Cx}{pos:Pos}
def Hi(c:TT)(tb:TS):TS:=λD a H=>∃W:Nat->Ý St Hp,(∃m,W m a H)/\∀m a H,W m a H->
 c a H λb h=>Ï ϸi (∃N:Ý St Hp,(∀d H',N d H'->∃M,M<m/\W M d H')/\ϔl a h) (ϥk h)
def Jj(P:PassesOwn ϰO X.A X.env X.xe)(hc:Ϸy c tc)(B:ϵp body tb):ϲf ϕP (Hi tc tb):=by
 ext p s u H D I h;obtain⟨W,⟨m0,t⟩,turn⟩:=h;apply wpAny_While<|codeAny_whileLoop (λn S=>∃e H',ì p e H' S/\W n e H') ?_ m0 ⟨u,H,I,t⟩;ext n s1 ⟨σ1,H1,I1,w1⟩;apply ϤR<|Rn (Ϛu<|turn n σ1 H1 w1) λb r zz=>?_;let(l,o,j):=zz;cases b with
 |true=>
  let(N,q,j):=j;rw[Č];apply ϤR<|Rn (B p r σ1 l _ o j) λf x k=>?_;cases f with|next=>let(a,d,g,i):=k;let(m,M,w):=q a d i;show(m,M,a,d,g,w)|cont=>let(a,d,g,i):=k;let(m,M,w):=q a d i;show(m,M,a,d,g,w)|brk=>show k|ret v=>show k
 |false=>rw[ϰ6];show K8U ⟨σ1,l,o,j⟩
end
structure It where
 go:Nat->į Hp
 yld:Nat->Hp->Ý V Hp
 stop:Nat->į Hp
def vo(X:Cx)(i:À ĺ)(H:Hp)(b:Ix):Prop:=
 ϰY/\ϵB/\ϯ8/\ϫ4/\(∀x c,ϲQ->c≠b)/\Ϯ9 (X.pn++i)
def Inv.fpOk(I:ø)(B:s.heap.objs.size<=b)(n:϶L):vo X D0 H' b:=by
 apply(n,Zbn<|Zt I.lt B,I.nofs B,Ð<|Zd I.sz B,λx c e z=>?_,λp h z=>?_)
 .let(v,q):=Ϥm e
  show Ć (Zt q.lt<|by rw[z];show B) Ϸd
 show Ć (ϯO (϶S h).1<|by rw[z];show B) Ϸd
structure Turn(P:Do)(w:Ev)(K:At)(tg:On)(J:It)(fp:À Ix)(it:Ix)(tn:Nat->į Op):Prop where
 mem:it∈fp
 obj:∀i h,tn i h->ϳd (∃o,ϵU=Ø/\∀v,o.data≠ŏ v)
 keep:∀i h h',tn i h->(ϳd<|∀o,Ϲ0 Ø)->tn i h'
 item:∀(X:Cx),X.prog=P->X.w=w->ϻA->ż->∀(i:Nat)(D0:À ĺ)(s:Da)(σ:St)(H:Hp)(E:Ý Db Da),ø->(ϳd Ϯx)->ϑc->J.go i H->
  wpAny Ϻy X.A (ϸz<|Ä it) (λr s1=>∃u,r=ě/\
   ϶e Ϻy X.A (ύ2 (Ä it) u) (λ_ s2=>∃x H',ì D0 σ H' s2/\ϱx u/\Ϗy/\tn (i+1) s2.heap/\ϳd ϶L) E s1) E s
 done:∀(X:Cx),X.prog=P->X.w=w->ϻA->ż->∀(i:Nat)(D0:À ĺ)(s:Da)(σ:St)(H:Hp)(E:Ý Db Da),ø->(ϳd Ϯx)->ϑc->όa H->
  ϶e Ϻy X.A (ϸz<|Ä it) (λr s1=>r=none/\ì D0 σ H s1) E s
 self:∀(A:Go)(i:Nat)(s:Da)(Q:Ý Db Da)(E:Ý Db Da),ϑc->Q (Ä it) s->Ϥf Ϻy (pyIter<|Ä it)
abbrev TI:=St->Ý Hp (Ý It Hp)
def PIE(X:Cx)(p:À ĺ)(a:St)(tg:On)(R:Ý It Hp)(i:Db)(m:Da):Prop:=
 ∃(it:Ix)(f:À Ix)(tn:Nat->į Op)(J:It)(H':Hp),i=Ä it/\ì p a H' m/\ϕQ f it tn/\tn 0 m.heap/\(Ϸl<|vo X p H' b)/\R J H'
def PI(X:Cx)(tg iter:On)(wi:TI):Prop:=
 ∀(p:À ĺ)(s:Da)(a:St)(H:Hp)(R:Ý It Hp),ì p a H s->wi a H R->
  Ĕ (ϲ3 iter) (λv s1=>Ĕ (pyIter v) (PIE X p a tg R) X.xe s1) X.xe s
def Dk{it:Ix}(g:s.heap.get? it=Ø)(hc:o.cls=ć n)(d:o.data=Κ vs)(H:à ϒz)(q:Q () s):Ϻv (ύ2 (Ä it) u) s:=by
  delta letOwnedTupleGo;cases tg<;>first
    |show Ps q
    | (cases u<;>first
        |show Ps q
        | (apply Fq<|wpAny_load g ?_
           rw[hc,d];change Ϻv (Ï (þ (ϒz&&vs[0]? ==Â (Ϩp _))) _ _) s;rw[P3<|by ext h;rw[H,Zaf]at h;cases h]
           show Ps q))
def Itl(K:At)(a:Ix):It:=
 ⟨λi H=>∃s x,ϱ7 s/\ϱP=Đ,ϭQ (∀s,ϱ7 s->ϱP=Đ),λi H=>∃s,ϱ7 s/\ϩ0⟩
def Itt(K:At)(a:Ix):It:=
 ⟨λi H=>∃s x,Ϥn/\ϱP=Đ,ϭQ (∀s,Ϥn->ϱP=Đ),λi H=>∃s,Ϥn/\ϩ0⟩
def Itr(l:Int)(n:Nat):It:=⟨λi _=>i<n,ϭQ (x=Á (l+i)),λi _=>n<=i⟩
def Fz{P:Do}{w:Ev}{K:At}{tg:On}(a it:Ix):Ϭs (Itl K a) ϗU where
 mem:=Û
 obj:=λi h T b B=>by
  let e:b=it:=ϳp
  subst e;let(o,e,c,d):=T;show(o,e,Ϭh)
 keep:=λi h f T k=>T.at λo e=>k it Û o e
 item:=by
  ext X y W r hc i n s C H E I F T hg;subst y W r;let(N,x,q,A):=hg;let(S,R,p,Z):=I.list q;let(u,U,L):=R.get A;let(g,j,J,l,f4,m):=F it Û;apply wpAny_pyNext_list_item T p.isList (x:=u) Ϭ8 λf t M=>?_;let D:ì n C H ϭr:=ϥP (è (M.2 b B) e) l f4 m;let(o,e,c,d):=id t;show(u,rfl,Dk (s:=ϭr) e c d á ⟨x,H,D,L,ϱB (ϖb I.Zy),t,ϫr (F b B)⟩)
 done:=by
  ext X y W r hc i n s C H E I F T hg;subst y W r;let(N,q,A):=hg;let(S,R,p,Z):=I.list q;let(g,j,J,l,f4,m):=F it Û;let O:=R.length;show wpAny_pyNext_list_end ϱV T p.isList ϴd λf G=>(ϱB (ϥP ϯq l f4 m))
 self:=ϬS wpAny_pyIter_listiter
def BM{P:Do}{w:Ev}{K:At}{tg:On}(a it:Ix):Ϭs (Itt K a) (h.IsTupleIter it a i) where
 mem:=Û
 obj:=λi h T b B=>by
  let e:b=it:=ϳp
  subst e;let(o,e,c,d):=T;show(o,e,Ϭh)
 keep:=λi h f T k=>T.at λo e=>k it Û o e
 item:=by
  ext X y W r hc i n s C H E I F T hg;subst y W r;let(N,x,q,A):=hg;let(t,R,p,Z):=I.tuple q;let(u,U,L):=R.get A;let(g,j,J,l,f4,m):=F it Û;apply wpAny_pyNext_tuple_item T (ύS s.heap.IsTuple) (x:=u) Ϭ8 λf S M=>?_;let D:ì n C H ϭr:=ϥP (è (M.2 b B) e) l f4 m;let(o,e,c,d):=id S;show(u,rfl,Dk (s:=ϭr) e c d á ⟨x,H,D,L,ϱB (ϖb I.tuple_inj),S,ϫr (F b B)⟩)
 done:=by
  ext X y W r hc i n s C H E I F T hg;subst y W r;let(N,q,A):=hg;let(t,R,p,Z):=I.tuple q;let(g,j,J,l,f4,m):=F it Û;let O:=R.length;show wpAny_pyNext_tuple_end ϱV T (ύS s.heap.IsTuple) ϴd λf G=>(ϱB (ϥP ϯq l f4 m))
 self:=ϬS wpAny_pyIter_tupleiter
def BL{P:Do}{w:Ev}{K:At}{tg:On}(it:Ix)(l:Int)(n:Nat):Ϭs (Itr l n) (ϕN 1 (Ũ-(i:Nat)) 1) where
 mem:=Û
 obj:=λi h T b B=>by
  let e:b=it:=ϳp
  subst e;show(_,T,ϓc)
 keep:=λi h c T k=>k it Û _ T
 item:=by
  ext X y a r hc i p s d H E I f T hg;subst y a r;let(g,j,J,F,f4,m):=f it Û;let W:=Walks.range (prog:=X.prog) (w:=X.w) ϱV it l 1 n;apply ϓR;let(t,rfl):=V;let q:ì p d H Ϭq:=I.turned (λb o B e=>u b o ϳp e) g j F f4 m;apply(_,rfl,Dk (s:=Ϭq) (n:="range_iterator") S rfl rfl á ⟨Á<|l+i,H,q,⟨t,?_⟩,Ϧu,S,ϫr (f b B)⟩);rw[Int.mul_one]
 done:=by
  ext X y a r hc i p s d H E I f T hg;subst y a r;let(g,j,J,F,f4,m):=f it Û;show wpAny_pyNext_range_end ϱV T ϖf λc G=>(ϱB (ϥP ϯq F f4 m))
 self:=ϬS wpAny_pyIter_rangeiter
section
variable{X:Cx}
def Bj(K:At)(tl:TE):TI:=λb H R=>tl b H λx h=>ύT (x=Ä a) Xa Itl
def Va(K:At)(tl:TE):TI:=λb H R=>tl b H λx h=>ύT (x=Ä a) Yr Itt
def CN(L:ç l tl):ϸa l (Bj X.K tl):=by
 ext i s g H R I h;apply ϴL ϗV;let(x,d,c,r,f):=zz;obtain⟨a,e,⟨S,Q⟩,q⟩:=f;subst e;cases r;let(t,V,p,Z):=c.list Q;apply wpAny_pyIter_list p.isList ?_;apply(s1.heap.objs.size,ϗW,_,_,d,rfl,ώn ((ϱk (Ĺ e))),Fz a _,(_,θ,rfl,rfl),ϺK,q);let e:ώo:=ϳp
 subst e;show c.fpOk õ<|c.Uf.fresh õ
def Qk(L:ç l tl):ϸa l (Va X.K tl):=by
 ext i s g H R I h;apply ϴL ϗV;let(x,d,c,r,f):=zz;obtain⟨a,e,⟨S,Q⟩,q⟩:=f;subst e;cases r;let(t,V,p,Z):=c.tuple Q;apply wpAny_pyIter_tuple (ύS s1.heap.IsTuple) ?_;apply(s1.heap.objs.size,ϗW,_,_,d,rfl,ώn ((ϱk (Ĺ e))),BM a _,(_,θ,rfl,rfl),ϺK,q);let e:ώo:=ϳp
 subst e;show c.fpOk õ<|c.Uf.fresh õ
def Bn{l hi:Int}(I:ø)(h:-ϰj<=l)(c:l<ϰj)(d:-ϰj<=hi)(f:hi<ϰj)(q:R (Itr l (ē (hi-l))) H):Ĕ (pyIter<|Ä s.heap.objs.size) ϗp E ((ϳ9 (Ţ ((Ģ "range" (Κ #[Á l t,Á hi u,Á 1 v])))) tk)):=by
 apply wpAny_pyIter_range ϭs (small_one h c d f) ?_;let i:ì D0 σ H ((ϳ9 (Ţ ((Ģ "range" (Κ #[Á l t,Á hi u,Á 1 v])))) tk)):=I.kept (ϱk (Ĺ e))
 apply(ϰA (Ţ<|(Ģ "range" (Κ #[Á l t,Á hi u,Á 1 v]))),[ϰA (Ţ<|(Ģ "range" (Κ #[Á l t,Á hi u,Á 1 v])))],_,_,H,rfl,
  i.kept (t':=tk) (ϱk (Ĺ e)),BL _ l (ē (hi-l)),?_,ϺK,q)
 .let e1:l+Ë ϶2*1=l:=Û
  let a:Ë ((ϱF ((ē (hi-l)))))-Ë ϶2=ϔR 1:=ύj
  change IsRangeIter _ _ (l+Ë ϶2*1) (Ë ((ϱF ((ē (hi-l)))))-Ë ϶2) 1;rw[e1,a];show θ
 let e:b=ϰA (Ţ<|(Ģ "range" (Κ #[Á l t,Á hi u,Á 1 v]))):=ϳp
 subst e;show i.fpOk õ<|i.Uf.fresh õ
def Of(t:TA):TI:=ώS (∃j:Int,d=[Á j]/\-ϰj<=j/\j<ϰj/\R (Itr 0 j.toNat) h)
def Nc(t:TA):TI:=ώS (∃i j:Int,d=[Á i,Á j]/\(-ϰj<=i/\i<ϰj/\-ϰj<=j/\j<ϰj)/\R (Itr i (ē (j-i))) h)
def E_{p pos:Pos}(hg:Ħ "range")(M:ϷJ)(A:ϰM [a] ta)(S:Ñ (Õ [a]=ϱj π)):ϸa (ô (ú "range" p) [a] pos) (Of ta):=by
 ext i s f H R I h;apply Call_<|Ϩx<|Ϲ4 (ϫf i s f H _ I h) S rfl;let(v,g,c,d,b):=zz;let(j,e,b,Q,q):=b;subst e;cases d with|cons r rr=>cases rr;let(t,rfl):=r;show call_range_1 (Bn c Ã Ã b Q<|ť q)
def Es{p pos:Pos}(hg:Ħ "range")(M:ϷJ)(A:ϰM ψ ta)(d:Ñ (Õ ψ=ϦQ π ϲV))(S:Ñ (Õ [b]=ϱj ϲV)):
  ϸa (ô (ú "range" p) ψ pos) (Nc ta):=by
 ext n s m H R I h;apply Call_ (Ϩx<|Ϲ4 (ϫf n s m H _ I h) (by rw[d,S])<|by rw[S];rfl);let(v,o,c,l,Q):=zz;obtain⟨i,j,e,⟨Q,f,k,g⟩,q⟩:=Q;subst e;cases l with
 |cons r rr=>
  cases rr with|cons r' rr=>cases rr;let(t,rfl):=r;let(T,rfl):=r';show call_range_2<|Bn c Q f k g q
def SU(wi:TI)(g:TG)(tb:TS):TS:=λD a H=>wi a H λJ h=>∃W:Nat->Nat->Ý St Hp,(∃m,W 0 m a h)/\∀i m a H,W i m a H->
 (όa H/\ϥk H)\/(J.go i H/\∃N:Ý St Hp,(∀b H',N b H'->∃M,M<m/\W (i+1) M b H')/\∀x H',Ϗy->g x a H' λc d=>ϔl c d)
def xk(f:À Ix)(h:Op):À ĺ:=f.filterMap λb=>Ó ϵU λo=>(b,o)
def nX(B:b∈fp)(e:ϵU=Ø):(b,o)∈xk fp h:=ώa ⟨b,B,by rw[e];rfl⟩
def Er(H:p∈xk fp h):p.1∈fp/\h.get? p.1=Â p.2:=by
 let(b,B,e):=List.mem_filterMap.mp H;cases q:h.get? b with
 |none=>rw[q]at e;cases e
 |some o=>rw[q]at e;let e':(b,o)=p:=Zh e;subst e';show(B,q)
def Inv.pinned(I:ø)(f:ϳd Ϯx)(h:ϳd (∃o,ϰx=Ø/\∀v,o.data≠ŏ v)):ì (D0++xk fp s.heap) σ H s:=
 I.pins_of λp P=>ϑb P (λz=>϶S<|Ļ z) λz=>by let(B,e):=Er z;let(g,j,J,_):=f p.1 B;let(o,e',d):=h p.1 B;rw[e]at e';cases e';show(e,g,j,J,d)
def Inv.Yi(I:ì (D0++pl) σ H s):ø:=I.pins_of λp h=>϶S<|Ļ<|Ŀ h
def Rw{pos:Pos}(P:PassesOwn ϰO X.A X.env X.xe)(hc:ż)(hi:ϸa iter wi)(hg:ϫt g)(B:ϵp body tb)(hs:ϹP):ϲf ϔS (SU wi g tb):=by
 ext p s L H D I h;apply wpAny_For (Rn (ϧW s L H _ I h) λv s1 Z=>Rn Z λitv s2 h2=>?_) hs;obtain⟨it,F,tn,J,M,e,Q,T,z,E,W,⟨m0,w0⟩,turn⟩:=h2;subst e;let t:∀{H':Hp},(∀b∈F,϶L)->∀b∈F,vo X p H' b:=λhn b B=>⟨hn b B,(E b B).2⟩
 apply codeAny_forLoop_any (λn G=>∃i k H',ì p k H' G/\tn i G.heap/\(∀b∈F,϶L)/\W i n k H') ?_ m0 ⟨0,L,M,Q,z,ϫr (E b B),w0⟩;ext n s3 ⟨i,σ3,H3,I3,st3,fr3,w3⟩;rcases turn i n σ3 H3 w3 with⟨stop,qn⟩|⟨go,N,hN,step⟩
 .apply ϤR<|ϭO (T.done X rfl rfl rfl hc i p s3 σ3 H3 X.xe I3 (t fr3) st3 stop);let(hr,U):=zz
  subst hr;show K8U ⟨σ3,H3,U,qn⟩
 apply ϤR<|ϭO (T.item X rfl rfl rfl hc i p s3 σ3 H3 X.xe I3 (t fr3) st3 go);let(u,hr,h4):=zz;subst hr;apply ϤR<|Ϫa h4 K;let(x,C,V,r5,y5,S,R):=zz;let w:=V.pinned (t R)<|ϯd S;apply ϤR<|Ϫa (Ϛc<|step x C y5) s6;let(A,O,Y,q6):=zz;apply ϤR<|Rn (B _ s6 A O _ Y q6) λf y q=>?_;let again:∀{a:St}{c:Hp},ì (p++xk F K.heap) a c y->N a c->∃m,m<n/\∃i k H',ì p k H' y/\tn i y.heap/\(∀b∈F,϶L)/\W i m k H':=fun{a c} j l=>by
  let(m',hm,w7):=hN a c l;apply(m',hm,i+1,a,c,j.Yi,ϐv S (λb B o e=>(ϔL<|Ļ<|Ļ<|nX B e).1),ϺK,w7);let(o,e,d):=ϯd S b B;show(ϔL<|Ļ<|Ļ<|nX B e).2.1
 cases f with|next=>let(a,c,j,l):=q;show again j l|cont=>let(a,c,j,l):=q;show again j l|brk=>let(a,c,j,q):=q;show(a,c,j.Yi,q)|ret v=>let(x7,a,c,j,r7,q):=q;show(x7,a,c,j.Yi,r7,q)
end
abbrev R2:=V->V->Ý Hp VK
def Yd(X:Cx)(f:ϩv)(r:R2):Prop:=
 ∀(p:À ĺ)(s:Da)(a:St)(H:Hp)(x y:V)(v u:Db)(Q:VK),ì p a H s->ϱx v->ϳF->ϪD->
  Ĕ (f v u) ϷT X.xe s
def UnR(X:Cx)(f:Db->Sem Db)(r:V->Ý Hp VK):Prop:=
 ∀(p:À ĺ)(s:Da)(a:St)(H:Hp)(x:V)(v:Db)(Q:VK),ì p a H s->ϱx v->ϫu->
  Ĕ (f v) ϷT X.xe s
def d5(X:Cx)(f:Db)(r:À V->Ý Hp VK):Prop:=
 ∀(p:À ĺ)(s:Da)(a:St)(H:Hp)(x:À V)(us:À Db)(Q:VK),ì p a H s->Vals x us->ϫu->
  Ĕ (call f us) ϷT X.xe s
def W_(r:R2)(t tb:TE):TE:=ϱW (λx h=>tb a h λy b=>r x y b Q)
def tUn(r:V->Ý Hp VK)(t:TE):TE:=ϱW (λx h=>r x h Q)
def rI(C:Ý Int Int)(g:ϴs Int V):R2:=ϰD (∃i j,x=Á i/\y=Á j/\C i j/\ξ ϶9)
def rI0(g:ϴs Int V):R2:=ϰD (∃i j,x=Á i/\y=Á j/\ξ ϶9)
def rU(g:Int->V):V->Ý Hp VK:=λx H Q=>∃i,x=Á i/\ξ (g i)
section
variable{X:Cx}{pos:Pos}
def RF(A:ç a ta)(B:ç b tb){R:V->Ý V Hp}(I:ø)(h:ta σ H λx e=>tb σ e λy c=>R x y c){Q:Ý Db Da}{f:ϩv}(F:∀v u m x y c,ì D0 σ c m->ϱx v->ϳF->R x y c->Ĕ (f v u) Q X.xe m):
  Ĕ π (λv S=>Ĕ ϲV (λu d=>Ĕ (f v u) Q X.xe d) X.xe S) X.xe s:=by
 apply ϴL (A D0 s σ H _ I h);let(x,e,i,r,q):=zz;apply Rn (B D0 s1 σ e _ i q) λu m zz=>?_;let(y,c,g,l,j):=zz;show F v u m x y c g r l j
def Nj(g:ϗq)(A:ç a ta)(B:ç b tb):ç ϖQ ϭ9:=ϒZ wpAny_BinOp ϔ0
def SJ(g:ϗr)(A:ç a ta):ç ϖR (tUn r ta):=by ext p s b H Q I h;show UnaryOp_<|Rn (ϫo b H _ I h) λv s1⟨x,c,i,R,q⟩=>g p s1 b c x v Q i R q
def opI{f:ϩv}{C:Ý Int Int}{g:ϴs Int Int}
  (rule:∀(i j:Int)(t u:Tok)(s:Da)(Q:Ý Db Da)(E:Ý Db Da),C i j->Q (Á ϶9 s.toks) Ϲ2->Ĕ (f (Á i t)<|Á j u) Q E s):
  Ϩa (rI C λi j=>Á ϶9):=by
 ext p s a H x y v u Q I R Y h;let(i,j,rfl,rfl,hc,q):=h;let(t,rfl):=R;let(T,rfl):=Y;show ώw hc ((ϷG (Á ϶9)))
def TL{f:ϩv}{g:ϴs Int Int}
  (rule:∀(i j:Int)(t u:Tok)(s:Da)(Q:Ý Db Da)(E:Ý Db Da),Q (Á ϶9 s.toks) Ϲ2->Ĕ (f (Á i t)<|Á j u) Q E s):
  Ϩa (rI0 λi j=>Á ϶9):=by
 ext p s a H x y v u Q I R Y h;let(i,j,rfl,rfl,q):=h;let(t,rfl):=R;let(T,rfl):=Y;show ώw ((ϷG (Á ϶9)))
def O8{f:ϩv}{g:Int->Ź Int}
  (rule:∀(i j:Int)(t u:Tok)(s:Da)(Q:Ý Db Da)(E:Ý Db Da),Q (ß ϶9) s->Ĕ (f (Á i t)<|Á j u) Q E s):
  Ϩa (Ϥg ϶9):=by
 ext p s a H x y v u Q I R Y h;let(i,j,rfl,rfl,q):=h;let(t,rfl):=R;let(T,rfl):=Y;show ώw ⟨.bl ϶9,H,I,rfl,q⟩
def Sz(i j:Int):Prop:=ώp
def H_(i j:Int):Prop:=(-(2^64)<i/\i<2^64)\/(-(2^64)<j/\j<2^64)
def H_.ok{i j:Int}(h:H_ i j):IntMulOk i j:=by
 rcases h with⟨H,a⟩|⟨H,a⟩
 .exact .of_left ϗX
 show .of_right ϗX
def Hq:϶w Add (rI0 λi j=>Á<|i+j):=TL (Ϩ4 add_int)
def yO:϶w Sub (rI0 λi j=>Á<|i-j):=TL (Ϩ4 sub_int)
def OB:϶w Mult (rI H_ λi j=>Á<|i*j):=opI λ_ _ _ _ _ _ _ hc q=>mul_int q hc.ok
def MR:϶w FloorDiv (rI Sz λi j=>Á<|i / j):=ϖm (by let h:Ë 0<j:=hc.1;let H:j<1073741824:=hc.2;show floordiv_int Ã (Ù (ϙ4 Ã) q) (Ê<|PyProof.noPylong_small Ã))
def QJ:϶w Mod (ϗY<|λi j=>Á<|i%j):=ϖm (by let h:Ë 0<j:=hc;show mod_int' Ã (Ù (ϙ5 Ã) q))
def unI{f:Db->Sem Db}{g:Int->Int}
  (rule:∀(i:Int)(t:Tok)(s:Da)(Q:Ý Db Da)(E:Ý Db Da),Q (Á (g i) s.toks) Ϲ2->Ĕ (f<|Á i t) Q E s):
  UnR X f (rU λi=>Á<|g i):=by
 ext p s a H x v Q I R h;let(i,rfl,q):=h;let(t,rfl):=R;show rule i t s _ _ (ϷG (Á<|g i))
def I_:UnR X (unaryOp .USub) (rU λi=>Á<|-i):=unI λ_ _ _ _ _ q=>neg_int q
end
def Ph:V->Ź V|.Re,.Re=>true| .Re,.int _=>true| .int _,.Re=>true| .Re,.bl _=>true| .bl _,.Re=>true| .Re,.str _=>true| .str _,.Re=>true|.int _,.int _=>true| .bl _,.bl _=>true| .str _,.str _=>true| .byt _,.byt _=>true|.int _,.str _=>true| .str _,.int _=>true| .bl _,.str _=>true| .str _,.bl _=>true|_,_=>false
def rEq:R2:=ϰD (ϫD Ph/\ϫH (Ç<|x=y))
def rNe:R2:=ϰD (ϫD Ph/\Q (.bl<|! Ç (x=y)) H)
def C7{i j:Int}:Ç (ϤF V.int)=(i==j):=ϱZ K8j
def Hw:Ç (ϤF V.bl)=(i==j):=ϱZ K8j
def C9:Ç (ϤF V.str)=(i==j):=ϱZ K8j
def Dw:Ç (ϤF V.byt)=(i.toList==j.toList):=by rw[K8j];cases i;cases j;simp
section
variable{X:Cx}{pos:Pos}
def bM(I:ø)(q:ξ Ϩn)(e:k=k'):ϳX D0 σ Q (ß k') s:=by subst e;show(Ϩn,H,I,rfl,q)
def Uv:ϵA Eq rEq:=by
 ext p s a H x y v u Q I R Y h;let(S,q):=h;cases x with
 |Re=>
  cases R;cases y with
  |Re=>cases Y;show PySem.EqNone.eq_none_none (Ι Û)
  |bl j=>cases Y;show PySem.EqNone.eq_none_bool (Ι Û)
  |int j=>let(T,rfl):=Y;show PySem.EqNone.eq_none_int (Ι Û)
  |str j=>let(T,rfl):=Y;show PySem.EqNone.eq_none_str (Ι Û)
  |_=>show ϵy
 |bl i=>
  cases R;cases y with
  |Re=>cases Y;show PySem.EqNone.eq_bool_none (Ι Û)
  |bl j=>cases Y;show eq_bool<|Ι Hw
  |str j=>let(T,rfl):=Y;show PySem.EqMixed.eq_bool_str (Ι Û)
  |_=>show ϵy
 |int i=>
  let(t,rfl):=R;cases y with
  |Re=>cases Y;show PySem.EqNone.eq_int_none (Ι Û)
  |int j=>let(T,rfl):=Y;show eq_int<|Ι C7
  |str j=>let(T,rfl):=Y;show PySem.EqMixed.eq_int_str (Ι Û)
  |_=>show ϵy
 |str i=>
  let(t,rfl):=R;cases y with
  |Re=>cases Y;show PySem.EqNone.eq_str_none (Ι Û)
  |bl j=>cases Y;show PySem.EqMixed.eq_str_bool (Ι Û)
  |int j=>let(T,rfl):=Y;show PySem.EqMixed.eq_str_int (Ι Û)
  |str j=>let(T,rfl):=Y;show eq_str<|Ι C9
  |_=>show ϵy
 |byt i=>
  let(t,rfl):=R;cases y with|byt j=>let(T,rfl):=Y;show PySem.W.eq_bytes<|Ι Dw|_=>show ϵy
 |_=>cases y<;>show ϵy
def Gp:ϵA NotEq rNe:=by
 ext p s a H x y v u Q I R Y h;let(S,q):=h;cases x with
 |Re=>
  cases R;cases y with
  |Re=>cases Y;show PySem.EqNone.ne_none_none (Ι Û)
  |bl j=>cases Y;show PySem.EqNone.ne_none_bool (Ι Û)
  |int j=>let(T,rfl):=Y;show PySem.EqNone.ne_none_int (Ι Û)
  |str j=>let(T,rfl):=Y;show PySem.EqNone.ne_none_str (Ι Û)
  |_=>show ϵy
 |bl i=>
  cases R;cases y with
  |Re=>cases Y;show PySem.EqNone.ne_bool_none (Ι Û)
  |bl j=>cases Y;show ne_bool<|Ι<|ϫb Hw
  |str j=>let(T,rfl):=Y;show PySem.EqMixed.ne_bool_str (Ι Û)
  |_=>show ϵy
 |int i=>
  let(t,rfl):=R;cases y with
  |Re=>cases Y;show PySem.EqNone.ne_int_none (Ι Û)
  |int j=>let(T,rfl):=Y;show ne_int<|Ι<|ϫb C7
  |str j=>let(T,rfl):=Y;show PySem.EqMixed.ne_int_str (Ι Û)
  |_=>show ϵy
 |str i=>
  let(t,rfl):=R;cases y with
  |Re=>cases Y;show PySem.EqNone.ne_str_none (Ι Û)
  |bl j=>cases Y;show PySem.EqMixed.ne_str_bool (Ι Û)
  |int j=>let(T,rfl):=Y;show PySem.EqMixed.ne_str_int (Ι Û)
  |str j=>let(T,rfl):=Y;show ne_str<|Ι<|ϫb C9
  |_=>show ϵy
 |byt i=>
  let(t,rfl):=R;cases y with|byt j=>let(T,rfl):=Y;show PySem.W.ne_bytes<|Ι<|ϫb Dw|_=>show ϵy
 |_=>cases y<;>show ϵy
def UT:ϵA Lt (Ϥg<|Ç<|i<j):=O8 (Ϩ4 lt_int)
def CT:ϵA Gt (Ϥg<|Ç<|j<i):=O8 (Ϩ4 gt_int)
def TU:ϵA GtE (Ϥg<|Ç<|j<=i):=O8 (Ϩ4 ge_int)
def JU:ϵA Is (ϰD<|y=.Re/\ϫH (Ç<|x=.Re)):=by
 ext p s a H x y v u Q I R Y h;let(rfl,q):=h;cases Y;apply is_none_gen<|Ι ?_;cases x<;>first
  |(cases R;rfl)
  |(let(t,rfl):=R;rfl)
def isObj:Ź HO|.lst _=>true|.ins _ _ _=>true|_=>false
def xC{P:À ĺ}{s:Da}{b:St}{H:Hp}{a:Ix}{o:HO}(I:ì P b H s)(h:H a=Ø)(p:isObj o=true):∃O,Ϧt=ϧ8/\O.cls≠ć "tuple":=by
 cases o with
 |lst S=>obtain⟨_,i,n,_,e⟩:Ą S.length/\∃(i:À Db)(n:Nat),Vals S i/\Ϧt=Â ((Ģ "list" ϸN)):=όb h;show(_,e,(by change Ϥ8 "list"≠ć "tuple";decide+kernel))
 |ins C dx fs=>have x:=όb h;let(_,_,_,e,_):=x;show(_,e,(by change ϐw≠ć "tuple";exact ϶t))
 |_=>show Ć (show Ϫl from p) Xd
def Yd.or(h:Ϩa r)(c:Ϩa r'):Ϩa (ϰD<|ϪD\/r' x y H Q):=by
 ext p s a H x y v u Q I R Y q;rcases q with q|q
 .exact ϥd a H x y v u Q I R Y q
 show c p s a H x y v u Q I R Y q
def gQ(b:On)(h:Ν (op≠.In))(H:Ν (op≠.NotIn)):à ϥZ:=by
 let e1:à (op==CmpOp.In):=Ϭo (ϲv h)
 let E:à ϗS:=Ϭo (ϲv H)
 cases b<;>simp[behindInMarks,e1,E]
def Lz(g:ϬO)(A:ç a ta)(B:ç b tb)(M:à ϥZ):ç Ϭk ϭ9:=ϖa (wpAny_Compare1 (RF A B I h λv u m x y c f R Y q=>ϔ0) M)
def xV(t:TE):TT:=ϱW (λx H'=>∃k,x=Ϩn/\Q k H')
def za(o:ϬO)(A:ç a ta)(B:ç b tb)(M:à ϥZ):Ϸy Ϭk (xV ϭ9):=by
 ext p s d H Q I h;apply wpAny_isTrue_Compare1 (Rn (ϫo d H _ I h) λv s1⟨x,f,j,R,q⟩=>Rn (ϧP d f _ j q) λu S⟨y,g,l,w,n⟩=>Rn (o p S d g x y v u _ l R w n) λc D zz=>?_) M;let(z,i,m,C,k,e,t):=zz;subst e;cases C;show K8b ⟨i,m,t⟩
def pU:ϱF sizeLine<϶f:=ϸ0 K7x
def Cd:϶w Add (ϰD<|∃i j,x=Ô i/\y=Ô j/\Ą (i.length+j.length)/\Q (Ô<|i++j) H):=by ext p s a H x y v u Q I R Y h;let(i,j,rfl,rfl,Z,q):=h;let(t,rfl):=R;let(T,rfl):=Y;show add_str (λT tk=>(ϷG (Ô<|i++j))) Z
def vals1(r:ϳM [x]):∃u,us=[u]/\ϱx u:=by
 cases r with|cons r1 r2=>cases r2;show(_,rfl,r1)
def vals2(r:ϳM [x,y]):∃u W,us=[u,W]/\ϱx u/\RelV y W:=by
 cases r with
 |cons r1 r2=>
  cases r2 with|cons r3 r4=>cases r4;show(_,_,rfl,r1,r3)
def EG(hc:ż):Ϥy (ğ "min") (∃i j,x=[Á i,Á j]/\ξ (Á ϬB)):=by
 ext p s a H x us Q I r h;let(i,j,rfl,q):=h;obtain⟨u,W,rfl,⟨t,rfl⟩,⟨T,rfl⟩⟩:=vals2 r;apply min_two_ints ϱV λc tk k=>⟨_,H,I.kept k,?_,q⟩
 by_cases J:j<i
 .rw[Os J,Os J];show(_,rfl)
 rw[P3 J,P3 J];show(_,rfl)
def Ef:Ϥy (ć "int") ((∃i,x=[Á i]/\ξ (Á i))\/∃k,x=[Ϩn]/\ξ (Á ύ3)):=by
 ext p s a H x us Q I r h;rcases h with⟨i,rfl,q⟩|⟨k,rfl,q⟩
 .let(u,rfl,t,rfl):=ϫv
  show call_int_int ⟨Á i,H,I,϶D,q⟩
 let(u,rfl,R):=ϫv;cases R;show call_int_bool (ϷG (Á ύ3))
end
structure ObjM(h:Op)(x dx C:Ix)(mA:ĳ):Prop where
 obj:h.get? x=Â Ϗc
 ns:h.Ns1 dx mA
 ne:dx≠x
set_option tactic.hygienic true in
def FD{h:Op}{m:ĳ}(n:h.Ns1 dx m):∃od,h.get? dx=Â od/\∀name,Ϗz=Â (m name):=by
 let(o,s,ep,g,d,H,_,M):=n;apply(o,g,λname=>?_);let e:=M name;delta nsFind findBy at e;rw[<-Array.find?_toList]at e;delta lookIn;rw[d];dsimp only
 split
 .rename_i y q
  rw[q]at e;show ϮX e
 rename_i q;rw[q]at e;let a:à (s.toList.any (·.refKey)):=by rw[Zbr];ext y Y;let(z,t,k):=H y<|Array.mem_toList_iff.mp Y;simp[DictEntry.refKey,k]
 let A:¬ā s.toList.any (·.refKey):=by rw[a];show Xd
 rw[P3 A];show ϮX e
def ObjM.look(I:ObjM h x dx C mA):∃od,PySem.W.InstAt h x Ϗc C (Â od)/\∀name,Ϗz=Â (mA name):=
 let⟨od,ho,hl⟩:=FD I.ns
 (ϱR od ⟨I.obj,rfl,rfl,ho⟩ hl)
section
variable{A:Go}{s:Da}{K:At}
def get_map(X:ϦI)(I:ύ4)(hg:Ϫm C name=true)(b:ώx)(a:Υ (Ä C) name=η)(V:mA name=ă)(H:PySem.W.handedIn v=true)(h:Q v Ϲ2):
  Ł (getAttr (Ä x) name expr) Q E s:=by
 let(od,J,l):=I.look;show PySem.W.get_value X J (K7h hg).1 (ϙ2<|by rw[l,V]) H h
def GD(X:ϦI)(I:ύ4)(hg:Ϫm C name=true)(H:Υ (Ä C) name=Â (Â<|Ä f))(j:ϴT (Ä f))(v:mA name=none)(h:Q (Ä f,[Ä x]) s):
  Ł (getMethod (Ä x) name pl) Q E s:=by
 let(od,J,a):=I.look;show PySem.W.method_fn X J (K7h hg).1 (K7h hg).2 H (beq_iff_eq.mp j) (by change Ó Ϗz (·.isSome)=some false;rw[a,v];rfl) h
def K_(X:ϦI)(I:ύ4)(g:Υ (Ä C) "__setattr__"=ϳb (ğ "object.__setattr__"))(p:ϑd C=true)(j:takerIn K C name=η)(f:ώx)(W:PySem.Within mA ns)(hsz:Ą ns.length)(h:∀c,ObjM c x dx C (λy=>Ï (y=name) ă (mA y))->Heap.SameBut dx s.heap c->Q () {s with heap:=c,toks:=s.toks+2}):
  Ł (setAttr (Ä x) name v) Q E s:=by
 let(od,J,l):=I.look;apply Ϛk<|PySem.W.osa_open (s:=Ϲ2) (r:=none) X J p j λb=>?_;let(cd,hc,H):=PySem.W.any_some f;let i:s.heap.get? x=Â ⟨Ä C,Â dx,.plain,#[]⟩:=I.obj;apply Fq<|Ps<|Fq<|Fq<|wpAny_loadPart i<|Fq<|PySem.W.Looks.here (s:=Ϲ2) (PySem.W.looks_clsIn X hc) ?_;rw[H];apply Ps (a:=Â dx)<|Fq<|Ps ϳh;apply wpAny_nsSet1 (s:=Ϲ2) I.ns λc n S=>?_;let(oD,Xp,e,o,D,d):=n.count<|PySem.Within.cons name v W;apply Fq<|wpAny_lookBehind o (by rw[D];show pastItsLine_dict<|Zd d<|î Xt) ?_;show Ps<|h _ ⟨è (ϯT<|K8g I.ne) I.obj,n,I.ne⟩ S
def Gq(X:ϦI)(M:makesIn K C=true)(hi:Υ (Ä C) "__init__"=Â (Â<|Ä f))(H:PySem.W.typeIn K (Ä f)=some (ć "function"))(h:ϵk ϲm (A.under<|ğ "type.__call__" ⟨Ä C::vs,kw⟩) (ϻB (Ä f) ⟨Ä ļ::vs,kw⟩) (PySem.W.InitBack ļ R) ((ϲx ((Ţ emptyDict).push ϨI)))):
  ϵk ϲm A (ϻB (Ä C) ⟨vs,kw⟩) R s:=by
 let(b,g,d,t,os):=s;show PySem.W.make_core (PySem.W.makes_of X M) (K87 X hi) (λself=>PySem.W.bind_fn X self H) (Ê rfl) h
end
def jV(f:Str)(v:V):À ϳC->À ϳC|[]=>[(f,v)]|(g,x)::r=>Ï (g=f) ((g,v)::r) ((g,x)::Ϸe r)
theorem uV(f g:Str)(v:V):∀fs:À ϳC,ϵs (Ϸe fs) g=Ï (g=f) ă (fs.lookup g)
 |[]=>by
  change ϵL g [(f,v)]=_;by_cases h:g=f
  .let B:þ (g==f):=ώ1
   simp only[List.lookup,B,Os h]
  .let B:à (g==f):=ύG
   simp only[List.lookup,B,P3 h]
 |(k,x)::r=>by
  let i:=uV f g v r;rw[ϯp (Ϸe ϐ6=(Ï (k=f) ((k,v)::r)<|(k,x)::Ϸe r))];by_cases H:k=f
  .rw[ϳZ]
   by_cases h:g=k
   .let B:þ (g==k):=ώ1
    simp only[List.lookup,B,Os<|h.trans H]
   .let B:à (g==k):=ύG
    simp only[List.lookup,B,P3 (λe:g=f=>h<|ϫN H.symm)]
  .rw[ϳj]
   by_cases h:g=k
   .let B:þ (g==k):=ώ1
    simp only[List.lookup,B,P3 (λe:g=f=>H<|h.symm.trans e)]
   .let B:à (g==k):=ύG
    simp only[List.lookup,B];show i
theorem tW(f:Str)(v:V):∀fs:À ϳC,f∈Ó (Ϸe fs) ģ/\∀g,g∈ϥy ģ->g∈Ó (Ϸe fs) ģ
 |[]=>⟨Ű jV,λg h=>ϵH⟩
 |(k,x)::r=>by
  let(i,I):=tW f v r;rw[ϯp (Ϸe ϐ6=(Ï (k=f) ((k,v)::r)<|(k,x)::Ϸe r))];by_cases H:k=f
  .rw[ϳZ]
   subst H;show(Û,λg h=>϶r)
  .rw[ϳj]
   apply(?_,λg h=>?_)
   .rw[L4]
    show Ā i
   .rw[L4]at h⊢
    rcases W7.mp h with e|e
    .exact W7.mpr<|Ê e
    .exact Ā<|I g e
theorem uU(f:Str)(v:V):∀fs:À ϳC,Ì (Ϸe fs)<=fs.length+1
 |[]=>Ű jV
 |(k,x)::r=>by
  let i:=uU f v r;rw[ϯp (Ϸe ϐ6=(Ï (k=f) ((k,v)::r)<|(k,x)::Ϸe r))];by_cases h:k=f
  .rw[Os h,Xt,Xt];lia
  .rw[P3 h,Xt,Xt];lia
def oO.some_of(r:oO ă o):∃u,o=ě/\ϱu:=by
 cases o with|none=>show ϥV|some u=>show(u,rfl,r)
def oO.none_of(r:oO none o):o=none:=by
 cases o with|none=>rfl|some u=>show ϥV
def E0(r:ϱu):PySem.W.handedIn u=true:=by
 cases v with
 |Re=>cases(ϴ7 ϐr);rfl
 |bl b=>cases(ϴ7<|u=ϩM);rfl
 |int i=>let(t,e):=(ϴ7 ϬW);cases e;rfl
 |str x=>let(t,e):=(ϴ7 ώc);cases e;rfl
 |byt b=>let(t,e):=(ϴ7 ϖs);cases e;rfl
 |flt b=>let(t,e):=(ϴ7 ϖt);cases e;rfl
 |ref a=>cases(ϴ7<|u=ϴR);rfl
 |ty n=>cases(ϴ7<|u=Value.type n);rfl
section
variable{fs fs':À ϳC}
def yI(K:ϴY)(e:H a=Â (ϰE dx fs)):∃m,ObjM h a dx C m/\(∀f,ό8<|m f)/\PySem.Within m (ϥy ģ)/\fs.length<=1000/\H dx=Â ϪO:=by
 let(d,z,ne,O,m,n,r,q):=(ω (ϷV (ϰE dx fs))<|K a _ e)
 show(m,(O,n,ne),r,q,z,d)
end
structure Cls(K:At)(C:Ix):Prop where
 pg:Ϫm C Str.empty=true
 hd:ώx
 po:ϑd C=true
 sa:Υ (Ä C) "__setattr__"=ϳb (ğ "object.__setattr__")
def Cls.get{K:At}{C:Ix}(c:ϫw)(f:Str):Ϫm C f=true:=c.pg
def e8(K:At)(C:Ix)(f:Str):Prop:=Υ (Ä C) f=η
def e8.taker{K:At}{C:Ix}{f:Str}(n:e8 K C f):takerIn K C f=η:=by
 delta takerIn;rw[ϯ5 (Υ (Ä C) f=η)];rfl
structure Yv(K:At)(C:Ix)(f:Str)(v:V)(u:Db):Prop where
 at_:Υ (Ä C) f=Â ě
 rel:ϱu
 get:ϑe u "__get__"=η
 cp:à (PySem.W.copiedNames.contains f)
structure Meth(K:At)(C:Ix)(m:Str)(f:Ix):Prop where
 at_:Υ (Ä C) m=Â (Â<|Ä f)
 fn:ϴT (Ä f)
 kp:ϴX K (Ä f)
section
variable{X:Cx}{s:Da}{fs:À ϳC}
def B0(I:ø)(e:H a=Â (ϰE dx fs))(c:Cls X.K C)(n:e8 X.K C f)(l:Ϯw=ă)(h:∀u S,ì D0 σ H S->ϱu->Q u S):Ϥf ϰO (getAttr (Ä a) f b):=by
 let(m,O,r,_,_,_):=yI I.Uf e;let(u,U,L):=oO.some_of (v:=v) (o:=m f) (ϑC<|r f);show ϙA<|h u _ Ϸ5 L
def wA(I:ø)(e:H a=Â (ϰE dx fs))(c:Cls X.K C)(k:Meth X.K C m g)(l:fs.lookup m=none)(h:Q (Ä g,[Ä a]) s):Ϥf ϰO (getMethod (Ä a) m pl):=by
 let(M,O,r,_,_,_):=yI I.Uf e;let n:M m=none:=oO.none_of (ϑC<|r m);show GD I.Zj O (c.get m) k.at_ k.fn n h
def BK(I:ø)(e:H a=Â (ϰE dx fs))(c:Cls X.K C)(n:e8 X.K C f)(l:ϏA)(Y:ϳF)(h:∀S,ì D0 σ (Ę a<|ϰE dx ϑQ) S->Q () S):Ϥf ϰO (setAttr (Ä a) f u):=by
 let(m,O,r,wi,_,i):=yI I.Uf e;let Z:Ą (Ì (ϥy ģ)):=ϰP K1 K7x
 apply K_ I.Zj O c.sa c.po n.taker c.hd wi Z λj d M=>h _ ?_;let D:∃o,j.get? dx=Ø:=let⟨o,_,_,e',_⟩:=d.ns;⟨o,e'⟩;apply I.write (x:=a) (e:=dx) Ϭi (Ð i) (λb q B z=>è (M.2 b B) z) D ?_
 apply(by rw[ay O.ne];show i,?_,O.ne,d.obj,_,d.ns,λg=>?_,λg hg=>?_)
 .let:=uU f y fs;lia
 .change oO (ϵs ϑQ g) (Ï (g=f) ě<|m g)
  rw[uV];by_cases q:g=f
  .rw[Os q,Os q];show Y
  rw[P3 q,P3 q];show r g
 by_cases q:g=f
 .rw[q];show(tW f y fs).1
 apply(tW f y fs).2 g<|wi g λz=>hg ?_;change(Ï (g=f) ě<|m g)=none;rw[P3 q];show z
def Inv.made(I:ø):ì D0 σ (upd (ϹR<|.own ļ) ļ<|ϰE s.heap.objs.size []) ((ϲx ((Ţ emptyDict).push ϨI))):=by
 let e1:(Ţ emptyDict).get? s.heap.objs.size=Â emptyDict:=Z3 s.heap rfl;let E:((Ţ emptyDict).push ϨI).get? ļ=Â ϨI:=by
  let:=Z3 (Ţ emptyDict) (o:=ϨI) rfl;rwa [K8l]at this
 let c:(Ţ emptyDict).Ns s.heap.objs.size Ϥo:=⟨emptyDict,#[],_,e1,rfl,(λe he=>Ć he Û),ϺV⟩
 let i:=ύz (o:=.own ļ) (h':=Ţ emptyDict) (t':=s.toks) (λb u q=>Ĺ q) õ ⟨_,e1⟩;apply i.laid (a:=ļ) (o:=ϰE s.heap.objs.size []) (t':=s.toks) (λb u q=>Ĺ q) (Nat.le_of_eq<|K8l _ _) ?_;let ne:s.heap.objs.size≠ļ:=Ym ϧZ;apply(ϲK (ay ne) aP,ϴw,ne,E,Ϥo,(Heap.Ns1.of_empty c).at λo q=>Ĺ q,ϰ9 True.intro,λy Y=>ϲv Y)
def Lm{pos:Pos}(B:ώK env ϐx=ϐx)(h:Ł ϐx (λo S=>Ł (getAttr o f true) Q E S) E s):Ł (eval (ĝ e f pos) env) Q E s:=
 Attribute_any_ h (by rw[arm_eval_Attribute,B])
end
def RW(K:At)(t:TE)(f:Str):TE:=λb H Q=>t b H λx h=>∃a C d fs v,x=Ä a/\h a=Â (ϰE d fs)/\ϫw/\e8 K C f/\Ϯw=ă/\Q v h
def U3(K:At)(t v:TE)(f:Str):TS:=λD b H=>v b H λy c=>t b c λx h=>∃a C d fs,x=Ä a/\h a=Â (ϰE d fs)/\ϫw/\e8 K C f/\ϏA/\
 D.nx b (Ϧd<|ϰE d ϑQ)
section
variable{X:Cx}{pos pos' tpos:Pos}
def Jc(he:ç e ta)(B:ώK X.env ϸR=ϸR):ç (ĝ e f pos) (RW X.K ta f):=by
 ext p s g H Q I h;apply Lm B<|ϭI (ϯQ g H _ I h);let(x,b,i,R,a,C,D,fs,v,ex,E,c,n,l,q):=zz;subst ex;obtain rfl:u=ϴR:=R;show B0 i E c n l λU m d L=>⟨v,b,d,L,q⟩
def OU(A:ç o ta)(v:ç value tv)(S:swapsWith value (Â<|ĝ o f pos') pos.line X.env=ϳy):ϲf (ϳc [ĝ o f pos'] value pos) (U3 X.K ta tv f):=by
 ext p s b H D I h;apply plainObj_wpAny_Assign_Attribute (Rn (v p s b H _ I h) λu s1⟨y,d,i,Y,q⟩=>Rn (A p s1 b d _ i q) λO r zz=>?_) S;let(x,k,e,R,a,C,m,fs,ex,E,c,n,l,j):=zz;subst ex;obtain rfl:O=ϴR:=R;show BK e E c n l Y λt g=>⟨b,_,g,j⟩
end
structure W0(k:Nat)(A:Go):Prop where
 hd:ϷO
 dp:A.depth+3*k+5<recursionLimit
 un:A.units+16*k+200<cLine
def W0.mono(r:W0 k A)(h:j<=k):W0 j A:=⟨r.hd,Œ r.dp,Œ r.un⟩
def W0.deeper(r:Ϫ0 A)(env:Env):W0 k (A.deeper env):=
 ⟨r.hd,by let:=r.dp;change A.depth+1+3*k+5<_;lia,by let:=r.un;change A.units+3+16*k+200<_;lia⟩
def Ci{A:Go}:(A.under<|ğ "type.__call__" ⟨Ä C::us,kw⟩).depth=A.depth+1:=by first|rfl|simp[Around.under,Code.weight,Code.isCreation,Code.isGuard,Code.isCaller,Code.frames,Code.isFrame,guardIds]
def BW{A:Go}:(A.under<|ğ "type.__call__" ⟨Ä C::us,kw⟩).units=A.units+1:=by first|rfl|simp[Around.under,Code.cUnits,Code.frames,Code.isFrame]
def W0.make(r:Ϫ0 A)(C:Ix)(us:À Db)(kw:À ϯe):W0 k (A.under<|ğ "type.__call__" ⟨Ä C::us,kw⟩):=
 ⟨r.hd,by let:=r.dp;rw[Ci];lia,by let:=r.un;rw[BW];lia⟩
def W0.depth(r:W0 k A):A.depth<recursionLimit:=Œ r.dp
def W0.units(r:W0 k A):ϩK 64:=Œ r.un
def qL:TA:=λ_ H Q=>ξ []
def dB(t:TE)(r:TA):TA:=ϱW (λx h=>r a h λs b=>Q ϻr b)
section
variable{X:Cx}{t:TA}{pos:Pos}
def fH:ϰM [] qL:=λ_ _ _ _ H Q I h=>ϩe ⟨[],H,I,í,h⟩
def bz(A:ç e te)(hr:ϰM es t)(S:Ñ (Õ ď=ź (Õ es))):ϰM ď (dB te t):=by
 ext pos p s a H Q I h;rw[S];change Š (spliced<|ź (ϰU (Õ es))) s;apply ϩk<|ϭI (ϫo a H _ I h);let(x,b,i,r,q):=zz;show Rn (hr pos p s1 a b _ i q) λus m⟨d,c,f,l,j⟩=>⟨x::d,c,f,ð r l,j⟩
def Pp(t:TA):TE:=ϱW (λs h=>Ą s.length/\∀p,h p=none->Q (Ä p) (ϖ9<|Ī s))
def Oz(t:TA):TE:=ϱW (λs h=>Ą s.length/\∀p,h p=none->Q (Ä p) (ϖ9<|ä s))
def HB{x1}(h:ϰM es t):ç (Ϥd x1 pos) (Pp t):=by
 ext p s d H Q I c;apply wpAny_Tuple_spliced<|ϕc (λus s1⟨x,a,i,r,z,q⟩=>⟨ϰy r.length z,?_⟩);let f:ϕR:=i.Uf.fresh õ;apply(Ä s1.heap.objs.size,ϒT<|Ī x,Ϙu (λb u e=>Ĺ e) õ ?_,rfl,q _ f);show(z,us,r,(_,θ,rfl,_,rfl))
def B5(h:ϰM es t):ç (.List es pos) (Oz t):=by
 ext p s d H Q I c;apply wpAny_List_spliced<|ϕc (λus s1⟨x,a,i,r,z,q⟩=>⟨ϰy r.length z,?_⟩);let f:ϕR:=i.Uf.fresh õ;apply(Ä s1.heap.objs.size,ϒT<|ä x,Ϙu (λb u e=>Ĺ e) õ ?_,rfl,q _ f);show(z,us,0,r,θ)
end
abbrev Sp:=À V->Hp->Ý VK XK
abbrev CXT:=À Env->Hp->Da->XK->Ý Db Da
structure Env0(P:Do)(w:Ev)(K:At)(mg:ĳ)(base:Op)(A:Go)(outer:À Env)(s:Da)(H:Hp):Prop where
 frames:A.frames=Â outer
 mod:Mod K mg base
 bs:∀b o,base.get? b=Ø->ϰx=Ø/\ϰY
 bsz:base.objs.size<=s.heap.objs.size
 Yo:s.heap.FunFrames base outer
 frf:∀b∈Yp outer,ϰY
 Uf:ϥj H s.heap
 bare:Ϗw
def CE(outer:À Env)(P:Do)(w:Ev)(H:Hp)(s:Da)(Q:VK)(u:Db)(S:Da):Prop:=
 ∃v H',ϒY ϱu ϻl
def CR(CX:CXT)(outer:À Env)(P:Do)(w:Ev)(H:Hp)(s:Da)(Q:VK)(E:XK)(r:Result)(S:Da):Prop:=
 match r with
 |.ok (.ret u)=>ϗs S
 |.ok _=>False
 |.error e=>ϏB e S
structure E2(P:Do)(w:Ev)(K:At)(mg:ĳ)(base:Op)(CX:CXT)(k:Nat)(f:Ix)(fd:Fk)(ps:À Str)(sp:Sp):Prop where
 len:∀vs H Q E,sp vs H Q E->ϲB vs.length
 run:∀(A:Go)(outer:À Env)(s:Da)(H:Hp)(args:Args)(us:À Db)(vs:À V)(Q:VK)(E:XK),W0 k A->Ϫn mg base A outer s H->Ϯb args ϦJ->ϳM vs->sp vs H Q E->
  ϵk Ϻy A (ϻB (Ä f) args) (CR CX outer P w H s Q E) s
def E2.mono{P:Do}{w:Ev}{K:At}{m:ĳ}{base:Op}{CX:CXT}{j k:Nat}{f:Ix}{fd:Fk}{ps:À Str}{sp:Sp}(F:Ϲg m base CX j f fd ps sp)(h:j<=k):
  ϻM sp:=⟨F.len,λA outer s H args us d Q E hr=>όU<|hr.mono h⟩
def E2.imp{P:Do}{w:Ev}{K:At}{m:ĳ}{base:Op}{CX:CXT}{k:Nat}{f:Ix}{fd:Fk}{ps:À Str}{sp p:Sp}(F:ϻM sp)
  (h:∀d H Q E,p d H Q E->Ϫo):ϻM p:=
 ⟨λd H Q E q=>ύJ<|ϥs _ _ q,ϓz (όU hr he B v<|ϥs _ _ S)⟩
def Env0.make{P:Do}{w:Ev}{K:At}{m:ĳ}{base:Op}{A:Go}{outer:À Env}{s:Da}{H:Hp}(e:Ϫn m base A outer s H)(C:Ix)(us:À Db)(kw:À ϯe):
  Ϫn m base (A.under<|ğ "type.__call__" ⟨Ä C::us,kw⟩) outer s H:=⟨by first|show e.frames|(simpa[Around.under,Code.envs,Code.isFrame,pushEnvs]using e.frames),e.mod,e.bs,e.bsz,e.Yo,e.frf,e.Uf,e.bare⟩
section
variable{X:Cx}
def Inv.uf(I:ø):Env0 X.prog X.w X.K X.mg X.base X.A X.stack s H:=
 ⟨I.ok.frames,I.ok.mod,I.bs,Ϯo I.sz,I.stack,I.Zo,I.Uf,I.bare⟩
def Inv.after(I:ø)(h:CE X.stack X.prog X.w H s Q u s'):ϳX D0 σ Q u s':=by let(v,H',os,bare,un,K,r,q):=h;let(a,g,d,t,o):=s';obtain rfl:o=s.os:=os;show(v,H',I.call (h':=a) (g':=g) (d':=d) (t':=t) (ch:=[]) un K bare (λb z=>Ć z Û),r,q)
end
def u4(sp:Sp)(dvs:À V)(E:XK)(t:TA):TE:=ϱW (λd h=>sp (d++dvs) h Q E)
def Od(C:Ix)(sp:Sp)(dvs:À V)(E:XK)(t:TA):TE:=λa H Q=>t a H λs h=>∀x d,h x=none->h d=none->d≠x->
 sp (Ä x::(s++dvs)) (upd (upd h d ϧs) x<|ϰE d []) (λv b=>v=.Re/\Q (Ä x) b) E
def Binds(K:At)(fd:Fk)(ps:À Str)(d:À Db):Prop:=
 ∀(s:Da)(us:À Db),ϦI->ϲB (Ì (us++d))->Ϯb ((ϰI us)) (ps.zip<|us++d)
def Binds.all{K:At}{fd:Fk}{ps:À Str}(h:∀us:À Db,ϲB us.length->bindArgs fd (ϰI us)=pure ϦJ):ϲZ K []:=λs us _ a=>by rw[Xf]at a⊢;show .of_eq<|h us a
def Passes(CX:CXT)(X:Cx)(E:XK):Prop:=∀(p:À ĺ)(a:St)(H:Hp)(s:Da)(e:Db)(S:Da),ì p a H s->CX X.stack H s E e S->X.xe e S
section
variable{X:Cx}{f C:Ix}{p pos apos:Pos}
def Bu(F:ϱG X.K X.mg CX f fd ps sp)(hr:ϴ8)(B:ϲZ X.K ds)(d:Ϯy)(x:ϲY E)(I:ø)(r:ϳM vs)(h:sp Ϫt H Q E):Ĕ (call (Ä f) us) (ϳX D0 σ Q) X.xe s:=by
 let l:ϵu Ϫt Ϫ1:=r.append d;let a:ϲB (Ì Ϫ1):=ϰy l.length (Ϗ6 h)
 apply wpAny_call<|K8E (F.run X.A X.stack s H (ϰI us) Ϫ1 Ϫt Q E hr I.uf (B s us I.Zj a) l h) λr S q=>?_;cases r with
 |error e=>show x D0 σ H s e S I q
 |ok fl=>
  cases fl with|ret u=>show I.after q|next=>show Ϻt|brk=>show Ϻt|cont=>show Ϻt
def yH(F:ϱG X.K X.mg CX f fd ps sp)(hr:ϴ8)(hg:Ħ x)(M:ϧ9=Â (Ä f))(K:ϴX X.K (Ä f))(B:ϲZ X.K ds)(D:Ϯy)(b:ϲY E)
  (A:ϰM ď t) (d:ġ "__debug__") (he:Ñ (Õ ď=ź (Õ es))) (l:Ñ (Ŕ<|ϰU<|Õ es)):
  ç (ô (Ü p) ď pos) (u4 sp dvs E t):=by
 ext i s c H Q I h;apply K8h<|ϪU M ?_ d;apply ϒK K;show Bu F hr B D b a r q
structure Mk(K:At)(C f:Ix):Prop where
 makes:makesIn K C=true
 init:Υ (Ä C) "__init__"=Â (Â<|Ä f)
 fn:ϴT (Ä f)
 kp:ϴX K (Ä C)
theorem FU(M:Mk X.K C f)(F:ϱG X.K X.mg CX f fd ps sp)(hr:Ϫ0 X.A)(B:ϲZ X.K ds)(D:Ϯy)(c:ϲY E)(I:ø)(r:ϳM vs)(h:∀x d,H x=none->H d=none->d≠x->sp (Ä x::Ϫt) (upd (Ę d ϧs) x<|ϰE d []) (λv b=>v=.Re/\Q (Ä x) b) E):
  Ĕ (call (Ä C) us) (ϳX D0 σ Q) X.xe s:=by
 let a:=h ļ s.heap.objs.size (ϵR ϱM) (ϵR õ)<|Ym ϧZ;let i:=Inv.made (C:=C) I;let l:ϵu (V.ref ļ::Ϫt) (ϧq ļ::Ϫ1):=ð rfl<|r.append D;let L:ϲB (Ì (ϧq ļ::us++ds)):=by let e:=l.length;rw[Ϗ6 a]at e;show e.symm
 apply wpAny_call (Gq (f:=f) I.Zj M.makes M.init (beq_iff_eq.mp M.fn) (K8E (F.run _ X.stack _ _ (ϰI (ϧq ļ::us)) (ϧq ļ::Ϫ1) _ _ E (hr.make C us [])
  (i.uf.make C us []) (B _ (ϧq ļ::us) i.Zj L) l a) λr S q=>?_))
 cases r with
 |error e=>show c D0 σ _ _ e S i q
 |ok fl=>
  cases fl with|ret u=>let(v,H',g,R,ev,j):=i.after q;subst ev;show(R,(V.ref ļ,H',g,rfl,j))|next=>show Ϻt|brk=>show Ϻt|cont=>show Ϻt
def L6(M:Mk X.K C f)(F:ϱG X.K X.mg CX f fd ps sp)(hr:Ϫ0 X.A)(hg:Ħ x)(m:ϧ9=Â (Ä C))(B:ϲZ X.K ds)(D:Ϯy)(b:ϲY E)
  (A:ϰM ď t) (d:ġ "__debug__") (he:Ñ (Õ ď=ź (Õ es))) (l:Ñ (Ŕ<|ϰU<|Õ es)):
  ç (ô (Ü p) ď pos) (Od C sp dvs E t):=by
 ext i s c H Q I h;apply K8h<|ϪU m ?_ d;apply ϒK M.kp;show FU M F hr B D b a r q
end
section
variable{p pos apos kpos:Pos}
end
structure E1(N P:À Str)(sc:Scope):Prop where
 kind:sc.kind=ϺO
 co:à sc.isCoroutine
 gen:à sc.isGenerator
 nd:N.Nodup
 pre:N.take P.length=P
 par:∀x∈P,ϵz Ϻd (Â Ų) (Â ŏ)
 nofree:∀y∈sc.names,y.2≠ε
theorem yA{kindOf:Str->Ö NameKind}:∀{binds:À ϯe}{m:ĳ},ϓC bindL
 |[],_,_=>rfl
 |(n,v)::r,m,h=>by
  delta bindL;rw[yA λw H=>h w<|Ā H]
  split
  .let:x≠n:=Ϧy (h v P0)
   simp[this]
  .rfl
theorem xI{kindOf:Str->Ö NameKind}:∀{binds:À ϯe}{m:ĳ},ϓC bindC
 |[],_,_=>rfl
 |(n,v)::r,m,h=>by
  delta bindC;rw[xI λw H=>h w<|Ā H]
  split
  .rfl
  .let:x≠n:=Ϧy (h v P0)
   simp[this]
theorem xw{kindOf:Str->Ö NameKind}:∀{P:À Str}{d:À Db}{i:Nat}{m:ĳ},P.Nodup->Ķ P=Đ->d[i]?=ă->kindOf x=Â Ų->
  ϐy (P.zip d) m x=ă
 |[],_,_,_,_,h,_,_=>ϵH
 |_::_,[],_,_,_,_,h,_=>ϵH
 |p::P,w::d,0,m,nd,h1,h2,hk=>by
  simp at h1 h2;subst h1;subst h2;change ϐy ϭn m p=_;delta bindL;rw[yA λv H=>(ϺW).1 (K7q H).1,Os hk];simp
 |p::P,w::d,i+1,m,nd,h1,h2,hk=>by
  change ϐy ϭn m x=_;delta bindL;show xw (i:=i) (ϺW).2 (ť h1) (ť h2) hk
theorem yq{kindOf:Str->Ö NameKind}:∀{P:À Str}{d:À Db}{i:Nat}{m:ĳ},P.Nodup->Ķ P=Đ->d[i]?=ă->kindOf x≠Â Ų->
  ϐz (P.zip d) m x=ă
 |[],_,_,_,_,h,_,_=>ϵH
 |_::_,[],_,_,_,_,h,_=>ϵH
 |p::P,w::d,0,m,nd,h1,h2,hk=>by
  simp at h1 h2;subst h1;subst h2;change ϐz ϭn m p=_;delta bindC;rw[xI λv H=>(ϺW).1 (K7q H).1,P3 hk];simp
 |p::P,w::d,i+1,m,nd,h1,h2,hk=>by
  change ϐz ϭn m x=_;delta bindC;show yq (i:=i) (ϺW).2 (ť h1) (ť h2) hk
def start(N:À Str)(d:À V):St:=d.map some++ϲy (N.length-d.length) none
def wy(CX:CXT)(P:Do)(w:Ev)(K:At)(m:ĳ)(base:Op)(N:À Str)(qual:Str)(scope:Scope)(f:Ix)(cd:Db)(A:Go)(outer:À Env)(s:Da)(H:Hp)(E:XK):Cx where
 prog:=P
 w:=w
 K:=K
 mg:=m
 base:=base
 A:=A.deeper<|ϹV cd
 N:=N
 s₀:=s
 H₀:=H
 env:=ϹV cd
 outer:=outer
 stack:=ϹV cd::outer
 ex:=[]
 calm:=true
 fn:=λ_=>true
 pn:=[]
 xe:=λe a=>϶e Ϻy (A.deeper<|ϹV cd) (leaving (ϹV cd) e) (λ_ S=>ϏB e S) (λe' S=>ϏB e' S) a
def Bo{sc:Scope}(h:Ϻd=Â ŏ):∃c,ϲl (cellsFrom n sc.names []):=by let q:=K8B sc.names n []<|Ê h;show ϖN q
theorem EM{CX:CXT}{P:Do}{w:Ev}{K:At}{M:ĳ}{base:Op}{N ps:À Str}{qual:Str}{scope:Scope}{f:Ix}{cd:Db}{A:Go}{outer:À Env}{s s1:Da}{H:Hp}{E:XK}{us:À Db}{j:À V}
  (S:Ϥ3 scope) (C:ϷO) (g:Ϫn M base A outer s H) (G:ϲB j.length) (r:Vals j us)
  (x:InCallC s s.heap.objs.size (bindL (ϹV cd).kindOf ϦJ Ϥo) (ϹX ļ []) (bindC (ϹV cd).kindOf ϦJ Ϥo) s1):
  Inv ϓd [] (ϑR j) H s1:=by
 let L:Ϭ1:=ϨZ (ϱT S.pre) Zg
 let(m,tk,rfl,t):=x.done;let o:∀b:Ix,b∉(ϓd).ex:=λb z=>Ć (ω (b∈([]:À Ix)) z) Û
 apply((g.mod,S.kind,rfl,rfl,õ,λy z c m d=>?_,λy Y=>?_,λy c _ h=>?_,λ_=>C,Around.frames_deeper g.frames,Ð Ϧu,λb z=>Ć z<|o b,g.bs,g.bsz,λb _ _=>o b,λb z=>Ć z<|o b,g.Yo,g.frf),
  rfl,g.bare,Un.kept t,(_,x.toInCall.ns,λi y v m d F=>?_),λy c h=>⟨_,x.cell y c h⟩,g.Uf.fresh õ,λy c h=>?_,λp l=>Ć (show p∈([]:À ĺ)from l) Û,g.Uf.kept t,?_)
 .exact ϙ6<|K8L d
 .let Y:ϵz ώe (Â ŏ) (Â ε):=Y
  rcases Y with Y|Y
  .exact Bo Y
  show ϲv<|S.nofree _<|K8L Y
 .exact Zba<|ϔy<|K8L h
 .let hi:i<j.length:=by
   delta start at d;by_cases hi:i<j.length
   .exact hi
   rw[K9a ϬY]at d;rw[K8X]at d;split at d<;>cases d
  let B:j[i]?=ă:=by
   delta start at d;rw[K9V ϬY,T2]at d;cases e:j[i]? with
   |none=>rw[e]at d;cases d
   |some a=>rw[e]at d;cases d;rfl
  let(u,U,R):=r.get B;let l:Ķ ps=γ:=by rw[<-S.pre,K97 Ã];show m
  let D:ps.Nodup:=ϰy S.pre (S.nd.sublist ϖg)
  apply(u,R,?_);rcases S.par y (Y4 l)with k|k
  .exact Ê ⟨k,xw D l U k⟩
  let(c,e):=Bo (n:=ļ) k;apply Ð ⟨Ê k,c,e,?_⟩;let q:=x.cell y c e;rw[yq D l U<|by change ώe≠_;rw[k];decide]at q;show q
 .exact g.Uf.fresh<|Zba<|ϔy<|K8L h
 delta start;change ϑS;rw[Ww,K1,K8r];lia
theorem ND{CX:CXT}{P:Do}{w:Ev}{K:At}{m:ĳ}{base:Op}{k:Nat}{f:Ix}{name qual:Str}{params:Arguments}{body:À No}{scope:Scope}{D kV doc pm c ct O:Db}{an od:Ö Ix}
  {l:ϰ3 Ch} {N ps:À Str} {sp:Sp} (G:ϑT=Â ⟨O,od,.func ϒ5,l⟩) (C:όc c qual=true) (S:Ϥ3 scope)
  (len:∀d H Q E,Ϫo->ϲB d.length)
  (h:∀(A:Go)(outer:À Env)(s:Da)(H:Hp)(d:À V)(Q:VK)(E:XK),W0 k (A.deeper<|ϹV c)->Ϫo->
   ∃t,PSs όS body t/\ϓp):
  Ϲg m base CX (k+1) f ϒ5 ps sp:=by
 apply(len,λA outer s H args us d Q E hr j B r p=>?_);let L:=len _ _ _ _ p;let X:ϦI:=j.mod.kin.keeps (ϱk (j.bs b o e).1);let lim:s.heap.NoLimit:=j.mod.nolimit.keeps (ϱk (j.bs b o e).1);let i:∀y∈ϦJ,Ϻb y.1=Â Ų\/(Ϻb y.1=Â ŏ/\þ (ϸy (ϵs (ϹX ļ []) y.1))):=λ⟨n,v⟩ Y=>by
  rcases S.par n (K7q Y).1 with q|q
  .exact Ê q
  show Ð ⟨q,K8B _ _ _<|Ê q⟩
 apply Ϙ6<|B _ _ _ _ ?_;apply wpAny_newFunctionEnv_cells S.kind i λenv he s1 x=>?_;subst he;apply(lim.keeps x.toInCall.keep,codeAny_func ?_);let(t,T,F):=h A outer s H d Q E (hr.deeper _) p;let I:Inv όS [] (ϑR d) H s1:=EM S hr.hd j L r x;apply K8m (T [] s1 (ϑR d) H _ I F) (λfl z g=>?_) λe z g=>g;let fin:∀{a:St}{H':Hp}{v:V}{u:Db},Inv όS [] a H' z->ϱu->ϻl->ϗs z:=
  fun{a H' v u} J R q=>⟨v,H',J.os,J.bare,J.base,J.Uf,R,q⟩
 cases fl with|ret u=>let(v,a,H',J,R,q):=g;show fin J R q|next=>let(a,H',J,q):=g;show fin (v:=V.Re) (u:=Value.none) J rfl q|brk=>let(_,_,_,q):=g;show Ϻt|cont=>let(_,_,_,q):=g;show Ϻt
section
variable{X:Cx}{p pos:Pos}{t:TA}{id T:String}{r:À V->Ý Hp VK}
def tCB(r:À V->Ý Hp VK)(t:TA):TE:=ϱW (λd h=>r d h Q)
def sO(hc:ϳ0 (ğ id) r)(hg:Ħ x)(M:Ϻz)(v:ϷN=Â (ğ id))(A:ϰM ď t)(n:Ν ϷL)(d:ġ "__debug__")
  (he:Ñ (Õ ď=ź (Õ es))) (l:Ñ (Ŕ<|ϰU<|Õ es)):ç (ô (Ü p) ď pos) (tCB r t):=by
 ext i s a H Q I h;apply K8h<|ϦW v ?_ n d;show ϕL ϒN he l
def Fp(hc:ϳ0 (ć T) r)(hg:Ħ x)(M:Ϻz)(v:ϷN=Â (ć T))(A:ϰM ď t)(n:Ν ϷL)(d:ġ "__debug__")
  (he:Ñ (Õ ď=ź (Õ es))) (l:Ñ (Ŕ<|ϰU<|Õ es)):ç (ô (Ü p) ď pos) (tCB r t):=by
 ext i s a H Q I h;apply K8h<|ϦW v ?_ n d;show K98 ϒN he l
end
end L2
namespace HT
open PySem PyProof.Rows
section
open PySem.SeqAt
open PySem.AutoSeq1 (wpAny_loadPart')
open PySem.MeetsSeq PySem.MeetsSeq2 PySem.MeetsSeq3
end
section
variable{s:Da}
def X0(n d:Nat):Ö Int->Nat|none=>d|some v=>Ï (v<0) ((ē (v+Ũ))) Ϗ7
def AK(n d:Nat):X0 n d none=d:=rfl
def vx(n d k:Nat):X0 n d (Â Þ)=min k n:=by
 change(Ï (Þ<0) ((ē (Þ+Ũ)))<|min (ē (k:Int)) n)=min k n;rw[P3 Ã,Xz]
def QA(n d:Nat)(h:d<=n)(o:Ö Int):X0 n d o<=n:=by
 cases o with
 |none=>show h
 |some v=>
  change(Ï (v<0) ((ē (v+Ũ))) Ϗ7)<=n;by_cases H:v<0
  .rw[ϳZ];lia
  rw[ϳj];show Nat.min_le_right _ _
def CS(v:Int)(n d:Nat):(Ï (v<0) (max (v+Ũ) 0)<|min v Ũ)=Ë (X0 n d ă:Nat):=by
 change(Ï (v<0) (max (v+Ũ) 0)<|min v Ũ)=Ë ((ϱF (Ï (v<0) ((ē (v+Ũ))) Ϗ7)))
 by_cases H:v<0
 .simp only[Os H];lia
 simp only[P3 H];lia
def Ct(l hi:Ö Int)(n:Nat):ϔm Ũ=(Ë ϭJ,Ë (X0 n n hi:Nat)):=by
 let h:¬(Ë 1<0):=Ã
 delta Builtin.Slice.sliceAdjust;simp only[h,if_false];apply Prod.ext ?_ ?_
 .cases l with|none=>rfl|some v=>show CS v n 0
 cases hi with|none=>rfl|some v=>show CS v n n
def Cr(i j:Nat):ϖM ë ą 1=j-i:=by
 delta Builtin.Slice.slicePlaces;let h:Ë 1 > 0:=Ã
 simp only[h,K7y,Int.ediv_one];split<;>lia
def wD(p:IsPart v o)(h:Q o s):Ł (Builtin.Slice.slicePartIndex v) Q E s:=by
 cases p with|none=>show slicePart_none h|int i t=>show slicePart_int h
def tX{l hi:Ö Int}{Q:Ý (Int×Int×Nat) Da}(S:ϕw æ)(pl:IsPart vl l)(pu:IsPart vu hi)(h:Q (Ë ϭJ,1,X0 n n hi-X0 n 0 l) s):Ł (Builtin.Slice.sliceApplied (Ä sl)<|pure Ũ) Q E s:=by
 let(os,o,c,d):=id S;delta Builtin.Slice.sliceApplied Builtin.Slice.sliceFields;apply Fq<|Fq<|ύg vl<|Fq<|ύg vu<|Fq<|ύg æ Δ;apply Fq<|slicePart_none ?_;change Š (Ï (þ (Ë 1==0)) _ _) s;rw[P3 á];apply Fq<|wD pl<|Fq<|wD pu<|Fq Δ;change Š (match ϔm Ũ with|(l,hi)=>pure (l,Ë 1,Builtin.Slice.slicePlaces l hi 1)) s;rw[Ct l hi n];change Š (pure (Ë ϭJ,Ë 1,ϖM ((Ë ϭJ)) ((Ë (X0 n n hi:Nat))) 1)) s;rw[Cr];show Ps h
def FQ(s:ϰ3 Db)(i k:Nat):ϳW ((range k).filterMap λ(m:Nat)=>s[ē (ë+ϰG*1)]?)=ϳW (ζ (s.toList.drop i) k):=by
 let e:(λ(m:Nat)=>s[ē (ë+ϰG*1)]?)=λm=>s[i+m]?:=by
  funext m;let:ē (ë+ϰG*1)=i+m:=Ã
  rw[this]
 rw[e];let:=pick_run s i k;rw[List.filterMap_map]at this;let E:((λx=>s[x]?)∘λx=>i+x)=λm=>s[i+m]?:=rfl;rw[E]at this;rw[this]
def sH{l hi:Ö Int}(j:IsTup s.heap t items)(S:ϕw æ)(pl:IsPart vl l)(pu:IsPart vu hi)(W:¬(ϻU=0/\ϔ1=items.size))(h:Q (Ä s.heap.objs.size) (ϲx (Ţ ((Ģ "tuple" (ϰm (ϳW (ζ (items.toList.drop ϻU)<|ϸD X0 items.size))))))))(hsz:Ą items.size):Ł (getItem (Ä t)<|Ä sl) Q E s:=by
 let a:sizeOk (ϰm (ϳW (ζ (items.toList.drop ϻU)<|ϸD X0 items.size))):=by
  change Ą (ζ (items.toList.drop ϻU)<|ϸD X0 items.size).toArray.size;rw[Ys,Zg,K8y,K8t];lia
 let J:ϔ1<=items.size:=QA _ _ õ hi;let(os,o,c,d):=id S;let H:Ϻ7 (Ä sl) "slice":=⟨os,o,c⟩;delta getItem
 try with_reducible apply ϸ8 ?_
 first|apply Fq Δ|skip
 apply Fq<|wpAny_sequenceKey j.typeIs á ?_
 apply Fq (wpAny_callSpecial?_slot (name:=όv "__getitem__") j.typeIs PyProof.Rows.slot_tuple_getitem
  (Ϙ9<|args_tuple_getitem _ _))
 change Š (Builtin.Tuple.tupleItemsOf (Ä t) >>=_) s;apply Fq<|tupleItemsOf_ j ?_;apply Fq<|wpAny_typeOf H ?_;rw[Os á];apply Fq<|tX S pl pu ?_;let n:¬(þ<|Ë (ϻU:Nat)==0&&Ë 1==1&&(ϸD X0 items.size)==items.size):=by ext q;rw[Yt,Yt]at q;let b:Ë (ϻU:Nat)=0:=eq_of_beq q.1.1;let e:ϸD X0 items.size=items.size:=eq_of_beq q.2;show W ⟨Ã,Ã⟩
 change Š (Ï (þ (Ë (ϻU:Nat)==0&&Ë 1==1&&(ϸD X0 items.size)==items.size)) _ _) s;rw[P3 n,FQ]
 first
  |show ϫU<|K7v ϬP a
  |show ϫU<|K7v (Fq<|Ps ϬP) a
  |show Fq<|ϫU<|K7v (Ps ϬP) a
  |show Fq<|ϫU<|K7v ϬP a
end
end HT
namespace L2
open PySem PySem.Spec PyProof.Rows
abbrev TO:=St->Ý Hp (Ý (Ö Int) Hp)
def PO(X:Cx)(e:Ö On)(t:TO):Prop:=
 ∀(p:À ĺ)(s:Da)(a:St)(H:Hp)(Q:Ý (Ö Int) Hp),ì p a H s->ϧE->
  Ĕ (evalPart e X.env) (λu S=>∃o H',ì p a H' S/\IsPart u o/\Q o H') X.xe s
def C3:TO:=λ_ H Q=>Q none H
def Nf(t:TE):TO:=ϱW (λx h=>∃i,x=Á i/\Q ϻe h)
def intsAre_of:∀{us:À Db},ϳM ϰw->ϧc us:=by
 induction ns with
 |nil=>ext us r;rw[Z_]at r;cases r;show í
 |cons n ns ih=>
  ext us r;rw[L4]at r;cases r with|cons r1 r2=>let(t,e):=r1;subst e;show ð n t<|ih r2
section
variable{X:Cx}{te:TE}{lo hi:Ö On}{tl th:TO}{pos p2:Pos}
def Kg:PO X none C3:=by ext p s a H Q I h;rw[evalPart_none];show Ps ⟨none,H,I,æ,h⟩
def M4(h:ç e te):PO X Ϲl (Nf te):=by
 ext p s d H Q I w;rw[evalPart_some];apply ϭI (ϥd d H _ I w);let(x,a,b,r,c):=zz;let(i,rfl,q):=c;let(t,rfl):=r;show(ϻe,a,b,Á i t,q)
def SlR(X:Cx)(r:V->ϴs (Ö Int) (Ý Hp VK)):Prop:=
 ∀(p:À ĺ)(s:Da)(a:St)(H:Hp)(x:V)(v L u:Db)(l hi:Ö Int)(S:Ix)(Q:VK),ì p a H s->ϱx v->s.heap.IsSliceOf S L u æ->IsPart L l->IsPart u hi->r x l hi H Q->
  ∃T id,typeLookup (ć T) "__getitem__"=pure (Â<|ğ id)/\s.TypeIs v T/\Ĕ (ϭP<|Ä S) ϷT X.xe s
def tSl(r:V->ϴs (Ö Int) (Ý Hp VK))(te:TE)(tl t:TO):TE:=λa H Q=>te a H λx h=>tl a h λl b=>t a b λu c=>r x l u c Q
def GQ(hr:SlR X r)(he:ç e te)(k:PO X lo tl)(o:PO X hi th):ç (û e (.Slice lo hi none p2) pos) (tSl r te tl th):=by
 ext p s a H Q I h;apply Subscript_<|ϴL Ϭ7;let(x,d,i,R,w):=zz;apply wpAny_Slice<|Rn (k p s1 a d _ i w) λL S⟨l,f,g,pl,y⟩=>Rn (o p S a f _ g y) λV n zz=>?_;let(u,c,j,pu,z):=zz;rw[evalPart_none];apply Δ;let U:ì p a c {n with heap:=n.heap.push (Ģ "slice" (Κ #[L,V,æ]))}:=j.kept (t':=n.toks) λb O q=>Ĺ q;let(T,id,t,m,hg):=hr p {n with heap:=n.heap.push (Ģ "slice" (Κ #[L,V,æ]))} a c x v L V l u n.heap.objs.size Q U R ϖh pl pu z;change Ĕ (ϙw<|Ä n.heap.objs.size) ϷT X.xe {n with heap:=n.heap.push (Ģ "slice" (Κ #[L,V,æ]))};show tail_any (ops:=[Ä n.heap.objs.size,v]) m t hg (by with_unfolding_all rfl)
def Aw(s:À V)(l hi:Ö Int):À V:=ζ (s.drop<|ϵ2 s.length l)<|ϸD HT.X0 s.length
def vc(s:À V)(l hi:Ö Int):Ì ϑU<=s.length:=by
 delta Aw;rw[Zg,K8y];lia
def Ve(K:At):V->ϴs (Ö Int) (Ý Hp VK):=λx l hi H Q=>∃a s,x=Ä a/\Ϥn/\
 ¬(ϵ2 s.length l=0/\ϥY s.length hi=s.length)/\∀p,ϴ9->Q (Ä p) (Ę p<|Ī ϑU)
def Rf:SlR X (Ve X.K):=by
 ext p s f H x v V u L hi e Q I R c pl pu h;let(a,S,rfl,d,w,q):=h;cases R;let(i,r,j,Z):=I.tuple d;let l:i.toArray.size=S.length:=Ù Ys r.length.symm
 apply("tuple",_,PyProof.Rows.slot_tuple_getitem.lookup,j.typeIs,?_);apply HT.sH j c pl pu (by rw[l];show w) ?_ (by rw[l];show Z);rw[l];apply(Ä s.heap.objs.size,_,Ϭ9 (o:=Ī<|Aw S L hi) (λb O q=>Ĺ q) õ ?_,rfl,q _<|ϵR õ);show(Zd (vc S L hi) Z,_,ζ (r.drop<|ϵ2 S.length L)<|ϥY S.length hi-ϵ2 S.length L,IsTup.new _ _)
end
def Xx(n:Nat)(i:Int):ϑV:=Ï (0<=i) (if i<n then Â i.toNat else none) (if -Ũ<=i then Â ((ē (i+n))) else none)
def T1{α:Type}(s:À α)(i:Int):Ö α:=ã (Ϥh i) λj=>ϥE
def DH{i:Int}(h:Xx n i=ϰR):seqIndex? i n=ϰR/\j<n/\-Ũ<=i/\i<n:=by
 delta Xx at h;by_cases a:0<=i
 .rw[Os a]at h
  by_cases H:i<n
  .rw[ϳZ]at h
   let e:i.toNat=j:=Zh h;show(by rw[seqIndex_of a H,e],Ã,Ã,H)
  rw[ϳj]at h;cases h
 rw[P3 a]at h;by_cases H:-Ũ<=i
 .rw[ϳZ]at h
  let e:ē (i+n)=j:=Zh h;show(by rw[seqIndex_neg Ã H,e],Ã,H,Ã)
 rw[ϳj]at h;cases h
def zS{i:Int}(h:T1 xs i=ă):∃j,seqIndex? i xs.length=ϰR/\Ϩb=ă/\ϑf/\-(Ë xs.length)<=i/\i<xs.length:=by
 delta T1 at h;cases e:Xx xs.length i with
 |none=>rw[e]at h;cases h
 |some j=>rw[e]at h;let(H,a,b,c):=DH e;show(j,H,h,a,b,c)
def bW{α:Type}{s:À α}{j:Nat}{v:α}(h:ϥE=ă):T1 s ą=ă:=by
 let J:Ϯ1:=ϷW;let e:Ϥh ą=ϰR:=by delta Xx;rw[Os Ã,Os Ã];simp
 delta T1;rw[e];show h
def sI(s:À α)(v:α):T1 ϧA (-1)=ă:=by
 let a:Ì ϧA=Ϯs:=Û
 let e:Xx (Ì ϧA) (-1)=Â s.length:=by
  delta Xx;rw[a,P3 á,Os Ã]
  congr 1
  lia
 delta T1;rw[e];change ϧA[s.length]?=ă;simp
def f_(b:On):Prop:=∀o i,subscripted b false o i=operate [o,i] (getItem o i)
def IxR(X:Cx)(r:R2):Prop:=
 ∀(value slice:On)(p:À ĺ)(s:Da)(a:St)(H:Hp)(x y:V)(v u:Db)(Q:VK),ì p a H s->ϱx v->ϳF->ϪD->
  ϕx v u=operate [v,u] (ϭP u)->Ĕ (subscriptTail value slice v u) ϷT X.xe s
def MtR(X:Cx)(id:String)(r:V->À V->Ý Hp VK):Prop:=
 ∀(p:À ĺ)(s:Da)(a:St)(H:Hp)(x:V)(S:À V)(v:Db)(us:À Db)(Q:VK),ì p a H s->ϱx v->Vals S us->r x S H Q->
  Ĕ (call (ğ id)<|v::us) ϷT X.xe s
section
variable{X:Cx}{a b:On}{pos:Pos}
def IxR.or(h:ϸu r)(c:ϸu r'):ϸu (ϰD<|ϪD\/r' x y H Q):=by
 ext value slice p s a H x y v u Q I R Y q S;rcases q with q|q
 .exact h value slice p s a H x y v u Q I R Y q S
 show c value slice p s a H x y v u Q I R Y q S
def pS(hr:ϸu r)(A:ç a ta)(B:ç b tb)(S:f_ b):ç (û a b pos) ϭ9:=ϒZ Subscript_ (ϙS ϥp)
def oX(K:At):R2:=ϰD (∃p s i v,x=Ä p/\y=Á i/\ϑW/\ϧQ=ă/\Q v H)
def Vx(K:At):R2:=ϰD (∃p s i v,x=Ä p/\y=Á i/\Yr K H p s/\ϧQ=ă/\Q v H)
def UB:R2:=ϰD (∃z i c,x=Ô z/\y=Á i/\Ą z.length/\ώL=ϰf/\ξ (Ô ϷZ))
def Dc:ϸu (oX X.K):=by
 ext value slice n s c H x y v u Q I m Y h S;let(p,B,i,z,rfl,rfl,k,he,q):=h;cases m;let(t,rfl):=Y;let(T,r,pl,Z):=I.list k;let(j,a,d,A,f,g):=zS he;let(w,e,R):=r.get d;let l:=r.length;let N:=pU;let fin:ϳX n c Q w s:=⟨z,H,I,R,q⟩;by_cases b:0<=i
 .let J:i.toNat=j:=by rw[seqIndex_of b g]at a;show Zh a
  show item_listR pl.isList b Ã ϕd fin S
 let J:ē (i+Ë T.toArray.size)=j:=by
  rw[seqIndex_neg Ã f]at a;rw[Ys,<-l];show Zh a
 show ϔ2 pl.isList.typeIs slot_list_getitem.lookup (wpAny_getItem_list_neg (Q:=λr o=>r=w/\ϳX n c Q r o) pl.isList Ã ϗZ Ã ϕd (ϱB fin)) S
def Q6:ϸu (Vx X.K):=by
 ext value slice n s a H x y v u Q I f Y h S;let(p,A,i,z,rfl,rfl,d,he,q):=h;cases f;let(t,rfl):=Y;let(T,r,pl,Z):=I.tuple d;let(j,b,c,k,m,o):=zS he;let(w,e,R):=r.get c;let l:=r.length;let N:=pU;let fin:ϳX n a Q w s:=⟨z,H,I,R,q⟩;show ϔ2 pl.typeIs slot_tuple_getitem.lookup (getItem_tuple (j:=j) (Q:=λr g=>r=w/\ϳX n a Q r g) pl Ã Ã (by rw[Ys,<-l];show b) ϳ8 (ϱB fin)) S
def Qq:ϸu UB:=by
 ext value slice p s f H x y v u Q I R Y h S;let(z,i,c,rfl,rfl,Z,he,q):=h;let(t,rfl):=R;let(T,rfl):=Y;let(j,a,b,d,e,g):=zS he;let l:z.cps.toList.length=z.length:=Ű Str.length
 rw[l]at a e g;let n:=pU;show tail_any Ϙv slot_str_getitem.lookup (getItem_str (c:=c) (by
  let e1:à (Ç (i < -(϶f:Int))):=Ll Ã;let E:à (Ç (i ≥ ϶f)):=Ll Ã
  rw[e1,E,Bool.or_false]) (by rw[a];simpa using b) (ϷG (Ô ϷZ))) S
def rIx(K:At):R2:=ϰD (oX K x y H Q\/Vx K x y H Q\/UB x y H Q)
def pM:ϸu (rIx X.K):=Dc.or<|Q6.or Qq
def Ce(i:À Db)(n j:Nat)(u:Db):ϓY ((Ģ "list" ϸN))=Ģ "list" (ϰm (ϳW (i.set j u)) n):=Ű Obj.mapSeq
def Inv.lst{P:À ĺ}{a:St}{H:Hp}{s:Da}{p:Ix}{x:À V}(I:ì P a H s)(h:H p=Â (ä x)):
  ∃(i:À Db)(n:Nat),Vals x i/\Ϗ8=Â ((Ģ "list" ϸN))/\Ą x.length:=by
 let(z,i,n,r,e):=Ϫ2 h;show(i,n,r,e,z)
def Inv.lstUpd{s:Da}{S y:À V}{i its':À Db}{f:Obj->Obj}(I:ø)(h:H p=Â (ä S))(g:Ϗ8=Â ((Ģ "list" ϸN)))(F:f (Ģ "list" ϸN)=Ģ "list" (ϰm its'.toArray n'))(r:Vals y its')(Z:Ą y.length)(t:Nat):
  ì D0 σ (Ę p<|ä y) {s with heap:=Ϗf f,toks:=t}:=by
 let e:(Ϗf f).get? p=Â ((Ģ "list" (ϰm its'.toArray n'))):=by rw[K7n f g (by rw[F]<;>rfl),F]
 apply I.write (x:=p) (e:=p) (by rw[h];trivial) (Ê rfl) (λb u B q=>è (ϒ9 _ _<|K8g B) q) ⟨_,e⟩ ?_;show(Z,its',n',r,e)
def Ke:V->V->V->Ý Hp (į Hp):=λo i v H Q=>∃p s k j,o=Ä p/\i=Á k/\H p=Â (ä s)/\Ϥh k=ϰR/\Q (Ę p<|ä<|Ϥt v)
def set_list:T5 X Ke:=by
 ext P s m H o i v z y u Q I O R V h;let(p,x,k,j,rfl,rfl,f,J,q):=h;cases O;let(t,rfl):=R;let(T,n,r,g,Z):=I.lst f;let(a,w,d,e):=DH J;let l:=r.length;let N:=pU;let b:ì P m (Ę p<|ä<|ϭV v) ((ϲx (Ϗf ϓY))):=
  I.lstUpd f g (Ce T n j u) (r.set V j) (ϐV K8z) s.toks
 by_cases c:0<=k
 .let K:k.toNat=j:=by rw[seqIndex_of c e]at a;show Zh a
  show PySem.W.ki_setAt g c Ã (by rw[Ys,<-l];show e) (Ù K (_,b,q))
 let K:ē (k+Ë T.toArray.size)=j:=by
  rw[seqIndex_neg Ã d]at a;rw[Ys,<-l];show Zh a
 show PySem.W.ki_setBack g Ã (by rw[Ys,<-l];show d) Ã (Ù K (_,b,q))
def yL(l hi:Ö Int)(n:Nat):(ύQ).1=Ë (HT.X0 n 0 l:Nat)/\(ύQ).2.1=Ë (HT.X0 n n hi:Nat)/\(ύQ).2.2=1:=by
 apply(?_,?_,rfl)
 .cases l with
  |none=>simp[sliceBounds,HT.X0]
  |some i=>
   simp only[sliceBounds,HT.X0,Option.getD_none,ϱd (Ë 1 > 0),K7y];by_cases h:i<0
   .simp only[h,K7y]<;>lia
   simp only[h,if_false]<;>lia
 cases hi with
 |none=>simp[sliceBounds,HT.X0]
 |some i=>
  simp only[sliceBounds,HT.X0,Option.getD_none,ϱd (Ë 1 > 0),K7y];by_cases h:i<0
  .simp only[h,K7y]<;>lia
  simp only[h,if_false]<;>lia
def xu(i:À Db)(l hi:Ö Int):slicePick i.toArray l hi none=ϳW (ζ (i.drop<|ϵ2 i.length l)<|ϸD HT.X0 i.length):=by let(h,H,a):=yL l hi i.toArray.size;delta slicePick;rw[h,H,a];simp only[sliceRange_one,pick_run,Ys]<;>rfl
def Tx(K:At):V->ϴs (Ö Int) (Ý Hp VK):=λx l hi H Q=>∃a s,x=Ä a/\ϱ7 s/\∀p,ϴ9->Q (Ä p) (Ę p<|ä ϑU)
def tK:SlR X (Tx X.K):=by
 ext p s f H x v V u L hi e Q I R c pl pu h;let(a,S,rfl,d,q):=h;cases R;let(i,r,j,Z):=I.list d;let l:=r.length;apply("list",_,slot_list_getitem.lookup,j.isList.typeIs,?_);apply ϔb c pl pu æ Û ?_ ϗZ;rw[xu,<-l];apply(Ä s.heap.objs.size,_,Ϭ9 (o:=ä<|Aw S L hi) (λb O q=>Ĺ q) õ ?_,rfl,q _<|ϵR õ);show(Zd (vc S L hi) Z,_,0,ζ (r.drop<|ϵ2 S.length L)<|ϥY S.length hi-ϵ2 S.length L,θ)
def tL:Ź V|.Re=>true|.bl _=>true|.int _=>true|.str _=>true|_=>false
def eqV:V->Ź V
 |.Re,.Re=>true
 |.bl a,.bl b=>a==b
 |.bl a,.int b=>(if a then 1 else 0)==b
 |.int a,.bl b=>a==ϖv
 |.int a,.int b=>a==b
 |.str a,.str b=>a==b
 |_,_=>false
def PQ(Y:ϳF)(R:ϱx v)(F:ϸo tL)(f:ϸp tL):ϓ8 όx:=by
 cases y with
 |Re=>
  cases Y;cases x with
  |Re=>cases R;show SeqAt.EqAt.same _
  |bl b=>cases R;show SeqAt.EqAt.none_bool b
  |int b=>let(t,rfl):=R;show SeqAt.EqAt.none_int b t
  |str b=>let(t,rfl):=R;show SeqAt.EqAt.none_str b t
  |_=>show Ć ϨQ Xd
 |bl a=>
  cases Y;cases x with
  |Re=>cases R;show SeqAt.EqAt.bool_none a
  |bl b=>cases R;show SeqAt.EqAt.bool_bool a b
  |int b=>let(t,rfl):=R;show SeqAt.EqAt.bool_int a b t
  |str b=>let(t,rfl):=R;show SeqAt.EqAt.bool_str a b t
  |_=>show Ć ϨQ Xd
 |int a=>
  let(Q,rfl):=Y;cases x with
  |Re=>cases R;show SeqAt.EqAt.int_none a Q
  |bl b=>cases R;show SeqAt.EqAt.int_bool a Q b
  |int b=>let(t,rfl):=R;show SeqAt.EqAt.int_int a Q b t
  |str b=>let(t,rfl):=R;show SeqAt.EqAt.int_str a Q b t
  |_=>show Ć ϨQ Xd
 |str a=>
  let(Q,rfl):=Y;cases x with
  |Re=>cases R;show SeqAt.EqAt.str_none a Q
  |bl b=>cases R;show SeqAt.EqAt.str_bool a Q b
  |int b=>let(t,rfl):=R;show SeqAt.EqAt.str_int a Q b t
  |str b=>let(t,rfl):=R;show SeqAt.EqAt.str_str a Q b t
  |_=>show Ć ϨQ Xd
 |_=>show Ć (show Ϫl from F) Xd
def eqU(x:V)(u:Db):Bool:=match u with
 |.none=>eqV .Re x
 |.bool b=>eqV ϱz x
 |.int i _=>eqV (Á i) x
 |.str z _=>eqV (Ô z) x
 |_=>false
def JC(r:ϳF)(f:ϸo tL):Ϥ9 u=όx:=by
 cases y with
 |Re=>cases r;rfl
 |bl b=>cases r;rfl
 |int i=>let(t,rfl):=r;rfl
 |str z=>let(t,rfl):=r;rfl
 |_=>show Ć ϨQ Xd
theorem sA:∀{s:À V}{us:À Db},Ϸc us->ā s.all tL->us.any Ϥ9=s.any λy=>όx|_,_,.nil,_=>rfl|y::s,u::us,.cons r t,f=>by rw[K7t,Yt]at f;rw[K7u,K7u,JC r f.1,sA t f.2]
theorem pW(R:ϱx v)(F:ϸp tL):∀{X:À V}{us:À Db},ϳM X->ā X.all tL->∀u∈us,ϓ8<|Ϥ9 u
 |_,_,.nil,_=>λu U=>by cases U
 |y::X,u::us,.cons r t,f=>λa U=>by
  rw[K7t,Yt]at f;rcases W7.mp U with rfl|U
  .rw[JC r f.1];show PQ r R f.1 F
  .exact pW R F t f.2 a U
def inV(x:V)(s:À V):Bool:=s.any λy=>όx
def rIn(K:At)(neg:Bool):R2:=ϰD (∃p s,y=Ä p/\(ϑW\/Yr K H p s)/\ϸp tL/\ā s.all tL/\ϫH (Ϭe<|inV x s))
def jZ:ϵA In (ϑX false):=by
 ext n s b H x y v u Q I R Y h;let(p,S,rfl,a,f,fs,q):=h;cases Y;rcases a with a|a
 .let(i,r,pl,Z):=όd
  apply SeqAt.in_listAt Ϥ9 pl.isList ϫ2 ϬF;rw[ϫX,sA r fs];show q
 let(i,r,pl,Z):=ϯr;apply SeqAt.in_tupleAt Ϥ9 pl ϫ2 ϬF;rw[ϫX,sA r fs];show q
def fZ:ϵA NotIn (ϑX true):=by
 ext n s b H x y v u Q I R Y h;let(p,S,rfl,a,f,fs,q):=h;cases Y;rcases a with a|a
 .let(i,r,pl,Z):=όd
  apply SeqAt.notIn_listAt Ϥ9 pl.isList ϫ2 ϬF;rw[ϫX,sA r fs];show q
 let(i,r,pl,Z):=ϯr;apply SeqAt.notIn_tupleAt Ϥ9 pl ϫ2 ϬF;rw[ϫX,sA r fs];show q
def zN:Ϥy (ğ "len") (Ϭy (x=[Ä p]) X.K (ξ (Á y.length))):=by
 ext n s c H x us Q I r h;let(p,y,rfl,a,q):=h;let(u,rfl,b):=ϫv;cases b;let N:=pU;rcases a with a|a
 .let(i,R,pl,Z):=όd
  let l:=R.length;show Calls.call_len_list pl.isList Ϭt ⟨Á y.length,H,Ϸ5,ϕe,q⟩
 let(i,R,pl,Z):=ϯr;let l:=R.length;show len_tuple pl Ϭt ⟨Á y.length,H,Ϸ5,ϕe,q⟩
def yU:Ϥy (ğ "len") (∃z,x=[Ô z]/\Ą z.length/\ξ (Á z.length)):=by ext p s a H x us Q I r h;let(z,rfl,Z,q):=h;let(u,rfl,t,rfl):=ϫv;let n:=pU;show len_str Ã (ϷG (Á z.length))
def d5.or(h:ϳ0 f r)(c:ϳ0 f r'):ϳ0 f (λx H Q=>ϫu\/r' x H Q):=by
 ext p s a H x us Q I R q;rcases q with q|q
 .exact ϥd a H x us Q I R q
 show c p s a H x us Q I R q
def yN:Ϥy (ć "list") (Ϭy (x=[Ä p]) X.K (∀l,ϤT->Q (Ä l) (Ę l<|ä y))):=by
 ext P s j H x us Q I r h;let(p,y,rfl,a,q):=h;let(u,rfl,f):=ϫv;cases f;let fin:∀(i:À Db),Vals y i->Ą y.length->∀(c:Op)(G:Nat),(∀b O,ϰx=ϧ8->c.get? b=ϧ8)->
   c.get? s.heap.objs.size=Â {cls:=ć "list",dict:=none,data:=ϰm i.toArray G,slots:=#[]}->ϳX P j Q (Ä s.heap.objs.size) ϭt:=λi R Z c G k e=>
  ⟨Ä s.heap.objs.size,_,Ϭ9 k õ (ω (Ϻq _ c _ (ä y)) ⟨Z,i,G,R,e⟩),rfl,q _<|ϵR õ⟩
 rcases a with a|a
 .let(i,R,pl,Z):=όd
  let L:=R.length;let(o,g,hc,n,d):=pl.isList;show call_list_seq p (Ê rfl) g hc d ϔn Ϭt
 let(i,R,pl,Z):=ϯr;let L:=R.length;let(o,g,hc,n,d):=pl;show call_list_seq p (Ð rfl) g hc d ϔn Ϭt
def tyV(K:At)(T:String)(x:V)(H:Hp):Prop:=match x with
 |.str _=>T="str"
 |.int _=>T="int"
 |.ref p=>(T="list"/\∃s,ϑW)\/(T="tuple"/\∃o,K.lookup p=Ø/\o.cls=ć "tuple"/\o.dict=none)\/
   (T="dict"/\((∃k,H p=Â ϧU)\/∃k,H p=Â (.dT k)))\/(T="set"/\∃S n,H p=Â (.set S n))
 |_=>False
theorem HM(I:ø)(r:ϱx v)(ty:tyV X.K T x H):
  s.TypeIs v T/\∀a,v=Ä a->∃O,Ϧt=ϧ8/\O.dict=none:=by
 cases x with
 |str z=>
  let(t,rfl):=r;cases(ω (T="str") ty);show(Ϙv,λ_ e=>nomatch e)
 |int i=>
  let(t,rfl):=r;cases(ω (T="int") ty);show(typeIs_int s i t,λ_ e=>nomatch e)
 |ref p=>
  cases r;rcases ty with⟨rfl,f,q⟩|⟨rfl,o,k,hc,d⟩|⟨rfl,k⟩|⟨rfl,S,n,k⟩
  .let(b,_,pl,_):=I.list q
   apply(pl.isList.typeIs,λa e=>?_);cases e;let(o,n,e,c,d,_):=pl;show(o,e,d)
  .apply((o,I.Zj p o k,hc),λa e=>?_)
   cases e;show(o,I.Zj _ o k,d)
  .let z:∃o,Ϗ8=Ø/\o.ExactDict:=by
    rcases k with⟨K,k⟩|⟨K,k⟩
    .let(_,_,_,_,o,_,_,e,ex,_):=Ϫ2 k
     show(o,e,ex)
    let(_,_,_,_,o,_,_,e,ex,_):=Ϫ2 k;show(o,e,ex)
   let(o,e,ex):=z;apply((o,e,ex.1),λa E=>?_);cases E;show(o,e,ex.2.1)
  let(o,_,_,_,e,ex,_):=Ϫ2 k;apply((o,e,ex.1),λa E=>?_);cases E;show(o,e,ex.2.1)
 |_=>show False.elim ty
def Pk(K:At)(T:String)(r:V->À V->Ý Hp VK)(to:TE):TE:=ϕt (r x [] h Q)
def tBM(K:At)(T:String)(r:V->À V->Ý Hp VK)(to:TE)(t:TA):TE:=ϕt (t a h λs b=>r x s b Q)
variable{apos cpos:Pos}{T id:String}
def Hu(P:PlainAttrs T)(slot:Slot T name id)(t:typeOf (ğ id)=pure (ć "method_descriptor"))(M:ϑY)(g:ç o to)
  (b:Ñ (Ϧe name X.env ϵG=ϵG)) (l:Ñ ϥR):ç (ô (ĝ o name apos) [] cpos) (Pk X.K T r to):=by
 ext p s a H Q I h;apply ϙ8<|ϴL (g p s a H _ I h);let(x,c,i,R,ty,q):=zz;let(d,e):=HM i R ty;show(T,id,P,slot,t,d,e,ϒO<|PySem.evalArgs_none<|M p s1 a c x [] v [] Q i R í q)
def v_(P:PlainAttrs T)(slot:Slot T name id)(y:typeOf (ğ id)=pure (ć "method_descriptor"))(M:ϑY)(O:ç o to)(n:ϰM ď t)
  (b:Ñ (Ϧe name X.env ϵG=ϵG))
  (f:autoParam (((ϴH<|Õ ď).all (λx=>!x.1)&&(backToKw cpos<|keywordEach [] X.env).all (λx=>(ϸy x.1))
   &&Ç (Ì ď+Ì ([]:À Keyword)+(Ï ([]:À Keyword).isEmpty 0 1)<30))=true) mqaa._auto_1)
  (i:Ñ ϥR) (S:Ñ (Õ ď=ź (Õ es))) (l:Ñ (Ŕ<|ϴH<|Õ es)):
  ç (ô (ĝ o name apos) ď cpos) (tBM X.K T r to t):=by
 ext p s a H Q I h;apply ϙT<|ϴL ϗT;let(x,d,c,R,ty,q):=zz;let(k,m):=HM c R ty;apply(T,id,P,slot,y,k,m,?_);let A:=n cpos p s1 a d _ c q;rw[S]at A⊢;apply Calls.callWith_builtin (by change à (false||(ϴH<|Õ es).any ģ);rw[l]<;>rfl)<|Ϗn ?_;show Rn A λus z⟨V,g,j,w,u⟩=>M p z a g x V v us Q j R w u
end
def MtM(X:Cx)(id:String)(r:V->À V->Ý Hp VK):Prop:=
 ∀(p:À ĺ)(s:Da)(a:St)(H:Hp)(x:V)(S:À V)(v:Db)(us:À Db)(Q:VK),ì p a H s->ϱx v->Vals S us->r x S H Q->
  Ĕ (call (ğ id)<|v::us) ϷT X.xe s
def Vals.one(h:ϳM [x]):∃u,us=[u]/\ϱx u:=by
 cases h with|cons r t=>cases t;show(_,rfl,r)
def Vals.two(h:ϳM [x,y]):∃u v,us=[u,v]/\ϱx u/\RelV y v:=by
 cases h with|cons r t=>let(v,rfl,q):=Vals.one t;show(_,v,rfl,r,q)
theorem Vals.zero:∀{us:À Db},ϳM []->us=[]|_,.nil=>rfl
def Vals.dropLast(h:Ϲn us):ϵu xs.dropLast us.dropLast:=by
 induction h with
 |nil=>show í
 |cons r t ih=>
  cases t with|nil=>show í|cons q t'=>show ð r ih
def Vals.reverse(h:Ϲn us):ϵu xs.reverse us.reverse:=by
 induction h with|nil=>show í|cons r t ih=>rw[K8R,K8R];show Vals.append ih<|ð r í
theorem Vals.rep(h:Ϲn us):∀k:Nat,ϵu ((ϸr (ϲs xs))) ((ϸr (ϲs us)))|0=>í|k+1=>ϔW Vals.append Vals.rep
def Bq(l:À α):l.eraseIdx (l.length-1)=l.dropLast:=by
 induction l with
 |nil=>rfl
 |cons a r ih=>
  cases r with
  |nil=>rfl
  |cons b r=>
   let e:Ì (a::b::r)-1=(Ì (b::r)-1)+1:=by
    let h:Ì (a::b::r)=r.length+2:=rfl;let H:Ì (b::r)=r.length+1:=rfl;lia
   rw[e,Zbu,ih]
   all_goals rfl
theorem foldl_rep(i:À Db):∀(k:Nat)(a:À Db),
  ύw a.toArray (ϲs i.toArray)=ϳW (a++ϸr (ϲs i))
 |0,a=>Û
 |k+1,a=>by
  let e:a.toArray++i.toArray=ϳW (a++i):=Û
  let E:(a++i)++ϸr (ϲs i)=a++ϸr (ϲy (k+1) i):=by rw[K99,K8a,K9M]
  rw[<-E,<-foldl_rep i k (a++i),<-e,K99,Zbz]
section
variable{s:Da}{xs ys zs:À V}
def Inv.lset{i its':À Db}{f:ϰ3 Db->ϰ3 Db}(I:ø)(h:H l=Â (ä xs))(e:s.heap.get? l=Â ((Ģ "list" ϸN)))(F:f i.toArray=its'.toArray)(v:Vals ys its')(Z:Ą ys.length):
  ì D0 σ (Ę l<|ä ys) ((ϳ9 (s.heap.update l<|Obj.mapSeq f) t')):=by
 let q:=PySem.IsL.update e f;rw[F]at q;apply I.write (x:=l) (e:=l) (by rw[h];show trivial) (Ê rfl) (λb u B U=>è (ϒ9 s.heap (Obj.mapSeq f)<|K8g B) U) ⟨_,q⟩ ?_;show(Z,its',_,v,q)
def Inv.lnew(I:ø)(h:Vals ys its)(Z:Ą ys.length):
  ì D0 σ (ϹR<|ä ys) ((ϳ9 (Ţ ((Ģ "list" (ϰm its.toArray)))) t')):=
 I.laid (λ_ _ q=>Ĺ q) õ ⟨Z,its,0,h,θ⟩
def Inv.fresh(I:ø):H s.heap.objs.size=none:=ϵR õ
def Inv.lstM(I:ø)(h:H l=Â (ä xs)):Ą xs.length/\∃(i:À Db)(n:Nat),Ϲn i/\Ϙw/\s.heap.get? l=Â ((Ģ "list" ϸN)):=by let(z,i,n,r,e):=I.Uf l _ h;show(z,i,n,r,r.length,e)
def wC(h:n<=sizeLine):à (Builtin.List.listTooLong n):=by delta Builtin.List.listTooLong;show Ll Ã
end
def sD:V->À V->Ý Hp VK:=ϧB (∃l s y,x=Ä l/\d=[y]/\H l=Â (ä s)/\ϤZ s.length/\Ϩt (Ę l<|ä<|s++[y]))
def mz:MtM X "list.append" sD:=by
 ext p s f H x d v us Q I b R h;let(l,S,y,rfl,rfl,a,Z,q):=h;cases b;let(u,rfl,L):=R.one;let(z,i,n,r,c,e):=Ϫ3;apply Ϲm F.slot_list_append ϸS F.entry_list_append F.args_list_append_2 (ϙI<|î Ys) Ϫp;apply(.Re,_,ϩm (i++[u]) Û (r.append<|ð L í),rfl,q);rw[Ww,K9e];lia
def Dd:V->À V->Ý Hp VK:=ϧB (∃l b s zs,x=Ä l/\d=[Ä b]/\H l=Â (ä s)/\H b=Â (ä zs)/\Ą ϻT/\Ϩt (Ę l<|ä Ϸa))
def EB:MtM X "list.extend" Dd:=by
 ext p s j H x S v us Q I c V h;let(l,b,f,zs,rfl,rfl,a,B,Z,q):=h;cases c;let(u,rfl,U):=V.one;cases U;let(z,t,n,r,d,e):=Ϫ3;let(g,i,N,R,L,E):=I.lstM B;let hsz:Ą ϫ9:=ϰP Ys Ys
 let o:¬þ (!t.toArray.isEmpty&&ϗk ϫ9):=ϳH (wC hsz) Zbp Xd
 apply Ϲm F.slot_list_extend ϸS F.entry_list_extend F.args_list_extend_2 (ϒQ (î Ys) Ã) ⟨e,E,?_⟩
 apply(.Re,_,ϩm (t++i) Û ϏW,rfl,q);rw[Ww];lia
def QI:V->À V->Ý Hp VK:=ϧB (∃l s y,x=Ä l/\d=[]/\H l=Â (ä s)/\s[s.length-1]?=γ/\Q y (Ę l<|ä s.dropLast))
def IF:MtM X "list.pop" QI:=by
 ext p s g H x S v us Q I d V h;let(l,f,y,rfl,rfl,a,c,q):=h;cases d;let U:=V.zero;subst U;let(z,i,n,r,L,e):=Ϫ3;let(u,b,R):=r.get c;let Y:i.toArray[Ϙx]?=ě:=by
  change i.toArray[i.length-1]?=ě;rw[<-K7m,<-L];show b
 apply K81 F.slot_list_pop ϸS F.entry_list_pop (F.args_list_pop_1 _) (ϙx<|î Ys) Ϫp;apply(y,_,ϩm i.dropLast ?_ r.dropLast,R,q)
 .change i.toArray.eraseIdxIfInBounds Ϙx=i.dropLast.toArray
  rw[Ys,List.eraseIdxIfInBounds_toArray,Bq]
 rw[List.length_dropLast];lia
def len_rep(s:À α)(k:Nat):(ϲs s).flatten.length=k*s.length:=by
 induction k with|zero=>simp|succ k ih=>rw[K99,K8a,Ww,ih,Nat.succ_mul,Nat.add_comm]
end L2
namespace Att
open PySem PySem.W PySem.Calls PyProof.Rows
def vh:∀(ns:À Int)(d:À Db),WellAll P h d ϗ0->IntsAre d ns:=by
 ext ns
 induction ns with
 |nil=>ext d w;rw[Z_]at w;cases w;show í
 |cons n ns ih=>
  ext d w;rw[L4]at w;cases w with|cons a b=>cases a;show ð _ _<|ih _ b
theorem D1{l:OpenLaw}(N:l.most=ϰQ){h:Op}(p:l.row.toRowW.claim.pre args=true)(w:WellAll P h vals args):
  ∃a v ns,vals=[ϴR]/\args=[WData.list ϗ0]/\Τ=Â ((Ģ "list" (ϰm v.toArray)))/\IntsAre v ns/\Ϯc:=by
 let s:WShape.hasAll [] args [Å Á]=true:=(pre_splitW p).1;let hc:l.pre.holds [] {args:=args}=true:=(pre_splitW p).2;let(d,r,rfl,b,c):=hasAllW_cons s;obtain rfl:=hasAllW_nil c;let(x,rfl,f):=hasW_list b;let(ns,rfl):=items_int f;let e:Ϯc:=by
  delta OpenLaw.pre at hc;let H:(WTm.not<|.lt (.lit<|Á Ũ)<|.len<|.arg 0).holds [] {args:=[Å<|ns.map Á]}=true:=by let H:=(holds_andW hc).1;rw[N]at H;show H
  let g:=condW_of H<|w_not<|w_lt w_lit<|w_len_list<|w_arg rfl;rw[K1]at g;apply Nat.le_of_not_lt λq=>?_;let Q:Ũ<Ë ns.length:=Ã
  first
   |(rw[W6 Q]at g;show Ć g á)
   |(simp at g;lia)
 cases w with
 |cons w1 w2=>
  cases w2;cases w1 with|list ho hall=>show(_,_,ns,rfl,rfl,ho,vh ns _ hall,e)
def Ej(l:OpenLaw)(args:À WData):l.row.toRowW.claim.post args (ß true) args=true:=
 postW_of (r:=l.row.toRowW) (X:=(true==true))
  (show WShape.has [] (ß true) ß=true by first|rfl|decide|simp[WShape.has,WShape.arms,WShape.armsAll])
  (ω ((WTm.eq .res<|.lit<|ß true).value [] {args:=args,res:=Â<|ß true,after:=args}=Â (ß<|true==true))<|w_eq_bool (w_res rfl) w_lit) rfl
def Ba{l:OpenLaw}{x:Ý ĳ Op}{y:Ý Ev Op}{d:DefRec}(N:l.most=ϰQ)(H:ώf)(call:∀(w:Ev)(s₀ S:Da)(m M:ĳ)(fa:Ix)(o:Obj)(pm cd doc:Db)(a:Ix)(v:À Db)(ns:À Int),
   Ground q loose [] x w s₀ m M S.heap->y w S.heap->
   S.heap.get? fa=Ø->o.data=.func (docDef d.name d.params d.body d.scope pm cd doc)->S.heap.CodeRec cd d.name->m d.name=Â (Ä fa)->
   S.heap.get? a=Â ((Ģ "list" (ϰm v.toArray)))->IntsAre v ns->Ϯc->S.gens=#[]->
   ϵk (model l.prog w) callerA (ϻB (Ä fa) (ϰI [Ä a])) (λr s=>r=ϧz (ß true)/\OldK S.heap s.heap/\s.os=S.os/\Ϗw) S):
  WalkO q loose x y l.row.toRowW d [] (λf v=>ϐA v):=by
 ext w s₀ S m M G Y fa o pm cd doc V kV u k c D g hg args vals as p L R W O;obtain rfl:V=æ:=Dflts.none D H;obtain rfl:kV=æ:=Dflts.noKw D;let(a,v,ns,rfl,rfl,b,hints,h):=D1 N p W;apply enter_call<|K8E (call w s₀ S m M fa o pm cd doc a v ns G Y u (fd_plain k) c g b hints h hg) λr s Q=>?_;let(rfl,e,i,j):=Q;show(Ê ⟨ß true,ß true,[],rfl,ϺV,ß true,Ej l _,ϰ9 ⟨List.Pairwise.nil,λ_ t=>(nomatch t)⟩⟩,e,i,j)
def ledger(h:Op)(L d:Ix):À ĺ:=(ń h.objs.size).filterMap λa=>if a=L\/a=d then none else Ó Τ λo=>(a,o)
end Att
namespace L2
open PySem PySem.Spec PyProof.Rows
theorem j_:∀{d:À Db}{ns:À Int},IntsAre d ns->ϵu ϰw d|_,_,.nil=>í|_,_,.cons n t h=>ð Ϯz<|j_ h
def P7(H:Hp):Prop:=∀b,ϰY\/∃o s,H b=Â (.W3 o<|ä s)
abbrev KOf{K:At}{h:Op}(_:ϳN):At:=K
def fC(s:No):Arguments:=match s with
 |.FunctionDef _ a _ _ _ _ _ _ _ _=>a
 |_=>{posonlyargs:=[],args:=[],vararg:=none,kwonlyargs:=[],kw_defaults:=[],kwarg:=none,defaults:=[]}
def cU(s:No):À No:=match s with
 |.FunctionDef _ _ b _ _ _ _ _ _ _=>b
 |_=>[]
def ag(s:No):Scope:=match s with
 |.FunctionDef _ _ _ _ _ _ sc _ _ _=>sc
 |_=>{kind:=ϺO,names:=[],isGenerator:=false,isCoroutine:=false}
abbrev W9:CXT:=λ_ _ _ _ _ _=>False
structure Z7(K:At)(x qual:Str)(st:No)(f:Ix)(fd:Fk):Prop where
 ex:∃(oc:Db)(od:Ö Ix)(kV doc pm:Db)(an:Ö Ix)(cdv ct:Db)(osl:ϰ3 Ch),
  fd=ό9 æ kV doc pm an cdv ct/\ϑT=Â ⟨oc,od,.func fd,osl⟩/\όc cdv qual=true
 kp:ϴX K (Ä f)
section
variable{K:At}
def Z7.ok{T:No}(F:Ϩ8)(S:Ϥ3 ϸh)(len:∀d H Q E,Ϫo->ϲB d.length)(b:∀(c:Db)(A:Go)(outer:À Env)(s:Da)(H:Hp)(d:À V)(Q:VK)(E:XK),Ϩw ϸh->Ϫo->
   ∃t,PSs (ό0 W9 mg).nox (cU T) t/\ϓp):ϲj (k+1) f fd ps sp:=by
 let(O,od,kV,doc,pm,an,c,ct,l,rfl,G,C):=F.ex;apply ND G C S len λA outer s H d Q E hr p=>?_;let(t,h,q):=b c A outer s H d Q E hr p;show(t,h.nox,q)
def Z7.binds{T:No}(F:Ϩ8)(h:∀(kV doc pm:Db)(an:Ö Ix)(c ct:Db)(us:À Db),ϲB us.length->bindArgs (fnOf x qual (fC T) (cU T) ϸh æ kV doc pm an c ct) (ϰI us)=pure ϦJ):ϲZ K []:=by let(O,od,kV,doc,pm,an,c,ct,l,rfl,G,d):=F.ex;show .all<|h kV doc pm an c ct
def BS{x qual:Str}{st:No}{f:Ix}{O:Db}{od an:Ö Ix}{o:ϰ3 Ch}{kV doc pm d ct:Db}(l:ϑT=Â ⟨O,od,.func<|ό9 æ kV doc pm an d ct,o⟩)
  (c:όc d qual=true) (k:ϴX K (Ä f)):ϳ1 x qual st f (ό9 æ kV doc pm an d ct):=⟨⟨O,od,kV,doc,pm,an,d,ct,o,rfl,l,c⟩,k⟩
end
section
variable{X:Cx}
def pv(i:Nat){pos:Pos}(hN:Ñ Ξ)(hv:ϲP)(hd:ġ "__debug__")(Yy:ġ "__classdict__"):ç (Ü pos) ϰg:=ϳr
end
def aB(H H':Hp):Prop:=∀b o,Ϲ6 Ø
def aB.refl(H:Hp):aB H H:=λ_ _ h=>h
def aB.trans(a:aB H H1)(b:aB H1 H2):aB H H2:=λc o h=>b c o<|a c o h
def aB.free(e:ϵg)(h:H' l=Option.none):H l=Option.none:=by
 cases q:H l with|none=>rfl|some o=>rw[e l o q]at h;cases h
def aB.seq{K:At}{H H':Hp}{a:Ix}{s:À V}(e:ϵg)(h:ϱ7 s):Xa K H' a s:=by
 rcases h with (h|⟨o,h⟩)|h
 .exact Ê<|Ê ϺZ
 .exact Ê<|Ð ⟨o,ϺZ⟩
 show Ð h
end L2
set_option maxHeartbeats 4000000
namespace L2
open PySem PySem.Spec PyProof.Rows
def frees(env:Env):À ϴa->À ϴ4->À ϴ4|[],cs=>cs|(n,k)::r,cs=>Ï (þ ϥ6) (Ϥu r ((n,ϊ ώy 0)::cs)) (Ϥu r cs)
theorem um:∀(l:À ϴa)(s:À ϴ4),(∀y∈l,y.2=ε->∃c,Ϗs y.1=ϰf)->
  (∀c,ϑZ=ϰf->ϭc=ϰf)->ϲl (Ϥu l s)->ϭc=ϰf
 |[],s,_,hc,e=>hc c e
 |(n,k)::r,s,hl,hc,e=>by
  delta frees at e;by_cases H:þ ϥ6
  .rw[ϳZ]at e
   let(d,D):=hl (n,k) P0 Ϻe;let h:ώy=ϰH:=D;apply um r _ (λy Y=>hl y<|Ā Y) (λG e'=>?_) e;rw[K9X]at e';cases hx:x==n with
   |true=>
    rw[hx]at e';let X:x=n:=ť hx
    rw[h]at e';rw[X,h];show e'
   |false=>rw[hx]at e';show hc G e'
  .rw[ϳj]at e
   show um r s (λy Y=>hl y<|Ā Y) hc e
theorem pZ:∀(l:À ϴa)(s:À ϴ4),(ϖS\/∃c,ϑZ=ϰf)->∃c,ϲl (Ϥu l s)
 |[],s,h=>by
  rcases h with h|h
  .cases h
  .exact h
 |(n,k)::r,s,h=>by
  delta frees;by_cases H:þ ϥ6
  .rw[ϳZ]
   apply pZ r _ ?_;rcases h with h|⟨c,h⟩
   .rcases W7.mp h with e|e
    .cases e
     show Ð ⟨ϊ ϭc 0,ϲK K9X K8O⟩
    .exact Ê e
   .apply Ð ?_
    rw[K9X];cases hx:x==n with|true=>show(_,rfl)|false=>show(c,h)
  .rw[ϳj]
   apply pZ r _ ?_;rcases h with h|h
   .rcases W7.mp h with e|e
    .cases e
     show ϲv H
    .exact Ê e
   .exact Ð h
theorem C8{env:Env}:∀{names:À ϴa},(ϵs (names.map λ(n,k)=>Ï (Ϩz&&ϩN==Â ŏ) (n,NameKind.cell) (n,k)) x=Â k')->
  ∃k,names.lookup x=Β/\(k'=k\/(k=ε/\k'=ŏ))
 |[],h=>ϵH
 |(n,k)::r,h=>by
  rw[L4]at h;dsimp only at h;rw[K9X];by_cases hc:þ (Ϩz&&ϩN==Â ŏ)
  .rw[Os hc,K9X]at h
   cases hx:x==n with
   |true=>
    rw[hx]at h;cases h;let H:k=ε:=by
     rw[Yt,Yt]at hc;simpa using hc.1.1
    show(k,rfl,Ð ⟨H,rfl⟩)
   |false=>rw[hx]at h;show C8 h
  .rw[P3 hc,K9X]at h
   cases hx:x==n with
   |true=>rw[hx]at h;cases h;show(_,rfl,Ê rfl)
   |false=>rw[hx]at h;show C8 h
theorem nF{env:Env}:∀{names:À ϴa},names.lookup x=Â ε->
  ϵz (ϵs (names.map λ(n,k)=>Ï (Ϩz&&ϩN==Â ŏ) (n,NameKind.cell) (n,k)) x) (Â ŏ) (Â ε)
 |[],h=>ϵH
 |(n,k)::r,h=>by
  rw[L4];dsimp only;rw[K9X]at h;by_cases hc:þ (Ϩz&&ϩN==Â ŏ)
  .rw[Os hc,K9X]
   cases hx:x==n with|true=>show Ê rfl|false=>rw[hx]at h;show nF h
  .rw[P3 hc,K9X]
   cases hx:x==n with
   |true=>rw[hx]at h;cases h;show Ð rfl
   |false=>rw[hx]at h;show nF h
theorem k7:∀{l:À ϴa},l.lookup x=Β->(x,k)∈l
 |(n,j)::r,h=>by
  rw[K9X]at h;cases hx:x==n with
  |true=>
   rw[hx]at h;cases h;let:x=n:=ť hx
   rw[this];show P0
  |false=>rw[hx]at h;show Ā<|k7 h
def vY(h:ϴK (x.2=ε->∃c,Ϗs x.1=ϰf)):closureFor scope env=pure (Ϥu scope.names []):=by
 delta closureFor;let key:∀(l:À ϴa)(s:À ϴ4),(∀x∈l,x.2=ε->∃c,Ϗs x.1=ϰf)->
  (forIn l s λ(x:Str×NameKind)(r:List (Str×Ix))=>if þ (x.2==NameKind.free) then do let a <-cellOf env x.1;pure (ForInStep.yield<|(x.1,a)::r)else ϕS:Sem (À ϴ4))=pure (Ϥu l s):=by
  ext l
  induction l with
  |nil=>ext s _;rfl
  |cons x r ih=>
   ext s X;let(n,k):=x;rw[Zca];dsimp only;let hr:=λs=>ih s λy Y=>X y<|Ā Y;by_cases H:þ ϥ6
   .let(c,hc):=X (n,k) P0 Ϻe
    let C:ώy=ϰf:=hc;rw[ϳZ];delta frees;rw[ϳZ];let e1:cellOf env n=pure c:=by delta cellOf;rw[C]
    rw[e1,C,<-hr];rfl
   rw[ϳj];delta frees;rw[ϳj,<-hr];rfl
 let:=key scope.names [] h;simp only[bind_pure];show this
def Il(ifs:À On)(env:Env):όe:=forIn ifs true λc r=>if r=true then do let ok <-isTrue c env (eval c env);pure (ForInStep.yield ok)else ϕS
theorem zt{pos:Pos}{it a:Db}(J:Nat->į Da)(turn:∀n s,J n s->wpAny ϲm A (pyNext it) (λr s1=>match r with
   |none=>R (ò ϴx) s1
   |some v=>wpAny ϲm A (ύ2 it v) (λ_ c=>wpAny ϲm A (assign tg env v) (λ_ d=>wpAny ϲm A (Il ifs env) (λok s4=>
     Ï (ok=true) (Ł (eval elt env) (λx K=>Ł (call (ğ "list.append") [a,x]) (λ_ g=>∃m,m<n/\J m g) ϳt K) ϳt s4) (∃m,m<n/\J m s4)) ϳt d) ϳt c) ϳt s1) ϳt s)(n:Nat)(h:J n s):ϵk ϲm A (.compLoop ϴB 0 it a env) R s:=by
 apply codeAny_loop rfl J (λn s o=>?_) n h;let no:∀(P:Ý Db Da)(e:Db)(S:Da),False->P e S:=λ_ _ _ f=>f.elim;change ϶e _ A ((compTurn ϴB 0 it a env).onRaise λx=>do noteFrame x env;theTreesLotGoes x) _ _ s;apply wpAny_noted ?_;rw[compTurn_list];apply Fq<|K7e<|Fq<|K8m (turn n s o) (λr s1 H=>?_) Ϧf;cases r with
 |none=>show Ps H
 |some v=>
  apply Fq<|K8m H (λ_ c i=>?_) Ϧf;apply Fq<|K8m i (λ_ d j=>?_) Ϧf;apply Fq<|K8m j (λok s4 b=>?_) Ϧf;cases ok with
  |false=>show Ps ⟨rfl,b⟩
  |true=>
   apply Fq<|Fq<|K8m b (λx K k=>?_) Ϧf;show Fq<|K8m k (λ_ g l=>Ps<|Ps ⟨rfl,l⟩) Ϧf
def cxB(X:Cx)(N:À Str)(scope:Scope)(s:Da)(H:Hp)(C:Ix)(ex:À Ix)(p:À ĺ):Cx:=
 {X with N:=N,s₀:=s,H₀:=H,env:=compEnvC scope ϴD C X.env,outer:=X.stack,ex:=ex,fn:=ϲr,pn:=X.pn++p,xe:=ϳt}
def o4(X:Cx)(scope:Scope):į (À ϴi)|[]=>True|p::r=>(X.N[p.1]?=Â p.2/\Ϻb p.2=Â ε)/\o4 X scope r
theorem o4.get:∀{outs:À ϴi}{j:Nat}{p:ϴi},Ϯl X->outs[j]?=some p->X.N[p.1]?=Â p.2/\Ϻb p.2=Â ε
 |[],_,_,_,e=>ϦA
 |q::r,0,p,h,e=>Ϭj h.1
 |q::r,j+1,p,h,e=>o4.get (j:=j) h.2 ϳ8
structure Blk(X:Cx)(sc scope:Scope)(outs:À ϴi):Prop where
 hsc:X.env.scope=sc
 kind:scope.kind=ϺO
 loc:ϴK (x.2=Ų->Ϻb x.1=Â Ų)
 nocell:ϴK (x.2≠ŏ)
 fr:ϴK (x.2=ε->ϵz Ϭ2 (Â ŏ) (Â ε))
 out:Ϯl X
def slots(k:Nat)(outs:À ϴi)(a:St):St:=ϲs none++ϴo (λp=>(a[p.1]?).join)
def kU:Ý St St|[],[]=>True|none::r,_::r'=>kU r r'|some v::r,w::r'=>w=ă/\kU r r'|_,_=>False
theorem kU.len:∀{σ σ':St},kU σ σ'->σ.length=σ'.length
 |[],[],_=>rfl
 |none::r,_::r',h=>by let:=ϗt h;simp[this]
 |some v::r,w::r',h=>by let:=ϗt h.2;simp[this]
theorem kU.get:∀{σ σ':St}{i:Nat}{v:V},kU σ σ'->ϲG=Â ă->Ķ σ'=Â ă
 |[],_,_,_,_,e=>ϦA
 |none::r,w::r',0,v,_,e=>ϦA
 |none::r,w::r',i+1,v,h,e=>Ϗm (ϔA h ϳ8)
 |some u::r,w::r',0,v,h,e=>by
  simp at e;rw[h.1];simp[e]
 |some u::r,w::r',i+1,v,h,e=>Ϗm (ϔA h.2 ϳ8)
def PF(X:Cx)(ifs:À On)(t:TT):Prop:=
 ∀(p:À ĺ)(s:Da)(a:St)(H:Hp)(Q:Bool->į Hp),ì p a H s->ϧE->Ĕ (Il ifs X.env) ϏV X.xe s
def K9:TT:=λ_ H Q=>Q true H
def GL:PF X [] K9:=ϻY (wpAny_tests_nil ⟨H,I,h⟩)
def Qp(h:Ϸy c t):PF X [c] t:=λp s a H Q I q=>wpAny_tests_one<|ϥd a H Q I q
abbrev UR(tc:TT)(te:TE)(d:St)(D:Ix)(a:À V)(N:Ý (À V) Hp):Ý St Hp:=λc H=>kU d c/\tc c H λb h=>Ï ϸi (te c h λy C=>C D=Â (ä a)/\ϤZ a.length/\N ϫd (upd C D<|ä ϫd)) (N a h)
def QS(J:It)(g:TG)(tc:TT)(te:TE)(d:St)(D:Ix)(h:Hp)(Q:į Hp):Prop:=
 ∃W:Nat->Nat->Ý (À V) Hp,(∃m,W 0 m []<|upd h D<|ä [])/\∀i m c H',W i m c H'->
  (όa H'/\Q H')\/(J.go i H'/\∃N:Ý (À V) Hp,(∀a b,N a b->∃M,M<m/\W (i+1) M a b)/\∀x b,J.yld i H' x b->g x d b (UR tc te d D c N))
def C5(wi:TI)(g:TG)(tc:TT)(te:TE)(k:Nat)(outs:À ϴi):TE:=λa H Q=>wi a H λJ h=>∀D,h D=none->QS J g tc te (slots k outs a) D h λH'=>Q (Ä D) H'
set_option tactic.hygienic true in
def wF(scope:Scope)(cl:À ϴ4)(C:Ix)(env:Env):Env:=compEnvC scope (ϹX (C+1) cl) C env
set_option tactic.hygienic true in
theorem gq:∀(names:À ϴa)(n:Nat)(a:À ϴ4){x:Str}{c:Ix},ϲl Ϩ2->ϦY=ϰf\/(n<=c/\(x,NameKind.cell)∈names)
 |[],n,a,x,c,h=>Ê h
 |(y,k)::r,n,a,x,c,h=>by
  delta cellsFrom at h;split at h
  .rename_i d
   let K:k=ŏ:=ώ2
   rcases gq r (n+1) _ h with h|⟨b,H⟩
   .rw[K9X]at h
    cases hx:x==y with
    |true=>
     rw[hx]at h;cases h;let:x=y:=ť hx
     show Ð ⟨õ,by rw[<-K,this];show P0⟩
    |false=>rw[hx]at h;show Ê h
   .exact Ð ⟨Ã,Ā H⟩
  .rcases gq r n _ h with h|⟨b,H⟩
   .exact Ê h
   .exact Ð ⟨b,Ā H⟩
set_option tactic.hygienic true in
theorem lV:∀(names:À ϴa)(n:Nat)(a:À ϴ4){x:Str},(x,NameKind.cell)∉names->ϵs Ϩ2 x=ϦY
 |[],n,a,x,h=>rfl
 |(y,k)::r,n,a,x,h=>by
  delta cellsFrom;split
  .rename_i H
   let K:k=ŏ:=Ϻe
   rw[lV r (n+1) _ λz=>h<|Ā z,K9X];let:à (x==y):=by
    cases hx:x==y with
    |false=>rfl
    |true=>
     let e:x=y:=ť hx
     show Ć (by rw[e,<-K];show P0) h
   rw[this]
  .exact lV r n _ λz=>h<|Ā z
set_option tactic.hygienic true in
theorem lE:∀(names:À ϴa)(h:Op)(a:À ϴ4){x:Str}{c:Ix},ϲl (cellsFrom h.objs.size names a)->ϦY=ϰf\/(pushCells h names).IsCell c none
 |[],h,a,x,c,e=>Ê e
 |(y,k)::r,h,a,x,c,e=>by
  delta cellsFrom at e;delta pushCells;split at e
  .rename_i H
   rw[ϳZ];let sz:ϰA (h.push (Ģ "cell" (ŏ none)))=h.objs.size+1:=ϹB;rw[<-sz]at e;rcases lE r (h.push (Ģ "cell" (ŏ none))) _ e with q|q
   .rw[K9X]at q
    cases hx:x==y with
    |true=>rw[hx]at q;cases q;show Ð (ϱt (ώk _ _ θ))
    |false=>rw[hx]at q;show Ê q
   .exact Ð q
  .rename_i H
   rw[ϳj];show lE r h _ e
def A6(h:∀H:Op,(∀b o,ϰx=Ø->H.get? b=Ø)->H.Ns s.heap.objs.size Ϥo->H=pushCells (Ţ<|(Ģ "dict" (϶a #[]))) scope.names->
   Q {scope:=scope,locals:=s.heap.objs.size,globals:=globals,cells:=ϹX ļ closure,qual:=qual,func:=none,code:=outer.code,frame:=outer.frame,builtins:=outer.builtins} ϩg):
  Ϻv (ϕT globals closure [] qual none æ<|Â outer) s:=by
 simp only[newFunctionEnv,Zcj,K7y];apply Fq<|wpAny_alloc ?_;apply Fq<|wpAny_layCells _ (λname kind cells=>by cases hkc:kind==NameKind.cell<;>simp[hkc]) _ _ _ _ ?_;rw[show((ϲx (Ţ ((Ģ "dict" (϶a #[]))))):Da).heap.objs.size=ļ from ϹB];apply ϳh;rw[Zci];apply Ps<|Ps<|h _ (ϱk<|ώk b o<|Ĺ e) ((ϚJ<|ć "dict").keeps ώk) rfl
set_option tactic.hygienic true in
theorem lF:∀(names:À ϴa)(n:Nat)(a:À ϴ4),(∀x c,ϦY=ϰf->@LT.lt Nat instLTNat c n)->(∀x y c,ϦY=ϰf->a.lookup y=ϰf->x=y)->∀x y c,ϲl Ϩ2->ϵs Ϩ2 y=ϰf->x=y
 |[],n,a,_,hi,x,y,c,b,H=>hi x y c b H
 |(z,k)::r,n,a,hb,hi,x,y,c,b,H=>by
  delta cellsFrom at b H;split at b
  .rename_i K
   rw[Os K]at H;let look:∀x c,ϲl ((z,n)::a)->(x=z/\c=n)\/ϦY=ϰf:=λx c h=>by
    rw[K9X]at h;cases hx:x==z with
    |true=>rw[hx]at h;show Ê ⟨ť hx,(Zh h).symm⟩
    |false=>rw[hx]at h;show Ð h
   apply lF r (n+1) ((z,n)::a) (λx c h=>?_) (λx y c b H=>?_) x y c b H
   .rcases look x c h with⟨_,e⟩|h
    .rw[e]
     show K8d n
    .exact K8f<|hb x c h
   .rcases look x c b with⟨e1,j⟩|b
    .rcases look y c H with⟨E,J⟩|H
     .rw[e1,E]
     .rw[j]at H
      show Ć (hb y n H) Ϸd
    .rcases look y c H with⟨E,J⟩|H
     .rw[J]at b
      show Ć (hb x n b) Ϸd
     .exact hi x y c b H
  .rename_i K
   rw[P3 K]at H;show lF r n a hb hi x y c b H
set_option tactic.hygienic true in
theorem uH:∀(l:À ϴa)(s:À ϴ4),ϲl (Ϥu l s)->ϑZ=ϰf\/ϖS
 |[],s,h=>Ê h
 |(n,k)::r,s,h=>by
  delta frees at h;split at h
  .rename_i H
   let K:k=ε:=Ϻe
   rcases uH r _ h with h|h
   .rw[K9X]at h
    cases hx:x==n with
    |true=>
     let:x=n:=ť hx
     show Ð (by rw[this,<-K];show P0)
    |false=>rw[hx]at h;show Ê h
   .exact Ð<|Ā h
  .rcases uH r _ h with h|h
   .exact Ê h
   .exact Ð<|Ā h
def vF(scope:Scope)(x:Str):Bool:=scope.names.any λp=>p.1==x&&p.2==NameKind.cell
def vg(h:vF scope x=true):(x,NameKind.cell)∈scope.names:=by
 delta vF at h;rw[Zax]at h;obtain⟨⟨y,k⟩,M,e⟩:=h;rw[Yt]at e;let e1:y=x:=ť e.1
 let E:k=ŏ:=ť e.2
 rw[e1,E]at M;show M
def Y6(X:Cx)(N:À Str)(scope:Scope)(s:Da)(H:Hp)(C:Ix)(ex:À Ix)(p:À ĺ):Cx:=
 {X with N:=N,s₀:=s,H₀:=H,env:=wF scope ϴD C X.env,outer:=X.stack,ex:=ex,fn:=vF scope,pn:=X.pn++p,xe:=ϳt}
structure Zi(X:Cx)(sc scope:Scope)(outs:À ϴi):Prop where
 hsc:X.env.scope=sc
 kind:scope.kind=ϺO
 loc:ϴK (x.2=Ų->Ϻb x.1=Â Ų)
 own:ϴK (x.2=ŏ->Ϻb x.1=Â ŏ)
 ap:ϴK (x.2=ε->(x.1,NameKind.cell)∉scope.names)
 fr:ϴK (x.2=ε->ϵz Ϭ2 (Â ŏ) (Â ε))
 out:Ϯl X
section
variable{X:Cx}{sc scope:Scope}{own:À Str}{outs:À ϴi}{pos:Pos}
def uG(B:϶o)(I:ø):ϴK (x.2=ε->∃c,X.env.cells.lookup x.1=ϰf):=λx h f=>by
 apply I.ok.has x.1 ?_;change ϵz (ύV x.1) _ _;rw[B.hsc];show B.fr x h f
def HS(B:϶o)(I:ø)(J:ϳd Ϯx)(fo:ϳd (∃o,ϰx=Ø))(hn:h1.Ns ļ m)(old:∀b o,ϰx=Ø->h1.get? b=Ø)(hD:h1.get? s.heap.objs.size=Â ((Ģ "list" (ϰm #[] 0))))(D:∀x c,ϲl (ϹX (ļ+1) ϴD)->ϲl ϴD\/h1.IsCell c none):
  Inv (Ζ ļ fp D0) [] ϹY (ϹR<|ä []) (ϳ9 h1 tk):=by
 let V:=uG B I;let sub:∀x c,ϲl ϴD->ϲQ:=ϸe (um _ _ V (λT e'=>by simp at e') e);let t:∀x c,ϲQ->c<s.heap.objs.size:=λx c e=>(let⟨v,q⟩:=Ϥm e;q.lt)
 let f:∀x c,ϲl ϴD->(x,NameKind.cell)∉scope.names:=λx c e=>by
  rcases uH _ _ e with q|q
  .simp at q
  show B.ap _ q rfl
 let K:∀x c,ϲl (ϹX (ļ+1) ϴD)->ϲQ\/(ϩo 2<=c/\h1.IsCell c none):=λx c e=>by
  rcases gq _ _ _ e with q|⟨Q,j⟩
  .exact Ê<|sub x c q
  rcases D x c e with z|z
  .exact absurd j<|f x c z
  show Ð ⟨Q,z⟩
 let S:∀x c,ϲl ϴD->ϲl (ϹX (ļ+1) ϴD):=ϸe (ϦU (lV _ _ _<|f x c e))
 let F:ϳd Ϙy:=λb d=>(let⟨o,e⟩:=fo b d;ϵt)
 let un:Un (Ζ ļ fp D0).fs (Ζ ļ fp D0).ex H (ϹR<|ä []) s.heap h1:=Un.laid old õ I.fresh;let N:Ϻp (ϹR<|ä []) h1:=I.Uf.laid old õ ⟨ϴw,[],0,í,hD⟩;apply((I.ok.mod,B.kind,I.ok.glob,I.ok.blt,ϱM,λx y c e1 g=>lF _ _ _ (ϸe<|Ϛz<|Zd ϱM ϱM) (λx y c e1 g=>ϙ9<|sub y c g) x y c e1 g,λx n=>?_,λx c hf hq=>?_,I.ok.hd,I.ok.frames,Ê rfl,λb d=>⟨?_,ϸe ?_⟩,I.bs,?_,λb o e d=>?_,λb d z=>?_,I.stack,I.Zo),
  rfl,I.bare,un,(m,hn,λi x v e1 g A=>?_),ϸe ?_,?_,ϸe ?_,ϻh hp,N,?_)
 .let go:∃k,scope.names.lookup x=Β/\(k=ε\/k=ŏ):=by
   rcases n with n|n
   .let(k,e,h):=C8 (ϯ5<|ϵs (scope.names.map _) x=Â ŏ)
    rcases h with h|h
    .exact(k,e,Ð h.symm)
    show(k,e,Ê h.1)
   let(k,e,h):=C8 (ϯ5<|ϵs (scope.names.map _) x=Â ε);rcases h with h|h
   .exact(k,e,Ê h.symm)
   show(k,e,Ê h.1)
  let(k,e,h):=go;rcases h with rfl|rfl
  .let(c,hc):=ϒH<|Ê<|k7 e
   show(c,S x c hc)
  show ϖN<|ϚA<|Ê e
 .rcases gq _ _ _ hq with q|⟨Q,_⟩
  .exact Ć (vg hf)<|f x c q
  show ϒq Zd ϱM Q
 .exact Ym<|K8f<|F b d
 .rcases K x c e with q|⟨Q,_⟩
  .exact(J b d).2.2.2.2.1 x c q
  .exactλz=>Ć (F b d) (Nat.not_lt.mpr<|ϰy z (ϒq Zd ϱM Q))
 .exact Ϯo I.sz
 .rcases(J b d).2.2.2.1 with z|z
  .exact ώ0 z
  show Ć (϶B<|Ϯo z) Ϸd
 .rcases W7.mp (ϐi z)with q|q
  .exact(J b d).2.1 q
  show(J b d).2.2.1 q
 ·
  let hi:own.length<=i:=by
   by_cases hi:own.length<=i
   .exact hi
   let E:Ķ ϹY=Â ă:=g;delta slots at E;rw[K9V (ť<|Nat.lt_of_not_le hi),K8X]at E
   split at E<;>cases E
  let a:Ķ (own++ϴo ň)=Đ:=e1;let E:Ķ ϹY=Â ă:=g;delta slots at E;rw[K9a hi,T2]at a;rw[K9a ϬY,K8r,T2]at E;cases ep:outs[i-own.length]? with
  |none=>rw[ep]at a;cases a
  |some p=>
   rw[ep]at a E;let ex:p.2=x:=Zh a;let ev:(σ[p.1]?).join=ă:=Zh E;let(U,O):=B.out.get ep;let Y:σ[p.1]?=Â ă:=by
    cases q:σ[p.1]? with
    |none=>rw[q]at ev;cases ev
    |some w=>rw[q]at ev;let Z:w=ă:=ev;rw[Z]
   rw[ex]at U O;let h:ϵz ϲi (Â ŏ) (Â ε):=Ù B.hsc (B.fr (x,ε) (k7 O) rfl)
   let(m0,hn0,M):=I.loc;let(u,r,l):=M p.1 x v U Y<|h.elim (λz=>Ð<|Ê z) λz=>Ð<|Ð z;apply(u,r,Ð ?_);rcases l with⟨hl,_⟩|⟨_,c,W,hc⟩
   .let L:ϲi=Â Ų:=hl
    rcases h with z|z<;>(rw[z]at L;cases L)
   let(T,C):=ϒH<|Ê<|k7 O;let A:=sub x T C;rw[W]at A;cases A;let(R,Q,j):=hc;show(nF O,c,S x c C,(R,old _ _ Q,j))
 .rcases K x c e with q|⟨_,q⟩
  .let(v,R,Q,j):=Ϥm q
   show(v,R,old _ _ Q,j)
  show(_,q)
 .change ϹR (ä []) ļ=none
  rw[ay<|Zbw _];show ϵR ϱM
 .rcases K x c e with q|⟨Q,_⟩
  .rw[ay<|Ym<|t x c q]
   show ϪJ q
  let G:@LE.le Nat instLENat s.heap.objs.size c:=ϒq Zd ϱM Q;rw[ay λz=>by rw[z]at Q;show Ć Q<|Nat.not_le.mpr<|ϘV ϧZ ϧZ];show ϵR G
 .let P:p∈ϺR:=by
   let:p∈ϺR++[]:=hp;simpa using this
  let(Q,j,q3,q4,q5):=϶S P;apply(old _ _ Q,?_,Ym<|K8f<|Xq Q,϶X,q5)
  .rw[ay<|Ym<|Xq Q]
   show j
  rcases W7.mp (I.stkSub p.1 z)with q|q
  .exact q3 q
  show q4 q
 change Ì ϹY=Ì (own++ϴo ň);delta slots;simp
theorem AH(B:϶o)(l:ż)(hg:Ϲf P (PG (Ζ C ex P) tg g))(hc:Ϲf P (PF (Ζ C ex P) ifs tc))(he:Ϲf P (PE (Ζ C ex P) elt te)){s:Da}{it:Ix}{tn:Nat->į Op}(I:ì P σ H s)(T:ϕQ fp it tn)(st:tn 0 s.heap)(F:ϳd (vo X P H b)){R0:Ý Ix Hp}(hW:∀D,H D=none->QS J g tc te ϹY D H (R0 D)){RR:Db->Ix->Ý Result Da}{E:Ý Db Da}(fin:∀D C H' G m,ì P σ H' G->vo X P H' C->G.heap.Ns C m->R0 D H'->RR (Ä D) C (ò ϴx) G):
  Ĕ (newList []) (λa Z=>Ĕ (ϕT X.env.globals ϴD [] X.env.qual none æ<|Â X.env) (λf s4=>ϵk ϰO X.A (.compStart ϴB 0 (Ä it) a {f with scope:=relabel scope X.env}) (RR a f.locals) s4) E Z) E s:=by
 apply K7v<|A6 λL S t M=>?_;dsimp only at t S M⊢;let hz:ϰA (Ţ {cls:=ć "list",dict:=none,data:=ϰm (ϳW ([]:À Db))})=ļ:=ϹB;rw[hz]at t;simp only[hz];let fo:ϳd (∃o,ϰx=Ø):=λb h=>(let⟨o,e,_⟩:=T.obj 0 _ st b h;⟨o,e⟩)
 let old:∀b o,ϰx=Ø->L.get? b=Ø:=ϱk (S b o<|Ĺ e);let hD:L.get? s.heap.objs.size=Â ((Ģ "list" (ϰm #[] 0))):=ϥp θ;let hz2:ϰA ((Ţ {cls:=ć "list",dict:=none,data:=ϰm (ϳW ([]:À Db))}).push (Ģ "dict" (϶a #[])))=ļ+1:=ϲK K8l hz
 let hcl:∀x c,ϲl (ϹX (ļ+1) ϴD)->ϲl ϴD\/L.IsCell c none:=ϸe (by rw[M];rw[<-hz2]at e;show lE _ _ _ e)
 let I1:=HS (own:=own) (tk:=s.toks) B I F fo t old hD hcl;let R:tn 0 L:=ϐv st (λb _ o e=>Ϻ0 e);obtain⟨W,⟨m0,w0⟩,turn⟩:=hW _ I.fresh;let k:∀{H':Hp},(ϳd ϶L)->ϳd (vo (Ζ ļ fp P) [] H' b):=λhn b h=>by
  let(o,eo):=fo b h;apply(hn b h,Ym<|K8f<|Xq eo,I1.ok.exfs b h,Ê h,ϸe ((I1.ok.exf b h).2 x c e),ϻh hp);let hp':p∈X.pn++P:=by
   let:p∈(X.pn++P)++[]:=hp;simpa using this
  show(F b h).2.2.2.2.2 p hp'
 let loop:∀s0:Da,s0={s with heap:=L,toks:=s.toks}->
   ϵk ϰO X.A (.compLoop ϴB 0 (Ä it) (Ä s.heap.objs.size)<|wF scope ϴD ļ X.env) (RR (Ä s.heap.objs.size) ļ) s0:=by
  ext s0 rfl;apply zt (λn G=>∃i a H',Inv (Ζ ļ fp P) [] ϹY H' G/\tn i G.heap/\(ϳd ϶L)/\W i n a H') ?_ m0
   ⟨0,[],_,I1,R,λb h=>?_,w0⟩
  .rintro n Z ⟨i,a,H3,I3,st3,fr3,w3⟩
   rcases turn i n a H3 w3 with⟨stop,q⟩|⟨go,N,hN,step⟩
   .apply ϭO (T.done (Ζ ļ fp P) rfl rfl rfl l i [] Z _ H3 ϳt I3 (k fr3) st3 stop);let(hr,U):=zz
    subst hr;let IX:ì P σ H3 s4:=I.call' (ch:=fp) U.os U.base U.Uf U.bare λb h=>⟨(F b h).2.2.2.1,(F b h).2.1,(F b h).2.2.2.2.1,(F b h).2.2.2.2.2⟩
    let(m4,hn4,_):=U.loc;show fin _ _ H3 s4 m4 IX (I.fpOk ϱM U.free) hn4 q
   .apply ϭO (T.item (Ζ ļ fp P) rfl rfl rfl l i [] Z _ H3 ϳt I3 (k fr3) st3 go);let(u,hr,h4):=zz
    subst hr;apply Ϫa h4 s5;let(x,H5,I5,r5,y5,w,fr5):=zz;let I5':=I5.pinned (k fr5)<|ϯd w;let back:∀{A:St}{O:Hp}{K:Da}{d:À V},Inv (Ζ ļ fp P) ([]++xk fp s5.heap) A O K->kU ϹY A->N d O->
      ∃m,m<n/\∃i a H',Inv (Ζ ļ fp P) [] ϹY H' K/\tn i K.heap/\(ϳd ϶L)/\W i m a H':=fun{A O K d} Y hs hn6=>by
     let(m',hm,hw):=hN d O hn6;apply(m',hm,i+1,d,O,Y.Yi.weak hs.len λj v e=>hs.get e,ϐv w (λb h o e=>(ϔM<|Ļ<|Ļ<|nX h e).1),λb h=>?_,hw);let(o,e,_):=ϯd w b h;show(ϔM<|Ļ<|Ļ<|nX h e).2.1
    apply Ϫa (ϙC<|step x H5 y5) K;let(A,O,Y,Q,q6):=zz;apply Rn (hc s H _ fp P _ K A O _ Y q6) λb s7 zz=>?_;let(H7,I7,q7):=zz;cases b with
    |false=>show back I7 Q q7
    |true=>
     apply Rn (he s H _ fp P _ s7 A H7 _ I7 q7) λyv s8 zz=>?_;let(y,H8,I8,r8,hd8,hl8,hw):=zz;apply Rn (mz _ s8 A H8 (Ä s.heap.objs.size) [y] (Ä s.heap.objs.size) [yv] (λ_ H9=>H9=upd H8 s.heap.objs.size (ä ϫd)) I8 rfl (ð r8 í) ⟨_,a,y,rfl,rfl,hd8,hl8,rfl⟩) λz s9 zz=>?_;let(zv,H9,I9,_,q9):=zz;subst q9;show back I9 Q hw
  .let(o,eo):=fo b h
   rw[ay<|Ym<|Xq eo];show(F b h).1
 show ϙJ<|Ϛv<|loop _ rfl
def Ga(own:À Str)(B:϶o)(l:ż)(hi:ϸa iter wi)(hg:ϦP (PG (Ζ C ex p) tg g))(hc:ϦP (PF (Ζ C ex p) ifs tc))(he:ϦP (PE (Ζ C ex p) elt te))(A:ϹP):ç ϴB (C5 wi g tc te own.length outs):=by
 ext p s c H Q I h;rw[eval_ListComp];apply K8K (use:=none) rfl A (vY<|uG B I) B.kind B.loc ?_;apply Rn (ϧW s c H _ I h) λv s1 r=>Rn r λV M t=>?_;let(it,P,tn,J,G,e,f,T,z,F,w):=t;subst e;apply ϘT (compPost ϰO X.A X.xe none (ϳX p c Q) a C) f T z F w ?_;ext D C H' E m i u N q;apply(m,N,λL S=>?_);let(d,c1,K,j,k,n):=u;show(Ä D,H',i.turned (t':=E.toks) (λb o y e=>è (ϵ0 y) e) d c1 j k n,rfl,q)
def Bi(own:À Str)(Z:X.N.Nodup)(j:Ξ)(hx:ϲT x)(B:϶o)(l:ż)(hi:ϸa iter wi)(hg:ϺE (PG (Ζ C ex n) tg g))(hc:ϺE (PF (Ζ C ex n) ifs tc))(he:ϺE (PE (Ζ C ex n) elt te))(w:Ñ (ϤH ϴB (Â<|Ü pos') spos.line X.env=ϯs))(hs:ϹP)(hf:ž (ϴg\/ϲi=Â Ų) mqad._auto_1):
  ϲf (ϳc [Ü pos'] ϴB spos) (ϙF<|o7 i):=by
 ext n s F H r I h;rw[exec_Assign_Name_used _ _ _ _ w];apply Fq<|K7e ϳh;change ϶e _ X.A (do let _ <-comprehension (.ListComp elt [⟨tg,iter,ifs,0⟩] scope pos) scope X.env _ (newList []) false (eval iter X.env) (some<|assign (.Name x pos') X.env)) _ _ s;apply Fq<|Rn (K8K (use:=Â<|Ϧr (Ü pos')) (Q:=λ_ S=>ϻw n r ϴx S) rfl hs (vY<|uG B I) B.kind B.loc ?_) λ_ S hq=>Ps<|Ps hq;apply Rn (hi n s F H _ I h) λv s1 V=>Rn V λitv s2 W=>?_;let(it,fp,tn,J,H2,e,G,T,t,U,hW):=W;subst e;apply ϘT (compPost ϰO X.A X.xe (Â<|Ϧr (Ü pos')) (λ_ S=>ϻw n r ϴx S) a C) G T t U hW ?_;ext D C H' S m u Y hn q;let(A,c1,L,M,N,P):=Y;let(c,R,ep,O,d,hr):=id hn;let K:ì (n++[(C,c)]) F H' S:=u.pins_of λp hp=>ϑb hp (λz=>u.pin p<|Ļ z) λz=>by
  let ep:p=(C,c):=ť z
  subst ep;show(O,A,c1,L,Ϭh)
 change ϶e _ X.A (Ϧr (Ü pos')<|Ä D) _ _ S;apply wpAny_assign_Name<|mh (v:=Ä D) K Z j hx rfl (λE y=>?_) hf;let f:E.heap.get? C=ϰf:=(y.pin (C,c)<|Ļ<|Ļ Û).1;apply(m,(c,R,ep,f,d,hr),λh' k=>?_);show(_,H',y.Yi.turned (t':=E.toks) (λb o hb e=>è (k.2 b hb) e) A c1 M N P,q)
end
def O9(kind:scope.kind=ϺO)(loc:ϴK (x.2=Ų->Ϻb x.1=Â Ų))(o:ϴK (x.2≠ŏ))(fr:ϴK (x.2=ε->ϵz ϗ1 (Â ŏ) (Â ε)))(out:Ϯl ϕy):Blk ϕy (relabel Zw X.env) scope outs:=by
 apply(rfl,kind,loc,o,λx a f=>?_,out);rcases fr x a f with h|h
 .left
  change ϵs (Zw.names.map _) x.1=Â NameKind.cell;let:∀names:À ϴa,names.lookup x.1=Â ŏ->ϵs (names.map λ(n,k)=>Ï (ϥ6&&X.env.scope.kind==ϺO&&ϭK==Â ŏ) (n,NameKind.cell) (n,k)) x.1=Â ŏ:=by
   ext names
   induction names with
   |nil=>ext h;simp at h
   |cons y r ih=>
    let(n,k):=y;ext h;rw[K9X]at h;rw[L4];dsimp only;by_cases hc:þ (ϥ6&&X.env.scope.kind==ϺO&&ϭK==Â ŏ)
    .rw[Os hc,K9X]
     cases a:x.1==n with|true=>rfl|false=>rw[a]at h;show ih h
    rw[P3 hc,K9X];cases a:x.1==n with|true=>rw[a]at h;show h|false=>rw[a]at h;show ih h
  show this _ h
 show nF h
theorem Ar:∀(names:À ϴa)(n:Nat)(a:À ϴ4),(∀x∈names,x.2≠ŏ)->Ϩ2=a
 |[],_,_,_=>rfl
 |(y,k)::r,n,a,h=>by
  let i:=λn=>Ar r n a λx H=>h x<|Ā H;let:=h (y,k) P0;cases k<;>first|show ϲv this|show i n
def Wt(h:ϴK (x.2≠ŏ)):Y6 X N scope s H C ex D0=cxB X N scope s H C ex D0:=by delta Y6 cxB wF;rw[Ar _ _ _ h,ω (vF scope=ϲr) (funext λx=>Bool.eq_false_iff.mpr λw=>h _ (vg w) rfl)]
def Blk.toK(B:ϗ2):϶o:=⟨B.hsc,B.kind,B.loc,λx h e=>absurd e<|B.nocell x h,λ_ _ _ m=>B.nocell _ m rfl,B.fr,B.out⟩
section
variable{X:Cx}{own:À Str}{outs:À ϴi}{pos:Pos}
end
def AD{X:Cx}{p:À ĺ}{a:St}{H:Hp}{s:Da}{ch:À Ix}{T:Ix}{o:HO}{h':Op}{t':Nat}(I:ì p a H s)(C:ϗu)(k:∀b u,Ϲy->ϰx=ě->϶K=ě)
  (t:s.heap.objs.size<=T) (new:Ϻq (Ę T o) h' T o):ì p a (Ę T o) ((ϳ9 h' t')):=by
 let h:H T=none:=I.Uf.fresh t;let N:∀b u,H b=ě->Ϲy:=ϓF
 let lt:∀b u,ϰx=ě->b≠T:=λb u e=>Ym<|϶B t;apply ϒD (λb u _ e n=>by rw[ay<|lt b u e];show n) ϓ5 (λb x e=>ϦU (ay<|aJ e h)) (λb u v e=>ϦU (ay<|aJ e h)) (λb ps e=>⟨#[],by rw[ay<|aJ e h,e];simp⟩) Ϫc ϩD I.bare
 .let(d,j,J,f,f4,F):=C b B
  show(f,j,f4,F)
 .let(l,E,ep,g,r):=M
  show(l,E,ep,k _ l ϬE g,r)
 by_cases B:b=T
 .subst B
  rw[aP]at e;cases e;show new
 rw[ay B]at e;apply ό2 (λc q=>Ù (ay<|ϳR h) q) (λc x q=>Ù (ay<|ϳR h) q)
 rcases hc with z|z
 .rw[z]
  show N b u e
 show N c _ z
def Dt{X:Cx}{p:À ĺ}{a:St}{H:Hp}{s:Da}{ch:À Ix}{h:Op}{t':Nat}(I:ì p a H s)(C:ϗu)(k:∀b u,Ϲy->ϰx=ě->ϵU=ě):
  ì p a H {s with heap:=h,toks:=t'}:=by
 let N:∀b u,H b=ě->Ϲy:=ϓF
 apply ϒD Ϙr ϓ5 ϐt Ϗx ϓK Ϫc ϩD I.bare
 .let(d,j,J,f,f4,F):=C b B
  show(f,j,f4,F)
 .let(l,E,ep,g,r):=M
  show(l,E,ep,k _ l ϬE g,r)
 apply ό2 Ϥj ϸ5;rcases hc with z|z
 .rw[z]
  show N b u e
 show N c _ z
def Ite(K:At)(a:Ix):It:=
 ⟨λi H=>∃s x,ϱ7 s/\ϱP=Đ,λi H x H'=>∃T y,H T=none/\x=Ä T/\H'=Ę T (Ī [Á i,y])/\∀s,ϱ7 s->ϱP=γ,λi H=>∃s,ϱ7 s/\ϩ0⟩
def EY{P:Do}{w:Ev}{K:At}{L:À On}{k:Nat}{pos:Pos}(a e it:Ix)(n:e≠it):
  Turn P w K (.Tuple L k pos) (Ite K a) [e,it] e (λi h=>(∃old,IsEnum h e it i old)/\ϗU) where
 mem:=Û
 obj:=λi h T b B=>by
  obtain⟨⟨old,he⟩,o,O,c,d⟩:=T;let f:b=e\/b=it:=ϳp
  rcases f with z|z
  .subst z
   show(_,he,λv z=>Ϸ6 z)
  .subst z
   show(o,O,Ϭh)
 keep:=λi h h' T G=>⟨(let⟨old,he⟩:=T.1;⟨old,G e Û _ he⟩),T.2.at λo O=>G it Û o O⟩
 item:=by
  ext X y W r hc i N s σ H E I F T hg;subst y W r;let(xs,x,Q,C):=hg;obtain⟨⟨old,he⟩,hit⟩:=T;let(D,R,p,hz):=I.list Q;let(u,hu,ru):=R.get C;let elt:e<s.heap.objs.size:=Xq he;apply wpAny_pyNext_enum_item he hit p.isList (x:=u) (ť hu) n λU Z t V hsz Y=>?_;apply(_,rfl,wpAny_letOwnedTupleGo_enum Z λj A S=>?_);let kk:∀b v,b∉[e,it]->ϰx=ă->j.get? b=ă:=λb v B q=>by
   let g:b≠e:=λz=>B (Ű z);let l:b≠it:=λz=>B (Ű z);show è (ϵ0 g)<|Y b v g l q
  let m:j.get? s.heap.objs.size=Â ((Ģ "tuple" (ϰm #[Á i s.toks,u]))):=è (ϯT<|Zbn elt) V;apply(Ä s.heap.objs.size,ϹR<|Ī [Á i,x],AD (s:=s) (h':=j) (t':=s.toks+1) I F kk õ ?_,rfl,(_,x,I.fresh,rfl,rfl,λys hy=>by rw[I.Zy hy Q];show C),((_,A),?_),ϺK)
  .exact(by change Ą 2;decide,[Á i s.toks,u],ð ϶D<|ð ru í,_,m,rfl,_,rfl)
  .exact t.at λo O=>è (S.2 it<|K8g n) O
  .let(M,f1,f2,f3,f4,f5):=F b B
   let f:b=e\/b=it:=ϳp
   let(oi,eoi,_):=hit;let:Ϙy:=by
    rcases f with z|z
    .rw[z];show elt
    .rw[z];show Xq eoi
   rw[ay<|Ym this];show M
 done:=by ext X y W r hc i N s σ H E I F T hg;subst y W r;let(xs,Q,C):=hg;obtain⟨⟨old,he⟩,hit⟩:=T;let(D,R,p,hz):=I.list Q;let hl:=R.length;apply wpAny_pyNext_enum_end ϱV he hit p.isList ϴd λU J=>⟨rfl,Dt (t':=s.toks) I F λb v B q=>J b v (λz=>B<|Ű z) q⟩
 self:=λ_ _ _ _ _ T h=>(let⟨old,he⟩:=T.1;ϗv h)
def Ni(K:At)(t:TA):TI:=λb H R=>t b H λd h=>ύT (d=[Ä a]) Xa Ite
def vi:ϴC "enumerate":=ñ
def DZ:ϴC "zip":=ñ
def Mo{p pos tpos:Pos}(hg:Ħ "enumerate")(M:ϳe "enumerate")(A:ϰM [a] ta)(S:Ñ (Õ [a]=ϱj π)):
  PI X (Ϥd k tpos) (ô (ú "enumerate" p) [a] pos) (Ni X.K ta):=by
 ext i s g H R I h;apply Call_<|ϦW vi<|Ϲ4 (ϫf i s g H _ I h) S rfl;let(V,d,c,r,n):=zz;obtain⟨l,e,⟨x,Q⟩,q⟩:=n;subst e;let(u,rfl,L):=Ϥp;cases L;let(t,v,pl,Z):=c.list Q;apply call_enumerate_list pl.isList λm he hit hsz K=>?_;apply ϗv ?_;let j:ì i g d {s1 with heap:=m}:=ώn K;apply(ϭv 1,[ϭv 1,s1.heap.objs.size],_,Ite X.K l,d,rfl,j,EY l _ _<|Zbw _,((_,he),hit),ϺK,q);let f:b=ϭv 1\/ώo:=ϳp
 rcases f with z|z
 .subst z
  show c.fpOk ϱM<|c.Uf.fresh ϱM
 subst z;show c.fpOk õ<|c.Uf.fresh õ
mutual
inductive Rep(K:At)(H:Hp):Ý V Gc
 |Re:Ĝ H .Re æ
 |bl (b:Bool):Ĝ H ϱz (ß b)
 |int (i:Int):Ĝ H (Á i) (Á i)
 |str (x:Str):Ĝ H (Ô x) (Ô x)
 |lst {a:Ix} {xs:À V} {ds:À Gc}:ϱ7 xs->ϳg xs ds->Ĝ H (Ä a) (Å ds)
 |tup {a:Ix} {xs:À V} {ds:À Gc}:όD K->ϳg xs ds->Ĝ H (Ä a) (ï ds)
inductive B1(K:At)(H:Hp):À V->į (À Gc)
 |nil:ϳg [] []
 |cons {v:V} {vs:À V} {d:Gc} {ds:À Gc}:Ĝ H v d->ϳg vs ds->ϳg ϫg (d::ds)
end
def Uz{K:At}{H H':Hp}{a:Ix}{s:À V}(e:ϵg)(h:Ϥn):Yr K H' a s:=by
 rcases h with (h|⟨o,h⟩)|h
 .exact Ê<|Ê ϺZ
 .exact Ê<|Ð ⟨o,ϺZ⟩
 show Ð h
mutual
theorem Rep.same{K:At}{H H':Hp}(e:ϵg){v:V}{d:Gc}:Ĝ H v d->Ĝ H' v d|.Re=>.Re|.bl b=>ϱz|.int i=>Á i|.str x=>Ô x|.lst h r=>ä (e.seq h) ϩH|.tup h r=>Ī (Uz e h) ϩH
theorem B1.same{K:At}{H H':Hp}(e:ϵg){v:À V}{d:À Gc}:ϳg v d->B1 K H' v d|.nil=>í|.cons h r=>ð (Rep.same e h) ϩH
end
def B1.reads(I:ø)(h:B1 X.K H vs ds):∀u,ϵu vs u->∃as,ReadsAll s.heap u ds as:=ό7 (∀u,ϱu->ώJ Reads) (∀u,Vals v u->ώJ ReadsAll) (λ_ r=>ώZ æ) (λb _ r=>ώZ (ß b)) (λi _ r=>by let(t,rfl):=r;show(_,Á i t)) (λx _ r=>by let(t,rfl):=r;show(_,Ô x t)) (ϒP I.list p.isList<|Å e c D Ϙz) (ϒP I.tuple (show s.heap.IsTuple _ T.toArray from p)<|ï e c D Ϙz) (λ_ r=>ώZ í) (λ_ _ i j _ r=>by cases r with|cons q t=>let(as,A):=i _ q;let(bs,B):=j _ t;show(_,ð A B))
def Rep.reads(I:ø){u:Db}(h:Rep X.K H v d)(r:ϱu):ώJ Reads:=by let(as,A):=B1.reads I (ð h í) _<|ð r í;cases A with|cons a _=>show(_,a)
def Tr(K:At):R2:=ϰD (∃d e,Ĝ H x d/\Ĝ H y e/\Ϭ3/\ϗ3/\ϫH (ϏQ e))
def R_(K:At):R2:=ϰD (∃d e,Ĝ H x d/\Ĝ H y e/\Ϭ3/\ϗ3/\Q (.bl<|! ϏQ e) H)
def RI(U:ϷM 64):ϵA Eq (Tr X.K):=ϒy eq_dataH
def O6(U:ϷM 64):ϵA NotEq (R_ X.K):=ϒy ne_dataH
def iC:bootBuiltins "isinstance"=some (ğ "isinstance"):=ñ
def El(hc:ż):Ϥy (ğ "max") (∃(a:Ix)(ns:À Int),x=[Ä a]/\ϺG ϰw/\ϩ1/\∀M,M∈ns->(∀z,Ϸf->z<=M)->ξ (Á M)):=by
 ext p s A H x us Q I r h;let(a,ns,rfl,d,L,q):=h;let(u,rfl,R):=Ϥp;cases R;let(i,g,pl,w):=I.list d;let hi:ϩO:=intsAre_of g;let(y,e):=hi.allInts.items;let n:ns=y.toList.map ģ:=ϓH
 let hsz:0<y.size:=ϓZ
 let l:=pl.isList;rw[e]at l;apply max_intList ϱV l hsz λv m tk f k=>?_;let(t,rfl):=intItems_at f;let(o,c):=ϚB<|y.size-1;apply(Á _,H,I.kept k,(t,rfl),q _ ?_ ϤB)
 .rw[n,numAt_eq]
  show getD_mem (ϰP K1 K8t)
 rw[n]at Z;let(j,J,rfl):=mem_getD Z;rw[K1,K8t]at J;rw[<-numAt_eq];show c j Ã
def EN(hc:ż):Ϥy (ğ "min") (∃(a:Ix)(ns:À Int),x=[Ä a]/\ϺG ϰw/\ϩ1/\∀M,M∈ns->(∀z,Ϸf->M<=z)->ξ (Á M)):=by
 ext p s A H x us Q I r h;let(a,ns,rfl,d,L,q):=h;let(u,rfl,R):=Ϥp;cases R;let(i,g,pl,w):=I.list d;let hi:ϩO:=intsAre_of g;let(y,e):=hi.allInts.items;let n:ns=y.toList.map ģ:=ϓH
 let hsz:0<y.size:=ϓZ
 let l:=pl.isList;rw[e]at l;apply min_intList ϱV l hsz λv m tk f k=>?_;let(t,rfl):=intItems_at f;let(o,c):=ϚC<|y.size-1;apply(Á _,H,I.kept k,(t,rfl),q _ ?_ ϤB)
 .rw[n,numAt_eq]
  show getD_mem (ϰP K1 K8t)
 rw[n]at Z;let(j,J,rfl):=mem_getD Z;rw[K1,K8t]at J;rw[<-numAt_eq];show c j Ã
def HC:MtR X "list.index" (λx b H Q=>∃(a:Ix)(ns:À Int)(z:Int),x=Ä a/\b=[Á z]/\ϺG ϰw/\Ϸf/\ξ (Á ϥ9)):=by
 ext p s k H x b v us Q I e r h;let(a,ns,z,rfl,rfl,c,M,q):=h;cases e;let(u,rfl,t,rfl):=Ϥp;let(i,R,pl,Z):=I.list c;let hi:ϩO:=intsAre_of R;obtain⟨⟨cls,D,data,f⟩,g,hc,n,d⟩:=pl.isList;simp only at hc d;subst hc d;let l:=hi.length;let J:ϑg<ns.length:=List.idxOf_lt_length_iff.mpr M;let N:=pU;let B:Ą ns.length:=by simpa using Z
 apply Ϲm PySem.F.slot_list_index ((ϱt g)) PySem.F.entry_list_index PySem.F.args_list_index_2 (ϓU D f (Á z t) (isInt z) ϑg ϖw Ã ?_ ?_) ⟨g,λy Y=>(eq_isInt z t hi y ϩc).at _ _,ϷG (Á _)⟩
 .change isInt z i[ϑg]=true
  rw[isInt_at z hi _ Ã J];simpa using Zar J
 ext j S L;change isInt z i[j]=false;rw[ϙM Ã];show ne_of_lt_idxOf L _
def Ig{K:At}{a:Ix}{xs:À V}(Pv:Nat->Ý (À V) Hp)(h:Pv 0 [] (ϕ7<|ä []))(l:∀i c H,i<=xs.length->Pv i c H->ϱ7 xs)
  (S:∀i x c H,xs[i]?=Đ->Pv i c H->g x σ0 H (ϚK<|Pv<|i+1)) (d:∀c H,Pv xs.length c H->Q H):QS (Itl K a) g tc te σ0 D H1 Q:=by
 apply(λi m c H=>ϏU xs.length (Pv i c H),(xs.length,Û,ϴw,h),?_);ext i m c H ⟨rfl,hi,p⟩;let q:=l i c H hi p;by_cases L:i<xs.length
 .apply Ð ⟨⟨xs,xs[i],q,ϦO⟩,Pv<|i+1,λA H' P=>⟨xs.length-(i+1),Ã,rfl,L,P⟩,ϧl H'⟩
  let(e,y):=y;subst e;show S i x c _ (y xs q) p
 let e:i=xs.length:=Ã
 subst e;show Ê ⟨⟨xs,q,õ⟩,d c H p⟩
def PvM(h:Hp)(D:Ix)(r:Nat->À V)(i:Nat)(a:À V)(H:Hp):Prop:=a=r i/\aB h H/\H D=Â (ä a)
def PvM.start(d:H1 D=none)(h:r 0=[]):PvM H1 D r 0 [] (ϕ7<|ä []):=
 ⟨h.symm,ϱk (ϦU (ay<|aJ e d)),aP⟩
def PvM.yes{h H:Hp}{D:Ix}{r:Nat->À V}{i:Nat}{a:À V}{y:V}(d:h D=none)(p:PvM h D r i a H)(e:r (i+1)=r i++[y])(l:ϤZ (Ì (r i))):
  H D=Â (ä a)/\ϤZ a.length/\PvM h D r (i+1) ϫd (Ę D<|ä ϫd):=
 ⟨p.2.2,ϦF p.1,by rw[p.1,e],λb u q=>Ù (ay<|ϳR d) (p.2.1 b u q),aP⟩
structure Def(K:At)(mg:ĳ)(x:Str)(st:No)(ps:À Str)(f:Ix)(fd:Fk):Prop where
 F:ϳ1 x x st f fd
 g:mg x=Â (Ä f)
 b:ϲZ K []
def aB.upd(e:ϵg)(h:ϳE):aB H (L2.upd H' a o):=λb u q=>Ù (ay<|ϳR h) (e b u q)
section
variable{X:Cx}
def e9(K:At)(h:ϻA):ϸu (oX K):=Ϧq Dc
def Tw(K:At):À V->Ý Hp VK:=ϸq (Ϭy (s=[Ä p]) K (∀l,ϤT->Q (Ä l) (Ę l<|ä y)))
def Eb(K:At)(h:ϻA):ϳ0 (ć "list") (Tw K):=Ϧq yN
def IV(K:At)(h:ϻA)(a:ç l tl):ϸa l (Bj K tl):=Ϧq (CN a)
def N4(K:At):À V->Ý Hp VK:=ϸq (∃(a:Ix)(ns:À Int),s=[Ä a]/\ϱ7 ϰw/\ϩ1/\∀M,M∈ns->(∀z,Ϸf->z<=M)->ξ (Á M))
def mU(K:At)(h:ϻA)(hc:ż):ϳ0 (ğ "max") (N4 K):=Ϧq (El hc)
def N5(K:At):À V->Ý Hp VK:=ϸq (∃(a:Ix)(ns:À Int),s=[Ä a]/\ϱ7 ϰw/\ϩ1/\∀M,M∈ns->(∀z,Ϸf->M<=z)->ξ (Á M))
def ug(K:At)(h:ϻA)(hc:ż):ϳ0 (ğ "min") (N5 K):=Ϧq (EN hc)
end
section
variable{κ:Type}[DecidableEq κ]
def qM(v:À Ϲt)(k:κ):Ö V:=(v.find? λK=>Ç ϲb).map ň
def putK(s:À Ϲt)(k:κ)(v:V):À Ϲt:=
 Ï (ā s.any (λK=>Ç ϲb)) (ϳ2 (λK=>Ï ϲb (K.1,v) K)) (s++[(k,v)])
def sM{p:Ϲt}(e:ϹI):qM (p::r) k=Â p.2:=by simp[qM,K8p,e]
def sZ{p:Ϲt}(e:¬ϹI):qM (p::r) k=qM r k:=by simp[qM,K8p,e]
theorem A8(k:κ):∀v:À Ϲt,(v.any λK=>Ç ϲb)=ϸy (qM v k)
 |[]=>rfl
 |p::r=>by
  rw[K7u];by_cases e:ϹI
  .simp only[sM e,W6 e,Bool.true_or,Zcj]
  .rw[sZ e,Ll e,Bool.false_or];show A8 k r
def oU(s:À Ϲt)(k:κ)(v:V):Ì ϑh<=Ϯs:=by
 delta putK;split
 .rw[K1];lia
 rw[Ww,Xt,K8S];lia
def oO.isSome_eq(r:oO o u):o.isSome=u.isSome:=by
 cases o with
 |none=>cases u with|none=>rfl|some _=>show ϥV
 |some _=>cases u with|none=>show ϥV|some _=>rfl
def oO.getD(r:oO o u)(R:RelV d d'):RelV (o.getD d) (u.getD d'):=by
 cases o with
 |none=>cases u with|none=>show R|some _=>show ϥV
 |some _=>cases u with|none=>show ϥV|some _=>show r
def KV.val(r:ϧt)(k:κ):oO ϯt (ϪY vs):=by
 delta KV at r
 induction r with
 |nil=>show True.intro
 |@cons p q ps qs h t ih=>
  let(H,a):=h;by_cases e:ϹI
  .let e':ϥF:=H.symm.trans e
   let b:ϪY όy=Â q.2:=ϭH valueAt
   rw[sM e,b];show a
  let e':¬ϥF:=λz=>e<|H.trans z;let b:ϪY όy=ϪY qs:=ϭH valueAt
  rw[sZ e,b];show ih
def KV.any(r:ϧt)(k:κ):ϲ8 L0.any (λK=>Ç ϲb) vs.any:=by
 delta KV at r
 induction r with|nil=>rfl|cons h t ih=>rw[K7u,K7u,ih,h.1]
theorem KV.repl(r:ϧt)(k:κ)(Y:ϳF):
  KV (L0.map λK=>Ï ϲb (K.1,y) K) (vs.map λK=>Ï ϲb (K.1,u) K):=by
 delta KV at r⊢
 induction r with
 |nil=>show í
 |@cons p q ps qs h t ih=>
  rw[L4,L4];apply ð ?_ ih;let(H,a):=h;by_cases e:ϹI
  .rw[Os e,Os<|H.symm.trans e];show(H,Y)
  rw[P3 e,P3 λz=>e<|H.trans z];show(H,a)
def KV.put(r:ϧt)(k:κ)(Y:ϳF):KV (ϮV y) (stored vs k u):=by
 delta putK stored;rw[r.any k];by_cases e:ā vs.any (λK=>Ç ϲb)
 .rw[Os e,Os e];show r.repl k Y
 rw[P3 e,P3 e];show Paired.snoc r ⟨rfl,Y⟩
def KV.keys{k:À Ϲt}{d:À (κ×Db)}(r:KV k d):ϲ8 k.map ģ d.map:=by
 delta KV at r
 induction r with|nil=>rfl|cons h t ih=>rw[L4,L4,ih,h.1]
def KV.length(r:ϧt):L0.length=vs.length:=Paired.length r
end
def Ab{k:Key}(r:RelV (kV k) u):(ϯ7).is k u=true:=by
 cases k with|inl i=>let(t,e):=(ϴ7 ϬW);subst e;show AF P w i t|inr x=>let(t,e):=(ϴ7 ώc);subst e;show Ao P w x t
theorem xM:∀{s:À Key}{us:À Db},ϳM (ϳ2 kV)->ItemsAre ϯ7 s us
 |[],_,r=>ϕu í
 |k::s,_,r=>by
  rw[L4]at r;cases r with|cons h t=>show ð (Ab h)<|xM t
abbrev KT(H:Hp):À (À Key×V)->į (À (À Key×Ix×Db)):=Paired λp q=>p.1=q.1/\H q.2.1=Â (Ī<|Ó p.1 kV)/\ϯ6 q.2.2
def KT.val(r:ϧF xs)(k:À Key):oO ϯt (Ó ϑ0 ň):=by
 induction r with
 |nil=>show True.intro
 |@cons p q ps qs h t ih=>
  let(a,_,c):=h;by_cases e:ϹI
  .let e':ϥF:=a.symm.trans e
   let b:atKey όy k=Â q.2:=ϭH atKey
   rw[sM e,b];show c
  let e':¬ϥF:=λz=>e<|a.trans z;let b:atKey όy k=atKey qs k:=ϭH atKey
  rw[sZ e,b];show ih
theorem KT.repl(r:ϧF xs)(k:À Key)(Y:ϳF):
  KT H (L0.map λK=>Ï ϲb (K.1,y) K) (xs.map<|putAt k u):=by
 induction r with
 |nil=>show í
 |@cons p q ps qs h t ih=>
  rw[L4,L4];apply ð ?_ ih;let(a,b,c):=h;delta putAt;by_cases e:ϹI
  .rw[Os e,Os<|a.symm.trans e];show(a,b,Y)
  rw[P3 e,P3 λz=>e<|a.trans z];show(a,b,c)
def KT.put(r:ϧF xs)(k:À Key)(B:H b=Â (Ī<|k.map kV))(Y:ϳF):
  KT H (ϮV y) (storedH xs k b u):=by
 let e:(L0.any λK=>Ç ϲb)=ϸy ϑ0:=by rw[A8,(r.val k).isSome_eq,Option.isSome_map]
 delta putK storedH;rw[e];by_cases q:þ (ϸy ϑ0)
 .rw[Os q,Os q];show r.repl k Y
 rw[P3 q,P3 q];show Paired.snoc r ⟨rfl,B,Y⟩
def KT.keeps(r:ϧF xs)(j:∀b y,Ϲ6 (Â (Ī y))):KT H' L0 xs:=
 Paired.mapP r λ_ _ z=>ϔY
section
variable{h:Op}
def Ng(ok:ϴY)(e:϶7 u):ϷV u:=e.ok ok
def Af(ok:ϴY)(e:϶7 ϤN):Ą L0.length/\à ϸQ/\ύc:=
 ω (ϷV ϤN) (Ng ok e)
def NO(ok:ϴY)(e:H a=Â ϤN):Ą L0.length/\à ϸQ/\ύc:=Af ok<|Ê e
def nN(ok:ϴY)(e:H a=Â (Ī<|ks.map kV)):(Ϩ6).is h ks a:=by
 let(_,i,r,o,b,c,n,d):=(ω (ϷV (Ī<|ks.map kV))<|ok a _ e)
 show(o,i.toArray,n,b,c,d,ť (xM r))
theorem Be(ok:ϴY)(e:϶7 (.dT L0)):Ą L0.length/\à ϸQ/\
  ∃s,ϧF s/\h.DictOfH Ϩ6 a s:=by
 let(z,y,s,r,o,E,ep,b,c,d,f,g):=(ω (ϷV (.dT L0))<|Ng ok e)
 apply(z,y,s,r,o,E,ep,b,c,d,f,λx X=>?_,g);let all:∀{l:À (À Key×V)}{m:À (À Key×Ix×Db)},KT H l m->∀x∈m,(Ϩ6).is h x.1 x.2.1:=by
  ext l m q
  induction q with
  |nil=>ext x X;show nomatch X
  |@cons p q ps qs hq t ih=>
   ext x X;rcases W7.mp X with e|X
   .subst e
    show nN ok (ϰy hq.1 hq.2.1)
   show ih x X
 show all r x X
def Tv(ok:ϴY)(e:H a=Â (.dT L0)):Ą L0.length/\à ϸQ/\
  ∃s,ϧF s/\h.DictOfH Ϩ6 a s:=Be ok<|Ê e
end
def xm(H:Hp)(a:Ix)(y:V)(r:Ö V):Prop:=
 (∃v k,϶7 (.dK v)/\y=kV k/\r=qM v k)\/∃v k b,϶7 (.dT v)/\y=Ä b/\H b=Â (Ī<|k.map kV)/\r=qM v k
def Su(H:Hp)(a:Ix)(y v:V)(H':Hp):Prop:=
 (∃s k,H a=Â (.dK s)/\y=kV k/\ϤZ s.length/\H'=Ę a (.dK ϑh))\/
 ∃s k b,H a=Â (.dT s)/\y=Ä b/\H b=Â (Ī<|k.map kV)/\ϤZ s.length/\H'=Ę a (.dT ϑh)
theorem xm.k{k:Key}(e:H a=Â ϤN):xm H a (kV k) ϯt:=Ê ⟨L0,k,Ê e,rfl,rfl⟩
section
variable{X:Cx}{s:Da}{A:Go}
def Inv.big(I:ø):ϩu sysModules:=by let h:ϩu mainGlobals:=(ύ1).lt;show ϘV á h
def D9(U:ϩK 1)(I:ø)(g:όf ă)(r:ϳF)(h:∀W S,ì D0 σ H S->RelV v W->Q W S):
  Ϥf ϰO (getItem (Ä a) u):=by
 rcases g with⟨K,k,e,Y,l⟩|⟨K,k,b,e,Y,G,l⟩
 .subst Y
  let(z,d,V,rel,D):=ϯu;let(W,w,R):=ϓQ (ϪY V);show ϙQ<|h W _ Ϸ5 R
 subst Y;cases(ϴ7 Ϗ9);let(z,d,x,rel,D):=ϯv;let(W,w,R):=ϓQ (Ó (atKey x k) ň);let(p,c,P):=Zb.mp w;apply wpAny_getItem_heap ύW ϑi D c ?_;rw[P];show h W _ Ϸ5 R
def zK(I:ø)(m:Mut (H a))(S:ϨX h')(he:∃q,h'.get? a=Â q)(new:Ϻq (Ę a ob) h' a ob):
  ì D0 σ (Ę a ob) ((ϳ9 h' t')):=
 I.write (x:=a) (e:=a) m (Ê rfl) (λb q B z=>è (ϵ0 B) z) he new
def FL(z:Ą L0.length)(d:à ϸQ)(rel:ϧt)(D:h'.DictOf ϯ7 a vs):
  όC H' a ϤN:=⟨z,d,vs,rel,D⟩
def Fm(U:ϩK 1)(I:ø)(g:Su H a y v H')(n:ϳF)(R:RelV v r)(h:∀o,ì D0 σ H' o->Q () o):
  Ϥf ϰO (setItem (Ä a) u r):=by
 rcases g with⟨K,k,e,Y,l,i⟩|⟨K,k,b,e,Y,G,l,i⟩
 .subst Y i
  let(z,j,V,rel,D):=NO I.Uf e;let Z:Ą V.length:=ϰy rel.length z
  let L:Ą (Ì (putK K k v)):=Œ (oU K k v)
  apply wpAny_setItem_pairs (hsz:=Z) (Ab n) D λm d S=>h _ ?_;let he:∃q,m.get? a=Â q:=let⟨q,_,_,f,_⟩:=d;⟨q,f⟩;show zK I Ϭi S he<|FL L j (rel.put k R) d
 subst Y i;cases(ϯ5 Ϗ9);let(z,j,C,rel,D):=Tv I.Uf e;let Z:Ą C.length:=ϰy (Paired.length rel) z
 let L:Ą (Ì (putK K k v)):=Œ (oU K k v)
 apply wpAny_setItem_heap (hsz:=Z) ύW ϑi D λm d S=>h _ ?_;let(q,p,ep,f,t,w,x,_,B):=d;apply zK I Ϭi S ⟨q,f⟩ ⟨L,j,_,(rel.put k G R).keeps λc F W=>?_,q,p,ep,f,t,w,x,B⟩;rw[ay<|Vo W e ϶u];show W
end
def P9(i:On):Prop:=∀O I,subscripted i false O I=operate [O,I] (getItem O I)
theorem M6{pos:Pos}{T id:String}(l:typeLookup (ć T) "__getitem__"=pure (Â<|ğ id))(e:P9 slice)(h:Ł (eval value env) (λo a=>Ł (eval slice env) (λi S=>S.TypeIs o T/\Ł (getItem o i) Q E S) E a) E s):
  Ł (eval (û value slice pos) env) Q E s:=by
 apply Subscript_<|K8m h (λo a c=>K8m c (λi S H=>?_) ϮZ) ϮZ;let(t,H):=H;delta subscriptTail;apply ϳh;rw[getitemInPython_of_ne t.not_modules];apply Fq<|ϗ4 l ?_;let fin:Ł (ϕx o i) (λr b=>Ł (letTemporaryGo value o r >>=λ_=>pure r) Q E b) E S:=Ù (e o i) (wpAny_operating<|K8m H (λr b d=>Fq<|wpAny_letTemporaryGo<|Ps d) ϮZ)
 first
  |show Ps<|Fq fin
  |show Fq<|Ps<|Fq fin
  |show Fq fin
def A3(I:ø)(g:όf o):Ϻ7 (Ä a) "dict":=by
 rcases g with⟨v,k,e,_,_⟩|⟨v,k,b,e,_,_,_⟩
 .let(_,_,d,_,D):=ϯu
  show D.typeIs
 let(_,_,x,_,D):=ϯv;show D.typeIs
def Tg(td ty:TE):TE:=λc H Q=>td c H λx h=>ty c h λy b=>∃a v,x=Ä a/\xm b a y ă/\Q v b
def NI(td ty t:TE):TS:=λD b H=>t b H λv c=>td b c λx d=>ty b d λy e=>∃a h,x=Ä a/\Su e a y v h/\D.nx b h
section
variable{X:Cx}{pos pos' tpos:Pos}
def L8(U:ϷM 1)(O:ç o td)(hi:ç i ty)(S:P9 i):ç (û o i pos) (Tg td ty):=by
 ext p s b H Q I h;apply ϙD<|Rn ϗ5 λu s1⟨x,c,e,r,q⟩=>Rn (ϧW s1 b c _ e q) λV m zz=>?_;let(y,d,f,Y,a,v,ex,g,k):=zz;subst ex;obtain rfl:u=ϴR:=r;show(A3 f g,D9 U f g Y λW n j R=>⟨v,d,j,R,k⟩)
def LL(l:ϷM 1)(O:ç o td)(hi:ç i ty)(V:ç value tv)(S:swapsWith value (Â<|û o i pos') pos.line X.env=ϳy):
  ϲf (ϳc [û o i pos'] value pos) (NI td ty tv):=by
 ext p s b H D I h;apply wpAny_Assign_Subscript (Rn (V p s b H _ I h) λr s1⟨v,c,f,R,q⟩=>Rn (O p s1 b c _ f q) λu t⟨x,d,j,n,Q⟩=>Rn (ϧW t b d _ j Q) λz A zz=>?_) S;let(y,w,k,Y,a,e,ex,g,m):=zz;subst ex;obtain rfl:u=ϴR:=n;show Fm l k g Y R λs4 U=>⟨b,e,U,m⟩
end
def AM(h:Op)(B:sysModules<h.objs.size):dw P w H (h.push (Ģ "dict" (϶a #[]))) h.objs.size Ϻ4:=
 ⟨ϴw,ϨW<|K8g<|Ym B,[],í,Heap.DictOf.new h⟩
def I0:TE:=λ_ H Q=>∀p,ϴ9->Q (Ä p) (Ę p Ϻ4)
section
variable{pos:Pos}
def IZ:ç ϗ6 I0:=λp s b H Q I h=>wpAny_Dict_empty ⟨Ä s.heap.objs.size,_,ύz (o:=Ϻ4) (t':=s.toks) (λ_ _ q=>Ĺ q) õ<|AM s.heap I.big,rfl,h _<|ϵR õ⟩
end
def Cj:À (TE×TE)->St->Ý Hp (Ý (À (V×V)) Hp)|[],_,H,Q=>ξ []|(tk,tv)::r,σ,H,Q=>tk σ H λx h=>tv σ h λy b=>Cj r σ b λps c=>Q ((x,y)::ps) c
abbrev VV:À (V×V)->į (À (Db×Db)):=Paired λp q=>RelV p.1 q.1/\ϯ6 q.2
def PPs(X:Cx)(pos:Pos)(keys:À (Ö On))(values:À On)(t:À (TE×TE)):Prop:=
 ∀(p:À ĺ)(s:Da)(a:St)(H:Hp)(Q:Ý (À (V×V)) Hp),ì p a H s->Cj t a H Q->
  Ĕ (evalPairs<|pairTrees keys values X.env pos) (λd S=>∃ps H',ì p a H' S/\VV ps d/\Q ps H') X.xe s
def KL{pos:Pos}:ϯw [] [] []:=λp s a H Q I h=>pairTrees_nil_walk ⟨[],H,I,í,h⟩
def GO{pos:Pos}(K:ç k tk)(V:ç v tv)(hr:ϯw ks vs trs):
  ϯw (Β::ks) ϫg ((tk,tv)::trs):=λp s a H Q I h=>
 pairTrees_cons_walk (Rn (K p s a H _ I h) λu s1⟨x,b,i,R,q⟩=>Rn (V p s1 a b _ i q) λw m⟨y,c,f,Y,j⟩=>Rn (hr p m a c _ f j) λws n⟨ps,d,g,rel,e⟩=>⟨(x,y)::ps,d,g,ð ⟨R,Y⟩ rel,e⟩)
def uK(k more:À ϴl):À ϴl:=more.foldl (λa K=>putK a K.1 K.2) k
def KV.merge:∀{more:À ϴl}{R:À (Key×Db)}{k:À ϴl}{d:À (Key×Db)},KV more R->KV k d->KV (uK k more) (merged d R):=by
 ext more R k d r;delta KV at r
 induction r generalizing k d with
 |nil=>ext q;show q
 |@cons p q ps qs h t ih=>
  ext a;let e:KV ώU (stored d q.1 q.2):=by let:=a.put p.1 h.2;rw[<-h.1];show this
  show ih e
theorem qN:∀(more k:À ϴl),Ì (uK k more)<=k.length+more.length
 |[],k=>ϸ3 (k.length<=k.length+0)
 |p::r,k=>by
  let h:=qN r ώU;let H:=oU k p.1 p.2;change Ì (uK ώU r)<=_;rw[Xt];lia
theorem vS:∀{k:À ϴl}{ws:À (Db×Db)},VV ϕz ws->∃R,Carries ϯ7 ws R/\KV k R
 |[],_,r=>ϕu ([],True.intro,í)
 |p::k,_,r=>by
  rw[L4]at r;cases r with|@cons a b as bs h t=>let(R,c,q):=vS (P:=P) (w:=w) t;let(b1,b2):=b;show((p.1,b2)::R,(Ab h.1,rfl,c),ð (ϱB h.2) q)
def NC(t:À (TE×TE)):TE:=λa H Q=>∀p,ϴ9->Cj t a (Ę p Ϻ4) λps b=>b p=Â Ϻ4/\∃k:À ϴl,ps=ϕz/\k.length<=15/\Q (Ä p) (upd b p<|.dK<|uK [] k)
def LW{pos:Pos}(h:ϯw keys values trs)(l:ā keys.all (·.isSome))(L:keys.length=values.length)(g:keys≠[])(b:keys.length<=15):ç (.Dict keys values pos) (NC trs):=by
 ext p s u H Q I q;let n:=ϵR<|W2 s.heap.objs.size;let i:=ύz (o:=Ϻ4) (h':=Ţ ((Ģ "dict" (϶a #[])))) (t':=s.toks) (λ_ _ q=>Ĺ q) õ<|AM s.heap I.big;apply wpAny_Dict_walk (knd:=ϩt) l L g b<|Rn (h p _ u _ _ i<|q _ n) λws y zz=>?_;let(ps,x,f,rel,e,k,ep,G,r):=zz;subst ep;let(t,c,K):=vS (P:=X.prog) (w:=X.w) rel;let(z,m,v,R,D):=NO f.Uf e;cases R;apply(t,c,D,λh' d S=>⟨Ä s.heap.objs.size,_,?_,rfl,r⟩);let Z:Ą (Ì (uK [] k)):=by let j:=qN k [];rw[K8S]at j;rw[K7x];lia
 let he:∃q,h'.get? s.heap.objs.size=Â q:=let⟨q,_,_,hq,_⟩:=d;⟨q,hq⟩;show zK f Ϭi S he<|FL Z m (K.merge í) d
structure M1(X:Cx)(o:On)(m:Str)(apos:Pos)(e:On)(cpos:Pos):Prop where
 base:Ϧe m X.env ϵG=ϵG
 few:ϲN cpos [e]
 line:ϥR
 trees:ϴH (Õ [e])=ϱj ϸR
structure M2(X:Cx)(o:On)(m:Str)(apos:Pos)(e f:On)(cpos:Pos):Prop where
 base:Ϧe m X.env ϵG=ϵG
 few:ϲN cpos [e,f]
 line:ϥR
 trees:ϴH (Õ [e,f])=ϦQ ϸR (eval f X.env)
def IsD(H:Hp)(a:Ix):Prop:=(∃k,϶7 ϧU)\/∃k,϶7<|.dT k
def Qn(I:ø)(d:IsD H a):
  Ϻ7 (Ä a) "dict"/\(∀b,ϴR=Ä b->∃O,ϰx=ϧ8/\O.dict=none)/\à ϸQ:=by
 rcases d with⟨k,e⟩|⟨k,e⟩
 .let(_,f,v,_,D):=ϯu
  apply(D.typeIs,λb q=>?_,f);cases q;let(O,_,_,h,c,_):=D;show(O,h,c.2.1)
 let(_,f,x,_,D):=ϯv;apply(D.typeIs,λb q=>?_,f);cases q;let(O,_,_,h,c,_):=D;show(O,h,c.2.1)
section
variable{X:Cx}{o:Ö V}{A:Go}
def P2(U:ϩK 1)(I:ø)(g:όf o)(r:ϳF)(h:∀W S,ì D0 σ H S->RelV (o.getD .Re) W->Q W S):
  Ϥf ϰO (call (ğ "dict.get") [Ä a,u]):=by
 rcases g with⟨v,k,e,Y,l⟩|⟨v,k,b,e,Y,G,l⟩
 .subst Y
  let(z,d,V,rel,D):=ϯu;apply ϒJ (meets_dict_get ϩt a (Ab r) d) ⟨_,D.mapOf,ϥs Ϸ5 ?_⟩;rw[l];show ϊ (rel.val k) rfl
 subst Y;cases(ϴ7 Ϗ9);let(z,d,x,rel,D):=ϯv;apply ϒJ (meetsH_dict_get (tupleKind ϩt) a b d) ⟨ύW,k,x,ϑi,D,ϥs Ϸ5 ?_⟩;rw[l];show ϊ (rel.val k) rfl
end
def Ie(td ty:TE):TE:=λc H Q=>td c H λx h=>∃a,x=Ä a/\IsD h a/\ty c h λy b=>∃o,xm b a y o/\Q (o.getD .Re) b
def QZ(td ty t:TE):TE:=λb H Q=>td b H λx h=>∃a,x=Ä a/\IsD h a/\ty b h λy d=>t b d λz c=>∃o,xm c a y o/\Q (o.getD z) c
section
variable{X:Cx}
def Hm(U:ϷM 1)(O:ç o td)(he:ç e ty)(m:M1 X o "get" apos e cpos):ç (ô (ĝ o "get" apos) [e] cpos) (Ie td ty):=by
 ext p s b H Q I h;apply Ϙ4<|ϭI ϗ5;let(x,c,i,r,a,ex,d,q):=zz;subst ex;obtain rfl:u=ϴR:=r;let(t1,t2,_):=Qn i d;apply(t1,t2,?_);rw[m.trees];apply ϒO<|Ϗn<|ϩk<|Rn (he p s1 b c _ i q) λv S⟨y,f,j,Y,V,g,l⟩=>ϩe ?_;show P2 U j g Y λW n k R=>⟨_,f,k,R,l⟩
end
end L2
namespace L3
open PySem L2 PySem.Spec PyProof.Rows
abbrev St:=L2.St
def X_(K:At)(H:Hp)(a:Ix)(s:À V):Prop:=
 ϶7 (ä s)\/∃(i:ϰ3 Db)(n:Nat),Ϯ0=Â ((Ģ "list" (ϰm i n)))/\Ą i.size/\Ϸc i.toList
def X_.of{K:At}{H:Hp}{a:Ix}{s:À V}(h:H a=Â (ä s)):ϸj a s:=Ê<|Ê h
def X_.sq{K:At}{H:Hp}{a:Ix}{s:À V}(h:ϸj a s):ϱ7 s:=by
 rcases h with h|⟨i,n,k,Z,r⟩
 .exact Ê h
 show Ð ⟨_,i,n,k,rfl,rfl,rfl,Z,r⟩
def X_.same{K:At}{H H':Hp}(e:ϵg){a:Ix}{s:À V}(h:ϸj a s):X_ K H' a s:=by
 rcases h with (h|⟨o,h⟩)|h
 .exact Ê<|Ê ϺZ
 .exact Ê<|Ð ⟨o,ϺZ⟩
 show Ð h
def X_.obj(I:ø)(h:X_ X.K H a xs):
  Ą xs.length/\∃(i:À Db)(n:Nat),Ϲn i/\Ϙw/\Ϧt=Â ((Ģ "list" ϸN)):=by
 rcases h with h|⟨i,n,k,Z,r⟩
 .let(z,i,n,r,e):=h.ok I.Uf
  show(z,i,n,r,r.length,e)
 let e:=r.length;let e':=e;simp only[K8t]at e';show(Ã,i.toList,n,r,e,ť (I.Zj a _ k))
end L3
namespace L3
open PySem L2
inductive OD where
 |sh (d:Gc)
 |ol (xs:À OD)
 |ot (xs:À OD)
 |od (L0:À ς)
 |oi (p:Ö Ix) (nm:Str) (ds:À ϱf)
 |pl (a:Ix) (xs:À OD)
def kD:Key->Gc|.inl i=>Á i|.inr x=>Ô x
def dD(k:À ς):Gc:=϶a<|k.map ϲk
def qK(nm:Str)(d:À ϱf):Gc:=϶a<|(æ,Ô nm)::d.map ϲh
mutual
def OD.er:OD->Gc|.sh d=>d|.ol xs=>Å Ϯ2|.ot xs=>ï Ϯ2|.od L0=>dD L0|.oi _ nm ds=>ϻm ds|.pl _ xs=>Å Ϯ2
def OD.ers:À OD->À Gc|[]=>[]|x::xs=>x.er::Ϯ2
end
def vv:∀s:À OD,OD.ers s=ϱI:=by
 ext y
 induction y with|nil=>show rfl|cons x s Y2=>rw[OD.ers,L4,Y2]
def aS(d:Gc):(ϺY).er=d:=ϱl OD.er
def eP(s:À OD):(OD.ol s).er=Å ϱI:=ϲK OD.er vv
def J4(s:À OD):(OD.ot s).er=ï ϱI:=ϲK OD.er vv
def tU(p:Ö Ix)(nm:Str)(d:À ϱf):(OD.oi p nm d).er=ϻm d:=ϱl OD.er
def N6(a:Ix)(s:À OD):(OD.pl a s).er=Å ϱI:=ϲK OD.er vv
def Ax(k:À ς):(OD.od k).er=dD k:=ϱl OD.er
def aN(s:À Gc):Ó ϩV OD.er=s:=by
 rw[W5];let:(OD.er∘OD.sh)=id:=funext λd=>aS d;rw[this,List.map_id]
inductive R(α:Type) where
 |ok (a:α)
 |ex (c:Str)
 |bad
def R.bind{α β:Type}(r:R α)(f:όg):R β:=match r with
 |.ok a=>f a
 |.ex c=>ϵo
 |.bad=>È
def aF(a:α)(f:όg):ã (R.ok a) f=f a:=rfl
abbrev Env:=À<|Ö OD
abbrev Fe:=Env->č
abbrev Fa:=Ϩr (À OD)
abbrev Ft:=Env->ϵm
abbrev Fn:=À Gc->č
inductive Out where
 |nx (ρ:Env)
 |rt (x:OD)
 |bk (ρ:Env)
 |ct (ρ:Env)
abbrev Fs:=Env->ϱQ
abbrev Fi:=Ϩr (À Gc)
abbrev Fg:=OD->Ϩr Env
def I6:Nat:=10000000
def flat:Ź Gc|.none=>true|.bool _=>true|.int _=>true|.str _=>true|_=>false
def aa(i:Nat):Fe:=λa=>match ϰ5 with
 |some (some<|.sh d)=>.ok Ē
 |_=>È
def eC(d:Gc):Fe:=λ_=>.ok Ē
def B2(g:ϱn)(a b:Fe):Fe:=λc=>ã (a c) λx=>ã (b c) λy=>ϦK
def Yl(g:Gc->č)(a:Fe):Fe:=λb=>ś λx=>g x.er
def truth:Gc->ϵm|.bool b=>.ok b|_=>È
def au(a:Fe):Ft:=λb=>ś λx=>ϴV
def uX(a b:Ft):Ft:=λd=>ã (a d) λc=>Ï ϰ1 (b d) ϶H
def oM(a b:Ft):Ft:=λd=>ã (a d) λc=>Ï ϰ1 ϴ5 (b d)
def lg(a:Ft):Ft:=λb=>ś λc=>.ok<|!c
def xo(a b:Fe):Fe:=λd=>ã (a d) λx=>ã ϴV λc=>Ï ϰ1 (b d) (Ú (ß false))
def eOr(a b:Fe):Fe:=λd=>ã (a d) λx=>ã ϴV λc=>Ï ϰ1 (Ú (ß true)) (b d)
def E6(a:Fe):Fe:=λb=>ś λx=>ã ϴV λc=>Ú<|ß<|!c
def eIf(t:Ft)(a b:Fe):Fe:=λd=>ã (t d) λc=>Ï ϰ1 (a d) (b d)
def ai:Fa:=λ_=>ò []
def ae(a:Fe)(r:Fa):Fa:=λb=>ś λx=>ã (r b) λs=>.ok ϻr
def Zv:À OD->Ö (À Gc)
 |[]=>Â []
 |.sh d::r=>match Zv r with
  |some ds=>Â<|d::ds
  |none=>none
 |_::_=>none
def mkT(s:À OD):OD:=ώE (Zv s) (.sh<|ï ds) (.ot s)
def gT(a:Fa):Fe:=λb=>ś λs=>Ï ϦB (ò (mkT s)) È
def W8(a:Fe):Fe:=λb=>ś λx=>Ú x.er
def bX(a:Fa):Fe:=λb=>ś λs=>Ï ϦB (ò ϳf) È
def ar(f:Fn)(a:Fa):Fe:=λb=>ś λs=>f ϱI
def eB(g:À Gc->č)(a:Fa):Fe:=λb=>ś λs=>g ϱI
def erase(a:Env):Env:=a.map λo=>o.map λx=>Ă x.er
def vn(a:Fe):Fe:=λb=>ã (a Ϫ4) λx=>Ï ϏC (Ú x.er) È
def oq(a:Fe):Fe:=λb=>ã (a Ϫ4) λx=>match x with
 |.ol xs=>Ï (ā xs.all ϶s) (ĥ xs.map Ϧv) È
 |_=>È
def tM(a:Ft):Ft:=λb=>a Ϫ4
abbrev Fo:=Ϩr (Ö Int)
def sU:Fo:=λ_=>.ok none
def mn(a:Fe):Fo:=λb=>ś λx=>match x.er with
 |.int i=>.ok ϻe
 |_=>È
def eSl(g:Gc->ϴs (Ö Int) č)(a:Fe)(l h:Fo):Fe:=λb=>ś λx=>ã (l b) λi=>ã (h b) λj=>ϑ1
def cB(a:Fe):Fi:=λb=>ś λx=>match x.er with
 |.list ds=>ϧR
 |_=>È
def iTp(a:Fe):Fi:=λb=>ś λx=>match x.er with
 |.tuple ds=>ϧR
 |_=>È
def rj(l:Int)(n:Nat):À Gc:=Ó ϴq (Į (int<|l+k))
def aG(i:Int):Bool:=@decide (-ϰj<=i/\i<ϰj) ϴE
def iR1(a:Fe):Fi:=λb=>ś λx=>match x.er with
 |.int j=>Ï ϤC ϥ0 È
 |_=>È
def iR2(a b:Fe):Fi:=λc=>ã (a c) λx=>ã (b c) λy=>match x.er,y.er with
 |.int i,.int j=>Ï (þ Ϥe) (ò (rj i (ē (j-i)))) È
 |_,_=>È
def eA(d:À Gc):À Gc:=d.zipIdx.map λp=>ϳv [Á (ϱF p.2),p.1]
def lG(d e:À Gc):À Gc:=Ó (d.zip e) λp=>ϳv [p.1,p.2]
def iEn(a:Fe):Fi:=λb=>ś λx=>match x.er with
 |.list ds=>.ok<|eA ds
 |_=>È
def iZp(a b:Fe):Fi:=λc=>ã (a c) λx=>ã (b c) λy=>match x.er,y.er with
 |.list ds,.list es=>.ok ϯf
 |_,_=>È
def Rm(i:Nat):Fg:=λx a=>.ok<|ϲU Đ
abbrev Fgs:=À OD->Ϩr Env
def fT:Fgs:=λs a=>match s with
 |[]=>.ok a
 |_=>È
def aX(g:Fg)(r:Fgs):Fgs:=λs b=>match s with
 |x::s=>ã (g x b) λa=>r s a
 |[]=>È
def gTp(n:Nat)(r:Fgs):Fg:=λx a=>match x with
 |.ot xs=>Ï (xs.length=n) (r xs a) È
 |.sh (.tuple ds)=>Ï (ds.length=n) (r ϶C a) È
 |_=>È
def zQ:Ö (Ö OD)->Ö OD|some (some<|.sh d)=>Â Ē|_=>none
def sl3(k:Nat)(outs:Ò)(a:Env):Env:=ϲs none++ϴo (λi=>zQ ϰ5)
def ER{α:Type}:R α->R α|.ok a=>.ok a|_=>È
def bo(g:Fg)(t:Ft)(el:Fe)(a:Env):À Gc->À OD->R (À OD)|[],acc=>.ok acc|d::ds,acc=>ã (ER<|g Ē a) λc=>ã (ER<|t c) λb=>Ï ϸi (ã (ER<|el c) λy=>Ï (acc.length<I6) (ϤD a ds (acc++[y])) È) (ϤD a ds acc)
def aV(it:Fi)(g:Fg)(t:Ft)(el:Fe)(k:Nat)(outs:Ò):Fe:=λa=>ã (it a) λd=>ã (ϤD (ϐB a) d []) λs=>.ok ϳf
def cn:Ft:=λ_=>ϴ5
def Wz:Fs:=λa=>ϸ2
def av(a b:Fs):Fs:=λc=>ã (a c) λo=>match o with
 |.nx ρ'=>b ρ'
 |o=>.ok o
def UG(a:Fe)(g:Fg):Fs:=λc=>ã (a c) λx=>ã (g x c) λb=>.ok<|.nx b
def aC(i:Nat)(a:Fe):Fs:=λb=>ś λx=>ü<|ϲo Đ
def eD(a:Fe):Fs:=λb=>ś λ_=>.ok<|.nx b
def bI(a:Fe):Fs:=λb=>ś λx=>ϴU
def lA(i:Nat):Fs:=λa=>match ϰ5 with
 |some (some x)=>ϴU
 |_=>È
def X5(t:Ft)(a b:Fs):Fs:=λd=>ã (t d) λc=>Ï ϰ1 (a d) (b d)
def EE:Fs:=ϰ9 È
def K0(i:Nat)(a:Env):Env:=match ϰ5 with
 |some (some x)=>ϲU<|É x.er
 |_=>a
def jQ(i:Nat)(a:Fs):Fs:=λb=>a<|K0 i b
def Ja(i:Nat)(g:ϱn)(a:Fe):Fs:=λb=>match ϵq with
 |some (some<|.sh d)=>ś λy=>ã (g d y.er) λz=>ü<|ϲo<|Â z
 |_=>È
def oN(i:Nat)(a:Fe):Fs:=λb=>match ϵq with
 |some (some<|.ol xs)=>ś λy=>Ï ϻ8 (ü (ϲo<|Ď ϪV)) È
 |_=>È
def IH(i:Nat)(g:Fg):Fs:=λb=>match ϵq with
 |some (some<|.ol xs)=>match xs.getLast? with
  |some (.sh d)=>(g Ē<|ϲo<|Â<|.ol xs.dropLast).bind λa=>ϸ2
  |_=>È
 |_=>È
def Ak(i:Nat)(k:Fe)(a:Fe):Fs:=λb=>match ϵq with
 |some (some<|.ol xs)=>ś λy=>ã (k b) λz=>match z.er with
  |.int q=>match ϸT q with
   |some j=>ü<|ϲo<|Ď<|ϷS y
   |none=>È
  |_=>È
 |_=>È
def comps:OD->Ö (Bool×À OD)|.ol xs=>Â (true,xs)|.ot xs=>Â (false,xs)|_=>none
def wrap(l:Bool)(s:À OD):OD:=Ï (l=true) ϳf (.ot s)
def ub(i:Nat)(k:Fe)(a:Fe):Fs:=λb=>match ϵq with
 |some (some<|.ol xs)=>ã (k b) λz=>match z.er with
  |.int q=>match ϸT q with
   |some j=>match Ϩb with
    |some (.ol ys)=>ś λy=>if ys.length<I6 then ü (ϲo<|Ď<|ϷS<|.ol<|ys++[y])else È
    |_=>È
   |none=>È
  |_=>È
 |_=>È
def br(g:Fg)(b:Fs):À Gc->Env->ϱQ
 |[],ρ=>ü ρ
 |d::ds,ρ=>ã (g Ē ρ) λa=>ã (b a) λo=>match o with
  |.nx ρ2=>ϲE ds ρ2
  |.ct ρ2=>ϲE ds ρ2
  |.bk ρ2=>ü ρ2
  |.rt x=>ϴU
def fX(it:Fi)(g:Fg)(b:Fs):Fs:=λa=>ã (it a) λd=>ϲE d a
def dZ(t:Ft)(b:Fs):Nat->Env->ϱQ
 |0,_=>È
 |n+1,ρ=>ã (t ρ) λc=>if ϰ1 then ã Ϸn λo=>match o with
  |.nx ρ2=>ϴt n ρ2
  |.ct ρ2=>ϴt n ρ2
  |.bk ρ2=>ü ρ2
  |.rt x=>ϴU else ü ρ
open Classical in
def cP(t:Ft)(b:Fs):Fs:=λa=>if h:∃n,ϴt n a≠È then ϴt h.choose a else È
def uf(n:Nat)(s:À Gc):Env:=(ϳ2<|λd=>Â ϺY)++ϲy ϏX none
def bj(np n:Nat)(b:Fs):Fn:=λd=>if d.length=np then ã (b<|uf n d) λo=>match o with
 |.rt x=>ϴv
 |.nx _=>Ú æ
 |_=>È else È
mutual
inductive Rep(K:At)(H:Hp):Ý V Gc
 |Re:Ĝ H .Re æ
 |bl (b:Bool):Ĝ H ϱz (ß b)
 |int (i:Int):Ĝ H (Á i) (Á i)
 |str (x:Str):Ĝ H (Ô x) (Ô x)
 |lst {a:Ix} {xs:À V} {ds:À Gc}:ϸj a xs->ϳg xs ds->Ĝ H (Ä a) (Å ds)
 |tup {a:Ix} {xs:À V} {ds:À Gc}:H a=Â (Ī xs)->ϳg xs ds->Ĝ H (Ä a) (ï ds)
 |dct {a:Ix} {L0:À ϴl} {ds:À ς}:H a=Â ϤN->ϲ8 L0.map ģ ds.map->ϳg (L0.map ň) (ϲL ň)->Ĝ H (Ä a) (dD ds)
 |ins {a C dx:Ix} {fs:À ϳC} {nm:Str} {ds:À ϱf}:Ė K nm=Â (Â<|Ä C)/\H a=Â (ϰE dx fs)->ϲ8 fs.map ģ ds.map->ϳg (ϥy ň) (ϲL ň)->Ĝ H (Ä a) (ϻm ds)
inductive B1(K:At)(H:Hp):À V->į (À Gc)
 |nil:ϳg [] []
 |cons {v:V} {vs:À V} {d:Gc} {ds:À Gc}:Ĝ H v d->ϳg vs ds->ϳg ϫg (d::ds)
end
def B1.same(e:ϵg)(h:ϳg vs ds):B1 K H' vs ds:=ό7 (Ĝ H' v d) (B1 K H' v d) .Re .bl Á Ô (λh _=>ä<|h.same e) (λh _=>Ī ϺZ) (λh k _=>.dct ϺZ k) (λh k _=>.ins ⟨h.1,e _ _ h.2⟩ k) í (λ_ _=>ð)
def Rep.same(e:ϵg)(h:Ĝ H v d):Ĝ H' v d:=by cases B1.same e (ð h í);assumption
mutual
inductive Own(K:At)(F H:Hp):V->Ý OD (À Ix)
 |sh {v:V} {d:Gc}:Ĝ F v d->ϱX Ē []
 |ol {a:Ix} {vs:À V} {xs:À OD} {f:À Ix}:H a=Â (ä vs)->ŧ vs xs f->ϲJ F H (Ä a) ϲD (a::f)
 |ot {a:Ix} {vs:À V} {xs:À OD} {f:À Ix}:H a=Â (Ī vs)->ŧ vs xs f->ϲJ F H (Ä a) (.ot xs) (a::f)
 |od {a:Ix} {L0:À ϴl} {ds:À ς}:H a=Â ϤN->ϥM L0.map ds.map (ϲJ F H (Ä a) (.od ds) [a])
 |oi {a C dx:Ix} {fs:À ϳC} {p:Ö Ix} {nm:Str} {ds:À ϱf}:(∀b,p=ϱN->b=a)/\Ė K nm=Â (Â<|Ä C)/\H a=Â (ϰE dx fs)->ϥM fs.map ds.map (ϲJ F H (Ä a) (ϳx ds) [a])
 |pl {a:Ix} {vs:À V} {xs:À OD} {f:À Ix}:H a=Â (ä vs)->ŧ vs xs f->ϲJ F H (Ä a) (ϵl xs) (a::f)
inductive F5(K:At)(F H:Hp):À V->À OD->į (À Ix)
 |nil:ŧ [] [] []
 |cons {v:V} {x:OD} {f:À Ix} {vs:À V} {xs:À OD} {g:À Ix}:ϱX x f->ŧ vs xs g->ŧ ϫg ũ ϧX
end
def F5.mono(e:Ϥ4)(k:ų (∀o,H a=Ø->϶h=Ø))(h:ŧ v x f):Ϸz F' H' v x f:=h.rec (motive_1:=λv x f _=>(ų<|∀o,H a=Ø->϶h=Ø)->ϲJ F' H' v x f) (motive_2:=λv x f _=>(ų<|∀o,H a=Ø->϶h=Ø)->Ϸz F' H' v x f) (λr _=>.sh ϯx) (Ϩi<|.ol Ϻu<|i (ϱL (Ā m))) (Ϩi<|.ot Ϻu<|i (ϱL (Ā m))) (λh q r k=>.od Ϻu q ϩH) (λh q r k=>ϙG ϩH) (Ϩi<|.pl Ϻu<|i (ϱL (Ā m))) (ϰ9 í) (λ_ _ i j k=>ð (i (ϱL (Ŀ m)))<|j (ϱL (Ļ m))) k
def Own.mono(e:Ϥ4)(k:ų (∀o,H a=Ø->϶h=Ø))(h:ϱX x f):ϲJ F' H' v x f:=by
 let t:=ϙE<|ð h í;rw[List.append_nil]at t;cases t with|cons a b=>cases b;simpa using a
def F5.Xm(h:ŧ v x f):ų (∃o,H a=Ø):=ϒF (λ_ _ f _=>ų (∃o,H a=Ø)) (λ_ _ f _=>ų (∃o,H a=Ø)) (λ_ _ m=>Ϥq) (λh _ i a m=>ϫT<|i a) (λh _ i a m=>ϫT<|i a) (λh _ _ a m=>ϫT Û) (λh _ _ a m=>ϙB Û) ϰn (λ_ _ i j a m=>϶m (i a)<|j a)
def Own.Xm(h:ϱX x f)(a)(m:a∈f):∃o,H a=Ø:=F5.Xm (ð h í) a ϳq
def F5.W3(e:Ϥ4)(k:ų (∀o,H a=Ø->F' a=Ø))(h:ŧ v x f):ϗw:=ϒF (λv x f _=>(ų<|∀o,H a=Ø->F' a=Ø)->Ĝ F' v x.er) (λv x f _=>(ų<|∀o,H a=Ø->F' a=Ø)->ϗw) (λr _=>Ù aS ϯx) (Ϩi<|Ù OD.er (ä (X_.of Ϻu)<|i (ϱL (Ā m)))) (Ϩi<|Ù OD.er (Ī Ϻu<|i (ϱL (Ā m)))) (λh q r k=>Ù OD.er (.dct Ϻu q ϯx)) (λh q r k=>Ù OD.er (ϙR ϯx)) (λ_=>Ù OD.ers í) (λ_ _ i j k=>Ù OD.ers (ð (i (ϱL (Ŀ m)))<|j (ϱL (Ļ m)))) k
def Own.W3(e:Ϥ4)(k:ų (∀o,H a=Ø->F' a=Ø))(h:ϱX x f):Ĝ F' v x.er:=by
 let t:=ϙK<|ð h í;rw[OD.ers]at t;cases t;assumption
def F5.len(o:ŧ v x f):v.length=x.length:=by
 induction x generalizing v f with
 |nil=>cases o;rfl
 |cons a r ih=>
  cases o with|cons h t=>show ϦE<|ih t
def F5.app(o:ŧ v x f)(q:ŧ w y g):ŧ (v++w) (x++y) ϧX:=by
 induction x generalizing v f with
 |nil=>cases o;show q
 |cons a r ih=>
  cases o with|cons h t=>rw[y_,y_,K9M];show ð h<|ih t
theorem F5.Zv:∀{v:À V}{d:À Gc},Ū v d->ŧ v (d.map OD.sh) []|_,_,.nil=>í|_,_,.cons h r=>ð (f:=[]) (.sh h)<|F5.Zv r
theorem B1.len:∀{v:À V}{d:À Gc},Ū v d->v.length=d.length|_,_,.nil=>rfl|_,_,.cons _ r=>by rw[Xt,Xt,B1.len r]
theorem B1.get:∀{v:À V}{s:À Gc}{i:Nat}{d:Gc},Ū v s->ϱP=ϰH->∃x,v[i]?=Đ/\Ĝ F x d
 |_,_,_,_,.nil,e=>ϦA
 |_,_,0,_,.cons h _,e=>Ϭj (_,rfl,h)
 |_,_,i+1,_,.cons _ r,e=>by
  let(x,H,a):=B1.get (i:=i) r ϳ8;show(x,Ϻe,a)
theorem B1.app:∀{v w:À V}{d e:À Gc},Ū v d->Ū w e->Ū (v++w) (d++e)|_,_,_,_,.nil,q=>q|_,_,_,_,.cons h r,q=>ð h<|B1.app r q
theorem B1.take:∀{v:À V}{d:À Gc}(n:Nat),Ū v d->Ū (v.take n) (d.take n)
 |_,_,0,_=>ϳH K7l K7l í
 |_,_,_+1,.nil=>í
 |_,_,n+1,.cons h r=>ð h<|B1.take n r
theorem B1.drop:∀{v:À V}{d:À Gc}(n:Nat),Ū v d->Ū (v.drop n) (d.drop n)|_,_,0,r=>r|_,_,_+1,.nil=>í|_,_,n+1,.cons h r=>B1.drop n r
theorem B1.toInts:∀{v:À V}{ns:À Int},Ū v ő->v=ϰw|_,[],.nil=>rfl|_,n::ns,.cons h r=>by cases h;rw[B1.toInts r];rfl
theorem B1.ofInts:∀(ns:À Int),Ū ϰw ő|[]=>í|n::ns=>ð (Á n)<|B1.ofInts ns
structure Ext(F H F' H':Hp):Prop where
 ff:Ϥ4
 hh:ϵg
 fh:aB F' H'
 nw:∀a,ϦZ->ϵV->ϥz F'
def bw(h:o=Đ):o≠none:=by rw[h];show Option.some_ne_none x
def _root_.L2.aB.Xm(e:ϵg)(h:ϦZ):϶h≠none:=by
 cases q:H a with|none=>show Ć q h|some o=>show bw<|e a o q
def Ext.refl(h:ϱy):Α F H:=⟨ţ,ţ,h,ϴZ⟩
def Ext.trans(a:Α F1 H1)(b:Ext F1 H1 F2 H2):Α F2 H2:=⟨a.ff.trans b.ff,a.hh.trans b.hh,b.fh,λx h n=>ϚL<|a.nw x h n⟩
def Ext.alloc(h:ϱy)(P:ϴ9):Α F (Ę p o):=
 ⟨ţ,(aB.refl H).upd P,(aB.upd h<|h.free P),ϴZ⟩
def Ext.allocF(h:ϱy)(P:ϴ9):Α (upd F p o) (Ę p o):=by
 apply((aB.refl F).upd<|h.free P,(aB.refl H).upd P,λb u q=>?_,λa A n=>?_)
 .by_cases e:b=p
  .subst e
   rw[aP]at q⊢;show q
  rw[ay e]at q⊢;show h b u q
 let e:a≠p:=Ϧy (A P)
 rw[ay e];show n
structure Res(K:At)(F H:Hp)(v:V)(x:OD)(f:À Ix):Prop where
 own:ϱX x f
 nd:f.Nodup
 fr:ų ϵV
structure Y7(K:At)(F H:Hp)(v:À V)(x:À OD)(f:À Ix):Prop where
 own:ŧ v x f
 nd:f.Nodup
 fr:ų ϵV
open Classical in
def lQ(F H:Hp)(f:À Ix):Hp:=λa=>Ï (a∈f) (H a) (F a)
def jO(h:a∈f):ϴ1 a=H a:=Ŷ lQ (Os h)
def dt(h:Ϸo):ϴ1 a=F a:=Ŷ lQ (P3 h)
section
variable{x:OD}{xs:À OD}
def cV(n:ų ϵV):aB F ϴ1:=λa o q=>by
 rw[dt]
 .exact q
 ext m;rw[n a m]at q;cases q
def r_(h:ϱy):aB ϴ1 H:=λa o q=>by
 by_cases m:a∈f
 .rw[jO m]at q
  show q
 rw[dt m]at q;show h a o q
def Res.ext(r:Ϲa v x f)(e:Α F' H'):Res K F' H' v x f:=
 ⟨ϪB e.ff ((ϸW q e.hh)),r.nd,ϰt (όN r.own.Xm<|ϥa m)⟩
def Y7.ext(r:Ϫ5 vs xs f)(e:Α F' H'):Y7 K F' H' vs xs f:=
 ⟨ϪB e.ff ((ϸW q e.hh)),r.nd,ϰt (όN r.own.Xm<|ϥa m)⟩
def Dz(e:Α F1 H1)(n:ų (ϥz F1))(w:ų ϳE):Α ϑj H1:=
 ⟨e.ff.trans<|cV n,e.hh,r_ e.fh,λa h z=>by
  let m:Ϸo:=λm=>h ϻt
  rw[dt m];show e.nw a h z⟩
def Res.W3(e:Α F1 H1)(r:Res K F1 H1 v x f)(w:ų ϳE):∃G,Α G H1/\Ĝ G v x.er:=
 ⟨ϑj,Dz e r.fr w,ϘA ((ϴu (Ù (jO m) q)))⟩
def Y7.W3(e:Α F1 H1)(r:Y7 K F1 H1 vs xs f)(w:ų ϳE):∃G,Α G H1/\B1 K G vs (xs.map OD.er):=
 ⟨ϑj,Dz e r.fr w,ϰy vv (ϘA ((ϴu (Ù (jO m) q))))⟩
def Res.sh(r:Ĝ F v d):Ϲa v Ē []:=⟨.sh r,K8w,ϰn⟩
def Y7.nil:Ϫ5 [] [] []:=⟨í,K8w,ϰn⟩
def Y7.cons{j:À Ix}(r:Ϲa v x j)(q:Ϫ5 vs xs f)(d:∀a∈j,Ϸo):Ϫ5 ϫg ũ (j++f):=
 ⟨ð r.own q.own,ϹE ⟨r.nd,q.nd,λa m b n e=>d a m (e▸n)⟩,ϰt (϶m ϥa<|q.fr a)⟩
end
inductive Sc(K:At)(F H:Hp):St->Ý Env (À Ix)
 |nil:ϰB [] [] []
 |no {v:Ö V} {σ:St} {ρ:Env} {g:À Ix}:ϰB σ ρ g->ϰB (v::σ) (none::ρ) g
 |yes {v:V} {x:OD} {f:À Ix} {σ:St} {ρ:Env} {g:À Ix}:ϱX x f->ϰB σ ρ g->ϰB (ă::σ) (Đ::ρ) ϧX
def Sc.mono(e:Ϥ4)(k:∀a∈g,∀o,H a=Ø->϶h=Ø)(S:ϰB σ ρ g):Sc K F' H' σ ρ g:=by
 induction S with|nil=>show í|no r ih=>show .no<|ih k|yes h r ih=>show .yes (h.mono e (ϱL (Ŀ m)))<|ih (ϱL (Ļ m))
def Sc.Xm(S:ϰB σ ρ g):∀a∈g,∃o,H a=Ø:=by
 induction S with
 |nil=>exact ϰt Ϥq
 |no r ih=>show ih
 |yes h r ih=>exact ϰt (϶m (h.Xm a)<|ih a)
theorem Sc.at(S:ϰB σ ρ g):∀{i:Nat}{x:OD},Ŋ=Â Đ->
  ∃v f g1 g2,ϲG=Â ă/\ϱX x f/\g=ϴf/\∀(b H':Hp),aB F b->(ϯo<|∀o,H a=Ø->϶h=Ø)->∀V X c,ϲJ b H' V X c->Sc K b H' (ϷP<|Â V) (ł<|Â X) ϏD:=by
 induction S with
 |nil=>ext i x e;simp at e
 |no r ih=>
  ext i x e;cases i with
  |zero=>simp at e
  |succ i=>
   let(v,f,g1,g2,d,j,l,n):=ϯV ϳ8;show(v,f,g1,g2,ώ2,j,l,ϭa (.no<|n b H' s k V X c o))
 |@yes v0 x0 f0 σ0 ρ0 g0 h r ih=>
  ext i x e;cases i with
  |zero=>
   simp at e;subst e;show(_,f0,[],g0,rfl,h,rfl,όQ)
  |succ i=>
   let(v,f,g1,g2,d,j,l,n):=ϯV ϳ8;apply(v,f,f0++g1,g2,ώ2,j,by rw[l,K9M],ϭa ?_);rw[K9M];show .yes (ϐ7<|(ϱL (Ŀ<|Ŀ m)))<|n b H' s (ϱL ϻJ) V X c o
theorem Sc.put(S:ϰB σ ρ g):∀{i:Nat},i<ρ.length->
  ∃f g1 g2,g=ϴf/\∀(b H':Hp),aB F b->(ϯo<|∀o,H a=Ø->϶h=Ø)->∀V X c,ϲJ b H' V X c->Sc K b H' (ϷP<|Â V) (ł<|Â X) ϏD:=by
 induction S with
 |nil=>ext i e;simp at e
 |@no v0 σ0 ρ0 g0 r ih=>
  ext i e;cases i with
  |zero=>show([],[],g0,rfl,όQ)
  |succ i=>
   let(f,g1,g2,d,j):=ϯV ϳ8;show(f,g1,g2,d,ϭa (.no<|j b H' s k V X c o))
 |@yes v0 x0 f0 σ0 ρ0 g0 h r ih=>
  ext i e;cases i with
  |zero=>show(f0,[],g0,rfl,όQ)
  |succ i=>
   let(f,g1,g2,d,j):=ϯV ϳ8;apply(f,f0++g1,g2,by rw[d,K9M],ϭa ?_);rw[K9M];show .yes (ϐ7<|(ϱL (Ŀ<|Ŀ m)))<|j b H' s (ϱL ϻJ) V X c o
def Sc.erase(e:ϱy)(S:ϰB σ ρ g):Sc K H H σ (L3.erase ρ) []:=by
 induction S with|nil=>show í|no r ih=>show ϻo|yes h r ih=>show .yes (f:=[]) (.sh<|h.W3 e (Ň q)) ih
def Sc.len(S:ϰB σ ρ g):σ.length=ρ.length:=by
 induction S with|nil=>rfl|no r ih=>show ϦE ih|yes h r ih=>show ϦE ih
structure X7(K:At)(n:Nat)(F H:Hp)(σ:St)(ρ:Env)(fp:À Ix):Prop where
 same:ϱy
 own:ϰB σ ρ fp
 nd:fp.Nodup
 fr:∀a∈fp,ϵV
 len:ρ.length=n
structure X9(F H:Hp)(fp:À Ix)(F' H':Hp)(fp':À Ix):Prop where
 ff:Ϥ4
 keep:∀a o,H a=Ø->a∉fp->϶h=Ø
 new:∀a∈fp',Ϩc\/ϳE
 nw:∀a,ϦZ->a∉fp->ϵV->ϥz F'
section
variable{K:At}{n:Nat}{F H F' H' F1 H1 F2 H2:Hp}{σ:St}{ρ:Env}{fp fp1 fp2:À Ix}
def X7.ext(s:ϴI K)(e:Α F' H'):ϸk F' H' σ ρ fp:=
 ⟨e.fh,s.own.mono e.ff (ϸW q e.hh),s.nd,ϰt (όN s.own.Xm<|s.fr a m),s.len⟩
def X7.erase(s:ϴI K):ϸk H H σ (L3.erase ρ) []:=
 ⟨ţ,s.own.erase s.same,K8w,ϰn,(by delta L3.erase;rw[K1];show s.len)⟩
def X9.refl:Ŏ fp F H fp:=⟨ţ,ϦC,λ_ m=>Ê m,ϳa z⟩
def Ext.Wy(e:Α F' H'):Ŏ fp F' H' fp:=(ϓv (λ_ m=>Ê m))
def X9.out(s:Ŏ fp F1 H1 fp1)(h:ϦZ)(m:a∉fp):a∉fp1:=λq=>(ϑM q).elim m h
theorem X9.trans(s:Ŏ fp F1 H1 fp1)(t:X9 F1 H1 fp1 F2 H2 fp2):Ŏ fp F2 H2 fp2 where
 ff:=s.ff.trans t.ff
 keep a o h m:=t.keep a o (Ϯp h m)<|s.out (bw h) m
 new a m:=(t.new a m).elim ϑM λz=>by
  by_cases q:Ϩc
  .exact Ê q
  .apply Ð ?_
   cases w:H a with|none=>rfl|some o=>rw[Ϯp w q]at z;cases z
 nw a h m z:=t.nw a (by
  cases w:H a with|none=>show absurd w h|some o=>show bw<|Ϯp w m) (s.out h m)<|s.nw a h m z
def X7.set(s:ϴI K)(hi:i<n)(r:Ϲa v x fx)(d:∀a∈fx,a∉fp):
  ∃p,ϸk F H (ϷP ă) (ł Đ) p/\∀a∈p,Ϩc\/a∈fx:=by
 let(f,g1,g2,e,k):=s.own.put (i:=i) (by rw[s.len];show hi);subst e;let nd:=s.nd;let sub:∀a∈ϲ4 fx,a∈ϴf\/a∈fx:=λa m=>by
  simp only[P1]at m⊢;rcases m with m|m|m
  .exact Ê<|Ê m
  .exact Ð m
  show Ê<|Ð<|Ð m
 apply(ϲ4 fx,(s.same,k F H ţ (Ň q) v x fx r.own,?_,ϰt ((ϲ9).elim (s.fr a) ϥa),Ù K8z s.len),sub);simp only[Ya,P1]at nd d⊢;obtain⟨N,⟨h,c,j⟩,g⟩:=nd;apply(N,(r.nd,c,Ϥi (d a A<|Ð<|Ð (e▸B))),Ϥi ?_);rcases B with B|B
 .exact d b B<|Ê (e▸A)
 show g a A b (Ð B) e
end
structure Mx where
 K:At
 mg:ĳ
 E:XK
def XOk(M:Mx)(c:Str)(H:Hp)(f:À Ix):Prop:=∃v,M.mg c=ă/\∀od H',(∀a o,H a=Ø->Ϸo->϶h=Ø)->M.E v od H'
def aq(M:Mx)(H:Hp)(f:À Ix){α:Type}(P:į α):į (R α)|.ok a=>P a|.ex c=>XOk M c H f|.bad=>False
def T0(M:Mx)(F H:Hp)(Q:VK)(x:OD):Prop:=∀v b H' f,Α b H'->ϧG b H' v x f->(ų ϳE)->ϻl
def OkL(M:Mx)(F H:Hp)(Q:Ý (À V) Hp)(x:À OD):Prop:=∀v b H' f,Α b H'->Y7 M.K b H' v x f->(ų ϳE)->ϻl
def OkH(F H:Hp){α:Type}(Q:Ý α Hp)(x:α):Prop:=∀b H',Α b H'->Q x H'
section
variable{M:Mx}{α β:Type}{r:R α}
def aq.bind(h:ÿ fp P (ϱE g)):ÿ fp (λa=>ÿ fp P<|g a) r:=by
 cases r with|ok a=>show h|ex c=>show h|bad=>show h
def aq.mono(h:ÿ fp P r)(k:∀a,P a->P' a):ÿ fp P' r:=by
 cases r with|ok a=>show k a h|ex c=>show h|bad=>show h
def XOk.Wy(s:Ŏ fp F1 H1 fp1)(h:XOk M c H fp):XOk M c H1 fp1:=
 let⟨cv,e,k⟩:=h
 ⟨cv,e,λod H' q=>k od H' λa o z m=>q a o (Ϯp z m)<|s.out (bw z) m⟩
def aq.Wy(s:Ŏ fp F1 H1 fp1)(h:ÿ fp P r):ϑk P r:=by
 cases r with|ok a=>show h|ex c=>show XOk.Wy s h|bad=>show h
def aq.ext(e:Α F1 H1)(h:ÿ fp P r):aq M H1 fp P r:=h.Wy e.Wy
def aq.nofp(h:ÿ fp P r):ÿ [] P r:=by
 cases r with
 |ok a=>show h
 |ex c=>let(v,e,k):=h;show(v,e,λod H' q=>k od H' λa o z _=>q a o z Û)
 |bad=>show h
def T0.pre(e:Α F1 H1)(h:Θ x):Ϯd x:=λv b H' f e' r w=>h v b H' f (ϫN e') r λa m=>e.hh.free ϻt
def OkH.pre(e:Α F1 H1)(h:ϑl x):OkH F1 H1 Q x:=λb H' e'=>h b H'<|ϫN e'
def T0.val(s:ϱy)(h:Θ Ē)(r:ϧg v d):Q v H:=h v F H [] ϏY (Res.sh r) ϰn
def T0.lst{Q:VK}{x:À OD}{d:À V}{f:À Ix}{p:Ix}(s:ϱy)(h:Ϯd (.ol x))(e:ϐa)(r:ϐC x f)(w:ų (ϥz H1))(P:ϴ9):Q (Ä p) (Ę p<|ä d):=by
 let np:p∉f:=ϻN q (r.own.Xm p m) P
 apply h (Ä p) F _ (p::f) ϕA ⟨ϧp<|ϪB ţ ((ϴu ?_)),ϤI np r.nd,ϲz⟩ ϲz
 .rw[ay<|ϳR P]
  show q
 .rcases W7.mp m with rfl|m
  .exact s.free P
  show ϥa m
 rcases W7.mp m with rfl|m
 .exact e.hh.free P
 show ϻt
def T0.tup{Q:VK}{x:À OD}{d:À V}{f:À Ix}{p:Ix}(s:ϱy)(h:Ϯd (.ot x))(e:ϐa)(r:ϐC x f)(w:ų (ϥz H1))(P:ϴ9):Q (Ä p) (Ę p<|Ī d):=by
 let np:p∉f:=ϻN q (r.own.Xm p m) P
 apply h (Ä p) F _ (p::f) ϕA ⟨.ot aP<|ϪB ţ ((ϴu ?_)),ϤI np r.nd,ϲz⟩ ϲz
 .rw[ay<|ϳR P]
  show q
 .rcases W7.mp m with rfl|m
  .exact s.free P
  show ϥa m
 rcases W7.mp m with rfl|m
 .exact e.hh.free P
 show ϻt
def T0.Zx(s:ϱy)(h:Θ (.ol ϶C))(r:ϻp F vs ds)(P:ϴ9):Q (Ä p) (Ę p<|ä vs):=
 T0.lst s h ϏY ⟨F5.Zv r,K8w,ϰn⟩ ϰn P
def T0.tupF(s:ϱy)(h:Ϯd (.sh<|ï ds))(e:ϐa)(r:ϻp F vs ds)(P:ϴ9):Q (Ä p) (Ę p<|Ī vs):=
 h (Ä p) (upd F p<|Ī vs) _ [] (ϫN<|Ext.allocF s P) (Res.sh<|Ī aP<|r.same<|(aB.refl F).upd<|s.free P) ϰn
set_option tactic.hygienic true in
def F5.of_shs(o:ŧ vs xs f)(e:L3.Zv xs=some ds):f=[]/\Ū vs ds:=by
 induction xs generalizing vs f ds with
 |nil=>cases o;delta L3.Zv at e;cases e;show(rfl,í)
 |cons a0 r0 ih0=>
 cases o with
 |cons h0 r=>
  let i:=λds=>ih0 (ds:=ds) r;cases h0 with
  |sh h=>
   delta L3.Zv at e;split at e
   .rename_i s q
    cases e;let(rfl,k):=i _ q;show(rfl,ð h k)
   cases e
  |ol _ _=>delta L3.Zv at e;cases e
  |ot _ _=>delta L3.Zv at e;cases e
  |od _ _ _=>delta L3.Zv at e;cases e
  |oi _ _ _=>delta L3.Zv at e;cases e
  |pl _ _=>delta L3.Zv at e;cases e
end
def tD(M:Mx)(n:Nat)(f:Fe):TE:=λb H Q=>∃F a p,ϰC F H b a p/\ÿ p Θ (f a)
def tA(M:Mx)(n:Nat)(f:Fa):TA:=λb H Q=>∃F a p,ϰC F H b a p/\ÿ p (OkL M F H Q) (f a)
def tT(M:Mx)(n:Nat)(f:Ft):TT:=λb H Q=>∃F a p,ϰC F H b a p/\ÿ p ϑl (f a)
def tO(M:Mx)(n:Nat)(f:Fo):TO:=λb H Q=>∃F a p,ϰC F H b a p/\ÿ p ϑl (f a)
def Zz(M:Mx)(r:R2)(g:ϱn):Prop:=∀(x y:V)(d D:Gc)(F H:Hp)(f:À Ix)(Q:VK),ϱy->ϧg x d->ϧg y D->ÿ f Θ (g d D)->ϪD
def Ok1(M:Mx)(r:V->Ý Hp VK)(g:Gc->č):Prop:=∀(x:V)(d:Gc)(F H:Hp)(f:À Ix)(Q:VK),ϱy->ϧg x d->ÿ f Θ (g d)->ϫu
def OkC(M:Mx)(r:À V->Ý Hp VK)(g:À Gc->č):Prop:=∀(x:À V)(d:À Gc)(F H:Hp)(f:À Ix)(Q:VK),ϱy->ϻp F x d->ÿ f Θ (g d)->ϫu
def OkS(M:Mx)(r:V->ϴs (Ö Int) (Ý Hp VK))(g:Gc->ϴs (Ö Int) č):Prop:=∀(x:V)(i j:Ö Int)(d:Gc)(F H:Hp)(f:À Ix)(Q:VK),ϱy->ϧg x d->ÿ f Θ (g d i j)->r x i j H Q
section
variable{M:Mx}{n:Nat}{σ:St}{H:Hp}{Q:VK}{QB:Bool->į Hp}{fa fb:Fe}{ta tb:Ft}
set_option tactic.hygienic true in
def TN(h:ê (aa i) σ H Q):ϰg σ H Q:=by
 let(F,j,P,S,p):=h;delta aa at p;split at p
 .rename_i d e
  let(v,f,g1,g2,a,b,c,g):=ϴ0;cases b with|sh r=>show(v,a,ύ0 r)
 show p.elim
def d_c(hr:∀K F,Ĝ F v d)(h:ê (eC d) σ H Q):tC v σ H Q:=ϬT (ύ0<|hr _ _)
def JW(hg:ϰT r g)(h:ê ϩI σ H Q):W_ r (ê fa) (ê fb) σ H Q:=by
 let(F,a,f,S,p):=h;apply(F,a,f,S,ħ λx P v c e X e1 R w=>?_);let(G1,d1,k):=ϸb w;apply(G1,a,f,ϰp,ϳ7 P d1 λy py V d b Y E l W=>?_);let(G2,d2,K):=l.W3 E W;show ϙo<|Ŵ (py.ext ϲX) λz Z=>Z.pre ϲX
def VE(hg:Ok1 M r g)(h:ê (Yl g fa) σ H Q):tUn r (ê fa) σ H Q:=by
 let(F,b,f,S,p):=h;apply(F,b,f,S,ħ λx P v c a X e1 R w=>?_);let(G1,d1,k):=ϸb w;show Ϛb<|Ŵ (P.ext d1) ϩp
def sR(k:Ĝ F v d)(p:ÿ fp P (truth d)):∃b,v=ϱz/\P b:=by
 cases d with
 |bool b=>cases k;show(b,rfl,p)
 |none=>show p.elim
 |int _=>show p.elim
 |str _=>show p.elim
 |list _=>show p.elim
 |tuple _=>show p.elim
 |dict _=>show p.elim
def BZ(h:ϳI (au fa) σ H QB):xV (ê fa) σ H QB:=by
 let(F,c,f,S,p):=h;apply(F,c,f,S,ħ λx P v d a X e1 r w=>?_);let(G1,d1,k):=ϲA;let(b,rfl,q):=sR k P;show(b,rfl,q G1 a d1)
def d_b(h:ϳI (au fa) σ H QB):tB (ê fa) σ H QB:=BZ h
def QX(h:ϳI (uX ta tb) σ H QB):U7 (ϳI ta) (ϳI tb) σ H QB:=by
 let(F,d,a,S,p):=h;apply(F,d,a,S,ħ λc P f e e1=>?_);cases c with|true=>rw[Č]at P⊢;show(f,d,a,ϲ5,Ϭa)|false=>rw[ϰ6]at P⊢;show P f e e1
def U0(h:ϳI (oM ta tb) σ H QB):tOr (ϳI ta) (ϳI tb) σ H QB:=by
 let(F,d,a,S,p):=h;apply(F,d,a,S,ħ λc P f e e1=>?_);cases c with|true=>rw[Č]at P⊢;show P f e e1|false=>rw[ϰ6]at P⊢;show(f,d,a,ϲ5,Ϭa)
def PL(h:ϳI (lg ta) σ H QB):Ti (ϳI ta) σ H QB:=by let(F,b,P,S,p):=h;show(F,b,P,S,ħ λc C f a e1=>C f a e1)
def R1(h:ê (xo fa fb) σ H Q):NR (ê fa) (ê fb) σ H Q:=by
 let(F,a,f,S,p):=h;apply(F,a,f,S,ħ Ϭu);let(G1,d1,k):=ϲA;let(b,rfl,q):=sR k<|ϰZ P;apply(b,rfl,?_);cases b with|true=>rw[Č]at q⊢;show(G1,a,f,ϰp,Ŵ (q.ext d1) ϩp)|false=>rw[ϰ6]at q⊢;show ϥO q ϧ0
def Ws(h:ê (eOr fa fb) σ H Q):Vz (ê fa) (ê fb) σ H Q:=by
 let(F,a,f,S,p):=h;apply(F,a,f,S,ħ Ϭu);let(G1,d1,k):=ϲA;let(b,rfl,q):=sR k<|ϰZ P;apply(b,rfl,?_);cases b with|true=>rw[Č]at q⊢;show ϥO q ϧ0|false=>rw[ϰ6]at q⊢;show(G1,a,f,ϰp,Ŵ (q.ext d1) ϩp)
def UJ(h:ê (E6 fa) σ H Q):NN (ê fa) σ H Q:=by
 let(F,a,f,S,p):=h;apply(F,a,f,S,ħ Ϭu);let(G1,d1,k):=ϲA;let(b,rfl,q):=sR k<|ϰZ P;show(b,rfl,ϥO q ϧ0)
def Wi(h:ê (eIf ta fa fb) σ H Q):tIf (ϳI ta) (ê fa) (ê fb) σ H Q:=by
 let(F,a,f,S,p):=h;apply(F,a,f,S,ħ λc P d e e1=>?_);cases c with|true=>rw[Č]at P⊢;show(d,a,f,ϲ5,Ϭa)|false=>rw[ϰ6]at P⊢;show(d,a,f,ϲ5,Ϭa)
def ID(h:ê (W8 fa) σ H Q):ê fa σ H Q:=by
 let(F,a,f,S,p):=h;apply(F,a,f,S,ħ (ϭo ?_));let(G1,d1,k):=ϲA;show ϥO P k
def xc(h:flat d=true)(r:Ĝ F v d):Ĝ G v d:=by
 cases r with
 |Re=>show .Re
 |bl b=>show ϱz
 |int i=>show Á i
 |str x=>show Ô x
 |lst _ _=>cases h
 |tup _ _=>cases h
 |dct _ _ _=>cases h
 |ins _ _ _=>cases h
def T6(h:ê (vn fa) σ H Q):ê fa σ H Q:=by
 let(F,b,d,S,p):=h;apply(H,Ϫ4,[],S.erase,ϤO ϱ0 ϕU);by_cases f:ϏC
 .rw[Os f]at P
  let(G1,d1,k):=ϲA;show P v F a [] ⟨ţ,d1.hh,ϦG d1.hh,ϴZ⟩ (Res.sh<|xc f k) ϰn
 rw[P3 f]at P;show P.elim
def Qf(h:ϳI (tM ta) σ H QB):ϳI ta σ H QB:=by
 let(F,a,f,S,p):=h;apply(H,όh,[],S.erase,ϤO (show ÿ f _ (ta όh)from p) λb P d c e1=>?_);show P F c ⟨ţ,e1.hh,ϦG e1.hh,ϴZ⟩
def IG(h:ϱg ai σ H QL):qL σ H QL:=ϬT (p [] F H [] ϥ7 Y7.nil ϰn)
def KS(h:ϱg (ϯ4 al) σ H QL):dB (ê fa) (ϱg al) σ H QL:=by
 let(F,b,P,S,p):=h;apply(F,b,P,S,ħ λx g v c i X e1 r W=>?_);apply(c,b,P,ϲ5,ϳ7 g e1 λj s V d e f E l w=>?_);apply s (v::V) d e (X++f) (e1.trans E) (Y7.cons (r.ext E) l λa m q=>?_) ϲz
 .let(o,z):=r.own.Xm a m
  rw[w a q]at z;cases z
 rcases P1.mp m with m|m
 .exact W a m
 show ϪM ϻt
def lS(h:k<=I6):k<=sizeLine:=Zd h á
def uL(h:k<I6):k<sizeLine:=Zt h á
def UO(h:ê (bX al) σ H Q):Oz (ϱg al) σ H Q:=by
 let(F,b,f,S,p):=h;apply(F,b,f,S,ħ ϕV);by_cases l:ϦB
 .rw[Os l]at P
  show(Ù r.own.len (lS l),λa A=>T0.lst e1.fh P e1 r w A)
 rw[P3 l]at P;show P.elim
set_option tactic.hygienic true in
def Ta(h:ê (gT al) σ H Q):Pp (ϱg al) σ H Q:=by
 let(F,b,f,S,p):=h;apply(F,b,f,S,ħ ϕV);by_cases l:ϦB
 .rw[Os l]at P
  apply(Ù r.own.len (lS l),λa A=>?_);delta mkT at P;split at P
  .rename_i D q
   let(_,k):=F5.of_shs r.own q;show T0.tupF e1.fh P e1 k A
  show T0.tup e1.fh P e1 r w A
 rw[P3 l]at P;show P.elim
def Tk(K:At)(m:ĳ)(f:Fn):Sp:=λv H Q E=>∃F d,ϱy/\Ū v d/\aq ϮA H [] (T0 ϮA F H Q) (f d)
def QV(h:ê (ar f al) σ H Q):ϩs (Tk M.K M.mg f) (ϱg al) σ H Q:=by
 let(F,a,P,S,p):=h;apply(F,a,P,S,ħ λs x d c b X e1 r w=>?_);let(G1,d1,k):=ϲA;simp only[Xf];show(G1,ϱI,d1.fh,k,ϤO (x.ext d1) ϩp)
def J9(hg:ϻC r g)(h:ê ϑ2 σ H Q):tCB r (ϱg al) σ H Q:=by
 let(F,b,f,S,p):=h;apply(F,b,f,S,ħ λs P d c a x e1 R w=>?_);let(G1,d1,k):=ϸb w;show hg d ϱI G1 a f Q d1.fh k<|Ŵ (P.ext d1) ϩp
variable{lo hi:Fo}
def Mr(h:tO M n sU σ H QO):C3 σ H QO:=ϬT (p F H ϥ7)
def M0(h:tO M n (mn fa) σ H QO):Nf (ê fa) σ H QO:=by
 let(F,b,f,S,p):=h;apply(F,b,f,S,ħ ϕU);let(G1,d1,k):=ϲA;generalize x.er=d at P k;cases d with
 |int i=>cases k;show(i,rfl,P G1 a d1)
 |none=>show P.elim
 |bool _=>show P.elim
 |str _=>show P.elim
 |list _=>show P.elim
 |tuple _=>show P.elim
 |dict _=>show P.elim
def We(hg:OkS M r g)(h:ê (eSl g fa lo hi) σ H Q):tSl r (ê fa) (tO M n lo) (tO M n hi) σ H Q:=by
 let(F,a,f,S,p):=h;apply(F,a,f,S,ħ λx X v l m q e1 R w=>?_);let(G1,d1,k):=ϸb w;apply(G1,a,f,ϰp,ϳ7 X d1 λi pi d o E=>?_);apply(d,a,f,(ϰp).ext E,ϳ7 pi (d1.trans E) λj P b c y=>?_);let e:=è (d1.trans E) y;show ϙi<|Ŵ (P.ext e) λz Z=>Z.pre e
end
def eO(M:Mx)(n:Nat)(F H:Hp)(f:À Ix)(D:Ends):į Out|.nx ρ=>∀a b H' p,ϰC b H' a ρ p->Ŏ f b H' p->ϥk H'|.bk ρ=>∀a b H' p,ϰC b H' a ρ p->Ŏ f b H' p->D.bk a H'|.ct ρ=>∀a b H' p,ϰC b H' a ρ p->Ŏ f b H' p->D.ct a H'|.rt x=>∀v b H' X,aB b H'->ϧG b H' v x X->Ŏ f b H' X->D.rt v H'
def tS(M:Mx)(n:Nat)(f:Fs):TS:=λD b H=>∃F a p,ϰC F H b a p/\ÿ p (ϴP p D) (f a)
def OkG(M:Mx)(n:Nat)(is:Ò)(F H:Hp)(f:À Ix)(d:St)(Q:Ý St Hp)(c:Env):Prop:=
 ∀a b H' p,ϰC b H' a c p->Ŏ f b H' p->(∀j,j∉is->a[j]?=d[j]?)->Q a H'
def tG(M:Mx)(n:Nat)(is:Ò)(f:Fg):TG:=λv c H Q=>∃F b p x X,ϰC F H c b p/\ϧG F H v x X/\(∀a∈X,a∉p)/\ÿ (p++X) (ϘB (p++X) c Q) (f x b)
def tGs(M:Mx)(n:Nat)(is:Ò)(f:Fgs):TGs:=λd c H Q=>∃F b p s x,ϰC F H c b p/\ϐC s x/\(∀a∈x,a∉p)/\ÿ (p++x) (ϘB (p++x) c Q) (f s b)
section
variable{M:Mx}
def eO.Wy(s:Ŏ fp F1 H1 fp1)(h:ϴP fp D o):ϧu F1 H1 fp1 D o:=by
 cases o with|nx ρ=>show ό4|bk ρ=>show ό4|ct ρ=>show ό4|rt x=>exactλv f H' fx a b c=>h v f H' fx a b<|s.trans c
def Xy.Wy(s:Ŏ fp F1 H1 fp1)(h:ÿ fp (ϴP fp D) r):ϑk (ϧu F1 H1 fp1 D) r:=Ŵ (h.Wy s) λo g=>g.Wy s
def Ext.stpN(e:Α F1 H1)(w:∀a∈fx,ϳE):Ŏ fp F1 H1 (fp++fx):=
 (ϓv (λa m=>϶m Ê (λm=>Ð ϻt)))
def X9.sub(s:Ŏ fp F1 H1 fp1)(h:∀a∈fp2,a∈fp1):Ŏ fp F1 H1 fp2:=⟨s.ff,s.keep,ϰt (ϑM<|h a m),s.nw⟩
def OP(h:Ś Wz):NW D σ H:=ϬT (p σ F H f S X9.refl)
def UX(h:Ś (av f g)):UN (ϱ8 f) (ϱ8 g) D σ H:=by
 let(F,a,c,S,p):=h;apply(F,a,c,S,ħ Ϧ0);cases o with|nx ρ1=>show λd b H' P s T=>⟨b,ρ1,P,s,Xy.Wy T po⟩|bk a=>show po|ct a=>show po|rt x=>show po
def R8(h:Ś EE):HW D σ H:=by let(F,a,f,S,p):=h;show p
def VC(h:Ś (X5 t f g)):H0 (ϳI t) (ϱ8 f) (ϱ8 g) D σ H:=by
 let(F,b,a,S,p):=h;apply(F,b,a,S,ħ λc P d e e1=>?_);cases c with|true=>rw[Č]at P⊢;show(d,b,a,ϲ5,ϹM e1.Wy P)|false=>rw[ϰ6]at P⊢;show(d,b,a,ϲ5,ϹM e1.Wy P)
def Rj(h:Ś (eD a)):kO (ê a) D σ H:=by let(F,d,f,S,p):=h;show(F,d,f,S,ħ (ϭo (P σ c b f ϲ5 e1.Wy)))
def UQ(h:Ś (bI a)):HX (ê a) D σ H:=by let(F,d,f,S,p):=h;show(F,d,f,S,ħ (ϭo (P v c b X e1.fh r<|(e1.stpN w).sub λa m=>Ļ m)))
set_option tactic.hygienic true in
def QP(h:Ś (lA i)):HX ϰg D σ H:=by
 let(F,g,P,S,p):=h;delta lA at p;split at p
 .rename_i x e
  let(v,f,g1,g2,b,c,rfl,d):=ϴ0;let sub:ų (a∈ϴf):=ϰt (Ļ<|Ŀ m);apply(v,b,p v F H f S.same ⟨c,?_,ϰt (ϵO ϲ9)⟩<|X9.refl.sub sub);let nd:=S.nd;simp only[Ya]at nd;show nd.2.1.1
 show p.elim
def SA(h:Ś (UG a g)):ϧ7 (ê a) (ϩ2 g):=by
 let(F,d,fp,S,p):=h;apply(F,d,fp,S,ħ λx P v i l X e1 r w=>?_);let T:=e1.stpN (fp:=fp) w;apply(i,d,fp,x,X,ϲ5,r,λa m q=>?_,Ŵ ((ϰZ P).Wy T) λk b c e H' f s j _=>b c e H' f s<|T.trans j);let(o,z):=ϑ3 q;rw[ϻt]at z;cases z
def Kc(hi:i<n)(h:tG M n [i] (Rm i) v σ H Q):o7 i v σ H Q:=by
 let(F,b,P,x,X,S,r,d,p):=h;let(f,s,sub):=S.set hi r d;apply p _ F H f s ⟨ţ,ϦC,λa m=>Ê<|P1.mpr ϲ9,ϳa z⟩ Ϲb;let e:i≠j:=Ϧy (J Û)
 rw[K9E e]
def UY(h:ϯW [] fT vs σ H Q):Tp vs σ H Q:=by
 let(F,b,f,s,X,S,r,d,p):=h;cases s with
 |nil=>
  cases r.own with|nil=>show(rfl,p σ F H f S (X9.refl.sub λa m=>Ŀ m) ϲ0)
 |cons x s=>show p.elim
def RY(h:ϯW (is++js) (aX g gs) vs σ H Q):Nh (ϩ2 g) (ϯW js gs) vs σ H Q:=by
 let(F,C,b,s,Y,S,r,d,p):=h;cases s with
 |nil=>show p.elim
 |cons x s=>
  let(U,T,R):=r;cases U with
  |@cons v _ f vs _ g' h1 h2=>
   let nd:=T;simp only[Ya]at nd;apply(v,vs,rfl,F,C,b,x,f,S,(h1,nd.1,ϰt (R a<|Ŀ m)),ϰt (d a<|Ŀ m),?_);let N:ÿ ϏZ _ (ã (g x C) λc=>gs s c):=p;let s0:Ŏ ϏZ F H (b++f):=X9.refl.sub λa m=>by
    simp only[P1]at m⊢;rcases m with m|m
    .exact Ê m
    show Ð<|Ê m
   apply Ŵ ((aq.bind N).Wy s0) λl O X u y P K s1 t1=>?_;let G:∀a∈g',a∉b++f:=λa m q=>by
    rcases P1.mp q with q|q
    .exact d a (Ļ m) q
    show nd.2.2 a q a m rfl
   let D:∀a∈g',ϦZ:=λa m=>let⟨_,q⟩:=h2.Xm a m;ϻn
   let L:∀a∈g',∀o,H a=Ø->y a=Ø:=ϴu (ϕ6<|G a m);let out:∀a∈g',a∉P:=ϰt (s1.out (D a m)<|G a m)
   let B:Ŏ ϏZ u y (P++g'):=⟨s1.ff,λa o q m=>ϕ6 (λz=>m ϒ6),λa m=>by
    rcases P1.mp m with m|m
    .rcases s1.new a m with z|z
     .exact Ê ϒ6
     show Ð z
    show Ê ϲq,λa q m z=>s1.nw a q (λw=>m (by simp only[P1]at w⊢;rcases w with w|w<;>simp[w])) z⟩
   apply(u,l,P,s,g',K,(h2.mono s1.ff L,nd.2.1,λa m=>Ϛl<|R a<|Ļ m),out,Ŵ (O.Wy B) λc k t E H' e I V W=>k t E H' e I (B.trans V) λj A=>?_);let J:j∉is:=λz=>A<|Ŀ z;let i:j∉js:=λz=>A<|Ļ z;rw[W j i,t1 j J]
set_option tactic.hygienic true in
def Uw(h:ϩ2 (gTp k gs) v σ H Q):Sq M.K k (ϯW is gs) v σ H Q:=by
 let(F,i,P,x,y,S,r,d,p):=h;delta gTp at p;split at p
 .rename_i X
  let(O,T,R):=r;cases O with
  |@ot a vs _ f h1 h2=>
   by_cases l:X.length=k
   .rw[Os l]at p
    let nd:=Yj.mp T;let s0:Ŏ (P++(a::f)) F H (P++f):=X9.refl.sub λb m=>by simp only[P1,W7]at m⊢;rcases m with m|m<;>simp[m]
    show(a,vs,rfl,Yr.of h1,ϦF h2.len,F,i,P,X,f,S,(h2,nd.2,λb m=>R b<|Ā m),λb m=>d b<|Ā m,Ŵ (p.Wy s0) λw e g j H' c o t u=>e g j H' c o (s0.trans t) u)
   rw[P3 l]at p;show p.elim
 .rename_i s
  let(O,T,R):=r;cases O with
  |sh q=>
   by_cases l:s.length=k
   .rw[Os l]at p
    cases q with|@tup a vs _ h1 h2=>show(a,vs,rfl,Yr.of<|S.same _ _ h1,ϦF ϶M,F,i,P,ϩV,[],S,(F5.Zv h2,K8w,ϰn),ϰn,p)
   rw[P3 l]at p;show p.elim
 show p.elim
def GN(hi:i<n)(h:Ś (aC i a)):ϧ7 (ê a) (o7 i):=by let d:Ś (UG a<|Rm i):=h;let(F,e,f,S,p):=SA (is:=[i]) d;show(F,e,f,S,p.mono (ϭo (Kc hi<|P v c b X e1 r w)))
set_option tactic.hygienic true in
def Vr(h:Ś (jQ i f)):ϱ8 f D σ H:=by
 let(F,u,P,S,p):=h;delta jQ K0 at p;split at p
 .rename_i x e
  let(v,f,g1,g2,d,k,rfl,l):=ϴ0;let c:ų ϵV:=λa m=>ϵO<|Ļ<|Ŀ m;let o:=l ϴ1 H Ϸm (Ň q) v (ı x.er) [] (.sh<|k.W3 Ϸm (ϴu (Ù (jO m) q)));let s:ϷP ă=σ:=by
   apply Y_;ext j;by_cases J:i=j
   .subst J
    rw[d,K9I (Za.mp d).1]
   rw[K9E J]
  rw[s]at o;let nd:=S.nd;simp only[Ya,P1]at nd;obtain⟨N,⟨y,r,t⟩,g⟩:=nd;let sub:∀a∈ϲ4 [],a∈ϴf/\Ϸo:=λa m=>by
   simp only[K9B,P1]at m⊢;rcases m with m|m
   .exact(Ê m,λz=>g a m a (Ê z) rfl)
   show(Ð<|Ð m,λz=>t a z a m rfl)
  let T:Ŏ ϴf ϴ1 H (ϲ4 []):=⟨Ϸm,ϦC,ϰt (Ê (ϲ9).1),λa h m z=>by
   rw[dt λw=>m<|Ļ<|Ŀ w]
   show z⟩
  apply(ϴ1,_,_,(ϯy,o,?_,ϲz,Ù K8z S.len),Xy.Wy T p)
  .simp only[K9B,Ya]
   show(N,r,λa A b B=>g a A b<|Ð B)
  rw[dt (ϲ9).2];show ϵO (ϲ9).1
 show(F,u,P,S,p)
end
def Walks(K:At)(F:Hp)(J:It)(s:À Gc):Prop:=∀i G H,aB F G->aB G H->
 (∀d,ϱP=ϰH->J.go i H/\∀x H',Ϗy->∃g,Ext G H g H'/\Ĝ g x d)/\(ϩ0->όa H)
def OkI(K:At)(F H:Hp)(R:Ý It Hp)(d:À Gc):Prop:=∀J b H',Α b H'->Walks K b J d->R J H'
def tI(M:Mx)(n:Nat)(f:Fi):TI:=λb H R=>∃F a p,ϰC F H b a p/\ÿ p (OkI M.K F H R) (f a)
section
variable{M:Mx}
def PV(h:ϻ5 (cB a)):ϑF (ê a) σ H R':=by
 let(F,c,f,S,p):=h;apply(F,c,f,S,ħ ϕW);let(G1,d1,k):=ϲA;generalize x.er=d at P k;cases k with
 |@lst a vs ds h1 h2=>
  apply(a,rfl,(vs,ώz),P _ G1 b d1 ώM);let q:=(h1.same ώR).sq;apply(ϯz,λl=>⟨vs,q,ϦF ϶M⟩);let(u,U,L):=B1.get h2 D;apply((vs,u,q,U),ϧl g);let(rfl,y):=y;let X:=y vs q;rw[U]at X;cases X;show(G,Ϯ3,L.same s1)
 |Re=>show P.elim
 |bl _=>show P.elim
 |int _=>show P.elim
 |str _=>show P.elim
 |dct _ _ _=>show P.elim
 |ins _ _ _=>show P.elim
 |tup _ _=>show P.elim
def Tc(h:ϻ5 (iTp a)):Va M.K (ê a) σ H R':=by
 let(F,c,f,S,p):=h;apply(F,c,f,S,ħ ϕW);let(G1,d1,k):=ϲA;generalize x.er=d at P k;cases k with
 |@tup a vs ds h1 h2=>
  apply(a,rfl,(vs,Yr.of<|Ϫu h1),P _ G1 b d1 ώM);let q:Yr M.K H' a vs:=Yr.of<|ώR _ _ h1;apply(ϯz,λl=>⟨vs,q,ϦF ϶M⟩);let(u,U,L):=B1.get h2 D;apply((vs,u,q,U),ϧl g);let(rfl,y):=y;let X:=y vs q;rw[U]at X;cases X;show(G,Ϯ3,L.same s1)
 |Re=>show P.elim
 |bl _=>show P.elim
 |int _=>show P.elim
 |str _=>show P.elim
 |dct _ _ _=>show P.elim
 |ins _ _ _=>show P.elim
 |lst _ _=>show P.elim
def wG(l:Int)(k:Nat):Walks K F (Itr l k) (rj l k):=by
 ext i G H s1 m;delta rj;apply(λd h=>?_,ϔc);rw[T2]at h;let(j,J,rfl):=ϸc;let(a,b):=Za.mp J;let c:i=j:=ϭj
 subst c;apply(ϔG,ϧl H');let(rfl,rfl):=y;show(G,Ϯ3,Á _)
def fU{i:Int}:aG i=true↔ -ϰj<=i/\i<ϰj:=ϫZ ϴE
def Wr(h:ϻ5 (iR1 a)):Of (ϱg<|ae a ai) σ H R':=by
 let(F,e,f,S,p):=h;apply(F,e,f,S,?_);let O:=ϱ0;change ÿ f _ (ã (a e) λx=>R.ok [x]);cases ha:a e with
 |bad=>rw[ha]at O;show O
 |ex c=>rw[ha]at O;show O
 |ok x=>
  rw[ha]at O;ext V i g X e1 r w;let(G1,d1,k):=ϲA;cases k with
  |@cons v _ _ _ k k2=>
   cases k2;let p2:ÿ f ϸO (match x.er with| .int j=>Ï ϤC ϥ0 È|_=>È):=O;generalize x.er=d at p2 k;cases k with
   |int j=>
    by_cases b:ϤC
    .let s:=fU.mp b
     let P:ÿ f ϸO (Ï ϤC ϥ0 È):=p2;rw[Os b]at P;show(j,rfl,s.1,s.2,ώj<|wG _ _)
    let P:ÿ f ϸO (Ï ϤC ϥ0 È):=p2;rw[P3 b]at P;show P.elim
   |Re=>show p2.elim
   |bl _=>show p2.elim
   |str _=>show p2.elim
   |dct _ _ _=>show p2.elim
   |ins _ _ _=>show p2.elim
   |lst _ _=>show p2.elim
   |tup _ _=>show p2.elim
theorem A7{g:Gc->Gc->R (À Gc)}{q:Ý (À V) Hp}(p:ÿ fp ϸO (ã μ λx=>ã Ϸn λy=>ϦK))(k:∀v w d D G h,Α G h->Rep M.K G v d->Rep M.K G w D->ÿ fp ϸO (g d D)->q [v,w] h):
  ÿ fp (OkL M F H q) (Ϗg ρ):=by
 change ÿ fp _ (ã μ λx=>(ã Ϸn λy=>R.ok [y]).bind λs=>R.ok ϻr);let O:=ϱ0;cases ha:a ρ with
 |bad=>rw[ha]at O;show O
 |ex c=>rw[ha]at O;show O
 |ok x=>
  rw[ha]at O;let p2:ÿ fp _ Ϸn:=aq.bind O;change ÿ fp _ ((ã Ϸn λy=>R.ok [y]).bind λs=>R.ok ϻr);cases hb:b ρ with
  |bad=>rw[hb]at p2;show p2
  |ex c=>rw[hb]at p2;show p2
  |ok y=>
   rw[hb]at p2;ext S f h X e1 r W;let(G1,d1,K):=r.W3 e1 W;cases K with
   |@cons v _ _ _ K k2=>
    cases k2 with|@cons w _ _ _ k2 k3=>cases k3;show k v w x.er y.er G1 h d1 K k2 p2
def r2F(x y:Gc):R (À Gc):=match x,y with
 |.int i,.int j=>Ï (þ Ϥe) (ò (rj i (ē (j-i)))) È
 |_,_=>È
set_option tactic.hygienic true in
def V3(h:ϻ5 (iR2 a b)):Nc (ϱg Ϗg) σ H R':=by
 let(F,k,P,S,p):=h;apply(F,k,P,S,A7 (g:=r2F) (by delta iR2 at p;show p) λv w x D G f e r R q=>?_);delta r2F at q;split at q
 .rename_i i j
  cases r;cases R;by_cases s:þ Ϥe
  .rw[Os s]at q
   rw[Yt]at s;let c:=fU.mp s.1;let d:=fU.mp s.2;show(i,j,rfl,(c.1,c.2,d.1,d.2),q _ G f e<|wG _ _)
  rw[P3 s]at q;show q.elim
 show q.elim
def ym{s:À Gc}{i:Nat}{d:Gc}(h:Ķ (eA s)=ϰH):∃e,ϱP=Ϲl/\d=ï [Á i,e]:=by delta eA at h;rw[T2]at h;let(p,H,rfl):=ϸc;rw[K8Q]at H;let(e,he,rfl):=Zb.mp H;show(e,he,Û)
def Ou(h:ϻ5 (iEn a)):Ni M.K (ϱg<|ae a ai) σ H R':=by
 let(F,b,f,S,p):=h;apply(F,b,f,S,?_);let O:=ϱ0;change ÿ f _ (ś λx=>R.ok [x]);cases ha:a b with
 |bad=>rw[ha]at O;show O
 |ex c=>rw[ha]at O;show O
 |ok x=>
  rw[ha]at O;ext s o g B e1 r w;let(G1,d1,k):=ϲA;cases k with
  |@cons v _ _ _ k k2=>
   cases k2;let p2:ÿ f ϸO (match x.er with| .list ds=>ò (eA ds)|_=>È):=O;generalize x.er=d at p2 k;cases k with
   |@lst a s ds h1 h2=>
    let P:ϸO (eA ds):=p2;apply(a,rfl,(s,ώz),ώj ώM);let q:=(h1.same ώR).sq;apply(ϯz,λl=>⟨s,q,by rw[϶M];delta eA at l;simpa using l⟩);let(e,he,rfl):=ym D;let(u,U,L):=B1.get h2 he;apply((s,u,q,U),λx A y=>?_);let(T,z,t,rfl,rfl,Z):=y;let X:=Z s q;rw[U]at X;cases X;show(ϑN _,Ext.allocF m t,Ī aP<|ð (Á _)<|ð ((L.same s1).same<|(aB.refl G).upd<|m.free t) í)
   |int j=>show p2.elim
   |Re=>show p2.elim
   |bl _=>show p2.elim
   |str _=>show p2.elim
   |dct _ _ _=>show p2.elim
   |ins _ _ _=>show p2.elim
   |tup _ _=>show p2.elim
def KP(x y:Gc):R (À Gc):=match x,y with
 |.list ds,.list es=>.ok ϯf
 |_,_=>È
set_option tactic.hygienic true in
def kP{s e:À Gc}{i:Nat}{d:Gc}(h:Ķ (lG s e)=ϰH):∃x y,ϱP=Đ/\e[i]?=γ/\d=ï [x,y]:=by delta lG at h;rw[T2]at h;let(p,H,rfl):=ϸc;rw[List.getElem?_zip_eq_some]at H;show(p.1,p.2,H.1,H.2,rfl)
set_option tactic.hygienic true in
def TH{it:Fi}(h:Ś (fX it g b)):SU (tI M n it) (ϩ2 g) (ϱ8 b) D σ H:=by
 let(F,U,Q,S,p):=h;apply(F,U,Q,S,ħ λs Y J G H1 e1 wk=>?_);apply(λi m z H'=>ϏU s.length (∃k j f,ϰC k H' z j f/\aB G k/\aq M H' f (ϧu k H' f D) (ϲE ϯl j)),(s.length,Û,ϴw,G,U,Q,ϲ5,ţ,ϹM e1.Wy Y),?_);ext i m z H' ⟨rfl,hi,k,j,f,S',s',p'⟩;let(w1,w2):=wk i k H' s' S'.same;by_cases L:ϑ4
 .obtain⟨d,R⟩:∃d,ϱP=ϰH:=⟨s[i],ϦO⟩
  let(g1,g2):=w1 d R;let e:ϯl=d::Ϧx:=by
   rw[K8M L];congr 1;let:=(Za.mp R).2;show this
  rw[e]at p';apply Ð ⟨g1,λE t=>∃I c u,ϰC I t E c u/\aB G I/\aq M t u (ϧu I t u D) (ϲE Ϧx c),λE t q=>⟨s.length-(i+1),Ã,rfl,L,q⟩,λx t y=>?_⟩
  let(G2,O,Z):=g2 x t y;let p2:aq M H' f _ (ã (g Ē j) λw=>ã (b w) λo=>match o with
   |.nx c=>ϲE Ϧx c
   |.ct c=>ϲE Ϧx c
   |.bk c=>.ok<|.nx c
   |.rt x=>ϴU):=p'
  let T:X9 k H' f G2 t (f++[]):=Ù Xf O.Wy
  apply(G2,j,f,Ē,[],S'.ext O,Res.sh Z,ϰn,Ŵ ((ϰZ p2).Wy T) λw X σ3 V H3 N W s3 _=>?_);let s4:=T.trans s3;apply(V,w,N,W,Ŵ ((ϰZ X).Wy s4) Ϧ0);cases o with|nx c=>show Ϧs ⟨l,c,P,B,è (s'.trans s4.ff) K.ff,ϹM Ϯe po⟩|ct c=>show Ϧs ⟨l,c,P,B,è (s'.trans s4.ff) K.ff,ϹM Ϯe po⟩|bk c=>show Ϧs (ϔr Ϯe)|rt x=>exactλv l C fx a r K=>ϓA Ϯe
 let e:i=s.length:=Ã
 subst e;apply Ê ⟨w2 õ,?_⟩;rw[List.drop_length]at p';show p' z k H' f S' X9.refl
set_option tactic.hygienic true in
def Lr(h:Ś (cP t b)):Hi (ϳI t) (ϱ8 b) D σ H:=by
 let(F,G,E,S,p):=h;delta cP at p;split at p
 .rename_i N
  apply(λm g H'=>∃j e f,ϰC j H' g e f/\aq M H' f (ϧu j H' f D) (ϴt m e),(_,F,G,E,S,p),?_);ext m g H' ⟨j,e,f,S',p'⟩;cases m with
  |zero=>show p'.elim
  |succ m=>
   let p2:aq M H' f _ (ã (t e) λc=>if ϰ1 then ã (b e) λo=>match o with
    |.nx d=>ϴt m d
    |.ct d=>ϴt m d
    |.bk d=>.ok<|.nx d
    |.rt x=>ϴU else ò (.nx e)):=p'
   apply(j,e,f,S',Ŵ (ϰZ p2) λc s w z e1=>?_);cases c with
   |true=>
    rw[Č]at s⊢;apply(λi k=>∃y d u,ϰC y k i d u/\aq M k u (ϧu y k u D) (ϴt m d),λi k q=>⟨m,ϧZ,q⟩,w,e,f,S'.ext e1,Ŵ ((aq.bind s).ext e1) Ϧ0);cases o with|nx d=>show Ϧs ⟨l,d,P,B,ϹM ϭC po⟩|ct d=>show Ϧs ⟨l,d,P,B,ϹM ϭC po⟩|bk d=>show Ϧs (ϔr ϭC)|rt x=>exactλv l C fx a r K=>ϓA ϭC
   |false=>rw[ϰ6]at s⊢;show s g w z f (S'.ext e1) e1.Wy
 show p.elim
end
section
variable{M:Mx}{F H F1 H1:Hp}{ρ:Env}{fp:À Ix}{D:Ends}
theorem Sc.nones:∀(k:Nat){b:St}{a:Env}{g:À Ix},ϰB b a g->ϰB (ϲs none++b) (ϲs none++a) g|0,_,_,_,h=>h|k+1,_,_,_,h=>ϳH K99 K99 (.no<|Sc.nones k h)
def Sc.one(S:ϰB σ ρ fp)(i:Nat):∃f,(ų Ϩc)/\(fp.Nodup->f.Nodup)/\∀{c:St}{b:Env}{g:À Ix},ϰB c b g->ϰB ((ϲG).join::c) ((Ŋ).join::b) ϧX:=by
 cases e:ρ[i]? with
 |none=>show([],ϰn,ϰ9 K8w,λh=>.no h)
 |some o=>
  cases o with
  |none=>show([],ϰn,ϰ9 K8w,λh=>.no h)
  |some x=>
   let(v,f,g1,g2,d,j,rfl,k):=S.at e;apply(f,ϰt (Ļ<|Ŀ m),λnd=>?_,϶i ?_)
   .simp only[Ya]at nd
    show nd.2.1.1
   rw[d];show .yes j h
def shE(a:Env):Env:=a.map λo=>match o with
 |some (.sh d)=>Â Ē
 |_=>none
set_option tactic.hygienic true in
def Sc.shE(S:ϰB σ ρ g):ϰB σ (L3.shE ρ) []:=by
 induction S with
 |nil=>show í
 |no r ih=>show ϻo
 |yes h r ih=>
  cases h with|sh h=>show ϓW ih|ol _ _=>show ϻo|ot _ _=>show ϻo|od _ _ _=>show ϻo|oi _ _ _=>show ϻo|pl _ _=>show ϻo
set_option tactic.hygienic true in
theorem Sc.pick3:∀(is:Ò){c:St}{b:Env},ϰB c b []->ϰB (Ϗ5<|c[i]?) (Ϗ5 ϵq) []
 |[],_,_,_=>í
 |i::is,_,_,S=>by
  let(f,h,_,d):=S.one i;let e:f=[]:=by
   cases f with|nil=>rfl|cons a f=>show Ć (h a P0) Û
  subst e;show d<|Sc.pick3 is S
set_option tactic.hygienic true in
theorem Av:∀(k:Nat){d c:St},c.length=k+d.length->(∀j,k<=j->c[j]?=(ϲs none++d)[j]?)->kU (ϲs none++d) c
 |0,d,c,hl,h=>by
  let e:c=d:=Y_ λj=>ť (h j ϴw)
  subst e;change kU c c
  clear h hl
  induction c with
  |nil=>trivial
  |cons x r ih=>
   cases x with|none=>show ih|some v=>show(rfl,ih)
 |k+1,d,[],hl,h=>ϗ7
 |k+1,d,x::c,hl,h=>by
  rw[K99];apply Av k ϗ7 Ϲb;let:=h (j+1) Ã;simpa[K99]using this
def LY(a:Env):∀(is:Ò),(Ϗ5<|Ķ<|shE a)=is.map λi=>zQ ϰ5:=by
 ext y
 induction y with
 |nil=>show rfl
 |cons i is Y2=>
  rw[L4,L4,Y2];congr 1;delta shE;rw[T2];cases a[i]? with
  |none=>rfl
  |some o=>
   cases o with|none=>rfl|some x=>cases x<;>rfl
def X7.block(S:ϴI K)(k:Nat)(outs:À ϴi):X7 K ϭw F H (slots k outs σ) (sl3 k (ϴo ģ) ρ) []:=by
 apply(S.same,?_,K8w,ϰn,ϩC sl3);let h:=Sc.nones k (Sc.pick3 (ϴo ģ) S.own.shE);rw[LY,W5]at h;show h
def zh(p:ÿ fp PP (ã (ã (ER r) g) k)):∃a,r=.ok a/\ÿ fp PP (ã (g a) k):=by
 cases r with|ok a=>show(a,rfl,p)|ex c=>show p.elim|bad=>show p.elim
def CompI(M:Mx)(F H:Hp)(p:À Ix)(Q:VK)(g:Fg)(t:Ft)(el:Fe)(d:Env)(e h:Hp)(D:Ix)(S:À Gc)(c:À V)(H':Hp):Prop:=
 ∃b s f,H' D=Â (ä c)/\b D=none/\Ext e h b H'/\Y7 M.K b H' c s f/\(ų<|h a=none/\a≠D)/\ÿ p Θ (ã (ϤD d S s) λs=>.ok ϳf)
theorem Gh{it:Fi}(hk:∀j∈is,j<k)(h:ê (aV it g t el k (ϴo ģ)) σ H Q):
  C5 (tI M n it) (tG M ϭw is g) (tT M ϭw t) (tD M ϭw el) k outs σ H Q:=by
 let(F,ρ,T,S,p):=h;apply(F,ρ,T,S,ħ λs pd J B H1 e1 wk D G=>?_);let SB:=(ϲ5).block k outs;generalize sl3 k (ϴo ģ) ρ=ρ0 at SB pd;let fD:B D=none:=e1.fh.free G;apply(λi m c H'=>ϏU s.length (ϔd ϯl c H'),(s.length,Û,ϴw,B,[],[],aP,fD,όG e1.fh G,Y7.nil,ϰn,pd),?_);ext i m c H' ⟨rfl,hi,F',xs,fx,hacc,fD',e',rx,wx,p'⟩;let S':=SB.ext e';let(w1,w2):=wk i F' H' e'.ff e'.fh;by_cases L:ϑ4
 .obtain⟨d,hd⟩:∃d,ϱP=ϰH:=⟨s[i],ϦO⟩
  let(g1,g2):=w1 d hd;let e:ϯl=d::Ϧx:=by
   rw[K8M L];congr 1;show(Za.mp hd).2
  rw[e]at p';let(w,u,p3):=zh p';let(b,hb,P):=zh p3;apply Ð ⟨g1,λA l=>ϔd Ϧx A l,λA l q=>⟨s.length-(i+1),Ã,rfl,L,q⟩,λx l y=>?_⟩;let(G2,e2,Z):=g2 x l y;apply(G2,ρ0,[],Ē,[],S'.ext e2,Res.sh Z,ϰn,?_);rw[u];ext σ3 F3 H3 N W s3 t3;let e3:Ext G2 l F3 H3:=⟨s3.ff,ϥo (s3.keep a o q Û),W.same,λa q z=>s3.nw a q Û z⟩
  apply(Av k (by rw[W.own.len,W.len];simp) λj hj=>t3 j λz=>Œ (hk j z),F3,w,N,W,?_);rw[hb];ext K H4 e4;let E:Ext F' H' K H4:=è (e2.trans e3) e4;cases b with
  |true=>
   rw[Č]at P⊢;let(y,hy,I):=zh P;apply(K,w,N,W.ext e4,?_);rw[hy];ext v C O Y e5 X w5;by_cases V:ϻ8
   .rw[Os V]at I
    let f:=E.trans e5;let U:O D=Â (ä c):=ϑE hacc;let r:C D=none:=f.nw D (bw hacc) fD';let yD:∀a∈Y,a≠D:=ϰt (by ext rfl;let:=ϳD hacc;rw[w5 _ m]at this;cases this)
    let R:=rx.ext f;apply(U,Ù rx.own.len (uL V),C,ϪV,fx++Y,aP,r,(e'.ff.trans f.ff,ϥo ?_,ϥo ?_,λa q z=>ϚF<|e'.nw a q z),(?_,?_,?_),?_,I)
    .rw[ay<|ϳR G]
     show ϑE<|e'.hh _ _ q
    .rw[ay<|ϳR r]
     show e5.fh _ _ q
    .let q1:Ϸg C (ϗa<|ä<|c++[v]) c xs fx:=R.own.mono ţ (ϴu (Ù (ay (wx a m).2) q))
     let q2:Own M.K C (ϗa<|ä<|c++[v]) v y Y:=X.own.mono ţ (ϴu (Ù (ay<|yD a m) q))
     let q3:=F5.app q1<|F5.cons q2 í;rw[Xf]at q3;show q3
    .apply ϹE ⟨rx.nd,X.nd,λa m b m' z=>?_⟩
     subst z;let(o,q):=rx.own.Xm a m;let:=ϳD q;rw[w5 a m']at this;cases this
    .intro a m
     rcases P1.mp m with m|m
     .exact R.fr a m
     show X.fr a m
    ext a m;rcases P1.mp m with m|m
    .exact wx a m
    show((e'.trans E).hh.free<|w5 a m,yD a m)
   rw[P3 V]at I;show I.elim
  |false=>rw[ϰ6]at P⊢;show(K,xs,fx,ϳD hacc,E.nw D (bw hacc) fD',e'.trans E,rx.ext E,wx,P)
 let e:i=s.length:=Ã
 subst e;rw[List.drop_length]at p';let q:Θ ϲD:=p';apply Ê ⟨w2 õ,q (Ä D) F' H' (D::fx) (e1.trans e') ⟨.ol hacc rx.own,ϤI (λm=>(wx D m).2 rfl) rx.nd,ϲz⟩ ϲz⟩
 .rcases W7.mp m with rfl|m
  .exact fD'
  show rx.fr a m
 rcases W7.mp m with rfl|m
 .exact ϪM G
 show ϪM (wx a m).1
def Ic(o:ŧ vs xs f)(e:ā xs.all ϶s):Ϸz G H1 vs (xs.map Ϧv) []:=by
 induction xs generalizing vs f with
 |nil=>cases o;show í
 |cons x r0 ih=>
 cases o with
 |cons h r=>
  rw[K7t,Yt]at e;rw[L4];apply ð (f:=[]) (g:=[]) (ı ?_)<|ih r e.2;cases h with
  |sh q=>rw[aS]at e⊢;show xc e.1 q
  |ol _ _=>rw[eP]at e;show Ć (ω Ϫl e.1) Xd
  |ot _ _=>rw[J4]at e;show Ć (ω Ϫl e.1) Xd
  |od _ _ _=>rw[Ax]at e;show Ć e.1 (by simp[flat,dD])
  |oi _ _ _=>rw[tU]at e;show Ć e.1 (by simp[flat,qK])
  |pl _ _=>rw[N6]at e;show Ć (ω Ϫl e.1) Xd
def Cw(h:ê (oq fa) σ H Q):ê fa σ H Q:=by
 let(F,i,g,S,p):=h;apply(H,erase i,[],S.erase,ϤO ϱ0 λx X v j e k e1 r w=>?_);cases x with
 |sh d=>show X.elim
 |ot xs=>show X.elim
 |od xs=>show X.elim
 |oi _ _ _=>show X.elim
 |pl _ _=>show X.elim
 |ol xs=>
  let P:ÿ g Θ (Ï (ā xs.all ϶s) (ĥ xs.map Ϧv) È):=X;by_cases c:ā xs.all ϶s
  .rw[Os c]at P
   let(O,T,R):=r;cases O with
   |@ol a vs _ f h1 h2=>
    let na:ϳE:=w a P0;apply P (Ä a) F e [a] ⟨ţ,e1.hh,ϦG e1.hh,ϴZ⟩ ⟨.ol h1<|Ic h2 c,Û,϶N⟩ ϶N
    .let:b=a:=ϳq
     rw[this];show S.same.free na
    let:b=a:=ϳq
    rw[this];show na
  rw[P3 c]at P;show P.elim
end
section
variable{M:Mx}{F H F1 H1:Hp}{σ:St}{ρ:Env}{K:At}
def rD{p f q F:À Ix}(h:ϰs (p++(f++q)))(H:F.Nodup)(s:∀c∈F,c∈f\/c∉p++(f++q)):(ϰs (p++(F++q))):=by
 simp only[Ya,P1]at h s⊢;obtain⟨N,⟨n,i,j⟩,g⟩:=h;apply(N,(H,i,Ϥi ?_),Ϥi ?_)
 .subst e
  rcases s a A with z|z
  .exact j a z a B rfl
  show z<|Ð<|Ð B
 subst e;rcases B with B|B
 .rcases s a B with z|z
  .exact g a A a (Ê z) rfl
  show z<|Ê A
 show g a A a (Ð B) rfl
theorem F5.at:∀{S:À V}{j:À OD}{g:À Ix}{i:Nat}{x:OD},ŧ S j g->j[i]?=Đ->
  ∃v f g1 g2,S[i]?=ă/\ϱX x f/\g=ϴf/\∀(b H':Hp),aB F b->(ϯo<|∀o,H a=Ø->϶h=Ø)->∀d X c,ϲJ b H' d X c->Ϸz b H' (S.set i d) (j.set i X) ϏD
 |_,_,_,_,_,.nil,e=>ϦA
 |_,_,_,0,x,.cons (f:=f) (g:=g) h r,e=>Ϭj (_,f,[],g,rfl,h,rfl,λb H' s k d X c o=>ϚG<|r.mono s k)
 |_,_,_,i+1,x,.cons (f:=f0) h r,e=>by
  let(v,f,g1,g2,l,n,p,q):=F5.at (i:=i) r ϳ8;apply(v,f,f0++g1,g2,Ϻc,n,by rw[p,K9M],λb H' s k d X c o=>?_);rw[K9M];show ð (ϐ7<|(ϱL (Ŀ<|Ŀ m)))<|q b H' s (ϱL ϻJ) d X c o
def tN(h:ϲG=Â ă):ϷP ă=σ:=by
 apply Y_;ext j;by_cases J:i=j
 .subst J
  rw[h,K9I ϷW]
 rw[K9E J]
def Put(K:At)(F H:Hp)(u:V)(f:À Ix)(b H':Hp)(y:OD)(c:À Ix):Prop:=ϲJ b H' u y c/\c.Nodup/\(∀a∈c,b a=none)/\Ŏ f b H' c
def yX{kd:À V->HO}{mk:À OD->OD}{S:À OD}(B:H b=Â (kd ws))(W:ŧ ws S g)(nd:ϰs (b::g))(fr:∀a∈b::g,ϵV)(A:S[k]?=γ)(M:∀d H' v x g',H' b=Â (kd v)->Ϸz d H' v x g'->ϲJ d H' (Ä b) (mk x) (b::g')):
  ∃u J,ws[k]?=ě/\Ϲa u y J/\b∉J/\∀d H' Y f,ϧh u J d H' Y f->∃r,ϧh (Ä b) (b::g) d H' (mk<|S.set k Y) r:=by
 let(u,J,e,h,b1,b2,rfl,b4):=W.at A;let N:=nd;rw[Yj]at nd;let D:(ϰs ((b::e)++(J++h))):=by simpa using N
 let n:=nd.2;simp only[Ya,P1]at n;obtain⟨O,⟨E,P,G⟩,I⟩:=n;let bn:b∉J:=λz=>nd.1 (Ű z);apply(u,J,b1,(b2,E,ϰt (fr a ϲq)),bn,λd H' Y f zz=>?_);let(o,L,t,T):=zz;let out:∀a∈e++h,a∉J:=λa m z=>by
  rcases P1.mp m with m|m
  .exact I a m a (Ê z) rfl
  show G a z a m rfl
 let own:=b4 d H' T.ff (ϴu<|Ϻk<|ϧC m) u Y f o;let s:ws.set k u=ws:=by
  apply Y_;ext j;by_cases p:k=j
  .subst p
   rw[b1,K9I (ϵe b1)]
  rw[K9E p]
 rw[s]at own;let C:∀c∈f,c∈J\/c∉(b::e)++(J++h):=λc m=>by
  rcases T.new c m with z|z
  .exact Ê z
  apply Ð λw=>?_;let l:c=b\/c∈e++(J++h):=by simpa using w
  rcases l with rfl|l
  .rw[z]at B;cases B
  let(o,q):=W.Xm c l;rw[z]at q;cases q
 apply(b::(e++(f++h)),M _ _ _ _ _ (T.keep b _ B bn) own,Ϗm (rD D L C),ϲz,(T.ff,λa o q m=>Ϻk (λz=>m (Ű z)),ϲz,ϓw))
 .let go:(a=b\/a∈e++h)->d a=none:=λm=>by
   rcases m with rfl|m
   .exact ϥl (bw B) bn (fr a Û)
   let(o,q):=W.Xm a ϻJ;show ϥl ϻn (ϧC m) (fr a ϻJ)
  let i:ϕX:=ϳq
  rcases i with m|m|m|m
  .exact go<|Ê m
  .exact go (Ð ϲq)
  .exact t a m
  show go (Ð ϲq)
 let i:ϕX:=ϳq
 rcases i with m|m|m|m
 .exact Ê ϲq
 .exact Ê ϲq
 .rcases T.new a m with z|z
  .exact Ê (Ű z)
  show Ð z
 show Ê ϲq
def X7.swap(S:ϴI K)(k:Ŋ=Â Đ):
  ∃v f,ϲG=Â ă/\Ϲa v x f/\(ų Ϩc)/\
   ∀b H' X d,aB b H'->ϲJ b H' v X d->d.Nodup->(∀a∈d,b a=none)->Ŏ f b H' d->∃p,ϸk b H' σ (ł<|Â X) p/\Ŏ fp b H' p/\∀a∈p,(Ϩc/\Ϸo)\/a∈d:=by
 let(v,f,g1,g2,h,g,rfl,j):=S.own.at k;let nd:=S.nd;let N:=nd;simp only[Ya,P1]at N;obtain⟨y,⟨l,A,r⟩,t⟩:=N;apply(v,f,h,(g,l,ϰt (ϵO ϲq)),ϰt ϲq,λb H' X d M o u e T=>?_);let out:ϯo Ϸo:=λa m z=>by
  rcases P1.mp m with m|m
  .exact t a m a (Ê z) rfl
  show r a z a m rfl
 let s:∀c∈d,c∈f\/c∉ϴf:=λc m=>by
  rcases T.new c m with z|z
  .exact Ê z
  apply Ð λw=>?_;let(o,q):=S.own.Xm c w;rw[z]at q;cases q
 let own:=j b H' T.ff (ϴu<|Ϻk<|ϧC m) v X d o;rw[tN h]at own;apply(g1++(d++g2),(M,own,rD nd u s,ϲz,Ù K8z S.len),(T.ff,λa o q m=>Ϻk (λz=>m (Ű z)),ϲz,ϓw),ϲz)
 .simp only[P1]at m
  let go:a∈g1++g2->b a=none:=λm=>by
   let(o,q):=ϑ3 ϻJ;show ϥl ϻn (ϧC m) (ϵO ϻJ)
  rcases m with m|m|m
  .exact go ϲq
  .exact e a m
  show go ϲq
 .simp only[P1]at m⊢
  rcases m with m|m|m
  .exact Ê<|Ê m
  .rcases T.new a m with z|z
   .exact Ê<|Ð<|Ê z
   show Ð z
  show Ê<|Ð<|Ð m
 simp only[P1]at m⊢;rcases m with m|m|m
 .exact Ê ⟨Ê m,ϧC ϲq⟩
 .exact Ð m
 show Ê ⟨Ð<|Ð m,ϧC ϲq⟩
def yS(B:H b=Â (ä ws))(nd:b∉f)(fb:F b=none)(e:Α F1 H1)(o:Ϸz F1 H1 ws' ys' f')(n:f'.Nodup)(sub:∀c∈f',c∈f\/H c=none)(a:∀c∈f',F1 c=none):
  aB F1 (ϕ8<|ä ws')/\ϧh (Ä b) (b::f) F1 (ϕ8<|ä ws') (.ol ys') (b::f'):=by
 let nb:∀c∈f',c≠b:=λc m z=>by
  subst z;rcases sub c m with z|z
  .exact nd z
  rw[B]at z;cases z
 let j:F1 b=none:=e.nw b (bw B) fb;apply(Ϸv (Ù (ay<|ϳR j) (e.fh _ _ q)),ϧp (o.mono ţ λc m o q=>Ù (ay<|nb c m) q),Yj.mpr ⟨λm=>nb b m rfl,n⟩,ϪE,(e.ff,λc o q m=>?_,ϪE,λc q _ z=>e.nw c q z))
 .rcases W7.mp m with m|m
  .rw[m]
   show j
  show a c m
 .rw[ay λz=>m<|Ù z P0]
  show Ϯ4
 rcases W7.mp m with m|m
 .exact Ê (by rw[m];show P0)
 show(sub c m).imp Ā id
theorem X7.write(S:ϴI K)(X:Ŋ=Â (Â ϲD)):
  ∃a V f,ϲG=Â (Â<|Ä a)/\H a=Â (ä V)/\ŧ V xs f/\f.Nodup/\(Ϸl<|F b=none)/\
   ∀c h s x d,Α c h->Ϸz c h s x d->d.Nodup->(∀b∈d,ϻD\/ϰY)->(∀b∈d,c b=none)->
    ∃p,ϸk c (Ϧd<|ä s) σ (ł<|Â<|.ol x) p/\Ŏ fp c (Ϧd<|ä s) p/\(∀b∈p,b∈fp\/b∈d):=by
 let(v,q,k,r,I,wr):=S.swap X;let nd:=r.nd;let fr:=r.fr;let R:=r.own;cases R with
 |@ol a V _ f ha hv=>
  rw[Yj]at nd;apply(a,V,f,k,ha,hv,nd.2,λb m=>fr b<|Ā m,λc h s x d e o N sub j=>?_);let(M,O,p2,P,l):=yS ha nd.1 (fr a P0) e o N sub j;let(p,g,T,im):=wr c _ _ _ M O p2 P l;apply(p,g,T,϶N);rcases im b m with z|z
  .exact Ê z.1
  rcases W7.mp z with z|z
  .exact Ê (I b<|Ù z P0)
  show Ð z
def F5.snoc(h:ŧ vs xs f)(o:ϱX y g):ŧ (vs++[v]) ϪV ϧX:=ϴF (F5.app h<|F5.cons o í) Xf
set_option tactic.hygienic true in
def SE(h:Ś (oN i a)):ϹZ sD ϰg (ê a) qL:=by
 let(F,E,A,S,p):=h;delta oN at p;split at p
 .rename_i x e
  let(l,s,f,B,k,d,N,u,wr):=S.write e;apply(_,B,Ê ⟨rfl,s,Xa.of k⟩,F,E,A,S,ħ λy py v g j Y e1 r w=>?_);by_cases L:x.length<I6
  .rw[Os L]at py
   apply(l,s,v,rfl,rfl,ϧe k,Ù d.len (uL L),?_);let o:Ϸg g j ϧA (x++[y]) (f++Y):=(d.mono e1.ff λb _ o q=>ϧe q).snoc r.own;let(P,t,T,_):=wr g j _ _ _ e1 o (ϹE ⟨N,r.nd,λb m c C z=>Ϭd (d.Xm b m) (w b C)⟩) (λb m=>϶m Ê (λm=>Ð<|w b m)) λb m=>϶m (λm=>let⟨_,q⟩:=d.Xm b m;e1.nw b ϻn (u b m))<|r.fr b;show py σ g _ P t T
  rw[P3 L]at py;show py.elim
 show p.elim
def F5.last(o:ŧ vs xs f)(e:xs.getLast?=Â Ē):∃v,vs[vs.length-1]?=ă/\Ĝ F v d/\ŧ vs.dropLast xs.dropLast f:=by
 induction xs generalizing vs f with|nil=>simp at e|cons a0 r0 ih0=>
 cases o with
 |cons h r=>
  let i:=ih0 r;cases r with
  |nil=>
   cases h with
   |sh h=>
    simp at e;subst e;show(_,rfl,h,í)
   |ol _ _=>simp at e
   |ot _ _=>simp at e
   |od _ _ _=>simp at e
   |oi _ _ _=>simp at e
   |pl _ _=>simp at e
  |cons h' r=>
   let(v,a,b,c):=i ϳ8;show(v,ϩd,b,ð h c)
set_option tactic.hygienic true in
def s_pop(h:Ś (IH i g)):ϧ7 (ϓk ϰg) (ϩ2 g):=by
 let(F,E,w,S,p):=h;delta IH at p;split at p
 .rename_i X e
  split at p
  .rename_i d z
   let(l,s,f,x,j,y,N,r,wr):=S.write e;let(v,v1,V,B):=y.last z;let(P,o,T,_):=wr F H _ _ f ϥ7 B N (λb m=>Ê m) r;let t:Ŏ w F (Ę l<|ä s.dropLast) (P++[]):=by rw[Xf];show T
   show(_,x,Ê ⟨rfl,s,Xa.of j⟩,l,s,v,rfl,rfl,j,v1,F,_,P,Ē,[],o,Res.sh V,ϰn,Ŵ ((ϱ0).Wy t) λC a c k H' u q A _=>a c k H' u q<|t.trans A)
  show p.elim
 show p.elim
def Q1{q:Int}(h:Xx k q=ϰR):j<k:=by
 delta Xx at h;split at h
 .split at h
  .cases h
   lia
  cases h
 split at h
 .cases h
  lia
 cases h
set_option tactic.hygienic true in
def UL(h:Ś (Ak i k a)):ϧ7 (ê a) (QN ϰg (ê k) Ke):=by
 let(F,t,g,S,p):=h;delta Ak at p;split at p
 .rename_i s e
  apply(F,t,g,S,ħ λy py v C H1 Y e1 R W=>?_);let(l,V,f,N,O,d,Q,B,wr):=S.write e;apply(_,N,C,t,g,ϲ5,ϳ7 py e1 λz pz u F2 A fz I T Z=>?_);let(G2,d2,K):=T.W3 I Z;generalize z.er=dz at pz K;cases dz with
  |int q=>
   cases K;let P:ÿ g (ϴP g D) (match Ϥh q with|some j=>ü (ϭF<|Ď<|Ϥt y)|none=>È):=pz;cases hj:Xx s.length q with
   |none=>rw[hj]at P;show P.elim
   |some j=>
    rw[hj]at P;let E:=e1.trans d2;let J:=Q1 hj;apply(l,V,q,j,rfl,rfl,ϳD O,Ù d.len hj,?_);obtain⟨x,X⟩:∃x,ϥE=Đ:=⟨s[j],ϑK⟩
    let(v0,L,g1,g2,b1,b2,b3,b4):=d.at X;subst b3;let o:=b4 G2 A E.ff (λb m o q=>ϳD q) v y Y (R.ext d2).own;let sub:∀b∈g1++(Y++g2),b∈g1++(L++g2)\/ϰY:=λb m=>by
     simp only[P1]at m⊢;rcases m with m|m|m
     .exact Ê<|Ê m
     .exact Ð<|W b m
     show Ê<|Ð<|Ð m
    let(r,G,U,_):=wr G2 A _ _ _ E o (rD Q R.nd λc m=>Ð λw=>by
     let(o,q):=d.Xm c w;rw[W c m]at q;cases q) sub (λb m=>by
      simp only[P1]at m;rcases m with m|m|m
      .exact let⟨_,q⟩:=d.Xm b ϲq;E.nw b ϻn (B b ϲq)
      .exact(R.ext d2).fr b m
      show let⟨_,q⟩:=d.Xm b ϲq;E.nw b ϻn (B b ϲq))
    show ϯA r G U
  |none=>show pz.elim
  |bool _=>show pz.elim
  |str _=>show pz.elim
  |list _=>show pz.elim
  |tuple _=>show pz.elim
  |dict _=>show pz.elim
 show p.elim
set_option tactic.hygienic true in
def Uo(hi:i<n)(hg:ϰT ti g)(h:Ś (Ja i g a)):Sh i (ê a) ti D σ H:=by
 let(F,G,c,S,p):=h;delta Ja at p;split at p
 .rename_i d e
  let(v,f,g1,g2,x,A,J,L):=ϴ0;cases A with
  |sh r=>
   apply(v,x,F,G,c,S,ħ λy py w I k Y e1 R C=>?_);let(G1,d1,K):=ϸb C;apply ϙr<|Ŵ (aq.ext d1<|ϰZ py) λz pz u j l Z t B W=>?_;let E:=d1.trans t;let(P,s,sub):=ϋ ϫh hi B λb m q=>by let(o,z):=S.own.Xm b q;rw[d1.hh.free<|W b m]at z;cases z
   show pz _ j l P s ⟨E.ff,λb o q _=>ϳD q,λb m=>(sub b m).elim Ê λm=>Ð<|d1.hh.free<|W b m,λb q _ z=>E.nw b q z⟩
 show p.elim
theorem X7.write2(S:ϴI K)(X:Ŋ=Â Ø)(hc:comps o=Â (l,xs))(J:Ϩb=Â ϵT):
  ∃a d b ws f,ϲG=Â (Â<|Ä a)/\H a=Â (Ï (l=true) (ä d)<|Ī d)/\ϭd/\d[j]?=Â (Ä b)/\H b=Â (ä ws)/\ŧ ws ys f/\f.Nodup/\(∀c∈f,F c=none)/\
   ∀h k w y t,Α h k->Ϸz h k w y t->t.Nodup->(∀c∈t,c∈f\/H c=none)->(∀c∈t,h c=none)->
    ∃p,ϸk h (ϗb<|ä w) σ (ł<|some<|wrap l<|ϷS<|.ol y) p/\Ŏ fp h (ϗb<|ä w) p:=by
 let(v,D,G,r,P,wr):=S.swap X;let nd:=r.nd;let fr:=r.fr;let I:=r.own;obtain⟨a,d,g,A,V,rfl,rfl,mk⟩:∃a d g,H a=Â (Ï (l=true) (ä d)<|Ī d)/\ŧ d xs g/\v=Ä a/\D=a::g/\∀z H' s x g',϶h=Â (Ï (l=true) (ä s)<|Ī s)->Ϸz z H' s x g'->ϲJ z H' (Ä a) (wrap l x) (a::g'):=by
  cases I with
  |sh r=>cases hc
  |od _ _ _=>cases hc
  |oi _ _ _=>cases hc
  |pl _ _=>cases hc
  |@ol a d _ g A V=>cases hc;show(a,d,g,A,V,rfl,rfl,ϖd ol)
  |@ot a d _ g A V=>cases hc;show(a,d,g,A,V,rfl,rfl,ϖd ot)
 let(u,Z,b1,B,bn,up):=yX (kd:=λd=>Ï (l=true) (ä d) (Ī d)) (mk:=wrap l) A V nd fr J mk;let N:=B.nd;let R:=B.fr;let O:=B.own;cases O with
 |@ol b ws _ f hb hw=>
  rw[Yj]at N;apply(a,d,b,ws,f,G,A,V.len,b1,hb,hw,N.2,λc m=>R c<|Ā m,λh k w y t e o L sub E=>?_);let(U,pt):=yS hb N.1 (R b P0) e o L sub E;let(Y,M,p2,Q,T):=up h _ _ _ pt;let(p,C,W,_):=wr h _ _ _ U M p2 Q T;show(p,C,W)
set_option tactic.hygienic true in
def ML(h:Ś (ub i k a)):ϹZ sD (ϹT<|ê k) (ê a) qL:=by
 let(F,l,g,S,p):=h;delta ub at p;split at p
 .rename_i s e
  let hc:comps ϳf=Â (true,s):=rfl;let(v0,_,_,_,A,O,_,_):=ϴ0;apply(v0,A,F,l,g,S,ħ ύp);let(G1,d1,K):=ϩ3;generalize z.er=dz at pz K;cases dz with
  |int q=>
   cases K;let P:aq M H g (ϴP g D) (match Ϥh q with
    |some j=>match ϥE with
     |some (.ol Y)=>ã (a l) λy=>if ϑm then ü (Ϙn<|Ď<|Ϥt<|.ol<|Y++[y])else È
     |_=>È
    |none=>È):=pz
   cases hj:Xx s.length q with
   |none=>rw[hj]at P;show P.elim
   |some j=>
    rw[hj]at P;let Z:aq M H g (ϴP g D) (match ϥE with
     |some (.ol Y)=>ã (a l) λy=>if ϑm then ü (Ϙn<|Ď<|Ϥt<|.ol<|Y++[y])else È
     |_=>È):=P
    split at Z
    .rename_i Y X
     let(J,V,b,ws,f,C,T,U,B,G,w,nf,N,wr):=(ϰp).write2 e hc X;rw[A]at C;cases C;let at1:T1 V q=Â (Ä b):=by delta T1;rw[U,hj];show B
     apply(J,V,q,Ä b,rfl,rfl,Xa.of T,at1,Ê ⟨rfl,ws,Xa.of G⟩,G1,l,g,ϰp,Ŵ ((aq.bind Z).ext d1) λy py v r x Q E R W=>?_);by_cases L:ϑm
     .rw[Os L]at py
      apply(b,ws,v,rfl,rfl,ϳD G,Ù w.len (uL L),?_);let o:Ϸg r x (ws++[v]) (Y++[y]) (f++Q):=(w.mono E.ff λc _ o q=>ϳD q).snoc R.own;let(t,I,st):=wr r x _ _ _ E o (ϹE ⟨nf,R.nd,λc m d m' z=>Ϭd (w.Xm c m) (W c m')⟩) (λc m=>϶m Ê (λm=>Ð<|W c m)) λc m=>϶m (ϓJ<|N c m)<|R.fr c;show py σ r _ t I<|d1.Wy.trans st
     rw[P3 L]at py;show py.elim
    show Z.elim
  |none=>show pz.elim
  |bool _=>show pz.elim
  |str _=>show pz.elim
  |list _=>show pz.elim
  |tuple _=>show pz.elim
  |dict _=>show pz.elim
 show p.elim
end
end L3
namespace L3
open PySem L2 PySem.Spec PyProof.Rows
def DE(M:Mx)(X:Cx)(e:On)(f:Fe):Prop:=ŕ->Ϲc->ç e (Ϧa f)
def DT(M:Mx)(X:Cx)(e:On)(f:Ft):Prop:=ŕ->ϨH PT tT
def DW(M:Mx)(X:Cx)(e:On)(f:Ft):Prop:=ŕ->ϨH PW tT
def DA(M:Mx)(X:Cx)(e:À On)(f:Fa):Prop:=ŕ->ϨH PA tA
def DO(M:Mx)(X:Cx)(e:Ö On)(f:Fo):Prop:=ŕ->ϨH PO tO
def DI(M:Mx)(X:Cx)(tg e:On)(f:Fi):Prop:=ŕ->Ϲc->ϸa e (ώ4 f)
def DG(M:Mx)(X:Cx)(tg:On)(is:Ò)(f:Fg):Prop:=ŕ->Ϲc->ϫt (tG M X.N.length is f)
def DGs(M:Mx)(X:Cx)(tg:À On)(is:Ò)(f:Fgs):Prop:=ŕ->Ϲc->ϥD tg (tGs M X.N.length is f)
def DF(M:Mx)(X:Cx)(e:À On)(f:Ft):Prop:=ŕ->ϨH PF tT
def DS(M:Mx)(X:Cx)(T:No)(f:Fs):Prop:=ŕ->Ϲc->ϲf T Ϭ4
def DSs(M:Mx)(X:Cx)(T:À No)(f:Fs):Prop:=ŕ->Ϲc->ϵp T Ϭ4
section
variable{M:Mx}{X:Cx}{e a b c:On}{pos:Pos}
def Y1(h:ç e t)(k:ϨO):ç e t':=ό1
def ptI(h:Ϸy e t)(k:ϨO):Ϸy e t':=ό1
def pwI(h:PW X e t)(k:ϨO):PW X e t':=λw p s a H Q I q=>h w p s a H Q I<|k a H Q q
def paI(h:ϰM es t)(k:ϨO):ϰM es t':=λps p s a H Q I q=>h ps p s a H Q I<|k a H Q q
def poI(h:PO X o t)(k:ϨO):PO X o t':=ό1
def Z8{T:No}(h:ϲf T t)(k:ϕf):ϲf T t':=ϓx
def Qt{T:À No}(h:ϵp T t)(k:ϕf):ϵp T t':=ϓx
def aj(i:Nat)(hN:Ñ Ξ)(hv:ϲP)(hd:ġ "__debug__")(Yy:ġ "__classdict__"):â (Ü pos) (aa i):=λ_ _=>Y1 ϳr λ_ _ _ h=>TN h
def ie{i:Int}{j}:â (ė (Á i) j pos) (eC<|Á i):=ϫ8 nQ (Á i)
def xU{j}:â (ė (ß i) j pos) (eC<|ß i):=ϫ8 GW (.bl i)
def Cn{j}:â (ė æ j pos) (eC æ):=ϫ8 Qu .Re
def Q0{j}:â (ė (Ô x) j pos) (eC<|Ô x):=ϫ8 Ih (Ô x)
def mC{i:Int}(hg:Ħ x)(m:∃t,ϧ9=Â (Á i t))(d:ġ "__debug__"):â (Ü pos) (eC<|Á i):=λ_ _=>
 let⟨t,e⟩:=m
 Y1 (Dv (v:=Á i) hg e Ϯz d) λ_ _ _ h=>d_c (λ_ _=>Á i) h
def jK(h:â e fa):â e (W8 fa):=ο Y1 Ń ID
def HG(h:â e fa):â e (vn fa):=ο Y1 Ń T6
def mW(h:â e fa):â e (oq fa):=ο Y1 Ń Cw
def Bt(h:ϲH e ta):ϲH e (tM ta):=ο ptI Ń Qf
def gW(o:ϗq)(hg:ŕ->ϰT r g)(A:â a fa)(B:â b fb):â ϖQ ϩI:=λh m=>Y1 (Nj o Ϥ1<|B h m) (Ň (ϯB q))
def N8(o:ϗr)(hg:ŕ->Ok1 M r g)(A:â a fa):â ϖR (Yl g fa):=λh m=>Y1 (SJ o Ϥ1) (Ň (VE (hg h) q))
def Cm(o:ϬO)(hg:ŕ->ϰT r g)(A:â a fa)(B:â b fb)(H:à ϥZ):â Ϭk ϩI:=λh m=>Y1 (Lz o Ϥ1 (B h m) H) (Ň (ϯB q))
def cN(o:ϬO)(hg:ŕ->ϰT r g)(A:â a fa)(B:â b fb)(c:à ϥZ):ϲH Ϭk (au ϩI):=λh m=>
 ϓ3 (za o Ϥ1 (B h m) c) (ϯB ⟨F,d,f,S,p⟩)
def BQ(h:â e fa)(he:ž (∀whole,Ϭ0 whole=(do let v <-whole;standAt e.pos;holding [v] (truthy v))) mqae._auto_1):ϲH e (au fa):=ο ptI (Gv Ń he) d_b
def Cc(h:ϲH a ta):ϲH ϬJ (lg ta):=ο ptI (Iz Ń) PL
def Du(h:ϲH a ta):ϥm (ϱp And [a]) ta:=λr m=>Lf Ń
def wO(h:ϲH a ta):ϥm (ϱp Or [a]) ta:=λr m=>HE Ń
def Jv{rest:À On}(h:ϲH a ta)(k:ϥm (ϱp And ϲ6) tb):ϥm (ϱp And<|a::ϲ6) (uX ta tb):=ο pwI (QY Ń ϥg) QX
def xT{rest:À On}(h:ϲH a ta)(k:ϥm (ϱp Or ϲ6) tb):ϥm (ϱp Or<|a::ϲ6) (oM ta tb):=ο pwI (Nn Ń ϥg) U0
def BE(h:ϥm e ta):ϲH e ta:=λr m=>(Ń).pt
def By{op}(h:â a fa):â ϖu fa:=λr m=>Qr Ń
def IS{rest:À On}(h:â a fa)(k:â (ϱp And ϲ6) fb):â (ϱp And<|a::ϲ6) (xo fa fb):=ο Y1 (OE Ń ϥg) R1
def SG{rest:À On}(h:â a fa)(k:â (ϱp Or ϲ6) fb):â (ϱp Or<|a::ϲ6) (eOr fa fb):=ο Y1 (Tf Ń ϥg) Ws
def Rc(h:â a fa):â ϬJ (E6 fa):=ο Y1 (OY Ń) UJ
def U2(h:ϲH c ta)(A:â a fa)(B:â b fb):â ϗo (eIf ta fa fb):=ο Y1 (Jm Ń Ϲo Ϲq) Wi
def aI:DA M X [] ai:=λ_ _=>paI fH (Ň (IG q))
def ao(h:â e fa)(r:ϱ4 es)(S:Ñ (Õ ď=ź (Õ es))):DA M X ď (ϯ4 al):=λk m=>paI (bz (h k m) (r k m) S) (Ň (KS q))
def zW{x1}(h:ϱ4 es):â (Ϥd x1 pos) (gT al):=ο Y1 (HB Ń) Ta
def ur(h:ϱ4 es):â (.List es pos) (bX al):=ο Y1 (B5 Ń) UO
def vB:DO M X none sU:=λ_ _=>poI Kg (Ň (Mr q))
def sf(h:â e fa):DO M X Ϲl (mn fa):=ο poI (M4 Ń) M0
def yt{l hi:Ö On}{fl f:Fo}(hr:SlR X r)(hg:ŕ->OkS M r g)(h:â e fa)(a:DO M X l fl)(b:DO M X hi f):
  â (û e (.Slice l hi none p2) pos) (eSl g fa fl f):=λk m=>Y1 (Ϛm<|b k m) (Ň (We (hg k) q))
def vf(hr:ϸu r)(hg:ŕ->ϰT r g)(A:â a fa)(B:â b fb)(S:f_ b):â (û a b pos) ϩI:=λh m=>Y1 (pS hr Ϥ1 (B h m) S) (Ň (ϯB q))
def oK{id:String}(hc:ϳ0 (ğ id) r)(o:ŕ->ϻC r g)(hg:Ħ x)(H:Ϻz)(v:ϷN=Â (ğ id))(A:ϱ4 ď)(n:Ν ϷL)(d:ġ "__debug__")(he:Ñ (Õ ď=ź (Õ es)))(l:Ñ (Ŕ<|ϰU<|Õ es)):
  â (ô (Ü p) ď pos) ϑ2:=λh m=>Y1 (sO hc hg H v Ϥ1 n d he l) (Ň (J9 (o h) q))
def JD(hc:ϳ0 (ć T) r)(o:ŕ->ϻC r g)(hg:Ħ x)(H:Ϻz)(v:ϷN=Â (ć T))(A:ϱ4 ď)(n:Ν ϷL)(d:ġ "__debug__")(he:Ñ (Õ ď=ź (Õ es)))(l:Ñ (Ŕ<|ϰU<|Õ es)):
  â (ô (Ü p) ď pos) ϑ2:=λh m=>Y1 (Fp hc hg H v Ϥ1 n d he l) (Ň (J9 (o h) q))
def Lq(F:ϱG M.K M.mg CX f fd ps ϶v)(hr:ϴ8)(hg:Ħ x)(H:M.mg x=Â (Ä f))(h:ϴX M.K (Ä f))(B:ϲZ M.K [])(a:ϲY M.E)(A:ϱ4 ď)(d:ġ "__debug__")(he:Ñ (Õ ď=ź (Õ es)))(l:Ñ (Ŕ<|ϰU<|Õ es)):
  â (ô (Ü p) ď pos) ϐ8:=λr m=>by
 let b:ϱG X.K X.mg CX f fd ps ϶v:=by rw[r,m];show F
 show Y1 (yH b hr hg (by rw[m];show H) (by rw[r];show h) ϭh í a Ϲo d he l) (Ň (QV q))
def vH(h:â e fa):Ϸ1 e (cB fa):=ϫV (CN (tg:=tg) Ń) PV
def Ry(h:â e fa):Ϸ1 e (iTp fa):=ϫV (Qk (tg:=tg) Ń) Tc
def Oc(hg:Ħ "range")(b:ϷJ)(h:â a fa)(S:Ñ (Õ [a]=(false,π)::Õ []))(c:Ñ (Õ [a]=ϱj π)):Ϸ1 (ô (ú "range" p) [a] pos) (iR1 fa):=λk m=>λi s d H r I z=>ϙz<|Wr z
def Vy(hg:Ħ "range")(e:ϷJ)(h:â a fa)(k:â b fb)(c:Ñ (Õ ψ=(false,π)::Õ [b]))(S:Ñ (Õ [b]=(false,ϲV)::Õ []))(f:Ñ (Õ ψ=ϦQ π ϲV))(d:Ñ (Õ [b]=ϱj ϲV)):Ϸ1 (ô (ú "range" p) ψ pos) (iR2 fa fb):=λK m=>λi s g H r I z=>Es hg e (ϒ3 K m) f d i s g H r I<|V3 z
def Lc(hg:Ħ "enumerate")(b:ϳe "enumerate")(h:â a fa)(S:Ñ (Õ [a]=(false,π)::Õ []))(c:Ñ (Õ [a]=ϱj π)):
  ύD (ô (ú "enumerate" p) [a] pos) (iEn fa):=ϫV (Mo (es:=ts) (k:=tk) (tpos:=tpos) (p:=p) (pos:=pos) hg b ((ao h aI S) r m) c) Ou
def o8{α:Type}{N:À α}{i:Nat}{x:α}(h:N[i]?=Đ):i<N.length:=ϷW
def pgI(h:ϫt t)(k:ϔo):ϫt t':=λp s a H v u Q I r q=>ϓb<|ϰh _ _ q
def TV(h:ϥD tg t)(k:ϔo):ϥD tg t':=λp s a H v u Q I r q=>ϓb<|ϰh _ _ q
def p7(h:X.N.Nodup)(hi:Ξ)(H:ϲT x)(f:ž (ϴg\/ϲi=Â Ų) mqad._auto_1):DG M X (Ü pos) [i] (Rm i):=λ_ _=>pgI (CO h hi H f) λ_ _ _ _ q=>Kc ϫF q
def Dn:DGs M X [] [] fT:=λ_ _=>TV Kv λ_ _ _ _ q=>UY q
def pD(h:DG M X e is g)(k:DGs M X es js gs)(S:Ñ (Ó (Ϻh ď) ň=assign e X.env::Ó (Ϻh es) ň)):DGs M X ď (is++js) (aX g gs):=λr m=>TV (Iw Ń ϥg S) λ_ _ _ _ q=>RY q
def Hg(hc:ż)(h:DGs M X es is gs)(H:Ñ (Ì (Ϻh es)=n))(S:Ñ ((Ϻh es).findIdx? ģ=none)):DG M X (Ϥd k pos) is (gTp n gs):=λr m=>by let q:=RL (pos:=pos) (k:=k) hc Ń H S;rw[r]at q;show pgI q λ_ _ _ _ z=>Uw z
variable{st:No}{rest sa sb:À No}
def bt:ϸd [] Wz:=λ_ _=>Qt vM (Ň (OP q))
def af(h:ŋ st f)(k:ϸd rest g):ϸd (st::rest) (av f g):=ο Qt (pY Ń ϥg) UX
def aw(h:ŋ st f):ϸd [st] f:=λr m=>vA Ń
def HF:ŋ st EE:=λ_ _=>Z8 IB (Ň (R8 q))
def gf(h:â e fa)(S:Ñ (ϦH none pos.line X.env=ϳy)):ŋ (ϳT e pos) (eD fa):=ο Z8 (nt Ń S) Rj
def iw(h:â e fa):ŋ (Ϧ4 Ϲl) (bI fa):=ο Z8 (rC Ń) UQ
def MM(i:Nat)(hN:Ñ Ξ)(hv:ϲP)(hd:ġ "__debug__")(Yy:ġ "__classdict__"):ŋ (Ϧ4<|Â<|Ü p) (lA i):=λ_ _=>Z8 (rC ϳr) (Ň (QP q))
def cb(h:ϲH c ta)(A:ϸd sa f)(B:ϸd sb g):ŋ (.If c sa sb pos) (X5 ta f g):=ο Z8 (CK Ń Ϲo Ϲq) VC
def jB(i:Nat)(h:ŋ st f):ŋ st (jQ i f):=ο Z8 Ń Vr
def b_(n:X.N.Nodup)(hi:Ξ)(H:ϲT x)(h:â e fa)(S:Ñ (ϦH (Â<|Ü p) pos.line X.env=ϳy))(f:ž (ϴg\/ϲi=Â Ų) mqad._auto_1):ŋ (ϳc [Ü p] e pos) (aC i fa):=λr m=>Z8 (Cs n hi H Ń S f) (Ň (GN ϫF q))
def RZ(n:X.N.Nodup)(hi:Ξ)(H:ϲT x)(h:â e fa)(g:PIp X op ti)(hg:ŕ->ϰT ti gd)(f:ž (ϴg\/ϲi=Â Ų) mqad._auto_1):ŋ (.AugAssign (Ü p) op e pos) (Ja i gd fa):=λr m=>Z8 (Q9 n hi H Ń g f) (Ň (Uo ϫF (hg r) q))
def cJ{it:Fi}(hc:ż)(p:PassesOwn ϰO X.A X.env X.xe)(hi:Ϸ1 iter it)(hg:Ϧz X)(B:ϸd body f)(S:ϹP):ŋ ϔS (fX it gg f):=ο Z8 (Rw p hc (hi r m) (hg r m) Ϲq S) TH
def kS(p:PassesOwn ϰO X.A X.env X.xe)(h:ϲH c ta)(B:ϸd body f):ŋ ϕP (cP ta f):=ο Z8 (Jj p Ń Ϲq) Lr
variable{x:Str}{p ap cp:Pos}
def E9{id:String}(slot:Slot "list" name id)(y:typeOf (ğ id)=pure (ć "method_descriptor"))(m:ϑY)(g:ç o to)(A:ϰM [e] t)(k:∀D a H,Ϭ4 D a H->kO (ώ3 r to t) D a H)(b:Ϧe name X.env ϵG=ϵG)(w:ϲN cp [e])(h:϶j)(S:Õ [e]=ź (Õ []))(l:Ŕ (ϷK<|Õ []))(s:ϵw (ĝ o name ap) [e] cp)(K:ŕ):ϲf (ϳT (ô (ĝ o name ap) [e] cp) pos) Ϭ4:=by let q:=ϨK slot y m g A b w h S l;rw[K]at q;show Z8 (nt q s) k
def Ey(h:â e fa)(S:Õ [e]=ź (Õ []))(r:ŕ)(m:Ϲc):ϰM [e] (dB (Ϧa fa) qL):=ϸA Ń S
def BV(i:Nat)(h:â e fa)(hN:Ñ Ξ)(hv:ϲP)(hd:ġ "__debug__")(Yy:ġ "__classdict__")
  (Xi:Ñ (ϵv (Ü p) "append"))
  (Yx:Ñ (ϲN cp [e]))
  (Xh:Ñ ϶j) (hs:Ñ (Õ [e]=ź (Õ []))) (X2:Ñ (Ŕ<|ϷK<|Õ []))
  (hsw:Ñ (ϵw (ĝ (Ü p) "append" ap) [e] cp)):ŋ (ϳT (ô (ĝ (Ü p) "append" ap) [e] cp) pos) (oN i fa):=λhK hM=>
 όR ϳr ϩl (Ň<|SE q) Xi Yx Xh hs X2 hsw hK
def J6(i:Nat)(hb:â b fb)(h:â e fa)(hix:f_ b)(hN:Ñ Ξ)(hv:ϲP)(hd:ġ "__debug__")(Yy:ġ "__classdict__")(Xi:Ñ (ϵv (û (Ü p) b p2) "append"))(Yx:Ñ (ϲN cp [e]))(Xh:Ñ ϶j)(hs:Ñ (Õ [e]=ź (Õ [])))(X2:Ñ (Ŕ<|ϷK<|Õ []))(hsw:Ñ (ϵw (ĝ (û (Ü p) b p2) "append" ap) [e] cp)):ŋ (ϳT (ô (ĝ (û (Ü p) b p2) "append" ap) [e] cp) pos) (ub i fb fa):=λhK hM=>όR (Ϻf ϳr ϦT hix) ϩl (Ň<|ML q) Xi Yx Xh hs X2 hsw hK
def Qz(i:Nat)(hg:Ϧz X)(hN:Ñ Ξ)(hv:ϲP)(hd:ġ "__debug__")(Yy:ġ "__classdict__")(Xi:Ñ (ϵv (Ü p) "pop"))(Xh:Ñ ϶j)(hs:Ñ (swapsWithSole [tg] (ô (ĝ (Ü p) "pop" ap) [] cp) pos.line X.env=ϳy))(hw:Ñ (swappedStores [tg] (ô (ĝ (Ü p) "pop" ap) [] cp) X.env=pure none))(h1:Ñ (ϫS tg)):
  ŋ (ϳc [tg] (ô (ĝ (Ü p) "pop" ap) [] cp) pos) (IH i gg):=λhK hM=>by
 let q:=ϒ4 ap cp (aA (pos:=p) hN hv hd Yy) Xi Xh;rw[hK]at q;show Z8 (Br q (hg hK hM) hs hw h1) (ϳa (s_pop z))
def zg(i:Nat)(hb:â b fb)(h:â e fa)(hN:Ñ Ξ)(hv:ϲP)(hd:ġ "__debug__")(Yy:ġ "__classdict__")(hs:Ñ (ύy (û (Ü p) b p2)=ϳy))(hw:Ñ (ύv<|û (Ü p) b p2))(ha:autoParam (∀v,Ϧr (û (Ü p) b p2) v=(do
   let ov <-holding [v] (eval (.Name x p) X.env)
   let iv <-holding [v,ov] (eval b X.env)
   standAt p2
   holding [v,ov,iv] (setItem ov iv v)
   release [v,ov,iv] [])) mqae._auto_1)(h1:Ñ (ϫS<|û (Ü p) b p2)):ŋ (ϳc [û (Ü p) b p2] e pos) (Ak i fb fa):=λhK hM=>
 Z8 (Br Ϧ8 (J3 ϳr ϦT set_list ha) hs hw h1) (Ň (UL q))
variable{outs:À ϴi}{it:Fi}
def Ju:DF M X [] cn:=λ_ _=>λi s a H Q I q=>GL i s a H Q I (by let(F,b,f,S,p):=q;show p F H ϥ7)
def zf(h:ϲH c ta):DF M X [c] ta:=λr m=>Qp Ń
end
def oI(i:Int):č:=Ú<|Á i
def oB(b:Bool):č:=Ú<|ß b
def oD(d:Gc):č:=.ok Ē
def bB:ϱn
 |.int i,.int j=>oI<|i+j
 |.str x,.str y=>Ï ύ5 (oD (Ô<|x++y)) È
 |.list xs,.list ys=>Ï (xs.length+ys.length<=I6) (.ok (Ĩ<|xs++ys)) È
 |_,_=>È
def fS:ϱn|.int i,.int j=>oI<|i-j|_,_=>È
def u6(i j:Int):Bool:=ϙp ϴE
def jT:ϱn
 |.int i,.int j=>Ï ϩ4 (oI (i*j)) È
 |.list xs,.int k=>Ϩj (þ<|Ç (-϶f<=k)&&Ç (k<϶f)&&Ç (xs.length*k.toNat<=I6)) ϴE (ϲC<|(ϲy k.toNat xs).flatten.map OD.sh) È
 |_,_=>È
def fW:ϱn
 |.int i,.int j=>Ï (0<j) (oI (i%j)) È
 |_,_=>È
def kF:ϱn|.int i,.int j=>Ϩj ώp ϴE (oI<|i / j) È|_,_=>È
def eZ:Gc->č|.int i=>oI<|-i|_=>È
def gLt:ϱn|.int i,.int j=>oB<|Ç<|i<j|_,_=>È
def gGt:ϱn|.int i,.int j=>oB<|Ç<|j<i|_,_=>È
def gGe:ϱn|.int i,.int j=>oB<|Ç<|j<=i|_,_=>È
def pC(x y:Gc):ϵm:=Ï (þ (SeqAt.shaped x&&SeqAt.shaped y)) (ò (PyData.eqv x y)) È
def eqD:Gc->Gc->ϵm|.int i,.int j=>.ok<|Ç<|i=j|.str x,.str y=>.ok<|Ç<|x=y|.bool x,.bool y=>.ok<|Ç<|x=y|x,y=>pC x y
def Xr(x y:Gc):č:=ã (eqD x y) λb=>oB b
def Yc(x y:Gc):č:=ã (eqD x y) λb=>oB<|!b
def GX(x y:Gc):č:=match y with
 |.none=>oB (match x with| .none=>true|_=>false)
 |_=>È
def gV(o:Ö Gc):č:=match o with
 |some d=>oD d
 |none=>È
def F4:ϱn
 |.list xs,.int i=>gV<|T1 xs i
 |.tuple xs,.int i=>gV<|T1 xs i
 |.str z,.int i=>Ï (z.length<=I6) (gV (Ó ώL λc=>Ô ϷZ)) È
 |_,_=>È
def cutD(s:À Gc)(l hi:Ö Int):À Gc:=ζ (s.drop<|ϵ2 s.length l)<|ϸD HT.X0 s.length
def xp(x:Gc)(l hi:Ö Int):č:=match x with
 |.list xs=>.ok<|Ĩ<|cutD xs l hi
 |_=>È
def bU:À Gc->č
 |[.list xs]=>oI xs.length
 |[.tuple xs]=>oI xs.length
 |[.str x]=>Ï (x.length<=I6) (oI x.length) È
 |_=>È
def Bc:À Gc->č
 |[.int i,.int j]=>oI ϬB
 |_=>È
def cu:À Gc->Ö (À Int)|[]=>Â []|.int i::r=>Ó (cu r) (i:: ·)|_::_=>none
def eN:∀ns:À Int,cu ő=Â ns:=by
 ext y
 induction y with|nil=>show rfl|cons n ns Y2=>rw[L4,cu,Y2];rfl
theorem m8:∀{d:À Gc}{ns:À Int},cu d=Â ns->d=ő
 |[],ns,h=>ϏE
 |.int i::r,ns,h=>by rw[cu]at h;let(ms,H,rfl):=ϸc;rw[m8 H];rfl
 |.none::_,_,h=>ϱJ
 |.bool _::_,_,h=>ϱJ
 |.str _::_,_,h=>ϱJ
 |.list _::_,_,h=>ϱJ
 |.tuple _::_,_,h=>ϱJ
 |.dict _::_,_,h=>ϱJ
def xn:Int->À Int->Int|m,[]=>m|m,n::ns=>xn (Ϻn<|m<n) ns
def yJ:Int->À Int->Int|m,[]=>m|m,n::ns=>yJ (Ϻn<|n<m) ns
def mQ:À Gc->č
 |[.list ds]=>match cu ds with
  |some (n::ns)=>oI ϯX
  |_=>È
 |_=>È
def vd:À Gc->č
 |[.list ds]=>match cu ds with
  |some (n::ns)=>oI ϯY
  |_=>È
 |_=>È
def jP:À Gc->č|[.list ds]=>ĥ ds.map OD.sh|[.tuple ds]=>ĥ ds.map OD.sh|_=>È
def Cf:À Gc->č
 |[.int i]=>oI i
 |[.bool b]=>oI ϖv
 |_=>È
def Ac(d:À Gc)(y:Gc):č:=match y with
 |.int z=>match cu d with
  |some ns=>Ï Ϸf (oI ϥ9) È
  |none=>È
 |_=>È
def N1:Gc->Ö String|.int _=>some "int"|.bool _=>some "bool"|.str _=>some "str"|.list _=>some "list"|.tuple _=>some "tuple"|.none=>some "NoneType"|.dict _=>none
def LK(T:String)(d:Gc):ϮB:=match N1 d with
 |some U=>if ϫY then Â (Ç ύF)else none
 |none=>none
def xr(T:String)(x:Gc):č:=match LK T x with
 |some b=>oB b
 |none=>È
section
variable{M:Mx}{X:Cx}
def okI{i:Int}(s:ϱy)(p:ÿ fp Θ (oI i)):ξ (Á i):=ϸM<|Á i
def okB(s:ϱy)(p:ÿ fp Θ (oB i)):ξ (.bl i):=ϸM<|.bl i
def NS(K:At):R2:=ϰD (∃l b s zs,x=Ä l/\y=Ä b/\ϸj l s/\ϸj b zs/\Ą ϻT/\∀p,ϴ9->Q (Ä p) (Ę p<|ä Ϸa))
def Mf:϶w Add (NS X.K):=by
 ext p s j H x y v u Q I d Y h;let(l,b,S,zs,rfl,rfl,c,B,Z,q):=h;cases d;cases Y;let(z,t,n,r,f,e):=c.obj I;let(g,i,N,R,L,E):=B.obj I;apply PySem.P.add_list e E ?_ (ϰP Ys Ys);let a:t.toArray++i.toArray=ϳW (t++i):=Û
 rw[a];show(Ä _,_,I.lnew (t':=s.toks) ϏW (î Ww),rfl,q _ I.fresh)
def Nu(K:At):R2:=ϰD (rI0 (λi j=>Á<|i+j) x y H Q\/(∃i j,x=Ô i/\y=Ô j/\Ą (i.length+j.length)/\Q (Ô<|i++j) H)\/NS K x y H Q)
def nY:϶w Add (Nu X.K):=Hq.or<|Cd.or Mf
set_option tactic.hygienic true in
def rh(r:ŕ):ϰT (Nu X.K) bB:=by
 rw[r];ext x y d D F H f Q s R Y p;delta bB at p;split at p
 .cases R;cases Y
  show Ê (ϑP ϳK)
 .cases R;cases Y
  split at p
  .rename_i h
   show Ð<|Ê ⟨_,_,rfl,rfl,lS h,ϸM<|Ô _⟩
  show p.elim
 .split at p
  .rename_i h
   cases R with
   |lst h1 h2=>
    cases Y with|lst h3 h4=>show Ð<|Ð ⟨_,_,_,_,rfl,rfl,h1.same s,h3.same s,ϳH ϶M (B1.len h4) (lS h),λa A=>Ϸ3 (B1.app h2 h4) A⟩
  show p.elim
 show p.elim
def yZ:ϰT (rI0 λi j=>Á<|i-j) fS:=by
 ext x y d D F H f Q s R Y p;delta fS at p;split at p
 .cases R;cases Y
  show(_,_,rfl,rfl,ϳK)
 show p.elim
def MV{i j:Int}(h:ϩ4):H_ i j:=(ϫZ ϴE).mp h
def Oa(K:At):R2:=λx y H Q=>∃l k s,x=Ä l/\y=Á k/\ϸj l s/\-϶f<=k/\k<϶f/\Ą (s.length*k.toNat)/\
 ∀p,ϴ9->Q (Ä p) (Ę p<|ä (ϸr (ϲy k.toNat s)))
def Mv:϶w Mult (Oa X.K):=by
 ext p s C H x y v u Q I R Y h;let(l,k,B,rfl,rfl,j,b,d,Z,q):=h;cases R;let(t,rfl):=Y;let(z,i,n,r,A,e):=j.obj I;let L:Ą ύR:=by rw[Ys,<-A];show Z
 let c:¬ύR > (϶f-1) / 8:=by
  let:ϱF sizeLine<=(϶f-1) / 8:=á
  lia
 let f:¬(!Builtin.List.listFitsIndex k)=true:=Ù (fitsIndex_both b d) Xd
 let o:¬ā Builtin.List.listTooLong ύR:=Ù (wC L) Xd
 let w:ύw #[] (ϲy (Ï (þ i.toArray.isEmpty) 0 k.toNat) i.toArray)=(ϲy k.toNat i).flatten.toArray:=by
  let g:∀m:Nat,ύw #[] (replicate m i.toArray)=(replicate m i).flatten.toArray:=λm=>ϴF (foldl_rep i m []) K9B
  rw[g];cases i with|nil=>simp|cons a r'=>rw[P3 Û]
 apply wpAny_binaryOp_repeat_ref (T:="list") (U:="int") á ϸS (λS=>typeIs_int S k t) noFill_list_mul F.fills_int_mul F.slot_int_rmul repeat_list F.slot_int_index.lookup
  (Ϲm F.slot_int_rmul (typeIs_int s k t) F.entry_int_rmul F.args_int_rmul_2 (int___rmul___int_list k t l i.toArray n) ⟨e,rfl,ϸS,Ϲm F.slot_list_mul ϸS F.entry_list_mul F.args_list_mul_2 (AutoListH.list___mul___list_int_3 l i.toArray n k t f c o) Ϫp⟩)
 rw[w];show(Ä _,_,I.lnew (t':=s.toks) (r.rep k.toNat) (by rw[len_rep,Nat.mul_comm];show Z),rfl,q _ I.fresh)
def Nw(K:At):R2:=ϰD (rI H_ (λi j=>Á<|i*j) x y H Q\/Oa K x y H Q)
def vJ:϶w Mult (Nw X.K):=OB.or Mv
theorem B1.rep{K:At}{F:Hp}{v:À V}{d:À Gc}(h:Ū v d):∀k:Nat,Ū ((ϸr (ϲs v))) ((ϸr (ϲs d)))|0=>í|k+1=>ϔW B1.app B1.rep
set_option tactic.hygienic true in
def yR(r:ŕ):ϰT (Nw X.K) jT:=by
 rw[r];ext x y d D F H f Q s R Y p;delta jT at p;split at p
 .cases R;cases Y
  split at p
  .rename_i hc
   show Ê ⟨_,_,rfl,rfl,MV hc,ϳK⟩
  show p.elim
 .cases Y
  split at p
  .rename_i hc
   rw[Yt,Yt,Yz,Yz,Yz]at hc;cases R with|lst h1 h2=>show Ð ⟨_,_,_,rfl,rfl,h1.same s,hc.1.1,hc.1.2,Ù ϶M (lS hc.2),λa A=>Ϸ3 (B1.rep h2 _) A⟩
  show p.elim
 show p.elim
set_option tactic.hygienic true in
def QW:ϰT (ϗY<|λi j=>Á<|i%j) fW:=by
 ext x y d D F H f Q s R Y p;delta fW at p;split at p
 .cases R;cases Y
  split at p
  .rename_i hc
   show(_,_,rfl,rfl,hc,ϳK)
  show p.elim
 show p.elim
set_option tactic.hygienic true in
def Oh:ϰT (rI Sz λi j=>Á<|i / j) kF:=by
 ext x y d D F H f Q s R Y p;delta kF at p;split at p
 .cases R;cases Y
  split at p
  .rename_i hc
   show(_,_,rfl,rfl,hc,ϳK)
  show p.elim
 show p.elim
def Gw:Ok1 M (rU λi=>Á<|-i) eZ:=by
 ext x d F H f Q s R p;delta eZ at p;split at p
 .cases R
  show(_,rfl,ϳK)
 show p.elim
def Vn:ϰT (Ϥg<|Ç<|i<j) gLt:=by
 ext x y d D F H f Q s R Y p;delta gLt at p;split at p
 .cases R;cases Y
  show(_,_,rfl,rfl,okB s p)
 show p.elim
def DP:ϰT (Ϥg<|Ç<|j<i) gGt:=by
 ext x y d D F H f Q s R Y p;delta gGt at p;split at p
 .cases R;cases Y
  show(_,_,rfl,rfl,okB s p)
 show p.elim
def UW:ϰT (Ϥg<|Ç<|j<=i) gGe:=by
 ext x y d D F H f Q s R Y p;delta gGe at p;split at p
 .cases R;cases Y
  show(_,_,rfl,rfl,okB s p)
 show p.elim
def B1.to2{K:At}{H:Hp}{s:À V}{d:À Gc}(h:ϳg s d):ϕY->L2.B1 K H s d:=ό7 (þ d.canLay0->L2.Rep K H v d) (ϕY->L2.B1 K H v d) (ϰ9 .Re) (λb _=>ϱz) (λi _=>Á i) (λx _=>Ô x) (λh _ i c=>ä h.sq ϓS) (λh _ i c=>Ī (Yr.of h) ϓS) (ϒW dD) (ϒW qK) (ϰ9 í) (λ_ _ i j c=>by rw[PyData.canLayAll0,Yt]at c;show ð (i c.1)<|j c.2)
def Rep.to2{K:At}{H:Hp}{v:V}{d:Gc}(h:Ĝ H v d)(c:þ d.canLay0):L2.Rep K H v d:=by cases B1.to2 (ð h í) (by rw[PyData.canLayAll0,c];rfl);assumption
def TY(K:At):R2:=ϰD (rEq x y H Q\/Tr K x y H Q)
def TX(K:At):R2:=ϰD (rNe x y H Q\/R_ K x y H Q)
def FX(U:ϷM 64):ϵA Eq (TY X.K):=Uv.or<|RI U
def ze(U:ϷM 64):ϵA NotEq (TX X.K):=Gp.or<|O6 U
set_option tactic.hygienic true in
def Gz{K:At}{F H:Hp}{f:À Ix}{x y:V}{d D:Gc}{P:Bool->Prop}(R:Ĝ F x d)(Y:Ĝ F y D)(p:ÿ f P (eqD d D)):
  (ϫD Ph/\P (Ç<|x=y))\/(Ϭ3/\SeqAt.shaped D=true/\P (ϏQ D)):=by
 delta eqD at p;split at p
 .cases R;cases Y
  apply Ê (ϱB ?_);let e:∀i j:Int,Ç (ϤF V.int)=Ç (i=j):=λi j=>by
   by_cases h:i=j
   .rw[h];simp
   rw[Ll h,Ll λz=>h<|V.int.inj z]
  rw[e];show p
 .cases R;cases Y
  apply Ê (ϱB ?_);let e:∀i j:Str,Ç (ϤF V.str)=Ç (i=j):=λi j=>by
   by_cases h:i=j
   .rw[h];simp
   rw[Ll h,Ll λz=>h<|V.str.inj z]
  rw[e];show p
 .cases R;cases Y
  apply Ê (ϱB ?_);let e:∀i j:Bool,Ç (ϤF V.bl)=Ç (i=j):=λi j=>by
   by_cases h:i=j
   .rw[h];simp
   rw[Ll h,Ll λz=>h<|V.bl.inj z]
  rw[e];show p
 delta pC at p
 split at p
 .rename_i h
  rw[Yt]at h;show Ð ⟨h.1,h.2,p⟩
 show p.elim
def N7(r:ŕ):ϰT (TY X.K) Xr:=by
 rw[r];ext x y d D F H f Q s R Y p;rcases Gz R Y ϱ0 with⟨h,q⟩|⟨a,b,q⟩
 .exact Ê ⟨h,okB s q⟩
 show Ð ϒS
def Dy(r:ŕ):ϰT (TX X.K) Yc:=by
 rw[r];ext x y d D F H f Q s R Y p;rcases Gz R Y ϱ0 with⟨h,q⟩|⟨a,b,q⟩
 .exact Ê ⟨h,okB s q⟩
 show Ð ϒS
def DJ{K:At}{F:Hp}{S:À V}{s:À Gc}{i:Int}{d:Gc}(h:Ū S s)(e:ϧQ=ϰH):∃v,T1 S i=ă/\Ĝ F v d:=by
 delta T1 at e⊢;rw[B1.len h];cases q:Xx s.length i with
 |none=>rw[q]at e;cases e
 |some j=>rw[q]at e;let(v,H,a):=B1.get h e;show(v,H,a)
set_option tactic.hygienic true in
def va(k:ŕ):ϰT (rIx X.K) F4:=by
 rw[k];ext x y D b F H f Q s R Y p;delta F4 at p;split at p
 .cases Y
  delta gV at p;split at p
  .rename_i d h
   cases R with|lst h1 h2=>let(v,e,r):=DJ h2 h;show Ê ⟨_,_,_,v,rfl,rfl,Ϧj,e,ϸM r⟩
  show p.elim
 .cases Y
  delta gV at p;split at p
  .rename_i d h
   cases R with|tup h1 h2=>let(v,e,r):=DJ h2 h;show Ð<|Ê ⟨_,_,_,v,rfl,rfl,ϭB,e,ϸM r⟩
  show p.elim
 .cases Y
  cases R;split at p
  .rename_i a
   delta gV at p;split at p
   .rename_i d h
    let(c,hc,rfl):=ϸc;show Ð<|Ð ⟨_,_,c,rfl,rfl,lS a,hc,ϸM<|Ô _⟩
   show p.elim
  show p.elim
 show p.elim
def xj(r:ŕ):OkS M (Tx X.K) xp:=by
 rw[r];ext x l hi d F H f Q s R p;delta xp at p;split at p
 .cases R with
  |@lst a vs ds h1 h2=>
   apply(a,vs,rfl,Ϧj,ϪF);apply Ϸ3 ?_ h;delta Aw cutD;rw[϶M];show ϖn<|B1.drop _ h2
 show p.elim
def Na(K:At):À V->Ý Hp VK:=ϸq ((Ϭy (s=[Ä p]) K<|ξ (Á y.length))\/(∃z,s=[Ô z]/\Ą z.length/\ξ (Á z.length)))
def yC:ϳ0 (ğ "len") (Na X.K):=zN.or yU
set_option tactic.hygienic true in
def Js(k:ŕ):ϦV Na bU:=by
 rw[k];ext x d F H f Q s R p;delta bU at p;split at p
 .cases R with
  |cons h r=>
   cases r;cases h with|lst h1 h2=>show Ê ⟨_,_,rfl,Ê Ϧj,Ù ϶M ϳK⟩
 .cases R with
  |cons h r=>
   cases r;cases h with|tup h1 h2=>show Ê ⟨_,_,rfl,Ð ϭB,Ù ϶M ϳK⟩
 .cases R with
  |cons h r=>
   cases r;cases h;split at p
   .rename_i a
    show Ð ⟨_,rfl,lS a,ϳK⟩
   show p.elim
 show p.elim
def J0{K:At}{F:Hp}{x:À V}{i j:Int}(r:Ū x [Á i,Á j]):x=[Á i,Á j]:=by
 cases r with
 |cons h r=>
  cases h;cases r with|cons h r=>cases h;cases r;rfl
def MT:ϻC (λX H Q=>∃i j,X=[Á i,Á j]/\ξ (Á ϬB)) Bc:=by
 ext x d F H f Q s R p;delta Bc at p;split at p
 .exact(_,_,J0 R,ϳK)
 show p.elim
def uo:∀(ns:À Int)(m:Int),xn m ns∈m::ns/\∀z∈m::ns,z<=xn m ns:=by
 ext y
 induction y with
 |nil=>ext m;show(P0,ϓq)
 |cons n ns Y2=>
  ext m;let(a,H):=Y2 (Ϻn<|m<n);rw[xn];let M:m<=(Ϻn<|m<n):=Ϧk
  let N:n<=(Ϻn<|m<n):=Ϧk
  let j:=H _ P0;apply(?_,ϤB)
  .rcases W7.mp a with h|h
   .rw[h]
    split<;>simp
   simp[h]
  rcases W7.mp Z with rfl|Z
  .lia
  rcases W7.mp Z with rfl|Z
  .lia
  show H z<|Ā Z
def Ed:∀(ns:À Int)(m:Int),yJ m ns∈m::ns/\∀z∈m::ns,yJ m ns<=z:=by
 ext y
 induction y with
 |nil=>ext m;show(P0,ϓq)
 |cons n ns Y2=>
  ext m;let(a,H):=Y2 (Ϻn<|n<m);rw[yJ];let M:(Ϻn<|n<m)<=m:=Ϧk
  let N:(Ϻn<|n<m)<=n:=Ϧk
  let j:=H _ P0;apply(?_,ϤB)
  .rcases W7.mp a with h|h
   .rw[h]
    split<;>simp
   simp[h]
  rcases W7.mp Z with rfl|Z
  .lia
  rcases W7.mp Z with rfl|Z
  .lia
  show H z<|Ā Z
def sQ{K:At}{F:Hp}{x:À V}{d:À Gc}{ns:À Int}(s:aB F H')(r:Ū x [Å d])(e:cu d=Â ns):∃a,x=[Ä a]/\Xa K H' a ϰw:=by
 cases r with
 |cons h r=>
  cases r;cases h with|lst h1 h2=>rw[m8 e]at h2;rw[ϐD]at h1;show(_,rfl,Ϧj)
set_option tactic.hygienic true in
def tR(r:ŕ):ϦV N4 mQ:=by
 rw[r];ext x d F H f Q s R p;delta mQ at p;split at p
 .split at p
  .rename_i n ns e
   let(a,rfl,h):=όi;apply(a,n::ns,rfl,h,Û,λm b c=>?_);let(k,K):=uo ns n;let e:ϯX=m:=Zcb (c _ k)<|K _ b;rw[<-e];show ϳK
  show p.elim
 show p.elim
set_option tactic.hygienic true in
def yW(r:ŕ):ϦV N5 vd:=by
 rw[r];ext x d F H f Q s R p;delta vd at p;split at p
 .split at p
  .rename_i n ns e
   let(a,rfl,h):=όi;apply(a,n::ns,rfl,h,Û,λm b c=>?_);let(k,K):=Ed ns n;let e:ϯY=m:=Zcb (K _ b)<|c _ k;rw[<-e];show ϳK
  show p.elim
 show p.elim
def OS(k:ŕ):ϦV Tw jP:=by
 rw[k];ext x d F H f Q s R p;delta jP at p;split at p
 .cases R with
  |cons h r=>
   cases r;cases h with|lst h1 h2=>show(_,_,rfl,Ê Ϧj,λl a=>Ϸ3 h2 a)
 .cases R with
  |cons h r=>
   cases r;cases h with|tup h1 h2=>show(_,_,rfl,Ð ϭB,λl a=>Ϸ3 h2 a)
 show p.elim
def Kr:ϻC (λX H Q=>(∃i,X=[Á i]/\ξ (Á i))\/∃k,X=[Ϩn]/\ξ (Á ύ3)) Cf:=by
 ext x d F H f Q s R p;delta Cf at p;split at p
 .cases R with|cons h r=>cases r;cases h;show Ê ⟨_,rfl,ϳK⟩
 .cases R with|cons h r=>cases r;cases h;show Ð ⟨_,rfl,ϳK⟩
 show p.elim
def vj(T:String)(a:Fe):Fe:=λb=>ś λx=>xr T x.er
def NV(K:At)(T:String):À V->Ý Hp VK:=ϸq (∃x d b,s=[x,.ty T]/\Ĝ H x d/\LK T d=ϱN/\ξ ϱz)
def ON{K:At}{T U:String}(h:ϒ1)(t:ϫY):kitOne K (ć U) (ć T)=Â (Ç ύF):=by rcases h with rfl|rfl|rfl|rfl|rfl|rfl<;>rcases t with rfl|rfl|rfl|rfl|rfl<;>rfl
def EV{K:At}{T U:String}{d:Gc}{b:Bool}(k:N1 d=some U)(h:ϒ1)(e:LK T d=ϱN):kitOne K (ć U) (ć T)=ϱN:=by
 delta LK at e;rw[k]at e;let e':(if ϫY then Â (Ç ύF)else none)=ϱN:=e;by_cases t:ϫY
 .rw[Os t]at e'
  rw[<-e'];show ON h t
 rw[P3 t]at e';cases e'
end
section
variable{M:Mx}{X:Cx}{e a b c:On}{pos:Pos}
def FE(T:String):ϳ0 (ğ "isinstance") (NV X.K T):=by
 ext P s g H S us Q I r h;let(x,d,b,rfl,R,e,q):=h;let(u,v,rfl,L,V):=Vals.two r;cases V;let fin:∀tk,ϳX P g Q (ß b) {s with toks:=tk}:=λtk=>⟨ϱz,H,I.tok tk,rfl,q⟩
 cases R with
 |Re=>
  cases(ϤQ ϐr);show ϭf PySem.W.kitx_none (ϯR Û e) ϶u fin
 |bl y=>
  cases(ϤQ<|u=Value.bool y);show ϭf PySem.W.kitx_bool (ϯR Û e) ϶u fin
 |int i=>
  let(t,c):=(ϤQ ϬW)
  cases c;show ϭf PySem.W.kitx_int (ϯR Û e) ϶u fin
 |str y=>
  let(t,c):=(ϤQ<|∃t,u=Value.str y t)
  cases c;show ϭf PySem.W.kitx_str (ϯR Û e) ϶u fin
 |@lst a S ds h1 h2=>
  cases(ϤQ<|u=ϴR);let(_,f,n,_,_,he):=h1.obj I;show K8T PySem.W.kitx_list I.Zj (ϱt he) (EV (d:=Å ds) rfl Û e) ϶u fin
 |@tup a S ds h1 h2=>
  cases(ϤQ<|u=ϴR);let(_,_,_,p):=(ω (Ϻq H s.heap a (Ī S))<|όb h1)
  let(o,k,K,_):=p;show K8T PySem.W.kitx_tuple I.Zj ⟨o,k,K⟩ (EV (d:=ï ds) rfl Û e) ϶u fin
 |dct _ _ _=>have e':(none:ϮB)=ϱN:=e;cases e'
 |ins _ _ _=>have e':(none:ϮB)=ϱN:=e;cases e'
set_option tactic.hygienic true in
def Tt(h:ê (vj T fa) σ H Q):tCB (NV M.K T) (dB (ê fa)<|dB (tC<|.ty T) qL) σ H Q:=by
 let(F,a,f,S,p):=h;apply(F,a,f,S,ħ Ϭu);let(G1,d1,k):=ϲA;delta xr at P;split at P
 .rename_i b B
  show(v,x.er,b,rfl,k.same d1.fh,B,ϥO P ϱz)
 show P.elim
def xg(hg:Ħ "isinstance")(a:ϳe "isinstance")(W4:Ħ x)(m:Ϻz)(t:ϷN=Â (ć T))(h:â e fa)(n:Ν ϷL)(d:ġ "__debug__")(S:Ñ (Õ [e,Ü p2]=ź (Õ [Ü p2])))(s:Ñ (Õ [Ü p2]=ϰv (Ü p2) (Õ [])))(l:Ñ (Ŕ<|ϰU<|Õ [Ü p2])):
  â (ô (ú "isinstance" p) [e,Ü p2] pos) (vj T fa):=λr H=>ϨN (sO (p:=p) (pos:=pos) (FE T) hg a iC (bz (h r H) (bz (Df (v:=V.ty T) (pos:=p2) W4 m t rfl n d) fH s) S) á á S l) Y1 (Tt z)
def Kn(a b:Fe):Fe:=λc=>ã (a c) λx=>match x.er with
 |.list ds=>ã (b c) ϭx
 |_=>È
set_option tactic.hygienic true in
def AZ(A:â a fa)(h:â e fb)(s:Ñ (attributeBase a "index" X.env π=π))(f:Ñ (ϲN cp [e]))(i:Ñ ϶j)(k:Ñ (Õ [e]=ź (Õ [])))(l:Ñ (Ŕ<|ϷK<|Õ [])):
  â (ô (ĝ a "index" ap) [e] cp) (Kn fa fb):=λr m=>by
 let q:=ϨK PySem.F.slot_list_index PySem.F.type_list_index HC Ϲo (ϸA Ń k) s f i k l;apply Y1 q λI H Q h=>?_;let(F,j,c,S,p):=h;apply(F,j,c,S,ħ λx b v u C G e1 R W=>?_);let(G1,d1,K):=ϸb W;generalize x.er=d at b K;cases K with
 |@lst a' vs ds h1 h2=>
  let g:ÿ c Θ (ã (fb j) ϭx):=b;apply(Ê ⟨rfl,vs,Ϯn ώz⟩,G1,j,c,ϰp,ϳ7 g d1 λy py w B D Y E o t=>?_);let(G2,d2,n):=o.W3 E t;delta Ac at py;generalize y.er=d' at py n;cases n with
  |int z=>
   let P:ÿ c Θ (match cu ds with|some ns=>Ï Ϸf (oI ϥ9) È|none=>È):=py
   split at P
   .rename_i ns N
    split at P
    .rename_i Z
     rw[m8 N]at h2;rw[ϐD]at h1;show(a',ns,z,rfl,rfl,Ϯn ϔv,Z,Ϭv d2.fh ϲX P<|Á _)
    .exact P.elim
   .exact P.elim
  |Re=>show py.elim
  |bl _=>show py.elim
  |str _=>show py.elim
  |dct _ _ _=>show py.elim
  |ins _ _ _=>show py.elim
  |lst _ _=>show py.elim
  |tup _ _=>show py.elim
 |Re=>show b.elim
 |bl _=>show b.elim
 |int _=>show b.elim
 |str _=>show b.elim
 |dct _ _ _=>show b.elim
 |ins _ _ _=>show b.elim
 |tup _ _=>show b.elim
end
theorem uE{K:At}{F H:Hp}(m:Nat):∀{v:À V}{s:À Gc},Ū v s->ϰB (v.map some++ϥ8) ((ϳ2<|λd=>Â ϺY)++ϥ8) []
 |_,_,.nil=>by
  change ϰB ϥ8 ϥ8 [];let:=Sc.nones (K:=K) (F:=F) (H:=H) m í;rw[Xf,Xf]at this;show this
 |_,_,.cons h r=>ϓW<|uE m r
theorem fn3{P:Do}{w:Ev}{K:At}{g:ĳ}{base:Op}{x qual:Str}{T:No}{f:Ix}{fd:Fk}{N ps:À Str}{k:Nat}{body:Fs}(F:Ϩ8)(S:Ϥ3 ϸh)
  (h:∀(c:Db)(A:Go)(outer:À PySem.Env)(s:Da)(H:Hp)(E:XK),Ϩw ϸh->ϖc (ό0 W9 g).nox):
  Ϲg g base W9 (k+1) f fd ps ύb:=by
 let u:Ϭ1:=ϨZ (ϱT S.pre) Zg
 let l:∀b H Q E,ύb b H Q E->ϲB b.length:=by
  ext b H Q E ⟨F,D,M,R,p⟩;by_cases L:ϲB D.length
  .rw[όj]
   show L
  delta bj at p;rw[P3 L]at p;show p.elim
 apply F.ok S l λc A outer s H b Q E hr i=>?_;let V:=l _ _ _ _ i;let(j,D,M,R,p):=i;let d:ϲB D.length:=ϰy όj V
 delta bj at p;rw[Os d]at p;apply(_,ύx,j,uf N.length D,[],(M,?_,K8w,ϰn,?_),ħ Ϧ0)
 .unfold L2.start uf
  rw[V,d];show uE _ R
 .unfold uf
  change ϑS;rw[Ww,K1,K8r,d];lia
 cases o with
 |nx ρ=>show λB e H' t n T=>po .Re e H' [] ⟨T.ff,ϥo (Ϻk Û),n.same,λa q z=>ϥl q Û z⟩ Ϗ0 ϰn
 |rt y=>exactλv e H' fx sm' r T=>po v e H' fx ⟨T.ff,ϥo (Ϻk Û),sm',λa q z=>ϥl q Û z⟩ r λa m=>(T.new a m).elim ϶t id
 |bk ρ=>show po.elim
 |ct ρ=>show po.elim
def E3{K:At}{M G:ĳ}{S:Da}{g:À Db}{ns:À Int}(X:K.In S.heap)(p:S.heap.Ns mainGlobals M)(B:S.heap.Ns builtinsNs G)(y:∀x:Str,ϷL->G x=ϷN)(l:S.heap.NoLimit)(hg:S.gens=#[])(A:S.heap.get? a=Â ((Ģ "list" (ϰm g.toArray))))(hi:ϧc g)(R:Ą ns.length)(hr:ϐE)(F:∀base:Op,K.In base->ώm M->Ϲg M base CX k fa fd [x] sp)(i:∀(s:Da)(u:Db),Ϯb ((ϰI [u])) [(x,u)])(D:∀H:Hp,P7 H->ϸj a ϰw->sp [Ä a] H (λv _=>v=ϪP) Ϧb)(C:∀H e c,CX [] H S Ϧb e c->False):
  ϵk Ϻy callerA (ϻB (Ä fa) (ϰI [Ä a])) (λr c=>r=ϧz (ß true)/\ϓl) S:=by
 let T:=j_ hi;let L:=hi.length;let core:∀H:Hp,P7 H->ϸj a ϰw->ϥj H S.heap->(∀b,H b≠none->b=a)->(ϦZ->Ϯ0=none)->
   ϵk Ϻy callerA (ϻB (Ä fa) (ϰI [Ä a])) (λr c=>r=ϧz (ß true)/\ϓl) S:=by
  ext H Q hS O J Y;let f:∀{b:Ix}{o:Obj},ϐb=Ø->ϰY->(ϩE).get? b=Ø:=λe n=>Hr e n;let I:∀{b:Ix}{o:Obj}{E:ϰ3 DictEntry}{ep:Nat},ϐb=Ø->o.data=϶a E ep->ϰY:=fun{b o E ep} e d=>by
   cases q:H b with
   |none=>rfl
   |some u=>
    let e':b=a:=J b (ϱZ q);subst e';rw[A]at e;cases e;let d':Data.seq g.toArray _=Data.dict E ep:=d;cases d'
  let N:∀{b:Ix}{m:ĳ},S.heap.Ns b m->(ϩE).Ns b m:=fun{b m}⟨o,E,ep,e,d,r⟩=>⟨o,E,ep,f e<|I e d,d,r⟩
  let j:K.In ϩE:=λb o e=>f (X b o e) (by
   cases q:H b with
   |none=>rfl
   |some u=>
    let e':b=a:=J b (ϱZ q)
    subst e';rw[Y<|ϱZ q]at e;cases e)
  let hM:Mod K M ϩE:=⟨j,N p,⟨G,N B,y⟩,let⟨mc,h1,h2⟩:=l;⟨mc,N h1,h2⟩⟩;let U:Ϫn M ϩE callerA [] S H:=⟨rfl,hM,ϱk (Le e),Nat.le_of_eq<|EA _ _,trivial,λb B=>Ć (show b∈([]:À Ix)from B) Û,O,.of_eq hg⟩
  apply K8E ((F _ j<|N p).run callerA [] S H (ϰI [Ä a]) [Ä a] [Ä a] _ _ hr U (i S<|Ä a) (ð rfl í)<|D H Q hS) λr c h=>?_;cases r with
  |error e=>show(C H e c h).elim
  |ok fl=>
   cases fl with
   |next=>show ϐF
   |brk=>show ϐF
   |cont=>show ϐF
   |ret u=>
    let(v,H',os,bare,un,t,r',q):=h;let q':v=ϪP:=q;subst q';obtain rfl:u=Value.bool true:=r';apply(rfl,OldK.of_keep (ϱk ?_),os,bare);cases q:H b with
    |none=>show un.keep b o e q (by ext z;show Ć (ω (b∈([]:À Ix)) z) Û) Û
    |some u=>
     rcases Q b with z|⟨ob,xs,z⟩
     .rw[q]at z;cases z
     .let z2:=un.frzs b ob _ z
      let(e1,_):=O b _ z;let(W,_):=t b _ z2;rw[e]at e1;cases e1;show W
 cases hk:K.lookup a with
 |some o=>have e:=X a o hk;rw[A]at e;cases e;apply core Ϥo (λ_=>Ê rfl) (Ð ⟨g.toArray,_,hk,by rw[Ys,L];show R,by simpa using T⟩) (λb u z=>by let Z:(none:Ö HO)=ě:=z;cases Z) (λb z=>ϲv z) λz=>ϲv z
 |none=>
  apply core (λb=>if b=a then some (.W3 (Ģ "list" (ϰm g.toArray))<|ä ϰw)else none) (λb=>?_) (Ê<|Ð ⟨Ģ "list" (ϰm g.toArray),Č⟩) (λb u z=>?_) (λb z=>?_) λ_=>hk
  .by_cases B:b=a
   .exact Ð ⟨_,_,Os B⟩
   show Ê<|P3 B
  .by_cases B:b=a
   .let Z:=(Os B).symm.trans z
    cases Z;subst B;show(A,by rw[K1];show R,g,_,T,A)
   let Z:=(P3 B).symm.trans z;cases Z
  by_cases B:b=a
  .exact B
  show Ć (P3 B) z
def JP{l:PySem.W.OpenLaw}{P:Ý ĳ Op}{y:Ý Ev Op}{d:DefRec}{K:Params->At}{CX:Ev->CXT}{sp:Ev->Sp}(A:l.most=ϰQ)(N:n<=sizeLine)(D:ώf)(hr:ϐE)(t:∀(w:Ev)(h:Op),y w h->(ϺC).In h)(F:∀(w:Ev)(m:ĳ)(fa:Ix)(h:Op),(ϺC).In h->ϸP m->m d.name=Â (Ä fa)->
   ϒw (CX w) (sp w))(p:∀(w:Ev)(H:Hp)(a:Ix)(ns:À Int),Ϯc->P7 H->X_ ϺC H a ϰw->sp w [Ä a] H (λv _=>v=ϪP) Ϧb)(C:∀(w:Ev)(H:Hp)(s:Da)(e:Db)(c:Da),CX w [] H s Ϧb e c->False):
  ϖi y l.row.toRowW d [] (λf i=>ϐA i):=by
 apply Att.Ba A D λw s₀ S m M fa o pm cd doc a i ns G Y O E z g b hints L hg=>?_;let X:=t w _ Y;let(fd,B,j):=F w m fa _ X G.T.g g;show E3 X G.T.g G.T.b G.T.builtins G.T.nolimit hg b hints (Zd L N) hr j B (λH Q r=>p w H a ns L Q r) λH e c=>C w H S e c
theorem Ul{l:PySem.W.OpenLaw}{P:Ý ĳ Op}{Y:Ý Ev Op}{d:DefRec}{K:Params->At}(N:l.most=Â 63)(g:ώf)(hr:ϐE)(t:∀(w:Ev)(h:Op),Y w h->(ϺC).In h)(A:∀ns:À Int,ns.length<=63->fn [Å ő]=Ú (ß true))(F:∀(w:Ev)(m:ĳ)(fa:Ix)(h:Op),(ϺC).In h->ϸP m->m d.name=Â (Ä fa)->
   ϒw W9 (Tk ϺC m fn)):
  ϖi Y l.row.toRowW d [] (λf V=>ϐA V):=by
 apply JP (n:=63) (k:=k) (x:=x) (CX:=ϰ9 W9) (sp:=λw V H Q E=>∃F D x,ϱy/\B1 ϺC F V D/\fn D=ϴv/\T0 ⟨ϺC,Ϥo,E⟩ F H Q x) N á g hr t (λw m fa h a b c=>?_) (λw H a ns L _ S=>?_) λ_ _ _ _ _ z=>z
 .let(fd,j,o):=F w m fa h a b c
  apply(fd,j,λbase B nb=>(o base B nb).imp ?_);ext V H Q E ⟨F0,D,y,sm,ra,e,p⟩;apply(F0,D,sm,ra,?_);rw[e];exactλv i H' X=>p v i H' X
 apply(H,[Å ő],_,ţ,ð (ä S<|B1.ofInts ns) í,A ns L,?_);ext v i H' X e r w;cases r.own with|sh q=>cases q;rfl
def cZ{P:Do}{w:Ev}{K:At}{m:ĳ}{base:Op}{x qual:Str}{T:No}{f:Ix}{fd:Fk}{N ps:À Str}{k np n:Nat}{body:Fs}{fn:Fn}(a:fn=bj np n body)(p:Ϸ4 np)(b:ϑ5)(F:Ϩ8)(S:Ϥ3 ϸh)
  (h:∀(c:Db)(A:Go)(outer:À PySem.Env)(s:Da)(H:Hp)(E:XK),Ϩw ϸh->DSs ϮA (ϓs ϸh) (cU T) body):
  Ϲg m base W9 (k+1) f fd ps ϑn:=by
 subst a p b;show fn3 F S h
def dA:Passes W9 X E:=λ_ _ _ _ _ _ _ h=>h.elim
def DD:ϱn|.int i,.int j=>oI<|i+j|_,_=>È
def Gf:ϰT (ipI λi j=>i+j) DD:=by
 ext x y d D F H f Q s R Y p;delta DD at p;split at p
 .cases R;cases Y
  show(_,_,rfl,rfl,ϳK)
 show p.elim
end L3
namespace L3
open PySem L2
def Pg(i:Int):xr "int" (Á i)=oB true:=rfl
def OK(i:Int):xr "bool" (Á i)=ϧv:=rfl
def QC(i:Int):xr "str" (Á i)=ϧv:=rfl
def Rg(i:À Gc):xr "list" (Å i)=oB true:=rfl
def OZ(i:À Gc):xr "tuple" (Å i)=ϧv:=rfl
def O4(i:À Gc):xr "int" (Å i)=ϧv:=rfl
def VP:Ĳ 0:=á
def VD:Ĳ 1:=á
def VX:Ĳ 2:=á
def VG:Ĳ 3:=á
def V_:Ĳ 4:=á
theorem GP(I:Nat->į Env):∀(s:À Gc)(k:Nat)(a:Env),I k a->(∀(i:Nat)(d:Gc)(a:Env),ϱP=ϰH->I (k+i) a->∃j c,g Ē a=.ok j/\(b j=ò (.nx c)\/b j=ò (.ct c))/\I (k+i+1) c)->
  ∃f,ϲE s a=ò (.nx f)/\I (k+s.length) f:=by
 ext y
 induction y with
 |nil=>ext k a h _;show(a,rfl,h)
 |cons d s Y2=>
  ext k a h T;let(j,c,l,H,m):=T 0 d a rfl h;let(f,e,n):=Y2 (k+1) c m λi d' a D hi=>ϴF (T (i+1) d' a ϘC (by rw[ņ (k+(i+1)=k+1+i)];show hi)) (ņ (k+(i+1)+1=k+1+i+1))
  apply(f,?_,by rw[Xt,ņ (k+Ϯs=k+1+s.length)];show n);rw[br,l,aF];rcases H with H|H
  .rw[H,aF]
   show e
  rw[H,aF];show e
def FF(S:Nat->į Env)(H:S 0 c)(T:∀(i:Nat)(d:Gc)(c:Env),ds[i]?=ϰH->S i c->∃f j,g Ē c=.ok f/\(b f=ò (.nx j)\/b f=ò (.ct j))/\S (i+1) j):
  ∃a,ϲE ds c=ϸ2/\ϑo a:=by
 let(a,e,h):=GP S ds 0 c H λi d c D hi=>by rw[K83]at hi⊢;show T i d c D hi
 show(a,e,by rw[K83]at h;show h)
def eM{l:Int}(h:Ķ (rj l n)=ϰH):i<n/\d=Á (l+i):=by
 delta rj at h;rw[T2]at h;let(j,J,rfl):=ϸc;let(H,a):=Za.mp J;let b:i=j:=ϩd
 subst b;show(Ϻe,rfl)
def dI(l:Int)(n:Nat):Ì (rj l n)=n:=ϩC rj
def Et(h:ϴt n ρ=.ok o):cP t b ρ=.ok o:=by
 let mono:∀(n:Nat)(ρ:Env),ϴt n ρ≠È->∀m,n<=m->ϴt m ρ=ϴt n ρ:=by
  ext n
  induction n with
  |zero=>ext ρ H;show ϲv H
  |succ n ih=>
   ext ρ H m M;obtain⟨m,rfl⟩:∃k,m=k+1:=⟨m-1,Ã⟩
   rw[dZ]at H⊢;rw[dZ];cases ht:t ρ with
   |bad=>rfl
   |ex c=>rfl
   |ok c=>
    rw[ht,aF]at H;rw[aF,aF];cases c with
    |false=>rfl
    |true=>
     rw[Č]at H⊢;rw[Č];cases hb:b ρ with
     |bad=>rfl
     |ex c=>rfl
     |ok o=>
      rw[hb,aF]at H;rw[aF,aF];cases o with
      |nx ρ2=>show ih ρ2 H m Ã
      |ct ρ2=>show ih ρ2 H m Ã
      |bk ρ2=>rfl
      |rt x=>rfl
 delta cP;let X:∃n,ϴt n ρ≠È:=⟨n,by rw[h];exact ϶t⟩
 rw[dif_pos X];let e1:=mono n ρ (by rw[h];exact ϶t) (n+X.choose) Ã;let E:=mono X.choose ρ X.choose_spec (n+X.choose) Ã;rw[<-E,e1,h]
def Fw(I:Nat->į Env)(Q:į Env)(T:∀m c,I m c->(t c=϶H/\Q c)\/(t c=ϴ5/\∃d M,(b c=ò (.nx d)\/b c=ò (.ct d))/\M<m/\I M d)):∀(m:Nat)(c:Env),I m c->∃a,cP t b c=ϸ2/\Q a:=by
 let go:∀(m:Nat)(c:Env),I m c->∃n a,ϴt n c=ϸ2/\Q a:=by
  ext m
  induction m using Nat.strongRecOn with
  |ind m ih=>
   ext c h;rcases T m c h with⟨f,H⟩|⟨f,d,M,H,g,i⟩
   .exact(1,c,by rw[dZ,f];rfl,H)
   let(n,a,e,q):=ih M g d i;apply(n+1,a,?_,q);rw[dZ,f,aF,Č];rcases H with H|H
   .rw[H,aF]
    show e
   rw[H,aF];show e
 ext m c h;let(n,a,e,q):=go m c h;show(a,Et e,q)
def R7:Ö (Ö OD)->č|some (some<|.sh d)=>.ok Ē|_=>È
def opK(g:ϱn)(r s:č):č:=ϱE (λx=>s.bind λy=>ϦK)
def X6{α β:Type}(g:όg)(r:R α):R β:=ϱE g
def OX(r:ϵm)(b:Ft)(a:Env):ϵm:=ϱE (λc=>Ï ϰ1 (b a) ϶H)
def orK(r:ϵm)(b:Ft)(a:Env):ϵm:=ϱE (λc=>Ï ϰ1 ϴ5 (b a))
def M9(r:ϵm)(b:Fe)(a:Env):č:=ϱE (λc=>Ï ϰ1 (b a) (Ú (ß false)))
def orV(r:ϵm)(b:Fe)(a:Env):č:=ϱE (λc=>Ï ϰ1 (Ú (ß true)) (b a))
def ifV(r:ϵm)(a b:Fe)(d:Env):č:=ϱE (λc=>Ï ϰ1 (a d) (b d))
def ifK(r:ϵm)(a b:Fs)(d:Env):ϱQ:=ϱE (λc=>Ï ϰ1 (a d) (b d))
def NA(r:č)(s:R (À OD)):R (À OD):=ϱE (λx=>s.bind λX=>.ok<|x::X)
def K4(r:ϱQ)(b:Fs):ϱQ:=r.bind λo=>match o with
 |.nx ρ'=>b ρ'
 |o=>.ok o
def S_(r:R (À Gc))(g:Fg)(b:Fs)(a:Env):ϱQ:=ϱE (λd=>ϲE d a)
def NX(r:R (À Gc))(g:Fg)(t:Ft)(el:Fe)(a:Env):č:=ϱE (λd=>ã (ϤD a d []) λs=>.ok ϳf)
def slK(g:Gc->ϴs (Ö Int) č)(a:č)(l h:R (Ö Int)):č:=a.bind λx=>l.bind λi=>h.bind λj=>ϑ1
def Vc(a:č)(b:Fe)(c:Env):č:=a.bind λx=>match x.er with
 |.list ds=>ã (b c) ϭx
 |_=>È
def Sw(o:Ö (Ö OD))(a:č)(i:Nat)(b:Env):ϱQ:=match o with
 |some (some<|.ol xs)=>X6 (λy=>Ï ϻ8 (ü (ϲo<|Ď ϪV)) È) a
 |_=>È
def Ob:Ö (Ö OD)->ϱQ|some (some x)=>ϴU|_=>È
def Q_(o:Ö (Ö OD))(i:Nat)(a:Env):Env:=match o with
 |some (some x)=>ϲU<|É x.er
 |_=>a
def KC(r:ϱQ):č:=r.bind λo=>match o with
 |.rt x=>ϴv
 |.nx _=>Ú æ
 |_=>È
def SF(o:Ö (Ö OD))(g:ϱn)(a:č)(i:Nat)(b:Env):ϱQ:=match o with
 |some (some<|.sh d)=>X6 (λy=>X6 (λz=>ü<|ϲo<|Â z)<|g d y.er) a
 |_=>È
section
variable{ρ:Env}{s t:Ft}
def v_var(i:Nat):aa i ρ=R7 Ŋ:=rfl
def v_c(d:Gc):eC d ρ=ò Ē:=rfl
def Wf(g:ϱn):B2 g a b ρ=opK g μ Ϸn:=rfl
def wM(r:R α)(g:όg):ϱE g=X6 g r:=rfl
def VJ(g:Gc->č):Yl g a ρ=ϴN (g x.er):=rfl
def Rx:au a ρ=ϴN ϴV:=rfl
def Q7:uX s t ρ=OX ϧY t ρ:=rfl
def SY:oM s t ρ=orK ϧY t ρ:=rfl
def Po:lg s ρ=X6 (λc=>.ok<|!c) ϧY:=rfl
def tru(r:č):ϵm:=X6 (λx=>ϴV) r
def v_and:xo a b ρ=M9 (tru μ) b ρ:=by
 delta xo tru;cases a ρ with
 |ok x=>
  change ã ϴV _=M9 ϴV b ρ;cases truth x.er with
  |ok c=>cases c<;>rfl
  |ex c=>rfl
  |bad=>rfl
 |ex c=>rfl
 |bad=>rfl
def v_or:eOr a b ρ=orV (tru μ) b ρ:=by
 delta eOr tru;cases a ρ with
 |ok x=>
  change ã ϴV _=orV ϴV b ρ;cases truth x.er with
  |ok c=>cases c<;>rfl
  |ex c=>rfl
  |bad=>rfl
 |ex c=>rfl
 |bad=>rfl
def v_not:E6 a ρ=X6 (λc=>Ú<|ß<|!c) (tru μ):=by
 delta E6 tru;cases a ρ with
 |ok x=>
  change ã ϴV _=X6 _ ϴV;show Ϩd
 |ex c=>rfl
 |bad=>rfl
def VW:eIf s a b ρ=ifV ϧY a b ρ:=rfl
def FW:ai ρ=ò []:=rfl
def vP:ae a r ρ=NA μ (r ρ):=rfl
def SK:gT r ρ=Ϯr (Ï ϦB (ò (mkT s)) È):=rfl
def U4:bX r ρ=Ϯr (Ï ϦB (ò ϳf) È):=rfl
def RT:ar f r ρ=Ϯr (f ϱI):=rfl
def v_b:eB f r ρ=Ϯr (f ϱI):=rfl
def TM:W8 a ρ=ϴN (Ú x.er):=rfl
def v_bor:vn a ρ=X6 (λx=>Ï ϏC (Ú x.er) È) (a ϤA):=rfl
def Ro:tM s ρ=s ϤA:=rfl
def uS:OD->č
 |.ol xs=>Ï (ā xs.all ϶s) (ĥ xs.map Ϧv) È
 |_=>È
def P6:oq a ρ=X6 uS (a ϤA):=rfl
def Uq:erase []=[]:=rfl
def Ua(x:OD):erase (Đ::ρ)=É x.er::ϤA:=rfl
def Sx:erase (none::ρ)=none::ϤA:=rfl
def ME:sU ρ=.ok none:=rfl
def NH:Gc->R (Ö Int)|.int i=>.ok ϻe|_=>È
def Mg:mn a ρ=ϴN (NH x.er):=rfl
def VO:eSl g a l h ρ=slK g μ (l ρ) (h ρ):=rfl
def lstK:Gc->R (À Gc)|.list ds=>ϧR|_=>È
def tupK:Gc->R (À Gc)|.tuple ds=>ϧR|_=>È
def r1K:Gc->R (À Gc)
 |.int j=>Ï ϤC ϥ0 È
 |_=>È
def enK:Gc->R (À Gc)|.list ds=>.ok<|eA ds|_=>È
def QM:cB a ρ=ϴN (lstK x.er):=rfl
def oP:iTp a ρ=ϴN (tupK x.er):=rfl
def V8:iR1 a ρ=ϴN (r1K x.er):=rfl
def V2:iEn a ρ=ϴN (enK x.er):=rfl
def Kq(g:Gc->Gc->R (À Gc))(r s:č):R (À Gc):=ϱE (λx=>s.bind λy=>ϦK)
def Wl:iR2 a b ρ=Kq r2F μ Ϸn:=rfl
def Wq:iZp a b ρ=Kq KP μ Ϸn:=rfl
def T_(i:Nat)(x:OD):Rm i x ρ=.ok (ł Đ):=rfl
def Ut:fT [] ρ=ò ρ:=rfl
def UM:aX g r ũ ρ=X6 (λa=>r xs a) (g x ρ):=rfl
def Td:gTp n r (.sh<|ï ds) ρ=Ï (ds.length=n) (r ϶C ρ) È:=rfl
def P_{it:Fi}:aV it g t a k outs ρ=NX (it ρ) g t a (ϐB ρ):=rfl
def U9:ϐB ρ=ϲs none++ϴo (λi=>zQ Ŋ):=rfl
def Wo:Wz ρ=ü ρ:=rfl
def UA:av p q ρ=K4 (p ρ) q:=rfl
def S4(i:Nat):aC i a ρ=ϴN (ü<|ł Đ):=rfl
def O1:eD a ρ=X6 (λ_=>ü ρ) μ:=rfl
def R5:bI a ρ=ϴN ϴU:=rfl
def O5(i:Nat):lA i ρ=Ob Ŋ:=rfl
def Sj:X5 s p q ρ=ifK ϧY p q ρ:=rfl
def R3(i:Nat):jQ i p ρ=p (K0 i ρ):=rfl
def RG(i:Nat):K0 i ρ=Q_ Ŋ i ρ:=rfl
def Ue(i:Nat):Ja i g a ρ=SF Ŋ g μ i ρ:=rfl
def U5(i:Nat):oN i a ρ=Sw Ŋ μ i ρ:=rfl
def R6{it:Fi}:fX it g p ρ=S_ (it ρ) g p ρ:=rfl
def Ub(T:String):vj T a ρ=ϴN (xr T x.er):=rfl
def VA:Kn a b ρ=Vc μ b ρ:=rfl
def Uj:bj np n p ds=Ï (ds.length=np) (KC (p<|uf n ds)) È:=rfl
def S9(d:Gc):R7 (some<|Â Ē)=ò Ē:=rfl
def VM:opK g ϴv χ=ϦK:=rfl
def Th:Kq g ϴv χ=ϦK:=rfl
def V4:X6 g ϴv=g x:=rfl
def TR:X6 g ϵo=ϵo:=rfl
def RO:OX ϴ5 t ρ=t ρ:=rfl
def QQ:OX ϶H t ρ=϶H:=rfl
def Uk:orK ϴ5 t ρ=ϴ5:=rfl
def Vq:orK ϶H t ρ=t ρ:=rfl
def LH:M9 ϴ5 a ρ=μ:=rfl
def LU:M9 ϶H a ρ=Ú (ß false):=rfl
def Pd:orV ϴ5 a ρ=Ú (ß true):=rfl
def QD:orV ϶H a ρ=μ:=rfl
def QE:ifV ϴ5 a b ρ=μ:=rfl
def Ox:ifV ϶H a b ρ=Ϸn:=rfl
def UH:ifK ϴ5 p q ρ=p ρ:=rfl
def Vm:ifK ϶H p q ρ=q ρ:=rfl
def Oy:NA ϴv (.ok xs)=ò ũ:=rfl
def Sk:K4 (ü ρ) p=p ρ:=rfl
def RC:K4 ϴU p=ϴU:=rfl
def SH:S_ ϧR g p ρ=br g p ds ρ:=rfl
def Rt:NX ϧR g t a ρ=X6 (λs=>.ok ϳf) (bo g t a ρ ds []):=rfl
def Wm:slK g ϴv (.ok i) (.ok j)=ϑ1:=rfl
def Vt:Sw (some<|Â ϲD) χ i ρ=Ï ϻ8 (ü (ł<|Ď ϪV)) È:=rfl
def OV:Ob (Â Đ)=ϴU:=rfl
def Sy:Q_ (Â Đ) i ρ=ł (É x.er):=rfl
def Rr:KC ϴU=ϴv:=rfl
def Q5:KC (ü ρ)=Ú æ:=rfl
def Ui(x:OD):tru ϴv=ϴV:=rfl
def MI(c:Bool):truth (ß c)=.ok c:=rfl
def Vs:Vc (Ú<|Å ds) b ρ=X6 ϭx Ϸn:=rfl
def Uy:SF (some<|Â Ē) g χ i ρ=X6 (λz=>ü<|ł<|Â z) (g d y.er):=rfl
def Si(d:À Gc):lstK (Å d)=.ok d:=rfl
def SN(d:À Gc):tupK (ï d)=.ok d:=rfl
def VB(d:À Gc):enK (Å d)=ò (eA d):=rfl
def VU(j:Int):r1K (Á j)=Ï ϤC ϥ0 È:=rfl
def V7(i j:Int):r2F (Á i) (Á j)=Ï (þ Ϥe) (ò (rj i (ē (j-i)))) È:=rfl
def Vi(d e:À Gc):KP (Å d) (Å e)=ò (lG d e):=rfl
def Qe(i:Int):NH (Á i)=ò ϻe:=rfl
def RQ(n:Nat)(s:À Gc):uf n s=(ϳ2<|λd=>Â ϺY)++ϲy ϏX none:=rfl
def Sr(d:Gc):zQ (some<|Â Ē)=Â Ē:=rfl
def Uc(d e:Gc):mkT [Ē,ϹF]=ı (ï [d,e]):=rfl
def TC(d e f:Gc):mkT [Ē,ϹF,.sh f]=ı (ï [d,e,f]):=rfl
def Sf(d e f g:Gc):mkT [Ē,ϹF,.sh f,ı g]=ı (ï [d,e,f,g]):=rfl
def Um(i j:Int):bB (Á i) (Á j)=Ú (Á<|i+j):=rfl
def T3(i j:Int):fS (Á i) (Á j)=Ú (Á<|i-j):=rfl
def SM(i j:Int):jT (Á i) (Á j)=Ï ϩ4 (Ú (Á<|i*j)) È:=rfl
def Tq(i j:Int):fW (Á i) (Á j)=Ï (0<j) (Ú (Á<|i%j)) È:=rfl
def Vw(i j:Int):kF (Á i) (Á j)=Ϩj ώp ϴE (Ú<|Á<|i / j) È:=rfl
def T8(i:Int):eZ (Á i)=Ú (Á<|-i):=rfl
def VY(i j:Int):gLt (Á i) (Á j)=Ú (ß<|Ç<|i<j):=rfl
def VT(i j:Int):gGt (Á i) (Á j)=Ú (ß<|Ç<|j<i):=rfl
def Wa(i j:Int):gGe (Á i) (Á j)=Ú (ß<|Ç<|j<=i):=rfl
def V6(i j:Int):Xr (Á i) (Á j)=Ú (ß<|Ç<|i=j):=rfl
def VZ(i j:Int):Yc (Á i) (Á j)=Ú (ß<|! Ç (i=j)):=rfl
def RK(i j:Int):DD (Á i) (Á j)=Ú (Á<|i+j):=rfl
def TQ(s:À Gc)(i:Int):F4 (Å s) (Á i)=gV ϧQ:=rfl
def Vu(s:À Gc)(i:Int):F4 (ï s) (Á i)=gV ϧQ:=rfl
def QT(s:À Gc):bU [Å s]=Ú (Á s.length):=rfl
def PK(x:Str):bU [Ô x]=Ï (x.length<=I6) (Ú (Á x.length)) È:=rfl
def P4(i j:Int):Bc [Á i,Á j]=Ú (Á ϬB):=rfl
def JL(n:Int)(ns:À Int):mQ [Å<|int n::ő]=Ú (Á ϯX):=by
 change(match cu (Ó (n::ns) int)with|some (n::ns)=>oI ϯX|_=>È)=_;rw[eN];rfl
def Qi(n:Int)(ns:À Int):vd [Å<|int n::ő]=Ú (Á ϯY):=by
 change(match cu (Ó (n::ns) int)with|some (n::ns)=>oI ϯY|_=>È)=_;rw[eN];rfl
def Ru(d:À Gc):jP [Å d]=ĥ d.map OD.sh:=rfl
def Ql(c:Bool):Cf [ß c]=Ú (Á (if c then 1 else 0)):=rfl
def Nk(ns:À Int)(z:Int)(h:Ϸf):Ac ő (Á z)=Ú (Á ϥ9):=by
 change(match cu ő with|some ns=>Ï Ϸf (oI ϥ9) È|none=>È)=_;rw[eN];change(Ï Ϸf (oI ϥ9) È)=_;rw[Os h];rfl
def Vv(s:À Gc)(i j:Ö Int):xp (Å s) i j=.ok (Ĩ<|cutD s i j):=rfl
def Qv(d:Gc):gV ϰH=ò Ē:=rfl
def at0(x:α)(s:À α):T1 ϻr 0=Đ:=by let:T1 ϻr (Ë ϶2)=Đ:=bW rfl;show this
def at1(x y:α)(s:À α):T1 (x::y::s) 1=γ:=by let:T1 (x::y::s) (Ë ((ϱF 1)))=γ:=bW rfl;show this
def at2(x y z:α)(s:À α):T1 (x::y::z::s) 2=Â z:=by let:T1 (x::y::z::s) (Ë ((ϱF 2)))=Â z:=bW rfl;show this
def T7(c:Bool):oB c=Ú (ß c):=rfl
end
def M3{i j:Int}(h:ϖT<i)(H:i<18446744073709551616):ϩ4:=(ϫZ ϴE).mpr<|Ê ⟨Ã,Ã⟩
def VF{i j:Int}(h:ϖT<j)(H:j<18446744073709551616):ϩ4:=(ϫZ ϴE).mpr<|Ð ⟨Ã,Ã⟩
def mD{i:Int}(h:-4611686018427387904<=i)(H:i<4611686018427387904):aG i=true:=fU.mpr ⟨Ã,Ã⟩
def dX(h:n<1000):(n<I6)=True:=ϸf (Zt h á)
def ax(h:ϧH):(n<=I6)=True:=ϸf (Zd h á)
def dW(i:Int){j:Int}(h:0<j):0<=i%j/\i%j<j:=⟨Int.emod_nonneg _ Ã,Int.emod_lt_of_pos _ h⟩
def FZ(s:À α)(i:Nat)(x:α)(h:ϱP=Đ):T1 s ë=Đ:=bW h
def BI(s:À α)(i:Int)(a:0<=i)(h:ϑ4):∃x,s[i.toNat]?=Đ/\ϧQ=Đ:=by
 obtain⟨j,rfl⟩:ϵn (i=j):=⟨i.toNat,Ã⟩
 let J:Ϯ1:=Ã
 show(s[j],ϑK,bW ϑK)
def HD(l:ϲE ds j=r)(S:Nat->į Env)(H:S 0 j)(T:∀(i:Nat)(d:Gc)(j:Env),ds[i]?=ϰH->S i j->∃c f,g Ē j=.ok c/\(b c=ò (.nx f)\/b c=ò (.ct f))/\S (i+1) f):
  ∃a,r=ϸ2/\ϑo a:=by
 let(a,e,h):=FF S H T;show(a,by rw[<-l,e],h)
def we(S:į Env):į ϱQ|.ok (.nx ρ)=>S ρ|.ok (.ct ρ)=>S ρ|_=>False
def R4:we S (ü ρ)=S ρ:=rfl
def CZ(h:we S (X6 b r)):∃a d,r=.ok a/\(b a=ò (.nx d)\/b a=ò (.ct d))/\S d:=by
 cases r with
 |ok a=>
  let H:we S (b a):=h;cases hb:b a with
  |ok o=>
   rw[hb]at H;cases o with|nx d=>show(a,d,rfl,Ê hb,H)|ct d=>show(a,d,rfl,Ð hb,H)|bk _=>show H.elim|rt _=>show H.elim
  |ex _=>rw[hb]at H;show H.elim
  |bad=>rw[hb]at H;show H.elim
 |ex c=>show h.elim
 |bad=>show h.elim
def cD{P:Prop}(L:ϲE ds j=r)(S:Nat->į Env)(H:S 0 j)(T:∀(i:Nat)(d:Gc)(j:Env),ds[i]?=ϰH->S i j->we (S<|i+1) (X6 b<|g Ē j))(fin:∀f,r=ò (.nx f)->ϑo f->P):P:=by
 let(f,e,h):=HD L S H λi d j D s=>by let(k,l,a,b,c):=CZ<|T i d j D s;show(k,l,a,b,c)
 show fin f e h
def nG{P:Prop}(L:cP t b f=r)(I:Nat->į Env)(m:Nat)(H:I m f)(Q:į Env)(T:∀m f,I m f->(t f=϶H/\Q f)\/(t f=ϴ5/\we (λi=>∃M,M<m/\I M i) (b f)))(fin:∀g,r=ü g->Q g->P):P:=by
 let(g,e,h):=Fw I Q (λm f l=>by
  rcases T m f l with h|⟨j,k⟩
  .exact Ê h
  let(n,i,a,b,M,c,d):=CZ (r:=.ok f) k
  cases a;show Ð ⟨j,i,M,b,c,d⟩) m f H
 show fin g (by rw[<-L,e]) h
def Ts(o:Ö (Ö OD))(a k:č)(i:Nat)(b:Env):ϱQ:=match o with
 |some (some<|.ol xs)=>X6 (λy=>X6 (λz=>match z.er with
  |.int q=>match ϸT q with
   |some j=>ü<|ϲo<|Ď<|ϷS y
   |none=>È
  |_=>È) k) a
 |_=>È
def OF{β:Type}(o:Ö (Ö OD)):o=none\/o=η\/(∃d,o=Â (Â Ē))\/(∃s,o=Â (Â ϳf))\/(∃s,o=Â (Â<|.ot s))\/(∃s,o=Â (Â<|.od s))\/(∃p nm s,o=Â (Â<|ϳx s))\/∃a s,o=Â (Â<|ϵl s):=by
 cases o with
 |none=>show Ê rfl
 |some o=>
  cases o with
  |none=>show Ð<|Ê rfl
  |some x=>
   cases x with|sh d=>show Ð<|Ð<|Ê ⟨d,rfl⟩|ol s=>show Ð<|Ð<|Ð<|Ê ϑp|ot s=>show Ð<|Ð<|Ð<|Ð<|Ê ϑp|od s=>show Ð<|Ð<|Ð<|Ð<|Ð<|Ê ϑp|oi p nm s=>show Ð<|Ð<|Ð<|Ð<|Ð<|Ð<|Ê ⟨p,nm,s,rfl⟩|pl a s=>show Ð<|Ð<|Ð<|Ð<|Ð<|Ð<|Ð ⟨a,s,rfl⟩
section
variable{ρ:Env}
def v_sub(i:Nat):Ak i k a ρ=Ts Ŋ μ (k ρ) i ρ:=rfl
def C_{z:Int}(h:ϸT z=ϰR):Ts (some<|Â ϲD) χ (Ú<|Á z) i ρ=ü (ł<|Ď<|ϷS y):=by
 change(match (Ă<|int z).er with
  |.int q=>match ϸT q with
   |some j=>R.ok<|Out.nx<|ł<|Ď<|ϷS y
   |none=>È
  |_=>È)=_
 rw[aS];change(match ϸT z with
   |some j=>R.ok<|Out.nx<|ł<|Ď<|ϷS y
   |none=>È)=_
 rw[h]
def gh(h:j<n):Xx n ą=ϰR:=by
 delta Xx;rw[Os Ã,Os Ã];simp
def Pj(o:Ö (Ö OD))(g:Fg)(i:Nat)(b:Env):ϱQ:=match o with
 |some (some<|.ol xs)=>match xs.getLast? with
  |some (.sh d)=>X6 (λa=>ϸ2)<|g Ē<|ϲo<|Â<|.ol xs.dropLast
  |_=>È
 |_=>È
def S8(i:Nat):IH i g ρ=Pj Ŋ g i ρ:=rfl
def CW:Pj (some<|Ď<|xs++[Ē]) g i ρ=X6 (λa=>R.ok<|Out.nx a) (g Ē<|ł<|Â ϲD):=by
 let h:(xs++[ϺY]).getLast?=Â Ē:=Û
 delta Pj;simp only[h,Zcf]
def MY{z:Int}(h:Ŋ=Â (Â ϲD))(H:k ρ=Ú (Á z))(b:ϸT z=ϰR)(e:Ϩb=Â ϵT)(g:μ=χ)(l:ys.length<I6):
  ub i k a ρ=ü (ł<|Ď<|ϷS<|.ol<|ys++[y]):=by
 delta ub;rw[h,H];simp only[aF,aS,b,e,g,l,K7y]
end
def fL(b:ϑ6 ρ0 ds []=r)(m:α->Gc)(y:α->OD)(L:À α)(e:ds=ϯZ)(l:ϤJ I6)(h:∀x∈L,ϫ7):r=ò (L.map y):=by
 subst e;rw[<-b];let go:∀(L:À α)(a:À OD),(∀x∈L,ϫ7)->ϖU->ϑ6 ρ0 ϯZ a=ò (a++L.map y):=by
  ext L
  induction L with
  |nil=>ext a _ _;rw[Z_,bo,Z_,Xf]
  |cons x L ih=>
   ext a h l;let H:=h x P0;rw[Xt]at l;rw[L4,bo];cases hg:g ϮS ρ0 with
   |ok ρ=>
    rw[hg]at H;let X:el ρ=ò (y x):=H;simp only[ER,aF,cn,K7y,X];rw[Os Ã,ih (a++[y x]) (λz Z=>h z<|Ā Z) (ϰP Ww K9e),L4,K9M];rfl
   |ex c=>rw[hg]at H;cases H
   |bad=>rw[hg]at H;cases H
 rw[ϖo Ϻc];rfl
def gN(d:ϤD ρ0 ds []=r)(m:α->Gc)(p:Ź α)(y:α->OD)(L:À α)(e:ds=ϯZ)(l:ϤJ I6)(h:∀x∈L,X6 t (g ϮS ρ0)=ò (p x)/\(ϤU->ϫ7)):r=ò (Ó (L.filter p) y):=by
 subst e;rw[<-d];let go:∀(L:À α)(a:À OD),(∀x∈L,X6 t (g ϮS ρ0)=ò (p x)/\(ϤU->ϫ7))->ϖU->ϤD ρ0 ϯZ a=ò (a++Ó (L.filter p) y):=by
  ext L
  induction L with
  |nil=>ext a _ _;rw[Z_,bo,List.filter_nil,Z_,Xf]
  |cons x L ih=>
   ext a h l;let(H,b):=h x P0;rw[Xt]at l;rw[L4,bo];cases hg:g ϮS ρ0 with
   |ok ρ=>
    rw[hg]at H b;let X:t ρ=ò (p x):=H;let Y:ϤU->el ρ=ò (y x):=b;simp only[ER,aF,X];by_cases P:ϤU
    .rw[Os P,Y P]
     simp only[aF];rw[Os Ã,ih (a++[y x]) (λz Z=>h z<|Ā Z) (ϰP Ww K9e),Zad P,L4,K9M];rfl
    rw[P3 P,ih a (λz Z=>h z<|Ā Z) Ã,Zaj P]
   |ex c=>rw[hg]at H;cases H
   |bad=>rw[hg]at H;cases H
 rw[ϖo Ϻc];rfl
def lay(n:Nat)(d:Gc):Prop:=þ d.canLay0/\d.depth<=n
def Ki(i:Int):lay 0 (Á i):=(ϱB õ)
theorem C4:∀{xs:À Gc},ϗ8->PyData.canLayAll0 xs=true/\PyData.depthAll xs<=n
 |[],_=>(ϱB ϴw)
 |x::xs,h=>by
  let(a,A):=h x P0;let(b1,b2):=C4 (xs:=xs) λy Y=>h y<|Ā Y;delta PyData.canLayAll0 PyData.depthAll;rw[a,b1];show(rfl,Ã)
def Bf(h:ϗ8):lay (n+1) (Å xs):=by
 let(b1,b2):=C4 h;apply(by delta PyData.canLay0;show b1,?_);delta PyData.depth;lia
def eJ(h:lay n d)(H:n<=64):Ϭ3:=by delta SeqAt.shaped;rw[Yt];show(h.1,W6<|Zd h.2 H)
def lay_ints(ns:À Int):lay 1 (Å ő):=Bf λx h=>by let(n,_,rfl):=Ϻ8;show Ki n
def pP(a b:À Gc):eqD (Å a) (Å b)=pC (Å a) (Å b):=rfl
def yu(h:lay n d)(H:n<=64):pC d d=ϴ5:=by delta pC;rw[eJ h H,K7c,Č,SeqAt.eqv_refl _<|K8W<|eJ h H]
def Iy(h:lay n (Å a))(H:Ν (n<=64)):Xr (Å a) (Å a)=Ú (ß true):=϶A Xr pP (yu h H)
def oR(h:lay n (Å a))(H:Ν (n<=64)):ϕM (Å a)=Ú (ß false):=϶A Yc pP (yu h H)
def SS(z:Str)(i:Int):F4 (Ô z) (Á i)=Ï (z.length<=I6) (gV (Ó ώL λc=>Ô ϷZ)) È:=rfl
def QF(x y:Str):bB (Ô x) (Ô y)=Ï ύ5 (Ú (Ô<|x++y)) È:=rfl
def Rp(x y:À Gc):bB (Å x) (Å y)=Ï ύ5 (.ok (Ĩ<|x++y)) È:=rfl
def RP(s:À Gc)(k:Int):jT (Å s) (Á k)=Ϩj (þ<|Ç (-϶f<=k)&&Ç (k<϶f)&&Ç (s.length*k.toNat<=I6)) ϴE (ϲC<|(ϲy k.toNat s).flatten.map OD.sh) È:=rfl
def vC(x:Gc)(n:Nat)(h:ϧH):jT (Å [x]) (Á n)=.ok (Ĩ<|ϮC x):=by
 rw[RP,Os]
 .rw[Xz]
  congr 2
  induction n with|zero=>rfl|succ n ih=>rw[K99,K8a,Wx,ih Ã,K99,L4];rfl
 rw[Yt,Yt,Yz,Yz,Yz];apply((Ã,Ã),?_);rw[Xz,K9e,Nat.one_mul];show Yf<|ax h
def TK(x y:Str):Xr (Ô x) (Ô y)=Ú (ß<|Ç<|x=y):=rfl
def T9(x y:Str):Yc (Ô x) (Ô y)=Ú (ß<|! Ç (x=y)):=rfl
theorem gR(p:Ź α):∀(L:À α)(i:Nat),(∀k,k<i->∀x,L[k]?=Đ->ϤU)->(∀x,L[i]?=Đ->à (p x))->i<=L.length->L.takeWhile p=L.take i
 |[],i,_,_,_=>Û
 |x::L,0,_,h,_=>by rw[Zaz,h x rfl,K7l];rfl
 |x::L,i+1,h1,h2,h3=>by
  rw[Zaz,h1 0 Ã x rfl,K7g,gR p L i (λk H y Y=>h1 (k+1) Ã y ϩc) (λy Y=>h2 y ϩc)<|ť h3];rfl
def Aa(s:À Gc)(a:Nat)(A:a<=s.length):cutD s (Â ϱv) none=s.drop a:=by delta cutD;rw[HT.vx,HT.AK,K8q A,K90<|î K8y]
end L3
namespace L3
open PySem L2 PySem.Spec PyProof.Rows
def Itd(l:Int)(n:Nat):It:=⟨λi _=>i<n,ϭQ (x=Á (l-i)),λi _=>n<=i⟩
def Fl{P:Do}{w:Ev}{K:At}{tg:On}(it:Ix)(l:Int)(n:Nat):Ϭs (Itd l n) (ϕN (-1) (Ũ-(i:Nat))<|-1) where
 mem:=Û
 obj:=λi h T b B=>by
  let e:b=it:=ϳp
  subst e;show(_,T,ϓc)
 keep:=λi h c T k=>k it Û _ T
 item:=by
  ext X y a r hc i p s d H E I f T hg;subst y a r;let(g,j,J,F,f4,m):=f it Û;let W:=PySem.Walks.range (prog:=X.prog) (w:=X.w) ϱV it l (-1) n;apply ϓR;let(t,rfl):=V;let q:ì p d H Ϭq:=I.turned (λb o B e=>u b o ϳp e) g j F f4 m;apply(_,rfl,Dk (s:=Ϭq) (n:="range_iterator") S rfl rfl á ⟨Á<|l-i,H,q,⟨t,?_⟩,Ϧu,S,ϫr (f b B)⟩)
  congr 1
  lia
 done:=by
  ext X y a r hc i p s d H E I f T hg;subst y a r;let(g,j,J,F,f4,m):=f it Û;show wpAny_pyNext_range_end ϱV T ϖf λc G=>(ϱB (ϥP ϯq F f4 m))
 self:=ϬS wpAny_pyIter_rangeiter
def rangeSize_down(a b:Int):Builtin.Range.rangeSize a b (-1)=Ï (a > b) (a-b) 0:=by
 delta Builtin.Range.rangeSize;simp only[ϱd (¬(Ë (-1) > 0)),if_false];let:(-(-1:Int))=1:=á
 rw[this,Int.ediv_one];split<;>lia
def small_down{a b:Int}(A:-ϰj<=a)(h:a<ϰj)(B:-ϰj<=b)(f:b<ϰj):Builtin.Range.small a b (-1)=true:=by
 delta Builtin.Range.small;rw[rangeSize_down];simp only[Builtin.Range.rangeFitsLong,Yt,Zcc,Yz,beq_iff_eq,ϱd (¬(Ë (-1) > 0)),if_false]
 split<;>lia
section
variable{X:Cx}
def K3{s:Da}{R:Ý It Hp}{E:Ý Db Da}{l hi:Int}(I:ø)(h:-ϰj<=l)(c:l<ϰj)(d:-ϰj<=hi)(f:hi<ϰj)(q:R (Itd l (ē (l-hi))) H):Ĕ (pyIter<|Ä s.heap.objs.size) ϗp E ((ϳ9 (Ţ ((Ģ "range" (Κ #[Á l t,Á hi u,Á (-1) v])))) tk)):=by
 apply wpAny_pyIter_range ϭs (small_down h c d f) ?_;let i:ì D0 σ H ((ϳ9 (Ţ ((Ģ "range" (Κ #[Á l t,Á hi u,Á (-1) v])))) tk)):=I.kept (ϱk (Ĺ e))
 apply(ϰA (Ţ<|(Ģ "range" (Κ #[Á l t,Á hi u,Á (-1) v]))),[ϰA (Ţ<|(Ģ "range" (Κ #[Á l t,Á hi u,Á (-1) v])))],_,_,H,rfl,
  i.kept (t':=tk) (ϱk (Ĺ e)),Fl _ l (ē (l-hi)),?_,ϺK,q)
 .let e1:l+Ë ϶2*(-1)=l:=Û
  let a:Ë ((ϱF ((ē (l-hi)))))-Ë ϶2=ϔR (-1):=by rw[rangeSize_down];split<;>lia
  change IsRangeIter _ _ (l+Ë ϶2*(-1)) (Ë ((ϱF ((ē (l-hi)))))-Ë ϶2) (-1);rw[e1,a];show θ
 let e:b=ϰA (Ţ<|(Ģ "range" (Κ #[Á l t,Á hi u,Á (-1) v]))):=ϳp
 subst e;show i.fpOk õ<|i.Uf.fresh õ
def N3(t:TA):TI:=ώS (∃i j:Int,d=[Á i,Á j,Á<|-1]/\(-ϰj<=i/\i<ϰj/\-ϰj<=j/\j<ϰj)/\R (Itd i (ē (i-j))) h)
theorem Fy{p pos:Pos}(hg:Ħ "range")(M:ϷJ)(A:ϰM ϧI ta)(f:Õ ϧI=(false,π)::Õ [b,c])(S:Ŕ (ϰU<|Õ [b,c])):
  ϸa (ô (ú "range" p) ϧI pos) (N3 ta):=by
 ext n s o H R I h;apply Call_<|Ϩx<|Ϲ4 (ϫf n s o H _ I h) f S;let(V,u,d,m,Q):=zz;obtain⟨i,j,e,⟨Q,g,k,l⟩,q⟩:=Q;subst e;cases m with
 |cons r rr=>
  cases rr with
  |cons r' rr=>
   cases rr with|cons r'' rr=>cases rr;let(t,rfl):=r;let(v,rfl):=r';let(T,rfl):=r'';show call_range_3 á (K3 d Q g k l q) (Ê<|PyProof.noPylong_small á)
end
def zG(l:Int)(n:Nat):À Gc:=Ó ϴq (Į (int<|l-k))
def iR3(a b c:Fe):Fi:=λd=>ã (a d) λx=>ã (b d) λy=>ã (c d) λz=>match x.er,y.er,z.er with
 |.int i,.int j,.int k=>Ï (þ (Ϥe&&Ç (k=-1))) (ò (zG i (ē (i-j)))) È
 |_,_,_=>È
def B8{K:At}{F:Hp}(l:Int)(k:Nat):Walks K F (Itd l k) (zG l k):=by
 ext i G H s1 m;delta zG;apply(λd h=>?_,ϔc);rw[T2]at h;let(j,J,rfl):=ϸc;let(a,b):=Za.mp J;let c:i=j:=ϭj
 subst c;apply(ϔG,ϧl H');let(rfl,rfl):=y;show(G,Ϯ3,Á _)
section
variable{M:Mx}{H:Hp}{σ:St}{X:Cx}{a b c e:On}{pos:Pos}
set_option tactic.hygienic true in
def V5(h:ϻ5 ϏF):N3 (ϱg<|ϯ4<|ae fb<|ī fc) σ H R':=by
 let(F,a,f,S,p):=h;apply(F,a,f,S,?_);delta iR3 at p;let O:=ϱ0;change ÿ f _ (ϯ4 (ae fb<|ī fc) a);rw[vP,vP,vP,FW];cases ha:fa a with
 |bad=>rw[ha]at O;show O
 |ex c=>rw[ha]at O;show O
 |ok x=>
  rw[ha]at O;let p2:ÿ f _ (fb a):=aq.bind O;cases hb:fb a with
  |bad=>rw[hb]at p2;show p2
  |ex c=>rw[hb]at p2;show p2
  |ok y=>
   rw[hb]at p2;let b:ÿ f _ (fc a):=ϰZ p2;cases hc:fc a with
   |bad=>rw[hc]at b;show b
   |ex c=>rw[hc]at b;show b
   |ok z=>
    rw[hc]at b;ext V l g X e1 r W;let(G1,d1,K):=r.W3 e1 W;cases K with
    |@cons v _ _ _ K k2=>
     cases k2 with
     |@cons w _ _ _ k2 k3=>
      cases k3 with
      |@cons u _ _ _ k3 k4=>
       cases k4;let P:aq M H f ϸO (match x.er,y.er,z.er with
        |.int i,.int j,.int k=>Ï (þ (Ϥe&&Ç (k=-1))) (ò (zG i (ē (i-j)))) È
        |_,_,_=>È):=b
       generalize x.er=dx at P K;generalize y.er=dy at P k2;generalize z.er=dz at P k3
       split at P
       .rename_i i j k
        cases K;cases k2;cases k3;by_cases s:þ (Ϥe&&Ç (k=-1))
        .rw[Os s]at P
         rw[Yt,Yt,Yz]at s;obtain⟨⟨d,e⟩,rfl⟩:=s;let d:=fU.mp d;let e:=fU.mp e;show(i,j,rfl,(d.1,d.2,e.1,e.2),ώj<|B8 _ _)
        rw[P3 s]at P;show P.elim
       show P.elim
def Ny(hg:Ħ "range")(g:ϷJ)(h:â a fa)(k:â b fb)(l:â c fc)(S:Ñ (Õ ϧI=(false,π)::Õ [b,c]))(d:Ñ (Õ [b,c]=(false,ϲV)::Õ [c]))(f:Ñ (Õ [c]=(false,eval c X.env)::Õ []))(e:Ñ (Ŕ<|ϰU<|Õ [b,c])):Ϸ1 (ô (ú "range" p) ϧI pos) ϏF:=λK m=>λi s j H r I z=>ϙd<|V5 z
def N2(K:At):V->Ý Hp VK:=λx H Q=>∃a s,x=Ä a/\ϱ7 s/\∀p,ϴ9->Q (Ä p) (Ę p<|ä s.reverse)
def tRv(r:V->Ý Hp VK)(te T:TE):TE:=λa H Q=>te a H λx h=>T a h λz b=>z=Á (-1)/\r x b Q
def RU{T:On}{ops:Db->Db->À Db}(he:ç e te)(m:ç T ts)(S:∀v u,subscripted ϨG false v u=operate (ops v u) (ϭP u)):ç (û e ϨG pos) (tRv (N2 X.K) te ts):=by
 ext p s c H Q I h;apply Subscript_<|ϴL (ϯQ c H _ I h);let(x,d,g,R,w):=zz;apply wpAny_Slice ?_;rw[evalPart_none];apply Δ;apply Δ;rw[evalPart_some];apply Rn (m p s1 c d _ g w) λV n zz=>?_;let(z,f,l,C,k):=zz;let(rfl,k):=k;let(t3,rfl):=C;let(a,y,rfl,t,q):=k;cases R;let U:ì p c f {n with heap:=n.heap.push (Ģ "slice" (Κ #[æ,æ,Á (-1) t3]))}:=l.kept (t':=n.toks) λb O q=>Ĺ q;change Ĕ (subscriptTail e ϨG (Ä a)<|Ä n.heap.objs.size) (ϳX p c Q) X.xe {n with heap:=n.heap.push (Ģ "slice" (Κ #[æ,æ,Á (-1) t3]))};let(i,r,j,Z):=U.list t;apply tail_any (ops:=ops (Ä a)<|Ä n.heap.objs.size) j.isList.typeIs slot_list_getitem.lookup ?_ ϥp;apply ϔb ϖh æ æ (Á (-1) t3) Û ?_ (by rw[Ys,<-r.length];show Z);rw[PySem.W.krv_pick];apply(Ä _,_,U.laid (t':=n.toks) (o:=ä y.reverse) (λb O q=>Ĺ q) õ ?_,rfl,q _<|U.Uf.fresh õ);apply(ϐV List.length_reverse,i.reverse,0,r.reverse,?_);let e:i.toArray.toList.reverse.toArray=i.reverse.toArray:=Û
 rw[e];show θ
def Mq(a s:Fe):Fe:=λb=>ś λx=>ã (s b) λz=>match x.er,z.er with
 |.list ds,.int k=>Ï (k=-1) (ĥ ds.reverse.map OD.sh) È
 |_,_=>È
theorem B1.rev{K:At}{F:Hp}:∀{v:À V}{d:À Gc},Ū v d->Ū v.reverse d.reverse|_,_,.nil=>í|_,_,.cons h r=>ϳH K8R K8R (B1.app (B1.rev r)<|ð h í)
set_option tactic.hygienic true in
def Vf(h:ê ϑ7 σ H Q):tRv (N2 M.K) (ê fa) (ê fb) σ H Q:=by
 let(F,d,f,S,p):=h;apply(F,d,f,S,ħ λx X v g j o e1 r w=>?_);let(G1,d1,b):=ϲA;apply(G1,d,f,ϰp,ϳ7 X d1 λy py V i m Y e l W=>?_);let(G2,d2,c):=l.W3 e W;let E:=ϲX;generalize x.er=dx at py b;generalize y.er=dy at py c
 split at py
 .rename_i s k
  cases c;by_cases K:k=-1
  .rw[Os K]at py
   cases b with|@lst a vs _ h1 h2=>show(ϱl K,a,vs,rfl,ϔv,λp P=>T0.Zx d2.fh (T0.pre E py) (B1.rev<|h2.same d2.ff) P)
  rw[P3 K]at py;show py.elim
 show py.elim
def OH{T:On}(ops:Db->Db->À Db)(he:â e fa)(h:â T fb)(S:∀v u,subscripted ϨG false v u=operate (ops v u) (ϭP u):=by intro _ _;with_unfolding_all rfl):â (û e ϨG pos) ϑ7:=λr m=>ϨN (RU (pos:=pos) (p2:=p2) (he r m) Ń S) Y1 (Vf z)
theorem Im:ϑ7 ρ=opK (λx z=>match x,z with
 |.list ds,.int k=>Ï (k=-1) (ĥ ds.reverse.map OD.sh) È
 |_,_=>È) ϥq ϥr:=rfl
def Ux{x y z:Int}(h:ϥq=Ú (Á x))(H:ϥr=Ú (Á y))(a:fc ρ=Ú (Á z))(Z:z=-1)(s1:ϸp aG)(m:ϸo aG):ϏF ρ=ò (zG x (ē (x-y))):=by delta iR3;rw[h,H,a];subst Z;simp only[aF,aS,s1,m,K7c,decide_true,K7y]
def Am{l:Int}(h:Ķ (zG l n)=ϰH):i<n/\d=Á (l-i):=by
 delta zG at h;rw[T2]at h;let(j,J,rfl):=ϸc;let(H,a):=Za.mp J;let b:i=j:=ϩd
 subst b;show(Ϻe,rfl)
def JT(l:Int)(n:Nat):Ì (zG l n)=n:=ϩC zG
def wK(a:Fe)(i:Nat):Fs:=λb=>ś λy=>match ϵq with
 |some (some x)=>ϤS ot [y,x]
 |_=>È
def Pc(h:f.Nodup)(hg:g.Nodup)(d:ų (a∉g))(N:p∉f)(n:p∉g):(ϰs (p::(f++(g++[])))):=by rw[Xf,Yj,Ya];show(λm=>(P1.mp m).elim N n,h,hg,Ϥi (d a A (e▸B)))
set_option tactic.hygienic true in
def KQ(h:Ś (wK fa i)):HX (Pp<|dB (ê fa)<|dB ϰg qL) D σ H:=by
 let(F,t,P,S,p):=h;apply(F,t,P,S,ħ λy py w g b Y e1 r W=>?_)
 split at py
 .rename_i x e
  let(v,f,g1,g2,k,c,rfl,A):=ϴ0;let sub:ų (a∈ϴf):=ϰt (Ļ<|Ŀ m);let d:f.Nodup:=ϓi
  apply(v,k,by change Ą 2;decide,Ϥw);let x1:Own M.K g b v x f:=c.mono e1.ff λa _ o z=>ϧe z;let l:q∉f:=ϻN z (x1.Xm q m) Q
  let s:q∉Y:=ϻN z (r.own.Xm q m) Q
  let j:∀a∈Y,Ϸo:=ύt (c.Xm a m) (W a z)
  let up:∀a o,b a=Ø->upd b q (Ī [w,v]) a=Ø:=λa o z=>Ù (ay<|aJ z Q) z
  apply py (Ä q) g (upd b q<|Ī [w,v]) (q::(Y++(f++[]))) (όG e1.fh Q).fh ⟨.ot aP<|ð (ϪB ţ<|(ϸW z up))<|ð (x1.mono ţ (ϸW z up)) í,Pc r.nd d j s l,ϲz⟩ ⟨e1.ff,λa o z _=>up a o<|ϧe z,ϲz,λa z _ u=>e1.nw a z u⟩
  .rw[Xf]at m
   rcases W7.mp m with rfl|m
   .exact e1.fh.free Q
   rcases P1.mp m with m|m
   .exact ϥa m
   show let⟨_,z⟩:=c.Xm a m;e1.nw a (bw z) (ϵO ϲ9)
  rw[Xf]at m;rcases W7.mp m with rfl|m
  .exact Ð<|ϪM Q
  rcases P1.mp m with m|m
  .exact Ð<|W a m
  show Ê ϲ9
 show py.elim
def HQ(i:Nat){x1}(h:â e fa)(hN:Ñ Ξ)(hv:ϲP)(hd:ġ "__debug__")(Yy:ġ "__classdict__")(hs1:Ñ (Õ [e,Ü p]=ź (Õ [Ü p])))(hs2:Ñ (Õ [Ü p]=ϰv (Ü p) (Õ []))):
  ŋ (Ϧ4<|Â<|.Tuple [e,Ü p] x1 pt) (wK fa i):=λhK hM=>Z8 (rC<|HB<|bz Ϧ8 (ϸA ϳr hs2) hs1) (Ň (KQ q))
def Me(h:Ŋ=Â Đ)(H:ϥq=χ):wK fa i ρ=ϤS ot [y,x]:=by delta wK;rw[H,aF,h]
end
def jV(i:Nat)(u:Int)(a:Fe):Nat->Nat->Env->ϱQ
 |0,_,ρ=>ü ρ
 |c+1,m,ρ=>match Ŋ with
  |some (some<|.ol xs)=>match xs[m]? with
   |some (.ol ys)=>ã μ λy=>match ϐG u with
    |some q=>jV i u a c (m+1)<|ł<|Ď<|xs.set m<|.ol<|ys.set q y
    |none=>È
   |_=>È
  |_=>È
section
variable{p p1 p2 p3 pos pos':Pos}
end
def keyOf:Gc->Ö Key|.int i=>Â<|Ê i|.str x=>Â<|Ð x|_=>none
def Az(k:Key):ϸB (kD k)=Β:=by cases k<;>rfl
def mi(v:À ς)(k:Key):Ö Gc:=(v.find? λK=>Ç ϲb).map ň
def putD(v:À ς)(k:Key)(d:Gc):À ς:=
 Ï (ā v.any (λK=>Ç ϲb)) (v.map (λK=>Ï ϲb (K.1,d) K)) (v++[(k,d)])
def kG(v:À ϪQ)(k:Key):Ö Gc:=(v.find? λK=>Ç<|ϸB K.1=Β).map ň
def tE(v:À ς)(k:Key):kG (v.map ϲk) k=mi v k:=by
 delta kG mi
 induction v with
 |nil=>rfl
 |cons p r ih=>
  rw[L4,K8p,K8p];by_cases h:ϹI
  .rw[W6 h,W6<|by change ϸB όJ=Β;rw[Az,h]]
   rfl
  rw[Ll h,Ll<|by change¬ϸB όJ=Β;rw[Az];exactλz=>h<|Zh z];show ih
def gDx:ϱn
 |.dict L0,y=>match keyOf y with
  |some k=>gV<|kG L0 k
  |none=>È
 |_,_=>È
def Vh(k:À ς)(i:Int):gDx (dD k) (Á i)=gV (mi k<|Ê i):=by
 change gV (kG _ _)=_;rw[tE]
def eD1(a b:Fe):Fe:=λc=>ã (a c) λx=>ã (b c) λy=>match ϸB x.er with
 |some k=>ϵZ [(k,y.er)]
 |none=>È
def sDP(i:Nat)(k a:Fe):Fs:=λb=>match ϵq with
 |some (some<|.od L0)=>ś λy=>ã (k b) λz=>match ϸB z.er with
  |some q=>Ï Ϯf (ü (ϲo<|϶Y<|ϯ0 q y.er)) È
  |none=>È
 |_=>È
section
variable{K:At}{F H:Hp}
def FN:∀{s:À ϴl}{D:À ς}{k:Key}{d:Gc},ϥM s.map D.map (mi D k=ϰH->∃v,qM s k=ă/\Ĝ F v d):=by
 ext s
 induction s with
 |nil=>
  ext D _ _ h _ e;cases D with
  |nil=>cases e
  |cons=>cases h
 |cons p s ih=>
  ext D k d h r e;cases D with
  |nil=>cases h
  |cons q D=>
  rw[L4,L4]at h r;let(c,f):=ϥG;cases r with
  |cons r1 r2=>
   delta mi at e;rw[K8p]at e;by_cases H:ϥF
   .rw[W6 H]at e
    let e':=Zh e;show(p.2,sM<|c.trans H,ϰy e' r1)
   rw[Ll H]at e;let(v,a,b):=ih (k:=k) (d:=d) f r2 e;show(v,by rw[sZ λz=>H<|c.symm.trans z];show a,b)
def JY{v:À ϴl}{d:À ς}(k:Key)(h:ϲ8 v.map ģ d.map):ϲ8 v.any (λK=>Ç ϲb) d.any:=by
 let e1:(v.any λK=>Ç ϲb)=(v.map ģ).any λx=>Ç (x=k):=ϰd Zcq
 let E:(d.any λK=>Ç ϲb)=(d.map ģ).any λx=>Ç (x=k):=ϰd Zcq
 rw[e1,E,h]
theorem JO{k:Key}(f:Ĝ F v d):∀{s:À ϴl}{D:À ς},ϥM s.map D.map (Ϭg s.map (c.1,v) ģ=Ϭg D.map (c.1,d) ģ/\Ū (Ϭg s.map (c.1,v) ň) (Ϭg D.map (c.1,d) ň)):=by
 ext s
 induction s with
 |nil=>
  ext D h _;cases D with|nil=>show(rfl,í)|cons=>cases h
 |cons p s ih=>
  ext D h r;cases D with
  |nil=>cases h
  |cons q D=>
  rw[L4,L4]at h r;let(H,e):=ϥG;cases r with
  |cons r1 r2=>
   let(a,b):=ih e r2;rw[L4,L4,L4,L4,L4,L4,a];by_cases Q:ϥF
   .rw[Os Q,Os<|H.trans Q]
    show(by rw[H],ð f b)
   rw[P3 Q,P3 ϖx];show(by rw[H],ð r1 b)
def Jp{k:Key}(H:Ĝ F v d)(h:ϲ8 L0.map ģ ds.map)(r:Ū (L0.map ň) (ϲL ň)):
  Ó (ϮV v) ģ=Ó (putD ds k d) ģ/\Ū (Ó (ϮV v) ň) (Ó (putD ds k d) ň):=by
 delta putK putD;rw[JY k h];by_cases A:ā ds.any (λV=>Ç<|V.1=k)
 .rw[Os A,Os A]
  show JO H h r
 rw[P3 A,P3 A,Wx,Wx,Wx,Wx,h];show(rfl,r.app<|ð H í)
def nN{k:Key}(r:Ĝ F y d)(e:keyOf d=Β):y=kV k:=by
 cases r with
 |Re=>cases e
 |bl _=>cases e
 |int i=>cases e;rfl
 |str x=>cases e;rfl
 |lst _ _=>cases e
 |tup _ _=>cases e
 |dct _ _ _=>have e':(none:Ö Key)=Β:=e;cases e'
 |ins _ _ _=>have e':(none:Ö Key)=Β:=e;cases e'
end
section
variable{H:Hp}{Q:VK}
def TZ:R2:=ϰD (∃a v,x=Ä a/\όf ă/\Q v H)
def FR(nm:Str)(d:À ϱf)(k:Key):kG ((æ,Ô nm)::d.map ϲh) k=none:=by
 delta kG;rw[Option.map_eq_none_iff,Zck];ext x H;rcases W7.mp H with rfl|H
 .exact ϔe
 let(p,_,rfl):=ϵ3
 exact ϔe
def SD:ϰT TZ gDx:=by
 ext x y X D F H f Q s R Y p;cases R with
 |Re=>show p.elim
 |bl _=>show p.elim
 |int _=>show p.elim
 |str _=>show p.elim
 |lst _ _=>show p.elim
 |tup _ _=>show p.elim
 |@ins a C X fs nm ds h1 h2 h3=>
  let O:aq M H f Θ (match keyOf D with
   |some k=>gV<|kG ((æ,Ô nm)::ϲL ϲh) k
   |none=>È):=p
  cases hk:keyOf D with
  |none=>rw[hk]at O;show O.elim
  |some k=>
   rw[hk]at O;let p2:ÿ f Θ (gV<|kG ((æ,Ô nm)::ϲL ϲh) k):=O;rw[FR]at p2;show p2.elim
 |@dct a L0 ds h1 h2 h3=>
  let O:aq M H f Θ (match keyOf D with
   |some k=>gV<|kG (ϲL ϲk) k
   |none=>È):=p
  cases hk:keyOf D with
  |none=>rw[hk]at O;show O.elim
  |some k=>
   rw[hk]at O;let p2:ÿ f Θ (gV<|kG (ϲL ϲk) k):=O;rw[tE]at p2;cases hv:mi ds k with|none=>rw[hv]at p2;show p2.elim|some d=>rw[hv]at p2;let(v,v1,V):=FN h2 h3 hv;show(a,v,rfl,Ê ⟨L0,k,Ê<|s _ _ h1,nN Y hk,v1.symm⟩,T0.val s p2 V)
def Ks(h:ê (eD1 fa fb) σ H Q):NC [(ê fa,ê fb)] σ H Q:=by
 let(F,i,f,S,p):=h;ext q a;let E:Α F (Ę q Ϻ4):=όG S.same a;apply(F,i,f,ϫh,Ŵ ((ϱ0).ext E) λx X v C G I e1 R W=>?_);let(G1,d1,K):=ϸb W;let e:=E.trans d1;apply(G1,i,f,(ϫh).ext d1,Ŵ ((ϰZ X).ext e) λy py u D l Y r t A=>?_);let(G2,d2,s):=t.W3 r A;let c:l q=Â Ϻ4:=ϺI<|ϏP aP;apply(c,?_);cases hk:keyOf x.er with
 |none=>rw[hk]at py;show py.elim
 |some k=>
  rw[hk]at py;let V:=nN K hk;apply([(k,u)],ϰd V,(ϱd<|1<=15),?_);let em:uK [] [(k,u)]=[(k,u)]:=rfl;rw[em];let P:Θ (.od [(k,y.er)]):=py;let d:=ϫN d2;let j:F q=none:=S.same.free a;let g:G2 q=none:=(ϲX).nw q (bw aP) j;apply P (Ä q) G2 _ [q] ⟨d.ff,ϮD,ϮD,λb z w=>?_⟩ ⟨ϘU<|ð s í,Û,϶N⟩ ϶N
  .let B:b≠q:=ϔT
   rw[ay B];show ϺI (ϏP<|Ù (ay B) z)
  .let B:b≠q:=ϗl g z
   rw[ay B];show ϑq
  .let B:b≠q:=Ϧy (z a)
   show(ϲX).nw b (Ù (ay B) z) w
  .let:b=q:=ϳq
   rw[this];show g
  let:b=q:=ϳq
  rw[this];show a
theorem X7.writeD{K:At}{F:Hp}{f:Env}{P:À Ix}(S:ϸk F H σ f P){i:Nat}{d:À ς}(x:f[i]?=Â (Â<|.od d)):
  ∃a s,ϲG=Â (Â<|Ä a)/\H a=Â (.dK s)/\ϲ8 s.map ģ d.map/\Ū (ϳ2 ň) (d.map ň)/\
   ∀c h k ds',Α c h->ϲ8 k.map ģ ds'.map->B1 K c (k.map ň) (ds'.map ň)->
    ∃p,ϸk c (Ϧd ϧU) σ (f.set i<|Â<|.od ds') p/\Ŏ P c (Ϧd ϧU) p:=by
 let(v,t,g1,g2,g,j,rfl,l):=S.own.at x;cases j with
 |@od a s _ ha hk hr=>
  let nd:=S.nd;simp only[Ya,P1,y_,Yj,W7,K9B]at nd;obtain⟨u,⟨na,w⟩,N⟩:=nd;apply(a,s,g,ha,hk,hr,λc h k ds' e Q r=>?_);let fa:c a=none:=e.nw a (bw ha) (ϵO Û)
  let own:=l c (Ϧd ϧU) e.ff (λb m o q=>by
   let:b≠a:=by
    ext rfl;rcases P1.mp m with m|m
    .exact N b m b (Ê rfl) rfl
    show na m
   rw[ay this];show Ϯ4) (Ä a) (.od ds') [a]<|.od aP Q r
  rw[tN g]at own;let Yp:∀b∈ϲ4 [a],c b=none:=λb m=>let⟨_,q⟩:=S.own.Xm b m;e.nw b ϻn (S.fr b m)
  apply(ϲ4 [a],(?_,own,S.nd,Yp,Ù K8z S.len),(e.ff,λb o q m=>?_,λb m=>Ê m,λb q m z=>e.nw b q z))
  .intro b o q
   rw[ay<|ϳR fa];show e.fh _ _ q
  let B:b≠a:=Ϧy (m Û)
  rw[ay B];show Ϯ4
set_option tactic.hygienic true in
def Rq(h:Ś (sDP i k a)):NI ϰg (ê k) (ê a) D σ H:=by
 let(F,g,f,S,p):=h;delta sDP at p;split at p
 .rename_i d e
  apply(F,g,f,S,ħ λy py v I N Y e1 R W=>?_);let(G1,d1,K):=ϸb W;let(l,s,w,x,j,A,wr):=S.writeD e;apply(_,w,G1,g,f,ϰp,ϳ7 py d1 λz pz u J m Z t C G=>?_);let(G2,d2,B):=C.W3 t G;let E:=ϲX;cases hk:keyOf z.er with
  |none=>rw[hk]at pz;show pz.elim
  |some q=>
   rw[hk]at pz;let P:ÿ f (ϴP f D) (Ï (d.length<I6) (ü (g.set i<|϶Y<|putD d q y.er)) È):=pz;by_cases c:d.length<I6
   .rw[Os c]at P
    let L:s.length=d.length:=ώl (ϱT j) K1 this
    let r:=Ϛi<|A.same E.ff;let(b,o,T):=wr G2 m _ _ E r.1 r.2;show(l,_,rfl,Ê ⟨s,q,ϳD x,nN B hk,Ϯm (uL c),rfl⟩,ϯA b o T)
   rw[P3 c]at P;show P.elim
 show p.elim
end
section
variable{X:Cx}{p pos pos':Pos}
def AQ(U:ϷM 1)(A:â a fa)(B:â b fb)(S:P9 b):â (û a b pos) (B2 gDx fa fb):=λr m=>Y1 (L8 U Ϲo Ϲq S) (Ň (JW SD q))
def Vk(A:â a fa)(B:â b fb):â (.Dict [ϸg] [b] pos) (eD1 fa fb):=ο Y1 (LW (GO Ϲo Ϲq KL) rfl rfl Û<|ϱd (1<=15)) Ks
def vz(i:Nat)(hu:ϷM 1)(hb:â b fb)(h:â e fa)(hN:Ñ Ξ)(hv:ϲP)(hd:ġ "__debug__")(Yy:ġ "__classdict__")
  (hs:Ñ (ϦH (Â<|û (Ü p) b pos') pos.line X.env=ϳy)):ŋ (ϳc [û (Ü p) b pos'] e pos) (sDP i fb fa):=λhK hM=>
 Z8 (LL hu ϳr ϦT Ϧ8 hs) (Ň (Rq q))
end
section
variable{ρ:Env}{a b k:Fe}
def Og(o:Ö (Ö OD))(a k:č)(i:Nat)(b:Env):ϱQ:=match o with
 |some (some<|.od L0)=>X6 (λy=>X6 (λz=>match ϸB z.er with
  |some q=>Ï Ϯf (ü (ϲo<|϶Y<|ϯ0 q y.er)) È
  |none=>È) k) a
 |_=>È
def zw(i:Nat):sDP i k a ρ=Og Ŋ μ (k ρ) i ρ:=rfl
def yY{z:Int}:Og (some<|Â<|.od L0) (.ok Ē) (Ú<|Á z) i ρ=Ï Ϯf (ü (ł<|϶Y<|ϯ0 (Ê z) d)) È:=by
 change(match ϸB (Ă<|int z).er with
  |some q=>Ï Ϯf (R.ok (Out.nx<|ł<|϶Y<|ϯ0 q (ϺY).er)) È
  |none=>È)=_
 rw[aS,aS];rfl
end
def lC(r:W0 k A):ϩK 1:=Œ r.units
def signs(x:Str):À Gc:=x.cps.toList.map λc=>PyData.str ϷZ
section
variable{pos kpos:Pos}
end
def Ca(x:Gc)(l hi:Ö Int):č:=match x with
 |.tuple ds=>Ï (ϵ2 ds.length l=0/\ϥY ds.length hi=ds.length) È (Ú (ï<|cutD ds l hi))
 |_=>È
set_option tactic.hygienic true in
def Ot{X:Cx}{M:Mx}(r:ŕ):OkS M (Ve X.K) Ca:=by
 rw[r];ext x l hi d F H f Q s R p;delta Ca at p;split at p
 .cases R with
  |@tup a vs ds h1 h2=>
   split at p
   .exact p.elim
   rename_i w;apply(a,vs,rfl,ϭB,by rw[϶M];show w,ϪF);apply T0.tupF s p ϏY ?_ h;delta Aw cutD;rw[϶M];show ϖn<|B1.drop _ h2
 show p.elim
def uD(i:Nat)(k:Fe)(a:Fe):Fs:=λb=>match ϵq with
 |some (some<|.ol xs)=>ã (k b) λz=>match z.er with
  |.int q=>match ϸT q with
   |some j=>match Ϩb with
    |some (.ol ys)=>ś λy=>match y with
     |.ol zs=>if Ϭz then ü (ϲo<|Ď<|ϷS<|.ol<|ys++zs)else È
     |_=>È
    |_=>È
   |none=>È
  |_=>È
 |_=>È
section
variable{M:Mx}
set_option tactic.hygienic true in
def KZ(h:Ś (uD i k a)):ϹZ Dd (ϹT<|ê k) (ê a) qL:=by
 let(F,t,l,S,p):=h;delta uD at p;split at p
 .rename_i x e
  let hc:comps (.ol x)=Â (true,x):=rfl;let(v0,_,_,_,I,O,_,_):=ϴ0;apply(v0,I,F,t,l,S,ħ ύp);let(G1,d1,N):=ϩ3;generalize z.er=dz at pz N;cases dz with
  |int q=>
   cases N;let Z:aq M H l (ϴP l D) (match Xx x.length q with
    |some j=>match x[j]? with
     |some (.ol s)=>ã (a t) λy=>match y with
      |.ol zs=>if ϻT<=I6 then ü (ϭF<|Ď<|ϭV<|.ol Ϸa)else È
      |_=>È
     |_=>È
    |none=>È):=pz
   cases hj:Xx x.length q with
   |none=>rw[hj]at Z;show Z.elim
   |some j=>
    rw[hj]at Z;let r:aq M H l (ϴP l D) (match x[j]? with
     |some (.ol s)=>ã (a t) λy=>match y with
      |.ol zs=>if ϻT<=I6 then ü (ϭF<|Ď<|ϭV<|.ol Ϸa)else È
      |_=>È
     |_=>È):=Z
    split at r
    .rename_i s Y
     let(R,V,b,ws,f,J,U,X,C,K,w,nf,T,wr):=(ϰp).write2 e hc Y;rw[I]at J;cases J;let at1:T1 V q=Â (Ä b):=by delta T1;rw[X,hj];show C
     apply(R,V,q,Ä b,rfl,rfl,Xa.of U,at1,Ê ⟨rfl,ws,Xa.of K⟩,G1,t,l,ϰp,Ŵ ((aq.bind r).ext d1) λy py v A G fy E r2 W=>?_);cases y with
     |sh d=>show py.elim
     |ot s=>show py.elim
     |od s=>show py.elim
     |oi _ _ _=>show py.elim
     |pl _ _=>show py.elim
     |ol zs=>
      let P:ÿ l (ϴP l D) (if ϻT<=I6 then ü (ϭF<|Ď<|ϭV<|.ol Ϸa)else È):=py;by_cases L:ϻT<=I6
      .rw[Os L]at P
       let(ro,rn,rf):=r2;cases ro with
       |@ol c us _ g hcc hu=>
        apply(b,c,ws,us,rfl,rfl,ϳD K,hcc,ϳH w.len hu.len (lS L),?_);let o:Ϸg A G (ws++us) Ϸa ϧX:=(w.mono E.ff λc _ o q=>ϳD q).app hu;let(B,Q,st):=wr A G _ _ _ E o (ϹE ⟨nf,(Yj.mp rn).2,λc m d m' z=>Ϭd (w.Xm c m) (W c<|Ā m')⟩) (λc m=>϶m Ê (λm=>Ð<|W c<|Ā m)) λc m=>϶m (ϓJ<|T c m) (λm=>rf c<|Ā m);show P σ A _ B Q<|d1.Wy.trans st
      rw[P3 L]at P;show P.elim
    show r.elim
  |none=>show pz.elim
  |bool _=>show pz.elim
  |str _=>show pz.elim
  |list _=>show pz.elim
  |tuple _=>show pz.elim
  |dict _=>show pz.elim
 show p.elim
end
section
variable{X:Cx}{x:Str}{p ap cp pos:Pos}
def JN(i:Nat)(hb:â b fb)(h:â e fa)(hix:f_ b)(hN:Ñ Ξ)(hv:ϲP)(hd:ġ "__debug__")(Yy:ġ "__classdict__")(Xi:Ñ (ϵv (û (Ü p) b p2) "extend"))(Yx:Ñ (ϲN cp [e]))(Xh:Ñ ϶j)(hs:Ñ (Õ [e]=ź (Õ [])))(X2:Ñ (Ŕ<|ϷK<|Õ []))(hsw:Ñ (ϵw (ĝ (û (Ü p) b p2) "extend" ap) [e] cp)):ŋ (ϳT (ô (ĝ (û (Ü p) b p2) "extend" ap) [e] cp) pos) (uD i fb fa):=λhK hM=>E9 PySem.F.slot_list_extend PySem.F.type_list_extend EB (Ϻf ϳr ϦT hix) ϩl (Ň<|KZ q) Xi Yx Xh hs X2 hsw hK
end
section
variable{ρ:Env}
def L_{z:Int}(h:Ŋ=Â (Â ϲD))(H:k ρ=Ú (Á z))(b:ϸT z=ϰR)(e:Ϩb=Â ϵT)(g:μ=ò ϪR)(l:Ϭz):
  uD i k a ρ=ü (ł<|Ď<|ϷS<|.ol<|ys++zs):=by
 delta uD;rw[h,H];simp only[aF,aS,b,e,g,l,K7y]
end
def BD(s:À Gc)(j:Nat):Bool:=s.any λd=>match d with
 |.int q=>Ç<|q=ą
 |_=>false
def e_(s:À Gc):Nat->À OD->À OD|_,[]=>[]|i,x::xs=>(if BD s i=true then ı x.er else x)::e_ s (i+1) xs
def yB(i c:Nat)(f:Fs):Fs:=λa=>match ϰ5,a[c]? with
 |some (some<|.ol xs),some (some<|.sh<|.list ks)=>f<|ϲU<|Ď<|e_ ks 0 xs
 |_,_=>f a
theorem F5.frzS{K:At}{F H:Hp}(S:À Gc)(i:Nat){d:À V}{s:À OD}{f:À Ix}(o:ŧ d s f)(nd:f.Nodup):
  ∃c j:À Ix,(∀a,a∈f↔a∈c\/a∈j)/\j.Nodup/\(∀a∈c,a∉j)/\∀G,aB F G->(∀a∈c,∀o,H a=Ø->G a=Ø)->Ϸz G H d (e_ S i s) j:=by
 induction s generalizing i d f with
 |nil=>cases o;show([],[],(λa=>Û),K8w,(ϰt Ϥq),λG e k=>F5.nil)
 |cons x r0 ih=>
 cases o with
 |@cons _ _ fh fr _ _ h r=>
  rw[Ya]at nd;let(N,u,n):=nd;let(c,j,A,l,p,t):=ih (i+1) r u;by_cases P:BD S i=true
  .apply(fh++c,j,ϱw,l,λa m M=>?_,λG e k=>?_)
   .rw[P1,P1,A a]
    constructor
    .rintro(z|z|z)
     .exact Ê<|Ê z
     .exact Ê<|Ð z
     show Ð z
    rintro((z|z)|z)
    .exact Ê z
    .exact Ð<|Ê z
    show Ð<|Ð z
   .rcases P1.mp m with z|z
    .exact n a z a (Ψ (A a)<|Ð M) rfl
    show p a z M
   delta e_;rw[Os P];let:=F5.cons (K:=K) (F:=G) (H:=H) (f:=[]) (g:=j) (Own.sh<|h.W3 e (ϴu (k a (Ŀ m) o q)))<|t G e (ϱL (Ļ m));show this
  apply(c,fh++j,ϱw,?_,λa m M=>?_,λG e k=>?_)
  .rw[P1,P1,A a]
   constructor
   .rintro(z|z|z)
    .exact Ð<|Ê z
    .exact Ê z
    show Ð<|Ð z
   rintro(z|z|z)
   .exact Ð<|Ê z
   .exact Ê z
   show Ð<|Ð z
  .rw[Ya]
   show(N,l,λa m b J=>n a m b<|ϺP<|Ð J)
  .rcases P1.mp M with z|z
   .exact n a z a (Ψ (A a)<|Ê m) rfl
   show p a m z
  delta e_;rw[P3 P];show ð (h.mono e (ϴu q))<|t G e k
set_option tactic.hygienic true in
def Py(h:Ś ϑ8):ϱ8 f D σ H:=by
 let(F,I,P,S,p):=h;delta yB at p;split at p
 .rename_i X s e _
  let(v,f,g1,g2,x,y,rfl,B):=ϴ0;cases y with
  |@ol a vs _ fl ha hv=>
   let nd:=S.nd;let N:=nd;simp only[Ya,P1,y_,Yj,W7]at N;obtain⟨C,⟨na,E,G,l⟩,d⟩:=N;let(g,j,A,r,t,u):=F5.frzS s 0 hv E;let k:∀b∈g,F b=none:=λb m=>S.fr b (Ű<|ϺP<|Ê m);let o:=B ϑ9 H (cV k) (Ň q) (Ä a) (.ol<|e_ s 0 X) (a::j) (.ol ha<|u _ (cV k) λb m o q=>Ù (jO m) q);rw[tN x]at o;let sub:∀b∈ϲ4 (a::j),b∈ϲ4 (a::fl)/\b∉g:=λb m=>by
    simp only[P1,W7,y_]at m⊢;rcases m with m|(m|m|m)
    .exact(Ê m,λz=>d b m b (Ð<|Ê<|ϺP<|Ê z) rfl)
    .exact(Ð<|Ê m,λz=>na<|Ê<|by rw[<-m];show ϺP<|Ê z)
    .exact(Ð<|Ð<|Ê<|ϺP<|Ð m,λz=>t b z m)
    show(Ð<|Ð<|Ð m,λz=>l b (ϺP<|Ê z) b m rfl)
   let T:Ŏ (ϲ4<|a::fl) ϑ9 H (ϲ4<|a::j):=⟨cV k,ϦC,λb m=>Ê (sub b m).1,λb h m z=>by
    rw[dt λw=>m<|Ű (ϺP<|Ê w)]
    show z⟩
   apply(ϑ9,_,_,(ϯy,o,?_,϶N,Ù K8z S.len),Xy.Wy T p)
   .simp only[Ya,P1,y_,Yj,W7]
    apply(C,(϶X,r,G,λb m c J=>l b (ϺP<|Ð m) c J),λb m c J=>?_)
    .rcases z with z|z
     .exact na<|Ê<|Ψ (A a)<|Ð z
     show na<|Ð z
    rcases J with z|z|z
    .exact Ϗp<|Ê z
    .exact Ϗp<|Ð<|Ê<|Ψ (A c)<|Ð z
    show Ϗp<|Ð<|Ð z
   rw[dt (sub b m).2];show S.fr b (sub b m).1
 show(F,I,P,S,p)
def K8{T:No}(i c:Nat)(h:ŋ T f):ŋ T ϑ8:=ο Z8 Ń Py
def mw(s:À OD):À Gc->Ö (À Gc)
 |[]=>Â []
 |.int q::r=>match Ϥh q with
  |some j=>match ϥE with
   |some (.sh d)=>Ó (mw s r) λD=>d::D
   |_=>none
  |none=>none
 |_::_=>none
def Fc(i c:Nat):Fe:=λa=>match ϰ5,a[c]? with
 |some (some<|.ol xs),some (some<|.sh<|.list ks)=>ώE (mw xs ks) (Ï ϭX (ĥ ds.map OD.sh) È) È
 |_,_=>È
def uQ(d:À V)(w:V):V:=match w with
 |.int q=>ϊ (T1 d q) .Re
 |_=>.Re
set_option tactic.hygienic true in
def Kl{K:At}{F H:Hp}{d:À V}{X:À OD}{f:À Ix}(o:ŧ d X f):∀{ws:À V}{k s:À Gc},Ū ws k->mw X k=Ϸh->Ū (ws.map<|uQ d) s/\∀(i:Nat)(w:V),ws[i]?=some w->∃(q:Int)(y:V),w=V.int q/\T1 d q=γ:=by
 ext ws
 induction ws with
 |nil=>ext _ _ r e;cases r;delta mw at e;cases e;show(í,λi w h=>ϵH)
 |cons w0 ws ih=>
  ext _ s r e;cases r with|cons h r=>
  cases h with
  |int q=>
   delta mw at e;split at e
   .rename_i j J
    split at e
    .rename_i d' D
     let(E,he,rfl):=Zb.mp e;let(R,l):=ih r he;let(y,c,_,_,y1,y2,_,_):=o.at D;cases y2 with
     |sh yr=>
      let a:T1 d q=γ:=by delta T1;rw[o.len,J];show y1
      apply(ð (by change Ĝ F (ϊ (T1 d q) V.Re) d';rw[a];show yr) R,λi w W=>?_);cases i with
      |zero=>
       simp at W;subst W;show(q,y,rfl,a)
      |succ i=>show l i w (by simpa using W)
    cases e
   cases e
  |Re=>delta mw at e;cases e
  |bl b=>delta mw at e;cases e
  |str x=>delta mw at e;cases e
  |lst _ _=>delta mw at e;cases e
  |tup _ _=>delta mw at e;cases e
  |dct _ _ _=>delta mw at e;cases e
  |ins _ _ _=>delta mw at e;cases e
set_option tactic.hygienic true in
def Sv(h:ê (Fc i c) σ H Q):C5 (ϑF<|cx c) (o7 0) K9 (όY<|cx 0) 1 [(i,x)] σ H Q:=by
 let(F,O,I,S,p):=h;delta Fc at p;split at p
 .rename_i xs N e1 E
  split at p
  .rename_i u s
   split at p
   .rename_i b
    let(v,f,g1,g2,g,j,_,_):=S.own.at e1;let(w,G,_,_,k,o,_,_):=S.own.at E;cases j with
    |@ol l vs _ fl hl ov=>
     cases o with
     |sh kr=>
      cases kr with
      |@lst a ws _ rd rw'=>
       let(r,R):=Kl ov rw' s;let L:slots 1 [(i,x)] σ=[none,Â<|Ä l]:=by
        delta slots;change [none]++[(ϲG).join]=_;rw[g];rfl
       apply(Ä a,k,a,rfl,(ws,(rd.same S.same).sq),λD d=>?_);rw[L];apply Ig (K:=M.K) (xs:=ws) (PvM H D λi=>Ó (ws.take i) ϥb) (PvM.start d Û) (λi A H' _ pv=>((rd.same S.same).same pv.2.1).sq) (λi y A H' Y pv=>?_) λA H' pv=>?_
       .let(q,z,rfl,Z):=R i y Y
        let J:=(Za.mp Y).1;let lw:=r.len;rw[K1]at lw;apply((rfl,trivial),?_);delta K9;simp only[reduceIte];apply(Ä l,rfl,Á q,rfl,l,vs,q,z,rfl,rfl,Xa.of<|pv.2.1 _ _ hl,Z,?_);apply PvM.yes d pv ?_ ?_
        .show(ws.take<|i+1).map ϥb=Ó (ws.take i) ϥb++[z]
         rw[Zbh,Y,Wx];let e:ϥb (Á q)=z:=by change ϊ (T1 vs q) V.Re=z;rw[Z];rfl
         show _++[ϥb<|Á q]=_;rw[e]
        change ϤZ (Ì (Ó (ws.take i) ϥb));rw[K1,Zg];show uL Ã
       let(t,B,C):=pv
       let P:A=Ó (ws.take ws.length) ϥb:=t;rw[K90 õ]at P;subst P;show p (Ä D) F H' [D] ⟨ţ,B,S.same.trans B,ϴZ⟩ ⟨.ol C<|F5.Zv r,Û,λa m=>by
        let:a=D:=ϳq
        rw[this];show S.same.free d⟩ λa m=>by
        let:a=D:=ϳq
        rw[this];show d
   show p.elim
  show p.elim
 show p.elim
section
variable{p p1 p2 p3 p4 p5 pos spos:Pos}
end
end L3
namespace L3
open PySem L2
def PB(h:Ŋ=Â (Â ϲD))(H:ρ[c]?=some (É<|Å ks)):ϑ8 ρ=f (ł<|Ď<|e_ ks 0 xs):=by delta yB;rw[h,H]
def SQ(h:Ŋ=Â (Â ϲD))(H:ρ[c]?=some (É<|Å ks))(a:mw xs ks=some ds)(e:ϭX):Fc i c ρ=ĥ ds.map OD.sh:=by
 delta Fc;rw[h,H];change(ώE (mw xs ks) (Ï ϭX (ϧo ϶C) È) È)=_;rw[a];change(Ï ϭX _ _)=_;rw[Os e]
theorem wY(k:À Gc):∀(s:À OD)(i j:Nat),(e_ k i s)[j]?=Ó ϥE λx=>if BD k (i+j)=true then Ă x.er else x
 |[],i,j=>by simp[e_]
 |x::s,i,0=>by simp[e_]
 |x::s,i,j+1=>by rw[e_,Zap,Zap,wY k s (i+1) j,ņ (i+1+j=i+(j+1))]
def sF(k:À Gc):∀(s:À OD)(i:Nat),Ì (e_ k i s)=s.length:=by
 ext y
 induction y with|nil=>ext i;show rfl|cons x s Y2=>ext i;rw[e_,Xt,Xt,Y2<|i+1]
def CF(k:À Gc):∀(s:À OD)(i:Nat),Ó (e_ k i s) OD.er=ϱI:=by
 ext y
 induction y with
 |nil=>ext i;show rfl
 |cons x s Y2=>
  ext i;rw[e_,L4,L4,Y2<|i+1];congr 1
  split
  .exact ϰS
  rfl
end L3
namespace L3
open PySem L2 PySem.Spec PyProof.Rows
section
variable{X:Cx}{pos:Pos}
variable{outs:À ϴi}{it:Fi}
def qE(own:À Str)(s:Da)(H:Hp)(C:Ix)(ex:À Ix)(p:À ĺ):(Ζ C ex p).N.length=ϻO:=by
 change Ì (own++ϴo ň)=_;rw[Ww,K1]
def Ka(own:À Str)(B:϶o)(l:ż)(k:Ϭx)(hi:Ϸ1 iter it)
  (hg:ϦP (Ϧz (Ζ C ex p))) (hc:ϦP (ϯc (Ζ C ex p))) (he:ϦP (ϯb (Ζ C ex p)))
  (S:ϹP):â ϴB (Ϭf<|ϴo ģ):=λr m=>
 Y1 (Ga (wi:=ώ4 it) (g:=tG M ϻO is gg) (tc:=tT M ϻO ta) (te:=tD M ϻO el) own B l (hi r m)
  (λs H C ex p=>ϥU (hg s H C ex p r m)) (λs H C ex p=>ϥU (hc s H C ex p r m)) (λs H C ex p=>ϥU (ϑr p r m)) S) (Ň (Gh k q))
def FO(own:À Str)(w:∀a H Q,Ϧa fe a H Q->Ϧa (Ϭf<|ϴo ģ) a H Q)(N:X.N.Nodup)(h:Ξ)(c:ϲT x)(B:϶o)(l:ż)(k:Ϭx)(hi:Ϸ1 iter it)(hg:ϺE (Ϧz (Ζ C ex n)))(hc:ϺE (ϯc (Ζ C ex n)))(he:ϺE (ϯb (Ζ C ex n)))(S:Ñ (ϤH ϴB (Â<|Ü p) spos.line X.env=ϯs))(b:ϹP)(f:ž (ϴg\/ϲi=Â Ų) mqad._auto_1):
  ŋ (ϳc [Ü p] ϴB spos) (aC i fe):=λr m=>
 Z8 (Bi (wi:=ώ4 it) (g:=tG M ϻO is gg) (tc:=tT M ϻO ta) (te:=tD M ϻO el) own N h c B l (hi r m)
  (ϮQ<|ϥU (hg s H C ex n r m)) (ϮQ<|ϥU (hc s H C ex n r m)) (ϮQ<|ϥU (ϑr n r m)) S b f) λD a H q=>by
  let d:=GN (o8 h) q;show Gh k<|w _ _ _ d
end
def insI(x:Int):À Int->À Int|[]=>[x]|y::r=>Ï (x<=y) (x::y::r) (y::insI x r)
def gY:À Int->À Int|[]=>[]|x::r=>insI x<|gY r
def insI_perm(x:Int):∀r:À Int,(insI x r).Perm (x::r):=by
 ext Y
 induction Y with
 |nil=>show Ϥ0
 |cons y r Y2=>
  delta insI;split
  .exact Ϥ0
  show è ((Y2).cons y)<|.swap x y r
def fO:∀r:À Int,(gY r).Perm r:=by
 ext y
 induction y with|nil=>show Ϥ0|cons x r Y2=>show è (ϗJ<|gY r)<|(Y2).cons x
set_option tactic.hygienic true in
theorem uR(x:Int):∀{r:À Int},r.Pairwise ϺX->Ϲk (insI x r) ϺX
 |[],_=>Zbv _ _
 |y::r,h=>by
  let c:=List.pairwise_cons.mp h;delta insI;split
  .rename_i H
   apply ύ9 ⟨ϤB,h⟩;rcases W7.mp Z with rfl|Z
   .exact H
   .exact Int.le_trans H<|c.1 z Z
  .rename_i H
   apply ύ9 ⟨ϤB,uR x c.2⟩;rcases W7.mp ((ϗJ r).mem_iff.mp Z)with rfl|Z
   .lia
   .exact c.1 z Z
def eU:∀r:À Int,Ϲk (gY r) ϺX:=by
 ext y
 induction y with|nil=>show List.Pairwise.nil|cons x r Y2=>show uR x<|Y2
theorem dQ:∀{a b:À Int},a.Perm b->a.Pairwise ϺX->b.Pairwise ϺX->a=b
 |[],b,p,_,_=>(List.nil_perm.mp p).symm▸rfl
 |x::r,[],p,_,_=>by let:=p.length_eq;simp at this
 |x::r,y::t,p,ha,hb=>by
  let h:=List.pairwise_cons.mp ha;let f:=List.pairwise_cons.mp hb;let e:x=y:=by
   let M:=W7.mp<|p.mem_iff.mp P0;let J:=W7.mp<|p.mem_iff.mpr<|P0 (a:=y) (l:=t);rcases M with e|M
   .exact e
   .rcases J with e|J
    .exact e.symm
    .exact Zcb (h.1 _ J)<|f.1 _ M
  subst e;rw[dQ p.cons_inv h.2 f.2]
def BF:À Gc->č
 |[.list ds]=>match cu ds with
  |some ns=>Ï (ϤL 64) (.ok (Ĩ<|Ó (gY ns) int)) È
  |_=>È
 |_=>È
theorem j_:∀{us:À Db}{ns:À Int},ϧc us->ϳM ϰw|_,_,.nil=>í|_,_,.cons n t r=>ð Ϯz<|j_ r
def su{K:At}{F:Hp}:∀(ns:À Int),Ū ϰw ő:=by
 ext y
 induction y with|nil=>show í|cons n r Y2=>show ð (Á n)<|Y2
def RX(K:At):À V->Ý Hp VK:=ϸq (∃(a:Ix)(ns:À Int),s=[Ä a]/\ϱ7 ϰw/\ϤL 64/\∀n:À Int,n.Perm ns->n.Pairwise ϺX->∀l,ϤT->Q (Ä l) (Ę l<|ä ϦD))
section
variable{X:Cx}{M:Mx}
def Gs:ϳ0 (ğ "sorted") (RX X.K):=by
 ext p s j H x us Q I r h;let(a,ns,rfl,f,g,q):=h;let(u,rfl,L):=Ϥp;cases L;let(i,R,pl,Z):=I.list f;let hi:ϩO:=intsAre_of R;let l:όA i.length:=ώN;apply sorted_ints pl.isList hi Ã λout n c A d=>?_;let(e,he):=sortedAll_at s.heap i out;let z:Ą (Ì ϦD):=by rw[K1,A.length_eq];rw[K1]at Z;show Z
 apply(Ä ļ,_,Ϭ9 (o:=ä ϦD) (λb o B=>sortedAll_old B) ϱM ⟨z,out.toList,e,j_ c,?_⟩,rfl,q n A d _<|ϵR ϱM);rw[K7i];show he
def En(K:At)(h:ϻA):ϳ0 (ğ "sorted") (RX K):=Ϧq Gs
set_option tactic.hygienic true in
def RH(r:ŕ):ϦV RX BF:=by
 rw[r];ext x d F H f Q s R p;delta BF at p;split at p
 .split at p
  .rename_i ns e
   let(a,rfl,h):=όi;split at p
   .rename_i L
    apply(a,ns,rfl,h,L,λn b c l L=>?_);let e:n=gY ns:=ϒV ns<|eU ns;subst e;show Ϸ3 (su _) L
   show p.elim
  show p.elim
 show p.elim
def uh:À Gc->č|[.int j]=>Ϩj ϘD ϴE (.ok<|Ĩ<|(Ó (ń j.toNat) (Į Þ)).map int) È|_=>È
def SV:À V->Ý Hp VK:=ϸq (∃j:Int,s=[Á j]/\ϘD/\∀l,ϤT->Q (Ä l) (Ę l<|ä<|(Ó (ń j.toNat) (Į Þ)).map V.int))
set_option tactic.hygienic true in
def OR:ϻC SV uh:=by
 ext x d F H f Q s R p;delta uh at p;split at p
 .cases R with
  |cons h r=>
   cases r;cases h;split at p
   .rename_i j J
    show(_,rfl,J,λl a=>Ϸ3 (su _) a)
   show p.elim
 show p.elim
def GJ(j:Int):Builtin.Range.rangeSize 0 j 1=Ë j.toNat:=ύj
def w4:∀(us:À Db)(a:Nat),(∀(i:Nat)(v:Db),Ķ us=ă->∃t,v=Á (Ë (ϱF<|a+i)) t)->ϳM (Ó (List.range' a us.length) (Į (V.int k))):=by
 ext y
 induction y with
 |nil=>ext _ _;show í
 |cons u us Y2=>
  ext a h;rw[Xt,Zay,L4];let(t,j):=h 0 u rfl;apply ð ⟨t,j⟩<|Y2 (a+1) λi v H=>?_;let(t,j):=h (i+1) v H;apply(t,?_);rw[j];congr 1;lia
def Qb{p p2 pos P:Pos}(hc:ż)(g:Ħ "list")(m:ϳe "list")(l:ϴC "list")(hg:Ħ "range")(M:ϷJ)(z:ϰM [a] ta)(B:Ñ (Õ [a]=ϱj π))(S:Ñ (Õ [ϳo "range" [a]]=ϱj (ϲ3 (ϳo "range" [a])))):
  ç (ô (ú "list" p) [ô (ú "range" p2) [a] P] pos) (tCB SV ta):=by
 ext n s u H Q I h;apply K8h<|gJ I g m l ?_;apply K98 ?_ S rfl;rw[S];change Š (spliced<|ϰv (ϳo "range" [a]) (ϰU [])) s;apply ϩk ?_;apply Call_<|Ϩx<|Ϲ4 ϖV B rfl;let(G,w,x,R,D):=zz;obtain⟨j,e,⟨J,F⟩,q⟩:=D;subst e;cases R with
 |cons r rr=>
  cases rr;let(t,rfl):=r;apply call_range_1 ?_;apply ϩe ?_;let f:ì n u w {s1 with heap:=s1.heap.push (Ģ "range" (Κ #[Á 0 s1.toks,Á j t,Á 1<|s1.toks+1])),toks:=s1.toks+1+1}:=x.kept (ϱk (Ĺ e));apply call_list_range ϱV ϭs (small_one Ã Ã Ã Ã) (GJ j) Ã λE tk A c K y d=>?_;apply(Ä _,_,f.laid (t':=tk) (o:=ä<|(Ó (ń j.toNat) (Į Þ)).map V.int) K õ ϕB,rfl,q _<|f.Uf.fresh õ)
  .rw[K1,K1,Wu,K7x]
   lia
  .let k:=w4 A.toList 0 λi v C=>by
    let(t,T):=d.2 i v (by rw[<-C,K7m]);show(t,ϗx)
   rw[K8t,d.1]at k;rw[W5,K7k];show k
  rw[K7i];show y
def Pw{p p2 pos P:Pos}(hc:ż)(g:Ħ "list")(m:ϳe "list")(V:ϴC "list")(hg:Ħ "range")(H:ϷJ)(A:ϱ4 [a])(s:Ñ (Õ [a]=ϱj π))(S:Ñ (Õ [ϳo "range" [a]]=ϱj (ϲ3 (ϳo "range" [a])))):
  â (ô (ú "list" p) [ô (ú "range" p2) [a] P] pos) (Ϧ6 al):=λr h=>ϕb Qb ((Ň (J9 OR q)))
end
def CV(h:ê fa σ H Q)(k:∀v H',ϻl->Q' v H'):ê fa σ H Q':=by let(F,e,P,S,p):=h;show(F,e,P,S,p.mono λx d v f H' X a b c=>ϰh<|d v f H' X a b c)
def Ln:Ź OD|.sh _=>true|_=>false
def LT(F:Hp)(b:Ix):Prop:=(∃ws,F b=Â (ä ws))\/∃r ws,F b=Â (Ī<|Ä r::ws)
open Classical in
def sN(F:Hp)(f:À Ix):Hp:=λb=>if ϻD then none else F b
def sd(h:ϻD):Ϸ7 b=none:=Ŷ sN (Os h)
def fu(h:b∉f):Ϸ7 b=F b:=Ŷ sN (P3 h)
section
variable{K:At}{F H:Hp}{f:À Ix}
theorem zU:∀{d:À V}{s:À OD}{g:À Ix},ŧ d s g->ā s.all Ln->g=[]
 |_,_,_,.nil,_=>rfl
 |_,_,_,.cons h r,e=>by
  rw[K7t,Yt]at e;let:=zU r e.2;subst this;cases h with
  |sh _=>rfl
  |ol _ _=>cases e.1
  |ot _ _=>cases e.1
  |od _ _ _=>cases e.1
  |oi _ _ _=>cases e.1
  |pl _ _=>cases e.1
end
def ex1(h:ϧr 1):∃a,us=[a]:=by
 cases us with
 |nil=>cases h
 |cons a r=>
  cases r with|nil=>show(a,rfl)|cons b r=>cases h
def ex2(h:ϧr 2):∃a b,us=ψ:=by
 cases us with
 |nil=>cases h
 |cons a r=>let(b,e):=ex1 Ϗa;show(a,b,by rw[e])
def ex3(h:ϧr 3):∃a b c,us=ϧI:=by
 cases us with
 |nil=>cases h
 |cons a r=>let(b,c,e):=ex2 Ϗa;show(a,b,c,by rw[e])
def ex4(h:ϧr 4):∃a b c d,us=[a,b,c,d]:=by
 cases us with
 |nil=>cases h
 |cons a r=>let(b,c,d,e):=ex3 Ϗa;show(a,b,c,d,by rw[e])
def eD0:Fe:=λ_=>ϵZ []
def x_:ϱn
 |.str x,.int n=>Ï (Ϯ5/\0<=n/\ϧH) (Ú (Ô ϐj)) È
 |_,_=>È
def Wb(h:ê eD0 σ H Q):I0 σ H Q:=by
 let(F,c,f,S,p):=h;ext q a;let P:Θ (.od []):=p;let j:F q=none:=S.same.free a;apply P (Ä q) F _ [q] ⟨ϴZ,ϮD,ϮD,λb z w=>w⟩ ⟨ϘU í,Û,϶N⟩ ϶N
 .let B:b≠q:=ϔT
  rw[ay B];show z
 .let B:b≠q:=by ext rfl;rw[j]at z;cases z
  rw[ay B];show S.same _ _ z
 .let:b=q:=ϳq
  rw[this];show j
 let:b=q:=ϳq
 rw[this];show a
def E7{n:Int}(h:Ϯ5)(a:0<=n)(b:ϧH):MulOk x n:=by
 apply(?_,λH _=>?_,λH _=>?_)
 .rw[Zcg]
  show(Ll Ã,Ll Ã)
 .rw[h]
  let:Ë 1<=(϶f-1) / n:=î (Int.le_ediv_iff_mul_le Ã)
  lia
 rw[h];delta Builtin.Str.tooLong;rw[K7x];show Ll Ã
section
variable{X:Cx}{M:Mx}
def NG:R2:=ϰD (∃i n,x=Ô i/\y=Á n/\MulOk i n/\Q (Ô<|Txt.mul i n) H)
def Mt:϶w Mult NG:=by ext p s a H x y v u Q I R Y h;let(i,n,rfl,rfl,M,q):=h;let(t,rfl):=R;let(t',rfl):=Y;show SB.mul M λt2 k=>⟨Ô _,H,I.kept (t':=k) ϴZ,ϧ4 t2,q⟩
set_option tactic.hygienic true in
def MO(_:ŕ):ϰT NG x_:=by
 ext x y d D F H f Q s R Y p;delta x_ at p;split at p
 .cases R;cases Y
  split at p
  .rename_i hc
   show(_,_,rfl,rfl,E7 hc.1 hc.2.1 hc.2.2,ϸM<|Ô _)
  show p.elim
 show p.elim
def Tz{pos:Pos}:â ϗ6 eD0:=λ_ _=>Y1 IZ (Ň (Wb q))
def Qh{n:Int}(h:Ϯ5)(H:0<=n)(a:ϧH):x_ (Ô x) (Á n)=Ú (Ô ϐj):=by
 change(Ï (Ϯ5/\0<=n/\ϧH) (R.ok (Ă<|Ô ϐj)) È)=_;rw[Os ⟨h,H,a⟩]
end
end L3
namespace L2
open PySem PySem.Spec PyProof.Rows
def neN(h:a≠b):@Ne Ix a b:=h
end L2
namespace L3
open PySem L2 PySem.Spec PyProof.Rows
section
variable{p pos:Pos}
end
end L3
namespace L2
open PySem PySem.Spec PyProof.Rows
section
variable{A:Go}{s:Da}
def gX{it l:Ix}(hit:ϕC)(a:ώ5 items)(X:Ķ items=Đ)(q:∀c,c.IsTupleIter it l (i+1)->Heap.SameBut it s.heap c->Q x ϭt):
  Ł (Builtin.SmallTypes.nextOf<|Ä it) Q E s:=by
 let(o,g,hc,d):=id hit;let(ol,H,_,nl,h):=a;delta Builtin.SmallTypes.nextOf;apply Fq<|Ϩv hit.typeIs K8Y<|ϒv ϓI;change Š (ϺN (Ä it) 0) s;apply ϭb<|Ä l;change Š (Ï (þ Ϭl) _ _) s;rw[P3 (ω (¬(þ Ϭl)) Xd)];change Š (ϺN (Ä it) 1) s;apply ϭb<|Á i 0;change Š (ϐl<|Ä l) s;apply Fq<|K8D H h ?_;simp only[Xz,X];apply Fq<|ϗy Û<|Ps ⟨x,rfl,Ps<|q _ ?_<|K7f ..⟩;show(_,K7n _ g<|Obj.isFreed_of_fields<|ϖW _,è (Obj.cls_mapFields ..) hc,by rw[ϖW];simp[rawInt])
def pI{it l:Ix}(b:ϷO)(hit:ϕC)(L:ώ5 items)(X:Ķ items=none)(f:∀c e,Heap.ExtBut it s.heap c->(∃o,c.get? e=Ø/\o.cls=ć "StopIteration")->E (Ä e) ϭt):Ł (Builtin.SmallTypes.nextOf<|Ä it) Q E s:=by let(o,g,hc,d):=id hit;let(ol,H,_,nl,h):=L;delta Builtin.SmallTypes.nextOf;apply Fq<|Ϩv hit.typeIs K8Y<|ϒv ϓI;change Š (ϺN (Ä it) 0) s;apply ϭb<|Ä l;change Š (Ï (þ Ϭl) _ _) s;rw[P3 (ω (¬(þ Ϭl)) Xd)];change Š (ϺN (Ä it) 1) s;apply ϭb<|Á i 0;change Š (ϐl<|Ä l) s;apply Fq<|K8D H h ?_;simp only[Xz,X];apply ϫc<|Fq<|ϗy Û ?_;change Š (newExc (ć "StopIteration") [] >>=_) _;apply ϳh;simp only[newExc,newTuple];apply Fq ϬK;apply ϒI;apply ϬK;simp only[raiseNew];apply ϗ9;(first|rw[show ώA from b]|rw[b]);apply Fq<|Ps<|wpAny_throw ?_;show f _ _ (((K7f ..).extBut.push _).push _) (ϱt θ)
end
def uk(h:Op)(l:Nat):Op:=h.push (Ģ "tuple_iterator" (Κ #[Ä l,Á 0 0]))
def zA2(h:Op)(l L:Nat):Op:=(uk (uk h l) L).push (Ģ "tuple" (ϰm #[Ä h.objs.size,Ä (ϰA (uk h l))]))
def zB2(h:Op)(l L:Nat):Op:=(zA2 h l L).push (Ģ "tuple" (ϰm #[æ,æ]))
def zC2(h:Op)(l L:Nat):Op:=(zB2 h l L).push (Ģ "zip" (Κ #[æ,ß false,ß false,Ä (ϰA (uk (uk h l) L)),Ä (ϰA (zA2 h l L))]))
def Kb(l L:Nat)(x X:ϰ3 Db):
  Meets (Builtin.«zip.__new__» (ϰI [ć "zip",Ä l,Ä L])) (λ_ R s=>ώ5 x/\s.heap.IsTuple L X/\
   R (ϧz<|Ä (ϰA (Ϯg L))) (ϲx (zC2 s.heap l L))):=
 .of_wp λprog w A R s h=>by
  let(p,g,d,tk,os):=s;let(M,b,h):=h;let S:=sub_zip;let H:ϖr ⟨p,g,d,tk,os⟩ l x:=M;let a:ϖr ⟨(Heap.push p (Ģ "tuple_iterator" (Κ #[Ä l,Á 0 0]))),g,d,tk,os⟩ L X:=(Heap.IsTuple.push b _)
  wp_walk using wpAny_pyIter_tuple H,wpAny_pyIter_tuple a
  show(_,rfl,h)
end L2
namespace L3
open PySem L2 PySem.Spec PyProof.Rows
def Cu(x y:Gc):R (À Gc):=match x,y with
 |.list ds,.list es=>.ok ϯf
 |.tuple ds,.tuple es=>Ï (ds.length=es.length) (ò ϯf) È
 |_,_=>È
def FY(a b:Fe):Fi:=λc=>ã (a c) λx=>ã (b c) λy=>Cu x.er y.er
def UD(d e:À Gc):Cu (Å d) (Å e)=ò (lG d e):=rfl
def Wk:FY a b ρ=Kq Cu μ Ϸn:=rfl
section
variable{pos:Pos}
end
def zR{P:Do}{w:Ev}{K:At}{m:ĳ}{base:Op}{CX:CXT}{k:Nat}{f:Ix}{fd:Fk}{ps:À Str}:ϻM (Tk K m λ_=>È):=
 ⟨λ_ _ _ _ h=>let⟨_,_,_,_,p⟩:=h;p.elim,λ_ _ _ _ _ _ _ _ _ _ _ _ _ h=>let⟨_,_,_,_,p⟩:=h;p.elim⟩
mutual
def nol:Ź Gc|.tuple ds=>Gy ds|.list _=>false|.dict _=>false|.none=>true|.bool _=>true|.int _=>true|.str _=>true
def Gy:Ź (À Gc)|[]=>true|d::ds=>nol d&&Gy ds
end
def Qy:Ź OD|.sh d=>nol d|_=>false
def okN:Ź OD|.ol ys=>ys.all Qy|_=>false
def vt:Ź OD|.ol ys=>ys.all Ln|.pl _ ys=>ys.all Ln|_=>false
def wQ(i:Nat)(fa:Fe):Fe:=λa=>match ϰ5 with
 |some (some x)=>Ï (ϸp vt) ((fa<|ϲU<|É x.er).bind λy=>Ï (ϸo okN) χ È) È
 |_=>È
section
variable{K:At}{F H:Hp}{f:À Ix}
def Iu(h:ϱX x g)(e:ϸp vt):∀b∈g,∃ws,H b=Â (ä ws):=by
 cases h with
 |sh _=>cases e
 |od _ _ _=>cases e
 |oi _ _ _=>cases e
 |ot _ _=>cases e
 |@ol a vs xs f' ha hv=>
  let:=zU hv e;subst this;ext b m;let:b=a:=ϳq
  rw[this];show(_,ha)
 |@pl a vs xs f' ha hv=>
  let:=zU hv e;subst this;ext b m;let:b=a:=ϳq
  rw[this];show(_,ha)
mutual
theorem AU(a:Ϸl (∃ws,F b=Â (ä ws))):Ĝ F v d->nol d=true->Ĝ Ϸ7 v d:=by
 ext r e;cases r with
 |Re=>show .Re
 |bl b=>show ϱz
 |int i=>show Á i
 |str x=>show Ô x
 |lst _ _=>rw[nol]at e;cases e
 |dct _ _ _=>delta dD at e;rw[nol]at e;cases e
 |ins _ _ _=>delta qK at e;rw[nol]at e;cases e
 |tup h1 h2=>
  rw[nol]at e;apply Ī ?_<|xY a h2 e;rw[fu λm=>by let(ws,q):=a _ m;rw[h1]at q;cases q];show h1
theorem xY(a:Ϸl (∃ws,F b=Â (ä ws))):Ū vs ds->Gy ds=true->B1 K Ϸ7 vs ds|.nil,_=>í|.cons h r,e=>by rw[Gy,Yt]at e;show ð (AU a h e.1)<|xY a r e.2
end
def Em(a:Ϸl (∃ws,F b=Â (ä ws))):∀{d:À V}{s:À OD}{g:À Ix},ŧ d s g->ā s.all Qy->Ϸz Ϸ7 H d s g:=by
 ext d
 induction d with
 |nil=>ext _ _ r _;cases r;show í
 |cons b d ih=>
  ext _ _ r e;cases r with|cons h r=>
  rw[K7t,Yt]at e;apply ð ?_<|ih r e.2;cases h with
  |sh q=>show .sh<|AU a q e.1
  |ol _ _=>cases e.1
  |ot _ _=>cases e.1
  |od _ _ _=>cases e.1
  |oi _ _ _=>cases e.1
  |pl _ _=>cases e.1
def Ia{v:V}{x:OD}{g:À Ix}(a:Ϸl (∃ws,F b=Â (ä ws)))(h:ϱX x g)(e:ϸp okN):ϲJ Ϸ7 H v x g:=by
 cases h with
 |sh q=>cases e
 |ol ha hv=>show .ol ha<|Em a hv e
 |ot ha hv=>cases e
 |od _ _ _=>cases e
 |oi _ _ _=>cases e
 |pl _ _=>cases e
end
set_option tactic.hygienic true in
def OT(h:ê (wQ i fa) σ H Q):ê fa σ H Q:=by
 let(F,V,Y,S,p):=h;delta wQ at p;split at p
 .rename_i x e
  split at p
  .rename_i O
   let(v,f,g1,g2,k,r,rfl,A):=ϴ0;let c:ų ϵV:=λa m=>ϵO<|Ļ<|Ŀ m;let o:=A ϴ1 H Ϸm (Ň q) v (ı x.er) [] (.sh<|r.W3 Ϸm (ϴu (Ù (jO m) q)));let D:ϷP ă=σ:=by
    apply Y_;ext j;by_cases J:i=j
    .subst J
     rw[k,K9I (Za.mp k).1]
    rw[K9E J]
   rw[D]at o;let nd:=S.nd;simp only[Ya,P1]at nd;obtain⟨E,⟨Z,G,I⟩,N⟩:=nd;let sub:∀a∈ϲ4 [],a∈ϴf/\Ϸo:=λa m=>by
    simp only[K9B,P1]at m⊢;rcases m with m|m
    .exact(Ê m,λz=>N a m a (Ê z) rfl)
    show(Ð<|Ð m,λz=>I a z a m rfl)
   let t:=Iu r O;let u:ϰC ϴ1 H σ (V.set i<|É x.er) (ϲ4 []):=
    ⟨ϯy,o,by
     simp only[K9B,Ya];show(E,G,λa m b d=>N a m b<|Ð d),λa m=>Ù (dt (ϲ9).2) (ϵO (ϲ9).1),Ù K8z S.len⟩
   let U:Ŏ ϴf ϴ1 H (ϲ4 []):=⟨Ϸm,ϦC,ϰt (Ê (ϲ9).1),λa h m z=>by
    rw[dt λw=>m<|Ļ<|Ŀ w]
    show z⟩
   apply(_,_,_,u,Ŵ ((ϱ0).Wy U) λy py v1 g s X e1 R W=>?_)
   split at py
   .rename_i K
    let(P,T,L):=R;let l:Ϸl (∃ws,g b=Â (ä ws)):=λb m=>let⟨ws,q⟩:=t b m;⟨ws,ϭe<|Ù (jO m) q⟩
    apply py v1 (sN g f) s X ⟨ϮE,e1.hh,ϮE,λb B C=>?_⟩ ⟨Ia l P K,T,϶N⟩ W
    .let:b∉f:=ϔH
     rw[fu this];show ϭe<|Ϸm _ _ B
    .by_cases m:ϻD
     .rw[sd m]at B
      cases B
     rw[fu m]at B;show e1.fh _ _ B
    .by_cases m:ϻD
     .exact sd m
     rw[fu m];show e1.nw b B (by rw[dt m];show C)
    by_cases d:ϻD
    .exact sd d
    rw[fu d];show L b m
   show py.elim
  show p.elim
 show p.elim
def PD(i:Nat)(fa:Fe)(a:Env)(h:ϰ5=Â Đ)(X:ϸp vt)(H:fa (ϲU<|É x.er)=χ)(b:ϸo okN):wQ i fa a=χ:=by
 delta wQ;rw[h];change(Ï (ϸp vt) ((fa<|ϲU<|É x.er).bind _) È)=_;rw[Os X,H];change(Ï (ϸo okN) (R.ok y) È)=_;rw[Os b]
def MF(i:Nat)(h:â e fa):â e (wQ i fa):=ο Y1 Ń OT
end L3
namespace L2
open PySem PySem.Spec PyProof.Rows
def ItB(t:Bool)(h:Op)(it l i:Nat):Prop:=∃o,h.get? it=Ø/\o.cls=ć (if t then "tuple_iterator" else "list_iterator")/\o.data=Κ #[Ä l,Á i 0]
def IsB(t:Bool)(h:Op)(a:Nat)(s:ϰ3 Db):Prop:=∃o,Τ=Ø/\o.cls=ć (if t then "tuple" else "list")/\∃n,o.data=ϰm s n
structure ZB(t:Bool)(h:Op)(n l l' i i':Nat)(f u v:Db):Prop where
 zp:ϕD f
 ti:όk (n+2) (Ä n) (Ä<|n+1)
 to:όk (n+3) u v
 i1:ItB t h n l i
 i2:ItB t h (n+1) l' i'
section
variable{A:Go}{s:Da}{h h':Op}{n l l' i i' k:Nat}
def ItB.at(x:ItB t h n l i)(k:h'.get? n=h.get? n):ItB t h' n l i:=let⟨o,ho,r⟩:=x;⟨o,k.trans ho,r⟩
def ZB.mv(Z:ϒa l' i i' f u v)(k:∀c,n<=c->c<n+5->∀o,όl=Ø->h'.get? c=Ø):ZB t h' n l l' i i' f u v:=
 ⟨ϩr Ã Z.zp,ϩr Ã Z.ti,ϩr Ã Z.to,let⟨o,e,r⟩:=Z.i1;⟨o,ϩr Ã e,r⟩,let⟨o,e,r⟩:=Z.i2;⟨o,ϩr Ã e,r⟩⟩
def Kz(n:Nat)(h H:Op):Prop:=∀c o,(c<n\/n+4<c)->όl=Ø->Ϫ6=Ø
def Mu{Q:Ý Db Da}(lt:ϯC)(Z:ϕE æ u v)(N:Ϗh l xs)(L:Ϗh l' ys)(X:xs[k]?=Đ)(Y:ys[k]?=γ)
  (J:∀H,ZB true H n l l' (k+1) (k+1) ϔ3 x y->IsPair H s.heap.objs.size x y->ϮF H->Q (Ä s.heap.objs.size) ϩg):
  Ł (Builtin.«zip.__next__» (ϰI [Ä<|n+4])) (λfin R=>∃v,ϘE/\Q v R) E s:=by
 let zl:ϩu (n+4):=Xq Z.zp;change Š (ϺN _ 2) _;apply Fq<|ϹW (ß false) ?_;change Š (ϺN _<|2+1) _;apply Fq<|ϹW (Ä<|n+2)<|Fq<|ϩU Z.ti ϳh;delta Builtin.SmallTypes.ownedTupleIsFree;apply Fq<|ϹW æ Δ;simp only[K7y];apply ϫc<|Fq<|ϹW (Ä<|n+3)<|Fq<|K8J Z.zp Û λt T s1=>ϳh;simp only[List.zipIdx_cons,List.zipIdx_nil,Zca,Zci];let e1:∀c,Ϻ9->t.get? c=ϴO:=ώW s1;apply ϑD<|gX (s:={s with heap:=t}) (Z.i1.at<|e1 _ Ã) (let⟨o,e,r⟩:=N;⟨o,è (e1 _ Ã) e,r⟩) X λz O m=>Δ;let j:∀c,Ϻ9->c≠n->z.get? c=ϴO:=λc hc D=>è (m.2 c<|neN D)<|e1 c hc;let t2:IsPair z (n+3) u v:=è (j _ Ã Ã) Z.to;apply Fq<|ϩU t2<|Fq<|wpAny_updateSeq_pair t2 λB t3 S=>Fq<|wpAny_letGo Δ;let i:∀c,Ϻ9->c≠n->c≠n+3->B.get? c=ϴO:=λc hc D M=>è (S.2 c<|neN M)<|j c hc D;apply ϑD<|gX (s:={s with heap:=B}) (Z.i2.at<|i _ Ã Ã Ã) (let⟨o,e,r⟩:=L;⟨o,è (i _ Ã Ã Ã) e,r⟩) Y λI P s4=>Δ;let t4:IsPair I (n+3) x v:=è (ϐZ<|neN Ã) t3;apply Fq<|ϩU t4<|Fq<|wpAny_updateSeq_pair t4 λh t5 K=>Fq<|wpAny_letGo<|Ps Δ;let t5:όk (n+3) x y:=t5;apply Fq<|ϩU t5<|Fq<|ϖ8 ϳh;delta Builtin.SmallTypes.ownedTupleHandOut;let sz:h.objs.size=s.heap.objs.size:=by rw[K.1,s4.1,S.1,m.1,s1.1]
 let U:ϕD .ellipsis:=è (K.2 _<|neN Ã)<|è (ϐZ<|neN Ã)<|è (ϯT<|neN Ã)<|è (m.2 _<|neN Ã) T;apply Fq<|K8J (Ĺ U) Û λW V C=>K8J V Û λf G F=>Ps ϏG;let up:∀c o,Ϻ9->όl=Ø->f.get? c=Ø:=ϴr (è (F.2 c<|neN hc)<|è (C.2 c<|neN hc)<|Ĺ q);let nw:IsPair f h.objs.size x y:=è (F.2 _<|neN Ã)<|è (C.2 _<|neN Ã) θ;let p:∀c o,Ϻ9->c≠n->c≠n+3->c≠n+1->ϴO=Ø->f.get? c=Ø:=λc o a b d g q=>up c o a<|è (K.2 c<|neN d)<|è (s4.2 c<|neN g)<|è (i c a b d) q;change Q (Ä h.objs.size) _;rw[sz]at G nw⊢;apply J f ⟨G,p _ _ Ã Ã Ã Ã Z.ti,up _ _ Ã t5,?_,?_⟩ nw (ϴr (p c o Ã Ã Ã Ã q))
 .let(o,e,r):=O
  show(o,up _ _ Ã<|è (K.2 _<|neN Ã)<|è (ϐZ<|neN Ã)<|è (ϯT<|neN Ã) e,r)
 let(o,e,r):=P;show(o,up _ _ Ã<|è (K.2 _<|neN Ã) e,r)
def QR(j:ϷO)(lt:l<n)(Z:ϕE æ u v)(L:Ϗh l xs)(X:xs[k]?=none)(i:∀a e,ϮF a->(∃o,a.get? e=Ø/\o.cls=ć "StopIteration")->E (Ä e) {s with heap:=a}):
  Ł (Builtin.«zip.__next__» (ϰI [Ä<|n+4])) Q E s:=by
 change Š (ϺN _ 2) _;apply Fq<|ϹW (ß false) ?_;change Š (ϺN _<|2+1) _;apply Fq<|ϹW (Ä<|n+2)<|Fq<|ϩU Z.ti ϳh;delta Builtin.SmallTypes.ownedTupleIsFree;apply Fq<|ϹW æ Δ;simp only[K7y];apply ϫc<|Fq<|ϹW (Ä<|n+3)<|Fq<|K8J Z.zp Û λd T s1=>ϳh;simp only[List.zipIdx_cons,List.zipIdx_nil,Zca,Zci];let e1:∀c,Ϻ9->d.get? c=ϴO:=ώW s1;apply ϑD<|pI (s:=ϩf) j (Z.i1.at<|e1 _ Ã) (let⟨o,e,r⟩:=L;⟨o,è (e1 _ Ã) e,r⟩) X λp e m he=>?_;let(O,h,H):=he;let g:=m _ _ (neN Ã) T;let b:e≠n+4:=λz=>by subst z;rw[g]at h;cases h;simp at H
 show K8J g Û λf _ S=>i f e (ϴr<|è (S.2 c<|neN Ã)<|m c o (neN Ã)<|è (e1 c Ã) q) ⟨O,è (S.2 e b) h,H⟩
def apD(lt:ϯC):ZipApart (n+4) (n+2) (n+3) n (n+1) l l':=by constructor<;>show neN Ã
def Kw(lt:ϯC)(Z:ϖy æ u v)(f:ϻ9 l xs)(L:ϻ9 l' ys)(X:xs[k]?=Đ)(Y:ys[k]?=γ)(H:∀h,ϒa l' (k+1) (k+1) ϔ3 x y->όk s.heap.objs.size x y->ϮF h->Q (Â<|Ä s.heap.objs.size) ϭu):
  Ł (ϸz<|Ä<|n+4) Q E s:=by
 cases t with
 |false=>show wpAny_pyNext_zip_item (apD lt) Z.zp Z.ti Z.to Z.i1 Z.i2 f L X Y λh a b c d e _ g=>H h ⟨a,g _ _ (neN Ã) (neN Ã) (neN Ã) (neN Ã) Z.ti,b,c,d⟩ e (ϴr (g c o (neN Ã) (neN Ã) (neN Ã) (neN Ã) q))
 |true=>have T:Ϻ7 (Ä<|n+4) "zip":=(ϱt Z.zp);delta pyNext;show Fq<|wpAny_attempt<|Ϩv T K7o<|ϙa ϖX
def PU(d:ϷO)(lt:ϯC)(Z:ϖy æ u v)(f:ϻ9 l xs)(L:ϻ9 l' ys)(x:xs[k]?=none\/t=false/\ys[k]?=none)(H:∀h,ϮF h->Q none ϭu):
  Ł (ϸz<|Ä<|n+4) Q E s:=by
 cases t with
 |false=>show wpAny_pyNext_zip_end d (apD lt) Z.zp Z.ti Z.to Z.i1 Z.i2 f L (x.imp id And.right) λh g=>H h (ϴr (g c o (neN Ã) (neN Ã) (neN Ã) (neN Ã) q))
 |true=>
  let a:Ϻ7 (Ä<|n+4) "zip":=(ϱt Z.zp);delta pyNext;apply Fq<|wpAny_attempt<|Ϩv a K7o<|Ϙ5 ϖX;let(o,O,hc):=he;show Fq<|Ϙ8<|Ps<|H _ K
def LD(f:ϻ9 l xs)(L:ϻ9 l' ys)(h:∀H,ZB t H s.heap.objs.size l l' 0 0 æ æ æ->(∀c o,ϴO=Ø->Ϫ6=Ø)->Q (Ä<|ϩo 4) ϩg):
  Ł (call (ć "zip") [Ä l,Ä l']) Q E s:=by
 cases t with
 |false=>show call_zip_2 f L λH a b c d e _ g=>h H ⟨a,b,c,d,e⟩ g
 |true=>
  apply callType_new PySem.F.called_zip á (PySem.F.typeCall_zip_2 _ _) (PySem.F.newCall_zip_2 _ _) (λobj=>PySem.F.args_object_init_3 obj _ _) PySem.F.entry_zip_new (Kb l l' xs ys) ⟨f,L,?_⟩;let T:ϰA ϩF=ļ:=ϹB;let z:ϰA (uk ϩF l')=ϩo 2:=è ϹB (ϦE T);let Z:ϰA (zA2 s.heap l l')=ϩo 3:=è ϹB (ϦE z);let i:ϰA (Ϯg l')=ϩo 4:=è ϹB (ϦE Z);let K:∀c o,(uk ϩF l').get? c=Ø->ϨT c=Ø:=Ϸv (Ĺ<|Ĺ<|Ĺ q);let k:∀c o,(ϩF).get? c=Ø->ϨT c=Ø:=Ϸv (ϫn<|Ĺ q);let g4:ϨT (ϰA (Ϯg l'))=Â _:=θ;let g3:ϨT (ϰA (zA2 s.heap l l'))=Â _:=Ĺ θ;let g2:ϨT (ϰA (uk ϩF l'))=Â _:=Ĺ<|Ĺ θ;let g1:=K _ _ θ;rw[i,Z,z]at g4;rw[Z]at g3;rw[z,T]at g2;rw[T]at g1;change _/\Q (Ä (ϰA (Ϯg l'))) _;rw[i];show((_,g4,rfl),h _ ⟨g4,g2,g3,ϮN (ϰh θ),ϮN g1⟩ (Ϸv (k c o<|Ĺ q)))
end
def SqB(t:Bool)(K:At)(H:Hp)(a:Ix)(s:À V):Prop:=match t with
 |true=>Ϥn
 |false=>ϱ7 s
section
variable{X:Cx}{s:Da}
def sqB(I:ø)(h:ϳU X.K H a xs):∃T:À Db,Ϲn T/\ϻ9 a T.toArray:=match t,h with
 |true,h=>let⟨i,r,p,_⟩:=I.tuple h;⟨i,r,p⟩
 |false,h=>let⟨i,r,p,_⟩:=I.list h;⟨i,r,p.isList⟩
def CD(I:ø)(h:ϳU X.K H a xs)(c:ϳU X.K H a ys):xs=ys:=match t,h,c with
 |true,h,c=>I.tuple_inj h c
 |false,h,c=>I.Zy h c
end
def Itb(t:Bool)(K:At)(a b:Ix):It:=
 ⟨λi H=>∃s x Y y,ϳU K H a s/\ϱP=Đ/\ϳU K H b Y/\Y[i]?=γ,λi H v H'=>∃T x y,H T=none/\v=Ä T/\H'=Ę T (Ī [x,y])/\(∀s,ϳU K H a s->ϱP=Đ)/\∀Y,ϳU K H b Y->Y[i]?=γ,
  λi H=>∃s Y,ϳU K H a s/\ϳU K H b Y/\(ϩ0\/t=false/\Y.length<=i)⟩
def fpZ(n:Nat):À Ix:=List.range' n 5
def qF:c∈fpZ n↔n<=c/\c<n+5:=Zaa
def Ov(h:c∈fpZ n):c=n\/c=n+1\/c=n+2\/c=n+3\/c=n+4:=Œ (qF.mp h)
def zV(h:c∉fpZ n):(c<n\/n+4<c)/\Ϻ9:=Œ (mt qF.mpr h)
def Mb{P:Do}{w:Ev}{K:At}{es:À On}{tk:Nat}{pos:Pos}{t:Bool}(n l L:Nat)(lt:l<n/\L<n):
  Turn P w K (Ϥd tk pos) (Itb t K l L) (fpZ n) (n+4) (λi h=>∃u v,ϒa L i i æ u v):=by
 constructor
 .exact qF.mpr ⟨Ã,Ã⟩
 .rintro i h ⟨u,v,Z⟩ c hc
  let(o1,e1,_,d1):=Z.i1;let(o2,e2,_,d2):=Z.i2;rcases Ov hc with rfl|rfl|rfl|rfl|rfl
  .exact(_,e1,ϕv d1)
  .exact(_,e2,ϕv d2)
  .exact(_,Z.ti,λv z=>Ϸ6 z)
  .exact(_,Z.to,λv z=>Ϸ6 z)
  show(_,Z.zp,λv z=>Ϸ6 z)
 .rintro i h h' ⟨u,v,Z⟩ kp
  show(u,v,Z.mv λc a b=>kp c<|qF.mpr ⟨a,b⟩)
 .intro X m W k hc i N s σ H E I f D hg
  subst m W k;let(u,v,Z):=D;let(xs,x,ys,y,g,j,hr,hy):=hg;let(B,V,p):=sqB I g;let(T,r,p2):=sqB I hr;let(F,U,R):=V.get j;let(G,Y,C):=r.get hy;apply Kw lt Z p p2 (x:=F) (y:=G) Ϭ8 ϩc λM d hT o=>?_;let zl:ϩu (n+4):=Xq Z.zp;apply(_,rfl,wpAny_letOwnedTupleGo_zip d.zp λO z4 s4=>?_);let e:∀c,Ϻ9->O.get? c=M.get? c:=ώW s4
  apply(Ä s.heap.objs.size,ϹR<|Ī [x,y],AD (s:=s) (h':=O) (t':=s.toks) I f (λc J hc q=>è (e c (zV hc).2) ϘF) õ ⟨by change Ą 2;decide,[F,G],ð R<|ð C í,_,è (e _ Ã) hT,rfl,_,rfl⟩,rfl,(_,x,y,I.fresh,rfl,rfl,λzs S=>by rw[CD I S g];show j,λzs S=>Ù (CD I S hr) hy),
   (F,G,z4,è (e _ Ã) d.ti,è (e _ Ã) d.to,d.i1.at (e _ Ã),d.i2.at<|e _ Ã),Ϫb)
  let:=qF.mp hc;rw[ay<|neN Ã];show(f c hc).1
 .intro X m W k hc i N s σ H E I f D hg
  subst m W k;let(u,v,Z):=D;let(xs,ys,g,hr,j):=hg;let(B,V,p):=sqB I g;let(T,r,p2):=sqB I hr;let l1:=V.length;let l2:=r.length;apply PU ϱV lt Z p p2 (j.imp (λz=>ϴd) λz=>⟨z.1,ϴd⟩) λM o=>⟨rfl,Dt (t':=s.toks) I f λc J hc q=>ϘF⟩
 ext A i s Q E ⟨u,v,Z⟩ h;show ϖY h
def iZB(K:At)(T:TA):TI:=λc H R=>T c H λd h=>∃(t:Bool)(a b:Ix),d=[Ä a,Ä b]/\(∃s,ϳU K h a s)/\(∃y,ϳU K h b y)/\R (Itb t K a b) h
def U_{p pos tpos:Pos}(hg:Ħ "zip")(M:ϳe "zip")(A:ϰM ψ ta)(f:Ñ (Õ ψ=ϦQ π ϲV))(S:Ñ (Õ [b]=ϱj ϲV)):
  PI X (Ϥd k tpos) (ô (ú "zip" p) ψ pos) (iZB X.K ta):=by
 ext n s w H R I h;apply Call_ (ϦW DZ<|Ϲ4 (ϫf n s w H _ I h) (by rw[f,S])<|by rw[S];rfl);let(B,d,i,m,j):=zz;obtain⟨t,l,L,e,⟨x,Q⟩,⟨Y,hr⟩,q⟩:=j;subst e;let(u,v,rfl,U,r):=Vals.two m;cases U;cases r;let(g,z,p):=sqB i Q;let(T,V,p2):=sqB i hr;let lt:∀{c x},IsB t s1.heap c x->c<s1.heap.objs.size:=λ⟨o,e,_⟩=>ϵt;apply LD p p2 λy Z K=>ϖY ⟨ϭv 4,fpZ s1.heap.objs.size,_,Itb t X.K l L,d,rfl,i.kept (t':=s1.toks) K,Mb _ _ _ ⟨lt p,lt p2⟩,⟨_,_,Z⟩,Ϫb,q⟩;let C:=(qF.mp hc).1;show i.fpOk C<|i.Uf.fresh C
end L2
namespace L3
open PySem L2 PySem.Spec PyProof.Rows
section
variable{M:Mx}{X:Cx}{pos:Pos}
set_option tactic.hygienic true in
def Wh{a b:Fe}(h:ϻ5 (FY a b)):iZB M.K (ϱg Ϗg) σ H R':=by
 let(F,ρ,P,S,p):=h;apply(F,ρ,P,S,A7 (g:=Cu) p λv w dx dy G1 k d1 J R q=>?_);let key:∀(t:Bool){a b:Ix}{s ws:À V}{D E:À Gc},(∀H',aB G1 H'->ϳU M.K H' a s/\ϳU M.K H' b ws)->ϻp G1 s D->ϻp G1 ws E->(t=true->D.length=E.length)->ÿ P ϸO (.ok<|lG D E)->∃(t:Bool)(c d:Ix),[V.ref a,V.ref b]=[Ä c,Ä d]/\(∃O,ϳU M.K k c O)/\(∃W,ϳU M.K k d W)/\R' (Itb t M.K c d) k:=λt a b s ws D E sq f j l q=>by
  apply(t,a,b,rfl,(s,(sq _ d1.fh).1),(ws,(sq _ d1.fh).2),q _ G1 k d1 λi G H' s1 A=>?_);let(m,Q):=sq _<|s1.trans A;apply(λd L=>?_,λZ=>⟨s,ws,m,Q,?_⟩)
  .let(x,y,X,Y,rfl):=kP L
   let(u,I,N):=B1.get f X;let(K,U,r):=B1.get j Y;apply((s,u,ws,K,m,I,Q,U),ϧl H2);let(T,z,z',C,rfl,rfl,Z,o):=y;let e1:=Z s m;let B:=o ws Q;rw[I]at e1;rw[U]at B;cases e1;cases B;let sg:aB G (ϑN<|Ī [u,K]):=(aB.refl G).upd<|A.free C;show(ϑN _,Ext.allocF A C,Ī aP<|ð ((N.same s1).same sg)<|ð ((r.same s1).same sg) í)
  rw[B1.len f,B1.len j];delta lG at Z;rw[K1,Zas]at Z;cases t with
  |true=>have:=l rfl;lia
  |false=>
   let:D.length<=i\/E.length<=i:=Ã
   show this.imp id λz=>(ϱB z)
 delta Cu at q;split at q
 .cases J with
  |lst h1 f=>
   cases R with|lst h3 j=>show key false (λH' e=>⟨(h1.same e).sq,(h3.same e).sq⟩) f j ϶u q
 .split at q
  .rename_i l
   cases J with
   |tup h1 f=>
    cases R with|tup h3 j=>show key true (λH' e=>⟨Yr.of<|e _ _ h1,Yr.of<|e _ _ h3⟩) f j (λ_=>l) q
  show q.elim
 show q.elim
def IW(hg:Ħ "zip")(e:ϳe "zip")(h:â a fa)(k:â b fb)(c:Ñ (Õ ψ=(false,π)::Õ [b]))(S:Ñ (Õ [b]=(false,ϲV)::Õ []))(f:Ñ (Õ ψ=ϦQ π ϲV))(d:Ñ (Õ [b]=ϱj ϲV)):ύD (ô (ú "zip" p) ψ pos) (FY fa fb):=ϫV (U_ (es:=ts) (k:=tk) (tpos:=tpos) (p:=p) (pos:=pos) hg e (ϒ3 r m) f d) Wh
def AG(hg:Ħ "zip")(l:ϳe "zip")(h:â a fa)(k:â b fb)(f:Ñ (Õ ψ=(false,π)::Õ [b]))(c:Ñ (Õ [b]=(false,ϲV)::Õ []))(n:Ñ (Õ ψ=ϦQ π ϲV))(g:Ñ (Õ [b]=ϱj ϲV)):ύD (ô (ú "zip" p) ψ pos) (iZp fa fb):=λK m i s o H r I⟨F,j,P,S,z⟩=>IW hg l h k f c n g K m i s o H r I ⟨F,j,P,S,by
 revert z
 delta iZp FY;cases fa j with
 |ok x=>cases fb j with
  |ok y=>
   change Ϙp KP->Ϙp Cu;generalize x.er=d;generalize y.er=e;delta KP Cu;ext z;split at z
   .exact z
   show z.elim
  |_=>show id
 |_=>show id⟩
end
section
variable{M:Mx}{X:Cx}{p p1 p2 p3 p4 p5 pos spos:Pos}
def Ku(B:Zi X sc scope [(i,x)])(h:X.N.Nodup)(j:X.N[bi]?=ϱN)(e:ϲT b)(l:ż)(hc:X.N[c]?=Â z)(V:Ϻm z)(hg:ϺE (PG (ώH [y]<|Ó [(i,x)] ň) (ú y p4)<|o7 0))(he:ϺE ((ώH [y]<|Ó [(i,x)] ň).K=M.K->PE (ώH [y]<|Ó [(i,x)] ň) (û (Ü p1) (ú y p2) p3) (όY<|cx 0)))(a:Ν (à<|z==϶q))(d:Ν (à<|z==ϨY))(w:Ñ (ϤH (.ListComp (û (Ü p1) (ú y p2) p3) [⟨ú y p4,ú z p5,[],0⟩] scope pos) (Â<|ú b p) spos.line X.env=ϯs))(S:ž (∀v,foldedSetIterable (ú z p5) X.env v=pure v) mqae._auto_1)(f:ž (X.fn b=true\/X.env.scope.names.lookup b=Â Ų) mqad._auto_1):
  ŋ (ϳc [ú b p] (.ListComp (û (Ü p1) (ú y p2) p3) [⟨ú y p4,ú z p5,[],0⟩] scope pos) spos) (aC bi<|W8<|Fc i c):=λr m=>
 Z8 (Bi (wi:=ϑF<|cx c) (g:=o7 0) (tc:=K9) (te:=όY<|cx 0) [y] h j e B l (IV M.K r<|aA hc V a d) hg (ϴk GL) (ϮQ<|ϑr n r) w S f) λD k H q=>by let Q:=GN (o8 j) q;show Sv<|ID Q
end
def Zn(P:Do)(w:Ev):CXT:=λouter H s E e S=>∃(a:Ix)(cls A:Db)(B:Op)(H':Hp),
 e=Ä a/\ϒY (Heap.FlyingW B outer a cls A S.heap) ((∀b o,ϐb=Ø->b∉Yp outer->(ϦL\/ϰx≠none)->Ϫ7=Ø)/\E cls none H')
def tH(h:env.frame=some L):Yp (env::outer)=L::Yp outer:=by delta Yp;rw[K84,h]
def xC(x:ϷV o):∃u,Τ=ě:=by
 cases o with|lst xs=>let(_,_,_,_,e):=x;show(_,e)|tup xs=>let(_,_,_,_,e,_):=x;show(_,e)|dK L0=>let(_,_,_,_,o,_,_,e,_):=x;show(_,e)|dT L0=>let(_,_,_,_,o,_,_,e,_):=x;show(_,e)|set S n=>let(o,_,_,_,e,_):=x;show(_,e)|ins C dx fs=>let(_,_,_,e,_):=x;show(_,e)|own y=>show x|xd fs=>obtain⟨_,⟨_,_,_,e,_⟩,_⟩:=x;show(_,e)|rng lo hi=>let(_,_,_,e):=x;show(_,e)|W3 ob u=>show(_,x.1)|tbl ps=>show(_,(show Τ=Â _ from x))|met f y=>show(_,(show Τ=Â _ from x))|ext φ=>show x.2.1
section
variable{X:Cx}{s':Da}{B h'':Op}
theorem DV(J:ì D0 σ H' s')(S:X.stack=Ϻl)(f:X.env.frame=Â X.env.locals)(hex:X.ex=[])(up:s'.heap.UpToSlots h'')(Yb:B.StaysIn h'')
  (C:∀b o,ϩw=Ø->b∉϶G->(ϦL\/ϸI≠none)->Ϫ7=Ø):
  Un Ϥk [] X.H₀ H' X.s₀.heap h''/\Ϻp H' h''/\∀b o,ϒb=Ø->b∉Ϥk->(ϦL\/ϸI≠none)->Ϫ7=Ø:=by
 let nb:∀b o,ϸI=Ø->ϵB:=λb o q=>Ym<|ϯO q J.ok.above;let ns:∀b,b∉Ϥk->ϵB->b∉϶G:=λb H d=>by rw[S,tH f];exactλm=>(W7.mp m).elim d H
 let nx:∀b,b∉X.ex:=λb=>ϱZ hex
 let r:∀b,ϦL->b∉϶G:=λb n m=>n<|J.Zo b m;let old:∀b o,ϸI=Ø->b∉Ϥk->∀a,ϩw=ϸg->ϒb=ϸg:=λb o q n a Q=>Yb b a (Ϛa<|Ð<|ϱZ q);let fr:∀b o,b∈Ϥk->ϩw=Ø->∃s,ϒb=Â {o with slots:=s}:=λb o m q=>by
  let M:b∈϶G:=by rw[S,tH f];show Ā m
  let(_,a,Q,F):=J.stack.mem M;rw[q]at Q;cases Q;show up b o q F
 apply((λb o q n h _=>?_,λb o q n h _=>?_,λb o q n _=>ϚH<|nx b,λb o q _=>?_,J.base.tups,J.base.frzs,J.base.tbls),ϩD,λb o q n hc=>?_)
 .exact Ϻ0 q h o<|Ϛq<|nx b
 .let(s,e1):=Ϛw<|nx b
  let(w,E):=fr b _ h e1;show(w,E)
 .let(a,e1):=ϚM<|nx b
  by_cases h:b∈Ϥk
  .let(w,E):=fr b _ h e1
   show(_,E)
  show(a,Ϻ0 q h a e1)
 .apply(J.Uf b u e).Yb (λc v hc q=>Yb c v<|C c v q (r c ?_)<|Ê ?_) Ϥj ϸ5
  .rcases hc with rfl|hc
   .rw[e];simp
   rw[hc];simp
  rcases hc with rfl|hc
  .rw[e];simp
  rw[hc];simp
 let ex:∃a,ϩw=ϸg:=by
  rcases hc with hc|hc
  .cases z:H' b with|none=>show Ć z hc|some u=>show xC<|J.Uf b u z
  cases z:X.s₀.heap.get? b with|none=>show Ć z hc|some u=>show ϚN<|nx b
 let(a,e1):=ex;let nl:ϵB:=by
  rcases hc with hc|hc
  .exactλz=>hc (z▸J.free)
  cases z:X.s₀.heap.get? b with|none=>show Ć z hc|some u=>show nb b u z
 let E:=C b a e1 (ns b n nl) hc;let y:=Yb b a E;rw[q]at y;cases y;show E
end
def Lv(X:Cx)(E:XK):Prop:=X.stack=Ϻl/\X.env.frame=Â X.env.locals/\X.ex=[]/\
 ∀(e:Db)(s:Da),Ĕ (leaving X.env e) (λ_ S=>ϻZ X.outer X.H₀ X.s₀ E e S) (λe' S=>ϻZ X.outer X.H₀ X.s₀ E e' S) s->X.xe e s
def Lv.of{P:Do}{w:Ev}{K:At}{m:ĳ}{base:Op}{N:À Str}{qual:Str}{scope:Scope}{f:Ix}{cd:Db}{A:Go}{outer:À PySem.Env}{s:Da}{H:Hp}{E:XK}:
  Lv (wy ϱ5 P w K m base N qual scope f cd A outer s H E) E:=⟨rfl,rfl,rfl,λ_ _ h=>h⟩
section
variable{X:Cx}{s s':Da}
def Lv.pass(L:Lv X E):Passes ϻZ X E:=λp m H s e d I x=>by
 let(S,h,hex,a):=L;let(g,cls,A,B,H',rfl,os,bare,un,K,fl,C,j):=x;let J:ì p m H' d:=I.call' os un K bare λb z=>Ć z Û;apply a _ _ ?_;rw[S]at fl;apply wpAny_leaves_onW ϔw h fl λi f up=>?_;let c:∀b o,d.heap.get? b=Ø->b∉϶G->(ϦL\/ϸI≠none)->Ϫ7=Ø:=λb o q n hc=>C b o q n<|hc.imp_right λz=>by
  cases y:X.s₀.heap.get? b with
  |none=>show absurd y z
  |some u=>
   let(O,Q):=I.base.there b u y (ϱZ hex);rw[Q];simp
 let(U,k,l):=DV J S h hex up f.1 c;show(g,cls,A,B,H',rfl,J.os,bare,U,k,f,l,j)
def Lv.made(L:Lv X E)(I:ø){c:Op}{e C:Ix}{args:À Db}(x:Heap.MadeExcOf s.heap c e (Ä C) args)(d:E (Ä C) none H):X.xe (Ä e) ϭt:=by
 let(S,f,hex,a):=L;apply a _ _ ?_;let h:∀env∈Ϻl,∀b,env.frame=ϱN->b∈Yp Ϻl:=λenv he b B=>ώa ⟨env,he,B⟩;let fr:=I.stack;rw[S]at fr;apply wpAny_leaves_madeW (base:=Ϛr<|Yp Ϻl) ϔw f (λb o q=>PySem.W.of_hideAll _ q) (PySem.W.funFrames_hide fr h) x λi t fl _ _ up=>?_;let u:s.heap.UpToSlots i:=è (Heap.UpToSlots.of_keeps x.keeps) up;let(U,k,l):=DV I S f hex u fl.1 λb o q n _=>ϖP q (by rw[<-S];show n);show(e,_,_,_,H,rfl,I.os,I.bare,U,k,fl,l,d)
end
abbrev vE:À Db:=[ć "ValueError",ć "Exception",ć "BaseException",ć "object"]
abbrev vN:String:="ValueError.__new__"
set_option tactic.hygienic true in
theorem sW{K:At}{h:Op}(X:ϳN)(q:ώY K):
  ∃m N y1 y2 y3 y4 y5 y6 y7 y8 y9 z T g Z U mN,h.get? C=Â (excClassObj y1 y2 C N y3 m y4 y5 y6 y7 y8 y9 z T g Z U vN)/\h.Ns N mN/\mN "__init__"=none/\OwnTail h vE m:=by
 delta excIn at q;split at q
 case h_2=>cases q
 case h_1 y9 cd sl hl=>
  split at q
  case h_2=>cases q
  case h_1 C1 m z T g Z z4 U e1 e2=>
   simp only[Yt,beq_iff_eq,Zbs]at q;obtain⟨⟨⟨⟨⟨c1,a⟩,j⟩,k⟩,n⟩,c⟩:=q;cases c1;cases a;cases cd with
   |mk y1 y3 m0 N y2 y4 y5 y6 y7 y8 dl=>
    dsimp only at e1 j n c;cases e1;cases j;cases sl with
    |mk ls=>
     dsimp only at e2;cases e2;show(m,N,y1,y2,y3,y4,y5,y6,y7,y8,y9,z,T,g,Z,U,_,X _ _ hl,.of_isNs<|PySem.W.isNs_of_in X n,PySem.W.nsMap_none_of_in X n c,PySem.W.tail_of_in X k)
set_option tactic.hygienic true in
def kA(c:Str):Fs:=λ_=>ϵo
section
variable{M:Mx}{X:Cx}{np cpos pos p2:Pos}
def rX(L:Lv X M.E)(hc:ż)(hg:Ħ x)(m:M.mg x=Â (Ä C))(k:ώY M.K)(g:ġ "__debug__")(a:Ñ (Õ [ė (Ô t) j p2]=ϰv (ė (Ô t) j p2) (Õ []))):
  ŋ (.Raise (Â<|ô (Ü np) [ė (Ô t) j p2] cpos) none pos) (kA x):=λr c p s K H D I q=>by
 let(F,Y,P,S,V,e1,E):=q;rw[m]at e1;cases e1;let b:=E none H λ_ _ z _=>z;rw[<-r]at k;let(R,N,y1,y2,y3,y4,y5,y6,y7,y8,y9,v,B,G,J,U,mN,u,n,h,T):=sW I.mod.kin k;apply wpAny_Raise_call_subU (C:=C) (nm:=y1) (q:=y2) (N:=N) (bs:=y3) (bm:=R) (hdct:=y4) (sn:=y5) (sub:=y6) (ab:=y7) (col:=y8) (dd:=y9) (k0:=v) (k1:=B) (k2:=G) (k3:=J) (k5:=U)
  PySem.F.excBase_ValueError á PySem.F.excBase_ValueError (mN:=mN) όV ϱV (by rw[a];rfl) h (ϪU (by rw[c];show m) ((ϱB ?_)) g)
 let A:ϰM [ė (Ô t) j p2] _:=ϸA Ih a;let w:=A cpos p s K H (λd H'=>H'=H/\Ą d.length) I (ϱB (ϱd (Ą 1)));rw[a]at w⊢;apply Ϗn<|K8m w (λus W Z=>?_) λ_ _ y=>y;let(d,O,f,o,rfl,l):=Z;show(rfl,by rw[<-o.length];show l,f.bk _ _ u,n.keeps f.bk,T.keeps f.bk,λQ e i=>L.made f i b)
end
end L3
namespace L3
open PySem L2 PySem.Spec PyProof.Rows Builtin Builtin.ObjectAttr Builtin.Getset_descriptor
structure Yu(K:At)(C:Ix):Prop where
 ex:ώY K
 ga:Υ (Ä C) "__getattribute__"=ϳb (ğ "BaseException.__getattribute__")
 ca:Υ (Ä C) "__class__"=ϳb (ğ "object.__class__")
 ng:Υ (Ä C) "__getattr__"=η
 mo:mroIn K C (ć "object")=ϱ3
section
variable{prog:Do}{w:Ev}{A:Go}{E:Ý Db Da}{h:Op}{g:ϰ3 GenState}{d:Drawn}{t:Nat}{os:OsState}{a C:Ix}{o:Obj}{K:At}
def Qs{R:Ý Result Da}(Z:ϴz C)(X:ϳN)(x:Τ=Ø)(hc:o.cls=Ä C)(q:R (ϧz<|Ä C) ϵC):
  ϵk ϲm A (ϻB (ğ "getset_descriptor.__get__") (ϰI [ğ "object.__class__",Ä a,tp])) R ϵC:=by
 let l:PySem.W.Looks ϲm h (typeOf<|Ä a) (Ä C):=hc▸(PySem.W.Looks.ld x).andThen .now;let L:=PySem.W.looks_mroIn (M:=ϲm) X Z.mo;apply ϙc<|PySem.W.KF.slot_gs.check _ _ _ _ _ _ _ _ PySem.W.KF.type_class (PySem.W.KF.args_gs _ _ _) ?_;delta Builtin.«getset_descriptor.__get__» descrGet;rw[PySem.W.dga_obj];apply Fq Δ;delta descrGetter descrCheckInstance descrNameAndClass isInstance;simp only[PySem.W.KF.owner_class]
 repeat lk
 apply(ώg ñ,ϸK PySem.W.KF.entry_class);delta Builtin.«object.__class__» shownTypeOf
 repeat lk
 show q
def Gn(Z:ϴz C)(X:ϳN)(x:Τ=Ø)(hc:o.cls=Ä C)(q:Q (.done<|.ret<|Ä C) ϵC):
  Ł (Builtin.«object.__getattribute__» (ϰI [Ä a,Ô "__class__" tk])) Q E ϵC:=by
 let H:(ϵC:Da).TypeIs (ğ "object.__class__") "getset_descriptor":=PySem.F.typeOf_object_class;let m:=PySem.F.typeOf_object_class;let f:=PySem.F.slot_gs_get.lookup;let F:=PySem.F.slot_gs_set.lookup;let L2:=K87 (M:=ϲm) X Z.ca
 repeat (any_goals (first|assumption|(with_reducible apply K8C x ?_;rw[hc])|with_reducible apply L2.at ?_|wp_step))
 apply Qs Z X x hc ?_
 repeat (any_goals (first|assumption|wp_step))
def FJ(Z:ϴz C)(X:ϳN)(x:Τ=Ø)(hc:o.cls=Ä C)(q:Q () ϵC):
  Ϻv (checkBuiltinCall "BaseException.__getattribute__" (ϰI [Ä a,nameV])) ϵC:=by
 let(m,N,y1,y2,y3,y4,y5,y6,y7,y8,y9,z,e,f,i,U,mN,u,H,n,T):=sW X Z.ex;let k:builtinKind "BaseException.__getattribute__"=Â .slot:=ñ
 let b:splitId "BaseException.__getattribute__"=some ("BaseException","__getattribute__"):=ñ
 let k3:(ϐw::m).contains (ć "BaseException")=true:=ϳB Zcl όV
 let c:=PySem.F.args_bexc_ga (Ä a) nameV;simp only[checkBuiltinCall,k,b];apply ϳh;delta isInstance
 repeat (first|(with_reducible apply K8C x ?_;rw[hc])|(with_reducible apply wpAny_isSubtype_exc u ?_;rw[k3])|wp_step)
 show q
def US{tk:Tok}{fill expr:Bool}{Q:Ý Db Da}(Z:ϴz C)(X:ϳN)(x:Τ=Ø)(hc:o.cls=Ä C)(q:Q (Ä C) ϵC):
  Ł (getAttrBy (Ä a) (Ô "__class__" tk) fill expr) Q E ϵC:=by
 let FB:=PySem.F.attrBase_ValueError;let f:=FB.ga.bind<|Ä a;let n:à (expr&&onTheHeap όT):=ϭ4 expr
 let N:à (όT==ϓL):=ñ
 let i:à (onTheHeap ϐw&&όT==ϓL):=by rw[N];rfl
 let L:=K87 (M:=ϲm) X Z.ga;let l:=K87 (M:=ϲm) X Z.ng
 repeat (any_goals (first|assumption|(with_reducible apply K8C x ?_;rw[hc])|with_reducible apply L.at ?_|with_reducible apply l.at ?_|wp_step))
 apply ϙg<|FJ Z X x hc<|Gn Z X x hc ?_
 repeat (any_goals (first|assumption|wp_step))
def La(Z:ϴz C)(X:ϳN)(x:Τ=Ø)(hc:o.cls=Ä C)(q:Q (Â<|Ä C) ⟨h,g,d,t+1,os⟩):
  Ł (getAttr? (Ä a) "__class__") Q E ϵC:=by
 delta getAttr? getAttrBy?
 repeat (any_goals (first|assumption|with_reducible apply US Z X x hc|wp_step))
end
end L3
namespace L3
open PySem L2 PySem.Spec PyProof.Rows
def UZ(a C:Ix)(h:Op):Prop:=∃o,Τ=Ø/\o.cls=Ä C
def z6{K:At}{a C:Ix}(Z:ϴz C):PySem.W.KitX K (Ä a) (Ä C) (UZ a C) where
 ty:=λM h _ p=>by let(o,b,c):=p;show c▸(PySem.W.Looks.ld b).andThen .now
 it:=λM h X _=>by let(m,N,y1,y2,y3,y4,y5,y6,y7,y8,y9,z,T,f,j,U,mN,u,_):=sW X Z.ex;ext A Q E s k q;delta isType loadHead;show Fq<|wpAny_loadPart (ϰh u)<|Ps q
 ne:=λh tp D i n l X H=>by
  let(m,N,y1,y2,y3,y4,y5,y6,y7,y8,y9,z,T,f,j,U,mN,u,_):=sW X Z.ex;apply Bool.eq_false_iff.mpr λq=>?_;let e:C=tp:=Value.ref.inj<|beq_iff_eq.mp q;rw[<-e,u]at H;let y:=Xn Obj.data<|Zh H;cases y
 ca:=fun{prog w A E Q s} X p k=>by let(o,b,c):=p;let(h,g,d,t,os):=s;show La Z X b c k
section
variable{M:Model}{A:Go}{E:Ý Db Da}{h:Op}{g:ϰ3 GenState}{d:Drawn}{t:Nat}{os:OsState}{e C D:Ix}{o:Obj}{K:At}
def O3(X:ϳN)(a:ώX K)(S:Ϲp (Ä C) (Ä D)=ϱN)(he:h.get? e=Ø)(hc:o.cls=Ä C)(q:Q b ϵC):
  Ϻv (excMatches (Ä e)<|Ä D) ϵC:=by
 let(m,N,y1,y2,y3,y4,y5,y6,y7,y8,y9,z,Z,i,j,U,mN,H,c,n,T):=sW X a;let B:(Value.ref D::m).contains (ć "BaseException")=true:=by rw[Zcl,όV,Bool.or_true]
 let f:=tc_notTuple;let l:=PySem.W.looks_subIn (M:=M) X S;delta excMatches
 repeat (first|(with_reducible apply K8C he ?_;rw[hc])|with_reducible apply l.at ?_|with_reducible apply K8C H ?_|(with_reducible apply wpAny_isSubtype_exc H ?_;rw[B])|wp_step)
 cases b<;>(wp_walk;show q)
end
def cxM(X:Cx)(E:Ix)(O:Obj):Cx:={X with A:=X.A.mark<|Â<|Ä E,calm:=false,xe:=ϳt,pn:=(E,O)::X.pn}
section
variable{X:Cx}{oe:Obj}{s:Da}
def Kp(I:ø)(h:s.heap.get? ea=Â oe/\H ea=none/\ϐT ea/\ea∉X.fs/\∀v,oe.data≠ŏ v):Ϲe (Ϲu ea oe) H s:=
  ⟨όK ϶t,
    I.os,I.bare,I.base,I.loc,I.cell,I.free,I.Xj,λp m=>by
      rcases W7.mp (show p∈(ea,oe)::ϺR from m)with rfl|m
      .exact h
      .exact ϶S m,I.Uf,I.len⟩
def JS(hc:ż->ϭq)(f:X.A.frames=Â X.stack)(I:Ϲe (Ϲu ea oe) H s):ø:=
  (ϥK ⟨I.ok.mod,I.ok.kind,I.ok.glob,I.ok.blt,I.ok.above,I.ok.inj,I.ok.has,I.ok.cab,hc,f,I.ok.stk,I.ok.exf,I.ok.bs,I.ok.bsz,I.ok.noex,I.ok.exfs,I.ok.Yo,I.ok.frf⟩ (λp m=>϶S<|Ā m))
end
def tB(P:į St)(b:Bool):TE:=λa H Q=>P a/\∀H',ϵg->Q ϱz H'
section
variable{X:Cx}{pos p p2 p3:Pos}{i j:Nat}
def Pe(i:Nat)(E:Ix)(j:Nat)(a:St):Prop:=ϰ5=Â (Â<|Ä E)/\j<a.length/\i≠j
def Dl(Z:Yu X.K C)(P:(ea,oe)∈X.pn)(g:oe.cls=Ä C):
  d5 X (ğ "isinstance") (λS H Q=>∃v b,S=[Ä ea,v]/\((∃u,ϱu/\(∀a,RelV v a->a=u)/\ϒc (Ä C) u=ϱN)\/
   ∃p d us,v=Ä p/\H p=Â (Ī d)/\(∀U,Vals d U->U=us)/\PySem.W.kitAny X.K (Ä C) us=ϱN)/\ξ ϱz):=by
 ext i s y H S us Q I r h;let(v,b,rfl,c,q):=h;let(m,w,rfl,j,R):=Vals.two r;cases(show m=ϧq ea from j);let fin:∀tk,ϳX i y Q (ß b) {s with toks:=tk}:=λtk=>⟨ϱz,H,I.tok tk,rfl,q⟩
 let x:UZ ea C s.heap:=(ϱR oe (I.pin _<|Ŀ P).1 g);rcases c with⟨u,B,l,e⟩|⟨p,d,ws,rfl,V,l,e⟩
 .cases l _ R
  show K8T (z6 Z) I.Zj x e ϶u fin
 cases(show w=Value.ref p from R);let(_,t,k,o,K,k3,n,f):=(ω (Ϻq H s.heap p (Ī d))<|Ϫ2 V)
 cases l _ k;let(A,od,O,L):=o;cases k3;cases f;show PySem.W.kia_tup (z6 Z) I.Zj x K e ϶u fin
end
structure Xs(X:Cx)(C ea:Ix)(oe:Obj):Prop where
 k:Yu X.K C
 pin:(ea,oe)∈X.pn
 ob:oe.cls=Ä C
section
variable{X:Cx}{P:į St}{es:À On}{c:Bool}{pos p p2 p3:Pos}{i j x1:Nat}{x y:Str}{C ea D:Ix}{oe:Obj}{Ds:À Ix}
def da(Z:Xs X C ea oe)(b:∀a,P a->ϰ5=Â (Â<|Ä ea))(n:Ķ X.N=γ)(V:Ϻm y)(g:Ħ "isinstance")(m:ϳe "isinstance")(hg:Ħ x)(M:ϧ9=Â (Ä D))
  (e:ϒc (Ä C) (Ä D)=ϰf) (f:ġ "__debug__") (Y:Ν (à<|y==϶q)) (d:Ν (à<|y==ϨY))
  (S:Ñ (Õ [ú y p2,Ü p3]=ϰv (ú y p2) (Õ [Ü p3]))) (s:Ñ (Õ [Ü p3]=ϰv (Ü p3) (Õ [])))
  (l:Ñ (Ŕ<|ϰU<|Õ [Ü p3])):
  ç (ô (ú "isinstance" p) [ú y p2,Ü p3] pos) (tB P c):=
 Y1 (ϓ4 (aA n V Y d) (Dv (v:=Ä D) hg M rfl f) á á S l) λa H Q q=>⟨_,b a q.1,_,c,rfl,Ê ⟨Ä D,rfl,λ_ h=>h,e⟩,q.2 H ţ⟩
def vq(Z:Xs X C ea oe)(b:∀a,P a->ϰ5=Â (Â<|Ä ea))(n:Ķ X.N=γ)(f:Ϻm y)(g:Ħ "isinstance")(m:ϳe "isinstance")(hg:Ħ x)(M:Ϻz)(t:ϷN=Â (ć T))(e:ϒc (Ä C) (ć T)=ϰf)(N:Ν ϷL)(D:ġ "__debug__")(Y:Ν (à<|y==϶q))(d:Ν (à<|y==ϨY))(S:Ñ (Õ [ú y p2,Ü p3]=ϰv (ú y p2) (Õ [Ü p3])))(s:Ñ (Õ [Ü p3]=ϰv (Ü p3) (Õ [])))(l:Ñ (Ŕ<|ϰU<|Õ [Ü p3])):
  ç (ô (ú "isinstance" p) [ú y p2,Ü p3] pos) (tB P c):=
 Y1 (ϓ4 (aA n f Y d) (Df (v:=V.ty T) hg M t rfl N D) á á S l) λa H Q q=>⟨_,b a q.1,_,c,rfl,Ê ⟨ć T,rfl,λ_ h=>h,e⟩,q.2 H ţ⟩
end
section
variable{h1 hs h5 B:Op}
def PY(un:Un fs [] H1 H' h1 hs)(K:ϥj H' hs)(Yb:B.StaysIn h5)(up:hs.UpToSlots h5)(C:∀b o,hs.get? b=Ø->b∉fs->(ϦL\/h1.get? b≠none)->Ϫ7=Ø)
  (f:∀b∈fs,∀o,hs.get? b=Ø->∀d,o.data≠Κ d) (H:∀b∈fs,϶L):Un fs [] H1 H' h1 h5/\ϥj H' h5:=by
 apply((λb o q n h x=>?_,λb o q n h x=>?_,un.free,λb o q x=>?_,un.tups,un.frzs,un.tbls),ϩD)
 .exact Yb b o (ϙX<|Ð<|ϱZ q)
 .let(l,e1):=un.slot b o q n h x
  let(s,E):=ϖp<|f b h _ e1;show(s,E)
 .let(a,e1):=un.there b o q x
  by_cases h:b∈fs
  .let(s,E):=ϖp<|f b h _ e1
   show(_,E)
  show(a,Yb b a<|C b a e1 h<|Ð<|ϱZ q)
 let r:∀c,H' c≠none->∀v,hs.get? c=ă->h5.get? c=ă:=λc hc v q=>Yb c v<|Ϛd<|Ê hc;apply(K b u e).Yb (λc v hc q=>r c ?_ v q) Ϥj ϸ5;rcases hc with rfl|hc
 .rw[e];simp
 rw[hc];simp
end
section
variable{X:Cx}{σ:St}
set_option tactic.hygienic true in
def Ex(I:ø)(k:X.N.Nodup)(hi:Ķ X.N=ϰQ)(l:ϕg=Â Ų)(V:ϲG=Â ă)(h:∀f,ì D0 (ϷP none) H f->Q () f):Ϻv (unbindName X.env n) s:=by
 let(m,N,d):=ϯ9;let cne:=I.cne;let P:à ϒL:=ϰd I.ok.kind
 let(u,_,G):=d i n v hi V<|Ê l;let r:m n=ě:=by
  rcases G with⟨_,e⟩|⟨e,_⟩
  .exact e
  rcases e with e|e
  .rw[show ϭK=Â Ų from l]at e;cases e
  rw[show ϭK=Â Ų from l]at e;cases e
 let(L,_,_,U,_):=id N;apply wpAny_unbindName_local l N r P λx t T S=>h _ ?_;let old:∀b o,ϸI=Ø->ϵB:=ϱk (Ym<|϶B I.ok.above);apply(I.ok,I.os,I.bare,(?_,?_,I.base.free,?_,I.base.tups,I.base.frzs,I.base.tbls),(_,T,?_),?_,I.free,I.Xj,?_,?_,?_)
 .exactλb o e n1 n2 n3=>è (ϵ0<|Ϻ0 e)<|ώt n1 n2 n3
 .exactλb o e n1 n2 n3=>(ϭi n1 n2 n3).imp λC q=>è (ϵ0<|Ϻ0 e) q
 .exactλb o e n1=>(Ϩ7 n1).imp λB q=>è (ϵ0<|Ϻ0 e) q
 .intro j y w e1 a g
  by_cases J:j=i
  .subst J
   rw[List.getElem?_set]at a;split at a
   .split at a<;>cases a
   rename_i z;show ϲv z
  rw[K9E<|K8g J]at a;let(W,R,q):=d j y w e1 a g;apply(W,R,q.imp Ϙa Ϙa)
  .let Y:y≠n:=λe=>J<|wN k e1 (e▸hi)
   change(if y=n then t else m y)=some W;rw[P3 Y];show z.2
  let(_,c,e,Z):=z;show(c,e,Z.sameBut S ϮR)
 .exactλy c e=>(I.cell y c e).imp λW z=>ύK ϮR
 .exactλp m=>let⟨q1,q2,q3,q4,q5⟩:=϶S m;⟨è (S.2 p.1 q3) q1,q2,q3,q4,q5⟩
 .intro b O e
  apply(I.Uf b O e).Yb (λc W hc q=>è (S.2 c ?_) q) Ϥj ϸ5;ext z;subst z;rcases hc with z|hc
  .rw[<-z,I.free]at e;cases e
  rw[I.free]at hc;cases hc
 rw[K8z];show I.len
end
section
variable{X:Cx}
theorem MS(I:ì D0 σ H1 s1)(x:ϻZ X.stack H1 s1 E' ev s')(s:X.stack=Ϻl)(F:X.env.frame=Â X.env.locals)(hD:ώX X.K)(hgD:Ħ dx)(hmD:X.mg dx=Â (Ä D))(hd:à (dx==϶q))(h:∀e cls H',ev=Ä e->E' cls none H'->∃C,cls=Ä C/\subIn X.K (Ä C) (Ä D)=ϱ3/\
   ∀s5,(∀(Y:Ý Unit Da)(c:Ý Db Da),(∀M s6,M.cls=Ä C->Ϲe (Ϲu e M) H' s6->Y () s6)->϶e ϰO (X.A.mark<|Â<|Ä e) (ϭ5<|Ä e) Y c s5)->
    codeAny ϰO (X.A.mark<|Â<|Ä e) (όX (Ä e) nm) (λr S=>match r with
     |.ok f=>(match nm with
      |none=>Q f S
      |some n=>Ĕ (do bindName X.env n .none;unbindBehindTheSuite X.env n Zk) (λ_ a=>Q f a) E S)
     |.error x=>cameBackBy ϰO X.A X.env E x S) s5):
  Ĕ (noteFrame ev X.env) (λ_ S=>Ĕ (ϭ5 ev) (λ_ a=>Ĕ (handleBy ev X.env [ϏH (Â<|ú dx np) nm ϯS Zk]) Q E a) E S) E s':=by
 let(e,cls,a0,B,H',rfl,os,bare,un,G,fl,O,hE'):=x;let(C,rfl,U,hh):=h e cls H' rfl hE';let J:ì D0 σ H' s':=I.call' os un G bare λb z=>Ć z Û;let nf:∀b∈϶G,∀o,ϩw=Ø->∀V,o.data≠Κ V:=λb m o q V=>by let(_,o',q',k):=J.stack.mem m;rw[q]at q';cases q';show k V
 let later:∀g,B.StaysIn g->s'.heap.UpToSlots g->ì D0 σ H' ϭk:=λg st up=>by let(u5,k5):=PY un G st up O nf J.Zo;show I.call' (s':=ϭk) os u5 k5 bare λb z=>Ć z Û
 let(M,V,t,Zq,hod,_):=fl.first;let A:e∉϶G:=λm=>nf e m M t V hod;let eaN:H' e=none:=by
  cases z:H' e with
  |none=>rfl
  |some u=>
   let q:=O e M t A (Ê<|ϱZ z);rw[fl.2.1]at q;cases q
 let Z:e≠X.env.locals:=λz=>A (by rw[s,tH F,z];show P0);let eaO:e∉X.fs:=λm=>A (by rw[s,tH F];show Ā m);let mk:∀g o v,g.get? e=Ø->o.data=Κ v->ì D0 σ H' ϭk->Ϲe (Ϲu e o) H' ϭk:=λg o v q1 q2 W=>Kp W ⟨q1,eaN,Z,eaO,λz=>by rw[q2];ext y;cases y⟩;rw[s]at fl;apply wpAny_looks_onW (by rw[<-s];show I.ok.frames) F fl λh4 fl4 R=>?_;apply wpAny_landsW fl4 λg l T=>?_;let W:=later g l.1<|R.trans T;let(N,vs5,H,d,j,_):=l.first;let M5:=mk g N vs5 H j W;apply wpAny_handleBy_cons (codeAny_handlers_test ?_) (by ext q;cases q);apply qJ (X:=Ϲu e N) M5 hgD hmD ?_ hd;apply O3 (h:=g) (K:=X.K) W.Zj hD U H d ?_;apply hh _ λY c hq=>?_;apply lands_againW l λh6 L up6=>?_;let(P,vs6,w,i,p,_):=L.first;show hq P _ i<|mk h6 P vs6 w p<|later h6 L.1<|è (R.trans T) up6
end
def NQ(I:ø):Ϲe ϭD H s:=
  (ϥK (όK I.ok.hd) I.pin)
def vT(I:Ϲe ϭD H s):ø:=
  (ϥK (όK I.ok.hd) I.pin)
section
variable{p pos cpos epos Zk np:Pos}
end
theorem sy{P:Do}{w:Ev}{K:At}{g:ĳ}{base:Op}{x qual:Str}{T:No}{f:Ix}{fd:Fk}{N ps:À Str}{k np n:Nat}{body:Fs}{fn:Fn}(B:fn=bj np n body)(I:Ϸ4 np)(G:ϑ5)(F:Ϩ8)(S:Ϥ3 ϸh)
  (h:∀(c:Db)(A:Go)(outer:À PySem.Env)(s:Da)(H:Hp)(E:XK),Ϩw ϸh->ϖc (ό0 ϱ5 g)):
  Ϲg g base ϱ5 (k+1) f fd ps (Tk K g fn):=by
 subst B I G;let J:Ϭ1:=ϨZ (ϱT S.pre) Zg
 let l:∀b H Q E,ύb b H Q E->ϲB b.length:=by
  ext b H Q E ⟨F,D,M,R,p⟩;by_cases L:ϲB D.length
  .rw[όj]
   show L
  delta bj at p;rw[P3 L]at p;show p.elim
 let(X,od,kV,doc,pm,an,c,ct,U,rfl,O,C):=F.ex;apply ND O C S l λA outer s H b Q E hr i=>?_;let V:=l _ _ _ _ i;let(j,D,M,R,p):=i;let d:ϲB D.length:=ϰy όj V
 delta bj at p;rw[Os d]at p;apply(_,ύx,j,uf N.length D,[],(M,?_,K8w,ϰn,?_),ħ Ϧ0)
 .unfold L2.start uf
  rw[V,d];show uE _ R
 .unfold uf
  change ϑS;rw[Ww,K1,K8r,d];lia
 cases o with
 |nx ρ=>show λW e H' u t T=>po .Re e H' [] ⟨T.ff,ϥo (Ϻk Û),t.same,λa q z=>ϥl q Û z⟩ Ϗ0 ϰn
 |rt y=>exactλv e H' fx sm' r T=>po v e H' fx ⟨T.ff,ϥo (Ϻk Û),sm',λa q z=>ϥl q Û z⟩ r λa m=>(T.new a m).elim ϶t id
 |bk ρ=>show po.elim
 |ct ρ=>show po.elim
section
variable{pos:Pos}
end
end L3
namespace L3
open PySem L2
def kE:K4 ϵo p=ϵo:=rfl
def ky:KC ϵo=ϵo:=rfl
def jN(c:Str):kA c ρ=ϵo:=rfl
end L3
namespace L3
open PySem L2 PySem.Spec PyProof.Rows
section
variable{pos p2:Pos}
end
section
variable{pos:Pos}
end
def uO:∀{bs:Ϲd}{us:À Db},ϳM ϏI->us=bs.map Value.bool:=by
 ext bs
 induction bs with
 |nil=>exactλh=>Vals.zero h
 |cons b r ih=>
  ext us h;cases h with|cons q t=>rw[L4,ih t];show Xn (· ::_) (ω (_=ϩM) q)
end L3
namespace L3
open PySem L2 PySem.Spec PyProof.Rows PySem.W
def A_(f:Fs):Fs:=λa=>match f a with
 |.ok o=>.ok o
 |_=>È
def KI{pos:Pos}(B:∀xe,DSs M ϭD body f):ŋ (.Try body (h0::hs) [] [] pos) (A_ f):=λK m i s n H D I q=>by
 let(F,k,P,S,p):=q;let l:ÿ P (Ϙb F H P D) (f k):=by
  delta A_ at p;cases hf:f k with|ok o=>rw[hf]at p;show p|ex c=>rw[hf]at p;show p.elim|bad=>rw[hf]at p;show p.elim
 apply wpAny_Try_except<|K8m (B (λe g=>Ĕ ϖZ (λ_ h=>Ĕ ϗz (λ_ j=>Ĕ (ϓ9<|h0::hs) (ϻw i D) X.xe j) X.xe h) X.xe g) K m i s n H D (NQ I) ⟨F,k,P,S,l⟩) (λfl s1 Z=>?_) ϴZ;cases fl with|next=>let(a,H',b,d):=Z;show K8U ⟨a,H',vT b,d⟩|brk=>let(a,H',b,d):=Z;show(a,H',vT b,d)|cont=>let(a,H',b,d):=Z;show(a,H',vT b,d)|ret u=>let(v,a,H',b,r,d):=Z;show(v,a,H',vT b,r,d)
end L3
namespace L3
open PySem L2
section
variable{p p2 ap cp pos:Pos}
end
end L3
namespace L3
open PySem L2 PySem.Spec PyProof.Rows PySem.W
section
variable{M:Mx}{X:Cx}
def gB(neg:Bool):ϱn
 |.int i,.list ds=>(match cu ds with
  |some ns=>Ú<|ß (Ϭe<|Ç ϪS)
  |none=>È)
 |_,_=>È
def Jg(i:Int)(ns:À Int):inV (Á i) ϰw=Ç ϪS:=by
 delta inV;rw[K8j,Zcq,Zax,Yz];constructor
 .rintro⟨n,hn,h⟩
  let h:þ (Ç<|n=i):=h;rw[<-of_decide_eq_true h];show hn
 ext h;show(i,h,K8O i)
def EW(ns:À Int):(ϰw).all tL=true:=by rw[K82,K7r];ext x _;rfl
set_option tactic.hygienic true in
def kJ(r:ŕ):ϰT (ϑX neg) (gB neg):=by
 rw[r];ext x y d D F H f Q s R Y p;delta gB at p;split at p
 .split at p
  .rename_i ns n
   cases R;cases Y with|lst h1 h2=>rw[m8 n]at h2;let e:=ϐD;subst e;apply(_,_,rfl,Ê Ϧj,rfl,EW ns,?_);rw[Jg];show ϸM ϧ0
  show p.elim
 show p.elim
def qV(neg:Bool)(i:Int)(ns:À Int):gB neg (Á i) (Å ő)=Ú (ß (Ϭe<|Ç ϪS)):=by let e:cu ő=Â ns:=eN ns;delta gB;simp only[e]
end
end L3
namespace L3
open PySem L2 PySem.Spec PyProof.Rows
def jI:Gc->Ö Str|.dict ((.none,.str nm)::_)=>Â nm|_=>none
def dC(f:Str):À ϪQ->Ö Gc
 |[]=>none
 |(.tuple [.str g],d)::r=>Ï (f=g) ϰH (ϷA r)
 |_::r=>ϷA r
def uM(f:Str):Gc->Ö Gc|.dict (_::r)=>ϷA r|_=>none
def CI(f nm:Str)(d:À ϱf):uM f (ϻm d)=ϷA (d.map ϲh):=rfl
def Eu(f:Str):ϷA []=none:=rfl
def b5(f g:Str)(d:Gc)(r:À ϪQ):ϷA ((ï [Ô g],d)::r)=Ï (f=g) ϰH (ϷA r):=rfl
def HL(s:À ς):jI (dD s)=none:=by
 delta dD;cases s with|nil=>rfl|cons p r=>let(k,v):=p;cases k<;>rfl
section
variable{K:At}{H:Hp}
def Dr:∀{s:À ϱf}{fs:À ϳC},ϲ8 fs.map ģ s.map->ϳg (ϥy ň) (ϳ2 ň)->ϷA (ϳ2 ϲh)=ϰH->∃v,Ϯw=ă/\Ĝ H v d:=by
 ext s
 induction s with
 |nil=>ext _ _ _ e;cases e
 |cons p s ih=>
  let(g,D):=p;ext fs h r e;cases fs with
  |nil=>cases h
  |cons p fs=>
  let(g',v0):=p;rw[L4,L4]at h r;rw[L4,b5]at e;let(a,b):=ϥG;let a:g'=g:=a;subst a;cases r with
  |cons r1 r2=>
   by_cases F:f=g'
   .rw[Os F]at e
    cases e;let B:þ (f==g'):=beq_iff_eq.mpr F;apply(v0,?_,r1);simp only[List.lookup,B]
   rw[P3 F]at e;let(v,q,j):=ih b r2 e;let B:à (f==g'):=ϕF;apply(v,?_,j);simp only[List.lookup,B];show q
def Bd:∀{d:À ϱf}{fs:À ϳC},ϲ8 fs.map ģ d.map->ϷA (d.map ϲh)=none->Ϯw=none:=by
 ext d
 induction d with
 |nil=>
  ext fs h _;cases fs with|nil=>rfl|cons=>cases h
 |cons p d ih=>
  let(g,D):=p;ext fs h e;cases fs with
  |nil=>cases h
  |cons p fs=>
  let(g',v0):=p;rw[L4,L4]at h;rw[L4,b5]at e;let(H,a):=ϥG;let H:g'=g:=H;subst H;by_cases F:f=g'
  .rw[Os F]at e
   cases e
  rw[P3 F]at e;let B:à (f==g'):=ϕF;simp only[List.lookup,B];show ih a e
end
theorem HJ{K:At}{F:Hp}{v:V}{d:Gc}{nm:Str}(r:Ĝ F v d)(e:jI d=Â nm):
  ∃a C x fs s,v=Ä a/\d=ϻm s/\Ė K nm=Â (Â<|Ä C)/\F a=Â (ϰE x fs)/\ϲ8 fs.map ģ s.map/\Ū (ϥy ň) (ϳ2 ň):=by
 cases r with
 |Re=>cases e
 |bl _=>cases e
 |int _=>cases e
 |str _=>cases e
 |lst _ _=>cases e
 |tup _ _=>cases e
 |dct _ _ _=>rw[HL]at e;cases e
 |@ins a C x fs nm' s h1 h2 h3=>have e':Â nm'=Â nm:=e;cases e';show(a,C,x,fs,s,rfl,rfl,h1.1,h1.2,h2,h3)
def mK(tb:Ź Str)(f:Str)(a:Fe):Fe:=λb=>ś λx=>match jI x.er,uM f x.er with
 |some nm,some d=>Ï (ā tb nm) (ò Ē) È
 |_,_=>È
section
variable{M:Mx}{σ:L3.St}{H:Hp}{Q:VK}{al:Fa}
def TJ(g:∀C nm,Ė M.K nm=Â (Â<|Ä C)->ϥQ)(h:ê (mK tb f fa) σ H Q):RW M.K (ê fa) f σ H Q:=by
 let(F,m,b,S,p):=h;apply(F,m,b,S,ħ λx X v o q t e1 r w=>?_);let(G1,d1,K):=ϲA;cases e:jI x.er with
 |none=>rw[e]at X;show X.elim
 |some nm=>
  rw[e]at X;let(a,C,D,fs,s,V,i,c,A,k,hr):=HJ K e;subst V;cases e2:uM f x.er with
  |none=>rw[e2]at X;show X.elim
  |some d=>
   rw[e2]at X;let P:ÿ b Θ (Ï (ā tb nm) (ò Ē) È):=X;by_cases j:ā tb nm
   .rw[Os j]at P
    rw[i,CI]at e2;let(u,l,L):=Dr k hr e2;let(hc,N):=g C nm c j;show(a,C,D,fs,u,rfl,Ϫu A,hc,N,l,ϥO P L)
   rw[P3 j]at P;show P.elim
def dM(tb:Str->Ö Fn)(m:Str)(a:Fe)(al:Fa):Fe:=λb=>ś λx=>match jI x.er,uM m x.er with
 |some nm,none=>match tb nm with
  |some fn=>ã (al b) λs=>fn<|x.er::ϱI
  |none=>È
 |_,_=>È
structure HasM(P:Do)(w:Ev)(K:At)(mg:ĳ)(base:Op)(CX:CXT)(k:Nat)(m:Str)(C f:Ix)(sp:Sp):Prop where
 c:ϫw
 m:Meth K C m f
 f:∃fd ps,Ϲg mg base CX k f fd ps sp/\ϲZ K []
def zr(ok:Ix->Ý Ix Sp)(m:Str)(E:XK)(T:TE)(t:TA):TE:=λb H Q=>T b H λx h=>∃a C d fs f sp,x=Ä a/\h a=Â (ϰE d fs)/\ok C f sp/\fs.lookup m=none/\t b h λv c=>sp (x::v) c Q E
theorem JQ(t:∀C nm fn,Ė M.K nm=Â (Â<|Ä C)->tb nm=Â fn->∃f,ok C f ϶v)(h:ê (dM tb m fa al) σ H Q):
  zr ok m M.E (ê fa) (ϱg al) σ H Q:=by
 let(F,c,b,S,p):=h;apply(F,c,b,S,ħ λx X v y G L e1 r w=>?_);let(G1,d1,K):=ϲA;cases e:jI x.er with
 |none=>rw[e]at X;show X.elim
 |some nm=>
  rw[e]at X;let k:=K;let(a,C,D,fs,J,V,l,u,A,N,hr):=HJ K e;subst V;cases E:uM m x.er with
  |some d=>rw[E]at X;show X.elim
  |none=>
   rw[E]at X;let P:aq M H b Θ (match tb nm with
    |some fn=>ã (al c) λs=>fn<|x.er::ϱI
    |none=>È):=X
   cases e3:tb nm with
   |none=>rw[e3]at P;show P.elim
   |some fn=>
    rw[e3]at P;let g:ÿ b Θ (ã (al c) λs=>fn<|x.er::ϱI):=P;rw[l,CI]at E;let(f,o):=t C nm fn u e3;apply(a,C,D,fs,f,_,rfl,Ϫu A,o,Bd N E,G1,c,b,ϰp,ϳ7 g d1 λs i O B I j E R W=>?_);let(G2,d2,q):=R.W3 E W;show(G2,x.er::ϱI,d2.fh,ð (k.same d2.ff) q,ϤO (i.ext ϲX) λz Z=>Z.pre ϲX)
structure InsK(K:At)(C:Ix):Prop where
 c:ϫw
 ha:Υ (Ä C) "__class__"=ϳb (ğ "object.__class__")
 hn:ϑe (ğ "object.__class__") "__get__"=ϳb (ğ "getset_descriptor.__get__")
 ht:takesIn K (ğ "object.__class__")=ϱ3
 hm:mroIn K C (ć "object")=ϱ3
end
section
variable{M:Mx}{X:Cx}{pos apos p:Pos}
def zc(n:∀C nm,Ė M.K nm=Â (Â<|Ä C)->ϥQ)(h:â e fa)(B:Ñ (ώK X.env ϸR=ϸR)):
  â (ĝ e f pos) (mK tb f fa):=λr m=>ϨN (Jc (pos:=pos) Ń B) Y1 (TJ n z)
def Ap(he:ç o ta)(hr:ϴ8)(n:ϲY E)(g:ϰM ď t)(S:Ñ (Õ ď=ź (Õ es)))(P:Ñ (Ŕ<|ϰU<|Õ es))(j:autoParam (ϲ3 (ô (ĝ o m apos) ď pos)=(do
   let ov <-eval o X.env
   standAt apos.atName
   let (f,first) <-holding [ov] (getMethod ov m pl)
   callWith pos f first (backTo pos<|starEach (e::es) X.env) (backToKw pos<|keywordEach [] X.env))) mqaa._auto_1):
  ç (ô (ĝ o m apos) ď pos) (zr (ύO X.K X.mg m) m E ta t):=by
 ext p s c H Q I h;apply ϒR;let(x,d,i,R,a,C,D,fs,f,sp,ex,A,M,l,q):=zz;subst ex;obtain rfl:u=ϴR:=R;let(fd,ps,F,B):=M.f;apply wA i A M.c M.m l ?_;apply K8I (first:=[Ä a]) (h₀:=X.base) I.ok.mod.kin M.m.kp (Rn (g pos p s1 c d _ i q) λus y⟨vs,w,b,r,v⟩=>⟨b.Zj,?_⟩) S P;show ϗj (Ä a::us) (Ä a::vs) í n b (ð rfl r) (by rw[Xf];show v)
def k8(t:∀C nm fn,Ė M.K nm=Â (Â<|Ä C)->tb nm=Â fn->∃f,ύO M.K M.mg m C f ϶v)(hr:ϴ8)(x:ϲY M.E)(he:â o fa)(A:ϱ4 ď)(S:Ñ (Õ ď=ź (Õ es)))(l:Ñ (Ŕ<|ϰU<|Õ es))(j:autoParam (ϲ3 (ô (ĝ o m apos) ď pos)=(do
   let ov <-eval o X.env
   standAt apos.atName
   let (f,first) <-holding [ov] (getMethod ov m pl)
   callWith pos f first (backTo pos<|starEach (e::es) X.env) (backToKw pos<|keywordEach [] X.env))) mqaa._auto_1):
  â (ô (ĝ o m apos) ď pos) (dM tb m fa al):=λr h=>by
 let q:=ϖ0 (he r h) hr x (A r h) S l j;rw[r,h]at q;show Y1 q (ϳa (JQ t z))
end
def dE{α:Type}{K:At}{Pr:Ý Ix α}:∀C nm v,Ė K nm=Â (Â<|Ä C)->ϵL nm ([]:À ϯg)=ă->Pr C v:=λ_ _ _ _ e=>by cases e
def cK{α:Type}{K:At}{x:Str}{c:Ix}{v:α}{l:À ϯg}{Pr:Ý Ix α}(a:Ė K x=Â (Â<|Ä c))(h:Pr c v)
  (r:∀C nm V,Ė K nm=Â (Â<|Ä C)->ϵL nm l=Â V->Pr C V):
  ∀C nm V,Ė K nm=Â (Â<|Ä C)->ϵL nm ((x,v)::l)=Â V->Pr C V:=λC nm V u e=>by
 by_cases H:nm=x
 .subst H
  let B:þ (nm==nm):=beq_iff_eq.mpr rfl;simp only[List.lookup,B]at e;cases e;rw[a]at u;cases u;show h
 .let B:à (nm==x):=beq_eq_false_iff_ne.mpr H
  simp only[List.lookup,B]at e;show r C nm V u e
def bu{K:At}{x:Str}{c:Ix}{Pr:į Ix}(a:Ė K x=Â (Â<|Ä c))(h:Pr c):∀C nm,Ė K nm=Â (Â<|Ä C)->Ç (nm=x)=true->Pr C:=λC nm u e=>by let e:=of_decide_eq_true e;subst e;rw[a]at u;cases u;show h
def iR:No->À No|.ClassDef _ _ _ b _ _ _ _ _ _ _=>b|_=>[]
def zH(tb:Ź Str)(f:Str)(d:Gc):č:=match jI d,uM f d with
 |some nm,some d'=>Ï (ā tb nm) (Ú d') È
 |_,_=>È
def ve:mK tb f a ρ=ϴN (zH tb f x.er):=Ϩd
def nxK(g:Fg)(b:Fs)(d:À Gc):Out->ϱQ|.nx ρ2=>ϲE d ρ2|.ct ρ2=>ϲE d ρ2|.bk ρ2=>ü ρ2|.rt x=>ϴU
def xa:ϲE [] ρ=ü ρ:=rfl
def rq:ϲE (d::ds) ρ=X6 (λa=>X6 (nxK g b ds)<|b a) (g Ē ρ):=by rw[br,wM];congr 1
def BA:nxK g b ds (.nx ρ2)=ϲE ds ρ2:=rfl
def cY(i:Nat)(tb:Ź Str)(f:Str):Fe:=λa=>match ϰ5 with
 |some (some<|.oi p nm ds)=>match ϷA (ϲL<|λq=>(ï [Ô q.1],q.2))with
  |some d=>Ï (ā tb nm) (ò Ē) È
  |none=>È
 |_=>È
def eW(f:Str)(v:Gc):À ϱf->À ϱf|[]=>[(f,v)]|(g,x)::r=>Ï (g=f) ((g,v)::r) ((g,x)::eW f v r)
def qW(i:Nat)(tb:Ź Str)(f:Str)(a:Fe):Fs:=λb=>ś λy=>match ϵq with
 |some (some<|.oi p nm ds)=>Ï (ā tb nm/\ϏJ) (ü (ϲo<|some<|ϳx<|Ϫi ds)) È
 |_=>È
theorem yp:∀{fs:À ϳC}{s:À ϱf},ϲ8 fs.map ģ s.map->Ó (όz v fs) ģ=Ó (eW f d s) ģ
 |[],[],_=>rfl
 |[],_::_,h=>ϱJ
 |_::_,[],h=>ϱJ
 |(g,x)::fs,(g',y)::s,h=>by
  rw[L4,L4]at h;let(H,a):=ϥG;let H:g=g':=H;subst H;delta L2.jV eW;by_cases e:g=f
  .rw[Os e,Os e,L4,L4,a]
  .rw[P3 e,P3 e,L4,L4,yp a]
def JV{K:At}{F:Hp}{f:Str}{v:V}{d:Gc}(r:Ĝ F v d):∀{fs:À ϳC}{s:À ϱf},ϥM fs.map s.map (Ū (Ó (όz v fs) ň) (Ó (eW f d s) ň)):=by
 ext fs
 induction fs with
 |nil=>
  ext s h _;cases s with|nil=>show ð r í|cons=>cases h
 |cons p fs ih=>
  let(g,x):=p;ext s h q;cases s with
  |nil=>cases h
  |cons p s=>
  let(g',y):=p;rw[L4,L4]at h q;let(H,a):=ϥG;let H:g=g':=H;subst H;cases q with
  |cons q1 q2=>
   delta L2.jV eW;by_cases e:g=f
   .rw[Os e,Os e]
    show ð r q2
   rw[P3 e,P3 e];show ð q1<|ih a q2
section
variable{M:Mx}
set_option tactic.hygienic true in
def Qw(c:∀C nm,Ė M.K nm=Â (Â<|Ä C)->ϥQ)(h:ê ϑs σ H Q):RW M.K ϰg f σ H Q:=by
 let(F,k,P,S,p):=h;delta cY at p;split at p
 .rename_i q nm s e
  let(v,g,b,r,_,_):=S.swap e;let O:=r.own;cases O with
  |@oi a C dx fs _ _ _ hh hk hr=>
   split at p
   .rename_i d D
    by_cases j:ā tb nm
    .rw[Os j]at p
     let(u,l,L):=Dr hk hr D;let(hc,N):=c C nm hh.2.1 j;show(Ä a,b,a,C,dx,fs,u,rfl,hh.2.2,hc,N,l,ύ0 L)
    rw[P3 j]at p;show p.elim
   show p.elim
 show p.elim
set_option tactic.hygienic true in
def PZ(u:∀C nm,Ė M.K nm=Â (Â<|Ä C)->ϥQ)(h:Ś (ϑt a)):U3 M.K ϰg (ê a) f D σ H:=by
 let(F,A,P,S,p):=h;apply(F,A,P,S,ħ λy py w B d Y e1 R W=>?_);let(G1,d1,K):=ϸb W;split at py
 .rename_i q nm s e
  by_cases j:ā tb nm/\s.length<1000
  .rw[Os j]at py
   let(v,g,t,r,sub,wr):=(ϰp).swap e;let O:=r.own;cases O with
   |@oi b C dx fs _ _ _ hh hk hr=>
    let(hc,N):=u C nm hh.2.1 j.1;let L:ϏA:=by
     let:=ϱT hk;rw[K1,K1]at this;lia
    let fb:G1 b=none:=r.fr b P0;apply(Ä b,t,b,C,dx,fs,rfl,hh.2.2,hc,N,L,?_);let x:aB G1 (ϗc<|ϰE dx<|όz w fs):=λc o z=>Ù (ay<|aJ z fb) (Ϫu z)
    let(l,k,T,_):=wr G1 (ϗc<|ϰE dx<|όz w fs) (.oi q nm<|Ϫi s) [b] x (ϙN<|JV K hk hr) r.nd (λc m=>by
     rw[Y8]at m;subst m;show fb) ⟨ţ,λc o z m=>by
      rw[ay λz=>m<|Ù z P0]
      show z,λc m=>Ê m,ϳa z⟩
    show py _ _ _ _ k<|d1.Wy.trans T
  rw[P3 j]at py;show py.elim
 show py.elim
end
mutual
def noD:Ź Gc|.tuple ds=>xv ds|.list ds=>xv ds|.dict _=>false|.none=>true|.bool _=>true|.int _=>true|.str _=>true
def xv:Ź (À Gc)|[]=>true|d::ds=>noD d&&xv ds
end
def Sd:Ź OD|.sh d=>noD d|_=>false
def uW(i:Nat)(fa:Fe):Fe:=λa=>match ϰ5 with
 |some (some<|.oi p nm ds)=>(fa<|ϲU<|É<|ϻm ds).bind λy=>Ï (ϸo Sd) χ È
 |_=>È
section
variable{K:At}{F H:Hp}{f:À Ix}
def Ins(F:Hp)(b:Ix):Prop:=∃C d fs,F b=Â (ϰE d fs)
def LP(l:Ϸl (Ins F b))(h:X_ K F a xs):X_ K Ϸ7 a xs:=by
 rcases h with h|h
 .apply Ê ?_
  let go:∀o,F a=Ø->(∀C d fs,o≠ϰE d fs)->Ϸ7 a=Ø:=λo q n=>Ù (fu λm=>by let(C,d,fs,z):=l a m;rw[q]at z;show n C d fs<|Zh z) q
  rcases h with h|⟨o,h⟩
  .exact Ê (go _ h λC d fs z=>Ϸ6 z)
  show Ð ⟨o,go _ h λC d fs z=>Ϸ6 z⟩
 show Ð h
mutual
theorem As(a:Ϸl (Ins F b)):Ĝ F v d->noD d=true->Ĝ Ϸ7 v d:=by
 ext r e;cases r with
 |Re=>show .Re
 |bl b=>show ϱz
 |int i=>show Á i
 |str x=>show Ô x
 |lst h1 h2=>rw[noD]at e;show ä (LP a h1)<|uc a h2 e
 |dct _ _ _=>delta dD at e;rw[noD]at e;cases e
 |ins _ _ _=>delta qK at e;rw[noD]at e;cases e
 |tup h1 h2=>
  rw[noD]at e;apply Ī ?_<|uc a h2 e;rw[fu λm=>by let(C,D,fs,q):=a _ m;rw[h1]at q;cases q];show h1
theorem uc(a:Ϸl (Ins F b)):Ū vs ds->xv ds=true->B1 K Ϸ7 vs ds|.nil,_=>í|.cons h r,e=>by rw[xv,Yt]at e;show ð (As a h e.1)<|uc a r e.2
end
def Oq{v:V}{p:Ö Ix}{nm:Str}{d:À ϱf}{g:À Ix}(h:ϱX (ϳx d) g):∀b∈g,Ins H b:=by
 cases h with|@oi a C dx fs _ _ _ hh hk hr=>ext b m;rw[Y8]at m;subst m;show(C,dx,fs,hh.2.2)
end
set_option tactic.hygienic true in
def PC(h:ê (uW i fa) σ H Q):ê fa σ H Q:=by
 let(F,J,P,S,p):=h;delta uW at p;split at p
 .rename_i q nm s e
  let(v,f,g1,g2,t,j,rfl,u):=ϴ0;let c:ų ϵV:=λa m=>ϵO<|Ļ<|Ŀ m;let o:=u ϴ1 H Ϸm (Ň q) v (ı (OD.oi q nm s).er) [] (.sh<|j.W3 Ϸm (ϴu (Ù (jO m) q)));rw[tN t,tU]at o;let nd:=S.nd;simp only[Ya,P1]at nd;obtain⟨D,⟨L,E,G⟩,N⟩:=nd;let sub:∀a∈ϲ4 [],a∈ϴf/\Ϸo:=λa m=>by
   simp only[K9B,P1]at m⊢;rcases m with m|m
   .exact(Ê m,λz=>N a m a (Ê z) rfl)
   show(Ð<|Ð m,λz=>G a z a m rfl)
  let I:=Oq j;let r:ϰC ϴ1 H σ (J.set i<|É<|ϻm s) (ϲ4 []):=
   ⟨ϯy,o,by
    simp only[K9B,Ya];show(D,E,λa m b A=>N a m b<|Ð A),λa m=>Ù (dt (ϲ9).2) (ϵO (ϲ9).1),Ù K8z S.len⟩
  let T:Ŏ ϴf ϴ1 H (ϲ4 []):=⟨Ϸm,ϦC,ϰt (Ê (ϲ9).1),λa h m z=>by
   rw[dt λw=>m<|Ļ<|Ŀ w]
   show z⟩
  apply(_,_,_,r,Ŵ ((ϱ0).Wy T) λy py v1 g k X e1 R W=>?_)
  split at py
  .rename_i K
   cases y with
   |sh d=>
    let(O,V,U):=R;cases O with
    |sh rr=>
     let l:Ϸl (Ins g b):=λb m=>let⟨C,dx,fs,q⟩:=I b m;⟨C,dx,fs,ϭe<|Ù (jO m) q⟩
     apply py v1 (sN g f) k [] ⟨ϮE,e1.hh,ϮE,λb B x=>?_⟩ (Res.sh<|As l rr K) ϰn
     .let:b∉f:=ϔH
      rw[fu this];show ϭe<|Ϸm _ _ B
     .by_cases m:ϻD
      .rw[sd m]at B
       cases B
      rw[fu m]at B;show e1.fh _ _ B
     by_cases m:ϻD
     .exact sd m
     rw[fu m];show e1.nw b B (by rw[dt m];show x)
   |ol _=>cases K
   |ot _=>cases K
   |od _=>cases K
   |oi _ _ _=>cases K
   |pl _ _=>cases K
  show py.elim
 show p.elim
section
variable{M:Mx}{X:Cx}{pos apos p:Pos}
def Cz(i:Nat)(h:â e fa):â e (uW i fa):=λr m=>Y1 Ń (ϳa (PC z))
def de(h:∀C nm,Ė M.K nm=Â (Â<|Ä C)->ϥQ)(hi:ç (Ü p) ϰg)(B:Ñ (attributeBase (Ü p) f X.env (ϲ3<|Ü p)=ϲ3 (Ü p))):
  â (ĝ (Ü p) f pos) ϑs:=λr m=>ϨN (Jc (pos:=pos) hi B) Y1 (Qw h z)
def nV(n:∀C nm,Ė M.K nm=Â (Â<|Ä C)->ϥQ)(hi:ç (Ü p) ϰg)(h:â e fa)(S:Ñ (ϦH (Â<|ĝ (Ü p) f apos) pos.line X.env=ϳy)):ŋ (ϳc [ĝ (Ü p) f apos] e pos) (ϑt fa):=λr m=>ϨN (OU (pos:=pos) (pos':=apos) hi Ń S) Z8 (PZ n z)
end
abbrev Fb:=Ϩr ϯD
def yo(n:Nat)(s:À OD):Env:=s.map some++ϲy ϏX none
def xX(M:Mx)(n:Nat)(F H:Hp)(P:À Ix)(D:Ends)(r:ϯD):Prop:=
 ∀v c b H' p f,ϰC b H' c r.1 p->Ŏ P b H' (p++f)->ϧG b H' v r.2 f->(ų<|a∉p)->D.rt v H'
def tBd(M:Mx)(n:Nat)(b:Fb):TS:=λD c H=>∃F a f,ϰC F H c a f/\ÿ f (ϫi F H f D) (b a)
def DB(M:Mx)(X:Cx)(c:Bool)(ss:À No)(b:Fb):Prop:=ŕ->Ϲc->∃T,ϵp ss T/\∀D:Ends,(ϰ1->∀a H,D.rt .Re H->ϥk H)->∀a H,tBd M X.N.length b D a H->T D a H
def bNx:Fb:=λa=>ò (a,ı æ)
def B_(a:Fe):Fb:=λb=>ś λx=>ò (b,x)
def bZ(s:Fs)(b:Fb):Fb:=λa=>ã (s a) λo=>match o with
 |.nx ρ'=>b ρ'
 |_=>È
def bIf(t:Ft)(b1 b2:Fb):Fb:=λa=>ã (t a) λc=>Ï ϰ1 (b1 a) (b2 a)
section
variable{st:No}{pos:Pos}
def xX.Wy(s:Ŏ fp F1 H1 fp1)(h:ϫi F H fp D r):ϫi F1 H1 fp1 D r:=λv e f H' p y a b c d=>h v e f H' p y a (s.trans b) c d
def PostBs.Wy(s:Ŏ fp F1 H1 fp1)(h:ÿ fp (ϫi F H fp D) r):ϑk (ϫi F1 H1 fp1 D) r:=Ŵ (h.Wy s) λo g=>g.Wy s
def pQ:DB M X true [] bNx:=λr b=>⟨_,vM,λD d a H h=>by
 let(F,c,f,S,p):=h;apply d rfl a H (p .Re a F H f [] S ?_ Ϗ0 ϰn)
 rw[Xf];show X9.refl⟩
def IP(h:â e fa):Ϫ8 [Ϧ4 Ϲl] (B_ fa):=λr g=>⟨_,vA<|rC<|h r g,λD l k H h=>by
 let(F,j,P,S,p):=h;apply(F,j,P,S,ħ λx i v c b d e1 R w=>?_);apply i v k c b P d ϲ5 (e1.stpN w) R λa m z=>?_
 let(o,q):=ϑ3 z;rw[ϻt]at q;cases q⟩
def aL(i:ŋ st s)(j:Ϫ8 ss b):Ϫ8 (st::ss) (bZ s b):=λr m=>by
 let(T,t,k):=j r m;apply(_,pY (i r m) t,λD l n H h=>?_);let(F,a,g,S,p):=h;apply(F,a,g,S,ħ Ϧ0);cases o with|nx ρ1=>show λc d H' P e st=>k D l c H' ⟨d,ρ1,P,e,PostBs.Wy st po⟩|bk a=>show po.elim|ct a=>show po.elim|rt x=>show po.elim
def Oe(hc:ϲH c t)(j:DB M X false ss1 b1)(k:Ϫ8 ss2 b2):Ϫ8 (.If c ss1 [] pos::ss2) (bIf t b1 b2):=λr m=>by
 let(o,T,K):=j r m;let(q,b,n):=ϥg;apply(_,pY (CK (hc r m) T vM) b,λD l i H h=>?_);let(F,d,a,S,p):=h;apply(F,d,a,S,ħ λc P e g e1=>?_);cases c with
 |true=>rw[Č]at P⊢;show K _ ϶t i g ⟨e,d,a,ϲ5,PostBs.Wy e1.Wy P⟩
 |false=>rw[ϰ6]at P⊢;show n D l i g ⟨e,d,a,ϲ5,PostBs.Wy e1.Wy P⟩
end
def Yn(K:At)(np n:Nat)(b:Fb):Sp:=λV H Q _=>∃F s f,ϱy/\Ϫ5 V s f/\s.length=np/\∃r,b (yo n s)=.ok r/\
 ∀v d c H' p y,ϸk c H' d r.1 p->Ŏ f c H' (p++y)->Res K c H' v r.2 y->(∀a∈y,a∉p)->ϻl
def Bx{K:At}{F H:Hp}(m:Nat):∀{d:À V}{s:À OD}{f:À Ix},ŧ d s f->ϰB (d.map some++ϥ8) (s.map some++ϥ8) f:=by
 ext d
 induction d with
 |nil=>
  ext _ _ r;cases r;rw[Z_,Z_,K9B,K9B]
  induction m with|zero=>show í|succ m ih=>show ϻo
 |cons a d ih=>
  ext _ _ r;cases r with|cons h r=>show .yes h<|ih r
def fnP{P:Do}{w:Ev}{K:At}{m:ĳ}{base:Op}{x qual:Str}{t:No}{f:Ix}{fd:Fk}{N ps:À Str}{k np n:Nat}{b:Fb}(p:Ϸ4 np)(o:ϑ5)(F:ϳ1 x qual t f fd)(S:Ϥ3 (ag t))
  (h:∀(c:Db)(A:Go)(outer:À PySem.Env)(s:Da)(H:Hp)(E:XK),Ϩw (ag t)->DB ϮA (ϓs (ag t)) true (cU t) b):
  Ϲg m base W9 (k+1) f fd ps (ϳO np n b):=by
 subst p o;let L:Ϭ1:=ϨZ (ϱT S.pre) Zg
 let l:∀d H Q E,ϳO ps.length N.length b d H Q E->ϲB d.length:=by ext d H Q E ⟨F,X,g,M,R,a,_⟩;rw[R.own.len,a]
 apply F.ok S l λc A outer s H d Q E hr e=>?_;let V:=l _ _ _ _ e;let(j,X,g,M,R,a,r,B,q):=e;let(T,i,k0):=ύx;apply(T,i,k0 _ (λ_ u H z=>z) _ H ⟨j,yo N.length X,g,⟨M,?_,R.nd,R.fr,?_⟩,?_⟩)
 .unfold L2.start yo
  rw[V,a];show Bx _ R.own
 .unfold yo
  rw[Ww,K1,K8r,a];change ps.length+(N.length-ps.length)=N.length;lia
 change aq _ _ _ _ (b<|yo N.length X);rw[B];show q
def xq(a:Ix):OD->OD|.oi _ nm ds=>.oi ϸg nm ds|.ol xs=>ϵl xs|x=>x
def free:Ź OD|.oi none _ _=>true|.ol _=>true|_=>false
def NU:OD->Ö OD|.oi _ nm ds=>Â<|ϴe ds|.ol xs=>Â ϲD|.pl _ xs=>Â ϲD|_=>none
def u7:ϴs OD OD|.oi p _ _,.oi _ nm ds=>ϳx ds|.pl a _,.ol xs=>ϵl xs|_,x=>x
def IA(H:free x=true)(Y:ϩ5)(h:ϹG x=ϹG y):x=y:=by
 cases x with
 |oi p nm ds=>
  cases p with
  |some _=>cases H
  |none=>
   cases y with
   |oi q nm' ds'=>
    cases q with
    |some _=>cases Y
    |none=>cases h;rfl
   |ol _=>cases h
   |_=>cases Y
 |ol xs=>
  cases y with
  |oi q nm' ds'=>cases h
  |ol _=>cases h;rfl
  |_=>cases Y
 |_=>cases H
section
variable{K:At}{F H:Hp}
def Dq(h:ϱX x f)(e:NU x=Â x0):∃a,v=Ä a/\free x0=true/\ϱX (ϹG x0) f/\∀y c H' g,ϩ5->ϲJ c H' v (ϹG y) g->(∃nm D n ds',x0=ϴe D/\y=.oi none n ds')\/(∃s Y,x0=ϳf/\y=.ol Y)->ϲJ c H' v (u7 x y) g:=by
 cases h with
 |sh _=>cases e
 |ot _ _=>cases e
 |od _ _ _=>cases e
 |@oi a C dx fs p nm D hh hk hr=>
  cases e;apply(a,rfl,rfl,.oi ⟨ϘG,hh.2⟩ hk hr,ώh);rcases z with⟨n,ds',m,d,_,rfl⟩|⟨s,Y,z,_⟩
  .cases o with|oi hh' hk' hr'=>show .oi ⟨hh.1,hh'.2⟩ hk' hr'
  cases z
 |@ol a vs s g ha hv=>
  cases e;apply(a,rfl,rfl,.pl ha hv,ώh);rcases z with⟨n,ds',m,d,z,_⟩|⟨s,Y,_,rfl⟩
  .cases z
  cases o with|pl h1 h2=>show .ol h1 h2
 |@pl a vs s g ha hv=>
  cases e;apply(a,rfl,rfl,.pl ha hv,ώh);rcases z with⟨n,ds',m,d,z,_⟩|⟨s,Y,_,rfl⟩
  .cases z
  cases o with|pl h1 h2=>show .pl h1 h2
def DX(Y:ϩ5)(h:ϱX (ϹG y) f):v=Ä a:=by
 cases y with
 |oi p nm ds=>
  cases h with|oi hh _ _=>rw[hh.1 a rfl]
 |ol xs=>
  cases h with|pl _ _=>rfl
 |_=>cases Y
end
def Ky:OD->Ź OD|.oi none _ _,.oi none _ _=>true|.ol _,.ol _=>true|_,_=>false
def wb(h:ϫD Ky):(∃nm d n ds',x=ϴe d/\y=.oi none n ds')\/(∃s Y,x=ϳf/\y=.ol Y):=by
 delta Ky at h;split at h
 .exact Ê ⟨_,_,_,_,rfl,rfl⟩
 .exact Ð (ϮN _)
 cases h
def ka(h:ϫD Ky):ϩ5:=by rcases wb h with⟨_,_,_,_,_,rfl⟩|⟨_,_,_,rfl⟩<;>rfl
def aW(n:Nat)(b:Fb)(x0:OD)(y:À Gc)(r:OD×OD):Prop:=Ky x0 r.1=true/\∀a,∃c,b (yo n<|ϹG x0::y.map OD.sh)=ò (c,r.2)/\c[0]?=Â (Â<|ϹG r.1)
open Classical in
def ke(n:Nat)(b:Fb)(x0:OD)(y:À Gc):R (OD×OD):=if h:∃r,Ϲz x0 y r then ò h.choose else È
set_option tactic.hygienic true in
def wo(h:ϤW x0 ys=.ok r):Ϲz x0 ys r:=by
 delta ke at h;split at h
 .rename_i x
  cases h;show x.choose_spec
 cases h
def A4:ϤW x0 ys≠ϵo:=by
 delta ke;split
 .intro z;cases z
 ext z;cases z
def tF(h:Ϲz x0 ys r):ϤW x0 ys=.ok r:=by let x:∃r,Ϲz x0 ys r:=⟨r,h⟩;delta ke;rw[dif_pos x];let s:=x.choose_spec;let(a,e1,q):=s.2 0;let(c,E,j):=h.2 0;rw[e1]at E;let y:=R.ok.inj E;let e:a=c:=(Prod.mk.inj y).1;let p:x.choose.2=r.2:=(Prod.mk.inj y).2;rw[e,j]at q;let d:=ϚD<|Zh<|Zh q;show Xn R.ok<|Prod.ext d.symm p
def pA(n i:Nat)(b:Fb)(al:Fa)(a:Env):R ϯD:=match ϰ5 with
 |some (some x)=>match NU x with
  |some x0=>ã (al a) λy=>ã (ϤW x0 ϴQ) λr=>.ok (ϲU<|Â ϯh,r.2)
  |none=>È
 |_=>È
def pJ(n i:Nat)(b:Fb)(al:Fa):Fs:=λa=>ã (ϦM a) λr=>ü r.1
def eF(nm m:Str)(n i:Nat)(b:Fb)(al:Fa):Fs:=λa=>match ϰ5 with
 |some (some<|.oi _ nm' ds)=>Ï (nm'=nm/\ϥi (ϲL<|λq=>(ï [Ô q.1],q.2))) (ϑu a) È
 |_=>È
section
variable{M:Mx}
set_option tactic.hygienic true in
theorem rV(S:ϴI M.K)(p:ÿ fp P (pA n' i b al ρ))(hP:∀r,P r->∀v g H' d Y,ϰC g H' σ r.1 d->Ŏ fp g H' (d++Y)->ϧG g H' v r.2 Y->(∀a∈Y,a∉d)->ϻl)(hl:∀y,al ρ=χ->Ϧw):
  ∃a,ϲG=Â (Â<|Ä a)/\ϱg al σ H (λvs H2=>ϱY np (Ä a::vs) H2 Q M.E):=by
 delta pA at p;split at p
 .rename_i x e
  split at p
  .rename_i x0 hu
   let(v,f,X,r0,sub,wr):=S.swap e;let(a,rfl,E,hpin,hre):=Dq r0.own hu;apply(a,X,F,ρ,fp,S,?_);let hl':=hl;cases ha:al ρ with
   |bad=>rw[ha]at p;show p.elim
   |ex c=>rw[ha]at p;show p
   |ok y=>
    rw[ha]at p;let hy:=hl y ha;ext vs F1 L fx e1 r1 w1;let(G1,d1,k1):=ϩ3;let(v2,O,Z,J,B,W):=(ϰp).swap e;rw[X]at Z;cases Z;let k:ÿ fp P (ã (ke n' b x0 ϴQ) λr=>.ok (ł<|Â ϯh,r.2)):=p;cases hc:ke n' b x0 ϴQ with
    |bad=>rw[hc]at k;show k.elim
    |ex c=>show Ć hc A4
    |ok r=>
     rw[hc]at k;let pr:P (ł<|Â ϯh,r.2):=k;let(h,U):=wo hc;let(ρ',hb,G):=U a;let(a2,q2,_,I,R):=Dq J.own hu;cases q2;apply(G1,ϹG x0::Ó ϴQ OD.sh,O,d1.fh,(?_,J.nd,J.fr),by rw[Xt,K1,K1];show hy,_,hb,?_)
     .let:=F5.cons I<|F5.Zv (H:=L) k1
      rw[Xf]at this;show this
     ext v' σ' g H' d Y N t ry D;let(v3,l,h3,C,u,_):=N.swap G;let V:=DX (ka h) C.own;subst V;let o3:=Ϛe<|wb h;let K:X9 G1 L O g H' l:=t.sub λc m=>Ŀ<|u c m;let(A,S2,T,j):=W g H' ϯh l N.same o3 C.nd C.fr K;let s:=d1.Wy.trans T;apply hP _ pr v' g H' A Y S2 ⟨s.ff,s.keep,ϪE,s.nw⟩ ry λc m z=>?_
     .rcases P1.mp m with m|m
      .exact s.new c m
      rcases t.new c (Ļ m)with w|w
      .exact Ê<|B c w
      show Ð<|d1.hh.free w
     rcases j c z with⟨z1,z2⟩|z
     .rcases t.new c (Ļ m)with w|w
      .exact z2 w
      let(o,q):=(ϰp).own.Xm c z1;rw[w]at q;cases q
     show D c m<|u c z
  show p.elim
 show p.elim
def KR(L:∀e y,al e=χ->Ϧw)(h:Ś (pJ n' i b al)):kO (ϩs (ϱY np)<|dB ϰg<|ϱg al) D σ H:=by
 let(F,e,z,S,p):=h;let(a,t,w):=ϐ4 (λ_ d=>D.nx σ d) ϱ0 (λr pr v j H' f Y o T A _=>pr σ j H' f o<|T.sub λc m=>Ŀ m)<|L e;apply(Ä a,t,?_);let(l,g,u,q,p2):=w;apply(l,g,u,q,p2.mono λB P s k d X e1 R W=>?_);let:=P s k d X e1 R W;change ϱY np ((V.ref a::s)++[]) d (λx d=>D.nx σ d) M.E;rw[Xf];show this
set_option tactic.hygienic true in
def KW(L:∀d y,al d=χ->Ϧw)(T:∀C,Ė M.K nm=Â (Â<|Ä C)->∃f,ok C f<|ϱY np)(h:Ś (eF nm m n' i b al)):kO (zr ok m M.E ϰg<|ϱg al) D σ H:=by
 let(F,d,z,S,p):=h;delta eF at p;split at p
 .rename_i q u x e
  split at p
  .rename_i hc
   let(N,l):=hc;subst N;let(v,f,j,r,_,_):=S.swap e;let O:=r.own;cases O with
   |@oi a C dx fs _ _ _ hh hk hr=>
    let(fa,K):=T C hh.2.1;let(A,g,t):=ϐ4 (λ_ o=>D.nx σ o) ϱ0 (λr pr v k H' P Y s w R _=>pr σ k H' P s<|w.sub λc m=>Ŀ m)<|L d;rw[j]at g;cases g;show(Ä a,j,a,C,dx,fs,fa,_,rfl,hh.2.2,K,Bd hk l,t)
  show p.elim
 show p.elim
end
section
variable{K:At}{F H:Hp}
def ED(Y:ϩ5)(h:ϱX (ϹG y) f):ϱX y f:=by
 cases y with
 |oi p nm ds=>
  cases p with
  |some _=>cases Y
  |none=>
   cases h with|oi hh h1 h2=>show .oi ⟨(λ_ z=>Ϸ6 z),hh.2⟩ h1 h2
 |ol xs=>
  cases h with|pl h1 h2=>show .ol h1 h2
 |_=>cases Y
end
def u_(n i:Nat)(b:Fb)(al:Fa)(w:Nat)(s1 m:Fs):Fs:=λa=>ã (ϦM a) λr=>match r.2,r.1[w]? with
 |.sh (.int k),some (some<|.sh<|.int k')=>Ï (k≠k') (s1 r.1) (m r.1)
 |_,_=>È
def xW(nm:Str)(n:Nat)(b:Fb)(al:Fa):Fe:=λa=>ã (al a) λy=>ã (ϤW (ϴe []) ϴQ) λr=>match r.2 with
 |.sh .none=>ò r.1
 |_=>È
def wJ(fa fb:Fe):Fs:=λa=>ã (fa όh) λx=>match x with
 |.ol xs=>Ï ϻ8 (ã (fb όh) λ_=>ϸ2) È
 |_=>È
def rz(i c:Nat)(k a:Fe):Fs:=λb=>ś λy=>match ϵq with
 |some (some<|.pl l xs)=>(match ϸl with
  |some (.ol ys)=>(match Zv ys with
   |some ds=>ã (k b) λz=>match z.er with
    |.int q=>(match Xx ds.length q with
     |some j=>.ok<|.nx<|ϲo<|some<|ϴp<|ϭU<|Ĩ<|ds.set j y.er
     |none=>È)
    |_=>È
   |none=>È)
  |_=>È)
 |_=>È
theorem B1.set{K:At}{F:Hp}{v:V}{d:Gc}(r:Ĝ F v d):∀{S:À V}{s:À Gc}(j:Nat),Ū S s->Ū (S.set j v) (Ϥt d)|_,_,_,.nil=>í|_,_,0,.cons _ q=>ð r q|_,_,j+1,.cons h q=>ð h<|B1.set r j q
section
variable{M:Mx}{n' n:Nat}{σ:L2.St}{H:Hp}{D:Ends}{Q:VK}
set_option tactic.hygienic true in
theorem Px(T:∀l Y,al l=.ok Y->Y.length+1=np)(h:Ś ύX):
  H0 (xV<|W_ rNe (ϩs (ϱY np)<|dB ϰg<|ϱg al)<|cx w) (ϱ8 s1) (ϱ8 s2) D σ H:=by
 let(F,l,N,S,p):=h;let(a,O,R):=rV (np:=np) (Q:=λv e=>cx w σ e λy G=>rNe v y G λx A=>∃k,x=Ϩn/\Ï (k=true) (ϱ8 s1 D σ A) (ϱ8 s2 D σ A)) S ϱ0 (λr pr v g H' f fy s st ry _=>by
  let t:Ŏ N g H' f:=st.sub λc m=>Ŀ m;let(d,x1):=r;split at pr
  .rename_i k K e1 J
   let e1:x1=ı (Á k):=e1;subst e1;let ro:=ry.own;cases ro with
   |sh rr=>
    cases rr;let(u,_,_,_,W,j,_,_):=s.own.at J;cases j with
    |sh j=>
     cases j;apply(_,W,rfl,_,rfl,?_);let L:(! Ç ϭp)=Ç ϧ1:=by
      by_cases z:k=K
      .subst z;simp
      let:¬ϭp:=ϖj;simp[z,this]
     rw[L];by_cases z:ϧ1
     .rw[Os<|W6 z]
      rw[Χ]at pr;show(g,d,f,s,Xy.Wy t pr)
     rw[P3<|Ù (Ll z) Xd];rw[Ε]at pr;show(g,d,f,s,Xy.Wy t pr)
  show pr.elim)<|T l
 apply(Ä a,O,?_);let(E,o,P,I,p2):=R;apply(E,o,P,I,p2.mono λxs U B C e X e1 Z w1=>?_);let:=U B C e X e1 Z w1;change ϱY np ((V.ref a::B)++[]) e _ M.E;rw[Xf];show this
def Oj(B:Ė M.K nm=Â (Â<|Ä C))(L:∀e y,al e=χ->Ϧw)(h:ê (xW nm n' b al) σ H Q):Od C (ϱY np) [] M.E (ϱg al) σ H Q:=by
 let(F,e,f,S,p):=h;delta xW at p;apply(F,e,f,S,?_);cases ha:al e with
 |bad=>rw[ha]at p;show p.elim
 |ex c=>rw[ha]at p;show p
 |ok y=>
  rw[ha]at p;let Y:=L e y ha;ext vs F1 a fx e1 J W;let(G1,d1,K):=J.W3 e1 W;ext x d X D ne;let P:aq M H f Θ (ã (ke n' b (ϴe []) ϴQ) λr=>match r.2 with
   |.sh .none=>ò r.1
   |_=>È):=p
  cases hc:ke n' b (ϴe []) ϴQ with
  |bad=>rw[hc]at P;show P.elim
  |ex c=>show Ć hc A4
  |ok r=>
   rw[hc]at P;let(x1,y1):=r;let p2:aq M H f Θ (match (generalizing:=false) y1 with
    |.sh .none=>ò x1
    |_=>È):=P
   let(l,U):=wo hc;let(Z,E,g):=U x;let G:G1 x=none:=d1.fh.free X;let keep:∀c o,a c=Ø->όW (ϰE d []) c=Ø:=λc o q=>by
    let v:c≠x:=ϗl X q
    let A:c≠d:=by ext rfl;rw[D]at q;cases q
    rw[ay v,ay A];show q
   split at p2
   .rw[Xf]
    apply(G1,xq x (ϴe [])::Ó ϴQ OD.sh,[x],Ϸv (ϩZ<|d1.fh c o q),(?_,ϤI Û K8w,ϪE),by rw[Xt,K1,K1];show Y,_,E,?_)
    .let O:Own M.K G1 (όW<|ϰE d []) (Ä x) (.oi Đ nm []) [x]:=.oi (fs:=[]) ⟨ϘG,B,aP⟩ rfl í
     let:=F5.cons O<|F5.Zv (H:=όW<|ϰE d []) K;show this
    .rw[Y8]at m
     subst m;show G
    ext v' σ' i H' k fy s t T I;let N:=T.own;cases N with
    |sh rr=>
     cases rr;apply(rfl,?_);let(v3,j,h3,R,u,_):=s.swap g;let V:=DX (ka l) R.own;subst V;apply p2 (Ä x) i H' j (d1.trans ⟨t.ff,Ϸv (t.keep c o (ϩZ q) ?_),s.same,λc q z=>t.nw c ?_ ?_ z⟩) ⟨ED (ka l) R.own,R.nd,R.fr⟩ ϪE
     .intro m
      rw[Y8]at m;subst m;rw[X]at q;cases q
     .cases hq:a c with|none=>show Ć hq q|some o=>rw[ϩZ hq];simp
     .intro m
      rw[Y8]at m;subst m;show q X
     rcases t.new c (Ŀ<|u c m)with w|w
     .rw[Y8]at w
      subst w;show d1.hh.free X
     cases hq:H c with|none=>rfl|some o=>rw[ϩZ<|d1.hh c o hq]at w;cases w
   show p2.elim
def FK(r:ϧG F1 H1 v ϲD fx)(w:∀a∈fx,ϳE):∃a d,v=Ä a/\H1 a=Â (ä d)/\ϳE/\ϭd:=by
 let O:=r.own;cases O with|@ol a d _ f ha hv=>show(a,d,rfl,ha,w a P0,hv.len)
set_option tactic.hygienic true in
def Lj(h:Ś (wJ fa fb)):ϹZ sD (ê fa) (ê fb) qL:=by
 let(F,i,k,S,p):=h;apply(H,erase i,[],S.erase,ϤO ϱ0 λx P v j B X e1 r w=>?_)
 split at P
 .rename_i s
  by_cases L:s.length<I6
  .rw[Os L]at P
   let(a,d,rfl,A,m,l):=FK r w;apply(Ê ⟨rfl,d,Xa.of A⟩,j,erase i,[],S.erase.ext e1,Ŵ ((ϰZ P).nofp.ext e1) λy py u t c Y f R W=>?_);let e:=e1.trans f;apply(a,d,u,rfl,rfl,ϑE A,?_,?_)
   .rw[l]
    let:Ą I6:=á
    lia
   let E:Α F (ϗd<|ä<|d++[u]):=by
    let g:aB H (ϗd<|ä<|d++[u]):=λb o q=>by
     let:b≠a:=by ext rfl;rw[m]at q;cases q
     rw[ay this];show Ϯ4
    show(ţ,g,ϦG g,ϴZ)
   show py σ F _ k ϫh E.Wy
  rw[P3 L]at P;show P.elim
 show P.elim
theorem X7.nest(S:ϴI M.K)(x:Ŋ=Â (Â<|ϴp xs))(hc:ϸl=Â ϵT)(D:Zv ys=some ds):
  ∃d b ws,ϲG=Â (Â<|Ä l)/\H l=Â (ä d)/\ϭd/\d[c]?=Â (Ä b)/\H b=Â (ä ws)/\ϻp F ws ds/\b≠l/\
   ∀w ds',ϻp F w ds'->∃p,ϰC F (Ę b<|ä w) σ (ł<|Ϲ1<|ds'.map OD.sh) p/\Ŏ fp F (Ę b<|ä w) p:=by
 let(v,f,j,r,I,wr):=S.swap x;let nd:=r.nd;let fr:=r.fr;let o:=r.own;cases o with
 |@pl _ d _ g ha hv=>
  let(u,J,b1,e,bn,up):=ϒX;let R:=e.fr;let O:=e.own;cases O with
  |@ol b ws _ f3 hb hw=>
   let(rfl,A):=F5.of_shs hw D;apply(d,b,ws,j,ha,hv.len,b1,hb,A,λz=>bn (Ù z P0),λw ds' a=>?_);let(t,pt):=yS hb List.not_mem_nil (R b P0) ϥ7 (F5.Zv a) K8w (λ_ h=>ϱJ) (λ_ h=>ϱJ);let(y,P,p2,k,m):=up F _ _ _ pt;let(p,s,T,_):=wr F _ _ _ t P p2 k m;show(p,s,T)
set_option tactic.hygienic true in
def Mw(h:Ś (rz i c k a)):ϧ7 (ê a) (QN (ϹT<|tC<|Á Ĵ) (ê k) Ke):=by
 let(F,A,m,S,p):=h;apply(F,A,m,S,ħ λy py v F1 H1 fy e1 U w1=>?_);let(G1,d1,T):=U.W3 e1 w1;split at py
 .rename_i l xs e
  split at py
  .rename_i ys Y
   split at py
   .rename_i s E
    let(X,b,ws,L,C,h3,f,h5,h6,h7,_):=(ϰp).nest e Y E;apply(_,L,l,X,Ĵ,Ä b,rfl,rfl,Xa.of C,bW f,?_);apply(G1,A,m,ϰp,ϳ7 py d1 λz pz u F2 H2 fz I V w2=>?_);let(G2,d2,K):=V.W3 I w2;generalize z.er=dz at pz K;cases dz with
    |int q=>
     cases K;let P:aq M H m (ϴP m D) (match Ϥh q with
      |some j=>.ok<|.nx<|A.set i<|some<|ϴp<|ϭU<|Ĩ<|Ϥt y.er
      |none=>È):=pz
     cases hj:Xx s.length q with
     |none=>rw[hj]at P;show P.elim
     |some j=>
      rw[hj]at P;let d:=ϲX;let(Z,B,w,N,r,O,t,x,g,R,wr):=(S.ext d).nest e Y E;let J:B=b:=by
       let Q:=ϺI C;rw[r]at Q;cases Q;rw[t]at f;injection f with f
       injection f
      subst J;apply(B,w,q,j,rfl,rfl,x,Ù (B1.len g) hj,?_);let(o,G,W):=wr (w.set j v) (Ϥt y.er)<|B1.set (T.same d2.ff) j g;show ϯA o G<|d.Wy.trans W
    |none=>show pz.elim
    |bool _=>show pz.elim
    |str _=>show pz.elim
    |list _=>show pz.elim
    |tuple _=>show pz.elim
    |dict _=>show pz.elim
   show py.elim
  show py.elim
 show py.elim
end
def AL(al:Fa)(k:Nat):Prop:=∀a y,al a=χ->y.length=k
def fQ:AL ai 0:=λ_ _ h=>ϏE
def a_(h:AL r k):AL (ae a r) (k+1):=λb y e=>by
 delta ae at e;cases ha:a b with
 |bad=>rw[ha]at e;cases e
 |ex c=>rw[ha]at e;cases e
 |ok x=>
  rw[ha]at e;cases hr:r b with
  |bad=>rw[aF,hr]at e;cases e
  |ex c=>rw[aF,hr]at e;cases e
  |ok xs=>rw[aF,hr]at e;cases e;rw[Xt,h b xs hr]
section
variable{M:Mx}{X:Cx}{pos apos cpos p pp px:Pos}{nm x w:Str}
def A0(G:ϱG M.K M.mg CX g fd ps (ϱY<|m+1))(hr:ϴ8)(hg:Ħ nm)(c:M.mg nm=Â (Ä g))(H:ϴX M.K (Ä g))
  (B:ϲZ M.K []) (e:ϲY M.E) (v:ç (Ü px) ϰg) (A:ϱ4 es) (r:ŕ) (h:Ϲc)
  (d:à (nm==϶q)) (he:Õ (Ü px::es)=ϰv (Ü px) (Õ es)) (l:Ŕ (ϴH<|Õ es)):
  ç (ô (ú nm pp) (Ü px::es) cpos) (ϩs (ϱY<|m+1)<|dB ϰg<|tA M X.N.length al):=by
 let a:ϱG X.K X.mg CX g fd ps (ϱY<|m+1):=by rw[r,h];show G
 show Ϙd a hr hg Ϙc (by rw[r];show H) ϭh í e (bz v (A r h) he) d he l
def F9(G:ϱG M.K M.mg CX g fd ps (ϱY<|m+1))(hr:ϴ8)(hg:Ħ nm)(c:M.mg nm=Â (Ä g))(H:ϴX M.K (Ä g))
  (B:ϲZ M.K []) (e:ϲY M.E) (v:ç (Ü px) ϰg) (a:ϱ4 es) (A:ϫx)
  (d:Ν (à<|nm==϶q)) (he:Ñ (Õ (Ü px::es)=ϰv (Ü px) (Õ es))) (l:Ñ (Ŕ<|ϴH<|Õ es))
  (S:Ñ (ϵw (ú nm pp) (Ü px::es) cpos)):
  ŋ (ϳT (ô (ú nm pp) (Ü px::es) cpos) pos) (pJ n' i b al):=λr h=>
 Z8 (nt ϓM S) (ϳa (KR (λf y q=>ϱl (A f y q)) z))
def fi{mt:Str}{pl:όe}(t:∀C,Ė M.K nm=Â (Â<|Ä C)->∃f,ϒC<|ϱY (m+1))(hr:ϴ8)(H:ϲY M.E)
  (v:ç (Ü px) ϰg) (a:ϱ4 ď) (A:ϫx)
  (S:Ñ (Õ ď=ź (Õ es))) (l:Ñ (Ŕ<|ϴH<|Õ es))
  (j:autoParam (ϲ3 (ô (ĝ (Ü px) mt apos) ď cpos)=(do
   let ov <-eval (.Name x px) X.env
   standAt apos.atName
   let (f,first) <-holding [ov] (getMethod ov mt pl)
   callWith cpos f first (backTo cpos<|starEach (e::es) X.env) (backToKw cpos<|keywordEach [] X.env))) mqaa._auto_1)
  (s:Ñ (ϵw (ĝ (Ü px) mt apos) ď cpos)):
  ŋ (ϳT (ô (ĝ (Ü px) mt apos) ď cpos) pos) (eF nm mt n' i b al):=λr h=>by
 let q:=ϖ0 v hr H (a r h) S l j;rw[r,h]at q;show Z8 (nt q s) (ϳa (KW (λc y q=>ϱl (A c y q)) t z))
def LA(u:Ė M.K x=Â (Â<|Ä C))(Mk:Mk M.K C f)(F:ϱG M.K M.mg CX f fd ps (ϱY<|m+1))(hr:Ϫ0 X.A)(hg:Ħ x)(c:M.mg x=Â (Ä C))(B:ϲZ M.K [])(g:ϲY M.E)(H:ϱ4 ď)(A:ϫx)(d:ġ "__debug__")(he:Ñ (Õ ď=ź (Õ es)))(l:Ñ (Ŕ<|ϰU<|Õ es)):
  â (ô (Ü p) ď pos) (xW x n' b al):=λr h=>by
 let a:ϱG X.K X.mg CX f fd ps (ϱY<|m+1):=by rw[r,h];show F
 show Y1 (L6 (Ϯn Mk) a hr hg Ϙc ϭh í g (H r h) d he l) (Ň (Oj u (λi y q=>ϱl (A i y q)) q))
def ET{mt:Str}{E:XK}{t:TE}{pl:όe}(he:ç o t)(hr:ϴ8)(b:ϲY E)
  (j:autoParam (ϲ3 (ô (ĝ o mt apos) [] pos)=(do
   let ov <-eval o X.env
   standAt apos.atName
   let (f,first) <-holding [ov] (getMethod ov mt pl)
   callWith pos f first (backTo pos<|starEach [] X.env) (backToKw pos<|keywordEach [] X.env))) mqaa._auto_1):
  ç (ô (ĝ o mt apos) [] pos) (zr (ύO X.K X.mg mt) mt E t qL):=by
 ext p s c H Q I h;apply ϒR;let(x,d,i,R,a,C,D,fs,f,sp,ex,e,M,l,q):=zz;subst ex;obtain rfl:u=ϴR:=R;let(fd,ps,F,B):=M.f;apply wA i e M.c M.m l ?_;show PySem.W.callWith_K0 (first:=[Ä a]) i.Zj M.m.kp<|ϗj [Ä a] [Ä a] í b i (ð rfl í) q
def kM{mt:Str}{tb:Str->Ö Fn}{pl:όe}(t:∀C nm fn,Ė M.K nm=Â (Â<|Ä C)->tb nm=Â fn->∃f,ϒC ϶v)(hr:ϴ8)(l:ϲY M.E)
  (he:â o fa)
  (j:autoParam (ϲ3 (ô (ĝ o mt apos) [] pos)=(do
   let ov <-eval o X.env
   standAt apos.atName
   let (f,first) <-holding [ov] (getMethod ov mt pl)
   callWith pos f first (backTo pos<|starEach [] X.env) (backToKw pos<|keywordEach [] X.env))) mqaa._auto_1):
  â (ô (ĝ o mt apos) [] pos) (dM tb mt fa ai):=λr m=>by
 let q:=ET (CX:=CX) (k:=k) (E:=M.E) (he r m) hr l j;rw[r,m]at q;show Y1 q λu H Q z=>by
  let(F,s,P,S,p):=JQ t z;apply(F,s,P,S,p.mono λx n v c h i e1 R w=>?_);let(a,C,d,fs,f,sp,e1,e,y,b,g):=n v c h i e1 R w;show(a,C,d,fs,f,sp,e1,e,y,b,IG g)
def Jh(h:â o fa)(H:â e fb)
  (b:Ñ (Ϧe "append" X.env ϵG=ϵG))
  (f:Ñ (ϲN cpos [e]))
  (i:Ñ ϥR) (S:Ñ (Õ [e]=ź (Õ []))) (l:Ñ (Ŕ<|ϴH<|Õ []))
  (w:Ñ (ϵw (ĝ o "append" apos) [e] cpos)):ŋ (ϳT (ô (ĝ o "append" apos) [e] cpos) pos) (wJ fa fb):=λr m=>
 όR Ń (Ey H S r m) (Ň<|Lj q) b f i S l w r
def Au{b:On}{c J:Nat}{p2 a P:Pos}(v:ç (Ü p) ϰg)(B:â b fb)(h:â e fa)(H:f_ (ė (Á Ĵ) J P):=λ_ _=>rfl)
  (S:Ñ (ύy (û (û (Ü p) (ė (Á Ĵ) J P) a) b p2)=ϳy)) (w:Ñ (ύv<|û (û (Ü p) (ė (Á Ĵ) J P) a) b p2))
  (A:autoParam (∀v,Ϧr (û (û (Ü p) (ė (Á Ĵ) J P) a) b p2) v=(do
   let ov <-holding [v] (eval (.Subscript (.Name x p) (.Constant (.int (c:Int)) J P) a) X.env)
   let iv <-holding [v,ov] (eval b X.env)
   standAt p2
   holding [v,ov,iv] (setItem ov iv v)
   release [v,ov,iv] [])) mqae._auto_1) (d:Ñ (ϫS<|û (û (Ü p) (ė (Á Ĵ) J P) a) b p2)):
  ŋ (ϳc [û (û (Ü p) (ė (Á Ĵ) J P) a) b p2] e pos) (rz i c fb fa):=ο Z8 (Br Ń (J3 (pS (e9 M.K r) v (nQ (i:=Ĵ) (j:=J) (pos:=P)) H) Ϲq set_list A) S w d) Mw
end
def isB(k:Bool):Ź Db|.bool b=>b==k|_=>false
section
variable{X:Cx}
def EK:MtR X "list.count" (λx S H Q=>∃(a:Ix)(bs:Ϲd)(b:Bool),x=Ä a/\S=[ϱz]/\ϺG ϏI/\ξ (Á (bs.count b:Nat))):=by
 ext p s k H x S v us Q I j r h;let(a,bs,b,rfl,rfl,f,q):=h;cases j;let(u,rfl,L):=Ϥp;cases(ϤQ<|u=ϩM);let(i,R,pl,Z):=I.list f;let hi:=uO R;obtain⟨⟨cls,D,data,l⟩,g,hc,n,d⟩:=pl.isList;simp only at hc d;subst hc d;apply Ϲm PySem.F.slot_list_count ((ϱt g)) PySem.F.entry_list_count PySem.F.args_list_count_2 (SeqAt.list_countAt a i.toArray n D l (ß b) ϥc) ⟨g,λy Y=>?_,⟨Á _,H,Ϸ5,϶D,?_⟩⟩
 .rw[hi]at Y
  let(c,_,rfl):=ϔ4;show ϕZ
 let e:i.toArray.toList.countP ϥc=bs.count b:=by
  rw[ϯp (i.toArray.toList=i),hi,List.countP_map,List.count_eq_countP];show List.countP_congr λc _=>by
   change(þ<|ϥc (ß c))↔(þ<|c==b);show Iff.rfl
 rw[e];show q
def ES:MtR X "list.index" (λx S H Q=>∃(a:Ix)(bs:Ϲd)(b:Bool),x=Ä a/\S=[ϱz]/\ϺG ϏI/\b∈bs/\ξ (Á (ϮK:Nat))):=by
 ext P s z H x S v us Q I t o h;let(a,bs,b,rfl,rfl,k,j,q):=h;cases t;let(u,rfl,r):=Vals.one o;cases(ϴ7<|u=ϩM);let(i,R,pl,Z):=I.list k;let hi:=uO R;obtain⟨⟨cls,e,data,w⟩,g,hc,n,D⟩:=pl.isList;simp only at hc D;subst hc D;let l:i.length=bs.length:=by rw[hi,K1]
 let J:Ϲj ϮK:=List.idxOf_lt_length_iff.mpr j;let N:=pU;let B:Ą bs.length:=by simpa using Z
 let at1:∀m(d:m<i.length)(f:m<bs.length),ϥc (i[m])=(bs[m]==b):=λm d f=>by
  let:i[m]=Value.bool bs[m]:=ϐH
  rw[this];rfl
 apply Ϲm PySem.F.slot_list_index ((ϱt g)) PySem.F.entry_list_index PySem.F.args_list_index_2 (ϓU e w (ß b) ϥc ϮK ϖw Ã ?_ ?_) ⟨g,λy Y=>?_,ϷG (Á _)⟩
 .change ϥc (i[ϮK])=true
  rw[at1 _ Ã J];simpa using Zar J
 .intro m M L
  change ϥc (i[m])=false;let d:m<i.length:=ώ6
  rw[at1 m d Ã];show List.not_of_lt_findIdx (p:=(· ==b)) (xs:=bs) (by simpa[List.idxOf]using L)
 rw[hi]at Y;let(c,_,rfl):=ϔ4;show ϕZ
end
section
variable{X:Cx}{D0:À ĺ}{σ:L2.St}{H':Hp}{C ea:Ix}{n:Str}{b0:No}{Zu:À No}{Zk:Pos}{Q:Ý Flow Da}{E:Ý Db Da}{i j:Nat}{k:Int}
def Uh(P:į L2.St)(k:Int):TS:=λD a H=>P a/\∀H',ϵg->D.rt (Á k) H'
theorem sT(A:ż->ϭq)(F:X.A.frames=Â X.stack)(N:X.N.Nodup)(hi:Ķ X.N=ϰQ)(H:ϕg=Â Ų)(J:i≠j)(B:j<X.N.length)(l:ϗn)
  (G:∀O,O.cls=Ä C->PSs (Ϲu ea O) ϯS (Uh ϺA k)) (D:∀u a h b,aB H' h->ì D0 a h b->RelV (Á k) u->Q (.ret u) b):
  ∀K,(∀(Y:Ý Unit Da)(e:Ý Db Da),(∀O m,O.cls=Ä C->Ϲe (Ϲu ea O) H' m->Y () m)->϶e ϰO (X.A.mark<|Â<|Ä ea) (ϭ5<|Ä ea) Y e K)->
    codeAny ϰO (X.A.mark<|Â<|Ä ea) (όX (Ä ea) ϰQ) (λr S=>match r with
     |.ok f=>Ĕ (do bindName X.env n .none;unbindBehindTheSuite X.env n Zk) (λ_ c=>Q f c) E S
     |.error x=>cameBackBy ϰO X.A X.env E x S) K:=by
 ext K s;let iL:i<σ.length:=by rw[l];show ϫF
 apply codeAny_handlers_suite_as<|s _ _ λO m o t=>?_;apply mh (X:=Ϲu ea O) t N hi (Ê H) (v:=Ä ea) (u:=Ä ea) rfl (λT w=>?_)<|Ð H
 apply K8m (G O o D0 T (ϷP<|Â<|Ä ea) H' ⟨ϳt,λv h=>aB H' h/\v=Á k,ϳt,ϳt⟩ w
  ⟨⟨K9I iL,by rw[K8z,l];show B,J⟩,λh M=>⟨M,rfl⟩⟩) (λfl U q=>?_) λ_ _ z=>z.elim
 cases fl with
 |next=>let(_,_,_,z):=q;show z.elim
 |ret u=>
  let(v,a,h,y,R,M,rfl):=q;let p:=JS A F y;let L:i<a.length:=Ù p.len ϫF
  change Š _ _;apply Fq<|wpAny_bindName<|mh p N hi (Ê H) (v:=.Re) (u:=æ) rfl (λP I=>?_)<|Ð H;delta unbindBehindTheSuite;show wpAny_onRaise<|Ex (v:=.Re) I N hi H (K9I L) λg d=>D u _ h g M d R
 |brk=>let(_,_,_,z):=q;show z.elim
 |cont=>let(_,_,_,z):=q;show z.elim
end
def qC(fn:Fn)(al:Fa)(tbl:À (Str×Int)):Fs:=λa=>ã (al a) λs=>match fn ϱI with
 |.ok _=>ϸ2
 |.ex c=>(match ϩP with
  |some b=>ϤS sh<|Á b
  |none=>È)
 |.bad=>È
section
variable{M:Mx}{X:Cx}{p pos cpos epos Zk np:Pos}{tbl:À (Str×Int)}
theorem D7(F:ϱG M.K M.mg ϻZ f fd ps ϶v)(hr:ϴ8)(hg:Ħ x)(hm:M.mg x=Â (Ä f))(hk:ϴX M.K (Ä f))(hb:ϲZ M.K [])
  (ha:∀xe,DA M ϭD ď al) (hst:X.stack=Ϻl) (hfr:X.env.frame=Â X.env.locals)
  (hD:ώX M.K) (hgD:Ħ dx) (hmD:M.mg dx=Â (Ä D))
  (hT:∀c b,ϩP=ϱN->∃C,M.mg c=Â (Ä C)/\subIn M.K (Ä C) (Ä D)=ϱ3/\
   ∀(i:À ĺ)(y:St)(H':Hp)(A:Ix)(Q:Ý Flow Da)(E:Ý Db Da),(ż->ϭq)->X.A.frames=Â X.stack->y.length=X.N.length->
    (∀u G h B,aB H' h->ì i G h B->RelV (Á b) u->Q (.ret u) B)->
    ∀s5,(∀(Q':Ý Unit Da)(E'':Ý Db Da),(∀oe s6,oe.cls=Ä C->Inv (Ϲu A oe) i y H' s6->Q' () s6)->϶e ϰO (X.A.mark<|Â<|Ä A) (ϭ5<|Ä A) Q' E'' s5)->
    codeAny ϰO (X.A.mark<|Â<|Ä A) (όX (Ä A) nm) (λr d=>match r with
     |.ok f=>(match nm with
      |none=>Q f d
      |some n=>Ĕ (do bindName X.env n .none;unbindBehindTheSuite X.env n Zk) (λ_ j=>Q f j) E d)
     |.error x=>cameBackBy ϰO X.A X.env E x d) s5)
  (hd:ġ "__debug__") (hdD:Ν (à<|dx==϶q))
  (he:Ñ (Õ ď=ź (Õ es))) (hpl:Ñ (Ŕ<|ϴH<|Õ es))
  (hs:Ñ (ϤH (ô (Ü p) ď cpos) none epos.line X.env=ϳy)):
  ŋ (.Try [ϳT (ô (Ü p) ď cpos) epos] [ϏH (Â<|ú dx np) nm ϯS Zk] [] [] pos) (qC fn al tbl):=λL hM i s y H D' I q=>by
 let(F0,ρ,fp,S,pq):=q;apply wpAny_Try_except<|wpAny_execs_cons ?_;let F':ϱG X.K X.mg ϻZ f fd ps ϶v:=by rw[L,hM];show F
 apply wpAny_Expr_any ?_ I.quiet hs;apply K8h<|ϪU (Ù hM hm) ?_ hd;apply K8I (h₀:=X.base) (K:=X.K) I.ok.mod.kin (Ϯm hk) ?_ he hpl;let pa:=ha (λe W=>Ĕ ϖZ (λ_ d=>Ĕ ϗz (λ_ j=>Ĕ (ϓ9 [ϏH (Â<|ú dx np) nm ϯS Zk]) (ϻw i D') X.xe j) X.xe d) X.xe W) L hM
 apply Rn (pa cpos i s y H (λY g=>∃G1 w,Ext F0 H G1 g/\ϻp G1 Y w/\aq M g fp (Ϙb G1 g fp D') (match fn w with
   |.ok _=>ü ρ
   |.ex c=>(match ϩP with
    |some b=>ϤS sh<|Á b
    |none=>È)
   |.bad=>È)) (NQ I) ⟨F0,ρ,fp,S,Ŵ (ϰZ pq) λxs P Y F1 g fx e1 r1 w1=>?_⟩) λus s1 hz=>?_
 .let(G1,d1,k1):=ϩ3
  show(G1,xs.map OD.er,d1,k1,Ŵ (P.ext d1) λo ho=>eO.Wy d1.Wy ho)
 .let(Y,g,I1',r1,G1,w,d1,k1,P):=hz
  let t:ì i y g s1:=vT I1';let S1:=ϰp;apply(t.Zj,?_);let U:϶v Y g (λ_ l=>(∃z,fn w=ò z)/\∃G2,Ext G1 g G2 l) (λcls _ l=>(∃c b,fn w=ϵo/\ϩP=ϱN/\M.mg c=Â cls)/\aB g l):=by
   apply(G1,w,d1.fh,k1,?_);cases hf:fn w with
   |ok z=>exactλv F' H' fx e _ _=>⟨ϧ4 z,F',e⟩
   |bad=>rw[hf]at P;show P.elim
   |ex c=>
    rw[hf]at P;cases hc:tbl.lookup c with|none=>simp only[hc]at P;show P.elim|some b=>let(C,hC,_):=hT c b hc;show(Ä C,hC,λod l hk=>⟨⟨c,b,rfl,hc,hC⟩,λa o z=>hk a o z Û⟩)
  let hl:ϲB (Ì (us++[])):=by rw[Xf,<-r1.length];show Ϗ6 U
  let N:=hb s1 us (L▸t.Zj) hl;rw[Xf]at N;apply wpAny_call<|K8E (F'.run X.A X.stack s1 g (ϰI us) us Y _ _ hr t.uf N r1 U) λr s2 R=>?_;cases r with
  |error ev=>
   let hq':ϻZ X.stack g s1 (λcls _ l=>(∃c b,fn w=ϵo/\ϩP=ϱN/\M.mg c=Â cls)/\aB g l) ev s2:=R;apply MS t hq' hst hfr (Ϯm hD) hgD (Ù hM hmD) hdD λA cls H' _ hE=>?_;obtain⟨⟨c,b,hfn,hc,O⟩,same⟩:=hE;let(C,hC,V,hh):=hT c b hc;rw[hC]at O;cases O;apply(C,rfl,Ϯm V,λs5 T=>hh i y H' A _ _ t.ok.hd t.ok.frames t.len (λu G h B sm J ru=>?_) s5 T);rw[hfn]at P;simp only[hc]at P;let Z:Ext G1 g G1 h:=⟨ţ,ϏR,d1.fh.trans ϏR,ϴZ⟩
   show(Á b,G,h,J,ru,P (Á b) G1 h [] Z.fh (Res.sh<|Á b) ⟨ţ,λa o z _=>ϏR a o z,(ϰt Ϥq),ϳa z⟩)
  |ok fl=>
   cases fl with|ret u=>obtain⟨v,l,J,_,⟨z,hf⟩,G2,Z⟩:=t.after R;rw[hf]at P;show K8U<|K8U ⟨y,l,J,P y G2 l fp (S1.ext Z) Z.Wy⟩|next=>show ϐI|brk=>show ϐI|cont=>show ϐI
end
section
variable{X:Cx}{c1 c2 c3 c4 cv:On}{p1 p2 q1 q2 q3 q4 q5 q6 q7 q8 q9 r1 r2 r3 r4 r5 r6 r7 r8 m1 m2:Pos}
def p8(N:X.N.Nodup)(J:X.N[j]?=Â kn)(C:ϲT kn)(c:Ϻm kn)(o:ç c1 (tB ϺA b1))(r:ç c2 (tB ϺA b2))(t:ç c3 (tB ϺA b3))(u:ç c4 (tB ϺA b4))(w:ç cv (tB ϺA true))
  (hc:(ϭY:Ϲd).count true=1) {k:Int} (K:Ë 1+ϱF (ϳi (ϭY:Ϲd) true)=k)
  (m:ž (∀whole,isTrue cv X.env whole=(do let v <-whole;standAt cv.pos;holding [v] (truthy v))) mqae._auto_1)
  (b:Ν (à<|kn==϶q)) (h:Ν (à<|kn==ϨY))
  (s1:Ñ (Õ [c1,c2,c3,c4]=ϰv c1 (Õ [c2,c3,c4]))) (G:Ñ (Õ [c2,c3,c4]=ϰv c2 (Õ [c3,c4]))) (I:Ñ (Õ [c3,c4]=ϰv c3 (Õ [c4]))) (s4:Ñ (Õ [c4]=ϰv c4 (Õ [])))
  (S:Ñ (ϤH ϕh (Â<|ú kn p1) q1.line X.env=ϳy)) (z:ž (ā X.fn kn\/ύV kn=Â Ų) mqad._auto_1)
  (t1:Ñ (Õ [ė (ß true) k1 q2]=ϰv (ė (ß true) k1 q2) (Õ [])))
  (F:Ñ (ϲN q4 [ė (ß true) k1 q2]))
  (g1:Ñ (þ<|q3.endLine==q4.line)) (g2:Ñ (Ŕ<|ϯk q4<|Õ [])) (A:Ñ (ϵv (ú kn r1) "count"))
  (t2:Ñ (Õ [ė (ß true) k4 r3]=ϰv (ė (ß true) k4 r3) (Õ [])))
  (n:Ñ (ϲN r5 [ė (ß true) k4 r3]))
  (g3:Ñ (þ<|r4.endLine==r5.line)) (g4:Ñ (Ŕ<|ϯk r5<|Õ [])) (g:Ñ (ϵv (ú kn r2) "index"))
  (M:à (ϗA (ė (Á 1) k2 q5)):=by first|exact AW _ (by decide) (by decide)|rfl):
  PSs X [ϳc [ú kn p1] ϕh q1,
   .If (.BoolOp .Or [.UnaryOp .Not cv q6,.Compare (ô (ĝ (ú kn r1) "count" q3) [ė (ß true) k1 q2] q4) [.NotEq] [ė (Á 1) k2 q5] q7] q8) [.Return (Â<|ė (Á 9) k3 r6) q9] [] r7,
   .Return (some<|.BinOp (ė (Á 1) k5 m1) .Add (ô (ĝ (ú kn r2) "index" r4) [ė (ß true) k4 r3] r5) r8) m2] (Uh ϺA k):=by
 subst K;apply Qt (pY (Cs N J C (B5<|bz o (bz r (bz t (bz u fH s4) I) G) s1) S z)
  (pY (CK (Nn (Iz<|Gv w m)<|HE<|za Gp (v_ K8F PySem.F.slot_list_count PySem.F.type_list_count EK (aA J c b h) (ϸA GW t1) A F g1 t1 g2) nQ M).pt (vA<|rC nQ) vM)
   (vA<|rC<|Nj Hq nQ<|v_ K8F PySem.F.slot_list_index PySem.F.type_list_index ES (aA J c b h) (ϸA GW t2) g n g3 t2 g4))) λD e H q=>?_
 let(P,k):=q;let(q1,q2,q3):=P;apply((q1,q2,q3),λL e1=>⟨ϱR q1 q2 q3,λQ E=>⟨ϱR q1 q2 q3,λR y=>⟨ϱR q1 q2 q3,λa l=>⟨by change Ą 4;decide,λp B=>?_⟩⟩⟩⟩);let f:ϺA (ϗe<|Â<|Ä p):=⟨Ù (K9E<|K8g q3) q1,Ù K8z q2,q3⟩
 let s:(ϗe<|Â<|V.ref p)[j]?=Â (Â<|Ä p):=K9I q2;let sq:∀O:Hp,aB (upd a p<|ä [.bl b1,.bl b2,.bl b3,.bl b4]) O->Xa X.K O p (Ó (ϭY:Ϲd) V.bl):=λO d=>Xa.of<|d p _ aP;let mem:true∈(ϭY:Ϲd):=List.count_pos_iff.mp Ã;apply(f,λO d=>⟨true,rfl,?_⟩);apply(_,s,Ê ϘH,p,_,true,rfl,rfl,sq O d,rfl,false,?_,?_)
 .rw[hc]
  rfl
 apply(_,s,Ê ϘH,p,_,true,rfl,rfl,sq O d,mem,1,_,rfl,rfl,?_);apply k O<|è (è (è (e1.trans E) y) l)<|aB.trans ?_ d;show(aB.refl a).upd B
end
def Qm{Pr:Ý Str α}:∀c b,ϐc ([]:À ϯg)=ϱN->Pr c b:=λ_ _ h=>ϱJ
set_option tactic.hygienic true in
def vp{α:Type}{Pr:Ý Str α}{a:Str}{J:α}{l:À ϯg}(h:Pr a J)(r:∀c b,l.lookup c=ϱN->Pr c b):∀c b,ϵs ((a,J)::l) c=ϱN->Pr c b:=λc b q=>by
 rw[K9X]at q;split at q
 .rename_i e
  cases q;rw[beq_iff_eq.mp e];show h
 show r c b q
def spS(K:At)(m:ĳ)(fn:Fn)(np n:Nat)(b:Fb):Sp:=λd H Q E=>ϑn d H Q E\/ϳO np n b d H Q E
def fnS{P:Do}{w:Ev}{K:At}{m:ĳ}{base:Op}{CX:CXT}{k:Nat}{f:Ix}{fd:Fk}{ps:À Str}{fn:Fn}{np n:Nat}{b:Fb}(c:ϻM ϑn)(F:ϻM (ϳO np n b)):
  ϻM (spS K m fn np n b):=⟨λd H Q E h=>Ϛs ύJ,λA outer s H args us d Q E hr a B v h=>ϙl<|όU hr a B v⟩
def lX(n i:Nat)(fn:Fn)(b:Fb)(al:Fa)(w:Nat)(s1 m:Fs):Fs:=λa=>match ϰ5 with
 |some (some x)=>ã (al a) λy=>match fn (x.er::ϴQ)with
  |.ok (.sh<|.int k)=>(match a[w]? with
   |some (some<|.sh<|.int k')=>Ï (k≠k') (s1 a) (m a)
   |_=>È)
  |_=>u_ n i b al w s1 m a
 |_=>È
section
variable{M:Mx}
def Ko(h:ϱg al σ H Q)(k:∀d H,Q d H->Q' d H):ϱg al σ H Q':=by let(F,b,f,S,p):=h;show(F,b,f,S,p.mono λs P d c a x e r w=>ϰh<|P d c a x e r w)
set_option tactic.hygienic true in
theorem LR(t:∀d y,al d=χ->Ϧw)(h:Ś (Ϙe w s1 s2)):
  H0 (xV<|ϒt<|cx w) (ϱ8 s1) (ϱ8 s2) D σ H:=by
 let(F,d,g,S,p):=h;let own:Ś ύX->H0 (xV<|ϒt<|cx w) (ϱ8 s1) (ϱ8 s2) D σ H:=λh=>by let(v,A,q):=Px t h;show(v,A,Ko q λm H z=>Ð z)
 delta lX at p;split at p
 .rename_i x e
  cases ha:al d with
  |bad=>rw[ha]at p;show p.elim
  |ex c=>rw[ha]at p;let(v,_,_,_,j,_,_,_):=ϴ0;show(v,j,F,d,g,S,by rw[ha];show p)
  |ok y=>
   rw[ha]at p;let P:aq M H g (ϴP g D) (match fn (x.er::ϴQ)with
    |.ok (.sh<|.int k)=>(match d[w]? with
     |some (some<|.sh<|.int K)=>Ï ϧ1 (s1 d) (s2 d)
     |_=>È)
    |_=>ύX d):=p
   split at P
   .rename_i k N
    split at P
    .rename_i K W
     let(v,f,g1,g2,j,r,_,_):=ϴ0;apply(v,j,F,d,g,S,?_);rw[ha];ext m T l U e1 G I;let(G1,d1,B):=G.W3 e1 I;change ϘX np n' b ((v::m)++[]) l _ M.E;rw[Xf];apply Ê ⟨l,x.er::ϴQ,ţ,ð ((r.mono d1.ff (ϸW q d1.hh)).W3 d1.fh λa _ o q=>q)<|B.same d1.fh,?_⟩;rw[N];ext Y J H' X e' R Z;let O:=R.own;cases O with
     |sh rr=>
      cases rr;let E:Α F H':=⟨ţ,ϘI,ϦG ϘI,ϴZ⟩
      let s:=ϫh;let(u,_,_,_,C,Q,_,_):=s.own.at W;cases Q with
      |sh Q=>
       cases Q;apply(_,C,rfl,_,rfl,?_);let L:(! Ç ϭp)=Ç ϧ1:=by
        by_cases z:k=K
        .subst z;simp
        let:¬ϭp:=ϖj;simp[z,this]
       rw[L];change Ï (Ç ϧ1=true) (ϱ8 s1 D σ H') (ϱ8 s2 D σ H')
       by_cases z:ϧ1
       .rw[Os<|W6 z]
        rw[Χ]at P;show(F,d,g,s,ϹM E.Wy P)
       rw[P3<|Ù (Ll z) Xd];rw[Ε]at P;show(F,d,g,s,ϹM E.Wy P)
    show P.elim
   show own ⟨F,d,g,S,P⟩
 show p.elim
end
section
variable{M:Mx}{X:Cx}{pos apos cpos pp px pw:Pos}
def Hv(G1:ϱG M.K M.mg CX g fd ps ϶v)(G2:ϱG M.K M.mg CX g fd ps (ϱY<|m+1))(hr:ϴ8)(hg:Ħ nm)(f:M.mg nm=Â (Ä g))(K:ϴX M.K (Ä g))(B:ϲZ M.K [])(n:ϲY M.E)(v:ç (Ü px) ϰg)(e:ϱ4 es)(A:ϫx)(V:ç (ú w pw) (cx j))(a:ϸd sa f1)(c:ϸd sb f2)(d:Ν (à<|nm==϶q))(he:Ñ (Õ (Ü px::es)=ϰv (Ü px) (Õ es)))(l:Ñ (Ŕ<|ϴH<|Õ es))(H:à (ϗA (ú w pw)):=by first|exact AW _ (by decide) (by decide)|rfl):
  ŋ (.If (.Compare (ô (ú nm pp) (Ü px::es) cpos) [.NotEq] [ú w pw] apos) sa sb pos) (Ϙe j f1 f2):=λr h=>by
 let G:ϱG X.K X.mg CX g fd ps (ϘX (m+1) n' b):=by rw[r,h];show fnS G1 G2
 show Z8 (CK (za Gp (Ϙd G hr hg (by rw[h];show f) (Ϯn K) ϭh í n (bz v (e r h) he) d he l) V H) (a r h)<|c r h) (ϳa (LR (λo y q=>ϱl (A o y q)) z))
end
def lZ{K:At}{x:Str}{c:Ix}{Pr:į Ix}(a:Ė K x=Â (Â<|Ä c))(h:Pr c):∀C,Ė K x=Â (Â<|Ä C)->Pr C:=λC e=>by rw[a]at e;cases e;show h
section
variable{ρ:Env}{i n w:Nat}{tb:Ź Str}{f nm:Str}{b:Fb}
def TF(tb:Ź Str)(f:Str):Ö (Ö OD)->č
 |some (some<|.oi p nm ds)=>match ϷA (ϲL<|λq=>(ï [Ô q.1],q.2))with
  |some d=>Ï (ā tb nm) (ò Ē) È
  |none=>È
 |_=>È
def J_:ϑs ρ=TF tb f Ŋ:=rfl
def HR(i:Nat)(tb:Ź Str)(f:Str)(a:Env)(y:OD):Ö (Ö OD)->ϱQ
 |some (some<|.oi p nm ds)=>Ï (ā tb nm/\ϏJ) (ü (ϲU<|some<|ϳx<|Ϫi ds)) È
 |_=>È
def Iv:ϑt a ρ=X6 (λy=>HR i tb f ρ y Ŋ) μ:=Ϩd
def IJ(h:ā tb nm)(a:ϏJ):HR i tb f ρ y (some<|Â<|ϳx ds)=ü (ł<|some<|ϳx<|Ϫi ds):=Os ⟨h,a⟩
def NB(i:Nat)(fa:Fe)(a:Env):Ö (Ö OD)->č
 |some (some<|.oi p nm ds)=>X6 (λy=>Ï (ϸo Sd) χ È)<|fa<|ϲU<|É<|ϻm ds
 |_=>È
def Ow:uW i a ρ=NB i a ρ Ŋ:=by
 delta uW NB;generalize Ŋ=o;rcases OF (β:=Nat) o with rfl|rfl|⟨d,rfl⟩|⟨s,rfl⟩|⟨s,rfl⟩|⟨s,rfl⟩|⟨p,nm,s,rfl⟩|⟨c,s,rfl⟩<;>first|rfl|show Ϩd
def rH:B_ a ρ=ϴN (ò (ρ,x)):=Ϩd
def Nq(b:Fb):Out->R ϯD|.nx ρ'=>b ρ'|_=>È
def dH:bZ s b ρ=X6 (Nq b) ϧY:=by
 delta bZ;cases s ρ with
 |ok o=>cases o<;>rfl
 |ex c=>rfl
 |bad=>rfl
def eY:Nq b (.nx ρ')=b ρ':=rfl
def tP:bNx ρ=ò (ρ,ı æ):=rfl
def Ah:bIf t b1 b2 ρ=X6 (λc=>Ï ϰ1 (b1 ρ) (b2 ρ)) (t ρ):=Ϩd
end
def xi:À ϪQ->Ö (À Gc)|[]=>Â []|(.int i,_)::r=>Ó (xi r) (Á i:: ·)|(.str x,_)::r=>Ó (xi r) (Ô x:: ·)|_::_=>none
def Ez:À Gc->č
 |[.dict L0]=>(match xi L0 with
  |some ks=>ĥ ks.map OD.sh
  |none=>È)
 |_=>È
def Uu:À V->Ý Hp VK:=ϸq (∃a k,s=[Ä a]/\H a=Â ϧU/\∀l,ϤT->Q (Ä l) (Ę l<|ä<|k.map ϮG))
theorem rY:∀k:À ς,xi (k.map ϲk)=some (k.map λp=>όJ)
 |[]=>rfl
 |(.inl i,d)::r=>by
  rw[L4,L4];change(xi<|r.map ϲk).map _=_;rw[rY r];rfl
 |(.inr x,d)::r=>by
  rw[L4,L4];change(xi<|r.map ϲk).map _=_;rw[rY r];rfl
def MW(k:À ς):Ez [dD k]=.ok (Ĩ<|k.map λp=>όJ):=by
 change(match xi (k.map ϲk)with
  |some ks=>ϧo<|ks.map OD.sh
  |none=>È)=_
 rw[rY]
theorem D3:∀{k:Key}{v:Db}(h:wt k v=true),RelV (kV k) v
 |.inl i,v,h=>ϓu (t,e)
 |.inr x,v,h=>ϓo (t,e)
section
variable{X:Cx}
def LV(l:ϧr vs.length)(h:∀(i:Nat) v u,Ķ vs=ă->Ķ us=ě->ϱu):ϳM vs:=by
 induction vs generalizing us with
 |nil=>
  cases us with|nil=>show í|cons u us=>simp at l
 |cons v vs ih=>
  cases us with|nil=>simp at l|cons u us=>show ð (h 0 v u rfl rfl) (ih Ϻc λi V U a b=>h (i+1) V U ϩd ϭj)
def He(hc:ż):ϳ0 (ć "list") Uu:=by
 ext n s w H t us Q I r h;let(a,L0,rfl,g,q):=h;let(u,rfl,L):=Ϥp;cases L;let(Z,o,d,R,j):=(ω (Ą L0.length/\à ϸQ/\∃d,KV L0 d/\s.heap.DictOf ϩt a d)<|όb g)
 let(ep,D):=j.dictAt;let b:=KV.keys R;let l:d.length=L0.length:=ώl (ϱT b) K1 this.symm
 apply PySem.W.kdl_call (PySem.W.kdl_dict (knd:=ϩt) (kvs:=d) (ep:=ep) o) ϱV D Ã λf tk A G m e c=>?_;apply(Ä s.heap.objs.size,_,I.laid (t':=tk) m õ (show Ϻq _ f _ (ä<|L0.map ϮG)from⟨ϐV K1,A.toList,G,?_,e⟩),rfl,q _<|ϵR õ);apply LV (by rw[K8t,c.1,K1,l]) λi v u V U=>?_;rw[T2]at V;let(p,P,rfl):=϶d V;let(k,x,K,S):=c.2 i u Ϭ8;let e1:Ķ (L0.map ģ)=Ķ (d.map ģ):=by rw[b]
 rw[T2,T2,P,K]at e1;let E:ϹI:=Zh e1;rw[E];show D3 S
set_option tactic.hygienic true in
def Qj:ϻC Uu Ez:=by
 ext x D F H f Q s R p;delta Ez at p;split at p
 .rename_i k
  cases R with
  |cons h1 h2=>
   cases h2;generalize h:PyData.dict k=d at h1;cases h1 with
   |@dct a kv ds ha hk hr=>
    delta dD at h;cases h;rw[rY]at p;apply(a,kv,rfl,s _ _ ha,λl L=>?_);let e:ϲ8 kv.map ϮG ds.map:=ώl (Ϭ6 kV hk) W5 this
    rw[e];apply Ϸ3 ?_ L;clear p ha hk hr e
    induction ds with
    |nil=>show í
    |cons q r ih=>
     apply ð ?_ ih;change ϧg (kV q.1) (kD q.1);cases q.1 with|inl i=>show Á i|inr x=>show Ô x
   |@ins a C D fs nm ds ha hk hr=>delta qK at h;cases h;show p.elim
   |Re=>cases h
   |bl _=>cases h
   |int _=>cases h
   |str _=>cases h
   |lst _ _=>cases h
   |tup _ _=>cases h
 show p.elim
end
open Classical in
section
variable{p pos cpos epos Zk np:Pos}
end
section
variable{K:At}{F H:Hp}
theorem Rk(r:Ϲa (Ä b) ϵT f)(l:ys[k]?=γ):
  ∃ws u J,H b=Â (ä ws)/\Ϙf/\ws[k]?=ě/\Ϲa u y J/\b∉J/\∀c H' Y a,ϧh u J c H' Y a->∃d,ϧh (Ä b) f c H' (.ol<|ys.set k Y) d:=by
 let nd:=r.nd;let fr:=r.fr;let O:=r.own;cases O with
 |@ol _ ws _ g hb hw=>
  let(u,J,h,e,i,j):=yX (kd:=HO.lst) (mk:=OD.ol) hb hw nd fr l λ_ _ _ _ _ q r=>.ol q r;show(ws,u,J,hb,hw.len,h,e,i,j)
variable{n:Nat}{σ:L2.St}{ρ:L3.Env}{fp:À Ix}
theorem X7.inP(S:ϴI K)(x:Ŋ=Â (Â<|ϴp xs))(hc:ϸl=γ):
  ∃d u f,ϲG=Â (Â<|Ä l)/\H l=Â (ä d)/\ϭd/\d[c]?=ě/\Ϲa u y f/\l∉f/\
   ∀b H' Y a,aB b H'->ϧh u f b H' Y a->∃p,ϸk b H' σ (ł<|some<|ϴp<|ϭU Y) p/\Ŏ fp b H' p:=by
 let(v,z,h,r,sub,wr):=S.swap x;let nd:=r.nd;let fr:=r.fr;let O:=r.own;cases O with
 |@pl _ d _ g ha hv=>
  let(u,J,Q,k,m,w):=ϒX;apply(d,u,J,h,ha,hv.len,Q,k,m,λb H' Y a M pt=>?_);let(j,o,N,e,T):=w b H' Y a pt;let(p,s,t,_):=wr b H' _ j M o N e T;show(p,s,t)
end
def S7:V->À V->Ý Hp VK:=ϧB (∃(l:Ix)(s:À V)(k:Nat)(y:V),x=Ä l/\d=[Á Þ,y]/\H l=Â (ä s)/\k<=s.length/\s.length<1000000/\Ϩt (Ę l<|ä<|s.take k++y::s.drop k))
def Eo:MtM X "list.insert" S7:=by
 ext p s g H x m v us Q I d V h;let(l,f,k,y,rfl,rfl,a,K,Z,q):=h;cases d;obtain⟨U,u,rfl,⟨t,rfl⟩,R⟩:=Vals.two V;let(z,i,n,r,b,e):=Ϫ3;let hsz:Ą i.length:=by rw[<-b];show z
 let L:i.length=f.length:=r.length.symm;let big:Ą 1000001:=ϸ0 K7x
 let main:∀x:Int,x=Þ->Ĕ (call (ğ "list.insert") [Ä l,Á x t,u]) (ϳX p g Q) X.xe s:=λx j=>by
  let fits:ϸp Builtin.List.listFitsIndex:=by delta Builtin.List.listFitsIndex;rw[Yt,Yz,Yz];show(Ã,Ã)
  let c:¬(!Builtin.List.listFitsIndex x)=true:=by rw[fits];decide
  let S:Ą i.toArray.size:=Ù Ys hsz
  let M:=PySem.AutoSeq1.list_insert_list_int_val_1 l i.toArray n x t u c S;apply K81 F.slot_list_insert ϸS F.entry_list_insert (F.args_list_insert_3 _ _ _) M Ϫp;apply(.Re,_,ϩm (i.take k++u::i.drop k) ?_ ?_,rfl,q)
  .let e1:¬(x<0):=Ã
   let E:x.toNat=k:=Ã
   simp only[e1,if_false,E];apply Array.ext';simp[L,K8q K];show K90 (î K8y)
  .exact(r.take k).append<|ð R<|r.drop k
  rw[Ww,Xt,Zg,K8y];lia
 show main _ rfl
def AI(K:At):V->À V->Ý Hp VK:=ϧB (∃(l b:Ix)(s zs:À V),x=Ä l/\d=[Ä b]/\H l=Â (ä s)/\ϸj b zs/\Ą ϻT/\Ϩt (Ę l<|ä Ϸa))
def Dg:MtM X "list.extend" (AI X.K):=by
 ext p s j H x S v us Q I c V h;let(l,b,f,zs,rfl,rfl,a,B,Z,q):=h;cases c;let(u,rfl,U):=V.one;cases U;let(z,t,n,r,d,e):=Ϫ3;let(g,i,N,R,L,E):=B.obj I;let hsz:Ą ϫ9:=ϰP Ys Ys
 let o:¬þ (!t.toArray.isEmpty&&ϗk ϫ9):=ϳH (wC hsz) Zbp Xd
 apply Ϲm F.slot_list_extend ϸS F.entry_list_extend F.args_list_extend_2 (ϒQ (î Ys) Ã) ⟨e,E,?_⟩
 apply(.Re,_,ϩm (t++i) Û ϏW,rfl,q);rw[Ww];lia
def rZ(i c:Nat)(a:Fe):Fs:=λb=>match ϵq with
 |some (some<|.pl l xs)=>(match ϸl with
  |some (.ol ys)=>ś λy=>(match y.er with
   |.list ds=>if ϩL ys.length then ü (ϲo<|Ϲ1<|ys++϶C)else È
   |_=>È)
  |_=>È)
 |_=>È
section
variable{M:Mx}
theorem X7.listP(S:ϴI M.K)(x:Ŋ=Â (Â<|ϴp xs))(hc:ϸl=Â ϵT):
  ∃v b ws g,ϲG=Â (Â<|Ä l)/\H l=Â (ä v)/\v[c]?=Â (Ä b)/\H b=Â (ä ws)/\Ϸg F H ws ys g/\ϰs (b::g)/\(∀a∈b::g,ϵV)/\
   ∀d H' y e,aB d H'->Put M.K F H (Ä b) (b::g) d H' y e->∃p,ϰC d H' σ (ł<|some<|ϴp<|ϭU y) p/\Ŏ fp d H' p:=by
 let(v,u,f,h,j,m,k,r,o,wr):=S.inP x hc;let nd:=r.nd;let fr:=r.fr;let O:=r.own;cases O with|@ol b ws _ g hb hw=>show(v,b,ws,g,h,j,k,hb,hw,nd,fr,wr)
set_option tactic.hygienic true in
def RM(h:Ś (rZ i c a)):ϹZ (AI M.K) (ϹT<|tC<|Á Ĵ) (ê a) qL:=by
 let(F,E,k,S,p):=h;delta rZ at p;split at p
 .rename_i l xs e
  split at p
  .rename_i Y C
   let(vs,b,ws,g,Q,A,d,U,hw,nd,fr,_):=S.listP e C;apply(_,Q,l,vs,Ĵ,Ä b,rfl,rfl,Xa.of A,bW d,Ê ⟨rfl,ws,Xa.of U⟩,F,E,k,S,ħ λy py v F2 j fy I V w2=>?_);let(G2,d2,K):=V.W3 I w2;generalize y.er=dy at py K;cases K with
   |@lst a' zs ds q1 q2=>
    let P:ÿ k (ϴP k D) (if ϩL Y.length then ü (E.set i<|Ϲ1<|Y++϶C)else È):=py
    split at P
    .rename_i L
     let(vs',B,s,g',R,r,t,u,W,N,f,wr):=(S.ext d2).listP e C;let J:B=b:=by
      let T:=ϺI A;rw[r]at T;cases T;rw[t]at d;injection d with d
      injection d
     subst J;let O:G2 B=none:=f B P0;let bn:B∉g':=(Yj.mp N).1;apply(B,a',s,zs,rfl,rfl,u,q1.same d2.fh,ϳH W.len (B1.len q2) (lS L),?_);let X:aB G2 (ώG<|ä Ϸa):=λx o z=>Ù (ay λw=>by subst w;rw[O]at z;cases z) ϑq
     let o:Ϸg G2 (ώG<|ä Ϸa) Ϸa (Y++϶C) (g'++[]):=(W.mono ţ λx m o z=>by
      rw[ϔ5]
      show z).app<|F5.Zv q2
     rw[Xf]at o;let(q,G,Z):=wr G2 (ώG<|ä Ϸa) (.ol<|Y++϶C) (B::g') X ⟨ϧp o,N,f,⟨ţ,λx o z m=>by
      rw[ay λw=>m ώF]
      show z,λx m=>Ê m,ϳa z⟩⟩
     show ϯA q G<|d2.Wy.trans Z
    show P.elim
   |Re=>show py.elim
   |bl _=>show py.elim
   |int _=>show py.elim
   |str _=>show py.elim
   |dct _ _ _=>show py.elim
   |ins _ _=>show py.elim
   |tup _ _=>show py.elim
  show p.elim
 show p.elim
end
def plR(o:Ö (Ö OD)):R (Ix×À OD):=match o with
 |some (some<|.pl l xs)=>ò (l,xs)
 |_=>È
def olR(o:Ö OD):R (À OD):=match o with
 |some (.ol xs)=>.ok xs
 |_=>È
def xf(d:Gc):R Int:=match d with
 |.int q=>ò q
 |_=>È
def ofO{α:Type}(o:Ö α):R α:=match o with
 |some a=>.ok a
 |none=>È
def AS(i c:Nat)(k:Fe)(f:À OD->L3.Env->R (À OD)):Fs:=λa=>(plR ϰ5).bind λw=>(olR w.2[c]?).bind λy=>ã (k a) λz=>ã (xf z.er) λq=>ã (ofO<|Xx y.length q) λj=>(olR y[j]?).bind λzs=>ã (f zs a) λs=>.ok<|.nx<|ϲU<|some<|.pl w.1<|ϋ w.2 c<|.ol<|y.set j ϳf
def SR(p a:Fe)(zs:À OD)(b:L3.Env):R (À OD):=ã (p b) λw=>ã (xf w.er) λm=>Ï ό6 (ś λy=>ò ϓm) È
def wX(i c:Nat)(k p a:Fe):Fs:=Ϗk<|SR p a
theorem aq.plR(h:ÿ fp P (plR o)):∃l s,o=Â (Â<|ϴp s)/\P (l,s):=by
 delta L3.plR at h;split at h
 .exact(_,_,rfl,h)
 show h.elim
theorem aq.olR(h:ÿ fp P (olR o)):∃s,o=Â ϳf/\P s:=by
 delta L3.olR at h;split at h
 .exact(_,rfl,h)
 show h.elim
theorem aq.xf(h:ÿ fp P (xf d)):∃q,d=Á q/\P q:=by
 delta L3.xf at h;split at h
 .exact(_,rfl,h)
 show h.elim
theorem aq.ofO(h:ÿ fp P (ofO o)):∃a,o=ϸg/\P a:=by
 cases o with|none=>show h.elim|some a=>show(a,rfl,h)
section
variable{M:Mx}
theorem X7.listP2(S:ϴI M.K)(x:Ŋ=Â (Â<|ϴp xs))(hc:ϸl=Â ϵT)(J:ys[j]?=Â ϪR):
  ∃v b ws b2 us g2,ϲG=Â (Â<|Ä l)/\H l=Â (ä v)/\v[c]?=Â (Ä b)/\H b=Â (ä ws)/\Ϙf/\ws[j]?=Â (Ä b2)/\H b2=Â (ä us)/\Ϸg F H us zs g2/\ϰs (b2::g2)/\(∀a∈b2::g2,ϵV)/\
   ∀d H' y e,aB d H'->Put M.K F H (Ä b2) (b2::g2) d H' y e->∃p,ϰC d H' σ (ł<|Ϲ1<|Ϗb y) p/\Ŏ fp d H' p:=by
 let(v,u,f,o,q,C,s,r,D,wr):=S.inP x hc;let z:=r.own;cases z with
 |@ol b ws _ g hb hw=>
  let(W,U,B,k,K,k3,h,k5,w):=Rk r J;rw[hb]at k;cases k;let N:=h.nd;let R:=h.fr;let O:=h.own;cases O with
  |@ol b2 us _ g2 hb2 hw2=>
   apply(v,b,ws,b2,us,g2,o,q,s,hb,K,k3,hb2,hw2,N,R,λd H' y e A pt=>?_);let(m,t):=w d H' y e pt;show wr d H' _ m A t
theorem F5.take{K:At}{F H:Hp}:∀{d:À V}{s:À OD}{g:À Ix}(k:Nat),ŧ d s g->∃g1 g2,g=g1++g2/\ŧ (d.take k) (s.take k) g1/\ŧ (d.drop k) (s.drop k) g2|_,_,g,0,h=>⟨[],g,rfl,í,h⟩|_,_,_,_+1,.nil=>⟨[],[],rfl,í,í⟩|_,_,_,k+1,.cons (f:=f) (g:=g) o r=>by let(g1,g2,rfl,b,j):=F5.take k r;show(f++g1,g2,ϱl K9M,ð o b,j)
def Jd(hf:∀{F H ρ fp zs}{P:į (À OD)}{b:Ix}{us:À V}{g:À Ix}{Q:VK},ϴI M.K->H b=Â (ä us)->Ϸg F H us zs g->ÿ fp P (f zs ρ)->
   (∀G a s U,Α G a->P s->(∀g',Ϸg G a us zs g'->b∉g'->Ϸg G (ϗf<|ä U) U s g')->Ϩt (ϗf<|ä U))->ta σ H λJ a=>r (Ä b) J a Q)(h:Ś (Ϗk f)):kO (ώ3 r (ώV (ϹT<|tC<|Á Ĵ)<|ê k) ta) D σ H:=by
 let(F,ρ,fp,S,pp):=h;let(l,xs,e,pp):=(ϰZ pp).plR;let(ys,Y,pp):=(ϰZ pp).olR;let(J,b,ws,g,h1,K,m,hb,hw,nd,fr,u0):=S.listP e Y;apply(_,h1,l,J,Ĵ,Ä b,rfl,rfl,Xa.of K,bW m,F,ρ,fp,S,Ŵ (ϰZ pp) ύp);let(G1,d1,X):=ϩ3;let(q,hq,pz):=(ϰZ pz).xf;rw[hq]at X;cases X;let(j,hj,pz):=(ϰZ pz).ofO;let(zs,Z,pz):=(ϰZ pz).olR;let(vs1,b1,W,b2,us,g2,i1,L,I,O,i5,p,y,ow,u1,u2,u3):=(ϰp).listP2 e Y Z;let eb:b1=b:=by
  let T:=ϏP K;rw[L]at T;cases T;rw[I]at m;injection m with m
  injection m
 subst eb;let at1:T1 W q=Â (Ä b2):=by delta T1;rw[i5,hj];show p
 apply(b1,W,q,Ä b2,rfl,rfl,Xa.of O,at1,Ê ⟨rfl,us,Xa.of y⟩,hf ϰp y ow ((ϰZ pz).ext d1) λG a s U d2 pw hO=>?_);let d:=ϲX;let(vs3,b3,ws3,b4,C,g3,j1,j2,j3,j4,j5,j6,j7,v,N,R,wr):=(S.ext d).listP2 e Y Z;let E:b3=b1:=by
  let T:=ϺI L;rw[j2]at T;cases T;rw[j3]at I;injection I with I
  injection I
 subst E;let B:b4=b2:=by
  let T:=ϺI O;rw[j4]at T;cases T;rw[j6]at p;injection p with p
  injection p
 subst B;let e5:C=us:=by
  let T:=ϺI y;rw[j7]at T;injection T with T
  injection T
 subst e5;let gb:G b4=none:=R b4 P0;let sm:aB G (ϕ9<|ä U):=λx o z=>Ù (ϔj gb) ϑq
 let(t,S',st):=wr G (ϕ9<|ä U) ϳf (b4::g3) sm ⟨ϧp<|hO g3 v (Yj.mp N).1,N,R,⟨ţ,λx o z A=>by
  rw[ay λw=>A ώF]
  show z,λx A=>Ê A,ϳa z⟩⟩
 show pw σ G _ t S'<|d.Wy.trans st
def OJ(h:Ś (wX i c k p a)):ϹZ S7 (ώV (ϹT<|tC<|Á Ĵ)<|ê k) (ê p) (dB (ê a) qL):=by
 apply ϓe;apply(F,ρ,fp,S,Ŵ (ϰZ pp) λw W u t G I E r q=>?_);let(G2,d2,f):=r.W3 E q;let(m,d,W):=(aq.bind W).xf;rw[d]at f;cases f;by_cases d:ό6
 .rw[Os d]at W
  apply(G2,ρ,fp,S.ext d2,Ŵ ((aq.bind W).ext d2) λy py v B e Y j R s=>?_);let(G3,d3,k3):=R.W3 j s;let L:ϧr zs.length:=ow.len;apply(b,us,m.toNat,v,rfl,ϱl (Int.toNat_of_nonneg d.1),(d2.trans d3).hh _ _ hb,Ã,Ã,K G3 e _ _ (d2.trans d3) py λg' o nb=>?_)
  let(ga,J,hg,l,C):=F5.take m.toNat (o.mono (H':=upd e b<|ä<|us.take m.toNat++v::us.drop m.toNat) ţ λx A o z=>by
   rw[ay λw=>nb<|by rw[<-w];show A]
   show z)
  let O:=l.app<|ð (ı k3) C;rw[K9B,<-hg]at O;show O
 rw[P3 d]at W;show W.elim
end
section
variable{X:Cx}{x:Str}{p ap cp pos:Pos}
def CM{c jj:Nat}{p2 p4:Pos}(i:Nat)(h:â e fa)(hN:Ñ Ξ)(hv:ϲP)(hd:ġ "__debug__")(Yy:ġ "__classdict__")(hix:f_ (ė (Á Ĵ) jj p4):=λ_ _=>rfl)
  (Xi:Ñ (ϵv (û (Ü p) (ė (Á Ĵ) jj p4) p2) "extend"))
  (Yx:Ñ (ϲN cp [e]))
  (Xh:Ñ ϶j) (hs:Ñ (Õ [e]=ź (Õ []))) (X2:Ñ (Ŕ<|ϷK<|Õ []))
  (hsw:Ñ (ϵw (ĝ (û (Ü p) (ė (Á Ĵ) jj p4) p2) "extend" ap) [e] cp)):ŋ (ϳT (ô (ĝ (û (Ü p) (ė (Á Ĵ) jj p4) p2) "extend" ap) [e] cp) pos) (rZ i c fa):=λhK hM=>
 ϒ0 (ϰy hK Dg) (Ϻf ϳr (nQ (i:=Ĵ) (j:=jj) (pos:=p4)) hix) ϩl (Ň<|RM q) Xi Yx Xh hs X2 hsw hK
def De{c jj:Nat}{p2 p3 p4:Pos}(i:Nat)(hb:â b fb)(h:â e fa)(h2:â e2 fc)(hixb:f_ b)(hN:Ñ Ξ)(hv:ϲP)(hd:ġ "__debug__")(Yy:ġ "__classdict__")(hix:f_ (ė (Á Ĵ) jj p4):=λ_ _=>rfl)
  (Xi:Ñ (ϵv (û (û (Ü p) (ė (Á Ĵ) jj p4) p2) b p3) "insert"))
  (Yx:Ñ (ϲN cp [e,e2]))
  (Xh:Ñ ϶j) (hs:Ñ (Õ [e,e2]=ź (Õ [e2]))) (hs2:Ñ (Õ [e2]=ϰv e2 (Õ []))) (X2:Ñ (Ŕ<|ϷK<|Õ [e2]))
  (hsw:Ñ (ϵw (ĝ (û (û (Ü p) (ė (Á Ĵ) jj p4) p2) b p3) "insert" ap) [e,e2] cp)):ŋ (ϳT (ô (ĝ (û (û (Ü p) (ė (Á Ĵ) jj p4) p2) b p3) "insert" ap) [e,e2] cp) pos) (wX i c fb fa fc):=λhK hM=>by
 let q:=ϨK PySem.F.slot_list_insert PySem.F.type_list_insert Eo (Ϻf (Ϻf ϳr (nQ (i:=Ĵ) (j:=jj) (pos:=p4)) hix) ϦT hixb) (bz Ϧ8 (ϸA (h2 hK hM) hs2) hs) Xi Yx Xh hs X2;rw[hK]at q;show ϐd ((ϳa (OJ z)))
end
section
variable{ρ:L3.Env}
def Ij(h:Ŋ=Â (Â<|ϴp xs))(H:ϸl=Â ϵT)(A:μ=χ)(b:y.er=Å ds)(d:ϩL ys.length):rZ i c a ρ=ü (ł<|Ϲ1<|ys++϶C):=by delta rZ;simp only[h,H,A,aF,b,Os d]
def Ik{q m:Int}(h:Ŋ=Â (Â<|ϴp xs))(H:ϸl=Â ϵT)(b:k ρ=ò kz)(e:kz.er=Á q)(g:ϐG q=ϰR)(d:ys[j]?=Â ϪR)(W:p ρ=ò pz)(f:pz.er=Á m)(n:ό6)(A:μ=χ):
  wX i c k p a ρ=.ok (.nx<|ł<|Ϲ1<|Ϗb<|.ol ϓm):=by
 delta wX AS SR plR olR xf ofO;simp only[h,H,b,aF,e,g,d,W,f,Os n,A]
end
section
variable{pos apos cpos pp px pw bp:Pos}
end
def qO:À Gc->č|[.int i,.int j]=>Ϩj ύk ϴE (.ok<|Ĩ<|(Ó (Η i.toNat<|(ē (j-i))) (Į Þ)).map int) È|_=>È
def NY:À V->Ý Hp VK:=ϸq (∃i j:Int,s=[Á i,Á j]/\ύk/\∀l,ϤT->Q (Ä l) (Ę l<|ä<|(Ó (Η i.toNat<|(ē (j-i))) (Į Þ)).map V.int))
section
variable{X:Cx}
set_option tactic.hygienic true in
def KJ:ϻC NY qO:=by
 ext x d F H f Q s R p;delta qO at p;split at p
 .cases R with
  |cons h r=>
   cases r with
   |cons h' r'=>
    cases r';cases h;cases h';split at p
    .rename_i J
     show(_,_,rfl,J,λl a=>Ϸ3 (su _) a)
    show p.elim
 show p.elim
def D6(i j:Int):Builtin.Range.rangeSize i j 1=Ë ((ϱF ((ē (j-i))))):=ύj
def KD{p p2 pos P:Pos}(hc:ż)(g:Ħ "list")(l:ϳe "list")(d:ϴC "list")(hg:Ħ "range")(M:ϷJ)(z:ϰM ψ ta)(C:Ñ (Õ ψ=(false,π)::Õ [b]))(L:Ñ (Ŕ<|ϯk P<|Õ [b]))(S:Ñ (Õ [ϳo "range" ψ]=ϱj (ϲ3 (ϳo "range" ψ)))):
  ç (ô (ú "list" p) [ô (ú "range" p2) ψ P] pos) (tCB NY ta):=by
 ext n s u H Q I h;apply K8h<|gJ I g l d ?_;apply K98 ?_ S rfl;rw[S];change Š (spliced<|ϰv (ϳo "range" ψ) (ϰU [])) s;apply ϩk ?_;apply Call_<|Ϩx<|Ϲ4 ϖV C L;let(O,w,x,R,E):=zz;obtain⟨i,j,e,⟨B,hi,J,G⟩,q⟩:=E;subst e;obtain⟨U,N,rfl,⟨t1,rfl⟩,⟨t2,rfl⟩⟩:=Vals.two R;apply call_range_2 ?_;apply ϩe ?_;let f:ì n u w {s1 with heap:=s1.heap.push (Ģ "range" (Κ #[Á i t1,Á j t2,Á 1 s1.toks])),toks:=s1.toks+1}:=x.kept (ϱk (Ĺ e));apply call_list_range ϱV ϭs (small_one Ã Ã Ã Ã) (D6 i j) Ã λF tk A c K y r=>?_;apply(Ä _,_,f.laid (t':=tk) (o:=ä<|(Ó (Η i.toNat<|(ē (j-i))) (Į Þ)).map V.int) K õ ϕB,rfl,q _<|f.Uf.fresh õ)
 .rw[K1,K1,K93,K7x]
  lia
 .let k:=w4 A.toList i.toNat λm v D=>by
   let(t,T):=r.2 m v (by rw[<-D,K7m]);show(t,ϗx)
  rw[K8t,r.1]at k;rw[W5];show k
 rw[K7i];show y
def MA{p p2 pos P:Pos}(hc:ż)(g:Ħ "list")(m:ϳe "list")(V:ϴC "list")(hg:Ħ "range")(H:ϷJ)(A:ϱ4 ψ)(s:Ñ (Õ ψ=(false,π)::Õ [b]))(l:Ñ (Ŕ<|ϯk P<|Õ [b]))(S:Ñ (Õ [ϳo "range" ψ]=ϱj (ϲ3 (ϳo "range" ψ)))):
  â (ô (ú "list" p) [ô (ú "range" p2) ψ P] pos) (ϪA al):=λr h=>Y1 (KD hc g m V hg H (A r h) s l S) (Ň (J9 KJ q))
def OW{i j:Int}(h:ύk):qO [Á i,Á j]=.ok (Ĩ<|(Ó (Η i.toNat<|(ē (j-i))) (Į Þ)).map int):=Os h
end
def BU(a b c:Fe):Fe:=λd=>ã (a d) λx=>ã (b d) λy=>match x.er,y.er with
 |.int i,.int j=>if i<=j then ã (c d) λz=>(match z.er with
  |.int k=>oB<|Ç<|j<k
  |_=>È)else ϧv
 |_,_=>È
def Sb(t tb tc:TE):TE:=ϱW (λx h=>tb a h λy b=>∃i j,x=Á i/\y=Á j/\Ï (i<=j) (tc a b λz c=>∃k,z=Á k/\Q (.bl<|Ç<|j<k) c) (Q ϮO b))
section
variable{pos:Pos}
set_option tactic.hygienic true in
def UE(h:ê ϐk σ H Q):Sb (ê fa) (ê fb) (ê fc) σ H Q:=by
 let(F,a,f,S,p):=h;apply(F,a,f,S,ħ λx X v m s A e1 r w=>?_);let(G1,d1,K):=ϲA;apply(G1,a,f,ϰp,ϳ7 X d1 λy py V o t Y E l W=>?_);let(G2,d2,b):=l.W3 E W;let P:=py.ext ϲX;split at P
 .rename_i i j hi c
  rw[hi]at K;rw[c]at b;cases K;cases b;apply(i,j,rfl,rfl,?_);split at P
  .rename_i J
   rw[Os J];apply(G2,a,f,(ϰp).ext d2,Ŵ (ϰZ P) λz pz B q u Z e C g=>?_);let(G3,d3,k3):=C.W3 e g;split at pz
   .rename_i k d
    rw[d]at k3;cases k3;show(k,rfl,Ϭv d3.fh (è ϲX d3) pz ϧ0)
   show pz.elim
  rename_i J;rw[P3 J];show Ϭv d2.fh ϲX P ϮO
 show P.elim
end
def N_{i j k:Int}(h:ϥq=ϴv)(H:x.er=Á i)(a:ϥr=χ)(e:y.er=Á j)(g:fc ρ=ò z)(l:z.er=Á k):ϐk ρ=Ú (ß<|Ç<|i<=j/\j<k):=by
 delta BU;rw[h,aF,a,aF];simp only[H,e];by_cases J:i<=j
 .rw[Os J,g,aF]
  simp only[l];delta oB;simp[J]
 rw[P3 J];delta oB;simp[J]
section
variable{pos:Pos}
def Qg(A:ç a ta)(B:ç b tb)(hc:ç c tc)(M:à ϕi:=by with_unfolding_all rfl):Ϸy ϓ0 (xV<|Sb ta tb tc):=by
 ext p s f H Q I h;apply isTrue_chain (Rn (ϫo f H _ I h) λv s1⟨x,m,o,R,t⟩=>test_link<|Rn (ϧP f m _ o t) λu S zz=>?_) M;let(y,g,l,D,C):=zz;let(i,j,rfl,rfl,q):=C;let(t1,rfl):=R;let(t2,rfl):=D;apply le_int<|K8b ?_;by_cases J:i<=j
 .rw[Os J]at q
  rw[W6 J,Č];apply test_last<|Rn (hc p S f g _ l q) λz F zz=>?_;let(w,n,r,E,d):=zz;let(k,rfl,K,e,d):=d;let(t3,rfl):=E;apply lt_int<|K8b ⟨n,r,?_⟩;injection e with e
  rw[e];show d
 rw[P3 J]at q;rw[Ll J,P3 Û];let(K,e,q):=q;injection e with e
 rw[<-e]at q;show(g,l,q)
def Pq(A:â a fa)(B:â b fb)(hc:â c fc)(h:à ϕi:=by with_unfolding_all rfl):ϲH ϓ0 (au ϐk):=λr m=>
 ϓ3 (Qg Ϲo Ϲq (hc r m) h) (UE ⟨F,d,f,S,p⟩)
end
def tQ(a:Fe)(i:Nat)(b:Fe):Fs:=λc=>ã (a c) λy=>match c[i]? with
 |some (some x)=>ã (b c) λz=>ϤS ol [y,x,z]
 |_=>È
section
variable{X:Cx}{pos:Pos}
set_option tactic.hygienic true in
def Ht(h:Ś ϐJ):HX (Oz<|dB (ê fa)<|dB ϰg<|dB (ê fb) qL) D σ H:=by
 let(F,s,P,S,p):=h;apply(F,s,P,S,ħ λy py w t K Y e1 r k=>?_)
 split at py
 .rename_i x e
  let(v,f,g1,g2,C,g,rfl,L):=ϴ0;let sub:ų (a∈ϴf):=ϰt (Ļ<|Ŀ m);let N:f.Nodup:=ϓi
  apply(v,C,t,s,_,ϲ5,ϳ7 py e1 λz pz u j c Z d l W=>⟨by change Ą 3;decide,Ϥw⟩);let x1:Own M.K j c v x f:=(g.mono e1.ff λa _ o z=>ϧe z).mono d.ff λa _ o z=>d.hh _ _ z;let y1:=r.ext d;let G:q∉f:=ϻN z (x1.Xm q m) Q
  let I:q∉Y:=ϻN z (y1.own.Xm q m) Q
  let J:q∉Z:=ϻN z (l.own.Xm q m) Q
  let d1:∀a∈Y,Ϸo:=ύt (g.Xm a m) (k a z)
  let d2:∀a∈Y,a∉Z:=ύt (r.own.Xm a z) (W a m)
  let d3:ų (a∉Z):=λa z m=>by let(o,u):=g.Xm a z;let:=ϧe u;rw[W a m]at this;cases this
  let up:∀a o,c a=Ø->upd c q (ä [w,v,u]) a=Ø:=λa o z=>Ù (ay<|aJ z Q) z
  let E:=e1.trans d;let nd:(ϰs ϖz):=by
   rw[Xf,Yj,Ya,Ya];apply(λm=>(P1.mp m).elim I λm=>϶m G J,r.nd,(N,l.nd,Ϥi (d3 a A (e▸B))),Ϥi ?_);rcases P1.mp B with m|m
   .exact d1 a A (e▸m)
   show d2 a A (e▸m)
  apply pz (Ä q) j (upd c q<|ä [w,v,u]) ϖz (όG E.fh Q).fh ⟨ϧp<|ð (y1.own.mono ţ (ϸW z up))<|ð (x1.mono ţ (ϸW z up))<|ð (l.own.mono ţ (ϸW z up)) í,nd,ϲz⟩ ⟨E.ff,λa o z _=>up a o<|ϳD z,ϲz,λa z _ u=>E.nw a z u⟩
  .rw[Xf]at m
   rcases W7.mp m with rfl|m
   .exact E.fh.free Q
   rcases P1.mp m with m|m
   .exact y1.fr a m
   rcases P1.mp m with m|m
   .exact let⟨_,z⟩:=g.Xm a m;E.nw a (bw z) (ϵO ϲ9)
   show l.fr a m
  rw[Xf]at m;rcases W7.mp m with rfl|m
  .exact Ð<|E.hh.free Q
  rcases P1.mp m with m|m
  .exact Ð<|k a m
  rcases P1.mp m with m|m
  .exact Ê ϲ9
  show Ð<|ϪM<|W a m
 show py.elim
def Fj(i:Nat)(h:â e fa)(h2:â e2 fb)(hN:Ñ Ξ)(hv:ϲP)(hd:ġ "__debug__")(Yy:ġ "__classdict__")(hs1:Ñ (Õ [e,Ü p,e2]=ź (Õ [Ü p,e2])))(hs2:Ñ (Õ [Ü p,e2]=ϰv (Ü p) (Õ [e2])))(hs3:Ñ (Õ [e2]=ϰv e2 (Õ []))):
  ŋ (Ϧ4<|Â<|.List [e,Ü p,e2] pt) ϐJ:=λhK hM=>Z8 (rC<|B5<|bz Ϧ8 (bz ϳr (ϸA (h2 hK hM) hs3) hs2) hs1) (Ň (Ht q))
def FT(h:Ŋ=Â Đ)(H:ϥq=χ)(a:ϥr=ò z):ϐJ ρ=ϤS ol [y,x,z]:=by
 delta tQ;rw[H,aF,h];change ã ϥr _=_;rw[a];rfl
end
def qQ(j n i:Nat)(b:Fb)(al:Fa):Fs:=λa=>ã (ϦM a) λr=>ü<|ύ8<|Â r.2
section
variable{M:Mx}
def Rh(J:j<n)(L:∀e y,al e=χ->Ϧw)(h:Ś ϘJ):ϧ7 (ϩs (ϱY np)<|dB ϰg<|ϱg al) (o7 j):=by
 let(F,e,A,S,p):=h;let(a,w,z):=ϐ4 ϕG ϱ0 (λr pr v k H' P B t T Y s=>by let(u,q,sub):=t.set J Y s;show pr (σ.set j ă) k H' u q<|T.sub λc m=>P1.mpr<|sub c m)<|L e;apply(Ä a,w,?_);let(o,f,u,q,p2):=z;apply(o,f,u,q,p2.mono λC X g l d x e1 R W=>?_);let:=X g l d x e1 R W;change ϱY np ((V.ref a::g)++[]) d ϕG M.E;rw[Xf];show this
end
section
variable{M:Mx}{X:Cx}{pos apos cpos p pp px:Pos}
def Dp(n:X.N.Nodup)(hi:X.N[j]?=γ)(Y:ϲT y)(G:ϱG M.K M.mg CX g fd ps (ϱY<|m+1))(hr:ϴ8)(hg:Ħ nm)(c:M.mg nm=Â (Ä g))(H:ϴX M.K (Ä g))
  (B:ϲZ M.K []) (e:ϲY M.E) (v:ç (Ü px) ϰg) (a:ϱ4 es) (A:ϫx)
  (d:Ν (à<|nm==϶q)) (he:Ñ (Õ (Ü px::es)=ϰv (Ü px) (Õ es))) (l:Ñ (Ŕ<|ϴH<|Õ es))
  (S:Ñ (ϤH (ô (ú nm pp) (Ü px::es) cpos) (Â<|ú y p) pos.line X.env=ϳy)) (f:ž (ϸo X.fn\/ϕj=Â Ų) mqad._auto_1):
  ŋ (ϳc [ú y p] (ô (ú nm pp) (Ü px::es) cpos) pos) ϘJ:=λr h=>
 Z8 (Cs n hi Y ϓM S f) (ϳa (Rh ϐu (λo s q=>ϱl (A o s q)) z))
end
def wq:À OD->Ö (À Int)|[]=>Â []|.sh (.int n)::r=>Ó (wq r) (n:: ·)|_::_=>none
def D2(ns:À Int):wq (ns.map λm=>Ă<|Á m)=Â ns:=by
 induction ns with|nil=>rfl|cons a r ih=>rw[L4,wq,ih];rfl
set_option tactic.hygienic true in
theorem AR:∀{zs:À OD}{ns:À Int},wq zs=Â ns->zs=ns.map λm=>Ă<|Á m
 |[],_,h=>ϏE
 |z::r,ns,h=>by
  delta wq at h;split at h
  .rename_i e;cases e
  .rename_i n R e
   cases e;cases hr:wq r with
   |none=>rw[hr]at h;cases h
   |some ms=>rw[hr]at h;cases h;rw[L4,<-AR hr]
  .cases h
def Tu:V->À V->Ý Hp VK:=ϧB (∃(l:Ix)(ns:À Int)(m:Int),x=Ä l/\d=[Á m]/\H l=Â (ä ϰw)/\m∈ns/\Ϩt (Ę l<|ä<|Ó Ϯ6 V.int))
def Ji{m:Int}:∀{ns:À Int}{i:À Db},ϵu ϰw i->PySem.W.kf_ints i=true/\(m∈ns->∃j,PySem.W.kf_at m i=ϰR/\ϵu (Ó Ϯ6 V.int) (i.eraseIdx j)):=by
 ext ns
 induction ns with
 |nil=>ext _ h;cases h;show(rfl,λh=>ϱJ)
 |cons a r ih=>
  ext i h;cases h with
  |cons h1 h2=>
   let(t,rfl):=h1;let(I,b):=ih h2;apply(I,λM=>?_);by_cases e:a=m
   .subst e
    apply(0,?_,?_)
    .unfold PySem.W.kf_at
     simp[PyProof.Rows.isInt]
    rw[List.erase_cons_head];show h2
   let H:m∈r:=by
    rcases W7.mp M with w|w
    .exact Ć w.symm e
    show w
   let(j,J,c):=b H;apply(j+1,?_,?_)
   .unfold PySem.W.kf_at
    let:à (ϖA (Value.int a t)):=by simp[PyProof.Rows.isInt,e]
    rw[this,J];rfl
   rw[List.erase_cons_tail ϳ8,L4,Zbu];show ð Ϯz c
def P5:MtM X "list.remove" Tu:=by
 ext p s u H x V v us Q I o R h;let(l,ns,m,rfl,rfl,d,M,q):=h;cases o;obtain⟨U,rfl,⟨t,rfl⟩⟩:=R.one;let(z,T,n,r,f,e):=I.lstM d;let(k,K):=Ji (m:=m) r;let(j,k3,g):=K M;let(a,b,c):=PySem.W.kf_at_spec k3;let hsz:Ą T.length:=by rw[<-f];show z
 apply Ϲm F.slot_list_remove ϸS F.entry_list_remove F.args_list_remove_2 (MeetsSeq.list_remove l T.toArray n (Á m t) ϖA (λy Y=>PySem.W.kf_eq k y ϩc) j ϩd ϭj (λi hi L=>(ť<|c i ϬY L))<|Ù Ys hsz) Ϫp
 apply(.Re,_,I.lset (its':=T.eraseIdx j) d e ?_ g ?_,rfl,q)
 .apply Array.toList_inj.mp
  simp[Array.toList_eraseIdxIfInBounds]
 let:=List.length_erase_le (a:=m) (l:=ns);rw[K1]at z⊢;lia
def Vp(a:Fe)(zs:À OD)(b:L3.Env):R (À OD):=ś λw=>ã (xf w.er) λm=>ã (ofO<|wq zs) λns=>Ï (m∈ns) (.ok (Ó Ϯ6 λm=>Ă<|Á m)) È
def AA(i c:Nat)(k a:Fe):Fs:=Ϗk<|Vp a
def F5.ints{K:At}{F H:Hp}:∀{ns:À Int}{d:À V}{g:À Ix},ŧ d (ns.map λm=>Ă<|Á m) g->d=ϰw/\g=[]:=by
 ext ns
 induction ns with
 |nil=>ext _ _ r;cases r;show(rfl,rfl)
 |cons a r ih=>
  ext _ _ q;cases q with|cons o q=>
  let(e1,E):=ih q;subst e1 E;cases o with|sh h=>cases h;show(rfl,rfl)
theorem F5.ofInts{K:At}{F H:Hp}:∀ns:À Int,ŧ ϰw (ns.map λm=>Ă<|Á m) []|[]=>í|a::r=>ð (f:=[]) (.sh<|Á a)<|F5.ofInts r
section
variable{M:Mx}
def Q2(h:Ś (AA i c k a)):kO (ώ3 Tu (ώV (ϹT<|tC<|Á Ĵ)<|ê k)<|dB (ê a) qL) D σ H:=by
 apply ϓe;apply(F,ρ,fp,S,Ŵ (ϰZ pp) λw j u r f I E l q=>?_);let(G2,d2,e):=l.W3 E q;let(m,d,W):=(aq.bind j).xf;rw[d]at e;cases e;let(ns,N,p):=(aq.bind W).ofO;by_cases d:m∈ns
 .rw[Os d]at p
  let z:=AR N;subst z;let(U,G):=ow.ints;subst U;apply(b,ns,m,rfl,rfl,ϺI hb,d,K G2 f _ _ d2 p λg' o nb=>?_);rw[o.ints.2];show F5.ofInts _
 rw[P3 d]at p;show p.elim
end
section
variable{X:Cx}{x:Str}{p ap cp pos:Pos}
def MP{c jj:Nat}{p2 p3 p4:Pos}(i:Nat)(hb:â b fb)(h:â e fa)(hixb:f_ b)(hN:Ñ Ξ)(hv:ϲP)(hd:ġ "__debug__")(Yy:ġ "__classdict__")(hix:f_ (ė (Á Ĵ) jj p4):=λ_ _=>rfl)
  (Xi:Ñ (ϵv (û (û (Ü p) (ė (Á Ĵ) jj p4) p2) b p3) "remove"))
  (Yx:Ñ (ϲN cp [e]))
  (Xh:Ñ ϶j) (hs:Ñ (Õ [e]=ź (Õ []))) (X2:Ñ (Ŕ<|ϷK<|Õ []))
  (hsw:Ñ (ϵw (ĝ (û (û (Ü p) (ė (Á Ĵ) jj p4) p2) b p3) "remove" ap) [e] cp)):ŋ (ϳT (ô (ĝ (û (û (Ü p) (ė (Á Ĵ) jj p4) p2) b p3) "remove" ap) [e] cp) pos) (AA i c fb fa):=λhK hM=>by
 let q:=ϨK PySem.F.slot_list_remove PySem.F.type_list_remove P5 (Ϻf (Ϻf ϳr (nQ (i:=Ĵ) (j:=jj) (pos:=p4)) hix) ϦT hixb) (ϸA Ϧ8 hs) Xi Yx Xh hs X2;rw[hK]at q;show ϐd ((ϳa (Q2 z)))
end
section
variable{ρ:L3.Env}
def Pa{s ys:À OD}{kz y:OD}{q m:Int}{ns:À Int}(h:Ŋ=Â (Â<|ϴp s))(H:s[c]?=Â ϵT)(b:k ρ=ò kz)(e:kz.er=Á q)(g:ϐG q=ϰR)(d:ys[j]?=Ď (ns.map λm=>Ă<|Á m))(A:μ=χ)(f:y.er=Á m)(n:m∈ns):
  AA i c k a ρ=.ok (.nx<|ł<|some<|ϴp<|s.set c<|.ol<|Ϗb<|.ol<|Ó Ϯ6 λm=>Ă<|Á m):=by
 delta AA AS Vp plR olR xf ofO;simp only[h,H,b,aF,e,g,d,A,f,D2,Os n]
def OL(h:ϦM ρ=.ok r):qQ j n i b al ρ=ü (ύ8<|Â r.2):=by delta qQ;rw[h];rfl
end
def nJ(i j:Nat):Fs:=λa=>match ϰ5 with
 |some (some<|.ol xs)=>(match a[j]? with
  |some (some<|.ol ys)=>(match ys.getLast? with
   |some (.sh d)=>Ï (i≠j/\ϻ8) (ü ((a.set j<|Â<|.ol ys.dropLast).set i<|Ď<|xs++[Ē])) È
   |_=>È)
  |_=>È)
 |_=>È
section
variable{M:Mx}
set_option tactic.hygienic true in
def IU(h:Ś (nJ i j)):ϹZ sD ϰg (ϓk<|cx j) qL:=by
 let(F,U,Z,S,p):=h;delta nJ at p;split at p
 .rename_i x E
  split at p
  .rename_i Y J
   split at p
   .rename_i d A
    split at p
    .rename_i hc
     let(e,B):=hc;let(l,R,f,o,y,h3,nf,X,wr):=S.write E;let(C,V,t,g1,g2,g3,I,G,W):=S.write J;let(v,v1,K,Q):=g3.last A;let(P,k,T,_):=W F H _ _ t ϥ7 Q I (λb m=>Ê m) G;let e':(U.set j<|Â<|.ol Y.dropLast)[i]?=Â (Â<|.ol x):=by rw[K9E<|K8g e];show E
     let(L,s,r,g,c,O,N,a,w):=k.write e';let el:L=l:=by rw[o]at g;cases g;rfl
     subst el;let(u,q,z,_):=w F _ ϧA (x++[Ē]) (r++[]) (Ext.refl k.same) (O.snoc<|ı K) (by rw[Xf];show N) (λb m=>Ê ϖB) (λb m=>a b ϖB);show(_,o,Ê ⟨rfl,R,Xa.of y⟩,_,g1,Ê ⟨rfl,V,Xa.of g2⟩,C,V,v,rfl,rfl,g2,v1,L,s,v,rfl,rfl,c,Ù O.len (uL B),p σ F _ u q<|T.trans z)
    show p.elim
   show p.elim
  show p.elim
 show p.elim
end
section
variable{X:Cx}{x y:Str}{p ap cp p2 ap2 cp2 pos:Pos}
def xZ(i j:Nat)(hN:Ñ Ξ)(hv:ϲP)(hd:ġ "__debug__")(Yy:ġ "__classdict__")
  (hN2:Ñ (X.N[j]?=γ)) (hv2:ž (Ϻm y) mqac._auto_1) (hd2:Ν (à<|y==϶q)) (hcd2:Ν (à<|y==ϨY))
  (hbase2:Ñ (ϵv (ú y p2) "pop")) (hline2:Ñ (þ<|ap2.endLine==cp2.line))
  (Xi:Ñ (ϵv (Ü p) "append"))
  (Yx:Ñ (ϲN cp [ô (ĝ (ú y p2) "pop" ap2) [] cp2]))
  (Xh:Ñ ϶j) (hs:Ñ (Õ [ô (ĝ (ú y p2) "pop" ap2) [] cp2]=ϰv (ô (ĝ (ú y p2) "pop" ap2) [] cp2) (Õ []))) (X2:Ñ (Ŕ<|ϷK<|Õ []))
  (hsw:Ñ (ϵw (ĝ (Ü p) "append" ap) [ô (ĝ (ú y p2) "pop" ap2) [] cp2] cp)):ŋ (ϳT (ô (ĝ (Ü p) "append" ap) [ô (ĝ (ú y p2) "pop" ap2) [] cp2] cp) pos) (nJ i j):=λhK hM=>by
 let q2:=ϒ4 ap2 cp2 (aA (pos:=p2) hN2 hv2 hd2 hcd2) hbase2 hline2;let q:=ϨK PySem.F.slot_list_append PySem.F.type_list_append mz ϳr (ϸA q2 hs) Xi Yx Xh hs X2;rw[hK]at q;show ϐd ((ϳa (IU z)))
def Bk(h:Ŋ=Â (Â ϲD))(H:ρ[j]?=some (Ď<|ys++[Ē]))(a:i≠j)(e:ϻ8):nJ i j ρ=ü ((ρ.set j<|Â ϵT).set i<|Ď<|xs++[Ē]):=by delta nJ;simp only[h,H,List.getLast?_append,List.getLast?_singleton,Option.some_or,Zcf,Os<|And.intro a e]
end
def wU(i c:Nat)(a:Fe):Fs:=λb=>match ϵq with
 |some (some<|.pl l xs)=>(match ϸl with
  |some (.ol ys)=>ś λy=>(match y with
   |.ol zs=>if Ϭz then ü (ϲo<|Ϲ1<|ys++zs)else È
   |_=>È)
  |_=>È)
 |_=>È
section
variable{M:Mx}
set_option tactic.hygienic true in
def O2(h:Ś (wU i c a)):ϹZ (AI M.K) (ϹT<|tC<|Á Ĵ) (ê a) qL:=by
 let(F,K,P,S,p):=h;delta wU at p;split at p
 .rename_i l X e
  split at p
  .rename_i Y I
   let(V,b,ws,g,A,C,G,B,W,nd,fr,wr):=S.listP e I;apply(_,A,l,V,Ĵ,Ä b,rfl,rfl,Xa.of C,bW G,Ê ⟨rfl,ws,Xa.of B⟩,F,K,P,S,ħ λy py v d s Q E r k=>?_)
   split at py
   .rename_i zs
    split at py
    .rename_i L
     let N:=r.nd;let R:=r.fr;let O:=r.own;cases O with
     |@ol a' vs' _ gy ha hv=>
      let t:∀x∈a'::gy,x≠b:=λx m z=>by let:=k x m;rw[z,B]at this;cases this
      let bn:b∉g:=(ϺW).1;let j:=ϳD B;let Xm:∀x∈g,∃o,H x=Ø:=λx m=>W.Xm x m;apply(b,a',ws,vs',rfl,rfl,j,X_.of ha,ϳH W.len hv.len (lS L),?_)
      let o:Ϸg d (ϗg<|ä<|ws++vs') (ws++vs') (Y++zs) (g++gy):=(W.mono E.ff λx m o z=>by
       rw[ϔ5]
       show ϳD z).app (hv.mono ţ λx m o z=>Ù (ay<|t x<|Ā m) z)
      let(f,u,T):=wr d (ϗg<|ä<|ws++vs') (.ol<|Y++zs) (b::(g++gy)) (λx o z=>by
       let fb:=E.nw b (bw B)<|fr b P0;rw[ϔj fb]
       show E.fh _ _ z) ⟨ϧp o,Yj.mpr ⟨λm=>by
        rcases P1.mp m with m|m
        .exact bn m
        .exact t b (Ā m) rfl,ϹE ⟨(ϺW).2,(Yj.mp N).2,λx m y J z=>Ϭd (Xm x m) (k x<|Ā J)⟩⟩,λx m=>by
        rcases W7.mp m with rfl|m
        .exact E.nw _ (bw B)<|fr _ P0
        rcases P1.mp m with m|m
        .let(o,q):=Xm x m
         show E.nw x ϻn<|fr x<|Ā m
        show R x<|Ā m,⟨E.ff,λx o z m=>Ù (ay λw=>m ώF) (ϳD z),λx m=>by
        rcases W7.mp m with rfl|m
        .exact Ê P0
        rcases P1.mp m with m|m
        .exact Ê<|Ā m
        show Ð<|k x<|Ā m,λx z m w=>E.nw x z w⟩⟩
      show py σ d _ f u T
    show py.elim
   show py.elim
  show p.elim
 show p.elim
end
section
variable{X:Cx}{x:Str}{p ap cp pos:Pos}
def LQ{c jj:Nat}{p2 p4:Pos}(i:Nat)(h:â e fa)(hN:Ñ Ξ)(hv:ϲP)(hd:ġ "__debug__")(Yy:ġ "__classdict__")(hix:f_ (ė (Á Ĵ) jj p4):=λ_ _=>rfl)
  (Xi:Ñ (ϵv (û (Ü p) (ė (Á Ĵ) jj p4) p2) "extend"))
  (Yx:Ñ (ϲN cp [e]))
  (Xh:Ñ ϶j) (hs:Ñ (Õ [e]=ź (Õ []))) (X2:Ñ (Ŕ<|ϷK<|Õ []))
  (hsw:Ñ (ϵw (ĝ (û (Ü p) (ė (Á Ĵ) jj p4) p2) "extend" ap) [e] cp)):ŋ (ϳT (ô (ĝ (û (Ü p) (ė (Á Ĵ) jj p4) p2) "extend" ap) [e] cp) pos) (wU i c fa):=λhK hM=>
 ϒ0 (ϰy hK Dg) (Ϻf ϳr (nQ (i:=Ĵ) (j:=jj) (pos:=p4)) hix) ϩl (Ň<|O2 q) Xi Yx Xh hs X2 hsw hK
end
section
variable{ρ:L3.Env}
def O7(h:Ŋ=Â (Â<|ϴp xs))(H:ϸl=Â ϵT)(A:μ=ò ϪR)(b:Ϭz):wU i c a ρ=ü (ł<|Ϲ1<|ys++zs):=by delta wU;simp only[h,H,A,aF,Os b]
end
end L3
namespace L3
open PySem L2
def nox(f:Fn):Fn:=λd=>match f d with
 |.ex _=>È
 |r=>r
def wR(h:f ds=ϴv):nox f ds=ϴv:=by delta nox;rw[h]
def fnx(F:Ϲg mg base ϱ5 k f fd ps (ϸ9 fx)):ϲj k f fd ps (ϸ9<|nox fx):=by
 let key:∀d H Q E g,ϸ9 (L3.nox fx) d H Q E->ϸ9 fx d H Q g:=λd H Q E g⟨G,D,a,b,p⟩=>⟨G,D,a,b,by
  delta L3.nox at p;cases h:fx D with|ok x=>rw[h]at p;show p|ex c=>rw[h]at p;show p.elim|bad=>rw[h]at p;show p.elim⟩
 apply(λd H Q E h=>ύJ<|ϯi _ _ h,ϓz (K8E (F.run A outer s H args us d Q Ϧb hr he B v<|ϯi _ _ S) λr i h=>?_));cases r with
 |ok o=>cases o<;>show h
 |error e=>let(_,_,_,_,_,_,_,_,_,_,_,_,z):=h;show z
end L3
namespace L3
open PySem L2 PySem.Spec PyProof.Rows
open Classical in
section
variable{p pos:Pos}
end
section
variable{p ap cp pos:Pos}
end
section
variable{pos:Pos}
end
end L3
namespace L3
open PySem L2 PySem.Spec PyProof.Rows PySem.W
def isT:Ź (À ϪQ)|(.none,_)::_=>true|_=>false
def zD(d:À ς):isT (d.map ϲk)=false:=by
 cases d with|nil=>rfl|cons p r=>let(k,v):=p;cases k<;>rfl
def yx:Gc->ϱn
 |.dict L0,y,z=>if ā isT L0 then È else(match keyOf y with
  |some k=>Ú<|ϊ (kG L0 k) z
  |none=>È)
 |_,_,_=>È
def vb(a b c:Fe):Fe:=λd=>ã (a d) λx=>ϨJ (Ï (ā isT L0) È (ã (b d) λy=>ã (c d) λz=>ϒl (϶a L0))) È
section
variable{K:At}{F H:Hp}
def Fh:∀{s:À ϴl}{D:À ς}{k:Key},ϥM s.map D.map ((mi D k=none/\qM s k=none)\/∃v d,qM s k=ă/\mi D k=ϰH/\Ĝ F v d):=by
 ext s
 induction s with
 |nil=>
  ext D _ h _;cases D with|nil=>show Ê Ϧu|cons=>cases h
 |cons p s ih=>
  ext D k h r;cases D with
  |nil=>cases h
  |cons q D=>
  rw[L4,L4]at h r;let(H,a):=ϥG;let H:p.1=q.1:=H;cases r with
  |cons r1 r2=>
   delta mi qM;rw[K8p,K8p];by_cases Q:ϥF
   .rw[W6 Q,W6<|H.trans Q]
    show Ð (ϑP r1)
   rw[Ll Q,Ll ϖx];show ih a r2
end
section
variable{pos:Pos}
def QU(h:ê (ϩG fc) σ H Q):QZ (ê fa) (ê fb) (ê fc) σ H Q:=by
 let(F,i,f,S,p):=h;apply(F,i,f,S,ħ λx P v A G L e1 R w=>?_);let(G1,d1,K):=ϸb w;generalize x.er=d at P K;cases K with
 |@dct a L0 ds h1 h2 h3=>
  let X:ÿ f Θ (Ï (isT (ϲL ϲk)=true) È<|ã (fb i) λy=>ã (fc i) λz=>ϒl (dD ds)):=P;rw[zD,ϰ6]at X;apply(a,rfl,Ê ⟨L0,Ê<|Ϫu h1⟩,G1,i,f,ϰp,ϳ7 X d1 λy py V B I N E t W=>?_);let(G2,d2,r):=t.W3 E W;apply(G2,i,f,(ϰp).ext d2,ϳ7 py ϲX λz pz T D J O m C u=>?_)
  let(G3,d3,k3):=C.W3 m u;let e:aq M H f Θ (if isT (ϲL ϲk)=true then È else(match ϸB y.er with
   |some k=>Ú<|(kG (ϲL ϲk) k).getD z.er
   |none=>È)):=pz
  rw[zD,ϰ6]at e;let Z:aq M H f Θ (match ϸB y.er with
   |some k=>Ú<|(kG (ϲL ϲk) k).getD z.er
   |none=>È):=e
  cases hk:keyOf y.er with
  |none=>rw[hk]at Z;show Z.elim
  |some k=>
   rw[hk]at Z;let Y:=nN r hk;subst Y;let g:Θ (.sh<|(kG (ϲL ϲk) k).getD z.er):=Z;rw[tE]at g;let b:aB G1 G3:=Ϸv (d3.ff c o<|d2.ff c o q);apply(ϯt,xm.k<|d3.fh _ _<|b _ _ h1,Ϭv d3.fh (è ϲX d3) g ?_);rcases Fh (k:=k) h2 h3 with⟨j,l⟩|⟨v,d,j,l,s⟩
   .rw[j,l]
    show k3
   rw[j,l];show s.same b
 |Re=>show P.elim
 |bl _=>show P.elim
 |int _=>show P.elim
 |str _=>show P.elim
 |lst _ _=>show P.elim
 |tup _ _=>show P.elim
 |ins _ _ _=>show P.elim
theorem RN:ϩG fc ρ=X6 (λx=>ϨJ (Ï (ā isT L0) È (opK (λy z=>yx (϶a L0) y z) ϥr (fc ρ))) È) ϥq:=by
 delta vb;cases fa ρ with
 |bad=>rfl
 |ex c=>rfl
 |ok x=>
  change(ϨJ _ _)=(ϨJ _ _)
  cases x.er with
  |dict L0=>
   dsimp only
   split
   .rfl
   cases fb ρ<;>cases fc ρ<;>rfl
  |_=>rfl
def Oi(k:À ς)(i:Int)(z:Gc):yx (dD k) (Á i) z=Ú (ϊ (mi k<|Ê i) z):=by
 change(Ï (isT (k.map ϲk)=true) R.bad<|R.ok (Ă<|(kG (k.map ϲk)<|Ê i).getD z))=_;rw[zD,ϰ6,tE]
def Om{i:Int}(h:ϥq=ϴv)(e1:x.er=dD L0)(H:ϥr=χ)(E:y.er=Á i)(a:fc ρ=ò z):ϩG fc ρ=Ú (ϊ (mi L0<|Ê i) z.er):=by
 rw[RN,h,H,a];change(ϨJ (Ï (ā isT L0) R.bad (opK (λy z=>yx (϶a L0) y z) χ (ò z))) È)=_;rw[e1];change(Ï (isT (L0.map ϲk)=true) R.bad<|ϒl (dD L0))=_;rw[zD,ϰ6,E,Oi]
end
end L3
namespace L2
open PySem
abbrev Ris(s:ϯE):Prop:=s.toList.Pairwise ϶3
def Cut(s:ϯE)(j r:Nat):Prop:=r<=s.size/\∀i x,Ķ s.toList=Đ->(i<r↔x<j)
set_option tactic.hygienic true in
def uI(R:Ris xs)(j:Nat):Cut xs j (ϥ4 j):=by
 let key:∀fuel l hi,hi-l<=fuel->l<=hi->hi<=xs.size->(∀i x,Ķ xs.toList=Đ->(i<l->x<j)/\(hi<=i->¬x<j))->Cut xs j (SetTable.below.go xs j fuel l hi):=by
  ext fuel
  induction fuel with
  |zero=>
   ext l hi d f c a;apply(ϸ3 (l<=_),ύe);let:=ϑv;change i<l;lia
  |succ fuel ih=>
   ext l hi d f c a;delta SetTable.below.go;split
   .rename_i L
    let M:ϷY<xs.size:=Ã
    obtain⟨y,Y⟩:∃y,xs.toList[ϷY]?=γ:=⟨xs[ϷY],by simp[M]⟩
    let hg:xs.getD ϷY j=y:=by simp[Array.getD,M]at Y⊢;show Y
    dsimp only;rw[hg];let up:∀i x,Ķ xs.toList=Đ->(i<ϷY->x<y)/\(ϷY<i->y<x):=ϫL (by let(A,b):=ϫy;let(b1,b2):=Za.mp Y;let q:=ύq;show(ϗL (q _ _ A b1 h),ϗL (q _ _ b1 A h)))
    split
    .apply ih (ϷY+1) hi Ã Ã c (ϫL ⟨϶i ?_,ϑv⟩)
     by_cases e:i=ϷY
     .subst e
      rw[Y]at H;cases H;assumption
     let:=(up i x H).1 Ã;lia
    apply ih l ϷY Ã Ã Ã ύe;by_cases e:i=ϷY
    .subst e
     rw[Y]at H;cases H;assumption
    let:=(up i x H).2 Ã;lia
   apply(Ã,ύe);let:=ϑv;lia
 show ϯi Ã Ã Ã ((ϫL ⟨λh=>Ã,λh=>by let:=ϸX;simp at this;lia⟩))
def Bz(R:Ris xs)(h:xs[k]?=γ):ϥ4 (y+1)=k+1:=by
 let(a,b):=uI R<|y+1;let K:xs.toList[k]?=γ:=϶r
 let d:=Ψ (b k y K) Ã;by_cases H:k+1<ϥ4 (y+1)
 .exfalso
  obtain⟨z,Z⟩:∃z,xs.toList[k+1]?=Â z:=⟨xs[k+1],Û⟩
  let e:=(b _ z Z).mp H;let(A,c):=Za.mp Z;let(b1,b2):=Za.mp K;let:=ύq k (k+1) b1 A Ã;lia
 lia
def LZ(R:Ris xs)(h:xs[ϥ4 j]?≠ϰR):Ris (ϖC (ϥ4 j) j):=by
 let(a,b):=uI R j;generalize ϥ4 j=p at*;let l:∀x∈xs.toList.take p,x<j:=λx H=>by let(i,hi,rfl):=List.mem_take_iff_getElem.mp H;show(b i _<|Xb _).mp Ã
 let hi:∀x∈xs.toList.drop p,j<x:=λx H=>by
  let(i,hi,rfl):=List.mem_drop_iff_getElem.mp H;let hi:p+i<xs.toList.length:=Ã
  let c:=(b (p+i) _ ϹH).mpr;by_cases e:xs.toList[p+i]=j
  .exfalso
   by_cases z:i=0
   .subst z
    show h (ť<|Za.mpr ⟨hi,e⟩)
   let P:p<xs.toList.length:=Ã
   let q:=ύq p (p+i) P hi Ã;let:=(b p _<|Xb P).mpr Ã;lia
  lia
 change(ϖC p j).toList.Pairwise ϶3;rw[SetTable.toList_insertAt];apply List.pairwise_append.mpr ⟨R.sublist ϖg,ύ9 ⟨hi,R.sublist<|List.drop_sublist _ _⟩,λx H y Y=>?_⟩;let:=l x H;rcases W7.mp Y with rfl|Y
 .exact this
 let:=hi y Y;lia
def uP(b:Bool)(t:SetTable):Prop:=t.led=b/\(þ t.plain->Ris t.place/\t.dummies=#[])
def qH{t:SetTable}(h:t.led=b)(n:Nat):uP b (t.standIn n):=⟨h,϶t⟩
set_option tactic.hygienic true in
def Co(D:t.dummies=#[]){h:Int}:∀(fuel:Nat)(p:SetTable.Probe){j:Nat}{d:ϑV},p.dummy=none->SetTable.probe.go t hs h fuel p=Â (.empty j d)->d=none/\t.place[ϬC j]?≠ϰR:=by
 ext y
 induction y with
 |zero=>ext _ _ _ _ e;cases e
 |succ fuel Y2=>
  ext p j d H e;delta SetTable.probe.go at e;let n:∀x,à (ϖD x):=λx=>by rw[D];rfl
  split at e
  .rename_i hs
   cases e;apply(H,϶X);delta SetTable.slot at hs;simp[z]at hs
  .rename_i hs
   delta SetTable.slot at hs;simp[n]at hs
   split at hs<;>cases hs
  let A:(t.advance p).dummy=none:=by delta SetTable.advance;split<;>show H
  split at e
  .cases e
  show Y2 _ A e
set_option tactic.hygienic true in
def Kk(T:uP b t)(s:ϵE)(h:Int)(x:Db):uP b (layNew t s h x).2.1:=by
 delta layNew;split
 .rename_i slot w e
  dsimp only;delta SetTable.orStandIn;split
  .apply(T.1,λp=>?_)
   let(R,H):=T.2 p;delta SetTable.freeSlot at e;split at e
   .rename_i j d E
    let(z,g):=Co H _ _ rfl E;subst z;cases e;apply(LZ R g,?_);change(Ï (ϖD j=true) _ t.dummies)=#[];rw[H];rfl
   cases e
  show όm
 show όm
set_option tactic.hygienic true in
def EZ(T:uP b t)(s:ϵE)(m:Nat):uP b (relayAll t s m).2.1:=by
 delta relayAll;split
 .rename_i Q order e
  dsimp only
  split
  .unfold SetTable.relaid SetTable.laid at e
   cases hc:SetTable.layClean (SetTable.sizeAbove m-1) (ϳ2 ģ)with
   |none=>rw[hc]at e;cases e
   |some ow=>
    rw[hc]at e;cases e;apply(T.1,ϰ9 ((ϧ4 ?_)));change List.Pairwise _ (List.toArray _).toList;rw[List.toList_toArray];apply ϩa ?_;apply(List.pairwise_filterMap.mpr<|List.pairwise_lt_range.imp fun{a c} hac x hx y hy=>?_);let(_,_,rfl):=϶d hx;let(_,_,rfl):=϶d hy;show hac
  show όm
 show όm
end L2
namespace L2
open PySem PySem.Spec PyProof.Rows
def vI:Db->Int|.int n _=>n|_=>0
def Nx{k:Int}(h:Value.isInt k v=true):vI v=k:=by let(t,rfl):=Value.isInt_shape h;rfl
structure Xe(prog:Do)(w:Ev)(h:Op)(a:Ix)(b:Bool)(ks:À Int)(es:ϵE)(ep:Nat)(t:SetTable):Prop where
 ob:Τ=Â {cls:=ć "set",dict:=none,data:=.set es ep t,slots:=#[]}
 el:ElemsOf ϴM es.toList
 sz:ϧN es.size
 ft:ā t.fits es.size
 tb:uP b t
 pm:ϭm es.toList.map ks
section
variable{s:Da}{ks:À Int}{es:ϵE}
def Xe.mem(B:ϰW s.heap a b ks es ep t){k:Int}(j:ϑV)(e:List.findIdx? (λe=>(ϴM).is k e.2) es.toList=j):j.isSome=ks.any (· ==k):=by
 let key:ā ks.any (· ==k)↔∃e∈es.toList,(ϴM).is k e.2=true:=by
  rw[Zax];constructor
  .rintro⟨x,hx,e⟩
   let e:=eq_of_beq e;subst e;let(y,Y,rfl):=Zc.mp<|B.pm.mem_iff.mpr hx;obtain⟨⟨k,h,_⟩,_⟩:=B.el y Y;show(y,Y,ϷR (Nx h))
  ext⟨y,Y,h⟩;show(_,B.pm.mem_iff.mp<|ϳP ⟨y,Y,rfl⟩,Ù (Nx h) (K8O k))
 cases j with
 |none=>
  let:=List.findIdx?_eq_none_iff.mp e;cases hh:ks.any (· ==k)with|false=>rfl|true=>let(y,Y,h):=key.mp hh;rw[this y Y]at h;cases h
 |some i=>let(J,p,_):=List.findIdx?_eq_some_iff_getElem.mp e;show(key.mpr ⟨_,Zab J,p⟩).symm
def Xe.store(B:ϰW s.heap a b ks es ep t)(el:ElemsOf ϴM es'.toList)(sz:ϧN es'.size)(f:ā t'.fits es'.size)(tb:uP b t')(pm:ϭm es'.toList.map ks'):
  ϰW (s.heap.update a ϗB) a b ks' es' (ep+1) t':=⟨by
   let:=K7n ϗB B.ob (ϰd ϗC)
   rw[ϗC]at this;show this,el,sz,f,tb,pm⟩
def set_tail{g:Bool->Sem Unit}(hg:∀(c:Bool)(d:Da)(Y:Ý Unit Da),Y () d->Ł (g c) Y E d)(B:ϰW s.heap a b ks es ep t){S:ϵE}{t1:SetTable}(el:ElemsOf ϴM S.toList)(sz:ϧN S.size)(k:ā t1.fits S.size)(tb:uP b t1)(pm:ϭm S.toList.map ks1){R:Ý ϮB Da}(h:∀H f P Q,ϨX H->ϰW H a b ks1 f P Q->f.size=S.size->R ϱ3 ϩg):
  Ł (storeSet a S t1 >>=λ_=>Ï (þ (!wd&&t1.tooFull)) (g (Ϭw ϻQ).2.2 >>=λ_=>storeSet a (Ϭw ϻQ).1 (Ϭw ϻQ).2.1 >>=λ_=>pure ϱ3) (pure ϱ3)) R E s:=by
 apply Fq<|ϓB B.ob ?_<|ϩh sz;let j:=B.store el sz k tb pm;let M:=K7f s.heap a<|Obj.putSet S t1;split
 .let p:=ϚO ϻQ
  let F:=ϚP ϻQ;let T:=EZ tb S ϻQ;generalize Ϭw ϻQ=Rl at p F T⊢;let(i,t2,gv):=Rl;dsimp only at p F T⊢;let z:i.size=S.size:=by rw[<-K8t,p.length_eq,K8t]
  apply Fq (hg _ _ _<|Fq<|ϓB j.ob (Ps<|h _ i _ t2 (M.trans<|K7f _ a _) (Xe.store (s:=(ϲx _)) j (el.perm p) Ã F T<|è (p.map _) pm) z)<|ϩh Ã)
 show Ps<|h _ S _ t1 M j rfl
def MG{k:Int}(B:ϰW s.heap a b ks es ep t)(x:ϧN (es.size+1))(h:∀i r S P T,ϨX i->ϰW i a b (step_dedup ks k) S P T->S.size<=es.size+1->Q r {s with heap:=i,toks:=s.toks+1}):
  Ł (setAdd a<|Á k tk) Q E s:=by
 delta setAdd;apply ϸ8<|Fq<|(ϴM).pyHash (k:=k) ϗD ?_;let y:(ϴM).is k (Á k tk)=true:=ϗD;let B:ϰW (Ϲ2:Da).heap a b ks es ep t:=B;delta setAddHashed setAddHashedIn;apply ϸ8<|Fq<|ϹQ ?_;dsimp only;rw[byScan_of rfl B.sz B.el];simp only[↓reduceIte];delta setAddByScan;apply ϳh;apply ϫc ?_;apply Fq<|wpAny_setScan_of y B.ob rfl B.ft B.el ?_;cases hr:List.findIdx? (λe=>(ϴM).is k e.2) es.toList with
 |some j=>
  let M:=B.mem _ hr;dsimp only;apply Ps<|Ps<|ϙj ϱM;delta step_dedup;rw[Os<|by rw[<-M];rfl];show B
 |none=>
  let M:=B.mem _ hr;let o:step_dedup ks k=ks++[k]:=Ŷ step_dedup (P3<|by rw[<-M];show Xd)
  rw[o]at h;dsimp only;let p:=layNew_perm t es ((ϴM).hash k)<|Á k tk;let f:=layNew_fits t es ((ϴM).hash k)<|Á k tk;let H:=Kk B.tb es ((ϴM).hash k)<|Á k tk;generalize q:layNew t es ((ϴM).hash k) (Á k tk)=L at p f H⊢;let(g,t1,u,v):=L;dsimp only at p f H⊢;rw[Array.toList_push]at p;let l:ElemsOf ϴM g.toList:=(B.el.push y rfl).perm p;let Z:g.size=es.size+1:=by rw[<-K8t,p.length_eq,Ww,K8t];rfl
  let m:ϭm g.toList.map (ks++[k]):=è (p.map _) (Ù Wx<|B.pm.append_right _);let hg:∀(c:Bool)(d:Da)(Y:Ý Unit Da),Y () d->Ł (match c with|true=>rule "set.scan.the-table-gave-way"|false=>pure ()) Y E d:=λc d Y h=>by
   cases c
   .exact Ps h
   show wpAny_rule h
  apply Fq<|hg _ _ _ ?_;split
  .apply ϳh
   rw[hashByValue_scannable 8 rfl];show Ps (ϘK Ã f H m<|λi S P T s1 n z=>Ps<|ϒ7 Ã)
  show Fq (Ps<|ϘK Ã f H m (λi S P T s1 n z=>Ps<|ϒ7 Ã))
end
section
variable{w:Ev}{A:Go}{s:Da}
theorem GK{items:ϰ3 Db}{ns:À Int}{R:Ý Result Da}(W:ώA)(n:l≠I)(h:S≠I)(v:S≠l)(hi:ϧc items.toList)(hb:ϧN (items.size+1)):
  ∀(k i:Nat)(s:Da)(d:ϵE)(ep:Nat)(t:SetTable),items.size-i=k->i<=items.size->s.heap.IsListIter I l i->ϖ1->ϰW s.heap S b ύf d ep t->d.size<=i->
   (∀f E p Q,Moved [S,I] (λa b=>b=a) s f->ϰW f.heap S b (ϸH []) E p Q->R (ϧz æ) f)->
   ϵk ϲm A (ğ "set.update.loop" (ϰI [Ä S,Ä I])) R s:=by
 let C:όA items.size:=by rw[<-K8t,ώN]
 ext k
 induction k with
 |zero=>
  ext i s d ep t X N hit j B Z u;apply ϸK F.entry_set_update_loop;rw[ϨV F.plain_set_update_loop];change ϥW (ϸz (Ä I)) s;apply Fq<|wpAny_pyNext_list_end W hit j (î Array.getElem?_eq_none_iff) λU he=>Ps<|u {s with heap:=U} d ep t ⟨ϴr (he c o (λz=>hc<|Ű z) q),rfl,rfl,rfl,õ⟩ ?_;rw[K90 Ã]at B;show(he _ _ h B.ob,B.el,B.sz,B.ft,B.tb,B.pm)
 |succ k ih=>
  ext i s d ep t X N hit j B Z u;let L:i<items.size:=Ã
  apply ϸK F.entry_set_update_loop;rw[ϨV F.plain_set_update_loop];change ϥW (ϸz (Ä I)) s;let(tk,Y):=IntsAre.int_at hi i items[i] ϦO;apply Fq<|wpAny_pyNext_list_item hit j (x:=items[i]) ϦO λg T H=>?_;rw[Y];change ϥW (holding [Value.int ϏK tk] (setAdd S<|Á ϏK tk)) ((ϲx g));let J:ϰW g S b ύf d ep t:=(Ϙo (H.extBut _ _ h B.ob));apply Fq<|ϸ8<|MG (s:=(ϲx g)) J Ã λV r m P t2 y O z2=>?_;let e:(ϭ6).foldl step_dedup []=step_dedup ύf ϏK:=by
   let D:i<ns.length:=Ã
   rw[Zbf D,List.foldl_append,List.getD_eq_getElem?_getD,Xb D];rfl
  let K:∀c o,c≠S->g.get? c=Ø->V.get? c=Ø:=ϴr (è (y.2 c hc) q);apply Ps ⟨ϭR F.plain_set_update_loop,ih (i+1) _ m P t2 Ã L (T.at λo q=>K I o h.symm q) ((j.extBut H.extBut n).at λo q=>K l o v.symm q) (by rw[e];show O) Ã λf E p Q M G=>u f E p Q ⟨ϴr (ϖI hc<|ϫn (λz=>hc<|Ű z)<|H.extBut c o (λz=>hc<|Ű z) q),M.gens,M.drawn,M.os,Zd ϱM M.toks⟩ G⟩
def Jf(a:Db)(h:Q₁ (Ä s.heap.objs.size) (ϲx (Ţ {cls:=ć "set",dict:=none,data:=.set #[] 0 (ϖG<|! ϳ3)}))):
  ϵk ϲm A (ϻB (ğ "set.__new__") (ϰI [ć "set",a])) (wants Q₁ E) s:=by
 apply Ϙg;change ϶e _ A.in1 (do checkBuiltinCall "set.__new__" ⟨[.type "set",a],[]⟩;again (.builtin "set.__new__" ⟨[.type "set",a],[]⟩)) _ _ s;apply Fq<|ϙU<|Ps ⟨ϭR F.plain_set_new,ϸK F.entry_set_new⟩;rw[ϨV F.plain_set_new];delta Builtin.«set.__new__» Builtin.Frozenset.newClass;let S:=sub_set_self;let(p,g,d,tk,os):=s;dsimp only
 wp_walk
 apply wpAny_askSetting Δ;dsimp only;simp only[newObj];apply Fq<|wpAny_alloc Δ;show Ps h
theorem JK(hh:ϷO)(hl:ϖ1)(hi:ϧc items.toList)(Z:ϧN (items.size+1))(h:∀(f:Op)(tk:Nat)(X:ϵE)(ep:Nat)(t:SetTable),ϰW f s.heap.objs.size (! ϳ3) (ϸH []) X ep t->
   (∀c o,ϴO=Ø->f.get? c=Ø)->Q (Ä s.heap.objs.size) {s with heap:=f,toks:=tk}):
  Ł (call (ć "set") [Ä l]) Q E s:=by
 let(c,tl,B):=F.called_set.mro;let v:=F.called_set.made;let U:=F.called_set.sub;apply wpAny_call Ϙg;change Š (callAny (ć "set") _) _;apply Ps ⟨ώg ñ,ϸK F.entry_type_call⟩;rw[Around.under_plain (weight_type_call_type "set" [Ä l] []) rfl];let h1:=F.called_set.notType;let h2:=F.called_set.canCreate;let hct:=F.typeCall_set_1<|Ä l
 repeat (any_goals (first|assumption|wp_step))
 generalize j:(! ϳ3)=led at h;apply K8E (Jf (Ä l) (E:=E) (Q₁:=λobj S=>obj=Ä s.heap.objs.size/\S=ϲx (Ţ ϻH))<|by rw[j];show(rfl,rfl)) λr S hr=>?_;cases r with
 |error e=>show hr
 |ok fl=>
  cases fl with
  |ret obj=>
   let(rfl,rfl):=hr;let y:(Ţ ϻH).get? s.heap.objs.size=Â ϻH:=θ;let Y:Shared.TypeIs (ϲx (Ţ ϻH)) (Ä s.heap.objs.size) "set":=⟨_,y,rfl⟩
   let hli:=F.called_set.init.lookup;let hbi:=F.called_set.init.bind<|Ä s.heap.objs.size
   repeat (any_goals (first|assumption|wp_step))
   apply K8E (codeAny_call_builtin (R:=wants (λr a=>r=æ/\Q (Ä s.heap.objs.size) a) E) F.called_set.init.plain F.entry_set_init<|check_set_init_1 Y ?_) λn a H=>?_
   .let(ol,k,D,nl,L):=hl
    let(I,d,T,O):=ol;simp only at D L;subst D;subst L;let m:(Ţ ϻH).get? l=Â {cls:=ć "list",dict:=d,data:=ϰm items nl,slots:=O}:=Ĺ k;let G:=F.sub_list_set;let C:=F.sub_list_frozenset;let hne:à (Ϥ8 "list"==Ϥ8 "dict"):=á
    let g:(Ţ ϻH).IsList l items:=⟨_,m,rfl,nl,rfl⟩;delta Builtin.«set.__init__» noKeywords Builtin.Frozenset.updateFrom;generalize P:pyIter=PI
    wp_walk
    subst P;apply wpAny_pyIter_list g ?_;apply Fq<|wpAny_runValue ?_;let i:l<s.heap.objs.size:=Xq k;let sz:ϰA (Ţ ϻH)=ļ:=ϹB;apply GK (b:=led) (items:=items) (ns:=ns) (Ű hh) (Ù sz<|Ym<|K8f i) (Ù sz<|Ym ϧZ) (Zbn i) hi Z _ 0 _ #[] 0 (ϖG led) rfl ϴw (ϮN θ) (g.push _) ⟨Ĺ y,λe he=>by simp at he,á,rfl,ϱB (ϰ9 ((ϧ4 List.Pairwise.nil))),Û⟩ õ λs' u p t' M J=>?_;let(f,g',d',K,x):=s';let V:g'=s.gens:=M.gens;let N:d'=s.drawn:=M.drawn;let W:x=s.os:=M.os;subst V N W;change Š _ _;apply Δ;change Š (ret Value.none) _;apply Ps (ϱB (h f K u p t' J λc o q=>ϖI ϶X<|Ĺ<|Ĺ q));let:=Xq q;rw[sz]at z;rcases W7.mp z with z|z
    .rw[z]at this
     show Ϸd this
    rw[Y8.mp z]at this;show Nat.not_succ_lt_self this
   cases n with
   |error e=>show H
   |ok fl₂=>
    cases fl₂ with
    |ret r=>
     let(rfl,hq):=H
     repeat (any_goals (first|assumption|wp_step))
    |_=>show H.elim
  |_=>show hr.elim
end
def vy:Slot "set_iterator" "__next__" "set_iterator.__next__":=
 .of (owner:="set_iterator") (n:="__next__") (by rw[typeLookup_type,builtinLookup_eq_fast];kernel_rfl) ñ ñ ñ
  (by first|show Ê ñ|show Ð ñ) ϓV
def GB:entryFor table "set_iterator.__next__"=Â Builtin.«set_iterator.__next__»:=entryFor_of_tree Ϧg
def Hk:Manifest.owners.lookup (String.ofList ['r','o','t','a','r','e','t','i','_','t','e','s'].reverse)=Â Manifest.sig_set_iterator:=Ϧg
def M8(a:Db):argsOk "set_iterator.__next__" (ϰI [a]):=by delta argsOk;rw[signature?_of (id:="set_iterator.__next__") (n:=['_','_','t','x','e','n','_','_']) (o:=['r','o','t','a','r','e','t','i','_','t','e','s']) Ϧg Hk];kernel_rfl
def Ly:entryFor table "set.__iter__"=Â Builtin.«frozenset.__iter__»:=entryFor_alias (id':="frozenset.__iter__") Ϧg rfl ñ Ϧg
theorem rA:∀{l:À α}{i:Nat}(h:i<l.length),(l[i]::l.eraseIdx i).Perm l|x::l,0,_=>Ϥ0|x::l,i+1,h=>è (List.Perm.swap _ _ _)<|(rA<|Nat.lt_of_succ_lt_succ h).cons x
def Ea(nx:Ě)(s:ϰ3 α):(pickOrder nx s).toList.Perm s.toList:=by
 let key:∀(n k:Nat)(left:À α)(out:ϰ3 α),left.length=n->(pickOrder.go nx n k left out).toList.Perm (out.toList++left):=by
  ext n
  induction n with
  |zero=>ext k left out h;rw[Zbj h,Xf];show Ϥ0
  |succ n ih=>
   ext k left out h;delta pickOrder.go;let a:nx k%left.length<left.length:=ϕ3 Ã;rw[Xb a];apply è (ih _ _ _<|î (Zbm a)) ?_;rw[Array.toList_push,K9M];show(rA a).append_left _
 show ϯi _ rfl
section
variable{w:Ev}{A:Go}{s:Da}
def QH(H:n≠0)(h:∀j,j<n->∀d,Q j {s with drawn:=d}):Ł (choose src n) Q E s:=λΓ p hΓ=>⟨H,h _ (ϕ3<|Nat.pos_of_ne_zero H) _⟩
def D8:∀(n:Nat)(X:À α)(s:Da){Q:Ý (À α) Da},X.length=n->(∀y d,y.Perm X->Q y {s with drawn:=d})->Ł (drawOrder n X) Q E s:=by
 ext n
 induction n with
 |zero=>ext X s Q h q;rw[Zbj h]at q;show Ps<|q [] s.drawn Ϥ0
 |succ n ih=>
  ext X s Q h q;obtain⟨x,r,rfl⟩:∃x r,X=x::r:=by
   cases X with
   |nil=>cases h
   |cons x r=>show(x,r,rfl)
  delta drawOrder;apply Fq<|QH (Nat.succ_ne_zero _) λj a d=>?_;rw[Xb a];apply Fq<|ih _ _ (î<|Zbm a) λy d p=>Ps<|q _ d<|è (p.cons _)<|rA a
def SW(w:Ev)(S:Ix)(e:ϵE)(ep:Nat)(t:SetTable)(d:À Db)(slot i:Nat):Prop:=
 (ϳ3=true/\d=(pickOrder (w.params.setOrder S ep) e).toList.map ň)\/
  (ϳ3=false/\à (!t.plain&&Ç (e.size > 1))/\à (!t.led&& !e.isEmpty)/\d=e.toList.map ň/\ϬC slot=i/\∀k y,t.place[k]?=γ->ϬC (y+1)=k+1)
def itO(f:Db)(S:Ix)(i n ep:Nat):Obj:={cls:=ć "set_iterator",dict:=none,data:=Κ #[f,rawInt i,Ä S,rawInt n,Ϩp ep],slots:=#[]}
def SI(w:Ev)(h:Op)(S I:Ix)(e:ϵE)(ep:Nat)(t:SetTable)(f:À Ix)(d:À Db)(i:Nat):Prop:=
 (∃slot:Nat,h.get? I=Â (itO (Ϩp slot) S i e.size ep)/\SW w S e ep t d slot i)\/
 ∃(T:Ix)(ps:Ò),T∈f/\h.get? I=Â (itO (Ä T) S i e.size ep)/\
  h.get? T=Â {cls:=ć "tuple",dict:=none,data:=ϰm (ϳW (ps.map (Į (rawInt k)))),slots:=#[]}/\(∀k∈ps,k<e.size)/\d=ps.map λk=>(e[k]?.getD (0,æ)).2
def Aq(l:s.heap.get? I=Â {cls:=ć "set_iterator",dict:=none,data:=Κ vs,slots:=#[]})(h:϶e ϲm A.in1 (Builtin.«set_iterator.__next__» (ϰI [Ä I])) (λfin S=>∃v,ϘE/\Q ă S) (λe S=>S.TypeIs e "StopIteration"/\Q none S) s):
  Ł (ϸz<|Ä I) Q E s:=by
 let H:Ϻ7 (Ä I) "set_iterator":=⟨_,l,rfl⟩;delta pyNext;show Fq<|wpAny_attempt<|Ϩv H vy<|Ϙ1<|M8 _
def A5(b:ϷO)(h:∀H e,(∀c o,ϴO=Ø->Ϫ6=Ø)->(∃o,H.get? e=Ø/\o.cls=ć "StopIteration")->E' (Ä e) ϩg):
  Ł (do raiseNew<|<-newExc (.type "StopIteration") []) Q E' s:=by
 apply ϳh;simp only[newExc,newTuple];apply Fq ϬK;apply ϒI;apply ϬK;simp only[raiseNew];apply ϗ9;rw[b];show Fq<|Ps<|wpAny_throw<|ϥs (Ϸv<|Ĺ<|Ĺ q) ((ϱt θ))
def GI(B:ϰW s.heap S b ks es ep t)(W:ϏL vs slot i)(h:∀nx,(þ (ϸy (vs[i]?))->ϏL vs nx (i+1))->Q (vs[i]?.map λv=>(v,nx)) s):Ł ϖ2 Q E s:=by
 delta setNext;apply Fq<|ϹQ ?_;dsimp only;delta setsByText;apply Fq<|Fq<|wpAny_askSetting Δ;change Š (Ï (ϳ3=true) _ _) _;rcases W with⟨H,rfl⟩|⟨H,d,a,rfl,hi,n⟩
 .rw[H,Č,P3 Û]
  delta setWalk;apply Fq<|Fq<|ϹQ ?_;dsimp only;delta setsByText;apply Fq<|Fq<|wpAny_askSetting Δ;change Š (Ï (ϳ3=true) _ _) _;rw[H,Č];apply Fq<|wpAny_askSetting<|Ps Δ;let:=h slot λ_=>Ê ⟨H,rfl⟩;rw[T2,Option.map_map,K7m]at this;show this
 rw[H,ϰ6];change Š (Ï (þ (!t.plain&&Ç ϭS)) _ _) _;rw[d,ϰ6];apply Fq (m:=Ï (þ (!t.led&& !es.isEmpty)) _ _) ?_;rw[a,ϰ6];apply Ps Δ;rw[hi];let Z:ϗE:=ϓg
 by_cases L:i<es.size
 .let e1:Ķ es=some es[i]:=ϦO
  let e:Ķ t.place=some t.place[i]:=by simp[Z,L]
  let:=h (t.place[i]+1) λ_=>Ð ⟨H,d,a,rfl,n i _ e,n⟩;rw[T2,K7m,e1]at this;rw[e1,e];show this
 let e1:Ķ es=none:=ϴd
 let:=h 0 λz=>by rw[T2,K7m,e1]at z;cases z
 rw[T2,K7m,e1]at this;rw[e1];show this
def CB(x:ϷO)(D:S≠I)(F:I∉fp)(B:ϰW s.heap S b ks es ep t)(W:ύU s.heap)(h:∀m,(∀c o,c≠I->ϴO=Ø->m.get? c=Ø)->(þ (ϸy (vs[i]?))->SI w m S I es ep t fp vs (i+1))->Q vs[i]? {s with heap:=m}):Ł (ϸz<|Ä I) Q E s:=by
 rcases W with⟨slot,l,W⟩|⟨T,ps,r,l,y,u,rfl⟩
 .apply Aq l ?_
  delta Builtin.«set_iterator.__next__»;apply Fq Δ;apply ϕk;change Š ϖ3 _;apply Fq<|Fq<|ϹQ Δ;dsimp only;rw[P3 Û];change Š (ϖ2 >>=_) _;apply Fq<|GI B W λnx n=>?_;cases hv:vs[i]? with
  |some v=>
   rw[hv]at h n;simp only[Zae];apply Fq<|K8J l Û ϑw;apply Fq<|K8J (s:=ϩf) a Û λg j f=>Ps ⟨v,rfl,h g (ϴr<|è (f.2 c hc)<|è όn q) λ_=>Ê ⟨nx,j,n rfl⟩⟩
  |none=>
   rw[hv]at h;simp only[Zat];apply Fq<|K8J l Û ϑw;show A5 (s:=ϩf) x λg e K he=>⟨he,h g (ϴr<|ϫn<|è όn q) ϶t⟩
 apply Aq l ?_;delta Builtin.«set_iterator.__next__»;apply Fq Δ;apply ϕk;change Š ϖ3 _;apply Fq<|Fq<|ϹQ Δ;dsimp only;rw[P3 Û];change Š (ϐl<|Ä T) _;apply Fq<|K8D y rfl ?_;dsimp only;rw[Xz];cases hv:ps[i]? with
 |some k=>
  let K:=u k<|Y4 hv;let e1:Ķ (ps.map (Į (Ϩp Þ))).toArray=Â (Á Þ 0):=by simp[hv,rawInt]
  rw[T2,hv]at h;rw[e1];dsimp only;apply ϳh;delta setNextDrawn;apply Fq<|ϹQ ?_;dsimp only;rw[Xz,Xz,P3 Û];let p:es[k]?=some es[k]:=Ű K
  rw[p];apply Δ;apply Fq<|K8J l Û λd a H=>Ps ϏG;let:=h d (ϴr<|è όn q) λ_=>Ð ⟨T,ps,r,a,è (H.2 T λz=>F (z▸r)) y,u,rfl⟩;rw[Zae,p]at this;show this
 |none=>
  let e1:Ķ (ps.map (Į (Ϩp Þ))).toArray=none:=ť hv
  rw[T2,hv]at h;rw[e1];dsimp only;apply Fq<|K8J l Û ϑw;apply Fq<|K8J (s:=ϩf) a Û λg j f=>?_;show A5 (s:=(ϲx g)) x λC e K he=>⟨he,h C (ϴr<|ϫn<|è (f.2 c hc)<|è όn q) ϶t⟩
end
section
variable{w:Ev}{s:Da}{es:ϵE}
def KU(h:∀v∈vs,∃n tk,v=Á n tk):ϖE:=by
 induction vs with|nil=>show í|cons v r ih=>let(n,tk,rfl):=h v P0;show ð n tk<|ih λv H=>h v<|Ā H
def Xe.ints(B:ϰW h S b ks es ep t)(p:vs.Perm (ϑA ň)):ϖE/\(vs.map vI).Perm ks:=by
 apply(KU λv V=>?_,è (p.map vI)<|Ù W5 B.pm);let(e,he,rfl):=Zc.mp<|p.mem_iff.mp V;obtain⟨⟨k,H,_⟩,_⟩:=B.el e he;let(tk,e):=Value.isInt_shape H;show(k,tk,e)
def KN(e:ϵE):Ó (ń e.size) (λk=>(e[k]?.getD (0,æ)).2)=e.toList.map ň:=by
 apply Y_;ext i;rw[T2,T2];by_cases h:i<e.size
 .rw[Zs h]
  simp[h]
 rw[Ye ϴd,Ye ϴd];rfl
def F_(B:ϰW s.heap S (! ϳ3) ks es ep t)(h:∀a I f v d,SI w a S I es ep t f v 0->(∀c o,ϴO=Ø->a.get? c=Ø)->v.Perm (ϑA ň)->(∀c∈I::f,s.heap.objs.size<=c)->I∉f->Q (Ä I) ϕH):
  Ł (pyIter<|Ä S) Q E s:=by
 let T:Ϻ7 (Ä S) "set":=(ϱt B.ob);apply ϙL<|ϙ7<|F.args_set_iter_1 _;delta Builtin.«frozenset.__iter__»;apply ϙO Δ;apply ϙV<|Fq<|Fq<|ϹQ<|Ps Δ;dsimp only;delta setDrawn;apply Fq<|Fq<|ϹQ ?_;dsimp only;delta setsByText;apply Fq<|Fq<|wpAny_askSetting Δ;apply Δ;change Š (Ï (þ (! ϳ3&&(!t.plain&&Ç ϭS))) _ _) _;let Z:ϗE:=ϓg
 let l:Ą es.size:=ϩh B.sz;by_cases hc:þ (! ϳ3&&(!t.plain&&Ç ϭS))
 .rw[Os hc]
  apply Fq<|D8 _ _ _ Wu λY d H=>?_;let yl:Y.length=es.size:=ϲK H.length_eq Wu
  apply Fq (ϖ8 ?_<|Ϯv K1 yl);apply ϔP<|Ĺ B.ob;apply ϓj<|K7v<|Ps ⟨_,rfl,"set_iterator",_,ϱt θ,vy.lookup,?_⟩;apply ϥs [s.heap.objs.size] (Y.map λk=>(es[k]?.getD (0,æ)).2) d (Ð ⟨_,Y,ϩ9,θ,Ĺ θ,λk K=>X4.mp<|H.mem_iff.mp K,rfl⟩) (Ϸv<|Ĺ<|Ĺ q) (ϰy KN<|H.map _) Ϫb ?_
  .rcases W7.mp hc with rfl|hc
   .rw[K8l];show ϱM
   rw[Y8.mp hc];show õ
  rw[Y8,K8l];show Zbw _
 rw[P3 hc];apply Fq Δ;apply ϔP B.ob;apply ϓj<|K7v<|Ps ⟨_,rfl,"set_iterator",_,ϱt θ,vy.lookup,?_⟩;let fin:∀v,ϏL v 0 0->v.Perm (ϑA ň)->Q (Ä s.heap.objs.size) (ϲx (Ţ (itO (Ϩp ϶2) S 0 es.size ep))):=λv W p=>ϥs [] v s.drawn (Ê ⟨0,θ,W⟩) (Ϸv<|Ĺ q) p (λc hc=>Ù (Y8.mp hc) õ) List.not_mem_nil;cases hw:w.params.followText "set-order" with
 |true=>show fin _ (Ê (ϧ4 hw))<|Ó (Ea _ _) _
 |false=>
  rw[hw]at hc;let D:à (!t.plain&&Ç ϭS):=ť hc
  let R:Ris t.place:=by
   cases H:t.plain with
   |true=>show(B.tb.2 H).1
   |false=>
    rw[H]at D;let:es.size<=1:=ϘC
    match hq:t.place.toList with
    |[]=>show ϔB;rw[hq];show í
    |[x]=>show ϔB;rw[hq];show Zbv _ _
    |x::y::r=>
     let:=ϱT hq;rw[K8t]at this;simp at this;lia
  apply fin _ (Ð ⟨hw,D,?_,rfl,?_,λk y=>Bz R⟩) Ϥ0
  .rw[show þ t.led by rw[B.tb.1,hw];rfl]
   rfl
  let(e,b):=uI R 0;rcases Zcm (ϬC 0)with z|z
  .exact z
  show Ć ((b 0 t.place[0] Û).mp z)<|Nat.not_lt_zero _
end
section
variable{w:Ev}{A:Go}{s:Da}{es:ϵE}{vs:À Db}
abbrev lsO(s:ϰ3 Db)(c:Nat):Obj:={cls:=ć "list",dict:=none,data:=ϰm s c,slots:=#[]}
def SI.at(W:SI w h S I es ep t fp vs i)(k:∀c o,c=I\/c∈fp->όl=Ø->h'.get? c=Ø):ύU h':=by
 rcases W with⟨slot,l,W⟩|⟨T,ps,H,l,y,r⟩
 .exact Ê ⟨slot,ϰh (Ê rfl) l,W⟩
 show Ð ⟨T,ps,H,ϰh (Ê rfl) l,ϰh (Ð H) y,r⟩
def Xe.at(B:ϰW h S b ks es ep t)(k:∀o,h.get? S=Ø->h'.get? S=Ø):ϰW h' S b ks es ep t:=(Ϙo (k _ B.ob))
theorem L9{R:Ý Result Da}(res:Db)(y:ώA)(H:S≠I)(x:I∉fp)(l:L≠I)(m:L≠S)(n:L∉fp)(N:Ą vs.length):
  ∀(k i:Nat)(s:Da)(c:Nat),vs.length-i=k->i<=vs.length->ϰW s.heap S b ks es ep t->ύU s.heap->s.heap.get? L=Â (lsO (ϳW (vs.take i)) c)->
   (∀h G,(∀a o,a≠I->a≠L->Ϧt=Ø->Τ=Ø)->h.get? L=Â (lsO vs.toArray G)->R (.ok<|.ret res) ϭu)->
   ϵk ϲm A (ğ "list.extend.loop" (ϰI [Ä L,Ä I,res])) R s:=by
 ext k
 induction k with
 |zero=>
  ext i s c D hi B W j u;apply ϸK F.entry_extend_loop;rw[ϨV F.plain_extend_loop];change ϥW (ϸz (Ä I)) s;apply Fq<|CB y H x B W λh K _=>?_;rw[Ye Ã];rw[K90 Ã]at j;show Ps<|ϙY<|K _ _ l j
 |succ k ih=>
  ext i s c D hi B W j u;let T:i<vs.length:=Ã
  apply ϸK F.entry_extend_loop;rw[ϨV F.plain_extend_loop];change ϥW (ϸz (Ä I)) s;apply Fq<|CB y H x B W λh K p=>?_;let e:Ķ vs=some vs[i]:=Xb T;rw[e]at p⊢;let d:=K _ _ l j;change ϥW (updateSeq L (·.push vs[i])) _;let M:=K7f h L (ϻS<|vs[i]);let Z:(vs.take i).toArray.size=i:=ϴd
  obtain⟨C,L2⟩:∃C,(h.update L (ϻS<|vs[i])).get? L=Â (lsO (ϳW (vs.take<|i+1)) C):=⟨_,by
   let E:(vs.take i).toArray.push vs[i]=ϳW (vs.take<|i+1):=ϱZ (Zbf T)
   rw[<-E];show K7n (ϻS<|vs[i]) d rfl⟩
  apply Fq (ώI ϭu d rfl (Ps ⟨ϭR F.plain_extend_loop,ih (i+1) _ C Ã T (B.at λo q=>è (M.2 S m.symm)<|K S o H q) ((p rfl).at λa o f q=>è (M.2 a ϶X) q) L2 λr C J Q=>u r C (λa o g v q=>J a o g v<|è (M.2 a v)<|K a o g q) Q⟩) (by rw[Z];lia)<|by rw[Array.size_push,Z];lia);rcases f with f|f
  .exact l (z▸f)
  show n (z▸f)
def GH(t:Ϻ7 (Ä r) "set")(h:Q false s):Ł (Builtin.List.listLengthHint<|Ä r) Q E s:=by
 delta Builtin.List.listLengthHint;apply Fq<|ϗ4 PySem.F.slot_set_len.lookup ?_;generalize i:("set.__len__":String)=id0
 wp_delta
 rw[ω (splitId id0=some ("set","__len__")) (by subst i;decide+kernel)];subst i;apply Fq<|wpAny_isInstance (T:="set") (b:=true) t ϓV ?_;apply wpAny_ite_split (λa=>absurd a á) ϵf;apply wpAny_ite_split ϵf λa=>Ć ñ a;apply Fq<|wpAny_typeOf t ?_;show Ps h
def Bl(C:ϷO)(B:ϰW s.heap S (! ϳ3) ks es ep t)(h:∀v H d,IntsAre v (v.map vI)->(v.map vI).Perm ks->v.length=es.size->s.heap.objs.size<=H.objs.size->(∀c o,ϴO=Ø->Ϫ6=Ø)->Q v ϕI):Ł (collect<|Ä S) Q E s:=by
 delta collect;apply Fq<|wpAny_runValue<|ϸK F.entry_proto_collect;change ϶e _ _ (do again<|.builtin "list.__iadd__" ⟨[<-newList [],.ref S],[]⟩) _ _ s;apply Fq<|Ϙm<|Ps ⟨ώg ñ,ϸK F.entry_list_iadd⟩;change Š (Builtin.List.listExtendWith (Ä s.heap.objs.size) (Ä S)<|Ä s.heap.objs.size) ((ϲx (Ţ ϦN)));delta Builtin.List.listExtendWith;let j:ϰW (Ţ ϦN) S (! ϳ3) ks es ep t:=B.at λo q=>Ĺ q;let T:Shared.TypeIs (ϲx (Ţ ϦN)) (Ä S) "set":=(ϱt j.ob)
 let lt:=Xq B.ob;apply Fq<|wpAny_typeOf T ?_;let i:à (Builtin.List.listSameRef (Ä s.heap.objs.size) (Ä S)):=by simp[Builtin.List.listSameRef];show Zbn lt
 let m:à (Ϥ8 "set"==Ϥ8 "list"):=á
 let r:à (Ϥ8 "set"==Ϥ8 "tuple"):=á
 simp only[i,m,r,Bool.or_false,Zbo,if_false];apply Fq<|F_ (s:=(ϲx (Ţ ϦN))) j λH I P v d W k p a y=>?_;let hsz:ϰA (Ţ ϦN)=ļ:=ϹB;rw[hsz]at a;apply Fq<|ϸ8<|GH (ϱt (ϰh j.ob)) ?_;change Š (rule "list.extend.makes-room" >>=λ_=>Builtin.List.listTouch (Ä s.heap.objs.size) >>=λ_=>again<|ğ "list.extend.loop" (ϰI [Ä s.heap.objs.size,Ä I,Ä s.heap.objs.size])) _;apply ϫc ?_;apply ϳh;change Š (ϕl (·.push æ) >>=λ_=>ϕl (·.pop)) _;let l:H.get? s.heap.objs.size=Â ϦN:=ϰh θ;apply Fq<|ώI ϕI l rfl ?_;let D:=K7f H s.heap.objs.size (ϻS Value.none);let L2:=K7n (ϻS Value.none) l rfl;apply ώI {s with heap:=_,drawn:=d} L2 rfl ?_;let G:=K7f (ϔ6<|ϻS Value.none) s.heap.objs.size ύY;let g:=K7n ύY L2 rfl;let n:s.heap.objs.size≠I:=λz=>Œ (a I P0)
 let N:s.heap.objs.size∉P:=λz=>Œ (a _<|Ā z)
 let V:v.length=es.size:=by rw[p.length_eq,K1,K8t]
 let k3:∀c o,c≠s.heap.objs.size->Ϫ6=Ø->((ϔ6<|ϻS Value.none).update s.heap.objs.size ύY).get? c=Ø:=ϴr (è (G.2 c hc)<|è (D.2 c hc) q);apply Ps ⟨ϭR F.plain_extend_loop,L9 (b:=! ϳ3) (ks:=ks) (Ä s.heap.objs.size) (by simp[C]) (Ym<|Zt lt<|Nat.le_of_succ_le<|a I P0) y n (Zbn lt) N (Ù V<|ϩh B.sz) _ 0 _ _ rfl ϴw (j.at λo q=>k3 S o (Ym lt)<|ϰh q) (W.at (ϴr (k3 c o ϶X q))) g λu J K L=>?_⟩
 .rcases hc with hc|hc
  .exact n (z▸hc)
  show N (z▸hc)
 change Ł (load s.heap.objs.size >>=_) _ _ _;apply Fq<|wpAny_load L Δ;let f:=B.ints p;show h v u d f.1 f.2 V (Zba<|Xq L) λc o q=>ϫn (λz=>by let x:=a I P0;let e:=Xq q;rw[z]at e;show Ć (Zt e<|Nat.le_of_succ_le x) Ϸd) (Ym<|Xq q)<|k3 c o (Ym<|Xq q)<|ϰh<|Ĺ q
def BJ(j:ϷO)(B:ϰW s.heap S (! ϳ3) ks es ep t)(i:es.size<64)(h:∀(a:Op)(d:Drawn)(p:Ix)(out:À Db)(c:Nat)(ns:À Int),ϧc out->ns.Perm ks->ns.Pairwise ϺX->a.get? p=Â (lsO out.toArray c)->s.heap.objs.size<=p->(∀c o,ϴO=Ø->a.get? c=Ø)->Q (Ä p) ϕH):
  Ł (call (ğ "sorted") [Ä S]) Q E s:=by
 apply Calls.call_function_entry kind_sorted plain_sorted entry_sorted (args_sorted1 _) ?_;delta Builtin.«sorted»;apply ϙ3 Δ;apply Fq<|Bl (by simp[j]) B λv H d I pv lv T k=>?_;apply Fq (Ϙm ?_<|Ù lv (ϩh B.sz));let lt:=Xq B.ob;let U:(H.push ϕm).get? H.objs.size=some ϕm:=θ;apply Fq<|ϸ8<|K7s slot_list_sort ⟨_,U,rfl⟩ entry_list_sort (list_sort_tree U I Ã λout n e f g=>ϏG)<|args_list_sort _;let(c,hc):=sortedHeap_at (out:=out) U;let old:∀c o,ϴO=Ø->c<H.objs.size:=Ϸv (Xq<|k c o q);apply Ps ⟨_,rfl,h _ d H.objs.size out.toList c n e (f.trans pv) g (Ù K7i hc) T λb o q=>?_⟩;rw[sortedHeap_old (Ym<|Ϻ0 q)<|Ù size_push' (K8f<|Ϻ0 q)];show Ĺ<|k b o q
end
def NT(K:At):À V->Ý Hp VK:=ϸq (∃(a:Ix)(ns:À Int),s=[Ä a]/\ϱ7 ϰw/\(ϤL 4000/\Ì (ϸH [])<64)/\∀n:À Int,n.Perm (ϸH [])->n.Pairwise ϺX->∀l,ϤT->Q (Ä l) (Ę l<|ä ϦD))
def FC:ϴC "set":=Ϧg
def MU{p p2 pos P:Pos}(hc:ż)(l:Ħ "sorted")(m:ϳe "sorted")(v:Ϙh=some (ğ "sorted"))(hg:Ħ "set")(M:ϳe "set")(x:ϰM [a] ta)(C:Ñ (Õ [a]=ϱj π))(S:Ñ (Õ [ϳo "set" [a]]=ϱj (ϲ3 (ϳo "set" [a])))):
  ç (ô (ú "sorted" p) [ô (ú "set" p2) [a] P] pos) (tCB (NT X.K) ta):=by
 ext N s J H Q I h;apply K8h<|gJ I l m v ?_;apply ϕL ?_ S rfl;rw[S];change Š (spliced<|ϰv (ϳo "set" [a]) (ϰU [])) s;apply ϩk ?_;apply Call_<|ϦW FC<|Ϲ4 (x P N s J H _ I h) C rfl;let(vs,O,g,R,F):=zz;let(a,ns,rfl,z,W,q):=F;let(u,rfl,U):=Vals.one R;cases U;let(i,G,pl,Y):=g.list z;let hi:ϩO:=intsAre_of G;let L:όA i.length:=ώN;apply JK ϱV pl.isList hi (by rw[Ys];delta scanBound;lia) λj tk E ep t B K=>?_;apply ϩe ?_;let T:E.size<64:=by
  let j:=B.pm.length_eq;rw[K1,K8t]at j;lia
 apply BJ (s:={s1 with heap:=j,toks:=tk}) ϱV B T λw d p out c n k A r y hsz D=>?_;let e:s1.heap.objs.size<=p:=Zd (Zba<|Xq B.ob) hsz;let Z:Ą (Ì ϦD):=ϪZ K1 A.length_eq K7x
 let f:=g.laid (h':=w) (t':=tk) (o:=ä ϦD) (ϱk<|D b o<|K b o e) e ⟨Z,out,c,L3.j_ k,y⟩;show(Ä p,_,(f.ok,f.os,f.bare,f.base,f.loc,f.cell,f.free,f.Xj,f.pin,f.Uf,f.len),rfl,q n A r _<|g.Uf.fresh e)
end L2
namespace L3
open PySem L2 PySem.Spec PyProof.Rows PySem.W
def ddI(ns:À Int):À Int:=gY<|ϸH []
def Bh:À Gc->č
 |[.list ds]=>match cu ds with
  |some ns=>Ï (ϤL 4000/\Ì (ϸH [])<64) (.ok (Ĩ<|Ó (ddI ns) int)) È
  |_=>È
 |_=>È
section
variable{M:Mx}{X:Cx}
set_option tactic.hygienic true in
def LF(r:ŕ):ϦV NT Bh:=by
 rw[r];ext x d F H f Q s R p;delta Bh at p;split at p
 .split at p
  .rename_i ns e
   let(a,rfl,h):=όi;split at p
   .rename_i L
    apply(a,ns,rfl,h,L,λn b c l L=>?_);let e:n=ddI ns:=ϒV _<|eU _;subst e;show Ϸ3 (su _) L
   show p.elim
  show p.elim
 show p.elim
def KH{p p2 pos P:Pos}(hc:ż)(g:Ħ "sorted")(m:ϳe "sorted")(V:Ϙh=some (ğ "sorted"))(hg:Ħ "set")(H:ϳe "set")(A:ϱ4 [a])(s:Ñ (Õ [a]=ϱj π))(S:Ñ (Õ [ϳo "set" [a]]=ϱj (ϲ3 (ϳo "set" [a])))):
  â (ô (ú "sorted" p) [ô (ú "set" p2) [a] P] pos) (eB Bh al):=λr h=>ϕb MU ((Ň (J9 (LF r) q)))
end
def yz(a:Fe):Fe:=λb=>ã (a Ϫ4) λx=>match x with
 |.od L0=>Ï (ā L0.all ϭy) (ϵZ L0) È
 |_=>È
section
variable{X:Cx}
def Kf(h:ê (ϩG<|eC æ) σ H Q):Ie (ê fa) (ê fb) σ H Q:=
 CV (QU h) λx b⟨a,ex,d,q⟩=>⟨a,ex,d,CV q λy c j=>d_c (λ_ _=>.Re) j⟩
def LN(U:ϷM 1)(A:â a fa)(B:â b fb)(h:Ñ (attributeBase a "get" X.env π=π))(f:Ñ (ϲN cpos [b]))(l:Ñ ϥR)(j:Ñ (ϴH (Õ [b])=ϱj ϲV)):
  â (ô (ĝ a "get" apos) [b] cpos) (ϩG<|eC æ):=ο Y1 (Hm U Ϲo Ϲq ⟨h,f,l,j⟩) Kf
def Jw{K:At}{F b:Hp}:∀{v:À V}{d:À Gc},d.all flat=true->Ū v d->B1 K b v d:=by
 ext v
 induction v with
 |nil=>ext d _ r;cases r;show í
 |cons a v ih=>
  ext d h r;cases r with|cons r q=>
  rw[K7t,Yt]at h;show ð (xc h.1 r)<|ih h.2 q
def Ri(h:ê (yz fa) σ H Q):ê fa σ H Q:=by
 let(F,g,e,S,p):=h;apply(H,erase g,[],S.erase,ϤO ϱ0 λx X v i c j e1 r w=>?_);cases x with
 |sh d=>show X.elim
 |ot xs=>show X.elim
 |ol xs=>show X.elim
 |oi _ _ _=>show X.elim
 |pl _ _=>show X.elim
 |od L0=>
  let P:ÿ e Θ (Ï (ā L0.all ϭy) (ϵZ L0) È):=X;by_cases f:ā L0.all ϭy
  .rw[Os f]at P
   let(O,T,R):=r;cases O with
   |@od a vs _ h1 h2 h3=>
    let na:ϳE:=w a P0;apply P (Ä a) F c [a] ⟨ţ,e1.hh,ϦG e1.hh,ϴZ⟩ ⟨.od h1 h2<|Jw (by rw[K82];show f) h3,Û,϶N⟩ ϶N
    .let:b=a:=ϳq
     rw[this];show S.same.free na
    let:b=a:=ϳq
    rw[this];show na
  rw[P3 f]at P;show P.elim
def Hb:ϰT (ϰD<|y=.Re/\ϫH (Ç<|x=.Re)) GX:=by
 ext x y d D F H f Q s R Y p;delta GX at p;split at p
 .cases Y
  apply(rfl,?_);cases R<;>show ϸM ϧ0
 show p.elim
def CY(A:â a fa):â a (yz fa):=λr m p s b H Q I h=>Ϲo p s b H Q I<|Ri h
end
end L3
namespace B
def IsL(n:Nat)(d:Nat->ι)(T:Int)(l:ι):Prop:=l (n-1)=T/\∀k,k+1<n->(∀j,k<j->j<n->l k<=l j-d k j)/\∃j,k<j/\j<n/\l k=l j-d k j
end B
namespace B
inductive F where
 |nil
 |cons (k:Nat) (c r:F)
namespace F
def pre:F->Ò|nil=>[]|cons k c r=>k::(ϳV++Ϸp)
def roots:F->Ò|nil=>[]|cons k _ r=>k::roots r
def cQ:F->Ò|nil=>[]|cons k c r=>cQ r++(k::cQ c)
def app:F->F->F|nil,g=>g|cons k c r,g=>ϲ1<|app r g
def Zp:F->F|nil=>nil|cons k c r=>app (Zp r)<|ϥh (Zp c) nil
def map(h:Ě):F->F|nil=>nil|cons k c r=>cons (h k) (Ϲr c)<|Ϲr r
def Yv(ch:Nat->Ò):F->Prop|nil=>True|cons k c r=>ch k=roots c/\ϹJ c/\ϹJ r
def Xw(e:ι):Int->F->Prop|_,nil=>True|p,cons k c r=>e k=p/\ϹN Þ c/\ϹN p r
def pre_app:∀f g:F,pre (϶Z g)=ϰi++Ϸq:=by
 ext y
 induction y with|nil=>ext g;show rfl|cons k c r Pi I4=>ext g;rw[app,pre,pre,I4 g,y_,K9M]
def Ay:∀f g:F,cQ (϶Z g)=cQ g++cQ f:=by
 ext y
 induction y with|nil=>ext g;rw[app,cQ,Xf]|cons k c r Pi I4=>ext g;rw[app,cQ,cQ,I4 g,K9M]
def uw:∀f g:F,roots (϶Z g)=ϫz++roots g:=by
 ext y
 induction y with|nil=>ext g;show rfl|cons k c r Pi I4=>ext g;rw[app,roots,roots,I4 g,y_]
def Mi:ϱa (϶Z nil=f):=by
 ext y
 induction y with|nil=>show rfl|cons k c r Pi I4=>rw[app,I4]
def Fx:∀f g h:F,app (϶Z g) h=϶Z (app g h):=by
 ext y
 induction y with|nil=>ext g h;show rfl|cons k c r Pi I4=>ext g h;rw[app,app,app,I4 g h]
def MK:∀f g:F,Zp (϶Z g)=app (Zp g) ϥe:=by
 ext y
 induction y with|nil=>ext g;rw[app,Zp,Mi]|cons k c r Pi I4=>ext g;rw[app,Zp,Zp,I4 g,Fx]
def Ma:ϱa (Zp ϥe=f):=by
 ext y
 induction y with|nil=>show rfl|cons k c r Pi I4=>rw[Zp,MK,Zp,Zp,Pi,I4];rfl
def yV:ϱa (pre ϥe=cQ f):=by
 ext y
 induction y with|nil=>show rfl|cons k c r Pi I4=>rw[Zp,pre_app,I4,cQ,pre,Pi,pre,Xf]
def G_(f:F):cQ ϥe=ϰi:=by rw[<-yV ϥe,Ma]
def yM{ch:Nat->Ò}:∀f g:F,ϹJ (϶Z g)↔ϹJ f/\ϹJ g:=by
 ext y
 induction y with|nil=>ext g;rw[app,Yv];simp|cons k c r Pi I4=>ext g;rw[app,Yv,Yv,I4 g];simp only[and_assoc]
def zT{e:ι}{p:Int}:∀f g:F,ϹN p (϶Z g)↔϶V/\ϹN p g:=by
 ext y
 induction y with|nil=>ext g;rw[app,Xw];simp|cons k c r Pi I4=>ext g;rw[app,Xw,Xw,I4 g];simp only[and_assoc]
def iF(h:Ě):ϱa (pre (Ϲr f)=Ó ϰi h):=by
 ext y
 induction y with|nil=>show rfl|cons k c r Pi I4=>rw[map,pre,Pi,I4,pre,L4,Wx]
def Gb(h:Ě):ϱa (cQ (Ϲr f)=Ó (cQ f) h):=by
 ext y
 induction y with|nil=>show rfl|cons k c r Pi I4=>rw[map,cQ,Pi,I4,cQ,Wx,L4]
theorem snoc:ϱa (f≠nil->∃g k c,f=app g (ϲ1 nil))
 |nil,h=>ϲv h
 |cons k c nil,_=>⟨nil,k,c,rfl⟩
 |cons k c (cons k' c' r'),_=>by
  let(g,a,b,e):=snoc Ϻj ϶u;show(ϲ1 g,a,b,by rw[app,e])
def sG{e:ι}{q:Int}:ϦS ϶V (q≠p->(∀j∈ϰi,ą≠q)->é ϰi (λj=>Ç<|e j=q)=[]):=by
 ext x y
 revert x
 induction y with
 |nil=>ext _ _ _ _;show rfl
 |cons k c r Pi I4=>
  ext p h P H;let(a,b,d):=h;rw[pre,K8N,P3 (by rw[Yz,a];exactλz=>P z.symm),Zm,Pi _ b (λz=>H k ϬV z.symm) (λj J=>H j ϬZ),I4 p d P λj J=>H j ϬZ];rfl
def Hj{e:ι}:ϦS ϶V ((∀j∈ϰi,ą≠p)->é ϰi (λj=>Ç<|e j=p)=ϫz):=by
 ext x y
 revert x
 induction y with
 |nil=>ext _ _ _;show rfl
 |cons k c r Pi I4=>
  ext p h q;let(H,a,b):=h;rw[pre,K8N,Os (by rw[Yz,H]),Zm,sG _ c a (λz=>q k ϬV z.symm) (λj J=>q j ϬZ),I4 p b (λj J=>q j ϬZ),roots];rfl
def uv{ch C:Nat->Ò}:ϱa ((∀q∈ϰi,ŭ=C q)->Yv C f->ϹJ f):=by
 ext y
 induction y with|nil=>ext _ _;show trivial|cons k c r Pi I4=>ext h hc;let(H,a,b):=hc;show(è (h k ϬV) H,Pi (όB ϬX) a,I4 (όB ϬX) b)
def CC{e:ι}:ϦS ϶V ((ϰs ϰi)->(∀j∈ϰi,ą≠p)->Yv (λq=>é ϰi λj=>Ç<|e j=Ë q) f):=by
 ext x y
 revert x
 induction y with
 |nil=>ext _ _ _ _;show trivial
 |cons k c r Pi I4=>
  ext p h nd P;let(d,a,b):=h;rw[pre,Yj,Ya]at nd;let(n,N,g,i):=nd;let H:Þ≠p:=P k ϬV
  let K:∀j∈ϳV,ą≠Þ:=λj m z=>n (by
   let:j=k:=Ã
   rw[<-this];simp[m])
  let R:∀j∈Ϸp,ą≠Þ:=λj m z=>n (by
   let:j=k:=Ã
   rw[<-this];simp[m])
  let C:∀j∈ϳV,ą≠p:=λj m=>P j ϬX;let pr:∀j∈Ϸp,ą≠p:=λj m=>P j ϬX;let split:∀q:Nat,Ë q≠p->é (pre<|ϲ1 r) (λj=>Ç<|e j=Ë q)=é ϳV (λj=>Ç<|e j=Ë q)++é Ϸp (λj=>Ç<|e j=Ë q):=λq Q=>by rw[pre,K8N,P3 (by rw[Yz,d];exactλz=>Q z.symm),Zm]
  apply(?_,uv c (λq m=>?_)<|Pi _ a N K,uv r (λq m=>?_)<|I4 p b g pr)
  .change é (pre<|ϲ1 r) (λj=>Ç<|e j=Þ)=roots c
   rw[split k H,Hj _ c a K,sG p r b H R,Xf]
  .change é (pre<|ϲ1 r) (λj=>Ç<|e j=Ë q)=é ϳV (λj=>Ç<|e j=Ë q)
   rw[split q<|C q m,sG p r b (C q m) (λj M z=>i q m j M Ã),Xf]
  change é (pre<|ϲ1 r) (λj=>Ç<|e j=Ë q)=é Ϸp (λj=>Ç<|e j=Ë q);rw[split q<|pr q m,sG _ c a (λz=>R q m z) (λj M z=>i j M q m Ã),K9B]
end F
end B
namespace B
namespace F
set_option bootstrap.genMatcherCode true in
def mq:ϱa ((cQ f).Perm ϰi):=by
 ext y
 induction y with|nil=>show List.Perm.refl _|cons k c r Pi I4=>rw[cQ,pre];let h:=Pi;let H:=I4;let:(cQ r++k::cQ c).Perm (k::(cQ r++cQ c)):=List.perm_middle;apply this.trans<|List.Perm.cons k ?_;show è (H.append h) List.perm_append_comm
structure Pf(n:Nat)(e:ι)(c:F):Prop where
 pre:0::ϳV=ϴq
 root:e 0=-1
 eld:ϹN 0 c
variable{n:Nat}{e:ι}{c:F}
def full(c:F):F:=cons 0 c nil
def Pf.pos(h:όo):0<n:=by
 let:=ϱT h.pre;rw[Xt,Wu]at this;lia
def Pf.Yw(h:όo):ϰ8 ϧx=ϴq:=by delta full;rw[F.pre,F.pre,Xf];show h.pre
def Pf.eldF(h:όo):ϹN (-1) ϧx:=⟨h.root,h.eld,trivial⟩
def Pf.con(h:όo):Yv (λq=>é ϴq λj=>Ç<|e j=Ë q) ϧx:=ϴF (CC (-1) ϧx h.eldF (Ù h.Yw K89) (λj _=>Ã)) h.Yw
def R(c:F):Ò:=cQ ϧx
def g(c:F)(k:Nat):Nat:=ϳi (R c) k
def e1(e:ι)(c:F)(i:Nat):Int:=match Ķ (R c) with
 |some k=>Ï (e k<0) (-1) (g c (ē (e k)):Int)
 |none=>-1
def gi(c:F)(p:Int):Int:=Ï (p<0) (-1) (g c p.toNat:Int)
def c1(c:F):F:=map (g c)<|Zp c
theorem kY{e:ι}:ϦS ϶V (∀k∈Ÿ,e k=p\/ϵn (j∈Ÿ/\e k=ą))
 |_,nil,_,_,m=>Ϥq
 |p,cons a c r,h,k,m=>by
  let(H,d,g):=h;rw[F.pre]at m;rcases W7.mp m with rfl|m
  .exact Ê H
  .rcases P1.mp m with m|m
   .rcases kY _ c d k m with z|⟨j,J,b⟩
    .exact Ð ⟨a,Ù F.pre P0,z⟩
    .exact Ð ϔC
   .rcases kY p r g k m with z|⟨j,J,b⟩
    .exact Ê z
    .exact Ð ϔC
end F
end B
namespace B
namespace F
def path:F->Ò|nil=>[]|cons k c nil=>k::path c|cons _ _ (cons k c r)=>path<|ϲ1 r
def oJ:F->Nat->Nat->F|f,0,x=>϶Z<|cons x nil nil|nil,_+1,_=>nil|cons k c nil,d+1,x=>ϥh (oJ c d x) nil|cons k c (cons k' c' r'),d+1,x=>ϲ1<|oJ Ϻj (d+1) x
theorem yw:∀(f:F)(x:Nat),path (϶Z<|cons x nil nil)=[x]|nil,x=>rfl|cons k c nil,x=>rfl|cons k c (cons k' c' r'),x=>by let:=yw Ϻj x;rw[app]at this⊢;rw[app];rw[path];show this
def mG{e e':ι}:ϦS (∀k∈Ÿ,e' k=e k) (϶V->Xw e' p f):=by
 ext x y
 revert x
 induction y with|nil=>ext _ _ _;show trivial|cons k c r Pi I4=>ext p h hc;let(H,a,b):=hc;show(è (h k<|Ù F.pre P0) H,Pi _ (όB ϬL) a,I4 p (όB ϬL) b)
def GZ{k d x:Nat}{c r:F}:∃K G R,oJ (ϲ1 r) (d+1) x=cons K G R:=by
 cases r with
 |nil=>show(_,_,_,ϱl oJ)
 |cons a b t=>show(_,_,_,ϱl oJ)
theorem vZ{e:ι}{x:Nat}:∀(f:F)(d:Nat)(p:Int),d<=Ì (path f)->϶V->e x=(if d=0 then p else((path f)[d-1]?.getD 0:Int))->
  ϰ8 ϐ9=Ÿ++[x]/\path ϐ9=ζ (path f) d++[x]/\ϹN p ϐ9
 |f,0,p,_,h,hx=>by rw[oJ,pre_app,yw,zT];show(rfl,rfl,h,ť hx,trivial,trivial)
 |nil,d+1,p,hd,_,_=>by rw[path]at hd;simp at hd
 |cons k c nil,d+1,p,hd,h,hx=>by
  let(H,g,j):=h;rw[path,Xt]at hd;let i:=vZ (e:=e) (x:=x) c d Þ Ã g (by
   rw[hx,P3 Ã,path];by_cases D:d=0
   .subst D
    rfl
   .obtain⟨m,rfl⟩:∃m,d=m+1:=⟨d-1,Ã⟩
    rw[P3 Ã]
    rfl)
  rw[oJ,F.pre,F.pre,i.1,F.pre];apply(Ű F.pre,?_,H,i.2.2,trivial);rw[path,path,i.2.1,K7g,y_]
 |cons k c (cons k' c' r'),d+1,p,hd,h,hx=>by
  let(H,g,j):=h;let P:path (ϲ1 Ϻj)=path Ϻj:=by rw[path]
  rw[P]at hd hx;let i:=vZ (e:=e) (x:=x) Ϻj (d+1) p hd j hx;let(a,b,t,q):=GZ (k:=k') (d:=d) (x:=x) (c:=c') (r:=r');rw[oJ,F.pre,i.1,P];apply(?_,?_,H,g,i.2.2)
  .change k::(ϵh++(ϰ8 Ϻj++[x]))=(k::(ϵh++ϰ8 Ϻj))++[x]
   rw[y_,K9M]
  rw[q]at i⊢;rw[path];show i.2.1
def Bb{e e':ι}{h:Ě}{hi:Int->Int}:ϦS (∀k∈Ÿ,e' (h k)=hi (e k)/\hi Þ=Ë (h k)) (϶V->Xw e' ϧW (Ϲr f)):=by
 ext x y
 revert x
 induction y with
 |nil=>ext _ _ _;show trivial
 |cons k c r Pi I4=>
  ext p H he;let(a,b,d):=he;let K:=H k (Ù F.pre P0);apply(?_,?_,I4 p (λj m=>H j ϬL) d)
  .rw[K.1,a]
  let:=Pi Þ (λj m=>H j ϬL) b;rw[K.2]at this;show this
theorem Pb{e:ι}:∀(f:F)(p:Int),϶V->(∀k∈Ÿ,p<=Þ)->∀k∈Ÿ,p<=e k
 |nil,_,_,_,_,m=>Ϥq
 |cons a c r,p,h,hp,k,m=>by
  let(H,b,d):=h;rcases kY p (cons a c r) ⟨H,b,d⟩ k m with z|⟨j,J,g⟩
  .lia
  .rw[g]
   show hp j J
end F
end B
namespace B
open PySem L2 L3
def nM:Fs:=(av (X5 (au<|Î gLt 1<|Ĥ<|Í 0 ai) (bI<|Î F4 0 ĉ) Wz)
 (av (ϰe<|œ (ϵj (eC<|Á 7919) ĉ)<|eC<|Á 5)
 (av (X5 (au<|ϫp (Ĥ<|Í 0 ai)<|eC<|Á 0) (ϰe<|ϰ0 (œ (ϵj (Î F4 0<|Î fW 1<|Ĥ<|Í 0 ai)<|eC<|Á 48271)<|Î jT 1<|eC<|Á 7919)<|eC<|Á 2147483647) Wz)
 (bI<|ϰ0 (Î jT 2 δ)<|eC<|Á 2147483629))))
def cA:Fn:=Ť 3 nM
def iV:Fs:=(bI<|xo (vj "int" ù)<|E6<|vj "bool" ù)
def cE:Fn:=Ϩe iV
def lP:Fs:=(av (ϰe<|eC<|Ô "abcdefghijklmnopqrstuvwxyz")
 (av (ϱh<|eC<|Ô "")
 (av (ϐm (œ (eC<|Á 1)<|Î fW 0 ĉ) 4<|ϱh<|Î bB 3<|Î F4 2<|ϰ0 (Î kF 0<|œ (eC<|Á 9)<|ϵj (ϵj (eC<|Á 4) ϰJ) ϰJ)<|eC<|Á 26)
 (bI ϰ2))))
def dU:Fn:=Ť 5 lP
def nL:Fs:=(av (ϴm ϲF)
 (av (ϵY<|W8 ϲF)
 (av (fX (iR1 δ) (Rm 7) (av (ϯM<|ϰ0 (ϵj (ϩ8<|Í 0<|ī (Î bB 1 ϵ9))<|eC<|Á 69621)<|eC<|Á 2147483629)
 (av (X5 (au<|Î gGt 7<|eC<|Á 0) (av (ϯN<|œ (eC<|Á 1)<|Î fW 8<|Ĥ<|Í 6 ai)
 (av (X5 (au<|Φ (ϰ0 (Î kF 8<|eC<|Á 16)<|eC<|Á 3)<|eC<|Á 0) (ϯN<|Ĥ<|Í 6 ai) Wz)
 (av (ϵY<|W8<|ϤX ϥA sU<|mn<|eB Bc<|Í 9<|Í 4 ai)
 (ϯ3<|W8<|gT<|ae (Î F4 6<|Ρ<|eC<|Á 1)<|ae (W8<|ar dU<|ae (Î kF 8<|eC<|Á 64)<|Í 3 ai)<|ae (œ (eC<|Á 1)<|ϰ0 (Î kF 8<|eC<|Á 4096)<|eC<|Á 9) ai))))<|ϯ3<|W8<|gT<|ae (Ρ<|eC<|Á 1)<|ae (W8<|ar dU<|ae (Î kF 8<|eC<|Á 64)<|Í 3 ai)<|ae (œ (eC<|Á 1)<|ϰ0 (Î kF 8<|eC<|Á 4096)<|eC<|Á 9) ai)
 (ϵY<|W8<|Î bB 6<|bX<|Í 7 ai))))
 (lA 5))))
def gL:Fn:=bj 5 10 nL
def zga:(a::z)[0]?=ϸg:=rfl
def zsa:ϋ (a::z) 0 y=ϲM:=rfl
def zgb:(a::b::z)[1]?=ϱN:=rfl
def zsb:ϋ (a::b::z) 1 y=a::ϲM:=rfl
def zgc:(a::b::c::z)[2]?=ϰf:=rfl
def zsc:ϋ (a::b::c::z) 2 y=a::b::ϲM:=rfl
def zgd:(ϧm z)[3]?=ϰH:=rfl
def zsd:ϋ (ϧm z) 3 y=a::b::c::ϲM:=rfl
def zge:(ϧm<|e::z)[4]?=Ϲl:=rfl
def zse:ϋ (ϧm<|e::z) 4 y=ϧm ϲM:=rfl
def zgf:(ϵF z)[5]?=some f:=rfl
def zsf:ϋ (ϵF z) 5 y=ϧm (e::ϲM):=rfl
def zgg:(ϵF<|g::z)[6]?=Â g:=rfl
def zsg:ϋ (ϵF<|g::z) 6 y=ϵF ϲM:=rfl
def zgh:(ϵF<|g::h::z)[7]?=some h:=rfl
def zsh:ϋ (ϵF<|g::h::z) 7 y=ϵF (g::ϲM):=rfl
def zgi:(ϵF<|g::h::i::z)[8]?=ϻe:=rfl
def zsi:ϋ (ϵF<|g::h::i::z) 8 y=ϵF (g::h::ϲM):=rfl
def zgj:(ϰN z)[9]?=ϰR:=rfl
def zsj:ϋ (ϰN z) 9 y=ϵF (g::h::i::ϲM):=rfl
def zgk:(ϰN<|k::z)[10]?=Β:=rfl
def zsk:ϋ (ϰN<|k::z) 10 y=ϰN ϲM:=rfl
def zgl:(ϰN<|k::l::z)[11]?=some l:=rfl
def zsl:ϋ (ϰN<|k::l::z) 11 y=ϰN (k::ϲM):=rfl
def zgm:(ϰN<|Ϩl z)[12]?=some m:=rfl
def zsm:ϋ (ϰN<|Ϩl z) 12 y=ϰN (k::l::ϲM):=rfl
def zgn:(ϰN<|Ϩl (n::z))[13]?=ϰQ:=rfl
def zsn:ϋ (ϰN<|Ϩl (n::z)) 13 y=ϰN (Ϩl ϲM):=rfl
def zgo:(ϰN<|Ϻw z)[14]?=Ø:=rfl
def zso:ϋ (ϰN<|Ϻw z) 14 y=ϰN (Ϩl (n::ϲM)):=rfl
def zgp:(ϰN<|Ϻw (p::z))[15]?=some p:=rfl
def zsp:ϋ (ϰN<|Ϻw (p::z)) 15 y=ϰN (Ϻw ϲM):=rfl
def zgq:(ϰN<|Ϻw (p::q::z))[16]?=Â q:=rfl
def zsq:ϋ (ϰN<|Ϻw (p::q::z)) 16 y=ϰN (Ϻw (p::ϲM)):=rfl
set_option bootstrap.genMatcherCode true in
local macro_rules
 |`(tactic| simp![$a,*] $[$l:location]?)=>do
  let e <- ("v_var v_c Wf VJ Rx Q7 SY Po v_and v_or v_not VW FW vP SK U4 RT v_b TM v_bor Ro P6 Uq Ua Sx ME Mg VO QM oP V8 V2 Wl Wq T_ Ut UM Td P_ U9 Wo UA S4 O1 R5 O5 Sj R3 RG Ue U5 R6 Ub VA Uj S9 VM Th V4 TR RO QQ Uk Vq LH LU Pd QD QE Ox UH Vm Oy Sk RC SH Rt Wm Vt OV Sy Rr Q5 Ui MI Vs Uy Si SN VB VU V7 Vi Qe RQ Sr Uc TC Sf Um T3 SM Tq Vw T8 VY VT Wa V6 VZ RK TQ Vu QT PK P4 Ru Ql Vv Qv at0 at1 at2 T7 Pg OK QC Rg OZ O4 VP VD VX VG V_ aS eP J4 flat List.map_cons List.map_nil List.length_cons List.length_nil zga zgb zgc zgd zge zgf zgg zgh zgi zgj zgk zgl zgm zgn zgo zgp zgq List.getElem?_nil zsa zsb zsc zsd zse zsf zsg zsh zsi zsj zsk zsl zsm zsn zso zsp zsq List.cons_append List.nil_append List.append_nil List.replicate_succ List.replicate_zero Nat.reduceAdd Nat.reduceSub Nat.reduceLeDiff Nat.reduceLT Nat.reduceEqDiff Nat.zero_add Bool.not_true Bool.not_false if_true if_false Bool.false_eq_true reduceIte decide_true decide_false reduceCtorEq M3 VF Int.reduceLT Int.reduceLE Int.reduceNeg Int.reducePow Int.reduceToNat Int.reduceMul Int.reduceAdd Int.reduceSub Nat.reducePow and_true true_and and_self List.length_map R4 v_sub S8 CW Int.cast_ofNat_Int Int.reduceEq Int.reduceNe SS QF Rp TK T9".splitOn " ").toArray.mapM λs=>`(Lean.Parser.Tactic.simpLemma| $(Lean.mkIdent s.toName):ident)
  `(tactic| simp (maxSteps:=1000000) only[$e,*,$a,*] $[$l]?)
def DY(z:Int):cE [Á z]=Ú (ß true):=ϕ0
def zA(ns:À Int)(k:Int)(H:0<=k)(b:k<1000000):∃z,cA [Å ő,Á k]=Ú (Á z):=by
 delta cA nM;by_cases h:k<Ë ns.length
 .let(x,e1,E):=BI ő k H ϶r
  rw[T2]at e1;let(z,_,rfl):=϶d e1;show(z,by simp![W6 h,E])
 by_cases a:Ë 0<ns.length
 .let M:=dW k a
  let(x,e1,E):=BI ő (k%Ë ns.length) M.1 (ť M.2);rw[T2]at e1;let(z,_,rfl):=϶d e1;let c:=dW (z*48271+k*7919) (ϱd<|Ë 0<2147483647);let K:ϓt Ϭc:=M3 Ã Ã;apply(ϓr Ϭc,?_);simp![Ll h,W6 a,a,E,K]
 let K:ϓt ϮL:=M3 Ã Ã;apply(ϓr ϮL,?_);simp![Ll h,Ll a,K]
structure Nd where
 e:Int
 l:Str
 t:Int
def CP(l:Str):Prop:=1<=l.length/\l.length<=9/\∀c∈l.cps.toList,ϭT
def Lh(n:Nd):Prop:=CP n.l/\ϭA 1 n.t 9
def Zf(n:Nd):Gc:=ï [Á n.e,Ô n.l,Á n.t]
def ak(T:À Nd):À Gc:=T.map Zf
inductive W1(deep:Nat):À Nd->į (À Int)
 |root {n:Nd}:Lh n->ϫA->W1 deep [n] [0]
 |step {ns:À Nd} {way:À Int} {c:Nat} {n:Nd}:ϻ0->1<=c->ϭZ->c<=deep->Lh n->way[c-1]?=Â n.e->W1 deep ϯm (Ϥr++[Ë ns.length])
def W1.pos{deep:Nat}{ns:À Nd}{way:À Int}(g:ϻ0):ϩ1/\0<way.length:=by
 cases g with|root=>simp|step=>simp
def W1.way_lt{deep:Nat}{ns:À Nd}{way:À Int}(g:ϻ0):∀x∈way,0<=x/\x<ns.length:=by
 induction g with
 |root=>simp
 |@step ns way c n g h1 h2 h3 h4 h5 ih=>
  ext x h;rw[P1]at h;rw[Ww];rcases h with h|h
  .let:=ih x<|Zch h
   simp;lia
  let:x=ns.length:=϶r
  simp;lia
def W1.ok{deep:Nat}{ns:À Nd}{way:À Int}(g:ϻ0):∀n∈ns,Lh n:=by
 induction g with
 |root h=>simpa using h
 |@step ns way c n g h1 h2 h3 h4 h5 ih=>
  ext x H;rcases P1.mp H with H|H
  .exact ih x H
  let:x=n:=Ϻe
  rw[this];show h4
def W1.elder{deep:Nat}{ns:À Nd}{way:À Int}(g:ϻ0):∀(k:Nat)(n:Nd),ns[k]?=ϰQ->ύI n.e (n.e<k):=by
 induction g with
 |@root n h e=>
  ext k m M;cases k with
  |zero=>
   let:n=m:=ώ6
   subst this;show(λ_=>e,λh=>ϗK Ϸd,Ã)
  |succ k=>simp at M
 |@step ns way c n g h1 h2 h3 h4 h5 ih=>
  ext k m M;by_cases H:k<ns.length
  .rw[K9V H]at M
   show ih k m M
  rw[K9a Ã]at M;let K:k=ns.length:=by
   let:=(Za.mp M).1;simp at this;lia
  subst K;let:n=m:=ώ6
  subst this;let p:=g.pos.1;let:=ϔs<|Y4 h5;show(λh=>Ã,ϰ9 this.1,this.2)
def Lw{k:Int}(a:0<=k)(h:k<26):∃c,T1 (ϧV ϹS) k=ϰf/\ϭT:=by
 let e:ϧV ϹS=Η 97 26:=ñ
 rw[e];let(v,e1,E):=BI (Η 97 26) k a ϶r;apply(v,E,?_);let:=List.mem_range'.mp<|Y4 e1;lia
def zP(k:Int)(a:0<=k)(h:k<26):∃c,T1 (ϧV ϹS) k=ϰf/\ϭT:=Lw a h
def CH(a b:Str):ϧV (a++b)=a.cps.toList++b.cps.toList:=PyProof.Rows.cps_toList_append a b
def vO(a:Str):a.length=a.cps.toList.length:=Ű Str.length
def Hf(a:Str)(c:Nat):Ì (a++ϷZ:Str)=a.length+1:=by rw[vO,CH,vO,Ww];rfl
def Kd(z m:Int)(j:1<=m)(J:m<=9):∃l,CP l/\dU [Á z,Á m]=Ú (Ô l):=by
 delta dU lP;let M:=dW z (ņ<|0<m);let s1:ā aG (1+z%m):=ϱo Ã;let p:Ë 0<m:=Ã
 obtain⟨f,H⟩:∃f:Ě,∀i:Nat,T1 (ϧV ϹS) (z / (9+Ϻr (0+ë))%26)=Â (f i)/\(ϭA 97 (f i) 122):=
  ⟨λi=>Classical.choose<|zP _ (Ϯu (9+Ϻr (0+ë))<|ϱd (Ë 0<26)).1 (ϧ5 á).2,λi=>Classical.choose_spec<|zP _ (Ϯu (9+Ϻr (0+ë))<|ϱd (Ë 0<26)).1 (ϧ5 á).2⟩
 simp![p,s1];generalize L:ϰz=r;apply ϺQ (λi b=>∃(l:Str)(v:Ö OD),b=[É<|Á z,É<|Á m,É<|Ô ϹS,É<|Ô l,v]/\l.length=i/\∀c∈l.cps.toList,ϭT) ((ϑP (λc hc=>Ϸ6 hc)))
 .rintro i d b h ⟨l,v,rfl,hl,hc⟩
  let(hi,rfl):=eM h;let I:ë<9:=Ã
  let B:ϭA 0 (Ϻr (0+ë)) (Ϻr 8):=by
   let a:0<=(0+ë):=Ã
   let A:(0+ë)<=8:=Ã
   apply(Int.mul_nonneg Ã a,?_);show Int.mul_le_mul Ã A a Ã
  let W:=(H i).1;let c1:=(H i).2.1;let K:=(H i).2.2;generalize f i=c at W c1 K;let k:u6 (4*(0+ë)) (0+ë)=true:=M3 Ã Ã;let e:ό5 9 (Ϻr (0+ë)):=ϸf ⟨Ã,Ã⟩;let k3:Ĳ (Ì ϹS):=ñ
  let g:Ĳ (l.length+Ì (ϷZ:Str)):=ax (by rw[hl];change i+1<=1000;lia);simp![k,e,k3,g,W,Zae];apply(_,_,rfl,ϲK Hf hl,λd h=>?_);rw[CH,P1]at h;rcases h with h|h
  .exact hc d h
  let:d=c:=϶r
  lia
 ext ρ' rfl ⟨l,v,rfl,hl,hc⟩;rw[dI]at hl;simp![S5];show(l,(Ã,Ã,hc),rfl)
def wI(s:À Gc)(k:Nat):cutD s none (Â Þ)=s.take k:=by
 delta cutD;rw[HT.AK,HT.vx,List.drop_zero,Nat.sub_zero];rcases Nat.le_total k s.length with h|h
 .rw[K8q h]
 rw[Nat.min_eq_right h,K90 õ,K90 h]
def xJ{way:À Int}(a:1<=k)(b:k<=way.length):∃e,way[k-1]?=Ϲl/\T1 (Ó (way.take k) int) (-1)=Â (Á e):=by
 let H:k-1<way.length:=Ã
 apply(way[k-1],ϑa,?_);let h:way.take (k-1+1)=way.take (k-1)++[way[k-1]]:=by rw[Zbh];simp[H]
 rw[ņ (k-1+1=k)]at h;rw[h,Wx];show sI _ _
def az(T:À Nd):ϴn (Ì Ō):=Ŷ ak K1
def rL(T:À Nd)(n:Nd):ak (T++[n])=Ō++[ï [Á n.e,Ô n.l,Á n.t]]:=by delta ak;rw[Wx];rfl
def K5(ns:À Int)(s:Int)(many:Nat)(most deep:Int)(s0:0<=s)(s1:s<=1000)(n:1<=many)(N:many<=900)(m0:1<=most)(M:most<=9)(D:1<=deep)(d1:deep<=1000):
  ∃T way,ώq/\T.length=many/\gL [Å ő,Á s,Á many,Á most,Á deep]=.ok (Ĩ Ō):=by
 delta gL nL;let S:ā aG ((Ë many)):=ϱo Ã;simp![S];generalize m:ϰz=r;apply cD m (λi k=>∃(T:À Nd)(way:À Int)(v V f:Ö OD),k=[É<|Å ő,É<|Á s,É<|Á many,É<|Á most,É<|Á deep,some<|Ĩ Ō,É<|Å<|way.map int,v,V,f]/\T.length=i/\way.length<=i/\(Ϙi\/(0<i/\ώq)))
  ⟨[],[],_,_,_,rfl,rfl,õ,Ê ⟨rfl,rfl,rfl⟩⟩ ?_ ?_
 .rintro i d k hd ⟨T,way,v,V,f,rfl,hti,hwi,hg⟩
  let(hi,rfl):=eM hd;rw[Xz]at hi;let(y,Y):=ώT (s+(0+ë)) Ã;let(l,L,el):=Kd (ϲS / 64) most m0 M;let q:=dW (ϲS / 4096) (ϱd<|Ë 0<9);let b:ϴj (Ì Ō):=Ù az (dX Ã)
  by_cases H:Ë 0<0+ë
  .let h:ώq:=by
    rcases hg with hg|hg
    .lia
    show hg.2
   let wp:=h.pos.2;let wl:Ë 0<way.length:=Ã
   let hr:=dW ϲS wl;let fin:∀c:Nat,1<=c->ϭZ->ϐe->∀(e:Int),way[c-1]?=Ϲl->W1 deep.toNat (T++[⟨e,l,1+ϲS / 4096%9⟩]) (Ϥr++[Ë T.length]):=λc c1 K j e he=>W1.step h c1 K j ⟨L,ϸ3 (1<=1+_),ϸ3 (1+_<=9)⟩ he;let lw:∀c:Nat,Ĳ (Ì Ϥr+1):=λc=>ax (î Zg);by_cases g:ϲS / 16%3=0
   .obtain⟨c,hc⟩:∃c:Nat,(Ï (deep<Ë way.length) deep<|(Ë way.length))=Ĵ:=⟨ē (Ï (deep<Ë way.length) deep<|(Ë way.length)),Ϧk⟩
    obtain⟨c1,K,j⟩:1<=c/\ϭZ/\ϐe:=ϗF
    let(e,he,a):=xJ c1 K;simp![Y,el,wl,W6 H,W6 g,hc,wI,<-K7d,aN,a,b,lw];let t1:=rL T ⟨e,l,1+ϲS / 4096%9⟩;let t2:Ó Ō OD.sh++[Ă<|ï [Á e,Ô l,Á<|1+ϲS / 4096%9]]=(ak<|T++[⟨e,l,1+ϲS / 4096%9⟩]).map OD.sh:=ϳB t1 Wx
    let w:Ó Ϥr int++[int<|0+ë]=Ó (Ϥr++[Ë T.length]) int:=ϖ4
    rw[t2,w];show(_,_,_,_,_,rfl,ϳB Ww hti,ϪZ Ww Zg K9e,Ð ϔI)
   obtain⟨c,hc⟩:∃c:Nat,(Ï (deep<1+ϲS%Ë way.length) deep<|1+ϲS%Ë way.length)=Ĵ:=⟨ē (Ï (deep<1+ϲS%Ë way.length) deep<|1+ϲS%Ë way.length),Ϧk⟩
   obtain⟨c1,K,j⟩:1<=c/\ϭZ/\ϐe:=ϗF
   let(e,he,a):=xJ c1 K;simp![Y,el,wl,W6 H,Ll g,hc,wI,<-K7d,aN,a,b,lw];let t1:=rL T ⟨e,l,1+ϲS / 4096%9⟩;let t2:Ó Ō OD.sh++[Ă<|ï [Á e,Ô l,Á<|1+ϲS / 4096%9]]=(ak<|T++[⟨e,l,1+ϲS / 4096%9⟩]).map OD.sh:=ϳB t1 Wx
   let w:Ó Ϥr int++[int<|0+ë]=Ó (Ϥr++[Ë T.length]) int:=ϖ4
   rw[t2,w];show(_,_,_,_,_,rfl,ϳB Ww hti,ϪZ Ww Zg K9e,Ð ϔI)
  obtain⟨I,rfl,rfl⟩:Ϙi:=by
   rcases hg with hg|hg
   .exact hg
   lia
  simp![Y,el,Ll H,aN,b];subst I;show([⟨-1,l,1+ϲS / 4096%9⟩],[0],_,_,_,rfl,rfl,á,Ð ⟨Zcr _,W1.root ⟨L,ϸ3 (1<=1+_),ϸ3 (1+_<=9)⟩ rfl⟩)
 ext ρ' rfl ⟨T,way,v,V,f,rfl,hti,hwi,hg⟩;rw[dI,Xz]at hti hg;rcases hg with hg|hg
 .lia
 simp![S5];show(T,way,hg.2,hti,rfl)
def eQ{T:À Nd}{k:Nat}{n:Nd}(h:T[k]?=ϰQ):T1 Ō Þ=Â (ï [Á n.e,Ô n.l,Á n.t]):=bW (ϬU ak)
instance:Inhabited Nd:=⟨ϱR 0 "" 0⟩
def H6(T:À Nd)(k:Nat):Int:=ϊ (T[k]?.map (·.e)) 0
def PT(T:À Nd)(c:F):Prop:=F.Pf T.length ϱD c
def cC{T:À Nd}{k:Nat}{n:Nd}(h:T[k]?=ϰQ):ŗ=n.e:=by delta H6;rw[h];rfl
def A1{deep:Nat}{ns:À Nd}{way:À Int}(g:ϻ0):∃c,PT ns c/\way=Ó (0::F.path c) (Į Þ):=by
 induction g with
 |@root n h1 h2=>show(F.nil,(rfl,Ù (cC (n:=n) rfl) h2,trivial),rfl)
 |@step ns way k n g h1 h2 h3 h4 h5 ih=>
  let(c,p,w):=ih;subst w;rw[K1,Xt]at h2;let same:∀j,j<ns.length->H6 ϯm j=H6 ns j:=λj J=>Ŷ H6 (K9V J)
  let new:H6 ϯm ns.length=n.e:=cC Û;let inR:∀j∈ϵh,j<ns.length:=λj m=>by let:j∈0::ϵh:=Ā m;rw[p.pre,X4]at this;show this
  let he:F.Xw (H6 ϯm) 0 c:=F.mG 0 c (λj m=>same j<|inR j m) p.eld
  let(b,q,Q):=F.vZ (x:=ns.length) c (k-1) 0 Ã he (by
   rw[new];rw[T2]at h5;by_cases K:k=1
   .subst K
    let:=Zh h5;rw[Č];show this.symm
   obtain⟨m,rfl⟩:∃m,k=m+2:=⟨k-2,Ã⟩
   rw[P3 Ã]
   let e:(0::F.path c)[m+2-1]?=(F.path c)[m+2-1-1]?:=rfl;rw[e]at h5;let(v,H,h):=϶d h5;rw[H,<-h];rfl)
  apply(F.oJ c (k-1) ns.length,(?_,?_,Q),?_)
  .rw[b,<-y_,p.pre,Ww,Xt,K8S,K86]
  .rw[same 0 p.pos]
   show p.root
  rw[q];obtain⟨m,rfl⟩:∃m,k=m+1:=⟨k-1,Ã⟩
  rw[L4,L4,K7g,Wx,K8H,K7d];rfl
def bN(T:À Nd)(k:Nat):Nd:=T[k]?.getD default
def gP{T:À Nd}{k:Nat}(h:ϰV):(϶5).e=ŗ:=by delta bN H6;rw[Xb h];rfl
def wc(s:Nat)(T:À Nd):À Nd:=match T with
 |[]=>[]
 |n::r=>ϱR 0 n.l n.t::r.map λm=>⟨m.e+s,m.l,m.t⟩
def Mp{T us:À Nd}{c d:F}(p:ϹA)(q:PT us d):PT (T++wc T.length us) (F.app c (Ϛx<|F.full d)):=by
 obtain⟨n,r,rfl⟩:∃n r,us=n::r:=by
  cases us with
  |nil=>show Ć q.pos Û
  |cons n r=>show(n,r,rfl)
 let e1:∀k,ϰV->H6 ϬD k=ŗ:=λk H=>Ŷ H6 (K9V H)
 let E:∀k,k<Ì (n::r)->H6 ϬD (k+T.length)=Ï (k=0) 0 (H6 (n::r) k+T.length):=λk H=>by
  delta H6;rw[K9a Ã,K8H];cases k with
  |zero=>rfl
  |succ k=>
   rw[P3 Ã];change ϊ ((r.map λm=>(⟨m.e+T.length,m.l,m.t⟩:Nd))[k]?.map (·.e)) 0=ϊ (r[k]?.map (·.e)) 0+T.length;rw[Xt]at H;rw[T2,Xb<|ņ (k<r.length)];rfl
 let a:Ì ϬD=T.length+Ì (n::r):=by rw[Ww];delta wc;rw[Xt,K1,Xt]
 apply(?_,Ù (e1 0 p.pos) p.root,?_)
 .rw[F.pre_app,F.iF,q.Yw,<-y_,p.pre,a,Zbi]
  congr 1
  show ϧT (Nat.add_comm _ _)
 rw[F.zT];apply(F.mG 0 c (λk m=>e1 k ?_) p.eld,?_,?_,trivial)
 .let:k∈0::ϵh:=Ā m
  rw[p.pre,X4]at this;show this
 .let:=E 0 Û
  show this
 let:=F.Bb (e:=H6<|n::r) (e':=H6 ϬD) (h:=(·+T.length)) (hi:=λz=>z+T.length) 0 d (λk m=>by
  let H:k∈0::F.pre d:=Ā m;let nd:(ϰs (0::F.pre d)):=Ù q.pre K89
  rw[q.pre,X4]at H;let k0:k≠0:=λz=>(ϺW).1 (z▸m);apply(?_,Ã)
  let:=E k H;rw[P3 k0]at this;show this) q.eld
 show this
def mf:Fs:=(X5 (ϵ7 (Î gLt 1<|eC<|Á 0)<|au<|Î gGe 1<|Ĥ<|Í 0 ai) EE Wz)
def fv:Fn:=Ť 2 mf
def kR:Fs:=(av (ϪK ϲF)
 (av (ϥ5 ù 2<|oN 1<|W8<|vn<|eIf (au<|Φ (Î F4 2<|eC<|Á 0)<|Ρ<|eC<|Á 1) (eC<|Á 0)<|œ (Î F4 1<|Î F4 2<|eC<|Á 0)<|eC<|Á 1)
 (lA 1)))
def eL:Fn:=bj 1 3 kR
def rQ:Fs:=(bI<|Ů ù cn (B2 kF (Ĥ<|ī (Î F4 0<|eC<|Á 1))<|eC<|Á 2) 1 [])
def iz:Fn:=Ϩe rQ
def kB:Fs:=(av (eD<|ar fv<|Í 0<|Í 1 ai)
 (bI<|Ϩm ù (ϳ6 0 1) (au<|Φ (Î F4 1<|eC<|Á 0) δ) ù 2 [1]))
def bT:Fn:=Ť 2 kB
def EL(T:À Nd):Prop:=∀(k:Nat)(n:Nd),T[k]?=ϰQ->ύI n.e (n.e<k)
def fJ(a:Ò)(n:Nd):Nat:=Ï ϫA 0 (ϊ (a[n.e.toNat]?) 0+1)
def X3(T:À Nd):Ò:=T.foldl (λa n=>a++[fJ a n]) []
def mF(T:À Nd)(n:Nd):X3 (T++[n])=ϗN ϸx:=by delta X3;rw[List.foldl_append];rfl
def snoc_ind{P:į (À α)}(a:P [])(S:∀s x,P s->P (s++[x]))(s:À α):P s:=by
 let:∀Y:À α,P Y.reverse:=by
  ext Y
  induction Y with|nil=>show a|cons y Y ih=>rw[K8R];show ϥp ih
 let h:=this s.reverse;rwa [List.reverse_reverse]at h
def cL:∀T:À Nd,ϴn (Ì ϸx):=by
 ext T;apply snoc_ind (P:=λT=>ϴn (Ì ϸx)) rfl (λT n i=>?_) T;rw[mF,Ww,Ww,i];rfl
def take_snoc{α:Type}{s:À α}{i:Nat}{x:α}(h:ϱP=Đ):s.take (i+1)=s.take i++[x]:=by rw[Zbh,h];rfl
def AV(T:À Nd):∀i:Nat,ζ ϸx i=ϴc:=by
 apply snoc_ind (P:=λT=>∀i:Nat,ζ ϸx i=ϴc) (λi=>Ű X3) (λT n I=>?_) T;ext i;rcases Nat.le_total i T.length with h|h
 .rw[mF,K8s (ϷR cL),K8s h,I]
 by_cases H:i=T.length
 .subst H
  rw[mF,K8s (Ù cL õ),K8s õ,I]
 rw[K90 (by rw[cL,Ww];simp;lia),K90<|by rw[Ww];simp;lia]
def CJ{T:À Nd}{i:Nat}{n:Nd}(h:T[i]?=ϰQ):Ķ ϸx=Â (fJ ϴc n):=by
 let hi:=ϷW;let e:=AV T<|i+1;rw[take_snoc h,mF]at e;let:(ζ ϸx<|i+1)[i]?=Â (fJ ϴc n):=by
  rw[e,K9a (ϰP cL Zg),cL,Zg,K8q Ã,K8c];rfl
 rw[K97 Ã]at this;show this
def gD(s:Ò):À Gc:=ϳ2 ((Į (int Þ)))
def Jy(s:Ò):Ì (gD s)=s.length:=Ŷ gD K1
def LM{s:Ò}{k v:Nat}(h:s[k]?=ă):T1 (gD s) Þ=Â (Á v):=bW (ϬU gD)
def xy(s:Ò)(k:Nat):Ó (gD s) OD.sh++[Ă<|Á Þ]=(gD<|s++[k]).map OD.sh:=϶A gD Wx Wx
def pG(T:À Nd)(he:ϳk)(f:ϱs 100):eL [Å Ō]=.ok (Ĩ<|gD ϸx):=by
 delta eL kR;simp![S5];generalize L:ϰz=r';apply ϺQ (λi c=>∃V:Ö OD,c=[É<|Å Ō,some<|Ĩ<|gD ϴc,V]) ϶D
 .rintro i d c hd ⟨V,rfl⟩
  delta ak at hd;rw[T2]at hd;let(n,N,rfl):=϶d hd;let hi:=(Za.mp N).1;let l:ϴj (Ì (gD ϴc)):=by rw[Jy,cL,Zg];show dX Ã
  let g:(X3 ϩQ)=ϗN ϴc:=ϲK (take_snoc N) mF
  let el:=he i n N;by_cases H:ϫA
  .let e1:fJ ϴc n=0:=Ŷ fJ ϳZ
   rw[e1]at g;let sn:=xy ϴc 0;rw[<-g,Int.natCast_zero]at sn;simp![Zf,W6 H,l,aN,sn];show(_,rfl)
  let e:0<i:=by
   rcases Zcm i with h|h
   .exact Ć (el.1 h) H
   show h
  obtain⟨k,K⟩:∃k:Nat,n.e=Þ:=⟨n.e.toNat,Œ (el.2.1 e)⟩
  let I:k<i:=Œ el.2.2
  obtain⟨v,b⟩:∃v,ϴc[k]?=ă:=⟨ϴc[k]'(ϰP cL Zg),Û⟩
  let e1:fJ ϴc n=v+1:=by delta fJ;rw[ϳj,K,Xz,b];rfl
  rw[e1]at g;let sn:=xy ϴc<|v+1;rw[<-g,Int.natCast_add,Int.natCast_one]at sn;let ga:=LM b;let a:¬(Þ=-1):=Ã
  simp![Zf,K,Ll a,l,aN,ga,sn];show(_,rfl)
 ext ρ' rfl ⟨V,rfl⟩;simp![S5];rw[az,K90 õ]
def kT(T:À Nd):À Int:=T.map λn=>Ë n.l.length / 2
def xb(T:À Nd)(h:Ϭr)(a:ϱs 100):iz [Å Ō]=ϲC (Ó (kT T) λz=>Ă<|Á z):=by
 delta iz rQ;simp![S5];generalize l:Ż=r;let e:=fL l Zf (λn:Nd=>.sh<|Á<|Ë n.l.length / 2) T rfl (ν Ã) (by ext n H;let:=ax<|h n H;simp![Zf,this]);subst e;simp![S5];delta kT;rw[W5];rfl
def MJ(h:lay n (Å<|a::as))(N:n<=64):Xr (Å<|a::as) (Å [])=Ú (ß false):=by
 let H:lay 1 (Å []):=Bf (n:=0) λx X=>Ϸ6 X
 delta Xr;rw[pP];delta pC;rw[eJ h N,eJ H á,K7c,Č];let:PyData.eqv (Å<|a::as) (Å [])=false:=by delta PyData.eqv PyData.eqvAll;rfl
 rw[this];rfl
def J1(s:À Gc)(j:Nat)(h:Ϯ1):fv [Å s,Á j]=Ú æ:=by
 delta fv mf;let d1:à (Ç (ą<0)):=Ll Ã;let d2:à (Ç (Ë s.length<=ą)):=Ll Ã;simp![d1,d2]
def iL(R:Ò):À Int:=R.map (Į Þ)
def nD(R:Ò):À Gc:=Ó (iL R) int
def nO(R:Ò):À OD:=Ó ϱC OD.sh
def aQ(R:Ò):Ó (nO R) OD.er=ϱC:=aN _
def aD(R:Ò):Ì ϱC=R.length:=by delta nD iL;rw[K1,K1]
def nC(R:Ò):Ì (nO R)=R.length:=ϴh nO K1 aD
def IM(a b:Ò):nO a++nO b=nO (a++b):=by delta nO nD iL;rw[Wx,Wx,Wx]
def iM(a:Ò)(k:Nat):nO a++[Ă<|Á Þ]=nO (a++[k]):=by rw[<-IM];rfl
def om{R:Ò}{i k:Nat}(h:϶b=Β):Ķ ϱC=Â (Á Þ):=by delta nD iL;rw[T2,T2,h];rfl
def I2(T:À Nd)(q:Nat):Ò:=é ŵ λj=>Ç<|ϱD j=Ë q
def Eg(T:À Nd):eA Ō=Ó ŵ (Į (ϳv [Á Þ,Zf ϶5])):=by
 apply Y_;ext i;rw[T2];by_cases hi:Ϧ1
 .rw[Ϸr]
  delta eA ak;rw[T2,K8Q,T2,ϹH];delta bN;simp[Xb hi]
 rw[Ye (by delta eA ak;simp;lia),Ye<|î Wu];rfl
def gE(L:Ò):(L.map (Į (Ă<|Á Þ)))=Ϸw:=by delta nO nD iL;rw[W5,W5];rfl
def iW(T:À Nd)(q:Nat)(H:ϵ6 q)(a:ϱs 100):bT [Å Ō,Á q]=ĥ nO (ϲI q):=by
 delta bT kB;let c:=J1 Ō q (ϻ7 az);simp![c];generalize u:Ż=rc
 let e:=gN u (Į<|ϳv [Á Þ,Zf ϶5]) (λk=>Ç<|ŗ=Ë q) (Į<|.sh<|Á Þ) ŵ (Eg T) (Ù Wu<|ν Ã) (by
  ext k h;rw[X4]at h;let he:=gP h;apply(?_,ϵf)
  .simp![Zf,he]
  simp![Zf])
 subst e;rw[gE];simp![S5];rfl
def cj(ns:À Int):À OD:=Ó ő OD.sh
def cM(ns:À Int):Ó ϻx OD.er=ő:=aN _
def sV(ns:À Int):όA (Ì ϻx):=ϴh cj K1 K1
def iG(f g:Nat->β)(n k:Nat)(H:∀q,q≠k->g q=f q):ϋ (Ó ϴq f) k (g k)=Ó ϴq g:=by
 apply Y_;ext i;by_cases hi:k=i
 .subst hi
  by_cases h:k<n
  .rw[K9I ϶r,T2,Zs h]
   rfl
  rw[Ye ϴd,Ye ϴd]
 rw[K9E hi,T2,T2];by_cases h:i<n
 .rw[Zs h]
  change Â (f i)=Â (g i);rw[H i<|K8g hi]
 rw[Ye ϴd];rfl
def chI(T:À Nd)(i q:Nat):Ò:=é ϫq λj=>Ç<|ϱD j=Ë q
def L7(T:À Nd)(i q:Nat):Ì (Ϩk i q)<=i:=by
 delta chI;let:=K8i (λj=>Ç<|ϱD j=Ë q) ϫq;rw[Wu]at this;show this
def wW(T:À Nd)(i q:Nat):ϸU q=Ϩk i q++(Ï (ϱD i=Ë q) [i] []):=by
 delta chI;rw[K86,Zm];congr 1;by_cases h:ϱD i=Ë q
 .rw[Os h]
  simp[h]
 rw[P3 h];simp[h]
def inB(j:Nat)(n:Nd):Bool:=Ç<|ą<=n.e
theorem BG(p:Ź α):∀(L:À α)(s:Nat),s<=L.length->(∀k,k<s->∀x,L[k]?=Đ->ϤU)->(∀x,L[s]?=Đ->à (p x))->Ì (L.takeWhile p)=s
 |[],s,h,_,_=>by simp at h;subst h;rfl
 |a::L,0,_,_,h=>by let:=h a rfl;rw[Zaz,this];rfl
 |a::L,s+1,h,h1,h2=>by
  let:=h1 0 Ã a rfl;rw[Zaz,this,Č,Xt,BG p L s (by simp at h;lia) (λk K x H=>h1 (k+1) Ã x H) λx H=>h2 x H]
namespace F
theorem Cq{e:ι}:∀(f:F)(a m:Nat)(p:Int),Ÿ=List.range' a m->϶V->p<ϱv->∀k∈Ÿ,e k<Þ
 |nil,a,m,p,hp,_,_,j,h1=>Ϸ6 h1
 |cons k c r,a,m,p,hp,he,hpa,j,J=>by
  let(e1,E,y):=he;obtain⟨M,rfl⟩:∃M,m=M+1:=⟨m-1,by
   let:=ϱT hp;rw[F.pre,Xt,K93]at this
   lia⟩
  rw[F.pre,Zay]at hp;let(H,h):=K88 hp;subst H;let l:=ϱT h;rw[Ww,K93]at l;let b:M=Ì ϵh+Ì (F.pre r):=Ã
  rw[b,<-Zai]at h;let(hc,hr):=Zcd h (ϱl K93);rw[F.pre]at J;rcases W7.mp J with rfl|J
  .lia
  .rcases P1.mp J with J|J
   .exact Cq c (k+1) _ Þ hc E Ã j J
   .exact Cq r (k+1+Ì ϵh) _ p hr y Ã j J
end F
def iY{T:À Nd}{c:F}(p:ϹA){k:Nat}(h:ϰV):ŗ<Þ:=by
 apply F.Cq ϺH 0 T.length (-1) (ϲK p.Yw K7k) p.eldF á k ?_;rw[p.Yw,X4];show h
def aH{T:À Nd}{c:F}(p:ϹA):ϳk:=by
 ext k n h;let H:=ϷW;let lt:=iY p H;rw[cC h]at lt;let rt:=p.eldF.1;apply(϶X,϶X,lt)
 .subst z
  rw[cC h]at rt;show rt
 let P:ϰ8 ϺH=ŵ:=p.Yw;let:ϵh=Η 1 (϶1 1):=by
  delta F.full at P;rw[F.pre,K7k,ņ (T.length=϶1 1+1),Zay]at P;let:=(K88 P).2;rw[F.pre,Xf]at this;show this
 let ge:=F.Pb c 0 p.eldF.2.1 (λk m=>by rw[this,Zaa]at m;lia) k (ϰP this Zaa);rw[cC h]at ge;show ge
def rF:Fs:=(av (ϱh<|ϵj (eC<|Á 256)<|Î bB 2<|eC<|Á 1)
 (av (ϲ7<|W8<|aV (iZp ù ĉ) (ϳ6 0 1) cn (ϻf (œ (Î F4 0<|eC<|Á 1) δ)<|Î F4 1<|eC<|Á 0) 2 [3])
 (av (ϴm<|Ϥv<|Í 4 ai)
 (bI<|gT<|Í 5<|ī (Kn ϰJ Ϸk)))))
def hX:Fn:=bj 3 6 rF
def fM:Fs:=(av (ϰe<|bX<|Ŭ (Á 0) ai)
 (av (fX (iR2 (eC<|Á 1)<|Ĥ<|Í 0 ai) (Rm 3) (av (ϲ7<|W8<|oq<|ϐ1 ϰ2 (œ (Î F4 1 ù)<|ĵ (ar hX<|ae (Î F4 2 ù)<|ae (Î F4 2 ϰ2)<|Í 4 ai)<|eC<|Á 0) 1 [2,0,3,1])
 (ϯU<|Ϥv<|Í 4 ai)))
 (lA 2)))
def cI:Fn:=Ť 5 fM
def iu:Fs:=(av (ϱh<|Ĥ<|Í 0 ai)
 (av (ϲ7<|ϵj (bX<|Í 2 ai) ϰ2)
 (av (fX (iR3 (Î fS 3<|eC<|Á 2) (Ρ<|eC<|Á 1)<|Ρ<|eC<|Á 1) (Rm 5) (av (ϵY<|Î F4 0 Ϸk)
 (av (ϺU<|W8<|oq<|aV (iR2 (Î bB 5<|eC<|Á 1) ϰ2) (Rm 0) cn (ϻf (Î F4 1 ù)<|ĵ (ar hX<|Í 2<|ae (Î F4 3 ù)<|Í 4 ai)<|eC<|Á 0) 1 [4,6,0,1])
 (Ak 4 Ϸk<|ϑG<|Í 7 ai))))
 (lA 4))))
def dh:Fn:=bj 3 8 iu
def rO:Fs:=(av (ϰe<|W8<|ar cI<|Í 0<|Í 1 ai)
 (bI<|gT<|Í 2<|ae (W8<|ar dh<|Í 0<|Í 1<|ae (Î F4 2<|Ρ<|eC<|Á 1) ai) ai))
def m6:Fn:=Ť 3 rO
def Wc(os:À ϯF):À Gc:=os.map λp=>ï [Á p.1,Á p.2]
abbrev Ol:=À ϯF
def Ud(O:À Ol):À Gc:=O.map λos=>Å<|Wc os
def UI:À Int->Int|[]=>0|a::as=>xn a as
def yE(ns:À Int)(z:Int):ϻx++[Ă<|Á z]=cj (ns++[z]):=϶A cj Wx Wx
def int_at{ns:À Int}{k:Nat}{z:Int}(h:ns[k]?=Â z):T1 ő Þ=Â (Á z):=bW (by rw[T2,h];rfl)
def E4(ns:À Int):(ϻx).all ϶s=true:=by delta cj;rw[K7r];ext x H;let(d,h,rfl):=ϵ3;let(n,_,rfl):=Ϻ8;rw[aS];rfl
def xR(ns:À Int):uS (.ol ϻx)=ĥ cj ns:=by
 change(Ï ((ϻx).all ϶s=true) (ϧo (Ó ϻx Ϧv)) È)=_;rw[E4,Č];congr 2;delta cj;rw[W5];show Ze λx _=>by change Ă (OD.sh x).er=_;rw[aS]
def HY{α:Type}(L:À α)(f:α->Int):(L.map λx=>Ă<|Á<|f x)=cj (L.map f):=϶A cj W5 W5
def AO(ns:À Int)(j:Nat)(z:Int):ϋ ϻx j (.sh<|Á z)=cj (ns.set j z):=by delta cj;rw[W5,W5,Zcs];rfl
def gv(l:À Int)(k:Nat):Int:=l[k]?.getD 0
def Di{ls:À Int}{k:Nat}(h:k<ls.length):ls[k]?=Â (gv ls k):=ϗO gv
def Lu{ls:À Int}{n:Nat}(h:ls.length=n)(N:0<n):T1 (ls.map int) (-1)=some (Á<|gv ls<|n-1):=by
 let H:ls≠[]:=λz=>by rw[z]at h;simp at h;lia
 let e:gv ls (n-1)=ls.getLast H:=by
  let a:=Di (ls:=ls) (k:=n-1) Ã;rw[List.getLast_eq_getElem];rw[Xb Ã]at a;let b:=Zh a;rw[<-b];congr 1;lia
 rw[e]
 conv=>lhs;rw[<-List.dropLast_concat_getLast H,Wx]
 show sI _ _
def gk:Fs:=(av (ϰe ϲF)
 (av (fX (iR1<|Ϥv<|ī (Ů ù cn (Ĥ<|Í 0 ai) 1 [])) (Rm 3) (av (ϲ7<|W8<|Ϩm ù (ϳ6 0 1) (au<|Î gLt 2<|Ĥ<|Í 1 ai) ù 2 [3])
 (av (ϴm<|ϑG<|ae (Ů ϰJ cn (œ (Î F4 1 ù)<|ĵ (ĵ (Î F4 2 ù) ϰ2)<|eC<|Á 0) 1 [1,0,3]) ai)
 (av (ϵY<|Ϥv<|ae (Ů ϰJ cn (œ (Î F4 1 ù)<|ĵ (ĵ (Î F4 2 ù) ϰ2)<|eC<|Á 1) 1 [1,0,3]) ai)
 (ϯU<|gT<|Í 5<|Í 6 ai)))))
 (lA 2)))
def bc:Fn:=Ť 7 gk
def jD:Fs:=(av (ϰe<|W8<|ar m6<|Í 0<|Í 1 ai)
 (av (ϱh<|B2 kF (ĵ (Î F4 2<|eC<|Á 0)<|Ρ<|eC<|Á 1)<|eC<|Á 2)
 (bI<|aV (iZp (Î F4 2<|eC<|Á 0)<|Î F4 2<|eC<|Á 1) (ϳ6 0 1) cn (ϻf (B2 kF (Î bB 0 ĉ)<|eC<|Á 2) δ) 2 [3])))
def bV:Fn:=Ť 4 jD
def uq:Fs:=(av (ϰe<|ϵj (bX<|Ŭ (Á 0) ai)<|Ĥ<|Í 0 ai)
 (av (ϱh<|Ů (ar iz<|Í 0 ai) cn (bX<|ae (W8<|gT<|ae (ϵj (Ρ<|eC<|Á 256) ù)<|ī (ϵj (eC<|Á 256) ù)) ai) 1 [])
 (av (fX (iR3 (ϻf (Ĥ<|Í 0 ai)<|eC<|Á 1) (Ρ<|eC<|Á 1)<|Ρ<|eC<|Á 1) (Rm 4) (av (ϴm<|W8<|Ϫj<|Í 0<|Í 4 ai)
 (X5 (au<|ϫp (Ĥ<|Í 5 ai)<|eC<|Á 0) (av (yB 3 5<|ϵY<|W8<|Fc 3 5)
 (av (ϺU<|W8<|ar bV<|Í 6<|Í 1 ai)
 (av (fX (iZp Ϸk ϵ9) (ϳ6 8 9)<|Ak 2 ϥu<|aa 9)
 (uD 3 ϰJ<|ar bc<|Í 6<|Í 7 ai)))) Wz)))
 (ϪL<|ϪT<|bI<|gT<|Í 2<|Í 3 ai))))
def mB:Fn:=Ť 10 uq
def iq:Fs:=(av (ϱh<|ϑG<|ae (aV (iZp ĉ<|ar iz<|Í 0 ai) (ϳ6 0 1) cn (Î fS 0<|Î jT 2 ĉ) 2 [2]) ai)
 (bI<|Ů ĉ cn (Î fS 0 ĉ) 1 [3]))
def ir:Fn:=bj 3 4 iq
def wB:Fs:=(av (ϰe<|ĵ (ar mB<|Í 0<|Í 1 ai)<|eC<|Á 0)
 (av (ϱh<|bX<|Ŭ (Á 0) ai)
 (av (fX (iR2 (eC<|Á 1)<|Ĥ<|Í 0 ai) (Rm 4)<|oN 3<|vn<|œ (Î F4 3<|ĵ (Î F4 0 ϰJ)<|eC<|Á 0)<|Î F4 2 ϰJ)
 (ϪL<|bI<|ar ir<|Í 0<|Í 3<|Ŭ (Á 256) ai))))
def kC:Fn:=Ť 5 wB
def VL:À Int->Int|[]=>0|a::as=>yJ a as
def oA(O:À Ol)(j l:Nat):ϯF:=ϊ ((O[j]?.getD [])[l]?) (0,0)
def Wn(O:À Ol)(j:Nat):Nat:=(Ì (O[j]?.getD []))
def there(O:À Ol)(l:Nat):Ò:=é (ń O.length) λj=>Ç<|l<Wn O j
def jl(O:À Ol)(T:À Int)(l:Nat):ϯF:=(VL<|Ó (there O l) λj=>gv T j+(oA O j l).1,UI<|Ó (there O l) λj=>gv T j+(oA O j l).2)
def mxN(O:À Ol):Nat:=(UI<|O.map λo=>(Ë o.length)).toNat
def jo(O:À Ol)(T:À Int):Ol:=(ń<|mxN O).map<|jl O T
def uu{st:À Int}{j:Nat}(h:j<st.length):T1 Ϯq ą=Â (Á<|gv st j):=int_at<|Di h
def VI(L:Ò):(L.map (Į (Ă<|Á Þ))).map OD.er=gD L:=by delta gD;rw[W5];show ϧT ϰS
open Classical in
def stF(Rs:Int)(O:À Ol):À Int:=if h:∃T:À Int,bV [Å<|Ud O,Á Rs]=ϲC (cj T)then choose h else []
def ini(T:À Nd)(k:Nat):Ol:=[(-256*϶O k,256*϶O k)]
def FA(out:À Ol)(k:Nat):Ol:=ϊ (out[k]?) []
def zb(T:À Nd)(out:À Ol)(k:Nat):À Ol:=Ó ę<|FA out
def joB(T:À Nd)(Rs:Int)(out:À Ol)(k:Nat):Ol:=jo ϐK<|Ϗq ϐK
def Tb(T:À Nd)(Rs:Int)(k:Nat)(out:À Ol):À Ol:=Ï (ę=[]) out (out.set k (FA out k++joB T Rs out k))
def dq:À Int->Ò->À Int->À Int|o,c::cs,s::ss=>dq (o.set c s) cs ss|o,_,_=>o
def Tn(T:À Nd)(Rs:Int)(k:Nat)(out:À Ol)(off:À Int):À Int:=if ę=[]then off else dq off ę (Ϗq ϐK)
def PO(T:À Nd)(Rs:Int):Nat->À Ol×À Int|0=>(Ó ŵ<|ini T,ϲy T.length 0)|m+1=>(Tb T Rs (϶1 1-m) (PO T Rs m).1,Tn T Rs (϶1 1-m) (PO T Rs m).1 (PO T Rs m).2)
theorem uZ:∀(o:À Int)(C:Ò)(ss:À Int)(c:Nat)(s:Int),ϘL->dq o (C++[c]) (ss++[s])=ϋ ϮT c s
 |o,[],[],c,s,_=>rfl
 |o,[],s'::ss,c,s,h=>ϵH
 |o,c'::C,[],c,s,h=>ϵH
 |o,c'::C,s'::ss,c,s,h=>by rw[y_,y_,dq,dq,uZ _ C ss c s ϶r]
theorem rS:∀(o:À Int)(C:Ò)(ss:À Int),Ì ϮT=o.length
 |o,[],ss=>ϔp
 |o,c::C,[]=>ϓ6
 |o,c::C,s::ss=>by rw[dq,rS _ C ss,K8z]
theorem rN:∀(o:À Int)(C:Ò)(ss:À Int)(x:Nat),x∉C->gv ϮT x=gv o x
 |o,[],ss,x,_=>ϔp
 |o,c::C,[],x,_=>ϓ6
 |o,c::C,s::ss,x,h=>by
  rw[dq,rN _ C ss x λz=>h<|Ā z];delta gv;rw[K9E λz=>h<|Ù z P0]
theorem xO:∀(o:À Int)(C:Ò)(ss:À Int)(i:Nat)(x:Nat),C.Nodup->(∀c∈C,c<o.length)->ϘL->C[i]?=Đ->gv ϮT x=gv ss i
 |o,[],ss,i,x,_,_,_,h=>ϵH
 |o,c::C,[],i,x,_,_,h,_=>ϵH
 |o,c::C,s::ss,i,x,nd,hb,hl,h=>by
  let(N,n):=ϺW;rw[dq];cases i with
  |zero=>
   let X:c=x:=϶r
   subst X;rw[rN _ C ss c N];delta gv;rw[K9I<|hb c P0];rfl
  |succ i=>
   rw[xO _ C ss i x n (λd H=>Ù K8z (hb d<|Ā H)) (ť hl) ϶r];rfl
def rP{T:À Nd}{k j:Nat}:j∈ę↔Ϧ2/\ϱD j=Þ:=ώb I2
def u9{T:À Nd}(he:ϳk){k j:Nat}(h:j∈ę):k<j/\Ϧ2:=by
 let(H,a):=rP.mp h;obtain⟨n,N⟩:∃n,T[j]?=ϰQ:=⟨T[j],ϑa⟩
 let:=(he j n N).2.2;rw[cC N]at a;show(Ã,H)
def Gm(T:À Nd)(k:Nat):(ϰs ę):=List.Pairwise.imp (λh=>Ym h) (show Ϲk ę ϶3 by delta I2;show Ϫz)
def Pn(T:À Nd)(k:Nat):ϧy (Ì ę):=by
 delta I2;let:=K8i (λj=>Ç<|ϱD j=Þ) ŵ;rw[Wu]at this;show this
structure PI(ts:À Nd)(Rs:Int)(m:Nat):Prop where
 l1:϶U (Ì (Ϸ0).1)
 l2:϶U (Ì (Ϸ0).2)
 lo:∀k,k<ϑx->FA (Ϸ0).1 k=ini ts k
 hi:∀k,ϑx<=k->ľ->FA (Ϸ0).1 k=ini ts k++(Ï (Ş k=[]) []<|joB ts Rs (Ϸ0).1 k)
 ln:∀k,ľ->ϭA 1 (Ì (FA (Ϸ0).1 k)) (ts.length-k)
 of:∀k,ϑx<=k->ľ->∀i j,Ķ (Ş k)=ϰR->gv (Ϸ0).2 j=gv (Ϗq<|zb ts (Ϸ0).1 k) i
 z:gv (Ϸ0).2 0=0
def Ai{ch:Ò}{j:Nat}:BD (nD ch) j=true↔j∈ch:=by
 delta BD nD iL;rw[Zax];constructor
 .rintro⟨d,hd,e⟩
  rw[W5]at hd;let(k,H,rfl):=Zc.mp hd;let e':Ç (Þ=ą)=true:=e;let:=of_decide_eq_true e';rw[ņ (j=k)];show H
 ext h;show(Á ą,Ù W5 (ϳP ⟨j,h,rfl⟩),ϻq)
def Kh{ch:Ò}{xs:À OD}:∀C:Ò,(∀j∈C,j∈ch/\ϑf)->mw (ϲt ch) (nD C)=some (C.map λj=>ϊ (xs[j]?.map OD.er) æ):=by
 ext y
 induction y with
 |nil=>ext _;show rfl
 |cons j r Y2=>
  ext h;let i:=Y2 λk K=>h k<|Ā K;let(a,H):=h j P0;change mw (ϲt ch) (Á ą::nD r)=_;delta mw;let x:Xx (Ì (ϲt ch)) ą=ϰR:=gh (ϻ7 sF);let gt:(ϲt ch)[j]?=É ϒd:=by
   rw[wY,Xb H];change Â (Ï (BD (nD ch) (0+j)=true) (Ă ϒd)<|xs[j])=_;rw[K83,Os<|Ai.mpr a]
  rw[x];change(match (ϲt ch)[j]? with|some (.sh d)=>(mw (ϲt ch)<|nD r).map λs=>d::s|_=>none)=_;rw[gt];change(mw (ϲt ch)<|nD r).map (λs=>ϒd::s)=_;rw[i,L4,Xb H];rfl
def OG(T:À Nd)(off:À Int):Nat->À Int|0=>[0]|i+1=>OG T off i++[gv (OG T off i) (ϱD<|i+1).toNat+gv off (i+1)]
def VN(T:À Nd)(Rs:Int):À Int:=Ϛf<|϶1 1
def pos(T:À Nd)(Rs:Int)(k:Nat):Int:=gv (VN T Rs) k
def rT{g:Fg}{el:Fe}{b:L3.Env}{ds:À Gc}{r:R (À OD)}(l:ϑ6 b ds []=r)(L:ds.length<=1000)(h:∀(i:Nat) d,ds[i]?=ϰH->∃z:Int,X6 el (g Ē b)=Ú (Á z)):∃zs:À Int,zs.length=ds.length/\r=ò (cj zs):=by
 let a:∀d,∃z:Int,d∈ds->X6 el (g Ē b)=Ú (Á z):=λd=>by
  by_cases H:d∈ds
  .let(i,hi):=Zan H
   let(z,Z):=h i d hi;show(z,λ_=>Z)
  show(0,λz=>Ć z H)
 let(f,F):=Classical.axiomOfChoice a;let:=fL l id (λd=>.sh<|Á<|f d) ds (List.map_id _).symm (Yf<|ax L) F;rw[HY]at this;show(_,K1 _,this)
def BP{zs:À Int}(h:0<zs.length):(∃m,mQ [Å<|zs.map int]=Ú (Á m)/\m∈zs)/\∃m,vd [Å<|zs.map int]=Ú (Á m):=by
 cases zs with
 |nil=>cases h
 |cons a as=>show((_,JL a as,(uo as a).1),_,Qi a as)
def Pr(n:Nat)(s:À Gc):Prop:=1<=s.length/\s.length<=n/\∀x∈s,ϫE (x=ï [Á a,Á b])
def IsO(n:Nat)(d:Gc):Prop:=∃s,d=Å s/\Pr n s
def IsO.mono{n m:Nat}{d:Gc}(h:IsO n d)(l:n<=m):IsO m d:=let⟨xs,e,a,b,c⟩:=h;⟨xs,e,a,Zd b l,c⟩
def okD(n:Nat)(O:À Gc):Prop:=(∀d∈O,IsO n d)/\1<=O.length/\O.length<=100/\n<=100
section
variable{O xs ys:À Gc}{n:Nat}{Rs:Int}
def lO(O:À Gc)(k:Nat):À Gc:=match O[k]? with
 |some (.list xs)=>xs
 |_=>[]
def xt(Q:ϻa){k:Nat}(h:k<O.length):T1 O Þ=Â (Å<|Ϸt k)/\O[k]?=Â (Å<|Ϸt k)/\Pr n (Ϸt k):=by
 let(s,e,p):=Q.1 _<|Zab h;let:=Xb h;rw[e]at this;let E:Ϸt k=s:=Ŷ lO this
 rw[E];show(FZ _ _ _ this,this,p)
def xK(h:Pr n xs)(Y:Pr n ys)(N:n<=100):∃m l:Int,hX [Å xs,Å ys,Á Rs]=Ú (ï [Á m,Á l]):=by
 delta hX rF;let(x1,x2,P):=h;let(y1,_,py):=Y;let z:Ì (lG xs ys)=min xs.length ys.length:=ϴh lG K1 Zas
 simp![S5];generalize H:Ż=r;let(zs,Z,rfl):=rT H Ã λi d D=>by let(x,y,h,Y,rfl):=kP D;let(a,b,rfl):=P x<|Y4 h;let(a,b,rfl):=py y<|Y4 Y;simp![S5];show(_,rfl)
 obtain⟨⟨m,M,A⟩,_⟩:=ϦR Ã;let hi:=Nk zs m A;simp![cM,M,hi];show(_,_,rfl)
def BO(Q:ϻa):∃e:À Int,ώO/\cI [Å O,Á Rs]=ϲC (cj e):=by
 delta cI fM;have⟨_,l0,l1,hn⟩:=Q;let s1:ā aG 1:=ϱo á;let s:ā aG ((Ë O.length)):=ϱo Ã;simp![s1,s,K7c];generalize L:ϰz=r';apply ϺQ (λi a=>∃(e:À Int)(B v:Ö OD),e.length=i+1/\a=[É<|Å O,É<|Á Rs,Ď<|cj e,B,v]) ⟨[0],_,_,rfl,rfl⟩
 .rintro i d a h ⟨e,B,v,le,rfl⟩
  let(hi,rfl):=eM h;let S:ā aG (1+ë):=ϱo Ã;let y:=xt Q (k:=1+i) Ã;let H:=y.1;rw[ņ (Ë ϯG=1+ë)]at H;simp![cM,S];generalize u:Ż=rc;let(zs,Z,rfl):=rT u (î dI) λk d h=>by
   let(K,rfl):=eM h;let o:=xt Q (k:=k) Ã;let(m,l,q):=xK (Rs:=Rs) o.2.2 y.2.2 hn;let g1:=uu (st:=e) (j:=k) Ã;rw[K8P];simp![g1,o.1,H,q];show(_,rfl)
  rw[dI]at Z;obtain⟨⟨m,M,_⟩,_⟩:=ϦR Ã;let b:ϴj (Ì (cj e)):=Ù sV (dX Ã)
  simp![xR,cM,M,b,yE];show(_,_,_,by rw[Ww,le];rfl,rfl)
 ext ρ' rfl ⟨e,B,v,le,rfl⟩;rw[dI]at le;simp![S5];show(e,Ã,rfl)
def IK{last:Int}(Q:ϻa):∃e:À Int,ώO/\dh [Å O,Á Rs,Á last]=ϲC (cj e):=by
 delta dh iu;have⟨_,l0,l1,hn⟩:=Q;let r:jT (Å [Á last]) (Á (Ë O.length))=ĥ cj (ϲy O.length last):=by
  rw[vC _ _ Ã];delta cj;rw[Zam,Zam,Zam]
 let C:=λ(ρ:L3.Env)(h:(B2 fS (aa 3)<|eC<|.int 2) ρ=.ok (.sh<|.int<|(O.length:Int)-2))=>Ux (fa:=Î fS 3<|eC<|Á 2) (fb:=Ρ<|eC<|Á 1) (fc:=Ρ<|eC<|Á 1) (ρ:=ρ) (x:=Ë O.length-2) (y:=-1) (z:=-1) h rfl rfl rfl (ϱo Ã) (ϱo á);simp![r];rw[C _ rfl];simp![S5];generalize L:ϰz=r';apply ϺQ (λi ρ=>∃(e:À Int)(v v6 V:Ö OD),ώO/\ρ=[É<|Å O,É<|Á Rs,É<|Á last,É<|Á O.length,Ď<|cj e,v,v6,V]) ⟨_,_,_,_,K8r,rfl⟩
 .rintro i d ρ H ⟨e,v,v6,V,le,rfl⟩
  let(hi,rfl):=Am H;obtain⟨m,M⟩:∃m:Nat,Ë O.length-2-ë=ϰG:=⟨ē (Ë O.length-2-ë),Ã⟩
  rw[M];let o:=xt Q (k:=m) Ã;let s:ā aG (ϰG+1):=ϱo Ã;let s4:ā aG ((Ë O.length)):=ϱo Ã;simp![o.1,s,s4,K7c,cM];generalize u:Ż=rc;let(zs,Z,rfl):=rT u (î dI) λk d H=>by
   let(K,rfl):=eM H;let Y:=xt Q (k:=m+1+k) Ã;let h:=Y.1;let(q,l,a):=xK (Rs:=Rs) o.2.2 Y.2.2 hn;let g1:=uu (st:=e) (j:=m+1+k) Ã;rw[ņ (Ë (m+1+k:Nat)=ϰG+1+Þ)]at h g1;simp![g1,h,a];show(_,rfl)
  rw[dI]at Z;let(_,q,a):=ϦR Ã;let I:Xx (Ì (cj e)) ϰG=some m:=gh (î sV);simp![xR,cM,a,C_ I,AO];show(_,_,_,_,by rw[K8z,le],rfl)
 ext ρ' rfl ⟨e,v,v6,V,le,rfl⟩;simp![S5];show(e,le,rfl)
def HN(Q:ϻa):∃T:À Int,ϭl/\bV [Å O,Á Rs]=ϲC (cj T):=by
 have⟨_,l0,l1,hn⟩:=Q;let(e,le,he):=BO (Rs:=Rs) Q;let Z:=Lu le Ã;let(l,L,a):=IK (Rs:=Rs) (last:=gv e<|O.length-1) Q;delta bV jD m6 rO;simp![he,a,cM,Z];generalize u:Ż=rc;let b:Ì (lG (e.map int)<|l.map int)=O.length:=ύu K1
 let(zs,z,rfl):=rT u Ã λk d H=>by let(x,y,h,Y,rfl):=kP H;rw[T2]at h Y;let(x,_,rfl):=ϸc;let(y,_,rfl):=Zb.mp Y;simp![S5];show(_,rfl)
 simp![S5];show(zs,Ã,rfl)
def ln(O:À Gc)(k:Nat):Nat:=(Ì (Ϸt k))
def thr(O:À Gc)(l:Nat):Ò:=é (ń O.length) λj=>Ç<|l<ln O j
def Rz(Q:ϻa):eA O=Ó (ń O.length) (ϸw (ϳv [Á ą,Å<|Ϸt j])):=by
 apply Y_;ext i;delta eA;rw[T2,T2,K8Q];by_cases hi:i<O.length
 .rw[Ϸr,(xt Q hi).2.1]
  simp
 rw[Ye Ã,Ye<|î Wu];rfl
def JI{T:À Int}(Q:ϻa)(S:ϭl):∃s:À Gc,bc [Å O,Å ϦX]=ĥ s.map OD.sh/\s.length<=n/\∀x∈s,ϫE (x=ï [Á a,Á b]):=by
 delta bc gk;have⟨ho,l0,l1,hn⟩:=Q;simp![S5];generalize u:Ż=rc
 let e:=fL u (Į<|Å<|Ϸt k) (Į<|.sh<|Á (ln O k:Int)) (ń O.length) (by
  apply Y_;ext i;rw[T2];by_cases hi:i<O.length
  .rw[Ϸr,(xt Q hi).2.1]
   rfl
  .rw[Ye Ã,Ye<|î Wu]
   rfl) (Ù Wu<|ν Ã) (by
  ext k K;simp![S5];rfl)
 subst e;clear u;rw[HY];obtain⟨⟨M,o,w⟩,_⟩:=BP (zs:=Ó (ń O.length) (Į (ln O k:Int))) (ϰP K1 Wu);let(q,l,rfl):=Zc.mp w;let l:=X4.mp l;let N:ln O q<=n:=(xt Q l).2.2.2.1;let s1:ā aG (ln O q:Int):=ϱo Ã;simp![cM,o,s1];generalize L:ϰz=r';apply ϺQ (λi m=>∃(s:À Gc)(B v V v6:Ö OD),s.length=i/\(∀x∈s,ϫE (x=ï [Á a,Á b]))/\m=[É<|Å O,É<|Å ϦX,Ď ϩV,B,v,V,v6]) ⟨[],_,_,_,_,rfl,(λ_ h=>nomatch h),rfl⟩
 .rintro i d m H ⟨s,B,v,V,v6,lj,J,rfl⟩
  let(hi,rfl):=eM H;rw[Xz]at hi;rw[K8P];let t:∀j∈Ϻ1,j<O.length/\ϯn:=λj J=>by let:=Yg.mp J;show(X4.mp this.1,of_decide_eq_true this.2)
  let tl:Ì Ϻ1<=O.length:=ϴF (K8i (λj=>Ç ϯn)<|ń O.length) Wu
  let t0:0<Ì Ϻ1:=Zby<|ϻg (X4.mpr l) (W6 hi);simp![S5];generalize u:Ż=rc
  let e:=gN u (ϸw<|ϳv [Á ą,Å<|Ϸt j]) (λj=>Ç ϯn) (ϸw<|.sh<|Á ą) (ń O.length) (Rz Q) (Ù Wu<|ν Ã) (by
   ext j J;let D:Ç (ë<Ë ((Ì (Ϸt j))))=Ç ϯn:=Ϩ3 (by delta ln;lia);apply(?_,ϵf)
   .simp![D]
   simp![S5])
  subst e;clear u;simp![VI];let g3:∀(k:Nat)(d:Gc),(gD Ϻ1)[k]?=ϰH->ϵn (d=Á ą/\Ϧ2/\j<O.length/\ϫE (T1 (Ϸt j) ë=Â (ï [Á a,Á b]))):=λk d H=>by delta gD at H;rw[T2]at H;let(j,J,rfl):=Zb.mp H;have⟨c,f⟩:=t j<|Y4 J;let g:i<Ì (Ϸt j):=f;let(a,b,e):=ϚQ<|Zab g;show(j,rfl,Ã,c,a,b,FZ _ _ _<|by rw[Xb g,e])
  let nl:Ì (gD Ϻ1)=Ì Ϻ1:=Ŷ gD K1
  generalize u:Ż=rc;let(zs,r,rfl):=rT (ds:=gD Ϻ1) u Ã ϒM
  clear u;let(_,x,X):=ϦR Ã
  simp![cM,X];generalize u:Ż=rc;let(zs,r,rfl):=rT (ds:=gD Ϻ1) u Ã ϒM
  clear u;obtain⟨⟨y,Y,_⟩,_⟩:=ϦR Ã
  let p:=dX (n:=s.length) Ã;simp![cM,Y,p];apply(s++[ï [Á x,Á y]],_,_,_,_,ϳB Ww lj,ϤB,ϰd Wx);rcases P1.mp Z with h|h
  .exact J z h
  show(x,y,Y8.mp h)
 ext ρ' rfl ⟨s,B,v,V,v6,lj,J,rfl⟩;rw[dI,Xz]at lj;simp![S5];show(s,rfl,Ã,J)
end
open Classical in
open Classical in
def SX(Rs:Int)(O:À Gc):À Int:=epsilon λT:À Int=>ϭl/\bV [Å O,Á Rs]=ϲC (cj T)
open Classical in
def JX(O:À Gc)(T:À Int):À Gc:=epsilon λs:À Gc=>bc [Å O,Å ϦX]=ĥ s.map OD.sh
def sX{Rs:Int}{n:Nat}{O:À Gc}(Q:ϻa):Ì (ϺS O)=O.length/\bV [Å O,Á Rs]=ĥ cj (ϺS O):=Zaq<|HN Q
def jX{n:Nat}{O:À Gc}{T:À Int}(Q:ϻa)(S:ϭl):bc [Å O,Å ϦX]=.ok (Ĩ<|JX O T)/\Ì (JX O T)<=n/\∀x∈JX O T,ϫE (x=ï [Á a,Á b]):=by
 let(s,e,r):=JI Q S;let q:bc [Å O,Å ϦX]=.ok (Ĩ<|JX O T):=Zaq (p:=λs:À Gc=>bc [Å O,Å ϦX]=ĥ s.map OD.sh) ⟨s,e⟩;rw[e]at q;let j:ϩV=Ó (JX O T) OD.sh:=OD.ol.inj<|R.ok.inj q;let z:=Ϭ6 OD.er j;rw[aN,aN]at z;rw[<-z];show(e,r)
def Z9(s:À OD)(k:Nat):Gc:=ϊ (s[k]?.map OD.er) æ
def vk(T:À Nd)(Rs:Int)(out:ϧJ)(k:Nat):Gc:=Å (ï [Á<|-256*϶O k,Á<|256*϶O k]::Ï (ę=[]) [] (JX (Ó ę out) (ϺS<|Ó ę out)))
def Q4(T:À Nd)(Rs:Int)(out:ϧJ)(off:À Int)(k:Nat):Prop:=∀i j,Ķ ę=ϰR->gv off j=gv (ϺS<|Ó ę out) i
def Hy{T:À Nd}{Rs:Int}{o p:ϧJ}{k:Nat}(h:∀j∈ę,o j=p j):Ϥ5 o k=Ϥ5 p k:=Ŷ vk (Ze h)
def Hs(T:À Nd)(Rs:Int)(he:ϳk)(h0:ϵ6 0)(hl:ϱs 100)(L:Ϭr):∃(off:À Int)(out:ϧJ)(d:Gc),ϴn off.length/\(∀k,ϰV->out k=Ϥ5 out k/\Q4 T Rs out off k)/\mB [Å Ō,Á Rs]=Ú (ï [Å<|off.map int,d]):=by
 delta mB uq;let rp:=vC (Á 0) T.length Ã;let ri:(ϲy T.length<|int 0).map OD.sh=cj (ϲy T.length 0):=by delta cj;rw[Zam,Zam,Zam]
 let G:ϴn (Ì (kT T)):=Ŷ kT K1
 simp![az,rp,ri,xb T L hl,HY,Zct,cM];generalize X:Ż=rc;let e:=fL X int (λz:Int=>ϻd (ï [Á<|-256*z,Á<|256*z])) (kT T) rfl (Ù G<|ν Ã) (by ext z hz;simp![S5]);subst e;clear X;let r3:=λ(ρ:L3.Env)(p:(B2 fS (eB bU<|ae (aa 0) ai)<|eC<|.int 1) ρ=.ok (.sh<|.int<|(T.length:Int)-1))=>Ux (fa:=ϻf (Ĥ<|Í 0 ai)<|eC<|Á 1) (fb:=Ρ<|eC<|Á 1) (fc:=Ρ<|eC<|Á 1) (ρ:=ρ) (x:=Ë T.length-1) (y:=-1) (z:=-1) p rfl rfl rfl (ϱo Ã) (ϱo á);simp![S5];rw[r3 _<|by simp![az]];simp![S5];generalize hL:ϰz=r';apply ϮY (λm ρ=>∃(off:À Int)(xs:À OD)(M N v6 P V v:Ö OD),ϴn off.length/\ϴn xs.length/\(∀x∈xs,IsO (m+1) x.er)/\(∀q,ϵ6 (q+m)->xs[q]?=Â (ϻd<|ï [Á<|-256*϶O q,Á<|256*϶O q]))/\(∀k,ϱs (k+m)->ϰV->ϱO k=Ϥ5 ϱO k/\Q4 T Rs ϱO off k)/\ρ=[É<|Å Ō,É<|Á Rs,Ď<|cj off,Â ϲD,M,N,v6,P,V,v]) ?_
 .apply(_,_,_,_,_,_,_,_,K8r,?_,λx H=>?_,Ϥw,λk p r=>Ã,rfl)
  .rw[K1,G]
  .let(z,_,rfl):=ϵ3
   show(_,eP _,õ,õ,λx H=>⟨_,_,Y8.mp H⟩)
  rw[T2,Di<|î G];rfl
 .rintro m d ρ D ⟨off,xs,M,N,v6,P,V,v,lo,lx,H,Q,hr,rfl⟩
  let(hm,rfl):=Am D;obtain⟨k,K⟩:∃k:Nat,Ë T.length-1-ϰG=Þ:=⟨϶1 1-m,Ã⟩
  rw[K];let l:ϰV:=Ã
  let W:=iW T k l hl;let ek:ϱO k=Å [ï [Á<|-256*϶O k,Á<|256*϶O k]]:=by
   delta Z9;rw[Q k Ã];change(OD.ol [Ă _]).er=_;rw[eP,L4,aS];rfl
  by_cases hc:ę=[]
  .let A:à (Ç (Ë 0<Ë ((Ì (nD ę))))):=Ll (by rw[aD,hc];decide)
   simp![W,aQ,A];apply(off,xs,_,_,_,_,_,_,lo,lx,λx h=>Ŵ (H x h) Ã,λq h=>Q q Ã,λq p r=>?_,rfl);by_cases z:q=k
   .subst z
    apply(?_,λi j J=>by rw[hc]at J;cases J);delta vk;rw[Os hc];show ek
   show hr q Ã r
  let cp:=List.length_pos_iff.mpr hc;let cl:=Pn T k;let A:Ç (Ë 0<Ë ((Ì (nD ę))))=true:=W6 (î aD);let gt:mw (ϲt ę) (nD ę)=Â (Ó ę ϱO):=Kh (ch:=ę) (xs:=xs) ę λj J=>⟨J,Ù lx (ϻs J).2⟩
  let B:okD (m+1) (Ó ę ϱO):=by
   apply(ϯz,Ù K1 cp,î K1,Ã);let(j,J,rfl):=Zc.mp D;let jl:ϑf:=Ù lx (ϻs J).2
   delta Z9;rw[Xb jl];show H _<|Zab jl
  let U:Ì (Ó ę ϱO)=Ì ę:=K1 _;let R:Ϥ5 ϱO k=Å (ï [Á<|-256*϶O k,Á<|256*϶O k]::JX (Ó ę ϱO) (ϺS<|Ó ę ϱO)):=Ŷ vk (P3 hc)
  let(E,t):=sX (Rs:=Rs) B;let(S,jl,jp):=jX B E;let of:∀o,Q4 T Rs ϱO o k↔∀i j,Ķ ę=ϰR->gv o j=gv (ϺS<|Ó ę ϱO) i:=λo=>Iff.rfl;generalize ϺS (Ó ę ϱO)=st at E t S jl jp of R;generalize JX (Ó ę ϱO) st=js at S jl jp R;generalize Ó ę ϱO=O at gt B U E t S;let I:Ì ę=st.length:=Ã
  simp![W,aQ,A];rw[PB (xs:=xs) (ks:=nD ę) rfl rfl];simp![S5];rw[SQ (i:=3) (c:=5) (xs:=ϲt ę) (ks:=nD ę) rfl rfl gt<|by rw[U];show ν Ã];simp![aN,t,cM];generalize u:ϰz=r2;apply cD u (λi ρ=>∃V v:Ö OD,ρ=[É<|Å Ō,É<|Á Rs,Ď<|cj<|dq off (ζ ę i)<|st.take i,Ď<|ϲt ę,É<|Á k,É<|Å<|nD ę,É<|Å O,É<|Å Ϯq,V,v]) ⟨_,_,by rw[K7l,K7l,dq];ext _ _ _ _ h;cases h⟩ ?_ ?_
  .rintro i d ρ D ⟨V,v,rfl⟩
   let(x,y,H,Y,rfl):=kP D;delta nD iL at H;rw[W5,T2]at H;let(j,J,rfl):=Zb.mp H;rw[T2]at Y;let(s,hs,rfl):=Zb.mp Y;let ix:Xx (cj<|dq off (ζ ę i)<|st.take i).length ą=ϰR:=gh (by rw[sV,rS,lo];show(ϻs<|Y4 J).2);simp![Function.comp,C_ ix,AO];rw[take_snoc J,take_snoc hs,uZ _ _ _ _ _<|by rw[Zg,Zg,I]];show(_,_,rfl)
  ext ρ' rfl ⟨V,v,rfl⟩;let zl:Ì (lG (nD ę) Ϯq)=Ì ę:=by delta lG;rw[K1,Zas,aD,K1,<-I,Nat.min_self]
  rw[zl,K90 õ,K90 Ã];let Z:∀q,q<=k->(ϲt ę)[q]?=xs[q]?:=λq Q=>by
   rw[wY];cases xs[q]? with
   |none=>rfl
   |some x=>
    change Â (Ï (BD (nD ę) (0+q)=true) _ _)=_;rw[P3 λz=>Œ (ϻs<|Ai.mp z).1]
  let ab:=Q k Ã;generalize F:dq off ę st=off2
  let ex:=L_ (i:=3) (k:=ϰJ) (a:=ar bc<|Í 6<|Í 7 ai) (ρ:=[É<|Å Ō,É<|Á Rs,Ď<|cj off2,Ď<|ϲt ę,É<|Á k,É<|Å<|nD ę,É<|Å O,É<|Å Ϯq,V,v]) (xs:=ϲt ę) (zs:=js.map OD.sh) (z:=k) (j:=k) rfl rfl (gh<|Ϯv sF lx) (è (Z k õ) ab) (by simp![S]) (by
   rw[K1];change 1+js.length<=_
   show ν Ã)
  simp![S5];rw[ex];simp![S5];let fe:∀q,Z9 (ϲt ę) q=ϱO q:=λq=>by delta Z9;rw[<-T2,<-T2,CF]
  let oo:∀(y:OD) q,q≠k->Z9 ((ϲt ę).set k y) q=ϱO q:=λy q Q=>by rw[<-fe q];delta Z9;rw[K9E<|K8g Q]
  let ok:∀y:OD,Z9 ((ϲt ę).set k y) k=y.er:=λy=>by
   delta Z9;rw[K9I<|Ϯv sF lx];rfl
  apply(off2,_,_,_,_,_,_,_,by rw[<-F,rS,lo],by rw[K8z,sF,lx],λx h=>?_,ϪF,λq p r=>?_,rfl)
  .rcases List.mem_or_eq_of_mem_set h with h|rfl
   .let:=List.mem_map_of_mem (f:=OD.er) h
    rw[CF]at this;let(y,Y,e):=Zc.mp this;rw[<-e];show Ŵ (H y Y) Ã
   apply(_,eP _,Nat.le_add_left 1 _,?_,λx h=>?_)
   .rw[K1,Xt,K1]
    lia
   rw[L4,aN]at h;rcases W7.mp h with rfl|h
   .exact(_,_,ϰS)
   show jp x h
  .rw[K9E Ã,Z q Ã]
   show Q q Ã
  let g:∀(y:OD),(∀j∈ϲI q,Z9 ((ϲt ę).set k y) j=ϱO j):=λy j J=>oo y j (Œ (ϻs J).1);by_cases z:q=k
  .subst z
   rw[Hy<|g _,ok,R];apply(?_,λi j J=>?_)
   .change(OD.ol<|Ă _::_).er=_
    rw[eP,L4,aS,aN]
   rw[Ze<|g _];show Ψ (of off2) (λi j J=>by rw[<-F];show xO _ _ _ i j (Gm T q) (λc C=>Ù lo (ϻs C).2) I J) i j J
  have⟨r1,r2⟩:=hr q Ã r;rw[Hy<|g _,oo _ q z];apply(r1,λi j J=>?_);rw[Ze<|g _,<-r2 i j J,<-F,rN _ _ _ j λw=>?_];let a:=(rP.mp<|Y4 J).2;let b:=(rP.mp w).2;rw[a]at b;lia
 ext ρ' rfl ⟨off,xs,M,N,v6,P,V,v,lo,lx,H,Q,hr,rfl⟩;rw[JT]at hr;simp![eP,cM];show(off,ϱO,_,lo,λk K=>hr k Ã K,rfl)
def DrR(T:À Nd)(Rs:Int)(ps:À Int):Prop:=∃out:ϧJ,(∀k,ϰV->out k=Ϥ5 out k)/\∀k,ϰV->∀i j,Ķ ę=ϰR->ϲc j=ϲc k+gv (ϺS<|Ó ę out) i
def MX(T:À Nd)(Rs:Int)(he:ϳk)(c:ϵ6 0)(l:ϱs 100)(L:Ϭr):∃ps:À Int,ϴn ps.length/\όp ps/\kC [Å Ō,Á Rs]=ĥ cj ps:=by
 let(off,out,t,O,o,p):=Hs T Rs he c l L;delta kC wB;let G:ϴn (Ì (kT T)):=Ŷ kT K1
 let s1:ā aG 1:=ϱo á;let s:ā aG ((Ë T.length)):=ϱo Ã;simp![p,az,s1,s,K7c];generalize f:ϰz=r';apply cD f (λi b=>∃(ps:À Int)(v:Ö OD),Ϸ4 (i+1)/\(∀j(k:Nat),j<i+1->ϱD j=Þ->ϲc j=ϲc k+gv off j)/\b=[É<|Å Ō,É<|Á Rs,É<|Å<|off.map int,Ď<|cj ps,v]) ⟨[0],_,rfl,λj k a h=>?_,rfl⟩ ?_ ?_
 .obtain⟨n,H⟩:∃n,T[j]?=ϰQ:=⟨T[j],Û⟩
  let:=(he j n H).1 Ã;rw[cC H]at h;lia
 .rintro i d b D ⟨ps,v,lp,hv,rfl⟩
  let(hi,rfl):=eM D;let I:ϵ6 (i+1):=Ã
  rw[ņ (Ë 1+ë=Ë ϪG)];obtain⟨n,H⟩:∃n,T[i+1]?=ϰQ:=ϖk
  let el:=he (i+1) n H;obtain⟨k,h⟩:∃k:Nat,n.e=Þ:=⟨n.e.toNat,Œ (el.2.1 Ã)⟩
  let g3:=eQ H;rw[h]at g3;let g1:=uu (st:=ps) (j:=k) (Œ el.2.2);let g2:=uu (st:=off) (j:=i+1) Ã;let B:ϴj (Ì (cj ps)):=Ù sV (dX Ã)
  simp![cM,g1,g2,g3,B,yE];let gl:∀q z,q<ps.length->gv (ps++[z]) q=ϲc q:=λq z Q=>Ŷ gv (K9V Q)
  apply(_,_,ϳB Ww lp,λj q a Q=>?_,rfl);by_cases z:j=i+1
  .subst z
   rw[cC H,h]at Q;let:q=k:=Ã
   subst this;rw[gl q _<|Œ el.2.2];delta gv;rw[K9a Ã,lp,K8c];rfl
  let r:q<j:=by
   obtain⟨m,M⟩:∃m,T[j]?=some m:=⟨T[j],Û⟩
   let:=(he j m M).2.2;rw[cC M]at Q;lia
  rw[gl j _ Ã,gl q _ Ã];show hv j q Ã Q
 ext ρ' rfl ⟨ps,v,lp,hv,rfl⟩;rw[dI]at lp hv;delta ir iq;let A:ϴn (Ì (lG ϐL<|Ó (kT T) int)):=ύu K1
 simp![cM,xb T L l,HY,Zct];generalize u:Ż=rc;let(zs,w,rfl):=rT u Ã λk d D=>by let(x,y,X,Y,rfl):=kP D;rw[T2]at X Y;let(x,_,rfl):=϶d X;let(y,_,rfl):=Zb.mp Y;simp![S5];show(_,rfl)
 clear u;let(_,x,X):=ϦR Ã
 simp![cM,X];generalize u:Ż=rc;let e:=fL u int (λz:Int=>Ă<|Á<|z-x) ps rfl (ν Ã) (by ext z Z;simp![S5]);subst e;rw[HY];simp![S5];let g:∀q,ϵ6 q->gv (ps.map λz=>z-x) q=ϲc q-x:=λq Q=>϶A gv T2 (Xb Ã)
 apply(_,î K1,(out,λk h=>(o k h).1,λk h i j a=>?_),rfl);let J:=rP.mp<|Y4 a;rw[g j J.1,g k h,hv j k Ã J.2,(o k h).2 i j a];lia
open Classical in
def dry(T:À Nd)(Rs:Int):À Int:=epsilon λps:À Int=>ϴn ps.length/\όp ps/\kC [Å Ō,Á Rs]=ĥ cj ps
def Pz(T:À Nd)(Rs:Int)(he:ϳk)(a:ϵ6 0)(h:ϱs 100)(L:Ϭr):ϴn (Ì (dry T Rs))/\όp (dry T Rs)/\kC [Å Ō,Á Rs]=ĥ cj (dry T Rs):=Zaq<|MX T Rs he a h L
structure Alk(S T:À Nd)(f:Ě)(G:϶P):Prop where
 lt:∀p,G p->ϒe/\ϵ6 (f p)
 ch:∀p,G p->ϲI (f p)=Ó Ϩf f
 up:∀p,G p->∀c∈Ϩf,G c
 re:∀p,G p->gv (kT S) p=϶O (f p)
def Alk.out{S T:À Nd}{f:Ě}{G:϶P}{Rs:Int}{o a:ϧJ}(A:Alk S T f G)(he:EL S)(h:∀k,k<S.length->o k=vk S Rs o k)(H:∀k,ϰV->a k=Ϥ5 a k):∀m p,G p->p+m=S.length->o p=a (f p):=by
 ext m
 induction m using Nat.strongRecOn with
 |_ m ih=>
  ext p g M;have⟨l1,l2⟩:=A.lt p g;let e:(ϲI<|f p).map a=Ó Ϩf o:=by
   rw[όq,W5];apply Ze Ϫb;let J:=ϻs hc;show(ih (S.length-c) Ã c (A.up p g c hc) Ã).symm
  rw[h p l1,H _ l2];delta vk;rw[e,A.re p g,όq];by_cases z:Ϩf=[]
  .rw[Χ,Os<|ϰd z]
  rw[Ε,ϧO (List.map_eq_nil_iff.mp w)]
def Alk.step{S T:À Nd}{f:Ě}{G:϶P}{Rs:Int}{ps q:À Int}(A:Alk S T f G)(he:EL S)(h:DrR S Rs ps)(H:όp q){p c:Nat}(g:G p)(hc:c∈Ϩf):ϲc c-ϲc p=gv q (f c)-gv q (f p):=by
 let(o,a,b):=h;let(O,b1,b2):=H;let(i,hi):=Zan hc;have⟨l1,l2⟩:=A.lt p g;let I:(ϲI<|f p)[i]?=Â (f c):=by rw[όq,T2,hi];rfl
 let e:(ϲI<|f p).map O=Ó Ϩf o:=ϳH όq W5 (Ze λc hc=>(ϙt<|Œ (ϻs hc)).symm)
 rw[b p l1 i c hi,b2 _ l2 i _ I,e];lia
def X8(T:À Nd)(k:Nat):Nat:=ϊ (ϸx[k]?) 0
def l8:Fs:=(X5 (ϵ7 (Î gLt 1<|eC<|Á 0)<|au<|Î gGe 1<|Ĥ<|Í 0 ai) (kA "NoNode") Wz)
def bF:Fn:=Ť 2 l8
def mY:Fs:=(av (ϰe<|Î bB 1<|eC<|Á 1)
 (av (cP (uX (au<|Î gLt 2<|Ĥ<|Í 0 ai)<|au<|B2 gGe (ĵ (Î F4 0 δ)<|eC<|Á 0) ĉ)<|Ja 2 DD<|eC<|Á 1)
 (bI δ)))
def cX:Fn:=Ť 3 mY
def lR:Fs:=(av (ϰe<|eD1 (Ρ<|eC<|Á 1)<|Ρ<|eC<|Á 1)
 (av (fX (iEn ĉ) (ϳ6 3 4)<|sDP 2 ϰJ ϰ2)
 (av (ϴm<|W8<|Ů ĉ cn (Î F4 1 ù) 1 [0])
 (ϪT<|bI<|Ů Ϸk cn (gT<|ae (Î gDx 1<|Î F4 0<|eC<|Á 0)<|ae (Î F4 0<|eC<|Á 1)<|ī (Î F4 0<|eC<|Á 2)) 1 [2]))))
def ba:Fn:=Ť 6 lR
def bR:Fb:=(bZ (ϥf đ "tree"<|Ϫh<|Í 1 ai)
 (bZ (ϥf đ "gap" δ)
 (bZ (ϥf đ "folds" ϲF)
 (bZ (ϥf đ "anew"<|Ϧ6<|ī (Ĥ<|Í 1 ai)) bNx))))
def gZ:Fs:=(bI<|Ϫh<|ae (mK đ "anew" ù) ai)
def aU:Fn:=Ϩe gZ
def nT:Fs:=(bI<|gT<|Í 0<|ae (W8<|Ϧ6<|ī (Ĥ<|Í 0 ai)) ai)
def dF:Fn:=Ϩe nT
def lH:Fs:=(av (ϰe<|W8<|Ů (Î F4 0<|eC<|Á 0) cn (Î F4 0<|eC<|Á 0) 1 [])
 (bI<|Ϩm (Î F4 0<|eC<|Á 1) (ϳ6 0 1) (uX (au<|Î ϵP 1 δ)<|au<|Î ϵP 0 ϰ2) ù 2 [1,2]))
def fg:Fn:=Ť 3 lH
def kN:Fs:=(av (ϰe eD0)
 (av (fX (cB ĉ) (Rm 3) (av (ϲ7 ϰ2)
 (cP (au<|Î Yc 4<|Ρ<|eC<|Á 1) (av (sDP 2 ϰJ<|eC<|ß true)
 (ϲ7<|ĵ (Î F4 0 ϰJ)<|eC<|Á 0)))))
 (ϪT<|bI<|eB BF<|ī (eB Ez<|Í 2 ai))))
def gj:Fn:=Ť 5 kN
def lD:Fs:=(av (ϪK<|Ů ù cn ϲF 1 [])
 (av (fX (iR2 (eC<|Á 1)<|Ĥ<|Í 0 ai) (Rm 2)<|ub 1 (ĵ (Î F4 0 δ)<|eC<|Á 0) δ)
 (tQ (aV (cB ù) (gTp 3<|Ϥz 0<|Ϥz 1<|Ϥz 2 fT) cn (gT<|Í 1<|Í 2 ai) 3 []) 1<|ϵj (bX<|Ŭ (ß false) ai)<|Ĥ<|Í 0 ai)))
def b9:Fn:=bj 1 3 lD
def md:Fs:=(av (ϰe ϲF)
 (av (ϱh<|bX<|Ŭ (Á 0) ai)
 (av (cP (tM<|au<|Î Yc 3 ϲF) (av (IH 3<|Rm 4)
 (av (ϯU ϰJ)
 (X5 (ϵ7 ĉ<|lg<|au<|ĵ (Î F4 0<|eC<|Á 2) ϰJ) (ϪL<|ϱh<|Î bB 3<|Mq (ĵ (Î F4 0<|eC<|Á 1) ϰJ)<|Ρ<|eC<|Á 1) Wz))))
 (lA 2))))
def bH:Fn:=Ť 5 md
def kL:Fs:=(av (ϪK<|ϵj (bX<|ī (Ρ<|eC<|Á 1))<|Ĥ<|ī (Î F4 0<|eC<|Á 0))
 (av (ϐm (Ĥ<|ī (Î F4 0<|eC<|Á 0)) 2<|ϥ5 (ĵ (Î F4 0<|eC<|Á 1) δ) 3<|Ak 1 ϰ2 δ)
 (lA 1)))
def cH:Fn:=bj 1 4 kL
def lY:Fs:=(av (ϰe ϲF)
 (av (ϱh<|bX<|Í 1 ai)
 (av (cP (tM<|au<|Î Yc 3 ϲF) (av (nJ 2 3)
 (ϪL<|ϱh<|oq<|Î bB 3<|ĵ (Î F4 0<|eC<|Á 1)<|Î F4 2<|Ρ<|eC<|Á 1)))
 (lA 2))))
def c9:Fn:=Ť 4 lY
def fP:Fs:=(av (ϱh<|Î F4 2<|Î fW 0<|Ĥ<|Í 2 ai)
 (av (ϲ7<|ϰ0 (Î kF 0<|eC<|Á 8) ĉ)
 (av (X5 (au<|Î Xr 3<|eC<|Ô "put") (av (ϴm<|eC<|Ô "abcdefghijklmnopqrstuvwxyz")
 (av (ϵY<|bX<|ae (W8<|gT<|ae (Ρ<|eC<|Á 1)<|ae (B2 x_ (Î F4 5<|ϰ0 (Î kF 0<|eC<|Á 64)<|eC<|Á 26)<|œ (eC<|Á 1)<|ϰ0 (Î kF 0<|eC<|Á 8192)<|eC<|Á 4)<|ae (œ (eC<|Á 1)<|ϰ0 (Î kF 0<|eC<|Á 16)<|eC<|Á 9) ai) ai)
 (av (ϐm (ϰ0 (Î kF 0<|eC<|Á 32768)<|eC<|Á 3) 7<|oN 6<|W8<|gT<|ae (ϰ0 (Î kF 0<|œ (eC<|Á 8) ϵ9)<|Î bB 7<|eC<|Á 1)<|ae (B2 x_ (Î F4 5<|ϰ0 (Î kF 0<|œ (eC<|Á 9) ϵ9)<|eC<|Á 26)<|œ (eC<|Á 1) ϵ9)<|ī (œ (eC<|Á 1) ϵ9))
 (av (X5 (tM<|uX (au<|Φ (Ĥ<|Í 6 ai)<|eC<|Á 3)<|au<|Φ (ĵ (Î F4 6<|eC<|Á 2)<|eC<|Á 0)<|eC<|Á 0) (Ak 6 (eC<|Á 2)<|gT<|Ŭ (Á 0)<|ae (vn<|ĵ (Î F4 6<|eC<|Á 2)<|eC<|Á 1)<|Ŭ (Á 9) ai) Wz)
 (jQ 6<|bI<|gT<|Ŭ (Ô "put")<|Í 4<|ae (ϰ0 (Î kF 0<|eC<|Á 1024)<|eC<|Á 4)<|Í 6 ai))))) Wz)
 (av (X5 (au<|Î Xr 3<|eC<|Ô "move") (bI<|gT<|Ŭ (Ô "move")<|Í 4<|ae (ϰ0 (Î kF 0<|eC<|Á 1024) ĉ)<|ae (ϰ0 (Î kF 0<|eC<|Á 65536)<|eC<|Á 3) ai) Wz)
 (bI<|gT<|Í 3<|Í 4 ai)))))
def cG:Fn:=bj 3 8 fP
def fN:Fs:=(av (ϰe ϲF)
 (av (ϱh<|bX<|Í 1 ai)
 (av (cP (tM<|au<|Î Yc 3 ϲF) (av (nJ 2 3)
 (X5 (tM<|lg<|au<|ĵ (Î F4 0<|eC<|Á 2)<|Î F4 2<|Ρ<|eC<|Á 1) (ϪL<|ϱh<|oq<|Î bB 3<|ĵ (Î F4 0<|eC<|Á 1)<|Î F4 2<|Ρ<|eC<|Á 1) Wz)))
 (ϪT<|bI<|eB BF<|Í 2 ai))))
def aY:Fn:=Ť 4 fN
def wu:Fs:=(av (ϰe ϲF)
 (av (ϥ5 ù 3<|ϯU<|vn<|eOr (Φ (Î F4 3<|eC<|Á 0)<|Ρ<|eC<|Á 1)<|xo (Î F4 2<|Î F4 3<|eC<|Á 0)<|B2 ϵS (Î F4 3<|eC<|Á 0) ĉ)
 (av (ϪT<|ϲ7<|Ϩm δ (ϳ6 0 1) (au ĉ) ù 2 [])
 (wK (wQ 4<|ϯa<|Í 0<|Í 4 ai) 4))))
def o_:Fn:=Ť 5 wu
def jH:Fs:=(av (eD<|Ϧ7<|Í 0<|Í 2 ai)
 (X5 (au<|Î ϵS 2 ĉ) ϭ0 Wz))
def cT:Fn:=bj 3 3 jH
def oG:Fn:=nox cT
def gn:Fs:=(bI<|œ (Ϧ6<|Í 1 ai)<|ϪA<|ae (ϐ2<|Í 0<|Í 1 ai)<|ī (Ĥ<|Í 0 ai))
def cq:Fn:=Ť 2 gn
def eS:Fs:=(av (X5 (ϵ7 (Î gLt 3<|eC<|Á 0)<|au<|Î gGt 3<|Ĥ<|Í 2 ai) (kA "NoPlace") Wz)
 (bI<|eIf (au<|Î gLt 3<|Ĥ<|Í 2 ai) (Î F4 2 ϰ2)<|ϐ2<|Í 0<|Í 1 ai))
def bA:Fn:=bj 4 4 eS
def ud:Fn:=nox bA
def ku:Fs:=(av (X5 (au<|ϫp (Ĥ<|Í 1 ai)<|eC<|Á 40) (kA "NoTree") Wz)
 (av (ϰe<|W8<|ϯa<|Í 0<|Í 1 ai)
 (av (X5 (au<|ϫp (Ϥv<|ī (ar eL<|Í 2 ai))<|eC<|Á 8) (kA "NoTree") Wz)
 (bI<|gT<|Í 2<|Í 1 ai))))
def bO:Fn:=Ť 3 ku
def B3:Fn:=nox bO
def me:Fs:=(av (ϰe<|W8<|ϐ3<|Í 0 ai)
 (av (ϱh<|eC<|Á 0)
 (av (cP (au<|B2 gGe (Î F4 2 ĉ)<|eC<|Á 0) (av (ϪK<|Î F4 2 ĉ)
 (ϱh<|Î bB 3<|eC<|Á 1)))
 (bI ϰ2))))
def bJ:Fn:=Ť 4 me
def bS:Fb:=(bZ (ϰe<|vn<|ĵ (ϐ3<|Í 0 ai) ĉ)
 (bZ (AA 0 1 δ ĉ)
 (B_ δ)))
def nZ:Fs:=(av (ϱh<|W8<|ϐ3<|Í 0 ai)
 (av (ϲ7 ϲF)
 (av (fX (cB δ) (Rm 5) (X5 (au<|Î ϵP 5 ĉ) (cP (au<|Î gGe 5<|eC<|Á 0) (av (oN 4<|Kn ĉ Ϸk)
 (ϴm<|Î F4 3 Ϸk))) Wz))
 (jQ 4<|bI<|eB Bh<|Í 4 ai))))
def jW:Fn:=bj 3 6 nZ
def g_:Fs:=(av (fX (iR1<|Ĥ<|Í 1 ai) (Rm 6) (av (ϺU<|Î F4 1 ϥA)
 (X5 (au<|Î ϵS 6 δ) (av (ϯM<|W8<|ar aY<|Í 0<|Í 7 ai)
 (av (X5 (au<|Ϲw (vb Ϸk ϵ9<|eC æ) ϥu) (ϰ7<|ß false) Wz)
 (ϥ5 ϥu 9<|X5 (au<|Ϲw (ϻf (Î gDx 4<|aa 9)<|Î gDx 4 ϵ9)<|ϻf (Î gDx 3<|aa 9)<|Î gDx 3 ϵ9) (ϰ7<|ß false) Wz))) Wz)))
 (ϰ7<|ß true))
def di:Fn:=bj 6 10 g_
def lJ:Fs:=(av (eD<|Ϧ7<|Í 0<|Í 2 ai)
 (X5 (ϵ7 (Î ϵP 2 ĉ)<|au<|Φ (Ĥ<|ī (Ϫj<|Í 0<|Í 2 ai))<|eC<|Á 0) ϭ0 Wz))
def dR:Fn:=bj 3 3 lJ
def qS:Fn:=nox dR
def nj:Fs:=(av (eD<|Ϧ7<|Í 0<|Í 1 ai)
 (av (X5 (au<|Î Xr 1<|eC<|Á 0) ϭ0 Wz)
 (av (ϰe<|W8<|ar cq<|Í 0<|Í 1 ai)
 (bI<|gT<|ae (W8<|ϯa<|Í 0<|Í 2 ai)<|Í 2 ai))))
def dG:Fn:=Ť 3 nj
def wZ:Fn:=nox dG
def qB:Fs:=(av (eD<|Ϧ7<|Í 0<|Í 1 ai)
 (av (ϲ7<|W8<|ar bA<|Í 0<|Í 1<|ae (Ϫj<|Í 0<|Í 1 ai)<|Í 2 ai)
 (av (ϴm<|Î bB 0<|bX<|ae (gT<|Í 1<|ae (ĵ (Î F4 3<|eC<|Á 0)<|eC<|Á 1)<|ae (ĵ (Î F4 3<|eC<|Á 0)<|eC<|Á 2) ai) ai)
 (av (ϥ5 (ϤX ϰ2 (mn<|eC<|Á 1) sU) 6<|ϯ3<|W8<|gT<|ae (œ (Î F4 6<|eC<|Á 0)<|Ĥ<|Í 0 ai)<|ae (Î F4 6<|eC<|Á 1)<|ī (Î F4 6<|eC<|Á 2))
 (av (jQ 5<|ϺU<|W8<|ϪA<|ae (Ĥ<|Í 0 ai)<|ī (Ĥ<|Í 5 ai))
 (bI<|ar bO<|Í 5<|ae (œ (œ (Ϧ6<|Í 4 ai) ϵ9)<|ϪA<|Í 4<|ī (Ĥ<|Í 0 ai)) ai))))))
def cS:Fn:=bj 4 8 qB
def xG:Fn:=nox cS
def pK:Fs:=(av (eD<|Ϧ7<|Í 0<|Í 1 ai)
 (av (eD<|Ϧ7<|Í 0<|Í 2 ai)
 (av (ϲ7<|W8<|ϐ2<|Í 0<|Í 1 ai)
 (av (X5 (au<|BU ĉ δ ϰJ) ϭ0 Wz)
 (av (ϴm<|W8<|Ů (Ϫj<|Í 0<|Í 2 ai) (au<|Î Yc 0 ĉ) ù 1 [1])
 (av (ϵY<|W8<|ar bA<|Í 0<|Í 2<|Í 5<|Í 3 ai)
 (av (ϺU<|W8<|œ (œ (ϤX ù sU<|mn ĉ)<|bX<|ae (gT<|Í 2<|ae (ĵ (Î F4 0 ĉ)<|eC<|Á 1)<|ae (ĵ (Î F4 0 ĉ)<|eC<|Á 2) ai) ai)<|ϤX ù (mn<|Î bB 1<|eC<|Á 1) sU)
 (av (ϯM<|W8<|ar cq<|Í 0<|Í 1 ai)
 (av (ϯN<|W8<|Ů ϥu (au<|Î gLt 0 ĉ) ù 1 [6])
 (av (aC 10<|W8<|Ů ϥu (au<|Î gGe 0 ĉ) ù 1 [6])
 (bI<|ar bO<|Í 7<|ae (œ (Î bB 9<|ϪA<|Í 1<|Í 4 ai)<|aa 10) ai)))))))))))
def df:Fn:=bj 4 11 pK
def AJ:Fn:=nox df
def l7:Fs:=(bI<|ar o_<|ae (mK đ "tree" ù)<|ae (mK đ "folds" ù) ai)
def bG:Fn:=Ϩe l7
def kQ:Fs:=(av (ϰe<|W8<|Ϧ3<|Í 0<|Í 1 ai)
 (bI<|ϻf (Ϥv<|ae (Ů (ϑH<|Í 0<|Í 1 ai) cn (W8<|Ϧ3<|Í 1<|Í 0 ai) 1 [0]) ai) δ))
def eG:Fn:=Ť 3 kQ
def iB:Fs:=(av (X5 (ϵ7 (Î gLt 2<|eC<|Á 0)<|au<|Î gGt 2<|Ĥ<|ae (Ů (ĵ (Î F4 0<|eC<|Á 1) ĉ) (au<|Î Yc 0 ĉ) ù 1 [5]) ai) (ϰ7<|Á 3) Wz)
 (av (X5 (ϵ7 (Î gGt 3<|eC<|Á 40)<|au<|ϫp (œ (œ (Ϧ3<|Í 0<|Í 1 ai)<|eC<|Á 1) ϰJ)<|eC<|Á 8) (ϰ7<|Á 4) Wz)
 (ϰ7<|Á 0)))
def b6:Fn:=bj 6 6 iB
def aT:Fb:=(bZ (ϰe<|W8<|oq<|Ϫq<|Í 0<|Ŭ (ß true) ai)
 (bZ (ϱh<|Î F4 2<|Î F4 1<|eC<|Á 1)
 (bIf (oM (au<|Φ (Î F4 1<|eC<|Á 0)<|eC<|Ô "fold")<|au<|Φ (Î F4 1<|eC<|Á 0)<|eC<|Ô "unfold") (bZ (rz 0 2 ϰ2<|Φ (Î F4 1<|eC<|Á 0)<|eC<|Ô "fold")
 (B_<|bX<|Í 3 ai))
 (bIf (au<|Φ (Î F4 1<|eC<|Á 0)<|eC<|Ô "put") (bZ (ϲ7<|vn<|Ĥ<|ī (Î F4 0<|eC<|Á 0))
 (bZ (ϴm<|W8<|ar b9<|ī (Î F4 1<|eC<|Á 3))
 (bZ (rZ 0 0<|Î F4 5<|eC<|Á 0)
 (bZ (wU 0 1<|Ů (Î F4 5<|eC<|Á 1) cn (Ů ù cn (Î bB 1 ù) 1 [1]) 1 [4])
 (bZ (rZ 0 2<|Î F4 5<|eC<|Á 2)
 (bZ (wX 0 1 ϰ2 (Î F4 1<|eC<|Á 2) ϰJ)
 (B_<|bX<|Í 3 ai)))))))
 (bZ (ϖH<|Í 3 ai)
 (bZ (ϺU<|bX<|Í 6 ai)
 (bZ (X5 (au<|Φ (Î F4 1<|eC<|Á 0)<|eC<|Ô "move") (av (wX 0 1 (Î F4 2<|Î F4 1<|eC<|Á 2) (Î F4 1<|eC<|Á 3) ϰ2)
 (oN 7<|Î F4 2<|Î F4 1<|eC<|Á 2)) Wz)
 (bZ (jQ 7<|X5 (tM<|au<|Φ (ĵ (Î F4 0<|eC<|Á 1) ϥA) ϲF) (ϓG<|eC<|ß false) Wz)
 (B_ ϵ9)))))))))
def bq:Fb:=(bZ (ϲ7<|ĵ (uW 0<|W8<|ϱS bG "seen" 0 ai)<|eC<|Á 1)
 (bZ (ϥf đ "tree"<|Î F4 1<|eC<|Á 0)
 (bZ (ϥf đ "folds"<|ar fg<|Í 1<|Í 2 ai)
 (bZ (ϴm<|W8<|uW 0<|W8<|ϱS bG "seen" 0 ai)
 (bZ (ϵY<|W8<|Ů (Î F4 5<|eC<|Á 1) cn (ĵ (Î F4 1<|eC<|Á 1) ù) 1 [1])
 (bZ (ϺU<|W8<|Ϩm ϥA (ϳ6 0 1) (ϵ7 (Î ϵP 1 δ)<|au<|Î ϵS 1 ϰ2) ù 2 [3,4])
 (bZ (ϥf đ "anew"<|ar gj<|ae (Î F4 5<|eC<|Á 0)<|Í 7 ai) bNx)))))))
def fR:Fs:=(av (ϰe<|W8<|Ϫq<|Í 0<|Ŭ (ß true) ai)
 (av (fX (iTp<|eSl Ca ĉ (mn<|eC<|Á 1)<|mn<|œ (eC<|Á 2)<|ϑI<|ae (Φ (Î F4 1<|eC<|Á 0)<|eC<|Ô "move") ai) (Rm 3)<|X5 (ϵ7 (Î gLt 3<|eC<|Á 0)<|au<|Î gGe 3<|Ĥ<|Í 2 ai) (ϰ7<|Á 1) Wz)
 (av (ϲ7<|Î F4 2<|Î F4 1<|eC<|Á 1)
 (av (X5 (oM (au<|Φ (Î F4 1<|eC<|Á 0)<|eC<|Ô "fold")<|au<|Φ (Î F4 1<|eC<|Á 0)<|eC<|Ô "unfold") (av (ϴm<|xo (Ϲw (ĵ (Î F4 0<|eC<|Á 1) ϰJ) ϲF)<|Φ (ĵ (Î F4 0<|eC<|Á 2) ϰJ)<|Φ (Î F4 1<|eC<|Á 0)<|eC<|Ô "unfold")
 (bI<|ĵ (bX<|Ŭ (Á 2)<|Ŭ (Á 0) ai)<|ϑI<|Í 5 ai)) Wz)
 (av (X5 (au<|Φ (Î F4 1<|eC<|Á 0)<|eC<|Ô "cut") (bI<|ĵ (bX<|Ŭ (Á 0)<|Ŭ (Á 2) ai)<|ϑI<|ī (Î Xr 4<|eC<|Á 0)) Wz)
 (av (X5 (au<|Φ (Î F4 1<|eC<|Á 0)<|eC<|Ô "put") (av (ϵY<|Ϥv<|ae (œ (bX<|Ŭ (Á 0) ai)<|ϐ1 (Ĥ<|ī (Î F4 1<|eC<|Á 3)) (W8<|Ϧ3<|ϵI b9 (Î F4 1<|eC<|Á 3) ai<|Í 0 ai) 1 [1]) ai)
 (bI<|ar b6<|Í 0<|Í 4<|ae (Î F4 1<|eC<|Á 2)<|ae (œ (Ĥ<|Í 2 ai)<|Ĥ<|ī (Î F4 1<|eC<|Á 3))<|Í 6<|ī (Ρ<|eC<|Á 1))) Wz)
 (av (ϺU<|Î F4 2<|Î F4 1<|eC<|Á 2)
 (av (X5 (ϵ7 (Î Xr 4<|eC<|Á 0)<|au<|Î ϵP 7<|ϑH<|Í 0<|Í 4 ai) (ϰ7<|Á 2) Wz)
 (bI<|ar b6<|Í 0<|Í 7<|ae (Î F4 1<|eC<|Á 3)<|ae (Ĥ<|Í 2 ai)<|ae (ar eG<|Í 0<|Í 4 ai)<|Í 4 ai)))))))))
def bP:Fn:=Ť 8 fR
def mO:Fn:=ϰ9 È
def bdA(f:Fn):Fs:=(av (X5 (au<|ϗh ĉ) (bI<|xo (ϗh ù)<|Î Xr 0 ĉ) Wz)
 (av (X5 (au<|ar cE<|Í 1 ai) (bI<|xo (ar cE<|Í 0 ai)<|Î Xr 0 ĉ) Wz)
 (av (X5 (au<|ϕs ĉ) (X5 (lg<|au<|ϕs ù) (ϰ7<|ß false) Wz)<|X5 (lg<|au<|ϖq ù) (ϰ7<|ß false) Wz)
 (av (X5 (au<|Ϲw (Ĥ<|Í 0 ai)<|Ĥ<|Í 1 ai) (ϰ7<|ß false) Wz)
 (av (fX (FY ù ĉ) (ϳ6 2 3)<|X5 (lg<|au<|ar f<|Í 2<|Í 3 ai) (ϰ7<|ß false) Wz)
 (ϰ7<|ß true))))))
def eV:Fn:=Ť 4<|bdA mO
def mE:Fn:=Ť 4<|bdA eV
abbrev iS:Fn:=mE
def l_:Fs:=(av (eD<|ar dR<|ae (mK đ "tree" ù)<|ae (mK đ "folds" ù)<|Í 1 ai) EE)
def fj:Fn:=Ť 2 l_
def dS:Fb:=(bZ (eD<|ar qS<|ae (ϰr đ "tree")<|ae (ϰr đ "folds")<|Í 1 ai)
 (bZ (ϥL<|ϵI dF (ϰr đ "tree") ai<|ae (œ (ϰr đ "folds")<|bX<|Í 1 ai)<|ī (bX<|Í 1 ai)) bNx))
def jF:Fs:=(av (eD<|ar cT<|ae (mK đ "tree" ù)<|ae (mK đ "folds" ù)<|Í 1 ai) EE)
def dJ:Fn:=Ť 2 jF
def cR:Fb:=(bZ (eD<|ar oG<|ae (ϰr đ "tree")<|ae (ϰr đ "folds")<|Í 1 ai)
 (bZ (ϥL<|ϵI dF (ϰr đ "tree") ai<|ae (Ů (ϰr đ "folds") (au<|Î Yc 0 ĉ) ù 1 [1])<|ī (bX<|Í 1 ai)) bNx))
def nH:Fs:=(eD<|ϱS (ϰ9 È) "settle" 0<|ϵI dG (mK đ "tree" ù) (Í 1 ai)<|ae (mK đ "folds" ù)<|ae (bX<|ae (ĵ (ĵ (mK đ "tree" ù) ĉ)<|eC<|Á 0) ai) ai)
def gC:Fn:=Ť 2 nH
def eT:Fb:=(bZ (ϥL<|ϵI wZ (ϰr đ "tree") (Í 1 ai)<|ae (ϰr đ "folds")<|ae (bX<|ae (ĵ (ĵ (ϰr đ "tree") ĉ)<|eC<|Á 0) ai) ai) bNx)
def mZ:Fs:=(eD<|ϱS (ϰ9 È) "settle" 0<|ϵI cS (mK đ "tree" ù) (Í 1<|Í 2<|Í 3 ai)<|ae (mK đ "folds" ù)<|ī (bX<|Í 1 ai))
def gG:Fn:=bj 4 4 mZ
def eR:Fb:=(bZ (ϥL<|ϵI xG (ϰr đ "tree") (Í 1<|Í 2<|Í 3 ai)<|ae (ϰr đ "folds")<|ī (bX<|Í 1 ai)) bNx)
def lU:Fs:=(eD<|ϱS (ϰ9 È) "settle" 0<|ϵI df (mK đ "tree" ù) (Í 1<|Í 2<|Í 3 ai)<|ae (mK đ "folds" ù)<|ae (bX<|ae (ĵ (ĵ (mK đ "tree" ù) ĉ)<|eC<|Á 0)<|Í 2 ai) ai)
def fq:Fn:=bj 4 4 lU
def dP:Fb:=(bZ (ϥL<|ϵI AJ (ϰr đ "tree") (Í 1<|Í 2<|Í 3 ai)<|ae (ϰr đ "folds")<|ae (bX<|ae (ĵ (ĵ (ϰr đ "tree") ĉ)<|eC<|Á 0)<|Í 2 ai) ai) bNx)
def iy:Fs:=(X5 (au<|Φ (Î F4 1<|eC<|Á 0)<|eC<|Ô "fold") (eD<|ϱS fj "fold" 0<|ī (Î F4 1<|eC<|Á 1))<|X5 (au<|Φ (Î F4 1<|eC<|Á 0)<|eC<|Ô "unfold") (eD<|ϱS dJ "unfold" 0<|ī (Î F4 1<|eC<|Á 1))<|X5 (au<|Φ (Î F4 1<|eC<|Á 0)<|eC<|Ô "cut") (eD<|ϱS gC "cut" 0<|ī (Î F4 1<|eC<|Á 1))<|X5 (au<|Φ (Î F4 1<|eC<|Á 0)<|eC<|Ô "put") (eD<|ϱS gG "put" 0<|ae (Î F4 1<|eC<|Á 1)<|ae (Î F4 1<|eC<|Á 2)<|ī (Î F4 1<|eC<|Á 3))<|eD<|ϱS fq "move" 0<|ae (Î F4 1<|eC<|Á 1)<|ae (Î F4 1<|eC<|Á 2)<|ī (Î F4 1<|eC<|Á 3))
def bQ:Fn:=Ť 2 iy
def bE:Fb:=(bZ (X5 (au<|Φ (Î F4 1<|eC<|Á 0)<|eC<|Ô "fold") (ϩj "fold" 2 dS<|ī (Î F4 1<|eC<|Á 1))<|X5 (au<|Φ (Î F4 1<|eC<|Á 0)<|eC<|Ô "unfold") (ϩj "unfold" 2 cR<|ī (Î F4 1<|eC<|Á 1))<|X5 (au<|Φ (Î F4 1<|eC<|Á 0)<|eC<|Ô "cut") (ϩj "cut" 2 eT<|ī (Î F4 1<|eC<|Á 1))<|X5 (au<|Φ (Î F4 1<|eC<|Á 0)<|eC<|Ô "put") (ϩj "put" 4 eR<|ae (Î F4 1<|eC<|Á 1)<|ae (Î F4 1<|eC<|Á 2)<|ī (Î F4 1<|eC<|Á 3))<|ϩj "move" 4 dP<|ae (Î F4 1<|eC<|Á 1)<|ae (Î F4 1<|eC<|Á 2)<|ī (Î F4 1<|eC<|Á 3)) bNx)
def iA:Fs:=(bI<|ar kC<|ae (ĵ (ϱS bG "seen" 0 ai)<|eC<|Á 0)<|ae (mK đ "gap" ù) ai)
def cF:Fn:=Ϩe iA
def jR:Fs:=(av (qC bQ (Í 0<|Í 1 ai) (ϸC "NoDeed" 2))
 (ϰ7<|Á 0))
def aM:Fn:=Ť 4 jR
def aO:Fb:=(bZ (A_<|ϕr<|Í 1 ai)
 (B_<|eC<|Á 0))
def kI:Fs:=(av (ϰe<|W8<|ϱS cF "drawing" 0 ai)
 (av (X5 (oM (lg<|au<|ϖq δ)<|au<|Ϲw (Ĥ<|Í 2 ai)<|Ĥ<|Í 1 ai) (ϰ7 æ) Wz)
 (av (ϱh eD0)
 (av (fX (iZp ĉ δ) (ϳ6 4 5)<|sDP 3 ϰJ Ϸk)
 (lA 3)))))
def dg:Fn:=Ť 6 kI
def Bp:Fs:=(av (ϪK<|W8<|ar gL<|Í 0<|Ŭ (Á 2)<|ae (œ (eC<|Á 1)<|ϰ0 (ϩ8<|Í 0<|Ŭ (Á 0) ai)<|eC<|Á 10)<|Ŭ (Á 9)<|Ŭ (Á 8) ai)
 (av (ϰe<|ϔ8<|ae (Ϫh<|Í 1 ai)<|ae (œ (eC<|Á 1)<|ϰ0 (ϩ8<|Í 0<|Ŭ (Á 1) ai)<|eC<|Á 20) ai)
 (av (ϱh<|ar b9<|Í 1 ai)
 (av (ϲ7<|W8<|Ϧ6<|ī (Ĥ<|Í 1 ai))
 (av (ϴm<|W8<|oq<|Ϫq<|Í 3<|Ŭ (ß false) ai)
 (av (ϵY<|W8<|yz<|ar dg<|Í 2<|Í 5 ai)
 (av (X5 (tM<|ϵ7 (Î GX 6<|eC æ)<|lg<|au<|ar iS<|ae (ϱS aU "redrawn" 2 ai)<|Í 4 ai) (ϰ7<|ß false) Wz)
 (av (jQ 14 (fX (cB<|ϤX ù (mn<|eC<|Á 13)<|mn<|eC<|Á 25) (Rm 7) (av (ϯM<|ϰ0 (Î jT 7<|eC<|Á 48271)<|eC<|Á 2147483647)
 (av (ϯN<|W8<|bX<|Ŭ (Ô "put")<|Ŭ (Ô "fold")<|Ŭ (Ô "move")<|Ŭ (Ô "unfold")<|Ŭ (Ô "cut")<|Ŭ (Ô "move")<|Ŭ (Ô "unfold") ai)
 (av (aC 10<|W8<|ar cG<|Í 8<|ae (vn<|Ĥ<|ae (Ϫq<|Í 3<|Ŭ (ß true) ai) ai)<|Í 9 ai)
 (av (aC 11<|W8<|vn<|ar bP<|Í 3<|Í 10 ai)
 (av (Ϗ1 (Í 10 ai) 11 (ϰ7<|ß false) Wz)
 (av (X5 (au<|Î Xr 11<|eC<|Á 0) (av (aC 12 eD0)
 (av (ϥ5 Ϸk 13<|sDP 12 (aa 13)<|W8<|oq<|ar aY<|Í 3<|Í 13 ai)
 (av (ϕ4<|Í 10 ai)
 (av (aC 15<|W8<|oq<|Ϫq<|Í 3<|Ŭ (ß false) ai)
 (av (X5 (uX (au<|Ϲw (Î F4 10<|eC<|Á 0)<|eC<|Ô "cut")<|au<|Ϲw (Î F4 10<|eC<|Á 0)<|eC<|Ô "fold") (ϐn<|aC 14<|Î bB 14<|Ů (aa 15) (au<|Î ϵS 0 ĉ) ù 1 [5]) Wz)
 (av (ϐn<|ϲ7<|W8<|oq<|ar jW<|Í 3<|Í 15<|Í 14 ai)
 (av (ϴm<|aa 15)
 (av (aC 16<|W8<|yz<|ar dg<|Í 2<|Í 5 ai)
 (av (X5 (au<|Î GX 16<|eC æ) (ϰ7<|ß false) Wz)
 (av (X5 (tM<|lg<|au<|ar di<|Í 3<|Í 5<|Í 4<|Í 6<|Í 16<|Í 12 ai) (ϰ7<|ß false) Wz)
 (ϵY<|aa 16))))))))))) Wz)
 (av (wJ (ϱS aU "redrawn" 2 ai)<|Ρ<|eC<|Á 1)
 (X5 (tM<|lg<|au<|ar iS<|ae (ϱS aU "redrawn" 2 ai)<|Í 4 ai) (ϰ7<|ß false) Wz))))))))))
 (ϰ7<|ß true)))))))))
def wH:Fn:=bj 1 17 Bp
def top(i:Nat):No:=ϙf<|.Pass ⟨0,0,0,0⟩
set_option bootstrap.genMatcherCode true in
local macro_rules|`(tactic|exists $s:str)=>do
  let c:=s.getString.splitOn "~"
  let t:Lean.TSyntax `tactic<-(c[1]!.splitOn "|").foldrM (λr z=>match r.splitOn "," with
   |[u,v]=>`(tactic|first|((with_reducible show $(pzS (c[0]!++" ( "++u++" )")));refine $(pzS v)<;>trivial)|$z:tactic)
   |_=>`(tactic|first|(refine $(pzS r)<;>trivial)|$z:tactic)) (<-`(tactic|fail))
  `(tactic|((with_reducible show $(pzS (c[0]!++" _")));$t:tactic))
set_option bootstrap.genMatcherCode true in
local macro_rules|`(tactic| trivial)=>do let t<-mqX (λ_=>mqY) (Lean.mkIdent `ϚR) [];pure (mqN "Tactic paren" [mqA "(",t[1][1],mqA ")"])
abbrev nP:No:=Ĭ 9
def iH:ϱm ϱH nP:=Æ
abbrev l9:No:=Ĭ 11
def o6:Ŗ ["tree","levels","row"] ϶W l9:=Æ
abbrev p_:No:=Ĭ 12
def wg:ϱm ϶W p_:=Æ
abbrev pX:No:=Ĭ 14
def nE:Ŗ ["tree","node","end"] ϱH pX:=Æ
abbrev gw:No:=Ĭ 15
def lK:Ŗ ["rows","numbers","places","place","number","named"] ϥ1 gw:=Æ
abbrev qA:No:=Ĭ 28
def rM:Ŗ ["one","other","gap","apart","asked","distance"] ύ6 qA:=Æ
abbrev b8:No:=Ĭ 37
def d_:Ŗ ["outlines","stands","joined","level","there","left","right"] ύ7 b8:=Æ
abbrev ic:No:=ϷD 0
def kX:ϱm ϬQ ic:=Æ
abbrev jG:No:=ϷD 5
def mS:ϱm ϵW jG:=Æ
abbrev pV:No:=Ĭ 40
def sv:ϱm ϶W pV:=Æ
abbrev gM:No:=Ĭ 41
def lN:Ŗ ["changed","folds","elders"] ώr gM:=Æ
abbrev lI:No:=Ĭ 42
def oY:Ŗ ["tree","nodes","found","node","higher"] ώ7 lI:=Æ
abbrev pk:No:=Ĭ 44
def s_:Ŗ ["_law_script","_law_k","_law_number"] ύL pk:=Æ
abbrev nu:No:=Ĭ 45
def qP:ϱm ϭL nu:=Æ
abbrev mX:No:=Ĭ 46
def qT:Ŗ ["_law_number","_law_most","_law_letters","_law_label_here","_law_k"] ύA mX:=Æ
abbrev gA:No:=Ĭ 48
def qX:Ŗ ["_law_tree_here","_law_kids","_law_k"] ώB gA:=Æ
abbrev nK:No:=Ĭ 49
def lB:Ŗ ["_law_state","_law_all_of_them","_law_found","_law_left","_law_node"] ύi nK:=Æ
abbrev lM:No:=Ĭ 50
def pN:Ŗ ["_law_state","_law_found","_law_node","_law_child"] ϏM lM:=Æ
abbrev nz:No:=Ĭ 52
def lL:Ŗ ϓh ϳm nz:=Æ
abbrev gH:No:=Ĭ 61
def kj:Ŗ ["_law_number","_law_size","_law_kinds","_law_kind","_law_node","_law_letters","_law_rows_here","_law_k"] ό3 gH:=Æ
abbrev gz:No:=Ĭ 65
def fK:E1 ϓh ϳm (ag gz):=Æ
abbrev iT:No:=Ĭ 10
def o9:ϱm ϱH iT:=Æ
abbrev vL:No:=Ĭ 17
def z9:Ŗ ["tree","folds","seen","row","numbers"] ώ8 vL:=Æ
abbrev ko:No:=Ĭ 19
def oH:ϱm Ϲ3 ko:=Æ
abbrev h_:No:=Ĭ 21
def k_:ϱm ϱH h_:=Æ
abbrev i8:No:=Ĭ 24
def mT:ϱm ϫ6 i8:=Æ
abbrev uz:No:=Ĭ 25
def w8:Ŗ ["rows","numbers","tree"] ϥ1 uz:=Æ
abbrev d7:No:=Ĭ 30
def kx:Ŗ ["outlines","gap","places","number","asked"] ϸJ d7:=Æ
abbrev fB:No:=Ĭ 31
def mI:Ŗ ["outlines","gap","last","count","places","number","one","asked"] ύH fB:=Æ
abbrev dO:No:=Ĭ 34
def iE:Ŗ ["tree","places","unit","least"] ύM dO:=Æ
abbrev oQ:No:=Ĭ 47
def nr:Ŗ ["_law_script","_law_start_here","_law_many","_law_most","_law_deep","_law_tree_here","_law_way","_law_k","_law_number","_law_keep"] όO oQ:=Æ
abbrev n8:No:=Ĭ 53
def qY:Ŗ ["_law_state","_law_node","_law_elders_here","_law_level_here"] ϳm n8:=Æ
abbrev ip:No:=Ĭ 57
def kW:Ŗ ["_law_state","_law_node","_law_elder"] ϳm ip:=Æ
abbrev oW:No:=Ĭ 64
def sY:Ŗ ["_law_state","_law_sight","_law_touched","_law_elders_here","_law_found","_law_node"] όZ oW:=Æ
abbrev jA:No:=Ĭ 67
def mL:Ŗ ["_law_state","_law_sight","_law_anew_here","_law_ahead","_law_now","_law_boughs","_law_k","_law_node","_law_below_here","_law_one"] όM jA:=Æ
abbrev nW:No:=Ĭ 18
def qR:ϱm Ϲ3 nW:=Æ
abbrev uC:No:=Ĭ 20
def wz:Ŗ ["tree","node","numbers"] ϱH uC:=Æ
abbrev wa:No:=Ĭ 22
def xE:Ŗ ["tree","elder","place","other","later","rows","row","new"] ύl wa:=Æ
abbrev qI:No:=Ĭ 23
def w9:Ŗ ["tree","node","elder","place","end","children","later","rows","rest","ahead","behind"] ύm qI:=Æ
abbrev uA:No:=Ĭ 29
def vX:Ŗ ["outlines","gap","earliest"] ϸJ uA:=Æ
abbrev nS:No:=ϷD 3
def qZ:ϱm ϵW nS:=Æ
abbrev iP:No:=Ĭ 54
def pE:Ŗ ["_law_state","_law_node","_law_least"] ϳm iP:=Æ
abbrev fA:No:=Ĭ 55
def my:ϱm ϫR fA:=Æ
abbrev lh:No:=Ĭ 58
def jU:Ŗ ["_law_state","_law_deed","_law_order_here","_law_node","_law_first","_law_more","_law_elder","_law_touched"] ϥT lh:=Æ
abbrev gu:No:=Ĭ 36
def oz:Ŗ ["outlines","gap","room","elder"] ϸJ gu:=Æ
abbrev eE:No:=ϷD 11
def fF:Ŗ ["self","changed","folds","touched","before","now","numbers","roused"] ύa eE:=Æ
abbrev nU:No:=Ĭ 56
def oZ:Ŗ ["_law_state","_law_deed","_law_order_here","_law_number","_law_node","_law_right","_law_level_here","_law_elder"] ϥT nU:=Æ
abbrev m_:No:=Ĭ 62
def iJ:Ŗ ["_law_found","_law_due_here","_law_one","_law_other"] ϻL m_:=Æ
abbrev pH:No:=Ĭ 35
def p6:Ŗ ["tree","gap","offsets","outlines","node","children","below","stands","child","stand"] Ϧl pH:=Æ
abbrev og:No:=ϷD 6
def iU:ϱm ϳs og:=Æ
abbrev fY:No:=ϷD 7
def fE:ϱm ϳs fY:=Æ
abbrev pB:No:=ϷD 8
def m5:ϱm ϳs pB:=Æ
abbrev pL:No:=ϷD 9
def jS:ϱm ϨE pL:=Æ
abbrev nh:No:=ϷD 10
def iI:ϱm ϨF nh:=Æ
abbrev zZ:No:=Ĭ 33
def z_:Ŗ ["tree","gap","offsets","places","node"] Ϧl zZ:=Æ
abbrev uN:No:=Ĭ 59
def nc:ϱm ϸF uN:=Æ
abbrev i_:No:=ϷD 4
def tV:ϱm ϵW i_:=Æ
abbrev oV:No:=Ĭ 60
def bL:Ŗ ["_law_easel","_law_deed","e","_law_kinds"] ϸF oV:=Æ
abbrev l6:No:=Ĭ 66
def kH:Ŗ ["_law_easel","_law_sight","_law_told","_law_found","_law_node","_law_place"] ύB l6:=Æ
abbrev q_:No:=Ĭ 68
def lT:Ŗ ["_law_script","_law_tree_here","_law_easel","_law_state","_law_anew_here","_law_sight","_law_ahead","_law_cell_here","_law_number","_law_kinds","_law_deed","_law_word","_law_boughs","_law_node","_law_touched","_law_now","_law_places_here"] Ϗi q_:=Æ
def rW:ϴC "list":=ñ
def Hh:ϴC "tuple":=ñ
def JE:ϴC "int":=ñ
def Mj:ϴC "bool":=ñ
def P8:ϴC "str":=ñ
def iO:ϴC "ValueError":=ñ
set_option genInjectivity false
structure Ad where
 (j0 j1 j2 j3 j4 j5 j6 j7 j8 j9 ja jb jc jd je jf jg jh ji jj jk jl jm jn jo jp jq jr js jt ju jv jw jx jy jz j10 j11 j12 j13 j14 j15 j16 j17 j18 j19 j1a j1b j1c j1d j1e j1f j1g j1h j1i j1j j1k j1l j1m j1n j1o j1p j1q j1r j1s:Ix)
 (j1t j1u j1v j1w j1x j1y j1z j20 j21 j22 j23 j24 j25 j26 j27 j28 j29 j2a j2b j2c j2d j2e j2f j2g j2h j2i j2j j2k j2l j2m j2n j2o j2p j2q j2r j2s j2t j2u j2v j2w j2x j2y j2z j30 j31 j32 j33 j34 j35 j36 j37 j38 j39 j3a j3b j3c j3d j3e j3f:Fk)
structure DefM(K:At)(x q:Str)(st:No)(ps:À Str)(f:Ix)(fd:Fk):Prop where
 F:ϳ1 x q st f fd
 b:ϲZ K []
structure Wd(K:At)(mg:ĳ)(J:Ad):Prop where
 t0:ϳY "ValueError"
 t1:ϳY "bool"
 t2:ϳY "enumerate"
 t3:ϳY "int"
 t4:ϳY "isinstance"
 t5:ϳY "len"
 t6:ϳY "list"
 t7:ϳY "max"
 t8:ϳY "min"
 t9:ϳY "range"
 ta:ϳY "set"
 tb:ϳY "sorted"
 tc:ϳY "str"
 td:ϳY "tuple"
 te:ϳY "zip"
 tf:∃t,mg "GREATEST_LEVEL"=Â (Á 8 t)
 tg:∃t,mg "MOST_NODES"=Â (Á 40 t)
 th:∃t,mg "SHREDS"=Â (Á 256 t)
 ti:mg "DrawError"=Â (Ä J.j1)
 tj:mg "NoDeed"=Â (Ä J.j2)
 tk:mg "NoNode"=Â (Ä J.j3)
 tl:mg "NoPlace"=Â (Ä J.j4)
 tm:mg "NoTree"=Â (Ä J.j5)
 tn:ϴz J.j2
 to:ϴz J.j3
 tp:ϴz J.j4
 tq:ϴz J.j5
 tr:excIn K J.j1 vE vN=true
 ts:Ϲp (Ä J.j2) (Ä J.j1)=ϱ3
 tt:Ϲp (Ä J.j3) (Ä J.j1)=ϱ3
 tu:Ϲp (Ä J.j4) (Ä J.j1)=ϱ3
 tv:Ϲp (Ä J.j5) (Ä J.j1)=ϱ3
 tw:ϷE (Ä J.j2)
 tx:ϰu (Ä J.j2) (Ä J.j3)
 ty:ϰu (Ä J.j2) (Ä J.j4)
 tz:ϰu (Ä J.j2) (Ä J.j5)
 t10:ϰu (Ä J.j3) (Ä J.j2)
 t11:ϷE (Ä J.j3)
 t12:ϰu (Ä J.j3) (Ä J.j4)
 t13:ϰu (Ä J.j3) (Ä J.j5)
 t14:ϰu (Ä J.j4) (Ä J.j2)
 t15:ϰu (Ä J.j4) (Ä J.j3)
 t16:ϷE (Ä J.j4)
 t17:ϰu (Ä J.j4) (Ä J.j5)
 t18:ϰu (Ä J.j5) (Ä J.j2)
 t19:ϰu (Ä J.j5) (Ä J.j3)
 t1a:ϰu (Ä J.j5) (Ä J.j4)
 t1b:ϷE (Ä J.j5)
 t1c:ϹU (Ä J.j2)
 t1d:ϹU (Ä J.j3)
 t1e:ϹU (Ä J.j4)
 t1f:ϹU (Ä J.j5)
 Xg:Ė K "Easel"=Â (Â<|Ä J.j0)
 t1h:mg "Easel"=Â (Ä J.j0)
 Xk:InsK K J.j0
 t1j:Mk K J.j0 J.jd
 t1k:ϯH "tree"
 t1l:ϯH "gap"
 t1m:ϯH "folds"
 t1n:ϯH "anew"
 t1o:ϸY "cut" J.j1l
 t1p:ϸY "drawing" J.j1q
 t1q:ϸY "fold" J.j1j
 t1r:ϸY "move" J.j1n
 t1s:ϸY "put" J.j1m
 t1t:ϸY "redrawn" J.je
 t1u:ϸY "seen" J.j1a
 t1v:ϸY "settle" J.j1f
 t1w:ϸY "unfold" J.j1k
 t1x:ϷE (Ä J.j0)
 t1y:Ġ "check_node" nP ϱH J.j6 J.j1t
 t1z:Ġ "node_levels" l9 ϶W J.j7 J.j1u
 t20:Ġ "reaches" p_ ϶W J.j8 J.j1v
 t21:Ġ "bough_end" pX ϱH J.j9 J.j1w
 t22:Ġ "renumbered" gw ϥ1 J.ja J.j1x
 t23:Ġ "nearest" qA ύ6 J.jb J.j1y
 t24:Ġ "joined_outline" b8 ύ7 J.jc J.j1z
 t25:ϸm "__init__" "Easel.__init__" ic ϬQ J.jd J.j20
 t26:ϸm "redrawn" "Easel.redrawn" jG ϵW J.je J.j21
 t27:Ġ "unchanged" pV ϶W J.jf J.j22
 t28:Ġ "kept_folds" gM ώr J.jg J.j23
 t29:Ġ "with_elders" lI ώ7 J.jh J.j24
 t2a:Ġ "_law_cell" pk ύL J.ji J.j25
 t2b:Ġ "_law_whole" nu ϭL J.jj J.j26
 t2c:Ġ "_law_label" mX ύA J.jk J.j27
 t2d:Ġ "_law_start" gA ώB J.jl J.j28
 t2e:Ġ "_law_order" nK ύi J.jm J.j29
 t2f:Ġ "_law_elders" lM ϏM J.jn J.j2a
 t2g:Ġ "_law_below" nz ϳm J.jo J.j2b
 t2h:Ġ "_law_drawn_deed" gH ό3 J.jp J.j2c
 t2i:Ġ "_law_seen_below" gz ϳm J.jq J.j2d
 t2j:Ġ "children_of" iT ϱH J.jr J.j2e
 t2k:Ġ "shown" vL ώ8 J.js J.j2f
 t2l:Ġ "check_unfold" ko Ϲ3 J.jt J.j2g
 t2m:Ġ "numbers_beside" h_ ϱH J.ju J.j2h
 t2n:Ġ "number_behind" i8 ϫ6 J.jv J.j2i
 t2o:Ġ "bounded" uz ϥ1 J.jw J.j2j
 t2p:Ġ "earliest_places" d7 ϸJ J.jx J.j2k
 t2q:Ġ "latest_places" fB ύH J.jy J.j2l
 t2r:Ġ "moved_to_side" dO ύM J.jz J.j2m
 t2s:Ġ "_law_tree" oQ όO J.j10 J.j2n
 t2t:Ġ "_law_level" n8 ϳm J.j11 J.j2o
 t2u:Ġ "_law_taken_out" ip ϳm J.j12 J.j2p
 t2v:Ġ "_law_anew" oW όZ J.j13 J.j2q
 t2w:Ġ "_law_as_ahead" jA όM J.j14 J.j2r
 t2x:Ġ "check_fold" nW Ϲ3 J.j15 J.j2s
 t2y:Ġ "cut_off" uC ϱH J.j16 J.j2t
 t2z:Ġ "put_in" wa ύl J.j17 J.j2u
 t30:Ġ "moved" qI ύm J.j18 J.j2v
 t31:Ġ "room_of" uA ϸJ J.j19 J.j2w
 t32:ϸm "seen" "Easel.seen" nS ϵW J.j1a J.j2x
 t33:Ġ "_law_height" iP ϳm J.j1b J.j2y
 t34:Ġ "_law_put_word" fA ϫR J.j1c J.j2z
 t35:Ġ "_law_done" lh ϥT J.j1d J.j30
 t36:Ġ "stands_below" gu ϸJ J.j1e J.j31
 t37:ϸm "settle" "Easel.settle" eE ύa J.j1f J.j32
 t38:Ġ "_law_due" nU ϥT J.j1g J.j33
 t39:Ġ "_law_alike" m_ ϻL J.j1h J.j34
 t3a:Ġ "pieces" pH Ϧl J.j1i J.j35
 t3b:ϸm "fold" "Easel.fold" og ϳs J.j1j J.j36
 t3c:ϸm "unfold" "Easel.unfold" fY ϳs J.j1k J.j37
 t3d:ϸm "cut" "Easel.cut" pB ϳs J.j1l J.j38
 t3e:ϸm "put" "Easel.put" pL ϨE J.j1m J.j39
 t3f:ϸm "move" "Easel.move" nh ϨF J.j1n J.j3a
 t3g:Ġ "drawn" zZ Ϧl J.j1o J.j3b
 t3h:Ġ "_law_do" uN ϸF J.j1p J.j3c
 t3i:ϸm "drawing" "Easel.drawing" i_ ϵW J.j1q J.j3d
 t3j:Ġ "_law_said" oV ϸF J.j1r J.j3e
 t3k:Ġ "_law_places" l6 ύB J.j1s J.j3f
structure G1(P:Do)(w:Ev)(K:At)(mg:ĳ)(base:Op)(J:Ad):Prop where
 y0:ĕ W9 1 J.j6 J.j1t ϱH fv
 y1:ĕ ϱ5 1 J.j6 J.j1t ϱH bF
 y2:ĕ W9 1 J.j7 J.j1u ϶W eL
 y3:ĕ W9 1 J.j8 J.j1v ϶W iz
 y4:ĕ W9 1 J.j9 J.j1w ϱH cX
 y5:ϲj 1 J.ja J.j1x ϥ1 (ϸ9 ba)
 y6:ĕ W9 1 J.jb J.j1y ύ6 hX
 y7:ϲj 1 J.jc J.j1z ύ7 (ϸ9 bc)
 y8:ϲj 1 J.jd J.j20 ϬQ (ϳO 3 3 bR)
 y9:ĕ W9 1 J.je J.j21 ϵW aU
 ya:ĕ W9 1 J.jf J.j22 ϶W dF
 yb:ĕ W9 1 J.jg J.j23 ώr fg
 yc:ĕ W9 1 J.jh J.j24 ώ7 gj
 yd:ĕ W9 1 J.ji J.j25 ύL cA
 ye:ĕ W9 1 J.jj J.j26 ϭL cE
 yf:ĕ W9 1 J.jk J.j27 ύA dU
 yg:ĕ W9 1 J.jl J.j28 ώB b9
 yh:ĕ W9 1 J.jm J.j29 ύi bH
 yi:ĕ W9 1 J.jn J.j2a ϏM cH
 yj:ĕ W9 1 J.jo J.j2b ϳm c9
 yk:ĕ W9 1 J.jp J.j2c ό3 cG
 yl:ĕ W9 1 J.jq J.j2d ϳm aY
structure G2(P:Do)(w:Ev)(K:At)(mg:ĳ)(base:Op)(J:Ad):Prop where
 y0:ĕ W9 2 J.jr J.j2e ϱH bT
 y1:ĕ W9 2 J.js J.j2f ώ8 o_
 y3:ĕ ϱ5 2 J.jt J.j2g Ϲ3 cT
 y4:ĕ W9 2 J.ju J.j2h ϱH cq
 y6:ĕ ϱ5 2 J.jv J.j2i ϫ6 bA
 y8:ĕ ϱ5 2 J.jw J.j2j ϥ1 bO
 y9:ĕ W9 2 J.jx J.j2k ϸJ cI
 ya:ĕ W9 2 J.jy J.j2l ύH dh
 yb:ϲj 2 J.jz J.j2m ύM (ϸ9 ir)
 yc:ĕ W9 2 J.j10 J.j2n όO gL
 yd:ĕ W9 2 J.j11 J.j2o ϳm bJ
 ye:ϲj 2 J.j12 J.j2p ϳm (ϳO 2 3 bS)
 yf:ĕ W9 2 J.j13 J.j2q όZ jW
 yg:ĕ W9 2 J.j14 J.j2r όM di
structure G3(P:Do)(w:Ev)(K:At)(mg:ĳ)(base:Op)(J:Ad):Prop where
 y1:ĕ ϱ5 3 J.j15 J.j2s Ϲ3 dR
 y3:ĕ ϱ5 3 J.j16 J.j2t ϱH dG
 y5:ĕ ϱ5 3 J.j17 J.j2u ύl cS
 y7:ĕ ϱ5 3 J.j18 J.j2v ύm df
 y8:ĕ W9 3 J.j19 J.j2w ϸJ m6
 y9:ĕ W9 3 J.j1a J.j2x ϵW bG
 ya:ĕ W9 3 J.j1b J.j2y ϳm eG
 yb:ĕ W9 3 J.j1c J.j2z ϫR b6
 yc:ϲj 3 J.j1d J.j30 ϥT (ϳO 2 8 aT)
structure G4(P:Do)(w:Ev)(K:At)(mg:ĳ)(base:Op)(J:Ad):Prop where
 y0:ĕ W9 4 J.j1e J.j31 ϸJ bV
 y1:ϲj 4 J.j1f J.j32 ύa (ϳO 4 8 bq)
 y2:ĕ W9 4 J.j1g J.j33 ϥT bP
 y3:ĕ W9 4 J.j1h J.j34 ϻL iS
structure G5(P:Do)(w:Ev)(K:At)(mg:ĳ)(base:Op)(J:Ad):Prop where
 y0:ĕ W9 5 J.j1i J.j35 Ϧl mB
 y1:ĕ ϱ5 5 J.j1j J.j36 ϳs fj
 y2:ϲj 5 J.j1j J.j36 ϳs (ϳO 2 2 dS)
 y3:ĕ ϱ5 5 J.j1k J.j37 ϳs dJ
 y4:ϲj 5 J.j1k J.j37 ϳs (ϳO 2 2 cR)
 y5:ĕ ϱ5 5 J.j1l J.j38 ϳs gC
 y6:ϲj 5 J.j1l J.j38 ϳs (ϳO 2 2 eT)
 y7:ĕ ϱ5 5 J.j1m J.j39 ϨE gG
 y8:ϲj 5 J.j1m J.j39 ϨE (ϳO 4 4 eR)
 y9:ĕ ϱ5 5 J.j1n J.j3a ϨF fq
 ya:ϲj 5 J.j1n J.j3a ϨF (ϳO 4 4 dP)
structure G6(P:Do)(w:Ev)(K:At)(mg:ĳ)(base:Op)(J:Ad):Prop where
 y0:ĕ W9 6 J.j1o J.j3b Ϧl kC
 y1:ĕ ϱ5 6 J.j1p J.j3c ϸF bQ
 y2:ϲj 6 J.j1p J.j3c ϸF (ϳO 2 2 bE)
structure G7(P:Do)(w:Ev)(K:At)(mg:ĳ)(base:Op)(J:Ad):Prop where
 y0:ĕ W9 7 J.j1q J.j3d ϵW cF
 y1:ĕ W9 7 J.j1r J.j3e ϸF aM
 y2:ϲj 7 J.j1r J.j3e ϸF (ϳO 2 4 aO)
structure G8(P:Do)(w:Ev)(K:At)(mg:ĳ)(base:Op)(J:Ad):Prop where
 y0:ĕ W9 8 J.j1s J.j3f ύB dg
section
variable{P:Do}{w:Ev}{K:At}{mg:ĳ}{base:Op}{J:Ad}
def dg2(i:Nat){p O pos:Pos}(H:Ñ Ξ)(b:Ñ (X.N[i+1]?=γ))(hc:Ñ ż)(h:X.N.Nodup:=by first|assumption|(dsimp only[Y6];decide+kernel))(A:ž (ϲT x) mqag._auto_1)(a:ž (ϲT y) mqag._auto_1)(g:ž (ϴg\/ϲi=Â Ų) mqad._auto_1)(j:ž (ϸo X.fn\/ϕj=Â Ų) mqad._auto_1):DG M X (.Tuple [Ü p,ú y O] k pos) ([i]++([i+1]++[])) (gTp 2<|aX (Rm i)<|Ϥz (i+1) fT):=Hg hc<|pD (p7 h H A g)<|pD (p7 h b a j) Dn
def dk{pos:Pos}{it:Fi}(sc:Scope)(outs:À ϴi)(is:Ò)(own:À Str)(hi:ž (Ϸ1 iter it) mqac._auto_1)(hg:ž (Ϲf D0<|Ϧz (Ζ C ex D0)) mqaf._auto_1)(hc:Ϲf D0 (ϯc (Ζ C ex D0)):=by intro _ _ _ _ _;first|exact Ju|trivial)(he:ž (Ϲf D0<|ϯb (Ζ C ex D0)) mqaf._auto_1)(bk:ž ϶o mqac._auto_1)(hm:Ñ ż)(hk:Ν Ϭx)(hs:ϹP):â ϴB (Ϭf<|ϴo ģ):=Ka own bk hm hk hi hg hc he hs
def sk{pos:Pos}{it:Fi}(i:Nat)(sc:Scope)(outs:À ϴi)(is:Ò)(own:À Str)(w:∀σ H Q,Ϧa fe σ H Q->Ϧa (Ϭf<|ϴo ģ) σ H Q:=by first|exactλ_ _ _ q=>ID q|exactλ_ _ _ q=>q)(hi:ž (Ϸ1 iter it) mqac._auto_1)(hg:ž (Ϲf D0<|Ϧz (Ζ C ex D0)) mqaf._auto_1)(hc:Ϲf D0 (ϯc (Ζ C ex D0)):=by intro _ _ _ _ _;first|exact Ju|trivial)(he:ž (Ϲf D0<|ϯb (Ζ C ex D0)) mqaf._auto_1)(bk:ž ϶o mqac._auto_1)(hm:Ñ ż)(hk:Ν Ϭx)(hN:X.N.Nodup:=by assumption)(hx:Ñ Ξ)(hl:ž (ϲT x) mqag._auto_1)(hsw:Ñ (ϤH ϴB (Â<|Ü p) spos.line X.env=ϯs))(hs:ϹP)(hf:ž (ϴg\/ϲi=Â Ų) mqad._auto_1):ŋ (ϳc [Ü p] ϴB spos) (aC i fe):=FO own w hN hx hl bk hm hk hi hg hc he hsw hs hf
def bK(b:ϗ2):϶o:=⟨b.hsc,b.kind,b.loc,λx H h=>ϗK<|b.nocell x H,λx H _ h=>b.nocell _ h rfl,b.fr,b.out⟩
def dcx{pos p:Pos}{T:No}(G:ϱG M.K M.mg CX f fd ps ϶v)(D:ϕ1)(hr:W0 k' X.A)(H:ϲY M.E)(A:ϱ4 ď)(h:Ν (k<=k'))(hg:Ñ (Ħ x))(d:ġ "__debug__")(he:Ñ (Õ ď=ź (Õ es)))(l:Ñ (Ŕ<|ϰU<|Õ es)):â (ô (Ü p) ď pos) ϐ8:=Lq G (hr.mono h) hg D.g D.F.kp D.b H A d he l
def Xc{pos p:Pos}{T:No}(G:ϱG M.K M.mg W9 f fd ps ϶v)(D:ϕ1)(hr:W0 k' X.A)(A:ϱ4 ď)(h:Ν (k<=k'))(hg:Ñ (Ħ x))(d:ġ "__debug__")(he:Ñ (Õ ď=ź (Õ es)))(l:Ñ (Ŕ<|ϰU<|Õ es)):â (ô (Ü p) ď pos) ϐ8:=dcx G D hr dA A h hg d he l
def t_(T:϶Q)(g1:Ϻa)(Z6:ĕ W9 2 J.j1h J.j34 ϻL mO):ĕ W9 3 J.j1h J.j34 ϻL eV:=by
 apply ŀ T.t39.F iJ;let nd:=iJ.nd;delta bdA;show af Æ (af Æ<|Ϩs Æ Æ (ϱb (ϓa ϸn) (dg2 2) Æ) Æ)
def uB(T:϶Q)(g1:Ϻa)(Z6:ĕ W9 3 J.j1h J.j34 ϻL eV):ĕ W9 4 J.j1h J.j34 ϻL mE:=by
 apply ŀ T.t39.F iJ;let nd:=iJ.nd;delta bdA;show af Æ (af Æ<|Ϩs Æ Æ (ϱb (ϓa ϸn) (dg2 2) Æ) Æ)
def mk1(T:϶Q):Ϻa:=by
 apply(?_,?_,?_,?_,?_,?_,?_,?_,?_,?_,?_,?_,?_,?_,?_,?_,?_,?_,?_,?_,?_,?_)
 .apply ŀ T.t1y.F iH
  let nd:=iH.nd;delta mf;trivial
 .apply ϴb T.t1y.F iH ϰa
  let nd:=iH.nd;delta l8;trivial
 .apply ŀ T.t1z.F o6
  let nd:=o6.nd;delta kR;trivial
 .apply ŀ T.t20.F wg
  let nd:=wg.nd;delta rQ;show aw<|iw<|ϴW p_ [] ["row"]
 .apply ŀ T.t21.F nE
  let nd:=nE.nd;delta mY;show af Æ (af (ϧK Æ<|aw<|RZ (i:=2) nE.nd rfl ϲW ie PH λ_=>Gf) Æ)
 .apply ŀ T.t22.F lK
  let nd:=lK.nd;delta lR;show af (ϻI 2 lK.nd<|Vk Æ Æ) (af (ϱb Æ (dg2 3)<|aw<|Ϭn 2 4 ϧ2)<|ϙq<|aw<|jB 2<|iw<|ϴW gw [(2,"places")] ["row"] (he:=ϴk (zW<|ao (AQ (lC hr) ϸn Æ ϲ0) Æ)))
 .apply ŀ T.t23.F rM
  let nd:=rM.nd;delta rF;show af (ϻI 3 rM.nd<|ϒU Æ)<|Ϙ3<|af Æ<|aw<|iw<|zW<|Ŧ 5<|Ϸx (AZ (aj 4) ϫM)
 .apply ŀ T.t24.F d_
  let nd:=d_.nd;delta gk;show af Æ (af (ϱb (Oc rfl T.t9<|ϫQ<|Ϸx (ϴW b8 [] ["outline"])) Æ<|af (sk 4 (ag b8) [(3,"level")] [0,1] ["number","outline"] (hg:=ϴk Ϩu))<|af (ϲg 5 d_.nd<|ϒx<|Ϸx (ϴW b8 ϓy ϒf))<|af (ϲg 6 d_.nd<|ϫQ<|Ϸx (ϴW b8 ϓy ϒf)) Æ) Æ)
 .apply ϶E T.t25.F kX ϰa
  let nd:=kX.nd;delta bR;show aL (nV (tb:=đ) (i:=0) (Ϲ8 T.t1k) (Ņ Æ) Æ)<|aL (nV (tb:=đ) (i:=0) (Ϲ8 T.t1l) (Ņ Æ) ϸs)<|aL (nV (tb:=đ) (i:=0) (Ϲ8 T.t1m) (Ņ Æ)<|ur aI)<|aL (nV (tb:=đ) (i:=0) (Ϲ8 T.t1n) (Ņ Æ) Æ) pQ
 .apply ŀ T.t26.F mS
  let nd:=mS.nd;delta gZ;trivial
 .apply ŀ T.t27.F sv
  let nd:=sv.nd;delta nT;trivial
 .apply ŀ T.t28.F lN
  let nd:=lN.nd;delta lH;show af (ϻI 2 lN.nd<|jK<|ϴW gM [] ["row"])<|aw<|iw<|ϮU gM [(1,"folds"),(2,"elders")] ["node","number"] (hg:=ϴk Ϩu) (hc:=ϴk (zf<|BE<|Jv (ϻV jZ 1 2)<|Du<|ϻV jZ 0 3))
 .apply ŀ T.t29.F oY
  let nd:=oY.nd;delta kN;show af Æ (af (ϱb Æ Æ<|af Æ<|aw<|ϧK Æ<|af (Ϭn 2 4 xU) Æ) Æ)
 .apply ŀ T.t2a.F s_
  let nd:=s_.nd;delta nM;trivial
 .apply ŀ T.t2b.F qP
  let nd:=qP.nd;delta iV;trivial
 .apply ŀ T.t2c.F qT
  let nd:=qT.nd;delta lP;trivial
 .apply ŀ T.t2d.F qX
  let nd:=qX.nd;delta lD;show af (sk 1 (ag gA) [] [0] ["_law_row"] (he:=ϴk (ur aI))) (af (ϱb Æ Æ<|aw<|J6 1 Æ ϸs ϲ0)<|aw<|Fj 1 (dk (ag gA) [] [0,1,2] ϫ1 (hg:=λ_ _ _ _ _=>Hg (n:=3) rfl<|pD (p7 (i:=0) (ϸL<|List.Nodup (ϫ1:À Str)) rfl ϲW)<|pD (p7 (i:=1) (ϸL<|List.Nodup (ϫ1:À Str)) rfl ϲW)<|pD (p7 (i:=2) (ϸL<|List.Nodup (ϫ1:À Str)) rfl ϲW) Dn)) Æ)
 .apply ŀ T.t2e.F lB
  let nd:=lB.nd;delta md;show af Æ (af Æ<|af (ϧK Æ<|af (Qz 3 Æ)<|af Æ<|aw<|cb Æ (aw<|όI<|ϲg 3 lB.nd<|ϩB ϧ2<|OH (λv u=>[v,u]) Æ Æ) bt) Æ)
 .apply ŀ T.t2f.F pN
  let nd:=pN.nd;delta kL;show af Æ (af (ϱb Æ Æ<|aw<|ϱb Æ Æ<|aw<|zg 1 ϧ2 ϸs) Æ)
 .apply ŀ T.t2g.F lL
  let nd:=lL.nd;delta lY;show af Æ (af Æ<|af (ϧK Æ<|ϔz<|aw<|όI<|ϲg 3 lL.nd<|mW Æ) Æ)
 .apply ŀ T.t2h.F kj
  let nd:=kj.nd;delta fP;show af Æ (af Æ<|϶F Æ (Ϩs Æ Æ Æ<|϶F Æ (aw<|zg 6 ie Æ) Æ) Æ)
 apply ŀ T.t2i.F fK;let nd:=fK.nd;delta fN;show af Æ (af Æ<|af (ϧK Æ<|ϔz<|aw<|cb Æ (aw<|όI<|ϲg 3 fK.nd<|mW Æ) bt) Æ)
def mk2(T:϶Q)(g1:Ϻa):ϥ2:=by
 apply(?_,?_,?_,?_,?_,?_,?_,?_,?_,?_,?_,?_,?_,?_)
 .apply ŀ T.t2j.F o9
  let nd:=o9.nd;delta kB;show af Æ<|aw<|iw<|ϮU iT [(1,"node")] ["number","row"] (hg:=ϴk Ϩu)
 .apply ŀ T.t2k.F z9
  let nd:=z9.nd;delta wu;show af Æ<|af (ϱb Æ Æ<|aw<|BV 2<|HG<|SG Æ<|By<|IS Æ<|By<|Cm fZ kJ Æ ϸn rfl)<|af (jB 2<|sk 4 (ag vL) [] [0,1] ["number","is_seen"] (hg:=ϴk Ϩu))<|aw<|HQ 4<|MF 4<|ϰF g1.y5 T.t22<|Ŧ 0<|Ŧ 4 aI
 .apply ϴb T.t2l.F oH ϰa
  let nd:=oH.nd;delta jH;show af Æ<|aw<|cb (ϻV fZ 2 1) Æ bt
 .apply ŀ T.t2m.F k_
  let nd:=k_.nd;delta gn;trivial
 .apply ϴb T.t2n.F mT ϰa
  let nd:=mT.nd;delta eS;trivial
 .apply ϴb T.t2o.F w8 ϰa
  let nd:=w8.nd;delta ku;show ϶F (cN CT (ϰ9 DP) Æ (ϒs T.tg) ϥB) Æ (af Æ<|϶F (cN CT (ϰ9 DP) Æ (ϒs T.tf) ϥB) Æ Æ)
 .apply ŀ T.t2p.F kx
  let nd:=kx.nd;delta fM;show af Æ (af (ϱb Æ Æ<|af (sk 4 (ag d7) [(2,"places"),(0,"outlines"),(3,"number"),(1,"gap")] [0] ["ahead"] (w:=Ň (Cw<|ID q))) Æ) Æ)
 .apply ŀ T.t2q.F mI
  let nd:=mI.nd;delta iu;show af Æ (af Æ<|af (ϱb (Ny rfl T.t9 Æ Æ Æ) Æ<|af Æ<|af (sk 7 (ag fB) [(4,"places"),(6,"one"),(0,"outlines"),(1,"gap")] [0] ["behind"] (w:=Ň (Cw<|ID q)))<|aw<|zg 4 ϫM Æ) Æ)
 .apply ŀ T.t2r.F iE
  let nd:=iE.nd;delta iq;show af (ϻI 3 iE.nd<|ϒx<|ao (ϮU dO [(2,"unit")] ["place","reach"] (hi:=ύd 1<|ϰF g1.y3 T.t20<|Ŧ 0 aI) (hg:=ϴk Ϩu)) aI)<|aw<|iw<|ϴW dO [(3,"least")] ["place"]
 .apply ŀ T.t2s.F nr
  let nd:=nr.nd;delta nL;show af Æ (af Æ<|af (ϱb Æ Æ<|af Æ<|af (cb Æ (Ϩs Æ Æ (ϲg 6 nr.nd<|jK<|Ϩ0 6 vB Æ) Æ) Æ) Æ) Æ)
 .apply ŀ T.t2t.F qY
  let nd:=qY.nd;delta me;trivial
 .apply ϶E T.t2u.F kW ϰa
  let nd:=kW.nd;delta bS;show aL Æ (aL (MP (c:=1) 0 ϸs ϸn ϲ0) Æ)
 .apply ŀ T.t2v.F sY
  let nd:=sY.nd;delta nZ;show af Æ (af Æ<|af (ϱb Æ Æ<|aw<|cb (ϻV jZ 5 1) (aw<|ϧK Æ<|af (BV 4<|AZ ϸn ϫM) Æ) bt)<|aw<|jB 4<|iw<|ϙk Æ)
 apply ŀ T.t2w.F mL;let nd:=mL.nd;delta g_;show af (ϱb Æ Æ<|af Æ<|aw<|cb (ϻV fZ 6 2) (af Æ<|϶F (ϙh ϥB) Æ<|aw<|ϱb Æ Æ<|aw<|cb (ϘZ ϥB) Æ bt) bt) Æ
def mk3(T:϶Q)(g1:Ϻa)(g2:ϥ2):Ϩ9:=by
 apply(?_,?_,?_,?_,?_,?_,?_,?_,?_)
 .apply ϴb T.t2x.F qR ϰa
  let nd:=qR.nd;delta lJ;show af Æ<|aw<|cb (BE<|xT (ϻV jZ 2 1) Æ) Æ bt
 .apply ϴb T.t2y.F wz ϰa
  let nd:=wz.nd;delta nj;trivial
 .apply ϴb T.t2z.F xE ϰa
  let nd:=xE.nd;delta qB;show af Æ (Ϩs Æ Æ (cJ rfl PassesOwn.leaving (vH<|Ϩ0 3 (sf ie) vB) Æ Æ) Æ)
 .apply ϴb T.t30.F w9 ϰa
  let nd:=w9.nd;delta pK;show af Æ (af Æ<|af Æ<|϶F (Pq ϸn ϸs<|aj 4) Æ<|ϙs<|af Æ<|af (ϲg 7 w9.nd<|jK<|ϩB (ϩB (Ϩ0 0 vB Æ) Æ)<|Ϩ0 0 Æ vB)<|af Æ<|ϒE 9<|ϒE 10 Æ)
 .apply ŀ T.t31.F vX
  let nd:=vX.nd;delta rO;trivial
 .apply ŀ T.t32.F qZ
  let nd:=qZ.nd;delta l7;trivial
 .apply ŀ T.t33.F pE
  let nd:=pE.nd;delta kQ;show af Æ<|aw<|iw<|gW yO (ϰ9 yZ) (ϫQ<|Ϸx (ϴW iP [(0,"_law_state")] ["_law_one"])) ϸs
 .apply ŀ T.t34.F my
  let nd:=my.nd;delta iB;show ϶F (BE<|xT Æ<|wO<|Ϙ2 ϥB) Æ Æ
 apply ϶E T.t35.F jU ϰa;let nd:=jU.nd;delta aT;show aL (ϲg 2 jU.nd<|jK<|mW<|ϰF g1.yh T.t2e<|Ŧ 0<|Ϸx xU) (aL Æ<|Oe Æ (aL (Au (i:=0) (c:=2) (Ņ Æ) ϧ2 Æ) Æ)<|Oe Æ (aL Æ<|aL Æ<|ϐp CM 0 Æ<|ϐp LQ 1 (ϴW lh [(4,"_law_first")] ["_law_row"] (he:=ϴk (dk _ ϘM [0] ["_law_child"] (bk:=bK<|O9 rfl ñ ñ ñ (ω (o4 _ _ ϘM) ⟨Ϧu,trivial⟩)))))<|ϐp CM 2 Æ<|aL (De (c:=1) 0 ϧ2 Æ (aj 4) ϲ0) Æ)<|aL (Dp (j:=6) (m:=1) jU.nd rfl ϲW g2.ye (hr.mono á) rfl T.t2u.g T.t2u.F.kp T.t2u.b dA (Ņ Æ) Æ ϻk)<|aL Æ<|aL (cb Æ (af (De (c:=1) 0 Æ Æ ϧ2 ϲ0) Æ) bt)<|aL (jB 7<|cb Æ (aw<|Au (i:=0) (c:=2) (Ņ Æ) (aj 6) xU) bt) Æ)
def mk4(T:϶Q)(g1:Ϻa)(g2:ϥ2)(g3:Ϩ9):ώC:=by
 apply(?_,?_,?_,?_)
 .apply ŀ T.t36.F oz
  let nd:=oz.nd;delta jD;show af Æ<|af Æ<|aw<|iw<|ϮU gu [(3,"elder")] ["earliest","latest"] (hi:=AG rfl T.te Æ Æ) (hg:=ϴk Ϩu)
 .apply ϶E T.t37.F fF ϰa
  let nd:=fF.nd;delta bq;show aL (ϻI 4 fF.nd<|Ϥl (Cz 0<|jK<|ϻG bG 3 T.t1u g3.y9 T.t32.b Ϩq) ie ϲ0)<|aL (nV (tb:=đ) (i:=0) (Ϲ8 T.t1k) (Ņ Æ) Æ)<|aL (nV (tb:=đ) (i:=0) (Ϲ8 T.t1m) (Ņ Æ)<|ϰF g1.yb T.t28<|Ŧ 1<|Ŧ 2 aI)<|aL (ϲg 5 fF.nd<|jK<|Cz 0<|jK<|ϻG bG 3 T.t1u g3.y9 T.t32.b Ϩq)<|ϙm<|Ϙ0<|aL (nV (tb:=đ) (i:=0) (Ϲ8 T.t1n) (Ņ Æ)<|ϰF g1.yc T.t29<|ao (Ϥl ϫM ie ϲ0)<|Ŧ 7 aI) pQ
 .apply ŀ T.t38.F oZ
  let nd:=oZ.nd;delta fR;show af Æ (af (ϱb (Ry<|yt Rf Ot ϸn (sf ie) Æ) Æ Æ)<|af Æ<|af Æ<|af Æ<|϶F Æ (af (ϲg 6 oZ.nd<|ϫQ<|Ϸx (ϩB Æ<|ϴW nU [(1,"_law_deed")] ["_law_k"])) Æ)<|af Æ<|϶F (BE<|xT Æ<|wO<|cN jZ kJ (aj 7) (ϰF g1.yj T.t2g<|Ŧ 0<|Ŧ 4 aI) rfl) Æ Æ)
 show uB T g1<|t_ T g1 zR
def mk5(T:϶Q)(g1:Ϻa)(g2:ϥ2)(g3:Ϩ9)(g4:ώC):ϘN:=by
 apply(?_,?_,?_,?_,?_,?_,?_,?_,?_,?_,?_)
 .apply ŀ T.t3a.F p6
  let nd:=p6.nd;delta uq;show af Æ (af (ϻI 3 p6.nd<|ϴW pH [] ["reach"] (he:=ϴk (ur<|ao (jK<|zW<|ϙn<|Ϸx (ϒU Ϩq)) aI)))<|af (ϱb (Ny rfl T.t9 Æ Æ Æ) Æ<|af Æ<|aw<|cb Æ (af (K8 3 5<|Ku (sc:=(ag pH)) (i:=3) (c:=5) (bi:=6) Æ p6.nd rfl ϲW rfl rfl Æ (ϴk<|CO (ϸL<|List.Nodup (["child","outlines"]:À Str)) rfl ϲW) λ_ _ _ _ _ hK=>pS (e9 _ hK) (Ņ Æ) (Ņ Æ) ϲ0)<|af Æ<|af (ϱb (ύd 5<|aj 7) (dg2 8)<|aw<|zg 2 (aj 8)<|aj 9)<|aw<|JN 3 (aj 4) (ϰF g1.y7 T.t24<|Ŧ 6<|Ŧ 7 aI) ϲ0) bt) Æ)
 .apply ϴb T.t3b.F iU ϰa
  let nd:=iU.nd;delta l_;trivial
 .apply ϶E T.t3b.F iU ϰa
  let nd:=iU.nd;delta dS;show aL (gf<|ϰF (fnx g3.y1) T.t2x<|ao (ϲO T.t1k<|Ņ Æ)<|ao (ϲO T.t1m<|Ņ Æ)<|Ŧ 1 aI)<|aL (ϷF 3 4 (Ϸ2<|(ϷC T.t1v 4 g4.y1 á T.t37.b)) (hr.mono á) dA (Ņ Æ) (ao (ϰF g1.ya T.t27<|ao (ϲO T.t1k<|Ņ Æ) aI)<|ao (gW nY rh (ϲO T.t1m<|Ņ Æ) Æ) Æ) ϻ2) pQ
 .apply ϴb T.t3c.F fE ϰa
  let nd:=fE.nd;delta jF;trivial
 .apply ϶E T.t3c.F fE ϰa
  let nd:=fE.nd;delta cR;show aL (gf<|ϰF (fnx g2.y3) T.t2l<|ao (ϲO T.t1k<|Ņ Æ)<|ao (ϲO T.t1m<|Ņ Æ)<|Ŧ 1 aI)<|aL (ϷF 3 4 (Ϸ2<|(ϷC T.t1v 4 g4.y1 á T.t37.b)) (hr.mono á) dA (Ņ Æ) (ao (ϰF g1.ya T.t27<|ao (ϲO T.t1k<|Ņ Æ) aI)<|ao (ϴW fY [(1,"node")] ϒf (hi:=vH<|ϲO T.t1m<|Ņ Æ)) Æ) ϻ2) pQ
 .apply ϴb T.t3d.F m5 ϰa
  let nd:=m5.nd;delta nH;show aw (gf<|ϹO (ϰ9 È) 4 T.t1v zR ϴw T.t37.b dA Æ)
 .apply ϶E T.t3d.F m5 ϰa
  delta eT;show aL (ϷF 3 4 (Ϸ2<|(ϷC T.t1v 4 g4.y1 á T.t37.b)) (hr.mono á) dA (Ņ Æ) (ao (ϰF (fnx g3.y3) T.t2y<|ao (ϲO T.t1k<|Ņ Æ)<|Ŧ 1 aI)<|ao (ϲO T.t1m<|Ņ Æ)<|ao (ur<|ao (Ϥl (Ϥl (ϲO T.t1k<|Ņ Æ) ϸn ϲ0) ie ϲ0) aI) aI) ϻ2) pQ
 .apply ϴb T.t3e.F jS ϰa
  let nd:=jS.nd;delta mZ;show aw (gf<|ϹO (ϰ9 È) 4 T.t1v zR ϴw T.t37.b dA Æ)
 .apply ϶E T.t3e.F jS ϰa
  let nd:=jS.nd;delta eR;show aL (ϷF 3 4 (Ϸ2<|(ϷC T.t1v 4 g4.y1 á T.t37.b)) (hr.mono á) dA (Ņ Æ) (ao (ϰF (fnx g3.y5) T.t2z<|ao (ϲO T.t1k<|Ņ Æ)<|Ŧ 1<|Ŧ 2<|Ŧ 3 aI)<|ao (ϲO T.t1m<|Ņ Æ) Æ) ϻ2) pQ
 .apply ϴb T.t3f.F iI ϰa
  let nd:=iI.nd;delta lU;show aw (gf<|ϹO (ϰ9 È) 4 T.t1v zR ϴw T.t37.b dA Æ)
 apply ϶E T.t3f.F iI ϰa;let nd:=iI.nd;delta dP;show aL (ϷF 3 4 (Ϸ2<|(ϷC T.t1v 4 g4.y1 á T.t37.b)) (hr.mono á) dA (Ņ Æ) (ao (ϰF (fnx g3.y7) T.t30<|ao (ϲO T.t1k<|Ņ Æ)<|Ŧ 1<|Ŧ 2<|Ŧ 3 aI)<|ao (ϲO T.t1m<|Ņ Æ)<|ao (ur<|ao (Ϥl (Ϥl (ϲO T.t1k<|Ņ Æ) ϸn ϲ0) ie ϲ0) Æ) aI) ϻ2) pQ
def mk6(T:϶Q)(g2:ϥ2)(g5:ϘN):ϘO:=by
 apply(?_,?_,?_)
 .apply ŀ T.t3g.F z_
  let nd:=z_.nd;delta wB;show Ϩs Æ Æ Æ<|aw<|όI<|iw<|ϰF g2.yb T.t2r<|Ŧ 0<|Ŧ 3<|Ϸx (ϒs T.th)
 .apply ϴb T.t3h.F nc ϰa
  let nd:=nc.nd;delta iy;show aw (cb Æ (aw<|gf<|ϹO fj 5 T.t1q g5.y1 á T.t3b.b Lv.of.pass Æ)<|aw<|cb Æ (aw<|gf<|ϹO dJ 5 T.t1w g5.y3 á T.t3c.b Lv.of.pass Æ)<|aw<|cb Æ (aw<|gf<|ϹO gC 5 T.t1o g5.y5 á T.t3d.b Lv.of.pass Æ)<|aw<|cb Æ (aw<|gf<|ϹO gG 5 T.t1s g5.y7 á T.t3e.b Lv.of.pass Æ)<|aw<|gf<|ϹO fq 5 T.t1r g5.y9 á T.t3f.b Lv.of.pass Æ)
 apply ϶E T.t3h.F nc ϰa;let nd:=nc.nd;delta bE;show aL (cb Æ (aw<|ϷF 1 5 (Ϸ2<|(ϷC T.t1q 5 g5.y2 á T.t3b.b)) (hr.mono á) dA (Ņ Æ) Æ ϻk)<|aw<|cb Æ (aw<|ϷF 1 5 (Ϸ2<|(ϷC T.t1w 5 g5.y4 á T.t3c.b)) (hr.mono á) dA (Ņ Æ) Æ ϻk)<|aw<|cb Æ (aw<|ϷF 1 5 (Ϸ2<|(ϷC T.t1o 5 g5.y6 á T.t3d.b)) (hr.mono á) dA (Ņ Æ) Æ ϻk)<|aw<|cb Æ (aw<|ϷF 3 5 (Ϸ2<|(ϷC T.t1s 5 g5.y8 á T.t3e.b)) (hr.mono á) dA (Ņ Æ) Æ ϻ2)<|aw<|ϷF 3 5 (Ϸ2<|(ϷC T.t1r 5 g5.ya á T.t3f.b)) (hr.mono á) dA (Ņ Æ) Æ ϻ2) pQ
def mk7(T:϶Q)(g3:Ϩ9)(g6:ϘO):ώD:=by
 apply(?_,?_,?_)
 .apply ŀ T.t3i.F tV
  delta iA;show aw<|iw<|ϰF g6.y0 T.t3g<|ao (Ϥl (ϻG bG 3 T.t1u g3.y9 T.t32.b Ϩq) ie ϲ0)<|ao (zc (tb:=đ) (Ϲ8 T.t1l) Ϩq) aI
 .apply ŀ T.t3j.F bL
  let nd:=bL.nd;delta jR;show af (D7 (tbl:=(ϸC "NoDeed" 2)) g6.y1 (hr.mono á) rfl T.t3h.g T.t3h.F.kp T.t3h.b (λ_=>Æ) rfl rfl T.tr rfl T.ti<|vp ⟨J.j2,T.tj,T.ts,λD0 σ H' ea Q E hca hfr hlen hq=>ϫ3 2 á ϭE hlen (ϫP (ϐf (b2:=true) (b3:=false) (b4:=false) bL.nd rfl ϲW ϲW ?_ ?_ ?_ ?_ ?_ rfl (k:=2) rfl) T.tn T.tx T.tw T.ty T.tz T.t1c) ϫ0⟩<|vp ⟨J.j3,T.tk,T.tt,λD0 σ H' ea Q E hca hfr hlen hq=>ϫ3 1 á ϭE hlen (ϫP (p8 (b1:=true) (b2:=false) (b3:=false) (b4:=false) bL.nd rfl ϲW ϲW ?_ ?_ ?_ ?_ ?_ rfl (k:=1) rfl) T.to T.t11 T.t10 T.t12 T.t13 T.t1d) ϫ0⟩<|vp ⟨J.j4,T.tl,T.tu,λD0 σ H' ea Q E hca hfr hlen hq=>ϫ3 3 á ϭE hlen (ϫP (ϐf (b2:=false) (b3:=true) (b4:=false) bL.nd rfl ϲW ϲW ?_ ?_ ?_ ?_ ?_ rfl (k:=3) rfl) T.tp T.t15 T.t14 T.t16 T.t17 T.t1e) ϫ0⟩<|vp ⟨J.j5,T.tm,T.tv,λD0 σ H' ea Q E hca hfr hlen hq=>ϫ3 4 á ϭE hlen (ϫP (ϐf (b2:=false) (b3:=false) (b4:=true) bL.nd rfl ϲW ϲW ?_ ?_ ?_ ?_ ?_ rfl (k:=4) rfl) T.tq T.t19 T.t18 T.t1a T.t1b T.t1f) ϫ0⟩ Qm) Æ
 apply ϶E T.t3j.F bL ϰa;let nd:=bL.nd;delta aO;show aL (KI λ_=>aw<|F9 (m:=1) g6.y2 (hr.mono á) rfl T.t3h.g T.t3h.F.kp T.t3h.b dA (Ņ Æ) Æ ϻk)<|IP ie
def mk8(T:϶Q)(g7:ώD):ϘP:=by
 apply⟨?_⟩;apply ŀ T.t3k.F kH;let nd:=kH.nd;delta kI;show af (ϲg 2 kH.nd<|jK<|ϻG cF 7 T.t1p g7.y0 T.t3i.b Ϩq) (϶F Æ (aw<|iw Cn)<|af Æ<|af (ϱb (ύd 1 ϸs) (dg2 4)<|aw<|Ϭn 3 4 ϫM) Æ)
def RB{f:Ix}{fd:Fk}(F:ϳ1 "law" "law" q_ f fd)(T:϶Q)(g1:Ϻa)(g2:ϥ2)(g3:Ϩ9)(g4:ώC)(g7:ώD)(g8:ϘP):ϲj 9 f fd Ϗi (ϸ9 wH):=by
 apply cZ rfl rfl rfl F lT ϰa;let nd:=lT.nd;delta Bp;show af Æ (af (ϲg 2 lT.nd<|LA (m:=2) T.Xg T.t1j g1.y8 (hr.mono á) rfl T.t1h T.t25.b dA Æ<|a_ ϻk)<|af Æ<|af Æ<|af (ϻI 5 lT.nd<|jK<|mW<|ϰF g1.yh T.t2e<|Ŧ 3<|Ϸx xU)<|af (ϲg 6 lT.nd<|jK<|CY<|ϰF g8.y0 T.t3k<|Ŧ 2<|Ŧ 5 aI)<|af (cb (Bt<|BE<|xT (ϒ2 6 ϥB)<|wO<|Cc<|BQ<|ϰF g4.y3 T.t39<|ao (ϻG aU 1 T.t1t g1.y9 T.t26.b ϸs)<|Ŧ 4 aI) Æ bt)<|af (ϐ0<|ϱb (vH<|Ϩ0 0 (sf ie)<|sf ie) Æ<|af Æ<|af Æ<|af Æ<|af Æ<|af (Hv (m:=1) g7.y1 g7.y2 (hr.mono á) rfl T.t3j.g T.t3j.F.kp T.t3j.b dA (Ņ Æ) Æ ϻk (Ņ Æ) Æ bt)<|af (cb Æ (af Æ<|af (ϱb Æ Æ<|aw<|Ϭn 12 13<|jK<|mW<|ϰF g1.yl T.t2i<|Ŧ 3<|Ŧ 13 aI)<|af (Dp (j:=14) (m:=1) lT.nd rfl ϲW g3.yc (hr.mono á) rfl T.t35.g T.t35.F.kp T.t35.b dA (Ņ Æ) Æ ϻk)<|af (ϲg 15 lT.nd<|jK<|mW<|ϰF g1.yh T.t2e<|Ŧ 3<|Ϸx xU)<|af (cb Æ (aw<|ϐ0<|ϲg 14 lT.nd<|ϩB (aj 14)<|ϴW q_ [(5,"_law_sight")] ["_law_node"] (hc:=ϴk (zf<|ϻV fZ 0 1))) bt)<|af (ϐ0<|ϲg 4 lT.nd<|jK<|mW<|ϰF g2.yf T.t2v<|Ŧ 3<|Ŧ 15<|Ŧ 14 aI)<|af Æ<|af (ϲg 16 lT.nd<|jK<|CY<|ϰF g8.y0 T.t3k<|Ŧ 2<|Ŧ 5 aI)<|϶F (ϒ2 16 ϥB) Æ Æ) bt)<|af (Jh (ϻG aU 1 T.t1t g1.y9 T.t26.b ϸs) Æ)<|aw<|cb (Bt<|Cc<|BQ<|ϰF g4.y3 T.t39<|ao (ϻG aU 1 T.t1t g1.y9 T.t26.b ϸs)<|Ŧ 4 aI) Æ bt) Æ)
end
namespace F
def pr(fl:å):F->F|nil=>nil|cons k c r=>ϙu<|ϻj r
def w_(fl:å):ϱa (roots (ϻj f)=ϫz):=by
 ext y
 induction y with|nil=>show rfl|cons k c r Pi I4=>rw[pr,roots,roots,I4]
def xN:ϱa (roots ϥe=(ϫz).reverse):=by
 ext y
 induction y with|nil=>show rfl|cons k c r Pi I4=>rw[Zp,uw,I4,roots,roots,roots,K8R]
def LI{ch:Nat->Ò}:ϱa (ϹJ f->Yv (λq=>(ŭ).reverse) ϥe):=by
 ext y
 induction y with
 |nil=>ext _;show trivial
 |cons k c r Pi I4=>
  ext h;let(H,a,b):=h;rw[Zp,yM];apply(I4 b,?_,Pi a,trivial);change(ch k).reverse=roots (Zp c);rw[H,xN]
def JR{ch:Nat->Ò}{fl:å}:ϱa (ϹJ f->Yv (λq=>Ï (ā fl q) [] ŭ) (ϻj f)):=by
 ext y
 induction y with
 |nil=>ext _;show trivial
 |cons k c r Pi I4=>
  ext h;let(b,d,a):=h;rw[pr];by_cases H:ϧi
  .rw[ϳZ]
   show(ϳZ,trivial,I4 a)
  rw[ϳj];apply(?_,Pi d,I4 a);change(Ï ϧi []<|ch k)=_;rw[ϳj,b,w_]
theorem ig(fl:å):ϱa (∀k∈pre (ϻj f),k∈ϰi)
 |nil,k,h=>h
 |cons a c r,k,h=>by
  rw[pr,pre]at h;rw[pre];rcases W7.mp h with h|h
  .rw[h];show P0
  .rcases P1.mp h with h|h
   .split at h
    .cases h
    .exact Ā<|Ŀ<|ig fl c k h
   .exact Ā<|Ļ<|ig fl r k h
def rG(fl:å):ϱa (Ì (pre<|ϻj f)<=Ì ϰi):=by
 ext y
 induction y with
 |nil=>show õ
 |cons a c r Pi I4=>
  rw[pr,pre,pre,Xt,Xt,Ww,Ww];let H:=I4;let h:Ì (pre (if ϤE then nil else ϻj c))<=Ì ϳV:=by
   split
   .exact ϴw
   show Pi
  lia
def PN{e:ι}{fl sn:å}:∀(p:Int)(b:Bool)(f:F),϶V->(∀k∈ϰi,e k=p->sn k=b)->(∀k∈ϰi,∀j:Nat,e k=ą->ą≠p->sn k=(sn j&& !fl j))->(ϰs ϰi)->(∀k∈ϰi,Þ≠p)->ϸi->pre (ϻj f)=é ϰi sn:=by
 ext X u Y
 revert X u
 induction Y with
 |nil=>ext _ _ _ _ _ _ _ _;show rfl
 |cons a c r Pi I4=>
  ext p b he o l nd P B;let(L,Q,M):=he;rw[pre]at o l nd P;let w:sn a=true:=by rw[o a P0 L,B]
  rw[pr,pre,pre,K8N,Os w,Zm];simp only[Yj,Ya,P1]at nd;let(N,E,G,O):=nd;let v:=I4 p b M (λk h=>o k Ϥc) (λk h=>l k Ϥc) G (λk h=>P k Ϥc) B;let no:∀g:F,ϹN ϱv g->(∀k∈Ϸq,k∈ϳV)->ϤE->(∀k∈Ϸq,à (sn k)):=by
   ext g;exactλhg S i=>by
    let key:∀(g:F)(q:Int),ϹN q g->(∀k∈Ϸq,k∈ϳV)->(ϵn<|q=ą/\q≠p/\à (sn j&& !fl j))->∀k∈Ϸq,à (sn k):=by
     ext g
     induction g with
     |nil=>ext q _ _ _ k h;cases h
     |cons x d s ih1 ih2=>
      ext q hg S C k h;let(j,J,H,n):=C;let(g1,g2,g3):=hg;rw[pre]at S h;let y:à (sn x):=by
       rw[l x (Ű<|S x P0) j (by rw[g1,J])<|by rw[<-J];show H];show n
      rcases W7.mp h with h|h
      .rw[h];show y
      rcases P1.mp h with h|h
      .exact ih1 _ g2 (λk h=>S k Ϥc) ⟨x,rfl,P x (Ű<|S x P0),by rw[y];rfl⟩ k h
      show ih2 q g3 (λk h=>S k Ϥc) ⟨j,J,H,n⟩ k h
    show key g _ hg S ⟨a,rfl,P a P0,by rw[i];simp⟩
  by_cases i:ϤE
  .rw[Os i,pre,K9B,v]
   let z:é ϳV sn=[]:=ϳn (λk h=>Ù (no c Q (λ_ m=>m) i k h) Xd)
   rw[z,K9B]
  rw[P3 i,v]
  let I:=Pi ϱv (sn a&& !fl a) Q (λk h K=>by
    show l k Ϥc a K<|P a P0) (λk h j J A=>by
    by_cases H:ą=p
    .exfalso
     let:k∈ϳV:=h;rcases kY _ c Q k h with z|⟨D,t,z⟩
     .rw[J]at z;show A z
     rw[J]at z;let e1:j=D:=Ã
     subst e1;show P j (by simp[t]) H
    show l k Ϥc j J H) E (λk h z=>N (Ê (by
    let:k=a:=Ã
    rw[<-this];show h))) (by rw[w];simp[i])
  rw[I]
end F
def Iq{ch:Nat->Ò}{n:Nat}{f:F}(hc:Ϥ6 f)(e:f≠F.nil)(M:∀k∈Ÿ,k<n):∃g a b,ϴ2=ϱe++[a]/\a<n/\ϱe++ch a=F.roots (ϵa b)/\Ϥ6 (ϵa b)/\Ì Ÿ=Ì (ϰ8<|ϵa b)+1/\(∀k∈ϰ8 (ϵa b),k<n)/\∀o:Ò,϶6++F.cQ (ϵa b)=ϯI:=by
 let(g,a,b,rfl):=F.snoc f e;rw[F.yM]at hc;let(H,c,d,_):=hc;rw[F.pre_app,F.pre,F.pre,Xf]at M;apply(g,a,b,ϰd F.uw,M a Û,by rw[F.uw,c],Ψ (F.yM _ _) ⟨H,d⟩,?_,λk h=>M k ?_,λo=>?_)
 .rw[F.pre_app,F.pre_app,F.pre,F.pre,Xf,Ww,Ww,Xt]
  lia
 .rw[F.pre_app]at h
  rcases P1.mp h with h|h<;>simp[h]
 rw[F.Ay,F.Ay,F.cQ,F.cQ,K9B];simp
def rK{f:F}(h:ϴ2=[]):f=F.nil:=by
 cases f with|nil=>rfl|cons k c r=>cases h
def c_(T:À Nd):À Gc:=T.map λn=>ï [Ô n.l,Á n.t]
def fV(n:Nat)(ch:Nat->Ò):À Gc:=Ó ϴq λk=>Å<|nD<|ch k
def Y5(fl:å)(n:Nat):À Gc:=Ó ϴq λk=>ß ϶g
def Xl(T:À Nd)(ch:Nat->Ò)(fl:å):Gc:=Å [Å ϴy,Å ϶x,Å ϶y]
def stK(T:À Nd)(s:À OD)(fl:å):OD:=.ol [Ĩ ϴy,ϳf,Ĩ ϶y]
def Wv(n:Nat)(ch:Nat->Ò):À OD:=Ó ϴq (ϲp ŭ)
def ki(n:Nat)(ch:Nat->Ò):Ó ϫj OD.er=fV n ch:=by
 delta fV Wv;rw[W5];apply ϑy;change(ϤK ŭ).er=_;rw[eP,aQ]
def tZ{ts:À Nd}{ks:À OD}{ch:Nat->Ò}(fl:å)(h:ks.map OD.er=fV ts.length ch):(stK ts ks fl).er=Xl ts ch fl:=by delta stK Xl;rw[eP,L4,L4,L4,Z_,eP,eP,eP,aN,aN,h]
def pF(T:À Nd):ϴn (Ì ϴy):=Ŷ c_ K1
def nB{n:Nat}{ch:Nat->Ò}{k:Nat}(h:k<n):T1 (fV n ch) Þ=some (Å<|nD<|ch k):=bW (϶A fV T2<|Zs h)
def BR{fl:å}{n k:Nat}(h:k<n):T1 (Y5 fl n) Þ=Â (ß ϶g):=bW (϶A Y5 T2<|Zs h)
def vV(T:À Nd)(he:ϳk)(l:ϵ6 0)(p:ϱs 200):b9 [Å Ō]=.ok (stK T (ϬN ϲI) ϲr):=by
 delta b9 lD;simp![S5];generalize u:Ż=rc;let e:=fL u Zf (λ_:Nd=>.ol []) T rfl (ν Ã) (by ext n h;simp![S5]);subst e;clear u;let s1:ā aG 1:=ϱo á;let s:ā aG ((Ë T.length)):=ϱo Ã;let Z:ϱD 0=-1:=by
  obtain⟨n,h⟩:∃n,T[0]?=ϰQ:=⟨T[0],by simp[l]⟩
  rw[cC h];show(he 0 n h).1 rfl
 let g:(T.map λ_:Nd=>OD.ol [])=Ó ŵ (ϲp (Ϩk 1 q)):=by
  let:∀q:Nat,Ϩk 1 q=[]:=λq=>by
   rw[wW,Z,P3 Ã];rfl
  apply Y_;ext i;rw[T2,T2];by_cases hi:Ϧ1
  .rw[Ϸr,ϹH]
   change Â (OD.ol [])=some (ϤK<|Ϩk 1 i);rw[this];rfl
  rw[Ye Ã,Ye<|î Wu];rfl
 simp![g,az,s1,s,K7c];generalize L:ϰz=r';apply ϺQ (λi ρ=>∃V:Ö OD,ρ=[É<|Å Ō,Ď<|Ó ŵ (ϲp (ϸU q)),V]) ϶D
 .rintro i d ρ hd ⟨V,rfl⟩
  let(hi,rfl):=eM hd;let I:ϵ6 (i+1):=Ã
  let b:Ë 1+ë=Ë ϪG:=Ã
  rw[b];obtain⟨n,h⟩:∃n,T[i+1]?=ϰQ:=ϖk
  let el:=he (i+1) n h;obtain⟨k,H⟩:∃k:Nat,n.e=Þ:=⟨n.e.toNat,Œ (el.2.1 Ã)⟩
  let m:k<i+1:=Œ el.2.2
  let g3:=eQ h;rw[H]at g3;let o:=L7 T (i+1) k;let ap:=MY (i:=1) (ρ:=[É<|Å Ō,Ď<|Ó ŵ (ϲp (ϸU q)),É<|Á (Ë ϪG)]) (k:=ĵ (Î F4 0 δ)<|eC<|Á 0) (a:=δ) (xs:=Ó ŵ (ϲp (ϸU q))) (ys:=nO<|ϸU k) (z:=k) (j:=k) (y:=.sh<|Á (Ë ϪG)) rfl (by simp![g3]) (gh<|ϰP K1 Wu) (ϳB T2<|Zs Ã) rfl (Ù nC<|Yf<|dX Ã);simp![S5];rw[ap];let t:(Ó ŵ (ϲp (ϸU q))).set k (OD.ol<|nO (ϸU k)++[Ă<|Á (Ë ϪG)])=Ó ŵ (ϲp (ϭM q)):=by
   rw[iM];let e1:ϸU k++[i+1]=ϭM k:=by rw[wW T<|i+1,cC h,H,Č]
   rw[e1];apply iG (ϲp<|ϸU q) (ϲp<|ϭM q) T.length k Ϥw;change ϤK (ϭM q)=_;rw[wW T<|i+1,cC h,H,P3 Ã,Xf]
  rw[t];simp![S5];show(_,rfl)
 ext ρ' rfl ⟨V,rfl⟩;rw[dI,ņ (ϴn (ē (Ë T.length-1)+1))];let c:(Ó ŵ (ϲp (Ϩk T.length q)))=ϬN ϲI:=rfl;let r:=vC (ß false) T.length Ã;let f:(ϲy T.length<|PyData.bool false)=Y5 ϲr T.length:=by
  delta Y5;apply Y_;ext i;rw[T2];by_cases hi:Ϧ1
  .rw[Ϸr,K8X,Os hi]
   rfl
  rw[Ye (î K8r),Ye<|î Wu];rfl
 rw[f]at r;let c1:∀v1 V:Ö OD,aV (cB ù) (gTp 3<|Ϥz 0<|Ϥz 1<|Ϥz 2 fT) cn (gT<|Í 1<|Í 2 ai) 3 [] [É<|Å Ō,v1,V]=.ok (Ĩ ϴy):=λv1 V=>by
  simp![S5];generalize u:Ż=rc;let e:=fL u Zf (λn:Nd=>.sh<|ï [Ô n.l,Á n.t]) T rfl (ν Ã) (by ext n h;simp![Zf]);subst e;let E:(T.map λn:Nd=>Ă<|ï [Ô n.l,Á n.t])=Ó ϴy OD.sh:=by delta c_;rw[W5];rfl
  simp![E]
 let K:(ϵj (bX<|Ŭ (ß false) ai)<|Ĥ<|Í 0 ai) [É<|Å Ō,Ď<|ϬN ϲI,V]=.ok (Ĩ<|Y5 ϲr T.length):=by simp![az,r]
 rw[c];let rt:=FT (i:=1) rfl (c1 (Ď<|ϬN ϲI) V) K;simp![↓rt];rfl
def chO(ch:Nat->Ò)(fl:å)(b:Bool)(q:Nat):Ò:=(Ï (þ (!b&&ϻF)) [] ŭ).reverse
def frO(fl:å)(b:Bool)(f:F):F:=F.Zp<|F.pr ϭz f
def mJ(fl:å)(b:Bool)(f:F):Ò:=ϰ8<|F.pr ϭz f
def Jl(T:À Nd)(ch:Nat->Ò)(c:F)(con:Ϥ6 c)(rt:F.roots c=[0])(M:∀k∈ϵh,ϰV)(cl:Ì ϵh<=200)(fl:å)(b:Bool):bH [ϮP,ß b]=ĥ nO Ϧ9:=by
 delta bH md;let C:F.Yv (Ϫd b) Ϥa:=F.LI _<|F.JR _ con;let Z:F.roots Ϥa=[0]:=by delta frO;rw[F.xN,F.w_,rt];rfl
 let mp:F.cQ Ϥa=Ϧ9:=F.G_ _;let pl:Ì (ϰ8 Ϥa)<=200:=by
  have p:=F.rG ϭz c;unfold frO;rw[F.yV,ϘQ];lia
 have G:∀k∈ϰ8 Ϥa,ϰV:=λk h=>by unfold frO at h;rw[F.yV]at h;exact M k<|F.ig _ _ k<|(F.mq _).mem_iff.mp h
 let N:ϱa (Ì ϴ2<=Ì Ÿ):=by
  ext f
  induction f with
  |nil=>show õ
  |cons k c r ih1 ih2=>
   rw[F.roots,F.pre,Xt,Xt,Ww];lia
 simp![S5];generalize E:ϤV=r;apply nG E (λm e=>∃(f:F)(o:Ò)(V:Ö OD),F.Yv (Ϫd b) f/\Ì Ÿ=m/\m<=200/\(∀k∈Ÿ,ϰV)/\ϯI=Ϧ9/\e=[É ϮP,É<|ß b,Ď ϻE,Ď<|nO ϴ2,V])
  (Ì (ϰ8 Ϥa)) ⟨Ϥa,[],_,C,rfl,pl,G,mp,by rw[Z];rfl⟩
  (λe=>∃D V:Ö OD,e=[É ϮP,É<|ß b,Ď<|nO Ϧ9,D,V]) ?_ ?_
 .rintro m e ⟨f,o,V,hc,hm,hmt,h,ho,rfl⟩
  by_cases q:ϴ2=[]
  .left
   let:=rK q;subst this;rw[F.cQ,Xf]at ho;subst ho;let ge:Yc (Å<|nD []) (Å [])=Ú (ß false):=oR ϻ6;constructor
   .simp![aQ,F.roots,ge]
   show(_,_,rfl)
  right;let(g,a,d,I,t,R,u,X,w,y):=Iq hc (λz=>q<|ϰd z) h;let ge:Yc (Å<|nD<|ϱe++[a]) (Å [])=Ú (ß true):=by
   let H:iL (ϱe++[a])≠[]:=ϩC iL
   delta nD;generalize iL (ϱe++[a])=ns at H;cases ns with
   |nil=>show ϲv H
   |cons x xs=>
    delta Yc;rw[pP];delta pC;rw[eJ (lay_ints ũ) á,ω (ā SeqAt.shaped (Å [])) (eJ ϻ6 á),K7c,Č];rfl
  let ol:o.length<=200:=by
   let p:=ϱT ho;rw[Ww]at p;let P:Ì Ϧ9<=Ì ϵh:=F.rG ϭz c;lia
  let l:ϴj (Ì ϻE):=Ù nC (dX Ã)
  let kd:=Ϫe t;let fd:=ϒm t;let s:T1 [ϲ2 ϴy,Å ϶x,Å ϶y] 2=Â (Å ϶y):=rfl;let K:T1 [ϲ2 ϴy,Å ϶x,Å ϶y] 1=Â (Å ϶x):=rfl;rw[I];constructor
  .simp![aQ,ge]
  rw[<-iM];let A:(ϪW).reverse=nD Ϧm:=by delta nD iL;rw[<-List.map_reverse,<-List.map_reverse]
  let ap:nD ϱe++nD Ϧm=nD (ϱe++Ϧm):=by delta nD iL;rw[Wx,Wx]
  delta Xl;by_cases B:þ (!b&&fl a)
  .rw[Yt]at B
   let J:b=false:=ť B.1
   subst J;let i:Ϫd false a=[]:=by
    delta chO;rw[Os<|ϰd B.2];rfl
   rw[i,Xf]at R;let j:=B.2;simp![CW,l,s,fd,j];rw[iM];show(_,Ã,ϵa d,϶6,_,u,rfl,Ã,w,Ϯk ho,by rw[R])
  let i:Ϫd b a=Ϧm:=Ŷ chO (P3 B)
  rw[i]at R;let L:Ĳ (Ì (nD ϱe)+Ì (nD Ϧm)):=by rw[aD,aD];let Q:=N<|ϵa d;rw[<-R,Ww]at Q;show ax Ã
  let fin:∀V:Ö OD,∃n,n<m/\∃(f:F)(O:Ò)(v:Ö OD),F.Yv (Ϫd b) f/\Ì Ÿ=n/\n<=200/\(∀k∈Ÿ,ϰV)/\O++F.cQ f=Ϧ9/\[some<|Ă<|Å [Å ϴy,Å ϶x,Å ϶y],É<|ß b,Ď<|nO ϶6,some<|Ĩ<|nD<|ϱe++Ϧm,V]=[some<|Ă<|Å [Å ϴy,Å ϶x,Å ϶y],É<|ß b,Ď<|nO O,Ď<|nO ϴ2,v]:=λV=>⟨_,Ã,ϵa d,϶6,V,u,rfl,Ã,w,Ϯk ho,by rw[<-R];rfl⟩
  cases b with
  |true=>simp![CW,l,K,kd,aQ,Im,A,aN,L,ap];rw[iM];show fin _
  |false=>
   let j:à (fl a):=ϳp
   simp![CW,l,s,K,fd,j,kd,aQ,Im,A,aN,L,ap];rw[iM];show fin _
 ext ρ' rfl ⟨D,V,rfl⟩;simp![S5]
def WL(T:À Nd):Prop:=∀k,ϰV->-1<=ŗ/\ŗ<Ë T.length
def Hz{T:À Nd}(he:ϳk):WL T:=λk K=>by
 obtain⟨n,H⟩:∃n,T[k]?=ϰQ:=⟨T[k],Ű K⟩
 let h:=he k n H;rw[cC H];by_cases z:k=0
 .let:=h.1 z;lia
 let:=h.2.1 Ã;lia
def zi(T:À Nd):À Gc:=Ó ŵ λk=>Á ŗ
def zY{ts:À Nd}{k:Nat}(h:ľ):T1 (zi ts) Þ=Â (Á<|ķ k):=bW (϶A zi T2<|Zs h)
def elI(T:À Nd)(m:Nat)(k:Nat):Int:=Ï (ŗ<ϰG) ŗ (-1)
def bC{T:À Nd}{q k:Nat}:k∈ϲI q↔ϰV/\ŗ=Ë q:=ώb I2
def tY(T:À Nd)(ch:Nat->Ò)(fl:å)(C:∀q,ϵ6 q->∀k,k∈ŭ↔k∈ϲI q)(he:WL T)(c:ϱs 200):cH [ϮP]=.ok (Ĩ<|zi T):=by
 delta cH kL;let k0:T1 [ϲ2 ϴy,Å ϶x,Å ϶y] 0=Â (Å ϴy):=rfl;let K:T1 [ϲ2 ϴy,Å ϶x,Å ϶y] 1=Â (Å ϶x):=rfl;let r:=vC (Á<|-1) T.length Ã;let G:=he;let f:ϲy T.length (int<|-1)=Ó ŵ (ϸt (ϧ3 0 k)):=by
  apply Y_;ext i;rw[T2];by_cases hi:Ϧ1
  .rw[Ϸr,K8X,Os hi]
   let:=G i hi;change Â _=Â (int<|ϧ3 0 i);delta elI;by_cases z:ϱD i<Ë ϶2
   .rw[Χ,ņ (ϱD i=-1)]
   rw[Ε]
  rw[Ye (î K8r),Ye<|î Wu];rfl
 rw[f]at r;let m:ā aG ((Ë T.length)):=ϱo Ã;delta Xl;simp![k0,pF,r,m];generalize L:ϰz=r';apply ϺQ (λi a=>∃V B:Ö OD,a=[É<|Å [Å ϴy,Å ϶x,Å ϶y],some<|Ĩ<|Ó ŵ (ϸt ϺL),V,B]) ((ϱt _))
 .rintro i d a hd ⟨V,B,rfl⟩
  let(hi,rfl):=eM hd;rw[Xz]at hi;rw[K8P];let kd:=Ϫe hi;simp![K,kd];generalize t:ϰz=rt;let n:∀j k,(ch i)[j]?=Β->ϰV/\ŗ=ë:=λj k h=>bC.mp<|(C i hi k).mp<|Y4 h;apply cD t (λj a=>∃B:Ö OD,a=[É<|Å [Å ϴy,Å ϶x,Å ϶y],some<|Ĩ<|Ó ŵ (ϸt (Ï (ϨR k=true) ë ϺL)),É<|Á ë,B]) ⟨B,by simp only[K7l,List.contains_nil,Zbo,if_false]⟩ ?_ ?_
  .rintro j d a hd ⟨B,rfl⟩
   let J:j<Ì (ch i):=ϴF ((ϵe hd)) aD
   obtain⟨k,H⟩:∃k,(ch i)[j]?=Β:=⟨(ch i)[j],Û⟩
   rw[om H]at hd;cases hd;let l:=(n j k H).1;let x:Xx (Ì ((Ó ŵ (ϸt (Ï (ϨR k=true) ë ϺL))).map OD.sh)) Þ=Β:=gh (by rw[K1,K1,Wu];show l);let s:ϋ ((Ó ŵ (ϸt (Ï (ϨR k=true) ë ϺL))).map OD.sh) k (Ă<|Á ë)=(Ó ŵ (ϸt (Ï (ϨL k=true) ë ϺL))).map OD.sh:=by
    rw[W5,W5];let tk:=take_snoc H;let E:(OD.sh∘ϸt (Ï (ϨL k=true) ë ϺL)) k=Ă (Á ë):=by
     change Ă (Á (Ï (ϨL k=true) ë ϺL))=_;rw[ϖJ<|ϱZ tk]
    rw[<-E];apply iG _ _ T.length k Ϥw;change Ă (Á (Ï (ϨL q=true) ë<|ϧ3 i q))=Ă (Á (Ï (ϨR q=true) ë<|ϧ3 i q));let:ϨL q=ϨR q:=by rw[tk,K8j,Zce,Zce];simp[Q]
    rw[this]
   simp![C_ x,s];show(_,rfl)
  ext ρ' rfl ⟨v3',rfl⟩;rw[aD,K8A];let e:(Ó ŵ (ϸt (Ï ((ch i).contains k=true) ë ϺL)))=Ó ŵ (ϸt (ϧ3 (i+1) k)):=Ze λk H=>by
   rw[X4]at H;apply Xn int ?_;delta elI;by_cases z:ŗ=ë
   .rw[ϖJ<|Ψ (C i hi k)<|bC.mpr ⟨H,z⟩,Os Ã,z]
   rw[ϧO (bC.mp<|(C i hi k).mp<|List.contains_iff_mem.mp w).2];by_cases y:ŗ<ë
   .rw[Os y,Os Ã]
   rw[P3 y,P3 Ã]
  rw[e];show(_,_,rfl)
 ext ρ' rfl ⟨V,B,rfl⟩;rw[dI,Xz];let b:(Ó ŵ (ϸt (ϧ3 T.length k)))=zi T:=Ze λk H=>by rw[X4]at H;let:=G k H;delta elI;rw[Os Ã]
 rw[b];simp![S5]
def B6(T:À Nd)(L:Ò)(k:Nat):Gc:=ï [Á (Ï (ŗ<0) (-1) (L.idxOf (ē ŗ):Nat)),Ô (϶5).l,Á (϶5).t]
def fm(T:À Nd)(L:Ò):À Gc:=L.map<|B6 T L
def RV(L:Ò)(q:Nat)(h:q∈L)(l:ϤJ 200):Ac ϰ4 (Á (Ë q))=Ú (Á (Ë (L.idxOf q:Nat))):=by
 let e:ϳi ϰL (Ë q)=L.idxOf q:=by
  delta iL;clear l
  induction L with
  |nil=>cases h
  |cons a r ih=>
   rw[L4,K7p,K7p];by_cases z:a=q
   .subst z
    simp
   let g:à (ϱv==Ë q):=ϨW Ã;let Z:à (a==q):=ϨW z;rw[g,Z];let M:q∈r:=by
    rcases W7.mp h with w|w
    .exact Ć w.symm z
    show w
   change _+1=_+1;rw[ih M]
 let m:Ë q∈ϰL:=ϳP ⟨q,h,rfl⟩;rw[<-e];show Nk _ _ m
def snL(T:À Nd)(fl:å):Nat->Ϲd|0=>[]|i+1=>ϳz i++[Ç (ϱD i=-1)||(ϊ ((ϳz i)[ē (ϱD i)]?) false&& !fl (ē (ϱD i)))]
def iQ(T:À Nd)(fl:å):∀i,Ì (ϳz i)=i:=by
 ext y
 induction y with|zero=>show rfl|succ i Y2=>rw[snL,Ww,Y2];rfl
def sn(T:À Nd)(fl:å)(k:Nat):Bool:=ϊ ((ϳz<|k+1)[k]?) false
def zu(T:À Nd)(fl:å):∀(m k:Nat),k<m->(ϳz m)[k]?=Â (ϳG k):=by
 ext y
 induction y with
 |zero=>
  ext k h;lia
 |succ m Y2=>
  ext k h;by_cases e:k=m
  .subst e
   delta sn;rw[Xb<|î iQ];rfl
  rw[snL,K9V<|î iQ];show Y2 k Ã
def k9{T:À Nd}{fl:å}{k:Nat}(h:ŗ=-1):ϳG k=true:=by
 delta sn;rw[snL,K9a (î iQ),iQ,K8c,h];rfl
def jM{T:À Nd}{fl:å}{k j:Nat}(h:ŗ=ą)(J:j<k):ϳG k=(ϳG j&& !fl j):=by
 let e:ϳG k=(Ç (ŗ=-1)||(ϊ ((ϳz k)[ē ŗ]?) false&& !fl (ē ŗ))):=by
  delta sn;rw[snL,K9a (î iQ),iQ,K8c];rfl
 rw[e,h,Xz,zu T fl k j J,Ll Ã];rfl
def seen(T:À Nd)(fl:å):Ò:=é ŵ ϳG
def elt{T:À Nd}(he:ϳk){k:Nat}(K:ϰV):ŗ=-1/\k=0\/ϵn (ŗ=ą/\j<k):=by
 obtain⟨n,H⟩:∃n,T[k]?=ϰQ:=⟨T[k],Ű K⟩
 let h:=he k n H;rw[cC H];by_cases z:k=0
 .exact Ê ⟨h.1 z,z⟩
 let:=h.2.1 Ã;show Ð ⟨n.e.toNat,Ã,Ã⟩
def GV(T:À Nd)(c:F)(p:ϹA)(he:ϳk)(fl:å):mJ fl false ϺH=Ž:=by
 delta mJ seen;let e:(λk=>!false&&϶g)=fl:=funext λk=>ϭ4 (fl k)
 rw[e,<-p.Yw];apply F.PN (-1) true ϺH p.eldF (λk H h=>k9 h) (λk H j J _=>?_) (Ù p.Yw K89) (λk _=>Ã) rfl;rw[p.Yw,X4]at H;rcases elt he H with⟨z,_⟩|⟨D,a,b⟩
 .lia
 let:j=D:=Ã
 subst this;show jM a b
def Lg:ϱa (F.pr ϲr f=f):=by
 ext y
 induction y with|nil=>show rfl|cons k c r Pi I4=>rw[F.pr,ϰ6,Pi,I4]
def Ee(T:À Nd)(c:F)(p:ϹA)(fl:å):mJ fl true ϺH=ŵ:=by
 delta mJ;let e:(λk=>!true&&϶g)=ϲr:=funext λk=>rfl;rw[e,Lg,p.Yw]
def cW{T:À Nd}{fl:å}{k:Nat}(h:k∈Ž):ϰV:=by delta seen at h;rw[Yg,X4]at h;show h.1
def sP{T:À Nd}(he:ϳk){fl:å}{k:Nat}(h:k∈Ž):0<=ŗ->ē ŗ∈Ž:=λc=>by
 delta seen at h⊢;rw[Yg,X4]at h⊢;rcases elt he h.1 with⟨z,_⟩|⟨j,H,b⟩
 .lia
 rw[H,Xz];let:=jM (fl:=fl) H b;rw[h.2]at this;let a:þ (ϳG j&& !fl j):=this.symm;rw[Yt]at a;show(Ã,a.1)
def nA(T:À Nd)(fl:å):(ϰs Ž):=K7j _ K89
def gO(T:À Nd)(fl:å):ϧy (Ì Ž):=ϴF (K8i ϳG ŵ) Wu
def uj(R:Ò)(i:Nat):À ς:=(Ê<|-1,Á<|-1)::Ó ϫq (ϸw (Ê (Ë ((ŷ (R[j]?)))),Á ą))
def ua{k:Key}(h:∀p∈ks,p.1≠k):putD ks k d=ks++[(k,d)]:=by delta putD;rw[P3];rw[Zbx,Zbr];ext p H;rw[Yz];show h p H
def qD{R:Ò}(nd:R.Nodup)(hi:ϒg)(J:Ϥs)(h:R[i]=R[j]):i=j:=by
 let a:=ώv hi;let b:=nd.idxOf_getElem j J;rw[h]at a;lia
def D5{R:Ò}(nd:R.Nodup){i k:Nat}(H:϶b=Β):putD (ϻu i) (Ê Þ) (Á ë)=ϻu (i+1):=by
 rw[ua]
 .unfold uj
  rw[K86,Wx,y_,L4,H];rfl
 ext p h;delta uj at h;rcases W7.mp h with rfl|h
 .intro z
  let:=K7w z;lia
 let(j,J,rfl):=Ϻ8;rw[X4]at J;ext z;let Z:=K7w z;let(a,b):=ϫy;rw[Xb<|ņ Ϥs]at Z;let Z:Ë (R[j]:Nat)=Þ:=Z;let:=qD nd (ņ Ϥs) a (by rw[b];lia);lia
def Fu(R:Ò)(i:Nat):mi (ϻu i) (Ê<|-1)=Â (Á<|-1):=by delta mi uj;rw[K8p];simp
def KO{R:Ò}(nd:R.Nodup){i k:Nat}(H:϶b=Β):mi (ϻu R.length) (Ê Þ)=Â (Á ë):=by
 delta mi uj;let a:à (Ç (ϷQ (-1)=Ê Þ)):=Ll λz=>Œ (K7w z)
 let(h,b):=ϫy;rw[K8p,a,List.find?_map];let:(ń R.length).find? ((λK:ς=>Ç<|K.1=Ê Þ)∘ϸw (Ê (Ë ((ŷ (R[j]?)))),int ą))=ϻe:=by
  rw[List.find?_range_eq_some];apply(?_,X4.mpr h,Ϲb)
  .change Ç (ϷQ ((Ë ((ŷ (R[i]?)))))=Ê Þ)=true
   rw[H];show ϻq
  change(! Ç (ϷQ ((Ë ((ŷ (R[j]?)))))=Ê Þ))=true;rw[Zbs,decide_eq_false_iff_not];ext z;let Z:=K7w z;rw[Xb<|ņ Ϥs]at Z;let Z:Ë (R[j]:Nat)=Þ:=Z;let:=qD nd (ņ Ϥs) h (by rw[b];lia);lia
 rw[this];rfl
def gF{R:Ò}(h:k∈R):R[R.idxOf k]?=Β:=by let a:=List.idxOf_lt_length_iff.mpr h;rw[Xb a];show ϮX<|Zar a
def fI{T:À Nd}{k:Nat}(h:ϰV):T[k]?=Â ϶5:=ϗO bN
def zX(T:À Nd)(he:WL T)(R:Ò)(nd:R.Nodup)(r:όH 200)(M:∀k∈R,ϰV/\(0<=ŗ->ē ŗ∈R)):ba [Å Ō,Å ϱC]=.ok (Ĩ<|ϻv R):=by
 delta ba lR;let D:∀a:L3.Env,eD1 (Ρ<|eC<|Á 1) (Ρ<|eC<|Á 1) a=ϵZ (ϻu 0):=λa=>rfl;simp![D];generalize l:ϰz=r';apply cD l (λi a=>∃B v:Ö OD,a=[É<|Å Ō,É<|Å ϱC,϶Y<|ϻu i,B,v,none]) (ϱt _) ?_ ?_
 .rintro i d a hd ⟨B,v,rfl⟩
  let(e,h,rfl):=ym hd;let hi:ϒg:=ϴF ϷW aD
  obtain⟨k,H⟩:∃k,϶b=Β:=⟨R[i],Û⟩
  rw[om H]at h;cases h;let L:ϴj (Ì (ϻu i)):=by delta uj;rw[Xt,K1,Wu];show dX Ã
  simp![zw,yY,L,D5 nd H];show(_,_,rfl)
 ext ρ' rfl ⟨B,v,rfl⟩;let el:Ì (eA ϱC)=R.length:=by delta eA;rw[K1,K8G,aD]
 rw[el];simp![S5];generalize u:Ż=rc;let e:=fL u (Į<|int Þ) (λk=>.sh<|Zf ϶5) R ϸE (ν Ã) (by ext k H;let g1:=eQ<|fI (M k H).1;simp![g1,Zf]);subst e;clear u;let E:(R.map λk=>Ă<|Zf ϶5).map OD.er=R.map λk=>Zf ϶5:=Ù W5 (ϧT ϰS)
 simp![E,Ax];generalize u:Ż=rc
 let e:=fL u (Į<|Zf ϶5) (λk=>.sh<|B6 T R k) R rfl (ν Ã) (by
  ext k H;let(b,g):=M k H;let f:=gP b;let g1:mi (ϻu R.length) (Ê (϶5).e)=Â (Á (Ï (ŗ<0) (-1) (R.idxOf (ē ŗ):Nat))):=by
   rw[f];let w:=he k b;let z:ŗ=-1\/ϵn (ŗ=ą):=by
    by_cases y:ŗ=-1
    .exact Ê y
    show Ð ⟨ē ŗ,Ã⟩
   rcases z with z|⟨j,z⟩
   .rw[z,Fu,Os Ã]
   let J:=g Ã;rw[z,Xz]at J;rw[z,P3 Ã,Xz];show KO nd<|gF J
  delta B6;simp![Zf,Vh,g1])
 subst e;clear u;let c:(R.map λk=>Ă<|B6 T R k)=Ó (ϻv R) OD.sh:=by delta fm;rw[W5];rfl
 simp![c]
def Y3(T:À Nd)(fl:å):Ò:=é ŵ fl
def Bw{T:À Nd}{fl:å}{j:Nat}(h:Ϧ2):Ç (ą∈iL (Y3 T fl))=fl j:=by
 delta iL Y3;rw[K8j,Yz,Zc];constructor
 .rintro⟨q,h1,h2⟩
  let:q=j:=Ã
  subst this;show(Yg.mp h1).2
 .exactλz=>⟨j,ϻg (X4.mpr h) z,rfl⟩
def oh(T:À Nd)(fl:å):Gc:=ï [Å<|ϻv Ž,Å<|nD Ž]
def wV(T:À Nd)(fl:å):OD:=.ot [Ĩ<|ϻv Ž,.ol<|nO Ž]
def AE(T:À Nd)(fl:å):(ϫe).er=oh T fl:=by delta wV oh;rw[J4,L4,L4,Z_,eP,aN,eP,aQ]
def Ge(T:À Nd)(L:Ò):ā okN (Ĩ<|ϻv L):=by
 change(Ó (ϻv L) OD.sh).all Qy=true;rw[K82,K7r];ext x h;delta fm at h;let(k,_,rfl):=Ϻ8;change ā nol (B6 T L k);delta B6;simp[nol,Gy]
def bD(bs:Ϲd):À Gc:=bs.map PyData.bool
def Hc(T:À Nd)(he:ϳk)(fl:å)(L:ϱs 200):o_ [Å Ō,Å ϩR]=ò ϫe:=by
 delta o_ wu;simp![S5];generalize l:ϰz=r';apply cD l (λi ρ=>∃B:Ö OD,ρ=[É<|Å Ō,É<|Å ϩR,some<|Ĩ<|bD<|ϳz i,B,none]) ϶D ?_ ?_
 .rintro i d ρ hd ⟨B,rfl⟩
  delta ak at hd;rw[T2]at hd;let(n,N,rfl):=϶d hd;let hi:=(Za.mp N).1;let E:n.e=ϱD i:=(cC N).symm;let b:ϴj (Ì (bD<|ϳz i)):=by delta bD;rw[K1,iQ];show dX Ã
  let s:(bD<|ϳz i).map OD.sh++[Ă<|ß<|ϳG i]=(bD<|ϳz<|i+1).map OD.sh:=by
   let:=zu T fl (i+1) i Ã;let e1:ϳz (i+1)=ϳz i++[ϳG i]:=by
    delta sn;rw[snL,K9a (î iQ),iQ,K8c];rfl
   rw[e1];delta bD;rw[Wx,Wx];rfl
  rcases elt he hi with⟨z,_⟩|⟨j,z,H⟩
  .rw[k9 z]at s
   let d1:Ç ϫA=true:=W6 (by rw[E];show z);simp![Zf,d1,aN,b,s];show(_,rfl)
  let d1:à (Ç ϫA):=Ll (by rw[E,z];lia);let J:n.e=ą:=by rw[E,z]
  rw[jM z H]at s;let at1:T1 (bD<|ϳz i) ą=Â (ß<|ϳG j):=bW (϶A bD T2<|zu T fl i j H);let M:ϵS (Á ą) (Å ϩR)=Ú (ß<|!fl j):=by delta nD;rw[qV,Č,Bw Ã]
  rw[J]at d1;cases hs:sn T fl j with|true=>rw[hs]at s at1;simp![Zf,J,d1,aN,at1,M,b];rw[Zak]at s;simp![s];show(_,rfl)|false=>rw[hs]at s at1;rw[Zaf]at s;simp![Zf,J,d1,aN,at1,M,b,s];show(_,rfl)
 ext ρ' rfl ⟨B,rfl⟩;rw[az];simp![aN];generalize u:Ż=rc;let f:eA (bD<|ϳz T.length)=Ó ŵ (Į (ϳv [Á Þ,ß<|ϳG k])):=by
  apply Y_;ext i;rw[T2];by_cases hi:Ϧ1
  .rw[Ϸr]
   delta eA bD;rw[T2,K8Q,T2,zu T fl T.length i hi];simp
  rw[Ye (by delta eA bD;simp[iQ];lia),Ye<|î Wu];rfl
 let e:=gN u (Į<|ϳv [Á Þ,ß<|ϳG k]) ϳG (Į<|.sh<|Á Þ) ŵ f (Ù Wu<|ν Ã) (by
  ext k h;apply(?_,ϵf)
  .simp![S5]
  simp![S5])
 subst e;clear u;let a:((é ŵ ϳG).map (Į (Ă<|Á Þ)))=nO Ž:=gE _;let r:=zX T (Hz he) Ž (nA T fl) (Œ<|gO T fl) λk h=>⟨cW h,sP he h⟩
 let rt:=Me (i:=4) (ρ:=[É<|Å Ō,É<|Å ϩR,É<|Å<|bD<|ϳz T.length,B,Ď<|nO Ž]) (fa:=wQ 4<|ϯa<|Í 0<|Í 4 ai) rfl (PD 4 _ _ (x:=.ol<|nO Ž) rfl (by
  change(nO Ž).all Ln=true
  delta nO;rw[K82,K7r];ext x _;rfl) (by simp![aQ,r])<|Ge T Ž)
 simp![a,↓rt];rfl
def aK(T:À Nd)(g:Int)(fl:å)(an:Gc):À ϱf:=[("tree",Å Ō),("gap",Á g),("folds",Å ϩR),("anew",an)]
def Xp(T:À Nd)(g:Int)(fl:å)(an:Gc):Gc:=qK "Easel" ϭ7
section
variable{ts:À Nd}{g:Int}{fl:å}{an:Gc}
def rJ:uM "tree" ř=Â (Å Ĉ):=rfl
def n_:uM "folds" ř=some (Å<|nD ϰX):=by
 change dC "folds" (Ó ş ϲh)=_;delta aK;rw[L4,L4,L4,L4,Z_,b5,P3 (ϸL<|¬ϭ1=ϩS),b5,P3 (ϸL<|¬ϭ1=ϮH),b5,Č]
def yG{m:Str}(h:m≠"tree")(H:m≠"gap")(a:m≠"folds")(e:m≠"anew"):ϥi (Ó ş ϲh):=by delta aK;rw[L4,L4,L4,L4,Z_,b5,P3 h,b5,ϳj,b5,P3 a,b5,P3 e,Eu]
def IL(he:ϵr)(l:ϪN 200):bG [ř]=ò (wV ts fl):=by delta bG l7;let h:=rJ (ts:=ts) (g:=g) (fl:=fl) (an:=an);let H:=n_ (ts:=ts) (g:=g) (fl:=fl) (an:=an);let a:jI ř=Â ϱc:=rfl;let sh:=Hc ts he fl l;simp![ve,zH,h,H,a,sh]
def Ew{A:Ò}(a:ϭ2):aU [ϬH<|Å ϰK]=ϲC (nO A):=by
 delta aU gZ;let H:uM "anew" (ϬH<|Å ϰK)=Â (Å ϰK):=by
  change dC "anew" ((ϵM fl<|Å ϰK).map ϲh)=_;delta aK;rw[L4,L4,L4,L4,Z_,b5,P3 (ϸL<|¬ϐM=ϩS),b5,P3 (ϸL<|¬ϐM=ϮH),b5,P3 (ϸL<|¬ϐM=ϭ1),b5,Č]
 let h:jI (ϬH<|Å ϰK)=Â ϱc:=rfl;let b:Ĳ A.length:=ax Ã;simp![ve,zH,H,h,aD,b];rfl
def zq{m:Str}{f:Fn}{r:č}{ρ:L3.Env}{i:Nat}(M:ϥi (Ó ş ϲh))(hr:f [ř]=r)(h:Ŋ=some (É ř)):dM (λnm=>ϵL nm [("Easel",f)]) m (aa i) ai ρ=r:=by
 let v:aa i ρ=Ú ř:=by delta aa;rw[h]
 let e:uM m ř=none:=M;let H:jI ř=Â ϱc:=rfl;delta dM;rw[v,aF,aS];simp only[H,e];change(match ϵL ϱc [(ϱc,f)]with
  |some fn=>ã (ai ρ) λs=>fn<|ř::ϱI
  |none=>È)=r
 let:ϵL ϱc [(ϱc,f)]=some f:=ϰd K9X
 rw[this];show hr
end
def Aj(f:α->Gc):∀L:À α,(∀x∈L,ā noD (f x))->ā xv (L.map f):=by
 ext a
 induction a with
 |nil=>ext _;show rfl
 |cons x L Y2=>
  ext h;rw[L4,xv,h x P0,Y2 λy Y=>h y<|Ā Y];rfl
def PJ(L:Ò):ā noD (Å ϰ4):=by rw[noD];delta nD iL;rw[W5];show Aj _ L λx _=>rfl
def JJ(T:À Nd)(L:Ò):ā noD (Å<|ϻv L):=Ù noD (Aj _ L λx _=>by delta B6;rfl)
def Hx(T:À Nd)(fl:å):ā noD (oh T fl):=by delta oh;rw[noD,xv,xv,xv,JJ,PJ];rfl
def Jq(n:Nat)(h:n<=200):uh [Á Ũ]=ĥ nO ϴq:=by
 apply è (@if_pos _ ϴE Ã _ _ _) ?_;rw[Xz];rfl
def jC(s:À Gc)(j:Nat)(h:Ϯ1):bF [Å s,Á j]=Ú æ:=by
 delta bF l8;let d1:à (Ç (ą<0)):=Ll Ã;let d2:à (Ç (Ë s.length<=ą)):=Ll Ã;simp![d1,d2]
section
variable{ts:À Nd}{fl:å}{k:Nat}
def GG(h:ľ)(neg:Bool):gB neg (Á Þ) (Å<|nD ϰX)=Ú (ß (Ϭe ϶g)):=ϴh nD qV (Bw h)
def dN(T:À Nd)(k:Nat):Bool:=!(ę).isEmpty
def Gk{j:Nat}(J:ϮI):Ç (ą∈ϐg)=dN ts j:=by
 rw[K8j,Yz];delta dN;constructor
 .intro h
  let(n,H,he):=Ϻ8;let(i,hi):=Zan H;let l:=ϐu;let:i∈Ş j:=bC.mpr ⟨l,Ù (cC hi) he⟩;cases hc:I2 ts j with
  |nil=>rw[hc]at this;cases this
  |cons a r=>rfl
 ext h;cases hc:I2 ts j with
 |nil=>rw[hc]at h;cases h
 |cons a r=>
  let:a∈Ş j:=Ù hc P0
  let(c,b):=bC.mp this;obtain⟨n,H⟩:∃n,ts[a]?=ϰQ:=⟨ts[a],by simp[c]⟩
  rw[cC H]at b;show ϳP ⟨n,Ϸu,b⟩
set_option tactic.hygienic true in
def Md(a:ϪN 200){R:Ò}(r:϶U R.length)(L:Ò):fg [ï [Å Ĉ,Å ϱC],Å ϰ4]=ĥ nO (é Ř λk=>Ç (Ë ((ŷ (R[k]?)))∈ϰL)&&ϵ1):=by
 delta fg lH;simp![S5];generalize u:Ż=rc;let e:=fL u Zf (λn:Nd=>.sh<|Á n.e) ts rfl (ν Ã) (by ext n N;simp![Zf]);subst e;clear u;let E:(ts.map λn:Nd=>Ă<|Á n.e).map OD.er=Ó ϐg int:=ϳH W5 W5 (Ze λn _=>ϰS)
 simp![E];generalize u:Ż=rc;let f:eA ϱC=Ó Ř (Į (ϳv [Á Þ,Á (Ë ((ŷ (R[k]?))))])):=by
  apply Y_;ext i;rw[T2];by_cases hi:ϲu
  .obtain⟨q,H⟩:∃q,϶b=Â q:=⟨R[i],Û⟩
   rw[Ϸr];delta eA;rw[T2,K8Q,om H];simp[H]
  rw[ϓ7,Ye<|î Wu];rfl
 let e:=gN u (Į<|ϳv [Á Þ,Á (Ë ((ŷ (R[k]?))))]) (λk=>Ç (Ë ((ŷ (R[k]?)))∈ϰL)&&ϵ1) (Į<|.sh<|Á Þ) Ř f (Ù Wu<|ν Ã) (by
  ext k h;rw[X4]at h;let M:ϵP (Á (Ë ((ŷ (R[k]?))))) (Å ϰ4)=Ú (ß<|Ç<|Ë ((ŷ (R[k]?)))∈ϰL):=by delta nD;rw[qV];rfl
  let J:ϵP (Á Þ) (Å (Ó ϐg int))=Ú (ß ϵ1):=ϳB qV (Gk h)
  apply(?_,ϵf)
  .generalize (Ë ((ŷ (R[k]?))))=w at M
   cases hd:decide (w∈ϰL)with|true=>rw[hd]at M;simp![M,J];rfl|false=>rw[hd]at M;simp![M,J];rfl
  simp![S5])
 subst e;clear u;simp![S5];rw[gE]
end
set_option tactic.hygienic true in
def vU:∀(m:Nat)(s:Ò),s.Nodup->(∀k∈s,k<m)->s.length<=m:=by
 ext m
 induction m with
 |zero=>
  ext s _ h;cases s with|nil=>show õ|cons a r=>have:=h a P0;lia
 |succ m ih=>
  ext s nd h;let H:=ih (s.erase m) (nd.erase m) λk K=>by
   let b:=(List.Nodup.mem_erase_iff nd).mp K;let:=h k b.2;let c:k≠m:=b.1;lia
  by_cases M:m∈s
  .rw[List.length_erase_of_mem M]at H
   lia
  rw[List.erase_of_not_mem M]at H;lia
set_option tactic.hygienic true in
def fk(s:Ò):À ς:=ϳ2 ((Į (Ê Þ,ß true)))
def PM(s:Ò)(k:Nat):putD (fk s) (Ê Þ) (ß true)=fk (if s.contains k=true then s else s++[k]):=by
 delta putD;by_cases h:k∈s
 .rw[Os ϔJ,Os]
  .unfold fk
   rw[W5];apply ϑy;change(Ï (ϷQ ((Ë q))=Ê Þ) (ϷQ ((Ë q)),PyData.bool true) (Ê (Ë q),ß true))=_
   split<;>rfl
  rw[Zax];show(_,ϳP ⟨k,h,rfl⟩,ϻq)
 rw[P3 λz=>h<|ϗm z,P3]
 .unfold fk
  rw[Wx];rfl
 rw[Zbx,Zbr];ext p H;let(q,Q,rfl):=ϵ3;rw[Yz];ext z;let:=K7w z;show h (Ù (ņ (k=q)) Q)
inductive Up(e:ι):Nat->϶P
 |self (k:Nat):ϷB k k
 |next {k j s:Nat}:e k=ą->ϷB j s->Ϲh
open Classical in
def anw(e:ι)(m:Nat)(P:϶P):Ò:=é ϫk λs=>Ç Ϭm
open Classical in
def sL{e:ι}{m:Nat}{P:϶P}{s:Nat}:s∈ϵb P↔s<m/\Ϭm:=ώb anw
open Classical in
def Cp(e:ι)(m:Nat)(P:϶P):Ϲk (ϵb P) ϶3:=Ϫz
def J2{e:ι}{m:Nat}(he:∀k,k<m->e k<Þ){k s:Nat}(u:Ϲh):k<m->s<=k:=by
 induction u with
 |self k=>exactλ_=>õ
 |next h _ i=>
  ext H;let:=he _ H;let:=i Ã;lia
def OM{e:ι}{m:Nat}{P:϶P}{K:Ò}(nd:K.Nodup)(h:ϧ6 K (s<m/\Ϭm)):gY ϥv=iL (ϵb P):=by
 let pm:(ϵb P).Perm K:=(Zaw ((Cp e m P).imp λh=>Ym h) nd).mpr λs=>by rw[sL,h]
 apply dQ (è (fO _)<|pm.symm.map _) (eU _) ?_;delta iL;show ϩa ((Cp e m P).imp λh=>Ã)
def Nl(r:À Gc)(m:Nat)(e:ι):Prop:=∀k,k<m->∃x y,T1 r Þ=Â (ï [Á<|e k,x,y])/\-1<=e k/\e k<Þ
set_option tactic.hygienic true in
def L5(R:À Gc)(m:Nat)(C:m<=60){e:ι}(g:Nl R m e)(ns:Ò)(n:∀k∈ns,k<m):gj [Å R,Å<|nD ns]=ĥ nO (ϵb (·∈ns)):=by
 delta gj kN;let D:∀c:L3.Env,eD0 c=ϵZ (fk []):=ϺV;simp![D];generalize L:ϰz=r';apply ϺQ (λi c=>∃(K:Ò)(B v:Ö OD),K.Nodup/\(ϧ6 K<|∃k∈ϒr,Ϲh)/\c=[É<|Å R,É<|Å<|nD ns,϶Y<|fk K,B,v]) ⟨[],_,_,K8w,(λs=>⟨϶i ϱJ,λ⟨k,h,_⟩=>ϕn⟩),rfl⟩
 .rintro i d c hd ⟨K,B,v,nd,H,rfl⟩
  let hi:i<ns.length:=ϴF ((ϵe hd)) aD
  obtain⟨k,I⟩:∃k,Ķ ns=Β:=⟨ns[i],Û⟩
  rw[om I]at hd;cases hd;let M:=n k<|Y4 I;let T:∀s,(∃q∈ϭ6,ϷB q s)↔(∃q∈ϒr,ϷB q s)\/Ϲh:=λs=>by
   rw[take_snoc I];constructor
   .rintro⟨q,Q,u⟩
    rcases P1.mp Q with h|h
    .exact Ê ⟨q,h,u⟩
    rw[Y8.mp h]at u;show Ð u
   rintro(⟨q,Q,u⟩|u)
   .exact(q,Ŀ Q,u)
   show(k,Ļ ϩ9,u)
  simp![S5];generalize w:ϤV=rw';apply nG w (λq c=>∃(K:Ò)(z:Int),K.Nodup/\(∀s∈K,∃k∈ϭ6,Ϲh)/\(∀s,(∃k∈ϒr,Ϲh)->s∈K)/\(∀s,Ϲh->s∈K\/ϵn (z=ą/\ϷB j s))/\(∀j:Nat,z=ą->ϷB k j)/\-1<=z/\z<ϰG/\q=ē (z+1)/\c=[É<|Å R,É<|Å<|nD ns,϶Y<|fk K,É<|Á Þ,É<|Á z]) (k+1) ⟨K,Þ,nd,λs h=>Ψ (T s)<|Ê<|(H s).mp h,λs h=>Ψ (H s) h,λs u=>Ð ⟨k,rfl,u⟩,λj h=>Ù (ņ (j=k)) (ϹK k),Ã,Ã,Ã,rfl⟩
   (λc=>∃(K:Ò)(v:Ö OD),K.Nodup/\(ϧ6 K<|∃k∈ϭ6,Ϲh)/\c=[É<|Å R,É<|Å<|nD ns,϶Y<|fk K,É<|Á Þ,v]) ?_ ?_
  .rintro q c ⟨K,z,nd,k1,k2,k3,k4,z0,z1,rfl,rfl⟩
   by_cases o:z=-1
   .left
    subst o;constructor
    .simp![S5]
    apply(K,_,nd,λs=>⟨k1 s,϶i ?_⟩,rfl);rcases(T s).mp h with h|h
    .exact k2 s h
    rcases k3 s h with h|⟨j,h,_⟩
    .exact h
    lia
   right;obtain⟨j,J⟩:ϵn (z=ą):=⟨z.toNat,Ã⟩
   subst J;let(x1,x2,at1,y0,y1):=g j Ã;let Z:à (Ç (ą=-1)):=Ll Ã;let G:=vU m K nd λs S=>by
    let(q,Q,u):=k1 s S;let f:=n q<|Zch Q;let:=ϓf;lia
   let t:ϴj (Ì (fk K)):=by delta fk;rw[K1];show dX Ã
   let F:=PM K j;constructor
   .simp![Z]
   simp![zw,yY,t,F,at1];let A:ϧ6 (Ï ώP K<|K++[j]) (s∈K\/s=j):=λs=>by
    by_cases hc:ώP
    .rw[Os hc]
     apply(Ê,϶i ?_);rcases h with h|rfl
     .exact h
     show ϗm hc
    rw[P3 hc,P1,Y8]
   apply(_,?_,(Ï ώP K<|K++[j]),e j,?_,λs S=>?_,λs h=>Ψ (A s)<|Ê<|k2 s h,λs u=>?_,Ϥw,y0,Ã,rfl,rfl)
   .lia
   .split
    .exact nd
    rename_i hc;apply ϹE ⟨nd,ϤI Û K8w,λa h b l e=>?_⟩;rw[Y8]at l;subst e l;show hc ϔJ
   .rcases(A s).mp S with h|rfl
    .exact k1 s h
    show Ψ (T s)<|Ð<|k4 s rfl
   .rcases k3 s u with h|⟨r,h,U⟩
    .exact Ê<|Ψ (A s)<|Ê h
    let:r=j:=Ã
    subst this;cases U with|self=>show Ê<|Ψ (A _)<|Ð rfl|next h U=>show Ð ⟨_,h,U⟩
   let u:=k4 j rfl;let y:ϔX (Ë q) q:=fun{a b} u h=>by
    induction u with|self=>show ϴx h<|ϹK q|next f _ p=>show ϴx f<|p h
   show y u Q
  ext ρ' rfl ⟨ks',v4',nd',hk',rfl⟩;simp![S5];show(ks',_,_,nd',hk',rfl)
 ext ρ' rfl ⟨K,B,v,nd,H,rfl⟩;rw[aD,K8A]at H;let bd:∀s,(∃k∈ns,Ϲh)->s<m:=λs⟨q,Q,u⟩=>by
  let f:=n q Q;let:=ϓf;lia
 let G:=vU m K nd λs S=>bd s<|(H s).mp S;let O:Ez [dD<|fk K]=ĥ nO K:=by rw[MW];delta fk nO nD iL;rw[W5,W5,W5,W5];rfl
 let x:BF [Å<|nD K]=ĥ nO (ϵb (·∈ns)):=by
  change(match cu (Ó ϥv int)with
   |some ns=>Ï (ϤL 64) (L3.R.ok (OD.ol<|Ó (Ó (gY ns) int) OD.sh)) L3.R.bad
   |_=>L3.R.bad)=_
  rw[eN];change(Ï (Ì ϥv<64) _ _)=_;rw[ϕo,OM (e:=e) (m:=m) (P:=(·∈ns)) nd λs=>?_]
  .rfl
  rw[H];show(϶i ⟨bd s h,let⟨q,a,u⟩:=h;⟨q,⟨n q a,a⟩,u⟩⟩,λ⟨_,q,a,u⟩=>⟨q,a.2,u⟩)
 simp![Ax,O,aQ,x]
def sE(T:À Nd)(fl:å)(i:Nat):Int:=Ï (ϱD (ϧD Ž 0)<0) (-1) (ϳi Ž (ϱD<|ϧD Ž 0).toNat:Nat)
def w6{T:À Nd}(he:ϳk){fl:å}:Nl (ϻv Ž) (Ì Ž) (sE T fl):=λi hi=>by
 obtain⟨k,h⟩:∃k,Ķ Ž=Β:=⟨Ž[i],Û⟩
 let M:=Y4 h;let kt:=cW M;delta sE;rw[h,Zac];apply(_,_,bW (ϬU fm),?_,?_)
 .split<;>lia
 rcases elt he kt with⟨z,_⟩|⟨j,z,a⟩
 .rw[Os Ã]
  lia
 rw[P3 Ã,z,Xz];let m:=sP he M Ã;rw[z,Xz]at m;let J:=List.idxOf_lt_length_iff.mpr m;let W:Ϲk Ž ϶3:=Ϫz;by_cases L:ϳi Ž j<i
 .lia
 exfalso;let e1:=Zar J;let(H,E):=Za.mp h;by_cases he:ϳi Ž j=i
 .let:Ž[ϳi Ž j]=Ž[i]:=by congr 1
  rw[e1,E]at this;lia
 let:=ύr i _ H J Ã;rw[e1,E]at this;lia
def cO(fl:å)(k:Nat)(b:Bool)(j:Nat):Bool:=if j=k then b else fl j
def OkF(T:À Nd)(fl:å):Prop:=∀k,ϰV->ϧi->dN T k=true
set_option tactic.hygienic true in
def LX{T:À Nd}{fl:å}(h:OkF T fl){k:Nat}{b:Bool}(H:ϸi->dN T k=true):OkF T (ϵQ b):=λj J e=>by
 delta cO at e;split at e
 .rename_i z
  rw[z];show H e
 show h j J e
def chg(T:À Nd)(R:Ò):Gc:=ï [Å Ō,Å ϱC]
def xD{T:À Nd}(he:ϳk)(l:ϱs 40){g:Int}{fl:å}{an:Gc}{a:Ix}(b:L3.Env)(h:b[0]?=ϳb (Λ ϭ7)):uW 0 (W8<|ϱS bG "seen" 0 ai) b=Ú (oh T fl):=by
 let L:=ϷW;rw[Ow,h];change X6 _ (W8 _<|b.set 0<|É ϭ3)=_;rw[TM,zq (r:=.ok ϫe) (yG ñ ñ ñ ñ) (IL he Ã)<|K9I L];change(Ï (ā noD (ϫe).er) (L3.R.ok (Ă (ϫe).er)) L3.R.bad)=_;rw[AE,Os<|Hx T fl]
open Classical in
def M_{e:ι}{m:Nat}{P Q:϶P}(h:∀k,k<m->(P k↔Q k)):ϵb P=ϵb Q:=by delta anw;apply K8Z λs _=>Ϩ3 ⟨ϓn mp,ϓn mpr⟩
def ous(T:À Nd)(fl:å)(ts2:À Nd)(fl2:å)(R:Ò)(K:À Int)(i:Nat):Prop:=Ë ((ŷ (R[ϧD ϱU 0]?)))∈K\/R[ϧD ϱU 0]?.getD 0∉Ž
def nwL(T:À Nd)(fl:å)(ts2:À Nd)(fl2:å)(R:Ò)(K:À Int):Ò:=anw (ϧw fl2) (Ì ϱU)<|ous T fl ts2 fl2 R K
theorem Ec{ts ts2:À Nd}(he:ϵr)(A:EL ts2)(T:Ľ)(c:Ϧn)(g:Int)(fl fl2:å)(an:Gc){R:Ò}(S:Ϭ5)(L:Ò)(Q:é (ń ts2.length) (Į<|Ç (Ë ((ŷ (R[k]?)))∈ϰL)&&dN ts2 k)=Ϫf)(K:À Int):
  aW 8 bq (Ő ş) [ϸ6,Å ϰ4,Å ϺF] (Ő<|ϵJ fl2<|Å<|nD ϨU,ı æ):=by
 let V:=gO ts2 fl2;generalize m:Ó ϱU (λi=>R[i]?.getD 0)=n;let l:n.length=Ì ϱU:=by rw[<-m,K1]
 let O:=L5 (ϩJ ϱU) (Ì ϱU) Ã (w6 A) (é (ń n.length) λi=>(Ç (Ë ((ŷ ϶c))∈K)|| ! Ç (Ë ((ŷ ϶c))∈iL (Ŝ fl)))) (λi hi=>ϑC (X4.mp (Yg.mp hi).1));let z:anw (ϧw fl2) (Ì ϱU) (·∈é (ń n.length) λi=>(Ç (Ë ((ŷ ϶c))∈K)|| ! Ç (Ë ((ŷ ϶c))∈iL (Ŝ fl))))=ϨU:=M_ λi hi=>by
  rw[Yg,X4,l,Zcc,Yz,Zbs,decide_eq_false_iff_not,<-m,T2,ϹH];delta ous;rw[ϹH];change _/\((Ë ((ŷ (R[ϱU[i]]?)))∈K)\/Ë ((ŷ (R[ϱU[i]]?)))∉iL (Ŝ fl))↔_;let im:∀q:Nat,Ë q∈iL (Ŝ fl)↔q∈Ŝ fl:=λq=>by delta iL;rw[Zc];show(λ⟨x,Y,e⟩=>by rw[ņ (q=x)];show Y,϶i ⟨q,h,rfl⟩)
  rw[im];show(϶i h.2,϶i ⟨hi,h⟩)
 rw[z]at O;generalize j:ϤK ϨU=o at O;let oe:o.er=Å (nD ϨU):=by rw[<-j,eP,aQ]
 apply(rfl,ϱw);rw[<-oe];let l1:=ϗM fl he T;let l2:=ϗM fl2 A c;let P:=Md (ts:=ts2) Ã S L;rw[Q]at P;generalize d:([("tree",Å Ϲs),("gap",Á g),("folds",Å<|nD ϰX),("anew",an)]:À ϱf)=dm;let p1:eW "tree" (Å Ϲs) ş=dm:=by delta aK eW;rw[Č,d]
 let p2:eW "folds" (Å<|nD Ϫf) dm=ϵJ fl2 an:=by rw[<-d];delta aK;rw[eW,P3 ñ,eW,P3 ñ,eW,Č]
 let p3:eW "anew" o.er (ϵJ fl2 an)=ϵJ fl2 o.er:=by delta aK;rw[eW,P3 ñ,eW,P3 ñ,eW,P3 ñ,eW,Č]
 let G:Ì ş<1000:=by delta aK;show(ϱd<|ϧd 4)
 let I:Ì (ϵJ fl2 an)<1000:=by delta aK;show(ϱd<|ϧd 4)
 let N:dm.length<1000:=by rw[<-d];show(ϱd<|ϧd 4)
 let tb:Ç (Ϩh ϱc)=true:=ñ
 let Z:T1 [ϲ2<|ϑJ<|Ŝ fl,Å<|nD<|Ŝ fl] 1=some (Å<|nD<|Ŝ fl):=rfl;let i2:T1 [ϲ2<|ϩJ ϱU,Å<|nD ϱU] 1=some (Å<|nD ϱU):=rfl;let i3:T1 [ϲ2<|ϩJ ϱU,Å<|nD ϱU] 0=some (Å<|ϩJ ϱU):=rfl;let C:T1 [ϲ2 Ϲs,Å ϱC] 0=Â (Å Ϲs):=rfl;let c1:T1 [ϲ2 Ϲs,Å ϱC] 1=Â (Å ϱC):=rfl;let B:∀(x0 x4 x5 b X:Ö OD),Ů (Î F4 5<|eC<|Á 1) cn (ĵ (Î F4 1<|eC<|Á 1) ù) 1 [1] [x0,É ϸ6,É<|Å ϰ4,É<|Å ϺF,x4,É<|oh ts2 fl2,b,X]=ϲC (nO n):=λx0 x4 x5 b X=>by
  delta oh chg;simp![i2];generalize u:Ż=rc
  let e:=fL u (ϳS<|int (Ë q)) (ϳS<|Ă<|Á (Ë ((ŷ (R[q]?))))) ϱU ϸE (ν Ã) (by
   ext q H;let U:=cW H;obtain⟨w,W⟩:∃w,R[q]?=some w:=⟨R[q]' Ã,Û⟩
   let rg:T1 ϱC (Ë q)=Â (Á (Ë ((ŷ (R[q]?))))):=by rw[W];show bW<|om W
   simp![c1,rg])
  subst e;simp![S5];rw[<-m,<-gE,W5];rfl
 let D:∀(x0 x5 X:Ö OD),Ϩm ϥA (ϳ6 0 1) (ϵ7 (Î ϵP 1 δ)<|au<|Î ϵS 1 ϰ2) ù 2 [3,4] [x0,É ϸ6,É<|Å ϰ4,É<|Å ϺF,É<|Å<|nD<|Ŝ fl,x5,É<|Å<|nD n,X]=ĥ nO (é (ń n.length) λi=>(Ç (Ë ((ŷ ϶c))∈K)|| ! Ç (Ë ((ŷ ϶c))∈iL (Ŝ fl)))):=λx0 x5 X=>by
  simp![S5];generalize u:Ż=rc;let F:eA (nD n)=Ó (ń n.length) λi:Nat=>ϳv [Á ë,Á (Ë ((ŷ ϶c)))]:=by
   apply Y_;ext i;rw[T2];by_cases hi:i<n.length
   .obtain⟨q,H⟩:∃q,϶c=Â q:=⟨n[i],Û⟩
    rw[Ϸr];delta eA;rw[T2,K8Q,om H];simp[H]
   rw[ϓ7,Ye<|î Wu];rfl
  let e:=gN u (λi:Nat=>ϳv [Á ë,Á (Ë ((ŷ ϶c)))]) (λi=>(Ç (Ë ((ŷ ϶c))∈K)|| ! Ç (Ë ((ŷ ϶c))∈iL (Ŝ fl)))) (λi:Nat=>.sh<|Á ë) (ń n.length) F (Ù Wu<|ν Ã) (by
   ext i hi;generalize ϊ ϶c 0=q;let M:ϵP (Á (Ë q)) (Å ϺF)=Ú (ß<|Ç<|Ë q∈K):=ϐY ((Ë q)) K;let J:ϵS (Á (Ë q)) (Å<|nD<|Ŝ fl)=Ú (ß<|! Ç (Ë q∈iL (Ŝ fl))):=ϐo ((Ë q))<|iL<|Ŝ fl;apply(?_,ϵf)
   .cases hd:decide (Ë q∈K)with|true=>rw[hd]at M;simp![M,J];rfl|false=>rw[hd]at M;simp![M,J];rfl
   simp![S5])
  subst e;simp![S5];rw[gE]
 delta bq;change∃t,ϫK [some<|Λ ş,É ϸ6,É<|Å ϰ4,É<|Å ϺF,none,none,none,none]=ò (t,ı æ)/\_;let v:∀(f:Str)(y:OD)(s:À ϱf)(r:L3.Env),s.length<1000->HR 0 đ f r y (ϳb<|Λ s)=ü (r.set 0<|some<|Λ<|Ϫi s):=λf y s r h=>IJ tb h;let q1:=l1 [some<|Λ ş,É ϸ6,É<|Å ϰ4,É<|Å ϺF,none,none,none,none] rfl;let q2:=l2 [some<|Λ<|ϵJ fl2 an,É ϸ6,É<|Å ϰ4,É<|Å ϺF,É<|Å<|nD<|Ŝ fl,none,none,none] rfl;let p:fg [ϸ6,Å ϰ4]=ĥ nO Ϫf:=P;let g1:F4 (oh ts fl) (Á 1)=Ú (Å<|nD<|Ŝ fl):=by delta oh;simp![Z]
 let g2:F4 (oh ts2 fl2) (Á 0)=Ú (Å<|ϩJ ϱU):=by delta oh;simp![i3]
 let g3:F4 ϸ6 (Á 0)=Ú (Å Ϲs):=by delta chg;simp![C]
 let E:=λx0 x4 b X=>B x0 x4 none b X;simp![dH,eY,tP,Iv,↓q1,g1,g3,v,G,N,p1,p,aQ,p2,↓q2,↓E,↓D,g2,O,I,p3];show(_,rfl,rfl)
section
variable{ρ:L3.Env}{ds ds':À ϱf}{ys:À OD}
def yF(h:Ŋ=Â (Â<|ϳx ds))(A:Ϯh)(hr:Ϲz (ϴe ds) Ϧo (ϴe ds',y)):ϦM ρ=.ok (ł<|Â<|ϳx ds',y):=by
 delta pA;rw[h];change ã (al ρ) (λys=>ã (ϤW (ϴe ds) Ϧo) λr=>.ok (ł<|Â<|u7 (ϳx ds) r.1,r.2))=_;rw[A,aF,tF hr,aF];rfl
def xH(h:Ŋ=Â (Â<|ϳx ds))(A:Ϯh)(hr:Ϲz (ϴe ds) Ϧo (ϴe ds',y)):ϑu ρ=ü (ł<|Â<|ϳx ds'):=by delta pJ;rw[yF h A hr];rfl
def yy(h:Ŋ=Â (Â<|ϳx ds))(M:ϥi (ϲL<|λq=>(ï [Ô q.1],q.2)))(A:Ϯh)(hr:Ϲz (ϴe ds) Ϧo (ϴe ds',y)):eF nm m n i b al ρ=ü (ł<|Â<|ϳx ds'):=by
 delta eF;rw[h];change(Ï (nm=nm/\ϥi (ϲL<|λq=>(ï [Ô q.1],q.2))) (ϑu ρ) È)=_;rw[Os ⟨rfl,M⟩,xH h A hr]
end
section
variable{ts:À Nd}{g:Int}{fl:å}{an:Gc}{k:Nat}
def OC{a:L3.Env}{p:Ö Ix}(h:a[0]?=ϳb (ϓ2 ş)):ϰr đ "tree" a=Ú (Å Ĉ):=by
 rw[J_,h];let H:dC "tree" (Ó ş ϲh)=Â (Å Ĉ):=rJ;let tb:Ç (Ϩh ϱc)=true:=ñ
 change(match dC "tree" (Ó ş λq=>(ï [Ô q.1],q.2))with
  |some d=>Ï (Ç (Ϩh ϱc)=true) (R.ok ϺY) È
  |none=>È)=_
 rw[H];show Os tb
def Mn{a:L3.Env}{p:Ö Ix}(h:a[0]?=ϳb (ϓ2 ş)):ϰr đ "folds" a=Ú (Å<|nD ϰX):=by
 rw[J_,h];let H:dC "folds" (Ó ş ϲh)=some (Å<|nD ϰX):=n_;let tb:Ç (Ϩh ϱc)=true:=ñ
 change(match dC "folds" (Ó ş λq=>(ï [Ô q.1],q.2))with
  |some d=>Ï (Ç (Ϩh ϱc)=true) (R.ok ϺY) È
  |none=>È)=_
 rw[H];show Os tb
def IY(h:ϯJ)(H:ľ)(b:Bool)(B:ϸi->ϵ1=true)(L:Ò)(l:∀j,ϮI->(Ç<|ą∈ϰL)=ϵQ b j):é Ř (Į<|Ç (Þ∈ϰL)&&ϵ1)=Y3 ts (ϵQ b):=by
 delta Y3;apply K8Z Ϲb;rw[X4]at J;rw[l j J];let:=LX h (k:=k) B j J;cases h1:cO fl k b j with|false=>rfl|true=>rw[this h1];rfl
def kZ:dC "settle" (Ó ş ϲh)=none:=yG ñ ñ ñ ñ
def kh{L:Ò}{j:Nat}:ą∈ϰL↔j∈L:=by
 delta iL;rw[Zc];constructor
 .rintro⟨q,h1,h2⟩
  rw[ņ (j=q)];show h1
 .exact ϶i ⟨j,h,rfl⟩
end
def vm{T:À Nd}{g:Int}{fl:å}{an:Gc}{m:Str}(h:m="fold"\/m="unfold"\/m="cut"\/m="put"\/m="move"\/m="seen"\/m="whole"\/m="folded"\/m="redrawn"):ϥi (Ó ϭ7 ϲh):=by rcases h with rfl|rfl|rfl|rfl|rfl|rfl|rfl|rfl|rfl<;>show yG ñ ñ ñ ñ
namespace F
def GF(h:Ě):ϱa (roots (Ϲr f)=Ó ϫz h):=by
 ext y
 induction y with|nil=>show rfl|cons k c r Pi I4=>rw[map,roots,roots,I4,L4]
def O0{ch ch2:Nat->Ò}{h:Ě}:ϱa (ϹJ f->(∀k∈ϰi,ch2 (h k)=Ó (ch k) h)->Yv ch2 (Ϲr f)):=by
 ext y
 induction y with
 |nil=>ext _ _;show trivial
 |cons k c r Pi I4=>
  ext hc H;let(a,b,d):=hc;rw[pre]at H;apply(?_,Pi b λq Q=>H q<|Ā<|Ŀ Q,I4 d λq Q=>H q<|Ā<|Ļ Q);rw[H k P0,a,GF]
def prM{fl:å}{h:Ě}:ϱa (ϻj (Ϲr f)=Ϲr (pr (λk=>fl<|h k) f)):=by
 ext y
 induction y with
 |nil=>show rfl
 |cons k c r Pi I4=>
  rw[map,pr,pr,map,I4];by_cases z:ā fl (h k)
  .rw[Χ,Χ]
   rfl
  rw[Ε,Ε,Pi]
end F
def Tj{h:Ě}:∀S:Ò,(∀a∈S,h a=h j->a=j)->ϳi ϶T (h j)=ϧa:=by
 ext y
 induction y with
 |nil=>ext _;show rfl
 |cons a S Y2=>
  ext hi;rw[L4,K7p,K7p];by_cases z:a=j
  .subst z
   simp
  let g:à (h a==h j):=ϨW (λe=>z<|hi a P0 e);let Z:à (a==j):=ϨW z;rw[g,Z];change _+1=_+1;rw[Y2 λb B=>hi b<|Ā B]
structure Nm(us ts:À Nd)(ch:Nat->Ò)(h:Ě):Prop where
 len:όw 200
 eu:WL us
 et:ϵr
 inj:∀i j,ϲu->ϮI->h i=h j->i=j
 lt:∀i,ϲu->ϵc (h i)
 root:h 0=0
 kid:∀i,ϲu->ch (h i)=Ó (Ş i) h
 mem:∀q,ϵc q->∀k,k∈ŭ↔k∈I2 us q
 lab:∀i,ϲu->ϨA (ϫG<|h i) (Ϸs i)
 rt:∀i,ϲu->ķ i=-1->H6 us (h i)=-1
 eld:∀i(j:Nat),ϲu->ķ i=ą->H6 us (h i)=Ë (h j)
section
variable{us ts:À Nd}{ch:Nat->Ò}{h:Ě}
def Nm.order(nm:Ο){c:F}(p:ó)(a:Ľ)(fl:å)(b:Bool):bH [ů,ß b]=ĥ nO (Ó (Ï ϸi Ř<|Ŝ ċ) h):=by
 let con:Ϥ6 (ϗi ϺH):=F.O0 (ch:=Ş) _ p.con λk H=>by rw[p.Yw,X4]at H;show όr H
 let o:=Jl us ch (ϗi ϺH) con (by rw[F.GF];change [h 0]=[0];rw[nm.root]) (λk H=>by rw[F.iF,p.Yw]at H;let(i,hi,rfl):=ϵ3;show Ϲi<|X4.mp hi) (by rw[F.iF,K1,p.Yw,Wu];lia) fl b;rw[o];delta mJ;rw[F.prM,F.iF];cases b with
 |true=>
  let:=Ee ts c p ċ;delta mJ at this;rw[this];rfl
 |false=>
  let:=GV ts c p nm.et ċ;delta mJ at this;rw[this];rfl
end
def NJ{T:À Nd}(he:ϳk)(a:ϱs 200):Nm T T ϲI (λi=>i):=
 ⟨a,Hz he,he,λ_ _ _ _ e=>e,λ_ hi=>hi,rfl,λi _=>(Zct _).symm,λ_ _ _=>Iff.rfl,λ_ _=>Ϧu,ϐt,Ϗx⟩
def Ali(f:Fn)(d:Gc):Prop:=f [d,d]=Ú (ß true)
def Mh(f:Fn)(i:Int):Ali (Ť 4<|bdA f) (Á i):=by delta Ali bdA;let w:=DY i;let d:Ç (i=i)=true:=ϻq;simp![w,d]
def EX(d:À Gc):cE [Å d]=Ú (ß false):=ϕ0
def Pu(d:À Gc):xr "str" (Å d)=ϧv:=rfl
def HH{f:Fn}{s:À Gc}{x0 x1:OD}(h:∀d∈s,Ali f d):∀(r:ϱQ),br (ϳ6 2 3) (X5 (lg<|au<|ar f<|Í 2<|Í 3 ai) (ϰ7<|ß false) Wz) (lG s s) [Â x0,Â x1,none,none]=r->∃V B,r=ü [Â x0,Â x1,V,B]:=λr l=>by
 apply cD l (λi a=>∃V B:Ö OD,a=[Â x0,Â x1,V,B]) (ϱt _) ?_ ?_
 .rintro i d a hd ⟨V,B,rfl⟩
  let(x,y,H,Y,rfl):=kP hd;rw[H]at Y;cases Y;let hr:f [x,x]=Ú (ß true):=h x Ϸu;simp![hr];show(_,_,rfl)
 ext ρ' rfl ⟨V,B,rfl⟩;show(_,_,rfl)
def HU{f:Fn}{s:À Gc}(a:s.length<=1000)(h:∀d∈s,Ali f d):Ali (Ť 4<|bdA f) (Å s):=by
 delta Ali bdA;let w:=EX s;let U:Ĳ s.length:=ax a;let d:Ç (Ë s.length=Ë s.length)=true:=ϻq;simp![Pu,w,U,d,Wk,UD];generalize l:ϰz=r;let(V,B,rfl):=HH h r l;simp![S5]
def zm(L:Ò)(l:ϤJ 1000):iS [Å ϰ4,Å ϰ4]=Ú (ß true):=HU (f:=eV) (ϦF aD) λd h=>by delta nD iL at h;rw[W5]at h;let(k,_,rfl):=Ϻ8;show Mh _ _
namespace F
variable{el:ι}{x:Nat}
def V0:∀(g:F)(P:Int),x∈Ϸq->ϻb g->∃f s U V,Ϸq=U++(x::pre s)++V/\Xw el ĭ s/\ϰi=U++V/\ϻb f:=by
 ext Y
 induction Y with
 |nil=>ext _ h _;cases h
 |cons k c r Pi I4=>
  ext P h he;let(b,H,a):=he;by_cases z:k=x
  .subst z
   show(r,c,[],Ϸp,rfl,H,rfl,a)
  rw[pre,W7,P1]at h;rcases h with h|h|h
  .exact Ć h.symm z
  .let(f,s,U,V,e1,E,y,e):=Pi k h H
   apply(ϥh f r,s,k::U,V++Ϸp,?_,E,?_,b,e,a)
   .rw[pre,e1];simp
   rw[pre,y];simp
  let(f,s,U,V,e1,E,y,e):=I4 P h a;apply(ϲ1 f,s,k::(ϳV++U),V,?_,E,?_,b,H,e)
  .rw[pre,e1];simp
  rw[pre,y];simp
def EO{L:Nat}{b:F}(X:el x=el L)(B:Xw el ĭ b):∀(g:F)(P:Int),L∈Ϸq->ϻb g->∃f U V,Ϸq=U++L::V/\ϰi=U++(x::pre b)++L::V/\ϻb f:=by
 ext Y
 induction Y with
 |nil=>ext _ h _;cases h
 |cons k c r Pi I4=>
  ext P h he;let(H,a,d):=he;by_cases z:k=L
  .subst z
   show(cons x b<|ϲ1 r,[],ϳV++Ϸp,rfl,by rw[pre,pre];simp,X.trans H,B,H,a,d)
  rw[pre,W7,P1]at h;rcases h with h|h|h
  .exact Ć h.symm z
  .let(f,U,V,e1,E,y):=Pi k h a
   apply(ϥh f r,k::U,V++Ϸp,?_,?_,H,y,d)
   .rw[pre,e1];simp
   rw[pre,E];simp
  let(f,U,V,e1,E,y):=I4 P h d;apply(ϲ1 f,k::(ϳV++U),V,?_,?_,H,a,y)
  .rw[pre,e1];simp
  rw[pre,E];simp
def LC{e:Nat}{b:F}(X:el x=ö)(B:Xw el ĭ b):∀(g:F)(P:Int),e∈Ϸq->ϻb g->∃f s a U V,Ϸq=U++(e::pre s)++V/\Xw el ö s/\ϰi=U++(e::pre s)++(x::pre b)++V/\ϻb f/\pre a=U++V/\ϻb a:=by
 ext Y
 induction Y with
 |nil=>ext _ h _;cases h
 |cons k c r Pi I4=>
  ext P h he;let(H,d,i):=he;by_cases z:k=e
  .subst z
   show(ϥh (app c<|cons x b nil) r,c,r,[],Ϸp,rfl,d,by rw[pre,pre_app,pre,pre];simp,(H,Ψ (zT _ _) ⟨d,X,B,trivial⟩,i),rfl,i)
  rw[pre,W7,P1]at h;rcases h with h|h|h
  .exact Ć h.symm z
  .let(f,s,a,U,V,e1,E,y,j,p,l):=Pi k h d
   apply(ϥh f r,s,ϥh a r,k::U,V++Ϸp,?_,E,?_,(H,j,i),?_,H,l,i)
   .rw[pre,e1];simp
   .rw[pre,y];simp
   rw[pre,p];simp
  let(f,s,a,U,V,e1,E,y,j,p,l):=I4 P h i;apply(ϲ1 f,s,ϲ1 a,k::(ϳV++U),V,?_,E,?_,(H,d,j),?_,H,d,l)
  .rw[pre,e1];simp
  .rw[pre,y];simp
  rw[pre,p];simp
theorem vG{Q:į Int}:∀(f:F)(P:Int),ϻb f->(∀k∈ϰi,Q (el k)->Q Þ)->Q P->∀k∈ϰi,Q Þ
 |nil,_,_,_,_,_,m=>Ϥq
 |cons a c r,P,he,hk,hp,k,m=>by
  let(H,b,d):=he;let A:Q ϱv:=hk a (by rw[pre];simp) (by rw[H];show hp);rw[pre,W7,P1]at m;rcases m with rfl|m|m
  .exact A
  .exact vG c a b ϓ1 A k m
  .exact vG r P d ϓ1 hp k m
def Lb{f:F}{T:Ò}(h:ϰi=0::T)(he:Xw el (-1) f)(e:∀k∈T,el k≠-1):∃c,f=ϧx:=by
 cases f with
 |nil=>cases h
 |cons k c r=>
  rw[pre]at h;injection h with H d
  subst H;cases r with|nil=>show(c,rfl)|cons a b t=>show Ć he.2.2.1 (e a<|by rw[<-d,pre];simp)
end F
def aE(T:À Nd)(j:Nat):Nat:=j+1+Ì Ϭb
section
variable{ts:À Nd}{c:F}{x:Nat}
def mH(p:ó)(X:Ċ):∃f s,x<ý/\ϤM ý/\ϻc=Η (x+1) (ý-x-1)/\F.Xw ķ ĭ s/\Ÿ=Ϥ2++Η ý (϶8 ý)/\ϯj ķ:=by
 let(f,s,U,V,e1,E,y,e):=F.V0 (x:=x) ϺH (-1) (Ù p.Yw<|X4.mpr X) p.eldF;rw[p.Yw]at e1;let ln:=ϱT e1;rw[Wu,Ww,Ww,Xt]at ln;let u:U.length=x:=by
  let H:=Xn (λl=>l[U.length]?) e1;simp only[K9M]at H;rw[K9a õ,K8c,y_,Zbb,Zs Ã]at H;show Zh H
 let sp:Ř=Ϥ2++(x::Η (x+1) ((Ì ϻc)))++Η (x+1+Ì ϻc) V.length:=by
  rw[K7k,K7k,ņ (ts.length=x+(Ì ϻc+1)+V.length),<-Zai,<-Zai,Zay,K83]
  congr 2
  lia
 rw[sp]at e1;let(a,b):=Zcd e1 (by rw[Ww,Ww,Wu,Xt,Xt,K93,u]);let(a,A):=Zcd a (by rw[Wu,u]);injection A with _ A
 let S:=ϱT A;rw[K93]at S;let be:ý=x+1+Ì ϻc:=by
  delta aE;apply Xn (x+1+·)<|BG _ _ _ (î K8y) (λk K n h=>?_) λn h=>?_
  .rw[K7z]at h
   let M:x+1+k∈ϻc:=by rw[<-A,Zaa];lia
   rcases F.kY _ s E _ M with w|⟨j,W,d⟩
   .unfold inB
    rw[<-cC h,w];show W6 Ã
   rw[<-A,Zaa]at W;delta inB;rw[<-cC h,d];show W6 Ã
  rw[K7z]at h;let L:=ϷW;let M:x+1+Ì ϻc∈Ÿ:=by rw[y,<-b,P1,Zaa];right;lia
  let lt:=iY p L;delta inB;rw[<-cC h];apply Ll λle=>?_;rcases F.kY _ f e _ M with w|⟨j,W,d⟩
  .lia
  rw[y,<-b,<-a,P1,X4,Zaa]at W;lia
 apply(f,s,î be,î be,?_,E,?_,e)
 .rw[be,<-A,K93]
  congr 1
  lia
 rw[y,be,<-a,<-b]
 congr 2
 lia
def fG(p:ó)(X:Ċ):x<ý/\ϤM ý:=by let(f,s,h,H,_):=mH p X;show(h,H)
def zk(p:ϹA)(h:Ϯ7){k:Nat}(H:x<k)(a:k<Ϸb):ĭ<=ŗ/\ŗ<Ë Ϸb:=by
 let(f,s,g1,g2,g3,g4,_):=mH p h;let M:k∈ϻc:=ϰP g3 Zaa
 rcases F.kY _ s g4 _ M with w|⟨j,W,b⟩
 .lia
 rw[g3,Zaa]at W;lia
def qU(p:ϹA)(H:Ϯ7){k:Nat}(K:ϰV)(h:k<x\/Ϸb<=k):ŗ<ĭ\/Ë Ϸb<=ŗ:=by
 let(f,s,g1,g2,g3,g4,g5,g):=mH p H;let M:k∈Ÿ:=by rw[g5,P1,X4,Zaa];lia
 rcases F.kY _ f g _ M with w|⟨j,W,a⟩
 .lia
 rw[g5,P1,X4,Zaa]at W;lia
end
def rest(T:À Nd)(x:Nat):Ò:=Ϥ2++Η Ϸb (϶1 Ϸb)
def Yq(T:À Nd)(x e k:Nat):Int:=Ï (k=x) ö ŗ
def Kx(T:À Nd)(x e:Nat):Ò:=é (ϲI e) λj=>! Ç (j=x)
def Lx(T:À Nd)(x e p:Nat):Nat:=ϊ (ϴ6[p]?)<|aE T e
def Xo(T:À Nd)(x e p:Nat):Ò:=é ϯK (λk=>Ç<|k<ϒh)++϶l (Ϸb-x)++é ϯK (λk=>Ç<|ϒh<=k)
def nv{U V:Ò}{L:Nat}(a:∀u∈U,u<L)(b:∀v∈V,L<=v):é (U++V) (λk=>Ç<|k<L)=U/\é (U++V) (λk=>Ç<|L<=k)=V:=by
 rw[Zm,Zm];constructor
 .rw[ϷI (λu h=>W6<|a u h),ϳn (λv H=>ϩA (b v H)),Xf]
 rw[ϳn (λu h=>ϩA (a u h)),ϷI (λv H=>W6<|b v H),K9B]
section
variable{ts:À Nd}{c:F}{x e p:Nat}
def aZ(pt:ó)(h:Ċ){k:Nat}:k∈Ğ↔ľ/\(k<x\/ý<=k):=by
 let:=ϰk h;delta rest;rw[P1,X4,Zaa];lia
def p9(pt:ó)(h:Ċ):Ϲk Ğ ϶3:=by
 let:=ϰk h;delta rest;rw[Zao];apply(Zah,List.pairwise_lt_range',λa A b B=>?_);rw[X4]at A;rw[Zaa]at B;lia
def DL(pt:ó)(h:Ċ):϶l (ý-x)=x::Η (x+1) (ý-x-1):=by
 let:=ϰk h;rw[ņ (ý-x=(ý-x-1)+1),Zay];rfl
def VQ(pt:ó)(X:Ċ)(he:ō)(h:e<x\/ý<=e):∃f,Ÿ=š/\ϯj ϱ2:=by
 let(f,s,g1,g2,g3,g4,g5,G):=mH pt X;let P:Ÿ=Ğ:=g5;let nx:∀k∈Ÿ,k≠x:=λk H=>by
  rw[P,ϲd X]at H;lia
 let ex:ϱ2 x=ö:=Č;let E:∀k,k≠x->ϱ2 k=ķ k:=λk H=>ϳj;let n:ϯj ϱ2:=F.mG _ f (λk H=>E k<|nx k H) G;let o:F.Xw ϱ2 ĭ s:=F.mG _ s (λk H=>E k<|by rw[g3,Zaa]at H;lia) g4;let D:e∈Ÿ:=ϳH P (ϲd X) (he,h)
 let W:=p9 pt X;cases hL:Ω[p]? with
 |some L=>
  let r:=Y4 hL;delta Kx at r;rw[Yg,bC]at r;obtain⟨⟨I,J⟩,l⟩:=r;let l:L≠x:=Ϻc
  let lf:L∈Ÿ:=by
   rw[P,ϲd X];apply(I,?_);by_cases z:L<x\/ý<=L
   .exact z
   let:=zk pt X (k:=L) Ã Ã;lia
  let(g,U,V,b,j,q):=F.EO (x:=x) (L:=L) (el:=ϱ2) (by rw[ex,E L l,J]) o f (-1) lf n;apply(g,?_,q);rw[P]at b;rw[b,Zao]at W;let i:ϳw=L:=ϬG
  let(s1,m):=nv (U:=U) (V:=L::V) (L:=L) (λu a=>W.2.2 u a L P0) (λv d=>by
   rcases W7.mp d with rfl|d
   .exact õ
   show Zba<|Zbq W.2.1 d)
  delta Xo;rw[i,b,s1,m,j,DL pt X,g3]
 |none=>
  let(g,m,t,U,V,b,j,q,K,y,M):=F.LC (x:=x) (e:=e) (el:=ϱ2) ex o f (-1) D n;apply(g,?_,K);rw[P]at b;let i:ϳw=ϱ9:=ϬG
  let be:=ϰk he;let inR:∀k∈U++(e::F.pre m)++V,ľ/\k≠x:=λk H=>by
   rw[<-b,ϲd X]at H;let:=ϰk X;lia
  rw[b,K9M,y_,Zao,Zcp,Zao]at W;obtain⟨_,⟨O,_,Y,_⟩,p2⟩:=W;let B:∀k∈F.pre m,ö<=Þ/\Þ<Ë ϱ9:=F.vG (Q:=λz=>ö<=z/\z<Ë ϱ9) m ö j (λk H Z=>by
   let(A,R):=inR k ϑa;rw[E k R]at Z;by_cases z:k<e\/ϱ9<=k
   .let:=ϥH he A z
    lia
   lia) Ã
  let C:∀k∈F.pre t,¬(ö<=Þ/\Þ<Ë ϱ9):=F.vG (Q:=λz=>¬(ö<=z/\z<Ë ϱ9)) t (-1) M (λk H Z=>by
   rw[y,P1]at H;let(A,R):=inR k (by rcases H with H|H<;>simp[H]);let r3:k≠e:=by
    rcases H with H|H
    .let:=p2 k H e P0
     lia
    let:=O k<|Ļ H;lia
   rw[E k R]at Z;ext w;let:=zk pt he (k:=k) Ã Ã
   lia) Ã
  let(s1,S):=nv (U:=U++(e::F.pre m)) (V:=V) (L:=ϱ9) (λu a=>by
   rcases P1.mp a with a|a
   .let:=p2 u a e P0
    lia
   .rcases W7.mp a with rfl|a
    .lia
    let:=B u a
    lia) (λv d=>by
   let N:=C v (Ϯk<|Ļ d);let T:=O v<|Ļ d
   lia)
  delta Xo;rw[i,b,s1,S,q,DL pt X,g3]
end
def gU(R:Ò)(z:Int):Int:=Ï (z<0) (-1) (R.idxOf z.toNat:Nat)
def reN(us:À Nd)(R:Ò):À Nd:=R.map λk=>(Ϧi (gU R Ϸ8) ϵ4)
def si(us:À Nd)(R:Ò):ak ϶I=fm us R:=by delta ak reN fm;rw[W5];rfl
section
variable{us:À Nd}{R T:Ò}{f:F}
def d6:Ì ϶I=R.length:=Ŷ reN K1
def B4{i k:Nat}(h:϶b=Β):Ķ ϶I=Â ((Ϧi (gU R Ϸ8) ϵ4)):=ϬU reN
def ph{i k:Nat}(h:϶b=Β):H6 ϶I i=gU R Ϸ8:=cC<|B4 h
def JM{i k:Nat}(h:϶b=Β):ϨA (bN ϶I i) ϵ4:=ύo B4
def uJ(nd:R.Nodup)(h:϶b=Β):R.idxOf k=i:=by let(H,a):=Za.mp h;rw[<-a];show ώv H
def idx_map(nd:R.Nodup):R.map ώ9=ń R.length:=by
 apply Y_;ext i;rw[T2];by_cases hi:ϒg
 .rw[Ϸr,ϹH]
  show ϮX<|ώv hi
 rw[Ye Ã,Ye<|î Wu];rfl
def Jb(H:Ÿ=R)(nd:R.Nodup)(he:ϯj (H6 us))(u:R=0::T)(t:∀k∈T,Ϸ8≠-1):∃c,PT ϶I c:=by
 let(c,rfl):=F.Lb (by rw[H];show u) he t;apply(F.map ώ9 c,?_,?_,?_)
 .let a:R.idxOf 0=0:=by rw[u];simp
  rw[F.iF,d6,<-idx_map nd];let:ϵh=T:=by delta F.full at H;rw[F.pre,F.pre,Xf,u]at H;show(K88 H).2
  rw[this]
  conv=>rhs;rw[u]
  rw[L4,<-u,a]
 .rw[ph (k:=0) (by rw[u];rfl),he.1]
  rfl
 let a:R.idxOf 0=0:=by rw[u];simp
 let:=F.Bb (e:=H6 us) (e':=H6 ϶I) (h:=ώ9) (hi:=gU R) 0 c (λk K=>by
  let r:k∈R:=by rw[<-H];delta F.full;rw[F.pre,F.pre,Xf];show Ā K
  apply(ph<|gF r,?_);delta gU;rw[P3 Ã,Xz]) he.2.1
 let g:gU R 0=0:=by
  delta gU;rw[P3 Ã];change Ë (R.idxOf 0:Nat)=0;rw[a];rfl
 rw[g]at this;show this
def Cg(nd:R.Nodup)(e:∀k∈R,Ϸ8=-1\/ϵn (j∈R/\Ϸ8=ą)){i q:Nat}(h:϶b=Â q):Ó (I2 ϶I i) (λj=>Ϗ2)=R.filter λk=>Ç (Ϸ8=Ë q):=by
 delta I2;let e1:R=Ó (ń R.length) λj=>Ϗ2:=by
  apply Y_;ext j;rw[T2];by_cases J:Ϥs
  .rw[Zs J]
   change _=Â Ϗ2;rw[Xb J];rfl
  rw[Ye Ã,Ye<|î Wu];rfl
 conv=>rhs;rw[e1]
 rw[Zbk,d6];apply Ϭ6 _<|K8Z Ϲb;rw[X4]at J;let t:R[j]?=some R[j]:=Xb J;rw[ph t,Function.comp,t,Zac];let M:R[j]∈R:=Zab J;rw[K8j,Yz,Yz];let H:=uJ nd h;delta gU;rcases e _ M with z|⟨w,W,a⟩
 .rw[z,Os Ã]
  constructor<;>intro<;>lia
 rw[a,P3 Ã,Xz];constructor
 .intro z
  let z:R.idxOf w=i:=Ã
  let:=gF W;rw[z,h]at this;cases this;rfl
 ext z;let z:w=q:=Ã
 rw[z,H]
end
def dY(T:À Nd)(x e:Nat):À Nd:=T.set x (Ϧi ö (bN T x))
def Y9(T:À Nd)(x e p:Nat):À Nd:=reN (dY T x e)<|Xo T x e p
theorem mV:∀{S:Ò},S.Pairwise ϶3->S.filter (λk=>Ç<|k<L)++S.filter (λk=>Ç<|L<=k)=S
 |[],_=>rfl
 |a::S,h=>by
  rw[Zcp]at h;by_cases z:a<L
  .rw[Zad (ť z),Zaj ϴd,y_,mV h.2]
  .let e1:S.filter (λk=>Ç<|k<L)=[]:=ϳn (λk H=>ϩA (h.1 k H))
   let E:S.filter (λk=>Ç<|L<=k)=S:=ϷI (λk H=>ϩA (h.1 k H))
   rw[Zaj (ť z),e1,K9B,Zad ϴd,E]
section
variable{ts:À Nd}{c:F}{x e p:Nat}
def bY:϶U (Ì ϲw):=Ŷ dY K8z
def zo{k:Nat}(h:ľ):ϲw[k]?=Â ((Ϧi (ϱ2 k) (Ϸs k))):=by
 delta dY Yq;by_cases z:x=k
 .subst z
  rw[K9I h,Č]
 rw[K9E z,P3<|K8g z,fI h,<-gP h]
def jE{k:Nat}(h:ľ):H6 ϲw k=ϱ2 k:=cC<|zo h
def vD{k:Nat}(h:ľ):ϨA (bN ϲw k) (Ϸs k):=ύo zo
def dc(pt:ó)(h:Ċ){k:Nat}:k∈š↔ľ:=by
 let:=ϰk h;delta Xo;rw[P1,P1,Yg,Yg,ϲd h,Zaa,Yz,Yz];lia
def rE(pt:ó)(h:Ċ):(ϰs š):=by
 let B:=ϰk h;let T:(ϰs Ğ):=(p9 pt h).imp Ym;delta Xo;rw[Ya,Ya];apply((T.filter _,Zbt,λa A b f z=>?_),T.filter _,λa A b f z=>?_)
 .rw[Yg,ϲd h]at A
  rw[Zaa]at f;lia
 rw[Yg,ϲd h,Yz]at f;rw[P1,Yg,ϲd h,Zaa,Yz]at A;lia
def gI(pt:ó)(h:Ċ):϶U (Ì š):=by
 let B:=ϰk h;let H:=ϱT<|mV (L:=ϳw)<|p9 pt h;let a:Ì Ğ=x+(϶8 ý):=by delta rest;rw[Ww,Wu,K93]
 rw[Ww]at H;delta Xo;rw[Ww,Ww,K93];lia
def AY(pt:ó)(he:ō)(h:e<x\/ý<=e):0<x:=by
 by_cases z:x=0
 .subst z
  let a:υ 0:=Ã
  let B:=ϰk a;let:=ϥH a (k:=aE ts 0) Ã<|Ð õ;let lt:=iY pt (k:=aE ts 0) Ã;rcases elt Ϸ9 (k:=aE ts 0) Ã with⟨_,w⟩|⟨j,w,_⟩<;>lia
 lia
def PX(pt:ó)(he:ō):0<ϳw:=by
 delta Lx;cases hL:Ω[p]? with
 |none=>
  let:=ϰk he;change 0<ϱ9;lia
 |some L=>
  let r:=Y4 hL;delta Kx at r;rw[Yg,bC]at r;let lt:=iY pt r.1.1;change 0<L;lia
def Bg(pt:ó)(H:Ċ)(he:ō)(h:e<x\/ý<=e):∃T,š=0::T:=by
 let a:=όs h;let l:=PX (x:=x) (p:=p) pt he;let hr:Ğ=0::ϴA Ğ 1:=by
  delta rest;obtain⟨y,rfl⟩:∃y,x=y+1:=⟨x-1,Ã⟩
  rw[Zbg,y_];rfl
 let f:é Ğ (λk=>Ç<|k<ϳw)=0::é (ϴA Ğ 1) (λk=>Ç<|k<ϳw):=by
  conv=>lhs;rw[hr]
  rw[Zad Ϻc]
 delta Xo;rw[f,y_,y_];show(_,rfl)
def uF(pt:ó)(he:ō){k:Nat}(h:ľ):ϱ2 k=-1\/ϵn (ϮI/\ϱ2 k=ą):=by
 delta Yq;by_cases z:k=x
 .rw[Χ]
  show Ð ⟨e,he,rfl⟩
 rw[Ε];rcases elt Ϸ9 h with⟨w,_⟩|⟨j,w,_⟩
 .exact Ê w
 show Ð ⟨j,Ã,w⟩
def vW(pt:ó)(H:Ċ)(he:ō)(h:e<x\/ý<=e):όF ϰb:=by
 let(f,b,J):=VQ (p:=p) pt H he h;let(T,t):=Bg (p:=p) pt H he h;let d:=όs h;apply Jb (f:=f) (T:=T) b (rE pt H) (F.mG _ f Ϥx J) t Ϥx
 .rw[b,dc pt H]at K
  show jE K
 let nd:=rE (e:=e) (p:=p) pt H;rw[t,Yj]at nd;let a:ľ:=(ώQ H).mp (by rw[t];show Ā K);let k0:k≠0:=λz=>nd.1 (ϰy z K);rw[jE a];delta Yq;by_cases z:k=x
 .rw[Χ]
  lia
 rw[Ε];rcases elt Ϸ9 a with⟨_,w⟩|⟨j,w,_⟩<;>lia
def G0(pt:ó)(h:Ċ):Ř=Ϥ2++϶l (ý-x)++Η ý (϶8 ý):=by let:=ϰk h;rw[K7k,K7k,show Η 0 ts.length=Η 0 (x+(ý-x)+(϶8 ý))by congr 1;lia,<-Zai,<-Zai,K83,ņ (x+(ý-x)=ý),K83]
def Qx(T:À Nd)(x q k:Nat):Bool:=Ç (ŗ=Ë q)&& ! Ç (k=x)
def N0:é (Ş q) (λj=>! Ç (j=x))=é Ř ϸZ:=by delta I2;rw[Zbd];show K8Z λk _=>Ŷ Qx Bool.and_comm
def Np(pt:ó)(X:Ċ){q:Nat}(h:q<x\/ý<=q):é (϶l<|ý-x) ϸZ=[]:=List.filter_eq_nil_iff.mpr λk H=>by
 rw[Zaa]at H;delta Qx;by_cases z:k=x
 .simp[z]
 let:=zk pt X (k:=k) Ã Ã;rw[Ll Ã,Zaf];decide
def Sn(pt:ó)(H:Ċ){q:Nat}(a:x<=q)(b:q<ý):∀k∈Ğ,à (ϸZ k):=λk h=>by
 rw[ϲd H]at h;let:=ϥH H h.1 h.2;delta Qx;rw[Ll Ã];rfl
def zB(pt:ó)(H:Ċ){q:Nat}(h:q<x\/ý<=q):é Ğ ϸZ=é (Ş q) λj=>! Ç (j=x):=by rw[N0,G0 pt H,Zm,Zm,Np pt H h,Xf,<-Zm];rfl
def LG(pt:ó)(X:Ċ)(he:ō)(h:e<x\/ý<=e){q:Nat}(Q:q≠e):é š (λk=>Ç<|ϱ2 k=Ë q)=é (Ş q) λj=>! Ç (j=x):=by
 let f:é š (λk=>Ç<|ϱ2 k=Ë q)=é š ϸZ:=K8Z λk _=>by
  delta Qx Yq;by_cases z:k=x
  .rw[Χ,W6 z,Ll Ã,Zbc,Zbp]
  rw[Ε,Ll z,Zal,Zav]
 rw[f];by_cases z:q<x\/ý<=q
 .rw[<-zB pt X z,<-mV (L:=ϳw) (p9 pt X)]
  delta Xo;rw[Zm,Zm,Zm,Np pt X z,Xf]
 let ou:=Sn pt X (q:=q) Ã Ã;rw[N0,G0 pt X];delta Xo;rw[Zm,Zm,Zm,Zm];let U:∀P:å,é (é Ğ P) ϸZ=[]:=λP=>ϳn (λk H=>ϸ0 (ou k (Yg.mp H).1))
 let O:é Ϥ2 ϸZ=[]:=ϳn (λk H=>ϸ0 (ou k<|Ŀ H))
 let o:é (Η ý<|϶8 ý) ϸZ=[]:=ϳn (λk H=>ϸ0 (ou k<|Ļ H))
 rw[U,U,O,o]
def Se:Ϲk Ω ϶3:=K7j _ Ϫz
def RJ(pt:ó)(X:Ċ)(he:ō)(h:e<x\/ý<=e)(f:p<=Ì Ω):é š (λk=>Ç<|ϱ2 k=ö)=ϫ5 Ω:=by
 let hr:∀P:å,é (é Ğ P) (λk=>Ç<|ϱ2 k=ö)=é Ω P:=λP=>by
  let:Ω=é Ğ (Qx ts x e):=(zB pt X h).symm;rw[this,Zbd,Zbd];apply K8Z ϧj;rw[ϲd X]at H;let:=ϰk X;let nx:k≠x:=Ã
  delta Qx Yq;rw[P3 nx,Ll nx,Zal,Zav,Bool.and_comm]
 let M:é (϶l<|ý-x) (λk=>Ç<|ϱ2 k=ö)=[x]:=by
  rw[DL pt X,Zad<|by delta Yq;rw[Č];show ϻq];apply Xn (x:: ·)<|ϳn ϧj;rw[Zaa]at H;let:=zk pt X (k:=k) Ã Ã;delta Yq;rw[P3 Ã,Ll Ã];decide
 delta Xo;rw[Zm,Zm,M,hr,hr,K9M,List.singleton_append];cases hL:Ω[p]? with
 |some L=>
  let i:ϳw=L:=ϬG
  let l:=(ϵe hL);let d:ϴA Ω p=L::ϴA Ω (p+1):=ϲK (K8M l) (Za.mp hL).2
  let W:=Se (ts:=ts) (x:=x) (e:=e);rw[<-Zau p Ω,Zao]at W;let(s1,m):=nv (U:=ζ Ω p) (V:=ϴA Ω p) (L:=L) (λu b=>W.2.2 u b L<|by rw[d];show P0) (λv a=>by
   let p2:=W.2.1;rw[d]at a p2;rcases W7.mp a with rfl|a
   .exact õ
   show Zba<|Zbq p2 a)
  rw[Zau]at s1 m;rw[i,s1,m]
 |none=>
  let i:ϳw=ϱ9:=ϬG
  let hle:=ϔx;let lt:∀k∈Ω,k<ϱ9:=λk H=>by
   delta Kx at H;rw[Yg,bC]at H;by_cases z:k<ϱ9
   .exact z
   let:=ϥH he H.1.1 (Ð Ã);let:=ϰk he;lia
  rw[i,K90 hle,List.drop_of_length_le hle,ϷI (λk H=>W6<|lt k H),ϳn (λk H=>ϩA (lt k H))]
end
def mvH(T:À Nd)(h:Ě)(x e p i:Nat):Nat:=ϵi<|(Xo T x e p)[i]?
def mvC(ch:Nat->Ò)(x e p q:Nat):Ò:=if q=e then ϫ5 (é ŭ λj=>! Ç (j=x)) else é ŭ λj=>! Ç (j=x)
theorem pR{h:Ě}:∀{L:Ò},(∀k∈L,h k=h x->k=x)->é ϤP (λj=>! Ç ϫl)=(L.filter λj=>! Ç (j=x)).map h
 |[],_=>rfl
 |a::L,hi=>by
  rw[L4];by_cases z:a=x
  .rw[Zaj (Ű z),Zaj (Ű z),pR λk H=>hi k<|Ā H]
  .let g:h a≠h x:=λw=>z<|hi a P0 w
   rw[Zad (Ű g),Zad (Ű z),L4,pR λk H=>hi k<|Ā H]
def zy{ch:Nat->Ò}{x e p q k:Nat}:k∈mvC ch x e p q↔(q=e/\k=x)\/(k∈ŭ/\k≠x):=by
 let f:∀L:Ò,k∈L.filter (λj=>! Ç (j=x))↔k∈L/\k≠x:=λL=>ϱZ Yg
 delta mvC;by_cases z:q=e
 .rw[Χ,P1,W7]
  let:k∈é ŭ (λj=>! Ç (j=x))↔k∈(é ŭ λj=>! Ç (j=x)).take p\/k∈(é ŭ λj=>! Ç (j=x)).drop p:=by rw[<-P1,Zau]
  rw[f]at this;rw[this];constructor
  .rintro(w|w|w)
   .exact Ð<|Ê w
   .exact Ê ⟨z,w⟩
   show Ð<|Ð w
  rintro(⟨_,w⟩|w|w)
  .exact Ð<|Ê w
  .exact Ê w
  show Ð<|Ð w
 rw[Ε,f];constructor
 .exact Ð
 rintro(⟨w,_⟩|w)
 .exact absurd w z
 show w
section
variable{us ts:À Nd}{ch:Nat->Ò}{h:Ě}{c:F}{x e p:Nat}
def DM(nm:Ο)(pt:ó)(X:Ċ)(he:ō)(g:e<x\/ý<=e)(P:p<=Ì Ω):Nm (ϨS<|h e) ϰb ϬM Ϻi:=by
 let R:=ϩq pt X;let n:=rE (e:=e) (p:=p) pt X;let r:∀{k},k∈š↔ľ:=dc pt X;let m:϶U (Ì ϰb):=by delta Y9;rw[d6,R]
 let at_:∀i,ϲu->∃q,Ķ š=Â q/\υ q/\Ϻi i=h q:=λi hi=>by
  let I:i<Ì š:=by rw[R];show hi
  apply(š[i],Xb I,r.mp<|Zab I,?_);delta mvH;rw[Xb I];rfl
 let l:=nm.lt x X;let L:=ϮW;let u:∀k,ϴS->H6 (ϨS<|h e) k=Yq us (h x) (h e) k:=λk H=>jE H;let(G,t):=ϩX X he g;let inR:∀k∈š,H6 ϲw k=-1\/ϵn (j∈š/\H6 ϲw k=ą):=λk H=>by
  let H:=r.mp H;rw[jE H];rcases uF (x:=x) pt he H with w|⟨j,W,a⟩
  .exact Ê w
  show Ð ⟨j,r.mpr W,a⟩
 apply(Ù bY nm.len,?_,ϹC,?_,?_,?_,?_,?_,?_,?_,?_)
 .intro k H
  rw[bY]at H;rw[u k H,bY];delta Yq;by_cases z:k=h x
  .rw[Χ]
   lia
  rw[Ε];show nm.eu k H
 .intro i j hi J v
  rw[m]at hi J;let(q,d,Q,b):=ϵX;let(w,W,a,f):=at_ j J;rw[b,f]at v;let:=ϤG w Q a v;subst this;rw[<-uJ n d,uJ n W]
 .intro i hi
  rw[m]at hi;rw[bY];let(q,d,Q,b):=ϵX;rw[b];show ϺJ
 .let(T,D):=Bg (p:=p) pt X he g
  delta mvH;rw[D];show nm.root
 .intro i hi
  rw[m]at hi;let(q,d,Q,b):=ϵX;let e1:Ó (I2 ϰb i) Ϻi=(Ó (I2 ϰb i) λj=>š[j]?.getD 0).map h:=ϰd W5
  let E:é š (λk=>Ç<|H6 ϲw k=Ë q)=é š (λk=>Ç<|ϱ2 k=Ë q):=K8Z λk H=>ϱl (jE<|r.mp H)
  let y:é (ch<|h q) (λj=>! Ç ϫl)=(é (Ş q) λj=>! Ç (j=x)).map h:=Ù (nm.kid q Q) ϓT
  rw[e1];delta Y9;rw[Cg n inR d,E,b];delta mvC;by_cases z:q=e
  .subst z
   rw[Č,y,RJ pt X he g P];change _=Ó (ϫ5<|Kx ts x q) h;rw[Wx,L4,K7d,Zbe];rfl
  rw[ϧO (ϤG e Q he w),y,LG pt X he g z]
 .intro q B k
  rw[bY]at B;rw[zy,bC,bY,Ϫ9 B,bC];constructor
  .rintro(⟨rfl,rfl⟩|⟨⟨W,a⟩,f⟩)
   .exact(l,Ù (u _ l) Č)
   apply(W,?_);rw[u k W];delta Yq;rw[P3 f];show a
  ext⟨W,a⟩;rw[u k W]at a;delta Yq at a;by_cases z:k=h x
  .rw[Χ]at a
   show Ê ⟨Ã,z⟩
  rw[Ε]at a;show Ð ⟨⟨W,a⟩,z⟩
 .intro i hi
  rw[m]at hi;let(q,d,Q,b):=ϵX;let A:=ϙZ ϺJ;let o:=JM (us:=ϲw) d;let s:=vD (ts:=ts) (x:=x) (e:=e) Q;let C:=nm.lab q Q;delta Y9;rw[b,A.1,A.2,o.1,o.2,s.1,s.2];show C
 .intro i hi Z
  rw[m]at hi;let(q,d,Q,b):=ϵX;delta Y9 at Z;rw[ph d,jE Q]at Z;rw[b,u _ ϺJ];delta Yq at Z⊢;by_cases z:q=x
  .rw[Χ]at Z
   delta gU at Z;rw[P3 Ã]at Z;lia
  rw[Ε]at Z;rw[ϧO (ϤG x Q X w)];delta gU at Z;rcases elt nm.et Q with⟨w,_⟩|⟨j,w,_⟩
  .exact nm.rt q Q w
  rw[w,P3 Ã]at Z;lia
 ext i j hi Z;rw[m]at hi;let(q,d,Q,b):=ϵX;delta Y9 at Z;rw[ph d,jE Q]at Z;rw[b,u _ ϺJ];let key:∀w:Nat,w<ts.length->gU š (w:Int)=ą->Ϻi j=h w:=λw F P=>by
  delta gU at P;rw[P3 Ã,Xz]at P;let:=gF<|r.mpr F;rw[ņ (ϳi š w=j)]at this;delta mvH;rw[this];rfl
 delta Yq at Z⊢;by_cases z:q=x
 .rw[Χ]at Z
  rw[Os (ϱl z),key e he Z]
 rw[Ε]at Z;rw[ϧO (ϤG x Q X w)];rcases elt nm.et Q with⟨w,_⟩|⟨w,W,a⟩
 .rw[w]at Z
  delta gU at Z;rw[Os Ã]at Z;lia
 rw[W]at Z;rw[nm.eld q w Q W,key w Ã Z]
end
theorem gR(p:Ź α):∀(l:À α)(i:Nat),(∀k,k<i->∀x,l[k]?=Đ->ϤU)->(∀x,l[i]?=Đ->à (p x))->i<=l.length->l.takeWhile p=l.take i
 |[],i,_,_,_=>Û
 |a::l,0,_,h2,_=>ϰd (List.takeWhile_cons_of_neg<|ϱZ (h2 a rfl))
 |a::l,i+1,h1,h2,h3=>ϳB (List.takeWhile_cons_of_pos<|h1 0 Ã a rfl) (gR p l i (λk H x h=>h1 (k+1) Ã x h) h2<|ť h3)
def Q8(T:À Nd)(j:Nat)(h:Ϧ2):cX [Å Ō,Á j]=Ú (Á (Ë (j+1+Ì Ϭb:Nat))):=by
 delta cX mY;simp![S5];generalize l:ϤV=r;apply nG l (λm b=>∃i:Nat,m=϶1 ϥw/\ϧy ϥw/\b=[É<|Å Ō,É<|Á j,É<|Á (Ë (ϥw:Nat))]/\∀k,k<i->∀n,ϏS[k]?=ϰQ->inB j n=true) (϶1<|j+1) ⟨0,rfl,Ã,by rfl,λk f=>Ã⟩
  (λb=>b=[É<|Å Ō,É<|Á j,É<|Á (Ë (j+1+Ì Ϭb:Nat))]) ?_ ?_
 .rintro m b ⟨i,rfl,hi,rfl,ha⟩
  let fin:(∀x,ϏS[i]?=Đ->à (inB j x))->Ì Ϭb=i:=λH=>ϪZ (gR _ _ i ha H (î K8y)) Zg K8y
  by_cases c:Ë (ϥw:Nat)<Ë T.length
  .obtain⟨n,N⟩:∃n,T[ϥw]?=ϰQ:=⟨T[ϥw]' Ã,Û⟩
   let d:ϏS[i]?=ϰQ:=by rw[K7z];show N
   let g1:=eQ N;by_cases a:ą<=n.e
   .right
    constructor
    .simp![az,W6 c,g1,W6 a]
    simp![S5];apply(_,?_,i+1,rfl,Ã,?_,λk f x H=>?_)
    .lia
    .let e:Ë (ϥw:Nat)+1=Ë (j+1+(i+1):Nat):=Ã
     rw[e]
    by_cases K:k<i
    .exact ha k K x H
    let:k=i:=Ã
    subst this;rw[d]at H;cases H;show W6 a
   left;constructor
   .simp![az,W6 c,g1,Ll a]
   rw[fin λx H=>by rw[d]at H;cases H;show Ll a]
  left;constructor
  .simp![az,Ll c]
  .rw[fin λx H=>by
    let:=ϸX;rw[K8y]at this
    lia]
 ext ρ' rfl rfl;simp![S5]
def Ag{ts:À Nd}(c:Ľ){k:Nat}{L:Ò}(l:ϤJ 200){p:Int}(h:p<0\/Ë L.length<p):bA [Å Ĉ,Á Þ,Å ϰ4,Á p]=ϐX:=by
 delta bA eS;let el:Ì ϰ4=L.length:=aD L;let b:Ĳ L.length:=ax Ã;by_cases H:p<0
 .simp![W6 H,jN,kE,ky]
 let a:Ë L.length<p:=h.resolve_left H;simp![el,b,Ll H,W6 a,jN,kE,ky]
def yQ{L:Ò}(h:L≠[]):∃m:Nat,mQ [Å<|gD L]=Ú (Á ϰG)/\m∈L/\∀l∈L,l<=m:=by
 cases L with
 |nil=>show ϲv h
 |cons a as=>
  let(c,J):=uo (as.map (Į Þ)) ϱv;let M:xn ϱv (as.map (Į Þ))∈Ó (a::as) (Į Þ):=c;let(m,b,e):=Zc.mp M;apply(m,?_,b,λl H=>?_)
  .rw[e]
   let:=JL ϱv (as.map (Į Þ));rw[W5]at this;show this
  let:(l:Int)∈Ó (a::as) (Į Þ):=ϳP ⟨l,H,rfl⟩;let:=J _ this;lia
section
variable{us ts2:À Nd}{R:Ò}
def LJ(h:40<R.length)(H:όH 200):bO [Å ϫI,Å ϱC]=ϩY:=by
 delta bO ku;let b:Ĳ R.length:=ax Ã;let d:Ç (Ë 40<Ë R.length)=true:=W6 Ã;simp![aD,b,d,jN,kE,ky]
def DC(h:όH 40)(T:ba [Å ϫI,Å ϱC]=.ok (Ĩ Ϲs))(he:EL ts2)(a:Ϧn){l:Nat}(M:l∈X3 ts2)(f:8<l):bO [Å ϫI,Å ϱC]=ϩY:=by
 delta bO ku;let b:Ĳ R.length:=ax Ã;let d:à (Ç (Ë 40<Ë R.length)):=Ll Ã;let nl:=pG ts2 he Ã;let(m,e1,E,y):=yQ (L:=X3 ts2) (λz=>by rw[z]at M;cases M);let d2:Ç (Ë 8<ϰG)=true:=W6 (Œ<|y l M);simp![aD,b,d,T,aN,nl,e1,d2,jN,kE,ky]
def U8(h:όH 40)(T:ba [Å ϫI,Å ϱC]=.ok (Ĩ Ϲs))(he:EL ts2)(H:Ϧn)(a:0<ts2.length)(f:ϻ4 ts2):bO [Å ϫI,Å ϱC]=Ú (ï [Å Ϲs,Å ϱC]):=by
 delta bO ku;let b:Ĳ R.length:=ax Ã;let d:à (Ç (Ë 40<Ë R.length)):=Ll Ã;let nl:=pG ts2 he Ã;let(m,e1,E,y):=yQ (L:=X3 ts2) (λz=>by let:=cL ts2;rw[z]at this;simp at this;lia);let d2:à (Ç (Ë 8<ϰG)):=Ll (Œ<|f m E);simp![aD,b,d,T,aN,nl,e1,d2]
end
def oS(T:À Nd)(k:Nat):ϧy (Ì ę):=by
 delta I2;let:=K8i (λj=>Ç<|ϱD j=Þ) ŵ;rw[Wu]at this;show this
def lr2(i j:Nat)(hi:i<=1000)(J:j<=1000):qO [Á ë,Á ą]=ĥ nO (List.range' i<|j-i):=by
 rw[OW Ã,Xz,ņ (ē (ą-ë)=j-i)];rfl
def r9(T:À Nd)(j:Nat)(h:Ϧ2):cX [Å Ō,Á j]=Ú (Á (aE T j:Int)):=Q8 T j h
section
variable{ts:À Nd}{c:F}{x e p:Nat}
def xF(pt:ó)(a:Ľ)(h:Ċ):cq [Å Ĉ,Á ĭ]=ĥ nO Ğ:=by
 delta cq gn;let B:=ϰk h;let e1:=r9 ts x h;let g1:=Jq x Ã;let g2:=lr2 ý ts.length Ã Ã;let b:Ĳ ts.length:=ax Ã;let L:Ĳ (Ì (nD Ϥ2)+Ì (nD<|Η ý<|϶8 ý)):=ϔU;simp![e1,g1,az,b,g2,aQ,L];delta rest;rw[<-IM];delta nO;rw[Wx]
def xP(pt:ϹA)(a:ϱs 40)(he:ϒi)(H:p<=Ì ϴ6):bA [Å Ō,Á ö,Å<|nD ϴ6,Á ŝ]=Ú (Á (ϒh:Int)):=by
 delta bA eS;let E:=r9 T e he;let el:Ì (nD ϴ6)=Ì ϴ6:=aD _;let cl:ϧy (Ì ϴ6):=ϬI<|oS T e;let b:Ĳ (Ì ϴ6):=ax Ã;let D:à (Ç (ŝ<0)):=Ll Ã;let d1:à (Ç (Ë ((Ì ϴ6))<ŝ)):=Ll Ã;delta Lx;cases hL:ϴ6[p]? with
 |some L=>
  let h:=(ϵe hL);let d2:Ç (ŝ<Ë ((Ì ϴ6)))=true:=W6 Ã;let A:T1 (nD ϴ6) ŝ=Â (Á ϫB):=bW<|om hL;simp![el,b,D,d1,d2,A];rfl
 |none=>
  let hle:=ϔx;let d2:à (Ç (ŝ<Ë ((Ì ϴ6)))):=Ll Ã;simp![el,b,D,d1,d2,E];rfl
end
def hgN(n:Nat)(r:Int)(b:Nd):Nd:=⟨ϖK b.e Ũ,b.l,b.t⟩
def W4(T bs:À Nd)(r:Int):À Nd:=T++bs.map (hgN T.length r)
section
variable{ts bs:À Nd}{c d:F}{r:Int}
def aR:Ì (ĩ r)=ϱK bs.length:=ϴh W4 Ww K1
def C0{k:Nat}(h:ľ):(ĩ r)[k]?=ts[k]?:=Ŷ W4 (K9V h)
def xS{j:Nat}(J:ϵK):(ĩ r)[ϳu]?=Â (ϭG r όt):=by
 delta W4;rw[K9a Ã,Zag,T2,fI J];rfl
def eX{k:Nat}(h:ľ):H6 (ĩ r) k=ķ k:=Ŷ H6 (C0 h)
def kK{j:Nat}(J:ϵK):H6 (ĩ r) ϳu=ϖK (ϥI j) (Ë ts.length):=by rw[cC<|xS J,<-gP J];rfl
def zC{k:Nat}(h:ľ):bN (ĩ r) k=Ϸs k:=Ŷ bN (C0 h)
def zE{j:Nat}(J:ϵK):ϨA (bN (ĩ r) ϳu) όt:=by
 let:bN (ĩ r) ϳu=ϭG r όt:=by
  change ϊ ((ĩ r)[ϳu]?) default=_;rw[xS J];rfl
 rw[this];show(rfl,rfl)
def JA{k:Nat}(h:ts.length<=k)(H:k<Ì (ĩ r)):∃j,ϵK/\k=ϳu:=⟨ϐN,by rw[aR]at H;lia,Ã⟩
def uY(p:ó)(q:ϱi):όF (ĩ 0):=by
 let eq:ĩ 0=ts++wc ts.length bs:=by
  delta W4;apply Xn (ts++·) ?_;let e:=ϹD;cases bs with
  |nil=>rfl
  |cons b r=>
   change ϭG 0 b::r.map (ϭG 0)=ϱR 0 b.l b.t::r.map _;let a:b.e=-1:=q.root;congr 1
   .unfold hgN
    rw[Os Ã]
   apply Ze Ϫc;let(i,hi,rfl):=Zbl M;let:=(e (i+1) r[i] ϐH).2.1 Ã;delta hgN;rw[P3 Ã]
 rw[eq];show(_,Mp p q)
def DK{e:Nat}(q:ϱi):dY (ĩ 0) ts.length e=ĩ ö:=by
 let b:Ϲj 0:=q.pos;let R:ϥI 0=-1:=q.root;apply Y_;ext k;delta dY;by_cases K:ľ
 .rw[K9E Ã,C0 K,C0 K]
 by_cases z:k=ts.length
 .subst z
  let h:=xS (ts:=ts) (r:=ö) b;let H:=ϑB ts b;rw[Zcu]at h H;rw[K9I (î aR),h,H.1,H.2];delta hgN;rw[Os<|by rw[gP b,R];decide]
 rw[K9E Ã];by_cases a:k<ϱK bs.length
 .obtain⟨j,J,rfl⟩:∃j,ϵK/\k=ϳu:=⟨ϐN,Ã,Ã⟩
  rw[xS J,xS J];delta hgN;rcases elt ϹD J with⟨_,w⟩|⟨i,w,_⟩
  .lia
  rw[ϖ5,ϖ5]
 rw[Ye (î aR),Ye<|î aR]
def zI(p:ó)(q:ϱi):aE (ĩ 0) ts.length=ϱK bs.length:=by
 let J:Ϲj 0:=q.pos;delta aE;let:Ì ((ϴA (ĩ 0)<|ϱK 1).takeWhile<|inB ts.length)=bs.length-1:=by
  apply BG _ _ _ (ϰP K8y aR) (λi hi n h=>?_) λn h=>?_
  .rw[K7z,ņ (ϱK 1+i=ϱK (i+1)),xS<|ņ (Ϲj (i+1))]at h
   rw[<-Zh h];delta inB hgN;rcases elt ϹD (ņ<|Ϲj (i+1))with⟨_,w⟩|⟨j,w,_⟩
   .lia
   rw[gP Ã,w,P3 Ã];show W6 (ϸ3<|Ë ts.length<=ą+Ë ts.length)
  let:=ϷW;rw[K8y,aR]at this;lia
 rw[this];lia
def CL(p:ó)(q:ϱi):rest (ĩ 0) ts.length=Ř:=by delta rest;rw[zI p q,aR,K8c];simp
def Nb(p:ó)(q:ϱi){e:Nat}(he:ō):Kx (ĩ 0) ts.length e=Ş e:=by
 let(G,t):=ϥn;let B:ts.length<Ì (ĩ 0):=by rw[aR];let:=q.pos;lia
 let:=zB t B (q:=e)<|Ê he;rw[CL p q]at this;delta Kx;rw[<-this];delta I2;apply K8Z Ϫv;rw[X4]at h;delta Qx;rw[eX h,Ll (ņ<|¬k=ts.length),Zal,Zav]
def Lp(T:À Nd)(e p:Nat):Nat:=ϊ ((ϲI e)[p]?)<|aE T e
def NL(p:ó){e i:Nat}(he:ō):ϤM ϰc:=by
 delta Lp;cases hL:(Ş e)[i]? with
 |none=>show(fG p he).2
 |some L=>
  let:=(bC.mp<|Y4 hL).1;change L<=_;lia
def Vj(p:ó)(q:ϱi){e i:Nat}(he:ō):Ϗt (ĩ 0)=ϰc\/(ϪN (Ϗt (ĩ 0))/\϶U ϰc):=by
 let J:Ϲj 0:=q.pos;delta Lx Lp;rw[Nb p q he];cases hL:(Ş e)[i]? with
 |some L=>show Ê rfl
 |none=>
  change aE _ e=ϱ9\/(_<=aE _ e/\ϱ9=_)
  let(G,t):=ϥn;let f:=fG t (x:=e) (î aR);let B:=fG p he;by_cases z:϶U ϱ9
  .apply Ð ⟨?_,z⟩
   by_cases w:υ (aE (ĩ 0) e)
   .let h:=qU t (x:=e) (î aR) (k:=aE (ĩ 0) e) (î aR)<|Ð õ
    rw[eX w]at h;let a:=zk p he (k:=aE (ĩ 0) e) Ã Ã;let H:=iY p w;lia
   lia
  left;let h:=qU p he (k:=ϱ9) Ã<|Ð õ;let H:=iY p (ņ<|υ ϱ9);rcases Nat.lt_trichotomy (aE (ĩ 0) e) ϱ9 with w|w|w
  .let g1:=qU t (x:=e) (î aR) (k:=aE (ĩ 0) e) (î aR)<|Ð õ
   rw[eX Ã]at g1;let g2:=zk p he (k:=aE (ĩ 0) e) Ã w;let g3:=iY p (ņ<|υ (aE (ĩ 0) e));lia
  .exact w
  let g1:=zk t (x:=e) (î aR) (k:=ϱ9) Ã w;rw[eX Ã]at g1;lia
def ptR(T bs:À Nd)(e i:Nat):Ò:=ń ϧb++Η T.length bs.length++Η ϧb (϶1 ϧb)
def LO(n L:Nat)(h:L<=n):ϴq=range L++List.range' L (n-L):=by rw[K7k,K7k,show Η 0 n=Η 0 (L+(n-L))by congr 1;lia,<-Zai,K83]
def rR(p:ó)(q:ϱi){e i:Nat}(he:ō):Xo (ĩ 0) ts.length e i=ϏT:=by
 delta Xo ptR;rw[CL p q,zI p q,Zag];let l:=NL (i:=i) p he;rw[LO ts.length ϰc l];let key:∀L,(L=ϰc\/(ts.length<=L/\϶U ϰc))->é (ń ϰc++Η ϰc (϶8 ϰc)) (λk=>Ç<|k<L)=ń ϰc/\é (ń ϰc++Η ϰc (϶8 ϰc)) (λk=>Ç<|L<=k)=Η ϰc (϶8 ϰc):=λL h=>by
  apply nv (λu U=>?_) λv H=>?_
  .rw[X4]at U
   lia
  rw[Zaa]at H;lia
 let(K,a):=key _<|Vj (i:=i) p q he;rw[K,a]
end
def hgH(n N:Nat)(h:Ě)(i:Nat):Nat:=Ï (i<n) (h i) (N+(i-n))
def hgC(N:Nat)(ch:Nat->Ò)(bs:À Nd)(q:Nat):Ò:=Ï (q<N) (Ï (q=0) (ch 0++[N]) ŭ) ϬA
def UK:∀{m:Nat},0<m->é ϫk (λk=>Ç<|k=0)=[0]:=fun{m} h=>by
 obtain⟨y,rfl⟩:∃y,m=y+1:=⟨m-1,Ã⟩
 rw[Zbg,Zad Û,ϳn (λk H=>by let(j,_,rfl):=ϵ3;simp)]
section
variable{us ts bs:À Nd}{c d:F}{ch:Nat->Ò}{h:Ě}
def bs0(q:ϱi){j:Nat}(J:ϵK):ϥI j<0↔j=0:=ϒ8
def bsl(q:ϱi){j:Nat}(J:ϵK):ϥI j<Ë bs.length:=ϒ8
def Ss(p:ó)(q:ϱi){i:Nat}(hi:ϲu):I2 (ĩ 0) i=Ï (i=0) (Ş i++[ts.length]) (Ş i):=by
 let b:Ϲj 0:=q.pos;delta I2;rw[aR,Zbi,Zm,Zbk];let e1:é Ř (λj=>Ç<|H6 (ĩ 0) j=ë)=é Ř (λj=>Ç<|ķ j=ë):=K8Z λj J=>ϱl (eX Ϻ5)
 let E:é (ń bs.length) ((λj=>Ç<|H6 (ĩ 0) j=ë)∘λx=>ts.length+x)=Ï (i=0) [0] []:=by
  let:é (ń bs.length) ((λj=>Ç<|H6 (ĩ 0) j=ë)∘λx=>ts.length+x)=é (ń bs.length) (λk=>Ç (k=0)&&Ç (i=0)):=K8Z λj J=>by
   let J:=Ϻ5;change Ç (H6 (ĩ 0) ϳu=ë)=_;rw[kK J];let z:=bs0 q J;by_cases w:j=0
   .rw[Os<|z.mpr w,W6 w,Zak]
    by_cases y:i=0
    .rw[W6 y,W6 Ã]
    rw[Ll y,Ll Ã]
   rw[P3 λy=>w<|z.mp y,Ll w,Zaf];show Ll Ã
  rw[this];by_cases y:i=0
  .rw[Os y,W6 y]
   simp only[Zav];show UK b
  rw[P3 y,Ll y];simp
 rw[e1,E];by_cases y:i=0
 .rw[Os y,Os y]
  rfl
 rw[P3 y,P3 y];show Xf _
def RE(p:ó)(q:ϱi){i:Nat}(hi:i<bs.length):I2 (ĩ 0) ϐO=Ó (Ϲx i) (ts.length+·):=by
 delta I2;rw[aR,Zbi,Zm,Zbk];let e1:é Ř (λj=>Ç<|H6 (ĩ 0) j=Ë (ϐO:Nat))=[]:=List.filter_eq_nil_iff.mpr λj J=>by
  let J:=Ϻ5;let:=iY p J;rw[eX J,Ll Ã];decide
 rw[e1,K9B];apply Xn _<|K8Z Ϲb;let J:=Ϻ5;change Ç (H6 (ĩ 0) ϳu=Ë (ϐO:Nat))=_;rw[kK J];rcases elt ϹD J with⟨w,z⟩|⟨k,w,z⟩
 .rw[w,Os á,Ll (Œ p.pos),Ll Ã]
 rw[w,P3 Ã];by_cases y:k=i
 .rw[W6 Ã,W6 Ã]
 rw[Ll Ã,Ll Ã]
def c8{n N i:Nat}(hi:i<n):hgH n N h i=h i:=Os hi
def iZ{n N j:Nat}:hgH n N h (n+j)=N+j:=ϴh hgH (P3 Ã) Zag
def OO(nm:Ο)(p:ó):ϵc 0:=Œ (nm.lt 0 p.pos)
set_option tactic.hygienic true in
def Lo(nm:Ο)(p:ó)(q:ϱi)(L:ϻR<=200):Nm ϐP (ĩ 0) (Ϲ5 bs) ϳ5:=by
 let(G,P):=ϥn;let J:Ϲj 0:=q.pos;let u:=OO nm p;let t0:=p.pos;let two:∀{i},i<Ì (ĩ 0)->ϲu\/∃j,ϵK/\i=ϳu:=fun{i} hi=>by
  by_cases z:ϲu
  .exact Ê z
  show Ð<|JA Ã hi
 let t:∀{i},i<Ì ϐP->ϑz\/∃j,ϵK/\i=us.length+j:=fun{i} hi=>by
  by_cases z:ϑz
  .exact Ê z
  show Ð<|JA Ã hi
 apply(by rw[aR];show L,Ϥx,aH P,λi j hi l f=>?_,ϸ4,?_,ϸ4,λQ m k=>?_,ϸ4,λi hi Z=>?_,λi j hi Z=>?_)
 .rw[aR]
  rcases t K with z|⟨j,z,rfl⟩
  .rw[eX z]
   let:=nm.eu k z;lia
  rw[kK z];let:=bsl q z;split<;>lia
 .rcases two hi with z|⟨a,z,rfl⟩
  .rcases two l with y|⟨b,y,rfl⟩
   .rw[c8 z,c8 y]at f
    show nm.inj i j z y f
   rw[c8 z,iZ]at f;let:=Ϲi z;lia
  rcases two l with y|⟨b,y,rfl⟩
  .rw[c8 y,iZ]at f
   let:=nm.lt j y;lia
  rw[iZ,iZ]at f;lia
 .rw[aR]
  rcases two hi with z|⟨a,z,rfl⟩
  .rw[c8 z]
   let:=Ϲi z;lia
  rw[iZ];lia
 .rw[c8 t0]
  show nm.root
 .rcases two hi with z|⟨a,z,rfl⟩
  .rw[c8 z,Ss p q z]
   let Z:=Ϲi z;let mp:Ó (Ş i) ϳ5=Ó (Ş i) h:=Ze λk K=>c8 (bC.mp K).1;delta hgC;rw[Os Z];by_cases y:i=0
   .subst y
    rw[nm.root,Č,Č,Wx,mp,L4,Z_];let k0:=nm.kid 0 z;rw[nm.root]at k0;let:ϫs (ϳ5 ts.length):=iZ (j:=0);rw[k0,this]
   let y2:h i≠0:=λw=>y (nm.inj i 0 z t0<|by rw[w,nm.root]);rw[P3 y2,P3 y,mp];show nm.kid i z
  rw[iZ,RE p q z,W5];delta hgC;rw[P3 Ã,Zag];show ϧT iZ.symm
 .rw[bC,aR]
  delta hgC;by_cases H:ϵc Q
  .rw[ϳZ]
   let M:∀k,k∈ch Q↔ϴS/\Ϸ8=Ë Q:=λk=>è (nm.mem Q H k) bC;let key:(k∈ch Q\/(Q=0/\k=us.length))↔k<ϻR/\H6 ϐP k=Ë Q:=by
    constructor
    .rintro(w|⟨e,W⟩)
     .let(e,W):=(M k).mp w
      show(Ã,by rw[eX e];show W)
     subst e W;let:=kK (ts:=us) (r:=0) J;rw[Zcu,Os<|Ψ (bs0 q J) rfl]at this;show(Ã,this)
    ext⟨e,W⟩;rcases t (ϦU aR)with z|⟨j,z,rfl⟩
    .rw[eX z]at W
     show Ê<|Ψ (M k) ⟨z,W⟩
    rw[kK z]at W;let:=bs0 q z;split at W
    .exact Ð ⟨Ã,Ã⟩
    lia
   rw[<-key];by_cases y:Q=0
   .subst y
    rw[Č,P1,Y8];constructor
    .rintro(w|w)
     .exact Ê w
     show Ð ⟨rfl,w⟩
    rintro(w|⟨_,w⟩)
    .exact Ê w
    show Ð w
   rw[P3 y];constructor
   .exact Ê
   rintro(w|⟨w,_⟩)
   .exact w
   show absurd w y
  rw[ϳj];rw[aR]at m;obtain⟨i,rfl⟩:∃i,Q=us.length+i:=⟨Q-us.length,Ã⟩
  rw[Zag,Zc];constructor
  .rintro⟨j,e,rfl⟩
   let(e,W):=bC.mp e;rw[kK e,W,P3 Ã];show(Ã,Ã)
  ext⟨e,W⟩;rcases t (ϦU aR)with z|⟨j,z,rfl⟩
  .rw[eX z]at W
   let:=nm.eu k z;lia
  rw[kK z]at W;apply(j,bC.mpr ⟨z,?_⟩,rfl);split at W<;>lia
 .rcases two hi with z|⟨a,z,rfl⟩
  .rw[c8 z,zC<|Ϲi z,zC z]
   show nm.lab i z
  rw[iZ];let A:=ϑB us z;let g:=ϑB ts z;show(è A.1 g.1.symm,è A.2 g.2.symm)
 .rcases two hi with z|⟨a,z,rfl⟩
  .rw[eX z]at Z
   rw[c8 z,eX<|Ϲi z];show nm.rt i z Z
  rw[kK z]at Z
  split at Z<;>lia
 rcases two hi with z|⟨a,z,rfl⟩
 .rw[eX z]at Z
  let:=iY p z;rw[c8 z,eX<|Ϲi z,c8 Ã];show nm.eld i j z Z
 rw[kK z]at Z;rw[iZ,kK z];split at Z
 .rename_i w
  let:j=0:=Ã
  subst this;rw[Os w,c8 t0,nm.root];rfl
 rename_i w;rw[P3 w];obtain⟨b,B⟩:∃b:Nat,ϥI a=(b:Int):=⟨ē (ϥI a),Ã⟩
 let:j=ts.length+b:=Ã
 subst this;rw[iZ,B];lia
end
def ctU(us:À Nd)(y:Nat):À Nd:=us.set y (Ϧi (-1) (ϫG y))
def Z2(T:À Nd)(x:Nat):À Nd:=reN T ϯK
def ctC(ch:Nat->Ò)(y q:Nat):Ò:=é ŭ λj=>! Ç (j=y)
def ctH(T:À Nd)(h:Ě)(x i:Nat):Nat:=ϵi<|ϯK[i]?
section
variable{us ts:À Nd}{ch:Nat->Ò}{h:Ě}{c:F}{x:Nat}
def jY{y:Nat}:ϫs (Ì (϶J y)):=Ŷ ctU K8z
def B9{y k:Nat}(h:ϴS):(϶J y)[k]?=Â ((Ϧi (Ï (k=y) (-1) Ϸ8) ϵ4)):=by
 delta ctU;by_cases z:y=k
 .subst z
  rw[K9I h,Č]
 rw[K9E z,P3<|K8g z,fI h,<-gP h]
def A9{y k:Nat}(h:ϴS):H6 (϶J y) k=Ï (k=y) (-1) Ϸ8:=cC<|B9 h
def Gg{y k:Nat}(h:ϴS):ϨA (bN (϶J y) k) ϵ4:=ύo B9
def vK(pt:ó)(h:Ċ):(ϰs Ğ):=(p9 pt h).imp Ym
def DN(a:0<x):Ğ=0::ϴA Ğ 1:=by
 delta rest;obtain⟨y,rfl⟩:∃y,x=y+1:=⟨x-1,Ã⟩
 rw[Zbg,y_];rfl
def sr(pt:ó)(h:Ċ):∀k∈Ğ,ķ k=-1\/ϵn (j∈Ğ/\ķ k=ą):=λk K=>by
 let B:=ϰk h;let(H,a):=(ϲd h).mp K;rcases elt Ϸ9 H with⟨w,_⟩|⟨j,w,W⟩
 .exact Ê w
 apply Ð ⟨j,Ψ (ϲd h) ⟨Ã,?_⟩,w⟩;let:=ϥH h H a;lia
def ma(pt:ó)(h:Ċ):Ì ϰo=Ì Ğ:=d6
def Dm(pt:ó)(h:Ċ)(a:0<x):όF ϰo:=by
 let(f,s,g1,g2,g3,g4,g5,g):=mH pt h;let d:=DN (ts:=ts) a;apply Jb (f:=f) (T:=ϴA Ğ 1) g5 (vK pt h) g d ϧj;let nd:=vK pt h;rw[d,Yj]at nd;let K:k∈Ğ:=List.mem_of_mem_drop H;let k0:k≠0:=λz=>nd.1 (by rw[<-z];show H);rcases elt Ϸ9 ((ϲd h).mp K).1 with⟨_,w⟩|⟨j,w,_⟩<;>lia
set_option tactic.hygienic true in
def Rb(nm:Ο)(pt:ó)(H:Ċ)(g:0<x):Nm (϶J<|h x) ϰo (ϭ8<|h x) ϸV:=by
 let n:=vK pt H;let(G,t):=Dm pt H g;let L:=ma pt H;let B:=ϰk H;let at_:∀i,i<Ì ϰo->∃q,Ķ Ğ=Â q/\υ q/\(q<x\/ý<=q)/\ϸV i=h q:=λi hi=>by rw[L]at hi;let M:=(ϲd H).mp<|Zab hi;apply(Ğ[i],ϹH,M.1,M.2,?_);delta ctH;rw[ϹH];rfl
 let nx:∀q,υ q->(q<x\/ý<=q)->h q≠h x:=λq r s w=>Œ (ϤG x r H w)
 apply(Ù jY nm.len,Ϥx,ϹC,λi j hi J l=>?_,ϸ4,?_,ϸ4,λq m k=>?_,ϸ4,λi hi Z=>?_,λi j hi Z=>?_)
 .rw[jY]at K⊢
  rw[A9 K];let:=nm.eu k K;split<;>lia
 .let(q,b,Q,_,a):=ϵX
  let(w,d,W,_,e):=at_ j J;rw[a,e]at l;let:=ϤG w Q W l;subst this;rw[<-uJ n b,uJ n d]
 .let(q,b,Q,_,a):=ϵX
  rw[a,jY];show ϺJ
 .unfold ctH
  rw[DN g];show nm.root
 .let(q,b,Q,o,a):=ϵX
  let e1:Ó (I2 ϰo i) ϸV=(Ó (I2 ϰo i) λj=>Ğ[j]?.getD 0).map h:=ϰd W5
  let E:é Ğ (λk=>Ç<|ķ k=Ë q)=é Ğ ϸZ:=K8Z λk K=>by let:=(ϲd H).mp K;delta Qx;rw[Ll (ņ<|¬k=x),Zal,Zav]
  rw[e1];delta Z2;rw[Cg n (sr pt H) b,E,zB pt H o,a];delta ctC;rw[nm.kid q Q];show pR λk K w=>nm.inj k x (bC.mp K).1 H w
 .rw[jY]at m
  delta ctC;rw[Yg,Ϫ9 m,bC,bC,jY];constructor
  .rintro⟨⟨d,W⟩,e⟩
   let e:k≠h x:=ϳ8
   show(d,by rw[A9 d,P3 e];show W)
  ext⟨d,W⟩;rw[A9 d]at W;split at W
  .lia
  rename_i z;show((d,W),ť z)
 .let(q,b,Q,o,a):=ϵX
  let A:=Ϛn ϺJ;let f:=JM (us:=ts) b;delta Z2;rw[a,A.1,A.2,f.1,f.2];show nm.lab q Q
 .let(q,b,Q,o,a):=ϵX
  delta Z2 at Z;rw[ph b]at Z;rw[a,A9 ϺJ,P3<|nx q Q o];delta gU at Z;rcases elt nm.et Q with⟨w,_⟩|⟨j,w,_⟩
  .exact nm.rt q Q w
  rw[w,P3 Ã]at Z;lia
 let(q,b,Q,o,a):=ϵX;delta Z2 at Z;rw[ph b]at Z;rw[a,A9 ϺJ,P3<|nx q Q o];rcases sr pt H q (Y4 b)with w|⟨w,d,W⟩
 .rw[w]at Z
  delta gU at Z;rw[Os Ã]at Z;lia
 rw[W]at Z;delta gU at Z;rw[P3 Ã,Xz]at Z;let:=gF d;rw[ņ (ϳi Ğ w=j)]at this;let p:ϸV j=h w:=Ϙq this
 rw[p];show nm.eld q w Q W
end
section
variable{ts bs:À Nd}{c d:F}{x e:Nat}
def RD(pt:ó)(l:Ľ)(h:Ċ):ba [Å Ĉ,Å<|nD Ğ]=.ok (Ĩ<|ak ϰo):=by
 delta Z2;rw[si];let B:=ϰk h;apply zX _ (Hz Ϸ9) _ (vK pt h) (by delta rest;rw[Ww,Wu,K93];lia) ϧj;apply(((ϲd h).mp H).1,λb=>?_);rcases sr pt h k H with w|⟨j,W,a⟩
 .lia
 rw[a,Xz];show W
def F8(pt:ó)(a:Ľ)(h:Ċ)(H:0<x):dG [Å Ĉ,Á ĭ]=Ú (chg ϰo Ğ):=by
 delta dG nj;let D:à (Ç (ĭ=0)):=Ll Ã;let be:=xF pt a h;let T:=RD pt a h;let k:=jC Ĉ x (ϷR az);simp![k,D,be,aQ,T,aN];rfl
def Hn(x:υ 0):dG [Å Ĉ,Á 0]=Ϥb:=by
 delta dG nj;let k:=jC Ĉ 0 (by rw[az];show x);let k:bF [Å Ĉ,Á 0]=Ú æ:=k;simp![k,jN,kE,ky]
end
def hgP(T:À Nd)(v:Nat)(x:Nd)(s:À Nd):À Nd:=T++((ϱR ϵ5 x.l x.t):Nd)::ϳ2 (λy=>(⟨y.e+Ë T.length,y.l,y.t⟩:Nd))
def Dx{T:À Nd}{v:Nat}{x:Nd}{s:À Nd}:Ì (ϒn s)=T.length+Ϯs:=by delta hgP;rw[Ww,Xt,K1]
def Ug(d:Gc)(s:À Gc):cutD (d::s) (Â 1) none=s:=by show Aa (d::s) 1 (î Xt)
def Ml(T:À Nd)(v:Nat)(x:Nd):Ō++[ϳv [Á ϵ5,Ô x.l,Á x.t]]=ak (ϒn []):=by delta hgP ak;rw[Wx];rfl
def HZ{ts:À Nd}{v:Nat}{x y:Nd}{s:À Nd}{i:Nat}(h:ϱP=γ):(ak<|ϔV<|s.take i).map OD.sh++[Ă<|ï [Á<|y.e+Ë ts.length,Ô y.l,Á y.t]]=(ak<|ϔV<|s.take<|i+1).map OD.sh:=by rw[take_snoc h];delta hgP ak;simp only[Wx,L4,K9M,y_];rfl
def QK{T:À Nd}{v:Nat}{x:Nd}{s:À Nd}{d:F}(q:PT ϻr d):ϒn s=W4 T ϻr ϵ5:=by
 let G:=ϹD;let a:x.e=-1:=q.root;delta hgP W4;rw[L4];congr 2
 .unfold hgN
  rw[Os Ã]
 apply Ze Ϫc;let(i,hi,rfl):=Zbl M;let:=(G (i+1) s[i] ϐH).2.1 Ã;delta hgN;rw[P3 Ã]
def OI(T bs:À Nd)(e i:Nat):nD (ń ϧb)++nD (Η T.length bs.length)++nD (Η ϧb<|϶1 ϧb)=nD (ptR T bs e i):=by delta ptR nD iL;rw[Wx,Wx,Wx,Wx]
def Qo{T:À Nd}{e:Nat}:Kx T T.length e=ϲI e:=List.filter_eq_self.mpr λk h=>by
 let:=(bC.mp h).1;rw[Ll Ã];rfl
section
variable{ts:À Nd}{c d:F}{e i:Nat}{x:Nd}{xs:À Nd}
def JH(pt:ó)(q:PT ũ d)(H:Ľ)(w:xs.length<=50)(he:ō)(P:i<=Ì (Ş e)):
  cS [Å Ĉ,Á ö,Á ë,Å<|ak ũ]=bO [Å<|ak<|ϻi ũ ö,Å<|nD<|ϸ7 ũ]:=by
 delta cS qB;let ch:=ϒj Ã;let E:(nO<|Ş e).map OD.er=nD (Ş e):=aQ _;let X:=xP (x:=ts.length) (e:=e) (p:=i) pt H he (Ù Qo P);let n:Ϗt ts=ϰc:=by delta Lx Lp;rw[Qo]
 rw[Qo,n]at X;let o:T1 (ak ũ) 0=Â (Zf x):=bW (j:=0) rfl;let ct:cutD (ak ũ) (Â 1) none=ak xs:=Ug _ _;let l:Ĳ (Ì Ĉ+1):=ax (î az);let Q:=Ml ts e x;let lt:Ĳ ts.length:=ax Ã;let t:=NL (i:=i) pt he;let m:Ì (Ϧp xs)=ϱK ϷU:=Dx;let b:Ĳ (ϱK ϷU):=ax Ã;let f:=lr2 ts.length (ϱK ϷU) Ã Ã;rw[ņ (ϱK ϷU-ts.length=ϷU)]at f;let s:=lr2 ϰc ts.length Ã Ã;let C:uh [Á (Ë (ϰc:Nat))]=ĥ nO (ń ϰc):=Jq _ Ã;let u:=OI ts ũ e i;rw[Xt]at u;let B:Ĳ (Ì (nD<|ń ϰc)+Ì (nD<|Η ts.length ϷU)):=ϔU;let a:Ĳ (Ì (nD (ń ϰc)++nD (Η ts.length ϷU))+Ì (nD<|Η ϰc<|϶8 ϰc)):=ax (by rw[Ww,aD,aD,aD,Wu,K93,K93];lia);rw[<-QK q];let loop:∀R,br (Rm 6) (ϯ3<|W8<|gT<|ae (œ (Î F4 6<|eC<|Á 0)<|Ĥ<|Í 0 ai)<|ae (Î F4 6<|eC<|Á 1)<|ī (Î F4 6<|eC<|Á 2)) (ak xs) [É<|Å Ĉ,É<|Á ö,É<|Á ë,É<|Å<|ak ũ,É<|Á (Ë (ϰc:Nat)),some<|Ĩ<|ak<|Ϧp [],none,none]=R->∃v6,R=ü [É<|Å Ĉ,É<|Á ö,É<|Á ë,É<|Å<|ak ũ,É<|Á (Ë (ϰc:Nat)),some<|Ĩ<|ak<|Ϧp xs,v6,none]:=λR h=>by
  apply cD h (λj g=>∃v6:Ö OD,g=[É<|Å Ĉ,É<|Á ö,É<|Á ë,É<|Å<|ak ũ,É<|Á (Ë (ϰc:Nat)),some<|Ĩ<|ak<|Ϧp<|xs.take j,v6,none]) ⟨none,rfl⟩ ?_ ?_
  .rintro j d g hd ⟨v6,rfl⟩
   delta ak at hd;rw[T2]at hd;let(y,Y,rfl):=϶d hd;let hi:=(Za.mp Y).1;let sn:=HZ (ts:=ts) (v:=e) (x:=x) Y;let L:ϴj (Ì (Ϧp<|xs.take j)):=ϳH Dx Zg (dX Ã)
   simp![Zf,az,lt,L,sn];show(_,rfl)
  ext ρ' rfl ⟨v6,rfl⟩;rw[az,K8A];show(_,rfl)
 let k:=jC Ĉ e (Ù az he);generalize hr:bO [Å<|ak<|Ϧp xs,Å<|nD<|ϸ7 ũ]=r;simp![k,ch,E,X,o,Zf,l,ct,Q,aN];generalize h:ϰz=R;let(v6,rfl):=loop R h;simp![aN,az,m,lt,b,f,s,C,aQ,B,a,u,hr];cases r<;>rfl
def MN(a:Ľ)(he:ō)(h:Ì (Ş e)<i){z:Gc}:cS [Å Ĉ,Á ö,Á ë,z]=ϐX:=by
 delta cS qB;let c:=jC Ĉ e (Ù az he);let ch:=ϒj Ã;let cl:=ϫm;let t:=Ag (ts:=ts) (k:=e) (L:=Ş e) a Ã (p:=ë) (Ð Ã);simp![c,ch,aQ,t,kE,ky]
end
section
variable{ts:À Nd}{c:F}{x e p:Nat}
def eK{k:Nat}(H:ľ)(h:ķ k=-1):ϰl k=0:=by
 let n:=fI H;delta X8;rw[CJ n];delta fJ;rw[Os<|ϷR (gP H)];rfl
def eI{k j:Nat}(H:ľ)(h:ķ k=ą)(J:j<k):ϰl k=ϰl j+1:=by
 let n:=fI H;delta X8;rw[CJ n];delta fJ;rw[P3 (by rw[gP H,h];lia),gP H,h,Xz,<-AV,K97 J];rfl
def iN{l:Nat}:l∈X3 ts↔∃k,ľ/\ϰl k=l:=by
 constructor
 .intro h
  let(k,H,e):=Zbl h;rw[cL]at H;apply(k,H,?_);delta X8;rw[Xb (ϻ7 cL),e];rfl
 ext⟨k,H,rfl⟩;delta X8;rw[Xb<|ϻ7 cL];show Zab _
def Ur(pt:ó)(h:Ċ):∀k,x<=k->k<ý->ϰl x<=ϰl k:=by
 ext k
 induction k using Nat.strongRecOn with
 |_ k ih=>
  ext a H;let B:=ϰk h;by_cases z:k=x
  .rw[z]
   show õ
  let hi:=zk pt h (k:=k) Ã H;let lt:=iY pt (k:=k) Ã;obtain⟨j,J⟩:ϵn (ķ k=ą):=⟨ē (ķ k),Ã⟩
  let:=ih j Ã Ã Ã;rw[eI Ã J Ã];lia
def lvM(T:À Nd)(x e q:Nat):Nat:=Ï (x<=q/\q<Ϸb) (ϲe e+1+(ϲe q-ϲe x)) (ϲe q)
def qG(pt:ó)(h:Ċ):϶U (Ì ϰb):=ϴh Y9 d6 (gI pt h)
def Nr(pt:ó)(H:Ċ)(he:ō)(g:e<x\/ý<=e):∀i q,Ķ š=Â q->X8 ϰb i=lvM ts x e q:=by
 let(G,t):=ϩX H he g;let m:=Ϧc pt H;let B:=ϰk H;let b:=όs g;ext i
 induction i using Nat.strongRecOn with
 |_ i ih=>
  ext q Q;let hi:ϲu:=ϰy (ϩq pt H) (ϵe Q)
  let h:υ q:=(dc pt H).mp ϥx;let f:H6 ϰb i=gU š (ϱ2 q):=ϴh Y9 (ph Q) (jE h)
  rcases uF (x:=x) pt he h with w|⟨w,a,W⟩
  .let r:H6 ϰb i=-1:=by rw[f,w];rfl
   rw[eK ώs r];delta Yq at w;by_cases z:q=x
   .rw[Χ]at w
    lia
   rw[Ε]at w;rcases elt Ϸ9 h with⟨_,d⟩|⟨j,v1,V⟩
   .unfold lvM
    rw[P3 Ã,eK h w]
   lia
  let J:=gF<|(ώQ H).mpr a;let r:H6 ϰb i=Ë (ϳi š w:Nat):=by rw[f,W];delta gU;rw[P3 Ã,Xz]
  let lt:=iY t (k:=i) ώs;rw[eI ώs r Ã,ih _ Ã w J];delta Yq at W;by_cases z:q=x
  .rw[Χ]at W
   let:w=e:=Ã
   subst this;delta lvM;rw[P3 Ã,Os Ã,z];lia
  rw[Ε]at W;let l:=iY pt h;let T:=eI h W Ã;by_cases y:x<=q/\q<ý
  .let hi:=zk pt H (k:=q) Ã y.2
   let L:=Ur pt H w Ã Ã;delta lvM;rw[Os Ã,Os y,T];lia
  let hi:=ϥH H h Ã;delta lvM;rw[P3 Ã,P3 y,T]
def Bs(pt:ó)(h:Ċ)(he:ō)(g:e<x\/ý<=e){l:Nat}:l∈X3 ϰb↔∃q,υ q/\lvM ts x e q=l:=by
 let m:=Ϧc pt h;let R:=ϩq pt h;rw[iN];constructor
 .rintro⟨i,h1,h2⟩
  rw[m]at h1;let H:=Xb (show i<Ì š by rw[R];show h1);show(_,(dc pt h).mp Ϸu,ϰy (Nr pt h he g i _ H) h2)
 ext⟨q,h1,h2⟩;let H:=gF<|(ώQ h).mpr h1;show(_,by rw[m,<-R];show ϸX,Ù (Nr pt h he g _ q H) h2)
end
def ptT(T bs:À Nd)(e i:Nat):À Nd:=Y9 (W4 T bs 0) T.length e i
section
variable{ts bs:À Nd}{c d:F}{e i:Nat}
def FV(p:ó){r:Int}:∀k,ľ->X8 (ĩ r) k=ϰl k:=by
 ext k
 induction k using Nat.strongRecOn with
 |_ k ih=>
  ext h;let K:k<Ì (ĩ r):=î aR
  rcases elt (aH p) h with⟨w,_⟩|⟨j,w,J⟩
  .rw[eK h w,eK K ϖ6]
  rw[eI h w J,eI K ϖ6 J,ih j J Ã]
def Nz(p:ó)(q:ϱi):∀j,ϵK->X8 (ĩ 0) ϳu=Ϩo j+1:=by
 ext j
 induction j using Nat.strongRecOn with
 |_ j ih=>
  ext J;let t0:=p.pos;let K:ϳu<Ì (ĩ 0):=î aR
  let e:=kK (ts:=ts) (r:=0) J;rcases elt ϹD J with⟨w,_⟩|⟨k,w,h⟩
  .rw[w,Os á]at e
   rw[eK J w,eI (j:=0) K e Ã,FV p 0 t0,eK t0 p.root]
  rw[w,P3 Ã]at e;rw[eI J w h,eI (j:=ts.length+k) K (by rw[e];lia) Ã,ih k h Ã]
def zx(p:ó)(q:ϱi)(he:ō){l:Nat}:l∈X3 (ϵd bs e i)↔(∃k,ľ/\ϰl k=l)\/∃j,ϵK/\ϰl e+1+Ϩo j=l:=by
 let(G,t):=ϥn;let b:=q.pos;let x:ts.length<Ì (ĩ 0):=î aR
 let L:=Nz p q 0 b;rw[Zcu,eK b q.root]at L;delta ptT;rw[Bs t x (î aR)<|Ê he];let o:∀k,ľ->lvM (ĩ 0) ts.length e k=ϰl k:=λk h=>ϴh lvM (P3 Ã) (FV p k h)
 let hi:∀j,ϵK->lvM (ĩ 0) ts.length e ϳu=ϰl e+1+Ϩo j:=λj J=>by
  delta lvM;rw[Os (î<|zI p q),FV p e he,Nz p q j J,L];lia
 constructor
 .rintro⟨k,h1,h2⟩
  by_cases z:ľ
  .exact Ê ⟨k,z,ϰy (o k z) h2⟩
  let(j,J,rfl):=JA Ã h1;show Ð ⟨j,J,ϰy (hi j J) h2⟩
 rintro(⟨k,h1,h2⟩|⟨j,h1,h2⟩)
 .exact(k,î aR,Ù (o k h1) h2)
 show(ϳu,î aR,Ù (hi j h1) h2)
def CU(p:ó)(q:ϱi)(he:ō):όF (ϵd bs e i):=by let(G,t):=ϥn;let J:=q.pos;show vW t (î aR) (î aR)<|Ê he
def wm(p:ó)(q:ϱi)(he:ō):Ì (ϵd bs e i)=ϱK bs.length/\Ì ϏT=ϱK bs.length:=by
 let(G,t):=ϥn;let J:=q.pos;let h:=gI (x:=ts.length) (e:=e) (p:=i) t (î aR);rw[rR p q he,aR]at h;apply(?_,h);delta ptT Y9;rw[d6,rR p q he,h]
def J8(p:ó)(q:ϱi)(he:ō)(l:ϱK bs.length<=100):ba [Å<|ak<|ĩ ö,Å<|nD ϏT]=.ok (Ĩ<|ak<|ϵd bs e i):=by
 let(G,t):=ϥn;let J:=q.pos;let H:ts.length<Ì (ĩ 0):=î aR
 let A:e<Ì (ĩ 0):=î aR
 delta ptT Y9;rw[si,<-DK q,<-rR p q he];apply zX _ Ϫv _ (rE t H) (ϰP (gI t H) aR) Ϫv
 .rw[bY]at h⊢
  rw[jE h];rcases uF (x:=ts.length) t A h with w|⟨j,W,b⟩<;>lia
 let h:=(dc t H).mp h;apply(ϷR bY,λa=>Ψ (dc t H) ?_);rw[jE h]at a⊢;rcases uF (x:=ts.length) t A h with w|⟨j,W,b⟩<;>lia
end
section
variable{ts:À Nd}{c d:F}{e i:Nat}{x:Nd}{xs:À Nd}
def HP(p:ó)(q:PT ũ d)(a:ϱK (Ì ũ)<=40)(he:ō)(P:i<=Ì (Ş e))(h:ϻ4 ts)(H:∀l∈X3 ũ,ϰl e+1+l<=8):cS [Å Ĉ,Á ö,Á ë,Å<|ak ũ]=Ú (chg (ϵd ũ e i)<|ϸ7 ũ):=by
 let L:Ì ũ=ϷU:=rfl;let(G,t):=ϯ1 p q he;let(b,C):=Ϗj;let t0:=p.pos;show è (JH p q Ã Ã he P) (U8 (us:=ϻi ũ ö) (ts2:=ϵd ũ e i) (R:=ϸ7 ũ) Ã (ϔ9 Ã) ϹC Ã Ã (λl a=>by
  rcases(zx p q he).mp a with⟨k,w,rfl⟩|⟨j,w,rfl⟩
  .exact h _<|ϥt ⟨k,w,rfl⟩
  show H _<|ϥt ⟨j,w,rfl⟩))
def JZ(p:ó)(q:PT ũ d)(a:ϱK (Ì ũ)<=40)(he:ō)(P:i<=Ì (Ş e)){l:Nat}(h:l∈X3 ũ)(H:8<ϰl e+1+l):cS [Å Ĉ,Á ö,Á ë,Å<|ak ũ]=ϩY:=by let L:Ì ũ=ϷU:=rfl;let(G,t):=ϯ1 p q he;let(b,C):=Ϗj;let(j,w,rfl):=iN.mp h;show è (JH p q Ã Ã he P)<|DC Ã (ϔ9 Ã) ϹC Ã (Ψ (zx p q he)<|Ð ⟨j,w,rfl⟩) H
def IT(p:ó)(q:PT ũ d)(a:Ľ)(X:xs.length<=50)(h:40<ϱK (Ì ũ))(he:ō)(H:i<=Ì (Ş e)):cS [Å Ĉ,Á ö,Á ë,Å<|ak ũ]=ϩY:=by let L:Ì ũ=ϷU:=rfl;let(l,C):=Ϗj;show è (JH p q a X he H) (LJ Ã Ã)
end
def gK(e p:Nat)(bs:À Nd):Gc:=ï [Ô "put",Á ö,Á ŝ,Å ϱA]
def oj(x:Nat):Gc:=ï [Ô "cut",Á ĭ]
def KY:à (Ç (ϻz ϩ6)):=ñ
def Kt:à (Ç (ϩ6="unfold")):=ñ
def V9:à (Ç (ϩ6="move")):=ñ
def Ra:à (Ç (ϩ6="cut")):=ñ
def Jz:Ç (ϩ6="put")=true:=ñ
def Jr:à (Ç (ϻz ϩ7)):=ñ
def Ip:à (Ç (ϩ7="unfold")):=ñ
def K7:à (Ç (ϩ7="move")):=ñ
def Km:Ç (ϩ7="cut")=true:=ñ
def UC:à (Ç (ϩ7="put")):=ñ
section
variable{us ts:À Nd}{ch:Nat->Ò}{h:Ě}{c d:F}{fl:å}{x e p k:Nat}
def tJ(nm:Ο)(c:Ľ){i:Nat}(hi:ϲu):bJ [ů,Á (h i:Int)]=Ú (Á (ϰl i:Int)):=by
 delta bJ me;let el:=ύn;simp![el,aN];generalize l:ϤV=r;apply nG l (λm b=>∃a:Nat,m<ts.length/\a+ϰl m=ϰl i/\b=[É ů,É<|Á (h m:Int),É<|Å ϫJ,É<|Á ϱv]) i ⟨0,hi,Ã,rfl⟩
  (λb=>∃v1:Ö OD,b=[É ů,v1,É<|Å ϫJ,É<|Á (ϰl i:Int)]) ?_ ?_
 .rintro j b ⟨a,hj,ha,rfl⟩
  let L:=zY (ts:=us) (k:=h j)<|nm.lt j hj;rcases elt nm.et hj with⟨z,_⟩|⟨w,z,H⟩
  .left
   rw[nm.rt j hj z]at L;rw[eK hj z]at ha;constructor
   .simp![L]
   rw[<-ha];show(_,rfl)
  right;rw[nm.eld j w hj z]at L;let d:Ç (Ë 0<=Ë (h w))=true:=W6 Ã;constructor
  .simp![L,d]
  simp![L];apply(w,H,a+1,Ã,?_,?_)
  .rw[eI hj z H]at ha
   lia
  rfl
 ext ρ' rfl ⟨v1,rfl⟩;simp![S5]
def lW(h:Ě){n i:Nat}(hi:i<n):T1 (nD<|Ó ϴq h) ë=Â (Á (h i:Int)):=bW (om<|ϳB T2 Ϸr)
def yn(n p:Nat)(N M:Int):Int:=Ï (n<p) 3 (Ï (40<N\/8<M) 4 0)
def Ir(nm:ϐQ)(l:ϱs 40)(he:ϒi){z N M:Int}{n:Nat}(H:Ì (é Ϻ2 λq:Nat=>! Ç (Ë q=z))=n):b6 [ů,Á ϶R,Á ŝ,Á N,Á M,Á z]=Ú (Á<|yn n p N<|Ë (ϲe e)+1+M):=by
 delta b6 iB;let kd:=ϙ0 ϮW;let K:T1 [ϲ2 ϳQ,Å ϵD,Å ϴJ] 1=Â (Å ϵD):=rfl;let cl:ϧy (Ì Ϻ2):=ϳH ϮJ K1 (oS T e)
 let lv:=ϐh l he;let c:∀A a t:Ö OD,Ů (ĵ (Î F4 0<|eC<|Á 1) ĉ) (au<|Î Yc 0 ĉ) ù 1 [5] [É ů,É<|Á ϶R,A,a,t,É<|Á z]=ĥ nO (é Ϻ2 λq:Nat=>! Ç (Ë q=z)):=λA a t=>by
  delta Xl;simp![K,kd];generalize u:Ż=rc;let e:=gN u (ϳS<|int (Ë q)) (λq:Nat=>! Ç (Ë q=z)) (ϳS<|Ă<|Á (Ë q)) Ϻ2 ϸE (ν Ã) (by ext q Q;apply(?_,ϵf)<;>simp![S5]);subst e;simp![S5];rw[gE]
 let b:(n<=I6)=True:=ax (Œ<|K8i (λq:Nat=>! Ç (Ë q=z)) Ϻ2);let D:à (Ç (ŝ<0)):=Ll Ã;let d1:Ç (Ũ<ŝ)=Ç (n<p):=Ϩ3 Ã;delta yn;by_cases Z:n<p
 .rw[W6 Z]at d1
  rw[Os Z];simp![D,↓c,aQ,aD,H,b,d1]
 rw[Ll Z]at d1;rw[P3 Z];by_cases y1:40<N
 .rw[Os<|Ê y1]
  simp![D,↓c,aQ,aD,H,b,d1,W6 y1]
 by_cases y:8<Ë (ϲe e)+1+M
 .rw[Os<|Ð y]
  simp![D,↓c,aQ,aD,H,b,d1,Ll y1,lv,W6 y]
 rw[P3 Ã];simp![D,↓c,aQ,aD,H,b,d1,Ll y1,lv,Ll y]
abbrev Nv(T:À Nd)(e p m M:Nat):Int:=yn (Ì (ϲI e)) p (Ë T.length+ϰG)<|Ë (ϲe e)+1+(M:Int)
def Wg(bs:À Nd)(M:Nat):Prop:=M∈Ϸj/\∀l∈Ϸj,l<=M
def Gi(nm:Ο)(H:Ċ):Ë (h x)=0↔x=0:=by
 constructor
 .intro z
  apply nm.inj x 0 H Ã ?_;rw[nm.root];lia
 ext z;rw[z,nm.root];rfl
def Kj(nm:Ο)(pt:ó)(a:Ľ)(H:Ċ):bP [ů,ϸv]=Ú (Á (Ï (x=0) 2 0)):=by
 delta bP fR;let od:=ϺB a fl true;rw[Č]at od;let R:=lW h H;let s:Ca (ï [Ô "cut",Á ĭ]) (Â 1) (Â 2)=Ú (ï [Á ĭ]):=rfl;let d1:à (Ç (ĭ<0)):=Ll Ã;let d2:à (Ç (Ë ts.length<=ĭ)):=Ll Ã;let b:Ĳ ts.length:=ax Ã;let C:∀z:Bool,T1 [int 0,Á 2] (Ï (þ z) 1 0)=Â (Á (Ï (þ z) 2 0)):=λz=>ϭ4 z
 delta oj;by_cases z:x=0
 .let T:Ç (Ë (h x)=0)=true:=W6<|Ψ (Gi nm H) z
  rw[Χ];simp![od,aQ,K7,s,oP,rq,xa,BA,nxK,d1,d2,b,aD,Wu,R,Jr,Ip,Km,T,C]
 let T:à (Ç (Ë (h x)=0)):=Ll λw=>z<|(Gi nm H).mp w;rw[Ε];simp![od,aQ,K7,s,oP,rq,xa,BA,nxK,d1,d2,b,aD,Wu,R,Jr,Ip,Km,T,C]
def MH{bs:À Nd}(nm:Ο)(pt:ó)(q:ϱi)(f:Ľ)(F:bs.length<=40)(he:ō):∃M,Wg bs M/\bP [ů,gK e p bs]=Ú (Á<|Nv ts e p bs.length M):=by
 let J:=q.pos;let nb:=NJ ϹD Ã;let(M,v,x,y):=yQ (L:=0::Ϸj) Û;let R:0∈Ϸj:=ϥt ⟨0,J,eK J q.root⟩;apply(M,(?_,λl f=>y l<|Ā f),?_)
 .rcases W7.mp x with rfl|w
  .exact R
  show w
 delta bP fR;let od:=ϺB f fl true;rw[Č]at od;let re:=lW h he;let D:Ca (ï [Ô "put",Á ö,Á ŝ,Å ϱA]) (Â 1) (Â 2)=Ú (ï [Á ö]):=rfl;let a:T1 [ϻW,Á ö,Á ŝ,Å ϱA] 3=Â (Å ϱA):=rfl;let A:T1 [ϻW,Á ö,Á ŝ,Å ϱA] 2=Â (Á ŝ):=rfl;let d1:à (Ç (ö<0)):=Ll Ã;let d2:à (Ç (Ë ts.length<=ö)):=Ll Ã;let B:Ĳ ts.length:=ax Ã;let b:Ĳ bs.length:=ax Ã;let S:ā aG ((Ë bs.length)):=ϱo Ã;let T:=vV bs ϹD J Ã;let E:=ϒu<|ki _ _;let W:=Ir (fl:=fl) (p:=p) (N:=Ë ts.length+Ë bs.length) (M:=M) (z:=-1) (n:=(Ì (Ş e))) nm f he (by rw[ϷI (λq _=>ϰd (Ll Ã)),ϮJ,K1]);let C:∀g A a t i j m:Ö OD,ϐ1 (Ĥ<|ī (Î F4 1<|eC<|Á 3)) (W8<|Ϧ3<|ϵI b9 (Î F4 1<|eC<|Á 3) ai<|Í 0 ai) 1 [1] [g,É<|ï [Ô "put",Á ö,Á ŝ,Å ϱA],A,a,t,i,j,m]=.ok (Ĩ<|gD Ϸj):=λg A o t i j m=>by
  simp![a,az,b,S];generalize u:Ż=rc
  let e:=fL u (Į<|int<|0+Þ) (λk=>.sh<|Á (Ϩo k:Int)) (ń bs.length) (ϰd Xz) (Ù Wu<|ν Ã) (by
   ext k H;let H:=X4.mp H;let Q:=tJ (fl:=ϲr) nb Ã H;let Q:bJ [Xl bs Ϲx ϲr,Á Þ]=Ú (Á (Ϩo k:Int)):=Q
   simp![K8P,a,T,E,Q])
  subst e;simp![S5];let:Ϸj=Ó (ń bs.length) Ϩo:=by
   apply Y_;ext k;rw[T2];by_cases H:k<bs.length
   .rw[Zs H]
    change _=Â (ϊ (Ϸj[k]?) 0);rw[Xb<|ϻ7 cL];rfl
   rw[Ye (î cL),Ye<|î Wu];rfl
  rw[this];delta gD;rw[W5,W5];rfl
 let r:Ĳ (Ì (gD Ϸj)+1):=ϔD;let s:Ĳ (1+Ì (gD Ϸj)):=ϔD;let ap:int 0::gD Ϸj=gD (0::Ϸj):=rfl;delta gK;simp![od,aQ,V9,D,oP,rq,xa,BA,nxK,d1,d2,B,aD,Wu,re,KY,Kt,Ra,Jz,↓C,aN,r,s,ap,v,A,a,az,b,W]
end
section
variable{ts:À Nd}{c:F}{x e p:Nat}
def Ep(h:Ċ):ζ Ĉ x++[ϳv [Á ö,Ô (Ϸs x).l,Á (Ϸs x).t]]++ϴA Ĉ (x+1)=ak ϲw:=by delta dY ak;rw[List.set_eq_take_append_cons_drop,Os h,Wx,L4,K7d,Zbe,K9M];rfl
def Li(pt:ó)(he:ō):WL ϲw:=λk h=>by rw[bY]at h⊢;rw[jE h];rcases uF (x:=x) pt he h with w|⟨j,W,a⟩<;>lia
def HI(pt:ó)(l:Ľ)(H:Ċ)(he:ō):ba [Å<|ak ϲw,Å<|nD š]=.ok (Ĩ<|ak ϰb):=by
 delta Y9;rw[si];apply zX _ (Li pt he) _ (rE pt H) (î<|gI pt H) Ϫv;let h:=(dc pt H).mp h;apply(ϷR bY,λa=>Ψ (dc pt H) ?_);rw[jE h]at a⊢;rcases uF (x:=x) pt he h with w|⟨j,W,b⟩<;>lia
def ccE(e1:Int)(E:Int)(h:¬(ĭ<=e1/\e1<E))(A p i j m b c a:Ö OD):BU ĉ δ ϰJ [A,É<|Á ĭ,É<|Á e1,p,É<|Á E,i,j,m,b,c,a]=Ú (ß false):=by rw[N_ (x:=.sh<|Á ĭ) (y:=.sh<|Á e1) (z:=.sh<|Á E) rfl ϰS rfl ϰS rfl ϰS,Ll h]
def cmE(h:Ľ)(he:ō)(p t i j m b c a:Ö OD):Ů (Ϫj<|Í 0<|Í 2 ai) (au<|Î Yc 0 ĉ) ù 1 [1] [É<|Å Ĉ,É<|Á ĭ,É<|Á ö,p,t,i,j,m,b,c,a]=ĥ nO Ω:=by
 let cl:=ϫm;let ch:=ϒj Ã;simp![ch,aQ];generalize u:Ż=rc
 let e:=gN u (ϳS<|int (Ë q)) (λq=>! Ç (q=x)) (ϳS<|Ă<|Á (Ë q)) (Ş e) ϸE (ν Ã) (by
  ext q H;let L:Ç (Ë q=ĭ)=Ç (q=x):=by
   by_cases z:q=x
   .subst z;simp
   rw[Ll z,Ll Ã]
  apply(?_,ϵf)
  .simp![L]
  simp![S5])
 subst e;simp![S5];rw[gE];rfl
def Qc{S:Ò}{L:Nat}(r:S.length<=100)(A b c p t i m d a:Ö OD):Ů ϥu (au<|Î gLt 0 ĉ) ù 1 [6] [A,b,c,p,t,i,É<|Á ϫB,m,É<|Å<|nD S,d,a]=ĥ nO (S.filter λk=>Ç<|k<L):=by
 simp![S5];generalize u:Ż=rc
 let e:=gN u (ϳS<|int (Ë q)) (λq=>Ç<|q<L) (ϳS<|Ă<|Á (Ë q)) S ϸE (ν Ã) (by
  ext q h;let E:Ç (Ë q<ϫB)=Ç (q<L):=by
   by_cases z:q<L
   .rw[W6 z,W6 Ã]
   rw[Ll z,Ll Ã]
  apply(?_,ϵf)
  .simp![E]
  simp![S5])
 subst e;simp![S5];rw[gE]
def Vg{S:Ò}{L:Nat}(r:S.length<=100)(A b c p t i m d a:Ö OD):Ů ϥu (au<|Î gGe 0 ĉ) ù 1 [6] [A,b,c,p,t,i,É<|Á ϫB,m,É<|Å<|nD S,d,a]=ĥ nO (S.filter λk=>Ç<|L<=k):=by
 simp![S5];generalize u:Ż=rc
 let e:=gN u (ϳS<|int (Ë q)) (λq=>Ç<|L<=q) (ϳS<|Ă<|Á (Ë q)) S ϸE (ν Ã) (by
  ext q h;let E:Ç (ϫB<=Ë q)=Ç (L<=q):=by
   by_cases z:L<=q
   .rw[W6 z,W6 Ã]
   rw[Ll z,Ll Ã]
  apply(?_,ϵf)
  .simp![E]
  simp![S5])
 subst e;simp![S5];rw[gE]
def UU(H:Ľ)(h:Ċ)(p A i j m b c a:Ö OD):(œ (œ (ϤX ù sU<|mn ĉ)<|bX<|ae (gT<|Í 2<|ae (ĵ (Î F4 0 ĉ)<|eC<|Á 1)<|ae (ĵ (Î F4 0 ĉ)<|eC<|Á 2) ai) ai)<|ϤX ù (mn<|Î bB 1<|eC<|Á 1) sU) [É<|Å Ĉ,É<|Á ĭ,É<|Á ö,p,A,i,j,m,b,c,a]=.ok (Ĩ<|ak ϲw):=by
 let g1:=eQ<|fI h;let tl:=az ts;let c1:=wI Ĉ x;let E:ĭ+1=Ë (x+1:Nat):=Ã
 let K:=Aa Ĉ (x+1) (by rw[tl];lia);let L:Ĳ (Ì (ζ Ĉ x)+1):=ax (î Zg);let C:Ĳ (Ì (ζ Ĉ x++[ϳv [Á ö,Ô (Ϸs x).l,Á (Ϸs x).t]])+Ì (ϴA Ĉ<|x+1)):=ax (by rw[Ww,Zg,K8y,Xt,K8S];lia);let r:=Ep (e:=e) h;simp![g1,Zf,c1,aN,L,E,K,C,r]
end
section
variable{ts:À Nd}{c:F}{x e p:Nat}
def Ms(pt:ó)(l:Ľ)(H:Ċ){A a:Ò}(n:A=é Ğ λk=>Ç<|k<ϳw)(h:a=é Ğ λk=>Ç<|ϳw<=k):
  ϰK++nD (϶l<|ý-x)++nD a=nD š:=by
 subst n h;delta Xo nD iL;rw[Wx,Wx,Wx,Wx]
def LB(pt:ó)(h:Ċ):ϤM (Ì Ğ):=by
 let B:=ϰk h;delta rest;rw[Ww,Wu,K93];lia
def C6(pt:ó)(l:Ľ)(h:Ċ)(he:ō)(O:e<x\/ý<=e)(P:p<=Ì Ω):df [Å Ĉ,Á ĭ,Á ö,Á ŝ]=bO [Å<|ak ϲw,Å<|nD š]:=by
 delta df pK;let B:=ϰk h;let G:=LB pt h;let E:=r9 ts x h;let s:=λd b i j m f A a=>ccE (x:=x) ö (ý:Int) Ã d b i j m f A a;let M:=λb t i j m f A a=>cmE (x:=x) l he b t i j m f A a;let X:=xP (x:=x) pt l he P;let w:=λb t i j m f A a=>UU (e:=e) l h b t i j m f A a;let bs:=xF pt l h;let o:=λd g n b t i m A a=>Qc (S:=Ğ) (L:=ϳw) Ã d g n b t i m A a;let bk:=λd g n b t i m A a=>Vg (S:=Ğ) (L:=ϳw) Ã d g n b t i m A a;let g2:=lr2 x ý Ã Ã;generalize q:é Ğ (λk=>Ç<|k<ϳw)=A at o;generalize H:é Ğ (λk=>Ç<|ϳw<=k)=a at bk;let nm:=Ms (e:=e) (p:=p) pt l h q.symm H.symm;let y:A.length<=Ì Ğ:=ϰy q (K8i _ _)
 let F:a.length<=Ì Ğ:=by rw[<-H];show K8i _ _
 let u:Ĳ (Ì ϰK+Ì (nD<|϶l<|ý-x)):=ax (ϪZ aD aD K93);let v:Ĳ (Ì (ϰK++nD (϶l<|ý-x))+Ì (nD a)):=ax (by rw[Ww,aD,aD,aD,K93];lia);let C:=jC Ĉ x (ϷR az);let K:=jC Ĉ e (Ù az he);generalize hr:bO [Å<|ak ϲw,Å<|nD š]=r;simp![C,K,E,↓s,↓M,aQ,X,↓w,aN,bs,↓o,↓bk,g2,u,v,nm,hr];cases r<;>rfl
def Bm(pt:ó)(a:Ľ)(h:Ċ)(he:ō)(g:e<x\/ý<=e)(H:p<=Ì Ω)(f:ϻ4 ϰb):df [Å Ĉ,Á ĭ,Á ö,Á ŝ]=Ú (chg ϰb š):=by let(G,t):=ϩX h he g;let m:=Ϧc pt h;show è (C6 pt a h he g H)<|U8 (us:=ϲw) (ts2:=ϰb) (R:=š) ϕJ (HI pt a h he) ϹC Ã Ã f
def Bv(pt:ó)(a:Ľ)(h:Ċ)(he:ō)(g:e<x\/ý<=e)(H:p<=Ì Ω){l:Nat}(M:l∈X3 ϰb)(f:8<l):df [Å Ĉ,Á ĭ,Á ö,Á ŝ]=ϩY:=by let(G,t):=ϩX h he g;let m:=Ϧc pt h;show è (C6 pt a h he g H)<|DC (us:=ϲw) (ts2:=ϰb) (R:=š) ϕJ (HI pt a h he) ϹC Ã M f
def Fd(l:Ľ)(h:Ċ)(he:ō)(H:x<=e)(d:e<ý){z:Int}:df [Å Ĉ,Á ĭ,Á ö,Á z]=Ϥb:=by
 delta df pK;let k:=jC Ĉ x (ϷR az);let K:=jC Ĉ e (Ù az he);let E:=r9 ts x h;let s:∀p i j m b c a:Ö OD,BU ĉ δ ϰJ [É<|Å Ĉ,É<|Á ĭ,É<|Á ö,p,É<|Á (ý:Int),i,j,m,b,c,a]=Ú (ß true):=λ_ _ _ _ _ _ _=>by rw[N_ (x:=.sh<|Á ĭ) (y:=.sh<|Á ö) (z:=.sh<|Á (ý:Int)) rfl ϰS rfl ϰS rfl ϰS,W6 Ã]
 simp![k,K,E,↓s,jN,kE,ky]
def Eh(l:Ľ)(H:Ċ)(he:ō)(g:e<x\/ý<=e)(h:Ì Ω<p):df [Å Ĉ,Á ĭ,Á ö,Á ŝ]=ϐX:=by
 delta df pK;let C:=jC Ĉ x (ϻ7 az);let K:=jC Ĉ e (Ù az he);let E:=r9 ts x H;let s:=λd A i j m b c a=>ccE (x:=x) ö (ý:Int) Ã d A i j m b c a;let M:=λA t i j m b c a=>cmE (x:=x) l he A t i j m b c a;let cl:ϤM (Ì Ω):=ϬI ϫm;let B:=Ag (ts:=ts) (k:=e) (L:=Ω) l Ã (p:=ŝ) (Ð Ã);simp![C,K,E,↓s,↓M,aQ,B,kE,ky]
end
def FH(L:Ò):uS (.ol Ϸw)=ϲC Ϸw:=by
 let fa:(Ϸw).all ϶s=true:=by
  delta nO nD iL;rw[K82,K82,K82,K7r];ext x _;change flat (Ă<|int ĭ).er=true;rw[aS];rfl
 change(Ï ((Ϸw).all ϶s=true) (ϧo (Ó Ϸw Ϧv)) È)=_;rw[Os fa];congr 2;delta nO;rw[W5];show Ze λx _=>by change Ă (OD.sh x).er=_;rw[aS]
section
variable{us ts:À Nd}{ch:Nat->Ò}{h:Ě}{c:F}{fl:å}{x:Nat}
def Dh(pt:ó)(H:Ċ):∃s,ϰ8 Ϩ5=϶l (ý-x)/\F.Yv Ş Ϩ5:=by
 let(f,s,g1,g2,g3,g4,_):=mH pt H;let e1:ϰ8 Ϩ5=϶l (ý-x):=by rw[F.pre,F.pre,Xf,g3,DL pt H]
 apply(s,e1,?_);let lt:=iY pt H;let con:=F.CC (e:=ķ) (ķ x) Ϩ5 ⟨rfl,g4,trivial⟩ (Ù e1 Zbt) (λj J=>by
  rw[e1,Zaa]at J
  lia)
 apply F.uv _ Ϥw con;rw[e1,Zaa]at Q;rw[e1];delta I2;rw[G0 pt H,Zm,Zm];let o:∀k∈Ğ,à (Ç (ķ k=Ë q)):=λk h=>by rw[ϲd H]at h;let:=ϥH H h.1 h.2;show Ll Ã
 let U:é Ϥ2 (λj=>Ç<|ķ j=Ë q)=[]:=ϳn (λk h=>ϸ0 (o k<|Ŀ h))
 let O:é (Η ý<|϶8 ý) (λj=>Ç<|ķ j=Ë q)=[]:=ϳn (λk h=>ϸ0 (o k<|Ļ h))
 rw[U,O,K9B,Xf]
def vR(L:Ò)(a:Nat):Yc (Å<|nD<|L++[a]) (Å [])=Ú (ß true):=by
 let h:iL (L++[a])≠[]:=ϩC iL
 delta nD;generalize iL (L++[a])=ns at h;cases ns with
 |nil=>show ϲv h
 |cons x xs=>
  delta Yc;rw[pP];delta pC;rw[eJ (lay_ints ũ) á,ω (ā SeqAt.shaped (Å [])) (eJ ϻ6 á),K7c,Č];rfl
def xB(nm:Ο)(pt:ó)(I:Ľ)(X:Ċ):∃L:Ò,c9 [ů,Á ϱr]=ĥ nO ϤP/\L.Perm (϶l<|ý-x):=by
 let(s,s1,S):=Dh pt X;have E:=ϰk X;refine⟨F.cQ Ϩ5,?_,by rw[<-s1];exact F.mq _⟩;have C:Ϥ6 ϳ4:=F.O0 (ch:=Ş) _ S λk H=>by rw[s1,Zaa]at H;exact όr Ã
 let p:∀k∈ϰ8 ϳ4,ϴS:=λk H=>by rw[F.iF,s1]at H;let(i,hi,rfl):=ϵ3;rw[Zaa]at hi;show Ϲi Ã
 let pl:Ì (ϰ8 ϳ4)<=40:=by rw[F.iF,K1,s1,K93];lia
 rw[<-F.Gb];let D:ϱa (Ì ϴ2<=Ì Ÿ):=by
  ext f
  induction f with
  |nil=>show õ
  |cons k c r ih1 ih2=>
   rw[F.roots,F.pre,Xt,Xt,Ww];lia
 have tl:Ì (F.cQ ϳ4)=Ì (ϰ8 ϳ4):=ϘQ;have rt:F.roots ϳ4=[h x]:=rfl;generalize ϳ4=G at*;unfold c9 lY;simp![S5];generalize n:ϤV=r;refine nG n (λm ρ=>∃(f:F)(o:Ò),Ϥ6 f/\Ì Ÿ=m/\m<=40/\(∀k∈Ÿ,ϴS)/\ϯI=Ϲv/\ρ=[É ů,É<|Á ϱr,Ď ϻE,Ď<|nO ϴ2])
  (Ì (ϰ8 G)) ⟨G,[],C,rfl,pl,p,rfl,ϰd rt⟩
  (λρ=>∃B:Ö OD,ρ=[É ů,É<|Á ϱr,Ď<|nO Ϲv,B]) ?_ ?_
 .rintro m ρ ⟨f,o,hc,hm,hmt,H,ho,rfl⟩
  by_cases b:ϴ2=[]
  .left
   let:=rK b;subst this;rw[F.cQ,Xf]at ho;subst ho;let ge:Yc (Å<|nD []) (Å [])=Ú (ß false):=oR ϻ6;constructor
   .simp![aQ,F.roots,ge]
   show(_,rfl)
  right;let(g,a,d,t,u,R,v,J,w,y):=Iq hc (λz=>b<|ϰd z) H;let ge:=vR ϱe a;let ol:o.length<=100:=by
   let e:=ϱT ho;rw[Ww]at e;lia
  let kd:=Ϫe u;let K:T1 [ϲ2 ϳQ,Å ϵD,Å ϴJ] 1=Â (Å ϵD):=rfl;rw[t];constructor
  .simp![aQ,ge]
  let ap:nD ϱe++ϪW=nD Ϲ7:=ϔq
  let l:Ĳ (Ì (nD ϱe)+Ì ϪW):=by rw[aD,aD];let q:=D<|ϵa d;rw[<-R,Ww]at q;show ax Ã
  let A:T1 (nD ϶6) (-1)=Â (Á ϱv):=by
   let:nD ϶6=nD o++[Á ϱv]:=Ϭp Wx
   rw[this];show sI _ _
  let po:=Bk (ρ:=[É ů,É<|Á ϱr,Ď ϻE,Ď<|nO<|ϱe++[a]]) (i:=2) (j:=3) (xs:=ϻE) (ys:=nO ϱe) (d:=Á ϱv) rfl Ϙj á (Ù nC<|Yf<|dX Ã);simp![↓po,iM];delta Xl;let bk:uS (Ĩ<|nD Ϲ7)=ĥ nO Ϲ7:=FH _;simp![aQ,K,kd,A,l,ap,bk];show(_,Ã,ϵa d,϶6,v,rfl,Ã,w,Ϯk ho,rfl)
 ext ρ' rfl ⟨B,rfl⟩;simp![S5]
end
section
variable{us ts:À Nd}{ch:Nat->Ò}{h:Ě}{c:F}{fl:å}{x e p:Nat}
def Top(T:À Nd)(x M:Nat):Prop:=(∃q,x<=q/\q<Ϸb/\ϲe q=M)/\∀q,x<=q->q<Ϸb->ϲe q<=M
def Ff(nm:ϐQ)(pt:ϹA)(a:ϱs 40)(H:Ϯ7):∃M,Top T x M/\eG [ů,Á ϱr]=Ú (Á<|(M:Int)-Ë (ϲe x)):=by
 let(L,l,C):=Ϙk;let B:=ϰk H;let mem:∀k,k∈L↔x<=k/\k<Ϸb:=λk=>ϰP C.mem_iff Zaa
 let g:ϤJ 40:=ϰP C.length_eq K93
 let ne:L.map ϲe≠[]:=λz=>by let:ϲe x∈L.map ϲe:=ϳP ⟨x,Ψ (mem x) ⟨õ,B.1⟩,rfl⟩;rw[z]at this;cases this
 let(M,f,J,y):=yQ ne;apply(M,(?_,λq b j=>y _<|ϳP ⟨q,Ψ (mem q) ⟨b,j⟩,rfl⟩),?_)
 .let(q,b,j):=Zc.mp J
  let:=(mem q).mp b;show(q,this.1,this.2,j)
 delta eG kQ;let X:=ϐh a H;let m:∀A:Ö OD,Ů (ϑH<|Í 0<|Í 1 ai) cn (W8<|Ϧ3<|Í 1<|Í 0 ai) 1 [0] [É ů,É<|Á ϱr,A]=.ok (Ĩ<|gD<|L.map ϲe):=λA=>by
  simp![l,aQ];generalize u:Ż=rc
  let e:=fL u (ϳS<|int (h q:Int)) (λq=>.sh<|Á (ϲe q:Int)) L (Ϭp W5) (ν Ã) (by
   ext q Q;let Q:=(mem q).mp Q;let d:=ϐh a (i:=q) Ã
   simp![d])
  subst e;simp![S5];delta gD;rw[W5,W5];rfl
 simp![X,↓m,aN,f,fS];rfl
def CQ(nm:Ο)(X:Ċ)(he:ō):Ì (é Ϻ2 λj=>! Ç ϫl)=Ì Ω:=by
 rw[ϮJ,ϓT,K1];rfl
abbrev IE(T:À Nd)(x e p M:Nat):Int:=yn (Ì ϴ6) p (Ë T.length)<|Ë (ϲe e)+1+((M:Int)-Ë (ϲe x))
def GC(nm:ϐQ)(a:ϱs 40)(H:Ϯ7)(he:ϒi){M:Nat}:b6 [ů,Á ϶R,Á ŝ,Á (Ë T.length),Á<|(M:Int)-Ë (ϲe x),Á ϱr]=Ú (Á<|IE T x e p M):=Ir nm a he (by rw[<-CQ nm H he];apply ϱT<|K8Z λq _=>ϫb<|Ϩ3 Ã)
end
def jJ(b:Bool)(k:Nat):Gc:=ï [Ô (if b then "fold" else "unfold"),Á Þ]
def jL(x e p:Nat):Gc:=ï [Ô "move",Á ĭ,Á ö,Á ŝ]
def rB(T:À Nd)(fl:å)(b:Bool)(k:Nat):Bool:=dN T k&&(϶g== !b)
def DU(b:Bool):Int:=Ï ϸi 0 2
def JF:Ç (ϻz Ϯi)=true:=ñ
def Gu:à (Ç (ϻz ϭN)):=ñ
def Mz:Ç (ϭN="unfold")=true:=ñ
def V1:à (Ç (Ϯi="unfold")):=ñ
def U6:à (Ç (Ϯi="move")):=ñ
def Q3:à (Ç (ϭN="move")):=ñ
def EF:à (Ç (ϻz ϩT)):=ñ
def Ek:à (Ç (ϩT="unfold")):=ñ
def Gx:à (Ç (ϩT="cut")):=ñ
def AN:à (Ç (ϩT="put")):=ñ
def FG:Ç (ϩT="move")=true:=ñ
section
variable{us ts:À Nd}{ch:Nat->Ò}{h:Ě}{c:F}{fl:å}{x e p k:Nat}
def HA(L:Ò):Yc (Å ϰ4) (Å [])=Ú (ß<|!L.isEmpty):=by
 rcases List.eq_nil_or_concat L with rfl|⟨l,a,rfl⟩
 .exact oR ϻ6
 rw[List.concat_eq_append,vR];cases l<;>rfl
def wL(nm:Ο)(H:ľ):(!(ϤY).isEmpty)=ϵ1:=by rw[όr H];delta dN;cases I2 ts k<;>rfl
def II(nm:Ο)(pt:ó)(a:Ľ)(H:ľ)(b:Bool):bP [ů,ϧS]=Ú (Á<|DU<|όE ċ):=by
 delta bP fR;let od:=ϺB a fl true;rw[Č]at od;let l:ϵc (h k):=by show nm.lt k H
 let kd:=Ϫe l;let fd:=ϒm l;let d:T1 [ϲ2 ϳQ,Å ϵD,Å ϴJ] 2=Â (Å ϴJ):=rfl;let K:T1 [ϲ2 ϳQ,Å ϵD,Å ϴJ] 1=Â (Å ϵD):=rfl;let r:=lW h H;let S:∀s:Str,Ca (ï [Ô s,Á Þ]) (Â 1) (Â 2)=Ú (ï [Á Þ]):=λs=>rfl;let d1:à (Ç (Þ<0)):=Ll Ã;let d2:à (Ç (Ë ts.length<=Þ)):=Ll Ã;let ne:=HA ϤY;rw[wL nm H]at ne;let B:∀x y:Bool,Xr (ß x) (ß y)=Ú (ß<|x==y):=λx y=>by cases x<;>cases y<;>rfl
 let C:∀z:Bool,T1 [int 2,Á 0] (Ï (þ z) 1 0)=Â (Á (Ï (þ z) 0 2)):=λz=>ϭ4 z
 delta jJ rB DU Xl;delta Xl at od;cases b<;>cases hh:dN ts k<;>rw[hh]at ne<;>simp![od,aQ,U6,Q3,S,oP,rq,xa,BA,nxK,d1,d2,aD,Wu,r,JF,Gu,Mz,K,kd,ne,d,fd,V1,B,C,Zak,Zaf,Zbc,Zal]
def J5(nm:Ο)(pt:ó)(a:Ľ)(H:Ċ)(he:ō):∃M,Top ts x M/\bP [ů,ϴ3]=Ú (Á (Ï (x<=e/\e<ý) 2<|IE ts x e p M)):=by
 let(M,M1,j):=Ff (fl:=fl) nm pt a H;apply(M,M1,?_);let m:ϰl x<=M:=M1.2 x õ (ϰk H).1;let(L,l,C):=Ϙk;let f:=ϰk H;let d:=GC (fl:=fl) (p:=p) (M:=M) nm a H he;delta bP fR;let od:=ϺB a fl true;rw[Č]at od;let R:=lW h H;let re:=lW h he;let s:Ca (ï [Ô "move",Á ĭ,Á ö,Á ŝ]) (Â 1) (Â 3)=Ú (ï [Á ĭ,Á ö]):=rfl;let A:T1 [PyData.str "move",Á ĭ,Á ö,Á ŝ] 3=Â (Á ŝ):=rfl;let d1:à (Ç (ĭ<0)):=Ll Ã;let d2:à (Ç (Ë ts.length<=ĭ)):=Ll Ã;let d3:à (Ç (ö<0)):=Ll Ã;let d4:à (Ç (Ë ts.length<=ö)):=Ll Ã;let b:Ĳ ts.length:=ax Ã;let B:ϵP (Á ϶R) (Å<|nD ϤP)=Ú (ß<|Ç<|Ë (h e)∈iL ϤP):=ϐY ϶R<|iL ϤP;let im:(Ë (h e)∈iL ϤP)↔x<=e/\e<ý:=by
  rw[kh,Zc];constructor
  .rintro⟨q,q1,q2⟩
   rw[C.mem_iff,Zaa]at q1;let:=ϤG e Ã he q2;lia
  ext z;show(e,ϰP C.mem_iff Zaa,rfl)
 let Z:Ë (h x)=0↔x=0:=by
  constructor
  .intro z
   apply nm.inj x 0 H Ã ?_;rw[nm.root];lia
  ext z;rw[z,nm.root];rfl
 delta jL;by_cases z:x=0
 .let T:Ç (Ë (h x)=0)=true:=W6<|Z.mpr z
  let g:x<=e/\e<ý:=by
   apply(Ã,?_);by_cases w:e<ý
   .exact w
   let:=όs (x:=x) (Ð Ã);lia
  rw[Os g];simp![od,aQ,FG,s,oP,rq,xa,BA,nxK,d1,d2,d3,d4,b,aD,Wu,R,re,EF,Ek,Gx,AN,T]
 let T:à (Ç (Ë (h x)=0)):=Ll λw=>z<|Z.mp w;by_cases g:x<=e/\e<ý
 .let i:=B
  rw[W6<|im.mpr g]at i;rw[Os g];simp![od,aQ,FG,s,oP,rq,xa,BA,nxK,d1,d2,d3,d4,b,aD,Wu,R,re,EF,Ek,Gx,AN,T,l,i]
 let i:=B;rw[Ll λw=>g<|im.mp w]at i;rw[P3 g];simp![od,aQ,FG,s,oP,rq,xa,BA,nxK,d1,d2,d3,d4,b,aD,Wu,R,re,EF,Ek,Gx,AN,T,l,i,j,A,d]
end
section
variable{ts:À Nd}{g:Int}{fl:å}{an:Gc}{k:Nat}
def Dj(l:ϪN 100)(h:ľ):dR [Å Ĉ,Å<|nD ϰX,Á Þ]=Ï (þ (϶g|| ! ϵ1)) Ϥb (Ú æ):=by
 delta dR lJ;let c:=jC Ĉ k (ϷR az);let ch:=iW ts k h l;let m:=GG (fl:=fl) h false;let d:Ç (Ë ((Ì (Ş k)))=0)=! ϵ1:=by
  delta dN;cases I2 ts k with|nil=>rfl|cons a r=>show Ll (î Xt)
 cases h1:fl k with
 |true=>rw[h1]at m;simp![c,m,jN,kE,ky];rfl
 |false=>
  rw[h1]at m;cases h2:dN ts k<;>rw[h2]at d
  .simp![c,m,ch,aQ,aD,d,Zal,jN,kE,ky]
   rfl
  simp![c,m,ch,aQ,aD,d,Zbc];rfl
def Hl(h:ľ):cT [Å Ĉ,Å<|nD ϰX,Á Þ]=Ï ϧi (Ú æ) Ϥb:=by
 delta cT jH;let c:=jC Ĉ k (ϷR az);let m:=GG (fl:=fl) h true;cases h1:fl k<;>rw[h1]at m
 .simp![c,m,jN,kE,ky]
 simp![c,m]
def CG(a:ϪN 100):dF [Å Ĉ]=Ú (ï [Å Ĉ,Å<|nD Ř]):=by
 delta dF nT;let l:uh [Á (Ë ts.length)]=ĥ nO Ř:=Jq _ Ã;simp![az,l,aQ]
def oT{a:Ix}{r:L3.Env}:ϰr đ "tree" (some (Λ ş)::r)=Ú (Å Ĉ):=OC rfl
def oF{a:Ix}{r:L3.Env}:ϰr đ "folds" (some (Λ ş)::r)=Ú (Å<|nD ϰX):=Mn rfl
def sJ{ts2:À Nd}{fl2:å}{R L:Ò}(K:À Int)(he:ϵr)(A:EL ts2)(H:Ľ)(h:Ϧn)(u:Ϭ5)(l:é (ń ts2.length) (Į<|Ç (Ë ((ŷ (R[k]?)))∈ϰL)&&dN ts2 k)=Ϫf):
  ∀(a:Ix)(r:L3.Env)(al:Fa)(y:À OD),al (some (Λ ş)::r)=χ->ϴQ=[ϸ6,Å ϰ4,Å ϺF]->ϥL al (some (Λ ş)::r)=ü (some (Λ<|ϵJ fl2<|Å<|nD ϨU)::r):=by
 exactλ_ _ _ _ ha hy=>yy rfl kZ ha (hy▸Ec he A H h g fl fl2 an u L l K)
def zO{ts2:À Nd}{fl2:å}{R:Ò}(u:Ϭ5)(f:∀j q,R[j]?=Â q->fl2 j=(Ç (υ q)&&ϻF&&dN ts2 j)):é (ń ts2.length) (Į<|Ç (Ë ((ŷ (R[k]?)))∈iL ϰX)&&dN ts2 k)=Ϫf:=by
 apply K8Z Ϲb;obtain⟨q,h⟩:∃q,R[j]?=Â q:=⟨_,Xb<|show Ϥs by rw[u];show Ϻ5⟩
 rw[f j _ h,h,Zac];apply Xn (· &&_) ?_;by_cases z:υ q
 .rw[Bw z,W6 z,Zak]
 rw[Ll z,Zaf,Ll];ext m;rw[kh]at m;show z<|X4.mp (Yg.mp m).1
end
section
variable{ts:À Nd}{c d:F}{e i x p:Nat}{b:Nd}{bs:À Nd}{g:Int}{fl fl2:å}{an:Gc}
def Mm(pt:ó)(q:PT ű d)(k:ϱK (Ì ű)<=40)(he:ō)(p:i<=Ì (Ş e))(h:ϻ4 ts)(H:∀l∈X3 ű,ϰl e+1+l<=8)(F:∀j q,(ϸ7 ű)[j]?=Â q->fl2 j=(Ç (υ q)&&ϻF&&dN (ϵd ű e i) j)):
  aW 4 eR (Ő ş) [Á ö,Á ë,Å<|ak ű] (Ő<|Ϗl (ϵd ű e i)<|Å<|nD<|Ϻ6 fl (ϵd ű e i) fl2 (ϸ7 ű) [ö],ı æ):=by
 let(G,t):=ϯ1 pt q he;let(L,C):=wm (i:=i) pt q he;let S:=ϨP [ö] Ϸ9 ϹC Ã Ã (by rw[L,C])<|zO (by rw[L,C]) F;apply(rfl,ϱw);delta eR;change∃f,ϫK [some<|Λ ş,É<|Á ö,É<|Á ë,É<|Å<|ak ű]=ò (f,ı æ)/\_;let pi:xG _=_:=wR<|HP pt q k he p h H;rw[dH,ϥp _ [.sh<|chg (ϵd ű e i)<|ϸ7 ű,.sh<|Å<|nD ϰX,ϻd (Á ö)] (by simp![↓oT,↓oF,pi]) rfl];show(_,rfl,rfl)
def N9(p:ó)(h:Ċ):υ (Ì ϰo):=by
 let B:=fG p h;rw[ma p h];delta rest;rw[Ww,Wu,K93];lia
def K6(pt:ó)(l:Ľ)(h:Ċ)(H:0<x)(f:∀j q,Ğ[j]?=Â q->fl2 j=(Ç (υ q)&&ϻF&&dN ϰo j)):
  aW 2 eT (Ő ş) [Á ĭ] (Ő<|Ϗl ϰo<|Å<|nD<|Ϻ6 fl ϰo fl2 Ğ [ķ x],ı æ):=by
 let(G,t):=Dm pt h H;let L:=N9 pt h;let S:=ϨP [ķ x] Ϸ9 ϹC l Ã (ma pt h).symm<|zO (ma pt h).symm f;apply(rfl,ϱw);delta eT;change ϴG [some<|Λ ş,É<|Á ĭ] (ı æ);let pi:wZ _=_:=wR<|F8 pt l h H;let g1:=eQ<|fI h;rw[gP h]at g1;rw[dH,ϥp _ [.sh<|chg ϰo Ğ,.sh<|Å<|nD ϰX,ϻd (Á<|ķ x)] (ϖO pi) rfl];show(_,rfl,rfl)
def Ii(pt:ó)(H:Ľ)(h:Ċ)(he:ō)(o:e<x\/ý<=e)(P:p<=Ì Ω)(f:ϻ4 ϰb)(F:∀j q,š[j]?=Â q->fl2 j=(Ç (υ q)&&ϻF&&dN ϰb j)):
  aW 4 dP (Ő ş) [Á ĭ,Á ö,Á ŝ] (Ő<|Ϗl ϰb<|Å<|nD<|Ϻ6 fl ϰb fl2 š [ķ x,ö],ı æ):=by
 let m:=Ϧc pt h;let R:=ϩq pt h;let(G,t):=ϩX h he o;let S:=ϨP [ķ x,ö] Ϸ9 ϹC H Ã (by rw[m,R])<|zO (by rw[m,R]) F;apply(rfl,ϱw);delta dP;change ϴG [some<|Λ ş,É<|Á ĭ,É<|Á ö,É<|Á ŝ] (ı æ);let mo:AJ _=_:=wR<|Bm pt H h he o P f;let g1:=eQ<|fI h;rw[gP h]at g1;rw[dH,ϥp _ [.sh<|chg ϰb š,.sh<|Å<|nD ϰX,.ol [.sh<|Á<|ķ x,.sh<|Á ö]] (ϖO mo) rfl];show(_,rfl,rfl)
end
section
variable{ts:À Nd}{g:Int}{fl:å}{an:Gc}{k v:Nat}
def xx{L:Ò}{fl2:å}(h:é Ř (Į<|Ç (Þ∈ϰL)&&ϵ1)=Y3 ts fl2):é Ř (Į<|Ç (Ë ((ŷ (Ř[k]?)))∈ϰL)&&ϵ1)=Y3 ts fl2:=by
 rw[<-h];apply K8Z Ϲb;rw[Zs Ϻ5];rfl
def NK:ϤM (Ì ϰX):=ϴF (K8i fl Ř) Wu
def HV(he:ϵr)(l:Ľ)(f:ϯJ)(h:ľ)(d:à ϶g)(H:ϵ1=true):
  aW 2 dS (Ő ş) [Á Þ] (Ő<|ϵM (ϵQ true)<|Å<|nD<|Ϻ6 fl ts (ϵQ true) Ř [Þ],ı æ):=by
 let L:=IY f h true (λ_=>H) (ϰX++[k]) (λj J=>by
  rw[K8j,Yz,kh,P1,Y8];delta Y3 cO;rw[Yg,X4];by_cases z:j=k
  .rw[Χ];simp[z]
  rw[Ε];simp[z,J])
 let S:=ϨP [Þ] he he l l Wu<|xx L;apply(rfl,ϱw);delta dS;change ϴG [some<|Λ ş,É<|Á Þ] (ı æ);let c:qS _=_:=wR (è (Dj (fl:=fl) Ã h)<|by rw[d,H];rfl);let un:=CG (ts:=ts) Ã;let B:Ĳ (Ì (nD ϰX)+1):=ax (by rw[aD];let:=NK (ts:=ts) (fl:=fl);lia);let ad:nD ϰX++[int Þ]=nD (ϰX++[k]):=Ϭp Wx
 let S:=S a [É<|Á Þ] (ϵI dF (ϰr đ "tree") ai<|ae (œ (ϰr đ "folds")<|bX<|Í 1 ai)<|ī (bX<|Í 1 ai)) [.sh<|chg ts Ř,Ĩ<|nD<|ϰX++[k],ϻd (Á Þ)] (by simp![↓oT,↓oF,un,B,ad];rfl) (by rw[L4,L4,L4,aS,eP,aN];rfl);simp![dH,eY,tP,↓oT,↓oF,c,↓S];show(_,rfl,rfl)
def BB(he:ϵr)(l:Ľ)(f:ϯJ)(h:ľ)(H:ϧi):
  aW 2 cR (Ő ş) [Á Þ] (Ő<|ϵM (ϵQ false)<|Å<|nD<|Ϻ6 fl ts (ϵQ false) Ř [Þ],ı æ):=by
 let d:=IY f h false ϶t (é ϰX λj=>! Ç (j=k)) (λj J=>by
  rw[K8j,Yz,kh,Yg];delta Y3 cO;rw[Yg,X4];by_cases z:j=k
  .rw[Χ];simp[z]
  rw[Ε];simp[z,J])
 let S:=ϨP [Þ] he he l l Wu<|xx d;apply(rfl,ϱw);delta cR;change ϴG [some<|Λ ş,É<|Á Þ] (ı æ);let c:oG _=_:=wR<|è (Hl (fl:=fl) h) ϳZ;let un:=CG (ts:=ts) Ã;let m:Ů (ϰr đ "folds") (au<|Î Yc 0 ĉ) ù 1 [1] [some<|Λ ş,É<|Á Þ]=ĥ nO (é ϰX λj=>! Ç (j=k)):=by
  simp![↓oF];generalize u:Ż=rc
  let e:=gN u (ϳS<|int (Ë q)) (λq=>! Ç (q=k)) (ϳS<|Ă<|Á (Ë q)) ϰX ϸE (ν<|Œ (NK (ts:=ts) (fl:=fl))) (by
   ext q Q;let L:Ç (Ë q=Þ)=Ç (q=k):=by
    by_cases z:q=k
    .subst z;simp
    rw[Ll z,Ll Ã]
   apply(?_,ϵf)
   .simp![L]
   simp![S5])
  subst e;simp![S5];rw[gE]
 let S:=S a [É<|Á Þ] (ϵI dF (ϰr đ "tree") ai<|ae (Ů (ϰr đ "folds") (au<|Î Yc 0 ĉ) ù 1 [1])<|ī (bX<|Í 1 ai)) [.sh<|chg ts Ř,.ol<|nO<|é ϰX λj=>! Ç (j=k),ϻd (Á Þ)] (by simp![↓oT,↓m,un];rfl) (by rw[L4,L4,eP,aQ];rfl);simp![dH,eY,tP,↓oT,↓oF,c,↓S];show(_,rfl,rfl)
end
section
variable{ts:À Nd}{g:Int}{fl:å}{an:Gc}{k v:Nat}{e i x:Nat}{bs:À Nd}
abbrev aI1:Fa:=ī (Î F4 1<|eC<|Á 1)
abbrev aI3:Fa:=ae (Î F4 1<|eC<|Á 1)<|ae (Î F4 1<|eC<|Á 2)<|ī (Î F4 1<|eC<|Á 3)
abbrev oE(d:À ϱf):OD:=Ő d
section
variable{m:Str}{n:Nat}{b:Fb}{al:Fa}{ds ds2:À ϱf}{xs:À Gc}
abbrev noF(m:Str)(d:À ϱf):Prop:=ϥi (d.map ϲh)
def mP(M:noF m ds)(S:Ϲz (oE ds) xs (Ϸi,ı æ))(al:Fa){a:Ix}{r:L3.Env}(A:al (some (Λ ds)::r)=ò (xs.map OD.sh)):eF "Easel" m n 0 b al (some (Λ ds)::r)=ü (some (Λ ds2)::r):=yy rfl M A (ϐW aN)
def B7{e i:Nat}{bs:À Nd}(M:noF "put" ds)(S:aW 4 eR (oE ds) [Á ö,Á ë,Å ϱA] (Ϸi,ı æ)):Ϻx bE [ϵN] (Ϸi,ı æ):=by
 apply(rfl,ϱw);delta bE;change ϴG [some<|Λ ds,É<|ï [Ô "put",Á ö,Á ë,Å ϱA]] (ı æ);let m:=ϩW aI3 (r:=[É<|ï [Ô "put",Á ö,Á ë,Å ϱA]]) ϗG;simp![dH,eY,tP,KY,Kt,Ra,Jz,↓m];show(_,rfl,rfl)
def BY{x:Nat}(M:noF "cut" ds)(S:Ϻx eT [Á ĭ] (Ϸi,ı æ)):Ϻx bE [ϸv] (Ϸi,ı æ):=by
 apply(rfl,ϱw);delta bE;change ϴG [some<|Λ ds,É<|ï [Ô "cut",Á ĭ]] (ı æ);let m:=ϩW aI1 (r:=[É<|ï [Ô "cut",Á ĭ]]) ϻ3;simp![dH,eY,tP,Jr,Ip,Km,↓m];show(_,rfl,rfl)
def An{v:Nat}(M:noF "fold" ds)(S:Ϻx dS [Á ϵ5] (Ϸi,ı æ)):Ϻx bE [jJ true v] (Ϸi,ı æ):=by
 apply(rfl,ϱw);delta bE;change ϴG [some<|Λ ds,É<|ï [Ô "fold",Á ϵ5]] (ı æ);let m:=ϩW aI1 (r:=[É<|ï [Ô "fold",Á ϵ5]]) ϻ3;simp![dH,eY,tP,JF,↓m];show(_,rfl,rfl)
def BX{v:Nat}(M:noF "unfold" ds)(S:Ϻx cR [Á ϵ5] (Ϸi,ı æ)):Ϻx bE [jJ false v] (Ϸi,ı æ):=by
 apply(rfl,ϱw);delta bE;change ϴG [some<|Λ ds,É<|ï [Ô "unfold",Á ϵ5]] (ı æ);let m:=ϩW aI1 (r:=[É<|ï [Ô "unfold",Á ϵ5]]) ϻ3;simp![dH,eY,tP,Gu,Mz,↓m];show(_,rfl,rfl)
def Cy{x e p:Nat}(M:noF "move" ds)(S:aW 4 dP (oE ds) [Á ĭ,Á ö,Á ŝ] (Ϸi,ı æ)):Ϻx bE [ϴ3] (Ϸi,ı æ):=by
 apply(rfl,ϱw);delta bE;change ϴG [some<|Λ ds,É<|ï [Ô "move",Á ĭ,Á ö,Á ŝ]] (ı æ);let m:=ϩW aI3 (r:=[É<|ï [Ô "move",Á ĭ,Á ö,Á ŝ]]) ϗG;simp![dH,eY,tP,EF,Ek,Gx,AN,↓m];show(_,rfl,rfl)
def pO(S:aW 2 bE (Ő ds) [d] (Ő ds2,ı æ)):ϫC (Ő ds) [d] (Ő ds2,.sh<|Á 0):=by
 apply(rfl,ϱw);delta aO;change∃c,ϫK [some<|Λ ds,Â Ē,none,none]=.ok (c,.sh<|Á 0)/\_;let m:=xH (n:=2) (i:=0) (b:=bE) (al:=Í 1 ai) (p:=ϸg) (nm:="Easel") (ρ:=[some<|Λ ds,Â Ē,none,none]) rfl (ys:=Ó [d] OD.sh) ϻ3 (y:=ı æ) (ds':=ds2) (ϐW aN);let r:A_ (ϕr<|Í 1 ai) [some<|Λ ds,Â Ē,none,none]=ü [some<|Λ ds2,Â Ē,none,none]:=by delta A_;rw[m];rfl
 simp![dH,eY,rH,↓r];show(_,rfl,rfl)
end
def uT{m:Str}{f:Fn}{al:Fa}{r:L3.Env}(M:noF m ş):dM (λnm=>ϵL nm [("Easel",f)]) m ù al (É ř::r)=X6 (λs=>f<|ř::ϱI) (al<|É ř::r):=by
 let e:uM m ř=none:=M;let H:jI ř=Â ϱc:=rfl;let:ϵL ϱc [(ϱc,f)]=some f:=ϰd K9X
 delta dM;change ã (R.ok _) _=_;rw[aF,aS];simp only[H,e,this];cases al _<;>rfl
section
variable{z j p:Int}{d:Gc}{r:č}
def zF(h:cS [Å Ĉ,Á z,Á j,d]=r):bQ [ř,ï [Ô "put",Á z,Á j,d]]=ϱE (λ_=>È):=by
 delta bQ iy;let e:gG [ř,Á z,Á j,d]=ϱE (λ_=>È):=by delta gG mZ;let H:jI ř=Â ϱc:=rfl;simp![↓uT kZ,ve,zH,rJ,n_,H,h];cases r<;>rfl
 let I:T1 [ϻW,Á z,Á j,d] 3=ϰH:=rfl;simp![KY,Kt,Ra,Jz,↓uT (m:="put") (vm Û),I,e];cases r<;>rfl
def Jk{Z:Int}{d1 d2:Gc}(h:dG [Å Ĉ,Á z]=r)(j:T1 Ĉ z=Â (ï [Á Z,d1,d2])):bQ [ř,ï [Ô "cut",Á z]]=ϱE (λ_=>È):=by
 delta bQ iy;let e:gC [ř,Á z]=ϱE (λ_=>È):=by delta gC nH;let H:jI ř=Â ϱc:=rfl;simp![↓uT kZ,ve,zH,rJ,n_,H,h,j];cases r<;>rfl
 simp![Jr,Ip,Km,↓uT (m:="cut") (vm Û),e];cases r<;>rfl
def zj{Z:Int}{d1 d2:Gc}(h:df [Å Ĉ,Á z,Á j,Á p]=r)(t:T1 Ĉ z=Â (ï [Á Z,d1,d2])):bQ [ř,ï [Ô "move",Á z,Á j,Á p]]=ϱE (λ_=>È):=by
 delta bQ iy;let e:fq [ř,Á z,Á j,Á p]=ϱE (λ_=>È):=by delta fq lU;let H:jI ř=Â ϱc:=rfl;simp![↓uT kZ,ve,zH,rJ,n_,H,h,t];cases r<;>rfl
 let I:T1 [PyData.str "move",Á z,Á j,Á p] 3=Â (Á p):=rfl;simp![EF,Ek,Gx,AN,↓uT (m:="move") (vm Û),I,e];cases r<;>rfl
def xdo(a:Ľ)(j:ϯJ)(h:ľ)(b:Bool):bQ [ř,ϧS]=Ï (όE fl=true) È Ϥb:=by
 delta rB jJ bQ iy;let H:jI ř=Â ϱc:=rfl;cases b with
 |true=>
  let x:=Dj (fl:=fl) Ã h;let e:fj [ř,Á Þ]=ã (Ï (þ (϶g|| ! ϵ1)) Ϥb (Ú æ):č) λ_=>È:=by delta fj l_;simp![ve,zH,rJ,n_,H,x];cases fl k<;>cases dN ts k<;>rfl
  change Ť 2 _ [ř,ï [Ô "fold",Á Þ]]=_;simp![JF,↓uT (m:="fold") (vm Û),e];cases fl k<;>cases dN ts k<;>rfl
 |false=>
  let x:=Hl (fl:=fl) h;let e:dJ [ř,Á Þ]=ã (Ï ϧi (Ú æ) Ϥb:č) λ_=>È:=by delta dJ jF;simp![ve,zH,rJ,n_,H,x];cases fl k<;>rfl
  change Ť 2 _ [ř,ï [Ô "unfold",Á Þ]]=_;simp![Gu,Mz,↓uT (m:="unfold") (vm Û),e];cases h1:fl k
  .cases dN ts k<;>rfl
  rw[j k h h1];rfl
end
def pT{e d:Gc}{c:Str}{w:Int}(x:bQ [e,d]=ϵo)(h:ϐc ((ϸC ϩx (Ë 2)))=some w):aM [e,d]=Ú (Á w):=by
 delta aM jR;let r:qC bQ (Í 0<|Í 1 ai) (ϸC "NoDeed" 2) [Â ϹF,Â Ē,none,none]=ϤS sh (Á w):=by
  let A:(Í 0<|Í 1 ai) [Â ϹF,Â Ē,none,none]=ò [ϹF,Ē]:=ϻ3
  delta qC;rw[A,aF,L4,L4,Z_,aS,aS,x];change(match ϐc ((ϸC ϩx (Ë 2)))with
   |some b=>R.ok<|Out.rt<|Ă<|Á b
   |none=>È)=_
  rw[h]
 simp![↓r]
def vQ{e d:Gc}(x:bQ [e,d]=È):aM [e,d]=È:=by
 delta aM jR;let r:qC bQ (Í 0<|Í 1 ai) (ϸC "NoDeed" 2) [Â ϹF,Â Ē,none,none]=È:=by
  let A:(Í 0<|Í 1 ai) [Â ϹF,Â Ē,none,none]=ò [ϹF,Ē]:=ϻ3
  delta qC;rw[A,aF,L4,L4,Z_,aS,aS,x]
 simp![↓r];rfl
end
def Qa:∀s:À Gc,Zv ϩV=Ϸh:=by
 ext y
 induction y with|nil=>show rfl|cons d s Y2=>rw[L4,Zv,Y2]
def QG{fl:å}{n k:Nat}(H:k<n)(b:Bool):ϋ (Y5 fl n) k (ß b)=Y5 (ϵQ b) n:=by
 delta Y5;let e:PyData.bool b=(λj=>Ϫy<|ϵQ b j) k:=by
  change _=Ϫy (ϵQ b k);delta cO;rw[Č]
 rw[e];apply iG (λq=>Ϫy ϻF) (λj=>Ϫy<|ϵQ b j) n k ϪF;change Ϫy (ϵQ b q)=ß ϻF;delta cO;rw[P3 h]
def Io(h:Ŋ=Â (Â<|ϵl xs))(A:Ϯh)(hr:Ϲz ϲD Ϧo (.ol xs',y)):ϦM ρ=.ok (ł<|Â<|ϵl xs',y):=by
 delta pA;rw[h];change ã (al ρ) (λys=>ã (ϤW ϲD Ϧo) λr=>.ok (ł<|Â<|u7 (ϵl xs) r.1,r.2))=_;rw[A,aF,tF hr];rfl
def rmC(ch:Nat->Ò)(x d q:Nat):Ò:=Ï (q=d) (é ŭ (λj=>! Ç (j=x))) ŭ
def inC(ch:Nat->Ò)(x e p q:Nat):Ò:=Ï (q=e) (ϫ5 ŭ) ŭ
def Ck{ch ch2:Nat->Ò}{n k:Nat}(h:∀q,q≠k->ch2 q=ŭ):ϋ ϫj k (.ol<|nO<|ch2 k)=Wv n ch2:=by delta Wv;show iG (ϲp ŭ) (ϲp<|ch2 q) n k λq H=>ϱl (h q H)
def kd_len(n:Nat)(ch:Nat->Ò):Ì ϫj=n:=ϴh Wv K1 Wu
def JB{n k:Nat}{ch:Nat->Ò}(h:k<n):ϫj[k]?=Ď (nO<|ch k):=϶A Wv T2 (Zs h)
def Ib{L:Ò}(nd:L.Nodup)(m:Nat):Ó ((ϰL).erase ϰG) (λz=>Ă<|Á z)=nO (L.filter λj=>! Ç (j=m)):=by
 let n:(ϰs ϰL):=by delta iL;show List.Pairwise.map _ (λa b h z=>h Ã) nd
 rw[n.erase_eq_filter];delta iL nO nD iL;rw[Zbk,W5,W5,W5];apply Ϭ6 _<|K8Z λk _=>?_;change(Þ !=ϰG)=_;by_cases z:k=m
 .subst z;simp
 rw[Ll z];simp;lia
def Vd(L:Ò):Ϸw=Ó ϰL λm=>Ă (Á m):=by delta nO nD;rw[W5];rfl
def Jn(L:Ò)(p x:Nat):ζ Ϸw p++Ă (Á ĭ)::ϴA Ϸw p=nO (L.take p++x::L.drop p):=by delta nO nD iL;rw[Wx,L4,Wx,L4,Wx,L4,K7d,K7d,K7d,Zbe,Zbe,Zbe]
def GA(L:Ò):Xr (Å ϰ4) (Å [])=Ú (ß L.isEmpty):=by
 cases L with|nil=>show Iy ϻ6|cons a r=>show MJ (n:=1) (ϰy (L4 (f:=int))<|lay_ints<|ϱv::iL r) á
section
variable{us ts:À Nd}{ch:Nat->Ò}{h:Ě}{fl:å}{c:F}{x e p d v:Nat}
abbrev plS(a:Ix)(us:À Nd)(s:À OD)(fl:å):OD:=ϵl [Ĩ ϳQ,ϳf,Ĩ ϴJ]
def xA{a:Ix}{s:À OD}(k:ϱI=ϵD):(ϳA s fl).er=ů:=by rw[N6,<-tZ fl k];delta stK;rw[eP]
def iK(v:Ö OD)(r:L3.Env):L3.erase (v::r)=(v.map λx=>Ă x.er)::L3.erase r:=rfl
def F6{a:Ix}{ks:À OD}{b:Bool}{k e:Fe}{r:L3.Env}(H:v<us.length)(h:k (Â (ϳA ks fl)::r)=Ú (Á ϵ5))(he:e (Â (ϳA ks fl)::r)=Ú (ß b)):rz 0 2 k e (Â (ϳA ks fl)::r)=ü (Â (ϳA ks<|cO fl v b)::r):=by
 let x:Xx (Ì ϴJ) ϵ5=ă:=gh (by delta Y5;rw[K1,Wu];show H);delta rz;rw[he,aF];simp only[Zbb,Zap,Qa,h,aF,aS,x,Zcn,Zco,QG H]
def F7{a:Ix}{s k:À OD}{D:Gc}{od:À Gc}{z w:Int}(tk:aW 3 bS (ϰq s fl) [Á z] (ϰq k fl,.sh<|Á w))(x4 x5 b X:Ö OD):ϖH (Í 3 ai) [Â<|ϳA s fl,Â ϲa,É<|Å od,É<|Á z,x4,x5,b,X]=ü [Â<|ϳA k fl,Â ϲa,É<|Å od,É<|Á z,x4,x5,É<|Á w,X]:=
 OL (r:=(_,_)) (Io (ys:=Ó [Á z] OD.sh) rfl ϻ3<|Ù aN tk)
def fl2(ch:Nat->Ò)(fl:å)(d:Nat):å:=Ï (þ (ch d).isEmpty) (cO fl d false) fl
def AX{a:Ix}{x1 x2 x3 x4 x5:Ö OD}{y:OD}(h:d<us.length):jQ 7 (X5 (tM<|au<|Φ (ĵ (Î F4 0<|eC<|Á 1) ϥA) ϲF) (ϓG<|eC<|ß false) Wz) [Â<|ϳA (ū ch) fl,x1,x2,x3,x4,x5,É<|Á ϶4,γ]=ü [some<|ϳA (ū ch)<|fl2 ch fl d,x1,x2,x3,x4,x5,É<|Á ϶4,É y.er]:=by
 let E:=Ϛy Ϻg;let kd:=nB (n:=us.length) (ch:=ch) h;let g1:F4 ů (Á 1)=Ú (Å ϵD):=rfl;let ge:=GA<|ch d;delta fl2;by_cases z:þ (ch d).isEmpty
 .rw[z]at ge
  let M:=F6 (ks:=ū ch) (a:=a) (fl:=fl) (k:=ϥA) (e:=eC<|ß false) (r:=[x1,x2,x3,x4,x5,É<|Á ϶4,É y.er]) h rfl rfl;rw[Χ];simp![iK,Zae,E,g1,kd,ge,↓M]
 rw[Zbx]at z;rw[z]at ge;rw[P3<|ϸ0 z];simp![iK,Zae,E,g1,kd,ge]
def SO(nm:Ο)(H:ϷX):(ch<|h d).Nodup:=Ù (nm.kid d H) (ϩa<|Ϙ7<|K7j _ K89)
def xQ(nm:Ο)(f:Ľ)(X:Ċ)(D:ϷX)(he:ķ x=϶4):aW 3 bS (ϰq (ū ch) fl) [Á ϱr] (ϰq (ū ϲR) fl,.sh<|Á ϧk):=by
 apply(rfl,ϱw);delta bS;let e:=ϨD Ϻg;let el:=ύn;let H:ϵc (h x):=nm.lt x X;let u:ϵc (h d):=nm.lt d D;let L:=zY (ts:=us) H;rw[Ϯj he]at L;let M:h x∈ch (h d):=(nm.mem (h d) u<|h x).mpr<|bC.mpr ⟨H,Ϯj he⟩;change ϴG [Â<|ϳA (ū ch) fl,É<|Á ϱr,none] _;let r:=Pa (i:=0) (c:=1) (k:=δ) (a:=ĉ) (ρ:=[Â<|ϳA (ū ch) fl,É<|Á ϱr,É<|Á ϧk]) (l:=a) (ys:=ū ch) (kz:=.sh<|Á ϧk) (q:=ϧk) (j:=h d) (ns:=iL<|ch<|h d) (y:=.sh<|Á ϱr) (m:=ϱr) rfl rfl rfl ϰS (gh ύZ) (ϲK (JB u) Vd) rfl ϰS<|kh.mpr M;rw[Ib<|SO nm D]at r;let rc:ϲR (h d)=é (ch<|h d) (λj=>! Ç ϫl):=Č;let s:=Ck (n:=us.length) (ch:=ch) (ch2:=ϲR) (k:=h d) λq Q=>P3 Q;rw[rc]at s;rw[s]at r;simp![dH,eY,rH,e,el,aN,L,↓r];show(_,rfl,rfl)
def U1(nm:Ο)(X:Ċ)(D:ϷX)(he:ķ x=϶4):ū ϲR=ū (ϭ8<|h x):=by
 delta Wv;apply Ze λq H=>?_;let H:=X4.mp H;delta rmC ctC;by_cases z:q=h d
 .rw[Χ]
 rw[Ε,ϷI Ϥx];let:=(bC.mp<|(Ϫ9 H k).mp K).2;let E:=Ϯj he;rw[Ll λw=>by rw[w,E]at this;lia];rfl
def Us{s:À OD}{y:Nat}:ϰq s fl=stK (϶J y) s fl:=by
 let:c_ (϶J y)=ϳQ:=by
  delta c_;apply Y_;ext k;rw[T2,T2];by_cases h:ϴS
  .rw[B9 h,fI h]
   rfl
  rw[Ye (î jY),Ye Ã]
 delta stK;rw[this,jY]
def D4(nm:Ο)(pt:ó)(l:Ľ)(H:v<ts.length)(b:Bool):ϧL (ϰq (ū ch) fl) [jJ b v] (ϰq (ū ch)<|cO fl (h v) b,ϻd (Á (h v:Int))):=by
 apply(rfl,ϱw);delta aT;let od:=ϺB l fl true;rw[Č]at od;let g:=lW h H;let bk:=FH<|Ó Ř h;let E:=ϨD Ϻg;let u:ϵc (h v):=nm.lt v H;change∃d,ϫK [Â<|ϳA (ū ch) fl,É<|jJ b v,none,none,none,none,none,none]=ò (d,_)/\_;let M:=λ(s:Str)(b:Bool)(B:decide (s="fold")=b)(x2:Option OD)=>F6 (ks:=ū ch) (a:=a) (fl:=fl) (b:=b) (k:=ϰ2) (e:=Φ (Î F4 1<|eC<|Á 0)<|eC<|Ô "fold") (r:=[É<|ï [Ô s,Á ϵ5],x2,É<|Á (h v:Int),none,none,none,none]) u rfl (by simp![B]);delta jJ;cases b with|true=>have s1:=M "fold" true JF;simp![dH,eY,Ah,rH,E,od,bk,aQ,g,JF,↓s1];show(_,rfl,rfl)|false=>have s1:=M "unfold" false Gu;simp![dH,eY,Ah,rH,E,od,bk,aQ,g,Gu,Mz,↓s1];show(_,rfl,rfl)
def FI(nm:Ο)(pt:ó)(L:Ľ)(X:Ċ)(he:ō)(g:ϷX)(E:ķ x=϶4)(P:p<=Ì (ϲR<|h e))(Q:Ì (ϲR<|h e)<=40):ϧL (ϰq (ū ch) fl) [ϴ3] (ϰq (ū<|ϩn ϲR)<|ϥS inC ϲR,.sh<|Å [Á ϧk,Á ϶R]):=by
 apply(rfl,ϱw);delta aT;let od:=ϺB L fl true;rw[Č]at od;let R:=lW h X;let re:=lW h he;let bk:=FH<|Ó Ř h;let r:=ϨD Ϻg;let U:ϵc (h d):=nm.lt d g;let u:ϵc (h e):=ϮW;let tk:=xQ (fl:=fl) nm L X g E;generalize ϲR=ch1 at*;generalize H:ϩn ch1=ch2;change∃f,ϫK [Â<|ϳA (ū ch) fl,É ϴ3,none,none,none,none,none,none]=ò (f,_)/\_;let t:F4 ϴ3 (Á 0)=Ú (Ô "move"):=rfl;let d1:F4 ϴ3 (Á 1)=Ú (Á ĭ):=rfl;let d2:F4 ϴ3 (Á 2)=Ú (Á ö):=rfl;let d3:F4 ϴ3 (Á 3)=Ú (Á ŝ):=rfl;generalize o:nD (Ó Ř h)=od2 at*;let T:=F7 (a:=a) (D:=ϴ3) (od:=od2) tk;let I:ϩn ch1 (h e)=ζ (ch1<|h e) p++h x::ϴA (ch1<|h e) p:=Č;let s:=Ck (n:=us.length) (ch:=ch1) (ch2:=ch2) (k:=h e) (λq Q=>by rw[<-H];show P3 Q);rw[<-H,I]at s;rw[H]at s;let ins:=λ(x4 x5 v w:Option OD)=>Ik (i:=0) (c:=1) (k:=Î F4 2<|Î F4 1<|eC<|Á 2) (p:=Î F4 1<|eC<|Á 3) (a:=ϰ2) (ρ:=[Â<|ϳA (ū ch1) fl,É ϴ3,É<|Å od2,É<|Á ϱr,x4,x5,v,w]) (l:=a) (ys:=ū ch1) (zs:=nO<|ch1<|h e) (kz:=.sh<|Á ϶R) (pz:=.sh<|Á ŝ) (y:=.sh<|Á ϱr) (q:=϶R) (m:=ŝ) (j:=h e) rfl rfl (by simp![d2,re]) ϰS (gh ύZ) (JB u) (by simp![d3]) ϰS (î nC) rfl;rw[Xz,aS,Jn,s]at ins;let b:ϴj (ϱF 1):=dX á;let N:=λ(x1 x2 x3 x4 x5:Option OD)(y:OD)=>ϒB ch2 U;simp![dH,eY,Ah,rH,r,od,bk,aQ,o,t,d1,d2,R,EF,Ek,AN,↓T,FG,↓ins,re,b,↓N];show(_,rfl,rfl)
def GR(nm:Ο)(pt:ó)(l:Ľ)(X:Ċ)(H:ϷX)(e:ķ x=϶4):ϧL (ϰq (ū ch) fl) [ϸv] (stK (϶J<|h x) (Wv (Ì (϶J<|h x))<|ϭ8<|h x) ϻK,.sh<|Å [Á ϧk]):=by
 apply(rfl,ϱw);rw[jY,<-U1 nm X H e,<-Us];delta aT;let od:=ϺB l fl true;rw[Č]at od;let R:=lW h X;let bk:=FH<|Ó Ř h;let r:=ϨD Ϻg;let tk:=xQ (fl:=fl) nm l X H e;let z:ϻK=fl2 ϲR fl (h d):=by delta fl2 rmC ctC;rw[Č]
 rw[z];generalize ϲR=ch1 at*;change ϴG [Â<|ϳA (ū ch) fl,É ϸv,none,none,none,none,none,none] _;let f:F4 ϸv (Á 0)=Ú (Ô "cut"):=rfl;let d1:F4 ϸv (Á 1)=Ú (Á ĭ):=rfl;generalize o:nD (Ó Ř h)=od2 at*;let T:=F7 (a:=a) (D:=ϸv) (od:=od2) tk;let E:=λ(x1 x2 x3 x4 x5:Option OD)(y:OD)=>ϒB ch1<|nm.lt d H;simp![dH,eY,Ah,rH,r,od,bk,aQ,o,f,d1,R,Jr,Ip,UC,↓T,K7,↓E];show(_,rfl,rfl)
end
section
variable{a:Ix}{A B C:À OD}{d1 d2 d3 d4 mo:Gc}{ds:À Gc}
def xP0(h:F4 mo (Á 0)=Ú (Å ds))(l:ϩL A.length):rZ 0 0 (Î F4 5<|eC<|Á 0) [Â ϨM,É d1,É d2,É d3,É d4,É mo,none,none]=ü [Â<|ϵl [.ol<|A++϶C,.ol B,.ol C],É d1,É d2,É d3,É d4,É mo,none,none]:=ϰd (Ij (y:=.sh<|Å ds) rfl rfl (by simp![h]) ϰS l)
def xP2(h:F4 mo (Á 2)=Ú (Å ds))(l:ϩL C.length):rZ 0 2 (Î F4 5<|eC<|Á 2) [Â ϨM,É d1,É d2,É d3,É d4,É mo,none,none]=ü [Â<|ϵl [.ol A,.ol B,.ol<|C++϶C],É d1,É d2,É d3,É d4,É mo,none,none]:=ϰd (Ij (y:=.sh<|Å ds) rfl rfl (by simp![h]) ϰS l)
def xP1{m N:Nat}{k:Nat->Ò}(h:F4 mo (Á 1)=Ú (Å<|fV m k))(d:d4=Á (N:Int))(M:m<=1000)(K:∀q,q<m->Ì (k q)<=1000)(l:B.length+m<=I6):wU 0 1 (Ů (Î F4 5<|eC<|Á 1) cn (Ů ù cn (Î bB 1 ù) 1 [1]) 1 [4]) [Â ϨM,É d1,É d2,É d3,É d4,É mo,none,none]=ü [Â (ϵl [.ol A,.ol (B++Ó ϫk (ϲp (Ó (k q) Ϩg))),.ol C]),É d1,É d2,É d3,É d4,É mo,none,none]:=by
 subst d;let c1:Ů (Î F4 5<|eC<|Á 1) cn (Ů ù cn (Î bB 1 ù) 1 [1]) 1 [4] [Â ϨM,É d1,É d2,É d3,É<|Á (N:Int),É mo,none,none]=ϲC (Ó ϫk (ϲp (Ó (k q) Ϩg))):=by
  simp![h];generalize u:Ż=rc
  let e:=fL u (ϳS<|ϲ2<|nD<|k q) (ϳS<|ϤK (Ó (k q) Ϩg)) ϫk rfl (Ù Wu<|Yf<|ax M) (by
   ext q H;let H:=K q<|X4.mp H;simp![S5];generalize u:Ż=rc
   let e:=fL u (ϸw<|int ą) (ϸw<|Ă<|Á (Ë (N+j:Nat))) (k q) ϸE (Yf<|ax H) (by
    ext j _;let E:(N:Int)+ą=Ë (N+j:Nat):=Ã
    simp![E])
   subst e;simp![S5];delta nO nD iL;rw[W5,W5,W5];rfl)
  subst e;simp![S5]
 rw[O7 rfl rfl c1<|Ϯv K1 Wu];rfl
def xPI{v n:Int}{j i:Nat}{zs:À OD}(H:F4 d1 (Á 2)=Ú (Á ë))(h:d3=Á v)(e:d4=Á n)(g:Xx B.length v=ϰR)(l:B[j]?=Â ϪR)(hi:i<=zs.length)(Z:zs.length<1000000):wX 0 1 ϰ2 (Î F4 1<|eC<|Á 2) ϰJ [Â ϨM,É d1,É d2,É d3,É d4,É mo,none,none]=ü [Â<|ϵl [.ol A,.ol<|B.set j<|.ol<|zs.take i++ı (Á n)::zs.drop i,.ol C],É d1,É d2,É d3,É d4,É mo,none,none]:=by
 subst h e;rw[Ik (kz:=.sh<|Á v) (pz:=.sh<|Á ë) (y:=.sh<|Á n) (q:=v) (m:=ë) (j:=j) (zs:=zs) rfl rfl rfl ϰS g l (by simp![H]) ϰS ⟨Ã,Ã,Z⟩ rfl,aS,Xz];rfl
end
section
variable{fl:å}{us ts bs:À Nd}{ch:Nat->Ò}{h:Ě}{c d:F}{e i:Nat}
def ptC(N:Nat)(ch:Nat->Ò)(bs:À Nd)(y i q:Nat):Ò:=Ï (q=y) (ζ ŭ i++N::ϴA ŭ i) (Ï (q<N) ŭ ϬA)
def To{N y i:Nat}(Y:y<N):(ϋ (Wv N ch++Ó (ń bs.length) (ϲp (Ó (Ϲx q) Ϩg))) y<|.ol<|ζ (nO<|ch y) i++ı (Á (N:Int))::ϴA (nO<|ch y) i)=Wv Ϗ3 (ptC N ch bs y i):=by
 rw[Jn];let e1:Wv N ch++Ó (ń bs.length) (ϲp<|Ó (Ϲx q) Ϩg)=Wv Ϗ3 (λq=>Ï (q<N) ŭ ϬA):=by
  delta Wv;rw[Zbi,Wx,W5];congr 1
  .apply Ze ϪF
   change _=ϤK (Ï (q<N) _ _);rw[Os ϯ2]
  apply ϑy;change _=ϤK (Ï (N+q<N) _<|(Ϲx<|N+q-N).map Ϩg);rw[P3 Ã,Zag]
 rw[e1];let:=Ck (n:=Ϗ3) (ch:=λq=>Ï (q<N) ŭ ϬA) (ch2:=ptC N ch bs y i) (k:=y) (λq h=>Ŷ ptC (P3 h));rw[<-this];congr 3;delta ptC;rw[Č]
def R9(nm:Ο)(q:ϱi){y:Nat}(Y:y<us.length):Wv ϻR (ptC us.length ch bs y i)=Wv ϻR (ϐ5 (Ϲ5 bs) y i):=by
 let l:∀q,ϵc q->é (Ϲ5 bs q) (λj=>! Ç ϏN)=ŭ:=λq Q=>by
  let f:é ŭ (λj=>! Ç ϏN)=ŭ:=List.filter_eq_self.mpr λk H=>by
   let:=(bC.mp<|(Ϫ9 Q k).mp H).1;rw[Ll Ã];rfl
  delta hgC;rw[Os Q];by_cases z:q=0
  .rw[Χ,Zm,<-z,f,ϳn (λk H=>ϱZ (Y8.mp H)),Xf]
  rw[Ε,f]
 delta Wv;apply Ze ϧj;let H:=X4.mp H;delta ptC mvC;by_cases z:k=y
 .rw[Χ,Χ,l k Ã]
 rw[Ε,Ε];by_cases w:ϴS
 .rw[Os w,l k w]
 rw[P3 w];delta hgC;rw[P3 w,ϷI Ϲb];let(b,B,rfl):=Zc.mp J;let(b1,b2):=bC.mp B;let:=bs0 q b1;rw[Ll Ã];rfl
def Rv{y:Nat}(q:ϱi):c_ (ϥN y)=ϳQ++c_ bs:=by rw[DK q];delta W4 c_;rw[Wx,W5];rfl
def flP(N:Nat)(fl:å)(q:Nat):Bool:=Ç (q<N)&&ϻF
def fgP(fl:å)(n m:Nat):Ó (Y5 fl n) OD.sh++Ó (Y5 ϲr m) OD.sh=(Y5 (flP n fl)<|n+m).map OD.sh:=by
 delta Y5;rw[Zbi,Wx,Wx,W5,W5,W5,W5];apply congr (Xn _<|Ze Ϫv) ?_
 .change Ă (ß ϶g)=Ă (ß<|Ç (k<n)&&϶g)
  rw[W6 ϯ2,Zak]
 rw[W5];apply ϧT ?_;change Ă (ß false)=Ă (ß<|Ç (n+k<n)&&fl (n+k));rw[Ll Ã,Zaf]
def GY(nm:Ο)(pt:ó)(q:ϱi)(k:Ľ)(x:bs.length<=40)(U:ϻR<=200)(he:ō)(hi:i<=Ì (Ş e)):ϧL (ϰq (ū ch) fl) [ϵN] (stK (ϥN<|h e) (Wv (Ì (ϥN<|h e))<|ϐ5 (Ϲ5 bs) (h e) i) ϬR,ϻd (Á ϶R)):=by
 apply(rfl,ϱw);let u:=ϮW;let J:=q.pos;let cl:Ì Ϻ2=Ì (Ş e):=ϲK ϮJ K1
 let L:=ϫm;delta aT;let od:=ϺB k fl true;rw[Č]at od;let re:=lW h he;let bk:=FH<|Ó Ř h;let r:=ϨD Ϻg;let k0:F4 ů (Á 0)=Ú (Å ϳQ):=rfl;let t:Ĳ (Ì ϳQ):=Ù pF (ax Ã)
 let p:=pF us;let g:F4 ϵN (Á 0)=Ú (Ô "put"):=rfl;let d1:F4 ϵN (Á 1)=Ú (Á ö):=rfl;let D:F4 ϵN (Á 2)=Ú (Á ë):=rfl;let d3:F4 ϵN (Á 3)=Ú (Å ϱA):=rfl;let T:=vV bs ϹD J Ã;let E:=ϒu<|ki _ _;generalize s:stK bs (Wv bs.length Ϲx) ϲr=so at T E;generalize m:Xl bs Ϲx ϲr=mo at E;let m0:F4 mo (Á 0)=Ú (Å<|c_ bs):=ϏO
 let M:F4 mo (Á 1)=Ú (Å<|fV bs.length Ϲx):=ϏO
 let w:F4 mo (Á 2)=Ú (Å<|Y5 ϲr bs.length):=ϏO
 let l:ϫs (Ì (Ó ϴJ OD.sh)):=by delta Y5;rw[K1,K1,Wu]
 let F:Ì (Y5 ϲr bs.length)=bs.length:=ϴh Y5 K1 Wu
 let x0:=λ(B C:List OD)(d2 d3 d4:Gc)=>xP0 (a:=a) (A:=Ó ϳQ OD.sh) (B:=B) (C:=C) (d1:=ϵN) (d2:=d2) (d3:=d3) (d4:=d4) m0 (by rw[K1,pF,pF];show ν Ã);let x1:=λ(A C:List OD)(d2 d3:Gc)=>xP1 (a:=a) (A:=A) (B:=ū ch) (C:=C) (d1:=ϵN) (d2:=d2) (d3:=d3) (d4:=Á (Ë us.length)) (N:=us.length) M rfl Ã (λq _=>Œ (oS bs q)) (Ù kd_len<|ν Ã);let x2:=λ(A B:List OD)(d2 d3 d4:Gc)=>xP2 (a:=a) (A:=A) (B:=B) (C:=Ó ϴJ OD.sh) (d1:=ϵN) (d2:=d2) (d3:=d3) (d4:=d4) w (by rw[l,F];show ν Ã);let x3:=λ(A C:List OD)(d2:Gc)=>xPI (a:=a) (A:=A) (B:=ū ch++Ó (ń bs.length) (ϲp (Ó (Ϲx q) (us.length+·)))) (C:=C) (d1:=ϵN) (d2:=d2) (d3:=Á ϶R) (d4:=Á (Ë us.length)) (mo:=mo) (v:=϶R) (n:=(Ë us.length)) (j:=h e) (zs:=nO Ϻ2) D rfl rfl (gh<|ϰP Ww kd_len) (Ù (K9V ύZ)<|JB u) (î nC) (î nC);rw[To (N:=us.length) u,R9 nm q u]at x3;change ϴG [Â<|ϵl [Ĩ ϳQ,.ol<|ū ch,Ĩ ϴJ],É ϵN,none,none,none,none,none,none] _;let fin:(Ó ϳQ OD.sh++Ó (c_ bs) OD.sh)=(c_<|ϥN<|h e).map OD.sh:=ϲK (Rv q) Wx
 let S:Ì (ϥN<|h e)=ϻR:=ϲK bY aR
 let f:=fgP fl us.length bs.length;rw[fin]at x0;rw[f]at x2;delta stK;rw[S];generalize o:nD (Ó Ř h)=od2 at*;generalize Wv ϻR (ϐ5 (Ϲ5 bs) (h e) i)=K2 at*;generalize H:(c_<|ϥN<|h e).map OD.sh=A2 at*;simp![dH,eY,Ah,rH,r,od,bk,aQ,o,re,g,d1,KY,Kt,Jz,k0,t,p,d3,T,E,↓x0,↓x1,↓x2,↓x3];show(_,rfl,rfl)
end
structure Sm(us ts:À Nd)(ch:Nat->Ò)(h:Ě)(fl:å)(c:F):Prop where
 nm:Ο
 pt:ó
 l:Ľ
 f:OkF ts ċ
 v:ϻ4 ts
 b:϶n ts
section
variable{us ts Z0 ts2 bs:À Nd}{ch ch2:Nat->Ò}{h h2:Ě}{fl F2:å}{c c2 q:F}{x e p d k j i:Nat}{g:Int}{an:Gc}
def Hd{F G:å}(b:∀i,ϲu->F i=G i):Y3 ts F=Y3 ts G:=K8Z λi hi=>b i<|X4.mp hi
def BH{F G:å}(b:∀i,ϲu->F i=G i):aK ts g F an=ϵM G an:=Ŷ aK (Hd b)
def HK{n:Nat}{ch ch2:Nat->Ò}(b:∀q,q<n->ŭ=ch2 q):ϫj=Wv n ch2:=Ze λq h=>ϱl (b q ϯ2)
def Jt{a b:Nat}:c_ (dY us a b)=ϳQ:=by
 delta c_ dY;apply Y_;ext i;rw[T2,T2];by_cases hi:ϑz
 .by_cases z:a=i
  .subst z
   rw[K9I hi,fI hi];rfl
  rw[K9E z]
 rw[Ye (î K8z),Ye Ã]
def NP(nm:Ο)(X:Ċ)(D:ϷX)(e:ķ x=϶4){q:Nat}(Q:ϵc q):ϲR q=é ŭ λj=>! Ç ϫl:=by
 delta rmC;by_cases z:q=h d
 .rw[Χ]
 rw[Ε];apply(ϷI ϧj).symm;let H:=(bC.mp<|(Ϫ9 Q k).mp H).2;let:k≠h x:=λw=>by
  rw[w,Ϯj e]at H;lia
 simp[this]
def NF(nm:Ο)(X:Ċ)(H:ϷX)(l:ķ x=϶4){q:Nat}(Q:ϵc q):ϩn ϲR q=ϬM q:=by delta inC mvC;rw[NP nm X H l Q]
structure X9(us ts:À Nd)(ch:Nat->Ò)(h:Ě)(fl:å)(Z0 ts2:À Nd)(ch2:Nat->Ò)(h2:Ě)(F2:å)(R K:Ò):Prop where
 rl:Ϭ5
 nd:R.Nodup
 rb:∀q∈R,q<ϱK 3
 hm:∀j q,R[j]?=Â q->h2 j=ϳ5 q
 kl:∀k∈K,ľ
 k2:K.length<=2
 sm:∀q∈R,υ q->q∉K->ϲ8 ch2 (h q) ch/\ϲ8 F2 (h q) fl
 lb:∀n,n<us.length->(bN Z0 n).l=(ϫG n).l
def Acc(us T:À Nd)(ch:Nat->Ò)(h:Ě)(fl:å)(g:Int)(an D:Gc):Prop:=
 bP [ů,D]=Ú (Á 0)/\aM [Xp T g ċ an,D]=È/\∃(u ts2:À Nd)(ch2:Nat->Ò)(H:Ě)(d:å)(y:OD)(c:F)(R K:Ò)(nm:Str),Sm u ts2 ch2 H d c/\u.length<=us.length+3/\X9 us T ch h fl u ts2 ch2 H d R K/\y.er=Å (nD Ϻ3)/\F4 D (Á 0)=Ú (Ô nm)/\(þ (Ç ϮM||Ç (ϻz nm))->∀j q,R[j]?=Â q->sn ts2 ϩz j=true->q∈seen T ċ)/\ϫC (Ő<|aK T g ċ an) [D] (Ő<|ϵJ ϩz<|Å<|nD<|nwL T ċ ts2 ϩz R ϥv,.sh<|Á 0)/\ϧL (ϰq (ū ch) fl) [D] (stK u (Wv u.length ch2) d,y)
def MC{F G:å}(he:ϵr)(b:∀i,G i=true->F i=true):∀k,ľ->sn ts F k=true->sn ts G k=true:=by
 ext k
 induction k using Nat.strongRecOn with
 |_ k ih=>
  ext h e;rcases elt he h with⟨w,_⟩|⟨j,w,J⟩
  .exact k9 w
  rw[jM w J,Yt]at e⊢;apply(ih j J Ã e.1,?_);cases hG:G j with|false=>rfl|true=>have:=e.2;rw[b j hG]at this;cases this
def Ref(us T:À Nd)(ch:Nat->Ò)(h:Ě)(fl:å)(g:Int)(an D:Gc):Prop:=
 ∃w:Int,à (Ç (w=0))/\bP [ů,D]=Ú (Á w)/\aM [Xp T g ċ an,D]=Ú (Á w)
def lk2:ϵL (όv "NoDeed") ((ϸC ϩx (Ë 2)))=Â 2:=ñ
def lk3:ϵL (όv "NoPlace") ((ϸC ϩx (Ë 2)))=Â 3:=ñ
def lk4:ϵL (όv "NoTree") ((ϸC ϩx (Ë 2)))=Â 4:=ñ
def Nt(H:϶n us){k:Nat}(h:ϴS):(ϵ4).l.length<=9:=H _<|Y4<|fI h
def zJ{R:Ò}(H:϶n us)(u:∀k∈R,ϴS):϶n ϶I:=λn h=>by delta reN at h;let(k,K,rfl):=Ϻ8;show Nt H<|u k K
def DQ{a b:Nat}(H:϶n us):϶n (dY us a b):=λn N=>by let(k,h):=Zan N;let l:=ϷW;rw[bY]at l;rw[zo l]at h;rw[<-Zh h];show Nt H l
def S6{r:Int}(H:϶n ts)(G:∀n∈bs,n.l.length<=9):϶n (ĩ r):=λn h=>by
 delta W4 at h;rcases P1.mp h with w|w
 .exact H n w
 let(m,M,rfl):=Zc.mp w;show G m M
def GU(S:϶p)(b:ϷX)(m:Nm Z0 ts2 ch2 h2)(J:j<ts2.length)(H:ľ)(e1:h2 j=h k)(ne:k≠d->ϤY≠[]->ch2 (h k)≠[]):fl2 ch2 fl (h d) (h2 j)=(Ç ľ&&fl (h k)&&dN ts2 j):=by
 let E:=wL m J;rw[e1]at E⊢;rw[<-E,W6 H,Zak];delta fl2;by_cases z:k=d
 .subst z
  cases hE:(ch2<|h k).isEmpty with|true=>rw[Č];delta cO;rw[Č,Zbc,Zbp]|false=>rw[P3 á,Zal,Zav]
 let D:h k≠h d:=λw=>z<|ϐR d H b w;let y:(Ï (þ ϘR) (cO fl (h d) false) fl) (h k)=fl (h k):=by
  by_cases w:þ ϘR
  .rw[Os w]
   delta cO;rw[P3 D]
  rw[P3 w]
 rw[y];cases hf:fl (h k)with
 |false=>rfl
 |true=>
  let K:=S.f k H hf;rw[<-wL S.nm H]at K;let:=ne z (λw=>by rw[w]at K;cases K);cases hC:ch2 (h k)with|nil=>show Ć hC this|cons a r=>rfl
def E5(S:϶p)(H:ľ)(b:Bool):ϫW ϧS:=by
 let d:=II (fl:=fl) S.nm S.pt S.l H b;let x:=xdo (g:=g) (an:=an) S.l S.f H b;by_cases o:όE ċ=true
 .right
  rw[Os o]at x;rw[o]at d;let t:=o;delta rB at t;rw[Yt]at t;let(a,l):=t;let p:∀i,ϲu->cO ċ k b i=ϸG (h i):=λi hi=>by
   delta cO;by_cases z:i=k
   .rw[Χ,Os<|ϱl z]
   rw[Ε,ϧO (ϘS w)]
  let s:∀i,ϲu->sn ts (cO ċ k b) i=sn ts (λi=>ϸG<|h i) i:=λi=>by
   induction i using Nat.strongRecOn with
   |_ i ih=>
    ext hi;rcases elt S.nm.et hi with⟨w,_⟩|⟨j,w,J⟩
    .rw[k9 w,k9 w]
    rw[jM w J,jM w J,ih j J Ã,p j Ã]
  let m:Ŝ (cO ċ k b)=Ŝ (λi=>ϸG<|h i):=K8Z λi hi=>s i<|X4.mp hi;let G:∀K,ϵM (cO ċ k b) (Å<|nD<|Ϻ6 ċ ts (cO ċ k b) Ř K)=ϵM (λi=>ϸG<|h i) (Å<|nD<|Ϻ6 ċ ts (λi=>ϸG<|h i) Ř K):=λK=>by rw[BH p];delta nwL ous sE;rw[m]
  let run:ϫC (Ő<|ϵM ċ an) [ϧS] (Ő<|ϵM (λi=>ϸG<|h i)<|Å<|nD<|Ϻ6 ċ ts (λi=>ϸG<|h i) Ř<|iL [k],.sh<|Á 0):=by
   rw[<-G];cases b with
   |true=>show pO<|An (vm Û)<|HV (g:=g) (an:=an) S.nm.et S.l S.f H Ϻc a
   |false=>show pO (BX (vm Û)<|ϙP Ϻc)
  apply(d,vQ x,us,ts,ch,h,ϸG,_,c,Ř,[k],_,(S.nm,S.pt,S.l,λi hi f=>?_,S.v,S.b),Ã,(Wu,K89,λq Q=>Œ (X4.mp Q),ϫO ?_,λi hi=>ϻ7 (Y8.mp hi),K91 1,λq Q L n=>(ϱB ?_),ϲ0),?_,rfl,λC j q Q e=>?_,run,D4 S.nm S.pt S.l H b)
  rotate_left
  .let(J,rfl):=Za.mp Q
   rw[Wu]at J;rw[K80,c8 J]
  .unfold cO
   rw[P3 λw=>n<|Y8.mpr<|Ϯt k L H w]
  .rw[eP]
   rfl
  .let(J,rfl):=Za.mp Q
   rw[Wu]at J;rw[K80];let B:ϸi:=by
    cases b with|true=>rfl|false=>revert C;decide+kernel
   subst B;apply ϻg (X4.mpr J) (MC S.nm.et ϸ4 j J e);change cO fl (h k) true (h i)=true;delta cO;split
   .rfl
   show hi
  let f:ϸG (h i)=true:=f;delta cO at f;by_cases z:h i=h k
  .rw[ϘS z]
   show a
  rw[Ε]at f;show S.f i hi f
 left;rw[P3 o]at x;let w:DU (όE ċ)=2:=Ŷ DU (P3 o)
 rw[w]at d;show(2,á,d,pT x lk2)
end
section
variable{us ts bs:À Nd}{ch:Nat->Ò}{h:Ě}{fl:å}{c d:F}{x e p i:Nat}{g:Int}{an:Gc}
def AB(S:϶p)(H:Ċ)(x0:0<x):∃d:Nat,ķ x=϶4/\ϷX:=by
 rcases elt S.nm.et H with⟨_,w⟩|⟨d,W,a⟩
 .lia
 show(d,W,Ã)
def yK(S:϶p)(X:Ċ){d k:Nat}(e:ķ x=϶4)(H:ľ)(D:ϷX)(z:k≠d){j:Nat}(J:j∈ϤY):j≠h x:=λw=>by let:=(bC.mp<|(S.nm.mem (h k) (ϒo H) j).mp J).2;rw[w,S.nm.eld x d X e]at this;show z (ϐR d H D Ã)
def Cb(h:j∈L):L≠[]:=λw=>by rw[w]at h;cases h
def BC(h:L≠[]):∃j,j∈L:=by
 cases L with|nil=>show ϲv h|cons a r=>show(a,P0)
def Vl(pt:ó)(X:Ċ)(a:0<x):∀j q,Ğ[j]?=Â q->X8 ϰo j=ϰl q:=by
 let(G,t):=Dm pt X a;ext j
 induction j using Nat.strongRecOn with
 |_ j ih=>
  ext q H;let J:j<Ì ϰo:=Ù (ma pt X) ϸX
  let h:=((ϲd X).mp Ϸu).1;let f:H6 ϰo j=gU Ğ (ķ q):=ph H;rcases sr pt X q Ϸu with w|⟨w,b,W⟩
  .rw[eK h w,eK J<|by rw[f,w];rfl]
  let r:H6 ϰo j=Ë (ϳi Ğ w:Nat):=by rw[f,W];delta gU;rw[P3 Ã,Xz]
  let lt:=iY t J;let l:=iY pt h;rw[eI J r Ã,ih _ Ã w<|gF b,eI h W Ã]
def FP(S:϶p)(H:Ċ):ϫW ϸv:=by
 let u:=Kj (fl:=fl) S.nm S.pt S.l H;by_cases z:x=0
 .left
  subst z;rw[Č]at u;show(2,á,u,pT (Jk (Hn H)<|eQ<|fI H) lk2)
 right;rw[Ε]at u;let x0:0<x:=Ã
 let(d,E,D):=AB S H x0;let(G,t):=Dm S.pt H x0;let m:=Rb S.nm S.pt H x0;let key:∀j q,Ğ[j]?=Â q->ϻK (ϸV j)=(Ç (υ q)&&fl (h q)&&dN ϰo j):=ϫO (GU S D m (Ù ϪI<|ϵe Q) (ϸ1 aZ ϥx).1 (Ϙq Q) (λz w=>by let(k,K):=BC w;apply Cb (j:=k) ?_;delta ctC;let:=όu (ϸ1 aZ ϥx).1 D z K;show ϻg K (Ű this)));let M:=K6 (g:=g) (an:=an) (fl:=ċ) (fl2:=λi=>ϻK<|ϸV i) S.pt S.l H x0 key;let A:=GR (fl:=fl) S.nm S.pt S.l H D E;rw[E]at M;let I:=N9 S.pt H;let l:=S.l;let o:∀j q,Ğ[j]?=Â q->υ q:=ϫO (ϸ1 aZ ϥx).1;let sq:∀j,j<Ì ϰo->∀q,Ğ[j]?=Â q->sn ϰo (λi=>ϻK<|ϸV i) j=sn ts ċ q:=λj=>by
  induction j using Nat.strongRecOn with
  |_ j ih=>
   ext J q Q;let p:H6 ϰo j=gU Ğ (ķ q):=ph Q;rcases sr S.pt H q ϥx with w|⟨w,F,y⟩
   .rw[k9 w,k9<|by rw[p,w];rfl]
   let r:H6 ϰo j=Ë (ϳi Ğ w:Nat):=by rw[p,y];delta gU;rw[P3 Ã,Xz]
   let lt:=iY t J;let T:=iY S.pt<|o j q Q;let W:=gF F;let v:=key _ w W;let B:dN ϰo (ϳi Ğ w)=true:=by
    delta dN;cases hC:I2 ϰo (ϳi Ğ w)with|cons a r=>rfl|nil=>have:=bC.mpr ⟨J,r⟩;rw[hC]at this;cases this
   rw[B,Zav,W6<|o _ w W,Zak]at v;rw[jM r Ã,jM y Ã,ih _ Ã Ã w W,v]
 apply(u,vQ<|Ϛt<|eQ<|fI H,϶J<|h x,ϰo,ϭ8<|h x,ϸV,ϻK,_,G,Ğ,[d],_,(m,t,Ã,λj J f=>?_,λl C=>?_,zJ S.b λk K=>(ϸ1 aZ K).1),î jY,((ϪI).symm,(p9 S.pt H).imp Ym,λq Q=>Œ (ϸ1 aZ Q).1,ϔO (o j q Q) ctH,λk K=>by rw[Y8.mp K];show D,K91 1,λq Q L N=>?_,λn N=>(Gg N).1),ϰS,rfl,λ_ j q Q e=>ϻg (X4.mpr<|o j q Q) (by rw[<-sq j (Ù ϪI<|ϵe Q) q Q];show e),pO<|BY (vm Û) M,A)
 rotate_left 2
 .let b:q≠d:=λz=>N<|Y8.mpr z
  apply(ϷI Ϥx,?_)
  .let:=όu L D b K
   simp[this]
  delta fl2
  split
  .unfold cO
   rw[P3 λw=>b<|Ϯt d L D w]
  rfl
 .rw[ϪI]at J
  let f:ϻK (ϸV j)=true:=f;rw[Ϗr<|Xb J,Yt]at f;show f.2
 let(j,s,rfl):=iN.mp C;rw[ϪI]at s;let Q:=Xb s;rw[Vl S.pt H x0 j _ Q];show S.v _<|ϥt ((ϱt (ϸ1 aZ ϥx).1))
def EI(S:϶p)(H:Ċ)(he:ō):ϫW ϴ3:=by
 obtain⟨M,⟨⟨Y,t1,t2,t3⟩,t4⟩,u⟩:=J5 (fl:=fl) (p:=p) S.nm S.pt S.l H he;let b:=S.l;let W:=fG S.pt H;let g1:=eQ<|fI H;let X:=t4 x õ W.1;by_cases own:x<=e/\e<ý
 .left
  rw[Os own]at u;show(2,á,u,pT (zj (Fd b H he own.1 own.2) g1) lk2)
 rw[P3 own]at u;let o:e<x\/ý<=e:=Ã
 delta IE yn at u;by_cases z:Ì Ω<p
 .left
  rw[Χ]at u;show(3,á,u,pT (zj (Eh b H he o z) g1) lk3)
 rw[Ε]at u;let P:p<=Ì Ω:=Ã
 by_cases y:8<ϰl e+1+(M-ϰl x)
 .left
  rw[Os<|Ð Ã]at u;let t:ϰl e+1+(M-ϰl x)∈X3 ϰb:=Ψ (Bs S.pt H he o) ⟨Y,Ã,ϴh lvM (Os ⟨t1,t2⟩) t3⟩;show(4,á,u,pT (zj (Bv S.pt b H he o P t y) g1) lk4)
 rw[P3 Ã]at u;right;let a:ϻ4 ϰb:=λl t=>by
  let(q,Z,s):=(Bs S.pt H he o).mp t;delta lvM at s;by_cases w:x<=q/\q<ý
  .rw[Os w]at s
   let:=t4 q w.1 w.2;lia
  rw[P3 w]at s;rw[<-s];show S.v _<|ϥt ⟨q,Z,rfl⟩
 let(d,E,D):=AB S H<|AY S.pt he o;let N:=DM S.nm S.pt H he o P;let(O,T):=vW (p:=p) S.pt H he o;let B:=Ϧc S.pt H;let R:=ϩq S.pt H;let I:Ì (ϲR<|h e)=Ì Ω:=by rw[NP S.nm H D E<|S.nm.lt e he,CQ S.nm H he]
 let kl:ϤM (Ì Ω):=ϬI ϫm;let C:=FI (fl:=fl) (p:=p) S.nm S.pt b H he D E (by rw[I];show P) (by rw[I];lia);let ce:ū (ϩn ϲR)=Wv (Ì (ϨS<|h e)) ϬM:=Ù bY (HK λq Q=>NF S.nm H D E Q)
 let V:ϥS inC ϲR=ϥS mvC ch:=Ŷ fl2 (Ϛo<|S.nm.lt d D)
 let se:∀(A:À OD)(f:å),ϰq A f=stK (ϨS<|h e) A f:=λA f=>ϴh stK Jt bY
 rw[ce,V,se _<|fl2 _ fl _]at C;let lt:∀j q,š[j]?=Â q->υ q:=ϫO (ϸ1 dc ϥx);let key:∀j q,š[j]?=Â q->ϥS mvC ch (Ϻi j)=(Ç (υ q)&&fl (h q)&&dN ϰb j):=ϫO (GU S D N (by rw[B,<-R];show ϵe Q) ϑL (by delta mvH;rw[Q];rfl) (λz w=>by let(k,K):=BC w;show Cb<|zy.mpr<|Ð ⟨K,όu ϑL D z K⟩));let G:=Ii (g:=g) (an:=an) (fl:=ċ) (fl2:=λi=>ϥS mvC ch<|Ϻi i) S.pt b H he o P a key
 rw[E]at G;apply(u,vQ<|zj (Bm S.pt b H he o P a) g1,ϨS<|h e,ϰb,ϬM,Ϻi,_,_,O,š,[d,e],_,(N,T,Ã,λj J F=>?_,a,zJ (DQ S.b) λk K=>Ù bY (ϸ1 dc K)),î bY,(by rw[R,B],rE S.pt H,λq Q=>Œ (ϸ1 dc Q),ϔO ϑL mvH,λk K=>by
  rcases W7.mp K with rfl|K
  .exact D
  rw[Y8.mp K]
  show he,W2 2,λq Q L r=>?_,λn r=>(vD r).1),ϰS,rfl,λU=>absurd U ñ,pO<|Cy (vm Û) G,C)
 rotate_left
 .let m:q≠d:=λz=>r<|W7.mpr<|Ê z
  let v:q≠e:=λz=>r<|Ā<|Y8.mpr z;apply(?_,?_)
  .unfold mvC
   rw[P3 λw=>v<|Ϯt e L he w];apply ϷI Ϥx;let:=όu L D m K;simp[this]
  delta fl2
  split
  .unfold cO
   rw[P3 λw=>m<|Ϯt d L D w]
  rfl
 rw[B,<-R]at J;let F:ϥS mvC ch (Ϻi j)=true:=F;rw[Ϗr<|Xb J,Yt]at F;show F.2
def Je{b:Nd}(S:϶p)(q:PT ű d)(hb:Ì ű<=3)(X:϶n ű)(hu:όw 190)(he:ō):ϫW (ϘW ű):=by
 obtain⟨M,⟨M1,M2⟩,u⟩:=MH (fl:=fl) (e:=e) (p:=i) S.nm S.pt q S.l Ã he;let pt:=S.pt;let s:=S.l;let b0:=q.pos;let Y:Ì ű=bs.length+1:=rfl;delta Nv yn at u;by_cases z:Ì (Ş e)<i
 .left
  rw[Χ]at u;show(3,á,u,pT (zF<|MN s he z) lk3)
 rw[Ε]at u;let P:i<=Ì (Ş e):=Ã
 by_cases y1:40<ϱK (Ì ű)
 .left
  rw[Os<|Ê Ã]at u;show(4,á,u,pT (zF<|IT pt q s Ã y1 he P) lk4)
 by_cases y2:8<ϰl e+1+M
 .left
  rw[Os<|Ð Ã]at u;show(4,á,u,pT (zF<|JZ pt q Ã he P M1 y2) lk4)
 right;rw[P3 Ã]at u;let y:∀l∈X3 ű,ϰl e+1+l<=8:=λl s=>Œ (M2 l s)
 let(I,D):=ϯ1 pt q he;let(B,C):=wm (i:=i) pt q he;let Q:=GY (fl:=fl) S.nm pt q s Ã Ã he P;let(c0,t):=uY pt q;let o:ts.length<Ì (ϻi ű 0):=î aR
 let N:=DM (p:=i) (Lo S.nm pt q Ã) t (x:=ts.length) (e:=e) o (î aR) (Ê he) (Ù (Nb pt q he) P);let e1:ϫs (ϳ5 ts.length):=iZ (j:=0);rw[e1,c8 he]at N;let key:∀j q,(ϸ7 ű)[j]?=Â q->ϬR (mvH (ϻi ű 0) ϳ5 ts.length e i j)=(Ç (υ q)&&fl (h q)&&dN (ϵd ű e i) j):=λj k H=>by
  let V:mvH (ϻi ű 0) ϳ5 ts.length e i j=ϳ5 k:=ϔf
  let E:=wL N (k:=j) (show j<Ì (ϵd ű e i) by rw[B,<-C];show ϸX);rw[V]at E⊢;delta flP;by_cases w:ľ
  .let lt:=ϒo w
   rw[c8 w]at E⊢;rw[W6 w,W6 lt,Zak];cases F:fl (h k)with
   |false=>rfl
   |true=>
    let K:=S.f k w F;rw[<-wL S.nm w]at K;let(m,f):=BC (L:=ϤY) (λz=>by rw[z]at K;cases K);let U:=ϓN;let Z:m∈Ϲ5 ű (h k):=by
     delta hgC;rw[Os lt];by_cases z:h k=0
     .rw[Χ,<-z]
      show Ŀ f
     rw[Ε];show f
    let:=Cb<|zy (ch:=Ϲ5 ű) (x:=us.length) (e:=h e) (p:=i) (q:=h k) (k:=m) |>.mpr (Ð ⟨Z,Ã⟩);change true=(true&&dN (Y9 (ϻi ű 0) ts.length e i) j)
    rw[<-E];cases hC:mvC (Ϲ5 ű) us.length (h e) i (h k)with|nil=>show Ć hC this|cons a r=>rfl
  rw[Ll w,Zaf,Zaf];let:ϳ5 k=us.length+ϐN:=P3 w;rw[this,Ll Ã,Zaf]
 let mr:=Mm (g:=g) (an:=an) (fl:=ċ) (fl2:=λj=>ϬR<|mvH (ϻi ű 0) ϳ5 ts.length e i j) pt q Ã he P S.v y key;let R:=λk=>dc (e:=e) (p:=i) (k:=k) t o;let G:=rE (e:=e) (p:=i) t o;rw[rR pt q he]at G;simp only[rR pt q he]at R;apply(u,vQ<|zF<|HP pt q Ã he P S.v y,_,ϵd ű e i,_,_,_,_,I,ϸ7 ű,[e],_,(N,D,Ã,λj J F=>?_,λl f=>?_,zJ (DQ<|S6 S.b X) λk H=>Ù bY ((dc t o).mp H)),ϰP bY aR,(by rw[B,C],G,λk H=>ϨZ ((R k).mp H) aR,λj k H=>ϔf,λk H=>Ù (Y8.mp H) he,K91 1,λk H v T=>?_,λn o=>ϲK (vD<|î aR).1 (zC o)),ϰd eP,rfl,λO=>absurd O ñ,pO<|B7 (vm Û) mr,Q)
 rotate_left 2
 .let A:k≠e:=λz=>T<|Y8.mpr z
  let lt:=ϒo v;apply(?_,?_)
  .unfold mvC hgC
   rw[P3 λw=>A<|ϐR e v he w,Os lt];let fs:é ϤY (λj=>! Ç ϏN)=ϤY:=List.filter_eq_self.mpr λm f=>by
    let U:=ϓN;let:m≠us.length:=Ã
    simp[this]
   by_cases z:h k=0
   .rw[Χ,<-z,Zm,fs]
    simp
   rw[Ε,fs]
  delta flP;rw[W6 lt,Zak]
 .rw[B,<-C]at J
  let F:ϬR (mvH (ϻi ű 0) ϳ5 ts.length e i j)=true:=F;rw[Ϗr<|Xb J,Yt]at F;show F.2
 rcases(zx pt q he).mp f with⟨k,W,rfl⟩|⟨j,W,rfl⟩
 .exact S.v _<|ϥt ⟨k,W,rfl⟩
 show y _<|ϥt ⟨j,W,rfl⟩
end
def fd0(T:À Nd):Y3 T ϲr=[]:=ϳn (λ_ _ h=>ϱJ)
section
variable{deep:Nat}{ns:À Nd}{way:À Int}
def VH(g:ϻ0):(∀(i:Nat)(x:Int),Ķ way=Đ->(X3 ns)[x.toNat]?=ϻe)/\∀l∈X3 ns,l<=deep:=by
 induction g with
 |@root n a b=>
  let z:X3 [n]=[0]:=by
   change [fJ [] n]=[0]
   delta fJ;rw[Os b]
  rw[z];apply(ϫL ?_,λl h=>?_)
  .let hi:=ϸX
   let:i=0:=by rw[K9e]at hi;lia
   subst this;cases H;rfl
  rw[Y8]at h;lia
 |@step ns way c n g h1 h2 h3 h4 h5 ih=>
  let(I,d):=ih;let e:=ϔs<|Y4 h5;let el:=I (c-1) n.e h5;let last:fJ (X3 ns) n=c:=by
   delta fJ;rw[P3 Ã,el];change c-1+1=c;lia
  rw[mF,last];apply(ϫL ?_,λl h=>?_)
  .by_cases hi:i<c
   .rw[K9V (î Zg),K97 hi]at H
    let X:=g.way_lt x Ϸu;rw[K9V<|î cL];show I i x H
   let h:=ϸX;rw[Ww,K9e,Zg]at h;let:i=c:=Ã
   subst this;rw[K9a (î Zg),Zg,K8q h2,K8c]at H;cases H;rw[Xz,K9a (î cL),cL,K8c];rfl
  rcases P1.mp h with h|h
  .exact d l h
  rw[Y8]at h;lia
end
def J7(T:À Nd)(H:ϱs 40)(g:Int):aW 3 bR (Ő []) [Å Ō,Á g] (Ő<|aK T g ϲr<|Å<|nD ŵ,ı æ):=by
 apply(rfl,ϱw);delta bR;change ϴG [some<|Λ [],É<|Å Ō,É<|Á g] (ı æ);let l:Ĳ T.length:=ax Ã;let tb:Ç (Ϩh ϱc)=true:=ñ
 let r:uh [Á (Ë T.length)]=ĥ nO ŵ:=Jq _ Ã;let N:ϩS≠"gap":=ñ
 let n:ϩS≠"folds":=ñ
 let j:ϮH≠"folds":=ñ
 let k:ϩS≠"anew":=ñ
 let m:ϮH≠"anew":=ñ
 let o:ϭ1≠"anew":=ñ
 let at_:=λ(f:Str)(y:OD)(s:List (Str×Gc))(h:s.length<1000)(ρ:L3.Env)=>IJ (i:=0) (f:=f) (y:=y) (p:=ϸg) (ρ:=ρ) (tb:=đ) tb h;let A:=λf y=>at_ f y [] á;let c:=λf y u=>at_ f y [u] (ϱd<|ϧd 1);let d:=λf y u v=>at_ f y [u,v] (ϱd<|ϧd 2);let e:=λf y u v w=>at_ f y [u,v,w] (ϱd<|ϧd 3);simp![dH,eY,tP,Iv,az,l,r,A,c,d,e,eP,aN,aQ,eW,P3 N,P3 n,P3 j,P3 k,P3 m,P3 o];apply(_,rfl,?_);delta aK;rw[fd0];rfl
section
variable{ts us:À Nd}{g:Int}{fl F2:å}{an an2 D:Gc}{ks ks2:À OD}{i j k:Nat}{ρ:L3.Env}{s1:Fs}
def Jo:qK "Easel" ş=ř:=rfl
def PR(h:ρ[j]?=Â (Â ϲa)):Ϻo ρ=ò [ϲa]:=by delta ae aa ai;rw[h];rfl
theorem DR(H:Ŋ=ϳb (Ő ş))(W:ρ[j]?=Â (Â ϲa)):
  ϐS Ϻo k s1 Wz ρ=match aM [ř,D]with
  |.ok (.sh<|.int k0)=>(match ρ[k]? with
   |some (some<|OD.sh<|int k')=>Ï (k0≠k') (s1 ρ) (Wz ρ)
   |_=>È)
  |_=>u_ 4 i aO Ϻo k s1 Wz ρ:=by
 delta lX;rw[H];change ã (Ϻo ρ) (λy=>match aM ((ϨC ş).er::ϴQ)with
  |.ok (.sh<|.int k0)=>(match ρ[k]? with
   |some (some<|OD.sh<|int k')=>Ï (k0≠k') (s1 ρ) (Wz ρ)
   |_=>È)
  |_=>u_ 4 i aO Ϻo k s1 Wz ρ)=_
 rw[PR W,aF,L4,Z_,aS,tU,Jo]
theorem OQ{w:Int}(H:Ŋ=ϳb (Ő ş))(W:ρ[j]?=Â (Â ϲa))(f:ρ[k]?=some (É<|Á w))(h:aM [ř,D]=Ú (Á w)):
  ϐS Ϻo k s1 Wz ρ=ü ρ:=by
 rw[DR H W,h];change(match ρ[k]? with
   |some (some<|OD.sh<|int k')=>Ï (w≠k') (s1 ρ) (Wz ρ)
   |_=>È)=_
 rw[f];change(Ï (w≠w) (s1 ρ)<|Wz ρ)=_;rw[P3 λz=>z rfl];rfl
theorem OA(H:Ŋ=ϳb (Ő ş))(W:ρ[j]?=Â (Â ϲa))(f:ρ[k]?=some (É<|Á 0))(I:i≠k)(h:aM [ř,D]=È)(hr:ϫC (Ő ş) [D] (Ő ϻX,.sh<|Á 0)):
  ϐS Ϻo k s1 Wz ρ=ü (ł<|some<|Ő ϻX):=by
 rw[DR H W,h];change u_ 4 i aO Ϻo k s1 Wz ρ=_
 delta u_;rw[yF H (PR W) (y:=.sh<|Á 0) (ds':=ϻX) (by
  change ϫC _ [(OD.sh D).er] _
  rw[aS];show hr),aF]
 let a:(ł<|some<|ϨC ϻX)[k]?=some (É<|Á 0):=by rw[K9E I,f]
 change(match Ă (int 0),(ł<|some<|ϨC ϻX)[k]? with
  |OD.sh (int k),some (some<|OD.sh<|int k')=>ϙv (k≠k') (ł<|some<|ϨC ϻX)
  |_,_=>R.bad)=_
 rw[a];rfl
end
def GS(x:ϯE):∀(k:Nat)(a:ϯE),((ϲs x).foldl (·++·) a).toList=a.toList++ϸr (ϲs x.toList):=by
 ext y
 induction y with|zero=>ext a;simp|succ k Y2=>ext a;rw[K99,Zbz,Y2<|a++x,K99,K8a,Array.toList_append,K9M]
def Ho(c:Nat):∀n:Nat,ϸr (ϮC [c])=ϮC c:=by
 ext y
 induction y with|zero=>show rfl|succ n Y2=>rw[K99,K8a,Y2,K99];rfl
set_option tactic.hygienic true in
def MD{c n:Nat}(a:97<=c)(b:c<=122)(N:1<=n)(f:n<=9):CP (Txt.mul ϷZ Ũ):=by
 let e:ϧV (Txt.mul ϷZ Ũ)=ϮC c:=by
  delta Txt.mul;split
  .lia
  split
  .rename_i h
   let:n=1:=by
    rcases(Zcc _ _).mp h with h|h
    .let:=eq_of_beq h
     lia
    cases h
   subst this;rfl
  change((ϲy ((ē Ũ)) #[c]).foldl (·++·) #[]).toList=_;rw[GS,ņ (ē Ũ=n)];show Ho c n
 apply(?_,?_,λd H=>?_)
 .rw[vO,e,K8r]
  show N
 .rw[vO,e,K8r]
  show f
 rw[e]at H;rw[(List.mem_replicate.mp H).2];show(a,b)
def mulL{c n:Nat}(h:97<=c)(H:c<=122)(N:1<=n)(f:n<=9):∃l,CP l/\x_ (Ô ϷZ) (Á Ũ)=Ú (Ô l):=⟨_,MD h H N f,Qh rfl Ã Ã⟩
def Sg:à (Ç (ϭN="put")):=ñ
def Wj:à (Ç (Ϯi="put")):=ñ
abbrev kinds:À Gc:=[Ô "put",Ô "fold",Ô "move",Ô "unfold",Ô "cut",Ô "move",Ô "unfold"]
def IsD(n:Nat)(D:Gc):Prop:=(∃b k,k<n/\D=ϧS)\/(∃x e p,x<n/\e<n/\D=ϴ3)\/(∃x,x<n/\D=ϸv)\/∃e i bs way,e<n/\W1 8 bs way/\bs.length<=3/\D=ϵN
def My(z:Int)(n:Nat)(R:0<n)(h1:n<=100):∃D,IsD n D/\cG [Á z,Á Ũ,Å kinds]=ò ϲa:=by
 let m7:=dW z (ϱd<|Ë 0<7);let P:(Ë 0<Ũ)=True:=ϸf Ã;let O:(Ũ<1073741824)=True:=ϸf Ã;let B:Ĳ (ϱF 7):=ax á;delta cG fP kinds;let nat:∀(y:Int)(m:Nat),0<m->∃k:Nat,k<m/\y%ϰG=Þ:=λy m M=>by
  let:=dW y (ņ<|Ë 0<ϰG);show(ē (y%ϰG),Ã,Ã)
 let(k,G,h):=ϧn 8 n R;let(e,el,E):=ϧn 1024 n R;let(p,pl,f):=ϧn 65536 3 á;let f:z / 65536%3=ŝ:=f;let Z:T1 [ϻW,Ô "fold",Ô "move",Ô "unfold",Ô "cut",Ô "move",Ô "unfold"] 3=some (Ô "unfold"):=rfl;let a4:T1 [ϻW,Ô "fold",Ô "move",Ô "unfold",Ô "cut",Ô "move",Ô "unfold"] 4=some (Ô "cut"):=rfl;let a5:T1 [ϻW,Ô "fold",Ô "move",Ô "unfold",Ô "cut",Ô "move",Ô "unfold"] 5=some (Ô "move"):=rfl;let a6:T1 [ϻW,Ô "fold",Ô "move",Ô "unfold",Ô "cut",Ô "move",Ô "unfold"] 6=some (Ô "unfold"):=rfl;by_cases cp:z%7=0
 .let(q,ql,Q):=ϧn 1024 4 á
  let Q:z / 1024%4=Ë q:=Q;let(m,ml,M):=ϧn 32768 3 á;let M:z / 32768%3=ϰG:=M;let sK:ā aG ϰG:=ϱo Ã;let U:Ĳ (Ì ϹS):=ñ
  let(c0,lc,g,o):=zP (z / 64%26) (ϧ5 á).1 (ϧ5 á).2;let m4:=Ϯu 8192 (ϱd<|Ë 0<4);obtain⟨w,N⟩:∃w:Nat,1+z / 8192%4=(w:Int):=⟨ē (1+z / 8192%4),Ã⟩
  let(l0,A,u):=mulL (n:=w) g o Ã Ã;let m9:=Ϯu 16 (ϱd<|Ë 0<9);obtain⟨t0,T⟩:∃t0:Int,1+z / 16%9=t0:=϶D;generalize s:ϹS=Ls at*;simp![cp,B,P,O,h,Jz,U,lc,Zae,N,u,T,M,sK];generalize hL:ϰz=r;apply ϮY (λi Y=>∃(bs:À Nd)(way:À Int)(V:Ö OD),Y=[É<|Á z,É<|Á Ũ,É<|Å [Ô "put",Ô "fold",Ô "move",Ô "unfold",Ô "cut",Ô "move",Ô "unfold"],É<|Ô "put",É<|Á Þ,É<|Ô Ls,some<|Ĩ ϱA,V]/\W1 8 bs way/\bs.length=i+1/\(i<=1->way=(ń<|i+1).map (Į Þ))/\∀x,bs[2]?=Đ->W1 8 ύC way) ⟨[ϱR (-1) l0 t0],[0],_,rfl,W1.root ⟨A,ϸ3 (1<=t0),ϸ3 (t0<=9)⟩ rfl,rfl,ϺV,λx H=>by cases H⟩
  .rintro i d Y hd ⟨bs,way,V,rfl,gr,bl,hw,_⟩
   let(hi,rfl):=eM hd;rw[Xz]at hi;let i0:Ë 0+ë=ë:=K8P _;let(e,el,he):=ϧn (8+ë) (i+1) Ã;let he:z / (8+ë)%(ë+1)=ö:=he;let(c1,S,K,C):=zP (z / (9+ë)%26) (ϧ5 á).1 (ϧ5 á).2;rw[s]at S;let(L,F,v):=mulL (n:=1+i) K C Ã Ã;let en:1+ë=Ë ϯG:=Ã
   let d8:ό5 8 ë:=ϸf ⟨Ã,Ã⟩;let d9:ό5 9 ë:=ϸf ⟨Ã,Ã⟩;let q0:(Ë 0<ë+1)=True:=ϸf Ã;let q1:(ë+1<1073741824)=True:=ϸf Ã;let l:ϴj (Ì ϱA):=Ù az (dX Ã)
   let t2:Ó ϱA OD.sh++[Ă<|ï [Á ö,Ô L,Á (Ë ϯG)]]=(ak<|bs++[⟨ö,L,Ë ϯG⟩]).map OD.sh:=ϳB rL Wx
   simp![i0,d8,d9,q0,q1,he,S,U,Zae,en,v,l,t2];let ok:∀t:Int,1<=t->t<=9->Lh ⟨ö,L,t⟩:=λt a b=>⟨F,a,b⟩
   let wl:way.length=i+1:=by rw[hw Ã,K1,Wu]
   let at_:way[e+1-1]?=Â ö:=by rw[hw Ã,T2,K8H,Zs el];rfl
   let W:∀t:Int,1<=t->t<=9->W1 8 (bs++[⟨ö,L,t⟩]) (way.take (e+1)++[Ë bs.length]):=λt a b=>W1.step gr Ã Ã Ã (ok t a b) at_;apply(_,_,_,rfl,W _ Ã Ã,ϳB Ww bl,϶X,λx H=>?_)
   .let:i=0:=Ã
    subst this;let:e=0:=Ã
    subst this;rw[hw Ã,bl];rfl
   by_cases i1:i=1
   .subst i1
    rw[K9a Ã,bl]at H;cases H;let J:=W 9 á á;rw[Ϛg Ã];rw[bl]at J⊢;show J
   let:=ϸX;rw[Ww,bl,K9e]at this;lia
  ext ρ' rfl ⟨bs,way,V,rfl,gr,bl,_,H⟩;rw[dI,Xz]at bl;let tl:Ë ((ϱF ((Ì ϱA))))=ϰG+1:=î az
  let l:Ĳ (Ì ϱA):=Ù az (ax Ã)
  by_cases m2:m=2
  .let b2:Ϲj 2:=Ã
   let g2:=Xb b2;generalize bs[2]=x at g2;let I:T1 ϱA 2=Â (ï [Á x.e,Ô x.l,Á x.t]):=eQ (k:=2) g2;let d3:Ç (Ë ((ϱF ((Ì ϱA))))=3)=true:=W6 Ã;by_cases x0:x.e=0
   .let ix:Xx (Ì (Ó ϱA OD.sh)) (Ë 2)=Â 2:=gh (j:=2) (ϳH K1 az b2)
    let X:Ç (x.e=0)=true:=W6 x0;apply(gK k q ύC,Ð<|Ð<|Ð ⟨k,q,_,way,G,H x g2,î K8z,rfl⟩,?_);let te:(ϋ (Ó ϱA OD.sh) 2<|.sh<|ï [Á 0,Ô x.l,Á 9]).map OD.er=ak ύC:=by rw[Zcs,aN,aS];delta ak;rw[Zcs,x0];rfl
    simp![aN,l,d3,I,X,Q,C_ ix,te];rfl
   let X:à (Ç (x.e=0)):=Ll x0;apply(gK k q bs,Ð<|Ð<|Ð ⟨k,q,bs,way,G,gr,Ã,rfl⟩,?_);simp![aN,l,d3,I,X,Q];rfl
  let d3:à (Ç (Ë ((ϱF ((Ì ϱA))))=3)):=Ll Ã;apply(gK k q bs,Ð<|Ð<|Ð ⟨k,q,bs,way,G,gr,Ã,rfl⟩,?_);simp![aN,l,d3,Q];rfl
 let c5:z%7=1\/z%7=2\/z%7=3\/z%7=4\/z%7=5\/z%7=6:=Ã
 rcases c5 with c|c|c|c|c|c
 .apply(jJ true k,Ê ⟨true,k,G,rfl⟩,?_)
  simp![c,B,P,O,h,Wj,U6];rfl
 .apply(jL k e p,Ð<|Ê ϗH,?_)
  simp![c,B,P,O,h,AN,FG,E,f];rfl
 .apply(jJ false k,Ê Ϙl,?_)
  simp![c,B,P,O,h,Z,Sg,Q3];rfl
 .apply(oj k,Ð<|Ð<|Ê ⟨k,G,rfl⟩,?_)
  simp![c,B,P,O,h,a4,UC,K7];rfl
 .apply(jL k e p,Ð<|Ê ϗH,?_)
  simp![c,B,P,O,h,a5,AN,FG,E,f];rfl
 apply(jJ false k,Ê Ϙl,?_);simp![c,B,P,O,h,a6,Sg,Q3];rfl
abbrev iX(T:À Nd)(fl:å):À Nd:=reN T Ž
def Pl{R:Ò}(W:R.Pairwise ϶3)(K:϶b=Β)(H:j∈R)(h:j<k):ϯL<i:=by
 let J:=List.idxOf_lt_length_iff.mpr H;let e1:=Zar J;let(hi,E):=Za.mp K;by_cases L:ϯL<i
 .exact L
 exfalso;by_cases he:ϯL=i
 .let:R[ϯL]=R[i]:=by congr 1
  rw[e1,E]at this;lia
 let:=ύr i _ hi J Ã;rw[e1,E]at this;lia
section
variable{us ts:À Nd}{ch:Nat->Ò}{h:Ě}{fl:å}{c:F}{g:Int}{an:Gc}
def G9(he:ϵr)(a:υ 0):EL (ϳJ fl):=λk n h=>by
 let W:Ϲk (Ŝ fl) ϶3:=Ϫz;delta iX reN at h;rw[T2]at h;let(q,H,rfl):=ϸc;let Q:=Ϸu;change ύI (gU _ (ķ q)) (gU _ (ķ q)<Þ);delta gU;rcases elt he (cW Q)with⟨w,rfl⟩|⟨j,w,J⟩
 .rw[w,Os á]
  apply(ϺV,϶X,Ã);exfalso;let(K,E):=ϫy;let:=ύr 0 k Ã K z;lia
 let m:=sP he Q Ã;rw[w,Xz]at m;let:=Pl W H m J;rw[P3 Ã,w,Xz];show(λz=>Ã,λ_=>Ã,Ã)
def Lk(he:ϵr)(a:υ 0):0<Ì (Ŝ fl):=by
 let:0∈Ŝ fl:=by
  delta seen;apply ϻg (X4.mpr a) ?_;rcases elt he a with⟨w,_⟩|⟨j,_,w⟩
  .exact k9 w
  lia
 show Zby this
def ui(he:ϵr)(a:υ 0)(L:Ľ)(B:϶n ts):Ì (dry (ϳJ fl) g)=Ì (Ŝ fl)/\DrR (ϳJ fl) g (dry (ϳJ fl) g)/\kC [Å<|ϑJ<|Ŝ fl,Á g]=ĥ cj (dry (ϳJ fl) g):=by
 rw[<-si];let l:=gO ts fl;let:=Pz (ϳJ fl) g (G9 he a) (Ù d6<|Lk he a) (î d6) (λn H=>Œ (zJ B (λk h=>cW h) n H));rw[d6]at this;show this
def Fv(he:ϵr)(a:υ 0)(l:Ľ)(B:϶n ts):cF [ř]=ĥ cj (dry (ϳJ fl) g):=by
 delta cF iA;let h:uM "gap" ř=Â (Á g):=by delta uM Xp qK;rfl
 let H:jI ř=Â ϱc:=rfl;let M:=zq (m:="seen") (f:=bG) (i:=0) (ρ:=[É ř]) (vm Û) (ϚI Ã) rfl;let d:=(ϖl).2.2;let I:F4 (oh ts fl) (Á 0)=Ú (Å<|ϑJ<|Ŝ fl):=rfl;simp![↓M,AE,I,ve,zH,h,H,d]
end
def TB{T:À Nd}{g:Int}{fl:å}{an:Gc}:dC "drawing" (Ó ϭ7 ϲh)=none:=yG ñ ñ ñ ñ
def plD(L:Ò)(ps:À Int)(i:Nat):À ς:=Ó ϫq (ϸw (Ê (Ë ((ŷ (L[j]?)))),Á<|ϲc j))
def zM{L:Ò}{ps:À Int}(nd:L.Nodup){i k:Nat}(H:L[i]?=Β):mi (ϺM L.length) (Ê Þ)=Â (Á<|ϲc i):=by
 let(hi,e):=ϫy;delta mi plD;let key:∀n,i<n->n<=L.length->(Ó ϴq (ϸw (ϷQ ((Ë ((ŷ (L[j]?))))),int<|ϲc j))).find? (λp=>Ç<|p.1=Ê Þ)=Â (Ê Þ,Á<|ϲc i):=λn=>by
  induction n with
  |zero=>ext h;lia
  |succ n ih=>
   ext a b;rw[K86,Wx,List.find?_append];by_cases z:i<n
   .rw[ih z Ã]
    rfl
   let:i=n:=Ã
   subst this;let no:(Ó ϫq (ϸw (ϷQ ((Ë ((ŷ (L[j]?))))),int<|ϲc j))).find? (λp=>Ç<|p.1=Ê Þ)=none:=by
    rw[Zck];ext p P;let(j,J,rfl):=Zc.mp P;let J:=Ϻ5;rw[Xb Ã,Yz];ext w;let w:Ë (L[j]' Ã:Nat)=Þ:=K7w w;let:=qD nd Ã hi (ņ<|L[j]=L[i]);lia
   rw[no,L4,Z_,K8p,H];change(none:Ö ς).or (match Ç (ϷQ Þ=Ê Þ)with|true=>Â _|false=>_)=_;rw[ϻq];rfl
 rw[key L.length hi õ];rfl
def Jx{L:Ò}{ps:À Int}(nd:L.Nodup){i k:Nat}(h:L[i]?=Β):putD (ϺM i) (Ê Þ) (Á<|ϲc i)=ϺM (i+1):=by
 let(hi,e):=Za.mp h;rw[ua λp H=>?_]
 .unfold plD
  rw[K86,Wx,L4,h];rfl
 let(j,J,rfl):=ϵ3;let J:=Ϻ5;rw[Xb Ã];ext w;let w:Ë (L[j]' Ã:Nat)=Þ:=K7w w;let:=qD nd Ã hi (ņ<|L[j]=L[i]);lia
def Ei{T:À Nd}{g:Int}{fl:å}{an:Gc}(he:ϳk)(a:ϵ6 0)(l:ϱs 40)(B:∀n∈T,n.l.length<=9){L:Ò}(nd:L.Nodup)(e:L.length=Ì Ž):dg [ϭ3,Å ϰ4]=ϵZ (plD L (dry (iX T fl) g) L.length):=by
 let D:=Fv (g:=g) (an:=an) (fl:=fl) he a l B;let dl:=(ϖl).1;let s:=gO T fl;generalize dry (iX T fl) g=ps at D dl;delta dg kI;let ms:=zq (m:="drawing") (f:=cF) (i:=0) (ρ:=[É ϭ3,É<|Å ϰ4,none,none,none,none]) TB D rfl;let b1:Ĳ ps.length:=ax Ã;let b2:Ĳ L.length:=ax Ã;let ne:Ç (Ë ps.length=Ë L.length)=true:=W6 Ã;let b:∀ρ:L3.Env,eD0 ρ=ϵZ (ϺM 0):=ϺV;simp![↓ms,cM,aD,b1,b2,ne,b];generalize w:ϰz=r;let z:Ì (lG ϰ4 ϐL)=L.length:=ύu aD
 apply cD w (λi ρ=>∃v V:Ö OD,ρ=[É ϭ3,É<|Å ϰ4,É<|Å ϐL,϶Y<|ϺM i,v,V]) (ϱt _) ?_ ?_
 .rintro i d ρ hd ⟨v,V,rfl⟩
  let hi:i<L.length:=Œ ((ϵe hd))
  let(x,y,H,Y,rfl):=kP hd;obtain⟨k,h⟩:∃k,L[i]?=Β:=⟨L[i],Û⟩
  rw[om h]at H;cases H;rw[T2,Di Ã]at Y;cases Y;let c:ϴj (Ì (ϺM i)):=by delta plD;rw[K1,Wu];show dX Ã
  let F:=Jx (ps:=ps) nd h;simp![zw,yY,c,F];show(_,_,rfl)
 ext ρ' rfl ⟨v,V,rfl⟩;rw[z];simp![S5]
abbrev kf(ch:Nat->Ò)(fl:å)(q:Nat):Ò:=Ï (ā fl q) [] ŭ
inductive Rch(k:Nat->Ò):Nat->϶P
 |self (n:Nat):Rch k n n
 |next {n j m:Nat}:j∈k n->Rch k j m->Rch k n m
def KG{k:Nat->Ò}:∀(f:F),F.Yv k f->∀m,m∈Ÿ↔∃r∈ϴ2,Rch k r m:=by
 ext f
 induction f with
 |nil=>exactλ_ m=>⟨϶i ϱJ,λ⟨_,h,_⟩=>ϱJ⟩
 |cons a c r ih1 ih2=>
  ext hc m;let(H,b,d):=hc;rw[F.pre,F.roots,W7,P1,ih1 b m,ih2 d m,<-H];constructor
  .rintro(rfl|⟨j,J,u⟩|⟨j,J,u⟩)
   .exact(_,P0,ϹK _)
   .exact(_,P0,ϴx J u)
   show(j,Ā J,u)
  ext⟨j,J,u⟩;rcases W7.mp J with rfl|J
  .cases u with|self=>show Ê rfl|next h u=>show Ð<|Ê ⟨_,h,u⟩
  show Ð<|Ð ⟨j,J,u⟩
def E8(fl:å):ϱa ((ϰs Ÿ)->(ϰ8<|ϺD f).Nodup):=by
 ext f
 induction f with
 |nil=>exactλh=>h
 |cons a c r ih1 ih2=>
  ext h;rw[F.pre]at h;let(b,d):=Yj.mp h;let(g,i,j):=Ya.mp d;let s1:=F.ig fl c;let m:=F.ig fl r;delta F.pr;rw[F.pre];let e:∀k∈ϰ8 (Ï ϤE F.nil<|ϺD c),k∈ϵh:=λk H=>by
   split at H
   .cases H
   show s1 k H
  let N:(ϰs (ϰ8<|Ï ϤE F.nil<|ϺD c)):=by
   split
   .exact K8w
   show ih1 g
  apply ϤI (λM=>?_) (ϹE ⟨N,ih2 i,λx X y Y=>j x (e x X) y<|m y Y⟩);rcases P1.mp M with M|M
  .exact b<|Ŀ<|e _ M
  show b<|Ļ<|m _ M
section
variable{us ts:À Nd}{ch:Nat->Ò}{h:Ě}{c:F}{fl:å}{x:Nat}
def EU(nm:Ο)(pt:ó)(W:Ľ)(X:Ċ):∃L:Ò,όP (aY [ů,Á ϱr]=ĥ cj (gY ϰL)):=by
 let(s,s1,S):=Dh pt X;let U:=ϰk X;let O:Ϥ6 ϳ4:=F.O0 (ch:=Ş) _ S λk H=>by rw[s1,Zaa]at H;show όr Ã
 let C:=F.JR (fl:=fl) _ O;let M:∀k∈ϰ8 (ϺD ϳ4),ϴS:=λk H=>by let H:=F.ig fl _ k H;rw[F.iF,s1]at H;let(i,hi,rfl):=ϵ3;rw[Zaa]at hi;show Ϲi Ã
 let pl:Ì (F.pre<|ϺD ϳ4)<=40:=by
  let:=F.rG fl ϳ4;rw[F.iF,K1,s1,K93]at this;lia
 let nd:(F.pre<|ϺD ϳ4).Nodup:=E8 fl _ (by
  rw[F.iF,s1];apply ϩa<|(Zbt (s:=x) (n:=ý-x) (step:=1)).imp_of_mem fun{a b} ha hb' hab e=>hab ?_
  rw[Zaa]at ha hb';show nm.inj a b Ã Ã e)
 have rt:F.roots (ϺD ϳ4)=[h x]:=F.w_ fl _;have rc:=KG _ C;rw[rt]at rc;generalize ϺD ϳ4=G at*;have pm:=F.mq G;refine⟨Ϲv,pm.nodup_iff.mpr nd,λm=>by rw[pm.mem_iff,rc];exact⟨λ⟨r,hr,u⟩=>by rw[Y8.mp hr]at u;exact u,λu=>⟨_,ϩ9,u⟩⟩,by rw[pm.length_eq];exact pl,?_⟩;have P:ϱa (Ì ϴ2<=Ì Ÿ):=by
  ext f
  induction f with
  |nil=>show õ
  |cons k c r ih1 ih2=>
   rw[F.roots,F.pre,Xt,Xt,Ww];lia
 let tl:=pm.length_eq;delta aY fN;simp![S5];generalize I:ϤV=r;apply nG I (λm ρ=>∃(f:F)(o:Ò),F.Yv Ϧ5 f/\Ì Ÿ=m/\m<=40/\(∀k∈Ÿ,ϴS)/\ϯI=Ϲv/\ρ=[É ů,É<|Á ϱr,Ď ϻE,Ď<|nO ϴ2])
  (Ì (ϰ8 G)) ⟨G,[],C,rfl,pl,M,rfl,ϰd rt⟩
  (λρ=>∃V:Ö OD,ρ=[É ů,É<|Á ϱr,Ď<|nO Ϲv,V]) ?_ ?_
 .rintro m ρ ⟨f,o,hc,hm,hmt,H,ho,rfl⟩
  by_cases p:ϴ2=[]
  .left
   let:=rK p;subst this;rw[F.cQ,Xf]at ho;subst ho;let ge:Yc (Å<|nD []) (Å [])=Ú (ß false):=oR ϻ6;constructor
   .simp![aQ,F.roots,ge]
   show(_,rfl)
  right;let(g,a,d,N,t,v,w,Y,y,B):=Iq hc (λz=>p<|ϰd z) H;let ge:=vR ϱe a;let ol:o.length<=100:=by
   let D:=ϱT ho;rw[Ww]at D;lia
  let kd:=Ϫe t;let K:=ϒm t;let J:T1 [ϲ2 ϳQ,Å ϵD,Å ϴJ] 1=Â (Å ϵD):=rfl;let q:T1 [ϲ2 ϳQ,Å ϵD,Å ϴJ] 2=Â (Å ϴJ):=rfl;rw[N];constructor
  .simp![aQ,ge]
  let A:T1 (nD ϶6) (-1)=Â (Á ϱv):=by
   let:nD ϶6=nD o++[Á ϱv]:=Ϭp Wx
   rw[this];show sI _ _
  let po:=Bk (ρ:=[É ů,É<|Á ϱr,Ď ϻE,Ď<|nO<|ϱe++[a]]) (i:=2) (j:=3) (xs:=ϻE) (ys:=nO ϱe) (d:=Á ϱv) rfl Ϙj á (Ù nC<|Yf<|dX Ã);simp![↓po,iM];delta Xl;cases hfa:fl a with
  |true=>
   rw[hfa]at K;let E:ϱe=Ϲ7:=by
    rw[<-v];change _=_++(Ï ϤE []<|ch a)
    rw[Os hfa,Xf]
   simp![aQ,q,K,A];show(_,Ã,ϵa d,϶6,w,rfl,Ã,y,ϐU ho,by rw[<-E])
  |false=>
   rw[hfa]at K;let R:ϱe++ch a=Ϲ7:=by
    rw[<-v];change _=_++(Ï ϤE []<|ch a)
    rw[P3<|Ù hfa Xd]
   let ap:nD ϱe++ϪW=nD Ϲ7:=ϔq
   let l:Ĳ (Ì (nD ϱe)+Ì ϪW):=by rw[aD,aD];let Q:=P<|ϵa d;rw[<-R,Ww]at Q;show ax Ã
   let bk:uS (Ĩ<|nD Ϲ7)=ĥ nO Ϲ7:=FH _;simp![aQ,J,q,K,kd,A,l,ap,bk];show(_,Ã,ϵa d,϶6,w,rfl,Ã,y,ϐU ho,rfl)
 ext ρ' rfl ⟨V,rfl⟩;let T:BF [Å<|nD Ϲv]=ĥ cj (gY<|iL Ϲv):=by
  change(match cu ((iL Ϲv).map int)with
   |some ns=>Ï (ϤL 64) (L3.R.ok (OD.ol<|Ó (Ó (gY ns) int) OD.sh)) L3.R.bad
   |_=>L3.R.bad)=_
  rw[eN];change(Ï (Ì (iL Ϲv)<64) _ _)=_;rw[ϕo];rfl
 simp![aQ,T]
open Classical in
def sbO(us:À Nd)(ch:Nat->Ò)(fl:å)(n:Nat):À Int:=epsilon λzs:À Int=>∃L:Ò,L.Nodup/\(∀m,m∈L↔Rch Ϧ5 n m)/\ϤJ 40/\zs=gY ϰL/\aY [ů,Á Ũ]=ϲC (cj zs)
def BN(nm:Ο)(pt:ó)(l:Ľ)(H:Ċ):∃L:Ò,όP (Ϧh (h x)=gY ϰL/\aY [ů,Á ϱr]=ĥ cj (Ϧh<|h x)):=by let(L,a,b,d,e):=EU (fl:=fl) nm pt l H;show Zaq (p:=λzs:À Int=>∃L:Ò,όP (zs=gY ϰL/\aY [ů,Á ϱr]=ϲC (cj zs))) ⟨_,L,a,b,d,rfl,e⟩
end
def O_{L l:Ò}(a:L.Nodup)(b:l.Nodup)(h:∀m,m∈L↔m∈l):gY ϰL=gY (iL l):=dQ (è (fO _)<|è (Ó (Ψ (Zaw a b) h) _) (fO _).symm) (eU _)<|eU _
def MB{L:Ò}{z:Int}(h:z∈gY ϰL):∃m:Nat,z=ϰG/\m∈L:=by let(m,M,rfl):=Zc.mp<|(fO _).mem_iff.mp h;show(m,rfl,M)
open PyProof.Rows (step_dedup)
set_option tactic.hygienic true in
def UP:∀(ns c:À Int),c.Nodup->ϰs (ϸH c)/\∀z,z∈ϸH c↔z∈c\/Ϸf:=by
 ext ns
 induction ns with
 |nil=>exactλacc h=>⟨h,λz=>⟨Ê,λh=>h.elim id λh=>ϱJ⟩⟩
 |cons a r ih=>
  ext c h;rw[Zbz];let m:∀z,z∈step_dedup c a↔z∈c\/z=a:=λz=>by
   delta step_dedup;split
   .rename_i hc
    let(x,H,e):=List.any_eq_true.mp hc;let e:=eq_of_beq e;subst e;show(Ê,λh=>h.elim id λh=>h▸H)
   rw[P1,Y8]
  let n:(ϰs (step_dedup c a)):=by
   delta step_dedup;split
   .exact h
   rename_i hc;apply ϹE ⟨h,ϤI Û K8w,λx H y Y e=>?_⟩;rw[Y8]at Y;subst e Y;show hc<|List.any_eq_true.mpr ⟨_,H,K8O _⟩
  apply((ih _ n).1,϶X);rw[(ih _ n).2,m,W7,or_assoc]
def MZ{fs:Ò}{e:ι}{m:Nat}{P:϶P}(M:m<=40)(a:fs.length<4000)(h:ϧ6 fs (s<m/\Ϭm)):Bh [Å<|nD fs]=ĥ nO (ϵb P):=by
 let(nd,A):=UP (iL fs) [] K8w;let W:=Cp e m P;let n:Ϲk (iL<|ϵb P) ϶3:=by delta iL;show ϩa (W.imp λh=>Ã)
 let pm:(ϔ7).Perm (iL<|ϵb P):=(Zaw nd<|n.imp λh=>Ã).mpr λz=>by
  rw[A];delta iL;constructor
  .rintro(H|H)
   .cases H
   let(s,S,rfl):=ϵ3;show ϳP ⟨s,sL.mpr<|(h s).mp S,rfl⟩
  ext H;let(s,S,rfl):=ϵ3;show Ð<|ϳP ⟨s,Ψ (h s)<|sL.mp S,rfl⟩
 let al:Ì (ϵb P)<=m:=vU m _ (W.imp λh=>Ã) λk K=>(sL.mp K).1
 change(match cu (Ó (iL fs) int)with
  |some ns=>Ï (ϤL 4000/\Ì (ϸH [])<64) (L3.R.ok (OD.ol<|Ó (Ó (ddI ns) int) OD.sh)) L3.R.bad
  |_=>L3.R.bad)=_
 rw[eN];change(Ï (Ì (iL fs)<4000/\Ì ϔ7<64) _ _)=_;let J:∀L:Ò,Ì ϰL=L.length:=λL=>Ŷ iL K1
 rw[Os ⟨by rw[J];show a,by rw[pm.length_eq,J];lia⟩];let e:ddI (iL fs)=iL (ϵb P):=dQ (è (fO _) pm) (eU _) (n.imp λh=>Ã);rw[e];rfl
section
variable{us ts:À Nd}{ch:Nat->Ò}{h:Ě}{fl:å}
def M7(nm:Ο)(hl:Ľ){S T:Ò}(n:S=Ŝ ċ)(hT:ϱs 60):jW [ů,Å<|nD ϶T,Å<|nD T]=ĥ nO (anw (sE ts ċ) S.length λi=>ϵi (S[i]?)∈T):=by
 let sl:S.length<=40:=by
  let:=gO ts ċ;rw[n];lia
 let lt:∀s∈S,s<ts.length:=λs o=>cW (n▸o);let nd:S.Nodup:=n▸nA ts _;let up:∀s∈S,0<=ķ s->ē (ķ s)∈S:=λs o=>by rw[n]at o⊢;show sP nm.et o
 let ep:∀p s,S[p]?=Ϸh->sE ts ċ p=Ï (ķ s<0) (-1:Int) ((Ë (S.idxOf (ē (ķ s)):Nat))):=λp s H=>by delta sE;rw[<-n,H];rfl
 let E:∀p,ϒe->sE ts ċ p<ŝ:=λp H=>by
  let(_,_,_,_,r):=w6 nm.et (fl:=ċ) p (n▸H);show r
 generalize sE ts ċ=e at ep E;delta jW nZ;let R:=ύn;let tS:∀i k s,T[i]?=Β->((Ϩy ϩQ)↔(Ϩy<|T.take i)\/∃q,(Ϯ8/\ϵi (S[q]?)=k)/\ϷB q s):=λi k s hk=>by
  rw[take_snoc hk];constructor
  .rintro⟨q,⟨g,h2⟩,u⟩
   rcases P1.mp h2 with w|w
   .exact Ê ⟨q,⟨g,w⟩,u⟩
   show Ð ⟨q,⟨g,Y8.mp w⟩,u⟩
  rintro(⟨q,⟨g,h2⟩,u⟩|⟨q,⟨g,h2⟩,u⟩)
  .exact(q,(g,Ŀ h2),u)
  show(q,(g,Ļ<|Y8.mpr h2),u)
 let V:∀q,Ϯ8->∃s,S[q]?=Ϸh/\s∈S:=λq Q=>⟨S[q],Xb Q,Zab Q⟩
 let ij:∀p q,ϒe->Ϯ8->ϵi (S[p]?)=ϵi (S[q]?)->p=q:=λp q H Q w=>by rw[Xb H,Xb Q]at w;show qD nd H Q<|nm.inj _ _ (lt _<|Zab H) (lt _<|Zab Q) w
 let ix:∀p s:Nat,S[p]?=Ϸh->Ac (nD ϶T) (Á (h s:Int))=Ú (Á ŝ):=λp s H=>by let M:=Ϸu;rw[RV ϶T (h s) (ϳP ⟨s,M,rfl⟩) (î K1),Tj S λa ha w=>nm.inj a s (lt a ha) ϪX w,uJ nd H]
 simp![R,aN];generalize Y:ϰz=r';apply cD Y (λi m=>∃(fs:Ò)(v:Ö OD),fs.length<=40*i/\(ϧ6 fs<|Ϩy (T.take i))/\m=[É ů,É<|Å<|nD ϶T,É<|Å<|nD T,É<|Å ϫJ,Ď<|nO fs,v]) ⟨[],_,õ,(λs=>⟨϶i ϱJ,λ⟨q,⟨_,h⟩,_⟩=>ϕn⟩),rfl⟩ ?_ ?_
 .rintro i d m hd ⟨fs,v,fl_,hf,rfl⟩
  let hi:Ϧ1:=ϴF ((ϵe hd)) aD
  obtain⟨t,y⟩:∃t,T[i]?=some t:=⟨T[i],Û⟩
  rw[om y]at hd;cases hd;let B:ϵP (Á (t:Int)) (Å<|nD ϶T)=Ú (ß<|Ç<|(t:Int)∈iL ϶T):=ϐY (t:Int)<|iL ϶T;by_cases tm:t∈϶T
  .rw[W6<|kh.mpr tm]at B
   let(s0,G,rfl):=Zc.mp tm;let(l,c):=Zan G;let L:=(Za.mp c).1;simp![B];generalize hW:ϤV=rw';apply nG hW (λq m=>∃(f:Ò)(z:Int),(z=-1/\q=0\/∃p s,S[p]?=Ϸh/\z=Ë (h s)/\q=p+1/\ϷB l p)/\f.length+q<=40*(i+1)/\(∀s∈f,Ϩy ϩQ)/\(∀s∈fs,s∈f)/\(∀s,ϷB l s->s∈f\/∃p,0<q/\q=p+1/\ϷB p s)/\m=[É ů,É<|Å<|nD ϶T,É<|Å<|nD T,É<|Å ϫJ,Ď<|nO f,É<|Á z]) (l+1) ⟨fs,_,Ð ⟨l,s0,c,rfl,rfl,ϹK _⟩,Ã,λs o=>Ψ (tS i _ s y)<|Ê<|(hf s).mp o,λ_ h=>h,λs u=>Ð ⟨l,Ã,rfl,u⟩,rfl⟩
    (λm=>∃(f:Ò)(v:Ö OD),f.length<=40*(i+1)/\(∀s,s∈f↔Ϩy ϩQ)/\m=[É ů,É<|Å<|nD ϶T,É<|Å<|nD T,É<|Å ϫJ,Ď<|nO f,v]) ?_ ?_
   .rintro q m ⟨f,z,hz,fl2_,a1,a2,a3,rfl⟩
    rcases hz with⟨rfl,rfl⟩|⟨p,s,H,rfl,rfl,u⟩
    .left
     constructor
     .simp![S5]
     apply(f,_,Ã,λs=>⟨a1 s,λw=>?_⟩,rfl);rcases(tS i _ s y).mp w with w|⟨q,⟨A,W⟩,J⟩
     .exact a2 s<|Ψ (hf s) w
     let:q=l:=ij q l A L (by rw[W,c];rfl);subst this;rcases a3 s J with w|⟨_,w,_⟩
     .exact w
     lia
    right;let M:=Ϸu;let pl:=ϸX;let Z:Ç (Ë (h s) ≥ 0)=true:=W6 Ã;let el:=zY<|nm.lt s ϪX;let lb:ϴj f.length:=ϸf (Zt (ņ<|f.length<4000) ñ);let ii:=ix p s H;constructor
    .simp![Z]
    simp![ii,nC,lb,iM,el];let e1:=ep p s H;let O:∀x∈f++[p],∃q,(Ϯ8/\ϵi (S[q]?)∈ϩQ)/\ϷB q x:=λx X=>by
     rcases P1.mp X with w|w
     .exact a1 x w
     rw[Y8.mp w];show Ψ (tS i _ p y)<|Ð ⟨l,⟨L,by rw[c];rfl⟩,u⟩
    rcases elt nm.et ϪX with⟨w,_⟩|⟨j,w,wj⟩
    .rw[Os Ã]at e1
     apply(0,Ã,f++[p],_,Ê (ϧ4 (nm.rt s ϪX w)),ϰP Ww K9e,O,λx X=>Ŀ<|a2 x X,λx U=>?_,rfl);rcases a3 x U with I|⟨F,_,A,W⟩
     .exact Ê<|Ŀ I
     let:F=p:=Ã
     subst this;cases W with|self=>show Ê<|Ļ ϩ9|next K _=>lia
    let N:=up s M Ã;rw[w,Xz]at N;rw[P3 Ã,w,Xz]at e1;let D:=E p pl;rw[e1]at D;let hj:=gF N;apply(ϧa+1,Ã,f++[p],_,Ð ⟨ϧa,j,hj,nm.eld s j ϪX w,rfl,?_⟩,ϰP Ww K9e,O,λx X=>Ŀ<|a2 x X,λx U=>?_,rfl)
    .let tr:ϔX (ϱF ϧa) ϧa:=fun{a b} u h=>by
      induction u with|self=>show ϴx h<|ϹK _|next g _ ih=>show ϴx g<|ih h
     show tr u e1
    rcases a3 x U with I|⟨F,_,A,W⟩
    .exact Ê<|Ŀ I
    let:F=p:=Ã
    subst this;cases W with
    |self=>show Ê<|Ļ ϩ9
    |@next _ j' _ K J=>
     rw[e1]at K;let:ϧa=j':=Ã
     show Ð ⟨_,Ã,rfl,by rw[this];show J⟩
   ext ρ' rfl ⟨f,v,fl2_,hf2,rfl⟩;simp![S5];show(f,_,fl2_,hf2,rfl)
  rw[Ll λw=>tm<|kh.mp w]at B;simp![B];apply(fs,_,Ã,λs=>?_,rfl);rw[hf,tS i t s y];apply(Ê,λw=>w.elim id λ⟨q,⟨A,W⟩,_⟩=>Ć (ϳP ?_) tm);let(s',C,M):=V q A;rw[C]at W;show(s',M,W)
 ext ρ' rfl ⟨fs,v,fl_,hf,rfl⟩;rw[aD]at fl_ hf;rw[K8A]at hf;let so:=MZ (e:=e) (P:=λi=>ϵi (S[i]?)∈T) sl (fs:=fs) Ã λs=>Ù hf (λ⟨q,a,u⟩=>⟨Œ (J2 E u a.1),q,a,u⟩,λ⟨_,q,a,u⟩=>⟨q,a,u⟩)
 simp![aQ,so]
end
section
variable{us ts:À Nd}{ch:Nat->Ò}{h:Ě}{fl:å}{c:F}
def Gr(he:ϵr){f:å}{p s:Nat}(H:(Ŝ f)[p]?=Ϸh):Ó (I2 (ϳJ f) p) (λc=>(Ŝ f)[c]?.getD 0)=Ï (f s=true) [] (Ş s):=by
 let M:=Ϸu;let n:=(Yg.mp M).2;rw[Cg (nA ts f) (λk h=>by
  rcases elt he (cW h)with⟨w,_⟩|⟨j,w,_⟩
  .exact Ê w
  let:=sP he h Ã
  rw[w,Xz]at this;show Ð ⟨j,this,w⟩) H]
 delta seen I2;rw[Zbd];let key:∀k,ľ->(Ç (ķ k=(s:Int))&&sn ts f k)=(Ç (ķ k=(s:Int))&& !f s):=λk h=>by
  by_cases w:ķ k=(s:Int)
  .rcases elt he h with⟨W,_⟩|⟨j,W,J⟩
   .lia
   let:j=s:=Ã
   subst this;rw[jM W J,n,Zak]
  rw[Ll w,Zaf,Zaf]
 rw[K8Z λk h=>key k ϯ2];cases f s with
 |true=>rw[Č];show ϳn (λk _=>Û)
 |false=>rw[ϰ6];show K8Z λk _=>Û
def yP(nm:Ο){p s:Nat}(H:(Ŝ ċ)[p]?=Ϸh):(I2 (ϳJ ċ) p).map (λc=>ϵi<|(Ŝ ċ)[c]?)=Ϧ5 (h s):=by
 let e:=Xn (List.map h)<|Gr nm.et H;rw[W5]at e;apply Eq.trans e ?_;delta kf;cases hf:fl (h s)with|true=>rw[Č,Č];rfl|false=>rw[ϰ6,ϰ6,nm.kid s<|cW Ϸu]
def Te{f:å}{p q:Nat}(P:p<Ì (Ŝ f))(Q:q∈I2 (ϳJ f) p):sE ts f q=ŝ:=by
 let(h,H):=rP.mp Q;rw[d6]at h;let hg:=Xb h;rw[ω (H6 (ϳJ f) q=gU (Ŝ f) (ķ<|(Ŝ f)[q])) (ph hg)]at H;delta sE;rw[hg,Zac];delta gU at H;show H
end
structure Z4(us ts:À Nd)(ch:Nat->Ò)(h:Ě)(fl:å)(Z0 ts2:À Nd)(ch2:Nat->Ò)(h2:Ě)(F2:å)(R K S1 S2:Ò):Prop where
 n1:Ο
 n2:Nm Z0 ts2 ch2 h2
 st:X9 us ts ch h fl Z0 ts2 ch2 h2 F2 R K
 e1:S1=Ŝ ċ
 e2:S2=ϪH ϲn
abbrev ou(T:À Nd)(h:Ě)(fl:å)(ts2:À Nd)(H:Ě)(d:å)(R K:Ò)(i:Nat):Prop:=ous T ċ ts2 ϩz R ϥv i
def Gd(T:À Nd)(h:Ě)(fl:å)(ts2:À Nd)(H:Ě)(d:å)(R K:Ò)(n p:Nat):Prop:=p<n/\∀k,k<n->Up (ϧw ϩz) k p->¬ou T h fl ts2 H d R K k
section
variable{us ts Z0 ts2:À Nd}{ch ch2:Nat->Ò}{h h2:Ě}{fl F2:å}{R K S1 S2:Ò}
def Z4.old(W:ϳl){p:Nat}(H:p<S2.length):∃s q,S2[p]?=Ϸh/\s<ts2.length/\R[s]?=Â q/\ϹL=ϳ5 q:=by
 let e:=Xb H;let M:=Zab H;generalize S2[p]=s at e M;rw[W.e2]at M;let S:=cW M;let a:s<R.length:=ϐW W.st.rl
 show(s,_,e,S,Xb a,W.st.hm _ _<|Xb a)
def Z4.inj(W:ϳl){q k:Nat}(H:ľ)(e:ϳ5 q=h k):q=k:=by
 by_cases z:υ q
 .rw[c8 z]at e
  show W.n1.inj q k z H e
 let:=W.n1.lt k H;delta hgH at e;rw[Ε]at e;lia
def Z4.mem(W:ϳl){q:Nat}{L:Ò}(l:∀k∈L,ľ):ϳ5 q∈ϤP↔q∈L:=by
 constructor
 .intro m
  let(k,H,e):=Zc.mp m;rw[W.inj (l k H) e.symm];show H
 ext m;rw[c8<|l q m];show ϳP ⟨q,m,rfl⟩
def Z4.s1(W:ϳl):∀k∈S1,ľ:=λk H=>cW (W.e1▸H)
def Z4.rou(W:ϳl){i:Nat}(hi:i<S2.length):ϕp↔ϥ3∈Ϻ3\/ϥ3∉τ:=by let(s,q,e1,_,y,e):=W.old hi;delta ou ous;rw[<-W.e2,<-W.e1,e1,Zac,y,Zac,e,W.mem W.st.kl,ϒk,kh]
def Z4.good(W:ϳl){p:Nat}(g:ϵx p):∃s q,S2[p]?=Ϸh/\s<ts2.length/\q∈R/\q∉K/\q∈S1/\ϹL=h q:=by let(s,q,e1,E,y,e):=W.old g.1;let no:=g.2 p g.1<|ϹK p;rw[W.rou g.1,e1,Zac,e,W.mem W.st.kl,ϒk,not_or,Classical.not_not]at no;show(s,q,e1,E,Y4 y,no.1,no.2,by rw[e,c8<|ϧf no.2])
def Z4.kids(W:ϳl){p:Nat}(g:ϵx p):Ϫg Ϲ9=Ϧ5 Ϲ9:=by let(s,q,e1,_,y,e,E,d):=ϫa;rw[e1,Zac,d];let(a,b):=W.st.sm q y (ϧf E) e;delta kf;rw[a,b]
def Z4.down(W:ϳl){p c:Nat}(g:ϵx p)(hc:c∈I2 (ϺT ϲn) p):ϵx c:=by
 let P:p<Ì (ϪH ϲn):=W.e2▸g.1;let e:=Te P hc;let l:=(rP.mp hc).1;rw[d6,<-W.e2]at l;apply(l,λk d u=>g.2 k d ?_);let r:∀{a b:Nat},Up (ϧw ϲn) a b->ϧw ϲn b=ŝ->Up (ϧw ϲn) a p:=fun{a b} u h=>by
  induction u with|self=>show ϴx h<|ϹK _|next H _ I=>show ϴx H<|I h
 show r u e
def sgm(h:Ě)(H:Ě)(K q:Ò)(p:Nat):Nat:=ϳi Ϻ3<|H<|q[p]?.getD 0
def Z4.sg(W:ϳl){p:Nat}(g:ϵx p):∃q,S1[϶z p]?=Â q/\h q=Ϲ9:=by
 let(s,q,e1,_,y,E,e,d):=ϫa;apply(q,?_,by rw[e1,Zac,d]);delta sgm;rw[e1,Zac,d,Tj S1 λa A w=>W.n1.inj a q (W.s1 a A) (ϧf e) w];show gF e
def map_inj:∀{L M:Ò},L.map f=M.map f->(∀a∈L,∀b∈M,f a=f b->a=b)->L=M:=by
 ext L
 induction L with
 |nil=>
  ext M e _;cases M with|nil=>rfl|cons=>cases e
 |cons a L ih=>
  ext M e h;cases M with
  |nil=>cases e
  |cons b M=>rw[L4,L4]at e;let(e1,E):=K88 e;rw[h a P0 b P0 e1,ih E λx H y Y=>h x (Ā H) y<|Ā Y]
def Z4.alk(W:ϳl):Alk (ϺT ϲn) (ϳJ ċ) ϶z ϵx:=by
 let nd:S1.Nodup:=W.e1▸nA ts _;apply(ϻh g,ϻh g,λp g c hc=>Ϯa,ϻh g)
 .let(q,a,_):=W.sg g
  rw[d6,d6,<-W.e1,<-W.e2];show(g.1,(Za.mp a).1)
 .let(q,a,b):=W.sg g
  let(s,Q,e1,_,_,_,_,_):=ϫa;let d:=yP (fl:=fl) W.n1 (p:=϶z p) (s:=q) (by rw[<-W.e1];show a);let e:=ϕ2 (ϰy W.e2 e1);let k3:=W.kids g;rw[e1,Zac]at k3 b;rw[<-W.e1]at d;rw[<-W.e2]at e;rw[b,<-k3,<-e]at d;apply map_inj (f:=λc=>ϵi<|S1[c]?) ?_ ?_
  .rw[d,W5]
   apply Ze Ϫb;let(o,A,b2):=W.sg Ϯa;change _=ϵi (S1[϶z c]?);rw[A,Zac,b2]
  ext x H y j w;let L:=(rP.mp H).1;rw[d6,<-W.e1]at L;let(c,hc,rfl):=Zc.mp j;let(o,A,_):=W.sg Ϯa;let Y:=(Za.mp A).1;let w:ϵi (S1[x]?)=ϵi (S1[϶z c]?):=w;rw[Xb L,Xb Y]at w;show qD nd L Y<|W.n1.inj _ _ (W.s1 _<|Zab L) (W.s1 _<|Zab Y) w
 let(q,a,b):=W.sg g;let(s,Q,e1,E,_,_,_,_):=ϫa;rw[e1,Zac]at b;let m:=W.n1.lab q<|ϧf<|Y4 a;let C:=W.n2.lab s E;let n:=W.st.lb (h q)<|W.n1.lt q<|ϧf<|Y4 a;let r:∀{us:À Nd}{R:Ò}{i k:Nat},϶b=Β->gv (kT ϶I) i=Ë (ϵ4).l.length / 2:=fun{us R i k} hk=>by delta gv kT;rw[T2,B4 hk];rfl
 rw[r (show(ϪH ϲn)[p]?=Ϸh by rw[<-W.e2];show e1),r (show(Ŝ ċ)[϶z p]?=Â q by rw[<-W.e1];show a),<-C.1,<-b,n,m.1]
end
section
variable{us ts Z0 ts2:À Nd}{ch ch2:Nat->Ò}{h h2:Ě}{fl F2:å}{R K S1 S2:Ò}{g:Int}{ps qs:À Int}
def Z4.kid2(W:ϳl){p j:Nat}(g:ϵx p)(J:j∈Ϫg Ϲ9):∃c,c∈I2 (ϺT ϲn) p/\j=h2 (S2[c]?.getD 0):=by
 let(s,Q,e1,_,_,_,_,_):=ϫa;let k:=ϕ2 (ϰy W.e2 e1);rw[e1,Zac,<-k,<-W.e2]at J;let(c,hc,e):=Zc.mp J;show(c,hc,e.symm)
def Z4.go(W:ϳl)(d1:DrR (ϺT ϲn) g ps)(d2:DrR (ϳJ ċ) g qs)(he:EL (ϺT ϲn)){n m:Nat}(r:Rch Ϫg n m):∀p,ϵx p->n=Ϲ9->∃P,ϵx P/\m=h2 (S2[P]?.getD 0)/\ϲc P-ϲc p=gv qs (϶z P)-gv qs (϶z p)/\Rch Ϧ5 n m:=by
 induction r with
 |self n=>exactλp G e=>⟨p,G,e,Ã,ϹK n⟩
 |@next n j m J _ I=>ext p G e;subst e;let k3:=W.kids G;let(c,hc,e):=W.kid2 G J;let(P,g',a,b,r):=I c (W.down G hc) e;let T:=W.alk.step he d1 d2 G hc;show(P,g',a,Ã,ϴx (k3▸J) r)
def Z4.back(W:ϳl){n m:Nat}(r:Rch Ϧ5 n m):∀p,ϵx p->n=Ϲ9->Rch Ϫg n m:=by
 induction r with|self n=>exactλ_ _ _=>ϹK n|@next n j m J _ i=>ext p g e;subst e;rw[<-W.kids g]at J;let(c,hc,e):=W.kid2 g J;show ϴx J<|i c Ϯa e
def bgD(us:À Nd)(ch:Nat->Ò)(fl:å)(L:Ò):À ς:=L.map λn:Nat=>(Ê Ũ,Å<|Ó (Ϧh n) int)
def Oo{n:Nat}{L:Ò}(h:n∈L):mi (϶k L) (Ê Ũ)=Â (Å<|Ó (Ϧh n) int):=by
 delta mi bgD
 induction L with
 |nil=>cases h
 |cons a L ih=>
  rw[L4,K8p];by_cases z:a=n
  .subst z
   rw[ω (Ç (ϷQ ϱv=Ê ϱv)=true) ϻq];rfl
  let:à (Ç (ϷQ ϱv=Ê Ũ)):=Ll λw=>z (Œ<|K7w w);rw[this];rcases W7.mp h with w|w
  .exact Ć w.symm z
  show ih w
def Gj(W:ϳl){c c2:F}(pt:ó)(t:PT ts2 c2)(l1:Ľ)(l2:Ϧn)(d1:DrR (ϺT ϲn) g ps)(d2:DrR (ϳJ ċ) g qs){A:Ò}(hA:∀k,k<S2.length->k∉A->ϵx k):
  di [Ϗ4,Å<|nD ϱq,Å ϰK,ϻy τ qs S1.length,ϻy ϱq ps S2.length,dD<|϶k τ]=Ú (ß true):=by
 let s2l:S2.length<=40:=by
  let:=gO ts2 ϲn;rw[<-W.e2]at this;lia
 let D:(ϰs τ):=Ù W.e1 (όL ts W.n1.inj)
 let N:(ϰs ϱq):=Ù W.e2 (όL ts2 W.n2.inj)
 let H:EL (ϺT ϲn):=G9 W.n2.et t.pos;let at2:∀{p:Nat},p<S2.length->ϱq[p]?=Â Ϲ9:=fun{p} hp=>ϳB T2 (Xb hp)
 let at1:∀{p:Nat},ϵx p->τ[϶z p]?=Â Ϲ9:=fun{p} G=>by let(q,a,b):=W.sg G;rw[T2,a,<-b];rfl
 delta di g_;let b2:Ĳ S2.length:=ax Ã;let sk:ā aG ((Ë S2.length)):=ϱo Ã;simp![aD,K1,b2,sk];generalize hL:ϰz=r';apply ϮY (λi u=>∃v6 V C f:Ö OD,u=[É Ϗ4,É<|Å<|nD ϱq,É<|Å ϰK,É<|ϻy τ qs S1.length,É<|ϻy ϱq ps S2.length,É<|dD<|϶k τ,v6,V,C,f]) ⟨_,_,_,_,rfl⟩
 .rintro i d u hd ⟨v6,V,C,f,rfl⟩
  let(hi,rfl):=eM hd;rw[Xz]at hi;let O:Ë 0+ë=ë:=K8P _;let ga:T1 (nD ϱq) ë=Â (Á (ϥ3:Int)):=bW<|om<|at2 hi;let v:ϵS (Á ë) (Å ϰK)=Ú (ß<|! Ç (ë∈iL A)):=ϐo ë<|iL A;by_cases I:i∈A
  .rw[W6<|kh.mpr I,Zbc]at v
   simp![O,ga,v];show(_,_,_,_,rfl)
  rw[Ll λw=>I<|kh.mp w,Zal]at v;let G:=hA i hi I;let(s,q,e1,e2,_,_,E,J):=W.good G;let gi:ϧD S2 0=s:=ϰd e1
  let(L2,n2,l,ll2,o,j):=BN (fl:=F2) W.n2 t l2 e2;let(L1,n1,M,ll1,S,_):=ϚE<|ϧf E;rw[<-J]at S M;let nn:ϹL=ϥ3:=ϱl gi
  let se:Ϧh ϹL=ώi:=by
   rw[S,o];apply O_ n1 n2 λm=>?_;rw[M,l];show(λr=>W.back r i G nn,λr=>(ϖ7).choose_spec.2.2.2)
  let x:=Oo (us:=us) (ch:=ch) (fl:=fl) (n:=ϹL) (L:=τ)<|ϳP ⟨q,E,J.symm⟩;rw[se]at x;let ge:∀L:À Int,ϕM (Å Ϫw)=Ú (ß false):=λL=>oR<|lay_ints L;rw[gi]at ga;let Q:=ϔg<|at2 hi;let U:=ϔh<|at1 G;rw[gi,K1]at Q U;let mem:∀z∈ώi,∃m:Nat,z=ϰG/\Rch Ϫg ϹL m:=λz Z=>by rw[o]at Z;let(m,e,hm):=MB Z;show(m,e,(l m).mp hm)
  generalize ώi=B at j x mem;let kg:∀x0 x1 x2 x3 x4 Y x8 x9:Ö OD,vb Ϸk ϵ9 (eC æ) [x0,x1,x2,x3,x4,É<|dD<|϶k τ,Y,É<|Á (ϹL:Int),x8,x9]=Ú (Å<|B.map int):=λx0 x1 x2 x3 x4 Y x8 x9=>by rw[Om (L0:=϶k τ) (i:=(ϹL:Int)) rfl ϰS rfl ϰS rfl,x];rfl
  simp![O,ga,v,j,cM,↓kg,ge];generalize y:ϰz=r2;apply cD y (λ_ u=>∃f:Ö OD,u=[É Ϗ4,É<|Å<|nD ϱq,É<|Å ϰK,É<|ϻy τ qs S1.length,É<|ϻy ϱq ps S2.length,É<|dD<|϶k τ,É<|Á ë,É<|Á (ϹL:Int),É<|Å<|B.map int,f]) ϶D ?_ ?_
  .rintro k d u hd ⟨f,rfl⟩
   rw[T2]at hd;let(z,Z,rfl):=϶d hd;let(m,rfl,r):=mem z<|Y4 Z;let(P,g',e',v',_):=ϖ7;let T:=ϔg<|at2 g'.1;let X:=ϔh<|at1 g';rw[K1,<-e']at T X;let dv:Ç (ϲc P-ϲc i=gv qs (϶z P)-gv qs (϶z i))=true:=W6 v';simp![Vh,Q,U,T,X,gV,fS,oI,oD,dv];show(_,rfl)
  ext ρ' rfl ⟨f,rfl⟩;simp![S5];show(_,_,_,_,rfl)
 ext ρ' rfl ⟨v6,V,C,f,rfl⟩;simp![S5]
end
def sC:L3.erase []=[]:=rfl
def T4(L:À Int):uS (.ol<|cj L)=ϲC (cj L):=by
 delta uS cj;let h:(Ó Ϫw OD.sh).all ϶s=true:=K7r.mpr λy Y=>by
  rw[W5]at Y;let(k,_,rfl):=Zc.mp Y;change flat (Ă<|Á k).er=true;rw[aS];rfl
 change(Ï ((Ó Ϫw OD.sh).all ϶s=true) (ϧo (Ó (Ó Ϫw OD.sh) λy=>Ă y.er)) R.bad)=_;rw[Os h,W5,W5,W5];apply Xn (λz=>ϧo z)<|ϧT ?_;change Ă (Ă<|Á k).er=Ă (Á k);rw[aS]
def So(L:Ò):uS (.ol Ϸw)=ϲC Ϸw:=T4 ϰL
def Ha:OD->č
 |.od L0=>Ï (ā L0.all ϭy) (ϵZ L0) È
 |_=>È
def JG:yz a ρ=X6 Ha (a ϤA):=by
 delta yz;cases a ϤA with
 |ok x=>cases x<;>rfl
 |ex c=>rfl
 |bad=>rfl
def Vb(L:Ò)(ps:À Int)(n:Nat):Ha (.od<|ϺM n)=ϵZ (ϺM n):=by
 delta Ha;apply Os<|K7r.mpr λp h=>?_;let(j,_,rfl):=Ϻ8;rfl
def NZ(k:À ς):GX (dD k) æ=Ú (ß false):=rfl
section
variable{us ts Z0 ts2:À Nd}{ch ch2:Nat->Ò}{h h2:Ě}{fl F2:å}{c:F}{g:Int}{an D:Gc}{R K S1 S2:Ò}
def Mc(S:϶p)(u:όw 190)(a:IsD ts.length D):Ref us ts ch h fl g an D\/Acc us ts ch h fl g an D:=by
 rcases a with⟨b,k,K,rfl⟩|⟨x,e,p,H,he,rfl⟩|⟨x,H,rfl⟩|⟨e,i,bs,way,he,r,U,rfl⟩
 .exact E5 S K b
 .exact EI S H he
 .exact FP S H
 let(d,q,_):=A1 r;cases bs with
 |nil=>show Ć r.pos.1 á
 |cons b bs=>show Je S q U ϕK u he
def EH{a:L3.Env}{i j k:Nat}{us u:À Nd}{K s:À OD}{y:OD}(H:ϰ5=Â (Â<|ϰq K fl))(g:a[k]?=Â (Â ϲa))(hr:ϧL (ϰq K fl) [D] (stK u s F2,y)):qQ j 8 i aT (ī<|aa k) a=ü ((ϲU<|Â<|stK u s F2).set j γ):=by
 delta qQ pA;rw[H];change(ã (ī (aa k) a) λY=>ã (ke 8 aT (ϰq K fl)<|Y.map OD.er) λr=>.ok (ϲU<|Â<|u7 (ϰq K fl) r.1,r.2)).bind (λr=>L3.R.ok<|Out.nx<|ύ8<|Â r.2)=_;rw[PR g,aF,L4,Z_,aS,tF hr,aF];rfl
def Sm.nds(S:϶p):(ϰs ((Ŝ ċ).map h)):=όL ts S.nm.inj
def KA{L:Ò}{n:Nat}(h:n∉L):putD (϶k L) (Ê Ũ) (Å<|Ó (Ϧh n) int)=϶k (L++[n]):=by
 rw[ua λp H=>?_]
 .unfold bgD
  rw[Wx];rfl
 let(j,J,rfl):=ϵ3;ext w;let w:ą=Ũ:=K7w w;show h ((ņ<|j=n)▸J)
theorem Cv{nm:Str}{y:OD}(W:ϳl)(L:Ϧn)(yk:y.er=Å (nD Ϻ3))(G:F4 D (Á 0)=Ú (Ô nm))(nn:þ (Ç ϮM||Ç (ϻz nm))->∀j q,R[j]?=Â q->sn ts2 ϲn j=true->q∈Ŝ ċ):
  ∃(T:Ò)(y2:OD),ϱs 60/\y2.er=Å (nD T)/\(∀i,i<S2.length->(ϥ3∈T↔ϕp))/\∀x0 x1 x2 x3 x4 f g l m x X c d:Ö OD,
   X5 (uX (au<|Ϲw (Î F4 10<|eC<|Á 0)<|eC<|Ô "cut")<|au<|Ϲw (Î F4 10<|eC<|Á 0)<|eC<|Ô "fold") (ϐn<|aC 14<|Î bB 14<|Ů (aa 15) (au<|Î ϵS 0 ĉ) ù 1 [5]) Wz
    [x0,x1,x2,x3,x4,É<|Å<|nD τ,f,g,l,m,Â ϲa,x,X,c,γ,É<|Å<|nD ϱq,d]=ü [x0,x1,x2,x3,x4,É<|Å<|nD τ,f,g,l,m,Â ϲa,x,X,c,Â y2,É<|Å<|nD ϱq,d]:=by
 let S:S2.length<=40:=by
  let:=gO ts2 ϲn;rw[<-W.e2]at this;lia
 cases hc:Ç ϮM||Ç (ϻz nm)with
 |true=>
  apply(Ϻ3,y,by rw[K1];let:=W.st.k2;lia,yk,ϸ4,?_)
  .rw[W.rou hi]
   apply(Ê,λw=>w.elim id λw=>Ć ?_ w);let(s,q,e1,z,E,t):=W.old hi;let v:s∈ϪH ϲn:=W.e2▸Y4 e1;let:=nn hc s q E (Yg.mp v).2;rw[e1,Zac,t,ϒk,W.e1];show this
  ext x0 x1 x2 x3 x4 f g l m x X c d;cases h1:decide ϮM with|true=>simp![G,h1]|false=>rw[h1,Bool.false_or]at hc;simp![G,h1,hc]
 |false=>
  rw[Zcg]at hc;let(c1,C):=hc;apply(Ϻ3++é ϱq λn=>! Ç (n∈τ),.ol<|nO<|Ϻ3++é ϱq λn=>! Ç (n∈τ),?_,ϲK eP aQ,ϸ4,?_)
  .let:=K8i (λn=>! Ç (n∈τ)) ϱq
   let:=W.st.k2;rw[Ww,K1];rw[K1]at*;lia
  .rw[W.rou hi,P1,Yg]
   let:ϥ3∈ϱq:=ϳP ((ϱt (Ù ϹH (Zab hi))));simp[this]
  ext x0 x1 x2 x3 x4 f g l m x X c d;let r:∀x0 x1 x2 x3 x4 f g l m o x X c p d:Ö OD,Ů (aa 15) (au<|Î ϵS 0 ĉ) ù 1 [5] [x0,x1,x2,x3,x4,É<|Å<|nD τ,f,g,l,m,o,x,X,c,p,É<|Å<|nD ϱq,d]=ĥ nO (é ϱq λn=>! Ç (n∈τ)):=λx0 x1 x2 x3 x4 f g l m o x X c p d=>by
   simp![S5];generalize u:Ż=rc
   let e:=gN u (Į<|int Þ) (λn=>! Ç (n∈τ)) (Į<|.sh<|Á Þ) ϱq ϸE (Ù K1<|ν Ã) (by
    ext k H;let M:ϵS (Á Þ) (Å<|nD τ)=Ú (ß<|! Ç (Þ∈iL τ)):=ϐo Þ<|iL τ;rw[ω (Ç (Þ∈iL τ)=Ç (k∈τ)) (Ϩ3 kh)]at M;apply(?_,ϵf)
    .simp![M]
    simp![S5])
   subst e;simp![S5];rw[gE]
  let U:Ĳ (Ì (nD Ϻ3)+Ì (nD<|é ϱq λn=>! Ç (n∈τ))):=by
   rw[aD,aD];let:=K8i (λn=>! Ç (n∈τ)) ϱq;let:=W.st.k2;rw[K1];rw[K1]at*;show ax Ã
  let ap:∀a b:Ò,Ó (nD a++nD b) OD.sh=nO (a++b):=λa b=>by delta nO nD iL;simp only[Wx]
  simp![G,c1,C,yk,↓r,aQ,U,ap]
end
section
variable{us ts:À Nd}{ch:Nat->Ò}{h:Ě}{fl:å}{c:F}{g:Int}{A:Ò}
def MQ(h:ϭ2)(x0 x1:Ö OD)(r:L3.Env):ϱS aU "redrawn" 2 ai (x0::x1::É (ϬH<|Å ϰK)::r)=ϲC (nO A):=zq (vm Û) (Ew h) rfl
def CA(h:ϭ2)(x0 x1:Ö OD)(r:L3.Env):wJ (ϱS aU "redrawn" 2 ai) (Ρ<|eC<|Á 1) (x0::x1::some (Ő<|ϵM fl<|Å ϰK)::r)=ü (x0::x1::some (Ő<|ϵM fl<|Å ϰK)::r):=by
 delta wJ;rw[iK,iK,iK,Zae,tU,Jo,MQ h,aF];change(Ï (Ì (nO A)<I6) (ã (Ρ (eC<|Á 1) _) λ_=>R.ok (Out.nx _)) È)=_;rw[Os<|Ù nC (Yf<|dX Ã)];rfl
def Ld{way:À Int}(r:W1 8 ts way)(a:Ľ):∃(us:À Nd)(ch:Nat->Ò)(h:Ě)(fl:å)(c:F),϶p/\϶U us.length/\b9 [Å Ĉ]=ò (ϰq (ū ch) fl)/\∀g,aW 3 bR (Ő []) [Å Ĉ,Á g] (Ő<|ϵM ċ<|Å<|nD Ř,ı æ):=by let he:ϵr:=r.elder;let H:=r.pos.1;let(c,p,_):=A1 r;show(ts,Ş,λi=>i,ϲr,c,(NJ he Ã,p,a,(λk _ h=>ϱJ),(VH r).2,ϕK),rfl,vV ts he H Ã,λg=>J7 ts a g)
def IQ(ns:À Int)(hn:ns.length<=63):wH [Å ő]=Ú (ß true):=by
 delta wH Bp;let(z0,hz0):=ώT 0 á;let(z1,hz1):=ώT 1 á;let m10:=dW z0 (ϱd<|Ë 0<10);obtain⟨many,hm⟩:∃many:Nat,1+z0%10=Ë many:=⟨ē (1+z0%10),Ã⟩
 let(ts,way,gr,tl,ht):=K5 ns 2 many 9 8 á á Ã Ã á á á á;let gr:W1 8 ts way:=gr;let hl:Ľ:=Ã
 let lb:Ĳ ts.length:=ax Ã;generalize hg:1+z1%20=g;let(us,ch,h,fl,c,S,ul,st,it):=Ld gr hl;let nw:∀(x2 x3 x4 x5 m o q B P l X a p b e:Ö OD),ϔ8 (ae (Ϫh<|Í 1 ai)<|ae (œ (eC<|Á 1)<|ϰ0 (ϩ8<|Í 0<|Ŭ (Á 1) ai)<|eC<|Á 20) ai) [É<|Å ő,É<|Å Ĉ,x2,x3,x4,x5,m,o,q,B,P,l,X,a,p,b,e]=.ok (Ő<|ϵM ċ<|Å<|nD Ř):=λx2 x3 x4 x5 m o q B P l X a p b e=>by
  let ha:(ae (Ϫh<|Í 1 ai)<|ae (œ (eC<|Á 1)<|ϰ0 (ϩ8<|Í 0<|Ŭ (Á 1) ai)<|eC<|Á 20) ai) [É<|Å ő,É<|Å Ĉ,x2,x3,x4,x5,m,o,q,B,P,l,X,a,p,b,e]=ò [Ĩ Ĉ,.sh<|Á g]:=by simp![hz1,hg,az,lb]
  delta xW;rw[ha,aF,L4,L4,Z_,aS,eP,aN,tF<|it g,aF]
 obtain⟨Z,hZ,Zl⟩:∃Z:À Int,cutD ő (Â 13) (Â 25)=Z.map int/\Z.length<=12:=by
  apply((ns.drop<|ϵ2 ((Ì ő))<|Â 13).take<|ϥY ((Ì ő)) (Â 25)-ϵ2 ((Ì ő)) (Â 13),ϴh cutD K7d Zbe,?_);let e1:=HT.vx (Ì ő) 0 13;let e2:=HT.vx (Ì ő) (Ì ő) 25;let e1:ϵ2 ((Ì ő)) (Â 13)=min 13 (Ì ő):=e1;let e2:ϥY ((Ì ő)) (Â 25)=min 25 (Ì ő):=e2;rw[Zg,e1,e2];lia
 let es:=λ(ts:List Nd)(g:Int)(fl:Nat->Bool)(an:Gc)=>Jo (ts:=ts) (g:=g) (fl:=fl) (an:=an);let lr:=Jq ts.length Ã;let fz:∀(E:L3.Env),Q_ η 14 E=E:=ϺV;let b7:Ĳ (ϱF 7):=ax á;let same:∀{us ts:À Nd}{ch:Nat->Ò}{h:Ě}{fl:å}{c:F}{A:Ò},϶p->∃f Q,f=(Ŝ ċ)/\DrR (ϳJ ċ) g Q/\bH [ů,ß false]=ĥ nO ϱ6/\dg [Xp ts g ċ<|Å ϰK,Å<|nD ϱ6]=ϵZ (plD ϱ6 Q f.length):=fun{us ts ch h fl c A} S=>by
  let dr:=(ui (g:=g) (fl:=ċ) S.nm.et S.pt.pos S.l S.b).2.1;let od:=ϖF false;rw[ϰ6]at od;let pl:=Ei (g:=g) (an:=Å ϰK) S.nm.et S.pt.pos S.l S.b S.nds<|K1 ..;rw[K1]at pl;show(_,_,rfl,dr,od,pl)
 let(f,Q,e1,d1,od,pl):=same (A:=Ř) S;let se:=tZ fl Ϻg;let rl:Ì Ř<=200:=î Wu
 let al:=zm Ř (î Wu);let rm:=Ϩ1 (MQ (ts:=ts) (g:=g) (fl:=ċ) rl x0 x1 r);simp![hz0,hm,ht,aN,az,lb,↓nw,st,lr,iK,sC,Zae,Zat,tU,es,se,od,So,aQ,JG,pl,Vb,Ax,NZ,↓rm,al,fz,hZ];generalize hL:ϰz=r';apply ϮY (λi E=>∃(us ts2:À Nd)(ch:Nat->Ò)(h:Ě)(fl:å)(c:F)(A f:Ò)(Q:À Int)(v7 v8 v9 v10 v11 O v V I J:Ö OD),Sm us ts2 ch h fl c/\όw (10+3*i)/\ϭ2/\f=(ϪH ċ)/\DrR (ϺT ċ) g Q/\E=[É<|Å ő,É<|Å Ĉ,some<|Ő<|ϵJ ċ<|Å ϰK,Â<|ϰq (ū ch) fl,É<|Å ϰK,É<|Å<|nD ϱ6,É<|ϻy ϱ6 Q f.length,v7,v8,v9,v10,v11,O,v,V,I,J]) ⟨us,ts,ch,h,fl,c,_,f,Q,_,_,_,_,_,_,_,_,_,_,S,Ã,rl,e1,d1,rfl⟩
 .rintro i d E hd ⟨us,ts2,ch,h,fl,c,A,f,Q,v7,v8,v9,v10,v11,O,v,V,I,J,S,ul,Al,e1,d1,rfl⟩
  let hi:i<Z.length:=ϴF ((ϵe hd)) K1
  rw[T2]at hd;let(x,_,rfl):=϶d hd;let S0:=S.pt.pos;let Sl:=S.l;let(D,iD,N):=My ϗI ts2.length S0 Ã;generalize hz:ϗI=z at N;let od:=ϖF true;rw[Č]at od;let se:=tZ fl Ϻg;let b2:Ĳ ts2.length:=ax Ã;rcases Mc (g:=g) (an:=Å ϰK) S Ã iD with⟨w,w0,du,sa⟩|⟨du,sa,U,t,ch2,H,C,y,c2,R,K,nm,G,l2,sp,yk,gx,nn,rs,rd⟩
  .let sx:∀(s1:Fs)(x0 x1 x4 x5 m o q B X a p b e:Ö OD),Ϗ1 (Í 10 ai) 11 s1 Wz [x0,x1,some<|Ő<|ϵJ ċ<|Å ϰK,Â<|ϰq (ū ch) fl,x4,x5,m,o,q,B,Â ϲa,É<|Á w,X,a,p,b,e]=ü [x0,x1,some<|Ő<|ϵJ ċ<|Å ϰK,Â<|ϰq (ū ch) fl,x4,x5,m,o,q,B,Â ϲa,É<|Á w,X,a,p,b,e]:=ϓD (OQ rfl rfl rfl sa)
   let al:=zm A Ã;let rm:=Ϩ1 (MQ (ts:=ts2) (g:=g) (fl:=ċ) Al x0 x1 r);let q3:=Ϩ1 (CA (ts:=ts2) (g:=g) (fl:=ċ) Al x0 x1 r);simp![hz,b7,iK,sC,Zae,Zat,tU,es,se,od,aQ,aD,Wu,b2,N,du,↓sx,w0,↓q3,↓rm,al];show(us,ts2,ch,h,fl,c,A,f,Q,_,_,_,_,_,_,_,_,_,_,S,Ã,Al,e1,d1,rfl)
  let sx:∀(s1:Fs)(x0 x1 x4 x5 m o q B X a p b e:Ö OD),Ϗ1 (Í 10 ai) 11 s1 Wz [x0,x1,some<|Ő<|ϵJ ċ<|Å ϰK,Â<|ϰq (ū ch) fl,x4,x5,m,o,q,B,Â ϲa,É<|Á 0,X,a,p,b,e]=ü [x0,x1,some<|Ő<|aK t g Ϻs<|Å<|nD<|nwL ts2 ċ t Ϻs R ϥv,Â<|ϰq (ū ch) fl,x4,x5,m,o,q,B,Â ϲa,É<|Á 0,X,a,p,b,e]:=ϓD (OA rfl rfl rfl á sa rs);let d0:∀E:L3.Env,eD0 E=ϵZ (϶k<|ζ ϱ6 0):=ϺV;simp![hz,b7,iK,sC,Zae,Zat,tU,es,se,od,aQ,aD,Wu,b2,N,du,↓sx,d0];generalize hL2:ϰz=r2;generalize M:nwL ts2 ċ t Ϻs R ϥv=A2 at sx hL2;apply cD hL2 (λk E=>∃v:Ö OD,E=[É<|Å ő,É<|Å Ĉ,some<|Ő<|aK t g Ϻs<|Å<|nD A2,Â<|ϰq (ū ch) fl,É<|Å ϰK,É<|Å<|nD ϱ6,É<|ϻy ϱ6 Q f.length,É<|Á x,É<|Á z,É<|Å kinds,Â ϲa,É<|Á 0,϶Y<|϶k<|ζ ϱ6 k,v,V,I,J]) ϶D ?_ ?_
  .rintro k d E hd ⟨v,rfl⟩
   let Y:k<Ì ϱ6:=ϴF ((ϵe hd)) aD
   let hn:=Xb Y;rw[om hn]at hd;cases hd;let tk:ζ ϱ6 k++[ϱ6[k]]=ζ ϱ6 (k+1):=ϳB Zbh hn
   let(s,sm,hs):=Zc.mp<|Zab Y;let ni:ϱ6[k]∉ζ ϱ6 k:=λw=>by let nd:=S.nds;rw[<-e1,<-Zau k ϱ6,K8M Y]at nd;show(Ya.mp nd).2.2 _ w _ P0 rfl
   let pf:=KA (us:=us) (ch:=ch) (fl:=fl) ni;rw[tk]at pf;let(_,_,_,_,_,fb):=Ϛp<|cW (e1▸sm);rw[hs]at fb;generalize ϱ6[k]=n at pf fb;let bl:ϴj (Ì (϶k<|ζ ϱ6 k)):=by
    delta bgD;let:=gO ts2 ċ;rw[<-e1]at this;rw[K1,Zg,K1];show dX Ã
   simp![zw,iK,sC,Zae,Zat,tU,es,se,fb,T4,cM,yY,bl,pf];show(_,rfl)
  ext ρ' rfl ⟨v,rfl⟩;rw[aD,K8A];let(S3,ps,e3,d3,od3,pl3):=same (A:=A2) G;let W:Z4 us ts2 ch h fl U t ch2 H C R K f S3:=⟨S.nm,G.nm,sp,e1,e3⟩;let(T,y2,Tl,yT,ti,tq):=Cv W G.l yk gx nn;let an:=M7 (fl:=C) G.nm G.l e3 Tl;let ea:anw (sE t Ϻs) S3.length (λi=>H (ϧD S3 0)∈T)=A2:=ϔE M_ ti
  rw[ea]at an;let L:A2.length<=200:=by
   let:=gO t Ϻs;let:=G.l;rw[<-M];delta nwL anw;apply ϬI ?_;rw[Wu];lia
  let ah:=Gj W S.pt G.pt S.l G.l d3 d1 (A:=A2) λk Y nk=>⟨Y,λj hj u ho=>nk<|ϔE sL.mpr ⟨Y,j,⟨hj,ho⟩,u⟩⟩
  let se2:=tZ C<|ki U.length ch2;let sq:∀x0 x1 x2 x4 x5 m o q B l X a p b e:Ö OD,ϕ4 (Í 10 ai) [x0,x1,x2,Â<|ϰq (ū ch) fl,x4,x5,m,o,q,B,Â ϲa,l,X,a,p,b,e]=ü [x0,x1,x2,Â<|stK U (Wv U.length ch2) C,x4,x5,m,o,q,B,Â ϲa,l,X,a,γ,b,e]:=λx0 x1 x2 x4 x5 m o q B l X a p b e=>EH (i:=3) (j:=14) (k:=10) rfl rfl rd;let al:=zm A2 Ã;let rm:=Ϩ1 (MQ (ts:=t) (g:=g) (fl:=Ϻs) L x0 x1 r);let q3:=Ϩ1 (CA (ts:=t) (g:=g) (fl:=Ϻs) L x0 x1 r);simp![↓sq,iK,sC,Zae,Zat,tU,es,se2,yk,od3,So,aQ,↓tq,yT,an,JG,pl3,Vb,Ax,NZ,ah,↓q3,↓rm,al];show(U,t,ch2,H,C,c2,A2,S3,ps,_,_,_,_,_,_,_,_,_,_,G,Ã,L,e3,d3,rfl)
 ext ρ' rfl ⟨us,ts2,ch,h,fl,c,A,f,Q,v7,v8,v9,v10,v11,O,v,V,I,J,S,ul,Al,e1,d1,rfl⟩;simp![S5]
end
abbrev Pm(K:At)(x:Str)(T:No)(f:Ix):Prop:=Ė K x=Â (Â<|Ä f)/\∃d,ϻ1
def df1{T:No}(X:ϳN)(G:ϸP mg)(q:Ė K x=Â (Â<|Ä f))(F:ϻ1)(e:Ϸ4 1)(b:∀(kV doc pm:Db)(an:Ö Ix)(c ct A:Db),ϥJ [A]):Ġ x T ps f d:=⟨F,϶0 q,F.binds λ_ _ _ _ _ _ us a=>by let(_,rfl):=ex1<|a.trans e;show b ..⟩
def Z1{T:No}(X:ϳN)(G:ϸP mg)(q:Ė K x=Â (Â<|Ä f))(F:ϻ1)(e:Ϸ4 2)(b:∀(kV doc pm:Db)(an:Ö Ix)(c ct A a:Db),ϥJ [A,a]):Ġ x T ps f d:=(ϨB (by let(_,_,rfl):=ex2 Ϫx;show b ..))
def df3{T:No}(X:ϳN)(G:ϸP mg)(q:Ė K x=Â (Â<|Ä f))(F:ϻ1)(e:Ϸ4 3)(b:∀(kV doc pm:Db)(an:Ö Ix)(c ct A a g:Db),ϥJ [A,a,g]):Ġ x T ps f d:=(ϨB (by let(_,_,_,rfl):=ex3 Ϫx;show b ..))
def df4{T:No}(X:ϳN)(G:ϸP mg)(q:Ė K x=Â (Â<|Ä f))(F:ϻ1)(e:Ϸ4 4)(b:∀(kV doc pm:Db)(an:Ö Ix)(c ct A g i p:Db),ϥJ [A,g,i,p]):Ġ x T ps f d:=(ϨB (by let k:=Ϫx;cases us with|nil=>cases k|cons a r=>let(_,_,_,rfl):=ex3<|Nat.succ.inj k;show b ..))
def df5{T:No}(X:ϳN)(G:ϸP mg)(q:Ė K x=Â (Â<|Ä f))(F:ϻ1)(e:Ϸ4 5)(b:∀(kV doc pm:Db)(an:Ö Ix)(c ct A g i p t:Db),ϥJ [A,g,i,p,t]):Ġ x T ps f d:=(ϨB (by let k:=Ϫx;cases us with|nil=>cases k|cons a r=>cases r with|nil=>cases k|cons a r=>let(_,_,_,rfl):=ex3 ϔK;show b ..))
def df6{T:No}(X:ϳN)(G:ϸP mg)(q:Ė K x=Â (Â<|Ä f))(F:ϻ1)(e:Ϸ4 6)(b:∀(kV doc pm:Db)(an:Ö Ix)(c ct A g i p t j:Db),ϥJ [A,g,i,p,t,j]):Ġ x T ps f d:=(ϨB (by let k:=Ϫx;cases us with|nil=>cases k|cons a r=>cases r with|nil=>cases k|cons a r=>cases r with|nil=>cases k|cons a r=>let(_,_,_,rfl):=ex3<|Nat.succ.inj ϔK;show b ..))
def all_mk{l:PySem.W.OpenLaw}{w:Ev}{K:At}{h:Op}{mg:ĳ}{fa:Ix}(X:ϳN)(G:ϸP mg)(hfa:mg "law"=Â (Ä fa))
  {o b j k g:Ix}
  {y q6 q7 q8 q9 qa qb qc qd qe qf qg qh qi qj qk ql qm qn qo qp qq qr qs qt qu qv qw qx qy qz q10 q11 q12 q13 q14 q15 q16 q17 q18 q19 q q1b q1c q1d q1e f q1g q1h q1i Q c L m n q1o q1p i q1r q1s t:Ix}
  {q1u q1v:Ö Ix}
  {q1w:ϰ3 Ch}
  {q1x q1y q1z q20 p q22:Db}
  {q23:Tok}
  {q24:Tok}
  {q25:Tok}
  (q26:Ė K "Easel"=Â (Â<|Ä y))
  (r:İ "check_node" nP q6)
  (u:İ "node_levels" l9 q7)
  (B:İ "reaches" p_ q8)
  (D:İ "bough_end" pX q9)
  (F:İ "renumbered" gw qa)
  (H:İ "nearest" qA qb)
  (J:İ "joined_outline" b8 qc)
  (q2l:Υ (Ä y) "__init__"=Â (Â<|Ä qd))
  (q2m:ϴT (Ä qd))
  (q2n:∃d,ϳ1 "__init__" "Easel.__init__" ic qd d)
  (q2o:Υ (Ä y) "redrawn"=Â (Â<|Ä qe))
  (q2p:ϴT (Ä qe))
  (q2q:∃d,ϳ1 "redrawn" "Easel.redrawn" jG qe d)
  (R:İ "unchanged" pV qf)
  (x:İ "kept_folds" gM qg)
  (V:İ "with_elders" lI qh)
  (z:İ "_law_cell" pk qi)
  (Z:İ "_law_whole" nu qj)
  (A:İ "_law_label" mX qk)
  (C:İ "_law_start" gA ql)
  (E:İ "_law_order" nK qm)
  (I:İ "_law_elders" lM qn)
  (M:İ "_law_below" nz qo)
  (N:İ "_law_drawn_deed" gH qp)
  (O:İ "_law_seen_below" gz qq)
  (S:İ "children_of" iT qr)
  (U:İ "shown" vL qs)
  (W:İ "check_unfold" ko qt)
  (Y:İ "numbers_beside" h_ qu)
  (q3n:İ "number_behind" i8 qv)
  (q3p:İ "bounded" uz qw)
  (q3r:İ "earliest_places" d7 qx)
  (q3t:İ "latest_places" fB qy)
  (q3v:İ "moved_to_side" dO qz)
  (q3x:İ "_law_tree" oQ q10)
  (q3z:İ "_law_level" n8 q11)
  (q41:İ "_law_taken_out" ip q12)
  (q43:İ "_law_anew" oW q13)
  (q45:İ "_law_as_ahead" jA q14)
  (q47:İ "check_fold" nW q15)
  (q49:İ "cut_off" uC q16)
  (q4b:İ "put_in" wa q17)
  (q4d:İ "moved" qI q18)
  (q4f:İ "room_of" uA q19)
  (q4h:Υ (Ä y) "seen"=Â (Â<|Ä q))
  (q4i:ϴT (Ä q))
  (q4j:∃d,ϳ1 "seen" "Easel.seen" nS q d)
  (q4k:İ "_law_height" iP q1b)
  (q4m:İ "_law_put_word" fA q1c)
  (q4o:İ "_law_done" lh q1d)
  (q4q:İ "stands_below" gu q1e)
  (q4s:Υ (Ä y) "settle"=Â (Â<|Ä f))
  (q4t:ϴT (Ä f))
  (q4u:∃d,ϳ1 "settle" "Easel.settle" eE f d)
  (q4v:İ "_law_due" nU q1g)
  (q4x:İ "_law_alike" m_ q1h)
  (q4z:İ "pieces" pH q1i)
  (q51:Υ (Ä y) "fold"=Â (Â<|Ä Q))
  (q52:ϴT (Ä Q))
  (q53:∃d,ϳ1 "fold" "Easel.fold" og Q d)
  (q54:Υ (Ä y) "unfold"=Â (Â<|Ä c))
  (q55:ϴT (Ä c))
  (q56:∃d,ϳ1 "unfold" "Easel.unfold" fY c d)
  (q57:Υ (Ä y) "cut"=Â (Â<|Ä L))
  (q58:ϴT (Ä L))
  (q59:∃d,ϳ1 "cut" "Easel.cut" pB L d)
  (q5a:Υ (Ä y) "put"=Â (Â<|Ä m))
  (q5b:ϴT (Ä m))
  (q5c:∃d,ϳ1 "put" "Easel.put" pL m d)
  (q5d:Υ (Ä y) "move"=Â (Â<|Ä n))
  (q5e:ϴT (Ä n))
  (q5f:∃d,ϳ1 "move" "Easel.move" nh n d)
  (q5g:İ "drawn" zZ q1o)
  (q5i:İ "_law_do" uN q1p)
  (q5k:Υ (Ä y) "drawing"=Â (Â<|Ä i))
  (q5l:ϴT (Ä i))
  (q5m:∃d,ϳ1 "drawing" "Easel.drawing" i_ i d)
  (q5n:İ "_law_said" oV q1r)
  (q5p:İ "_law_places" l6 q1s)
  (q5r:Ė K "law"=Â (Â<|Ä t))
  (q5s:K.lookup t=Â ⟨q1x,q1u,.func<|ϓO æ q1y q1z q20 q1v p q22,q1w⟩)
  (q5t:όc p "law"=true)
  (q5u:ϴX K (Ä t))
  (q5v:Ϫm y Str.empty=true)
  (q5w:hasDictIn K y=true)
  (q5x:ϑd y=true)
  (q5y:Υ (Ä y) "__setattr__"=ϳb (ğ "object.__setattr__"))
  (q5z:makesIn K y=true)
  (q60:ϴX K (Ä y))
  (q61:Υ (Ä y) "__class__"=ϳb (ğ "object.__class__"))
  (q62:mroIn K y (ć "object")=ϱ3)
  (q63:Υ (Ä y) "tree"=η)
  (q64:Υ (Ä y) "gap"=η)
  (q65:Υ (Ä y) "folds"=η)
  (q66:Υ (Ä y) "anew"=η)
  (q6g:ϷE (Ä y))
  (gg:ϑe (ğ "object.__class__") "__get__"=ϳb (ğ "getset_descriptor.__get__"))
  (gt:takesIn K (ğ "object.__class__")=ϱ3)
  (q6h:Ė K "ValueError"=η)
  (q6i:Ė K "bool"=η)
  (q6j:Ė K "enumerate"=η)
  (q6k:Ė K "int"=η)
  (q6l:Ė K "isinstance"=η)
  (q6m:Ė K "len"=η)
  (q6n:Ė K "list"=η)
  (q6o:Ė K "max"=η)
  (q6p:Ė K "min"=η)
  (q6q:Ė K "range"=η)
  (q6r:Ė K "set"=η)
  (q6s:Ė K "sorted"=η)
  (q6t:Ė K "str"=η)
  (q6u:Ė K "tuple"=η)
  (q6v:Ė K "zip"=η)
  (q6w:Ė K "GREATEST_LEVEL"=Â (Â<|Á 8 q23))
  (q6x:Ė K "MOST_NODES"=Â (Â<|Á 40 q24))
  (q6y:Ė K "SHREDS"=Â (Â<|Á 256 q25)) (q6z:Ė K "DrawError"=Â (Â<|Ä o)) (q70:Ė K "NoDeed"=Â (Â<|Ä b)) (q71:Ė K "NoNode"=Â (Â<|Ä j)) (q72:Ė K "NoPlace"=Â (Â<|Ä k)) (q73:Ė K "NoTree"=Â (Â<|Ä g)) (q7o:excIn K o [ć "ValueError",ć "Exception",ć "BaseException",ć "object"] "ValueError.__new__"=true) (q7p:Ϲp (Ä b) (Ä o)=ϱ3) (q7q:Ϲp (Ä j) (Ä o)=ϱ3) (q7r:Ϲp (Ä k) (Ä o)=ϱ3) (q7s:Ϲp (Ä g) (Ä o)=ϱ3) (q7t:ϷE (Ä b)) (q7u:ϰu (Ä b) (Ä j)) (q7v:ϰu (Ä b) (Ä k)) (q7w:ϰu (Ä b) (Ä g)) (q7x:ϰu (Ä j) (Ä b)) (q7y:ϷE (Ä j)) (q7z:ϰu (Ä j) (Ä k)) (q80:ϰu (Ä j) (Ä g)) (q81:ϰu (Ä k) (Ä b)) (q82:ϰu (Ä k) (Ä j)) (q83:ϷE (Ä k)) (q84:ϰu (Ä k) (Ä g)) (q85:ϰu (Ä g) (Ä b)) (q86:ϰu (Ä g) (Ä j)) (q87:ϰu (Ä g) (Ä k)) (q88:ϷE (Ä g)) (q89:ϹU (Ä b)) (q8a:ϹU (Ä j)) (q8b:ϹU (Ä k)) (q8c:ϹU (Ä g)) (z0:ϴz b) (z1:ϴz j) (z2:ϴz k) (z3:ϴz g):
  ∃fd:Fk,(∀(s:Da)(v:Db),Ϯb ((ϰI [v])) [("_law_script",v)])/\∀base:Op,K.In base->ώm mg->E2 l.prog w K mg base W9 9 fa fd Ϗi (ϸ9 wH):=by
 let e:=hfa.symm.trans<|϶0 q5r;cases e;let(r,_,q8e):=r;let(u,_,q8g):=u;let(B,_,q8i):=B;let(D,_,q8k):=D;let(F,_,q8m):=F;let(H,_,q8o):=H;let(J,_,q8q):=J;let(q8r,q8s):=q2n;let(q8t,q8u):=q2q;let(R,_,q8w):=R;let(x,_,q8y):=x;let(V,_,q90):=V;let(z,_,q92):=z;let(Z,_,q94):=Z;let(A,_,q96):=A;let(C,_,q98):=C;let(E,_,q9a):=E;let(I,_,q9c):=I;let(M,_,q9e):=M;let(N,_,q9g):=N;let(O,_,q9i):=O;let(S,_,q9k):=S;let(U,_,q9m):=U;let(W,_,q9o):=W;let(Y,_,q9q):=Y;let(q3n,_,q9s):=q3n;let(q3p,_,q9u):=q3p;let(q3r,_,q9w):=q3r;let(q3t,_,q9y):=q3t;let(q3v,_,qa0):=q3v;let(q3x,_,qa2):=q3x;let(q3z,_,qa4):=q3z;let(q41,_,qa6):=q41;let(q43,_,qa8):=q43;let(q45,_,qaa):=q45;let(q47,_,qac):=q47;let(q49,_,qae):=q49;let(q4b,_,qag):=q4b;let(q4d,_,qai):=q4d;let(q4f,_,qak):=q4f;let(qal,qam):=q4j;let(q4k,_,qao):=q4k;let(q4m,_,qaq):=q4m;let(q4o,_,qas):=q4o;let(q4q,_,qau):=q4q;let(qav,qaw):=q4u;let(q4v,_,qay):=q4v;let(q4x,_,qb0):=q4x;let(q4z,_,qb2):=q4z;let(qb3,qb4):=q53;let(qb5,qb6):=q56;let(qb7,qb8):=q59;let(qb9,qba):=q5c;let(qbb,qbc):=q5f;let(q5g,_,qbe):=q5g;let(q5i,_,qbg):=q5i;let(qbh,qbi):=q5m;let(q5n,_,qbk):=q5n;let(q5p,_,qbm):=q5p;let qbn:=BS (st:=q_) q5s q5t q5u;let T:Wd K mg ⟨y,o,b,j,k,g,q6,q7,q8,q9,qa,qb,qc,qd,qe,qf,qg,qh,qi,qj,qk,ql,qm,qn,qo,qp,qq,qr,qs,qt,qu,qv,qw,qx,qy,qz,q10,q11,q12,q13,q14,q15,q16,q17,q18,q19,q,q1b,q1c,q1d,q1e,f,q1g,q1h,q1i,Q,c,L,m,n,q1o,q1p,i,q1r,q1s,_,_,_,_,_,_,_,_,_,_,_,_,_,_,_,_,_,_,_,_,_,_,_,_,_,_,_,_,_,_,_,_,_,_,_,_,_,_,_,_,_,_,_,_,_,_,_,_,_,_,_,_,_,_,_,_,_,_,_⟩:=⟨ϳL q6h,ϳL q6i,ϳL q6j,ϳL q6k,ϳL q6l,ϳL q6m,ϳL q6n,ϳL q6o,ϳL q6p,ϳL q6q,ϳL q6r,ϳL q6s,ϳL q6t,ϳL q6u,ϳL q6v,⟨_,϶0 q6w⟩,⟨_,϶0 q6x⟩,⟨_,϶0 q6y⟩,϶0 q6z,϶0 q70,϶0 q71,϶0 q72,϶0 q73,z0,z1,z2,z3,q7o,q7p,q7q,q7r,q7s,q7t,q7u,q7v,q7w,q7x,q7y,q7z,q80,q81,q82,q83,q84,q85,q86,q87,q88,q89,q8a,q8b,q8c,q26,϶0 q26,⟨⟨q5v,q5w,q5x,q5y⟩,q61,gg,gt,q62⟩,⟨q5z,q2l,q2m,q60⟩,q63,q64,q65,q66,ϱR q57 q58 qb8.kp,ϱR q5k q5l qbi.kp,ϱR q51 q52 qb4.kp,ϱR q5d q5e qbc.kp,ϱR q5a q5b qba.kp,ϱR q2o q2p q8u.kp,ϱR q4h q4i qam.kp,ϱR q4s q4t qaw.kp,ϱR q54 q55 qb6.kp,q6g,ϵ8 r q8e rfl Μ,ϧM u q8g rfl ϥX,ϧM B q8i rfl ϥX,ϵ8 D q8k rfl Μ,ϵ8 F q8m rfl Μ,Ϥ7 H q8o rfl ϻP,ϵ8 J q8q rfl Μ,ϷH q8s q8s.binds (by let(_,_,_,rfl):=ex3 a;rfl),ϷH q8u q8u.binds ύN,ϧM R q8w rfl ϥX,ϵ8 x q8y rfl Μ,ϱ1 V q90 Μ,ϱ1 z q92 Μ,ϧM Z q94 rfl ϥX,ϵ8 A q96 rfl Μ,ϧM C q98 rfl ϥX,ϵ8 E q9a rfl Μ,ϧM I q9c rfl ϥX,ϵ8 M q9e rfl Μ,Ϥ7 N q9g rfl ϻP,ϵ8 O q9i rfl Μ,ϵ8 S q9k rfl Μ,ϵ8 U q9m rfl Μ,Ϥ7 W q9o rfl ϻP,ϵ8 Y q9q rfl Μ,ύh q3n q9s,ϱ1 q3p q9u Μ,ϱ1 q3r q9w Μ,Ϥ7 q3t q9y rfl ϻP,Ϥ7 q3v qa0 rfl ϻP,df5 X G q3x qa2 rfl λ_ _ _ _ _ _ _ _ _ _ _=>rfl,ϱ1 q3z qa4 Μ,ϱ1 q41 qa6 Μ,Ϥ7 q43 qa8 rfl ϻP,ϔi q45 qaa,Ϥ7 q47 qac rfl ϻP,ϱ1 q49 qae Μ,ύh q4b qag,ύh q4d qai,ϱ1 q4f qak Μ,ϷH qam qam.binds ύN,ϱ1 q4k qao Μ,ϔi q4m qaq,ϱ1 q4o qas Μ,ϱ1 q4q qau Μ,ϷH qaw qaw.binds ύs,ϱ1 q4v qay Μ,ϱ1 q4x qb0 Μ,ϱ1 q4z qb2 Μ,ϷH qb4 qb4.binds ύE,ϷH qb6 qb6.binds ύE,ϷH qb8 qb8.binds ύE,ϷH qba qba.binds ύs,ϷH qbc qbc.binds ύs,ϱ1 q5g qbe Μ,ϱ1 q5i qbg Μ,ϷH qbi qbi.binds ύN,ϱ1 q5n qbk Μ,ϱ1 q5p qbm Μ⟩
 apply(ϓO æ q1y q1z q20 q1v p q22,λs v=>.of_eq rfl,λbase _ _=>?_);let g1:=mk1 (P:=l.prog) (w:=w) (base:=base) T;let g2:=mk2 T g1;let g3:=mk3 T g1 g2;let g4:=mk4 T g1 g2 g3;let g5:=mk5 T g1 g2 g3 g4;let g6:=mk6 T g2 g5;let g7:=mk7 T g3 g6;let g8:=mk8 T g7;show RB qbn T g1 g2 g3 g4 g7 g8
end B
universe g1CK8DTgLOE n2vyN9u2pdn gabjvkDwya3 kqG0DZ5X2gE rolqG8yoH7N nHU3wIjkKsl jGKtTwij44M iizfYJuwRxE iHAPs2njSFB agOeIwiTtu1 n6IzttzdYcX oL9t18uWiyu e9gw5R8pG46 kIBruFuNEDb oJQEKtQQveQ vslxqnCzzwF lW9VFwdASBu v3POT9VLwO4 jtCxMVMnITA vaBSSOpN4Bl reNhXZ0QDox gSNnal7V1nd iIZtn9wMozZ sG8MV8ky3Dc dUvIvkE46UF mj2bVsYDvV9 vLJmbMRNr7x uq7bHW05Djj cuGWkFYorqO uJza6fM7PcT rl6Twmq4osQ n83wE7SrsWw iwG0PK8ap8F gxx5348SNxW tFmD8seBFee uaenpmhBh9x ai75TP2dG9O lkRJ9wbufbo lh2eXe1vqw3 fH46HjChs4t iu7Jxb69afj op0UcijkiC2 lyVJVOWkuM7 lQaVD2nqxww hZWG1Rj83tq cL9DdTJQb3O oSwZYvxbnf3 h7gku3LYgel eqaRAGG7mQV eOjVshmpz7P iu9KBTG7169 pLZQGh0cinw c684ETW9LW6 r4daN3S9H55 vJGwfBpYKPo fJkZeHd266y nQibnfXORJX oWZhiCfWW6I hEbssT3CAmf n1v0wKsQejm ku9qAuV5DwA sokmvqPtnz6 kDtTUcvYeEf nvZINt35Od8 ryM0J6Lu3A2 czf0I0RMoVJ vKSQQMdjQOq jp26nAlVwbz lP2qih233Gl h5SDy2YUjBo mATDNGZY5wA mebcUI2noSF uPGtfm5RV1w oCfUiVHu6YN qqCvbqO8L4D c6y70AUUthQ fD8Nc5vXiWM swUssvvxk2t cx7jC3dVSK5 e4HnlEqwMbA uwBq60cRG1E vvA6G6wgsqD pUhfbxnF2nD vV8Gk8qaNo2 cWrxAg91rkf pMpYKz5lst6 jW2QPt5uehk urZrTWAlwpS aG700gpfsGc fY6lM5SeYWX lltXLagEg16 cIPHuvgnHEM hSCdLEbQxKd pNsMM9kftnf hVbL2lN2PlC bT1bcypF5aG m9ZDLjAomo0 g1XGsoRBgcA mBIIfDnvu1U pUnNQSU7Erg awG3Hx78Vmp f8cEfPUGPuu dMWbd2GhMP8 cERhM4cWFyN lK3S1qFHbu3 ih6x7eXpp2f fRpSHHzFrXe ve1i9ptspGK lgkjFITyVoa owVeXo8LpOm ovTb2yYliQy hwiGpMqft7Y oKZH2Zh13sx khKExhzeNED aK52OiUQPJV lFHHPXtF8cp fRqoZEXipFI uz5U9at3GWj eeB7sHwxy2x kJb3fZRDaPk laRGvKMqP4B kyxOEWAhjUk mPbeaPwTBI3 a9608IF1uJE sYrcCsesKrr aSzgdanDlRI svAJSxEYGYO fwEkJjhWyTF n1nnFYEylD4 mxoCia6gmVX rpI2phdOPyT mg3uYRIEATd kYTbp3U8ATb p3Cq7pj92hD dMh5HYN8sBx tf0ryYtRr1m iZAGuyXQzHm v7e8rQqDJh8 ekmpE5cyYbY r4FB0ApBB0v ky0o7p7IUlb dTTnakP1JUU j7gEX22RH3T j4UzdAUuQMo j7HauNIKPQJ kUrvQL70oPq iVl8ttUrFDZ sSbjrIY6S6y hYFsrSg6aZN iGKDpjTTiFX sG4B5I8XbfF gGrBREwdhVL j78ptQAdJSg dsKfR8S9nHz otzCt11qw8p i4UYg0kSi04 fZRY2Ayjo07 ujlNP28gbEo fEddXuB5ML9 osxMFVAmZe0 sQzrx3pW3Rv fVqb16BRUAi bV8bj0lU3fS msqGoftgpVP rVYYnD7gIFb hU4Sj634z3h pfut4eC2pDz tX0xel07P19 avjIvGMOhC6 iAUlRacsOSa cc8igkNTlzn rWnwvUCoLy6 jh4lNzaQa22 fdXBpx1pX0Z ktveFC1cIJW fl30VxcuqeT jXlakg5SQwJ oMpm4khSQsl tNbsFbDKgMq fOJEBstwyjv dNmvYH03aFX rlVu4LGgxhn siAC8pXFija mMIQI63Akzk uAG46CidTmr fc86PcacYH8 etA2tTlyCwm rhaFIgxz2z0 pXWg1xSCEBU iTwgyV8nMT6 hnfQjxbt3hH rBLOKXDatGl hIE4RY5UNgo jETqpjDhPKn f7sYrLlFdE4 ovI0dQQaRZi gyVTVYxFRIn cfOMMR8I6Qv h6uPaICY1jy goe3UvtS3wF fI9YM22WJZu v6dQFKRUxNT iSJGuIR6syq grZl38Cf8to pddLCdVio5v qlC3rnlSjcN gNbdJ58fVOx czeH2LwwsEu vnDi94bkcnN fYjlRQVKcze u3tJBJjxJLN rvnZAK7aqjJ pZIntjUeUCF mhcfwd0AZfD k8nWIjSU5SA rmXyQibmBTp eSKUydgi6W3 iH9RWUIZhbX fqXpu5toOJ3 ujJpSCOSaBK uw04uUDFja9 qAj7mHfUlEC qMtHoonqIF7 i9Zw2aNiLqL aA4UFAmIlnC lgoZfhlvMsd kwBQIYRsmh0 hCcJxggsQwI eMsFnniCm4C ax4deqpC5VX dz4AwwMsv8W ovAMGeKLywZ v1Ev7ZhPL2L lrJXk4d3Ft8 c6DivkcZC0U jWUtITDp0M6 kjqczP612aa qe32mWv5AND pxtqiOY5O30 iRTaJOmeZWQ fiJXN3GTp84 eGGk5jmtstc vmfoTReXMn1 twE4Sbx5LnF seHX4rUpUW6 rzst2hWtzA0 pDozL6wvVJm lOKxPKfD6YG qPgPySqa0aT f9PN3yYBuBt lPgOL5NsI2g jNsvilFboJx iL9IeZQeGvJ gyIrWvnBH7w fYomh9p8hDt fiRk224u3EN vr03LXfEkad ujoAvP22x94 rPUP966NRbP rqvpU9kKjjF nVzeTkuUQcM blfQNHoWnay k3P3FsagweP kTId1O2VsdZ jrvHaqtvFxW jih5kwsiWpC iYOGD4AUksb ijFsm2u2ADe hG7whOfEdC0 aUvnqtyPDNd gIpwMRKuyi0 gwAk6yC3z24 aMHdogEqevB fIKwn7ppvig vU8Ew2NQTv0 vwht97Rp6JI vdhgzK9RZRF t1f46L0wk2p bWlT1aPUmZi runbzvQsu0d qMRc8R9DPPO qFWziXdblhI qwAC0RJ8nf2 oWpxJu3Sqrl orKJscsEJiA nuVTGYouZIW njnmcGFehOJ m5XpRldikI2 mQYSixFGO4R kfWk5hSNRNr jNhtqOVamz5 ox6oo7FZ03z qR7utqACEpp mnrZqI4JMCO sPp9s8Atssr j5gvhJgINnW rp27mrKkSv3 ip1gnPxCwK0 aLjV74dNynw uQUrF5a3TY7 bUGtq54Et9H vl6NYcA1xmm uRrLnUoz4Fi
open PySem PySem.W PyProof.Rows
set_option tactic.hygienic true
set_option maxRecDepth 100000 in
set_option maxHeartbeats 0 in
theorem PySem.Challenge.cw_boughdraw_k75_redrawn_holds : PySem.Challenge.rw_boughdraw_k75_redrawn.Holds := by
 w_on;o_law;k_head;(case hw=>w_witness2)
 k_fill
 apply L3.Ul (l:=PySem.Challenge.rw_boughdraw_k75_redrawn) (x:="_law_script") (k:=9) (fn:=B.wH) rfl rfl ⟨rfl,by decide,by decide⟩ (λw h Y=>PySem.W.kIn_of Y) B.IQ ?F
 case F=>
  ext w mg fa h KX G hmg;refine' B.all_mk KX G hmg ?_ ?_ ?_ ?_ ?_ ?_ ?_ ?_ ?_ ?_ ?_ ?_ ?_ ?_ ?_ ?_ ?_ ?_ ?_ ?_ ?_ ?_ ?_ ?_ ?_ ?_ ?_ ?_ ?_ ?_ ?_ ?_ ?_ ?_ ?_ ?_ ?_ ?_ ?_ ?_ ?_ ?_ ?_ ?_ ?_ ?_ ?_ ?_ ?_ ?_ ?_ ?_ ?_ ?_ ?_ ?_ ?_ ?_ ?_ ?_ ?_ ?_ ?_ ?_ ?_ ?_ ?_ ?_ ?_ ?_ ?_ ?_ ?_ ?_ ?_ ?_ ?_ ?_ ?_ ?_ ?_ ?_ ?_ ?_ ?_ ?_ ?_ ?_ ?_ ?_ ?_ ?_ ?_ ?_ ?_ ?_ ?_ ?_ ?_ ?_ ?_ ?_ ?_ ?_ ?_ ?_ ?_ ?_ ?_ ?_ ?_ ?_ ?_ ?_ ?_ ?_ ?_ ?_ ?_ ?_ ?_ ?_ ?_ ?_ ?_ ?_ ?_ ?_ ?_ ?_ ?_ ?_ ?_ ?_ ?_ ?_ ?_ ?_ ?_ ?_ ?_ ?_ ?_ ?_ ?_ ?_ ?_ ?_ ?_ ?_ ?_
  all_goals try first|(refine'⟨?a,_,L2.BS ?l ?c ?k⟩;(case a=>k_is);(case l=>k_is);(case c=>k_is);(case k=>k_is))|k_is|kernel_rfl|(refine'⟨_,L2.BS ?l ?c ?k⟩;(case l=>k_is);(case c=>k_is);(case k=>k_is))|(refine'⟨?_,?_,?_,?_,?_⟩<;>first|k_is|kernel_rfl)

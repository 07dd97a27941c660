import PyProof.Rows.All
import Wide.All
import OpenK.AllK
import Wide.FinOn
import Lean
import PyProof.EqAt
import PyProof.EqKinds
import PyProof.TupleCall
import PyProof.Rows.StrJoinRep
import KE.KUnpack
import KE.KDictList
import PySem.Challenge.RW_boughdraw_k63_pictures_refused
set_option Elab.async false
set_option linter.all false
set_option genSizeOf false
set_option compiler.reuse false
set_option compiler.extract_closed false
set_option maxRecDepth 100000
open List (range replicate)
open PySem.PyData (int)
noncomputable section
section
open Lean
def mqD(n:Name)(t:Term):MacroM Syntax:=`(command|def $(mkIdent n):ident :=$t)
def mqW(s:Syntax):MacroM Syntax:=
 let n:=s[1][1][0].getId.toString
 match s[1].getHeadInfo with|.original ..=>pure ((if s[1].getKind==`Lean.Parser.Command.definition&&!(n.startsWith "mq"||n=="pzS")then s.setArg 0 (s[0].setArg 4 (.node .none `null #[.node .none `Lean.Parser.Command.noncomputable #[.atom .none "noncomputable"]]))else if s[1].getKind==`Lean.Parser.Command.structure||s[1].getKind==`Lean.Parser.Command.inductive then s.rewriteBottomUp (·.setInfo .none)else s).modifyArg 1 (·.setArg 0 (.atom .none "")))|_=>Macro.throwUnsupported
def mqU(s:Syntax):MacroM Syntax:=
 let l:=s[1].getArgs.toList
 let p:=s[1][0].getId.toString.toList
 let w:=p.length/(l.length-1)
 if p.length<9 then Macro.throwUnsupported else (.node .none `null<|List.toArray .)<$>if s[0].isToken "include" then l.tail.zipIdx.mapM λ(x,j)=>do mqD (.mkSimple (.ofList ((p.drop (j*w)).take w))) (<-`(@$(⟨x⟩)))
 else l.mapM λi=>mqD (.str `PySem.W.Fast ("tw"++Nat.repr (i.getId.toString.foldl (λn c=>let k:=c.toNat;n*62+if k>96 then k-97 else if k>64 then k-39 else k+4) 0))) (mkIdent `trivial)
end
local macro_rules(kind:=Lean.Parser.Command.declaration)|s=>mqW s
local macro_rules(kind:=Lean.Parser.Command.universe)|s=>mqU s
local macro_rules(kind:=Lean.Parser.Command.include)|s=>mqU s
open PySem.W (instObj methodObj lookIn plainGet hasDictIn findIn plainGet_of isFn plainOver takerIn makesIn emptyDict looks_findIn specialIn keepIn takesIn mroIn callWith_K cellsFrom_some fnOf codeIn nsIn kitOne kia_one excIn subIn mg_of mg_none_of)
abbrev Ch:=PySem.W.Frag
abbrev Da:=Option PySem.Value
abbrev Db:=PySem.Shared
abbrev Do:=PySem.Value
abbrev Ev:=PySem.Program
abbrev Fk:=PySem.World
abbrev Gc:=PySem.FuncData
abbrev Go:=PySem.PyData
abbrev Is:=PySem.Around
abbrev Ix:=PySem.Addr
abbrev No:=PySem.Stmt
abbrev On:=PySem.Expr
abbrev Op:=PySem.Heap
local macro_rules
 |`(tactic|trivial)=>`(tactic|first|exact Or.inl rfl|exact Or.inr (Or.inl rfl)|exact Or.inr (Or.inr rfl))
include OsP3UfI4OeW1S5Z1Z3ScPiZoZyL0Z6ZsZkZqZwTlY7Y2ZzTkTsZrZhZlRwZ7ZtZaZbZc if_pos if_neg List.mem_cons_self List.length_map List.getElem?_map List.map_cons List.length_append List.length_range List.mem_cons_of_mem PySem.wpAny_bind decide_eq_false List.length_cons Bool.false_ne_true Nat.le_refl List.map_append PySem.Heap.lt_size List.length_take List.length_singleton List.append_nil decide_eq_true List.mem_append and_self Option.some.inj List.map_map List.mem_of_getElem? PySem.wpAny_pure congrArg List.mem_range List.getElem?_eq_getElem List.mem_cons List.map_congr_left List.getElem?_eq_some_iff Option.map_eq_some_iff List.mem_map
include K9tK9nK9mK9lK9kK9gK9cK9aK9ZK9XK9WK9VK9UK9TK9PK9OK9NK9MK9KK9IK9FK9EK9DK9CK9BK9AK99K98K97K95K94K93K92K91K90K8zK8yK8xK8wK8tK8sK8rK8qK8pK8oK8nK8mK8lK8kK8jK8iK8hK8gK8fK8eK8dK8cK8bK8aK8ZK8YK8XK8WK8VK8UK8TK8SK8RK8QK8PK8OK8NK8MK8LK8KK8JK8IK8HK8GK8FK8EK8DK8CK8BK8AK89K88K87K86K85K84K83K82K81K80K7zK7yK7xK7wK7vK7uK7tK7sK7rK7qK7pK7oK7nK7mZaaZabZacZadZaeZafZagZahZaiZajZakZalZamZanZaoZapZaqZarZasZatZauZavZawZaxZayZazZbaZbbZbcZbdZbeZbfZbgZbhZbiZbjZbkZblZbmZbnZboZbpZbqZbrZbsZbtZbuZbvZbwZbxZbyZbzZcaZcbZccZcdZceZcfZcgZchZciZcjZckZclZcmZcnZcoZcpZcqZcrZcsZctZcuZcvZcwZcxZcyZczZdaZdbZdcZddZdeZdfZdgZdhZdiZdjZdkZdlZdmZdnZdoZdpZdqZdrZdsZdtZduZdvZdwZdxZdyZdzZeaZeb List.mem_append_right Int.toNat_natCast List.mem_append_left PySem.Heap.get?_push_of_some decide_eq_true_eq PySem.W.mg_of List.getElem?_eq_none List.getElem?_append_right List.getElem?_range List.lookup_cons List.size_toArray List.getElem?_append_left Bool.and_eq_true List.nodup_append Nat.lt_of_lt_of_le Nat.ne_of_lt PySem.Heap.get?_push_size List.append_assoc List.ext_getElem? List.getElem?_set_self PySem.PassesOwn.never List.getElem?_set_ne List.map_nil Nat.le_trans List.nil_append PySem.W.mg_none_of List.replicate_succ PyProof.Rows.callWith_type1 List.getElem?_take_of_lt List.mem_singleton of_eq_true List.length_range' List.cons_append Nat.le_succ List.take_of_length_le List.length_set List.length_drop Nat.zero_le List.nodup_nil Array.length_toList List.take_append_of_le_length List.length_replicate Nat.min_eq_left List.find?_cons List.filter_append Nat.lt_irrefl PySem.wpAny_mono PySem.Heap.size_push List.nodup_cons Bool.eq_iff_iff List.length_filter_le PySem.wpAny_Call_Name_kw Ne.symm Nat.lt_succ_of_lt PySem.wpAny_field Nat.lt_succ_self Nat.sub_self PySem.wpAny_truthy_bool List.flatten_cons List.getElem?_replicate PySem.SeqAt.canLay_of_shaped PySem.wpAny_passesOwn PySem.wpAny_execs_nil PySem.W.kia_one List.length_nil List.reverse_cons List.getElem?_zipIdx Int.zero_add beq_self_eq_true List.not_mem_nil List.filter_cons List.drop_eq_getElem_cons PySem.mem_of_lookup PySem.wpAny_comprehension_free PySem.W.callWith_K Nat.add_sub_cancel List.length_zipIdx PySem.F.plainAttrs_list PySem.codeAny_mono PySem.wpAny_loadPart_at PySem.W.cellsFrom_some List.take_length List.cons.inj PySem.W.looks_findIn List.range_succ List.mem_filter List.filterMap_cons Nat.zero_add PySem.call_meets List.getElem?_drop if_true PySem.sizeLine_eq Sum.inl.inj PySem.wpAny_newObj_type List.any_cons List.all_cons PySem.wpAny_call_entry List.all_eq_true List.of_mem_zip PySem.Heap.get?_update_self Array.getElem?_toList PySem.boot_len List.take_zero List.range_eq_range' List.Pairwise.filter List.take_succ_cons PySem.wpAny_standAt List.map_take Bool.and_self List.getElem?_of_mem List.getD_eq_getElem?_getD List.exists_cons_of_ne_nil List.eq_nil_of_length_eq_zero List.getElem_mem Classical.byContradiction List.cons_ne_nil Nat.eq_zero_or_pos Option.map_some List.getElem?_cons_succ List.mem_of_mem_take List.sum_cons List.flatMap_append List.flatMap_cons Int.le_refl List.getElem_of_mem List.mem_range'_1 List.mem_or_eq_of_mem_set Option.getD_some List.replicate_zero Nat.lt_trichotomy Nat.add_zero List.take_append_drop Nat.mul_le_mul_right List.length_zip List.flatMap_singleton List.set_eq_take_append_cons_drop Array.toList_extract List.mem_of_mem_drop List.getElem?_set List.pairwise_map Nat.sub_zero List.takeWhile_cons Nat.le_of_not_lt List.pairwise_lt_range List.drop_eq_nil_of_le Bool.false_eq_true List.map_replicate List.dropLast_concat_getLast Nat.lt_of_le_of_lt List.sum_append List.set_append_right Bool.not_eq_true' List.foldl_append List.reverse_reverse List.getElem?_zip_eq_some Array.getElem?_eq_getElem List.exists_mem_of_ne_nil List.range'_succ List.flatMap_map List.append_ne_nil_of_right_ne_nil List.contains_cons Nat.not_lt_zero List.zip_cons_cons Int.natCast_add Array.all_eq_true' Array.getElem?_setIfInBounds_ne List.takeWhile_append_dropWhile Int.mul_le_mul_of_nonneg_right List.map_set Bool.not_eq_true Int.mul_le_mul_of_nonneg_left List.flatMap_nil List.replicate_succ' Nat.add_assoc Int.le_antisymm Bool.or_eq_true Nat.le_of_lt Nat.ne_of_gt List.map_inj_right List.ne_nil_of_mem List.getElem?_take List.pairwise_iff_getElem List.drop_zero List.take_add_one Nat.one_mul List.pairwise_singleton List.map_drop Option.getD_none List.any_eq_true Nat.succ_ne_self List.drop_length Nat.mul_mod_left List.head?_eq_getElem? List.foldl_cons Classical.choose_spec List.append_inj List.range'_append_1 Array.size_map Int.mul_nonneg List.map_id List.reverse_append List.length_reverse List.filter_eq_self Option.isSome_some List.getElem_idxOf Bool.not_true Int.mul_assoc Nat.mul_comm List.any_map List.set_set Int.le_of_lt Nat.succ_pos Nat.lt_or_ge Int.add_mul Nat.add_mul
set_option hygiene false
section
variable{A B C D E F G:Sort _}{g P Q R S T U V W X:Prop}
theorem mx1{P:A->Prop}(h:∃a,P a)(k:∀a,P a->g):g:=h.elim k
theorem mx2{P:A->B->Prop}(h:∃a b,P a b)(k:∀a b,P a b->g):g:=h.elim λa h=>mx1 h (k a)
theorem mx3{P:A->B->C->Prop}(h:∃a b c,P a b c)(k:∀a b c,P a b c->g):g:=h.elim λa h=>mx2 h (k a)
theorem mx4{P:A->B->C->D->Prop}(h:∃a b c d,P a b c d)(k:∀a b c d,P a b c d->g):g:=h.elim λa h=>mx3 h (k a)
theorem mx5{P:A->B->C->D->E->Prop}(h:∃a b c d e,P a b c d e)(k:∀a b c d e,P a b c d e->g):g:=h.elim λa h=>mx4 h (k a)
theorem mx6{P:A->B->C->D->E->F->Prop}(h:∃a b c d e f,P a b c d e f)(k:∀a b c d e f,P a b c d e f->g):g:=h.elim λa h=>mx5 h (k a)
theorem mx7{P:A->B->C->D->E->F->G->Prop}(h:∃a b c d e f i,P a b c d e f i)(k:∀a b c d e f i,P a b c d e f i->g):g:=h.elim λa h=>mx6 h (k a)
theorem mz2(h:P∧Q)(k:P->Q->g):g:=k h.1 h.2
theorem mz3(h:P∧Q∧R)(k:P->Q->R->g):g:=mz2 h.2 (k h.1)
theorem mz4(h:P∧Q∧R∧S)(k:P->Q->R->S->g):g:=mz3 h.2 (k h.1)
theorem mz5(h:P∧Q∧R∧S∧T)(k:P->Q->R->S->T->g):g:=mz4 h.2 (k h.1)
theorem mz6(h:P∧Q∧R∧S∧T∧U)(k:P->Q->R->S->T->U->g):g:=mz5 h.2 (k h.1)
theorem mz7(h:P∧Q∧R∧S∧T∧U∧V)(k:P->Q->R->S->T->U->V->g):g:=mz6 h.2 (k h.1)
theorem mz8(h:P∧Q∧R∧S∧T∧U∧V∧W)(k:P->Q->R->S->T->U->V->W->g):g:=mz7 h.2 (k h.1)
theorem mz9(h:P∧Q∧R∧S∧T∧U∧V∧W∧X)(k:P->Q->R->S->T->U->V->W->X->g):g:=mz8 h.2 (k h.1)
theorem my2{P:A->B->Prop}(a b)(h:P a b):∃a b,P a b:=⟨a,b,h⟩
theorem my3{P:A->B->C->Prop}(a b c)(h:P a b c):∃a b c,P a b c:=⟨a,my2 b c h⟩
theorem my4{P:A->B->C->D->Prop}(a b c d)(h:P a b c d):∃a b c d,P a b c d:=⟨a,my3 b c d h⟩
theorem my5{P:A->B->C->D->E->Prop}(a b c d e)(h:P a b c d e):∃a b c d e,P a b c d e:=⟨a,my4 b c d e h⟩
theorem my6{P:A->B->C->D->E->F->Prop}(a b c d e f)(h:P a b c d e f):∃a b c d e f,P a b c d e f:=⟨a,my5 b c d e f h⟩
theorem my7{P:A->B->C->D->E->F->G->Prop}(a b c d e f i)(h:P a b c d e f i):∃a b c d e f i,P a b c d e f i:=⟨a,my6 b c d e f i h⟩
theorem mx1_2{P Q:A->Prop}(h:∃a,P a∧Q a)(k:∀a,P a->Q a->g):g:=mx1 h λa h=>k a h.1 h.2
theorem mx1_3{P Q R:A->Prop}(h:∃a,P a∧Q a∧R a)(k:∀a,P a->Q a->R a->g):g:=mx1 h λa h=>k a h.1 h.2.1 h.2.2
theorem mx2_3{P Q R:A->B->Prop}(h:∃a b,P a b∧Q a b∧R a b)(k:∀a b,P a b->Q a b->R a b->g):g:=mx2 h λa b h=>k a b h.1 h.2.1 h.2.2
theorem mx3_2{P Q:A->B->C->Prop}(h:∃a b c,P a b c∧Q a b c)(k:∀a b c,P a b c->Q a b c->g):g:=mx3 h λa b c h=>k a b c h.1 h.2
theorem mx4_4{P Q R S:A->B->C->D->Prop}(h:∃a b c d,P a b c d∧Q a b c d∧R a b c d∧S a b c d)(k:∀a b c d,P a b c d->Q a b c d->R a b c d->S a b c d->g):g:=mx4 h λa b c d h=>k a b c d h.1 h.2.1 h.2.2.1 h.2.2.2
theorem mx2_4{P Q R S:A->B->Prop}(h:∃a b,P a b∧Q a b∧R a b∧S a b)(k:∀a b,P a b->Q a b->R a b->S a b->g):g:=mx2 h λa b h=>k a b h.1 h.2.1 h.2.2.1 h.2.2.2
end
section
open Lean
def mqA(t:String):Syntax:=.atom .none t
def mqN(k:String)(a:List Syntax):Syntax:=.node .none (k.splitOn.foldl .str `Lean.Parser) a.toArray
def mq0(a:List Syntax):Syntax:=.node .none `null a.toArray
def mqQ(a:List Syntax):=mqN "Tactic tacticSeq" [mqN "Tactic tacticSeq1Indented" [mq0 (a.intersperse (mqA ";"))]]
def mqF(x:Syntax):=mqN "Tactic failIfSuccess" [mqA "",mqQ [x]]
def mqE(o x:String)(k:Nat)(a:List Syntax):=mqN o [mqA "",mqN "Term app" [mkIdent (.mkSimple (x++k.repr)),mq0 a]]
def mqI(a:List Syntax):=mqN "Tactic rintro" [mqA "",mq0 (a.map λx=>mqN "Tactic rintroPat one" [x]),mq0 []]
def mqC(i:Syntax):=if i.isIdent then[mqN "Tactic clear" [mqA "",mq0 [i]]]else[]
def mqO(s p i:Syntax)(a:List Syntax)(d:Bool)(k:Nat):List Syntax:=
 let h:=mqN "Term syntheticHole" [mqA "",mqA "_"]
 let n:=a.length
 let r:="Tactic refine"
 if s[1].isOfKind `null then
  let b:=a.map λx=>mqN "Tactic rcasesPat paren" [mqA "",x,mqA ""]
  let j:=mkIdent `h'
  if d then mqE r ("mx"++k.repr++"_") (n-k) [i,h]::mqC i++[mqI b]
  else if k=0 then mqE r "mz" n [i,h]::mqC i++[mqI b]
  else if k+1=n then mqE r "mx" k [i,h]::mqC i++[mqI b]
  else mqE r "mx" k [i,h]::mqC i++mqI (b.take k++[mqN "Tactic rcasesPat one" [j]])::mqE r "mz" (n-k) [j,h]::mqC j++[mqI (b.drop k)]
 else[mqF (mqF (mqE r "my" k (List.replicate (k+1) h))),mqE (if s.isOfKind `Lean.Parser.Tactic.exact then"Tactic exact"else r) "my" k (a.take k++[if k+1=n then a[k]! else p.setArg 1 (mq0 ((a.drop k).intersperse (mqA ",")))])]
def mqH(s:Syntax):Bool:=match s.getHeadInfo with|.original ..=>true|_=>false
def mqG:Nat->Syntax->Syntax
|0,p=>p
|n+1,p=>if p.isOfKind `Lean.Parser.Term.tuple&&p[1].getNumArgs>0 then mqN "Term anonymousCtor" [mqA "⟨",mq0 (((p[1][0]::p[1][2].getSepArgs.toList).map (mqG n)).intersperse (mqA ",")),mqA "⟩"]else p
def mqS(s:Syntax):MacroM Syntax:=
 let s:=if mqH s then s.setArg 1 (mqG 9 s[1])else s
 let b:=s[1].isOfKind `null
 let p:=if b then s[1][0][0][0]else s[1]
 if p[0].getAtomVal=="⟨"&&s[2].getNumArgs==0 then
  let a:=p[1].getSepArgs.toList
  let q:=p.setArg 0 (mqA "")
  let l:=(List.range a.length).reverse
  let o:=mqO s p s[3][1][0] a
  pure (mqN "Tactic first" [mqA "",mq0 ((l.map (o b)++l.map (o false)++[[s.setArg 1 (if b then s[1].setArg 0 (mqN "Tactic rcasesPatMed" [mq0 [q]])else q)]]).map λx=>.node .none `group #[mqA "|",mqQ x])])
 else Macro.throwUnsupported
def mqK(k:String)(s:Syntax):MacroM Syntax:=if mqH s then pure (mqN k s.getArgs.toList)else Macro.throwUnsupported
def mqT(k:String)(s:Syntax):MacroM Syntax:=if mqH s==false then Macro.throwUnsupported else pure (mqN "Tactic first" [mqA "",mq0 ([mqN k [mqA "",mqG 9 s[1]],s.setArg 0 (mqA "")].map λx=>.node .none `group #[mqA "|",mqQ [x]])])
def mqL(s:Syntax):MacroM Syntax:=
 let d:=s[2][0]
 let p:=if mqH s then mqG 9 d[0]else d[0]
 if s[1][0].getNumArgs>0 then Macro.throwUnsupported else if (p[0].getAtomVal=="⟨")==false then mqK "Tactic tacticHave__" s else
 let t:="Tactic rcasesPat"
 mqS (mqN "Tactic obtain" [mqA "",mq0 [mqN (t++"Med") [mq0 [mqN (t++" tuple") [p[0],mq0 ((p[1].getSepArgs.toList.map λx=>mqN (t++"Lo") [mqN (t++"Med") [mq0 [mqN (t++if x.isIdent then" one"else" ignore") [x]]],mq0 []]).intersperse (mqA ",")),mqA ""]]]],mq0 [],mq0 [mqA "",mq0 [d[4]]]])
end
local macro_rules(kind:=Lean.Parser.Tactic.obtain)|s=>mqS s
local macro_rules(kind:=Lean.Parser.Tactic.tacticLet__)|s=>mqL s
local macro_rules(kind:=Lean.Elab.Tactic.Ext.ext)|s=>if mqH s&&s[2].getNumArgs==0 then pure (mqN "Tactic rintro" [mqA "",s[1],mq0 []])else Lean.Macro.throwUnsupported
local macro_rules(kind:=Lean.Parser.Tactic.delta)|s=>mqK "Tactic unfold" s
local macro_rules(kind:=Lean.Parser.Tactic.apply)|s=>mqT "Tactic refine" s
local macro_rules(kind:=Lean.Parser.Tactic.refine)|s=>mqS s
local macro_rules(kind:=Lean.Parser.Tactic.show)|s=>if mqH s then pure (mqN "Tactic exact" [mqA "",mqG 9 s[1]])else Lean.Macro.throwUnsupported
local macro_rules(kind:=Lean.Parser.Tactic.exact)|s=>mqS s
theorem kst{α β:Prop}(b:β)(_:α):β:=b
def pzS(t:String):Lean.TSyntax `term:=
 let h:Lean.Syntax:=.node .none `Lean.Parser.Term.hole #[.atom .none "_"]
 let k:=(t.splitOn " ").foldl (λk w=>match w,k with
  |"(",_=>#[]::k
  |")",x::y::r=>y.push (Lean.Syntax.mkApp x[0]! (x.extract 1 x.size))::r
  |_,x::r=>x.push (if w=="_" then⟨h⟩else if w=="?" then⟨.node .none `Lean.Parser.Term.syntheticHole #[.atom .none "?",h]⟩else if w=="&" then Lean.Unhygienic.run `(λ_ _=>rfl) else if w=="!" then Lean.Unhygienic.run `(by decide) else if w.startsWith "%" then Lean.Syntax.mkApp (Lean.mkIdent `kst) #[Lean.mkIdent (w.replace "%" "").toName]else if w.startsWith "." then⟨.node .none `Lean.Parser.Term.dotIdent #[.atom .none ".",Lean.mkIdent (w.replace "." "").toName]⟩else if w.front.isDigit then⟨Lean.Syntax.mkNumLit w⟩else Lean.mkIdent w.toName)::r
  |_,_=>k) [(#[]:Array (Lean.TSyntax `term))]
 let x:=k.head!
 Lean.Syntax.mkApp x[0]! (x.extract 1 x.size)
local macro_rules|`($c:char)=>match ("".splitOn "|").find? (·.startsWith<|toString c.getChar) with
  |some s=>pure<|pzS (s.splitOn "~")[1]!
  |_=>Lean.Macro.throwUnsupported
set_option tactic.hygienic false
set_option bootstrap.genMatcherCode false
def mqaa(h:0=0:=by rfl):=h
def mqab(h:0=0:=by decide):=h
def mqac(h:0=0:=by first|exact .inl rfl|exact .inr rfl|assumption):=h
def mqad(h:0=0:=by trivial):=h
def mqae(h:0=0:=by intro _;rfl):=h
def mqaf(h:0=0:=by first|exact Or.inl rfl|exact Or.inr rfl):=h
def mqag(h:0=0:=by intro _ _ _ _ _;trivial):=h
section
open Lean
def mqZ(p:List Name):Nat->Syntax->Array Name×String->Array Name×String
 |f+1,.node _ k a,(K,o)=>
  let i:=K.idxOf k
  a.foldl (λr x=>mqZ p f x r) (if i<K.size then K else K.push k,o++s!"\n{i}:{a.size}")
 |_,.atom _ v,(K,o)=>(K,o++"\n'"++v)
 |_,.ident _ _ v _,(K,o)=>(K,o++if p.contains v then s!"\n#{p.idxOf v}" else if v.isAnonymous then "\n\"" else "\n\""++toString v)
 |_,_,r=>r
def mqP:List Syntax->Array Name×String->Array Name×String
 |h::b::r,(K,o)=>
  let p:=(h[1].getArgs.map (·.getId)).toList
  mqP r (mqZ p 999 b (K,o++s!"\x01{if h.isIdent then h.getId else h[0].getId}\x02{p.length}"))
 |_,r=>r
def mqX(T:Unit->String)(s:Syntax)(a:List Syntax):MacroM Syntax:=
 match s.getId with
 |.str .anonymous n=>if n.front.val<128 then Macro.throwUnsupported else
  let T:=T ()
  match T.splitOn s!"\x01{n}\x02" with
  |[p,t]=>do
   let K:=(p.splitOn " ").toArray
   let w:=(t.takeWhile (·!='\x01')).toString.splitOn "\n"
   let k:=w.head!.toNat!
   let i:=s.getHeadInfo
   let r:=(w.tail.foldr (λw s=>match w.front with
    |'\''=>Syntax.atom i (w.drop 1).toString::s
    |'"'=>.ident i w.toRawSubstring (if w.length<2 then .anonymous else (w.drop 1).toString.toName) []::s
    |'#'=>a[(w.drop 1).toNat!]!::s
    |_=>let l:=w.splitOn ":"
     let n:=l[1]!.toNat!
     .node i K[l[0]!.toNat!]!.toName (s.take n).toArray::s.drop n) []).head!
   let a:=(a.drop k).toArray
   pure<|if a.isEmpty then r else if r.isOfKind `Lean.Parser.Term.app then r.setArg 1 (.node .none `null (r[1].getArgs++a)) else .node .none `Lean.Parser.Term.app #[r,.node .none `null a]
  |_=>Macro.throwUnsupported
 |_=>Macro.throwUnsupported
end
local macro_rules(kind:=Lean.Parser.Command.check)|s=>let t:=s[1][1];let(K,o):=mqP (t[0]::t[2].getSepArgs.toList) (#[],"");mqD `mqY (Lean.quote (K.foldl (λs k=>s++toString k++" ") ""++o))
#check(À a,List a,
Á,(by lia),
Â a,some a,
Ã a,(a).length,
Ä,.int,
Å,.ref,
Æ,.str,
Ç,(by trivial),
È,.inl,
É a,(a:Int),
Ê a,eC (.int a),
Ë a,decide a,
Ì a b c,if a then b else c,
Í,.bad,
Î a,(a).map,
Ï a,ae (aa a),
Ð a,((a:Nat):Int),
Ñ,.inr,
Ò a b,F4 a (aa b),
Ó,List Nat,
Ô a,a->Prop,
Õ,(by decide),
Ö,.list,
Ø,(by simp),
Ù a b,(by rw[a];show b),
Ú a,Option a,
Û a,autoParam a mqaa._auto_1,
Ü,some o,
Ý a,.ok (.sh<|a),
Þ,cN ts D0,
ß,L0 _,
à a,starEach a X.env,
á,(k:Int),
â,cs w,
ã,some c,
ä,.tuple,
å a,a=false,
æ a,some (.sh<|a),
ç,(by decide+kernel),
è a,Str.ofString a,
é,G0 T j,
ê,DE M X,
ë a,OD.sh a,
ì a,some (.sh<|.list a),
í,.bool,
î,.Name x,
ï a,(a).bind,
ð,aa 0,
ñ a,(by rw[a];lia),
ò,K1 ts,
ó a,(show a by lia),
ô,au ts k,
õ,PE X,
ö,some x,
ø,Rs ts D0,
ù,.none,
ú,some v,
û a,a[i]?,
ü a,(a<=H6)=True,
ý a,(a).take,
þ a,(by let:=a;lia),
ÿ,PO T D0,
Ā,.nil,
ā a,(a).toNat,
Ă,.lst,
ă,aq M H,
Ą,Z3 _,
ą,Inv X F5 σ H s,
Ć a,(range a).map,
ć,tD M n,
Ĉ,.cons,
ĉ,aR ts D0,
Ċ,(i:Int),
ċ,k<ts.length,
Č,eB bq,
č,.tup,
Ď a,.ok (.ol a),
ď,R OD,
Đ a,absurd a,
đ,cs x.2,
Ē,Z0 ts D0 l,
ē,wpAny (model X.prog X.w) X.A,
Ĕ a,a<=sizeLine,
ĕ,Def K mg,
Ė,some u,
ė,Os rfl,
Ę a,(a).trans,
ę a,(a).getD,
Ě,G0 ts k,
ě a,a=true,
Ĝ,CF ts D0,
ĝ a,top a,
Ğ,Rep K,
ğ,Pm K,
Ġ a b,cC rfl rfl rfl a b (λ_ _ _ _ _ _ hr=>?_),
ġ a b c,Fq a b (ag c),
Ģ a,λk:Nat=>a,
ģ a b c d e,K2 P w K mg base Z8 a b c d (Y8 K mg e),
Ĥ,Zg cD,
ĥ,Y3 0,
Ħ a,.ok a,
ħ,bp ts D0 r,
Ĩ,Gd ts c0,
ĩ,F4 aF,
Ī,(·.2),
ī,Z5 T,
Ĭ,G0 T k,
ĭ,Nat->Int,
Į,upd H,
į,aa 3,
İ a,Vals a,
ı a b,{cls:=.type a,data:=b},
Ĳ,.type,
ĳ a,sS [a],
Ĵ a,a[j]?,
ĵ,Wp ts,
Ķ,(aq.bind p).mono,
ķ,Ix×Obj,
Ĺ a,Inv a F5 σ,
ĺ,(j:Int),
Ļ,(·.1),
ļ a,(a).filter,
Ľ,ar T,
ľ,(K1 ts)[l]?=some r,
Ŀ a,(by simpa using a),
ŀ,T0 M F H Q,
Ł,(n:Int),
ł,Str->Da,
Ń,kK r p,
ń a b,show a from b,
Ņ,bD bs,
ņ,s.heap.get? b,
Ň a b,(by delta a;rw[b]),
ň,aS ts D0 r,
Ŋ,aJ _ _ _ _,
ŋ,.builtin,
Ō,e::es,
ō a,some (.ol<|a),
Ŏ,.cell,
ŏ,aa 2,
Ő a,ae a ah,
ő a,autoParam a mqab._auto_1,
Œ,aK aI aY,
œ,ay 3,
Ŕ,X.K=M.K,
ŕ,sS t,
Ŗ,outF T D0,
ŗ a,replicate a,
Ř,.sh d,
ř,1<=D0,
Ś,Inv X p a,
ś,cP ts r,
Ŝ,.fields,
ŝ,h r m,
Ş a,K94 (ax a),
ş a,(a).mono,
Š,⟨#[c]⟩,
š,k<T.length,
Ţ,.local,
ţ,D0<=20,
Ť a,(a).set,
ť,nsIn K mainGlobals,
Ŧ,Zh List.length,
ŧ,.Subscript,
Ũ a,autoParam a,
ũ,K9t _,
Ū,(p:Int),
ū a,λ_ _ _ q=>a,
Ŭ,autoParam ((x==("__debug__":Str))=false) mqab._auto_1,
ŭ,(G0 T j).map (outF T D0),
Ů,bC _ _ _ _ _ _,
ů,au ts 0,
Ű,D1 K F,
ű,a ρ,
Ų,aa 1,
ų,Inv X,
Ŵ,ay 2,
ŵ,some n,
Ŷ,T2 T,
ŷ a,range a,
Ÿ,Os h,
Ź,X.calm=true,
ź,F.pre c,
Ż,F4 Rg,
ż,some b,
Ž,EL T,
ž a,λx y H Q=>a,
Α,X.N[i]?,
Β a,Zc.mp a,
Γ a b,a b=true,
Δ,cxK X (own++outs.map (·.2)) scope s H,
Ε,eg ts D0 r,
Ζ,bY I q,
Η a b,bb (a b) (Re 0),
Θ,W.take i,
Ι,(m:Int),
Κ,Ext F H,
Λ,DS M X,
Μ,ar ts,
Ν,K8x _,
Ξ,aZ 1,
Ο a,Q a H,
Ρ a b c,az (Re a) (az (Re b) c),
Τ a b c,a<=b/\b<=c,
Υ,eval a X.env,
Φ,(a b).bind,
Χ a b,.Call a b [],
Ψ,F4 du,
Ω,some d,
γ,.ex c,
δ,Ok2 M,
ε,s.heap.objs.size+1,
ζ,Go->Go->R OD,
η,replicate k,
θ a,gQ a a,
ι,⟨_,rfl⟩,
μ a,.Constant a j,
ν a b c,(by delta a;rw[b,c]),
ξ a b,(by rw[a,b];lia),
ο,pos T D0,
π,K.1=k,
ς a,(a).lookup,
τ,szB T,
υ,.free,
χ,P3 h,
ψ a,.ok (.ol<|(a).map OD.sh),
ω a b c,.ok (.nx<|a i<|some<|.b c),
ϊ,Y_ (cK r),
ϋ,Or.inl rfl,
ϰa,d8 ts D0 r,
ϰb,bW (T2 T),
ϰc a,⟨_,Rw<|a⟩,
ϰd,Array Nat,
ϰe a,(a).cps.toList,
ϰf,range n,
ϰg,rL ts k,
ϰh,some w,
ϰi,wpAny (model prog w) A,
ϰj,model X.prog X.w,
ϰk,(λ_ m=>by cases m),
ϰl,Zf n s / 2,
ϰm,stF D0,
ϰn,(by cases h),
ϰo,Key×Go,
ϰp,W8 K F H,
ϰq a c d,a=c->d b=c,
ϰr a,eq_true a,
ϰs a,λ_=>a,
ϰt a b c,λr m=>a b λ_ _ _ q=>c q,
ϰu a b,bU rfl K9F a b,
ϰv a,(a).any (·.1)=false,
ϰw,T.length<=100,
ϰx a,PyData.tuple a,
ϰy a,(by simp[a]),
ϰz,Stp F H,
ϰA,2^62,
ϰB a b,(by rw[a,b]),
ϰC a,(a:Nat),
ϰD a,(a).drop,
ϰE,aH.refl _,
ϰF,h.get? a,
ϰG,Zf n s,
ϰH a b,(a).map OD.er=b,
ϰI,PA X,
ϰJ,aZ 2,
ϰK a b,(false,a)::b,
ϰL a,(false,eval e X.env)::a,
ϰM a b c,(by delta a;rw[b,c];rfl),
ϰN,ctF ts D0 X,
ϰO,eh own bs,
ϰP a,{s with heap:=a},
ϰQ,R.map int,
ϰR,a_ ts D0 r,
ϰS,jR D0 O,
ϰT a,(a<H6)=True,
ϰU,Ps K F H,
ϰV,y_ R a,
ϰW a,(a).flatMap,
ϰX,K9m _,
ϰY,Gl X x,
ϰZ,bz ah,
ϰ0,.bl b,
ϰ1,S3 p,
ϰ2,R Out,
ϰ3,Wp T,
ϰ4,P3 e,
ϰ5 a b,cw (i:=a) b rfl (Or.inl rfl),
ϰ6 k,a::b::c::d::e::f::g::h::i::j::k,
ϰ7,λ_ _ _ _ _ _ _ _=>rfl,
ϰ8,aE (X.take k),
ϰ9 a b,(by rw[<-a];show b),
ϱa a,aj (ai a),
ϱb,λ_ _=>rfl,
ϱc,H b=none,
ϱd,ay 5,
ϱe,cN T D0,
ϱf,T2 ts,
ϱg,bE T,
ϱh,Os H,
ϱi a b,match a with|some k=>b|none=>.bad,
ϱj a,cE cn da (ai 0) a,
ϱk,λ_ _ _ _ _ _ _=>rfl,
ϱl a b,(by delta a;rw[b];rfl),
ϱm,grF (X.take i),
ϱn a,tS M n a D σ H,
ϱo a,ts.length<=a,
ϱp,some true,
ϱq a b c,(by rw[a,b];show c),
ϱr,L.lt k,
ϱs,df1 X G,
ϱt a,(a).l.length,
ϱu a,.ok (.nx<|a),
ϱv,aJ g b,
ϱw,ρ[i]?,
ϱx,some r,
ϱy,aC S,
ϱz,P3 H,
ϱA,.odt,
ϱB,Mq n,
ϱC,z%10,
ϱD,X.env::X.outer,
ϱE,λw=>w.length+1,
ϱF a,(show a by decide),
ϱG a,(by change a;lia),
ϱH,absurd rfl,
ϱI a,∀c∈a,c<128,
ϱJ a,(by rw[a];rfl),
ϱK,some none,
ϱL a,Txt.slice a,
ϱM,wy ts D0,
ϱN,ay 1,
ϱO,some y,
ϱP,some k,
ϱQ,ai 0,
ϱR,k _ _,
ϱS,cJ _,
ϱT a,a<=1000,
ϱU,PS X,
ϱV,X.env.scope.names.lookup x,
ϱW,I.ok.hd hc,
ϱX a,fS a ts.length,
ϱY a,s.heap.push a,
ϱZ,gv (cy T),
ϱ0,K9g X G,
ϱ1 a,aD a=true,
ϱ2,K91 _,
ϱ3 a b,a->a->b,
ϱ4,RelV x,
ϱ5,c=true,
ϱ6 a,Zc.mpr a,
ϱ7,aN he,
ϱ8 a,(by rw[a]),
ϱ9,cs v,
ϲa,bA p,
ϲb a,Z4 (av<|a),
ϲc a,a≠none,
ϲd a b c,a=b\/a=c,
ϲe,(by simpa using B),
ϲf a,S.heap.objs.size+a,
ϲg,Loc X.env.scope,
ϲh,λ_ _=>False,
ϲi a,(by rw[a];simp),
ϲj,T.length-1,
ϲk,λc hc=>?_,
ϲl,.Attribute,
ϲm,gTp 2,
ϲn a b c,a b=c b,
ϲo a,g1++(a++g2),
ϲp,Zv K H a,
ϲq,hiT ts r,
ϲr a b c,⟨a,b,b,c⟩,
ϲs,(a:Int),
ϲt a b c,Z_ a b (bc<|c) bT,
ϲu,aH F H,
ϲv,h9 he,
ϲw,ai 1,
ϲx a,⟨rfl,a⟩,
ϲy,P3 Zy,
ϲz a,wpAny a,
ϲA a,cs (a).l,
ϲB,ds.map (λp=>(kD p.1,p.2)),
ϲC,backTo cp,
ϲD a,X.A.units+a<cLine,
ϲE,(Za.mp h).1,
ϲF,kas_rev p,
ϲG,0<T.length,
ϲH a,λ_ _ _ _ _=>a,
ϲI,Zag _ _,
ϲJ,one ts,
ϲK,fnd T w,
ϲL,Lv ts r,
ϲM a b,ak a (ae b ah),
ϲN,G0 ts,
ϲO,Rw hi,
ϲP,S3 s,
ϲQ,gv l,
ϲR,Pi h,
ϲS,X.env.cells.lookup x,
ϲT,s.length<=H6,
ϲU,jC ts D0,
ϲV a b,.BoolOp .a b pos,
ϲW,X.fn x=true,
ϲX,env::out,
ϲY a,eval a X.env,
ϲZ,Int×Int,
ϲ0 a,Stt a n F H,
ϲ1,r.take i,
ϲ2,RelV v u,
ϲ3,Zb.mp hd,
ϲ4,ay 4,
ϲ5 a b,(by rw[a,b];rfl),
ϲ6 a,a<=9000000,
ϲ7 a,outs.map a,
ϲ8 a,(Za.mp a).1,
ϲ9,PT ts c,
ϳa,au T k,
ϳb,some j,
ϳc,some p,
ϳd,PT T c,
ϳe,aa 4,
ϳf,aQ q,
ϳg a,subIn a,
ϳh a,λk h=>a,
ϳi a,a->Bool,
ϳj a,k.map a,
ϳk,aA B,
ϳl,aH H,
ϳm,y::z,
ϳn a,r.map a,
ϳo a b,.Call (.Name a p) b [] pos,
ϳp,y*69621%2147483629,
ϳq,backTo pos,
ϳr a,OpR X (compareOp .a),
ϳs a,λk=>OD.sh<|a ts D0 k,
ϳt a,assignEach a X.env,
ϳu,R.map V.int,
ϳv,.ok (.rt x),
ϳw,O.length-1,
ϳx,.Tuple es,
ϳy,jB ts D0,
ϳz a,r.map (λk=>a),
ϳA,cV ts D0,
ϳB,okI s p,
ϳC,F.pre f,
ϳD,F4 fV,
ϳE a,∀b∈fp,a,
ϳF,F4 Zp,
ϳG,r≠[],
ϳH,c≠32,
ϳI,K1 vs,
ϳJ a,Sc (a ?_),
ϳK a,(a).flatten,
ϳL,aa 5,
ϳM,dt O,
ϳN,Ts h,
ϳO,k∈r,
ϳP,isL w,
ϳQ,gv s,
ϳR,.seq,
ϳS,Os e,
ϳT a,OD.ol a,
ϳU a,s.map a,
ϳV a,R.ok a,
ϳW,.ListComp elt [⟨tg,iter,ifs,0⟩] scope pos,
ϳX,List.map_eq_nil_iff.mp z,
ϳY,(tlM ts r-1).toNat,
ϳZ,ρ.set i,
ϳ0,Zm X.stack,
ϳ1,w.map int,
ϳ2,Nat×Str,
ϳ3,K9N _ rfl,
ϳ4,dO D0 O,
ϳ5,Key×V,
ϳ6,RelV y u,
ϳ7,H p=none,
ϳ8,tT M n,
ϳ9,r.Z2 e1,
ϴa,Zc.mp H,
ϴb,(s:Int),
ϴc,K9A X G,
ϴd,m+1+k,
ϴe,lV X,
ϴf,D1 K H,
ϴg,DT M X,
ϴh,G.lv h,
ϴi,a[i]?,
ϴj,PSs X,
ϴk,Zae _,
ϴl,Lb ts,
ϴm,isB w,
ϴn a,keyOf a,
ϴo a,mg a=none,
ϴp a,λc hc=>a,
ϴq,eY X,
ϴr,Zj k,
ϴs,cs x,
ϴt a,(a).elim,
ϴu a b,{s with heap:=a,toks:=b},
ϴv,Str×NameKind,
ϴw,O[j]?.getD [],
ϴx a,wpAny M A a Q E s,
ϴy,T2 (T.take i),
ϴz,model prog w,
ϴA,97<=c/\c<=122,
ϴB a,(aq.bind a).ext,
ϴC a b,af (cA a b aP),
ϴD a b,df2 X G a b rfl,
ϴE a b,dk (ag a) b [0],
ϴF a b c,aK a (λ_=>b) c,
ϴG,G.cf g1 g2,
ϴH,j<T.length,
ϴI,cxM X ea,
ϴJ,dT ts D0,
ϴK,D1.len h2,
ϴL,λb m=>?_,
ϴM,Array Do,
ϴN,Sm ts us,
ϴO a,p.getD a 0,
ϴP,A r m,
ϴQ,F4 gGt,
ϴR,dist D0,
ϴS,λz=>?_,
ϴT,Eld e p,
ϴU,fg t b,
ϴV,.ok x,
ϴW,some a,
ϴX,K.In h,
ϴY,ai 3,
ϴZ,.bl _,
ϴ0 b,∀a∈f,b,
ϴ1 a,⟨a,[]⟩,
ϴ2 a,ds.map a,
ϴ3,s[i]?,
ϴ4,[a,b],
ϴ5,0<=D0,
ϴ6,aE X,
ϴ7 a,⟨_,a⟩,
ϴ8 a,aj a aB,
ϴ9,Rw h,
ϵa a,r.bind a,
ϵb,Q (),
ϵc,Tl h,
ϵd,(x==("__classdict__":Str))=false,
ϵe,frees X.env scope.names [],
ϵf a b c,af a (af a<|af b c),
ϵg,T0.val s p,
ϵh a,OpR X (binaryOp .a),
ϵi,(by simpa using m),
ϵj a,∀x∈scope.names,a,
ϵk,["tree","gap"],
ϵl,eval b X.env,
ϵm,X.map OD.er,
ϵn,IsTup s.heap,
ϵo,(by simp at h),
ϵp a b,⟨a,H,I.tok _,b,q⟩,
ϵq a b,cE iN iU a b,
ϵr,tA M n,
ϵs,lvX ts D0,
ϵt,Str×Ix,
ϵu,aC (aE X),
ϵv a b c,(by rw[a,b,c];rfl),
ϵw a,a=T.length,
ϵx,R.Z2 e1,
ϵy,gI hr,
ϵz,Gd ts c,
ϵA,c i j,
ϵB,bix R,
ϵC,(by rfl),
ϵD,gx n,
ϵE,aW _,
ϵF,MtR X,
ϵG,p.1=k,
ϵH,lay n,
ϵI,R[i]?,
ϵJ,T[k]?,
ϵK,rL ts,
ϵL a,(a).isEmpty,
ϵM,EP X,
ϵN,i<=j,
ϵO a,ae (eC<|a),
ϵP,Zs e,
ϵQ a,(a).symm,
ϵR,absurd (show false=true from S) Zy,
ϵS,Txt.slice x none,
ϵT,⟨-1,L,n.t⟩::r,
ϵU a,(Y7.mp m).elim a,
ϵV,(by simpa using e),
ϵW,range ts.length,
ϵX,b≠X.env.locals,
ϵY,⟨h,g,d,t,os⟩,
ϵZ g,a::b::c::d::e::f::g,
ϵ0,seqObj "list",
ϵ1 a,(by rw[e];show a),
ϵ2,eK M n F H,
ϵ3,Txt.find x.2,
ϵ4 a,az (Re a),
ϵ5,λx=>!x.1,
ϵ6,absurd h,
ϵ7,.Name y p2,
ϵ8,HOk P w H h,
ϵ9,256*(D0+1),
϶a b,∀a∈f,b=none,
϶b,pure false,
϶c,pos ts D0,
϶d,Wd K mg J,
϶e,.ok true,
϶f a,B.StaysIn a,
϶g,S.ext e1,
϶h,b::rest,
϶i,fM (m+1),
϶j,K2 P w K,
϶k,E.hh _ _,
϶l,["rows"],
϶m,ay 6,
϶n,κ×Go,
϶o,.ol xs,
϶p a b,Zd a b hr,
϶q,S.2 b,
϶r,fu n s,
϶s,S.ext D,
϶t,(c:Int),
϶u,range i,
϶v b,λa m=>k a<|b,
϶w,W::g',
϶x,fk 1,
϶y,R Bool,
϶z,ai 2,
϶A,upS x,
϶B a,∀k∈r,a,
϶C,.ok o,
϶D,b ρ,
϶E,gv st,
϶F,Ts H,
϶G,aC g,
϶H,2^63,
϶I,cy T,
϶J,eG h,
϶K a,λk H=>a,
϶L,autoParam (Vis X.env.scope x) mqad._auto_1,
϶M,Heap.get?_update_other _ _,
϶N a b,(by let:=a;rw[b]at this;show this),
϶O a,List.length_pos_iff.mpr a,
϶P,BlkK X sc scope outs,
϶Q,X.s₀.heap.get? b,
϶R,fi hN hv hd hcd,
϶S,(λz=>by cases z),
϶T,OkI M.K F H R',
϶U,(λz=>nomatch z),
϶V,cs (sgS ts k i),
϶W,K9P (Zs e),
϶X,Zt (λk _=>aW _),
϶Y,F.Pf.pos G.pt,
϶Z,d7 X.prog X.w,
϶0,⟨rfl,rfl⟩,
϶1 a,(by rw[a];show h),
϶2 b,λa H Q=>t a H b,
϶3,Txt.slice x,
϶4,(Za.mp H).1,
϶5,⟨#[32]⟩,
϶6,cons k c,
϶7,R.set i v,
϶8 a,List.toArray a,
϶9,F.Pf.pos p,
Ϸa,gTp 3,
Ϸb,Vals.one r,
Ϸc,λ_ _ z=>z,
Ϸd,[OD.ol []],
Ϸe,aq.bind p,
Ϸf a b,bJ L a b ?_ ?_,
Ϸg,I.pin p,
Ϸh,h.get? b,
Ϸi,kE 1,
Ϸj a,(au a k).t,
Ϸk,y_ R k,
Ϸl,there O,
Ϸm a,.ok (.od a),
Ϸn,A p s,
Ϸo,PI X tg,
Ϸp,Zb.mp h,
Ϸq,Rd H a,
Ϸr,g i j,
Ϸs a,⟨a,rfl⟩,
Ϸt,tB P,
Ϸu,ptD x,
Ϸv,K8n _,
Ϸw,(·+1),
Ϸx,Re 4,
Ϸy,Zaa hc,
Ϸz,n::r,
ϷA,aa 6,
ϷB a,λb o e=>a,
ϷC a b,⟨-1,a,b⟩,
ϷD,30+m,
ϷE,Y_ c,
ϷF,mxN O,
ϷG,nD r,
ϷH,b≠a,
ϷI,Zao _,
ϷJ,[b,c],
ϷK,eU hd,
ϷL,gj bs,
ϷM,wdS u,
ϷN a,(a).isSome,
ϷO,sS u,
ϷP a,Zb.mp a,
ϷQ a,a_ a D0,
ϷR a,paS a 0,
ϷS,Rw K,
ϷT,Zx t,
ϷU,gO G,
ϷV a,dH a gT,
ϷW,(W.take i).flatMap upW++upS x ((cs x.2).zipIdx.take j),
ϷX,upd H s.heap.objs.size,
ϷY,(ap.endLine==cp.line)=true,
ϷZ,Classical.propDecidable _,
Ϸ0,λ_ _ _ _ _ _ _ _ _=>rfl,
Ϸ1,backTo cpos,
Ϸ2,(by simpa using h),
Ϸ3,("__debug__":Str),
Ϸ4,(by simpa using H),
Ϸ5,x≠"__name__",
Ϸ6,bootBuiltins x,
Ϸ7,.ExceptHandler,
Ϸ8,σ.set i,
Ϸ9 a,PySem.W.kitAny a,
ϸa,ds.map OD.sh,
ϸb,⟨_,_,rfl⟩,
ϸc,nD (cL ts D0),
ϸd,kas_desc f p,
ϸe a,wpAny _ _ a _ _,
ϸf,xs.set j,
ϸg,EP X p a Q,
ϸh,(by simp[m]),
ϸi,nv ts D0 k,
ϸj a,List.range' a,
ϸk,.ok false,
ϸl,some false,
ϸm,PO ts D0 m,
ϸn,oZ kM oM,
ϸo a,False.elim a,
ϸp,DI M X tg,
ϸq,λb B=>?_,
ϸr,LvX ts D0,
ϸs,eB jY,
ϸt a,(a).objs.size,
ϸu,findIn K,
ϸv,kitOne K,
ϸw,["tree"],
ϸx,si F H,
ϸy,n-1-k,
ϸz,RdK K H,
ϸA,KasT α,
ϸB,h.lt k,
ϸC,df3 X G,
ϸD,B r m,
ϸE,ih _ _,
ϸF a,λk v h=>a,
ϸG,.ok y,
ϸH a,λx c e=>a,
ϸI a,[(false,a)],
ϸJ b,λa m o q=>b,
ϸK,mJ i,
ϸL,M.mg c,
ϸM,Bd n p,
ϸN,h.at _,
ϸO a,(a).toArray,
ϸP a,I.list a,
ϸQ,a::as,
ϸR,InT n,
ϸS,IxR X,
ϸT,b[i]?,
ϸU,b≠q,
ϸV,K9Z h,
ϸW,sS [],
ϸX,Rws S,
ϸY,sQ s,
ϸZ a,λi hi=>a,
ϸ0,cs t,
ϸ1 a,bF (eC<|a),
ϸ2,PT X,
ϸ3,c=32,
ϸ4,autoParam (∀x,foldedSetIterable iter X.env x=pure x) mqae._auto_1,
ϸ5,(backToKw cp<|keywordEach [] X.env).all (λx=>x.1.isSome),
ϸ6 a b,a b b hi-a b 0 l,
ϸ7,y.cps.all (·<128)=true,
ϸ8,["way","label","tall"],
ϸ9,λ_ _ _ _ _ _ hr=>?_,
Ϲa,["outlines","gap"],
Ϲb,kas_descPart m k,
Ϲc,bs.map Value.ref,
Ϲd,.seq i.toArray n,
Ϲe,256*gv (cy ts) k,
Ϲf,upd h a,
Ϲg,ixN xs.length,
Ϲh a,Sc (wpAny_holding<|a),
Ϲi a,(by rw[a];show H),
Ϲj,(by simp;lia),
Ϲk a,(by ext rfl;show a),
Ϲl,ctT ts D0 X,
Ϲm,d7 P w H h a,
Ϲn,L1.length<H6,
Ϲo a,rI0 (λi j=>.bl a),
Ϲp,b0::suite,
Ϲq,Value.ref a,
Ϲr,.ok (.nx f),
Ϲs,take_snoc h,
Ϲt a,∀s H C ex p,a,
Ϲu a,(a).flatten.map,
Ϲv a,dD (a ts D0 i),
Ϲw,.ok (.nx a),
Ϲx,λ_ _ q=>q,
Ϲy,ask D0 os,
Ϲz a,[a,"_law_number"],
ϹA,D.trans d,
ϹB a,a<=ts.length,
ϹC a,(eJ a k).isSome,
ϹD,λw H=>?_,
ϹE,s _ _ h1,
ϹF,r.take j,
ϹG,iB _ _ _,
ϹH a,PyData.str a,
ϹI a b,∀s H C ex a,b,
ϹJ,fT D0 he,
ϹK,Gd vs c1,
ϹL,e _ _ h,
ϹM a,iJ (nD a) 0,
ϹN a,funext (λk=>a),
ϹO a,W.length+a,
ϹP b,a.length+b,
ϹQ,F4 gNe,
ϹR,Zc.mp h,
ϹS,df2 X G,
ϹT,eqU x,
ϹU,Y3 n r,
ϹV a,codeAny a,
ϹW,gq os,
ϹX b,λa o q=>b,
ϹY,b∉ch,
ϹZ,X.mg x,
Ϲ0,bs[i]?,
Ϲ1,K9Z hi,
Ϲ2,qZ O j,
Ϲ3 a,λX H Q=>a,
Ϲ4 a,Array a,
Ϲ5 a,a c=true,
Ϲ6,j+1+s,
Ϲ7,x::X,
Ϲ8,ini T,
Ϲ9,SP X,
Ϻa a,mT (a).1 k,
Ϻb,wdS t,
Ϻc,b≠e,
Ϻd,z∈R,
Ϻe,q.1=k,
Ϻf,pre f,
Ϻg,EL ts,
Ϻh a,cs (sS<|a),
Ϻi a,L1.map a,
Ϻj a c d e,∀b o,a->b∉c->d->e,
Ϻk,cK r,
Ϻl,Rw J,
Ϻm,ih _,
Ϻn a,d.map a,
Ϻo a b,InT n a/\mC (λx=>Bd n b) a,
Ϻp a b,F4 aF (F4 aF (Z_ iC (aa 0) bT<|bc<|aa a)<|bz<|ae b ah),
Ϻq a,.bool (if neg then ! a else a),
Ϻr a b,bV sV (λ_=>sT) a (d4 rfl b),
Ϻs,PySem.W.hideAll s.heap,
Ϻt a b c,F4 aF (Z_ a b bT<|bc<|aa c),
Ϻu,envOfC qual scope s.heap.objs.size f,
Ϻv a,bootBuiltins a=some (.type a),
Ϻw a,cellsFrom a scope.names,
Ϻx,slots own.length outs σ,
Ϻy,t.takeWhile s.cps.contains,
Ϻz a,h.get? b=a->h'.get? b=a,
ϺA,sS (replicate a 32++t),
ϺB,(λe=>hc (by simp[e])),
ϺC a,λc=>if c.1=k then a else c,
ϺD a b,bR (i:=a) b rfl,
ϺE,G2 P w K mg base J,
ϺF a,scope.names.lookup a,
ϺG,sc.names.lookup x,
ϺH,h.Ns mainGlobals,
ϺI,env.frame=some L,
ϺJ,n.l.length<=1000,
ϺK,X.map (tF ts D0),
ϺL,a==sysModules,
ϺM,cons k' c' r',
ϺN,Vis X.env.scope,
ϺO,Own K F H v x f,
ϺP,["tree","node"],
ϺQ,absurd e,
ϺR,cM X.prog X.w,
ϺS,HOk X.prog X.w,
ϺT,I.base.there b,
ϺU a,if a then j else i,
ϺV a,if a then n else m,
ϺW a,tI M n a σ H R',
ϺX a,Zi (λx=>a x.er),
ϺY a b c,ae (Y0<|bz<|ae (a<|b)<|c),
ϺZ,f_ c R.length,
Ϻ0 a,assign a X.env,
Ϻ1 a,(by delta a;simp),
Ϻ2 a,4*a*a,
Ϻ3 a,.Assign [a] e pos,
Ϻ4,k _ Uf _ h,
Ϻ5 a,k::l::m::n::o::a,
Ϻ6,W.take (i+1),
Ϻ7,model P w,
Ϻ8,Txt.slice w,
Ϻ9,X.mg x=none,
ϻa,λb o z=>?_,
ϻb,K w.params,
ϻc,kN (D0:=D0),
ϻd a,∀s H C ex n,a,
ϻe,truth x.er,
ϻf,1+z / 20%9,
ϻg a,(h1.same a).sq,
ϻh,X.getD i 0,
ϻi,way.take c,
ϻj a b,eY X a (λx H Q=>b),
ϻk a b c,∃i j,x=a/\y=b/\Q c H,
ϻl,.function,
ϻm,λa m=>?_,
ϻn,Stt M.K n,
ϻo,(A b).mpr,
ϻp,Nat×Go,
ϻq,X.pn++F5,
ϻr a,DA M X a al,
ϻs,I.tok _,
ϻt a,show a from J,
ϻu,H a=none,
ϻv,B.get? b,
ϻw,joB T D0,
ϻx,K95.mp H,
ϻy,tS M n,
ϻz,sS [c],
ϻA a,a=O.length,
ϻB a,X.length+a,
ϻC a,a T k=true,
ϻD a,a[i]?.getD,
ϻE,ltW x y,
ϻF,some e,
ϻG,DSs M X,
ϻH,Y5 deep,
ϻI,F.pre r,
ϻJ,["row"],
ϻK,Valid T,
ϻL,F4 eA,
ϻM,dZ ah,
ϻN,κ×V,
ϻO,F4 eQ,
ϻP a,λz=>h<|a z,
ϻQ,fa ρ,
ϻR,fb ρ,
ϻS,bC g t,
ϻT,Y8 K,
ϻU,j_ _,
ϻV a,a<=8990000,
ϻW a,Y9 a (-1),
ϻX,b=true,
ϻY,Dn T j,
ϻZ,n<=64,
ϻ0 a,λhK hM=>a,
ϻ1,.bl c,
ϻ2,dU U,
ϻ3 a,λv d _=>a,
ϻ4 a,keysOf a,
ϻ5 b,λa q z=>b,
ϻ6 a,int (0+a),
ϻ7 a,∃k∈r,a,
ϻ8,op s,
ϻ9,.Expr,
Ϥa,PGs X,
Ϥb,.next,
Ϥc,X.K=K,
Ϥd,K8C h,
Ϥe,G0 T,
Ϥf,p / s,
Ϥg,mG T,
Ϥh a b c d e f,K2 P w K mg base (a P w) b c d e (Y8 K mg f),
Ϥi,ax (by rw[S5,Zk,K8y,Zq];lia),
Ϥj,own.length+outs.length,
Ϥk a,(List.mem_replicate.mp a).2,
Ϥl a b,h.rec (motive_1:=a) (motive_2:=b),
Ϥm a,(by delta a;rw[Oe,h];rfl),
Ϥn,["_law_rows_here"],
Ϥo,G1 P w K mg base J,
Ϥp,Ze items.size 0 l,
Ϥq a,(a<1073741824)=True,
Ϥr a,of_decide_eq_true a,
Ϥs a,Y6 a (λv S zzz=>?_),
Ϥt,absurd m,
Ϥu,(h1.same s).sq,
Ϥv,s'.heap.get? b,
Ϥw,upd C b,
Ϥx a,setFlight a none,
Ϥy a,(by change a;decide),
Ϥz,kas_asc p f,
ϤA,["_law_text"],
ϤB a,A.units+a<cLine,
ϤC,N.map Nod.k,
ϤD,X.set j,
ϤE,ixN X.length,
ϤF a,(by rw[a];show l),
ϤG a,(by rw[a,e];rfl),
ϤH,aD i&&aD j,
ϤI,g1++(f++g2),
ϤJ,swapsWith e,
ϤK,s.length+1,
ϤL,(l+q) / 2,
ϤM,G.rws g1 g2,
ϤN,jS own bs,
ϤO a,.seq (a).toArray,
ϤP,λ_ q=>q,
ϤQ,Zm X.outer,
ϤR,I.cell x c,
ϤS,0<R.length,
ϤT,S.own.at e,
ϤU,e.hh _ _ q,
ϤV,w.length=0,
ϤW,ak bM,
ϤX,frees env,
ϤY,List Bool,
ϤZ,.dict #[],
Ϥ0,aD j=true,
Ϥ1,λj J=>?_,
Ϥ2,X.mg=M.mg,
Ϥ3,p.take i,
Ϥ4,lE C B L,
Ϥ5,tB w=true,
Ϥ6 a b,K9C (a b b),
Ϥ7,tlM ts r,
Ϥ8,Rs vs D0,
Ϥ9 a,a i=a j,
ϥa,signs y,
ϥb a,a=ts.length,
ϥc,.dK L1,
ϥd,jl O st,
ϥe,R.take a,
ϥf,ay 7,
ϥg a,(by simp![a]),
ϥh,K8X P,
ϥi,uO T D0,
ϥj,Z0 vs D0,
ϥk,oG a as,
ϥl,.dK [],
ϥm,Zl.mp H,
ϥn a,ResL a F H,
ϥo a,a<sizeLine,
ϥp a,a=R.length,
ϥq a,Passes a X,
ϥr a,s.TypeIs a,
ϥs,A h m,
ϥt,iP T D0,
ϥu,Rs s D0,
ϥv,p.1=q.1,
ϥw,HOk P w,
ϥx,SqT K H,
ϥy,aH F F',
ϥz,Za.mp J,
ϥA,upK r p,
ϥB,dnK r p,
ϥC,λk=>?_,
ϥD,G.lv hr,
ϥE a,(Zz a).symm,
ϥF a,some (some<|a),
ϥG,c∈bs,
ϥH,hr k h,
ϥI,uU vs,
ϥJ,fou s,
ϥK a,aq.bind a,
ϥL,h p s,
ϥM,ag T,
ϥN,f++g,
ϥO,ai 6,
ϥP a,∀k,k<n->a,
ϥQ,DW M X,
ϥR,some R,
ϥS,n.e=-1,
ϥT,cy ts,
ϥU,ox he,
ϥV,aC R,
ϥW b,∀a,P a->b,
ϥX a b,sk a (ag b),
ϥY,Zr ?_,
ϥZ,w a m,
ϥ0,K1 T,
ϥ1 a,a x=true,
ϥ2,s _ _,
ϥ3,p++q,
ϥ4,pS ts,
ϥ5 a,a<=8000000,
ϥ6 a,Zl.mpr a,
ϥ7 a,bb (de a),
ϥ8 a,∀x∈L,a,
ϥ9 a,∃k:Nat,a,
Ϧa,q.2.1,
Ϧb,k b u,
Ϧc,c≠b,
Ϧd,.Name,
Ϧe,b≠T,
Ϧf,Own K,
Ϧg,h.2.2,
Ϧh,f9 hd,
Ϧi,okO O,
Ϧj,lA he,
Ϧk,X[l]?,
Ϧl a,∀n∈T,a,
Ϧm a,∀w∈S,a,
Ϧn,fN m,
Ϧo a b,{cls:=a,data:=b},
Ϧp a b c d,bI (bR (i:=a) b rfl<|Or.inl rfl) (bI (bR (i:=c) b rfl<|Or.inl rfl) d),
Ϧq,List.map (λp:Str×Str=>((.inr p.1:Key),PyData.str p.2)) [("-","+#a"),("+","-^ "),("^","-#a"),("#","^+a")],
Ϧr a b,⟨a,I.os,I.bare,I.base,I.loc,I.cell,I.free,I.Zu,b,I.Y1,I.len⟩,
Ϧs,(Builtin.Str.occurrences j i 0 j.length 1).isEmpty,
Ϧt a b c,K2 X.prog X.w a b X.base c k f fd ps (Y8 M.K M.mg fn),
Ϧu a,cA a (aw<|kH LvC.of rfl rfl T.tr T.tu.ex) aP,
Ϧv,cK r (p.getD n 0) (p.getD (n-1) 0),
Ϧw,(by rw[<-S];show I.ok.frames),
Ϧx,["_law_rows_here","_law_gap"],
Ϧy a,F4 fV (bz<|ae a ah),
Ϧz,["tree","columns","level"],
ϦA a,(by let q:=a;rw[qS]at q;show q),
ϦB,Zc.mpr ⟨k,h,rfl⟩,
ϦC a b,cxB X (a++b) scope s H C ex,
ϦD,Fun K x qual T f fd,
ϦE a,λ_ _ _ _ _ _ _ q=>a q,
ϦF,.ok (oS 0 j.toNat),
ϦG,s.heap.FunFrames B,
ϦH,s.heap.UpToSlots g,
ϦI,dn.contains c=true,
ϦJ,ps.contains c=true,
ϦK,c=32\/c=58\/c=124,
ϦL b,λa H Q=>ta a H λx h=>b,
ϦM,k==NameKind.free,
ϦN,bs.map Value.bool,
ϦO,X.mg "range"=none,
ϦP,λp=>(kD p.1,p.2),
ϦQ,D.length=b.length,
ϦR,eK M X.N.length,
ϦS,{s' with heap:=H},
ϦT,λb o e=>K9l _ e,
ϦU,tD M X.N.length,
ϦV,gk "NoPicture",
ϦW,Txt.split t blk,
ϦX,λe S f=>f.elim,
ϦY,attributeBase a,
ϦZ,{X with xe:=xe},
Ϧ0,["_law_number"],
Ϧ1,Fun K x x T f d,
Ϧ2,λ_ _ _=>False,
Ϧ3,a.set j,
Ϧ4,HT.Ze S.length,
Ϧ5 a,λ_ _ _ H _ I h=>a,
Ϧ6,(by split<;>lia),
Ϧ7,Nat->Nat->Bool,
Ϧ8,a.set i,
Ϧ9,Zt (λz _=>aW _),
ϧa,b+w.length+1,
ϧb a,(by subst h;show a),
ϧc,s.heap.get? a,
ϧd,S.heap.get? b,
ϧe,gk "NoTree",
ϧf,s.drop (i+1),
ϧg a,DG M a tg is gg,
ϧh a,{s' with heap:=a},
ϧi,replicate m,
ϧj,yw S.heap H,
ϧk,.Name dx np,
ϧl,ih (i:=i),
ϧm,(by simp at e),
ϧn,X.length<=H6,
ϧo,(by simp[h]),
ϧp,z.length<=H6,
ϧq,T.keep a o q,
ϧr,tbl.lookup c,
ϧs a,PyData.eqvAll a,
ϧt,Gl X "range",
ϧu,kas_sort n,
ϧv,st.map int,
ϧw,dW ts D0,
ϧx b,(by rw[b];show a),
ϧy,g x.er y.er,
ϧz,s.keep a o,
ϧA a b,[(false,a),(false,b)],
ϧB a,(a).toArray.size,
ϧC,hb hK hM,
ϧD a,(cs<|S3 a)[p]?,
ϧE a,OkC M (a X.K),
ϧF a,gTx op a y.er,
ϧG a,Binds a fd ps,
ϧH,og I hg M,
ϧI,kyW ts D0,
ϧJ,Zv X.K H a,
ϧK,a.lookup x,
ϧL,(by cases m),
ϧM,H a≠none,
ϧN,λo po=>?_,
ϧO,λ_ _ y=>y,
ϧP,.ret (m,p),
ϧQ,sS [97+k],
ϧR a,dG (z / a),
ϧS,putK L1 k,
ϧT,ts.drop 1,
ϧU,rawInt L,
ϧV a b,keepIn a b=true,
ϧW,.sh x.er,
ϧX a,lbD (mkL a x),
ϧY a,(by rw[a];show e),
ϧZ,h'.get? b,
ϧ0,PPs X pos,
ϧ1,Own K F H,
ϧ2,Rep M.K F,
ϧ3,λa A=>?_,
ϧ4,["label"],
ϧ5,wy T D0 k,
ϧ6 e,a::b::c::d::e,
ϧ7 a,(by rw[uQ hi,a]),
ϧ8 a b,(by delta a;show b),
ϧ9,S.2 _,
Ϩa a,swapsWith a,
Ϩb a,x.length<=a,
Ϩc,nc L1 k,
Ϩd,Cj true,
Ϩe,Zi b,
Ϩf a,take_snoc a,
Ϩg,KV L1 vs,
Ϩh,vx H a y,
Ϩi,eK M n,
Ϩj,D1.len R,
Ϩk,T.nw a q,
Ϩl,ExcK K C,
Ϩm,Nat->Nat,
Ϩn,["tall"],
Ϩo,Z0 ts D0,
Ϩp a,(a).toList=_,
Ϩq,old b o,
Ϩr,OD.sh d,
Ϩs a,(by cases a),
Ϩt,n-1-j,
Ϩu,dg2 2,
Ϩv,some i,
Ϩw,sub a m,
Ϩx,.refl _,
Ϩy a,(a).contains,
Ϩz,eI L1,
ϨA,Vals xs,
ϨB,t a H Q,
ϨC,.Assign,
ϨD,OpR X f,
ϨE,KT H L1,
ϨF,r.fr a,
ϨG,Stt K n,
ϨH,[a,b,c],
ϨI,I.tok k,
ϨJ,xs≠[],
ϨK,goP n r,
ϨL,Zl.mp h,
ϨM,aN G.he,
ϨN,H.lv hr,
ϨO,(T:Int),
ϨP a,M.map (λx=>a),
ϨQ a,paL (Zx a),
ϨR,.ol X,
ϨS,cxM X,
ϨT,h c hc,
ϨU,vn n s,
ϨV a,dq (sL a k),
ϨW,K8g h,
ϨX,Re 2,
ϨY,Re 3,
ϨZ a,K9T.mpr a,
Ϩ0 a,PG a tg g,
Ϩ1,Ts hc,
Ϩ2 a,Txt.ljust a,
Ϩ3,eF he,
Ϩ4 a b,AK (tM a<|rY<|b),
Ϩ5,d7 P w,
Ϩ6,D.nx a,
Ϩ7,Zv K H,
Ϩ8,xs[j]?,
Ϩ9,.no ih,
ϩa,.Raise,
ϩb,Con ch,
ϩc,some m,
ϩd,oA O j,
ϩe,Tl rfl,
ϩf,paL ws,
ϩg,cP T r,
ϩh,Zak H,
ϩi,kvC l,
ϩj,txD X,
ϩk,dD K,
ϩl a c,∀b∈a,c=none,
ϩm,a++b,
ϩn,fM m,
ϩo a,k::l::m::a,
ϩp,tZ i,
ϩq,h _ _,
ϩr a,aA (K9O<|a),
ϩs a,(by rw[a,e]),
ϩt,aa 9,
ϩu,Os hc,
ϩv,P3 hc,
ϩw,OkC M,
ϩx,okB s,
ϩy a,bindArgs (fnOf x x (ip T) (et T) (ag T) .none kV doc pm an c ct) ⟨a,[]⟩=pure (ps.zip a),
ϩz b,((s.heap.update a<|Obj.mapSeq λ_=>b).push<|seqObj "tuple" vs.toArray 0).push,
ϩA a,s.map (·.1)=D.map (·.1)->D1 K F (s.map (·.2)) (D.map (·.2))->a,
ϩB,List.toArray ((f_ c vs.length).map λi=>vs.getD i Value.none),
ϩC,Zj k (A.deeper<|envOfC qual (ag T) s.heap.objs.size f c),
ϩD a,swapsWith (.Call a [e] [] cp) none pos.line X.env=pure false,
ϩE,aj (wj r9 (λ_=>rZ) ba),
ϩF,T.hasType PySem.F.excBase_ValueError.hasBase,
ϩG,k==NameKind.free&&env.scope.kind==.function,
ϩH a,I.turned (t':=s.toks) (λb o B e=>a) g j,
ϩI a,r_ rfl T.te (ai a),
ϩJ a b,X.mg=M.mg->a X e (b M X.N.length f),
ϩK a,vy a P w K m base N qual scope f,
ϩL,xs.all (λy=>flat y.er)=true,
ϩM a b,match x.er with| .dict L1=>a|_=>b,
ϩN,(λv z=>by rw[d]at z;cases z),
ϩO,∀a H Q,t' a H Q->t a H Q,
ϩP,show false=true from f,
ϩQ a b,peI a (λ_ _ _ h=>d_c (λ_ _=>b) h),
ϩR,(show False from r).elim,
ϩS a,c=a\/c=43\/c=45\/c=94\/c=35,
ϩT,xs.length+ys.length<=H6,
ϩU,.UnaryOp .Not a pos,
ϩV a b c d e f,Bx (op:=a) b c d (λ_ _ _ _=>e) (ai f) bH,
ϩW,bW (a::as) T.length,
ϩX,cellsFrom n names a,
ϩY,I.laid (t':=s.toks),
ϩZ,m9 C f G.pt L,
ϩ0,tupleKind (cM P w),
ϩ1,behindInMarks op b,
ϩ2,G3 P w K mg base J,
ϩ3 a,exQ a D=true,
ϩ4 a,exQ a C=true,
ϩ5,(λv z=>by cases z),
ϩ6,kas_tail3 n m p,
ϩ7,X.A.handled=none,
ϩ8,{s with heap:=d},
ϩ9,{s with heap:=H},
Ϫa a,Calls.evalArgs_plain a,
Ϫb,I.base.free b o,
Ϫc,CXE X.prog X.w,
Ϫd a b d,Rs a b=d/\∃c,Gd a c,
Ϫe,(R.idxOf z:Nat),
Ϫf,CXC X.prog X.w,
Ϫg,gv (drw T D0) k,
Ϫh b c,bJ l (λi a=>b) c ?_ ?_,
Ϫi a b,exQ a b=true,
Ϫj,Do->Do->Sem Do,
Ϫk,Heap.FlyingW B,
Ϫl,(eF G.he h).mp,
Ϫm a,Txt.stripChars a,
Ϫn,X.base.get? b,
Ϫo,⟨_,e,rfl⟩,
Ϫp,Txt.split a b,
Ϫq,s.heap.get? e,
Ϫr,r.length<=100,
Ϫs,nO (cL ts D0),
Ϫt,xW (D0:=D0),
Ϫu,λb u e=>?_,
Ϫv,aE (Y.take l),
Ϫw,D1.same e r,
Ϫx,F4 g fa fb,
Ϫy a,(a).flatten.length,
Ϫz,env.kindOf n,
ϪA,M.map Nod.d,
ϪB,⟨#[113]⟩,
ϪC,wyD ts D0 k,
ϪD,sgS ts k,
ϪE,replicate n,
ϪF,Str×Bool,
ϪG,S.fr a,
ϪH,⟨t,rfl⟩,
ϪI,Value.ref b,
ϪJ,o6 i j=true,
ϪK,Option Bool,
ϪL,T0.lstD s p,
ϪM,S ds.length,
ϪN,⟨U,rfl⟩,
ϪO,Dn ts j l k,
ϪP,w.length+1,
ϪQ,x<ts.length,
ϪR,take_snoc H,
ϪS,(aU _).symm,
ϪT,mG T off,
ϪU,ak dm,
ϪV,drw ts D0,
ϪW,C.hi k,
ϪX,tG M n is,
ϪY,aR T D0 k,
ϪZ,.bl false,
Ϫ0,eB kz,
Ϫ1,Un fs ex H,
Ϫ2,false=true,
Ϫ3,λ_=>none,
Ϫ4,n<=9000000,
Ϫ5,Str×Str,
Ϫ6,["_law_k"],
Ϫ7,λv V=>?_,
Ϫ8,H.cf g1 g2,
Ϫ9,int (mkB x),
ϫa a b,∀(p:Int)(f:F),a->b,
ϫb,.Z2 o u,
ϫc,X.wish E,
ϫd,start N,
ϫe,tBs P j,
ϫf,AI false,
ϫg a,PyData.list a,
ϫh,H' b=none,
ϫi,.Constant,
ϫj,PT X a tA,
ϫk,r x y H Q,
ϫl,IntsAre s,
ϫm,pure true,
ϫn,yE I.Y1 e,
ϫo,yU I.Y1 e,
ϫp,erase ρ,
ϫq,keysOf ds,
ϫr,IsL n d T,
ϫs,n8 G C hr,
ϫt,I.Zu x c,
ϫu,X.take l,
ϫv,ay 9,
ϫw,@Eq Nat c,
ϫx,.dT L1,
ϫy,tGs M n,
ϫz,iX (R:=R),
ϫA,xs++[y],
ϫB,full c,
ϫC a,a=ps.length,
ϫD a,valueAt a k,
ϫE a,ps.length=a,
ϫF a,Value.ref a,
ϫG,Ze n 0 l,
ϫH,I.Y1 p _,
ϫI,.dT [],
ϫJ,p x=true,
ϫK,(·<128),
ϫL,MA F f,
ϫM,tY D0 he,
ϫN,iP ts D0,
ϫO,a++[y],
ϫP,S (i+1),
ϫQ a,∀s∈a,Zn s,
ϫR a,.ok (.ret<|a),
ϫS,v::vs,
ϫT,x::xs,
ϫU,eI k,
ϫV,au ts,
ϫW a b,.Dict a b pos,
ϫX,r x H Q,
ϫY,vals1 r,
ϫZ,Y9 X i,
ϫ0,xs++ys,
ϫ1,S.ext E,
ϫ2,DGs M X,
ϫ3,(x:Int),
ϫ4,λm=>?_,
ϫ5,aM.mp h,
ϫ6,eF G.he,
ϫ7,[(0,0)],
ϫ8,z / 4%5,
ϫ9 a,a=d.length,
Ϭa,gv ls,
Ϭb,nD bs,
Ϭc,K9l _,
Ϭd a,a<=T.length,
Ϭe,hi p,
Ϭf,.dK k,
Ϭg,.dT k,
Ϭh,k r m,
Ϭi,s ρ,
Ϭj,chS 32,
Ϭk,uN G C,
Ϭl,ai 9,
Ϭm a,K89.mpr a,
Ϭn,ai 5,
Ϭo,ai 4,
Ϭp a,AllBare a,
Ϭq a,⟨_,a,rfl⟩,
Ϭr a b,(a).map (·.1)=(b).map (·.1)/\D1 K F ((a).map (·.2)) ((b).map (·.2)),
Ϭs a b c d e f g,vB (Ds:=[a,b,c]) ⟨d,Uf,hoc⟩ (λ_ h=>h.1.1) rfl (Or.inl rfl) rfl T.t5 (ow rfl e<|ow rfl f<|ow rfl g Ff) (show 3<=9 by decide),
Ϭt a b,attributeBase a b X.env (eval a X.env)=eval a X.env,
Ϭu a,((s.heap.push<|seqObj "list" #[] 0).update s.heap.objs.size (Obj.mapSeq (·++vs.toArray))).a,
Ϭv b,(by ext p s a H x y v u Q I R Y h;let(i,j,rfl,rfl,q):=h;let(t,rfl):=R;let(U,rfl):=Y;show b),
Ϭw,(Z7.mp m).elim (λe=>e▸⟨_,h⟩),
Ϭx,Sc (m:=Builtin.Tuple.tupleExact _),
Ϭy,[.type "ValueError",.type "Exception",.type "BaseException",.type "object"],
Ϭz,bV (rP hr.units) xq (ai 2) ba,
ϬA a,OD.er (.od a)=dD a,
ϬB,T="int"\/T="bool"\/T="str"\/T="list"\/T="tuple",
ϬC,λw=>w.setIfInBounds 1<|Value.ref g1.objs.size,
ϬD,zg D0 he a l T.length,
ϬE,@decide_eq_true_iff _,
ϬF,["_law_elder","_law_label_here","_law_tall"],
ϬG,Ak (λ_ h=>h.2) rfl,
ϬH a b,vy a P w K b base N qual (ag T) f c A outer s H E,
ϬI a,T0.val D.fh (T0.pre D a),
ϬJ a b,(λk H=>by let H:k=j:=H;subst H;change a<=b;lia),
ϬK a,(by delta a;rw[Tk,Tk];show Zt λz _=>aW _),
ϬL,Heap.get?_push_ne _ _ _,
ϬM,b∈X.ex\/X.s₀.heap.objs.size<=b,
ϬN,CXE X.prog X.w X.outer X.H₀ X.s₀,
ϬO,Zi el (g (.sh<|m x) ρ0)=.ok (y x),
ϬP,kh he ts.length,
ϬQ,(pc.ext e1).mono (λb B=>B.pre e1),
ϬR a b,bV (uj hr.units) yJ a b,
ϬS,mU (iJ (nD ch) 0 X),
ϬT,(T.drop<|j+1).takeWhile (inB j),
ϬU,(z*48271+k*7919)%2147483647,
ϬV a b,(by subst z;let(o,q):=a;rw[b]at q;cases q),
ϬW,(by ext rfl;rw[a]at z;cases z),
ϬX,bb it gg ta el own.length,
ϬY a b,(by let:=a;rw[b,b]at this;show this),
ϬZ a,List.pairwise_iff_getElem.mp a,
Ϭ0,bU rfl PassesOwn.leaving,
Ϭ1,pQ (n:=3) rfl,
Ϭ2 a,(by simp at e;subst e;show a),
Ϭ3 a b c,Pj (N:=a) (k:=b) (body:=c) rfl rfl rfl,
Ϭ4,(nums.map List.length).sum,
Ϭ5,∀T c,Gd T c->Rs T D0≠S,
Ϭ6,.Compare a [op] [b] pos,
Ϭ7,(by simp only[K9W]<;>lia),
Ϭ8,apos.endLine==cpos.line,
Ϭ9 a,o6 a a=true,
ϭa,{s with heap:=c,toks:=tk},
ϭb a b,tBM M.K "list" a b,
ϭc,R.take (i+1)++R.drop i,
ϭd a b c,∃p y,a/\(Zv b H p y\/SqT b H p y)/\c,
ϭe a b,Turn P w K tg a [it] it (λi h=>b),
ϭf,(gq<|ini T k).map OD.sh,
ϭg,["tree","node","number"],
ϭh,∀j∈is,j<own.length,
ϭi a,aj (ef<|df<|aj a aB),
ϭj a,SrtN a (cNk<|a),
ϭk,Obj.data_mapFields x _,
ϭl,λz=>(C _ z).2.1 rfl,
ϭm,OpR X (compareOp op) r,
ϭn,tupleKind_room_in1 U,
ϭo,X.mg "isinstance"=none,
ϭp,s.length+zs.length<=H6,
ϭq,kas_place p k f l q,
ϭr,("__classdict__":Str),
ϭs,Zr ⟨_,rfl,Zr h⟩,
ϭt,X.mg "enumerate"=none,
ϭu,xs.map (λy=>.sh y.er),
ϭv a,λ_ _ _ _ _ T h=>a T h,
ϭw a,List.mem_filterMap.mpr a,
ϭx a b c,(by let(o,a):=b;rw[c]at a;cases a),
ϭy b,(by let(F,a,f,S,p):=h;show b),
ϭz,(by rw[pre];show Uf),
ϭA,wpAny_pyIter_enum he,
ϭB,(by rw[pre];simp[m]),
ϭC a,List.pairwise_cons.mp a,
ϭD,bs.map PyData.bool,
ϭE,x.1::(x.2.1++x.2.2),
ϭF,cameBackBy M A env,
ϭG,(by rw[pre];simp[J]),
ϭH,isTrue e X.env,
ϭI a,(by rw[a];decide+kernel),
ϭJ,sc.names.lookup x.1,
ϭK,SeqAt.shaped d=true,
ϭL,tS M X.N.length f,
ϭM a,K8V a I.kIn True.intro,
ϭN,he p s a H _ I h,
ϭO,λb u e=>K9l _ e,
ϭP,λ_ _ q=>K9l _ q,
ϭQ b,λa H R=>ta a H λs h=>b,
ϭR,env.cells.lookup x,
ϭS,b=S.heap.objs.size,
ϭT,b<s.heap.objs.size,
ϭU,(by simpa using D),
ϭV,r.Pairwise (·<·),
ϭW,G8 P w K mg base J,
ϭX,G9 P w K mg base J,
ϭY c,(c a:Key)=c b,
ϭZ a,gNe a a,
ϭ0 a,λb c s k V X d o=>a,
ϭ1 a,Txt.rstripChars a blk,
ϭ2,I.base.slot b o e,
ϭ3,i.length+j.length,
ϭ4,["rows","number"],
ϭ5,cl _ _ h,
ϭ6 a,replicate A 32++cs a,
ϭ7,(p,w)::P.zip s,
ϭ8 a b c,OD.er (.od a)=dD (b ts D0 c),
ϭ9 a,λx P v c b X e1 r w=>a,
Ϯa a,d.hh _ _ (D.hh _ _ a),
Ϯb,Gl X "isinstance",
Ϯc,{s with heap:=c},
Ϯd,⟨mc,N h1,h2⟩,
Ϯe a b,vD R a b b,
Ϯf,k+outs.length,
Ϯg,N8 h hs hK hM,
Ϯh,λy=>Dz ds y.er,
Ϯi,qM g1 g2,
Ϯj,mL jQ jQ,
Ϯk,Gl X "enumerate",
Ϯl a b d,⟨Pi h,oR a b,λT c H e=>d⟩,
Ϯm a,(by rw[S5,a,Zq];lia),
Ϯn,kas_bin f p k,
Ϯo,List.range' a m,
Ϯp,rG (i:=2) rfl,
Ϯq,(eF H.he hr).mp,
Ϯr a,Y6 a (λr s4 zzz=>?_),
Ϯs a,a<s.heap.objs.size,
Ϯt,w.map Sum.inl,
Ϯu a,n6 (ts:=a) (D0:=D0),
Ϯv,.ex "NoPicture",
Ϯw a b,Z_ mR a (bc b),
Ϯx,X.env.kindOf n,
Ϯy,Blk X sc scope,
Ϯz,λz Z=>Z.pre D,
ϮA,["_law_found"],
ϮB,["rows","gap"],
ϮC a b,(by let:=a;change b;lia),
ϮD a b,(by rw[PO,<-K,a,b hc]),
ϮE a b,(by rw[PO,<-H,a,b hc]),
ϮF a,a us D0=a ts D0,
ϮG,eval e X.env,
ϮH,b.set i,
ϮI,tOp r ta tb,
ϮJ,bs.map V.ref,
ϮK,EK (D0:=D0),
ϮL a,(by simp[a,K8p,E]),
ϮM,S.same.free a,
ϮN,ds.length<=H6,
ϮO,I.call' os un,
ϮP,B.get? e=none,
ϮQ,c<=way.length,
ϮR,Y.drop (l+1),
ϮS,k+1<ts.length,
ϮT,K9C I.ok.bsz,
ϮU,xs.map OD.er,
ϮV,Ext.refl s,
ϮW,λ_ h=>h.1,
ϮX,r++[(c,w)],
ϮY,b+x.length+1,
ϮZ,λw=>!tB w,
Ϯ0 a b c,ae (Y0<|ak a<|ae b<|c),
Ϯ1 a,qH (i:=1) (ρ:=a),
Ϯ2,rC fa fb fc,
Ϯ3,r.take (i+1),
Ϯ4 a,(by rw[a];decide),
Ϯ5,(Za.mp hi).1,
Ϯ6,BindsTo s fd,
Ϯ7,xs.length<H6,
Ϯ8,λ_ _ h _=>h,
Ϯ9,T0 M F1 H1 Q,
ϯa,s4.trans L,
ϯb,PadOk i=true,
ϯc,.ret (p,m,q),
ϯd,X.take (i+1),
ϯe,p.filter nbP,
ϯf,N.length<=40,
ϯg a,wpAny_execs_cons a,
ϯh a,p8 a scope outs,
ϯi,Value.ref C,
ϯj,lay_ints _,
ϯk a,Zi (λX=>a) (r ρ),
ϯl a b c,a (b+1)=a b++c,
ϯm,d_ o cs ss,
ϯn,.ex "NoTree",
ϯo,N.map Nod.d,
ϯp,ak cI,
ϯq a b,.handlers a [b] X.env,
ϯr a,(by rw[<-a];lia),
ϯs,vq X F5 H b,
ϯt,R.length<=n,
ϯu,iq I.Y1 B,
ϯv,ds.length=n,
ϯw,Res K F H v,
ϯx,d.length<H6,
ϯy,Value.ref w,
ϯz,out.set k,
ϯA,λl p P=>?_,
ϯB,(aM.mp J).1,
ϯC,m<ts.length,
ϯD,(Za.mp W).1,
ϯE,[32,58,124],
ϯF,fu (m+1) s,
ϯG,ak eN,
ϯH,G.ok _,
ϯI a,aj (ef<|df a),
ϯJ,7919*k+5,
ϯK,h.rev _ _,
ϯL a,λs H C ex n=>a,
ϯM,cne y c e,
ϯN,(by simp[J]),
ϯO,.sh (m x),
ϯP,bV xJ A8,
ϯQ a,(by rw[<-a];rfl),
ϯR,t e C.symm,
ϯS,λx h=>?_,
ϯT,e (n-1),
ϯU,λ_ _ x=>x,
ϯV,K.lookup a,
ϯW,_=N.length,
ϯX,j<X.length,
ϯY,Ext.refl w,
ϯZ,e.fh _ _ q,
ϯ0,[(k,y.er)],
ϯ1,bs.all id,
ϯ2,i<R.length,
ϯ3,j<O.length,
ϯ4,o i c l c1,
ϯ5,t.length+1,
ϯ6,k<R.length,
ϯ7,⟨#[d]⟩,
ϯ8,A.length+1,
ϯ9 a,∀p∈a,p.1≠b,
όa,ak fH,
όb,eB Cq,
όc,ak dY,
όd,C.lo k,
όe a,some (.od<|dU<|a),
όf a b c,l.map (λp=>(a b,a c)),
όg a,DF M a ifs ta,
όh a,DE M a elt el,
όi a,Obj.mapFields a,
όj,T.obj _ _,
όk,aS ts D0,
όl,λw W=>?_,
όm a,s.heap.get? a,
όn,K7q _ Zbi,
όo,z / 512%3,
όp,s.drop i,
όq,Nat×Nat,
όr,aj ba aB,
όs,bp ts D0,
όt,d8 T D0 r,
όu,tF ts D0,
όv a,(a).cps.extract,
όw b c,peI b (λa H Q q=>c),
όx,upd G T,
όy,h'.get? e,
όz,wpAny M A,
όA,b=e\/b=it,
όB,λz Z=>?_,
όC,rel.val k,
όD,r.same e,
όE,D1.len h4,
όF,e1.hh _ _,
όG,Gm (hg h),
όH,F2 s.heap,
όI,IsE n d e,
όJ,pc i c c1,
όK,signs w,
όL,pW 3,
όM a,(by ext z;show a),
όN,.own a,
όO,.own x,
όP,trk h H,
όQ,Hr rfl,
όR,N3 T (m+1),
όS,W.wide _,
όT a,r.own.mono a,
όU,q.2 H,
όV,kE 3,
όW,Zbp _ _,
όX,eT G.he,
όY,.ol ys,
όZ,L.map m,
ό0,putD L1,
ό1,uT L1 q,
ό2,Zl.mp hi,
ό3,P.f.tr M,
ό4 a,λσ h=>a σ h,
ό5 a b,zY (nD a) b=true,
ό6,ae fa,
ό7,K9C h,
ό8 a b,a[b]∈a,
ό9,RelV p.2,
ύa,cM P w,
ύb,id I.loc,
ύc,I.list c,
ύd,J.stop i,
ύe,Zm outer,
ύf,codeIn K,
ύg,λ_=>rfl,
ύh,H T=none,
ύi,α->R β,
ύj,erase b,
ύk,D1 M.K F,
ύl,F q=none,
ύm,(·<=·),
ύn,d _ _ ?_,
ύo,Pf n e c,
ύp,Dg D0 O,
ύq,zero p P,
ύr,["text"],
ύs,Mq (n+1),
ύt,vI G C h,
ύu,1+m.t %4,
ύv a b,λ_ _ _ _ a=>b a,
ύw a,⟨a,Uf,hoc⟩,
ύx a,PF a ifs tc,
ύy a,PE a elt te,
ύz a,λb u U n=>a,
ύA a,L.length<=a,
ύB a,(a).nofp.mono,
ύC,eqV y x,
ύD,q::qs,
ύE,λb=>?_,
ύF,inS x y,
ύG,t++[c],
ύH,G.asc C,
ύI,z / 7%3,
ύJ a,Txt.split a,
ύK a,a<=X.length,
ύL a,(a).filterMap,
ύM a,Nat->Nat->a,
ύN,(·<·),
ύO a,(au a k).l,
ύP a,⟨I.ok.mod,I.ok.kind,I.ok.glob,I.ok.blt,I.ok.above,I.ok.inj,I.ok.has,I.ok.cab,a,I.ok.frames,I.ok.stk,I.ok.exf,I.ok.bs,I.ok.bsz,I.ok.noex,I.ok.exfs,I.ok.funs,I.ok.frf⟩,
ύQ,lI (qN _ rfl rfl) vA rfl T.t8 PyProof.Rows.boot_max,
ύR a,K86 PySem.F.slot_str_split (typeIs_str _ _ _) PySem.F.entry_str_split (PySem.F.args_str_split_2 _ _) a ?_,
ύS,Builtin.Str.occurrences a b 0 a.length,
ύT,F.sZ (e:=Z5 T) (F.full c) 0 T.length (-1) (by rw[p.preF,K7r]) p.eldF p.con,
ύU b,e.nw a (let⟨_,q⟩:=b a m;bX q),
ύV,∀e H Q E,Y8 K g (aZ b.length N.length body) e H Q E->e.length=b.length,
ύW a b,S.os=s.os/\AllBare S.gens/\Un (Zm outer) [] H h s.heap S.heap/\HOk P w h S.heap/\a/\b,
ύX,eJ (k.map λp=>(kD p.1,p.2)),
ύY,["_law_script","_law_start","_law_many","_law_most","_law_deep"],
ύZ,sx FW (λ_=>Fv) (ai 1) ba,
ύ0,["_law_rows_here","_law_tree_here","_law_gap","_law_number"],
ύ1 a b,(λr m=>by let q:=a;rw[r]at q;exactλF5 s σ H R' I z=>q F5 s σ H R' I<|b z),
ύ2,(backToKw cpos<|keywordEach [] X.env).all (λx=>x.1.isSome),
ύ3,(λa m=>k a (by simp at m⊢;rcases m with m|m<;>simp[m])),
ύ4,λb m=>let⟨_,q⟩:=S.own.dom b m;e.nw b (bX q) (S.fr b m),
ύ5 a,HT.Ze a 0 l=0/\HT.Ze a a hi=a,
ύ6,attributeBase o name X.env (eval o X.env)=eval o X.env,
ύ7,(λb o q n _=>PySem.W.hideAll_get _ q (by rw[<-S];show n)),
ύ8 a,(s.heap.update T<|Obj.mapFields λz=>z.setIfInBounds 3 a).get?,
ύ9,λb c s k V X d o=>W8.yes (f:=d) (g:=g0) o<|r.mono s k,
ώa a,aj a (aj a aB),
ώb,[("-","+#a"),("+","-^ "),("^","-#a"),("#","^+a")],
ώc,og I hg M boot_range,
ώd,tOp (B_ M.K) (mJ 1),
ώe,Value.builtin "BaseException.__getattribute__",
ώf a,(λb u U n z=>by subst z;rw[d]at U;cases U;show a),
ώg,OldK S.heap c.heap/\c.os=S.os/\AllBare c.gens,
ώh,Bs (apos:=ap) (cpos:=cp) PySem.F.plainAttrs_str,
ώi,(I.Y1 b u e).stay (λc v hc q=>k c v ?_ q),
ώj,["_law_tree_here","_law_texts","_law_gap"],
ώk,[97,98,99,100,101,102,103,104,105,106,107],
ώl,λp s a H Q I q=>h p s a H Q I<|k a H Q q,
ώm a b c d,Av ⟨a,b,c,λF5 σ H' ea Q E hca hfr hlen hq=>d⟩,
ώn a,λs H C ex p=>Ld B.nocell▸a s H C ex p,
ώo,["_law_texts","_law_at","_law_number"],
ώp,λd f e p a b=>h d f e p a<|s.trans b,
ώq,[65,90,48,57,95,46,61,126,123,39][k],
ώr,fnOf x qual (ip st) (et st) (ag st),
ώs a b c,K7v (Obj.mapFields λx=>x.setIfInBounds a b) c rfl,
ώt,t b (λz=>by subst z;rw[y]at h;cases h),
ώu,C.ap _ _ (aM.mp m0).1 (aM.mp M).1 lt,
ώv,ae (CA 5<|aa 6),
ώw,∃s,KV L1 s/\h.DictOf (cM P w) a s,
ώx,(Array.getElem?_eq_some_iff.mp C).1,
ώy a,K8e o d (x:=a) rfl,
ώz,(g1++(a::(x++[b])))++(f++(A++g2)),
ώA a,List.Pairwise.imp_of_mem a,
ώB b,I.laid (a:=s.heap.objs.size) (o:=.b []),
ώC,λb o q=>PySem.W.of_hideAll _ q,
ώD,pI (zJ Z.k Z.pin Z.ob) g m fX,
ώE,["way","label","tall","numbers"],
ώF b,nR (t:=[]) (a:=b) rfl,
ώG,kh he T.length,
ώH,["_law_tree_here","_law_texts"],
ώI,sDP 5 (aa 6),
ώJ a,swappedStores [a] e X.env=pure none,
ώK,((I c C).len l).mpr ⟨k,H⟩,
ώL,(by delta cs;simpa using hc),
ώM a,swapsWithSole [a] e pos.line X.env,
ώN,h c A outer s H E hr rfl rfl,
ώO,f_ (cNk<|d.map unN) d.length,
ώP,leaving env,
ώQ,Value.ref T !=Value.none,
ώR,["_law_number","_law_most"],
ώS,["tree","columns","elders"],
ώT a b,∀i j,i<a->j<a->b,
ώU,aj h aB S,
ώV a,List.getElem?_eq_none_iff.mp a,
ώW,DI M X (.Tuple ts tk tpos),
ώX,PySem.W.funFrames_hide fr,
ώY,(eT H.he<|F.Pf.pos H.pt).1,
ώZ,handleBy e X.env,
ώ0,T=U\/(U="bool"/\T="int"),
ώ1 a,DSs ⟨K,g,E⟩ a (et T) body,
ώ2,["rows","start","wanted"],
ώ3,["outlines","gap","last"],
ώ4,["_law_found","_law_due"],
ώ5,List.length_pos_iff.mpr h,
ώ6,(by revert k;decide+kernel),
ώ7,kat_one _ _,
ώ8,sr (c:=false) bP.nd rfl,
ώ9,z.sameBut S,
Ϗa,λx P v c d X e1 r w=>?_,
Ϗb,["_law_script","_law_k"],
Ϗc,["_law_many","_law_gap"],
Ϗd,["tree","places","unit"],
Ϗe b,F.binds (λ_ _ _ _ _ _ s a=>b),
Ϗf,sr (c:=true) bP.nd rfl,
Ϗg,s.heap.FunFrames X.base,
Ϗh,{s with toks:=s.toks+1},
Ϗi,sliceBounds l hi none n,
Ϗj,i.toArray.size*k.toNat,
Ϗk,List.pairwise_cons.mp p,
Ϗl a,X.env.scope.names.lookup a,
Ϗm,λz=>Q<|H.symm.trans z,
Ϗn a b c,T0.val a (T0.pre b c),
Ϗo a,I.turned (λb o B e=>a) g j,
Ϗp,leaving X.env,
Ϗq a,Heap.UpToSlots.of_keeps a,
Ϗr,Heap.SameBut a s.heap,
Ϗs,I.mod.glob.keeps I.bk,
Ϗt,letOwnedTupleGo tg,
Ϗu,if k then 1 else 0,
Ϗv,λa _ o q=>e.hh a o q,
Ϗw,λb q m z=>e.nw b q z,
Ϗx,x.length+y.length<=H6,
Ϗy,["one","other","gap"],
Ϗz,["outlines","stands"],
ϏA,(by delta Z5;rw[d];rfl),
ϏB a b,a+1+b=a+b+1,
ϏC a,P3 (ne_true_of_eq_false a),
ϏD,∃t,u=Value.int i t,
ϏE,storeName X.env x,
ϏF,∀b∈F,l b=none,
ϏG,scope.names.lookup y,
ϏH,d.params.defaults=[],
ϏI,noteFrame e X.env,
ϏJ,(by simpa using hi),
ϏK,pushCells_keeps _ _,
ϏL,base.Ns mainGlobals,
ϏM,0<j/\j<1073741824,
ϏN,@LT.lt Nat instLTNat,
ϏO,setFlight e none,
ϏP,of_decide_eq_true h,
ϏQ,Y5 deep.toNat T way,
ϏR,G10 P w K mg base J,
ϏS,λp=>p.cps.toList,
ϏT,⟨w,y.c,y.l,y.t⟩,
ϏU,I.base.keep b o e,
ϏV,I.ok.cab x c N hc,
ϏW a b,mI (iK<|av<|zD a b),
ϏX a,List.filter_eq_self.mpr a,
ϏY a,((fN m)[a]?).any Iq=true,
ϏZ,∃X,Zv K h a X,
Ϗ0,c.kept (t':=S.toks),
Ϗ1,rule i j t U s _ _,
Ϗ2,λb O q=>K9l _ q,
Ϗ3,env.cells.lookup n,
Ϗ4,b.length<=N.length,
Ϗ5,Ext.alloc S.same a,
Ϗ6,s.heap.UpToSlots i,
Ϗ7,bubble_perm _ _ _,
Ϗ8,kas_tail3 m k p,
Ϗ9,G4 P w K mg base J,
ϐa,G7 P w K mg base J,
ϐb,f_ (cK r) X.length,
ϐc,(by rw[K8O,c];simp),
ϐd,Txt.slice y l hi,
ϐe,upd h p,
ϐf a,(by delta a;rw[h];rfl),
ϐg a,∃as,a s.heap u d as,
ϐh,Y9 z.cps.toList i,
ϐi,Ext.refl S.same,
ϐj,a::(x++(b::f++A)),
ϐk,k+(i+1)+1=k+1+i+1,
ϐl,(by simpa using a),
ϐm,⟨_,_,_,_,rfl⟩,
ϐn,(by rw[e,S5];lia),
ϐo,aA (M b _ q λz=>z),
ϐp,putK k p.1 p.2,
ϐq a,(by cases r;show(_,a)),
ϐr,I.ok.noex b o e,
ϐs,λb B=>(f b B).1,
ϐt,z7 (t':=s.toks) I,
ϐu,PostS.stp e1.stp,
ϐv,tI M X.N.length,
ϐw,(T.new a m).elim,
ϐx,(by cases k<;>rfl),
ϐy,kas_count k p,
ϐz,List.map OD.er,
ϐA,∀n∈T,Asc n.l,
ϐB,⟨Tl h,c,G,a⟩,
ϐC,outF ts D0,
ϐD a,(cs a).reverse.head?,
ϐE,S.own.dom c,
ϐF a,(by cases a;assumption),
ϐG a,(by simpa[a]using h),
ϐH a,s'.heap.UpToSlots a,
ϐI,(yw h H).get? b,
ϐJ,⟨v,H,I,r,h⟩,
ϐK,s.heap.update p,
ϐL,λa A b B e=>?_,
ϐM,ae a (ae b ah),
ϐN,fn=aZ np n body,
ϐO,(by rw[<-L,e]),
ϐP,mC (λx=>W x.2),
ϐQ,O.length-(m+1),
ϐR,["own","below"],
ϐS,["_law_script"],
ϐT,σ.set j,
ϐU a b,Calls.spliced_cons (Y6 a b),
ϐV,Txt.stripBy g,
ϐW,d b m c,
ϐX a,env.cells.lookup a,
ϐY,h.objs.size<=a,
ϐZ,X.env.kindOf x,
ϐ0,CX outer H s E,
ϐ1,flat x.er=true,
ϐ2,g1++(d++g2),
ϐ3,e.nw a (bX ha),
ϐ4,(by cases h;rfl),
ϐ5,iR3 fa fb fc,
ϐ6,qU I S f hex u,
ϐ7,eCh fa fb fc,
ϐ8,Cnt r p p.size,
ϐ9,vU D0 he r s J,
ϑa,RF rfl rfl rfl,
ϑb,oE D (kyI x.w),
ϑc,(K8C g).1.symm,
ϑd,T0.val s P,
ϑe a,Ee G C a hr,
ϑf,lb.2.2 c,
ϑg,d4 rfl T.tk,
ϑh,PyData.eqv d,
ϑi,same.trans sm,
ϑj,(by rw[Rw f,E]),
ϑk,way.take (C+1),
ϑl a,λB t E P C L=>a,
ϑm a b,m=a-i/\i<=a/\b,
ϑn a,l.cps.toList.map a,
ϑo,TP X p a Q,
ϑp,b++(f++g'),
ϑq,p++(A++g2),
ϑr,Res.sh .Y4,
ϑs,k+s.length,
ϑt,bs.map V.bl,
ϑu,n-1-(n-1-J),
ϑv,M.map Nod.c,
ϑw a,is.map (λi=>(a).join),
ϑx a,show a=0 from rfl,
ϑy,Value.str x t,
ϑz,min v.toNat n,
ϑA,s.heap.get? p,
ϑB,[z,TI,TO,d,f],
ϑC,Ext F1 H1 F H,
ϑD,λx=>R.ok [x],
ϑE,λb o q m=>?_,
ϑF,se N.length D,
ϑG,po .Y4 i j [],
ϑH,k+(i+1)=k+1+i,
ϑI,Heap.NotedW B,
ϑJ,{M with E:=w},
ϑK,c<=deep.toNat,
ϑL,(t l i).mp hi,
ϑM,["_law_many"],
ϑN,(L.map f).sum,
ϑO,W.flatMap upW,
ϑP,[45,43,94,35],
ϑQ,I.stkSub b,
ϑR,Txt.mul x n,
ϑS a,a+(p-a),
ϑT b,λD a H=>te a H b,
ϑU a,oX [] a=a,
ϑV,env.kindOf x,
ϑW,λ_ _ e=>e,
ϑX,λm M=>?_,
ϑY,T.keep _ _ _,
ϑZ,bindL kindOf,
ϑ0,bindC kindOf,
ϑ1,PySem.call f,
ϑ2,sl3 k outs,
ϑ3,λ_ _ _ z=>z,
ϑ4,D1.toInts h2,
ϑ5,k+1+s.length,
ϑ6,False.elim h,
ϑ7,nK I.mod.kin,
ϑ8,T.keeps f.bk,
ϑ9,(by rw[N];rfl),
ϒa,Xs X C ea oe,
ϒb,trK dn ps en,
ϒc,2<=vs.length,
ϒd,1<=os.length,
ϒe,p.take (i+1),
ϒf,r.take (j+1),
ϒg,G.read g1 g2,
ϒh,M.length<=40,
ϒi,C_ G C hr o,
ϒj,z / 10%1009,
ϒk,lvX vs D0,
ϒl a,(by rw[T];show a),
ϒm a,a≠X.env.locals,
ϒn a,handleBy a X.env,
ϒo a,wpAny_Try_except a,
ϒp,ak dv,
ϒq,ak dE,
ϒr,ak kY,
ϒs,ak cR,
ϒt,G.lb _,
ϒu a,∀i j,i<n->j<n->a,
ϒv,Z5 (R++[n]),
ϒw,xs.map int,
ϒx a b c,(by delta a b;rw[Oe,c];rfl),
ϒy,ak cY,
ϒz a,(by rw[a];show hi),
ϒA a,λi H x h=>h=H/\a,
ϒB,ak fn al,
ϒC,t.bind f,
ϒD,z.map int,
ϒE,oh f d x,
ϒF,G.length-1,
ϒG,L.lt a A,
ϒH,L.lt b B,
ϒI a,(by rw[Y];show a),
ϒJ,tn i s.heap,
ϒK,J.yld i H x,
ϒL,X.length<=i,
ϒM,RL x y=true,
ϒN,cs.lookup x,
ϒO,he s H C ex,
ϒP,IntsAre i R,
ϒQ,putK s k v,
ϒR,si F1 H1 f,
ϒS,OkH F H Q,
ϒT,⟨K,m,E⟩,
ϒU,PostS.stp T,
ϒV,r1.Z2 e1 w1,
ϒW,s.length<H6,
ϒX,po v i j fx,
ϒY,λb z w=>?_,
ϒZ,.ol (s++zs),
ϒ0,α->KasT β,
ϒ1,j<b/\b<=j+s,
ϒ2,(Za.mp N).1,
ϒ3,LI O.length,
ϒ4,ts.length-m,
ϒ5,λx H=>?_,
ϒ6,X[i]<X[j],
ϒ7,k<=x.length,
ϒ8,aC (fN<|i+1),
ϒ9,d.fh _ _,
ϓa,stay b a,
ϓb,.ol aX,
ϓc,Cn M.K,
ϓd a,K8i (λk=>a),
ϓe,eB rD,
ϓf,ak n9,
ϓg,ak dc,
ϓh,aj bH,
ϓi,s.trans c,
ϓj,H.trans Q,
ϓk,bV uq CK,
ϓl,qJ p.asc,
ϓm,a.trans e,
ϓn,p.getD x 0,
ϓo,s.new a,
ϓp,ak cX,
ϓq,asc _,
ϓr a,wpAny_Name a D,
ϓs a,P (.done<|.ret a),
ϓt a,⟨_,_,rfl,rfl,a⟩,
ϓu,Itl K a,
ϓv,Env0 P w K,
ϓw,sp v H Q E,
ϓx,vs++dvs,
ϓy,K.lookup f,
ϓz,B5 X l hi,
ϓA,atKey xs k,
ϓB,OD.ers xs,
ϓC,g x.er i j,
ϓD,eB g al,
ϓE,i<N.length,
ϓF,h hK hM,
ϓG,Bool->Prop,
ϓH,N.length=n,
ϓI,i<X.length,
ϓJ,S (k+0+1),
ϓK,v++[(k,d)],
ϓL,vY i c f,
ϓM,CXE P w,
ϓN,absurd y z,
ϓO,kitOne X.K,
ϓP,CXC P w,
ϓQ,(by simp[H]),
ϓR,∃m,k=m+1,
ϓS,b<T.length,
ϓT,["NoTree"],
ϓU,["number"],
ϓV,D2 G C hr,
ϓW,a<R.length,
ϓX a,zj a y.er z.er,
ϓY a,(by rw[R];show a),
ϓZ,R.idxOf z,
ϓ0,λd D=>?_,
ϓ1,Ac (D0:=D0),
ϓ2,Jp (D0:=D0),
ϓ3 a b,Un a b H H' s.heap,
ϓ4,SqT X.K H,
ϓ5,K8k.mp nd,
ϓ6,h1.same s,
ϓ7,X.take i,
ϓ8 a b,dk (ag a) b [0,1],
ϓ9 a,k _ (λb u h=>?_) (a λb u U n=>⟨u,by rw[t b<|r b u U n];show U,rfl⟩) ?_ (λb u U n=>⟨u.slots,by rw[t b<|r b u U n];show U⟩),
ϔa a b c,∃fd:Gc,(∀(s:Db)(u:Do),BindsTo s fd ⟨[u],[]⟩ [(x,u)])/\∀base:Op,(K w.params).In base->base.Ns mainGlobals m->a->K2 l.prog w (K w.params) m base b k fa fd [x] c,
ϔb,concat_meets ⟨_,j,rfl⟩ ⟨_,o,rfl⟩ noFill_tuple_add seq_tuple_add PySem.F.slot_tuple_add PySem.F.entry_tuple_add (PySem.F.args_tuple_add_2 _ _),
ϔc f,(by ext p s c H x y v u Q I R Y h;let(d,e,a,b,S,w,q):=h;let(as,r):=a.reads I R;let(bs,m):=b.reads I Y;show f r m S w U ⟨.bl _,H,I,rfl,q⟩),
ϔd,⟨ok.mod,ok.kind,ok.glob,ok.blt,ok.above,ok.inj,ok.has,ok.cab,ok.hd,ok.frames,ok.stk,ok.exf,ok.bs,ok.bsz,ok.noex,ok.exfs,ok.funs,ok.frf⟩,
ϔe,["enumerate","zip","dict_itemiterator","dict_reverseitemiterator","odict_iterator","itertools.zip_longest","itertools.pairwise"].contains n,
ϔf,wpAny_Raise_call_subU (C:=C) (nm:=y1) (q:=y2) (N:=N) (bs:=y3) (bm:=R) (hdct:=y4) (sn:=y5) (sub:=y6) (ab:=y7) (col:=y8) (dd:=y9) (k0:=B) (k1:=G) (k2:=J) (k3:=K) (k5:=O),
ϔg,I.step (g':=s.gens) (d':=s.drawn) (ch:=ch) (λb B=>?_) (λb u _ _ hc e _=>k b u hc e) (λb u _ _ hc e _=>⟨u.slots,k b u hc e⟩),
ϔh,.yes (h.mono s λa m=>k a<|K9m _<|K9m _ m),
ϔi,⟨λb o e n B f=>?_,λb o e n B f=>?_,I.base.free,λb o e f=>?_,I.base.tups,I.base.frzs,I.base.tbls⟩,
ϔj,d=97\/(d≠58/\d≠124/\¬(97<=d/\d<=122)/\(¬((a=43\/a=35)↔(d=43\/d=35))\/(mkC a/\¬mkC d/\d≠32))),
ϔk,qW (env:=X.env) (x:=x) scope.names [],
ϔl,Dv (Cb wi g tc te own.length outs),
ϔm,call_meetsIn PySem.F.slot_dict_get D.typeIs PySem.F.entry_dict_get (PySem.F.args_dict_get_3 _ _ _),
ϔn,T0.val k.fh (T0.pre (D.trans k) Y),
ϔo,X.env.scope.kind==.class||(X.env.scope.kind==.module&&X.env.locals !=X.env.globals),
ϔp,(λc m o q=>k c o (nb c (by simp only[Y7]at m;rcases m with m|m<;>simp[m])) q),
ϔq,(λb m o q W=>by let(_,o',q',k):=J.stack.mem m;rw[q]at q';cases q';show k W),
ϔr,pP.mpr (λc hc=>by let(p,g):=Zaa hc;rcases rQ G C hr g with z|⟨z,_⟩<;>lia),
ϔs,Calls.callWith_builtin rfl,
ϔt,Y6 (A pos i s a H _ I h) (λu S⟨V,b,c,R,q⟩=>hc i S a b V u Q c R q),
ϔu,(arrOf<|SortSt.mk' general' (vs.toArray.zip vs.toArray) #[] 7 none).map,
ϔv,E5 (gI hr) (ai 3) (ai 6),
ϔw,Sc (Vo j l f4.at λg y1 y2 y3 y4=>wpAny_throw<|k g ⟨y1,G,y2,y3⟩ y4),
ϔx a b d,(λh _ i _ r=>by cases r;let(T,R,p,Z):=a h;let(as,A):=i _ R;let(o,e,c,n,D):=b;show(_,d)),
ϔy,⟨d,D,(R.same s).to2<|K8Y a,(Y.same s).to2<|K8Y b,a,b,okB s q⟩,
ϔz,wpAny_handleBy_cons (codeAny_handlers_test ?_) (by ext q;cases q),
ϔA,m9 C f G.pt (G.lv hr).1,
ϔB,Dr (op:=Cm) PySem.F.slot_str_lstrip PySem.F.type_str_lstrip wz,
ϔC a,(λ_ _ _ _ c=>by delta a at c;rw[PyData.canLay0]at c;cases c),
ϔD a b,(by ext p s d H Q I h;show a<|Ud A B I h λv u w x y c f R Y q=>b),
ϔE,upd a S.heap.objs.size,
ϔF,U="int"\/U="bool"\/U="str"\/U="list"\/U="tuple"\/U="NoneType",
ϔG a b c,1<=a/\a<=m/\b/\upK r c a,
ϔH,lI uP CS rfl T.t6 K7t,
ϔI,aj h (aj k aB S) c,
ϔJ,wpAny_setField d x sz,
ϔK,λB g E P C L=>⟨g,d,P,C,PostS.stp (e1.stp.trans L) po⟩,
ϔL a b,cw (i:=a) b rfl (Or.inr rfl),
ϔM,tOp (B_ M.K) (mJ i),
ϔN,(g1.push T).update e,
ϔO,fnOf name qual params body scope D kV doc pm an c ct,
ϔP,(by simp only[Y7]at z⊢;rcases z with z|z<;>simp[z]),
ϔQ,O8 PySem.F.slot_list_append PySem.F.type_list_append uh,
ϔR,O8 PySem.F.slot_list_extend PySem.F.type_list_extend yT,
ϔS,λH2 s2 sm J=>hq _ H2 s2 sm J λ_ _ _ _ _ Y1 o=>Es o Y1,
ϔT,Et Z ⟨q1,eaN,eaL,eaO,λz=>by rw[q2];ext y;cases y⟩,
ϔU a b,k+1<n->(∀j,k<j->j<n->a<=b-d k j)/\∃j,k<j/\j<n/\a=b-d k j,
ϔV,λp(j:p∈Txt.split t blk)=>PyProof.Rows.part_short j,
ϔW,h p s a H v u Q I r,
ϔX a,(λ_ _ _ _ e=>by delta a at e;rw[nol]at e;cases e),
ϔY a,(by let:=Nat.div_add_mod p s;rw[q,Zav,Zdu]at this;show a),
ϔZ,(λv z=>by let Z:Data.fields _=Data.cell v:=z;cases Z),
ϔ0,vy CX P w K M base N qual scope f cd A outer s H E,
ϔ1,Heap.get?_update_ne _ _ _ _,
ϔ2,Lk C p (lt _<|Ts H),
ϔ3,G.set (G.length-1),
ϔ4,match Zx r with|w::ws=>(x::w)::ws|[]=>[[x]],
ϔ5,(by rw[I4];let:=(ox G.he<|Ts hr).2.2;let:=G.len;lia),
ϔ6,[97,98,99,100,101,102,103,104,105,106,107][j.val]?,
ϔ7,(by delta upS;rw[tz,K8o,Z6,K8O];cases isUp c<;>rfl),
ϔ8 a,⟨λi _=>i<x.cps.size,λi H v h=>a,λi _=>x.cps.size<=i⟩,
ϔ9 a b,EN (D0:=D0) (O:=O) (E:=a) (k:=b),
ϕa,bI (bR h a a0 g),
ϕb,K2 X.prog X.w X.K X.mg X.base CX k f fd ps sp,
ϕc,I.kept (t':=s.toks) (λb o e=>x b o (K9O<|Zs e) e),
ϕd,K98 (Y6 (A pos i s g H _ I h) λU S zzz=>?_),
ϕe,vt (fs.lookup f),
ϕf a,a*a%2147483629,
ϕg a,Q (.bl (if neg then ! a else a)) H,
ϕh b,⟨e.ff,λa o h _=>e.hh a o h,b,λa h _ z=>e.nw a h z⟩,
ϕi b,wpAny_pyIter_range (IsRange.new ..) (b h a f c) ?_,
ϕj a b c,Turn P w K a b [e,it] e (λi h=>(∃old,IsEnum h e it i old)/\c),
ϕk,(λw W=>vZ R f r fs w<|by simpa using W),
ϕl,(λz=>by let:=IF n0;rw[z]at this;cases this),
ϕm,Txt.stripBy Unicode.isSpace false true y,
ϕn a,(by rw[<-Array.all_toList,K7x];exactλc hc=>Tl<|a),
ϕo,λp s a H D I q=>h p s a H D I<|k D a H q,
ϕp,[(1,"stands"),(0,"outlines"),(3,"level")],
ϕq a,(∀v,(x,v)∉binds)->a kindOf binds m x=m x,
ϕr,aE (Y.set l (a,W.take p++V++W.drop q,b)),
ϕs,Calls.Name_function_global I.ok.kind hg,
ϕt,(λb u e z=>by rw[(C b z).1]at e;cases e),
ϕu,h.IsStrIter it "str_ascii_iterator" x t i,
ϕv,[(2,"columns"),(3,"tree"),(0,"number")],
ϕw,(by rw[<-hi.numsOf,<-nums_intItems,<-e]),
ϕx,_=[_,some<|OD.od<|dU<|_++[],_,_,_,_,_],
ϕy,λi=>N.getD i ⟨[],0,Str.empty,0⟩,
ϕz,(I c C).lo l _,
ϕA,(I c C).hi l _,
ϕB a,vT D0 he e h (T.length-a) a,
ϕC,Value.builtin "object.__getattribute__",
ϕD,JQ W C S l (λA outer s H e Q E hr t=>?_),
ϕE,[("NoPicture",true),("NoTree",false)],
ϕF,Eh C p hg g (em k H).2.1 (em k H).2.2,
ϕG,fnOf "law" "law" (ip rq) (et rq) (ag rq),
ϕH a b,eqD a b=pB a b,
ϕI a,vt.some_of (v:=v) (o:=a) (by rw[l];show rel.val k),
ϕJ,W.item i s _ _ hg T (λv c tk V S u=>?_),
ϕK,i (by rw[PyData.canLay0]at c;show c),
ϕL,(λz h=>by simp at h;rw[h];show Zao _),
ϕM,⟨i,(t l i).mpr ⟨c,c1,K⟩,rfl⟩,
ϕN,(by rw[m6,K8I];delta signs;rw[I4];rfl),
ϕO,(λb P e=>⟨#[],by rw[e];simp⟩),
ϕP,.Compare a [.LtE,.LtE] [b,c] pos,
ϕQ,(λq m=>h q<|by rw[F.pre];simp[m]),
ϕR a c,List.foldl (λb d=>b++d) #[] a=(c).flatten.toArray,
ϕS,.yes (f:=[]) (.sh h),
ϕT a,(λi j H J=>by rw[e,e];show a i j H J),
ϕU,Y6 (hc p s e H _ I h) (λd S zzz=>?_),
ϕV,Obj.mapSeq (·.setIfInBounds j u),
ϕW,(by let f:=L;rw[n,I4,K8t]at f;show f),
ϕX,(Array.getElem?_eq_some_iff.mp X).1,
ϕY,(by rw[d_];ext c cs s ss _ h;cases h),
ϕZ,(by delta fN;rw[K8J,K8J,K8A,Zam];rfl),
ϕ0,λb u hc e=>⟨u,k b u hc e⟩,
ϕ1,[⟨.Name y p4,.Name z p5,[],0⟩],
ϕ2,Array.perm_iff_toList_perm.mp this,
ϕ3,SeqAt.EqAt A s u v,
ϕ4,Int.emod_nonneg _,
ϕ5,beq_eq_false_iff_ne.mpr (K8g<|K9O B),
ϕ6,λc tk k=>⟨_,H,I.kept k,?_,q⟩,
ϕ7,(λL=>(show k<=i by simpa using L)),
ϕ8,CompI M F H U Q g t el ρ0 C H1 D,
ϕ9,(λh=>by cases k<;>simp[keyOf]at h),
ϖa,(by rw[d_];ext c cs s ss h;cases h),
ϖb,[65,90,48,57,95,46,61,126,123,39],
ϖc,wpAny_loadName_local I.ok.kind,
ϖd,tb {D with nx:=N,ct:=N,bk:=D.nx},
ϖe,Builtin.Slice.sliceAdjust l hi 1,
ϖf,λc G k e=>fin i R Z c G k e,
ϖg,∀v a H Q,t' v a H Q->t v a H Q,
ϖh,this _ (λj r hr=>(ok.row j r hr).1),
ϖi,∀k,(T.drop<|j+1)[k]?=T[j+1+k]?,
ϖj,(by delta fL at hf;simpa using hf),
ϖk,cs (⟨x.cps.extract _ _⟩:Str),
ϖl,AW C L (i+1),
ϖm a,a[L]?=some a[L],
ϖn a b,DG M X (.Tuple a k pos) ([i]++([i+1]++b)),
ϖo a b,λr hr=>let -zeta q:=ox a hr;⟨b,q.2.1⟩,
ϖp,wpAny_loadName_cell I.ok.kind,
ϖq,t.toArray.size+i.toArray.size,
ϖr,Zac (λz=>by rw[z]at h;cases h),
ϖs,x.above y c,
ϖt,Af 2 (aa 8),
ϖu,JU rfl T.ta,
ϖv,lG.get (σ:=r) (σ':=r') (i:=i) (v:=v),
ϖw,λv H=>(K8k.mp nd).1 (K7w H).1,
ϖx,cxK X N scope0 s H C ex F5,
ϖy,List.idxOf_lt_length_iff.mpr M,
ϖz,I.Y1.fresh (L0 s.heap.objs.size),
ϖA,(by delta PyData.canLay0;show d),
ϖB,(by rw[t b<|r b u U n];show U),
ϖC,kat_yes (ih y _ _ _ hu2 hv2 e q),
ϖD,opK (λy z=>zj (.dict L1) y z),
ϖE,(⟨j,by rw[F.pre];simp[J],b⟩),
ϖF,bI (bR h H A j),
ϖG a c,λm=>let⟨_,q⟩:=a b m;e1.nw b (bX q) c,
ϖH a,I.step (g':=s.gens) (d':=s.drawn) (ch:=a),
ϖI a b c,(by rw[Tk];let:a∘b=id:=funext c;rw[this,Zdm]),
ϖJ,(show i<k by simpa using a),
ϖK,lM I hg (by rw[d];show m),
ϖL,⟨Zdy _,fin c c1 K k e he⟩,
ϖM,(by delta dO;rw[Oe,Oe,G,w];rfl),
ϖN,(λk m=>by rw[b,Zaq]at m;lia),
ϖO,bZ (by delta aC;rw[Oe,b];rfl),
ϖP,(λz=>by rw[z]at W;simp at W),
ϖQ,j.pin (b,o),
ϖR,M.pin (b,o),
ϖS a b,λm=>let⟨_,q⟩:=a c m;E.nw c (bX q) b,
ϖT a,(λb u q n _=>by rw[aA<|a];show n),
ϖU,X.s₀.heap.FunFrames X.base,
ϖV,Builtin.Range.rangeSize l hi,
ϖW,.For tg iter body [] pos,
ϖX,(by ext rfl;rw[g]at z;cases z),
ϖY,⟨rfl,rfl,rfl,λ_ _ h=>h⟩,
ϖZ,stripHi s.cps.contains true,
ϖ0,PyProof.Rows.mul_one_list 32,
ϖ1,T0.val S.same p,
ϖ2 a b,(by rw[K99,K99,K8a,K8a];show a h<|b h k),
ϖ3,⟨z.1,l _ _ z.2.1,z.2.2⟩,
ϖ4,(by subst z;rw[r]at m;show m),
ϖ5,j p w d c x y v u Q f R Y q,
ϖ6,Ze items.size items.size hi,
ϖ7,subscriptTail_builtinR (x:=w),
ϖ8,(⟨s.toks+1,by rw[K9W,l]⟩),
ϖ9,Builtin.Str.partsBetween a,
ϗa,s.heap.TracedAtW B e cls a0,
ϗb,a.cps.toList<b.cps.toList,
ϗc,PyProof.Rows.split_le t blk,
ϗd,stripLo s.cps.contains true,
ϗe c d,a.Pairwise c->b.Pairwise c->d,
ϗf a,(by rw[K9D]at r;cases r;show a),
ϗg,Y6 (h pos p s d H _ I c),
ϗh,(by rw[J];simpa using e),
ϗi,∀D a H,t' D a H->t D a H,
ϗj,go L [] h (by simpa using l),
ϗk,X.env.scope.names.lookup n,
ϗl,X.env.scope.names.lookup y,
ϗm,t.dropWhile s.cps.contains,
ϗn,x.w=[]\/∃y∈N,y.way=x.w,
ϗo,u.free b o e n,
ϗp a b,A_ (g:=a) (by delta b at p;show p),
ϗq b,λa H Q=>to a H λx h=>tyV K T x h/\b,
ϗr a,(λv z=>by rw[a]at z;cases z),
ϗs,s.heap.IsSliceOf sl vl vu,
ϗt,X.drop (HT.Ze X.length 0 l),
ϗu,subscripted slice false,
ϗv,keys.length=values.length,
ϗw,.Dict keys values pos,
ϗx,e.trans (Ext.alloc s P),
ϗy,λy py u F2 r Y s A C=>?_,
ϗz,{s with heap:=a,toks:=tk},
ϗA,Heap.MadeExcOf s.heap c e,
ϗB,λy py w F2 I L E u B=>?_,
ϗC,List.length_pos_iff.mpr H,
ϗD,["rows","number","elder"],
ϗE,dk (ag fF) [] [0,1,2],
ϗF,List.mem_iff_getElem.mp W,
ϗG,λw:Str=>PyData.str w,
ϗH,(λz=>by rw[z]at J;cases J),
ϗI,az (Re i),
ϗJ a,T0.val D.fh a,
ϗK a,IsRangeIter h it (l+(i:Nat)*a),
ϗL a,(λk m=>by rw[a,Zaq]at m;lia),
ϗM,s.heap.Ns X.env.locals m,
ϗN,.While c body [] pos,
ϗO,Turn X.prog X.w X.K tg J,
ϗP,pure (ForInStep.yield r),
ϗQ,newFunctionEnv scope,
ϗR,λx P v c a X e1 r w=>?_,
ϗS,Bs (apos:=ap) (cpos:=cp) K8H,
ϗT,PyData.canLayAll0 d=true,
ϗU,λx X v G I J e1 R W=>?_,
ϗV,(by rw[<-u.length];show l),
ϗW,wpAny_isSubtype_exc H ?_,
ϗX,λx P v C G J e1 R W=>?_,
ϗY,(by ext z _;simp![Y2]),
ϗZ,Def M.K M.mg x T ps f fd,
ϗ0,Zad (by rw[<-aU];show a),
ϗ1,List.mem_flatten.mp this,
ϗ2,u.there b o e,
ϗ3,upd H1 D,
ϗ4,eg T D0 r,
ϗ5 a,(by cases op<;>first|rfl|show a),
ϗ6 a,(by ext p s d H Q I h;show a),
ϗ7 a b c,bD a<=b/\b<=gj a/\c,
ϗ8 a,∀g:F,∀x∈a g,x∈F.pre g,
ϗ9 a,(by delta Zm;rw[K88,f];show a),
Ϙa,Y6 (he p s d H _ I h),
Ϙb,(by let:n<=i:=hg;lia),
Ϙc,a S.heap.objs.size=none,
Ϙd,List.take_sublist _ _,
Ϙe,H s.heap.objs.size=none,
Ϙf,scope0.names.lookup x.1,
Ϙg,PySem.W.WalkO q loose P,
Ϙh,ys.length+zs.length<=H6,
Ϙi,λg2 y1 y2 y3 y4 y5=>?_,
Ϙj,kas_rev P (N-(Q+1)) N,
Ϙk,keyKind' vs.toArray,
Ϙl,Sc (seqEpoch_at H rfl ?_),
Ϙm,us.length<vs.length,
Ϙn,dh (T2<|ts.take i) n,
Ϙo,["rows","number","row"],
Ϙp a,F.binds (λ_ _ _ _ _ _ s l=>a),
Ϙq a,opI (λi j _ _ _ _ _ hc q=>a),
Ϙr,D1.take _,
Ϙs,up b _ e1,
Ϙt a,∀g∈G,g≠[]/\a/\∀w∈g,w∈S,
Ϙu a,λJ G B X g' q r=>.a q r,
Ϙv,.BoolOp op [a] pos,
Ϙw,if b then 1 else 0,
Ϙx,Y6 (O p s b H _ I h),
Ϙy,sysModules<h.objs.size,
Ϙz,K8m w (λus Y Z=>?_),
ϘA,noteFrame ev X.env,
ϘB,Txt.rstripChars s t,
ϘC,sortedHeap s.heap a vs,
ϘD,app f (cons x nil nil),
ϘE,A1 _ ok.go ok.bd ok.ln,
ϘF,Zl.mp (op.mem_iff.mp hi),
ϘG,c=58\/c=124\/mkC c,
ϘH,⟨n.e,n.l,1+n.t %4⟩,
ϘI b,(by ext p s a H D I h;show b),
ϘJ a,∀(l b k:Nat),Dn ts b l k->a,
ϘK a,Q.f.up i v u s (by rw[a,U]) bv,
ϘL a,I.call' (s':=a) os u5 k5 bare,
ϘM a,Option.isSome_iff_exists.mp a,
ϘN a,Builtin.Slice.slicePlaces a,
ϘO,X.length=n/\t X b H Q,
ϘP,OpR X (binaryOp op) r,
ϘQ,.BinOp a op b pos,
ϘR,.UnaryOp op a pos,
ϘS,(x,NameKind.free)∈l,
ϘT,K8k.mpr ⟨np,r.nd⟩,
ϘU,-18446744073709551616,
ϘV,λv _=>v=.bl true,
ϘW,λW e o=>L.made f o E,
ϘX,lastMarks [.LtE,.LtE],
ϘY,Txt.stripChars s t,
ϘZ,∀w,(p,w)∈U->w=v,
Ϙ0,upd T D,
Ϙ1,f.set i,
Ϙ2 a,λi m=>Zl.mp<|(a).mem_iff.mp m,
Ϙ3,σ.length=X.N.length,
Ϙ4,.IfExp c a b pos,
Ϙ5,(by simpa using R),
Ϙ6,PIE X F5 σ tg R,
Ϙ7,UnR X (unaryOp op) r,
Ϙ8,CE outer P w H s Q u,
Ϙ9,(by rw[K9W]<;>lia),
ϙa,lG.len (σ:=r) (σ':=r'),
ϙb,∀b∈ch,vq X p H b,
ϙc,D1 K F' v (OD.ers x),
ϙd,(by split at hc<;>lia),
ϙe,.ol (ys.map OD.sh),
ϙf,(by rw[wY,M];show K),
ϙg,[("NoPicture",true)],
ϙh,l.cps.toList.all chB,
ϙi,⟨Ke D x,x.l,x.t⟩,
ϙj,(by delta S3;rw[e,bj]),
ϙk,List.getLast_mem n,
ϙl,getItem v,
ϙm,x.keeps b o,
ϙn,Dl C G.lb L,
ϙo a,compareOp .Lt a,
ϙp,stay c v,
ϙq,absurd H,
ϙr,D3 2 Ck,
ϙs a,Fd (r:=r) (p:=a) (n:=N) (m:=p.size),
ϙt a,a++[dh a n],
ϙu a,(a).all (λy=>flat y.er)=true,
ϙv,Mod X.K X.mg X.base,
ϙw,s.heap.objs.size<=a,
ϙx,λj y v' e1 g P=>?_,
ϙy,j p s a H _ I h,
ϙz,h.IsListIter it a i,
ϙA,intBits_le_64 H a,
ϙB,rI (λ_ j=>0<j),
ϙC,SeqAt.shaped e=true,
ϙD,λK=>(kV K.1,K.2),
ϙE,F a=none->F' a=none,
ϙF,(by simp at hl;lia),
ϙG,λc h k d e Q r=>?_,
ϙH,g none H (λ_ _ z _=>z),
ϙI,λz=>⟨z.1,?_⟩,
ϙJ,Fw fn al ok j tbl,
ϙK,p b _ (r b u U n) y,
ϙL,s'.heap.UpToSlots H,
ϙM,X.A.units+1+1<cLine,
ϙN,i=0/\T=[]/\way=[],
ϙO,O[i+1]?.getD [],
ϙP,cs.length=ss.length,
ϙQ,Os ((he 0 n h).1 rfl),
ϙR,CT (i:=2) kB.nd rfl,
ϙS,G11 P w K mg base J,
ϙT,⟨_,_,_,_,_,rfl⟩,
ϙU,(by delta mkC;decide),
ϙV a,(by rw[K87]at hi⊢;show a),
ϙW a,List.pairwise_lt_range.imp a,
ϙX a,⟨(a).1,(a).2⟩,
ϙY,λ_ _ _ _ n=>n,
ϙZ,[S.heap.objs.size],
ϙ0,typeIs_str s z t,
ϙ1,xs.length=i.length,
ϙ2,R.map WData.int,
ϙ3,c<s.heap.objs.size,
ϙ4,@LE.le Nat instLENat,
ϙ5,e<s.heap.objs.size,
ϙ6,(by simpa using Z),
ϙ7,(by simpa using A),
ϙ8,r.own.Z2 (kj r.fr),
ϙ9,S.same.trans e1.hh,
Ϛa,OkG M n is F H,
Ϛb,(by simpa using n),
Ϛc,FH (xn M.K hK),
Ϛd,Ds.map Value.ref,
Ϛe,a<s.heap.objs.size,
Ϛf,L.symm.trans a,
Ϛg,fin [(a,t)] s.toks,
Ϛh,kas_tail3 N p.size,
Ϛi,vS (A.rev _ _) _ _,
Ϛj,G5 P w K mg base J,
Ϛk,G6 P w K mg base J,
Ϛl,QH (s:=t) (t:=blk) e f,
Ϛm,inS ⟨#[k.val]⟩,
Ϛn,PyData.eqvAll a b,
Ϛo,pm.mem_iff.mp H,
Ϛp,P.f.far u (Ts U) l,
Ϛq b,A2 (RR:=λa C=>b) B l hg hc he,
Ϛr,.od aX rfl,
Ϛs,xy G g1 g2,
Ϛt,ok.1.2.2 c,
Ϛu,LU (r:=r) n,
Ϛv,(by simpa using S),
Ϛw,e1.stp.trans L,
Ϛx,L[i]?.getD 0,
Ϛy,K7y slot_list_sort ⟨_,U,rfl⟩ entry_list_sort (ND (κ:=κ) (c:=c) U a (λd H k Q f=>K8m (K d H (λb o q=>k b o (ne b o q)<|keep b o q) Q f) (λ_ _ x=>x) λ_ _ x=>x.elim) (λi j hi J H k C e=>hc i j hi J H (λb o q=>k b o (ne b o q)<|keep b o q) C e) ⟨_,rfl,?_⟩),
Ϛz,af (cw (i:=3) iT.nd rfl (Or.inr rfl)<|lI (uR _ rfl rfl) AO rfl T.t9 PyProof.Rows.boot_min<|aj (dk (ag eV) [(2,"unit")] [0,1] ["place","reach"] (hi:=r_ rfl T.te (ai 1)<|Zd g1.y6 T.t1f hr<|aj (ai 0) aB) (hg:=λ_ _ _ _ _=>dg2 0)) aB),
ϚA,af (cw (i:=3) qG.nd rfl (Or.inr rfl)<|dk (ag qA) [] [0] ["reach"] (he:=λ_ _ _ _ _=>df<|aj (ef<|e_<|aj (aK qF uw (wj r9 (λ_=>rZ)<|d4 rfl T.tk)<|ai 0)<|aj (aK qF uw (d4 rfl T.tk)<|ai 0) aB) aB)),
ϚB,wpAny_Call_method m.base m.few m.line PySem.F.plainAttrs_dict PySem.F.slot_dict_get PySem.F.type_dict_get,
ϚC,K7y PySem.F.slot_tuple_lt t PySem.F.entry_tuple_lt (xZ H B X Y ⟨_,rfl,(λe=>nomatch e),h⟩),
ϚD,tuple_addW2 l b V.toArray ws.toArray n m f d L S (by simpa using i) (by simpa using w),
ϚE,codeAny_call_function hr.depth (X _ _ W) rfl S.co S.gen rfl (PySem.W.codeRec_of X C),
ϚF,K7y PyProof.Rows.slot_tuple_getitem H.typeIs entry_tuple_getitem ?_,
ϚG,af (sk 8 (ag c_) [(2,"_law_level"),(6,"_law_k")] [0] ["_law_node"]),
ϚH,K7y PySem.F.slot_enumerate_next l PySem.F.entry_enumerate_next ?_,
ϚI,PySem.Challenge.pw_boughdraw_k63_pictures_refused.main.body.getD i,
ϚJ,I.base.keep b o (I.ok.bs b o e).1 (I.ok.bs b o e).2 (I.ok.nofr e),
ϚK,codeAny_call_builtin PySem.W.KF.slot_gs.plain PySem.W.KF.entry_gs,
ϚL,(dS λz=>by rw[List.map_eq_nil_iff]at z;rw[z]at h;cases h).2 _,
ϚM,Hy hg g ((aj h (aj k (aj l aB f) d) S) K m) S e i s j H r I,
ϚN,keep b o (L b o e) B (E b o e h) (I.base.keep b o e n B h),
ϚO,K98 (Y6 (D pos i s m H _ I h) λus S zzz=>?_) (by rw[F,f]),
ϚP a b,af a (af a<|af a<|af a<|af a<|b),
ϚQ,K98 (Y6 (A pos n s m H _ I h) λv u zzz=>?_) (by rw[d,S]),
ϚR,codeAny_call_builtin FB.ga.plain PySem.F.entry_bexc_ga,
ϚS,lI (Hm rfl) (λ_=>MF) rfl T.t8 PyProof.Rows.boot_max,
ϚT,hg v i j x.er b c f Q G.fh ((k.same E.ff).same G.ff),
ϚU,lI (uR _ rfl rfl) AO rfl T.t9 PyProof.Rows.boot_min,
ϚV,p v F H f S.same ⟨c,?_,λa m=>S.fr a<|sub a m⟩,
ϚW,@decide ((-(2^64)<i/\i<2^64)\/(-(2^64)<j/\j<2^64)),
ϚX,wpAny_getItem_str_slice (l:=l) (u:=u) (st:=none) S rfl,
ϚY,af (sk 5 (ag qE) [(1,"columns")] [0] ["child"]),
ϚZ,hg v V x.er y.er G2 b f Q d.fh (k.same d.ff) K,
Ϛ0,lI (L8 rfl) T6 rfl T.t1 PyProof.Rows.boot_all,
Ϛ1,aK qF uw (df<|aj (e_<|aj ba<|aj bH<|aj ba aB) aB),
Ϛ2,Heap.get?_update_other s.heap (Obj.mapSeq f),
Ϛ3,af (sk 5 (ag qQ) [(0,"tree")] [0] ["node"]),
Ϛ4,hg v w d y.er G1 k j _ c.fh (r.same c.ff) K,
Ϛ5,subscriptTail e (.Slice lo hi none p2) v,
Ϛ6,free c o (λz=>(C c z).2.2.1 x c e rfl) j,
Ϛ7,p b u (λz=>by subst z;rw[J]at H;cases H),
Ϛ8,F.run A outer s H args u v Q E hr he B V,
Ϛ9,hg s H _ fp P _ s5 _ H5 x u _ I5' r5,
ϛa,M4 PySem.F.slot_dict_getitem.lookup S,
ϛb,Ps.mono e (f:=f++[]) (by simpa using k),
ϛc,slot b _ (L b o e) B (E b o e h) e1,
ϛd,PySem.list_append l i.toArray n u,
ϛe,codeAny_compStart_list (loop _ rfl),
ϛf,Ps.Z2 e (f:=f++[]) (by simpa using k),
ϛg,C.ap x y (h.lt x H) (h.lt y hy) hxy,
ϛh,isInt_at z hi j (by simpa using S),
ϛi,wpAny_getItem_of (yX r) D.mapOf w,
ϛj,wpAny_noteFrame_againW l c.2.2.2,
ϛk,P.f.sig j u U l d w D no W p 58 H,
ϛl,hr a b p w d c x y v u Q f R Y q,
ϛm,wpAny_Call_method_late b f i rfl,
ϛn,I.un (Un.laid k p<|I.Y1.fresh p),
ϛo,C b o (un.keep b o q n h x) h,
ϛp,k g2 ⟨⟨y1,G,y6,y3⟩,y5⟩,
ϛq,k g2 ⟨⟨y1,J,y6,y3⟩,y5⟩,
ϛr,slot c o (I.cne x c e) hc N j,
ϛs,keep c o (I.cne x c e) hc N j,
ϛt,NS (tg:=tg) (h k m) p s a H r I,
ϛu,Sc (m:=checkCount "sorted" 1 1 _),
ϛv,Gj Unicode.isSpace false true,
ϛw,Int.fdiv_eq_ediv_of_nonneg i,
ϛx,Int.fmod_eq_emod_of_nonneg i,
ϛy,name_of_addr x.apart (K8M t),
ϛz,Jc hn L.pw ((mr n t).mpr nr),
ϛA,wpAny_Call_method0_late b l,
ϛB,I.ok.inj x y c (sub x c e1),
ϛC,C b a Q (R b n<|nb b o q),
ϛD,Res.sh (K:=M.K) (F:=G1) (H:=h),
ϛE,hg _ L σ3 E x u _ y r5,
ϛF,hg v x.er G1 a f Q D.fh k,
ϛG,C c v q (λm=>hc<|H c m),
ϛH,fin (numbered s.toks _) _,
ϛI,PassesOwnAt.leaving _ _,
ϛJ,I.un (Un.write m he k h),
ϛK,free b a (E b o e h) e1,
ϛL,LL hr (h k m) (a k m),
ϛM,KU (k:=q) (K.same m.ff) o,
ϛN,Md (k:=q) (K.same g.ff) r,
ϛO,zg D0 he h a T.length,
ϛP,s.nw a (D a m) (G a m),
ϛQ,J.base.keep b o q n h,
ϛR,IT (r:=r) p (p.size-1) 1,
ϛS,ltN (R.getD i ([],[])),
ϛT,oR (λw W=>by cases W),
ϛU,hc p s1 σ1 H1 _ I1,
ϛV,K9P (t x c<|sub x c e),
ϛW,Nat.lt_trans (K8d _),
ϛX,T.self X.A 0 _ _ _ Z,
ϛY,J.base.slot b o q n h,
ϛZ a b c d e,x≠a/\x≠b/\x≠c/\x≠d/\e,
ϛ0,K8E scope.names _ _,
ϛ1,argBest_gt (numAt y),
ϛ2,argBest_lt (numAt y),
ϛ3,compareOp .NotIn u,
ϛ4,f.nw a (e'.hh.dom q),
ϛ5,wpAny_setField l c C,
ϛ6,L.madeX J7 k1 k2 k3,
ϛ7,cons (h k) (map h c),
ϛ8,b.nw x (a.hh.dom h),
ϛ9,Ps.cons (f:=d) (g:=g) o,
Ϝa,J.base.free b o q n,
Ϝb,JO C (L.take<|j+1),
Ϝc,Txt.slice_le w none,
Ϝd,xY G g1 g2 hr o1 o2,
Ϝe,Heap.Ns.new s.heap,
Ϝf,Vj tc te σ0 D c,
Ϝg,J.base.there b o q,
Ϝh,C c v q (tr c ?_),
Ϝi,J.base.there b u z,
Ϝj,q s.heap.objs.size,
Ϝk,q F5 s σ H R' I,
Ϝl,(by first|exists "DA _ _ _~aj ? ?|aB"|exists "DE _ _ _~aa _,ai _|eC _,ba|eC _,bH|eC _,QG|F4 Rg _ _,oZ kM oM ? ? &|Zg _ _,wj r9 %rZ ?|eB Cq _,Qn GU %OR rfl T.t4 Lz ?|eB kz _,Qn ( He _ rfl ) Uy rfl T.t7 EI ?|dZ _,e_ ?|Y0 _,ef ?|F4 eA _ _,aK wG %wV ? ?|F4 fV _ _,aK qF uw ? ?|F4 du _ _,aK uG %ug ? ?|F4 eQ _ _,aK vL %AE ? ?|F4 aF _ _,aK aI aY ? ?|Gx _,Rz ?|bz _,df ?|zD _ _,wZ rfl T.t5 rfl T.td KI ?|zD _ _,wZ rfl T.t5 rfl T.tc Tw ?|zD _ _,wZ rfl T.t5 rfl T.t7 EI ?|zD _ _,wZ rfl T.t5 rfl T.t4 Lz ?|zD _ _,wZ rfl T.t5 rfl T.t2 NW ?|eIf _ _ _,KG ? ? ?|F4 gNe _ _,sx ( uj hr.units ) yJ ? ? ( cJ _ )|F4 Zp _ _,sx ( rP hr.units ) xq ? ? ( cJ _ )|eB bq _,lI uP CS rfl T.t6 K7t ?|eB rD _,lI ( uR _ rfl rfl ) AO rfl T.t9 PyProof.Rows.boot_min ?|eB BY _,lI ( Hv rfl ) %NY rfl T.t9 PyProof.Rows.boot_min ?|eB jY _,lI ( qN _ rfl rfl ) vA rfl T.t8 PyProof.Rows.boot_max ?|Cv _,RE ?|Ab _ _,Ip ? ?|eD0,U5|ak cI _,Zd g9.y0 T.t2p hr ?|ak eN _,Zd g8.y0 T.t2o hr ?|ak cR _,Zd g7.y0 T.t2n hr ?|ak kY _,Zd g6.y0 T.t2m hr ?|ak mW _,Zd g5.y0 T.t2l hr ?|ak bO _,Zd g4.y0 T.t2j hr ?|ak dX _,Zd g3.y8 T.t2i hr ?|ak eR _,Zd g3.y7 T.t2h hr ?|ak gD _,Zd g3.y5 T.t2g hr ?|ak lp _,Zd g3.y4 T.t2f hr ?|ak kQ _,Zd g3.y2 T.t2d hr ?|ak h_ _,Zd g3.y0 T.t2c hr ?|ak gZ _,Zd g2.yh T.t2b hr ?|ak cT _,Zd g2.yg T.t2a hr ?|ak dF _,Zd g2.yf T.t29 hr ?|ak dE _,Zd g2.ye T.t28 hr ?|ak dY _,Zd g2.yd T.t27 hr ?|ak gW _,Zd g2.yc T.t26 hr ?|ak bt _,Zd g2.yb T.t25 hr ?|ak dc _,Zd g2.ya T.t24 hr ?|ak ia _,Zd g2.y9 T.t23 hr ?|ak eE _,Zd g2.y7 T.t21 hr ?|ak dC _,Zd g2.y6 T.t20 hr ?|ak iA _,Zd g2.y5 T.t1z hr ?|ak bM _,Zd g2.y4 T.t1y hr ?|ak fO _,Zd g2.y2 T.t1x hr ?|ak fP _,Zd g2.y0 T.t1w hr ?|ak eX _,Zd g11.y1 T.t2u hr ?|ak c9 _,Zd g11.y0 T.t2t hr ?|ak fJ _,Zd g10.y2 T.t2s hr ?|ak dQ _,Zd g10.y1 T.t2r hr ?|ak cY _,Zd g10.y0 T.t2q hr ?|ak cZ _,Zd g1.yl T.t1t hr ?|ak cG _,Zd g1.yk T.t1s hr ?|ak dw _,Zd g1.yj T.t1r hr ?|ak fR _,Zd g1.yi T.t1q hr ?|ak eZ _,Zd g1.yh T.t1p hr ?|ak e7 _,Zd g1.yg T.t1o hr ?|ak dm _,Zd g1.yf T.t1n hr ?|ak cF _,Zd g1.ye T.t1m hr ?|ak eL _,Zd g1.yd T.t1l hr ?|ak ik _,Zd g1.yb T.t1k hr ?|ak gU _,Zd g1.ya T.t1j hr ?|ak n9 _,Zd g1.y9 T.t1i hr ?|ak gJ _,Zd g1.y7 T.t1g hr ?|ak fH _,Zd g1.y6 T.t1f hr ?|ak dv _,Zd g1.y5 T.t1e hr ?|ak gz _,Zd g1.y4 T.t1d hr ?|ak gr _,Zd g1.y2 T.t1c hr ?|ak gP _,Zd g1.y1 T.t1b hr ?|ak dR _,Zd g1.y0 T.t1a hr ?|ak c7 _,dcx g3.y6 T.t2g hr Lv.of.pass ?|ak fU _,dcx g3.y1 T.t2c hr hP ?|ak fG _,dcx g2.y3 T.t1x hr LvC.of.pass ?|ak fC _,dcx g2.y1 T.t1w hr LvC.of.pass ?|ak dA _,dcx g1.yc T.t1k hr Lv.of.pass ?|ak gy _,dcx g1.y3 T.t1c hr LvC.of.pass ?|F4 _ _ _,aK N4 Nk ? ?|eB _ _,lI ( DZ ( Q1 hr ) _ rfl ) OB rfl T.tb PyProof.Rows.boot_sorted ?|LM ?"|exists "DT _ _ _~av ( F4 gLt _ _ ),bV U9 %Vy ? ? ( cJ _ )|av ( F4 gGt _ _ ),bV sV %sT ? ? ( cJ _ )|av ( F4 gGe _ _ ),bV Ve %VQ ? ? ( cJ _ )|av ( F4 gNe _ _ ),bV ( uj hr.units ) yJ ? ? ( cJ _ )|av ( F4 Zp _ _ ),bV ( rP hr.units ) xq ? ? ( cJ _ )|iK _,Up ?|uu _,xR ?|av _,Um ?|AK ?"|exists "DW _ _ _~tM ? ?|Ua ? ?|rY ?|MZ ?"|exists "DSs _ _ _~af ? ?|aP|aw ?"|((with_reducible show DS _ _ _ _);first|exists "DS _ _ _~gR _ _,By K9F ? ?|ay _ _,cw nd rfl ( Or.inr rfl ) ?|ay _ _,cw nd rfl ( Or.inl rfl ) ?|bF _,bN ?|Z4 _ _ _,cA ? ? ?|pW _ _,xI _ ?|o_ _,Pq ?|kE _ _,C8 _ ?|fk _,M7 _|gk _,J9 Lv.of rfl rfl T.to T.tt.ex|q_,IL"|((with_reducible show DS _ _ _ (dJ _ _ _));(apply bU<;>first|trivial|exact K9F|exact PassesOwn.leaving|exactλ_=>rfl)))|((with_reducible show DG _ _ _ _ _);first|(refine pQ ?_ ?_<;>first|rfl|trivial)|(refine bR ?_ ?_ ?_<;>first|rfl|exact Or.inl rfl|exact Or.inr rfl|exact nd|(dsimp only[cxK];decide+kernel)))|exists "DGs _ _ _ _~bI ? ?|kC"|exists "DI _ _ _ _~iR2 _ _,VR rfl T.ta ? ?|iR1 _,JU rfl T.ta ?|de _,tJ ?|iEn _,NC rfl T.t3 ?"|exists "DF _ _ _~zB ?"|exists "DO _ _ _~qR ?"|(refine BlkK.mk rfl rfl (by decide+kernel) (by decide+kernel) (by decide+kernel) (by decide+kernel) ?_;(repeat (refine⟨⟨rfl,rfl⟩,?_⟩));exact True.intro)|exact Fq.mk rfl rfl rfl (by decide+kernel) rfl (by decide+kernel) (by decide+kernel)))
local macro_rules(kind:=ident)|s=>mqX (λ_=>mqY) s []
local macro_rules(kind:=Lean.Parser.Term.app)|s=>mqX (λ_=>mqY) s[0] s[1].getArgs.toList
namespace Internal
namespace L2
open PySem PySem.Spec PyProof.Rows
abbrev Key:=Sum Int Str
def yM:Key->ϳi Do|.inl k,v=>Value.isInt k v|.inr x,v=>Value.isStrOf x v
def Yi(w:Fk):Key->Int|.inl k=>hashInt k|.inr x=>hashStr w x
theorem d6:∀{k:Key}{v:Do},yM k v=true->(∃i t,k=Sum.inl i/\v=Value.int i t)\/(∃x t,k=Sum.inr x/\v=ϑy)
 |.inl i,v,h=>by let(t,e):=Value.isInt_shape (k:=i) (v:=v) h;show È ⟨i,t,rfl,e⟩
 |.inr x,v,h=>by let(t,e):=Value.isStrOf_shape (x:=x) (v:=v) h;show Ñ ⟨x,t,rfl,e⟩
theorem Gk(i:Int)(t:Tok):yM (È i) (Ä i t)=true:=by simp[yM,Value.isInt]
theorem Gp(x:Str)(t:Tok):yM (Ñ x) (Æ x t)=true:=by simp[yM,Value.isStrOf]
theorem Uq(a b:Int):Ë (ϭY Sum.inl)=(a==b):=by
 by_cases e:a=b
 .subst e;simp
 let h:¬ϭY Sum.inl:=λq=>e<|K82 q;rw[ϲR];show ϵQ (beq_eq_false_iff_ne.mpr e)
theorem TC(a b:Str):Ë (ϭY Sum.inr)=Ë (a=b):=by
 by_cases e:a=b
 .subst e;simp
 let h:¬ϭY Sum.inr:=λq=>e<|Sum.inr.inj q;rw[ϲR,Pi e]
theorem Uo(a:Int)(b:Str):å (Ë ((Sum.inl a:Key)=Sum.inr b)):=Pi λq=>nomatch q
theorem Q_(a:Str)(b:Int):å (Ë ((Sum.inr a:Key)=Sum.inl b)):=Pi λq=>nomatch q
def cM(prog:Ev)(w:Fk):PySem.KeyKind prog w Key where
 is:=yM
 hash:=Yi w
 inj:=λv a b A B=>by
  rcases d6 A with⟨i,t,rfl,rfl⟩|⟨x,t,rfl,rfl⟩
  .rcases d6 B with⟨j,u,rfl,e⟩|⟨y,u,rfl,e⟩
   .injection e with e1 _;rw[e1]
   .exact nomatch e
  .rcases d6 B with⟨j,u,rfl,e⟩|⟨y,u,rfl,e⟩
   .exact nomatch e
   .injection e with e1 _;rw[e1]
 byValue:=ϸF (by rcases d6 h with⟨i,t,rfl,rfl⟩|⟨x,t,rfl,rfl⟩<;>rfl)
 pyHash:=λH h=>by
  rcases d6 H with⟨i,t,rfl,rfl⟩|⟨x,t,rfl,rfl⟩
  .exact wpAny_pyHash_int h
  .exact wpAny_pyHash_str h
 eqBool:=λU H h=>by
  rcases d6 U with⟨i,t,rfl,rfl⟩|⟨x,t,rfl,rfl⟩
  .rcases d6 H with⟨j,u,rfl,rfl⟩|⟨y,u,rfl,rfl⟩
   .rw[Uq]at h;show wpAny_eqBool_int h
   .rw[Uo]at h;show SeqAt.EqAt.int_str i t y u _ _ _ _ h
  .rcases d6 H with⟨j,u,rfl,rfl⟩|⟨y,u,rfl,rfl⟩
   .rw[Q_]at h;show SeqAt.EqAt.str_int x t j u _ _ _ _ h
   .rw[TC]at h;show wpAny_eqBool_str h
 «strs»:=λk x t v h=>by
  rcases d6 h with⟨i,u,rfl,e⟩|⟨y,u,rfl,e⟩
  .exact nomatch e
  .injection e with e1 _
   subst e1;cases v<;>rfl
theorem Bo(prog:Ev)(w:Fk)(i:Int)(t:Tok):(cM prog w).is (È i) (Ä i t)=true:=Gk i t
theorem BZ(prog:Ev)(w:Fk)(x:Str)(t:Tok):(cM prog w).is (Ñ x) (Æ x t)=true:=Gp x t
inductive V where
 |Y4|bl (b:Bool)|int (i:Int)|str (x:Str)|byt (b:Ϲ4 UInt8)|flt (b:UInt64)|ref (a:Ix)|ty (n:String)
 deriving DecidableEq
def RelV:V->Ô Do|.Y4,u=>u=Value.none|.bl b,u=>u=Value.bool b|.int i,u=>ϏD|.str x,u=>∃t,u=ϑy|.byt b,u=>∃t,u=Value.bytes b t|.flt b,u=>∃t,u=Value.float b t|.ref a,u=>u=Ϲq|.ty n,u=>u=Value.type n
abbrev Vals:À V->Ô (À Do):=Paired RelV
theorem Vals.length(r:ϨA us):xs.length=us.length:=Paired.length r
theorem Vals.get:∀{X:À V}{s:À Do}{i:Nat}{x:V},İ X s->û X=ö->∃u,ϴ3=Ė/\ϱ4 u
 |_,_,_,_,.nil,e=>ϧm
 |_,_,0,_,.cons r _,e=>Ϭ2 (_,rfl,r)
 |_,_,i+1,x,.cons _ t,e=>by
  let(u,h,H):=Vals.get (i:=i) (x:=x) t ϵV;show(u,Ϸ2,H)
theorem Vals.set(r:ϱ4 u):∀{X:À V}{s:À Do}(i:Nat),İ X s->İ (X.set i x) (s.set i u)|_,_,_,.nil=>Ā|_,_,0,.cons _ t=>Ĉ r t|_,_,i+1,.cons q t=>Ĉ q<|Vals.set r i t
theorem Vals.append:∀{X y:À V}{u ws:À Do},İ X u->Vals y ws->İ (X++y) (u++ws)|_,_,_,_,.nil,s=>s|_,_,_,_,.cons r t,s=>Ĉ r<|Vals.append t s
theorem Vals.take:∀{X:À V}{s:À Do}(n:Nat),İ X s->İ (X.take n) (s.take n)|_,_,0,_=>Ā|_,_,_+1,.nil=>Ā|_,_,n+1,.cons r t=>Ĉ r<|Vals.take n t
theorem Vals.drop:∀{X:À V}{s:À Do}(n:Nat),İ X s->İ (X.drop n) (s.drop n)|_,_,0,r=>r|_,_,_+1,.nil=>Ā|_,_,n+1,.cons _ t=>Vals.drop n t
def vt:Ú V->Ô Da|some v,some u=>ϲ2|none,none=>True|_,_=>False
def KV{κ:Type}:À ϻN->Ô (À (κ×Do)):=Paired λ(p:κ×V)(q:κ×Do)=>ϥv/\ό9 q.2
def kV:Key->V|.inl i=>Ä i|.inr x=>Æ x
set_option genInjectivity false in
inductive HO where
 |lst (xs:À V)
 |tup (xs:À V)
 |dK (L1:À ϳ5)|dT (L1:À (À Key×V))
 |set (S:ϳi Int) (n:Nat)
 |ins (C dx:Ix) (fs:À (Str×V))
 |own (x:Ix)
 |xd (fs:À (Str×V))
 |met (f x:Ix)
 |rng (lo hi:Int)
 |Z2 (o:Obj) (u:HO)
 |tbl (ps:ϴM)
 |ext (φ:Ô Op)
abbrev Hp:=Ix->Ú HO
def upd(H:Hp)(a:Ix)(o:HO):Hp:=λb=>Ì (b=a) Ü (H b)
theorem aX:Į a o a=Ü:=Ň upd ė
theorem aA(h:ϷH):Į a o b=H b:=Ň upd χ
theorem QR{H:Hp}{a b:Ix}{o u:HO}(h:H a=Ü)(c:H b=Ė)(d:o≠u):a≠b:=by ext e;subst e;rw[h]at c;show d<|Zz c
theorem aQ{H:Hp}{a b:Ix}{o:HO}(h:H a=Ü)(c:ϱc):a≠b:=by ext e;subst e;rw[h]at c;cases c
section
variable(P:Ev)(w:Fk)
def d7(H:Hp)(h:Op)(a:Ix):Ô HO
 |.lst X=>Ĕ X.length/\∃(i:À Do)(n:Nat),İ X i/\ϰF=Â ((ı "list" Ϲd))
 |.tup X=>Ĕ X.length/\∃i:À Do,İ X i/\IsTup h a i.toArray
 |.dK L1=>Ĕ L1.length/\å ϺL/\ώw
 |.dT L1=>Ĕ L1.length/\å ϺL/\∃X:À (À Key×Ix×Do),
   Paired (λ(p:List Key×V)(q:List Key×Ix×Do)=>ϥv/\H Ϧa=Â (č<|Î p.1 kV)/\ό9 q.2.2) L1 X/\
   ∃o e E,ϰF=Ü/\o.ExactDict/\o.data=.dict e E/\e.toList=X.map (entryOfKey ϩ0)/\(X.map Ļ).Nodup
 |.set S n=>h.SetOf (intKind P w) a S n
 |.ins C dx fs=>H dx=Â όN/\ϱT fs.length/\dx≠a/\ϰF=Â (instObj C dx)/\
   ∃m,h.Ns1 dx m/\(∀f,ϕe<|m f)/\PySem.Within m (fs.map Ļ)
 |.own _=>∃o,ϰF=Ü
 |.xd fs=>∃m,h.Ns1 a m/\∀f,ϕe<|m f
 |.rng lo hi=>∃t u v,ϰF=Â ((ı "range" (Ŝ #[Ä lo t,Ä hi u,Ä 1 v])))
 |.Z2 o u=>ϰF=Ü/\d7 H h a u
 |.tbl ps=>ϰF=Â ((Ϧo ù (Ŝ ps)))
 |.met f x=>ϰF=Â (methodObj (Å f)<|Å x)
 |.ext φ=>φ h/\(∃o,ϰF=Ü)/\∀b c:Op,φ b->(∀o,b.get? a=Ü->c.get? a=Ü)->φ c
def HOk(H:Hp)(h:Op):Prop:=∀a o,H a=Ü->Ϲm o
end
section
variable{h h':Op}
theorem d7.lt(x:Ϲm o):a<h.objs.size:=by
 cases o with|lst xs=>let(_,_,_,_,e):=x;show ϵP|tup xs=>let(_,_,_,p):=x;show p.lt|dK L1=>let(_,_,_,_,o,_,_,e,_):=x;show ϵP|dT L1=>let(_,_,_,_,o,_,_,e,_):=x;show ϵP|set S n=>let(o,_,_,_,e,_):=x;show ϵP|ins C dx fs=>let(_,_,_,e,_):=x;show ϵP|own y=>let(_,e):=x;show ϵP|xd fs=>obtain⟨_,⟨_,_,_,e,_⟩,_⟩:=x;show ϵP|rng lo hi=>let(_,_,_,e):=x;show ϵP|Z2 ob u=>let(e,_):=x;show ϵP|tbl ps=>show Zs (show ϰF=Â _ from x)|met f y=>show Zs (show ϰF=Â _ from x)|ext φ=>obtain⟨_,⟨_,e⟩,_⟩:=x;show ϵP
theorem Paired.mapP{l₁:À α}{l:À β}(h:Paired F l₁ l)(f:∀a b,F a b->G a b):Paired G l₁ l:=by
 induction h with|nil=>show Ā|cons r t i=>show Ĉ (f _ _ r) i
theorem d7.stay(x:Ϲm o)(k:∀b u,(b=a\/H b=Â όN)->Ϻz Ė)
  (j:∀b,ϰq (H b) (Â όN) H') (l:∀b X,ϰq (H b) (Â (č X)) H'):Ϩ5 H' h' a o:=by
 induction o with
 |lst X=>let(z,i,n,r,e):=x;show(z,i,n,r,ϱR (È rfl) e)
 |tup X=>let(z,i,r,O,e,c):=x;show(z,i,r,O,ϱR (È rfl) e,c)
 |dK L1=>let(z,y,V,r,O,s,E,e,c):=x;show(z,y,V,r,O,s,E,ϱR (È rfl) e,c)
 |dT L1=>let(z,y,X,r,O,s,E,e,c):=x;show(z,y,X,Paired.mapP r λp q z=>ϖ3,O,s,E,ϱR (È rfl) e,c)
 |set S n=>let(O,s,E,t,e,c):=x;show(O,s,E,t,ϱR (È rfl) e,c)
 |ins C dx fs=>obtain⟨d,z,ne,e,m,⟨D,s,E,g,c⟩,r⟩:=x;show(j _ d,z,ne,ϱR (È rfl) e,m,(D,s,E,ϱR (Ñ d) g,c),r)
 |own y=>let(O,e):=x;show(O,ϱR (È rfl) e)
 |xd fs=>obtain⟨m,⟨D,s,E,e,c⟩,r⟩:=x;show(m,(D,s,E,ϱR (È rfl) e,c),r)
 |rng lo hi=>let(t,u,v,e):=x;show(t,u,v,ϱR (È rfl) e)
 |Z2 O u ih=>let(e,q):=x;show(ϱR (È rfl) e,ih q)
 |tbl ps=>
  let e:ϰF=Â ((Ϧo ù (Ŝ ps))):=x;change h'.get? a=Â ((Ϧo ù (Ŝ ps)));show k a _ (È rfl) e
 |met f y=>
  let e:ϰF=Â (methodObj (Å f)<|Å y):=x;change h'.get? a=Â (methodObj (Å f)<|Å y);show k a _ (È rfl) e
 |ext φ=>obtain⟨p,⟨o,e⟩,T⟩:=x;show(T _ _ p λo q=>ϱR (È rfl) q,(o,ϱR (È rfl) e),T)
theorem HOk.lt(x:ϵ8)(e:H a=Ü):a<h.objs.size:=(x a o e).lt
theorem HOk.fresh(x:ϵ8)(e:ϐY):ϻu:=by
 cases q:H a with|none=>rfl|some u=>show Đ (K9P (x.lt q) e) Ϸv
theorem HOk.kept(x:ϵ8)(k:∀b u,Ϻz Ė):ϥw H h':=λa o e=>(x a o e).stay (λb u _ q=>Ϧb q) ϤP Ϲx
theorem HOk.laid(x:ϵ8)(k:∀b u,Ϻz Ė)(p:ϐY)(new:Ϩ5 (Į a o) h' a o):ϥw (Į a o) h':=λb u e=>by
 let n:=x.fresh p;by_cases B:b=a
 .subst B;rw[aX]at e;cases e;show new
 rw[ϳk]at e;show(x b u e).stay (λc v _ q=>k c v q) (λc q=>Ù (aA<|ϳf n) q) λc X q=>Ù (aA<|ϳf n) q
end
def Rd(H:Hp)(a:Ix)(u:HO):Prop:=H a=Ė\/∃o,H a=Â ϫb
theorem Rd.ok(r:Ϸq u)(x:ϵ8):Ϲm u:=by
 rcases r with r|⟨o,r⟩
 .exact x a u r
 let(_,q):=x a _ r;show q
def Mut:Ô (Ú HO)|some (.lst _)=>True|some (.dK _)=>True|some (.dT _)=>True|some (.set _ _)=>True|some (.ins _ _ _)=>True|some (.ext _)=>True|_=>False
section
variable{h h':Op}
theorem HOk.write(ok:ϵ8)(m:Mut (H x))(he:e=x\/H e=Â όO)(k:∀b u,Ϻc->Ϻz Ė)(o:∃u,όy=Ė)
  (new:Ϩ5 (Į x o') h' x o'):ϥw (Į x o') h':=λb u q=>by
 let n:∀c y,H c=Â (.own y)->c≠x:=λc y r z=>ϖ4
 let t:∀c X,H c=Â (č X)->c≠x:=λc X r z=>ϖ4
 by_cases a:b=x
 .subst a;rw[aX]at q;cases q;show new
 .rw[aA a]at q
  by_cases B:b=e
  .let Q:H b=Â όO:=by
    rcases he with z|z
    .exact Đ (B.trans z) a
    .rw[B];show z
   rw[q]at Q;cases Q;let(v,V):=o;show(v,by rw[B];show V)
  .apply(ok b u q).stay (λc v hc r=>k c v ?_ r) (λc r=>by rw[aA<|n c b r];show r) λc X r=>by rw[aA<|t c X r];show r
   rcases hc with rfl|hc
   .exact B
   .rintro rfl
    rcases he with z|z
    .exact n c b hc z
    .rw[hc]at z;cases z;show a rfl
end
structure Un(fs ex:À Ix)(H H':Hp)(h h':Op):Prop where
 keep:∀b o,Ϸh=Ü->ϱc->b∉fs->b∉ex->ϧZ=Ü
 slot:∀b o,Ϸh=Ü->ϱc->b∈fs->b∉ex->∃sl,ϧZ=Â {o with slots:=sl}
 free:∀b o,Ϸh=Ü->ϱc->b∉ex->ϫh
 there:∀b o,Ϸh=Ü->b∉ex->∃o',ϧZ=Â o'
 tups:∀b xs,ϰq (H b) (Â (č xs)) H'
 frzs:∀b o u,ϰq (H b) (Â ϫb) H'
 tbls:∀b ps,H b=Â (.tbl ps)->∃more,H' b=Â (.tbl<|ps++more)
section
variable{fs fs' ex ex':À Ix}{H H1 H2:Hp}{h h1 h2 h':Op}{a x e:Ix}{o:HO}
theorem Un.any(u:Ϫ1 H1 h h1)(q:Ϸh=Â ob)(n:ϱc)(x:b∉ex):∃s,h1.get? b=Â {ob with slots:=s}:=by
 by_cases B:b∈fs
 .exact u.slot b ob q n B x
 show(ob.slots,u.keep b ob q n B x)
theorem Un.kept(k:∀b u,Ϻz Ė):Ϫ1 H h h':=
 ⟨λb O q _ _ _=>k b O q,λb O q _ _ _=>⟨O.slots,k b O q⟩,λ_ _ _ n _=>n,λb O q _=>⟨O,k b O q⟩,Ϲx,ū q,λ_ p q=>⟨#[],ϲi q⟩⟩
theorem Un.refl:Ϫ1 H h h:=Un.kept Ϲx
theorem Un.laid(k:∀b u,Ϻz Ė)(p:ϐY)(N:ϻu):Ϫ1 (Į a o) h h' where
 keep:=λb u q _ _ _=>Ϧb q
 slot:=λb u q _ _ _=>⟨u.slots,Ϧb q⟩
 free:=ϖT (K9O<|K9P (Zs q) p)
 there:=λb u q _=>⟨u,Ϧb q⟩
 tups:=λb X q=>Ù (aA<|ϳf N) q
 frzs:=λb u X q=>Ù (aA<|ϳf N) q
 tbls:=λb s q=>⟨#[],by rw[aA<|ϳf N,q];simp⟩
theorem Un.write(m:Mut (H x))(he:e=x\/H e=Â όO)(k:∀b u,Ϻc->Ϻz Ė)(E:∃u,όy=Ė):Ϫ1 (Į x o) h h':=by
 let X:∀b,ϱc->b≠x:=λb n z=>by subst z;rw[n]at m;show m
 let a:∀b,ϱc->Ϻc:=λb n z=>by
  subst z;rcases he with r|r
  .exact X b n r
  rw[n]at r;cases r
 let M:∀b u,H b=Ė->¬Mut Ė->b≠x:=λb u q nm z=>by subst z;rw[q]at m;show nm m
 apply(λb u q n _ _=>Ϧb (a b n) q,λb u q n _ _=>⟨u.slots,Ϧb (a b n) q⟩,ϖT (X b n),λb u q _=>?_,
  λb s q=>Ù ϐo q,λb u s q=>Ù ϐo q,λb p q=>⟨#[],by rw[ϐo,q];simp⟩)
 by_cases B:b=e
 .subst B;show E
 show(u,Ϧb B q)
end
def trk(h:Op)(H:Hp):À Ix:=ļ (ŷ h.objs.size) λa=>(ϷN (H a))
def yw(h:Op)(H:Hp):Op:=PySem.W.hideAll h όP
theorem GY(h:Op)(H:Hp):ϸt (yw h H)=h.objs.size:=PySem.W.hideAll_size _ _
theorem HS(e:Ϸh=Ü)(n:ϱc):ϐI=Ü:=
 PySem.W.hideAll_get _ e λM=>by let q:ě (ϷN (H b)):=(K89.mp M).2;rw[n]at q;simp at q
theorem Oc(e:ϐI=Ü):Ϸh=Ü/\ϱc:=by
 let E:Ϸh=Ü:=PySem.W.of_hideAll όP e;apply(E,?_);cases q:H b with
 |none=>rfl
 |some x=>
  let M:b∈όP:=Ϭm ⟨ϥ6<|Zs E,ϰy q⟩;let z:ϐI=none:=PySem.W.hideAll_none όP M;rw[z]at e;cases e
structure Mod(K:Ch)(mg:ł)(base:Op):Prop where
 kin:K.In base
 glob:ϏL mg
 blt:∃mb,base.Ns builtinsNs mb/\∀x:Str,Ϸ5->mb x=Ϸ6
 nolimit:base.NoLimit
set_option genInjectivity false in
structure Cx where
 prog:Ev
 w:Fk
 K:Ch
 mg:ł
 base:Op
 A:Is
 N:À Str
 s₀:Db
 H₀:Hp
 env:Env
 outer:À Env
 stack:À Env
 ex:À Ix
 fn:ϳi Str
 calm:Bool
 pn:À ķ
 xe:Do->Ô Db
def Zm(l:À Env):À Ix:=l.filterMap (·.frame)
abbrev Cx.fs(X:Cx):À Ix:=ϤQ
def Vis(sc:Scope)(x:Str):Prop:=ϺG=Â Ţ\/ϲd ϺG (Â Ŏ) (Â υ)
def Loc(sc:Scope)(x:Str):Prop:=ϲd ϺG (Â Ţ) (Â Ŏ)
def Look(env:Env)(h:Op)(m:ł)(x:Str)(u:Do):Prop:=
 (ϑV=Â Ţ/\m x=Ė)\/((ϲd ϑV (Â Ŏ)<|Â υ)/\∃c,ϭR=ã/\h.IsCell c Ė)
structure Cx.Ok(X:Cx):Prop where
 mod:ϙv
 kind:X.env.scope.kind=ϻl
 glob:X.env.globals=mainGlobals
 blt:X.env.builtins=builtinsNs
 above:X.s₀.heap.objs.size<=X.env.locals
 inj:∀x y c,ϲS=ã->X.env.cells.lookup y=ã->x=y
 has:∀x,(ϲd ϐZ (Â Ŏ)<|Â υ)->∃c,ϲS=ã
 cab:∀x c,ϲW->ϲS=ã->X.s₀.heap.objs.size<=c
 hd:Ź->ϩ7
 frames:X.A.frames=Â X.stack
 stk:X.stack=X.outer\/(X.stack=ϱD/\X.env.frame=Â X.env.locals)
 exf:∀b∈X.ex,ϵX/\∀x c,ϲS=ã->Ϧc
 bs:∀b o,Ϫn=Ü->϶Q=Ü/\X.H₀ b=none
 bsz:X.base.objs.size<=X.s₀.heap.objs.size
 noex:∀b o,Ϫn=Ü->b∉X.ex
 exfs:∀b∈X.ex,b∉X.fs
 funs:ϖU X.outer
 frf:ϩl X.fs (X.H₀ b)
structure Inv(X:Cx)(F5:À ķ)(σ:À (Ú V))(H:Hp)(s:Db):Prop where
 ok:X.Ok
 os:s.os=X.s₀.os
 bare:Ϭp s.gens
 base:Un X.fs X.ex X.H₀ H X.s₀.heap s.heap
 loc:∃m,ϗM/\∀(i:Nat)(x:Str)(v:V),Α=ö->û σ=Â ú->ϺN x->∃u,ϲ2/\Look X.env s.heap m x u
 cell:∀x c,ϲS=ã->∃v,s.heap.IsCell c v
 free:H X.env.locals=none
 Zu:∀x c,ϲS=ã->H c=none
 pin:∀p∈ϻq,όm p.1=Â p.2/\H p.1=none/\ϒm p.1/\p.1∉X.fs/\∀v,p.2.data≠Ŏ v
 Y1:ϺS H s.heap
 len:Ϙ3
section
variable{X:Cx}{σ:À (Ú V)}{s:Db}{h':Op}
theorem Cx.Ok.nofr(ok:X.Ok)(e:Ϫn=Ü):b∉X.fs:=λB=>by let:=(ok.funs.mem B).1;rw[e]at this;cases this
theorem Inv.bs(I:ą):∀b o,Ϫn=Ü->ņ=Ü/\ϱc:=ϷB ⟨ϚJ ϐr,Ϫb (I.ok.bs b o e).1 (I.ok.bs b o e).2 ϐr⟩
theorem Inv.bk(I:ą):∀b o,Ϫn=Ü->ņ=Ü:=ϷB (I.bs b o e).1
theorem Inv.mod(I:ą):ϙv:=I.ok.mod
theorem Inv.kIn(I:ą):X.K.In s.heap:=I.ok.mod.kin.keeps I.bk
theorem Inv.lt(I:ą):Ϯs X.env.locals:=let⟨_,hn,_⟩:=I.loc;hn.lt
theorem Inv.sz(I:ą):X.s₀.heap.objs.size<=s.heap.objs.size:=K9C I.ok.above<|Zcp I.lt
theorem Inv.nofs(I:ą)(h:ϙw):a∉X.fs:=λB=>by let(_,o,j,_):=I.ok.funs.mem B;show Đ (K9P (Zs j)<|K9C I.sz h) Ϸv
theorem Inv.cne(I:ą):∀x c,ϲS=ã->c≠X.env.locals:=λx c e z=>by let(v,o,j,d):=ϤR e;obtain⟨m,⟨a,S,E,O,h,_⟩,_⟩:=I.loc;rw[z,O]at j;cases j;rw[h]at d;cases d
theorem Inv.funs(I:ą):Ϗg X.outer:=by
 let all:∀(l:À Env),(∀b∈Zm l,b∈X.fs)->ϖU l->Ϗg l:=by
  ext l
  induction l with
  |nil=>ext _ _;trivial
  |cons env r ih=>
   ext S a;obtain⟨k,⟨L,o,f,n,j,d⟩,hr⟩:=a;let h:L∈X.fs:=S L (ϗ9 Uf);let(c,e):=I.base.slot L o j (I.ok.frf L h) h λz=>I.ok.exfs L z h;show(k,(L,_,f,n,e,d),ih (λb B=>S b<|ϗ9 (Ą B)) hr)
 show all X.outer (λ_ B=>B) I.ok.funs
theorem Inv.stack(I:ą):Ϗg X.stack:=by
 rcases I.ok.stk with e|⟨e,f⟩
 .rw[e];show I.funs
 rw[e];let(m,n,_):=I.loc;apply Ĉ (Ϯ4 I.ok.kind) f n ?_ I.funs;show Heap.get?_none_of_le<|ϮT I.ok.above
theorem Inv.stkSub(I:ą):∀b∈ϳ0,b∈X.env.locals::X.fs:=λb B=>by
 rcases I.ok.stk with e|⟨e,f⟩
 .rw[e]at B;show Ą B
 rw[e]at B;delta Zm at B;rw[K88,f]at B;show B
theorem Inv.stkFree(I:ą):∀b∈ϳ0,ϱc:=λb B=>by
 rcases Z7.mp (ϑQ B)with e|B
 .rw[e];show I.free
 let(_,o,j,_):=I.ok.funs.mem B;show Ϫb j (I.ok.frf b B) (λz=>I.ok.exfs b z B)
theorem Inv.step{g':Ϲ4 GenState}{U:Nat}{d':Drawn}{ch:À Ix}(I:ą)
  (C:∀b∈ch,ϬM/\ϵX/\(∀x c,ϲS=ã->Ϧc)/\ϯ9 ϻq)
  (keep:Ϻj ϵX X.fs ϹY (ņ=Ü->ϱc->ϧZ=Ü))
  (slot:∀b o,ϵX->b∈X.fs->ϹY->ņ=Ü->ϱc->∃w,ϧZ=Â {o with slots:=w}) (free:∀b o,ϹY->ņ=Ü->ϱc->ϫh)
  (there:∀b o,ϹY->ņ=Ü->∃a,ϧZ=ϴW)
  (T:∀b S,ϰq (H b) (Â (č S)) H') (f:∀b o u,ϰq (H b) (Â ϫb) H') (t:∀b P,H b=Â (.tbl P)->∃more,H' b=Â (.tbl<|P++more))
  (R:∀m,ϗM->h'.Ns X.env.locals m) (O:ϺS H' h') (hg:Ϭp g'):
  Ĺ X H' {s with heap:=h',gens:=g',drawn:=d',toks:=U}:=by
 let L:∀b o,϶Q=Ü->ϵX:=ϷB (K9O<|϶W I.ok.above);let E:∀b o,϶Q=Ü->b∉X.ex->ϹY:=λb o e h B=>by
  rcases(C b B).1 with z|z
  .exact h z
  show Đ (϶W z) Ϸv
 let cellK:∀x c,ϲS=ã->∀v,s.heap.IsCell c v->h'.IsCell c v:=λx c e v⟨o,j,D⟩=>by
  let N:c∉ch:=λz=>(C c z).2.2.1 x c e rfl;by_cases hc:c∈X.fs
  .let(w,q):=ϛr<|ϫt e
   show(_,q,D)
  show(o,ϛs<|ϫt e,D)
 apply(I.ok,I.os,hg,(λb o e n B h=>?_,λb o e n B h=>?_,λb o e n h=>?_,λb o e h=>?_,λb S e=>T b S<|I.base.tups b S e,λb o S e=>f b o S<|I.base.frzs b o S e,λb P e=>?_),?_,ϸH ?_,?_,ϸH ?_,λp A=>?_,O,I.len)
 .exact ϚN<|Ϫb e n h
 .let(w,e1):=ϭ2 n B h
  let(y,g):=ϛc<|Ϫb e n h;show(y,g)
 .let(a,e1):=ϺT o e h
  show ϛK<|Ϫb e n h
 .let(a,e1):=ϺT o e h
  show there b a (E b o e h) e1
 .let(M,e1):=I.base.tbls b P e
  let(Q,g):=t b _ e1;show(M++Q,ϰB g Array.append_assoc)
 .let(m,K,J):=I.loc
  apply(m,R m K,λi x v e1 g G=>?_);let(u,r,l):=J i x v e1 g G;apply(u,r,?_);rcases l with l|⟨k,c,e,z⟩
  .exact È l
  show Ñ ⟨k,c,e,cellK x c e _ z⟩
 .let(v,z):=ϤR e
  show(v,cellK x c e v z)
 .obtain⟨m,⟨o,_,_,j,_⟩,_⟩:=I.loc
  show free _ o ϭl j I.free
 .let(v,o,j,D):=ϤR e
  show Ϛ6<|ϫt e
 let(e,n,ne,F,d):=Ϸg A;let N:p.1∉ch:=λz=>(C p.1 z).2.2.2 p A rfl;show(keep p.1 p.2 ne F N e n,free p.1 p.2 N e n,ne,F,d)
theorem Inv.un(I:ą)(u:ϓ3 X.fs [] h')(h:ϺS H' h'):Ĺ X H' ((ϴu h' t')):=by
 obtain⟨m,⟨o,S,P,j,r⟩,_⟩:=ύb;let(L,l):=u.any j I.free Ø;show ϖH [] (λ_ z=>nomatch z) (λb o _ B _ e n=>u.keep b o e n B Ø) (λb o _ B _ e n=>u.slot b o e n B Ø) (λb o _ e n=>ϗo Ø) (λb o _ e=>ϗ2 Ø) u.tups u.frzs u.tbls (λa M=>by let(c,E,p,O,R):=M;rw[j]at O;cases O;show(_,E,p,l,R)) h I.bare
theorem Inv.call(I:ą)(u:ϓ3 ϳ0 ch h')(k:ϺS H' h')(hg:Ϭp g')(C:∀b∈ch,ϬM/\ϵX/\(∀x c,ϲS=ã->Ϧc)/\ϯ9 ϻq):
  Ĺ X H' {s with heap:=h',gens:=g',drawn:=d',toks:=t'}:=by
 obtain⟨m,⟨o,a,P,j,r⟩,_⟩:=ύb;let(l,h):=u.any j I.free ϭl;show I.step (ch:=ch) C (λb o h B hc e n=>u.keep b o e n (λz=>ϴt (Z7.mp<|ϑQ z) h B) hc) (λb o _ _ hc e n=>u.any e n hc) (λb o hc e n=>ϗo hc) (λb o hc e=>ϗ2 hc) u.tups u.frzs u.tbls (λd M=>by let(f,S,E,O,R):=M;rw[j]at O;cases O;show(_,S,E,h,R)) k hg
theorem Inv.turned{it:Ix}(I:ą)(k:∀b o,b≠it->ϰq ņ Ü h'.get?)(N:H it=none)(h:it≠X.env.locals)(a:it∈X.ex\/X.s₀.heap.objs.size<=it)(d:∀x c,ϲS=ã->c≠it)(f:∀p∈ϻq,p.1≠it):Ĺ X H ((ϴu h' t')):=by
 let i:∀b u,H b=Ė->b≠it:=λb u e z=>by rw[z,N]at e;cases e
 apply ϖH [it] ϸq (λb o _ _ hc e _=>k b o (λz=>hc<|ϰy z) e) (λb o _ _ hc e _=>⟨o.slots,k b o (λz=>hc<|ϰy z) e⟩) ϙY (λb o hc e=>⟨o,k b o (λz=>hc<|ϰy z) e⟩) ϑW (λ_ _ _ e=>e) ϕO ϑX Ϫu I.bare
 .let e:b=it:=ϲe
  subst e;show(a,h,d,f)
 .let(o,S,E,j,r):=M
  show(o,S,E,k _ o ϨW j,r)
 apply ώi ϤP Ϲx;rcases hc with z|z
 .rw[z];show i b u e
 show i c _ z
theorem Inv.tok(I:ą)(t:Nat):Ĺ X H {s with toks:=t}:=I.un (h':=s.heap) (t':=t) Un.refl I.Y1
theorem Inv.kept(I:ą)(k:∀b u,ϰq ņ Ė h'.get?):Ĺ X H ((ϴu h' t')):=I.un (Un.kept k)<|I.Y1.kept k
theorem Inv.laid(I:ą)(k:∀b u,ϰq ņ Ė h'.get?)(p:ϙw)(new:϶Z (Į a o) h' a o):
  Ĺ X (Į a o) ((ϴu h' t')):=ϛn<|I.Y1.laid k p new
theorem Inv.write(I:ą)(m:Mut (H x))(he:e=x\/H e=Â όO)(k:∀b u,Ϻc->ϰq ņ Ė h'.get?)(h:∃u,όy=Ė)(new:϶Z (Į x o) h' x o):Ĺ X (Į x o) ((ϴu h' t')):=ϛJ<|I.Y1.write m he k h new
theorem Inv.weak(I:ą)(a:σ'.length=σ.length)(w:∀(i:Nat) v,û σ'=Â ú->û σ=Â ú):ų F5 σ' H s:=
 ⟨I.ok,I.os,I.bare,I.base,let⟨m,hn,hl'⟩:=I.loc;⟨m,hn,λi x v e1 g G=>hl' i x v e1 (w i v g) G⟩,I.cell,I.free,I.Zu,I.pin,I.Y1,a.trans I.len⟩
theorem Inv.pins_of(I:ą)(h:∀p∈pins',όm p.1=Â p.2/\H p.1=none/\ϒm p.1/\p.1∉X.fs/\∀v,p.2.data≠Ŏ v):ų pins' σ H s:=
 (Ϧr I.ok (λp P=>ϴt (Y7.mp P) (λz=>Ϸg<|ϰX z)<|h p))
theorem wI{N:À Str}(h:N.Nodup){i j:Nat}{x:Str}(a:N[i]?=ö)(b:N[j]?=ö):i=j:=by let(H,e1):=Za.mp a;let(c,g):=Za.mp b;show(List.getElem_inj h).mp<|e1.trans g.symm
theorem GV(I:ą)(hN:X.N.Nodup)(hi:Α=ö)(f:ϲg x)(r:ϲ2)(h:∀s',ų F5 (Ϸ8 ú) H s'->(∃a,Ϗr s'.heap/\(a=X.env.locals\/ϲS=ϴW))->ϵb s')(hf:Ũ (ϲW\/ϱV=Â Ţ) mqac._auto_1):ϴx (ϏE u):=by
 let(m,R,hl):=ύb;let L:å ϔo:=ϱJ I.ok.kind
 let l:i<σ.length:=Ù I.len Ϯ5
 let cne:=I.cne;let tracked:∀{a:Ix}{t:Op},(∃o,ϧc=Ü/\ϻu)->Ϗr t->ϺS H t:=fun{a t} ha S b ob e=>by
  let(_,_,F):=ha;apply(I.Y1 b ob e).stay (λc W hc q=>Ę (S.2 c ?_) q) ϤP Ϲx;ext rfl;rcases hc with rfl|hc
  .rw[F]at e;cases e
  rw[F]at hc;cases hc
 rcases f with K|K
 .apply wpAny_storeName_local K R (λt T S=>?_) L
  let(oL,_,_,U,_):=id R;apply h _ ⟨I.ok,I.os,I.bare,ϔi,⟨_,T,ϙx⟩,λy c e=>?_,I.free,I.Zu,λp V=>?_,tracked ⟨oL,U,I.free⟩ S,Ŀ I.len⟩ ⟨_,S,È rfl⟩
  .exact Ę (϶q<|K9O<|϶W I.ok.above)<|ϏU n B f
  .let(sl,e1):=ϭ2 n B f
   show(sl,Ę (϶q<|K9O<|϶W I.ok.above) e1)
  .let(Z,e1):=ϺT o e f
   show(Z,Ę (϶q<|K9O<|϶W I.ok.above) e1)
  .by_cases J:j=i
   .subst J
    rw[hi]at e1;cases e1;rw[K9I l]at g;cases g;show(u,r,È ⟨K,Ø⟩)
   rw[K9E<|K8g J]at g;let(u',r',q):=hl j y v' e1 g P;apply(u',r',?_);rcases q with⟨k,e⟩|⟨k,c,e,z⟩
   .apply È ⟨k,?_⟩
    let:y≠x:=λe=>J<|wI hN e1 (e▸hi);simp[this,e]
   show Ñ ⟨k,c,e,ώ9 ϯM⟩
  .let(W,z):=I.cell y c e
   show(W,ώ9 ϯM)
  let(e,n,ne,Y,d):=Ϸg V;show(Ę (S.2 p.1 ne) e,n,ne,Y,d)
 let N:ϲW:=by
  rcases hf with z|z
  .exact z
  rw[z]at K;cases K
 let(c,hc):=I.ok.has x<|È K;let(W,z):=ϤR hc;apply wpAny_storeName_cell I.ok.kind K hc z λt C S=>?_;let(oc,O,D):=id z;apply h {s with heap:=t} ⟨I.ok,I.os,I.bare,ϔi,⟨m,R.sameBut S<|K8g<|cne x c hc,ϙx⟩,λy G e=>?_,I.free,I.Zu,λp V=>?_,tracked ⟨oc,O,ϫt hc⟩ S,Ŀ I.len⟩ ⟨c,S,Ñ hc⟩
 .exact(϶q<|K9O<|϶W ϏV).trans<|ϏU n B f
 .let(sl,e1):=ϭ2 n B f
  show(sl,(϶q<|K9O<|϶W ϏV).trans e1)
 .let(Z,e1):=ϺT o e f
  show(Z,(϶q<|K9O<|϶W ϏV).trans e1)
 .by_cases J:j=i
  .subst J
   rw[hi]at e1;cases e1;rw[K9I l]at g;cases g;show(u,r,Ñ ⟨È K,c,hc,C⟩)
  rw[K9E<|K8g J]at g;let(u',r',q):=hl j y v' e1 g P;apply(u',r',?_);rcases q with q|⟨k,G,e,z'⟩
  .exact È q
  apply Ñ ⟨k,G,e,z'.sameBut S ?_⟩;ext rfl;show J<|wI hN e1 (I.ok.inj _ _ _ e hc▸hi)
 .by_cases w:G=c
  .subst w;show(_,C)
  let(w2,z2):=I.cell y G e;show(w2,z2.sameBut S w)
 let(e,n,ne,Y,d):=Ϸg V;apply(Ę (S.2 p.1 ?_) e,n,ne,Y,d);ext q;rw[q,O]at e;let q':oc=p.2:=Zz e;show d W (by rw[<-q'];show D)
theorem mS(I:ą)(n:X.N.Nodup)(hi:Α=ö)(b:ϲg x)(r:ϲ2)(h:∀S,ų F5 (Ϸ8 ú) H S->ϵb S)(f:Ũ (ϲW\/ϱV=Â Ţ) mqac._auto_1):ϴx (ϏE u):=
 GV I n hi b r (λS a _=>h S a) f
theorem Inv.call'(I:ą)(j:s'.os=s.os)(u:ϓ3 ϳ0 ch s'.heap)(O:ϺS H' s'.heap)(hg:Ϭp s'.gens)(C:∀b∈ch,ϬM/\ϵX/\(∀x c,ϲS=ã->Ϧc)/\ϯ9 ϻq):Ĺ X H' s':=by let(h,g',d',t',a):=s';let e:a=s.os:=j;subst e;show I.call (g':=g') (t':=t') (d':=d') u O hg C
end
abbrev XK:=Do->Ú Ix->Ô Hp
abbrev St:=À<|Ú V
abbrev VK:=V->Ô Hp
abbrev TE:=St->Hp->Ô VK
abbrev TT:=St->Hp->Ô (Bool->Ô Hp)
abbrev TA:=St->Hp->Ô (À V->Ô Hp)
structure Ends where
 nx:St->Ô Hp
 rt:VK
 bk:St->Ô Hp:=λ_ _=>False
 ct:St->Ô Hp:=λ_ _=>False
abbrev TS:=Ends->St->Ô Hp
def EP(X:Cx)(p:À ķ)(a:St)(Q:VK)(u:Do)(S:Db):Prop:=∃v h,Ś h S/\ϲ2/\Q v h
def TP(X:Cx)(p:À ķ)(a:St)(Q:Bool->Ô Hp)(b:Bool)(S:Db):Prop:=∃h,Ś h S/\Q b h
def AP(X:Cx)(p:À ķ)(a:St)(Q:À V->Ô Hp)(u:À Do)(S:Db):Prop:=∃s h,Ś h S/\Vals s u/\Q s h
def SP(X:Cx)(p:À ķ)(D:Ends)(f:Flow)(S:Db):Prop:=
 match f with
 |.next=>∃a h,Ś h S/\Ϩ6 h
 |.brk=>∃a h,Ś h S/\D.bk a h
 |.cont=>∃a h,Ś h S/\D.ct a h
 |.ret u=>∃v a h,Ś h S/\ϲ2/\D.rt v h
def PE(X:Cx)(e:On)(t:TE):Prop:=
 ∀(p:À ķ)(s:Db)(a:St)(H:Hp)(Q:VK),Ś H s->ϨB->ē ϮG ϸg X.xe s
def PT(X:Cx)(e:On)(t:TT):Prop:=
 ∀(p:À ķ)(s:Db)(a:St)(H:Hp)(Q:Bool->Ô Hp),Ś H s->ϨB->ē (ϭH ϮG) ϑo X.xe s
def PW(X:Cx)(e:On)(t:TT):Prop:=
 ∀(whole:Sem Do)(p:À ķ)(s:Db)(a:St)(H:Hp)(Q:Bool->Ô Hp),Ś H s->ϨB->ē (ϭH whole) ϑo X.xe s
theorem PW.pt(h:PW X e t):ϸ2 e t:=h _
def PA(X:Cx)(e:À On)(t:TA):Prop:=
 ∀(pos:Pos)(p:À ķ)(s:Db)(a:St)(H:Hp)(Q:À V->Ô Hp),Ś H s->ϨB->ē (spliced<|ϳq<|starEach e X.env) (AP X p a Q) X.xe s
def PS(X:Cx)(T:No)(t:TS):Prop:=
 ∀(p:À ķ)(s:Db)(a:St)(H:Hp)(D:Ends),Ś H s->t D a H->ē (exec T X.env) (Ϲ9 p D) X.xe s
def PSs(X:Cx)(T:À No)(t:TS):Prop:=
 ∀(p:À ķ)(s:Db)(a:St)(H:Hp)(D:Ends),Ś H s->t D a H->ē (execs T X.env) (Ϲ9 p D) X.xe s
theorem Y6(h:όz t Q E s)(q:∀a s,Q a s->Q' a s):όz t Q' E s:=K8m h q ϯU
section
variable{X:Cx}
def mJ(i:Nat):TE:=λa H Q=>∃v,ϴi=Â ú/\Q v H
def tC(v:V):TE:=λ_ H Q=>Q v H
theorem fi{pos:Pos}(n:Α=ö)(V:ϺN x)(D:Ŭ)(d:ő ϵd):õ (î pos) ϸK:=by
 ext p s b H Q I h;let(v,e,h):=h;let(m,N,a):=I.loc;let(u,r,l):=a i x v n e V;let fin:ϵM p b Q u s:=ϐJ;rcases l with⟨k,M⟩|⟨k,c,hc,C⟩
 .exact ϓr (ϖc k N M fin)
 rcases k with k|k
 .exact ϓr (ϖp k hc C fin)
 show ϓr (wpAny_loadName_free I.ok.kind k hc C fin d)
theorem S7{i j pos}:õ (μ (Ä i) pos) (tC<|Ä i):=Ϧ5 (wpAny_Constant_int ⟨Ä i,H,ϻs,ι,h⟩)
theorem Qi{b j pos}:õ (μ (í b) pos) (tC ϰ0):=Ϧ5 (Constant_bool ⟨ϰ0,H,I,rfl,h⟩)
theorem jQ{x j pos}:õ (μ (Æ x) pos) (tC<|Æ x):=Ϧ5 (Calls.Constant_str ⟨Æ x,H,ϻs,ι,h⟩)
def Gl(X:Cx)(x:Str):Prop:=ϐZ=Â .globalImplicit
theorem lM{pos:Pos}(I:ą)(hg:ϰY)(M:ϹZ=Ė)(h:Q u s)(d:Ŭ):ē (ϲY<|î pos) Q E s:=
 ϕs (Calls.loadGlobal_global (Ù I.ok.glob Ϗs) M h) d
theorem og{pos:Pos}(I:ą)(hg:ϰY)(M:Ϻ9)(v:Ϸ6=Ė)(h:Q u s)(n:ő Ϸ5)(d:Ŭ):ē (ϲY<|î pos) Q E s:=by let(m,a,b):=I.mod.blt;show ϕs (Calls.loadGlobal_builtin (Ù I.ok.glob Ϗs) M (Ù I.ok.blt<|a.keeps I.bk) (Ę (b x n) v) h) d
theorem vH{pos:Pos}(hg:ϰY)(M:ϹZ=Ė)(r:ϲ2)(d:Ŭ):õ (î pos) (tC v):=
 Ϧ5 (lM I hg M ϐJ d)
theorem FF{pos:Pos}(hg:ϰY)(M:Ϻ9)(V:Ϸ6=Ė)(r:ϲ2)(n:ő Ϸ5)(d:Ŭ):õ (î pos) (tC v):=
 Ϧ5 (ϧH V ϐJ n d)
variable{ta tb:TE}{pos:Pos}
def tB(t:TE):TT:=϶2 (λx h=>∃c,x=ϻ1/\Q c h)
theorem Tn(h:õ e t)(he:Ũ (∀whole,ϭH whole=(do let v <-whole;standAt e.pos;holding [v] (truthy v))) mqae._auto_1):ϸ2 e (tB t):=by
 ext p s c H Q I w;apply isTrue_plain (Ϥs<|ϥL c H _ I w)<|he _;let(x,a,i,r,b):=zzz;let(d,rfl,q):=b;cases r;show K8b ⟨a,i,q⟩
variable{rest:À On}
def Vq(t u:TT):TT:=϶2 (λc h=>Ì ϱ5 (u a h Q) (Q false h))
def tOr(t u:TT):TT:=϶2 (λc h=>Ì ϱ5 (Q true h) (u a h Q))
def WQ(t:TT):TT:=϶2 (λc h=>Q (!c) h)
theorem Ob(A:ϫj):PW X (ϲV And [a]) tA:=by
 ext w p s b H Q I h;apply isTrue_and<|Y6 (Ϸn b H Q I h) λc S e=>?_;cases c with|true=>show isTrue_and_nil e|false=>show e
theorem Tt(A:ϫj):PW X (ϲV Or [a]) tA:=by
 ext w p s b H Q I h;apply isTrue_or<|Y6 (Ϸn b H Q I h) λc S e=>?_;cases c with|false=>show isTrue_or_nil e|true=>show e
theorem Q0(A:ϫj)(B:PW X (ϲV And ϶h) tB'):PW X (ϲV And<|a::϶h) (Vq tA tB'):=by
 ext w p s e H Q I h;apply isTrue_and<|Y6 (Ϸn e H _ I h) λc S zzz=>?_;let(d,i,q):=zzz;cases c with|true=>show B w p S e d Q i q|false=>show(d,i,q)
theorem Vr(A:ϫj)(B:PW X (ϲV Or ϶h) tB'):PW X (ϲV Or<|a::϶h) (tOr tA tB'):=by
 ext w p s e H Q I h;apply isTrue_or<|Y6 (Ϸn e H _ I h) λc S zzz=>?_;let(d,i,q):=zzz;cases c with|true=>show(d,i,q)|false=>show B w p S e d Q i q
theorem Rf(A:ϫj):ϸ2 ϩU (WQ tA):=ϗ6 (isTrue_not<|Ϸn d H (λc b=>Q (!c) b) I h)
def PM(ta tb:TE):TE:=ϦL (∃c,x=ϻ1/\Ì ϱ5 (tb a h Q) (Q ϪZ h))
def Qj(ta:TE):TE:=ϦL (∃c,x=ϻ1/\Q (.bl<|!c) h)
theorem IJ{op}(h:õ a t):õ Ϙv t:=λp s b H Q I w=>BoolOp_one<|ϥL b H Q I w
theorem HY(A:õ a ta)(B:õ (ϲV And ϶h) tb):õ (ϲV And<|a::϶h) (PM ta tb):=by
 ext p s e H Q I h;apply BoolOp_and<|Ϥs (Ϸn e H _ I h);let(x,d,i,r,q):=zzz;let(c,rfl,q):=q;cases r;apply K8b ?_;cases c with|true=>show B p S e d Q i q|false=>show(ϪZ,d,i,rfl,q)
theorem Ko(A:õ a ta):õ ϩU (Qj ta):=by
 ext p s e H Q I h;apply UnaryOp_<|Ϥs (Ϸn e H _ I h);let(x,d,i,r,b):=zzz;let(c,rfl,b):=b;cases r;show not_of<|K8b ⟨.bl<|!c,d,i,rfl,b⟩
def tIf(t:TT)(ta tb:TE):TE:=϶2 (λc h=>Ì ϱ5 (ta a h Q) (tb a h Q))
theorem KJ(hc:ϸ2 c tA)(A:õ a ta)(B:õ b tb):õ Ϙ4 (tIf tA ta tb):=by
 ext p s e H Q I h;apply wpAny_IfExp ϕU;let(f,i,q):=zzz;cases d with|true=>show A p S e f Q i q|false=>show B p S e f Q i q
end
def Zv(K:Ch)(H:Hp)(a:Ix)(X:À V):Prop:=
 Ϸq (Ă X)\/
  ∃(o:Obj)(i:ϴM)(n:Nat),ϯV=Ü/\o.cls=Ĳ "list"/\o.dict=none/\o.data=ϳR i n/\Ĕ i.size/\İ X i.toList
def SqT(K:Ch)(H:Hp)(a:Ix)(X:À V):Prop:=
 Ϸq (č X)\/
  ∃(o:Obj)(i:ϴM)(n:Nat),ϯV=Ü/\o.cls=Ĳ "tuple"/\o.data=ϳR i n/\Ĕ i.size/\İ X i.toList
def Yq:Do->Ú V|.none=>Â .Y4|.bool b=>Â ϰ0|.int i _=>Â<|Ä i|.str x _=>Â<|Æ x|.bytes b _=>Â<|.byt b|.float b _=>Â<|.flt b|.ref a=>Â<|Å a|.type n=>Â<|.ty n|_=>none
theorem RelV.abs(r:ϱ4 u):Yq u=ö:=by
 cases x with
 |Y4=>cases r;rfl
 |bl _=>cases r;rfl
 |int _=>let(t,rfl):=r;rfl
 |str _=>let(t,rfl):=r;rfl
 |byt _=>let(t,rfl):=r;rfl
 |flt _=>let(t,rfl):=r;rfl
 |ref _=>cases r;rfl
 |ty _=>cases r;rfl
theorem RelV.inj(r:ϱ4 u)(q:ϳ6):x=y:=Zz<|r.abs.symm.trans q.abs
theorem Vals.inj{X y:À V}{s:À Do}(h:İ X s)(k:Vals y s):X=y:=by
 induction X generalizing y s with
 |nil=>cases h;cases k;rfl
 |cons a X i=>cases h with|cons r t=>cases k with|cons r' t'=>rw[r.inj r',i t t']
section
variable{X:Cx}{s:Db}{xs ys:À V}
theorem Zv.of{K:Ch}(h:H a=Â (Ă xs)):ϲp xs:=È<|È h
theorem SqT.of{K:Ch}(h:H a=Â (č xs)):ϥx a xs:=È<|È h
theorem Inv.list(I:ą)(h:ϧJ xs):∃i:À Do,ϨA i/\PlainL s.heap a i.toArray/\Ĕ xs.length:=by
 rcases h with h|⟨o,i,n,k,hc,d,S,Z,r⟩
 .let(z,i,n,r,e):=h.ok I.Y1
  show(i,r,(_,n,e,rfl,rfl,rfl),z)
 apply(i.toList,r,(o,n,I.kIn a o k,hc,d,Ϛv),?_);let e:=r.length;simp only[K8t]at e;lia
theorem Inv.tuple(I:ą)(h:ϓ4 a xs):∃i:À Do,ϨA i/\ϵn a i.toArray/\Ĕ xs.length:=by
 rcases h with h|⟨o,i,n,k,hc,S,Z,r⟩
 .let(z,i,r,p):=h.ok I.Y1
  show(i,r,p,z)
 apply(i.toList,r,(o,I.kIn a o k,hc,n,Ϛv),?_);let e:=r.length;simp only[K8t]at e;lia
theorem Inv.list_inj(I:ą)(h:ϧJ xs)(c:ϧJ ys):xs=ys:=by
 obtain⟨i,r,⟨o,n,e,_,_,d⟩,_⟩:=I.list h;obtain⟨its',R,⟨O,N,E,_,_,d'⟩,_⟩:=ύc;rw[e]at E;cases E;rw[d]at d';injection d' with D _
 let:i=its':=Ŀ (Zh Array.toList D)
 subst this;show r.inj R
end
abbrev Cx.wish(X:Cx)(E:Do->Ô Db):Cx:={X with xe:=E}
abbrev Cx.nox(X:Cx):Cx:=X.wish ϲh
theorem Cx.Ok.wish{X:Cx}(ok:X.Ok)(E:Do->Ô Db):(ϫc).Ok:=
 ϔd
theorem Cx.Ok.unwish{X:Cx}{E:Do->Ô Db}(ok:(ϫc).Ok):X.Ok:=
 ϔd
section
variable{X:Cx}
theorem Inv.wish(I:ą)(E:Do->Ô Db):Ĺ ϫc H s:=(Ϧr (I.ok.wish E) I.pin)
theorem Inv.unwish(I:Ĺ ϫc H s):ą:=(Ϧr I.ok.unwish I.pin)
theorem SP.unwish(h:SP ϫc F5 D f s'):Ϲ9 F5 D f s':=by
 cases f with|next=>let(a,H,I,q):=h;show(a,H,I.unwish,q)|brk=>let(a,H,I,q):=h;show(a,H,I.unwish,q)|cont=>let(a,H,I,q):=h;show(a,H,I.unwish,q)|ret u=>let(v,a,H,I,r,q):=h;show(v,a,H,I.unwish,r,q)
theorem PSs.nox{T:À No}(h:PSs X.nox T t):ϴj T t:=λp s a H D I w=>K8m (ϥL a H D (I.wish _) w) (λ_ _ q=>q.unwish) λ_ _ z=>ϸo z
end
section
variable{X:Cx}{st:No}{rest:À No}{t u:TS}{te:TE}{pos:Pos}
def PC:TS:=λD a H=>Ϩ6 H
def VJ(t u:TS):TS:=λD a H=>t {D with nx:=u D} a H
theorem NO:ϴj [] PC:=λ_ _ a H _ I h=>K8W ⟨a,H,I,h⟩
theorem B7(c:ϱU st t)(d:ϴj rest u):ϴj (st::rest) (VJ t u):=by
 ext p s e H D I h;apply ϯg<|Y6 (c p s e H {D with nx:=u D} I h) λf S q=>?_;cases f with|next=>let(a,b,i,q):=q;show d p S a b D i q|ret v=>show q|brk=>show q|cont=>show q
theorem Fp(a:ϱU st t):ϴj [st] t:=by
 ext p s b H D I h;apply ϯg<|Y6 (a p s b H D I h) λf S q=>?_;cases f with|next=>show K8W q|ret v=>show q|brk=>show q|cont=>show q
theorem Inv.quiet(I:ą):å (interactive X.env):=by simp[interactive,I.ok.kind]
def xK(te:TE):TS:=ϑT (λ_ h=>Ϩ6 h)
theorem Er(he:õ e te)(S:Û (ϤJ none pos.line X.env=϶b)):ϱU (ϻ9 e pos) (xK te):=ϘI (wpAny_Expr_any (Y6 ϭN λv c⟨x,b,i,r,q⟩=>⟨a,b,i,q⟩) I.quiet S)
def TQ(te:TE):TS:=ϑT D.rt
theorem Kl(he:õ e te):ϱU (.Return ϻF pos) (TQ te):=ϘI (wpAny_Return_some<|Y6 ϭN λv S⟨x,b,i,r,q⟩=>⟨x,a,b,i,r,q⟩)
def V5(c:TT)(t u:TS):TS:=λD a H=>c a H λb h=>Ì ϻX (t D a h) (u D a h)
theorem Xn(hc:ϸ2 c tc)(A:ϴj a t)(B:ϴj b u):ϱU (.If c a b pos) (V5 tc t u):=by
 ext p s e H D I h;apply wpAny_If ϕU;let(f,i,q):=zzz;cases d with|true=>show A p S e f D i q|false=>show B p S e f D i q
def JK:TS:=Ϧ2
theorem Kj:ϱU st JK:=λ_ _ _ _ _ _ h=>h.elim
end
abbrev TG:=V->St->Hp->Ô (St->Ô Hp)
abbrev TGs:=À V->St->Hp->Ô (St->Ô Hp)
def PG(X:Cx)(target:On)(t:TG):Prop:=
 ∀(p:À ķ)(s:Db)(b:St)(H:Hp)(v:V)(u:Do)(Q:St->Ô Hp),ų p b H s->ϲ2->t v b H Q->
  ē (assign target X.env u) (λ_ S=>∃a h,Ś h S/\Q a h) X.xe s
def PGs(X:Cx)(T:À On)(t:TGs):Prop:=
 ∀(p:À ķ)(s:Db)(b:St)(H:Hp)(v:À V)(u:À Do)(Q:St->Ô Hp),ų p b H s->Vals v u->t v b H Q->
  ē (assignInOrder (Î (assignEach T X.env) Ī) u) (λ_ S=>∃a h,Ś h S/\Q a h) X.xe s
abbrev Vd:=V->V->V->Hp->Ô (Ô Hp)
def U0(X:Cx)(t:Vd):Prop:=
 ∀(p:À ķ)(s:Db)(a:St)(H:Hp)(o i v:V)(O I u:Do)(Q:Ô Hp),Ś H s->RelV o O->RelV i I->ϲ2->t o i v H Q->
  ē (setItem O I u) (λ_ S=>∃h,Ś h S/\Q h) X.xe s
abbrev TIp:=V->V->Hp->Ô VK
def PIp(X:Cx)(op:Operator)(t:TIp):Prop:=
 ∀(p:À ķ)(s:Db)(a:St)(H:Hp)(x y:V)(v u:Do)(Q:VK),Ś H s->ϱ4 v->ϳ6->t x y H Q->
  ē (inplaceOp op v u) ϸg X.xe s
section
variable{X:Cx}{pos:Pos}
def tZ(i:Nat):TG:=λv a H Q=>Q (Ϧ8 ú) H
theorem FD(n:X.N.Nodup)(hi:Α=ö)(b:ϲg x)(f:Ũ (ϲW\/ϱV=Â Ţ) mqac._auto_1):PG X (î pos) ϩp:=by ext p s c H v u Q I r h;show wpAny_assign_Name<|mS I n hi b r (λS a=>⟨_,H,a,h⟩) f
def Xd:TGs:=λs a H Q=>s=[]/\Q a H
def P5(t:TG)(u:TGs):TGs:=λs b H Q=>∃v r,s=v::r/\t v b H λa h=>u r a h Q
theorem Pu:Ϥa [] Xd:=by ext p s a H v u Q I r h;let(e,h):=h;subst e;cases r;show assignInOrder_nil ⟨a,H,I,h⟩
theorem HM(c:PG X e t)(d:Ϥa es u)(S:Û (Î (ϳt Ō) Ī=assign e X.env::Î (ϳt es) Ī)):Ϥa Ō (P5 t u):=by
 ext p s g H j U Q I r h;let(v,V,e1,h):=h;subst e1;cases r with
 |cons r rr=>
  rw[S];apply assignInOrder_cons<|Y6 (c p s g H _ _ _ I r h) λ_ f zzz=>?_;let(a,b,i,q):=zzz;show d p f a b _ _ Q i rr q
def Vt(K:Ch)(n:Nat)(t:TGs):TG:=λv b H Q=>∃a X,v=Å a/\ϥx a X/\ϘO
theorem Uv(hc:Ź)(h:Ϥa es t)(N:Û (Ã (ϳt es)=n))(S:Û ((ϳt es).findIdx? Ļ=none)):PG X (ϳx k pos) (Vt X.K n t):=by
 ext p s c H v u Q I r w;let(a,g,e1,q,l,w):=w;subst e1;cases r;let(f,R,T,Z):=I.tuple q;apply assign_Tuple_tuple ϱW T (by simp[N,<-l,R.length]) S λd x=>?_;let i:ų p c H ϩ8:=ϕc;show h p _ c H g _ Q i Ϙ5 w
def VC(to T:TE)(t:Vd):TG:=λv a H Q=>to a H λo h=>T a h λi b=>t o i v b λc=>Q a c
theorem SD(j:õ o to)(hi:õ i ti)(S:U0 X t)(A:autoParam (∀v,Ϻ0 (ŧ o i pos) v=(do
   let ov <-holding [v] (eval o X.env)
   let iv <-holding [v,ov] (eval i X.env)
   standAt pos
   holding [v,ov,iv] (setItem ov iv v)
   release [v,ov,iv] [])) mqae._auto_1):PG X (ŧ o i pos) (VC to ti t):=by
 ext p s a H v u Q I r h;rw[A];apply Ϲh<|Y6 ϙy λov n zzz=>?_;let(x,b,e,R,q):=zzz;apply Ϲh<|Y6 (Ϭe n a b _ e q) λiv w zzz=>?_;let(y,c,f,m,k):=zzz;apply Sc<|K7o<|Ϲh<|Y6 (S p w a c x y v ov iv u _ f R m r k) λ_ z zzz=>?_;let(d,g,l):=zzz;show wpAny_release ⟨a,d,g,l⟩
def Dv(te:TE)(g:TG):TS:=ϑT (λx h=>g x a h D.nx)
theorem Il(he:õ e te)(hg:Ϩ0 X)(S:Û (ώM tg=϶b))(w:Û (ώJ tg))(c:Û (Î (ϳt [tg]) Ī=[Ϻ0 tg])):ϱU (Ϻ3 tg) (Dv te g):=by
 ext p s a H D I h;apply wpAny_Assign_stores (Y6 ϭN λv d zzz=>?_) S w;let(x,b,i,r,Q):=zzz;rw[c];show Y6 (hg p d a b x v _ i r Q) λ_ f q=>q
theorem Jb(n:X.N.Nodup)(hi:Α=ö)(c:ϲg x)(he:õ e te)(S:Û (ϤJ (Â<|î pos') pos.line X.env=϶b))(F:Ũ (ϲW\/ϱV=Â Ţ) mqac._auto_1):
  ϱU (Ϻ3<|î pos') (Dv te ϩp):=by
 ext p s d H D I h;apply wpAny_Assign_Name (Ϙa<|λv g zzz=>?_) S;let(y,a,b,r,q):=zzz;show mS b n hi c r (λw f=>⟨_,a,f,q⟩) F
def UY(i:Nat)(te:TE)(T:TIp):TS:=λD a H=>∃x,ϴi=Â ö/\te a H λy h=>T x y h λz b=>D.nx (Ϧ8<|Â z) b
theorem RA(N:X.N.Nodup)(hi:Α=ö)(b:ϲg x)(he:õ e te)(O:PIp X op ti)(F:Ũ (ϲW\/ϱV=Â Ţ) mqac._auto_1):
  ϱU (.AugAssign (î pos') op e pos) (UY i te ti):=by
 ext p s d H D I h;let(v,e1,h):=h;let(m,q,L):=I.loc;let V:ϺN x:=by rcases b with k|k;show È k;show Ñ<|È k
 let(u,r,l):=L i x v hi e1 V;apply wpAny_AugAssign_Name ?_;let go:ē ϮG (λw S=>ē (inplaceOp op u w) (λr a=>ē (ϏE r) (λ_=>Ϲ9 p D Ϥb) X.xe a) X.xe S) X.xe s:=by
  apply Ϙa (λw B zzz=>?_);let(y,f,j,R,Q):=zzz;apply Y6 (O p B d f v y u w _ j r R Q) λz E zzz=>?_;let(Z,g,n,A,t):=zzz;show mS n N hi b A (λG o=>⟨_,g,o,t⟩) F
 rcases l with⟨K,M⟩|⟨K,c,hc,C⟩
 .exact ϖc K q M go
 rcases K with K|K
 .exact ϖp K hc C go
 rcases b with k|k
 .let:ϱV=Â υ:=K
  rw[k]at this;cases this
 let:ϱV=Â υ:=K;rw[k]at this;cases this
def ipI(f:ϱ3 Int Int):TIp:=ž (ϻk (Ä i) (Ä j) (Ä<|f i j))
theorem Tz:PIp X .Add (ipI λi j=>i+j):=by ext p s a H x y v u Q I r m h;let(i,j,e1,g,q):=h;subst e1;subst g;let(t,rfl):=r;let(U,rfl):=m;show iadd_int (ϵp (Ä _) ι)
end
section
variable{X:Cx}{pos:Pos}
def KY(c:TT)(tb:TS):TS:=λD a H=>∃W:Nat->St->Ô Hp,(∃m,W m a H)/\∀m a H,W m a H->
 c a H λb e=>Ì ϻX (∃N:St->Ô Hp,(∀d h,N d h->∃M,M<m/\W M d h)/\ϖd a e) (Ϩ6 e)
theorem L6(P:PassesOwn ϰj X.A X.env X.xe)(hc:ϸ2 c tc)(B:ϴj body tb):ϱU ϗN (KY tc tb):=by
 ext p s x H D I h;obtain⟨W,⟨m0,u⟩,turn⟩:=h;apply wpAny_While<|codeAny_whileLoop (λn S=>∃e j,ų p e j S/\W n e j) ?_ m0 ⟨x,H,I,u⟩;ext n s1 ⟨σ1,H1,I1,w1⟩;apply ϥh<|Y6 (ϛU<|turn n σ1 H1 w1) λb t zzz=>?_;let(o,q,k):=zzz;cases b with
 |true=>
  let(N,r,k):=k;rw[ė];apply ϥh<|Y6 (B p t σ1 o _ q k) λf z l=>?_;cases f with|next=>let(a,d,g,i):=l;let(m,M,w):=r a d i;show(m,M,a,d,g,w)|cont=>let(a,d,g,i):=l;let(m,M,w):=r a d i;show(m,M,a,d,g,w)|brk=>show l|ret v=>show l
 |false=>rw[ϲy];show K8W ⟨σ1,o,q,k⟩
end
structure It where
 go:Nat->Ô Hp
 yld:Nat->Hp->V->Ô Hp
 stop:Nat->Ô Hp
def vq(X:Cx)(i:À ķ)(H:Hp)(b:Ix):Prop:=
 ϱc/\ϵX/\b∉X.fs/\ϬM/\(∀x c,ϲS=ã->Ϧc)/\ϯ9 (X.pn++i)
theorem Inv.fpOk(I:ą)(B:s.heap.objs.size<=b)(n:ϫh):vq X F5 H' b:=by
 apply(n,Zcq<|K9P I.lt B,I.nofs B,Ñ<|K9C I.sz B,λx c e z=>?_,λp h z=>?_)
 .let(v,q):=ϤR e
  show Đ (K9P q.lt<|by rw[z];show B) Ϸv
 show Đ (K9P (Zs (Ϸg h).1)<|by rw[z];show B) Ϸv
structure Turn(P:Ev)(w:Fk)(K:Ch)(tg:On)(J:It)(fp:À Ix)(it:Ix)(tn:Nat->Ô Op):Prop where
 mem:it∈fp
 obj:∀i h,tn i h->ϳE (∃o,Ϸh=Ü/\∀v,o.data≠Ŏ v)
 keep:∀i h h',tn i h->(ϳE<|∀o,Ϻz Ü)->tn i h'
 item:∀(X:Cx),X.prog=P->X.w=w->Ϥc->Ź->∀(i:Nat)(F5:À ķ)(s:Db)(σ:St)(H:Hp)(E:Do->Ô Db),ą->(ϳE ϯs)->ϒJ->J.go i H->
  wpAny Ϻ7 X.A (pyNext<|Å it) (λr s1=>∃u,r=Ė/\
   ϲz Ϻ7 X.A (Ϗt (Å it) u) (λ_ s2=>∃x H',Ĺ X H' s2/\ϱ4 u/\ϒK H'/\tn (i+1) s2.heap/\ϳE ϫh) E s1) E s
 done:∀(X:Cx),X.prog=P->X.w=w->Ϥc->Ź->∀(i:Nat)(F5:À ķ)(s:Db)(σ:St)(H:Hp)(E:Do->Ô Db),ą->(ϳE ϯs)->ϒJ->ύd H->
  ϲz Ϻ7 X.A (pyNext<|Å it) (λr s1=>r=none/\Ĺ X H s1) E s
 self:∀(A:Is)(i:Nat)(s:Db)(Q:Do->Ô Db)(E:Do->Ô Db),ϒJ->Q (Å it) s->ϲz Ϻ7 A (pyIter<|Å it) Q E s
abbrev TI:=St->Hp->Ô (It->Ô Hp)
def PIE(X:Cx)(p:À ķ)(a:St)(tg:On)(R:It->Ô Hp)(i:Do)(w:Db):Prop:=
 ∃(it:Ix)(f:À Ix)(t:Nat->Ô Op)(J:It)(h:Hp),i=Å it/\Ś h w/\ϗO f it t/\t 0 w.heap/\(∀b∈f,vq X p h b)/\R J h
def PI(X:Cx)(tg iter:On)(wi:TI):Prop:=
 ∀(p:À ķ)(s:Db)(a:St)(H:Hp)(R:It->Ô Hp),Ś H s->wi a H R->
  ē (ϲY iter) (λv S=>ē (pyIter v) (PIE X p a tg R) X.xe S) X.xe s
theorem E9{it:Ix}(j:s.heap.get? it=Ü)(hc:o.cls=Ĳ n)(d:o.data=Ŝ vs)(H:å ϔe)(q:ϵb s):ϴx (Ϗt (Å it) u):=by
  delta letOwnedTupleGo;cases tg<;>first
    |show Zr q
    | (cases u<;>first
        |show Zr q
        | (apply Sc<|wpAny_load j ?_
           rw[hc,d];change ϴx (Ì (ě (ϔe&&vs[0]? ==Â (rawInt _))) _ _);rw[P3<|by ext h;rw[H,Bool.false_and]at h;cases h]
           show Zr q))
def Itl(K:Ch)(a:Ix):It:=
 ⟨λi H=>∃X x,ϲp X/\û X=ö,ϒA (∀X,ϲp X->û X=ö),λi H=>∃X,ϲp X/\ϒL⟩
def Itr(l:Int)(n:Nat):It:=⟨λi _=>i<n,ϒA (x=Ä (l+i)),λi _=>n<=i⟩
theorem G_{P:Ev}{w:Fk}{K:Ch}{tg:On}(a it:Ix):ϭe ϓu ϙz where
 mem:=Ø
 obj:=λi h T b B=>by
  let e:b=it:=ϲe
  subst e;let(o,e,c,d):=T;show(o,e,ϩN)
 keep:=λi h f T k=>T.at λo e=>k it Ø o e
 item:=by
  ext X hP W r hc i n s A H E I F T hg;subst hP W r;let(M,x,q,y):=hg;let(S,R,p,Z):=ϸP q;let(u,U,J):=R.get y;let(g,j,G,l,f4,m):=F it Ø;apply wpAny_pyNext_list_item T p.isList (x:=u) (by simpa using U) λf t L=>?_;let C:ų n A H {s with heap:=f}:=ϩH (Ę (L.2 b B) e) l f4 m;let(o,e,c,d):=id t;show(u,rfl,E9 (s:={s with heap:=f}) e c d Õ ⟨x,H,C,J,ϲx (λO Y=>by rw[I.list_inj Y q];show y),t,λb B=>(F b B).1⟩)
 done:=by
  ext X hP W r hc i n s A H E I F T hg;subst hP W r;let(M,q,y):=hg;let(S,R,p,Z):=ϸP q;let(g,j,G,l,f4,m):=F it Ø;let N:=R.length;show wpAny_pyNext_list_end ϱW T p.isList Ϲj λf D=>(ϲx (ϩH (D b o B e) l f4 m))
 self:=ϭv wpAny_pyIter_listiter
theorem Dq{P:Ev}{w:Fk}{K:Ch}{tg:On}(it:Ix)(l:Int)(n:Nat):ϭe (Itr l n) (ϗK 1 (Ł-(i:Nat)) 1) where
 mem:=Ø
 obj:=λi h T b B=>by
  let e:b=it:=ϲe
  subst e;show(_,T,ϔZ)
 keep:=λi h c T k=>k it Ø _ T
 item:=by
  ext X hP a r hc i p s d H E I f T hg;subst hP a r;let(g,j,G,F,f4,m):=f it Ø;let W:=Walks.range (prog:=X.prog) (w:=X.w) ϱW it l 1 n;apply ϕJ;let(t,rfl):=V;let q:ų p d H ϭa:=Ϗo (u b o ϲe e) F f4 m;apply(_,rfl,E9 (s:=ϭa) (n:="range_iterator") S rfl rfl Õ ⟨Ä<|l+i,H,q,⟨t,?_⟩,϶0,S,ϐs⟩);rw[Int.mul_one]
 done:=by
  ext X hP a r hc i p s d H E I f T hg;subst hP a r;let(g,j,G,F,f4,m):=f it Ø;show wpAny_pyNext_range_end ϱW T Ϙb λc D=>(ϲx (ϩH (D b o B e) F f4 m))
 self:=ϭv wpAny_pyIter_rangeiter
section
variable{X:Cx}
def Cn(K:Ch)(tl:TE):TI:=λb H R=>tl b H λx h=>∃a,x=Å a/\ϏZ/\R ϓu h
theorem FQ(L:õ l tl):Ϸo l (Cn X.K tl):=by
 ext i s g H R I h;apply Ϥs (L i s g H _ I h);let(x,d,c,r,f):=zzz;obtain⟨a,e,⟨j,Q⟩,q⟩:=f;subst e;cases r;let(t,V,p,Z):=c.list Q;apply wpAny_pyIter_list p.isList ?_;apply(S.heap.objs.size,ϙZ,_,_,d,rfl,Ϗ0 ϦT,G_ a _,(_,ϳ3,rfl,rfl),ϸq,q);let e:ϭS:=ϲe
 subst e;show c.fpOk ß<|c.Y1.fresh ß
theorem A3{l hi:Int}(I:ą)(h:-ϰA<=l)(a:l<ϰA)(f:-ϰA<=hi)(c:hi<ϰA)(q:R (Itr l (ā (hi-l))) H):ē (pyIter<|Å s.heap.objs.size) Ϙ6 E ((ϴu (ϱY ((ı "range" (Ŝ #[Ä l t,Ä hi u,Ä 1 v])))) tk)):=by
 apply ϕi small_one;let i:Ĺ X H ((ϴu (ϱY ((ı "range" (Ŝ #[Ä l t,Ä hi u,Ä 1 v])))) tk)):=I.kept ϦT
 apply(ϸt (ϱY<|(ı "range" (Ŝ #[Ä l t,Ä hi u,Ä 1 v]))),[ϸt (ϱY<|(ı "range" (Ŝ #[Ä l t,Ä hi u,Ä 1 v])))],_,_,H,rfl,
  i.kept (t':=tk) ϦT,Dq _ l (ā (hi-l)),?_,ϸq,q)
 .let e1:l+Ð 0*1=l:=Ø
  let g:Ð ((ā (hi-l)))-Ð 0=ϖV 1:=by rw[rangeSize_one];split<;>lia
  change IsRangeIter _ _ (l+Ð 0*1) (Ð ((ā (hi-l)))-Ð 0) 1;rw[e1,g];show ϳ3
 let e:b=ϸt (ϱY<|(ı "range" (Ŝ #[Ä l t,Ä hi u,Ä 1 v]))):=ϲe
 subst e;show i.fpOk ß<|i.Y1.fresh ß
def P1(ta:TA):TI:=ϭQ (∃j:Int,s=[Ä j]/\-ϰA<=j/\j<ϰA/\R (Itr 0 j.toNat) h)
def Qd(ta:TA):TI:=ϭQ (∃i j:Int,s=[Ä i,Ä j]/\(-ϰA<=i/\i<ϰA/\-ϰA<=j/\j<ϰA)/\R (Itr i (ā (j-i))) h)
theorem Hi{p pos:Pos}(hg:ϧt)(M:ϦO)(A:ϰI [a] ta)(S:Û (à [a]=ϸI Υ)):Ϸo (ϳo "range" [a]) (P1 ta):=by
 ext i s f H R I h;apply Call_<|ώc<|K98 (Y6 (A pos i s f H _ I h) λu l zzz=>?_) S rfl;let(v,g,c,d,b):=zzz;let(j,e,b,k,q):=b;subst e;cases d with|cons r rr=>cases rr;let(t,rfl):=r;show call_range_1 (A3 c Á Á b k<|Ŀ q)
theorem Hk{p pos:Pos}(hg:ϧt)(M:ϦO)(A:ϰI ϴ4 ta)(d:Û (à ϴ4=ϧA Υ ϵl))(S:Û (à [b]=ϸI ϵl)):
  Ϸo (ϳo "range" ϴ4) (Qd ta):=by
 ext n s m H R I h;apply Call_ (ώc<|ϚQ<|by rw[S];rfl);let(V,o,c,g,Q):=zzz;obtain⟨i,j,e,⟨Q,k,l,f⟩,q⟩:=Q;subst e;cases g with
 |cons r rr=>
  cases rr with|cons r' rr=>cases rr;let(t,rfl):=r;let(U,rfl):=r';show call_range_2<|A3 c Q k l f q
def U6(wi:TI)(g:TG)(tb:TS):TS:=λD a H=>wi a H λJ d=>∃W:ύM (St->Ô Hp),(∃m,W 0 m a d)/\∀i m a H,W i m a H->
 (ύd H/\Ϩ6 H)\/(J.go i H/\∃N:St->Ô Hp,(∀b h,N b h->∃M,M<m/\W (i+1) M b h)/\∀x h,ϒK h->g x a h λc e=>ϖd c e)
def w6(f:À Ix)(h:Op):À ķ:=f.filterMap λb=>Î Ϸh λo=>(b,o)
theorem nh(B:b∈fp)(e:Ϸh=Ü):(b,o)∈w6 fp h:=ϭw ⟨b,B,by rw[e];rfl⟩
theorem GF(H:p∈w6 fp h):p.1∈fp/\h.get? p.1=Â p.2:=by
 let(b,B,e):=List.mem_filterMap.mp H;cases q:h.get? b with
 |none=>rw[q]at e;cases e
 |some o=>rw[q]at e;let E:(b,o)=p:=Zz e;subst E;show(B,q)
theorem Inv.pinned(I:ą)(f:ϳE ϯs)(h:ϳE (∃o,ņ=Ü/\∀v,o.data≠Ŏ v)):ų (F5++w6 fp s.heap) σ H s:=
 I.pins_of λp P=>ϴt (Y7.mp P) (λz=>Ϸg<|ũ z) λz=>by let(B,e):=GF z;let(g,j,G,_):=f p.1 B;let(o,E,d):=h p.1 B;rw[e]at E;cases E;show(e,g,j,G,d)
theorem Inv.unpinned(I:ų (F5++pl) σ H s):ą:=I.pins_of λp h=>Ϸg<|ũ<|ϰX h
theorem TM{pos:Pos}(P:PassesOwn ϰj X.A X.env X.xe)(hc:Ź)(hi:Ϸo iter wi)(hg:Ϩ0 X)(B:ϴj body tb)(hs:ϸ4):ϱU ϖW (U6 wi g tb):=by
 ext p s O H D I h;apply wpAny_For (Y6 (Ϭe s O H _ I h) λv s1 h1=>Y6 h1 λitv s2 h2=>?_) hs;obtain⟨it,F,M,J,Q,e,V,T,A,G,W,⟨m0,w0⟩,turn⟩:=h2;subst e;let t:∀{l:Hp},ϏF->∀b∈F,vq X p l b:=λhn b B=>⟨hn b B,(G b B).2⟩
 apply codeAny_forLoop_any (λn K=>∃i k l,ų p k l K/\M i K.heap/\ϏF/\W i n k l) ?_ m0 ⟨0,O,Q,V,A,λb B=>(G b B).1,w0⟩;ext n s3 ⟨i,σ3,H3,I3,st3,fr3,w3⟩;rcases turn i n σ3 H3 w3 with⟨stop,qn⟩|⟨go,N,hN,step⟩
 .apply ϥh<|Ϯr (T.done X rfl rfl rfl hc i p s3 σ3 H3 X.xe I3 (t fr3) st3 stop);let(hr,Y):=zzz
  subst hr;show K8W ⟨σ3,H3,Y,qn⟩
 apply ϥh<|Ϯr (T.item X rfl rfl rfl hc i p s3 σ3 H3 X.xe I3 (t fr3) st3 go);let(u,hr,h4):=zzz;subst hr;apply ϥh<|Y6 h4 λ_ L zzz=>?_;let(x,E,Z,r5,y5,S,R):=zzz;let y:=Z.pinned (t R)<|όj S;apply ϥh<|Y6 (ϛE<|step x E y5) λ_ s6 zzz=>?_;let(C,U,I6,q6):=zzz;apply ϥh<|Y6 (B _ s6 C U _ I6 q6) λf z q=>?_;let again:∀{a:St}{c:Hp},ų (p++w6 F L.heap) a c z->N a c->∃m,m<n/\∃i k l,ų p k l z/\M i z.heap/\ϏF/\W i m k l:=fun{a c} j w=>by
  let(m',hm,w7):=hN a c w;apply(m',hm,i+1,a,c,j.unpinned,ϑY S (λb B o e=>(ϖQ<|ũ<|ũ<|nh B e).1),ϸq,w7);let(o,e,d):=όj S b B;show(ϖQ<|ũ<|ũ<|nh B e).2.1
 cases f with|next=>let(a,c,j,w):=q;show again j w|cont=>let(a,c,j,w):=q;show again j w|brk=>let(a,c,j,q):=q;show(a,c,j.unpinned,q)|ret v=>let(x7,a,c,j,r7,q):=q;show(x7,a,c,j.unpinned,r7,q)
end
abbrev R2:=V->V->Hp->Ô VK
def OpR(X:Cx)(f:Ϫj)(r:R2):Prop:=
 ∀(p:À ķ)(s:Db)(a:St)(H:Hp)(x y:V)(v u:Do)(Q:VK),Ś H s->ϱ4 v->ϳ6->ϫk->
  ē (f v u) ϸg X.xe s
def UnR(X:Cx)(f:Do->Sem Do)(r:V->Hp->Ô VK):Prop:=
 ∀(p:À ķ)(s:Db)(a:St)(H:Hp)(x:V)(v:Do)(Q:VK),Ś H s->ϱ4 v->ϫX->
  ē (f v) ϸg X.xe s
def eY(X:Cx)(f:Do)(r:À V->Hp->Ô VK):Prop:=
 ∀(p:À ķ)(s:Db)(a:St)(H:Hp)(x:À V)(u:À Do)(Q:VK),Ś H s->Vals x u->ϫX->
  ē (call f u) ϸg X.xe s
def tOp(r:R2)(ta tb:TE):TE:=ϦL (tb a h λy b=>r x y b Q)
def tUn(r:V->Hp->Ô VK)(ta:TE):TE:=ϦL (r x h Q)
def rI(C:Int->Ô Int)(g:ϱ3 Int V):R2:=ž (∃i j,x=Ä i/\y=Ä j/\C i j/\Ο Ϸr)
def rI0(g:ϱ3 Int V):R2:=ž (ϻk (Ä i) (Ä j) Ϸr)
def rU(g:Int->V):V->Hp->Ô VK:=λx H Q=>∃i,x=Ä i/\Ο (g i)
section
variable{X:Cx}{pos:Pos}
theorem Ud(A:õ a ta)(B:õ b tb){R:V->V->Ô Hp}(I:ą)(h:ta σ H λx e=>tb σ e λy c=>R x y c){Q:Do->Ô Db}{f:Ϫj}(F:∀v u w x y c,Ĺ X c w->ϱ4 v->ϳ6->R x y c->ē (f v u) Q X.xe w):
  ē Υ (λv S=>ē ϵl (λu d=>ē (f v u) Q X.xe d) X.xe S) X.xe s:=by
 apply Y6 (A F5 s σ H _ I h) λv j zzz=>?_;let(x,e,i,r,q):=zzz;apply Y6 (B F5 j σ e _ i q) λu w zzz=>?_;let(y,c,g,m,k):=zzz;show F v u w x y c g r m k
theorem W_(j:ϘP)(A:õ a ta)(B:õ b tb):õ ϘQ ϮI:=ϔD wpAny_BinOp ϖ5
theorem Wy(j:Ϙ7)(A:õ a ta):õ ϘR (tUn r ta):=by ext p s b H Q I h;show UnaryOp_<|Y6 (Ϸn b H _ I h) λv S⟨x,c,i,R,q⟩=>j p S b c x v Q i R q
theorem opI{f:Ϫj}{C:Int->Ô Int}{g:ϱ3 Int Int}
  (rule:∀(i j:Int)(t u:Tok)(s:Db)(Q:Do->Ô Db)(E:Do->Ô Db),C i j->Q (Ä Ϸr s.toks) Ϗh->ē (f (Ä i t)<|Ä j u) Q E s):
  ϨD (rI C λi j=>Ä Ϸr):=by
 ext p s a H x y v u Q I R Y h;let(i,j,rfl,rfl,hc,q):=h;let(t,rfl):=R;let(U,rfl):=Y;show Ϗ1 hc ((ϵp (Ä Ϸr) ι))
theorem Wj{f:Ϫj}{g:ϱ3 Int Int}
  (rule:∀(i j:Int)(t u:Tok)(s:Db)(Q:Do->Ô Db)(E:Do->Ô Db),Q (Ä Ϸr s.toks) Ϗh->ē (f (Ä i t)<|Ä j u) Q E s):
  ϨD (rI0 λi j=>Ä Ϸr):=Ϭv (Ϗ1 ((ϵp (Ä Ϸr) ι)))
theorem OG{f:Ϫj}{g:Int->ϳi Int}
  (rule:∀(i j:Int)(t u:Tok)(s:Db)(Q:Do->Ô Db)(E:Do->Ô Db),Q (í Ϸr) s->ē (f (Ä i t)<|Ä j u) Q E s):
  ϨD (Ϲo Ϸr):=Ϭv (Ϗ1 ⟨.bl Ϸr,H,I,rfl,q⟩)
def UG(i j:Int):Prop:=ϏM
def HW(i j:Int):Prop:=(-(2^64)<i/\i<2^64)\/(-(2^64)<j/\j<2^64)
theorem HW.ok{i j:Int}(h:HW i j):IntMulOk i j:=by
 rcases h with⟨H,a⟩|⟨H,a⟩
 .exact .of_left ϙA
 show .of_right ϙA
theorem S4:ϵh Add (rI0 λi j=>Ä<|i+j):=Wj (ϦE add_int)
theorem wG:ϵh Sub (rI0 λi j=>Ä<|i-j):=Wj (ϦE sub_int)
theorem R9:ϵh Mult (rI HW λi j=>Ä<|i*j):=opI λ_ _ _ _ _ _ _ hc q=>mul_int q hc.ok
theorem vL:ϵh FloorDiv (rI UG λi j=>Ä<|i / j):=Ϙq (by let h:É 0<j:=hc.1;let H:j<1073741824:=hc.2;show floordiv_int Á (Ù (ϛw Á) q) (È<|PyProof.noPylong_small Á))
theorem uG:ϵh Mod (ϙB<|λi j=>Ä<|i%j):=Ϙq (by let h:É 0<j:=hc;show mod_int' Á (Ù (ϛx Á) q))
theorem unI{f:Do->Sem Do}{g:Int->Int}
  (rule:∀(i:Int)(t:Tok)(s:Db)(Q:Do->Ô Db)(E:Do->Ô Db),Q (Ä (g i) s.toks) Ϗh->ē (f<|Ä i t) Q E s):
  UnR X f (rU λi=>Ä<|g i):=by
 ext p s a H x v Q I R h;let(i,rfl,q):=h;let(t,rfl):=R;show rule i t s _ _ (ϵp (Ä<|g i) ι)
theorem r9:UnR X (unaryOp .USub) (rU λi=>Ä<|-i):=unI λ_ _ _ _ _ q=>neg_int q
end
def RL:V->ϳi V|.Y4,.Y4=>true| .Y4,.int _=>true| .int _,.Y4=>true| .Y4,.bl _=>true| .bl _,.Y4=>true| .Y4,.str _=>true| .str _,.Y4=>true|.int _,.int _=>true| .bl _,.bl _=>true| .str _,.str _=>true| .byt _,.byt _=>true|.int _,.str _=>true| .str _,.int _=>true| .bl _,.str _=>true| .str _,.bl _=>true|_,_=>false
def rEq:R2:=ž (ϒM/\Q (.bl<|Ë<|x=y) H)
def rNe:R2:=ž (ϒM/\Q (.bl<|! Ë (x=y)) H)
theorem ET{i j:Int}:Ë (Ϥ9 V.int)=(i==j):=ϲi K8j
theorem LZ:Ë (Ϥ9 V.bl)=(i==j):=ϲi K8j
theorem FI:Ë (Ϥ9 V.str)=(i==j):=ϲi K8j
theorem FA:Ë (Ϥ9 V.byt)=(i.toList==j.toList):=by rw[K8j];cases i;cases j;simp
section
variable{X:Cx}{pos:Pos}
theorem bY(I:ą)(q:Ο (.bl k))(e:k=k'):ϵM F5 σ Q (í k') s:=by subst e;show(.bl k,H,I,rfl,q)
theorem Wn:ϳr Eq rEq:=by
 ext p s a H x y v u Q I R Y h;let(S,q):=h;cases x with
 |Y4=>
  cases R;cases y with
  |Y4=>cases Y;show PySem.EqNone.eq_none_none (Ζ Ø)
  |bl j=>cases Y;show PySem.EqNone.eq_none_bool (Ζ Ø)
  |int j=>let(U,rfl):=Y;show PySem.EqNone.eq_none_int (Ζ Ø)
  |str j=>let(U,rfl):=Y;show PySem.EqNone.eq_none_str (Ζ Ø)
  |_=>show ϵR
 |bl i=>
  cases R;cases y with
  |Y4=>cases Y;show PySem.EqNone.eq_bool_none (Ζ Ø)
  |bl j=>cases Y;show eq_bool<|Ζ LZ
  |str j=>let(U,rfl):=Y;show PySem.EqMixed.eq_bool_str (Ζ Ø)
  |_=>show ϵR
 |int i=>
  let(t,rfl):=R;cases y with
  |Y4=>cases Y;show PySem.EqNone.eq_int_none (Ζ Ø)
  |int j=>let(U,rfl):=Y;show eq_int<|Ζ ET
  |str j=>let(U,rfl):=Y;show PySem.EqMixed.eq_int_str (Ζ Ø)
  |_=>show ϵR
 |str i=>
  let(t,rfl):=R;cases y with
  |Y4=>cases Y;show PySem.EqNone.eq_str_none (Ζ Ø)
  |bl j=>cases Y;show PySem.EqMixed.eq_str_bool (Ζ Ø)
  |int j=>let(U,rfl):=Y;show PySem.EqMixed.eq_str_int (Ζ Ø)
  |str j=>let(U,rfl):=Y;show eq_str<|Ζ FI
  |_=>show ϵR
 |byt i=>
  let(t,rfl):=R;cases y with|byt j=>let(U,rfl):=Y;show PySem.W.eq_bytes<|Ζ FA|_=>show ϵR
 |_=>cases y<;>show ϵR
theorem V9:ϳr NotEq rNe:=by
 ext p s a H x y v u Q I R Y h;let(S,q):=h;cases x with
 |Y4=>
  cases R;cases y with
  |Y4=>cases Y;show PySem.EqNone.ne_none_none (Ζ Ø)
  |bl j=>cases Y;show PySem.EqNone.ne_none_bool (Ζ Ø)
  |int j=>let(U,rfl):=Y;show PySem.EqNone.ne_none_int (Ζ Ø)
  |str j=>let(U,rfl):=Y;show PySem.EqNone.ne_none_str (Ζ Ø)
  |_=>show ϵR
 |bl i=>
  cases R;cases y with
  |Y4=>cases Y;show PySem.EqNone.ne_bool_none (Ζ Ø)
  |bl j=>cases Y;show ne_bool<|Ζ<|Zh not LZ
  |str j=>let(U,rfl):=Y;show PySem.EqMixed.ne_bool_str (Ζ Ø)
  |_=>show ϵR
 |int i=>
  let(t,rfl):=R;cases y with
  |Y4=>cases Y;show PySem.EqNone.ne_int_none (Ζ Ø)
  |int j=>let(U,rfl):=Y;show ne_int<|Ζ<|Zh not ET
  |str j=>let(U,rfl):=Y;show PySem.EqMixed.ne_int_str (Ζ Ø)
  |_=>show ϵR
 |str i=>
  let(t,rfl):=R;cases y with
  |Y4=>cases Y;show PySem.EqNone.ne_str_none (Ζ Ø)
  |bl j=>cases Y;show PySem.EqMixed.ne_str_bool (Ζ Ø)
  |int j=>let(U,rfl):=Y;show PySem.EqMixed.ne_str_int (Ζ Ø)
  |str j=>let(U,rfl):=Y;show ne_str<|Ζ<|Zh not FI
  |_=>show ϵR
 |byt i=>
  let(t,rfl):=R;cases y with|byt j=>let(U,rfl):=Y;show PySem.W.ne_bytes<|Ζ<|Zh not FA|_=>show ϵR
 |_=>cases y<;>show ϵR
theorem U9:ϳr Lt (Ϲo<|Ë<|i<j):=OG (ϦE lt_int)
theorem FW:ϳr LtE (Ϲo<|Ë ϵN):=OG (ϦE le_int)
theorem sV:ϳr Gt (Ϲo<|Ë<|j<i):=OG (ϦE gt_int)
theorem Ve:ϳr GtE (Ϲo<|Ë<|j<=i):=OG (ϦE ge_int)
theorem GN:ϳr In (ž<|ϻk (Æ i) (Æ j) (.bl<|! Ϧs)):=Ϭv (in_str<|Ζ rfl)
theorem OpR.or(h:ϨD r)(c:ϨD r'):ϨD (ž<|ϫk\/r' x y H Q):=by
 ext p s a H x y v u Q I R Y q;rcases q with q|q
 .exact ϥL a H x y v u Q I R Y q
 show c p s a H x y v u Q I R Y q
theorem cJ(b:On)(h:ő (op≠.In))(H:ő (op≠.NotIn)):å ϩ1:=by
 let e1:å (op==CmpOp.In):=ϗ5 (ϱH h)
 let g:å (op==CmpOp.NotIn):=ϗ5 (ϱH H)
 delta behindInMarks;cases b<;>first|rfl|(show (_&&_)=false;rw[e1,g,Bool.or_false,Bool.and_false];rfl)
theorem M1(j:ϭm)(A:õ a ta)(B:õ b tb)(M:å ϩ1):õ Ϭ6 ϮI:=ϗ6 (wpAny_Compare1 (Ud A B I h λv u w x y c f R Y q=>ϖ5) M)
def PU(t:TE):TT:=϶2 (λx h=>∃k,x=.bl k/\Q k h)
theorem Oy(o:ϭm)(A:õ a ta)(B:õ b tb)(M:å ϩ1):ϸ2 Ϭ6 (PU ϮI):=by
 ext p s d H Q I h;apply wpAny_isTrue_Compare1 (Y6 (Ϸn d H _ I h) λv S⟨x,f,j,R,q⟩=>Y6 (B p S d f _ j q) λu D⟨y,g,l,w,n⟩=>Y6 (o p D d g x y v u _ l R w n) λc E zzz=>?_) M;let(z,i,m,C,k,e,t):=zzz;subst e;cases C;show K8b ⟨i,m,t⟩
theorem rW:ϰC sizeLine<϶H:=Ϯ4 K83
theorem Du:ϵh Add (ž<|∃i j,x=Æ i/\y=Æ j/\Ĕ ϭ3/\Q (Æ<|i++j) H):=by ext p s a H x y v u Q I R Y h;let(i,j,rfl,rfl,Z,q):=h;let(t,rfl):=R;let(U,rfl):=Y;show add_str (λU tk=>(ϵp (Æ<|i++j) ι)) Z
theorem BQ:OpR X (inplaceOp .Add) (ž<|∃i j,x=Æ i/\y=Æ j/\Ĕ ϭ3/\Q (Æ<|i++j) H):=by ext p s a H x y v u Q I R Y h;let(i,j,rfl,rfl,Z,q):=h;let(t,rfl):=R;let(U,rfl):=Y;show iadd_str (λU tk=>(ϵp (Æ<|i++j) ι)) Z
theorem vals1(r:İ [x] us):∃u,us=[u]/\ϱ4 u:=by
 cases r with|cons r1 r2=>cases r2;show(_,rfl,r1)
theorem vals2(r:İ [x,y] us):∃u W,us=[u,W]/\ϱ4 u/\RelV y W:=by
 cases r with
 |cons r1 r2=>
  cases r2 with|cons r3 r4=>cases r4;show(_,_,rfl,r1,r3)
theorem Hm(hc:Ź):ϻj (ŋ "max") (∃i j,x=[Ä i,Ä j]/\Ο (Ä (ϺU<|j > i))):=by
 ext p s a H x S Q I r h;let(i,j,rfl,q):=h;obtain⟨u,W,rfl,⟨t,rfl⟩,⟨U,rfl⟩⟩:=vals2 r;apply max_two_ints ϱW ϕ6
 by_cases J:j > i
 .rw[Os J,Os J];show(_,rfl)
 rw[P3 J,P3 J];show(_,rfl)
theorem Hv(hc:Ź):ϻj (ŋ "min") (∃i j,x=[Ä i,Ä j]/\Ο (Ä (ϺU<|j<i))):=by
 ext p s a H x S Q I r h;let(i,j,rfl,q):=h;obtain⟨u,W,rfl,⟨t,rfl⟩,⟨U,rfl⟩⟩:=vals2 r;apply min_two_ints ϱW ϕ6
 by_cases J:j<i
 .rw[Os J,Os J];show(_,rfl)
 rw[P3 J,P3 J];show(_,rfl)
theorem GU:ϻj (Ĳ "int") ((∃i,x=[Ä i]/\Ο (Ä i))\/∃k,x=[.bl k]/\Ο (Ä Ϗu)):=by
 ext p s a H x U Q I r h;rcases h with⟨i,rfl,q⟩|⟨k,rfl,q⟩
 .let(u,rfl,t,rfl):=ϫY
  show call_int_int ⟨Ä i,H,I,ι,q⟩
 let(u,rfl,R):=ϫY;cases R;show call_int_bool (ϵp (Ä Ϗu) ι)
end
theorem vt.some_of(r:vt ú o):∃u,o=Ė/\ϲ2:=by
 cases o with|none=>show ϩR|some u=>show(u,rfl,r)
structure Zj(k:Nat)(A:Is):Prop where
 hd:A.handled=none
 dp:A.depth+3*k+5<recursionLimit
 un:A.units+16*k+200<cLine
theorem Zj.mono(r:ϴr A)(h:j<=k):Zj j A:=⟨r.hd,þ r.dp,þ r.un⟩
theorem Zj.deeper(r:Zj (k+1) A)(env:Env):ϴr (A.deeper env):=
 ⟨r.hd,ϮC r.dp (A.depth+1+3*k+5<_),ϮC r.un (A.units+3+16*k+200<_)⟩
theorem Zj.depth(r:ϴr A):A.depth<recursionLimit:=þ r.dp
theorem Zj.units(r:ϴr A):ϤB 64:=þ r.un
def Co:TA:=λ_ H Q=>Ο []
def t_(ta:TE)(tr:TA):TA:=ϦL (tr a h λX b=>Q Ϲ7 b)
section
variable{X:Cx}{t:TA}{pos:Pos}
theorem gT:ϰI [] Co:=λ_ _ _ _ H Q I h=>Calls.spliced_nil ⟨[],H,I,Ā,h⟩
theorem dH(A:õ e te)(hr:ϰI es t)(S:Û (à Ō=ϰL (à es))):ϰI Ō (t_ te t):=by
 ext pos p s a H Q I h;rw[S];change ϸe (spliced<|ϰL (ϳq (à es))) s;apply ϐU (Ϸn a H _ I h)<|λu d zzz=>?_;let(x,b,i,r,q):=zzz;show Y6 (hr pos p d a b _ i q) λU w⟨g,c,f,m,k⟩=>⟨x::g,c,f,Ĉ r m,k⟩
def Xl(t:TA):TE:=϶2 (λX h=>Ĕ X.length/\∀p,h p=none->Q (Å p) (ϐe<|č X))
def Vp(t:TA):TE:=϶2 (λX h=>Ĕ X.length/\∀p,h p=none->Q (Å p) (ϐe<|Ă X))
theorem Jm{x1}(h:ϰI es t):õ (ϳx x1 pos) (Xl t):=by
 ext p s d H Q I c;apply wpAny_Tuple_spliced<|ϗg (λU S⟨x,a,i,r,z,q⟩=>⟨ϰ9 r.length z,?_⟩);let f:Ϙc:=i.Y1.fresh ß;apply(Å S.heap.objs.size,ϔE<|č x,i.laid (t':=S.toks) ϭO ß ?_,rfl,q _ f);show(z,U,r,(_,ϳ3,rfl,_,rfl))
theorem Ui(h:ϰI es t):õ (.List es pos) (Vp t):=by
 ext p s d H Q I c;apply wpAny_List_spliced<|ϗg (λU S⟨x,a,i,r,z,q⟩=>⟨ϰ9 r.length z,?_⟩);let f:Ϙc:=i.Y1.fresh ß;apply(Å S.heap.objs.size,ϔE<|Ă x,i.laid (t':=S.toks) ϭO ß ?_,rfl,q _ f);show(z,U,0,r,ϳ3)
end
abbrev Sp:=À V->Hp->VK->Ô XK
abbrev CXT:=À Env->Hp->Db->XK->Do->Ô Db
structure Env0(P:Ev)(w:Fk)(K:Ch)(mg:ł)(base:Op)(A:Is)(outer:À Env)(s:Db)(H:Hp):Prop where
 frames:A.frames=Â outer
 mod:Mod K mg base
 bs:∀b o,base.get? b=Ü->ņ=Ü/\ϱc
 bsz:base.objs.size<=s.heap.objs.size
 funs:s.heap.FunFrames base outer
 frf:∀b∈ύe,ϱc
 Y1:ϥw H s.heap
 bare:Ϭp s.gens
def CE(outer:À Env)(P:Ev)(w:Fk)(H:Hp)(s:Db)(Q:VK)(u:Do)(S:Db):Prop:=
 ∃v h,ύW ϲ2 (Q v h)
def CR(CX:CXT)(outer:À Env)(P:Ev)(w:Fk)(H:Hp)(s:Db)(Q:VK)(E:XK)(r:Result)(S:Db):Prop:=
 match r with
 |.ok (.ret u)=>Ϙ8 S
 |.ok _=>False
 |.error e=>ϐ0 e S
structure K2(P:Ev)(w:Fk)(K:Ch)(mg:ł)(base:Op)(CX:CXT)(k:Nat)(f:Ix)(fd:Gc)(ps:À Str)(sp:Sp):Prop where
 len:∀vs H Q E,sp vs H Q E->ϫC vs.length
 run:∀(A:Is)(outer:À Env)(s:Db)(H:Hp)(args:Args)(us:À Do)(vs:À V)(Q:VK)(E:XK),ϴr A->ϓv mg base A outer s H->Ϯ6 args (ps.zip us)->İ vs us->sp vs H Q E->
  ϹV Ϻ7 A (.call (Å f) args) (CR CX outer P w H s Q E) s
theorem K2.imp{P:Ev}{w:Fk}{K:Ch}{m:ł}{base:Op}{CX:CXT}{k:Nat}{f:Ix}{fd:Gc}{S:À Str}{sp p:Sp}(F:϶j m base CX k f fd S sp)
  (h:∀v H Q E,p v H Q E->ϓw):϶j m base CX k f fd S p:=
 ⟨λv H Q E q=>F.len v H Q E<|ϩq _ _ q,λA outer s H args u v Q E hr he B V a=>Ϛ8<|ϩq _ _ a⟩
section
variable{X:Cx}
theorem Inv.se(I:ą):Env0 X.prog X.w X.K X.mg X.base X.A X.stack s H:=
 ⟨I.ok.frames,I.ok.mod,I.bs,ϮT I.sz,I.stack,I.stkFree,I.Y1,I.bare⟩
theorem Inv.after(I:ą)(h:CE X.stack X.prog X.w H s Q u s'):ϵM F5 σ Q u s':=by let(v,a,os,bare,un,O,r,q):=h;let(c,g,d,t,o):=s';obtain rfl:o=s.os:=os;show(v,a,I.call (h':=c) (g':=g) (d':=d) (t':=t) (ch:=[]) un O bare (λb z=>Đ z Ø),r,q)
end
def PZ(sp:Sp)(d:À V)(E:XK)(t:TA):TE:=϶2 (λs h=>sp (s++d) h Q E)
def Binds(K:Ch)(fd:Gc)(p:À Str)(d:À Do):Prop:=
 ∀(s:Db)(u:À Do),K.In s.heap->Ã (u++d)=p.length->Ϯ6 ⟨u,[]⟩ (p.zip<|u++d)
theorem Binds.all{K:Ch}{fd:Gc}{p:À Str}(h:∀u:À Do,u.length=p.length->bindArgs fd ⟨u,[]⟩=pure (p.zip u)):Binds K fd p []:=λs u _ a=>by rw[Zw]at a⊢;show .of_eq<|h u a
def Passes(CX:CXT)(X:Cx)(E:XK):Prop:=∀(p:À ķ)(a:St)(H:Hp)(s:Db)(e:Do)(S:Db),Ś H s->CX X.stack H s E e S->X.xe e S
section
variable{X:Cx}{p pos apos:Pos}
theorem T3(F:ϕb)(hr:ϴr X.A)(B:ϧG X.K ds)(d:İ dvs ds)(x:ϥq CX E)(I:ą)(r:İ vs us)(h:sp ϓx H Q E):ē (call (Å f) us) (ϵM F5 σ Q) X.xe s:=by
 let m:İ ϓx (us++ds):=r.append d;let a:ϫC (Ã (us++ds)):=ϰ9 m.length (F.len _ _ _ _ h)
 apply wpAny_call<|K8G (F.run X.A X.stack s H (ϴ1 us) (us++ds) ϓx Q E hr I.se (B s us I.kIn a) m h) λr S q=>?_;cases r with
 |error e=>show x F5 σ H s e S I q
 |ok fl=>
  cases fl with|ret u=>show I.after q|next=>show ϸo q|brk=>show ϸo q|cont=>show ϸo q
theorem NT(F:ϕb)(hr:ϴr X.A)(hg:ϰY)(M:ϹZ=Â (Å f))(K:ϧV X.K (Å f))(B:ϧG X.K ds)(D:İ dvs ds)(b:ϥq CX E)
  (A:ϰI Ō t) (d:Ŭ) (he:Û (à Ō=ϰL (à es))) (l:Û (ϰv<|ϳq<|à es)):
  õ (Χ (î p) Ō pos) (PZ sp dvs E t):=by
 ext i s c H Q I h;apply K8h<|lM I hg M ?_ d;apply K8K (h₀:=X.base) I.ok.mod.kin K (Y6 (A pos i s c H _ I h) λu S⟨v,g,a,r,q⟩=>⟨a.kIn,?_⟩) he l;show T3 F hr B D b a r q
end
structure Fq(N P:À Str)(sc:Scope):Prop where
 kind:sc.kind=ϻl
 co:å sc.isCoroutine
 gen:å sc.isGenerator
 nd:N.Nodup
 pre:N.take P.length=P
 par:∀x∈P,ϲd ϺG (Â Ţ) (Â Ŏ)
 nofree:∀y∈sc.names,y.2≠υ
theorem zo{kindOf:Str->Ú NameKind}:∀{binds:À (Str×Do)}{m:ł},ϕq bindL:=by
 intro x0
 induction x0 with
  |nil=>
   intro x25 x26
   exact rfl
  |cons x27 r ih=>
   intro m h
   obtain⟨n,v⟩:=x27
   delta bindL;rw[ih λw H=>h w<|Ą H]
   split
   .let:x≠n:=Ϲk (h v Uf)
    simp[this]
   .rfl
theorem yQ{kindOf:Str->Ú NameKind}:∀{binds:À (Str×Do)}{m:ł},ϕq bindC:=by
 intro x0
 induction x0 with
  |nil=>
   intro x28 x29
   exact rfl
  |cons x30 r ih=>
   intro m h
   obtain⟨n,v⟩:=x30
   delta bindC;rw[ih λw H=>h w<|Ą H]
   split
   .rfl
   .let:x≠n:=Ϲk (h v Uf)
    simp[this]
theorem zf{kindOf:Str->Ú NameKind}:∀{P:À Str}{s:À Do}{i:Nat}{m:ł},P.Nodup->û P=ö->ϴ3=ú->kindOf x=Â Ţ->
  ϑZ (P.zip s) m x=ú:=by
 intro x0
 induction x0 with
  |nil=>
   intro x8 x9 x10 x11 h x12 x13
   exact ϵo
  |cons p P ih=>
   intro x14 x15 m nd h1 h hk
   cases x14 with
    |nil=>
     exact ϵo
    |cons w s=>
     cases x15 with
      |zero=>
       simp at h1 h;subst h1;subst h;change ϑZ ϭ7 m p=_;delta bindL;rw[zo ϖw,Os hk];simp
      |succ i=>
       change ϑZ ϭ7 m x=_;delta bindL;show ih (i:=i) (ϓ5).2 (Ŀ h1) (Ŀ h) hk
theorem zp{kindOf:Str->Ú NameKind}:∀{P:À Str}{s:À Do}{i:Nat}{m:ł},P.Nodup->û P=ö->ϴ3=ú->kindOf x≠Â Ţ->
  ϑ0 (P.zip s) m x=ú:=by
 intro x0
 induction x0 with
  |nil=>
   intro x16 x17 x18 x19 h x20 x21
   exact ϵo
  |cons p P ih=>
   intro x22 x23 m nd h1 h hk
   cases x22 with
    |nil=>
     exact ϵo
    |cons w s=>
     cases x23 with
      |zero=>
       simp at h1 h;subst h1;subst h;change ϑ0 ϭ7 m p=_;delta bindC;rw[yQ ϖw,P3 hk];simp
      |succ i=>
       change ϑ0 ϭ7 m x=_;delta bindC;show ih (i:=i) (ϓ5).2 (Ŀ h1) (Ŀ h) hk
def start(N:À Str)(s:À V):St:=s.map some++ŗ (N.length-s.length) none
def vy(CX:CXT)(P:Ev)(w:Fk)(K:Ch)(m:ł)(base:Op)(N:À Str)(qual:Str)(scope:Scope)(f:Ix)(cd:Do)(A:Is)(outer:À Env)(s:Db)(H:Hp)(E:XK):Cx where
 prog:=P
 w:=w
 K:=K
 mg:=m
 base:=base
 A:=A.deeper<|Ϻu cd
 N:=N
 s₀:=s
 H₀:=H
 env:=Ϻu cd
 outer:=outer
 stack:=Ϻu cd::outer
 ex:=[]
 calm:=true
 fn:=λ_=>true
 pn:=[]
 xe:=λe b=>ϲz Ϻ7 (A.deeper<|Ϻu cd) (leaving (Ϻu cd) e) (λ_ S=>ϐ0 e S) (λa S=>ϐ0 a S) b
theorem Bg{sc:Scope}(h:ϺG=Â Ŏ):∃c,ς (cellsFrom n sc.names []) x=ã:=by let q:=K8E sc.names n []<|È h;show ϘM q
theorem Ga{CX:CXT}{P:Ev}{w:Fk}{K:Ch}{M:ł}{base:Op}{N j:À Str}{qual:Str}{scope:Scope}{f:Ix}{cd:Do}{A:Is}{outer:À Env}{s F:Db}{H:Hp}{E:XK}{U:À Do}{l:À V}
  (S:Fq N j scope) (I:A.handled=none) (g:ϓv M base A outer s H) (O:l.length=j.length) (r:Vals l U)
  (x:InCallC s s.heap.objs.size (bindL (Ϻu cd).kindOf (j.zip U) Ϫ3) (Ϻw ε []) (bindC (Ϻu cd).kindOf (j.zip U) Ϫ3) F):
  Inv ϔ0 [] (ϫd l) H F:=by
 let L:j.length<=N.length:=by let:=Ŧ S.pre;rw[Zk]at this;lia
 let(t,tk,rfl,B):=x.done;let o:∀b:Ix,b∉(ϔ0).ex:=λb z=>Đ (ń (b∈([]:À Ix)) z) Ø
 apply((g.mod,S.kind,rfl,rfl,ß,λy z c t d=>?_,λy Y=>?_,λy c _ h=>?_,λ_=>I,Around.frames_deeper g.frames,Ñ ϶0,λb z=>Đ z<|o b,g.bs,g.bsz,λb _ _=>o b,λb z=>Đ z<|o b,g.funs,g.frf),
  rfl,g.bare,Un.kept B,(_,x.toInCall.ns,λi y v t d J=>?_),λy c h=>(ϴ7 (x.cell y c h)),g.Y1.fresh ß,λy c h=>?_,λp m=>Đ (show p∈([]:À ķ)from m) Ø,g.Y1.kept B,?_)
 .exact ϛy<|K8M d
 .let Y:ϲd ϏG (Â Ŏ) (Â υ):=Y
  rcases Y with Y|Y
  .exact Bg Y
  show ϱH<|S.nofree _<|K8M Y
 .exact Zcp<|ϖs<|K8M h
 .let hi:i<l.length:=by
   delta start at d;by_cases hi:i<l.length
   .exact hi
   rw[K9a ϏJ]at d;rw[K8Z]at d;split at d<;>cases d
  let G:l[i]?=ú:=by
   delta start at d;rw[K9V ϏJ,Oe]at d;cases e:l[i]? with
   |none=>rw[e]at d;cases d
   |some a=>rw[e]at d;cases d;rfl
  let(u,C,R):=r.get G;let m:j[i]?=ϱO:=by rw[<-S.pre,K97 Á];show t
  let D:j.Nodup:=ϰ9 S.pre (S.nd.sublist Ϙd)
  apply(u,R,?_);rcases S.par y (Ts m)with k|k
  .exact È ⟨k,zf D m C k⟩
  let(c,e):=Bg (n:=ε) k;apply Ñ ⟨È k,c,e,?_⟩;let q:=x.cell y c e;rw[zp D m C<|by change ϏG≠_;rw[k];decide]at q;show q
 .exact g.Y1.fresh<|Zcp<|ϖs<|K8M h
 delta start;change ϯW;rw[S5,I4,K8r];lia
theorem JQ{CX:CXT}{P:Ev}{w:Fk}{K:Ch}{m:ł}{base:Op}{k:Nat}{f:Ix}{name qual:Str}{params:Arguments}{body:À No}{scope:Scope}{D kV doc pm c ct Z:Do}{an od:Ú Ix}
  {O:Ϲ4 Da} {N l:À Str} {sp:Sp} (W:ϓy=Â ⟨Z,od,.func ϔO,O⟩) (C:ύf c qual=true) (S:Fq N l scope)
  (len:∀a H Q E,sp a H Q E->a.length=l.length)
  (B:∀(A:Is)(outer:À Env)(s:Db)(H:Hp)(a:À V)(Q:VK)(E:XK),ϴr (A.deeper<|Ϻu c)->sp a H Q E->
   ∃t,PSs (ϩK CX c A outer s H E) body t/\t {nx:=λ_ h=>Q .Y4 h,rt:=Q} (ϫd a) H):
  ϶j m base CX (k+1) f ϔO l sp:=by
 apply(len,λA outer s H args us a Q E hr j G r p=>?_);let M:=len _ _ _ _ p;let X:K.In s.heap:=j.mod.kin.keeps (ϷB (j.bs b o e).1);let lim:s.heap.NoLimit:=j.mod.nolimit.keeps (ϷB (j.bs b o e).1);let i:∀y∈l.zip us,ϺF y.1=Â Ţ\/(ϺF y.1=Â Ŏ/\ě (ϷN (ς (Ϻw ε []) y.1))):=λ⟨n,v⟩ Y=>by
  rcases S.par n (K7w Y).1 with q|q
  .exact È q
  show Ñ ⟨q,K8E _ _ _<|È q⟩
 apply ϚE<|G _ _ _ _ ?_;apply wpAny_newFunctionEnv_cells S.kind i λenv he F x=>?_;subst he;apply(lim.keeps x.toInCall.keep,codeAny_func ?_);let(t,U,T):=B A outer s H a Q E (hr.deeper _) p;let I:Inv (ϩK CX c A outer s H E) [] (ϫd a) H F:=Ga S hr.hd j M r x;apply K8m (U [] F (ϫd a) H _ I T) (λL z g=>?_) λe z g=>g;let fin:∀{d:St}{h:Hp}{v:V}{u:Do},Inv (ϩK CX c A outer s H E) [] d h z->ϲ2->Q v h->Ϙ8 z:=
  fun{d h v u} J R q=>⟨v,h,J.os,J.bare,J.base,J.Y1,R,q⟩
 cases L with|ret u=>let(v,d,h,J,R,q):=g;show fin J R q|next=>let(d,h,J,q):=g;show fin (v:=V.Y4) (u:=Value.none) J rfl q|brk=>let(_,_,_,q):=g;show ϸo q|cont=>let(_,_,_,q):=g;show ϸo q
section
variable{X:Cx}{p pos:Pos}{t:TA}{id T:String}{r:À V->Hp->Ô VK}
def tCB(r:À V->Hp->Ô VK)(t:TA):TE:=϶2 (λs h=>r s h Q)
theorem pI(hc:ϴq (ŋ id) r)(hg:ϰY)(M:Ϻ9)(v:Ϸ6=Â (ŋ id))(A:ϰI Ō t)(n:ő Ϸ5)(d:Ŭ)
  (he:Û (à Ō=ϰL (à es))) (l:Û (ϰv<|ϳq<|à es)):õ (Χ (î p) Ō pos) (tCB r t):=by
 ext i s a H Q I h;apply K8h<|ϧH v ?_ n d;show PyProof.Rows.callWith_builtin1 ϔt he l
theorem HF(hc:ϴq (Ĳ T) r)(hg:ϰY)(M:Ϻ9)(v:Ϸ6=Â (Ĳ T))(A:ϰI Ō t)(n:ő Ϸ5)(d:Ŭ)
  (he:Û (à Ō=ϰL (à es))) (l:Û (ϰv<|ϳq<|à es)):õ (Χ (î p) Ō pos) (tCB r t):=by
 ext i s a H Q I h;apply K8h<|ϧH v ?_ n d;show K98 ϔt he l
end
end L2
namespace HT
open PySem PyProof.Rows
section
open PySem.SeqAt
open PySem.AutoSeq1 (wpAny_loadPart')
open PySem.MeetsSeq PySem.MeetsSeq2 PySem.MeetsSeq3
end
section
variable{s:Db}
def Ze(n d:Nat):Ú Int->Nat|none=>d|some v=>Ì (v<0) ((ā (v+Ł))) ϑz
theorem Bh(n d:Nat):Ze n d none=d:=rfl
theorem F8(n d k:Nat):Ze n d (Â á)=min k n:=by
 change(Ì (á<0) ((ā (á+Ł)))<|min (ā (k:Int)) n)=min k n;rw[P3 Á,K9n]
theorem Sa(n d:Nat)(h:d<=n)(o:Ú Int):Ze n d o<=n:=by
 cases o with
 |none=>show h
 |some v=>
  change(Ì (v<0) ((ā (v+Ł))) ϑz)<=n;by_cases H:v<0
  .rw[ϱh];lia
  rw[ϱz];show Nat.min_le_right _ _
theorem EB(v:Int)(n d:Nat):(Ì (v<0) (max (v+Ł) 0)<|min v Ł)=Ð (Ze n d ú):=by
 change(Ì (v<0) (max (v+Ł) 0)<|min v Ł)=Ð (Ì (v<0) ((ā (v+Ł))) ϑz)
 by_cases H:v<0
 .simp only[Os H];lia
 simp only[P3 H];lia
theorem D5(l hi:Ú Int)(n:Nat):ϖe Ł=(Ð ϫG,Ð (Ze n n hi)):=by
 let h:¬(É 1<0):=Á
 delta Builtin.Slice.sliceAdjust;simp only[h,if_false];apply Prod.ext ?_ ?_
 .cases l with|none=>rfl|some v=>show EB v n 0
 cases hi with|none=>rfl|some v=>show EB v n n
theorem DJ(i j:Nat):ϘN Ċ ĺ 1=j-i:=by
 delta Builtin.Slice.slicePlaces;let h:É 1 > 0:=Á
 simp only[h,K84,Int.ediv_one];split<;>lia
theorem wu(p:IsPart v o)(h:Q o s):ϰi (Builtin.Slice.slicePartIndex v) Q E s:=by
 cases p with|none=>show slicePart_none h|int i t=>show slicePart_int h
theorem um{l hi:Ú Int}{Q:Int×Int×Nat->Ô Db}(S:ϗs ù)(p:IsPart vl l)(pu:IsPart vu hi)(h:Q (Ð ϫG,1,Ze n n hi-ϫG) s):ϰi (Builtin.Slice.sliceApplied (Å sl)<|pure Ł) Q E s:=by
 let(os,o,c,d):=id S;delta Builtin.Slice.sliceApplied Builtin.Slice.sliceFields;apply Sc<|Sc<|ώy vl<|Sc<|ώy vu<|Sc<|ώy ù ϥY;apply ϳJ slicePart_none;change ϸe (Ì (ě (É 1==0)) _ _) s;rw[P3 Õ];apply Sc<|wu p<|Sc<|wu pu<|ϳJ Zr;change ϸe (match ϖe Ł with|(l,hi)=>pure (l,É 1,Builtin.Slice.slicePlaces l hi 1)) s;rw[D5 l hi n];change ϸe (pure (Ð ϫG,É 1,ϘN ((Ð ϫG)) ((Ð (Ze n n hi))) 1)) s;rw[DJ];show Zr h
theorem LD(X:ϴM)(i k:Nat):ϸO (ύL (range k) λ(m:Nat)=>X[ā (Ċ+Ι*1)]?)=ϸO (ý (X.toList.drop i) k):=by
 let e:(λ(m:Nat)=>X[ā (Ċ+Ι*1)]?)=λm=>X[i+m]?:=by
  funext m;let:ā (Ċ+Ι*1)=i+m:=Á
  rw[this]
 rw[e];let:=pick_run X i k;rw[List.filterMap_map]at this;let g:((λx=>X[x]?)∘λx=>i+x)=λm=>X[i+m]?:=rfl;rw[g]at this;rw[this]
theorem uc{l hi:Ú Int}(H:ϵn t items)(S:ϗs ù)(p:IsPart vl l)(pu:IsPart vu hi)(W:¬(Ϥp=0/\ϖ6=items.size))(h:Q (Å s.heap.objs.size) (ϰP (ϱY ((ı "tuple" (ϤO (ý (items.toList.drop Ϥp)<|ϸ6 Ze items.size)))))))(hsz:Ĕ items.size):ϰi (getItem (Å t)<|Å sl) Q E s:=by
 let a:sizeOk (ϤO<|ý (items.toList.drop Ϥp)<|ϸ6 Ze items.size):=by
  change Ĕ (ϧB (ý (items.toList.drop Ϥp)<|ϸ6 Ze items.size));rw[K9W,Zk,K8y,K8t];lia
 let J:ϖ6<=items.size:=Sa _ _ ß hi;let(os,o,c,d):=id S;let T:ϥr (Å sl) "slice":=⟨os,o,c⟩;delta getItem
 try with_reducible apply wpAny_holding ?_
 first|apply ϳJ Zr|skip
 apply Sc<|wpAny_sequenceKey H.typeIs Õ ?_
 apply Sc (wpAny_callSpecial?_slot (name:=è "__getitem__") H.typeIs PyProof.Rows.slot_tuple_getitem
  (ϚF<|args_tuple_getitem _ _))
 change ϸe (Builtin.Tuple.tupleItemsOf (Å t) >>=_) s;apply Sc<|tupleItemsOf_ H ?_;apply Sc<|wpAny_typeOf T ?_;rw[Os Õ];apply Sc<|um S p pu ?_;let n:¬(ě<|Ð Ϥp==0&&É 1==1&&(ϸ6 Ze items.size)==items.size):=by ext q;rw[K9U,K9U]at q;let b:Ð Ϥp=0:=eq_of_beq q.1.1;let k:ϸ6 Ze items.size=items.size:=eq_of_beq q.2;show W ⟨Á,Á⟩
 change ϸe (Ì (ě (Ð Ϥp==0&&É 1==1&&(ϸ6 Ze items.size)==items.size)) _ _) s;rw[P3 n,LD]
 first
  |show Ϭx<|K81 ϭs a
  |show Ϭx<|K81 (Sc<|Zr ϭs) a
  |show Sc<|Ϭx<|K81 (Zr ϭs) a
  |show Sc<|Ϭx<|K81 ϭs a
end
end HT
namespace L2
open PySem PySem.Spec PyProof.Rows
abbrev TO:=St->Hp->Ô (Ú Int->Ô Hp)
def PO(X:Cx)(e:Ú On)(t:TO):Prop:=
 ∀(p:À ķ)(s:Db)(a:St)(H:Hp)(Q:Ú Int->Ô Hp),Ś H s->ϨB->
  ē (evalPart e X.env) (λu S=>∃o h,Ś h S/\IsPart u o/\Q o h) X.xe s
def E8:TO:=λ_ H Q=>Q none H
def Qx(t:TE):TO:=϶2 (λx h=>∃i,x=Ä i/\Q Ϩv h)
theorem intsAre_of:∀{s:À Do},İ (ns.map V.int) s->ϫl ns:=by
 induction ns with
 |nil=>ext s r;rw[K9D]at r;cases r;show Ā
 |cons n ns ih=>
  ext s r;rw[W1]at r;cases r with|cons r1 r2=>let(t,e):=r1;subst e;show Ĉ n t<|ih r2
section
variable{X:Cx}{te:TE}{lo hi:Ú On}{tl th:TO}{pos p2:Pos}
theorem MB:PO X none E8:=by ext p s a H Q I h;rw[evalPart_none];show Zr ⟨none,H,I,ù,h⟩
theorem O_(h:õ e te):PO X ϻF (Qx te):=by
 ext p s d H Q I w;rw[evalPart_some];apply Y6 (ϥL d H _ I w) λu S zzz=>?_;let(x,a,b,r,c):=zzz;let(i,rfl,q):=c;let(t,rfl):=r;show(Ϩv,a,b,Ä i t,q)
def SlR(X:Cx)(r:V->ϱ3 (Ú Int) (Hp->Ô VK)):Prop:=
 ∀(p:À ķ)(s:Db)(a:St)(H:Hp)(x:V)(v L u:Do)(l hi:Ú Int)(S:Ix)(Q:VK),Ś H s->ϱ4 v->s.heap.IsSliceOf S L u ù->IsPart L l->IsPart u hi->r x l hi H Q->
  ∃T id,typeLookup (Ĳ T) "__getitem__"=pure (Â<|ŋ id)/\s.TypeIs v T/\ē (ϙl<|Å S) ϸg X.xe s
def tSl(r:V->ϱ3 (Ú Int) (Hp->Ô VK))(te:TE)(tl t:TO):TE:=λa H Q=>te a H λx h=>tl a h λl b=>t a b λu c=>r x l u c Q
theorem LL(hr:SlR X r)(he:õ e te)(k:PO X lo tl)(U:PO X hi th):õ (ŧ e (.Slice lo hi none p2) pos) (tSl r te tl th):=by
 ext p s a H Q I h;apply Subscript_<|Ϥs ϭN;let(x,d,i,R,n):=zzz;apply wpAny_Slice<|Y6 (k p S a d _ i n) λL y⟨l,f,g,P,o⟩=>Y6 (U p y a f _ g o) λV z zzz=>?_;let(u,c,j,pu,w):=zzz;rw[evalPart_none];apply ϥY;let Y:Ś c {z with heap:=z.heap.push (ı "slice" (Ŝ #[L,V,ù]))}:=j.kept (t':=z.toks) Ϗ2;let(T,id,t,m,hg):=hr p {z with heap:=z.heap.push (ı "slice" (Ŝ #[L,V,ù]))} a c x v L V l u z.heap.objs.size Q Y R (Heap.IsSliceOf.new ..) P pu w;change ē (Ϛ5<|Å z.heap.objs.size) ϸg X.xe {z with heap:=z.heap.push (ı "slice" (Ŝ #[L,V,ù]))};show tail_any (ops:=[Å z.heap.objs.size,v]) m t hg (by with_unfolding_all rfl)
def B5(X:À V)(l hi:Ú Int):À V:=ý ϗt<|ϸ6 HT.Ze X.length
theorem u9(X:À V)(l hi:Ú Int):ύK (Ã ϓz):=by
 delta B5;rw[Zk,K8y];lia
def U4(K:Ch):V->ϱ3 (Ú Int) (Hp->Ô VK):=λx l hi H Q=>∃a X,x=Å a/\ϥx a X/\
 ¬(ύ5 X.length)/\∀p,ϳ7->Q (Å p) (Į p<|č ϓz)
theorem QX:SlR X (U4 X.K):=by
 ext p s f H x v V u L hi e Q I R c P pu h;let(a,S,rfl,d,w,q):=h;cases R;let(i,r,t,Z):=I.tuple d;let l:i.toArray.size=S.length:=Ù K9W r.length.symm
 apply("tuple",_,PyProof.Rows.slot_tuple_getitem.lookup,t.typeIs,?_);apply HT.uc t c P pu (by rw[l];show w) ?_ (by rw[l];show Z);rw[l];apply(Å s.heap.objs.size,_,ϩY (o:=č<|B5 S L hi) Ϗ2 ß ?_,rfl,q _<|I.Y1.fresh ß);show(K9C (u9 S L hi) Z,_,ý (r.drop<|Ϧ4 0 L)<|Ϧ4 S.length hi-Ϧ4 0 L,IsTup.new _ _)
end
def ixN(n:Nat)(i:Int):Option Nat:=Ì (0<=i) (if i<n then Â i.toNat else none) (if -Ł<=i then Â ((ā (i+n))) else none)
def Y9{α:Type}(X:À α)(i:Int):Ú α:=ï (ϤE i) λj=>Ĵ X
theorem FK{i:Int}(h:ixN n i=ϳb):seqIndex? i n=ϳb/\j<n/\-Ł<=i/\i<n:=by
 delta ixN at h;by_cases a:0<=i
 .rw[Os a]at h
  by_cases H:i<n
  .rw[ϱh]at h
   let e:i.toNat=j:=Zz h;show(ϩs (seqIndex_of a H),Á,Á,H)
  rw[ϱz]at h;cases h
 rw[P3 a]at h;by_cases H:-Ł<=i
 .rw[ϱh]at h
  let e:ā (i+n)=j:=Zz h;show(ϩs (seqIndex_neg Á H),Á,H,Á)
 rw[ϱz]at h;cases h
theorem Ax{i:Int}(h:Y9 xs i=ú):∃j,seqIndex? i xs.length=ϳb/\Ϩ8=ú/\j<xs.length/\-(É xs.length)<=i/\i<xs.length:=by
 delta Y9 at h;cases e:ixN xs.length i with
 |none=>rw[e]at h;cases h
 |some j=>rw[e]at h;let(H,a,f,c):=FK e;show(j,H,h,a,f,c)
theorem bZ{α:Type}{X:À α}{j:Nat}{v:α}(h:Ĵ X=ú):Y9 X ĺ=ú:=by
 let J:ϯX:=ϲE;let e:ϤE ĺ=ϳb:=by delta ixN;rw[Os Á,Os Á];simp
 delta Y9;rw[e];show h
theorem Bp(X:À α)(v:α):ϻW (X++[v])=ú:=by
 let a:Ã (X++[v])=ϻB 1:=Ø
 let e:ixN (Ã (X++[v])) (-1)=Â X.length:=by
  delta ixN;rw[a,P3 Õ,Os Á]
  congr 1
  lia
 delta Y9;rw[e];change(X++[v])[X.length]?=ú;simp
def vM(b:On):Prop:=∀o i,subscripted b false o i=operate [o,i] (getItem o i)
def IxR(X:Cx)(r:R2):Prop:=
 ∀(value slice:On)(p:À ķ)(s:Db)(a:St)(H:Hp)(x y:V)(v u:Do)(Q:VK),Ś H s->ϱ4 v->ϳ6->ϫk->
  ϗu v u=operate [v,u] (ϙl u)->ē (subscriptTail value slice v u) ϸg X.xe s
def MtR(X:Cx)(id:String)(r:V->À V->Hp->Ô VK):Prop:=
 ∀(p:À ķ)(s:Db)(a:St)(H:Hp)(x:V)(S:À V)(v:Do)(u:À Do)(Q:VK),Ś H s->ϱ4 v->Vals S u->r x S H Q->
  ē (call (ŋ id)<|v::u) ϸg X.xe s
section
variable{X:Cx}{a b:On}{pos:Pos}
theorem IxR.or(h:ϸS r)(c:ϸS r'):ϸS (ž<|ϫk\/r' x y H Q):=by
 ext value slice p s a H x y v u Q I R Y q S;rcases q with q|q
 .exact h value slice p s a H x y v u Q I R Y q S
 show c value slice p s a H x y v u Q I R Y q S
theorem FH(hr:ϸS r)(A:õ a ta)(B:õ b tb)(S:vM b):õ (ŧ a b pos) ϮI:=ϔD Subscript_ (ϛl<|S _ _)
def B_(K:Ch):R2:=ž (∃p X i v,x=Å p/\y=Ä i/\Ϩ7 p X/\ϫZ=ú/\Q v H)
def VL(K:Ch):R2:=ž (∃p X i v,x=Å p/\y=Ä i/\ϥx p X/\ϫZ=ú/\Q v H)
def WR:R2:=ž (∃z i c,x=Æ z/\y=Ä i/\Ĕ z.length/\ϐh=ã/\Ο (Æ Š))
theorem FY:ϸS (B_ X.K):=by
 ext value slice n s c H x y v u Q I m Y h S;let(p,B,i,z,rfl,rfl,k,he,q):=h;cases m;let(t,rfl):=Y;let(T,r,l,Z):=I.list k;let(j,a,d,A,f,g):=Ax he;let(w,e,R):=r.get d;let L:=r.length;let N:=rW;let fin:ϵM n c Q w s:=⟨z,H,I,R,q⟩;by_cases b:0<=i
 .let J:i.toNat=j:=by rw[seqIndex_of b g]at a;show Zz a
  show item_listR l.isList b Á ϗh fin S
 let J:ā (i+É T.toArray.size)=j:=by
  rw[seqIndex_neg Á f]at a;rw[K9W,<-L];show Zz a
 show ϖ7 l.isList.typeIs slot_list_getitem.lookup (wpAny_getItem_list_neg (Q:=λr o=>r=w/\ϵM n c Q r o) l.isList Á Ϙ9 Á ϗh (ϲx fin)) S
theorem RH:ϸS (VL X.K):=by
 ext value slice n s a H x y v u Q I f Y h S;let(p,A,i,z,rfl,rfl,d,he,q):=h;cases f;let(t,rfl):=Y;let(T,r,l,Z):=I.tuple d;let(j,b,c,k,m,o):=Ax he;let(w,e,R):=r.get c;let L:=r.length;let N:=rW;let fin:ϵM n a Q w s:=⟨z,H,I,R,q⟩;show ϖ7 l.typeIs slot_tuple_getitem.lookup (getItem_tuple (j:=j) (Q:=λr g=>r=w/\ϵM n a Q r g) l Á Á (by rw[K9W,<-L];show b) ϵV (ϲx fin)) S
theorem S0:ϸS WR:=by
 ext value slice p s k H x y v u Q I R Y h S;let(z,i,c,rfl,rfl,Z,he,q):=h;let(t,rfl):=R;let(U,rfl):=Y;let(j,a,b,f,d,e):=Ax he;let l:z.cps.toList.length=z.length:=ϰy Str.length
 rw[l]at a d e;let n:=rW;show tail_any ϙ0 slot_str_getitem.lookup (getItem_str (c:=c) (by
  let e1:å (Ë (i < -(϶H:Int))):=Pi Á;let g:å (Ë (i ≥ ϶H)):=Pi Á
  rw[e1,g,Bool.or_false]) (by rw[a];simpa using b) (ϵp (Æ Š) ι)) S
def rIx(K:Ch):R2:=ž (B_ K x y H Q\/VL K x y H Q\/WR x y H Q)
theorem kM:ϸS (rIx X.K):=FY.or<|RH.or S0
theorem CG(i:À Do)(n j:Nat)(u:Do):ϕV ((ı "list" Ϲd))=ı "list" (ϤO (i.set j u) n):=ϰy Obj.mapSeq
theorem Inv.lst{P:À ķ}{a:St}{H:Hp}{s:Db}{p:Ix}{x:À V}(I:ų P a H s)(h:H p=Â (Ă x)):
  ∃(i:À Do)(n:Nat),Vals x i/\ϑA=Â ((ı "list" Ϲd))/\Ĕ x.length:=by
 let(z,i,n,r,e):=ϫH h;show(i,n,r,e,z)
theorem Inv.lstUpd{s:Db}{S y:À V}{i its':À Do}{f:Obj->Obj}(I:ą)(h:H p=Â (Ă S))(j:ϑA=Â ((ı "list" Ϲd)))(F:f (ı "list" Ϲd)=ı "list" (ϳR its'.toArray n'))(r:Vals y its')(Z:Ĕ y.length)(t:Nat):
  Ĺ X (Į p<|Ă y) {s with heap:=ϐK f,toks:=t}:=by
 let e:(ϐK f).get? p=Â ((ı "list" (ϳR its'.toArray n'))):=by rw[K7v f j (by rw[F]<;>rfl),F]
 apply I.write (x:=p) (e:=p) (by rw[h];trivial) (È rfl) (λb u B q=>Ę (϶M<|K8g B) q) ⟨_,e⟩ ?_;show(Z,its',n',r,e)
def PY:V->V->V->Hp->Ô (Ô Hp):=λo i v H Q=>∃p X k j,o=Å p/\i=Ä k/\H p=Â (Ă X)/\ϤE k=ϳb/\Q (Į p<|Ă<|ϤD v)
theorem set_list:U0 X PY:=by
 ext P s m H o i v z y u Q I g R V h;let(p,x,k,j,rfl,rfl,e,J,q):=h;cases g;let(t,rfl):=R;let(T,n,r,O,Z):=I.lst e;let(a,w,f,d):=FK J;let l:=r.length;let N:=rW;let b:ų P m (Į p<|Ă<|x.set j v) ((ϰP (ϐK ϕV))):=
  I.lstUpd e O (CG T n j u) (r.set V j) (by rw[K8z];show Z) s.toks
 by_cases c:0<=k
 .let K:k.toNat=j:=by rw[seqIndex_of c d]at a;show Zz a
  show PySem.W.ki_setAt O c Á (by rw[K9W,<-l];show d) (Ù K (_,b,q))
 let K:ā (k+É T.toArray.size)=j:=by
  rw[seqIndex_neg Á f]at a;rw[K9W,<-l];show Zz a
 show PySem.W.ki_setBack O Á (by rw[K9W,<-l];show f) Á (Ù K (_,b,q))
theorem zG(l hi:Ú Int)(n:Nat):(Ϗi).1=Ð (HT.Ze n 0 l)/\(Ϗi).2.1=Ð (HT.Ze n n hi)/\(Ϗi).2.2=1:=by
 apply(?_,?_,rfl)
 .cases l with
  |none=>simp[sliceBounds,HT.Ze]
  |some i=>
   simp only[sliceBounds,HT.Ze,Zda,ϱF (É 1 > 0),K84];by_cases h:i<0
   .simp only[h,K84]<;>lia
   simp only[h,if_false]<;>lia
 cases hi with
 |none=>simp[sliceBounds,HT.Ze]
 |some i=>
  simp only[sliceBounds,HT.Ze,Zda,ϱF (É 1 > 0),K84];by_cases h:i<0
  .simp only[h,K84]<;>lia
  simp only[h,if_false]<;>lia
theorem yy(i:À Do)(l hi:Ú Int):slicePick i.toArray l hi none=ϸO (ý (i.drop<|HT.Ze i.length 0 l)<|ϸ6 HT.Ze i.length):=by let(h,H,f):=zG l hi i.toArray.size;delta slicePick;rw[h,H,f];simp only[sliceRange_one,pick_run,K9W]<;>rfl
def Wc(K:Ch):V->ϱ3 (Ú Int) (Hp->Ô VK):=λx l hi H Q=>∃a X,x=Å a/\ϲp X/\∀p,ϳ7->Q (Å p) (Į p<|Ă ϓz)
theorem cn:SlR X (Wc X.K):=by
 ext p s f H x v V u L hi e Q I R c P pu h;let(a,S,rfl,d,q):=h;cases R;let(i,r,t,Z):=I.list d;let l:=r.length;apply("list",_,slot_list_getitem.lookup,t.isList.typeIs,?_);apply wpAny_getItem_list_slice t.isList c P pu ù Ø ?_ Ϙ9;rw[yy,<-l];apply(Å s.heap.objs.size,_,ϩY (o:=Ă<|B5 S L hi) Ϗ2 ß ?_,rfl,q _<|I.Y1.fresh ß);show(K9C (u9 S L hi) Z,_,0,ý (r.drop<|Ϧ4 0 L)<|Ϧ4 S.length hi-Ϧ4 0 L,ϳ3)
def sM:ϳi V|.Y4=>true|.bl _=>true|.int _=>true|.str _=>true|_=>false
def eqV:V->ϳi V
 |.Y4,.Y4=>true
 |.bl a,.bl b=>a==b
 |.bl a,.int b=>(if a then 1 else 0)==b
 |.int a,.bl b=>a==Ϙw
 |.int a,.int b=>a==b
 |.str a,.str b=>a==b
 |_,_=>false
theorem SW(Y:ϳ6)(R:ϱ4 v)(F:sM y=true)(f:ϥ1 sM):ϕ3 ύC:=by
 cases y with
 |Y4=>
  cases Y;cases x with
  |Y4=>cases R;show SeqAt.EqAt.same _
  |bl b=>cases R;show SeqAt.EqAt.none_bool b
  |int b=>let(t,rfl):=R;show SeqAt.EqAt.none_int b t
  |str b=>let(t,rfl):=R;show SeqAt.EqAt.none_str b t
  |_=>show Đ ϩP Zy
 |bl a=>
  cases Y;cases x with
  |Y4=>cases R;show SeqAt.EqAt.bool_none a
  |bl b=>cases R;show SeqAt.EqAt.bool_bool a b
  |int b=>let(t,rfl):=R;show SeqAt.EqAt.bool_int a b t
  |str b=>let(t,rfl):=R;show SeqAt.EqAt.bool_str a b t
  |_=>show Đ ϩP Zy
 |int a=>
  let(U,rfl):=Y;cases x with
  |Y4=>cases R;show SeqAt.EqAt.int_none a U
  |bl b=>cases R;show SeqAt.EqAt.int_bool a U b
  |int b=>let(t,rfl):=R;show SeqAt.EqAt.int_int a U b t
  |str b=>let(t,rfl):=R;show SeqAt.EqAt.int_str a U b t
  |_=>show Đ ϩP Zy
 |str a=>
  let(U,rfl):=Y;cases x with
  |Y4=>cases R;show SeqAt.EqAt.str_none a U
  |bl b=>cases R;show SeqAt.EqAt.str_bool a U b
  |int b=>let(t,rfl):=R;show SeqAt.EqAt.str_int a U b t
  |str b=>let(t,rfl):=R;show SeqAt.EqAt.str_str a U b t
  |_=>show Đ ϩP Zy
 |_=>show Đ (show Ϫ2 from F) Zy
def eqU(x:V)(u:Do):Bool:=match u with
 |.none=>eqV .Y4 x
 |.bool b=>eqV ϰ0 x
 |.int i _=>eqV (Ä i) x
 |.str z _=>eqV (Æ z) x
 |_=>false
theorem JX(r:ϳ6)(f:sM y=true):ϹT u=ύC:=by
 cases y with
 |Y4=>cases r;rfl
 |bl b=>cases r;rfl
 |int i=>let(t,rfl):=r;rfl
 |str z=>let(t,rfl):=r;rfl
 |_=>show Đ ϩP Zy
theorem Ap:∀{X:À V}{s:À Do},İ X s->Γ X.all sM->s.any ϹT=X.any λy=>ύC|_,_,.nil,_=>rfl|y::X,u::s,.cons r t,f=>by rw[K7z,K9U]at f;rw[K80,K80,JX r f.1,Ap t f.2]
theorem vZ(R:ϱ4 v)(F:ϥ1 sM):∀{X:À V}{S:À Do},İ X S->Γ X.all sM->∀u∈S,ϕ3<|ϹT u
 |_,_,.nil,_=>λu U=>by cases U
 |y::X,u::S,.cons r t,f=>λa U=>by
  rw[K7z,K9U]at f;rcases Z7.mp U with rfl|U
  .rw[JX r f.1];show SW r R f.1 F
  .exact vZ R F t f.2 a U
def inV(x:V)(X:À V):Bool:=X.any λy=>ύC
def rIn(K:Ch)(neg:Bool):R2:=ž (∃p X,y=Å p/\(Ϩ7 p X\/ϥx p X)/\ϥ1 sM/\Γ X.all sM/\ϕg (inV x X))
theorem uq:ϳr In (rIn X.K false):=by
 ext n s b H x y v u Q I R Y h;let(p,S,rfl,a,f,fs,q):=h;cases Y;rcases a with a|a
 .let(i,r,l,Z):=I.list a
  apply SeqAt.in_listAt ϹT l.isList ϕk ⟨ϴZ,H,I,rfl,?_⟩;rw[show ϲn i.toArray.any ϹT i.any by simp,Ap r fs];show q
 let(i,r,l,Z):=I.tuple a;apply SeqAt.in_tupleAt ϹT l ϕk ⟨ϴZ,H,I,rfl,?_⟩;rw[show ϲn i.toArray.any ϹT i.any by simp,Ap r fs];show q
theorem AU:ϳr NotIn (ž<|ϻk (Æ i) (Æ j) (.bl<|!(! Ϧs))):=Ϭv (notIn_str ⟨ϴZ,H,I,rfl,q⟩)
theorem AH:ϻj (ŋ "len") (ϭd (x=[Å p]) X.K (Ο (Ä y.length))):=by
 ext n s c H x U Q I r h;let(p,y,rfl,a,q):=h;let(u,rfl,b):=ϫY;cases b;let N:=rW;rcases a with a|a
 .let(i,R,P,Z):=I.list a
  let l:=R.length;show Calls.call_len_list P.isList Ϭ7 (ϵp (Ä y.length) ϖ8)
 let(i,R,P,Z):=I.tuple a;let l:=R.length;show len_tuple P Ϭ7 (ϵp (Ä y.length) ϖ8)
theorem zC:ϻj (ŋ "len") (∃z,x=[Æ z]/\Ĕ z.length/\Ο (Ä z.length)):=by ext p s a H x U Q I r h;let(z,rfl,Z,q):=h;let(u,rfl,t,rfl):=ϫY;let n:=rW;show len_str Á (ϵp (Ä z.length) ι)
theorem eY.or(h:ϴq f r)(c:ϴq f r'):ϴq f (λx H Q=>ϫX\/r' x H Q):=by
 ext p s a H x u Q I R q;rcases q with q|q
 .exact ϥL a H x u Q I R q
 show c p s a H x u Q I R q
theorem zM:ϻj (Ĳ "list") (ϭd (x=[Å p]) X.K (∀l,H l=none->Q (Å l) (Į l<|Ă y))):=by
 ext P s m H x U Q I r h;let(p,y,rfl,a,q):=h;let(u,rfl,g):=ϫY;cases g;let fin:∀(i:À Do),Vals y i->Ĕ y.length->∀(c:Op)(G:Nat),(∀b O,ϰq ņ (some O) c.get?)->
   c.get? s.heap.objs.size=Â {cls:=Ĳ "list",dict:=none,data:=ϳR i.toArray G,slots:=#[]}->ϵM P m Q (Å s.heap.objs.size) Ϯc:=λi R Z c G k e=>
  ⟨Å s.heap.objs.size,_,ϩY k ß (ń (϶Z _ c _ (Ă y)) ⟨Z,i,G,R,e⟩),rfl,q _<|I.Y1.fresh ß⟩
 rcases a with a|a
 .let(i,R,f,Z):=I.list a
  let L:=R.length;let(o,j,hc,n,d):=f.isList;show call_list_seq p (È rfl) j hc d ϖf Ϭ7
 let(i,R,f,Z):=I.tuple a;let L:=R.length;let(o,j,hc,n,d):=f;show call_list_seq p (Ñ rfl) j hc d ϖf Ϭ7
def tyV(K:Ch)(T:String)(x:V)(H:Hp):Prop:=match x with
 |.str _=>T="str"
 |.int _=>T="int"
 |.ref p=>(T="list"/\∃X,Ϩ7 p X)\/(T="tuple"/\∃o,K.lookup p=Ü/\o.cls=Ĳ "tuple"/\o.dict=none)\/
   (T="dict"/\((∃k,H p=Â Ϭf)\/∃k,H p=Â Ϭg))\/(T="set"/\∃S n,H p=Â (.set S n))
 |_=>False
theorem J8(I:ą)(r:ϱ4 v)(ty:tyV X.K T x H):
  s.TypeIs v T/\∀a,v=Å a->∃O,ϧc=some O/\O.dict=none:=by
 cases x with
 |str z=>
  let(t,rfl):=r;cases(ń (T="str") ty);show(ϙ0,λ_ e=>nomatch e)
 |int i=>
  let(t,rfl):=r;cases(ń (T="int") ty);show(typeIs_int s i t,λ_ e=>nomatch e)
 |ref p=>
  cases r;rcases ty with⟨rfl,f,q⟩|⟨rfl,o,k,hc,d⟩|⟨rfl,k⟩|⟨rfl,S,n,k⟩
  .let(b,_,l,_):=ϸP q
   apply(l.isList.typeIs,λa e=>?_);cases e;let(o,n,e,c,d,_):=l;show(o,e,d)
  .apply((o,I.kIn p o k,hc),λa e=>?_)
   cases e;show(o,I.kIn _ o k,d)
  .let z:∃o,ϑA=Ü/\o.ExactDict:=by
    rcases k with⟨K,k⟩|⟨K,k⟩
    .let(_,_,_,_,o,_,_,e,ex,_):=ϫH k
     show(o,e,ex)
    let(_,_,_,_,o,_,_,e,ex,_):=ϫH k;show(o,e,ex)
   let(o,e,ex):=z;apply((o,e,ex.1),λa g=>?_);cases g;show(o,e,ex.2.1)
  let(o,_,_,_,e,ex,_):=ϫH k;apply((o,e,ex.1),λa g=>?_);cases g;show(o,e,ex.2.1)
 |_=>show ϸo ty
def Yj(K:Ch)(T:String)(r:V->À V->Hp->Ô VK)(to:TE):TE:=ϗq (r x [] h Q)
def tBM(K:Ch)(T:String)(r:V->À V->Hp->Ô VK)(to:TE)(t:TA):TE:=ϗq (t a h λX b=>r x X b Q)
variable{apos cpos:Pos}{T id:String}
theorem Sz(P:PlainAttrs T)(slot:Slot T name id)(t:typeOf (ŋ id)=pure (Ĳ "method_descriptor"))(M:ϵF id r)(j:õ o to)
  (b:Û ύ6) (l:Û (ě Ϭ8)):õ (Χ (ϲl o name apos) [] cpos) (Yj X.K T r to):=by
 ext p s a H Q I h;apply ϛA<|Ϥs ϙy;let(x,c,i,R,ty,q):=zzz;let(d,e):=J8 i R ty;show(T,id,P,slot,t,d,e,ϔs<|PySem.evalArgs_none<|M p S a c x [] v [] Q i R Ā q)
theorem Bs(P:PlainAttrs T)(slot:Slot T name id)(y:typeOf (ŋ id)=pure (Ĳ "method_descriptor"))(M:ϵF id r)(O:õ o to)(n:ϰI Ō t)
  (b:Û ύ6)
  (f:autoParam (((Ϸ1<|à Ō).all ϵ5&&ύ2
   &&Ë (Ã Ō+Ã ([]:À Keyword)+(Ì ((ϵL ([]:À Keyword))) 0 1)<30))=true) mqaa._auto_1)
  (i:Û (ě Ϭ8)) (S:Û (à Ō=ϰL (à es))) (l:Û (ϰv<|Ϸ1<|à es)):
  õ (Χ (ϲl o name apos) Ō cpos) (tBM X.K T r to t):=by
 ext p s a H Q I h;apply ϛm<|Y6 (O p s a H _ I h) λv z zzz=>?_;let(x,d,c,R,ty,q):=zzz;let(k,m):=J8 c R ty;apply(T,id,P,slot,y,k,m,?_);let A:=n cpos p z a d _ c q;rw[S]at A⊢;apply Calls.callWith_builtin (by change å (false||(Ϸ1<|à es).any Ļ);rw[l]<;>rfl)<|Ϫa ?_;show Y6 A λU B⟨V,g,j,w,u⟩=>M p B a g x V v U Q j R w u
end
def MtM(X:Cx)(id:String)(r:V->À V->Hp->Ô VK):Prop:=
 ∀(p:À ķ)(s:Db)(a:St)(H:Hp)(x:V)(S:À V)(v:Do)(u:À Do)(Q:VK),Ś H s->ϱ4 v->Vals S u->r x S H Q->
  ē (call (ŋ id)<|v::u) ϸg X.xe s
theorem Vals.one(h:İ [x] us):∃u,us=[u]/\ϱ4 u:=by
 cases h with|cons r t=>cases t;show(_,rfl,r)
theorem Vals.two(h:İ [x,y] us):∃u v,us=[u,v]/\ϱ4 u/\RelV y v:=by
 cases h with|cons r t=>let(v,rfl,q):=Vals.one t;show(_,v,rfl,r,q)
theorem Vals.zero:∀{s:À Do},İ [] s->s=[]|_,.nil=>rfl
theorem Vals.rep(h:ϨA us):∀k:Nat,İ ((ϳK (η xs))) ((ϳK (η us)))|0=>Ā|k+1=>ϖ2 Vals.append Vals.rep
theorem foldl_rep(i:À Do):∀(k:Nat)(a:À Do),
  List.foldl (λx X=>x++X) a.toArray (η i.toArray)=ϸO (a++ϳK (η i))
 |0,a=>Ø
 |k+1,a=>by
  let e:a.toArray++i.toArray=ϸO (a++i):=Ø
  let g:(a++i)++ϳK (η i)=a++ϳK (ŗ (k+1) i):=by rw[K99,K8a,K9M]
  rw[<-g,<-foldl_rep i k (a++i),<-e,K99,Zdg]
section
variable{s:Db}{xs ys zs:À V}
theorem Inv.lset{i its':À Do}{f:ϴM->ϴM}(I:ą)(h:H l=Â (Ă xs))(e:s.heap.get? l=Â ((ı "list" Ϲd)))(F:f i.toArray=its'.toArray)(v:Vals ys its')(Z:Ĕ ys.length):
  Ĺ X (Į l<|Ă ys) ((ϴu (s.heap.update l<|Obj.mapSeq f) t')):=by
 let q:=PySem.IsL.update e f;rw[F]at q;apply I.write (x:=l) (e:=l) (by rw[h];show trivial) (È rfl) (λb u B U=>Ę (Ϛ2<|K8g B) U) (ϴ7 q) ?_;show(Z,its',_,v,q)
theorem Inv.lnew(I:ą)(h:Vals ys its)(Z:Ĕ ys.length):
  Ĺ X (ϷX<|Ă ys) ((ϴu (ϱY ((ı "list" (ϳR its.toArray)))) t')):=
 I.laid ϭP ß ⟨Z,its,0,h,ϳ3⟩
theorem Inv.fresh(I:ą):Ϙe:=I.Y1.fresh ß
theorem Inv.lstM(I:ą)(h:H l=Â (Ă xs)):Ĕ xs.length/\∃(i:À Do)(n:Nat),ϨA i/\ϙ1/\s.heap.get? l=Â ((ı "list" Ϲd)):=by let(z,i,n,r,e):=I.Y1 l _ h;show(z,i,n,r,r.length,e)
theorem Ce(h:n<=sizeLine):å (Builtin.List.listTooLong n):=ϧ8 Builtin.List.listTooLong (Pi Á)
end
def Aa:V->À V->Hp->Ô VK:=λx s H Q=>∃l X y,x=Å l/\s=[y]/\H l=Â (Ă X)/\ϥo X.length/\Q .Y4 (Į l<|Ă<|X++[y])
theorem uh:MtM X "list.append" Aa:=by
 ext p s c H x V v U Q I b R h;let(l,S,y,rfl,rfl,a,Z,q):=h;cases b;let(u,rfl,J):=R.one;let(z,i,n,r,L,e):=I.lstM a;apply K86 F.slot_list_append Ϫo F.entry_list_append (F.args_list_append_2 _ _) (ϛd<|ñ K9W) ⟨e,?_⟩;apply(.Y4,_,I.lset (its':=i++[u]) a e Ø (r.append<|Ĉ J Ā) ?_,rfl,q);rw[S5,Zq];lia
def zW:V->À V->Hp->Ô VK:=λx s H Q=>∃l b X zs,x=Å l/\s=[Å b]/\H l=Â (Ă X)/\H b=Â (Ă zs)/\Ĕ (ϻB zs.length)/\Q .Y4 (Į l<|Ă<|X++zs)
theorem yT:MtM X "list.extend" zW:=by
 ext p s j H x V v U Q I c R h;let(l,b,S,zs,rfl,rfl,a,B,Z,q):=h;cases c;let(u,rfl,J):=R.one;cases J;let(z,t,n,r,d,e):=I.lstM a;let(f,i,N,m,L,g):=I.lstM B;let hsz:Ĕ ϖq:=ξ K9W K9W
 let o:¬ě (!t.toArray.isEmpty&&Builtin.List.listTooLong ϖq):=ϱq (Ce hsz) Bool.and_false Zy
 apply K86 F.slot_list_extend Ϫo F.entry_list_extend (F.args_list_extend_2 _ _)
  (AutoSeq1.list_extend_list_list_0 l t.toArray n b i.toArray N o (ñ K9W) Á) ⟨e,g,?_⟩
 apply(.Y4,_,I.lset (its':=t++i) a e Ø (r.append m) ?_,rfl,q);rw[S5];lia
theorem len_rep(X:À α)(k:Nat):Ϫy (η X)=k*X.length:=by
 induction k with|zero=>simp|succ k ih=>rw[K99,K8a,S5,ih,Nat.succ_mul,Nat.add_comm]
end L2
namespace Att
open PySem PySem.W PySem.Calls PyProof.Rows
theorem vv:∀(R:À Int)(s:À Do),WellAll P h s ϙ2->ϫl R:=by
 ext R
 induction R with
 |nil=>ext s w;rw[K9D]at w;cases w;show Ā
 |cons n R ih=>
  ext s w;rw[W1]at w;cases w with|cons a b=>cases a;show Ĉ _ _<|Ϻm b
theorem GH{l:OpenLaw}(N:l.most=ŵ){h:Op}(p:l.row.toRowW.claim.pre args=true)(w:WellAll P h vals args):
  ∃a v R,vals=[Ϲq]/\args=[WData.list ϙ2]/\ϰF=Â ((ı "list" (ϳR v.toArray)))/\IntsAre v R/\ϯt:=by
 let s:WShape.hasAll [] args [Ö Ä]=true:=(pre_splitW p).1;let hc:l.pre.holds [] {args:=args}=true:=(pre_splitW p).2;let(d,r,rfl,H,b):=hasAllW_cons s;obtain rfl:=hasAllW_nil b;let(X,rfl,f):=hasW_list H;let(R,rfl):=items_int f;let e:ϯt:=by
  delta OpenLaw.pre at hc;let c:(WTm.not<|.lt (.lit<|Ä Ł)<|.len<|.arg 0).holds [] {args:=[Ö<|R.map Ä]}=true:=by let c:=(holds_andW hc).1;rw[N]at c;show c
  let g:=condW_of c<|w_not<|w_lt w_lit<|w_len_list<|w_arg rfl;rw[I4]at g;apply Zbh λq=>?_;let Q:Ł<É R.length:=Á
  first
   |(rw[Tl Q]at g;show Đ g Õ)
   |(simp at g;lia)
 cases w with
 |cons w1 w2=>
  cases w2;cases w1 with|list ho hall=>show(_,_,R,rfl,rfl,ho,vv R _ hall,e)
theorem Hh(l:OpenLaw)(args:À WData):l.row.toRowW.claim.post args (í true) args=true:=
 postW_of (r:=l.row.toRowW) (X:=(true==true))
  (show WShape.has [] (í true) í=true by first|rfl|decide|simp[WShape.has,WShape.arms,WShape.armsAll])
  (ń ((WTm.eq .res<|.lit<|í true).value [] {args:=args,res:=Â<|í true,after:=args}=Â (í<|true==true))<|w_eq_bool (w_res rfl) w_lit) rfl
theorem BM{l:OpenLaw}{x:ł->Ô Op}{y:Fk->Ô Op}{d:DefRec}(N:l.most=ŵ)(D:ϏH)(call:∀(w:Fk)(s₀ S:Db)(m M:ł)(fa:Ix)(o:Obj)(pm cd doc:Do)(a:Ix)(s:À Do)(R:À Int),
   Ground q loose [] x w s₀ m M S.heap->y w S.heap->
   S.heap.get? fa=Ü->o.data=.func (docDef d.name d.params d.body d.scope pm cd doc)->S.heap.CodeRec cd d.name->m d.name=Â (Å fa)->
   S.heap.get? a=Â ((ı "list" (ϳR s.toArray)))->ϫl R->ϯt->S.gens=#[]->
   ϹV (model l.prog w) callerA (.call (Å fa) (ϴ1 [Å a])) (λr c=>r=ϫR (í true)/\ώg) S):
  WalkO q loose x y l.row.toRowW d [] (λf s=>ϑ1 s):=by
 ext w s₀ S m M G Y fa o pm cd doc v kV z t H e g hg args vals as p L A W O;obtain rfl:v=ù:=Dflts.none e D;obtain rfl:kV=ù:=Dflts.noKw e;let(a,s,R,rfl,rfl,b,hints,h):=GH N p W;apply enter_call<|K8G (call w s₀ S m M fa o pm cd doc a s R G Y z (fd_plain t) H g b hints h hg) λr c Q=>?_;let(rfl,i,j,k):=Q;show(È ⟨í true,í true,[],rfl,ύg,í true,Hh l _,ϰs ⟨List.Pairwise.nil,λ_ u=>(nomatch u)⟩⟩,i,j,k)
def ledger(h:Op)(L d:Ix):À ķ:=ύL (ŷ h.objs.size) λa=>if a=L\/a=d then none else Î ϰF λo=>(a,o)
end Att
namespace L2
open PySem PySem.Spec PyProof.Rows
theorem qI:∀{s:À Do}{R:À Int},ϫl R->İ ϳu s|_,_,.nil=>Ā|_,_,.cons n t h=>Ĉ ϪH<|qI h
def TX(H:Hp):Prop:=∀b,ϱc\/∃o X,H b=Â (.Z2 o<|Ă X)
def ip(s:No):Arguments:=match s with
 |.FunctionDef _ a _ _ _ _ _ _ _ _=>a
 |_=>{posonlyargs:=[],args:=[],vararg:=none,kwonlyargs:=[],kw_defaults:=[],kwarg:=none,defaults:=[]}
def et(s:No):À No:=match s with
 |.FunctionDef _ _ b _ _ _ _ _ _ _=>b
 |_=>[]
def ag(s:No):Scope:=match s with
 |.FunctionDef _ _ _ _ _ _ sc _ _ _=>sc
 |_=>{kind:=ϻl,names:=[],isGenerator:=false,isCoroutine:=false}
abbrev Z8:CXT:=λ_ _ _ _ _ _=>False
abbrev E0:XK:=Ϧ2
structure Fun(K:Ch)(x qual:Str)(st:No)(f:Ix)(fd:Gc):Prop where
 ex:∃(oc:Do)(od:Ú Ix)(kV doc pm:Do)(an:Ú Ix)(cdv ct:Do)(osl:Ϲ4 Da),
  fd=ώr ù kV doc pm an cdv ct/\ϓy=Â ⟨oc,od,.func fd,osl⟩/\ύf cdv qual=true
 kp:ϧV K (Å f)
section
variable{K:Ch}
theorem Fun.ok{T:No}(F:ϦD)(S:Fq N ps ϥM)(len:∀v H Q E,ϓw->ϫC v.length)(B:∀(c:Do)(A:Is)(outer:À Env)(s:Db)(H:Hp)(v:À V)(Q:VK)(E:XK),ϩC->ϓw->
   ∃t,PSs (ϬH Z8 mg).nox (et T) t/\t {nx:=λ_ a=>Q .Y4 a,rt:=Q} (ϫd v) H):϶j mg base Z8 (k+1) f fd ps sp:=by
 let(Z,D,kV,doc,pm,an,c,ct,O,rfl,W,d):=F.ex;apply JQ W d S len λA outer s H v Q E hr p=>?_;let(t,h,q):=B c A outer s H v Q E hr p;show(t,h.nox,q)
theorem Fun.binds{T:No}(F:ϦD)(h:∀(kV doc pm:Do)(an:Ú Ix)(c ct:Do)(s:À Do),ϫC s.length->bindArgs (fnOf x qual (ip T) (et T) ϥM ù kV doc pm an c ct) ⟨s,[]⟩=pure (ps.zip s)):ϧG K []:=by let(Z,D,kV,doc,pm,an,c,ct,O,rfl,W,d):=F.ex;show .all<|h kV doc pm an c ct
theorem C5{x qual:Str}{st:No}{f:Ix}{Z:Do}{D an:Ú Ix}{O:Ϲ4 Da}{kV doc pm d ct:Do}(l:ϓy=Â ⟨Z,D,.func<|ώr ù kV doc pm an d ct,O⟩)
  (c:ύf d qual=true) (k:ϧV K (Å f)):Fun K x qual st f (ώr ù kV doc pm an d ct):=⟨⟨Z,D,kV,doc,pm,an,d,ct,O,rfl,l,c⟩,k⟩
end
def aH(H h:Hp):Prop:=∀b o,H b=Ü->h b=Ü
theorem aH.refl(H:Hp):ϳl H:=λ_ _ h=>h
theorem aH.trans(a:ϳl H1)(b:aH H1 H2):ϳl H2:=λc o h=>b c o<|a c o h
theorem aH.free(e:ϳl H')(h:H' l=Option.none):H l=Option.none:=by
 cases q:H l with|none=>rfl|some o=>rw[e l o q]at h;cases h
end L2
set_option maxHeartbeats 4000000
namespace L2
open PySem PySem.Spec PyProof.Rows
def frees(env:Env):À ϴv->À ϵt->À ϵt|[],cs=>cs|(n,k)::r,cs=>Ì (ě ϦM) (ϤX r ((n,ę Ϗ3 0)::cs)) (ϤX r cs)
theorem frC{env:Env}{n k r cs}:ϤX ((n,k)::r) cs=Ì (ě ϦM) (ϤX r ((n,ę Ϗ3 0)::cs)) (ϤX r cs):=rfl
theorem uL:∀(l:À ϴv)(cs:À ϵt),(∀y∈l,y.2=υ->∃c,ϐX y.1=ã)->
  (∀c,ϒN=ã->ϭR=ã)->ς (ϤX l cs) x=ã->ϭR=ã
 |[],cs,_,hc,e=>hc c e
 |(n,k)::r,cs,hl,hc,e=>by
  rw[frC]at e;by_cases H:ě ϦM
  .rw[ϱh]at e
   let(d,D):=hl (n,k) Uf Ϸ4;let h:Ϗ3=Ω:=D;apply uL r _ (λy Y=>hl y<|Ą Y) (λG E=>?_) e;rw[K9X]at E;cases hx:x==n with
   |true=>
    rw[hx]at E;let X:x=n:=Ŀ hx
    rw[h]at E;rw[X,h];show E
   |false=>rw[hx]at E;show hc G E
  .rw[ϱz]at e
   show uL r cs (λy Y=>hl y<|Ą Y) hc e
theorem qW:∀(l:À ϴv)(cs:À ϵt),(ϘS\/∃c,ϒN=ã)->∃c,ς (ϤX l cs) x=ã
 |[],cs,h=>by
  rcases h with h|h
  .cases h
  .exact h
 |(n,k)::r,cs,h=>by
  rw[frC];by_cases H:ě ϦM
  .rw[ϱh]
   apply qW r _ ?_;rcases h with h|⟨c,h⟩
   .rcases Z7.mp h with e|e
    .cases e
     show Ñ ⟨ę ϭR 0,ϰB K9X K8Q⟩
    .exact È e
   .apply Ñ ?_
    rw[K9X];cases hx:x==n with|true=>show(_,rfl)|false=>show(c,h)
  .rw[ϱz]
   apply qW r _ ?_;rcases h with h|h
   .rcases Z7.mp h with e|e
    .cases e
     show ϱH H
    .exact È e
   .exact Ñ h
theorem Fm{env:Env}:∀{names:À ϴv},(ς (names.map λ(n,k)=>Ì (ϩG&&Ϫz==Â Ŏ) (n,NameKind.cell) (n,k)) x=Â k')->
  ∃k,names.lookup x=ϱP/\(k'=k\/(k=υ/\k'=Ŏ)):=by
 intro x0
 induction x0 with
  |nil=>
   intro h
   exact ϵo
  |cons x37 r ih=>
   intro h
   obtain⟨n,k⟩:=x37
   rw[W1]at h;dsimp only at h;rw[K9X];by_cases hc:ě (ϩG&&Ϫz==Â Ŏ)
   .rw[ϩu,K9X]at h
    cases hx:x==n with
    |true=>
     rw[hx]at h;cases h;let H:k=υ:=by
      rw[K9U,K9U]at hc;simpa using hc.1.1
     show(k,rfl,Ñ ⟨H,rfl⟩)
    |false=>rw[hx]at h;show ih h
   .rw[ϩv,K9X]at h
    cases hx:x==n with
    |true=>rw[hx]at h;cases h;show(_,rfl,È rfl)
    |false=>rw[hx]at h;show ih h
theorem nQ{env:Env}:∀{names:À ϴv},names.lookup x=Â υ->
  ϲd (ς (names.map λ(n,k)=>Ì (ϩG&&Ϫz==Â Ŏ) (n,NameKind.cell) (n,k)) x) (Â Ŏ) (Â υ):=by
 intro x0
 induction x0 with
  |nil=>
   intro h
   exact ϵo
  |cons x24 r ih=>
   intro h
   obtain⟨n,k⟩:=x24
   rw[W1];dsimp only;rw[K9X]at h;by_cases hc:ě (ϩG&&Ϫz==Â Ŏ)
   .rw[ϩu,K9X]
    cases hx:x==n with|true=>show È rfl|false=>rw[hx]at h;show ih h
   .rw[ϩv,K9X]
    cases hx:x==n with
    |true=>rw[hx]at h;cases h;show Ñ rfl
    |false=>rw[hx]at h;show ih h
theorem lR:∀{l:À ϴv},l.lookup x=ϱP->(x,k)∈l
 |(n,j)::r,h=>by
  rw[K9X]at h;cases hx:x==n with
  |true=>
   rw[hx]at h;cases h;let:x=n:=Ŀ hx
   rw[this];show Uf
  |false=>rw[hx]at h;show Ą<|lR h
theorem xB(h:ϵj (x.2=υ->∃c,ϐX x.1=ã)):closureFor scope env=pure (ϤX scope.names []):=by
 delta closureFor;let key:∀(l:À ϴv)(cs:À ϵt),(∀x∈l,x.2=υ->∃c,ϐX x.1=ã)->
  (forIn l cs λ(x:Str×NameKind)(r:List (Str×Ix))=>if ě (x.2==NameKind.free) then do let a <-cellOf env x.1;pure (ForInStep.yield<|(x.1,a)::r)else ϗP:Sem (À ϵt))=pure (ϤX l cs):=by
  ext l
  induction l with
  |nil=>ext cs _;rfl
  |cons x r ih=>
   ext cs X;let(n,k):=x;rw[List.forIn_cons];dsimp only;let hr:=λcs=>ih cs λy Y=>X y<|Ą Y;by_cases H:ě ϦM
   .let(c,hc):=X (n,k) Uf Ϸ4
    let C:Ϗ3=ã:=hc;rw[ϱh];rw[frC];rw[ϱh];let e1:cellOf env n=pure c:=by delta cellOf;rw[C]
    rw[e1,C,<-hr];rfl
   rw[ϱz];rw[frC];rw[ϱz,<-hr];rfl
 let:=key scope.names [] h;simp only[bind_pure];show this
def HN(ifs:À On)(env:Env):Sem Bool:=forIn ifs true λc r=>if r=true then do let ok <-isTrue c env (eval c env);pure (ForInStep.yield ok)else ϗP
theorem zP{pos:Pos}{it a:Do}(J:Nat->Ô Db)(turn:∀n s,J n s->wpAny ϴz A (pyNext it) (λr b=>match r with
   |none=>R (Ħ Ϥb) b
   |some v=>wpAny ϴz A (Ϗt it v) (λ_ d=>wpAny ϴz A (assign tg env v) (λ_ z=>wpAny ϴz A (HN ifs env) (λok s4=>
     Ì (ok=true) (ϰi (eval elt env) (λx L=>ϰi (call (ŋ "list.append") [a,x]) (λ_ g=>∃m,m<n/\J m g) ϲh L) ϲh s4) (∃m,m<n/\J m s4)) ϲh z) ϲh d) ϲh b) ϲh s)(n:Nat)(h:J n s):ϹV ϴz A (.compLoop ϳW 0 it a env) R s:=by
 apply codeAny_loop rfl J (λn s o=>?_) n h;let no:∀(P:Do->Ô Db)(e:Do)(S:Db),False->P e S:=λ_ _ _ f=>f.elim;change ϲz _ A ((compTurn ϳW 0 it a env).onRaise λx=>do noteFrame x env;theTreesLotGoes x) _ _ s;apply wpAny_noted ?_;rw[compTurn_list];apply Sc<|K7o<|Sc<|K8m (turn n s o) (λr b H=>?_) ϦX;cases r with
 |none=>show Zr H
 |some v=>
  apply Sc<|K8m H (λ_ d i=>?_) ϦX;apply Sc<|K8m i (λ_ z j=>?_) ϦX;apply Sc<|K8m j (λok s4 c=>?_) ϦX;cases ok with
  |false=>show Zr ⟨rfl,c⟩
  |true=>
   apply Sc<|Sc<|K8m c (λx L k=>?_) ϦX;show Sc<|K8m k (λ_ g l=>Zr<|Zr ⟨rfl,l⟩) ϦX
def cxB(X:Cx)(N:À Str)(scope:Scope)(s:Db)(H:Hp)(C:Ix)(ex:À Ix)(p:À ķ):Cx:=
 {X with N:=N,s₀:=s,H₀:=H,env:=compEnvC scope ϵe C X.env,outer:=X.stack,ex:=ex,fn:=λ_=>false,pn:=X.pn++p,xe:=ϲh}
def p8(X:Cx)(scope:Scope):Ô (À ϳ2)|[]=>True|p::r=>(X.N[p.1]?=Â p.2/\ϺF p.2=Â υ)/\p8 X scope r
theorem p8.get:∀{outs:À ϳ2}{j:Nat}{p:ϳ2},ϯh X->Ĵ outs=ϳc->X.N[p.1]?=Â p.2/\ϺF p.2=Â υ:=by
 intro x0
 induction x0 with
  |nil=>
   intro x51 x52 x53 e
   exact ϧm
  |cons q r ih=>
   intro x54 p h e
   cases x54 with
    |zero=>
     exact Ϭ2 h.1
    |succ j=>
     exact ih (j:=j) h.2 ϵV
structure Blk(X:Cx)(sc scope:Scope)(outs:À ϳ2):Prop where
 hsc:X.env.scope=sc
 kind:scope.kind=ϻl
 loc:ϵj (x.2=Ţ->ϺF x.1=Â Ţ)
 nocell:ϵj (x.2≠Ŏ)
 fr:ϵj (x.2=υ->ϲd ϭJ (Â Ŏ) (Â υ))
 out:ϯh X
def slots(k:Nat)(outs:À ϳ2)(a:St):St:=η none++ϲ7 (λp=>(a[p.1]?).join)
def lG:St->Ô St|[],[]=>True|none::r,_::r'=>lG r r'|some v::r,w::r'=>w=ú/\lG r r'|_,_=>False
theorem lG.len:∀{σ σ':St},lG σ σ'->σ.length=σ'.length
 |[],[],_=>rfl
 |none::r,_::r',h=>by let:=ϙa h;simp[this]
 |some v::r,w::r',h=>by let:=ϙa h.2;simp[this]
theorem lG.get:∀{σ σ':St}{i:Nat}{v:V},lG σ σ'->û σ=Â ú->û σ'=Â ú
 |[],_,_,_,_,e=>ϧm
 |none::r,w::r',0,v,_,e=>ϧm
 |none::r,w::r',i+1,v,h,e=>by
  let:=ϖv h ϵV;simpa using this
 |some u::r,w::r',0,v,h,e=>by
  simp at e;rw[h.1];simp[e]
 |some u::r,w::r',i+1,v,h,e=>by
  let:=ϖv h.2 ϵV;simpa using this
def PF(X:Cx)(ifs:À On)(t:TT):Prop:=
 ∀(p:À ķ)(s:Db)(a:St)(H:Hp)(Q:Bool->Ô Hp),Ś H s->ϨB->ē (HN ifs X.env) ϑo X.xe s
def O0:TT:=λ_ H Q=>Q true H
theorem Lf:PF X [] O0:=Ϧ5 (wpAny_tests_nil ⟨H,I,h⟩)
theorem Tx(h:ϸ2 c t):PF X [c] t:=λp s a H Q I q=>wpAny_tests_one<|ϥL a H Q I q
abbrev Vj(tc:TT)(te:TE)(d:St)(D:Ix)(a:À V)(N:À V->Ô Hp):St->Ô Hp:=λc H=>lG d c/\tc c H λb h=>Ì ϻX (te c h λy E=>E D=Â (Ă a)/\ϥo a.length/\N ϫO (upd E D<|Ă ϫO)) (N a h)
def SH(J:It)(g:TG)(tc:TT)(te:TE)(d:St)(D:Ix)(H:Hp)(Q:Ô Hp):Prop:=
 ∃W:ύM (À V->Ô Hp),(∃m,W 0 m []<|Į D<|Ă [])/\∀i m c h,W i m c h->
  (ύd h/\Q h)\/(J.go i h/\∃N:À V->Ô Hp,(∀a b,N a b->∃M,M<m/\W (i+1) M a b)/\∀x b,J.yld i h x b->g x d b (Vj tc te d D c N))
def Cb(wi:TI)(g:TG)(tc:TT)(te:TE)(k:Nat)(outs:À ϳ2):TE:=λa H Q=>wi a H λJ h=>∀D,h D=none->SH J g tc te (slots k outs a) D h λb=>Q (Å D) b
set_option tactic.hygienic true in
def xQ(scope:Scope)(cl:À ϵt)(C:Ix)(env:Env):Env:=compEnvC scope (Ϻw (C+1) cl) C env
set_option tactic.hygienic true in
theorem ic:∀(names:À ϴv)(n:Nat)(a:À ϵt){x:Str}{c:Ix},ς ϩX x=ã->ϧK=ã\/(n<=c/\(x,NameKind.cell)∈names)
 |[],n,a,x,c,h=>È h
 |(y,k)::r,n,a,x,c,h=>by
  delta cellsFrom at h;split at h
  .rename_i d
   let K:k=Ŏ:=by simpa using d
   rcases ic r (n+1) _ h with h|⟨b,H⟩
   .rw[K9X]at h
    cases hx:x==y with
    |true=>
     rw[hx]at h;cases h;let:x=y:=Ŀ hx
     show Ñ ⟨ß,by rw[<-K,this];show Uf⟩
    |false=>rw[hx]at h;show È h
   .exact Ñ ⟨Á,Ą H⟩
  .rcases ic r n _ h with h|⟨b,H⟩
   .exact È h
   .exact Ñ ⟨b,Ą H⟩
set_option tactic.hygienic true in
theorem lX:∀(names:À ϴv)(n:Nat)(a:À ϵt){x:Str},(x,NameKind.cell)∉names->ς ϩX x=ϧK
 |[],n,a,x,h=>rfl
 |(y,k)::r,n,a,x,h=>by
  delta cellsFrom;split
  .rename_i H
   let K:k=Ŏ:=Ϸ4
   rw[lX r (n+1) _ λz=>h<|Ą z,K9X];let:å (x==y):=by
    cases hx:x==y with
    |false=>rfl
    |true=>
     let e:x=y:=Ŀ hx
     show Đ (by rw[e,<-K];show Uf) h
   rw[this]
  .exact lX r n _ λz=>h<|Ą z
set_option tactic.hygienic true in
theorem mF:∀(names:À ϴv)(h:Op)(a:À ϵt){x:Str}{c:Ix},ς (cellsFrom h.objs.size names a) x=ã->ϧK=ã\/(pushCells h names).IsCell c none
 |[],h,a,x,c,e=>È e
 |(y,k)::r,h,a,x,c,e=>by
  delta cellsFrom at e;delta pushCells;split at e
  .rename_i H
   rw[ϱh];let sz:ϸt (h.push (ı "cell" (Ŏ none)))=h.objs.size+1:=K8l ..;rw[<-sz]at e;rcases mF r (h.push (ı "cell" (Ŏ none))) _ e with q|q
   .rw[K9X]at q
    cases hx:x==y with
    |true=>rw[hx]at q;cases q;show Ñ (Ϭq (ϏK _ _ ϳ3))
    |false=>rw[hx]at q;show È q
   .exact Ñ q
  .rename_i H
   rw[ϱz];show mF r h _ e
theorem CC(h:∀H:Op,(∀b o,ϰq ņ Ü H.get?)->H.Ns s.heap.objs.size Ϫ3->H=pushCells (ϱY<|(ı "dict" ϤZ)) scope.names->
   Q {scope:=scope,locals:=s.heap.objs.size,globals:=globals,cells:=Ϻw ε closure,qual:=qual,func:=none,code:=outer.code,frame:=outer.frame,builtins:=outer.builtins} ϩ9):
  ϴx (ϗQ globals closure [] qual none ù<|Â outer):=by
 simp only[newFunctionEnv,Zdq,K84];apply ϳJ wpAny_alloc;apply Sc<|wpAny_layCells _ (λname kind cells=>by cases hkc:kind==NameKind.cell<;>simp[hkc]) _ _ _ _ ?_;rw[show((ϰP (ϱY ((ı "dict" ϤZ)))):Db).heap.objs.size=ε from K8l ..];apply Sc ?_;rw[List.forIn_nil];apply Zr<|Zr<|h _ (ϷB<|ϏK b o<|Ϭc e) ((Ϝe<|Ĳ "dict").keeps ϏK) rfl
set_option tactic.hygienic true in
theorem l8:∀(names:À ϴv)(n:Nat)(a:À ϵt),(∀x c,ϧK=ã->ϏN c n)->(∀x y c,ϧK=ã->a.lookup y=ã->x=y)->∀x y c,ς ϩX x=ã->ς ϩX y=ã->x=y
 |[],n,a,_,hi,x,y,c,b,H=>hi x y c b H
 |(z,k)::r,n,a,hb,hi,x,y,c,b,H=>by
  delta cellsFrom at b H;split at b
  .rename_i K
   rw[Os K]at H;let look:∀x c,ς ((z,n)::a) x=ã->(x=z/\c=n)\/ϧK=ã:=λx c h=>by
    rw[K9X]at h;cases hx:x==z with
    |true=>rw[hx]at h;show È ⟨Ŀ hx,ϵQ (Zz h)⟩
    |false=>rw[hx]at h;show Ñ h
   apply l8 r (n+1) ((z,n)::a) (λx c h=>?_) (λx y c b H=>?_) x y c b H
   .rcases look x c h with⟨_,e⟩|h
    .rw[e]
     show K8d n
    .exact K8f<|hb x c h
   .rcases look x c b with⟨e1,j⟩|b
    .rcases look y c H with⟨g,G⟩|H
     .rw[e1,g]
     .rw[j]at H
      show Đ (hb y n H) Ϸv
    .rcases look y c H with⟨g,G⟩|H
     .rw[G]at b
      show Đ (hb x n b) Ϸv
     .exact hi x y c b H
  .rename_i K
   rw[P3 K]at H;show l8 r n a hb hi x y c b H
set_option tactic.hygienic true in
theorem uK:∀(l:À ϴv)(cs:À ϵt),ς (ϤX l cs) x=ã->ϒN=ã\/ϘS
 |[],cs,h=>È h
 |(n,k)::r,cs,h=>by
  rw[frC]at h;split at h
  .rename_i H
   let K:k=υ:=Ϸ4
   rcases uK r _ h with h|h
   .rw[K9X]at h
    cases hx:x==n with
    |true=>
     let:x=n:=Ŀ hx
     show Ñ (by rw[this,<-K];show Uf)
    |false=>rw[hx]at h;show È h
   .exact Ñ<|Ą h
  .rcases uK r _ h with h|h
   .exact È h
   .exact Ñ<|Ą h
def vP(scope:Scope)(x:Str):Bool:=scope.names.any λp=>p.1==x&&p.2==NameKind.cell
theorem uW(h:vP scope x=true):(x,NameKind.cell)∈scope.names:=by
 delta vP at h;rw[Zdb]at h;obtain⟨⟨y,k⟩,M,e⟩:=h;rw[K9U]at e;let e1:y=x:=Ŀ e.1
 let g:k=Ŏ:=Ŀ e.2
 rw[e1,g]at M;show M
def cxK(X:Cx)(N:À Str)(scope:Scope)(s:Db)(H:Hp)(C:Ix)(ex:À Ix)(p:À ķ):Cx:=
 {X with N:=N,s₀:=s,H₀:=H,env:=xQ scope ϵe C X.env,outer:=X.stack,ex:=ex,fn:=vP scope,pn:=X.pn++p,xe:=ϲh}
structure BlkK(X:Cx)(sc scope:Scope)(outs:À ϳ2):Prop where
 hsc:X.env.scope=sc
 kind:scope.kind=ϻl
 loc:ϵj (x.2=Ţ->ϺF x.1=Â Ţ)
 own:ϵj (x.2=Ŏ->ϺF x.1=Â Ŏ)
 ap:ϵj (x.2=υ->(x.1,NameKind.cell)∉scope.names)
 fr:ϵj (x.2=υ->ϲd ϭJ (Â Ŏ) (Â υ))
 out:ϯh X
section
variable{X:Cx}{sc scope:Scope}{own:À Str}{outs:À ϳ2}{pos:Pos}
theorem uf(B:϶P)(I:ą):ϵj (x.2=υ->∃c,X.env.cells.lookup x.1=ã):=λx h f=>by
 apply I.ok.has x.1 ?_;change ϲd (Ϗl x.1) _ _;rw[B.hsc];show B.fr x h f
theorem Ku(B:϶P)(I:ą)(G:ϳE ϯs)(fo:ϳE (∃o,ņ=Ü))(hn:h1.Ns ε m)(old:∀b o,ϰq ņ Ü h1.get?)(hD:h1.get? s.heap.objs.size=Â ((ı "list" (ϳR #[] 0))))(D:∀x c,ς (Ϻw (ε+1) ϵe) x=ã->ς ϵe x=ã\/h1.IsCell c none):
  Inv (Δ ε fp F5) [] Ϻx (ϷX<|Ă []) (ϴu h1 tk):=by
 let U:=uf B I;let sub:∀x c,ς ϵe x=ã->ϲS=ã:=ϸH (uL _ _ U (λS V=>by simp at V) e);let t:∀x c,ϲS=ã->ϙ3:=λx c e=>(let⟨v,q⟩:=ϤR e;q.lt)
 let f:∀x c,ς ϵe x=ã->(x,NameKind.cell)∉scope.names:=λx c e=>by
  rcases uK _ _ e with q|q
  .simp at q
  show B.ap _ q rfl
 let K:∀x c,ς (Ϻw (ε+1) ϵe) x=ã->ϲS=ã\/(s.heap.objs.size+2<=c/\h1.IsCell c none):=λx c e=>by
  rcases ic _ _ _ e with q|⟨Q,g⟩
  .exact È<|sub x c q
  rcases D x c e with z|z
  .exact Đ g<|f x c z
  show Ñ ⟨Q,z⟩
 let R:∀x c,ς ϵe x=ã->ς (Ϻw (ε+1) ϵe) x=ã:=ϸH (ϧY (lX _ _ _<|f x c e))
 let F:ϳE ϭT:=λb d=>(let⟨o,e⟩:=fo b d;ϵP)
 let un:Un (Δ ε fp F5).fs (Δ ε fp F5).ex H (ϷX<|Ă []) s.heap h1:=Un.laid old ß I.fresh;let N:ϺS (ϷX<|Ă []) h1:=I.Y1.laid old ß ⟨Ν,[],0,Ā,hD⟩;apply((I.ok.mod,B.kind,I.ok.glob,I.ok.blt,ϱ2,λx y c e1 j=>l8 _ _ _ (ϸH<|ϛV<|K9C ϱ2 ϱ2) (λx y c e1 j=>ϛB<|sub y c j) x y c e1 j,λx n=>?_,λx c hf hq=>?_,I.ok.hd,I.ok.frames,È rfl,λb d=>⟨?_,ϸH ?_⟩,I.bs,?_,λb o e d=>?_,λb d z=>?_,I.stack,I.stkFree),
  rfl,I.bare,un,(m,hn,λi x v e1 j A=>?_),ϸH ?_,?_,ϸH ?_,λp hp=>?_,N,?_)
 .let go:∃k,scope.names.lookup x=ϱP/\(k=υ\/k=Ŏ):=by
   rcases n with n|n
   .let(k,e,h):=Fm (show(ς (scope.names.map _) x=Â Ŏ)from n)
    rcases h with h|h
    .exact(k,e,Ñ h.symm)
    show(k,e,È h.1)
   let(k,e,h):=Fm (show(ς (scope.names.map _) x=Â υ)from n);rcases h with h|h
   .exact(k,e,È h.symm)
   show(k,e,È h.1)
  let(k,e,h):=go;rcases h with rfl|rfl
  .let(c,hc):=ϔk<|È<|lR e
   show(c,R x c hc)
  show ϘM<|ϛ0<|È e
 .rcases ic _ _ _ hq with q|⟨Q,_⟩
  .exact Đ (uW hf)<|f x c q
  show Ϥ6 K9C ϱ2 Q
 .exact K9O<|K8f<|F b d
 .rcases K x c e with q|⟨Q,_⟩
  .exact(G b d).2.2.2.2.1 x c q
  .exactλz=>Đ (F b d) (Nat.not_lt.mpr<|ϰ9 z (Ϥ6 K9C ϱ2 Q))
 .exact ϮT I.sz
 .rcases(G b d).2.2.2.1 with z|z
  .exact ϐr z
  show Đ (϶W<|ϮT z) Ϸv
 .rcases Z7.mp (ϑQ z)with q|q
  .exact(G b d).2.1 q
  show(G b d).2.2.1 q
 ·
  let hi:own.length<=i:=by
   by_cases hi:own.length<=i
   .exact hi
   let E:û Ϻx=Â ú:=j;delta slots at E;rw[K9V (Ŀ<|Nat.lt_of_not_le hi),K8Z]at E
   split at E<;>cases E
  let a:û (own++ϲ7 Ī)=ö:=e1;let E:û Ϻx=Â ú:=j;delta slots at E;rw[K9a hi,Oe]at a;rw[K9a ϏJ,K8r,Oe]at E;cases ep:outs[i-own.length]? with
  |none=>rw[ep]at a;cases a
  |some p=>
   rw[ep]at a E;let ex:p.2=x:=Zz a;let ev:(σ[p.1]?).join=ú:=Zz E;let(T,O):=B.out.get ep;let Y:σ[p.1]?=Â ú:=by
    cases q:σ[p.1]? with
    |none=>rw[q]at ev;cases ev
    |some w=>rw[q]at ev;let ew:w=ú:=ev;rw[ew]
   rw[ex]at T O;let h:ϲd ϱV (Â Ŏ) (Â υ):=Ù B.hsc (B.fr (x,υ) (lR O) rfl)
   let(m0,hn0,M):=I.loc;let(u,r,l):=M p.1 x v T Y<|h.elim (λz=>Ñ<|È z) λz=>Ñ<|Ñ z;apply(u,r,Ñ ?_);rcases l with⟨hl,_⟩|⟨_,c,W,hc⟩
   .let L:ϱV=Â Ţ:=hl
    rcases h with z|z<;>(rw[z]at L;cases L)
   let(S,C):=ϔk<|È<|lR O;let A:=sub x S C;rw[W]at A;cases A;let(Z,Q,g):=hc;show(nQ O,c,R x c C,(Z,old _ _ Q,g))
 .rcases K x c e with q|⟨_,q⟩
  .let(v,Z,Q,g):=ϤR q
   show(v,Z,old _ _ Q,g)
  show(_,q)
 .change ϷX (Ă []) ε=none
  rw[aA<|Zdc _];show I.Y1.fresh ϱ2
 .rcases K x c e with q|⟨Q,_⟩
  .rw[ϩr<|t x c q]
   show ϫt q
  let J:ϙ4 s.heap.objs.size c:=Ϥ6 K9C ϱ2 Q;rw[aA λz=>by rw[z]at Q;show Đ Q<|Nat.not_le.mpr<|ϛW<|K8d _];show I.Y1.fresh J
 .let P:p∈ϻq:=by
   let:p∈ϻq++[]:=hp;simpa using this
  let(Q,g,q3,q4,q5):=Ϸg P;apply(old _ _ Q,?_,K9O<|K8f<|Zs Q,ϴS,q5)
  .rw[ϩr<|Zs Q]
   show g
  rcases Z7.mp (I.stkSub p.1 z)with q|q
  .exact q3 q
  show q4 q
 change Ã Ϻx=Ã (own++ϲ7 Ī);delta slots;simp
theorem A2(B:϶P)(l:Ź)(hg:ϹI P (Ϩ0 (Δ C ex P)))(hc:ϹI P (ύx (Δ C ex P)))(he:ϹI P (ύy (Δ C ex P))){s:Db}{it:Ix}{tn:Nat->Ô Op}(I:ų P σ H s)(T:ϗO fp it tn)(st:tn 0 s.heap)(G:ϳE (vq X P H b)){R0:Ix->Ô Hp}(hW:∀D,H D=none->SH J g tc te Ϻx D H (R0 D)){RR:Do->Ix->Result->Ô Db}{E:Do->Ô Db}(fin:∀D C f K m,ų P σ f K->vq X P f C->K.heap.Ns C m->R0 D f->RR (Å D) C (Ħ Ϥb) K):
  ē (newList []) (λa s3=>ē (ϗQ X.env.globals ϵe [] X.env.qual none ù<|Â X.env) (λk s4=>ϹV ϰj X.A (.compStart ϳW 0 (Å it) a {k with scope:=relabel scope X.env}) (RR a k.locals) s4) E s3) E s:=by
 apply K81<|CC λO S t Q=>?_;dsimp only at t S Q⊢;let hz:ϸt (ϱY {cls:=Ĳ "list",dict:=none,data:=ϤO ([]:À Do)})=ε:=K8l ..;rw[hz]at t;simp only[hz];let fo:ϳE (∃o,ņ=Ü):=λb h=>(let⟨o,e,_⟩:=T.obj 0 _ st b h;⟨o,e⟩)
 let old:∀b o,ϰq ņ Ü O.get?:=ϷB (S b o<|Ϭc e);let hD:O.get? s.heap.objs.size=Â ((ı "list" (ϳR #[] 0))):=S _ _ ϳ3;let hz2:ϸt ((ϱY {cls:=Ĳ "list",dict:=none,data:=ϤO ([]:À Do)}).push (ı "dict" ϤZ))=ε+1:=ϰB K8l hz
 let hcl:∀x c,ς (Ϻw (ε+1) ϵe) x=ã->ς ϵe x=ã\/O.IsCell c none:=ϸH (by rw[Q];rw[<-hz2]at e;show mF _ _ _ e)
 let I1:=Ku (own:=own) (tk:=s.toks) B I G fo t old hD hcl;let Z:tn 0 O:=ϑY st (λb _ o e=>Ϩq e);obtain⟨W,⟨m0,w0⟩,turn⟩:=hW _ I.fresh;let F:∀{f:Hp},(ϳE<|f b=none)->ϳE (vq (Δ ε fp P) [] f b):=λhn b h=>by
  let(o,eo):=fo b h;apply(hn b h,K9O<|K8f<|Zs eo,I1.ok.exfs b h,È h,ϸH ((I1.ok.exf b h).2 x c e),λp hp=>?_);let hp':p∈X.pn++P:=by
   let:p∈(X.pn++P)++[]:=hp;simpa using this
  show(G b h).2.2.2.2.2 p hp'
 let loop:∀s0:Db,s0={s with heap:=O,toks:=s.toks}->
   ϹV ϰj X.A (.compLoop ϳW 0 (Å it) (Å s.heap.objs.size)<|xQ scope ϵe ε X.env) (RR (Å s.heap.objs.size) ε) s0:=by
  ext s0 rfl;apply zP (λn K=>∃i a f,Inv (Δ ε fp P) [] Ϻx f K/\tn i K.heap/\(ϳE<|f b=none)/\W i n a f) ?_ m0
   ⟨0,[],_,I1,Z,λb h=>?_,w0⟩
  .rintro n s3 ⟨i,a,H3,I3,st3,fr3,w3⟩
   rcases turn i n a H3 w3 with⟨stop,q⟩|⟨go,N,hN,step⟩
   .apply Ϯr (T.done (Δ ε fp P) rfl rfl rfl l i [] s3 _ H3 ϲh I3 (F fr3) st3 stop);let(hr,Y):=zzz
    subst hr;let IX:ų P σ H3 s4:=I.call' (ch:=fp) Y.os Y.base Y.Y1 Y.bare λb h=>⟨(G b h).2.2.2.1,(G b h).2.1,(G b h).2.2.2.2.1,(G b h).2.2.2.2.2⟩
    let(m4,hn4,_):=Y.loc;show fin _ _ H3 s4 m4 IX (I.fpOk ϱ2 Y.free) hn4 q
   .apply Ϯr (T.item (Δ ε fp P) rfl rfl rfl l i [] s3 _ H3 ϲh I3 (F fr3) st3 go);let(u,hr,h4):=zzz
    subst hr;apply Y6 h4 λ_ s5 zzz=>?_;let(x,H5,I5,r5,y5,w,fr5):=zzz;let I5':=I5.pinned (F fr5)<|όj w;let back:∀{d:St}{U:Hp}{L:Db}{A:À V},Inv (Δ ε fp P) ([]++w6 fp s5.heap) d U L->lG Ϻx d->N A U->
      ∃m,m<n/\∃i a f,Inv (Δ ε fp P) [] Ϻx f L/\tn i L.heap/\(ϳE<|f b=none)/\W i m a f:=fun{d U L A} M hs hn6=>by
     let(m',hm,hw):=hN A U hn6;apply(m',hm,i+1,A,U,M.unpinned.weak hs.len λj v e=>hs.get e,ϑY w (λb h o e=>(ϖR<|ũ<|ũ<|nh h e).1),λb h=>?_,hw);let(o,e,_):=όj w b h;show(ϖR<|ũ<|ũ<|nh h e).2.1
    apply Y6 (Ϛ9<|step x H5 y5) λ_ L zzz=>?_;let(d,U,M,R,q6):=zzz;apply Y6 (hc s H _ fp P _ L d U _ M q6) λb s7 zzz=>?_;let(H7,I7,q7):=zzz;cases b with
    |false=>show back I7 R q7
    |true=>
     apply Y6 (he s H _ fp P _ s7 d H7 _ I7 q7) λyv s8 zzz=>?_;let(y,H8,I8,r8,hd8,hl8,hw):=zzz;apply Y6 (uh _ s8 d H8 (Å s.heap.objs.size) [y] (Å s.heap.objs.size) [yv] (λ_ H9=>H9=upd H8 s.heap.objs.size (Ă ϫO)) I8 rfl (Ĉ r8 Ā) ⟨_,a,y,rfl,rfl,hd8,hl8,rfl⟩) λz s9 zzz=>?_;let(zv,H9,I9,_,q9):=zzz;subst q9;show back I9 R hw
  .let(o,eo):=fo b h
   rw[ϩr<|Zs eo];show(G b h).1
 show ϛe<|ϛX<|loop _ rfl
theorem Ma(own:À Str)(B:϶P)(l:Ź)(hi:Ϸo iter wi)(hg:Ϲt (Ϩ0 (Δ C ex p)))(hc:Ϲt (ύx (Δ C ex p)))(he:Ϲt (ύy (Δ C ex p)))(z:ϸ4):õ ϳW (Cb wi g tc te own.length outs):=by
 ext p s c H Q I h;rw[eval_ListComp];apply K8L (use:=none) rfl z (xB<|uf B I) B.kind B.loc ?_;apply Y6 (Ϭe s c H _ I h) λv M t=>Y6 t λV O u=>?_;let(it,P,R,J,F,e,f,T,A,G,W):=u;subst e;apply Ϛq (compPost ϰj X.A X.xe none (ϵM p c Q) a C) f T A G W ?_;ext D C d E m i w N q;apply(m,N,λL S=>?_);let(j,c1,K,k,n,r):=w;show(Å D,d,i.turned (t':=E.toks) (λb o y e=>Ę (϶q y) e) j c1 k n r,rfl,q)
theorem Cs(own:À Str)(hN:X.N.Nodup)(j:Α=ö)(hx:ϲg x)(B:϶P)(l:Ź)(hi:Ϸo iter wi)(hg:ϻd (Ϩ0 (Δ C ex n)))(hc:ϻd (ύx (Δ C ex n)))(he:ϻd (ύy (Δ C ex n)))(w:Û (Ϩa ϳW (Â<|î pos') spos.line X.env=ϫm))(hs:ϸ4)(hf:Ũ (ϲW\/ϱV=Â Ţ) mqac._auto_1):
  ϱU (ϨC [î pos'] ϳW spos) (ϔl ϩp):=by
 ext n s K H r I h;rw[exec_Assign_Name_used _ _ _ _ w];apply Sc<|K7o<|Sc ?_;change ϲz _ X.A (do let _ <-comprehension (.ListComp elt [⟨tg,iter,ifs,0⟩] scope pos) scope X.env _ (newList []) false (eval iter X.env) (some<|assign (.Name x pos') X.env)) _ _ s;apply Sc<|Y6 (K8L (use:=Â<|Ϻ0 (î pos')) (Q:=λ_ S=>Ϲ9 n r Ϥb S) rfl hs (xB<|uf B I) B.kind B.loc ?_) λ_ S hq=>Zr<|Zr hq;apply Y6 (hi n s K H _ I h) λv s1 Y=>Y6 Y λitv s2 Z=>?_;let(it,fp,tn,J,H2,e,L,T,A,W,hW):=Z;subst e;apply Ϛq (compPost ϰj X.A X.xe (Â<|Ϻ0 (î pos')) (λ_ S=>Ϲ9 n r Ϥb S) a C) L T A W hW ?_;ext D C t S m u hC hn q;let(F,c1,N,P,R,U):=hC;let(c,V,E,O,d,hr):=id hn;let M:ų (n++[(C,c)]) K t S:=u.pins_of λp hp=>ϴt (Y7.mp hp) (λz=>u.pin p<|ũ z) λz=>by
  let E:p=(C,c):=Ŀ z
  subst E;show(O,F,c1,N,ϩN)
 change ϲz _ X.A (Ϻ0 (î pos')<|Å D) _ _ S;apply wpAny_assign_Name<|mS (v:=Å D) M hN j hx rfl (λG y=>?_) hf;let f:G.heap.get? C=ã:=(y.pin (C,c)<|ũ<|ũ Ø).1;apply(m,(c,V,E,f,d,hr),λh' k=>?_);show(_,t,y.unpinned.turned (t':=G.toks) (λb o hb e=>Ę (k.2 b hb) e) F c1 P R U,q)
end
theorem SS(kind:scope.kind=ϻl)(loc:ϵj (x.2=Ţ->ϺF x.1=Â Ţ))(o:ϵj (x.2≠Ŏ))(fr:ϵj (x.2=υ->ϲd Ϙf (Â Ŏ) (Â υ)))(out:ϯh ϖx):Blk ϖx (relabel scope0 X.env) scope outs:=by
 apply(rfl,kind,loc,o,λx a f=>?_,out);rcases fr x a f with h|h
 .left
  change ς (scope0.names.map _) x.1=Â NameKind.cell;let:∀names:À ϴv,names.lookup x.1=Â Ŏ->ς (names.map λ(n,k)=>Ì (ϦM&&X.env.scope.kind==ϻl&&Ϯx==Â Ŏ) (n,NameKind.cell) (n,k)) x.1=Â Ŏ:=by
   ext names
   induction names with
   |nil=>ext h;simp at h
   |cons y r ih=>
    let(n,k):=y;ext h;rw[K9X]at h;rw[W1];dsimp only;by_cases hc:ě (ϦM&&X.env.scope.kind==ϻl&&Ϯx==Â Ŏ)
    .rw[ϩu,K9X]
     cases a:x.1==n with|true=>rfl|false=>rw[a]at h;show ih h
    rw[ϩv,K9X];cases a:x.1==n with|true=>rw[a]at h;show h|false=>rw[a]at h;show ih h
  show this _ h
 show nQ h
theorem Bv:∀(names:À ϴv)(n:Nat)(a:À ϵt),(∀x∈names,x.2≠Ŏ)->ϩX=a
 |[],_,_,_=>rfl
 |(y,k)::r,n,a,h=>by
  let i:=λn=>Bv r n a λx H=>h x<|Ą H;let:=h (y,k) Uf;cases k<;>first|show ϱH this|show i n
theorem Ld(h:ϵj (x.2≠Ŏ)):cxK X N scope s H C ex F5=cxB X N scope s H C ex F5:=by delta cxK cxB xQ;rw[Bv _ _ _ h,ń (vP scope=λ_=>false) (funext λx=>Bool.eq_false_iff.mpr λw=>h _ (uW w) rfl)]
theorem Blk.toK(B:Ϯy outs):϶P:=⟨B.hsc,B.kind,B.loc,λx h e=>ϺQ<|B.nocell x h,λ_ _ _ m=>B.nocell _ m rfl,B.fr,B.out⟩
section
variable{X:Cx}{own:À Str}{outs:À ϳ2}{pos:Pos}
theorem MC(own:À Str)(h:X.N.Nodup)(j:Α=ö)(a:ϲg x)(B:Ϯy outs)(l:Ź)(hi:Ϸo iter wi)(hg:Ϲt (Ϩ0 (ϦC own (ϲ7 Ī) p)))(hc:Ϲt (ύx (ϦC own (ϲ7 Ī) p)))(he:Ϲt (ύy (ϦC own (ϲ7 Ī) p)))(w:Û (Ϩa ϳW (Â<|î pos') spos.line X.env=ϫm))(S:ϸ4)(f:Ũ (ϲW\/ϱV=Â Ţ) mqac._auto_1):
  ϱU (ϨC [î pos'] ϳW spos) (ϔl ϩp):=
 Cs own h j a B.toK l hi (ώn hg) (ώn hc) (ώn he) w S f
end
theorem wW{X:Cx}{p:À ķ}{a:St}{H:Hp}{s:Db}{ch:À Ix}{T:Ix}{o:HO}{h':Op}{t':Nat}(I:Ś H s)(C:ϙb)(k:∀b u,ϹY->ϰq ņ Ė h'.get?)
  (t:s.heap.objs.size<=T) (new:϶Z (Į T o) h' T o):Ś (Į T o) ((ϴu h' t')):=by
 let h:ύh:=I.Y1.fresh t;let N:∀b u,H b=Ė->ϹY:=ϕt
 let lt:∀b u,ņ=Ė->Ϧe:=λb u e=>K9O<|϶W t;apply ϔg (λb u _ e n=>by rw[aA<|lt b u e];show n) ϕ0 (λb x e=>ϧY (aA<|aQ e h)) (λb u v e=>ϧY (aA<|aQ e h)) (λb P e=>⟨#[],by rw[aA<|aQ e h,e];simp⟩) ϑX Ϫu I.bare
 .let(g,j,G,f,f4,F):=C b B
  show(f,j,f4,F)
 .let(l,S,E,O,r):=M
  show(l,S,E,k _ l ϭl O,r)
 by_cases B:b=T
 .subst B
  rw[aX]at e;cases e;show new
 rw[ϳk]at e;apply ώi (λc q=>Ù (aA<|ϳf h) q) (λc x q=>Ù (aA<|ϳf h) q)
 rcases hc with z|z
 .rw[z]
  show N b u e
 show N c _ z
theorem z7{X:Cx}{p:À ķ}{a:St}{H:Hp}{s:Db}{ch:À Ix}{h:Op}{t':Nat}(I:Ś H s)(C:ϙb)(k:∀b u,ϹY->ϰq ņ Ė h.get?):
  Ś H {s with heap:=h,toks:=t'}:=by
 let N:∀b u,H b=Ė->ϹY:=ϕt
 apply ϔg ϙY ϕ0 ϑW (λ_ _ _ e=>e) ϕO ϑX Ϫu I.bare
 .let(g,j,G,f,f4,F):=C b B
  show(f,j,f4,F)
 .let(l,S,E,o,r):=M
  show(l,S,E,k _ l ϭl o,r)
 apply ώi ϤP Ϲx;rcases hc with z|z
 .rw[z]
  show N b u e
 show N c _ z
def Ite(K:Ch)(a:Ix):It:=
 ⟨λi H=>∃X x,ϲp X/\û X=ö,λi H x h=>∃T y,ύh/\x=Å T/\h=Į T (č [Ä i,y])/\∀X,ϲp X->û X=ϱO,λi H=>∃X,ϲp X/\ϒL⟩
theorem Hx{P:Ev}{w:Fk}{K:Ch}{J:À On}{k:Nat}{pos:Pos}(a e it:Ix)(n:e≠it):
  ϕj (.Tuple J k pos) (Ite K a) ϙz where
 mem:=Ø
 obj:=λi h T b B=>by
  obtain⟨⟨old,he⟩,o,O,c,d⟩:=T;let f:όA:=ϲe
  rcases f with z|z
  .subst z
   show(_,he,ϩ5)
  .subst z
   show(o,O,ϩN)
 keep:=λi h h' T D=>⟨(let⟨old,he⟩:=T.1;⟨old,D e Ø _ he⟩),T.2.at λo O=>D it Ø o O⟩
 item:=by
  ext X hP W r hc i N s σ H E I F T hg;subst hP W r;let(xs,x,Q,A):=hg;obtain⟨⟨old,he⟩,hit⟩:=T;let(C,R,p,hz):=ϸP Q;let(u,Z,ru):=R.get A;let elt:ϙ5:=Zs he;apply wpAny_pyNext_enum_item he hit p.isList (x:=u) ϙ6 n λM Y t U hsz V=>?_;apply(_,rfl,wpAny_letOwnedTupleGo_enum Y λj y S=>?_);let kk:∀b v,b∉[e,it]->ϰq ņ ú j.get?:=λb v B q=>by
   let g:Ϻc:=λz=>B (ϰy z);let l:b≠it:=λz=>B (ϰy z);show Ę (϶q g)<|V b v g l q
  let m:j.get? s.heap.objs.size=Â ((ı "tuple" (ϳR #[Ä i s.toks,u]))):=Ę (ϧ9<|Zcq elt) U;apply(Å s.heap.objs.size,ϷX<|č [Ä i,x],wW (s:=s) (h':=j) (t':=s.toks+1) I F kk ß ?_,rfl,(_,x,I.fresh,rfl,rfl,λys hy=>by rw[I.list_inj hy Q];show A),((_,y),?_),ϸq)
  .exact(Ϥy (Ĕ 2),[Ä i s.toks,u],Ĉ ι<|Ĉ ru Ā,_,m,rfl,_,rfl)
  .exact t.at λo O=>Ę (S.2 it<|K8g n) O
  .let(L,f1,f2,f3,f4,f5):=F b B
   let f:όA:=ϲe
   let(oi,eoi,_):=hit;let:ϭT:=by
    rcases f with z|z
    .rw[z];show elt
    .rw[z];show Zs eoi
   rw[ϩr this];show L
 done:=by ext X hP W r hc i N s σ H E I F T hg;subst hP W r;let(xs,Q,A):=hg;obtain⟨⟨old,he⟩,hit⟩:=T;let(C,R,p,hz):=ϸP Q;let hl:=R.length;apply wpAny_pyNext_enum_end ϱW he hit p.isList Ϲj λM G=>⟨rfl,ϐt F (λb v B q=>G b v (λz=>B<|ϰy z) q)⟩
 self:=λ_ _ _ _ _ T h=>(let⟨old,he⟩:=T.1;ϭA h)
def QT(K:Ch)(ta:TA):TI:=λb H R=>ta b H λs h=>∃a,s=[Å a]/\ϏZ/\R (Ite K a) h
theorem oj:Ϻv "enumerate":=ç
theorem GO:Ϻv "zip":=ç
theorem OS{p pos tpos:Pos}(hg:Ϯk)(M:ϭt)(A:ϰI [a] ta)(n:Û (à [a]=ϸI Υ)):
  PI X (ϳx k tpos) (ϳo "enumerate" [a]) (QT X.K ta):=by
 ext i s g H R I h;apply Call_<|ϧH oj<|ϕd n rfl;let(V,d,c,r,o):=zzz;obtain⟨l,e,⟨x,Q⟩,q⟩:=o;subst e;let(u,rfl,J):=Ϸb;cases J;let(t,v,P,Z):=c.list Q;apply call_enumerate_list P.isList λm he hit hsz K=>?_;apply ϭA ?_;let j:ų i g d {S with heap:=m}:=Ϗ0 K;apply(ϲf 1,[ϲf 1,S.heap.objs.size],_,Ite X.K l,d,rfl,j,Hx l _ _<|Zdc _,((_,he),hit),ϸq,q);let f:b=ϲf 1\/ϭS:=ϲe
 rcases f with z|z
 .subst z
  show c.fpOk ϱ2<|c.Y1.fresh ϱ2
 subst z;show c.fpOk ß<|c.Y1.fresh ß
def Itz(K:Ch)(a b:Ix):It:=
 ⟨λi H=>∃X x s y,ϲp X/\û X=ö/\Ϩ7 b s/\ϴ3=ϱO,λi H v h=>∃T x y,ύh/\v=Å T/\h=Į T (č [x,y])/\(∀X,ϲp X->û X=ö)/\∀s,Ϩ7 b s->ϴ3=ϱO,
  λi H=>∃X s,ϲp X/\Ϩ7 b s/\(ϒL\/s.length<=i)⟩
theorem KQ{P:Ev}{w:Fk}{K:Ch}{es:À On}{k:Nat}{pos:Pos}(a b z TI TO d f:Ix)(Z:z≠TI/\z≠TO/\z≠d/\z≠f)(C:TI≠TO/\TI≠d/\TI≠f)(z3:TO≠d/\TO≠f)(z4:d≠f)
  (z5:a≠z/\a≠TO/\a≠d/\a≠f) (z6:b≠z/\b≠TO/\b≠d/\b≠f):
  Turn P w K (ϳx k pos) (Itz K a b) ϑB z (λi h=>IsZip h z TI TO ù/\IsPair h TI (Å d) (Å f)/\(∃u v,IsPair h TO u v)/\h.IsListIter d a i/\h.IsListIter f b i):=by
 let D:ZipApart z TI TO d f a b:=⟨K8g Z.1,K8g Z.2.1,K8g Z.2.2.1,K8g Z.2.2.2,C.1,C.2.1,C.2.2,z3.1,z3.2,z4,z5.1,z5.2.1,z5.2.2.1,z5.2.2.2,z6.1,z6.2.1,z6.2.2.1,z6.2.2.2⟩;let m:∀c,c∈ϑB->c=z\/c=TI\/c=TO\/c=d\/c=f:=ϴp (Ŀ hc)
 constructor
 .simp
 .intro i h g c hc
  obtain⟨j,t,⟨u,v,T⟩,⟨o1,e1,c1,d1⟩,o2,e2,c2,d2⟩:=g;rcases m c hc with rfl|rfl|rfl|rfl|rfl
  .exact(_,j,ϩ5)
  .exact(_,t,ϩ5)
  .exact(_,T,ϩ5)
  .exact(o1,e1,ϗr d1)
  show(o2,e2,ϗr d2)
 .intro i h h' g J
  obtain⟨j,t,⟨u,v,T⟩,n,B⟩:=g;show(J z Ø _ j,J TI Ø _ t,(u,v,J TO Ø _ T),n.at λo e=>J d Ø o e,B.at λo e=>J f Ø o e)
 .intro X hP hw hK hc i N s σ H E I O g hg
  subst hP hw hK;let(xs,x,ys,y,U,hx,hr,hy):=hg;obtain⟨j,t,⟨u,v,T⟩,n,B⟩:=g;let(its,rv,p,_):=I.list U;let(G,r,p2,_):=ϸP hr;let(V,hux,rux):=rv.get hx;let(Y,huy,ruy):=r.get hy;apply wpAny_pyNext_zip_item D j t T n B p.isList p2.isList (x:=V) (y:=Y) (Ŀ hux) (Ŀ huy) λh3 a1 a2 a3 a4 a5 a6 R=>?_;let L:Ϯs z:=Zs j;apply(_,rfl,wpAny_letOwnedTupleGo_zip a1 λM hz4 S=>?_);let kk:∀c W,c∉ϑB->s.heap.get? c=some W->M.get? c=some W:=λc W hc q=>by
   let n1:c≠z:=ϺB;let n2:c≠TO:=ϺB;let n3:c≠d:=ϺB;let n4:c≠f:=ϺB;show Ę (S.2 c n1)<|R c W n1 n2 n3 n4 q
  let hT4:IsPair M s.heap.objs.size V Y:=Ę (ϧ9<|Zcq L) a5;let F:IsPair M TI (Å d) (Å f):=Ę (ϧ9<|K8g Z.1)<|R _ _ (K8g Z.1) C.1 C.2.1 C.2.2 t;apply(Å s.heap.objs.size,ϷX<|č [x,y],wW (s:=s) (h':=M) (t':=s.toks) I O kk ß ?_,rfl,(_,x,y,I.fresh,rfl,rfl,λzs l=>Ù (I.list_inj l U) hx,λzs l=>Ù (I.list_inj l hr) hy),
   (hz4,F,(V,Y,Ę (ϧ9<|K8g Z.2.1) a2),a3.at λo e=>Ę (ϧ9<|K8g Z.2.2.1) e,a4.at λo e=>Ę (ϧ9<|K8g Z.2.2.2) e),ϲk)
  .exact(Ϥy (Ĕ 2),[V,Y],Ĉ rux<|Ĉ ruy Ā,_,hT4,rfl,_,rfl)
  let clt:ϙ3:=by
   let(o1,e1,_):=n;let(o2,e2,_):=B;rcases m c hc with rfl|rfl|rfl|rfl|rfl
   .exact L
   .exact Zs t
   .exact Zs T
   .exact Zs e1
   show Zs e2
  rw[ϩr clt];show(O c hc).1
 .intro X hP hw hK hc i N s σ H E I O g hg
  subst hP hw hK;let(xs,ys,U,hr,hx):=hg;obtain⟨j,t,⟨u,v,T⟩,n,B⟩:=g;let(its,rv,p,_):=I.list U;let(G,r,p2,_):=ϸP hr;let l1:=rv.length;let l2:=r.length;apply wpAny_pyNext_zip_end ϱW D j t T n B p.isList p2.isList Ϲj λh3 R=>⟨rfl,ϐt O (λc W hc q=>R c W ϺB ϺB ϺB ϺB q)⟩
 ext A i s Q E g h;show wpAny_pyIter_zip g.1 h
theorem neA(h:a≠b):@Ne Ix a b:=h
def Vw(K:Ch)(ta:TA):TI:=λc H R=>ta c H λs h=>∃a b,s=[Å a,Å b]/\ϏZ/\(∃y,Zv K h b y)/\R (Itz K a b) h
theorem Ti{p pos tpos:Pos}(hg:Gl X "zip")(M:X.mg "zip"=none)(D:ϰI ϴ4 ta)(F:Û (à ϴ4=ϧA Υ ϵl))(f:Û (à [b]=ϸI ϵl)):
  PI X (ϳx k tpos) (ϳo "zip" ϴ4) (Vw X.K ta):=by
 ext i s m H R I h;apply Call_ (ϧH GO<|ϚO<|by rw[f];rfl);let(vs,g,d,O,N):=zzz;obtain⟨l,L,e,⟨xs,Q⟩,⟨ys,hr⟩,q⟩:=N;subst e;let(u,v,rfl,U,r):=Vals.two O;cases U;cases r;let(T,rv,j,Y):=d.list Q;let(t,V,P,Z):=d.list hr;let G:ϏN l S.heap.objs.size:=(let⟨o,e,_⟩:=j.isList;ϵP);let J:ϏN L S.heap.objs.size:=(let⟨o,e,_⟩:=P.isList;ϵP);apply call_zip_2 j.isList P.isList λB A w x y z W K=>?_;apply wpAny_pyIter_zip A ?_;let n:ų i m g {S with heap:=B}:=d.kept (t':=S.toks) K
 apply(ϲf 4,[ϲf 4,ϲf 2,ϲf 3,S.heap.objs.size,ϲf 1],_,Itz X.K l L,g,rfl,n,
  KQ l L (ϲf 4) (ϲf 2) (ϲf 3) S.heap.objs.size (ϲf 1) (ϲr (neA Á) (neA Á) (neA Á)) ⟨neA Á,neA Á,neA Á⟩ ⟨neA Á,neA Á⟩ (neA Á) (ϲr (neA Á) (neA Á) (neA Á)) (ϲr (neA Á) (neA Á) (neA Á)),(A,w,(_,_,x),y,z),ϲk,q)
 let C:ϙ4 S.heap.objs.size c:=by
  let E:ϫw (ϲf 4)\/ϫw (ϲf 2)\/ϫw (ϲf 3)\/ϫw S.heap.objs.size\/ϫw (ϲf 1):=Ŀ hc
  lia
 show d.fpOk C<|d.Y1.fresh C
mutual
inductive Rep(K:Ch)(H:Hp):V->Ô Go
 |Y4:Ğ H .Y4 ù
 |bl (b:Bool):Ğ H ϰ0 (í b)
 |int (i:Int):Ğ H (Ä i) (Ä i)
 |str (x:Str):Ğ H (Æ x) (Æ x)
 |lst {a:Ix} {xs:À V} {ds:À Go}:ϲp xs->ϴf xs ds->Ğ H (Å a) (Ö ds)
 |tup {a:Ix} {xs:À V} {ds:À Go}:ϥx a xs->ϴf xs ds->Ğ H (Å a) (ä ds)
inductive D1(K:Ch)(H:Hp):À V->Ô (À Go)
 |nil:ϴf [] []
 |cons {v:V} {vs:À V} {d:Go} {ds:À Go}:Ğ H v d->ϴf vs ds->ϴf ϫS (d::ds)
end
theorem D1.reads(I:ą)(h:D1 X.K H vs ds):∀u,İ vs u->∃as,ReadsAll s.heap u ds as:=Ϥl (ϻ3 (∀u,ϲ2->ϐg Reads)) (ϻ3 (∀u,Vals v u->ϐg ReadsAll)) (λ_ r=>ϐq ù) (λb _ r=>ϐq (í b)) (λi _ r=>by let(t,rfl):=r;show(_,Ä i t)) (λx _ r=>by let(t,rfl):=r;show(_,Æ x t)) (ϔx I.list p.isList<|Ö e c D ϙ7) (ϔx I.tuple (show s.heap.IsTuple _ T.toArray from p)<|ä e c D ϙ7) (λ_ r=>ϐq Ā) (λ_ _ i j _ r=>by cases r with|cons q t=>let(as,A):=i _ q;let(bs,B):=j _ t;show(_,Ĉ A B))
theorem Rep.reads(I:ą){u:Do}(h:Rep X.K H v d)(r:ϲ2):ϐg Reads:=by let(as,A):=D1.reads I (Ĉ h Ā) _<|Ĉ r Ā;cases A with|cons a _=>show(_,a)
def W5(K:Ch):R2:=ž (∃d e,Ğ H x d/\Ğ H y e/\ϭK/\ϙC/\Q (.bl<|ϑh e) H)
def WC(K:Ch):R2:=ž (∃d e,Ğ H x d/\Ğ H y e/\ϭK/\ϙC/\Q (.bl<|! ϑh e) H)
theorem RS(U:ϲD 64):ϳr Eq (W5 X.K):=ϔc eq_dataH
theorem TY(U:ϲD 64):ϳr NotEq (WC X.K):=ϔc ne_dataH
theorem fX:bootBuiltins "isinstance"=some (ŋ "isinstance"):=ç
theorem GX(hc:Ź):ϻj (ŋ "max") (∃(a:Ix)(R:À Int),x=[Å a]/\ϧJ ϳu/\ϤS/\∀M,M∈R->(∀z,Ϻd->z<=M)->Ο (Ä M)):=by
 ext p s A H x S Q I r h;let(a,R,rfl,c,L,q):=h;let(u,rfl,U):=Ϸb;cases U;let(i,g,P,w):=ύc;let hi:ϒP:=intsAre_of g;let(y,e):=hi.allInts.items;let n:R=y.toList.map Ļ:=ϕw
 let hsz:0<y.size:=ϕW
 let l:=P.isList;rw[e]at l;apply max_intList ϱW l hsz λv m tk d k=>?_;let(t,rfl):=intItems_at d;let(o,b):=ϛ1<|y.size-1;apply(Ä _,H,I.kept k,(t,rfl),q _ ?_ όB)
 .rw[n,numAt_eq]
  show getD_mem (ξ I4 K8t)
 rw[n]at Z;let(j,J,rfl):=mem_getD Z;rw[I4,K8t]at J;rw[<-numAt_eq];show b j Á
theorem Gu(hc:Ź):ϻj (ŋ "min") (∃(a:Ix)(R:À Int),x=[Å a]/\ϧJ ϳu/\ϤS/\∀M,M∈R->(∀z,Ϻd->M<=z)->Ο (Ä M)):=by
 ext p s A H x S Q I r h;let(a,R,rfl,c,L,q):=h;let(u,rfl,U):=Ϸb;cases U;let(i,g,P,w):=ύc;let hi:ϒP:=intsAre_of g;let(y,e):=hi.allInts.items;let n:R=y.toList.map Ļ:=ϕw
 let hsz:0<y.size:=ϕW
 let l:=P.isList;rw[e]at l;apply min_intList ϱW l hsz λv m tk d k=>?_;let(t,rfl):=intItems_at d;let(o,b):=ϛ2<|y.size-1;apply(Ä _,H,I.kept k,(t,rfl),q _ ?_ όB)
 .rw[n,numAt_eq]
  show getD_mem (ξ I4 K8t)
 rw[n]at Z;let(j,J,rfl):=mem_getD Z;rw[I4,K8t]at J;rw[<-numAt_eq];show b j Á
theorem Kk:ϵF "list.index" (λx b H Q=>∃(a:Ix)(R:À Int)(z:Int),x=Å a/\b=[Ä z]/\ϧJ ϳu/\Ϻd/\Ο (Ä Ϫe)):=by
 ext p s k H x b v U Q I f e h;let(a,R,z,rfl,rfl,c,M,q):=h;cases f;let(u,rfl,t,rfl):=Vals.one e;let(i,r,P,Z):=ύc;let hi:ϒP:=intsAre_of r;obtain⟨⟨cls,D,data,g⟩,o,hc,n,d⟩:=P.isList;simp only at hc d;subst hc d;let l:=hi.length;let J:ϓZ<R.length:=ϖy;let N:=rW;let B:Ĕ R.length:=ϙ6
 apply K86 PySem.F.slot_list_index ⟨_,o,rfl⟩ PySem.F.entry_list_index (PySem.F.args_list_index_2 _ _)
  (SeqAt.list_indexAt a i.toArray n D g (Ä z t) (isInt z) ϓZ (by simpa[l]using J) Á ?_ ?_) ⟨o,λy Y=>(eq_isInt z t hi y<|by simpa using Y).at _ _,ϵp (Ä _) ι⟩
 .change isInt z i[ϓZ]=true
  rw[isInt_at z hi _ Á J];simpa using Zdr J
 ext j S L;change isInt z i[j]=false;rw[ϛh Á];show ne_of_lt_idxOf L _
theorem Ky{K:Ch}{a:Ix}{xs:À V}(Pv:Nat->À V->Ô Hp)(b:Pv 0 [] (ϗ3<|Ă []))(l:∀i c H,i<=xs.length->Pv i c H->ϲp xs)
  (S:∀i x c H,xs[i]?=ö->Pv i c H->g x σ0 H (Ϝf<|Pv<|i+1)) (d:∀c H,Pv xs.length c H->Q H):SH ϓu g tc te σ0 D H1 Q:=by
 apply(λi m c H=>ϑm xs.length (Pv i c H),(xs.length,Ø,Ν,b),?_);ext i m c H ⟨rfl,hi,p⟩;let q:=l i c H hi p;by_cases L:i<xs.length
 .apply Ñ ⟨⟨xs,xs[i],q,by simp[L]⟩,Pv<|i+1,λA h P=>⟨xs.length-(i+1),Á,rfl,L,P⟩,λx h y=>?_⟩
  let(e,y):=y;subst e;show S i x c _ (y xs q) p
 let e:i=xs.length:=Á
 subst e;show È ⟨⟨xs,q,ß⟩,d c H p⟩
def PvM(h:Hp)(D:Ix)(r:Nat->À V)(i:Nat)(a:À V)(H:Hp):Prop:=a=r i/\aH h H/\H D=Â (Ă a)
theorem PvM.start(d:H1 D=none)(h:r 0=[]):PvM H1 D r 0 [] (ϗ3<|Ă []):=
 ⟨h.symm,ϷB (ϧY (aA<|aQ e d)),aX⟩
theorem PvM.yes{h H:Hp}{D:Ix}{r:Nat->À V}{i:Nat}{a:À V}{y:V}(d:h D=none)(p:PvM h D r i a H)(e:r (i+1)=r i++[y])(l:ϥo (Ã (r i))):
  H D=Â (Ă a)/\ϥo a.length/\PvM h D r (i+1) ϫO (Į D<|Ă ϫO):=
 ⟨p.2.2,ϤF p.1,ϩs p.1,λb u q=>Ù (aA<|ϳf d) (p.2.1 b u q),aX⟩
structure Def(K:Ch)(mg:ł)(x:Str)(st:No)(ps:À Str)(f:Ix)(fd:Gc):Prop where
 F:Fun K x x st f fd
 g:mg x=Â (Å f)
 b:ϧG K []
theorem aH.upd(e:ϳl H')(h:ϻu):ϳl (L2.upd H' a o):=λb u q=>Ù (aA<|ϳf h) (e b u q)
section
variable{X:Cx}
theorem xn(K:Ch)(h:Ϥc):ϸS (B_ K):=ϧb FY
def VN(K:Ch):À V->Hp->Ô VK:=Ϲ3 (ϭd (X=[Å p]) K (∀l,H l=none->Q (Å l) (Į l<|Ă y)))
theorem He(K:Ch)(h:Ϥc):ϴq (Ĳ "list") (VN K):=ϧb zM
theorem LY(K:Ch)(h:Ϥc)(a:õ l tl):Ϸo l (Cn K tl):=ϧb (FQ a)
def P6(K:Ch):À V->Hp->Ô VK:=Ϲ3 (∃(a:Ix)(R:À Int),X=[Å a]/\ϲp ϳu/\ϤS/\∀M,M∈R->(∀z,Ϻd->z<=M)->Ο (Ä M))
theorem qN(K:Ch)(h:Ϥc)(hc:Ź):ϴq (ŋ "max") (P6 K):=ϧb (GX hc)
def P7(K:Ch):À V->Hp->Ô VK:=Ϲ3 (∃(a:Ix)(R:À Int),X=[Å a]/\ϲp ϳu/\ϤS/\∀M,M∈R->(∀z,Ϻd->M<=z)->Ο (Ä M))
theorem uR(K:Ch)(h:Ϥc)(hc:Ź):ϴq (ŋ "min") (P7 K):=ϧb (Gu hc)
end
section
variable{κ:Type}[DecidableEq κ]
def nc(v:À ϻN)(k:κ):Ú V:=(v.find? λK=>Ë π).map Ī
def putK(s:À ϻN)(k:κ)(v:V):À ϻN:=
 Ì (Γ s.any (λK=>Ë π)) (ϳU (λK=>Ì π (K.1,v) K)) (s++[(k,v)])
theorem pA{p:ϻN}(e:ϵG):nc (p::r) k=Â p.2:=by simp[nc,K8p,e]
theorem pg{p:ϻN}(e:¬ϵG):nc (p::r) k=nc r k:=by simp[nc,K8p,e]
theorem A9(k:κ):∀v:À ϻN,(v.any λK=>Ë π)=ϷN (nc v k)
 |[]=>rfl
 |p::r=>by
  rw[K80];by_cases e:ϵG
  .simp only[pA e,Tl e,Bool.true_or,Zdq]
  .rw[pg e,Pi e,Bool.false_or];show A9 k r
theorem pD(s:À ϻN)(k:κ)(v:V):Ã ϒQ<=ϤK:=by
 delta putK;split
 .rw[I4];lia
 rw[S5,Zo,K8U];lia
theorem vt.isSome_eq(r:vt o u):o.isSome=u.isSome:=by
 cases o with
 |none=>cases u with|none=>rfl|some _=>show ϩR
 |some _=>cases u with|none=>show ϩR|some _=>rfl
theorem vt.getD(r:vt o u)(R:RelV d d'):RelV (o.getD d) (u.getD d'):=by
 cases o with
 |none=>cases u with|none=>show R|some _=>show ϩR
 |some _=>cases u with|none=>show ϩR|some _=>show r
theorem KV.val(r:Ϩg)(k:κ):vt Ϩc (ϫD vs):=by
 delta KV at r
 induction r with
 |nil=>show True.intro
 |@cons p q ps qs h t ih=>
  let(H,a):=h;by_cases e:ϵG
  .let E:Ϻe:=H.symm.trans e
   let b:ϫD ύD=Â q.2:=ϮL valueAt
   rw[pA e,b];show a
  let E:¬Ϻe:=λz=>e<|H.trans z;let b:ϫD ύD=ϫD qs:=ϮL valueAt
  rw[pg e,b];show ih
theorem KV.any(r:Ϩg)(k:κ):ϲn L1.any (λK=>Ë π) vs.any:=by
 delta KV at r
 induction r with|nil=>rfl|cons h t ih=>rw[K80,K80,ih,h.1]
theorem KV.repl(r:Ϩg)(k:κ)(Y:ϳ6):
  KV (Ϻi<|λK=>Ì π (K.1,y) K) (vs.map λK=>Ì π (K.1,u) K):=by
 delta KV at r⊢
 induction r with
 |nil=>show Ā
 |@cons p q ps qs h t ih=>
  rw[W1,W1];apply Ĉ ?_ ih;let(H,a):=h;by_cases e:ϵG
  .rw[ϳS,Os<|H.symm.trans e];show(H,Y)
  rw[ϰ4,P3 λz=>e<|H.trans z];show(H,a)
theorem KV.put(r:Ϩg)(k:κ)(Y:ϳ6):KV (ϧS y) (stored vs k u):=by
 delta putK stored;rw[r.any k];by_cases e:Γ vs.any (λK=>Ë π)
 .rw[ϳS,ϳS];show r.repl k Y
 rw[ϰ4,ϰ4];show Paired.snoc r ⟨rfl,Y⟩
theorem KV.length(r:Ϩg):L1.length=vs.length:=Paired.length r
end
theorem yX{k:Key}(r:RelV (kV k) u):(ύa).is k u=true:=by
 cases k with|inl i=>let(t,e):=(show ϏD from r);subst e;show Bo P w i t|inr x=>let(t,e):=(show∃t,u=ϑy from r);subst e;show BZ P w x t
theorem yR:∀{s:À Key}{u:À Do},İ (ϳU kV) u->ItemsAre ύa s u:=by
 intro x0
 induction x0 with
  |nil=>
   intro x38 r
   exact ϗf Ā
  |cons k s ih=>
   intro x39 r
   rw[W1]at r;cases r with|cons h t=>show Ĉ (yX h)<|ih t
abbrev KT(H:Hp):À (À Key×V)->Ô (À (À Key×Ix×Do)):=Paired λp q=>ϥv/\H Ϧa=Â (č<|Î p.1 kV)/\ό9 q.2.2
theorem KT.val(r:ϨE xs)(k:À Key):vt Ϩc (Î ϓA Ī):=by
 induction r with
 |nil=>show True.intro
 |@cons p q ps qs h t ih=>
  let(a,_,c):=h;by_cases e:ϵG
  .let E:Ϻe:=a.symm.trans e
   let b:atKey ύD k=Â q.2:=ϮL atKey
   rw[pA e,b];show c
  let E:¬Ϻe:=λz=>e<|a.trans z;let b:atKey ύD k=atKey qs k:=ϮL atKey
  rw[pg e,b];show ih
theorem KT.repl(r:ϨE xs)(k:À Key)(Y:ϳ6):
  KT H (Ϻi<|λK=>Ì π (K.1,y) K) (xs.map<|putAt k u):=by
 induction r with
 |nil=>show Ā
 |@cons p q ps qs h t ih=>
  rw[W1,W1];apply Ĉ ?_ ih;let(a,b,f):=h;delta putAt;by_cases e:ϵG
  .rw[ϳS,Os<|a.symm.trans e];show(a,b,Y)
  rw[ϰ4,P3 λz=>e<|a.trans z];show(a,b,f)
theorem KT.put(r:ϨE xs)(k:À Key)(B:H b=Â (č<|ϳj kV))(Y:ϳ6):
  KT H (ϧS y) (storedH xs k b u):=by
 let e:(L1.any λK=>Ë π)=ϷN ϓA:=by rw[A9,(r.val k).isSome_eq,Option.isSome_map]
 delta putK storedH;rw[e];by_cases q:ě (ϷN ϓA)
 .rw[Os q,Os q];show r.repl k Y
 rw[P3 q,P3 q];show Paired.snoc r ⟨rfl,B,Y⟩
theorem KT.keeps(r:ϨE xs)(l:∀b y,ϰq (H b) (Â (č y)) H'):KT H' L1 xs:=
 Paired.mapP r λ_ _ z=>ϖ3
section
variable{h:Op}
theorem PQ(ok:ϵ8)(e:Ϸq u):Ϲm u:=e.ok ok
theorem yE(ok:ϵ8)(e:Ϸq ϥc):Ĕ L1.length/\å ϺL/\ώw:=
 ń (Ϲm ϥc) (PQ ok e)
theorem PX(ok:ϵ8)(e:H a=Â ϥc):Ĕ L1.length/\å ϺL/\ώw:=yE ok<|È e
theorem iq(ok:ϵ8)(e:H a=Â (č<|ks.map kV)):(ϩ0).is h ks a:=by
 let(_,i,r,o,b,c,n,f):=(ń (Ϲm (č<|ks.map kV))<|ok a _ e)
 show(o,i.toArray,n,b,c,f,Ŀ (yR r))
theorem yU(ok:ϵ8)(e:Ϸq ϫx):Ĕ L1.length/\å ϺL/\
  ∃s,ϨE s/\h.DictOfH ϩ0 a s:=by
 let(z,y,s,r,o,S,E,b,c,f,d,g):=(ń (Ϲm ϫx)<|PQ ok e)
 apply(z,y,s,r,o,S,E,b,c,f,d,λx X=>?_,g);let all:∀{l:À (À Key×V)}{m:À (À Key×Ix×Do)},KT H l m->∀x∈m,(ϩ0).is h x.1 x.2.1:=by
  ext l m q
  induction q with
  |nil=>ext x X;show nomatch X
  |@cons p q ps qs hq t ih=>
   ext x X;rcases Z7.mp X with e|X
   .subst e
    show iq ok (ϰ9 hq.1 hq.2.1)
   show ih x X
 show all r x X
theorem Qs(ok:ϵ8)(e:H a=Â ϫx):Ĕ L1.length/\å ϺL/\
  ∃X,ϨE X/\h.DictOfH ϩ0 a X:=yU ok<|È e
end
def vx(H:Hp)(a:Ix)(y:V)(r:Ú V):Prop:=
 (∃v k,Ϸq (.dK v)/\y=kV k/\r=nc v k)\/∃v k b,Ϸq (.dT v)/\y=Å b/\H b=Â (č<|ϳj kV)/\r=nc v k
def W2(H:Hp)(a:Ix)(y v:V)(h:Hp):Prop:=
 (∃s k,H a=Â (.dK s)/\y=kV k/\ϥo s.length/\h=Į a (.dK ϒQ))\/
 ∃s k b,H a=Â (.dT s)/\y=Å b/\H b=Â (č<|ϳj kV)/\ϥo s.length/\h=Į a (.dT ϒQ)
theorem vx.k{k:Key}(e:H a=Â ϥc):vx H a (kV k) Ϩc:=È ⟨L1,k,È e,rfl,rfl⟩
section
variable{X:Cx}{s:Db}{o:Ú V}{A:Is}
theorem Inv.big(I:ą):Ϯs sysModules:=by let h:Ϯs mainGlobals:=(Ϗs).lt;show Nat.lt_trans Õ h
theorem GS(U:ϤB 1)(I:ą)(g:Ϩh ú)(r:ϳ6)(h:∀W S,Ĺ X H S->RelV v W->Q W S):
  ϲz ϰj A (getItem (Å a) u) Q E s:=by
 rcases g with⟨K,k,e,Y,l⟩|⟨K,k,b,e,Y,B,l⟩
 .subst Y
  let(z,d,V,rel,D):=ϫn;let(W,w,R):=ϕI (ϫD V);show ϛi<|h W _ ϻs R
 subst Y;cases(show u=ϪI from r);let(z,d,x,rel,D):=ϫo;let(W,w,R):=ϕI (Î (atKey x k) Ī);let(p,c,P):=Zb.mp w;apply wpAny_getItem_heap ϭn ϯu D c ?_;rw[P];show h W _ ϻs R
theorem Pg(U:ϤB 1)(I:ą)(g:Ϩh o)(r:ϳ6)(h:∀S,Ĺ X H S->Q (í<|!o.isSome) S):
  ϲz ϰj A (ϛ3<|Å a) Q E s:=by
 rcases g with⟨v,k,e,Y,l⟩|⟨v,k,b,e,Y,B,l⟩
 .subst Y
  let(z,d,V,rel,D):=ϫn;apply wpAny_notIn_of (yX r) d D.mapOf ?_;rw[<- (όC).isSome_eq,<-l];show h _ ϻs
 subst Y;cases(show u=ϪI from r);let(z,d,x,rel,D):=ϫo;apply wpAny_notIn_heap ϭn ϯu d D ?_;let q:=(όC).isSome_eq;rw[Option.isSome_map]at q;rw[<-q,<-l];show h _ ϻs
theorem vO(I:ą)(m:Mut (H a))(S:Ϗr h')(he:∃q,h'.get? a=Â q)(new:϶Z (Į a ob) h' a ob):
  Ĺ X (Į a ob) ((ϴu h' t')):=
 I.write (x:=a) (e:=a) m (È rfl) (λb q B z=>Ę (϶q B) z) he new
theorem Jk(z:Ĕ L1.length)(d:å ϺL)(rel:Ϩg)(D:h'.DictOf ύa a vs):
  Ϩ5 H' h' a ϥc:=⟨z,d,vs,rel,D⟩
theorem GK(U:ϤB 1)(I:ą)(g:W2 H a y v H')(n:ϳ6)(R:RelV v r)(h:∀o,Ĺ X H' o->ϵb o):
  ϲz ϰj A (setItem (Å a) u r) Q E s:=by
 rcases g with⟨K,k,e,Y,l,i⟩|⟨K,k,b,e,Y,B,l,i⟩
 .subst Y i
  let(z,j,V,rel,D):=PX I.Y1 e;let Z:Ĕ V.length:=ϰ9 rel.length z
  let L:Ĕ (Ã (putK K k v)):=þ (pD K k v)
  apply wpAny_setItem_pairs (hsz:=Z) (yX n) D λm d S=>h _ ?_;let he:∃q,m.get? a=Â q:=let⟨q,_,_,f,_⟩:=d;⟨q,f⟩;show vO I (ϵ1 True.intro) S he<|Jk L j (rel.put k R) d
 subst Y i;cases(show u=ϪI from n);let(z,j,G,rel,D):=Qs I.Y1 e;let Z:Ĕ G.length:=ϰ9 (Paired.length rel) z
 let L:Ĕ (Ã (putK K k v)):=þ (pD K k v)
 apply wpAny_setItem_heap (hsz:=Z) ϭn ϯu D λm d S=>h _ ?_;let(q,t,p,f,w,x,C,_,F):=d;apply vO I (ϵ1 True.intro) S ⟨q,f⟩ ⟨L,j,_,(rel.put k B R).keeps λc J W=>?_,q,t,p,f,w,x,C,F⟩;rw[aA<|QR W e ϶U];show W
end
def Io(i:On):Prop:=∀O I,subscripted i false O I=operate [O,I] (getItem O I)
theorem M4{pos:Pos}{T id:String}(l:typeLookup (Ĳ T) "__getitem__"=pure (Â<|ŋ id))(e:Io slice)(h:ϰi (eval value env) (λo a=>ϰi (eval slice env) (λi S=>S.TypeIs o T/\ϰi (getItem o i) Q E S) E a) E s):
  ϰi (eval (ŧ value slice pos) env) Q E s:=by
 apply Subscript_<|K8m h (λo a c=>K8m c (λi S H=>?_) ϯU) ϯU;let(t,H):=H;delta subscriptTail;apply Sc ?_;rw[getitemInPython_of_ne t.not_modules];apply Sc<|wpAny_specialOf t l ?_;let fin:ϰi (ϗu o i) (λr b=>ϰi (letTemporaryGo value o r >>=λ_=>pure r) Q E b) E S:=Ù (e o i) (wpAny_operating<|K8m H (λr b d=>Sc<|wpAny_letTemporaryGo<|Zr d) ϯU)
 first
  |show Zr<|Sc fin
  |show Sc<|Zr<|Sc fin
  |show Sc fin
theorem Bb(I:ą)(g:Ϩh o):ϥr (Å a) "dict":=by
 rcases g with⟨v,k,e,_,_⟩|⟨v,k,b,e,_,_,_⟩
 .let(_,_,V,_,D):=ϫn
  show D.typeIs
 let(_,_,x,_,D):=ϫo;show D.typeIs
def Qf(td ty:TE):TE:=λc H Q=>td c H λx h=>ty c h λy b=>∃a v,x=Å a/\vx b a y ú/\Q v b
def J1(td ty t:TE):TS:=λD b H=>t b H λv c=>td b c λx d=>ty b d λy e=>∃a h,x=Å a/\W2 e a y v h/\D.nx b h
section
variable{X:Cx}{pos pos' tpos:Pos}
theorem zS(U:ϲD 1)(O:õ o td)(hi:õ i ty)(S:Io i):õ (ŧ o i pos) (Qf td ty):=by
 ext p s b H Q I h;apply ϛa<|Ϙx (λu l⟨x,c,e,r,q⟩=>Y6 (Ϭe l b c _ e q) λV w zzz=>?_);let(y,d,f,Y,a,v,ex,g,k):=zzz;subst ex;obtain rfl:u=Ϲq:=r;show(Bb f g,GS U f g Y λW z j R=>⟨v,d,j,R,k⟩)
theorem ER(U:ϲD 1)(O:õ o td)(hi:õ i ty)(V:õ value tv)(S:swapsWith value (Â<|ŧ o i pos') pos.line X.env=϶b):
  ϱU (ϨC [ŧ o i pos'] value pos) (J1 td ty tv):=by
 ext p s b H D I h;apply wpAny_Assign_Subscript (Y6 (V p s b H _ I h) λr t⟨v,c,f,R,q⟩=>Y6 (O p t b c _ f q) λu w⟨x,d,j,m,Q⟩=>Y6 (Ϭe w b d _ j Q) λA B zzz=>?_) S;let(y,z,k,n,a,e,ex,g,l):=zzz;subst ex;obtain rfl:u=Ϲq:=m;show GK U k g n R λs4 Y=>⟨b,e,Y,l⟩
end
theorem Cf(h:Op)(B:Ϙy):Ϩ5 H (h.push (ı "dict" ϤZ)) h.objs.size ϥl:=
 ⟨Ν,ϕ5,[],Ā,Heap.DictOf.new h⟩
theorem IY(h:Op)(B:Ϙy):Ϩ5 H (h.push (ı "dict" ϤZ)) h.objs.size ϫI:=
 ⟨Ν,ϕ5,[],Ā,_,#[],0,ϳ3,⟨rfl,rfl,rfl⟩,rfl,rfl,K8w⟩
def JF:TE:=λ_ H Q=>∀p,ϳ7->Q (Å p) (Į p ϥl)
section
variable{pos:Pos}
theorem Me:õ (ϫW [] []) JF:=λp s b H Q I h=>wpAny_Dict_empty ⟨Å s.heap.objs.size,_,ώB dK (t':=s.toks) ϭP ß<|Cf s.heap I.big,rfl,h _<|I.Y1.fresh ß⟩
end
def xT:À (TE×TE)->St->Hp->Ô (À (V×V)->Ô Hp)|[],_,H,Q=>Ο []|(tk,tv)::r,σ,H,Q=>tk σ H λx h=>tv σ h λy b=>xT r σ b λp c=>Q ((x,y)::p) c
abbrev VV:À (V×V)->Ô (À (Do×Do)):=Paired λp q=>RelV p.1 q.1/\ό9 q.2
def PPs(X:Cx)(pos:Pos)(keys:À (Ú On))(values:À On)(t:À (TE×TE)):Prop:=
 ∀(p:À ķ)(s:Db)(a:St)(H:Hp)(Q:À (V×V)->Ô Hp),Ś H s->xT t a H Q->
  ē (evalPairs<|pairTrees keys values X.env pos) (λv S=>∃P h,Ś h S/\VV P v/\Q P h) X.xe s
theorem Ae{pos:Pos}:ϧ0 [] [] []:=λp s a H Q I h=>pairTrees_nil_walk ⟨[],H,I,Ā,h⟩
theorem mL{pos:Pos}(K:õ k tk)(V:õ v tv)(hr:ϧ0 ks vs trs):
  ϧ0 (ϱP::ks) ϫS ((tk,tv)::trs):=λp s a H Q I h=>
 pairTrees_cons_walk (Y6 (K p s a H _ I h) λu S⟨x,b,i,R,q⟩=>Y6 (V p S a b _ i q) λW w⟨y,c,f,Y,e⟩=>Y6 (hr p w a c _ f e) λws z⟨P,d,g,rel,l⟩=>⟨(x,y)::P,d,g,Ĉ ⟨R,Y⟩ rel,l⟩)
def oX(k more:À ϳ5):À ϳ5:=more.foldl (λa K=>putK a K.1 K.2) k
theorem KV.merge:∀{more:À ϳ5}{R:À (Key×Do)}{k:À ϳ5}{s:À (Key×Do)},KV more R->KV k s->KV (oX k more) (merged s R):=by
 ext more R k s r;delta KV at r
 induction r generalizing k s with
 |nil=>ext q;show q
 |@cons p q ps qs h t ih=>
  ext a;let e:KV ϐp (stored s q.1 q.2):=by let:=a.put p.1 h.2;rw[<-h.1];show this
  show ih e
theorem rH:∀(more k:À ϳ5),Ã (oX k more)<=k.length+more.length
 |[],k=>ϱG (k.length<=k.length+0)
 |p::r,k=>by
  let h:=rH r ϐp;let H:=pD k p.1 p.2;change Ã (oX ϐp r)<=_;rw[Zo];lia
theorem xx:∀{k:À ϳ5}{ws:À (Do×Do)},VV (ϳj ϙD) ws->∃R,Carries ύa ws R/\KV k R
 |[],_,r=>ϗf ([],True.intro,Ā)
 |p::k,_,r=>by
  rw[W1]at r;cases r with|@cons a b as bs h t=>let(R,c,q):=xx (P:=P) (w:=w) t;let(d,B):=b;show((p.1,B)::R,(yX h.1,rfl,c),Ĉ (ϲx h.2) q)
def H_(t:À (TE×TE)):TE:=λa H Q=>∀p,ϳ7->xT t a (Į p ϥl) λs b=>b p=Â ϥl/\∃k:À ϳ5,s=ϳj ϙD/\k.length<=15/\Q (Å p) (upd b p<|.dK<|oX [] k)
theorem Em{pos:Pos}(h:ϧ0 keys values trs)(l:Γ keys.all (·.isSome))(L:ϗv)(g:keys≠[])(b:keys.length<=15):õ ϗw (H_ trs):=by
 ext p s u H Q I q;let n:=ϖz;let i:=ώB dK (h':=ϱY ((ı "dict" ϤZ))) (t':=s.toks) ϭP ß<|Cf s.heap I.big;apply wpAny_Dict_walk (knd:=ϺR) l L g b<|Y6 (h p _ u _ _ i<|q _ n) λws A zzz=>?_;let(y,x,f,rel,e,k,E,W,r):=zzz;subst E;let(t,c,K):=xx (P:=X.prog) (w:=X.w) rel;let(z,m,v,R,D):=PX f.Y1 e;cases R;apply(t,c,D,λh' d S=>⟨Å s.heap.objs.size,_,?_,rfl,r⟩);let Z:Ĕ (Ã (oX [] k)):=by let j:=rH k [];rw[K8U]at j;rw[K83];lia
 let he:∃q,h'.get? s.heap.objs.size=Â q:=let⟨q,_,_,hq,_⟩:=d;⟨q,hq⟩;show vO f (ϵ1 True.intro) S he<|Jk Z m (K.merge Ā) d
structure M2(X:Cx)(o:On)(m:Str)(apos:Pos)(e f:On)(cpos:Pos):Prop where
 base:attributeBase o m X.env (eval o X.env)=eval o X.env
 few:((Ϸ1<|à [e,f]).all ϵ5&&ύ2
  &&Ë (Ã ([e,f]:À On)+Ã ([]:À Keyword)+(Ì ((ϵL ([]:À Keyword))) 0 1)<30))=true
 line:ě Ϭ8
 trees:Ϸ1 (à [e,f])=ϧA ϮG (eval f X.env)
def IsD(H:Hp)(a:Ix):Prop:=(∃k,Ϸq Ϭf)\/∃k,Ϸq Ϭg
theorem RW(I:ą)(d:IsD H a):
  ϥr (Å a) "dict"/\(∀b,Ϲq=Å b->∃O,ņ=some O/\O.dict=none)/\å ϺL:=by
 rcases d with⟨k,e⟩|⟨k,e⟩
 .let(_,f,v,_,D):=ϫn
  apply(D.typeIs,λb q=>?_,f);cases q;let(O,_,_,h,c,_):=D;show(O,h,c.2.1)
 let(_,f,x,_,D):=ϫo;apply(D.typeIs,λb q=>?_,f);cases q;let(O,_,_,h,c,_):=D;show(O,h,c.2.1)
section
variable{X:Cx}{o:Ú V}{A:Is}
theorem Q8(U:ϤB 1)(I:ą)(g:Ϩh o)(f:ϳ6)(R:RelV d r)(h:∀W S,Ĺ X H S->RelV (o.getD d) W->Q W S):
  ϲz ϰj A (call (ŋ "dict.get") [Å a,u,r]) Q E s:=by
 rcases g with⟨v,k,e,Y,l⟩|⟨v,k,b,e,Y,B,l⟩
 .subst Y
  let(z,c,V,rel,D):=ϫn;apply ϔm (meets_dict_get_default ϺR a (yX f) c r) ⟨_,D.mapOf,ϩq ϻs ?_⟩;rw[l];show ę όC R
 subst Y;cases(show u=ϪI from f);let(z,c,x,rel,D):=ϫo;apply ϔm (meetsH_dict_get_default (tupleKind ϺR) a b c r) ⟨ϭn,k,x,ϯu,D,ϩq ϻs ?_⟩;rw[l];show ę όC R
end
def Iz(td ty t:TE):TE:=λb H Q=>td b H λx h=>∃a,x=Å a/\IsD h a/\ty b h λy d=>t b d λz c=>∃o,vx c a y o/\Q (o.getD z) c
section
variable{X:Cx}
theorem HI(U:ϲD 1)(O:õ o td)(he:õ e ty)(F:õ f tx)(m:M2 X o "get" apos e f cpos):õ (Χ (ϲl o "get" apos) [e,f] cpos) (Iz td ty tx):=by
 ext p s b H Q I h;apply ϚB<|Ϙx (λu S zzz=>?_);let(x,c,i,v,a,ex,d,q):=zzz;subst ex;obtain rfl:u=Ϲq:=v;let(t1,t2,_):=RW i d;apply(t1,t2,?_);rw[m.trees];apply ϔs<|Ϫa<|ϐU (he p S b c _ i q)<|λB A⟨y,j,l,w,r⟩=>ϐU (F p A b j _ l r)<|λV D⟨z,k,n,Z,C,g,t⟩=>Calls.spliced_nil ?_;show Q8 U n g w Z λW s4 Y R=>⟨_,k,Y,R,t⟩
end
end L2
namespace L3
open PySem L2 PySem.Spec PyProof.Rows
abbrev St:=L2.St
def RdK(K:Ch)(H:Hp)(a:Ix)(X:À V):Prop:=
 Ϸq (Ă X)\/∃(i:ϴM)(n:Nat),ϯV=Â ((ı "list" (ϳR i n)))/\Ĕ i.size/\İ X i.toList
theorem RdK.of{K:Ch}{H:Hp}{a:Ix}{X:À V}(h:H a=Â (Ă X)):ϸz a X:=È<|È h
theorem RdK.sq{K:Ch}{H:Hp}{a:Ix}{X:À V}(h:ϸz a X):ϲp X:=by
 rcases h with h|⟨i,n,k,Z,r⟩
 .exact È h
 show Ñ ⟨_,i,n,k,rfl,rfl,rfl,Z,r⟩
theorem RdK.same{K:Ch}{H b:Hp}(e:ϳl b){a:Ix}{X:À V}(h:ϸz a X):RdK K b a X:=by
 rcases h with (h|⟨o,h⟩)|h
 .exact È<|È ϹL
 .exact È<|Ñ ⟨o,ϹL⟩
 show Ñ h
theorem RdK.obj(I:ą)(h:RdK X.K H a xs):
  Ĕ xs.length/\∃(i:À Do)(n:Nat),ϨA i/\ϙ1/\ϧc=Â ((ı "list" Ϲd)):=by
 rcases h with h|⟨i,n,k,Z,r⟩
 .let(z,i,n,r,e):=h.ok I.Y1
  show(z,i,n,r,r.length,e)
 let e:=r.length;let E:=e;simp only[K8t]at E;show(Á,i.toList,n,r,e,Ŀ (I.kIn a _ k))
end L3
namespace L3
open PySem L2
inductive OD where
 |sh (d:Go)
 |ol (xs:À OD)
 |ot (xs:À OD)
 |od (L1:À ϰo)
 |odt (L1:À (À Key×Go))
def kD:Key->Go|.inl i=>Ä i|.inr x=>Æ x
def dD(k:À ϰo):Go:=.dict<|ϳj ϦP
def dtD(k:À (À Key×Go)):Go:=.dict<|(ù,ù)::ϳj (λp=>(ä<|Î p.1 kD,p.2))
mutual
def OD.er:OD->Go|.sh d=>d|.ol xs=>Ö ϓB|.ot xs=>ä ϓB|.od L1=>dD L1|.odt L1=>dtD L1
def OD.ers:À OD->À Go|[]=>[]|x::xs=>x.er::ϓB
end
theorem AY:∀X:À OD,OD.ers X=ϵm:=by
 ext y
 induction y with|nil=>show rfl|cons x X ih_=>rw[OD.ers,W1,ih_]
theorem aW(d:Go):(Ϩr).er=d:=ϱ8 OD.er
theorem vf(X:À OD):(ϳT X).er=Ö ϵm:=ϰB OD.er AY
theorem QQ(X:À OD):(OD.ot X).er=ä ϵm:=ϰB OD.er AY
theorem C9(k:À (À Key×Go)):(OD.odt k).er=dtD k:=ϱ8 OD.er
theorem rE(k:À ϰo):(OD.od k).er=dD k:=ϱ8 OD.er
theorem aG(s:À Go):Î (ϳU OD.sh) OD.er=s:=ϖI OD.er OD.sh (λd=>aW d)
inductive R(α:Type) where
 |ok (a:α)
 |ex (c:Str)
 |bad
def R.bind{α β:Type}(r:R α)(f:ύi):R β:=match r with
 |.ok a=>f a
 |.ex c=>γ
 |.bad=>Í
theorem cq(a:α)(f:ύi):ï (R.ok a) f=f a:=rfl
abbrev Env:=À<|Ú OD
abbrev Fe:=Env->ď
abbrev Fa:=Env->R (À OD)
abbrev Ft:=Env->϶y
abbrev Fn:=À Go->ď
inductive Out where
 |nx (ρ:Env)
 |rt (x:OD)
 |bk (ρ:Env)
 |ct (ρ:Env)
abbrev Fs:=Env->ϰ2
abbrev Fi:=Env->R (À Go)
abbrev Fg:=OD->Env->R Env
def H6:Nat:=10000000
def flat:ϳi Go|.none=>true|.bool _=>true|.int _=>true|.str _=>true|_=>false
def aa(i:Nat):Fe:=λa=>match ϴi with
 |some (some<|.sh d)=>.ok Ř
 |_=>Í
def eC(d:Go):Fe:=λ_=>.ok Ř
def F4(g:ζ)(a b:Fe):Fe:=λc=>ï (a c) λx=>ï (b c) λy=>ϧy
def Zg(g:Go->ď)(a:Fe):Fe:=λb=>Φ λx=>g x.er
def truth:Go->϶y|.bool b=>.ok b|_=>Í
def av(a:Fe):Ft:=λb=>Φ λx=>ϻe
def B3(a b:Ft):Ft:=λd=>ï (a d) λc=>Ì ϱ5 (b d) ϸk
def mI(a b:Ft):Ft:=λd=>ï (a d) λc=>Ì ϱ5 ϶e (b d)
def iK(a:Ft):Ft:=λb=>Φ λc=>.ok<|!c
def Ab(a b:Fe):Fe:=λd=>ï (a d) λx=>ï ϻe λc=>Ì ϱ5 (b d) (Ý (í false))
def Gx(a:Fe):Fe:=λb=>Φ λx=>ï ϻe λc=>Ý<|í<|!c
def eIf(t:Ft)(a b:Fe):Fe:=λd=>ï (t d) λc=>Ì ϱ5 (a d) (b d)
def ah:Fa:=λ_=>Ħ []
def ae(a:Fe)(r:Fa):Fa:=λb=>Φ λx=>ï (r b) λX=>.ok Ϲ7
def shs:À OD->Ú (À Go)
 |[]=>Â []
 |.sh d::r=>match shs r with
  |some ds=>Â<|d::ds
  |none=>none
 |_::_=>none
theorem shs1{d r}:shs (.sh d::r)=(match shs r with
  |some ds=>Â<|d::ds
  |none=>none):=rfl
def mkT(X:À OD):OD:=match shs X with
 |some ds=>.sh<|ä ds
 |none=>.ot X
def dZ(a:Fa):Fe:=λb=>Φ λX=>Ì ϧn (Ħ (mkT X)) Í
def Y0(a:Fe):Fe:=λb=>Φ λx=>Ý x.er
def bz(a:Fa):Fe:=λb=>Φ λX=>Ì ϧn (Ď X) Í
def ak(f:Fn)(a:Fa):Fe:=λb=>Φ λX=>f ϵm
def eB(g:À Go->ď)(a:Fa):Fe:=λb=>Φ λX=>g ϵm
def erase(a:Env):Env:=a.map λo=>o.map λx=>ë x.er
def Cv(a:Fe):Fe:=λb=>ï (a ύj) λx=>Ì ϐ1 (Ý x.er) Í
def E4(a:Fe):Fe:=λb=>ï (a ύj) λx=>match x with
 |.ol xs=>Ì ϩL (Ď ϭu) Í
 |_=>Í
def uu(a:Ft):Ft:=λb=>a ύj
abbrev Fo:=Env->R (Ú Int)
def bT:Fo:=λ_=>.ok none
def bc(a:Fe):Fo:=λb=>Φ λx=>match x.er with
 |.int i=>.ok Ϩv
 |_=>Í
def Z_(g:Go->ϱ3 (Ú Int) ď)(a:Fe)(l h:Fo):Fe:=λb=>Φ λx=>ï (l b) λi=>ï (h b) λj=>ϓC
def de(a:Fe):Fi:=λb=>Φ λx=>match x.er with
 |.list ds=>.ok ds
 |_=>Í
def oS(l:Int)(n:Nat):À Go:=Î ϰf (Ģ (int<|l+k))
def aD(i:Int):Bool:=@decide (-ϰA<=i/\i<ϰA) ϷZ
def iR1(a:Fe):Fi:=λb=>Φ λx=>match x.er with
 |.int j=>Ì Ϥ0 ϦF Í
 |_=>Í
def iR2(a b:Fe):Fi:=λc=>ï (a c) λx=>ï (b c) λy=>match x.er,y.er with
 |.int i,.int j=>Ì (ě ϤH) (Ħ (oS i (ā (j-i)))) Í
 |_,_=>Í
def fj(d:À Go):À Go:=d.zipIdx.map λp=>ϰx [Ä (ϰC p.2),p.1]
def qY(d e:À Go):À Go:=Î (d.zip e) λp=>ϰx [p.1,p.2]
def iEn(a:Fe):Fi:=λb=>Φ λx=>match x.er with
 |.list ds=>.ok<|fj ds
 |_=>Í
def iZp(a b:Fe):Fi:=λc=>ï (a c) λx=>ï (b c) λy=>match x.er,y.er with
 |.list ds,.list es=>.ok<|qY ds es
 |_,_=>Í
def Re(i:Nat):Fg:=λx a=>.ok<|Ϧ8 ö
abbrev Fgs:=À OD->Env->R Env
def cW:Fgs:=λX a=>match X with
 |[]=>.ok a
 |_=>Í
def az(g:Fg)(r:Fgs):Fgs:=λX b=>match X with
 |x::X=>ï (g x b) λa=>r X a
 |[]=>Í
def gTp(n:Nat)(r:Fgs):Fg:=λx a=>match x with
 |.ot xs=>Ì (xs.length=n) (r xs a) Í
 |.sh (.tuple ds)=>Ì ϯv (r ϸa a) Í
 |_=>Í
def An:Ú (Ú OD)->Ú OD|some (some<|.sh d)=>Â Ř|_=>none
def sl3(k:Nat)(outs:Ó)(a:Env):Env:=η none++ϲ7 (λi=>An ϴi)
def F9{α:Type}:R α->R α|.ok a=>.ok a|_=>Í
theorem F9k{A:Type}{a:A}:F9 (.ok a)=.ok a:=rfl
def bC(g:Fg)(t:Ft)(e:Fe)(a:Env):À Go->À OD->R (À OD)|[],acc=>.ok acc|d::ds,acc=>ï (F9<|g Ř a) λc=>ï (F9<|t c) λb=>Ì ϻX (ï (F9<|e c) λy=>Ì (acc.length<H6) (ϻS e a ds (acc++[y])) Í) (ϻS e a ds acc)
theorem bC0{g t e a acc}:ϻS e a [] acc=.ok acc:=rfl
theorem bC1{g t e a d ds acc}:ϻS e a (d::ds) acc=ï (F9<|g Ř a) λc=>ï (F9<|t c) λb=>Ì ϻX (ï (F9<|e c) λy=>Ì (acc.length<H6) (ϻS e a ds (acc++[y])) Í) (ϻS e a ds acc):=rfl
def bb(it:Fi)(g:Fg)(t:Ft)(e:Fe)(k:Nat)(outs:Ó):Fe:=λa=>ï (it a) λd=>ï (ϻS e (ϑ2 a) d []) λX=>Ď X
def cO:Ft:=λ_=>϶e
def Z9:Fs:=λa=>Ϲw
def ao(a b:Fs):Fs:=λc=>ï (a c) λo=>match o with
 |.nx ρ'=>b ρ'
 |o=>϶C
def JD(a:Fe)(g:Fg):Fs:=λc=>ï (a c) λx=>ï (g x c) λb=>.ok<|.nx b
def ay(i:Nat)(a:Fe):Fs:=λb=>Φ λx=>ϱu<|ϮH ö
def o_(a:Fe):Fs:=λb=>Φ λ_=>.ok<|.nx b
def bF(a:Fe):Fs:=λb=>Φ λx=>ϳv
def fk(i:Nat):Fs:=λa=>match ϴi with
 |some (some x)=>ϳv
 |_=>Í
def Z4(t:Ft)(a b:Fs):Fs:=λd=>ï (t d) λc=>Ì ϱ5 (a d) (b d)
def q_:Fs:=ϰs Í
def Pl(i:Nat)(a:Env):Env:=match ϴi with
 |some (some x)=>Ϧ8<|Â ϧW
 |_=>a
def pW(i:Nat)(a:Fs):Fs:=λb=>a<|Pl i b
def D3(i:Nat)(g:ζ)(a:Fe):Fs:=λb=>match ϸT with
 |some (some<|.sh d)=>Φ λy=>ï (g d y.er) λz=>ϱu<|ϮH<|Â z
 |_=>Í
def kE(i:Nat)(a:Fe):Fs:=λb=>match ϸT with
 |some (some<|.ol xs)=>Φ λy=>Ì Ϯ7 (ω b.set ol ϫA) Í
 |_=>Í
def H0(i:Nat)(a:Fe):Fs:=λb=>match ϸT with
 |some (some<|.ol xs)=>Φ λy=>match y with
  |.ol ys=>Ì ϩT (ω b.set ol ϫ0) Í
  |_=>Í
 |_=>Í
def Af(i:Nat)(k:Fe)(a:Fe):Fs:=λb=>match ϸT with
 |some (some<|.ol xs)=>Φ λy=>ï (k b) λz=>match z.er with
  |.int q=>match Ϲg q with
   |some j=>ω b.set ol<|ϸf y
   |none=>Í
  |_=>Í
 |_=>Í
def comps:OD->Ú (Bool×À OD)|.ol xs=>Â (true,xs)|.ot xs=>Â (false,xs)|_=>none
def wrap(l:Bool)(X:À OD):OD:=Ì (l=true) ϨR (.ot X)
def nN(i:Nat)(k:Fe)(a:Fe):Fs:=λb=>match ϸT with
 |some (some<|.ol xs)=>ï (k b) λz=>match z.er with
  |.int q=>match Ϲg q with
   |some j=>match Ϩ8 with
    |some (.ol ys)=>Φ λy=>if ys.length<H6 then ω b.set ol (ϸf<|.ol<|ys++[y])else Í
    |_=>Í
   |none=>Í
  |_=>Í
 |_=>Í
def aJ(g:Fg)(b:Fs):À Go->Env->ϰ2
 |[],ρ=>ϱu ρ
 |d::ds,ρ=>ï (g Ř ρ) λa=>ï (b a) λo=>match o with
  |.nx ρ2=>ϱv ds ρ2
  |.ct ρ2=>ϱv ds ρ2
  |.bk ρ2=>ϱu ρ2
  |.rt x=>ϳv
theorem aJc{g:Fg}{b:Fs}{d ds}{ρ:Env}:aJ g b (d::ds) ρ=ï (g Ř ρ) λa=>ï (b a) λo=>match o with
  |.nx ρ2=>ϱv ds ρ2
  |.ct ρ2=>ϱv ds ρ2
  |.bk ρ2=>ϱu ρ2
  |.rt x=>ϳv:=rfl
def dJ(it:Fi)(g:Fg)(b:Fs):Fs:=λa=>ï (it a) λd=>ϱv d a
def fg(t:Ft)(b:Fs):Nat->Env->ϰ2
 |0,_=>Í
 |n+1,ρ=>ï (t ρ) λc=>if ϱ5 then ï ϶D λo=>match o with
  |.nx ρ2=>ϴU n ρ2
  |.ct ρ2=>ϴU n ρ2
  |.bk ρ2=>ϱu ρ2
  |.rt x=>ϳv else ϱu ρ
theorem fgS{t:Ft}{b:Fs}{n}{ρ:Env}:fg t b (n+1) ρ=ï (t ρ) λc=>if ϱ5 then ï ϶D λo=>match o with
  |.nx ρ2=>ϴU n ρ2
  |.ct ρ2=>ϴU n ρ2
  |.bk ρ2=>ϱu ρ2
  |.rt x=>ϳv else ϱu ρ:=rfl
open Classical in
def gR(t:Ft)(b:Fs):Fs:=λa=>if h:∃n,ϴU n a≠Í then ϴU h.choose a else Í
def se(n:Nat)(s:À Go):Env:=(ϳU<|λd=>Â Ϩr)++ŗ (n-s.length) none
def aZ(np n:Nat)(b:Fs):Fn:=λd=>if d.length=np then ï (b<|se n d) λo=>match o with
 |.rt x=>ϴV
 |.nx _=>Ý ù
 |_=>Í else Í
mutual
inductive Rep(K:Ch)(H:Hp):V->Ô Go
 |Y4:Ğ H .Y4 ù
 |bl (b:Bool):Ğ H ϰ0 (í b)
 |int (i:Int):Ğ H (Ä i) (Ä i)
 |str (x:Str):Ğ H (Æ x) (Æ x)
 |lst {a:Ix} {xs:À V} {ds:À Go}:ϸz a xs->ϴf xs ds->Ğ H (Å a) (Ö ds)
 |tup {a:Ix} {xs:À V} {ds:À Go}:H a=Â (č xs)->ϴf xs ds->Ğ H (Å a) (ä ds)
 |dct {a:Ix} {L1:À ϳ5} {ds:À ϰo}:H a=Â ϥc->ϲn L1.map Ļ ds.map->ϴf (Ϻi Ī) (ϴ2 Ī)->Ğ H (Å a) (dD ds)
 |dtt {a:Ix} {L1:À (À Key×V)} {ds:À (À Key×Go)}:H a=Â ϫx->ϲn L1.map Ļ ds.map->ϴf (Ϻi Ī) (ϴ2 Ī)->Ğ H (Å a) (dtD ds)
inductive D1(K:Ch)(H:Hp):À V->Ô (À Go)
 |nil:ϴf [] []
 |cons {v:V} {vs:À V} {d:Go} {ds:À Go}:Ğ H v d->ϴf vs ds->ϴf ϫS (d::ds)
end
theorem D1.same(e:ϳl H')(h:ϴf vs ds):D1 K H' vs ds:=Ϥl (ϻ3 (Ğ H' v d)) (ϻ3 (D1 K H' v d)) .Y4 .bl Ä Æ (λh _=>Ă<|h.same e) (λh _=>č ϹL) (λh k _=>.dct ϹL k) (λh k _=>.dtt ϹL k) Ā (λ_ _=>Ĉ)
theorem Rep.same(e:ϳl H')(h:Ğ H v d):Ğ H' v d:=ϐF (D1.same e (Ĉ h Ā))
mutual
inductive Own(K:Ch)(F H:Hp):V->OD->Ô (À Ix)
 |sh {v:V} {d:Go}:Ğ F v d->ϧ1 v Ř []
 |ol {a:Ix} {vs:À V} {xs:À OD} {f:À Ix}:H a=Â (Ă vs)->ϰU vs xs f->ϧ1 (Å a) ϶o (a::f)
 |ot {a:Ix} {vs:À V} {xs:À OD} {f:À Ix}:H a=Â (č vs)->ϰU vs xs f->ϧ1 (Å a) (.ot xs) (a::f)
 |od {a:Ix} {L1:À ϳ5} {ds:À ϰo}:H a=Â ϥc->ϲn L1.map Ļ ds.map->Ű (Ϻi Ī) (ϴ2 Ī)->ϧ1 (Å a) (.od ds) [a]
 |odt {a:Ix} {L1:À (À Key×V)} {ds:À (À Key×Go)}:H a=Â ϫx->ϲn L1.map Ļ ds.map->Ű (Ϻi Ī) (ϴ2 Ī)->ϧ1 (Å a) (ϱA ds) [a]
inductive Ps(K:Ch)(F H:Hp):À V->À OD->Ô (À Ix)
 |nil:ϰU [] [] []
 |cons {v:V} {x:OD} {f:À Ix} {vs:À V} {xs:À OD} {g:À Ix}:ϺO->ϰU vs xs g->ϰU ϫS ϫT ϥN
end
theorem Ps.mono(e:ϥy)(k:ϴ0 (∀o,H a=Ü->H' a=Ü))(h:ϰU v x f):Ps K F' H' v x f:=Ϥl (λv x f _=>(ϴ0<|∀o,H a=Ü->H' a=Ü)->Ϧf F' H' v x f) (λv x f _=>(ϴ0<|∀o,H a=Ü->H' a=Ü)->Ps K F' H' v x f) (λr _=>.sh όD) (λh _ i k=>.ol Ϻ4<|i (϶v (Ą m))) (λh _ i k=>.ot Ϻ4<|i (϶v (Ą m))) (λh q r k=>.od Ϻ4 q Ϫw) (λh q r k=>ϱA Ϻ4 q Ϫw) (ϰs Ā) (λ_ _ i j k=>Ĉ (i (϶v (ϰX m)))<|j (϶v (ũ m))) k
theorem Own.mono(e:ϥy)(k:ϴ0 (∀o,H a=Ü->H' a=Ü))(h:ϺO):Ϧf F' H' v x f:=by
 let t:=ϛb<|Ĉ h Ā;rw[List.append_nil]at t;cases t with|cons a b=>cases b;simpa using a
theorem Ps.dom(h:ϰU v x f):ϴ0 (∃o,H a=Ü):=Ϥl (λ_ _ f _=>ϴ0 (∃o,H a=Ü)) (λ_ _ f _=>ϴ0 (∃o,H a=Ü)) (λ_ _ m=>ϧL) (λh _ i a m=>Ϭw<|i a) (λh _ i a m=>Ϭw<|i a) (λh _ _ a m=>Ϭw Ø) (λh _ _ a m=>Ϭw Ø) ϰk (λ_ _ i j a m=>ϵU (i a)<|j a)
theorem Own.dom(h:ϺO)(a)(m:a∈f):∃o,H a=Ü:=Ps.dom (Ĉ h Ā) a ϵi
theorem Ps.Z2(e:ϥy)(k:ϴ0 (∀o,H a=Ü->F' a=Ü))(h:ϰU v x f):ϙc:=Ϥl (λv x f _=>(ϴ0<|∀o,H a=Ü->F' a=Ü)->Ğ F' v x.er) (λv x f _=>(ϴ0<|∀o,H a=Ü->F' a=Ü)->ϙc) (λr _=>Ù aW όD) (λh _ i k=>Ù OD.er (Ă (RdK.of Ϻ4)<|i (϶v (Ą m)))) (λh _ i k=>Ù OD.er (č Ϻ4<|i (϶v (Ą m)))) (λh q r k=>Ù OD.er (.dct Ϻ4 q όD)) (λh q r k=>Ù OD.er (.dtt Ϻ4 q όD)) (λ_=>Ù OD.ers Ā) (λ_ _ i j k=>Ù OD.ers (Ĉ (i (϶v (ϰX m)))<|j (϶v (ũ m)))) k
theorem Own.Z2(e:ϥy)(k:ϴ0 (∀o,H a=Ü->F' a=Ü))(h:ϺO):Ğ F' v x.er:=by
 let t:=ϛf<|Ĉ h Ā;rw[OD.ers]at t;cases t;assumption
theorem Ps.len(o:ϰU v x f):v.length=x.length:=by
 induction x generalizing v f with
 |nil=>cases o;rfl
 |cons a r ih=>
  cases o with|cons h t=>show Zh Ϸw<|ih t
theorem Ps.app(o:ϰU v x f)(q:ϰU w y g):ϰU (v++w) (x++y) ϥN:=by
 induction x generalizing v f with
 |nil=>cases o;show q
 |cons a r ih=>
  cases o with|cons h t=>rw[K92,K92,K9M];show Ĉ h<|ih t
theorem Ps.shs:∀{v:À V}{d:À Go},Ű v d->ϰU v (Ϻn OD.sh) []|_,_,.nil=>Ā|_,_,.cons h r=>Ĉ (f:=[]) (.sh h)<|Ps.shs r
theorem D1.len:∀{v:À V}{d:À Go},Ű v d->ϫ9 v.length|_,_,.nil=>rfl|_,_,.cons _ r=>by rw[Zo,Zo,D1.len r]
theorem D1.get:∀{v:À V}{s:À Go}{i:Nat}{d:Go},Ű v s->ϴ3=Ω->∃x,v[i]?=ö/\Ğ F x d
 |_,_,_,_,.nil,e=>ϧm
 |_,_,0,_,.cons h _,e=>Ϭ2 (_,rfl,h)
 |_,_,i+1,_,.cons _ r,e=>by
  let(x,H,a):=D1.get (i:=i) r ϵV;show(x,Ϸ4,a)
theorem D1.app:∀{v w:À V}{d e:À Go},Ű v d->Ű w e->Ű (v++w) (d++e)|_,_,_,_,.nil,q=>q|_,_,_,_,.cons h r,q=>Ĉ h<|D1.app r q
theorem D1.take:∀{v:À V}{d:À Go}(n:Nat),Ű v d->Ű (v.take n) (d.take n)
 |_,_,0,_=>ϱq K7s K7s Ā
 |_,_,_+1,.nil=>Ā
 |_,_,n+1,.cons h r=>Ĉ h<|D1.take n r
theorem D1.drop:∀{v:À V}{d:À Go}(n:Nat),Ű v d->Ű (v.drop n) (d.drop n)|_,_,0,r=>r|_,_,_+1,.nil=>Ā|_,_,n+1,.cons h r=>D1.drop n r
theorem D1.toInts:∀{v:À V}{R:À Int},Ű v ϰQ->v=ϳu|_,[],.nil=>rfl|_,n::R,.cons h r=>by cases h;rw[D1.toInts r];rfl
theorem D1.ofInts:∀(R:À Int),Ű ϳu ϰQ|[]=>Ā|n::R=>Ĉ (Ä n)<|D1.ofInts R
structure Ext(F H F' H':Hp):Prop where
 ff:ϥy
 hh:ϳl H'
 fh:aH F' H'
 nw:∀a,ϧM->ϙE
theorem bX(h:o=ö):o≠none:=by rw[h];show Option.some_ne_none x
def _root_.Internal.L2.aH.dom(e:ϳl H')(h:ϧM):ϲc (H' a):=by
 cases q:H a with|none=>show Đ q h|some o=>show bX<|e a o q
section
variable{F H F1 H1 F2 H2:Hp}
theorem Ext.refl(h:ϲu):Κ F H:=⟨ϰE,ϰE,h,Ϸc⟩
theorem Ext.trans(a:Κ F1 H1)(b:Ext F1 H1 F2 H2):Κ F2 H2:=⟨a.ff.trans b.ff,a.hh.trans b.hh,b.fh,λx h n=>ϛ8<|a.nw x h n⟩
theorem Ext.alloc(h:ϲu)(P:ϳ7):Κ F (Į p o):=
 ⟨ϰE,(aH.refl H).upd P,(aH.upd h<|h.free P),Ϸc⟩
theorem Ext.allocF(h:ϲu)(P:ϳ7):Κ (upd F p o) (Į p o):=by
 apply((aH.refl F).upd<|h.free P,(aH.refl H).upd P,λb u q=>?_,λa A n=>?_)
 .by_cases e:b=p
  .subst e
   rw[aX]at q⊢;show q
  rw[aA e]at q⊢;show h b u q
 let e:a≠p:=Ϲk (A P)
 rw[aA e];show n
end
structure Res(K:Ch)(F H:Hp)(v:V)(x:OD)(f:À Ix):Prop where
 own:ϺO
 nd:f.Nodup
 fr:϶a (F a)
structure ResL(K:Ch)(F H:Hp)(v:À V)(x:À OD)(f:À Ix):Prop where
 own:ϰU v x f
 nd:f.Nodup
 fr:϶a (F a)
open Classical in
def si(F H:Hp)(f:À Ix):Hp:=λa=>Ì (a∈f) (H a) (F a)
theorem sD(h:a∈f):ϸx f a=H a:=Ň si Ÿ
theorem kT(h:a∉f):ϸx f a=F a:=Ň si χ
section
variable{x:OD}{xs:À OD}
theorem kj(n:϶a (F a)):aH F (ϸx f):=λa o q=>by
 rw[kT]
 .exact q
 ext m;rw[n a m]at q;cases q
theorem Au(h:ϲu):aH (ϸx f) H:=λa o q=>by
 by_cases m:a∈f
 .rw[sD m]at q
  show q
 rw[kT m]at q;show h a o q
theorem Res.ext(r:ϯw x f)(e:Κ F' H'):Res K F' H' v x f:=
 ⟨όT e.ff Ϗv,r.nd,λa m=>ύU r.own.dom<|ϨF m⟩
theorem ResL.ext(r:ϥn K vs xs f)(e:Κ F' H'):ResL K F' H' vs xs f:=
 ⟨όT e.ff Ϗv,r.nd,λa m=>ύU r.own.dom<|ϨF m⟩
theorem EX(e:Κ F1 H1)(n:϶a (F1 a))(w:϶a (H a)):Κ ϒR H1:=
 ⟨e.ff.trans<|kj n,e.hh,Au e.fh,λa h z=>by
  let m:a∉f:=λm=>h ϥZ
  rw[kT m];show e.nw a h z⟩
theorem Res.Z2(e:Κ F1 H1)(r:Res K F1 H1 v x f)(w:϶a (H a)):∃G,Κ G H1/\Ğ G v x.er:=
 ⟨ϒR,EX e r.fr w,ϙ8 ((ϸJ (Ù (sD m) q)))⟩
theorem ResL.Z2(e:Κ F1 H1)(r:ResL K F1 H1 vs xs f)(w:϶a (H a)):∃G,Κ G H1/\D1 K G vs ϮU:=
 ⟨ϒR,EX e r.fr w,ϰ9 AY (ϙ8 ((ϸJ (Ù (sD m) q))))⟩
theorem Res.sh(r:Ğ F v d):ϯw Ř []:=⟨.sh r,K8w,ϰk⟩
theorem ResL.nil:ϥn K [] [] []:=⟨Ā,K8w,ϰk⟩
theorem ResL.cons{j:À Ix}(r:ϯw x j)(q:ϥn K vs xs f)(d:∀a∈j,a∉f):ϥn K ϫS ϫT (j++f):=
 ⟨Ĉ r.own q.own,ϨZ ⟨r.nd,q.nd,λa m b n e=>d a m (e▸n)⟩,λa m=>ϵU ϨF<|q.fr a⟩
end
inductive W8(K:Ch)(F H:Hp):St->Env->Ô (À Ix)
 |nil:ϰp [] [] []
 |no {v:Ú V} {σ:St} {ρ:Env} {g:À Ix}:ϰp σ ρ g->ϰp (v::σ) (none::ρ) g
 |yes {v:V} {x:OD} {f:À Ix} {σ:St} {ρ:Env} {g:À Ix}:ϺO->ϰp σ ρ g->ϰp (ú::σ) (ö::ρ) ϥN
theorem W8.mono(e:ϥy)(k:∀a∈g,∀o,H a=Ü->H' a=Ü)(S:ϰp σ ρ g):W8 K F' H' σ ρ g:=by
 induction S with|nil=>show Ā|no r ih=>show .no<|ih k|yes h r ih=>show .yes (h.mono e (϶v (ϰX m)))<|ih (϶v (ũ m))
theorem W8.dom(S:ϰp σ ρ g):∀a∈g,∃o,H a=Ü:=by
 induction S with
 |nil=>exactλa m=>ϧL
 |no r ih=>show ih
 |yes h r ih=>exactλa m=>ϵU (h.dom a)<|ih a
theorem W8.at(S:ϰp σ ρ g):∀{i:Nat}{x:OD},ϱw=Â ö->
  ∃v f g1 g2,û σ=Â ú/\ϺO/\g=ϤI/\∀(b c:Hp),aH F b->(∀a∈g1++g2,∀o,H a=Ü->c a=Ü)->∀V X d,Ϧf b c V X d->W8 K b c (Ϸ8<|Â V) (ϳZ<|Â X) ϐ2:=by
 induction S with
 |nil=>ext i x e;simp at e
 |no r ih=>
  ext i x e;cases i with
  |zero=>simp at e
  |succ i=>
   let(v,f,g1,g2,j,l,n,p):=ϧl ϵV;show(v,f,g1,g2,by simpa using j,l,n,ϭ0 (.no<|p b c s k V X d o))
 |@yes v0 x0 f0 σ0 ρ0 g0 h r ih=>
  ext i x e;cases i with
  |zero=>
   simp at e;subst e;show(_,f0,[],g0,rfl,h,rfl,ύ9)
  |succ i=>
   let(v,f,g1,g2,j,l,n,p):=ϧl ϵV;apply(v,f,f0++g1,g2,by simpa using j,l,by rw[n,K9M],ϭ0 ?_);rw[K9M];show ϔh<|p b c s ύ3 V X d o
theorem W8.put(S:ϰp σ ρ g):∀{i:Nat},i<ρ.length->
  ∃f g1 g2,g=ϤI/\∀(b c:Hp),aH F b->(∀a∈g1++g2,∀o,H a=Ü->c a=Ü)->∀V X d,Ϧf b c V X d->W8 K b c (Ϸ8<|Â V) (ϳZ<|Â X) ϐ2:=by
 induction S with
 |nil=>ext i e;simp at e
 |@no v0 σ0 ρ0 g0 r ih=>
  ext i e;cases i with
  |zero=>show([],[],g0,rfl,ύ9)
  |succ i=>
   let(f,g1,g2,j,l):=ϧl ϵV;show(f,g1,g2,j,ϭ0 (.no<|l b c s k V X d o))
 |@yes v0 x0 f0 σ0 ρ0 g0 h r ih=>
  ext i e;cases i with
  |zero=>show(f0,[],g0,rfl,ύ9)
  |succ i=>
   let(f,g1,g2,j,l):=ϧl ϵV;apply(f,f0++g1,g2,by rw[j,K9M],ϭ0 ?_);rw[K9M];show ϔh<|l b c s ύ3 V X d o
theorem W8.erase(e:ϲu)(S:ϰp σ ρ g):W8 K H H σ (L3.erase ρ) []:=by
 induction S with|nil=>show Ā|no r ih=>show Ϩ9|yes h r ih=>show .yes (f:=[]) (.sh<|h.Z2 e (ū q)) ih
theorem W8.len(S:ϰp σ ρ g):σ.length=ρ.length:=by
 induction S with|nil=>rfl|no r ih=>show Zh Ϸw ih|yes h r ih=>show Zh Ϸw ih
structure Stt(K:Ch)(n:Nat)(F H:Hp)(σ:St)(ρ:Env)(fp:À Ix):Prop where
 same:ϲu
 own:ϰp σ ρ fp
 nd:fp.Nodup
 fr:∀a∈fp,F a=none
 len:ρ.length=n
structure Stp(F H:Hp)(fp:À Ix)(F' H':Hp)(fp':À Ix):Prop where
 ff:ϥy
 keep:∀a o,H a=Ü->a∉fp->H' a=Ü
 new:∀a∈fp',a∈fp\/ϻu
 nw:∀a,ϧM->a∉fp->ϙE
section
variable{K:Ch}{n:Nat}{F H F' H' F1 H1 F2 H2:Hp}{σ:St}{ρ:Env}{fp fp1 fp2:À Ix}
theorem Stt.ext(s:ϲ0 K σ ρ fp)(e:Κ F' H'):ϨG F' H' σ ρ fp:=
 ⟨e.fh,s.own.mono e.ff Ϗv,s.nd,λa m=>ύU s.own.dom<|s.fr a m,s.len⟩
theorem Stt.erase(s:ϲ0 K σ ρ fp):ϨG H H σ (L3.erase ρ) []:=
 ⟨ϰE,s.own.erase s.same,K8w,ϰk,(by delta L3.erase;rw[I4];show s.len)⟩
theorem Stp.refl:ϰz fp F H fp:=⟨ϰE,Ϯ8,λ_ m=>È m,ϑ3⟩
theorem Ext.stp(e:Κ F' H'):ϰz fp F' H' fp:=(ϕh (λ_ m=>È m))
theorem Stp.out(s:ϰz fp F1 H1 fp1)(h:ϧM)(m:a∉fp):a∉fp1:=λq=>ϴt (ϓo q) m h
theorem Stp.trans(s:ϰz fp F1 H1 fp1)(t:Stp F1 H1 fp1 F2 H2 fp2):ϰz fp F2 H2 fp2 where
 ff:=s.ff.trans t.ff
 keep a o h m:=t.keep a o (ϧz h m)<|s.out (bX h) m
 new a m:=ϴt (t.new a m) ϓo λz=>by
  by_cases q:a∈fp
  .exact È q
  .apply Ñ ?_
   cases w:H a with|none=>rfl|some o=>rw[ϧz w q]at z;cases z
 nw a h m z:=t.nw a (by
  cases w:H a with|none=>show absurd w h|some o=>show bX<|ϧz w m) (s.out h m)<|s.nw a h m z
theorem Stt.set(s:ϲ0 K σ ρ fp)(hi:i<n)(r:ϯw x fx)(d:∀a∈fx,a∉fp):
  ∃p,ϲ0 K (Ϸ8 ú) (ϳZ ö) p/\∀a∈p,a∈fp\/a∈fx:=by
 let(f,g1,g2,e,k):=s.own.put (i:=i) (ϒz s.len);subst e;let nd:=s.nd;let sub:∀a∈ϲo fx,a∈ϤI\/a∈fx:=λa m=>by
  simp only[Y7]at m⊢;rcases m with m|m|m
  .exact È<|È m
  .exact Ñ m
  show È<|Ñ<|Ñ m
 apply(ϲo fx,(s.same,k F H ϰE (ū q) v x fx r.own,?_,λa m=>ϴt Ϩw (s.fr a) ϨF,Ù K8z s.len),sub);simp only[K9T,Y7]at nd d⊢;obtain⟨N,⟨h,c,j⟩,g⟩:=nd;apply(N,(r.nd,c,λa A b B e=>d a A<|Ñ<|Ñ (e▸B)),ϐL);rcases B with B|B
 .exact d b B<|È (e▸A)
 show g a A b (Ñ B) e
end
structure Mx where
 K:Ch
 mg:ł
 E:XK
def XOk(M:Mx)(c:Str)(H:Hp)(f:À Ix):Prop:=∃v,ϸL=ú/\∀D h,(∀a o,H a=Ü->a∉f->h a=Ü)->M.E v D h
def aq(M:Mx)(H:Hp)(f:À Ix){α:Type}(P:Ô α):Ô (R α)|.ok a=>P a|.ex c=>XOk M c H f|.bad=>False
theorem olk{H:Hp}{f:À Ix}{C:Type}{o:Option (Option OD)}{g:À OD->R C}{M:Mx}{P:C->Prop}(p:aq M H f P (match o with|some (some (.ol X))=>(g X:R C)|_=>Í)):∃X,o=some (some (.ol X))/\aq M H f P (g X):=by
 cases o with|none=>exact p.elim|some v=>cases v with|none=>exact p.elim|some w=>cases w with|ol X=>exact ⟨X,rfl,p⟩|_=>exact p.elim
theorem shk{H:Hp}{f:À Ix}{C:Type}{o:Option (Option OD)}{g:Go->R C}{M:Mx}{P:C->Prop}(p:aq M H f P (match o with|some (some (.sh X))=>(g X:R C)|_=>Í)):∃X,o=some (some (.sh X))/\aq M H f P (g X):=by
 cases o with|none=>exact p.elim|some v=>cases v with|none=>exact p.elim|some w=>cases w with|sh X=>exact ⟨X,rfl,p⟩|_=>exact p.elim
theorem odk{H:Hp}{f:À Ix}{C:Type}{o:Option (Option OD)}{g:À ϰo->R C}{M:Mx}{P:C->Prop}(p:aq M H f P (match o with|some (some (.od X))=>(g X:R C)|_=>Í)):∃X,o=some (some (.od X))/\aq M H f P (g X):=by
 cases o with|none=>exact p.elim|some v=>cases v with|none=>exact p.elim|some w=>cases w with|od X=>exact ⟨X,rfl,p⟩|_=>exact p.elim
theorem otk{H:Hp}{f:À Ix}{C:Type}{o:Option (Option OD)}{g:À (À Key×Go)->R C}{M:Mx}{P:C->Prop}(p:aq M H f P (match o with|some (some (.odt X))=>(g X:R C)|_=>Í)):∃X,o=some (some (.odt X))/\aq M H f P (g X):=by
 cases o with|none=>exact p.elim|some v=>cases v with|none=>exact p.elim|some w=>cases w with|odt X=>exact ⟨X,rfl,p⟩|_=>exact p.elim
theorem fkk{H:Hp}{f:À Ix}{C:Type}{o:Option (Option OD)}{g:OD->R C}{M:Mx}{P:C->Prop}(p:aq M H f P (match o with|some (some X)=>g X|_=>Í)):∃X,o=some (some X)/\aq M H f P (g X):=by
 cases o with|none=>exact p.elim|some v=>cases v with|none=>exact p.elim|some X=>exact ⟨X,rfl,p⟩
theorem iik{H:Hp}{f:À Ix}{C:Type}{D:À Go}{g:Int->Int->R C}{M:Mx}{P:C->Prop}(p:aq M H f P (match D with|[.int i,.int j]=>g i j|_=>Í)):∃i j,D=[.int i,.int j]/\aq M H f P (g i j):=by
 cases D with|nil=>exact p.elim|cons a D=>cases a with|int i=>(cases D with|nil=>exact p.elim|cons b D=>cases b with|int j=>(cases D with|nil=>exact ⟨i,j,rfl,p⟩|cons _ _=>exact p.elim)|_=>exact p.elim)|_=>exact p.elim
theorem vYk{H:Hp}{f:À Ix}{C:Type}{o q:Option (Option OD)}{g:À OD->À Go->R C}{e:R C}{M:Mx}{P:C->Prop}(p:aq M H f P (match o,q with|some (some (.ol X)),some (some (.sh (.list s)))=>g X s|_,_=>e)):(∃X s,o=some (some (.ol X))/\q=some (some (.sh (.list s)))/\aq M H f P (g X s))\/aq M H f P e:=by
 cases o with|none=>exact .inr p|some v=>cases v with|none=>exact .inr p|some w=>cases w with|ol X=>(cases q with|none=>exact .inr p|some v=>cases v with|none=>exact .inr p|some w=>cases w with|sh d=>(cases d with|list s=>exact .inl ⟨X,s,rfl,rfl,p⟩|_=>exact .inr p)|_=>exact .inr p)|_=>exact .inr p
def T0(M:Mx)(F H:Hp)(Q:VK)(x:OD):Prop:=∀v b h f,Κ b h->Res M.K b h v x f->(϶a<|H a)->Q v h
def OkL(M:Mx)(F H:Hp)(Q:À V->Ô Hp)(x:À OD):Prop:=∀v b h f,Κ b h->ResL M.K b h v x f->(϶a<|H a)->Q v h
def OkH(F H:Hp){α:Type}(Q:α->Ô Hp)(x:α):Prop:=∀b h,Κ b h->Q x h
section
variable{M:Mx}{α β:Type}{r:R α}
theorem aq.bind(h:ă fp P (ϵa g)):ă fp (λa=>ă fp P<|g a) r:=by
 cases r with|ok a=>show h|ex c=>show h|bad=>show h
theorem aq.mono(h:ă fp P r)(k:ϥW (P' a)):ă fp P' r:=by
 cases r with|ok a=>show k a h|ex c=>show h|bad=>show h
theorem XOk.stp(s:ϰz fp F1 H1 fp1)(h:XOk M c H fp):XOk M c H1 fp1:=
 let⟨cv,e,k⟩:=h
 ⟨cv,e,λD b q=>k D b λa o z m=>q a o (ϧz z m)<|s.out (bX z) m⟩
theorem aq.stp(s:ϰz fp F1 H1 fp1)(h:ă fp P r):aq M H1 fp1 P r:=by
 cases r with|ok a=>show h|ex c=>show XOk.stp s h|bad=>show h
theorem aq.ext(e:Κ F1 H1)(h:ă fp P r):aq M H1 fp P r:=h.stp e.stp
theorem aq.nofp(h:ă fp P r):ă [] P r:=by
 cases r with
 |ok a=>show h
 |ex c=>let(v,e,k):=h;show(v,e,λD b q=>k D b λa o z _=>q a o z Ø)
 |bad=>show h
theorem T0.pre(e:Κ F1 H1)(h:ŀ x):Ϯ9 x:=λv b c f E r w=>h v b c f (e.trans E) r λa m=>e.hh.free ϥZ
theorem OkH.pre(e:Κ F1 H1)(h:ϒS x):OkH F1 H1 Q x:=λb a E=>h b a<|e.trans E
theorem T0.val(s:ϲu)(h:ŀ Ř)(r:ϧ2 v d):Q v H:=h v F H [] ϮV (Res.sh r) ϰk
theorem T0.lst{Q:VK}{X:À OD}{v:À V}{f:À Ix}{p:Ix}(s:ϲu)(h:Ϯ9 ϨR)(e:ϑC)(r:ϥn M.K v X f)(w:϶a (H1 a))(P:ϳ7):Q (Å p) (Į p<|Ă v):=by
 let np:p∉f:=λm=>ϭx q (r.own.dom p m) P
 apply h (Å p) F _ (p::f) ϗx ⟨ϓb<|όT ϰE ((ϸJ ?_)),ϘT,ϻm⟩ ϻm
 .rw[aA<|ϳf P]
  show q
 .rcases Z7.mp m with rfl|m
  .exact s.free P
  show ϨF m
 rcases Z7.mp m with rfl|m
 .exact e.hh.free P
 show ϥZ
theorem T0.tup{Q:VK}{X:À OD}{v:À V}{f:À Ix}{p:Ix}(s:ϲu)(h:Ϯ9 (.ot X))(e:ϑC)(r:ϥn M.K v X f)(w:϶a (H1 a))(P:ϳ7):Q (Å p) (Į p<|č v):=by
 let np:p∉f:=λm=>ϭx q (r.own.dom p m) P
 apply h (Å p) F _ (p::f) ϗx ⟨.ot aX<|όT ϰE ((ϸJ ?_)),ϘT,ϻm⟩ ϻm
 .rw[aA<|ϳf P]
  show q
 .rcases Z7.mp m with rfl|m
  .exact s.free P
  show ϨF m
 rcases Z7.mp m with rfl|m
 .exact e.hh.free P
 show ϥZ
theorem T0.lstD(s:ϲu)(h:ŀ (.ol ϸa))(r:ύk vs ds)(P:ϳ7):Q (Å p) (Į p<|Ă vs):=
 T0.lst s h ϮV ⟨Ps.shs r,K8w,ϰk⟩ ϰk P
theorem T0.tupF(s:ϲu)(h:Ϯ9 (.sh<|ä ds))(e:ϑC)(r:ύk vs ds)(P:ϳ7):Q (Å p) (Į p<|č vs):=
 h (Å p) (upd F p<|č vs) _ [] (e.trans<|Ext.allocF s P) (Res.sh<|č aX<|r.same<|(aH.refl F).upd<|s.free P) ϰk
set_option tactic.hygienic true in
theorem Ps.of_shs(o:ϰU vs xs f)(e:L3.shs xs=some ds):f=[]/\Ű vs ds:=by
 induction xs generalizing vs f ds with
 |nil=>cases o;cases e;show(rfl,Ā)
 |cons a0 r0 ih0=>
 cases o with
 |cons h0 r=>
  let i:=λds=>ih0 (ds:=ds) r;cases h0 with
  |sh h=>
   rw[shs1]at e;split at e
   .rename_i s q
    cases e;let(rfl,k):=i _ q;show(rfl,Ĉ h k)
   cases e
  |ol _ _=>cases e
  |ot _ _=>cases e
  |od _ _ _=>cases e
  |odt _ _ _=>cases e
end
def tD(M:Mx)(n:Nat)(f:Fe):TE:=λb H Q=>∃F a p,ϲ0 M.K b a p/\ă p ŀ (f a)
def tA(M:Mx)(n:Nat)(f:Fa):TA:=λb H Q=>∃F a p,ϲ0 M.K b a p/\ă p (OkL M F H Q) (f a)
def tT(M:Mx)(n:Nat)(f:Ft):TT:=λb H Q=>∃F a p,ϲ0 M.K b a p/\ă p ϒS (f a)
def tO(M:Mx)(n:Nat)(f:Fo):TO:=λb H Q=>∃F a p,ϲ0 M.K b a p/\ă p ϒS (f a)
def Ok2(M:Mx)(r:R2)(g:ζ):Prop:=∀(x y:V)(d D:Go)(F H:Hp)(f:À Ix)(Q:VK),ϲu->ϧ2 x d->ϧ2 y D->ă f ŀ (g d D)->ϫk
def Ok1(M:Mx)(r:V->Hp->Ô VK)(g:Go->ď):Prop:=∀(x:V)(d:Go)(F H:Hp)(f:À Ix)(Q:VK),ϲu->ϧ2 x d->ă f ŀ (g d)->ϫX
def OkC(M:Mx)(r:À V->Hp->Ô VK)(g:À Go->ď):Prop:=∀(x:À V)(d:À Go)(F H:Hp)(f:À Ix)(Q:VK),ϲu->ύk x d->ă f ŀ (g d)->ϫX
def OkS(M:Mx)(r:V->ϱ3 (Ú Int) (Hp->Ô VK))(g:Go->ϱ3 (Ú Int) ď):Prop:=∀(x:V)(i j:Ú Int)(d:Go)(F H:Hp)(f:À Ix)(Q:VK),ϲu->ϧ2 x d->ă f ŀ (g d i j)->r x i j H Q
section
variable{M:Mx}{n:Nat}{σ:St}{H:Hp}{Q:VK}{QB:Bool->Ô Hp}{fa fb:Fe}{ta tb:Ft}
set_option tactic.hygienic true in
theorem VA(h:ć (aa i) σ H Q):ϸK σ H Q:=by
 let(F,j,P,S,p):=h;delta aa at p;replace p:=shk p;let(d,e,p):=p
 let(v,f,g1,g2,a,b,c,g):=ϤT;cases b with|sh r=>show(v,a,ϖ1 r)
theorem d_c(hr:∀K F,Ğ F v d)(h:ć (eC d) σ H Q):tC v σ H Q:=ϭy (ϖ1<|hr _ _)
theorem Gm(hg:δ r g)(h:ć Ϫx σ H Q):tOp r (ć fa) (ć fb) σ H Q:=by
 let(F,a,f,S,p):=h;apply(F,a,f,S,Ķ λx P v c i X e1 R w=>?_);let(G1,D,k):=ϵx w;apply(G1,a,f,϶s,ş (ϴB P D) λy py V F2 b Y e m W=>?_);let(G2,d,K):=m.Z2 e W;show ϚZ<|ş (py.ext ϹA) λz Z=>Z.pre ϹA
theorem Ya(hg:Ok1 M r g)(h:ć (Zg g fa) σ H Q):tUn r (ć fa) σ H Q:=by
 let(F,b,f,S,p):=h;apply(F,b,f,S,Ķ λx P v c a X e1 R w=>?_);let(G1,D,k):=ϵx w;show ϛF<|ş (P.ext D) Ϯz
theorem xw(k:Ğ F v d)(p:ă fp P (truth d)):∃b,v=ϰ0/\P b:=by
 cases d with
 |bool b=>cases k;show(b,rfl,p)
 |none=>show p.elim
 |int _=>show p.elim
 |str _=>show p.elim
 |list _=>show p.elim
 |tuple _=>show p.elim
 |dict _=>show p.elim
theorem Kx(h:ϳ8 (av fa) σ H QB):PU (ć fa) σ H QB:=by
 let(F,c,f,S,p):=h;apply(F,c,f,S,Ķ λx P v d a X e1 r w=>?_);let(G1,D,k):=ϳ9 w;let(b,rfl,q):=xw k P;show(b,rfl,q G1 a D)
theorem d_b(h:ϳ8 (av fa) σ H QB):tB (ć fa) σ H QB:=Kx h
theorem SQ(h:ϳ8 (B3 ta tb) σ H QB):Vq (ϳ8 ta) (ϳ8 tb) σ H QB:=by
 let(F,a,P,S,p):=h;apply(F,a,P,S,Ķ λc pc f d e1=>?_);cases c with|true=>rw[ė]at pc⊢;show(f,a,P,϶g,ϬQ)|false=>rw[ϲy]at pc⊢;show pc f d e1
theorem Wx(h:ϳ8 (mI ta tb) σ H QB):tOr (ϳ8 ta) (ϳ8 tb) σ H QB:=by
 let(F,a,P,S,p):=h;apply(F,a,P,S,Ķ λc pc f d e1=>?_);cases c with|true=>rw[ė]at pc⊢;show pc f d e1|false=>rw[ϲy]at pc⊢;show(f,a,P,϶g,ϬQ)
theorem T1(h:ϳ8 (iK ta) σ H QB):WQ (ϳ8 ta) σ H QB:=by let(F,b,P,S,p):=h;show(F,b,P,S,Ķ λc pc f a e1=>pc f a e1)
theorem WB(h:ć (Ab fa fb) σ H Q):PM (ć fa) (ć fb) σ H Q:=by
 let(F,a,f,S,p):=h;apply(F,a,f,S,Ķ Ϗa);let(G1,D,k):=ϳ9 w;let(b,rfl,q):=xw k<|ϥK P;apply(b,rfl,?_);cases b with|true=>rw[ė]at q⊢;show(G1,a,f,϶s,ş (q.ext D) Ϯz)|false=>rw[ϲy]at q⊢;show ϬI q ϴZ
theorem VD(h:ć (Gx fa) σ H Q):Qj (ć fa) σ H Q:=by
 let(F,a,f,S,p):=h;apply(F,a,f,S,Ķ Ϗa);let(G1,D,k):=ϳ9 w;let(b,rfl,q):=xw k<|ϥK P;show(b,rfl,ϬI q ϴZ)
theorem XM(h:ć (eIf ta fa fb) σ H Q):tIf (ϳ8 ta) (ć fa) (ć fb) σ H Q:=by
 let(F,a,f,S,p):=h;apply(F,a,f,S,Ķ λc pc d e e1=>?_);cases c with|true=>rw[ė]at pc⊢;show(d,a,f,϶g,ϬQ)|false=>rw[ϲy]at pc⊢;show(d,a,f,϶g,ϬQ)
theorem KN(h:ć (Y0 fa) σ H Q):ć fa σ H Q:=by
 let(F,a,f,S,p):=h;apply(F,a,f,S,Ķ (ϭ9 ?_));let(G1,D,k):=ϳ9 w;show ϬI P k
theorem B4(h:flat d=true)(r:Ğ F v d):Ğ G v d:=by
 cases r with
 |Y4=>show .Y4
 |bl b=>show ϰ0
 |int i=>show Ä i
 |str x=>show Æ x
 |lst _ _=>cases h
 |tup _ _=>cases h
 |dct _ _ _=>cases h
 |dtt _ _ _=>cases h
theorem Xe(h:ć (Cv fa) σ H Q):ć fa σ H Q:=by
 let(F,b,d,S,p):=h;apply(H,ύj,[],S.erase,ύB Ϸe ϗR);by_cases f:ϐ1
 .rw[Os f]at P
  let(G1,D,k):=ϳ9 w;show P v F a [] ⟨ϰE,D.hh,S.same.trans D.hh,Ϸc⟩ (Res.sh<|B4 f k) ϰk
 rw[P3 f]at P;show P.elim
theorem R4(h:ϳ8 (uu ta) σ H QB):ϳ8 ta σ H QB:=by
 let(F,a,f,S,p):=h;apply(H,erase a,[],S.erase,ύB (show ă f _ (ta<|erase a)from p) λb P d c e1=>?_);show P F c ⟨ϰE,e1.hh,ϙ9,Ϸc⟩
theorem SY(h:ϵr ah σ H QL):Co σ H QL:=ϭy (p [] F H [] ϐi ResL.nil ϰk)
theorem Mk(h:ϵr (ό6 al) σ H QL):t_ (ć fa) (ϵr al) σ H QL:=by
 let(F,b,P,S,p):=h;apply(F,b,P,S,Ķ λx e v c i X e1 r w=>?_);apply(c,b,P,϶g,ş ((aq.bind e).ext e1) λj s V F2 d f g R W=>?_);apply s (v::V) F2 d (X++f) (e1.trans g) (ResL.cons (r.ext g) R λa m q=>?_) ϻm
 .let(o,z):=r.own.dom a m
  rw[W a q]at z;cases z
 rcases Y7.mp m with m|m
 .exact ϥZ
 show e1.hh.free<|W a m
theorem hR(h:k<=H6):k<=sizeLine:=ό7 Õ
theorem uI(h:k<H6):k<sizeLine:=K9P h Õ
theorem Xp(h:ć (bz al) σ H Q):Vp (ϵr al) σ H Q:=by
 let(F,b,f,S,p):=h;apply(F,b,f,S,Ķ λX P s c d x e1 r w=>?_);by_cases l:ϧn
 .rw[Os l]at P
  show(Ù r.own.len (hR l),λa A=>T0.lst e1.fh P e1 r w A)
 rw[P3 l]at P;show P.elim
set_option tactic.hygienic true in
theorem Wu(h:ć (dZ al) σ H Q):Xl (ϵr al) σ H Q:=by
 let(F,b,f,S,p):=h;apply(F,b,f,S,Ķ λX P v c d x e1 r w=>?_);by_cases l:ϧn
 .rw[Os l]at P
  apply(Ù r.own.len (hR l),ϧ3);delta mkT at P;split at P
  .rename_i s q
   let(_,k):=Ps.of_shs r.own q;show T0.tupF e1.fh P e1 k A
  show T0.tup e1.fh P e1 r w A
 rw[P3 l]at P;show P.elim
def Y8(K:Ch)(m:ł)(f:Fn):Sp:=λs H Q E=>∃F d,ϲu/\Ű s d/\aq ϒT H [] (T0 ϒT F H Q) (f d)
theorem Ul(h:ć (ak f al) σ H Q):PZ (Y8 M.K M.mg f) [] M.E (ϵr al) σ H Q:=by
 let(F,a,P,S,p):=h;apply(F,a,P,S,Ķ λX x s c b d e1 r w=>?_);let(G1,D,k):=ϳ9 w;simp only[Zw];show(G1,ϵm,D.fh,k,ύB (x.ext D) Ϯz)
theorem WO(hg:ϩw r g)(h:ć ϓD σ H Q):tCB r (ϵr al) σ H Q:=by
 let(F,b,f,S,p):=h;apply(F,b,f,S,Ķ λX P s c a x e1 R w=>?_);let(G1,D,k):=ϵx w;show hg s ϵm G1 a f Q D.fh k<|ş (P.ext D) Ϯz
variable{lo hi:Fo}
theorem Nc(h:tO M n bT σ H QO):E8 σ H QO:=ϭy (p F H ϐi)
theorem OF(h:tO M n (bc fa) σ H QO):Qx (ć fa) σ H QO:=by
 let(F,b,f,S,p):=h;apply(F,b,f,S,Ķ ϗR);let(G1,D,k):=ϳ9 w;generalize x.er=d at P k;cases d with
 |int i=>cases k;show(i,rfl,P G1 a D)
 |none=>show P.elim
 |bool _=>show P.elim
 |str _=>show P.elim
 |list _=>show P.elim
 |tuple _=>show P.elim
 |dict _=>show P.elim
theorem Yu(hg:OkS M r g)(h:ć (Z_ g fa lo hi) σ H Q):tSl r (ć fa) (tO M n lo) (tO M n hi) σ H Q:=by
 let(F,a,f,S,p):=h;apply(F,a,f,S,Ķ λx X v d l o e1 R w=>?_);let(G1,D,k):=ϵx w;apply(G1,a,f,϶s,ş (ϴB X D) λi pi F2 m E=>?_);apply(F2,a,f,(϶s).ext E,ş (ϴB pi<|D.trans E) λj P b c G=>?_);let e:=Ę (D.trans E) G;show ϚT<|ş (P.ext e) λz Z=>Z.pre e
end
def eK(M:Mx)(n:Nat)(F H:Hp)(f:À Ix)(D:Ends):Ô Out|.nx ρ=>∀a b h p,ϻn b h a ρ p->ϰz f b h p->Ϩ6 h|.bk ρ=>∀a b h p,ϻn b h a ρ p->ϰz f b h p->D.bk a h|.ct ρ=>∀a b h p,ϻn b h a ρ p->ϰz f b h p->D.ct a h|.rt x=>∀v b h X,aH b h->Res M.K b h v x X->ϰz f b h X->D.rt v h
def tS(M:Mx)(n:Nat)(f:Fs):TS:=λD b H=>∃F a p,ϲ0 M.K b a p/\ă p (ϵ2 p D) (f a)
def OkG(M:Mx)(n:Nat)(is:Ó)(F H:Hp)(f:À Ix)(d:St)(Q:St->Ô Hp)(c:Env):Prop:=
 ∀a b h p,ϻn b h a c p->ϰz f b h p->(∀j,j∉is->a[j]?=d[j]?)->Q a h
def tG(M:Mx)(n:Nat)(is:Ó)(f:Fg):TG:=λv c H Q=>∃F b p x X,ϲ0 M.K c b p/\Res M.K F H v x X/\(∀a∈X,a∉p)/\ă (p++X) (Ϛa (p++X) c Q) (f x b)
def tGs(M:Mx)(n:Nat)(is:Ó)(f:Fgs):TGs:=λs c H Q=>∃F b p X x,ϲ0 M.K c b p/\ϥn M.K s X x/\(∀a∈x,a∉p)/\ă (p++x) (Ϛa (p++x) c Q) (f X b)
section
variable{M:Mx}
theorem eK.stp(s:ϰz fp F1 H1 fp1)(h:ϵ2 fp D o):Ϩi F1 H1 fp1 D o:=by
 cases o with|nx ρ=>show ώp|bk ρ=>show ώp|ct ρ=>show ώp|rt x=>exactλv f e fx a b c=>h v f e fx a b ϓi
theorem PostS.stp(s:ϰz fp F1 H1 fp1)(h:ă fp (ϵ2 fp D) r):aq M H1 fp1 (Ϩi F1 H1 fp1 D) r:=ş (h.stp s) λo j=>j.stp s
theorem Ext.stpN(e:Κ F1 H1)(w:∀a∈fx,ϻu):ϰz fp F1 H1 (fp++fx):=
 (ϕh (λa m=>ϵU È (λm=>Ñ ϥZ)))
theorem Stp.sub(s:ϰz fp F1 H1 fp1)(h:∀a∈fp2,a∈fp1):ϰz fp F1 H1 fp2:=⟨s.ff,s.keep,λa m=>ϓo<|h a m,s.nw⟩
theorem Sv(h:ϱn Z9):PC D σ H:=ϭy (p σ F H f S Stp.refl)
theorem Wt(h:ϱn (ao f g)):VJ (ϻy f) (ϻy g) D σ H:=by
 let(F,a,c,S,p):=h;apply(F,a,c,S,Ķ ϧN);cases o with|nx ρ1=>show λd b e P s T=>⟨b,ρ1,P,s,ϒU po⟩|bk a=>show po|ct a=>show po|rt x=>show po
theorem Vv(h:ϱn q_):JK D σ H:=by let(F,a,f,S,p):=h;show p
theorem X4(h:ϱn (Z4 t f g)):V5 (ϳ8 t) (ϻy f) (ϻy g) D σ H:=by
 let(F,a,P,S,p):=h;apply(F,a,P,S,Ķ λc pc b d e1=>?_);cases c with|true=>rw[ė]at pc⊢;show(b,a,P,϶g,ϐu pc)|false=>rw[ϲy]at pc⊢;show(b,a,P,϶g,ϐu pc)
theorem Rj(h:ϱn (o_ a)):xK (ć a) D σ H:=by let(F,d,f,S,p):=h;show(F,d,f,S,Ķ (ϭ9 (P σ c b f ϶g e1.stp)))
theorem Xv(h:ϱn (bF a)):TQ (ć a) D σ H:=by let(F,d,f,S,p):=h;show(F,d,f,S,Ķ (ϭ9 (P v c b X e1.fh r<|(e1.stpN w).sub λa m=>ũ m)))
set_option tactic.hygienic true in
theorem Uc(h:ϱn (fk i)):TQ ϸK D σ H:=by
 let(F,g,P,S,p):=h;delta fk at p;replace p:=fkk p;let(x,e,p):=p
 let(v,f,g1,g2,b,c,rfl,d):=ϤT;let sub:ϴ0 (a∈ϤI):=λa m=>ũ<|ϰX m;apply(v,b,ϚV<|Stp.refl.sub sub);let nd:=S.nd;simp only[K9T]at nd;show nd.2.1.1
theorem PH(h:ϱn (JD a g)):Dv (ć a) (ϪX g) D σ H:=by
 let(F,d,fp,S,p):=h;apply(F,d,fp,S,Ķ λx P v i t X e1 r w=>?_);let T:=e1.stpN (fp:=fp) w;apply(i,d,fp,x,X,϶g,r,λa m q=>?_,ş ((ϥK P).stp T) λl b c e j f s k _=>b c e j f s<|T.trans k);let(o,z):=S.own.dom a q;rw[ϥZ]at z;cases z
theorem IB(hi:i<n)(h:tG M n [i] (Re i) v σ H Q):ϩp v σ H Q:=by
 let(F,b,P,x,X,S,r,d,p):=h;let(f,s,sub):=S.set hi r d;apply p _ F H f s ⟨ϰE,Ϯ8,λa m=>È<|Y7.mpr Ϩw,ϑ3⟩ Ϥ1;let e:i≠j:=Ϲk (J Ø)
 rw[K9E e]
theorem WU(h:ϫy [] cW vs σ H Q):Xd vs σ H Q:=by
 let(F,c,f,X,b,S,r,d,p):=h;cases X with
 |nil=>
  cases r.own with|nil=>show(rfl,p σ F H f S (Stp.refl.sub λa m=>ϰX m) ϱb)
 |cons x X=>show p.elim
theorem Sr(h:ϫy (is++js) (az g gs) vs σ H Q):P5 (ϪX g) (ϫy js gs) vs σ H Q:=by
 let(F,C,b,X,fx,S,r,d,p):=h;cases X with
 |nil=>show p.elim
 |cons x X=>
  let(V,U,R):=r;cases V with
  |@cons v _ f vs _ g' h1 h2=>
   let nd:=U;simp only[K9T]at nd;apply(v,vs,rfl,F,C,b,x,f,S,(h1,nd.1,λa m=>R a<|ϰX m),λa m=>d a<|ϰX m,?_);let O:ă ϑp _ (ï (g x C) λc=>gs X c):=p;let s0:ϰz ϑp F H (b++f):=Stp.refl.sub λa m=>by
    simp only[Y7]at m⊢;rcases m with m|m
    .exact È m
    show Ñ<|È m
   apply ş ((aq.bind O).stp s0) λl T Z u y P L s t1=>?_;let G:∀a∈g',a∉b++f:=λa m q=>by
    rcases Y7.mp q with q|q
    .exact d a (ũ m) q
    show nd.2.2 a q a m rfl
   let D:∀a∈g',ϧM:=λa m=>let⟨_,q⟩:=h2.dom a m;bX q
   let N:∀a∈g',∀o,H a=Ü->y a=Ü:=ϸJ (ϧz q<|G a m);let out:∀a∈g',a∉P:=λa m=>s.out (D a m)<|G a m
   let B:ϰz ϑp u y (P++g'):=⟨s.ff,λa o q m=>ϧz q (λz=>m ϔP),λa m=>by
    rcases Y7.mp m with m|m
    .rcases s.new a m with z|z
     .exact È ϔP
     show Ñ z
    show È ϸh,λa q m z=>s.nw a q (λw=>m (by simp only[Y7]at w⊢;rcases w with w|w<;>simp[w])) z⟩
   apply(u,l,P,X,g',L,(h2.mono s.ff N,nd.2.1,λa m=>ϛP<|R a<|ũ m),out,ş (T.stp B) λc k t E I e K W Y=>k t E I e K (B.trans W) λj A=>?_);let J:j∉is:=λz=>A<|ϰX z;let i:j∉js:=λz=>A<|ũ z;rw[Y j i,t1 j J]
set_option tactic.hygienic true in
theorem Va(h:ϪX (gTp k gs) v σ H Q):Vt M.K k (ϫy is gs) v σ H Q:=by
 let(F,j,P,x,z,S,r,d,p):=h;cases x with
 |ot X=>
  delta gTp at p;dsimp only at p;let(g,U,R):=r;cases g with
  |@ot a vs _ f h1 h2=>
   by_cases l:X.length=k
   .rw[Os l]at p
    let nd:=K8k.mp U;let s0:ϰz (P++(a::f)) F H (P++f):=Stp.refl.sub λb m=>by simp only[Y7,Z7]at m⊢;rcases m with m|m<;>simp[m]
    show(a,vs,rfl,SqT.of h1,ϤF h2.len,F,j,P,X,f,S,(h2,nd.2,λb m=>R b<|Ą m),λb m=>d b<|Ą m,ş (p.stp s0) λy e i o t c u w T=>e i o t c u (s0.trans w) T)
   rw[P3 l]at p;show p.elim
 |sh D=>
  cases D with
  |tuple s=>
   delta gTp at p;dsimp only at p;let(g,U,R):=r;cases g with
   |sh q=>
    by_cases l:s.length=k
    .rw[Os l]at p
     cases q with|@tup a vs _ h1 h2=>show(a,vs,rfl,SqT.of<|S.same _ _ h1,ϤF ϴK,F,j,P,ϳU OD.sh,[],S,(Ps.shs h2,K8w,ϰk),ϰk,p)
    rw[P3 l]at p;show p.elim
  |_=>show False.elim p
 |_=>show False.elim p
theorem Ih(hi:i<n)(h:ϱn (ay i a)):Dv (ć a) ϩp D σ H:=by let d:ϱn (JD a<|Re i):=h;let(F,e,f,S,p):=PH (is:=[i]) d;show(F,e,f,S,p.mono (ϭ9 (IB hi<|P v c b X e1 r w)))
set_option tactic.hygienic true in
theorem Xy(h:ϱn (pW i f)):ϻy f D σ H:=by
 let(F,u,P,S,p):=h;delta pW Pl at p;split at p
 .rename_i x e
  let(v,f,g1,g2,d,k,rfl,l):=ϤT;let c:϶a (F a):=λa m=>ϪG<|ũ<|ϰX m;let o:=l (ϸx f) H (kj c) (ū q) v ϧW [] (.sh<|k.Z2 (kj c) (ϸJ (Ù (sD m) q)));let s:Ϸ8 ú=σ:=by
   apply K9K;ext j;by_cases J:i=j
   .subst J
    rw[d,K9I (Za.mp d).1]
   rw[K9E J]
  rw[s]at o;let nd:=S.nd;simp only[K9T,Y7]at nd;obtain⟨N,⟨y,r,t⟩,g⟩:=nd;let sub:∀a∈ϲo [],a∈ϤI/\a∉f:=λa m=>by
   simp only[K9B,Y7]at m⊢;rcases m with m|m
   .exact(È m,λz=>g a m a (È z) rfl)
   show(Ñ<|Ñ m,λz=>t a z a m rfl)
  let T:ϰz ϤI (ϸx f) H (ϲo []):=⟨kj c,Ϯ8,λa m=>È (Ϩw).1,λa h m z=>by
   rw[kT λw=>m<|ũ<|ϰX w]
   show z⟩
  apply(ϸx f,_,_,(Au S.same,o,?_,ϻm,Ù K8z S.len),ϒU p)
  .simp only[K9B,K9T]
   show(N,r,λa A b B=>g a A b<|Ñ B)
  rw[kT (Ϩw).2];show ϪG (Ϩw).1
 show(F,u,P,S,p)
end
def Walks(K:Ch)(F:Hp)(J:It)(s:À Go):Prop:=∀i G H,aH F G->aH G H->
 (∀d,ϴ3=Ω->J.go i H/\∀x h,ϒK h->∃g,Ext G H g h/\Ğ g x d)/\(s.length<=i->ύd H)
def OkI(K:Ch)(F H:Hp)(R:It->Ô Hp)(d:À Go):Prop:=∀J b h,Κ b h->Walks K b J d->R J h
def tI(M:Mx)(n:Nat)(f:Fi):TI:=λb H R=>∃F a p,ϲ0 M.K b a p/\ă p (OkI M.K F H R) (f a)
section
variable{M:Mx}
theorem Sx(h:ϺW (de a)):ϓc (ć a) σ H R':=by
 let(F,e,f,S,p):=h;apply(F,e,f,S,Ķ λx P v g b o e1 r W=>?_);let(G1,D,k):=ϳ9 W;generalize x.er=d at P k;cases k with
 |@lst a vs ds h1 h2=>
  apply(a,rfl,(vs,ϻg D.fh),P _ G1 b D λi G j s w=>?_);let q:=(ϻg (s.trans w));apply(λd c=>?_,λl=>⟨vs,q,ϤF ϴK⟩);let(u,U,J):=D1.get h2 c;apply((vs,u,q,U),λx m y=>?_);let(rfl,y):=y;let X:=y vs q;rw[U]at X;cases X;show(G,ϯY,J.same s)
 |Y4=>show P.elim
 |bl _=>show P.elim
 |int _=>show P.elim
 |str _=>show P.elim
 |dct _ _ _=>show P.elim
 |dtt _ _ _=>show P.elim
 |tup _ _=>show P.elim
theorem xj(l:Int)(k:Nat):Walks K F (Itr l k) (oS l k):=by
 ext i G H S w;delta oS;apply(λd h=>?_,ϕ7);rw[Oe]at h;let(j,J,rfl):=Ϸp;let(a,b):=ϥz;let f:i=j:=by simpa using b
 subst f;apply(ϖJ,λx c y=>?_);let(rfl,rfl):=y;show(G,ϯY,Ä _)
theorem gN{i:Int}:aD i=true↔ -ϰA<=i/\i<ϰA:=ϬE ϷZ
theorem Yx(h:ϺW (iR1 a)):P1 (ϵr<|ae a ah) σ H R':=by
 let(F,g,f,S,p):=h;apply(F,g,f,S,?_);let T:=Ϸe;change ă f _ (ï (a g) ϑD);cases ha:a g with
 |bad=>rw[ha]at T;show T
 |ex c=>rw[ha]at T;show T
 |ok x=>
  rw[ha]at T;ext V l i X e1 r w;let(G1,D,k):=ϳ9 w;cases k with
  |@cons v _ _ _ k k2=>
   cases k2;let P:ă f ϶T (match x.er with| .int j=>Ì Ϥ0 ϦF Í|_=>Í):=T;generalize x.er=d at P k;cases k with
   |int j=>
    by_cases e:Ϥ0
    .let s:=gN.mp e
     let b:ă f ϶T (Ì Ϥ0 ϦF Í):=P;rw[ϳS]at b;show(j,rfl,s.1,s.2,b _ G1 i D<|xj _ _)
    let b:ă f ϶T (Ì Ϥ0 ϦF Í):=P;rw[ϰ4]at b;show b.elim
   |Y4=>show P.elim
   |bl _=>show P.elim
   |str _=>show P.elim
   |dct _ _ _=>show P.elim
   |dtt _ _ _=>show P.elim
   |lst _ _=>show P.elim
   |tup _ _=>show P.elim
theorem A_{g:Go->Go->R (À Go)}{q:À V->Ô Hp}(p:ă fp ϶T (ï ű λx=>ï ϶D λy=>ϧy))(k:∀v w d D G h,Κ G h->Rep M.K G v d->Rep M.K G w D->ă fp ϶T (g d D)->q [v,w] h):
  ă fp (OkL M F H q) (ϐM ρ):=by
 change ă fp _ (ï ű λx=>(ï ϶D λy=>ϳV [y]).bind λX=>ϳV Ϲ7);let T:=Ϸe;cases ha:a ρ with
 |bad=>rw[ha]at T;show T
 |ex c=>rw[ha]at T;show T
 |ok x=>
  rw[ha]at T;let P:ă fp _ ϶D:=aq.bind T;change ă fp _ ((ï ϶D λy=>ϳV [y]).bind λX=>ϳV Ϲ7);cases hb:b ρ with
  |bad=>rw[hb]at P;show P
  |ex c=>rw[hb]at P;show P
  |ok y=>
   rw[hb]at P;ext s f h i e1 r W;let(G1,e,K):=ϳ9 W;cases K with
   |@cons v _ _ _ K k2=>
    cases k2 with|@cons w _ _ _ k2 k3=>cases k3;show k v w x.er y.er G1 h e K k2 P
def r2F(x y:Go):R (À Go):=match x,y with
 |.int i,.int j=>Ì (ě ϤH) (Ħ (oS i (ā (j-i)))) Í
 |_,_=>Í
set_option tactic.hygienic true in
theorem Ye(h:ϺW (iR2 a b)):Qd (ϵr ϐM) σ H R':=by
 let(F,k,P,S,p):=h;apply(F,k,P,S,ϗp r2F iR2 (λv w x D G f e r R q=>?_));delta r2F at q;split at q
 .rename_i i j
  cases r;cases R;by_cases s:ě ϤH
  .rw[Os s]at q
   rw[K9U]at s;let c:=gN.mp s.1;let d:=gN.mp s.2;show(i,j,rfl,(c.1,c.2,d.1,d.2),q _ G f e<|xj _ _)
  rw[P3 s]at q;show q.elim
 show q.elim
theorem f9{s:À Go}{i:Nat}{d:Go}(h:û (fj s)=Ω):∃e,ϴ3=ϻF/\d=ä [Ä i,e]:=by delta fj at h;rw[Oe]at h;let(p,H,rfl):=Ϸp;rw[K8S]at H;let(e,he,rfl):=Zb.mp H;show(e,he,Ø)
theorem TL(h:ϺW (iEn a)):QT M.K (ϵr<|ae a ah) σ H R':=by
 let(F,g,f,S,p):=h;apply(F,g,f,S,?_);let b:=Ϸe;change ă f _ (ï (a g) ϑD);cases ha:a g with
 |bad=>rw[ha]at b;show b
 |ex c=>rw[ha]at b;show b
 |ok x=>
  rw[ha]at b;ext s C o K e1 B W;let(G1,D,k):=B.Z2 e1 W;cases k with
  |@cons v _ _ _ k k2=>
   cases k2;let P:ă f ϶T (match x.er with| .list ds=>Ħ (fj ds)|_=>Í):=b;generalize x.er=d at P k;cases k with
   |@lst a s ds h1 h2=>
    let A:϶T (fj ds):=P;apply(a,rfl,(s,ϻg D.fh),A _ G1 o D λi G E m w=>?_);let q:=(ϻg (m.trans w));apply(λd r=>?_,λl=>⟨s,q,by rw[ϴK];delta fj at l;simpa using l⟩);let(e,he,rfl):=f9 r;let(u,U,J):=D1.get h2 he;apply((s,u,q,U),λx I y=>?_);let(T,z,t,rfl,rfl,Z):=y;let X:=Z s q;rw[U]at X;cases X;show(όx _,Ext.allocF w t,č aX<|Ĉ (Ä _)<|Ĉ ((J.same m).same<|(aH.refl G).upd<|w.free t) Ā)
   |int j=>show P.elim
   |Y4=>show P.elim
   |bl _=>show P.elim
   |str _=>show P.elim
   |dct _ _ _=>show P.elim
   |dtt _ _ _=>show P.elim
   |tup _ _=>show P.elim
def NF(x y:Go):R (À Go):=match x,y with
 |.list ds,.list es=>.ok<|qY ds es
 |_,_=>Í
theorem sX{s e:À Go}{i:Nat}{d:Go}(h:û (qY s e)=Ω):∃x y,ϴ3=ö/\e[i]?=ϱO/\d=ä [x,y]:=by delta qY at h;rw[Oe]at h;let(p,H,rfl):=Ϸp;rw[Zbt]at H;show(p.1,p.2,H.1,H.2,rfl)
set_option tactic.hygienic true in
theorem Vf(h:ϺW (iZp a b)):Vw M.K (ϵr ϐM) σ H R':=by
 let(F,B,P,S,p):=h;apply(F,B,P,S,ϗp NF iZp (λv w L N G1 m D V R q=>?_));cases V with
 |@lst a vs _ h1 h2=>
  cases R with
  |@lst b ws _ h3 h4=>
    delta NF at q;dsimp only at q;apply(a,b,rfl,(vs,ϻg D.fh),(ws,(h3.same D.fh).sq),q _ G1 m D λi G C s c=>?_);let e:=(ϻg ϓi);let Q:=(h3.same ϓi).sq;apply(λd o=>?_,λl=>⟨vs,ws,e,Q,?_⟩)
    .let(x,y,X,Y,rfl):=sX o
     let(u,f,J):=D1.get h2 X;let(k,U,r):=D1.get h4 Y;apply((vs,u,ws,k,e,f,Q,U),λx I y=>?_);let(T,z,W,t,rfl,rfl,A,Z):=y;let e1:=A vs e;let E:=Z ws Q;rw[f]at e1;rw[U]at E;cases e1;cases E;let j:aH G (όx<|č [u,k]):=(aH.refl G).upd<|c.free t;show(όx _,Ext.allocF c t,č aX<|Ĉ ((J.same s).same j)<|Ĉ ((r.same s).same j) Ā)
    rw[ϴK,όE];delta qY at l;rw[I4,Zay]at l;lia
  |_=>show False.elim q
 |_=>show False.elim q
set_option tactic.hygienic true in
theorem Xu{it:Fi}(h:ϱn (dJ it g b)):U6 (tI M n it) (ϪX g) (ϻy b) D σ H:=by
 let(F,U,O,S,p):=h;apply(F,U,O,S,Ķ λs Z J I H1 e1 wk=>?_);apply(λi m A k=>ϑm s.length (∃l j f,ϻn l k A j f/\aH I l/\aq M k f (Ϩi l k f D) (ϱv όp j)),(s.length,Ø,Ν,I,U,O,϶g,ϰE,ϐu Z),?_);ext i m A k ⟨rfl,hi,l,j,f,S',s',p'⟩;let(w1,w2):=wk i l k s' S'.same;by_cases T:i<s.length
 .obtain⟨d,Q⟩:∃d,ϴ3=Ω:=⟨s[i],by simp[T]⟩
  let(g1,g2):=w1 d Q;let e:όp=d::ϧf:=by
   rw[K8N T];congr 1;let:=(Za.mp Q).2;show this
  rw[e]at p';apply Ñ ⟨g1,λG u=>∃F2 c w,ϻn F2 u G c w/\aH I F2/\aq M u w (Ϩi F2 u w D) (ϱv ϧf c),λG u q=>⟨s.length-(i+1),Á,rfl,T,q⟩,λx u y=>?_⟩
  let(G2,N,rx):=g2 x u y;let Y:aq M k f _ (ï (g Ř j) λz=>ï (b z) λo=>match o with
   |.nx c=>ϱv ϧf c
   |.ct c=>ϱv ϧf c
   |.bk c=>.ok<|.nx c
   |.rt x=>ϳv):=p'
  let R:Stp l k f G2 u (f++[]):=Ù Zw N.stp
  apply(G2,j,f,Ř,[],S'.ext N,Res.sh rx,ϰk,ş ((aq.bind Y).stp R) λz X σ3 V H3 K W s3 _=>?_);let s4:=R.trans s3;apply(V,z,K,W,ş ((ϥK X).stp s4) ϧN);cases o with|nx c=>show ϑl ⟨t,c,P,C,Ę (s'.trans s4.ff) L.ff,PostS.stp ϯa po⟩|ct c=>show ϑl ⟨t,c,P,C,Ę (s'.trans s4.ff) L.ff,PostS.stp ϯa po⟩|bk c=>show ϑl (po B t E P C ϯa)|rt x=>exactλv t E fx a r L=>po v t E fx a r ϯa
 let e:i=s.length:=Á
 subst e;apply È ⟨w2 ß,?_⟩;rw[Zdd]at p';show p' A l k f S' Stp.refl
set_option tactic.hygienic true in
theorem O3(h:ϱn (gR t b)):KY (ϳ8 t) (ϻy b) D σ H:=by
 let(F,G,z,S,p):=h;delta gR at p;split at p
 .rename_i N
  apply(λm i j=>∃l e f,ϻn l j i e f/\aq M j f (Ϩi l j f D) (ϴU m e),(_,F,G,z,S,p),?_);ext m i j ⟨l,e,f,S',p'⟩;cases m with
  |zero=>show p'.elim
  |succ m=>
   let A:aq M j f _ (ï (t e) λc=>if ϱ5 then ï (b e) λo=>match o with
    |.nx d=>ϴU m d
    |.ct d=>ϴU m d
    |.bk d=>.ok<|.nx d
    |.rt x=>ϳv else Ħ (.nx e)):=p'
   apply(l,e,f,S',ş (aq.bind A) λc pc u y e1=>?_);cases c with
   |true=>
    rw[ė]at pc⊢;apply(λk s=>∃F2 d w,ϻn F2 s k d w/\aq M s w (Ϩi F2 s w D) (ϴU m d),λk s q=>⟨m,K8d _,q⟩,u,e,f,S'.ext e1,ş (ϴB pc e1) ϧN);cases o with|nx d=>show ϔK|ct d=>show ϔK|bk d=>show λB g E P C L=>po B g E P C Ϛw|rt x=>exactλv g E fx a r L=>po v g E fx a r Ϛw
   |false=>rw[ϲy]at pc⊢;show pc i u y f (S'.ext e1) e1.stp
 show p.elim
end
section
variable{M:Mx}{F H F1 H1:Hp}{ρ:Env}{fp:À Ix}{D:Ends}
theorem W8.nones:∀(k:Nat){b:St}{a:Env}{g:À Ix},ϰp b a g->ϰp (η none++b) (η none++a) g|0,_,_,_,h=>h|k+1,_,_,_,h=>ϱq K99 K99 (.no<|W8.nones k h)
theorem W8.one(S:ϰp σ ρ fp)(i:Nat):∃f,(ϴ0<|a∈fp)/\(fp.Nodup->f.Nodup)/\∀{c:St}{b:Env}{g:À Ix},ϰp c b g->ϰp ((û σ).join::c) ((ϱw).join::b) ϥN:=by
 cases e:ρ[i]? with
 |none=>show([],ϰk,ϰs K8w,λh=>.no h)
 |some o=>
  cases o with
  |none=>show([],ϰk,ϰs K8w,λh=>.no h)
  |some x=>
   let(v,f,g1,g2,d,j,rfl,k):=S.at e;apply(f,λa m=>ũ<|ϰX m,λnd=>?_,λh=>?_)
   .simp only[K9T]at nd
    show nd.2.1.1
   rw[d];show .yes j h
def shE(a:Env):Env:=a.map λo=>match o with
 |some (.sh d)=>Â Ř
 |_=>none
set_option tactic.hygienic true in
theorem W8.shE(S:ϰp σ ρ g):ϰp σ (L3.shE ρ) []:=by
 induction S with
 |nil=>show Ā
 |no r ih=>show Ϩ9
 |yes h r ih=>
  cases h with|sh h=>show ϕS ih|ol _ _=>show Ϩ9|ot _ _=>show Ϩ9|od _ _ _=>show Ϩ9|odt _ _ _=>show Ϩ9
set_option tactic.hygienic true in
theorem W8.pick3:∀(is:Ó){c:St}{b:Env},ϰp c b []->ϰp (ϑw<|c[i]?) (ϑw ϸT) []
 |[],_,_,_=>Ā
 |i::is,_,_,S=>by
  let(f,h,_,d):=S.one i;let e:f=[]:=by
   cases f with|nil=>rfl|cons a f=>show Đ (h a Uf) Ø
  subst e;show d<|W8.pick3 is S
set_option tactic.hygienic true in
theorem BB:∀(k:Nat){d c:St},c.length=k+d.length->(∀j,k<=j->c[j]?=Ĵ (η none++d))->lG (η none++d) c
 |0,d,c,hl,h=>by
  let e:c=d:=K9K λj=>Ŀ (h j Ν)
  subst e;change lG c c
  clear h hl
  induction c with
  |nil=>trivial
  |cons x r ih=>
   cases x with|none=>show ih|some v=>show(rfl,ih)
 |k+1,d,[],hl,h=>ϙF
 |k+1,d,x::c,hl,h=>by
  rw[K99];apply BB k ϙF Ϥ1;let:=h (j+1) Á;simpa[K99]using this
theorem OV(a:Env):∀(is:Ó),(ϑw<|û<|shE a)=is.map λi=>An ϴi:=by
 ext y
 induction y with
 |nil=>show rfl
 |cons i is ih_=>
  rw[W1,W1,ih_];congr 1;delta shE;rw[Oe];cases a[i]? with
  |none=>rfl
  |some o=>
   cases o with|none=>rfl|some x=>cases x<;>rfl
theorem Stt.block(S:ϲ0 K σ ρ fp)(k:Nat)(outs:À ϳ2):Stt K Ϯf F H (slots k outs σ) (sl3 k (ϲ7 Ļ) ρ) []:=by
 apply(S.same,?_,K8w,ϰk,Ϻ1 sl3);let h:=W8.nones k (W8.pick3 (ϲ7 Ļ) S.own.shE);rw[OV,Tk]at h;show h
theorem Aj(p:ă fp PP (ï (ï (F9 r) g) k)):∃a,r=.ok a/\ă fp PP (ï (g a) k):=by
 cases r with|ok a=>show(a,rfl,p)|ex c=>show p.elim|bad=>show p.elim
def CompI(M:Mx)(F H:Hp)(p:À Ix)(Q:VK)(g:Fg)(t:Ft)(l:Fe)(d:Env)(i e:Hp)(D:Ix)(s:À Go)(c:À V)(h:Hp):Prop:=
 ∃b X f,h D=Â (Ă c)/\b D=none/\Ext i e b h/\ResL M.K b h c X f/\(ϴ0<|e a=none/\a≠D)/\ă p ŀ (ï (ϻS l d s X) λX=>Ď X)
theorem Ll{it:Fi}(hk:∀j∈is,j<k)(h:ć (bb it g t el k (ϲ7 Ļ)) σ H Q):
  Cb (tI M n it) (tG M Ϯf is g) (tT M Ϯf t) (tD M Ϯf el) k outs σ H Q:=by
 let(F,ρ,U,S,p):=h;apply(F,ρ,U,S,Ķ λs pd J C H1 e1 wk D I=>?_);let SB:=(϶g).block k outs;generalize sl3 k (ϲ7 Ļ) ρ=ρ0 at SB pd;let fD:C D=none:=e1.fh.free I;apply(λi m c l=>ϑm s.length (ϕ8 όp c l),(s.length,Ø,Ν,C,[],[],aX,fD,Ext.alloc e1.fh I,ResL.nil,ϰk,pd),?_);ext i m c l ⟨rfl,hi,F',xs,fx,hacc,fD',e',rx,wx,p'⟩;let S':=SB.ext e';let(w1,w2):=wk i F' l e'.ff e'.fh;by_cases L:i<s.length
 .obtain⟨d,hd⟩:∃d,ϴ3=Ω:=⟨s[i],by simp[L]⟩
  let(g1,g2):=w1 d hd;let e:όp=d::ϧf:=by
   rw[K8N L];congr 1;show(Za.mp hd).2
  rw[e]at p';let(B,w,p3):=Aj p';let(b,hb,P):=Aj p3;apply Ñ ⟨g1,λA r=>ϕ8 ϧf A r,λA r q=>⟨s.length-(i+1),Á,rfl,L,q⟩,λx r y=>?_⟩;let(G2,e2,rx2):=g2 x r y;apply(G2,ρ0,[],Ř,[],S'.ext e2,Res.sh rx2,ϰk,?_);rw[w];ext σ3 F3 H3 K W s3 t3;let e3:Ext G2 r F3 H3:=⟨s3.ff,ϹX (s3.keep a o q Ø),W.same,ϻ5 (s3.nw a q Ø z)⟩
  apply(BB k (by rw[W.own.len,W.len];simp) λj hj=>t3 j λz=>þ (hk j z),F3,B,K,W,?_);rw[hb];ext O H4 e4;let E:Ext F' l O H4:=Ę (e2.trans e3) e4;cases b with
  |true=>
   rw[ė]at P⊢;let(y,hy,N):=Aj P;apply(O,B,K,W.ext e4,?_);rw[hy];ext v G T Y e5 Z w5;by_cases X:Ϯ7
   .rw[Os X]at N
    let f:=E.trans e5;let V:T D=Â (Ă c):=f.hh _ _ hacc;let u:G D=none:=f.nw D (bX hacc) fD';let yD:∀a∈Y,a≠D:=λa m=>by ext rfl;let:=϶k hacc;rw[w5 _ m]at this;cases this
    let R:=rx.ext f;apply(V,Ù rx.own.len (uI X),G,ϫA,fx++Y,aX,u,(e'.ff.trans f.ff,ϹX ?_,ϹX ?_,ϻ5 (ϛ4<|e'.nw a q z)),(?_,?_,?_),?_,N)
    .rw[aA<|ϳf I]
     show f.hh _ _<|e'.hh _ _ q
    .rw[aA<|ϳf u]
     show e5.fh _ _ q
    .let q1:Ps M.K G (Ϙ0<|Ă<|c++[v]) c xs fx:=R.own.mono ϰE (ϸJ (Ù (aA (wx a m).2) q))
     let q2:Own M.K G (Ϙ0<|Ă<|c++[v]) v y Y:=Z.own.mono ϰE (ϸJ (Ù (aA<|yD a m) q))
     let q3:=Ps.app q1<|Ps.cons q2 Ā;rw[Zw]at q3;show q3
    .apply ϨZ ⟨rx.nd,Z.nd,λa m b m' z=>?_⟩
     subst z;let(o,q):=rx.own.dom a m;let:=϶k q;rw[w5 a m']at this;cases this
    .intro a m
     rcases Y7.mp m with m|m
     .exact R.fr a m
     show Z.fr a m
    ext a m;rcases Y7.mp m with m|m
    .exact wx a m
    show((e'.trans E).hh.free<|w5 a m,yD a m)
   rw[P3 X]at N;show N.elim
  |false=>rw[ϲy]at P⊢;show(O,xs,fx,϶k hacc,E.nw D (bX hacc) fD',e'.trans E,rx.ext E,wx,P)
 let e:i=s.length:=Á
 subst e;rw[Zdd]at p';let q:ŀ ϶o:=p';apply È ⟨w2 ß,q (Å D) F' l (D::fx) (e1.trans e') ⟨.ol hacc rx.own,K8k.mpr ⟨λm=>(wx D m).2 rfl,rx.nd⟩,ϻm⟩ ϻm⟩
 .rcases Z7.mp m with rfl|m
  .exact fD'
  show rx.fr a m
 rcases Z7.mp m with rfl|m
 .exact e1.hh.free I
 show e1.hh.free (wx a m).1
theorem LR(o:ϰU vs xs f)(e:ϩL):Ps K G H1 vs ϭu []:=by
 induction xs generalizing vs f with
 |nil=>cases o;show Ā
 |cons x r0 ih=>
 cases o with
 |cons h r=>
  rw[K7z,K9U]at e;rw[W1];apply Ĉ (f:=[]) (g:=[]) (.sh ?_)<|ih r e.2;cases h with
  |sh q=>rw[aW]at e⊢;show B4 e.1 q
  |ol _ _=>rw[vf]at e;show Đ (ń Ϫ2 e.1) Zy
  |ot _ _=>rw[QQ]at e;show Đ (ń Ϫ2 e.1) Zy
  |od _ _ _=>rw[rE]at e;show Đ e.1 (by simp[flat,dD])
  |odt _ _ _=>rw[C9]at e;show Đ e.1 (by simp[flat,dtD])
theorem Lo(h:ć (E4 fa) σ H Q):ć fa σ H Q:=by
 let(F,i,g,S,p):=h;apply(H,erase i,[],S.erase,ύB Ϸe λx X v j e k e1 r w=>?_);cases x with
 |sh d=>show X.elim
 |ot xs=>show X.elim
 |od xs=>show X.elim
 |odt xs=>show X.elim
 |ol xs=>
  let P:ă g ŀ (Ì ϩL (Ď ϭu) Í):=X;by_cases c:ϩL
  .rw[Os c]at P
   let(o,U,R):=r;cases o with
   |@ol a vs _ f h1 h2=>
    let na:ϻu:=w a Uf;apply P (Å a) F e [a] ⟨ϰE,e1.hh,ϙ9,Ϸc⟩ ⟨.ol h1<|LR h2 c,Ø,ϴL⟩ ϴL
    .let:b=a:=ϵi
     rw[this];show S.same.free na
    let:b=a:=ϵi
    rw[this];show na
  rw[P3 c]at P;show P.elim
end
section
variable{M:Mx}{σ:St}{ρ:Env}
theorem sy{p f q f':À Ix}(h:(p++(f++q)).Nodup)(H:f'.Nodup)(s:∀c∈f',c∈f\/c∉p++(f++q)):(p++(f'++q)).Nodup:=by
 simp only[K9T,Y7]at h s⊢;obtain⟨N,⟨n,i,j⟩,g⟩:=h;apply(N,(H,i,ϐL),ϐL)
 .subst e
  rcases s a A with z|z
  .exact j a z a B rfl
  show z<|Ñ<|Ñ B
 subst e;rcases B with B|B
 .rcases s a B with z|z
  .exact g a A a (È z) rfl
  show z<|È A
 show g a A a (Ñ B) rfl
theorem Ps.at:∀{S:À V}{l:À OD}{g:À Ix}{i:Nat}{x:OD},ϰU S l g->l[i]?=ö->
  ∃v f g1 g2,S[i]?=ú/\ϺO/\g=ϤI/\∀(b c:Hp),aH F b->(∀a∈g1++g2,∀o,H a=Ü->c a=Ü)->∀j X d,Ϧf b c j X d->Ps K b c (S.set i j) (l.set i X) ϐ2
 |_,_,_,_,_,.nil,e=>ϧm
 |_,_,_,0,x,.cons (f:=f) (g:=g) h r,e=>Ϭ2 (_,f,[],g,rfl,h,rfl,λb c s k j X d o=>ϛ9<|r.mono s k)
 |_,_,_,i+1,x,.cons (f:=f0) h r,e=>by
  let(v,f,g1,g2,n,p,q,t):=Ps.at (i:=i) r ϵV;apply(v,f,f0++g1,g2,Ϛb,p,ϰB q K9M,λb c s k j X d o=>?_);rw[K9M];show Ĉ (h.mono s (϶v (ϰX<|ϰX m)))<|t b c s ύ3 j X d o
theorem oQ(h:û σ=Â ú):Ϸ8 ú=σ:=by
 apply K9K;ext j;by_cases J:i=j
 .subst J
  rw[h,K9I ϲE]
 rw[K9E J]
theorem Stt.write(S:ϲ0 K σ ρ fp)(X:ϱw=Â (Â ϶o)):
  ∃a V f,û σ=Â (Â<|Å a)/\H a=Â (Ă V)/\ϰU V xs f/\f.Nodup/\(∀b∈f,F b=none)/\
   ∀d h s x f',Κ d h->Ps K d h s x f'->f'.Nodup->(∀b∈f',b∈f\/ϱc)->(ϩl f'<|d b)->
    ∃P,ϨG d (Ϲf<|Ă s) σ (ϳZ<|Â<|.ol x) P/\ϰz fp d (Ϲf<|Ă s) P/\(∀b∈P,b∈fp\/b∈f'):=by
 let(v,A,g1,g2,g,k,rfl,l):=S.own.at X;cases k with
 |@ol a V _ f ha hv=>
  let nd:=S.nd;let N:=nd;simp only[K9T,Y7,K92,K8k,Z7]at N;obtain⟨B,⟨na,t,C,G⟩,u⟩:=N;apply(a,V,f,g,ha,hv,t,λb m=>S.fr b ϸh,λd h s x f' e o y sub j=>?_);let fa:d a=none:=ϐ3 (ϪG Ø);let E:∀b∈f',ϷH:=λb m=>by
   ext rfl;rcases sub b m with z|z
   .exact na<|È z
   rw[ha]at z;cases z
  let r:∀c∈f',c∈f\/c∉(g1++[a])++(f++g2):=λc m=>by
   rcases sub c m with z|z
   .exact È z
   apply Ñ λw=>?_;let(o,q):=ϐE (by simp at w⊢;show w);rw[z]at q;cases q
  let D:=sy (p:=g1++[a]) (f:=f) (q:=g2) (f':=f') (Ŀ nd) y r
  let own:=l d (Ϲf<|Ă s) e.ff (λb m o q=>by
   let:ϷH:=by
    ext rfl;rcases Y7.mp m with m|m
    .exact u b m b (È rfl) rfl
    show na<|Ñ m
   rw[aA this];show ϤU) (Å a) (.ol x) (a::f') (ϓb<|o.mono ϰE λb m o q=>Ù (aA<|E b m) q)
  rw[oQ g]at own;let Zm:ϩl (ϲo (a::f)) (d b):=ύ4
  apply(ϲo (a::f'),(?_,own,ϭU,ϴL,Ù K8z S.len),(e.ff,ϑE,ϴL,Ϗw),ϴL)
  .intro b o q
   rw[aA<|ϳf fa];show ϯZ
  .simp only[Y7,Z7]at m
   rcases m with m|(rfl|m)|m
   .exact Zm b ϸh
   .exact fa
   .exact j b m
   show Zm b ϸh
  .let:ϷH:=Ϲk (m Ø)
   rw[aA this];show ϤU
  .simp only[Y7,Z7]at m⊢
   rcases m with m|(m|m)|m
   .exact È<|È m
   .exact È<|Ñ<|È<|È m
   .rcases sub b m with z|z
    .exact È<|Ñ<|È<|Ñ z
    show Ñ z
   show È<|Ñ<|Ñ m
  simp only[Y7,Z7]at m⊢;rcases m with m|(m|m)|m<;>simp[m]
theorem Ps.snoc(h:ϰU vs xs f)(o:ϧ1 v y g):ϰU (vs++[v]) ϫA ϥN:=϶N (Ps.app h<|Ps.cons o Ā) Zw
set_option tactic.hygienic true in
theorem WV(h:ϱn (kE i a)):xK (ϭb Aa ϸK<|t_ (ć a) Co) D σ H:=by
 let(F,C,x,S,p):=h;delta kE at p;replace p:=olk p;let(X,e,p):=p
 let(l,s,f,A,k,d,N,u,wr):=S.write e;apply(_,A,È ⟨rfl,s,Zv.of k⟩,F,C,x,S,Ķ λy py v g j Y e1 r w=>?_);by_cases L:X.length<H6
 .rw[Os L]at py
  apply(l,s,v,rfl,rfl,όF k,Ù d.len (uI L),?_);let o:Ps M.K g j (s++[v]) (X++[y]) (f++Y):=(d.mono e1.ff λb _ o q=>όF q).snoc r.own;let(P,t,T,_):=wr g j _ _ _ e1 o (ϨZ ⟨N,r.nd,λb m c B z=>ϬV (d.dom b m) (w b B)⟩) (λb m=>ϵU È (λm=>Ñ<|w b m)) λb m=>ϵU (ϖG d.dom<|u b m)<|r.fr b;show py σ g _ P t T
 rw[P3 L]at py;show py.elim
set_option tactic.hygienic true in
theorem Xb(h:ϱn (H0 i a)):xK (ϭb zW ϸK<|t_ (ć a) Co) D σ H:=by
 let(F,x,r,S,p):=h;delta H0 at p;replace p:=olk p;let(X,e,p):=p
 let(l,V,f,C,u,j,N,B,wr):=S.write e;apply(_,C,È ⟨rfl,V,Zv.of u⟩,F,x,r,S,Ķ λy py v k t Y e1 R w=>?_);cases y with
 |sh d=>show py.elim
 |ot ys=>show py.elim
 |od ys=>show py.elim
 |odt ys=>show py.elim
 |ol ys=>
  let P:ă r (ϵ2 r D) (Ì (ϻB ys.length<=H6) (ω x.set ol (X++ys)) Í):=py;by_cases L:ϻB ys.length<=H6
  .rw[Os L]at P
   let(O,U,G):=R;cases O with
   |@ol b ws _ g hb hw=>
    apply(l,b,V,ws,rfl,rfl,όF u,hb,ϱq j.len hw.len (hR L),?_);let o:Ps M.K k t (V++ws) (X++ys) ϥN:=(j.mono e1.ff λb _ o q=>όF q).app hw;let(s,A,T,_):=wr k t _ _ _ e1 o (ϨZ ⟨N,(K8k.mp U).2,λb m c E z=>ϬV (j.dom b m) (w b<|Ą E)⟩) (λb m=>ϵU È (λm=>Ñ<|w b<|Ą m)) λb m=>ϵU (ϖG j.dom<|B b m) (λm=>G b<|Ą m);show P σ k _ s A T
  rw[P3 L]at P;show P.elim
theorem Rp{q:Int}(h:ixN k q=ϳb):j<k:=by
 delta ixN at h;split at h
 .split at h
  .cases h
   lia
  cases h
 split at h
 .cases h
  lia
 cases h
set_option tactic.hygienic true in
theorem Vc(h:ϱn (Af i k a)):Dv (ć a) (VC ϸK (ć k) PY) D σ H:=by
 let(F,t,g,S,p):=h;delta Af at p;replace p:=olk p;let(X,e,p):=p
 apply(F,t,g,S,Ķ λy py v C H1 Y e1 R W=>?_);let(l,vs,f,Q,T,d,V,B,wr):=S.write e;apply(_,Q,C,t,g,϶g,ş (ϴB py e1) λz Z u F2 A fz N r2 w2=>?_);let(G2,r,K):=r2.Z2 N w2;generalize z.er=dz at Z K;cases dz with
 |int q=>
  cases K;let P:ă g (ϵ2 g D) (match ϤE q with|some j=>ω t.set ol (ϤD y)|none=>Í):=Z;cases hj:ixN X.length q with
  |none=>rw[hj]at P;show P.elim
  |some j=>
   rw[hj]at P;let E:=e1.trans r;let J:=Rp hj;apply(l,vs,q,j,rfl,rfl,϶k T,Ù d.len hj,?_);obtain⟨x,U⟩:∃x,Ĵ X=ö:=⟨X[j],ϯN⟩
   let(v0,O,g1,g2,b1,b2,I,L):=d.at U;subst I;let o:=L G2 A E.ff (λb m o q=>϶k q) v y Y (R.ext r).own;let sub:∀b∈g1++(Y++g2),b∈g1++(O++g2)\/ϱc:=λb m=>by
    simp only[Y7]at m⊢;rcases m with m|m|m
    .exact È<|È m
    .exact Ñ<|W b m
    show È<|Ñ<|Ñ m
   let(s,G,st,_):=wr G2 A _ _ _ E o (sy V R.nd λc m=>Ñ λw=>ϭx q (d.dom c w) (W c m)) sub (λb m=>by
     simp only[Y7]at m;rcases m with m|m|m
     .exact let⟨_,q⟩:=d.dom b ϸh;E.nw b (bX q) (B b ϸh)
     .exact(R.ext r).fr b m
     show let⟨_,q⟩:=d.dom b ϸh;E.nw b (bX q) (B b ϸh))
   show P σ G2 _ s G st
 |none=>show Z.elim
 |bool _=>show Z.elim
 |str _=>show Z.elim
 |list _=>show Z.elim
 |tuple _=>show Z.elim
 |dict _=>show Z.elim
set_option tactic.hygienic true in
theorem WY(hi:i<n)(hg:δ ti g)(h:ϱn (D3 i g a)):UY i (ć a) ti D σ H:=by
 let(F,G,j,S,p):=h;delta D3 at p;replace p:=shk p;let(d,e,p):=p
 let(v,f,g1,g2,x,A,L,N):=ϤT;cases A with
 |sh r=>
  apply(v,x,F,G,j,S,Ķ λy py w I k Y e1 R C=>?_);let(G1,c,K):=ϵx C;apply Ϛ4<|ş (aq.ext c<|ϥK py) λz Z u F2 l J t B W=>?_;let E:=c.trans t;let(P,s,sub):=Ť ϫ1 hi B λb m q=>ϭx z (S.own.dom b q) (c.hh.free<|W b m)
  show Z _ F2 l P s ⟨E.ff,λb o q _=>϶k q,λb m=>ϴt (sub b m) È λm=>Ñ<|c.hh.free<|W b m,λb q _ z=>E.nw b q z⟩
theorem Stt.write2(S:ϲ0 K σ ρ fp)(hx:ϱw=Â Ü)(hc:comps o=Â (l,xs))(hj:Ϩ8=Â όY):
  ∃a V b ws f,û σ=Â (Â<|Å a)/\H a=Â (Ì (l=true) (Ă V)<|č V)/\V.length=xs.length/\Ĵ V=Â (Å b)/\H b=Â (Ă ws)/\ϰU ws ys f/\f.Nodup/\(∀c∈f,F c=none)/\
   ∀y C s Y p,Κ y C->Ps K y C s Y p->p.Nodup->(∀c∈p,c∈f\/H c=none)->(∀c∈p,y c=none)->
    ∃P,ϨG y (Ϥw<|Ă s) σ (ϳZ<|some<|wrap l<|ϸf<|.ol Y) P/\ϰz fp y (Ϥw<|Ă s) P:=by
 let(v,Z,g1,g2,O,h2,rfl,h4):=S.own.at hx;obtain⟨a,V,g,D,E,rfl,rfl,mk⟩:∃a V g,H a=Â (Ì (l=true) (Ă V)<|č V)/\ϰU V xs g/\v=Å a/\Z=a::g/\∀J G B X g',G a=Â (Ì (l=true) (Ă B)<|č B)->Ps K J G B X g'->Ϧf J G (Å a) (wrap l X) (a::g'):=by
  cases h2 with
  |sh r=>cases hc
  |od _ _ _=>cases hc
  |odt _ _ _=>cases hc
  |@ol a V _ g D E=>cases hc;show(a,V,g,D,E,rfl,rfl,Ϙu ol)
  |@ot a V _ g D E=>cases hc;show(a,V,g,D,E,rfl,rfl,Ϙu ot)
 let(u,f1,x,A,L,R,U,W):=E.at hj;cases R with
 |@ol b ws _ f hb hw=>
  subst U;let nd:(ώz).Nodup:=Ŀ S.nd
  let M:∀c,c∈ώz↔c∈ϲo ϐj:=λc=>Ø
  apply(a,V,b,ws,f,O,D,E.len,L,hb,hw,?_,λc m=>S.fr c ϸh,λy C s Y p e o nf sub ff=>?_)
  .simp only[K9T]at nd
   show nd.2.1.1
  let hs:∀c∈p,c∈f\/c∉ώz:=λc m=>by
   rcases sub c m with z|z
   .exact È z
   apply Ñ λw=>?_;let(o,q):=ϐE<|(M c).mp w;rw[z]at q;cases q
  let I:=sy nd nf hs;let eq2:(g1++(a::(x++[b])))++ϑq=ϲo (a::(x++(b::p++A))):=Ø
  let Zm:∀c∈ϲo ϐj,y c=none:=λc m=>let⟨_,q⟩:=ϐE m;e.nw c (bX q) (S.fr c m)
  let fb:y b=none:=Zm b Ø;let nb:∀c,c∈g1\/c=a\/c∈x\/c∈p\/c∈A\/c∈g2->Ϧc:=λc hc=>by
   ext rfl;let N:=I;simp only[K9M,K92,K9B]at N;let q:(g1++a::(x++c::ϑq))=(g1++a::x)++c::ϑq:=Ø
   rw[q,K9T]at N;let(_,y2,y3):=N;rw[K8k]at y2;let y4:∀d,d∈g1++a::x->d≠c:=λd hd z=>y3 d hd d (Ù z Uf) rfl;rcases hc with h|h|h|h|h|h
   .exact y4 c ϧo rfl
   .exact y4 a Ø h.symm
   .exact y4 c ϧo rfl
   .exact y2.1 ϧo
   .exact y2.1 ϧo
   show y2.1 ϧo
  let k:∀c o,Ϧc->H c=Ü->Ϥw (Ă s) c=Ü:=λc o hc q=>Ù (aA hc) ϤU
  let o1:Ϧf y (Ϥw<|Ă s) (Å b) (.ol Y) (b::p):=ϓb (o.mono ϰE λc m o q=>Ù (aA<|nb c ϸh) q);let Q:=W y (Ϥw<|Ă s) e.ff ϔp _ _ _ o1;let vb:V.set j (Å b)=V:=by
   apply K9K;ext t;by_cases T:j=t
   .subst T
    rw[L,K9I (Za.mp L).1]
   rw[K9E T]
  rw[vb]at Q;let o3:=mk y (Ϥw<|Ă s) V _ _ (k a _ (nb a Ø) D) Q;let own:=h4 y (Ϥw<|Ă s) e.ff ϔp _ _ _ o3;rw[oQ O]at own;let sp:∀c∈ϲo (a::(x++(b::p++A))),c∈ϲo ϐj\/c∈p:=λc m=>by
   simp only[Y7,Z7]at m⊢;rcases m with m|(m|m|(m|m)|m)|m
   .exact È<|È m
   .exact È<|Ñ<|È<|È m
   .exact È<|Ñ<|È<|Ñ<|È m
   .exact È<|Ñ<|È<|Ñ<|Ñ<|È<|È m
   .exact Ñ m
   .exact È<|Ñ<|È<|Ñ<|Ñ<|Ñ m
   show È<|Ñ<|Ñ m
  apply(_,(?_,own,by rw[<-eq2];show I,λc m=>?_,Ù K8z S.len),(e.ff,λc o q m=>?_,λc m=>?_,λc q m z=>e.nw c q z))
  .intro c o q
   rw[aA<|ϳf fb];show ϯZ
  .exact ϴt (sp c m) (Zm c)<|ff c
  .exact k c o (λz=>m<|ϲi z) q
  rcases sp c m with z|z
  .exact È z
  show(sub c z).imp (λz=>ϰy z) id
set_option tactic.hygienic true in
theorem Nt(h:ϱn (nN i k a)):xK (ϭb Aa (ϔM<|ć k)<|t_ (ć a) Co) D σ H:=by
 let(F,r,l,S,p):=h;delta nN at p;replace p:=olk p;let(X,e,p):=p
 let hc:comps ϨR=Â (true,X):=rfl;let(v0,_,_,_,C,O,_,_):=ϤT;apply(v0,C,F,r,l,S,Ķ λz Z u F1 H1 fz e1 r1 w1=>?_);let(G1,t,K):=ϒV;generalize z.er=dz at Z K;cases dz with
 |int q=>
  cases K;let P:aq M H l (ϵ2 l D) (match ϤE q with
   |some j=>match Ĵ X with
    |some (.ol s)=>ï (a r) λy=>if ϒW then ω r.set ol (ϤD<|.ol<|s++[y])else Í
    |_=>Í
   |none=>Í):=Z
  cases hj:ixN X.length q with
  |none=>rw[hj]at P;show P.elim
  |some j=>
   rw[hj]at P;let g:aq M H l (ϵ2 l D) (match Ĵ X with
    |some (.ol s)=>ï (a r) λy=>if ϒW then ω r.set ol (ϤD<|.ol<|s++[y])else Í
    |_=>Í):=P
   split at g
   .rename_i s hy
    let(N,V,b,ws,f,G,T,U,B,I,w,nf,Q,wr):=(S.ext t).write2 e hc hy;rw[C]at G;cases G;let at1:Y9 V q=Â (Å b):=by delta Y9;rw[U,hj];show B
    apply(N,V,q,Å b,rfl,rfl,Zv.of T,at1,È ⟨rfl,ws,Zv.of I⟩,G1,r,l,S.ext t,ş (ϴB g t) λy py v F2 A Y E R W=>?_);by_cases L:ϒW
    .rw[Os L]at py
     apply(b,ws,v,rfl,rfl,϶k I,Ù w.len (uI L),?_);let o:Ps M.K F2 A (ws++[v]) (s++[y]) (f++Y):=(w.mono E.ff λc _ o q=>϶k q).snoc R.own;let(x,J,st):=wr F2 A _ _ _ E o (ϨZ ⟨nf,R.nd,λc m d m' z=>ϬV (w.dom c m) (W c m')⟩) (λc m=>ϵU È (λm=>Ñ<|W c m)) λc m=>ϵU (ϖS w.dom<|Q c m)<|R.fr c;show py σ F2 _ x J<|t.stp.trans st
    rw[P3 L]at py;show py.elim
   show g.elim
 |none=>show Z.elim
 |bool _=>show Z.elim
 |str _=>show Z.elim
 |list _=>show Z.elim
 |tuple _=>show Z.elim
 |dict _=>show Z.elim
end
end L3
namespace L3
open PySem L2 PySem.Spec PyProof.Rows
def DE(M:Mx)(X:Cx)(e:On)(f:Fe):Prop:=Ŕ->Ϥ2->õ e (ϦU f)
def DT(M:Mx)(X:Cx)(e:On)(f:Ft):Prop:=Ŕ->ϩJ PT tT
def DW(M:Mx)(X:Cx)(e:On)(f:Ft):Prop:=Ŕ->ϩJ PW tT
def DA(M:Mx)(X:Cx)(e:À On)(f:Fa):Prop:=Ŕ->ϩJ PA tA
def DO(M:Mx)(X:Cx)(e:Ú On)(f:Fo):Prop:=Ŕ->ϩJ PO tO
def DI(M:Mx)(X:Cx)(tg e:On)(f:Fi):Prop:=Ŕ->Ϥ2->Ϸo e (ϐv f)
def DG(M:Mx)(X:Cx)(tg:On)(is:Ó)(f:Fg):Prop:=Ŕ->Ϥ2->PG X tg (tG M X.N.length is f)
def DGs(M:Mx)(X:Cx)(tg:À On)(is:Ó)(f:Fgs):Prop:=Ŕ->Ϥ2->Ϥa tg (tGs M X.N.length is f)
def DF(M:Mx)(X:Cx)(e:À On)(f:Ft):Prop:=Ŕ->ϩJ PF tT
def DS(M:Mx)(X:Cx)(T:No)(f:Fs):Prop:=Ŕ->Ϥ2->ϱU T ϭL
def DSs(M:Mx)(X:Cx)(T:À No)(f:Fs):Prop:=Ŕ->Ϥ2->ϴj T ϭL
section
variable{M:Mx}{X:Cx}{e a b c:On}{pos:Pos}
theorem peI(h:õ e t)(k:ϩO):õ e t':=ώl
theorem ptI(h:ϸ2 e t)(k:ϩO):ϸ2 e t':=ώl
theorem pwI(h:PW X e t)(k:ϩO):PW X e t':=λw p s a H Q I q=>h w p s a H Q I<|k a H Q q
theorem paI(h:ϰI es t)(k:ϩO):ϰI es t':=λP p s a H Q I q=>h P p s a H Q I<|k a H Q q
theorem poI(h:PO X o t)(k:ϩO):PO X o t':=ώl
theorem psI{T:No}(h:ϱU T t)(k:ϗi):ϱU T t':=ϕo
theorem Rk{T:À No}(h:ϴj T t)(k:ϗi):ϴj T t':=ϕo
theorem ai(i:Nat)(hN:Û (Α=ö))(hv:϶L)(hd:Ŭ)(hcd:ő ϵd):ê (î pos) (aa i):=λ_ _=>peI ϶R λ_ _ _ h=>VA h
theorem ba{i:Int}{j}:ê (μ (Ä i) pos) (eC<|Ä i):=λ_ _=>ϩQ S7 (Ä i)
theorem QG{j}:ê (μ (í i) pos) (eC<|í i):=λ_ _=>ϩQ Qi (.bl i)
theorem bH{j}:ê (μ (Æ x) pos) (eC<|Æ x):=λ_ _=>ϩQ jQ (Æ x)
theorem d4{i:Int}(hg:ϰY)(m:∃t,ϹZ=Â (Ä i t))(d:Ŭ):ê (î pos) (eC<|Ä i):=λ_ _=>
 let⟨t,e⟩:=m
 ϩQ (vH (v:=Ä i) hg e ϪH d) (Ä i)
theorem KR(hg:ϰY)(m:∃t,ϹZ=Â (Æ i t))(d:Ŭ):ê (î pos) (eC<|Æ i):=λ_ _=>
 let⟨t,e⟩:=m
 ϩQ (vH (v:=Æ i) hg e ϪH d) (Æ i)
theorem ef(h:ê e fa):ê e (Y0 fa):=ϰt peI ŝ KN
theorem RE(h:ê e fa):ê e (Cv fa):=ϰt peI ŝ Xe
theorem xR(h:ϴg e ta):ϴg e (uu ta):=ϰt ptI ŝ R4
theorem aK(j:ϘP)(hg:Ŕ->δ r g)(A:ê a fa)(B:ê b fb):ê ϘQ Ϫx:=λh m=>peI (W_ j ϥs<|B h m) (ū (όG q))
theorem wj(j:Ϙ7)(hg:Ŕ->Ok1 M r g)(A:ê a fa):ê ϘR (Zg g fa):=λh m=>peI (Wy j ϥs) (ū (Ya (hg h) q))
theorem sx(j:ϭm)(hg:Ŕ->δ r g)(A:ê a fa)(B:ê b fb)(H:å ϩ1):ê Ϭ6 Ϫx:=λh m=>peI (M1 j ϥs (B h m) H) (ū (όG q))
theorem bV(j:ϭm)(hg:Ŕ->δ r g)(A:ê a fa)(B:ê b fb)(c:å ϩ1):ϴg Ϭ6 (av Ϫx):=λh m=>
 ptI (Oy j ϥs (B h m) c) λe H Q q=>by let(F,d,f,S,p):=Kx q;show όG ⟨F,d,f,S,p⟩
theorem Um(h:ê e fa)(he:Ũ (∀whole,ϭH whole=(do let v <-whole;standAt e.pos;holding [v] (truthy v))) mqae._auto_1):ϴg e (av fa):=ϰt ptI (Tn ŝ he) d_b
theorem Up(h:ϴg a ta):ϴg ϩU (iK ta):=ϰt ptI (Rf ŝ) T1
theorem MZ(h:ϴg a ta):ϥQ (ϲV And [a]) ta:=λr m=>Ob ŝ
theorem rY(h:ϴg a ta):ϥQ (ϲV Or [a]) ta:=λr m=>Tt ŝ
theorem Ua{rest:À On}(h:ϴg a ta)(k:ϥQ (ϲV And ϶h) tb):ϥQ (ϲV And<|a::϶h) (B3 ta tb):=ϰt pwI (Q0 ŝ Ϭh) SQ
theorem tM{rest:À On}(h:ϴg a ta)(k:ϥQ (ϲV Or ϶h) tb):ϥQ (ϲV Or<|a::϶h) (mI ta tb):=ϰt pwI (Vr ŝ Ϭh) Wx
theorem AK(h:ϥQ e ta):ϴg e ta:=λr m=>(ŝ).pt
theorem LM{op}(h:ê a fa):ê Ϙv fa:=λr m=>IJ ŝ
theorem Ip{rest:À On}(h:ê a fa)(k:ê (ϲV And ϶h) fb):ê (ϲV And<|a::϶h) (Ab fa fb):=ϰt peI (HY ŝ Ϭh) WB
theorem Rz(h:ê a fa):ê ϩU (Gx fa):=ϰt peI (Ko ŝ) VD
theorem KG(h:ϴg c ta)(A:ê a fa)(B:ê b fb):ê Ϙ4 (eIf ta fa fb):=ϰt peI (KJ ŝ ϴP ϸD) XM
theorem aB:DA M X [] ah:=λ_ _=>paI gT (ū (SY q))
theorem aj(h:ê e fa)(r:ϻr es)(S:Û (à Ō=ϰL (à es))):DA M X Ō (ό6 al):=λk m=>paI (dH (h k m) (r k m) S) (ū (Mk q))
theorem e_{x1}(h:ϻr es):ê (ϳx x1 pos) (dZ al):=ϰt peI (Jm ŝ) Wu
theorem df(h:ϻr es):ê (.List es pos) (bz al):=ϰt peI (Ui ŝ) Xp
theorem aO:DO M X none bT:=λ_ _=>poI MB (ū (Nc q))
theorem qR(h:ê e fa):DO M X ϻF (bc fa):=ϰt poI (O_ ŝ) OF
theorem cE{l hi:Ú On}{L f:Fo}(hr:SlR X r)(hg:Ŕ->OkS M r g)(h:ê e fa)(a:DO M X l L)(c:DO M X hi f):
  ê (ŧ e (.Slice l hi none p2) pos) (Z_ g fa L f):=λk m=>peI (ϛL<|c k m) (ū (Yu (hg k) q))
theorem oZ(hr:ϸS r)(hg:Ŕ->δ r g)(A:ê a fa)(B:ê b fb)(S:vM b):ê (ŧ a b pos) Ϫx:=λh m=>peI (FH hr ϥs (B h m) S) (ū (όG q))
theorem lI{id:String}(hc:ϴq (ŋ id) r)(j:Ŕ->ϩw r g)(hg:ϰY)(H:Ϻ9)(v:Ϸ6=Â (ŋ id))(A:ϻr Ō)(n:ő Ϸ5)(d:Ŭ)(he:Û (à Ō=ϰL (à es)))(l:Û (ϰv<|ϳq<|à es)):
  ê (Χ (î p) Ō pos) ϓD:=λh m=>peI (pI hc hg H v ϥs n d he l) (ū (WO (j h) q))
theorem Qn(hc:ϴq (Ĳ T) r)(j:Ŕ->ϩw r g)(hg:ϰY)(H:Ϻ9)(v:Ϸ6=Â (Ĳ T))(A:ϻr Ō)(n:ő Ϸ5)(d:Ŭ)(he:Û (à Ō=ϰL (à es)))(l:Û (ϰv<|ϳq<|à es)):
  ê (Χ (î p) Ō pos) ϓD:=λh m=>peI (HF hc hg H v ϥs n d he l) (ū (WO (j h) q))
theorem O1(F:Ϧt M.K M.mg CX)(hr:ϴr X.A)(hg:ϰY)(H:M.mg x=Â (Å f))(h:ϧV M.K (Å f))(B:ϧG M.K [])(a:ϥq CX M.E)(A:ϻr Ō)(d:Ŭ)(he:Û (à Ō=ϰL (à es)))(l:Û (ϰv<|ϳq<|à es)):
  ê (Χ (î p) Ō pos) ϒB:=λr m=>by
 let b:Ϧt X.K X.mg CX:=by rw[r,m];show F
 show peI (NT b hr hg (by rw[m];show H) (by rw[r];show h) (by rw[r];show B) Ā a ϴP d he l) (ū (Ul q))
theorem tJ(h:ê e fa):ϸp e (de fa):=ύ1 (FQ (tg:=tg) ŝ) Sx
theorem JU(hg:ϧt)(b:ϦO)(h:ê a fa)(S:Û (à [a]=ϰK Υ (à [])))(c:Û (à [a]=ϸI Υ)):ϸp (ϳo "range" [a]) (iR1 fa):=λk m=>λi s d H r I z=>Hi hg b (ώU k m) c i s d H r I<|Yx z
theorem VR(hg:ϧt)(e:ϦO)(h:ê a fa)(k:ê b fb)(c:Û (à ϴ4=ϰK Υ (à [b])))(S:Û (à [b]=ϰK ϵl (à [])))(f:Û (à ϴ4=ϧA Υ ϵl))(d:Û (à [b]=ϸI ϵl)):ϸp (ϳo "range" ϴ4) (iR2 fa fb):=λK m=>λi s g H r I z=>Hk hg e (ϔI K m) f d i s g H r I<|Ye z
theorem NC(hg:Ϯk)(b:ϭt)(h:ê a fa)(S:Û (à [a]=ϰK Υ (à [])))(c:Û (à [a]=ϸI Υ)):
  ώW (ϳo "enumerate" [a]) (iEn fa):=ύ1 (OS (es:=ts) (k:=tk) (tpos:=tpos) (p:=p) (pos:=pos) hg b (ώU r m) c) TL
theorem r_(hg:Gl X "zip")(e:X.mg "zip"=none)(h:ê a fa)(k:ê b fb)(c:Û (à ϴ4=ϰK Υ (à [b])))(S:Û (à [b]=ϰK ϵl (à [])))(f:Û (à ϴ4=ϧA Υ ϵl))(d:Û (à [b]=ϸI ϵl)):ώW (ϳo "zip" ϴ4) (iZp fa fb):=ύ1 (Ti (es:=ts) (k:=tk) (tpos:=tpos) (p:=p) (pos:=pos) hg e (ϔI r m) f d) Vf
theorem rG{α:Type}{N:À α}{i:Nat}{x:α}(h:N[i]?=ö):ϓE:=ϲE
theorem pgI(h:PG X tg t)(k:ϖg):PG X tg t':=λp s a H v u Q I r q=>ϔW<|ϱR _ _ q
theorem V_(h:Ϥa tg t)(k:ϖg):Ϥa tg t':=λp s a H v u Q I r q=>ϔW<|ϱR _ _ q
theorem bR(h:X.N.Nodup)(hi:Α=ö)(H:ϲg x)(f:Ũ (ϲW\/ϱV=Â Ţ) mqac._auto_1):DG M X (î pos) [i] (Re i):=λ_ _=>pgI (FD h hi H f) λ_ _ _ _ q=>IB (rG hi) q
theorem kC:ϫ2 [] [] cW:=λ_ _=>V_ Pu (ύv q WU)
theorem bI(h:DG M X e is g)(k:ϫ2 es js gs)(S:Û (Î (ϳt Ō) Ī=assign e X.env::Î (ϳt es) Ī)):ϫ2 Ō (is++js) (az g gs):=λr m=>V_ (HM ŝ Ϭh S) (ύv q Sr)
theorem pQ(hc:Ź)(h:ϫ2 es is gs)(H:Û (Ã (ϳt es)=n))(S:Û ((ϳt es).findIdx? Ļ=none)):DG M X (ϳx k pos) is (gTp n gs):=λr m=>by let q:=Uv (pos:=pos) (k:=k) hc ŝ H S;rw[r]at q;show pgI q (ύv z Va)
variable{st:No}{rest sa sb:À No}
theorem aP:ϻG [] Z9:=λ_ _=>Rk NO (ū (Sv q))
theorem af(h:Λ st f)(k:ϻG rest g):ϻG (st::rest) (ao f g):=ϰt Rk (B7 ŝ Ϭh) Wt
theorem aw(h:Λ st f):ϻG [st] f:=λr m=>Fp ŝ
theorem IL:Λ st q_:=λ_ _=>psI Kj (ū (Vv q))
theorem Pq(h:ê e fa)(S:Û (ϤJ none pos.line X.env=϶b)):Λ (ϻ9 e pos) (o_ fa):=ϰt psI (Er ŝ S) Rj
theorem bN(h:ê e fa):Λ (.Return ϻF pos) (bF fa):=ϰt psI (Kl ŝ) Xv
theorem M7(i:Nat)(hN:Û (Α=ö))(hv:϶L)(hd:Ŭ)(hcd:ő ϵd):Λ (.Return (Â<|î p) pos) (fk i):=λ_ _=>psI (Kl ϶R) (ū (Uc q))
theorem cA(h:ϴg c ta)(A:ϻG sa f)(B:ϻG sb g):Λ (.If c sa sb pos) (Z4 ta f g):=ϰt psI (Xn ŝ ϴP ϸD) X4
theorem xI(i:Nat)(h:Λ st f):Λ st (pW i f):=ϰt psI ŝ Xy
theorem cw(n:X.N.Nodup)(hi:Α=ö)(H:ϲg x)(h:ê e fa)(S:Û (ϤJ (Â<|î p) pos.line X.env=϶b))(f:Ũ (ϲW\/ϱV=Â Ţ) mqac._auto_1):Λ (Ϻ3<|î p) (ay i fa):=λr m=>psI (Jb n hi H ŝ S f) (ū (Ih (rG hi) q))
theorem R7(h:ê e fa)(hg:ϧg X)(S:Û (ώM tg=϶b))(w:Û (ώJ tg))(H:Û (Î (ϳt [tg]) Ī=[Ϻ0 tg])):Λ (Ϻ3 tg) (JD fa gg):=ϰt psI (Il ŝ (hg r m) S w H) PH
theorem CT(n:X.N.Nodup)(hi:Α=ö)(H:ϲg x)(h:ê e fa)(j:PIp X op ti)(hg:Ŕ->δ ti gd)(f:Ũ (ϲW\/ϱV=Â Ţ) mqac._auto_1):Λ (.AugAssign (î p) op e pos) (D3 i gd fa):=λr m=>psI (RA n hi H ŝ j f) (ū (WY (rG hi) (hg r) q))
theorem bU{it:Fi}(hc:Ź)(p:PassesOwn ϰj X.A X.env X.xe)(hi:ϸp iter it)(hg:ϧg X)(B:ϻG body f)(S:ϸ4):Λ ϖW (dJ it gg f):=ϰt psI (TM p hc (hi r m) (hg r m) ϸD S) Xu
theorem By(p:PassesOwn ϰj X.A X.env X.xe)(h:ϴg c ta)(B:ϻG body f):Λ ϗN (gR ta f):=ϰt psI (L6 p ŝ ϸD) O3
variable{x:Str}{p ap cp:Pos}
theorem O8{id:String}(slot:Slot "list" name id)(y:typeOf (ŋ id)=pure (Ĳ "method_descriptor"))(m:ϵF id r)(j:õ o to)(A:ϰI [e] t)(k:∀D a H,ϭL D a H->xK (tBM M.K "list" r to t) D a H)(b:ύ6)(w:ě ((ϲC<|à [e]).all ϵ5&&ϸ5&&Ë (Ã ([e]:À On)+Ã ([]:À Keyword)+(Ì ((ϵL ([]:À Keyword))) 0 1)<30)))(h:ϷY)(S:à [e]=ϰL (à []))(l:ϰv (ϲC<|à []))(s:ϩD (ϲl o name ap))(K:Ŕ):ϱU (ϻ9 (Χ (ϲl o name ap) [e] cp) pos) ϭL:=by let q:=ϗS slot y m j A b w h S l;rw[K]at q;show psI (Er q s) k
theorem N8(h:ê e fa)(S:à [e]=ϰL (à []))(r:Ŕ)(m:Ϥ2):ϰI [e] (t_ (ϦU fa) Co):=ϷV ŝ S
theorem C8(i:Nat)(h:ê e fa)(hN:Û (Α=ö))(hv:϶L)(hd:Ŭ)(hcd:ő ϵd)
  (hbase:Û (Ϭt (î p) "append"))
  (hfew:Û (ě<|(ϲC<|à [e]).all ϵ5&&ϸ5&&Ë (Ã ([e]:À On)+Ã ([]:À Keyword)+(Ì ((ϵL ([]:À Keyword))) 0 1)<30)))
  (hline:Û ϷY) (hs:Û (à [e]=ϰL (à []))) (hplain:Û (ϰv<|ϲC<|à []))
  (hsw:Û (ϩD<|ϲl (î p) "append" ap)):Λ (ϻ9 (Χ (ϲl (î p) "append" ap) [e] cp) pos) (kE i fa):=ϻ0 (ϔQ ϶R Ϯg (ū<|WV q) hbase hfew hline hs hplain hsw hK)
theorem T4(i:Nat)(h:ê e fa)(hN:Û (Α=ö))(hv:϶L)(hd:Ŭ)(hcd:ő ϵd)
  (hbase:Û (Ϭt (î p) "extend"))
  (hfew:Û (ě<|(ϲC<|à [e]).all ϵ5&&ϸ5&&Ë (Ã ([e]:À On)+Ã ([]:À Keyword)+(Ì ((ϵL ([]:À Keyword))) 0 1)<30)))
  (hline:Û ϷY) (hs:Û (à [e]=ϰL (à []))) (hplain:Û (ϰv<|ϲC<|à []))
  (hsw:Û (ϩD<|ϲl (î p) "extend" ap)):Λ (ϻ9 (Χ (ϲl (î p) "extend" ap) [e] cp) pos) (H0 i fa):=ϻ0 (ϔR ϶R Ϯg (ū<|Xb q) hbase hfew hline hs hplain hsw hK)
theorem xu(i:Nat)(hb:ê b fb)(h:ê e fa)(hix:vM b)(hN:Û (Α=ö))(hv:϶L)(hd:Ŭ)(hcd:ő ϵd)(hbase:Û (Ϭt (ŧ (î p) b p2) "append"))(hfew:Û (ě<|(ϲC<|à [e]).all ϵ5&&ϸ5&&Ë (Ã ([e]:À On)+Ã ([]:À Keyword)+(Ì ((ϵL ([]:À Keyword))) 0 1)<30)))(hline:Û ϷY)(hs:Û (à [e]=ϰL (à [])))(hplain:Û (ϰv<|ϲC<|à []))(hsw:Û (ϩD<|ϲl (ŧ (î p) b p2) "append" ap)):Λ (ϻ9 (Χ (ϲl (ŧ (î p) b p2) "append" ap) [e] cp) pos) (nN i fb fa):=ϻ0 (ϔQ (Ϛc ϶R ϧC hix) Ϯg (ū<|Nt q) hbase hfew hline hs hplain hsw hK)
theorem zN(i:Nat)(hb:ê b fb)(h:ê e fa)(hN:Û (Α=ö))(hv:϶L)(hd:Ŭ)(hcd:ő ϵd)(hs:Û (ώM (ŧ (î p) b p2)=϶b))(hw:Û (ώJ<|ŧ (î p) b p2))(ha:autoParam (∀v,Ϻ0 (ŧ (î p) b p2) v=(do
   let ov <-holding [v] (eval (.Name x p) X.env)
   let iv <-holding [v,ov] (eval b X.env)
   standAt p2
   holding [v,ov,iv] (setItem ov iv v)
   release [v,ov,iv] [])) mqae._auto_1)(h1:Û (Î (ϳt [ŧ (î p) b p2]) Ī=[Ϻ0 (ŧ (î p) b p2)])):Λ (Ϻ3<|ŧ (î p) b p2) (Af i fb fa):=ϻ0 (psI (Il ϓF (SD ϶R ϧC set_list ha) hs hw h1) (ū (Vc q)))
variable{outs:À ϳ2}{it:Fi}
theorem JL:DF M X [] cO:=λ_ _=>λi s a H Q I q=>Lf i s a H Q I (by let(F,b,f,S,p):=q;show p F H ϐi)
theorem zB(h:ϴg c ta):DF M X [c] ta:=λr m=>Tx ŝ
end
def oI(i:Int):ď:=Ý<|Ä i
def oB(b:Bool):ď:=Ý<|í b
def oD(d:Go):ď:=.ok Ř
def aF:ζ
 |.int i,.int j=>oI<|i+j
 |.str x,.str y=>Ì Ϗx (oD (Æ<|x++y)) Í
 |.list xs,.list ys=>Ì ϩT (ψ ϫ0) Í
 |_,_=>Í
def eA:ζ|.int i,.int j=>oI<|i-j|_,_=>Í
def o6(i j:Int):Bool:=ϚW ϷZ
def fV:ζ
 |.int i,.int j=>Ì ϪJ (oI (i*j)) Í
 |.list xs,.int k=>@ite _ (ě<|Ë (-϶H<=k)&&Ë (k<϶H)&&Ë (xs.length*k.toNat<=H6)) ϷZ (Ď<|Ϲu (ŗ k.toNat xs) OD.sh) Í
 |_,_=>Í
def du:ζ
 |.int i,.int j=>Ì (0<j) (oI (i%j)) Í
 |_,_=>Í
def eQ:ζ|.int i,.int j=>@ite _ ϏM ϷZ (oI<|i / j) Í|_,_=>Í
def cD:Go->ď|.int i=>oI<|-i|_=>Í
def gLt:ζ|.int i,.int j=>oB<|Ë<|i<j|_,_=>Í
def gLe:ζ|.int i,.int j=>oB<|Ë ϵN|_,_=>Í
def gGt:ζ|.int i,.int j=>oB<|Ë<|j<i|_,_=>Í
def gGe:ζ|.int i,.int j=>oB<|Ë<|j<=i|_,_=>Í
def pB(x y:Go):϶y:=Ì (ě (SeqAt.shaped x&&SeqAt.shaped y)) (Ħ (PyData.eqv x y)) Í
def eqD:Go->Go->϶y|.int i,.int j=>.ok<|Ë<|i=j|.str x,.str y=>.ok<|Ë<|x=y|.bool x,.bool y=>.ok<|Ë<|x=y|x,y=>pB x y
def Zp(x y:Go):ď:=ï (eqD x y) λb=>oB b
def gNe(x y:Go):ď:=ï (eqD x y) λb=>oB<|!b
def dq(o:Ú Go):ď:=match o with
 |some d=>oD d
 |none=>Í
def Rg:ζ
 |.list xs,.int i=>dq<|Y9 xs i
 |.tuple xs,.int i=>dq<|Y9 xs i
 |.str z,.int i=>Ì ϧp (dq (Î ϐh λc=>Æ Š)) Í
 |_,_=>Í
def cutD(X:À Go)(l hi:Ú Int):À Go:=ý ϗt<|ϸ6 HT.Ze X.length
def iC(x:Go)(l hi:Ú Int):ď:=match x with
 |.list xs=>ψ<|cutD xs l hi
 |_=>Í
def bq:À Go->ď
 |[.list xs]=>oI xs.length
 |[.tuple xs]=>oI xs.length
 |[.str x]=>Ì (Ϩb H6) (oI x.length) Í
 |_=>Í
def BY:À Go->ď
 |[.int i,.int j]=>oI (ϺU<|j<i)
 |_=>Í
def EU:À Go->ď
 |[.int i,.int j]=>oI (ϺU<|i<j)
 |_=>Í
def eP:À Go->Ú (À Int)|[]=>Â []|.int i::r=>Î (eP r) (i:: ·)|_::_=>none
theorem ePi{i r}:eP (.int i::r)=Î (eP r) (i:: ·):=rfl
theorem lQ:∀R:À Int,eP ϰQ=ϥR:=by
 ext y
 induction y with|nil=>show rfl|cons n R ih_=>rw[W1,ePi,ih_];rfl
theorem m_:∀{d:À Go}{R:À Int},eP d=ϥR->d=ϰQ
 |[],R,h=>ϐ4
 |.int i::r,R,h=>by rw[ePi]at h;let(ms,H,rfl):=Ϸp;rw[m_ H];rfl
 |.none::_,_,h=>ϰn
 |.bool _::_,_,h=>ϰn
 |.str _::_,_,h=>ϰn
 |.list _::_,_,h=>ϰn
 |.tuple _::_,_,h=>ϰn
 |.dict _::_,_,h=>ϰn
def oG:Int->À Int->Int|m,[]=>m|m,n::ns=>oG (ϺV<|m<n) ns
theorem oG1{m n:Int}{ns}:oG m (n::ns)=oG (ϺV<|m<n) ns:=rfl
def zF:Int->À Int->Int|m,[]=>m|m,n::ns=>zF (ϺV<|n<m) ns
theorem zF1{m n:Int}{ns}:zF m (n::ns)=zF (ϺV<|n<m) ns:=rfl
def jY:À Go->ď
 |[.list ds]=>match eP ds with
  |some (n::ns)=>oI<|oG n ns
  |_=>Í
 |_=>Í
def rD:À Go->ď
 |[.list ds]=>match eP ds with
  |some (n::ns)=>oI<|zF n ns
  |_=>Í
 |_=>Í
def kz:À Go->ď|[.list ds]=>Ď ϸa|[.tuple ds]=>Ď ϸa|_=>Í
def Cq:À Go->ď
 |[.int i]=>oI i
 |[.bool b]=>oI Ϙw
 |_=>Í
def Dz(d:À Go)(y:Go):ď:=match y with
 |.int z=>match eP d with
  |some ns=>Ì (z∈ns) (oI (ns.idxOf z:Nat)) Í
  |none=>Í
 |_=>Í
def QS:Go->Ú String|.int _=>some "int"|.bool _=>some "bool"|.str _=>some "str"|.list _=>some "list"|.tuple _=>some "tuple"|.none=>some "NoneType"|.dict _=>none
def MN(T:String)(d:Go):ϪK:=match QS d with
 |some U=>if ϬB then Â (Ë ώ0)else none
 |none=>none
def CD(T:String)(x:Go):ď:=match MN T x with
 |some b=>oB b
 |none=>Í
section
variable{M:Mx}{X:Cx}
theorem okI{i:Int}(s:ϲu)(p:ă fp ŀ (oI i)):Ο (Ä i):=ϵg<|Ä i
theorem okB(s:ϲu)(p:ă fp ŀ (oB i)):Ο (.bl i):=ϵg<|.bl i
def PB(K:Ch):R2:=ž (∃l b X zs,x=Å l/\y=Å b/\ϸz l X/\ϸz b zs/\Ĕ (ϻB zs.length)/\∀p,ϳ7->Q (Å p) (Į p<|Ă<|X++zs))
theorem NR:ϵh Add (PB X.K):=by
 ext p s j H x y v u Q I R Y h;let(l,b,S,zs,rfl,rfl,c,B,Z,q):=h;cases R;cases Y;let(z,t,n,r,d,e):=c.obj I;let(f,i,N,m,L,g):=B.obj I;apply PySem.P.add_list e g ?_ (ξ K9W K9W);let a:t.toArray++i.toArray=ϸO (t++i):=Ø
 rw[a];show(Å _,_,I.lnew (t':=s.toks) (r.append m) (ñ S5),rfl,q _ I.fresh)
def PR(K:Ch):R2:=ž (rI0 (λi j=>Ä<|i+j) x y H Q\/(∃i j,x=Æ i/\y=Æ j/\Ĕ ϭ3/\Q (Æ<|i++j) H)\/PB K x y H Q)
theorem aI:ϵh Add (PR X.K):=S4.or<|Du.or NR
set_option tactic.hygienic true in
theorem aY(r:Ŕ):δ (PR X.K) aF:=by
 rw[r];ext x y d D F H f Q s R Y p;cases R with
 |int _=>cases Y with|int _=>show È (ϓt ϳB)|_=>show False.elim p
 |str i=>
  cases Y with
  |str j=>
   change ă f _ (Ì (i.length+j.length<=H6) (oD (Æ<|i++j)) Í) at p;split at p
   .rename_i h
    show Ñ<|È ⟨_,_,rfl,rfl,hR h,ϵg<|Æ _⟩
   show p.elim
  |_=>show False.elim p
 |lst h1 h2=>
  cases Y with
  |lst h3 h4=>
   delta aF at p;dsimp only at p;split at p
   .rename_i h
    show Ñ<|Ñ ⟨_,_,_,_,rfl,rfl,ϓ6,h3.same s,ϱq ϴK όE (hR h),λa A=>ϪL (D1.app h2 h4) A⟩
   show p.elim
  |_=>show False.elim p
 |_=>show False.elim p
theorem wV:δ (rI0 λi j=>Ä<|i-j) eA:=by
 ext x y d D F H f Q s R Y p;delta eA at p;split at p
 .cases R;cases Y
  show(_,_,rfl,rfl,ϳB)
 show p.elim
theorem MO{i j:Int}(h:ϪJ):HW i j:=(ϬE ϷZ).mp h
def Qw(K:Ch):R2:=λx y H Q=>∃l k X,x=Å l/\y=Ä k/\ϸz l X/\-϶H<=k/\k<϶H/\Ĕ (X.length*k.toNat)/\
 ∀p,ϳ7->Q (Å p) (Į p<|Ă (ϳK (ŗ k.toNat X)))
theorem Om:ϵh Mult (Qw X.K):=by
 ext p s E H x y v u Q I R Y h;let(l,k,D,rfl,rfl,B,j,A,Z,q):=h;cases R;let(t,rfl):=Y;let(z,i,n,r,C,e):=B.obj I;let L:Ĕ Ϗj:=by rw[K9W,<-C];show Z
 let c:¬Ϗj > (϶H-1) / 8:=by
  let:ϰC sizeLine<=(϶H-1) / 8:=Õ
  lia
 let f:¬(!Builtin.List.listFitsIndex k)=true:=Ù (fitsIndex_both j A) Zy
 let o:¬Γ Builtin.List.listTooLong Ϗj:=Ù (Ce L) Zy
 let w:ϕR (ŗ (Ì (ě i.toArray.isEmpty) 0 k.toNat) i.toArray) (ŗ k.toNat i):=by
  let g:∀m:Nat,ϕR (ϧi i.toArray) (ϧi i):=λm=>϶N (foldl_rep i m []) K9B
  rw[g];cases i with|nil=>simp|cons a r'=>rw[P3 Ø]
 apply wpAny_binaryOp_repeat_ref (T:="list") (U:="int") Õ Ϫo (λS=>typeIs_int S k t) noFill_list_mul F.fills_int_mul F.slot_int_rmul repeat_list F.slot_int_index.lookup
  (K86 F.slot_int_rmul (typeIs_int s k t) F.entry_int_rmul (F.args_int_rmul_2 _ _) (int___rmul___int_list k t l i.toArray n)
   ⟨e,rfl,Ϫo,K86 F.slot_list_mul Ϫo F.entry_list_mul (F.args_list_mul_2 _ _) (AutoListH.list___mul___list_int_3 l i.toArray n k t f c o) ⟨e,?_⟩⟩)
 rw[w];show(Å _,_,I.lnew (t':=s.toks) (r.rep k.toNat) (by rw[len_rep,Zdu];show Z),rfl,q _ I.fresh)
def P_(K:Ch):R2:=ž (rI HW (λi j=>Ä<|i*j) x y H Q\/Qw K x y H Q)
theorem qF:ϵh Mult (P_ X.K):=R9.or Om
theorem D1.rep{K:Ch}{F:Hp}{s:À V}{d:À Go}(h:Ű s d):∀k:Nat,Ű ((ϳK (η s))) ((ϳK (η d)))|0=>Ā|k+1=>ϖ2 D1.app D1.rep
set_option tactic.hygienic true in
theorem uw(r:Ŕ):δ (P_ X.K) fV:=by
 rw[r];ext x y d D F H f Q s R Y p;cases R with
 |int i=>
  cases Y with
  |int j=>
   delta fV at p;dsimp only at p;split at p
   .rename_i hc
    show È ⟨_,_,rfl,rfl,MO hc,ϳB⟩
   show p.elim
  |_=>show False.elim p
 |lst h1 h2=>
  cases Y with
  |int k=>
   delta fV at p;dsimp only at p;split at p
   .rename_i hc
    rw[K9U,K9U,K9k,K9k,K9k]at hc;show Ñ ⟨_,_,_,rfl,rfl,ϓ6,hc.1.1,hc.1.2,Ù ϴK (hR hc.2),λa A=>ϪL (D1.rep h2 _) A⟩
   show p.elim
  |_=>show False.elim p
 |_=>show False.elim p
set_option tactic.hygienic true in
theorem ug:δ (ϙB<|λi j=>Ä<|i%j) du:=by
 ext x y d D F H f Q s R Y p;delta du at p;split at p
 .cases R;cases Y
  split at p
  .rename_i hc
   show(_,_,rfl,rfl,hc,ϳB)
  show p.elim
 show p.elim
set_option tactic.hygienic true in
theorem AE:δ (rI UG λi j=>Ä<|i / j) eQ:=by
 ext x y d D F H f Q s R Y p;delta eQ at p;split at p
 .cases R;cases Y
  split at p
  .rename_i hc
   show(_,_,rfl,rfl,hc,ϳB)
  show p.elim
 show p.elim
theorem rZ:Ok1 M (rU λi=>Ä<|-i) cD:=by
 ext x d F H f Q s R p;delta cD at p;split at p
 .cases R
  show(_,rfl,ϳB)
 show p.elim
theorem Vy:δ (Ϲo<|Ë<|i<j) gLt:=by
 ext x y d D F H f Q s R Y p;delta gLt at p;split at p
 .cases R;cases Y
  show(_,_,rfl,rfl,ϩx p)
 show p.elim
theorem Fv:δ (Ϲo<|Ë ϵN) gLe:=by
 ext x y d D F H f Q s R Y p;delta gLe at p;split at p
 .cases R;cases Y
  show(_,_,rfl,rfl,ϩx p)
 show p.elim
theorem sT:δ (Ϲo<|Ë<|j<i) gGt:=by
 ext x y d D F H f Q s R Y p;delta gGt at p;split at p
 .cases R;cases Y
  show(_,_,rfl,rfl,ϩx p)
 show p.elim
theorem VQ:δ (Ϲo<|Ë<|j<=i) gGe:=by
 ext x y d D F H f Q s R Y p;delta gGe at p;split at p
 .cases R;cases Y
  show(_,_,rfl,rfl,ϩx p)
 show p.elim
theorem D1.to2{K:Ch}{H:Hp}{s:À V}{d:À Go}(h:ϴf s d):ϗT->L2.D1 K H s d:=Ϥl (ϻ3 (ě d.canLay0->L2.Rep K H v d)) (ϻ3 (ϗT->L2.D1 K H v d)) (ϰs .Y4) (λb _=>ϰ0) (λi _=>Ä i) (λx _=>Æ x) (λh _ i c=>Ă h.sq ϕK) (λh _ i c=>č (SqT.of h) ϕK) (ϔC dD) (ϔC dtD) (ϰs Ā) (λ_ _ i j c=>by rw[PyData.canLayAll0,K9U]at c;show Ĉ (i c.1)<|j c.2)
theorem Rep.to2{K:Ch}{H:Hp}{v:V}{d:Go}(h:Ğ H v d)(c:ě d.canLay0):L2.Rep K H v d:=ϐF (D1.to2 (Ĉ h Ā) (by rw[PyData.canLayAll0,c];rfl))
def Xz(K:Ch):R2:=ž (rEq x y H Q\/W5 K x y H Q)
def VS(K:Ch):R2:=ž (rNe x y H Q\/WC K x y H Q)
theorem rP(U:ϲD 64):ϳr Eq (Xz X.K):=Wn.or<|RS U
theorem uj(U:ϲD 64):ϳr NotEq (VS X.K):=V9.or<|TY U
set_option tactic.hygienic true in
theorem Js{K:Ch}{F H:Hp}{f:À Ix}{x y:V}{d D:Go}{P:ϓG}(R:Ğ F x d)(Y:Ğ F y D)(p:ă f P (eqD d D)):
  (ϒM/\P (Ë<|x=y))\/(ϭK/\SeqAt.shaped D=true/\P (ϑh D)):=by
 have z:ă f P (pB d D)->(ϒM/\P (Ë<|x=y))\/(ϭK/\SeqAt.shaped D=true/\P (ϑh D)):=by
  intro p;delta pB at p;split at p
  .rename_i h
   rw[K9U]at h;show Ñ ⟨h.1,h.2,p⟩
  show p.elim
 cases R with
 |int i=>
  cases Y with
  |int j=>
   apply È (ϲx ?_);have e:Ë (V.int i=V.int j)=Ë (i=j):=by
    by_cases h:i=j
    .rw[h];simp
    rw[ϲR,Pi (ϻP V.int.inj)]
   rw[e];show p
  |_=>show z p
 |str i=>
  cases Y with
  |str j=>
   apply È (ϲx ?_);have e:Ë (V.str i=V.str j)=Ë (i=j):=by
    by_cases h:i=j
    .rw[h];simp
    rw[ϲR,Pi (ϻP V.str.inj)]
   rw[e];show p
  |_=>show z p
 |bl i=>
  cases Y with
  |bl j=>
   apply È (ϲx ?_);have e:Ë (V.bl i=V.bl j)=Ë (i=j):=by
    by_cases h:i=j
    .rw[h];simp
    rw[ϲR,Pi (ϻP V.bl.inj)]
   rw[e];show p
  |_=>show z p
 |_=>show z p
theorem xq(r:Ŕ):δ (Xz X.K) Zp:=by
 rw[r];ext x y d D F H f Q s R Y p;rcases Js R Y Ϸe with⟨h,q⟩|⟨a,b,q⟩
 .exact È ⟨h,ϩx q⟩
 show Ñ ϔy
theorem yJ(r:Ŕ):δ (VS X.K) gNe:=by
 rw[r];ext x y d D F H f Q s R Y p;rcases Js R Y Ϸe with⟨h,q⟩|⟨a,b,q⟩
 .exact È ⟨h,ϩx q⟩
 show Ñ ϔy
theorem EH{K:Ch}{F:Hp}{S:À V}{s:À Go}{i:Int}{d:Go}(h:Ű S s)(e:Y9 s i=Ω):∃v,Y9 S i=ú/\Ğ F v d:=by
 delta Y9 at e⊢;rw[D1.len h];cases q:ixN s.length i with
 |none=>rw[q]at e;cases e
 |some j=>rw[q]at e;let(v,H,a):=D1.get h e;show(v,H,a)
set_option tactic.hygienic true in
theorem oM(k:Ŕ):δ (rIx X.K) Rg:=by
 rw[k];ext x y D b F H f Q s R Y p;cases R with
 |lst h1 h2=>
  cases Y with
  |int i=>
   delta Rg dq at p;dsimp only at p;split at p
   .rename_i d h
    let(v,e,r):=EH h2 h;show È ⟨_,_,_,v,rfl,rfl,Ϥu,e,ϵg r⟩
   show p.elim
  |_=>show False.elim p
 |tup h1 h2=>
  cases Y with
  |int i=>
   delta Rg dq at p;dsimp only at p;split at p
   .rename_i d h
    let(v,e,r):=EH h2 h;show Ñ<|È ⟨_,_,_,v,rfl,rfl,SqT.of ϹE,e,ϵg r⟩
   show p.elim
  |_=>show False.elim p
 |str z=>
  cases Y with
  |int i=>
   delta Rg at p;dsimp only at p;split at p
   .rename_i a
    delta dq at p;split at p
    .rename_i d h
     let(c,hc,rfl):=Ϸp;show Ñ<|Ñ ⟨_,_,c,rfl,rfl,hR a,hc,ϵg<|Æ _⟩
    show p.elim
   show p.elim
  |_=>show False.elim p
 |_=>show False.elim p
theorem da(r:Ŕ):OkS M (Wc X.K) iC:=by
 rw[r];ext x l hi d F H f Q s R p;cases R with
 |@lst a vs ds h1 h2=>
  delta iC at p;dsimp only at p;apply(a,vs,rfl,Ϥu,λq h=>?_);apply ϪL ?_ h;delta B5 cutD;rw[ϴK];show Ϙr<|D1.drop _ h2
 |_=>show False.elim p
def Qq(K:Ch):À V->Hp->Ô VK:=Ϲ3 ((ϭd (X=[Å p]) K<|Ο (Ä y.length))\/(∃z,X=[Æ z]/\Ĕ z.length/\Ο (Ä z.length)))
theorem uP:ϴq (ŋ "len") (Qq X.K):=AH.or zC
set_option tactic.hygienic true in
theorem CS(k:Ŕ):ϧE Qq bq:=by
 rw[k];ext x d F H f Q s R p;cases R with
 |nil=>show False.elim p
 |cons h r=>
  cases r with
  |cons _ _=>cases h<;>show False.elim p
  |nil=>
   cases h with
   |lst h1 h2=>show È ⟨_,_,rfl,È Ϥu,Ù ϴK ϳB⟩
   |tup h1 h2=>show È ⟨_,_,rfl,Ñ<|SqT.of ϹE,Ù ϴK ϳB⟩
   |str x=>
    delta bq at p;dsimp only at p;split at p
    .rename_i a
     show Ñ ⟨_,rfl,hR a,ϳB⟩
    show p.elim
   |_=>show False.elim p
theorem Cu{K:Ch}{F:Hp}{x:À V}{i j:Int}(r:Ű x [Ä i,Ä j]):x=[Ä i,Ä j]:=by
 cases r with
 |cons h r=>
  cases h;cases r with|cons h r=>cases h;cases r;rfl
theorem NY:ϩw (Ϲ3<|∃i j,X=[Ä i,Ä j]/\Ο (Ä (ϺU<|j<i))) BY:=by
 ext x d F H f Q s R p;delta BY at p;replace p:=iik p;obtain⟨i,j,e,p⟩:=p;subst e;exact(_,_,Cu R,ϳB)
theorem MF:ϩw (Ϲ3<|∃i j,X=[Ä i,Ä j]/\Ο (Ä (ϺU<|j > i))) EU:=by
 ext x d F H f Q s R p;delta EU at p;replace p:=iik p;obtain⟨i,j,e,p⟩:=p;subst e;exact(_,_,Cu R,ϳB)
theorem mV:∀(R:À Int)(m:Int),oG m R∈m::R/\∀z∈m::R,z<=oG m R:=by
 ext y
 induction y with
 |nil=>ext m;show(Uf,ϕL)
 |cons n R ih_=>
  ext m;let(a,H):=ih_ (ϺV<|m<n);rw[oG1];let M:m<=(ϺV<|m<n):=Ϧ6
  let N:n<=(ϺV<|m<n):=Ϧ6
  let l:=H _ Uf;apply(?_,όB)
  .rcases Z7.mp a with h|h
   .rw[h]
    split<;>simp
   simp[h]
  rcases Z7.mp Z with rfl|Z
  .lia
  rcases Z7.mp Z with rfl|Z
  .lia
  show H z<|Ą Z
theorem ue:∀(R:À Int)(m:Int),zF m R∈m::R/\∀z∈m::R,zF m R<=z:=by
 ext y
 induction y with
 |nil=>ext m;show(Uf,ϕL)
 |cons n R ih_=>
  ext m;let(a,H):=ih_ (ϺV<|n<m);rw[zF1];let M:(ϺV<|n<m)<=m:=Ϧ6
  let N:(ϺV<|n<m)<=n:=Ϧ6
  let l:=H _ Uf;apply(?_,όB)
  .rcases Z7.mp a with h|h
   .rw[h]
    split<;>simp
   simp[h]
  rcases Z7.mp Z with rfl|Z
  .lia
  rcases Z7.mp Z with rfl|Z
  .lia
  show H z<|Ą Z
theorem BD{K:Ch}{F:Hp}{x:À V}{d:À Go}{R:À Int}(s:aH F H')(r:Ű x [Ö d])(e:eP d=ϥR):∃a,x=[Å a]/\Zv K H' a ϳu:=by
 cases r with
 |cons h r=>
  cases r;cases h with|lst h1 h2=>rw[m_ e]at h2;rw[ϑ4]at h1;show(_,rfl,Ϥu)
set_option tactic.hygienic true in
theorem vA(r:Ŕ):ϧE P6 jY:=by
 rw[r];ext x D F H f Q s d p;cases d with
 |nil=>show False.elim p
 |cons h r=>
  cases r with
  |cons _ _=>cases h<;>show False.elim p
  |nil=>
   cases h with
   |lst h1 h2=>
    delta jY at p;dsimp only at p;revert p;generalize e:eP _=o;intro p;cases o with
    |none=>show False.elim p
    |some l=>
     cases l with
     |nil=>show False.elim p
     |cons n R=>
      let(a,w,h):=BD s (.cons (.lst h1 h2) .nil) e;apply(a,n::R,w,h,Ø,λm b c=>?_);let(k,K):=mV R n;let e:oG n R=m:=Zcn (c _ k)<|K _ b;rw[<-e];show ϳB
   |_=>show False.elim p
set_option tactic.hygienic true in
theorem AO(r:Ŕ):ϧE P7 rD:=by
 rw[r];ext x D F H f Q s d p;cases d with
 |nil=>show False.elim p
 |cons h r=>
  cases r with
  |cons _ _=>cases h<;>show False.elim p
  |nil=>
   cases h with
   |lst h1 h2=>
    delta rD at p;dsimp only at p;revert p;generalize e:eP _=o;intro p;cases o with
    |none=>show False.elim p
    |some l=>
     cases l with
     |nil=>show False.elim p
     |cons n R=>
      let(a,w,h):=BD s (.cons (.lst h1 h2) .nil) e;apply(a,n::R,w,h,Ø,λm b c=>?_);let(k,K):=ue R n;let e:zF n R=m:=Zcn (K _ b)<|c _ k;rw[<-e];show ϳB
   |_=>show False.elim p
theorem Uy(k:Ŕ):ϧE VN kz:=by
 rw[k];ext x d F H f Q s R p;cases R with
 |nil=>show False.elim p
 |cons h r=>
  cases r with
  |cons _ _=>cases h<;>show False.elim p
  |nil=>
   cases h with
   |lst h1 h2=>show(_,_,rfl,È Ϥu,λl a=>ϪL h2 a)
   |tup h1 h2=>show(_,_,rfl,Ñ<|SqT.of ϹE,λl a=>ϪL h2 a)
   |_=>show False.elim p
theorem OR:ϩw (Ϲ3<|(∃i,X=[Ä i]/\Ο (Ä i))\/∃k,X=[.bl k]/\Ο (Ä Ϗu)) Cq:=by
 ext x d F H f Q s R p;cases R with
 |nil=>show False.elim p
 |cons h r=>
  cases r with
  |cons _ _=>cases h<;>show False.elim p
  |nil=>cases h with|int i=>show È ⟨_,rfl,ϳB⟩|bl k=>show Ñ ⟨_,rfl,ϳB⟩|_=>show False.elim p
def zD(T:String)(a:Fe):Fe:=λb=>Φ λx=>CD T x.er
def QI(K:Ch)(T:String):À V->Hp->Ô VK:=Ϲ3 (∃x d b,X=[x,.ty T]/\Ğ H x d/\MN T d=ż/\Ο ϰ0)
theorem Us{K:Ch}{T U:String}(h:ϔF)(t:ϬB):ϸv (Ĳ U) (Ĳ T)=Â (Ë ώ0):=by rcases h with rfl|rfl|rfl|rfl|rfl|rfl<;>rcases t with rfl|rfl|rfl|rfl|rfl<;>rfl
theorem Hr{K:Ch}{T U:String}{d:Go}{b:Bool}(k:QS d=some U)(h:ϔF)(e:MN T d=ż):ϸv (Ĳ U) (Ĳ T)=ż:=by
 delta MN at e;rw[k]at e;let E:(if ϬB then Â (Ë ώ0)else none)=ż:=e;by_cases t:ϬB
 .rw[Os t]at E
  rw[<-E];show Us h t
 rw[P3 t]at E;cases E
end
section
variable{M:Mx}{X:Cx}{e a b c:On}{pos:Pos}
theorem Hd(T:String):ϴq (ŋ "isinstance") (QI X.K T):=by
 ext P s g H S U Q I r h;let(x,d,b,rfl,R,e,q):=h;let(u,v,rfl,J,V):=Vals.two r;cases V;let fin:∀tk,ϵM P g Q (í b) {s with toks:=tk}:=λtk=>⟨ϰ0,H,I.tok tk,rfl,q⟩
 cases R with
 |Y4=>
  cases(ϻt<|u=Value.none);show ϭM PySem.W.kitx_none (όQ Ø e) ϶U fin
 |bl y=>
  cases(ϻt<|u=Value.bool y);show ϭM PySem.W.kitx_bool (όQ Ø e) ϶U fin
 |int i=>
  let(t,c):=(ϻt ϏD)
  cases c;show ϭM PySem.W.kitx_int (όQ Ø e) ϶U fin
 |str y=>
  let(t,c):=(ϻt<|∃t,u=Value.str y t)
  cases c;show ϭM PySem.W.kitx_str (όQ Ø e) ϶U fin
 |@lst a S ds h1 h2=>
  cases(ϻt<|u=Ϲq);let(_,f,n,_,_,he):=h1.obj I;show K8V PySem.W.kitx_list I.kIn (Ϭq he) (Hr (d:=Ö ds) rfl Ø e) ϶U fin
 |@tup a S ds h1 h2=>
  cases(ϻt<|u=Ϲq);let(_,_,_,p):=(ń (϶Z H s.heap a (č S))<|I.Y1 a _ h1)
  let(o,k,K,_):=p;show K8V PySem.W.kitx_tuple I.kIn ⟨o,k,K⟩ (Hr (d:=ä ds) rfl Ø e) ϶U fin
 |dct _ _ _=>have E:(none:ϪK)=ż:=e;cases E
 |dtt _ _ _=>have E:(none:ϪK)=ż:=e;cases E
set_option tactic.hygienic true in
theorem WH(h:ć (zD T fa) σ H Q):tCB (QI M.K T) (t_ (ć fa)<|t_ (tC<|.ty T) Co) σ H Q:=by
 let(F,a,f,S,p):=h;apply(F,a,f,S,Ķ Ϗa);let(G1,D,k):=ϳ9 w;delta CD at P;split at P
 .rename_i b B
  show(v,x.er,b,rfl,k.same D.fh,B,ϬI P ϰ0)
 show P.elim
theorem wZ(hg:Ϯb)(a:ϭo)(g:ϰY)(m:Ϻ9)(t:Ϸ6=Â (Ĳ T))(h:ê e fa)(n:ő Ϸ5)(d:Ŭ)(S:Û (à [e,î p2]=ϰL (à [î p2])))(s:Û (à [î p2]=ϰK (ϲY (î p2)) (à [])))(l:Û (ϰv<|ϳq<|à [î p2])):
  ê (ϳo "isinstance" [e,î p2]) (zD T fa):=λr H=>by
 let q:=pI (p:=p) (pos:=pos) (Hd T) hg a fX (dH (h r H) (dH (FF (v:=V.ty T) (pos:=p2) g m t rfl n d) gT s) S) Õ Õ S l;rw[r]at q;show peI q λ_ _ _ z=>WH z
def Ut(a b:Fe):Fe:=λc=>ï (a c) λx=>match x.er with
 |.list ds=>ï (b c) Ϯh
 |_=>Í
set_option tactic.hygienic true in
theorem Ik(A:ê a fa)(h:ê e fb)(s:Û (ϦY "index" X.env Υ=Υ))(f:Û (ě<|(ϲC<|à [e]).all ϵ5&&ϸ5&&Ë (Ã ([e]:À On)+Ã ([]:À Keyword)+(Ì ((ϵL ([]:À Keyword))) 0 1)<30)))(i:Û ϷY)(n:Û (à [e]=ϰL (à [])))(l:Û (ϰv<|ϲC<|à [])):
  ê (Χ (ϲl a "index" ap) [e] cp) (Ut fa fb):=λr m=>by
 let q:=ϗS PySem.F.slot_list_index PySem.F.type_list_index Kk ϴP (ϷV ŝ n) s f i n l;apply peI q λL H Q h=>?_;let(F,k,g,S,p):=h;apply(F,k,g,S,Ķ λx b v C G J e1 t W=>?_);let(G1,D,K):=t.Z2 e1 W;generalize x.er=d at b K;cases K with
 |@lst a' vs ds h1 h2=>
  let j:ă g ŀ (ï (fb k) Ϯh):=b;apply(È ⟨rfl,vs,by rw[r];show ϻg D.fh⟩,G1,k,g,϶s,ş ((aq.bind j).ext D) λy py w F2 I Y E u B=>?_);let(G2,c,o):=u.Z2 E B;delta Dz at py;generalize y.er=d' at py o;cases o with
  |int z=>
   let P:ă g ŀ (match eP ds with|some R=>Ì Ϻd (oI Ϫe) Í|none=>Í):=py
   split at P
   .rename_i R N
    split at P
    .rename_i Z
     rw[m_ N]at h2;rw[ϑ4]at h1;show(a',R,z,rfl,rfl,by rw[r];show((h1.same c.ff).same c.fh).sq,Z,Ϗn c.fh (D.trans c) P<|Ä _)
    .exact P.elim
   .exact P.elim
  |Y4=>show py.elim
  |bl _=>show py.elim
  |str _=>show py.elim
  |dct _ _ _=>show py.elim
  |dtt _ _ _=>show py.elim
  |lst _ _=>show py.elim
  |tup _ _=>show py.elim
 |Y4=>show b.elim
 |bl _=>show b.elim
 |int _=>show b.elim
 |str _=>show b.elim
 |dct _ _ _=>show b.elim
 |dtt _ _ _=>show b.elim
 |tup _ _=>show b.elim
end
theorem qL{K:Ch}{F H:Hp}(m:Nat):∀{v:À V}{s:À Go},Ű v s->ϰp (v.map some++ϧi none) ((ϳU<|λd=>Â Ϩr)++ϧi none) []
 |_,_,.nil=>by
  change ϰp (ϧi none) (ϧi none) [];let:=W8.nones (K:=K) (F:=F) (H:=H) m Ā;rw[Zw,Zw]at this;show this
 |_,_,.cons h r=>ϕS<|qL m r
theorem fn3{P:Ev}{w:Fk}{K:Ch}{g:ł}{base:Op}{x qual:Str}{T:No}{f:Ix}{fd:Gc}{N b:À Str}{k:Nat}{body:Fs}(F:ϦD)(S:Fq N b ϥM)
  (h:∀(c:Do)(A:Is)(outer:À PySem.Env)(s:Db)(H:Hp)(E:XK),ϩC->ώ1 (ϬH Z8 g).nox):
  ϶j g base Z8 (k+1) f fd b (ϻT g<|aZ b.length N.length body):=by
 let C:Ϗ4:=by
  let:=Ŧ S.pre;rw[Zk]at this;lia
 let l:ύV:=by
  ext e H Q E ⟨F,D,sm,R,p⟩;by_cases L:ϦQ
  .rw[Ϩj]
   show L
  delta aZ at p;rw[P3 L]at p;show p.elim
 apply F.ok S l λc A outer s H e Q E hr n=>?_;let V:=l _ _ _ _ n;let(t,D,sm,R,p):=n;let d:ϦQ:=ϰ9 Ϩj V
 delta aZ at p;rw[Os d]at p;apply(_,ώN,t,ϑF,[],(sm,?_,K8w,ϰk,?_),Ķ ϧN)
 .unfold L2.start se
  rw[V,d];show qL _ R
 .unfold se
  change ϯW;rw[S5,I4,K8r,d];lia
 cases o with
 |nx ρ=>show λG i j B u T=>ϑG ⟨T.ff,ϹX (ϧq Ø),u.same,ϻ5 (Ϩk Ø z)⟩ ϑr ϰk
 |rt y=>exactλv i j fx sm' r T=>ϒX ⟨T.ff,ϹX (ϧq Ø),sm',ϻ5 (Ϩk Ø z)⟩ r (λa m=>ϐw ϶S id)
 |bk ρ=>show po.elim
 |ct ρ=>show po.elim
theorem cC{P:Ev}{w:Fk}{K:Ch}{m:ł}{base:Op}{x qual:Str}{T:No}{f:Ix}{fd:Gc}{N p:À Str}{k np n:Nat}{body:Fs}{fn:Fn}(a:ϐN)(d:p.length=np)(b:ϓH)(F:ϦD)(S:Fq N p ϥM)
  (h:∀(c:Do)(A:Is)(outer:À PySem.Env)(s:Db)(H:Hp)(E:XK),ϩC->DSs ϒT (vy Z8 P w K m base N qual ϥM f c A outer s H E).nox (et T) body):
  ϶j m base Z8 (k+1) f fd p (ϻT m fn):=by
 subst a d b;show fn3 F S h
theorem VE:ϥq Z8 E:=λ_ _ _ _ _ _ _ h=>h.elim
def E_:ζ|.int i,.int j=>oI<|i+j|_,_=>Í
theorem Ir:δ (ipI λi j=>i+j) E_:=by
 ext x y d D F H f Q s R Y p;delta E_ at p;split at p
 .cases R;cases Y
  show(_,_,rfl,rfl,ϳB)
 show p.elim
end L3
namespace L3
open PySem L2
theorem Tq(i:Int):CD "int" (Ä i)=oB true:=rfl
theorem Tv(i:Int):CD "bool" (Ä i)=oB false:=rfl
theorem Tr(i:Str):CD "str" (Æ i)=oB true:=rfl
theorem R5(i:À Go):CD "list" (Ö i)=oB true:=rfl
theorem T5(i:À Go):CD "tuple" (ä i)=oB true:=rfl
theorem XT:ü 0:=Õ
theorem Ym:ü 1:=Õ
theorem X8:ü 2:=Õ
theorem XG:ü 3:=Õ
theorem Yc:ü 4:=Õ
theorem LC(I:Nat->Ô Env):∀(s:À Go)(k:Nat)(a:Env),I k a->(∀(i:Nat)(d:Go)(a:Env),ϴ3=Ω->I (k+i) a->∃j c,g Ř a=.ok j/\(b j=Ħ (.nx c)\/b j=Ħ (.ct c))/\I (k+i+1) c)->
  ∃f,ϱv s a=Ϲr/\I ϑs f:=by
 ext y
 induction y with
 |nil=>ext k a h _;show(a,rfl,h)
 |cons d s ih_=>
  ext k a h T;let(j,c,l,H,m):=T 0 d a rfl h;let(f,e,n):=ih_ (k+1) c m λi d' a D hi=>϶N (T (i+1) d' a ϭU (ϒz<|ó ϑH)) (ó ϐk)
  apply(f,?_,by rw[Zo,ó (k+ϤK=ϑ5)];show n);rw[aJc,l,cq];rcases H with H|H
  .rw[H,cq]
   show e
  rw[H,cq];show e
theorem Hl(S:Nat->Ô Env)(H:S 0 c)(T:∀(i:Nat)(d:Go)(c:Env),ds[i]?=Ω->S i c->∃f j,g Ř c=.ok f/\(b f=Ħ (.nx j)\/b f=Ħ (.ct j))/\ϫP j):
  ∃a,ϱv ds c=Ϲw/\ϪM a:=by
 let(a,e,h):=LC S ds 0 c H λi d c D hi=>ϙV (T i d c D hi)
 show(a,e,by rw[K87]at h;show h)
theorem eU{l:Int}(h:û (oS l n)=Ω):i<n/\d=Ä (l+i):=by
 delta oS at h;rw[Oe]at h;let(j,J,rfl):=Ϸp;let(H,a):=ϥz;let f:i=j:=ϐl
 subst f;show(Ϸ4,rfl)
theorem fI(l:Int)(n:Nat):Ã (oS l n)=n:=Ϻ1 oS
theorem Hc(h:ϴU n ρ=϶C):gR t b ρ=϶C:=by
 let mono:∀(n:Nat)(ρ:Env),ϴU n ρ≠Í->∀m,n<=m->ϴU m ρ=ϴU n ρ:=by
  ext n
  induction n with
  |zero=>ext ρ H;show ϱH H
  |succ n ih=>
   ext ρ H m M;obtain⟨m,rfl⟩:∃k,m=k+1:=⟨m-1,Á⟩
   rw[fgS]at H⊢;rw[fgS];cases ht:t ρ with
   |bad=>rfl
   |ex c=>rfl
   |ok c=>
    rw[ht,cq]at H;rw[cq,cq];cases c with
    |false=>rfl
    |true=>
     rw[ė]at H⊢;rw[ė];cases hb:b ρ with
     |bad=>rfl
     |ex c=>rfl
     |ok o=>
      rw[hb,cq]at H;rw[cq,cq];cases o with
      |nx ρ2=>show ih ρ2 H m Á
      |ct ρ2=>show ih ρ2 H m Á
      |bk ρ2=>rfl
      |rt x=>rfl
 delta gR;let X:∃n,ϴU n ρ≠Í:=⟨n,by rw[h];exact ϶S⟩
 rw[dif_pos X];let e1:=mono n ρ (by rw[h];exact ϶S) (n+X.choose) Á;let g:=mono X.choose ρ X.choose_spec (n+X.choose) Á;rw[<-g,e1,h]
theorem GD(I:Nat->Ô Env)(Q:Ô Env)(T:∀m c,I m c->(t c=ϸk/\Q c)\/(t c=϶e/\∃d M,(b c=Ħ (.nx d)\/b c=Ħ (.ct d))/\M<m/\I M d)):∀(m:Nat)(c:Env),I m c->∃a,gR t b c=Ϲw/\Q a:=by
 let go:∀(m:Nat)(c:Env),I m c->∃n a,ϴU n c=Ϲw/\Q a:=by
  ext m
  induction m using Nat.strongRecOn with
  |ind m ih=>
   ext c h;rcases T m c h with⟨f,H⟩|⟨f,d,M,H,g,i⟩
   .exact(1,c,by rw[fgS,f];rfl,H)
   let(n,a,e,q):=ih M g d i;apply(n+1,a,?_,q);rw[fgS,f,cq,ė];rcases H with H|H
   .rw[H,cq]
    show e
   rw[H,cq];show e
 ext m c h;let(n,a,e,q):=go m c h;show(a,Hc e,q)
def Xg:Ú (Ú OD)->ď|some (some<|.sh d)=>.ok Ř|_=>Í
def opK(g:ζ)(r s:ď):ď:=ϵa (λx=>s.bind λy=>ϧy)
def Zi{α β:Type}(g:ύi)(r:R α):R β:=ϵa g
def TR(r:϶y)(b:Ft)(a:Env):϶y:=ϵa (λc=>Ì ϱ5 (b a) ϸk)
def orK(r:϶y)(b:Ft)(a:Env):϶y:=ϵa (λc=>Ì ϱ5 ϶e (b a))
def O4(r:϶y)(b:Fe)(a:Env):ď:=ϵa (λc=>Ì ϱ5 (b a) (Ý (í false)))
def ifV(r:϶y)(a b:Fe)(d:Env):ď:=ϵa (λc=>Ì ϱ5 (a d) (b d))
def ifK(r:϶y)(a b:Fs)(d:Env):ϰ2:=ϵa (λc=>Ì ϱ5 (a d) (b d))
def K3(r:ď)(s:R (À OD)):R (À OD):=ϵa (λx=>s.bind λX=>.ok Ϲ7)
def JY(r:ϰ2)(b:Fs):ϰ2:=r.bind λo=>match o with
 |.nx ρ'=>b ρ'
 |o=>϶C
def Vk(r:ď)(g:Fg)(b:Env):ϰ2:=ϵa (λx=>ï (g x b) λa=>Ϲw)
def R3(r:R (À Go))(g:Fg)(b:Fs)(a:Env):ϰ2:=ϵa (λd=>ϱv d a)
def Qu(r:R (À Go))(g:Fg)(t:Ft)(e:Fe)(a:Env):ď:=ϵa (λd=>ï (ϻS e a d []) λX=>Ď X)
def slK(g:Go->ϱ3 (Ú Int) ď)(a:ď)(l h:R (Ú Int)):ď:=a.bind λx=>l.bind λi=>h.bind λj=>ϓC
def Wg(a:ď)(b:Fe)(c:Env):ď:=a.bind λx=>match x.er with
 |.list ds=>ï (b c) Ϯh
 |_=>Í
def Xo(o:Ú (Ú OD))(a:ď)(i:Nat)(b:Env):ϰ2:=match o with
 |some (some<|.ol xs)=>Zi (λy=>Ì Ϯ7 (ω b.set ol ϫA) Í) a
 |_=>Í
def QC:Ú (Ú OD)->ϰ2|some (some x)=>ϳv|_=>Í
def VT(o:Ú (Ú OD))(i:Nat)(a:Env):Env:=match o with
 |some (some x)=>Ϧ8<|Â ϧW
 |_=>a
def Jy(r:ϰ2):ď:=r.bind λo=>match o with
 |.rt x=>ϴV
 |.nx _=>Ý ù
 |_=>Í
def U_(o:Ú (Ú OD))(g:ζ)(a:ď)(i:Nat)(b:Env):ϰ2:=match o with
 |some (some<|.sh d)=>Zi (λy=>Zi (λz=>ϱu<|ϮH<|Â z)<|g d y.er) a
 |_=>Í
section
variable{ρ:Env}{s t:Ft}
theorem v_var(i:Nat):aa i ρ=Xg ϱw:=rfl
theorem v_c(d:Go):eC d ρ=Ħ Ř:=rfl
theorem Yv(g:ζ):F4 g a b ρ=opK g ű ϶D:=rfl
theorem QV(r:R α)(g:ύi):ϵa g=Zi g r:=rfl
theorem Yp(g:Go->ď):Zg g a ρ=ϺX g ű:=rfl
theorem Rn:av a ρ=ϺX truth ű:=rfl
theorem TK:B3 s t ρ=TR Ϭi t ρ:=rfl
theorem XE:mI s t ρ=orK Ϭi t ρ:=rfl
theorem Sn:iK s ρ=Zi (λc=>.ok<|!c) Ϭi:=rfl
def tru(r:ď):϶y:=ϺX truth r
theorem v_and:Ab a b ρ=O4 (tru ű) b ρ:=by
 delta Ab tru;cases a ρ with
 |ok x=>
  change ï ϻe _=O4 ϻe b ρ;cases truth x.er with
  |ok c=>cases c<;>rfl
  |ex c=>rfl
  |bad=>rfl
 |ex c=>rfl
 |bad=>rfl
theorem v_not:Gx a ρ=Zi (λc=>Ý<|í<|!c) (tru ű):=by
 delta Gx tru;cases a ρ with
 |ok x=>
  change ï ϻe _=Zi _ ϻe;show QV _ _
 |ex c=>rfl
 |bad=>rfl
theorem X9:eIf s a b ρ=ifV Ϭi a b ρ:=rfl
theorem JW:ah ρ=Ħ []:=rfl
theorem vV:ae a r ρ=K3 ű (r ρ):=rfl
theorem UM:dZ r ρ=ϯk (Ì ϧn (Ħ (mkT X)) Í):=rfl
theorem Vg:bz r ρ=ϯk (Ì ϧn (Ď X) Í):=rfl
theorem Sd:ak f r ρ=ϯk (f ϵm):=rfl
theorem v_b:eB f r ρ=ϯk (f ϵm):=rfl
theorem Ys:Y0 a ρ=Zi (λx=>Ý x.er) ű:=rfl
theorem v_bor:Cv a ρ=Zi (λx=>Ì ϐ1 (Ý x.er) Í) (a ϫp):=rfl
theorem RI:uu s ρ=s ϫp:=rfl
def QD:OD->ď
 |.ol xs=>Ì ϩL (Ď ϭu) Í
 |_=>Í
theorem Tf:E4 a ρ=Zi QD (a ϫp):=rfl
theorem Wz:erase []=[]:=rfl
theorem U2(x:OD):erase (ö::ρ)=Â ϧW::ϫp:=rfl
theorem UE:erase (none::ρ)=none::ϫp:=rfl
theorem Oi:bT ρ=.ok none:=rfl
def P8:Go->R (Ú Int)|.int i=>.ok Ϩv|_=>Í
theorem Oo:bc a ρ=ϺX P8 ű:=rfl
theorem Yt:Z_ g a l h ρ=slK g ű (l ρ) (h ρ):=rfl
def lstK:Go->R (À Go)|.list ds=>.ok ds|_=>Í
def r1K:Go->R (À Go)
 |.int j=>Ì Ϥ0 ϦF Í
 |_=>Í
def enK:Go->R (À Go)|.list ds=>.ok<|fj ds|_=>Í
theorem Tp:de a ρ=ϺX lstK ű:=rfl
theorem XX:iR1 a ρ=ϺX r1K ű:=rfl
theorem XO:iEn a ρ=ϺX enK ű:=rfl
def Se(g:Go->Go->R (À Go))(r s:ď):R (À Go):=ϵa (λx=>s.bind λy=>ϧy)
theorem XN:iR2 a b ρ=Se r2F ű ϶D:=rfl
theorem Yl:iZp a b ρ=Se NF ű ϶D:=rfl
theorem V8(i:Nat)(x:OD):Re i x ρ=.ok (ϳZ ö):=rfl
theorem Vn:cW [] ρ=Ħ ρ:=rfl
theorem VW:az g r ϫT ρ=Zi (λa=>r xs a) (g x ρ):=rfl
theorem Wa:gTp n r (.sh<|ä ds) ρ=Ì ϯv (r ϸa ρ) Í:=rfl
theorem Rc{it:Fi}:bb it g t a k outs ρ=Qu (it ρ) g t a (ϑ2 ρ):=rfl
theorem UH:ϑ2 ρ=η none++ϲ7 (λi=>An ϱw):=rfl
theorem Yf:Z9 ρ=ϱu ρ:=rfl
theorem Vs:ao p q ρ=JY (p ρ) q:=rfl
theorem Wq:JD a g ρ=Vk ű g ρ:=rfl
theorem U8(i:Nat):ay i a ρ=Zi (λx=>ϱu<|ϳZ ö) ű:=rfl
theorem RZ:o_ a ρ=Zi (λ_=>ϱu ρ) ű:=rfl
theorem Wv:bF a ρ=Zi (λx=>ϳv) ű:=rfl
theorem Rm(i:Nat):fk i ρ=QC ϱw:=rfl
theorem Xq:Z4 s p q ρ=ifK Ϭi p q ρ:=rfl
theorem Wf(i:Nat):pW i p ρ=p (Pl i ρ):=rfl
theorem Uh(i:Nat):Pl i ρ=VT ϱw i ρ:=rfl
theorem VY(i:Nat):D3 i g a ρ=U_ ϱw g ű i ρ:=rfl
theorem UP(i:Nat):kE i a ρ=Xo ϱw ű i ρ:=rfl
theorem Wk{it:Fi}:dJ it g p ρ=R3 (it ρ) g p ρ:=rfl
theorem WJ(T:String):zD T a ρ=Zi (λx=>CD T x.er) ű:=rfl
theorem Vu:Ut a b ρ=Wg ű b ρ:=rfl
theorem UO:aZ np n p ds=Ì (ds.length=np) (Jy (p<|se n ds)) Í:=rfl
theorem UZ(d:Go):Xg (some<|Â Ř)=Ħ Ř:=rfl
theorem Yd:opK g ϴV ϸG=ϧy:=rfl
theorem XB:Se g ϴV ϸG=ϧy:=rfl
theorem XH:Zi g ϴV=g x:=rfl
theorem U3:Zi g γ=γ:=rfl
theorem RB:TR ϶e t ρ=t ρ:=rfl
theorem TF:TR ϸk t ρ=ϸk:=rfl
theorem UK:orK ϶e t ρ=϶e:=rfl
theorem WA:orK ϸk t ρ=t ρ:=rfl
theorem Ml:O4 ϶e a ρ=ű:=rfl
theorem NM:O4 ϸk a ρ=Ý (í false):=rfl
theorem SU:ifV ϶e a b ρ=ű:=rfl
theorem Uj:ifV ϸk a b ρ=϶D:=rfl
theorem W7:ifK ϶e p q ρ=p ρ:=rfl
theorem VI:ifK ϸk p q ρ=q ρ:=rfl
theorem Sh:K3 ϴV (.ok xs)=Ħ ϫT:=rfl
theorem VF:JY (ϱu ρ) p=p ρ:=rfl
theorem SV:JY ϳv p=ϳv:=rfl
theorem WS:Vk ϴV g ρ=Zi (λa=>Ϲw) (g x ρ):=rfl
theorem XF:R3 (.ok ds) g p ρ=aJ g p ds ρ:=rfl
theorem T7:Qu (.ok ds) g t a ρ=Zi (λX=>Ď X) (ϻS a ρ ds []):=rfl
theorem XZ:slK g ϴV (.ok i) (.ok j)=ϓC:=rfl
theorem WN:Xo (some<|Â ϶o) ϸG i ρ=Ì Ϯ7 (ω ρ.set ol ϫA) Í:=rfl
theorem Q9:QC (Â ö)=ϳv:=rfl
theorem WW:VT (Â ö) i ρ=ϳZ (Â ϧW):=rfl
theorem Tu:Jy ϳv=ϴV:=rfl
theorem Ue:Jy (ϱu ρ)=Ý ù:=rfl
theorem XD(x:OD):tru ϴV=ϻe:=rfl
theorem Nl(c:Bool):truth (í c)=.ok c:=rfl
theorem WG:Wg (Ý<|Ö ds) b ρ=Zi Ϯh ϶D:=rfl
theorem WT:U_ (some<|Â Ř) g ϸG i ρ=Zi (λz=>ϱu<|ϳZ<|Â z) (g d y.er):=rfl
theorem VX(d:À Go):lstK (Ö d)=.ok d:=rfl
theorem X3(d:À Go):enK (Ö d)=Ħ (fj d):=rfl
theorem XW(j:Int):r1K (Ä j)=Ì Ϥ0 ϦF Í:=rfl
theorem XI(i j:Int):r2F (Ä i) (Ä j)=Ì (ě ϤH) (Ħ (oS i (ā (j-i)))) Í:=rfl
theorem Xx(d e:À Go):NF (Ö d) (Ö e)=Ħ (qY d e):=rfl
theorem Rv(i:Int):P8 (Ä i)=Ħ Ϩv:=rfl
theorem TV(n:Nat)(s:À Go):se n s=(ϳU<|λd=>Â Ϩr)++ŗ (n-s.length) none:=rfl
theorem W4(d:Go):An (some<|Â Ř)=Â Ř:=rfl
theorem Vl(d:Go):mkT [Ř]=.sh (ä [d]):=rfl
theorem Xm(d e:Go):mkT [Ř,.sh e]=.sh (ä [d,e]):=rfl
theorem Wi(d e f:Go):mkT [Ř,.sh e,.sh f]=.sh (ä [d,e,f]):=rfl
theorem UR(i j:Int):aF (Ä i) (Ä j)=Ý (Ä<|i+j):=rfl
theorem Wl(i j:Int):eA (Ä i) (Ä j)=Ý (Ä<|i-j):=rfl
theorem WZ(i j:Int):fV (Ä i) (Ä j)=Ì ϪJ (Ý (Ä<|i*j)) Í:=rfl
theorem V7(i j:Int):du (Ä i) (Ä j)=Ì (0<j) (Ý (Ä<|i%j)) Í:=rfl
theorem VG(i j:Int):eQ (Ä i) (Ä j)=@ite _ ϏM ϷZ (Ý<|Ä<|i / j) Í:=rfl
theorem UW(i:Int):cD (Ä i)=Ý (Ä<|-i):=rfl
theorem XJ(i j:Int):gLt (Ä i) (Ä j)=Ý (í<|Ë<|i<j):=rfl
theorem Yy(i j:Int):gLe (Ä i) (Ä j)=Ý (í<|Ë ϵN):=rfl
theorem X6(i j:Int):gGt (Ä i) (Ä j)=Ý (í<|Ë<|j<i):=rfl
theorem Yz(i j:Int):gGe (Ä i) (Ä j)=Ý (í<|Ë<|j<=i):=rfl
theorem XR(i j:Int):Zp (Ä i) (Ä j)=Ý (í<|Ë<|i=j):=rfl
theorem XY(i j:Int):gNe (Ä i) (Ä j)=Ý (í<|! Ë (i=j)):=rfl
theorem SO(i j:Int):E_ (Ä i) (Ä j)=Ý (Ä<|i+j):=rfl
theorem Ws(X:À Go)(i:Int):Rg (Ö X) (Ä i)=dq ϫZ:=rfl
theorem V2(X:À Go)(i:Int):Rg (ä X) (Ä i)=dq ϫZ:=rfl
theorem T_(X:À Go):bq [Ö X]=Ý (Ä X.length):=rfl
theorem RO(X:À Go):bq [ä X]=Ý (Ä X.length):=rfl
theorem Ub(x:Str):bq [Æ x]=Ì (Ϩb H6) (Ý (Ä x.length)) Í:=rfl
theorem SF(i j:Int):BY [Ä i,Ä j]=Ý (Ä (ϺU<|j<i)):=rfl
theorem Sg(i j:Int):EU [Ä i,Ä j]=Ý (Ä (ϺU<|i<j)):=rfl
theorem DN(n:Int)(R:À Int):jY [Ö<|int n::ϰQ]=Ý (Ä<|oG n R):=by
 change(match eP (Î (n::R) int)with|some (n::R)=>oI (oG n R)|_=>Í)=_;rw[lQ];rfl
theorem LN(n:Int)(R:À Int):rD [Ö<|int n::ϰQ]=Ý (Ä<|zF n R):=by
 change(match eP (Î (n::R) int)with|some (n::R)=>oI (zF n R)|_=>Í)=_;rw[lQ];rfl
theorem SJ(d:À Go):kz [Ö d]=Ď (Ϻn OD.sh):=rfl
theorem QY(c:Bool):Cq [í c]=Ý (Ä (if c then 1 else 0)):=rfl
theorem V4(R:À Int)(z:Int)(h:Ϻd):Dz ϰQ (Ä z)=Ý (Ä Ϫe):=by
 change(match eP ϰQ with|some R=>Ì Ϻd (oI Ϫe) Í|none=>Í)=_;rw[lQ];change(Ì Ϻd (oI Ϫe) Í)=_;rw[Ÿ];rfl
theorem Wm(X:À Go)(i j:Ú Int):iC (Ö X) i j=ψ (cutD X i j):=rfl
theorem Si(d:Go):dq Ω=Ħ Ř:=rfl
theorem at0(x:α)(X:À α):Y9 Ϲ7 0=ö:=by let:Y9 Ϲ7 (Ð 0)=ö:=bZ rfl;show this
theorem at1(x y:α)(X:À α):Y9 (x::y::X) 1=ϱO:=by let:Y9 (x::y::X) (Ð 1)=ϱO:=bZ rfl;show this
theorem at2(x y z:α)(X:À α):Y9 (x::y::z::X) 2=Â z:=by let:Y9 (x::y::z::X) (Ð 2)=Â z:=bZ rfl;show this
theorem Vz(c:Bool):oB c=Ý (í c):=rfl
end
theorem CP{i j:Int}(h:ϘU<i)(H:i<18446744073709551616):ϪJ:=(ϬE ϷZ).mpr<|È ⟨Á,Á⟩
theorem X1{i j:Int}(h:ϘU<j)(H:j<18446744073709551616):ϪJ:=(ϬE ϷZ).mpr<|Ñ ⟨Á,Á⟩
theorem gQ{i:Int}(h:-4611686018427387904<=i)(H:i<4611686018427387904):aD i=true:=gN.mpr ⟨Á,Á⟩
theorem d9(h:n<1000):(n<H6)=True:=ϰr (K9P h Õ)
theorem ax(h:n<=1000):(n<=H6)=True:=ϰr (ό7 Õ)
theorem dG(i:Int){j:Int}(h:0<j):0<=i%j/\i%j<j:=⟨ϕ4 Á,Int.emod_lt_of_pos _ h⟩
theorem CQ(X:À α)(i:Int)(a:0<=i)(h:ϓI):∃x,X[i.toNat]?=ö/\ϫZ=ö:=by
 obtain⟨j,rfl⟩:∃j:Nat,i=j:=⟨i.toNat,Á⟩
 let J:ϯX:=Á
 show(X[j],ϯN,bZ ϯN)
theorem J0(l:ϱv ds j=r)(S:Nat->Ô Env)(H:S 0 j)(T:∀(i:Nat)(d:Go)(j:Env),ds[i]?=Ω->S i j->∃c f,g Ř j=.ok c/\(b c=Ϲr\/b c=Ħ (.ct f))/\ϫP f):
  ∃a,r=Ϲw/\ϪM a:=by
 let(a,e,h):=Hl S H T;show(a,by rw[<-l,e],h)
def uF(S:Ô Env):Ô ϰ2|.ok (.nx ρ)=>S ρ|.ok (.ct ρ)=>S ρ|_=>False
theorem UX:uF S (ϱu ρ)=S ρ:=rfl
theorem ED(h:uF S (Ϩe r)):∃a d,r=.ok a/\(b a=Ħ (.nx d)\/b a=Ħ (.ct d))/\S d:=by
 cases r with
 |ok a=>
  let H:uF S (b a):=h;cases hb:b a with
  |ok o=>
   rw[hb]at H;cases o with|nx d=>show(a,d,rfl,È hb,H)|ct d=>show(a,d,rfl,Ñ hb,H)|bk _=>show H.elim|rt _=>show H.elim
  |ex _=>rw[hb]at H;show H.elim
  |bad=>rw[hb]at H;show H.elim
 |ex c=>show h.elim
 |bad=>show h.elim
theorem bJ{P:Prop}(L:ϱv ds j=r)(S:Nat->Ô Env)(H:S 0 j)(T:∀(i:Nat)(d:Go)(j:Env),ds[i]?=Ω->S i j->uF ϫP (Ϩe<|g Ř j))(fin:∀f,r=Ϲr->ϪM f->P):P:=by
 let(f,e,h):=J0 L S H λi d j D s=>by let(k,l,a,b,c):=ED<|T i d j D s;show(k,l,a,b,c)
 show fin f e h
theorem zZ{P:Prop}(L:gR t b f=r)(I:Nat->Ô Env)(m:Nat)(H:I m f)(Q:Ô Env)(T:∀m f,I m f->(t f=ϸk/\Q f)\/(t f=϶e/\uF (λi=>∃M,M<m/\I M i) (b f)))(fin:∀g,r=ϱu g->Q g->P):P:=by
 let(g,e,h):=GD I Q (λm f l=>by
  rcases T m f l with h|⟨j,k⟩
  .exact È h
  let(n,i,a,b,M,c,d):=ED (r:=.ok f) k
  cases a;show Ñ ⟨j,i,M,b,c,d⟩) m f H
 show fin g ϐO h
def VO(o:Ú (Ú OD))(a k:ď)(i:Nat)(b:Env):ϰ2:=match o with
 |some (some<|.ol xs)=>Zi (λy=>Zi (λz=>match z.er with
  |.int q=>match Ϲg q with
   |some j=>ω b.set ol<|ϸf y
   |none=>Í
  |_=>Í) k) a
 |_=>Í
theorem J6{β:Type}(o:Ú (Ú OD)):o=none\/o=ϱK\/(∃d,o=Â (Â Ř))\/(∃X,o=Â (Â ϨR))\/(∃X,o=Â (Â<|.ot X))\/(∃X,o=Â (Â<|.od X))\/∃X,o=Â (Â<|ϱA X):=by
 cases o with
 |none=>show È rfl
 |some o=>
  cases o with
  |none=>show Ñ<|È rfl
  |some x=>
   cases x with|sh d=>show Ñ<|Ñ<|È ⟨d,rfl⟩|ol X=>show Ñ<|Ñ<|Ñ<|È (Ϸs X)|ot X=>show Ñ<|Ñ<|Ñ<|Ñ<|È (Ϸs X)|od X=>show Ñ<|Ñ<|Ñ<|Ñ<|Ñ<|È (Ϸs X)|odt X=>show Ñ<|Ñ<|Ñ<|Ñ<|Ñ<|Ñ (Ϸs X)
section
variable{ρ:Env}{a b k:Fe}
theorem v_sub(i:Nat):Af i k a ρ=VO ϱw ű (k ρ) i ρ:=rfl
theorem FC{z:Int}(h:Ϲg z=ϳb):VO (some<|Â ϶o) ϸG (Ý<|Ä z) i ρ=ω ρ.set ol (ϸf y):=by
 change(match (ë<|int z).er with
  |.int q=>match Ϲg q with
   |some j=>R.ok<|Out.nx<|ϳZ<|ō<|ϸf y
   |none=>Í
  |_=>Í)=_
 rw[aW];change(match Ϲg z with
   |some j=>R.ok<|Out.nx<|ϳZ<|ō<|ϸf y
   |none=>Í)=_
 rw[h]
theorem lH(h:j<n):ixN n ĺ=ϳb:=by
 delta ixN;rw[Os Á,Os Á];simp
def XA(o:Ú (Ú OD))(a:ď)(i:Nat)(b:Env):ϰ2:=match o with
 |some (some<|.ol xs)=>Zi (λy=>match y with
  |.ol ys=>Ì ϩT (ω b.set ol ϫ0) Í
  |_=>Í) a
 |_=>Í
theorem Xw(i:Nat):H0 i a ρ=XA ϱw ű i ρ:=rfl
theorem Wb:XA (some<|Â ϶o) (.ok όY) i ρ=Ì ϩT (ω ρ.set ol ϫ0) Í:=rfl
theorem qH{z:Int}(h:ϱw=Â (Â ϶o))(H:k ρ=Ý (Ä z))(f:Ϲg z=ϳb)(c:Ϩ8=Â όY)(g:ű=ϸG)(l:ys.length<H6):
  nN i k a ρ=ω ρ.set ol (ϸf<|.ol<|ys++[y]):=by
 delta nN;rw[h,H];simp only[cq,aW,f,c,g,l,K84]
end
theorem cU(b:bC g cO el ρ0 ds []=r)(m:α->Go)(y:α->OD)(L:À α)(e:ds=όZ)(l:ύA H6)(h:ϥ8 ϬO):r=Ħ (L.map y):=by
 subst e;rw[<-b];let go:∀(L:À α)(a:À OD),(ϥ8 ϬO)->ϹP L.length<=H6->bC g cO el ρ0 όZ a=Ħ (a++L.map y):=by
  ext L
  induction L with
  |nil=>ext a _ _;rw[K9D,bC0,K9D,Zw]
  |cons x L ih=>
   ext a h l;let H:=h x Uf;rw[Zo]at l;rw[W1,bC1];cases hg:g ϯO ρ0 with
   |ok ρ=>
    rw[hg]at H;let X:el ρ=Ħ (y x):=H;simp only[F9k,cq,cO,K84,X];rw[Os Á,ih (a++[y x]) (λz Z=>h z<|Ą Z) (ξ S5 Zq),W1,K9M];rfl
   |ex c=>rw[hg]at H;cases H
   |bad=>rw[hg]at H;cases H
 rw[ϗj];rfl
theorem ko(d:ϻS el ρ0 ds []=r)(m:α->Go)(p:ϳi α)(y:α->OD)(L:À α)(e:ds=όZ)(l:ύA H6)(h:ϥ8 (Zi t (g ϯO ρ0)=Ħ (p x)/\(ϫJ->ϬO))):r=Ħ (Î (L.filter p) y):=by
 subst e;rw[<-d];let go:∀(L:À α)(a:À OD),(ϥ8<|Zi t (g ϯO ρ0)=Ħ (p x)/\(ϫJ->ϬO))->ϹP L.length<=H6->ϻS el ρ0 όZ a=Ħ (a++Î (L.filter p) y):=by
  ext L
  induction L with
  |nil=>ext a _ _;rw[K9D,bC0,List.filter_nil,K9D,Zw]
  |cons x L ih=>
   ext a h l;let(H,b):=h x Uf;rw[Zo]at l;rw[W1,bC1];cases hg:g ϯO ρ0 with
   |ok ρ=>
    rw[hg]at H b;let X:t ρ=Ħ (p x):=H;let Y:ϫJ->el ρ=Ħ (y x):=b;simp only[F9k,cq,X];by_cases P:ϫJ
    .rw[Os P,Y P]
     simp only[F9k,cq];rw[Os Á,ih (a++[y x]) (λz Z=>h z<|Ą Z) (ξ S5 Zq),List.filter_cons_of_pos P,W1,K9M];rfl
    rw[P3 P,ih a (λz Z=>h z<|Ą Z) Á,List.filter_cons_of_neg P]
   |ex c=>rw[hg]at H;cases H
   |bad=>rw[hg]at H;cases H
 rw[ϗj];rfl
def lay(n:Nat)(d:Go):Prop:=ě d.canLay0/\d.depth<=n
theorem zU(i:Int):lay 0 (Ä i):=(ϲx ß)
theorem Ez(h:ϥ1 PyData.strOk):lay 0 (Æ x):=⟨h,ß⟩
theorem Ai:∀{xs:À Go},(∀x∈xs,ϵH x)->PyData.canLayAll0 xs=true/\PyData.depthAll xs<=n
 |[],_=>(ϲx Ν)
 |x::xs,h=>by
  let(A,w):=h x Uf;let(d,B):=Ai (xs:=xs) λy Y=>h y<|Ą Y;delta PyData.canLayAll0 PyData.depthAll;rw[A,d];show(rfl,Á)
theorem wL(h:∀x∈xs,ϵH x):lay (n+1) (Ö xs):=by
 let(d,B):=Ai h;apply(ϖA,?_);delta PyData.depth;lia
theorem Hf(h:∀x∈xs,ϵH x):lay (n+1) (ä xs):=by
 let(d,B):=Ai h;apply(ϖA,?_);delta PyData.depth;lia
theorem iO(h:ϵH d)(H:ϻZ):ϭK:=by delta SeqAt.shaped;rw[K9U];show(h.1,Tl<|K9C h.2 H)
theorem lay_ints(R:À Int):lay 1 (Ö ϰQ):=wL λx h=>by let(n,_,rfl):=ϹR;show zU n
theorem tQ(a b:À Go):ϕH (Ö a) (Ö b):=rfl
theorem F_(a b:À Go):ϕH (ä a) (ä b):=rfl
theorem uH(h:ϵH d)(H:ϻZ):pB d d=϶e:=by delta pB;rw[iO h H,K7m,ė,SeqAt.eqv_refl _<|K8Y<|iO h H]
theorem xb(h:ϵH (Ö a))(H:ő ϻZ):Zp (Ö a) (Ö a)=Ý (í true):=ϰM Zp tQ (uH h H)
theorem Bi(h:ϵH (Ö a))(H:ő ϻZ):ϭZ (Ö a)=Ý (í false):=ϰM gNe tQ (uH h H)
theorem Vm(z:Str)(i:Int):Rg (Æ z) (Ä i)=Ì ϧp (dq (Î ϐh λc=>Æ Š)) Í:=rfl
theorem Ig(x y:Str):aF (Æ x) (Æ y)=Ì Ϗx (Ý (Æ<|x++y)) Í:=rfl
theorem Ro(x y:À Go):aF (Ö x) (Ö y)=Ì Ϗx (ψ (x++y)) Í:=rfl
theorem Q3(X:À Go)(k:Int):fV (Ö X) (Ä k)=@ite _ (ě<|Ë (-϶H<=k)&&Ë (k<϶H)&&Ë (X.length*k.toNat<=H6)) ϷZ (Ď<|Ϲu (ŗ k.toNat X) OD.sh) Í:=rfl
theorem sN(x:Go)(n:Nat)(h:n<=1000):fV (Ö [x]) (Ä n)=ψ (ϪE x):=by
 rw[Q3,Os]
 .rw[K9n]
  congr 2
  induction n with|zero=>rfl|succ n ih=>rw[K99,K8a,Z6,ih Á,K99,W1];rfl
 rw[K9U,K9U,K9k,K9k,K9k];apply((Á,Á),?_);rw[K9n,Zq,Zcx];show K94<|ax h
theorem VH(x y:Str):Zp (Æ x) (Æ y)=Ý (í<|Ë<|x=y):=rfl
theorem We(x y:Str):gNe (Æ x) (Æ y)=Ý (í<|! Ë (x=y)):=rfl
def Cw(S:Ô Env)(T:Ô OD):Ô ϰ2|.ok (.nx ρ)=>S ρ|.ok (.ct ρ)=>S ρ|.ok (.rt x)=>T x|_=>False
theorem Xk:Cw S T (ϱu ρ)=S ρ:=rfl
theorem VU:Cw S T ϳv=T x:=rfl
theorem LQ{P:Prop}(L:ϱv ds a=r)(S:Nat->Ô Env)(T:Ô OD)(p:S 0 a)(m:∀(i:Nat)(d:Go)(a:Env),ds[i]?=Ω->S i a->Cw ϫP T (Ϩe<|g Ř a))(fin:∀f,r=Ϲr->ϪM f->P)(n:∀x,r=ϳv->T x->P):P:=by
 let go:∀(s:À Go)(k:Nat)(a:Env),S k a->(∀(i:Nat)(d:Go)(a:Env),ϴ3=Ω->S (k+i) a->Cw (S<|k+i+1) T (Ϩe<|g Ř a))->(∃f,ϱv s a=Ϲr/\S ϑs f)\/∃x,ϱv s a=ϳv/\T x:=by
  ext s
  induction s with
  |nil=>exactλk a h _=>È ⟨a,rfl,h⟩
  |cons d s ih=>
   ext k a h m;let l:=m 0 d a rfl h;rw[aJc];cases hg:g Ř a with
   |bad=>rw[hg]at l;show l.elim
   |ex c=>rw[hg]at l;show l.elim
   |ok ρ1=>
    rw[hg]at l;let H:Cw ϓJ T (b ρ1):=l;rw[cq];cases hb:b ρ1 with
    |bad=>rw[hb]at H;show H.elim
    |ex c=>rw[hb]at H;show H.elim
    |ok o=>
     rw[hb]at H;rw[cq];let t:∀j,S (k+1) j->(∃f,ϱv s j=Ϲr/\S (k+Ã (d::s)) f)\/∃x,ϱv s j=ϳv/\T x:=λj q=>by
      let:=ih (k+1) j q λi d' a D hi=>϶N (m (i+1) d' a ϭU (ϒz<|ó ϑH)) (ó ϐk)
      rw[Zo,ó (k+ϤK=ϑ5)];show this
     cases o with|nx j=>show t j H|ct j=>show t j H|bk _=>show H.elim|rt x=>show Ñ ⟨x,rfl,H⟩
 rcases go ds 0 a p λi d a D hi=>ϙV (m i d a D hi) with⟨f,e,h⟩|⟨x,e,h⟩
 .rw[K87]at h
  show fin f ϐO h
 show n x ϐO h
theorem Cy(X:À Go)(a:Nat)(A:a<=X.length):cutD X (Â ϲs) none=X.drop a:=by delta cutD;rw[HT.F8,HT.Bh,K8q A,K90<|ñ K8y]
theorem Ho(h:ϵH (ä a))(H:ő ϻZ):ϭZ (ä a)=Ý (í false):=ϰM gNe F_ (uH h H)
end L3
namespace L3
open PySem L2 PySem.Spec PyProof.Rows
def Itd(l:Int)(n:Nat):It:=⟨λi _=>i<n,ϒA (x=Ä (l-i)),λi _=>n<=i⟩
theorem Gf{P:Ev}{w:Fk}{K:Ch}{tg:On}(it:Ix)(l:Int)(n:Nat):ϭe (Itd l n) (ϗK (-1) (Ł-(i:Nat))<|-1) where
 mem:=Ø
 obj:=λi h T b B=>by
  let e:b=it:=ϲe
  subst e;show(_,T,ϔZ)
 keep:=λi h c T k=>k it Ø _ T
 item:=by
  ext X hP a r hc i p s d H E I f T hg;subst hP a r;let(g,j,G,F,f4,m):=f it Ø;let W:=PySem.Walks.range (prog:=X.prog) (w:=X.w) ϱW it l (-1) n;apply ϕJ;let(t,rfl):=V;let q:ų p d H ϭa:=Ϗo (u b o ϲe e) F f4 m;apply(_,rfl,E9 (s:=ϭa) (n:="range_iterator") S rfl rfl Õ ⟨Ä<|l-i,H,q,⟨t,?_⟩,϶0,S,ϐs⟩)
  congr 1
  lia
 done:=by
  ext X hP a r hc i p s d H E I f T hg;subst hP a r;let(g,j,G,F,f4,m):=f it Ø;show wpAny_pyNext_range_end ϱW T Ϙb λc D=>(ϲx (ϩH (D b o B e) F f4 m))
 self:=ϭv wpAny_pyIter_rangeiter
theorem rangeSize_down(a b:Int):Builtin.Range.rangeSize a b (-1)=Ì (a > b) (a-b) 0:=by
 delta Builtin.Range.rangeSize;simp only[ϱF (¬(É (-1) > 0)),if_false];let:(-(-1:Int))=1:=Õ
 rw[this,Int.ediv_one];split<;>lia
theorem small_down{a b:Int}(A:-ϰA<=a)(h:a<ϰA)(B:-ϰA<=b)(f:b<ϰA):Builtin.Range.small a b (-1)=true:=by
 delta Builtin.Range.small;rw[rangeSize_down];simp only[Builtin.Range.rangeFitsLong,K9U,Zco,K9k,beq_iff_eq,ϱF (¬(É (-1) > 0)),if_false]
 split<;>lia
section
variable{X:Cx}
theorem Ny{s:Db}{R:It->Ô Hp}{E:Do->Ô Db}{l hi:Int}(I:ą)(h:-ϰA<=l)(a:l<ϰA)(f:-ϰA<=hi)(c:hi<ϰA)(q:R (Itd l (ā (l-hi))) H):ē (pyIter<|Å s.heap.objs.size) Ϙ6 E ((ϴu (ϱY ((ı "range" (Ŝ #[Ä l t,Ä hi u,Ä (-1) v])))) tk)):=by
 apply ϕi small_down;let i:Ĺ X H ((ϴu (ϱY ((ı "range" (Ŝ #[Ä l t,Ä hi u,Ä (-1) v])))) tk)):=I.kept ϦT
 apply(ϸt (ϱY<|(ı "range" (Ŝ #[Ä l t,Ä hi u,Ä (-1) v]))),[ϸt (ϱY<|(ı "range" (Ŝ #[Ä l t,Ä hi u,Ä (-1) v])))],_,_,H,rfl,
  i.kept (t':=tk) ϦT,Gf _ l (ā (l-hi)),?_,ϸq,q)
 .let e1:l+Ð 0*(-1)=l:=Ø
  let g:Ð ((ā (l-hi)))-Ð 0=ϖV (-1):=by rw[rangeSize_down];split<;>lia
  change IsRangeIter _ _ (l+Ð 0*(-1)) (Ð ((ā (l-hi)))-Ð 0) (-1);rw[e1,g];show ϳ3
 let e:b=ϸt (ϱY<|(ı "range" (Ŝ #[Ä l t,Ä hi u,Ä (-1) v]))):=ϲe
 subst e;show i.fpOk ß<|i.Y1.fresh ß
def QE(ta:TA):TI:=ϭQ (∃i j:Int,s=[Ä i,Ä j,Ä<|-1]/\(-ϰA<=i/\i<ϰA/\-ϰA<=j/\j<ϰA)/\R (Itd i (ā (i-j))) h)
theorem Hy{p pos:Pos}(hg:ϧt)(M:ϦO)(A:ϰI ϨH ta)(f:à ϨH=ϰK Υ (à ϷJ))(S:ϰv (ϳq<|à ϷJ)):
  Ϸo (ϳo "range" ϨH) (QE ta):=by
 ext n s o H R I h;apply Call_<|ώc<|K98 (Y6 (A pos n s o H _ I h) λw v zzz=>?_) f S;let(V,u,d,m,Q):=zzz;obtain⟨i,j,e,⟨Q,k,l,g⟩,q⟩:=Q;subst e;cases m with
 |cons r rr=>
  cases rr with
  |cons r' rr=>
   cases rr with|cons r'' rr=>cases rr;let(t,rfl):=r;let(U,rfl):=r';let(T,rfl):=r'';show call_range_3 Õ (Ny d Q k l g q) (È<|PyProof.noPylong_small Õ)
end
def wA(l:Int)(n:Nat):À Go:=Î ϰf (Ģ (int<|l-k))
def iR3(a b c:Fe):Fi:=λd=>ï (a d) λx=>ï (b d) λy=>ï (c d) λz=>match x.er,y.er,z.er with
 |.int i,.int j,.int k=>Ì (ě (ϤH&&Ë (k=-1))) (Ħ (wA i (ā (i-j)))) Í
 |_,_,_=>Í
theorem Eb{K:Ch}{F:Hp}(l:Int)(k:Nat):Walks K F (Itd l k) (wA l k):=by
 ext i G H S w;delta wA;apply(λd h=>?_,ϕ7);rw[Oe]at h;let(j,J,rfl):=Ϸp;let(a,b):=ϥz;let f:i=j:=by simpa using b
 subst f;apply(ϖJ,λx c y=>?_);let(rfl,rfl):=y;show(G,ϯY,Ä _)
section
variable{X:Cx}{pos:Pos}
set_option tactic.hygienic true in
theorem X2(h:ϺW ϐ5):QE (ϵr<|ό6<|ae fb<|Ő fc) σ H R':=by
 let(F,a,f,S,p):=h;apply(F,a,f,S,?_);delta iR3 at p;let T:=Ϸe;change ă f _ (ό6 (ae fb<|Ő fc) a);rw[vV,vV,vV,JW];cases ha:fa a with
 |bad=>rw[ha]at T;show T
 |ex c=>rw[ha]at T;show T
 |ok x=>
  rw[ha]at T;let b:ă f _ (fb a):=aq.bind T;cases hb:fb a with
  |bad=>rw[hb]at b;show b
  |ex c=>rw[hb]at b;show b
  |ok y=>
   rw[hb]at b;let d:ă f _ (fc a):=aq.bind b;cases hc:fc a with
   |bad=>rw[hc]at d;show d
   |ex c=>rw[hc]at d;show d
   |ok z=>
    rw[hc]at d;ext V m l X e1 r W;let(G1,D,K):=ϳ9 W;cases K with
    |@cons v _ _ _ K k2=>
     cases k2 with
     |@cons w _ _ _ k2 k3=>
      cases k3 with
      |@cons u _ _ _ k3 k4=>
       cases k4;let P:aq M H f ϶T (match x.er,y.er,z.er with
        |.int i,.int j,.int k=>Ì (ě (ϤH&&Ë (k=-1))) (Ħ (wA i (ā (i-j)))) Í
        |_,_,_=>Í):=d
       generalize x.er=dx at P K;generalize y.er=dy at P k2;generalize z.er=dz at P k3
       split at P
       .rename_i i j k
        cases K;cases k2;cases k3;by_cases s:ě (ϤH&&Ë (k=-1))
        .rw[Os s]at P
         rw[K9U,K9U,K9k]at s;obtain⟨⟨e,g⟩,rfl⟩:=s;let e:=gN.mp e;let g:=gN.mp g;show(i,j,rfl,(e.1,e.2,g.1,g.2),P _ G1 l D<|Eb _ _)
        rw[P3 s]at P;show P.elim
       show P.elim
theorem QP(hg:ϧt)(g:ϦO)(h:ê a fa)(k:ê b fb)(l:ê c fc)(S:Û (à ϨH=ϰK Υ (à ϷJ)))(d:Û (à ϷJ=ϰK ϵl (à [c])))(f:Û (à [c]=ϰK (eval c X.env) (à [])))(e:Û (ϰv<|ϳq<|à ϷJ)):ϸp (ϳo "range" ϨH) ϐ5:=λK m=>λi s j H r I z=>ϚM<|X2 z
theorem Vx{x y z:Int}(h:ϻQ=Ý (Ä x))(H:ϻR=Ý (Ä y))(f:fc ρ=Ý (Ä z))(Z:z=-1)(S:ϥ1 aD)(w:aD y=true):ϐ5 ρ=Ħ (wA x (ā (x-y))):=by delta iR3;rw[h,H,f];subst Z;simp only[cq,aW,S,w,K7m,decide_true,K84]
theorem Cd{l:Int}(h:û (wA l n)=Ω):i<n/\d=Ä (l-i):=by
 delta wA at h;rw[Oe]at h;let(j,J,rfl):=Ϸp;let(H,a):=ϥz;let f:i=j:=ϐl
 subst f;show(Ϸ4,rfl)
theorem Ji(l:Int)(n:Nat):Ã (wA l n)=n:=Ϻ1 wA
end
def WM(P:Ev)(base:Op):Prop:=base.NoSeer/\P.given.tree=none
theorem Hs{K:Ch}{M T:ł}{S:Db}{g:À Do}{R:À Int}(KX:K.In S.heap)(y:S.heap.Ns mainGlobals M)(B:S.heap.Ns builtinsNs T)(J:∀x:Str,Ϸ5->T x=Ϸ6)(L:S.heap.NoLimit)(E:S.heap.NoSeer)(hg:S.gens=#[])(A:S.heap.get? a=Â ((ı "list" (ϳR g.toArray))))(hi:IntsAre g R)(hl:Ĕ R.length)(hr:ϴr callerA)(F:∀base:Op,K.In base->ϏL M->base.NoSeer->϶j M base CX k fa fd [x] sp)(i:∀(s:Db)(u:Do),Ϯ6 ((ϴ1 [u])) [(x,u)])(Q:∀H:Hp,TX H->ϸz a ϳu->sp [Å a] H ϘV Ϧ2)(X:∀H e c,CX [] H S Ϧ2 e c->False):
  ϹV Ϻ7 callerA (.call (Å fa) (ϴ1 [Å a])) (λr c=>r=ϫR (í true)/\ώg) S:=by
 let rv:=qI hi;let D:=hi.length;let core:∀H:Hp,TX H->ϸz a ϳu->ϥw H S.heap->(∀b,ϲc (H b)->b=a)->(ϧM->ϯV=none)->
   ϹV Ϻ7 callerA (.call (Å fa) (ϴ1 [Å a])) (λr c=>r=ϫR (í true)/\ώg) S:=by
  ext H hO hS O G hK;let f:∀{b:Ix}{o:Obj},ϧd=Ü->ϱc->(ϧj).get? b=Ü:=λe n=>HS e n;let U:∀{b:Ix}{o:Obj}{l:Ϲ4 DictEntry}{p:Nat},ϧd=Ü->o.data=.dict l p->ϱc:=fun{b o l p} e d=>by
   cases q:H b with
   |none=>rfl
   |some u=>
    let j:b=a:=G b (ϲi q);subst j;rw[A]at e;cases e;let d':Data.seq g.toArray _=Data.dict l p:=d;cases d'
  let N:∀{b:Ix}{m:ł},S.heap.Ns b m->(ϧj).Ns b m:=fun{b m}⟨o,l,p,e,d,r⟩=>⟨o,l,p,f e<|U e d,d,r⟩
  let W:∀{b:Ix}{o:Obj},ϧd=Ü->o.cls=Ĳ "module"->ϱc:=fun{b o} e d=>by
   cases q:H b with
   |none=>rfl
   |some u=>
    let j:b=a:=G b (ϲi q);subst j;rw[A]at e;cases e;let d':Value.type "list"=Value.type "module":=d;show Đ d' Õ
  let t:K.In ϧj:=λb o e=>f (KX b o e) (by
   cases q:H b with
   |none=>rfl
   |some u=>
    let j:b=a:=G b (ϲi q)
    subst j;rw[hK<|ϲi q]at e;cases e)
  let I:(ϧj).NoSeer:=
   ⟨let⟨mc,h1,h2⟩:=E.statics;Ϯd,let⟨mc,h1,h2⟩:=E.mods;Ϯd,let⟨mc,h1,h2⟩:=E.imp;Ϯd,let⟨m1,bm,Y,h1,h2,h3,h4,h5⟩:=E.main;⟨m1,bm,Y,N h1,h2,f h3<|W h3 h4,h4,h5⟩⟩
  let hM:Mod K M ϧj:=⟨t,N y,⟨T,N B,J⟩,let⟨mc,h1,h2⟩:=L;Ϯd⟩;let e0:ϓv M ϧj callerA [] S H:=⟨rfl,hM,ϷB (Oc e),Nat.le_of_eq<|GY _ _,trivial,λb B=>Đ (show b∈([]:À Ix)from B) Ø,O,.of_eq hg⟩
  apply K8G ((F _ t (N y) I).run callerA [] S H (ϴ1 [Å a]) [Å a] [Å a] _ _ hr e0 (i S<|Å a) (Ĉ rfl Ā)<|Q H hO hS) λr c h=>?_;cases r with
  |error e=>show ϴt (X H e c h)
  |ok fl=>
   cases fl with
   |next=>show ϑ6
   |brk=>show ϑ6
   |cont=>show ϑ6
   |ret u=>
    let(v,H',os,bare,un,C,r',q):=h;let q':v=.bl true:=q;subst q';obtain rfl:u=Value.bool true:=r';apply(rfl,OldK.of_keep (ϷB ?_),os,bare);cases q:H b with
    |none=>show un.keep b o e q (όM<|Đ (ń (b∈([]:À Ix)) z) Ø) Ø
    |some u=>
     rcases hO b with z|⟨Y,xs,z⟩
     .rw[q]at z;cases z
     .let z2:=un.frzs b Y _ z
      let(e1,_):=O b _ z;let(e2,_):=C b _ z2;rw[e]at e1;cases e1;show e2
 cases hk:K.lookup a with
 |some o=>have e:=KX a o hk;rw[A]at e;cases e;apply core Ϫ3 (λ_=>È rfl) (Ñ ⟨g.toArray,_,hk,by rw[K9W,D];show hl,Ŀ rv⟩) (λb u z=>by let Z:(none:Ú HO)=Ė:=z;cases Z) (λb z=>ϱH z) λz=>ϱH z
 |none=>
  apply core (λb=>if b=a then some (.Z2 (ı "list" (ϳR g.toArray))<|Ă ϳu)else none) ύE (È<|Ñ ⟨ı "list" (ϳR g.toArray),ė⟩) (λb u z=>?_) (λb z=>?_) λ_=>hk
  .by_cases B:b=a
   .exact Ñ ⟨_,_,Os B⟩
   show È<|P3 B
  .by_cases B:b=a
   .let Z:=(Os B).symm.trans z
    cases Z;subst B;show(A,Ù I4 hl,g,_,rv,A)
   let Z:=(P3 B).symm.trans z;cases Z
  by_cases B:b=a
  .exact B
  show Đ (P3 B) z
theorem KP{l:PySem.W.OpenLaw}{P:ł->Ô Op}{y:Fk->Ô Op}{d:DefRec}{K:Params->Ch}{CX:Fk->CXT}{sp:Fk->Sp}(Q:Γ importsNone q)(A:l.most=ŵ)(N:n<=sizeLine)(D:ϏH)(hr:ϴr callerA)(z:∀(w:Fk)(h:Op),y w h->(ϻb).In h)(F:∀(w:Fk)(m:ł)(fa:Ix)(h:Op),(ϻb).In h->ϺH m->m d.name=Â (Å fa)->
   ϔa base.NoSeer (CX w) (sp w))(p:∀(w:Fk)(H:Hp)(a:Ix)(R:À Int),ϯt->TX H->RdK ϻb H a ϳu->sp w [Å a] H ϘV Ϧ2)(X:∀(w:Fk)(H:Hp)(s:Db)(e:Do)(c:Db),CX w [] H s Ϧ2 e c->False):
  Ϙg y l.row.toRowW d [] (λf j=>ϑ1 j):=by
 apply Att.BM A D λw s₀ S m M fa o pm cd doc a j R G Y I E C g b hints L hg=>?_;let i:=z w _ Y;let(fd,B,r):=F w m fa _ i G.T.g g;show Hs i G.T.g G.T.b G.T.builtins G.T.nolimit (G.T.seer Q) hg b hints (K9C L N) hr r B (λH O t=>p w H a R L O t) λH e c=>X w H S e c
theorem WK{l:PySem.W.OpenLaw}{P:ł->Ô Op}{Y:Fk->Ô Op}{d:DefRec}{K:Params->Ch}(C:Γ importsNone q)(N:l.most=Â 63)(g:ϏH)(hr:ϴr callerA)(A:∀(w:Fk)(h:Op),Y w h->(ϻb).In h)(B:∀R:À Int,R.length<=63->fn [Ö ϰQ]=Ý (í true))(T:l.prog.given.tree=none)(F:∀(w:Fk)(m:ł)(fa:Ix)(h:Op),(ϻb).In h->ϺH m->m d.name=Â (Å fa)->
   ϔa (WM l.prog base) Z8 (Y8 ϻb m fn)):
  Ϙg Y l.row.toRowW d [] (λf V=>ϑ1 V):=by
 apply KP (n:=63) (k:=k) (x:=x) (CX:=ϰs Z8) (sp:=λw V H Q E=>∃F D x,ϲu/\D1 ϻb F V D/\fn D=ϴV/\T0 ⟨ϻb,Ϫ3,E⟩ F H Q x) C N Õ g hr A (λw m fa h a b c=>?_) (λw H a R L _ S=>?_) λ_ _ _ _ _ z=>z
 .let(fd,o,t):=F w m fa h a b c
  apply(fd,o,λbase G nb I=>(t base G nb ⟨I,T⟩).imp ?_);ext V H Q E ⟨F0,D,y,sm,ra,e,p⟩;apply(F0,D,sm,ra,?_);rw[e];exactλv i j X=>p v i j X
 apply(H,[Ö ϰQ],_,ϰE,Ĉ (Ă S<|D1.ofInts R) Ā,B R L,?_);ext v i j X e r w;cases r.own with|sh q=>cases q;rfl
def keyOf:Go->Ú Key|.int i=>Â<|È i|.str x=>Â<|Ñ x|_=>none
theorem wK(k:Key):ϴn (kD k)=ϱP:=ϐx
def eI(v:À ϰo)(k:Key):Ú Go:=(v.find? λK=>Ë π).map Ī
def putD(v:À ϰo)(k:Key)(d:Go):À ϰo:=
 Ì (Γ v.any (λK=>Ë π)) (v.map (λK=>Ì π (K.1,d) K)) ϓK
def eJ(v:À (Go×Go))(k:Key):Ú Go:=(v.find? λK=>Ë<|ϴn K.1=ϱP).map Ī
theorem lC(v:À ϰo)(k:Key):eJ (v.map ϦP) k=eI v k:=by
 delta eJ eI
 induction v with
 |nil=>rfl
 |cons p r ih=>
  rw[W1,K8p,K8p];by_cases h:ϵG
  .rw[ϵc,Tl<|by change ϴn (kD p.1)=ϱP;rw[wK,h]]
   rfl
  rw[ϲR,Pi<|by change¬ϴn (kD p.1)=ϱP;rw[wK];exact ϻP Zz];show ih
def gDx:ζ
 |.dict L1,y=>ϱi (keyOf y) (dq<|eJ L1 k)
 |_,_=>Í
theorem V3(k:À ϰo)(i:Int):gDx (dD k) (Ä i)=dq (ϫU<|È i):=by
 change dq (eJ _ _)=_;rw[lC]
def eD1(a b:Fe):Fe:=λc=>ï (a c) λx=>ï (b c) λy=>ϱi (ϴn x.er) (Ϸm ϯ0)
def sDP(i:Nat)(k a:Fe):Fs:=λb=>match ϸT with
 |some (some<|.od L1)=>Φ λy=>ï (k b) λz=>match ϴn z.er with
  |some q=>Ì Ϲn (ω b.set od (ό0 q y.er)) Í
  |none=>Í
 |_=>Í
section
variable{K:Ch}{F H:Hp}
theorem BJ:∀{s:À ϳ5}{D:À ϰo}{k:Key}{d:Go},ϩA (eI D k=Ω->∃v,nc s k=ú/\Ğ F v d):=by
 ext s
 induction s with
 |nil=>
  ext D _ _ h _ e;cases D with
  |nil=>cases e
  |cons=>cases h
 |cons p s ih=>
  ext D k d h r e;cases D with
  |nil=>cases h
  |cons q D=>
  rw[W1,W1]at h r;let(c,f):=Ϥd;cases r with
  |cons r1 r2=>
   delta eI at e;rw[K8p]at e;by_cases H:Ϻe
   .rw[Tl H]at e
    let E:=Zz e;show(p.2,pA<|c.trans H,by rw[<-E];show r1)
   rw[Pi H]at e;let(v,a,b):=ih (k:=k) (d:=d) f r2 e;show(v,ϧx (pg λz=>H<|c.symm.trans z),b)
theorem Mb{v:À ϳ5}{d:À ϰo}(k:Key)(h:ϲn v.map Ļ d.map):ϲn v.any (λK=>Ë π) d.any:=by
 let e1:(v.any λK=>Ë π)=(v.map Ļ).any λx=>Ë (x=k):=ϱJ Zdv
 let g:(d.any λK=>Ë π)=(Ϻn Ļ).any λx=>Ë (x=k):=ϱJ Zdv
 rw[e1,g,h]
theorem LA{k:Key}(f:Ğ F v d):∀{s:À ϳ5}{D:À ϰo},ϩA (Ϭr (ϳU<|(ϺC (c.1,v))) (D.map (ϺC (c.1,d)))):=by
 ext s
 induction s with
 |nil=>
  ext D h _;cases D with|nil=>show(rfl,Ā)|cons=>cases h
 |cons p s ih=>
  ext D h r;cases D with
  |nil=>cases h
  |cons q D=>
  rw[W1,W1]at h r;let(H,e):=Ϥd;cases r with
  |cons r1 r2=>
   let(a,b):=ih e r2;rw[W1,W1,W1,W1,W1,W1,a];by_cases Q:Ϻe
   .rw[Os Q,Os ϓj]
    show(by rw[H],Ĉ f b)
   rw[P3 Q,P3 Ϗm];show(by rw[H],Ĉ r1 b)
theorem KU{k:Key}(H:Ğ F v d)(h:ϲn L1.map Ļ ds.map)(r:Ű (Ϻi Ī) (ϴ2 Ī)):
  Ϭr (ϧS v) (putD ds k d):=by
 delta putK putD;rw[Mb k h];by_cases A:Γ ds.any (λV=>Ë<|V.1=k)
 .rw[Os A,Os A]
  show LA H h r
 rw[P3 A,P3 A,Z6,Z6,Z6,Z6,h];show(rfl,r.app<|Ĉ H Ā)
theorem iq{k:Key}(r:Ğ F y d)(e:keyOf d=ϱP):y=kV k:=by
 cases r with
 |Y4=>cases e
 |bl _=>cases e
 |int i=>cases e;rfl
 |str x=>cases e;rfl
 |lst _ _=>cases e
 |tup _ _=>cases e
 |dct _ _ _=>have E:(none:Ú Key)=ϱP:=e;cases E
 |dtt _ _ _=>have E:(none:Ú Key)=ϱP:=e;cases E
end
section
variable{H:Hp}{Q:VK}
def QK:R2:=ž (∃a v,x=Å a/\Ϩh ú/\Q v H)
theorem Ii(d:À (À Key×Go))(k:Key):eJ ((ù,ù)::Ϻn (λp=>(ä<|Î p.1 kD,p.2))) k=none:=by
 delta eJ;rw[Option.map_eq_none_iff,List.find?_eq_none];ext x H;rcases Z7.mp H with rfl|H
 .exact λh=>nomatch of_decide_eq_true h
 let(p,_,rfl):=ϴa
 exact λh=>nomatch of_decide_eq_true h
theorem UN:δ QK gDx:=by
 ext x y X D F H f Q s R Y p;cases R with
 |Y4=>show p.elim
 |bl _=>show p.elim
 |int _=>show p.elim
 |str _=>show p.elim
 |lst _ _=>show p.elim
 |tup _ _=>show p.elim
 |@dtt a L1 ds h1 h2 h3=>
  let T:aq M H f ŀ (ϱi (keyOf D)<|dq<|eJ ((ù,ù)::ϴ2 (λp=>(ä<|Î p.1 kD,p.2))) k):=p
  cases hk:keyOf D with
  |none=>rw[hk]at T;show T.elim
  |some k=>
   rw[hk]at T;let P:ă f ŀ (dq<|eJ ((ù,ù)::ϴ2 (λp=>(ä<|Î p.1 kD,p.2))) k):=T;rw[Ii]at P;show P.elim
 |@dct a L1 ds h1 h2 h3=>
  let T:aq M H f ŀ (ϱi (keyOf D)<|dq<|eJ ϲB k):=p
  cases hk:keyOf D with
  |none=>rw[hk]at T;show T.elim
  |some k=>
   rw[hk]at T;let P:ă f ŀ (dq<|eJ ϲB k):=T;rw[lC]at P;cases hv:eI ds k with|none=>rw[hv]at P;show P.elim|some d=>rw[hv]at P;let(v,v1,V):=BJ h2 h3 hv;show(a,v,rfl,È ⟨L1,k,È ϹE,iq Y hk,v1.symm⟩,ϑd V)
theorem O5(h:ć (eD1 fa fb) σ H Q):H_ [(ć fa,ć fb)] σ H Q:=by
 let(F,j,i,S,p):=h;ext q a;let E:Κ F (Į q ϥl):=Ϗ5;apply(F,j,i,ϫ1,ş ((Ϸe).ext E) ϗU);let(G1,D,K):=ϵx W;let e:=E.trans D;apply(G1,j,i,(ϫ1).ext D,ş (ϴB X e) ϗy);let(G2,d,t):=A.Z2 s C;let f:r q=Â ϥl:=Ϯa aX;apply(f,?_);cases hk:keyOf x.er with
 |none=>rw[hk]at py;show py.elim
 |some k=>
  rw[hk]at py;let V:=iq K hk;apply([(k,u)],ϱJ V,(ϱF<|1<=15),?_);let em:ϑU [(k,u)]:=rfl;rw[em];let P:ŀ (.od ϯ0):=py;let c:=e.trans d;let l:ύl:=ϮM;let g:G2 q=none:=(ϹA).nw q (bX aX) l;apply P (Å q) G2 _ [q] (ϲr c.ff ϻa ϒY) ⟨Ϛr<|Ĉ t Ā,Ø,ϴL⟩ ϴL
  .let B:ϸU:=ϬW
   rw[ϳk];show Ϯa (Ù ϳk z)
  .let B:ϸU:=ϖX
   rw[ϳk];show ϒ9 z
  .let B:ϸU:=Ϲk (z a)
   show(ϹA).nw b (Ù ϳk z) w
  .let:b=q:=ϵi
   rw[this];show g
  let:b=q:=ϵi
  rw[this];show a
theorem Stt.writeD{K:Ch}{F:Hp}{f:Env}{P:À Ix}(S:ϲ0 K σ f P){i:Nat}{D:À ϰo}(x:f[i]?=Â (Â<|.od D)):
  ∃a s,û σ=Â (Â<|Å a)/\H a=Â (.dK s)/\ϲn s.map Ļ D.map/\Ű (ϳU Ī) (D.map Ī)/\
   ∀c h k d,Κ c h->ϲn k.map Ļ d.map->D1 K c (ϳj Ī) (Ϻn Ī)->
    ∃p,ϨG c (Ϲf Ϭf) σ (Ϙ1<|Â<|.od d) p/\ϰz P c (Ϲf Ϭf) p:=by
 let(v,t,g1,g2,g,j,rfl,l):=S.own.at x;cases j with
 |@od a s _ ha hk hr=>
  let nd:=S.nd;simp only[K9T,Y7,K92,K8k,Z7,K9B]at nd;obtain⟨u,⟨na,w⟩,N⟩:=nd;apply(a,s,g,ha,hk,hr,ϙG);let fa:c a=none:=ϐ3 (ϪG Ø)
  let own:=l c (Ϲf Ϭf) e.ff (λb m o q=>by
   let:ϷH:=by
    ext rfl;rcases Y7.mp m with m|m
    .exact N b m b (È rfl) rfl
    show na m
   rw[aA this];show ϤU) (Å a) (.od d) [a]<|.od aX Q r
  rw[oQ g]at own;let Zm:ϩl (ϲo [a]) (c b):=ύ4
  apply(ϲo [a],(?_,own,S.nd,Zm,Ù K8z S.len),(e.ff,ϑE,λb m=>È m,Ϗw))
  .intro b o q
   rw[aA<|ϳf fa];show ϯZ
  let B:ϷH:=Ϲk (m Ø)
  rw[ϳk];show ϤU
set_option tactic.hygienic true in
theorem Rx(h:ϱn (sDP i k a)):J1 ϸK (ć k) (ć a) D σ H:=by
 let(F,j,f,S,p):=h;delta sDP at p;replace p:=odk p;let(d,e,p):=p
 apply(F,j,f,S,Ķ λy py v N O Y e1 R W=>?_);let(G1,b,K):=ϵx W;let(l,s,A,B,o,C,wr):=S.writeD e;apply(_,A,G1,j,f,S.ext b,ş (ϴB py b) λz Z u F2 t Q x I J=>?_);let(G2,m,G):=I.Z2 x J;let E:=b.trans m;cases hk:keyOf z.er with
 |none=>rw[hk]at Z;show Z.elim
 |some q=>
  rw[hk]at Z;let P:ă f (ϵ2 f D) (Ì ϯx (ω j.set od (putD d q y.er)) Í):=Z;by_cases g:ϯx
  .rw[Os g]at P
   let L:ϫ9 s.length:=ϬY (Ŧ o) I4
   let r:=ϛM<|C.same E.ff;let(c,w,T):=wr G2 t _ _ E r.1 r.2;show(l,_,rfl,È ⟨s,q,϶k B,iq G hk,by rw[L];show uI g,rfl⟩,P σ G2 _ c w T)
  rw[P3 g]at P;show P.elim
end
section
variable{X:Cx}{p pos pos':Pos}
theorem Jo(U:ϲD 1)(A:ê a fa)(B:ê b fb)(S:Io b):ê (ŧ a b pos) (F4 gDx fa fb):=λr m=>peI (zS U ϴP ϸD S) (ū (Gm UN q))
theorem PJ(A:ê a fa)(B:ê b fb):ê (ϫW [ϴW] [b]) (eD1 fa fb):=ϰt peI (Em (mL ϴP ϸD Ae) rfl rfl Ø<|ϱF (1<=15)) O5
theorem AZ(i:Nat)(hu:ϲD 1)(hb:ê b fb)(h:ê e fa)(hN:Û (Α=ö))(hv:϶L)(hd:Ŭ)(hcd:ő ϵd)
  (hs:Û (ϤJ (Â<|ŧ (î p) b pos') pos.line X.env=϶b)):Λ (Ϻ3<|ŧ (î p) b pos') (sDP i fb fa):=ϻ0 (psI (ER hu ϶R ϧC ϓF hs) (ū (Rx q)))
end
section
variable{ρ:Env}{a b k:Fe}
theorem U7:eD1 a b ρ=opK (λx y=>ϱi (keyOf x) (Ϸm [(k,y)])) ű ϶D:=rfl
def PD(o:Ú (Ú OD))(a k:ď)(i:Nat)(b:Env):ϰ2:=match o with
 |some (some<|.od L1)=>Zi (λy=>Zi (λz=>match ϴn z.er with
  |some q=>Ì Ϲn (ω b.set od (ό0 q y.er)) Í
  |none=>Í) k) a
 |_=>Í
theorem Ah(i:Nat):sDP i k a ρ=PD ϱw ű (k ρ) i ρ:=rfl
theorem AV{z:Int}:PD (some<|Â<|.od L1) (.ok Ř) (Ý<|Ä z) i ρ=Ì Ϲn (ω ρ.set od (ό0 (È z) d)) Í:=by
 change(match ϴn (ë<|int z).er with
  |some q=>Ì Ϲn (R.ok (Out.nx<|ϳZ<|some<|.od<|ό0 q (Ϩr).er)) Í
  |none=>Í)=_
 rw[aW,aW];rfl
end
theorem gI(r:ϴr A):ϤB 1:=þ r.units
def mR(x:Go)(l hi:Ú Int):ď:=match x with
 |.str y=>Ì (y.length<=H6) (Ý (Æ ϐd)) Í
 |_=>Í
def VZ:V->ϱ3 (Ú Int) (Hp->Ô VK):=λx l hi H Q=>∃y,x=Æ y/\Ĕ y.length/\Q (Æ ϐd) H
section
variable{X:Cx}{M:Mx}
theorem part_of(h:IsPart v o):∃l:Ú (Int×Tok),v=partValue l/\l.map Ļ=o:=by
 cases h with|none=>show(none,rfl,rfl)|int i t=>show(Â (i,t),rfl,rfl)
theorem iN:SlR X VZ:=by
 ext p s b H x v V a o hi L Q I R S P pu h;let(y,rfl,Y,q):=h;let(t,rfl):=R;let(l,rfl,rfl):=part_of P;let(u,rfl,rfl):=part_of pu;apply("str",_,PySem.F.slot_str_getitem.lookup,typeIs_str _ _ _,ϚX<|post_val_or_str ⟨K9C (Txt.slice_le y _ _) Y,λU k=>?_⟩);show(Æ _,H,ϨI,(U,rfl),q)
set_option tactic.hygienic true in
theorem iU(r:Ŕ):OkS M VZ mR:=by
 ext x l hi d F H f Q s R p;cases R with
 |str _=>
  delta mR at p;dsimp only at p;split at p
  .rename_i a
   show(_,rfl,hR a,ϵg<|Æ _)
  show p.elim
 |_=>show False.elim p
theorem vk(y:Str)(l hi:Ú Int):mR (Æ y) l hi=Ì (y.length<=H6) (Ý (Æ ϐd)) Í:=rfl
end
def inS(x y:Str):Bool:=!(ϵL (Builtin.Str.occurrences y x 0 y.length 1))
def gIn:ζ|.str x,.str y=>Ý<|í ύF|_,_=>Í
def MI:ζ|.str x,.str y=>Ý<|í<|! ύF|_,_=>Í
section
variable{X:Cx}{M:Mx}
theorem xJ:ϳr In (ž<|ϻk (Æ i) (Æ j) (.bl<|! Ϧs)):=GN
theorem Hg:ϳr NotIn (ž<|ϻk (Æ i) (Æ j) (.bl<|!(! Ϧs))):=AU
theorem A8(_:Ŕ):δ (ž<|ϻk (Æ i) (Æ j) (.bl<|! Ϧs)) gIn:=by
 ext x y d D F H f Q s R Y p;cases R with
 |str _=>cases Y with|str _=>show(_,_,rfl,rfl,ϵg ϴZ)|_=>show False.elim p
 |_=>show False.elim p
theorem Mj(_:Ŕ):δ (ž<|ϻk (Æ i) (Æ j) (.bl<|!(! Ϧs))) MI:=by
 ext x y d D F H f Q s R Y p;cases R with
 |str _=>cases Y with|str _=>show(_,_,rfl,rfl,ϵg ϴZ)|_=>show False.elim p
 |_=>show False.elim p
theorem AB(x y:Str):gIn (Æ x) (Æ y)=Ý (í ύF):=rfl
theorem P4(x y:Str):MI (Æ x) (Æ y)=Ý (í<|! ύF):=rfl
end
def Its(x:Str):It:=(ϔ8 (h=H/\∃c,û x.cps=ã/\v=Æ Š))
theorem GQ{P:Ev}{w:Fk}{K:Ch}{tg:On}(it:Ix)(x:Str)(t:Tok):ϭe (Its x) ϕu where
 mem:=Ø
 obj:=λi h T b B=>by
  let e:b=it:=ϲe
  subst e;let(o,e,c,d):=T;show(o,e,ϩN)
 keep:=λi h a T k=>let⟨o,e,r⟩:=T;⟨o,k it Ø o e,r⟩
 item:=by
  ext X hP q n hc i p s y H E I f T hg;subst hP q n;let(g,j,G,l,f4,m):=f it Ø;let W:=PySem.Walks.strAscii (prog:=X.prog) (w:=X.w) ϱW it x t;apply W.item i s _ _ hg T λv a tk V S J=>?_;let(c,u,C,rfl):=V;let A:ų p y H ϗz:=Ϗo (J b o ϲe e) l f4 m;let(o,e,D,d):=id S;show(_,rfl,E9 (s:=ϗz) e D d Õ ⟨Æ Š,H,A,⟨u,rfl⟩,⟨rfl,c,C,rfl⟩,S,ϐs⟩)
 done:=by
  ext X hP q n hc i p s y H E I f T hg;subst hP q n;let(g,j,G,l,f4,m):=f it Ø;show wpAny_pyNext_ascii_end ϱW T (by let:x.cps.size<=i:=hg;simp;lia) λa F=>(ϲx (ϩH (F b o ϲe e) l f4 m))
 self:=ϭv wpAny_pyIter_striter_ascii
def Qe(tl:TE):TI:=λa H R=>tl a H λx h=>∃y,x=Æ y/\ϸ7/\R (Its y) h
theorem NS(L:õ l tl):Ϸo l (Qe tl):=by
 ext p s c H R I h;apply Ϥs (L p s c H _ I h);let(x,a,i,r,Q):=zzz;let(y,e,Y,q):=Q;subst e;let(t,rfl):=r;apply wpAny_pyIter_ascii Y ?_;apply(S.heap.objs.size,ϙZ,_,_,a,rfl,i.kept (t':=S.toks) ϦT,GQ _ y t,(_,ϳ3,rfl,rfl),ϸq,q);let e:ϭS:=ϲe
 subst e;show i.fpOk ß<|i.Y1.fresh ß
def signs(x:Str):À Go:=x.cps.toList.map λc=>ϹH Š
def iTx(a:Fe):Fi:=λb=>Φ λx=>match x.er with
 |.str y=>Ì ϸ7 (Ħ ϥa) Í
 |_=>Í
theorem Ru(h:ϺW (iTx a)):Qe (ć a) σ H R':=by
 let(F,m,f,S,p):=h;apply(F,m,f,S,Ķ λx P v o e u e1 r W=>?_);let(G1,g,k):=ϳ9 W;generalize x.er=d at P k;cases k with
 |str y=>
  let X:ă f ϶T (Ì ϸ7 (Ħ ϥa) Í):=P;by_cases Y:ϸ7
  .rw[Os Y]at X
   apply(y,rfl,Y,X _ G1 e g λi G q z w=>⟨ϓ0,λl=>?_⟩)
   .unfold signs at D
    rw[Oe]at D;let(c,hc,rfl):=Zb.mp D;let C:û y.cps=ã:=ϰ9 K7u hc
    apply(ώx,λx s j=>?_);let(rfl,t,b,rfl):=j;rw[C]at b;cases b;show(G,ϯY,Æ _)
   delta signs at l;rw[I4]at l;change y.cps.size<=i;simpa using l
  rw[P3 Y]at X;show X.elim
 |Y4=>show P.elim
 |bl _=>show P.elim
 |int _=>show P.elim
 |lst _ _=>show P.elim
 |tup _ _=>show P.elim
 |dct _ _ _=>show P.elim
 |dtt _ _ _=>show P.elim
theorem FV(h:ê e fa):ϸp e (iTx fa):=λk m=>λp s a H r I z=>ϛt<|Ru z
def JG(x:Go)(l hi:Ú Int):ď:=match x with
 |.tuple ds=>Ì (ύ5 ds.length) Í (Ý (ä<|cutD ds l hi))
 |_=>Í
set_option tactic.hygienic true in
theorem Sy{X:Cx}{M:Mx}(r:Ŕ):OkS M (U4 X.K) JG:=by
 rw[r];ext x l hi d F H f Q s R p;cases R with
 |@tup a vs ds h1 h2=>
  delta JG at p;dsimp only at p;split at p
  .exact p.elim
  rename_i w;apply(a,vs,rfl,SqT.of ϹE,by rw[ϴK];show w,λq h=>?_);apply T0.tupF s p ϮV ?_ h;delta B5 cutD;rw[ϴK];show Ϙr<|D1.drop _ h2
 |_=>show False.elim p
theorem W6(d:À Go)(l hi:Ú Int):JG (ä d) l hi=Ì (ύ5 d.length) Í (Ý (ä<|cutD d l hi)):=rfl
def rT(i:Nat)(k:Fe)(a:Fe):Fs:=λb=>match ϸT with
 |some (some<|.ol xs)=>ï (k b) λz=>match z.er with
  |.int q=>match Ϲg q with
   |some j=>match Ϩ8 with
    |some (.ol ys)=>Φ λy=>match y with
     |.ol zs=>if Ϙh then ω b.set ol (ϸf<|.ol<|ys++zs)else Í
     |_=>Í
    |_=>Í
   |none=>Í
  |_=>Í
 |_=>Í
section
variable{M:Mx}
set_option tactic.hygienic true in
theorem Oz(h:ϱn (rT i k a)):xK (ϭb zW (ϔM<|ć k)<|t_ (ć a) Co) D σ H:=by
 let(F,w,l,S,p):=h;delta rT at p;replace p:=olk p;let(X,e,p):=p
 let hc:comps ϨR=Â (true,X):=rfl;let(v0,_,_,_,G,O,_,_):=ϤT;apply(v0,G,F,w,l,S,Ķ λz r u F1 H1 fz e1 r1 w1=>?_);let(G1,x,K):=ϒV;generalize z.er=dz at r K;cases dz with
 |int q=>
  cases K;let Z:aq M H l (ϵ2 l D) (match ϤE q with
   |some j=>match Ĵ X with
    |some (.ol s)=>ï (a w) λy=>match y with
     |.ol zs=>if ϭp then ω w.set ol (ϤD ϒZ)else Í
     |_=>Í
    |_=>Í
   |none=>Í):=r
  cases hj:ixN X.length q with
  |none=>rw[hj]at Z;show Z.elim
  |some j=>
   rw[hj]at Z;let t:aq M H l (ϵ2 l D) (match Ĵ X with
    |some (.ol s)=>ï (a w) λy=>match y with
     |.ol zs=>if ϭp then ω w.set ol (ϤD ϒZ)else Í
     |_=>Í
    |_=>Í):=Z
   split at t
   .rename_i s hy
    let(R,V,b,ws,f,I,U,Y,B,J,W,nf,T,wr):=(S.ext x).write2 e hc hy;rw[G]at I;cases I;let at1:Y9 V q=Â (Å b):=by delta Y9;rw[Y,hj];show B
    apply(R,V,q,Å b,rfl,rfl,Zv.of U,at1,È ⟨rfl,ws,Zv.of J⟩,G1,w,l,S.ext x,ş ((aq.bind t).ext x) λy py v F2 C fy E r2 N=>?_);cases y with
    |sh d=>show py.elim
    |ot s=>show py.elim
    |od s=>show py.elim
    |odt s=>show py.elim
    |ol zs=>
     let P:ă l (ϵ2 l D) (if ϭp then ω w.set ol (ϤD ϒZ)else Í):=py;by_cases L:ϭp
     .rw[Os L]at P
      let(ro,rn,rf):=r2;cases ro with
      |@ol c us _ g hcc hu=>
       apply(b,c,ws,us,rfl,rfl,϶k J,hcc,ϱq W.len hu.len (hR L),?_);let o:Ps M.K F2 C (ws++us) (s++zs) ϥN:=(W.mono E.ff λc _ o q=>϶k q).app hu;let(A,Q,st):=wr F2 C _ _ _ E o (ϨZ ⟨nf,(K8k.mp rn).2,λc m d m' z=>ϬV (W.dom c m) (N c<|Ą m')⟩) (λc m=>ϵU È (λm=>Ñ<|N c<|Ą m)) λc m=>ϵU (ϖS W.dom<|T c m) (λm=>rf c<|Ą m);show P σ F2 _ A Q<|x.stp.trans st
     rw[P3 L]at P;show P.elim
   show t.elim
 |none=>show r.elim
 |bool _=>show r.elim
 |str _=>show r.elim
 |list _=>show r.elim
 |tuple _=>show r.elim
 |dict _=>show r.elim
end
section
variable{X:Cx}{x:Str}{p ap cp pos:Pos}
theorem ID(i:Nat)(hb:ê b fb)(h:ê e fa)(hix:vM b)(hN:Û (Α=ö))(hv:϶L)(hd:Ŭ)(hcd:ő ϵd)(hbase:Û (Ϭt (ŧ (î p) b p2) "extend"))(hfew:Û (ě<|(ϲC<|à [e]).all ϵ5&&ϸ5&&Ë (Ã ([e]:À On)+Ã ([]:À Keyword)+(Ì ((ϵL ([]:À Keyword))) 0 1)<30)))(hline:Û ϷY)(hs:Û (à [e]=ϰL (à [])))(hplain:Û (ϰv<|ϲC<|à []))(hsw:Û (ϩD<|ϲl (ŧ (î p) b p2) "extend" ap)):Λ (ϻ9 (Χ (ϲl (ŧ (î p) b p2) "extend" ap) [e] cp) pos) (rT i fb fa):=ϻ0 (ϔR (Ϛc ϶R ϧC hix) Ϯg (ū<|Oz q) hbase hfew hline hs hplain hsw hK)
end
section
variable{ρ:Env}
theorem OQ{z:Int}(h:ϱw=Â (Â ϶o))(H:k ρ=Ý (Ä z))(f:Ϲg z=ϳb)(c:Ϩ8=Â όY)(g:ű=Ħ (.ol zs))(l:Ϙh):
  rT i k a ρ=ω ρ.set ol (ϸf<|.ol<|ys++zs):=by
 delta rT;rw[h,H];simp only[cq,aW,f,c,g,l,K84]
end
def zY(s:À Go)(j:Nat):Bool:=s.any λd=>match d with
 |.int q=>Ë<|q=ĺ
 |_=>false
def iJ(s:À Go):Nat->À OD->À OD|_,[]=>[]|i,x::xs=>(if zY s i=true then ϧW else x)::iJ s (i+1) xs
def vY(i c:Nat)(f:Fs):Fs:=λa=>match ϴi,a[c]? with
 |some (some<|.ol xs),some (some<|.sh<|.list ks)=>f<|Ϧ8<|ō<|iJ ks 0 xs
 |_,_=>f a
theorem Ps.frzS{K:Ch}{F H:Hp}(S:À Go)(i:Nat){s:À V}{X:À OD}{f:À Ix}(o:ϰU s X f)(nd:f.Nodup):
  ∃c j:À Ix,(∀a,a∈f↔a∈c\/a∈j)/\j.Nodup/\(∀a∈c,a∉j)/\∀G,aH F G->(∀a∈c,∀o,H a=Ü->G a=Ü)->Ps K G H s (iJ S i X) j:=by
 induction X generalizing i s f with
 |nil=>cases o;show([],[],(λa=>Ø),K8w,(λa m=>ϧL),λG e k=>Ps.nil)
 |cons x r0 ih=>
 cases o with
 |@cons _ _ fh fr _ _ h r=>
  rw[K9T]at nd;let(N,l,n):=nd;let(c,j,A,w,d,y):=ih (i+1) r l;by_cases p:zY S i=true
  .apply(fh++c,j,λa=>?_,w,λa m M=>?_,λG e k=>?_)
   .rw[Y7,Y7,A a]
    constructor
    .rintro(z|z|z)
     .exact È<|È z
     .exact È<|Ñ z
     show Ñ z
    rintro((z|z)|z)
    .exact È z
    .exact Ñ<|È z
    show Ñ<|Ñ z
   .rcases Y7.mp m with z|z
    .exact n a z a ((A a).mpr<|Ñ M) rfl
    show d a z M
   delta iJ;rw[Os p];let:=Ps.cons (K:=K) (F:=G) (H:=H) (f:=[]) (g:=j) (Own.sh<|h.Z2 e (ϸJ (k a (ϰX m) o q)))<|y G e (϶v (ũ m));show this
  apply(c,fh++j,λa=>?_,?_,λa m M=>?_,λG e k=>?_)
  .rw[Y7,Y7,A a]
   constructor
   .rintro(z|z|z)
    .exact Ñ<|È z
    .exact È z
    show Ñ<|Ñ z
   rintro(z|z|z)
   .exact Ñ<|È z
   .exact È z
   show Ñ<|Ñ z
  .rw[K9T]
   show(N,w,λa m b Q=>n a m b<|ϻo<|Ñ Q)
  .rcases Y7.mp M with z|z
   .exact n a z a ((A a).mpr<|È m) rfl
   show d a m z
  delta iJ;rw[P3 p];show Ĉ (h.mono e (ϸJ q))<|y G e k
set_option tactic.hygienic true in
theorem Rh(h:ϱn ϓL):ϻy f D σ H:=by
 let(F,I,P,S,p):=h;delta vY at p;replace p:=vYk p;rcases p with⟨X,s,e,_,p⟩|p
 .let(v,f,g1,g2,t,u,rfl,B):=ϤT;cases u with
  |@ol a vs _ fl ha hv=>
   let nd:=S.nd;let N:=nd;simp only[K9T,Y7,K92,K8k,Z7]at N;obtain⟨C,⟨na,E,G,l⟩,d⟩:=N;let(g,j,A,r,x,y):=Ps.frzS s 0 hv E;let k:ϩl g (F b):=λb m=>S.fr b (ϰy<|ϻo<|È m);let o:=B (ϸx g) H (kj k) (ū q) (Å a) (.ol<|iJ s 0 X) (a::j) (.ol ha<|y _ (kj k) λb m o q=>Ù (sD m) q);rw[oQ t]at o;let sub:∀b∈ϲo (a::j),b∈ϲo (a::fl)/\b∉g:=λb m=>by
    simp only[Y7,Z7,K92]at m⊢;rcases m with m|(m|m|m)
    .exact(È m,λz=>d b m b (Ñ<|È<|ϻo<|È z) rfl)
    .exact(Ñ<|È m,λz=>na<|È<|by rw[<-m];show ϻo<|È z)
    .exact(Ñ<|Ñ<|È<|ϻo<|Ñ m,λz=>x b z m)
    show(Ñ<|Ñ<|Ñ m,λz=>l b (ϻo<|È z) b m rfl)
   let T:ϰz (ϲo<|a::fl) (ϸx g) H (ϲo<|a::j):=⟨kj k,Ϯ8,λb m=>È (sub b m).1,λb h m z=>by
    rw[kT λw=>m<|ϰy (ϻo<|È w)]
    show z⟩
   apply(ϸx g,_,_,(Au S.same,o,?_,ϴL,Ù K8z S.len),ϒU p)
   .simp only[K9T,Y7,K92,K8k,Z7]
    apply(C,(ϴS,r,G,λb m c Q=>l b (ϻo<|Ñ m) c Q),λb m c Q=>?_)
    .rcases z with z|z
     .exact na<|È<|(A a).mpr<|Ñ z
     show na<|Ñ z
    rcases Q with z|z|z
    .exact ϐW<|È z
    .exact ϐW<|Ñ<|È<|(A c).mpr<|Ñ z
    show ϐW<|Ñ<|Ñ z
   rw[kT (sub b m).2];show S.fr b (sub b m).1
 show(F,I,P,S,p)
theorem N2{T:No}(i c:Nat)(h:Λ T f):Λ T ϓL:=ϰt psI ŝ Rh
def mU(X:À OD):À Go->Ú (À Go)
 |[]=>Â []
 |.int q::r=>match ϤE q with
  |some j=>match Ĵ X with
   |some (.sh d)=>Î (mU X r) λs=>d::s
   |_=>none
  |none=>none
 |_::_=>none
theorem mU1{X q r}:mU X (.int q::r)=(match ϤE q with
  |some j=>match Ĵ X with
   |some (.sh d)=>Î (mU X r) λs=>d::s
   |_=>none
  |none=>none):=rfl
def Df(i c:Nat):Fe:=λa=>match ϴi,a[c]? with
 |some (some<|.ol xs),some (some<|.sh<|.list ks)=>match mU xs ks with
  |some ds=>Ì ϮN (Ď ϸa) Í
  |none=>Í
 |_,_=>Í
def uU(s:À V)(w:V):V:=match w with
 |.int q=>ę (Y9 s q) .Y4
 |_=>.Y4
set_option tactic.hygienic true in
theorem Mv{K:Ch}{F H:Hp}{s:À V}{X:À OD}{f:À Ix}(o:ϰU s X f):∀{ws:À V}{k d:À Go},Ű ws k->mU X k=Ω->Ű (ws.map<|uU s) d/\∀(i:Nat)(w:V),ws[i]?=ϰh->∃(q:Int)(y:V),w=V.int q/\Y9 s q=ϱO:=by
 ext ws
 induction ws with
 |nil=>ext _ _ r e;cases r;cases e;show(Ā,λi w h=>ϵo)
 |cons w0 ws ih=>
  ext _ d r e;cases r with|cons h r=>
  cases h with
  |int q=>
   rw[mU1]at e;split at e
   .rename_i j J
    split at e
    .rename_i d' D
     let(E,he,rfl):=Zb.mp e;let(R,m):=ih r he;let(y,c,_,_,y1,y2,_,_):=o.at D;cases y2 with
     |sh yr=>
      let a:Y9 s q=ϱO:=by delta Y9;rw[o.len,J];show y1
      apply(Ĉ (by change Ğ F (ę (Y9 s q) V.Y4) d';rw[a];show yr) R,λi w W=>?_);cases i with
      |zero=>
       simp at W;subst W;show(q,y,rfl,a)
      |succ i=>show m i w (by simpa using W)
    cases e
   cases e
  |Y4=>cases e
  |bl b=>cases e
  |str x=>cases e
  |lst _ _=>cases e
  |tup _ _=>cases e
  |dct _ _ _=>cases e
  |dtt _ _ _=>cases e
set_option tactic.hygienic true in
theorem UU(h:ć (Df i c) σ H Q):Cb (ϓc<|mJ c) (tZ 0) O0 (ώd<|mJ 0) 1 [(i,x)] σ H Q:=by
 let(F,O,J,S,p):=h;delta Df at p;replace p:=vYk p;rcases p with⟨xs,N,e1,E,p⟩|p
 .split at p
  .rename_i G d
   split at p
   .rename_i g
    let(v,f,g1,g2,k,o,_,_):=S.own.at e1;let(w,I,_,_,t,u,_,_):=S.own.at E;cases o with
    |@ol l vs _ fl hl ov=>
     cases u with
     |sh kr=>
      cases kr with
      |@lst a ws _ rd rw'=>
       let(r,R):=Mv ov rw' d;let s:slots 1 [(i,x)] σ=[none,Â<|Å l]:=by
        delta slots;change [none]++[(û σ).join]=_;rw[k];rfl
       apply(Å a,t,a,rfl,(ws,(rd.same S.same).sq),λD e=>?_);rw[s];apply Ky (K:=M.K) (xs:=ws) (PvM H D λi=>Î (ws.take i) ϥI) (PvM.start e Ø) (λi A b _ pv=>((rd.same S.same).same pv.2.1).sq) (λi y A b Y pv=>?_) λA b pv=>?_
       .let(q,z,rfl,Z):=R i y Y
        let L:=(Za.mp Y).1;let lw:=r.len;rw[I4]at lw;apply((rfl,trivial),?_);delta O0;simp only[reduceIte];apply(Å l,rfl,Ä q,rfl,l,vs,q,z,rfl,rfl,Zv.of<|pv.2.1 _ _ hl,Z,?_);apply PvM.yes e pv ?_ ?_
        .show(ws.take<|i+1).map ϥI=Î (ws.take i) ϥI++[z]
         rw[Zcw,Y,Z6];let j:ϥI (Ä q)=z:=by change ę (Y9 vs q) V.Y4=z;rw[Z];rfl
         show _++[ϥI<|Ä q]=_;rw[j]
        change ϥo (Ã (Î (ws.take i) ϥI));rw[I4,Zk];show uI Á
       let(C,B,pc):=pv
       let P:A=Î (ws.take ws.length) ϥI:=C;rw[K90 ß]at P;subst P;show p (Å D) F b [D] ⟨ϰE,B,S.same.trans B,Ϸc⟩ ⟨.ol pc<|Ps.shs r,Ø,λa m=>by
        let:a=D:=ϵi
        rw[this];show S.same.free e⟩ λa m=>by
        let:a=D:=ϵi
        rw[this];show e
   show p.elim
  show p.elim
 show p.elim
section
variable{M:Mx}{X:Cx}{p p1 p2 p3 p4 p5 pos spos:Pos}
theorem RX(B:Ϯy [(i,x)])(h:X.N.Nodup)(j:X.N[bi]?=ż)(e:ϲg b)(l:Ź)(hc:X.N[c]?=Â z)(V:ϺN z)(hg:ϻd (PG (ϦC [y] (Î [(i,x)] Ī) n) (Ϧd y p4)<|tZ 0))(he:ϻd ((ϦC [y] (Î [(i,x)] Ī) n).K=M.K->PE (ϦC [y] (Î [(i,x)] Ī) n) (ŧ (î p1) ϵ7 p3) (ώd<|mJ 0)))(a:ő (å<|z==Ϸ3))(d:ő (å<|z==ϭr))(w:Û (Ϩa (.ListComp (ŧ (î p1) ϵ7 p3) ϕ1 scope pos) (Â<|Ϧd b p) spos.line X.env=ϫm))(S:Ũ (∀v,foldedSetIterable (Ϧd z p5) X.env v=pure v) mqae._auto_1)(f:Ũ (X.fn b=true\/X.env.scope.names.lookup b=Â Ţ) mqac._auto_1):
  Λ (ϨC [Ϧd b p] (.ListComp (ŧ (î p1) ϵ7 p3) ϕ1 scope pos) spos) (ay bi<|Y0<|Df i c):=λr m=>
 psI (MC (wi:=ϓc<|mJ c) (g:=tZ 0) (tc:=O0) (te:=ώd<|mJ 0) [y] h j e B l (LY M.K r<|fi hc V a d) hg (ϲH Lf) (ϯL<|ϒO n r) w S f) λD k H q=>by let Q:=Ih (rG j) q;show UU<|KN Q
end
end L3
namespace L3
open PySem L2
theorem RD(h:ϱw=Â (Â ϶o))(H:ρ[c]?=some (ì ks)):ϓL ρ=f (ϳZ<|ō<|iJ ks 0 xs):=by delta vY;rw[h,H]
theorem Xj(h:ϱw=Â (Â ϶o))(H:ρ[c]?=some (ì ks))(f:mU xs ks=some ds)(a:ϮN):Df i c ρ=Ď ϸa:=by
 delta Df;rw[h,H];change(match mU xs ks with|some ds=>Ì ϮN (ϳV (ϳT ϸa)) Í|none=>Í)=_;rw[f];change(Ì ϮN _ _)=_;rw[Os a]
theorem oN(s:À Go):∀(X:À OD)(i j:Nat),Ĵ (iJ s i X)=Î (Ĵ X) λx=>if zY s (i+j)=true then ë x.er else x
 |[],i,j=>ϰy iJ
 |x::X,i,0=>ϰy iJ
 |x::X,i,j+1=>by rw[iJ,Zaj,Zaj,oN s X (i+1) j,ó (i+1+j=i+(j+1))]
theorem wY(s:À Go):∀(X:À OD)(i:Nat),Ã (iJ s i X)=X.length:=by
 ext y
 induction y with|nil=>ext i;show rfl|cons x X ih_=>ext i;rw[iJ,Zo,Zo,ih_<|i+1]
theorem O6(s:À Go):∀(X:À OD)(i:Nat),Î (iJ s i X) OD.er=ϵm:=by
 ext y
 induction y with
 |nil=>ext i;show rfl
 |cons x X ih_=>
  ext i;rw[iJ,W1,W1,ih_<|i+1];congr 1
  split
  .exact ϵE
  rfl
end L3
namespace L3
open PySem L2 PySem.Spec PyProof.Rows
section
variable{X:Cx}{pos:Pos}
variable{outs:À ϳ2}{it:Fi}
theorem qS(own:À Str)(s:Db)(H:Hp)(C:Ix)(ex:À Ix)(p:À ķ):(Δ C ex p).N.length=Ϥj:=by
 change Ã (own++ϲ7 Ī)=_;rw[S5,I4]
theorem Kn(own:À Str)(B:϶P)(l:Ź)(k:ϭh)(hi:ϸp iter it)
  (hg:Ϲt (ϧg (Δ C ex p))) (hc:Ϲt (όg (Δ C ex p))) (he:Ϲt (όh (Δ C ex p)))
  (S:ϸ4):ê ϳW (ϬX<|ϲ7 Ļ):=λr m=>
 peI (Ma (wi:=ϐv it) (g:=tG M Ϥj is gg) (tc:=tT M Ϥj ta) (te:=tD M Ϥj el) own B l (hi r m)
  (λs H C ex p=>ϦA (hg s H C ex p r m)) (λs H C ex p=>ϦA (hc s H C ex p r m)) (λs H C ex p=>ϦA (ϒO p r m)) S) (ū (Ll k q))
theorem Mg(own:À Str)(w:∀a H Q,ϦU fe a H Q->ϦU (ϬX<|ϲ7 Ļ) a H Q)(N:X.N.Nodup)(h:Α=ö)(c:ϲg x)(B:϶P)(l:Ź)(k:ϭh)(hi:ϸp iter it)(hg:ϻd (ϧg (Δ C ex n)))(hc:ϻd (όg (Δ C ex n)))(he:ϻd (όh (Δ C ex n)))(S:Û (Ϩa ϳW (Â<|î p) spos.line X.env=ϫm))(b:ϸ4)(f:Ũ (ϲW\/ϱV=Â Ţ) mqac._auto_1):
  Λ (ϨC [î p] ϳW spos) (ay i fe):=λr m=>
 psI (Cs (wi:=ϐv it) (g:=tG M Ϥj is gg) (tc:=tT M Ϥj ta) (te:=tD M Ϥj el) own N h c B l (hi r m)
  (ϯL<|ϦA (hg s H C ex n r m)) (ϯL<|ϦA (hc s H C ex n r m)) (ϯL<|ϦA (ϒO n r m)) S b f) λD a H q=>by
  let d:=Ih (rG h) q;show Ll k<|w _ _ _ d
end
theorem rA:∀{a b:À Int},a.Perm b->ϗe ύm (a=b):=by
 intro x0
 induction x0 with
  |nil=>
   intro b p x48 x49
   exact (List.nil_perm.mp p).symm▸rfl
  |cons x r ih=>
   intro x50 p ha hb
   cases x50 with
    |nil=>
     let:=p.length_eq;simp at this
    |cons y t=>
     let h:=ϭC ha;let f:=ϭC hb;let e:x=y:=by
      let M:=Z7.mp<|p.mem_iff.mp Uf;let Q:=Z7.mp<|p.mem_iff.mpr<|Uf (a:=y) (l:=t);rcases M with e|M
      .exact e
      .rcases Q with e|Q
       .exact e.symm
       .exact Zcn (h.1 _ Q)<|f.1 _ M
     subst e;rw[ih p.cons_inv h.2 f.2]
theorem m6(d:À Go):ϫ9 (Ã (fj d)):=Ϻ1 fj
open Classical in
theorem ex1(h:us.length=1):∃a,us=[a]:=by
 cases us with
 |nil=>cases h
 |cons a r=>
  cases r with|nil=>show(a,rfl)|cons b r=>cases h
theorem ex2(h:us.length=2):∃a b,us=ϴ4:=by
 cases us with
 |nil=>cases h
 |cons a r=>let(b,e):=ex1<|Nat.succ.inj h;show(a,b,by rw[e])
theorem ex3(h:us.length=3):∃a b c,us=ϨH:=by
 cases us with
 |nil=>cases h
 |cons a r=>let(b,c,e):=ex2<|Nat.succ.inj h;show(a,b,c,by rw[e])
def eD0:Fe:=λ_=>Ϸm []
theorem XS(h:ć eD0 σ H Q):JF σ H Q:=by
 let(F,c,f,S,p):=h;ext q a;let P:ŀ (.od []):=p;let l:ύl:=ϮM;apply P (Å q) F _ [q] (ϲr Ϸc ϻa (λb z w=>w)) ⟨Ϛr Ā,Ø,ϴL⟩ ϴL
 .let B:ϸU:=ϬW
  rw[ϳk];show z
 .let B:ϸU:=by ext rfl;rw[l]at z;cases z
  rw[ϳk];show S.same _ _ z
 .let:b=q:=ϵi
  rw[this];show l
 let:b=q:=ϵi
 rw[this];show a
def QJ:R2:=ž (∃i n,x=Æ i/\y=Ä n/\MulOk i n/\Q (Æ<|Txt.mul i n) H)
theorem N4:ϵh Mult QJ:=by ext p s a H x y v u Q I R Y h;let(i,n,rfl,rfl,M,q):=h;let(t,rfl):=R;let(t',rfl):=Y;show SB.mul M λt2 k=>⟨Æ _,H,I.kept (t':=k) Ϸc,Ϸs t2,q⟩
theorem U5{pos:Pos}:ê (ϫW [] []) eD0:=λ_ _=>peI Me (ū (XS q))
theorem Dw(a:Env):eD0 a=Ϸm []:=rfl
end L3
namespace L2
open PySem PySem.Spec PyProof.Rows
theorem yG:∀t:À Ix,İ (t.map V.ref) (t.map Value.ref):=by
 ext y
 induction y with|nil=>show Ā|cons _ t ih_=>show Ĉ rfl<|ih_
end L2
namespace L3
open PySem L2 PySem.Spec PyProof.Rows
open Classical in
def CXE(P:Ev)(w:Fk):CXT:=λouter H s E e S=>∃(a:Ix)(cls a0:Do)(B:Op)(h:Hp),
 e=Å a/\ύW (Ϫk outer a cls a0 S.heap) ((Ϻj (ϧd=Ü) ύe (ϲc (h b)\/ϲc ņ)<|ϻv=Ü)/\E cls none h)
theorem mK(h:ϺI):Zm (env::outer)=L::ύe:=by delta Zm;rw[K88,h]
theorem zh(x:Ϲm o):∃u,ϰF=Ė:=by
 cases o with|lst xs=>let(_,_,_,_,e):=x;show(_,e)|tup xs=>let(_,_,_,_,e,_):=x;show(_,e)|dK L1=>let(_,_,_,_,o,_,_,e,_):=x;show(_,e)|dT L1=>let(_,_,_,_,o,_,_,e,_):=x;show(_,e)|set S n=>let(o,_,_,_,e,_):=x;show(_,e)|ins C dx fs=>let(_,_,_,e,_):=x;show(_,e)|own y=>show x|xd fs=>obtain⟨_,⟨_,_,_,e,_⟩,_⟩:=x;show(_,e)|rng lo hi=>let(_,_,_,e):=x;show(_,e)|Z2 ob u=>show(_,x.1)|tbl ps=>show(_,(show ϰF=Â _ from x))|met f y=>show(_,(show ϰF=Â _ from x))|ext φ=>show x.2.1
section
variable{X:Cx}{s':Db}{B h'':Op}
theorem qU(J:Ĺ X H' s')(S:X.stack=ϱD)(f:X.env.frame=Â X.env.locals)(hex:X.ex=[])(up:ϐH h'')(stay:϶f h'')
  (C:Ϻj (Ϥv=Ü) ϳ0 (ϲc (H' b)\/ϲc ϶Q) (ϻv=Ü)):
  Un ϤQ [] X.H₀ H' X.s₀.heap h''/\ϺS H' h''/\Ϻj (h''.get? b=Ü) ϤQ (ϲc (H' b)\/ϲc ϶Q) (ϻv=Ü):=by
 let nb:∀b o,϶Q=Ü->ϵX:=λb o q=>K9O<|K9P (Zs q) J.ok.above;let R:∀b,b∉ϤQ->ϵX->b∉ϳ0:=λb H d=>by rw[S,mK f];exactλm=>ϴt (Z7.mp m) d H
 let nx:∀b,b∉X.ex:=λb=>ϲi hex
 let tr:∀b,ϲc (H' b)->b∉ϳ0:=λb n m=>n<|J.stkFree b m;let old:∀b o,϶Q=Ü->b∉ϤQ->∀a,ϰq Ϥv ϴW h''.get?:=λb o q n a Q=>ϓa (ϛC<|Ñ<|ϲi q);let fr:∀b o,b∈ϤQ->Ϥv=Ü->∃s,h''.get? b=Â {o with slots:=s}:=λb o m q=>by
  let M:b∈ϳ0:=by rw[S,mK f];show Ą m
  let(_,a,Q,F):=J.stack.mem M;rw[q]at Q;cases Q;show up b o q F
 apply((λb o q n h _=>?_,λb o q n h _=>?_,λb o q n _=>Ϝa<|nx b,λb o q _=>?_,J.base.tups,J.base.frzs,J.base.tbls),Ϫu,λb o q n hc=>?_)
 .exact Ϩq q h o<|ϛQ<|nx b
 .let(s,e1):=ϛY<|nx b
  let(y,g):=fr b _ h e1;show(y,g)
 .let(a,e1):=Ϝg<|nx b
  by_cases h:b∈ϤQ
  .let(y,g):=fr b _ h e1
   show(_,g)
  show(a,Ϩq q h a e1)
 .apply(J.Y1 b u e).stay (λc v hc q=>ϙp<|Ϝh<|È ?_) ϤP Ϲx
  .rcases hc with rfl|hc
   .rw[e];simp
   rw[hc];simp
  rcases hc with rfl|hc
  .rw[e];simp
  rw[hc];simp
 let ex:∃a,Ϥv=ϴW:=by
  rcases hc with hc|hc
  .cases z:H' b with|none=>show Đ z hc|some u=>show zh<|J.Y1 b u z
  cases z:X.s₀.heap.get? b with|none=>show Đ z hc|some u=>show Ϝi<|nx b
 let(a,e1):=ex;let nl:ϵX:=by
  rcases hc with hc|hc
  .exactλz=>hc (z▸J.free)
  cases z:X.s₀.heap.get? b with|none=>show Đ z hc|some u=>show nb b u z
 let g:=C b a e1 (R b n nl) hc;let G:=ϓa g;rw[q]at G;cases G;show g
end
def Lv(X:Cx)(E:XK):Prop:=X.stack=ϱD/\X.env.frame=Â X.env.locals/\X.ex=[]/\
 ∀(e:Do)(s:Db),ē (Ϗp e) (λ_ S=>ϬN E e S) (λa S=>ϬN E a S) s->X.xe e s
theorem Lv.of{P:Ev}{w:Fk}{K:Ch}{m:ł}{base:Op}{N:À Str}{qual:Str}{scope:Scope}{f:Ix}{cd:Do}{A:Is}{outer:À PySem.Env}{s:Db}{H:Hp}{E:XK}:
  Lv (ϩK ϓM cd A outer s H E) E:=ϖY
section
variable{X:Cx}{s s':Db}
theorem Lv.pass(L:Lv X E):ϥq Ϫc E:=λp r H s e g I x=>by
 let(S,h,hex,d):=L;let(A,cls,a0,B,a,rfl,os,bare,un,O,l,C,j):=x;let J:ų p r a g:=ϮO O bare (λb z=>Đ z Ø);apply ύn;rw[S]at l;apply wpAny_leaves_onW Ϧw h l λi f up=>?_;let c:Ϻj (g.heap.get? b=Ü) ϳ0 (ϲc (a b)\/ϲc ϶Q) (ϻv=Ü):=λb o q n hc=>C b o q n<|hc.imp_right λz=>by
  cases y:X.s₀.heap.get? b with
  |none=>show ϓN
  |some u=>
   let(t,Q):=ϺT u y (ϲi hex);rw[Q];simp
 let(U,k,m):=qU J S h hex up f.1 c;show(A,cls,a0,B,a,rfl,J.os,bare,U,k,f,m,j)
theorem Lv.made(L:Lv X E)(I:ą){c:Op}{e C:Ix}{args:À Do}(x:ϗA (Å C) args)(j:E (Å C) none H):X.xe (Å e) Ϯc:=by
 let(S,f,hex,d):=L;apply ύn;let h:∀env∈ϱD,∀b,env.frame=ż->b∈Zm ϱD:=λenv he b B=>ϭw ⟨env,he,B⟩;let fr:=I.stack;rw[S]at fr;apply wpAny_leaves_madeW (base:=Ϻs<|Zm ϱD) Ϧw f ώC (ώX h) x λi t l _ _ up=>?_;let u:Ϗ6:=Ę (Ϗq x.keeps) up;let(U,k,m):=ϐ6 l.1 ύ7;show(e,_,_,_,H,rfl,I.os,I.bare,U,k,l,m,j)
end
abbrev vE:À Do:=Ϭy
abbrev vN:String:="ValueError.__new__"
def exQ(K:Ch)(C:Ix):Bool:=(K.lookup C).any λo=>o.cls==.type "type"&&(o.slots.toList.length==6&&(o.slots.toList[4]?==some (some (.builtin vN))&&(PySem.W.clsIn K C).any λc=>c.mro.head?==some (.ref C)&&(!c.hasDel&&(PySem.W.tailIn K vE c.mro.tail&&(PySem.W.nsOkIn K c.ns&&nsIn K c.ns "__init__"==some none)))))
theorem zL6{α:Type}{v:α}{l:List α}(s:l.length=6)(h:l[4]?=some v):∃a b c d e,l=[a,b,c,d,v,e]:=by
 let z:∀{n}{l:List α},l.length=n+1->∃a r,l=a::r/\r.length=n:=λh=>let⟨a,r,e⟩:=List.exists_cons_of_length_eq_add_one h;⟨a,r,e,Nat.succ.inj ((congrArg _ e).symm.trans h)⟩
 obtain⟨a,r,e,s⟩:=z s;obtain⟨b,r2,e2,s⟩:=z s;obtain⟨c,r3,e3,s⟩:=z s;obtain⟨d,r4,e4,s⟩:=z s;obtain⟨x,r5,e5,s⟩:=z s;obtain⟨y,r6,e6,s⟩:=z s
 rw[e,e2,e3,e4,e5]at h;rw[e,e2,e3,e4,e5,e6,List.eq_nil_of_length_eq_zero s,Option.some.inj h]
 exact⟨a,b,c,d,y,rfl⟩
theorem zCl{K:Ch}{C:Ix}{P}{o:Obj}(e:K.lookup C=some o)(g:(PySem.W.clsIn K C).any P=true):∃c,o.data=.cls c/\P c=true:=by
 delta PySem.W.clsIn at g;rw[e]at g;clear e;obtain⟨a,b,d,l⟩:=o;cases d with|cls c=>exact⟨c,rfl,g⟩|_=>exact(Bool.false_ne_true g).elim
theorem zBd{a b:Bool}(h:(a&&b)=true):a=true/\b=true:=(Bool.and_eq_true a b).mp h
theorem zEx{o:Obj}{u C m z Z f a b}(q:o.cls=.type "type")(r:o.data=.cls u)(s:o.slots=#[z,Z,f,a,some (.builtin vN),b])(w:u.mro=.ref C::m)(c:u.hasDel=false):o=excClassObj u.name u.qualname C u.ns u.bases m u.hasDict u.slotNames u.subclasses u.abstract u.collection o.dict z Z f a b vN:=by
 delta excClassObj;rw[<-q,<-s,<-w,<-c,<-r]
theorem nK{K:Ch}{h:Op}(X:ϴX)(q:exQ K C=true):
  ∃m N y1 y2 y3 y4 y5 y6 y7 y8 y9 z Z f a b mN,h.get? C=Â (excClassObj y1 y2 C N y3 m y4 y5 y6 y7 y8 y9 z Z f a b vN)/\h.Ns N mN/\mN "__init__"=none/\OwnTail h vE m:=by
  obtain⟨o,e,q⟩:=(Option.any_eq_true _ _).mp q
  obtain⟨q3,q⟩:=zBd q
  obtain⟨q4,q⟩:=zBd q
  obtain⟨q5,q⟩:=zBd q
  obtain⟨u,r,q⟩:=zCl e q
  obtain⟨c1,q⟩:=zBd q
  obtain⟨c,q⟩:=zBd q
  obtain⟨n,q⟩:=zBd q
  obtain⟨k,q⟩:=zBd q
  obtain⟨z,Z,f,a,b,s⟩:=zL6 (eq_of_beq q4) (eq_of_beq q5)
  obtain⟨m,w⟩:=List.head?_eq_some_iff.mp (eq_of_beq c1)
  exact⟨m,_,_,_,_,_,_,_,_,_,_,z,Z,f,a,b,_,(X _ _ e).trans (congrArg some<|zEx (eq_of_beq q3) r (Array.toList_inj.mp s) w (Bool.not_eq_true' _▸c)),.of_isNs<|PySem.W.isNs_of_in X k,PySem.W.nsMap_none_of_in X k (eq_of_beq q),PySem.W.tail_of_in X (by rw[w]at n;exact n)⟩
set_option tactic.hygienic true in
def gk(c:Str):Fs:=λ_=>γ
section
variable{M:Mx}{X:Cx}{np cpos pos p2:Pos}
theorem J9(L:Lv X M.E)(hc:Ź)(hg:ϰY)(m:M.mg x=Â (Å C))(k:ϩ4 M.K)(i:Ŭ)(a:Û (à [μ (Æ t) p2]=ϰK (ϲY (μ (Æ t) p2)) (à []))):
  Λ (ϩa (Â<|Χ (î np) [μ (Æ t) p2] cpos) none pos) (gk x):=λr d p s P H D I q=>by
 let(F,ρ,U,S,V,e1,g):=q;rw[m]at e1;cases e1;let E:=ϙH;rw[<-r]at k;let(R,N,y1,y2,y3,y4,y5,y6,y7,y8,y9,B,G,J,K,O,mN,c,n,h,T):=ϑ7 k;apply ϔf PySem.F.excBase_ValueError Õ PySem.F.excBase_ValueError (mN:=mN) ϩF ϱW (by rw[a];rfl) h (ϖK ((ϲx ?_)) i)
 let A:ϰI [μ (Æ t) p2] _:=ϷV jQ a;let w:=A cpos p s P H (λv b=>b=H/\Ĕ v.length) I (ϲx (ϱF (Ĕ 1)));rw[a]at w⊢;apply Ϫa<|Ϙz ϧO;let(v,Q,f,u,rfl,l):=Z;show(rfl,ϗV,f.bk _ _ c,n.keeps f.bk,ϑ8,ϘW)
end
end L3
namespace L3
open PySem L2 PySem.Spec PyProof.Rows Builtin Builtin.ObjectAttr Builtin.Getset_descriptor
structure ExcK(K:Ch)(C:Ix):Prop where
 ex:ϩ4 K
 ga:ϸu (Å C) "__getattribute__"=ϥF (ŋ "BaseException.__getattribute__")
 ca:ϸu (Å C) "__class__"=ϥF (ŋ "object.__class__")
 ng:ϸu (Å C) "__getattr__"=ϱK
 mo:mroIn K C (Ĳ "object")=ϱp
section
variable{prog:Ev}{w:Fk}{A:Is}{E:Do->Ô Db}{h:Op}{g:Ϲ4 GenState}{d:Drawn}{t:Nat}{os:OsState}{a C:Ix}{o:Obj}{K:Ch}
theorem So{R:Result->Ô Db}(Z:Ϩl)(X:ϴX)(x:ϰF=Ü)(hc:o.cls=Å C)(q:R (ϫR<|Å C) ϵY):
  ϹV ϴz A (.call (ŋ "getset_descriptor.__get__") (ϴ1 [ŋ "object.__class__",Å a,tp])) R ϵY:=by
 let l:PySem.W.Looks ϴz h (typeOf<|Å a) (Å C):=hc▸(PySem.W.Looks.ld x).andThen .now;let L:=PySem.W.looks_mroIn (M:=ϴz) X Z.mo;apply ϚK<|PySem.W.KF.slot_gs.check _ _ _ _ _ _ _ _ PySem.W.KF.type_class (PySem.W.KF.args_gs _ _ _) ?_;delta Builtin.«getset_descriptor.__get__» descrGet;rw[PySem.W.dga_obj];apply ϳJ Zr;delta descrGetter descrCheckInstance descrNameAndClass isInstance;simp only[PySem.W.KF.owner_class]
 repeat lk
 apply(Code.quiet_builtin _ ç,codeAny_builtin PySem.W.KF.entry_class ?_);delta Builtin.«object.__class__» shownTypeOf
 repeat lk
 show q
theorem JC(Z:Ϩl)(X:ϴX)(x:ϰF=Ü)(hc:o.cls=Å C)(q:Q (.done<|.ret<|Å C) ϵY):
  ϰi (Builtin.«object.__getattribute__» (ϴ1 [Å a,Æ "__class__" tk])) Q E ϵY:=by
 let H:(ϵY:Db).TypeIs (ŋ "object.__class__") "getset_descriptor":=PySem.F.typeOf_object_class;let m:=PySem.F.typeOf_object_class;let f:=PySem.F.slot_gs_get.lookup;let F:=PySem.F.slot_gs_set.lookup;let L2:=K8B (M:=ϴz) X Z.ca
 repeat (any_goals (first|assumption|(with_reducible apply K8F x ?_;rw[hc])|with_reducible apply L2.at ?_|wp_step))
 apply So Z X x hc ?_
 repeat (any_goals (first|assumption|wp_step))
theorem IG(Z:Ϩl)(X:ϴX)(x:ϰF=Ü)(hc:o.cls=Å C)(q:ϵb ϵY):
  όz (checkBuiltinCall "BaseException.__getattribute__" (ϴ1 [Å a,nameV])) Q E ϵY:=by
 let(m,N,y1,y2,y3,y4,y5,y6,y7,y8,y9,z,e,f,i,j,mN,w,H,n,T):=nK X Z.ex;let k:builtinKind "BaseException.__getattribute__"=Â .slot:=ç
 let b:splitId "BaseException.__getattribute__"=some ("BaseException","__getattribute__"):=ç
 let k3:Ϩy (ϯi::m) (Ĳ "BaseException")=true:=ϲ5 Zbz ϩF
 let c:=PySem.F.args_bexc_ga (Å a) nameV;simp only[checkBuiltinCall,k,b];apply Sc ?_;delta isInstance
 repeat (first|(with_reducible apply K8F x ?_;rw[hc])|(with_reducible apply wpAny_isSubtype_exc w ?_;rw[k3])|wp_step)
 show q
theorem US{tk:Tok}{fill expr:Bool}{Q:Do->Ô Db}(Z:Ϩl)(X:ϴX)(x:ϰF=Ü)(hc:o.cls=Å C)(q:Q (Å C) ϵY):
  ϰi (getAttrBy (Å a) (Æ "__class__" tk) fill expr) Q E ϵY:=by
 let FB:=PySem.F.attrBase_ValueError;let f:=FB.ga.bind<|Å a;let n:å (expr&&onTheHeap ώe):=by cases expr<;>rfl
 let N:å (ώe==ϕC):=ç
 let i:å (onTheHeap ϯi&&ώe==ϕC):=ϑ9
 let L:=K8B (M:=ϴz) X Z.ga;let l:=K8B (M:=ϴz) X Z.ng
 repeat (any_goals (first|assumption|(with_reducible apply K8F x ?_;rw[hc])|with_reducible apply L.at ?_|with_reducible apply l.at ?_|wp_step))
 apply ϚR<|IG Z X x hc<|JC Z X x hc ?_
 repeat (any_goals (first|assumption|wp_step))
theorem OI(Z:Ϩl)(X:ϴX)(x:ϰF=Ü)(hc:o.cls=Å C)(q:Q (Â<|Å C) ⟨h,g,d,t+1,os⟩):
  ϰi (getAttr? (Å a) "__class__") Q E ϵY:=by
 delta getAttr? getAttrBy?
 repeat (any_goals (first|assumption|with_reducible apply US Z X x hc|wp_step))
end
end L3
namespace L3
open PySem L2 PySem.Spec PyProof.Rows
def WI(a C:Ix)(h:Op):Prop:=∃o,ϰF=Ü/\o.cls=Å C
theorem BO{K:Ch}{a C:Ix}(Z:Ϩl):PySem.W.KitX K (Å a) (Å C) (WI a C) where
 ty:=λM h _ p=>by let(o,b,c):=p;show c▸(PySem.W.Looks.ld b).andThen .now
 it:=λM h X _=>by let(m,N,y1,y2,y3,y4,y5,y6,y7,y8,y9,z,j,l,r,u,mN,f,_):=nK X Z.ex;ext A Q E s k q;delta isType loadHead;show Sc<|wpAny_loadPart (ϱR f)<|Zr q
 ne:=λh T D i n S X H=>by
  let(m,N,y1,y2,y3,y4,y5,y6,y7,y8,y9,z,j,l,r,u,mN,f,_):=nK X Z.ex;apply Bool.eq_false_iff.mpr λq=>?_;let e:C=T:=Value.ref.inj<|beq_iff_eq.mp q;rw[<-e,f]at H;let y:=Zh Obj.data<|Zz H;cases y
 ca:=fun{prog w A E Q s} X p k=>by let(o,b,c):=p;let(h,g,d,t,os):=s;show OI Z X b c k
section
variable{M:Model}{A:Is}{E:Do->Ô Db}{h:Op}{g:Ϲ4 GenState}{d:Drawn}{t:Nat}{os:OsState}{e C D:Ix}{o:Obj}{K:Ch}
theorem IA(X:ϴX)(a:ϩ3 K)(S:ϳg K (Å C) (Å D)=ż)(he:h.get? e=Ü)(hc:o.cls=Å C)(q:Q b ϵY):
  όz (excMatches (Å e)<|Å D) Q E ϵY:=by
 let(m,N,y1,y2,y3,y4,y5,y6,y7,y8,y9,z,Z,i,j,k,mN,H,c,n,T):=nK X a;let B:Ϩy (Value.ref D::m) (Ĳ "BaseException")=true:=by rw[Zbz,ϩF,Bool.or_true]
 let f:=tc_notTuple;let l:=PySem.W.looks_subIn (M:=M) X S;delta excMatches
 repeat (first|(with_reducible apply K8F he ?_;rw[hc])|with_reducible apply l.at ?_|with_reducible apply K8F H ?_|(with_reducible apply ϗW;rw[B])|wp_step)
 cases b<;>(wp_walk;show q)
end
def cxM(X:Cx)(a:Ix)(o:Obj):Cx:={X with A:=X.A.mark<|Â<|Å a,calm:=false,xe:=ϲh,pn:=(a,o)::X.pn}
section
variable{X:Cx}{oe:Obj}{s:Db}
theorem Et(I:ą)(h:όm ea=Â oe/\H ea=none/\ϒm ea/\ea∉X.fs/\∀v,oe.data≠Ŏ v):Ĺ (ϴI oe) H s:=
  ⟨ύP ϶S,
    I.os,I.bare,I.base,I.loc,I.cell,I.free,I.Zu,λp m=>by
      rcases Z7.mp (show p∈(ea,oe)::ϻq from m)with rfl|m
      .exact h
      .exact Ϸg m,I.Y1,I.len⟩
theorem vW(hc:Ź->ϩ7)(f:X.A.frames=Â X.stack)(I:Ĺ (ϴI oe) H s):ą:=
  (Ϧr ⟨I.ok.mod,I.ok.kind,I.ok.glob,I.ok.blt,I.ok.above,I.ok.inj,I.ok.has,I.ok.cab,hc,f,I.ok.stk,I.ok.exf,I.ok.bs,I.ok.bsz,I.ok.noex,I.ok.exfs,I.ok.funs,I.ok.frf⟩ (λp m=>Ϸg<|Ą m))
end
def tB(P:Ô St)(b:Bool):TE:=λa H Q=>P a/\∀h,ϳl h->Q ϰ0 h
def tBs(P:Ô St)(j:Nat)(b:Bool):TS:=λD a H=>P a/\∀h,ϳl h->D.nx (Ϧ3<|Â ϰ0) h
section
variable{X:Cx}{c d:Bool}{pos p p2 p3:Pos}{i j:Nat}
theorem uz(A:õ a (Ϸt c))(B:õ b (Ϸt d))(V:Û ((c&&d)=v)):õ (ϲV And ϴ4) (Ϸt v):=V▸peI (HY A<|IJ B) λf H Q q=>by
 apply(q.1,λh S=>⟨c,rfl,?_⟩);cases c with|true=>show(q.1,λe w=>q.2 e<|S.trans w)|false=>show q.2 h S
theorem zO(A:õ a (Ϸt c))(V:Û ((!c)=v)):õ ϩU (Ϸt v):=V▸peI (Ko A) λb H Q q=>⟨q.1,λh S=>⟨c,rfl,q.2 h S⟩⟩
theorem MS:õ (ϫi (í true) k pos) (Ϸt true):=όw Qi (όU ϰE)
theorem Ak(hP:ϥW (a[j]?=Â (Â ϻ1)))(h:Ĵ X.N=ö)(v:ϺN x)(D:Ŭ)(d:ő ϵd):
  õ (î pos) (Ϸt c):=όw (fi h v D d) ⟨_,hP a q.1,όU ϰE⟩
theorem sr(n:X.N.Nodup)(J:Ĵ X.N=ö)(a:ϲg x)(he:õ e (Ϸt c))(S:Û (ϤJ (Â<|î p) pos.line X.env=϶b))
  (f:Ũ (ϲW\/ϱV=Â Ţ) mqac._auto_1):ϱU (Ϻ3<|î p) (ϫe c):=
 psI (Jb n J a he S f) λD b H q=>⟨q.1,λh s=>q.2 h s⟩
theorem C3{T:No}(h:ϱU T (ϫe c)):ϴj [T] (ϫe c):=Fp h
theorem vJ{T:No}{rest:À No}(h:ϱU T (ϫe c))(k:ϴj rest (tBs P' j d))(p:ϥW (P' (Ϧ3<|Â ϻ1))):ϴj (T::rest) (ϫe d):=
 Rk (B7 h k) λD a H q=>⟨q.1,λe S=>⟨p a q.1,λb w=>Ù Zdw (q.2 b<|S.trans w)⟩⟩
def Pe(i:Nat)(e:Ix)(j:Nat)(a:St):Prop:=ϴi=Â (Â<|Å e)/\j<a.length/\i≠j
def Pb(i:Nat)(e:Ix)(j:Nat)(c:Bool)(a:St):Prop:=Pe i e j a/\a[j]?=Â (Â ϻ1)
theorem Im(a:St)(h:Pe i ea j a):Pb i ea j c (Ϧ3<|Â ϻ1):=by
 let(b,H,f):=h;apply((?_,Ϲi K8z,f),?_)
 .rw[K9E<|K8g f]
  show b
 rw[K9I H]
theorem Qa(a:St)(h:Pb i ea j c' a):Pb i ea j c (Ϧ3<|Â ϻ1):=Im a h.1
theorem zJ(Z:ExcK X.K C)(P:(ea,oe)∈X.pn)(j:oe.cls=Å C):
  eY X (ŋ "isinstance") (λc H Q=>∃v b,c=[Å ea,v]/\((∃u,ϲ2/\(∀a,RelV v a->a=u)/\ϓO (Å C) u=ż)\/
   ∃p V S,v=Å p/\H p=Â (č V)/\(∀U,İ V U->U=S)/\Ϸ9 X.K (Å C) S=ż)/\Ο ϰ0):=by
 ext i s A H c S Q I r h;let(v,b,rfl,d,q):=h;let(w,y,rfl,J,R):=Vals.two r;cases(ϻt<|w=ϫF ea);let fin:∀tk,ϵM i A Q (í b) {s with toks:=tk}:=λtk=>⟨ϰ0,H,I.tok tk,rfl,q⟩
 let x:WI ea C s.heap:=⟨oe,(I.pin _<|ϰX P).1,j⟩;rcases d with⟨u,E,m,e⟩|⟨p,V,ws,rfl,f,m,e⟩
 .cases m _ R
  show K8V (BO Z) I.kIn x e ϶U fin
 cases(show y=Value.ref p from R);let(_,t,k,o,K,k3,n,g):=(ń (϶Z H s.heap p (č V))<|ϫH f)
 cases m _ k;let(B,D,O,l):=o;cases k3;cases g;show PySem.W.kia_tup (BO Z) I.kIn x K e ϶U fin
end
def tCs(Ds:À Ix):TA:=λ_ H Q=>Ο (Ds.map V.ref)
theorem yG:∀(Ds:À Ix)(s:À Do),İ (Ds.map V.ref) s->s=Ϛd:=by
 ext Ds
 induction Ds with
 |nil=>exactλus h=>Vals.zero h
 |cons D r ih=>
  ext s h;cases h with|cons q t=>rw[W1,Ϻm t];show Zh (· ::_) (ń (_=Value.ref D) q)
structure Xs(X:Cx)(C ea:Ix)(oe:Obj):Prop where
 k:ExcK X.K C
 pin:(ea,oe)∈X.pn
 ob:oe.cls=Å C
section
variable{X:Cx}{P:Ô St}{es:À On}{c:Bool}{pos p p2 p3:Pos}{i j x1:Nat}{x y:Str}{C ea D:Ix}{oe:Obj}{Ds:À Ix}
theorem Ff:ϰI [] (tCs []):=gT
theorem ow(hg:ϰY)(M:ϹZ=Â (Å D))(h:ϰI es (tCs Ds))(d:Ŭ)(S:Û (à (î p::es)=ϰK (ϲY (î p)) (à es))):
  ϰI (î p::es) (tCs<|D::Ds):=λP i s a H Q I q=>dH (vH (v:=Å D) hg M rfl d) h S P i s a H Q I q
theorem EF(Z:ϒa)(hP:ϥW (ϴi=Â (Â<|Å ea)))(n:Α=ϱO)(V:ϺN y)(g:Ϯb)(m:ϭo)(hg:ϰY)(M:ϹZ=Â (Å D))
  (e:ϓO (Å C) (Å D)=ã) (b:Ŭ) (Y:ő (å<|y==Ϸ3)) (d:ő (å<|y==ϭr))
  (S:Û (à [ϵ7,î p3]=ϰK (ϲY ϵ7) (à [î p3]))) (s:Û (à [î p3]=ϰK (ϲY (î p3)) (à [])))
  (l:Û (ϰv<|ϳq<|à [î p3])):
  õ (ϳo "isinstance" [ϵ7,î p3]) (Ϸt c):=
 όw (ώD (dH (fi n V Y d) (ϷV (vH (v:=Å D) hg M rfl b) s) S) Õ Õ S l) ⟨_,hP a q.1,_,c,rfl,È ⟨Å D,rfl,λ_ h=>h,e⟩,όU ϰE⟩
theorem EG(Z:ϒa)(hP:ϥW (ϴi=Â (Â<|Å ea)))(n:Α=ϱO)(b:ϺN y)(g:Ϯb)(m:ϭo)(hg:ϰY)(M:Ϻ9)(t:Ϸ6=Â (Ĳ T))(e:ϓO (Å C) (Ĳ T)=ã)(N:ő Ϸ5)(D:Ŭ)(Y:ő (å<|y==Ϸ3))(d:ő (å<|y==ϭr))(S:Û (à [ϵ7,î p3]=ϰK (ϲY ϵ7) (à [î p3])))(s:Û (à [î p3]=ϰK (ϲY (î p3)) (à [])))(l:Û (ϰv<|ϳq<|à [î p3])):
  õ (ϳo "isinstance" [ϵ7,î p3]) (Ϸt c):=
 όw (ώD (dH (fi n b Y d) (ϷV (FF (v:=V.ty T) hg M t rfl N D) s) S) Õ Õ S l) ⟨_,hP a q.1,_,c,rfl,È ⟨Ĳ T,rfl,λ_ h=>h,e⟩,όU ϰE⟩
theorem vB(Z:ϒa)(hP:∀b,P b->ϸT=Â (Â<|Å ea))(n:Α=ϱO)(v:ϺN y)(g:Ϯb)(m:ϭo)(t:ϰI es (tCs Ds))(L:Ds.length<=9)
  (e:Ϸ9 X.K (Å C) Ϛd=ã) (Y:ő (å<|y==Ϸ3)) (d:ő (å<|y==ϭr))
  (S:Û (à [ϵ7,ϳx x1 p3]=ϰK (ϲY ϵ7) (à [ϳx x1 p3]))) (h:Û (à [ϳx x1 p3]=ϰK (ϲY (ϳx x1 p3)) (à [])))
  (l:Û (ϰv<|ϳq<|à [ϳx x1 p3])):
  õ (ϳo "isinstance" [ϵ7,ϳx x1 p3]) (Ϸt c):=
 peI (ώD (dH (fi n v Y d) (ϷV (Jm t) h) S) Õ Õ S l) λb H Q q=>⟨_,hP b q.1,Ù I4 (K9C L Õ),λp f=>⟨_,c,rfl,Ñ ⟨p,_,_,rfl,aX,yG Ds,e⟩,q.2 _ λa o z=>Ù (aA<|aQ z f) z⟩⟩
end
section
variable{h1 hs h5 B:Op}
theorem KD(un:Un fs [] H1 H' h1 hs)(O:ϥw H' hs)(stay:϶f h5)(up:hs.UpToSlots h5)(C:Ϻj (hs.get? b=Ü) fs (ϲc (H' b)\/ϲc (h1.get? b)) (ϻv=Ü))
  (f:∀b∈fs,∀o,hs.get? b=Ü->∀s,o.data≠Ŝ s) (H:∀b∈fs,ϫh):Un fs [] H1 H' h1 h5/\ϥw H' h5:=by
 apply((λb o q n h x=>?_,λb o q n h x=>?_,un.free,λb o q x=>?_,un.tups,un.frzs,un.tbls),Ϫu)
 .exact stay b o (ϛo<|Ñ<|ϲi q)
 .let(l,e1):=un.slot b o q n h x
  let(y,g):=Ϙs<|f b h _ e1;show(y,g)
 .let(a,e1):=un.there b o q x
  by_cases h:b∈fs
  .let(y,g):=Ϙs<|f b h _ e1
   show(_,g)
  show(a,ϓa<|C b a e1 h<|Ñ<|ϲi q)
 let tr:∀c,ϲc (H' c)->∀v,hs.get? c=ú->h5.get? c=ú:=λc hc v q=>ϙp<|ϛG<|È hc;apply(O b u e).stay (λc v hc q=>tr c ?_ v q) ϤP Ϲx;rcases hc with rfl|hc
 .rw[e];simp
 rw[hc];simp
end
section
variable{X:Cx}{σ:St}
set_option tactic.hygienic true in
theorem GG(I:ą)(k:X.N.Nodup)(hi:Α=ŵ)(a:ϗk=Â Ţ)(V:û σ=Â ú)(h:∀f,ų F5 (Ϸ8 none) H f->ϵb f):ϴx (unbindName X.env n):=by
 let(m,N,d):=ύb;let cne:=I.cne;let P:å ϔo:=ϱJ I.ok.kind
 let(u,_,L):=d i n v hi V<|È a;let l:m n=Ė:=by
  rcases L with⟨_,e⟩|⟨e,_⟩
  .exact e
  rcases e with e|e
  .rw[show Ϯx=Â Ţ from a]at e;cases e
  rw[show Ϯx=Â Ţ from a]at e;cases e
 let(B,_,_,U,_):=id N;apply wpAny_unbindName_local a N l P λw r T S=>h _ ?_;let old:∀b o,϶Q=Ü->ϵX:=ϷB (K9O<|϶W I.ok.above);apply(I.ok,I.os,I.bare,(?_,?_,I.base.free,?_,I.base.tups,I.base.frzs,I.base.tbls),(_,T,?_),?_,I.free,I.Zu,?_,?_,?_)
 .exactλb o e n1 n2 n3=>Ę (϶q<|Ϩq e)<|ϏU n1 n2 n3
 .exactλb o e n1 n2 n3=>(ϭ2 n1 n2 n3).imp λC q=>Ę (϶q<|Ϩq e) q
 .exactλb o e n1=>(ϺT o e n1).imp λx q=>Ę (϶q<|Ϩq e) q
 .intro j y t e1 g G
  by_cases J:j=i
  .subst J
   rw[Zbd]at g;split at g
   .split at g<;>cases g
   rename_i z;show ϱH z
  rw[K9E<|K8g J]at g;let(W,R,q):=d j y t e1 g G;apply(W,R,q.imp ϙI ϙI)
  .let Y:y≠n:=λe=>J<|wI k e1 (e▸hi)
   change(if y=n then r else m y)=some W;rw[P3 Y];show z.2
  let(_,c,e,Z):=z;show(c,e,Z.sameBut S ϯM)
 .exactλy c e=>(I.cell y c e).imp λW z=>ώ9 ϯM
 .exactλp m=>let⟨q1,q2,q3,q4,q5⟩:=Ϸg m;⟨Ę (S.2 p.1 q3) q1,q2,q3,q4,q5⟩
 .intro b O e
  apply(I.Y1 b O e).stay (λc W hc q=>Ę (S.2 c ?_) q) ϤP Ϲx;ext z;subst z;rcases hc with z|hc
  .rw[<-z,I.free]at e;cases e
  rw[I.free]at hc;cases hc
 rw[K8z];show I.len
end
section
variable{X:Cx}
theorem Pp(I:Ĺ X H1 s1)(x:Ϫc X.stack H1 s1 E' ev s')(t:X.stack=ϱD)(F:X.env.frame=Â X.env.locals)(hD:ϩ3 X.K)(hgD:Gl X dx)(hmD:X.mg dx=Â (Å D))(hd:å (dx==Ϸ3))(h:∀a cls H,ev=Å a->E' cls none H->∃C,cls=Å C/\ϳg X.K (Å C) (Å D)=ϱp/\
   ∀s5,(∀(Q':Unit->Ô Db)(c:Do->Ô Db),(∀N s6,N.cls=Å C->Ĺ (ϨS a N) H s6->Q' () s6)->ϲz ϰj (X.A.mark<|Â<|Å a) (Ϥx<|Å a) Q' c s5)->
    codeAny ϰj (X.A.mark<|Â<|Å a) (ϯq (Å a)<|Ϸ7 none nm Ϲp hpos) (λr S=>match r with
     |.ok f=>(match nm with
      |none=>Q f S
      |some n=>ē (do bindName X.env n .none;unbindBehindTheSuite X.env n hpos) (λ_ s=>Q f s) E S)
     |.error x=>cameBackBy ϰj X.A X.env E x S) s5):
  ē ϘA (λ_ S=>ē (Ϥx ev) (λ_ s=>ē (ϒn ev [Ϸ7 (Â ϧk) nm Ϲp hpos]) Q E s) E S) E s':=by
 let(a,cls,a0,B,H,rfl,os,bare,un,M,Y,O,hE'):=x;let(C,rfl,U,hh):=h a cls H rfl hE';let J:Ĺ X H s':=ϮO M bare (λb z=>Đ z Ø);let nf:∀b∈ϳ0,∀o,Ϥv=Ü->∀W,o.data≠Ŝ W:=ϔq
 let later:∀g,϶f g->ϐH g->Ĺ X H ((ϧh g)):=λg st up=>by let(u5,k5):=KD un M st up O nf J.stkFree;show ϘL ((ϧh g)) (λb z=>Đ z Ø)
 let(N,W,w,hoc,hod,_):=Y.first;let A:a∉ϳ0:=λm=>nf a m N w W hod;let eaN:ϻu:=by
  cases z:H a with
  |none=>rfl
  |some u=>
   let q:=O a N w A (È<|ϲi z);rw[Y.2.1]at q;cases q
 let eaL:a≠X.env.locals:=λz=>A (by rw[t,mK F,z];show Uf);let eaO:a∉X.fs:=λm=>A (by rw[t,mK F];show Ą m);let mk:∀g o v,g.get? a=Ü->o.data=Ŝ v->Ĺ X H ((ϧh g))->Ĺ (ϨS a o) H ((ϧh g)):=λg o v q1 q2 Z=>ϔT;rw[t]at Y;apply wpAny_looks_onW (by rw[<-t];show I.ok.frames) F Y λh4 fl4 T=>?_;apply wpAny_landsW fl4 λg l V=>?_;let Z:=later g l.1<|T.trans V;let(P,vs5,e,d,j,_):=l.first;let M5:=mk g P vs5 e j Z;apply ϔz;apply lM (X:=ϨS a P) M5 hgD hmD ?_ hd;apply IA (h:=g) (K:=X.K) Z.kIn hD U e d ?_;apply hh _ λQ' c hq=>?_;apply lands_againW l λh6 L up6=>?_;let(R,vs6,G,i,p,_):=L.first;show hq R _ i<|mk h6 R vs6 G p<|later h6 L.1<|Ę (T.trans V) up6
end
section
variable{X:Cx}{F5:À ķ}{σ:St}{H':Hp}{C ea:Ix}{n:Str}{b0:No}{suite:À No}{hpos:Pos}{Q:Flow->Ô Db}{E:Do->Ô Db}{i j:Nat}{b:Bool}
theorem Ew(A:Ź->ϩ7)(F:X.A.frames=Â X.stack)(N:X.N.Nodup)(hi:Α=ŵ)(a:ϗk=Â Ţ)(H:i≠j)(J:j<X.N.length)(l:Ϙ3)
  (K:∀o,o.cls=Å C->PSs (ϴI o) Ϲp (tBs (Pe i ea j) j b)) (G:∀h c,aH H' h->ų F5 ((ϐT<|Â ϰ0).set i none) h c->Q Ϥb c):
  ∀L,(∀(t:Unit->Ô Db)(g:Do->Ô Db),(∀o p,o.cls=Å C->Ĺ (ϴI o) H' p->t () p)->ϲz ϰj (X.A.mark<|Â<|Å ea) (Ϥx<|Å ea) t g L)->
    codeAny ϰj (X.A.mark<|Â<|Å ea) (ϯq (Å ea)<|Ϸ7 none ŵ Ϲp hpos) (λr S=>match r with
     |.ok f=>ē (do bindName X.env n .none;unbindBehindTheSuite X.env n hpos) (λ_ d=>Q f d) E S
     |.error x=>cameBackBy ϰj X.A X.env E x S) L:=by
 ext L s;let iL:i<σ.length:=by rw[l];show rG hi
 apply codeAny_handlers_suite_as<|ϥ2 (λo p O M=>?_);apply mS (X:=ϴI o) M N hi (È a) (v:=Å ea) (u:=Å ea) rfl (λR w=>?_)<|Ñ a
 apply K8m (K o O F5 R (Ϸ8<|Â<|Å ea) H' (ϲr (λe h=>aH H' h/\e=(Ϸ8<|Â<|Å ea).set j (Â ϰ0)) ϲh ϲh) w
  ⟨⟨K9I iL,by rw[K8z,l];show J,H⟩,λh sm=>(Ϸs sm)⟩) (λD T q=>?_) λ_ _ z=>z.elim
 cases D with
 |next=>
  let(e,h,y,sm,rfl):=q;let B:=vW A F y;change ϸe _ _;apply Sc<|wpAny_bindName<|mS B N hi (È a) (v:=.Y4) (u:=ù) rfl (λP k=>?_)<|Ñ a;delta unbindBehindTheSuite;apply wpAny_onRaise<|GG (v:=.Y4) k N hi a (K9I<|ϱq K8z K8z iL) λm I=>G h m sm ?_;rw[Zdw,List.set_comm _ _ H,Zdw]at I;show I
 |ret u=>let(_,_,_,_,_,z):=q;show z.elim
 |brk=>let(_,_,_,z):=q;show z.elim
 |cont=>let(_,_,_,z):=q;show z.elim
theorem Nb(A:Ź->ϩ7)(H:X.A.frames=Â X.stack)
  (i:∀o,o.cls=Å C->PSs (ϴI o) Ϲp (tBs (λ_=>True) j b)) (d:∀h a,aH H' h->ų F5 (ϐT<|Â ϰ0) h a->Q Ϥb a):
  ∀L,(∀(t:Unit->Ô Db)(e:Do->Ô Db),(∀o g,o.cls=Å C->Ĺ (ϴI o) H' g->t () g)->ϲz ϰj (X.A.mark<|Â<|Å ea) (Ϥx<|Å ea) t e L)->
    codeAny ϰj (X.A.mark<|Â<|Å ea) (ϯq (Å ea)<|Ϸ7 none none Ϲp hpos) (λr S=>match r with
     |.ok f=>Q f S
     |.error x=>cameBackBy ϰj X.A X.env E x S) L:=by
 ext L s;apply codeAny_handlers_suite<|ϥ2 (λo g O M=>?_);apply K8m (i o O F5 g σ H' (ϲr (λc h=>aH H' h/\c=ϐT (Â ϰ0)) ϲh ϲh) M ⟨trivial,λh sm=>(Ϸs sm)⟩) (λl T q=>?_) λ_ _ z=>z.elim;cases l with|next=>let(c,h,y,sm,rfl):=q;show d h T sm<|vW A H y|ret u=>let(_,_,_,_,_,z):=q;show z.elim|brk=>let(_,_,_,z):=q;show z.elim|cont=>let(_,_,_,z):=q;show z.elim
end
theorem KH(I:ą):Ĺ ϦZ H s:=
  (Ϧr (ύP I.ok.hd) I.pin)
theorem lZ(I:Ĺ ϦZ H s):ą:=
  (Ϧr (ύP I.ok.hd) I.pin)
def yx(a:L3.Env)(i:Nat):Bool:=match ϴi with
 |some none=>true
 |_=>false
def Fw(fn:Fn)(al:Fa)(ok:ϳi L3.Env)(j:Nat)(tbl:À ϪF):Fs:=λa=>ï (al a) λX=>match fn ϵm with
 |.ok _=>Ϲw
 |.ex c=>(match ϧr with
  |some b=>Ì (ok a=true) (ϱu (Ϧ3<|æ<|í b)) Í
  |none=>Í)
 |.bad=>Í
theorem Es{K:Ch}{F H:Hp}{v:Ú V}{b:St}{a:L3.Env}{g:À Ix}(S:ϰp b a g):∀{i:Nat},yx a i=true->ϰp (ϮH v) a g:=by
 induction S with
 |nil=>show fun{i} _=>Ā
 |no r ih=>
  ext i h;cases i with|zero=>show .no r|succ i=>show .no (ϧl<|ϐG yx)
 |yes o r ih=>
  ext i h;cases i with|zero=>cases h|succ i=>show .yes o (ϧl<|ϐG yx)
section
variable{M:Mx}{X:Cx}{p pos cpos epos hpos np:Pos}{tbl:À ϪF}
set_option tactic.hygienic true in
theorem Kz(F:Ϧt M.K M.mg Ϫc)(hr:ϴr X.A)(hg:ϰY)(hm:M.mg x=Â (Å f))(hk:ϧV M.K (Å f))(hb:ϧG M.K [])
  (ha:∀xe,DA M ϦZ Ō al) (hst:X.stack=ϱD) (hfr:X.env.frame=Â X.env.locals)
  (hD:ϩ3 M.K) (hgD:Gl X dx) (hmD:M.mg dx=Â (Å D)) (hj:j<X.N.length)
  (hT:∀c b,ϧr=ż->∃C,ϸL=Â (Å C)/\ϳg M.K (Å C) (Å D)=ϱp/\
   ∀(i:À ķ)(B:St)(U:Hp)(O:Ix)(Q:Flow->Ô Db)(E:Do->Ô Db),(Ź->ϩ7)->X.A.frames=Â X.stack->B.length=X.N.length->
    (∀y h R,aH U h->ų i y h R->(∀K F H w g,ok w=true->ϰp (B.set j<|Â ϰ0) w g->ϰp y w g)->Q Ϥb R)->
    ∀s5,(∀(Q':Unit->Ô Db)(E'':Do->Ô Db),(∀oe s6,oe.cls=Å C->Inv (ϨS O oe) i B U s6->Q' () s6)->ϲz ϰj (X.A.mark<|Â<|Å O) (Ϥx<|Å O) Q' E'' s5)->
    codeAny ϰj (X.A.mark<|Â<|Å O) (ϯq (Å O)<|Ϸ7 none nm Ϲp hpos) (λr d=>match r with
     |.ok f=>(match nm with
      |none=>Q f d
      |some n=>ē (do bindName X.env n .none;unbindBehindTheSuite X.env n hpos) (λ_ t=>Q f t) E d)
     |.error x=>cameBackBy ϰj X.A X.env E x d) s5)
  (Y1:∀(w:L3.Env) v,ok (w.set j v)=ok w)
  (hd:Ŭ) (hdD:ő (å<|dx==Ϸ3))
  (he:Û (à Ō=ϰL (à es))) (hpl:Û (ϰv<|Ϸ1<|à es))
  (hs:Û (Ϩa (Χ (î p) Ō cpos) none epos.line X.env=϶b)):
  Λ (.Try [ϻ9 (Χ (î p) Ō cpos) epos] [Ϸ7 (Â ϧk) nm Ϲp hpos] [] [] pos) ϙJ:=λT hM i s B H D' I q=>by
 let(F0,w,fp,S,pq):=q;apply ϒo<|ϯg ?_;let F':Ϧt X.K X.mg Ϫc:=by rw[T,hM];show F
 apply wpAny_Expr_any ?_ I.quiet hs;apply K8h<|lM I hg (Ù hM hm) ?_ hd;apply K8K (h₀:=X.base) (K:=X.K) I.ok.mod.kin (ϒl hk) ?_ he hpl;let pa:=ha (λe s₁=>ē ϏI (λ_ d=>ē ϏO (λ_ t=>ē (ώZ [Ϸ7 (Â ϧk) nm Ϲp hpos]) (Ϲ9 i D') X.xe t) X.xe d) X.xe s₁) T hM
 apply Y6 (pa cpos i s B H (λvs l=>∃G1 L,Ext F0 H G1 l/\D1 M.K G1 vs L/\aq M l fp (ϦR G1 l fp D') (match fn L with
   |.ok _=>.ok<|.nx w
   |.ex c=>(match ϧr with
    |some b=>Ì (ok w=true) (ϱu (w.set j<|æ<|í b)) Í
    |none=>Í)
   |.bad=>Í)) (KH I) ⟨F0,w,fp,S,ş (ϥK pq) λxs P vs F1 l fx e1 r1 w1=>?_⟩) λus s1 hz=>?_
 .let(G1,N,k1):=ϒV
  show(G1,ϮU,N,k1,ş (P.ext N) λo ho=>eK.stp N.stp ho)
 .let(vs,l,I1',r1,G1,L,N,k1,P):=hz
  let G:ų i B l s1:=lZ I1';let S1:=S.ext N;apply(G.kIn,?_);let hsp:Y8 M.K M.mg fn vs l (λ_ A=>(∃z,fn L=Ħ z)/\∃G2,Ext G1 l G2 A) (λcls _ A=>(∃c b,fn L=γ/\ϧr=ż/\ϸL=Â cls)/\aH l A):=by
   apply(G1,L,N.fh,k1,?_);cases hf:fn L with
   |ok z=>exactλv F' U fx e _ _=>⟨Ϸs z,F',e⟩
   |bad=>rw[hf]at P;show P.elim
   |ex c=>
    rw[hf]at P;cases hc:tbl.lookup c with|none=>simp only[hc]at P;show P.elim|some b=>let(C,hC,_):=hT c b hc;show(Å C,hC,λod A hk=>⟨⟨c,b,rfl,hc,hC⟩,λa o z=>hk a o z Ø⟩)
  let hl:ϫC (Ã (us++[])):=by rw[Zw,<-r1.length];show F.len _ _ _ _ hsp
  let V:=hb s1 us (T▸G.kIn) hl;rw[Zw]at V;apply wpAny_call<|K8G (F'.run X.A X.stack s1 l (ϴ1 us) us vs _ _ hr G.se V r1 hsp) λr s2 hq=>?_;cases r with
  |error ev=>
   let hq':Ϫc X.stack l s1 (λcls _ A=>(∃c b,fn L=γ/\ϧr=ż/\ϸL=Â cls)/\aH l A) ev s2:=hq;apply Pp G hq' hst hfr (ϒl hD) hgD (Ù hM hmD) hdD λO cls U _ hE=>?_;obtain⟨⟨c,b,hfn,hc,Y⟩,same⟩:=hE;let(C,hC,hsub,hh):=hT c b hc;rw[hC]at Y;cases Y;apply(C,rfl,ϒl hsub,λs5 hset=>hh i B U O _ _ G.ok.hd G.ok.frames G.len (λy h R sm J Z=>?_) s5 hset);rw[hfn]at P;simp only[hc]at P;split at P
   .rename_i hO
    let e2:Ext G1 l G1 h:=⟨ϰE,ϑi,N.fh.trans ϑi,Ϸc⟩
    let(fp',W,sub):=Ť (S1.ext e2) hj (ϛD ϰ0) ϰk
    show(y,h,J,P y G1 h fp' ⟨W.same,Z _ _ _ _ _ (Ù Y1 hO) W.own,W.nd,W.fr,W.len⟩ ⟨ϰE,λa o z _=>ϑi a o z,λa m=>È (ϴt Ϩw id ϶S),ϑ3⟩)
   .exact P.elim
  |ok fl=>
   cases fl with|ret u=>obtain⟨v,A,J,_,⟨z,hf⟩,G2,e2⟩:=G.after hq;rw[hf]at P;show K8W<|K8W ⟨B,A,J,P B G2 A fp (S1.ext e2) e2.stp⟩|next=>show ϸo hq|brk=>show ϸo hq|cont=>show ϸo hq
end
theorem RF{P:Ev}{w:Fk}{K:Ch}{g:ł}{base:Op}{x qual:Str}{T:No}{f:Ix}{fd:Gc}{N b:À Str}{k np n:Nat}{body:Fs}{fn:Fn}(I:ϐN)(M:b.length=np)(J:ϓH)(F:ϦD)(S:Fq N b ϥM)
  (h:∀(c:Do)(A:Is)(outer:À PySem.Env)(s:Db)(H:Hp)(E:XK),ϩC->ώ1 (ϬH ϓM g)):
  ϶j g base ϓM (k+1) f fd b (ϻT g fn):=by
 subst I M J;let O:Ϗ4:=by
  let:=Ŧ S.pre;rw[Zk]at this;lia
 let l:ύV:=by
  ext e H Q E ⟨F,D,sm,R,p⟩;by_cases L:ϦQ
  .rw[Ϩj]
   show L
  delta aZ at p;rw[P3 L]at p;show p.elim
 let(Z,Y,kV,doc,pm,an,c,ct,U,rfl,W,C):=F.ex;apply ϕD;let V:=l _ _ _ _ t;let(u,D,sm,R,p):=t;let d:ϦQ:=ϰ9 Ϩj V
 delta aZ at p;rw[Os d]at p;apply(_,ώN,u,ϑF,[],(sm,?_,K8w,ϰk,?_),Ķ ϧN)
 .unfold L2.start se
  rw[V,d];show qL _ R
 .unfold se
  change ϯW;rw[S5,I4,K8r,d];lia
 cases o with
 |nx ρ=>show λX i j G B T=>ϑG ⟨T.ff,ϹX (ϧq Ø),B.same,ϻ5 (Ϩk Ø z)⟩ ϑr ϰk
 |rt y=>exactλv i j fx sm' r T=>ϒX ⟨T.ff,ϹX (ϧq Ø),sm',ϻ5 (Ϩk Ø z)⟩ r (λa m=>ϐw ϶S id)
 |bk ρ=>show po.elim
 |ct ρ=>show po.elim
theorem IZ{P:Str->ϓG}:∀c b,ς ([]:À ϪF) c=ż->P c b:=λc b h=>ϰn
set_option tactic.hygienic true in
theorem Av{P:Str->ϓG}{l:À ϪF}(h:P a b0)(r:∀c b,l.lookup c=ż->P c b):∀c b,ς ((a,b0)::l) c=ż->P c b:=λc b q=>by
 rw[K9X]at q;split at q
 .rename_i e
  cases q;rw[beq_iff_eq.mp e];show h
 show r c b q
theorem Km(h:i≠j):yx (ρ.set j v) i=yx ρ i:=Ň yx (K9E ϨW)
end L3
namespace L3
open PySem L2
section
variable{c:Str}{ρ:L3.Env}
theorem e9:JY γ p=γ:=rfl
theorem gm:Jy γ=γ:=rfl
theorem fY(c:Str):gk c ρ=γ:=rfl
def S_(r:ď)(o:Bool)(j:Nat)(tbl:À ϪF)(a:L3.Env):ϰ2:=match r with
 |.ok _=>Ϲw
 |.ex c=>(match ϧr with
  |some b=>Ì (o=true) (ϱu (Ϧ3<|æ<|í b)) Í
  |none=>Í)
 |.bad=>Í
theorem PV:ϙJ ρ=Zi (λX=>S_ (fn ϵm) (ok ρ) j tbl ρ) (al ρ):=QV _ _
theorem HX:S_ γ true j ((c,b)::l) ρ=ϱu (ρ.set j<|æ<|í b):=by delta S_;simp[List.lookup]
def noK:ϳi (Ú (Ú OD))|some none=>true|_=>false
theorem UT(i:Nat):yx ρ i=noK ϱw:=by delta yx noK;rfl
theorem WD:Γ noK ϱK:=rfl
end
end L3
namespace L3
open PySem L2 PySem.Spec PyProof.Rows
def eCh(a b c:Fe):Fe:=λd=>ï (a d) λx=>ï (b d) λy=>match x.er,y.er with
 |.int i,.int j=>if ϵN then ï (c d) λz=>(match z.er with
  |.int k=>oB<|Ë<|j<=k
  |_=>Í)else oB false
 |_,_=>Í
def tCh(ta tb tc:TE):TE:=ϦL (tb a h λy b=>∃i j,x=Ä i/\y=Ä j/\Ì ϵN (tc a b λz c=>∃k,z=Ä k/\Q (.bl<|Ë<|j<=k) c) (Q ϪZ b))
section
variable{pos:Pos}
theorem Ww(A:õ a ta)(B:õ b tb)(hc:õ c tc)(M:å (ϘX ϷJ):=by with_unfolding_all rfl):õ ϕP (tCh ta tb tc):=by
 ext p s d H Q I h;apply Compare_chain (Y6 (Ϸn d H _ I h) λv S⟨x,g,n,R,r⟩=>chain_link<|Y6 (B p S d g _ n r) λu E zzz=>?_) M;let(y,e,f,C,t):=zzz;let(i,j,rfl,rfl,q):=t;let(t1,rfl):=R;let(t2,rfl):=C;apply le_int<|K8b ?_;by_cases J:ϵN
 .rw[Os J]at q
  rw[Tl J,ė];apply chain_last<|Y6 (hc p E d e _ f q) λz F zzz=>?_;let(w,m,o,D,l):=zzz;let(k,rfl,l):=l;let(t3,rfl):=D;show le_int ⟨ϴZ,m,o,rfl,l⟩
 rw[P3 J]at q;rw[Pi J,P3 Ø];show(ϪZ,e,f,rfl,q)
set_option tactic.hygienic true in
theorem X5(h:ć ϐ7 σ H Q):tCh (ć fa) (ć fb) (ć fc) σ H Q:=by
 let(F,a,f,S,p):=h;apply(F,a,f,S,Ķ λx X v o s A e1 r w=>?_);let(G1,D,K):=ϳ9 w;apply(G1,a,f,϶s,ş (ϴB X D) λy py V F2 t Y g m W=>?_);let(G2,d,c):=m.Z2 g W;let P:=py.ext ϹA;split at P
 .rename_i i j hi J
  rw[hi]at K;rw[J]at c;cases K;cases c;apply(i,j,rfl,rfl,?_);split at P
  .rename_i I
   rw[Os I];apply(G2,a,f,(϶s).ext d,ş (ϥK P) λz Z E q u B G C l=>?_);let(G3,b,k3):=C.Z2 G l;split at Z
   .rename_i k e
    rw[e]at k3;cases k3;show(k,rfl,T0.val b.fh (T0.pre (Ę ϹA b) Z) ϴZ)
   show Z.elim
  rename_i I;rw[P3 I];show Ϗn d.fh ϹA P ϪZ
 show P.elim
theorem UD(A:ê a fa)(B:ê b fb)(hc:ê c fc)(h:å (ϘX ϷJ):=by with_unfolding_all rfl):ê ϕP ϐ7:=ϰt peI (Ww ϴP ϸD (hc r m) h) X5
end
theorem Yn{i j k:Int}(h:ϻQ=ϴV)(a:x.er=Ä i)(f:ϻR=ϸG)(c:y.er=Ä j)(g:fc ρ=Ħ z)(l:z.er=Ä k):ϐ7 ρ=Ý (í<|Ë<|ϵN/\j<=k):=by
 delta eCh;rw[h,cq,f,cq];simp only[a,c];by_cases H:ϵN
 .rw[ϱh,g,cq]
  simp only[l];delta oB;simp[H]
 rw[ϱz];delta oB;simp[H]
def yB:À Go->Ú ϤY|[]=>Â []|.bool b::r=>Î (yB r) (b:: ·)|_::_=>none
theorem yB1{b r}:yB (.bool b::r)=(yB r).map (λs=>b::s):=rfl
def Kb:À Go->ď
 |[.list ds]=>(match yB ds with
  |some bs=>oB ϯ1
  |none=>Í)
 |_=>Í
def WL(K:Ch):À V->Hp->Ô VK:=Ϲ3 (∃(a:Ix)(bs:ϤY),X=[Å a]/\ϸz a ϑt/\Q (.bl ϯ1) H)
theorem Ct:∀{bs:ϤY}{s:À Do},İ ϑt s->s=ϦN:=by
 ext bs
 induction bs with
 |nil=>exactλh=>Vals.zero h
 |cons b r ih=>
  ext s h;cases h with|cons q t=>rw[W1,ih t];show Zh (· ::_) (ń (_=Value.bool b) q)
end L3
namespace L3
open PySem L2 PySem.Spec PyProof.Rows PySem.W
section
variable{M:Mx}{X:Cx}
theorem L8(hc:Ź):ϴq (ŋ "all") (WL X.K):=by
 ext p s j H x U Q I r h;let(a,bs,rfl,d,q):=h;let(u,rfl,J):=Ϸb;cases(ϻt<|u=Ϲq);let(t,R,P,Z):=ϸP d.sq;let hi:=Ct R;subst hi;let l:=P.isList;let na:Ϛe:=by let(_,z,_):=l;show Zs z
 let sz:ϧB ϦN=bs.length:=Ø
 apply PySem.call_all_walk (wpAny_pyIter_list l ⟨s.heap.objs.size,[s.heap.objs.size,a],[s.heap.objs.size],ϧB ϦN,_,_,λi=>ę Ϲ0 true,rfl,
  Walks.list (A:=X.A.in1) ϱW _ a (K9O na) (ϸO ϦN),⟨⟨_,ϳ3,rfl,rfl⟩,l.push _⟩,λi v S f E hP c=>?_,λg tk k=>?_⟩)
 .let V:û ϦN=ú:=Ŀ hP
  rw[Oe]at V;let(b,B,rfl):=ϷP V;simp only[B,Zas]at c;show K8b c
 let e:((ŷ<|(ϧB ϦN)).all λi=>ę Ϲ0 true)=ϯ1:=Ù sz (LSm.range_all bs)
 rw[e];show(ϴZ,H,I.kept<|LSm.kept_iter k,rfl,q)
theorem Hb:∀{s:À Go}{bs:ϤY},yB s=some bs->s=ϭD:=by
 ext s
 induction s with
 |nil=>ext bs h;cases h;rfl
 |cons d r ih=>
  ext bs h;cases d with|bool b=>rw[yB1]at h;let(cs,H,rfl):=Ϸp;rw[ih H];rfl|_=>cases h
theorem W0{K:Ch}{F:Hp}:∀{bs:ϤY}{s:À V},Ű s ϭD->s=ϑt:=by
 ext bs
 induction bs with
 |nil=>ext s h;cases h;rfl
 |cons b r ih=>
  ext s h;cases h with|cons q t=>cases q;rw[ih t];rfl
set_option tactic.hygienic true in
theorem T6(h:Ŕ):ϧE WL Kb:=by
 rw[h];ext x d F H f Q s R p;cases R with
 |nil=>show False.elim p
 |cons r t=>
  cases t with
  |cons _ _=>cases r<;>show False.elim p
  |nil=>
   cases r with
   |@lst a vs d h1 h2=>
    delta Kb at p;dsimp only at p;split at p
    .rename_i bs B
     let e:=Hb B;subst e;have g:=W0 h2;subst g;show(_,bs,rfl,ϓ6,ϵg ϴZ)
    show p.elim
   |_=>show False.elim p
end
theorem HZ:∀bs:ϤY,yB ϭD=some bs:=by
 ext bs
 induction bs with|nil=>rfl|cons b r ih=>rw[W1];change yB (.bool _::_)=_;rw[yB1,ih];rfl
theorem XC(bs:ϤY):Kb [Ö ϭD]=Ý (í ϯ1):=by let e:=HZ bs;delta Kb;simp only[e];rfl
end L3
namespace L3
open PySem L2
def zt(S:Ô L3.Env)(T:Prop)(c:Str):Ô ϰ2|.ok (.nx ρ)=>S ρ|.ok (.ct ρ)=>S ρ|.ex e=>e=c/\T|_=>False
theorem BU{T:Prop}:zt S T c (ϱu ρ)=S ρ:=rfl
theorem xD{T:Prop}:zt S T c γ=T:=by
 change(c=c/\T)=T;simp
theorem AF{P:Prop}(L:ϱv ds l=r)(S:Nat->Ô L3.Env)(T:Prop)(c:Str)(v:S 0 l)(u:∀(i:Nat)(d:Go)(l:L3.Env),ds[i]?=Ω->S i l->zt ϫP T c (Ϩe<|g Ř l))(fin:∀f,r=Ϲr->ϪM f->P)(n:r=γ->T->P):P:=by
 let go:∀(s:À Go)(k:Nat)(l:L3.Env),S k l->(∀(i:Nat)(d:Go)(l:L3.Env),ϴ3=Ω->S (k+i) l->zt (S<|k+i+1) T c (Ϩe<|g Ř l))->(∃f,ϱv s l=Ϲr/\S ϑs f)\/(ϱv s l=γ/\T):=by
  ext s
  induction s with
  |nil=>exactλk l h _=>È ⟨l,rfl,h⟩
  |cons d s ih=>
   ext k l h u;let m:=u 0 d l rfl h;let N:∀j,ϓJ j->(∃f,ϱv s j=Ϲr/\S (k+Ã (d::s)) f)\/(ϱv s j=γ/\T):=λj H=>by
    rcases ih (k+1) j H (λi d' f D p=>by
     let:=u (i+1) d' f ϭU (by rw[ó ϑH];show p);rw[ó ϐk]at this
     show this)with⟨f,a,b⟩|q
    .exact È ⟨f,a,by rw[Zo,ó (k+ϤK=ϑ5)];show b⟩
    show Ñ q
   rw[aJc];cases hg:g Ř l with
   |bad=>rw[hg]at m;show m.elim
   |ex e=>rw[hg]at m;let(rfl,t):=m;show Ñ ⟨rfl,t⟩
   |ok ρ1=>
    rw[hg]at m;rw[cq];let H:zt ϓJ T c (b ρ1):=m;cases hb:b ρ1 with
    |bad=>rw[hb]at H;show H.elim
    |ex e=>rw[hb]at H;let(rfl,t):=H;show Ñ ⟨rfl,t⟩
    |ok o=>
     rw[hb]at H;cases o with|nx j=>show N j H|ct j=>show N j H|bk j=>show H.elim|rt x=>show H.elim
 rcases go ds 0 l v (λi d l D p=>by rw[K87]at p⊢;show u i d l D p)with⟨f,a,b⟩|⟨a,t⟩
 .exact fin f Ϛf (by rw[K87]at b;show b)
 show n Ϛf t
end L3
namespace L3
open PySem L2 PySem.Spec PyProof.Rows PySem.W
def rTx(op:ϱ3 Str V):V->À V->Hp->Ô VK:=λx X H Q=>∃a b,x=Æ a/\X=[Æ b]/\Ĕ a.length/\Ο (op a b)
def gTx(op:ϱ3 Str Go):ζ
 |.str s,.str t=>Ì ϲT (Ý (ϻ8 t)) Í
 |_,_=>Í
def eTx(op:ϱ3 Str Go)(a b:Fe):Fe:=λc=>ï (a c) λx=>match x.er with
 |.str s=>Ì ϲT (ï (b c) λy=>ϧF (Æ s)) Í
 |_=>Í
def RK(s t:Str):Go:=Æ ϘB
section
variable{X:Cx}
theorem Gr:ϵF "str.rstrip" (rTx λa b=>Æ<|Txt.rstripChars a b):=by ext p s d H x c v S Q I R r h;let(a,b,rfl,rfl,l,q):=h;let(t,rfl):=R;let(u,rfl,t2,rfl):=Ϸb;show SC.rstripChars (λU k=>⟨Æ _,H,ϨI,ϪN,q⟩) l
set_option tactic.hygienic true in
theorem Bx{id:String}(slot:Slot "str" name id)(t:typeOf (ŋ id)=pure (Ĳ "method_descriptor"))(B:ϵF id (rTx opV))(hr:∀K F a b,Ğ F (opV a b)<|op a b)(A:ê a fa)(h:ê e fb)(s:Û (ϦY name X.env Υ=Υ))(f:Û (ě<|(ϲC<|à [e]).all ϵ5&&ϸ5&&Ë (Ã ([e]:À On)+Ã ([]:À Keyword)+(Ì ((ϵL ([]:À Keyword))) 0 1)<30)))(i:Û ϷY)(n:Û (à [e]=ϰL (à [])))(l:Û (ϰv<|ϲC<|à [])):
  ê (Χ (ϲl a name ap) [e] cp) (eTx op fa fb):=λr m=>by
 let q:=ώh slot t B ϴP (ϷV ŝ n) s f i n l;apply peI q λT H Q h=>?_;let(F,j,g,S,p):=h;apply(F,j,g,S,Ķ λx P v I J N e1 R W=>?_);let(G1,D,o):=ϵx W;generalize x.er=d at P o;cases o with
 |str z=>
  let c:ă g ŀ (Ì ϧp (ï (fb j) λy=>ϧF (Æ z)) Í):=P
  split at c
  .rename_i Z
   apply(rfl,G1,j,g,϶s,ş ((aq.bind c).ext D) λy py w F2 L O E C G=>?_);let(G2,k,u):=C.Z2 E G;generalize y.er=d' at py u;cases u with
   |str z2=>
    let Y:ă g ŀ (Ì ϧp (Ý (op z z2)) Í):=py;rw[Os Z]at Y;show(z,z2,rfl,rfl,hR Z,ϔn<|hr _ _ _ _)
   |Y4=>show py.elim
   |bl _=>show py.elim
   |int _=>show py.elim
   |dct _ _ _=>show py.elim
   |dtt _ _ _=>show py.elim
   |lst _ _=>show py.elim
   |tup _ _=>show py.elim
  .exact c.elim
 |Y4=>show P.elim
 |bl _=>show P.elim
 |int _=>show P.elim
 |dct _ _ _=>show P.elim
 |dtt _ _ _=>show P.elim
 |lst _ _=>show P.elim
 |tup _ _=>show P.elim
def E7(f:Fs):Fs:=λa=>match f a with
 |.ok o=>϶C
 |_=>Í
theorem N9{pos:Pos}(B:∀xe,DSs M ϦZ body f):Λ (.Try body (h0::hs) [] [] pos) (E7 f):=λK m i s t H D I q=>by
 let(F,l,P,S,p):=q;let n:ă P (ϦR F H P D) (f l):=by
  delta E7 at p;cases hf:f l with|ok o=>rw[hf]at p;show p|ex c=>rw[hf]at p;show p.elim|bad=>rw[hf]at p;show p.elim
 apply ϒo<|K8m (B (λe g=>ē ϏI (λ_ j=>ē ϏO (λ_ k=>ē (ώZ<|h0::hs) (Ϲ9 i D) X.xe k) X.xe j) X.xe g) K m i s t H D (KH I) ⟨F,l,P,S,n⟩) (λL w Z=>?_) Ϸc;cases L with|next=>let(a,h,b,d):=Z;show K8W ⟨a,h,lZ b,d⟩|brk=>let(a,h,b,d):=Z;show(a,h,lZ b,d)|cont=>let(a,h,b,d):=Z;show(a,h,lZ b,d)|ret u=>let(v,a,h,b,r,d):=Z;show(v,a,h,lZ b,r,d)
end
section
variable{op:ϱ3 Str Go}{x y:OD}{s t:Str}
def txK(op:ϱ3 Str Go)(r m:ď):ď:=r.bind λx=>match x.er with
 |.str s=>Ì ϲT (m.bind λy=>ϧF (Æ s)) Í
 |_=>Í
theorem uZ:eTx op fa fb ρ=txK op ϻQ ϻR:=rfl
theorem u_:txK op ϴV ϸG=ϧF x.er:=by
 change(match x.er with
  |.str s=>Ì ϲT (ϧF (Æ s)) R.bad
  |_=>R.bad)=_
 generalize x.er=d;cases d with
 |str s=>
  change(Ì ϲT (ϧF (Æ s)) R.bad)=_;generalize y.er=d';cases d' with
  |str t=>
   change(Ì ϲT (Ì ϲT (ϳV (ë<|ϻ8 t)) R.bad) R.bad)=(Ì ϲT (ϳV (ë<|ϻ8 t)) R.bad)
   split<;>rfl
  |_=>split<;>rfl
 |_=>rfl
theorem uV:gTx op (Æ s) (Æ t)=Ì ϲT (Ý (ϻ8 t)) Í:=rfl
theorem RG:RK s t=Æ ϘB:=rfl
def t0K:ϰ2->ϰ2|.ok o=>϶C|_=>Í
theorem Q2:E7 f ρ=t0K (f ρ):=rfl
theorem RT:t0K ϶C=϶C:=rfl
end
end L3
namespace L3
open PySem L2
end L3
namespace L3
open PySem L2 PySem.Spec PyProof.Rows PySem.W
section
variable{M:Mx}{X:Cx}
def BP:ζ
 |.tuple xs,.tuple ys=>Ì (ϨJ/\ys≠[]/\ϩT) (Ý (ä ϫ0)) Í
 |_,_=>Í
def D9:R2:=ž (∃l b X zs,x=Å l/\y=Å b/\H l=Â (č X)/\H b=Â (č zs)/\X≠[]/\zs≠[]/\Ĕ (ϻB zs.length)/\∀p,ϳ7->Q (Å p) (Į p<|č<|X++zs))
theorem Kh:ϵh Add D9:=by
 ext p s C H x y v u Q I t Y h;let(l,b,a,zs,rfl,rfl,g,B,N,k,Z,q):=h;cases t;cases Y;let(z,V,r,T):=(ń (϶Z H s.heap l (č a))<|I.Y1 l _ g)
 let(A,ws,R,P):=(ń (϶Z H s.heap b (č zs))<|I.Y1 b _ B)
 obtain⟨⟨cls,f,data,L⟩,j,hc,n,D⟩:=T;obtain⟨⟨c,d,data2,S⟩,o,E,m,hd2⟩:=P;simp only at hc D E hd2;subst hc D E hd2;let i:V≠[]:=λe=>N (Zad<|ϤG r.length);let w:ws≠[]:=λe=>k (Zad<|ϤG R.length);let e:V.toArray++ws.toArray=ϸO (V++ws):=Ø
 apply ϔb (ϚD<|by rw[K9W,K9W,<-r.length,<-R.length];show Z) ⟨j,o,?_⟩
 rw[e];let F:Ϙe:=I.Y1.fresh ß;apply(Å s.heap.objs.size,ϷX<|č<|a++zs,ϩY ϭO ß ?_,rfl,q _ F);show(by rw[S5];show Z,V++ws,r.append R,(_,ϳ3,rfl,_,rfl))
set_option tactic.hygienic true in
theorem OY:δ D9 BP:=by
 ext x y d D F H f Q s R Y p;cases R with
 |tup h1 h2=>
  cases Y with
  |tup h3 h4=>
   delta BP at p;dsimp only at p;split at p
   .rename_i h
    apply(_,_,_,_,rfl,rfl,ϹE,ϥ2 h3,λe=>h.1 ?_,λe=>h.2.1 ?_,ϱq ϴK όE (hR Ϧg),λa A=>T0.tupF s p ϮV (D1.app h2 h4) A)
    .exact Zad (by rw[<-ϴK,e];rfl)
    show Zad (by rw[<-όE,e];rfl)
   show p.elim
  |_=>show False.elim p
 |_=>show False.elim p
def AI(neg:Bool):ζ
 |.int i,.list ds=>(match eP ds with
  |some ns=>Ý<|Ϻq (Ë (i∈ns))
  |none=>Í)
 |_,_=>Í
theorem J5(i:Int)(R:À Int):inV (Ä i) ϳu=Ë (i∈R):=by
 delta inV;rw[K8j,Zdv,Zdb,K9k];constructor
 .rintro⟨n,hn,h⟩
  let h:ě (Ë<|n=i):=h;rw[<-ϏP];show hn
 ext h;show(i,h,K8Q i)
theorem Hj(R:À Int):(ϳu).all sM=true:=by rw[List.all_map,K7x];ext x _;rfl
set_option tactic.hygienic true in
theorem CK(r:Ŕ):δ (rIn X.K neg) (AI neg):=by
 rw[r];ext x y d D F H f Q s a Y p;cases a with
 |int i=>
  cases Y with
  |@lst l vs ds h1 h2=>
   delta AI at p;dsimp only at p;revert p;generalize n:eP ds=o;intro p;cases o with
   |none=>show False.elim p
   |some R=>rw[m_ n]at h2;let e:=ϑ4;subst e;apply(_,_,rfl,È Ϥu,rfl,Hj R,?_);rw[J5];show ϵg ϴZ
  |_=>show False.elim p
 |_=>show False.elim p
theorem QW(neg:Bool)(i:Int)(R:À Int):AI neg (Ä i) (Ö ϰQ)=Ý (Ϻq (Ë (i∈R))):=by let e:eP ϰQ=ϥR:=lQ R;delta AI;simp only[e]
theorem Rq(X y:À Go):BP (ä X) (ä y)=Ì (X≠[]/\y≠[]/\ϻB y.length<=H6) (Ý (ä<|X++y)) Í:=rfl
end
theorem En:ϵF "str.find" (rTx λa b=>Ä<|Txt.find a b):=by ext p s c H x S v U Q I R r h;let(a,b,rfl,rfl,l,q):=h;let(t,rfl):=R;let(u,rfl,t2,rfl):=Ϸb;show SC.find (ϵp (Ä _) ι)
def IW(s t:Str):Go:=Ä<|Txt.find s t
def gLj(s:Str):Go->ď
 |.int i=>Ì ϯb (Ý (Æ<|Txt.ljust s i)) Í
 |_=>Í
def eLj(a b:Fe):Fe:=λc=>ï (a c) λx=>match x.er with
 |.str s=>ï (b c) λy=>gLj s y.er
 |_=>Í
def HG(s:Str):Go->ď
 |.str t=>Ì (å (t.length==0)) (ψ (Î (Txt.split s t) PyData.str)) Í
 |_=>Í
def NP(a b:Fe):Fe:=λc=>ï (a c) λx=>match x.er with
 |.str s=>Ì ϲT (ï (b c) λy=>HG s y.er) Í
 |_=>Í
def rLj:V->À V->Hp->Ô VK:=λx X H Q=>∃a i,x=Æ a/\X=[Ä i]/\ϯb/\Q (Æ<|Txt.ljust a i) H
def Yk:V->À V->Hp->Ô VK:=λx X H Q=>∃a b,x=Æ a/\X=[Æ b]/\å (b.length==0)/\a.length<=H6/\∀p,ϳ7->Q (Å p) (Į p<|Ă<|Î Ϫp V.str)
theorem zA:∀(l:À (Str×Tok)),İ (Î (l.map Ļ) V.str)<|strValues l|[]=>Ā|(x,t)::l=>Ĉ ϪH<|zA l
section
variable{X:Cx}
theorem Ia:ϵF "str.ljust" rLj:=by ext p s c H x b v S Q I R r h;let(a,i,rfl,rfl,P,q):=h;let(t,rfl):=R;let(u,rfl,t2,rfl):=Ϸb;show SC.ljust P λU k=>⟨Æ _,H,ϨI,ϪN,q⟩
theorem KZ:ϵF "str.split" Yk:=by
 ext p s f H x j v U Q I R r h;let(a,b,rfl,rfl,B,L,q):=h;let(t,rfl):=R;let(u,rfl,t2,rfl):=Ϸb;let d:=Ϝj<|I.Y1.fresh ß;let S:=split_le a b;let i:Ĕ (ϹP 2):=K9C (Nat.add_le_add_right L 2) Õ;let fin:∀(l:À (Str×Tok))(k:Nat),l.map Ļ=Ϫp->ϵM p f Q (Å s.heap.objs.size) {s with toks:=k,heap:=ϱY ((ı "list" (ϤO (strValues l))))}:=λl k e=>by let c:=zA l;rw[e]at c;show(Å s.heap.objs.size,ϷX<|Ă<|Î Ϫp V.str,I.laid (t':=k) (o:=Ă<|Î Ϫp V.str) ϭO ß ⟨ñ I4,_,_,c,ϳ3⟩,rfl,d)
 cases h1:(Ë (a.length<b.length)||Ë (Builtin.Str.strKind a<Builtin.Str.strKind b))
 .cases hf:(ύS<|ϹP 1).isEmpty
  .let g:Ϫp=ϖ9 (ύS<|ϹP 1) b.length:=ν Txt.split (ϏC h1) (ϏC hf)
   apply ύR (meets_str_split_sep a b t t2 h1 B hf Á<|ϯr g);change wants _ _ _ {s with toks:=_,heap:=ϱY ((ı "list" (ϤO (strsFrom s.toks<|ϖ9 (ύS<|ϹP 1) b.length))))};rw[strsFrom_eq];show ϛH<|Ę (numbered_texts _ _) g.symm
  apply ύR (meets_str_split_not_found a b t t2 h1 B hf);show Ϛg (ϰM Txt.split (ϏC h1)<|Os hf)
 apply ύR (meets_str_split_cannot_occur a b t t2 h1);show Ϛg (ϱl Txt.split<|Os h1)
set_option tactic.hygienic true in
theorem QN(A:ê a fa)(h:ê e fb)(b:Û (ϦY "ljust" X.env Υ=Υ))(f:Û (ě<|(ϲC<|à [e]).all ϵ5&&ϸ5&&Ë (Ã ([e]:À On)+Ã ([]:À Keyword)+(Ì ((ϵL ([]:À Keyword))) 0 1)<30)))(n:Û ϷY)(s:Û (à [e]=ϰL (à [])))(l:Û (ϰv<|ϲC<|à [])):
  ê (Χ (ϲl a "ljust" ap) [e] cp) (eLj fa fb):=λr m=>by
 let q:=ώh PySem.F.slot_str_ljust PySem.F.type_str_ljust Ia ϴP (ϷV ŝ s) b f n s l;apply peI q λN H Q h=>?_;let(F,j,c,S,p):=h;apply(F,j,c,S,Ķ ϗX);let(G1,D,K):=ϵx W;generalize x.er=d at P K;cases K with
 |str z=>
  let g:ă c ŀ (ï (fb j) λy=>gLj z y.er):=P;apply(rfl,G1,j,c,϶s,ş (ϴB g D) ϗB);let(G2,k,o):=u.Z2 E B;generalize y.er=d' at py o;cases o with
  |int i=>
   let Y:ă c ŀ (Ì ϯb (Ý (Æ<|Ϩ2 z i)) Í):=py
   split at Y
   .rename_i t
    show(z,i,rfl,rfl,t,ϔn<|Æ _)
   .exact Y.elim
  |Y4=>show py.elim
  |bl _=>show py.elim
  |str _=>show py.elim
  |dct _ _ _=>show py.elim
  |dtt _ _ _=>show py.elim
  |lst _ _=>show py.elim
  |tup _ _=>show py.elim
 |Y4=>show P.elim
 |bl _=>show P.elim
 |int _=>show P.elim
 |dct _ _ _=>show P.elim
 |dtt _ _ _=>show P.elim
 |lst _ _=>show P.elim
 |tup _ _=>show P.elim
theorem A5{K:Ch}{F:Hp}:∀T:À Str,Ű (T.map V.str)<|T.map PyData.str|[]=>Ā|t::T=>Ĉ (Æ t)<|A5 T
set_option tactic.hygienic true in
theorem Jq(A:ê a fa)(h:ê e fb)(b:Û (ϦY "split" X.env Υ=Υ))(f:Û (ě<|(ϲC<|à [e]).all ϵ5&&ϸ5&&Ë (Ã ([e]:À On)+Ã ([]:À Keyword)+(Ì ((ϵL ([]:À Keyword))) 0 1)<30)))(i:Û ϷY)(s:Û (à [e]=ϰL (à [])))(l:Û (ϰv<|ϲC<|à [])):
  ê (Χ (ϲl a "split" ap) [e] cp) (NP fa fb):=λr m=>by
 let q:=ώh PySem.F.slot_str_split PySem.F.type_str_split KZ ϴP (ϷV ŝ s) b f i s l;apply peI q λN H Q h=>?_;let(F,j,g,S,p):=h;apply(F,j,g,S,Ķ ϗX);let(G1,D,K):=ϵx W;generalize x.er=d at P K;cases K with
 |str z=>
  let c:ă g ŀ (Ì ϧp (ï (fb j) λy=>HG z y.er) Í):=P
  split at c
  .rename_i Z
   apply(rfl,G1,j,g,϶s,ş ((aq.bind c).ext D) ϗB);let(G2,k,n):=u.Z2 E B;generalize y.er=d' at py n;cases n with
   |str z2=>
    let Y:ă g ŀ (Ì (å (z2.length==0)) (ψ (Î (ύJ z z2) PyData.str)) Í):=py
    split at Y
    .rename_i o
     show(z,z2,rfl,rfl,o,Z,λp t=>T0.lstD k.fh (T0.pre (D.trans k) Y) (A5 _) t)
    .exact Y.elim
   |Y4=>show py.elim
   |bl _=>show py.elim
   |int _=>show py.elim
   |dct _ _ _=>show py.elim
   |dtt _ _ _=>show py.elim
   |lst _ _=>show py.elim
   |tup _ _=>show py.elim
  .exact c.elim
 |Y4=>show P.elim
 |bl _=>show P.elim
 |int _=>show P.elim
 |dct _ _ _=>show P.elim
 |dtt _ _ _=>show P.elim
 |lst _ _=>show P.elim
 |tup _ _=>show P.elim
end
def Ck:ζ
 |.str a,.str b=>Ì (ϹP b.length<=H6) (Ý (Æ ϩm)) Í
 |_,_=>Í
def PL:R2:=ž (∃i j,x=Æ i/\y=Æ j/\Ĕ ϭ3/\Q (Æ<|i++j) H)
theorem Fz:PIp X .Add PL:=BQ
set_option tactic.hygienic true in
theorem FP:δ PL Ck:=by
 ext x y d D F H f Q s R Y p;cases R with
 |str _=>
  cases Y with
  |str _=>
   delta Ck at p;dsimp only at p;split at p
   .rename_i h
    show(_,_,rfl,rfl,hR h,ϵg<|Æ _)
   show p.elim
  |_=>show False.elim p
 |_=>show False.elim p
theorem AQ(a b:Str):Ck (Æ a) (Æ b)=Ì (ϹP b.length<=H6) (Ý (Æ ϩm)) Í:=rfl
def ljK(r t:ď):ď:=r.bind λx=>match x.er with
 |.str s=>t.bind λy=>gLj s y.er
 |_=>Í
def N_(r t:ď):ď:=r.bind λx=>match x.er with
 |.str s=>Ì ϲT (t.bind λy=>HG s y.er) Í
 |_=>Í
theorem Wh:eLj fa fb ρ=ljK ϻQ ϻR:=rfl
theorem QM:NP fa fb ρ=N_ ϻQ ϻR:=rfl
theorem V1{i:Int}(h:ϯb):ljK (Ý<|Æ s) (Ý<|Ä i)=Ý (Æ<|Txt.ljust s i):=by
 change gLj s (Ä i)=_;delta gLj;dsimp only;rw[Ÿ]
theorem QH(h:ϲT)(H:å (t.length==0)):N_ (Ý<|Æ s) (Ý<|Æ t)=ψ (Î (Txt.split s t) PyData.str):=by
 change(Ì ϲT (HG s (Æ t)) Í)=_;rw[Ÿ];delta HG;dsimp only;rw[ϱh]
end L3
namespace L3
open PySem L2 PySem.Spec PyProof.Rows
def F2(h:Op)(e:Ix):Prop:=∃o v,h.get? e=Ü/\o.data=Ŝ v/\v[2]?=Â ù
section
variable{A:Is}{s:Db}{B:Op}{env:PySem.Env}{L e:Ix}{cls a0:Do}
theorem LH(D:A.frames=Â ϲX)(q:ϦG ϲX)(F:ϺI)(i:Ϫq=Ü)(I:϶f s.heap)(J:ϮP)(c:o.data=Ŝ v)(C:1<v.size)(K:v[0]?=Â a0)(f:v[2]?=Â ù)(k:∀g,ϑI ϲX e o.cls a0 ϧU s.heap g->F2 g e->ϵb ((ϰP g))):
  wpAny M A (do
   let a <-frameOf env
   let pl <-entryPlaceOf L nx
   let b <-EntryCells.newEntry hd a .none (rawInt L) .none pl
   setField (.ref e) 1 b) Q E s:=by
 let ne:e∉ύL ϲX (·.frame):=λm=>by let(_,u,U,n):=q.mem m;rw[i]at U;cases U;show n v c
 apply Sc<|wpAny_frameOf_fun D q F λg1 x=>Sc<|wpAny_entryPlaceOf λpl P=>?_;delta EntryCells.newEntry newFields;apply Sc<|K81 ?_<|P.sizeOk5 _ _ _ _ _;generalize t:({cls:=Ĳ "traceback",dict:=none,data:=Ŝ (ϸO ([hd,Å L,ù,ϧU,ù]++(Ì pl.isEmpty (ŗ 6 Value.none) pl)))}:Obj)=T;let e1:g1.get? e=Ü:=by rw[x.2.1 e ne];show i
 let j:϶f g1:=λb u H=>Ù (x.2.1 b λm=>by rw[(q.mem m).1]at H;cases H) (I b u H)
 let l:=K9l (h:=g1) T e1;apply ϛ5<|k _ ?_ ?_
 all_goals have te:g1.objs.size≠e:=Zcq<|Zs e1
 all_goals have d:=Obj.data_mapFields c ϬC
 all_goals have G:=K7v (όi ϬC) l<|Obj.isFreed_of_fields d
 .let t3:(ϔN<|όi ϬC).get? g1.objs.size=some T:=Ù (϶M te.symm) (K9N g1 (by rw[<-t];rfl))
  let p:∀b u,Ϻc->g1.get? b=Ė->(ϔN<|όi ϬC).get? b=Ė:=λb u H U=>Ù (϶M H.symm) (Ϭc U)
  let r:∀b u,ņ=Ė->(∀w,u.data≠Ŝ w)->Ϻc:=λb u U n z=>by subst z;rw[i]at U;cases U;show n v c
  apply(λb u H=>Ϛ7<|j b u H,q.of_keeps (ύz ?_),?_,ύz ?_)
  .let(S,y):=x.2.2 b u U
   show(_,ϙK,rfl)
  .apply(_,_,g1.objs.size,T,_,G,(Obj.cls_mapFields _ _,?_),d,by simp[C],j.fresh,te,t3,by rw[<-t],?_)
   .rw[Zce Õ]
    show K
   simp
  let(S,y):=x.2.2 b u U;show(S,ϙK)
 apply(_,_,G,d,?_);rw[Zce Õ];show f
theorem F2.keep(x:F2 h e)(k:g.get? e=h.get? e):F2 g e:=by let(o,v,y1,y2,y3):=x;show(o,v,k.trans y1,y2,y3)
theorem T8(b:A.frames=Â ϲX)(c:ϦG ϲX)(l:ϺI)(q:Ϫq=Ü)(I:϶f s.heap)(J:ϮP)(a:o.data=Ŝ v)(C:v[1]?=Â ù)(K:v[0]?=Â a0)(f:v[2]?=Â ù)(k:∀g,ϑI ϲX e o.cls a0 ϧU s.heap g->F2 g e->ϵb ((ϰP g))):ϴx (noteFrame (Å e) env):=by
 delta noteFrame;simp only[l];apply Sc<|K8e q a C ?_;rw[P3 Õ];show LH b c l q I J a ώx K f k
theorem Mc(q:A.frames=Â ϲX)(j:ϦG ϲX)(l:ϺI)(tr:s.heap.TracedW B e cls a0)(I:϶f s.heap)(J:ϮP)(c:όH e)(k:∀g,ϑI ϲX e cls a0 ϧU s.heap g->F2 g e->ϵb ((ϰP g))):ϴx (noteFrame (Å e) env):=by
 obtain⟨o,v,T,N,w,X,⟨m,p⟩,a,i,y,C,d,f,x⟩:=tr;subst m;let(O,V,y1,y2,y3):=c;rw[X]at y1;cases y1;rw[a]at y2;cases y2;delta noteFrame;simp only[l];apply Sc<|K8e X a i ?_;rw[Os (Ø:ě ώQ)];apply Sc<|K8e d f x ?_;rw[P3 (ϰy rawInt:¬(ě<|Value.none==ϧU))];apply Sc<|wpAny_setField d f (Array.getElem?_eq_some_iff.mp x).1 ?_;let t:∀b,Ϧe->ύ8 Value.none b=ņ:=λb h=>϶M h.symm;let r:∀b u,ņ=Ė->(∀z,u.data≠Ŝ z)->Ϧe:=ώf (n w f)
 apply LH q (j.of_keeps (ύz ⟨u,ϖB,rfl⟩)) l (Ù ϯR X) (λb u h=>by
  rw[ώt]
  show I b u h) J a (Array.getElem?_eq_some_iff.mp i).1 p y3 λg H G=>?_
 let(Z,D,F,K):=H;show k g ⟨Z,D,F,ύz (K b u ϖB n)⟩ G
theorem E6{L:Do}(q:϶f s.heap)(m:ϦG l)(tr:ϗa L)(c:όH e)(k:∀g,϶f g->g.FunFrames B l->g.TracedW B e cls a0->ϦH->F2 g e->ϵb ((ϰP g))):ϴx (Ϥx<|Å e):=by
 let(o,v,T,N,w,a,p,i,j,y,C,d,x,X):=tr;let sz:3<w.size:=ϕX;let t:∀b,Ϧe->ύ8 (ϴt (none:Ú Ix) Value.none λf=>rawInt f) b=ņ:=λb h=>϶M h.symm;let r:∀b u,ņ=Ė->(∀z,u.data≠Ŝ z)->Ϧe:=ώf (n w x)
 delta setFlight;apply Sc<|K8e a i j ?_;rw[Os (Ø:ě ώQ)];apply ϔJ<|ϓ9 m.of_keeps<|c.keep ϯR
 .rw[ώt]
  show q b u h
 show(o,v,T,_,_,ϧx ϯR,p,i,j,y,C,K7v _ d<|Obj.isFreed_of_fields ϭk,ϭk,ϰy sz)
def NV(B:Op)(l:À PySem.Env)(e:Ix)(cls a0:Do)(h:Op):Prop:=Ϫk l e cls a0 h/\F2 h e
theorem SE(b:A.frames=Â ϲX)(q:ϺI)(f:NV B ϲX e cls a0 s.heap)(k:∀g,NV B out e cls a0 g->ϦH->ϵb ((ϰP g))):ϴx (ώP<|Å e):=by
 obtain⟨⟨j,G,l,f4⟩,c⟩:=f;delta leaving;apply Sc<|Mc b l q f4 j G c λg h K=>?_;let(Z,z,a,d):=h;apply E6 (s:=(ϰP g)) Z z a K Ϙi;let(_,_,y6):=y2;show ϛp<|Heap.UpToSlots.trans d y4
theorem Mu(b:A.frames=Â ϲX)(q:ϦG ϲX)(l:ϺI)(a:Ϫq=Ü)(I:϶f s.heap)(J:ϮP)(c:o.data=Ŝ v)(C:v[1]?=Â ù)(d:v[0]?=Â a0)(f:v[2]?=Â ù)(k:∀g,NV B out e o.cls a0 g->ϦH->ϵb ((ϰP g))):ϴx (ώP<|Å e):=by
 delta leaving;apply Sc<|T8 b q l a I J c C d f λg h K=>?_;let(Z,z,i,j):=h;apply E6 (s:=(ϰP g)) Z z i K Ϙi;let(_,_,y6):=y2;show ϛq<|Heap.UpToSlots.trans j y4
end
def CXC(P:Ev)(w:Fk):CXT:=λouter H s E e S=>∃(a:Ix)(cls a0:Do)(B:Op)(h:Hp),
 e=Å a/\ύW (NV B outer a cls a0 S.heap) ((Ϻj (ϧd=Ü) ύe (ϲc (h b)\/ϲc ņ)<|ϻv=Ü)/\E cls none h)
def LvC(X:Cx)(E:XK):Prop:=X.stack=ϱD/\X.env.frame=Â X.env.locals/\X.ex=[]/\
 ∀(e:Do)(s:Db),ē (Ϗp e) (λ_ S=>Ϫf X.outer X.H₀ X.s₀ E e S) (λa S=>Ϫf X.outer X.H₀ X.s₀ E a S) s->X.xe e s
theorem LvC.of{P:Ev}{w:Fk}{K:Ch}{m:ł}{base:Op}{N:À Str}{qual:Str}{scope:Scope}{f:Ix}{cd:Do}{A:Is}{outer:À PySem.Env}{s:Db}{H:Hp}{E:XK}:
  LvC (ϩK ϓP cd A outer s H E) E:=ϖY
section
variable{M:Mx}{X:Cx}{s s':Db}{np cpos pos p2:Pos}
theorem LvC.pass(L:LvC X E):ϥq Ϫf E:=λp r H s e g I x=>by
 let(S,h,hex,d):=L;let(A,cls,a0,B,a,rfl,os,bare,un,O,l,C,j):=x;let J:ų p r a g:=ϮO O bare (λb z=>Đ z Ø);apply ύn;rw[S]at l;apply SE Ϧw h l λi f up=>?_;let c:Ϻj (g.heap.get? b=Ü) ϳ0 (ϲc (a b)\/ϲc ϶Q) (ϻv=Ü):=λb o q n hc=>C b o q n<|hc.imp_right λz=>by
  cases y:X.s₀.heap.get? b with
  |none=>show ϓN
  |some u=>
   let(t,Q):=ϺT u y (ϲi hex);rw[Q];simp
 let(U,k,m):=qU J S h hex up f.1.1 c;show(A,cls,a0,B,a,rfl,J.os,bare,U,k,f,m,j)
theorem LvC.made(L:LvC X E)(I:ą){c:Op}{e C:Ix}{args:À Do}(x:ϗA (Å C) args)(j:E (Å C) none H):X.xe (Å e) Ϯc:=by
 let(S,f,hex,d):=L;apply ύn;let N:∀env∈ϱD,∀b,env.frame=ż->b∈Zm ϱD:=λenv he b a=>ϭw ⟨env,he,a⟩;let fr:=I.stack;rw[S]at fr;let(tt,he,T,g):=x.there;let t:(Ϻs<|Zm ϱD).StaysIn s.heap:=ώC;let F:=ώX N;apply Mu (s:=Ϯc) (B:=Ϻs<|Zm ϱD) Ϧw (F.of_keeps λb o a _=>⟨o,ϙm a,rfl⟩) f he
  (λb o a=>ϙm<|t b o a) ?_ rfl rfl rfl rfl λi l up=>?_
 .cases hq:(Ϻs<|Zm ϱD).get? e with|none=>rfl|some o'=>have:=t e o' hq;rw[x.new]at this;cases this
 let u:Ϗ6:=Ę (Ϗq x.keeps) up;let(U,k,m):=ϐ6 l.1.1 ύ7;show(e,_,_,_,H,rfl,I.os,I.bare,U,k,l,m,j)
theorem kH(L:LvC X M.E)(hc:Ź)(hg:ϰY)(m:M.mg x=Â (Å C))(k:ϩ4 M.K)(i:Ŭ)(a:Û (à [μ (Æ t) p2]=ϰK (ϲY (μ (Æ t) p2)) (à []))):
  Λ (ϩa (Â<|Χ (î np) [μ (Æ t) p2] cpos) none pos) (gk x):=λr d p s P H D I q=>by
 let(F,ρ,U,S,V,e1,g):=q;rw[m]at e1;cases e1;let E:=ϙH;rw[<-r]at k;let(R,N,y1,y2,y3,y4,y5,y6,y7,y8,y9,B,G,J,K,O,mN,c,n,h,T):=ϑ7 k;apply ϔf PySem.F.excBase_ValueError Õ PySem.F.excBase_ValueError (mN:=mN) ϩF ϱW (by rw[a];rfl) h (ϖK ((ϲx ?_)) i)
 let A:ϰI [μ (Æ t) p2] _:=ϷV jQ a;let w:=A cpos p s P H (λv b=>b=H/\Ĕ v.length) I (ϲx (ϱF (Ĕ 1)));rw[a]at w⊢;apply Ϫa<|Ϙz ϧO;let(v,Q,f,u,rfl,l):=Z;show(rfl,ϗV,f.bk _ _ c,n.keeps f.bk,ϑ8,ϘW)
end
end L3
namespace L3
open PySem L2 PySem.Spec PyProof.Rows Builtin
theorem yq:entryFor table "proto.unchain"=Â Builtin.«proto.unchain»:=entryFor_of_tree (by kernel_rfl)
section
variable{A:Is}{s:Db}
theorem D8{R:Result->Ô Db}(c:όH ea)(h:R (ϫR ù) s):ϹV ϴz A (ŋ "proto.unchain" (ϴ1 [Å e,Å ea,Å ea,í false])) R s:=by
 let(o,v,y1,y2,y3):=c;apply codeAny_builtin yq ?_;delta Builtin.«proto.unchain»;apply Sc<|K8e y1 y2 y3 ?_;rw[Os ϵC];show Zr h
theorem BH(a:A.handled=Â (Å ea))(ne:ea≠e)(c:όH ea)(he:Ϫq=Ü)(d:o.data=Ŝ v)(H:2<v.size)(h:E (Å e) (ϰP (s.heap.update e (όi (·.setIfInBounds 2 (Å ea)))))):ϰi (raiseNew (Å e):Sem α) Q E s:=by
 delta raiseNew;apply ϳJ wpAny_handled;rw[a];let N:ě (ϫF ea !=Value.ref e):=by rw[bne_iff_ne];exactλz=>ne<|Value.ref.inj z
 simp only[N,K84];apply Ϲh<|wpAny_runValue<|D8 c ?_;show Sc<|wpAny_setField (x:=Å ea) he d H<|wpAny_throw h
end
section
variable{A:Is}
variable{bs bm:À Do}
theorem C0(f:bm.contains (Ĳ "BaseException")=true)(i:A.handled=Â (Å ea))(hc:∀S:Db,ϰi c (λv k=>v=ù/\k=S) E S)(h:wpAny ϴz A x (λv S=>∃e t,v=Å e/\ea≠e/\S.heap.get? C=Â (excClassObj nm q C N bs bm hdct sn sub ab col dd k0 k1 k2 k3 k5 newId)/\C≠e/\F2 S.heap ea/\
   S.heap.get? e=Â ((Ϧo (Å C) (Ŝ #[Å t,ù,ù,ù,í false,ù])))/\
   ∀g:Op,(∀b,Ϻc->g.get? b=ϧd)->g.get? e=Â ((Ϧo (Å C) (Ŝ #[Å t,ù,Å ea,ù,í true,ù])))->E (Å e) {S with heap:=g}) E s):
  ϰi (raiseStmt env ö ã) Q E s:=by
 let B:Ϩy (ϯi::bm) (Ĳ "BaseException")=true:=by rw[Zbz,f,Bool.or_true]
 delta raiseStmt;apply Sc<|K8m h (λv S a=>?_) ϧO;let(e,t,rfl,ne,H,n,G,he,j):=a;apply Ϲh<|K8m (hc S) (λV l Z=>?_) ϧO;let(rfl,rfl):=Z;apply ϳJ Zr;let(p,g,d,tk,os):=l;apply Sc<|wpAny_holding (α:=Do) ?_;delta excFromValue
 repeat (first|with_reducible apply K8F he ?_|with_reducible apply K8F H ?_|(with_reducible apply ϗW;rw[B])|wp_step)
 let z:=ώs 3 Value.none he;let K:=ώs 4 (Value.bool true) z;let m:=ώs 2 (ϫF ea) K;apply BH i ne (G.keep ?_) K rfl (Õ:2<6)<|j _ (λb nb=>?_) m
 .rw[϶M ne.symm,϶M ne.symm]
 rw[϶M nb.symm,϶M nb.symm,϶M nb.symm]
end
section
variable{M:Model}{A:Is}{E:Do->Ô Db}{s:Db}{B:Op}{env:PySem.Env}{out:À PySem.Env}{L e:Ix}{cls a0:Do}
theorem Vo{F:Do}(q:϶f s.heap)(j:ϦG l)(tr:ϗa F)(k:∀g,϶f g->g.FunFrames B l->g.TracedAtW B e cls a0 ϧU->ϦH->ϵb ((ϰP g))):ϴx (setFlight (Å e)<|some L):=by
 let(o,v,T,N,w,a,m,c,i,y,C,d,x,X):=tr;let sz:3<w.size:=ϕX;let t:∀b,Ϧe->ύ8 (ϴt (some L) Value.none λf=>rawInt f) b=ņ:=λb h=>϶M h.symm;let r:∀b u,ņ=Ė->(∀z,u.data≠Ŝ z)->Ϧe:=ώf (n w x)
 delta setFlight;apply Sc<|K8e a c i ?_;rw[Os (Ø:ě ώQ)];apply ϔJ<|ϓ9 j.of_keeps
 .rw[ώt]
  show q b u h
 show(o,v,T,_,_,ϧx ϯR,m,c,i,y,C,K7v _ d<|Obj.isFreed_of_fields ϭk,ϭk,ϰy sz)
theorem leaveH(l:ϺI)(c:Heap.HeldW B ϲX e cls a0 L s.heap)(k:∀g,Ϫk out e cls a0 g->ϦH->ϵb ((ϰP g))):ϴx (ώP<|Å e):=by
 delta leaving;apply Sc<|ϛj<|wpAny_landsW c λg f up=>?_;obtain⟨K,a,⟨_,_,k3⟩,b⟩:=f;show k g ⟨K,a,k3,b⟩ up
theorem Xr(q:ϺI)(f:Ϫk ϲX e cls a0 s.heap)(k:∀g,Heap.HeldW B ϲX e cls a0 L g->ϦH->E (Å e) (ϰP g)):ϴx (PySem.passOn "try.no-clause-matches" (Å e) env:Sem Flow):=by
 let(j,G,l,f4):=f;let(o,v,T,N,w,x,X,a,i,y):=id f4;delta PySem.passOn;apply Sc<|K8e x a i ?_;rw[P3 (Ø:¬(ě<|Value.ref T==Value.none)),q]
 first
  |show ϔw
  |show Sc<|Zr ϔw
end
section
variable{X:Cx}{E0:XK}{s:Db}
theorem Lv.madeX(L:Lv X E0)(I:ą)(keep:∀b o,ϰq ņ Ü h'.get?)(new:Ϫq=none)(he:όy=Â ((Ϧo (Å C) (Ŝ #[Å t,ù,v2,ù,v3,v4]))))(j:E0 (Å C) none H):
  ē (Ϗp<|Å e) (λ_ a=>ϬN E0 (Å e) a) (λE a=>ϬN E0 E a) ((ϰP h')):=by
 let(S,f,hex,d):=L;let h:∀env∈ϱD,∀b,env.frame=ż->b∈Zm ϱD:=λenv he b B=>ϭw ⟨env,he,B⟩;let fr:=I.stack;rw[S]at fr;let T:(Ϻs<|Zm ϱD).StaysIn s.heap:=ώC;let c:=ώX h;apply wpAny_leaving_firstW (base:=Ϻs<|Zm ϱD) (s:=(ϰP h')) (a0:=Å t) Ϧw (c.of_keeps λb o B _=>⟨o,keep b o B,rfl⟩) f he
  (λb o B=>keep b o<|T b o B) ?_ rfl rfl rfl λi lw=>?_
 .cases hq:(Ϻs<|Zm ϱD).get? e with|none=>rfl|some o'=>have:=T e o' hq;rw[new]at this;cases this
 obtain⟨k,⟨_,_,K⟩,k3,g⟩:=lw;let u:Ϗ6:=Ę (Ϗq keep) g;let(U,l,m):=ϐ6 k ύ7;apply(e,_,_,_,H,rfl,I.os,I.bare,U,l,(k,?_,K,k3),m,j);cases hq:(Ϻs<|Zm ϱD).get? e with|none=>rfl|some o'=>have:=T e o' hq;rw[new]at this;cases this
end
section
variable{X:Cx}{s:Db}{oe:Obj}{np cpos pos p2 p5:Pos}
theorem pinned(I:Ĺ (ϴI oe) H s):όm ea=Â oe:=(I.pin (ea,oe) Uf).1
theorem SR(I:Ĺ (ϴI oe) H s)(hv:oe.data=Ŝ v)(F:v[2]?=Â ù)(hg:ϰY)(M:ϹZ=Â (Å C))(U:ϩ4 X.K)(P:å (x==Ϸ3))
  (S:à [μ (Æ t) p2]=ϰK (ϲY (μ (Æ t) p2)) (à []))
  (k:∀m:Db,Ĺ (ϴI oe) H m->∀(e tt:Ix)(g:Op),(∀b o,ϰq (m.heap.get? b) Ü g.get?)->m.heap.get? e=none->g.get? e=Â ((Ϧo (Å C) (Ŝ #[Å tt,ù,Å ea,ù,í true,ù])))->EE (Å e) {m with heap:=g}):
  ϲz ϰj (X.A.mark<|Â<|Å ea) (exec (ϩa (Â<|Χ (î np) [μ (Æ t) p2] cpos) (Â<|ϫi ù j2 p5) pos) X.env) Q EE s:=by
 let(mr,N,y1,y2,y3,y4,y5,y6,y7,y8,y9,z0,z1,z2,z3,z5,mN,J,L,r,T):=ϑ7 U;rw[arm_exec_Raise];rw[arm_evalOpt_some,arm_evalOpt_some];dsimp only[Option.map];apply Sc<|K7o<|C0 (C:=C) (nm:=y1) (q:=y2) (N:=N) (bs:=y3) (bm:=mr) (hdct:=y4) (sn:=y5) (sub:=y6) (ab:=y7) (col:=y8) (dd:=y9) (k0:=z0) (k1:=z1) (k2:=z2) (k3:=z3) (k5:=z5) (newId:=vN) ϩF rfl ?_ ?_
 .intro s1
  show Sc<|Zr<|Sc<|K7o<|Zr ϶0
 apply Sc<|K8m (wpAny_Call_ofName<|lM (X:=ϴI oe) I hg M ?_ P) (λu s3 n=>Sc<|K7o<|Zr n) ϧO;let O:PA (ϴI oe) [μ (Æ t) p2] _:=ϷV jQ S;let hw:=O cpos F5 s σ H (λV D=>D=H/\Ĕ V.length) I (ϲx (ϱF (Ĕ 1)));let pl:ϰv (Ϸ1<|à [μ (Æ t) p2]):=by rw[S];rfl
 delta callWith;let W:ϲz ϰj (X.A.mark<|Â<|Å ea) (evalArgs (Å C) true (Ϸ1<|à [μ (Æ t) p2]) []) (λa i=>∃V c,Ĺ (ϴI oe) c i/\İ V a.pos/\a.kw=[]/\c=H/\Ĕ V.length) EE s:=by
  let w:ϲz ϰj (X.A.mark<|Â<|Å ea) _ _ _ s:=hw;rw[S];rw[show starEach [μ (Æ t) p2] (ϴI oe).env=ϰK (ϲY (μ (Æ t) p2)) (à []) from S]at w;apply Ϫa<|K8m w (λus i Z=>?_) λ_ _ y=>y.elim;let(V,c,f,R,n,G):=Z;show(V,c,f,R,rfl,n,G)
 apply Ϲh<|K8m W (λa i Z=>ϳJ K7o) ϧO;let(V,c,f,R,K,rfl,Y):=Z;let(apos,A):=a;obtain rfl:A=[]:=K;let h:=f.bk _ _ J;let p:=L.keeps f.bk;let E:=ϑ8;let l:Ĕ apos.length:=by rw[<-R.length];show Y
 let pn:=pinned f;let(hp,g,d,tk,os):=i;simp -iota only[pl];apply Sc<|wpAny_keeperOf_exc h ?_;apply Sc<|wpAny_call_exc_subU (hrest:=l) PySem.F.excBase_ValueError Õ PySem.F.excBase_ValueError E h p r λh' e M=>Ϲh<|wpAny_point ϥY;let(tt,ht,_,_):=M.there;let ne:ea≠e:=λz=>by subst z;let:=M.new;rw[pn]at this;cases this
 let nC:C≠e:=λz=>by subst z;let:=M.new;rw[h]at this;cases this
 apply(e,tt,rfl,ne,M.keeps _ _ h,nC,(oe,v,M.keeps _ _ pn,hv,F),ht,λg2 k1 k2=>k _ f e tt g2 (λb o B=>?_) M.new k2);rw[k1 b λz=>by subst z;let:=M.new;rw[B]at this;cases this];show M.keeps b o B
end
section
variable{X:Cx}{E0 E':XK}{np np2 cpos pos p2 p5 hpos:Pos}
theorem Oj{K a:Do->Ô Db}(h:notedBy M A' env (ϭF K) e s)(k:∀e s,K e s->a e s):notedBy M A' env (ϭF a) e s:=
 let c:∀e s,ϭF K e s->ϭF a e s:=λe s y=>K8m y (λ_ w z=>k _ w z) λ_ _ z=>ϱR z
 K8m h (λ_ w z=>c _ w z) λ_ _ z=>c _ _ z
theorem R1(L:Lv X E0)(I:Ĺ X H1 s1)(cx:Ϫf X.stack H1 s1 E' ev s')
  (hD:ϩ3 X.K) (hgD:Gl X dx) (hmD:X.mg dx=Â (Å D)) (hd:å (dx==Ϸ3))
  (hg:ϰY) (hm:ϹZ=Â (Å C2)) (hk:Ϫi X.K C2) (hdx:å (x==Ϸ3))
  (hs:à [μ (Æ t) p2]=ϰK (ϲY (μ (Æ t) p2)) (à []))
  (h:∀cls a,E' cls none a->∃C b,cls=Å C/\ϳg X.K (Å C) (Å D)=ż/\(ϻX->E0 (Å C2) none a)/\(b=false->E0 (Å C) none a)):
  ē ϘA (λ_ R=>ē (Ϥx ev) (λ_ T=>ē (ϒn ev [Ϸ7 (Â ϧk) none [ϩa (Â<|Χ (î np2) [μ (Æ t) p2] cpos) (Â<|ϫi ù j2 p5) pos] hpos]) Q X.xe T) X.xe R) X.xe s':=by
 let(S,f,hex,N):=id L;let(E,cls,a0,B,a,rfl,os,bare,un,M,flc,c,hE'):=cx;let(C,b,rfl,U,hT,hF):=h cls a hE';let(Y,f2):=flc;let J:Ĺ X a s':=ϮO M bare (λb z=>Đ z Ø);let nf:∀b∈ϳ0,∀o,Ϥv=Ü->∀W,o.data≠Ŝ W:=ϔq
 let later:∀H,B.StaysIn H->ϙL->Ĺ X a ϦS:=λH st up=>by let(u5,k5):=KD un M st up c nf J.stkFree;show ϘL ϦS (λb z=>Đ z Ø)
 let(oe,W,w,hoc,hod,_):=Y.first;let A:E∉ϳ0:=λm=>nf E m oe w W hod;let eaN:a E=none:=by
  cases z:a E with
  |none=>rfl
  |some u=>
   let q:=c E oe w A (È<|ϲi z);rw[Y.2.1]at q;cases q
 let eaL:E≠X.env.locals:=λz=>A (by rw[S,mK f,z];show Uf);let eaO:E∉X.fs:=λm=>A (by rw[S,mK f];show Ą m);let mk:∀H o v,H.get? E=Ü->o.data=Ŝ v->Ĺ X a ϦS->Ĺ (ϨS E o) a ϦS:=λH o v q1 q2 Z=>ϔT;let d:Ϻj (Ϥv=Ü) ϳ0 (ϲc (a b)\/ϲc ϶Q) (ϻv=Ü):=λb o q n hc=>c b o q n<|hc.imp_right λz=>by
  cases y:X.s₀.heap.get? b with
  |none=>show ϓN
  |some u=>
   let(o',q'):=ϺT u y (ϲi hex);rw[q'];simp
 rw[S]at Y;let(g1,g2,g3,g4):=Y;apply Mc Ϧw g3 f g4 g1 g2 f2 λh4 n4 c4=>?_;let(z1,z2,z3,z4):=n4;apply E6 (s:=(ϧh h4)) z1 z2 z3 c4 λH y1 y2 y3 y4 y5=>?_;let V:ϙL:=Heap.UpToSlots.trans z4 y4;let Z:=later H y1 V;let l:Ϫk ϱD E (Å C) a0 H:=⟨y1,g2,y2,y3⟩;let(P,vs5,O,i,r,_):=l.first;let M5:=mk H P vs5 O r Z;apply ϔz;apply lM (X:=ϨS E P) M5 hgD hmD ?_ hd;apply IA (h:=H) (K:=X.K) Z.kIn hD U O i ?_;cases b with
 |false=>
  change ē (ϒn (Å E) []) Q X.xe _;apply wpAny_handleBy_nil<|Xr (s:=ϦS) f l λh6 held up6=>N _ _ ?_;apply leaveH (s:=(ϧh h6)) f held λh7 F up7=>?_;let up:ϐH h7:=Ę (V.trans up6) up7;let(u1,u2,u3):=qU J S f hex up F.1 d;show(E,_,_,B,a,rfl,J.os,bare,u1,u2,F,u3,hF rfl)
 |true=>
  apply codeAny_handlers_suite<|E6 (s:=ϦS) y1 y2 y3.at y5 λh6 w1 w2 w3 w4 w5=>?_;let I6:=later h6 w1<|V.trans w4;let(oe6,vs6,G,p,hv6):=w5;let M6:=mk h6 oe6 vs6 G p I6;apply ϯg<|SR M6 p hv6 hg hm hk hdx hs λs7 I7 e tt g k1 k2 k3=>?_;let J7:=vW I.ok.hd I.ok.frames I7;show Oj (ϛI<|ϛ6<|hT rfl) λe s z=>N e s z
end
def A7(f:Fs)(d p:À Str)(e:Str):Fs:=λa=>match f a with
 |.ok o=>϶C
 |.ex c=>Ì (Ϲ5 d.contains) (.ex e) (Ì (Ϲ5 p.contains) γ Í)
 |.bad=>Í
section
variable{M:Mx}{X:Cx}{np np2 cpos pos rpos p2 p5 hpos:Pos}{dn ps:À Str}
theorem Mp(L:Lv X M.E)(hb:∀(xe:Do->Ô Db)(w:XK),Passes Ϫf ϦZ w->DSs ϑJ ϦZ body f)
  (hD:ϩ3 M.K) (hgD:Gl X dx) (hmD:M.mg dx=Â (Å D)) (hg:ϰY) (hm:M.mg x=Â (Å C2)) (hk:Ϫi M.K C2)
  (Z:∀c,ϦI->∃C,ϸL=Â (Å C)/\ϳg M.K (Å C) (Å D)=ϱp) (hps:∀c,ϦJ->∃C,ϸL=Â (Å C)/\ϳg M.K (Å C) (Å D)=ϸl)
  (hd:ő (å<|dx==Ϸ3)) (hdx:Ŭ)
  (hs:Û (à [μ (Æ t) p2]=ϰK (ϲY (μ (Æ t) p2)) (à []))):
  Λ (.Try body [Ϸ7 (Â ϧk) none [ϩa (Â<|Χ (î np2) [μ (Æ t) p2] cpos) (Â<|ϫi ù j2 p5) rpos] hpos] [] [] pos) (A7 f dn ps x):=λR Y n s σ H m I q=>by
 let(y,O,F,S,P):=q;delta A7 at P;apply ϒo ?_;let post:∀w:XK,(∀c,f O=γ->∃V,ϸL=Â V/\∀od h,(∀a o,H a=Ü->a∉F->h a=Ü)->w V od h)->tS ϑJ X.N.length f m σ H:=λw hE=>by
  apply(y,O,F,S,?_);cases l:f O with
  |ok o=>
   rw[l]at P;let p:ϦR y H F m o:=P;change eK ϑJ X.N.length y H F m o;cases o<;>show p
  |ex c=>show hE c l
  |bad=>rw[l]at P;show P.elim
 let ex1:∀c,f O=γ->∃C b,ϸL=Â (Å C)/\ϳg M.K (Å C) (Å D)=ż/\∀h,(∀a o,H a=Ü->a∉F->h a=Ü)->(ϻX->M.E (Å C2) none h)/\(b=false->M.E (Å C) none h):=λc l=>by
  rw[l]at P;by_cases Q:ϦI
  .let(C,A,B):=Z c Q
   let p:ă F (ϦR y H F m) (Ì ϦI (.ex x)<|Ì ϦJ γ Í):=P;rw[Os Q]at p;let(V,e1,U):=p;rw[hm]at e1;cases e1;show(C,true,A,B,λh k=>⟨λ_=>U none h k,϶S⟩)
  .by_cases W:ϦJ
   .let(C,A,B):=hps c W
    let p:ă F (ϦR y H F m) (Ì ϦI (.ex x)<|Ì ϦJ γ Í):=P;rw[P3 Q,Os W]at p;let(V,e1,U):=p;rw[A]at e1;cases e1;show(C,false,A,B,λh k=>⟨϶S,λ_=>U none h k⟩)
   .let p:ă F (ϦR y H F m) (Ì ϦI (.ex x)<|Ì ϦJ γ Í):=P
    rw[P3 Q,P3 W]at p;show p.elim
 apply K8m (hb (λe G=>ē ϏI (λ_ K=>ē ϏO (λ_ N=>ē (ώZ [Ϸ7 (Â ϧk) none [ϩa (Â<|Χ (î np2) [μ (Æ t) p2] cpos) (Â<|ϫi ù j2 p5) rpos] hpos]) (Ϲ9 n m) X.xe N) X.xe K) X.xe G)
  (λcls od h=>∃c,f O=γ/\ϸL=Â cls/\∀a o,H a=Ü->a∉F->h a=Ü) (λpins2 σ2 h s2 e s3 I2 cx=>?_) R Y n s σ H m (KH I) (post _ λc l=>?_)) (λfl s1 z=>?_) Ϸc
 .apply R1 L (lZ I2) cx (ϓY hD) hgD (ϒI hmD) hd hg (ϒI hm) (ϓY hk) hdx hs λcls i hz=>?_
  let(c,l,hc,T):=hz;let(C,b,A,B,a3):=ex1 c l;rw[A]at hc;cases hc;show(C,b,rfl,by rw[R];show B,(a3 i T).1,(a3 i T).2)
 .let(C,b,A,_,_):=ex1 c l
  show(Å C,A,λod h T=>⟨c,l,A,T⟩)
 .cases fl with|next=>let(g,i,J,d):=z;show K8W ⟨g,i,lZ J,d⟩|brk=>let(g,i,J,d):=z;show(g,i,lZ J,d)|cont=>let(g,i,J,d):=z;show(g,i,lZ J,d)|ret u=>let(v,g,i,J,r,d):=z;show(v,g,i,lZ J,r,d)
end
end L3
namespace L3
open PySem L2 PySem.Spec PyProof.Rows
theorem Pj{P:Ev}{w:Fk}{K:Ch}{g:ł}{base:Op}{x qual:Str}{T:No}{f:Ix}{fd:Gc}{N b:À Str}{k np n:Nat}{body:Fs}{fn:Fn}(I:ϐN)(M:b.length=np)(J:ϓH)(F:ϦD)(S:Fq N b ϥM)
  (h:∀(c:Do)(A:Is)(outer:À PySem.Env)(s:Db)(H:Hp)(E:XK),ϩC->ώ1 (ϬH ϓP g)):
  ϶j g base ϓP (k+1) f fd b (ϻT g fn):=by
 subst I M J;let O:Ϗ4:=by
  let:=Ŧ S.pre;rw[Zk]at this;lia
 let l:ύV:=by
  ext e H Q E ⟨F,D,sm,R,p⟩;by_cases L:ϦQ
  .rw[Ϩj]
   show L
  delta aZ at p;rw[P3 L]at p;show p.elim
 let(Z,Y,kV,doc,pm,an,c,ct,U,rfl,W,C):=F.ex;apply ϕD;let V:=l _ _ _ _ t;let(u,D,sm,R,p):=t;let d:ϦQ:=ϰ9 Ϩj V
 delta aZ at p;rw[Os d]at p;apply(_,ώN,u,ϑF,[],(sm,?_,K8w,ϰk,?_),Ķ ϧN)
 .unfold L2.start se
  rw[V,d];show qL _ R
 .unfold se
  change ϯW;rw[S5,I4,K8r,d];lia
 cases o with
 |nx ρ=>show λX i j G B T=>ϑG ⟨T.ff,ϹX (ϧq Ø),B.same,ϻ5 (Ϩk Ø z)⟩ ϑr ϰk
 |rt y=>exactλv i j fx sm' r T=>ϒX ⟨T.ff,ϹX (ϧq Ø),sm',ϻ5 (Ϩk Ø z)⟩ r (λa m=>ϐw ϶S id)
 |bk ρ=>show po.elim
 |ct ρ=>show po.elim
theorem dn1{M:Mx}(h:M.mg a=Â (Å C))(k:ϳg M.K (Å C) (Å D)=ż):∀c,Ϩy ([a]:À Str) c=true->∃C,ϸL=Â (Å C)/\ϳg M.K (Å C) (Å D)=ż:=λc hc=>by
 rw[Zbz,Zco]at hc;rcases hc with z|z
 .rw[beq_iff_eq.mp z]
  show(C,h,k)
 cases z
def trK(d p:À Str)(e:Str):ϰ2->ϰ2
 |.ok o=>϶C
 |.ex c=>Ì (Ϲ5 d.contains) (.ex e) (Ì (Ϲ5 p.contains) γ Í)
 |.bad=>Í
theorem Eg:A7 f dn ps en ρ=ϒb (f ρ):=by delta A7 trK;cases f ρ<;>rfl
theorem IU:ϒb ϶C=϶C:=rfl
theorem Ry:ϒb γ=Ì ϦI (.ex en) (Ì ϦJ γ Í):=rfl
end L3
namespace L3
open PySem PySem.W PyProof.Rows
def Y_{α:Type}(c:Ϧ7):ϸA->α|.ret a=>a|.ask i j k=>ϷE<|k ϵA
theorem mO(c:Ϧ7)(f:ϒ0):∀t:ϸA,ϷE ϒC=ϷE (f<|ϷE t)|.ret _=>rfl|.ask i j k=>mO c f<|k ϵA
theorem yC:(if true=true then a else b)=a:=ė
theorem GW:(if Ϫ2 then a else b)=b:=ϲy
section
variable(r:ĭ)
def kK(p:ϰd)(x:Nat):Int:=r ϓn
def cK(i j:Nat):Bool:=Ë<|r i<r j
def upK(p:ϰd)(k:Nat):Prop:=∀i j,ϵN->j<k->Ń i<=Ń j
def dnK(p:ϰd)(k:Nat):Prop:=∀i j,ϵN->j<k->Ń j<=Ń i
variable{r}
set_option tactic.hygienic true in
theorem v_(p:ϰd)(x:Nat):ϓn=ę (p[x]?) 0:=by
 delta Array.getD;split
 .rename_i h
  rw[Zbu h];rfl
 rename_i h;rw[Array.getElem?_eq_none<|Zbh h];rfl
theorem RJ(S:s<p.size)(D:d<=s)(k:Nat):kK r (bubble p s d) k=Ì (k=s-d) (Ń s) (Ì (s-d<k/\k<=s) (Ń (k-1)) (Ń k)):=by
 delta kK;simp only[v_];rw[getElem?_bubble S d D k];by_cases h:k=s-d
 .rw[Ÿ,Ÿ]
 rw[χ,χ];by_cases H:s-d<k/\k<=s
 .rw[ϱh,ϱh]
 rw[ϱz,ϱz]
theorem DC(J:j<=p.size)(k:Nat):kK r (ϲF i j) k=Ì (i<=k/\k<j) (Ń (i+j-1-k)) (Ń k):=by
 delta kK kas_rev;simp only[v_];rw[getElem?_mirror_all (i:=i) J k];by_cases h:i<=k/\k<j
 .rw[Ÿ,Ÿ]
 rw[χ,χ]
theorem xp(p:ϰd)(i j:Nat):(ϲF i j).size=p.size:=mirror_size _ _ _ _
theorem iB(p:ϰd)(i j:Nat):(ϲF i j).Perm p:=mirror_perm _ _ _ _
theorem Jf(h:ϥA n)(a:1<=n)(hle:Ń (n-1)<=Ń n):ϥA (n+1):=λi j H J=>by
 by_cases e:j<n
 .exact h i j H e
 let:j=n:=Á
 subst this;by_cases g:i=j
 .subst g;show ϷI
 show Int.le_trans (h i (j-1) Á Á) hle
theorem Bc(h:ϥB n)(a:1<=n)(hle:Ń n<=Ń (n-1)):ϥB (n+1):=λi j H J=>by
 by_cases e:j<n
 .exact h i j H e
 let:j=n:=Á
 subst this;by_cases g:i=j
 .subst g;show ϷI
 show Int.le_trans hle (h i (j-1) Á Á)
theorem AM(p:ϰd):∀(f n:Nat),1<=n->ϥA n->n<=ϊ (Ϥz n)/\ϊ (Ϥz n)<=n+f/\ϥA (ϊ<|Ϥz n):=by
 ext f
 induction f with
 |zero=>ext n H h;show(ß,ß,h)
 |succ f ih=>
  ext n H h;delta kas_asc Y_;dsimp only;by_cases hc:Ń n<Ń (n-1)
  .rw[ń (Ϧv=true) (Tl hc),yC]
   show(ß,Nat.le_add_right _ _,h)
  rw[ń (å Ϧv) (Pi hc),GW];let:=ih (n+1) Á (Jf h H Á);show(Á,Á,this.2.2)
theorem Uu(H:n<=p.size)(h:ϥB n):upK r (ϲF 0 n) n:=λi j I J=>by
 rw[DC H,DC H,Os ⟨Ν,Á⟩,Os ⟨Ν,J⟩];show ϩq Á Á
theorem Fd(H:1<=n)(N:n<=m)(M:m<=p.size)(h:ϥB n):ϔG (ϊ ϩ6).1 ((ϊ ϩ6).2.Perm p) (ϊ ϩ6).2:=by
 delta kas_tail3;rw[mO];let:=AM (r:=r) (ϲF 0 n) (m-n) n H<|Uu Á h;show(ϱG (1<=ϊ (kas_asc (ϲF 0 n) (m-n) n)),ϱG (ϊ (kas_asc (ϲF 0 n) (m-n) n)<=m),ϹG,this.2.2)
set_option tactic.hygienic true in
theorem xO(J:j<=p.size)(q:∀k,i<=k->k<j->Ń k=Ń (j-1))(k:Nat):kK r (ϲF i j) k=Ń k:=by
 rw[DC J];split
 .rename_i h
  rw[q k h.1 h.2,q (i+j-1-k) Á Á]
 rfl
structure DIn(r:ĭ)(p0 p:ϰd)(n q:Nat):Prop where
 perm:p.Perm p0
 dn:ϥB n
 qn:q+1<=n
 like:∀k,n-(q+1)<=k->k<n->Ń k=Ń (n-1)
theorem Pd(a:ϰd):∀(f:Nat)(p:ϰd)(n q:Nat),n+f<=a.size->DIn r a p n q->
  ∃P N Q,ϊ (ϸd n q)=(P,N,Q)/\n<=N/\N<=n+f/\DIn r a P N Q:=by
 ext f
 induction f with
 |zero=>ext p n q Z h;show(p,n,q,rfl,ß,ß,h)
 |succ f ih=>
  ext p n q Z h;let S:p.size=a.size:=h.perm.size_eq;delta kas_desc Y_;dsimp only;by_cases hc:Ń n<Ń (n-1)
  .rw[ń (Ϧv=true) (Tl hc),yC]
   let dn1:ϥB (n+1):=Bc h.dn (þ h.qn)<|Zdx hc
   split
   .let e:=xO (r:=r) (p:=p) (i:=n-(q+1)) (j:=n) Á h.like
    let(P,N,Q,e1,A,w,x):=ih (ϲF (n-(q+1)) n) (n+1) 0 Á ⟨Ę ϹG h.perm,ϕT dn1,Á,λk K b=>by
     let:k=n:=Á
     subst this;rfl⟩
    show(P,N,Q,e1,Á,Á,x)
   let(P,N,Q,e1,A,w,x):=ih p (n+1) 0 Á ⟨h.perm,dn1,Á,λk K b=>by
    let:k=n:=Á
    subst this;rfl⟩
   show(P,N,Q,e1,Á,Á,x)
  rw[ń (å Ϧv) (Pi hc),GW];delta Y_;dsimp only;by_cases d:Ń (n-1)<Ń n
  .rw[ń (Ϻk (ϴO<|n-1) (p.getD n 0)=true) (Tl d),yC]
   show(p,n,q,rfl,ß,Á,h)
  rw[ń (å (Ϻk (ϴO<|n-1) (p.getD n 0))) (Pi d),GW];let heq:Ń n=Ń (n-1):=Á
  let c:=h.qn;let(P,N,Q,e1,A,w,x):=ih p (n+1) (q+1) Á ⟨h.perm,Bc h.dn Á Á,Á,λk K b=>by
   rw[K8J];by_cases e:k=n
   .rw[e]
   rw[h.like k Á Á,heq]⟩
  show(P,N,Q,e1,Á,Á,x)
def Cnt(r:ĭ)(a:ϰd)(m:Nat)(x:Nat×ϰd):Prop:=ϔG x.1 (x.2.Perm a) x.2
theorem EV(a:n+1<=p.size)(h:ϥB (n+1)):ϐ8 (ϊ<|kas_descPart n p.size p):=by
 delta kas_descPart;rw[mO];let(P,N,Q,e1,A,w,x):=Pd (r:=r) p (p.size-(n+1)) p (n+1) 0 Á ⟨Ϩx,h,Á,λk K b=>by
  let:k=n:=Á
  subst this;rfl⟩
 rw[e1];let S:P.size=p.size:=x.perm.size_eq;change ϐ8 (ϊ<|Ì (Q > 0) (Ϛh Ϙj)<|Ϛh P)
 split
 .let e:=xO (r:=r) (p:=P) (i:=N-(Q+1)) (j:=N) Á x.like
  let t:=ϙs Ϙj Á Á (ñ xp) (ϕT x.dn);show(t.1,t.2.1,Ę t.2.2.1<|Ę ϹG x.perm,t.2.2.2)
 let t:=ϙs P Á Á Á x.dn;show(t.1,t.2.1,Ę t.2.2.1 x.perm,t.2.2.2)
theorem up1(p:ϰd):ϥA 1:=λi j H J=>by
 let:i=j:=Á
 subst this;show ϷI
theorem IT(p:ϰd):∀(f n:Nat),1<=n->ϊ (Ϥz n)<n+f->Ń (ϊ<|Ϥz n)<Ń (ϊ (Ϥz n)-1):=by
 ext f
 induction f with
 |zero=>ext n _ h;show ϵ6 (ϱG<|¬(n<n+0))
 |succ f ih=>
  ext n H h;delta kas_asc Y_ at h⊢;dsimp only at h⊢;by_cases hc:Ń n<Ń (n-1)
  .rw[ń (Ϧv=true) (Tl hc),yC]at h⊢
   show hc
  rw[ń (å Ϧv) (Pi hc),GW]at h⊢;show ih (n+1) Á Á
set_option tactic.hygienic true in
theorem Kq(a:1<=p.size):ϐ8 (ϊ<|kas_count p.size p):=by
 delta kas_count;rw[mO];let A:=AM (r:=r) p (p.size-1) 1 ß<|up1 p;let B:=ϛR ß;generalize ϊ (kas_asc p (p.size-1) 1)=n at A B
 split
 .exact(A.1,ϱG (n<=p.size),Ϩx,A.2.2)
 rename_i N;let E:n≠p.size:=λe=>N (ϵ1<|K8Q _);let L:=B Á
 split
 .unfold Y_
  dsimp only;by_cases hc:Ń 0<Ń (n-1)
  .rw[ń (Ϻk (ϴO 0) (ϴO<|n-1)=true) (Tl hc),yC]
   show(A.1,ϱG (n<=p.size),Ϩx,A.2.2)
  rw[ń (å (Ϻk (ϴO 0) (ϴO<|n-1))) (Pi hc),GW];let al:ϥP (Ń k=Ń (n-1)):=λk h=>by
   let b:=A.2.2 0 k Ν h;let Q:=A.2.2 k (n-1) Á Á;lia
  let e:=xO (r:=r) (p:=p) (i:=0) (j:=n) Á λk _ h=>al k h;let d:dnK r (ϲF 0 n) (n+1):=λi j H J=>by
   rw[e,e];by_cases q:j<n
   .rw[al i Á,al j q];show ϷI
   let:j=n:=Á
   subst this;by_cases Q:i=j
   .subst Q;show ϷI
   rw[al i Á];lia
  let t:=EV (r:=r) (p:=ϲF 0 n) (n:=n) (ñ xp) d;rw[xp]at t;show(t.1,t.2.1,Ę t.2.2.1 ϹG,t.2.2.2)
 let:n=1:=Á
 subst this;apply EV Á λi j H J=>?_;by_cases Q:i=j
 .subst Q;show ϷI
 let e1:i=0:=Á
 let g:j=1:=Á
 subst e1;subst g;show Zdx L
set_option tactic.hygienic true in
theorem HA(U:ϥA k):∀(f l q:Nat),q-l<=f->l<=q->q<=k->(∀i,i<l->Ń i<=Ń k)->(∀i,q<=i->i<k->Ń k<Ń i)->
  ϊ ϭq<=k/\(∀i,i<ϊ ϭq->Ń i<=Ń k)/\∀i,ϊ ϭq<=i->i<k->Ń k<Ń i:=by
 ext f
 induction f with
 |zero=>
  ext l q F H h a b;let:q=l:=Á
  subst this;show(h,a,b)
 |succ f ih=>
  ext l q F H h a b;delta kas_place;split
  .rename_i J
   let:q=l:=Á
   subst this;show(h,a,b)
  rename_i J;delta Y_;dsimp only;by_cases hc:Ń k<Ń ϤL
  .rw[ń (Ϻk (p.getD k 0) (ϴO ϤL)=true) (Tl hc),yC]
   apply ih l ϤL Á Á Á a λi c d=>?_;let:=U ϤL i c d;lia
  rw[ń (å (Ϻk (p.getD k 0) (ϴO ϤL))) (Pi hc),GW];apply ih (ϤL+1) q Á Á h (λi c=>?_) b;let:=U i ϤL Á Á;lia
theorem Ra(a:ϰd):∀(f:Nat)(p:ϰd)(k:Nat),k+f=a.size->p.Perm a->ϥA k->(ϊ Ϯn).Perm a/\upK r (ϊ Ϯn) a.size:=by
 ext f
 induction f with
 |zero=>
  ext p k g H U;let:k=a.size:=Á
  subst this;show(H,U)
 |succ f ih=>
  ext p k g H U;let S:p.size=a.size:=H.size_eq;delta kas_bin;rw[mO];let(b,w,A):=HA (r:=r) U k 0 k Á Ν ß (λi h=>ϵ6<|Zca _) (λi m e=>ϺQ Á);generalize ϊ (kas_place p k k 0 k)=l at b w A;apply ih (bubble p k<|k-l) (k+1) Á (Ę Ϗ7 H) λi j I J=>?_;let B:=λx=>RJ (r:=r) (p:=p) (s:=k) (d:=k-l) Á Á x;let L:k-(k-l)=l:=Á
  rw[L]at B;rw[B,B];by_cases c1:i=l
  .rw[Os c1]
   by_cases K:j=l
   .rw[Os K];show ϷI
   rw[P3 K,Os ⟨Á,Á⟩];show Zdx (A (j-1) Á Á)
  rw[P3 c1];by_cases K:j=l
  .rw[Os K,P3 Á]
   show w i Á
  rw[P3 K];by_cases c:l<i/\i<=k
  .rw[Os c,Os ⟨Á,Á⟩]
   show U (i-1) (j-1) Á Á
  rw[P3 c];by_cases n:l<j/\j<=k
  .rw[Os n]
   let q:=w i Á;let Q:=A (j-1) Á Á;lia
  rw[P3 n];show U i j I Á
set_option tactic.hygienic true in
theorem LU(n:Nat)(h:1<=n):(ϊ ϧu).Perm (϶8 ϰf)/\upK r (ϊ ϧu) n:=by
 delta kas_sort;rw[mO];let Z:(϶8 ϰf).size=n:=Ø
 let c:=Kq (r:=r) (p:=϶8 ϰf) Á;rw[Z]at c;generalize ϊ (kas_count n<|϶8 ϰf)=x at c;let(c1,K,k,C):=c;split
 .rename_i L
  let M:max x.1 1=x.1:=Á
  rw[M];let b:=Ra (r:=r) (϶8 ϰf) (n-x.1) x.2 x.1 Á k C;rw[Z]at b;show b
 let:x.1=n:=Á
 rw[this]at C;show(k,C)
end
def InT{α:Type}(n:Nat):Ô ϸA|.ret _=>True|.ask i j k=>i<n/\j<n/\∀b,ϸR<|k b
def mC{α:Type}(P:Ô α):Ô ϸA|.ret a=>P a|.ask _ _ k=>∀b,mC P<|k b
theorem mX{α β:Type}{f:ϒ0}{P:Ô α}:∀{t:ϸA},ϸR t->mC P t->(ϥW<|ϸR (f a))->ϸR ϒC|.ret a,_,e,h=>h a e|.ask i j k,q,e,h=>⟨q.1,Ϧa,λb=>mX (q.2.2 b) (e b) h⟩
theorem fZ{α β:Type}{f:ϒ0}{P:Ô α}{R:Ô β}:∀{t:ϸA},mC P t->(ϥW<|mC R (f a))->mC R ϒC|.ret a,e,h=>h a e|.ask i j k,e,h=>λb=>fZ (e b) h
theorem FU(hc:ϒu (∀C:Bool->Ô Db,C ϵA s->cmp i j C s)):∀t:ϸA,ϸR t->Q (ϷE t) s->t.kasWp cmp Q s|.ret _,_,h=>h|.ask i j k,q,h=>hc i j q.1 Ϧa _<|FU hc (k ϵA) (q.2.2 _) h
theorem yS(h:ϒu (ϵA=d i j)):∀t:ϸA,ϸR t->ϷE t=Y_ d t
 |.ret _,_=>rfl
 |.ask i j k,q=>by
  change ϷE (k ϵA)=Y_ d (k<|d i j);rw[h i j q.1 Ϧa];show yS h _<|q.2.2 _
def Bd(n:Nat)(p:ϰd):Prop:=0<n/\∀x∈p,x<n
theorem Bd.at(h:ϸM)(x:Nat):ϓn<n:=by
 rw[v_];cases e:p[x]? with|none=>show h.1|some y=>show h.2 y<|Array.mem_of_getElem? e
theorem Bd.perm(h:ϸM)(e:q.Perm p):Bd n q:=⟨h.1,λx H=>h.2 x<|e.mem_iff.mp H⟩
theorem Bd.rev(h:ϸM)(i j:Nat):Bd n (ϲF i j):=h.perm ϹG
variable{n:Nat}
theorem Jx(h:ϸM):∀f m,ϸR (Ϥz m):=by
 ext f
 induction f with
 |zero=>ext m;show trivial
 |succ f ih=>
  ext m;apply(ϸN,ϸN,ύE);cases b with|true=>show trivial|false=>show Ϻm
theorem j_:∀t:ϸA,mC (λ_=>True) t|.ret _=>trivial|.ask _ _ k=>λb=>j_<|k b
theorem MK:∀(f:Nat)(p:ϰd)(m q:Nat),ϸM->Ϻo (ϸd m q) x.1:=by
 ext f
 induction f with
 |zero=>ext p m q h;show(trivial,h)
 |succ f ih=>
  ext p m q h;let A:∀b,Ϻo (Ì ϻX (Ì (q > 0) (kas_desc f (ϲF (m-(q+1)) m) (m+1) 0)<|ϸd (m+1) 0)<|.ask (ϴO<|m-1) (p.getD m 0) λd=>Ì (d=true) ϯc (ϸd (m+1) (q+1))) x.1:=λb=>by
   cases b with
   |true=>
    rw[ė];split
    .exact ϸE _ ϯK
    show ϸE _ h
   |false=>
    rw[ϲy];let B:∀d,Ϻo (Ì (d=true) (ϯc:KasT (ϰd×όq))<|ϸd (m+1) (q+1)) x.1:=λd=>by
     cases d with|true=>show(trivial,h)|false=>show ϸE _ h
    show((ϸN,ϸN,λd=>(B d).1),λd=>(B d).2)
  show((ϸN,ϸN,λb=>(A b).1),λb=>(A b).2)
theorem vS(h:ϸM)(m k:Nat):Ϻo Ϗ8 x.2:=
 ⟨mX (Jx ϯK _ _) ϻU λ_ _=>trivial,fZ ϻU λ_ _=>ϯK⟩
theorem F6(h:ϸM)(m k:Nat):Ϻo (Ϲb p) x.2:=by
 let d:=MK (k-(m+1)) p (m+1) 0 h;apply(mX d.1 d.2 ϧ3,fZ d.2 ϧ3)
 .split
  .exact(Ϛi).1
  show(vS A _ _).1
 split
 .exact(Ϛi).2
 show(vS A _ _).2
theorem LG(h:ϸM)(k:Nat):Ϻo ϐy x.2:=by
 let A:∀m,Ϻo (Ì (ě (m==k)) (ϧP:KasT (Nat×ϰd))<|Ì (m > 1) (.ask (ϴO 0) (ϴO<|m-1) λc=>Ì ϱ5 ϧP (Ϲb (ϲF 0 m))) (Ϲb p)) x.2:=λm=>by
  split
  .exact(trivial,h)
  split
  .let B:∀c,Ϻo (Ì ϱ5 (ϧP:KasT (Nat×ϰd))<|Ϲb (ϲF 0 m)) x.2:=λc=>by
    cases c with|true=>show(trivial,h)|false=>show F6 ϯK _ _
   show((ϸN,ϸN,λb=>(B b).1),λb=>(B b).2)
  show F6 h _ _
 show(mX (Jx h _ _) ϻU λm _=>(A m).1,fZ ϻU λm _=>(A m).2)
theorem Kd(h:ϸM)(k:Nat):∀f l q,ϸR ϭq:=by
 ext f
 induction f with
 |zero=>ext l q;show trivial
 |succ f ih=>
  ext l q;delta kas_place;split
  .exact trivial
  apply(ϸN,ϸN,ύE);cases b with|true=>show ϸE|false=>show ϸE
theorem Tc:∀(f:Nat)(p:ϰd)(k:Nat),ϸM->ϸR Ϯn:=by
 ext f
 induction f with|zero=>ext p k h;show trivial|succ f ih=>ext p k h;show mX (Kd h _ _ _ _) ϻU λl _=>ϸE<|h.perm Ϗ7
theorem Eo(h:0<n):ϸR ϧu:=by
 let B:Bd n (϶8 ϰf):=⟨h,λx H=>Ϸ4⟩
 let c:=LG B n;apply mX c.1 c.2 ϧ3
 split
 .exact Tc _ _ _ A
 show trivial
def f_(c:Ϧ7)(n:Nat):Ó:=Ì (n<2) ϰf (ϷE ϧu).toList
theorem Ea(h:ϒu (ϵA=d i j)):f_ c n=f_ d n:=by
 delta f_;split
 .rfl
 rw[yS h _<|Eo Á]
theorem GC(r:ĭ)(n:Nat):(f_ Ϻk n).Perm ϰf:=by
 delta f_;split
 .exact Ϩx
 let:=(Ϛu Á).1;simpa using ϕ2
set_option tactic.hygienic true in
theorem Mm(r:ĭ)(n:Nat):(f_ Ϻk n).Pairwise λi j=>r i<=r j:=by
 delta f_;split
 .rename_i h
  let:n=0\/n=1:=Á
  rcases this with rfl|rfl
  .exact List.Pairwise.nil
  show Zcy _ _
 let h:=Ϛu Á;let Z:(ϊ ϧu).size=n:=ϲi h.1.size_eq
 rw[Zcu];ext i j hi a H;let J:j<n:=by rw[K8t,Z]at a;show a
 let q:=h.2 i j (Zcp H) J;delta kK at q;rw[v_,v_,Zbu Á,Zbu Á]at q;show q
theorem LX:∀{t:ϸA},mC P t->P (ϷE t)|.ret _,h=>h|.ask i j k,h=>show P (ϷE<|k ϵA)from LX (t:=k ϵA) (h ϵA)
section
variable{W:Ô ϰd}(cl:∀p q,W p->q.Perm p->W q) include cl

theorem HH:∀(f:Nat)(p:ϰd)(m q:Nat),W p->mC (λx=>W x.1) (ϸd m q):=by
 ext f
 induction f with
 |zero=>ext p m q h;show h
 |succ f ih=>
  ext p m q h b;cases b with
  |true=>
   dsimp only;rw[ė];split
   .exact ϸE _<|ϭ5 ϹG
   show ϸE _ h
  |false=>
   dsimp only;rw[ϲy];ext d;cases d with|true=>show h|false=>show ϸE _ h
theorem BG(h:W p)(m k:Nat):ϐP Ϗ8:=fZ ϻU λ_ _=>ϭ5 ϹG
theorem BX(h:W p)(m k:Nat):ϐP (Ϲb p):=by
 apply fZ (HH cl (k-(m+1)) p (m+1) 0 h) ϧ3
 split
 .exact BG cl (cl _ _ A ϹG) _ _
 show BG cl A _ _
theorem Gy(h:W p)(k:Nat):ϐP ϐy:=by
 apply fZ ϻU λm _=>?_
 split
 .exact h
 split
 .intro b
  cases b with|true=>show h|false=>show BX cl (ϭ5 ϹG) _ _
 show BX cl h _ _
theorem NX:∀(f:Nat)(p:ϰd)(k:Nat),W p->mC W Ϯn:=by
 ext f
 induction f with|zero=>ext p k h;show h|succ f ih=>ext p k h;show fZ ϻU λl _=>ϸE<|ϭ5 Ϗ7
theorem Ju(h:W (϶8 ϰf)):mC W ϧu:=by
 apply fZ (Gy cl h n) ϧ3
 split
 .exact NX cl _ _ _ A
 show A
end
theorem tR(c:Ϧ7)(n:Nat):(f_ c n).Perm ϰf:=by
 delta f_;split
 .exact Ϩx
 let:=LX (c:=c)<|Ju (n:=n) (W:=λp=>p.Perm<|϶8 ϰf) (λp q h e=>e.trans h) Ϩx;simpa using ϕ2
end L3
namespace L3
open PySem L2 PySem.Spec PyProof.Rows PySem.W
section
variable{A:Is}{s:Db}
theorem ND(g:ϧc=some (ϵ0 vs.toArray n))(m:vs.length<64)(K:ϒc->∀d:Op,(∀b o,ϷH->ϰq ņ Ü d.get?)->∀Q:SortKind->Ô Db,Q κ ϩ8->ϰi Ϙk Q E ϩ8)(hc:ώT vs.length (∀d:Op,(∀b o,ϷH->ϰq ņ Ü d.get?)->∀C:Bool->Ô Db,C ϵA ϩ8->kas_ask prog w A κ vs i j C ϩ8))(h:ϓs ù ((ϰP (ϘC ϩB)))):
  ϰi (Builtin.«list.sort» (ϴ1 [Å a])) P E s:=by
 rw[list_sort_plain];let u:Ϛe:=Zs g;apply Sc<|listItems_at g rfl ?_;apply Sc<|listUpdate_at g rfl ?_;obtain⟨e1,O⟩:∃e1,(s.heap.update a<|Obj.mapSeq λ_=>#[]).get? a=some (ϵ0 #[] e1):=ϴ7 (get?_update_seq g λ_=>#[])
 apply Sc<|seqEpoch_at O rfl ?_;apply ϳJ wpAny_newTuple;apply ϳJ wpAny_newList;apply wpAny_holding ?_;let H:(ϩz #[]<|ϵ0 #[] 0).get? a=some (ϵ0 #[] e1):=by
  rw[ϬL (ϱq size_push' Heap.size_update<|K9O<|K8f u),ϬL<|Ù Heap.size_update (K9O u)];show O
 let keep:∀b o,ϷH->ņ=Ü->(ϩz (#[]:ϴM)<|ϵ0 #[] 0).get? b=Ü:=λb o F q=>Ϭc (Ϭc<|Ù (ϔ1 F) q);change ϰi _ P E ((ϰP (ϩz #[] (ϵ0 #[] 0))));dsimp only;let hsz:vs.toArray.size=vs.length:=Ø
 let fin:=h;by_cases f:vs.toArray.size<2
 .rw[Os f,Os f]
  apply ϳJ Zr;rw[StateT.run_pure];apply ϳJ Zr;dsimp only;apply Ϙl;apply Sc (listUpdate_at H rfl ?_ (hsz2:=by rw[Zdk];change(pairsOf vs).size<=_;rw[pairsOf_size,K83];lia));simp only[bne_self_eq_false,Zbk,if_false];apply ϥY;let B:Î (vs.toArray.zip vs.toArray) Ī=ϩB:=by
   apply Array.toList_inj.mp;let L:ϲd vs.length 0 1:=Á
   rcases L with L|L
   .let:vs=[]:=Zad L
    subst this;simp[f_]
   let(v,rfl):=List.length_eq_one_iff.mp L;simp[f_]
  let k:ϔu Ī=ϩB:=B;change P _ (ϰP (ϘC (ϔu Ī)));rw[k];show fin
 rw[P3 f,P3 f];let l:ϒc:=Á
 apply Sc<|K l _ keep _ ?_;apply Sc (K8m (kat_run (ks:=vs) (vs:=vs) (κ:=κ) (Q:=λt S=>S=ϰP (ϩz (#[]:ϴM) (ϵ0 #[] 0))/\failedOf t=none/\Î (arrOf t) Ī=ϩB/\(arrOf t).size=vs.length)
  (G:=λp S=>S=ϰP (ϩz (#[]:ϴM) (ϵ0 #[] 0))/\p=ϷE (kas_sort vs.length)) rfl l m (λp t S x r z y=>⟨y.1,z,?out,by rw[r,Zdk];show x⟩)
  (FU (c:=c) (n:=vs.length) (λi j hi J C D=>hc i j hi J _ keep C D) _ (Eo Á) ϶0)) ?_ ϑW)
 case out=>rw[kat_snds rfl r,y.2];delta f_;rw[P3 Á]
 rintro⟨⟨⟩,t⟩ S ⟨rfl,hf,hs,hz⟩;dsimp only at hf hs hz⊢
 apply Ϙl;apply Sc (listUpdate_at H rfl ?_ (hsz2:=by
  rw[Zdk,hz,K83]
  lia))
 rw[hf];simp only[bne_self_eq_false,Zbk,if_false];rw[hs];show Zr fin
theorem GL(g:s.heap.IsList l vs.toArray)(a:vs.length<64)(K:ϒc->∀H:Op,(∀b o,ϰq ņ Ü H.get?)->∀Q:SortKind->Ô Db,Q κ ϩ9->ϲz ϴz A.in1.in1 Ϙk Q ϲh ϩ9)(hc:ώT vs.length (∀H:Op,(∀b o,ϰq ņ Ü H.get?)->∀C:Bool->Ô Db,C ϵA ϩ9->kas_ask prog w A.in1.in1 κ vs i j C ϩ9))(h:Q (Å ε) (ϰP (sortedAll s.heap vs ϩB))):
  ϰi (call (ŋ "sorted") [Å l]) Q E s:=by
 apply Calls.call_function_entry kind_sorted plain_sorted entry_sorted (args_sorted1 _) ?_;delta Builtin.«sorted»;apply ϛu ϥY;apply Sc<|collect_list g ?_;apply ϳJ wpAny_newList;let hsz:Ϭu objs.size=ε:=ϰB Heap.size_update size_push'
 let U:(Ϭu push<|ϵ0 vs.toArray 0).get? ε=some (ϵ0 vs.toArray 0):=ϰ9 hsz ϳ3
 let keep:∀b o,ņ=Ü->(Ϭu push<|ϵ0 vs.toArray 0).get? b=Ü:=λb o q=>by
  let L:ϭT:=Zs q;rw[ϬL (Ù hsz<|K9O<|K8f L),ϔ1<|K9O L,ϬL<|K9O L];show q
 let ne:∀b o,ņ=Ü->b≠ε:=λb o q=>K9O<|K8f<|Zs q;change ϸe _ ((ϰP (Ϭu push (ϵ0 vs.toArray 0))));rw[hsz];apply Ϲh<|Ϛy<|args_list_sort _;show Zr ⟨_,rfl,h⟩
end
def vK:Key->V|.inl i=>Ä i|.inr x=>Æ x
def ltK:ϱ3 (À Key) ϪK
 |[],[]=>ϸl
 |.inl a::x,.inl b::y=>Ì (a=b) (ltK x y) (Â (Ë<|a<b))
 |.inr a::x,.inr b::y=>Ì (a=b) (ltK x y) (Â (Ë ϗb))
 |_,_=>none
theorem NB{a b:Int}(h:Q (Ë<|a<b) s):ϰi (oneLt' f (Ä a t)<|Ä b u) Q E s:=by
 cases f with|true=>show oneLt_int h|false=>show ώ7<|lt_int h
theorem Mt(h:Q (Ë ϗb) s):ϰi (oneLt' f (Æ a t)<|Æ b u) Q E s:=by
 cases f with|true=>show oneLt_str h|false=>show ώ7<|lt_str h
theorem Su:∀(x y:À Key)(u v:À Do)(i:Nat),İ (x.map vK) u->İ (y.map vK) v->ltK x y=ϱx->Q r s->KatLex prog w A f false Q (u.zip v) i s:=by
 ext x
 induction x with
 |nil=>
  ext y u v i U H e q;cases y with
  |nil=>cases U;cases H;cases e;show kat_nil q
  |cons b y=>cases e
 |cons a x ih=>
  ext y u v i U H e q;cases y with
  |nil=>cases a<;>cases e
  |cons b y=>
   cases U with
   |cons hu1 hu2=>
    cases H with
    |cons hv1 hv2=>
     cases a with
     |inl a=>
      cases b with
      |inl b=>
       let(t,rfl):=hu1;let(T,rfl):=hv1;change Ì (a=b) (ltK x y) (Â (Ë<|a<b))=_ at e;rw[Zcb];apply kat_cons<|wpAny_eqBool_int ?_;by_cases h:a=b
       .rw[Ÿ]at e
        rw[ń (ě (a==b)) (beq_iff_eq.mpr h)];show ϖC
       rw[χ]at e;cases e;rw[ń (å (a==b)) (beq_eq_false_iff_ne.mpr h)];show kat_no<|NB q
      |inr b=>cases e
     |inr a=>
      cases b with
      |inl b=>cases e
      |inr b=>
       let(t,rfl):=hu1;let(T,rfl):=hv1;change Ì (a=b) (ltK x y) _=_ at e;rw[Zcb];apply kat_cons<|wpAny_eqBool_str ?_;by_cases h:a=b
       .rw[Ÿ]at e
        rw[ϵc];show ϖC
       rw[χ]at e;cases e;rw[ϲR];show kat_no<|Mt q
theorem KO:∀{bs:À Ix}{fs:À Do},bs.length=fs.length->(∀(i:Nat)(b:Ix)(f:Do),Ϲ0=ż->û fs=some f->∃t:ϴM,IsTup h b t/\t[0]?=some f)->KatTups h Ϲc fs:=by
 ext bs
 induction bs with
 |nil=>
  ext fs a _;cases fs with|nil=>show KatTups.nil|cons f fs=>cases a
 |cons b bs ih=>
  ext fs a h;cases fs with
  |nil=>cases a
  |cons f fs=>obtain⟨t,⟨o,j,hc,n,H⟩,F⟩:=h 0 b f rfl rfl;show KatTups.cons j hc H F (ih ϐl λi B d e1 g=>h (i+1) B d (Ŀ e1)<|Ŀ g)
theorem Ri{bs:À Ix}:∀{s:À Do},İ ϮJ s->s=Ϲc:=by
 induction bs with
 |nil=>ext s h;cases h;rfl
 |cons b bs ih=>
  ext s h;cases h with|cons h r=>cases h;rw[ih r];rfl
def adR(bs:À Ix)(i:Nat):V:=ę ϮJ i .Y4
def Tb:Go->Key|.int i=>È i|.str x=>Ñ x|_=>È 0
theorem Tj(k:Key):Tb (kD k)=k:=ϐx
open Classical in
def HE(s t:Str):Go:=Æ ϘY
theorem Bj:ϵF "str.strip" (rTx λa b=>Æ<|Txt.stripChars a b):=by ext p s d H x c v S Q I R r h;let(a,b,rfl,rfl,l,q):=h;let(t,rfl):=R;let(u,rfl,t2,rfl):=Ϸb;show SC.stripChars (λU k=>⟨Æ _,H,ϨI,ϪN,q⟩) l
def isT:ϳi (À (Go×Go))|(.none,_)::_=>true|_=>false
theorem ui(d:À ϰo):isT (Ϻn ϦP)=false:=by
 cases d with|nil=>rfl|cons p r=>let(k,v):=p;cases k<;>rfl
def Cj(neg:Bool):ζ
 |y,.dict L1=>if Γ isT L1 then Í else(ϱi (keyOf y)<|Ý<|Ϻq ((ϹC L1)))
 |_,_=>Í
def zj:Go->ζ
 |.dict L1,y,z=>if Γ isT L1 then Í else(ϱi (keyOf y)<|Ý<|ę (eJ L1 k) z)
 |_,_,_=>Í
def rC(a b c:Fe):Fe:=λd=>ï (a d) λx=>ϩM (Ì (Γ isT L1) Í (ï (b d) λy=>ï (c d) λz=>ϓX (.dict L1))) Í
section
variable{K:Ch}{F H:Hp}
theorem uE:∀{s:À ϳ5}{D:À ϰo}{k:Key},ϩA ((eI D k=none/\nc s k=none)\/∃v d,nc s k=ú/\eI D k=Ω/\Ğ F v d):=by
 intro x0
 induction x0 with
  |nil=>
   intro x31 x32 h x33
   cases x31 with
    |nil=>
     exact È ϶0
    |cons x34 x35=>
     exact ϰn
  |cons p s ih=>
   intro x36 k h r
   cases x36 with
    |nil=>
     exact ϰn
    |cons q D=>
     rw[W1,W1]at h r;let(H,a):=Ϥd;let H:ϥv:=H;cases r with
     |cons r1 r2=>
      delta eI nc;rw[K8p,K8p];by_cases Q:Ϻe
      .rw[Tl Q,Tl ϓj]
       show Ñ (ϓt r1)
      .rw[Pi Q,Pi Ϗm]
       show ih a r2
theorem M3{k:Key}(h:Ğ F v d)(e:keyOf d=ϱP):v=kV k:=by
 cases h with
 |int i=>cases e;rfl
 |str x=>cases e;rfl
 |Y4=>cases e
 |bl _=>cases e
 |lst _ _=>cases e
 |tup _ _=>cases e
 |dct _ _ _=>cases e
 |dtt _ _ _=>cases e
end
def Xf(neg:Bool):R2:=λy x H Q=>∃a o,x=Å a/\Ϩh o/\ϕg o.isSome
section
variable{X:Cx}{pos:Pos}
theorem IM:δ (Xf neg) (Cj neg):=by
 ext y x D X F H f Q s r R p;cases R with
 |@dct a L1 ds h1 h2 h3=>
  let P:aq M H f ŀ (if isT ϲB=true then Í else(ϱi (keyOf D)<|Ý<|Ϻq ((ϹC ϲB)))):=p
  rw[ui,ϲy]at P;let T:aq M H f ŀ (ϱi (keyOf D)<|Ý<|Ϻq ((ϹC ϲB))):=P
  cases hk:keyOf D with
  |none=>rw[hk]at T;show T.elim
  |some k=>
   rw[hk]at T;let Y:=M3 r hk;subst Y;apply(a,Ϩc,rfl,vx.k ϹE,?_);let e:ϹC ϲB=ϷN Ϩc:=by rw[lC];rcases uE (k:=k) h2 h3 with⟨e1,g⟩|⟨v,d,e1,g,_⟩<;>rw[e1,g]<;>rfl
   let b:ŀ (.sh<|Ϻq ((ϹC ϲB))):=T;rw[e]at b;show T0.val s b ϴZ
 |Y4=>show p.elim
 |bl _=>show p.elim
 |int _=>show p.elim
 |str _=>show p.elim
 |lst _ _=>show p.elim
 |tup _ _=>show p.elim
 |dtt _ _ _=>show p.elim
theorem yZ(U:ϲD 1):ϳr NotIn (Xf true):=by ext p s b H x y u v Q I J R h;let(a,o,rfl,g,q):=h;cases R;show Pg U I g J λS i=>⟨ϴZ,H,i,rfl,q⟩
theorem UA(h:ć Ϯ2 σ H Q):Iz (ć fa) (ć fb) (ć fc) σ H Q:=by
 let(F,i,f,S,p):=h;apply(F,i,f,S,Ķ λx P v I L T e1 R W=>?_);let(G1,D,K):=ϵx W;generalize x.er=d at P K;cases K with
 |@dct a L1 ds h1 h2 h3=>
  let X:ă f ŀ (Ì (isT ϲB=true) Í<|ï (fb i) λy=>ï (fc i) λz=>ϓX (dD ds)):=P;rw[ui,ϲy]at X;apply(a,rfl,È ⟨L1,È<|D.fh _ _ h1⟩,G1,i,f,϶s,ş (ϴB X D) λy py v2 F2 N U E w A=>?_);let(G2,j,s):=w.Z2 E A;apply(G2,i,f,(϶s).ext j,ş (ϴB py<|D.trans j) λz t v3 J O V G C B=>?_)
  let(G3,l,k3):=C.Z2 G B;let e:aq M H f ŀ (if isT ϲB=true then Í else(ϱi (ϴn y.er)<|Ý<|(eJ ϲB k).getD z.er)):=t
  rw[ui,ϲy]at e;let Z:aq M H f ŀ (ϱi (ϴn y.er)<|Ý<|(eJ ϲB k).getD z.er):=e
  cases hk:keyOf y.er with
  |none=>rw[hk]at Z;show Z.elim
  |some k=>
   rw[hk]at Z;let Y:=iq s hk;subst Y;let g:ŀ (.sh<|(eJ ϲB k).getD z.er):=Z;rw[lC]at g;let b:aH G1 G3:=λc o q=>l.ff c o<|j.ff c o q;apply(Ϩc,vx.k<|l.fh _ _<|b _ _ h1,Ϗn l.fh (Ę (D.trans j) l) g ?_);rcases uE (k:=k) h2 h3 with⟨m,r⟩|⟨v,d,m,r,u⟩
   .rw[m,r]
    show k3
   rw[m,r];show u.same b
 |Y4=>show P.elim
 |bl _=>show P.elim
 |int _=>show P.elim
 |str _=>show P.elim
 |lst _ _=>show P.elim
 |tup _ _=>show P.elim
 |dtt _ _ _=>show P.elim
theorem E5(U:ϲD 1)(A:ê a fa)(B:ê b fb)(hc:ê c fc)(h:Û (ϦY "get" X.env Υ=Υ))(f:Û (ě<|(Ϸ1<|à ϷJ).all ϵ5&&ύ2&&Ë (Ã (ϷJ:À On)+Ã ([]:À Keyword)+(Ì ((ϵL ([]:À Keyword))) 0 1)<30)))(l:Û (ě Ϭ8))(t:Û (Ϸ1 (à ϷJ)=ϧA ϵl (eval c X.env))):
  ê (Χ (ϲl a "get" apos) ϷJ cpos) Ϯ2:=ϰt peI (HI U ϴP ϸD (hc r m) ⟨h,f,l,t⟩) UA
theorem SA:Ϯ2 ρ=Zi (λx=>ϩM (Ì (Γ isT L1) Í (ϖD ϻR (fc ρ))) Í) ϻQ:=by
 delta rC;cases fa ρ with
 |bad=>rfl
 |ex c=>rfl
 |ok x=>
  change(ϩM _ _)=(ϩM _ _)
  cases x.er with
  |dict L1=>
   dsimp only
   split
   .rfl
   cases fb ρ<;>cases fc ρ<;>rfl
  |_=>rfl
theorem LV(neg:Bool)(k:À ϰo)(i:Int):Cj neg (Ä i) (dD k)=Ý (Ϻq ((ϷN (ϫU<|È i)))):=by
 change(Ì (isT (ϳj ϦP)=true) R.bad<|ϳV (ë<|Ϻq (ύX<|È i).isSome))=_;rw[ui,ϲy,lC]
theorem S2(k:À ϰo)(i:Int)(z:Go):zj (dD k) (Ä i) z=Ý (ę (ϫU<|È i) z):=by
 change(Ì (isT (ϳj ϦP)=true) R.bad<|ϳV (ë<|(ύX<|È i).getD z))=_;rw[ui,ϲy,lC]
theorem Ln{i:Int}(h:ϻQ=ϴV)(e1:x.er=dD L1)(H:ϻR=ϸG)(g:y.er=Ä i)(f:fc ρ=Ħ z):Ϯ2 ρ=Ý (ę (Ϩz<|È i) z.er):=by
 rw[SA,h,H,f];change(ϩM (Ì (Γ isT L1) R.bad (ϖD ϸG (Ħ z))) Í)=_;rw[e1];change(Ì (isT (Ϻi ϦP)=true) R.bad<|ϓX (dD L1))=_;rw[ui,ϲy,g,S2]
end
def ItS(x:Str):It:=
 (ϔ8 (∃T c,ύh/\v=Å T/\h=Į T (č [Ä i,Æ Š])/\û x.cps=ã))
theorem Ek{P:Ev}{w:Fk}{K:Ch}{U:À On}{k:Nat}{pos:Pos}(e it:Ix)(x:Str)(t:Tok)(n:e≠it):
  ϕj (.Tuple U k pos) (ItS x) ϕu where
 mem:=Ø
 obj:=λi h S b B=>by
  obtain⟨⟨old,he⟩,o,O,c,d⟩:=S;let f:όA:=ϲe
  rcases f with z|z
  .subst z
   show(_,he,ϩ5)
  .subst z
   show(o,O,ϩN)
 keep:=λi h h' S R=>⟨(let⟨old,he⟩:=S.1;⟨old,R e Ø _ he⟩),(let⟨o,O,r⟩:=S.2;⟨o,R it Ø o O,r⟩)⟩
 item:=by
  ext X hP W C hc i p s σ H E I F S hg;subst hP W C;obtain⟨⟨old,he⟩,hit⟩:=S;let elt:ϙ5:=Zs he;let D:=Draws.strAscii (prog:=X.prog) (w:=X.w) (A:=X.A.in1) ϱW it x t;apply wpAny_pyNext_enum_itemD D he hit hg n Ϛb λv h1 tk Z N j l hsz Y=>?_;let(c,u,J,rfl):=Z;apply(_,rfl,wpAny_letOwnedTupleGo_enum N λm M a=>?_);let kk:∀b v,b∉[e,it]->ϰq ņ ú m.get?:=λb v B q=>by
   let g:Ϻc:=λz=>B (ϰy z);let y:b≠it:=λz=>B (ϰy z);show Ę (a.2 b g)<|Y b v g y q
  let G:m.get? s.heap.objs.size=Â ((ı "tuple" (ϳR #[Ä i tk,Æ Š u]))):=Ę (a.2 _<|Zcq elt) l;apply(Å s.heap.objs.size,ϷX<|č [Ä i,Æ Š],wW (s:=s) (h':=m) (t':=tk+1) I F kk ß ?_,rfl,(_,c,I.fresh,rfl,rfl,J),((_,M),?_),ϸq)
  .exact(Ϥy (Ĕ 2),[Ä i tk,Æ Š u],Ĉ ι<|Ĉ ι Ā,_,G,rfl,_,rfl)
  .let(o,O,r):=j
   show(o,Ę (a.2 it<|K8g n) O,r)
  .let(V,f1,f2,f3,f4,f5):=F b B
   let f:όA:=ϲe
   let(oi,eoi,_):=hit;let:ϭT:=by
    rcases f with z|z
    .rw[z];show elt
    .rw[z];show Zs eoi
   rw[ϩr this];show V
 done:=by
  ext X hP W C hc i p s σ H E I F S hg;subst hP W C;obtain⟨⟨old,he⟩,hit⟩:=S;let hg:x.cps.size<=i:=hg;let l:ϥr (Å e) "enumerate":=(Ϭq he);delta pyNext;apply Sc (wpAny_attempt (wpAny_callSpecial?_slot (name:=è "__next__") l PySem.F.slot_enumerate_next
   (ϚH<|PySem.F.args_enumerate_next_1 _)))
  change ϸe (field (Å e) 2 >>=_) _;apply Sc<|K8e he rfl (x:=Å it) rfl ?_;apply Sc<|wpAny_nextOf_ascii_end (A:=X.A.in1) ϱW hit Ϲj λh' x L Q=>?_;let(o,N,hc):=Q;apply Sc<|wpAny_isInstance (T:="StopIteration") (b:=true) ⟨o,N,hc⟩ isSubtype_stop ?_;show Zr ⟨rfl,ϐt F (λb v B q=>L b v (λz=>B<|ϰy z) q)⟩
 self:=λ_ _ _ _ _ S h=>(let⟨old,he⟩:=S.1;ϭA h)
def Ls(ta:TA):TI:=ϭQ (∃y,s=[Æ y]/\ϸ7/\R (ItS y) h)
theorem IK{p pos tpos:Pos}(hg:Ϯk)(M:ϭt)(A:ϰI [a] ta)(m:Û (à [a]=ϸI Υ)):
  PI X (ϳx k tpos) (ϳo "enumerate" [a]) (Ls ta):=by
 ext i s g H R I h;apply Call_<|ϧH oj<|ϕd m rfl;let(v,d,c,r,Q):=zzz;let(y,e,Y,q):=Q;subst e;let(u,rfl,J):=Ϸb;let(t,rfl):=J;apply call_enumerate_str λl he hit hsz K=>?_;apply ϭA ?_;let j:ų i g d {S with heap:=l}:=Ϗ0 K;let T:strIterType y="str_ascii_iterator":=Os Y;rw[T]at hit;apply(ϲf 1,[ϲf 1,S.heap.objs.size],_,ItS y,d,rfl,j,Ek _ _ y t<|Zdc _,((_,he),hit),ϸq,q);let f:b=ϲf 1\/ϭS:=ϲe
 rcases f with z|z
 .subst z
  show c.fpOk ϱ2<|c.Y1.fresh ϱ2
 subst z;show c.fpOk ß<|c.Y1.fresh ß
def Ox:Go->R (À Go)
 |.str y=>Ì ϸ7 (.ok (fj ϥa)) Í
 |_=>Í
def HP(a:Fe):Fi:=λb=>Φ λx=>Ox x.er
section
variable{X:Cx}{pos:Pos}
theorem Ot(h:ϺW (HP a)):Ls (ϵr<|ae a ah) σ H R':=by
 let(F,l,f,S,p):=h;apply(F,l,f,S,?_);let b:=Ϸe;change ă f _ (ï (a l) ϑD);cases ha:a l with
 |bad=>rw[ha]at b;show b
 |ex c=>rw[ha]at b;show b
 |ok x=>
  rw[ha]at b;ext V s m X e1 r W;let(G1,D,k):=ϳ9 W;cases k with
  |@cons v _ _ _ k k2=>
   cases k2;let P:ă f ϶T (Ox x.er):=b;generalize x.er=d at P k;cases k with
   |str y=>
    let g:ă f ϶T (Ì ϸ7 (.ok (fj ϥa)) Í):=P;by_cases Y:ϸ7
    .rw[Os Y]at g
     let ln:Ã ϥa=y.cps.size:=Ϻ1 signs
     apply(y,rfl,Y,g _ G1 m D λi G u A w=>?_);apply(λd o=>?_,λL=>?_)
     .let(e,he,rfl):=f9 o
      delta signs at he;rw[Oe]at he;let(c,hc,rfl):=ϷP he;let C:û y.cps=ã:=ϰ9 K7u hc
      apply(ώx,λx z q=>?_);let(T,K,t,rfl,rfl,Z):=q;rw[C]at Z;cases Z;show(όx _,Ext.allocF w t,č aX<|Ĉ (Ä _)<|Ĉ (Æ _) Ā)
     change y.cps.size<=i;rw[<-ln,<-m6 ϥa];show L
    rw[P3 Y]at g;show g.elim
   |int j=>show P.elim
   |Y4=>show P.elim
   |bl _=>show P.elim
   |lst _ _=>show P.elim
   |dct _ _ _=>show P.elim
   |dtt _ _ _=>show P.elim
   |tup _ _=>show P.elim
theorem Jd(hg:Ϯk)(b:ϭt)(h:ê a fa)(S:Û (à [a]=ϰK Υ (à [])))(c:Û (à [a]=ϸI Υ)):
  ώW (ϳo "enumerate" [a]) (HP fa):=λr m=>by
 let q:=IK (es:=ts) (k:=tk) (tpos:=tpos) (p:=p) (pos:=pos) hg b (ώU r m) c;exactλF5 s σ H R' I z=>Ϝk<|Ot z
theorem Qr:HP fa ρ=ϺX Ox ϻQ:=by delta HP;cases fa ρ<;>rfl
theorem Ql(h:ϸ7):Ox (Æ y)=.ok (fj ϥa):=Ÿ
end
def ltW:À Int->ϳi (À Int)|[],[]=>false|[],_::_=>true|_::_,[]=>false|a::x,b::y=>Ì (a=b) ϻE (Ë (a<b))
theorem ltc{a x b y}:ltW (a::x) (b::y)=Ì (a=b) ϻE (Ë (a<b)):=rfl
theorem ltE1{b y}:ltW [] (b::y)=true:=rfl
theorem ltE2{b y}:ltW (b::y) []=false:=rfl
section
variable{A:Is}{s:Db}
theorem xZ(e:ϵn a us.toArray)(g:ϵn b vs.toArray)(i:İ (x.map V.int) us)(Y:İ (y.map V.int) vs)(h:ϓs (í ϻE) s):ϰi (Builtin.«tuple.__lt__» (ϴ1 [Å a,Å b])) P E s:=by
 let(m,O,_,na,D):=e;let(l,o,H,nb,B):=g;let t:ϥr (Å b) "tuple":=⟨l,o,H⟩;change ϸe (isInstance (Å b) (Ĳ "tuple") >>=_) s;apply Sc<|wpAny_isInstance t isSubtype_tuple_tuple ?_;simp only[Zds,Zbk,if_false];apply Sc<|wpAny_tupleItemsOf O D ?_;apply Sc<|wpAny_tupleItemsOf o B ?_;apply Sc ?_;apply wpAny_forIn_list _
  (λrest r c=>r.1=none/\c=s/\∃X j U S,rest=List.zip U S/\İ (X.map V.int) U/\İ (j.map V.int) S/\ltW X j=ϻE/\Ë (U.length<S.length)=Ë Ϙm)
  _ ?_ ?_ _ _ ⟨rfl,rfl,x,y,us,vs,rfl,i,Y,rfl,rfl⟩
 .rintro⟨u,v⟩ rest r c ⟨hr,rfl,X,j,U,S,hz,hx',hy',d,hlen⟩
  cases X with
  |nil=>cases hx';simp at hz
  |cons k1 x''=>
   cases j with
   |nil=>cases hy';simp at hz
   |cons k2 y''=>
    cases hx' with
    |@cons _ u' _ us'' h1 hx''=>
     cases hy' with
     |@cons _ v' _ vs'' h2 hy''=>
      simp only[Zcb,List.cons.injEq,Prod.mk.injEq]at hz;obtain⟨⟨rfl,rfl⟩,rfl⟩:=hz;let(t1,rfl):=h1;let(t2,rfl):=h2;apply ϳJ wpAny_eqBool_int;let d:(Ì (k1=k2) (ltW x'' y'')<|Ë (k1<k2))=ϻE:=d;by_cases k:k1=k2
      .rw[Os k]at d
       rw[ń (ě (k1==k2)) (beq_iff_eq.mpr k)];simp only[Zds,Zbk,if_false];show Zr ⟨rfl,rfl,x'',y'',us'',vs'',rfl,hx'',hy'',d,Ŀ hlen⟩
      rw[P3 k]at d;rw[ń (å (k1==k2)) (beq_eq_false_iff_ne.mpr k)];simp only[Bool.not_false,K84];rw[<-d]at h;apply ϳJ wpAny_rule;apply Sc (ń (ϰi (ϙo _ _) _ _ _)<|PyProof.Rows.lt_int ?_);show Sc<|Zr<|Zr<|Zr h
 ext⟨r1,r2⟩ c ⟨hr,rfl,X,j,U,S,hz,hx',hy',d,hlen⟩;simp only at hr;subst hr;apply ϥY;let f:Ë Ϙm=ϻE:=by
  rw[<-d,<-hlen];cases X with
  |nil=>
   cases hx';cases j with
   |nil=>cases hy';rfl
   |cons _ _=>cases hy';simp[ltE1,ltE2]
  |cons _ _=>
   cases hx';cases j with
   |nil=>cases hy';simp[ltE1,ltE2]
   |cons _ _=>cases hy';simp at hz
 change ϓs (í<|Ë<|us.toArray.size<vs.toArray.size) c;rw[K9W,K9W,f];show h
theorem SM(U:A.units<cLine)(H:ϵn a us.toArray)(B:ϵn b vs.toArray)(X:İ (x.map V.int) us)(Y:İ (y.map V.int) vs)(h:Q (í ϻE) s):ϰi (ϙo (Å a)<|Å b) Q E s:=by
 let t:ϥr (Å a) "tuple":=let⟨o,h1,h2,_⟩:=H;⟨o,h1,h2⟩;let T:ϥr (Å b) "tuple":=let⟨o,h1,h2,_⟩:=B;⟨o,h1,h2⟩;change ϰi (richCompare .Lt (Å a)<|Å b) Q E s
 show wpAny_richCompare_same_room (op:=.Lt) t T PySem.F.slot_tuple_lt
  (ϚC<|PySem.F.args_tuple_lt_2 _ _) U
end
abbrev NK:=À Int×À Key
def ltN(m n:NK):ϪK:=Ì (m.1=n.1) (ltK m.2 n.2) (Â (ltW m.1 n.1))
structure SrtN(ns:À NK)(c:Ϧ7):Prop where
 few:ns.length<64
 len:∀k∈ns,∀k'∈ns,Ã k.2=Ã k'.2
 cmp:∀i j x y,û ns=ö->Ĵ ns=ϱO->ltN x y=Â ϵA
def LP(K:Ch):À V->Hp->Ô VK:=λX H Q=>∃(a:Ix)(bs:À Ix)(R:À NK)(c:Ϧ7),X=[Å a]/\ϲp ϮJ/\ϥp bs.length/\
 (∀(i:Nat)(b:Ix)(n:NK),Ϲ0=ż->ϵI=ŵ->∃w,H b=Â (č<|Å w::Î n.2 vK)/\H w=Â (č<|Î n.1 V.int))/\SrtN R c/\∀l,H l=none->Q (Å l) (Į l<|Ă<|Î ϺZ<|adR bs)
section
variable{X:Cx}
theorem Hz(hu:ϲD 3):ϴq (ŋ "sorted") (LP X.K):=by
 ext F5 s σ H xs U Q I r h;let(a,bs,R,c,rfl,hq,l,hT,A,q):=h;let(u,rfl,ru):=Ϸb;cases ru;let(t,rv,pl,Z):=ϸP hq;let e:=Ri rv;subst e;let D:ϥp (Ã Ϲc):=by rw[I4,l]
 let tup:∀(i:Nat)(b:Ix)(n:NK),Ϲ0=ż->ϵI=ŵ->∃(w:Ix)(is S:À Do),İ (Î n.2 vK) is/\ϵn b ((ϸO (ϯy::is)))/\İ (Î n.1 V.int) S/\ϵn w S.toArray/\(tupleKind ϺR).is s.heap (Î n.1 Sum.inl) w:=λi b n e1 g=>by
  let(w,h1,v):=hT i b n e1 g;let(is,x,d,_):=I.tuple (ń (ϓ4 b (Å w::Î n.2 vK))<|È (È h1));let(S,r3,r4,_):=I.tuple (ń (ϓ4 w (Î n.1 V.int))<|È (È v));cases x with|cons r5 r6=>cases r5;apply(w,_,S,r6,d,r3,r4,L2.iq I.Y1 ?_);rw[v,Tk];rfl
 let up:∀{p:Op}{b:Ix}{S:ϴM},(∀b o,ϰq ņ Ü p.get?)->ϵn b S->IsTup p b S:=λk⟨o,e1,g,e3⟩=>⟨o,ϱR e1,g,e3⟩
 let hO:∀i∈ϺZ,ϯ2:=Ϙ2 (tR c R.length);let Y:ϥp (Ã ϺZ):=ϰB (tR c R.length).length_eq Z1
 apply GL (κ:=tuples' false) (c:=c) pl.isList (by rw[D];show A.few) (λv p k Q' hQ=>?_) (λi j hi hj p k C hC=>?_) ?_
 .let hf:∀(i:Nat)(b:Ix),Ϲ0=ż->∃(S:ϴM)(w:Ix)(E:À Do),ϵn b S/\S[0]?=Â (Å w)/\ϵn w E.toArray:=λi b e1=>by
   obtain⟨n,g⟩:∃n,ϵI=ŵ:=ϰc (by rw[<-l];show ϲ8 e1)
   let(w,is,S,_,d,_,r4,_):=tup i b n e1 g;show(_,w,S,d,rfl,r4)
  let P:∃fs:À Do,fs.length=bs.length/\(∀f∈fs,∃(w:Ix)(E:À Do),f=ϯy/\ϵn w E.toArray)/\∀(i:Nat)(b:Ix)(f:Do),Ϲ0=ż->û fs=some f->∃t:ϴM,ϵn b t/\t[0]?=some f:=by
   clear hQ q hT hq pl rv r Z tup up D v;clear A l;clear I
   induction bs with
   |nil=>show([],rfl,(λf m=>Ϥt Ø),λi b f e=>ϺQ Ø)
   |cons b bs ih=>
    let(S,w,E,x,d,r3):=hf 0 b rfl;let(fs,J,K,N):=ih λi O e=>hf (i+1) O ϵV;apply(Å w::fs,ϯN,λf m=>?_,λi O f e1 g=>?_)
    .rcases Z7.mp m with rfl|m
     .exact(w,E,rfl,r3)
     show K f m
    cases i with
    |zero=>
     simp at e1 g;subst e1;subst g;show(S,x,d)
    |succ i=>show N i O f (Ŀ e1) (Ŀ g)
  let(fs,J,K,N):=P;rw[I4]at v;apply kat_kind (fs:=fs) (T:=Ĳ "tuple") (KO J.symm λi b f e1 g=>?_) Á (λf m=>?_) rfl hQ
  .let(t,x,d):=N i b f e1 g
   show(t,up k x,d)
  let(w,E,rfl,o,ho,hc,_):=K f m;rw[<-hc];show(Looks.ld<|ϱR ho).andThen .now
 .rw[D]at hi hj
  let e1:Ϲ0=some bs[i]:=Rw Á;let g:bs[j]?=some bs[j]:=Rw Á;let k1:ϵI=some R[i]:=ϲO;let k2:R[j]?=some R[j]:=Rw hj;let(w,U,S,v1,t1,w1,y1,z1):=tup i _ _ e1 k1;let(wb,G,ts',v2,t2,w2,y2,z2):=tup j _ _ g k2;let(o1,g1,_,n1,d1):=up k t1;let(o2,g2,_,n2,d2):=up k t2;delta kas_ask;let x1:ę Ϲc i Value.none=Å bs[i]:=ϵv Zab Oe e1
  let x2:ę Ϲc j Value.none=Å bs[j]:=ϵv Zab Oe g
  rw[x1,x2];apply kat_lt g1 d1 g2 d2 ?_;let l1:U.length=G.length:=by rw[<-v1.length,<-v2.length,I4,I4,A.len _ (Ts k1) _<|Ts k2]
  let F:å (Ë (ϧB (ϯy::U)<ϧB (ϫF wb::G))):=by rw[K9W,K9W,Zo,Zo,l1];show Pi Ϸv
  rw[F];change KatLex _ _ _ _ _ _ ((ϯy,ϫF wb)::U.zip G) 0 _;let z1':IsTupleKey ϺR p (Î R[i].1 Sum.inl) w:=let⟨o,t,n,q1,q2⟩:=z1;⟨o,t,n,ϱR q1,q2⟩;let z2':IsTupleKey ϺR p (Î R[j].1 Sum.inl) wb:=let⟨o,t,n,q1,q2⟩:=z2;⟨o,t,n,ϱR q1,q2⟩;let M:=A.cmp i j _ _ k1 k2;delta ltN at M;apply kat_cons<|wpAny_eqBool_tuple (knd:=ϺR) (ϱG ϙM) z1' z2' ?_
  by_cases W:R[i].1=R[j].1
  .rw[Os W]at M
   rw[Tl<|by rw[W]];show kat_yes<|Su _ _ U G 1 v1 v2 M hC
  rw[P3 W]at M;let M:=Zz M;rw[Pi λz=>W<|Zcr (λ_ _ y=>K82 y) |>.mp z];apply kat_no<|ώ7<|SM (ϱG ϙM) (up k y1) (up k y2) w1 w2 ?_;rw[M];show hC
 rw[D];let(e,he):=sortedAll_at s.heap Ϲc<|϶8<|Î ϺZ λi=>ę Ϲc i Value.none;let B:∀i∈ϺZ,i<bs.length:=λi m=>by rw[l];show hO i m
 apply(Å ε,_,ϩY (o:=Ă<|Î ϺZ<|adR bs) (λb o B=>sortedAll_old B) ϱ2 ⟨?_,Î ϺZ λi=>ę Ϲc i Value.none,e,?_,he⟩,rfl,q _<|I.Y1.fresh ϱ2)
 .rw[I4,Y,<-l]
  rw[I4]at Z;show Z
 clear he e
 generalize ϺZ=L at B
 induction L with
 |nil=>show Ā
 |cons i L ih=>
  apply Ĉ ?_<|ih λi m=>B i<|Ą m;delta adR;change RelV _ (ę Ϲc i Value.none);rw[Zab,Zab,Oe,Oe,Rw<|B i Uf];rfl
end
theorem Q1(r:ϴr A):ϤB 3:=þ r.units
def WE:Go->Int|.int i=>i|_=>0
def unN:Go->NK|.tuple (.tuple ws::ks)=>(ws.map WE,ks.map Tb)|_=>([],[])
def nkD(n:NK):Go:=ä<|ä (Î n.1 int)::Î n.2 kD
theorem VM(n:NK):unN (nkD n)=n:=by
 let(w,k):=n;delta nkD unN;dsimp only;rw[Tk,Tk];let e1:Tb∘kD=id:=funext Tj;let g:WE∘int=id:=rfl;rw[e1,g,Zdm,Zdm]
theorem XQ(R:À NK):Î (R.map nkD) unN=R:=ϖI unN nkD VM
def cNk(R:À NK)(i j:Nat):Bool:=ę (ϛS<|R.getD j ([],[])) false
open Classical in
def vg:À Go->ď
 |[.list ds]=>Ì (ds=Î (ϴ2 unN) nkD/\ϭj (ϴ2 unN)) (Ď ((f_ (cNk<|ϴ2 unN) ds.length).map λi=>ë<|ds.getD i ù)) Í
 |_=>Í
theorem Ic(S:ϭj ns):vg [Ö<|ns.map nkD]=Ď (Î (f_ (cNk ns) ns.length) λi=>ë<|ę (ns.map nkD) i ù):=by
 delta vg;dsimp only;rw[XQ,I4,Os ⟨rfl,S⟩]
section
variable{K:Ch}{F:Hp}
theorem yK:∀{w:À Int}{X:À V},Ű X ϳ1->X=w.map V.int:=by
 intro x0
 induction x0 with
  |nil=>
   intro x44 h
   exact ϐ4
  |cons i w ih=>
   intro x45 h
   rw[W1]at h;cases h with|cons h1 h2=>cases h1;rw[ih h2];rfl
theorem yN:∀{k:À Key}{X:À V},Ű X (ϳj kD)->X=ϳj vK:=by
 intro x0
 induction x0 with
  |nil=>
   intro x46 h
   exact ϐ4
  |cons q k ih=>
   intro x47 h
   rw[W1]at h;cases h with
   |cons h1 h2=>
    rw[ih h2];cases q with
    |inl z=>cases h1;rfl
    |inr z=>cases h1;rfl
theorem Ha:∀{R:À NK}{s:À V},Ű s (R.map nkD)->∃bs:À Ix,s=ϮJ/\ϥp bs.length/\∀(i:Nat)(b:Ix)(n:NK),Ϲ0=ż->ϵI=ŵ->∃w,F b=Â (č<|Å w::Î n.2 vK)/\F w=Â (č<|Î n.1 V.int):=by
 ext R
 induction R with
 |nil=>ext s h;cases h;show([],rfl,rfl,λi b k e=>ϺQ Ø)
 |cons n R ih=>
  ext s h;cases h with
  |cons h r=>
   let(bs,rfl,H,d):=ih r;delta nkD at h;cases h with
   |@tup a xs _ h3 h4=>
    cases h4 with
    |cons h5 h6=>
     cases h5 with
     |@tup w ys _ h7 h8=>
      let E:=yN h6;let c:=yK h8;subst E;subst c;apply(a::bs,rfl,ϓQ,λi b u e1 g=>?_);cases i with
      |zero=>
       simp at e1 g;subst e1;subst g;show(w,h3,h7)
      |succ i=>show d i b u (Ŀ e1) (Ŀ g)
end
section
variable{X:Cx}{M:Mx}
theorem DZ(U:ϲD 3)(K:Ch)(h:Ϥc):ϴq (ŋ "sorted") (LP K):=ϧb (Hz U)
set_option tactic.hygienic true in
theorem OB(K:Ŕ):ϧE LP vg:=by
 rw[K];ext x u F H P Q s R p;cases R with
 |nil=>show False.elim p
 |cons h r=>
  cases r with
  |cons _ _=>cases h<;>show False.elim p
  |nil=>
   cases h with
   |@lst a vs d h1 h2=>
    delta vg at p;dsimp only at p;split at p
    .rename_i t
     let(D,S):=t
     let c:=h2;rw[D]at h2;let(bs,e,j,T):=Ha h2;subst e;apply(a,bs,Ϻn unN,cNk<|Ϻn unN,rfl,Ϥu,j,λi b n e1 o=>?_,S,λl f=>?_)
     .let(w,g,k):=T i b n e1 o
      show(w,ϥ2 g,ϥ2 k)
     let E:ϫ9 bs.length:=by rw[j,I4]
     let q:ŀ (.ol<|((ώO).map λi=>d.getD i ù).map OD.sh):=by rw[Tk];show p
     rw[I4];apply T0.lstD s q ?_ f;let I:∀i∈ώO,i<d.length:=Ϙ2 (tR _ _);generalize ώO=L at I
     clear p q
     induction L with
     |nil=>show Ā
     |cons i L ih=>
      apply Ĉ ?_<|ih λi m=>I i<|Ą m;let hi:=I i Uf;let(x,g,k):=D1.get c ϲO;delta adR;change ϧ2 _ (d.getD i PyData.none);rw[Zab,Zab,g,ϲO];show k
    show p.elim
   |_=>show False.elim p
end
def keysOf:À Go->Ú (À Key)
 |[]=>Â []
 |d::ds=>match keyOf d,ϫq with
  |some k,some r=>Â<|k::r
  |_,_=>none
def pL:Go->Ú (À Key)|.tuple ds=>ϫq|_=>none
theorem oP:∀w:À Int,ϻ4 ϳ1=Â Ϯt
 |[]=>rfl
 |i::w=>by
  change(match ϴn (Ä i),ϻ4 ϳ1 with|some k,some r=>Â (k::r)|_,_=>none)=_;rw[oP w];rfl
def oE(v:À (À Key×Go))(k:À Key):Ú Go:=(v.find? λK=>Ë π).map Ī
def uT(v:À (À Key×Go))(k:À Key)(d:Go):À (À Key×Go):=
 Ì (Γ v.any (λK=>Ë π)) (v.map (λK=>Ì π (K.1,d) K)) ϓK
def sL:À (Go×Go)->À Key->Ú Go|(.none,_)::L1,k=>(L1.find? λK=>Ë<|pL K.1=ϱP).map Ī|_,_=>none
theorem uo:∀k:À Key,ϻ4 (ϳj kD)=ϱP
 |[]=>rfl
 |q::k=>by
  change(match ϴn (kD q),ϻ4 (ϳj kD)with|some k,some r=>Â (k::r)|_,_=>none)=_;rw[wK,uo k]
theorem zu(v:À (À Key×Go))(k:À Key):sL ((ù,ù)::v.map λp=>(ä<|Î p.1 kD,p.2)) k=oE v k:=by
 delta oE;change((v.map λp=>(ϰx<|Î p.1 kD,p.2)).find? λK=>Ë<|pL K.1=ϱP).map Ī=_
 induction v with
 |nil=>rfl
 |cons p r ih=>
  rw[W1,K8p,K8p];by_cases h:ϵG
  .rw[ϵc,Tl<|by change ϻ4 (Î p.1 kD)=ϱP;rw[uo,h]]
   rfl
  rw[ϲR,Pi<|by change¬ϻ4 (Î p.1 kD)=ϱP;rw[uo];exact ϻP Zz];show ih
def Ge:ζ
 |.dict L1,y=>ϱi (pL y) (ϨV L1)
 |_,_=>Í
theorem Pz(v:À (À Key×Go))(w:À Int):Ge (dtD v) (ä ϳ1)=dq (oE v Ϯt):=by
 change(ϱi (ϻ4 ϳ1)<|ϨV _)=_;rw[oP];change dq (sL _ _)=_;rw[zu]
def DK(a b:Fe):Fe:=λc=>ï (a c) λx=>ï (b c) λy=>ϱi (pL x.er) (.ok<|ϱA ϯ0)
def Gs(i:Nat)(k a:Fe):Fs:=λb=>match ϸT with
 |some (some<|.odt L1)=>Φ λy=>ï (k b) λz=>match pL z.er with
  |some q=>Ì Ϲn (ω b.set odt (ό1 y.er)) Í
  |none=>Í
 |_=>Í
section
variable{K:Ch}{F H:Hp}
theorem yO:∀{s:À (À Key×V)}{D:À (À Key×Go)}{k:À Key}{d:Go},ϩA (oE D k=Ω->∃v,nc s k=ú/\Ğ F v d):=by
 intro x0
 induction x0 with
  |nil=>
   intro x1 x2 x3 h x4 e
   cases x1 with
    |nil=>
     cases e
    |cons x5 x6=>
     exact ϰn
  |cons p s ih=>
   intro x7 k d h r e
   cases x7 with
    |nil=>
     exact ϰn
    |cons q D=>
     rw[W1,W1]at h r;let(H,a):=Ϥd;let H:ϥv:=H;cases r with
     |cons r1 r2=>
      delta oE at e;rw[K8p]at e;by_cases Q:Ϻe
      .rw[Tl Q]at e
       cases e;show(p.2,pA ϓj,r1)
      .rw[Pi Q]at e
       rw[pg Ϗm];show ih a r2 e
theorem BI(k:À Key):∀{v:À (À Key×V)}{d:À (À Key×Go)},ϲn v.map Ļ d.map->ϲn v.any (λK=>Ë π) d.any
 |[],[],_=>rfl
 |[],_::_,h=>ϰn
 |_::_,[],h=>ϰn
 |p::v,q::d,h=>by rw[W1,W1]at h;let(H,a):=Ϥd;let H:ϥv:=H;rw[K80,K80,BI k a,H]
theorem Cg(e:Ğ F v d):∀{s:À (À Key×V)}{D:À (À Key×Go)},ϩA (Ϭr (ϳU<|(ϺC (c.1,v))) (D.map (ϺC (c.1,d))))
 |[],[],_,_=>(ϲx Ā)
 |[],_::_,h,_=>ϰn
 |_::_,[],h,_=>ϰn
 |p::s,q::D,h,r=>by
  rw[W1,W1]at h r;let(H,f):=Ϥd;let H:ϥv:=H;cases r with
  |cons r1 r2=>
   let(a,b):=Cg (k:=k) e f r2;simp only[W1,H];by_cases Q:Ϻe
   .rw[Os Q,Os Q]
    show(by rw[a],Ĉ e b)
   .rw[P3 Q,P3 Q]
    show(by rw[a,H],Ĉ r1 b)
theorem Md(H:Ğ F v d)(h:ϲn L1.map Ļ ds.map)(r:Ű (Ϻi Ī) (ϴ2 Ī)):
  Ϭr (ϧS v) (uT ds k d):=by
 delta putK uT;rw[BI k h];by_cases A:Γ ds.any (λV=>Ë<|V.1=k)
 .rw[Os A,Os A]
  show Cg H h r
 rw[P3 A,P3 A,Z6,Z6,Z6,Z6,h];show(rfl,r.app<|Ĉ H Ā)
theorem EO:∀{v:À V}{ds:À Go}{s:À Key},Ű v ds->ϫq=some s->v=ϳU kV
 |_,_,_,.nil,e=>by cases e;rfl
 |_,_,s,.cons (d:=d) (ds:=ds) h r,e=>by
  let e:(match keyOf d,ϫq with|some k,some r=>Â (k::r)|_,_=>none)=some s:=e;cases h1:keyOf d with
  |none=>rw[h1]at e;cases e
  |some k=>
   cases h2:keysOf ds with
   |none=>rw[h1,h2]at e;cases e
   |some q=>rw[h1,h2]at e;cases e;rw[iq h h1,EO r h2];rfl
theorem CI(r:Ğ F y d)(e:pL d=ϱP):∃b,y=Å b/\F b=Â (č<|ϳj kV):=by
 cases r with
 |@tup a xs ds h1 h2=>have e:ϫq=ϱP:=e;rw[EO h2 e]at h1;show(a,rfl,h1)
 |Y4=>cases e
 |bl _=>cases e
 |int _=>cases e
 |str _=>cases e
 |lst _ _=>cases e
 |dct _ _ _=>cases e
 |dtt _ _ _=>cases e
end
def I0(tk t:TE):TE:=λa H Q=>∀p,ϳ7->xT [(tk,t)] a (Į p ϫI) λs h=>h p=Â ϫI/\∃k b v,s=[(Å b,v)]/\h b=Â (č<|ϳj kV)/\Q (Å p) (ϐe<|.dT [(k,v)])
theorem LW{pos:Pos}(U:ϲD 1)(h:ϧ0 [Â ke] [ve] [(tk,tv)]):õ (ϫW [Â ke] [ve]) (I0 tk tv):=by
 ext i s C H Q I q;let N:=ϖz;let j:=ώB dT (h':=ϱY ((ı "dict" ϤZ))) (t':=s.toks) ϭP ß<|IY s.heap I.big;apply wpAny_Dict_any rfl rfl Ø (ϱF<|1<=15)<|Y6 (h i _ C _ _ j<|q _ N) λws G zzz=>?_;let(P,F,f,rel,e,k,b,v,E,D,y):=zzz;subst E;cases rel with
 |@cons p w _ _ r1 r2=>
  cases r2;let(A,J):=w;let(R,B):=r1;cases(show A=ϪI from R);let(z,u,xs,rel,l):=Qs f.Y1 e;cases rel;delta storeAll;rw[List.forIn_cons];apply Sc<|Sc<|wpAny_dictSet_heap (knd:=tupleKind ϺR) (hsz:=Ν) (ó<|X.A.units<cLine) (L2.iq f.Y1 D) l λh' d x=>ϥY;dsimp only;rw[List.forIn_nil];apply Zr ⟨Å s.heap.objs.size,_,?_,rfl,y⟩;let(o,S,E,g,m,n,r,_,t):=d;apply vO f (ϵ1 True.intro) x ⟨o,g⟩ ⟨Ϥy (Ĕ 1),u,_,(KT.put (L1:=[]) (xs:=[]) Ā k D B).keeps λc Y W=>?_,o,S,E,g,m,n,r,t⟩;rw[aA<|QR W e ϶U];show W
theorem R6:δ QK Ge:=by
 ext x y X D F H f Q s R Y p;cases R with
 |Y4=>show p.elim
 |bl _=>show p.elim
 |int _=>show p.elim
 |str _=>show p.elim
 |lst _ _=>show p.elim
 |tup _ _=>show p.elim
 |@dct a L1 ds h1 h2 h3=>
  let T:aq M H f ŀ (ϱi (pL D)<|ϨV ϲB):=p
  cases hk:pL D with
  |none=>rw[hk]at T;show T.elim
  |some k=>
   rw[hk]at T;let P:ă f ŀ (ϨV ϲB):=T;let e:sL ϲB k=none:=by
    cases ds with|nil=>rfl|cons q r=>let(c,v):=q;cases c<;>rfl
   rw[e]at P;show P.elim
 |@dtt a L1 ds h1 h2 h3=>
  let T:aq M H f ŀ (ϱi (pL D)<|ϨV<|(ù,ù)::ϴ2 (λp=>(ä<|Î p.1 kD,p.2))):=p
  cases hk:pL D with
  |none=>rw[hk]at T;show T.elim
  |some k=>
   rw[hk]at T;let P:ă f ŀ (ϨV<|(ù,ù)::ϴ2 (λp=>(ä<|Î p.1 kD,p.2))):=T;rw[zu]at P;cases hv:oE ds k with|none=>rw[hv]at P;show P.elim|some d=>rw[hv]at P;let(v,v1,V):=yO h2 h3 hv;let(b,rfl,B):=CI Y hk;show(a,v,rfl,Ñ ⟨L1,k,b,È ϹE,rfl,ϥ2 B,v1.symm⟩,ϑd V)
theorem Oh(h:ć (DK fa fb) σ H Q):I0 (ć fa) (ć fb) σ H Q:=by
 let(F,j,i,S,p):=h;ext q a;let E:Κ F (Į q ϫI):=Ϗ5;apply(F,j,i,ϫ1,ş ((Ϸe).ext E) ϗU);let(G1,D,K):=ϵx W;let e:=E.trans D;apply(G1,j,i,(ϫ1).ext D,ş (ϴB X e) ϗy);let(G2,d,t):=A.Z2 s C;let f:r q=Â ϫI:=Ϯa aX;apply(f,?_);cases hk:pL x.er with
 |none=>rw[hk]at py;show py.elim
 |some k=>
  rw[hk]at py;let(b,rfl,B):=CI K hk;apply(k,b,u,rfl,ϒ9<|d.ff _ _ B,?_);let P:ŀ (ϱA ϯ0):=py;let c:=e.trans d;let l:ύl:=ϮM;let g:G2 q=none:=(ϹA).nw q (bX aX) l;apply P (Å q) G2 _ [q] (ϲr c.ff ϻa ϒY) ⟨ϱA aX rfl<|Ĉ t Ā,Ø,ϴL⟩ ϴL
  .let B:ϸU:=ϬW
   rw[ϳk];show Ϯa (Ù ϳk z)
  .let B:ϸU:=ϖX
   rw[ϳk];show ϒ9 z
  .let B:ϸU:=Ϲk (z a)
   show(ϹA).nw b (Ù ϳk z) w
  .let:b=q:=ϵi
   rw[this];show g
  let:b=q:=ϵi
  rw[this];show a
theorem Stt.writeT{K:Ch}{F:Hp}{f:Env}{P:À Ix}(S:ϲ0 K σ f P){i:Nat}{D:À (À Key×Go)}(x:f[i]?=Â (Â<|ϱA D)):
  ∃a s,û σ=Â (Â<|Å a)/\H a=Â (.dT s)/\ϲn s.map Ļ D.map/\Ű (ϳU Ī) (D.map Ī)/\
   ∀c h k d,Κ c h->ϲn k.map Ļ d.map->D1 K c (ϳj Ī) (Ϻn Ī)->
    ∃p,ϨG c (Ϲf Ϭg) σ (Ϙ1<|Â<|ϱA d) p/\ϰz P c (Ϲf Ϭg) p:=by
 let(v,t,g1,g2,g,j,rfl,l):=S.own.at x;cases j with
 |@odt a s _ ha hk hr=>
  let nd:=S.nd;simp only[K9T,Y7,K92,K8k,Z7,K9B]at nd;obtain⟨u,⟨na,w⟩,N⟩:=nd;apply(a,s,g,ha,hk,hr,ϙG);let fa:c a=none:=ϐ3 (ϪG Ø)
  let own:=l c (Ϲf Ϭg) e.ff (λb m o q=>by
   let:ϷH:=by
    ext rfl;rcases Y7.mp m with m|m
    .exact N b m b (È rfl) rfl
    show na m
   rw[aA this];show ϤU) (Å a) (ϱA d) [a]<|ϱA aX Q r
  rw[oQ g]at own;let Zm:ϩl (ϲo [a]) (c b):=ύ4
  apply(ϲo [a],(?_,own,S.nd,Zm,Ù K8z S.len),(e.ff,ϑE,λb m=>È m,Ϗw))
  .intro b o q
   rw[aA<|ϳf fa];show ϯZ
  let B:ϷH:=Ϲk (m Ø)
  rw[ϳk];show ϤU
set_option tactic.hygienic true in
theorem Pk(h:ϱn (Gs i k a)):J1 ϸK (ć k) (ć a) D σ H:=by
 let(F,o,f,S,p):=h;delta Gs at p;replace p:=otk p;let(d,e,p):=p
 apply(F,o,f,S,Ķ λy py v Q U Y e1 J W=>?_);let(G1,c,K):=J.Z2 e1 W;let(l,s,A,B,r,C,wr):=S.writeT e;apply(_,A,G1,o,f,S.ext c,ş (ϴB py c) λz Z u F2 t V x N O=>?_);let(G2,g,I):=N.Z2 x O;let E:=c.trans g;cases hk:pL z.er with
 |none=>rw[hk]at Z;show Z.elim
 |some q=>
  rw[hk]at Z;let P:ă f (ϵ2 f D) (Ì ϯx (ω o.set odt (uT d q y.er)) Í):=Z;by_cases m:ϯx
  .rw[Os m]at P
   let L:ϫ9 s.length:=ϬY (Ŧ r) I4
   let R:=ϛN<|C.same E.ff;let(j,w,T):=wr G2 t _ _ E R.1 R.2;let(b,rfl,G):=CI I hk;show(l,_,rfl,Ñ ⟨s,q,b,϶k B,rfl,g.fh _ _ G,by rw[L];show uI m,rfl⟩,P σ G2 _ j w T)
  rw[P3 m]at P;show P.elim
section
variable{X:Cx}{p pos pos':Pos}
theorem RY(U:ϲD 1)(A:ê a fa)(B:ê b fb)(S:Io b):ê (ŧ a b pos) (F4 Ge fa fb):=λr m=>peI (zS U ϴP ϸD S) (ū (Gm R6 q))
theorem Rr(U:ϲD 1)(A:ê a fa)(B:ê b fb):ê (ϫW [ϴW] [b]) (DK fa fb):=ϰt peI (LW U<|mL ϴP ϸD Ae) Oh
theorem KL(i:Nat)(hu:ϲD 1)(hb:ê b fb)(h:ê e fa)(hN:Û (Α=ö))(hv:϶L)(hd:Ŭ)(hcd:ő ϵd)
  (hs:Û (ϤJ (Â<|ŧ (î p) b pos') pos.line X.env=϶b)):Λ (Ϻ3<|ŧ (î p) b pos') (Gs i fb fa):=ϻ0 (psI (ER hu ϶R ϧC ϓF hs) (ū (Pk q)))
end
section
variable{ρ:Env}{a b k:Fe}
theorem Qz:DK a b ρ=opK (λx y=>ϱi (pL x) (.ok<|ϱA [(k,y)])) ű ϶D:=by
 delta DK;cases a ρ<;>cases b ρ<;>rfl
def Dd(o:Ú (Ú OD))(a k:ď)(i:Nat)(b:Env):ϰ2:=match o with
 |some (some<|.odt L1)=>Zi (λy=>Zi (λz=>match pL z.er with
  |some q=>Ì Ϲn (ω b.set odt (ό1 y.er)) Í
  |none=>Í) k) a
 |_=>Í
theorem EZ(i:Nat):Gs i k a ρ=Dd ϱw ű (k ρ) i ρ:=by
 delta Gs Dd;generalize ϱw=o;rcases J6 (β:=Nat) o with rfl|rfl|⟨d,rfl⟩|⟨X,rfl⟩|⟨X,rfl⟩|⟨X,rfl⟩|⟨X,rfl⟩
 .rfl
 .rfl
 .rfl
 .rfl
 .rfl
 .rfl
 cases a ρ<;>cases k ρ<;>rfl
theorem Fb{L1:À (À Key×Go)}{z:À Int}(a:Ϲn):Dd (some<|Â<|ϱA L1) (.ok Ř) (Ý<|ä ϒD) i ρ=ω ρ.set odt (uT L1 (z.map Sum.inl) d):=by
 change(match pL (ë<|ϰx ϒD).er with
  |some q=>Ì Ϲn (R.ok (Out.nx<|ϳZ<|some<|ϱA<|ό1 (Ϩr).er)) Í
  |none=>Í)=_
 rw[aW,aW];change(match ϻ4 ϒD with
  |some q=>Ì Ϲn (R.ok (Out.nx<|ϳZ<|some<|ϱA<|ό1 d)) Í
  |none=>Í)=_
 rw[oP];show Os a
end
def oV:ζ|.tuple [],.tuple ys=>Ý<|ä ys|.tuple (x::xs),.tuple ys=>BP (ä ϫT)<|ä ys|_,_=>Í
def Jz:R2:=ž ((∃l b zs,x=Å l/\y=Å b/\H l=Â (č [])/\H b=Â (č zs)/\Ο (Å b))\/D9 x y H Q)
def CA(i:Nat)(b:Fe):Fe:=λa=>match ϴi with
 |some (some<|.od L1)=>ï (b a) λy=>ϱi (ϴn y.er) (dq<|Ϩz k)
 |_=>Í
section
variable{X:Cx}
theorem Bl:ϵh Add Jz:=by
 ext p s f H x y v u Q I R Y h;rcases h with⟨l,b,zs,rfl,rfl,e,B,q⟩|h
 .cases R
  cases Y;let(Z,V,r,T):=(ń (϶Z H s.heap l (č []))<|I.Y1 l _ e)
  let(z,ws,g,P):=(ń (϶Z H s.heap b (č zs))<|I.Y1 b _ B)
  cases r;obtain⟨⟨cls,a,data,L⟩,j,hc,n,D⟩:=T;obtain⟨⟨c,d,data2,S⟩,o,E,m,hd2⟩:=P;simp only at hc D E hd2;subst hc D E hd2;show ϔb (tuple_addW0 l b _ ws.toArray n m a d L S rfl) ⟨j,o,⟨Å b,H,I,rfl,q⟩⟩
 show Kh p s f H x y v u Q I R Y h
theorem BL:δ Jz oV:=by
 ext x y d D F H f Q s R Y p;cases R with
 |tup h1 h2=>
  cases Y with
  |tup h3 h4=>
   cases h2 with
   |nil=>have P:ŀ (.sh<|ä _):=p;show È ⟨_,_,_,rfl,rfl,ϹE,ϥ2 h3,ϑd<|č h3 h4⟩
   |cons u v=>exact Ñ<|OY _ _ _ _ _ _ _ _ s (.tup h1 (.cons u v)) (.tup h3 h4) p
  |_=>cases h2<;>show False.elim p
 |_=>show False.elim p
set_option tactic.hygienic true in
theorem W3(h:ć (CA i fb) σ H Q):Qf ϸK (ć fb) σ H Q:=by
 let(F,q,f,S,p):=h;delta CA at p;replace p:=odk p;let(b,e,p):=p
 let(a,s,c,j,l,m,_):=S.writeD e;apply(Å a,c,F,q,f,S,Ķ λy py u F2 t Y g r W=>?_);let(G2,D,K):=r.Z2 g W;cases hk:keyOf y.er with
 |none=>rw[hk]at py;show py.elim
 |some k=>
  rw[hk]at py;let P:ă f ŀ (dq<|eI b k):=py;cases hv:eI b k with|none=>rw[hv]at P;show P.elim|some d=>rw[hv]at P;let o:ŀ Ř:=P;let(v,v1,V):=BJ l m hv;show(a,v,rfl,È ⟨s,k,È<|D.hh _ _ j,iq K hk,v1.symm⟩,ϗJ (T0.pre D o)<|V.same D.ff)
theorem Lp(i:Nat){p pos:Pos}(hu:ϲD 1)(hb:ê b fb)(hs:Io b)(hN:Û (Α=ö))(hv:϶L)(hd:Ŭ)(hcd:ő ϵd):
  ê (ŧ (î p) b pos) (CA i fb):=ϻ0 (peI (zS hu ϶R ϧC hs) (ū (W3 q)))
end
def Sq(o:Ú (Ú OD))(b:ď):ď:=match o with
 |some (some<|.od L1)=>Zi (λy=>ϱi (ϴn y.er) (dq<|Ϩz k)) b
 |_=>Í
theorem Qo(i:Nat):CA i fb ρ=Sq ϱw ϻR:=by
 delta CA Sq;generalize ϱw=o;rcases J6 (β:=Nat) o with rfl|rfl|⟨d,rfl⟩|⟨X,rfl⟩|⟨X,rfl⟩|⟨X,rfl⟩|⟨X,rfl⟩
 .rfl
 .rfl
 .rfl
 .rfl
 .rfl
 .cases fb ρ<;>rfl
 rfl
theorem Qv{z:Int}(h:Ϩz (È z)=Ω):Sq (some<|Â<|.od L1) (Ý<|Ä z)=Ħ Ř:=by
 change(ϱi (ϴn (ë<|int z).er)<|dq<|Ϩz k)=_
 rw[aW];change dq (Ϩz<|È z)=_;rw[h];rfl
theorem FJ(X y:À Go)(h:y≠[])(H:ϻB y.length<=H6):oV (ä X) (ä y)=Ý (ä<|X++y):=by
 cases X with
 |nil=>rfl
 |cons x X=>
  change BP (ä Ϲ7) (ä y)=_;rw[Rq,Os ⟨ϲI,h,H⟩]
def TB(op:Str->V):V->À V->Hp->Ô VK:=λx X H Q=>∃a,x=Æ a/\X=[]/\Ĕ a.length/\Ο (op a)
def GJ(op:Str->Go)(a:Fe):Fe:=λb=>Φ λx=>match x.er with
 |.str s=>Ì ϲT (Ý ϻ8) Í
 |_=>Í
def Cm(s:Str):Go:=Æ<|Txt.lstrip s
def Ep(s:Str):Go:=Æ<|Txt.rstrip s
section
variable{X:Cx}
theorem wz:ϵF "str.lstrip" (TB λa=>Æ<|Txt.lstrip a):=by ext p s b H x S v u Q I R r h;let(a,rfl,rfl,l,q):=h;let(t,rfl):=R;cases r;show SC.lstrip (λU k=>⟨Æ _,H,ϨI,ϪN,q⟩) l
theorem De:ϵF "str.rstrip" (TB λa=>Æ<|Txt.rstrip a):=by ext p s b H x S v u Q I R r h;let(a,rfl,rfl,l,q):=h;let(t,rfl):=R;cases r;show SC.rstrip (λU k=>⟨Æ _,H,ϨI,ϪN,q⟩) l
set_option tactic.hygienic true in
theorem Dr{id:String}(slot:Slot "str" name id)(t:typeOf (ŋ id)=pure (Ĳ "method_descriptor"))(e:ϵF id (TB opV))(hr:∀K F a,Ğ F (opV a)<|op a)(A:ê a fa)(b:Û (ϦY name X.env Υ=Υ))(l:Û ϷY):
  ê (Χ (ϲl a name ap) [] cp) (GJ op fa):=λr m=>by
 let q:=Sz (apos:=ap) (cpos:=cp) PySem.F.plainAttrs_str slot t e ϴP b l;apply peI q λo H Q h=>?_;let(F,g,f,S,p):=h;apply(F,g,f,S,Ķ λx P v i j n e1 R w=>?_);let(G1,D,k):=ϵx w;generalize x.er=d at P k;cases k with
 |str z=>
  let c:ă f ŀ (Ì ϧp (Ý (op z)) Í):=P
  split at c
  .rename_i Z
   show(rfl,z,rfl,rfl,hR Z,ϗJ (T0.pre D c)<|hr _ _ _)
  .exact c.elim
 |Y4=>show P.elim
 |bl _=>show P.elim
 |int _=>show P.elim
 |dct _ _ _=>show P.elim
 |lst _ _=>show P.elim
 |tup _ _=>show P.elim
 |dtt=>show P.elim
end
section
variable{op:Str->Go}
def Xi(op:Str->Go):ď->ď:=λr=>r.bind λx=>match x.er with
 |.str s=>Ì ϲT (Ý ϻ8) Í
 |_=>Í
theorem P9:GJ op a ρ=Xi op ű:=rfl
theorem Qb:Xi op (Ý<|Æ s)=Ì ϲT (Ý ϻ8) Í:=by
 change(match (ë<|Æ s).er with
  |.str s=>Ì ϲT (ϳV (ë ϻ8)) Í
  |_=>Í)=_
 rw[aW]
end
def B6:ζ
 |.str x,.int n=>Ì (Ϩb 1/\0<=n/\Ϫ4) (Ý (Æ ϑR)) Í
 |_,_=>Í
theorem ME{n:Int}(h:Ϩb 1)(H:0<=n)(f:Ϫ4):MulOk x n:=by
 let pr:É x.length*n<=1*n:=Zcg Á H;apply(?_,λN _=>?_,λN _=>?_)
 .rw[Bool.or_eq_false_iff]
  show(Pi Á,Pi Á)
 .let:É x.length<=(϶H-1) / n:=ñ (Int.le_ediv_iff_mul_le Á)
  lia
 delta Builtin.Str.tooLong;rw[K83];let:x.length*n.toNat<=1*n.toNat:=Zax _ h;show Pi Á
section
variable{X:Cx}{M:Mx}
set_option tactic.hygienic true in
theorem Nk(_:Ŕ):δ QJ B6:=by
 ext x y d D F H f Q s R Y p;cases R with
 |str x=>
  cases Y with
  |int n=>
   delta B6 at p;dsimp only at p;split at p
   .rename_i hc
    show(_,_,rfl,rfl,ME hc.1 hc.2.1 hc.2.2,ϵg<|Æ _)
   show p.elim
  |_=>show False.elim p
 |_=>show False.elim p
theorem HU{n:Int}(h:Ϩb 1)(H:0<=n)(f:Ϫ4):B6 (Æ x) (Ä n)=Ý (Æ ϑR):=by
 change(Ì (Ϩb 1/\0<=n/\Ϫ4) (R.ok (ë<|Æ ϑR)) Í)=_;rw[Os ⟨h,H,f⟩]
end
def eDC(l:À Ϫ5):Fe:=λ_=>Ϸm<|l.map λp=>(Ñ p.1,Æ p.2)
def kvC(l:À Ϫ5):À ϳ5:=l.map λp=>(Ñ p.1,Æ p.2)
theorem X0:∀(l:À Ϫ5)(b:Hp)(R:À (V×V)->Ô Hp),R (όf V.str p.1 p.2) b->xT (όf tC (Æ p.1)<|Æ p.2) σ b R:=by
 ext l
 induction l with|nil=>ext b R h;show h|cons p l ih=>ext b R h;show ih b (λs c=>R ((V.str p.1,V.str p.2)::s) c) h
theorem MR(c:ϑU ϩi)(L:l.length<=15)(h:ć (eDC l) σ H Q):H_ (όf tC (Æ p.1)<|Æ p.2) σ H Q:=by
 let(F,e,d,S,p):=h;ext q a;let g:Κ F (Į q ϥl):=Ϗ5;apply X0 l _ _ ⟨aX,ϩi,?_,by delta kvC;rw[I4];show L,?_⟩
 .unfold kvC
  rw[Tk];rfl
 rw[c];let P:ŀ (.od<|l.map λp=>(Ñ p.1,Æ p.2)):=p;let f:ύl:=ϮM;let r:∀l:À Ϫ5,ύk (Î ϩi Ī) ((l.map λp:Ϫ5=>((Ñ p.1:Key),ϹH p.2)).map Ī):=by
  ext l
  induction l with|nil=>show Ā|cons x l ih=>show Ĉ (Æ _) ih
 apply P (Å q) F _ [q] (ϲr g.ff ϻa ϒY) ⟨.od aX ?_<|r l,Ø,ϴL⟩ ϴL
 .let B:ϸU:=ϬW
  rw[ϳk,ϳk];show z
 .let B:ϸU:=by ext rfl;rw[f]at z;cases z
  rw[ϳk];show g.fh _ _ z
 .exact w
 .unfold kvC
  rw[Tk,Tk];rfl
 .let:b=q:=ϵi
  rw[this];show f
 let:b=q:=ϵi
 rw[this];show a
theorem W9{pos:Pos}(P:ϧ0 keys values (όf tC (Æ p.1)<|Æ p.2))(h:Γ keys.all (·.isSome))(H:ϗv)(a:keys≠[])(b:keys.length<=15)(m:ϑU ϩi)(L:l.length<=15):ê ϗw (eDC l):=λ_ _=>peI (Em P h H a b) (ū (MR m L q))
theorem X_:eDC l ρ=Ϸm (l.map λp=>(Ñ p.1,Æ p.2)):=rfl
theorem Wr(k:À ϰo)(s:Str):gDx (dD k) (Æ s)=dq (ϫU<|Ñ s):=by
 change dq (eJ _ _)=_;rw[lC]
end L3
namespace L3
open PySem L2 PySem.Spec PyProof.Rows
section
variable{X:Cx}{M:Mx}
def gTl(n:Nat)(r:Fgs):Fg:=λx a=>match x with
 |.sh (.list ds)=>Ì ϯv (r ϸa a) Í
 |_=>Í
def QA(K:Ch)(n:Nat)(t:TGs):TG:=λv b H Q=>∃a X,v=Å a/\ϲp X/\ϘO
theorem Nm{pos:Pos}(hc:Ź)(h:Ϥa es t)(N:Ã (ϳt es)=n)(S:(ϳt es).findIdx? Ļ=none):PG X (ϳx k pos) (QA X.K n t):=by
 ext p s f H v u Q I r w;let(a,y,e1,q,L,w):=w;subst e1;cases r;obtain⟨i,R,⟨o,m,g,c,_,d⟩,Z⟩:=ϸP q;rw[assign_Tuple];apply ϳJ K7o;delta unpack;rw[show Ã (ϳt es)=i.toArray.size by simp[N,<-L,R.length],S];apply Ϲh<|PySem.W.kun_itemsOf ϱW ⟨o,g,c,m,d⟩ λl x=>?_;let j:ų p f H {s with heap:=l}:=ϕc;show h p _ f H y _ Q j Ϙ5 w
set_option tactic.hygienic true in
theorem R8(h:ϪX (gTl k gs) v σ H Q):QA M.K k (ϫy is gs) v σ H Q:=by
 let(F,b,f,x,X,S,r,d,p):=h;cases x with
 |sh D=>
  cases D with
  |list s=>
   delta gTl at p;dsimp only at p;let(g,U,R):=r;cases g with
   |sh q=>
    by_cases l:s.length=k
    .rw[Os l]at p
     cases q with|@lst a vs _ h1 h2=>show(a,vs,rfl,ϻg S.same,ϤF ϴK,F,b,f,ϳU OD.sh,[],S,(Ps.shs h2,K8w,ϰk),ϰk,p)
    rw[P3 l]at p;show p.elim
  |_=>show False.elim p
 |_=>show False.elim p
theorem ML{pos:Pos}(hc:Ź)(h:ϫ2 es is gs)(H:Û (Ã (ϳt es)=n))(S:Û ((ϳt es).findIdx? Ļ=none)):DG M X (ϳx k pos) is (gTl n gs):=λr m=>by let q:=Nm (pos:=pos) (k:=k) hc ŝ H S;rw[r]at q;show pgI q (ύv z R8)
theorem P0:gTl n r (.sh<|Ö ds) ρ=Ì ϯv (r ϸa ρ) Í:=rfl
end
end L3
namespace B
def IsE(n:Nat)(d:Nat->ĭ)(e:ĭ):Prop:=e 0=0/\∀k,0<k->k<n->(∀j,j<k->e j+d j k<=e k)/\∃j,j<k/\e k=e j+d j k
def IsL(n:Nat)(d:Nat->ĭ)(T:Int)(l:ĭ):Prop:=l (n-1)=T/\∀k,ϔU (l k) (l j)
theorem Ca{n:Nat}{d:Nat->ĭ}{e f:ĭ}(he:όI)(h:IsE n d f):ϥP (e k=f k):=by
 ext k
 induction k using Nat.strongRecOn with
 |ind k ih=>
  ext H;by_cases a:k=0
  .subst a
   rw[he.1,h.1]
  let(A,j,b,c1):=he.2 k Á H;let(w,J,B,K):=h.2 k Á H;let:=ih j b Á;let:=ih J B Á;let:=A J B;let:=w j b;lia
theorem TZ{n:Nat}{d:Nat->ĭ}{T:Int}{e l:ĭ}(he:όI)(a:ϫr l)(t:T=ϯT):∀m k,k+m+1=n->e k<=l k:=by
 ext m
 induction m using Nat.strongRecOn with
 |ind m ih=>
  ext k H;by_cases h:m=0
  .subst h
   let:k=n-1:=Á
   rw[this,a.1,t];lia
  let(A,j,b,B,c1):=a.2 k Á;let:=ih Ϩt Á j Á;let:=(he.2 j Á B).1 k b;lia
theorem A4{n:Nat}{d:Nat->ĭ}{T:Int}{e l:ĭ}(N:0<n)(he:όI)(a:ϫr l)(t:T=ϯT):l 0=0:=by
 let le:=TZ he a t;let key:ϥP (l k=e k->l 0=e 0):=by
  ext k
  induction k using Nat.strongRecOn with
  |ind k ih=>
   ext H h;by_cases c:k=0
   .subst c
    show h
   let(A,j,b,c1):=he.2 k Á H;let f:=(a.2 j Á).1 k b H;let g:=le Ϩt j Á;show ih j b Á Á
 let:=key (n-1) Á (by rw[a.1,t]);rw[this,he.1]
theorem U1{n:Nat}{d:Nat->ĭ}{T:Int}{l:ĭ}(a:ϫr l):IsE n (λi j=>d Ϩt<|n-1-i) (λk=>T-l ϸy):=by
 apply(?_,λk h K=>?_)
 .change T-l (n-1-0)=0
  rw[Zbf,a.1];lia
 let(A,J,b,B,c1):=a.2 ϸy Á;apply(λj H=>?_,n-1-J,Á,?_)
 .let:=A Ϩt Á Á
  change T-l Ϩt+d ϸy Ϩt<=T-l ϸy;lia
 change T-l ϸy=T-l ϑu+d ϸy ϑu;rw[ó (ϑu=J)];lia
theorem Jn{n:Nat}{d:Nat->ĭ}{T:Int}{l f:ĭ}(a:ϫr l)(h:ϫr f)(k:Nat)(H:k<n):l k=f k:=by
 let:=Ca (U1 a) (U1 h) ϸy Á;let this:T-l (n-1-ϸy)=T-f (n-1-ϸy):=this;rw[ó (n-1-ϸy=k)]at this;lia
end B
namespace B
inductive F where
 |nil
 |cons (k:Nat) (c r:F)
namespace F
def pre:F->Ó|nil=>[]|cons k c r=>k::(pre c++pre r)
def roots:F->Ó|nil=>[]|cons k _ r=>k::roots r
def Ss:F->Ó|nil=>[]|cons k c r=>Ss r++(k::Ss c)
def app:F->F->F|nil,g=>g|cons k c r,g=>϶6<|app r g
def mir:F->F|nil=>nil|cons k c r=>app (mir r)<|cons k (mir c) nil
def map(h:Ϩm):F->F|nil=>nil|cons k c r=>ϛ7<|map h r
def Con(ch:Nat->Ó):F->Prop|nil=>True|cons k c r=>ch k=roots c/\ϩb c/\ϩb r
def Eld(e:ĭ):Int->F->Prop|_,nil=>True|p,cons k c r=>e k=p/\Eld e á c/\ϴT r
theorem pre_app:∀f g:F,pre (app f g)=Ϻf++pre g:=by
 ext y
 induction y with|nil=>ext g;show rfl|cons k c r ihc_ ihr_=>ext g;rw[app,pre,pre,ihr_ g,K92,K9M]
theorem Oa{e:ĭ}{p:Int}:∀f g:F,ϴT (app f g)↔ϴT f/\ϴT g:=by
 ext y
 induction y with|nil=>ext g;rw[app,Eld];simp|cons k c r ihc_ ihr_=>ext g;rw[app,Eld,Eld,ihr_ g];simp only[and_assoc]
theorem snoc:∀f:F,f≠nil->∃g k c,f=app g (϶6 nil)
 |nil,h=>ϱH h
 |cons k c nil,_=>⟨nil,k,c,rfl⟩
 |cons k c (cons k' c' r'),_=>by
  let(g,a,b,e):=snoc ϺM ϶U;show(϶6 g,a,b,by rw[app,e])
theorem tU{e:ĭ}{q:Int}:ϫa (ϴT f) (q≠p->(∀j∈Ϻf,ĺ≠q)->ļ Ϻf (λj=>Ë<|e j=q)=[]):=by
 ext x y
 revert x
 induction y with
 |nil=>ext _ _ _ _;show rfl
 |cons k c r ihc_ ihr_=>
  ext p h P H;let(a,b,d):=h;rw[pre,K8O,P3 (by rw[K9k,a];exactλz=>P z.symm),K8o,ihc_ _ b (λz=>H k ϭz z.symm) (λj J=>H j ϭG),ihr_ p d P λj J=>H j ϭG];rfl
theorem KC{e:ĭ}:ϫa (ϴT f) ((∀j∈Ϻf,ĺ≠p)->ļ Ϻf (λj=>Ë<|e j=p)=roots f):=by
 ext x y
 revert x
 induction y with
 |nil=>ext _ _ _;show rfl
 |cons k c r ihc_ ihr_=>
  ext p h q;let(H,a,b):=h;rw[pre,K8O,Os (by rw[K9k,H]),K8o,tU _ c a (λz=>q k ϭz z.symm) (λj J=>q j ϭG),ihr_ p b (λj J=>q j ϭG),roots];rfl
theorem yH{ch C:Nat->Ó}:∀f:F,(∀q∈Ϻf,ch q=C q)->Con C f->ϩb f:=by
 ext y
 induction y with|nil=>ext _ _;show trivial|cons k c r ihc_ ihr_=>ext h hc;let(H,a,b):=hc;show(Ę (h k ϭz) H,ihc_ (λq m=>h q ϭB) a,ihr_ (λq m=>h q ϭB) b)
theorem MX{e:ĭ}:ϫa (ϴT f) ((Ϻf).Nodup->(∀j∈Ϻf,ĺ≠p)->Con (λq=>ļ Ϻf λj=>Ë<|e j=É q) f):=by
 ext x y
 revert x
 induction y with
 |nil=>ext _ _ _ _;show trivial
 |cons k c r ihc_ ihr_=>
  ext p h nd P;let(d,a,b):=h;rw[pre,K8k,K9T]at nd;let(n,N,g,i):=nd;let H:á≠p:=P k ϭz
  let K:∀j∈pre c,ĺ≠á:=λj m z=>n (by
   let:j=k:=Á
   rw[<-this];simp[m])
  let R:∀j∈pre r,ĺ≠á:=λj m z=>n (by
   let:j=k:=Á
   rw[<-this];simp[m])
  let pc:∀j∈pre c,ĺ≠p:=λj m=>P j ϭB;let pr:∀j∈pre r,ĺ≠p:=λj m=>P j ϭB;let split:∀q:Nat,É q≠p->ļ (pre<|϶6 r) (λj=>Ë<|e j=É q)=ļ (pre c) (λj=>Ë<|e j=É q)++ļ (pre r) (λj=>Ë<|e j=É q):=λq Q=>by rw[pre,K8O,P3 (by rw[K9k,d];exactλz=>Q z.symm),K8o]
  apply(?_,yH c (λq m=>?_)<|ihc_ _ a N K,yH r (λq m=>?_)<|ihr_ p b g pr)
  .change ļ (pre<|϶6 r) (λj=>Ë<|e j=á)=roots c
   rw[split k H,KC _ c a K,tU p r b H R,Zw]
  .change ļ (pre<|϶6 r) (λj=>Ë<|e j=É q)=ļ (pre c) (λj=>Ë<|e j=É q)
   rw[split q<|pc q m,tU p r b (pc q m) (λj M z=>i q m j M Á),Zw]
  change ļ (pre<|϶6 r) (λj=>Ë<|e j=É q)=ļ (pre r) (λj=>Ë<|e j=É q);rw[split q<|pr q m,tU _ c a (λz=>R q m z) (λj M z=>i j M q m Á),K9B]
end F
end B
namespace B
namespace F
structure Pf(n:Nat)(e:ĭ)(c:F):Prop where
 pre:0::pre c=ϰf
 root:e 0=-1
 eld:Eld e 0 c
variable{n:Nat}{e:ĭ}{c:F}
def full(c:F):F:=cons 0 c nil
theorem Pf.pos(h:ύo):0<n:=by
 let:=Ŧ h.pre;rw[Zo,Z1]at this;lia
theorem Pf.preF(h:ύo):F.pre ϫB=ϰf:=by delta full;rw[F.pre,F.pre,Zw];show h.pre
theorem Pf.eldF(h:ύo):Eld e (-1) ϫB:=⟨h.root,h.eld,trivial⟩
theorem Pf.con(h:ύo):Con (λq=>ļ ϰf λj=>Ë<|e j=É q) ϫB:=϶N (MX (-1) ϫB h.eldF (Ù h.preF List.nodup_range) (λj _=>Á)) h.preF
def R(c:F):Ó:=Ss ϫB
def g(c:F)(k:Nat):Nat:=(R c).idxOf k
def e1(e:ĭ)(c:F)(i:Nat):Int:=match û (R c) with
 |some k=>Ì (e k<0) (-1) (g c (ā (e k)):Int)
 |none=>-1
def gi(c:F)(p:Int):Int:=Ì (p<0) (-1) (g c p.toNat:Int)
def c1(c:F):F:=map (g c)<|mir c
theorem Ay{e:ĭ}:ϫa (ϴT f) (∀k∈ϳC,e k=p\/∃j:Nat,j∈ϳC/\e k=ĺ)
 |_,nil,_,_,m=>ϧL
 |p,cons a c r,h,k,m=>by
  let(H,d,g):=h;rw[F.pre]at m;rcases Z7.mp m with rfl|m
  .exact È H
  .rcases Y7.mp m with m|m
   .rcases Ay _ c d k m with z|⟨j,J,b⟩
    .exact Ñ ⟨a,Ù F.pre Uf,z⟩
    .exact Ñ ϖE
   .rcases Ay p r g k m with z|⟨j,J,b⟩
    .exact È z
    .exact Ñ ϖE
end F
end B
namespace B
namespace F
def path:F->Ó|nil=>[]|cons k c nil=>k::path c|cons _ _ (cons k c r)=>path<|϶6 r
def oh:F->Nat->Nat->F|f,0,x=>ϘD|nil,_+1,_=>nil|cons k c nil,d+1,x=>cons k (oh c d x) nil|cons k c (cons k' c' r'),d+1,x=>϶6<|oh ϺM (d+1) x
theorem zr:∀(f:F)(x:Nat),path ϘD=[x]|nil,x=>rfl|cons k c nil,x=>rfl|cons k c (cons k' c' r'),x=>by let:=zr ϺM x;rw[app]at this⊢;rw[app];rw[path];show this
theorem zd{e E:ĭ}:ϫa (∀k∈ϳC,E k=e k) (ϴT f->Eld E p f):=by
 ext x y
 revert x
 induction y with|nil=>ext _ _ _;show trivial|cons k c r ihc_ ihr_=>ext p h hc;let(H,a,b):=hc;show(Ę (h k<|Ù F.pre Uf) H,ihc_ _ ϕQ a,ihr_ p ϕQ b)
theorem JE{k d x:Nat}{c r:F}:∃K G R,oh (϶6 r) (d+1) x=cons K G R:=by
 cases r with
 |nil=>show(_,_,_,ϱ8 oh)
 |cons a b t=>show(_,_,_,ϱ8 oh)
theorem xg{e:ĭ}{x:Nat}:∀(f:F)(d:Nat)(p:Int),d<=Ã (path f)->ϴT f->e x=(if d=0 then p else((path f)[d-1]?.getD 0:Int))->
  F.pre ϒE=ϳC++[x]/\path ϒE=ý (path f) d++[x]/\ϴT ϒE
 |f,0,p,_,h,hx=>by rw[oh,pre_app,zr,Oa];show(rfl,rfl,h,Ŀ hx,trivial,trivial)
 |nil,d+1,p,hd,_,_=>by rw[path]at hd;simp at hd
 |cons k c nil,d+1,p,hd,h,hx=>by
  let(H,g,j):=h;rw[path,Zo]at hd;let i:=xg (e:=e) (x:=x) c d á Á g (by
   rw[hx,P3 Á,path];by_cases D:d=0
   .subst D
    rfl
   .obtain⟨m,rfl⟩:∃m,d=m+1:=⟨d-1,Á⟩
    rw[P3 Á]
    rfl)
  rw[oh,F.pre,F.pre,i.1,F.pre];apply(ϰy F.pre,?_,H,i.2.2,trivial);rw[path,path,i.2.1,K7p,K92]
 |cons k c (cons k' c' r'),d+1,p,hd,h,hx=>by
  let(H,g,j):=h;let P:path (϶6 ϺM)=path ϺM:=by rw[path]
  rw[P]at hd hx;let i:=xg (e:=e) (x:=x) ϺM (d+1) p hd j hx;let(a,b,t,q):=JE (k:=k') (d:=d) (x:=x) (c:=c') (r:=r');rw[oh,F.pre,i.1,P];apply(?_,?_,H,g,i.2.2)
  .change k::(ź++(F.pre ϺM++[x]))=(k::(ź++F.pre ϺM))++[x]
   rw[K92,K9M]
  rw[q]at i⊢;rw[path];show i.2.1
theorem C6{e:ĭ}:∀(f:F)(p:Int),ϴT f->(∀k∈ϳC,p<=á)->∀k∈ϳC,p<=e k
 |nil,_,_,_,_,m=>ϧL
 |cons a c r,p,h,hp,k,m=>by
  let(H,b,d):=h;rcases Ay p (cons a c r) ⟨H,b,d⟩ k m with z|⟨j,J,g⟩
  .lia
  .rw[g]
   show hp j J
end F
end B
namespace B
open PySem L2 L3
def nX:Fs:=(ao (ϲb (Ò gLt 1<|Č<|Ï 0 ah) (bF<|Ò Rg 0 Ų) Z9)
 (ao (Ŵ<|ĩ (ϳD (Ê 7919) Ų)<|Ê 5)
 (ao (ϲb (ϴQ (Č<|Ï 0 ah)<|Ê 0) (Ŵ<|Ψ (ĩ (ϳD (Ò Rg 0<|Ò du 1<|Č<|Ï 0 ah)<|Ê 48271)<|Ò fV 1<|Ê 7919)<|Ê 2147483647) Z9)
 (bF<|Ψ (Ò fV 2 ŏ)<|Ê 2147483629))))
def dm:Fn:=ϰJ 3 nX
set_option bootstrap.genMatcherCode true in
def mq:Fs:=(bF<|Ab (zD "int" ð)<|Gx<|zD "bool" ð)
def e7:Fn:=Ξ 1 mq
def mE:Fs:=(ao (Ŵ<|eC<|Æ "abcdefghijklmnopqrstuvwxyz")
 (ao (œ<|eC<|Æ "")
 (ao (dJ (iR1<|ĩ (Ê 1)<|Ò du 0 Ų) Ϸx<|œ<|Ò aF 3<|Ò Rg 2<|Ψ (Ò eQ 0<|ĩ (Ê 9)<|ϳD (ϳD (Ê 4) ϳe) ϳe)<|Ê 26)
 (bF į))))
def eZ:Fn:=ϰJ 5 mE
def nq:Fs:=(ao (ϱd ϰZ)
 (ao (϶m<|Y0 ϰZ)
 (ao (dJ (iR1 ŏ) (Re 7) (ao (ay 8<|Ψ (ϳD (ϪU<|Ï 0<|Ő (Ò aF 1<|aa 7))<|Ê 69621)<|Ê 2147483629)
 (ao (Z4 (av<|Ò gGt 7<|Ê 0) (ao (ϫv<|ĩ (Ê 1)<|Ò du 8<|Č<|Ï 6 ah)
 (ao (Z4 (av<|ϳF (Ψ (Ò eQ 8<|Ê 16)<|Ê 3)<|Ê 0) (ϫv<|Č<|Ï 6 ah) Z9)
 (ao (϶m<|Y0<|Z_ iC ϷA bT<|bc<|eB BY<|Ï 9<|Ï 4 ah)
 (kE 5<|Y0<|dZ<|ae (Ò Rg 6<|Ĥ<|Ê 1)<|Ϯ0 eZ (Ò eQ 8<|Ê 64) (Ï 3 ah)<|ae (ĩ (Ê 1)<|Ψ (Ò eQ 8<|Ê 4096)<|Ê 9) ah))))<|kE 5<|Y0<|dZ<|ae (Ĥ<|Ê 1)<|Ϯ0 eZ (Ò eQ 8<|Ê 64) (Ï 3 ah)<|ae (ĩ (Ê 1)<|Ψ (Ò eQ 8<|Ê 4096)<|Ê 9) ah)
 (϶m<|Y0<|Ò aF 6<|bz<|Ï 7 ah))))
 (fk 5))))
def gW:Fn:=aZ 5 10 nq
theorem zga:(a::z)[0]?=ϴW:=rfl
theorem zsa:Ť (a::z) 0 y=ϳm:=rfl
theorem zgb:(a::b::z)[1]?=ż:=rfl
theorem zsb:Ť (a::b::z) 1 y=a::ϳm:=rfl
theorem zgc:(a::b::c::z)[2]?=ã:=rfl
theorem zsc:Ť (a::b::c::z) 2 y=a::b::ϳm:=rfl
theorem zgd:(ϧ6 z)[3]?=Ω:=rfl
theorem zsd:Ť (ϧ6 z) 3 y=a::b::c::ϳm:=rfl
theorem zge:(ϧ6<|e::z)[4]?=ϻF:=rfl
theorem zse:Ť (ϧ6<|e::z) 4 y=ϧ6 ϳm:=rfl
theorem zgf:(ϵZ z)[5]?=some f:=rfl
theorem zsf:Ť (ϵZ z) 5 y=ϧ6 (e::ϳm):=rfl
theorem zgg:(ϵZ<|g::z)[6]?=Â g:=rfl
theorem zsg:Ť (ϵZ<|g::z) 6 y=ϵZ ϳm:=rfl
theorem zgh:(ϵZ<|g::h::z)[7]?=some h:=rfl
theorem zsh:Ť (ϵZ<|g::h::z) 7 y=ϵZ (g::ϳm):=rfl
theorem zgi:(ϵZ<|g::h::i::z)[8]?=Ϩv:=rfl
theorem zsi:Ť (ϵZ<|g::h::i::z) 8 y=ϵZ (g::h::ϳm):=rfl
theorem zgj:(ϰ6 z)[9]?=ϳb:=rfl
theorem zsj:Ť (ϰ6 z) 9 y=ϵZ (g::h::i::ϳm):=rfl
theorem zgk:(ϰ6<|k::z)[10]?=ϱP:=rfl
theorem zsk:Ť (ϰ6<|k::z) 10 y=ϰ6 ϳm:=rfl
theorem zgl:(ϰ6<|k::l::z)[11]?=some l:=rfl
theorem zsl:Ť (ϰ6<|k::l::z) 11 y=ϰ6 (k::ϳm):=rfl
theorem zgm:(ϰ6<|ϩo z)[12]?=ϩc:=rfl
theorem zsm:Ť (ϰ6<|ϩo z) 12 y=ϰ6 (k::l::ϳm):=rfl
theorem zgn:(ϰ6<|ϩo (n::z))[13]?=ŵ:=rfl
theorem zsn:Ť (ϰ6<|ϩo (n::z)) 13 y=ϰ6 (ϩo ϳm):=rfl
theorem zgo:(ϰ6<|Ϻ5 z)[14]?=Ü:=rfl
theorem zso:Ť (ϰ6<|Ϻ5 z) 14 y=ϰ6 (ϩo (n::ϳm)):=rfl
theorem zgp:(ϰ6<|Ϻ5 (p::z))[15]?=ϳc:=rfl
theorem zsp:Ť (ϰ6<|Ϻ5 (p::z)) 15 y=ϰ6 (Ϻ5 ϳm):=rfl
theorem zgq:(ϰ6<|Ϻ5 (p::q::z))[16]?=Â q:=rfl
theorem zsq:Ť (ϰ6<|Ϻ5 (p::q::z)) 16 y=ϰ6 (Ϻ5 (p::ϳm)):=rfl
set_option bootstrap.genMatcherCode true in
def mqM:Lean.MacroM (Array (Lean.TSyntax `Lean.Parser.Tactic.simpLemma)):=("v_var v_c Yv Yp Rn TK XE Sn v_and v_not X9 JW vV UM Vg Sd v_b Ys v_bor RI Tf Wz U2 UE Oi Oo Yt Tp XX XO XN Yl V8 Vn VW Wa Rc UH Yf Vs Wq U8 RZ Wv Rm Xq Wf Uh VY UP Wk WJ Vu UO UZ Yd XB XH U3 RB TF UK WA Ml NM SU Uj W7 VI Sh VF SV WS XF T7 XZ WN Q9 WW Tu Ue XD Nl WG WT VX X3 XW XI Xx Rv TV W4 Vl Xm Wi UR Wl WZ V7 VG UW XJ Yy X6 Yz XR XY SO Ws V2 T_ RO Ub SF Sg SJ QY Wm Si at0 at1 at2 Vz Tq Tv Tr R5 T5 XT Ym X8 XG Yc aW vf QQ flat List.map_cons List.map_nil List.length_cons List.length_nil zga zgb zgc zgd zge zgf zgg zgh zgi zgj zgk zgl zgm zgn zgo zgp zgq List.getElem?_nil zsa zsb zsc zsd zse zsf zsg zsh zsi zsj zsk zsl zsm zsn zso zsp zsq List.cons_append List.nil_append List.append_nil List.replicate_succ List.replicate_zero Nat.reduceAdd Nat.reduceSub Nat.reduceLeDiff Nat.reduceLT Nat.reduceEqDiff Nat.zero_add Bool.not_true Bool.not_false if_true if_false Bool.false_eq_true reduceIte decide_true decide_false reduceCtorEq CP X1 Int.reduceLT Int.reduceLE Int.reduceNeg Int.reducePow Int.reduceToNat Int.reduceMul Int.reduceAdd Int.reduceSub Nat.reducePow and_true true_and and_self List.length_map UX v_sub Xw Wb Int.cast_ofNat_Int Int.reduceEq Int.reduceNe Vm Ig Ro VH We Xk VU".splitOn " ").toArray.mapM λs=>`(Lean.Parser.Tactic.simpLemma| $(Lean.mkIdent s.toName):ident)
set_option bootstrap.genMatcherCode true in
local macro_rules
 |`(tactic| simp![$a,*] $[$l:location]?)=>do
  let e <- mqM
  `(tactic| simp (maxSteps:=1000000) only[$e,*,$a,*] $[$l]?)
 |`(tactic| simp!+zeta[$a,*] $[$l:location]?)=>do
  let e <- mqM
  `(tactic| simp (maxSteps:=1000000) -implicitDefEqProofs only[$e,*,$a,*] $[$l]?)
theorem Gh(z:Int):e7 [Ä z]=Ý (í true):=by unfold e7 mq;simp![Y2]
theorem vD(R:À Int)(k:Int)(H:0<=k)(b:k<1000000):∃z,dm [Ö ϰQ,Ä k]=Ý (Ä z):=by
 delta dm nX;by_cases h:k<É R.length
 .let(x,e1,g):=CQ ϰQ k H Ϸ2
  rw[Oe]at e1;let(z,_,rfl):=ϷP e1;show(z,by simp![Tl h,g])
 by_cases a:É 0<R.length
 .let M:=dG k a
  let(x,e1,g):=CQ ϰQ (k%É R.length) M.1 (Ŀ M.2);rw[Oe]at e1;let(z,_,rfl):=ϷP e1;let c:=dG (z*48271+k*7919) (ϱF<|É 0<2147483647);let K:Ϭ9 ϬU:=CP Á Á;apply(ϕf ϬU,?_);simp![Pi h,Tl a,a,g,K]
 let K:Ϭ9 ϯJ:=CP Á Á;apply(ϕf ϯJ,?_);simp![Pi h,Pi a,K]
structure Nd where
 e:Int
 l:Str
 t:Int
def mQ(l:Str):Prop:=1<=l.length/\l.length<=9/\∀c∈l.cps.toList,ϴA
def Bm(n:Nd):Prop:=mQ n.l/\Τ 1 n.t 9
def ndD(n:Nd):Go:=ä [Ä n.e,Æ n.l,Ä n.t]
def ar(T:À Nd):À Go:=T.map ndD
inductive Y5(deep:Nat):À Nd->Ô (À Int)
 |root {n:Nd}:Bm n->ϥS->ϻH [n] [0]
 |step {ns:À Nd} {way:À Int} {c:Nat} {n:Nd}:ϻH ns way->1<=c->ϮQ->c<=deep->Bm n->way[c-1]?=Â n.e->ϻH (ns++[n]) (ϻi++[É ns.length])
theorem Y5.pos{deep:Nat}{R:À Nd}{way:À Int}(g:ϻH R way):ϤS/\0<way.length:=by
 cases g with|root=>simp|step=>simp
theorem Y5.way_lt{deep:Nat}{R:À Nd}{way:À Int}(g:ϻH R way):∀x∈way,0<=x/\x<R.length:=by
 induction g with
 |root=>simp
 |@step R way c n g h1 h2 h3 h4 h5 ih=>
  ext x h;rw[Y7]at h;rw[S5];rcases h with h|h
  .let:=ih x<|Zak h
   simp;lia
  let:x=R.length:=Ϸ2
  simp;lia
theorem Y5.ok{deep:Nat}{R:À Nd}{way:À Int}(g:ϻH R way):∀n∈R,Bm n:=by
 induction g with
 |root h=>simpa using h
 |@step R way c n g h1 h2 h3 h4 h5 ih=>
  ext x H;rcases Y7.mp H with H|H
  .exact ih x H
  let:x=n:=Ϸ4
  rw[this];show h4
theorem MH{k:Int}(a:0<=k)(h:k<26):∃c,Y9 (ϰe (è "abcdefghijklmnopqrstuvwxyz")) k=ã/\ϴA:=by
 let e:ϰe (è "abcdefghijklmnopqrstuvwxyz")=ϸj 97 26:=ç
 rw[e];let(v,e1,g):=CQ (ϸj 97 26) k a Ϸ2;apply(v,g,?_);let:=List.mem_range'.mp<|Ts e1;lia
theorem IE(k:Int)(a:0<=k)(h:k<26):∃c,Y9 (ϰe (è "abcdefghijklmnopqrstuvwxyz")) k=ã/\ϴA:=MH a h
theorem iW(a b:Str):ϰe ϩm=a.cps.toList++b.cps.toList:=PyProof.Rows.cps_toList_append a b
theorem aU(a:Str):a.length=a.cps.toList.length:=ϰy Str.length
theorem LO(a:Str)(c:Nat):Ã (a++Š:Str)=ϹP 1:=by rw[aU,iW,aU,S5];rfl
theorem L7(z m:Int)(g:1<=m)(Q:m<=9):∃l,mQ l/\eZ [Ä z,Ä m]=Ý (Æ l):=by
 delta eZ mE;let M:=dG z (ó<|0<m);let S:ϱ1 (1+z%m):=θ Á;let p:É 0<m:=Á
 obtain⟨f,H⟩:∃f:Ϩm,∀i:Nat,Y9 (ϰe (è "abcdefghijklmnopqrstuvwxyz")) (z / (9+Ϻ2 (0+Ċ))%26)=Â (f i)/\(Τ 97 (f i) 122):=
  ⟨λi=>Classical.choose<|IE _ (ϧR (9+Ϻ2 (0+Ċ))<|ϱF (É 0<26)).1 (dG _ Õ).2,λi=>Zdh<|IE _ (ϧR (9+Ϻ2 (0+Ċ))<|ϱF (É 0<26)).1 (dG _ Õ).2⟩
 simp![p,S];generalize L:Ŋ=r;apply Ϸf (λi a=>∃(l:Str)(v:Ú OD),a=[æ<|Ä z,æ<|Ä m,æ<|Æ<|è "abcdefghijklmnopqrstuvwxyz",æ<|Æ l,v]/\l.length=i/\∀c∈l.cps.toList,ϴA) ((ϓt (ϴp (Ϩs hc))))
 .rintro i d a h ⟨l,v,rfl,hl,hc⟩
  let(hi,rfl):=eU h;let I:Ċ<9:=Á
  let B:Τ 0 (Ϻ2 (0+Ċ)) (Ϻ2 8):=by
   let A:0<=(0+Ċ):=Á
   let w:(0+Ċ)<=8:=Á
   apply(Zdl Á A,?_);show Int.mul_le_mul Á w A Á
  let W:=(H i).1;let c1:=(H i).2.1;let K:=(H i).2.2;generalize f i=c at W c1 K;let k:o6 (4*(0+Ċ)) (0+Ċ)=true:=CP Á Á;let b:(0<9+Ϻ2 (0+Ċ)/\9+Ϻ2 (0+Ċ)<1073741824)=True:=ϰr ⟨Á,Á⟩;let k3:ü (Ã (è "abcdefghijklmnopqrstuvwxyz")):=ç
  let e:ü (l.length+Ã (Š:Str)):=ax (by rw[hl];change ϱT (i+1);lia);simp![k,b,k3,e,W,Zai];apply(_,_,rfl,ϰB LO hl,λd h=>?_);rw[iW,Y7]at h;rcases h with h|h
  .exact hc d h
  let:d=c:=Ϸ2
  lia
 ext ρ' rfl ⟨l,v,rfl,hl,hc⟩;rw[fI]at hl;simp![Y2];show(l,(Á,Á,hc),rfl)
theorem wF(X:À Go)(k:Nat):cutD X none (Â á)=X.take k:=by
 delta cutD;rw[HT.Bh,HT.F8,Zcv,Zbf];rcases Nat.le_total k X.length with h|h
 .rw[K8q h]
 rw[Nat.min_eq_right h,K90 ß,K90 h]
theorem zz{way:À Int}(a:1<=k)(b:k<=way.length):∃e,way[k-1]?=ϻF/\ϻW (Î (way.take k) int)=Â (Ä e):=by
 let H:k-1<way.length:=Á
 apply(way[k-1],ϓQ,?_);let h:ϯl way.take (k-1) [way[k-1]]:=by rw[Zcw];simp[H]
 rw[ó (k-1+1=k)]at h;rw[h,Z6];show Bp _ _
theorem bG(T:À Nd):ϵw (Ã Ľ):=by delta ar;rw[I4]
theorem xF(T:À Nd)(n:Nd):ar (T++[n])=Ľ++[ä [Ä n.e,Æ n.l,Ä n.t]]:=by delta ar;rw[Z6];rfl
theorem NU(R:À Int)(s:Int)(many:Nat)(most deep:Int)(s0:0<=s)(o:s<=1000)(n:1<=many)(N:many<=900)(m0:1<=most)(M:most<=9)(D:1<=deep)(m:ϱT deep):
  ∃T way,ϏQ/\T.length=many/\gW [Ö ϰQ,Ä s,Ä many,Ä most,Ä deep]=ψ Ľ:=by
 delta gW nq;let S:ϱ1 ((É many)):=θ Á;simp![S];generalize j:Ŋ=r;apply bJ j (λi g=>∃(T:À Nd)(way:À Int)(v V b:Ú OD),g=[ì ϰQ,æ<|Ä s,æ<|Ä many,æ<|Ä most,æ<|Ä deep,ō<|Î Ľ OD.sh,ì<|way.map int,v,V,b]/\T.length=i/\way.length<=i/\(ϙN\/(0<i/\ϏQ)))
  ⟨[],[],_,_,_,rfl,rfl,ß,È ⟨rfl,rfl,rfl⟩⟩ ?_ ?_
 .rintro i d g hd ⟨T,way,v,V,b,rfl,hti,hwi,hg⟩
  let(hi,rfl):=ϷK;rw[K9n]at hi;let(y,Y):=Ϯe (s+(0+Ċ)) Á;let(l,L,E):=L7 (ϳp / 64) most m0 M;let q:=dG (ϳp / 4096) (ϱF<|É 0<9);let lb:ϰT (Ã Ľ):=Ù bG (d9 Á)
  by_cases H:É 0<0+Ċ
  .let h:ϏQ:=by
    rcases hg with hg|hg
    .lia
    show hg.2
   let wp:=h.pos.2;let wl:É 0<way.length:=Á
   let hr:=dG ϳp wl;let fin:∀c:Nat,1<=c->ϮQ->ϑK->∀(e:Int),way[c-1]?=ϻF->Y5 deep.toNat (T++[⟨e,l,1+ϳp / 4096%9⟩]) (ϻi++[É T.length]):=λc c1 K k e he=>Y5.step h c1 K k ⟨L,ϱG (1<=1+_),ϱG (1+_<=9)⟩ he;let lw:∀c:Nat,ü (Ã ϻi+1):=λc=>ax (ñ Zk);by_cases f:ϳp / 16%3=0
   .obtain⟨c,hc⟩:∃c:Nat,(Ì (deep<É way.length) deep<|(É way.length))=϶t:=⟨ā (Ì (deep<É way.length) deep<|(É way.length)),Ϧ6⟩
    obtain⟨c1,K,k⟩:1<=c/\ϮQ/\ϑK:=ϙd
    let(e,he,a):=zz c1 K;simp![Y,E,wl,Tl H,Tl f,hc,wF,<-K7n,aG,a,lb,lw];let t1:=xF T ⟨e,l,1+ϳp / 4096%9⟩;let t2:Î Ľ OD.sh++[ë<|ä [Ä e,Æ l,Ä<|1+ϳp / 4096%9]]=(ar<|T++[⟨e,l,1+ϳp / 4096%9⟩]).map OD.sh:=ϲ5 t1 Z6
    let w:Î ϻi int++[ϻ6 Ċ]=Î (ϻi++[É T.length]) int:=ϵv Z6 hti K8R
    rw[t2,w];show(_,_,_,_,_,rfl,ϲ5 S5 hti,Ϯm Zk,Ñ ϖL)
   obtain⟨c,hc⟩:∃c:Nat,(Ì (deep<1+ϳp%É way.length) deep<|1+ϳp%É way.length)=϶t:=⟨ā (Ì (deep<1+ϳp%É way.length) deep<|1+ϳp%É way.length),Ϧ6⟩
   obtain⟨c1,K,k⟩:1<=c/\ϮQ/\ϑK:=ϙd
   let(e,he,a):=zz c1 K;simp![Y,E,wl,Tl H,Pi f,hc,wF,<-K7n,aG,a,lb,lw];let t1:=xF T ⟨e,l,1+ϳp / 4096%9⟩;let t2:Î Ľ OD.sh++[ë<|ä [Ä e,Æ l,Ä<|1+ϳp / 4096%9]]=(ar<|T++[⟨e,l,1+ϳp / 4096%9⟩]).map OD.sh:=ϲ5 t1 Z6
   let w:Î ϻi int++[ϻ6 Ċ]=Î (ϻi++[É T.length]) int:=ϵv Z6 hti K8R
   rw[t2,w];show(_,_,_,_,_,rfl,ϲ5 S5 hti,Ϯm Zk,Ñ ϖL)
  obtain⟨I,rfl,rfl⟩:ϙN:=by
   rcases hg with hg|hg
   .exact hg
   lia
  simp![Y,E,Pi H,aG,lb];subst I;show([⟨-1,l,1+ϳp / 4096%9⟩],[0],_,_,_,rfl,rfl,Õ,Ñ ⟨Zdy _,Y5.root ⟨L,ϱG (1<=1+_),ϱG (1+_<=9)⟩ rfl⟩)
 ext ρ' rfl ⟨T,way,v,V,b,rfl,hti,hwi,hg⟩;rw[fI,K9n]at hti hg;rcases hg with hg|hg
 .lia
 simp![Y2];show(T,way,hg.2,hti,rfl)
theorem p9{T:À Nd}{k:Nat}{n:Nd}(h:ϵJ=ŵ):Y9 Ľ á=Â (ä [Ä n.e,Æ n.l,Ä n.t]):=bZ (by delta ar;rw[Oe,h];rfl)
instance:Inhabited Nd:=⟨⟨0,"",0⟩⟩
def Z5(T:À Nd)(k:Nat):Int:=ę (T[k]?.map (·.e)) 0
def PT(T:À Nd)(c:F):Prop:=F.Pf T.length ī c
theorem eG{T:À Nd}{k:Nat}{n:Nd}(h:ϵJ=ŵ):ī k=n.e:=ϐf Z5
theorem Bz{deep:Nat}{R:À Nd}{way:À Int}(g:ϻH R way):∃c,PT R c/\way=Î (0::F.path c) (Ģ á):=by
 induction g with
 |@root n h1 h2=>show(F.nil,(rfl,Ù (eG (n:=n) rfl) h2,trivial),rfl)
 |@step R way k n g h1 h2 h3 h4 h5 ih=>
  let(c,p,w):=ih;subst w;rw[I4,Zo]at h2;let same:∀j,j<R.length->ϒv j=Z5 R j:=λj J=>Ň Z5 (K9V J)
  let new:ϒv R.length=n.e:=eG Ø;let inR:∀j∈ź,j<R.length:=λj m=>by let:j∈0::ź:=Ą m;rw[p.pre,Zl]at this;show this
  let he:F.Eld ϒv 0 c:=F.zd 0 c (λj m=>same j<|inR j m) p.eld
  let(b,q,l):=F.xg (x:=R.length) c (k-1) 0 Á he (by
   rw[new];rw[Oe]at h5;by_cases K:k=1
   .subst K
    let:=Zz h5;rw[ė];show this.symm
   obtain⟨m,rfl⟩:∃m,k=m+2:=⟨k-2,Á⟩
   rw[P3 Á]
   let e:(0::F.path c)[m+2-1]?=(F.path c)[m+2-1-1]?:=rfl;rw[e]at h5;let(v,H,h):=ϷP h5;rw[H,<-h];rfl)
  apply(F.oh c (k-1) R.length,(?_,?_,l),?_)
  .rw[b,<-K92,p.pre,S5,Zo,K8U,K8A]
  .rw[same 0 p.pos]
   show p.root
  rw[q];obtain⟨m,rfl⟩:ϓR:=⟨k-1,Á⟩
  rw[W1,W1,K7p,Z6,K8J,K7n];rfl
def au(T:À Nd)(k:Nat):Nd:=T[k]?.getD default
theorem Le{T:À Nd}{k:Nat}(h:š):(ϳa).e=ī k:=by delta au Z5;rw[ϴ9];rfl
section
variable{ts:À Nd}{c:F}
theorem Lr{n:Nat}{e E:ĭ}{c:F}(h:ϥP (E k=e k))(p:F.Pf n e c):F.Pf n E c:=by
 apply(p.pre,Ù (h 0 p.pos) p.root,F.zd 0 c (λk m=>h k ?_) p.eld);let:k∈0::ź:=Ą m;rw[p.pre,Zl]at this;show this
end
theorem OA{T s:À Nd}{c:F}(p:ϳd)(a:ϵw s.length)(h:∀k,š->Z5 s k=ī k):PT s c:=by delta PT;rw[a];show Lr h p
namespace F
theorem CN{ch:Nat->Ó}:∀(f:F),ϩb f->∀q∈ϳC,∀b∈ch q,b∈ϳC
 |nil,_,q,m,_,_=>ϧL
 |cons k c r,h,q,m,b,hb=>by
  let(e,i,j):=h;let R:ϗ8 roots:=by
   ext g
   induction g with
   |nil=>ext x H;cases H
   |cons a d t _ ih=>
    ext x H;rw[roots]at H;rw[F.pre];rcases Z7.mp H with rfl|H
    .exact Uf
    .exact Ą<|ũ<|ih x H
  rw[F.pre]at m⊢;rcases Z7.mp m with rfl|m
  .rw[e]at hb
   show Ą<|ϰX<|R c b hb
  .rcases Y7.mp m with m|m
   .exact Ą<|ϰX<|CN c i q m b hb
   .exact Ą<|ũ<|CN r j q m b hb
theorem sZ{e:ĭ}{ch:Nat->Ó}:∀(f:F)(a m:Nat)(p:Int),ϳC=Ϯo->ϴT f->ϩb f->p<ϲs->∀j,a<=j->j<a+m->
  ∃C s,F.pre C=ϸj (j+1) s/\Eld e ĺ C/\Ϲ6<=a+m/\(Ϲ6<a+m->e Ϲ6<ĺ)/\ϩb C/\ch j=roots C
 |nil,a,m,p,hp,_,_,_,j,h1,h2=>by
  let:=Ŧ hp;rw[F.pre,K8U,K93]at this;lia
 |cons k c r,a,m,p,hp,he,hcon,hpa,j,h1,h2=>by
  let(e1,g,G):=he;let(T,O,o):=hcon;obtain⟨M,rfl⟩:∃M,m=M+1:=⟨m-1,Á⟩
  rw[F.pre,Zbw]at hp;let(K,t):=K8C hp;subst K;let L:=Ŧ t;rw[S5,K93]at L;let d:M=Ã ź+Ã ϻI:=Á
  rw[d,<-Zdj]at t;let(hc,hr):=Zdi t (ϱ8 K93);let first:Ã ϻI≠0->e (k+1+Ã ź)=p:=λn=>by
   cases r with
   |nil=>show ϱH n
   |cons b1 b2 b3=>
    let B:b1=k+1+Ã ź:=by
     let:=Zh (λl=>l[0]?) hr;rw[F.pre]at this;rw[Zo,Zbw]at this;show Zz this
    rw[<-B];show G.1
  by_cases H:j=k
  .subst H
   apply(c,Ã ź,hc,g,Á,λh=>?_,O,T);rw[first Á];lia
  .by_cases i:j<k+1+Ã ź
   .let(C,s,b,q,u,Q,I,J):=sZ c (k+1) (Ã ź) á hc g O Á j Á i
    apply(C,s,b,q,Á,λh=>?_,I,J);by_cases S:Ϲ6<k+1+Ã ź
    .exact Q S
    .let:Ϲ6=k+1+Ã ź:=Á
     rw[this,first Á];lia
   .let(C,s,b,q,u,Q,I,J):=sZ r (k+1+Ã ź) (Ã ϻI) p hr G o Á j Á Á
    show(C,s,b,q,Á,λh=>Q Á,I,J)
end F
theorem CH{T:À Nd}{c:F}(p:ϳd){j:Nat}(w:ϴH):∃s,Ϭd Ϲ6/\(∀k,j<k->k<=j+s->ĺ<=ī k)/\(Ϲ6<T.length->ī Ϲ6<ĺ)/\
  ∀b,ϓS->ĺ<=ī b->ī b<=Ð (j+s)->ϒ1:=by
 let(C,s,Q,r,l,f,I,J):=ύT Õ j Á Á;rw[K87]at l f;let ge:=F.C6 C ĺ r (ϗL Q);apply(s,l,λk K y=>ge k (ξ Q Zaq),f,λb B u v=>?_);let M:b∈F.pre C:=by
  obtain⟨q,o⟩:∃q:Nat,ī b=É q:=⟨ā (ī b),Á⟩
  let i:b∈ļ (ŷ T.length) (λx=>Ë<|ī x=É q):=Ϭm ⟨Zl.mpr B,Tl o⟩;by_cases H:q=j
  .subst H
   let n:b∈F.roots C:=by rw[<-J];show i
   let R:ϗ8 F.roots:=by
    ext g
    induction g with
    |nil=>ext x h;cases h
    |cons a d t _ ih=>
     ext x h;rw[F.roots]at h;rw[F.pre];rcases Z7.mp h with rfl|h
     .exact Uf
     show Ą<|ũ<|ih x h
   show R C b n
  show F.CN C I q (ξ Q Zaq) b i
 rw[Q,Zaq]at M;lia
def mh:Fs:=(Z4 (mI (av<|Ò gLt 1<|Ê 0)<|av<|Ò gGe 1<|Č<|Ï 0 ah) q_ Z9)
def gz:Fn:=ϰJ 2 mh
def lD:Fs:=(ao (ϱN ϰZ)
 (ao (dJ (de ð) ϨX<|Ϸi<|Y0<|Cv<|eIf (av<|ϳF (Ò Rg 2<|Ê 0)<|Ĥ<|Ê 1) (Ê 0)<|ĩ (Ò Rg 1<|Ò Rg 2<|Ê 0)<|Ê 1)
 ϶x))
def dv:Fn:=Ξ 3 lD
def su:Fs:=(bF<|Η de ð cO (ϻO (Č<|Ő (Ò Rg 0<|Ê 1))<|Ê 2) 1 [])
def fH:Fn:=Ξ 1 su
def k8:Fs:=(ao (o_<|ak gz<|Ï 0<|Ï 1 ah)
 (bF<|bb (iEn ð) (ϲm<|Ρ 0 1 cW) (av<|ϳF (Ò Rg 1<|Ê 0) ŏ) ð 2 [1]))
def bM:Fn:=ϰJ 2 k8
def nY:Fs:=(ao (ϱN ϰZ)
 (ao (dJ (iEn<|ϒp<|Ï 0 ah) (ϲm<|Ρ 2 3 cW) (ao (Z4 (uu<|av<|Ò Zp 3<|Č<|Ï 1 ah) (Ϸi ϰZ) Z9)
 (nN 1 į ŏ)))
 ϶x))
def iA:Fn:=Ξ 4 nY
def EL(T:À Nd):Prop:=∀(k:Nat)(n:Nd),ϵJ=ŵ->(k=0->ϥS)/\(0<k->0<=n.e)/\n.e<k
def dh(a:Ó)(n:Nd):Nat:=Ì ϥS 0 (ę (a[n.e.toNat]?) 0+1)
def T2(T:À Nd):Ó:=T.foldl (λa n=>a++[dh a n]) []
theorem mZ(T:À Nd)(n:Nd):T2 (T++[n])=ϙt Ŷ:=ϱl T2 Zbr
theorem snoc_ind{P:Ô (À α)}(a:P [])(S:∀X x,P X->P (X++[x]))(X:À α):P X:=by
 let:∀s:À α,P s.reverse:=by
  ext s
  induction s with|nil=>show a|cons y s ih=>rw[K8T];show S _ _ ih
 let h:=this X.reverse;rwa [Zbs]at h
theorem b_:∀T:À Nd,ϵw (Ã Ŷ):=by
 ext T;apply snoc_ind (P:=λT=>ϵw (Ã Ŷ)) rfl (λT n i=>?_) T;rw[mZ,S5,S5,i];rfl
theorem take_snoc{α:Type}{X:À α}{i:Nat}{x:α}(h:û X=ö):ϯd=ϓ7++[x]:=by rw[Zcw,h];rfl
theorem p7(T:À Nd):∀i:Nat,ý Ŷ i=ϴy:=by
 apply snoc_ind (P:=λT=>∀i:Nat,ý Ŷ i=ϴy) (λi=>ϰy T2) (λT n I=>?_) T;ext i;rcases Nat.le_total i T.length with h|h
 .rw[mZ,K8s (϶1 b_),K8s h,I]
 by_cases H:i=T.length
 .subst H
  rw[mZ,K8s (Ù b_ ß),K8s ß,I]
 rw[K90 (by rw[b_,S5];simp;lia),K90<|by rw[S5];simp;lia]
theorem ku{ts:À Nd}{i:Nat}{n:Nd}(h:û ts=ŵ):û ϱf=Â Ϙn:=by
 let hi:=ϲE;let e:=p7 ts<|i+1;rw[Ϲs,mZ]at e;let:(ý ϱf<|i+1)[i]?=Â Ϙn:=by
  rw[e,K9a (ξ b_ Zk),b_,Zk,K8q Á,K8c];rfl
 rw[K97 Á]at this;show this
def fw(s:Ó):À Go:=ϳU ((Ģ (int á)))
theorem wO(s:Ó):Ã (fw s)=s.length:=Ň fw I4
theorem OX{s:Ó}{k v:Nat}(h:s[k]?=ú):Y9 (fw s) á=Â (Ä v):=bZ (Ϥm fw)
theorem uk(s:Ó)(k:Nat):Î (fw s) OD.sh++[ë<|Ä á]=(fw<|s++[k]).map OD.sh:=ϰM fw Z6 Z6
theorem kJ(T:À Nd)(he:Ž)(L:ϰw):dv [Ö Ľ]=ψ (fw Ŷ):=by
 delta dv lD;simp![Y2];generalize l:Ŋ=r';apply bJ l (λi c=>∃V:Ú OD,c=[ì Ľ,ō<|(fw ϴy).map OD.sh,V]) ι ?_ ?_
 .rintro i d c hd ⟨V,rfl⟩
  delta ar at hd;rw[Oe]at hd;let(n,N,rfl):=ϲ3;let hi:=ϒ2;let lb:ϰT (Ã (fw ϴy)):=by rw[wO,b_,Zk];show d9 Á
  let g:(T2<|T.take<|i+1)=ϙt ϴy:=ϰB (take_snoc N) mZ
  let e:=he i n N;by_cases H:ϥS
  .let e1:dh ϴy n=0:=Ň dh ϱh
   rw[e1]at g;let sn:=uk ϴy 0;rw[<-g,Int.natCast_zero]at sn;simp![ndD,Tl H,lb,aG,sn];show(_,rfl)
  let f:0<i:=by
   rcases Zah i with h|h
   .exact Đ (e.1 h) H
   show h
  obtain⟨k,K⟩:ϥ9 (n.e=á):=⟨n.e.toNat,þ (e.2.1 f)⟩
  let I:k<i:=þ e.2.2
  obtain⟨v,b⟩:∃v,ϴy[k]?=ú:=⟨ϴy[k]'(ξ b_ Zk),Ø⟩
  let e1:dh ϴy n=v+1:=by delta dh;rw[ϱz,K,K9n,b];rfl
  rw[e1]at g;let sn:=uk ϴy<|v+1;rw[<-g,Zcc,Int.natCast_one]at sn;let ga:=OX b;let a:¬(á=-1):=Á
  simp![ndD,K,Pi a,lb,aG,ga,sn];show(_,rfl)
 ext ρ' rfl ⟨V,rfl⟩;simp![Y2];rw[bG,K90 ß]
def HD(nums:À Ó)(k lv:Nat):À Ó:=Ì (lv=nums.length) (nums++[[k]]) (nums.set lv (ę (nums[lv]?) []++[k]))
def bW(L:Ó):Nat->À Ó|0=>[]|i+1=>HD (bW L i) i<|ę (L[i]?) 0
theorem bWS{L i}:bW L (i+1)=(HD (bW L i) i<|ę (L[i]?) 0):=rfl
theorem bW0{L}:bW L 0=[]:=rfl
structure NumOk(L:Ó)(i:Nat)(nums:À Ó):Prop where
 row:∀(j:Nat)(r:Ó),Ĵ nums=ϱx->ϳG/\ϭV/\∀k,ϳO↔k<i/\L[k]?=ϳb
 lt:∀(k v:Nat),k<i->L[k]?=ú->v<nums.length
 sum:Ϭ4=i
theorem sum_set(f:Ó->Nat):∀(nums:À Ó)(j:Nat)(r R:Ó),Ĵ nums=ϱx->f R=f r+1->(Î (nums.set j R) f).sum=(nums.map f).sum+1
 |[],j,_,_,h,_=>ϵo
 |x::xs,0,r,R,h,e=>by
  simp at h;subst h;simp;lia
 |x::xs,j+1,r,R,h,e=>by
  let:=sum_set f xs j r R Ϸ2 e;simp at this⊢;lia
theorem Lg:∀(nums:À Ó)(j:Nat)(r:Ó),Ĵ nums=ϱx->r.length<=Ϭ4
 |[],j,r,h=>ϵo
 |x::xs,0,r,h=>by
  simp at h;subst h;simp
 |x::xs,j+1,r,h=>by
  let:=Lg xs j r Ϸ2;simp;lia
theorem NumOk.step{L:Ó}{i:Nat}{nums:À Ó}(h:NumOk L i nums){v:Nat}(V:L[i]?=ú)(hle:v<=nums.length):NumOk L (i+1) (HD nums i v):=by
 delta HD;by_cases d:v=nums.length
 .rw[Os d]
  apply(λj r hr=>?_,λk w K W=>?_,by rw[Z6,Zbo,h.sum];simp)
  .by_cases J:j<nums.length
   .rw[K9V J]at hr
    let(a,b,c):=h.row j r hr;apply(a,b,ϥC);rw[c k];constructor
    .exactλz=>⟨Á,z.2⟩
    ext⟨z1,z2⟩;apply(?_,z2);by_cases I:k=i
    .subst I
     rw[V]at z2;let:=Zz z2;lia
    lia
   rw[K9a Á]at hr;let e:j=nums.length:=by
    let:=(ϲ8 hr);simp at this;lia
   subst e;let:[i]=r:=Ŀ hr
   subst this;apply(Ø,Ø,ϥC);rw[K95];constructor
   .rintro rfl
    show(Á,by rw[V,d])
   ext⟨z1,z2⟩;by_cases I:k=i
   .exact I
   let:=ϸB _ Á z2;lia
  rw[S5,Zq];by_cases I:k=i
  .subst I
   rw[V]at W;let:=Zz W;lia
  let:=ϸB w Á W;lia
 rw[P3 d];let l:v<nums.length:=Á
 obtain⟨R,H⟩:∃r,nums[v]?=ϱx:=⟨nums[v],by simp[l]⟩
 rw[H,Zas];let(a,b,c):=h.row v R H;apply(λj r hr=>?_,λk w K W=>?_,?_)
 .by_cases J:v=j
  .subst J
   rw[K9I l]at hr;cases hr;apply(Ø,?_,ϥC)
   .rw[List.pairwise_append]
    apply(b,Ø,λx X y f=>?_);let Y:y=i:=by simpa using f
    rw[Y];show((c x).mp X).1
   rw[Y7,K95,c k];constructor
   .rintro(⟨z1,z2⟩|rfl)
    .exact(Á,z2)
    show(Á,V)
   ext⟨z1,z2⟩;by_cases I:k=i
   .exact Ñ I
   show È ⟨Á,z2⟩
  rw[K9E J]at hr;let(A,B,G):=h.row j r hr;apply(A,B,ϥC);rw[G k];constructor
  .exactλz=>⟨Á,z.2⟩
  ext⟨z1,z2⟩;apply(?_,z2);by_cases I:k=i
  .subst I
   rw[V]at z2;show Đ (Zz z2) J
  lia
 .rw[K8z]
  by_cases I:k=i
  .subst I
   rw[V]at W;let:=Zz W;lia
  show ϸB w Á W
 rw[sum_set List.length nums v R _ H Ø,h.sum]
set_option tactic.hygienic true in
theorem Ib{T:À Nd}(he:Ž){i:Nat}{nums:À Ó}(h:NumOk Ŷ i nums){n:Nd}(H:T[i]?=ŵ):dh ϴy n<=nums.length:=by
 delta dh;split
 .exact Ν
 rename_i b;let e:=he i n H;let a:0<i:=by
  rcases Zah i with h|h
  .exact Đ (e.1 h) b
  show h
 let hi:=϶4;let k:n.e.toNat<i:=by let:=e.2.1 a;let:=e.2.2;lia
 obtain⟨v,V⟩:∃v,Ŷ[n.e.toNat]?=ú:=⟨Ŷ[n.e.toNat]'(ñ b_),Ø⟩
 let:ϴy[n.e.toNat]?=ú:=by rw[<-p7,K97 k];show V
 rw[this,Zas];show h.lt _ v k V
theorem kh{T:À Nd}(he:Ž):∀i,i<=T.length->NumOk Ŷ i (ϰb i):=by
 ext y
 induction y with
 |zero=>ext _;show(λj r h=>by simp[bW0]at h,ϸF Á,rfl)
 |succ i ih_=>
  ext hi;let I:=ih_ Á;obtain⟨n,H⟩:∃n,T[i]?=ŵ:=⟨T[i]' Á,Ø⟩
  let V:=ku H;rw[bWS,V,Zas];show I.step V<|Ib he I H
def Rl(r:Ó):OD:=.ol<|Î (fw r) OD.sh
def pK(nums:À Ó):À OD:=nums.map Rl
def DQ(nums:À Ó):À Go:=nums.map λr=>Ö<|fw r
theorem zI(nums:À Ó):Î (pK nums) OD.er=DQ nums:=by
 delta pK DQ;rw[Tk];apply Zt λr _=>?_;change(Rl r).er=_;delta Rl;rw[vf,aG]
theorem jE(nums:À Ó):Ã (pK nums)=nums.length:=Ň pK I4
theorem Hn(T:À Nd)(he:Ž)(q:ϰw):iA [Ö Ľ]=Ď (pK<|ϰb T.length):=by
 delta iA nY;simp![kJ T he q,aG];generalize p:Ŋ=r';apply bJ p (λi ρ=>∃g E:Ú OD,ρ=[ì Ľ,ō<|pK<|ϰb i,g,E]) ϸb ?_ ?_
 .rintro i d ρ hd ⟨g,E,rfl⟩
  let(e,L,rfl):=Ϧh;delta fw at L;rw[Oe]at L;let(v,V,rfl):=Zb.mp L;let hi:=(ϲ8 V);rw[b_]at hi;let ok:=kh he i Á;obtain⟨n,N⟩:∃n,T[i]?=ŵ:=⟨T[i]' Á,Ø⟩
  let hle:=Ib he ok N;rw[ku N]at V;rw[Zz V]at hle;let f:û Ŷ=ú:=Ù (ku N) V
  let m:ϰb (i+1)=HD (ϰb i) i v:=by rw[bWS,f];rfl
  let s:Ã (ϰb i)<=i:=by
   let S:=ok.sum;let:∀nums:À Ó,(∀(j:Nat)(r:Ó),Ĵ nums=ϱx->ϳG)->nums.length<=Ϭ4:=by
    ext nums
    induction nums with
    |nil=>ext _;simp
    |cons x xs ih=>
     ext h;let c:=h 0 x rfl;let t:=ih λj r hr=>h (j+1) r (Ŀ hr);let:1<=x.length:=by
      cases x with|nil=>show ϱH c|cons a b=>simp
     simp;lia
   let:=ϖh;lia
  by_cases c:v=Ã (ϰb i)
  .let D:Ë ((v:Int)=É ((Ã (ϰb i))))=true:=Tl Á
   let lb:ϰT (Ã (ϰb i)):=d9 Á;simp![zI,jE,D,DQ,lb];let ap:=Ϯ1 [some<|ë<|ϫg Ľ,some<|ϳT<|pK (ϰb i)++Ϸd,some<|ë<|int i,some<|ë<|int v] (k:=į) (a:=ŏ) (xs:=pK (ϰb i)++Ϸd) (ys:=[]) (z:=v) (j:=v) (y:=.sh<|Ä i) rfl rfl (lH<|Ϯm jE) (by rw[K9a (ñ jE),jE,c,K8c];rfl) rfl Õ;rw[ap];simp![Y2];let e1:Ť (pK (ϰb i)++Ϸd) v (ϳT [ë<|Ä i])=pK (ϰb<|i+1):=by
    rw[m];delta HD;rw[Os c,όW (ñ jE),jE,c,K8c];delta pK;rw[Z6];rfl
   rw[e1];show(_,_,rfl)
  let D:å (Ë ((v:Int)=É ((Ã (ϰb i))))):=Pi Á;let l:v<Ã (ϰb i):=Á
  obtain⟨R,H⟩:∃r,(ϰb i)[v]?=ϱx:=⟨(ϰb i)[v],by simp[l]⟩
  let o:R.length<=i:=϶N (Lg _ _ _ H) ok.sum
  simp![zI,jE,D,DQ];let ap:=Ϯ1 [some<|ë<|ϫg Ľ,some<|ϳT<|pK<|ϰb i,some<|ë<|int i,some<|ë<|int v] (k:=į) (a:=ŏ) (xs:=pK<|ϰb i) (ys:=Î (fw R) OD.sh) (z:=v) (j:=v) (y:=.sh<|Ä i) rfl rfl (lH<|ñ jE) (by delta pK;rw[Oe,H];rfl) rfl (ϱq I4 wO<|K94<|d9 Á);rw[ap];simp![Y2];let e1:(pK<|ϰb i).set v (ϳT<|Î (fw R) OD.sh++[ë<|Ä i])=pK (ϰb<|i+1):=by rw[m];delta HD;rw[P3 c,H,uk];delta pK;rw[Zch];rfl
  rw[e1];show(_,_,rfl)
 ext ρ' rfl ⟨g,E,rfl⟩;let:ϵw (Ã (fj<|fw Ŷ)):=by delta fj;rw[I4,K8I,wO,b_]
 rw[this];simp![Y2]
def cy(T:À Nd):À Int:=T.map λn=>É n.l.length / 2
theorem rO(T:À Nd)(h:Ϧl ϺJ)(a:ϰw):fH [Ö Ľ]=Ď (Î ϶I λz=>ë<|Ä z):=by
 delta fH su;simp![Y2];generalize l:Ů=r;let e:=cU l ndD (λn:Nd=>.sh<|Ä<|É n.l.length / 2) T rfl (Ş Á) (by ext n H;let:=ax<|h n H;simp![ndD,this]);subst e;simp![Y2];delta cy;rw[Tk];rfl
def fS(f:ĭ)(n:Nat):À Go:=Î ϰf λx=>int<|f x
theorem wQ(f:ĭ)(n:Nat):Ã (fS f n)=n:=Ϻ1 fS
theorem Ar{f:ĭ}{n x:Nat}(h:x<n):Y9 (fS f n) ϫ3=Â (Ä<|f x):=bZ (ϰM fS Oe ϸV)
theorem Ci(f:ĭ)(n x:Nat)(v:Int):Ť (Î (fS f n) OD.sh) x (.sh<|Ä v)=Î (fS (λy=>if y=x then v else f y) n) OD.sh:=by
 delta fS;rw[Tk,Tk];apply K9K;ext k;by_cases H:x=k
 .subst H
  by_cases N:x<n
  .rw[K9I (by simpa using N),Oe,K9Z N]
   simp
  rw[K9c Ϲj,K9c Ϲj]
 rw[K9E H,Oe,Oe];cases h:ϰf[k]? with
 |none=>rfl
 |some y=>
  let:y=k:=by
   let:=(Za.mp h).2;simp at this;show this.symm
  subst this;simp[K8g H]
theorem iR{f g:ĭ}{n:Nat}(h:∀x,x<n->f x=g x):fS f n=fS g n:=ϧ8 fS (Zt λx H=>ϱ8 (h x ϥm))
theorem El(h:ϵH (Ö ϸQ))(N:ϻZ):Zp (Ö ϸQ) (Ö [])=Ý (í false):=by
 let H:lay 1 (Ö []):=wL (n:=0) λx X=>Ϩs X
 delta Zp;rw[tQ];delta pB;rw[iO h N,iO H Õ,K7m,ė];let:PyData.eqv (Ö ϸQ) (Ö [])=false:=by delta PyData.eqv PyData.eqvAll;rfl
 rw[this];rfl
theorem LK(nums:À Ó):Ã (DQ nums)=nums.length:=Ň DQ I4
theorem IH(X:À Go)(j:Nat)(h:ϯX):gz [Ö X,Ä j]=Ý ù:=by
 delta gz mh;let D:å (Ë (ĺ<0)):=Pi Á;let d:å (Ë (É X.length<=ĺ)):=Pi Á;simp![D,d]
def iL(R:Ó):À Int:=R.map (Ģ á)
def nD(R:Ó):À Go:=Î (iL R) int
def nO(R:Ó):À OD:=Î (nD R) OD.sh
theorem dM(R:Ó):Î (nO R) OD.er=nD R:=aG _
theorem dN(R:Ó):ϥp (Ã (nD R)):=by delta nD iL;rw[I4,I4]
theorem Th(R:Ó):ϥp (Ã (nO R)):=ν nO I4 dN
theorem UC(a b:Ó):nO a++nO b=nO ϩm:=by delta nO nD iL;rw[Z6,Z6,Z6]
theorem NI(a:Ó)(k:Nat):nO a++[ë<|Ä á]=nO (a++[k]):=ϯQ UC
theorem Lm{R:Ó}{i k:Nat}(h:ϵI=ϱP):û (nD R)=Â (Ä á):=by delta nD iL;rw[Oe,Oe,h];rfl
def G0(T:À Nd)(q:Nat):Ó:=ļ (ŷ T.length) λj=>Ë<|ī j=É q
theorem Hw(T:À Nd):fj Ľ=Ć T.length (Ģ (ϰx [Ä á,ndD ϳa])):=by
 apply K9K;ext i;rw[Oe];by_cases hi:i<T.length
 .rw[Ϲ1]
  delta fj ar;rw[Oe,K8S,Oe,ϲO];delta au;simp[Rw hi]
 rw[K9c (by delta fj ar;simp;lia),K9c<|ñ Z1];rfl
theorem qP(L:Ó):(L.map (Ģ (ë<|Ä á)))=nO L:=by delta nO nD iL;rw[Tk,Tk];rfl
theorem lN(T:À Nd)(q:Nat)(H:q<T.length)(a:ϰw):bM [Ö Ľ,Ä q]=Ď (nO<|Ϥe q):=by
 delta bM k8;let c:=IH Ľ q (Ϲi bG);simp![c];generalize w:Ů=rc
 let e:=ko w (Ģ<|ϰx [Ä á,ndD ϳa]) (λk=>Ë<|ī k=É q) (Ģ<|.sh<|Ä á) (ŷ T.length) (Hw T) (Ù Z1<|Ş Á) (by
  ext k h;rw[Zl]at h;let he:=Le h;apply(?_,ϰs ?_)
  .simp![ndD,he]
  simp![ndD])
 subst e;rw[qP];simp![Y2];rfl
def dI(R:À Int):À OD:=Î ϰQ OD.sh
theorem d5(R:À Int):Î (dI R) OD.er=ϰQ:=aG _
theorem tK(R:À Int):ϥp (Ã (dI R)):=ν dI I4 I4
theorem UB(R:Ó):nD R=fw R:=by delta nD iL fw;rw[Tk];rfl
theorem DD:∀{a b:Ó},ϗe ύN ((∀k,k∈a↔k∈b)->a=b):=by
 intro x0
 induction x0 with
  |nil=>
   intro x40 x41 x42 h
   cases x40 with
    |nil=>
     exact rfl
    |cons y ys=>
     exact Đ ((h y).mpr Uf) Ø
  |cons x xs ih=>
   intro x43 pa pb h
   cases x43 with
    |nil=>
     exact Đ ((h x).mp Uf) Ø
    |cons y ys=>
     let(A,w):=ϭC pa;let(d,B):=ϭC pb;let e:x=y:=by
      let H:=(h x).mp Uf;let c:=(h y).mpr Uf;rcases Z7.mp H with z|z
      .exact z
      .rcases Z7.mp c with f|f
       .exact f.symm
       .let:=d x z
        let:=A y f;lia
     subst e;rw[ih w B λk=>⟨ϫ4,ϫ4⟩]
     .let H:=(h k).mp<|Ą m
      rcases Z7.mp H with z|z
      .let:=A k m
       lia
      .exact z
     .let H:=(h k).mpr<|Ą m
      rcases Z7.mp H with z|z
      .let:=d k m
       lia
      .exact z
theorem xm{T:À Nd}(he:Ž):ϰb T.length=Ć ((Ã (ϰb T.length))) λj=>ļ (ŷ T.length) λk=>Ë ((ę (Ŷ[k]?) 0)=j):=by
 let ok:=ώG ß;apply K9K;ext j;rw[Oe];by_cases J:j<Ã (ϰb T.length)
 .rw[K9Z J,Ϻl]
  change Â _=Â _
  congr 1
  let(r,m,C):=ok.row j _ Ϻl;apply DD m όn ϥC;rw[C k,K89,Zl,K9k];constructor
  .rintro⟨a,b⟩
   show(a,by rw[b];rfl)
  ext⟨a,b⟩;apply(a,?_);obtain⟨v,H⟩:∃v,Ŷ[k]?=ú:=⟨Ŷ[k]'(ϧx b_),Ø⟩
  rw[H]at b⊢;rw[<-b];rfl
 rw[K9c Á,K9c<|ñ Z1];rfl
theorem eT{T:À Nd}(he:Ž)(H:ϲG):0<Ã (ϰb T.length)/\Ϭd (Ã (ϰb T.length)):=by
 let ok:=ώG ß;constructor
 .obtain⟨v,V⟩:∃v,Ŷ[0]?=ú:=⟨Ŷ[0]'(Ϲi b_),Ø⟩
  let:=ok.lt 0 v H V;lia
 let:∀nums:À Ó,(∀(j:Nat)(r:Ó),Ĵ nums=ϱx->ϳG)->nums.length<=Ϭ4:=by
  ext nums
  induction nums with
  |nil=>ext _;simp
  |cons x xs ih=>
   ext h;let c:=h 0 x rfl;let d:=ih λj r hr=>h (j+1) r (Ŀ hr);let:1<=x.length:=by
    cases x with|nil=>show ϱH c|cons a b=>simp
   simp;lia
 let:=ϖh;rw[ok.sum]at this;show this
theorem NA{T:À Nd}(he:Ž)(H:ϲG):∃(a:Nat)(as:Ó),Ŷ=ϸQ/\oG ϲs (as.map (Ģ á))+1=É ((Ã (ϰb T.length))):=by
 let ok:=ώG ß;let nl:=(eT he H).1;cases hL:T2 T with
 |nil=>
  let:=b_ T;rw[hL]at this;simp at this;lia
 |cons a as=>
  apply(a,as,rfl,?_);rw[hL]at ok nl;let(M,Q):=mV (as.map (Ģ á)) ϲs;let h:(ϲs::as.map (Ģ á))=Î ϸQ (Ģ á):=rfl;rw[h]at M Q;let(v,V,ev):=Zc.mp M;let(i,hi,e):=Zap V;let L:i<T.length:=by
   let:=b_ T;rw[hL]at this;lia
  let l:=ok.lt i v L (ϩs ϲO);obtain⟨r,hr⟩:∃r,ϩW[Ã ϩW-1]?=ϱx:=⟨ϩW[Ã ϩW-1]' Á,Ø⟩
  let(R,m,C):=ok.row _ r hr;let(k,K):=Zbv r R;let b:=((C k).mp K).2;let:=Q (Ð (Ã ϩW-1))<|ϱ6 ((Ϭq (Ts b)));rw[<-ev]at this⊢;lia
def inB(j:Nat)(n:Nd):Bool:=Ë<|ĺ<=n.e
def L4(j:Nat)(n:Nd):Nd:=⟨n.e-j,n.l,n.t⟩
def rM(T:À Nd)(j:Nat):À Nd:=match T[j]? with
 |some r=>ϷC r.l r.t::(ϬT).map (L4 j)
 |none=>[]
theorem zx{T:À Nd}{j:Nat}(h:ϴH):1<=Ã (rM T j)/\Ϭd (j+Ã (rM T j)):=by
 obtain⟨r,hr⟩:∃n,T[j]?=ŵ:=⟨T[j]' Á,Ø⟩
 delta rM;rw[hr];let:=(List.takeWhile_prefix (inB j) (l:=T.drop<|j+1)).length_le;rw[K8y]at this;simp;lia
theorem CO(p:ϳi α):∀(L:À α)(s:Nat),s<=L.length->(∀k,k<s->∀x,L[k]?=ö->ϫJ)->(∀x,L[s]?=ö->å (p x))->Ã (L.takeWhile p)=s
 |[],s,h,_,_=>by simp at h;subst h;rfl
 |a::L,0,_,_,h=>by let:=h a rfl;rw[Zbg,this];rfl
 |a::L,s+1,h,h1,h2=>by
  let:=h1 0 Á a rfl;rw[Zbg,this,ė,Zo,CO p L s (by simp at h;lia) (λk K x H=>h1 (k+1) Á x H) λx H=>h2 x H]
namespace F
theorem Ef{e:ĭ}:∀(f:F)(a m:Nat)(p:Int),ϳC=Ϯo->ϴT f->p<ϲs->∀k∈ϳC,e k<á
 |nil,a,m,p,hp,_,_,j,h1=>Ϩs h1
 |cons k c r,a,m,p,hp,he,hpa,j,J=>by
  let(e1,g,G):=he;obtain⟨M,rfl⟩:∃M,m=M+1:=⟨m-1,by
   let:=Ŧ hp;rw[F.pre,Zo,K93]at this
   lia⟩
  rw[F.pre,Zbw]at hp;let(h,t):=K8C hp;subst h;let l:=Ŧ t;rw[S5,K93]at l;let H:M=Ã ź+Ã ϻI:=Á
  rw[H,<-Zdj]at t;let(hc,hr):=Zdi t (ϱ8 K93);rw[F.pre]at J;rcases Z7.mp J with rfl|J
  .lia
  .rcases Y7.mp J with J|J
   .exact Ef c (k+1) _ á hc g Á j J
   .exact Ef r (k+1+Ã ź) _ p hr G Á j J
end F
theorem Vi{T:À Nd}{c:F}(p:ϳd){k:Nat}(h:š):ī k<á:=by
 apply F.Ef (F.full c) 0 T.length (-1) (ϰB p.preF K7r) p.eldF Õ k ?_;rw[p.preF,Zl];show h
theorem bA{T:À Nd}{c:F}(p:ϳd):Ž:=by
 ext k n h;let H:=ϲE;let lt:=Vi p H;rw[϶J]at lt;let rt:=p.eldF.1;apply(ϴS,ϴS,lt)
 .subst z
  rw[϶J]at rt;show rt
 let pc:F.pre (F.full c)=ŷ T.length:=p.preF;let:ź=ϸj 1 ϲj:=by
  delta F.full at pc;rw[F.pre,K7r,ó (T.length=ϲj+1),Zbw]at pc;let:=(K8C pc).2;rw[F.pre,Zw]at this;show this
 let ge:=F.C6 c 0 p.eldF.2.1 (ϗL this) k (ξ this Zaq);rw[϶J]at ge;show ge
abbrev Lb(T:À Nd):Prop:=Ϧl (mQ n.l)
theorem pJ{ts:À Nd}{k:Nat}(h:ċ):ts[k]?=Â ô:=ϱl au ϴ9
def sj:Fs:=(ao (œ<|ϳD (Ê 256)<|Ò aF 2<|Ê 1)
 (ao (ϲ4<|Y0<|bb (iZp ð Ų) (ϲm<|Ρ 0 1 cW) cO (ϻL (ĩ (Ò Rg 0<|Ê 1) ŏ)<|Ò Rg 1<|Ê 0) 2 [3])
 (ao (ϱd<|ϸs<|Ï 4 ah)
 (bF<|dZ<|Ï 5<|Ő (Ut ϳe ϳL)))))
def gJ:Fn:=aZ 3 6 sj
def gG:Fs:=(ao (Ŵ<|bz<|Ő (Ê 0))
 (ao (dJ (iR2 (Ê 1)<|Č<|Ï 0 ah) ϨY (ao (ϲ4<|Y0<|E4<|Η iR1 į cO (ĩ (Ò Rg 1 ð)<|Ż (ak gJ<|ae (Ò Rg 2 ð)<|ae (Ò Rg 2 į)<|Ï 4 ah)<|Ê 0) 1 [2,0,3,1])
 (kE 2<|ϸs<|Ï 4 ah)))
 (fk 2)))
def dC:Fn:=ϰJ 5 gG
def iS:Fs:=(ao (œ<|Č<|Ï 0 ah)
 (ao (ϲ4<|ϳD (bz<|Ï 2 ah) į)
 (ao (dJ (iR3 (Ò eA 3<|Ê 2) (Ĥ<|Ê 1)<|Ĥ<|Ê 1) (Re 5) (ao (϶m<|Ò Rg 0 ϳL)
 (ao (ϥf<|Y0<|E4<|bb (iR2 (Ò aF 5<|Ê 1) į) (Re 0) cO (ϻL (Ò Rg 1 ð)<|Ż (ak gJ<|Ï 2<|ae (Ò Rg 3 ð)<|Ï 4 ah)<|Ê 0) 1 [4,6,0,1])
 (Af 4 ϳL<|ϓe<|Ï 7 ah))))
 (fk 4))))
def eE:Fn:=aZ 3 8 iS
def rS:Fs:=(ao (Ŵ<|Y0<|ak dC<|Ï 0<|Ï 1 ah)
 (bF<|dZ<|Ï 2<|ae (Y0<|ak eE<|Ï 0<|Ï 1<|ae (Ò Rg 2<|Ĥ<|Ê 1) ah) ah))
def kQ:Fn:=ϰJ 3 rS
def gq(os:À ϲZ):À Go:=os.map λp=>ä [Ä p.1,Ä p.2]
def ask(D0:Int)(os p:À ϲZ):À Int:=Î (os.zip p) λz=>z.1.2+ϵ9-z.2.1
theorem Bq:∀(os s:À ϲZ),qY ϹW (gq s)=Î (os.zip s) λz=>ä [ä [Ä z.1.1,Ä z.1.2],ä [Ä z.2.1,Ä z.2.2]]|[],_=>rfl|_::_,[]=>rfl|p::os,q::s=>by let:=Bq os s;delta gq qY at this⊢;simp only[W1,Zcb];rw[this]
theorem D7(os s:À ϲZ)(D0:Int)(o:ϒd)(P:1<=s.length)(B:os.length<=100):∃(m:Int)(l:Nat),gJ [Ö ϹW,Ö<|gq s,Ä D0]=Ý (ä [Ä m,Ä l])/\
  (∀z∈Ϲy s,z<=m)/\(Ϲy s)[l]?=ϩc/\∀j,j<l->Ĵ (Ϲy s)≠ϩc:=by
 delta gJ sj;simp![Y2];generalize L:Ů=r;let e:=cU L (λz:ϲZ×ϲZ=>ä [ä [Ä z.1.1,Ä z.1.2],ä [Ä z.2.1,Ä z.2.2]]) (λz=>.sh<|Ä<|z.1.2+ϵ9-z.2.1) (os.zip s) (Bq os s) (Ù Zay<|Ş Á) ϗY;subst e;let g:ϰH (Î (os.zip s) λz:ϲZ×ϲZ=>ë<|Ä<|z.1.2+ϵ9-z.2.1) (Î (Ϲy s) int):=ϬK ask
 obtain⟨a,as,A⟩:∃a as,Ϲy s=ϸQ:=by
  cases h:ask D0 os s with
  |nil=>
   let:=Ŧ h;delta ask at this;rw[I4,Zay,K8U]at this;lia
  |cons a as=>show(a,as,rfl)
 let(M,Q):=mV as a;let hi:Dz (int a::as.map int) (Ä ϥk)=Ý (Ä ((ϸQ).idxOf ϥk:Nat)):=V4 ϸQ _ M;apply(ϥk,(ϸQ).idxOf ϥk,?_,?_,?_,?_)
 .simp![g,A,DN,hi]
 .rw[A];show Q
 .rw[A]
  let J:=ϖy;rw[Ϻl,Zdr J]
 rw[A];ext j J e;let(b,H):=Za.mp e;let:=List.not_of_lt_findIdx (p:=(· ==ϥk)) J;rw[H]at this;simp at this
theorem IQ{os:À ϲZ}{k:Nat}{p:ϲZ}(h:os[k]?=ϳc):Y9 ϹW á=Â (ä [Ä p.1,Ä p.2]):=bZ (Ϥm gq)
theorem MV{D0:Int}{os s:À ϲZ}{k:Nat}{p q:ϲZ}(h:os[k]?=ϳc)(H:s[k]?=Â q):(Ϲy s)[k]?=Â (p.2+ϵ9-q.1):=by
 delta ask;rw[Oe,Zbt (z:=(p,q)) |>.mpr ⟨h,H⟩];rfl
abbrev Ol:=À ϲZ
def dt(O:À Ol):À Go:=O.map λos=>Ö ϹW
theorem qK(O:À Ol):ϻA (Ã ϳM):=Ň dt I4
theorem p6{O:À Ol}{k:Nat}{os:Ol}(h:O[k]?=Â os):Y9 ϳM á=Â (Ö ϹW):=bZ (Ϥm dt)
def okO(O:À Ol):Prop:=(∀os∈O,Τ 1 os.length 100)/\Τ 1 O.length 100
def dist(D0:Int)(os p:Ol):Int:=match Ϲy p with
 |a::as=>ϥk
 |[]=>0
theorem IP{D0:Int}{os p:Ol}(H:ϒd)(b:1<=p.length):∃a as,Ϲy p=ϸQ:=by
 cases h:ask D0 os p with
 |nil=>
  let:=Ŧ h;delta ask at this;rw[I4,Zay,K8U]at this;lia
 |cons a as=>show(a,as,rfl)
theorem yP(os p:Ol)(D0:Int)(j:ϒd)(P:1<=p.length)(B:os.length<=100):∃l:Nat,gJ [Ö ϹW,Ö<|gq p,Ä D0]=Ý (ä [Ä<|ϴR os p,Ä l]):=by
 let(m,l,e,h,H,_):=D7 os p D0 j P B;let(a,as,A):=IP (D0:=D0) j P;let:ϴR os p=m:=by delta dist;rw[A]at h H⊢;let(k,K):=mV as a;show Zcn (h _ k)<|K _ ϶F
 rw[this];show(l,e)
def nz:À Int->Int|[]=>0|a::as=>ϥk
theorem mP{xs:À Int}(h:ϨJ):jY [Ö ϒw]=Ý (Ä<|nz xs):=by
 cases xs with|nil=>show ϱH h|cons a as=>show DN a as
theorem A0(D0:Int)(os p:Ol):ϴR os p=nz (Ϲy p):=by delta dist nz;cases ask D0 os p<;>rfl
def Dg(D0:Int)(O:À Ol)(E:À Int)(k:Nat):À Int:=Î (range k) λj=>E[j]?.getD 0+ϴR ϴw (O[k]?.getD [])
def jR(D0:Int)(O:À Ol):Nat->À Int|0=>[0]|k+1=>ϰS k++[nz<|ύp (ϰS k)<|k+1]
theorem jRS{D0 O k}:jR D0 O (k+1)=(ϰS k++[nz<|ύp (ϰS k)<|k+1]):=rfl
theorem mH(D0:Int)(O:À Ol):∀k,Ã (ϰS k)=k+1:=by
 ext y
 induction y with|zero=>show rfl|succ k ih_=>rw[jRS,S5,ih_];rfl
theorem ze(R:À Int)(z:Int):dI R++[ë<|Ä z]=dI (R++[z]):=ϰM dI Z6 Z6
theorem int_at{R:À Int}{k:Nat}{z:Int}(h:R[k]?=Â z):Y9 ϰQ á=Â (Ä z):=bZ (by rw[Oe,h];rfl)
theorem GI(R:À Int):ϙu (dI R):=by delta dI;rw[K7x];ext x H;let(d,h,rfl):=ϴa;let(n,_,rfl):=ϹR;rw[aW];rfl
theorem yV(n:À Int):QD (.ol<|dI n)=Ď (dI n):=by
 change(Ì (ϙu (dI n)) (R.ok (OD.ol<|Î (dI n) λy=>.sh y.er)) Í)=_;rw[GI,ė];congr 2;delta dI;rw[Tk];show Zt λx _=>by change ë (OD.sh x).er=_;rw[aW]
theorem Jh{D0:Int}{O:À Ol}{E:À Int}{k j:Nat}{z:Int}{os p:Ol}(J:E[j]?=Â z)(h:O[j]?=Â os)(H:O[k]?=ϳc):E[j]?.getD 0+ϴR ϴw (O[k]?.getD [])=z+ϴR os p:=by rw[J,h,H];rfl
theorem EN{D0:Int}{O:À Ol}{E:À Int}{k:Nat}(h:0<k):ύp E k≠[]:=by
 ext z;let:=Ŧ z;delta Dg at this;simp at this;lia
theorem DV{α:Type}(L:À α)(f:α->Int):(L.map λx=>ë<|Ä<|f x)=dI (L.map f):=ϰM dI Tk Tk
theorem BR(O:À Ol)(D0:Int)(b:Ϧi):dC [Ö ϳM,Ä D0]=Ď (dI<|ϰS ϳw):=by
 delta dC gG;let(o,M,c):=b;let S:ϱ1 1:=θ Õ;let f:ϱ1 ((É O.length)):=θ Á;simp![qK,S,f,K7m];generalize L:Ŋ=r';apply Ϸf (λi a=>∃v V:Ú OD,a=[ì ϳM,æ<|Ä D0,ō<|dI<|ϰS i,v,V]) ϸb
 .rintro i d a hd ⟨v,V,rfl⟩
  let(hi,rfl):=ϷK;let I:É 1+Ċ=Ð (i+1):=Á
  rw[I];let g:ϱ1 ((Ð (i+1))):=θ Á;simp![d5,g];generalize w:Ů=rc
  let e:=cU w (Ģ<|ϻ6 á) (λj=>.sh<|Ä<|(ϰS i)[j]?.getD 0+ϴR ϴw ϙO) (ŷ<|i+1) (ϱJ K9n) (Ù Z1<|Ş Á) (by
   ext k K;rw[Zl]at K;obtain⟨z,Z⟩:∃z,(ϰS i)[k]?=Â z:=⟨(ϰS i)[k]'(Ù mH K),Ø⟩
   obtain⟨os,h⟩:∃p,O[k]?=ϳc:=⟨O[k]' Á,Ø⟩
   obtain⟨s,H⟩:∃p,O[i+1]?=ϳc:=⟨O[i+1]' Á,Ø⟩
   let(l,n):=yP os s D0 (o os ϳN).1 (o s ϶F).1 (þ (o os ϳN).2)
   let g1:=int_at Z;let g2:=p6 h;let g3:=p6 H;rw[K8R,Jh Z h H];simp![g1,g2,g3,n])
  subst e;rw[DV];let hg:=mP (ϔ9 (ϰS i) (i+1) Á);let A:Ć (i+1) (λj=>(ϰS i)[j]?.getD 0+ϴR ϴw ϙO)=ύp (ϰS i) (i+1):=rfl;rw[A];let lb:ϰT (Ã (dI<|ϰS i)):=ϱq tK mH (d9 Á)
  simp![yV,d5,hg,lb,ze];show(_,_,rfl)
 ext ρ' rfl ⟨v,V,rfl⟩;rw[fI];simp![Y2];rw[ó (ā (É O.length-1)=ϳw)]
theorem BV(R:À Int)(j:Nat)(z:Int):Ť (dI R) j (.sh<|Ä z)=dI (R.set j z):=by delta dI;rw[Tk,Tk,Zch];rfl
def gv(l:À Int)(k:Nat):Int:=l[k]?.getD 0
def dO(D0:Int)(O:À Ol)(i j:Nat):Int:=ϴR (O[i]?.getD []) ϴw
theorem dS{xs:À Int}(h:ϨJ):nz xs∈xs/\∀z∈xs,z<=nz xs:=by
 cases xs with|nil=>show ϱH h|cons a as=>show mV as a
theorem K0(h:ϨJ):∃m,rD [Ö ϒw]=Ý (Ä m)/\m∈xs/\∀z∈xs,m<=z:=by
 cases xs with|nil=>show ϱH h|cons a as=>show(_,LN a as,ue as a)
theorem Jj(D0:Int)(O:À Ol)(m:Nat):∀c j,j<=m->(ϰS<|m+c)[j]?=Ĵ (ϰS m):=by
 ext y
 induction y with
 |zero=>ext _ _;show rfl
 |succ c ih_=>
  ext j h;rw[<-ih_ j h,<-Zcm];change Ĵ (ϰS (m+c)++_)=_;rw[K9V<|ñ mH]
theorem HV(D0:Int)(O:À Ol)(n:Nat)(N:0<n):IsE n ϳ4 (gv<|ϰS<|n-1):=by
 let pre:∀m j,j<=m->m<n->gv (ϰS<|n-1) j=gv (ϰS m) j:=λm j h b=>by
  delta gv;let:=Jj D0 O m (n-1-m) j h;rw[ó (m+(n-1-m)=n-1)]at this;rw[this]
 apply(?_,λk a H=>?_)
 .rw[pre 0 0 ß N]
  rfl
 obtain⟨m,rfl⟩:ϓR:=⟨k-1,Á⟩
 let ev:gv (ϰS<|n-1) (m+1)=nz (ύp (ϰS m)<|m+1):=by
  rw[pre (m+1) (m+1) ß H];delta gv;change(ϰS m++_)[m+1]?.getD 0=_;rw[K9a (ñ mH),mH,K8c];rfl
 let(S,w):=dS (ϔ9 (ϰS m) (m+1) Á);rw[ev];apply(Ϥ1,?_)
 .apply w _ ?_
  delta Dg;rw[Zc];show(j,Zl.mpr J,ϱJ (pre m j Á Á))
 delta Dg at S;rw[Zc]at S;let(j,J,e):=S;rw[Zl]at J;apply(j,J,?_);rw[pre m j Á Á];show e.symm
def LI(n:Nat)(d:Nat->ĭ)(last:Int)(m:Nat)(l:À Int):Prop:=l.length=n/\ϲQ (n-1)=last/\∀k,m<=k->ϔU (ϲQ k) (ϲQ j)
theorem Q4{l:À Int}{m:Nat}{v:Int}(h:m<l.length)(k:Nat):gv (l.set m v) k=if k=m then v else ϲQ k:=by
 delta gv;by_cases H:k=m
 .subst H
  rw[ė,K9I h];rfl
 rw[ϱz,K9E λz=>H z.symm]
theorem MP{n:Nat}{d:Nat->ĭ}{last:Int}{m:Nat}{l:À Int}{v:Int}(h:LI n d last (m+1) l)(M:m+1<n)(f:v∈Ć (n-(m+1)) λk=>ϲQ ϴd-d m ϴd)(o:∀z∈Ć (n-(m+1)) λk=>ϲQ ϴd-d m ϴd,v<=z):LI n d last m (l.set m v):=by
 let(a,b,c):=h;let s:=Q4 (v:=v) (ó<|m<l.length);apply(ϧx K8z,?_,λk p H=>?_)
 .rw[s,P3 Á]
  show b
 by_cases e:k=m
 .subst e
  apply(λj J g=>?_,?_)
  .rw[s,s,ė,P3 Á]
   apply o _ ?_;rw[Zc];show(j-(k+1),ϥ6 Á,ϱ8 (ó (k+1+(j-(k+1))=j)))
  rw[Zc]at f;let(q,Q,e):=f;rw[Zl]at Q;apply(k+1+q,Á,Á,?_);rw[s,s,ė,P3 Á];show e.symm
 let(c1,j,K,C,i):=c k Á H;apply(λj J g=>?_,j,K,C,?_)
 .rw[s,s,ϰ4,P3 Á]
  show c1 j J g
 rw[s,s,ϰ4,P3 Á];show i
theorem Gq(O:À Ol)(D0 last:Int)(o:Ϧi):∃s:À Int,ϒ3 ϳ4 last 0 s/\eE [Ö ϳM,Ä D0,Ä last]=Ď (dI s):=by
 delta eE iS;let(j,b,f):=o;let r:fV (Ö [Ä last]) (Ä (É O.length))=Ď (dI<|ŗ O.length last):=by
  rw[sN _ _ Á];delta dI;simp only[Zbl]
 let C:=λ(ρ:L3.Env)(h:(F4 eA (aa 3)<|eC<|.int 2) ρ=.ok (.sh<|.int<|(O.length:Int)-2))=>Vx (fa:=Ò eA 3<|Ê 2) (fb:=Ĥ<|Ê 1) (fc:=Ĥ<|Ê 1) (ρ:=ρ) (x:=É O.length-2) (y:=-1) (z:=-1) h rfl rfl rfl (θ Á) (θ Õ);simp![qK,r];rw[C _ rfl];simp![Y2];generalize L:Ŋ=r';let T:ϒ3 ϳ4 last (ϳw-0) (ŗ O.length last):=by
  apply(Ø,?_,λk h a=>Á);delta gv;rw[K8Z,Os Á];rfl
 apply Ϸf (λi ρ=>∃(s:À Int)(v v6 V:Ú OD),ϒ3 ϳ4 last (ϳw-i) s/\ρ=[ì ϳM,æ<|Ä D0,æ<|Ä last,æ<|Ä O.length,ō<|dI s,v,v6,V]) ⟨ŗ O.length last,_,_,_,T,rfl⟩
 .rintro i d ρ hd ⟨s,v,v6,V,hli,rfl⟩
  let S:=hli.1;let(hi,rfl):=Cd hd;obtain⟨m,g⟩:∃m:Nat,É O.length-2-Ċ=Ι:=⟨ā (É O.length-2-Ċ),Á⟩
  let M:m+1<O.length:=Á
  rw[g];obtain⟨os,h⟩:∃p,O[m]?=ϳc:=⟨O[m]' Á,Ø⟩
  let g1:=p6 h;let em:Ι+1=Ð (m+1):=Á
  let t:ϱ1 ((Ð (m+1))):=θ Á;let s4:ϱ1 ((É O.length)):=θ Á;simp![g1,em,t,s4,K7m,d5];generalize w:Ů=rc;let c:ā (É O.length-Ð (m+1))=ϐQ:=Á
  let e:=cU w (Ģ<|int<|Ð (m+1)+á) (λk=>.sh<|Ä<|ϳQ ϴd-ϳ4 m ϴd) (ŷ ϐQ) (by rw[c];rfl) (Ù Z1<|Ş Á) (by
   ext k K;rw[Zl]at K;let E:Ð (m+1)+á=Ð ϴd:=Á
   rw[E];obtain⟨z,Z⟩:∃z,s[ϴd]?=Â z:=⟨s[ϴd]' Á,Ø⟩
   obtain⟨P,a⟩:∃p,O[ϴd]?=ϳc:=⟨O[ϴd]' Á,Ø⟩
   let(l,N):=yP os P D0 (j os ϳN).1 (j P<|Ts a).1 (þ (j os ϳN).2);let g1:=int_at Z;let g3:=p6 a;let q:ϳQ ϴd=z:=by delta gv;rw[Z];rfl
   let Q:ϳ4 m ϴd=ϴR os P:=by delta dO;rw[h,a];rfl
   rw[q,Q];simp![g1,g3,N])
  subst e;rw[DV];let(u,n,H,hle):=K0 (xs:=Ć ϐQ λk=>ϳQ ϴd-ϳ4 m ϴd) (by
   ext z;let:=Ŧ z;simp at this
   lia)
  let I:ixN (Ã (dI s)) Ι=ϩc:=lH (ñ tK);let nx:=MP (Ù (ó (m+1=ϳw-i)) hli) M H hle;rw[ó (m=ϳw-(i+1))]at nx;simp![yV,d5,n,FC I,BV];rw[ó (m=ϳw-(i+1))];show(_,_,_,_,nx,rfl)
 ext ρ' rfl ⟨s,v,v6,V,hli,rfl⟩;simp![Y2];apply(s,?_,rfl);let:ϳw-Ã (wA (É O.length-2) (ā (É O.length-2 - -1)))=0:=by
  delta wA;rw[I4,Z1];lia
 rw[this]at hli;show hli
theorem yA{ls:À Int}{k:Nat}(h:k<ls.length):ls[k]?=Â (Ϭa k):=ϱl gv ϴ9
theorem Aq{ls:À Int}{n:Nat}(h:ls.length=n)(N:0<n):ϻW (ls.map int)=some (Ä<|Ϭa<|n-1):=by
 let H:ls≠[]:=λz=>by rw[z]at h;simp at h;lia
 let e:Ϭa (n-1)=ls.getLast H:=by
  let a:=yA (ls:=ls) (k:=n-1) Á;rw[List.getLast_eq_getElem];rw[Rw Á]at a;let b:=Zz a;rw[<-b];congr 1;lia
 rw[e]
 conv=>lhs;rw[<-Zbm H,Z6]
 show Bp _ _
theorem Nx(O:À Ol)(D0:Int)(h:Ϧi):∃s l:À Int,ϻA s.length/\ϻA l.length/\IsE O.length ϳ4 ϳQ/\IsL O.length ϳ4 (ϳQ ϳw) ϲQ/\kQ [Ö ϳM,Ä D0]=Ý (ä [Ö<|s.map int,Ö<|l.map int]):=by
 let b:=h.2.1;let le:ϻA (Ã (ϰS ϳw)):=ñ mH
 let Z:=Aq le Á;let(l,a,e):=Gq O D0 (gv (ϰS ϳw) ϳw) h;apply(_,l,le,a.1,HV D0 O O.length Á,(a.2.1,϶K (a.2.2 k Ν H)),?_);delta kQ rS;simp![BR O D0 h,d5,Z,e]
def iF:Fs:=(ao (Ŵ ϰZ)
 (ao (dJ (iR1<|ϸs<|Ő (Η de ð cO (Č<|Ï 0 ah) 1 [])) ϨY (ao (ϲ4<|Y0<|bb (iEn ð) (ϲm<|Ρ 0 1 cW) (av<|Ò gLt 2<|Č<|Ï 1 ah) ð 2 [3])
 (ao (ϱd<|ϓe<|ae (Η de ϳe cO (ĩ (Ò Rg 1 ð)<|Ż (Ż (Ò Rg 2 ð) į)<|Ê 0) 1 [1,0,3]) ah)
 (ao (϶m<|ϸs<|ae (Η de ϳe cO (ĩ (Ò Rg 1 ð)<|Ż (Ż (Ò Rg 2 ð) į)<|Ê 1) 1 [1,0,3]) ah)
 (kE 2<|dZ<|Ï 5<|Ï 6 ah)))))
 (fk 2)))
def cX:Fn:=ϰJ 7 iF
def jI:Fs:=(ao (Ŵ<|Y0<|ak kQ<|Ï 0<|Ï 1 ah)
 (ao (œ<|ϻO (Ż (Ò Rg 2<|Ê 0)<|Ĥ<|Ê 1)<|Ê 2)
 (bF<|bb (iZp (Ò Rg 2<|Ê 0)<|Ò Rg 2<|Ê 1) (ϲm<|Ρ 0 1 cW) cO (ϻL (ϻO (Ò aF 0 Ų)<|Ê 2) ŏ) 2 [3])))
def bO:Fn:=ϰJ 4 jI
def uC:Fs:=(ao (Ŵ<|Ϧy (Ê 0)<|Č<|Ï 0 ah)
 (ao (œ<|Η de (όa<|Ï 0 ah) cO (bz<|ae (Y0<|dZ<|ae (ϳD (Ĥ<|Ê 256) ð)<|Ő (ϳD (Ê 256) ð)) ah) 1 [])
 (ao (dJ (iR3 (ϻL (Č<|Ï 0 ah)<|Ê 1) (Ĥ<|Ê 1)<|Ĥ<|Ê 1) Ϸx (ao (ϱd<|Y0<|ϤW<|Ï 0<|Ï 4 ah)
 (Z4 (av<|ϴQ (Č<|Ï 5 ah)<|Ê 0) (ao (vY 3 5<|϶m<|Y0<|Df 3 5)
 (ao (ϥf<|Y0<|ak bO<|Ï 6<|Ï 1 ah)
 (ao (dJ (iZp ϳL<|aa 7) (ϲm<|Ρ 8 9 cW)<|ϖt ϩt)
 (rT 3 ϳe<|ϓp<|Ï 6<|Ï 7 ah)))) Z9)))
 (όL<|pW 2<|bF<|dZ<|Ï 2<|Ï 3 ah))))
def mW:Fn:=ϰJ 10 uC
def iQ:Fs:=(ao (œ<|ϓe<|ae (bb (iZp Ų<|όa<|Ï 0 ah) (ϲm<|Ρ 0 1 cW) cO (Ò eA 0<|Ò fV 2 Ų) 2 [2]) ah)
 (bF<|Η de Ų cO (Ò eA 0 Ų) 1 [3]))
def fW:Fn:=aZ 3 4 iQ
def xH:Fs:=(ao (Ŵ<|Ż (ak mW<|Ï 0<|Ï 1 ah)<|Ê 0)
 (ao (œ<|bz<|Ő (Ê 0))
 (ao (dJ (iR2 (Ê 1)<|Č<|Ï 0 ah) Ϸx<|όV<|Cv<|ĩ (Ò Rg 3<|Ż (Ò Rg 0 ϳe)<|Ê 0)<|Ò Rg 2 ϳe)
 (όL<|bF<|ak fW<|Ï 0<|Ï 3<|Ő (Ê 256)))))
def kY:Fn:=ϰJ 5 xH
def CB:À Int->Int|[]=>0|a::as=>zF a as
theorem B2{xs:À Int}(h:ϨJ):rD [Ö ϒw]=Ý (Ä<|CB xs):=by
 cases xs with|nil=>show ϱH h|cons a as=>show LN a as
theorem mM{xs:À Int}(h:ϨJ):CB xs∈xs/\∀z∈xs,CB xs<=z:=by
 cases xs with|nil=>show ϱH h|cons a as=>show ue as a
def oA(O:À Ol)(j l:Nat):ϲZ:=ę (ϴw[l]?) (0,0)
def qZ(O:À Ol)(j:Nat):Nat:=(Ã ϴw)
def there(O:À Ol)(l:Nat):Ó:=ļ (ŷ O.length) λj=>Ë<|l<Ϲ2
def jl(O:À Ol)(T:À Int)(l:Nat):ϲZ:=(CB<|Î (Ϸl l) λj=>gv T j+(ϩd l).1,nz<|Î (Ϸl l) λj=>gv T j+(ϩd l).2)
def mxN(O:À Ol):Nat:=(nz<|O.map λo=>(É o.length)).toNat
def jo(O:À Ol)(T:À Int):Ol:=Ć ϷF<|jl O T
theorem pC(os:Ol):Ã ϹW=os.length:=Ň gq I4
theorem AA{O:À Ol}(h:O≠[]):nz (O.map λo=>(É o.length))=É ϷF/\(∃j,ϯ3/\Ϲ2=ϷF)/\∀j,ϯ3->Ϲ2<=ϷF:=by
 let(S,w):=dS (xs:=O.map λo=>(É o.length)) λz=>h ϳX;let(o,H,E):=Zc.mp S;let e:nz (O.map λo=>(É o.length))=É ϷF:=by delta mxN;rw[<-E];rfl
 apply(e,?_,Ϥ1)
 .let(j,J,a):=Zap H
  apply(j,J,?_);delta qZ;rw[Ϻl,a];change o.length=_;let:É o.length=É ϷF:=by rw[<-e];show E
  lia
 let:=w (Ϲ2:Int)<|ϱ6 ⟨O[j],Zae J,ϱl qZ Ϻl⟩;rw[e]at this;lia
theorem tV{O:À Ol}{l:Nat}(h:O≠[])(H:l<ϷF):Ϸl l≠[]:=by
 obtain⟨_,⟨j,J,a⟩,_⟩:=AA h;ext z;let:j∈Ϸl l:=Ϭm ⟨Zl.mpr J,Tl Á⟩;rw[z]at this;cases this
theorem Hq(O:À Ol):fj ϳM=Ć O.length λj:Nat=>ϰx [Ä ĺ,Ö<|gq ϴw]:=by
 apply K9K;ext i;rw[Oe];by_cases hi:i<O.length
 .rw[Ϲ1]
  delta fj dt;rw[Oe,K8S,Oe,ϲO];simp[Rw hi]
 rw[K9c (by delta fj dt;simp;lia),K9c<|ñ Z1];rfl
theorem B0(O:À Ol){j:Nat}(h:ϯ3):Y9 ϳM ĺ=some (Ö<|gq ϴw):=Ù ϴ9 (p6 ϴ9)
theorem EM(os:Ol){l:Nat}(h:l<os.length):Y9 ϹW (l:Int)=Â (ä [Ä (ę (os[l]?) (0,0)).1,Ä (ę (os[l]?) (0,0)).2]):=Ù ϴ9 (IQ ϴ9)
theorem xa{st:À Int}{j:Nat}(h:j<st.length):Y9 ϧv ĺ=Â (Ä<|϶E j):=int_at<|yA h
theorem XU(L:Ó):ϰH (L.map (Ģ (ë<|Ä á))) (fw L):=by delta fw;rw[Tk];show ϶X
theorem HB(os:Ol)(p:ϲZ):Î ϹW OD.sh++[ë<|ä [Ä p.1,Ä p.2]]=(gq<|os++[p]).map OD.sh:=ϰM gq Z6 Z6
theorem GZ(O:À Ol)(st:À Int)(q:Ϧi)(u:ϻA st.length):cX [Ö ϳM,Ö ϧv]=ψ (gq<|jo O st):=by
 delta cX iF;let(f,M,r):=q;let n:O≠[]:=λz=>by rw[z]at M;simp at M
 let(x,X,s):=AA n;let B:ϷF<=100:=by
  let(j,J,a):=X;let:=(f O[j]<|Zae J).2;delta qZ at a;rw[Ϻl]at a;let p:Ã (O[j])=ϷF:=a;lia
 simp![Y2];generalize w:Ů=rc;let e:=cU w (λo:Ol=>Ö<|gq o) (λo:Ol=>.sh<|Ä (É o.length)) O rfl (Ş Á) (by ext o f;simp![pC]);subst e;let k:ϰH (O.map λo:Ol=>ë<|Ä (É o.length)) ((O.map λo:Ol=>(É o.length)).map int):=ϱq Tk Tk (Zt λo _=>ϵE)
 let hg:=mP (xs:=O.map λo:Ol=>(É o.length)) λz=>n ϳX;rw[x]at hg;let S:ϱ1 (ϷF:Int):=θ Á;simp![k,hg,S];generalize L:Ŋ=r';apply Ϸf (λi g=>∃E V v v6:Ú OD,g=[ì ϳM,ì ϧv,ō<|(gq<|Î ϶u ϥd).map OD.sh,E,V,v,v6]) ϐm
 .rintro i d g hd ⟨E,V,v,v6,rfl⟩
  let(hi,rfl):=ϷK;rw[K9n]at hi;rw[K8R];let T:=tV n hi;let t:∀j∈Ϸl i,ϯ3/\i<Ϲ2:=λj J=>by let:=K89.mp J;show(Zl.mp this.1,Ϥr this.2)
  let tl:Ã (Ϸl i)<=100:=by
   let:=K8i (λj=>Ë<|i<Ϲ2)<|ŷ O.length;rw[Z1]at this;delta there;lia
  simp![Y2];generalize w:Ů=rc
  let e:=ko w (λj:Nat=>ϰx [Ä ĺ,Ö<|gq ϴw]) (λj=>Ë<|i<Ϲ2) (λj:Nat=>.sh<|Ä ĺ) (ŷ O.length) (Hq O) (Ù Z1<|Ş Á) (by
   ext j J;let D:Ë (Ċ<É ((Ã ϴw)))=Ë (i<Ϲ2):=by
    delta qZ;by_cases h:i<Ã ϴw
    .rw[ϵc,Tl Á]
    rw[ϲR,Pi Á]
   apply(?_,ϰs ?_)
   .simp![pC,D]
   simp![Y2])
  subst e;clear w;let G:(ļ (ŷ O.length) λj=>Ë<|i<Ϲ2)=Ϸl i:=rfl;rw[G];simp![XU];generalize w:Ů=rc
  let e:=cU w (λj:Nat=>int ĺ) (λj=>.sh<|Ä<|϶E j+(ϩd i).1) (Ϸl i) rfl (Ş Á) (by
   ext j J;let(b,c):=t j J;let g1:=xa (st:=st) (j:=j) Á
   let g2:=B0 O b;let g3:=EM ϴw (l:=i) c;simp![g1,g2,g3];rfl)
  subst e;clear w;let m:=B2 (xs:=Î (Ϸl i) λj=>϶E j+(ϩd i).1) λz=>T ϳX;let H:=mP (xs:=Î (Ϸl i) λj=>϶E j+(ϩd i).2) λz=>T ϳX;rw[DV];simp![d5,m];generalize w:Ů=rc
  let e:=cU w (λj:Nat=>int ĺ) (λj=>.sh<|Ä<|϶E j+(ϩd i).2) (Ϸl i) rfl (Ş Á) (by
   ext j J;let(b,c):=t j J;let g1:=xa (st:=st) (j:=j) Á
   let g2:=B0 O b;let g3:=EM ϴw (l:=i) c;simp![g1,g2,g3];rfl)
  subst e;clear w;rw[DV];let lb:ϰT (Ã (gq<|Î ϶u ϥd)):=by rw[pC,I4,Z1];show d9 Á
  simp![d5,H,lb];let sn:=HB (Î ϶u ϥd)<|ϥd i;rw[show Î ϶u ϥd++[ϥd i]=Ć (i+1) ϥd by rw[K8A,Z6];rfl]at sn;rw[<-sn];show(_,_,_,_,rfl)
 ext ρ' rfl ⟨E,V,v,v6,rfl⟩;rw[fI,K9n];simp![Y2];rfl
theorem JR(O:À Ol)(T:À Int):Ã (jo O T)=ϷF:=ν jo I4 Z1
theorem Mf{e l:À Int}{n:Nat}(he:e.length=n)(a:l.length=n):qY (e.map int) (l.map int)=Î ϰf λk=>ϰx [Ä<|gv e k,Ä<|ϲQ k]:=by
 apply K9K;ext i;delta qY;rw[Oe,Oe];by_cases hi:i<n
 .rw[Ϲ1,(Zbt (z:=(int<|gv e i,int<|ϲQ i))).mpr ⟨ϲ5 Oe (yA Á),ϲ5 Oe (yA Á)⟩]
  rfl
 rw[K9c Ϲj,K9c Ϲj];rfl
structure IsSt(D0:Int)(O:À Ol)(es ls st:À Int):Prop where
 le:ϻA es.length
 ll:ϻA ls.length
 lst:ϻA st.length
 isE:IsE O.length ϳ4 (gv es)
 isL:IsL O.length ϳ4 (gv es ϳw) Ϭa
 eq:∀k,k<O.length->϶E k=(gv es k+Ϭa k) / 2-gv es ϳw / 2
theorem GA(O:À Ol)(D0:Int)(o:Ϧi):∃s l T:À Int,IsSt D0 O s l T/\bO [Ö ϳM,Ä D0]=Ď (dI T):=by
 let(s,l,h,H,f,c,g):=Nx O D0 o;let n:=o.2.1;apply(s,l,Ć O.length λk=>(ϳQ k+ϲQ k) / 2-ϳQ ϳw / 2,(h,H,Ø,f,c,λk K=>ϰM gv Oe (K9Z K)),?_);delta bO jI;let a:=Aq h Á;let lb:=o.2.2;simp![g,d5,a,Mf h H];generalize w:Ů=rc;let e:=cU w (Ģ<|ϰx [Ä<|ϳQ k,Ä<|ϲQ k]) (λk=>.sh<|Ä<|(ϳQ k+ϲQ k) / 2-ϳQ ϳw / 2) (ŷ O.length) rfl (Ù Z1<|Ş Á) (by ext k K;simp![Y2]);subst e;rw[DV];simp![Y2]
open Classical in
def stF(D0:Int)(O:À Ol):À Int:=if h:∃T:À Int,bO [Ö ϳM,Ä D0]=Ď (dI T)then choose h else []
theorem Kc{a b:À Int}(h:dI a=dI b):a=b:=by
 let:=Zh ϐz h;rw[d5,d5]at this;let inj:∀x y:À Int,x.map int=y.map int->x=y:=by
  ext x
  induction x with
  |nil=>ext y Y;cases y with|nil=>rfl|cons b y=>simp at Y
  |cons a x ih=>
   ext y Y;cases y with
   |nil=>simp at Y
   |cons b y=>
    simp at Y;rw[Y.1,ih y<|Ŀ Y.2]
 show inj a b this
theorem xW{O:À Ol}{D0:Int}(o:Ϧi):(∃e l,IsSt D0 O e l<|ϰm O)/\bO [Ö ϳM,Ä D0]=Ď (dI<|ϰm O):=by
 let(e,l,T,h,H):=GA O D0 o;let hex:∃T:À Int,bO [Ö ϳM,Ä D0]=Ď (dI T):=⟨T,H⟩;let S:bO [Ö ϳM,Ä D0]=Ď (dI<|ϰm O):=by delta stF;rw[dif_pos hex];show Zdh hex
 let:ϰm O=T:=by rw[H]at S;show(Kc<|OD.ol.inj<|R.ok.inj S).symm
 show((e,l,϶1 this),S)
def ini(T:À Nd)(k:Nat):Ol:=[(-256*ϱZ k,256*ϱZ k)]
def mT(out:À Ol)(k:Nat):Ol:=ę (out[k]?) []
def bE(T:À Nd)(out:À Ol)(k:Nat):À Ol:=Î Ĭ<|mT out
def joB(T:À Nd)(D0:Int)(out:À Ol)(k:Nat):Ol:=jo (ϱg out k)<|ϰm<|ϱg out k
def uY(T:À Nd)(D0:Int)(k:Nat)(out:À Ol):À Ol:=Ì (Ĭ=[]) out (ϯz (mT out k++ϻw out k))
def d_:À Int->Ó->À Int->À Int|o,c::cs,s::ss=>d_ (o.set c s) cs ss|o,_,_=>o
def uX(T:À Nd)(D0:Int)(k:Nat)(out:À Ol)(off:À Int):À Int:=if Ĭ=[]then off else d_ off Ĭ (ϰm<|ϱg out k)
def PO(T:À Nd)(D0:Int):Nat->À Ol×À Int|0=>(Ć T.length Ϲ8,ŗ T.length 0)|m+1=>(uY T D0 (ϲj-m) (ÿ m).1,uX T D0 (ϲj-m) (ÿ m).1 (ÿ m).2)
theorem vj:∀(o:À Int)(cs:Ó)(ss:À Int)(c:Nat)(s:Int),ϙP->d_ o (cs++[c]) (ss++[s])=Ť ϯm c s
 |o,[],[],c,s,_=>rfl
 |o,[],s'::ss,c,s,h=>ϵo
 |o,c'::cs,[],c,s,h=>ϵo
 |o,c'::cs,s'::ss,c,s,h=>by rw[K92,K92,d_,d_,vj _ cs ss c s Ϸ2]
theorem sf:∀(o:À Int)(cs:Ó)(ss:À Int),Ã ϯm=o.length
 |o,[],ss=>ϖa
 |o,c::cs,[]=>ϕY
 |o,c::cs,s::ss=>by rw[d_,sf _ cs ss,K8z]
theorem nE:∀(o:À Int)(cs:Ó)(ss:À Int)(x:Nat),x∉cs->gv ϯm x=gv o x
 |o,[],ss,x,_=>ϖa
 |o,c::cs,[],x,_=>ϕY
 |o,c::cs,s::ss,x,h=>by
  rw[d_,nE _ cs ss x λz=>h<|Ą z];delta gv;rw[K9E λz=>h<|Ù z Uf]
theorem yW:∀(o:À Int)(cs:Ó)(ss:À Int)(i:Nat)(x:Nat),cs.Nodup->(∀c∈cs,c<o.length)->ϙP->cs[i]?=ö->gv ϯm x=gv ss i
 |o,[],ss,i,x,_,_,_,h=>ϵo
 |o,c::cs,[],i,x,_,_,h,_=>ϵo
 |o,c::cs,s::ss,i,x,nd,hb,hl,h=>by
  let(N,n):=ϓ5;rw[d_];cases i with
  |zero=>
   let X:c=x:=Ϸ2
   subst X;rw[nE _ cs ss c N];delta gv;rw[K9I<|hb c Uf];rfl
  |succ i=>
   rw[yW _ cs ss i x n (λd H=>Ù K8z (hb d<|Ą H)) (Ŀ hl) Ϸ2];rfl
theorem aM{T:À Nd}{k j:Nat}:j∈Ĭ↔ϴH/\ī j=á:=by delta G0;rw[K89,Zl,K9k]
theorem h9{T:À Nd}(he:Ž){k j:Nat}(h:j∈Ĭ):k<j/\ϴH:=by
 let(H,a):=ϫ5;obtain⟨n,N⟩:∃n,T[j]?=ŵ:=⟨T[j],ϓQ⟩
 let:=(he j n N).2.2;rw[eG N]at a;show(Á,H)
theorem Lw(T:À Nd)(k:Nat):(Ĭ).Nodup:=List.Pairwise.imp (λh=>K9O h) (show(Ĭ).Pairwise ύN by delta G0;show όn)
theorem Fu(T:À Nd)(k:Nat):(Ĭ).Pairwise ύN:=ϧ8 G0 όn
theorem CZ(T:À Nd)(k:Nat):Ϭd (Ã Ĭ):=by
 delta G0;let:=K8i (λj=>Ë<|ī j=á)<|ŷ T.length;rw[Z1]at this;show this
theorem Ba{out:À Ol}{k j:Nat}{o:Ol}(h:k≠j):mT (ϯz o) j=mT out j:=Ň mT (K9E h)
theorem Gb{out:À Ol}{k:Nat}{o:Ol}(h:k<out.length):mT (ϯz o) k=o:=ϱl mT (K9I h)
theorem Ht{T:À Nd}(he:Ž){out:À Ol}{k q:Nat}{o:Ol}(h:k<=q):ϱg (ϯz o) q=ϱg out q:=ϧ8 bE (Zt λj J=>Ba (þ (ϲv J).1))
structure PI(ts:À Nd)(D0:Int)(m:Nat):Prop where
 l1:ϥb (Ã (ϸm).1)
 l2:ϥb (Ã (ϸm).2)
 lo:∀k,k<ϒ4->Ϻa ϸm=ini ts k
 hi:∀k,ϒ4<=k->ċ->Ϻa ϸm=ini ts k++(Ì (Ě=[]) []<|joB ts D0 (ϸm).1 k)
 ln:∀k,ċ->Τ 1 (Ã (Ϻa ϸm)) (ts.length-k)
 of:∀k,ϒ4<=k->ċ->∀i j,û Ě=ϳb->gv (ϸm).2 j=gv (ϰm<|bE ts (ϸm).1 k) i
 z:gv (ϸm).2 0=0
theorem xv{T:À Nd}{D0:Int}{m k:Nat}(he:Ž)(a:ϰw)(h:PI T D0 m)(H:Ĭ≠[]):okO (ϱg (ÿ m).1 k):=by
 apply(λos o=>?_,?_,?_)
 .unfold bE at o
  let(j,J,rfl):=Zc.mp o;let:=h.ln j (ϲv J).2;lia
 .unfold bE
  rw[I4];show ϗC
 delta bE;rw[I4];let:=CZ T k;lia
theorem Fj{T:À Nd}{D0:Int}{m k:Nat}(he:Ž)(h:PI T D0 m)(H:Ĭ≠[]):Ã (ϻw (ÿ m).1 k)<=T.length-(k+1):=by
 delta joB;rw[JR];let n:ϱg (ÿ m).1 k≠[]:=by delta bE;simp[H]
 obtain⟨_,⟨j,J,a⟩,_⟩:=AA n;rw[<-a];delta qZ bE;delta bE at J;rw[I4]at J;rw[Oe,Ϻl];change Ã (mT _ Ĭ[j])<=_;let g:=ϲv<|Zae J;let:=(h.ln _ g.2).2;lia
theorem zg{T:À Nd}(D0:Int)(he:Ž)(n:ϲG)(L:ϰw):∀m,m<=T.length->PI T D0 m:=by
 ext y
 induction y with
 |zero=>
  ext _;let o:∀k,š->Ϻa (ÿ 0)=Ϲ8 k:=ϳh (ϒx PO mT ϸV)
  apply(Ϻ1 PO,Ϻ1 PO,ϳh (o k Á),λk d H=>Á,ϳh ?_,λk d H=>Á,?_)
  .rw[o k h]
   delta ini;simp;lia
  delta PO gv;rw[K8Z,Os n];rfl
 |succ m ih_=>
  ext M;let I:=ih_ Á;obtain⟨k0,K⟩:∃k0,k0=ϲj-m:=ι;let l:k0<T.length:=Á
  by_cases hc:Ϥe k0=[]
  .let e1:(ÿ<|m+1).1=(ÿ m).1:=ϮD uY Os
   let g:(ÿ<|m+1).2=(ÿ m).2:=ϮD uX Os
   apply(Ù e1 I.l1,Ù g I.l2,ϳh (Ù e1 (I.lo k Á)),λk d H=>?_,ϳh (Ù e1 (I.ln k h)),λk d H i j J=>?_,Ù g I.z)
   .rw[e1]
    by_cases h:k=k0
    .subst h
     rw[I.lo k Á,ϩu,Zw]
    show I.hi k Á H
   rw[e1,g];by_cases h:k=k0
   .subst h
    rw[hc]at J;simp at J
   show I.of k Á H i j J
  let e1:(ÿ<|m+1).1=Ť (ÿ m).1 k0 (mT (ÿ m).1 k0++ϻw (ÿ m).1 k0):=ϮD uY P3
  let g:(ÿ<|m+1).2=d_ (ÿ m).2 (Ϥe k0) (ϰm<|ϱg (ÿ m).1 k0):=ϮD uX P3
  let B:∀q,k0<=q->ϱg (ÿ<|m+1).1 q=ϱg (ÿ m).1 q:=λq Q=>Ù e1 (Ht he Q)
  let f:∀q,k0<=q->ϻw (ÿ<|m+1).1 q=ϻw (ÿ m).1 q:=λq Q=>Ň joB (B q Q)
  let self:mT (ÿ<|m+1).1 k0=Ϲ8 k0++ϻw (ÿ m).1 k0:=by rw[e1,Gb (ϤF I.l1),I.lo k0 Á]
  let t:∀k,k≠k0->Ϻa (ÿ<|m+1)=Ϻa (ÿ m):=ϳh (ϰB e1 (Ba ϨW))
  obtain⟨⟨E,p,S⟩,_⟩:=Ϫt<|xv he L I hc;let s:Ã (Ϥe k0)=Ã (ϰm<|ϱg (ÿ m).1 k0):=by rw[S.lst];delta bE;rw[I4]
  apply(ϱq e1 K8z I.l1,ϱq g sf I.l2,ϳh (Ù (t k Á) (I.lo k Á)),λk d H=>?_,ϳh ?_,λk d H i j J=>?_,?_)
  .by_cases h:k=k0
   .subst h
    rw[self,ϩv,f k ß]
   rw[t k h,f k Á];show I.hi k Á H
  .by_cases e:k=k0
   .subst e
    rw[self,S5];let:=Fj (D0:=D0) he I hc;let:Ã (Ϲ8 k)=1:=rfl;lia
   rw[t k e];show I.ln k h
  .by_cases h:k=k0
   .subst h
    rw[g,B k ß];show yW _ _ _ i j (Lw T k) (λc C=>Ù I.l2 (ϲv C).2) s J
   rw[g,B k Á,nE _ _ _ j ϴS]
   .exact I.of k Á H i j J
   let a:=(aM.mp<|Ts J).2;let b:=(aM.mp z).2;rw[a]at b;lia
  rw[g,nE _ _ _ 0 λz=>þ (ϲv z).1];show I.z
theorem sY{ch:Ó}{j:Nat}:zY (nD ch) j=true↔j∈ch:=by
 delta zY nD iL;rw[Zdb];constructor
 .rintro⟨d,hd,e⟩
  rw[Tk]at hd;let(k,H,rfl):=Β hd;let E:Ë (á=ĺ)=true:=e;let:=of_decide_eq_true E;rw[ó (j=k)];show H
 ext h;show(Ä ĺ,Ù Tk (ϱ6 ⟨j,h,rfl⟩),ϩe)
theorem Pn{ch:Ó}{X:À OD}:∀C:Ó,(∀j∈C,j∈ch/\ϯX)->ϬS (nD C)=some (C.map λj=>ę (X[j]?.map OD.er) ù):=by
 ext y
 induction y with
 |nil=>ext _;show rfl
 |cons j r ih_=>
  ext h;let i:=ih_ λk K=>h k<|Ą K;let(a,H):=h j Uf;change ϬS (Ä ĺ::ϷG)=_;rw[mU1];let I:ixN (Ã (ϹM ch X)) ĺ=ϳb:=lH (Ϲi wY);let gt:Ĵ (ϹM ch X)=Â (.sh (X[j]).er):=by
   rw[oN,Rw H];change Â (Ì (ό5 ch (0+j)) (ë (X[j]).er)<|X[j])=_;rw[K87,Os<|sY.mpr a]
  rw[I];change(match Ĵ (ϹM ch X) with|some (.sh d)=>(ϬS ϷG).map λs=>d::s|_=>none)=_;rw[gt];change(ϬS ϷG).map (λs=>(X[j]).er::s)=_;rw[i,W1,Rw H];rfl
def pcs(q:Fs):Fs:=(ao (Ŵ<|Ϧy (Ê 0)<|Č<|Ï 0 ah)
 (ao (œ<|Η de (όa<|Ï 0 ah) cO (bz<|ae (Y0<|dZ<|ae (ϳD (Ĥ<|Ê 256) ð)<|Ő (ϳD (Ê 256) ð)) ah) 1 [])
 (ao (dJ (iR3 (ϻL (Č<|Ï 0 ah)<|Ê 1) (Ĥ<|Ê 1)<|Ĥ<|Ê 1) Ϸx (ao (ϱd<|Y0<|ϤW<|Ï 0<|Ï 4 ah)
 (Z4 (av<|ϴQ (Č<|Ï 5 ah)<|Ê 0) (ao (vY 3 5<|϶m<|Y0<|Df 3 5)
 (ao (ϥf<|Y0<|ak bO<|Ï 6<|Ï 1 ah)
 (ao (dJ (iZp ϳL<|aa 7) (ϲm<|Ρ 8 9 cW)<|ϖt ϩt)
 (rT 3 ϳe<|ϓp<|Ï 6<|Ï 7 ah)))) Z9)))
 q)))
theorem Cp(T:À Nd)(D0:Int)(he:Ž)(P:ϲG)(u:ϰw)(L:Ϧl ϺJ):
  ∃(xs:À OD)(ys:À Go)(v o v6 p V b:Ú OD),(∀q:Fs,pcs q [ì Ľ,æ<|Ä D0,none,none,none,none,none,none,none,none]=q [ì Ľ,æ<|Ä D0,ō<|dI (ÿ T.length).2,Â ϶o,v,o,v6,p,V,b])/\ϮU=dt (ÿ T.length).1/\xs[0]?=Â ϙe:=by
 delta pcs;let rp:=sN (Ä 0) T.length Á;let ri:(ŗ T.length<|int 0).map OD.sh=dI (ŗ T.length 0):=by delta dI;simp only[Zbl]
 let rs:ϰH (Î ϶I λz=>ë<|Ä z) (Î ϶I int):=Ù Tk Ϧ9
 let R:ϵw (Ã ϶I):=Ň cy I4
 simp![bG,rp,ri,rO T L u,rs];generalize Q:Ů=rc;let e:=cU Q int (λz:Int=>.ol [.sh<|ä [Ä<|-256*z,Ä<|256*z]]) ϶I rfl (ϓY<|Ş Á) (by ext z hz;simp![Y2]);subst e;clear Q;obtain⟨X,f⟩:∃X,X=Î ϶I λz:Int=>ϳT [.sh<|ä [Ä<|-256*z,Ä<|256*z]]:=ι
 let x0:∀k,š->X[k]?=Â (.ol ϭf):=λk H=>by
  rw[f,Oe,yA<|by rw[R];show H];rfl
 let G:ϵm=dt (ÿ 0).1:=by
  apply K9K;ext k;delta dt PO;rw[Oe,Tk,Oe];by_cases H:š
  .rw[x0 k H,K9Z H]
   change Â (ϳT _).er=Â _;rw[vf,aG];rfl
  rw[K9c (by rw[f,I4,R];lia),K9c<|ñ Z1];rfl
 rw[<-f];let r3:=λ(ρ:L3.Env)(h1:(F4 eA (eB bq<|ae (aa 0) ah)<|eC<|.int 1) ρ=.ok (.sh<|.int<|(T.length:Int)-1))=>Vx (fa:=ϻL (Č<|Ï 0 ah)<|Ê 1) (fb:=Ĥ<|Ê 1) (fc:=Ĥ<|Ê 1) (ρ:=ρ) (x:=É T.length-1) (y:=-1) (z:=-1) h1 rfl rfl rfl (θ Á) (θ Õ);let r4:=r3 [ì Ľ,æ<|Ä D0,ō<|dI<|ŗ T.length 0,Â ϨR,none,none,none,none,none,none] (ϥg bG);simp![r4];generalize hL:Ŋ=r';apply bJ hL (λm ρ=>∃(xs:À OD)(v o v6 p V b:Ú OD),ϮU=dt (ÿ m).1/\(∀k,k<T.length-m->xs[k]?=Â (.ol ϭf))/\(∃ys:À Go,xs[0]?=Â ϙe)/\ρ=[ì Ľ,æ<|Ä D0,ō<|dI (ÿ m).2,Â ϶o,v,o,v6,p,V,b])
  ⟨X,_,_,_,_,_,_,G,϶K (x0 k Á),ϴ7 (x0 0 P),rfl⟩ ?_ ?_
 .rintro m d ρ hd ⟨xs,v,o,v6,p,V,b,xe,xo,⟨ys,xz⟩,rfl⟩
  let(hm,rfl):=Cd hd;let hm2:m<T.length:=Á
  obtain⟨k,H⟩:ϥ9 (k=ϲj-m):=ι;let K:š:=Á
  let Z:É T.length-1-Ι=á:=Á
  rw[Z];let I:=zg D0 he P u m Á;let O:=lN T k K u;let M:ϵw xs.length:=by let:=Ŧ xe;rw[I4,qK,I.l1]at this;show this
  by_cases hc:Ĭ=[]
  .let D:å (Ë (É 0<É ((Ã (nD Ĭ))))):=Pi (by rw[dN,hc];decide)
   let e1:(ÿ<|m+1).1=(ÿ m).1:=ϮE uY Os
   let E:(ÿ<|m+1).2=(ÿ m).2:=ϮE uX Os
   simp![O,dM,D];rw[<-E];show(xs,_,_,_,_,_,_,Ù e1 xe,λq hq=>xo q Á,(ys,xz),rfl)
  let D:Ë (É 0<É ((Ã (nD Ĭ))))=true:=Tl (by
   rw[dN];let:=϶O hc
   lia)
  let e1:(ÿ<|m+1).1=Ť (ÿ m).1 k (Ϻa (ÿ m)++ϻw (ÿ m).1 k):=ϮE uY P3
  let E:(ÿ<|m+1).2=d_ (ÿ m).2 Ĭ (ϰm<|ϱg (ÿ m).1 k):=ϮE uX P3
  let B:=xv he u I hc;obtain⟨⟨es,ls,S⟩,F⟩:=Ϫt B;let U:=GZ (ϱg (ÿ m).1 k) (ϰm<|ϱg (ÿ m).1 k) B S.lst;let N:Ã (ϱg (ÿ m).1 k)=Ã Ĭ:=Ň bE I4
  let cl:=CZ T k;let gt:mU (ϹM Ĭ xs) (nD Ĭ)=Â (dt<|ϱg (ÿ m).1 k):=by
   rw[Pn Ĭ λj J=>⟨J,by rw[M];show(ϲv J).2⟩];apply Zh some ?_;delta bE dt;rw[Tk];apply Zt Ϥ1;let A:=(ϲv J).2;let:=Zh (λl=>l[j]?) xe;simp only[Oe]at this;let g:Ĵ (ÿ m).1=Â ((ÿ m).1[j]'(by rw[I.l1];show A)):=Rw _;rw[this];change ę (Ĵ<|dt (ÿ m).1) ù=ϫg (gq<|ę (Ĵ (ÿ m).1) []);delta dt;rw[Oe,g];rfl
  let jl:=Fj (D0:=D0) he I hc;generalize t:ϰm (ϱg (ÿ m).1 k)=st at S F U E;let W:Ã Ĭ=st.length:=by rw[S.lst,N]
  simp![O,dM,D];rw[RD (xs:=xs) (ks:=nD Ĭ) rfl rfl];simp![Y2];rw[Xj (i:=3) (c:=5) (xs:=ϹM Ĭ xs) (ks:=nD Ĭ) rfl rfl gt<|by rw[qK,N];show Ş Á];simp![aG,F,d5];generalize w:Ŋ=r2;apply bJ w (λi ρ=>∃V b:Ú OD,ρ=[ì Ľ,æ<|Ä D0,ō<|dI<|d_ (ÿ m).2 (ý Ĭ i)<|st.take i,ō<|ϹM Ĭ xs,æ<|Ä k,ì<|nD Ĭ,ì<|dt<|ϱg (ÿ m).1 k,ì ϧv,V,b]) ⟨_,_,by rw[K7s,K7s,d_];ext _ _ _ _ h;cases h⟩ ?_ ?_
  .rintro i d ρ hd ⟨V,b,rfl⟩
   let(x,y,C,Y,rfl):=sX hd;delta nD iL at C;rw[Tk,Oe]at C;let(j,J,rfl):=Zb.mp C;rw[Oe]at Y;let(s,hs,rfl):=Zb.mp Y;let jg:=(ϲv<|Ts J).2;let ix:ixN (dI<|d_ (ÿ m).2 (ý Ĭ i)<|st.take i).length ĺ=ϳb:=lH (by rw[tK,sf,I.l2];show jg);simp![Function.comp,FC ix,BV];rw[take_snoc J,Ϩf hs,vj _ _ _ _ _<|by rw[Zk,Zk,W]];show(_,_,rfl)
  ext ρ' rfl ⟨V,b,rfl⟩;let zl:Ã (qY (nD Ĭ) ϧv)=Ã Ĭ:=by delta qY;rw[I4,Zay,dN,I4,<-W,Nat.min_self]
  rw[zl,K90 ß,K90 Á,<-E];let xk:(ϹM Ĭ xs)[k]?=Â (.ol ϭf):=by
   rw[oN,xo k Á];change Â (Ì (ό5 Ĭ (0+k)) _ _)=_;rw[P3 λz=>þ (ϲv<|sY.mp z).1]
  let ex:=OQ (i:=3) (k:=ϳe) (a:=ϓp<|Ï 6<|Ï 7 ah) (ρ:=[ì Ľ,æ<|Ä D0,ō<|dI (ÿ<|m+1).2,ō<|ϹM Ĭ xs,æ<|Ä k,ì<|nD Ĭ,ì<|dt<|ϱg (ÿ m).1 k,ì ϧv,V,b]) (xs:=ϹM Ĭ xs) (ys:=ϭf) (zs:=(gq<|jo (ϱg (ÿ m).1 k) st).map OD.sh) (z:=k) (j:=k) rfl rfl (lH ϙf) xk (by simp![U]) (by
   rw[I4,I4,pC,pC];let jl2:Ã (jo (ϱg (ÿ m).1 k) st)<=T.length-(k+1):=by delta joB at jl;rw[t]at jl;show jl
   let:Ã (Ϲ8 k)=1:=rfl;show Ş Á)
  simp![Y2];rw[ex];simp![Y2];let jb:ϻw (ÿ m).1 k=jo (ϱg (ÿ m).1 k) st:=by delta joB;rw[t]
  apply(_,_,_,_,_,_,_,?_,λq hq=>?_,?_,rfl)
  .rw[Zch,O6,xe,e1,I.lo k Á,jb,vf]
   delta dt gq;rw[Zch,Z6,Z6,aG,aG]
  .rw[K9E Á,oN,xo q Á]
   change Â (Ì (ό5 Ĭ (0+q)) _ _)=_;rw[P3 λz=>þ (ϲv<|sY.mp z).1]
  by_cases r:k=0
  .apply(gq (Ϲ8 k)++gq (jo (ϱg (ÿ m).1 k) st),?_)
   rw[Z6,ń (ϰC 0=k) r.symm,K9I ϙf]
  apply(ys,?_);rw[K9E r,oN,xz];change Â (Ì (ό5 Ĭ (0+0)) _ _)=_;rw[P3 λz=>þ (ϲv<|sY.mp z).1]
 rintro ρ' rfl ⟨xs,v,o,v6,p,V,b,xe,xo,⟨ys,xz⟩,rfl⟩;rw[Ji,ó (ϵw (ā (É T.length-1 - -1)))]at xe⊢;apply(xs,ys,v,o,v6,p,V,b,λq=>?_,xe,xz);simp![Y2]
theorem HC(T:À Nd)(D0:Int)(he:Ž)(a:ϲG)(h:ϰw)(L:Ϧl ϺJ):
  mW [Ö Ľ,Ä D0]=Ý (ä [Ö<|Î (ÿ T.length).2 int,Ö<|dt (ÿ T.length).1]):=by
 let(X,y,V,v,v6,b,c,d,q,xe,_):=Cp T D0 he a h L;let e:uC=pcs (όL<|pW 2<|bF<|dZ<|Ï 2<|Ï 3 ah):=rfl;delta mW;rw[e];simp![q,vf,xe,d5]
def mG(T:À Nd)(off:À Int):Nat->À Int|0=>[0]|i+1=>ϪT i++[gv (ϪT i) (ī<|i+1).toNat+gv off (i+1)]
theorem mGS{T off i}:mG T off (i+1)=(ϪT i++[gv (ϪT i) (ī<|i+1).toNat+gv off (i+1)]):=rfl
theorem mY(T:À Nd)(off:À Int):∀i,Ã (ϪT i)=i+1:=by
 ext y
 induction y with|zero=>show rfl|succ i ih_=>rw[mGS,S5,ih_];rfl
theorem wH(T:À Nd)(off:À Int)(m j:Nat)(h:j<=m):∀c,gv (ϪT<|m+c) j=gv (ϪT m) j:=by
 ext y
 induction y with|zero=>show rfl|succ c ih_=>rw[<-ih_,<-Zcm,mGS];delta gv;rw[K9V<|ñ mY]
def RN(T:À Nd)(D0:Int)(k:Nat):Int:=gv (ÿ T.length).2 k
def outF(T:À Nd)(D0:Int)(k:Nat):Ol:=Ϻa (ÿ T.length)
def uO(T:À Nd)(D0:Int):À Int:=Ϥg (ÿ T.length).2 ϲj
def pos(T:À Nd)(D0:Int)(k:Nat):Int:=gv ϥi k
def iP(T:À Nd)(D0:Int):Int:=CB<|Ć T.length λk=>ο k-256*ϱZ k
def drw(T:À Nd)(D0:Int):À Int:=Î ϥi λz=>z-ϥt
theorem xV{T:À Nd}{D0:Int}(a:ϲG):ϵw (Ã ϥi):=by delta uO;rw[mY];lia
theorem Mo{ts:À Nd}{D0:Int}(a:0<ts.length):ϥb (Ã ϪV):=ν drw I4 (xV a)
theorem pf{T:À Nd}{D0:Int}(a:ϲG){k:Nat}(h:š):Ϫg=ο k-ϥt:=by
 delta drw pos;delta gv;rw[Oe,Rw<|϶1 (xV a)];rfl
theorem tE{ts:À Nd}{D0:Int}:϶c 0=0:=by delta pos uO;let:=wH ts (PO ts D0 ts.length).2 0 0 ß<|ts.length-1;rw[K87]at this;rw[this];rfl
theorem Iv{T:À Nd}{D0:Int}{k q:Nat}(he:Ž)(c:0<k)(K:š)(H:ī k=É q):ο k=ο q+RN T D0 k:=by
 let Q:q<k:=by
  obtain⟨n,h⟩:∃n,ϵJ=ŵ:=⟨T[k],ϰy K⟩
  let:=(he k n h).2.2;rw[϶J]at H;lia
 obtain⟨m,rfl⟩:ϓR:=⟨k-1,Á⟩
 delta pos uO RN;let a:=wH T (ÿ T.length).2 (m+1) (m+1) ß<|ϲj-(m+1);let b:=wH T (ÿ T.length).2 m q Á<|ϲj-m;rw[ó (m+1+(ϲj-(m+1))=ϲj)]at a;rw[ó (m+(ϲj-m)=ϲj)]at b;rw[a,b,mGS,H,K9n]
 conv=>lhs;delta gv
 rw[K9a (ñ mY),mY,K8c];rfl
theorem MD(T:À Nd)(D0:Int)(a:ϲG)(h:ϰw)(L:Ϧl ϺJ):
  fW [Ö Ľ,Ö<|Î ϥi int,Ä 256]=Ď (dI<|drw T D0):=by
 delta fW iQ;let r:ϰH (Î ϶I λz=>ë<|Ä z) (Î ϶I int):=Ù Tk Ϧ9
 let R:ϵw (Ã ϶I):=Ň cy I4
 let p:=xV (D0:=D0) a;simp![d5,rO T L h,r,Mf p R];generalize w:Ů=rc;let e:=cU w (Ģ<|ϰx [Ä<|gv ϥi k,Ä<|ϱZ k]) (λk=>.sh<|Ä<|ο k-256*ϱZ k) (ŷ T.length) rfl (Ù Z1<|Ş Á) (by ext k H;simp![Y2];rfl)
 subst e;clear w;rw[DV];let m:=B2 (xs:=Ć T.length λk=>ο k-256*ϱZ k) (λz=>by
  let:=Ŧ z;rw[I4,Z1,K8U]at this
  lia)
 let M:rD [Ö<|(Ć T.length λk=>ο k-256*ϱZ k).map int]=Ý (Ä ϥt):=m;simp![d5,M];generalize w:Ů=rc;let e:=cU w int (λz:Int=>.sh<|Ä<|z-ϥt) ϥi rfl (by rw[p];show Ş Á) (by ext z Z;simp![Y2]);subst e;rw[DV];simp![Y2];rfl
theorem Bw(T:À Nd)(D0:Int)(he:Ž)(a:ϲG)(l:ϰw)(L:Ϧl ϺJ):
  kY [Ö Ľ,Ä D0]=Ď (dI<|drw T D0):=by
 delta kY xH;let g:=HC T D0 he a l L;let p:=ϬD ß;let r:ϰH (Î ϶I λz=>ë<|Ä z) (Î ϶I int):=Ù Tk Ϧ9
 let R:ϵw (Ã ϶I):=Ň cy I4
 let S:ϱ1 1:=θ Õ;let w:ϱ1 ((É T.length)):=θ Á;simp![g,bG,S,w,K7m];generalize c:Ŋ=r';apply bJ c (λi b=>∃V:Ú OD,b=[ì Ľ,æ<|Ä D0,ì<|Î (ÿ T.length).2 int,ō<|dI<|Ϥg (ÿ T.length).2 i,V]) ι ?_ ?_
 .rintro i d b hd ⟨V,rfl⟩
  let(hi,rfl):=ϷK;let h:i+1<T.length:=Á
  let I:É 1+Ċ=Ð (i+1):=Á
  rw[I];obtain⟨n,H⟩:∃n,T[i+1]?=ŵ:=⟨T[i+1],ϧo⟩
  let E:=he (i+1) n H;obtain⟨k,K⟩:ϥ9 (n.e=á):=⟨n.e.toNat,þ (E.2.1 Á)⟩
  let f:k<i+1:=þ E.2.2
  let g3:=p9 H;rw[K]at g3;let g1:=xa (st:=Ϥg (ÿ T.length).2 i) (j:=k) (ñ mY);let g2:=xa (st:=(ÿ T.length).2) (j:=i+1) (ñ p.l2);let lb:ϰT (Ã (dI<|Ϥg (ÿ T.length).2 i)):=ϱq tK mY (d9 Á)
  simp![d5,g1,g2,g3,lb,ze];let e:Ϥg (ÿ T.length).2 (i+1)=Ϥg (ÿ T.length).2 i++[gv (Ϥg (ÿ T.length).2 i) k+gv (ÿ T.length).2 (i+1)]:=by rw[mGS,eG H,K,K9n]
  rw[e];show(_,rfl)
 ext ρ' rfl ⟨V,rfl⟩;rw[fI,ó (ā (É T.length-1)=ϲj)];let P:Ϥg (ÿ T.length).2 ϲj=ϥi:=rfl;rw[P];simp![d5,MD T D0 a l L]
theorem vU{T:À Nd}(D0:Int)(he:Ž)(a:ϲG)(l:ϰw){k:Nat}(h:š):
  Ŗ k=Ϲ8 k++(Ì (Ĭ=[]) []<|jo (Î Ĭ Ŗ) (ϰm<|Î Ĭ Ŗ)):=
 (ϬD ß).hi k Á h
theorem Nf{T:À Nd}(D0:Int)(he:Ž)(a:ϲG)(l:ϰw){k i j:Nat}(h:š)(J:û Ĭ=ϳb):
  RN T D0 j=gv (ϰm<|Î Ĭ Ŗ) i:=
 (ϬD ß).of k Á h i j J
theorem A6{T:À Nd}(D0:Int)(he:Ž)(a:ϲG)(l:ϰw){k:Nat}(h:š):Τ 1 (Ã (Ŗ k)) (T.length-k):=
 (ϬD ß).ln k h
theorem tY{T:À Nd}(D0:Int)(he:Ž)(h:ϲG)(a:ϰw){k:Nat}(hc:Ĭ≠[]):okO (Î Ĭ Ŗ):=
 xv he a (ϛO ß) hc
def Dn(T:À Nd):Nat->ύM Prop|j,0,k=>k=j|j,l+1,k=>∃c,c∈é/\Dn T c l k
theorem Dn.snoc{T:À Nd}{q k:Nat}(H:k∈Ϥe q):∀{l j:Nat},ϻY l q->ϻY (l+1) k
 |0,j,h=>by let h:q=j:=h;subst h;show(k,H,rfl)
 |l+1,j,⟨c,hc,h⟩=>⟨c,hc,Dn.snoc H h⟩
structure IsOut(ts:À Nd)(f:ĭ)(j:Nat)(o:Ol):Prop where
 len:∀l,l<o.length↔∃k,ϪO
 lo:∀l p,o[l]?=ϳc->(∃k,ϪO/\p.1=f k-Ϲe-f j)/\∀k,ϪO->p.1<=f k-Ϲe-f j
 hi:∀l p,o[l]?=ϳc->(∃k,ϪO/\p.2=f k+Ϲe-f j)/\∀k,ϪO->f k+Ϲe-f j<=p.2
theorem fT{T:À Nd}(D0:Int)(he:Ž)(a:ϲG)(h:ϰw){j i c:Nat}(J:ϴH)(hc:û é=ã):ο c=ο j+gv (ϰm ŭ) i:=by let M:=Ϩ1;let(c1,K):=aM.mp M;let:=(ϲv M).1;rw[Iv he Á c1 K,Nf D0 he a h J hc]
theorem vT{T:À Nd}(D0:Int)(he:Ž)(r:ϲG)(s:ϰw):∀m j,ϵw (j+m)->ϴH->IsOut T ο j (Ŗ j):=by
 ext m
 induction m using Nat.strongRecOn with
 |ind m ih=>
  ext j M J;let I:∀c∈é,IsOut T ο c (Ŗ c):=ϴp (by let(c1,K):=ϲv hc;show ih (T.length-c) Á c Á K)
  let zero:∀p,(Ŗ j)[0]?=ϳc->p=(-256*ϱZ j,256*ϱZ j):=λp P=>by
   rw[ϐ9]at P;delta ini at P;simp at P;show P.symm
  by_cases hc:é=[]
  .let e:Ŗ j=Ϲ8 j:=by rw[ϐ9,ϩu,Zw]
   let no:∀l k,¬ϻY (l+1) k:=λl k h=>by let(c,c1,_):=h;rw[hc]at c1;cases c1
   let O:Ã (Ŗ j)=1:=by rw[e];rfl
   let lt:∀l p,(Ŗ j)[l]?=ϳc->l=0:=λl p P=>þ ((ϲ8 P))
   apply(λl=>?_,ϯA,ϯA)
   .rw[O]
    constructor
    .intro h
     let:l=0:=Á
     subst this;show(j,rfl)
    ext⟨k,H⟩;cases l with|zero=>lia|succ l=>show ϙq<|no l k
   .let:=lt l p P
    subst this;rw[ύq];show((j,rfl,ϱG (_=_)),ϬJ (-256*_) _)
   let:=lt l p P;subst this;rw[ύq];show((j,rfl,ϱG (_=_)),ϬJ _ (256*_))
  let Q:=ϫM r s hc;let e:Ŗ j=Ϲ8 j++jo ŭ (ϰm ŭ):=by rw[ϐ9,ϩv]
  let pc:=λi c(h:(G0 T j)[i]?=some c)=>ϹJ r s J h;generalize D:ϰm ŭ=st at e pc;let N:ŭ≠[]:=ϰy hc
  obtain⟨_,⟨R,F,G⟩,X⟩:=AA N;let L:Ã (Ŗ j)=1+mxN ŭ:=by rw[e,S5,JR];rfl
  let n:∀i c,û é=ã->qZ ŭ i=Ã (Ŗ c):=λi c h=>Ϥm qZ
  let o:∀i c l,û é=ã->oA ŭ i l=ę ((Ŗ c)[l]?) (0,0):=λi c l h=>Ϥm oA
  let t:∀l i,i∈there ŭ l↔∃c,û é=ã/\l<Ã (Ŗ c):=λl i=>by
   delta there;rw[K89,Zl,K9k,I4];constructor
   .rintro⟨a,b⟩
    let g:û é=some é[i]:=Rw a;show(_,g,by rw[<-n i _ g];show b)
   ext⟨c,c1,K⟩;show(ϲ8 c1,Ù (n i c c1) K)
  let succ:∀l p,(Ŗ j)[l+1]?=ϳc->l<mxN ŭ/\p=jl ŭ st l:=λl p P=>by
   let w:=(ϲ8 P);rw[L]at w;let d:l<mxN ŭ:=Á
   apply(d,?_);rw[e]at P;delta ini jo at P;rw[K92,K9B,Zaj,Oe,K9Z d]at P;show ϥE P
  apply(λl=>?_,ϯA,ϯA)
  .cases l with
   |zero=>show(ϰs ⟨j,rfl⟩,λ_=>Á)
   |succ l=>
    rw[L];constructor
    .intro h
     let u:=tV N (ó<|l<mxN ŭ);let(i,hi):=Zbv _ u;let(c,c1,K):=ϑL;let C:=Ts c1;let(k,H):=((I c C).len l).mp K;show(k,c,C,H)
    ext⟨k,c,C,H⟩;let K:=ώK;let(i,f,E):=Zap C;let:=X i (by rw[I4];show f);rw[n i c ϑj]at this;lia
  .cases l with
   |zero=>rw[ύq];show((j,rfl,ϱG (_=_)),ϬJ (-256*_) _)
   |succ l=>
    let(d,rfl):=succ l p P;let u:=tV N d;let(S,B):=mM (xs:=(there ŭ l).map λi=>϶E i+(oA ŭ i l).1) λz=>u ϳX;apply(?_,?_)
    .let(i,hi,v):=Zc.mp S
     let(c,c1,K):=ϑL;let C:=Ts c1;obtain⟨⟨k,x,y⟩,_⟩:=ϕz ϷS;apply(k,(c,C,x),?_);change CB _=_;rw[<-v,ϯ4,ϷS];change ϶E i+(Ŗ c)[l].1=_;rw[y,όJ];lia
    ext k ⟨c,C,H⟩;let(i,f,E):=Zap C;let c1:û é=ã:=ϑj
    let K:=ώK;let q:=B _<|ϱ6 ϕM;rw[ϯ4,ϷS]at q;let q:CB _<=϶E i+(Ŗ c)[l].1:=q;let:=(ϕz ϷS).2 k H;let A:=όJ;change CB _<=_;lia
  cases l with
  |zero=>rw[ύq];show((j,rfl,ϱG (_=_)),ϬJ _ (256*_))
  |succ l=>
   let(d,rfl):=succ l p P;let u:=tV N d;let(S,B):=dS (xs:=(there ŭ l).map λi=>϶E i+(oA ŭ i l).2) λz=>u ϳX;apply(?_,?_)
   .let(i,hi,v):=Zc.mp S
    let(c,c1,K):=ϑL;let C:=Ts c1;obtain⟨⟨k,x,y⟩,_⟩:=ϕA ϷS;apply(k,(c,C,x),?_);change nz _=_;rw[<-v,ϯ4,ϷS];change ϶E i+(Ŗ c)[l].2=_;rw[y,όJ];lia
   ext k ⟨c,C,H⟩;let(i,f,E):=Zap C;let c1:û é=ã:=ϑj
   let K:=ώK;let q:=B _<|ϱ6 ϕM;rw[ϯ4,ϷS]at q;let q:϶E i+(Ŗ c)[l].2<=nz _:=q;let:=(ϕA ϷS).2 k H;let A:=όJ;change _<=nz _;lia
def Wp(T:À Nd)(k:Nat):Nat:=ę (Ŷ[k]?) 0
theorem aN{T:À Nd}(he:Ž){j c:Nat}(h:c∈é):ϰ3 c=ϰ3 j+1:=by
 let(c1,K):=ϫ5;let hg:=(ϲv h).1;obtain⟨n,H⟩:∃n,T[c]?=ŵ:=⟨T[c],ϰy c1⟩
 rw[eG H]at K;delta Wp;rw[ku H];change dh _ n=_;delta dh;rw[P3 Á,K,K9n,<-p7,K97 hg]
theorem yz{T:À Nd}(he:Ž):∀{l j k:Nat},ϴH->ϻY l k->ϰ3 k=ϰ3 j+l/\j<=k/\š
 |0,j,k,hj,h=>by let h:k=j:=h;subst h;show(rfl,ß,hj)
 |l+1,j,k,hj,⟨c,hc,h⟩=>by let g:=ϲv hc;let(a,b,d):=yz he g.2 h;rw[ϱ7 hc]at a;show(Á,Á,d)
theorem OU{T:À Nd}{c:F}(p:ϳd){j:Nat}(J:ϴH):∃s,Ã ϬT=s/\Ϭd Ϲ6/\(∀k,j<k->k<=j+s->ĺ<=ī k)/\
  ∀b,ϓS->ĺ<=ī b->ī b<=Ð (j+s)->ϒ1:=by
 let(s,Q,q,l,f):=CH p J;let at1:ϖi:=λk=>K85;apply(s,CO _ _ s (ñ K8y) (λk H x h=>?_) ϯS,Q,q,f)
 .rw[at1]at h
  let:=q (j+1+k) Á Á;rw[϶J]at this;show Tl this
 rw[at1]at h;let L:=ϲE;let:=l L;rw[϶J]at this;show Pi Á
theorem JV{T:À Nd}(he:Ž){j s:Nat}(q:∀b,ϓS->ĺ<=ī b->ī b<=Ð (j+s)->ϒ1):∀{l i k:Nat},j<=i->i<=j+s->Dn T i l k->k<=j+s
 |0,i,k,_,h,d=>by
  let d:k=i:=d;lia
 |l+1,i,k,h1,h2,⟨c,hc,d⟩=>by
  let(c1,K):=aM.mp hc;let:=q c c1 Á Á;show JV he q Á this.2 d
theorem Ej{T:À Nd}(he:Ž){j s:Nat}(J:j+s<T.length)(q:∀k,j<k->k<=j+s->ĺ<=ī k)(k:Nat)(b:j<=k)(H:k<=j+s):∃l,ϻY l k:=by
 induction k using Nat.strongRecOn with
 |ind k ih=>
  by_cases K:k=j
  .exact(0,K)
  let e1:=q k Á H;obtain⟨n,h⟩:∃n,ϵJ=ŵ:=⟨T[k]' Á,Ø⟩
  let lt:=(he k n h).2.2;rw[<-϶J]at lt;obtain⟨x,X⟩:∃x:Nat,ī k=ϫ3:=⟨ā (ī k),Á⟩
  let(l,a):=ih x Á Á Á;show(l+1,Dn.snoc (aM.mpr ⟨Á,X⟩) a)
theorem EJ{T:À Nd}{k:Nat}{n:Nd}(h:ϵJ=ŵ):ϱZ k=É n.l.length / 2:=by delta gv cy;rw[Oe,h];rfl
def Dp(T:À Nd)(d:Nat):Prop:=∀k,š->ϰ3 k<=d
theorem FN{T s:À Nd}{k:Nat}(h:š):Wp (T++s) k=ϰ3 k:=by delta Wp;let:=p7 (T++s) T.length;rw[List.take_left]at this;rw[<-this,K97 h]
theorem Ly{T:À Nd}(he:Ž)(a:ϲG):ϰ3 0=0:=by
 obtain⟨n,h⟩:∃n,T[0]?=ŵ:=⟨T[0],by simp[a]⟩
 delta Wp;rw[ku h];change dh _ n=0;delta dh;rw[ϙQ]
theorem BN{deep:Nat}{ts:À Nd}{way:À Int}(g:ϻH ts way):(∀(i:Nat)(x:Int),û way=ö->ĵ x.toNat=i)/\Dp ts deep:=by
 induction g with
 |@root n h e=>
  let z:Wp [n] 0=0:=by
   delta Wp;rw[ku (ts:=[n]) (i:=0) rfl];change dh _ n=0;delta dh;rw[ϳS]
  apply(λi x H=>?_,λk a=>?_)
  .let:i=0:=by
    let:=϶4;simp at this;lia
   subst this;let H:É 0=x:=Ϸ4
   subst H;show z
  let:k=0:=by simp at a;lia
  subst this;rw[z];show Ν
 |@step ns way c n g h1 h2 h3 h4 h5 ih=>
  let(d,f):=ih;let w:=g.way_lt n.e<|Ts h5;let l:=d (c-1) n.e h5;let last:Wp (ns++[n]) ns.length=c:=by
   delta Wp;rw[mZ,K9a (Ù b_ ß),b_,K8c];change dh _ n=c;delta dh;rw[P3 Á];delta Wp at l;rw[l];lia
  apply(λi x H=>?_,λk a=>?_)
  .by_cases hi:i<Ã ϻi
   .rw[K9V hi]at H
    rw[Zk]at hi;rw[K97 Á]at H;let M:=g.way_lt x ϶F;rw[FN Á];show d i x H
   rw[K9a Á]at H;let L:=϶4;rw[Zq]at L;rw[Zk]at hi L;let I:i=c:=Á
   let H:É ns.length=x:=by
    rw[Zk,ó (i-min c way.length=0)]at H;simpa using H
   subst H;rw[K9n,last,I]
  rw[S5,Zq]at a;by_cases K:k<ns.length
  .rw[FN K]
   show f k K
  rw[ó (k=ns.length),last];show h3
def jL:Fs:=(ao (œ Ų)
 (ao (gR (B3 (av<|Ò gNe 3<|Ĥ<|Ê 1)<|av<|Ò gNe 3 ŏ)<|œ<|Ż (Ò Rg 0 į)<|Ê 0)
 (bF<|Ò gNe 3<|Ĥ<|Ê 1)))
def dR:Fn:=aZ 3 4 jL
def oJ:Fs:=(bF<|Ab (eCh (Ê 1) (Č<|Ï 0 ah)<|Ê 9)<|eB Kb<|ae (Η iTx ð cO (Ò gIn 0<|eC<|Æ "abcdefghijklmnopqrstuvwxyz") 1 []) ah)
def gP:Fn:=Ξ 1 oJ
def mf:Fs:=(Z4 (mI (av<|Ò gLt 0<|Ê 1)<|av<|Ò gGt 0<|Ê 9) q_ Z9)
def gr:Fn:=Ξ 1 mf
def i6:Fs:=(Z4 (mI (av<|Ò gLt 0<|Ê 1)<|av<|Ò gGt 0<|Ê 9) ϧe Z9)
def gy:Fn:=Ξ 1 i6
def AL:Fs:=(ao (ϱN<|eC<|Æ "")
 (ao (dJ (de ð) (ϲm<|Ρ 2 3 cW)<|ϱN<|ĩ (eLj Ų ŏ) į)
 (bF<|eTx RK Ų<|eC<|Æ " ")))
def n9:Fn:=Ξ 4 AL
def ni:Fs:=(ao (Ŵ<|eC<|Æ "")
 (ao (dJ (iR2 (Ò Rg 1<|Ê 0)<|ĩ (Ò Rg 1<|Ĥ<|Ê 1)<|Ê 1) ϨY<|ϲb (Ò Zp 3 ð) (ϙr<|eIf (av<|Ò ϫf 3 Ų) (eC<|Æ "#")<|eC<|Æ "^")<|ϙr<|eIf (av<|Ò ϫf 3 Ų) (eC<|Æ "+")<|eC<|Æ "-")
 (bF ŏ)))
def gU:Fn:=ϰJ 4 ni
def qD:Fs:=(ao (ϱN ϰZ)
 (ao (dJ (de ð) ϨX (ao (Z4 (av<|ϹQ (eTx HE ŏ<|eC<|Æ " :|+-^#")<|eC<|Æ "") (Ϸi ϰZ) Z9)
 (ao (Z4 (uu<|av<|ϳF (Č<|Ï 1 ah)<|Ê 0) q_ Z9)
 (nN 1 (Ĥ<|Ê 1) ŏ))))
 ϶x))
def ik:Fn:=Ξ 3 qD
def kS:Fs:=(ao (ϱN ϰZ)
 (ao (dJ (de ð) ϨX (ao (Z4 (av<|ϹQ (eTx HE ŏ<|eC<|Æ " :|+-^#")<|eC<|Æ "") (Ϸi ϰZ) Z9)
 (ao (Z4 (uu<|av<|ϳF (Č<|Ï 1 ah)<|Ê 0) ϦV Z9)
 (nN 1 (Ĥ<|Ê 1) ŏ))))
 ϶x))
def dA:Fn:=Ξ 3 kS
def pX:Fs:=(ao (ϱN ϰZ)
 (ao (Ŵ<|Ê 0)
 (ao (dJ (de<|NP ð<|eC<|Æ " ") ϨY (ao (Z4 (av<|Ò gNe 3<|eC<|Æ "") (Ϸi<|dZ<|Ï 2<|Ï 3 ah) Z9)
 (D3 2 E_<|ĩ (Č<|Ï 3 ah)<|Ê 1)))
 ϶x)))
def eL:Fn:=Ξ 4 pX
def gE:Fs:=(ao (ϱN<|DK ϻM<|Ĥ<|Ê 1)
 (ao (dJ (iEn ð) (ϲm<|Ρ 2 3 cW)<|Gs 1 (Ò Rg 3<|Ê 0) ŏ)
 (pW 1<|bF<|ϥ7 ð (Ϸa<|ϵ4 0<|Ρ 1 2 cW) cO (dZ<|ae (Ò Ge 3<|Z_ JG ð bT<|bc<|Ĥ<|Ê 1)<|Ï 1<|Ï 2 ah) 3 [1])))
def cF:Fn:=Ξ 4 gE
def nT:Fs:=(bF<|Η iR1 (Č<|Ï 0 ah) (mI (av<|F4 gIn (eC<|Æ "^")<|Ò Rg 1 ð)<|av<|F4 gIn (eC<|Æ "#")<|Ò Rg 1 ð) ð 1 [0])
def fR:Fn:=Ξ 1 nT
def gM:Fs:=(ao (dJ (iR1<|Č<|Ï 0 ah) ϨX (ao (œ<|Ψ (Ò aF 1 ŏ)<|Č<|Ï 0 ah)
 (Z4 (av<|F4 gIn (Ò Rg 0 į)<|eC<|Æ "-+^#") (ao (ϲ4<|Y0<|eDC ώb)
 (bF<|ĩ (Ϻt mR ð 3<|Ż (Ò gDx 4<|Ò Rg 0 į)<|Ψ (Ò eQ 1<|Ê 7)<|Ê 3)<|ϲt mR ð (Ò aF 3<|Ê 1))) Z9)))
 (bF<|Ò aF 0<|eC<|Æ "="))
def dw:Fn:=ϰJ 5 gM
def jG:Fs:=(ao (dJ (iTx ð) (Re 1)<|Z4 (av<|Ò MI 1<|eC<|Æ " :|") (ϸ1<|í false) Z9)
 (ϸ1<|í true))
def cG:Fn:=Ξ 2 jG
def jV:Fs:=(ao (ϱN ϰZ)
 (ao (Ŵ<|Ê 0)
 (ao (dJ (de<|NP ð<|eC<|Æ " ") ϨY (ao (Z4 (av<|Ò gNe 3<|eC<|Æ "") (Ϸi<|Ò aF 2<|ϻO (Č<|Ï 3 ah)<|Ê 2) Z9)
 (Ŵ<|ĩ (Ò aF 2<|Č<|Ï 3 ah)<|Ê 1)))
 ϶x)))
def cZ:Fn:=Ξ 4 jV
def nj:Fs:=(ao (Ŵ<|ϳD (Ò aF 1<|Ê 1)<|Ò eA 0<|Ê 1)
 (ao (œ<|ϻO (ϻO (ϳD (Ê 256) ŏ)<|Ê 2)<|Ê 256)
 (ao (ϲ4<|eC<|Æ "")
 (ao (ϱd<|eC<|Æ "")
 (ao (dJ (iR1<|Ò aF 2<|Ê 1) (Re 6) (ao (ϥf<|ϳF (Ò du 6<|Ò aF 1<|Ê 1)<|Ê 0)
 (ao (ϱd<|Ò aF 5<|Ż (bz<|ϵO (Æ " ")<|ϵO (Æ "c") ah)<|όb<|Ï 7 ah)
 (ϲ4<|Ò aF 4<|Ż (Ż (bz<|ϺY eC (Æ "-") (ϵO (Æ "+") ah)<|ϺY eC (Æ "^") (ϵO (Æ "#") ah) ah)<|όb<|Ő (Ò Zp 6 į))<|όb<|Ï 7 ah))))
 (bF<|bz<|ae (ĩ (F4 B6 (eC<|Æ " ") į)<|eC<|Æ "a")<|Ï 4<|Ï 5 ah))))))
def ki:Fn:=ϰJ 8 nj
def nI:Fs:=(ao (ϱN<|Y0<|bz<|ϵO (Æ "k") ah)
 (ao (dJ (iR1<|Ò eA 0<|Ê 1) ϨX<|ϱN<|Y0<|Ò aF 1<|bz<|ϵO (Æ "#")<|ae (Ż (eC<|Æ "abcdefghijk") ŏ) ah)
 (bF Ų)))
def kf:Fn:=Ξ 3 nI
def lz:Fs:=(ao (Ŵ<|Ż (Ò Rg 0 Ų)<|Ê 0)
 (ϲb (Ò Zp 1<|Ê 0) (ϲb (Ò gNe 2<|Ĥ<|Ê 1) q_ Z9)<|Z4 (iK<|av<|ak dR<|Ï 0<|ae (Ò eA 1<|Ê 1)<|Ï 2 ah) q_ Z9))
def fP:Fn:=ϰJ 3 lz
def iD:Fs:=(ao (Ŵ<|Ż (Ò Rg 0 Ų)<|Ê 0)
 (ϲb (Ò Zp 1<|Ê 0) (ϲb (Ò gNe 2<|Ĥ<|Ê 1) ϧe Z9)<|Z4 (iK<|av<|ak dR<|Ï 0<|ae (Ò eA 1<|Ê 1)<|Ï 2 ah) ϧe Z9))
def fC:Fn:=ϰJ 3 iD
def k_:Fs:=(Z4 (iK<|av<|ak gP<|Ï 0 ah) q_ Z9)
def fO:Fn:=Ξ 1 k_
def g_:Fs:=(Z4 (iK<|av<|ak gP<|Ï 0 ah) ϧe Z9)
def fG:Fn:=Ξ 1 g_
def nZ:Fs:=(ao (œ<|Y0<|όa<|Ï 0 ah)
 (bF<|ϓf<|ae (Η de ŏ cO (dZ<|ae (ϻL (Ò Rg 1 ð)<|Ò Rg 2 ð)<|ae (Ż (Ò Rg 3 ð)<|Ê 1) ah) 1 [1,3,0]) ah))
def ia:Fn:=aZ 3 4 nZ
def kg:Fs:=(ao (ϱN ϰZ)
 (ao (dJ (de<|ϲM eL<|Ò Rg 0<|Ê 0) (ϲm<|Ρ 2 3 cW) (ao (ϲ4<|Ò aF 2<|ϻO (Č<|Ï 3 ah)<|Ê 2)
 (ao (ϱd<|Y0<|Η de ð (av<|ϳF (Ϯw ð Ų<|bc<|Ò aF 1<|Ê 1)<|eC<|Æ ":") ð 1 [4])
 (Ϸi<|Y0<|dZ<|Ï 4<|Ï 3<|ae (ĩ (Č<|Ï 5 ah)<|Ê 1) ah))))
 ϶x))
def dc:Fn:=Ξ 6 kg
def ft:Fs:=(ao (ϱN eD0)
 (ao (dJ (de<|ak eL<|Ï 0 ah) (ϲm<|Ρ 2 3 cW) (ao (ϲ4<|Ò aF 2<|eB EU<|ae (eTx IW į<|eC<|Æ "^")<|ae (eTx IW į<|eC<|Æ "#") ah)
 (dJ (HP į) (ϲm<|Ρ 5 6 cW)<|Z4 (av<|Ò gIn 6<|eC<|Æ "+#") (sDP 1 (Ò aF 2 ϳL) ϳe) Z9)))
 ϶x))
def bt:Fn:=Ξ 7 ft
def nF:Fs:=(ao (Z4 (ϏW "list" ð<|av<|ϹQ (Č<|Ï 0 ah)<|Č<|Ï 1 ah) (ϸ1<|í false) Z9)
 (ao (dJ (iZp ð Ų) (ϲm<|Ρ 2 3 cW) (ao (Z4 (ϏW "tuple" ŏ<|mI (av<|ϹQ (Č<|Ï 2 ah)<|Ê 3)<|iK<|av<|ϲM e7<|Ò Rg 2<|Ê 0) (ϸ1<|í false) Z9)
 (Z4 (ϏW "str" (Ò Rg 2<|Ê 1)<|mI (iK<|av<|ϲM e7<|Ò Rg 2<|Ê 2)<|av<|Ò gNe 2 į) (ϸ1<|í false) Z9)))
 (ϸ1<|í true)))
def dY:Fn:=ϰJ 4 nF
def kX:Fs:=(ao (ϱN<|Y0<|ak fR<|Ï 0 ah)
 (bF<|Η iR1 (Č<|Ï 0 ah) (mI (av<|Ò Zp 0<|Ê 0)<|av<|F4 ϫf (Ò eA 0<|Ê 1) Ų) ð 1 [1]))
def dE:Fn:=Ξ 2 kX
def gK:Fs:=(ao (œ<|Ò Rg 0 Ų)
 (ao (ϲ4 Ų)
 (ao (gR (av<|ϲM cG<|Ò Rg 0 ϳe)<|ϲ4<|Ò eA 4<|Ê 1)
 (ao (ϱd<|Y0<|ϲM cZ<|Ò Rg 0 ϳe)
 (ao (϶m<|Ò Rg 5<|Ψ (Ò eQ 2<|Ê 8)<|Č<|Ï 5 ah)
 (ao (Z4 (av<|ϳF (Ò du 2<|Ê 8)<|Ê 0) (϶m<|Ψ (Ò eQ 2<|Ê 8)<|ĩ (Č<|Ï 3 ah)<|Ê 2) Z9)
 (ao (œ<|eLj į ϷA)
 (ao (œ<|ĩ (Ϻt mR į 6<|Ż (eC<|Æ " :|")<|Ψ (Ò eQ 2<|Ê 512)<|Ê 3)<|ϲt mR į (Ò aF 6<|Ê 1))
 (bF<|Ϻp 1 (GJ Ep į)<|ϲt iC ð (Ò aF 1<|Ê 1))))))))))
def dF:Fn:=aZ 3 7 gK
def fK:Fs:=(ao (Ŵ<|Ϧy (Ê 0)<|Č<|Ï 0 ah)
 (ao (dJ (iR2 (Ê 1)<|Č<|Ï 0 ah) ϨY<|Af 2 į<|Cv<|ĩ (Ò Rg 2<|Ż (Ò Rg 0 į)<|Ê 0)<|Ê 1)
 (ao (ϲ4<|Ϧy (Ê 1)<|Č<|Ï 0 ah)
 (ao (ϱd<|Ê 0)
 (ao (pW 2 (dJ (iR1<|ĩ (ϸs<|Ï 2 ah)<|Ê 1) (Re 6) (ao (ϥf<|Y0<|ϲM cZ<|Ò Rg 1 ϳL)
 (ao (ϱd<|Ò aF 5<|Ê 1)
 (ao (gR (B3 (av<|Ò gLt 5<|Č<|Ï 1 ah)<|av<|ϲM cG<|Ò Rg 1 ϳL) (ao (ay 8<|Y0<|Η iR1 (Č<|Ï 0 ah) (av<|ϳF (Ò Rg 1 ð) ŏ) ð 1 [2,6])
 (ao (dJ (iZp (aa 8)<|aa 7) (ϲm<|Ρ 3 9 cW) (ao (ay 10<|Y0<|Ϯw (Ò Rg 1 ϳL) ϩt<|bc<|Ò aF 9<|Ê 1)
 (Af 4 į<|Cv<|ĩ (Ò Rg 4 į)<|όb<|ae (Ò Zp 10<|eC<|Æ ":") ah)))
 (ϱd<|Ò aF 5<|Ê 1))))
 (ϱd<|Ò aF 5<|Ê 1))))))
 (pW 4<|bF<|bb (iZp ð ϳe) (ϲm<|Ρ 0 1 cW) cO (dZ<|ae (Ò Rg 0<|Ê 0)<|ae (Ò Rg 0<|Ê 1)<|Ï 1 ah) 2 []))))))
def cT:Fn:=ϰJ 11 fK
def nU:Fs:=(ao (ϱN<|ĩ (Ê 8)<|Ò du 0<|Ê 4)
 (ao (Ŵ<|Ψ (Ò eQ 0<|Ê 4)<|Ê 5)
 (ao (Z4 (av<|Ò Zp 2<|Ê 0) (ao (œ<|Y0<|ĩ (bz<|ae (dZ<|ae (Ĥ<|Ê 1)<|ϵO (Æ "a")<|Ő (Ê 1)) ah)<|Ϧy (dZ<|ae (Ê 0)<|ϵO (Æ "c")<|Ő (Ê 1))<|ĩ (Ê 30) Ų)
 (bF<|bz<|Ϯ0 ki (ĩ (Ê 30) Ų) (ae (ĩ (Ê 1)<|Ψ (Ò eQ 0<|Ê 20)<|Ê 9) ah)<|Ï 3<|ae (F4 gLe (ĩ (Ê 30) Ų)<|Ê 39) ah)) Z9)
 (ao (Z4 (av<|Ò Zp 2<|Ê 1) (ao (œ<|Y0<|ĩ (bz<|ae (dZ<|ae (Ĥ<|Ê 1)<|ϵO (Æ "k")<|Ő (Ê 1)) ah)<|Η iR1 (Ò eA 1<|Ê 1) cO (dZ<|Ï 0<|ae (Ż (eC<|Æ "abcdefghijk") ð)<|Ő (Ê 1)) 1 [])
 (bF<|bz<|ae (Y0<|ak kf<|Ï 1 ah)<|Ï 3<|Ő (Ò gLe 1<|Ê 9))) Z9)
 (ao (ϲb (Ò Zp 2<|Ê 2) (bF<|bz<|ϺY Y0 (Z_ mR (eC<|Æ "abcdefghijk") bT<|bc Ų) ah<|ϺY Y0 (dZ<|ae (Ĥ<|Ê 1)<|ae (Y0<|Z_ mR (eC<|Æ "abcdefghijk") bT<|bc Ų)<|Ő (Ê 1)) ah<|Ő (Ò gLe 1<|Ê 9)) Z9)
 (ao (ϲb (Ò Zp 2<|Ê 3) (bF<|bz<|ae (Y0<|ĩ (bz<|ϵO (Æ "b") ah)<|Ϧy (eC<|Æ ":")<|Ò eA 1<|Ê 1)<|ϺY dZ (ae (Ĥ<|Ê 1)<|ϵO (Æ "b")<|Ï 1 ah) ah<|Ő (Ò gLe 1<|Ê 9)) Z9)
 (bF<|bz<|ae (Ż (bz<|ae (Y0 ϰZ)<|ϺY eC (Æ "") ah<|ϺY eC (Æ "") (ϵO (Æ "") ah)<|ϺY eC (Æ "") (ϵO (Æ "a") ah) ah)<|Ò du 0<|Ê 4)<|ae (Y0 ϰZ)<|Ő (eC<|í false))))))))
def gZ:Fn:=Ξ 4 nU
def nM:Fs:=(ao (Z4 (mI (av<|F4 gLt (Č<|Ï 0 ah)<|Ê 1)<|av<|ϴQ (Č<|Ï 0 ah)<|Ê 40) q_ Z9)
 (ao (dJ (iEn ð) (ϲm<|Ρ 1 2 cW) (ao (o_<|ak fP<|Ï 0<|Ï 1 ah)
 (ao (o_<|ϲM fO<|Ò Rg 2<|Ê 1)
 (o_<|ak gr<|Ő (Ò Rg 2<|Ê 2)))))
 (ao (Z4 (av<|ϴQ (ϸs<|Ő (ϒp<|Ï 0 ah))<|Ê 8) q_ Z9)
 (bF<|Ϫ0<|Ï 0 ah))))
def h_:Fn:=Ξ 3 nM
def ka:Fs:=(ao (Z4 (mI (av<|F4 gLt (Č<|Ï 0 ah)<|Ê 1)<|av<|ϴQ (Č<|Ï 0 ah)<|Ê 40) ϧe Z9)
 (ao (dJ (iEn ð) (ϲm<|Ρ 1 2 cW) (ao (o_<|ak fC<|Ï 0<|Ï 1 ah)
 (ao (o_<|ϲM fG<|Ò Rg 2<|Ê 1)
 (o_<|ϲM gy<|Ò Rg 2<|Ê 2))))
 (ao (Z4 (av<|ϴQ (ϸs<|Ő (ϒp<|Ï 0 ah))<|Ê 8) ϧe Z9)
 (bF<|Ϫ0<|Ï 0 ah))))
def fU:Fn:=Ξ 3 ka
def my:Fs:=(ao (Z4 (av<|Ò gLt 2<|Ż (Ò Rg 0 Ų)<|Ê 2) (ϸ1<|Æ ":") Z9)
 (bF<|eIf (av<|ϴQ (Č<|Ő (ϤW<|Ï 0<|Ï 1 ah))<|Ê 0) (eC<|Æ "|")<|eC<|Æ " "))
def iZ:Fn:=aZ 3 3 my
def rX:Fs:=(ao (œ ϰZ)
 (ao (dJ (de ŏ) Ϸx (ao (ϱd<|Y0<|Η de (ϤW<|Ï 0<|Ï 4 ah) cO (Ò Rg 1 ð) 1 [1])
 (όV<|Y0<|dZ<|ae (Ò Rg 5<|Ê 0)<|Ϯ0 gU (Ò Rg 1 ϳe) (Ï 5 ah) ah)))
 (όL<|bF<|ϓf<|Ï 3 ah)))
def lp:Fn:=aZ 3 6 rX
def oz:Fs:=(ao (ϱN ϰZ)
 (ao (Ŵ<|Y0<|eD1 (Ĥ<|Ê 1) ϻM)
 (ao (œ<|Y0 eD0)
 (ao (dJ (de<|ak ik<|Ï 0 ah) Ϸx (ao (ϱd eD0)
 (ao (dJ (de<|ϓg<|Ï 4 ah) (Ϸa<|ϵ4 6<|Ρ 7 8 cW) (ao (ϫv<|rC į ϷA<|Ĥ<|Ê 1)
 (ao (ϲb (Ò Ϩd 9 ŏ) q_ Z9)
 (ao (ώI<|F4 oV (Ò gDx 2 ϩt)<|dZ<|Ï 6 ah)
 (Ϸi<|dZ<|ώv<|Ï 7<|Ï 8 ah)))))
 (ao (Z4 (uu<|av<|ϴQ (Č<|Ï 1 ah)<|Ê 40) q_ Z9)
 (ao (pW 5<|Ŵ ϳL)
 (œ<|Y0<|ϲM bt<|Ò Rg 4<|Ĥ<|Ê 1))))))
 ϶x))))
def gD:Fn:=Ξ 10 oz
def jM:Fs:=(ao (ϱN ϰZ)
 (ao (Ŵ<|Y0<|eD1 (Ĥ<|Ê 1) ϻM)
 (ao (œ<|Y0 eD0)
 (ao (dJ (de<|ak dA<|Ï 0 ah) Ϸx (ao (ϱd eD0)
 (ao (dJ (de<|ϓg<|Ï 4 ah) (Ϸa<|ϵ4 6<|Ρ 7 8 cW) (ao (ϫv<|rC į ϷA<|Ĥ<|Ê 1)
 (ao (ϲb (Ò Ϩd 9 ŏ) ϦV Z9)
 (ao (ώI<|F4 oV (Ò gDx 2 ϩt)<|dZ<|Ï 6 ah)
 (Ϸi<|dZ<|ώv<|Ï 7<|Ï 8 ah)))))
 (ao (Z4 (uu<|av<|ϴQ (Č<|Ï 1 ah)<|Ê 40) ϦV Z9)
 (ao (pW 5<|Ŵ ϳL)
 (œ<|Y0<|ϲM bt<|Ò Rg 4<|Ĥ<|Ê 1))))))
 ϶x))))
def c7:Fn:=Ξ 10 jM
def jK:Fs:=(ao (Ŵ<|Ò du 1<|Ê 10)
 (ao (œ<|Ψ (Ψ (Ò eQ 1<|Ê 10)<|Ê 1009)<|Č<|Ï 0 ah)
 (ao (ϲ4<|Y0<|ak fR<|Ï 0 ah)
 (ao (ϲb (Ò Zp 2<|Ê 0) (bF<|Ϻp 3 (ĩ (Ò Rg 0 į)<|eC<|Æ " ")<|ϲt iC ð (Ò aF 3<|Ê 1)) Z9)
 (ao (ϲb (Ò Zp 2<|Ê 1) (bF<|Ϻp 3 (ĩ (eC<|Æ " ")<|Ò Rg 0 į)<|ϲt iC ð (Ò aF 3<|Ê 1)) Z9)
 (ao (Z4 (av<|Ò Zp 2<|Ê 2) (ao (ϱd<|Ò Rg 0 į)
 (ao (϶m<|Ψ (Ò eQ 1<|Ê 48271)<|ĩ (Č<|Ï 5 ah)<|Ê 1)
 (ao (ϱd<|ĩ (Ϻt mR ϳL 6<|Ż (eC<|Æ "AZ09_.=~{'")<|Ψ (Ò eQ 1<|Ê 10090)<|Ê 10)<|ϲt mR ϳL ϷA)
 (bF<|ĩ (Ϻt iC ð 3<|bz<|Ï 5 ah)<|ϲt iC ð (Ò aF 3<|Ê 1))))) Z9)
 (ao (ϲb (Ò Zp 2<|Ê 3) (bF<|Η de ð cO (ĩ (eC<|Æ " ") ð) 1 []) Z9)
 (ao (ϲb (Ò Zp 2<|Ê 4) (bF<|ϲt iC ð (Ê 1)) Z9)
 (ao (Z4 (mI (av<|Ò Zp 2<|Ê 5)<|av<|Ò Zp 4 ϰZ) (ao (œ<|Ż (ϒq<|Ï 0 ah)<|Ψ (Ò eQ 1<|Ê 10)<|Č<|Ő (ϒq<|Ï 0 ah))
 (bF<|Ϻp 3 (Ò Rg 0 į)<|ϲt iC ð į)) Z9)
 (ao (œ<|Ò Rg 4<|Ψ (Ò eQ 1<|Ê 10)<|Č<|Ï 4 ah)
 (ao (ϲb (Ò Zp 2<|Ê 6) (bF<|Ϻp 3 (Ò Rg 0 į)<|ϲt iC ð į) Z9)
 (bF<|Ϻp 3 (Y0<|ak dw<|ae (Ò Rg 0 į)<|Ő (Ò eQ 1<|Ê 100))<|ϲt iC ð (Ò aF 3<|Ê 1)))))))))))))
def eR:Fn:=ϰJ 7 jK
def gY:Fs:=(ao (Ŵ<|Y0<|Η iR1 (Č<|Ï 0 ah) (av<|ϲM cG<|Ò Rg 1 ð) ð 1 [0])
 (ao (Z4 (av<|Ò Zp 2 ϰZ) (ao (Ŵ<|Y0<|ϒq<|Ï 0 ah)
 (ao (œ<|Ò Rg 2<|Ψ (Ò eQ 1<|Ê 4)<|Č<|Ï 2 ah)
 (ao (ϲ4<|Y0<|ϲM cZ<|Ò Rg 0 į)
 (ao (ϱd<|Ò Rg 4<|Ψ (Ò eQ 1<|Ê 64)<|Č<|Ï 4 ah)
 (ao (϶m<|ĩ (F4 B6 (eC<|Æ " ") ϳL)<|Ż (eC<|Æ ":|")<|Ò du 1<|Ê 2)
 (bF<|ĩ (ĩ (Z_ iC ð bT<|bc<|Ò aF 3<|Ê 1)<|bz<|Ï 6 ah)<|ϲt iC ð (Ò aF 3<|Ê 1))))))) Z9)
 (ao (œ<|Ò Rg 2<|Ψ (Ò eQ 1<|Ê 4)<|Č<|Ï 2 ah)
 (ao (Z4 (av<|ϳF (Ò du 1<|Ê 4)<|Ê 0) (bF<|Ϻt iC ð 3<|ϲt iC ð (Ò aF 3<|Ê 1)) Z9)
 (ao (Z4 (av<|ϳF (Ò du 1<|Ê 4)<|Ê 1) (bF<|Ϻp 3 (Ò Rg 0 į)<|ϲt iC ð į) Z9)
 (bF<|ak dF<|Ï 0<|Ï 3<|Ő (Ò eQ 1<|Ê 64)))))))
def dX:Fn:=ϰJ 7 gY
def lT:Fs:=(ao (œ<|ϸs<|ae (Η de ŏ cO (Ż (Ò Rg 1 ð)<|Ê 2) 1 [0]) ah)
 (bF<|bb (iR2 (Ê 1) į) (Re 0) cO (Y0<|ϓf<|ae (Η de Ų cO (Y0<|dZ<|ae (Ò Rg 1 ð)<|ae (Y0<|ak iZ<|Ï 2<|Ï 0<|Ï 3 ah) ah) 1 [2,3,0]) ah) 1 [2,1,0]))
def i8:Fn:=aZ 3 4 lT
def i7:Fs:=(bF<|Η de (ϒr<|Ï 0<|Ï 1 ah) cO (Ò eQ 0<|Ê 256) 1 [])
def cR:Fn:=ϰJ 2 i7
def sd:Fs:=(ao (Ŵ<|Y0<|ϒs<|Ï 0<|Ï 1 ah)
 (ao (œ ϰZ)
 (ao (dJ (de<|ak iA<|Ï 0 ah) Ϸx (ao (όV<|Y0<|ak ia<|Ï 0<|Ï 2<|Ï 4 ah)
 (ao (H0 3<|ak i8<|Ï 0<|Ï 2<|Ï 4 ah)
 (ao (ϱd<|Y0<|Η de ϳe (av<|ϴQ (Č<|Ő (ϤW<|Ï 1<|Ï 0 ah))<|Ê 0) ð 1 [0])
 (ϲb (ϴQ (Č<|Ï 5 ah)<|Ê 0) (όV<|Y0<|ak lp<|Ï 0<|Ï 2<|Ï 5 ah) Z9)))))
 (fk 3))))
def eN:Fn:=ϰJ 6 sd
def jU:Fs:=(ao (Ŵ<|Y0<|eB vg<|Ő (ak gD<|Ï 0 ah))
 (ao (E7<|œ<|ϲM h_<|ak cF<|Ï 2 ah)
 (ao (Z4 (uu<|mI (av<|ϹQ (ϒs<|Ï 3<|Ï 1 ah)<|ϥ7 ŏ (Ϸa<|ϵ4 0<|Ρ 1 2 cW) cO (Ò Rg 0<|Ĥ<|Ê 1) 3 [])<|av<|ϹQ (ϯG<|Ï 3<|Ï 1 ah) ð) q_ Z9)
 (fk 3))))
def cI:Fn:=ϰJ 4 jU
def jN:Fs:=(ao (Ŵ<|Y0<|eB vg<|Ő (ak c7<|Ï 0 ah))
 (ao (A7 (œ<|ϲM fU<|ak cF<|Ï 2 ah) ϓT [] "NoPicture")
 (ao (Z4 (uu<|mI (av<|ϹQ (ϒs<|Ï 3<|Ï 1 ah)<|ϥ7 ŏ (Ϸa<|ϵ4 0<|Ρ 1 2 cW) cO (Ò Rg 0<|Ĥ<|Ê 1) 3 [])<|av<|ϹQ (ϯG<|Ï 3<|Ï 1 ah) ð) ϦV Z9)
 (fk 3))))
def dP:Fn:=ϰJ 4 jN
def jX:Fs:=(ao (Ŵ<|eC<|í false)
 (ao (œ<|Y0<|Ϫ0<|Ï 0 ah)
 (ao (Fw dP (Ï 3<|Ï 1 ah) (λa=>yx a 4) 2 ϕE)
 (bF<|Ab ŏ<|Ò Zp 3 ð))))
def cY:Fn:=ϰJ 5 jX
def jT:Fs:=(ao (Ŵ<|eC<|í false)
 (ao (Fw dP (Ï 0<|Ï 1 ah) (λ_=>true) 2 ϙg)
 (bF ŏ)))
def dQ:Fn:=ϰJ 3 jT
def kR:Fs:=(ao (ϲ4<|Ò du 3<|Č<|ae (GJ Cm<|Ò Rg 0<|Ê 0) ah)
 (ao (ϱd<|ĩ (Ϻt mR (Ż (Ò Rg 1<|Ê 0)<|Ê 1) 4<|eC<|Æ "q")<|ϲt mR (Ż (Ò Rg 1<|Ê 0)<|Ê 1) (Ò aF 4<|Ê 1))
 (ao (϶m<|ϻL (Č<|Ő (Ò Rg 0<|Ê 0))<|Č<|ae (GJ Cm<|Ò Rg 0<|Ê 0) ah)
 (ao (ϥf<|Y0<|ĩ (bz<|ae (Y0<|Ϻt mR (Ò Rg 0<|Ê 0) 6 ϳL) ah)<|ϲt iC ð (Ê 1))
 (bF<|όc<|ae (ϯp<|Ï 7<|Ï 2 ah)<|ae (ĩ (bz<|ae (dZ<|ae (Ĥ<|Ê 1)<|Ï 5<|ae (Ż (Ò Rg 1<|Ê 0)<|Ê 2) ah) ah)<|ϲt iC Ų (Ê 1)) ah)))))
def fJ:Fn:=aZ 4 8 kR
def gh:Fs:=(ao (œ<|Y0<|ak cT<|Ï 0<|Ï 1 ah)
 (ao (ϲb (ϳF (ϯG<|Ï 3<|Ï 2 ah) Ų) (bF<|όc<|ae (ϯp<|ae (Ϫ0<|Ï 1 ah)<|Ï 2 ah)<|Ï 3 ah) Z9)
 (bF<|Ab (ϒy<|Ï 1<|Ï 2 ah)<|ak dQ<|Ï 1<|Ï 2 ah)))
def c9:Fn:=aZ 3 4 gh
def jP:Fs:=(ao (JD (Y0<|ak gZ<|Ï 0 ah)<|gTl 3<|ϵ4 1<|Ρ 2 3 cW)
 (ao (ϲ4<|ĩ (Ê 1)<|Ψ (Ò eQ 0<|Ê 20)<|Ê 9)
 (ao (ϲb į (bF<|όc<|ae (ϯp<|ae (Ϫ0<|Ï 1 ah)<|Ï 4 ah)<|Ï 2 ah) Z9)
 (bF<|ϒy<|Ï 1<|Ï 4 ah))))
def eX:Fn:=Ξ 5 jP
def DU:Fs:=(ao (ϱN<|Y0<|ak gW<|Ï 0<|ae (Ê 3)<|ae (ĩ (Ê 1)<|Ψ (ϪU<|Ï 0<|Ő (Ê 0))<|Ê 10)<|ae (Ê 9)<|Ő (Ê 8))
 (ao (ϱN<|Y0<|ϥ7 Ų (Ϸa<|ϵ4 0<|Ρ 1 2 cW) cO (Y0<|dZ<|Ï 0<|Ï 1<|ae (ĩ (Ê 1)<|Ò du 2<|Ê 4) ah) 3 [])
 (ao (Ŵ<|Ψ (ϳD (ϪU<|Ï 0<|Ő (Ê 1))<|Ê 48271)<|Ê 2147483647)
 (ao (œ<|ĩ (Ê 1)<|Ψ (ϪU<|Ï 0<|Ő (Ê 2))<|Ê 9)
 (ao (ϲ4<|Y0<|ϯG<|Ï 1<|Ï 3 ah)
 (ao (ϱd<|Y0<|ak eR<|Ï 4<|Ï 2 ah)
 (ao (Z4 (mI (iK<|av<|ϒy<|Ï 5<|Ï 3 ah)<|iK<|av<|ak dQ<|Ï 5<|Ï 3 ah) (ϸ1<|í false) Z9)
 (ao (dJ (iR1<|Ê 3) (Re 6) (ao (ϥf<|Y0<|ak dX<|Ï 4<|ae (Ψ (ϳD (ĩ (Ò aF 2<|Ò fV 6 ϷA)<|ϳD (Ê 3) ϷA)<|Ê 69621)<|Ê 2147483629) ah)
 (Z4 (iK<|av<|ak c9<|Ï 1<|Ï 7<|Ï 3 ah) (ϸ1<|í false) Z9)))
 (ao (Z4 (mI (iK<|av<|ak eX<|ae (Ψ (ϻO (ϪU<|Ï 0<|Ő (Ê 2))<|Ê 9)<|Ê 1000003) ah)<|iK<|av<|ak fJ<|Ï 4<|Ï 1<|Ï 3<|Ő (Ò eQ 2<|Ê 3)) (ϸ1<|í false) Z9)
 (bF<|όc<|ae (ϯp<|Ï 4<|Ï 3 ah)<|Ï 1 ah))))))))))
def xS:Fn:=Ξ 8 DU
def top(i:Nat):No:=ϚI<|.Pass (ϲr 0 0 0)
set_option bootstrap.genMatcherCode true in
local macro_rules|`(tactic|exists $s:str)=>do
  let c:=s.getString.splitOn "~"
  let t:Lean.TSyntax `tactic<-(c[1]!.splitOn "|").foldrM (λr z=>match r.splitOn "," with
   |[u,v]=>`(tactic|first|((with_reducible show $(pzS (c[0]!++" ( "++u++" )")));refine $(pzS v)<;>trivial)|$z:tactic)
   |_=>`(tactic|first|(refine $(pzS r)<;>trivial)|$z:tactic)) (<-`(tactic|fail))
  `(tactic|((with_reducible show $(pzS (c[0]!++" _")));$t:tactic))
set_option bootstrap.genMatcherCode true in
local macro_rules|`(tactic| trivial)=>do let t<-mqX (λ_=>mqY) (Lean.mkIdent `Ϝl) [];pure (mqN "Tactic paren" [mqA "(",t[1][1],mqA ")"])
abbrev k9:No:=ĝ 17
theorem oo:ġ ["rows","start","wanted","node"] ώ2 k9:=Ç
abbrev nG:No:=ĝ 19
theorem vm:ġ ύr ύr nG:=Ç
abbrev nL:No:=ĝ 20
theorem rF:ġ Ϩn Ϩn nL:=Ç
abbrev nH:No:=ĝ 21
theorem rK:ġ ϺP ϺP nH:=Ç
abbrev lW:No:=ĝ 23
theorem pF:ġ ["tree","levels","row"] ϸw lW:=Ç
abbrev qO:No:=ĝ 25
theorem xC:ġ ϸw ϸw qO:=Ç
abbrev qX:No:=ĝ 28
theorem rR:ġ ["one","other","gap","apart","asked","distance"] Ϗy qX:=Ç
abbrev cQ:No:=ĝ 37
theorem fm:ġ ["outlines","stands","joined","level","there","left","right"] Ϗz cQ:=Ç
abbrev CV:No:=ĝ 41
theorem AG:ġ ["parts","row","column","signs"] ["parts"] CV:=Ç
abbrev pV:No:=ĝ 46
theorem kB:ġ ["own","below","signs","column"] ϐR pV:=Ç
abbrev lY:No:=ĝ 50
theorem gX:ġ ["rows","parts","row"] ϶l lY:=Ç
abbrev rN:No:=ĝ 52
theorem p_:ġ ["row","words","start","word"] ϻJ rN:=Ç
abbrev gV:No:=ĝ 54
theorem jH:ġ ["nodes","numbers","number","node"] ["nodes"] gV:=Ç
abbrev pM:No:=ĝ 56
theorem sU:ġ ["_law_script","_law_k","_law_number"] Ϗb pM:=Ç
abbrev nA:No:=ĝ 57
theorem rj:ġ ϮA ϮA nA:=Ç
abbrev nP:No:=ĝ 58
theorem rh:ġ ["_law_number","_law_most","_law_letters","_law_label_here","_law_k"] ώR nP:=Ç
abbrev lO:No:=ĝ 63
theorem tL:ġ Ϥn Ϥn lO:=Ç
abbrev iy:No:=ĝ 65
theorem gH:ġ ["_law_text","_law_number","_law_k","_law_at","_law_others"] ((Ϲz "_law_text")) iy:=Ç
abbrev kP:No:=ĝ 67
theorem om:ġ ["_law_text","_law_sign"] ϤA kP:=Ç
abbrev lg:No:=ĝ 68
theorem oy:ġ ["_law_text","_law_columns_here","_law_begin","_law_word"] ϤA lg:=Ç
abbrev oO:No:=ĝ 73
theorem sE:ġ ["_law_many","_law_gap","_law_wide","_law_middle","_law_bar","_law_labels_here","_law_at","_law_child"] Ϗc oO:=Ç
abbrev pY:No:=ĝ 74
theorem sO:ġ ["_law_many","_law_rows_here","_law_k"] ϑM pY:=Ç
abbrev l_:No:=ĝ 16
theorem iG:Fq ϗD ϭ4 (ag l_):=Ç
abbrev lU:No:=ĝ 18
theorem qC:ġ ϧ4 ϧ4 lU:=Ç
abbrev i_:No:=ĝ 22
theorem pU:ġ ϺP ϺP i_:=Ç
abbrev oK:No:=ĝ 24
theorem sC:ġ ["tree","numbers","node","level"] ϸw oK:=Ç
abbrev fq:No:=ĝ 30
theorem k7:ġ ["outlines","gap","places","number","asked"] Ϲa fq:=Ç
abbrev gB:No:=ĝ 31
theorem m5:ġ ["outlines","gap","last","count","places","number","one","asked"] ώ3 gB:=Ç
abbrev eV:No:=ĝ 34
theorem iT:ġ ["tree","places","unit","least"] Ϗd eV:=Ç
abbrev lK:No:=ĝ 42
theorem sG:ġ ["tree","columns","level","reach"] Ϧz lK:=Ç
abbrev lP:No:=ĝ 51
theorem sF:ġ ["part","found","start","label","column","colons"] ["part"] lP:=Ç
abbrev iV:No:=ĝ 53
theorem ir:ġ ["row","elders","start","bars","mark","place","sign"] ϻJ iV:=Ç
abbrev pN:No:=ĝ 59
theorem n_:ġ ["_law_script","_law_start","_law_many","_law_most","_law_deep","_law_tree_here","_law_way","_law_k","_law_number","_law_keep"] ύY pN:=Ç
abbrev pR:No:=ĝ 60
theorem tN:ġ ["_law_found","_law_due","_law_row","_law_other"] ώ4 pR:=Ç
abbrev i5:No:=ĝ 64
theorem oU:ġ ["_law_rows_here","_law_bars_here"] Ϥn i5:=Ç
abbrev ig:No:=ĝ 69
theorem eM:ġ ["_law_texts","_law_at","_law_number","_law_text","_law_top","_law_columns_here","_law_place"] ώo ig:=Ç
abbrev c_:No:=ĝ 71
theorem cS:ġ ["_law_tree_here","_law_texts","_law_level","_law_node","_law_found","_law_at","_law_k","_law_columns_here","_law_nodes","_law_column","_law_sign"] ώH c_:=Ç
abbrev lF:No:=ĝ 75
theorem iz:ġ ["_law_number","_law_many","_law_kind","_law_tree_here"] Ϧ0 lF:=Ç
abbrev pE:No:=ĝ 15
theorem kA:ġ Ϙo ϶l pE:=Ç
abbrev uM:No:=ĝ 29
theorem wJ:ġ ["outlines","gap","earliest"] Ϲa uM:=Ç
abbrev nt:No:=ĝ 44
theorem yo:ġ ϭg ϭg nt:=Ç
abbrev qE:No:=ĝ 45
theorem w_:ġ ["tree","columns","elders","parts","elder","below"] ώS qE:=Ç
abbrev kO:No:=ĝ 49
theorem cH:ġ ["rows","nodes","above","elder_columns","part","here","column","label","tall","elder"] ϶l kO:=Ç
abbrev hZ:No:=ĝ 66
theorem jJ:ġ ["_law_rows_here","_law_number","_law_kind","_law_at","_law_bars_here","_law_text","_law_cut"] ((Ϲz "_law_rows_here")) hZ:=Ç
abbrev fQ:No:=ĝ 70
theorem lS:ġ ["_law_texts","_law_number","_law_some","_law_at","_law_columns_here","_law_place","_law_text"] ((Ϲz "_law_texts")) fQ:=Ç
abbrev iH:No:=ĝ 36
theorem oq:ġ ["outlines","gap","room","elder"] Ϲa iH:=Ç
abbrev iE:No:=ĝ 43
theorem mz:ġ ["tree","columns","level","tallest"] Ϧz iE:=Ç
abbrev qA:No:=ĝ 35
theorem qG:ġ ["tree","gap","offsets","outlines","node","children","below","stands","child","stand"] ϵk qA:=Ç
abbrev Al:No:=ĝ 33
theorem Bf:ġ ["tree","gap","offsets","places","node"] ϵk Al:=Ç
abbrev kF:No:=ĝ 40
theorem rB:ġ ϵk ϵk kF:=Ç
abbrev qQ:No:=ĝ 39
theorem wX:ġ ["tree","gap","columns","rows","level","elders"] ϵk qQ:=Ç
abbrev fF:No:=ĝ 48
theorem gC:ġ ["rows","gap","nodes","tree"] ϮB fF:=Ç
abbrev lh:No:=ĝ 61
theorem bP:ġ ["_law_rows_here","_law_gap","_law_ours","_law_handed","e"] Ϧx lh:=Ç
abbrev k6:No:=ĝ 62
theorem jO:ġ ["_law_rows_here","_law_gap","_law_refused_here"] Ϧx k6:=Ç
abbrev mi:No:=ĝ 77
theorem eD:Fq ["_law_rows_here","_law_tree_here","_law_gap","_law_number","_law_at","_law_label_here","_law_ahead","_law_other"] ύ0 (ag mi):=Ç
abbrev gF:No:=ĝ 72
theorem jZ:ġ ["_law_tree_here","_law_texts","_law_gap","_law_other"] ώj gF:=Ç
abbrev kL:No:=ĝ 76
theorem eW:ġ ["_law_number","_law_rows_here","_law_tree_here","_law_good","_law_gap"] Ϧ0 kL:=Ç
abbrev rq:No:=ĝ 78
theorem Kr:ġ ["_law_script","_law_tree_here","_law_number","_law_gap","_law_rows_here","_law_wrong","_law_k","_law_other"] ϐS rq:=Ç
theorem EI:Ϻv "list":=ç
theorem KI:Ϻv "tuple":=ç
theorem Lz:Ϻv "int":=ç
theorem NW:Ϻv "bool":=ç
theorem Tw:Ϻv "str":=ç
theorem rg:Ϻv "ValueError":=ç
set_option genInjectivity false
section
abbrev Ad:=(Nat->Ix)×(Nat->Gc)
abbrev zAt{α:Type}(d:α):List α->Nat->α:=λL=>@List.rec α (λ_=>Nat->α) (λ_=>d) (λp _ h n=>@Nat.rec (λ_=>α) p (λk _=>h k) n) L
abbrev zAl(L:List Prop):Prop:=@List.rec Prop (λ_=>Prop) True (λp _ h=>p/\h) L
theorem znI{L:List Prop}(H:zAl L):∀i,zAt True L i:=by
 induction L with
 |nil=>intro _;exact True.intro
 |cons p l h=>intro i;cases i with|zero=>exact H.1|succ k=>exact h H.2 k
def mqJg(x y:String):Lean.MacroM Lean.Syntax:=
 let k:=(y.toList.drop 1).foldl (λk c=>k*36+(if c.isDigit then c.toNat-48 else c.toNat-87)) 0
 let n:=Lean.Syntax.mkNumLit (toString k)
 if x=="T"&&y.front=='t'||x.front=='g'&&y.front=='y' then `(($(Lean.mkIdent (.mkSimple x)) $n))
 else if x=="J"&&y.front=='j' then if k<65 then `((J.fst $n)) else `((J.snd $(Lean.Syntax.mkNumLit (toString (k-65)))))
 else Lean.Macro.throwUnsupported
set_option bootstrap.genMatcherCode true in
def mqJ(s:Lean.Syntax):Lean.MacroM Lean.Syntax:=
 match s.getId.components with
 |.str .anonymous x::.str .anonymous y::r=>do r.foldlM (λb z=>`(($(⟨b⟩)).$(Lean.mkIdent z):ident)) (<-mqJg x y)
 |_=>Lean.Macro.throwUnsupported
local macro_rules(kind:=ident)|s=>mqJ s
def Wd(K:Ch)(mg:ł)(J:Ad):Prop:=∀i,zAt True [
 ϴo "ValueError",
 ϴo "all",
 ϴo "bool",
 ϴo "enumerate",
 ϴo "int",
 ϴo "isinstance",
 ϴo "len",
 ϴo "list",
 ϴo "max",
 ϴo "min",
 ϴo "range",
 ϴo "sorted",
 ϴo "str",
 ϴo "tuple",
 ϴo "zip",
 ∃t,mg "GREATEST_LEVEL"=Â (Ä 8 t),
 ∃t,mg "GREATEST_TALL"=Â (Ä 9 t),
 ∃t,mg "LETTERS"=some (Æ "abcdefghijklmnopqrstuvwxyz" t),
 ∃t,mg "LONGEST_LABEL"=Â (Ä 9 t),
 ∃t,mg "MOST_NODES"=Â (Ä 40 t),
 ∃t,mg "SHREDS"=Â (Ä 256 t),
 mg "DrawError"=Â (Å J.j0),
 mg "NoDeed"=Â (Å J.j1),
 mg "NoNode"=Â (Å J.j2),
 mg "NoPicture"=Â (Å J.j3),
 mg "NoPlace"=Â (Å J.j4),
 mg "NoText"=Â (Å J.j5),
 mg "NoTree"=Â (Å J.j6),
 mg "TooMany"=Â (Å J.j7),
 ExcK K J.j3,
 ExcK K J.j6,
 Ϫi K J.j0,
 Ϫi K J.j3,
 Ϫi K J.j6,
 ϳg K (Å J.j3) (Å J.j0)=ϱp,
 ϳg K (Å J.j3) (Å J.j3)=ϱp,
 ϳg K (Å J.j6) (Å J.j0)=ϱp,
 ϳg K (Å J.j6) (Å J.j6)=ϱp,
 ϸv (Å J.j3) (Å J.j3)=ϱp,
 ϸv (Å J.j6) (Å J.j3)=ϸl,
 ϸv (Å J.j3) (Ĳ "ValueError")=ϱp,
 ϸv (Å J.j6) (Ĳ "ValueError")=ϱp,
 Ϸ9 K (Å J.j3) [Å J.j2,Å J.j5,Å J.j6]=ϸl,
 Ϸ9 K (Å J.j3) [Å J.j7,Å J.j1,Å J.j4]=ϸl,
 Ϸ9 K (Å J.j6) [Å J.j2,Å J.j5,Å J.j6]=ϱp,
 Ϸ9 K (Å J.j6) [Å J.j7,Å J.j1,Å J.j4]=ϸl,
 ĕ "is_on_way_up" k9 ώ2 J.j8 J.j1t,
 ĕ "is_label" nG ύr J.j9 J.j1u,
 ĕ "check_tall" nL Ϩn J.ja J.j1v,
 ĕ "check_node" nH ϺP J.jb J.j1w,
 ĕ "node_levels" lW ϸw J.jc J.j1x,
 ĕ "reaches" qO ϸw J.jd J.j1y,
 ĕ "nearest" qX Ϗy J.je J.j1z,
 ĕ "joined_outline" cQ Ϗz J.jf J.j20,
 ĕ "laid" CV ["parts"] J.jg J.j21,
 ĕ "bar_signs" pV ϐR J.jh J.j22,
 ĕ "level_parts" lY ϶l J.ji J.j23,
 ĕ "words_in" rN ϻJ J.jj J.j24,
 ĕ "hung_by_ways" gV ["nodes"] J.jk J.j25,
 ĕ "_law_cell" pM Ϗb J.jl J.j26,
 ĕ "_law_whole" nA ϮA J.jm J.j27,
 ĕ "_law_label" nP ώR J.jn J.j28,
 ĕ "_law_bars" lO Ϥn J.jo J.j29,
 ĕ "_law_other_sign" iy ((Ϲz "_law_text")) J.jp J.j2a,
 ĕ "_law_is_tall" kP ϤA J.jq J.j2b,
 ĕ "_law_columns" lg ϤA J.jr J.j2c,
 ĕ "_law_star" oO Ϗc J.js J.j2d,
 ĕ "_law_line" pY ϑM J.jt J.j2e,
 ĕ "check_elder" l_ ϭ4 J.ju J.j2f,
 ĕ "check_label" lU ϧ4 J.jv J.j2g,
 ĕ "children_of" i_ ϺP J.jw J.j2h,
 ĕ "levels_of" oK ϸw J.jx J.j2i,
 ĕ "earliest_places" fq Ϲa J.jy J.j2j,
 ĕ "latest_places" gB ώ3 J.jz J.j2k,
 ĕ "moved_to_side" eV Ϗd J.j10 J.j2l,
 ĕ "label_row" lK Ϧz J.j11 J.j2m,
 ĕ "labels_in" lP ["part"] J.j12 J.j2n,
 ĕ "elders_by_bars" iV ϻJ J.j13 J.j2o,
 ĕ "_law_tree" pN ύY J.j14 J.j2p,
 ĕ "_law_rows" pR ώ4 J.j15 J.j2q,
 ĕ "_law_labels" i5 Ϥn J.j16 J.j2r,
 ĕ "_law_other_tall" ig ώo J.j17 J.j2s,
 ĕ "_law_counted_tall" c_ ώH J.j18 J.j2t,
 ĕ "_law_made" lF Ϧ0 J.j19 J.j2u,
 ĕ "made_tree" pE ϶l J.j1a J.j2v,
 ĕ "room_of" uM Ϲa J.j1b J.j2w,
 ĕ "sign_below" nt ϭg J.j1c J.j2x,
 ĕ "bar_row" qE ώS J.j1d J.j2y,
 ĕ "likely_nodes" kO ϶l J.j1e J.j2z,
 ĕ "_law_spoiled" hZ ((Ϲz "_law_rows_here")) J.j1f J.j30,
 ĕ "_law_tall_edit" fQ ((Ϲz "_law_texts")) J.j1g J.j31,
 ĕ "stands_below" iH Ϲa J.j1h J.j32,
 ĕ "rows_below" iE Ϧz J.j1i J.j33,
 ĕ "pieces" qA ϵk J.j1j J.j34,
 ĕ "drawn" Al ϵk J.j1k J.j35,
 ĕ "columns_of" kF ϵk J.j1l J.j36,
 ĕ "picture" qQ ϵk J.j1m J.j37,
 ĕ "read_picture" fF ϮB J.j1n J.j38,
 ĕ "_law_refused" lh Ϧx J.j1o J.j39,
 ĕ "_law_by_name" k6 Ϧx J.j1p J.j3a,
 ĕ "_law_letter" mi ύ0 J.j1q J.j3b,
 ĕ "_law_tall_judged" gF ώj J.j1r J.j3c,
 ĕ "_law_by_hand" kL Ϧ0 J.j1s J.j3d] i
def G1(P:Ev)(w:Fk)(K:Ch)(mg:ł)(base:Op)(J:Ad):Prop:=∀i,zAt True [
 ģ 1 J.j8 J.j1t ώ2 dR,
 ģ 1 J.j9 J.j1u ύr gP,
 ϶j mg base Z8 1 J.ja J.j1v Ϩn (ϻT mg gr),
 Ϥh CXC 1 J.ja J.j1v Ϩn gy,
 ϶j mg base Z8 1 J.jb J.j1w ϺP (ϻT mg gz),
 ģ 1 J.jc J.j1x ϸw dv,
 ģ 1 J.jd J.j1y ϸw fH,
 ģ 1 J.je J.j1z Ϗy gJ,
 ģ 1 J.jf J.j20 Ϗz cX,
 ģ 1 J.jg J.j21 ["parts"] n9,
 ģ 1 J.jh J.j22 ϐR gU,
 ģ 1 J.ji J.j23 ϶l ik,
 Ϥh CXE 1 J.ji J.j23 ϶l dA,
 ģ 1 J.jj J.j24 ϻJ eL,
 ģ 1 J.jk J.j25 ["nodes"] cF,
 ģ 1 J.jl J.j26 Ϗb dm,
 ģ 1 J.jm J.j27 ϮA e7,
 ģ 1 J.jn J.j28 ώR eZ,
 ģ 1 J.jo J.j29 Ϥn fR,
 ģ 1 J.jp J.j2a ((Ϲz "_law_text")) dw,
 ģ 1 J.jq J.j2b ϤA cG,
 ģ 1 J.jr J.j2c ϤA cZ,
 ģ 1 J.js J.j2d Ϗc ki,
 ģ 1 J.jt J.j2e ϑM kf] i
def G2(P:Ev)(w:Fk)(K:Ch)(mg:ł)(base:Op)(J:Ad):Prop:=∀i,zAt True [
 ģ 2 J.ju J.j2f ϭ4 fP,
 Ϥh CXC 2 J.ju J.j2f ϭ4 fC,
 ģ 2 J.jv J.j2g ϧ4 fO,
 Ϥh CXC 2 J.jv J.j2g ϧ4 fG,
 ģ 2 J.jw J.j2h ϺP bM,
 ģ 2 J.jx J.j2i ϸw iA,
 ģ 2 J.jy J.j2j Ϲa dC,
 ģ 2 J.jz J.j2k ώ3 eE,
 ģ 2 J.j10 J.j2l Ϗd fW,
 ģ 2 J.j11 J.j2m Ϧz ia,
 ģ 2 J.j12 J.j2n ["part"] dc,
 ģ 2 J.j13 J.j2o ϻJ bt,
 ģ 2 J.j14 J.j2p ύY gW,
 ģ 2 J.j15 J.j2q ώ4 dY,
 ģ 2 J.j16 J.j2r Ϥn dE,
 ģ 2 J.j17 J.j2s ώo dF,
 ģ 2 J.j18 J.j2t ώH cT,
 ģ 2 J.j19 J.j2u Ϧ0 gZ] i
def G3(P:Ev)(w:Fk)(K:Ch)(mg:ł)(base:Op)(J:Ad):Prop:=∀i,zAt True [
 ģ 3 J.j1a J.j2v ϶l h_,
 Ϥh CXC 3 J.j1a J.j2v ϶l fU,
 ģ 3 J.j1b J.j2w Ϲa kQ,
 ģ 3 J.j1c J.j2x ϭg iZ,
 ģ 3 J.j1d J.j2y ώS lp,
 ģ 3 J.j1e J.j2z ϶l gD,
 Ϥh CXE 3 J.j1e J.j2z ϶l c7,
 ģ 3 J.j1f J.j30 ((Ϲz "_law_rows_here")) eR,
 ģ 3 J.j1g J.j31 ((Ϲz "_law_texts")) dX] i
def G4(P:Ev)(w:Fk)(K:Ch)(mg:ł)(base:Op)(J:Ad):Prop:=∀i,zAt True [
 ģ 4 J.j1h J.j32 Ϲa bO,
 ģ 4 J.j1i J.j33 Ϧz i8] i
def G5(P:Ev)(w:Fk)(K:Ch)(mg:ł)(base:Op)(J:Ad):Prop:=∀i,zAt True [
 ģ 5 J.j1j J.j34 ϵk mW] i
def G6(P:Ev)(w:Fk)(K:Ch)(mg:ł)(base:Op)(J:Ad):Prop:=∀i,zAt True [
 ģ 6 J.j1k J.j35 ϵk kY] i
def G7(P:Ev)(w:Fk)(K:Ch)(mg:ł)(base:Op)(J:Ad):Prop:=∀i,zAt True [
 ģ 7 J.j1l J.j36 ϵk cR] i
def G8(P:Ev)(w:Fk)(K:Ch)(mg:ł)(base:Op)(J:Ad):Prop:=∀i,zAt True [
 ģ 8 J.j1m J.j37 ϵk eN] i
def G9(P:Ev)(w:Fk)(K:Ch)(mg:ł)(base:Op)(J:Ad):Prop:=∀i,zAt True [
 ģ 9 J.j1n J.j38 ϮB cI,
 Ϥh CXE 9 J.j1n J.j38 ϮB dP] i
def G10(P:Ev)(w:Fk)(K:Ch)(mg:ł)(base:Op)(J:Ad):Prop:=∀i,zAt True [
 ģ 10 J.j1o J.j39 Ϧx cY,
 ģ 10 J.j1p J.j3a Ϧx dQ,
 ģ 10 J.j1q J.j3b ύ0 fJ] i
def G11(P:Ev)(w:Fk)(K:Ch)(mg:ł)(base:Op)(J:Ad):Prop:=∀i,zAt True [
 ģ 11 J.j1r J.j3c ώj c9,
 ģ 11 J.j1s J.j3d Ϧ0 eX] i
variable{P:Ev}{w:Fk}{K:Ch}{mg:ł}{base:Op}{J:Ad}
theorem dg2(i:Nat){p T pos:Pos}(a:Û (Α=ö))(H:Û (X.N[i+1]?=ϱO))(hc:Û Ź)(h:X.N.Nodup:=by first|assumption|(dsimp only[cxK];decide+kernel))(a0:Ũ (ϲg x) mqaf._auto_1)(A:Ũ (ϲg y) mqaf._auto_1)(g:Ũ (ϲW\/ϱV=Â Ţ) mqac._auto_1)(j:Ũ (X.fn y=true\/ϗl=Â Ţ) mqac._auto_1):ϖn [î p,Ϧd y T] [] (ϲm<|ϗI<|ϵ4 (i+1) cW):=pQ hc<|ϕa<|ϖF kC
theorem dg3(i:Nat){p T P pos:Pos}(a:Û (Α=ö))(H:Û (X.N[i+1]?=ϱO))(b:Û (X.N[i+2]?=Â z))(hc:Û Ź)(h:X.N.Nodup:=by first|assumption|(dsimp only[cxK];decide+kernel))(a0:Ũ (ϲg x) mqaf._auto_1)(A:Ũ (ϲg y) mqaf._auto_1)(w:Ũ (ϲg z) mqaf._auto_1)(g:Ũ (ϲW\/ϱV=Â Ţ) mqac._auto_1)(j:Ũ (X.fn y=true\/ϗl=Â Ţ) mqac._auto_1)(G:Ũ (Γ X.fn z\/Ϗl z=Â Ţ) mqac._auto_1):ϖn [î p,Ϧd y T,Ϧd z P] ([i+2]++[]) (Ϸa<|ϗI<|Ρ (i+1) (i+2) cW):=pQ hc<|ϕa<|ϖF<|bI (bR h b w G) kC
theorem dk{pos:Pos}{it:Fi}(sc:Scope)(outs:À ϳ2)(is:Ó)(own:À Str)(hi:Ũ (ϸp iter it) mqad._auto_1)(hg:Ũ (ϹI F5<|ϧg (Δ C ex F5)) mqag._auto_1)(hc:ϹI F5 (όg (Δ C ex F5)):=by intro _ _ _ _ _;first|exact JL|trivial)(he:Ũ (ϹI F5<|όh (Δ C ex F5)) mqag._auto_1)(bk:Ũ ϶P mqad._auto_1)(hm:Û Ź)(hk:ő ϭh)(hs:ϸ4):ê ϳW (ϬX<|ϲ7 Ļ):=Kn own bk hm hk hi hg hc he hs
theorem sk{pos:Pos}{it:Fi}(i:Nat)(sc:Scope)(outs:À ϳ2)(is:Ó)(own:À Str)(w:∀σ H Q,ϦU fe σ H Q->ϦU (ϬX<|ϲ7 Ļ) σ H Q:=by first|exactλ_ _ _ q=>KN q|exactλ_ _ _ q=>q)(hi:Ũ (ϸp iter it) mqad._auto_1)(hg:Ũ (ϹI F5<|ϧg (Δ C ex F5)) mqag._auto_1)(hc:ϹI F5 (όg (Δ C ex F5)):=by intro _ _ _ _ _;first|exact JL|trivial)(he:Ũ (ϹI F5<|όh (Δ C ex F5)) mqag._auto_1)(bk:Ũ ϶P mqad._auto_1)(hm:Û Ź)(hk:ő ϭh)(hN:X.N.Nodup:=by assumption)(hx:Û (Α=ö))(hl:Ũ (ϲg x) mqaf._auto_1)(hsw:Û (Ϩa ϳW (Â<|î p) spos.line X.env=ϫm))(hs:ϸ4)(hf:Ũ (ϲW\/ϱV=Â Ţ) mqac._auto_1):Λ (ϨC [î p] ϳW spos) (ay i fe):=Mg own w hN hx hl bk hm hk hi hg hc he hsw hs hf
theorem bK(b:Ϯy outs):϶P:=⟨b.hsc,b.kind,b.loc,λx H h=>ϵ6<|b.nocell x H,λx H _ h=>b.nocell _ h rfl,b.fr,b.out⟩
theorem dcx{pos p:Pos}{T:No}(G:Ϧt M.K M.mg CX)(D:ϗZ)(hr:Zj k' X.A)(H:ϥq CX M.E)(A:ϻr Ō)(h:ő (k<=k'))(hg:Û ϰY)(d:Ŭ)(he:Û (à Ō=ϰL (à es)))(l:Û (ϰv<|ϳq<|à es)):ê (Χ (î p) Ō pos) ϒB:=O1 G (hr.mono h) hg D.g D.F.kp D.b H A d he l
theorem Zd{pos p:Pos}{T:No}(G:Ϧt M.K M.mg Z8)(D:ϗZ)(hr:Zj k' X.A)(A:ϻr Ō)(h:ő (k<=k'))(hg:Û ϰY)(d:Ŭ)(he:Û (à Ō=ϰL (à es)))(l:Û (ϰv<|ϳq<|à es)):ê (Χ (î p) Ō pos) ϒB:=dcx G D hr VE A h hg d he l
theorem mk1(T:϶d):Ϥo:=by
 apply znI ⟨?_,?_,?_,?_,?_,?_,?_,?_,?_,?_,?_,?_,?_,?_,?_,?_,?_,?_,?_,?_,?_,?_,?_,?_,⟨⟩⟩
 .apply Ġ T.t1a.F oo
  let nd:=oo.nd;delta jL;trivial
 .apply Ġ T.t1b.F vm
  let nd:=vm.nd;delta oJ;show aw<|bN<|Ip (UD ba Ç<|d4 rfl T.ti)<|LM<|Ϛ0<|aj (ϴE nG [] ["sign"] (hi:=FV ϱQ) (he:=ϲH (sx xJ A8 ϱQ (KR rfl T.th) rfl))) aB
 .apply Ġ T.t1c.F rF
  delta mf;show aw<|cA (Ϩ4 Ç<|Ϻr ϱQ T.tg ϱS) Ç aP
 .apply Ϭ3 Ϩn 0 i6 T.t1c.F rF ϸ9
  delta i6;show aw<|Ϧu (Ϩ4 Ç<|Ϻr ϱQ T.tg ϱS)
 .apply Ġ T.t1d.F rK
  let nd:=rK.nd;delta mh;trivial
 .apply Ġ T.t1e.F pF
  let nd:=pF.nd;delta lD;trivial
 .apply Ġ T.t1f.F xC
  let nd:=xC.nd;delta su;show aw<|bN<|ϴE qO [] ϻJ
 .apply Ġ T.t1g.F rR
  let nd:=rR.nd;delta sj;show af (ϔL 3 rR.nd<|aK qF uw ϑg Ç)<|af (ϥX 4 qX [(3,"apart")] [0,1] ["ahead","behind"] (hi:=ϩI 0 ϲw) (hg:=ϲH (dg2 0)))<|af Ç<|aw<|bN<|e_<|ϱa 5<|ϴ8 (Ik Ϭo Ϭn)
 .apply Ġ T.t1h.F fm
  let nd:=fm.nd;delta iF;show af Ç (af (ϰu (ϖu<|ύQ<|ϴ8 (ϴE cQ [] ["outline"])) Ç<|af (ϥX 4 cQ [(3,"level")] [0,1] ["number","outline"] (hg:=ϲH (dg2 0)))<|af (ϰ5 5 fm.nd<|ϚU<|ϴ8 (ϴE cQ ϕp ϓU))<|af (ϰ5 6 fm.nd<|ύQ<|ϴ8 (ϴE cQ ϕp ϓU)) Ç) Ç)
 .apply Ġ T.t1i.F AG
  let nd:=AG.nd;delta AL;show af Ç<|af (ϰu Ç Ϩu<|aw<|ϰ5 1 AG.nd<|Œ (QN ϲw ϶z) ϴY)<|aw<|bN<|ϩV RK PySem.F.slot_str_rstrip PySem.F.type_str_rstrip Gr (Æ _) 1
 .apply Ġ T.t1j.F kB
  let nd:=kB.nd;delta ni;show af Ç (af (ϰu Ç Ç<|aw<|cA Ç (aw<|ϙR ϋ (KG (ϓk ϴY ϲw rfl) bH bH) Fz (λ_=>FP))<|aw<|ϙR ϋ (KG (ϓk ϴY ϲw rfl) bH bH) Fz (λ_=>FP)) Ç)
 .apply Ġ T.t1k.F gX
  let nd:=gX.nd;delta qD;show af Ç (af (ϰu Ç Ç<|ϴC (ϬR (ϩV HE PySem.F.slot_str_strip PySem.F.type_str_strip Bj (Æ _) 2) bH ϱS) Ç<|af Ç<|aw<|xu 1 Ç ϶z ϱb) Ç)
 .apply ϑa T.t1k.F gX ϸ9
  let nd:=gX.nd;delta kS;show af Ç (af (Ϭ0 Ç Ç<|ϴC (ϬR (ϩV HE PySem.F.slot_str_strip PySem.F.type_str_strip Bj (Æ _) 2) bH ϱS) Ç<|af Ç<|aw<|xu 1 Ç ϶z ϱb) Ç)
 .apply Ġ T.t1l.F p_
  let nd:=p_.nd;delta pX;show ϵf Ç (ϰu (tJ<|Jq ϱQ bH) Ç<|af Ç<|aw<|CT (i:=2) p_.nd rfl ϋ Ç Tz λ_=>Ir) Ç
 .apply Ġ T.t1m.F jH
  let nd:=jH.nd;delta gE;show af (ϔL 1 jH.nd<|Rr ϵy (e_ aB) Ç) (af (ϰu Ç Ϩu<|aw<|KL 1 ϵy Ç ϶z)<|aw<|xI 1<|bN<|dk (ag gV) [(1,"numbers")] [0,1,2] ϸ8 (hg:=λ_ _ _ _ _=>Ϭ1<|bI (ϺD 0 (show List.Nodup (ώE:À Str)by decide+kernel) ϋ)<|Ϧp 1 (show List.Nodup (ώE:À Str)by decide+kernel) 2 kC) (he:=ϲH (e_<|aj (RY ϵy ϴY (cE QX Sy ϱQ aO Ç) ϱb) Ç)))
 .apply Ġ T.t1n.F sU
  let nd:=sU.nd;delta nX;trivial
 .apply Ġ T.t1o.F rj
  have nd:=rj.nd;unfold mq;trivial
 .apply Ġ T.t1p.F rh
  let nd:=rh.nd;delta mE;trivial
 .apply Ġ T.t1q.F tL
  let nd:=tL.nd;delta nT;show aw<|bN<|ϴE lO [(0,"_law_rows_here")] Ϫ6 (hc:=ϲH (zB<|Ϩ4 (ϯP bH Ç rfl)<|ϯP bH Ç rfl))
 .apply Ġ T.t1r.F gH
  let nd:=gH.nd;delta gM;show af (ϰu Ç Ç<|af Ç<|aw<|cA (ϯP Ç bH rfl) (af (ϰ5 4 gH.nd<|ef<|W9 (l:=ώb) (Ϯj<|Ϯj<|Ϯj<|Ϯj Ae) rfl rfl ϲI Õ rfl Õ)<|aw<|bN<|Œ (Œ (ϵq ϱQ aO Ç)<|ϸn (Jo ϵy Ϭo Ç ϱb) Ç ϱb)<|ϵq ϱQ Ç aO) aP) Ç
 .apply Ġ T.t1s.F om
  let nd:=om.nd;delta jG;show af (ϰu (FV ϱQ) Ç<|aw<|cA (bV Hg Mj ϲw bH rfl) Ç aP) Ç
 .apply Ġ T.t1t.F oy
  let nd:=oy.nd;delta jV;show ϵf Ç (ϰu (tJ<|Jq ϱQ bH) Ç Ç) Ç
 .apply Ġ T.t1u.F sE
  let nd:=sE.nd;delta nj;trivial
 apply Ġ T.t1v.F sO;let nd:=sO.nd;delta nI;trivial
theorem mk2(T:϶d)(g1:Ϥo):ϺE:=by
 apply znI ⟨?_,?_,?_,?_,?_,?_,?_,?_,?_,?_,?_,?_,?_,?_,?_,?_,?_,?_,⟨⟩⟩
 .apply Ġ T.t1w.F iG
  let nd:=iG.nd;delta lz;trivial
 .apply Ϭ3 ϗD 1 iD T.t1w.F iG ϸ9
  let nd:=iG.nd;delta iD;show af Ç<|aw<|cA Ç (aw<|Ϧu Ç)<|aw<|Ϧu Ç
 .apply Ġ T.t1x.F qC
  delta k_;trivial
 .apply Ϭ3 ϧ4 1 g_ T.t1x.F qC ϸ9
  delta g_;show aw<|Ϧu Ç
 .apply Ġ T.t1y.F pU
  let nd:=pU.nd;delta k8;show af Ç<|aw<|bN<|ϓ8 i_ [(1,"node")] ["number","row"] (hg:=ϲH (dg2 0))
 .apply Ġ T.t1z.F sC
  let nd:=sC.nd;delta nY;show af Ç (af (ϰu Ç Ϩu<|af Ç<|aw<|xu 1 ϴY ϶z ϱb) Ç)
 .apply Ġ T.t20.F k7
  let nd:=k7.nd;delta gG;show af Ç (af (ϰu Ç Ç<|af (ϥX 4 fq [(2,"places"),(0,"outlines"),(3,"number"),(1,"gap")] [0] ["ahead"] (w:=ū (Lo<|KN q))) Ç) Ç)
 .apply Ġ T.t21.F m5
  let nd:=m5.nd;delta iS;show ϵf Ç (ϰu (QP rfl T.ta Ç Ç Ç) Ç<|af Ç<|af (ϥX 7 gB [(4,"places"),(6,"one"),(0,"outlines"),(1,"gap")] [0] ["behind"] (w:=ū (Lo<|KN q)))<|aw<|zN 4 Ϭn Ç) Ç
 .apply Ġ T.t22.F iT
  let nd:=iT.nd;delta iQ;show Ϛz<|aw<|bN<|ϴE eV [(3,"least")] ["place"]
 .apply Ġ T.t23.F sG
  let nd:=sG.nd;delta nZ;show af Ç<|aw<|bN<|϶p g1.y9 T.t1i<|aj (ϴE lK [(1,"columns"),(3,"reach"),(0,"tree")] ["node"] (hi:=tJ ϶z) (hg:=ϲH (ϺD 0 (show List.Nodup (["node","columns","reach","tree"]:À Str)by decide+kernel) ϋ)) (he:=λ_ _ _ _ _=>(e_<|aj (ϴF wG wV (ϸn ϲw ϱQ ϱb)<|ϸn ϶z ϱQ ϱb)<|aj (ϸn (ϸn ϴY ϱQ ϱb) ba ϱb) aB))) aB
 .apply Ġ T.t24.F sF
  let nd:=sF.nd;delta kg;show af Ç (af (ϰu Ç Ϩu<|af Ç<|af (ϥX 5 lP [(4,"column")] [0] ϻJ (hc:=ϲH (zB<|bV (rP hr.units) xq (ϵq ϱQ Ç Ç) bH ϱS))) Ç) Ç)
 .apply cC rfl rfl rfl T.t25.F ir ϸ9
  let nd:=ir.nd;delta ft;show af Ç (af (ϰu Ç Ϩu<|af (ϰ5 4 ir.nd<|Œ ϶z<|ϚS<|ώa<|ϩV IW PySem.F.slot_str_find PySem.F.type_str_find En (Ä _) 3)<|aw<|ϰu (Jd rfl T.t3 ϴY) (dg2 5)<|aw<|cA (ϯP ϥO bH rfl) (aw<|AZ 1 ϵy Ç Ϭo) aP) Ç)
 .apply Ġ T.t26.F n_
  let nd:=n_.nd;delta nq;show ϵf Ç (ϰu Ç Ç<|af Ç<|af (cA Ç (ϵf Ç (ϰ5 6 n_.nd<|ef<|cE cn da ϥO aO Ç) Ç) Ç) Ç) Ç
 .apply Ġ T.t27.F tN
  let nd:=tN.nd;delta nF;show af Ç (af (ϰu (ϩI 0 ϲw) Ϩu Ç) Ç)
 .apply Ġ T.t28.F oU
  let nd:=oU.nd;delta kX;show af Ç<|aw<|bN<|ϴE i5 [(1,"_law_bars_here")] Ϫ6 (hc:=ϲH (zB<|Ϩ4 Ç<|ϓk Ç ϲw rfl))
 .apply Ġ T.t29.F eM
  let nd:=eM.nd;delta gK;show af Ç<|ϚP Ç<|af (ϰ5 3 eM.nd<|QN ϴY ϥO)<|af (ϰ5 3 eM.nd<|Œ (Œ (ϵq ϴY aO Ç) Ç)<|ϵq ϴY Ç aO)<|aw<|bN<|Œ (Œ (ϱj aO Ç)<|df<|aj (Dr (op:=Ep) PySem.F.slot_str_rstrip PySem.F.type_str_rstrip De (λ_ _ _=>Æ _) ϴY) aB)<|ϱj Ç aO
 .apply Ġ T.t2a.F cS
  let nd:=cS.nd;delta fK;show af Ç<|af (ϰu Ç Ç<|aw<|zN 2 ϴY Ç)<|af Ç<|af Ç<|af (xI 2<|ϰu Ç Ç<|af Ç<|af Ç<|af (By K9F Ç<|ϚG<|af (bU rfl K9F (ϩI 8<|ai 7) (pQ (n:=2) rfl<|Ϧp 3 cS.nd 9 kC)<|af (ϰ5 10 cS.nd<|ef<|ϵq Ç Ç Ç)<|aw<|zN 4 ϴY Ç) Ç) Ç)<|aw<|xI 4<|bN<|ϓ8 c_ [] ["_law_row","_law_many"] (hi:=ϩI 0 Ϭo) (hg:=ϲH (dg2 0))
 apply Ġ T.t2b.F iz;delta nU;apply ϵf ?_ ?_<|ϵf ?_ ?_<|aw ?_
 .exact(ϰ5 1 iz.nd<|Œ ba<|ϴF uG ug ϱQ ba)
 .exact(ϰ5 2 iz.nd<|ϴF uG ug (ϴF vL AE ϱQ ba) ba)
 .exact(cA (Ϭz ϱS) (af (ϰ5 3 iz.nd<|ef<|Œ (df<|aj (e_<|ϩE<|ϓh όr) aB)<|Ϛ1<|Œ ba ϲw)
    (aw<|bN<|df<|aj (ef<|϶p g1.ym T.t1u<|aj (Œ ba ϲw)<|ϴ8 (Œ ba<|ϴF uG ug (ϴF vL AE ϱQ ba) ba))<|ϱa 3<|ϴ8 (sx FW (ϰs Fv) (Œ ba ϲw) ba ϱS))) aP)
 .exact(cA (Ϭz ϱS) (af (ϰ5 3 iz.nd<|ef<|Œ (df<|aj (e_<|ϩE<|ϓh όr) aB)<|ϴE lF [] Ϫ6 (hi:=ϖu<|ϴF wG wV ϲw ba) (hg:=ϲH (ϺD 0 (show List.Nodup (Ϫ6:À Str)by decide+kernel) ϋ)) (he:=ϲH (e_<|ϱa 0<|aj (ϸn bH ϱQ ϱb) όr)))
    (aw<|bN<|df<|aj (ef<|϶p g1.yn T.t1v<|ϱa 1 aB)<|ϱa 3<|ϴ8 (ύZ ϱS))) aP)
 .exact(cA (Ϭz ϱS) (aw<|bN<|df<|ϭi (ef<|ϵq bH aO<|qR ϲw)<|ϭi (ef<|e_<|ϩE<|aj (ef<|ϵq bH aO<|qR ϲw) όr)<|ϴ8 (ύZ ϱS)) aP)
 .exact(cA (Ϭz ϱS) (aw<|bN<|df<|aj (ef<|Œ (df<|ϴ8 bH)<|aK qF uw (df<|ϴ8 bH)<|ϴF wG wV ϲw ba)<|ϭi (e_<|ϩE<|ϓh<|ϱa 1 aB)<|ϴ8 (ύZ ϱS)) aP)
 apply bN ?_
 with_reducible apply df ?_
 apply aj ?_ ?_
 .apply ϸn ?_ (ϴF uG ug ϱQ ba) ϱb
  with_reducible apply df ?_
  apply ϯI aB ?_;apply ϭi bH ?_;apply ϯI (ώa bH) ?_;show ϯI (ώa bH) aB
 show ϯI aB<|ϴ8 QG
theorem mk3(T:϶d)(g1:Ϥo)(g2:ϺE):ϩ2:=by
 apply znI ⟨?_,?_,?_,?_,?_,?_,?_,?_,?_,⟨⟩⟩
 .apply Ġ T.t2c.F kA
  let nd:=kA.nd;delta nM;show ϴC (Ϩ4 Ç<|Ϻr Ç T.tj ϱS) Ç (af (ϰu Ç (dg2 1) Ç)<|ϴC (Ϻr Ç T.tf ϱS) Ç Ç)
 .apply Ϭ3 Ϙo 2 ka T.t2c.F kA ϸ9
  let nd:=kA.nd;delta ka;show af (Ϧu<|Ϩ4 Ç<|Ϻr Ç T.tj ϱS) (af (Ϭ0 Ç (dg2 1) Ç)<|af (Ϧu<|Ϻr Ç T.tf ϱS) Ç)
 .apply Ġ T.t2d.F wJ
  let nd:=wJ.nd;delta rS;trivial
 .apply Ġ T.t2e.F yo
  delta my;trivial
 .apply Ġ T.t2f.F w_
  let nd:=w_.nd;delta rX;show af Ç (af (ϰu Ç Ç<|ϚY Ç) Ç)
 .apply Ġ T.t2g.F cH
  let nd:=cH.nd;delta oz;show af Ç (af (ϰ5 2 cH.nd<|ef<|PJ Ç<|e_ aB)<|af Ç<|af (ϰu Ç Ç<|af Ç<|af (ϰu Ç (dg3 6)<|af (ϰ5 9 cH.nd<|ϔv Ç)<|ϴC (bV (yZ ϵy) (ϰs IM) Ϭl ϶z rfl) Ç<|af (AZ 5 ϵy ϥO<|ϴF Bl BL (Jo ϵy ϶z Ϭl ϱb) Ç)<|aw<|C8 1<|e_<|aj (Lp 5 ϵy ϥO ϱb) Ç)<|ϴC (xR<|Ϻr Ç T.tj ϱS) Ç Ç) Ç)
 .apply ϑa T.t2g.F cH ϸ9
  let nd:=cH.nd;delta jM;show af Ç (af (ϰ5 2 cH.nd<|ef<|PJ Ç<|e_ aB)<|af Ç<|af (Ϭ0 Ç Ç<|af Ç<|af (Ϭ0 Ç (dg3 6)<|af (ϰ5 9 cH.nd<|ϔv Ç)<|ϴC (bV (yZ ϵy) (ϰs IM) Ϭl ϶z rfl) Ç<|af (AZ 5 ϵy ϥO<|ϴF Bl BL (Jo ϵy ϶z Ϭl ϱb) Ç)<|aw<|C8 1<|e_<|aj (Lp 5 ϵy ϥO ϱb) Ç)<|ϴC (xR<|Ϻr Ç T.tj ϱS) Ç Ç) Ç)
 .apply Ġ T.t2h.F jJ
  let nd:=jJ.nd;delta jK;show af Ç<|af Ç<|af Ç<|ϵf (cA Ç (aw<|bN<|Œ (Œ (ϱj aO Ç) Ç)<|ϱj Ç aO) aP) (cA Ç (ϵf Ç (ϰ5 5 jJ.nd<|Œ (Œ (ϵq Ϭn aO Ç) Ç)<|ϵq Ϭn Ç aO)<|aw<|bN<|Œ (Œ (ϱj aO Ç) Ç)<|ϱj Ç aO) aP)<|ϴC Ç (aw<|bN<|ϴE hZ [] ϤA)<|ϴC Ç (aw<|bN<|ϱj (qR ba) aO)<|ϴC Ç (af Ç<|aw<|bN<|Œ (Œ (ϱj aO Ç) Ç)<|ϱj Ç aO)<|af Ç<|ϴC Ç (aw<|bN<|Œ (Œ (ϱj aO Ç) Ç)<|ϱj Ç aO)<|aw<|bN<|Œ (Œ (ϱj aO Ç) Ç)<|ϱj Ç aO
 apply Ġ T.t2i.F lS;let nd:=lS.nd;delta gY;show af (ϥX 2 fQ [(0,"_law_texts")] [0] Ϫ6) (af (cA Ç (af Ç<|af Ç<|ϵf Ç Ç<|aw<|bN<|Œ (Œ (ϱj aO Ç) Ç)<|ϱj Ç aO) aP)<|af Ç<|ϴC Ç (aw<|bN<|Œ (ϱj aO Ç)<|ϱj Ç aO)<|ϴC Ç (aw<|bN<|Œ (Œ (ϱj aO Ç) Ç)<|ϱj Ç aO) Ç)
theorem mk4(T:϶d)(g1:Ϥo)(g3:ϩ2):Ϗ9:=by
 apply znI ⟨?_,?_,⟨⟩⟩
 .apply Ġ T.t2j.F oq
  let nd:=oq.nd;delta jI;show af Ç<|af Ç<|aw<|bN<|ϓ8 iH [(3,"elder")] ["earliest","latest"] (hi:=r_ rfl T.te Ç Ç) (hg:=ϲH (dg2 0))
 apply Ġ T.t2k.F mz;let nd:=mz.nd;delta lT;show af (ϰ5 3 mz.nd<|ύQ<|ϴ8 (ϴE iE [(0,"tree")] ["node"]))<|aw<|bN<|ϴE iE [(2,"level"),(1,"columns"),(0,"tree")] ϓU (he:=λ_ _ _ _ _=>ef<|϶p g1.y9 T.t1i<|aj (dk _ ϕv [0] ["node"] (bk:=bK<|SS rfl ç ç ç (ń (p8 _ _ ϕv) ⟨϶0,϶0,϶0,trivial⟩)) (hi:=tJ ϲw) (hg:=ϲH (ϺD 0 (show List.Nodup (["node","columns","tree","number"]:À Str)by decide+kernel) ϋ)) (he:=ϲH (ef<|e_<|aj (ϸn ϲw ϱQ ϱb)<|aj (ef<|϶p g3.y3 T.t2e<|ϱa 2<|ϱa 0<|ϱa 3 aB) aB))) aB)
theorem mk5(T:϶d)(g1:Ϥo)(g2:ϺE)(g4:Ϗ9):Ϛj:=by
 apply znI ⟨?_,⟨⟩⟩;apply Ġ T.t2l.F qG;let nd:=qG.nd;delta uC;show af Ç (ϚA<|af (ϰu (QP rfl T.ta Ç Ç Ç) Ç<|af Ç<|aw<|cA Ç (af (N2 3 5<|RX (sc:=(ag qA)) (i:=3) (c:=5) (bi:=6) ⟨rfl,rfl,ç,ç,ç,⟨϶0,trivial⟩⟩ qG.nd rfl ϋ rfl rfl Ç (ϲH<|FD (show List.Nodup (["child","outlines"]:À Str)by decide+kernel) rfl ϋ) λ_ _ _ _ _ hK=>FH (xn _ hK) (fi rfl Ç) (fi rfl Ç) ϱb)<|af Ç<|af (ϰu (ϩI 5<|ai 7) (dg2 8)<|aw<|zN 2 (ai 8) Ϭl)<|aw<|ID 3 Ϭo (϶p g1.y8 T.t1h<|ϱa 6<|ϱa 7 aB) ϱb) aP) Ç)
theorem mk6(T:϶d)(g2:ϺE)(g5:Ϛj):Ϛk:=by
 apply znI ⟨?_,⟨⟩⟩;apply Ġ T.t2m.F Bf;let nd:=Bf.nd;delta xH;show ϵf Ç Ç<|aw<|xI 3<|bN<|϶p g2.y8 T.t22<|ϱa 0<|ϱa 3<|ϴ8 ϑg
theorem mk7(T:϶d)(g6:Ϛk):ϐa:=by
 apply znI ⟨?_,⟨⟩⟩;apply Ġ T.t2n.F rB;let nd:=rB.nd;delta i7;show aw<|bN<|ϴE kF [] ["place"] (he:=ϲH (ϴF vL AE ϱQ ϑg))
theorem mk8(T:϶d)(g2:ϺE)(g3:ϩ2)(g4:Ϗ9)(g7:ϐa):ϭW:=by
 apply znI ⟨?_,⟨⟩⟩;apply Ġ T.t2o.F wX;let nd:=wX.nd;delta sd;show ϵf Ç (ϰu Ç Ç<|af Ç<|af (T4 3<|϶p g4.y1 T.t2k<|ϱa 0<|ϱa 2<|ϱa 4 aB)<|Ϛ3 Ç) Ç
theorem mk9(T:϶d)(g1:Ϥo)(g3:ϩ2)(g7:ϐa)(g8:ϭW):ϭX:=by
 apply znI ⟨?_,?_,⟨⟩⟩
 .apply Ġ T.t2p.F gC
  let nd:=gC.nd;delta jU;show af Ç (af (N9 λ_=>Ç)<|af (cA (xR<|AK<|tM (ϬR (϶p g7.y0 T.t2n<|ϱa 3<|ϱa 1 aB) (ϗE ϸ8 (hg:=λ_ _ _ _ _=>Ϭ1<|bI (ϺD 0 (show List.Nodup (ϸ8:À Str)by decide+kernel) ϋ)<|Ϧp 1 (show List.Nodup (ϸ8:À Str)by decide+kernel) 2 kC)) ϱS) Ç) Ç aP) Ç)
 apply ϑa T.t2p.F gC ϸ9;let nd:=gC.nd;delta jN;show af Ç (af (Mp Lv.of (λxe E2 hP=>Ç) T.tx rfl T.tr rfl T.to T.tw (dn1 T.tr T.t11) λ_ h=>Bool.noConfusion h)<|af (cA (xR<|AK<|tM (ϬR (϶p g7.y0 T.t2n<|ϱa 3<|ϱa 1 aB) (ϗE ϸ8 (hg:=λ_ _ _ _ _=>Ϭ1<|bI (ϺD 0 (show List.Nodup (ϸ8:À Str)by decide+kernel) ϋ)<|Ϧp 1 (show List.Nodup (ϸ8:À Str)by decide+kernel) 2 kC)) ϱS) Ç) Ç aP) Ç)
theorem X7(T:϶d)(g2:ϺE)(g9:ϭX):ϏR:=by
 apply znI ⟨?_,?_,?_,⟨⟩⟩
 .apply Ġ T.t2q.F bP
  let nd:=bP.nd;delta jX;show ϵf Ç (Kz (tbl:=ϕE) g9.y1 (hr.mono Õ) rfl T.t2p.g T.t2p.F.kp T.t2p.b (λ_=>Ç) rfl rfl T.tv rfl T.tl Ϯp (ώm J.j3 T.to T.ty (Ew (i:=4) (b:=true) hca hfr bP.nd rfl rfl Õ Ϯp hlen (λoe hoc=>by show(vJ (Ϗf ϋ<|uz (EF (ύw T.tt) ϮW rfl ϋ rfl T.t5 rfl T.to T.t12)<|EG (ύw T.tt) ϮW rfl ϋ rfl T.t5 rfl T.t0 rg T.t14) (vJ (Ϗf ϋ<|uz (ϬG ϋ)<|zO<|Ϭs J.j2 J.j5 J.j6 T.tt T.tn T.tq T.tr T.t16) (C3<|Ϗf ϋ<|uz (ϬG ϋ)<|zO<|Ϭs J.j7 J.j1 J.j4 T.tt T.ts T.tm T.tp T.t17) (ό4 Qa)) (ό4 Im))) ϔS)<|ώm J.j6 T.tr T.t10 (Ew (i:=4) (b:=false) hca hfr bP.nd rfl rfl Õ Ϯp hlen (λoe hoc=>by show(vJ (ώ8 ϋ<|uz (EF (ύw T.tu) ϮW rfl ϋ rfl T.t5 rfl T.to T.t13)<|EG (ύw T.tu) ϮW rfl ϋ rfl T.t5 rfl T.t0 rg T.t15) (vJ (ώ8 ϋ<|uz (ϬG ϋ)<|zO<|Ϭs J.j2 J.j5 J.j6 T.tu T.tn T.tq T.tr T.t18) (C3<|ώ8 ϋ<|uz (ϬG ϋ)<|zO<|Ϭs J.j7 J.j1 J.j4 T.tu T.ts T.tm T.tp T.t19) (ό4 Qa)) (ό4 Im))) ϔS) IZ) λ_ _=>Km Õ) Ç
 .apply Ġ T.t2r.F jO
  let nd:=jO.nd;delta jT;show af Ç (af (Kz (tbl:=ϙg) g9.y1 (hr.mono Õ) rfl T.t2p.g T.t2p.F.kp T.t2p.b (λ_=>Ç) rfl rfl T.tw rfl T.to Ϯp (ώm J.j3 T.to T.tz (Nb (b:=true) hca hfr (λoe hoc=>by show(C3<|sr (c:=true) jO.nd rfl ϋ MS)) λH2 s2 sm J=>hq _ H2 s2 sm J λ_ _ _ _ _ _ o=>o) IZ) ϱb) Ç)
 apply Ġ T.t2s.F eD;let nd:=eD.nd;delta kR;show af (ϰ5 4 eD.nd<|ϴF uG ug ϴY<|ϔH<|aj (ϔB (λ_ _ _=>Æ _) Ç) aB)<|af (ϰ5 5 eD.nd<|Œ (Œ (ϵq Ç aO Ç) bH)<|ϵq Ç Ç aO)<|af (ϰ5 6 eD.nd<|ϴF wG wV Ç<|ϔH<|aj (ϔB (λ_ _ _=>Æ _) Ç) aB)<|af (ϰ5 7 eD.nd<|ef<|Œ (df<|aj (ef<|Œ (ϵq Ç aO Ç) Ϭn) aB)<|ϱj (qR ba) aO)<|aw<|bN<|϶p g2.yd T.t27<|aj (϶p g9.y0 T.t2p<|ϱa 7<|ϱa 2 aB)<|aj (Œ (df<|aj (e_<|ϩE<|ϱa 5<|aj (ϸn (ϸn ϲw ba ϱb) ba ϱb) aB) aB)<|cE cn da ϲw (qR ba) aO) aB
theorem Yo(T:϶d)(g2:ϺE)(g8:ϭW)(g9:ϭX)(g10:ϏR):ϙS:=by
 apply znI ⟨?_,?_,⟨⟩⟩
 .apply Ġ T.t2t.F jZ
  let nd:=jZ.nd;delta gh;trivial
 apply Ġ T.t2u.F eW;let nd:=eW.nd;delta jP;show af (R7 Ç<|ML (n:=3) rfl<|bI (ϺD 1 eW.nd ϋ)<|Ϧp 2 eW.nd 3 kC) Ç
theorem S6{f:Ix}{fd:Gc}(F:Fun K "law" "law" rq f fd)(T:϶d)(g1:Ϥo)(g2:ϺE)(g3:ϩ2)(g8:ϭW)(g9:ϭX)(g10:ϏR)(g11:ϙS):϶j mg base Z8 12 f fd ϐS (ϻT mg xS):=by
 apply cC rfl rfl rfl F Kr ϸ9;let nd:=Kr.nd;delta DU;show af Ç (af (ϥX 1 rq [] [0,1,2] ϬF (hg:=λ_ _ _ _ _=>Ϭ1<|bI (ϺD 0 (show List.Nodup (ϬF:À Str)by decide+kernel) ϋ)<|Ϧp 1 (show List.Nodup (ϬF:À Str)by decide+kernel) 2 kC)) Ç)
end
theorem gA{a b:Str}(h:a.cps.toList=b.cps.toList):a=b:=by cases a with|mk x=>cases b with|mk y=>show Zh Str.mk<|Array.toList_inj.mp h
theorem Dk{p q:Ó}{g:Nat->Bool}(h:∀c∈p,Ϲ5 g)(H:∀c,q.head?=ã->å (g c)):(ϥ3).takeWhile g=p:=by
 rw[List.takeWhile_append_of_pos h];cases q with|nil=>simp|cons c r=>rw[Zbg,H c rfl];simp
set_option tactic.hygienic true in
theorem Ex(h:∀c∈q.cps.toList,Ϲ5 g)(H:∀c,p.cps.toList.reverse.head?=ã->å (g c)):ϐV false true ϥ3=p:=by
 let x:ϰe ϥ3=p.cps.toList++q.cps.toList:=iW p q;let l:stripLo g false ϥ3=0:=rfl;let hi:stripHi g true ϥ3 0=p.length:=by
  delta stripHi;rw[ė,Zcv,x,Zdn,Dk (ϴp<|h c<|List.mem_reverse.mp hc) H,Zdo,Str.length_append,aU p,aU q];lia
 let sub:stripped g false true ϥ3=p:=by
  delta stripped;rw[l,hi];apply gA;change Ϩp (όv ϥ3 0 p.length);rw[Zbb,x,List.extract_eq_drop_take,Zcv,Zbf,aU p,List.take_left]
 delta Txt.stripBy;split
 .rename_i S
  delta stripSame at S;rw[K9U,l,hi,beq_iff_eq,beq_iff_eq,Str.length_append]at S;let Q:q.cps.toList=[]:=Zad (ϯr aU);apply gA;rw[x,Q,Zw]
 show sub
def Zx:Ó->À Ó
 |[]=>[[]]
 |x::r=>if x=32 then []::Zx r else ϔ4
theorem AJ(t:Ó):ϷT≠[]:=by
 cases t with
 |nil=>ext h;cases h
 |cons x r=>
  delta Zx;split
  .intro h;cases h
  split
  .intro h;cases h
  ext h;cases h
theorem sA:∀w:Ó,32∉w->Zx w=[w]:=by
 ext w
 induction w with|nil=>ext _;rfl|cons x r ih=>ext h;delta Zx;rw[P3 λe=>h (ϵ1 Uf),ih λm=>h<|Ą m]
theorem kI(t:Ó):Zx (32::t)=[]::ϷT:=by
 change(Ì (32=32) ([]::ϷT) _)=_;rw[ė]
theorem wC{x:Nat}(h:¬x=32)(r:Ó):Zx (x::r)=ϔ4:=by
 change(Ì (x=32) ([]::Zx r) _)=_;rw[χ]
theorem zE:∀u v:Ó,Zx (u++32::v)=Zx u++Zx v:=by
 ext u
 induction u with
 |nil=>ext v;show kI v
 |cons x r ih=>
  ext v;change Zx (x::(r++32::v))=_;by_cases h:x=32
  .subst h
   rw[kI,kI,ih v];rfl
  rw[wC h,wC h,ih v];cases e:Zx r with|nil=>show ϺQ<|AJ r|cons w ws=>rfl
theorem DL(k:Nat)(t:Ó):Zx (η 32++t)=η []++ϷT:=by
 induction k with|zero=>rfl|succ k ih=>rw[K99,K92,kI,ih,K99,K92]
theorem CJ(t:Ó)(k:Nat):Zx (t++η 32)=ϷT++η []:=by
 induction k generalizing t with
 |zero=>rw[Zat,Zw,Zat,Zw]
 |succ k ih=>
  rw[K99,zE];congr 1;let:=ih [];rw[K9B]at this;rw[this,K99];rfl
theorem MQ:∀L:À Str,L≠[]->(∀p∈L,32∉p.cps.toList)->Zx (ϰe (Str.join ϶5 L))=L.map ϏS:=by
 ext L
 induction L with
 |nil=>ext h;show ϱH h
 |cons a L ih=>
  ext _ h;cases L with
  |nil=>
   change Zx a.cps.toList=[a.cps.toList]
   show sA _<|h a Uf
  |cons b L=>
   let e:Str.join ϶5 (a::b::L)=a++϶5++Str.join ϶5 (b::L):=rfl;rw[e,iW,iW,K9M];change Zx (a.cps.toList++32::ϰe (Str.join ϶5<|b::L))=_;rw[zE,sA _<|h a Uf,ih ϲI λp H=>h p<|Ą H];rfl
theorem Be(x:Str):Î (Txt.split x ϶5) ϏS=Zx x.cps.toList:=by
 let h:=MQ (Txt.split x ϶5) (λz=>by let:=PyProof.Rows.split_pos x ϶5;rw[z]at this;show Đ this Õ)<|StrLaws.split_free x 32;rw[StrLaws.join_split]at h;show h.symm
abbrev Pt:=ϳ2
def ptD(x:Pt):Go:=ä [Ä (É x.1),Æ x.2]
def cs(s:Str):Ó:=s.cps.toList
def paL:À Ó->Nat->À (Nat×Ó)|[],_=>[]|w::ws,b=>(Ì (w=[]) [] [(b,w)])++ϩf ϧa
def paS:À Str->Nat->À Pt|[],_=>[]|w::ws,b=>(Ì ϤV [] [(b,w)])++paS ws ϧa
theorem pSc{w ws b}:paS (w::ws) b=(Ì ϤV [] [(b,w)])++paS ws ϧa:=rfl
theorem Qp:∀(ws:À Str)(b:Nat),Î (paS ws b) (λx=>(x.1,đ))=paL (ws.map cs) b:=by
 ext ws
 induction ws with
 |nil=>ext b;rfl
 |cons w ws ih=>
  ext b;rw[pSc,W1,paL,Z6,ih];let a:w.length=Ã â:=aU w;rw[a];congr 1;by_cases h:â=[]
  .rw[Ÿ,Os<|by rw[h];rfl]
   rfl
  rw[χ,P3 (ϻP Zad)];rfl
theorem BE(k b:Nat):paL (η []) b=[]:=by
 induction k generalizing b with|zero=>rfl|succ k ih=>rw[K99,paL,ih];rfl
theorem Ao:∀(X Y:À Ó)(b:Nat),paL (X++Y) b=paL X b++paL Y (b+(X.map ϱE).sum):=by
 ext X
 induction X with
 |nil=>ext Y b;rfl
 |cons w X ih=>
  ext Y b;rw[K92,paL,paL,ih,W1,Zal,K9M];congr 3;lia
theorem CL(k b:Nat)(Y:À Ó):paL (η []++Y) b=paL Y (b+k):=by
 rw[Ao,BE,K9B,Zbl,List.sum_replicate_nat];congr 1;simp
def Y3:Nat->À Pt->Ó|_,[]=>[]|n,(c,w)::r=>ŗ (c-n) 32++(â++Y3 (c+Ã â) r)
theorem Y3c{n c w r}:Y3 n ((c,w)::r)=ŗ (c-n) 32++(â++Y3 (c+Ã â) r):=rfl
theorem Y3n{n}:Y3 n []=[]:=rfl
def okW(w:Str):Prop:=(â≠[]/\32∉â)\/â=[32]
def goP:Nat->Ô (À Pt)|_,[]=>True|n,(c,w)::r=>n<=c/\okW w/\goP (c+Ã â+1) r
def nbP(x:Pt):Bool:=! Ë (đ=[32])
theorem II{m:Nat}:∀{r:À Pt},ϳG->goP (m+1) r->Y3 m r=32::Y3 (m+1) r:=by
 ext r hr h;cases r with
 |nil=>show ϱH hr
 |cons x r=>
  let(c,w):=x;let H:=h.1;rw[Y3c,Y3c,ó (c-m=(c-(m+1))+1),K99];rfl
theorem B1:∀(r:À Pt)(n:Nat),ϨK->ϨQ ϹU n=Î (r.filter nbP) λx=>(x.1,đ):=by
 ext r
 induction r with
 |nil=>ext n _;rfl
 |cons x r ih=>
  ext n h;let(c,w):=x;let(b,H,f):=h;rw[Y3c,DL,CL,ó (n+(c-n)=c)];let tail:∀v:Ó,(v=â)->ϨQ (v++Y3 (c+Ã â) r) c=paL (Zx v) c++Î (r.filter nbP) λx=>(x.1,đ):=λv V=>by
   cases r with
   |nil=>rw[Y3n,Zw];simp
   |cons y r=>
    rw[II ϲI f,zE,Ao,<-ih (c+Ã â+1) f];congr 2;let s:∀t:Ó,(Î ϷT ϱE).sum=ϯ5:=by
     ext t
     induction t with
     |nil=>rfl
     |cons x t iht=>
      delta Zx;split
      .rw[W1,Zal,iht,Zo,K8U]
       lia
      cases e:Zx t with
      |nil=>show ϺQ<|AJ t
      |cons w ws=>
       rw[e,W1,Zal]at iht;dsimp only;rw[W1,Zal,Zo,Zo];lia
    rw[s,V];lia
  rw[tail â rfl];rcases H with⟨W,a⟩|W
  .rw[sA _ a,K8O]
   let:Γ nbP (c,w):=by delta nbP;rw[Zbq,decide_eq_false_iff_not];exactλe=>a (ϵ1 Uf)
   rw[Os this,W1,paL,P3 W];rfl
  rw[W,K8O];let:å (nbP (c,w)):=by delta nbP;rw[Bool.not_eq_false',K9k];show W
  rw[P3<|Ù this Zy];rfl
theorem rV(t:Ó):∃u k,t=u++η 32/\∀c,u.reverse.head?=ã->ϳH:=by
 let go:∀r:Ó,∃u k,r.reverse=u++η 32/\∀c,u.reverse.head?=ã->ϳH:=by
  ext r
  induction r with
  |nil=>show([],0,rfl,λc h=>ϰn)
  |cons x r ih=>
   by_cases H:x=32
   .let(u,k,e,h):=ih
    apply(u,k+1,?_,h);rw[K8T,e,H,K9M,Zcl]
   apply((x::r).reverse,0,ϰB Zat Zw,λc h=>?_);rw[Zbs]at h;cases h;show H
 let:=go t.reverse;rw[Zbs]at this;show this
def sS(t:Ó):Str:=⟨t.toArray⟩
theorem bj(t:Ó):cs ŕ=t:=by simp[cs,sS]
def blk:Str:=è " "
theorem vX:blk=϶5:=ç
theorem kG(t:Ó):∃u:Ó,ϭ1 ŕ=ϷO/\(∀c,u.reverse.head?=ã->ϳH)/\(∀b,paL (Zx u) b=paL ϷT b)/\u.length<=t.length/\∀c∈u,c∈t:=by
 let(u,k,e,h):=rV t;apply(u,?_,h,ύE,ϐn,ϴp (ϵ1 (ϰX hc)))
 .let s:ŕ=ϷO++sS (η 32):=by
   apply gA;rw[iW];change cs ŕ=cs ϷO++Ϻh (η 32);rw[bj,bj,bj,e]
  rw[s];delta Txt.rstripChars;apply Ex ϲk ϲk
  .let hc:c∈Ϻh (η 32):=hc
   rw[bj]at hc;let:=(Ϥk hc);rw[vX,this];decide+kernel
  let hc:ϐD ϷO=ã:=hc;rw[bj]at hc;let:=ϨT;rw[vX,<-Zci,Array.contains_iff_mem];simp;show this
 rw[e,CJ,Ao,BE,Zw]
theorem Pw{D0:Int}{O:À Ol}{s L T:À Int}(h:IsSt D0 O s L T){p q:Nat}(H:p<q)(Q:q<O.length):gv T p+ϳ4 p q<=gv T q:=by
 let e:=(h.isE.2 q Á Q).1 p H;let l:=(h.isL.2 p Á).1 q H Q;rw[h.eq p Á,h.eq q Q];lia
theorem NJ{D0:Int}{a b:Ol}{l:Nat}{p q:ϲZ}(h:a[l]?=ϳc)(H:b[l]?=Â q):p.2+ϵ9-q.1<=ϴR a b:=by rw[A0];let hg:=MV (D0:=D0) h H;let M:=Ts hg;show(dS λz=>by rw[z]at M;cases M).2 _ M
theorem sub_lt{T:À Nd}{c:F}(p:ϳd){j a b x y l m:Nat}(A:a∈é)(H:b∈é)(h:a<b)(X:Dn T a l x)(Y:Dn T b m y):x<y:=by
 let he:=ϲa;let(d,w):=aM.mp A;let(B,e):=aM.mp H;let J:=(ϲv A).1;let(s,Q,i,k,q):=OU p d;let f:=JV he q (L0 a) Á X;let g:=(yz he B Y).2.1;let:¬b<=a+s:=λz=>by
  let:=k b h z;rw[e]at this;lia
 lia
theorem Lh{T:À Nd}{c:F}(p:ϳd)(D0:Int)(l:ϰw):∀(L j x y:Nat),ϴH->ϻY L x->ϻY L y->x<y->ο x+256*(ϱZ x+ϱZ y+D0+1)<=ο y
 |0,j,x,y,_,h,Y,hxy=>by
  let h:x=j:=h;let Y:y=j:=Y;lia
 |L+1,j,x,y,hj,⟨a,ha,h⟩,⟨b,hb,Y⟩,hxy=>by
  let he:=ϲa;let H:=϶9;by_cases A:a=b
  .subst A
   show Lh p D0 l L a x y (aM.mp ha).1 h Y hxy
  .let lt:a<b:=by
    rcases Zdz a b with z|z
    .exact z
    .let:=sub_lt p hb ha Á Y h
     lia
   let(u,U,e):=Zap ha;let(v,V,ev):=Zap hb;let G:é[u]?=ϴW:=ϩs (Rw U)
   let w:é[v]?=ż:=ϰB (Rw V) ev
   let q:u<v:=by
    rcases Zau u v with z|z|z
    .exact z
    .subst z
     rw[e]at ev;show Đ ev A
    .let:=ϬZ (Fu T j) v u V U z
     rw[e,ev]at this;lia
   let hc:é≠[]:=λz=>by rw[z]at ha;cases ha
   let o:=ϫM H l hc;obtain⟨⟨s,t,S⟩,_⟩:=Ϫt o;let ol:Ã ŭ=Ã é:=I4 _;let k:=Pw S q Á;let d:=(aM.mp ha).1;let B:=(aM.mp hb).1;let m:=vT D0 he H l (T.length-a) a Á d;let O:=vT D0 he H l (T.length-b) b Á B;let n:L<Ã (Ŗ a):=(m.len L).mpr ⟨x,h⟩;let lb:L<Ã (Ŗ b):=(O.len L).mpr ⟨y,Y⟩;let ga:ϖm (Ŗ a):=Rw n;let g:ϖm (Ŗ b):=Rw lb;let f:=(m.hi L _ ga).2 x h;let i:=(O.lo L _ g).2 y Y;let D:dO D0 ŭ u v=ϴR (Ŗ a) (Ŗ b):=ϖM
   let r:=NJ (D0:=D0) ga g;rw[D]at k;let P:=ϹJ H l hj G;let C:=ϹJ H l hj w;lia
theorem zT{T:À Nd}(he:Ž)(a:ϲG){k:Nat}(K:š):Dn T 0 (ϰ3 k) k:=by
 let(l,d):=Ej he (j:=0) (s:=ϲj) Á (λq H b=>by
  obtain⟨n,h⟩:∃n,T[q]?=ŵ:=⟨T[q]' Á,Ø⟩
  rw[϶J];show(he q n h).2.1 H) k Á Á
 let:=(yz he a d).1;rw[Ly he a,K87]at this;rw[this];show d
theorem zm{T:À Nd}{c:F}(p:ϳd)(D0:Int)(l:ϰw){x y:Nat}(H:x<T.length)(Y:y<T.length)(h:x<y)(e:ϰ3 x=ϰ3 y):ο x+256*(ϱZ x+ϱZ y+D0+1)<=ο y:=by let he:=ϲa;let a:=϶9;let d:=zT he a H;let D:=zT he a Y;rw[<-e]at D;show Lh p D0 l _ 0 x y a d D h
theorem LF{T:À Nd}{j a:Nat}(h:a∈é):∃i,i<Ã é/\û é=ϴW:=by let(u,U,e):=Zap h;show(u,U,ϩs (Rw U))
theorem Fh{T:À Nd}{c:F}(p:ϳd)(D0:Int)(hg:ϴ5)(a:ϰw){j:Nat}(J:ϴH)(hc:é≠[]):
  ∃s l,IsSt D0 ŭ s l (ϰm ŭ)/\0<=ϳQ (Ã é-1)/\
   ∀i,i<Ã é->Τ (-ϳQ (Ã é-1)) (gv (ϰm ŭ) i) (ϳQ (Ã é-1)):=by
 let he:=ϲa;let h:=϶9;let O:=ϫM h a hc;obtain⟨⟨s,l,S⟩,_⟩:=Ϫt O;let ol:Ã ŭ=Ã é:=I4 _;let n:0<Ã é:=϶O hc;let Z:ϳQ 0=0:=S.isE.1;let f:ϲQ 0=0:=A4 Á S.isE S.isL rfl;let b:ϲQ (Ã é-1)=ϳQ (Ã é-1):=϶N S.isL.1 ol
 let E:=S.eq 0 Á;let e1:=S.eq (Ã é-1) Á;rw[ol]at E e1;rw[Z,f]at E;rw[b]at e1;let rise:∀u v,u<v->v<Ã é->gv (ϰm ŭ) u<=gv (ϰm ŭ) v:=by
  ext u v H V;let G:é[u]?=some é[u]:=Rw Á;let w:é[v]?=some é[v]:=Rw V;let m:é[u]∈é:=ϴk;let M:é[v]∈é:=ϴk;let lt:=ϬZ (Fu T j) u v Á V H;let g:=zm p D0 a (aM.mp m).1 (aM.mp M).1 lt (by rw[ϱ7 m,ϱ7 M]);let P:=ϹJ h a J G;let B:=ϹJ h a J w;let r:0<=ϱZ (é[u]):=ñ (EJ<|pJ (aM.mp m).1)
  let R:0<=ϱZ (é[v]):=ñ (EJ<|pJ (aM.mp M).1)
  lia
 let E0:0<=ϳQ (Ã é-1):=by
  rcases Zdz 1 (Ã é) with z|z
  .let:=rise 0 (Ã é-1) Á Á
   lia
  let e:Ã é-1=0:=Á
  rw[e,Z];lia
 apply(s,l,S,E0,ϸZ ?_);let A:gv (ϰm ŭ) 0<=gv (ϰm ŭ) i:=by
  rcases Zah i with z|z
  .rw[z]
   lia
  show rise 0 i z hi
 let d:gv (ϰm ŭ) i<=gv (ϰm ŭ) (Ã é-1):=by
  rcases Zdz i (Ã é-1)with z|z
  .exact rise i _ z Á
  let e:i=Ã é-1:=Á
  rw[e];lia
 lia
theorem Nn{ch:Nat->Ó}:∀f g:F,F.Con ch f->F.Con ch g->F.roots f=F.roots g->f=g:=by
 ext f
 induction f with
 |nil=>
  ext g _ _ h;cases g with|nil=>rfl|cons k c r=>cases h
 |cons k c r ih1 ih2=>
  ext g a hg h;cases g with
  |nil=>cases h
  |cons k' c' r'=>have H:k::F.roots r=k'::F.roots r':=h;let(e1,e):=K8C H;subst e1;let(A,w,x):=a;let(d,B,I):=hg;rw[ih1 c' w B<|A.symm.trans d,ih2 r' x I e]
theorem wR{T:À Nd}{c:F}(p:ϳd){j:Nat}(d:ϴH){f:F}(hc:F.Con Ϥe f)(hr:é=F.roots f):Ã (rM T j)=Ã ϳC+1:=by
 obtain⟨r,H⟩:∃n,T[j]?=ŵ:=⟨T[j]' Á,Ø⟩
 let(C,s,b,Q,l,q,I,J):=ύT Õ j Á Á;rw[K87]at l q;let ge:=F.C6 C ĺ Q ϖN;let at1:ϖi:=λk=>K85
 let a:Ã ϬT=s:=CO _ _ s (ñ K8y) (λk K x h=>by
  rw[at1]at h;let:=ge (j+1+k) (by rw[b,Zaq];lia)
  rw[϶J]at this;show Tl this) (λx h=>by
  rw[at1]at h;let L:=ϲE;let:=q L;rw[϶J]at this;show Pi Á)
 let B:rM T j=ϷC r.l r.t::(ϬT).map (L4 j):=by delta rM;rw[H]
 let e:f=C:=Nn f C hc I<|hr.symm.trans J;rw[B,Zo,I4,a,e,b,K93]
def szB(T:À Nd)(a:Nat):Nat:=(Ã (rM T a))
theorem Gw{T:À Nd}{j:F}(p:PT T j):∀f:F,F.Con Ϥe f->(∀k∈ϳC,š)->(Î (F.roots f) τ).sum=Ã ϳC:=by
 ext f
 induction f with
 |nil=>ext _ _;rfl
 |cons k c r _ ih2=>
  ext h H;let(a,b,d):=h;rw[F.pre]at H;rw[F.roots,F.pre,W1,Zal,Zo,S5,ih2 d λq m=>H q<|Ą<|ũ m];let:=wR p (H k Uf) b a;delta szB;lia
theorem Sk{T:À Nd}{c:F}(p:ϳd){j:Nat}(h:ϴH):(Î é τ).sum+1=τ j:=by
 let(C,s,b,Q,l,f,I,J):=ύT Õ j Á Á;rw[K87]at l;let B:=wR p h I J;let q:é=F.roots C:=J;rw[q,Gw p C I ϖN];show B.symm
def uS(D:ĭ):ĭ|0=>0|n+1=>uS D n+D n
theorem Gg{D:ĭ}(d:∀i,0<=D i):∀{a b:Nat},a<=b->uS D a<=uS D b:=by
 ext a b h
 induction b with
 |zero=>
  let:a=0:=Á
  subst this;show ϷI
 |succ b ih=>
  by_cases e:a=b+1
  .subst e;show ϷI
  let:=ih Á;let:=d b;change uS D a<=uS D b+D b;lia
theorem HJ{n:Nat}{d:Nat->ĭ}{e:ĭ}{D:ĭ}(h:όI)(H:∀i,0<=D i)(a:∀j k,j<k->k<n->d j k<=D j+D k):ϥP (e k<=2*uS D k+D k):=by
 ext k
 induction k using Nat.strongRecOn with
 |ind k ih=>
  ext K;rcases Zah k with z|z
  .subst z
   rw[h.1];let:=H 0;change 0<=2*0+D 0;lia
  let(j,J,E):=(h.2 k z K).2;let I:=ih j J Á;let f:=a j k J K;let b:=Gg H (ó<|j+1<=k);let c:uS D (j+1)=uS D j+D j:=rfl;lia
def Mq:ĭ|0=>0|n+1=>3*ϱB+7424
theorem Di:∀n,0<=ϱB
 |0=>Õ
 |n+1=>ϮC (Di n) (0<=3*ϱB+7424)
theorem sum_list{B:Int}(f:Ϩm)(L:Ó):uS (λi=>B*Ð (f Ϛx)+3712) L.length=B*Ð ϑN+3712*É L.length:=by
 let go:∀m,m<=L.length->uS (λi=>B*Ð (f Ϛx)+3712) m=B*Ð (Î (L.take m) f).sum+3712*Ι:=by
  ext m
  induction m with
  |zero=>ext _;rw[K7s];change É 0=B*0+3712*0;lia
  |succ m ih=>
   ext M;let e:L[m]?=Â (L[m]' Á):=Rw _;change uS _ m+(B*Ð (f (L[m]?.getD 0))+3712)=_;rw[ih Á,take_snoc e,Z6,Zbo,e];change B*Ð (Î (L.take m) f).sum+3712*Ι+(B*Ð (f L[m])+3712)=B*Ð ((Î (L.take m) f).sum+(f L[m]+0))+3712*Ð (m+1);rw[Zcc,Int.mul_add,Zav];lia
 let:=go L.length ß;rw[K8D]at this;show this
theorem Pr{f:Ϩm}:∀{L:Ó}{a:Nat},a∈L->f a<=ϑN:=by
 ext L
 induction L with
 |nil=>ext a h;cases h
 |cons b L ih=>
  ext a h;rw[W1,Zal];rcases Z7.mp h with rfl|h
  .lia
  let:=ih h;lia
theorem N5:∀{L:Ó},(∀a∈L,1<=f a)->ύA ϑN:=by
 ext L
 induction L with
 |nil=>ext _;show ß
 |cons b L ih=>
  ext h;rw[W1,Zal,Zo];let:=h b Uf;let:=ih λa m=>h a<|Ą m;lia
theorem Xh{T:À Nd}{c:F}(p:ϳd)(D0:Int)(hg:ϴ5)(O:ţ)(h:ϰw)(hr:∀k,š->ϱZ k<=4):∀n L j x,ϰ3 j+n=8->ϴH->Dp T 8->ϻY L x->Τ (-(ϱB*É (τ j))) (ο x-ο j) (ϱB*É (τ j)):=by
 let he:=ϲa;let e:=϶9;ext n
 induction n with
 |zero=>
  ext L j x Q J f H;cases L with
  |zero=>
   let H:x=j:=H;rw[H];change -(0*_)<=_/\_<=É 0*_;rw[Int.zero_mul];lia
  |succ L=>
   let(a,A,_):=H;let:=ϱ7 A;let:=f a (aM.mp A).1;lia
 |succ n ih=>
  ext L j x Q J f H;let mp:=Di n;let P:=Di<|n+1;let cs:=Sk p J;let pz:∀q,0<=ϱB*Ð (τ q):=λq=>Zdl mp Á;let pz1:0<=ύs*Ð (τ j):=Zdl P Á;cases L with
  |zero=>
   let H:x=j:=H;rw[H];lia
  |succ L=>
   let(a,A,H):=H;let hc:é≠[]:=λz=>by rw[z]at A;cases A
   let(es,ls,S,E0,W):=Fh p D0 hg h J hc;let ol:Ã ŭ=Ã é:=I4 _;let(i,hi,gi):=LF A;let la:=ϱ7 A;let i1:=ih L a x Á (aM.mp A).1 f H;let pa:=ϹJ e h J gi;let r:∀i,É 0<=(λi:Nat=>ϱB*Ð (τ (ϻD é 0))+3712) i:=λi=>ϮC (pz<|ϻD é 0) (0<=ϱB*Ð (τ (ϻD é 0))+3712)
   let dl:∀u v,u<v->v<Ã ŭ->dO D0 ŭ u v<=(λi:Nat=>ϱB*Ð (τ (ϻD é 0))+3712) u+(λi:Nat=>ϱB*Ð (τ (ϻD é 0))+3712) v:=by
    ext u v Z V;rw[ol]at V;let G:é[u]?=some é[u]:=Rw Á;let w:é[v]?=some é[v]:=Rw V;let U:é[u]∈é:=ϴk;let t:é[v]∈é:=ϴk;let l:=(aM.mp U).1;let o:=(aM.mp t).1;let oa:=ϕB (é[u]) Á l;let ob:=ϕB (é[v]) Á o;let I:dO D0 ŭ u v=ϴR (Ŗ<|é[u]) (Ŗ<|é[v]):=ϖM
    rw[I,A0];let l1:=(A6 D0 he e h l).1;let l2:=(A6 D0 he e h o).1;let(y,ys,Y):=IP (D0:=D0) l1 l2;let g:=(dS (xs:=ask D0 (Ŗ<|é[u])<|Ŗ (é[v]))<|ϒI ϲI).1;generalize nz (ask D0 (Ŗ<|é[u])<|Ŗ (é[v]))=M at g;delta ask at g;let(z,hz,rfl):=Β g;let(q,R,eq):=Zap hz;rw[Zay]at R;rw[List.getElem_zip]at eq;let g1:(Ŗ<|é[u])[q]?=Â z.1:=by rw[Rw Á,<-eq]
    let g2:(Ŗ<|é[v])[q]?=Â z.2:=by rw[Rw Á,<-eq]
    let(X,d,ex1):=(oa.hi q _ g1).1;let(C,D,ex2):=(ob.lo q _ g2).1;let k1:=ih q _ X (ñ<|ϱ7 U) l f d;let k2:=ih q _ C (ñ<|ϱ7 t) o f D;let r1:=hr X (yz he l d).2.2;let r2:=hr C (yz he o D).2.2;change _<=(ϱB*Ð (τ (é[u]?.getD 0))+3712)+(ϱB*Ð (τ (é[v]?.getD 0))+3712)
    rw[G,w];change _<=(ϱB*Ð (τ (é[u]))+3712)+(ϱB*Ð (τ (é[v]))+3712)
    lia
   let K:=HJ S.isE r dl (Ã é-1) (ñ ol);let hS:=sum_list (B:=ϱB) τ é;let s:uS (λi:Nat=>ϱB*Ð (τ (ϻD é 0))+3712) (Ã é)=uS (λi:Nat=>ϱB*Ð (τ (ϻD é 0))+3712) (Ã é-1)+(λi:Nat=>ϱB*Ð (τ (ϻD é 0))+3712) (Ã é-1):=by
    obtain⟨m,g⟩:∃m,Ã é=m+1:=⟨Ã é-1,Á⟩
    rw[g,K8J];rfl
   let E:=r<|Ã é-1;let s1:=W i hi;let ml:Ã é<=(Î é τ).sum:=N5 λb N=>(zx (aM.mp N).1).1;let ma:τ a<=(Î é τ).sum:=Pr A;let q1:ϱB*Ð (τ a)<=ϱB*Ð (Î é τ).sum:=Zcj Á mp;let q2:ύs*Ð (τ j)=3*(ϱB*Ð (Î é τ).sum)+7424*Ð (Î é τ).sum+ύs:=by
    rw[<-cs,Zcc,Int.mul_add];change(3*ϱB+7424)*_+_*1=_;rw[Zea,Zdt];change _+_+ύs*1=_;lia
   dsimp only at K s E;lia
def cN(T:À Nd)(D0:Int)(k:Nat):Nat:=(ā (Ϫg / 256))
def rL(T:À Nd)(k:Nat):Nat:=ϱt ϳa / 2
theorem iI{ts:À Nd}{k:Nat}(h:ċ):gv ϥT k=Ð ϰg:=by
 delta gv cy rL au;rw[Oe,ϴ9];change(É ((ϱt (ts[k]))) / 2)=_;rfl
theorem gL{T:À Nd}{k:Nat}(h:š):ϳa∈T:=by delta au;rw[ϴ9];show Zae h
structure CF(ts:À Nd)(D0:Int):Prop where
 at_:∀k,ċ->gv ϪV k / 256=Ð (Þ k)
 lo:∀k,ċ->ϰg<=Þ k
 ap:∀x y,ϪQ->y<ts.length->x<y->ĵ x=ĵ y->Þ x+ϵK x+ϵK y+2<=Þ y
 hi:∀k,ċ->ϥ5 (Þ k)
theorem fE{T:À Nd}(he:Ž)(a:ϲG):ϰ3 0=0:=by obtain⟨n,h⟩:∃n,T[0]?=ŵ:=ϴ7 (Rw a);delta Wp;rw[ku h];delta dh;rw[ϙQ];rfl
theorem M9{T:À Nd}{c:F}(p:ϳd)(B:Lb T)(D:Dp T 8)(L:T.length<=40)(D0:Int)(g1:ř)(g2:ţ):CF T D0:=by
 let he:=ϲa;let H:=϶9;let r:∀k,š->rL T k<=4:=λk h=>by
  let:=(B _<|gL h).2.1;delta rL;lia
 let le:Ć T.length (λk=>ο k-256*ϱZ k)≠[]:=λz=>by
  let:=Ŧ z;rw[I4,Z1,K8U]at this;lia
 let ms:=mM le;let lst:∀k,š->ϥt<=ο k-256*ϱZ k:=ϳh (ms.2 _<|ϱ6 ⟨k,Zl.mpr h,rfl⟩);obtain⟨k0,K,E⟩:∃k,š/\ϥt=ο k-256*ϱZ k:=by let(k,h,e):=Β ms.1;show(k,ϨL,e.symm)
 let a:∀k,š->Τ (-974028800) (ο k) 974028800:=λk h=>by
  let f:=Xh p D0 Á g2 Á (λq Q=>by rw[iI Q];let:=r q Q;lia) 8 (ϰ3 k) 0 k (ϱ8<|fE he H) H D<|zT he H h;let sz:τ 0<=40:=by
   let:=(zx H).2;delta szB;lia
  let m:Mq 8=24350720:=ç
  rw[m,tE]at f;let:É 24350720*Ð (τ 0)<=24350720*40:=Zcj Á Õ;lia
 let dk:∀k,š->Ϫg=ο k-ϥt:=ϳh (pf H h);let nn:∀k,š->256*Ð (rL T k)<=Ϫg:=λk h=>by
  let:=lst k h;rw[iI h]at this;rw[dk k h];lia
 let ca:∀k,š->Ϫg / 256=Ð (ϱe k):=λk h=>by
  let:=nn k h;delta cN;lia
 apply(ca,ϳh ?_,λx y X Y i l=>?_,ϳh ?_)
 .let b:=nn k h
  let d:=ca k h;lia
 .let b:=zm p D0 Á X Y i l
  rw[iI X,iI Y]at b;let d:=ca x X;let g:=ca y Y;rw[dk x X]at d;rw[dk y Y]at g;lia
 let b:=a k h;let d:=a k0 K;let g:=ca k h;rw[dk k h]at g;rw[iI K]at E;let:=r k0 K;lia
theorem HR{c:Nat}(h:c<=9000000):Γ PadOk ϶t:=by
 delta PadOk fitsSsize;rw[K9U];apply(?_,?_)
 .simp
  lia
 rw[K9n,Zbq]
 delta Builtin.Str.tooLong;show Pi (by
  let:Ĕ (ϰC 9000000):=ç
  lia)
set_option tactic.hygienic true in
theorem Kp(x:Str)(c:Nat):cs (Txt.ljust x ϶t)=ϴs++ŗ (c-Ã ϴs) 32:=by
 delta Txt.ljust;let a:x.length=Ã ϴs:=aU x;split
 .rename_i h
  rw[ó (c-Ã ϴs=0),Zat,Zw]
 delta cs;change Ϩp (Array.replicate 0 32++x.cps++Array.replicate (ā (c:Int)-x.length) 32);rw[K9n,a];simp[cs]
theorem Cz:∀(r:À Pt)(n c:Nat)(w:Str),goP n ϮX->Y3 n ϮX=ϹU++(ŗ (c-(n+Ã ϹU)) 32++â)/\n+Ã ϹU<=c:=by
 ext r
 induction r with
 |nil=>
  ext n c w h;let H:n<=c:=h.1;apply(?_,H);change ŗ (c-n) 32++(â++[])=_;rw[Zw];rfl
 |cons x r ih=>
  ext n c w h;let(c1,W):=x;let H:n<=c1:=h.1;let f:goP (c1+Ã (cs W)+1) ϮX:=Ϧg;let a:goP (c1+Ã (cs W)) ϮX:=by
   cases r with
   |nil=>show(þ f.1,f.2)
   |cons y r=>show(þ f.1,f.2)
  let(e1,g):=Ϻm c w a;let ln:Ã (Y3 n<|(c1,W)::r)=(c1-n)+(Ã (cs W)+Ã (Y3 (c1+Ã (cs W)) r)):=by rw[Y3c,S5,K8r,S5]
  apply(?_,ñ ln);rw[K92,Y3c,e1,ln,Y3c,ó (n+(c1-n+(Ã (cs W)+Ã (Y3 (c1+Ã (cs W)) r)))=c1+Ã (cs W)+Ã (Y3 (c1+Ã (cs W)) r))];simp only[K9M]
theorem Mi:∀(r:À Pt)(n i:Nat),ϨK->goP n ϲ1:=by
 ext r
 induction r with
 |nil=>ext n i h;rw[List.take_nil];show h
 |cons x r ih=>
  ext n i h;cases i with|zero=>show trivial|succ i=>show(h.1,h.2.1,Ϻm i Ϧg)
def S3(p:À Pt):Str:=ϭ1 (sS<|ĥ p)
theorem A1(p:À Pt)(h:goP 0 p)(f:∀x∈p,ϻV (x.1+Ã đ))(j:ϲ6 (Ã (ĥ p))):n9 [Ö<|p.map ptD]=Ý (Æ ϰ1):=by
 delta n9 AL;simp![Y2];generalize l:Ŋ=r;apply Ϫh (∃V E:Ú OD,a=[ì<|p.map ptD,æ<|Æ<|sS<|ĥ Ϥ3,V,E]) ϸb
 .rintro i d a hd ⟨V,E,rfl⟩
  rw[Oe]at hd;obtain⟨⟨c,w⟩,H,rfl⟩:=ϲ3;let tk:ϒe=Ϥ3++[(c,w)]:=ϪR;let g1:=Mi p 0 (i+1) h;rw[tk]at g1;let(e1,g):=Cz _ 0 c w g1;rw[K87]at e1 g;let B:=f (c,w) ϶F;let k:=HR (c:=c) (by let:=B;dsimp only at this;lia);let n:Ϩ2 (sS<|ĥ Ϥ3) ϶t++w=sS (ĥ ϒe):=by
   apply gA;rw[iW];change cs (Ϩ2 (sS<|ĥ Ϥ3) ϶t)++â=Ϻh (ĥ ϒe);rw[Kp,bj,bj,tk,e1,K9M]
  let L:Ã (Ϩ2 (sS<|ĥ Ϥ3) ϶t)=c:=by
   rw[aU];change Ã (cs<|Ϩ2 (sS<|ĥ Ϥ3) ϶t)=c;rw[Kp,bj,S5,K8r];lia
  let b:ü (Ã (Ϩ2 (sS<|ĥ Ϥ3) ϶t)+w.length):=eq_true (by
   rw[L,aU w];let e:=B;dsimp only at e;let:ϰC 8990000<=H6:=ç
   change c+Ã â<=H6
   lia)
  delta ptD;simp![Wh,V1 k,Ig,b,n];show(_,_,rfl)
 ext ρ' rfl ⟨V,E,rfl⟩
 rw[I4,K90 ß];let b:ü (Ã (sS<|ĥ p)):=eq_true (by
  rw[aU];change Ã (Ϻh<|ĥ p)<=H6;rw[bj];let:ϰC 9000000<=H6:=ç
  lia)
 simp![uZ,u_,uV,b,RG];rfl
theorem JA:∀{a b:À Pt},ϲn a.map (λx=>(x.1,đ)) b.map->a=b:=by
 ext a
 induction a with
 |nil=>
  ext b h;cases b with|nil=>rfl|cons y b=>cases h
 |cons x a ih=>
  ext b h;cases b with
  |nil=>cases h
  |cons y b=>
   let(H,d):=Ϥd;let(c,w):=x;let(G,W):=y;injection H with e1 g
   let g:w=W:=gA g;rw[ń (c=G) e1,g,ih d]
structure Zn(ps:À Pt):Prop where
 go:goP 0 ps
 bd:∀x∈ps,ϻV (x.1+Ã đ)
 ln:ϲ6 (Ã (ĥ ps))
 asc:∀x∈ps,ϱI đ
theorem xf{s:À Pt}(h:Zn s):∃u,ϲP=ϷO/\(∀c,u.reverse.head?=ã->ϳH)/\ϷR (ύJ ϲP blk)=s.filter nbP/\ϲ6 u.length/\∀c∈u,c<128:=by
 let(u,e,a,b,f,d):=kG<|ĥ s;let asc:∀(r:À Pt)(n:Nat),(∀x∈r,ϱI đ)->ϱI ϹU:=by
  ext r
  induction r with
  |nil=>ext n _ c hc;cases hc
  |cons x r ih=>
   ext n H c hc;let(c1,w):=x;rw[Y3c]at hc;rcases Y7.mp hc with hc|hc
   .rw[(Ϥk hc)]
    decide
   rcases Y7.mp hc with hc|hc
   .exact H (c1,w) Uf c hc
   show Ϻm (λy m=>H y<|Ą m) c hc
 apply(u,e,a,?_,þ h.ln,ϴp (asc s 0 h.asc c<|d c hc));apply JA;rw[Qp];let g:Î (ύJ ϲP blk) cs=Zx u:=by
  let:=Be ϲP;rw[vX];change Î (ύJ ϲP ϶5) ϏS=_;rw[this];change Zx (cs ϲP)=_;let E:ϲP=ϷO:=e;rw[E,bj]
 rw[g,b,B1 _ _ h.go]
def eh(own:Nat)(bs:Ó)(c:Nat):Nat:=Ì (c=own) (Ì ϥG 35 94) (Ì ϥG 43 45)
def bD(bs:Ó):Nat:=ę (bs[0]?) 0
def gj(bs:Ó):Nat:=ę (bs[bs.length-1]?) 0
def jS(own:Nat)(bs:Ó):Ó:=Ć (ϷL+1-Ņ) λi=>ϰO<|Ņ+i
def chS(c:Nat):Str:=Š
theorem kq(t:Ó)(c:Nat):ŕ++chS c=sS ύG:=by
 apply gA;rw[iW];change cs ŕ++[c]=Ϻh ύG;rw[bj,bj]
theorem JB{bs:Ó}(h:bs≠[]):Y9 Ϭb (É 0)=Â (Ä (Ð Ņ)):=by let p:=ώ5;show bZ (j:=0) (Lm (i:=0) (k:=Ņ)<|ϱl bD (Rw p))
theorem Uk{bs:Ó}(h:bs≠[]):ϻW Ϭb=Â (Ä (Ð ϷL)):=by
 let p:=ώ5;let:=Aq (ls:=iL bs) (n:=bs.length) (Ň iL I4) p;delta nD;rw[this];delta gv iL gj;rw[Oe,Rw<|ó (bs.length-1<bs.length)];rfl
theorem Sb{bs:Ó}{c:Nat}:Ë (϶t∈iL bs)=Ë ϥG:=by
 let:϶t∈iL bs↔ϥG:=by
  delta iL;constructor
  .intro h
   let(a,H,b):=ϹR;let:a=c:=Á
   rw[<-this];show H
  ext h;show ϱ6 ⟨c,h,rfl⟩
 simp only[this]
theorem V6(bs:Ó)(c:Nat):ϫf (Ä ϶t) (Ö Ϭb)=Ý (í<|Ë ϥG):=by delta nD;rw[QW,<-Sb];rfl
theorem AR(own:Nat)(bs:Ó)(h:bs≠[])(b:ϥ5 ϷL)(F:ϥ5 Ņ):gU [Ä (É own),Ö Ϭb]=Ý (Æ<|sS ϤN):=by
 delta gU ni;let f:=JB h;let L:=Uk h;let S:ě (aD (Ð Ņ)&&aD (ϰC ϷL+1:Int)):=ϲ5 (θ Á) (θ Á)
 let H:ā (É ϷL+1-É Ņ)=ϷL+1-Ņ:=Á
 simp![f,L,S];generalize l:Ŋ=r;apply Ϫh (∃E:Ú OD,a=[æ<|Ä (É own),ì Ϭb,æ<|Æ<|sS<|Î ϶u λi=>ϰO<|Ņ+i,E]) ι
 .rintro i d a hd ⟨E,rfl⟩
  let(hi,rfl):=ϷK;rw[H]at hi;let x:Ð Ņ+Ċ=Ð (Ņ+i):=Á
  rw[x];let n:=V6 bs<|Ņ+i;let nx:Ć (i+1) (λi=>ϰO<|Ņ+i)=Î ϶u (λi=>ϰO<|Ņ+i)++[ϰO<|Ņ+i]:=ϲ5 K8A Z6
  rw[nx];let lb:∀c:Nat,ü (Ã (sS<|Î ϶u λi=>ϰO<|Ņ+i)+Ã (chS c)):=λc=>eq_true (by
   rw[aU,aU];change Ã (Ϻh _)+1<=H6;rw[bj,I4,Z1];let:ϰC 8000003<=H6:=ç
   lia)
  let c1:è "#"=chS 35:=ç
  let K:è "^"=chS 94:=ç
  let k:è "+"=chS 43:=ç
  let C:è "-"=chS 45:=ç
  by_cases j:Ņ+i=own
  .let D:Ë (Ð (Ņ+i)=É own)=true:=Tl Á
   by_cases M:Ņ+i∈bs
   .let e:ϰO (Ņ+i)=35:=ν eh (Os j) (Os M)
    rw[e];simp![D,n,Tl M,c1,AQ,lb,kq];show(_,rfl)
   let e:ϰO (Ņ+i)=94:=ν eh (Os j) (P3 M)
   rw[e];simp![D,n,Pi M,K,AQ,lb,kq];show(_,rfl)
  let D:å (Ë (Ð (Ņ+i)=É own)):=Pi Á;by_cases M:Ņ+i∈bs
  .let e:ϰO (Ņ+i)=43:=ν eh (P3 j) (Os M)
   rw[e];simp![D,n,Tl M,k,AQ,lb,kq];show(_,rfl)
  let e:ϰO (Ņ+i)=45:=ν eh (P3 j) (P3 M)
  rw[e];simp![D,n,Pi M,C,AQ,lb,kq];show(_,rfl)
 ext ρ' rfl ⟨E,rfl⟩;rw[fI,H];simp![Y2];rfl
def cL(T:À Nd)(D0:Int):Ó:=Ć T.length ϱe
theorem EK{T:À Nd}{D0:Int}{k:Nat}(h:š):Y9 (nD<|cL T D0) á=Â (Ä (Ð (ϱe k))):=bZ (Lm<|ϰM cL Oe ϸV)
theorem tP{T:À Nd}{k:Nat}(h:š):Y9 Ľ á=Â (ä [Ä (ϳa).e,Æ (ϳa).l,Ä (ϳa).t]):=p9<|pJ h
def bp(T:À Nd)(D0:Int)(r:Ó):À Pt:=ϳz (ϱe k-rL T k,(ϳa).l)
def sgS(T:À Nd)(k i:Nat):Str:=Ì (Ċ<(ϳa).t) (chS 58) (Ì (Ĭ=[]) Ϭj (chS 124))
def eg(T:À Nd)(D0:Int)(r:Ó)(i:Nat):À Pt:=ϳz (ϱe k,sgS T k i)
def aR(T:À Nd)(D0:Int)(k:Nat):Ó:=Î Ĭ ϱe
def nv(T:À Nd)(D0:Int)(k:Nat):Pt:=(bD ϪY,sS<|jS (ϱe k) ϪY)
def cP(T:À Nd)(r:Ó):Ó:=r.filter λk=>Ë<|É 0<É ((Ã Ĭ))
def d8(T:À Nd)(D0:Int)(r:Ó):À Pt:=Î ϩg<|nv T D0
def tlM(T:À Nd)(r:Ó):Int:=nz<|ϳz (ϳa).t
theorem nW(r:Ó):ϷG=ϳn ((Ģ (int á))):=by delta nD iL;rw[Tk];rfl
section
variable{ts:À Nd}{D0:Int}{r:Ó}
theorem Nu(C:Ĝ)(B:ϴl)(a:ϱo 100)(hr:϶B ċ)(R:Ϫr)(ok:Zn ħ):ia [Ö Μ,Ö ϸc,Ö ϷG]=Ý (Æ<|S3 ħ):=by
 delta ia nZ;let re:=rO ts (λn H=>þ (B n H).2.1) a;let s:ϰH (Î ϥT λz=>ë<|Ä z) (Î ϥT int):=Ù Tk Ϧ9
 simp![re,s];generalize c:Ů=rc
 let e:=cU c (Ģ<|int á) (λk=>.sh<|ptD (Þ k-ϰg,(ô).l)) r (nW r) (Ş Á) (by
  ext k h;let h:=ϥH;let A:=ϮK h;let w:Y9 (Î ϥT int) á=Â (Ä (Ð ϰg)):=ϰ9 (iI h) (xa (by delta cy;rw[I4];show h))
  let x:=tP h;let o:=όd h;let L:Ð (Þ k)-Ð ϰg=Ð (Þ k-ϰg):=Á
  delta ptD;simp![A,w,x,L])
 subst e;let em:ϰH (ϳz<|ë<|ptD (Þ k-ϰg,(ô).l)) (Î ħ ptD):=ϬK bp
 let o:=ϘE;simp![em,o]
theorem MY(l:ϱo 100){k i:Nat}(K:ċ):iZ [Ö Μ,Ä á,Ä Ċ]=Ý (Æ<|ϪD i):=by
 delta iZ my;let x:=tP K;let c:=lN ts k K l;delta sgS;let c1:è ":"=chS 58:=ç
 let C:è "|"=chS 124:=ç
 let a:è " "=Ϭj:=ç
 by_cases h:Ċ<(ô).t
 .rw[Ÿ]
  simp![x,Tl h,c1]
 rw[χ];by_cases H:Ě=[]
 .let d:å (Ë (É 0<É ((Ã Ě)))):=Pi (by rw[H];decide)
  rw[ϱh];simp![x,Pi h,c,dM,dN,d,a]
 let d:Ë (É 0<É ((Ã Ě)))=true:=Tl (þ ϗC);rw[ϱz];simp![x,Pi h,c,dM,dN,d,C]
theorem NH(hr:϶B ċ)(R:Ϫr)(n:ϳG):∀(g:Fe)(a:L3.Env),g a=Ď (ϳz (ë<|Ä (ô).t))->ϸs (Ő g) a=Ý (Ä Ϥ7):=λg a hg=>by
 let em:ϰH (ϳz<|ë<|Ä (ô).t) ((ϳz (ô).t).map int):=ϱq Tk Tk Ϧ9
 let X:=mP (xs:=ϳz (ô).t) (όM<|n ϳX);simp![hg,em,X];rfl
theorem xG(l:∀k,ċ->Τ 1 (ô).t 9)(hr:϶B ċ)(n:ϳG):Τ 1 Ϥ7 9:=by
 let:=(dS (xs:=ϳz (ô).t)<|όM (n ϳX)).1;let(k,h,e):=Β this;delta tlM;rw[<-e];show l k ϥH
theorem C4(C:Ĝ)(a:ϱo 100)(l:∀k,ċ->Τ 1 (ô).t 9)(hr:϶B ċ)(R:Ϫr)(n:ϳG)(ok:∀i,i<=9->Zn (Ε i)):
  i8 [Ö Μ,Ö ϸc,Ö ϷG]=Ď (Ć ϳY λi=>OD.sh<|Æ<|S3<|Ε<|i+1):=by
 delta i8 lT;let m:=xG l hr n;let j:ϸs (ae (Η de ŏ cO (Ż (Ò Rg 1 ð)<|Ê 2) 1 [0]) ah) [ì Μ,ì ϸc,ì ϷG,none]=Ý (Ä Ϥ7):=by
  apply NH hr R n _ _ ?_;simp![Y2];generalize w:Ů=rc;let e:=cU w (Ģ<|int á) (λk=>.sh<|Ä (ô).t) r (nW r) (Ş Á) (by ext k h;let x:=tP ϥH;simp![x]);subst e;simp![Y2]
 let S:ě (aD (É 1)&&aD Ϥ7):=ϲ5 (θ Á) (θ Á)
 simp![↓j,S];generalize w:Ů=rc
 let e:=cU w (λi:Nat=>int<|1+Ċ) (λi=>OD.sh<|Æ<|S3<|Ε<|i+1) (ŷ ϳY) rfl (Ù Z1<|Ş Á) (by
  ext i hi;rw[Zl]at hi;rw[ó (É 1+Ċ=Ð (i+1))];let K:=ok (i+1) Á;let o:=A1 _ K.go K.bd K.ln;simp![Y2];generalize c:Ů=rc2;let g:=cU c (Ģ<|int á) (λk=>.sh<|ptD (Þ k,ϪD<|i+1)) r (nW r) (Ş Á) (by ext k h;let A:=ϮK ϥH;let s:=MY (i:=i+1) a ϥH;delta ptD;simp![A,s]);subst g;let em:ϰH (ϳz<|ë<|ptD (Þ k,ϪD<|i+1)) ((Ε<|i+1).map ptD):=ϬK eg
  simp![em,o])
 subst e;simp![Y2]
theorem Qm(C:Ĝ)(a:ϱo 100){k:Nat}(h:ċ)(hc:Ě≠[]):ϥ5 (bD (ĉ k))/\ϥ5 (gj (ĉ k)):=by
 let p:=϶O hc;let le:∀i,i<Ã Ě->ϥ5 (ę (û<|ĉ k) 0):=ϸZ (by delta aR;rw[Oe,ϲO];show C.hi _ (aM.mp<|Zae hi).1)
 let L:Ã (ĉ k)=Ã Ě:=Ň aR I4
 show(le 0 p,by delta gj;rw[L];show le _ Á)
theorem Iy{k:Nat}(hc:Ě≠[]):ĉ k≠[]:=λz=>hc ϳX
theorem TN(k:Nat):ϰH (Î Ě λj=>ë<|Ä (Ð (Þ j))) (nD (ĉ k)):=by delta aR nD iL;rw[Tk,Tk,Tk];show Ϧ9
theorem QZ(C:Ĝ)(a:ϱo 100)(hr:϶B ċ)(R:Ϫr)(ok:Zn ϰa):
  lp [Ö Μ,Ö ϸc,Ö<|nD ś]=Ý (Æ<|S3 ϰa):=by
 delta lp rX;let E:Ã ś<=100:=Ϥ6 K8i _ R;let em:∀k∈ś,ċ/\Ě≠[]:=ϳh (by let(f,H):=K89.mp h;show(hr k f,λz=>by rw[z]at H;show ϙq Õ))
 simp![Y2];generalize L:Ŋ=rr;apply Ϸf (λi b=>∃V v:Ú OD,b=[ì Μ,ì ϸc,ì<|nD ś,ō<|Î (ý ś i) λk=>ë<|ptD ϸi,V,v]) ϸb
 .rintro i d b hd ⟨V,v,rfl⟩
  rw[nW,Oe]at hd;let(k,x,rfl):=ϲ3;let(h,hc):=em k<|Ts x;let c:=lN ts k h a;let cl:=CZ ts k;let c1:Η de (ϤW<|Ï 0<|Ï 4 ah) cO (Ò Rg 1 ð) 1 [1] [ì Μ,ì ϸc,ì<|nD ś,ō<|Î (ý ś i) λk=>ë<|ptD ϸi,æ<|Ä á,v]=Ď (Î Ě λj=>ë<|Ä (Ð (Þ j))):=by
   simp![c,dM];generalize w:Ů=rc;let e:=cU w (Ģ<|int á) (λj=>.sh<|Ä (Ð (Þ j))) Ě (nW _) (Ş Á) (by ext j J;let A:=ϮK ϯB;simp![A]);subst e;simp![Y2]
  let be:=TN (ts:=ts) (D0:=D0) k;let U:=JB<|Iy (D0:=D0) hc;let a0:=ϮK h;let(X,m):=Qm C a h hc;let bs:=AR (Þ k) (ĉ k) (Iy hc) m X;let I:Ã (ý ś i)<=100:=ñ Zk
  let lb:ϰT (Ã (Î (ý ś i) λk=>ë<|ptD ϸi)):=Ù I4 (d9 Á)
  let l:ϰT (Ã (ý ś i)):=d9 Á;let tk:ý ś (i+1)=ý ś i++[k]:=take_snoc x;let ap:(Î (ý ś i) λk=>ë<|ptD ϸi)++[ë<|ä [Ä (Ð (bD (ĉ k))),Æ<|sS<|jS (Þ k)<|ĉ k]]=Î (ý ś i++[k]) λk=>ë (ptD ϸi):=ϱJ Z6
  rw[tk];simp![↓c1,be,U,a0,bs,l,ap];show(_,_,rfl)
 ext ρ' rfl ⟨V,v,rfl⟩;rw[dN,K90 ß];let g:ϰH (Î ś λk=>ë<|ptD ϸi) (Î ϰa ptD):=ϬK d8
 let o:=ϘE;simp![g,o]
end
theorem Jl:∀(L:À Pt)(n:Nat),(ϥ8<|n<=x.1/\okW x.2)->L.Pairwise (λx y=>x.1+Ã đ+1<=y.1)->goP n L:=by
 ext L
 induction L with|nil=>ext n _ _;show trivial|cons x L ih=>ext n h p;let(c,w):=x;let(T,P):=Ϗk;let H:=h (c,w) Uf;show(H.1,H.2,Ϻm (λy Y=>⟨T y Y,(h y<|Ą Y).2⟩) P)
theorem Ph:∀(L:À Pt)(n M:Nat),n<=M->L.Pairwise (λx y=>x.1+Ã đ+1<=y.1)->(ϥ8<|n<=x.1/\x.1+Ã đ<=M)->n+Ã (Y3 n L)<=M:=by
 ext L
 induction L with
 |nil=>ext n M h _ _;show h
 |cons x L ih=>
  ext n M h p X;let(c,w):=x;let(T,P):=Ϗk;let H:=X (c,w) Uf;dsimp only at H T;let:=ih (c+Ã â) M H.2 P λy Y=>⟨þ (T y Y),(X y<|Ą Y).2⟩
  rw[Y3c,S5,K8r,S5];lia
theorem Dx{L:À Pt}(H:ϥ8 (okW x.2/\x.1+Ã đ<=8000100/\ϱI đ))(a:L.Pairwise (λx y=>x.1+Ã đ+1<=y.1)):Zn L:=by
 apply(Jl L 0 (λx h=>⟨Ν,(H x h).1⟩) a,λx h=>þ (H x h).2.1,?_,λx h=>(H x h).2.2);let:=Ph L 0 8000100 Ν a λx h=>⟨Ν,(H x h).2.1⟩
 lia
structure Lv(ts:À Nd)(r:Ó):Prop where
 lt:϶B ċ
 pw:ϭV
 lv:∃j,϶B (ĵ k=j)
section
variable{ts:À Nd}{D0:Int}{r:Ó}
theorem lE(C:Ĝ)(B:ϴl)(h:ϲL):Zn ħ:=by
 let(j,J):=h.lv;let L:∀k,ċ->Ã (ϲA ô)=ϱt ô:=λk _=>ϪS;apply Dx (λx b=>?_) ?_
 .let(k,H,rfl):=Zc.mp b
  let lb:=B _<|gL<|ϸB H;let c1:=ϪW<|ϸB H;apply(È ⟨ϴS,ϫ4⟩,?_,ϲk)
  .let:=L k<|ϸB H
   rw[z]at this;let:=lb.1;simp at*;lia
  .let:=lb.2.2 32 m
   lia
  .change Þ k-ϰg+Ã (ϲA ô)<=8000100
   rw[L k<|ϸB H];let:=lb.2.1;lia
  let:=ϑf hc;lia
 delta bp;rw[Zbe];apply ώA (fun{x y} b hy hxy=>?_) h.pw;let X:=h.lt x b;let Y:=h.lt y hy;let a:=C.ap x y X Y hxy<|Ę (J x b) (J y hy).symm;let d:=C.lo x X;change Þ x-ϵK x+Ã (ϲA<|ϫV x)+1<=Þ y-ϵK y;rw[L x X];let:ϱt (ϫV x)<=2*ϵK x+1:=by delta rL;lia
 lia
theorem xP(k i:Nat):϶V=[58]\/ϲd ϶V [32] [124]:=by
 delta sgS;split
 .exact È rfl
 split
 .exact Ñ<|È rfl
 show Ñ<|Ñ rfl
theorem ud(C:Ĝ)(h:ϲL)(i:Nat):Zn (Ε i):=by
 let(j,J):=h.lv;apply Dx ϒ5 ?_
 .let(k,K,rfl):=ϴa
  let c1:=ϪW<|ϸB K;let s:=xP (ts:=ts) k i;apply(?_,?_,?_)
  .rcases s with s|s|s
   .exact È ⟨by rw[s];show ϲI,by rw[s];decide⟩
   .exact Ñ s
   show È ⟨by rw[s];show ϲI,by rw[s];decide⟩
  .change Þ k+Ã ϶V<=8000100
   rcases s with s|s|s<;>(rw[s];change Þ k+1<=8000100;lia)
  ext c hc;let hc:c∈϶V:=hc;rcases s with s|s|s<;>(rw[s,K95]at hc;subst hc;decide)
 delta eg;rw[Zbe];apply ώA (fun{x y} H hy hxy=>?_) h.pw;let a:=ϛg<|Ę (J x H) (J y hy).symm;let s:=xP (ts:=ts) x i;change Þ x+Ã (cs<|sgS ts x i)+1<=Þ y;rcases s with s|s|s<;>(rw[s];change Þ x+1+1<=Þ y;lia)
theorem EC{c:F}(p:ϲ9){a b x y:Nat}(A:a<ts.length)(m:b<ts.length)(B:a<b)(e:ĵ a=ĵ b)(X:x∈ϲN a)(Y:y∈ϲN b):x<y:=by
 let he:=ϲa;let(s,i,H,k,f):=CH p A;let(g,n):=aM.mp X;let r:=f x g Á Á;let yb:=(ϲv Y).1;by_cases h:b<=a+s
 .let(l,d):=Ej he (j:=a) (s:=s) Á H b Á h
  let:=(yz he A d).1;let D:l=0:=Á
  subst D;let d:b=a:=d;lia
 lia
theorem DR(C:Ĝ){c:F}(p:ϲ9){k:Nat}(K:ċ)(hc:Ě≠[]):bD (ĉ k)<=gj (ĉ k):=by
 let he:=ϲa;let h:=϶O hc;let L:Ã (ĉ k)=Ã Ě:=Ň aR I4
 let at_:∀i(hi:i<Ã Ě),ę (û<|ĉ k) 0=Þ (Ě[i]):=ϸZ (ϰM aR Oe ϲO)
 delta bD gj;rw[L,at_ 0 h,at_ _ Á];by_cases H:Ã Ě=1
 .let:Ã Ě-1=0:=Á
  simp only[this];show ß
 let lt:=ϬZ (Fu ts k) 0 (Ã Ě-1) h Á Á;let m0:ό8 Ě 0:=ϴk;let M:ό8 Ě (Ã Ě-1):=ϴk;let:=ώu (by rw[ϱ7 m0,ϱ7 M]);lia
theorem z8(own:Nat)(bs:Ó):Ã ϤN=ϷL+1-Ņ:=ν jS I4 Z1
theorem lJ(own:Nat)(bs:Ó)(c:Nat):ϰO c=35\/ϰO c=94\/ϲd (ϰO c) 43 45:=by
 delta eh;split
 .split
  .exact È rfl
  show Ñ<|È rfl
 split
 .exact Ñ<|Ñ<|È rfl
 show Ñ<|Ñ<|Ñ rfl
theorem uJ(C:Ĝ)(l:ϱo 100){c:F}(p:ϲ9)(h:ϲL):Zn ϰa:=by
 let(j,J):=h.lv;let he:=ϲa;let em:∀k∈ś,ϳO/\Ě≠[]:=϶K (by let(f,d):=K89.mp H;show(f,λz=>by rw[z]at d;show absurd d Õ))
 let ln:∀k,cs (ϸi).2=jS (Þ k) (ĉ k):=λk=>bj _;apply Dx (λx a=>?_) ?_
 .let(k,H,rfl):=Zc.mp a
  let(K,hc):=em k H;let le:=DR C p (ϸB K) hc;let B:=Qm C l (ϸB K) hc;let n:∀c∈cs (ϸi).2,c=35\/c=94\/c=43\/c=45:=ϴp (by rw[ln]at hc;let(i,_,rfl):=Β hc;show lJ _ _ _)
  apply(È ⟨ϴS,ϫ4⟩,?_,ϲk)
  .let:=Ŧ z
   rw[ln,z8,K8U]at this;lia
  .let:=n 32 m
   lia
  .rw[ln,z8]
   change bD (ĉ k)+_<=_;lia
  let:=n c hc;lia
 delta d8;rw[Zbe];apply ώA (fun{x y} a hy hxy=>?_)<|h.pw.sublist List.filter_sublist;let(R,e):=em x a;let(b,yc):=em y hy;let X:=h.lt x R;let Y:=h.lt y b;let le:=DR C p X e;rw[ln,z8];change bD (ĉ x)+(gj (ĉ x)+1-bD (ĉ x))+1<=bD (ĉ y);let P:=List.length_pos_iff.mpr e;let py:=϶O yc;let m0:ό8 (ϲN x) (Ã (ϲN x)-1):=ϴk;let M:ό8 (ϲN y) 0:=ϴk;let lt:=EC p X Y hxy (Ę (J x R) (J y b).symm) m0 M;let ap:=ώu (by rw[ϱ7 m0,ϱ7 M,J x R,J y b]);let L:gj (ĉ x)=Þ ((ϲN x)[Ã (ϲN x)-1]):=by
  delta gj aR;rw[I4,Oe,Rw Á];rfl
 let g:bD (ĉ y)=Þ ((ϲN y)[0]):=ϒx bD aR (Rw py)
 lia
end
abbrev K1(T:À Nd):À Ó:=ϰb T.length
theorem Kf{T:À Nd}(he:Ž){k q:Nat}(h:š)(a:0<k)(H:ī k=É q):ϰ3 k=ϰ3 q+1:=ϱ7<|aM.mpr ⟨h,H⟩
def aS(T:À Nd)(D0:Int)(r:Ó):À (À Pt):=bp T D0 r::((Ć ((ā (tlM T r-1))) λi=>ϗ4<|i+1)++(Ì (ϩg=[]) [] [όt]))
def jC(T:À Nd)(D0:Int)(L:À Ó):À (À Pt):=L.flatMap<|aS T D0
def txO(X:À (À Pt)):À OD:=X.map λp=>ë<|Æ ϰ1
theorem sJ(X Y:À (À Pt)):txO X++txO Y=txO (X++Y):=Ň txO Z6
theorem sH(X:À (À Pt)):Ã (txO X)=X.length:=Ň txO I4
section
variable{ts:À Nd}{D0:Int}
theorem BK(l:∀k,ċ->Τ 1 (ô).t 9){r:Ó}(hr:϶B ċ)(n:ϳG):Ã ň<=10:=by
 let:=xG l hr n;delta aS;rw[Zo,S5,I4,Z1];split
 .rw[K8U];lia
 rw[Zq];lia
theorem Ac(l:∀k,ċ->Τ 1 (ô).t 9){L:À Ó}(h:∀r∈L,(϶B ċ)/\ϳG):Ã (ϲU L)<=10*L.length:=by
 delta jC
 induction L with
 |nil=>show ß
 |cons r L ih=>
  rw[Zan,S5,Zo];let H:=h r Uf;let:=BK (D0:=D0) l H.1 H.2;let:=ih λq m=>h q<|Ą m;lia
theorem ox(he:Ϻg){r:Ó}(hr:r∈ò):ϲL/\ϳG/\ϹB r.length:=by
 let ok:=ϬP ß;let(j,J):=Zaa hr;let(R,m,C):=ok.row j r J;let e:=xm he;let H:=J;let jl:=(ϥz).1;let er:r=ļ ϵW λk=>Ë ((ę (ϱf[k]?) 0)=j):=by
  let g:=Zh (λl=>l[j]?) e;rw[J]at g;rw[Oe,K9Z jl]at g;show Zz g
 apply((ϳh ((C k).mp h).1,?_,j,ϳh ?_),R,?_)
 .rw[er]
  show όn
 .rw[er]at h
  show Ϥr (K89.mp h).2
 rw[er];let:=ϓd (Ë<|(ę (ϱf[k]?) 0)=j) ϵW;rw[Z1]at this;show this
theorem wg(C:Ĝ)(he:Ϻg)(H:0<ts.length)(l:ϱo 100)(L:∀n∈ts,ϺJ):∀(g:Fe)(a:L3.Env),g a=Ď (dI ϪV)->Η de g cO (Ò eQ 0<|Ê 256) 1 [] a=Ď Ϫs:=λg a hg=>by
 let dl:=Mo (ts:=ts) (D0:=D0) H;simp![hg,d5];generalize w:Ů=rc;let e:=cU w int (λz=>.sh<|Ä<|z / 256) ϪV rfl (Ù dl<|Ş Á) ϗY;subst e;simp![Y2];congr 2;delta nO nD iL cL;rw[Tk,Tk,Tk];apply K9K;ext k;rw[Oe,Oe];by_cases h:ċ
 .rw[ϸV,yA<|϶1 dl]
  change some (ë<|Ä<|gv ϪV k / 256)=Â (ë<|Ä (Ð (Þ k)));rw[C.at_ k h]
 rw[K9c (ñ dl),K9c<|ñ Z1];rfl
theorem Dh{c:F}(p:ϲ9)(C:Ĝ)(B:ϴl)(A:ϱo 40)(l:∀k,ċ->Τ 1 (ô).t 9):eN [Ö Μ,Ä D0]=Ď (txO<|ϲU ò):=by
 let he:=ϲa;let a:=϶9;let h:∀n∈ts,ϺJ:=λn N=>þ (B n N).2.1
 let dk:=Bw ts D0 he a Á h;let q:cR [Ö Μ,Ä D0]=Ď Ϫs:=by
  delta cR i7;let:=wg C he a Á h (ϒr<|Ï 0<|Ï 1 ah) [ì Μ,æ<|Ä D0] (ϥg dk);simp![↓this]
 let lv:=Hn ts he Á;let nl:ϹB (Ã ò):=(eT he a).2;delta eN sd;simp![q,dM,lv,zI];let bd:∀i,ϰC ((Ã (ϲU<|ý ò i)))<=10*ts.length:=λi=>by
  let:=ϓ1 l (L:=ý ò i) (λr hr=>by let:=ϥU<|Zak hr;show(this.1.lt,this.2.1))
  rw[Zk]at this;lia
 generalize H:Ŋ=rr;apply bJ H (λi m=>∃V v:Ú OD,m=[ì Μ,æ<|Ä D0,ì ϸc,ō<|txO<|ϲU<|ý ò i,V,v]) ϸb ?_ ?_
 .rintro i d m hd ⟨V,v,rfl⟩
  delta DQ at hd;rw[Oe]at hd;let(r,x,rfl):=ϲ3;let R:r∈ò:=Ts x;let(L,U,E):=ϥU R;let tk:ý ò (i+1)=ý ò i++[r]:=take_snoc x;let nx:ϲU (ý ò<|i+1)=ϲU (ý ò i)++ň:=by delta jC;rw[tk,Zam,Zaz]
  let o:=bd i;let f:=Nu C B Á L.lt Á Ϥ4;let g:=C4 C Á l L.lt Á U λi _=>ud C L i;let u:=QZ C Á L.lt Á<|uJ C Á p L;let T:=xG l L.lt U;rw[<-UB,nx];generalize ϲU (ý ò i)=Z at o;let z:ϰT (Ã (txO Z)):=Ù sH (d9 Á)
  let t1:txO Z++[OD.sh<|Æ<|S3 ħ]=txO (Z++[ħ]):=ϯQ sJ
  let t2:(Ć ϳY λi=>OD.sh<|Æ<|S3<|Ε<|i+1)=txO (Ć ϳY λi=>Ε<|i+1):=ϱl txO Tk
  let j:ü (Ã (txO<|Z++[ħ])+Ã (txO<|Ć ϳY λi=>Ε<|i+1)):=by rw[sH,sH,S5,I4,Z1,Zq];show ax Á
  let y:ϰT (Ã (txO<|Z++[ħ]++Ć ϳY λi=>Ε<|i+1)):=by rw[sH,S5,S5,I4,Z1,Zq];show d9 Á
  let t3:txO (Z++[ħ]++Ć ϳY λi=>Ε<|i+1)++[OD.sh<|Æ<|S3 ϰa]=txO (Z++[ħ]++(Ć ϳY λi=>Ε<|i+1)++[ϰa]):=ϯQ (sJ (Z++[ħ]++_))
  let b:Η de ϳe (av<|ϴQ (Č<|Ő (ϤW<|Ï 1<|Ï 0 ah))<|Ê 0) ð 1 [0] [ì Μ,æ<|Ä D0,ì ϸc,ō<|txO<|Z++[ħ]++Ć ϳY λi=>Ε<|i+1,ì ϷG,v]=Ď (nO ś):=by
   simp![Y2];generalize w:Ů=rc
   let e:=ko w (Ģ<|int á) (λk=>Ë<|É 0<É ((Ã Ě))) (Ģ<|.sh<|Ä á) r (nW r) (Ş Á) (by
    ext k s;let K:=lN ts k (ϱr s) Á;apply(?_,ϰs ?_)
    .simp![K,dM,dN]
    simp![Y2])
   subst e;simp![Y2];rw[qP];rfl
  let er:ň=ħ::((Ć ϳY λi=>Ε<|i+1)++(Ì (ś=[]) [] [ϰa])):=rfl;rw[er];by_cases hc:ś=[]
  .let D:å (Ë (É 0<É ((Ã ś)))):=Pi (Ϯ4 hc)
   let fin:Z++ħ::((Ć ϳY λi=>Ε<|i+1)++[])=Z++[ħ]++Ć ϳY λi=>Ε (i+1):=Ø
   rw[ϩu,fin];simp![f,z,t1,g,t2,j,sJ,↓b,dM,dN,D];show(_,_,rfl)
  let D:Ë (É 0<É ((Ã ś)))=true:=Tl (þ<|϶O hc);let fin:Z++ħ::((Ć ϳY λi=>Ε<|i+1)++[ϰa])=Z++[ħ]++(Ć ϳY λi=>Ε<|i+1)++[ϰa]:=Ø
  rw[ϩv,fin];simp![f,z,t1,g,t2,j,sJ,↓b,dM,dN,D,u,y,t3];show(_,_,rfl)
 ext ρ' rfl ⟨V,v,rfl⟩;rw[LK,K90 ß];simp![Y2]
end
theorem Ja{w:Str}(h:ϱI â):PyData.strOk w=true:=by
 delta PyData.strOk;rw[Zcd];ext c hc;let:=h c ώL;simp;lia
section
variable{ts:À Nd}{D0:Int}{r:Ó}
theorem Lj(B:ϴl)(hr:϶B ċ):ļ ħ nbP=ħ:=by
 rw[Zdp];ext x H;let(k,h,rfl):=ϴa;let lb:=B _<|gL ϥH;delta nbP;rw[Zbq,decide_eq_false_iff_not];ext z;let:ϰC 32∈ϲA ô:=by let z:ϲA ô=[32]:=z;rw[z];show Uf
 let:=lb.2.2 32 this;lia
theorem TU:ļ ϰa nbP=ϰa:=by
 rw[Zdp];ext x h;let(k,H,rfl):=ϹR;delta nbP;rw[Zbq,decide_eq_false_iff_not];ext z;let z:Ϻh (jS (Þ k)<|ĉ k)=[32]:=z;rw[bj]at z;let:ϰC 32∈jS (Þ k) (ĉ k):=Ù z Uf
 let(i,_,e):=Β this;let:=lJ (Þ k) (ĉ k)<|bD (ĉ k)+i;lia
end
theorem sP(t:Str)(L:ϲ6 t.length):eL [Æ t]=Ď (Î (ϷR ϦW) λx=>ë Ϸu):=by
 delta eL pX;let e:t.length<=H6:=K9C L ç;let f:å (blk.length==0):=ç
 let K:=Ϛl;let S:=ϗc;let P:=ϔV;let k:N_ (Ý<|Æ t) (Ý<|Æ<|è " ")=ψ (Î ϦW PyData.str):=K;simp![QM,k,aG];generalize ϦW=W at S P;generalize H:Ŋ=r;let G:ϰC 9000000+3<=H6:=ç
 let m:∀(X:À Str)(b:Nat),ύK (Ã (paS X b)):=by
  ext X
  induction X with
  |nil=>ext b;show ß
  |cons x X ih=>
   ext b;rw[pSc,S5,Zo];let:=ih ϮY;split
   .rw[K8U];lia
   rw[Zq];lia
 let sn:∀(X:À Str)(w:Str)(b:Nat),paS (X++[w]) b=paS X b++(Ì ϤV [] [(b+(X.map ϱE).sum,w)]):=by
  ext X
  induction X with
  |nil=>
   ext w b;change(Ì ϤV [] [(b,w)])++[]=_;rw[Zw];rfl
  |cons x X ih=>ext w b;rw[K92,pSc,pSc,ih,W1,Zal,K9M];rw[Zcm b,<-Zcm b x.length 1];rw[ó (ϮY+(X.map ϱE).sum=b+(x.length+1+(X.map ϱE).sum))]
 apply bJ H (λi c=>∃E:Ú OD,c=[æ<|Æ t,ō<|Î (ϷR Θ) λx=>ë Ϸu,æ<|Ä (Ð (Î Θ ϱE).sum),E]) ι ?_ ?_
 .rintro i d c hd ⟨E,rfl⟩
  rw[Oe]at hd;let(w,h,rfl):=ϲ3;let tk:Ϻ6=Θ++[w]:=Ϲs;let wl:=P w ϳN;let B:ü w.length:=ϰr Á;let nx:Ð (Î Θ ϱE).sum+(É w.length+1)=Ð ((Ϻ6).map ϱE).sum:=by
   rw[tk,Z6,Zbo];change _=Ð (ϰC _+(ϪP+0))
   lia
  let N:=sn Θ w 0;rw[<-tk,K87]at N;rw[N];let I:=m Θ 0;rw[Zk]at I;by_cases a:ϤV
  .let g:Ë (w=è "")=true:=Tl (gA (by
    let:w.cps.toList=[]:=ϗ0
    rw[this];decide+kernel))
   rw[Os a,Zw];simp![g,B,nx];show(_,rfl)
  let g:å (Ë (w=è "")):=Pi λz=>a (ϭI z);let lb:ϰT (Ã (Î (ϷR Θ) λx=>ë Ϸu)):=ϰr (ñ I4);let ap:(Î (ϷR Θ) λx=>ë Ϸu)++[ë<|ä [Ä (Ð (Î Θ ϱE).sum),Æ w]]=Î (ϷR Θ++[((Î Θ λw:Str=>ϪP).sum,w)]) λx=>ë Ϸu:=ϱJ Z6
  rw[P3 a];let l:ϰT (Ã (ϷR Θ)):=ϰr Á;simp![g,B,l,ap,nx];show(_,rfl)
 ext ρ' rfl ⟨E,rfl⟩;rw[I4,K90 ß];simp![Y2]
theorem z9{a b:Ó}(h:sS a=sS b):a=b:=by rw[<-bj a,h,bj]
theorem QF(t:Ó)(i j:Nat)(h:ϵN)(H:j<=t.length):ϱL ŕ (Â Ċ) (Â ĺ)=sS (ý (t.drop i)<|j-i):=by
 let a:ϰe ŕ=t:=bj t;let e:=beq_iff_eq.mp (PyProof.Rows.slice_closes (x:=ŕ) (i:=Ċ) (j:=ĺ)<|by rw[a];lia);rw[a,ó (ā Ċ=i),ó (ā (ĺ-Ċ)=j-i)]at e;show e
theorem Td{n p:Nat}(h:n<=p):Builtin.Str.strSliceIndices (Â Ū) (Â<|Ū+1) 1 n=Builtin.Str.strSliceIndices (Â Ł) (Â Ł) 1 n:=by
 let a:¬Ū+1<0:=Á
 let H:¬(Ł<0):=Á
 let c:¬(Ū<0):=Á
 let b:É 1 > 0:=Õ
 let f:min (Ū+1) Ł=min Ł Ł:=Á
 let g:min Ū Ł=min Ł Ł:=Á
 simp only[Builtin.Str.strSliceIndices,a,H,b,c,if_false,K84,f,g]
theorem CM(t:Ó)(p c:Nat):Ë (ϱL ŕ (Â Ū) (Â<|Ū+1)=ϻz)=Ë (t[p]?=ã):=by
 let n:Ã ŕ=t.length:=Ù aU (Ŧ<|bj t)
 by_cases h:p<t.length
 .let e:=QF t p (p+1) Á Á
  rw[ó (Ð (p+1)=Ū+1),ó (p+1-p=1),K8N h,K7p,K7s]at e;rw[e,ϴ9];by_cases hc:t[p]=c
  .rw[hc]
   show Ę ϩe (ϩe).symm
  show Ę (Pi λz=>hc (K8C<|z9 z).1) (Pi λz=>hc<|Zz z).symm
 let e:ϱL ŕ (Â Ū) (Â<|Ū+1)=ϸW:=by
  let e1:ϱL ŕ (Â Ū) (Â<|Ū+1)=ϱL ŕ (Â<|(É t.length)) (Â<|(É t.length)):=by delta Txt.slice;rw[n,Td<|Zbh h]
  rw[e1,QF t _ _ ß ß,K8c,K7s]
 rw[e,K9c<|Zbh h];show Ę (Pi λz=>by let:=z9 z;cases this) (Pi ϶S).symm
set_option tactic.hygienic true in
theorem NL{t:Ó}{s:Str}(h:∀c∈t,Ϲ5 s.cps.contains):Ϫm ŕ s=ϸW:=by
 let a:ϰe ŕ=t:=bj t;let Z:Ã ŕ=t.length:=by rw[aU,a]
 let l:ϗd ŕ=t.length:=by
  delta stripLo;rw[ė,a];let:=Dk (p:=t) (q:=[]) (g:=s.cps.contains) h (λc z=>Ϩs z);rw[Zw]at this;rw[this]
 delta Txt.stripChars Txt.stripBy;split
 .rename_i S
  delta stripSame at S;rw[K9U,l,beq_iff_eq]at S;rw[Zad S.1]
 delta stripped;rw[l];apply gA;change Ϩp (όv ŕ t.length _);rw[Zbb,a,List.extract_eq_drop_take,Zdd,List.take_nil];rfl
theorem Mh{t:Ó}{s:Str}{c:Nat}(hc:c∈t)(n:å (s.cps.contains c)):Ϫm ŕ s≠ϸW:=by
 let h:ϰe ŕ=t:=bj t;let Z:Ã ŕ=t.length:=by rw[aU,h]
 delta Txt.stripChars Txt.stripBy;split
 .intro z
  rw[z9 z]at hc;cases hc
 ext z;let l:t=Ϻy++ϗm:=(ϵQ Zcf);let H:∃x r,ϗm=x::r/\å (s.cps.contains x):=by
  cases e:t.dropWhile s.cps.contains with
  |nil=>rw[e,Zw]at l;rw[l]at hc;let:=K7x.mp List.all_takeWhile c hc;rw[n]at this;cases this
  |cons x r=>
   apply(x,r,rfl,?_);let:=List.head?_dropWhile_not s.cps.contains t;rw[e]at this;simpa using this
 let(x,r,e,X):=H;let o:ϗd ŕ=Ã Ϻy:=by delta stripLo;rw[ė,h]
 let d:t.drop (Ã Ϻy)=x::r:=by
  conv=>lhs;rw[l]
  rw[Zcf];rw[<-e]
  conv=>lhs;arg 2;rw[l]
  show List.drop_left
 let lt:t.length=Ã Ϻy+(r.length+1):=by let:=Ŧ l;rw[S5,e,Zo]at this;show this
 let hi:Ã Ϻy<ϖZ ŕ ((Ã Ϻy)):=by
  delta stripHi;rw[ė,h,Z,d];let:Ã ((x::r).reverse.takeWhile s.cps.contains)<=r.length:=by
   rw[K8T];let b:∀(A:Ó),Ã ((A++[x]).takeWhile s.cps.contains)<=A.length:=by
    ext A
    induction A with
    |nil=>rw[K9B,Zbg,X];show ß
    |cons a A ih=>
     rw[K92,Zbg];split
     .rw[Zo,Zo];lia
     show Ν
   let:=b r.reverse;rw[Zdo]at this;show this
  lia
 let f:=Zh (λx:Str=>x.cps.toList.length) z;delta stripped at f;rw[o]at f;let g:(όv ŕ (Ã Ϻy)<|ϖZ ŕ ((Ã Ϻy))).toList.length=0:=f;rw[Zbb,h,List.extract_eq_drop_take,Zk,d,Zo]at g;lia
theorem DM{m n:Nat}(h:n<=m):∀{r:À Pt},goP m r->ϨK:=by
 ext r hr;cases r with|nil=>trivial|cons x r=>let(c,w):=x;show(ό7 hr.1,hr.2)
theorem wo:∀(r:À Pt)(n:Nat),ϨK->∀x∈r,n<=x.1/\∀i,i<Ã đ->ϹU[x.1-n+i]?=û đ:=by
 ext r
 induction r with
 |nil=>ext n _ x H;cases H
 |cons y r ih=>
  ext n h x H;let(c,w):=y;let(a,b,f):=h;rw[Y3c];rcases Z7.mp H with rfl|H
  .apply(a,ϸZ ?_)
   dsimp only at hi⊢;rw[K9a (ñ K8r),K8r,ó (c-n+i-(c-n)=i),K9V hi]
  let(q,k):=ih (c+Ã â) (DM ϱ2 f) x H;apply(Á,ϸZ ?_);rw[K9a (ñ K8r),K8r,K9a Á,<-k i hi]
  congr 1
  lia
theorem vF(t:Ó):∃u:Ó,ϭ1 ŕ=ϷO/\∀p:Nat,u[p]?=t[p]?\/(u[p]?=none/\t[p]?=Â 32):=by
 let(u,k,e,h):=rV t;apply(u,?_,λp=>?_)
 .let e1:ŕ=ϷO++sS (η 32):=gA (by
   rw[iW];change cs ŕ=cs ϷO++Ϻh (η 32)
   rw[bj,bj,bj,e])
  rw[e1];delta Txt.rstripChars;apply Ex ϲk ϲk
  .let hc:c∈Ϻh (η 32):=hc
   rw[bj]at hc;rw[(Ϥk hc)];decide+kernel
  let hc:ϐD ϷO=ã:=hc;rw[bj]at hc;let:=ϨT;rw[vX];simp;lia
 rw[e];by_cases H:p<u.length
 .rw[K9V H]
  show È rfl
 rw[K9a<|Zbh H,K9c<|Zbh H,K8Z]
 split
 .exact Ñ ϶0
 show È rfl
theorem OM{s:À Pt}(h:goP 0 s){p c:Nat}(hc:ϳH):Ë (ϱL ϲP (Â Ū) (Â<|Ū+1)=ϻz)=Ë ((ĥ s)[p]?=ã):=by
 let(u,e,U):=vF<|ĥ s;delta S3;rw[e,CM];rcases U p with q|⟨b,k⟩
 .rw[q]
 rw[b,k];show Ę (Pi Ø) (Pi λz=>hc (ϥE z)).symm
theorem ES:∀(r:À Pt)(n:Nat)(c:Nat),c∈ϹU->ϸ3\/∃x∈r,c∈đ:=by
 ext r
 induction r with
 |nil=>ext n c h;cases h
 |cons y r ih=>
  ext n c h;let(a,w):=y;rw[Y3c]at h;rcases Y7.mp h with h|h
  .exact È (List.mem_replicate.mp h).2
  rcases Y7.mp h with h|h
  .exact Ñ ⟨_,Uf,h⟩
  rcases ih _ _ h with q|⟨x,H,b⟩
  .exact È q
  show Ñ ⟨x,Ą H,b⟩
theorem JZ:∀{m:Nat},q<=m->Ã (ļ (range m) λi=>Ë<|i<q)=q:=by
 ext m
 induction m with
 |zero=>ext h;let:q=0:=Á;subst this;rfl
 |succ m ih=>
  ext h;rw[K8A,K8o,S5];by_cases e:q=m+1
  .subst e
   let:ļ (range m) (λi=>Ë<|i<m+1)=range m:=ϏX ((ϸZ (Tl (þ ό2))));rw[this,Z1,K8O,Os<|Tl<|K8d m];rfl
  rw[ih Á,K8O,P3<|ñ K9k];rfl
section
variable{ts:À Nd}{D0:Int}{r:Ó}
theorem OC(C:Ĝ)(B:ϴl)(L:ϲL){k:Nat}(h:ϳO):å (Ë ((ĥ ħ)[Þ k]?=Â 58)):=by
 let lb:=B _<|gL<|ϱr h;let a:Ã (ϲA ô)=ϱt ô:=ϪS;let hi:ϰg<Ã (ϲA ô):=by
  rw[a];let:=lb.1;delta rL;lia
 let o:=όd<|ϱr h;let q:=(wo _ 0 (Ϥ4).go (Þ k-ϰg,(ô).l) ϦB).2 ϰg hi;dsimp only at q;rw[ó (Þ k-ϰg-0+ϰg=Þ k)]at q;rw[q,ϲO];apply Pi ϴS;let z:=Zz z;let:=lb.2.2 _<|Zae hi;lia
set_option tactic.hygienic true in
theorem Ng(C:Ĝ)(L:ϲL){k:Nat}(H:ϳO)(i:Nat):Ë ((ĥ<|Ε i)[Þ k]?=Â 58)=Ë (Ċ<(ô).t):=by
 let hi:0<Ã ϶V:=by rcases xP (ts:=ts) k i with s|s|s<;>rw[s]<;>decide
 let q:=(wo _ 0 (ud C L i).go (Þ k,ϪD i)<|ϱ6 ⟨k,H,rfl⟩).2 0 hi;dsimp only at q;rw[Zbf,Zav]at q;rw[q];delta sgS;split
 .rename_i h
  show Ę ϩe (ϵc).symm
 rename_i h;rw[ϲR];split
 .exact Pi Õ
 show Pi Õ
theorem NZ(p:Nat):å (Ë ((ĥ ϰa)[p]?=Â 58)):=by
 apply Pi ϴS;rcases ES _ _ _ (Ts z)with h|⟨x,H,hc⟩
 .cases h
 delta d8 at H;let(k,_,rfl):=ϴa;delta nv at hc;dsimp only at hc;rw[bj]at hc;delta jS at hc;let(i,_,e):=Β hc;rcases lJ (Þ k) (ĉ k) (bD (ĉ k)+i)with h|h|h|h<;>(rw[h]at e;cases e)
theorem Qt{k:Nat}(h:ϳO):(ô).t<=Ϥ7:=ϧ8 tlM (ϚL ϦB)
theorem colons(C:Ĝ)(B:ϴl)(L:ϲL)(l:∀k,ċ->Τ 1 (ô).t 9){k:Nat}(H:ϳO):
  É (ļ ň λp=>Ë<|(ĥ p)[Þ k]?=Â 58).length+1=(ô).t:=by
 let t1:=l k<|ϱr H;let t2:=Qt (ts:=ts) H;delta aS;rw[K8O,P3 (Ù (OC C B L H) Zy),K8o,S5];let e1:Ã (ļ (Ć ϳY λi=>Ε<|i+1) λp=>Ë<|(ĥ p)[Þ k]?=Â 58)=ā ((ô).t-1):=by
  rw[List.filter_map,I4];let:((λp=>Ë<|(ĥ p)[Þ k]?=Â 58)∘λi=>Ε<|i+1)=λi=>Ë (i<ā ((ô).t-1)):=by
   funext i;change Ë ((ĥ<|Ε<|i+1)[Þ k]?=Â 58)=_;rw[Ng C L H];by_cases h:Ð (i+1)<(ô).t
   .rw[ϵc,Tl Á]
   rw[ϲR,Pi Á]
  rw[this,JZ Á]
 let g:Ã (ļ (Ì (ś=[]) [] [ϰa]) λp=>Ë<|(ĥ p)[Þ k]?=Â 58)=0:=by
  split
  .rfl
  rw[K8O,P3<|Ù NZ Zy];rfl
 rw[e1,g];lia
theorem E1{p:À Pt}(h:Zn p):ϲ6 (Ã ϰ1):=by
 let(u,U,k,m,a,b):=xf h;rw[U,aU];change Ã (cs ϷO)<=_;rw[bj];show a
theorem bQ(h:Ϫ4):(n<=H6)=True:=ϰr (ό7 ç)
theorem s58:è ":"=ĳ 58:=ç
def Cr(T:À Nd)(D0:Int)(k:Nat):Go:=ä [Ä (Ð (ϱe k)),Æ (ϳa).l,Ä (ϳa).t]
def txD(X:À (À Pt)):À Go:=X.map λp=>ϹH ϰ1
theorem Hu(C:Ĝ)(B:ϴl)(L:ϲL)(T:∀k,ċ->Τ 1 (ô).t 9)(U:ϳG)(J:Ϫr)(ok:ϫQ ň):
  dc [Ö<|txD ň]=Ď (ϳn ((ϳs Cr))):=by
 delta dc kg;let(u,M,N,A,P,Q):=xf Ϥ4;let a0:Y9 (txD ň) (É 0)=some (Æ<|S3 ħ):=bZ (j:=0) rfl;let W:=E1 Ϥ4;let w:=sP (S3 ħ) W;rw[A,Lj B L.lt]at w;let G:ϰH (Î ħ λx=>ë Ϸu) (ϳz (ptD (Þ k-ϰg,(ô).l))):=by delta bp;rw[Tk,Tk];show ϶X
 let R:Ã ň<=10:=BK T L.lt U;simp![a0,w,G];generalize y:Ŋ=rr;apply bJ y (λi m=>∃V E g v:Ú OD,m=[ì<|txD ň,ō<|Î ϲ1 (ϳs Cr),V,E,g,v]) ϐm ?_ ?_
 .rintro i d m hd ⟨V,E,g,v,rfl⟩
  rw[Oe]at hd;let(k,X,rfl):=ϲ3;let H:=Ts X;let lb:=B _<|gL<|ϱr H;let O:=όd<|ϱr H;let hi:=ϪW<|ϱr H;let cl:Ð (Þ k-ϰg)+É ((ϱt ô)) / 2=Ð (Þ k):=by
   let:É ((ϱt ô)) / 2=Ð ϰg:=rfl;rw[this];lia
  let z:ü (ϱt ô):=ax (þ lb.2.1);delta ptD;dsimp only;let n:∀ol,Η de ð (av<|ϳF (Ϯw ð Ų<|bc<|Ò aF 1<|Ê 1)<|eC<|Æ ":") ð 1 [4] [ì<|txD ň,ol,æ<|Ä (Ð (Þ k-ϰg)),æ<|Æ (ô).l,æ<|Ä (Ð (Þ k)),v]=Ď ((ļ ň λs=>Ë<|(ĥ s)[Þ k]?=Â 58).map λs=>ë<|Æ ϲP):=λol=>by
   simp![Y2];generalize o:Ů=rc
   let e:=ko o (λs:À Pt=>ϹH ϲP) (λs=>Ë<|(ĥ s)[Þ k]?=Â 58) (λs:À Pt=>ë<|Æ ϲP) ň rfl (Ş Á) (by
    ext s h;let q:=OM (ok s h).go (p:=Þ k) (c:=58) Õ;let q:Ë (ϱL ϲP (Â<|(Ð (Þ k))) (Â<|Ð (Þ k)+1)=è ":")=Ë ((ĥ s)[Þ k]?=Â 58):=Ù s58 q
    let lw:ü (Ã ϲP):=bQ<|E1<|ok s h;apply(?_,ϰs ?_)
    .simp![vk,lw,q]
    simp![Y2])
   subst e;simp![Y2]
  let ce:ϰH ((ļ ň λs=>Ë<|(ĥ s)[Þ k]?=Â 58).map λs=>ë<|Æ ϲP) (txD (ļ ň λs=>Ë<|(ĥ s)[Þ k]?=Â 58)):=by delta txD;rw[Tk];show Zt λs _=>ϵE
  let D:=colons C B L T H;let a:Ã (txD<|ļ ň λs=>Ë<|(ĥ s)[Þ k]?=Â 58)=Ã (ļ ň λs=>Ë<|(ĥ s)[Þ k]?=Â 58):=Ň txD I4
  let I:Ã (ļ ň λs=>Ë<|(ĥ s)[Þ k]?=Â 58)<=10:=Ϥ6 K8i _ R;let F:ü (Ã (ļ ň λs=>Ë<|(ĥ s)[Þ k]?=Â 58)):=ax Á;let K:Ã ϲ1<=100:=ñ Zk
  let b:ϰT (Ã (Î ϲ1 (ϳs Cr))):=Ù I4 (d9 Á)
  let f:ϰT (Ã ϲ1):=d9 Á;let tk:Ϯ3=ϲ1++[k]:=Ϩf X;let ap:(Î ϲ1 (ϳs Cr))++[ë<|ä [Ä (Ð (Þ k)),Æ (ô).l,Ä (ô).t]]=Î (ϲ1++[k]) (ϳs Cr):=ϱJ Z6
  rw[tk];simp![z,cl,↓n,ce,a,F,D,b,f,ap];show(_,_,_,_,rfl)
 ext ρ' rfl ⟨V,E,g,v,rfl⟩;rw[I4,K90 ß];simp![Y2]
end
theorem xM:HE s t=Æ ϘY:=rfl
theorem jF(h:0<n):ixN n (-1)=Â (n-1):=by
 delta ixN;rw[P3 Õ,Os Á]
 congr 1
 lia
def fL(p:À Pt):Bool:=! Ë (Ϫm ϰ1 (è " :|+-^#")=è "")
def grS(a:À (À<|À Pt))(p:À Pt):À (À<|À Pt):=Ì (fL p=true) (a++[[p]]) (a.set (a.length-1) (ę (a[a.length-1]?) []++[p]))
def grF(X:À (À Pt)):À (À<|À Pt):=X.foldl grS []
theorem xE(X:À (À Pt))(p:À Pt):grF (X++[p])=grS (grF X) p:=ϱl grF Zbr
set_option tactic.hygienic true in
theorem SN{X:À (À Pt)}(h:∀x,X.head?=ö->ϥ1 fL):∀i,0<i->i<=X.length->ϱm≠[]:=by
 ext i
 induction i with
 |zero=>ext h;cases h
 |succ i ih=>
  ext _ l;obtain⟨x,H⟩:∃x,û X=ö:=ϰc Á
  rw[ϪR,xE];delta grS;split
  .exact Zby _ ϲI
  rename_i f;by_cases a:i=0
  .subst a
   show Đ (h x<|Ϲi Zdf) f
  ext z;let:=Ŧ z;rw[K8z]at this;show ih Á Á<|Zad this
theorem M_(X:À (À Pt)):∀i,Ã ϱm<=i/\∀g∈ϱm,g.length<=i:=by
 ext i
 induction i with
 |zero=>show(ß,λg hg=>Ϩs hg)
 |succ i ih=>
  cases hx:X[i]? with
  |none=>
   rw[K90<|þ (ώV hx)];rw[K90<|ώV hx]at ih;show(Á,λg hg=>þ (ih.2 g hg))
  |some x=>
   rw[Ϩf hx,xE];delta grS;split
   .apply(ξ S5 Zq,λg hg=>?_)
    rcases Y7.mp hg with hg|hg
    .let:=ih.2 g hg;lia
    rw[K95.mp hg,Zq];lia
   apply(ñ K8z,λg hg=>?_);rcases Zar hg with hg|rfl
   .let:=ih.2 g hg;lia
   rw[S5,Zq];cases hz:ϱm[Ã ϱm-1]? with
   |none=>rw[Zda,K8U];lia
   |some g=>
    rw[Zas];let:=ih.2 g<|Ts hz;lia
def grO(G:À (À<|À Pt)):À OD:=G.map λg=>ϳT<|txO g
theorem lL(G:À (À<|À Pt)):Ã (grO G)=G.length:=Ň grO I4
def lpB(bad:Fs):Fs:=(ao (ϱN ϰZ)
 (ao (dJ (de ð) ϨX (ao (Z4 (av<|ϹQ (eTx HE ŏ<|eC<|Æ " :|+-^#")<|eC<|Æ "") (Ϸi ϰZ) Z9)
 (ao (Z4 (uu<|av<|ϳF (Č<|Ï 1 ah)<|Ê 0) bad Z9)
 (nN 1 (Ĥ<|Ê 1) ŏ))))
 ϶x))
theorem yp(bad:Fs){X:À (À Pt)}(h:∀x,X.head?=ö->ϥ1 fL)(ok:∀p∈X,Zn p)(L:ϱT X.length):Ξ 3 (lpB bad) [Ö ϩj]=Ď (grO<|grF X):=by
 delta lpB;simp![Y2];generalize l:Ŋ=rr;apply bJ l (λi ρ=>∃V:Ú OD,ρ=[ì ϩj,ō<|grO ϱm,V]) ι ?_ ?_
 .rintro i d ρ hd ⟨V,rfl⟩
  delta txD at hd;rw[Oe]at hd;let(p,H,rfl):=ϲ3;let hi:=϶4;let lw:ü (Ã ϰ1):=bQ<|E1<|ok p ϶F;let gl:=M_ X i;let b:ϰT (Ã ϱm):=d9 Á;let tk:ϯd=ϓ7++[p]:=ϪR;let E:=xE ϓ7 p;rw[<-tk]at E;cases hf:fL p with
  |true=>
   let D:å (Ë (Ϫm ϰ1 (è " :|+-^#")=è "")):=ϖj
   let Z:å (Ë (É ((Ã (grO ϱm++Ϸd)))=0)):=Pi (ξ S5 Zq)
   let ap:=qH (i:=1) (ρ:=[ì ϩj,ō<|grO ϱm++Ϸd,æ<|Æ ϰ1]) (k:=Ĥ<|Ê 1) (a:=ŏ) (xs:=grO ϱm++Ϸd) (ys:=[]) (z:=-1) (j:=(Ã ϱm)) (y:=.sh<|Æ ϰ1) rfl rfl (by
    rw[S5,lL,Zq,jF Á]
    congr 1) (ϵv (K9a (Ù lL ß)) lL K8c) rfl Õ
   let e1:Ť (grO ϱm++Ϸd) (Ã ϱm) (ϳT<|[]++[ë<|Æ ϰ1])=grO (grF ϯd):=by
    rw[E];delta grS;rw[Os hf,όW (Ù lL ß),lL,K8c];delta grO;rw[Z6];rfl
   rw[e1]at ap;simp![uZ,u_,uV,xM,lw,D,lL,b,Z,ap];show(_,rfl)
  |false=>
   let D:Ë (Ϫm ϰ1 (è " :|+-^#")=è "")=true:=ϖj
   let I:0<i:=by
    rcases Zah i with e|e
    .subst e
     rw[h p<|Ϲi Zdf]at hf;cases hf
    show e
   let ne:=SN h i I Á;let G:0<Ã ϱm:=List.length_pos_iff.mpr ne;let Z:å (Ë ((É<|(Ã ϱm))=0)):=Pi Á;obtain⟨g,hg⟩:∃g,ϱm[Ã ϱm-1]?=Â g:=ϰc Á
   let g1:=gl.2 g<|Ts hg;let ap:=Ϯ1 [ì ϩj,ō<|grO ϱm,æ<|Æ ϰ1] (k:=Ĥ<|Ê 1) (a:=ŏ) (xs:=grO ϱm) (ys:=txO g) (z:=-1) (j:=Ã ϱm-1) (y:=.sh<|Æ ϰ1) rfl rfl (ϰB lL<|jF Á) (ϰM grO Oe hg) rfl (Ù sH<|K94<|d9 Á);let e1:(grO ϱm).set (Ã ϱm-1) (ϳT<|txO g++[ë<|Æ ϰ1])=grO (grF ϯd):=by
    rw[E];delta grS;rw[P3 (Ù hf Zy),hg,Zas];delta grO;rw[Zch];congr 2;rw[<-sJ];rfl
   rw[e1]at ap;simp![uZ,u_,uV,xM,lw,D,lL,Z,ap];show(_,rfl)
 ext ρ' rfl ⟨V,rfl⟩;rw[show Ã ϩj=X.length by delta txD;rw[I4],K90 ß];simp![Y2]
theorem Tg{p:À Pt}{R:À (À Pt)}(H:fL p=true)(b:∀x∈R,å (fL x))(a:À (À<|À Pt)):(p::R).foldl grS a=a++[p::R]:=by
 rw[Zdg];let e:grS a p=a++[[p]]:=ϱh;rw[e];let go:∀(R S:À (À Pt)),(∀x∈R,å (fL x))->R.foldl grS (a++[S])=a++[S++R]:=by
  ext R
  induction R with
  |nil=>ext S _;rw[Zw];rfl
  |cons x R ih=>
   ext S h;let e:grS (a++[S]) x=a++[S++[x]]:=by
    delta grS;rw[P3 (Ù (h x Uf) Zy),S5,Zq,K8J,όW ß,K9a ß,K8c];rfl
   rw[Zdg,e,Ϻm (λy m=>h y<|Ą m),K9M];rfl
 show go R [p] b
theorem Sw(c:Nat):(è " :|+-^#").cps.contains c=Ë (ϸ3\/c=58\/ϩS 124):=by
 let e:(è " :|+-^#").cps=#[32,58,124,43,45,94,35]:=ç
 rw[e];simp only[Array.contains_eq_mem,List.mem_toArray,Z7,K8P,or_false]
theorem s00:è ""=ϸW:=ç
theorem PN{p:À Pt}(h:∀x∈p,∀c∈đ,ϸ3\/c=58\/ϩS 124):å (fL p):=by
 let(u,e,_,_,_,b):=kG<|ĥ p;delta fL S3;rw[e,s00,NL ϲk]
 .rfl
 rw[Sw];rcases ES _ _ _ (b c hc)with q|⟨x,H,a⟩
 .exact Tl<|È q
 show Tl<|h x H c a
theorem Uz{p:À Pt}(h:goP 0 p){x:Pt}(H:x∈p){c:Nat}(hc:c∈đ)(n:å ((è " :|+-^#").cps.contains c)):fL p=true:=by
 let(u,e,U):=vF<|ĥ p;let(i,hi):=List.mem_iff_getElem?.mp hc;let q:=(wo p 0 h x H).2 i Ϯ5;rw[hi]at q;let C:c∈u:=by
  rcases U (x.1-0+i)with z|⟨_,z⟩
  .rw[q]at z
   show Ts z
  rw[q]at z;rw[Zz z,Sw,Tl<|È rfl]at n;cases n
 delta fL S3;rw[e,s00,Pi<|Mh C n];rfl
section
variable{ts:À Nd}{D0:Int}{r:Ó}
theorem I_(C:Ĝ)(B:ϴl)(L:ϲL)(U:ϳG):Γ fL ħ:=by
 let(k,h):=Zbv r U;let lb:=B _<|gL<|ϱr h;let p:0<Ã (ϲA ô):=by let:Ã (ϲA ô)=ϱt ô:=ϪS;rw[this];show lb.1
 let M:=Zae p;apply Uz (Ϥ4).go (x:=(Þ k-ϰg,(ô).l)) ϦB M ?_;let:=lb.2.2 _ M;rw[Sw];show Pi Á
theorem SX(i:Nat):å (fL (Ε i)):=PN λx h c hc=>by delta eg at h;let(k,_,rfl):=ϹR;let hc:c∈϶V:=hc;rcases xP (ts:=ts) k i with s|s|s<;>(rw[s]at hc;let:=K95.mp hc;lia)
theorem Rt:å (fL ϰa):=PN λx H c hc=>by
 delta d8 at H;let(k,_,rfl):=ϴa;delta nv at hc;dsimp only at hc;rw[bj]at hc;delta jS at hc;let(i,_,rfl):=Β hc;rcases lJ (Þ k) (ĉ k) (bD (ĉ k)+i)with h|h|h|h<;>lia
theorem ON(C:Ĝ)(B:ϴl)(L:ϲL)(U:ϳG)(a:À (À<|À Pt)):(ň).foldl grS a=a++[ň]:=by
 delta aS;apply Tg (I_ C B L U) ϯS a;rcases Y7.mp h with h|h
 .let(i,_,rfl):=ϹR
  show SX _
 split at h
 .cases h
 rw[K95.mp h];show Rt
theorem SI(C:Ĝ)(B:ϴl):∀(X:À Ó)(a:À (À<|À Pt)),(∀r∈X,ϲL/\ϳG)->(ϲU X).foldl grS a=a++X.map όk:=by
 ext X
 induction X with
 |nil=>ext a _;show ϵQ (Zw _)
 |cons r X ih=>
  ext a h;let H:=h r Uf;change(ϰW (r::X) όk).foldl grS a=_;rw[Zan,Zbr,ON C B H.1 H.2];let:=ih (a++[ň]) λx m=>h x<|Ą m;delta jC at this;rw[this,K9M];rfl
theorem Oq(bad:Fs){c:F}(p:ϲ9)(C:Ĝ)(B:ϴl)(H:ϱo 40)(l:∀k,ċ->Τ 1 (ô).t 9)(ok:ϫQ (ϲU ò)):
  Ξ 3 (lpB bad) [Ö<|txD<|ϲU ò]=Ď (grO<|Î ò όk):=by
 let he:=ϲa;let a:=϶9;let nl:ϹB (Ã ò):=(eT he a).2;let lv:∀r∈ò,ϲL/\ϳG:=ϖo he q.1
 let al:=ϓ1 l (L:=ò) (λr hr=>⟨(lv r hr).1.lt,(lv r hr).2⟩)
 let e:=SI C B ò [] lv;rw[K9B]at e;rw[yp bad ϯS ok Á]
 .unfold grF
  rw[e]
 cases hn:K1 ts with
 |nil=>rw[hn]at h;cases h
 |cons r X=>
  rw[hn]at h;let q:=lv r (Ù hn Uf);let h:(ň++ϲU X).head?=ö:=h;delta aS at h;cases h;show I_ C B q.1 q.2
end
theorem wD{P:Ô (À α)}(a:P [])(h:∀l x,P l->P (l++[x]))(l:À α):P l:=by
 let:∀r:À α,P r.reverse:=by
  ext r
  induction r with|nil=>show a|cons x r ih=>rw[K8T];show ϩq ih
 let:=this l.reverse;rw[Zbs]at this;show this
section
variable{κ:Type}[DecidableEq κ]
def vG(v:À ϶n)(k:κ):Ú Go:=(v.find? λK=>Ë π).map Ī
def pG(v:À ϶n)(k:κ)(d:Go):À ϶n:=
 Ì (Γ v.any (λK=>Ë π)) (v.map (λK=>Ì π (K.1,d) K)) ϓK
theorem nV{p:϶n}{r:À ϶n}{j:κ}(h:p.1=j):vG (p::r) j=Â p.2:=ϰM vG K8p ϵc
theorem nJ{p:϶n}{r:À ϶n}{j:κ}(h:¬p.1=j):vG (p::r) j=vG r j:=ν vG K8p ϲR
theorem Li(k j:κ)(y:Go):∀v:À ϶n,vG (v.map λK=>Ì π (K.1,y) K) j=Î (vG v j) λx=>if j=k then y else x
 |[]=>rfl
 |p::r=>by
  let i:=Li k j y r;rw[W1];by_cases e:p.1=j
  .by_cases h:ϵG
   .rw[Ÿ,nV (p:=(p.1,y)) e,nV e,Zai,Os<|e.symm.trans h]
   .rw[χ,nV e,nV e,Zai,P3 (ϻP e.trans)]
  .by_cases h:ϵG
   .rw[Ÿ,nJ (p:=(p.1,y)) e,nJ e,i]
   .rw[χ,nJ e,nJ e,i]
theorem D6(k:κ):∀v:À ϶n,(v.any λK=>Ë π)=ϷN (vG v k)
 |[]=>rfl
 |p::r=>by
  rw[K80];by_cases e:ϵG
  .rw[Tl e,nV e]
   rfl
  .rw[Pi e,nJ e,Bool.false_or,D6 k r]
theorem EW(k j:κ)(y:Go):∀v:À ϶n,vG v k=none->vG (v++[(k,y)]) j=Ì (j=k) ϱO (vG v j)
 |[],_=>by
  by_cases e:k=j
  .rw[Os e.symm];show nV (p:=(k,y)) e
  .rw[P3 λz=>e z.symm];show nJ (p:=(k,y)) e
 |p::r,hn=>by
  rw[K92];let h:¬ϵG:=λz=>by rw[nV z]at hn;cases hn
  rw[nJ h]at hn;let i:=EW k j y r hn;by_cases e:p.1=j
  .rw[nV e,nV e,P3 (ϻP e.trans)]
  .rw[nJ e,nJ e,i]
theorem K5(v:À ϶n)(k j:κ)(y:Go):vG (pG v k y) j=Ì (j=k) ϱO (vG v j):=by
 delta pG;by_cases a:Γ v.any (λK=>Ë π)
 .rw[Os a,Li]
  rw[D6]at a;by_cases e:j=k
  .let(x,h):=Option.isSome_iff_exists.mp a
   rw[ϳS,e,h,Zai,ė]
  rw[ϰ4];cases vG v j with|none=>rfl|some x=>rw[Zai,ϰ4]
 rw[P3 a];apply EW k j y v ?_;rw[D6]at a;cases q:vG v k with|none=>rfl|some x=>rw[q]at a;show ϴt (a rfl)
theorem zi(s:À ϶n)(k:κ)(v:Go):Ã (pG s k v)<=ϤK:=by
 delta pG;split
 .rw[I4];lia
 rw[S5,Zo,K8U];lia
end
theorem s_(v:À ϰo)(k j:Key)(y:Go):eI (putD v k y) j=Ì (j=k) ϱO (eI v j):=K5 v k j y
theorem length_putD(s:À ϰo)(k:Key)(v:Go):Ã (putD s k v)<=ϤK:=zi s k v
theorem qB(v:À (À Key×Go))(k j:À Key)(y:Go):oE (uT v k y) j=Ì (j=k) ϱO (oE v j):=K5 v k j y
theorem va(s:À (À Key×Go))(k:À Key)(v:Go):Ã (uT s k v)<=ϤK:=zi s k v
def isUp(c:Nat):Bool:=Ë<|c=43\/c=35
theorem RC(k:Fin 128):Ϛm (è "+#")=isUp k.val:=ώ6
theorem Qg{c:Nat}(h:c<128):inS Š (è "+#")=isUp c:=RC ⟨c,h⟩
def mkB(x:Pt):Int:=É x.1+(if ϵ3 (è "^")<ϵ3 (è "#")then ϵ3 (è "#")else ϵ3 (è "^"))
def upS(x:Pt)(q:À όq):À ϻp:=(q.filter λq=>isUp q.1).map λq=>(x.1+q.2,Ϫ9)
def upW(x:Pt):À ϻp:=϶A (đ).zipIdx
def dU(U:À ϻp):À ϰo:=U.foldl (λD u=>putD D (È (É u.1)) u.2) []
theorem qT(U:À ϻp)(u:ϻp):dU (U++[u])=putD ϻ2 (È (É u.1)) u.2:=ϱl dU Zbr
theorem Ec(U:À ϻp):Ã ϻ2<=U.length:=by
 apply wD (P:=λU=>Ã ϻ2<=U.length) ß (λU u i=>?_) U;rw[qT,S5,Zq];let:=length_putD ϻ2 (È (É u.1)) u.2;lia
theorem J3{U:À ϻp}{p:Nat}{v:Go}(H:(p,v)∈U)(a:ϘZ):eI ϻ2 (È Ū)=ú:=by
 apply wD (P:=λU=>(p,v)∈U->ϘZ->eI ϻ2 (È Ū)=ú) (λh=>ϰn) (λU u i H h=>?_) U H a;rw[qT,s_];by_cases e:u.1=p
 .let:u.2=v:=h u.2 (by rw[<-e];show ũ Uf)
  rw[Os (by rw[e]),this]
 rw[P3 λz=>e<|þ (K82 z)];apply i ?_ λw m=>h w<|ϰX m;rcases Y7.mp H with m|m
 .exact m
 rw[K95]at m;show Đ (by rw[<-m]) e
theorem Fy(x:Pt)(q:À όq):Ã (϶A q)<=q.length:=by delta upS;rw[I4];show K8i _ _
theorem Mw:∀(p:À Pt)(n:Nat),Ã (ϰW ϯe upW)<=Ã (Y3 n p):=by
 ext p
 induction p with
 |nil=>ext n;show ß
 |cons x p ih=>
  ext n;let(c,w):=x;rw[Y3c,S5,S5];let h:=ih<|c+Ã â;let H:=Fy (c,w) (â).zipIdx;rw[K8I]at H;rw[K8O];split
  .rw[Zan,S5]
   let H:Ã (upW (c,w))<=Ã â:=H;lia
  lia
theorem Qh:IW s t=Ä (Txt.find s t):=rfl
theorem O9{p:À Pt}(h:Zn p):bt [Æ ϰ1]=Ϸm (dU<|ϰW ϯe upW):=by
 delta bt ft;let(u,U,f,m,g,n):=xf h;let w:=sP ϰ1<|E1 h;rw[m]at w;let ul:=Mw p 0;let ln:=h.ln;let ws:∀x∈ϯe,(ϱI đ)/\ϲ6 (Ã x.2):=λx H=>by
  let H:=(K89.mp H).1;apply(h.asc x H,?_);let:=h.bd x H;rw[aU];change Ã đ<=_;lia
 generalize ϯe=W at w ul ws;let G:ϰH (W.map λx=>ë Ϸu) (W.map ptD):=Ù Tk ϶X
 let t:∀i,Ã (ϰW Θ upW)<=Ã ϑO:=λi=>by
  conv=>rhs;rw[<-Zaw i W,Zam,S5]
  lia
 simp![Dw,w,G];generalize L:Ŋ=rr;apply Ϸf (λi a=>∃V E b v v6:Ú OD,a=[æ<|Æ ϰ1,όe<|ϰW Θ upW,V,E,b,v,v6]) ϙT
 .rintro i d a hd ⟨V,E,b,v,v6,rfl⟩
  rw[Oe]at hd;let(x,H,rfl):=ϲ3;let(A,wl):=ws x ϶F;let B:ü (Ã x.2):=bQ wl;let al:x.2.cps.all ϫK=true:=by
   rw[Zcd];ext c hc;let:=A c ώL;simpa using this
  let K:=Ql al;let mk:É x.1+(if ϵ3 (è "^")<ϵ3 (è "#")then ϵ3 (è "#")else ϵ3 (è "^"))=mkB x:=rfl;let tk:Ϻ6=Θ++[x]:=ϪR;let t0:ϰW Ϻ6 upW=ϰW Θ upW++϶A (đ).zipIdx:=ϵv tk Zam Zaz
  let t1:=t<|i+1;rw[t0]at t1;delta ptD;simp![uZ,u_,uV,Qh,B,mk,Qr,K];generalize l:Ŋ=r2
  apply bJ l (λj a=>∃v v6:Ú OD,a=[æ<|Æ ϰ1,όe ϷW,æ<|Ä (É x.1),æ<|Æ x.2,æ<|Ä<|mkB x,v,v6]) ⟨_,_,by
   rw[K7s];change ϕx
   rw[Zw]⟩ ?_ ?_
  .rintro j d a hd ⟨v,v6,rfl⟩
   let(e,he,rfl):=Ϧh;delta signs at he;rw[Oe]at he;let(c,hc,rfl):=ϷP he;let hc:Ĵ đ=ã:=hc;let up:=Qg<|A c Ϩ1;let Z:Ĵ (đ).zipIdx=Â (c,j):=ϵv K8S hc K87
   let tz:(đ).zipIdx.take (j+1)=(đ).zipIdx.take j++[(c,j)]:=take_snoc Z;let S:϶A ((đ).zipIdx.take<|j+1)=϶A ((đ).zipIdx.take j)++(Ì (Ϲ5 isUp) [(x.1+j,Ϫ9)] []):=ϔ7
   let dl:ϲ6 (Ã (dU ϷW)):=by
    let:=Ec ϷW;let q:Ã (϶A<|(đ).zipIdx.take j)<=Ã (϶A (đ).zipIdx):=by
     conv=>rhs;rw[<-Zaw j (đ).zipIdx]
     delta upS;rw[K8o,Z6,S5];lia
    rw[S5]at this t1;lia
   let D:ϰT (Ã (dU ϷW)):=ϰr (Zbn dl ç);rw[S];cases hu:isUp c with
   |true=>
    rw[hu]at up;let y:É x.1+ĺ=Ð (x.1+j):=Á
    let sn:=qT ϷW (x.1+j,Ϫ9);dsimp only at sn;rw[K9M]at sn;rw[ė];simp![AB,up,Ah,AV,y,D,<-sn];show(_,_,rfl)
   |false=>rw[hu]at up;rw[ϲy,Zw];simp![AB,up];show(_,_,rfl)
  ext ρ' rfl ⟨v,v6,rfl⟩;let e1:Ã (fj<|signs x.2)=(đ).zipIdx.length:=ϕN
  rw[e1,K90 ß,<-t0];simp![Y2];show(_,_,_,_,_,rfl)
 ext ρ' rfl ⟨V,E,b,v,v6,rfl⟩;rw[I4,K90 ß];simp![Y2]
theorem JH{T:À Nd}{c:F}(p:ϳd)(D0:Int)(hg:ϴ5)(h:ϰw){j:Nat}(J:ϴH)(hc:é≠[]):∃a b,a∈é/\b∈é/\Τ (ο a) (ο j) (ο b):=by
 let he:=ϲa;let H:=϶9;let O:=ϫM H h hc;let(e,l,S,E0,s):=Fh p D0 hg h J hc;let ol:Ã ŭ=Ã é:=I4 _;let n:0<Ã é:=϶O hc;let Z:gv e 0=0:=S.isE.1;let f:ϲQ 0=0:=A4 Á S.isE S.isL rfl;let z:ϲQ (Ã é-1)=gv e (Ã é-1):=϶N S.isL.1 ol
 let g:=S.eq 0 Á;let e1:=S.eq (Ã é-1) Á;rw[ol]at g e1;rw[Z,f]at g;rw[z]at e1;let G:é[0]?=some é[0]:=Rw n;let g1:é[Ã é-1]?=some é[Ã é-1]:=Rw Á;let P:=ϹJ H h J G;let B:=ϹJ H h J g1;show(é[0],é[Ã é-1],ϴk,ϴk,Á,Á)
theorem Dy{t:Ó}{c i:Nat}:StrLaws.At ŕ ϻz (Ã ŕ) i↔t[i]?=ã:=϶N (StrLaws.subAt_one ŕ c i) (ń (ϰe ŕ=t) (bj t))
theorem F7{t:Ó}{c p:Nat}(h:t[p]?=ã)(H:∀q,t[q]?=ã->q=p):Txt.find ŕ ϻz=Ū:=by
 rcases PyProof.Rows.find_whole ŕ ϻz with⟨_,n⟩|⟨i,e,A,k⟩
 .exact Đ (Dy.mpr h)<|n p
 rw[e,H i<|Dy.mp A]
theorem EY{t:Ó}{c:Nat}(h:∀q:Nat,t[q]?≠ã):Txt.find ŕ ϻz=-1:=by
 rcases PyProof.Rows.find_whole ŕ ϻz with⟨e,_⟩|⟨i,_,A,_⟩
 .exact e
 show Đ (Dy.mp A)<|h i
theorem s94:è "^"=ĳ 94:=ç
theorem s35:è "#"=ĳ 35:=ç
theorem tH{own:Nat}{bs:Ó}{q c:Nat}:ϤN[q]?=ã↔q<ϷL+1-Ņ/\ϰO (Ņ+q)=c:=by
 delta jS;rw[Oe];constructor
 .intro h
  let(i,H,a):=Ϸp;let f:=(Za.mp H);let(b,g):=f;rw[List.getElem_range]at g;rw[Z1]at b;subst g;show(b,a)
 ext⟨H,a⟩;rw[K9Z H,Zai,a]
theorem RQ{own:Nat}{bs:Ó}(H:Ņ<=own)(a:own<=ϷL):mkB (Ņ,sS ϤN)=É own:=by
 delta mkB;dsimp only;rw[s94,s35];let at0:∀c,ϰO own=c->ϤN[own-Ņ]?=ã:=λc e=>tH.mpr ⟨Á,ϧY (ó (Ņ+(own-Ņ)=own))⟩;let t:∀c,(c=35\/c=94)->∀q,ϤN[q]?=ã->q=own-Ņ/\ϰO own=c:=λc hc q h=>by
  let(_,e):=tH.mp h;by_cases j:Ņ+q=own
  .rw[j]at e
   show(Á,e)
  delta eh at e;rw[P3 j]at e;split at e<;>lia
 by_cases M:own∈bs
 .let b:ϰO own=35:=ν eh ė (Os M)
  rw[F7 (at0 35 b) λq h=>(t 35 (È rfl) q h).1,EY λq h=>þ (t 94 (Ñ rfl) q h).2];rw[Os Á];lia
 let b:ϰO own=94:=ν eh ė (P3 M)
 rw[F7 (at0 94 b) λq h=>(t 94 (Ñ rfl) q h).1,EY (c:=35) λq h=>þ (t 35 (È rfl) q h).2];rw[P3 Á];lia
theorem Lq{own:Nat}{bs:Ó}(H:Ņ<=own)(d:own<=ϷL){p:Nat}{v:Go}:(p,v)∈upW (Ņ,sS ϤN)↔(Ņ<=p/\p<=ϷL/\p∈bs)/\v=Ä (É own):=by
 delta upW upS;rw[RQ H d];dsimp only;rw[bj];let u:∀c,isUp (ϰO c)=Ë ϥG:=λc=>by
  delta eh isUp;by_cases M:ϥG
  .rw[Tl M]
   split<;>simp[M]
  rw[Pi M]
  split<;>simp[M]
 constructor
 .intro h
  let(q,f,e):=ϹR;let(Q,k):=K89.mp f;let(c,i):=q;let Q:=List.mem_zipIdx_iff_getElem?.mp Q;dsimp only at Q k e;let(a,b):=tH.mp Q;rw[<-b,u]at k;cases e;show((Á,Á,of_decide_eq_true k),rfl)
 rintro⟨⟨a,b,c⟩,rfl⟩;apply ϱ6 ⟨(ϰO p,p-Ņ),Ϭm ⟨List.mem_zipIdx_iff_getElem?.mpr ?_,?_⟩,?_⟩
 .exact tH.mpr ⟨by dsimp only;lia,by dsimp only;rw[ó (ϑS Ņ=p)]⟩
 .dsimp only
  rw[u];show Tl c
 dsimp only;rw[ó (ϑS Ņ=p)]
section
variable{ts:À Nd}{D0:Int}{r:Ó}
theorem xi(C:Ĝ){c:F}(p:ϲ9){k a:Nat}(K:ċ)(h:a∈Ě):Τ (bD (ĉ k)) (Þ a) (gj (ĉ k)):=by
 let he:=ϲa;let(i,hi,E):=LF h;let L:Ã (ĉ k)=Ã Ě:=Ň aR I4
 let at_:∀i(hi:i<Ã Ě),ę (û<|ĉ k) 0=Þ (Ě[i]):=ϸZ (ϰM aR Oe ϲO)
 let A:Ě[i]=a:=by rw[ϲO]at E;show Zz E
 let mono:∀u v(U:u<Ã Ě)(H:v<Ã Ě),u<=v->Þ (Ě[u])<=Þ (Ě[v]):=λu v U H V=>by
  by_cases e:u=v
  .subst e;show ß
  let lt:=ϬZ (Fu ts k) u v U H Á;let m0:Ě[u]∈Ě:=ϴk;let M:Ě[v]∈Ě:=ϴk;let:=ώu (by rw[ϱ7 m0,ϱ7 M]);lia
 delta bD gj;rw[L,at_ 0 Á,at_ _ Á,<-A];show(mono 0 i Á hi Á,mono i _ hi Á Á)
theorem Eh(C:Ĝ){c:F}(p:ϲ9)(hg:ϴ5)(l:ϱo 100){k:Nat}(h:ċ)(hc:Ě≠[]):Τ (bD (ĉ k)) (Þ k) (gj (ĉ k)):=by
 let H:=϶9;let(a,b,e,B,f,i):=JH p D0 hg l h hc;let A:=(aM.mp e).1;let d:=(aM.mp B).1;let e1:=C.at_ k h;let g:=C.at_ a A;let G:=C.at_ b d;rw[pf H h]at e1;rw[pf H A]at g;rw[pf H d]at G;let q:=(xi C p h e).1;let Q:=(xi C p h B).2;lia
theorem AS(C:Ĝ){x y:Nat}(H:ϪQ)(Y:y<ts.length)(e:ĵ x=ĵ y)(h:Þ x=Þ y):x=y:=by
 rcases Zau x y with z|z|z
 .let:=C.ap x y H Y z e;lia
 .exact z
 let:=C.ap y x Y H z e.symm;lia
theorem Nj(C:CF T D0){c:F}(p:ϳd)(hg:ϴ5)(g:ϰw)(L:Lv T r){k j:Nat}(H:ϳO)(J:j∈Ĭ):eI (dU<|ϰW όt upW) (È (Ð (ϱe j)))=Â (Ä (Ð (ϱe k))):=by
 let he:=ϲa;let em:∀k∈ϩg,ϳO/\š/\Ĭ≠[]:=϶K (by let(d,f):=K89.mp H;show(d,ϱr d,λz=>by rw[z]at f;show absurd f Õ))
 let mem:∀{q:Nat}{v:Go},(q,v)∈ϰW όt upW↔∃k∈ϩg,(ϗ7 ϪY q<|q∈ϪY)/\v=Ä (Ð (ϱe k)):=fun{q v}=>by
  rw[List.mem_flatMap];constructor
  .rintro⟨x,hx,h⟩
   delta d8 at hx;let(k,H,rfl):=Β hx;let o:=ϕF;show(k,H,(Lq o.1 o.2).mp h)
  ext⟨k,H,h⟩;let o:=ϕF;show(nv T D0 k,ϱ6 ⟨k,H,rfl⟩,(Lq o.1 o.2).mpr h)
 let K:=ϱr H;let t:k∈ϩg:=K89.mpr ⟨H,Tl (by
  let:=϶O<|Zcs J
  lia)⟩
 apply J3 (mem.mpr ⟨k,t,⟨(xi C p K J).1,(xi C p K J).2,ϱ6 ⟨j,J,rfl⟩⟩,rfl⟩) όl;obtain⟨b,a,⟨_,_,n⟩,rfl⟩:=mem.mp W;let(s,i,e):=Zc.mp n;let(lv,l):=L.lv;let u:ϰ3 s=ϰ3 j:=by rw[ϱ7 J,ϱ7 i,l k H,l b (em b a).1]
 let m:=AS C (aM.mp i).1 ϯB u e;subst m;let e1:=(aM.mp J).2;let E:=(aM.mp i).2;rw[e1]at E;let:k=b:=Á
 rw[this]
end
def wyL(T:À Nd)(D0:Int):ύM (À Int)|0,k=>[Ð (ϱe k)]|l+1,k=>wyL T D0 l (ā (ī k))++[Ð (ϱe k)]
theorem wyS{T D0 l k}:wyL T D0 (l+1) k=wyL T D0 l (ā (ī k))++[Ð (ϱe k)]:=rfl
def wy(T:À Nd)(D0:Int)(k:Nat):À Int:=wyL T D0 (ϰ3 k) k
def wyD(T:À Nd)(D0:Int)(k:Nat):Go:=ä<|Î ϧ5 int
def tF(T:À Nd)(D0:Int)(k:Nat):NK:=(ϧ5,[Ñ (ϳa).l,È (ϳa).t])
def jB(T:À Nd)(D0:Int)(k:Nat):Go:=nkD<|tF T D0 k
def dW(T:À Nd)(D0:Int)(r:Ó):À ϰo:=dU<|ϳz (ϱe k,wyD T D0 k)
section
variable{ts:À Nd}{D0:Int}{r:Ó}
theorem Fx{k:Nat}(h:ϰ3 k=0):ϧ5=[Ð (ϱe k)]:=ϐf wy
theorem lA(he:Ž){k j:Nat}(h:j∈Ĭ):wy T D0 j=ϧ5++[Ð (ϱe j)]:=by delta wy;rw[ϱ7 h];change wyL T D0 _ (ā (ī j))++_=_;rw[(ϫ5).2];rfl
theorem JO(C:CF T D0)(L:Lv T r){k:Nat}(h:ϳO):eI (dW T D0 r) (È (Ð (ϱe k)))=Â (wyD T D0 k):=by
 apply J3 ϦB ϹD;let(j,J,e):=ϴa;let(l,a):=L.lv;let:=AS C (L.lt j J) (ϱr h) (by rw[a j J,a k h]) (Prod.mk.inj e).1;subst this;show ϵQ (Prod.mk.inj e).2
theorem Ou(r:Ó)(k:Nat):ϧw (r++[k])=putD (ϧw r) (È (Ð (Þ k))) ϪC:=by delta dW;rw[Z6];show qT _ _
theorem RU(r:Ó):Ã (ϧw r)<=r.length:=϶N (Ec<|ϳz (Þ k,ϪC)) I4
theorem eF(he:Ϻg){i:Nat}(hi:û ò=ϱx){k:Nat}:ϳO↔ċ/\ĵ k=i:=by
 let e:=xm he;let jl:=Ϯ5;let er:r=ļ ϵW λk=>Ë ((ę (ϱf[k]?) 0)=i):=by
  let g:=Zh (λl=>l[i]?) e;let G:û ò=_:=g;rw[hi,Oe,K9Z jl]at G;show Zz G
 rw[er,K89,Zl,K9k];rfl
theorem BF(he:Ϻg){k:Nat}(H:ċ)(a:0<k):∃e:Nat,k∈ϲN e/\e<ts.length:=by obtain⟨n,N⟩:∃n,ts[k]?=ŵ:=ϴ7 (Rw H);let(_,h,b):=he k n N;let h:=h a;show(n.e.toNat,aM.mpr ⟨H,ñ (eG N)⟩,Á)
def abv(T:À Nd)(D0:Int):Nat->À ϰo|0=>[(È<|-1,ä [])]|i+1=>dW T D0<|ę (û ϥ0) []
def brs(T:À Nd)(D0:Int):Nat->À ϰo|0=>[]|i+1=>dU<|ϰW (ļ (ę (aS T D0<|ę (û ϥ0) []).getLast? []) nbP) upW
theorem JT(h:ś≠[]):ę (ň).getLast? []=ϰa:=by delta aS;rw[χ,List.getLast?_cons,List.getLast?_append];rfl
theorem Na(C:CF T D0){c:F}(p:ϳd)(hg:ϴ5)(l:ϰw){i:Nat}(hi:û ϥ0=ϱx){k:Nat}(a:ϳO):
  ∃z:Int,(ę (eI (brs T D0 i)<|È (Ð (ϱe k)))<|Ä<|-1)=Ä z/\∃w:À Int,eI (abv T D0 i) (È z)=Â (ä ϳ1)/\ϧ5=w++[Ð (ϱe k)]:=by
 let he:=ϲa;let(b,K):=(Ϩ3 hi).mp a;cases i with
 |zero=>show(-1,rfl,[],rfl,Fx K)
 |succ i=>
  let jl:=Ϯ5;obtain⟨q,H⟩:∃q,û ϥ0=Â q:=ϰc Á
  let(L,_,_):=ϥU ϶F;let k0:0<k:=by
   rcases Zah k with z|z
   .subst z
    rw[fE he ϶9]at K;cases K
   show z
  obtain⟨e,h,y⟩:∃e:Nat,k∈Ϥe e/\e<T.length:=BF he b k0;let eq:e∈q:=(Ϩ3 H).mpr ⟨y,þ (ϱ7 h)⟩
  let n:cP T q≠[]:=Zcs (K89.mpr ⟨eq,Tl (by
   let:=϶O<|Zcs h
   lia)⟩)
  apply(Ð (ϱe e),?_,wy T D0 e,?_,Ϧj h)
  .rw[brs,H,Zas,JT n,TU,Nj C p hg l L eq h]
   rfl
  rw[abv,H,Zas];show JO C L eq
end
def lkB(bad:Fs)(f:Fn):Fs:=(ao (ϱN ϰZ)
 (ao (Ŵ<|Y0<|eD1 (Ĥ<|Ê 1) ϻM)
 (ao (œ<|Y0 eD0)
 (ao (dJ (de<|ak f<|Ï 0 ah) Ϸx (ao (ϱd eD0)
 (ao (dJ (de<|ϓg<|Ï 4 ah) (Ϸa<|ϵ4 6<|Ρ 7 8 cW) (ao (ϫv<|rC į ϷA<|Ĥ<|Ê 1)
 (ao (ϲb (Ò Ϩd 9 ŏ) bad Z9)
 (ao (ώI<|F4 oV (Ò gDx 2 ϩt)<|dZ<|Ï 6 ah)
 (Ϸi<|dZ<|ώv<|Ï 7<|Ï 8 ah)))))
 (ao (Z4 (uu<|av<|ϴQ (Č<|Ï 1 ah)<|Ê 40) bad Z9)
 (ao (pW 5<|Ŵ ϳL)
 (œ<|Y0<|ϲM bt<|Ò Rg 4<|Ĥ<|Ê 1))))))
 ϶x))))
theorem Iu(X:À (À Pt)):Î (txO X) OD.er=ϩj:=by delta txO txD;rw[Tk];show Zt λx _=>ϵE
theorem SG(G:À (À<|À Pt)):Î (grO G) OD.er=G.map λg=>ϫg (txD g):=by
 delta grO;rw[Tk];apply Zt λg _=>?_;change(ϳT<|txO g).er=_;rw[vf,Iu]
section
variable{ts:À Nd}{D0:Int}{r:Ó}
theorem Lv.take(L:ϲL)(j:Nat):Lv ts ϹF:=⟨϶K (ϱr ϩh),L.pw.sublist Ϙd,let⟨l,h⟩:=L.lv;⟨l,϶K (h k ϩh)⟩⟩
theorem Ie(he:Ϻg)(i:Nat):ϹB (Ϫy (ý ò i)):=by
 let ok:=ϬP ß;let s:=ok.sum;rw[List.length_flatten]
 conv at s=>lhs;rw[<-Zaw i (bW ϱf ts.length),Z6,Zbo]
 let:Î (ý ò i) List.length=Î (ý (bW ϱf ts.length) i) List.length:=rfl;rw[this];lia
theorem Vh(k:Nat):ϱM k≠[]:=by
 delta wy;cases Wp ts k with|zero=>show ϲI|succ l=>show Zby _ ϲI
theorem EA:∀(l k:Nat),Ã (wyL ts D0 l k)=l+1|0,_=>rfl|l+1,k=>by rw[wyS,S5,EA l,Zq]
theorem HQ(bad:Fs)(E:Fn){c:F}(p:ϲ9)(C:Ĝ)(hb:ϴl)(hg:ϴ5)(hl:ϱo 40)(ht:∀k,ċ->Τ 1 (ô).t 9)(ok:ϫQ (ϲU ò))
  (f:E [Ö<|txD<|ϲU ò]=Ď (grO<|Î ò όk)):
  Ξ 10 (lkB bad E) [Ö<|txD<|ϲU ò]=Ď (Ϲu ò (ϳs jB)):=by
 let he:=ϲa;let o:∀r∈ò,ϫQ ň:=λr hr s P=>ok s<|List.mem_flatMap.mpr ⟨r,hr,P⟩;delta lkB;generalize txD (ϲU ò)=A at f;let B:ϭ8 [(È<|-1,ä [])] abv 0:=rE _;let g:ϭ8 [] brs 0:=rE _;let d1:∀a:L3.Env,eD1 (Ĥ<|Ê 1) ϻM a=Ϸm [(È<|-1,ä [])]:=λa=>by
  rw[U7];simp![Y2];change ϳV (OD.od [(È<|-1,(ë<|ä []).er)])=_;rw[aW]
 simp![d1,Dw,B,g,f,SG];generalize hL:Ŋ=rr;apply bJ hL (λi a=>∃u D v6 v V b:Ú OD,a=[æ<|Ö A,ō<|Ϲu (ý ò i) (ϳs jB),æ<|Ϲv abv,æ<|Ϲv brs,u,D,v6,v,V,b]) ⟨_,_,_,_,_,_,rfl⟩ ?_ ?_
 .rintro i d a hd ⟨u,D,v6,v,V,b,rfl⟩
  rw[Tk,Oe]at hd;let(r,h,rfl):=ϲ3;let M:=ϳN;let(L,rn,rl):=ϥU M;let lo:=Hu C hb L ht rn Á<|o r M;let le:ϰH (ϳn<|(ϳs Cr)) (ϳz (Cr ts D0 k)):=Ù Tk ϶X
  let tk:ý ò (i+1)=ý ò i++[r]:=Ϲs;let e:ϳK (ý ò<|i+1)=ϳK (ý ò i)++r:=by rw[tk,List.flatten_append,List.flatten_singleton]
  let f1:=Ie he<|i+1;rw[e,S5]at f1;change uF _ (Zi _<|Ϸx (.sh<|Ö<|txD ň) _);simp![Dw,lo,le];generalize q:Ŋ=r2;apply bJ q (λj a=>∃v6 v V b:Ú OD,a=[æ<|Ö A,ō<|Î (ϳK (ý ò i)++ϹF) (ϳs jB),æ<|Ϲv abv,æ<|Ϲv brs,ì<|txD ň,some<|.od<|ϧw ϹF,v6,v,V,b]) ⟨_,_,_,_,ϲ5 K7s Zw⟩ ?_ ?_
  .rintro j d a hd ⟨v6,v,V,b,rfl⟩
   rw[Oe]at hd;let(k,K,rfl):=ϲ3;let G:=Ts K;let(z,hz,w,W,H):=Na C p hg Á h G;let T:ϒf=ϹF++[k]:=Ϩf K;let sn:=Ou (ts:=ts) (D0:=D0) ϹF k;rw[<-T]at sn;let wd:ϰx (ϳ1++[Ä (Ð (Þ k))])=ϪC:=by delta wyD;rw[H,Z6];rfl
   let wl:w.length<=100:=by
    let:=Ŧ H;rw[S5,Zq]at this;let h2:Ã (ϱM k)=ĵ k+1:=EA _ _;let I:=((Ϩ3 h).mp G).2;let J:=ϲE;let N:ϹB (Ã ò):=(eT he ϶9).2;lia
   let ad:oV (ä ϳ1) (ä [Ä (Ð (Þ k))])=Ý ϪC:=ϰB (FJ _ _ ϲI (Ù I4<|Ş<|ñ Zq)) wd
   let gi:Ϩd (Ä z) (Ϲv abv)=Ý (í false):=by rw[LV,W];rfl
   let dx:gDx (Ϲv abv) (Ä z)=Ý (ä ϳ1):=by rw[V3,W];rfl
   let dl:=RU (ts:=ts) (D0:=D0) ϹF;rw[Zk]at dl;let dB:ϰT (Ã (ϧw ϹF)):=d9 Á;let vo:=Qv (Ϝb<|show k∈ϒf by rw[T];show ũ Uf);let n:ϰT (Ã (ϳK (ý ò i)++ϹF)):=d9 (ξ S5 Zk);let ap:(Î (ϳK (ý ò i)++ϹF) (ϳs jB))++[ë<|ä [ϪC,Æ (ô).l,Ä (ô).t]]=Î (ϳK (ý ò i)++ϒf) (ϳs jB):=by rw[T,<-K9M,Z6 (l₂:=[k])];rfl
   delta Cr;let gd:∀O Q S U X,rC į ϷA (Ĥ<|Ê 1) [æ<|Ö A,O,æ<|Ϲv abv,æ<|Ϲv brs,ì<|txD ň,Q,æ<|Ä (Ð (Þ k)),S,U,X]=Ý (Ä z):=λO Q S U X=>by rw[Ln (L1:=brs ts D0 i) (x:=.sh<|Ϲv brs) (y:=.sh<|Ä (Ð (Þ k))) (z:=.sh<|Ä<|-1) rfl ϵE rfl ϵE rfl,aW,hz]
   simp![gd,gi,dx,ad,Ah,AV,dB,<-sn,Qo,vo,n,ap];show(_,_,_,_,rfl)
  ext ρ' rfl ⟨v6,v,V,b,rfl⟩;rw[I4,K90 ß,<-e];let lr:∃s,(ň).getLast?=some s/\s∈ň/\ϻW (txD ň)=Â (Æ ϲP):=by
   let hp:0<Ã ň:=by delta aS;rw[Zo];lia
   let h:ň[Ã ň-1]?=Â _:=Rw Á;apply(_,϶1 List.getLast?_eq_getElem?,ϳN,?_);delta Y9 txD;rw[I4,jF hp];change(_:À Go)[_]?=_;rw[Oe,h];rfl
  let(s,I,J,N):=lr;let Y:=O9<|o r M s J;let Z:ϭ8 (dU<|ϰW (s.filter nbP) upW) brs (i+1):=by rw[rE,brs,h,Zas,I];rfl
  let ab:ϭ8 (ϧw r) abv (i+1):=by rw[rE,abv,h];rfl
  let m:å (Ë (É 40<Ð ((Ϫy (ý ò<|i+1))))):=Pi ϐn;let n:ü (Ϫy (ý ò<|i+1)):=ax ϐn;simp![m,n,ab,N,Y,Z];show(_,_,_,_,_,_,rfl)
 ext ρ' rfl ⟨u,D,v6,v,V,b,rfl⟩;rw[I4,I4,K90 ß];simp![Y2]
end
theorem zQ:∀x:À Int,å (ltW x x)|[]=>rfl|a::x=>ϱq ltW ė (zQ x)
theorem Ey:∀x y:À Int,ϻE=true->å (ltW y x)
 |[],[],h=>ϰn
 |[],_::_,_=>rfl
 |_::_,[],h=>ϰn
 |a::x,b::y,h=>by
  rw[ltc]at h⊢;by_cases e:a=b
  .rw[ϳS]at h
   rw[Os e.symm];show Ey x y h
  .rw[ϰ4]at h
   rw[P3<|K8g e];show Pi (þ ϏP)
theorem JJ(a:Int):∀x:À Int,ltW x (x++[a])=true|[]=>rfl|b::x=>by rw[K92,ltc,ė];show JJ a x
theorem K8(z:À Int):∀x y:À Int,ϻE=true->ltW x (y++z)=true
 |[],[],h=>ϰn
 |[],_::_,_=>rfl
 |_::_,[],h=>ϰn
 |a::x,b::y,h=>by
  rw[ltc]at h;rw[K92,ltc];by_cases e:a=b
  .rw[ϳS]at h⊢
   show K8 z x y h
  .rw[ϰ4]at h⊢
   show h
theorem K9{a b:Int}(h:a<b)(x y:À Int):∀p:À Int,ltW (p++[a]++x) (p++[b]++y)=true
 |[]=>by
  change ltW (a::x) (b::y)=true;rw[ltc,P3 Á];show ϵc
 |c::p=>by
  change ltW (c::(p++[a]++x)) (c::(p++[b]++y))=true;rw[ltc,ė];show K9 h x y p
section
variable{ts:À Nd}{D0:Int}{c:F}
theorem UI(he:Ϻg):ϘJ (∃z,ϱM k=ϱM b++z):=by
 ext l
 induction l with|zero=>ext b k h;let h:k=b:=h;subst h;show([],ϵQ (Zw _))|succ l ih=>ext b k ⟨d,h1,h2⟩;let(z,Z):=ih d k h2;apply([Ð (Þ d)]++z,?_);rw[Z,Ϧj h1,K9M]
theorem UJ(he:Ϻg):ϘJ (b<=k):=by
 ext l
 induction l with
 |zero=>
  ext b k h;let h:k=b:=h;lia
 |succ l ih=>
  ext b k ⟨d,h1,h2⟩;let:=ih d k h2;let:=(ϲv h1).1;lia
theorem Qy(C:Ĝ)(p:ϲ9):∀m k,k<m->ϯC->ltW (ϱM k) (ϱM m)=true:=by
 let he:=ϲa;ext m
 induction m using Nat.strongRecOn with
 |ind m ih=>
  ext k K M;let(e,h,f):=BF he M Á;let em:=(ϲv h).1;rcases Zau k e with z|z|z
  .rw[Ϧj h]
   show K8 _ _ _<|ih e em k z f
  .subst z
   rw[Ϧj h];show JJ _ _
  let(s,g,q,i,Q):=CH p f;let ms:=(Q m M (þ (ϫ5).2)<|þ (ϫ5).2).2;let(l,H):=Ej he (j:=e) (s:=s) Á q k Á Á;cases l with
  |zero=>
   let H:k=e:=H;lia
  |succ l=>
   let(b,d,B):=H;let bk:=UJ he l b k B;let(y,Y):=UI (D0:=D0) he l b k B;let ap:=C.ap b m (aM.mp d).1 M Á (by rw[ϱ7 d,ϱ7 h]);rw[Y,Ϧj d,Ϧj h];let:=K9 (a:=(Ð (Þ b))) (b:=(Ð (Þ m))) Á y []<|ϱM e;rw[Zw]at this;show this
theorem Jv(C:Ĝ)(p:ϲ9){k m:Nat}(h:ċ)(M:ϯC):ltW (ϱM k) (ϱM m)=Ë (k<m):=by
 rcases Zau k m with z|z|z
 .rw[Qy C p m k z M,Tl z]
 .subst z
  rw[zQ,Pi Ϸv]
 rw[Ey _ _<|Qy C p k m z h,Pi Á]
theorem HL(C:Ĝ)(p:ϲ9){k m:Nat}(H:ċ)(M:ϯC)(h:ϱM k=ϱM m):k=m:=by
 let a:=Jv C p H M;let b:=Jv C p M H;rw[h,zQ]at a b;let:=of_decide_eq_false a.symm;let:=of_decide_eq_false b.symm;lia
theorem Lk(C:Ĝ)(p:ϲ9){k m:Nat}(H:ċ)(M:ϯC):ltN (όu k) (όu m)=Â (Ë<|k<m):=by
 delta ltN tF;dsimp only;by_cases h:ϱM k=ϱM m
 .let:=HL C p H M h
  subst this;rw[ė,Pi Ϸv];change Ì (_=_) (ltK [_] [_]) _=_;rw[ė];change Ì (_=_) (ltK [] []) _=_;rw[ė];rfl
 rw[χ,Jv C p H M]
theorem ur(he:Ϻg):(ò).flatten.Perm ϵW:=by
 let ok:=ϬP ß;apply(List.perm_ext_iff_of_nodup ?_ List.nodup_range).mpr ϥC
 .unfold List.Nodup
  rw[List.pairwise_flatten];apply(λr hr=>(ϥU hr).1.pw.imp λh=>K9O h,?_);rw[Zcu];ext i j hi J I x X y Y;let a:=((Ϩ3 ϲO).mp X).2;let b:=((Ϩ3 Ϻl).mp Y).2;ext rfl;lia
 rw[List.mem_flatten,Zl];constructor
 .rintro⟨r,hr,H⟩
  show(ϥU hr).1.lt k H
 ext H;obtain⟨v,V⟩:∃v,ϱf[k]?=ú:=ϰc (Ϲi b_)
 let L:=ok.lt k v H V;show(_,Zae L,((ok.row v _<|Rw L).2.2 k).mpr ⟨H,V⟩)
theorem N0(C:Ĝ)(p:ϲ9)(q:ϱo 40):vg [Ö<|Ϲu ò ϳy]=Ď (Ć ts.length (ϳs jB)):=by
 let he:=ϲa;let f:=ur he;let L:ϥb (Ϫy ò):=ϰB f.length_eq Z1
 let lt:∀k∈(ϳK ò),ċ:=λk K=>Zl.mp<|f.mem_iff.mp K;generalize (ϳK ò)=X at f L lt;let at0:∀i x,ϺK[i]?=ö->∃y,û X=ϱO/\x=όu y:=λi x e=>by rw[Oe]at e;let(y,H,d):=Zb.mp e;show(y,H,d.symm)
 let G:∀i y,û X=ϱO->ę ϺK i ([],[])=όu y:=λi y e=>by rw[Zab,Oe,e];rfl
 let S:ϭj ϺK:=by
  apply(ñ I4,λk K t g=>?_,λi j x y l Y=>?_)
  .let(x,_,rfl):=Β K
   let(y,_,rfl):=Β g;rfl
  let(m,H,rfl):=at0 i x l;let(n,d,rfl):=at0 j y Y;delta cNk;rw[G i m H,G j n d,ϔ2<|lt _<|Ts d];rfl
 let -zeta r:ĭ:=λi=>(Ð ϻh)
 let W:ώT (Ã ϺK) (cNk ϺK i j=Ϻk i j):=λi j hi J=>by
  rw[I4]at hi J;let H:û X=some X[i]:=ϲO;let d:Ĵ X=some X[j]:=Ϻl;delta cNk cK;rw[G i _ H,G j _ d,ϔ2<|lt _<|Ts d];change Ë ϒ6=Ë (Ð ϻh<Ð (X.getD j 0));rw[Zab,Zab,H,d];change Ë ϒ6=Ë (Ð (X[i])<Ð (X[j]));by_cases h:ϒ6
  .rw[ϵc,Tl Á]
  rw[ϲR,Pi Á]
 let e:=Ic S;let em:(ϺK).map nkD=X.map ϳy:=ϱJ Tk
 rw[em,Ea W,I4]at e;let op:=GC r X.length;let o:=Mm r X.length;let fin:Î ϐb (λi=>ϻh)=ϵW:=by
  let pm:(Î ϐb λi=>ϻh).Perm ϵW:=by
   apply Ę (Ę (op.map _) ?_) f;let:Ć X.length (λi=>ϻh)=X:=by
    apply K9K;ext i;rw[Oe];by_cases hi:ϓI
    .rw[Ϲ1,ϲO]
     change Â ϻh=_;rw[Zab,ϲO];rfl
    rw[K9c (ñ Z1),K9c Á];rfl
   rw[this]
  let s:((Î ϐb λi=>ϻh).map (Ģ á)).Pairwise ύm:=by rw[Tk,Zbe];show o
  let w:(Ć ts.length (Ģ á)).Pairwise ύm:=Ù Zbe (ϙW (λh=>Á))
  let E:=rA (pm.map (Ģ á)) s w;show(Zcr (λa b h=>by let h:ϲs=(b:Int):=h;lia)).mp E
 rw[e];congr 2;rw[<-fin,Tk];apply Zt;ext i hi;let I:ϓI:=ϘF;change ë (ę (X.map ϳy) i ù)=ë (ϳy ϻh);rw[Zab,Zab,Oe,Rw I];rfl
end
theorem Qk(h:1<=n):HT.Ze n n (Â<|-1)=n-1:=by
 delta HT.Ze;simp;lia
theorem Yw(X:À Go)(h:ύK 1):cutD X none (Â<|-1)=X.dropLast:=ϰM cutD (Qk h) List.dropLast_eq_take
theorem Jr(w:À Int)(a:Int):JG (ä<|Î (w++[a]) int) none (Â<|-1)=Ý (ä ϳ1):=by
 let h:1<=Ã (Î (w++[a]) int):=by rw[I4,S5,Zq];lia
 rw[W6,P3 ϴS,Yw _ h,Z6]
 .congr 3
  show List.dropLast_concat
 let:=z.2;rw[Qk h]at this;lia
section
variable{ts:À Nd}{D0:Int}{c:F}
def kyW(T:À Nd)(D0:Int)(k:Nat):À Key:=Î ϧ5 Sum.inl
def dT(T:À Nd)(D0:Int)(i:Nat):À (À Key×Go):=(϶u).foldl (λD k=>uT D (kyW T D0 k)<|Ä á) [([],Ä<|-1)]
theorem vR(i:Nat):ϴJ (i+1)=uT (ϴJ i) (ϧI i) (Ä Ċ):=ϰM dT K8A Zbr
theorem KW:∀i,Ã (ϴJ i)<=i+1
 |0=>ß
 |i+1=>by
  rw[vR];let:=va (ϴJ i) (ϧI i)<|Ä Ċ;let:=KW i;lia
theorem RV(k:Nat):ϧI k≠[]:=λz=>Vh k ϳX
theorem Jg:∀i,oE (ϴJ i) []=Â (Ä<|-1)|0=>rfl|i+1=>by rw[vR,qB,P3<|K8g<|RV i];show Jg i
theorem SK(C:Ĝ)(p:ϲ9):∀i,i<=ts.length->∀k,k<i->oE (ϴJ i) (ϧI k)=Â (Ä á):=by
 ext i
 induction i with
 |zero=>ext _ k h;lia
 |succ i ih=>
  ext hi k H;rw[vR,qB];by_cases e:k=i
  .subst e
   rw[ė]
  rw[P3 (λz:ϧI k=ϧI i=>e<|HL C p Á Á<|(Zcr λ_ _ y=>K82 y).mp z)];show ih Á k Á
theorem DH(C:Ĝ)(p:ϲ9)(o:ϱo 40):cF [Ö<|Ć ts.length ϳy]=ψ Μ:=by
 let he:=ϲa;delta cF gE;let D:∀ρ:L3.Env,DK ϻM (Ĥ<|Ê 1) ρ=.ok (ϱA<|ϴJ 0):=λρ=>by
  rw[Qz];simp![Y2];change(ϱi (pL (ë<|ä []).er)<|ϳV (OD.odt [(k,Ä<|-1)]))=_;rw[aW];rfl
 simp![D];generalize L:Ŋ=rr;apply Ϸf (λi ρ=>∃V E:Ú OD,ρ=[ì<|Ć ts.length ϳy,some<|ϱA<|ϴJ i,V,E]) ϸb
 .rintro i d ρ hd ⟨V,E,rfl⟩
  let(e,H,rfl):=Ϧh;rw[Oe]at H;let(k,h,rfl):=Zb.mp H;let hi:=ϲE;rw[Z1]at hi;rw[Ϲ1]at h;cases h;let a0:Rg (ϳy i) (Ä 0)=Ý (ä<|Î (ϱM i) int):=rfl;let K:=Fb (ρ:=[ì<|Ć ts.length ϳy,some<|ϱA<|ϴJ i,æ<|Ä Ċ,æ<|ϳy i]) (d:=Ä Ċ) (z:=ϱM i) (i:=1) (L1:=ϴJ i) (by let:=KW (ts:=ts) (D0:=D0) i;show K94<|d9 Á);let sn:=vR (ts:=ts) (D0:=D0) i;delta kyW at sn;rw[<-sn]at K;simp![a0,EZ,K];show(_,_,rfl)
 ext ρ' rfl ⟨V,E,rfl⟩;rw[m6,I4,Z1];let f:OD.er (ϱA<|ϴJ ts.length)=dtD (ϴJ ts.length):=C9 _;simp![f];generalize m:Ů=rc
 let e:=cU m ϳy (λk=>ë<|ndD ô) ϵW rfl (Ş<|ñ Z1) (by
  ext k h;let h:=ϨL;let nd:ϳy k=ä [ä<|Î (ϱM k) int,Æ (ô).l,Ä (ô).t]:=rfl;rw[nd];let n:∃w:À Int,ϱM k=w++[Ð (Þ k)]/\oE (ϴJ ts.length) Ϯt=Â (Ä (ô).e):=by
   rcases Zah k with z|z
   .subst z
    apply([],Fx<|fE he h,?_);let:=Jg (ts:=ts) (D0:=D0) ts.length;let g:=(he 0 _<|pJ h).1 rfl;rw[g];show this
   let(e,b,j):=BF he h z;apply(ϱM e,Ϧj b,?_);let a:=(aM.mp b).2;rw[eG<|pJ h]at a;rw[a];show SK C p ts.length ß e j
  let(w,W,v):=n;let S:=Jr w (Ð (Þ k));rw[<-W]at S;let x:Ge (dtD<|ϴJ ts.length) (ä ϳ1)=Ý (Ä (ô).e):=by rw[Pz,v];rfl
  simp![S,x];rfl)
 subst e;let te:Ć ts.length (λk=>ë<|ndD ô)=Î Μ OD.sh:=by
  delta ar;rw[Tk];apply K9K;ext k;rw[Oe,Oe];by_cases h:ċ
  .rw[ϸV,pJ h]
   rfl
  rw[K9c (ñ Z1),K9c Á];rfl
 simp![te]
end
def chB(c:Nat):Bool:=Ë ϴA
theorem Ur(k:Fin 128):Ϛm (è "abcdefghijklmnopqrstuvwxyz")=chB k.val:=ώ6
theorem UL{c:Nat}(h:c<128):inS Š "abcdefghijklmnopqrstuvwxyz"=chB c:=Ur ⟨c,h⟩
def Asc(l:Str):Prop:=(ϱI l.cps.toList)/\ϲ6 l.length
def pT(l:Str):Bool:=Ë (Τ 1 (É l.length) 9)&&ϙh
theorem Nz{l:Str}(h:Asc l):ě (l.cps.all ϫK):=ϕn (h.1 c hc)
theorem u7{l:Str}(h:Asc l):gP [Æ l]=Ý (í<|pT l):=by
 delta gP oJ;let lb:ü l.length:=bQ h.2;let e1:eCh (Ê 1) (Č<|Ï 0 ah) (Ê 9) [æ<|Æ l]=Ý (í<|Ë<|Τ 1 (É l.length) 9):=
  Yn rfl ϵE (y:=.sh<|Ä (É l.length)) (ϥg lb) ϵE rfl ϵE
 let t:iTx ð [æ<|Æ l]=Ħ (signs l):=by
  change(Ì (Γ l.cps.all ϫK) (ϳV (signs l)) Í)=_;rw[Os<|Nz h]
 delta pT;cases hd:decide (Τ 1 (É l.length) 9)with
 |false=>rw[hd]at e1;simp![e1];rfl
 |true=>
  rw[hd]at e1;simp![e1,t];generalize w:Ů=rc
  let e:=cU w (λc:Nat=>ϹH Š) (λc:Nat=>.sh<|í<|chB c) l.cps.toList (by delta signs;rfl) (by
   let:l.cps.toList.length=l.length:=(aU l).symm;rw[this];show K94 lb) (by
   ext c hc;let:=UL<|h.1 c hc;simp![AB,this])
  subst e;let g:ϰH (ϑn<|λc=>ë<|í<|chB c) (Î (ϑn chB) PyData.bool):=ϱq Tk Tk (Zt λc _=>ϵE)
  let G:(ϑn chB).all id=ϙh:=ϱJ List.all_map
  simp![g,XC,G,Bool.true_and]
def fnF(T:À Nd)(w:Int):Nat->Nat->Bool
 |0,_=>false
 |f+1,n=>if Ł=w then true else if 0<=ī n/\ī n<n then fnF T w f ((ā (ī n))) else false
theorem fnX{T:À Nd}{w:Int}:∀f g n,n<f->n<g->fnF T w f n=fnF T w g n:=by
 intro f
 induction f with
 |zero=>intro g n h;lia
 |succ f ih=>
  intro g n h H
  cases g with
  |zero=>lia
  |succ g=>
   change(if Ł=w then true else if 0<=ī n/\ī n<n then fnF T w f ((ā (ī n))) else false)=if Ł=w then true else if 0<=ī n/\ī n<n then fnF T w g ((ā (ī n))) else false
   split
   .rfl
   split
   .exact ih _ _ (by lia) (by lia)
   rfl
def fnd(T:À Nd)(w:Int)(n:Nat):Bool:=fnF T w (n+1) n
theorem pO(T:À Nd)(w:Int)(n:Nat):ϲK n=if Ł=w then true else if 0<=ī n/\ī n<n then ϲK ((ā (ī n))) else false:=by
 change(if Ł=w then true else if 0<=ī n/\ī n<n then fnF T w n ((ā (ī n))) else false)=_
 split
 .rfl
 split
 .exact fnX _ _ _ (by lia) (by lia)
 rfl
set_option tactic.hygienic true in
theorem zy(T:À Nd)(w:Int):∀m n:Nat,n<=m->ϲK n=true->0<=w/\w<=n:=by
 ext m
 induction m with
 |zero=>
  ext n N h;let:n=0:=Á
  subst this;rw[pO]at h;split at h
  .lia
  split at h
  .rename_i H
   lia
  cases h
 |succ m ih=>
  ext n N h;rw[pO]at h;split at h
  .lia
  split at h
  .rename_i H
   let:=ih (ā (ī n)) Á h;lia
  cases h
def Pre(T:À Nd)(k:Nat):Prop:=∀i,i<k->-1<=ī i/\ī i<i
theorem JP(T:À Nd)(n:Nat)(N:n<T.length)(p:Pre T (n+1))(w:Int):dR [Ö Ľ,Ä Ł,Ä w]=Ý (í<|ϲK n):=by
 delta dR jL;simp![Y2];generalize l:gR _ _ _=r;apply zZ l (λm a=>∃z:Int,a=[ì Ľ,æ<|Ä Ł,æ<|Ä w,æ<|Ä z]/\-1<=z/\z<=n/\m=ā (z+1)/\(z=-1->å (ϲK n))/\(∀q:Nat,z=q->ϲK n=ϲK q)) (n+1)
  ⟨Ł,rfl,Á,Á,Á,λh=>Á,λq h=>ϱ8 (ó (n=q))⟩
  (λa=>∃z:Int,a=[ì Ľ,æ<|Ä Ł,æ<|Ä w,æ<|Ä z]/\Ë (z=-1)=!(ϲK n)) ?_ ?_
 .rintro m a ⟨z,rfl,z0,z1,rfl,h1,h2⟩
  by_cases Z:z=-1
  .left
   apply(ϥg (Tl Z),z,rfl,?_);rw[h1 Z,Tl Z];rfl
  obtain⟨q,Q⟩:∃q:Nat,z=É q:=⟨z.toNat,Á⟩
  let e1:=h2 q Q;by_cases H:z=w
  .left
   apply(by simp![Pi Z,Tl H],z,rfl,?_);rw[e1,pO,Os Á,Pi Z];rfl
  right;obtain⟨nd,d⟩:∃x,T[q]?=ö:=⟨T[q]' Á,Ø⟩
  let g1:=p9 d;let P:=p q Á;let O:ī q=nd.e:=ϏA
  rw[O]at P;apply(by simp![Pi Z,Pi H],?_);subst Q;simp![g1];apply(_,?_,nd.e,rfl,P.1,Á,rfl,λh=>?_,λb h=>?_)
  .lia
  .rw[e1,pO,ϱz,P3 Á]
  rw[e1,pO,ϱz,O,Os Á,h];rfl
 ext ρ' rfl ⟨z,rfl,Z⟩;simp![Z];cases fnd T w n<;>rfl
theorem R_{t:Int}(h:1<=t/\t<=9):gr [Ä t]=Ý ù:=by delta gr mf;simp![Pi (ó<|¬t<1),Pi<|ó (¬9<t)]
theorem OP{l:Str}(h:Asc l)(B:pT l=true):fO [Æ l]=Ý ù:=by delta fO k_;let e:=u7 h;rw[B]at e;simp![e]
def elB(T:À Nd)(k:Nat):Bool:=Ì (k=0) (Ë (ī 0=-1)) (fnd T (ī k) (k-1))
theorem Nw{T:À Nd}{k:Nat}(h:š)(p:Pre T k)(B:ϻC elB):fP [Ö Ľ,Ä á]=Ý ù:=by
 delta fP lz;obtain⟨nd,d⟩:∃x,ϵJ=ö:=⟨T[k]' Á,Ø⟩
 let g1:=p9 d;let O:ī k=nd.e:=ϏA
 delta elB at B;by_cases a:k=0
 .subst a
  rw[ė,O]at B;rw[ϑx (Ð 0)]at g1⊢;simp![g1,B]
 let D:å (Ë (á=0)):=Pi Á;let E:á-1=Ð (k-1):=Á
 let wy:=JP T (k-1) Á (ϸZ<|p i Á) nd.e;rw[P3 a,O]at B;rw[B]at wy;simp![g1,D,E,wy]
def yu(T:À Nd)(k:Nat):Bool:=elB T k&&(match ϵJ with
 |some n=>pT n.l&&Ë (Τ 1 n.t 9)
 |none=>false)
theorem vQ{T:À Nd}{k:Nat}{n:Nd}(h:ϵJ=ŵ):yu T k=(elB T k&&(pT n.l&&Ë (Τ 1 n.t 9))):=by delta yu;rw[h]
structure Valid(ts:À Nd):Prop where
 l0:ϹB 1
 l1:ϱo 40
 row:∀k,ċ->yu ts k=true
 lv:∀k v:Nat,ϱf[k]?=ú->v<=8
theorem D4{T:À Nd}{k:Nat}(h:ϻC yu):ϻC elB:=by delta yu at h;rw[K9U]at h;show h.1
theorem BA{T:À Nd}{k:Nat}(h:ϻC elB):(k=0->ī k=-1)/\(0<k->0<=ī k/\ī k<k):=by
 delta elB at h;by_cases a:k=0
 .subst a
  rw[ė]at h;show(λ_=>ϏP,λz=>Đ z Á)
 rw[P3 a]at h;let:=zy T (ī k) (k-1) (k-1) ß h;show(λz=>Đ z a,λ_=>Á)
theorem pre_of{T:À Nd}{k:Nat}(h:∀i,i<k->yu T i=true):Pre T k:=λi hi=>by
 let:=BA<|D4<|h i hi;by_cases a:i=0
 .let:=this.1 a
  lia
 let:=this.2 Á;lia
theorem T9{T:À Nd}{k:Nat}{n:Nd}(h:ϵJ=ŵ):ī k=n.e:=ϐf Z5
theorem C7{T:À Nd}(h:∀k,š->ϻC yu):Ž:=λk n H=>by
 let K:=϶4;let:=BA<|D4<|h k K;rw[T9 H]at this;apply(this.1,λz=>(this.2 z).1,?_);by_cases a:k=0
 .let:=this.1 a
  lia
 show(this.2 Á).2
theorem RM(T:À Nd)(A:ϐA)(v:ϻK):h_ [Ö Ľ]=ψ Ľ:=by
 delta h_ nM;let h:¬É T.length<1:=þ v.l0
 let c:¬É 40<É T.length:=þ v.l1
 let L:ϰw:=Á
 simp![bG,Pi h,Pi c];generalize l:Ŋ=r';apply Ϫh (∃v1 V:Ú OD,a=[ì Ľ,v1,V]) ϸb
 .rintro i d a hd ⟨v1,V,rfl⟩
  let(x,X,rfl):=Ϧh;delta ar at X;rw[Oe]at X;let(n,N,rfl):=ϷP X;let hi:=ϒ2;let B:=v.row i hi;rw[vQ N,K9U,K9U]at B;let e1:=Nw hi (pre_of λk K=>v.row k Á) B.1;let g:=OP (A n<|Ts N) B.2.1;let G:=R_<|Ϥr B.2.2;simp![ndD,e1,g,G];show(_,_,rfl)
 ext ρ' rfl ⟨v1,V,rfl⟩;let nl:=kJ T (C7 v.row) L;let e:(fw Ŷ)=(Î Ŷ (Ģ á)).map int:=ϱl fw Tk
 let ne:(Î Ŷ (Ģ á))≠[]:=λz=>by
  let:=Ŧ z;rw[I4,b_]at this;simp at this;rw[this]at h;simp at h
 let m:=mP ne;rw[<-e]at m;let(M,Q):=dS ne;let b:ü T.length:=ax Á;let f:¬É 8<nz (Î Ŷ (Ģ á)):=by
  let(w,W,j):=Zc.mp M;let(k,K,H):=ϗF;let:=v.lv k w (by rw[ϷS,H]);lia
 simp![nl,aG,m,Pi f,bG,b]
abbrev As(T:À Nd):Prop:=ϐA
theorem AM{l:Str}(h:Asc l):PyData.strOk l=true:=by
 delta PyData.strOk;rw[Zcd];ext c hc;let:=h.1 c (Ŀ hc);simp;lia
theorem Mn{n:Nd}(h:Asc n.l):lay 1 (ndD n):=Hf λx H=>by
 simp only[Z7,K8P,or_false]at H;rcases H with rfl|rfl|rfl
 .exact zU _
 .exact Ez<|AM h
 show zU _
theorem vC(T:À Nd)(h:As T)(L:ϰw):dY [Ö Ľ,Ö Ľ]=Ý (í true):=by
 delta dY nF;let D:Ë (É T.length=É T.length)=true:=ϩe;simp![bG,D];generalize l:Ŋ=r';apply Ϫh (∃V E:Ú OD,a=[ì Ľ,ì Ľ,V,E]) ϸb
 .rintro i d a hd ⟨V,E,rfl⟩
  let(x,y,H,Y,rfl):=sX hd;rw[H]at Y;cases Y;delta ar at H;rw[Oe]at H;let(n,N,rfl):=Zb.mp H;let e:ϭZ (ndD n)=Ý (í false):=Ho<|Mn<|h n<|Ts N;let e1:ndD n=ä [Ä n.e,Æ n.l,Ä n.t]:=rfl;rw[e1]at e⊢;simp![Gh,e];show(_,_,rfl)
 ext ρ' rfl ⟨V,E,rfl⟩;simp![Y2]
theorem OW(T:À Nd)(k:Nat):ϰD Ľ k=ar (T.drop k):=by delta ar;rw[Zcz]
theorem Rb{t:Int}:gy [Ä t]=Ì (1<=t/\t<=9) (Ý ù) ϯn:=by
 delta gy i6;by_cases h:t<1
 .rw[P3 Á]
  simp![Tl h,fY,gm]
 by_cases H:9<t
 .rw[P3 Á]
  simp![Pi h,Tl H,fY,gm]
 rw[Os Á];simp![Pi h,Pi H]
theorem MW{l:Str}(h:Asc l):fG [Æ l]=Ì (pT l=true) (Ý ù) ϯn:=by
 delta fG g_;let e:=u7 h;cases hb:pT l with|true=>rw[hb]at e;simp![e]|false=>rw[hb]at e;simp![e,fY,gm]
theorem Py{T:À Nd}{k:Nat}(h:š)(p:Pre T k):fC [Ö Ľ,Ä á]=Ì (ϻC elB) (Ý ù) ϯn:=by
 delta fC iD;obtain⟨nd,d⟩:∃x,ϵJ=ö:=⟨T[k]' Á,Ø⟩
 let g1:=p9 d;let O:ī k=nd.e:=ϏA
 by_cases a:k=0
 .subst a
  delta elB;rw[ė,O];rw[ϑx (Ð 0)]at g1⊢;by_cases he:nd.e=-1
  .simp![g1,Tl he]
  simp![g1,Pi he,fY,gm]
 let D:å (Ë (á=0)):=Pi Á;let E:á-1=Ð (k-1):=Á
 let wy:=JP T (k-1) Á (ϸZ<|p i Á) nd.e;delta elB;rw[P3 a,O];cases hf:fnd T nd.e (k-1)with|true=>rw[hf]at wy;simp![g1,D,E,wy]|false=>rw[hf]at wy;simp![g1,D,E,wy,fY,gm]
theorem Q7(T:À Nd)(A:ϐA)(o:ϰw):(ϻK/\fU [Ö Ľ]=ψ Ľ)\/(¬ϻK/\fU [Ö Ľ]=ϯn):=by
 delta fU ka;by_cases H:É T.length<1
 .right
  apply(λv=>þ v.l0,?_);simp![bG,Tl H,fY,e9,gm]
 by_cases e:É 40<É T.length
 .right
  apply(λv=>þ v.l1,?_);simp![bG,Pi H,Tl e,fY,e9,gm]
 simp![bG,Pi H,Pi e];generalize L:Ŋ=r';apply AF L (λi j=>(∀k,k<i->ϻC yu)/\∃v1 c:Ú OD,j=[ì Ľ,v1,c]) (¬ϻK) "NoTree" ⟨λk K=>Á,_,_,rfl⟩ ?_ ?_ ?_
 .rintro i d j hd ⟨hr,v1,c,rfl⟩
  let(x,X,rfl):=Ϧh;delta ar at X;rw[Oe]at X;let(n,N,rfl):=ϷP X;let hi:=ϒ2;let B:=vQ N;let e1:=Py hi<|pre_of hr;let g:=MW<|A n<|Ts N;let G:=Rb (t:=n.t);let no:å (yu T i)->¬ϻK:=λh v=>by rw[v.row i hi]at h;cases h
  cases b1:elB T i with
  |false=>
   rw[b1,P3 Ø]at e1;simp![ndD,e1,e9,xD];show no (by rw[B,b1];rfl)
  |true=>
   rw[b1,ė]at e1;cases b2:pT n.l with
   |false=>
    rw[b2,P3 Ø]at g;simp![ndD,e1,g,e9,xD];show no (by rw[B,b1,b2];rfl)
   |true=>
    rw[b2,ė]at g;by_cases I:Τ 1 n.t 9
    .rw[Os I]at G
     simp![ndD,e1,g,G,BU];apply(λk K=>?_,_,_,rfl);by_cases a:k<i
     .exact hr k a
     let:k=i:=Á
     rw[this,B,b1,b2,Tl I];rfl
    rw[P3 I]at G;simp![ndD,e1,g,G,e9,xD];show no (by rw[B,b1,b2,Pi I];rfl)
 .rintro ρ' rfl ⟨hr,v1,c,rfl⟩
  let r:∀k,š->ϻC yu:=λk K=>hr k (by delta fj;rw[I4,K8I,bG];show K);let nl:=kJ T (C7 r) o;let E:(fw Ŷ)=(Î Ŷ (Ģ á)).map int:=ϱl fw Tk
  let ne:(Î Ŷ (Ģ á))≠[]:=λz=>by
   let:=Ŧ z;rw[I4,b_]at this;simp at this;rw[this]at H;simp at H
  let m:=mP ne;rw[<-E]at m;let(M,Q):=dS ne;let l:ü T.length:=ax Á;by_cases f:É 8<nz (Î Ŷ (Ģ á))
  .right
   constructor
   .intro v
    let(w,W,p):=Zc.mp M;let(k,K,b):=ϗF;let:=v.lv k w (by rw[ϷS,b]);lia
   simp![nl,aG,m,Tl f,fY,e9,gm]
  left;constructor
  .apply(Á,Á,r,λk v V=>?_)
   let:=Q (v:Int)<|ϱ6 ⟨v,Ts V,rfl⟩;lia
  simp![nl,aG,m,Pi f,bG,l]
 ext rfl V;right;apply(V,?_);simp![e9,gm]
theorem NQ{l:Str}(h:mQ l):pT l=true:=by
 delta pT;rw[K9U,K7x];apply(Tl ⟨þ h.1,þ h.2.1⟩,ϲk);delta chB;show Tl<|Ϧg c hc
theorem Ni{l:Str}(h:mQ l):Asc l:=⟨ϴp (þ (Ϧg c hc)),þ h.2.1⟩
theorem nB(h:k::L=Ϯo):k=a/\1<=m/\L=ϸj (a+1) (m-1):=by
 cases m with
 |zero=>cases h
 |succ m=>rw[Zbw]at h;let(H,b):=Ϥd;show(H,Á,b)
theorem wM(T:À Nd)(n:Nat):fnd T Ł n=true:=ϰB pO ė
theorem Q6{T:À Nd}{w:Int}{a p:Nat}(he:ī a=Ū)(H:p<a)(h:ϲK p=true):ϲK a=true:=by
 rw[pO];split
 .rfl
 rw[Os Á,he,K9n];show h
theorem Wo{T:À Nd}:∀(f:F)(a m p:Nat),ϳC=Ϯo->F.Eld ī Ū f->p<a->(∀w:Int,ϲK p=true->1<=m->ϲK (a+m-1)=true)/\∀k∈ϳC,k≠a->fnd T (ī k) (k-1)=true:=by
 ext f
 induction f with
 |nil=>ext a m p P _ _;let:=Ŧ P;rw[F.pre,K8U,K93]at this;show(λw _ z=>Á,λk K=>by rw[F.pre]at K;cases K)
 |cons k c r ih1 ih2=>
  ext a m p P he g;let(e1,E,G):=he;rw[F.pre]at P;let(rfl,M,t):=nB P;let L:=Ŧ t;rw[S5,K93]at L;let A:ϸj (k+1) (m-1)=ϸj (k+1) ((Ã ź))++ϸj (k+1+Ã ź) ((Ã ϻI)):=by
   let:=List.range'_append (s:=k+1) (m:=(Ã ź)) (n:=(Ã ϻI)) (step:=1);rw[Zcx]at this;rw[this];congr 1;lia
  rw[A]at t;let(hc,hr):=Zdi t (ϱ8 K93);let up:∀w:Int,ϲK p=true->ϲK k=true:=λw W=>Q6 e1 g W;let(c1,C):=ih1 (k+1) _ k hc E Á;let(R,i):=ih2 (k+1+Ã ź) _ p hr G Á;let l:∀w:Int,ϲK p=true->ϲK (k+Ã ź)=true:=λw W=>by
   by_cases b:1<=Ã ź
   .let:=c1 w (up w W) b
    rw[ó (k+1+Ã ź-1=k+Ã ź)]at this;show this
   rw[ó (k+Ã ź=k)];show up w W
  apply(λw W _=>?_,λq H e=>?_)
  .by_cases b:1<=Ã ϻI
   .let:=R w W b
    rw[ó (k+1+Ã ź+Ã ϻI-1=k+m-1)]at this;show this
   let:=l w W;rw[ó (k+Ã ź=k+m-1)]at this;show this
  rw[F.pre]at H;rcases Z7.mp H with h|H
  .exact ϵ6 e
  rcases Y7.mp H with H|H
  .by_cases Q:q=k+1
   .subst Q
    cases c with
    |nil=>rw[F.pre]at H;cases H
    |cons a' b' d'=>rw[F.pre]at hc;let(d,_,_):=nB hc;let:=E.1;rw[d]at this;rw[this,K8J];show wM T k
   show C q H Q
  by_cases Q:q=k+1+Ã ź
  .cases r with
   |nil=>rw[F.pre]at H;cases H
   |cons a' b' d'=>
    rw[F.pre]at hr;let(d,_,_):=nB hr;let:=G.1;rw[d,<-Q]at this;rw[this,ó (q-1=k+Ã ź)];show l _<|wM T p
  show i q H Q
theorem IS{T:À Nd}{c:F}(pt:ϳd)(ok:Ϧl (Bm n))(l:T.length<=40)(D:Dp T 8):ϻK:=by
 let he:=bA pt;let P:=F.Pf.pos pt;let r:=F.Pf.preF pt;apply(P,l,϶K ?_,λk v V=>?_)
 .let h:=pJ H
  let o:=ok _ ϳN;rw[vQ h,K9U,K9U];apply(?_,NQ o.1,Tl (ϙX o.2));delta elB;by_cases a:k=0
  .subst a
   rw[ė];show Tl<|Ę ϶J<|(he 0 _ h).1 rfl
  rw[P3 a];let p:ź=ϸj 1 ϲj:=by
   let d:0::(ź++[])=ϸj 0 T.length:=by rw[<-K7r,<-r];rfl
   let:=(nB d).2.2;rw[Zw]at this;show this
  let W:=(F.Pf.eldF pt).2.1;let M:k∈ź:=by rw[p,Zaq];lia
  by_cases b:k=1
  .subst b
   let:=he 1 _ h;let A:=this.2.1 Á;let w:=this.2.2;rw[϶J,ó ((au T 1).e=Ð 0)];show wM T 0
  show(Wo c 1 _ 0 p W Á).2 k M b
 let H:š:=϶N ((ϲ8 V)) b_
 let:=D k H;delta Wp at this;rw[V]at this;show this
def aC(L:À Str):À Go:=L.map PyData.str
theorem BW(a:À Str):∀b:À Str,ϧs (aC a) (aC b)=Ë (a=b):=by
 induction a with
 |nil=>
  ext b;cases b with|nil=>rfl|cons y b=>rfl
 |cons x a ih=>
  ext b;cases b with
  |nil=>rfl
  |cons y b=>
   let e:ϧs (aC<|x::a) (aC<|y::b)=(PyData.eqv (Æ x) (Æ y)&&ϧs (aC a) (aC b)):=rfl;rw[e,ih,show PyData.eqv (Æ x) (Æ y)=(x==y)from rfl];by_cases h:x=y
   .by_cases H:a=b
    .simp[h,H]
    simp[h,H]
   simp[h]
instance decNd:DecidableEq Nd:=λa b=>decidable_of_iff (a.e=b.e/\a.l=b.l/\a.t=b.t) (by
 cases a;cases b;constructor
 .rintro⟨h1,h2,h3⟩
  simp only at h1 h2 h3;rw[h1,h2,h3]
 .intro h
  injection h with h1 h2 h3
  show(h1,h2,h3))
theorem Bn(a:À Nd):∀b:À Nd,ϧs (ar a) (ar b)=Ë (a=b):=by
 induction a with
 |nil=>
  ext b;cases b with|nil=>rfl|cons y b=>rfl
 |cons x a ih=>
  ext b;cases b with
  |nil=>rfl
  |cons y b=>
   let e:ϧs (ar<|x::a) (ar<|y::b)=((x.e==y.e&&(x.l==y.l&&(x.t==y.t&&true)))&&ϧs (ar a) (ar b)):=rfl;rw[e,ih];let(X,d,p):=x;let(y1,y2,y3):=y;by_cases h:X=y1
   .by_cases H:d=y2
    .by_cases f:p=y3
     .by_cases c:a=b
      .simp[h,H,f,c]
      simp[h,H,f,c]
     simp[h,H,f]
    simp[h,H]
   simp[h]
theorem FG(h:ϵH (Ö a))(c:ϵH (Ö b))(H:ϻZ):Zp (Ö a) (Ö b)=Ý (í Ϛn):=by delta Zp;rw[tQ];delta pB;rw[iO h H,iO c H,K7m,ė];rfl
theorem yY{a b:À Nd}(h:Î (ar a) OD.sh=Î (ar b) OD.sh):a=b:=by
 let c:ar a=ar b:=ϬY (Zh ϐz h) aG
 let H:=Bn a b;rw[c,Bn b b,ϩe]at H;show Ϥr H.symm
theorem FO(h:ϵH (Ö a))(H:ϵH (Ö b))(N:ϻZ):gNe (Ö a) (Ö b)=Ý (í<|! Ϛn):=by
 let e:=FG h H N;delta Zp at e;delta gNe;generalize eqD (Ö a) (Ö b)=r at e;cases r with
 |ok x=>cases e;rfl
 |ex c=>cases e
 |bad=>cases e
theorem qJ{L:À Str}(h:∀w∈L,ϱI â):lay 1 (Ö<|aC L):=wL λx H=>by delta aC at H;let(s,S,rfl):=ϴa;show Ez<|Ja<|h s S
structure Gd(ts:À Nd)(c:F):Prop where
 pt:ϲ9
 ok:∀n∈ts,Bm n
 dp:Dp ts 8
 len:ϱo 40
section
variable{ts:À Nd}{c:F}{D0:Int}
theorem Gd.lb(G:ϵz):ϴl:=λn h=>(G.ok n h).1
theorem Gd.tl(G:ϵz):∀k,ċ->Τ 1 (ô).t 9:=ϳh (ϯH<|gL h).2
theorem Gd.cf(G:ϵz)(g1:ř)(g2:ţ):Ĝ:=M9 G.pt G.lb G.dp G.len D0 g1 g2
theorem Gd.rows(G:ϵz)(C:Ĝ):ϫQ (ϲU ò):=by
 let he:=bA G.pt;let a:=G.len;ext s p;let(r,hr,h):=List.mem_flatMap.mp p;let(L,U,R):=ϥU hr;delta aS at h;rcases Z7.mp h with rfl|h
 .exact lE C G.lb L
 rcases Y7.mp h with h|h
 .let(i,_,rfl):=ϹR
  show ud C L _
 split at h
 .cases h
 rw[K95.mp h];show uJ C Á G.pt L
def Rs(T:À Nd)(D0:Int):À Str:=(jC T D0 ϥ0).map S3
theorem QU:txD (ϲU ò)=aC ø:=by delta txD aC Rs;rw[Tk];rfl
theorem Gd.asc(G:ϵz)(C:Ĝ):∀w∈ø,∀x∈â,x<128:=λw W x H=>by let(p,h,rfl):=Zc.mp W;let(u,U,_,_,_,b):=xf<|G.rows C p h;rw[U,bj]at H;show b x H
theorem Gd.draw(G:ϵz)(C:Ĝ):eN [Ö Μ,Ä D0]=ψ (aC ø):=by rw[Dh G.pt C G.lb G.len G.tl,<-QU];delta txO txD;rw[Tk];rfl
theorem Gd.cols(G:ϵz)(C:Ĝ):cR [Ö Μ,Ä D0]=Ď Ϫs:=by
 let he:=bA G.pt;let a:=϶Y;let l:=G.len;let L:∀n∈ts,ϺJ:=λn h=>þ (G.lb n h).2.1
 let dk:=Bw ts D0 he a Á L;delta cR i7;let:=wg C he a Á L (ϒr<|Ï 0<|Ï 1 ah) [ì Μ,æ<|Ä D0] (ϥg dk);simp![↓this]
theorem Gd.likely(G:ϵz)(C:Ĝ)(hg:ϴ5):gD [Ö<|aC ø]=Ď (Ϲu ò (ϳs jB))/\c7 [Ö<|aC ø]=Ď (Ϲu ò (ϳs jB)):=by
 let ok:=G.rows C;let a:=λbad=>Oq (ts:=ts) (D0:=D0) bad G.pt C G.lb G.len G.tl ok;let b:=λbad f h=>HQ (ts:=ts) (D0:=D0) bad f G.pt C G.lb hg G.len G.tl ok h;rw[QU]at a b;show(b q_ ik<|a q_,b ϦV dA<|a ϦV)
theorem Pa(C:Ĝ)(p:ϲ9)(a:ϱo 40)(T o:Ú OD)(o0:Ú OD):ϥ7 ŏ (Ϸa<|ϵ4 0<|Ρ 1 2 cW) cO (Ò Rg 0<|Ĥ<|Ê 1) 3 [] [o0,T,ì<|Ć ts.length ϳy,o]=Ď Ϫs:=by
 let he:=ϲa;simp![Y2];generalize H:Ů=rc
 let e:=cU H ϳy (λk=>ë<|Ä (Ð (Þ k))) ϵW rfl (Ş<|ñ Z1) (by
  ext k h;let h:=ϨL;let nd:ϳy k=ä [ä<|Î (ϱM k) int,Æ (ô).l,Ä (ô).t]:=rfl;rw[nd];let lw:∃w:À Int,ϱM k=w++[Ð (Þ k)]:=by
   delta wy;cases Wp ts k with|zero=>show([],rfl)|succ l=>show(_,rfl)
  let(w,W):=lw;let I:ϻW (Î (ϱM k) int)=Â (Ä (Ð (Þ k))):=by
   delta Y9;rw[W,I4,S5,Zq,jF Á];change((Î (w++[Ð (Þ k)]) int)[ϪP-1]?)=_;rw[Oe,K9a Á,K8J,K8c];rfl
  simp![I])
 subst e;let te:Ć ts.length (λk=>ë<|Ä (Ð (Þ k)))=Ϫs:=by delta nO cL;rw[nW,Tk,Tk];rfl
 simp![te]
end
section
variable{ts:À Nd}{c:F}{D0:Int}
theorem RP:ϰH (Ϲu ò (ϳs jB)) (Ϲu ò ϳy):=Ù Tk ϶X
theorem M8:ϰH (Ć ts.length (ϳs jB)) (Ć ts.length ϳy):=Ù Tk ϶X
theorem Gd.as(G:ϵz):∀n∈ts,Asc n.l:=λn h=>Ni (G.ok n h).1
theorem Gd.valid(G:ϵz):Valid ts:=IS G.pt G.ok G.len G.dp
theorem Gd.read(G:ϵz)(g1:ř)(g2:ţ):cI [Ö<|aC ø,Ä D0]=ψ Μ:=by
 let C:=ϴG;let a:=G.len;let W:=(G.likely C Á).1;let s:=N0 C G.pt a;let B:=DH C G.pt a;let nm:=RM ts G.as G.valid;let D:=G.cols C;let p:=G.draw C;let e1:=RP (ts:=ts) (D0:=D0);let g:=M8 (ts:=ts) (D0:=D0);let d:ϭZ (Ö ϸc)=Ý (í false):=Bi ϯj;let b:=Bi<|qJ ύH;let l:=Pa C G.pt a (æ<|Ä D0) (ì Μ)<|ì<|aC ø;delta cI jU;simp![W,e1,s,g,Q2,RT,B,aG,nm,D,dM,↓l,d,p,b]
theorem NG{s:À Nd}{K:F}(G:ϵz)(H:Gd s K)(g1:ř)(g2:ţ)(h:ø=ϥu):ts=s:=by
 let a:=ϒg;rw[h,H.read g1 g2]at a;injection a with a
 injection a with a
 show ϵQ (yY a)
end
theorem AD:∀t:Ó,(Î ϷT ϱE).sum=ϯ5:=by
 ext t
 induction t with
 |nil=>rfl
 |cons x t iht=>
  delta Zx;split
  .rw[W1,Zal,iht,Zo,K8U]
   lia
  cases e:Zx t with
  |nil=>show ϺQ<|AJ t
  |cons w ws=>
   rw[e,W1,Zal]at iht;dsimp only;rw[W1,Zal,Zo,Zo];lia
theorem Nr:∀(t:Ó)(w:Ó),w∈ϷT->∀c∈w,c∈t:=by
 ext t
 induction t with
 |nil=>
  ext w h c hc;let:w=[]:=ϐG Zx
  rw[this]at hc;cases hc
 |cons x t ih=>
  ext w h c hc;by_cases H:x=32
  .subst H
   rw[kI]at h;rcases Z7.mp h with rfl|h
   .cases hc
   show Ą<|ih w h c hc
  rw[wC H]at h;cases e:Zx t with
  |nil=>show ϺQ<|AJ t
  |cons v vs=>
   rw[e]at h ih;rcases Z7.mp h with rfl|h
   .rcases Z7.mp hc with rfl|hc
    .exact Uf
    show Ą<|ih v Uf c hc
   show Ą<|ih w (Ą h) c hc
theorem MJ:∀(ws:À Ó)(b:Nat),∀x∈ϩf b,x.2∈ws/\x.2≠[]/\b<=x.1/\x.1+Ã x.2+1<=b+(ws.map ϱE).sum:=by
 ext ws
 induction ws with
 |nil=>ext b x H;cases H
 |cons w ws ih=>
  ext b x H;rw[paL]at H;rw[W1,Zal];rcases Y7.mp H with H|H
  .by_cases h:w=[]
   .rw[Ÿ]at H
    cases H
   rw[χ,K95]at H;subst H;show(Uf,h,ß,ϱG (ϧa<=_))
  let(a,c,f,d):=Ϻm x H;show(Ą a,c,Á,Á)
theorem Og:∀(ws:À Ó)(b:Nat),Ã (ϩf b)<=ws.length:=by
 ext ws
 induction ws with
 |nil=>ext b;show ß
 |cons w ws ih=>
  ext b;rw[paL,S5,Zo];let:=ih ϧa;split
  .rw[K8U];lia
  rw[Zq];lia
def wdS(t:Str):À Pt:=ϷR ϦW
theorem yF(t:Str):Î Ϻb (λx=>(x.1,đ))=ϨQ ϸ0 0:=by delta wdS;rw[Qp];let:=Be t;rw[vX];show Zh (λl=>paL l 0) this
theorem Aw{t:Str}{x:Pt}(h:x∈Ϻb):(∀c∈đ,c∈ϸ0)/\đ≠[]/\x.1+Ã đ<=Ã ϸ0:=by
 let M:(x.1,đ)∈ϨQ ϸ0 0:=ϰ9 yF (ϱ6 ⟨x,h,rfl⟩)
 let(a,b,f,H):=MJ _ _ _ M;rw[AD]at H;show(ϴp (Nr _ _ a c hc),b,by dsimp only at H;lia)
theorem OO(t:Ó):Ã ϷT<=ϯ5:=by
 let h:=AD t;let:∀L:À Ó,ύA (L.map ϱE).sum:=by
  ext L
  induction L with|nil=>show ß|cons x L ih=>rw[W1,Zal,Zo];lia
 let:=this ϷT;lia
theorem FZ(t:Str):Ã Ϻb<=Ã ϸ0+1:=by let h:=Ŧ<|yF t;rw[I4]at h;rw[h];show Ϥ6 Og _<|OO _
theorem N1:∀(ws:À Ó)(b:Nat),(Î (ϩf b) λx=>(Ã x.2)).sum<=(ws.map ϱE).sum:=by
 ext ws
 induction ws with
 |nil=>ext b;show ß
 |cons w ws ih=>
  ext b;rw[paL,Z6,Zbo,W1,Zal];let:=ih ϧa;split
  .rw[K9D,List.sum_nil];lia
  rw[W1,K9D,Zal,List.sum_nil];dsimp only;lia
theorem NN(t:Str):(Î Ϻb λx=>(Ã đ)).sum<=Ã ϸ0+1:=by let h:=N1 (Zx ϸ0) 0;rw[<-yF,Tk,AD]at h;show h
structure Rws(S:À Str):Prop where
 asc:Ϧm (ϱI â)
 wide:Ϧm (Ã â<=8999000)
 few:ϱT S.length
theorem Rws.w9{S:À Str}(R:ϸX){w:Str}(h:w∈S):ϲ6 w.length:=by
 let:=R.wide w h;rw[aU];let:w.cps.toList.length=Ã â:=rfl;lia
theorem MT(g:À Str):Î (Î ϶G OD.sh) OD.er=϶G:=aG _
def gO(G:À (À Str)):À OD:=G.map λg=>ϳT<|Î ϶G OD.sh
theorem nS(G:À (À Str)):Ã ϷU=G.length:=Ň gO I4
theorem Xc(G:À (À Str)):Î ϷU OD.er=G.map λg=>ϫg ϶G:=by
 delta gO;rw[Tk];apply Zt λg _=>?_;change(ϳT<|Î ϶G OD.sh).er=_;rw[vf,MT]
theorem aV(g:À Str):Ã ϶G=g.length:=Ň aC I4
theorem Gi{S:À Str}(R:ϸX):(∃G:À (À Str),dA [Ö ϱy]=Ď ϷU/\ϱT G.length/\Ϙt (ϱT g.length))\/dA [Ö ϱy]=Ϯv:=by
 delta dA kS;let f:=R.few;simp![Y2];generalize l:Ŋ=rr;apply AF l (λi ρ=>∃(G:À (À Str))(V:Ú OD),ρ=[ì ϱy,ō ϷU,V]/\G.length<=i/\Ϙt (g.length<=i)) True "NoPicture" ⟨[],_,rfl,ß,λg h=>ϰn⟩ ?_ ?_ ?_
 .rintro i d ρ hd ⟨G,V,rfl,gl,gg⟩
  delta aC at hd;rw[Oe]at hd;let(w,X,rfl):=ϲ3;let hi:=(ϲ8 X);let W:=Ts X;let lw:ü w.length:=bQ<|R.w9 W;let B:ϰT G.length:=d9 Á;cases d0:decide (Txt.stripChars w (è " :|+-^#")=è "")with
  |false=>
   let Z:å (Ë (É ((Ã (ϷU++Ϸd)))=0)):=Pi (ξ S5 Zq)
   let ap:=qH (i:=1) (ρ:=[ì ϱy,ō<|ϷU++Ϸd,æ<|Æ w]) (k:=Ĥ<|Ê 1) (a:=ŏ) (xs:=ϷU++Ϸd) (ys:=[]) (z:=-1) (j:=G.length) (y:=.sh<|Æ w) rfl rfl (by
    rw[S5,nS,Zq,jF Á]
    congr 1) (ϵv (K9a (Ù nS ß)) nS K8c) rfl Õ
   let e1:Ť (ϷU++Ϸd) G.length (ϳT<|[]++[ë<|Æ w])=gO (G++[[w]]):=by
    rw[όW (Ù nS ß),nS,K8c];delta gO;rw[Z6];rfl
   rw[e1]at ap;simp![uZ,u_,uV,xM,lw,d0,nS,B,Z,ap,BU];apply(G++[[w]],_,rfl,ξ S5 Zq,λg h=>?_);rcases Y7.mp h with h|h
   .let(a,b,c):=gg g h
    show(a,Á,c)
   rw[K95.mp h];show(ϲI,ñ Zq,λv H=>by rw[ϻx];show W)
  |true=>
   rcases Zah G.length with e|p
   .let:G=[]:=Zad e
    subst this;let Z:Ë (Ð 0=0)=true:=rfl;simp![uZ,u_,uV,xM,lw,d0,nS,Z,fY,e9,xD]
   let Z:å (Ë ((É G.length)=0)):=Pi Á;obtain⟨g,hg⟩:∃g,G[ϒF]?=Â g:=ϰc Á
   let m:=Ts hg;let(ga,n,C):=gg g m;let ap:=Ϯ1 [ì ϱy,ō ϷU,æ<|Æ w] (k:=Ĥ<|Ê 1) (a:=ŏ) (xs:=ϷU) (ys:=Î ϶G OD.sh) (z:=-1) (j:=ϒF) (y:=.sh<|Æ w) rfl rfl (ϰB nS<|jF Á) (ϰM gO Oe hg) rfl (ϱq I4 aV<|K94<|d9 Á);let e1:Ť ϷU ϒF (ϳT<|Î ϶G OD.sh++[ë<|Æ w])=gO (ϔ3<|g++[w]):=by
    delta gO;rw[Zch];congr 2;delta aC;rw[Z6,Z6];rfl
   rw[e1]at ap;simp![uZ,u_,uV,xM,lw,d0,nS,Z,ap,BU];apply(ϔ3<|g++[w],_,rfl,ñ K8z,ϯS);rcases Zar h with h|rfl
   .let(a,b,c):=gg x h
    show(a,Á,c)
   .exact(λz=>ϲI (List.append_eq_nil_iff.mp z).2,ξ S5 Zq,λv H=>by
     rcases Y7.mp H with H|H
     .exact C v H
     .rw[ϻx]
      show W)
 .rintro ρ' rfl ⟨G,V,rfl,gl,gg⟩
  left;rw[aV]at gl gg;apply(G,ϥg Y2,Á,λg h=>?_);let(a,b,c):=gg g h;show(a,Á,c)
 ext rfl _;right;simp![e9,gm]
structure Lb3 where
 c:Nat
 l:Str
 t:Nat
def lbD(x:Lb3):Go:=ä [Ä (É x.c),Æ x.l,Ä (É x.t)]
def mkL(g:À Str)(x:Pt):Lb3:=⟨x.1+Ã x.2 / 2,x.2,Ã (g.filter λw=>Ë<|â[x.1+Ã x.2 / 2]?=Â 58)+1⟩
theorem Br(w:Str):sS â=w:=gA<|bj â
theorem Dc{g:À Str}{u:Str}{g':À Str}(hg:g=u::g')(R:Rws g):
  dc [Ö ϶G]=Ď (Î ϷM λx=>ë<|ϧX g):=by
 delta dc kg;let a0:Y9 ϶G (É 0)=Â (Æ u):=bZ (j:=0) (ϱJ hg);let H:u∈g:=Ù hg Uf
 let w:=sP u<|R.w9 H;let G:ϰH (Î ϷM λx=>ë Ϸu) (Î ϷM ptD):=Ù Tk ϶X
 let m:=R.few;let wl:=FZ u;let W:=R.wide u H;let w:eL [Æ u]=Ď (Î ϷM λx=>ë Ϸu):=w;simp![a0,w,G];generalize L:Ŋ=rr;apply Ϸf (λi c=>∃a E b V:Ú OD,c=[ì ϶G,ō<|Î (ý ϷM i) λx=>ë<|ϧX g,a,E,b,V]) ϐm
 .rintro i d c hd ⟨a,E,b,V,rfl⟩
  rw[Oe]at hd;let(x,h,rfl):=ϲ3;let hi:=ϲE;let(_,_,X):=Aw ϳN;let M:Ã x.2=Ã đ:=aU x.2;let z:ü (Ã x.2):=bQ Á;let cl:É x.1+É ((Ã x.2)) / 2=Ð (x.1+Ã x.2 / 2):=Á
  delta ptD;let r:∀ol,Η de ð (av<|ϳF (Ϯw ð Ų<|bc<|Ò aF 1<|Ê 1)<|eC<|Æ ":") ð 1 [4] [ì ϶G,ol,æ<|Ä (É x.1),æ<|Æ x.2,æ<|Ä (Ð (x.1+Ã x.2 / 2)),V]=Ď ((g.filter λw=>Ë<|â[x.1+Ã x.2 / 2]?=Â 58).map λw=>ë<|Æ w):=λol=>by
   simp![Y2];generalize C:Ů=rc
   let e:=ko C ϗG (λw=>Ë<|â[x.1+Ã x.2 / 2]?=Â 58) (λw:Str=>ë<|Æ w) g rfl (Ş Á) (by
    ext v f;let q:=CM ϱ9 (x.1+Ã x.2 / 2) 58;rw[Br]at q;let q:Ë (Txt.slice v (Â<|(Ð (x.1+Ã x.2 / 2))) (Â<|Ð (x.1+Ã x.2 / 2)+1)=è ":")=Ë (ϱ9[x.1+Ã x.2 / 2]?=Â 58):=Ù s58 q
    let lw:ü v.length:=bQ<|R.w9 f;apply(?_,ϰs ?_)
    .simp![vk,lw,q]
    simp![Y2])
   subst e;simp![Y2]
  let ce:ϰH ((g.filter λw=>Ë<|â[x.1+Ã x.2 / 2]?=Â 58).map λw=>ë<|Æ w) (aC (g.filter λw=>Ë<|â[x.1+Ã x.2 / 2]?=Â 58)):=by delta aC;rw[Tk];show Zt λp _=>ϵE
  let n:ϱT (Ã (g.filter λw=>Ë<|â[x.1+Ã x.2 / 2]?=Â 58)):=Ϥ6 K8i _ m;let F:ü (Ã (g.filter λw=>Ë<|â[x.1+Ã x.2 / 2]?=Â 58)):=ax Á;let I:ϲ6 (Ã (ý ϷM i)):=ñ Zk
  let l:ϰT (Ã (ý ϷM i)):=ϰr (Zbn I ç);let tk:ý ϷM (i+1)=ý ϷM i++[x]:=Ϲs;let T:(Ð (g.filter λw=>Ë<|â[x.1+Ã x.2 / 2]?=Â 58).length+1)=Ð (Ã (g.filter λw=>Ë<|â[x.1+Ã x.2 / 2]?=Â 58)+1):=Á
  let ap:(Î (ý ϷM i) λx=>ë<|ϧX g)++[ë<|ä [Ä (Ð (x.1+Ã x.2 / 2)),Æ x.2,Ä (Ð (Ã (g.filter λw=>Ë<|â[x.1+Ã x.2 / 2]?=Â 58)+1))]]=(Î (ý ϷM i++[x]) λx=>ë<|ϧX g):=ϱJ Z6
  rw[tk];simp![z,cl,↓r,ce,aV,F,T,l,ap];show(_,_,_,_,rfl)
 ext ρ' rfl ⟨a,E,b,V,rfl⟩;rw[I4,K90 ß];simp![Y2]
theorem N6:∀W:À Pt,Ã ϑO<=(W.map λx=>(Ã đ)).sum:=by
 ext W
 induction W with
 |nil=>show ß
 |cons x W ih=>
  rw[Zan,S5,W1,Zal];let H:=Fy x (đ).zipIdx;rw[K8I]at H;let H:Ã (upW x)<=Ã đ:=H;lia
theorem CW{t:Str}(f:ϱI ϸ0)(m:Ã ϸ0<=8999000):bt [Æ t]=Ϸm (dU<|ϰW Ϻb upW):=by
 delta bt ft;let tl:t.length=Ã ϸ0:=aU t;let w:eL [Æ t]=Ď (Î Ϻb λx=>ë Ϸu):=sP t Á;let ul:=K9C (N6 Ϻb)<|NN t;let ws:∀x∈Ϻb,(ϱI đ)/\ϲ6 (Ã x.2):=λx h=>by
  let(H,_,g):=Aw h;apply(ϴp (f c<|H c hc),?_);let:Ã x.2=Ã đ:=aU x.2;lia
 generalize Ϻb=W at w ul ws;let G:ϰH (W.map λx=>ë Ϸu) (W.map ptD):=Ù Tk ϶X
 let T:∀i,Ã (ϰW Θ upW)<=Ã ϑO:=λi=>by
  conv=>rhs;rw[<-Zaw i W,Zam,S5]
  lia
 simp![Dw,w,G];generalize L:Ŋ=rr;apply Ϸf (λi a=>∃V E b v v6:Ú OD,a=[æ<|Æ t,όe<|ϰW Θ upW,V,E,b,v,v6]) ϙT
 .rintro i d a hd ⟨V,E,b,v,v6,rfl⟩
  rw[Oe]at hd;let(x,h,rfl):=ϲ3;let(A,wl):=ws x ϳN;let B:ü (Ã x.2):=bQ wl;let al:x.2.cps.all ϫK=true:=by
   rw[Zcd];ext c hc;let:=A c ώL;simpa using this
  let K:=Ql al;let mk:É x.1+(if ϵ3 (è "^")<ϵ3 (è "#")then ϵ3 (è "#")else ϵ3 (è "^"))=mkB x:=rfl;let tk:Ϻ6=Θ++[x]:=Ϲs;let t0:ϰW Ϻ6 upW=ϰW Θ upW++϶A (đ).zipIdx:=ϵv tk Zam Zaz
  let t1:=T<|i+1;rw[t0]at t1;delta ptD;simp![uZ,u_,uV,Qh,B,mk,Qr,K];generalize l:Ŋ=r2
  apply bJ l (λj a=>∃v v6:Ú OD,a=[æ<|Æ t,όe ϷW,æ<|Ä (É x.1),æ<|Æ x.2,æ<|Ä<|mkB x,v,v6]) ⟨_,_,by
   rw[K7s];change ϕx
   rw[Zw]⟩ ?_ ?_
  .rintro j d a hd ⟨v,v6,rfl⟩
   let(e,he,rfl):=Ϧh;delta signs at he;rw[Oe]at he;let(c,hc,rfl):=ϷP he;let hc:Ĵ đ=ã:=hc;let up:=Qg<|A c Ϩ1;let Z:Ĵ (đ).zipIdx=Â (c,j):=ϵv K8S hc K87
   let tz:(đ).zipIdx.take (j+1)=(đ).zipIdx.take j++[(c,j)]:=take_snoc Z;let S:϶A ((đ).zipIdx.take<|j+1)=϶A ((đ).zipIdx.take j)++(Ì (Ϲ5 isUp) [(x.1+j,Ϫ9)] []):=ϔ7
   let dl:ϲ6 (Ã (dU ϷW)):=by
    let:=Ec ϷW;let q:Ã (϶A<|(đ).zipIdx.take j)<=Ã (϶A (đ).zipIdx):=by
     conv=>rhs;rw[<-Zaw j (đ).zipIdx]
     delta upS;rw[K8o,Z6,S5];lia
    rw[S5]at this t1;lia
   let D:ϰT (Ã (dU ϷW)):=ϰr (Zbn dl ç);rw[S];cases hu:isUp c with
   |true=>
    rw[hu]at up;let y:É x.1+ĺ=Ð (x.1+j):=Á
    let sn:=qT ϷW (x.1+j,Ϫ9);dsimp only at sn;rw[K9M]at sn;rw[ė];simp![AB,up,Ah,AV,y,D,<-sn];show(_,_,rfl)
   |false=>rw[hu]at up;rw[ϲy,Zw];simp![AB,up];show(_,_,rfl)
  ext ρ' rfl ⟨v,v6,rfl⟩;let e1:Ã (fj<|signs x.2)=(đ).zipIdx.length:=ϕN
  rw[e1,K90 ß,<-t0];simp![Y2];show(_,_,_,_,_,rfl)
 ext ρ' rfl ⟨V,E,b,v,v6,rfl⟩;rw[I4,K90 ß];simp![Y2]
theorem V0(U:À ϻp){k:Key}{v:Go}(h:eI ϻ2 k=ú):∃u∈U,v=u.2/\k=È (É u.1):=by
 revert h
 apply wD (P:=λU=>eI ϻ2 k=ú->∃u∈U,v=u.2/\k=È (É u.1)) (λh=>ϰn) (λl x i h=>?_) U;rw[qT,s_]at h;by_cases e:k=È (É x.1)
 .rw[ϳS]at h
  show(x,ũ Uf,ϵQ (Zz h),e)
 rw[ϰ4]at h;let(u,a,b):=i h;show(u,ϰX a,b)
structure Nod where
 w:À Int
 c:Nat
 l:Str
 t:Nat
def Nod.way(x:Nod):À Int:=x.w++[É x.c]
def Nod.k(x:Nod):NK:=(x.way,[Ñ x.l,È (É x.t)])
def Nod.d(x:Nod):Go:=nkD x.k
structure NOk(N:À Nod):Prop where
 up:∀x∈N,ϗn
 lab:∀x∈N,(ϱI<|cs x.l)/\ϲ6 x.l.length
def GP(N:À Nod)(i:Nat)(v:Go):Prop:=∃w:À Int,v=ä ϳ1/\w.length<=i/\(w=[]\/∃y∈N,y.way=w)
theorem NOk.snoc{N:À Nod}(h:NOk N){x:Nod}(H:ϗn)(d:(ϱI<|cs x.l)/\ϲ6 x.l.length):NOk (N++[x]):=by
 apply(λy Y=>?_,λy Y=>?_)
 .let q:y.w=[]\/∃z∈N,z.way=y.w:=by
   rcases Y7.mp Y with Y|Y
   .exact h.up y Y
   rw[K95.mp Y];show H
  rcases q with q|⟨z,a,b⟩
  .exact È q
  show Ñ ⟨z,ϰX a,b⟩
 rcases Y7.mp Y with Y|Y
 .exact h.lab y Y
 rw[K95.mp Y];show d
theorem GP.up{N:À Nod}{i:Nat}{v:Go}(h:GP N i v)(x:Nod):GP (N++[x]) i v:=by
 let(w,a,b,c):=h;apply(w,a,b,?_);rcases c with c|⟨y,d,e⟩
 .exact È c
 show Ñ ⟨y,ϰX d,e⟩
theorem Ta:R3 γ g p ρ=γ:=rfl
theorem DP{S:À Str}(p:ϸX):(∃N:À Nod,c7 [Ö ϱy]=Ď (N.map λx=>ë x.d)/\ϯf/\NOk N)\/c7 [Ö ϱy]=Ϯv:=by
 delta c7 jM;let B:ϬA [(È<|-1,ä [])]:=rE _;let n:ϬA []:=rE _;let E:∀a:L3.Env,eD1 (Ĥ<|Ê 1) ϻM a=Ϸm [(È<|-1,ä [])]:=λa=>by
  rw[U7];simp![Y2];change ϳV (OD.od [(È<|-1,(ë<|ä []).er)])=_;rw[aW]
 rcases Gi p with⟨G,t,gl,gg⟩|t
 case inr=>
  right;simp![E,Dw,B,n,t,Ta,e9,gm]
 simp![E,Dw,B,n,t,Xc];generalize hL:Ŋ=rr;apply AF hL (λi a=>∃(N:À Nod)(K k3:À ϰo)(A C v6 V b l:Ú OD),a=[ì ϱy,ō<|N.map λx=>ë x.d,æ ϩk,æ<|dD k3,A,C,v6,V,b,l]/\ϯf/\NOk N/\(∀k v,eI K k=ú->GP N i v)/\∀k v,eI k3 k=ú->∃z,v=Ä z) True "NoPicture" ?_ ?_ ?_ ?_
 .apply([],_,_,_,_,_,_,_,_,rfl,Ν,((λx h=>ϰn),(λx h=>ϰn)),(ϸF ?_),(ϸF ϰn))
  delta eI at h;rw[K8p]at h;split at h
  .cases h
   show([],rfl,ß,È rfl)
  cases h
 .rintro i d a hd ⟨N,K,k3,A,C,v6,V,b,l,rfl,nl,no,h2,h3⟩
  rw[Oe]at hd;let(g,H,rfl):=ϲ3;let ii:=϶4;let(gn,gf,I):=gg g ϶F;let(W,g',rfl):=Zac gn;let r:Rws ϶w:=⟨λw o=>p.asc w<|I w o,λw o=>p.wide w<|I w o,gf⟩
  let lo:=Dc rfl r;let le:ϰH (Î (wdS W) λx=>ë<|ϧX ϶w) (Î (wdS W) λx=>ϧX ϶w):=Ù Tk ϶X
  let wl:=FZ W;let w8:=r.wide W Uf;change zt _ _ _ (Zi _<|Ϸx (.sh<|Ö<|aC ϶w) _);simp![Dw,lo,le];generalize L:Ŋ=r2;apply AF L (λj a=>∃(M:À Nod)(D:À ϰo)(v6 V b l:Ú OD),a=[ì ϱy,ō<|ϨP (ë x.d),æ ϩk,æ<|dD k3,ì<|aC ϶w,Â<|.od D,v6,V,b,l]/\M.length<=40+j/\NOk M/\D.length<=j/\(∀k v,eI K k=ú->GP M i v)/\∀k v,eI D k=ú->GP M (i+1) v) True "NoPicture" ⟨N,[],_,_,_,_,rfl,nl,no,ß,h2,ϸF ϰn⟩ ?_ ?_ ?_
  .rintro j d a hd ⟨M,D,v6,V,b,l,rfl,ml,mo,dl,m2,mD⟩
   rw[Oe]at hd;let(x,O,rfl):=ϲ3;let jj:=(Za.mp O).1;let(x1,x2,x3):=Aw<|Ts O;let xl:Ã x.2=Ã đ:=aU x.2;generalize hy:mkL ϶w x=y;let yl:y.l=x.2:=ϯQ hy
   obtain⟨z,hz⟩:∃z:Int,ę (eI k3<|È (É y.c)) (Ä<|-1)=Ä z:=by
    cases e:eI k3 (È (É y.c))with|none=>show(-1,rfl)|some v=>let(z,rfl):=h3 _ _ e;show(z,rfl)
   let J:∀T Q U X Y,rC į ϷA (Ĥ<|Ê 1) [ì ϱy,T,æ ϩk,æ<|dD k3,ì<|aC ϶w,Q,æ<|Ä (É y.c),U,X,Y]=Ý (Ä z):=λT Q U X Y=>by rw[Ln (L1:=k3) (x:=.sh<|dD k3) (y:=.sh<|Ä (É y.c)) (z:=.sh<|Ä<|-1) rfl ϵE rfl ϵE rfl,aW,hz]
   delta lbD;cases e:eI K (È z)with
   |none=>
    let gi:Ϩd (Ä z) ϩk=Ý (í true):=ϤG LV
    simp![J,gi,fY,e9,xD]
   |some v=>
    let(w,rfl,wl2,o):=m2 _ _ e;let gi:Ϩd (Ä z) ϩk=Ý (í false):=ϤG LV
    let dx:gDx ϩk (Ä z)=Ý (ä ϳ1):=ϤG V3
    let wd:ϳ1++[Ä (É y.c)]=Î (w++[É y.c]) int:=ϱJ Z6
    let ad:oV (ä ϳ1) (ä [Ä (É y.c)])=Ý (ä<|Î (w++[É y.c]) int):=ϰB (FJ _ _ ϲI (Ù I4<|Ş<|ñ Zq)) wd
    let dB:ϰT D.length:=ϰr (Zbn (ó<|ϲ6 D.length) ç);let mB:ϰT M.length:=ϰr (Zbn (ó<|ϲ6 M.length) ç);let vp:eI (putD D (È (É y.c))<|ä<|Î (w++[É y.c]) int) (È (É y.c))=Â (ä<|Î (w++[É y.c]) int):=ϰB s_ ė
    let vo:=Qv vp;let ap:(ϨP<|ë x.d)++[ë<|ä [ä<|Î (w++[É y.c]) int,Æ y.l,Ä (É y.t)]]=Î (M++[(ϏT:Nod)]) λx=>ë x.d:=(Z6 (f:=λx:Nod=>ë x.d) (l₁:=M) (l₂:=[ϏT])).symm;simp![J,gi,dx,ad,Ah,AV,dB,Qo,vo,mB,ap,BU];let pl:=length_putD D (È (É y.c))<|ä<|Î (w++[É y.c]) int;apply(M++[ϏT],_,_,_,_,_,rfl,ξ S5 Zq,mo.snoc o ?_,Á,ϸF ((m2 k v h).up _),ϸF ?_)
    .dsimp only
     rw[yl];show(ϴp (r.asc W Uf c<|x1 c hc),Á)
    rw[s_]at h
    split at h
    .cases h
     show(_,rfl,ξ S5 Zq,Ñ (Ϭq (ũ Uf)))
    show(mD k v h).up _
  .rintro ρ' rfl ⟨M,D,v6,V,b,l,rfl,ml,mo,dl,m2,mD⟩
   rw[I4]at ml dl;let F:ü M.length:=bQ Á;by_cases s:ϒh
   .let m:å (Ë (É 40<É M.length)):=Pi Á
    let ab:OD.er (.od D)=dD D:=rE _;let lr:∃w,w∈϶w/\ϻW (aC ϶w)=Â (Æ w):=by
     let hp:0<Ã ϶w:=ñ Zo
     let H:϶w[Ã ϶w-1]?=Â _:=Rw Á;apply(_,϶F,?_);delta Y9;rw[aV,jF hp];change(_:À Go)[_]?=_;delta aC;rw[Oe,H];rfl
    let(w,P,l3):=lr;let Z:=CW (r.asc w P)<|r.wide w P;let br:ϬA (dU<|ϰW (wdS w) upW):=rE _;simp![m,F,ab,l3,Z,br,BU];apply(M,_,_,_,_,_,_,_,_,rfl,s,mo,mD,ϸF ?_);let(u,hu,rfl,_):=V0 _ h;let(x,_,H):=List.mem_flatMap.mp hu;delta upW upS at H;let(q,_,rfl):=ϴa;show(_,rfl)
   let m:Ë (É 40<É M.length)=true:=Tl Á;simp![m,F,fY,e9,xD]
  ext rfl _;simp![e9,xD]
 .rintro ρ' rfl ⟨N,K,k3,A,C,v6,V,b,l,rfl,nl,no,h2,h3⟩
  left;show(N,by simp![Y2],nl,no)
 ext rfl _;right;simp![e9,gm]
def N3(T:À Nd)(k:Nat):Nd:=ę ϵJ (ϷC Str.empty 1)
theorem P2{T:À Nd}{k:Nat}(h:š):ϵJ=Â (N3 T k):=ϱl N3 ϴ9
theorem KS{s:À Nd}(v:Valid s):EL s/\∀n∈s,Bm n:=by
 apply(C7 v.row,λn N=>?_);let(k,H):=Zaa N;let L:=϶4;let:=v.row k L;rw[vQ H,K9U,K9U]at this;let(_,h,d):=this;delta pT at h;rw[K9U,K7x]at h;let a:=Ϥr h.1;let b:=of_decide_eq_true d;show((Á,Á,ϴp (Ϥr<|h.2 c hc)),b.1,b.2)
theorem Bk{T:À Nd}(v:ϻK):∀m:Nat,m<T.length->∃way,Y5 8 (T.take<|m+1) way/\way[way.length-1]?=Â Ι/\(∀(j:Nat)(x:Int),Ĵ way=ö->0<=x/\Ŷ[x.toNat]?=ϳb)/\∀(j:Nat)(x:Int),Ĵ way=ö->∀w:Int,ϲK x.toNat=true->∃i,ϵN/\û way=ϰh:=by
 let(he,ok):=KS v;ext m
 induction m with
 |zero=>
  ext h;let N:=P2 h;let d:=(he 0 _ N).1 rfl;let tk:T.take 1=[N3 T 0]:=by
   rw[List.take_one];cases T with|nil=>simp at h|cons a r=>rfl
  apply([0],?_,rfl,λj x H=>?_,λj x H w b=>?_)
  .rw[tk]
   show Y5.root (ok _<|Ts N) d
  .cases j with
   |zero=>
    cases H;apply(ϷI,?_);rw[ϑx (ā (0:Int)),ku N];delta dh;rw[Os d]
   |succ j=>cases H
  cases j with
  |zero=>cases H;let:=zy T w 0 0 ß b;show(0,ß,ϱJ (ó (w=0)))
  |succ j=>cases H
 |succ m ih=>
  ext h;let(way,g,A,lv,ch):=ih Á;let N:=P2 h;let o:=ok _<|Ts N;let E:=D4<|v.row (m+1) h;delta elB at E;rw[P3 Á,K8J]at E;let O:ī (m+1)=(όR).e:=eG N;rw[O]at E;let(C,k,W):=ch (way.length-1) _ A (όR).e (by rw[K9n];show E);let t:=ϯD;let(d,L):=lv C _ W;let er:=he (m+1) _ N;let l:Ŷ[m+1]?=Â (C+1):=by
   rw[ku N,<-p7];delta dh;rw[P3 Á,K97 Á,L];rfl
  let p:=v.lv _ _ l;let tl:Ã (T.take<|m+1)=m+1:=ñ Zk
  let tk:ϯl T.take (m+1) [όR]:=take_snoc N;let g2:=Y5.step (c:=C+1) (n:=όR) g Á Á Á o (by rw[K8J];show W);rw[<-tk,tl]at g2;let wl:Ã ϑk=C+1:=ñ Zk
  let at1:∀(j:Nat)(x:Int),Ĵ (ϑk++[Ð (m+1)])=ö->(j<=C/\Ĵ way=ö)\/(j=C+1/\x=Ð (m+1)):=λj x H=>by
   by_cases J:j<C+1
   .rw[K9V Á,K97 J]at H
    show È ⟨Á,H⟩
   rw[K9a Á,wl]at H;let:=϶4;rw[Zq]at this;rw[ó (j-(C+1)=0)]at H;cases H;show Ñ (Ϸs Á)
  let at2:∀j,j<=C->Ĵ (ϑk++[Ð (m+1)])=Ĵ way:=λj J=>by rw[K9V Á,K97 Á]
  apply(_,g2,?_,λj x H=>?_,λj x H w b=>?_)
  .rw[S5,wl,Zq,K8J,K9a Á,wl,K8c]
   rfl
  .rcases at1 j x H with⟨J,H⟩|⟨J,H⟩
   .exact lv j x H
   subst H J;show(Á,ϤF K9n)
  rcases at1 j x H with⟨J,H⟩|⟨J,H⟩
  .let(i,I,f):=ch j x H w b
   show(i,I,by rw[at2 i Á];show f)
  subst H J;rw[K9n,pO]at b;by_cases Z:Ð (m+1)=w
  .exact(C+1,ß,by rw[<-Z,K9a Á,wl,K8c];rfl)
  rw[P3 Z,O,Os<|þ er.2.2]at b;let(i,I,f):=ch C _ W w b;show(i,Á,by rw[at2 i I];show f)
theorem BC{T:À Nd}(v:ϻK):∃way,Y5 8 T way:=by
 let:=v.l0;let(way,g,_):=Bk v ϲj Á;rw[ó (ϵw (ϲj+1)),K8D]at g;show(way,g)
theorem Lx{s:À Nd}(v:Valid s):∃c,Gd s c:=by let(way,g):=BC v;let(c,p,_):=Bz g;show(c,p,g.ok,(BN g).2,v.l1)
theorem Yg(a b:Str)(x y:Int):∃r,ltK [Ñ a,È x] [Ñ b,È y]=ϱx:=by
 change ∃r,(Ì (a=b) (ltK [È x] [È y]) _)=ϱx;by_cases h:a=b
 .rw[Ÿ]
  change ∃r,(Ì (x=y) (ltK [] []) _)=ϱx;by_cases H:x=y
  .rw[ϱh]
   show(false,rfl)
  rw[ϱz];show(_,rfl)
 rw[χ];show(_,rfl)
theorem Mr{N:À Nod}(h:ϯf):ϭj ϤC:=by
 apply(ñ I4,λk a b K=>?_,λi j x y H Y=>?_)
 .let(x,_,rfl):=Zc.mp a
  let(y,_,rfl):=Β K;rfl
 let G:∀i x,û ϤC=ö->ę ϤC i ([],[])=x:=λi x e=>ϤG Zab
 delta cNk;rw[G i x H,G j y Y];let(u,_,rfl):=Β ϶F;let(v,_,rfl):=Β<|Ts Y;delta ltN;split
 .let(r,e):=Yg u.l v.l (É u.t) (É v.t)
  let e:ltK u.k.2 v.k.2=ϱx:=e;rw[e];rfl
 rfl
theorem Ka{N:À Nod}(h:ϯf):∃M:À Nod,M.Perm N/\vg [Ö ϯo]=Ď (ϨP (ë x.d)):=by
 let e:=Ic<|Mr h;let em:Î ϤC nkD=ϯo:=ϱJ Tk
 rw[em,I4]at e;let op:=tR (cNk ϤC) N.length;apply((f_ (cNk ϤC) N.length).map ϕy,?_,?_)
 .apply Ę (op.map _) ?_
  let:Ć N.length ϕy=N:=by
   apply K9K;ext i;rw[Oe];by_cases hi:ϓE
   .rw[Ϲ1,ϲO]
    change Â (N.getD i _)=_;rw[Zab,ϲO];rfl
   rw[K9c (ñ Z1),K9c Á];rfl
  rw[this]
 rw[e,Tk]
 congr 2
 apply Zt;ext i hi;let I:ϓE:=ϘF;change ë (ę ϯo i ù)=ë (Nod.d<|N.getD i _);rw[Zab,Zab,Oe,Rw I];rfl
def kyI(w:À Int):À Key:=Ϯt
def Ke(D:À (À Key×Go))(x:Nod):Int:=match ϑb with
 |some (.int z)=>z
 |_=>0
set_option tactic.hygienic true in
theorem J4{M:À Nod}(L:ϒh)(up:∀x∈M,x.w=[]\/∃y∈M,y.way=x.w):∃s:À Nd,s.length=M.length/\(∀n∈s,∃x∈M,n.l=x.l)/\cF [Ö ϪA]=ψ (ar s):=by
 delta cF gE;let b:∀ρ:L3.Env,DK ϻM (Ĥ<|Ê 1) ρ=Ħ (ϱA [([],Ä<|-1)]):=λρ=>by
  rw[Qz];simp![Y2];change(ϱi (pL (ë<|ä []).er)<|ϳV (OD.odt [(k,Ä<|-1)]))=_;rw[aW];rfl
 simp![b];generalize l:Ŋ=rr;apply bJ l (λi ρ=>∃(D:À (À Key×Go))(V a:Ú OD),ρ=[ì ϪA,Â<|ϱA D,V,a]/\D.length<=i+1/\(∀k v,oE D k=ú->∃z,v=Ä z)/\(∃v,oE D []=ú)/\∀j,j<i->∀x,M[j]?=ö->∃v,oE D (kyI x.way)=ú) ⟨_,_,_,rfl,ß,ϸF ?_,Ϸs (Ä<|-1),λj h=>ϵ6<|Zca j⟩ ?_ ?_
 .unfold oE at h
  rw[K8p]at h;split at h
  .cases h
   show(_,rfl)
  cases h
 .rintro i d ρ hd ⟨D,V,a,rfl,dl,di,dn,dj⟩
  let(e,E,rfl):=Ϧh;rw[Oe]at E;let(x,X,rfl):=Zb.mp E;let hi:=(ϲ8 X);let a0:Rg x.d (Ä 0)=Ý (ä<|x.way.map int):=rfl;let K:=Fb (ρ:=[ì ϪA,Â<|ϱA D,æ<|Ä Ċ,Â<|.sh x.d]) (d:=Ä Ċ) (z:=x.way) (i:=1) (L1:=D) (K94<|d9 Á);simp![a0,EZ,K];let p:=va D (kyI x.way)<|Ä Ċ;apply(_,_,_,rfl,by let:=p;delta kyI at this;lia,ϸF ?_,?_,λj J y Y=>?_)
  .rw[qB]at h
   split at h
   .cases h
    show(_,rfl)
   show di k v h
  .rw[qB]
   split
   .exact(_,rfl)
   show dn
  rw[qB]
  split
  .exact(_,rfl)
  rename_i ne;by_cases q:j<i
  .exact dj j q y Y
  let:j=i:=Á
  subst this;rw[X]at Y;cases Y;show ϱH ne
 ext ρ' rfl ⟨D,V,a,rfl,dl,di,dn,dj⟩;rw[m6,I4]at dl dj;let f:OD.er (ϱA D)=dtD D:=C9 _;let look:∀x∈M,ϑb=Â (Ä<|Ke D x):=λx X=>by
  let q:∃v,ϑb=ú:=by
   rcases up x X with h|⟨y,Y,h⟩
   .rw[h]
    show dn
   let(j,J):=Zaa Y;let(v,H):=dj j (ϥz).1 y J;rw[h]at H;show(v,H)
  let(v,H):=q;let(z,rfl):=di _ _ H;delta Ke;rw[H]
 apply(ϨP ϙi,ϱ8 I4,λn N=>?_,?_)
 .let(x,X,rfl):=Zc.mp N
  show(x,X,rfl)
 simp![f];generalize w:Ů=rc
 let e:=cU w Nod.d (λx=>ë<|ndD ϙi) M rfl (Ş Á) (by
  ext x X;let nd:x.d=ä [ä<|Î (x.w++[É x.c]) int,Æ x.l,Ä x.t]:=rfl;rw[nd];let S:=Jr x.w (É x.c);let H:=look x X;delta kyI at H;let c:Ge (dtD D) (ä<|x.w.map int)=Ý (Ä<|Ke D x):=by rw[Pz,H];rfl
  simp![S,c];rfl)
 subst e;simp![Y2];delta ar;rw[Tk,Tk];rfl
theorem Yr:K3 γ r=γ:=rfl
theorem Kw{S:À Str}(p:ϸX){D0:Int}(g1:ř)(g2:ţ):dP [Ö ϱy,Ä D0]=Ϯv\/∃t c,Gd t c/\Rs t D0=S:=by
 delta dP jN;let c1:Ϩy (ϓT:À Str) "NoPicture"=false:=ç
 let f:Ϩy (ϓT:À Str) "NoTree"=true:=ç
 rcases DP p with⟨N,W,nl,no⟩|W
 case inr=>
  left;simp![W,Yr,e9,gm]
 let(M,pm,o):=Ka nl;let m:ϒh:=Ù pm.length_eq nl
 let(s,ul,u,B):=J4 m λx H=>by
  rcases no.up x Ϛo with h|⟨y,Y,h⟩
  .exact È h
  show Ñ ⟨y,pm.mem_iff.mpr Y,h⟩
 let U:∀n∈s,Asc n.l:=λn j=>by let(x,H,e):=u n j;rw[e];show no.lab x Ϛo
 let e1:ϰH (N.map λx=>ë x.d) ϯo:=Ù Tk ϶X
 let g:ϰH (ϨP<|ë x.d) ϪA:=Ù Tk ϶X
 rcases Q7 s U Á with⟨v,mt⟩|⟨v,mt⟩
 case inr=>
  left;simp![W,e1,o,g,B,aG,mt,Eg,Ry,c1,f,e9,gm]
 let(c,G):=Lx v;by_cases d:ϥu=S
 .exact Ñ ⟨s,c,G,d⟩
 left;let C:=ϴG;let a:=G.cols C;let P:=G.draw C;let i:gNe (Ö<|aC ϥu) (Ö ϱy)=Ý (í true):=ϵv (FO (qJ ύH) ϓl Õ) BW (Pi d)
 let l:∀T O o0:Ú OD,ϥ7 ŏ (Ϸa<|ϵ4 0<|Ρ 1 2 cW) cO (Ò Rg 0<|Ĥ<|Ê 1) 3 [] [o0,T,ì ϪA,O]=Ď (nO ϑv):=λT O o0=>by
  simp![Y2];generalize w:Ů=rc
  let e:=cU w Nod.d (λx=>ë<|Ä (É x.c)) M rfl (Ş Á) (by
   ext x H;let nd:x.d=ä [ä<|Î (x.w++[É x.c]) int,Æ x.l,Ä x.t]:=rfl;rw[nd];let I:ϻW (Î (x.w++[É x.c]) int)=Â (Ä (É x.c)):=by
    delta Y9;rw[I4,S5,Zq,jF Á];change(((Î (x.w++[É x.c]) int)[x.w.length+1-1]?)=_);rw[Oe,K9a Á,K8J,K8c];rfl
   simp![I])
  subst e;let te:ϨP (ë<|Ä (É x.c))=nO ϑv:=by delta nO;rw[nW,Tk,Tk];rfl
  simp![te]
 let l:=l (æ<|Ä D0) (ì<|ar s)<|ì ϱy;let D:∃b,gNe (Ö<|nD<|cL s D0) (Ö<|nD ϑv)=Ý (í b):=⟨_,FO ϯj ϯj Õ⟩
 let(b,D):=D;cases b with|true=>simp![W,e1,o,g,Eg,IU,B,aG,mt,a,dM,↓l,D,fY,e9,gm]|false=>simp![W,e1,o,g,Eg,IU,B,aG,mt,a,dM,↓l,D,P,i,fY,e9,gm]
theorem xN{S:À Str}(p:ϸX){D0:Int}(g1:ř)(g2:ţ)(no:Ϭ5):dP [Ö ϱy,Ä D0]=Ϯv:=by
 rcases Kw p g1 g2 with h|⟨T,c,G,h⟩
 .exact h
 show ϵ6<|no T c G
theorem J2:∀(r:À Pt)(n p c:Nat),ϨK->ϹU[p]?=ã->ϳH->∃x∈r,x.1<=n+p/\đ[n+p-x.1]?=ã:=by
 ext r
 induction r with
 |nil=>ext n p c _ h _;cases h
 |cons y r ih=>
  ext n p c h e hc;let(c1,w):=y;let(d,g,f):=h;rw[Y3c]at e;by_cases a:p<c1-n
  .rw[K9V (ϧx K8r),K8Z,Os a]at e
   show Đ (Zz e).symm hc
  rw[K9a (ñ K8r),K8r]at e;by_cases b:p-(c1-n)<Ã â
  .rw[K9V b]at e
   apply((c1,w),Uf,ϱG (c1<=n+p),?_);rw[<-e];change â[n+p-c1]?=_
   congr 1
   lia
  rw[K9a Á]at e;let(x,H,i,X):=ih (c1+Ã â) (p-(c1-n)-Ã â) c (DM ϱ2 f) e hc;apply(x,Ą H,Á,?_);rw[<-X];congr 1;lia
theorem Jw{s:À Pt}(R:Zn s){p c:Nat}(hc:ϳH):(cs ϲP)[p]?=ã↔∃x∈s,x.1<=p/\đ[p-x.1]?=ã:=by
 let(u,e,U):=vF<|ĥ s;let e1:(cs ϲP)[p]?=ã↔(ĥ s)[p]?=ã:=by
  delta S3;rw[e,bj];rcases U p with q|⟨b,k⟩
  .rw[q]
  rw[b,k];constructor
  .intro z;cases z
  ext z;show Đ ((ϥE z)) hc
 rw[e1];constructor
 .intro h
  let(x,H,a,X):=J2 s 0 p c R.go h hc;rw[K87]at a X;show(x,H,a,X)
 ext⟨x,H,a,X⟩;let q:=(wo s 0 R.go x H).2 (p-x.1) (ϲ8 X);rw[X,ó (x.1-0+(p-x.1)=p)]at q;show q
theorem K4{p:À Pt}(R:Zn p):ϻV (Ã (cs ϰ1)):=by
 let go:∀(r:À Pt)(n:Nat),ϨK->(∀x∈r,ϻV (x.1+Ã đ))->n<=8990000->ϻV (n+Ã ϹU):=by
  ext r
  induction r with
  |nil=>ext n _ _ h;show h
  |cons x r ih=>
   ext n h B N;let(c,w):=x;let H:=B (c,w) Uf;let a:=ih (c+Ã â) (DM ϱ2 Ϧg) (λy Y=>B y<|Ą Y) H;let f:n<=c:=h.1;rw[Y3c,S5,S5,K8r];lia
 let h:=go p 0 R.go R.bd Ν;let(u,e,_,_,ul,_):=kG<|ĥ p;let:cs ϰ1=u:=ϙj
 rw[this];lia
section
variable{ts:À Nd}{D0:Int}{r:Ó}
theorem Dl(C:Ĝ)(B:ϴl)(L:ϲL){p c:Nat}(hc:ϳH):ϧD ħ=ã↔ϻ7 (Þ k-ϰg<=p/\(ϲA ô)[p-(Þ k-ϰg)]?=ã):=by
 rw[Jw Ϥ4 hc];delta bp;constructor
 .rintro⟨x,hx,x1,x2⟩
  let(k,h,rfl):=Β hx;show(k,h,x1,x2)
 ext⟨k,h,x1,x2⟩;show(_,ϦB,x1,x2)
theorem AW(C:Ĝ)(L:ϲL)(i:Nat){p c:Nat}(hc:ϳH):ϧD (Ε i)=ã↔ϻ7 (p=Þ k/\϶V=[c]):=by
 rw[Jw (ud C L i) hc];delta eg;constructor
 .rintro⟨x,hx,a,X⟩
  let(k,h,rfl):=Β hx;let X:϶V[p-Þ k]?=ã:=X;let a:Þ k<=p:=a;let l:Ã ϶V=1:=by rcases xP (ts:=ts) k i with s|s|s<;>rw[s]<;>rfl
  let g:=(ϲ8 X);let:p-Þ k=0:=Á
  rw[this]at X;apply(k,h,Á,?_);rcases xP (ts:=ts) k i with s|s|s<;>(rw[s]at X⊢;rw[<-Zz X])
 ext⟨k,h,rfl,X⟩;apply(_,ϦB,ß,?_);change ϶V[Þ k-Þ k]?=_;rw[K8c,X];rfl
theorem pZ{k:Nat}:k∈ś↔ϳO/\Ě≠[]:=by
 delta cP;rw[K89,K9k];constructor
 .rintro⟨a,b⟩
  show(a,λz=>by rw[z]at b;show absurd b Õ)
 ext⟨a,b⟩;show(a,þ (List.length_pos_iff.mpr b))
theorem m9(C:Ĝ)(l:ϱo 100){j:F}(pt:PT ts j)(L:ϲL){p c:Nat}(hc:ϳH):ϧD ϰa=ã↔ϻ7 (Ě≠[]/\bD (ĉ k)<=p/\p<=gj (ĉ k)/\eh (Þ k) (ĉ k) p=c):=by
 rw[Jw (uJ C l pt L) hc];delta d8;let key:∀k,bD (ĉ k)<=p->((cs (ϸi).2)[p-bD (ĉ k)]?=ã↔p<=gj (ĉ k)/\eh (Þ k) (ĉ k) p=c):=λk h=>by
  let e:cs (ϸi).2=jS (Þ k) (ĉ k):=bj _;rw[e,tH,ó (ϑS (bD (ĉ k))=p)];constructor
  .rintro⟨a,b⟩
   show(Á,b)
  ext⟨a,b⟩;show(Á,b)
 constructor
 .rintro⟨x,hx,x1,x2⟩
  let(k,H,rfl):=Β hx;let(a,b):=pZ.mp H;show(k,a,b,x1,(key k x1).mp x2)
 ext⟨k,a,b,x1,x2⟩;show(_,ϱ6 ⟨k,pZ.mpr ⟨a,b⟩,rfl⟩,x1,(key k x1).mpr x2)
theorem LJ(C:Ĝ)(B:ϴl)(L:ϲL):wdS (S3 ħ)=ħ:=by let(u,_,_,m,_):=xf Ϥ4;delta wdS;rw[m,Lj B L.lt]
end
theorem Fc(f:α->À β):∀(X:À α)(l o:Nat)(x:α),Ϧk=ö->o<Ã (f x)->(X.flatMap f)[Ã (ϰW ϫu f)+o]?=(f x)[o]?:=by
 ext X
 induction X with
 |nil=>ext l o x h;cases h
 |cons a X ih=>
  ext l o x h j;cases l with
  |zero=>cases h;rw[K7s,Zck,K8U,K87,Zan,K9V j]
  |succ l=>
   rw[K7p,Zan,Zan,S5,K9a Á,<-ih l o x h j]
   congr 1
   lia
theorem O2(f:α->À β):∀(X:À α)(i:Nat),i<Ã (X.flatMap f)->∃l o x,Ϧk=ö/\o<Ã (f x)/\i=Ã (ϰW ϫu f)+o:=by
 ext X
 induction X with
 |nil=>ext i h;show ϵ6<|Zca i
 |cons a X ih=>
  ext i h;by_cases hi:i<Ã (f a)
  .exact(0,i,a,rfl,hi,by rw[K7s,Zck,K8U,K87])
  rw[Zan,S5]at h;let(l,o,x,H,b,c):=ih (i-Ã (f a)) Á;show(l+1,o,x,H,b,by rw[K7p,Zan,S5];lia)
section
variable{ts:À Nd}{D0:Int}
def Z0(T:À Nd)(D0:Int)(l:Nat):Nat:=(Ã (jC T D0<|ý ϥ0 l))
def hiT(T:À Nd)(r:Ó):Nat:=(ā (tlM T r-1))
theorem oY{l:Nat}{r:Ó}(h:ľ):Ϩo (l+1)=Ē+Ã ň:=by delta Z0 jC;rw[Ϲs,Zam,S5,Zaz]
theorem n6(r:Ó):Ã ň=1+ϲq+(Ì (ś=[]) 0 1):=by
 delta aS hiT;rw[Zo,S5,I4,Z1];split
 .rw[K8U];lia
 rw[Zq];lia
theorem iu(r:Ó):ň[0]?=Â ħ:=rfl
theorem Bu(r:Ó){o:Nat}(h:1<=o)(H:o<=ϲq):ň[o]?=Â (Ε o):=by
 obtain⟨i,rfl⟩:∃i,o=i+1:=⟨o-1,Á⟩
 delta hiT at H;delta aS;rw[Zaj,K9V (ξ I4 Z1),Oe,K9Z Á];rfl
theorem wU{r:Ó}(h:ś≠[]):ň[ϲq+1]?=Â ϰa:=by
 delta hiT aS;rw[Zaj,K9a (ϱq I4 Z1 ß),I4,Z1,K8c,χ];rfl
theorem kN{l o:Nat}{r:Ó}{p:À Pt}(h:ľ)(j:ň[o]?=ϳc):ø[Ē+o]?=Â ϰ1:=by delta Rs Z0 jC;rw[Oe,Fc _ _ l o r h (Za.mp j).1,j];rfl
theorem uB{i:Nat}{w:Str}(h:û ø=ϰh):∃l r,ľ/\
  ((i=Ē/\w=S3 ħ)\/(∃o,1<=o/\o<=ϲq/\i=Ē+o/\w=S3 (Ε o))\/(ś≠[]/\i=Ē+ϲq+1/\w=S3 ϰa)):=by
 let hi:=ϲE;delta Rs at hi;rw[I4]at hi;let(l,o,r,H,a,f):=O2 _ _ i hi;let f:i=Ē+o:=f;let ln:=Ϯu ts r;let val:∀p,ň[o]?=ϳc->w=ϰ1:=λp e=>by let:=kN H e;rw[<-f,h]at this;show Zz this
 apply(l,r,H,?_);rcases Zah o with z|z
 .subst z
  show È ⟨f,val _<|iu r⟩
 by_cases q:o<=ϲq
 .exact Ñ<|È ⟨o,z,q,f,val _<|Bu r z q⟩
 let he:ś≠[]:=λe=>by
  rw[ϳS]at ln;lia
 rw[P3 he]at ln;let:o=ϲq+1:=Á
 subst this;show Ñ<|Ñ ⟨he,Á,val _<|wU he⟩
end
def isL(w:Str):Prop:=∃c∈â,ϴA
def mkC(c:Nat):Prop:=c=94\/c=35
def isB(w:Str):Prop:=∃c∈â,mkC c
def oF(w:Str):Ó:=Î (wdS w) λx=>x.1+Ã x.2 / 2
section
variable{ts:À Nd}{c0:F}{D0:Int}{r:Ó}{l:Nat}
theorem Gd.he(G:Ĩ):Ϻg:=bA G.pt
theorem Gd.lv(G:Ĩ)(h:ľ):ϲL/\ϳG:=let -zeta q:=ox G.he ϳN;⟨q.1,Ϧa⟩
theorem L9(G:Ĩ)(C:Ĝ)(h:ľ){p c:Nat}(e:ϧD ħ=ã):ϸ3\/ϴA:=by
 by_cases hc:ϸ3
 .exact È hc
 let(k,H,_,g):=(Dl C G.lb (ϴh).1 hc).mp e;show Ñ<|(ϒt<|gL<|(ϴh).1.lt k H).2.2 c<|Ts g
theorem rQ(G:Ĩ)(C:Ĝ)(h:ľ){o p c:Nat}(e:ϧD (Ε o)=ã):ϸ3\/((c=58\/c=124)/\ϻ7 (p=Þ k)):=by
 by_cases hc:ϸ3
 .exact È hc
 let(k,H,P,g):=(AW C (ϴh).1 o hc).mp e;apply Ñ ⟨?_,k,H,P⟩;rcases xP (ts:=ts) k o with s|s|s
 .rw[s]at g;show È ϑc
 .rw[s]at g;show Đ ϑc hc
 rw[s]at g;show Ñ ϑc
theorem DX(G:Ĩ)(C:Ĝ)(h:ľ){p c:Nat}(e:ϧD ϰa=ã):ϸ3\/ϻ7 (Ě≠[]/\bD (ĉ k)<=p/\p<=gj (ĉ k)/\eh (Þ k) (ĉ k) p=c):=by
 by_cases hc:ϸ3
 .exact È hc
 show Ñ<|(m9 C (þ G.len) G.pt (ϴh).1 hc).mp e
theorem uN(G:Ĩ)(C:Ĝ)(h:ľ):isL (S3 ħ):=by
 let(L,U):=ϴh;let(k,R,rfl):=Zac U;let H:k∈k::R:=Uf;let lb:=ϒt<|gL<|ϱr H;let a:Ã (ϲA ô)=ϱt ô:=ϪS;obtain⟨c,hc⟩:∃c,(ϲA ô)[0]?=ã:=ϰc (þ lb.1)
 let lc:=ϑf Ϩ1;let:=(ϙn (p:=Þ k-ϰg) (c:=c) Á).mpr ⟨k,H,ß,Ù K8c hc⟩;show(c,Ts this,lc)
theorem JS(G:Ĩ)(C:Ĝ)(h:ľ):¬isB (S3 ħ):=by
 ext⟨c,hc,m⟩;let(p,H):=Ϸy;let:=L9 G C h H;delta mkC at m;lia
theorem C_(G:Ĩ)(C:Ĝ)(h:ľ)(o:Nat):¬isL (S3<|Ε o):=by ext⟨c,hc,m⟩;let(p,H):=Ϸy;rcases rQ G C h H with q|⟨q,_⟩<;>lia
theorem K_(G:Ĩ)(C:Ĝ)(h:ľ)(o:Nat):¬isB (S3<|Ε o):=by ext⟨c,hc,m⟩;let(p,H):=Ϸy;delta mkC at m;rcases rQ G C h H with q|⟨q,_⟩<;>lia
theorem D2(G:Ĩ)(C:Ĝ)(h:ľ):¬isL (S3 ϰa):=by
 ext⟨c,hc,m⟩;let(p,H):=Ϸy;rcases DX G C h H with q|⟨k,_,_,_,_,q⟩
 .lia
 let:=lJ (Þ k) (ĉ k) p;lia
theorem HK(G:Ĩ)(C:Ĝ)(g:ϴ5)(h:ľ){k:Nat}(H:ϳO)(hc:Ě≠[]):ϗ7 (ĉ k) (Þ k) (∃m,mkC m/\(cs<|S3 ϰa)[Þ k]?=ϩc):=by
 let(L,_):=ϴh;let(a,b):=Eh C G.pt g (þ G.len) (ϱr H) hc;let M:mkC (eh (Þ k) (ĉ k)<|Þ k):=by
  delta eh mkC;rw[ė];split
  .exact Ñ rfl
  show È rfl
 apply(a,b,_,M,(m9 C (þ G.len) G.pt L ?_).mpr ⟨k,H,hc,a,b,rfl⟩);delta mkC at M;lia
theorem CY(G:Ĩ)(C:Ĝ)(g:ϴ5)(h:ľ)(e:ś≠[]):isB (S3 ϰa):=by
 let(k,R,q):=Zac e;let(H,hc):=pZ.mp (show k∈ś by rw[q];show Uf);let(_,_,m,M,Q):=HK G C g h H hc;show(m,Ts Q,M)
theorem n8(G:Ĩ)(C:Ĝ)(h:ľ):oF (S3 ħ)=ϳn Þ:=by
 let(L,_):=ϴh;delta oF;rw[LJ C G.lb L];delta bp;rw[Tk];apply Zt;ext k H;let o:=όd<|ϱr H;change Þ k-ϰg+ϱt ô / 2=Þ k;let:ϱt ô / 2=ϰg:=rfl;lia
theorem xA(G:Ĩ)(h:ľ)(e:ś≠[]):∃R,ò[l+1]?=ϥR:=by
 let(k,R,q):=Zac e;let(H,hc):=pZ.mp (show k∈ś by rw[q];show Uf);let(j,_,J):=Zac hc;let J:j∈Ě:=by rw[J];show Uf
 let jl:=ϯB;let lv:=ϨM J;let K:=(Ϫl H).2;let ok:=kh G.he ts.length ß;let v:Ĵ ϱf=Â (l+1):=by
  delta Wp at lv K;rw[Rw<|Ù b_ jl]at lv⊢;rw[Zas,K]at lv;rw[lv]
 show(_,Rw<|ok.lt j (l+1) jl v)
theorem sW(G:Ĩ){R:Ó}(h:ò[l+1]?=ϥR):∃r,ľ/\ś≠[]/\∀j,j∈R↔ϻ7 (j∈Ě):=by
 let L:=ϲE;obtain⟨r,hr⟩:∃r,ľ:=ϰc Á
 let iff:∀j,j∈R↔ϻ7 (j∈Ě):=λj=>by
  rw[ϫ6 h];constructor
  .rintro⟨a,b⟩
   let c:0<j:=by
    rcases Zah j with z|z
    .subst z
     rw[fE G.he a]at b;lia
    show z
   let(e,e1,g):=BF G.he a c;let:=ϨM e1;show(e,(ϫ6 hr).mpr ⟨g,Á⟩,e1)
  ext⟨k,H,J⟩;let:=ϨM J;let:=((ϫ6 hr).mp H).2;show(ϯB,Á)
 apply(r,hr,ϴS,iff);let(j,_,q):=Zac (ϴh).2;let(k,H,J):=(iff j).mp (Ù q Uf);let:k∈ś:=pZ.mpr ⟨H,ϗH⟩;rw[z]at this;cases this
theorem Px(G:Ĩ)(C:Ĝ)(h:ľ){a b:Nat}(A:a∈r)(B:b∈r):Þ a+1≠Þ b:=λz=>by
 let(L,_):=ϴh;let c:=(Ϫl A).2;let lb:=(Ϫl B).2;rcases Zau a b with q|q|q
 .let:=C.ap a b ϒG ϒH q Á;lia
 .subst q;lia
 let:=C.ap b a ϒH ϒG q Á;lia
theorem Yh(p:À Pt):∀c,ϐD ϰ1=ã->ϳH:=by
 let(u,e,h,_):=kG<|ĥ p;let:cs ϰ1=u:=ϙj
 rw[this];show h
end
section
variable{ts:À Nd}{c0:F}{D0:Int}
theorem Gd.cf0(G:Ĩ)(C:Ĝ):∃k,ċ/\Þ k=ϰg:=by
 let H:=϶Y;let le:Ć ts.length (λk=>϶c k-Ϲe)≠[]:=λz=>by
  let:=Ŧ z;rw[I4,Z1,K8U]at this;lia
 let ms:=mM le;let(k,h,e):=Β ms.1;let h:=ϨL;apply(k,h,?_);let e:ϫN=϶c k-Ϲe:=e.symm;let d:=pf (D0:=D0) H h;let a:=C.at_ k h;rw[d,e,iI h]at a;lia
structure PicF(S:À Str):Prop where
 ne:∃w,S[0]?=ϰh/\ϳP
 tri:Ϧm ((ϳP/\¬ϴm/\∀c∈â,ϸ3\/ϴA)\/(ϴm/\¬ϳP/\∀c∈â,ϩS 32)\/(¬ϳP/\¬ϴm/\(∀c∈â,ϦK)/\58∈â))
 fin:Ϧm (∀c,(â).reverse.head?=ã->ϳH)
 fst:∃w∈S,∃c,â[0]?=ã/\ϳH
 pT:∀i w v,S[i]?=ϰh->S[i+1]?=ú->isL v->ϴm
 jS:∀i w,S[i]?=ϰh->ϴm->∃v,S[i+1]?=ú/\isL v
 up:∀i w v,S[i]?=ϰh->S[i+1]?=ú->ϴm->∀p,p∈oF v↔∃c,â[p]?=ã/\(c=43\/c=35)
 far:Ϧm (ϳP->oF w≠[]/\∀p,p∈oF w->p+1∉oF w)
 sig:∀j w,S[j]?=ϰh->ϳP->∀d v,0<d->(∀m u,0<m->m<=d->S[j+m]?=Ė->¬isL u)->S[j+d]?=ú->∀p c,ϱ9[p]?=ã->ϘG->p∈oF w
end
section
variable{ts:À Nd}{c0:F}{D0:Int}{r:Ó}{l:Nat}
theorem L5{k:Nat}(hc:Ě≠[]):(∃j∈Ě,Þ j=bD (ĉ k))/\∃j∈Ě,Þ j=gj (ĉ k):=by
 let p:=϶O hc;let L:Ã (ĉ k)=Ã Ě:=Ň aR I4
 let at_:∀i(hi:i<Ã Ě),ę (û<|ĉ k) 0=Þ (Ě[i]):=ϸZ (ϰM aR Oe ϲO)
 delta bD gj;rw[L,at_ 0 p,at_ _<|ó (Ã Ě-1<Ã Ě)];show((_,ϴk,rfl),(_,ϴk,rfl))
theorem vI(G:Ĩ)(C:Ĝ)(h:ľ){a b:Nat}(A:a∈r)(B:b∈r)(ab:a<b)(ca:ϲN a≠[])(c:ϲN b≠[]):gj (ĉ a)+2<=bD (ĉ b):=by
 let(L,_):=ϴh;let d:=(Ϫl A).2;let lb:=(Ϫl B).2;let(_,x,H,ex):=L5 (D0:=D0) ca;obtain⟨⟨y,Y,e⟩,_⟩:=L5 (D0:=D0) c;let lt:=EC G.pt ϒG ϒH ab Á H Y;let:=C.ap x y (aM.mp H).1 (aM.mp Y).1 lt (ξ (ϨM H)<|ϨM Y);lia
theorem D_{own:Nat}{bs:Ó}{p:Nat}(h:mkC (ϰO p)):p=own:=by
 delta eh mkC at h;split at h
 .assumption
 split at h<;>lia
theorem KA{own:Nat}{bs:Ó}{p:Nat}:(ϲd (ϰO p) 43 35)↔p∈bs:=by
 delta eh;constructor
 .intro h
  split at h
  .split at h
   .assumption
   lia
  split at h
  .assumption
  lia
 ext h;rw[Ÿ,Ÿ];split
 .exact Ñ rfl
 show È rfl
structure OneM(w:Str):Prop where
 ex:∀p c,â[p]?=ã->ϳH->∃q m,mkC m/\â[q]?=ϩc/\∀k:Nat,(p<=k/\k<=q\/q<=k/\k<=p)->∃d,â[k]?=Ω/\d≠32
 un:∀p q a b,p<q->â[p]?=ϴW->mkC a->â[q]?=ż->mkC b->ϥ9 (p<k/\k<q/\∀d,â[k]?=Ω->d=32)
theorem MM(G:Ĩ)(C:Ĝ)(x:ϴ5)(h:ľ):OneM (S3 ϰa):=by
 let(L,_):=ϴh;let f:ϱo 100:=þ G.len
 let M:∀{a:Nat},mkC a->a≠32:=λm=>by delta mkC at m;lia
 apply(λp c e hc=>?_,λp q a b N w A D g=>?_)
 .let(k,u,o,P,I,_):=(ϩZ hc).mp e
  let(T,O,m,F,Q):=HK G C x h u o;apply(_,m,F,Q,Ϥ1);let:=lJ (Þ k) (ĉ k) j;let B:eh (Þ k) (ĉ k) j≠32:=Á
  show(_,(ϩZ B).mpr ⟨k,u,o,Á,Á,rfl⟩,B)
 let(K,H,c1,P,I,e1):=(ϩZ<|M A).mp w;let(v,s,i,R,S,E):=(ϩZ<|M g).mp D;rw[<-e1]at A;rw[<-E]at g;let T:=D_ A;let O:=D_ g;let lt:K<v:=by
  rcases Zau K v with z|z|z
  .exact z
  .subst z;lia
  let:=ύt s H z i c1;lia
 let ap:=ύt H s lt c1 i;apply(gj (ĉ K)+1,Á,Á,λd y=>?_);apply Zaf;ext hd2;let(k3,t,n,U,V,_):=(ϩZ hd2).mp y;rcases Zau K k3 with z|z|z
 .let:=ύt H t z c1 n
  lia
 .subst z;lia
 let:=ύt t H z n c1;let:=DR C G.pt (L.lt K H) c1;lia
theorem Ei(G:Ĩ)(h:ľ):ϻ7 ((ô).t=Ϥ7):=by
 let(L,U):=ϴh;let:=(dS (xs:=ϳz (ô).t)<|όM (U ϳX)).1;let(k,H,e):=Β this;show(k,H,e)
theorem Jp{l m:Nat}(G:Ĩ)(lm:l<m)(M:m<=Ã ò):∀r,ľ->Ē+Ã ň<=Ϩo m:=by
 ext r hr;obtain⟨d,rfl⟩:∃d,m=l+1+d:=⟨m-(l+1),Á⟩
 clear lm
 induction d with
 |zero=>rw[Zav,oY hr];show ß
 |succ d ih=>
  let:=ih Á;obtain⟨R,h⟩:∃R,ò[l+1+d]?=ϥR:=ϰc Á
  let:=oY (D0:=D0) h;rw[<-Zcm,this];lia
theorem Gd.picF(G:Ĩ)(g1:ř)(g2:ţ):PicF ø/\∀w∈ø,ϴm->OneM w:=by
 let C:=ϴG;let E:ϴ5:=Á
 let h0:=϶Y;let f:ϱo 100:=þ G.len
 let nl:=(όX h0).1;obtain⟨U,g⟩:∃U,ò[0]?=some U:=ϰc nl;let S:∀{i w},û ø=ϰh->ϳP->∃l r,ľ/\i=Ē/\w=S3 ħ:=fun{i w} h m=>by
  obtain⟨l,r,hr,q|⟨o,_,_,_,q⟩|⟨_,_,q⟩⟩:=uB h
  .exact(l,r,hr,q.1,q.2)
  .rw[q]at m
   show Ϥt ϒi
  rw[q]at m;show Ϥt ϓV
 let I:∀{i w},û ø=ϰh->ϴm->∃l r,ľ/\ś≠[]/\i=Ē+ϲq+1/\w=S3 ϰa:=fun{i w} h m=>by
  obtain⟨l,r,hr,q|⟨o,_,_,_,q⟩|q⟩:=uB h
  .rw[q.2]at m
   show Ϥt<|JS G C hr
  .rw[q]at m
   show Ϥt<|K_ G C hr o
  show(l,r,hr,q.1,Ϧa,q.2.2)
 let t:∀{l r},ľ->ś≠[]->Ϩo (l+1)=Ē+ϲq+1+1:=fun{l r} h e=>by
  rw[oY h,n6,ϰ4];lia
 apply(((_,kN (o:=0) g<|iu U,Ϭk g),όl,όl,?_,λi w v W V m=>?_,λi w W m=>?_,λi w v W V m p=>?_,λw W m=>?_,λj w M m d v hd N V p c hc Q=>?_),λw W m=>?_)
 .let(i,hi):=Zaa W
  obtain⟨l,r,hr,q|⟨o,o1,o2,_,q⟩|⟨e,_,q⟩⟩:=uB hi
  .rw[q.2]
   apply È ⟨Ϭk hr,JS G C hr,ϲk⟩;let(p,P):=Ϸy;show L9 G C hr P
  .rw[q]
   apply Ñ<|Ñ ⟨ϒi,K_ G C hr o,ϲk,?_⟩
   .let(p,P):=Ϸy
    rcases rQ G C hr P with z|⟨z,_⟩<;>lia
   let(k,K,ek):=Ei G hr;delta hiT at o2;let s:cs (ϪD o)=[58]:=ϱl sgS (Os Á)
   show Ts<|(AW C (ϥD).1 o Õ).mpr ⟨k,K,rfl,s⟩
  rw[q];apply Ñ<|È ⟨CY G C E hr e,ϓV,ϲk⟩;let(p,P):=Ϸy;rcases DX G C hr P with z|⟨k,_,_,_,_,z⟩
  .exact È z
  let:=lJ (Þ k) (ĉ k) p;lia
 .unfold Rs at W
  let(ps,_,rfl):=Zc.mp W;show Yh ps
 .let(k,K,e):=G.cf0 C
  obtain⟨r,hr⟩:∃r,r∈ò/\ϳO:=by let:=(ur G.he).mem_iff.mpr<|ϥ6 K;let(r,a,b):=ϗ1;show(r,a,b)
  let(l,f):=Zaa hr.1;let(L,_):=G.lv f;let lb:=ϒt<|gL<|ϱr hr.2;let Y:Ã (ϲA ô)=ϱt ô:=ϪS;obtain⟨c,hc⟩:∃c,(ϲA ô)[0]?=ã:=ϰc (þ lb.1)
  let lc:=ϑf Ϩ1;show(_,Ts<|ϻc (o:=0) f<|iu r,c,(ϙn Á).mpr ⟨k,hr.2,Á,Ù (ó (0-(Þ k-ϰg)=0)) hc⟩,Á)
 .let(l,r,hr,q,rfl):=S V m
  cases l with
  |zero=>delta Z0 at q;rw[K7s]at q;cases q
  |succ l=>
   let(y,H,e,_):=sW G hr;let n:=t H e;let:=ϻc H<|wU e;rw[ó (Ē+(hiT ts y+1)=i),W]at this;rw[Zz this];show CY G C E H e
 .let(l,r,hr,e,q,rfl):=I W m
  let(y,H):=xA G hr e;let n:=t hr e;let:=ϻc H<|iu y;rw[Zav,n,<-q]at this;show(_,this,Ϭk H)
 .let(l,r,hr,e,q,rfl):=I W m
  let(y,H):=xA G hr e;let n:=t hr e;let:=ϻc H<|iu y;rw[Zav,n,<-q,V]at this;rw[Zz this,n8 G C H];let(A,R,_,iff):=sW G H;rw[hr]at R;cases R;rw[Zc];constructor
  .rintro⟨j,M,rfl⟩
   let(k,K,J):=(iff j).mp M;let X:Ě≠[]:=ϗH
   let(B,D):=xi C G.pt ((ϥD).1.lt k K) J;let u:=(KA (own:=Þ k) (p:=Þ j)).mpr (ń (Þ j∈ĉ k)<|ϱ6 ⟨j,J,rfl⟩);show(_,(ϔA Á).mpr ⟨k,K,X,B,D,rfl⟩,u)
  ext⟨c,hc,u⟩;let(k,K,X,B,D,rfl):=(ϔA Á).mp hc;let(j,J,ej):=Β<|KA.mp u;show(j,(iff j).mpr ⟨k,K,J⟩,ej)
 .let(i,hi):=Zaa W
  let(l,r,hr,q,rfl):=S hi m;rw[ϫs];apply(λz=>(ϥD).2 ϳX,λp P O=>?_);let(a,ha,rfl):=Β P;let(b,hb,eb):=Zc.mp O;show Px G C hr ha hb eb.symm
 .let(l,r,hr,q,rfl):=S M m
  rw[ϫs];let(x,A,R,T):=uB V;let Y:x=l:=by
   let D:=(Za.mp R).1;let B:=(ϲ8 hr);rcases Zau l x with z|z|z
   .let s1:=ϓ2 G z Á r hr
    let ln:=Ϯu ts r;let s2:Ϩo x<=j+d:=by rcases T with⟨a,_⟩|⟨o,_,_,a,_⟩|⟨_,a,_⟩<;>lia
    let p2:=ϻc R<|iu A;rw[Zav,ó (Ϩo x=j+(Ϩo x-j))]at p2;show Đ (Ϭk R)<|N _ _ Á Á p2
   .exact z.symm
   let s1:=ϓ2 G z Á A R;let ln:=Ϯu ts A;rcases T with⟨a,_⟩|⟨o,_,a2,a,_⟩|⟨e,a,_⟩
   .lia
   .lia
   rw[ϰ4]at ln;lia
  subst Y;rw[hr]at R;cases R;rcases T with⟨a,rfl⟩|⟨o,_,_,_,rfl⟩|⟨_,_,rfl⟩
  .lia
  .rcases rQ G C hr hc with z|⟨_,k,K,z⟩
   .subst z
    delta mkC at Q;lia
   show ϱ6 ⟨k,K,z.symm⟩
  rcases DX G C hr hc with z|⟨k,K,_,_,_,z⟩
  .subst z
   delta mkC at Q;lia
  let bi:=lJ (Þ k) (ĉ k) p;let Z:mkC c:=by
   rcases Q with s|s|s
   .lia
   .lia
   show s
  rw[<-z]at Z;show ϱ6 ⟨k,K,ϵQ (D_ Z)⟩
 let(i,hi):=Zaa W;let(l,r,hr,e,q,rfl):=I hi m;show MM G C E hr
theorem Gd.rws(G:Ĩ)(g1:ř)(g2:ţ):(∀w∈ø,ϻV (Ã â))/\Ã ø<=400:=by
 let C:=ϴG;let a:=϶Y;apply(ϹD,?_)
 .let(p,h,rfl):=ϴa
  show K4<|G.rows C p h
 let nl:ϹB (Ã ò):=(όX a).2;let l:=G.len;let al:=ϓ1 G.tl (L:=ò) ((ϖo G.he q.1.lt))
 delta Rs;rw[I4];lia
end
structure Pc(S:À Str):Prop where
 f:PicF S
 o:Ϧm (ϴm->OneM w)
theorem PicF.tr{S:À Str}(P:PicF S){w:Str}(H:w∈S)(h:ϳP):¬ϴm:=by
 rcases P.tri w H with⟨_,q,_⟩|⟨_,q,_⟩|⟨q,_⟩
 .exact q
 .exact ϵ6 q
 show ϵ6 q
theorem Uw:∀(ws:À Ó)(b:Nat),ϩf (b+1)=Î (ϩf b) λx=>(x.1+1,x.2):=by
 ext ws
 induction ws with
 |nil=>ext b;rfl
 |cons w ws ih=>
  ext b;rw[paL,paL,Z6,ó (b+1+w.length+1=ϧa+1),ih]
  congr 1
  split<;>rfl
theorem Jt(w:Str):oF w=(ϨQ â 0).map λx=>x.1+Ã x.2 / 2:=by
 rw[<-yF,Tk];delta oF;apply Zt;ext x _;let:Ã x.2=Ã đ:=aU x.2;change x.1+Ã x.2 / 2=x.1+Ã đ / 2;rw[this]
theorem OJ{w v:Str}(h:ϱ9=32::â):oF v=Î (oF w) Ϸw:=by
 rw[Jt,Jt,h,kI,paL,ė,K9B];change(ϨQ â<|0+1).map _=_;rw[Uw,Tk,Tk];apply Zt;ext x _;change ϏB x.1 (Ã x.2 / 2);lia
theorem near{S:À Str}(P:PicF S):∀(i:Nat)(w:Str),S[i]?=ϰh->¬ϳP->∃j d u,i=j+d/\0<d/\S[j]?=Ė/\isL u/\∀m x,0<m->m<=d->S[j+m]?=ö->¬isL x:=by
 ext i
 induction i with
 |zero=>ext w h n;let(v,a,b):=P.ne;rw[h]at a;cases a;show absurd b n
 |succ i ih=>
  ext w h n;obtain⟨v,V⟩:∃v,S[i]?=ú:=ϰc (þ ϲE)
  by_cases q:isL v
  .apply(i,1,v,rfl,Nat.one_pos,V,q,λm x m0 M H=>?_)
   let:m=1:=Á
   subst this;rw[h]at H;cases H;show n
  let(j,d,u,e,D,U,l,no):=ih v V q;apply(j,d+1,u,Á,Á,U,l,λm x m0 M H=>?_);by_cases z:m<=d
  .exact no m x m0 z H
  let:j+m=i+1:=Á
  rw[this,h]at H;cases H;show n
theorem Je{w v:Str}(h:ϱ9=32::â):isL v↔ϳP:=by
 delta isL;rw[h];constructor
 .rintro⟨c,hc,m⟩
  rcases Z7.mp hc with rfl|hc
  .lia
  show(c,hc,m)
 ext⟨c,hc,m⟩;show(c,Ą hc,m)
section
variable{R:À Str}
theorem uQ(h:ϯ2):Ĵ ϶7=Ì (i=j) ú (R[j]?):=by
 rw[Zbd];by_cases e:i=j
 .rw[ϳS,ϳS]
  subst e;rw[Ÿ]
 rw[ϰ4,ϰ4]
theorem LB(h:ϯ2)(J:j<=i):Ĵ ϭc=R[j]?:=by rw[K9V (ñ Zk),Zct,Os Á]
theorem Ij(h:ϯ2)(J:i<j):Ĵ ϭc=R[j-1]?:=by
 let l:Ã (R.take<|i+1)=i+1:=ñ Zk
 rw[K9a Á,l,K85]
 congr 1
 lia
theorem no0{i:Nat}{w v:Str}(h:ϵI=ϰh)(H:ϱ9=â++[32]):¬Pc ϶7:=λQ=>by
 let hi:=ϲE;let m:v∈϶7:=Ts (i:=i) (ϧ7 ė);show Q.f.fin v m 32 (by rw[H,Zdn];rfl) rfl
theorem no2{i x:Nat}{w v:Str}(W:ϵI=ϰh)(H:x∈ϱ9)(h:x≠32/\x≠58/\x≠124/\ϛZ 43 45 94 35 (¬(97<=x/\x<=122))):¬Pc ϶7:=λQ=>by
 let hi:=ϯD;let m:v∈϶7:=Ts (i:=i) (ϧ7 ė);rcases Q.f.tri v m with⟨_,_,q⟩|⟨_,_,q⟩|⟨_,_,q,_⟩
 .let:=q x H;lia
 .let:=q x H;lia
 let:=q x H;lia
theorem no3{S:À Str}(h:∀v∈S,∃t,ϱ9=32::t):¬Pc S:=λQ=>by let(v,H,c,hc,n):=Q.f.fst;let(t,e):=h v H;rw[e]at hc;show n (ϥE hc)
theorem no4(P:Pc R):¬Pc (R.drop 1):=λQ=>by let(v,H,lv):=Q.f.ne;rw[K85]at H;let(w,h,lw):=P.f.ne;show P.f.tr ϳN lw<|P.f.pT 0 w v h H lv
theorem no5{i:Nat}{w:Str}(P:Pc R)(h:ϵI=ϰh)(lw:ϳP):¬Pc ϭc:=λQ=>by
 let hi:=ϲE;let a:=Q.f.pT i w w (by rw[LB hi ß,h]) (϶1<|Ij hi<|K8d i) lw;show P.f.tr ϳN lw a
theorem no6{i:Nat}{w:Str}(P:Pc R)(h:ϵI=ϰh)(b:ϴm):¬Pc ϭc:=λQ=>by
 let hi:=ϲE;let(v,H,lv):=Q.f.jS i w (by rw[LB hi ß,h]) b;rw[Ij hi<|K8d i]at H;let H:ϵI=ú:=H;rw[h]at H;cases H;show P.f.tr ϳN lv b
theorem no1{i:Nat}{w v:Str}(P:Pc R)(W:ϵI=ϰh)(V:ϱ9=32::â):¬Pc ϶7:=λQ=>by
 let hi:=ϯD;let s:û ϶7=ú:=ϧ7 ė
 let o:∀{j},j≠i->Ĵ ϶7=R[j]?:=fun{j} h=>ϧ7 (P3 ϨW)
 let M:=Ts W;let A:=OJ V;let cin:∀{p},p∈oF v↔∃q∈oF w,q+1=p:=fun{p}=>by rw[A,Zc]
 rcases P.f.tri w M with⟨lw,_,_⟩|⟨B,nw,_⟩|⟨nl,nb,_,C⟩
 .let(ne,f):=P.f.far w M lw
  cases i with
  |succ a=>
   obtain⟨u,U⟩:∃u,R[a]?=Ė:=ϰc Á
   let r:=P.f.pT a u w U W lw;let g:=P.f.up a u w U W r;let k:=Q.f.up a u v (by rw[o Á,U]) s r;let(p,_,e):=Zac ne;let H:p∈oF w:=ϵ1 Uf
   show f p H<|(g<|p+1).mpr<|(k<|p+1).mp<|cin.mpr ⟨p,H,rfl⟩
  |zero=>
   cases e:R[1]? with
   |none=>
    let(x,X,c,hc,n):=Q.f.fst;let(j,J):=Zaa X;let jl:=(ϥz).1;rw[K8z]at jl;let:=List.getElem?_eq_none_iff.mp e;let:j=0:=Á
    subst this;rw[s]at J;cases J;rw[V]at hc;show n (ϥE hc)
   |some u=>
    let I:=Ts e;let N:¬isL u:=λz=>ό3 lw<|P.f.pT 0 w u W e z;let hc:∃p c:Nat,(cs u)[p]?=ã/\ϘG:=by
     rcases P.f.tri u I with⟨q,_⟩|⟨⟨c,hc,m⟩,_⟩|⟨_,_,_,q⟩
     .exact Đ q N
     .let(p,H):=Ϸy
      show(p,c,H,Ñ<|Ñ m)
     let(p,H):=Zaa q;show(p,58,H,È rfl)
    let(p,c,H,t):=hc;let no:∀S:À Str,S[0+1]?=Ė->∀(m:Nat)(x:Str),0<m->m<=1->S[0+m]?=ö->¬isL x:=λS F m x m0 y X=>by
     let:m=1:=Á
     subst this;rw[F]at X;cases X;show N
    let E:(R.set 0 v)[0+1]?=Ė:=ϧY (o Á)
    let a:=P.f.sig 0 w W lw 1 u Nat.one_pos (no R e) e p c H t;let b:=Q.f.sig 0 v s ((Je V).mpr lw) 1 u Nat.one_pos (no _ E) E p c H t;let(q,G,rfl):=cin.mp b;show f q G a
 .let(u,U,l):=P.f.jS i w W B
  let bv:isB v:=by let(c,hc,m):=B;show(c,Ù V (Ą hc),m)
  let g:=P.f.up i w u W U B;let k:=ϘK (o Á);let(ne,f):=Ϛp;let(p,_,e):=Zac ne;let H:p∈oF u:=ϵ1 Uf
  let(c,hc,m):=(g p).mp H;show f p H<|(k<|p+1).mpr ⟨c,Ù V hc,m⟩
 let(p,H):=Zaa C
 let(j,d,u,e,D,U,l,no):=near P.f i w W nl;subst e;let a:=ϛk<|È rfl;let b:=Q.f.sig j u (by rw[o Á,U]) l d v D (λm x m0 y X=>by
  by_cases z:m=d
  .subst z
   rw[s]at X;cases X;exactλq=>nl<|(Je V).mp q
  rw[o Á]at X
  show no m x m0 y X) s (p+1) 58 (Ϲi V)<|È rfl
 show(Ϛp).2 p a b
theorem no7{i p a d:Nat}{w v:Str}(P:Pc R)(H:ϵI=ϰh)(B:ϴm)(f:â[p]?=ϴW)(t:ϱ9=Ť â p d)
  (h:ϔj):¬Pc ϶7:=λQ=>by
 let hi:=϶4;let T:=(Za.mp f).1;let s:û ϶7=ú:=ϧ7 ė
 let S:∀{j},j≠i->Ĵ ϶7=R[j]?:=fun{j} h=>ϧ7 (P3 ϨW)
 let M:=϶F;let C:=Ts s;let V:ϱ9[p]?=Ω:=by rw[t,Zbd,ė,Os T]
 let o:∀{k},k≠p->ϱ9[k]?=â[k]?:=fun{k} h=>by rw[t,Zbd,P3 ϨW]
 rcases h with rfl|⟨Z,d2,d3,h⟩
 .let lv:isL v:=⟨97,Ts V,Á⟩
  cases i with
  |zero=>let(x,X,l):=P.f.ne;rw[H]at X;cases X;show ό3 l B
  |succ b=>
   obtain⟨u,U⟩:∃u,R[b]?=Ė:=ϰc Á
   let J:=Q.f.pT b u v (by rw[S Á,U]) s lv;let(x,X,l):=P.f.jS b u U J;rw[H]at X;cases X;show ό3 l B
 .obtain⟨_,wn,Y⟩:ϴm/\¬ϳP/\∀c∈â,ϩS 32:=by
   rcases P.f.tri w M with⟨q,_⟩|q|⟨_,q,_⟩
   .exact absurd B<|ό3 q
   .exact q
   .exact absurd B q
  let I:∀c∈ϱ9,c=d\/ϩS 32:=λc hc=>by
   let(k,K):=Ϸy;by_cases z:k=p
   .subst z
    rw[V]at K;show È (ϥE K)
   .rw[o z]at K
    show Ñ<|Y c<|Ts K
  let bv:isB v:=by
   rcases Q.f.tri v C with⟨⟨c,hc,m⟩,_⟩|⟨q,_⟩|⟨_,_,_,q⟩
   .let:=I c hc
    lia
   .exact q
   .let:=I 58 q
    lia
  let(u,U,lu):=P.f.jS i w H B;let F:=P.f.up i w u H U B p;let G:=ϘK (S Á) p;rcases h with h|⟨A,O,D⟩
  .apply h ⟨ϴS,ϴS⟩
   .let(c,hc,m):=G.mp<|F.mpr ⟨a,f,z⟩
    rw[V]at hc;cases hc;show m
   .let(c,hc,m):=F.mp<|G.mpr ⟨d,V,z⟩
    rw[f]at hc;cases hc;show m
  .let(q,m,n,r,y):=(Q.o v C bv).ex p d V D
   let E:q≠p:=λz=>by subst z;rw[V]at r;cases r;show O n
   let W:=r;rw[o E]at W;let un:=(P.o w M B).un;rcases Nat.lt_or_gt_of_ne E with lt|lt
   .let(k,L,N,k3):=un q p m a lt W n f A
    let(e,e1,g):=y k Á;rw[o Á]at e1;show g<|k3 e e1
   .let(k,L,N,k3):=un p q a m lt f A W n
    let(e,e1,g):=y k Á;rw[o Á]at e1;show g<|k3 e e1
end
def bB(w:Str):Bool:=Ë (94∈â)||Ë (35∈â)
theorem Xa{w:Str}:bB w=true↔ϴm:=by
 delta bB isB mkC;rw[Zco,K9k,K9k];constructor
 .rintro(h|h)
  .exact(94,h,È rfl)
  show(35,h,Ñ rfl)
 rintro⟨c,hc,rfl|rfl⟩
 .exact È hc
 show Ñ hc
def y_(R:À Str)(k:Nat):Str:=ę (R[k]?) Str.empty
theorem fA{R:À Str}{k:Nat}(h:ϯ6):R[k]?=Â Ϸk:=ϱl y_ ϴ9
theorem vh{R:À Str}{k:Nat}(h:ϯ6):Y9 ϥV á=Â (Æ Ϸk):=bZ (ϰM aC Oe<|fA h)
theorem zR(c:Nat)(w:Str):inS Š w=Ë (c∈â):=StrLaws.found_one w c
def bix(R:À Str):Ó:=ļ (ŷ R.length) λk=>bB Ϸk
def lix(R:À Str):Ó:=ļ (ŷ R.length) λk=>Ë (k=0)||Ë (á-1∈iL ϵB)
section
variable{R:À Str}
theorem vi(p:Rws R):fR [Ö ϥV]=Ď (nO ϵB):=by
 delta fR nT;let w:=p.few;let S:ϱ1 ((É R.length)):=θ Á;let C:è "^"=⟨#[94]⟩:=ç
 let c:è "#"=⟨#[35]⟩:=ç
 simp![aV,S];generalize h:Ů=rc
 let e:=ko h (Ģ<|ϻ6 á) (λk=>bB Ϸk) (Ģ<|.sh<|Ä á) (ŷ R.length) rfl (Ù Z1<|Ş Á) (by
  ext k H;rw[K8R];let a:=vh ϥm;apply(?_,ϰs ?_)
  .unfold bB
   let d:=zR 94 Ϸk;let f:=zR 35 Ϸk;rw[<-C]at d;rw[<-c]at f;cases e1:decide (94∈cs Ϸk)with|true=>rw[e1]at d;simp![a,AB,d];rfl|false=>rw[e1]at d;simp![a,AB,d,f];rfl
  simp![Y2])
 subst e;simp![Y2];rw[qP];rfl
theorem Ag(L:Ó):lay 1 (Ö<|nD L):=ϯj
theorem rJ(p:Rws R):dE [Ö ϥV]=Ď (nO<|lix R):=by
 delta dE kX;let f:=p.few;let S:ϱ1 ((É R.length)):=θ Á;let b:=vi p;simp![b,dM,aV,S];generalize w:Ů=rc
 let e:=ko w (Ģ<|ϻ6 á) (λk=>Ë (k=0)||Ë (á-1∈iL ϵB)) (Ģ<|.sh<|Ä á) (ŷ R.length) rfl (Ù Z1<|Ş Á) (by
  ext k H;rw[K8R];apply(?_,ϰs ?_)
  .let L:=QW false (á-1)<|iL ϵB
   let L:ϫf (Ä<|á-1) (Ö<|nD ϵB)=Ý (í<|Ë<|á-1∈iL ϵB):=L;by_cases h:k=0
   .let d:Ë (á=0)=true:=Tl Á
    rw[ϵc];simp![d];rfl
   let d:å (Ë (á=0)):=Pi Á;rw[ϲR];simp![d,L];rfl
  simp![Y2])
 subst e;simp![Y2];rw[qP];rfl
theorem FL{k:Nat}:k∈ϵB↔ϯ6/\isB Ϸk:=by delta bix;rw[K89,Zl,Xa]
theorem IV(P:Pc R){k:Nat}(h:k∈lix R):ϯ6/\isL Ϸk:=by
 delta lix at h;let(H,c):=K89.mp h;let H:=ϥm;apply(H,?_);rw[Zco,K9k,K9k]at c;rcases c with rfl|c
 .let(w,a,b):=P.f.ne
  rw[fA H]at a;cases a;show b
 let(j,J,e):=Zc.mp c;let(d,f):=FL.mp J;let:k=j+1:=Á
 subst this;let(v,a,b):=P.f.jS j _ (fA d) f;rw[fA H]at a;cases a;show b
theorem IF(h:ϤS):0∈lix R:=ϧ8 lix (Ϭm ((Ϸs (Zl.mpr h))))
theorem uA{L:Ó}(h:L≠[])(l:ϱT L.length)(z:Int):∃a,a∈L/\Y9 (nD L) (z%É L.length)=Â (Ä ϲs)/\(É 0<É L.length)=True/\Ϥq (É L.length):=by
 let p:=ώ5;let m:=dG z (ó<|É 0<É L.length);obtain⟨k,H⟩:ϥ9 (z%É L.length=á):=⟨ā (z%É L.length),Á⟩
 let K:k<L.length:=Á
 apply(L[k],ϴk,?_,ϰr Á,ϰr Á);rw[H];show bZ<|Lm ϷS
theorem xU(x:Str)(k:Nat)(h:ϒ7):cs (ϵS<|Â á)=ý ϴs k:=by
 delta cs;rw[beq_iff_eq.mp<|PyProof.Rows.slice_closes_to (x:=x) (j:=á)<|ϯr aU];change Ϩp (϶8 _);simp
theorem qV(x:Str)(k:Nat)(h:ϒ7):cs (϶3 (Â á) none)=ϰD ϴs k:=by
 delta cs;rw[PyProof.Rows.slice_from_eq (x:=x) (i:=á) (b:=(É x.length)) Á Á rfl];change Ϩp (϶8 _);rw[ó (ā á=k)];simp;rw[K90<|by rw[K8y,<-aU];lia]
theorem iM(a b:Str):cs ϩm=cs a++cs b:=iW a b
theorem bS(a:Str):a.length=Ã (cs a):=aU a
def Sj(a d:Nat):Prop:=ϔj
theorem Kg{w:Str}{p d:Nat}(h:p<Ã â):cs (Ϻ8 none (Â Ū)++ϯ7++Ϻ8 (Â<|(Ð (p+1))) none)=Ť â p d:=by
 let l:=bS w;rw[iM,iM,xU w p Á,qV w (p+1) Á,Zba,Ÿ,K9M];rfl
theorem sR{w:Str}(wl:ϻV (Ã â))(W:ϴm)(z:Int):∃v p a d,dw [Æ w,Ä z]=Ý (Æ v)/\â[p]?=ϴW/\ϱ9=Ť â p d/\d<128/\Sj a d:=by
 delta dw gM;let l:=bS w;let lb:ü w.length:=bQ Á;let s4:ϱ1 ((É w.length)):=θ Á;let cst:ϰe (è "-+^#")=ϑP:=ç
 simp![lb,s4];generalize M:Ŋ=r';apply LQ M (λi g=>∃V E n:Ú OD,g=[æ<|Æ w,æ<|Ä z,V,E,n]/\∀j:Nat,j<i->∀q:Nat,(z+ĺ)%É w.length=É q->∀c,â[q]?=ã->¬mkC c) (λo=>∃v p a d,o=.sh (Æ v)/\â[p]?=ϴW/\ϱ9=Ť â p d/\d<128/\Sj a d) ⟨_,_,_,rfl,λj h=>ϵ6<|Zca j⟩ ?_ ?_ ?_
 .rintro i d g hd ⟨V,E,n,rfl,no⟩
  let(N,rfl):=ϷK;rw[K8R];let H:É 0<É w.length:=Á
  let m0:=dG (z+Ċ) H;obtain⟨p,k⟩:∃p:Nat,(z+Ċ)%É w.length=Ū:=⟨ā ((z+Ċ)%É w.length),Á⟩
  let P:p<Ã â:=Á
  let T:Ϥq (É w.length):=ϰr Á;let t:(É 0<É w.length)=True:=eq_true H;obtain⟨c,b⟩:∃c,â[p]?=ã:=ϰc P;let A:Y9 w.cps.toList Ū=ã:=bZ b;let I:inS Š (è "-+^#")=Ë (c∈ϑP):=by let:=zR c<|è "-+^#";rw[this];delta cs;rw[cst]
  let L:Ū+1=Ð (p+1):=Á
  by_cases f:c∈ϑP
  .rw[Tl f]at I
   let U:=ϧR 7 (ϱF<|É 0<3);obtain⟨s,d,e1,K,F,J⟩:∃(s:Str)(d:Nat),eI Ϧq (Ñ Š)=Â (Æ s)/\(s.length<=3/\Y9 s.cps.toList ύI=Ω)/\d<128/\Sj c d:=by
    let r:ύI=0\/ϲd ύI 1 2:=Á
    let t1:ϰe (è "+#a")=[43,35,97]:=ç
    let t2:ϰe (è "-^ ")=[45,94,32]:=ç
    let t3:ϰe (è "-#a")=[45,35,97]:=ç
    let t4:ϰe (è "^+a")=[94,43,97]:=ç
    simp only[Z7,K8P,or_false]at f;rcases f with rfl|rfl|rfl|rfl
    .apply("+#a",?_)
     rw[t1];rcases r with e|e|e<;>rw[e]
     .exact(43,ϵC,(ç,rfl),Õ,Ñ (ϲr Õ Õ (È Õ)))
     .exact(35,ϵC,(ç,rfl),Õ,Ñ (ϲr Õ Õ (È Õ)))
     show(97,ϵC,(ç,rfl),Õ,È rfl)
    .apply("-^ ",?_)
     rw[t2];rcases r with e|e|e<;>rw[e]
     .exact(45,ϵC,(ç,rfl),Õ,Ñ (ϲr Õ Õ (È Õ)))
     .exact(94,ϵC,(ç,rfl),Õ,Ñ (ϲr Õ Õ (È Õ)))
     show(32,ϵC,(ç,rfl),Õ,Ñ (ϲr Õ Õ (È Õ)))
    .apply("-#a",?_)
     rw[t3];rcases r with e|e|e<;>rw[e]
     .exact(45,ϵC,(ç,rfl),Õ,Ñ (ϲr Õ Õ (Ñ ⟨È rfl,ϙU,Õ⟩)))
     .exact(35,ϵC,(ç,rfl),Õ,Ñ (ϲr Õ Õ (È Õ)))
     show(97,ϵC,(ç,rfl),Õ,È rfl)
    apply("^+a",?_);rw[t4];rcases r with e|e|e<;>rw[e]
    .exact(94,ϵC,(ç,rfl),Õ,Ñ (ϲr Õ Õ (È Õ)))
    .exact(43,ϵC,(ç,rfl),Õ,Ñ (ϲr Õ Õ (Ñ ⟨Ñ rfl,ϙU,Õ⟩)))
    show(97,ϵC,(ç,rfl),Õ,È rfl)
   let D:ϬA Ϧq:=rE _;let x:=Wr Ϧq Š;rw[e1]at x;let u:∀g:L3.Env,eDC ώb g=Ϸm Ϧq:=ϰs X_;generalize Ϧq=L1 at D x u;let sB:ü s.length:=ax Á;let X:=Ϝc<|Â Ū;let Y:=Txt.slice_le w (Â<|(Ð (p+1))) none;let Z:Ã (ϯ7:Str)=1:=rfl;let B:ü (Ã (Ϻ8 none<|Â Ū)+Ã (ϯ7:Str)):=bQ Á;let S:=xU w p Á;let O:=qV w (p+1) Á
   let y:ü (Ã (Ϻ8 none (Â Ū)++ϯ7:Str)+Ã (Ϻ8 (Â<|(Ð (p+1))) none)):=bQ (by
    rw[Str.length_append,bS<|Ϻ8 none _,bS<|Ϻ8 _ none,S,O,Zk,K8y]
    lia)
   simp![t,T,k,lb,A,Zai,AB,I,u,D,x,sB,K.2,L,vk,B,y];show(_,p,c,d,rfl,b,Kg P,F,J)
  rw[Pi f]at I;simp![t,T,k,lb,A,Zai,AB,I];apply(_,_,_,rfl,λj R q Q G C m=>?_);by_cases e:j<i
  .exact no j e q Q G C m
  let:j=i:=Á
  subst this;rw[k]at Q;let:q=p:=Á
  subst this;rw[b]at C;cases C;apply f;rcases m with rfl|rfl<;>simp
 .rintro ρ' rfl ⟨V,E,n,rfl,no⟩
  exfalso;let(c,hc,m):=W;let(q,Q):=Ϸy;let ql:=(ϲ8 Q);let H:É 0<É w.length:=Á
  let m0:=dG (É q-z) H;apply no (ā ((É q-z)%É w.length)) (ñ fI) q ?_ c Q m;rw[Int.toNat_of_nonneg m0.1,Int.add_emod_emod];rw[ó (z+(É q-z)=É q)];show Int.emod_eq_of_lt Á Á
 ext o rfl ⟨v,p,a,d,rfl,h⟩;show(v,p,a,d,ϥg Y2,h)
end
theorem iY(a:À Str)(v:Str):aC a++[PyData.str v]=aC (a++[v]):=ϱl aC Z6
theorem kW(a b:À Str):aC a++aC b=aC ϩm:=Ň aC Z6
theorem Ov(a:À Str)(k:Nat):ý (aC a) k=aC (a.take k):=Ň aC K7n
theorem My(a:À Str)(k:Nat):ϰD (aC a) k=aC (a.drop k):=Ň aC Zcz
theorem yI(R:À Str)(a:Nat):cutD ϥV none (Â ϲs)=aC ϥe:=ϰB wF Ov
theorem iX{R:À Str}{a:Nat}(h:a<=R.length):cutD ϥV (Â ϲs) none=aC (R.drop a):=ϰ9 My (Cy _ a (϶1 aV))
theorem Az{R:À Str}(h:ϓW):ϥe++[v]++R.drop (a+1)=R.set a v:=ϵv Zba Ÿ K9M
theorem Dj{R:À Str}{a:Nat}(h:ϓW):ϥe++[ϰV]++R.drop a=R.take (a+1)++R.drop a:=ϱ8 (Ϩf<|fA h)
structure Rw8(R:À Str):Prop where
 asc:∀w∈R,ϱI â
 wide:∀w∈R,ϻV (Ã â)
 few:R.length<=400
theorem Rw8.rw{R:À Str}(h:Rw8 R):Rws R:=⟨h.asc,λw H=>þ (h.wide w H),þ h.few⟩
theorem Rw8.put{R:À Str}(h:Rw8 R){a:Nat}{v:Str}(b:ϱI ϱ9)(d:Ã ϱ9<=8999000):Rws (R.set a v):=by
 let q:=h.rw;apply(ϹD,ϹD,Ù K8z q.few)
 .rcases Zar H with H|rfl
  .exact h.asc w H
  show b
 rcases Zar H with H|rfl
 .exact q.wide w H
 show d
theorem Rw8.dup{R:À Str}(h:Rw8 R)(a b:Nat):Rws (ϥe++R.drop b):=by
 let q:=h.rw;let m:∀w∈ϥe++R.drop b,w∈R:=λw H=>by
  rcases Y7.mp H with H|H
  .exact ϩh
  show Zbc H
 apply(λw H=>q.asc w<|m w H,λw H=>q.wide w<|m w H,?_);rw[S5,Zk,K8y];let:=h.few;lia
theorem JI{z:Int}(H:0<=z)(b:z<10):∃c,Y9 (ϰe (è "AZ09_.=~{'")) z=ã/\(ϳH/\c≠58/\c≠124/\c≠43/\c≠45/\c≠94/\c≠35/\¬ϴA)/\c<128:=by
 let e:ϰe (è "AZ09_.=~{'")=ϖb:=ç
 rw[e];obtain⟨k,h⟩:ϥ9 (z=á):=⟨z.toNat,Á⟩
 subst h;let a:k<Ã [65,90,48,57,95,46,61,126,123,39]:=Ϲj
 let g:[65,90,48,57,95,46,61,126,123,39][k]?=Â ώq:=Rw a;apply(_,bZ g,?_);let m:ώq∈ϖb:=Zae a;revert m;generalize ώq=c;revert c;decide
section
variable{R:À Str}
theorem wN(P:Pc R)(W:Rw8 R)(z:Int)(z0:0<=z):∃S,eR [Ö ϥV,Ä z]=ψ ϱy/\¬Pc S/\ϸX:=by
 delta eR jK;let few:=W.few;let n0:ϤS:=by let(w,H,_):=P.f.ne;show ϶4
 let f:(É 0<É R.length)=True:=ϰr Á;let T:Ϥq (É R.length):=ϰr Á;let m:=dG ϒj (ó<|É 0<É R.length);obtain⟨a,E⟩:∃a:Nat,ϒj%É R.length=ϲs:=⟨ā (ϒj%É R.length),Á⟩
 let A:ϓW:=Á
 let H:=fA A;let mw:=϶F;let wl:=όS mw;let i:=W.asc _ mw;let ll:=bS ϰV;let J:ϲs+1=Ð (a+1):=Á
 let c1:=yI R a;let K:=ϫz (a:=a+1) Á;let o:=vh A;let blk1:Ã (è " ")=1:=ç
 let l:cs (è " ")=[32]:=ç
 let r:=vi W.rw;let t:ü (Ã ϥe+1):=ax (ñ Zk);let u:∀v:Str,ü (Ã (ϥe++[v])+Ã (R.drop<|a+1)):=λv=>Ϥi;let q:ϱC=0\/ϱC=1\/ϱC=2\/ϱC=3\/ϱC=4\/ϱC=5\/ϱC=6\/(6<ϱC/\ϱC<10):=Á
 rcases q with h|h|h|h|h|h|h|h
 .let N:ü (Ã ϰV+Ã (è " ")):=bQ Á
  simp!+zeta[aV,f,T,E,r,dM,h,c1,J,K,o,aG,N,iY,kW,t,u,Az A];show(_,rfl,no0 H (by rw[iM,l]),W.put (λc hc=>by
   rw[iM,l]at hc;rcases Y7.mp hc with hc|hc
   .exact i c hc
   rw[K95.mp hc]
   decide)<|by rw[iM,l,S5,Zq];lia)
 .let N:ü (Ã (è " ")+Ã ϰV):=bQ Á
  simp!+zeta[aV,f,T,E,r,dM,h,c1,J,K,o,aG,N,iY,kW,t,u,Az A];let e:cs (è " "++ϰV)=32::cs ϰV:=by rw[iM,l];rfl
  show(_,rfl,no1 P H e,W.put (λc hc=>by
   rw[e]at hc;rcases Z7.mp hc with rfl|hc
   .decide
   show i c hc)<|by rw[e,Zo];lia)
 .let lb:ü (Ã ϰV):=bQ Á
  let hp:É 0<É ((Ã ϰV))+1:=Á
  let m0:=ϧR 48271 hp;obtain⟨k,hk⟩:ϥ9 (z / 48271%(É ((Ã ϰV))+1)=á):=⟨ā (z / 48271%(É ((Ã ϰV))+1)),Á⟩
  let kx:k<=Ã ϰV:=Á
  let Q:(É 0<É ((Ã ϰV))+1)=True:=ϰr hp;let q1:Ϥq (É ((Ã ϰV))+1):=ϰr Á;let M:=ϧR 10090 (ϱF<|É 0<10);let(c,e1,g,G):=JI M.1 M.2;let ls:ü (Ã (è "AZ09_.=~{'")):=ax ç;let s1:=xU ϰV k kx;let s2:=qV ϰV k kx;let r1:=bS<|ϱL ϰV none<|Â á;let r2:=bS<|ϱL ϰV (Â á) none;rw[s1,Zk]at r1;rw[s2,K8y]at r2;let q3:Ã (Š:Str)=1:=rfl;let b5:ü (Ã (ϱL ϰV none<|Â á)+Ã (Š:Str)):=bQ Á;let b6:ü (Ã (ϱL ϰV none (Â á)++Š:Str)+Ã (ϱL ϰV (Â á) none)):=bQ (ñ Str.length_append);let ev:cs (ϱL ϰV none (Â á)++Š++ϱL ϰV (Â á) none)=ý (cs ϰV) k++c::ϰD (cs ϰV) k:=by rw[iM,iM,s1,s2,K9M];rfl
  simp![aV,f,T,E,r,dM,h,c1,J,K,o,aG,lb,Q,q1,hk,ls,e1,Zai,vk,b5,b6,iY,kW,t,u,Az A];apply(_,rfl,no2 H (x:=c) (Ù ev<|ũ Uf) g,W.put ϓ0 ?_)
  .rw[ev]at D
   rcases Y7.mp D with D|D
   .exact i d<|Zak D
   rcases Z7.mp D with rfl|D
   .exact G
   show i d<|Zbc D
  rw[ev,S5,Zo,Zk,K8y];lia
 .simp!+zeta[aV,f,T,E,r,dM,h]
  generalize hC:Ů=rc
  let e:=cU hC ϗG (λw=>.sh<|Æ<|è " "++w) R rfl (Ş Á) (by
   ext w H;let:=W.wide w H;let:=bS w;let N:ü (Ã (è " ")+w.length):=bQ Á
   simp!+zeta[N])
  subst e;let j:∀w,cs (è " "++w)=32::â:=λw=>by rw[iM,l];rfl
  apply(R.map λw=>è " "++w,?_,no3 Ϫ7,Ϫ7,Ϫ7,ñ I4)
  .simp!+zeta[Y2]
   delta aC;rw[Tk,Tk];rfl
  .let(w,_,rfl):=Β V
   show(_,j w)
  .let(w,H,rfl):=Β V
   ext c hc;rw[j]at hc;rcases Z7.mp hc with rfl|hc
   .decide
   show W.asc w H c hc
  let(w,H,rfl):=Β V;let:=W.wide w H;rw[j,Zo];lia
 .let C:=ϫz (a:=1) Á
  let C:cutD ϥV (Â 1) none=aC (R.drop 1):=C;simp!+zeta[aV,f,T,E,r,dM,h,C];apply(_,rfl,no4 P,?_);let:=W.dup 0 1;rw[K7s,K9B]at this;show this
 all_goals
  let s:=rJ W.rw;let F:lix R≠[]:=ϕl
  let y:ϱT (Ã (lix R)):=by
   delta lix;let:=K8i (Ģ<|Ë (k=0)||Ë (á-1∈iL ϵB))<|ŷ R.length;rw[Z1]at this;lia
  let ble:ϱT (Ã ϵB):=by
   delta bix;let:=ϓd (bB Ϸk)<|ŷ R.length;rw[Z1]at this;lia
  let(b,bm,b1,b2,b3):=uA F y<|z / 10;let(B,bL):=IV P bm;let d1:=yI R b;let d2:=ϫz (a:=b) Á;let d0:=vh B;let l3:ü (Ã (R.take b)+1):=ax (ñ Zk);let l4:ü (Ã (R.take b++[y_ R b])+Ã (R.drop b)):=Ϥi
 .simp!+zeta[aV,f,T,E,r,dM,h,s,dN,b1,b2,b3,d1,d2,d0,aG,iY,kW,l3,l4,Dj B]
  show(_,rfl,no5 P (fA B) bL,W.dup _ _)
 all_goals
  by_cases be:ϵB=[]
  .let Q:Zp (Ö<|nD ϵB) (Ö [])=Ý (í true):=Ù be (xb<|Ag [])
   let U:å (Ë (ϱC=0)):=Pi Á;let Y:å (Ë (ϱC=1)):=Pi Á;let Z:å (Ë (ϱC=2)):=Pi Á;let u3:å (Ë (ϱC=3)):=Pi Á;let u4:å (Ë (ϱC=4)):=Pi Á;let u5:å (Ë (ϱC=5)):=Pi Á
   clear h;simp![aV,f,T,E,r,dM,U,Y,Z,u3,u4,u5,Q,s,dN,b1,b2,b3,d1,d2,d0,aG,iY,kW,l3,l4,Dj B];show(_,rfl,no5 P (fA B) bL,W.dup _ _)
  let Q:Zp (Ö<|nD ϵB) (Ö [])=Ý (í false):=by let ly:=Ag ϵB;let(x,xs,e):=Zac be;rw[e]at ly⊢;show El (n:=1) ly Õ
  let(e,em,e1,g,G):=uA be ble<|z / 10;let(L,eB):=FL.mp em;let f1:=yI R e;let f2:=ϫz (a:=e) Á;let f3:=ϫz (a:=e+1) Á;let f0:=vh L;let ek:(e:Int)+1=Ð (e+1):=Á
  let l5:ü (Ã (R.take e)+1):=ax (ñ Zk);let l6:ü (Ã (R.take e++[y_ R e])+Ã (R.drop e)):=Ϥi;let l7:∀v:Str,ü (Ã (R.take e++[v])+Ã (R.drop<|e+1)):=λv=>Ϥi
 .simp!+zeta[aV,f,T,E,r,dM,h,Q,dN,e1,g,G,f1,f2,f0,aG,iY,kW,l5,l6,Dj L]
  show(_,rfl,no6 P (fA L) eB,W.dup _ _)
 let I:=Ts<|fA L;let(v,p,c,d,o1,o2,O,o4,o5):=sR (όS I) eB<|z / 100;let U:å (Ë (ϱC=0)):=Pi Á;let Y:å (Ë (ϱC=1)):=Pi Á;let Z:å (Ë (ϱC=2)):=Pi Á;let u3:å (Ë (ϱC=3)):=Pi Á;let u4:å (Ë (ϱC=4)):=Pi Á;let u5:å (Ë (ϱC=5)):=Pi Á;let u6:å (Ë (ϱC=6)):=Pi Á;simp![aV,f,T,E,r,dM,U,Y,Z,u3,u4,u5,u6,Q,dN,e1,g,G,f1,f3,f0,ek,o1,aG,iY,kW,l5,l7,Az L];apply(_,rfl,no7 P (fA L) eB o2 O o5,W.put (λx X=>?_)<|by rw[O,K8z];let:=όS I;lia);rw[O]at X;rcases Zar X with X|rfl
 .exact W.asc _ I x X
 show o4
end
structure Sm(ts us:À Nd):Prop where
 e:ϲn us.map (·.e) ts.map
 r:cy us=ϥT
theorem FX(T:À Nd)(k:Nat):ī k=ę ((T.map (·.e))[k]?) 0:=Ň Z5 Oe
theorem Fl(T:À Nd):Ŷ=(T.map (·.e)).foldl (λa e=>a++[Ì (e=-1) 0 (ę (a[e.toNat]?) 0+1)]) []:=ϱl T2 List.foldl_map
section
variable{ts us:À Nd}{D0:Int}
theorem Sm.len(s:ϴN):ϥb us.length:=ϬY (Ŧ s.e) I4
theorem Sm.eO(s:ϴN):Z5 us=Z5 ts:=ϹN (by rw[FX,FX,s.e])
theorem Sm.ch(s:ϴN):G0 us=ϲN:=ϹN (ν G0 s.len s.eO)
theorem Sm.lv(s:ϴN):T2 us=ϱf:=by rw[Fl,Fl,s.e]
theorem Sm.Wp(s:ϴN):B.Wp us=B.Wp ts:=ϹN (Ň B.Wp s.lv)
theorem Sm.K1(s:ϴN):K1 us=ò:=by change bW (T2 us) us.length=bW ϱf ts.length;rw[s.lv,s.len]
theorem Sm.PO(s:ϴN):∀n,B.PO us D0 n=B.PO ts D0 n
 |0=>by
  let:ini us=ini ts:=ϹN (Ň ini s.r)
  rw[B.PO,B.PO,s.len,this]
 |n+1=>by
  let h:ϮF uY:=ϹN (funext λo=>by delta uY joB bE;rw[s.ch])
  let H:ϮF uX:=ϹN (funext λo=>funext λf=>by delta uX bE;rw[s.ch])
  rw[B.PO,B.PO,Sm.PO s n,s.len,h,H]
theorem Sm.pp(s:ϴN):ϮF uO:=by
 let h:∀(f:À Int)(i:Nat),mG us f i=mG ts f i:=λf i=>by
  induction i with|zero=>rfl|succ i ih=>rw[mGS,mGS,ih,s.eO]
 delta uO;rw[s.PO,s.len,h]
theorem Sm.cN(s:ϴN):ϮF B.cN:=ϹN (by delta B.cN drw iP pos;rw[s.pp,s.r,s.len])
theorem Sm.bel(s:ϴN):aR us D0=ĉ:=ϹN (ν aR s.ch s.cN)
theorem Sm.eld(s:ϴN)(r:Ó):cP us r=ś:=Ň cP s.ch
theorem Sm.bar(s:ϴN)(r:Ó):d8 us D0 r=ϰa:=by
 let:nv us D0=nv ts D0:=ϹN (by delta nv;rw[s.bel,s.cN])
 delta d8;rw[s.eld,this]
theorem Sm.rL(s:ϴN){k:Nat}(h:ċ):B.rL us k=B.rL ts k:=by
 let H:=iI h;let a:=iI (ts:=us) (k:=k) (϶1 s.len);rw[s.r,H]at a;lia
theorem Gd.sm{j:F}(G:Gd ts j)(s:ϴN)(ok:∀n∈us,Bm n):Gd us j:=by
 apply(OA G.pt s.len λk _=>ϱ8 s.eO,ok,?_,Ù s.len G.len);ext k h;let K:ċ:=by rw[<-s.len];show h
 let:=G.dp k K;let e:B.Wp us k=B.Wp ts k:=ϱ8 s.Wp
 rw[e];show this
end
theorem xt{α β:Type}{f g:α->À β}{L:À α}(h:∀a∈L,f a=g a):L.flatMap f=L.flatMap g:=by rw[List.flatMap_def,List.flatMap_def,Zt h]
abbrev Lev:=Str×À Str×À Str
def aE(X:À Lev):À Str:=X.flatMap λx=>ϭE
def a_(T:À Nd)(D0:Int)(r:Ó):À Str:=Ì (ϩg=[]) [] [S3 όt]
def cV(T:À Nd)(D0:Int)(r:Ó):À Str:=Ć (hiT T r) λi=>S3<|ϗ4<|i+1
def lvX(T:À Nd)(D0:Int):À Lev:=Î ϥ0 λr=>(S3<|bp T D0 r,cV T D0 r,a_ T D0 r)
theorem jA(T:À Nd)(D0:Int):Rs T D0=aE (lvX T D0):=by
 delta Rs jC aE lvX;rw[List.map_flatMap,Zbx];congr 1;funext r;delta aS cV a_ hiT;rw[W1,Z6,Tk];congr 2
 split<;>rfl
def tB(w:Str):Bool:=(â).all λc=>Ë ϦK
theorem pP{w:Str}:Ϥ5↔∀c∈â,ϦK:=by delta tB;rw[K7x];show(λh c hc=>Ϥr ϨT,λh c hc=>Tl ϨT)
structure LvX(ts:À Nd)(D0:Int)(X:À Lev):Prop where
 len:X.length=Ã ò
 at_:∀(l:Nat)(r:Ó),ľ->∃W:À Str,Ϧk=Â (S3 ħ,W,ϰR)/\W.length<=12/\(∀w∈W,Ϥ5/\Ã â<=8999000)
def one(T:À Nd):À Nd:=T.map λn=>⟨n.e,n.l,1⟩
theorem pS(T:À Nd):Sm T (one T):=by
 apply(?_,?_)
 .unfold one
  rw[Tk];rfl
 delta cy one;rw[Tk];rfl
section
variable{ts:À Nd}{c0:F}{D0:Int}
theorem Iw(G:Ĩ):Gd ϲJ c0:=G.sm ϥ4 λn h=>by delta one at h;let(m,M,rfl):=ϹR;show((G.ok m M).1,ϷI,(Õ:É 1<=9))
theorem uD{k:Nat}(h:ċ):au ϲJ k=⟨(ô).e,(ô).l,1⟩:=by delta au one;rw[Oe,ϴ9];rfl
theorem zV(G:Ĩ){l:Nat}{r:Ó}(h:ľ):bp ϲJ D0 r=ħ:=by
 delta bp;apply Zt;ext k H;let K:=(ϴh).1.lt k H;rw[(ϥ4).cN,(ϥ4).rL K,uD K]
theorem OL(G:Ĩ):Rs ϲJ D0=ϰW ò λr=>S3 ħ::ϰR:=by
 rw[jA];delta aE lvX;rw[Zbx,(ϥ4).K1];apply xt;ext r hr;let(l,a):=Zaa hr;let(L,U):=G.lv a;let t0:cV ϲJ D0 r=[]:=by
  delta cV hiT tlM;let:ϳz ((Ϸj ϲJ))=ϳn (λ_=>(É 1)):=Zt λk h=>ϱ8 (uD<|ϱr h)
  rw[this];let m:=(dS (xs:=ϳn (λ_=>(É 1))) λz=>U ϳX).1;let(k,_,e):=Zc.mp m;rw[<-e];rfl
 let N:ϷQ ϲJ r=ϰR:=ν a_ (ϥ4).eld (ϥ4).bar
 change S3 (bp ϲJ D0 r)::(cV ϲJ D0 r++ϷQ ϲJ r)=_;rw[t0,N,zV G a,K9B]
theorem zX(G:Ĩ)(g1:ř)(g2:ţ):ϸr ϵs:=by
 let C:=ϴG;apply(Ň lvX I4,λl r h=>⟨ϳA r,?_,?_,ϹD⟩)
 .unfold lvX
  rw[Oe,h];rfl
 .let(L,U):=ϴh
  let:=xG G.tl L.lt U;delta cV hiT;rw[I4,Z1];lia
 delta cV at H;let(i,_,rfl):=ϴa;apply(pP.mpr ϲk,?_)
 .let(p,P):=Ϸy
  rcases rQ G C h P with z|⟨z,_⟩<;>lia
 let:=K4<|ud C (ϴh).1<|i+1;lia
theorem Dm(G:Ĩ)(C:Ĝ){l:Nat}{r:Ó}(h:ľ):tB (S3 ħ)=false:=by
 rw[<-Zci,pP];ext z;let(c,hc,m):=Ϭk h;let:=z c hc;lia
set_option tactic.hygienic true in
theorem Ee(G:Ĩ)(C:Ĝ)(g:ϴ5){l:Nat}{r:Ó}(h:ľ){w:Str}(H:w∈ϰR):å (tB w):=by
 delta a_ at H;split at H
 .cases H
 rename_i e;rw[ϻx,<-Zci,pP];ext z;let(c,hc,m):=CY G C g h e;let:=z c hc;delta mkC at m;lia
theorem Vb(G:Ĩ)(g1:ř)(g2:ţ){X:À Lev}(x:ϸr X):ļ ϴ6 ϮZ=Rs ϲJ D0:=by
 let C:=ϴG;rw[OL G];delta aE;rw[List.filter_flatMap];let e:X=Ć ((Ã ò)) λl=>ę Ϧk (Str.empty,[],[]):=by
  apply K9K;ext l;rw[Oe];by_cases h:l<Ã ò
  .rw[ϸV,Zai,Rw<|϶1 x.len]
   rfl
  rw[K9c (ñ x.len),K9c<|ñ Z1];rfl
 let g:ò=Ć ((Ã ò)) λl=>ę (ò[l]?) []:=by
  apply K9K;ext l;rw[Oe];by_cases h:l<Ã ò
  .rw[ϸV,Zai,ϴ9]
   rfl
  rw[K9c Á,K9c<|ñ Z1];rfl
 rw[e]
 conv=>rhs;rw[g]
 rw[Zbx,Zbx];apply xt;ext l a;let a:=Zl.mp a;obtain⟨r,hr⟩:∃r,ľ:=ϴ7 (Rw a);let(W,b,_,c):=x.at_ l r hr;rw[b,hr];change ļ (S3 ħ::(W++ϰR)) ϮZ=S3 ħ::ϰR;rw[K8O,Dm G C hr,K8o];let j:W.filter ϮZ=[]:=List.filter_eq_nil_iff.mpr λw H=>Ϯ4 (c w H).1
 let f:ļ ϰR ϮZ=ϰR:=ϏX (λw H=>ϱJ (ϑe Á H))
 rw[j,f];rfl
theorem Ki{s:À Nd}{c1:F}(G:Ĩ)(H:Gd s c1)(g1:ř)(g2:ţ){X:À Lev}(x:ϸr X)(h:ϥu=ϴ6):one s=ϲJ:=by let a:=Vb G g1 g2 x;let b:=Vb H g1 g2<|zX H g1 g2;rw[<-jA,h,a]at b;show ϵQ (NG (Iw G) (Iw H) g1 g2 b)
end
theorem S8{w:Str}(h:ϱI â):∀a:L3.Env,∀i:Nat,ϴi=some (æ<|Æ w)->iTx (aa i) a=Ħ όK:=λa i hi=>by
 change ï (aa i a) _=_;delta aa;rw[hi];change(Ì (Γ w.cps.all ϫK) (ϳV όK) Í)=_;rw[Os<|ϕn ϨT]
theorem jD{w:Str}(h:ϱI â):cG [Æ w]=Ý (í<|tB w):=by
 delta cG jG;let T:iTx ð [æ<|Æ w,none]=Ħ όK:=S8 h _ 0 rfl;let cst:ϰe (è " :|")=ϯE:=ç
 simp![T];generalize l:Ŋ=r';apply LQ l (λi b=>∃v1:Ú OD,b=[æ<|Æ w,v1]/\∀c∈ý â i,ϦK) (λo=>o=.sh (í false)/\å (tB w)) ⟨_,rfl,ϴp (Ϩs hc)⟩ ?_ ?_ ?_
 .rintro i d b hd ⟨v1,rfl,no⟩
  delta signs at hd;rw[Oe]at hd;let(c,hc,rfl):=ϲ3;let hc:û â=ã:=hc;let I:inS Š (è " :|")=Ë (c∈ϯE):=by
   let:=zR c<|è " :|";rw[this];delta cs;rw[cst]
  by_cases a:c∈ϯE
  .rw[Tl a]at I
   simp![P4,I];apply(_,rfl,ϒ5);rw[Ϩf hc]at H;rcases Y7.mp H with H|H
   .exact no x H
   rw[ϻx];simpa using a
  rw[Pi a]at I;simp![P4,I];rw[<-Zci,pP];exactλz=>a (Ŀ<|z c Ϩ1)
 .rintro ρ' rfl ⟨v1,rfl,no⟩
  let t:Ϥ5:=pP.mpr λc hc=>no c (by
   let e:Ã όK=Ã â:=ϱl signs I4
   rw[e,K90 ß];show hc)
  rw[t];simp![Y2]
 ext o rfl ⟨rfl,t⟩;rw[t];simp![Y2]
theorem kZ(t:Str)(L:ϲ6 t.length):cZ [Æ t]=Ď (nO<|oF t):=by
 delta cZ jV oF wdS;let e:t.length<=H6:=K9C L ç;let f:å (blk.length==0):=ç
 let K:=Ϛl;let S:=ϗc;let P:=ϔV;let k:N_ (Ý<|Æ t) (Ý<|Æ<|è " ")=ψ (Î ϦW PyData.str):=K;simp![QM,k,aG];generalize ϦW=W at S P;generalize H:Ŋ=r;let G:ϰC 9000000+3<=H6:=ç
 let m:∀(X:À Str)(b:Nat),ύK (Ã (paS X b)):=by
  ext X
  induction X with
  |nil=>ext b;show ß
  |cons x X ih=>
   ext b;rw[pSc,S5,Zo];let:=ih ϮY;split
   .rw[K8U];lia
   rw[Zq];lia
 let sn:∀(X:À Str)(w:Str)(b:Nat),paS (X++[w]) b=paS X b++(Ì ϤV [] [(b+(X.map ϱE).sum,w)]):=by
  ext X
  induction X with
  |nil=>
   ext w b;change(Ì ϤV [] [(b,w)])++[]=_;rw[Zw];rfl
  |cons x X ih=>ext w b;rw[K92,pSc,pSc,ih,W1,Zal,K9M];rw[ó (ϮY+(X.map ϱE).sum=b+(x.length+1+(X.map ϱE).sum))]
 apply bJ H (λi c=>∃E:Ú OD,c=[æ<|Æ t,ō<|nO<|Î (ϷR Θ) λx=>x.1+Ã x.2 / 2,æ<|Ä (Ð (Î Θ ϱE).sum),E]) ι ?_ ?_
 .rintro i d c hd ⟨E,rfl⟩
  rw[Oe]at hd;let(w,h,rfl):=ϲ3;let tk:Ϻ6=Θ++[w]:=Ϲs;let wl:=P w ϳN;let B:ü w.length:=ϰr Á;let nx:Ð (Î Θ ϱE).sum+É w.length+1=Ð ((Ϻ6).map ϱE).sum:=by
   rw[tk,Z6,Zbo];change _=Ð (ϰC _+(ϪP+0))
   lia
  let N:=sn Θ w 0;rw[<-tk,K87]at N;rw[N];let I:=m Θ 0;rw[Zk]at I;by_cases a:ϤV
  .let g:Ë (w=è "")=true:=Tl (gA (by
    let:w.cps.toList=[]:=ϗ0
    rw[this];decide+kernel))
   rw[Os a,Zw];simp![g,B,nx];show(_,rfl)
  let g:å (Ë (w=è "")):=Pi λz=>a (ϭI z);rw[P3 a,Z6];let D:Ð (Î Θ ϱE).sum+É w.length / 2=Ð ((Î Θ ϱE).sum+w.length / 2):=Á
  let l:ϰT (Ã (nO<|Î (ϷR Θ) λx=>x.1+Ã x.2 / 2)):=ϰr (by rw[Th,I4];lia);let ap:=NI (Î (ϷR Θ) λx=>x.1+Ã x.2 / 2)<|(Î Θ λw:Str=>ϪP).sum+w.length / 2;simp![g,B,D,l,ap,nx];show(_,rfl)
 ext ρ' rfl ⟨E,rfl⟩;rw[I4,K90 ß];simp![Y2]
def cnt(W:À Str)(p:Nat):Nat:=(W.filter λw=>Ë<|â[p]?=Â 58).length
theorem JM{W:À Str}{j:Nat}{w:Str}(h:W[j]?=ϰh)(p:Nat):cnt (W.take<|j+1) p=cnt (W.take j) p+(Ì (Ë (â[p]?=Â 58)=true) 1 0):=by delta cnt;rw[Ϲs,K8o,S5,K8O];split<;>rfl
theorem TJ(W:À Str)(p:Nat):cnt W p<=W.length:=K8i _ _
def lV(X:À Lev)(l:Nat):À Str:=(Î Ϧk λx=>x.2.1).getD []
def ctN(T:À Nd)(D0:Int)(X:À Lev)(k:Nat):Nd:=⟨(ϳa).e,(ϳa).l,Ð (1+cnt (ϴe<|ϰ3 k) (ϱe k))⟩
def ctT(T:À Nd)(D0:Int)(X:À Lev):À Nd:=Ć T.length<|ctN T D0 X
section
variable{ts:À Nd}{c0:F}{D0:Int}
theorem L_{X:À Lev}{l o:Nat}{x:Lev}(h:Ϧk=ö)(j:o<Ã ϭE):ϴ6[Ã (aE ϫu)+o]?=ϭE[o]?:=Fc (λx:Lev=>ϭE) X l o x h j
theorem vz{X:À Lev}{l:Nat}{x:Lev}(h:Ϧk=ö):Ã (aE<|X.take<|l+1)=Ã (aE ϫu)+(1+(Ã x.2.1+Ã x.2.2)):=by
 delta aE;rw[Ϲs,Zam,S5,Zaz,Zo,S5];lia
set_option tactic.hygienic true in
theorem Kt(G:Ĩ)(g1:ř)(g2:ţ){X:À Lev}(a:ϸr X):Rws ϴ6:=by
 let C:=ϴG;let mem:∀w∈ϴ6,(ϱI â)/\Ã â<=8999000:=λw H=>by
  delta aE at H;let(x,f,H):=List.mem_flatMap.mp H;let(l,L):=Zaa f;obtain⟨r,hr⟩:∃r,ľ:=ϰc (ϰ9 a.len (Za.mp L).1)
  let(W,b,_,d):=a.at_ l r hr;rw[L]at b;cases b;let i:∀{o ps},ň[o]?=Â ps->(ϱI<|cs (S3 ps))/\Ã (cs<|S3 ps)<=8999000:=fun{o ps} h=>by let m:=Ts<|kN hr h;let:=(ϤM).1 _ m;show(ύH _ m,Á)
  rcases Z7.mp H with rfl|H
  .exact i<|iu r
  rcases Y7.mp H with H|H
  .exact(ϴp (þ (pP.mp (d w H).1 c hc)),(d w H).2)
  delta a_ at H
  split at H
  .cases H
  rename_i e;rw[ϻx];show i<|wU e
 apply(λw H=>(mem w H).1,λw H=>(mem w H).2,?_);let ln:∀l,l<=X.length->Ã (aE ϫu)<=14*l:=by
  ext l
  induction l with
  |zero=>ext _;show ß
  |succ l ih=>
   ext L;obtain⟨r,hr⟩:∃r,ľ:=ϰc (ϯr a.len)
   let(W,b,d,_):=a.at_ l r hr;let:=ih Á;rw[vz b];let:Ã ϰR<=1:=by delta a_;split<;>simp
   change _+(1+(ϹO<|Ã ϰR))<=_;lia
 let:=ln X.length ß;rw[K8D]at this;let nl:ϹB (Ã ò):=(όX ϶Y).2;let:=a.len;let:=G.len;lia
theorem Gv(G:Ĩ){l:Nat}{r:Ó}(h:ľ):ļ ϵW (λk=>Ë<|ĵ k=l)=r:=by
 let e:=xm G.he;let g:=Zh (λL=>L[l]?) e;let c:(bW ϱf ts.length)[l]?=ϱx:=h;let jl:=(Za.mp c).1;rw[c,Oe,K9Z jl]at g;show ϥE g
theorem Bt(T:À Nd):fS (λx=>(ϰ3 x:Int)) T.length=fw Ŷ:=by
 delta fS fw;apply K9K;ext k;rw[Oe,Oe];by_cases h:š
 .rw[ϸV]
  change Â (int (Ð (ę (Ŷ[k]?) 0)))=Î (Ŷ[k]?) _;rw[Rw<|϶1 b_];rfl
 rw[K9c (ñ Z1),K9c<|ñ b_];rfl
end
section
variable{ts:À Nd}{c0:F}{D0:Int}
def ctF(T:À Nd)(D0:Int)(X:À Lev)(k j:Nat)(M:Ó)(x:Nat):Int:=
 (Ð (1+(Ì (ϰ3 x<k) (cnt (ϴe<|ϰ3 x) (ϱe x))<|Ì (ϰ3 x=k) (cnt (ý (ϴe k) (if x∈M then j+1 else j)) (ϱe x)) 0)))
theorem xX(X:À Lev)(k x:Nat):ϰN k 0 [] x=Ð (1+(Ì (ĵ x<k) (cnt (ϴe<|ĵ x) (Þ x)) 0)):=by
 delta ctF;by_cases h:ĵ x<k
 .rw[Ÿ,Ÿ]
 rw[χ,χ]
 split
 .rfl
 rfl
theorem OT{X:À Lev}{k:Nat}(x:Nat):ϰN k ((Ã (ϴe k))) [] x=Ð (1+(Ì (ĵ x<k+1) (cnt (ϴe<|ĵ x) (Þ x)) 0)):=by
 delta ctF;by_cases h:ĵ x<k
 .rw[Ÿ,Os Á]
 rw[χ];by_cases H:ĵ x=k
 .rw[ϱh,P3 K8P,K90 ß,Os (ó<|ĵ x<k+1),H]
 rw[ϱz,P3 Á]
theorem MG{X:À Lev}{k j:Nat}{r:Ó}(hr:∀x,ϪQ->(ĵ x=k↔x∈r)){x:Nat}(a:ϪQ):ϰN k j r x=ϰN k (j+1) [] x:=by
 delta ctF;by_cases h:ĵ x<k
 .rw[Ÿ,Ÿ]
 rw[χ,χ];by_cases H:ĵ x=k
 .rw[ϱh,ϱh,Os<|(hr x a).mp H,P3 K8P]
 rw[ϱz,ϱz]
set_option tactic.hygienic true in
theorem Jc{X:À Lev}{k j i n:Nat}{r:Ó}{w:Str}(H:r[i]?=ŵ)(p:ϭV)(l:ĵ n=k)(W:Ĵ (ϴe k)=ϰh):
  (λy=>Ì (y=n) (ϰN k j ϲ1 n+(Ì (Ë (â[Þ n]?=Â 58)=true) 1 0)) (ϰN k j ϲ1 y))=ϰN k j Ϯ3:=by
 let tk:=ϪR;funext y;by_cases e:y=n
 .subst e
  let nm:y∉ϲ1:=λm=>by
   let(a,A):=Zaa m;rw[Zct]at A;split at A
   .rename_i q
    let(b,c):=Za.mp A;let(d,B):=Za.mp H;let:=List.pairwise_iff_getElem.mp p a i b d q;lia
   cases A
  rw[ė];delta ctF;let Y:y∈Ϯ3:=Ù tk (ũ Uf)
  let N:¬ĵ y<k:=Á
  rw[P3 N,Os l,P3 nm,P3 N,Os l,Os Y,JM W];split<;>lia
 rw[ϰ4];delta ctF;let:(y∈Ϯ3)↔y∈ϲ1:=by rw[tk,Y7,K95];show(λh=>h.resolve_right e,È)
 simp only[this]
set_option tactic.hygienic true in
theorem xy(G:Ĩ)(g1:ř)(g2:ţ){X:À Lev}(U:ϸr X):cT [Ö Μ,Ö ϵu]=ψ (ar Ϲl):=by
 delta cT fK;let C:=ϴG;let he:=G.he;let h0:=϶Y;let hl:=G.len;let A:=Kt G g1 g2 U;let few:=A.few;let nl:=eT he h0;let rp:∀v:Int,fV (Ö [Ä v]) (Ä (É ts.length))=ψ (ϱX<|λ_=>v):=λv=>by
  rw[sN _ _ Á]
  congr 3
  delta fS;rw[List.map_const',Z1]
 let s1:ě (aD (É 1)&&aD (É ts.length)):=ϲ5 (θ Á) (θ Á)
 simp![bG,rp,s1];generalize hL:Ŋ=u;apply bJ hL (λi c=>∃E:Ú OD,c=[ì Μ,ì ϵu,ō<|Î (ϱX<|λx=>Ì (x<i+1) (ĵ x:Int) 0) OD.sh,E,none,none,none,none,none,none,none]) ⟨none,?_⟩ ?_ ?_
 .let:ϱX (λx=>Ì (x<0+1) (ĵ x:Int) 0)=ϱX (ϰs 0):=iR λx H=>by
   split
   .rename_i q
    let:x=0:=Á
    subst this;rw[fE he H];rfl
   rfl
  rw[this]
 .rintro i d c hd ⟨E,rfl⟩
  let(hi,rfl):=ϷK;let I:i+1<ts.length:=Á
  let ex:É 1+Ċ=Ð (i+1):=Á
  rw[ex];let a3:=tP I;let el:=he (i+1) _<|pJ I;obtain⟨q,Q⟩:∃q:Nat,(ϫV<|i+1).e=É q:=⟨(ϫV<|i+1).e.toNat,þ (el.2.1 Á)⟩
  let hqi:q<i+1:=þ el.2.2
  rw[Q]at a3;let lq:=Kf he I Á (q:=q) (ϰ9 (Le I) Q);let ga:=Ar (f:=λx=>Ì (x<i+1) (ĵ x:Int) 0) (n:=ts.length) (x:=q) Á;rw[Os hqi]at ga;let ix:ixN (Ã (Î (ϱX<|λx=>Ì (x<i+1) (ĵ x:Int) 0) OD.sh)) (Ð (i+1))=Â (i+1):=lH (by rw[I4,wQ];show I);let T:=Ci (λx=>Ì (x<i+1) (ĵ x:Int) 0) ts.length (i+1)<|É (ĵ q)+1;let l:ϱX (λy=>Ì (y=i+1) (É (ĵ q)+1) (Ì (y<i+1) (ĵ y:Int) 0))=ϱX (λx=>Ì (x<i+1+1) (ĵ x:Int) 0):=iR λy hy=>by
   by_cases e:y=i+1
   .rw[ϳS,Os Á,e,lq]
    lia
   rw[ϰ4];by_cases s:y<i+1
   .rw[Os s,Os Á]
   rw[P3 s,P3 Á]
  rw[l]at T;simp![a3,aG,ga,v_sub,FC ix,T];show(_,rfl)
 ext ρ' rfl ⟨E,rfl⟩;let ln:Ã (oS 1 (ā (É ts.length-1)))=ts.length-1:=ñ fI
 let l:ϱX (λx=>Ì (x<Ã (oS 1 (ā (É ts.length-1)))+1) (ĵ x:Int) 0)=fw ϱf:=ϰ9 Bt (iR λx H=>ϱ8 (Os Á))
 rw[l];let(a,as,P,S):=NA he h0;let mx:jY [Ö<|fw ϱf]=Ý (Ä<|oG ϲs (as.map (Ģ á))):=by
  let:fw ϱf=int ϲs::(as.map (Ģ á)).map int:=by rw[P];delta fw;rw[W1,Tk];rfl
  rw[this];show DN _ _
 let S:oG ϲs (as.map (Ģ á))+1=É ((Ã ò)):=S;let s2:ϱ1 ((É ((Ã ò)))):=gQ Á (by let:=nl.2;let:ϹB (Ã ò):=this;lia);simp![bG,rp,aG,mx,S,s2];generalize M:Ŋ=r2;apply bJ M (λk c=>∃(z:Int)(E v6 v7 g V v10:Ú OD),c=[ì Μ,ì ϵu,ì<|fw ϱf,E,ō<|Î (ϱX<|ϰN k 0 []) OD.sh,æ<|Ä z,v6,v7,g,V,v10]/\(k<Ã ò->z=É ((Ã ϰ8)))) ⟨0,E,none,none,none,none,none,?_,ύg⟩ ?_ ?_
 .let:ϱX (ϰN 0 0 [])=ϱX (ϰs 1):=iR λx _=>ϲ5 xX (P3<|Zca _)
  rw[this]
 .rintro k d c hd ⟨z,E,v6,v7,g,V,v10,rfl,Z⟩
  let(K,rfl):=ϷK;rw[K9n]at K;rw[K8R];let Z:=Z K;subst Z;obtain⟨r,hr⟩:∃r,ò[k]?=ϱx:=ϰc K;let(L,rn):=ϥD;let(W,H,wl,hW):=U.at_ k r hr;let tW:ϴe k=W:=by delta lV;rw[H];rfl
  let mr:∀x,ϪQ->(ĵ x=k↔x∈r):=λx H=>Ù (Ϩ3 hr) (λh=>⟨H,h⟩,λh=>h.2)
  let D:=L_ (o:=0) H Ø;rw[Zav]at D;let D:ϴ6[Ã ϰ8]?=Â (S3 ħ):=D;let t0:Y9 ϵu (É ((Ã ϰ8)))=some (Æ<|S3 ħ):=bZ (by delta aC;rw[Oe,D];rfl);let cl:=kZ (S3 ħ)<|A.w9<|Ts D;rw[ϫs]at cl;let ek:É ((Ã ϰ8))+1=Ð (Ã ϰ8+1+0):=Á
  simp![t0,cl,dM,ek];generalize N:gR _ _ _=r3;apply zZ N (λm c=>∃(j:Nat)(E g V v10:Ú OD),j+m=W.length/\c=[ì Μ,ì ϵu,ì<|fw ϱf,E,ō<|Î (ϱX<|ϰN k j []) OD.sh,æ<|Ä (Ð (Ã ϰ8+1+j)),æ<|Ä á,ì<|nD<|ϳn Þ,g,V,v10]) W.length ⟨0,_,_,_,_,K87 _,rfl⟩
   (λc=>∃(E g V v10:Ú OD),c=[ì Μ,ì ϵu,ì<|fw ϱf,E,ō<|Î (ϱX<|ϰN k W.length []) OD.sh,æ<|Ä (Ð (Ã ϰ8+1+W.length)),æ<|Ä á,ì<|nD<|ϳn Þ,g,V,v10]) ?_ ?_
  .rintro m c ⟨j,E,g,V,v10,hj,rfl⟩
   by_cases jW:j<W.length
   .right
    obtain⟨w,hw⟩:∃w,W[j]?=ϰh:=ϰc jW;let wm:=Ts hw;let b:=L_ (o:=j+1) H (by rw[Zo,S5];change j+1<ϹO _+1;lia);let b:ϴ6[Ã ϰ8+(j+1)]?=ϰh:=by
     rw[b,Zaj];change Ĵ (W++ϰR)=_;rw[K9V jW,hw]
    rw[ó (Ã ϰ8+(j+1)=Ã ϰ8+1+j)]at b;let t1:Y9 ϵu (Ð (Ã ϰ8+1+j))=Â (Æ w):=ϖO;let lt:Ë (Ð (Ã ϰ8+1+j)<É ((Ã ϴ6)))=true:=Tl (þ (Za.mp b).1);let tt:=jD (w:=w)<|A.asc w<|Ts b;rw[(hW w wm).1]at tt;let lw:ü w.length:=bQ<|A.w9<|Ts b;apply(by simp![aV,lt,t1,tt],?_);let c8:∀a4 a5 a7 a8 a9 B:Ú OD,Η iR1 (Č<|Ï 0 ah) (av<|ϳF (Ò Rg 1 ð) ŏ) ð 1 [2,6] [ì Μ,ì ϵu,ì<|fw ϱf,E,a4,a5,æ<|Ä á,a7,a8,a9,B]=Ď (nO r):=λa4 a5 a7 a8 a9 B=>by
     let s3:ϱ1 ((É ts.length)):=θ Á;simp![bG,s3];generalize J:Ů=rc
     let e:=ko J (λx:Nat=>ϻ6 ϫ3) (λx=>Ë<|ĵ x=k) (λx:Nat=>.sh<|Ä ϫ3) ϵW (ϱJ K9n) (Ù Z1<|Ş Á) (by
      ext x H;let H:=ϥm;rw[K8R];let ga:Y9 (fw ϱf) ϫ3=Â (Ä (ĵ x:Int)):=ϰ9 Bt (Ar H)
      let dd:Ë (É (ĵ x)=á)=Ë (ĵ x=k):=by
       by_cases h:ĵ x=k
       .rw[ϵc,Tl Á]
       rw[ϲR,Pi Á]
      apply(?_,ϰs ?_)
      .simp![ga,dd]
      simp![Y2])
     subst e;simp![Y2];rw[qP,Gv G hr]
    simp![↓c8,dM];generalize O:Ŋ=r4;apply bJ O (λi c=>∃(E V v10:Ú OD),c=[ì Μ,ì ϵu,ì<|fw ϱf,E,ō<|(ϱX<|ϰN k j ϲ1).map OD.sh,æ<|Ä (Ð (Ã ϰ8+1+j)),æ<|Ä á,ì<|nD<|ϳn Þ,ì ϷG,V,v10]) ⟨_,_,_,rfl⟩ ?_ ?_
    .rintro i d c hd ⟨E,V,v10,rfl⟩
     let(x,y,h1,h2,rfl):=sX hd;rw[nW,Oe]at h1 h2;let(n,hn,rfl):=ϷP h1;let(q,Q,rfl):=ϷP h2;rw[Oe,hn]at Q;cases Q;let nr:=Ts hn;let t:=L.lt n nr;let sc:=CM â (Þ n) 58;rw[Br]at sc;let sc:Ë (Ϻ8 (Â<|(Ð (Þ n))) (Â<|Ð (Þ n)+1)=è ":")=Ë (â[Þ n]?=Â 58):=Ù s58 sc
     let ga:=Ar (f:=ϰN k j ϲ1) t;let ix:ixN (Ã ((ϱX<|ϰN k j ϲ1).map OD.sh)) Ł=ŵ:=lH (by rw[I4,wQ];show t);let T:=Ci (ϰN k j ϲ1) ts.length n<|ϰN k j ϲ1 n+(Ì (Ë (â[Þ n]?=Â 58)=true) 1 0);rw[ϛz<|Ù tW hw]at T;simp![t1,vk,lw,aG,ga,sc,v_sub,FC ix,T];show(_,_,_,rfl)
    ext ρ' rfl ⟨E,V,v10,rfl⟩;let zl:Ã (qY ϷG<|nD<|ϳn Þ)=r.length:=by delta qY;rw[I4,Zay,dN,dN,I4,Nat.min_self]
    let l:ϱX (ϰN k j<|r.take (qY ϷG<|nD<|ϳn Þ).length)=ϱX (ϰN k (j+1) []):=iR λx H=>ϱq zl (K90 ß) (MG mr H)
    rw[l];let e5:Ð (Ã ϰ8+1+j)+1=Ð (Ã ϰ8+1+(j+1)):=Á
    simp![e5];show(m-1,Á,j+1,_,_,_,_,Á,rfl)
   left;let:j=W.length:=Á
   subst this;apply(?_,_,_,_,_,rfl);by_cases e:ś=[]
   .let lt:å (Ë (Ð (Ã ϰ8+1+W.length)<É ((Ã ϴ6)))):=by
     apply Pi ϴS;let kl:k+1=Ã ò:=by
      apply Zaf;ext q;obtain⟨u,p⟩:∃u,ò[k+1]?=Ė:=ϰc Á
      let(r2,R,s,_):=sW G p;rw[hr]at R;cases R;show s e
     let fs:=vz H;rw[kl,<-U.len,K8D]at fs;let b0:ϰR=[]:=Ň a_ ϳS
     rw[b0]at fs;let fs:Ã ϴ6=Ã ϰ8+(1+(ϹO 0)):=fs;lia
    simp![aV,lt]
   let b:=L_ (o:=ϹO 1) H (by
    rw[Zo,S5];change ϹO 1<ϹO (Ã ϰR)+1;delta a_;rw[ϰ4,Zq]
    lia)
   let b:ϴ6[Ã ϰ8+(ϹO 1)]?=Â (S3 ϰa):=by
    rw[b,Zaj];change(W++ϰR)[W.length]?=_;rw[K9a ß,K8c];delta a_;rw[ϰ4];rfl
   rw[ó (Ã ϰ8+(ϹO 1)=Ã ϰ8+1+W.length)]at b;let t1:Y9 ϵu (Ð (Ã ϰ8+1+W.length))=some (Æ<|S3 ϰa):=ϖO;let lt:Ë (Ð (Ã ϰ8+1+W.length)<É ((Ã ϴ6)))=true:=Tl (þ (Za.mp b).1);let tt:=jD (w:=S3 ϰa)<|A.asc _<|Ts b;rw[ϑe Á<|by delta a_;rw[ϰ4];show Uf]at tt;simp![aV,lt,t1,tt]
  ext ρ' rfl ⟨E,g,V,v10,rfl⟩;let l:ϱX (ϰN k W.length [])=ϱX (ϰN (k+1) 0 []):=iR λx _=>by rw[<-tW,OT,xX]
  rw[l];simp![Y2];apply(_,_,_,_,_,_,_,rfl,λY=>?_);obtain⟨u,p⟩:∃u,ò[k+1]?=Ė:=ϴ7 (Rw Y);let(r2,R,s,_):=sW G p;rw[hr]at R;cases R;let fs:=vz H;let b1:Ã ϰR=1:=ϱl a_ (P3 s)
  let fs:Ã (aE<|X.take<|k+1)=Ã ϰ8+(1+(ϹO<|Ã ϰR)):=fs;lia
 ext ρ' rfl ⟨z,E,v6,v7,g,V,v10,rfl,_⟩;rw[fI,K9n];simp![aG];generalize J:Ů=rc
 let e:=cU J (Ģ<|ϰx [ndD ô,Ä<|ϰN ((Ã ò)) 0 [] k]) (λk=>ë<|ndD<|ctN ts D0 X k) ϵW (by
  delta qY;apply K9K;ext k;rw[Oe,Oe];by_cases K:ċ
  .let Z:((Μ).zip<|ϱX (ϰN ((Ã ò)) 0 []))[k]?=some (ndD ô,Ä<|ϰN ((Ã ò)) 0 [] k):=List.getElem?_zip_eq_some.mpr ⟨by delta ar;rw[Oe,pJ K];rfl,ϰM fS Oe (K9Z K)⟩
   rw[K9Z K,Z];rfl
  .rw[K9c (by rw[Zay,bG,wQ];lia),K9c<|ñ Z1]
   rfl) (Ù Z1<|Ş Á) (by
  ext k K;let K:=Zl.mp K;let lk:ĵ k<Ã ò:=by
   let ok:=ϬP ß;let hv:ϱf[k]?=Â (ĵ k):=ϱl Wp (Rw<|Ù b_ K)
   show ok.lt k _ K hv
  let ce:ϰN ((Ã ò)) 0 [] k=Ð (1+cnt (ϴe<|ĵ k) (Þ k)):=ϰB xX (Os lk)
  rw[ce];delta ctN ndD;simp![Y2])
 subst e;simp![Y2];delta ar ctT;rw[Tk,Tk];rfl
end
theorem kU{S:À Str}(p:ϸX){D0:Int}(g1:ř)(g2:ţ)(no:Ϭ5):cY [Ö ϱy,Ä D0]=Ý (í true):=by
 delta cY jX;let r:=xN p g1 g2 no;let f:=p.few;let lb:ü (Ã ϱy):=ax (ñ aV);let e:=xb ϓl;simp![lb,aG,PV,r,UT,WD,HX,e]
theorem pH{S:À Str}(p:ϸX){D0:Int}(g1:ř)(g2:ţ)(no:Ϭ5):dQ [Ö ϱy,Ä D0]=Ý (í true):=by delta dQ jT;let r:=xN p g1 g2 no;simp![PV,r,UT,WD,HX]
section
variable{ts vs:À Nd}{c0 c1:F}{D0:Int}
theorem Ks{ts s:À Nd}(h:ϥb s.length)(e:∀k,ċ->au s k=ô):s=ts:=by
 apply K9K;ext k;by_cases H:ċ
 .rw[pJ H,pJ (ts:=s) Á,e k H]
 rw[K9c Á,K9c Á]
theorem zL(X:À Lev):ϥb (Ã Ϲl):=ν ctT I4 Z1
theorem Qc(X:À Lev){k:Nat}(h:ċ):au Ϲl k=ctN ts D0 X k:=ϒx au ctT ϸV
theorem To(X:À Lev):one Ϲl=ϲJ:=by
 let l:Ã (one Ϲl)=Ã ϲJ:=by delta one;rw[I4,I4,zL]
 apply Ks l (ϳh ?_);let h:ċ:=by delta one at h;rw[I4]at h;show h
 rw[uD h,uD (ts:=Ϲl) (϶1 zL),Qc X h];rfl
theorem AX(h:one vs=ϲJ):Sm ts vs:=by let a:=ϥ4;let b:=pS vs;rw[h]at b;show(b.e.symm.trans a.e,b.r.symm.trans a.r)
theorem Sl(h:one vs=ϲJ){k:Nat}(H:ċ):(au vs k).e=(ô).e/\ύO vs=(ô).l:=by
 let a:=uD H;let b:=uD (ts:=vs) (k:=k) (Ϲi (AX h).len);rw[h,a]at b;injection b with d B
 show(d.symm,B.symm)
theorem Po(H:ϹK)(g1:ř)(g2:ţ):ctT vs D0 ϒk=vs:=by
 let C:=Ϫ8;apply Ks (zL _) λk d=>?_;rw[Qc _ d];obtain⟨l,r,hr,R⟩:∃l r,ϳI[l]?=ϱx/\ϳO:=by let:=(ur H.he).mem_iff.mpr<|Zl.mpr d;let(r,a,b):=ϗ1;let(l,f):=Zaa a;show(l,r,f,b)
 let(L,U):=ϨN;let W:=(Ϯq R).2;let x:lV ϒk (Wp vs k)=cV vs D0 r:=by delta lV lvX;rw[W,Oe,hr];rfl
 let tl:=H.tl k d;let T:=Qt (ts:=vs) R;let c:cnt (cV vs D0 r) (cN vs D0 k)=ā (Ϸj vs-1):=by
  delta cnt cV;rw[List.filter_map,I4];let q:ā (Ϸj vs-1)<=hiT vs r:=by delta hiT;lia
  let e:=JZ q;rw[<-e];congr 1;apply List.filter_congr;ext i _;change Ë ((cs<|S3<|eg vs D0 r<|i+1)[cN vs D0 k]?=Â 58)=Ë (i<ā (Ϸj vs-1));let j:cs (sgS vs k<|i+1)=[58]↔Ð (i+1)<Ϸj vs:=by
   delta sgS;constructor
   .intro h
    split at h
    .assumption
    split at h
    .exact ϵ6 Õ
    show ϵ6 Õ
   ext h;rw[Ÿ];rfl
  by_cases h:i<ā (Ϸj vs-1)
  .rw[ϵc]
   show Tl<|(ϖl Õ).mpr ⟨k,R,rfl,j.mpr Á⟩
  rw[ϲR];apply Pi λz=>h ?_;let(g,K,E,s):=(ϖl Õ).mp z;let m:=(Ϯq K).2;let:=AS C d (L.lt g K) Á E;subst this;let:=j.mp s;lia
 delta ctN;rw[x,c];let:Ð (1+ā (Ϸj vs-1))=Ϸj vs:=Á
 rw[this]
theorem VB(G:Ĩ)(H:ϹK)(g1:ř)(g2:ţ)(h:one vs=ϲJ):ϸr ϒk:=by
 let sm:=AX h;let a:=zX H g1 g2;apply(ϰB a.len sm.K1,λl r hr=>?_);let R:ϳI[l]?=ϱx:=Ù sm.K1 hr
 let(W,d,B):=a.at_ l r R;let e1:bp vs D0 r=ħ:=by rw[<-zV G hr,<-zV H R,h]
 let g:ϷQ vs r=ϰR:=ν a_ sm.eld sm.bar
 rw[e1,g]at d;show(W,d,B)
theorem AN(h:one vs=ϲJ)(X:À Lev):Ϲl=ctT vs D0 X:=by
 let sm:=AX h;delta ctT;rw[sm.len];apply Zt;ext k H;let(a,b):=Sl h ϥm;delta ctN;rw[a,b,sm.cN,sm.Wp]
theorem Xt(G:Ĩ){X:À Lev}(f:∀l,Ã (ϴe l)<=8):Gd Ϲl c0:=by
 apply G.sm (AX<|To X) λn H=>?_;delta ctT at H;let(k,h,rfl):=ϴa;let h:=ϨL;let ok:=ϯH<|gL h;let:=TJ (ϴe<|ĵ k)<|Þ k;let:=f<|ĵ k;apply(ok.1,?_,?_)
 .change É 1<=Ð (1+cnt (ϴe<|ĵ k) (Þ k))
  lia
 change Ð (1+cnt (ϴe<|ĵ k) (Þ k))<=9;lia
theorem yt(G:Ĩ)(g1:ř)(g2:ţ){X:À Lev}(x:ϸr X)(a:∀l,Ã (ϴe l)<=8):c9 [Ö Μ,Ö ϵu,Ä D0]=Ý (í true):=by
 delta c9 gh;let p:=Kt G g1 g2 x;let f:=p.few;let co:=Ϛs x;let U:=Xt (D0:=D0) G a;let u:=U.cf g1 g2;let g:=U.draw u;let e:=FG (qJ<|U.asc u) ϓl Õ;rw[BW]at e;let lb:ü (Ã ϵu):=ax (ñ aV);by_cases h:Rs Ϲl D0=ϴ6
 .rw[ϵc]at e
  let R:=U.read g1 g2;rw[h]at R;let o:=vC _ U.as (by rw[zL];let:=G.len;lia);simp![co,aG,g,e,lb,R,o]
 rw[ϲR]at e;let no:∀s c,Gd s c->ϥu≠ϴ6:=λs c H z=>by
  let i:=Ki G H g1 g2 x z;let q:=Ϛs<|VB G H g1 g2 i;rw[<-jA,z,co]at q;injection q with q
  injection q with q
  let q:=yY q;rw[AN i,AN i<|lvX s D0,Po H g1 g2]at q;apply h;rw[AN i,q];show z
 let r:=kU p g1 g2 no;let m:=pH p g1 g2 no;simp![co,aG,g,e,r,m]
end
theorem fxa(A B:À Lev):aE (A++B)=aE A++aE B:=Zam
theorem Te{Y:À Lev}{l:Nat}{a:Str}{W b:À Str}(h:Y[l]?=Â (a,W,b)){p q:Nat}(P:p<=W.length)(Q:q<=W.length)(V:À Str):
  ý (aE Y) (Ã Ϫv+1+p)++V++ϰD (aE Y) (Ã Ϫv+1+q)=ϕr:=by
 let H:=ϲE;let e1:Y=Y.take l++(a,W,b)::ϮR:=by
  conv=>lhs;rw[<-Zaw l Y]
  rw[K8N H,(Za.mp h).2]
 let g:aE Y=Ϫv++(a::(W++b)++aE ϮR):=by
  conv=>lhs;rw[e1]
  rw[fxa];rfl
 let G:ϕr=Ϫv++(a::(W.take p++V++W.drop q++b)++aE ϮR):=ϵv Zba ϱh fxa
 rw[G,g];generalize Ϫv=A;generalize aE ϮR=B;let t:ý (A++(a::(W++b)++B)) (ϯ8+p)=A++a::W.take p:=by rw[List.take_append,K90 Á,ó (ϯ8+p-A.length=p+1),K92,K7p,K9M,K8s P]
 let d:ϰD (A++(a::(W++b)++B)) (ϯ8+q)=W.drop q++(b++B):=by rw[List.drop_append,Zbj Á,ó (ϯ8+q-A.length=q+1),K92,List.drop_succ_cons,K9M,List.drop_append_of_le_length Q,K9B]
 rw[t,d];simp
section
variable{ts:À Nd}{c0:F}{D0:Int}
theorem oW(r:Ó):Ã (ϳA r)=ϲq:=ν cV I4 Z1
theorem Am{l:Nat}{r:Ó}(h:ľ):ϵs[l]?=Â (S3 ħ,ϳA r,ϰR):=Ϥm lvX
theorem O7:∀l,l<=Ã ò->Ē=Ã (aE<|ý ϵs l):=by
 ext l
 induction l with
 |zero=>ext _;rfl
 |succ l ih=>
  ext h;obtain⟨r,hr⟩:∃r,ľ:=ϰc Á
  rw[oY hr,vz<|Am hr,ih Á,n6];change _=_+(1+(Ã (ϳA r)+Ã ϰR))
  rw[oW];delta a_;split
  .rfl
  rw[Zq];lia
theorem Ug(G:Ĩ)(g1:ř)(g2:ţ){l:Nat}{r:Ó}(hr:ľ){W:À Str}(d:W.length<=8)(hi:∀r,r∈ò->ϲq<=8)(c:∀w∈W,Ϥ5/\Ã â<=8999000):
  ϸr (Ť ϵs l (S3 ħ,W,ϰR))/\∀m,Ã (lV (Ť ϵs l (S3 ħ,W,ϰR)) m)<=8:=by
 let a:=zX G g1 g2;let L:l<Ã ϵs:=Ù a.len (ϲ8 hr)
 apply((ϰB K8z a.len,λm R H=>?_),ϫ4)
 .rw[Zbd]
  by_cases e:l=m
  .subst e
   rw[hr]at H;cases H;rw[ė,Os L];show(W,rfl,Á,c)
  rw[ϰ4];show a.at_ m R H
 delta lV;rw[Zbd];by_cases e:l=m
 .subst e
  rw[ė,Os L];show d
 rw[ϰ4];cases h:ϵs[m]? with
 |none=>show Ν
 |some x=>
  delta lvX at h;rw[Oe]at h;let(R,b,rfl):=Ϸp;change Ã (ϳA R)<=8;rw[oW];show hi R<|Ts b
theorem zK(G:Ĩ)(C:Ĝ){i:Nat}{w:Str}(h:û ø=ϰh)(m:ϳP):∃l r,ľ/\i=Ē/\w=S3 ħ:=by
 obtain⟨l,r,hr,q|⟨o,_,_,_,q⟩|⟨_,_,q⟩⟩:=uB h
 .exact(l,r,hr,q.1,q.2)
 .rw[q]at m
  show Ϥt ϒi
 rw[q]at m;show Ϥt ϓV
theorem Sf(G:Ĩ)(C:Ĝ)(g:ϴ5){i:Nat}{w:Str}(h:û ø=ϰh)(m:Ϥ5):∃l r o,ľ/\1<=o/\o<=ϲq/\i=Ē+o:=by
 obtain⟨l,r,hr,q|⟨o,T,O,a,_⟩|⟨e,_,q⟩⟩:=uB h
 .rw[q.2,Dm G C hr]at m
  cases m
 .exact(l,r,o,hr,T,O,a)
 rw[q,ϑe g<|by delta a_;rw[ϰ4];show Uf]at m;cases m
end
def tix(R:À Str):Ó:=ļ (ŷ R.length) λk=>tB Ϸk
theorem Gj(g:Nat->Bool)(a b:Bool)(x:Str):Ã (cs<|ϐV a b x)<=Ã ϴs/\∀c∈cs (ϐV a b x),c∈ϴs:=by
 delta Txt.stripBy;split
 .exact(ß,λc h=>h)
 delta stripped;let e:∀i j:Nat,cs (⟨x.cps.extract i j⟩:Str)=ý (ϰD ϴs i) (j-i):=λi j=>by
  change Ϩp (x.cps.extract i j);rw[Zbb,List.extract_eq_drop_take];rfl
 apply(?_,λc h=>?_)
 .change Ã ϖk<=_
  rw[e,Zk,K8y];lia
 let H:c∈ϖk:=h;rw[e]at H;show Zbc ϩh
theorem OZ{n p:Nat}(h:n<=p):Builtin.Str.strSliceIndices (Â Ū) none 1 n=Builtin.Str.strSliceIndices (Â Ł) none 1 n:=by
 let H:¬(Ł<0):=Á
 let c:¬(Ū<0):=Á
 let a:É 1 > 0:=Õ
 let g:min Ū Ł=min Ł Ł:=Á
 simp only[Builtin.Str.strSliceIndices,H,a,c,if_false,K84,g]
theorem WX(x:Str)(k:Nat):cs (϶3 (Â á) none)=ϰD ϴs k:=by
 let l:=bS x;by_cases h:ϒ7
 .exact qV x k h
 let e:϶3 (Â á) none=϶3 (Â<|(É x.length)) none:=Ň Txt.slice (OZ<|ó (x.length<=k))
 rw[e,qV x x.length ß,Zbj Á,Zbj Á]
section
variable{ts:À Nd}{c0:F}{D0:Int}
theorem Yb(z:Int):∃c,Y9 (ϰe (è " :|")) όo=ã/\ϦK:=by
 let e:ϰe (è " :|")=ϯE:=ç
 rw[e];let C:όo=0\/ϲd όo 1 2:=Á
 rcases C with h|h|h<;>rw[h]
 .exact(32,rfl,È rfl)
 .exact(58,rfl,Ñ<|È rfl)
 show(124,rfl,Ñ<|Ñ rfl)
theorem xY(G:Ĩ)(g1:ř)(g2:ţ){l o:Nat}{r:Ó}(hr:ľ)(o1:1<=o)(O:o<=ϲq)(z:Int):
  ∃v,dF [Ö<|aC ø,Ä (Ð (Ē+o)),Ä z]=ψ (aC<|ý ø (Ē+o)++[v]++ϰD ø (Ē+o+1))/\tB v=true/\Ã ϱ9<=8999000:=by
 delta dF gK;let C:=ϴG;let(L,rn):=ϥD;let(X,few):=ϤM;let asc:=ύH;let M:=fun{o}(h1:1<=o)(h2:o<=hiT ts r)=>ϻc hr<|Bu r h1 h2;let f:=ϻc hr<|iu r;rw[Zav]at f;let tt:∀{i:Nat}{w:Str},û ø=ϰh->Y9 (aC ø) Ċ=Â (Æ w):=fun{i w} h=>bZ (Ϥm aC);let W:=M o1 O;let il:=ϯD;let w8:=X _<|Ts W;let wa:=ϓq<|Ts W;let t:Γ tB (S3<|Ε o):=ϔr
 let t0:=tt W;generalize S3 (Ε o)=w at W w8 wa t t0;let wl:=bS w;simp![t0];generalize hL:gR _ _ _=N;apply zZ hL (λm s=>m<=ϲq/\s=[ì<|aC ø,æ<|Ä (Ð (Ē+o)),æ<|Ä z,æ<|Æ w,æ<|Ä (Ð (Ē+m)),none,none]) o ⟨O,rfl⟩ (λs=>s=[ì<|aC ø,æ<|Ä (Ð (Ē+o)),æ<|Ä z,æ<|Æ w,æ<|Ä (Ē:Int),none,none]) ?_ ?_
 .rintro m s ⟨hm,rfl⟩
  rcases Zah m with e|e
  .subst e
   left;let a:=tt f;let b:=jD<|ϓq<|Ts f;rw[Dm G C hr]at b;rw[Zav];show(by simp![a,b],rfl)
  right;let q:=M Á hm;let a:=tt q;let b:=jD<|ϓq<|Ts q;let t:Γ tB (S3<|Ε m):=ϔr
  rw[t]at b;let em:Ð (Ē+m)-1=Ð (Ē+(m-1)):=Á
  apply(by simp![a,b],?_);simp![em];show(m-1,Á,Á,rfl)
 .rintro ρ' rfl rfl
  let a:=tt f;let m0:=Ts f;let cl:=kZ (S3 ħ) (by rw[bS];let:=X _ m0;lia);rw[ϫs]at cl;let S:ϱT (Ã (ϳn Þ)):=ϔ5
  let(K,pm,B,D,j):=uA (λz=>rn ϳX:ϳn Þ≠[]) S<|z / 8;let ph:ϥ5 K:=by let(k,hk,rfl):=Β pm;show ϪW<|ϱr hk
  clear pm S;generalize ϳn Þ=Q at cl B D j
  let(c,hc,c3):=Yb z;let ls:ü (Ã (è " :|")):=ax ç;let lw:ü w.length:=bQ Á
  let fin:∀P:Nat,P<=8990001->∃v,Jy (JY (ϱu [ì<|aC ø,æ<|Ä (Ð (Ē+o)),æ<|Ä z,æ<|Æ w,æ<|Ä (Ē:Int),ì<|nD Q,æ<|Ä (É P)]) (ao (œ<|eLj į ϷA)
 (ao (œ<|ĩ (Ϻt mR į 6<|Ż (eC<|Æ " :|")<|Ψ (Ò eQ 2<|Ê 512)<|Ê 3)<|ϲt mR į (Ò aF 6<|Ê 1))
 (bF<|Ϻp 1 (GJ Ep į)<|ϲt iC ð (Ò aF 1<|Ê 1)))))=ψ (aC<|ý ø (Ē+o)++[v]++ϰD ø (Ē+o+1))/\tB v=true/\Ã ϱ9<=8999000:=λP g=>by
   let pk:Γ PadOk ((É P)):=HR Á;let J:=Kp w P;generalize hx:Txt.ljust w (É P)=x at J;let xl:=bS x;let xc:Ã ϴs=Ã â+(P-Ã â):=by rw[J,S5,K8r]
   let lx:ü x.length:=bQ Á;let ep:É P+1=Ð (P+1):=Á
   let U:=xU x P Á;let V:=WX x<|P+1;let N:=bS<|ϵS<|Â ((É P));let r2:=bS<|϶3 (Â<|(Ð (P+1))) none;rw[U,Zk]at N;rw[V,K8y]at r2;let j:Ã (Š:Str)=1:=rfl;let Z:ü (Ã (ϵS<|Â ((É P)))+Ã (Š:Str)):=bQ Á;let b6:ü (Ã (ϵS (Â<|(É P))++Š:Str)+Ã (϶3 (Â<|(Ð (P+1))) none)):=bQ (ñ Str.length_append);let u:cs (ϵS (Â<|(É P))++Š++϶3 (Â<|(Ð (P+1))) none)=ý ϴs P++c::ϰD ϴs (P+1):=by rw[iM,iM,U,V,K9M];rfl
   let yl:=bS<|ϵS (Â<|(É P))++Š++϶3 (Â<|(Ð (P+1))) none;let Y:=yl;rw[u,S5,Zo,Zk,K8y]at Y;let F:ü (Ã (ϵS (Â<|(É P))++Š++϶3 (Â<|(Ð (P+1))) none)):=bQ Á;let T:=ϛv<|ϵS (Â<|(É P))++Š++϶3 (Â<|(Ð (P+1))) none;let er:∀y:Str,Ep y=Æ ϕm:=ύg;let c1:=yI ø<|Ē+o;let c2:=iX (R:=ø) (a:=Ē+o+1) Á;let ej:Ð (Ē+o)+1=Ð (Ē+o+1):=Á
   generalize hy:ϵS (Â<|(É P))++Š++϶3 (Â<|(Ð (P+1))) none=y at u yl Y F T;generalize hv:ϕm=v at T;let l1:ü (Ã (ý ø<|Ē+o)+1):=ax (ñ Zk);let l2:ü (Ã (ý ø (Ē+o)++[v])+Ã (ϰD ø<|Ē+o+1)):=Ϥi;apply(v,?_,pP.mpr λd H=>?_,Á)
   .simp![Wh,V1 pk,hx,lx,ls,hc,Zai,ep,vk,Z,b6,hy,P9,Qb,F,er,hv,c1,c2,ej,aV,aG,iY,kW,l1,l2]
   .let H:=T.2 d H
    rw[u]at H;let n:∀e∈ϴs,e=32\/e=58\/e=124:=λe he=>by
     rw[J]at he;rcases Y7.mp he with he|he
     .exact pP.mp t e he
     .exact È (Ϥk he)
    rcases Y7.mp H with H|H
    .exact n d ϩh
    .rcases Z7.mp H with rfl|H
     .exact c3
     .exact n d<|Zbc H
  by_cases I:z%8=0
  .let q0:(É 0<É w.length+2)=True:=ϰr Á
   let q9:Ϥq (É w.length+2):=ϰr Á;let mm:=ϧR 8 (ó<|É 0<É w.length+2);obtain⟨P,A⟩:∃P:Nat,z / 8%(É w.length+2)=É P:=⟨ā (z / 8%(É w.length+2)),Á⟩
   let(v,e1,E):=fin P Á;apply(v,?_,E);rw[<-e1];simp![a,cl,dM,dN,B,D,j,Tl I,lw,q0,q9,A]
  .let(v,e1,E):=fin K Á
   apply(v,?_,E);rw[<-e1];simp![a,cl,dM,dN,B,D,j,Pi I]
end
section
variable{ts:À Nd}{c0:F}{D0:Int}
theorem Gd.rw8(G:Ĩ)(g1:ř)(g2:ţ):Rw8 ø:=⟨G.asc ϴG,(ϤM).1,(ϤM).2⟩
theorem Gd.pc(G:Ĩ)(g1:ř)(g2:ţ):Pc ø:=(ϙX (G.picF g1 g2))
theorem Of(G:Ĩ)(g1:ř)(g2:ţ){l:Nat}{r:Ó}(hr:ľ):∀w∈ϳA r,Ϥ5/\Ã â<=8999000:=by let(W,h,_,H):=(zX G g1 g2).at_ l r hr;rw[Am hr]at h;cases h;show H
theorem zH(G:Ĩ)(g1:ř)(g2:ţ)(h4:∀k,ċ->(ô).t<=4)(z:Int):∃X,dX [Ö<|aC ø,Ä z]=ψ ϵu/\ϸr X/\∀m,Ã (ϴe m)<=8:=by
 delta dX gY;let C:=ϴG;let W:=G.rw8 g1 g2;let P:=G.pc g1 g2;let few:=W.few;let h3:∀r,r∈ò->ϲq<=3:=λr hr=>by
  let(l,hl):=Zaa hr;let(k,K,e):=Ei G hl;let:=h4 k<|(G.lv hl).1.lt k K;delta hiT;lia
 let h8:∀r,r∈ò->ϲq<=8:=λr hr=>þ (h3 r hr)
 let stf:∀{l r},ľ->Ē=Ã (aE<|ý ϵs l):=fun{l r} h=>O7 l<|Zcp ϲE;let sp:∀{l r},ľ->∀p q,p<=ϲq->q<=ϲq->∀V:À Str,ý ø (Ē+1+p)++V++ϰD ø (Ē+1+q)=aE (Ť ϵs l (S3 ħ,ý (ϳA r) p++V++ϰD (ϳA r) q,ϰR)):=fun{l r} h p q hp hq V=>ϱq jA (stf h) (Te (Am h) (Ù oW hp) (Ù oW hq) V)
 let ok:∀{l r},ľ->∀p q(V:À Str),p<=ϲq->V.length<=1->(∀w∈V,Ϥ5/\Ã â<=8999000)->ϸr (Ť ϵs l (S3 ħ,ý (ϳA r) p++V++ϰD (ϳA r) q,ϰR))/\∀m,Ã (lV (Ť ϵs l (S3 ħ,ý (ϳA r) p++V++ϰD (ϳA r) q,ϰR)) m)<=8:=fun{l r} h p q V hp S hV=>by
  let t:=Of G g1 g2 h;let hr3:=h3 r ϳN;apply Ug G g1 g2 h ?_ h8 ϹD
  .rw[S5,S5,Zk,K8y,oW]
   lia
  rcases Y7.mp H with H|H
  .rcases Y7.mp H with H|H
   .exact t w ϩh
   show hV w H
  show t w<|Zbc H
 let u:∀A f a4 a5 a6:Ú OD,Η iR1 (Č<|Ï 0 ah) (av<|ϲM cG<|Ò Rg 1 ð) ð 1 [0] [ì<|aC ø,æ<|Ä z,A,f,a4,a5,a6]=Ď (nO<|tix ø):=λA f a4 a5 a6=>by
  let s62:ϱ1 ((É ((Ã ø)))):=θ Á;simp![aV,s62];generalize hC:Ů=rc
  let e:=ko hC (Ģ<|ϻ6 á) (λk=>tB<|y_ ø k) (Ģ<|.sh<|Ä á) (ŷ<|(Ã ø)) rfl (Ù Z1<|Ş Á) (by
   ext k K;rw[K8R];let K:=Zl.mp K;let a:=vh K;let b:=jD<|W.asc _<|Ts<|fA K;apply(?_,ϰs ?_)
   .simp![a,b]
   simp![Y2])
  subst e;simp![Y2];rw[qP];rfl
 by_cases te:tix ø=[]
 .let j:Zp (Ö<|nD<|tix ø) (Ö [])=Ý (í true):=by rw[te];show xb<|Ag []
  let B:=rJ W.rw;let n0:0<Ã ø:=by let(w,H,_):=P.f.ne;show ϶4
  let Z:lix ø≠[]:=ϕl
  let Y:ϱT (Ã (lix ø)):=by
   delta lix;let:=K8i (Ģ<|Ë (k=0)||Ë (á-1∈iL (bix ø)))<|ŷ ((Ã ø));rw[Z1]at this;lia
  let(a,am,g,A,f):=uA Z Y<|z / 4;let(al,aL):=IV P am;let(l,r,hr,rfl,ew):=zK G C (fA al) aL;let(L,rn):=ϥD;let J:=vh al;let cl:=kZ (y_ ø Ē)<|W.rw.w9<|Ts<|fA al;rw[ew,ϫs,<-ew]at cl;let rl:ϱT (Ã (ϳn Þ)):=ϔ5
  let(T,pm,q1,q2,q3):=uA (λz=>rn ϳX:ϳn Þ≠[]) rl<|z / 64;let ph:T<=8000000:=by let(k,K,rfl):=Β pm;show ϪW<|ϱr K
  clear pm rl;generalize ϳn Þ=Q at cl q1 q2 q3
  let b1:è " "=϶5:=ç
  let mu:=HU (x:=è " ") (n:=ϨO) ç Á Á;let mc:cs (Txt.mul (è " ") ϨO)=replicate T 32:=by rw[b1];let:=ϖ0 ϨO;rw[K9n]at this;show this
  let ml:=bS<|Txt.mul (è " ") ϨO;rw[mc,K8r]at ml;obtain⟨c,hc,F⟩:∃c,Y9 (ϰe (è ":|")) (z%2)=ã/\ϦK:=by
   let e:ϰe (è ":|")=[58,124]:=ç
   rw[e];let r2:z%2=0\/z%2=1:=Á
   rcases r2 with h|h<;>rw[h]
   .exact(58,rfl,Ñ<|È rfl)
   show(124,rfl,Ñ<|Ñ rfl)
  let ls:ü (Ã (è ":|")):=ax ç;let o1:Ã (Š:Str)=1:=rfl;let b5:ü (Ã (Txt.mul (è " ") ϨO)+Ã (Š:Str)):=bQ Á;let N:É Ē+1=Ð (Ē+1):=Á
  let c1:=yI ø<|Ē+1;let I:=iX (R:=ø) (a:=Ē+1) Á;generalize S:Txt.mul (è " ") ϨO++Š=v at*;let vc:ϱ9=replicate T 32++[c]:=by rw[<-S,iM,mc];rfl
  let U:ü (Ã (ý ø<|Ē+1)+1):=ax (ñ Zk);let i:ü (Ã (ý ø (Ē+1)++[v])+Ã (ϰD ø<|Ē+1)):=Ϥi;let s:=sp hr 0 0 Ν Ν [v];rw[Zav]at s;apply(_,?_,ok hr 0 0 [v] Ν ß ϹD)
  .rw[<-s]
   simp![↓u,dM,j,B,dN,g,A,f,J,cl,q1,q2,q3,mu,ls,hc,Zai,b5,S,N,c1,I,aV,aG,iY,kW,U,i]
  rw[ϻx];apply(pP.mpr ϓ0,by rw[vc,S5,K8r,Zq];lia);rw[vc]at D;rcases Y7.mp D with D|D
  .exact È (List.mem_replicate.mp D).2
  rw[K95.mp D];show F
 let j:Zp (Ö<|nD<|tix ø) (Ö [])=Ý (í false):=by let ly:=Ag<|tix ø;let(x,xs,e):=Zac te;rw[e]at ly⊢;show El (n:=1) ly Õ
 let tle:ϱT (Ã (tix ø)):=by
  delta tix;let:=ϓd (tB<|y_ ø k)<|ŷ ((Ã ø));rw[Z1]at this;lia
 let(a,am,g,A,f):=uA te tle<|z / 4;obtain⟨al,aT⟩:a<Ã ø/\Γ tB (y_ ø a):=by delta tix at am;let(x,y):=K89.mp am;show(Zl.mp x,y)
 let(l,r,o,hr,o1,o2,rfl):=Sf G C Á (fA al) aT;obtain⟨p,rfl⟩:∃p,o=p+1:=⟨o-1,Á⟩
 let M:Ē+(p+1)=Ē+1+p:=Á
 let J:=vh al;let mw:=Ts<|fA al;let N:Ð (Ē+(p+1))+1=Ð (Ē+(p+1)+1):=Á
 let c1:=yI ø<|Ē+(p+1);let E:=iX (R:=ø) (a:=Ē+(p+1)) Á;let F:=iX (R:=ø) (a:=Ē+(p+1)+1) Á;let m4:z%4=0\/z%4=1\/(z%4≠0/\z%4≠1):=Á
 rcases m4 with h|h|⟨h,h'⟩
 .let s:=sp hr p (p+1) Á o2 []
  rw[Zw,<-M,ó (ϏB Ē (p+1))]at s;let i:ü (Ã (ý ø<|Ē+(p+1))+Ã (ϰD ø<|Ē+(p+1)+1)):=ax (ξ Zk K8y);apply(_,?_,ok hr p (p+1) [] Á Ν λw H=>by cases H);rw[<-s];simp![↓u,dM,j,dN,g,A,f,Tl h,c1,N,F,aV,aG,kW,i]
 .let s:=sp hr p p Á Á [y_ ø<|Ē+(p+1)]
  rw[<-M]at s;let O:å (Ë (z%4=0)):=Pi Á;let U:ü (Ã (ý ø<|Ē+(p+1))+1):=ax (ñ Zk);let i:ü (Ã (ý ø (Ē+(p+1))++[y_ ø<|Ē+(p+1)])+Ã (ϰD ø<|Ē+(p+1))):=Ϥi;apply(_,?_,ok hr p p [y_ ø<|Ē+(p+1)] Á ß ϹD)
  .rw[<-s]
   simp![↓u,dM,j,dN,g,A,f,O,Tl h,c1,E,J,aV,aG,iY,kW,U,i]
  rw[ϻx];show(aT,þ (όS mw))
 let(v,e1,e2,e3):=Ϝd<|z / 64;let s:=sp hr p (p+1) Á o2 [v];rw[<-M,ó (ϏB Ē (p+1))]at s;rw[s]at e1;let O:å (Ë (z%4=0)):=ϲR;let h1:å (Ë (z%4=1)):=Pi h';apply(_,?_,ok hr p (p+1) [v] Á ß ϹD)
 .simp![↓u,dM,j,dN,g,A,f,O,h1,e1]
 rw[ϻx];show(e2,e3)
end
theorem PK{w:Str}{t:Ó}(h:â=t):w=ŕ:=by rw[<-h,Br]
theorem Eu{s:À Pt}{t:Ó}{c:Nat}(h:ĥ s=ύG)(hc:ϳH):ϲP=sS ύG:=by
 let(u,k,e1,g):=rV<|ĥ s;delta S3;let:k=0:=by
  rcases Zah k with z|z
  .exact z
  exfalso;obtain⟨j,rfl⟩:∃j,k=j+1:=⟨k-1,Á⟩
  rw[h,Zcl,<-K9M]at e1;let:=List.append_inj_right' e1 rfl;show hc (K8C this).1
 subst this;rw[Zat,Zw]at e1;let(v,f,G,_):=vF (ĥ s) |>.elim λv H=>(⟨v,H.1,H.2,trivial⟩:∃v,ϭ1 (sS<|ĥ s)=sS v/\(∀p:Nat,v[p]?=(ĥ s)[p]?\/(v[p]?=none/\(ĥ s)[p]?=Â 32))/\True)
 rw[f,<-h];congr 1;apply K9K;ext p;let(w,g1,g2,_,g4,_):=kG<|ĥ s;rw[f]at g1;let V:=z9 g1;subst V;let L:Ã (ĥ s)=ϯ5:=by rw[h,S5,Zq]
 let last:v[t.length]?=(ĥ s)[t.length]?:=by
  rcases G t.length with q|⟨_,q⟩
  .exact q
  rw[h,K9a ß,K8c]at q;show Đ (Zz q) hc
 let l:t.length<v.length:=by
  let:v[t.length]?=ã:=by rw[last,h,K9a ß,K8c];rfl
  show ϲ8 this
 rcases G p with q|⟨q,Q⟩
 .exact q
 let a:=ώV q;let b:=(ϲ8 Q);lia
theorem nR{c:Nat}{w:Str}{a:Nat}{t:Ó}(h:â=t++[a])(A:a≠32):S3 [(c,w)]=sS (replicate c 32++(t++[a])):=by
 let e:ĥ [(c,w)]=(replicate c 32++t)++[a]:=by rw[Y3c,Y3n,Zw,h,Zbf,K9M]
 rw[Eu e A,K9M]
theorem z_{l:Str}(h:mQ l):∃t a,cs l=t++[a]/\a≠32:=by
 let L:=bS l;let n:cs l≠[]:=λz=>by rw[z]at L;let:=h.1;simp at L;lia
 apply((cs l).dropLast,(cs l).getLast n,ϵQ (Zbm n),?_);let:=Ϧg _ ϙk;lia
theorem FE{l:Str}(h:mQ l):S3 [(0,l)]=l:=by let(t,a,e,A):=z_ h;rw[nR e A,Zat,K9B,<-e,Br]
section
variable{ts:À Nd}{c0:F}{D0:Int}
theorem FT{way:À Int}(g:Y5 8 ts way)(a:ϱo 40):∃c,ϵz:=by let(c,p,_):=Bz g;show(c,p,g.ok,(BN g).2,a)
theorem Ms(n:Nd)(h:ϥS):K1 [n]=[[0]]/\G0 [n] 0=[]:=by
 let l:T2 [n]=[0]:=by
  change [dh [] n]=[0]
  delta dh;rw[Ÿ]
 apply(?_,?_)
 .change bW (T2 [n]) 1=_
  rw[l];rfl
 delta G0;change ļ (ŷ 1) _=_;let:Z5 [n] 0=-1:=h;simp[this]
theorem E3{n:Nd}(h:ϥS)(ok:Bm n){D0:Int}(g1:ř)(g2:ţ):Ϫd [n] D0 (n.l::ŗ ((ā (n.t-1))) (sS<|ŗ (rL [n] 0) 32++[58])):=by
 let(c,G):=FT (Y5.root (deep:=8) ok h) Ø;apply(?_,c,G);let C:=ϴG;let(M,Q):=Ms n h;let(k,H,E):=G.cf0 C;let:k=0:=by simp at H;lia
 subst this;let nd:au [n] 0=n:=rfl;let e1:bp [n] D0 [0]=[(0,n.l)]:=by delta bp;rw[W1,K9D,E,K8c,nd]
 let g:hiT [n] [0]=ā (n.t-1):=by delta hiT tlM;rw[W1,K9D,nd];rfl
 let e:ϷQ [n] [0]=[]:=by delta a_ cP;rw[Os];rw[K8O,Q];rfl
 let b:cV [n] D0 [0]=ŗ ((ā (n.t-1))) (sS<|ŗ (rL [n] 0) 32++[58]):=by
  delta cV;rw[g];apply K9K;ext i;rw[Oe,K8Z];by_cases hi:i<ā (n.t-1)
  .rw[Ϲ1,Os hi,Zai]
   delta eg;rw[W1,K9D];let j:sgS [n] 0 (i+1)=chS 58:=Ň sgS (Os<|ñ nd)
   rw[j,ώF 58 Õ,E];rfl
  rw[K9c (ñ Z1),P3 hi];rfl
 rw[jA];delta lvX;rw[M,W1,K9D,e1,e,b,FE ok.1];delta aE;rw[Zan,Zck,Zw,Zw]
end
def lnL(k:Nat):Str:=Ì (k=0) (ĳ 107) (sS [96+k])
def fM(m:Nat):À Nd:=Î (range m) (Ģ ⟨á-1,lnL k,1⟩)
def fN(m:Nat):À Str:=ĳ 107::ϰW (ŷ<|m-1) λi=>[ĳ 35,sS [97+i]]
theorem m7(m:Nat):Ã ϩn=m:=ν fM I4 Z1
theorem Lc{k:Nat}(h:k<=20):mQ (lnL k):=by
 delta lnL mQ;split
 .exact(L0 1,(Õ:ϰC 1<=9),λc hc=>by
   let hc:c∈[107]:=hc;rw[K95]at hc
   lia)
 .exact(L0 1,(Õ:ϰC 1<=9),λc hc=>by
   let hc:c∈[96+k]:=hc;rw[K95]at hc
   lia)
theorem DY:∀m,m+1<=9->Y5 8 ϶i (Ć (m+1) (Ģ á)):=by
 ext m
 induction m with
 |zero=>exactλ_=>Y5.root (n:=(ϷC (lnL 0) 1)) ⟨Lc Ν,Zao 1,(Õ:É 1<=9)⟩ rfl
 |succ m ih=>
  ext h;let g:=ih Á;let wl:Ã (Ć (m+1) (Ģ á))=m+1:=ϰB I4 Z1
  let T:=Y5.step (n:=⟨Ð (m+1)-1,lnL<|m+1,1⟩) g (c:=m+1) Á (Ù wl ß) Á ⟨Lc Á,Zao 1,(Õ:É 1<=9)⟩ (by
   rw[K8J,Oe,K9Z Á];change Â Ι=Â (Ð (m+1)-1)
   congr 1
   lia)
  rw[K90 (Ù wl ß),m7]at T;let e1:fM (m+1+1)=϶i++[⟨Ð (m+1)-1,lnL<|m+1,1⟩]:=ϰM fM (K8A (n:=m+1)) Z6
  let e:Ć (m+1+1) (Ģ á)=Ć (m+1) (Ģ á)++[Ð (m+1)]:=ϲ5 (K8A (n:=m+1)) Z6
  rw[e1,e];show T
section
variable{ts:À Nd}{c0:F}{D0:Int}
theorem Nh(G:Ĩ)(hr:∀k,ċ->ϰg=0)(p:∀k,ċ->϶c k=0):∀k,ċ->Þ k=0:=by
 let a:=϶Y;let le:Ć ts.length (λk=>϶c k-Ϲe)≠[]:=λz=>by
  let:=Ŧ z;rw[I4,Z1,K8U]at this;lia
 let D:ϫN=0:=by let(k,h,e):=Β (mM le).1;let h:=ϨL;rw[p k h,iI h,ϥH]at e;show e.symm
 ext k h;delta cN;rw[pf a h,p k h,D];rfl
theorem J_(G:Ĩ)(g1:ř)(g2:ţ)(n:ò=Ć ts.length λk=>[k])(hc:∀k,ċ->Ě=Ì ϮS [k+1] [])
  (d:∀k,ċ->(ô).t=1/\Ã (ϲA ô)=1):ø=ϰW ϵW λk=>(ô).l::(Ì ϮS [ĳ 35] []):=by
 let L:ϱo 100:=þ G.len
 let hr:∀k,ċ->ϰg=0:=϶K (ν rL bS (d k H).2)
 let p:∀k,ċ->϶c k=0:=by
  ext k
  induction k with
  |zero=>exact ϰs tE
  |succ k ih=>
   ext H;let c:=hc k Á;rw[ϱh]at c;let(a,b,A,B,M,Q):=JH G.pt D0 Á L (ó ċ) (by rw[c];show ϲI);rw[c,K95]at A B;subst A;subst B;let:=ih Á;lia
 let z:=Nh G hr p;rw[jA];delta aE lvX;rw[n,Tk,Zbx];apply xt;ext k H;let H:=ϥm;let ok:=ϯH<|gL H;let e1:όs [k]=[(0,(ô).l)]:=by delta bp;rw[W1,K9D,z k H];simp
 let g:ϳA [k]=[]:=by delta cV hiT tlM;rw[W1,K9D,(d k H).1];rfl
 let e:ϷQ ts [k]=Ì ϮS [ĳ 35] []:=by
  let c:=hc k H;delta a_ cP;by_cases h:ϮS
  .rw[Ÿ]at c⊢
   rw[P3 ϐc];let b:d8 ts D0 [k]=[(0,ĳ 35)]:=by
    delta d8 cP;let q:(ļ [k] λk=>Ë<|É 0<É ((Ã Ě)))=[k]:=ϐc
    rw[q,W1,K9D];delta nv aR;rw[c,W1,K9D,z k H,z (k+1) h];rfl
   rw[b,ώF 35 Õ];rfl
  rw[χ]at c⊢;rw[Os ϐc]
 change S3 (όs [k])::(ϳA [k]++ϷQ ts [k])=_;rw[e1,g,e,FE ok.1,K9B]
end
theorem Nq{m:Nat}(h:m=8\/m=9){D0:Int}(g1:ř)(g2:ţ):Ϫd ϩn D0 Ϧn:=by
 let key:∀m,m+1<=9->(K1 ϶i=Ć ((Ã ϶i)) λk=>[k])->(∀k,k<Ã ϶i->G0 ϶i k=Ì (k+1<Ã ϶i) [k+1] [])->
   (ϰW (ŷ<|(Ã ϶i)) λk=>ύO ϶i::(Ì (k+1<Ã ϶i) [ĳ 35] []))=fN (m+1)->Ϫd ϶i D0 (fN (m+1)):=λm M a b e=>by
  let(c,G):=FT (DY m M) (ñ m7);apply(?_,c,G);rw[J_ G g1 g2 a b (϶K ?_),e];rw[m7]at H;delta au fM;rw[Oe,K9Z H];apply(rfl,?_);change Ã (cs<|lnL k)=1;delta lnL;split<;>rfl
 rcases h with rfl|rfl
 .exact key 7 Õ ç (ϭI m7) ç
 show key 8 Õ ç (ϭI m7) ç
theorem Cc{m:Nat}(H:1<=m)(h:m<=11):kf [Ä Ι]=Ý (Ö<|aC Ϧn):=by
 delta kf nI;let cst:ϰe (è "abcdefghijk")=ώk:=ç
 let s:ü (Ã (è "abcdefghijk")):=ax ç;let k:è "k"=ĳ 107:=ç
 let K:è "#"=ĳ 35:=ç
 let em:Ι-1=Ð (m-1):=Á
 let S:ϱ1 ((Ð (m-1))):=θ Á;simp![k,K,em,S];generalize l:Ŋ=r;apply Ϫh (∃V:Ú OD,a=[æ<|Ä Ι,ì ϒ8,V]) ι
 .rintro i d a hd ⟨V,rfl⟩
  let(hi,rfl):=ϷK;rw[K9n]at hi;rw[K8R];let I:Y9 (ϰe (è "abcdefghijk")) Ċ=Â (97+i):=by
   rw[cst];let:∀j:Fin 10,ϔ6=Â (97+j.val):=Õ
   show bZ<|this ⟨i,Á⟩
  let T:ϯl fN (i+1) [ĳ 35,sS [97+i]]:=ϕZ
  let L:∀j,Ã (fN<|j+1)=1+2*j:=by
   ext j
   induction j with
   |zero=>rfl
   |succ j ih=>
    let T:ϯl fN (j+1) [ĳ 35,sS [97+j]]:=ϕZ
    rw[T,S5,ih];simp;lia
  let z:ü (Ã ϒ8+2):=ax (by rw[aV,L];lia);let ap:ϒ8++[Æ<|ĳ 35,Æ ⟨#[97+i]⟩]=aC (fN<|i+1+1):=by rw[T];delta aC;rw[Z6];rfl
  simp![I,s,Zai,z,ap,aG];show(_,rfl)
 ext ρ' rfl ⟨V,rfl⟩;rw[fI,K9n,ó (m-1+1=m)];simp![Y2]
def gx(n:Nat):À Nd:=ϷC (ĳ 97) 1::ϪE ⟨0,ĳ 99,1⟩
def fu(n s:Nat):À Pt:=Î ϰf λi=>(i*s,ĳ 99)
def oH(mid s p:Nat):Nat:=Ì (p=mid) (Ì (p%s=0) 35 94) (Ì (p%s=0) 43 45)
def sQ(s p:Nat):Nat:=Ì (p%s=0) 99 32
def Zf(n s:Nat):Nat:=(n-1)*s
def vn(n s:Nat):À Str:=[sS<|ŗ ϰl 32++[97],sS<|Ć (ϰG+1)<|oH ϰl s,sS<|Ć (ϰG+1) ϸY]
theorem okl(c:Nat)(h:ϴA):mQ ϻz:=⟨L0 1,(Õ:ϰC 1<=9),λd H=>by
 let H:d∈[c]:=H;rw[K95]at H
 lia⟩
theorem Ed:∀n,∃way,Y5 8 ϵD way/\way[0]?=Â 0:=by
 ext n
 induction n with
 |zero=>show([0],Y5.root ⟨okl 97 Á,Zao 1,(Õ:É 1<=9)⟩ rfl,rfl)
 |succ n ih=>
  let(way,g,h):=ih;let p:=g.pos;let T:=Y5.step (n:=⟨0,ĳ 99,1⟩) g (c:=1) ß p.2 Á ⟨okl 99 Á,Zao 1,(Õ:É 1<=9)⟩ h;let e:ϵD++[⟨0,ĳ 99,1⟩]=gx (n+1):=ϱl gx Zcl
  rw[e]at T;apply(_,T,?_);rw[K9V (ñ Zk),Zct,Os Á];show h
theorem B8{n s:Nat}(S:2<=s):goP 0 ϶r:=by
 apply Jl _ 0 ϒ5 ?_
 .unfold fu at H
  let(i,_,rfl):=ϴa;show(Ν,È ⟨ϲI,Ϥy (32∉[99])⟩)
 delta fu;rw[Zbe];apply ϙW (fun{a b} h=>?_);change a*s+1+1<=b*s;let:(a+1)*s<=b*s:=Zax s h;rw[Zeb,Zcx]at this;lia
theorem La{n s:Nat}(N:1<=n)(S:2<=s):ĥ ϶r=Ć (ϰG+1) ϸY:=by
 obtain⟨m,rfl⟩:∃m,n=m+1:=⟨n-1,Á⟩
 let go:=B8 (n:=m+1) S;let sn:ϯF=fu m s++[(m*s,ĳ 99)]:=ϰM fu K8A Z6
 let L:Ã (ĥ ϯF)=Zf (m+1) s+1:=by
  rw[sn]at go⊢;let(e1,g):=Cz _ 0 _ _ go;rw[e1,S5,S5,K8r];change _+(_+1)=(m+1-1)*s+1;rw[K8J];lia
 apply K9K;ext p;by_cases h:p<Zf (m+1) s+1
 .rw[Oe,ϸV,Zai]
  obtain⟨c,hc⟩:∃c,(ĥ ϯF)[p]?=ã:=ϰc Á
  rw[hc];congr 1;delta sQ;by_cases q:p%s=0
  .rw[Os q]
   let P:p=Ϥf*s:=ϔY this.symm
   let pi:Ϥf<m+1:=by
    apply Zaf;ext z;let:(m+1)*s<=Ϥf*s:=Zax s Á;delta Zf at h;rw[K8J]at h;rw[Zeb,Zcx]at this;lia
   let at_:=(wo _ 0 go (Ϥf*s,ĳ 99)<|ϱ6 ⟨Ϥf,ϥ6 pi,rfl⟩).2 0<|Nat.one_pos;dsimp only at at_;rw[<-P,Zbf]at at_;let at_:(ĥ ϯF)[p]?=Â 99:=at_;rw[hc]at at_;show Zz at_
  rw[P3 q];apply Zaf;ext z;let(x,H,X,a):=J2 _ 0 p c go hc z;delta fu at H;let(i,_,rfl):=ϴa;rw[K87]at X a;let l:=(Za.mp a).1;let l:p-i*s<1:=l;let X:i*s<=p:=X;let:p=i*s:=Á
  rw[this,Zde]at q;show q rfl
 rw[K9c Á,K9c<|ξ I4 Z1]
theorem zw{n s:Nat}(H:1<=n)(S:2<=s):S3 ϶r=sS (Ć (ϰG+1) ϸY):=by
 let h:=La H S;let e:Ć (ϰG+1) ϸY=Ć ϰG ϸY++[99]:=by rw[K8A,Z6,W1,K9D];delta sQ Zf;rw[Os<|Zde _ _]
 rw[e]at h⊢;show Eu h Õ
theorem M0{D0:Int}{n:Nat}{O:À Ol}(o:Ϧi)(on:O.length=n)(D:Int)(H:0<=D)(d:∀i j,i<j->j<n->ϳ4 i j=D):ϥP (gv (ϰm O) k=á*D-(Ð (n-1)*D) / 2):=by
 obtain⟨⟨E,L,h⟩,_⟩:=Ϫt o;let N:0<n:=by rw[<-on];show o.2.1
 let M:∀a b:Nat,a<b->ϲs*D+D<=(b:Int)*D:=λa b ab=>by
  let:Ð (a+1)*D<=(b:Int)*D:=Zcg Á H;rw[Zcc,Zea]at this;lia
 let sc:∀a:Nat,Ð (a+1)*D=ϲs*D+D:=λa=>ξ Zcc Zea
 let s:=h.isE;let isL:=h.isL;rw[on]at s isL;let e1:IsE n ϳ4 (λk=>á*D):=by
  apply(Int.zero_mul D,λk k0 K=>⟨Ϥ1,k-1,Á,?_⟩)
  .rw[d j k J K]
   show M j k J
  rw[d (k-1) k Á K,<-sc,ó (k-1+1=k)]
 let e:ϥP (gv E k=á*D):=Ca s e1;let l:IsL n ϳ4 (gv E<|n-1) (λk=>á*D):=by
  apply(ϵQ (ϯT Á),λk K=>⟨λj J U=>?_,k+1,Á,Á,?_⟩)
  .rw[d k j J U]
   let:=M k j J;change á*D<=ĺ*D-D;lia
  rw[d k (k+1) Á Á];change á*D=Ð (k+1)*D-D;rw[sc];lia
 ext k K;let W:=Jn isL l k K;rw[h.eq k Á,e k K,W,on,ϯT Á];change(á*D+á*D) / 2-_=_;lia
section
variable{ts:À Nd}{c0:F}{D0:Int}
theorem Lu(G:Ĩ){n s:Nat}(n2:2<=n)(I:2<=s)(hg:D0=ϴb-1)(g2:ţ)(w:ts.length=n+1)(N:ò=[[0],Î ϰf Ϸw])(c:ϲN 0=Î ϰf Ϸw)(K:∀k,ċ->0<k->Ě=[])
  (g:ů=ϷC (ĳ 97) 1) (o:∀k,ċ->0<k->ô=⟨0,ĳ 99,1⟩):ø=ϨU:=by
 let he:=G.he;let h:=϶Y;let L:ϱo 100:=þ G.len
 let g1:ř:=Á
 let C:=ϴG;let hr:∀k,ċ->ϰg=0:=λk H=>by
  delta rL;rcases Zah k with z|z
  .subst z;rw[g];rfl
  rw[o k H z];rfl
 let R:∀k,ċ->gv ϥT k=0:=϶K (ϲ5 (iI H) (hr k H))
 let out:∀k,ċ->0<k->ϐC k=ϫ7:=λk H M=>by rw[vU D0 he h L H,Os<|K k H M,Zw];delta ini;rw[R k H];rfl
 let cne:ϲN 0≠[]:=by
  rw[c];ext z;let:=Ŧ z;rw[I4,Z1]at this;simp at this;lia
 let v:=ϫM h L cne;let O:Î (ϲN 0) ϐC=ϪE ϫ7:=by
  rw[c,Tk];apply K9K;ext i;rw[Oe,K8Z];by_cases hi:i<n
  .rw[Ϲ1,Os hi]
   change Â (ϐC<|i+1)=_;rw[out (i+1) Á Á]
  rw[K9c (ñ Z1),P3 hi];rfl
 rw[O]at v;let A:∀i j,i<j->j<n->dO D0 (ϪE ϫ7) i j=ϵ9:=λi j Z J=>by
  delta dO;rw[K8Z,K8Z,Os Á,Os J];change ϴR ϫ7 ϫ7=_;rw[A0];change nz [É 0+ϵ9-0]=_;let:=(dS (xs:=[É 0+ϵ9-0]) ϲI).1;rw[K95]at this;lia
 let Y:=M0 v (ϱ8 K8r) ϵ9 Á A;let S:∀i,i<n->϶c (i+1)=Ċ*ϵ9-(Ð (n-1)*ϵ9) / 2:=λi hi=>by
  let gi:û (ϲN 0)=Â (i+1):=by rw[c,Oe,Ϲ1];rfl
  rw[ϹJ h L Á gi,tE,O,Y i hi,K8R]
 let X:D0+1=ϴb:=Á
 let xs:∀a:Nat,ϲs*ϵ9=256*Ð (a*s):=λa=>by rw[X,Int.natCast_mul,<-Zdt,Int.mul_comm ϲs 256,Zdt]
 let S:∀i,i<n->϶c (i+1)=256*Ð (i*s)-128*Ð ϰG:=λi hi=>by
  rw[S i hi,xs,xs];change _-256*Ð ϰG / 2=_;lia
 let le:Ć ts.length (λk=>϶c k-Ϲe)≠[]:=λz=>by
  let:=Ŧ z;rw[I4,Z1,K8U]at this;lia
 let u:=tE (ts:=ts) (D0:=D0);let least:ϫN=-128*Ð ϰG:=by
  let ms:=mM le;let a:ϫN<=϶c 1-256*gv ϥT 1:=ms.2 _<|ϱ6 ⟨1,ϥ6 Á,rfl⟩;let b:=S 0 Á;rw[Nat.zero_mul]at b;let b:϶c 1=256*Ð 0-128*Ð ϰG:=b;rw[R 1 Á]at a;let(k,H,e):=Β ms.1;let H:=ϥm;let e:϶c k-Ϲe=ϫN:=e;rw[R k H]at e;rcases Zah k with z|z
  .subst z
   lia
  let q:=S (k-1) Á;rw[ó (k-1+1=k)]at q;lia
 let cr:Þ 0=ϰl:=by
  delta cN;rw[pf h Á,u,least];lia
 let D:∀i,i<n->Þ (i+1)=i*s:=λi hi=>by
  delta cN;rw[pf h Á,S i hi,least];lia
 let bel:ĉ 0=Î ϰf (· *s):=by
  delta aR;rw[c,Tk];apply Zt;ext i hi;show D i ό2
 let U:bD (ĉ 0)=0:=by
  delta bD;rw[bel,Oe,K9Z Á];change 0*s=0;lia
 let y:gj (ĉ 0)=ϰG:=by
  delta gj;rw[bel,I4,Z1,Oe,K9Z Á];rfl
 let bm:∀p,p<=ϰG->(p∈ĉ 0↔p%s=0):=λp P=>by
  rw[bel,Zc];constructor
  .rintro⟨i,_,rfl⟩
   show Zde _ _
  ext q;let W:Ϥf*s=p:=ϔY this
  apply(Ϥf,ϥ6 ?_,W);apply Zaf;ext z;let:n*s<=Ϥf*s:=Zax s Á;obtain⟨m,rfl⟩:∃m,n=m+1:=⟨n-1,Á⟩
  delta Zf at P;rw[K8J]at P;rw[Zeb,Zcx]at this;lia
 let bar:jS (Þ 0) (ĉ 0)=Ć (ϰG+1) (oH ϰl s):=by
  delta jS;rw[U,y,Zbf,cr];apply Zt;ext p P;let P:=Zl.mp P;let q:=bm p Á;rw[K87];delta eh oH;simp only[q]
 let T:∀k,ċ->(ô).t=1:=λk H=>by
  rcases Zah k with z|z
  .subst z;rw[g]
  rw[o k H z]
 let tz:∀l r,ľ->ϳA r=[]:=λl r d=>by let(k,H,e):=Ei G d;rw[T k<|(G.lv d).1.lt k H]at e;delta cV hiT;rw[<-e];rfl
 let E:ò[0]?=Â [0]:=ϑ9
 let f:ò[1]?=Â (Î ϰf Ϸw):=ϑ9
 let B:ϷQ ts [0]=[sS<|Ć (ϰG+1)<|oH ϰl s]:=by
  let q:cP ts [0]=[0]:=ϰM cP K8O (Os<|Tl<|þ (϶O cne))
  delta a_ d8;rw[q,P3 ϲI,W1,K9D];delta nv;rw[U,bar];let e:Ć (ϰG+1) (oH ϰl s)=Ć ϰG (oH ϰl s)++[oH ϰl s ϰG]:=ϲ5 K8A Z6
  rw[e,nR (bj _) (by delta oH;split<;>split<;>decide),Zat,K9B]
 let x:ϷQ ts (Î ϰf Ϸw)=[]:=by
  delta a_;rw[Os];delta cP;rw[List.filter_eq_nil_iff];ext k H;let(i,hi,rfl):=ϴa;let hi:=ό2;rw[K (i+1) Á Á];decide
 let Q:S3 (όs [0])=sS (ŗ ϰl 32++[97]):=by
  delta bp;rw[W1,K9D,cr,hr 0 Á,g,Zbf,ώF 97 Õ];rfl
 let V:όs (Î ϰf Ϸw)=϶r:=by
  delta bp fu;rw[Tk];apply Zt;ext i hi;let hi:=ό2;change(Þ (i+1)-ϵK (i+1),(ϫV<|i+1).l)=_;rw[D i hi,hr (i+1) Á,o (i+1) Á Á,Zbf]
 rw[jA];delta lvX;rw[N,W1,W1,K9D,tz 0 _ E,tz 1 _ f,B,x,Q,V,zw Á I];rfl
end
theorem Ow{n s:Nat}(h:n=38\/n=39)(S:2<=s)(w:s<=20):Ϫd ϵD (ϴb-1) ϨU:=by
 let ln:∀n,Ã ϵD=n+1:=λn=>ν gx Zo K8r
 let nd:∀n k,k<Ã ϵD->0<k->au ϵD k=⟨0,ĳ 99,1⟩:=λn k H k0=>by
  rw[ln]at H;obtain⟨j,rfl⟩:∃j,k=j+1:=⟨k-1,Á⟩
  delta au gx;rw[Zaj,K8Z,Os Á];rfl
 let key:∀n,2<=n->n<=39->(K1 ϵD=[[0],Î ϰf Ϸw])->(G0 ϵD 0=Î ϰf Ϸw)->(∀k,k<n+1->0<k->G0 ϵD k=[])->Ϫd ϵD (ϴb-1) ϨU:=λn N i a b d=>by
  let(way,g,_):=Ed n;let(c,G):=FT g (ñ ln);show(Lu G N S rfl Á (ln n) a b (϶K<|d k<|by rw[ln]at H;show H) rfl<|nd n,c,G)
 rcases h with rfl|rfl
 .exact key 38 Õ Õ ç ç ç
 show key 39 Õ Õ ç ç ç
theorem BS{n s:Nat}(N:2<=n)(u:n<=50)(w:2<=s)(y:s<=20):ki [Ä Ł,Ä<|ϴb-1]=ψ (aC ϨU):=by
 delta ki nj;let wl:ϰG<=990:=by
  delta Zf;let a:(n-1)*s<=49*s:=Zax s Á;lia
 let e1:ϴb-1+1=ϴb:=Á
 let E:Ł-1=Ð (n-1):=Á
 let l:ϴb*Ð (n-1)=Ð ϰG:=ν Zf Int.natCast_mul Int.mul_comm
 let o:256*Ð ϰG / 2 / 256=Ð ϰl:=Á
 let q:Ð ϰG+1=Ð (ϰG+1):=Á
 let M:o6 ϴb (Ð (n-1))=true:=CP Á Á;let S:ϱ1 ((Ð (ϰG+1))):=θ Á;let p:(É 0<ϴb)=True:=ϰr Á;let T:Ϥq ϴb:=ϰr Á;let t:è ""=ϸW:=ç
 let z:è " "=Ϭj:=ç
 let C:è "c"=chS 99:=ç
 let Z:è "-"=chS 45:=ç
 let e:è "+"=chS 43:=ç
 let g:è "^"=chS 94:=ç
 let K:è "#"=chS 35:=ç
 let A:è "a"=chS 97:=ç
 simp![e1,E,M,l,o,q,S,t];generalize L:Ŋ=r';apply Ϸf (λi k=>∃v6 v:Ú OD,k=[æ<|Ä Ł,æ<|Ä<|ϴb-1,æ<|Ä (Ð ϰG),æ<|Ä (Ð ϰl),æ<|Æ<|sS<|Î ϶u<|oH ϰl s,æ<|Æ<|sS<|Î ϶u ϸY,v6,v]) ϸb
 .rintro i d k hd ⟨v6,v,rfl⟩
  let(hi,rfl):=ϷK;rw[K9n]at hi;rw[K8R];let O:Ċ%ϴb=Ð (i%s):=(Int.natCast_emod i s).symm;let nx:∀f:Ϩm,Ć (i+1) f=Î ϶u f++[f i]:=λf=>ϲ5 K8A Z6
  let lb:∀(f:Ϩm)(c:Nat),ü (Ã (sS<|Î ϶u f)+Ã (chS c)):=λf c=>ax (by
   rw[bS,bS,bj,I4,Z1];change ϱT (i+1)
   lia)
  rw[nx,nx];by_cases h:i%s=0
  .let b:Ë (Ð (i%s)=0)=true:=Tl Á
   by_cases H:i=ϰl
   .let D:Ë (Ċ=Ð ϰl)=true:=Tl Á
    let j:ϸY i=99:=Ÿ;let G:oH ϰl s i=35:=ν oH ϱh Ÿ
    rw[j,G];simp![e1,p,T,O,b,D,z,C,Z,e,g,K,lb,kq];show(_,_,rfl)
   let D:å (Ë (Ċ=Ð ϰl)):=Pi Á;let j:ϸY i=99:=Ÿ;let G:oH ϰl s i=43:=ν oH ϱz Ÿ
   rw[j,G];simp![e1,p,T,O,b,D,z,C,Z,e,g,K,lb,kq];show(_,_,rfl)
  let b:å (Ë (Ð (i%s)=0)):=Pi Á;by_cases H:i=ϰl
  .let D:Ë (Ċ=Ð ϰl)=true:=Tl Á
   let j:ϸY i=32:=χ;let G:oH ϰl s i=94:=ν oH ϱh χ
   rw[j,G];simp![e1,p,T,O,b,D,z,C,Z,e,g,K,lb,kq];show(_,_,rfl)
  let D:å (Ë (Ċ=Ð ϰl)):=Pi Á;let j:ϸY i=32:=χ;let G:oH ϰl s i=45:=ν oH ϱz χ
  rw[j,G];simp![e1,p,T,O,b,D,z,C,Z,e,g,K,lb,kq];show(_,_,rfl)
 ext ρ' rfl ⟨v6,v,rfl⟩;rw[fI,K9n];let m:=HU (x:=Ϭj) (n:=(Ð ϰl)) (L0 1) Á Á;let r:Txt.mul Ϭj (Ð ϰl)=sS (ŗ ϰl 32):=by
  apply PK;let:=ϖ0 ((Ð ϰl));rw[K9n]at this;show this
 rw[r]at m;let lb:ü (Ã (sS<|ŗ ϰl 32)+Ã (chS 97)):=ax (by
  rw[bS,bS,bj,K8r];change ϱT (_+1)
  lia)
 simp![z,m,A,lb,kq];rfl
theorem S9:∀(r:Ó)(a b:Nat),ϭV->(϶B<|a<=k/\k<b)->a<=b->r.length<=b-a:=by
 ext r
 induction r with
 |nil=>ext a b _ _ _;show Ν
 |cons x r ih=>
  ext a b p h ab;let(T,P):=Ϗk;let X:=h x Uf;let:=ih (x+1) b P (϶K ⟨T k H,(h k<|Ą H).2⟩) Á;rw[Zo];lia
section
variable{vs:À Nd}{c1:F}{D0:Int}
theorem MU(H:ϹK):Ã ϳI<=9:=by
 let nl:=ώY;let nl:0<Ã ϳI:=nl;obtain⟨r,hr⟩:∃r,ϳI[Ã ϳI-1]?=ϱx:=ϰc Á
 let(L,U):=ϨN;let(k,_,e):=Zac U;let h:ϳO:=ϵ1 Uf
 let a:=H.dp k<|ϱr h;let b:=(Ϯq h).2;lia
theorem Nv(H:ϹK){l m:Nat}(h:l<=m)(M:m<Ã ϳI):ϥj l<=ϥj m:=by
 rcases Nat.eq_or_lt_of_le h with e|e
 .rw[e];show ß
 obtain⟨r,hr⟩:∃r,ϳI[l]?=ϱx:=ϰc Á
 let:=ϓ2 H e Á r hr;lia
theorem FR:ϥj 0=0:=rfl
theorem OH(H:ϹK)(g1:ř)(g2:ţ){S:À Str}(h:Ϥ8=S)(s:∀k,k<10->∃w,S[2*k]?=ϰh/\ϳP):False:=by
 let C:=Ϫ8;subst h;let go:∀k,k<10->∃l,k<=l/\l<Ã ϳI/\ϥj l=2*k:=by
  ext k
  induction k with
  |zero=>ext _;let nl:0<Ã ϳI:=ώY;show(0,ß,nl,rfl)
  |succ k ih=>
   ext K;let(l,c,L,e):=ih Á;let(w,W,lw):=s (k+1) K;let(m,r,hr,em,_):=zK H C W lw;let M:=(ϲ8 hr);apply(m,?_,M,em.symm);apply Zaf;ext z;let:=Nv (D0:=D0) H (ó<|m<=l) L;lia
 let(l,a,b,_):=go 9 Õ;let:=MU H;lia
theorem OE(H:ϹK)(g1:ř)(g2:ţ){n s:Nat}(N:40<=n)(S:2<=s)(h:Ϥ8=ϨU):False:=by
 let C:=Ϫ8;let e:=zw (n:=n) (s:=s) Á S;let b:Ϥ8[2]?=Â (S3 ϶r):=by rw[h,e];rfl
 let mem:ϰC 99∈cs (S3 ϶r):=by rw[e,bj];show ϱ6 ⟨0,ϥ6 Á,Ň sQ (Os<|Nat.zero_mod _)⟩
 let(l,r,hr,E,a):=zK H C b ⟨99,mem,Õ,Õ⟩;let cl:=n8 H C hr;rw[<-a]at cl;let(L,f):=ϨN;let wl:Ã (wdS<|S3 ϶r)=n:=by
  let go:=B8 (n:=n) S;let(u,U,_,m,_):=kG<|ĥ ϶r;let w:=yF<|S3 ϶r;let c:cs (S3 ϶r)=u:=by delta S3;rw[U,bj]
  rw[c,m,B1 _ _ go]at w;let w:=Ŧ w;rw[I4,I4]at w;rw[w];let:ļ ϶r nbP=϶r:=ϏX (λx X=>by delta fu at X;let(i,_,rfl):=Β X;rfl)
  rw[this];delta fu;rw[I4,Z1]
 let R:r.length=n:=by let:=Ŧ cl;delta oF at this;rw[I4,I4,wl]at this;show this.symm
 let Z:϶B (1<=k/\k<40):=λk K=>by
  let W:=(Ϯq K).2;let d:=ϱr K;let:=H.len;apply(?_,Á);apply Zaf;ext z;let:k=0:=Á
  subst this;rw[fE H.he d]at W;subst W;rw[FR]at E;cases E
 let:=S9 r 1 40 L.pw Z Õ;lia
theorem Od(H:ϹK)(g1:ř)(g2:ţ){w:Str}(W:10<=Ã â)(b:∀c∈â,ϴA)(h:Ϥ8=[w]):False:=by
 let C:=Ϫ8;let d:Ϥ8[0]?=ϰh:=by rw[h];rfl
 obtain⟨t,a,e,A⟩:∃t a,â=t++[a]/\a≠32:=by
  let n:â≠[]:=ϖP
  apply((â).dropLast,(â).getLast n,ϵQ (Zbm n),?_);let:=b _ ϙk;lia
 let i:ϳP:=by
  let:a∈â:=ϵ1 (ũ Uf)
  show(a,this,b a this)
 let(l,r,hr,_,E):=zK H C d i;let(L,U):=ϨN;let X:=LJ C H.lb L;rw[<-E]at X;let ws:wdS w=[(0,w)]:=by
  let q:=yF w;rw[sA _ (λz=>þ (b 32 z)),paL,paL,P3 ϖP,Zw]at q;let:[(0,â)]=Î [(0,w)] λx:Pt=>(x.1,đ):=rfl;rw[this]at q;show JA q
 rw[ws]at X;let(k,R,rfl):=Zac U;delta bp at X;rw[W1]at X;let:=(K8C X).1;injection this with _ q
 let:=H.lb _<|gL<|ϱr Uf;let:=this.2.1;rw[<-q,bS]at this;lia
theorem Np(H:ϹK)(g1:ř)(g2:ţ){w:Str}{n:Nat}(N:9<=n)(h:Ϥ8=w::ϪE (ĳ 58)):False:=by
 let C:=Ϫ8;let nl:0<Ã ϳI:=ώY;let o:Ã ϳI=1:=by
  apply Zaf;ext z;obtain⟨b,a⟩:∃b,ϳI[0]?=ż:=ϰc nl;obtain⟨r,hr⟩:∃r,ϳI[1]?=ϱx:=ϰc Á
  let p:=ϻc hr<|iu r;let s:ϥj 1=_:=oY (D0:=D0) a;rw[n6,FR]at s;obtain⟨j,J⟩:∃j,ϥj 1+0=j+1:=⟨ϥj 1-1,Á⟩
  rw[J,h,Zaj,K8Z]at p;split at p
  .let(c,hc,m):=uN H C hr
   rw[<-Zz p,bj,K95]at hc;lia
  cases p
 obtain⟨r,hr⟩:∃r,ϳI[0]?=ϱx:=ϰc nl;let e:cP vs r=[]:=by
  apply Zaf;ext z;let(d,R):=xA H hr z;let:=(Za.mp R).1;lia
 let nm:ϳI=[r]:=by
  apply K9K;ext i;cases i with|zero=>show hr|succ i=>rw[K9c Á];rfl
 let ln:=Ϯu vs r;rw[ϳS]at ln;let l:=Ŧ h;delta Rs jC at l;rw[nm,Zan,Zck,Zw,I4,ln,Zo,K8r]at l;let t:=xG H.tl (ϨN).1.lt (ϨN).2;delta hiT at l;lia
theorem K6(H:ϹK)(g1:ř)(g2:ţ){S:À Str}(s:∀w,S[0]?=ϰh->â=[])(h:Ϥ8=S):False:=by let(w,W,c,hc,_):=(H.picF g1 g2).1.ne;rw[h]at W;rw[s w W]at hc;cases hc
end
def Hand(D0:Int)(S:À Str)(s:À Nd)(good:Bool):Prop:=(good=true/\∃c,Gd s c/\ϥu=S)\/(good=false/\ϸX/\Ϭ5)
theorem oR{S:À Str}(h:Ϧm ((ϱI â)/\Ã â<=2000))(a:ϱT S.length):ϸX:=⟨λw H=>(h w H).1,λw H=>þ (h w H).2,a⟩
def Iq(w:Str):Bool:=(â).any λc=>Ë ϴA
theorem UQ{w:Str}(h:Iq w=true):ϳP:=by delta Iq at h;let(c,hc,m):=List.any_eq_true.mp h;show(c,hc,of_decide_eq_true m)
theorem GB{n s:Nat}(N:38<=n)(b:n<=41)(S:2<=s)(d:s<=10):Hand (ϴb-1) ϨU ϵD (Ë<|Ł<=39):=by
 by_cases h:Ł<=39
 .let(a,c,G):=Ow (n:=n) (s:=s) Á S Á
  show È ϐB
 let wl:ϰG<=990:=by
  delta Zf;let a:(n-1)*s<=40*s:=Zax s Á;lia
 apply Ñ (Ϯl όl (Ϥy<|ϱT 3) (OE H Á Á Á S e));delta vn at W;simp only[Z7,K8P,or_false]at W;rcases W with rfl|rfl|rfl
 .rw[bj]
  apply(ϲk,Ϯm K8r);rcases Y7.mp hc with hc|hc
  .rw[(Ϥk hc)];decide
  rw[K95.mp hc];decide
 .rw[bj]
  apply(ϲk,ξ I4 Z1);let(i,_,rfl):=Β hc;delta oH;split<;>split<;>decide
 rw[bj];apply(ϲk,ξ I4 Z1);let(i,_,rfl):=Β hc;delta sQ;split<;>decide
theorem Gn{m:Nat}(M:8<=m)(Q:m<=11){D0:Int}(g1:ř)(g2:D0<=9):Hand D0 Ϧn ϩn (Ë<|Ι<=9):=by
 by_cases h:Ι<=9
 .let(a,c,G):=Nq (m:=m) (D0:=D0) Á g1 Á
  show È ϐB
 let all:(∀w∈Ϧn,(ϱI â)/\Ã â<=2000)/\ϱT (Ã Ϧn)/\∀k:Fin 10,ϏY (2*k.val):=by
  let:m=10\/m=11:=Á
  rcases this with rfl|rfl
  .exact(ç,ç,ç)
  show(ç,ç,ç)
 apply Ñ (Ϯl all.1 all.2.1 (OH H g1 Á e λk K=>?_));let q:=all.2.2 ⟨k,K⟩;cases e2:Ϧn[2*k]? with
 |none=>have q:ϏY (2*k):=q;rw[e2]at q;cases q
 |some w=>have q:ϏY (2*k):=q;rw[e2]at q;show(w,rfl,UQ q)
theorem Gz{m:Nat}(M:8<=m)(Q:m<=11){D0:Int}(g1:ř)(g2:D0<=9){w:Str}(W:â=ý [97,98,99,100,101,102,103,104,105,106,107] m):Hand D0 [w] [⟨-1,w,1⟩] (Ë<|Ι<=9):=by
 let wl:Ã â=m:=by rw[W,Zk];change min m 11=m;lia
 let Y:∀c∈â,ϴA:=λc hc=>by
  rw[W]at hc;exact(by decide:∀c∈[97,98,99,100,101,102,103,104,105,106,107],ϴA) c<|Zak hc
 by_cases h:Ι<=9
 .let ok:mQ w:=⟨ñ bS,ñ bS,Y⟩
  let(a,c,G):=E3 (n:=⟨-1,w,1⟩) rfl ⟨ok,Zao 1,(Õ:É 1<=9)⟩ g1 Á;show È ϐB
 apply Ñ (Ϯl Ϫ7 (Ϥy<|ϱT 1) (Od H g1 Á Á Y e));rw[K95.mp V];show(ϴp (þ (Y c hc)),Á)
theorem GR{m:Nat}(M:8<=m)(Q:m<=11){D0:Int}(g1:ř)(g2:D0<=9):Hand D0 (ĳ 98::ŗ (m-1) (ĳ 58)) [ϷC (ĳ 98) Ι] (Ë<|Ι<=9):=by
 by_cases h:Ι<=9
 .let(a,c,G):=E3 (n:=(ϷC (ĳ 98) Ι)) rfl ⟨okl 98 Á,ϱG (É 1<=Ι),h⟩ g1 (ó ţ)
  apply È ⟨ϵc,c,G,?_⟩;rw[a];let e:ā (Ι-1)=m-1:=Á
  let r:rL [ϷC (ĳ 98) Ι] 0=0:=by
   delta rL;change Ã (ĳ 98) / 2=0;decide
  change ĳ 98::ŗ ((ā (Ι-1))) _=_;rw[e,r];rfl
 apply Ñ (Ϯl Ϫ7 (ξ Zo K8r) (Np H g1 Á Á e));rcases Z7.mp V with rfl|V
 .exact(Õ,Õ)
 rw[(Ϥk V)];show(Õ,Õ)
theorem qM{D0:Int}(g1:ř)(g2:D0<=9){S:À Str}(h:S=[]\/S=[ϸW]\/S=[ϸW,ϸW]\/S=[ϸW,ĳ 97]):Hand D0 S [] false:=by
 let em:∀w,S[0]?=ϰh->â=[]:=λw W=>by
  rcases h with rfl|rfl|rfl|rfl
  .cases W
  .cases W;rfl
  .cases W;rfl
  cases W;rfl
 apply Ñ ⟨rfl,?_,λT c H e=>K6 H g1 Á em e⟩;rcases h with rfl|rfl|rfl|rfl
 .exact ϛT Ν
 .exact oR Õ Õ
 .exact oR Õ Õ
 show oR Õ Õ
theorem B9(z:Int)(J:0<=z):∃S U good,gZ [Ä z]=Ď [.sh<|Ö ϱy,.sh<|Ö<|ar U,.sh<|í good]/\Hand ϻf S U good:=by
 delta gZ nU;obtain⟨m,M⟩:∃m:Nat,8+z%4=Ι:=⟨ā (8+z%4),Á⟩
 let g:8<=m:=Á
 let Q:m<=11:=Á
 let g1:1<=ϻf:=Á
 let g2:ϻf<=9:=Á
 let A:è "a"=ĳ 97:=ç
 let B:è "b"=ĳ 98:=ç
 let F:è "c"=ĳ 99:=ç
 let G:è "k"=ĳ 107:=ç
 let Z:è ""=ϸW:=ç
 let v:ϰe (è "abcdefghijk")=ώk:=ç
 let p:ü (Ã (è "abcdefghijk")):=ax ç;let k5:ϫ8=0\/ϫ8=1\/ϫ8=2\/ϲd ϫ8 3 4:=Á
 rcases k5 with h|h|h|h|h
 .obtain⟨s,o⟩:∃s:Nat,ϻf=ϴb-1:=⟨ā (2+z / 20%9),Á⟩
  let E:É 30+Ι=Ð ϷD:=Á
  let T:=BS (n:=ϷD) (s:=s) Á Á Á Á;let r:=sN (ä [Ä 0,Æ<|ĳ 99,Ä 1]) ϷD Á;let tr:[ϰx [Ä<|-1,Æ<|ĳ 97,Ä 1]]++ŗ ϷD (ϰx [Ä 0,Æ<|ĳ 99,Ä 1])=ar (gx ϷD):=by delta ar gx;rw[W1,Zbl];rfl
  let lb:ü (ϰC 1+Ã (ŗ ϷD<|ϰx [Ä 0,Æ<|ĳ 99,Ä 1])):=ax (ñ K8r);let H:=GB (n:=ϷD) (s:=s) Á Á Á Á;rw[<-o]at H;apply(vn ϷD s,gx ϷD,_,?_,H);let t:ϰx [Ä<|-1,Æ<|ĳ 97,Ä 1]::ŗ ϷD (ϰx [Ä 0,Æ<|ĳ 99,Ä 1])=ar (gx ϷD):=tr;simp![M,h,E,A,F,r,aG,lb,t,o,T]
 .let ln:=Cc (m:=m) Á Q
  let em:Ι-1=Ð (m-1):=Á
  let i:ϱ1 ((Ð (m-1))):=θ Á;let D:∀a0 f w x:Ú OD,f=Â (.sh<|Ä Ι)->Η iR1 (Ò eA 1<|Ê 1) cO (dZ<|Ï 0<|ae (Ż (eC<|Æ "abcdefghijk") ð)<|Ő (Ê 1)) 1 [] [a0,f,w,x]=ψ (Ć (m-1) (Ģ (ϰx [Ä á,Æ ϧQ,Ä 1]))):=λa0 f w x y=>by
   subst y;simp![em,i];generalize C:Ů=rc
   let e:=cU C (Ģ<|ϻ6 á) (Ģ<|ë<|ϰx [Ä á,Æ ϧQ,Ä 1]) (ŷ<|m-1) (ϱJ K9n) (Ù Z1<|Ş Á) (by
    ext k K;let K:=Zl.mp K;rw[K8R];let I:Y9 (ϰe (è "abcdefghijk")) á=Â (97+k):=by
     rw[v];let:∀j:Fin 10,ϔ6=Â (97+j.val):=Õ
     show bZ<|this ⟨k,Á⟩
    simp![p,I,Zai];rfl)
   subst e;simp![Y2];rw[Tk];rfl
  let tr:ϰx [Ä<|-1,Æ<|ĳ 107,Ä 1]::(Ć (m-1) (Ģ (ϰx [Ä á,Æ ϧQ,Ä 1])))=ar ϩn:=by
   obtain⟨j,rfl⟩:∃j,m=j+1:=⟨m-1,Á⟩
   delta ar fM;rw[K8J,List.range_succ_eq_map,W1,W1,Tk,Tk];apply congr (Zh _ rfl)<|Zt λk _=>?_;change ϰx [Ä á,Æ ϧQ,Ä 1]=ϰx [Ä<|Ð (k+1)-1,Æ<|lnL<|k+1,Ä 1];let a:Ð (k+1)-1=á:=Á
   let b:lnL (k+1)=ϧQ:=by
    delta lnL;rw[P3 Á]
    congr 2
    lia
   rw[a,b]
  let lb:ü (ϰC 1+Ã (Ć (m-1) (Ģ (ϰx [Ä á,Æ ϧQ,Ä 1])))):=ax (ξ I4 Z1);let l:ü (ϰC 1+Ã (ŷ<|m-1)):=ax (ñ Z1);apply(Ϧn,ϩn,_,?_,Gn g Q g1 g2);simp![M,h,↓D,G,aG,lb,l,tr,ln]
 .let u:=xU (è "abcdefghijk") m (by let:Ã (è "abcdefghijk")=11:=ç;lia)
  let L:cs (è "abcdefghijk")=ώk:=v;rw[L]at u;apply(_,_,_,?_,Gz g Q g1 g2 u);simp![M,h,p,vk];rfl
 .let em:Ι-1=Ð (m-1):=Á
  let r:=sN (Æ<|è ":") (m-1) Á;let lb:ü (ϰC 1+(ŗ (m-1)<|ϹH<|è ":").length):=ax (ñ K8r);let tr:ϹH (ĳ 98)::ŗ (m-1) (ϹH<|è ":")=aC (ĳ 98::ŗ (m-1) (ĳ 58)):=by delta aC;rw[W1,Zbl,s58]
  apply(_,_,_,?_,GR g Q g1 g2);simp![M,h,B,em,r,aG,lb,tr];rfl
 let R:z%4=0\/z%4=1\/z%4=2\/z%4=3:=Á
 let x:∀a b c d:Go,Y9 [a,b,c,d] 3=Ω:=λ_ _ _ _=>rfl;rcases R with q|q|q|q
 .apply(_,_,_,?_,Ϯi<|È rfl)
  simp![h,q,Z,A];rfl
 .apply(_,_,_,?_,Ϯi<|Ñ<|È rfl)
  simp![h,q,Z,A];rfl
 .apply(_,_,_,?_,Ϯi<|Ñ<|Ñ<|È rfl)
  simp![h,q,Z,A];rfl
 apply(_,_,_,?_,Ϯi<|Ñ<|Ñ<|Ñ rfl);simp![h,q,Z,A,x];rfl
theorem Dt(z:Int)(Z:0<=z):eX [Ä z]=Ý (í true):=by
 delta eX jP;let(S,s,good,M,H):=B9 z Z;let g1:1<=ϻf:=Á
 let g2:ϻf<=20:=Á
 let em:ϐz [.sh<|Ö ϱy,.sh<|Ö<|ar s,.sh<|í good]=[Ö ϱy,Ö<|ar s,í good]:=by rw[W1,W1,W1,K9D,aW,aW,aW]
 rcases H with⟨rfl,c,G,rfl⟩|⟨rfl,p,no⟩
 .let R:=ϒg
  let g:=vC s G.as (þ G.len);let f:=(ϤM).2;let lb:ü (Ã (aC<|Rs s ϻf)):=ax (ñ aV);generalize aC (Rs s ϻf)=P at*;simp![M,em,P0,lb,aG,R,g]
 let r:=kU p g1 g2 no;simp![M,em,P0,r]
theorem TH(k:Fin 26):å (Unicode.isSpace (97+k.val)):=ώ6
theorem Q5(a:Nat)(t:Ó)(h:∀c,t.head?=ã->ϴA):Txt.lstrip ϺA=ŕ:=by
 delta Txt.lstrip;rw[PyProof.Rows.stripBy_eq];let l:stripLo Unicode.isSpace true ϺA=a:=by
  delta stripLo;rw[ė];change Ã ((cs ϺA).takeWhile _)=a;rw[bj,Dk ϲk ϲk,K8r]
  .rw[(Ϥk hc)]
   decide+kernel
  let:=ϨT;let q:=TH ⟨c-97,Á⟩;let e:97+(c-97)=c:=Á
  let q:å (Unicode.isSpace (97+(c-97))):=q;rw[e]at q;show q
 let hi:stripHi Unicode.isSpace false ϺA a=Ã ϺA:=rfl;rw[l,hi];apply gA;change(όv ϺA a (Ã ϺA)).toList=cs ŕ;rw[Zbb,List.extract_eq_drop_take,bS];change ý ((cs ϺA).drop a) _=_;rw[bj,bj,S5,K8r,ó (a+t.length-a=t.length),List.drop_append,K8r,K8c,Zbj (Ù K8r ß),K9B,Zcv,K90 ß]
section
variable{ts:À Nd}{c0:F}{D0:Int}
theorem OK(G:Ĩ):ò[0]?=Â [0]:=by
 let h:=϶Y;let nl:0<Ã ò:=(όX h).1;obtain⟨r,hr⟩:∃r,ò[0]?=ϱx:=ϰc nl;let:r=[0]:=by
  apply DD (ϥD).1.pw (Zcy _ _) ϥC;rw[ϫ6 hr,K95];constructor
  .rintro⟨a,b⟩
   apply Zaf;ext z;let(e,e1,_):=BF G.he a Á;let:=ϨM e1;lia
  ext rfl;show(h,fE G.he h)
 rw[hr,this]
theorem xh(G:Ĩ):ø=S3 [(Þ 0-ϵK 0,(ů).l)]::(ϳA [0]++ϷQ ts [0]++aE (ϰD ϵs 1)):=by
 let h:=Am (D0:=D0)<|OK G;obtain⟨x,X,e⟩:∃x X,ϵs=Ϲ7:=ϖr;rw[jA,e];rw[e]at h;cases h;rfl
theorem DB(G:Ĩ){L:Str}(b:L.length=ϱt ů)(ok:mQ L){s:À Nd}(U:s=⟨-1,L,(ů).t⟩::ϧT):Gd s c0/\ϥu=S3 [(Þ 0-ϵK 0,L)]::ϰD ø 1:=by
 let h:=϶Y;obtain⟨n,r,rfl⟩:∃n r,ts=Ϸz:=ϖr;subst U;let he:ϥS:=by let:=((G.he 0 n) rfl).1 rfl;show this
 let b:L.length=n.l.length:=b;let sm:Sm Ϸz ϵT:=by
  apply(?_,?_)
  .rw[W1,W1,he]
  delta cy;rw[W1,W1,b]
 let G2:Gd ϵT c0:=G.sm sm λm M=>by
  rcases Z7.mp M with rfl|M
  .exact(ok,(G.ok n Uf).2)
  show G.ok m<|Ą M
 apply(G2,?_);let nd:∀k,Ϸj ϵT=Ϸj Ϸz:=λk=>ϐx
 let nl:∀k,0<k->ύO ϵT=ύO Ϸz:=λk H=>by
  cases k with|zero=>lia|succ k=>rfl
 let a:cV ϵT D0=cV Ϸz D0:=funext λq=>by
  let e1:∀i,eg ϵT D0 q i=eg Ϸz D0 q i:=λi=>by
   let j:∀k,sgS ϵT k i=sgS Ϸz k i:=λk=>ν sgS nd sm.ch
   delta eg;rw[sm.cN];apply Zt;ext k _;rw[j]
  let g:hiT ϵT q=hiT Ϸz q:=by delta hiT tlM;rw[Zt λk _=>nd k]
  delta cV;rw[g];apply Zt;ext i _;rw[e1]
 let bar:ϷQ ϵT=ϷQ Ϸz:=funext λq=>ν a_ sm.eld sm.bar
 let rest:ϰD (lvX ϵT D0) 1=ϰD (lvX Ϸz D0) 1:=by
  delta lvX;rw[sm.K1,a,bar,<-Zcz,<-Zcz];apply Zt;ext q Q;let(i,hi):=Zaa Q;rw[K85]at hi;let e:bp ϵT D0 q=bp Ϸz D0 q:=by
   delta bp;apply Zt;ext k H;let K:=(G.lv hi).1.lt k H;let W:=((ϫ6 hi).mp H).2;let k0:0<k:=by
    apply Zaf;ext z;let:k=0:=Á
    subst this;rw[fE G.he K]at W;lia
   rw[sm.cN,sm.rL K,nl k k0]
  rw[e]
 change Rs ϵT D0=_;rw[xh G2,xh G,a,bar,rest,sm.cN,sm.rL h];rfl
theorem x_(G:Ĩ)(g1:ř)(g2:ţ)(z:Int):fJ [Ö<|aC ø,Ö Μ,Ä D0,Ä z]=Ý (í true):=by
 delta fJ kR;let i:=϶Y;let hl:=G.len;let N:=(ϤM).2;let wd:=(ϤM).1;let ok:=ϯH<|gL i;let g:=xh (D0:=D0) G;let(t,a,e,T):=z_ ok.1;let row:=nR (c:=Þ 0-ϵK 0) e T;rw[<-e]at row;rw[row]at g;let n:0<Ã ø:=ξ g Zo
 let b:=vh n;let W:y_ ø 0=sS (ŗ (Þ 0-ϵK 0) 32++ϲA ů):=ϱl y_ g
 let u:=wd _<|Ts<|fA n;rw[W]at b u;rw[bj,S5,K8r]at u;let b:Y9 (aC ø) 0=some (Æ<|sS<|ŗ (Þ 0-ϵK 0) 32++ϲA ů):=b;let t0:Y9 Μ 0=Â (ä [Ä (ů).e,Æ (ů).l,Ä (ů).t]):=tP i;let V:=bS (ů).l;let l9:=ok.1.2.1;let l1:=ok.1.1;let S:=Q5 (Þ 0-ϵK 0) (ϲA ů) λc hc=>Ϛt<|List.mem_of_mem_head? hc;rw[Br]at S;generalize O:Þ 0-ϵK 0=A at*;generalize Q:sS (ϭ6 (ů).l)=x at*;let X:ϴs=ϭ6 (ů).l:=by rw[<-Q,bj]
 let xl:=bS x;rw[X,S5,K8r]at xl;let C:ü x.length:=bQ Á;let v:ü (ϱt ů):=ax Á;let er:∀y:Str,Cm y=Æ (Txt.lstrip y):=ύg;let Y:(É 0<É ((ϱt ů)))=True:=ϰr Á;let Z:Ϥq (É ((ϱt ů))):=ϰr Á;let mm:=dG z (ó<|É 0<É ((ϱt ů)));obtain⟨p,U⟩:∃p:Nat,z%É ((ϱt ů))=Ū:=⟨ā (z%É ((ϱt ů))),Á⟩
 let pl:p<Ã (ϲA ů):=Á
 let I:Ū+1=Ð (p+1):=Á
 let zq:è "q"=ϪB:=ç
 let put:=Kg (w:=(ů).l) (d:=113) pl;let s1:=xU (ů).l p Á;let s2:=qV (ů).l (p+1) Á;let r1:=bS<|ϱL (ů).l none<|Â Ū;let r2:=bS<|ϱL (ů).l (Â<|(Ð (p+1))) none;rw[s1,Zk]at r1;rw[s2,K8y]at r2;let q3:Ã (ϪB:Str)=1:=rfl;let B:ü (Ã (ϱL (ů).l none<|Â Ū)+Ã (ϪB:Str)):=ax Á;let j:ü (Ã (ϱL (ů).l none (Â Ū)++ϪB:Str)+Ã (ϱL (ů).l (Â<|(Ð (p+1))) none)):=ax (ñ Str.length_append);generalize L:ϱL (ů).l none (Â Ū)++ϪB++ϱL (ů).l (Â<|(Ð (p+1))) none=l' at*;let f:l'.length=ϱt ů:=by rw[bS,put,K8z,<-V]
 let o:mQ l':=⟨Á,Á,λc hc=>by
  let hc:c∈cs l':=hc;rw[put]at hc;rcases Zar hc with hc|rfl
  .exact Ϛt hc
  lia⟩
 let(H,P):=DB (D0:=D0) G f o rfl;rw[O]at P;let(t',a',E,h):=z_ o;let r:=nR (c:=A) E h;rw[<-E]at r;rw[r]at P;let D:(É x.length)-É ((ϱt ů))=(A:Int):=Á
 let s:=xU x A Á;rw[X,K8s (Ù K8r ß),K90<|Ù K8r ß]at s;let r3:=bS<|ϵS<|Â (A:Int);rw[s,K8r]at r3;let k:ü (Ã (ϵS<|Â (A:Int))+l'.length):=bQ Á;let ex:ϵS (Â (A:Int))++l'=sS (ϭ6 l'):=PK (by rw[iM,s]);let c1:=iX (R:=ø) (a:=1) Á;let c1:cutD (aC ø) (Â 1) none=aC (ϰD ø 1):=c1;let K:cutD Μ (Â 1) none=ar ϧT:=ϰ9 OW (Cy _ 1 (ñ bG))
 let m:ü (ϰC 1+Ã (ϰD ø 1)):=ax (ñ K8y);let q:ü (ϰC 1+Ã ϧT):=ax (ñ K8y);let J:ϹH (sS<|ϭ6 l')::aC (ϰD ø 1)=aC (Rs (ϷC l' (ů).t::ϧT) D0):=ϱJ P
 let M:ϰx [Ä<|-1,Æ l',Ä (ů).t]::ar ϧT=ar (ϷC l' (ů).t::ϧT):=rfl;let rd:=H.read g1 g2;let ro:=vC _ H.as (þ H.len);simp![b,t0,P9,Qb,C,er,S,v,Y,Z,U,I,zq,vk,B,j,L,D,k,ex,c1,K,aV,bG,m,q,aG,J,M,rd,ro]
end
def fou(T:À Nd):À Nd:=T.map λn=>ϘH
theorem Ux(T:À Nd):Sm T (fou T):=by
 apply(?_,?_)
 .unfold fou
  rw[Tk];rfl
 delta cy fou;rw[Tk];rfl
theorem Kv(R:À Int)(N:R.length<=63):xS [Ö ϰQ]=Ý (í true):=by
 delta xS DU;let(l,z):=Ϯe 0 Õ;let(A,f):=Ϯe 1 Õ;let(o,Z):=Ϯe 2 Õ;let Q:=dG l (ϱF<|É 0<10);obtain⟨many,h⟩:∃many:Nat,1+l%10=É many:=⟨ā (1+l%10),Á⟩
 let(s,way,E,tl0,T):=NU R 3 many 9 8 Õ Õ Á Á Õ Õ Õ Õ;let(c,p):=FT E Á;let G:Gd ϥJ c:=p.sm (Ux s) λn N=>by
  delta fou at N;let(m,r,rfl):=Zc.mp N;let:=dG m.t (ϱF<|É 0<4);show((p.ok m r).1,ϱG (É 1<=ύu),ϱG (ύu<=É 9))
 let F:∀k,k<Ã ϥJ->Ϸj ϥJ<=4:=λk K=>by
  let:=gL K;delta fou at this;let(m,r,e):=Β this;let q:=dG m.t (ϱF<|É 0<4);let e:au ϥJ k=⟨m.e,m.l,ύu⟩:=e.symm;rw[e];change ύu<=4;lia
 let g9:=dG o (ϱF<|É 0<9);obtain⟨D0,hg⟩:∃D0,1+o%9=D0:=ι;let g1:ř:=Á
 let g2:ţ:=Á
 let y:=dG (A*48271) (ϱF<|É 0<2147483647);obtain⟨w,W⟩:∃w,A*48271%2147483647=w:=ι;rw[W]at y;let C:=ϴG;let U:=G.draw C;let P:=G.pc g1 g2;let B:=G.rw8 g1 g2;let(S,s1,s2,x):=wN P B w y.1;let no:∀u c,Gd u c->Rs u D0≠S:=λu c H e=>s2 (e▸H.pc g1 g2);let Y:=kU x g1 g2 no;let rn:=pH x g1 g2 no;let lt:=x_ G g1 g2<|w / 3;let D:=Dt (o / 9%1000003) (ϕ4 Õ);let V:=ϒg;let ro:=vC _ G.as (þ G.len);let b:∀a:L3.Env,a[1]?=some (ì<|ar s)->ϥ7 Ų (Ϸa<|ϵ4 0<|Ρ 1 2 cW) cO (Y0<|dZ<|Ï 0<|Ï 1<|ae (ĩ (Ê 1)<|Ò du 2<|Ê 4) ah) 3 [] a=ψ (ar ϥJ):=λa g=>by
  simp![g];generalize J:Ů=rc;let e:=cU J ndD (λn:Nd=>.sh<|ndD ϘH) s rfl (Ş Á) (by ext n N;delta ndD;simp![Y2]);subst e;simp![Y2];delta ar fou;rw[Tk,Tk];rfl
 let b:=b [ì ϰQ,ì<|ar s,none,none,none,none,none,none] rfl;let j:ϱ1 ((É 3)):=θ Õ;simp![z,h,T,aG,↓b,f,W,Z,hg,U,s1,Y,rn,j];generalize L:Ŋ=r';apply Ϸf (λi a=>∃v6 v:Ú OD,a=[ì ϰQ,ì<|ar ϥJ,æ<|Ä w,æ<|Ä D0,ì<|aC<|Rs ϥJ D0,ì ϱy,v6,v]) ϸb
 .rintro i d a hd ⟨v6,v,rfl⟩
  let(hi,rfl):=ϷK;let hi:i<3:=hi;let I:Ϭ9 (0+Ċ):=CP Á Á;let M:Ϭ9 Ċ:=CP Á Á;let(X,x1,x2,x3):=zH G g1 g2 F<|(w+Ċ*Ċ+3*Ċ)*69621%2147483629;let O:=yt G g1 g2 x2 x3;rw[K8R];simp![M,x1,aG,O];show(_,_,rfl)
 ext ρ' rfl ⟨v6,v,rfl⟩;simp![Z,D,lt,V,aG,ro]
abbrev Pm(K:Ch)(x:Str)(T:No)(f:Ix):Prop:=ť x=Â (Â<|Å f)/\∃d,Ϧ1
theorem df1{T:No}(X:ϴX)(G:ϺH mg)(q:ť x=Â (Â<|Å f))(F:Ϧ1)(e:ϫE 1)(b:∀(kV doc pm:Do)(an:Ú Ix)(c ct a0:Do),ϩy [a0]):ĕ x T ps f d:=⟨F,ϱ0 q,Ϗe (by let(_,rfl):=ex1 ϓm;show b ..)⟩
theorem df2{T:No}(X:ϴX)(G:ϺH mg)(q:ť x=Â (Â<|Å f))(F:Ϧ1)(e:ϫE 2)(b:∀(kV doc pm:Do)(an:Ú Ix)(c ct a0 A:Do),ϩy [a0,A]):ĕ x T ps f d:=⟨F,ϱ0 q,Ϗe (by let(_,_,rfl):=ex2 ϓm;show b ..)⟩
theorem df3{T:No}(X:ϴX)(G:ϺH mg)(q:ť x=Â (Â<|Å f))(F:Ϧ1)(e:ϫE 3)(b:∀(kV doc pm:Do)(an:Ú Ix)(c ct a0 A w:Do),ϩy [a0,A,w]):ĕ x T ps f d:=⟨F,ϱ0 q,Ϗe (by let(_,_,_,rfl):=ex3 ϓm;show b ..)⟩
theorem df4{T:No}(X:ϴX)(G:ϺH mg)(q:ť x=Â (Â<|Å f))(F:Ϧ1)(e:ϫE 4)(b:∀(kV doc pm:Do)(an:Ú Ix)(c ct a0 A w g:Do),ϩy [a0,A,w,g]):ĕ x T ps f d:=⟨F,ϱ0 q,Ϙp (by let k:=l.trans e;cases s with|nil=>cases k|cons a r=>let(_,_,_,rfl):=ex3<|Nat.succ.inj k;show b ..)⟩
theorem df5{T:No}(X:ϴX)(G:ϺH mg)(q:ť x=Â (Â<|Å f))(F:Ϧ1)(e:ϫE 5)(b:∀(kV doc pm:Do)(an:Ú Ix)(c ct a0 A w g y:Do),ϩy [a0,A,w,g,y]):ĕ x T ps f d:=⟨F,ϱ0 q,Ϙp (by let k:=l.trans e;cases s with|nil=>cases k|cons a r=>cases r with|nil=>cases k|cons a r=>let(_,_,_,rfl):=ex3<|Nat.succ.inj<|Nat.succ.inj k;show b ..)⟩
def all_mk{l:PySem.W.OpenLaw}{w:Fk}{K:Ch}{h:Op}{mg:ł}{fa:Ix}(X:ϴX)(G:ϺH mg)(hfa:mg "law"=Â (Å fa))
  {q0 q1 q2 q3 q4 q5 q6 q7 q8 q9 qa qb qc qd qe qf qg qh qi qj qk ql qm qn qo qp qq qr qs qt qu qv qw qx qy qz q10 q11 q12 q13 q14 q15 q16 q17 q18 q19 q1a q1b q1c q1d q1e q1f q1g q1h q1i q1j q1k L:Ix}
  {q1m q1n:Ú Ix}
  {q1o:Ϲ4 Da}
  {q1p q1q q1r q1s t q1u:Do}
  {q1v:Tok}
  {q1w:Tok}
  {q1x:Tok}
  {q1y:Tok}
  {q1z:Tok}
  {q20:Tok}
  {a b c q d f Q g:Ix}
  (i:ğ "is_on_way_up" k9 q0)
  (B:ğ "is_label" nG q1)
  (D:ğ "check_tall" nL q2)
  (F:ğ "check_node" nH q3)
  (H:ğ "node_levels" lW q4)
  (j:ğ "reaches" qO q5)
  (k:ğ "nearest" qX q6)
  (n:ğ "joined_outline" cQ q7)
  (p:ğ "laid" CV q8)
  (r:ğ "bar_signs" pV q9)
  (m:ğ "level_parts" lY qa)
  (V:ğ "words_in" rN qb)
  (x:ğ "hung_by_ways" gV qc)
  (z:ğ "_law_cell" pM qd)
  (o:ğ "_law_whole" nA qe)
  (u:ğ "_law_label" nP qf)
  (y:ğ "_law_bars" lO qg)
  (A:ğ "_law_other_sign" iy qh)
  (C:ğ "_law_is_tall" kP qi)
  (E:ğ "_law_columns" lg qj)
  (I:ğ "_law_star" oO qk)
  (J:ğ "_law_line" pY ql)
  (M:ğ "check_elder" l_ qm)
  (N:ğ "check_label" lU qn)
  (O:ğ "children_of" i_ qo)
  (R:ğ "levels_of" oK qp)
  (U:ğ "earliest_places" fq qq)
  (W:ğ "latest_places" gB qr)
  (Y:ğ "moved_to_side" eV qs)
  (Z:ğ "label_row" lK qt)
  (q3x:ğ "labels_in" lP qu)
  (q3z:ğ "elders_by_bars" iV qv)
  (q41:ğ "_law_tree" pN qw)
  (q43:ğ "_law_rows" pR qx)
  (q45:ğ "_law_labels" i5 qy)
  (q47:ğ "_law_other_tall" ig qz)
  (q49:ğ "_law_counted_tall" c_ q10)
  (q4b:ğ "_law_made" lF q11)
  (q4d:ğ "made_tree" pE q12)
  (q4f:ğ "room_of" uM q13)
  (q4h:ğ "sign_below" nt q14)
  (q4j:ğ "bar_row" qE q15)
  (q4l:ğ "likely_nodes" kO q16)
  (q4n:ğ "_law_spoiled" hZ q17)
  (q4p:ğ "_law_tall_edit" fQ q18)
  (q4r:ğ "stands_below" iH q19)
  (q4t:ğ "rows_below" iE q1a)
  (q4v:ğ "pieces" qA q1b)
  (q4x:ğ "drawn" Al q1c)
  (q4z:ğ "columns_of" kF q1d)
  (q51:ğ "picture" qQ q1e)
  (q53:ğ "read_picture" fF q1f)
  (q55:ğ "_law_refused" lh q1g)
  (q57:ğ "_law_by_name" k6 q1h)
  (q59:ğ "_law_letter" mi q1i)
  (q5b:ğ "_law_tall_judged" gF q1j)
  (q5d:ğ "_law_by_hand" kL q1k)
  (q5f:ť "law"=Â (Â<|Å L))
  (q5g:K.lookup L=Â ⟨q1p,q1m,.func<|ϕG ù q1q q1r q1s q1n t q1u,q1o⟩)
  (q5h:ύf t "law"=true)
  (q5i:ϧV K (Å L))
  (q5j:ť "ValueError"=ϱK)
  (q5k:ť "all"=ϱK)
  (q5l:ť "bool"=ϱK)
  (q5m:ť "enumerate"=ϱK)
  (q5n:ť "int"=ϱK)
  (q5o:ť "isinstance"=ϱK)
  (q5p:ť "len"=ϱK)
  (q5q:ť "list"=ϱK)
  (q5r:ť "max"=ϱK)
  (q5s:ť "min"=ϱK)
  (q5t:ť "range"=ϱK)
  (q5u:ť "sorted"=ϱK)
  (q5v:ť "str"=ϱK)
  (q5w:ť "tuple"=ϱK)
  (q5x:ť "zip"=ϱK)
  (q5y:ť "GREATEST_LEVEL"=Â (Â<|Ä 8 q1v))
  (q5z:ť "GREATEST_TALL"=Â (Â<|Ä 9 q1w))
  (q60:ť "LETTERS"=ϥF (Æ "abcdefghijklmnopqrstuvwxyz" q1x))
  (q61:ť "LONGEST_LABEL"=Â (Â<|Ä 9 q1y))
  (q62:ť "MOST_NODES"=Â (Â<|Ä 40 q1z))
  (q63:ť "SHREDS"=Â (Â<|Ä 256 q20))
  (q64:ť "DrawError"=Â (Â<|Å a))
  (q65:ť "NoDeed"=Â (Â<|Å b))
  (q66:ť "NoNode"=Â (Â<|Å c))
  (q67:ť "NoPicture"=Â (Â<|Å q))
  (q68:ť "NoPlace"=Â (Â<|Å d))
  (q69:ť "NoText"=Â (Â<|Å f))
  (q6a:ť "NoTree"=Â (Â<|Å Q))
  (q6b:ť "TooMany"=Â (Â<|Å g))
  (q6c:exQ K q=true)
  (q6d:ϸu (Å q) "__getattribute__"=ϥF (ŋ "BaseException.__getattribute__"))
  (q6e:ϸu (Å q) "__class__"=ϥF (ŋ "object.__class__"))
  (q6f:ϸu (Å q) "__getattr__"=ϱK)
  (q6g:mroIn K q (Ĳ "object")=ϱp)
  (q6h:exQ K Q=true)
  (q6i:ϸu (Å Q) "__getattribute__"=ϥF (ŋ "BaseException.__getattribute__"))
  (q6j:ϸu (Å Q) "__class__"=ϥF (ŋ "object.__class__"))
  (q6k:ϸu (Å Q) "__getattr__"=ϱK)
  (q6l:mroIn K Q (Ĳ "object")=ϱp)
  (q6m:exQ K a=true)
  (q6p:ϳg K (Å q) (Å a)=ϱp)
  (q6q:ϳg K (Å q) (Å q)=ϱp)
  (q6r:ϳg K (Å Q) (Å a)=ϱp)
  (q6s:ϳg K (Å Q) (Å Q)=ϱp)
  (q6t:ϸv (Å q) (Å q)=ϱp)
  (q6u:ϸv (Å Q) (Å q)=ϸl)
  (q6v:ϸv (Å q) (Ĳ "ValueError")=ϱp)
  (q6w:ϸv (Å Q) (Ĳ "ValueError")=ϱp)
  (q6x:Ϸ9 K (Å q) [Å c,Å f,Å Q]=ϸl)
  (q6y:Ϸ9 K (Å q) [Å g,Å b,Å d]=ϸl)
  (q6z:Ϸ9 K (Å Q) [Å c,Å f,Å Q]=ϱp)
  (q70:Ϸ9 K (Å Q) [Å g,Å b,Å d]=ϸl):
  ∃fd:Gc,(∀(s:Db)(v:Do),Ϯ6 ((ϴ1 [v])) [("_law_script",v)])/\∀base:Op,K.In base->ϏL mg->WM l.prog base->K2 l.prog w K mg base Z8 12 fa fd ϐS (ϻT mg xS):=by
 let e:=hfa.symm.trans<|ϱ0 q5f;cases e;let(i,_,q72):=i;let(B,_,q74):=B;let(D,_,q76):=D;let(F,_,q78):=F;let(H,_,q7a):=H;let(j,_,q7c):=j;let(k,_,q7e):=k;let(n,_,q7g):=n;let(p,_,q7i):=p;let(r,_,q7k):=r;let(m,_,q7m):=m;let(V,_,q7o):=V;let(x,_,q7q):=x;let(z,_,q7s):=z;let(o,_,q7u):=o;let(u,_,q7w):=u;let(y,_,q7y):=y;let(A,_,q80):=A;let(C,_,q82):=C;let(E,_,q84):=E;let(I,_,q86):=I;let(J,_,q88):=J;let(M,_,q8a):=M;let(N,_,q8c):=N;let(O,_,q8e):=O;let(R,_,q8g):=R;let(U,_,q8i):=U;let(W,_,q8k):=W;let(Y,_,q8m):=Y;let(Z,_,q8o):=Z;let(q3x,_,q8q):=q3x;let(q3z,_,q8s):=q3z;let(q41,_,q8u):=q41;let(q43,_,q8w):=q43;let(q45,_,q8y):=q45;let(q47,_,q90):=q47;let(q49,_,q92):=q49;let(q4b,_,q94):=q4b;let(q4d,_,q96):=q4d;let(q4f,_,q98):=q4f;let(q4h,_,q9a):=q4h;let(q4j,_,q9c):=q4j;let(q4l,_,q9e):=q4l;let(q4n,_,q9g):=q4n;let(q4p,_,q9i):=q4p;let(q4r,_,q9k):=q4r;let(q4t,_,q9m):=q4t;let(q4v,_,q9o):=q4v;let(q4x,_,q9q):=q4x;let(q4z,_,q9s):=q4z;let(q51,_,q9u):=q51;let(q53,_,q9w):=q53;let(q55,_,q9y):=q55;let(q57,_,qa0):=q57;let(q59,_,qa2):=q59;let(q5b,_,qa4):=q5b;let(q5d,_,qa6):=q5d;let qa7:=C5 (st:=rq) q5g q5h q5i;let T:Wd K mg (zAt q1k [a,b,c,q,d,f,Q,g,q0,q1,q2,q3,q4,q5,q6,q7,q8,q9,qa,qb,qc,qd,qe,qf,qg,qh,qi,qj,qk,ql,qm,qn,qo,qp,qq,qr,qs,qt,qu,qv,qw,qx,qy,qz,q10,q11,q12,q13,q14,q15,q16,q17,q18,q19,q1a,q1b,q1c,q1d,q1e,q1f,q1g,q1h,q1i,q1j],zAt _ [_,_,_,_,_,_,_,_,_,_,_,_,_,_,_,_,_,_,_,_,_,_,_,_,_,_,_,_,_,_,_,_,_,_,_,_,_,_,_,_,_,_,_,_,_,_,_,_,_,_,_,_,_,_,_,_]):=znI ⟨ϴc q5j,ϴc q5k,ϴc q5l,ϴc q5m,ϴc q5n,ϴc q5o,ϴc q5p,ϴc q5q,ϴc q5r,ϴc q5s,ϴc q5t,ϴc q5u,ϴc q5v,ϴc q5w,ϴc q5x,ϴ7 (ϱ0 q5y),ϴ7 (ϱ0 q5z),ϴ7 (ϱ0 q60),ϴ7 (ϱ0 q61),ϴ7 (ϱ0 q62),ϴ7 (ϱ0 q63),ϱ0 q64,ϱ0 q65,ϱ0 q66,ϱ0 q67,ϱ0 q68,ϱ0 q69,ϱ0 q6a,ϱ0 q6b,⟨q6c,q6d,q6e,q6f,q6g⟩,⟨q6h,q6i,q6j,q6k,q6l⟩,q6m,q6c,q6h,q6p,q6q,q6r,q6s,q6t,q6u,q6v,q6w,q6x,q6y,q6z,q70,ϸC i q72 rfl Ϸ0,ϱs B q74 rfl ϱk,ϱs D q76 rfl ϱk,ϹS F q78 rfl ϰ7,ϱs H q7a rfl ϱk,ϱs j q7c rfl ϱk,ϸC k q7e rfl Ϸ0,ϹS n q7g rfl ϰ7,ϱs p q7i rfl ϱk,ϹS r q7k rfl ϰ7,ϱs m q7m rfl ϱk,ϱs V q7o rfl ϱk,ϱs x q7q rfl ϱk,ϴD z q7s ϰ7,ϱs o q7u rfl ϱk,ϹS u q7w rfl ϰ7,ϱs y q7y rfl ϱk,ϹS A q80 rfl ϰ7,ϱs C q82 rfl ϱk,ϱs E q84 rfl ϱk,ϹS I q86 rfl ϰ7,ϱs J q88 rfl ϱk,ϹS M q8a rfl ϰ7,ϱs N q8c rfl ϱk,ϹS O q8e rfl ϰ7,ϱs R q8g rfl ϱk,ϹS U q8i rfl ϰ7,ϸC W q8k rfl Ϸ0,ϸC Y q8m rfl Ϸ0,ϸC Z q8o rfl Ϸ0,ϱs q3x q8q rfl ϱk,ϱs q3z q8s rfl ϱk,df5 X G q41 q8u rfl λ_ _ _ _ _ _ _ _ _ _ _=>rfl,ϴD q43 q8w ϰ7,ϱs q45 q8y rfl ϱk,ϸC q47 q90 rfl Ϸ0,ϴD q49 q92 ϰ7,ϱs q4b q94 rfl ϱk,ϱs q4d q96 rfl ϱk,ϴD q4f q98 ϰ7,ϸC q4h q9a rfl Ϸ0,ϸC q4j q9c rfl Ϸ0,ϱs q4l q9e rfl ϱk,ϴD q4n q9g ϰ7,ϴD q4p q9i ϰ7,ϴD q4r q9k ϰ7,ϸC q4t q9m rfl Ϸ0,ϴD q4v q9o ϰ7,ϴD q4x q9q ϰ7,ϴD q4z q9s ϰ7,ϴD q51 q9u ϰ7,ϴD q53 q9w ϰ7,ϴD q55 q9y ϰ7,ϴD q57 qa0 ϰ7,df4 X G q59 qa2 rfl λ_ _ _ _ _ _ _ _ _ _=>rfl,ϸC q5b qa4 rfl Ϸ0,ϱs q5d qa6 rfl ϱk,⟨⟩⟩
 apply(ϕG ù q1q q1r q1s q1n t q1u,λs v=>.of_eq rfl,λbase _ _ S=>?_);let g1:=mk1 (P:=l.prog) (w:=w) (base:=base) T;let g2:=mk2 T g1;let g3:=mk3 T g1 g2;let g4:=mk4 T g1 g3;let g5:=mk5 T g1 g2 g4;let g6:=mk6 T g2 g5;let g7:=mk7 T g6;let g8:=mk8 T g2 g3 g4 g7;let g9:=mk9 T g1 g3 g7 g8;let g10:=X7 T g2 g9;let g11:=Yo T g2 g8 g9 g10;show S6 qa7 T g1 g2 g3 g8 g9 g10 g11
end B
end Internal
universe pgm8I0Vyfgr f3SMJacgUt4 vB3Gkrpzr3L hvDCn7Dl01H grEtanYWPGY k2BALdN68nD snpxVyOLw4a hn2yQVanVxC ni2ZqB3SxTt tqT8FxfgVZ0 icTnWC9rTKQ liWhVPbWFto aqvCcB3Efhe cVmlI8X3OXI a8ithet2Itm ss8qtyWchon j9BiuispD01 pOuTvYZkgrU e36rgK6rrSP avn3aN6zHzf og684Bz4hO4 sM5IXW1VznY lB3O1y6APr0 s3tMkc1kf0M oTJE4TihDPF opm3nVyiXfy aTlABYdeBZz tCnuoAqGrmD aYHJCAZjMY2 c9L04UTOHHr ipWmQ76pxOY nRtCYT9SYFC tVGjmGVXMAo fGtPS90GDA3 n69lEaw2bVU rwxAi6s6Km2 vMmeo63zmls jw90SHbWTFx vHYObjaT34b eYWDD7exDwH o0etgY8q6Cq sM7FeayUK8d aAQxhL0qEn2 rC0xOLr5B9V iFoLhBuk5wX cWlE1vCPKWa jBdFx9sv71k nfxjYHlAcpE cWMoVb2iN8R hDg3j6qGWZa oTbUwS2sDQi dpPdNiBicpG jygkDVcNS5o ojSiJuS85wU uwmLiNQCXkQ mi1hGLlYuAT vnRlO8qXci6 cyRx0LJlI4F tVgxFWQwgdU fCRRw7x4zfU hoXQ5RIYUO5 qrek6qejMFi jyt3uncbYJv ls75to3gUW5 m6kB9Yci9jS sICdahTMckS usRPIDWPOpS r1NsGYc8J8O rchGIazZZ0S pezAPUDfOqZ qXcq64NMYnH gyQPmvn33Xq jL6aC08fpWj pcPvq1CbNGI pquEFX9DSFP awdEKeqH2AN fsTySvBkoBh eQkHVON3mGN q8qeLIMEoWI q8vAgCN96CE hsCn9k5QLQU r5AdosOgwtu oDFwrsH0L2g vQxWlw74YP9 dsXXBbV68DV mMQ5zF7YS9O jGgeKvIBOma tcjdwzqHRxQ t3AVgwV2aos hYK3y9VOqIw krpCsBoNovn tWVsJ6NGVdw gwMGASU4XlP gAnshE0ooYj hGSxwPd8BE4 gUxVX9TC458 sD5sAnaoK2B mVwcHsWjYRF dsQcOkw3SpI snzsOgrq7aU jFFocd8nyjH m1mVPWl6OOH cjwxfzLENUg dPjsSUarlTB efjN5pg4aRC rAJP7TyPp7g riU3ELhYfnE nijRRBwYyLb lrwzfUo1sqm b96BVgzcGyh bMCj2E89AYc o00cYZlAOah qvglQk64osB oLiMVqjV72F rcHI9vZkJm0 qu350kqYxCX hnNvtfG4TgH bmVBq2WtrEn fQ8GeVq9znn hdtGEcDduyc cTDh2ldQfId nvzvuStipBI sUs3Q4GIjzM ev7iO1DcQBx tIgx8FBxxL9 fTux12eVHV7 pB2yr1r7f4E gg497h25VX4 d55Ia6zdT9Z vgiFwKzJYDJ uxx7fXCR9ly v2Ppf1aEawC n9wXDnCeWpy eYPMUQ4VHi9 kCYat9hHZEm c7DH47lcy1i djp5ziGoizR oipJL7OIAVh bfql4q4Mv9C dync7wJfqAM m2bzAaFu8KH iMihs44DMdC oVKzcagMOHA ofHDxXQv0B4 tGuOPkGVSF8 jzWGvqRUGGA tf7WAtF8UuJ mu25Y5dginj lIT6w528iKF gfVcDpD4deH jltp2RPdEmH vl1fmF24MBb qVlYiTKGfEp m4IycB65Lt5 mzByoh7wcGw fL4r2BdGY1t t4jGKEYYqC2 iyEZYJ23MXb gblloLD8J3b v4NYXa2GVq6 f7K69Hl7mKs sX1wVVBzHpX u0GxWjabFZ8 bU5eFj9zvBZ p5jSqE1wdDi ciNxqifbawl uZTASQbNWQn fosLBLasdc7 bK9HmLDoJWd rEFdpo7uqSe d1tIjwEb7iW q0tUl3iveaw b2JMLQajRIe ijgIRdWvRPl fvVRdGX5l8o pBrjAOD1i5m hJQ95enRqzi rY2zisFnotD tGOwQrQLIbo gnSgFL72dFE fA80SciIhqP vcDGshR26Pa vEnWRZNVskV t9ZI6fm2Rul aBGXTWxgmkR blyxmXw31k8 sDzkzcI2Ovy kxd2cbssxLj azcf24JC9zx qdsI24HpGtU cCuaArymmcd mUYPmHsnyPd oDNUozKKHYj sCIFlTZSUfS at4uSHcHvEM dry5GOienQp hq41G50M7Fj pSMDcCF2NAS jEhoCkM6FLk buWKY4KyATP sX3LHkZC3aH moO1OSJqfed d0fmAC1Vv2s pVhKZWE9eSW a5hSGeMgy4E gE7NYcwwNVy cZcNzx3ZTGO qGWaeIwCtza vAMG3ltDYZi uWKhpTh23H3 l3egqx9TA1x sslkU9EG76h rshj3wLgcqF g5ujYfKgRRx i5KYe1o0fHn rpTsw2jNVPT bIFm34GlsHn m3YFxyS3TcH dotJDgHhZlR a9j9nUEQBtD tB45pAtdZRc dINIcFRvkiw dNCvCVVER7N ifs6kiJP8Ov rcG3Y6isa5x qRuoGCVXQNH aNbC0QxMhPM sRWzFUjdA9p sLds82JO3p1 o7WdIMaEeVu eFo2WB7FtlB hrW5I2ThNBe cd2xy42h3qg gbx21X0v3Wa tJzHFGY1RDh j16RfaTBGvS saz5vMXLocN hS1o8dVEO9m v6dwmPPcSDg tOsc2PO5Bhh he8WAJOZxGC qHObEi2SnVV u6VK7HNzEll j7RvOpJe0jh mIdtlbmsBHc swo1e8yjwpv kaPRGvbUw5y tMIfimIxti8 mzxLBaaOi5n o7Hn1BXUw3a nocpLmRMQJi rEfouIhF82Y s6WtmG6ciGT eFKSEQmlOC9 vUtqmBcVdMF hkQhHrrRzMR i2KlmDoRJIM r68Sc93uhW5 pSNHmf0EVmV d6hbgnV4KFF uwNAkXooEEA cZ93ojvjgw3 ruvXUtdCm7x nWMXRnJnS00 mt503JlaosD c7h3CjfsjKX fcvJKGOOCdE flGee3daoXe e7L2rqcP8SN nIvKsCKQzWY vWnvpX1S8rz c6uqOi0MPWi pJpnLyy3VtZ tZmtaO1l0R6 h6BCWtQcfH8 dCLUHKeWkOz sLui6GngOTm l7CKhIAhX2r k5qPgzZWTSy vxG8fUvw2Xh jfFyZjM1qoL pEbgqpjZ3IN mQdBJQZ5kDK avqSYv9WhOn pBjvo0KFDpH dlm1dsw3uXl hILpqNb1WhY rmWdQEk2wob tJaLwIkWM8q psGfjJn1t6h stw5E5iBY7H nwJew4Yekvm nvigNYmXlmK nPE1BqzXBZS rf4bH5HSFA5
open Internal PySem PySem.W PyProof.Rows
set_option tactic.hygienic true
set_option maxRecDepth 100000 in
set_option maxHeartbeats 0 in
theorem PySem.Challenge.cw_boughdraw_k63_pictures_refused_holds : PySem.Challenge.rw_boughdraw_k63_pictures_refused.Holds := by
 w_on;o_law;k_head;(case hw=>w_witness2)
 k_fill
 apply L3.WK (l:=PySem.Challenge.rw_boughdraw_k63_pictures_refused) (x:="_law_script") (k:=12) (fn:=B.xS) (by decide+kernel) rfl rfl ⟨rfl,by decide,by decide⟩ (λw h Y=>PySem.W.kIn_of Y) B.Kv rfl ?F
 case F=>
  ext w mg fa h KX G hmg;refine' B.all_mk KX G hmg ?_ ?_ ?_ ?_ ?_ ?_ ?_ ?_ ?_ ?_ ?_ ?_ ?_ ?_ ?_ ?_ ?_ ?_ ?_ ?_ ?_ ?_ ?_ ?_ ?_ ?_ ?_ ?_ ?_ ?_ ?_ ?_ ?_ ?_ ?_ ?_ ?_ ?_ ?_ ?_ ?_ ?_ ?_ ?_ ?_ ?_ ?_ ?_ ?_ ?_ ?_ ?_ ?_ ?_ ?_ ?_ ?_ ?_ ?_ ?_ ?_ ?_ ?_ ?_ ?_ ?_ ?_ ?_ ?_ ?_ ?_ ?_ ?_ ?_ ?_ ?_ ?_ ?_ ?_ ?_ ?_ ?_ ?_ ?_ ?_ ?_ ?_ ?_ ?_ ?_ ?_ ?_ ?_ ?_ ?_ ?_ ?_ ?_ ?_ ?_ ?_ ?_ ?_ ?_ ?_ ?_ ?_ ?_ ?_ ?_ ?_ ?_ ?_
  all_goals try first|(refine'⟨?a,_,L2.C5 ?l ?c ?k⟩;(case a=>k_is);(case l=>k_is);(case c=>k_is);(case k=>k_is))|k_is|kernel_rfl|(refine'⟨_,L2.C5 ?l ?c ?k⟩;(case l=>k_is);(case c=>k_is);(case k=>k_is))

import PyProof.Rows.All
import Wide.All
import OpenK.AllK
import Wide.FinOn
import Lean
import PyProof.EqAt
import PyProof.EqKinds
import PyProof.TupleCall
import PySem.Challenge.RW_boughdraw_k34_whole_drawn_by_the_rules
set_option Elab.async false
set_option linter.all false
set_option compiler.extract_closed false
set_option maxRecDepth 100000
namespace L2
open PySem PySem.Spec PyProof.Rows
noncomputable abbrev Key := Sum Int Str
noncomputable def yA : Key → Value → Bool
 | .inl k, v => Value.isInt k v
 | .inr x, v => Value.isStrOf x v
noncomputable def EW (w : World) : Key → Int
 | .inl k => hashInt k
 | .inr x => hashStr w x
theorem cL : ∀ {k : Key} {v : Value}, yA k v = true → (∃ i t, k = Sum.inl i ∧ v = Value.int i t) ∨ (∃ x t, k = Sum.inr x ∧ v = Value.str x t)
 | .inl i, v, h => by
  obtain ⟨t, e⟩ := Value.isInt_shape (k := i) (v := v) h;exact .inl ⟨i, t, rfl, e⟩
 | .inr x, v, h => by
  obtain ⟨t, e⟩ := Value.isStrOf_shape (x := x) (v := v) h;exact .inr ⟨x, t, rfl, e⟩
theorem Aw (a b : Int) : decide ((Sum.inl a : Key) = Sum.inl b) = (a == b) := by
 by_cases e : a = b
 ·subst e; simp
 ·have h : ¬ (Sum.inl a : Key) = Sum.inl b := fun q => e (Sum.inl.inj q)
  rw [decide_eq_false h];exact (beq_eq_false_iff_ne.mpr e).symm
theorem AE (a b : Str) : decide ((Sum.inr a : Key) = Sum.inr b) = decide (a = b) := by
 by_cases e : a = b
 ·subst e; simp
 ·have h : ¬ (Sum.inr a : Key) = Sum.inr b := fun q => e (Sum.inr.inj q)
  rw [decide_eq_false h, decide_eq_false e]
theorem A8 (a : Int) (b : Str) : decide ((Sum.inl a : Key) = Sum.inr b) = false := decide_eq_false (fun q => nomatch q)
theorem AH (a : Str) (b : Int) : decide ((Sum.inr a : Key) = Sum.inl b) = false := decide_eq_false (fun q => nomatch q)
noncomputable def rb (prog : Program) (w : World) : PySem.KeyKind prog w Key where
 is := yA
 hash := EW w
 inj := fun v a b ha hb => by
  rcases cL ha with ⟨i, t, rfl, rfl⟩ | ⟨x, t, rfl, rfl⟩
  ·rcases cL hb with ⟨j, u, rfl, e⟩ | ⟨y, u, rfl, e⟩
   ·injection e with e1 _; rw [e1]
   ·exact nomatch e
  ·rcases cL hb with ⟨j, u, rfl, e⟩ | ⟨y, u, rfl, e⟩
   ·exact nomatch e
   ·injection e with e1 _; rw [e1]
 byValue := fun k v h => by
  rcases cL h with ⟨i, t, rfl, rfl⟩ | ⟨x, t, rfl, rfl⟩ <;> rfl
 pyHash := fun hv h => by
  rcases cL hv with ⟨i, t, rfl, rfl⟩ | ⟨x, t, rfl, rfl⟩
  ·exact wpAny_pyHash_int h
  ·exact wpAny_pyHash_str h
 eqBool := fun hu hv h => by
  rcases cL hu with ⟨i, t, rfl, rfl⟩ | ⟨x, t, rfl, rfl⟩
  ·rcases cL hv with ⟨j, u, rfl, rfl⟩ | ⟨y, u, rfl, rfl⟩
   ·rw [Aw] at h; exact wpAny_eqBool_int h
   ·rw [A8] at h; exact SeqAt.EqAt.int_str i t y u _ _ _ _ h
  ·rcases cL hv with ⟨j, u, rfl, rfl⟩ | ⟨y, u, rfl, rfl⟩
   ·rw [AH] at h; exact SeqAt.EqAt.str_int x t j u _ _ _ _ h
   ·rw [AE] at h; exact wpAny_eqBool_str h
 «strs» := fun k x t v h => by
  rcases cL h with ⟨i, u, rfl, e⟩ | ⟨y, u, rfl, e⟩
  ·exact nomatch e
  ·injection e with e1 _
   subst e1;cases v <;> rfl
end L2
namespace L2
open PySem PySem.Spec PyProof.Rows
inductive V where
 | non | bl (b : Bool) | int (i : Int) | str (x : Str) | byt (b : Array UInt8) | flt (b : UInt64) | ref (a : Addr) | ty (n : String)
 deriving DecidableEq
noncomputable def RelV : V → Value → Prop
 | .non, u => u = Value.none
 | .bl b, u => u = Value.bool b
 | .int i, u => ∃ t, u = Value.int i t
 | .str x, u => ∃ t, u = Value.str x t
 | .byt b, u => ∃ t, u = Value.bytes b t
 | .flt b, u => ∃ t, u = Value.float b t
 | .ref a, u => u = Value.ref a
 | .ty n, u => u = Value.type n
noncomputable abbrev Vals : List V → List Value → Prop := Paired RelV
theorem Vals.length {xs : List V} {us : List Value} (r : Vals xs us) : xs.length = us.length := Paired.length r
theorem Vals.get : ∀ {xs : List V} {us : List Value} {i : Nat} {x : V}, Vals xs us → xs[i]? = some x → ∃ u, us[i]? = some u ∧ RelV x u
 | _, _, _, _, .nil, e => by simp at e
 | _, _, 0, _, .cons r _, e => by simp at e; subst e; exact ⟨_, rfl, r⟩
 | _, _, i + 1, x, .cons _ t, e => by
  obtain ⟨u, h1, h2⟩ := Vals.get (i := i) (x := x) t (by simpa using e)
  exact ⟨u, by simpa using h1, h2⟩
theorem Vals.set {x : V} {u : Value} (r : RelV x u) : ∀ {xs : List V} {us : List Value} (i : Nat), Vals xs us → Vals (xs.set i x) (us.set i u)
 | _, _, _, .nil => .nil
 | _, _, 0, .cons _ t => .cons r t
 | _, _, i + 1, .cons q t => .cons q (Vals.set r i t)
theorem Vals.append : ∀ {xs ys : List V} {us ws : List Value}, Vals xs us → Vals ys ws → Vals (xs ++ ys) (us ++ ws)
 | _, _, _, _, .nil, s => s
 | _, _, _, _, .cons r t, s => .cons r (Vals.append t s)
theorem Vals.take : ∀ {xs : List V} {us : List Value} (n : Nat), Vals xs us → Vals (xs.take n) (us.take n)
 | _, _, 0, _ => .nil
 | _, _, _ + 1, .nil => .nil
 | _, _, n + 1, .cons r t => .cons r (Vals.take n t)
theorem Vals.drop : ∀ {xs : List V} {us : List Value} (n : Nat), Vals xs us → Vals (xs.drop n) (us.drop n)
 | _, _, 0, r => r
 | _, _, _ + 1, .nil => .nil
 | _, _, n + 1, .cons _ t => Vals.drop n t
noncomputable def Ef : Option V → Option Value → Prop
 | some v, some u => RelV v u
 | none, none => True
 | _, _ => False
noncomputable def KV {κ : Type} : List (κ × V) → List (κ × Value) → Prop := Paired fun (p : κ × V) (q : κ × Value) => p.1 = q.1 ∧ RelV p.2 q.2
noncomputable def kV : Key → V
 | .inl i => .int i
 | .inr x => .str x
inductive HO where
 | lst (xs : List V)
 | tup (xs : List V)
 | dK (kvs : List (Key × V)) | dT (kvs : List (List Key × V))
 | set (S : Int → Bool) (n : Nat)
 | ins (C dx : Addr) (fs : List (Str × V))
 | own (x : Addr)
 | xd (fs : List (Str × V))
 | met (f x : Addr)
 | rng (lo hi : Int)
 | frz (o : Obj) (u : HO)
 | tbl (ps : Array Value)
 | ext (φ : Heap → Prop)
noncomputable abbrev Hp := Addr → Option HO
noncomputable def upd (H : Hp) (a : Addr) (o : HO) : Hp := fun b => if b = a then some o else H b
theorem cu {H : Hp} {a : Addr} {o : HO} : upd H a o a = some o := by unfold upd; rw [if_pos rfl]
theorem aG {H : Hp} {a b : Addr} {o : HO} (h : b ≠ a) : upd H a o b = H b := by unfold upd; rw [if_neg h]
theorem aQ {H : Hp} {a b : Addr} {o : HO} (h : H a = some o) (h' : H b = none) : a ≠ b := by
 intro e; subst e; rw [h] at h'; cases h'
section
variable (P : Program) (w : World)
noncomputable def f_ (H : Hp) (h : Heap) (a : Addr) : HO → Prop
 | .lst xs => xs.length ≤ sizeLine ∧ ∃ (its : List Value) (n : Nat), Vals xs its ∧ h.get? a = some { cls := .type "list", data := .seq its.toArray n }
 | .tup xs => xs.length ≤ sizeLine ∧ ∃ its : List Value, Vals xs its ∧ IsTup h a its.toArray
 | .dK kvs => kvs.length ≤ sizeLine ∧ (a == sysModules) = false ∧ ∃ vs, KV kvs vs ∧ h.DictOf (rb P w) a vs
 | .dT kvs => kvs.length ≤ sizeLine ∧ (a == sysModules) = false ∧ ∃ xs : List (List Key × Addr × Value),
   Paired (fun (p : List Key × V) (q : List Key × Addr × Value) => p.1 = q.1 ∧ H q.2.1 = some (.tup (p.1.map kV)) ∧ RelV p.2 q.2.2) kvs xs ∧
   ∃ o es ep, h.get? a = some o ∧ o.ExactDict ∧ o.data = .dict es ep ∧ es.toList = xs.map (entryOfKey (tupleKind (rb P w))) ∧ (xs.map (·.1)).Nodup
 | .set S n => h.SetOf (intKind P w) a S n
 | .ins C dx fs => H dx = some (.own a) ∧ fs.length ≤ 1000 ∧ dx ≠ a ∧ h.get? a = some (PySem.W.instObj C dx) ∧
   ∃ mA, h.Ns1 dx mA ∧ (∀ f, Ef (fs.lookup f) (mA f)) ∧ PySem.Within mA (fs.map (·.1))
 | .own _ => ∃ o, h.get? a = some o
 | .xd fs => ∃ mA, h.Ns1 a mA ∧ ∀ f, Ef (fs.lookup f) (mA f)
 | .rng lo hi => ∃ t u v, h.get? a = some { cls := .type "range", data := .fields #[.int lo t, .int hi u, .int 1 v] }
 | .frz o u => h.get? a = some o ∧ f_ H h a u
 | .tbl ps => h.get? a = some { cls := .none, data := .fields ps }
 | .met f x => h.get? a = some (PySem.W.methodObj (.ref f) (.ref x))
 | .ext φ => φ h ∧ (∃ o, h.get? a = some o) ∧ ∀ h1 h2 : Heap, φ h1 → (∀ o, h1.get? a = some o → h2.get? a = some o) → φ h2
noncomputable def HOk (H : Hp) (h : Heap) : Prop := ∀ a o, H a = some o → f_ P w H h a o
end
section
variable {P : Program} {w : World} {H H' : Hp} {h h' : Heap} {a : Addr} {o : HO}
theorem f_.lt (x : f_ P w H h a o) : a < h.objs.size := by
 cases o with
 | lst xs => obtain ⟨_, _, _, _, e⟩ := x; exact Heap.lt_size e
 | tup xs => obtain ⟨_, _, _, p⟩ := x; exact p.lt
 | dK kvs => obtain ⟨_, _, _, _, o, _, _, e, _⟩ := x; exact Heap.lt_size e
 | dT kvs => obtain ⟨_, _, _, _, o, _, _, e, _⟩ := x; exact Heap.lt_size e
 | set S n => obtain ⟨o, _, _, _, e, _⟩ := x; exact Heap.lt_size e
 | ins C dx fs => obtain ⟨_, _, _, e, _⟩ := x; exact Heap.lt_size e
 | own y => obtain ⟨_, e⟩ := x; exact Heap.lt_size e
 | xd fs => obtain ⟨_, ⟨_, _, _, e, _⟩, _⟩ := x; exact Heap.lt_size e
 | rng lo hi => obtain ⟨_, _, _, e⟩ := x; exact Heap.lt_size e
 | frz ob u => obtain ⟨e, _⟩ := x; exact Heap.lt_size e
 | tbl ps => exact Heap.lt_size (show h.get? a = some _ from x)
 | met f y => exact Heap.lt_size (show h.get? a = some _ from x)
 | ext φ => obtain ⟨_, ⟨_, e⟩, _⟩ := x; exact Heap.lt_size e
theorem Paired.mapP {α β : Type} {F G : α → β → Prop} : ∀ {l₁ : List α} {l₂ : List β}, Paired F l₁ l₂ → (∀ a b, F a b → G a b) → Paired G l₁ l₂
 | _, _, .nil, _ => .nil
 | _, _, .cons r t, f => .cons (f _ _ r) (Paired.mapP t f)
theorem f_.stay (x : f_ P w H h a o) (k : ∀ b u, (b = a ∨ H b = some (.own a)) → h.get? b = some u → h'.get? b = some u)
  (ho : ∀ b, H b = some (.own a) → H' b = some (.own a)) (ht : ∀ b xs, H b = some (.tup xs) → H' b = some (.tup xs)) : f_ P w H' h' a o := by
 induction o with
 | lst xs => obtain ⟨z, its, n, r, e⟩ := x; exact ⟨z, its, n, r, k _ _ (.inl rfl) e⟩
 | tup xs => obtain ⟨z, its, r, ob, e, c⟩ := x; exact ⟨z, its, r, ob, k _ _ (.inl rfl) e, c⟩
 | dK kvs => obtain ⟨z, y, vs, r, ob, es, ep, e, c⟩ := x; exact ⟨z, y, vs, r, ob, es, ep, k _ _ (.inl rfl) e, c⟩
 | dT kvs =>
  obtain ⟨z, y, xs, r, ob, es, ep, e, c⟩ := x;exact ⟨z, y, xs, Paired.mapP r fun p q z => ⟨z.1, ht _ _ z.2.1, z.2.2⟩, ob, es, ep, k _ _ (.inl rfl) e, c⟩
 | set S n => obtain ⟨ob, es, ep, t, e, c⟩ := x; exact ⟨ob, es, ep, t, k _ _ (.inl rfl) e, c⟩
 | ins C dx fs =>
  obtain ⟨d, z, ne, e, mA, ⟨od, es, ep, e2, c⟩, r⟩ := x;exact ⟨ho _ d, z, ne, k _ _ (.inl rfl) e, mA, ⟨od, es, ep, k _ _ (.inr d) e2, c⟩, r⟩
 | own y => obtain ⟨ob, e⟩ := x; exact ⟨ob, k _ _ (.inl rfl) e⟩
 | xd fs => obtain ⟨mA, ⟨od, es, ep, e, c⟩, r⟩ := x; exact ⟨mA, ⟨od, es, ep, k _ _ (.inl rfl) e, c⟩, r⟩
 | rng lo hi => obtain ⟨t, u, v, e⟩ := x; exact ⟨t, u, v, k _ _ (.inl rfl) e⟩
 | frz ob u ih => obtain ⟨e, q⟩ := x; exact ⟨k _ _ (.inl rfl) e, ih q⟩
 | tbl ps =>
  have e : h.get? a = some { cls := .none, data := .fields ps } := x;show h'.get? a = some { cls := .none, data := .fields ps }
  exact k a _ (.inl rfl) e
 | met f y =>
  have e : h.get? a = some (PySem.W.methodObj (.ref f) (.ref y)) := x;show h'.get? a = some (PySem.W.methodObj (.ref f) (.ref y))
  exact k a _ (.inl rfl) e
 | ext φ => obtain ⟨p, ⟨o, e⟩, st⟩ := x; exact ⟨st _ _ p fun o q => k _ _ (.inl rfl) q, ⟨o, k _ _ (.inl rfl) e⟩, st⟩
theorem HOk.lt (x : HOk P w H h) (e : H a = some o) : a < h.objs.size := (x a o e).lt
theorem HOk.fresh (x : HOk P w H h) (e : h.objs.size ≤ a) : H a = none := by
 cases q : H a with
 | none => rfl
 | some u => exact absurd (Nat.lt_of_lt_of_le (x.lt q) e) (Nat.lt_irrefl _)
theorem HOk.kept (x : HOk P w H h) (k : ∀ b u, h.get? b = some u → h'.get? b = some u) : HOk P w H h' := fun a o e =>
 (x a o e).stay (fun b u _ q => k b u q) (fun _ q => q) fun _ _ q => q
theorem HOk.laid (x : HOk P w H h) (k : ∀ b u, h.get? b = some u → h'.get? b = some u) (hp : h.objs.size ≤ a) (new : f_ P w (upd H a o) h' a o) : HOk P w (upd H a o) h' := fun b u e => by
 have hn := x.fresh hp;by_cases hb : b = a
 ·subst hb; rw [cu] at e; cases e; exact new
 ·rw [aG hb] at e
  exact (x b u e).stay (fun c v _ q => k c v q) (fun c q => by rw [aG (aQ q hn)]; exact q) fun c xs q => by rw [aG (aQ q hn)]; exact q
end
noncomputable def Rd (H : Hp) (a : Addr) (u : HO) : Prop := H a = some u ∨ ∃ o, H a = some (.frz o u)
theorem Rd.ok {P : Program} {w : World} {H : Hp} {h : Heap} {a : Addr} {u : HO} (r : Rd H a u) (x : HOk P w H h) : f_ P w H h a u := by
 rcases r with r | ⟨o, r⟩
 ·exact x a u r
 ·obtain ⟨_, q⟩ := x a _ r
  exact q
noncomputable def Mut : Option HO → Prop
 | some (.lst _) => True
 | some (.dK _) => True
 | some (.dT _) => True
 | some (.set _ _) => True
 | some (.ins _ _ _) => True
 | some (.ext _) => True
 | _ => False
section
variable {P : Program} {w : World} {H : Hp} {h h' : Heap} {x e : Addr} {o' : HO}
theorem HOk.write (ok : HOk P w H h) (mu : Mut (H x)) (he : e = x ∨ H e = some (.own x)) (k : ∀ b u, b ≠ e → h.get? b = some u → h'.get? b = some u) (heo : ∃ u, h'.get? e = some u)
  (new : f_ P w (upd H x o') h' x o') : HOk P w (upd H x o') h' := fun b u q => by
 have nown : ∀ c y, H c = some (.own y) → c ≠ x := fun c y r z => by subst z; rw [r] at mu; exact mu
 have ntup : ∀ c xs, H c = some (.tup xs) → c ≠ x := fun c xs r z => by subst z; rw [r] at mu; exact mu
 by_cases hb : b = x
 ·subst hb; rw [cu] at q; cases q; exact new
 ·rw [aG hb] at q
  by_cases hbe : b = e
  ·have q' : H b = some (.own x) := by
    rcases he with z | z
    ·exact absurd (hbe.trans z) hb
    ·rw [hbe]; exact z
   rw [q] at q'; cases q';obtain ⟨v, hv⟩ := heo;exact ⟨v, by rw [hbe]; exact hv⟩
  ·refine (ok b u q).stay (fun c v hc r => k c v ?_ r) (fun c r => by rw [aG (nown c b r)]; exact r) fun c xs r => by rw [aG (ntup c xs r)]; exact r
   rcases hc with rfl | hc
   ·exact hbe
   ·rintro rfl
    rcases he with z | z
    ·exact nown c b hc z
    ·rw [hc] at z; cases z; exact hb rfl
end
structure Un (fs ex : List Addr) (H H' : Hp) (h h' : Heap) : Prop where
 keep : ∀ b o, h.get? b = some o → H b = none → b ∉ fs → b ∉ ex → h'.get? b = some o
 slot : ∀ b o, h.get? b = some o → H b = none → b ∈ fs → b ∉ ex → ∃ sl, h'.get? b = some { o with slots := sl }
 free : ∀ b o, h.get? b = some o → H b = none → b ∉ ex → H' b = none
 there : ∀ b o, h.get? b = some o → b ∉ ex → ∃ o', h'.get? b = some o'
 tups : ∀ b xs, H b = some (.tup xs) → H' b = some (.tup xs)
 frzs : ∀ b o u, H b = some (.frz o u) → H' b = some (.frz o u)
 tbls : ∀ b ps, H b = some (.tbl ps) → ∃ more, H' b = some (.tbl (ps ++ more))
section
variable {fs fs' ex ex' : List Addr} {H H1 H2 : Hp} {h h1 h2 h' : Heap} {a x e : Addr} {o : HO}
theorem Un.any (u : Un fs ex H H1 h h1) {b : Addr} {ob : Obj} (q : h.get? b = some ob) (n : H b = none) (hx : b ∉ ex) : ∃ sl, h1.get? b = some { ob with slots := sl } := by
 by_cases hb : b ∈ fs
 ·exact u.slot b ob q n hb hx
 ·exact ⟨ob.slots, u.keep b ob q n hb hx⟩
theorem Un.kept (k : ∀ b u, h.get? b = some u → h'.get? b = some u) : Un fs ex H H h h' :=
 ⟨fun b ob q _ _ _ => k b ob q, fun b ob q _ _ _ => ⟨ob.slots, k b ob q⟩, fun _ _ _ n _ => n, fun b ob q _ => ⟨ob, k b ob q⟩, fun _ _ q => q, fun _ _ _ q => q, fun _ ps q => ⟨#[], by rw [q]; simp⟩⟩
theorem Un.refl : Un fs ex H H h h := Un.kept fun _ _ q => q
theorem Un.laid (k : ∀ b u, h.get? b = some u → h'.get? b = some u) (hp : h.objs.size ≤ a) (hn : H a = none) : Un fs ex H (upd H a o) h h' where
 keep := fun b u q _ _ _ => k b u q
 slot := fun b u q _ _ _ => ⟨u.slots, k b u q⟩
 free := fun b u q n _ => by rw [aG (Nat.ne_of_lt (Nat.lt_of_lt_of_le (Heap.lt_size q) hp))]; exact n
 there := fun b u q _ => ⟨u, k b u q⟩
 tups := fun b xs q => by rw [aG (aQ q hn)]; exact q
 frzs := fun b u xs q => by rw [aG (aQ q hn)]; exact q
 tbls := fun b ps q => ⟨#[], by rw [aG (aQ q hn), q]; simp⟩
theorem Un.write (mu : Mut (H x)) (he : e = x ∨ H e = some (.own x)) (k : ∀ b u, b ≠ e → h.get? b = some u → h'.get? b = some u) (heo : ∃ u, h'.get? e = some u) : Un fs ex H (upd H x o) h h' := by
 have hx : ∀ b, H b = none → b ≠ x := fun b n z => by subst z; rw [n] at mu; exact mu
 have hb : ∀ b, H b = none → b ≠ e := fun b n z => by
  subst z;rcases he with r | r
  ·exact hx b n r
  ·rw [n] at r; cases r
 have hm : ∀ b u, H b = some u → ¬ Mut (some u) → b ≠ x := fun b u q nm z => by subst z; rw [q] at mu; exact nm mu
 refine ⟨fun b u q n _ _ => k b u (hb b n) q, fun b u q n _ _ => ⟨u.slots, k b u (hb b n) q⟩, fun b u q n _ => by rw [aG (hx b n)]; exact n, fun b u q _ => ?_,
  fun b xs q => by rw [aG (hm b _ q fun z => z)]; exact q, fun b u xs q => by rw [aG (hm b _ q fun z => z)]; exact q, fun b ps q => ⟨#[], by rw [aG (hm b _ q fun z => z), q]; simp⟩⟩
 by_cases hbe : b = e
 ·subst hbe; exact heo
 ·exact ⟨u, k b u hbe q⟩
end
noncomputable def trk (h : Heap) (H : Hp) : List Addr := (List.range h.objs.size).filter fun a => (H a).isSome
noncomputable def jC (h : Heap) (H : Hp) : Heap := PySem.W.hideAll h (trk h H)
theorem m9 (h : Heap) (H : Hp) : (jC h H).objs.size = h.objs.size := PySem.W.hideAll_size _ _
theorem p6 {h : Heap} {H : Hp} {b : Addr} {o : Obj} (e : h.get? b = some o) (n : H b = none) : (jC h H).get? b = some o :=
 PySem.W.hideAll_get _ e fun hm => by
  have q : (H b).isSome = true := (List.mem_filter.mp hm).2;rw [n] at q; simp at q
theorem rM {h : Heap} {H : Hp} {b : Addr} {o : Obj} (e : (jC h H).get? b = some o) : h.get? b = some o ∧ H b = none := by
 have e' : h.get? b = some o := PySem.W.of_hideAll (trk h H) e;refine ⟨e', ?_⟩;cases q : H b with
 | none => rfl
 | some x =>
  have hm : b ∈ trk h H := List.mem_filter.mpr ⟨List.mem_range.mpr (Heap.lt_size e'), by simp [q]⟩
  have z : (jC h H).get? b = none := PySem.W.hideAll_none (trk h H) hm;rw [z] at e; cases e
noncomputable def wH (g h : Heap) (L : Addr) : List (Addr × Obj) := (List.range h.objs.size).filterMap fun a => if a = L ∨ (g.get? a).isSome = true then none else (h.get? a).map fun o => (a, o)
noncomputable def rest (g h : Heap) (L d : Addr) : List (Addr × Obj) := (wH g h L).filter fun p => decide (p.1 ≠ d)
end L2
namespace L2
open PySem PySem.Spec PyProof.Rows
structure Mod (K : PySem.W.Frag) (mg : Str → Option Value) (base : Heap) : Prop where
 kin : K.In base
 glob : base.Ns mainGlobals mg
 blt : ∃ mb, base.Ns builtinsNs mb ∧ ∀ x : Str, x ≠ "__name__" → mb x = bootBuiltins x
 nolimit : base.NoLimit
structure Cx where
 prog : Program
 w : World
 K : PySem.W.Frag
 mg : Str → Option Value
 base : Heap
 A : Around
 N : List Str
 s₀ : Shared
 H₀ : Hp
 env : Env
 outer : List Env
 stack : List Env
 ex : List Addr
 fn : Str → Bool
 calm : Bool
 pn : List (Addr × Obj)
 xe : Value → Shared → Prop
noncomputable def frs (l : List Env) : List Addr := l.filterMap (·.frame)
noncomputable abbrev Cx.fs (X : Cx) : List Addr := frs X.outer
noncomputable def Vis (sc : Scope) (x : Str) : Prop := sc.names.lookup x = some .local ∨ sc.names.lookup x = some .cell ∨ sc.names.lookup x = some .free
noncomputable def Loc (sc : Scope) (x : Str) : Prop := sc.names.lookup x = some .local ∨ sc.names.lookup x = some .cell
noncomputable def Look (env : Env) (h : Heap) (m : Str → Option Value) (x : Str) (u : Value) : Prop :=
 (env.kindOf x = some .local ∧ m x = some u) ∨ ((env.kindOf x = some .cell ∨ env.kindOf x = some .free) ∧ ∃ c, env.cells.lookup x = some c ∧ h.IsCell c (some u))
structure Cx.Ok (X : Cx) : Prop where
 mod : Mod X.K X.mg X.base
 kind : X.env.scope.kind = .function
 glob : X.env.globals = mainGlobals
 blt : X.env.builtins = builtinsNs
 above : X.s₀.heap.objs.size ≤ X.env.locals
 inj : ∀ x y c, X.env.cells.lookup x = some c → X.env.cells.lookup y = some c → x = y
 has : ∀ x, (X.env.kindOf x = some .cell ∨ X.env.kindOf x = some .free) → ∃ c, X.env.cells.lookup x = some c
 cab : ∀ x c, X.fn x = true → X.env.cells.lookup x = some c → X.s₀.heap.objs.size ≤ c
 hd : X.calm = true → X.A.handled = none
 frames : X.A.frames = some X.stack
 stk : X.stack = X.outer ∨ (X.stack = X.env :: X.outer ∧ X.env.frame = some X.env.locals)
 exf : ∀ b ∈ X.ex, b ≠ X.env.locals ∧ ∀ x c, X.env.cells.lookup x = some c → c ≠ b
 bs : ∀ b o, X.base.get? b = some o → X.s₀.heap.get? b = some o ∧ X.H₀ b = none
 bsz : X.base.objs.size ≤ X.s₀.heap.objs.size
 noex : ∀ b o, X.base.get? b = some o → b ∉ X.ex
 exfs : ∀ b ∈ X.ex, b ∉ X.fs
 funs : X.s₀.heap.FunFrames X.base X.outer
 frf : ∀ b ∈ X.fs, X.H₀ b = none
structure Inv (X : Cx) (pins : List (Addr × Obj)) (σ : List (Option V)) (H : Hp) (s : Shared) : Prop where
 ok : X.Ok
 os : s.os = X.s₀.os
 bare : AllBare s.gens
 base : Un X.fs X.ex X.H₀ H X.s₀.heap s.heap
 loc : ∃ m, s.heap.Ns X.env.locals m ∧ ∀ (i : Nat) (x : Str) (v : V), X.N[i]? = some x → σ[i]? = some (some v) → Vis X.env.scope x → ∃ u, RelV v u ∧ Look X.env s.heap m x u
 cell : ∀ x c, X.env.cells.lookup x = some c → ∃ v, s.heap.IsCell c v
 free : H X.env.locals = none
 freeC : ∀ x c, X.env.cells.lookup x = some c → H c = none
 pin : ∀ p ∈ X.pn ++ pins, s.heap.get? p.1 = some p.2 ∧ H p.1 = none ∧ p.1 ≠ X.env.locals ∧ p.1 ∉ X.fs ∧ ∀ v, p.2.data ≠ .cell v
 hok : HOk X.prog X.w H s.heap
 len : σ.length = X.N.length
section
variable {X : Cx} {pins : List (Addr × Obj)} {σ : List (Option V)} {H H' : Hp} {s : Shared} {h' : Heap}
theorem Cx.Ok.nofr (ok : X.Ok) {b : Addr} {o : Obj} (e : X.base.get? b = some o) : b ∉ X.fs := fun hb => by
 have := (ok.funs.mem hb).1;rw [e] at this; cases this
theorem Inv.bs (I : Inv X pins σ H s) : ∀ b o, X.base.get? b = some o → s.heap.get? b = some o ∧ H b = none := fun b o e =>
 ⟨I.base.keep b o (I.ok.bs b o e).1 (I.ok.bs b o e).2 (I.ok.nofr e) (I.ok.noex b o e), I.base.free b o (I.ok.bs b o e).1 (I.ok.bs b o e).2 (I.ok.noex b o e)⟩
theorem Inv.bk (I : Inv X pins σ H s) : ∀ b o, X.base.get? b = some o → s.heap.get? b = some o := fun b o e => (I.bs b o e).1
theorem Inv.mod (I : Inv X pins σ H s) : Mod X.K X.mg X.base := I.ok.mod
theorem Inv.kIn (I : Inv X pins σ H s) : X.K.In s.heap := I.ok.mod.kin.keeps I.bk
theorem Inv.nolimit (I : Inv X pins σ H s) : s.heap.NoLimit := I.ok.mod.nolimit.keeps I.bk
theorem Inv.fr (I : Inv X pins σ H s) : ∃ m, Fr X.base X.env.locals s.heap m :=
 let ⟨m, hn, _⟩ := I.loc
 ⟨m, hn, I.bk, Nat.le_trans I.ok.bsz I.ok.above⟩
theorem Inv.lt (I : Inv X pins σ H s) : X.env.locals < s.heap.objs.size := let ⟨_, hn, _⟩ := I.loc; hn.lt
theorem Inv.sz (I : Inv X pins σ H s) : X.s₀.heap.objs.size ≤ s.heap.objs.size := Nat.le_trans I.ok.above (Nat.le_of_lt I.lt)
theorem Inv.nofs (I : Inv X pins σ H s) {a : Addr} (h : s.heap.objs.size ≤ a) : a ∉ X.fs := fun hb => by
 obtain ⟨_, o, ho, _⟩ := I.ok.funs.mem hb;exact absurd (Nat.lt_of_lt_of_le (Heap.lt_size ho) (Nat.le_trans I.sz h)) (Nat.lt_irrefl _)
theorem Inv.cne (I : Inv X pins σ H s) : ∀ x c, X.env.cells.lookup x = some c → c ≠ X.env.locals := fun x c e z => by
 obtain ⟨v, o, ho, hd⟩ := I.cell x c e;obtain ⟨m, ⟨o', es, ep, ho', hd', _⟩, _⟩ := I.loc;rw [z, ho'] at ho; cases ho; rw [hd'] at hd; cases hd
theorem Inv.funs (I : Inv X pins σ H s) : s.heap.FunFrames X.base X.outer := by
 have all : ∀ (l : List Env), (∀ b ∈ frs l, b ∈ X.fs) → X.s₀.heap.FunFrames X.base l → s.heap.FunFrames X.base l := by
  intro l
  induction l with
  | nil => intro _ _; trivial
  | cons env r ih =>
   intro hs hl;obtain ⟨hk, ⟨L, o, hf, hn, ho, hd⟩, hr⟩ := hl;have hL : L ∈ X.fs := hs L (by unfold frs; rw [List.filterMap_cons, hf]; exact List.mem_cons_self)
   obtain ⟨sl, e⟩ := I.base.slot L o ho (I.ok.frf L hL) hL fun z => I.ok.exfs L z hL
   exact ⟨hk, ⟨L, _, hf, hn, e, hd⟩, ih (fun b hb => hs b (by unfold frs; rw [List.filterMap_cons, hf]; exact List.mem_cons_of_mem _ hb)) hr⟩
 exact all X.outer (fun _ hb => hb) I.ok.funs
theorem Inv.stack (I : Inv X pins σ H s) : s.heap.FunFrames X.base X.stack := by
 rcases I.ok.stk with e | ⟨e, hf⟩
 ·rw [e]; exact I.funs
 ·rw [e]
  obtain ⟨m, hn, _⟩ := I.loc;refine .cons (by rw [I.ok.kind]; decide) hf hn ?_ I.funs
  exact Heap.get?_none_of_le (Nat.le_trans I.ok.bsz I.ok.above)
theorem Inv.stkSub (I : Inv X pins σ H s) : ∀ b ∈ frs X.stack, b ∈ X.env.locals :: X.fs := fun b hb => by
 rcases I.ok.stk with e | ⟨e, hf⟩
 ·rw [e] at hb; exact List.mem_cons_of_mem _ hb
 ·rw [e] at hb
  unfold frs at hb;rw [List.filterMap_cons, hf] at hb;exact hb
theorem Inv.stkFree (I : Inv X pins σ H s) : ∀ b ∈ frs X.stack, H b = none := fun b hb => by
 rcases List.mem_cons.mp (I.stkSub b hb) with e | hb
 ·rw [e]; exact I.free
 ·obtain ⟨_, o, ho, _⟩ := I.ok.funs.mem hb
  exact I.base.free b o ho (I.ok.frf b hb) fun z => I.ok.exfs b z hb
theorem Inv.step {g' : Array GenState} {t' : Nat} {d' : Drawn} {ch : List Addr} (I : Inv X pins σ H s)
  (hch : ∀ b ∈ ch, (b ∈ X.ex ∨ X.s₀.heap.objs.size ≤ b) ∧ b ≠ X.env.locals ∧ (∀ x c, X.env.cells.lookup x = some c → c ≠ b) ∧ ∀ p ∈ X.pn ++ pins, p.1 ≠ b)
  (keep : ∀ b o, b ≠ X.env.locals → b ∉ X.fs → b ∉ ch → s.heap.get? b = some o → H b = none → h'.get? b = some o)
  (slot : ∀ b o, b ≠ X.env.locals → b ∈ X.fs → b ∉ ch → s.heap.get? b = some o → H b = none → ∃ sl, h'.get? b = some { o with slots := sl }) (free : ∀ b o, b ∉ ch → s.heap.get? b = some o → H b = none → H' b = none)
  (there : ∀ b o, b ∉ ch → s.heap.get? b = some o → ∃ o', h'.get? b = some o')
  (tups : ∀ b xs, H b = some (.tup xs) → H' b = some (.tup xs)) (frzs : ∀ b o u, H b = some (.frz o u) → H' b = some (.frz o u)) (tbls : ∀ b ps, H b = some (.tbl ps) → ∃ more, H' b = some (.tbl (ps ++ more)))
  (ns : ∀ m, s.heap.Ns X.env.locals m → h'.Ns X.env.locals m) (hok : HOk X.prog X.w H' h') (hg : AllBare g') :
  Inv X pins σ H' { s with heap := h', gens := g', drawn := d', toks := t' } := by
 have neL : ∀ b o, X.s₀.heap.get? b = some o → b ≠ X.env.locals := fun b o e => Nat.ne_of_lt (Nat.lt_of_lt_of_le (Heap.lt_size e) I.ok.above)
 have neC : ∀ b o, X.s₀.heap.get? b = some o → b ∉ X.ex → b ∉ ch := fun b o e hx hb => by
  rcases (hch b hb).1 with z | z
  ·exact hx z
  ·exact absurd (Nat.lt_of_lt_of_le (Heap.lt_size e) z) (Nat.lt_irrefl _)
 have cellK : ∀ x c, X.env.cells.lookup x = some c → ∀ v, s.heap.IsCell c v → h'.IsCell c v := fun x c e v ⟨o, ho, hd⟩ => by
  have nch : c ∉ ch := fun z => (hch c z).2.2.1 x c e rfl
  by_cases hc : c ∈ X.fs
  ·obtain ⟨sl, q⟩ := slot c o (I.cne x c e) hc nch ho (I.freeC x c e)
   exact ⟨_, q, hd⟩
  ·exact ⟨o, keep c o (I.cne x c e) hc nch ho (I.freeC x c e), hd⟩
 refine ⟨I.ok, I.os, hg, ⟨fun b o e n hb hx => ?_, fun b o e n hb hx => ?_, fun b o e n hx => ?_, fun b o e hx => ?_, fun b xs e => tups b xs (I.base.tups b xs e), fun b o xs e => frzs b o xs (I.base.frzs b o xs e), fun b ps e => ?_⟩, ?_, fun x c e => ?_, ?_, fun x c e => ?_, fun p hp => ?_, hok, I.len⟩
 ·exact keep b o (neL b o e) hb (neC b o e hx) (I.base.keep b o e n hb hx) (I.base.free b o e n hx)
 ·obtain ⟨sl, e1⟩ := I.base.slot b o e n hb hx
  obtain ⟨sl', e2⟩ := slot b _ (neL b o e) hb (neC b o e hx) e1 (I.base.free b o e n hx);exact ⟨sl', e2⟩
 ·obtain ⟨o', e1⟩ := I.base.there b o e hx
  exact free b o' (neC b o e hx) e1 (I.base.free b o e n hx)
 ·obtain ⟨o', e1⟩ := I.base.there b o e hx
  exact there b o' (neC b o e hx) e1
 ·obtain ⟨m1, e1⟩ := I.base.tbls b ps e
  obtain ⟨m2, e2⟩ := tbls b _ e1;exact ⟨m1 ++ m2, by rw [e2, Array.append_assoc]⟩
 ·obtain ⟨m, hn, hl⟩ := I.loc
  refine ⟨m, ns m hn, fun i x v e1 e2 e3 => ?_⟩
  obtain ⟨u, r, l⟩ := hl i x v e1 e2 e3;refine ⟨u, r, ?_⟩;rcases l with l | ⟨k, c, e, z⟩
  ·exact .inl l
  ·exact .inr ⟨k, c, e, cellK x c e _ z⟩
 ·obtain ⟨v, z⟩ := I.cell x c e
  exact ⟨v, cellK x c e v z⟩
 ·obtain ⟨m, ⟨o, _, _, ho, _⟩, _⟩ := I.loc
  exact free _ o (fun z => (hch _ z).2.1 rfl) ho I.free
 ·obtain ⟨v, o, ho, hd⟩ := I.cell x c e
  exact free c o (fun z => (hch c z).2.2.1 x c e rfl) ho (I.freeC x c e)
 ·obtain ⟨e, n, ne, nf, d⟩ := I.pin p hp
  have nch : p.1 ∉ ch := fun z => (hch p.1 z).2.2.2 p hp rfl
  exact ⟨keep p.1 p.2 ne nf nch e n, free p.1 p.2 nch e n, ne, nf, d⟩
theorem Inv.un {t' : Nat} (I : Inv X pins σ H s) (u : Un X.fs [] H H' s.heap h') (hok : HOk X.prog X.w H' h') : Inv X pins σ H' { s with heap := h', toks := t' } := by
 obtain ⟨m, ⟨o, es, ep, ho, r⟩, _⟩ := id I.loc;obtain ⟨sl, hL⟩ := u.any ho I.free (by simp)
 exact I.step (g' := s.gens) (d' := s.drawn) (ch := []) (fun _ z => nomatch z) (fun b o _ hb _ e n => u.keep b o e n hb (by simp)) (fun b o _ hb _ e n => u.slot b o e n hb (by simp)) (fun b o _ e n => u.free b o e n (by simp)) (fun b o _ e => u.there b o e (by simp)) u.tups u.frzs u.tbls (fun m' hm => by
  obtain ⟨o', es', ep', ho', r'⟩ := hm;rw [ho] at ho'; cases ho';exact ⟨_, es', ep', hL, r'⟩) hok I.bare
theorem Inv.call {g' : Array GenState} {t' : Nat} {d' : Drawn} {ch : List Addr} (I : Inv X pins σ H s) (u : Un (frs X.stack) ch H H' s.heap h') (hok : HOk X.prog X.w H' h') (hg : AllBare g')
  (hch : ∀ b ∈ ch, (b ∈ X.ex ∨ X.s₀.heap.objs.size ≤ b) ∧ b ≠ X.env.locals ∧ (∀ x c, X.env.cells.lookup x = some c → c ≠ b) ∧ ∀ p ∈ X.pn ++ pins, p.1 ≠ b) :
  Inv X pins σ H' { s with heap := h', gens := g', drawn := d', toks := t' } := by
 obtain ⟨m, ⟨o, es, ep, ho, r⟩, _⟩ := id I.loc;obtain ⟨sl, hL⟩ := u.any ho I.free fun z => (hch _ z).2.1 rfl
 exact I.step (ch := ch) hch (fun b o hL hb hc e n => u.keep b o e n (fun z => (List.mem_cons.mp (I.stkSub b z)).elim hL hb) hc) (fun b o _ _ hc e n => u.any e n hc) (fun b o hc e n => u.free b o e n hc) (fun b o hc e => u.there b o e hc) u.tups u.frzs u.tbls (fun m' hm => by
  obtain ⟨o', es', ep', ho', r'⟩ := hm;rw [ho] at ho'; cases ho';exact ⟨_, es', ep', hL, r'⟩) hok hg
theorem Inv.turned {t' : Nat} {it : Addr} (I : Inv X pins σ H s) (k : ∀ b o, b ≠ it → s.heap.get? b = some o → h'.get? b = some o) (hn : H it = none) (hL : it ≠ X.env.locals)
  (h1 : it ∈ X.ex ∨ X.s₀.heap.objs.size ≤ it) (h2 : ∀ x c, X.env.cells.lookup x = some c → c ≠ it) (h3 : ∀ p ∈ X.pn ++ pins, p.1 ≠ it) : Inv X pins σ H { s with heap := h', toks := t' } := by
 have nit : ∀ b u, H b = some u → b ≠ it := fun b u e z => by rw [z, hn] at e; cases e
 refine I.step (g' := s.gens) (d' := s.drawn) (ch := [it]) (fun b hb => ?_) (fun b o _ _ hc e _ => k b o (fun z => hc (by simp [z])) e) (fun b o _ _ hc e _ => ⟨o.slots, k b o (fun z => hc (by simp [z])) e⟩) (fun _ _ _ _ n => n)
  (fun b o hc e => ⟨o, k b o (fun z => hc (by simp [z])) e⟩) (fun _ _ e => e) (fun _ _ _ e => e) (fun b ps e => ⟨#[], by rw [e]; simp⟩) (fun m hm => ?_) (fun b u e => ?_) I.bare
 ·have e : b = it := by simpa using hb
  subst e;exact ⟨h1, hL, h2, h3⟩
 ·obtain ⟨o, es, ep, ho, r⟩ := hm
  exact ⟨o, es, ep, k _ o (Ne.symm hL) ho, r⟩
 ·refine (I.hok b u e).stay (fun c v hc q => k c v ?_ q) (fun _ q => q) fun _ _ q => q
  rcases hc with z | z
  ·rw [z]; exact nit b u e
  ·exact nit c _ z
theorem Inv.tok (I : Inv X pins σ H s) (t : Nat) : Inv X pins σ H { s with toks := t } := I.un (h' := s.heap) (t' := t) Un.refl I.hok
theorem Inv.kept {t' : Nat} (I : Inv X pins σ H s) (k : ∀ b u, s.heap.get? b = some u → h'.get? b = some u) : Inv X pins σ H { s with heap := h', toks := t' } := I.un (Un.kept k) (I.hok.kept k)
theorem Inv.laid {a : Addr} {o : HO} {t' : Nat} (I : Inv X pins σ H s) (k : ∀ b u, s.heap.get? b = some u → h'.get? b = some u) (hp : s.heap.objs.size ≤ a) (new : f_ X.prog X.w (upd H a o) h' a o) :
  Inv X pins σ (upd H a o) { s with heap := h', toks := t' } := I.un (Un.laid k hp (I.hok.fresh hp)) (I.hok.laid k hp new)
theorem Inv.write {x e : Addr} {o : HO} {t' : Nat} (I : Inv X pins σ H s) (mu : Mut (H x)) (he : e = x ∨ H e = some (.own x)) (k : ∀ b u, b ≠ e → s.heap.get? b = some u → h'.get? b = some u) (heo : ∃ u, h'.get? e = some u)
  (new : f_ X.prog X.w (upd H x o) h' x o) : Inv X pins σ (upd H x o) { s with heap := h', toks := t' } := I.un (Un.write mu he k heo) (I.hok.write mu he k heo new)
theorem Inv.weak {σ' : List (Option V)} (I : Inv X pins σ H s) (hl : σ'.length = σ.length) (w : ∀ (i : Nat) v, σ'[i]? = some (some v) → σ[i]? = some (some v)) : Inv X pins σ' H s :=
 ⟨I.ok, I.os, I.bare, I.base, let ⟨m, hn, hl'⟩ := I.loc; ⟨m, hn, fun i x v e1 e2 e3 => hl' i x v e1 (w i v e2) e3⟩, I.cell, I.free, I.freeC, I.pin, I.hok, hl.trans I.len⟩
theorem Inv.pins_of {pins' : List (Addr × Obj)} (I : Inv X pins σ H s) (h : ∀ p ∈ pins', s.heap.get? p.1 = some p.2 ∧ H p.1 = none ∧ p.1 ≠ X.env.locals ∧ p.1 ∉ X.fs ∧ ∀ v, p.2.data ≠ .cell v) : Inv X pins' σ H s :=
 ⟨I.ok, I.os, I.bare, I.base, I.loc, I.cell, I.free, I.freeC, fun p hp => (List.mem_append.mp hp).elim (fun z => I.pin p (List.mem_append_left _ z)) (h p), I.hok, I.len⟩
theorem pG {N : List Str} (hN : N.Nodup) {i j : Nat} {x : Str} (a : N[i]? = some x) (b : N[j]? = some x) : i = j := by
 obtain ⟨h1, e1⟩ := List.getElem?_eq_some_iff.mp a;obtain ⟨h2, e2⟩ := List.getElem?_eq_some_iff.mp b;exact (List.getElem_inj hN).mp (e1.trans e2.symm)
theorem tF {M : Model} {A : Around} {E : Value → Shared → Prop} {i : Nat} {x : Str} {v : V} {u : Value} {Q : Unit → Shared → Prop} (I : Inv X pins σ H s) (hN : X.N.Nodup) (hi : X.N[i]? = some x) (hx : Loc X.env.scope x) (r : RelV v u)
  (h : ∀ s', Inv X pins (σ.set i (some v)) H s' → (∃ a, Heap.SameBut a s.heap s'.heap ∧ (a = X.env.locals ∨ X.env.cells.lookup x = some a)) → Q () s') (hf : X.fn x = true ∨ X.env.scope.names.lookup x = some .local := by first | exact .inl rfl | exact .inr rfl | assumption) : wpAny M A (storeName X.env x u) Q E s := by
 obtain ⟨m, hn, hl⟩ := id I.loc;have hcls : (X.env.scope.kind == .class || (X.env.scope.kind == .module && X.env.locals != X.env.globals)) = false := by rw [I.ok.kind]; rfl
 have hiσ : i < σ.length := by rw [I.len]; exact (List.getElem?_eq_some_iff.mp hi).1
 have cne := I.cne;have tracked : ∀ {a : Addr} {h' : Heap}, (∃ o, s.heap.get? a = some o ∧ H a = none) → Heap.SameBut a s.heap h' → HOk X.prog X.w H h' := fun {a h'} ha hs b ob e => by
  obtain ⟨_, _, hfree⟩ := ha;refine (I.hok b ob e).stay (fun c w' hc q => (hs.2 c ?_).trans q) (fun _ q => q) fun _ _ q => q
  rintro rfl;rcases hc with rfl | hc
  ·rw [hfree] at e; cases e
  ·rw [hfree] at hc; cases hc
 rcases hx with hk | hk
 ·refine wpAny_storeName_local hk hn (fun h' hn' hs => ?_) hcls
  obtain ⟨oL, _, _, hoL, _⟩ := id hn;refine h _ ⟨I.ok, I.os, I.bare, ⟨fun b o e n hb hx => ?_, fun b o e n hb hx => ?_, I.base.free, fun b o e hx => ?_, I.base.tups, I.base.frzs, I.base.tbls⟩, ⟨_, hn', fun j y v' e1 e2 e3 => ?_⟩, fun y c e => ?_, I.free, I.freeC, fun p hp => ?_, tracked ⟨oL, hoL, I.free⟩ hs, by simpa using I.len⟩ ⟨_, hs, .inl rfl⟩
  ·exact (hs.2 b (Nat.ne_of_lt (Nat.lt_of_lt_of_le (Heap.lt_size e) I.ok.above))).trans (I.base.keep b o e n hb hx)
  ·obtain ⟨sl, e1⟩ := I.base.slot b o e n hb hx
   exact ⟨sl, (hs.2 b (Nat.ne_of_lt (Nat.lt_of_lt_of_le (Heap.lt_size e) I.ok.above))).trans e1⟩
  ·obtain ⟨o', e1⟩ := I.base.there b o e hx
   exact ⟨o', (hs.2 b (Nat.ne_of_lt (Nat.lt_of_lt_of_le (Heap.lt_size e) I.ok.above))).trans e1⟩
  ·by_cases hj : j = i
   ·subst hj
    rw [hi] at e1; cases e1;rw [List.getElem?_set_self hiσ] at e2;cases e2;exact ⟨u, r, .inl ⟨hk, by simp⟩⟩
   ·rw [List.getElem?_set_ne (Ne.symm hj)] at e2
    obtain ⟨u', r', q⟩ := hl j y v' e1 e2 e3;refine ⟨u', r', ?_⟩;rcases q with ⟨k, e⟩ | ⟨k, c, e, z⟩
    ·refine .inl ⟨k, ?_⟩
     have : y ≠ x := fun e => hj (pG hN e1 (e ▸ hi))
     simp [this, e]
    ·exact .inr ⟨k, c, e, z.sameBut hs (cne y c e)⟩
  ·obtain ⟨w', z⟩ := I.cell y c e
   exact ⟨w', z.sameBut hs (cne y c e)⟩
  ·obtain ⟨e, n, ne, nf, d⟩ := I.pin p hp
   exact ⟨(hs.2 p.1 ne).trans e, n, ne, nf, d⟩
 ·have hfn : X.fn x = true := by
   rcases hf with z | z
   ·exact z
   ·rw [z] at hk; cases hk
  obtain ⟨c, hc⟩ := I.ok.has x (.inl hk);obtain ⟨w', z⟩ := I.cell x c hc;refine wpAny_storeName_cell I.ok.kind hk hc z (fun h' hc' hs => ?_)
  obtain ⟨oc, hoc, hocd⟩ := id z;refine h { s with heap := h' } ⟨I.ok, I.os, I.bare, ⟨fun b o e n hb hx => ?_, fun b o e n hb hx => ?_, I.base.free, fun b o e hx => ?_, I.base.tups, I.base.frzs, I.base.tbls⟩, ⟨m, hn.sameBut hs (Ne.symm (cne x c hc)), fun j y v' e1 e2 e3 => ?_⟩, fun y c' e => ?_, I.free, I.freeC, fun p hp => ?_, tracked ⟨oc, hoc, I.freeC x c hc⟩ hs, by simpa using I.len⟩ ⟨c, hs, .inr hc⟩
  ·exact (hs.2 b (Nat.ne_of_lt (Nat.lt_of_lt_of_le (Heap.lt_size e) (I.ok.cab x c hfn hc)))).trans (I.base.keep b o e n hb hx)
  ·obtain ⟨sl, e1⟩ := I.base.slot b o e n hb hx
   exact ⟨sl, (hs.2 b (Nat.ne_of_lt (Nat.lt_of_lt_of_le (Heap.lt_size e) (I.ok.cab x c hfn hc)))).trans e1⟩
  ·obtain ⟨o', e1⟩ := I.base.there b o e hx
   exact ⟨o', (hs.2 b (Nat.ne_of_lt (Nat.lt_of_lt_of_le (Heap.lt_size e) (I.ok.cab x c hfn hc)))).trans e1⟩
  ·by_cases hj : j = i
   ·subst hj
    rw [hi] at e1; cases e1;rw [List.getElem?_set_self hiσ] at e2;cases e2;exact ⟨u, r, .inr ⟨.inl hk, c, hc, hc'⟩⟩
   ·rw [List.getElem?_set_ne (Ne.symm hj)] at e2
    obtain ⟨u', r', q⟩ := hl j y v' e1 e2 e3;refine ⟨u', r', ?_⟩;rcases q with q | ⟨k, c', e, z'⟩
    ·exact .inl q
    ·refine .inr ⟨k, c', e, z'.sameBut hs ?_⟩
     rintro rfl;exact hj (pG hN e1 (I.ok.inj _ _ _ e hc ▸ hi))
  ·by_cases hcc : c' = c
   ·subst hcc; exact ⟨_, hc'⟩
   ·obtain ⟨w2, z2⟩ := I.cell y c' e
    exact ⟨w2, z2.sameBut hs hcc⟩
  ·obtain ⟨e, n, ne, nf, d⟩ := I.pin p hp
   refine ⟨(hs.2 p.1 ?_).trans e, n, ne, nf, d⟩;intro q;rw [q, hoc] at e;have q' : oc = p.2 := Option.some.inj e;exact d w' (by rw [← q']; exact hocd)
theorem j6 {M : Model} {A : Around} {E : Value → Shared → Prop} {i : Nat} {x : Str} {v : V} {u : Value} {Q : Unit → Shared → Prop} (I : Inv X pins σ H s) (hN : X.N.Nodup) (hi : X.N[i]? = some x) (hx : Loc X.env.scope x) (r : RelV v u)
  (h : ∀ s', Inv X pins (σ.set i (some v)) H s' → Q () s') (hf : X.fn x = true ∨ X.env.scope.names.lookup x = some .local := by first | exact .inl rfl | exact .inr rfl | assumption) : wpAny M A (storeName X.env x u) Q E s :=
 tF I hN hi hx r (fun s' I' _ => h s' I') hf
theorem Inv.call' {s' : Shared} {ch : List Addr} (I : Inv X pins σ H s) (ho : s'.os = s.os) (u : Un (frs X.stack) ch H H' s.heap s'.heap) (hok : HOk X.prog X.w H' s'.heap) (hg : AllBare s'.gens)
  (hch : ∀ b ∈ ch, (b ∈ X.ex ∨ X.s₀.heap.objs.size ≤ b) ∧ b ≠ X.env.locals ∧ (∀ x c, X.env.cells.lookup x = some c → c ≠ b) ∧ ∀ p ∈ X.pn ++ pins, p.1 ≠ b) : Inv X pins σ H' s' := by
 obtain ⟨h', g', d', t', o'⟩ := s';have e : o' = s.os := ho;subst e;exact I.call (g' := g') (t' := t') (d' := d') u hok hg hch
end
noncomputable abbrev XK := Value → Option Addr → Hp → Prop
noncomputable abbrev St := List (Option V)
noncomputable abbrev VK := V → Hp → Prop
noncomputable abbrev TE := St → Hp → VK → Prop
noncomputable abbrev TT := St → Hp → (Bool → Hp → Prop) → Prop
noncomputable abbrev TA := St → Hp → (List V → Hp → Prop) → Prop
structure Ends where
 nx : St → Hp → Prop
 rt : VK
 bk : St → Hp → Prop := fun _ _ => False
 ct : St → Hp → Prop := fun _ _ => False
noncomputable abbrev TS := Ends → St → Hp → Prop
noncomputable def EP (X : Cx) (pins : List (Addr × Obj)) (σ : St) (Q : VK) (u : Value) (s' : Shared) : Prop := ∃ v H', Inv X pins σ H' s' ∧ RelV v u ∧ Q v H'
noncomputable def TP (X : Cx) (pins : List (Addr × Obj)) (σ : St) (Q : Bool → Hp → Prop) (b : Bool) (s' : Shared) : Prop := ∃ H', Inv X pins σ H' s' ∧ Q b H'
noncomputable def AP (X : Cx) (pins : List (Addr × Obj)) (σ : St) (Q : List V → Hp → Prop) (us : List Value) (s' : Shared) : Prop := ∃ vs H', Inv X pins σ H' s' ∧ Vals vs us ∧ Q vs H'
noncomputable def SP (X : Cx) (pins : List (Addr × Obj)) (D : Ends) (f : Flow) (s' : Shared) : Prop :=
 match f with
 | .next => ∃ σ' H', Inv X pins σ' H' s' ∧ D.nx σ' H'
 | .brk => ∃ σ' H', Inv X pins σ' H' s' ∧ D.bk σ' H'
 | .cont => ∃ σ' H', Inv X pins σ' H' s' ∧ D.ct σ' H'
 | .ret u => ∃ v σ' H', Inv X pins σ' H' s' ∧ RelV v u ∧ D.rt v H'
noncomputable def PE (X : Cx) (e : Expr) (t : TE) : Prop :=
 ∀ (pins : List (Addr × Obj)) (s : Shared) (σ : St) (H : Hp) (Q : VK), Inv X pins σ H s → t σ H Q → wpAny (model X.prog X.w) X.A (eval e X.env) (EP X pins σ Q) X.xe s
noncomputable def PT (X : Cx) (e : Expr) (t : TT) : Prop :=
 ∀ (pins : List (Addr × Obj)) (s : Shared) (σ : St) (H : Hp) (Q : Bool → Hp → Prop), Inv X pins σ H s → t σ H Q → wpAny (model X.prog X.w) X.A (isTrue e X.env (eval e X.env)) (TP X pins σ Q) X.xe s
noncomputable def PW (X : Cx) (e : Expr) (t : TT) : Prop :=
 ∀ (whole : Sem Value) (pins : List (Addr × Obj)) (s : Shared) (σ : St) (H : Hp) (Q : Bool → Hp → Prop), Inv X pins σ H s → t σ H Q → wpAny (model X.prog X.w) X.A (isTrue e X.env whole) (TP X pins σ Q) X.xe s
theorem PW.pt {X : Cx} {e : Expr} {t : TT} (h : PW X e t) : PT X e t := h _
noncomputable def PA (X : Cx) (es : List Expr) (t : TA) : Prop :=
 ∀ (pos : Pos) (pins : List (Addr × Obj)) (s : Shared) (σ : St) (H : Hp) (Q : List V → Hp → Prop), Inv X pins σ H s → t σ H Q → wpAny (model X.prog X.w) X.A (spliced (backTo pos (starEach es X.env))) (AP X pins σ Q) X.xe s
noncomputable def PS (X : Cx) (st : Stmt) (t : TS) : Prop :=
 ∀ (pins : List (Addr × Obj)) (s : Shared) (σ : St) (H : Hp) (D : Ends), Inv X pins σ H s → t D σ H → wpAny (model X.prog X.w) X.A (exec st X.env) (SP X pins D) X.xe s
noncomputable def PSs (X : Cx) (st : List Stmt) (t : TS) : Prop :=
 ∀ (pins : List (Addr × Obj)) (s : Shared) (σ : St) (H : Hp) (D : Ends), Inv X pins σ H s → t D σ H → wpAny (model X.prog X.w) X.A (execs st X.env) (SP X pins D) X.xe s
theorem thn {α : Type} {t : Sem α} {Q Q' : α → Shared → Prop} {M : Model} {A : Around} {E : Value → Shared → Prop} {s : Shared} (h : wpAny M A t Q E s) (hQ : ∀ a s, Q a s → Q' a s) : wpAny M A t Q' E s := wpAny_mono h hQ fun _ _ x => x
end L2
namespace L2
open PySem PySem.Spec PyProof.Rows
section
variable {X : Cx}
theorem bin {a b : Expr} {ta tb : TE} (ha : PE X a ta) (hb : PE X b tb) {pins : List (Addr × Obj)} {s : Shared} {σ : St} {H : Hp} {R : V → V → Hp → Prop} (I : Inv X pins σ H s) (h : ta σ H fun x H1 => tb σ H1 fun y H2 => R x y H2)
  {α : Type} {Q : α → Shared → Prop} {f : Value → Value → Sem α}
  (hf : ∀ v u s2 x y H2, Inv X pins σ H2 s2 → RelV x v → RelV y u → R x y H2 → wpAny (model X.prog X.w) X.A (f v u) Q X.xe s2) :
  wpAny (model X.prog X.w) X.A (eval a X.env) (fun v s₁ => wpAny (model X.prog X.w) X.A (eval b X.env) (fun u s₂ => wpAny (model X.prog X.w) X.A (f v u) Q X.xe s₂) X.xe s₁) X.xe s := by
 refine thn (ha pins s σ H _ I h) fun v s1 ⟨x, H1, I1, r1, q1⟩ => ?_
 refine thn (hb pins s1 σ H1 _ I1 q1) fun u s2 ⟨y, H2, I2, r2, q2⟩ => ?_
 exact hf v u s2 x y H2 I2 r1 r2 q2
noncomputable def iE (i : Nat) : TE := fun σ H Q => ∃ v, σ[i]? = some (some v) ∧ Q v H
noncomputable def tC (v : V) : TE := fun _ H Q => Q v H
theorem gx {i : Nat} {x : Str} {pos : Pos} (hN : X.N[i]? = some x) (hv : Vis X.env.scope x) (hd : (x == ("__debug__" : Str)) = false := by decide) (hcd : (x == ("__classdict__" : Str)) = false := by decide) : PE X (.Name x pos) (iE i) := by
 intro pins s σ H Q I h;obtain ⟨v, e, h⟩ := h;obtain ⟨m, hn, hl⟩ := I.loc;obtain ⟨u, r, l⟩ := hl i x v hN e hv;have fin : EP X pins σ Q u s := ⟨v, H, I, r, h⟩;rcases l with ⟨hk, hm⟩ | ⟨hk, c, hc, hcell⟩
 ·exact wpAny_Name (wpAny_loadName_local I.ok.kind hk hn hm fin) hd
 ·rcases hk with hk | hk
  ·exact wpAny_Name (wpAny_loadName_cell I.ok.kind hk hc hcell fin) hd
  ·exact wpAny_Name (wpAny_loadName_free I.ok.kind hk hc hcell fin hcd) hd
theorem Bd {i j pos} : PE X (.Constant (.int i) j pos) (tC (.int i)) := fun _ _ _ H _ I h => wpAny_Constant_int ⟨.int i, H, I.tok _, ⟨_, rfl⟩, h⟩
theorem DD {b j pos} : PE X (.Constant (.bool b) j pos) (tC (.bl b)) := fun _ _ _ H _ I h => Constant_bool ⟨.bl b, H, I, rfl, h⟩
theorem BH {x j pos} : PE X (.Constant (.str x) j pos) (tC (.str x)) := fun _ _ _ H _ I h => Calls.Constant_str ⟨.str x, H, I.tok _, ⟨_, rfl⟩, h⟩
noncomputable def Gl (X : Cx) (x : Str) : Prop := X.env.kindOf x = some .globalImplicit
theorem rj {E : Value → Shared → Prop} {pins : List (Addr × Obj)} {s : Shared} {σ : St} {H : Hp} {x : Str} {u : Value} {pos : Pos} {Q : Value → Shared → Prop} (I : Inv X pins σ H s) (hg : Gl X x) (hm : X.mg x = some u) (h : Q u s)
  (hd : (x == ("__debug__" : Str)) = false := by decide) : wpAny (model X.prog X.w) X.A (eval (.Name x pos) X.env) Q E s :=
 Calls.Name_function_global I.ok.kind hg (Calls.loadGlobal_global (by rw [I.ok.glob]; exact I.mod.glob.keeps I.bk) hm h) hd
theorem iH {E : Value → Shared → Prop} {pins : List (Addr × Obj)} {s : Shared} {σ : St} {H : Hp} {x : Str} {u : Value} {pos : Pos} {Q : Value → Shared → Prop} (I : Inv X pins σ H s) (hg : Gl X x) (hm : X.mg x = none) (hv : bootBuiltins x = some u) (h : Q u s)
  (hn : x ≠ "__name__" := by decide) (hd : (x == ("__debug__" : Str)) = false := by decide) : wpAny (model X.prog X.w) X.A (eval (.Name x pos) X.env) Q E s := by
 obtain ⟨mb, h1, h2⟩ := I.mod.blt;exact Calls.Name_function_global I.ok.kind hg (Calls.loadGlobal_builtin (by rw [I.ok.glob]; exact I.mod.glob.keeps I.bk) hm (by rw [I.ok.blt]; exact h1.keeps I.bk) ((h2 x hn).trans hv) h) hd
theorem yn {x : Str} {v : V} {u : Value} {pos : Pos} (hg : Gl X x) (hm : X.mg x = some u) (r : RelV v u) (hd : (x == ("__debug__" : Str)) = false := by decide) : PE X (.Name x pos) (tC v) :=
 fun _ _ _ H _ I h => rj I hg hm ⟨v, H, I, r, h⟩ hd
theorem yj {x : Str} {v : V} {u : Value} {pos : Pos} (hg : Gl X x) (hm : X.mg x = none) (hv : bootBuiltins x = some u) (r : RelV v u) (hn : x ≠ "__name__" := by decide) (hd : (x == ("__debug__" : Str)) = false := by decide) : PE X (.Name x pos) (tC v) :=
 fun _ _ _ H _ I h => iH I hg hm hv ⟨v, H, I, r, h⟩ hn hd
variable {a b : Expr} {ta tb : TE} {pos : Pos}
noncomputable def PC (X : Cx) (op : CmpOp) (a b : Expr) (t : TE) : Prop :=
 ∀ (pins : List (Addr × Obj)) (s : Shared) (σ : St) (H : Hp) (Q : VK), Inv X pins σ H s → t σ H Q →
  wpAny (model X.prog X.w) X.A (eval a X.env) (fun v s₁ => wpAny (model X.prog X.w) X.A (eval b X.env) (fun u s₂ => wpAny (model X.prog X.w) X.A (compareOp op v u) (EP X pins σ Q) X.xe s₂) X.xe s₁) X.xe s
theorem v_ (b : Expr) {op : CmpOp} (h : op ≠ .In) (h2 : op ≠ .NotIn) : behindInMarks op b = false := by
 have e1 : (op == CmpOp.In) = false := by cases op <;> first | rfl | exact absurd rfl h
 have e2 : (op == CmpOp.NotIn) = false := by cases op <;> first | rfl | exact absurd rfl h2
 cases b <;> simp [behindInMarks, e1, e2]
noncomputable def tB (t : TE) : TT := fun σ H Q => t σ H fun x H1 => ∃ c, x = .bl c ∧ Q c H1
theorem E7 {op : CmpOp} {t : TE} (h : PC X op a b t) (h1 : behindInMarks op b = false := by first | exact v_ _ (by decide) (by decide) | rfl) : PT X (.Compare a [op] [b] pos) (tB t) := by
 intro pins s σ H Q I hw;refine wpAny_isTrue_Compare1 (thn (h pins s σ H _ I hw) fun v s1 h1 => thn h1 fun u s2 h2 => thn h2 fun c s3 ⟨x, H1, I1, r1, q1⟩ => ?_) h1
 obtain ⟨d, rfl, q⟩ := q1;cases r1;exact wpAny_truthy_bool ⟨H1, I1, q⟩
theorem AS {e : Expr} {t : TE} (h : PE X e t) (he : ∀ whole, isTrue e X.env whole = (do let v ← whole; standAt e.pos; holding [v] (truthy v)) := by intro _; rfl) : PT X e (tB t) := by
 intro pins s σ H Q I hw;refine isTrue_plain (thn (h pins s σ H _ I hw) fun v s1 ⟨x, H1, I1, r1, q1⟩ => ?_) (he _)
 obtain ⟨d, rfl, q⟩ := q1;cases r1;exact wpAny_truthy_bool ⟨H1, I1, q⟩
variable {tA tB' : TT} {rest : List Expr}
noncomputable def CJ (t u : TT) : TT := fun σ H Q => t σ H fun c H1 => if c = true then u σ H1 Q else Q false H1
noncomputable def tOr (t u : TT) : TT := fun σ H Q => t σ H fun c H1 => if c = true then Q true H1 else u σ H1 Q
noncomputable def B0 (t : TT) : TT := fun σ H Q => t σ H fun c H1 => Q (!c) H1
theorem xU (ha : PT X a tA) : PW X (.BoolOp .And [a] pos) tA := by
 intro wh pins s σ H Q I h;refine isTrue_and (thn (ha pins s σ H Q I h) fun c s1 e => ?_)
 cases c with
 | true => exact isTrue_and_nil e
 | false => exact e
theorem zS (ha : PT X a tA) : PW X (.BoolOp .Or [a] pos) tA := by
 intro wh pins s σ H Q I h;refine isTrue_or (thn (ha pins s σ H Q I h) fun c s1 e => ?_)
 cases c with
 | false => exact isTrue_or_nil e
 | true => exact e
theorem Aq (ha : PT X a tA) (hb : PW X (.BoolOp .And (b :: rest) pos) tB') : PW X (.BoolOp .And (a :: b :: rest) pos) (CJ tA tB') := by
 intro wh pins s σ H Q I h;refine isTrue_and (thn (ha pins s σ H _ I h) fun c s1 ⟨H1, I1, q1⟩ => ?_)
 cases c with
 | true => exact hb wh pins s1 σ H1 Q I1 q1
 | false => exact ⟨H1, I1, q1⟩
theorem BY (ha : PT X a tA) (hb : PW X (.BoolOp .Or (b :: rest) pos) tB') : PW X (.BoolOp .Or (a :: b :: rest) pos) (tOr tA tB') := by
 intro wh pins s σ H Q I h;refine isTrue_or (thn (ha pins s σ H _ I h) fun c s1 ⟨H1, I1, q1⟩ => ?_)
 cases c with
 | true => exact ⟨H1, I1, q1⟩
 | false => exact hb wh pins s1 σ H1 Q I1 q1
theorem zj (ha : PT X a tA) : PT X (.UnaryOp .Not a pos) (B0 tA) := by
 intro pins s σ H Q I h;exact isTrue_not (ha pins s σ H (fun c H1 => Q (!c) H1) I h)
noncomputable def yz (ta tb : TE) : TE := fun σ H Q => ta σ H fun x H1 => ∃ c, x = .bl c ∧ if c = true then tb σ H1 Q else Q (.bl false) H1
noncomputable def yZ (ta : TE) : TE := fun σ H Q => ta σ H fun x H1 => ∃ c, x = .bl c ∧ Q (.bl (!c)) H1
theorem AX {op} {t : TE} (h : PE X a t) : PE X (.BoolOp op [a] pos) t := fun pins s σ H Q I hw => BoolOp_one (h pins s σ H Q I hw)
theorem A2 (ha : PE X a ta) (hb : PE X (.BoolOp .And (b :: rest) pos) tb) : PE X (.BoolOp .And (a :: b :: rest) pos) (yz ta tb) := by
 intro pins s σ H Q I h;refine BoolOp_and (thn (ha pins s σ H _ I h) fun v s1 ⟨x, H1, I1, r1, q1⟩ => ?_)
 obtain ⟨c, rfl, q1⟩ := q1;cases r1;refine wpAny_truthy_bool ?_;cases c with
 | true => exact hb pins s1 σ H1 Q I1 q1
 | false => exact ⟨.bl false, H1, I1, rfl, q1⟩
theorem zh (ha : PE X a ta) : PE X (.UnaryOp .Not a pos) (yZ ta) := by
 intro pins s σ H Q I h;refine UnaryOp_ (thn (ha pins s σ H _ I h) fun v s1 ⟨x, H1, I1, r1, q1⟩ => ?_)
 obtain ⟨c, rfl, q1⟩ := q1;cases r1;exact not_of (wpAny_truthy_bool ⟨.bl (!c), H1, I1, rfl, q1⟩)
end
end L2
namespace L2
open PySem PySem.Spec PyProof.Rows
noncomputable def SqL (K : PySem.W.Frag) (H : Hp) (a : Addr) (xs : List V) : Prop :=
 Rd H a (.lst xs) ∨
  ∃ (o : Obj) (its : Array Value) (n : Nat), K.lookup a = some o ∧ o.cls = .type "list" ∧ o.dict = none ∧ o.data = .seq its n ∧ its.size ≤ sizeLine ∧ Vals xs its.toList
noncomputable def SqT (K : PySem.W.Frag) (H : Hp) (a : Addr) (xs : List V) : Prop :=
 Rd H a (.tup xs) ∨
  ∃ (o : Obj) (its : Array Value) (n : Nat), K.lookup a = some o ∧ o.cls = .type "tuple" ∧ o.data = .seq its n ∧ its.size ≤ sizeLine ∧ Vals xs its.toList
noncomputable def EJ : Value → Option V
 | .none => some .non
 | .bool b => some (.bl b)
 | .int i _ => some (.int i)
 | .str x _ => some (.str x)
 | .bytes b _ => some (.byt b)
 | .float b _ => some (.flt b)
 | .ref a => some (.ref a)
 | .type n => some (.ty n)
 | _ => none
theorem RelV.abs {x : V} {u : Value} (r : RelV x u) : EJ u = some x := by
 cases x with
 | non => cases r; rfl
 | bl _ => cases r; rfl
 | int _ => obtain ⟨t, rfl⟩ := r; rfl
 | str _ => obtain ⟨t, rfl⟩ := r; rfl
 | byt _ => obtain ⟨t, rfl⟩ := r; rfl
 | flt _ => obtain ⟨t, rfl⟩ := r; rfl
 | ref _ => cases r; rfl
 | ty _ => cases r; rfl
theorem RelV.inj {x y : V} {u : Value} (r : RelV x u) (q : RelV y u) : x = y := Option.some.inj (r.abs.symm.trans q.abs)
theorem Vals.inj : ∀ {xs ys : List V} {us : List Value}, Vals xs us → Vals ys us → xs = ys
 | _, _, _, .nil, .nil => rfl
 | _, _, _, .cons r t, .cons r' t' => by rw [r.inj r', Vals.inj t t']
section
variable {X : Cx} {pins : List (Addr × Obj)} {σ : St} {H : Hp} {s : Shared} {a : Addr} {xs ys : List V}
theorem SqL.of {K : PySem.W.Frag} (h : H a = some (.lst xs)) : SqL K H a xs := .inl (.inl h)
theorem SqT.of {K : PySem.W.Frag} (h : H a = some (.tup xs)) : SqT K H a xs := .inl (.inl h)
theorem Inv.list (I : Inv X pins σ H s) (h : SqL X.K H a xs) : ∃ its : List Value, Vals xs its ∧ PlainL s.heap a its.toArray ∧ xs.length ≤ sizeLine := by
 rcases h with h | ⟨o, its, n, hk, hc, hd, hs, hz, r⟩
 ·obtain ⟨z, its, n, r, e⟩ := h.ok I.hok
  exact ⟨its, r, ⟨_, n, e, rfl, rfl, rfl⟩, z⟩
 ·refine ⟨its.toList, r, ⟨o, n, I.kIn a o hk, hc, hd, by simpa using hs⟩, ?_⟩
  have e := r.length;simp only [Array.length_toList] at e;lia
theorem Inv.tuple (I : Inv X pins σ H s) (h : SqT X.K H a xs) : ∃ its : List Value, Vals xs its ∧ IsTup s.heap a its.toArray ∧ xs.length ≤ sizeLine := by
 rcases h with h | ⟨o, its, n, hk, hc, hs, hz, r⟩
 ·obtain ⟨z, its, r, p⟩ := h.ok I.hok
  exact ⟨its, r, p, z⟩
 ·refine ⟨its.toList, r, ⟨o, I.kIn a o hk, hc, n, by simpa using hs⟩, ?_⟩
  have e := r.length;simp only [Array.length_toList] at e;lia
theorem Inv.list_inj (I : Inv X pins σ H s) (h : SqL X.K H a xs) (h' : SqL X.K H a ys) : xs = ys := by
 obtain ⟨its, r, ⟨o, n, e, _, _, d⟩, _⟩ := I.list h;obtain ⟨its', r', ⟨o', n', e', _, _, d'⟩, _⟩ := I.list h';rw [e] at e'; cases e';rw [d] at d';injection d' with d1 _
 have : its = its' := by simpa using congrArg Array.toList d1
 subst this;exact r.inj r'
end
noncomputable abbrev Cx.wish (X : Cx) (E : Value → Shared → Prop) : Cx := { X with xe := E }
noncomputable abbrev Cx.nox (X : Cx) : Cx := X.wish fun _ _ => False
theorem Cx.Ok.wish {X : Cx} (ok : X.Ok) (E : Value → Shared → Prop) : (X.wish E).Ok :=
 ⟨ok.mod, ok.kind, ok.glob, ok.blt, ok.above, ok.inj, ok.has, ok.cab, ok.hd, ok.frames, ok.stk, ok.exf, ok.bs, ok.bsz, ok.noex, ok.exfs, ok.funs, ok.frf⟩
theorem Cx.Ok.unwish {X : Cx} {E : Value → Shared → Prop} (ok : (X.wish E).Ok) : X.Ok :=
 ⟨ok.mod, ok.kind, ok.glob, ok.blt, ok.above, ok.inj, ok.has, ok.cab, ok.hd, ok.frames, ok.stk, ok.exf, ok.bs, ok.bsz, ok.noex, ok.exfs, ok.funs, ok.frf⟩
section
variable {X : Cx} {pins : List (Addr × Obj)} {σ : St} {H : Hp} {s : Shared} {E : Value → Shared → Prop}
theorem Inv.wish (I : Inv X pins σ H s) (E : Value → Shared → Prop) : Inv (X.wish E) pins σ H s := ⟨I.ok.wish E, I.os, I.bare, I.base, I.loc, I.cell, I.free, I.freeC, I.pin, I.hok, I.len⟩
theorem Inv.unwish (I : Inv (X.wish E) pins σ H s) : Inv X pins σ H s := ⟨I.ok.unwish, I.os, I.bare, I.base, I.loc, I.cell, I.free, I.freeC, I.pin, I.hok, I.len⟩
theorem SP.unwish {D : Ends} {f : Flow} {s' : Shared} (h : SP (X.wish E) pins D f s') : SP X pins D f s' := by
 cases f with
 | next => obtain ⟨σ', H', I, q⟩ := h; exact ⟨σ', H', I.unwish, q⟩
 | brk => obtain ⟨σ', H', I, q⟩ := h; exact ⟨σ', H', I.unwish, q⟩
 | cont => obtain ⟨σ', H', I, q⟩ := h; exact ⟨σ', H', I.unwish, q⟩
 | ret u => obtain ⟨v, σ', H', I, r, q⟩ := h; exact ⟨v, σ', H', I.unwish, r, q⟩
theorem PSs.nox {st : List Stmt} {t : TS} (h : PSs X.nox st t) : PSs X st t := fun pins s σ H D I hw =>
 wpAny_mono (h pins s σ H D (I.wish _) hw) (fun _ _ q => q.unwish) fun _ _ z => False.elim z
end
section
variable {X : Cx} {st : Stmt} {rest : List Stmt} {t u : TS} {e : Expr} {te : TE} {pos : Pos}
noncomputable def yY : TS := fun D σ H => D.nx σ H
noncomputable def Du (t u : TS) : TS := fun D σ H => t { D with nx := u D } σ H
theorem wX : PSs X [] yY := fun _ _ σ H _ I h => wpAny_execs_nil ⟨σ, H, I, h⟩
theorem ud (h1 : PS X st t) (h2 : PSs X rest u) : PSs X (st :: rest) (Du t u) := by
 intro pins s σ H D I h;refine wpAny_execs_cons (thn (h1 pins s σ H { D with nx := u D } I h) fun f s1 q => ?_)
 cases f with
 | next =>
  obtain ⟨σ', H', I', q⟩ := q;exact h2 pins s1 σ' H' D I' q
 | ret v => exact q
 | brk => exact q
 | cont => exact q
theorem xR (h1 : PS X st t) : PSs X [st] t := by
 intro pins s σ H D I h;refine wpAny_execs_cons (thn (h1 pins s σ H D I h) fun f s1 q => ?_)
 cases f with
 | next => exact wpAny_execs_nil q
 | ret v => exact q
 | brk => exact q
 | cont => exact q
noncomputable def yT : TS := fun D σ H => D.ct σ H
theorem oT : PS X (.Continue pos) yT := fun _ _ σ H _ I h => wpAny_Continue ⟨σ, H, I, h⟩
theorem Inv.quiet {pins : List (Addr × Obj)} {σ : St} {H : Hp} {s : Shared} (I : Inv X pins σ H s) : interactive X.env = false := by simp [interactive, I.ok.kind]
noncomputable def nt (te : TE) : TS := fun D σ H => te σ H fun _ H1 => D.nx σ H1
theorem rR (he : PE X e te) (hs : swapsWith e none pos.line X.env = pure false := by rfl) : PS X (.Expr e pos) (nt te) := by
 intro pins s σ H D I h;exact wpAny_Expr_any (thn (he pins s σ H _ I h) fun v s1 ⟨x, H1, I1, r1, q1⟩ => ⟨σ, H1, I1, q1⟩) I.quiet hs
noncomputable def zZ (te : TE) : TS := fun D σ H => te σ H D.rt
theorem vk (he : PE X e te) : PS X (.Return (some e) pos) (zZ te) := by
 intro pins s σ H D I h;exact wpAny_Return_some (thn (he pins s σ H _ I h) fun v s1 ⟨x, H1, I1, r1, q1⟩ => ⟨x, σ, H1, I1, r1, q1⟩)
noncomputable def Ee (c : TT) (t u : TS) : TS := fun D σ H => c σ H fun b H1 => if b = true then t D σ H1 else u D σ H1
theorem Dt {c : Expr} {a b : List Stmt} {tc : TT} (hc : PT X c tc) (ha : PSs X a t) (hb : PSs X b u) : PS X (.If c a b pos) (Ee tc t u) := by
 intro pins s σ H D I h;refine wpAny_If (thn (hc pins s σ H _ I h) fun d s1 ⟨H1, I1, q1⟩ => ?_)
 cases d with
 | true => exact ha pins s1 σ H1 D I1 q1
 | false => exact hb pins s1 σ H1 D I1 q1
noncomputable def vm : TS := fun _ _ _ => False
theorem vP : PS X st vm := fun _ _ _ _ _ _ h => h.elim
end
noncomputable abbrev TG := V → St → Hp → (St → Hp → Prop) → Prop
noncomputable abbrev TGs := List V → St → Hp → (St → Hp → Prop) → Prop
noncomputable def PG (X : Cx) (target : Expr) (t : TG) : Prop :=
 ∀ (pins : List (Addr × Obj)) (s : Shared) (σ : St) (H : Hp) (v : V) (u : Value) (Q : St → Hp → Prop), Inv X pins σ H s → RelV v u → t v σ H Q →
  wpAny (model X.prog X.w) X.A (assign target X.env u) (fun _ s' => ∃ σ' H', Inv X pins σ' H' s' ∧ Q σ' H') X.xe s
noncomputable def PGs (X : Cx) (ts : List Expr) (t : TGs) : Prop :=
 ∀ (pins : List (Addr × Obj)) (s : Shared) (σ : St) (H : Hp) (vs : List V) (us : List Value) (Q : St → Hp → Prop), Inv X pins σ H s → Vals vs us → t vs σ H Q →
  wpAny (model X.prog X.w) X.A (assignInOrder ((assignEach ts X.env).map (·.2)) us) (fun _ s' => ∃ σ' H', Inv X pins σ' H' s' ∧ Q σ' H') X.xe s
noncomputable abbrev BF := V → V → V → Hp → (Hp → Prop) → Prop
noncomputable def B9 (X : Cx) (t : BF) : Prop :=
 ∀ (pins : List (Addr × Obj)) (s : Shared) (σ : St) (H : Hp) (o i v : V) (ov iv u : Value) (Q : Hp → Prop), Inv X pins σ H s → RelV o ov → RelV i iv → RelV v u → t o i v H Q →
  wpAny (model X.prog X.w) X.A (setItem ov iv u) (fun _ s' => ∃ H', Inv X pins σ H' s' ∧ Q H') X.xe s
section
variable {X : Cx} {pos : Pos}
noncomputable def jS (i : Nat) : TG := fun v σ H Q => Q (σ.set i (some v)) H
theorem rT {i : Nat} {x : Str} (hN : X.N.Nodup) (hi : X.N[i]? = some x) (hx : Loc X.env.scope x) (hf : X.fn x = true ∨ X.env.scope.names.lookup x = some .local := by first | exact .inl rfl | exact .inr rfl | assumption) : PG X (.Name x pos) (jS i) := by
 intro pins s σ H v u Q I r h;exact wpAny_assign_Name (j6 I hN hi hx r (fun s' I' => ⟨_, H, I', h⟩) hf)
noncomputable def D_ : TGs := fun vs σ H Q => vs = [] ∧ Q σ H
noncomputable def yW (t : TG) (u : TGs) : TGs := fun vs σ H Q => ∃ v r, vs = v :: r ∧ t v σ H fun σ' H' => u r σ' H' Q
theorem xt : PGs X [] D_ := by
 intro pins s σ H vs us Q I r h;obtain ⟨e, h⟩ := h;subst e;cases r;exact assignInOrder_nil ⟨σ, H, I, h⟩
theorem ub {e : Expr} {es : List Expr} {t : TG} {u : TGs} (h1 : PG X e t) (h2 : PGs X es u)
  (hs : (assignEach (e :: es) X.env).map (·.2) = assign e X.env :: (assignEach es X.env).map (·.2) := by rfl) : PGs X (e :: es) (yW t u) := by
 intro pins s σ H vs us Q I r h;obtain ⟨v, vr, e1, h⟩ := h;subst e1;cases r with
 | cons r rr =>
  rw [hs];refine assignInOrder_cons (thn (h1 pins s σ H _ _ _ I r h) fun _ s1 ⟨σ1, H1, I1, q1⟩ => ?_)
  exact h2 pins s1 σ1 H1 _ _ Q I1 rr q1
noncomputable def Di (K : PySem.W.Frag) (n : Nat) (t : TGs) : TG := fun v σ H Q => ∃ a xs, v = .ref a ∧ SqT K H a xs ∧ xs.length = n ∧ t xs σ H Q
theorem AK {es : List Expr} {k : Nat} {t : TGs} {n : Nat} (hc : X.calm = true) (h : PGs X es t)
  (hn : (assignEach es X.env).length = n := by rfl) (hst : (assignEach es X.env).findIdx? (·.1) = none := by rfl) : PG X (.Tuple es k pos) (Di X.K n t) := by
 intro pins s σ H v u Q I r hw;obtain ⟨a, xs, e1, hq, hl, hw⟩ := hw;subst e1;cases r;obtain ⟨its, rv, ht, hz⟩ := I.tuple hq;refine assign_Tuple_tuple (I.ok.hd hc) ht (by simp [hn, ← hl, rv.length]) hst fun h' hx => ?_
 have I1 : Inv X pins σ H { s with heap := h' } := I.kept (t' := s.toks) fun b o e => hx b o (Nat.ne_of_lt (Heap.lt_size e)) e
 exact h pins _ σ H xs _ Q I1 (by simpa using rv) hw
noncomputable def B3 (to ti : TE) (t : BF) : TG := fun v σ H Q => to σ H fun o H1 => ti σ H1 fun i H2 => t o i v H2 fun H3 => Q σ H3
theorem Ay {o i : Expr} {to ti : TE} {t : BF} (ho : PE X o to) (hi : PE X i ti) (hs : B9 X t)
  (ha : ∀ v, assign (.Subscript o i pos) X.env v = (do
   let ov ← holding [v] (eval o X.env)
   let iv ← holding [v, ov] (eval i X.env)
   standAt pos
   holding [v, ov, iv] (setItem ov iv v)
   release [v, ov, iv] []) := by intro _; rfl) : PG X (.Subscript o i pos) (B3 to ti t) := by
 intro pins s σ H v u Q I r h;rw [ha];refine wpAny_bind (wpAny_holding (thn (ho pins s σ H _ I h) fun ov s1 ⟨x, H1, I1, r1, q1⟩ => ?_))
 refine wpAny_bind (wpAny_holding (thn (hi pins s1 σ H1 _ I1 q1) fun iv s2 ⟨y, H2, I2, r2, q2⟩ => ?_))
 refine wpAny_bind (wpAny_standAt (wpAny_bind (wpAny_holding (thn (hs pins s2 σ H2 x y v ov iv u _ I2 r1 r2 r q2) fun _ s3 ⟨H3, I3, q3⟩ => ?_))))
 exact wpAny_release ⟨σ, H3, I3, q3⟩
noncomputable def oN (te : TE) (g : TG) : TS := fun D σ H => te σ H fun x H1 => g x σ H1 D.nx
theorem qu {tg e : Expr} {te : TE} {g : TG} (he : PE X e te) (hg : PG X tg g) (hs : swapsWithSole [tg] e pos.line X.env = pure false := by rfl) (hw : swappedStores [tg] e X.env = pure none := by rfl)
  (h1 : (assignEach [tg] X.env).map (·.2) = [assign tg X.env] := by rfl) : PS X (.Assign [tg] e pos) (oN te g) := by
 intro pins s σ H D I h;refine wpAny_Assign_stores (thn (he pins s σ H _ I h) fun v s1 ⟨x, H1, I1, r1, q1⟩ => ?_) hs hw
 rw [h1];exact thn (hg pins s1 σ H1 x v _ I1 r1 q1) fun _ s2 q => q
theorem BJ {i : Nat} {x : Str} {e : Expr} {te : TE} {pos' : Pos} (hN : X.N.Nodup) (hi : X.N[i]? = some x) (hx : Loc X.env.scope x) (he : PE X e te) (hs : swapsWith e (some (.Name x pos')) pos.line X.env = pure false := by rfl) (hf : X.fn x = true ∨ X.env.scope.names.lookup x = some .local := by first | exact .inl rfl | exact .inr rfl | assumption) :
  PS X (.Assign [.Name x pos'] e pos) (oN te (jS i)) := by
 intro pins s σ H D I h;refine wpAny_Assign_Name (thn (he pins s σ H _ I h) fun v s1 ⟨y, H1, I1, r1, q1⟩ => ?_) hs
 exact j6 I1 hN hi hx r1 (fun s2 I2 => ⟨_, H1, I2, q1⟩) hf
end
section
variable {X : Cx} {pos : Pos}
noncomputable def uc (c : TT) (tb : TS) : TS := fun D σ H => ∃ W : Nat → St → Hp → Prop, (∃ m, W m σ H) ∧ ∀ m σ H, W m σ H →
 c σ H fun b H1 => if b = true then ∃ N : St → Hp → Prop, (∀ σ' H', N σ' H' → ∃ m', m' < m ∧ W m' σ' H') ∧ tb { D with nx := N, ct := N, bk := D.nx } σ H1 else D.nx σ H1
theorem vc {c : Expr} {body : List Stmt} {tc : TT} {tb : TS} (hp : PassesOwn (model X.prog X.w) X.A X.env X.xe) (hc : PT X c tc) (hb : PSs X body tb) : PS X (.While c body [] pos) (uc tc tb) := by
 intro pins s σ H D I h;obtain ⟨W, ⟨m0, w0⟩, turn⟩ := h;refine wpAny_While (codeAny_whileLoop (fun n s' => ∃ σ' H', Inv X pins σ' H' s' ∧ W n σ' H') ?_ m0 ⟨σ, H, I, w0⟩)
 rintro n s1 ⟨σ1, H1, I1, w1⟩;refine wpAny_passesOwn hp (thn (hc pins s1 σ1 H1 _ I1 (turn n σ1 H1 w1)) fun b s2 ⟨H2, I2, q2⟩ => ?_)
 cases b with
 | true =>
  obtain ⟨N, hN, q2⟩ := q2;rw [if_pos rfl];refine wpAny_passesOwn hp (thn (hb pins s2 σ1 H2 _ I2 q2) fun f s3 q3 => ?_)
  cases f with
  | next =>
   obtain ⟨σ3, H3, I3, n3⟩ := q3;obtain ⟨m', hm, w3⟩ := hN σ3 H3 n3;exact ⟨m', hm, σ3, H3, I3, w3⟩
  | cont =>
   obtain ⟨σ3, H3, I3, n3⟩ := q3;obtain ⟨m', hm, w3⟩ := hN σ3 H3 n3;exact ⟨m', hm, σ3, H3, I3, w3⟩
  | brk => exact q3
  | ret v => exact q3
 | false =>
  rw [if_neg Bool.false_ne_true];exact wpAny_execs_nil ⟨σ1, H2, I2, q2⟩
end
structure It where
 go : Nat → Hp → Prop
 yld : Nat → Hp → V → Hp → Prop
 stop : Nat → Hp → Prop
noncomputable def ji (X : Cx) (pins : List (Addr × Obj)) (H : Hp) (b : Addr) : Prop :=
 H b = none ∧ b ≠ X.env.locals ∧ b ∉ X.fs ∧ (b ∈ X.ex ∨ X.s₀.heap.objs.size ≤ b) ∧ (∀ x c, X.env.cells.lookup x = some c → c ≠ b) ∧ ∀ p ∈ X.pn ++ pins, p.1 ≠ b
theorem Inv.fpOk {X : Cx} {pins : List (Addr × Obj)} {σ : St} {H H' : Hp} {s : Shared} {b : Addr} (I : Inv X pins σ H s) (hb : s.heap.objs.size ≤ b) (hn : H' b = none) : ji X pins H' b := by
 refine ⟨hn, Nat.ne_of_gt (Nat.lt_of_lt_of_le I.lt hb), I.nofs hb, .inr (Nat.le_trans I.sz hb), fun x c e z => ?_, fun p hp z => ?_⟩
 ·obtain ⟨v, q⟩ := I.cell x c e
  exact absurd (Nat.lt_of_lt_of_le q.lt (by rw [z]; exact hb)) (Nat.lt_irrefl _)
 ·exact absurd (Nat.lt_of_lt_of_le (Heap.lt_size (I.pin p hp).1) (by rw [z]; exact hb)) (Nat.lt_irrefl _)
structure Turn (P : Program) (w : World) (K : PySem.W.Frag) (tg : Expr) (J : It) (fp : List Addr) (it : Addr) (tn : Nat → Heap → Prop) : Prop where
 mem : it ∈ fp
 obj : ∀ i h, tn i h → ∀ b ∈ fp, ∃ o, h.get? b = some o ∧ ∀ v, o.data ≠ .cell v
 keep : ∀ i h h', tn i h → (∀ b ∈ fp, ∀ o, h.get? b = some o → h'.get? b = some o) → tn i h'
 item : ∀ (X : Cx), X.prog = P → X.w = w → X.K = K → X.calm = true → ∀ (i : Nat) (pins : List (Addr × Obj)) (s : Shared) (σ : St) (H : Hp) (E : Value → Shared → Prop), Inv X pins σ H s → (∀ b ∈ fp, ji X pins H b) → tn i s.heap → J.go i H →
  wpAny (model P w) X.A (pyNext (.ref it)) (fun r s1 => ∃ u, r = some u ∧
   wpAny (model P w) X.A (letOwnedTupleGo tg (.ref it) u) (fun _ s2 => ∃ x H', Inv X pins σ H' s2 ∧ RelV x u ∧ J.yld i H x H' ∧ tn (i + 1) s2.heap ∧ ∀ b ∈ fp, H' b = none) E s1) E s
 done : ∀ (X : Cx), X.prog = P → X.w = w → X.K = K → X.calm = true → ∀ (i : Nat) (pins : List (Addr × Obj)) (s : Shared) (σ : St) (H : Hp) (E : Value → Shared → Prop), Inv X pins σ H s → (∀ b ∈ fp, ji X pins H b) → tn i s.heap → J.stop i H →
  wpAny (model P w) X.A (pyNext (.ref it)) (fun r s1 => r = none ∧ Inv X pins σ H s1) E s
 self : ∀ (A : Around) (i : Nat) (s : Shared) (Q : Value → Shared → Prop) (E : Value → Shared → Prop), tn i s.heap → Q (.ref it) s → wpAny (model P w) A (pyIter (.ref it)) Q E s
noncomputable abbrev TI := St → Hp → (It → Hp → Prop) → Prop
noncomputable def PIE (X : Cx) (pins : List (Addr × Obj)) (σ : St) (tg : Expr) (R : It → Hp → Prop) (itv : Value) (s2 : Shared) : Prop :=
 ∃ (it : Addr) (fp : List Addr) (tn : Nat → Heap → Prop) (J : It) (H' : Hp), itv = .ref it ∧ Inv X pins σ H' s2 ∧ Turn X.prog X.w X.K tg J fp it tn ∧ tn 0 s2.heap ∧ (∀ b ∈ fp, ji X pins H' b) ∧ R J H'
noncomputable def PI (X : Cx) (tg iter : Expr) (wi : TI) : Prop :=
 ∀ (pins : List (Addr × Obj)) (s : Shared) (σ : St) (H : Hp) (R : It → Hp → Prop), Inv X pins σ H s → wi σ H R →
  wpAny (model X.prog X.w) X.A (eval iter X.env) (fun v s1 => wpAny (model X.prog X.w) X.A (pyIter v) (PIE X pins σ tg R) X.xe s1) X.xe s
theorem wj {M : Model} {A : Around} {E : Value → Shared → Prop} {s : Shared} {tg : Expr} {it : Addr} {u : Value} {o : Obj} {n : String} {vs : Array Value} {Q : Unit → Shared → Prop} (ho : s.heap.get? it = some o) (hc : o.cls = .type n) (hd : o.data = .fields vs)
    (hn : ["enumerate", "zip", "dict_itemiterator", "dict_reverseitemiterator", "odict_iterator", "itertools.zip_longest", "itertools.pairwise"].contains n = false) (hQ : Q () s) : wpAny M A (letOwnedTupleGo tg (.ref it) u) Q E s := by
  unfold letOwnedTupleGo;cases tg <;> first
    | exact wpAny_pure hQ
    | (cases u <;> first
        | exact wpAny_pure hQ
        | (refine wpAny_bind (wpAny_load ho ?_)
           rw [hc, hd];show wpAny M A (if (["enumerate", "zip", "dict_itemiterator", "dict_reverseitemiterator", "odict_iterator", "itertools.zip_longest", "itertools.pairwise"].contains n && vs[0]? == some (rawInt _)) = true then _ else _) Q E s
           rw [if_neg (by intro h; rw [hn, Bool.false_and] at h; cases h)]
           exact wpAny_pure hQ))
noncomputable def Itl (K : PySem.W.Frag) (a : Addr) : It :=
 ⟨fun i H => ∃ xs x, SqL K H a xs ∧ xs[i]? = some x, fun i H x H' => H' = H ∧ ∀ xs, SqL K H a xs → xs[i]? = some x, fun i H => ∃ xs, SqL K H a xs ∧ xs.length ≤ i⟩
noncomputable def Itr (lo : Int) (n : Nat) : It := ⟨fun i _ => i < n, fun i H x H' => H' = H ∧ x = .int (lo + i), fun i _ => n ≤ i⟩
theorem tV {P : Program} {w : World} {K : PySem.W.Frag} {tg : Expr} (a it : Addr) : Turn P w K tg (Itl K a) [it] it (fun i h => h.IsListIter it a i) where
 mem := by simp
 obj := fun i h st b hb => by
  have e : b = it := by simpa using hb
  subst e;obtain ⟨o, e, c, d⟩ := st;exact ⟨o, e, fun v z => by rw [d] at z; cases z⟩
 keep := fun i h h' st k => st.at fun o e => k it (by simp) o e
 item := by
  intro X hP hw hK hc i pins s σ H E I hf st hg;subst hP hw hK;obtain ⟨xs, x, hq, hx⟩ := hg;obtain ⟨its, rv, p, hz⟩ := I.list hq;obtain ⟨u, hu, ru⟩ := rv.get hx;obtain ⟨f0, f1, f2, f3, f4, f5⟩ := hf it (by simp)
  refine wpAny_pyNext_list_item st p.isList (x := u) (by simpa using hu) fun h' st' sb => ?_
  have I1 : Inv X pins σ H { s with heap := h' } := I.turned (t' := s.toks) (fun b o hb e => (sb.2 b hb).trans e) f0 f1 f3 f4 f5
  obtain ⟨o, e, c, d⟩ := id st';exact ⟨u, rfl, wj (s := { s with heap := h' }) e c d (by decide) ⟨x, H, I1, ru, ⟨rfl, fun ys hy => by rw [I.list_inj hy hq]; exact hx⟩, st', fun b hb => (hf b hb).1⟩⟩
 done := by
  intro X hP hw hK hc i pins s σ H E I hf st hg;subst hP hw hK;obtain ⟨xs, hq, hx⟩ := hg;obtain ⟨its, rv, p, hz⟩ := I.list hq;obtain ⟨f0, f1, f2, f3, f4, f5⟩ := hf it (by simp)
  have hl := rv.length;exact wpAny_pyNext_list_end (I.ok.hd hc) st p.isList (by simp; lia) fun h' eb => ⟨rfl, I.turned (t' := s.toks) (fun b o hb e => eb b o hb e) f0 f1 f3 f4 f5⟩
 self := fun _ _ _ _ _ st h => wpAny_pyIter_listiter st h
theorem qG {P : Program} {w : World} {K : PySem.W.Frag} {tg : Expr} (it : Addr) (lo : Int) (n : Nat) : Turn P w K tg (Itr lo n) [it] it (fun i h => IsRangeIter h it (lo + (i : Nat) * 1) ((n : Int) - (i : Nat)) 1) where
 mem := by simp
 obj := fun i h st b hb => by
  have e : b = it := by simpa using hb
  subst e;exact ⟨_, st, fun v z => by
   have z' : Data.fields _ = Data.cell v := z;cases z'⟩
 keep := fun i h h' st k => k it (by simp) _ st
 item := by
  intro X hP hw hK hc i pins s σ H E I hf st hg;subst hP hw hK;obtain ⟨f0, f1, f2, f3, f4, f5⟩ := hf it (by simp)
  have W := Walks.range (prog := X.prog) (w := X.w) (I.ok.hd hc) it lo 1 n;refine W.item i s _ _ hg st fun v h' tk hv st' kk => ?_
  obtain ⟨t, rfl⟩ := hv;have I1 : Inv X pins σ H { s with heap := h', toks := tk } := I.turned (fun b o hb e => kk b o (by simpa using hb) e) f0 f1 f3 f4 f5
  refine ⟨_, rfl, wj (s := { s with heap := h', toks := tk }) (n := "range_iterator") st' rfl rfl (by decide) ⟨.int (lo + i), H, I1, ⟨t, ?_⟩, ⟨rfl, rfl⟩, st', fun b hb => (hf b hb).1⟩⟩
  rw [Int.mul_one]
 done := by
  intro X hP hw hK hc i pins s σ H E I hf st hg;subst hP hw hK;obtain ⟨f0, f1, f2, f3, f4, f5⟩ := hf it (by simp)
  exact wpAny_pyNext_range_end (I.ok.hd hc) st (by have : n ≤ i := hg; lia) fun h' eb => ⟨rfl, I.turned (t' := s.toks) (fun b o hb e => eb b o hb e) f0 f1 f3 f4 f5⟩
 self := fun _ _ _ _ _ st h => wpAny_pyIter_rangeiter st h
end L2
namespace L2
open PySem PySem.Spec PyProof.Rows
section
variable {X : Cx} {tg : Expr}
noncomputable def pZ (K : PySem.W.Frag) (tl : TE) : TI := fun σ H R => tl σ H fun x H1 => ∃ a, x = .ref a ∧ (∃ xs, SqL K H1 a xs) ∧ R (Itl K a) H1
theorem rB {l : Expr} {tl : TE} (hl : PE X l tl) : PI X tg l (pZ X.K tl) := by
 intro pins s σ H R I h;refine thn (hl pins s σ H _ I h) fun v s1 ⟨x, H1, I1, r1, q1⟩ => ?_
 obtain ⟨a, e, ⟨xs, hq⟩, q⟩ := q1;subst e;cases r1;obtain ⟨its, rv, p, hz⟩ := I1.list hq;refine wpAny_pyIter_list p.isList ?_;refine ⟨s1.heap.objs.size, [s1.heap.objs.size], _, _, H1, rfl, I1.kept (t' := s1.toks) fun b o e => Heap.get?_push_of_some _ e, tV a _, ⟨_, Heap.get?_push_size _ rfl, rfl, rfl⟩, fun b hb => ?_, q⟩
 have e : b = s1.heap.objs.size := by simpa using hb
 subst e;exact I1.fpOk (Nat.le_refl _) (I1.hok.fresh (Nat.le_refl _))
theorem qb {pins : List (Addr × Obj)} {σ : St} {H : Hp} {s : Shared} {R : It → Hp → Prop} {E : Value → Shared → Prop} {lo hi : Int} {t u v : Tok} {tk : Nat} (I : Inv X pins σ H s) (h1 : -(2 ^ 62) ≤ lo) (h2 : lo < 2 ^ 62) (h3 : -(2 ^ 62) ≤ hi) (h4 : hi < 2 ^ 62)
  (q : R (Itr lo (hi - lo).toNat) H) : wpAny (model X.prog X.w) X.A (pyIter (.ref s.heap.objs.size)) (PIE X pins σ tg R) E { s with heap := s.heap.push { cls := .type "range", data := .fields #[.int lo t, .int hi u, .int 1 v] }, toks := tk } := by
 refine wpAny_pyIter_range (IsRange.new ..) (small_one h1 h2 h3 h4) ?_;have I1 : Inv X pins σ H { s with heap := s.heap.push { cls := .type "range", data := .fields #[.int lo t, .int hi u, .int 1 v] }, toks := tk } := I.kept fun b o e => Heap.get?_push_of_some _ e
 refine ⟨(s.heap.push { cls := .type "range", data := .fields #[.int lo t, .int hi u, .int 1 v] }).objs.size, [(s.heap.push { cls := .type "range", data := .fields #[.int lo t, .int hi u, .int 1 v] }).objs.size], _, _, H, rfl,
  I1.kept (t' := tk) fun b o e => Heap.get?_push_of_some _ e, qG _ lo (hi - lo).toNat, ?_, fun b hb => ?_, q⟩
 ·have e1 : lo + ((0 : Nat) : Int) * 1 = lo := by simp
  have e2 : (((hi - lo).toNat : Nat) : Int) - ((0 : Nat) : Int) = Builtin.Range.rangeSize lo hi 1 := by rw [rangeSize_one]; split <;> lia
  show IsRangeIter _ _ (lo + ((0 : Nat) : Int) * 1) ((((hi - lo).toNat : Nat) : Int) - ((0 : Nat) : Int)) 1
  rw [e1, e2];exact Heap.get?_push_size _ rfl
 ·have e : b = (s.heap.push { cls := .type "range", data := .fields #[.int lo t, .int hi u, .int 1 v] }).objs.size := by simpa using hb
  subst e;exact I1.fpOk (Nat.le_refl _) (I1.hok.fresh (Nat.le_refl _))
noncomputable def yy (ta : TA) : TI := fun σ H R => ta σ H fun vs H1 => ∃ j : Int, vs = [.int j] ∧ -(2 ^ 62) ≤ j ∧ j < 2 ^ 62 ∧ R (Itr 0 j.toNat) H1
noncomputable def yO (ta : TA) : TI := fun σ H R => ta σ H fun vs H1 => ∃ i j : Int, vs = [.int i, .int j] ∧ (-(2 ^ 62) ≤ i ∧ i < 2 ^ 62 ∧ -(2 ^ 62) ≤ j ∧ j < 2 ^ 62) ∧ R (Itr i (j - i).toNat) H1
theorem sG {a : Expr} {ta : TA} {p pos : Pos} (hg : Gl X "range") (hm : X.mg "range" = none) (ha : PA X [a] ta) (hs : starEach [a] X.env = [(false, eval a X.env)] := by rfl) : PI X tg (.Call (.Name "range" p) [a] [] pos) (yy ta) := by
 intro pins s σ H R I h;refine Call_ (iH I hg hm boot_range (PyProof.Rows.callWith_type1 (thn (ha pos pins s σ H _ I h) fun us s1 ⟨vs, H1, I1, r1, q1⟩ => ?_) hs rfl))
 obtain ⟨j, e, q1, q2, q⟩ := q1;subst e;cases r1 with
 | cons r rr =>
  cases rr;obtain ⟨t, rfl⟩ := r;exact call_range_1 (qb I1 (by lia) (by lia) q1 q2 (by simpa using q))
theorem su {a b : Expr} {ta : TA} {p pos : Pos} (hg : Gl X "range") (hm : X.mg "range" = none) (ha : PA X [a, b] ta) (hs : starEach [a, b] X.env = [(false, eval a X.env), (false, eval b X.env)] := by rfl) (hs2 : starEach [b] X.env = [(false, eval b X.env)] := by rfl) :
  PI X tg (.Call (.Name "range" p) [a, b] [] pos) (yO ta) := by
 intro pins s σ H R I h;refine Call_ (iH I hg hm boot_range (PyProof.Rows.callWith_type1 (thn (ha pos pins s σ H _ I h) fun us s1 ⟨vs, H1, I1, r1, q1⟩ => ?_) (by rw [hs, hs2]) (by rw [hs2]; rfl)))
 obtain ⟨i, j, e, ⟨q1, q2, q3, q4⟩, q⟩ := q1;subst e;cases r1 with
 | cons r rr =>
  cases rr with
  | cons r' rr =>
   cases rr;obtain ⟨t, rfl⟩ := r;obtain ⟨t', rfl⟩ := r';exact call_range_2 (qb I1 q1 q2 q3 q4 q)
noncomputable def C4 (wi : TI) (g : TG) (tb : TS) : TS := fun D σ H => wi σ H fun J H1 => ∃ W : Nat → Nat → St → Hp → Prop, (∃ m, W 0 m σ H1) ∧ ∀ i m σ H, W i m σ H →
 (J.stop i H ∧ D.nx σ H) ∨ (J.go i H ∧ ∃ N : St → Hp → Prop, (∀ σ' H', N σ' H' → ∃ m', m' < m ∧ W (i + 1) m' σ' H') ∧ ∀ x H', J.yld i H x H' → g x σ H' fun σ2 H2 => tb { D with nx := N, ct := N, bk := D.nx } σ2 H2)
noncomputable def kC (fp : List Addr) (h : Heap) : List (Addr × Obj) := fp.filterMap fun b => (h.get? b).map fun o => (b, o)
theorem fv {fp : List Addr} {h : Heap} {b : Addr} {o : Obj} (hb : b ∈ fp) (e : h.get? b = some o) : (b, o) ∈ kC fp h := List.mem_filterMap.mpr ⟨b, hb, by rw [e]; rfl⟩
theorem sV {fp : List Addr} {h : Heap} {p : Addr × Obj} (hp : p ∈ kC fp h) : p.1 ∈ fp ∧ h.get? p.1 = some p.2 := by
 obtain ⟨b, hb, e⟩ := List.mem_filterMap.mp hp;cases q : h.get? b with
 | none => rw [q] at e; cases e
 | some o =>
  rw [q] at e;have e' : (b, o) = p := Option.some.inj e;subst e';exact ⟨hb, q⟩
theorem Inv.pinned {pins : List (Addr × Obj)} {σ : St} {H : Hp} {s : Shared} {fp : List Addr} (I : Inv X pins σ H s) (hf : ∀ b ∈ fp, ji X pins H b) (ho : ∀ b ∈ fp, ∃ o, s.heap.get? b = some o ∧ ∀ v, o.data ≠ .cell v) : Inv X (pins ++ kC fp s.heap) σ H s :=
 I.pins_of fun p hp => (List.mem_append.mp hp).elim (fun z => I.pin p (List.mem_append_right _ z)) fun z => by
  obtain ⟨hb, e⟩ := sV z;obtain ⟨f0, f1, f2, _⟩ := hf p.1 hb;obtain ⟨o, e', d⟩ := ho p.1 hb;rw [e] at e'; cases e';exact ⟨e, f0, f1, f2, d⟩
theorem Inv.unpinned {pins pl : List (Addr × Obj)} {σ : St} {H : Hp} {s : Shared} (I : Inv X (pins ++ pl) σ H s) : Inv X pins σ H s := I.pins_of fun p hp => I.pin p (List.mem_append_right _ (List.mem_append_left _ hp))
theorem AL {iter : Expr} {body : List Stmt} {wi : TI} {g : TG} {tb : TS} {pos : Pos} (hp : PassesOwn (model X.prog X.w) X.A X.env X.xe) (hc : X.calm = true) (hi : PI X tg iter wi) (hg : PG X tg g) (hb : PSs X body tb)
  (hs : ∀ x, foldedSetIterable iter X.env x = pure x := by intro _; rfl) : PS X (.For tg iter body [] pos) (C4 wi g tb) := by
 intro pins s σ H D I h;refine wpAny_For (thn (hi pins s σ H _ I h) fun v s1 h1 => thn h1 fun itv s2 h2 => ?_) hs
 obtain ⟨it, fp, tn, J, H2, e, I2, T, st2, f2, W, ⟨m0, w0⟩, turn⟩ := h2;subst e;have stat : ∀ {H' : Hp}, (∀ b ∈ fp, H' b = none) → ∀ b ∈ fp, ji X pins H' b := fun hn b hb => ⟨hn b hb, (f2 b hb).2⟩
 refine codeAny_forLoop_any (fun n s' => ∃ i σ' H', Inv X pins σ' H' s' ∧ tn i s'.heap ∧ (∀ b ∈ fp, H' b = none) ∧ W i n σ' H') ?_ m0 ⟨0, σ, H2, I2, st2, fun b hb => (f2 b hb).1, w0⟩
 rintro n s3 ⟨i, σ3, H3, I3, st3, fr3, w3⟩;rcases turn i n σ3 H3 w3 with ⟨stop, qn⟩ | ⟨go, N, hN, step⟩
 ·refine wpAny_passesOwn hp (thn (T.done X rfl rfl rfl hc i pins s3 σ3 H3 X.xe I3 (stat fr3) st3 stop) fun r s4 ⟨hr, I4⟩ => ?_)
  subst hr;exact wpAny_execs_nil ⟨σ3, H3, I4, qn⟩
 ·refine wpAny_passesOwn hp (thn (T.item X rfl rfl rfl hc i pins s3 σ3 H3 X.xe I3 (stat fr3) st3 go) fun r s4 ⟨u, hr, h4⟩ => ?_)
  subst hr;refine wpAny_passesOwn hp (thn h4 fun _ s5 ⟨x, H5, I5, r5, y5, st5, fr5⟩ => ?_)
  have I5' := I5.pinned (stat fr5) (T.obj _ _ st5);refine wpAny_passesOwn hp (thn (hg _ s5 σ3 H5 x u _ I5' r5 (step x H5 y5)) fun _ s6 ⟨σ6, H6, I6, q6⟩ => ?_)
  refine wpAny_passesOwn hp (thn (hb _ s6 σ6 H6 _ I6 q6) fun f s7 q7 => ?_)
  have again : ∀ {σ7 : St} {H7 : Hp}, Inv X (pins ++ kC fp s5.heap) σ7 H7 s7 → N σ7 H7 → ∃ m, m < n ∧ ∃ i σ' H', Inv X pins σ' H' s7 ∧ tn i s7.heap ∧ (∀ b ∈ fp, H' b = none) ∧ W i m σ' H' := fun {σ7 H7} I7 n7 => by
   obtain ⟨m', hm, w7⟩ := hN σ7 H7 n7;refine ⟨m', hm, i + 1, σ7, H7, I7.unpinned, T.keep _ _ _ st5 fun b hb o e => (I7.pin (b, o) (List.mem_append_right _ (List.mem_append_right _ (fv hb e)))).1, fun b hb => ?_, w7⟩
   obtain ⟨o, e, d⟩ := T.obj _ _ st5 b hb;exact (I7.pin (b, o) (List.mem_append_right _ (List.mem_append_right _ (fv hb e)))).2.1
  cases f with
  | next => obtain ⟨σ7, H7, I7, n7⟩ := q7; exact again I7 n7
  | cont => obtain ⟨σ7, H7, I7, n7⟩ := q7; exact again I7 n7
  | brk => obtain ⟨σ7, H7, I7, q7⟩ := q7; exact ⟨σ7, H7, I7.unpinned, q7⟩
  | ret v => obtain ⟨x7, σ7, H7, I7, r7, q7⟩ := q7; exact ⟨x7, σ7, H7, I7.unpinned, r7, q7⟩
end
end L2
namespace L2
open PySem PySem.Spec PyProof.Rows
noncomputable abbrev R2 := V → V → Hp → VK → Prop
noncomputable def OpR (X : Cx) (f : Value → Value → Sem Value) (r : R2) : Prop :=
 ∀ (pins : List (Addr × Obj)) (s : Shared) (σ : St) (H : Hp) (x y : V) (v u : Value) (Q : VK), Inv X pins σ H s → RelV x v → RelV y u → r x y H Q →
  wpAny (model X.prog X.w) X.A (f v u) (EP X pins σ Q) X.xe s
noncomputable def UnR (X : Cx) (f : Value → Sem Value) (r : V → Hp → VK → Prop) : Prop :=
 ∀ (pins : List (Addr × Obj)) (s : Shared) (σ : St) (H : Hp) (x : V) (v : Value) (Q : VK), Inv X pins σ H s → RelV x v → r x H Q →
  wpAny (model X.prog X.w) X.A (f v) (EP X pins σ Q) X.xe s
noncomputable def ed (X : Cx) (f : Value) (r : List V → Hp → VK → Prop) : Prop :=
 ∀ (pins : List (Addr × Obj)) (s : Shared) (σ : St) (H : Hp) (xs : List V) (us : List Value) (Q : VK), Inv X pins σ H s → Vals xs us → r xs H Q →
  wpAny (model X.prog X.w) X.A (call f us) (EP X pins σ Q) X.xe s
noncomputable def tOp (r : R2) (ta tb : TE) : TE := fun σ H Q => ta σ H fun x H1 => tb σ H1 fun y H2 => r x y H2 Q
noncomputable def tUn (r : V → Hp → VK → Prop) (ta : TE) : TE := fun σ H Q => ta σ H fun x H1 => r x H1 Q
noncomputable def rI (C : Int → Int → Prop) (g : Int → Int → V) : R2 := fun x y H Q => ∃ i j, x = .int i ∧ y = .int j ∧ C i j ∧ Q (g i j) H
noncomputable def rI0 (g : Int → Int → V) : R2 := fun x y H Q => ∃ i j, x = .int i ∧ y = .int j ∧ Q (g i j) H
noncomputable def rU (g : Int → V) : V → Hp → VK → Prop := fun x H Q => ∃ i, x = .int i ∧ Q (g i) H
section
variable {X : Cx} {a b c : Expr} {ta tb tc : TE} {pos : Pos}
theorem BS (ha : PE X a ta) (hb : PE X b tb) {pins : List (Addr × Obj)} {s : Shared} {σ : St} {H : Hp} {R : V → V → Hp → Prop} (I : Inv X pins σ H s)
  (h : ta σ H fun x H1 => tb σ H1 fun y H2 => R x y H2) {Q : Value → Shared → Prop} {f : Value → Value → Sem Value}
  (hf : ∀ v u s2 x y H2, Inv X pins σ H2 s2 → RelV x v → RelV y u → R x y H2 → wpAny (model X.prog X.w) X.A (f v u) Q X.xe s2) :
  wpAny (model X.prog X.w) X.A (eval a X.env) (fun v s₁ => wpAny (model X.prog X.w) X.A (eval b X.env) (fun u s₂ => wpAny (model X.prog X.w) X.A (f v u) Q X.xe s₂) X.xe s₁) X.xe s := by
 refine thn (ha pins s σ H _ I h) fun v s1 ⟨x, H1, I1, r1, q1⟩ => ?_
 refine thn (hb pins s1 σ H1 _ I1 q1) fun u s2 ⟨y, H2, I2, r2, q2⟩ => ?_
 exact hf v u s2 x y H2 I2 r1 r2 q2
theorem Cr {op : Operator} {r : R2} (ho : OpR X (binaryOp op) r) (ha : PE X a ta) (hb : PE X b tb) : PE X (.BinOp a op b pos) (tOp r ta tb) := by
 intro pins s σ H Q I h;exact wpAny_BinOp (BS ha hb I h fun v u s2 x y H2 I2 rx ry q => ho pins s2 σ H2 x y v u Q I2 rx ry q)
theorem CF {op : UnaryOp} {r : V → Hp → VK → Prop} (ho : UnR X (unaryOp op) r) (ha : PE X a ta) : PE X (.UnaryOp op a pos) (tUn r ta) := by
 intro pins s σ H Q I h;exact UnaryOp_ (thn (ha pins s σ H _ I h) fun v s1 ⟨x, H1, I1, r1, q1⟩ => ho pins s1 σ H1 x v Q I1 r1 q1)
theorem opI {f : Value → Value → Sem Value} {C : Int → Int → Prop} {g : Int → Int → Int}
  (rule : ∀ (i j : Int) (t u : Tok) (s : Shared) (Q : Value → Shared → Prop) (E : Value → Shared → Prop), C i j → Q (.int (g i j) s.toks) { s with toks := s.toks + 1 } → wpAny (model X.prog X.w) X.A (f (.int i t) (.int j u)) Q E s) :
  OpR X f (rI C fun i j => .int (g i j)) := by
 intro pins s σ H x y v u Q I rx ry h;obtain ⟨i, j, rfl, rfl, hc, q⟩ := h;obtain ⟨t, rfl⟩ := rx;obtain ⟨t', rfl⟩ := ry;exact rule i j t t' s _ _ hc ⟨.int (g i j), H, I.tok _, ⟨_, rfl⟩, q⟩
theorem Cp {f : Value → Value → Sem Value} {g : Int → Int → Int}
  (rule : ∀ (i j : Int) (t u : Tok) (s : Shared) (Q : Value → Shared → Prop) (E : Value → Shared → Prop), Q (.int (g i j) s.toks) { s with toks := s.toks + 1 } → wpAny (model X.prog X.w) X.A (f (.int i t) (.int j u)) Q E s) :
  OpR X f (rI0 fun i j => .int (g i j)) := by
 intro pins s σ H x y v u Q I rx ry h;obtain ⟨i, j, rfl, rfl, q⟩ := h;obtain ⟨t, rfl⟩ := rx;obtain ⟨t', rfl⟩ := ry;exact rule i j t t' s _ _ ⟨.int (g i j), H, I.tok _, ⟨_, rfl⟩, q⟩
theorem zT {f : Value → Value → Sem Value} {g : Int → Int → Bool}
  (rule : ∀ (i j : Int) (t u : Tok) (s : Shared) (Q : Value → Shared → Prop) (E : Value → Shared → Prop), Q (.bool (g i j)) s → wpAny (model X.prog X.w) X.A (f (.int i t) (.int j u)) Q E s) :
  OpR X f (rI0 fun i j => .bl (g i j)) := by
 intro pins s σ H x y v u Q I rx ry h;obtain ⟨i, j, rfl, rfl, q⟩ := h;obtain ⟨t, rfl⟩ := rx;obtain ⟨t', rfl⟩ := ry;exact rule i j t t' s _ _ ⟨.bl (g i j), H, I, rfl, q⟩
noncomputable def DJ (i j : Int) : Prop := 0 < j ∧ j < 1073741824
noncomputable def Ew (i j : Int) : Prop := 0 ≤ j ∧ j ≤ 1000000 ∧ i.natAbs < 2 ^ 64
noncomputable def uM (i j : Int) : Prop := (-(2 ^ 64) < i ∧ i < 2 ^ 64) ∨ (-(2 ^ 64) < j ∧ j < 2 ^ 64)
theorem uM.ok {i j : Int} (h : uM i j) : IntMulOk i j := by
 rcases h with ⟨h1, h2⟩ | ⟨h1, h2⟩
 ·exact .of_left (intBits_le_64 h1 h2)
 ·exact .of_right (intBits_le_64 h1 h2)
theorem Be : OpR X (binaryOp .Add) (rI0 fun i j => .int (i + j)) := Cp fun _ _ _ _ _ _ _ q => add_int q
theorem fO : OpR X (binaryOp .Sub) (rI0 fun i j => .int (i - j)) := Cp fun _ _ _ _ _ _ _ q => sub_int q
theorem Bo : OpR X (binaryOp .Mult) (rI uM fun i j => .int (i * j)) := opI fun _ _ _ _ _ _ _ hc q => mul_int q hc.ok
theorem cA : OpR X (binaryOp .FloorDiv) (rI DJ fun i j => .int (i / j)) := opI fun i j _ _ _ _ _ hc q => by
 have h1 : (0 : Int) < j := hc.1;have h2 : j < 1073741824 := hc.2;exact floordiv_int (by lia) (by rw [Int.fdiv_eq_ediv_of_nonneg i (by lia)]; exact q) (.inl (PyProof.noPylong_small (by lia)))
theorem b8 : OpR X (binaryOp .Mod) (rI (fun _ j => 0 < j) fun i j => .int (i % j)) := opI fun i j _ _ _ _ _ hc q => by
 have h1 : (0 : Int) < j := hc;exact mod_int' (by lia) (by rw [Int.fmod_eq_emod_of_nonneg i (by lia)]; exact q)
theorem u5 : OpR X (binaryOp .Pow) (rI Ew fun i j => .int (i ^ j.toNat)) := opI fun _ _ _ _ _ _ _ hc q => pow_int_small hc.1 hc.2.1 hc.2.2 q
theorem unI {f : Value → Sem Value} {g : Int → Int}
  (rule : ∀ (i : Int) (t : Tok) (s : Shared) (Q : Value → Shared → Prop) (E : Value → Shared → Prop), Q (.int (g i) s.toks) { s with toks := s.toks + 1 } → wpAny (model X.prog X.w) X.A (f (.int i t)) Q E s) :
  UnR X f (rU fun i => .int (g i)) := by
 intro pins s σ H x v Q I rx h;obtain ⟨i, rfl, q⟩ := h;obtain ⟨t, rfl⟩ := rx;exact rule i t s _ _ ⟨.int (g i), H, I.tok _, ⟨_, rfl⟩, q⟩
theorem d8 : UnR X (unaryOp .USub) (rU fun i => .int (-i)) := unI fun _ _ _ _ _ q => neg_int q
end
noncomputable def zu : V → V → Bool
 | .non, .non => true | .non, .int _ => true | .int _, .non => true | .non, .bl _ => true | .bl _, .non => true | .non, .str _ => true | .str _, .non => true
 | .int _, .int _ => true | .bl _, .bl _ => true | .str _, .str _ => true | .byt _, .byt _ => true
 | .int _, .str _ => true | .str _, .int _ => true | .bl _, .str _ => true | .str _, .bl _ => true
 | _, _ => false
noncomputable def rEq : R2 := fun x y H Q => zu x y = true ∧ Q (.bl (decide (x = y))) H
noncomputable def rNe : R2 := fun x y H Q => zu x y = true ∧ Q (.bl (!decide (x = y))) H
theorem rm {i j : Int} : decide (V.int i = V.int j) = (i == j) := by
 rw [Bool.eq_iff_iff];simp
theorem vg {i j : Bool} : decide (V.bl i = V.bl j) = (i == j) := by
 rw [Bool.eq_iff_iff];simp
theorem rz {i j : Str} : decide (V.str i = V.str j) = (i == j) := by
 rw [Bool.eq_iff_iff];simp
theorem rF {i j : Array UInt8} : decide (V.byt i = V.byt j) = (i.toList == j.toList) := by
 rw [Bool.eq_iff_iff];cases i;cases j;simp
section
variable {X : Cx} {a b c : Expr} {ta tb tc : TE} {pos : Pos}
theorem bq {pins : List (Addr × Obj)} {σ : St} {H : Hp} {s : Shared} {Q : VK} {k k' : Bool} (I : Inv X pins σ H s) (q : Q (.bl k) H) (e : k = k') : EP X pins σ Q (.bool k') s := by
 subst e;exact ⟨.bl k, H, I, rfl, q⟩
theorem DV : OpR X (compareOp .Eq) rEq := by
 intro pins s σ H x y v u Q I rx ry h;obtain ⟨hs, q⟩ := h;cases x with
 | non =>
  cases rx;cases y with
  | non => cases ry; exact PySem.EqNone.eq_none_none (bq I q (by simp))
  | bl j => cases ry; exact PySem.EqNone.eq_none_bool (bq I q (by simp))
  | int j => obtain ⟨t', rfl⟩ := ry; exact PySem.EqNone.eq_none_int (bq I q (by simp))
  | str j => obtain ⟨t', rfl⟩ := ry; exact PySem.EqNone.eq_none_str (bq I q (by simp))
  | _ => exact absurd (show false = true from hs) Bool.false_ne_true
 | bl i =>
  cases rx;cases y with
  | non => cases ry; exact PySem.EqNone.eq_bool_none (bq I q (by simp))
  | bl j => cases ry; exact eq_bool (bq I q vg)
  | str j => obtain ⟨t', rfl⟩ := ry; exact PySem.EqMixed.eq_bool_str (bq I q (by simp))
  | _ => exact absurd (show false = true from hs) Bool.false_ne_true
 | int i =>
  obtain ⟨t, rfl⟩ := rx;cases y with
  | non => cases ry; exact PySem.EqNone.eq_int_none (bq I q (by simp))
  | int j => obtain ⟨t', rfl⟩ := ry; exact eq_int (bq I q rm)
  | str j => obtain ⟨t', rfl⟩ := ry; exact PySem.EqMixed.eq_int_str (bq I q (by simp))
  | _ => exact absurd (show false = true from hs) Bool.false_ne_true
 | str i =>
  obtain ⟨t, rfl⟩ := rx;cases y with
  | non => cases ry; exact PySem.EqNone.eq_str_none (bq I q (by simp))
  | bl j => cases ry; exact PySem.EqMixed.eq_str_bool (bq I q (by simp))
  | int j => obtain ⟨t', rfl⟩ := ry; exact PySem.EqMixed.eq_str_int (bq I q (by simp))
  | str j => obtain ⟨t', rfl⟩ := ry; exact eq_str (bq I q rz)
  | _ => exact absurd (show false = true from hs) Bool.false_ne_true
 | byt i =>
  obtain ⟨t, rfl⟩ := rx;cases y with
  | byt j => obtain ⟨t', rfl⟩ := ry; exact PySem.W.eq_bytes (bq I q rF)
  | _ => exact absurd (show false = true from hs) Bool.false_ne_true
 | _ => cases y <;> exact absurd (show false = true from hs) Bool.false_ne_true
theorem B4 : OpR X (compareOp .NotEq) rNe := by
 intro pins s σ H x y v u Q I rx ry h;obtain ⟨hs, q⟩ := h;cases x with
 | non =>
  cases rx;cases y with
  | non => cases ry; exact PySem.EqNone.ne_none_none (bq I q (by simp))
  | bl j => cases ry; exact PySem.EqNone.ne_none_bool (bq I q (by simp))
  | int j => obtain ⟨t', rfl⟩ := ry; exact PySem.EqNone.ne_none_int (bq I q (by simp))
  | str j => obtain ⟨t', rfl⟩ := ry; exact PySem.EqNone.ne_none_str (bq I q (by simp))
  | _ => exact absurd (show false = true from hs) Bool.false_ne_true
 | bl i =>
  cases rx;cases y with
  | non => cases ry; exact PySem.EqNone.ne_bool_none (bq I q (by simp))
  | bl j => cases ry; exact ne_bool (bq I q (congrArg not vg))
  | str j => obtain ⟨t', rfl⟩ := ry; exact PySem.EqMixed.ne_bool_str (bq I q (by simp))
  | _ => exact absurd (show false = true from hs) Bool.false_ne_true
 | int i =>
  obtain ⟨t, rfl⟩ := rx;cases y with
  | non => cases ry; exact PySem.EqNone.ne_int_none (bq I q (by simp))
  | int j => obtain ⟨t', rfl⟩ := ry; exact ne_int (bq I q (congrArg not rm))
  | str j => obtain ⟨t', rfl⟩ := ry; exact PySem.EqMixed.ne_int_str (bq I q (by simp))
  | _ => exact absurd (show false = true from hs) Bool.false_ne_true
 | str i =>
  obtain ⟨t, rfl⟩ := rx;cases y with
  | non => cases ry; exact PySem.EqNone.ne_str_none (bq I q (by simp))
  | bl j => cases ry; exact PySem.EqMixed.ne_str_bool (bq I q (by simp))
  | int j => obtain ⟨t', rfl⟩ := ry; exact PySem.EqMixed.ne_str_int (bq I q (by simp))
  | str j => obtain ⟨t', rfl⟩ := ry; exact ne_str (bq I q (congrArg not rz))
  | _ => exact absurd (show false = true from hs) Bool.false_ne_true
 | byt i =>
  obtain ⟨t, rfl⟩ := rx;cases y with
  | byt j => obtain ⟨t', rfl⟩ := ry; exact PySem.W.ne_bytes (bq I q (congrArg not rF))
  | _ => exact absurd (show false = true from hs) Bool.false_ne_true
 | _ => cases y <;> exact absurd (show false = true from hs) Bool.false_ne_true
theorem vy : OpR X (compareOp .Lt) (rI0 fun i j => .bl (decide (i < j))) := zT fun _ _ _ _ _ _ _ q => lt_int q
theorem rG : OpR X (compareOp .Gt) (rI0 fun i j => .bl (decide (j < i))) := zT fun _ _ _ _ _ _ _ q => gt_int q
theorem yF : OpR X (compareOp .GtE) (rI0 fun i j => .bl (decide (j ≤ i))) := zT fun _ _ _ _ _ _ _ q => ge_int q
theorem OpR.or {f : Value → Value → Sem Value} {r r' : R2} (h : OpR X f r) (h' : OpR X f r') : OpR X f (fun x y H Q => r x y H Q ∨ r' x y H Q) := by
 intro pins s σ H x y v u Q I rx ry q;rcases q with q | q
 ·exact h pins s σ H x y v u Q I rx ry q
 ·exact h' pins s σ H x y v u Q I rx ry q
theorem ba (b : Expr) {op : CmpOp} (h : op ≠ .In := by decide) (h2 : op ≠ .NotIn := by decide) : behindInMarks op b = false := by
 have e1 : (op == CmpOp.In) = false := by cases op <;> first | rfl | exact absurd rfl h
 have e2 : (op == CmpOp.NotIn) = false := by cases op <;> first | rfl | exact absurd rfl h2
 cases b <;> simp [behindInMarks, e1, e2]
theorem xx {op : CmpOp} {r : R2} (ho : OpR X (compareOp op) r) (ha : PE X a ta) (hb : PE X b tb) (hm : behindInMarks op b = false) : PE X (.Compare a [op] [b] pos) (tOp r ta tb) := by
 intro pins s σ H Q I h;exact wpAny_Compare1 (BS ha hb I h fun v u s2 x y H2 I2 rx ry q => ho pins s2 σ H2 x y v u Q I2 rx ry q) hm
noncomputable def yP (t : TE) : TT := fun σ H Q => t σ H fun x H' => ∃ k, x = .bl k ∧ Q k H'
theorem xH {op : CmpOp} {r : R2} (ho : OpR X (compareOp op) r) (ha : PE X a ta) (hb : PE X b tb) (hm : behindInMarks op b = false) : PT X (.Compare a [op] [b] pos) (yP (tOp r ta tb)) := by
 intro pins s σ H Q I h;refine wpAny_isTrue_Compare1 (thn (ha pins s σ H _ I h) fun v s1 ⟨x, H1, I1, r1, q1⟩ => thn (hb pins s1 σ H1 _ I1 q1) fun u s2 ⟨y, H2, I2, r2, q2⟩ =>
  thn (ho pins s2 σ H2 x y v u _ I2 r1 r2 q2) fun c s3 ⟨z, H3, I3, r3, k, e, q3⟩ => ?_) hm
 subst e;cases r3;exact wpAny_truthy_bool ⟨H3, I3, q3⟩
theorem jI : (sizeLine : Nat) < 2 ^ 63 := by rw [sizeLine_eq]; decide
theorem qB : OpR X (binaryOp .Add) (fun x y H Q => ∃ i j, x = .str i ∧ y = .str j ∧ i.length + j.length ≤ sizeLine ∧ Q (.str (i ++ j)) H) := by
 intro pins s σ H x y v u Q I rx ry h;obtain ⟨i, j, rfl, rfl, hz, q⟩ := h;obtain ⟨t, rfl⟩ := rx;obtain ⟨t', rfl⟩ := ry;exact add_str (fun t' tk => ⟨.str (i ++ j), H, I.tok _, ⟨_, rfl⟩, q⟩) hz
theorem vals1 {x : V} {us : List Value} (r : Vals [x] us) : ∃ u, us = [u] ∧ RelV x u := by
 cases r with
 | cons r1 r2 => cases r2; exact ⟨_, rfl, r1⟩
theorem vals2 {x y : V} {us : List Value} (r : Vals [x, y] us) : ∃ u w', us = [u, w'] ∧ RelV x u ∧ RelV y w' := by
 cases r with
 | cons r1 r2 =>
  cases r2 with
  | cons r3 r4 => cases r4; exact ⟨_, _, rfl, r1, r3⟩
theorem tP (hc : X.calm = true) : ed X (.builtin "max") (fun xs H Q => ∃ i j, xs = [.int i, .int j] ∧ Q (.int (if j > i then j else i)) H) := by
 intro pins s σ H xs us Q I r h;obtain ⟨i, j, rfl, q⟩ := h;obtain ⟨u, w', rfl, ⟨t, rfl⟩, ⟨t', rfl⟩⟩ := vals2 r;refine max_two_ints (I.ok.hd hc) fun h' tk k => ⟨_, H, I.kept k, ?_, q⟩
 by_cases hj : j > i
 ·rw [if_pos hj, if_pos hj]; exact ⟨_, rfl⟩
 ·rw [if_neg hj, if_neg hj]; exact ⟨_, rfl⟩
theorem sW (hc : X.calm = true) : ed X (.builtin "min") (fun xs H Q => ∃ i j, xs = [.int i, .int j] ∧ Q (.int (if j < i then j else i)) H) := by
 intro pins s σ H xs us Q I r h;obtain ⟨i, j, rfl, q⟩ := h;obtain ⟨u, w', rfl, ⟨t, rfl⟩, ⟨t', rfl⟩⟩ := vals2 r;refine min_two_ints (I.ok.hd hc) fun h' tk k => ⟨_, H, I.kept k, ?_, q⟩
 by_cases hj : j < i
 ·rw [if_pos hj, if_pos hj]; exact ⟨_, rfl⟩
 ·rw [if_neg hj, if_neg hj]; exact ⟨_, rfl⟩
theorem tW : ed X (.type "int") (fun xs H Q => (∃ i, xs = [.int i] ∧ Q (.int i) H) ∨ ∃ k, xs = [.bl k] ∧ Q (.int (if k then 1 else 0)) H) := by
 intro pins s σ H xs us Q I r h;rcases h with ⟨i, rfl, q⟩ | ⟨k, rfl, q⟩
 ·obtain ⟨u, rfl, t, rfl⟩ := vals1 r
  exact call_int_int ⟨.int i, H, I, ⟨_, rfl⟩, q⟩
 ·obtain ⟨u, rfl, r1⟩ := vals1 r
  cases r1;exact call_int_bool ⟨.int (if k then 1 else 0), H, I.tok _, ⟨_, rfl⟩, q⟩
end
end L2
namespace L2
open PySem PySem.Spec PyProof.Rows
structure ObjM (h : Heap) (x dx C : Addr) (mA : Str → Option Value) : Prop where
 obj : h.get? x = some (PySem.W.instObj C dx)
 ns : h.Ns1 dx mA
 ne : dx ≠ x
section
variable {prog : Program} {w : World} {A : Around} {E : Value → Shared → Prop} {s : Shared} {K : PySem.W.Frag} {x dx C f : Addr} {mA : Str → Option Value} {name : Str} {v : Value}
end
section
variable {P : Program} {w : World} {H H' : Hp} {h h' : Heap} {a C dx : Addr} {fs fs' : List (Str × V)}
end
structure Cls (K : PySem.W.Frag) (C : Addr) : Prop where
 pg : PySem.W.plainGet K C Str.empty = true
 hd : PySem.W.hasDictIn K C = true
 po : PySem.W.plainOver K C = true
 sa : PySem.W.findIn K (.ref C) "__setattr__" = some (some (.builtin "object.__setattr__"))
structure Con (K : PySem.W.Frag) (C : Addr) (f : Str) (v : V) (u : Value) : Prop where
 at_ : PySem.W.findIn K (.ref C) f = some (some u)
 rel : RelV v u
 get : PySem.W.specialIn K u "__get__" = some none
 cp : PySem.W.copiedNames.contains f = false
structure Meth (K : PySem.W.Frag) (C : Addr) (m : Str) (f : Addr) : Prop where
 at_ : PySem.W.findIn K (.ref C) m = some (some (.ref f))
 fn : PySem.W.isFn K (.ref f) = true
 kp : PySem.W.keepIn K (.ref f) = true
section
variable {X : Cx} {pins : List (Addr × Obj)} {σ : St} {H : Hp} {s : Shared} {a C dx : Addr} {fs : List (Str × V)} {f : Str} {v : V} {A : Around} {E : Value → Shared → Prop}
end
section
variable {X : Cx} {o e value : Expr} {f : Str} {pos pos' tpos : Pos} {ta tv : TE}
end
section
variable {X : Cx} {pins : List (Addr × Obj)} {σ : St} {H : Hp} {s : Shared} {A : Around} {E : Value → Shared → Prop} {Q : Value → Shared → Prop} {c : Value} {b : Bool}
inductive TyOf (K : PySem.W.Frag) (H : Hp) : V → Value → Prop where
 | non : TyOf K H .non (.type "NoneType")
 | bl (x : Bool) : TyOf K H (.bl x) (.type "bool")
 | int (i : Int) : TyOf K H (.int i) (.type "int")
 | str (x : Str) : TyOf K H (.str x) (.type "str")
 | flt (x : UInt64) : TyOf K H (.flt x) (.type "float")
 | lst {a : Addr} {xs : List V} (e : H a = some (.lst xs)) : TyOf K H (.ref a) (.type "list")
 | frz {a : Addr} {o : Obj} {xs : List V} (e : H a = some (.frz o (.lst xs))) : TyOf K H (.ref a) (.type "list")
 | tup {a : Addr} {xs : List V} (e : H a = some (.tup xs)) : TyOf K H (.ref a) (.type "tuple")
 | dK {a : Addr} {kvs : List (Key × V)} (e : H a = some (.dK kvs)) : TyOf K H (.ref a) (.type "dict")
 | dT {a : Addr} {kvs : List (List Key × V)} (e : H a = some (.dT kvs)) : TyOf K H (.ref a) (.type "dict")
 | ins {a C dx : Addr} {fs : List (Str × V)} (e : H a = some (.ins C dx fs)) (cl : Cls K C) (ha : PySem.W.findIn K (.ref C) "__class__" = some (some (.builtin "object.__class__")))
   (hn : PySem.W.specialIn K (.builtin "object.__class__") "__get__" = some (some (.builtin "getset_descriptor.__get__"))) (htk : PySem.W.takesIn K (.builtin "object.__class__") = some true)
   (hm : PySem.W.mroIn K C (.type "object") = some true) : TyOf K H (.ref a) (.ref C)
end
end L2
namespace L2
open PySem PySem.Spec PyProof.Rows
structure Room (k : Nat) (A : Around) : Prop where
 hd : A.handled = none
 dp : A.depth + 3 * k + 5 < recursionLimit
 un : A.units + 16 * k + 200 < cLine
theorem Room.mono {j k : Nat} {A : Around} (r : Room k A) (h : j ≤ k) : Room j A := ⟨r.hd, by have := r.dp; lia, by have := r.un; lia⟩
theorem Room.deeper {k : Nat} {A : Around} (r : Room (k + 1) A) (env : Env) : Room k (A.deeper env) :=
 ⟨r.hd, by have := r.dp; show A.depth + 1 + 3 * k + 5 < _; lia, by have := r.un; show A.units + 3 + 16 * k + 200 < _; lia⟩
theorem Room.depth {k : Nat} {A : Around} (r : Room k A) : A.depth < recursionLimit := by have := r.dp; lia
theorem Room.units {k : Nat} {A : Around} (r : Room k A) : A.units + 64 < cLine := by have := r.un; lia
noncomputable def qt : TA := fun _ H Q => Q [] H
noncomputable def kL (ta : TE) (tr : TA) : TA := fun σ H Q => ta σ H fun x H1 => tr σ H1 fun xs H2 => Q (x :: xs) H2
section
variable {X : Cx} {e : Expr} {es : List Expr} {te : TE} {t : TA} {pos : Pos}
theorem oh : PA X [] qt := fun _ _ _ _ H Q I h => Calls.spliced_nil ⟨[], H, I, .nil, h⟩
theorem jX (ha : PE X e te) (hr : PA X es t) (hs : starEach (e :: es) X.env = (false, eval e X.env) :: starEach es X.env := by rfl) : PA X (e :: es) (kL te t) := by
 intro pos pins s σ H Q I h;rw [hs];show wpAny _ _ (spliced ((false, eval e X.env) :: backTo pos (starEach es X.env))) _ _ s
 refine Calls.spliced_cons (thn (ha pins s σ H _ I h) fun u s1 ⟨x, H1, I1, r1, q1⟩ => ?_)
 exact thn (hr pos pins s1 σ H1 _ I1 q1) fun us s2 ⟨xs, H2, I2, r2, q2⟩ => ⟨x :: xs, H2, I2, .cons r1 r2, q2⟩
noncomputable def D4 (t : TA) : TE := fun σ H Q => t σ H fun xs H1 => xs.length ≤ sizeLine ∧ ∀ p, H1 p = none → Q (.ref p) (upd H1 p (.tup xs))
noncomputable def D2 (t : TA) : TE := fun σ H Q => t σ H fun xs H1 => xs.length ≤ sizeLine ∧ ∀ p, H1 p = none → Q (.ref p) (upd H1 p (.lst xs))
theorem A5 {x1} (h : PA X es t) : PE X (.Tuple es x1 pos) (D4 t) := by
 intro pins s σ H Q I hq;refine wpAny_Tuple_spliced (thn (h pos pins s σ H _ I hq) fun us s1 ⟨xs, H1, I1, r, z, q⟩ => ⟨by rw [← r.length]; exact z, ?_⟩)
 have hf : H1 s1.heap.objs.size = none := I1.hok.fresh (Nat.le_refl _);refine ⟨.ref s1.heap.objs.size, upd H1 s1.heap.objs.size (.tup xs), I1.laid (t' := s1.toks) (fun b u e => Heap.get?_push_of_some _ e) (Nat.le_refl _) ?_, rfl, q _ hf⟩
 exact ⟨z, us, r, ⟨_, Heap.get?_push_size _ rfl, rfl, _, rfl⟩⟩
theorem BM (h : PA X es t) : PE X (.List es pos) (D2 t) := by
 intro pins s σ H Q I hq;refine wpAny_List_spliced (thn (h pos pins s σ H _ I hq) fun us s1 ⟨xs, H1, I1, r, z, q⟩ => ⟨by rw [← r.length]; exact z, ?_⟩)
 have hf : H1 s1.heap.objs.size = none := I1.hok.fresh (Nat.le_refl _);refine ⟨.ref s1.heap.objs.size, upd H1 s1.heap.objs.size (.lst xs), I1.laid (t' := s1.toks) (fun b u e => Heap.get?_push_of_some _ e) (Nat.le_refl _) ?_, rfl, q _ hf⟩
 exact ⟨z, us, 0, r, Heap.get?_push_size _ rfl⟩
end
noncomputable abbrev Sp := List V → Hp → VK → XK → Prop
noncomputable abbrev CXT := List Env → Hp → Shared → XK → Value → Shared → Prop
structure Env0 (P : Program) (w : World) (K : PySem.W.Frag) (mg : Str → Option Value) (base : Heap) (A : Around) (outer : List Env) (s : Shared) (H : Hp) : Prop where
 frames : A.frames = some outer
 mod : Mod K mg base
 bs : ∀ b o, base.get? b = some o → s.heap.get? b = some o ∧ H b = none
 bsz : base.objs.size ≤ s.heap.objs.size
 funs : s.heap.FunFrames base outer
 frf : ∀ b ∈ frs outer, H b = none
 hok : HOk P w H s.heap
 bare : AllBare s.gens
noncomputable def CE (outer : List Env) (P : Program) (w : World) (H : Hp) (s : Shared) (Q : VK) (u : Value) (s' : Shared) : Prop :=
 ∃ v H', s'.os = s.os ∧ AllBare s'.gens ∧ Un (frs outer) [] H H' s.heap s'.heap ∧ HOk P w H' s'.heap ∧ RelV v u ∧ Q v H'
noncomputable def CR (CX : CXT) (outer : List Env) (P : Program) (w : World) (H : Hp) (s : Shared) (Q : VK) (E : XK) (r : Result) (s' : Shared) : Prop :=
 match r with
 | .ok (.ret u) => CE outer P w H s Q u s'
 | .ok _ => False
 | .error e => CX outer H s E e s'
structure FnOk (P : Program) (w : World) (K : PySem.W.Frag) (mg : Str → Option Value) (base : Heap) (CX : CXT) (k : Nat) (f : Addr) (fd : FuncData) (ps : List Str) (sp : Sp) : Prop where
 len : ∀ vs H Q E, sp vs H Q E → vs.length = ps.length
 run : ∀ (A : Around) (outer : List Env) (s : Shared) (H : Hp) (args : Args) (us : List Value) (vs : List V) (Q : VK) (E : XK), Room k A → Env0 P w K mg base A outer s H → BindsTo s fd args (ps.zip us) → Vals vs us → sp vs H Q E →
  codeAny (model P w) A (.call (.ref f) args) (CR CX outer P w H s Q E) s
theorem FnOk.imp {P : Program} {w : World} {K : PySem.W.Frag} {mg : Str → Option Value} {base : Heap} {CX : CXT} {k : Nat} {f : Addr} {fd : FuncData} {ps : List Str} {sp sp' : Sp} (F : FnOk P w K mg base CX k f fd ps sp)
  (h : ∀ vs H Q E, sp' vs H Q E → sp vs H Q E) : FnOk P w K mg base CX k f fd ps sp' :=
 ⟨fun vs H Q E q => F.len vs H Q E (h _ _ _ _ q), fun A outer s H args us vs Q E hr he hb hv hs => F.run A outer s H args us vs Q E hr he hb hv (h _ _ _ _ hs)⟩
section
variable {X : Cx} {pins : List (Addr × Obj)} {σ : St} {H : Hp} {s s' : Shared}
theorem Inv.oq (I : Inv X pins σ H s) : Env0 X.prog X.w X.K X.mg X.base X.A X.stack s H :=
 ⟨I.ok.frames, I.ok.mod, I.bs, Nat.le_trans I.ok.bsz I.sz, I.stack, I.stkFree, I.hok, I.bare⟩
theorem Inv.after {Q : VK} {u : Value} (I : Inv X pins σ H s) (h : CE X.stack X.prog X.w H s Q u s') : EP X pins σ Q u s' := by
 obtain ⟨v, H', os, bare, un, hok, r, q⟩ := h;obtain ⟨hh, g, d, t, os'⟩ := s';obtain rfl : os' = s.os := os;exact ⟨v, H', I.call (h' := hh) (g' := g) (d' := d) (t' := t) (ch := []) un hok bare (fun b z => absurd z (by simp)), r, q⟩
end
noncomputable def yL (sp : Sp) (dvs : List V) (E : XK) (t : TA) : TE := fun σ H Q => t σ H fun vs H1 => sp (vs ++ dvs) H1 Q E
noncomputable def Binds (K : PySem.W.Frag) (fd : FuncData) (ps : List Str) (ds : List Value) : Prop :=
 ∀ (s : Shared) (us : List Value), K.In s.heap → (us ++ ds).length = ps.length → BindsTo s fd ⟨us, []⟩ (ps.zip (us ++ ds))
theorem Binds.all {K : PySem.W.Frag} {fd : FuncData} {ps : List Str} (h : ∀ us : List Value, us.length = ps.length → bindArgs fd ⟨us, []⟩ = pure (ps.zip us)) : Binds K fd ps [] := fun s us _ hl => by
 rw [List.append_nil] at hl ⊢;exact .of_eq (h us hl)
noncomputable def Passes (CX : CXT) (X : Cx) (E : XK) : Prop := ∀ (pins : List (Addr × Obj)) (σ : St) (H : Hp) (s : Shared) (e : Value) (s' : Shared), Inv X pins σ H s → CX X.stack H s E e s' → X.xe e s'
section
variable {X : Cx} {CX : CXT} {k : Nat} {f C : Addr} {fd : FuncData} {ps : List Str} {sp : Sp} {dvs : List V} {ds : List Value} {E : XK} {x m : Str} {p pos apos : Pos} {e o : Expr} {es : List Expr} {ta : TE} {t : TA}
theorem Bq {pins : List (Addr × Obj)} {σ : St} {H : Hp} {s : Shared} {Q : VK} {us : List Value} {vs : List V} (F : FnOk X.prog X.w X.K X.mg X.base CX k f fd ps sp) (hr : Room k X.A) (hb : Binds X.K fd ps ds) (hd : Vals dvs ds) (hx : Passes CX X E)
  (I : Inv X pins σ H s) (r : Vals vs us) (h : sp (vs ++ dvs) H Q E) : wpAny (model X.prog X.w) X.A (call (.ref f) us) (EP X pins σ Q) X.xe s := by
 have r2 : Vals (vs ++ dvs) (us ++ ds) := r.append hd;have hl : (us ++ ds).length = ps.length := by rw [← r2.length]; exact F.len _ _ _ _ h
 refine wpAny_call (codeAny_mono (F.run X.A X.stack s H ⟨us, []⟩ (us ++ ds) (vs ++ dvs) Q E hr I.oq (hb s us I.kIn hl) r2 h) fun r s' hq => ?_)
 cases r with
 | error e => exact hx pins σ H s e s' I hq
 | ok fl =>
  cases fl with
  | ret u => exact I.after hq
  | next => exact False.elim hq
  | brk => exact False.elim hq
  | cont => exact False.elim hq
theorem ym (F : FnOk X.prog X.w X.K X.mg X.base CX k f fd ps sp) (hr : Room k X.A) (hg : Gl X x) (hm : X.mg x = some (.ref f)) (hk : PySem.W.keepIn X.K (.ref f) = true) (hb : Binds X.K fd ps ds) (hd : Vals dvs ds) (hx : Passes CX X E)
  (ha : PA X (e :: es) t) (hdb : (x == ("__debug__" : Str)) = false := by decide) (he : starEach (e :: es) X.env = (false, eval e X.env) :: starEach es X.env := by rfl) (hpl : (backTo pos (starEach es X.env)).any (·.1) = false := by rfl) :
  PE X (.Call (.Name x p) (e :: es) [] pos) (yL sp dvs E t) := by
 intro pins s σ H Q I h;refine wpAny_Call_Name_kw (rj I hg hm ?_ hdb);refine PySem.W.callWith_K (h₀ := X.base) I.ok.mod.kin hk (thn (ha pos pins s σ H _ I h) fun us s1 ⟨vs, H1, I1, r, q⟩ => ⟨I1.kIn, ?_⟩) he hpl
 exact Bq F hr hb hd hx I1 r q
structure Mk (K : PySem.W.Frag) (C f : Addr) : Prop where
 makes : PySem.W.makesIn K C = true
 init : PySem.W.findIn K (.ref C) "__init__" = some (some (.ref f))
 fn : PySem.W.isFn K (.ref f) = true
 kp : PySem.W.keepIn K (.ref C) = true
end
section
variable {X : Cx} {CX : CXT} {k : Nat} {f C : Addr} {fd : FuncData} {ps ks : List Str} {sp : Sp} {E : XK} {x m : Str} {p pos apos kpos : Pos} {e o : Expr} {es : List Expr} {kws : List Keyword} {te ta : TE} {t tk : TA} {nm : Option Str}
structure KBinds (K : PySem.W.Frag) (fd : FuncData) (ps ks : List Str) (g : List Value → List Value → List Value) (gV : List V → List V → List V) : Prop where
 to : ∀ (s : Shared) (us ws : List Value), K.In s.heap → (g us ws).length = ps.length → BindsTo s fd ⟨us, ks.zip ws⟩ (ps.zip (g us ws))
 rel : ∀ {vs : List V} {us : List Value} {zs : List V} {ws : List Value}, Vals vs us → Vals zs ws → Vals (gV vs zs) (g us ws)
variable {g : List Value → List Value → List Value} {gV : List V → List V → List V}
end
structure FnScope (N P : List Str) (sc : Scope) : Prop where
 kind : sc.kind = .function
 co : sc.isCoroutine = false
 gen : sc.isGenerator = false
 nd : N.Nodup
 pre : N.take P.length = P
 par : ∀ x ∈ P, sc.names.lookup x = some .local ∨ sc.names.lookup x = some .cell
 nofree : ∀ y ∈ sc.names, y.2 ≠ .free
theorem mW {kindOf : Str → Option NameKind} {x : Str} : ∀ {binds : List (Str × Value)} {m : Str → Option Value}, (∀ v, (x, v) ∉ binds) → bindL kindOf binds m x = m x
 | [], _, _ => rfl
 | (n, v) :: r, m, h => by
  unfold bindL;rw [mW fun w hw => h w (List.mem_cons_of_mem _ hw)]
  split
  ·have : x ≠ n := by rintro rfl; exact h v List.mem_cons_self
   simp [this]
  ·rfl
theorem mZ {kindOf : Str → Option NameKind} {x : Str} : ∀ {binds : List (Str × Value)} {m : Str → Option Value}, (∀ v, (x, v) ∉ binds) → bindC kindOf binds m x = m x
 | [], _, _ => rfl
 | (n, v) :: r, m, h => by
  unfold bindC;rw [mZ fun w hw => h w (List.mem_cons_of_mem _ hw)]
  split
  ·rfl
  ·have : x ≠ n := by rintro rfl; exact h v List.mem_cons_self
   simp [this]
theorem mV {kindOf : Str → Option NameKind} {x : Str} {v : Value} : ∀ {P : List Str} {vs : List Value} {i : Nat} {m : Str → Option Value}, P.Nodup → P[i]? = some x → vs[i]? = some v → kindOf x = some .local →
  bindL kindOf (P.zip vs) m x = some v
 | [], _, _, _, _, h, _, _ => by simp at h
 | _ :: _, [], _, _, _, _, h, _ => by simp at h
 | p :: P, w :: vs, 0, m, nd, h1, h2, hk => by
  simp at h1 h2; subst h1; subst h2
  show bindL kindOf ((p, w) :: P.zip vs) m p = _
  unfold bindL;rw [mW fun v hv => (List.nodup_cons.mp nd).1 (List.of_mem_zip hv).1, if_pos hk]
  simp
 | p :: P, w :: vs, i + 1, m, nd, h1, h2, hk => by
  show bindL kindOf ((p, w) :: P.zip vs) m x = _
  unfold bindL;exact mV (i := i) (List.nodup_cons.mp nd).2 (by simpa using h1) (by simpa using h2) hk
theorem nq {kindOf : Str → Option NameKind} {x : Str} {v : Value} : ∀ {P : List Str} {vs : List Value} {i : Nat} {m : Str → Option Value}, P.Nodup → P[i]? = some x → vs[i]? = some v → kindOf x ≠ some .local →
  bindC kindOf (P.zip vs) m x = some v
 | [], _, _, _, _, h, _, _ => by simp at h
 | _ :: _, [], _, _, _, _, h, _ => by simp at h
 | p :: P, w :: vs, 0, m, nd, h1, h2, hk => by
  simp at h1 h2; subst h1; subst h2
  show bindC kindOf ((p, w) :: P.zip vs) m p = _
  unfold bindC;rw [mZ fun v hv => (List.nodup_cons.mp nd).1 (List.of_mem_zip hv).1, if_neg hk]
  simp
 | p :: P, w :: vs, i + 1, m, nd, h1, h2, hk => by
  show bindC kindOf ((p, w) :: P.zip vs) m x = _
  unfold bindC;exact nq (i := i) (List.nodup_cons.mp nd).2 (by simpa using h1) (by simpa using h2) hk
noncomputable def start (N : List Str) (vs : List V) : St := vs.map some ++ List.replicate (N.length - vs.length) none
noncomputable def p9 (CX : CXT) (P : Program) (w : World) (K : PySem.W.Frag) (mg : Str → Option Value) (base : Heap) (N : List Str) (qual : Str) (scope : Scope) (f : Addr) (cd : Value) (A : Around) (outer : List Env) (s : Shared) (H : Hp) (E : XK) : Cx where
 prog := P
 w := w
 K := K
 mg := mg
 base := base
 A := A.deeper (envOfC qual scope s.heap.objs.size f cd)
 N := N
 s₀ := s
 H₀ := H
 env := envOfC qual scope s.heap.objs.size f cd
 outer := outer
 stack := envOfC qual scope s.heap.objs.size f cd :: outer
 ex := []
 calm := true
 fn := fun _ => true
 pn := []
 xe := fun e s' => wpAny (model P w) (A.deeper (envOfC qual scope s.heap.objs.size f cd)) (leaving (envOfC qual scope s.heap.objs.size f cd) e) (fun _ s'' => CX outer H s E e s'') (fun e' s'' => CX outer H s E e' s'') s'
theorem p8 {sc : Scope} {n : Nat} {x : Str} (h : sc.names.lookup x = some .cell) : ∃ c, (cellsFrom n sc.names []).lookup x = some c := by
 have q := PySem.W.cellsFrom_some sc.names n [] (.inl h);exact Option.isSome_iff_exists.mp q
theorem tR {CX : CXT} {P : Program} {w : World} {K : PySem.W.Frag} {mg : Str → Option Value} {base : Heap} {N ps : List Str} {qual : Str} {scope : Scope} {f : Addr} {cd : Value} {A : Around} {outer : List Env} {s s1 : Shared} {H : Hp} {E : XK} {us : List Value} {vs : List V}
  (S : FnScope N ps scope) (hd : A.handled = none) (e0 : Env0 P w K mg base A outer s H) (hl : vs.length = ps.length) (r : Vals vs us)
  (x : InCallC s s.heap.objs.size (bindL (envOfC qual scope s.heap.objs.size f cd).kindOf (ps.zip us) fun _ => none) (cellsFrom (s.heap.objs.size + 1) scope.names []) (bindC (envOfC qual scope s.heap.objs.size f cd).kindOf (ps.zip us) fun _ => none) s1) :
  Inv (p9 CX P w K mg base N qual scope f cd A outer s H E) [] (start N vs) H s1 := by
 have hpl : ps.length ≤ N.length := by have := congrArg List.length S.pre; rw [List.length_take] at this; lia
 obtain ⟨h1, tk, rfl, hk⟩ := x.done;have noA : ∀ b : Addr, b ∉ (p9 CX P w K mg base N qual scope f cd A outer s H E).ex := fun b z => absurd (show b ∈ ([] : List Addr) from z) (by simp)
 refine ⟨⟨e0.mod, S.kind, rfl, rfl, Nat.le_refl _, fun y z c h1 h2 => ?_, fun y hy => ?_, fun y c _ h => ?_, fun _ => hd, Around.frames_deeper e0.frames, .inr ⟨rfl, rfl⟩, fun b z => absurd z (noA b), e0.bs, e0.bsz, fun b _ _ => noA b, fun b z => absurd z (noA b), e0.funs, e0.frf⟩,
  rfl, e0.bare, Un.kept hk, ⟨_, x.toInCall.ns, fun i y v h1 h2 h3 => ?_⟩, fun y c h => ⟨_, x.cell y c h⟩, e0.hok.fresh (Nat.le_refl _), fun y c h => ?_, fun p hp => absurd (show p ∈ ([] : List (Addr × Obj)) from hp) (by simp), e0.hok.kept hk, ?_⟩
 ·exact name_of_addr x.apart (PySem.mem_of_lookup h1) (PySem.mem_of_lookup h2)
 ·have hy : scope.names.lookup y = some .cell ∨ scope.names.lookup y = some .free := hy
  rcases hy with hy | hy
  ·exact p8 hy
  ·exact absurd rfl (S.nofree _ (PySem.mem_of_lookup hy))
 ·exact Nat.le_of_lt (x.above y c (PySem.mem_of_lookup h))
 ·have hi : i < vs.length := by
   unfold start at h2;by_cases hi : i < vs.length
   ·exact hi
   ·rw [List.getElem?_append_right (by simpa using hi)] at h2
    rw [List.getElem?_replicate] at h2;split at h2 <;> cases h2
  have ha : vs[i]? = some v := by
   unfold start at h2;rw [List.getElem?_append_left (by simpa using hi), List.getElem?_map] at h2
   cases e : vs[i]? with
   | none => rw [e] at h2; cases h2
   | some a => rw [e] at h2; cases h2; rfl
  obtain ⟨u, hu, rv⟩ := r.get ha;have hp : ps[i]? = some y := by
   rw [← S.pre, List.getElem?_take_of_lt (by lia)]; exact h1
  have ndP : ps.Nodup := by rw [← S.pre]; exact S.nd.sublist (List.take_sublist _ _)
  refine ⟨u, rv, ?_⟩;rcases S.par y (List.mem_of_getElem? hp) with k | k
  ·exact .inl ⟨k, mV ndP hp hu k⟩
  ·obtain ⟨c, e⟩ := p8 (n := s.heap.objs.size + 1) k
   refine .inr ⟨.inl k, c, e, ?_⟩;have q := x.cell y c e;rw [nq ndP hp hu (by show scope.names.lookup y ≠ _; rw [k]; decide)] at q
   exact q
 ·exact e0.hok.fresh (Nat.le_of_lt (x.above y c (PySem.mem_of_lookup h)))
 ·unfold start
  show _ = N.length
  rw [List.length_append, List.length_map, List.length_replicate];lia
theorem Cy {CX : CXT} {P : Program} {w : World} {K : PySem.W.Frag} {mg : Str → Option Value} {base : Heap} {k : Nat} {f : Addr} {name qual : Str} {params : Arguments} {body : List Stmt} {scope : Scope} {dV kV doc pm cdv ct oc : Value} {an od : Option Addr}
  {osl : Array (Option Value)} {N ps : List Str} {sp : Sp} (lk : K.lookup f = some ⟨oc, od, .func (PySem.W.fnOf name qual params body scope dV kV doc pm an cdv ct), osl⟩) (hcd : PySem.W.codeIn K cdv qual = true) (S : FnScope N ps scope)
  (len : ∀ vs H Q E, sp vs H Q E → vs.length = ps.length)
  (hbody : ∀ (A : Around) (outer : List Env) (s : Shared) (H : Hp) (vs : List V) (Q : VK) (E : XK), Room k (A.deeper (envOfC qual scope s.heap.objs.size f cdv)) → sp vs H Q E →
   ∃ t, PSs (p9 CX P w K mg base N qual scope f cdv A outer s H E) body t ∧ t { nx := fun _ H' => Q .non H', rt := Q } (start N vs) H) :
  FnOk P w K mg base CX (k + 1) f (PySem.W.fnOf name qual params body scope dV kV doc pm an cdv ct) ps sp := by
 refine ⟨len, fun A outer s H args us vs Q E hr e0 hb r hsp => ?_⟩
 have hl := len _ _ _ _ hsp;have KX : K.In s.heap := e0.mod.kin.keeps fun b o e => (e0.bs b o e).1
 have lim : s.heap.NoLimit := e0.mod.nolimit.keeps fun b o e => (e0.bs b o e).1
 have hkind : ∀ y ∈ ps.zip us, scope.names.lookup y.1 = some .local ∨ (scope.names.lookup y.1 = some .cell ∧ ((cellsFrom (s.heap.objs.size + 1) scope.names []).lookup y.1).isSome = true) := fun ⟨n, v⟩ hy => by
  rcases S.par n (List.of_mem_zip hy).1 with q | q
  ·exact .inl q
  ·exact .inr ⟨q, PySem.W.cellsFrom_some _ _ _ (.inl q)⟩
 refine codeAny_call_function hr.depth (KX _ _ lk) rfl S.co S.gen rfl (PySem.W.codeRec_of KX hcd) (hb _ _ _ _ ?_);refine wpAny_newFunctionEnv_cells S.kind hkind fun env he s1 x => ?_
 subst he;refine ⟨lim.keeps x.toInCall.keep, codeAny_func ?_⟩;obtain ⟨t, ht, hq⟩ := hbody A outer s H vs Q E (hr.deeper _) hsp;have I : Inv (p9 CX P w K mg base N qual scope f cdv A outer s H E) [] (start N vs) H s1 := tR S hr.hd e0 hl r x;refine wpAny_mono (ht [] s1 (start N vs) H _ I hq) (fun fl s' hs => ?_) fun e s' hs => hs
 have fin : ∀ {σ' : St} {H' : Hp} {v : V} {u : Value}, Inv (p9 CX P w K mg base N qual scope f cdv A outer s H E) [] σ' H' s' → RelV v u → Q v H' → CE outer P w H s Q u s' :=
  fun {σ' H' v u} J rv q => ⟨v, H', J.os, J.bare, J.base, J.hok, rv, q⟩
 cases fl with
 | ret u =>
  obtain ⟨v, σ', H', J, rv, q⟩ := hs;exact fin J rv q
 | next =>
  obtain ⟨σ', H', J, q⟩ := hs;exact fin (v := V.non) (u := Value.none) J rfl q
 | brk =>
  obtain ⟨_, _, _, q⟩ := hs;exact False.elim q
 | cont =>
  obtain ⟨_, _, _, q⟩ := hs;exact False.elim q
end L2
namespace L2
open PySem PySem.Spec PyProof.Rows
section
variable {X : Cx} {x : Str} {p pos : Pos} {e : Expr} {es : List Expr} {t : TA} {id T : String} {r : List V → Hp → VK → Prop}
noncomputable def tCB (r : List V → Hp → VK → Prop) (t : TA) : TE := fun σ H Q => t σ H fun vs H1 => r vs H1 Q
theorem pN (hc : ed X (.builtin id) r) (hg : Gl X x) (hm : X.mg x = none) (hv : bootBuiltins x = some (.builtin id)) (ha : PA X (e :: es) t) (hn : x ≠ "__name__" := by decide) (hdb : (x == ("__debug__" : Str)) = false := by decide)
  (he : starEach (e :: es) X.env = (false, eval e X.env) :: starEach es X.env := by rfl) (hpl : (backTo pos (starEach es X.env)).any (·.1) = false := by rfl) : PE X (.Call (.Name x p) (e :: es) [] pos) (tCB r t) := by
 intro pins s σ H Q I h;refine wpAny_Call_Name_kw (iH I hg hm hv ?_ hn hdb);exact PyProof.Rows.callWith_builtin1 (thn (ha pos pins s σ H _ I h) fun us s1 ⟨vs, H1, I1, r1, q1⟩ => hc pins s1 σ H1 vs us Q I1 r1 q1) he hpl
theorem t4 (hc : ed X (.type T) r) (hg : Gl X x) (hm : X.mg x = none) (hv : bootBuiltins x = some (.type T)) (ha : PA X (e :: es) t) (hn : x ≠ "__name__" := by decide) (hdb : (x == ("__debug__" : Str)) = false := by decide)
  (he : starEach (e :: es) X.env = (false, eval e X.env) :: starEach es X.env := by rfl) (hpl : (backTo pos (starEach es X.env)).any (·.1) = false := by rfl) : PE X (.Call (.Name x p) (e :: es) [] pos) (tCB r t) := by
 intro pins s σ H Q I h;refine wpAny_Call_Name_kw (iH I hg hm hv ?_ hn hdb);exact PyProof.Rows.callWith_type1 (thn (ha pos pins s σ H _ I h) fun us s1 ⟨vs, H1, I1, r1, q1⟩ => hc pins s1 σ H1 vs us Q I1 r1 q1) he hpl
end
end L2
namespace HT
open PySem PyProof.Rows
section
open PySem.SeqAt
open PySem.AutoSeq1 (wpAny_loadPart')
open PySem.MeetsSeq PySem.MeetsSeq2 PySem.MeetsSeq3
end
section
variable {prog : Program} {w : World} {A : Around} {E : Value → Shared → Prop} {s : Shared}
noncomputable def sIx (n d : Nat) : Option Int → Nat
 | none => d
 | some v => if v < 0 then (v + (n : Int)).toNat else min v.toNat n
theorem o_ (n d : Nat) : sIx n d none = d := rfl
theorem qZ (n d k : Nat) : sIx n d (some (k : Int)) = min k n := by
 show (if (k : Int) < 0 then ((k : Int) + (n : Int)).toNat else min (k : Int).toNat n) = min k n
 rw [if_neg (by lia), Int.toNat_natCast]
end
end HT
namespace L2
open PySem PySem.Spec PyProof.Rows
noncomputable abbrev TO := St → Hp → (Option Int → Hp → Prop) → Prop
noncomputable def PO (X : Cx) (e : Option Expr) (t : TO) : Prop :=
 ∀ (pins : List (Addr × Obj)) (s : Shared) (σ : St) (H : Hp) (Q : Option Int → Hp → Prop), Inv X pins σ H s → t σ H Q →
  wpAny (model X.prog X.w) X.A (evalPart e X.env) (fun u s' => ∃ o H', Inv X pins σ H' s' ∧ IsPart u o ∧ Q o H') X.xe s
noncomputable def rO : TO := fun _ H Q => Q none H
noncomputable def yu (t : TE) : TO := fun σ H Q => t σ H fun x H1 => ∃ i, x = .int i ∧ Q (some i) H1
theorem intsAre_of {ns : List Int} : ∀ {us : List Value}, Vals (ns.map V.int) us → IntsAre us ns := by
 induction ns with
 | nil => intro us r; rw [List.map_nil] at r; cases r; exact .nil
 | cons n ns ih =>
  intro us r;rw [List.map_cons] at r;cases r with
  | cons r1 r2 =>
   obtain ⟨t, e⟩ := r1;subst e;exact .cons n t (ih r2)
section
variable {X : Cx} {e : Expr} {te : TE} {lo hi : Option Expr} {tl th : TO} {pos p2 : Pos}
theorem ye : PO X none rO := by
 intro pins s σ H Q I h;rw [evalPart_none];exact wpAny_pure ⟨none, H, I, .none, h⟩
theorem xB (h : PE X e te) : PO X (some e) (yu te) := by
 intro pins s σ H Q I hw;rw [evalPart_some];refine thn (h pins s σ H _ I hw) fun u s1 ⟨x, H1, I1, r1, q1⟩ => ?_
 obtain ⟨i, rfl, q⟩ := q1;obtain ⟨t, rfl⟩ := r1;exact ⟨some i, H1, I1, .int i t, q⟩
noncomputable def SlR (X : Cx) (r : V → Option Int → Option Int → Hp → VK → Prop) : Prop :=
 ∀ (pins : List (Addr × Obj)) (s : Shared) (σ : St) (H : Hp) (x : V) (v vl vu : Value) (lo hi : Option Int) (sl : Addr) (Q : VK), Inv X pins σ H s → RelV x v → s.heap.IsSliceOf sl vl vu .none → IsPart vl lo → IsPart vu hi → r x lo hi H Q →
  ∃ T id, typeLookup (.type T) "__getitem__" = pure (some (.builtin id)) ∧ s.TypeIs v T ∧ wpAny (model X.prog X.w) X.A (getItem v (.ref sl)) (EP X pins σ Q) X.xe s
noncomputable def tSl (r : V → Option Int → Option Int → Hp → VK → Prop) (te : TE) (tl th : TO) : TE := fun σ H Q => te σ H fun x H1 => tl σ H1 fun l H2 => th σ H2 fun u H3 => r x l u H3 Q
theorem uw {r : V → Option Int → Option Int → Hp → VK → Prop} (hr : SlR X r) (he : PE X e te) (hl : PO X lo tl) (hu : PO X hi th) : PE X (.Subscript e (.Slice lo hi none p2) pos) (tSl r te tl th) := by
 intro pins s σ H Q I h;refine Subscript_ (thn (he pins s σ H _ I h) fun v s1 ⟨x, H1, I1, r1, q1⟩ => ?_)
 refine wpAny_Slice (thn (hl pins s1 σ H1 _ I1 q1) fun vl s2 ⟨l, H2, I2, pl, q2⟩ => thn (hu pins s2 σ H2 _ I2 q2) fun vu s3 ⟨u, H3, I3, pu, q3⟩ => ?_)
 rw [evalPart_none];refine wpAny_pure ?_;have I4 : Inv X pins σ H3 { s3 with heap := s3.heap.push { cls := .type "slice", data := .fields #[vl, vu, .none] } } := I3.kept (t' := s3.toks) fun b ob q => Heap.get?_push_of_some _ q
 obtain ⟨T, id, hT, ht, hg⟩ := hr pins { s3 with heap := s3.heap.push { cls := .type "slice", data := .fields #[vl, vu, .none] } } σ H3 x v vl vu l u s3.heap.objs.size Q I4 r1 (Heap.IsSliceOf.new ..) pl pu q3
 show wpAny (model X.prog X.w) X.A (subscriptTail e (.Slice lo hi none p2) v (.ref s3.heap.objs.size)) (EP X pins σ Q) X.xe { s3 with heap := s3.heap.push { cls := .type "slice", data := .fields #[vl, vu, .none] } }
 exact tail_any (ops := [.ref s3.heap.objs.size, v]) ht hT hg (by with_unfolding_all rfl)
noncomputable def vi (xs : List V) (lo hi : Option Int) : List V := (xs.drop (HT.sIx xs.length 0 lo)).take (HT.sIx xs.length xs.length hi - HT.sIx xs.length 0 lo)
theorem oS (xs : List V) (lo hi : Option Int) : (vi xs lo hi).length ≤ xs.length := by
 unfold vi;rw [List.length_take, List.length_drop];lia
end
end L2
namespace L2
open PySem PySem.Spec PyProof.Rows
noncomputable def ixN (n : Nat) (i : Int) : Option Nat := if 0 ≤ i then (if i < n then some i.toNat else none) else if -(n : Int) ≤ i then some (i + n).toNat else none
noncomputable def atI {α : Type} (xs : List α) (i : Int) : Option α := (ixN xs.length i).bind fun j => xs[j]?
theorem rL {n : Nat} {i : Int} {j : Nat} (h : ixN n i = some j) : seqIndex? i n = some j ∧ j < n ∧ -(n : Int) ≤ i ∧ i < n := by
 unfold ixN at h;by_cases h0 : 0 ≤ i
 ·rw [if_pos h0] at h
  by_cases h1 : i < n
  ·rw [if_pos h1] at h
   have e : i.toNat = j := Option.some.inj h;exact ⟨by rw [seqIndex_of h0 h1, e], by lia, by lia, h1⟩
  ·rw [if_neg h1] at h; cases h
 ·rw [if_neg h0] at h
  by_cases h1 : -(n : Int) ≤ i
  ·rw [if_pos h1] at h
   have e : (i + n).toNat = j := Option.some.inj h;exact ⟨by rw [seqIndex_neg (by lia) h1, e], by lia, h1, by lia⟩
  ·rw [if_neg h1] at h; cases h
theorem oE {α : Type} {xs : List α} {i : Int} {v : α} (h : atI xs i = some v) : ∃ j, seqIndex? i xs.length = some j ∧ xs[j]? = some v ∧ j < xs.length ∧ -(xs.length : Int) ≤ i ∧ i < xs.length := by
 unfold atI at h;cases e : ixN xs.length i with
 | none => rw [e] at h; cases h
 | some j =>
  rw [e] at h;obtain ⟨h1, h2, h3, h4⟩ := rL e;exact ⟨j, h1, h, h2, h3, h4⟩
theorem eE {α : Type} {xs : List α} {j : Nat} {v : α} (h : xs[j]? = some v) : atI xs (j : Int) = some v := by
 have hj : j < xs.length := (List.getElem?_eq_some_iff.mp h).1;have e : ixN xs.length (j : Int) = some j := by
  unfold ixN;rw [if_pos (by lia), if_pos (by lia)]; simp
 unfold atI; rw [e]; exact h
theorem o6 {α : Type} (xs : List α) (v : α) : atI (xs ++ [v]) (-1) = some v := by
 have hl : (xs ++ [v]).length = xs.length + 1 := by simp
 have e : ixN (xs ++ [v]).length (-1) = some xs.length := by
  unfold ixN;rw [hl, if_neg (by decide), if_pos (by lia)]
  congr 1
  lia
 unfold atI;rw [e];show (xs ++ [v])[xs.length]? = some v
 simp
noncomputable def k7 (b : Expr) : Prop := ∀ o i, subscripted b false o i = operate [o, i] (getItem o i)
noncomputable def IxR (X : Cx) (r : R2) : Prop :=
 ∀ (value slice : Expr) (pins : List (Addr × Obj)) (s : Shared) (σ : St) (H : Hp) (x y : V) (v u : Value) (Q : VK), Inv X pins σ H s → RelV x v → RelV y u → r x y H Q →
  subscripted slice false v u = operate [v, u] (getItem v u) → wpAny (model X.prog X.w) X.A (subscriptTail value slice v u) (EP X pins σ Q) X.xe s
noncomputable def MtR (X : Cx) (id : String) (r : V → List V → Hp → VK → Prop) : Prop :=
 ∀ (pins : List (Addr × Obj)) (s : Shared) (σ : St) (H : Hp) (x : V) (xs : List V) (v : Value) (us : List Value) (Q : VK), Inv X pins σ H s → RelV x v → Vals xs us → r x xs H Q →
  wpAny (model X.prog X.w) X.A (call (.builtin id) (v :: us)) (EP X pins σ Q) X.xe s
section
variable {X : Cx} {a b : Expr} {ta tb : TE} {pos : Pos}
theorem IxR.or {r r' : R2} (h : IxR X r) (h' : IxR X r') : IxR X (fun x y H Q => r x y H Q ∨ r' x y H Q) := by
 intro value slice pins s σ H x y v u Q I rx ry q hs;rcases q with q | q
 ·exact h value slice pins s σ H x y v u Q I rx ry q hs
 ·exact h' value slice pins s σ H x y v u Q I rx ry q hs
theorem r9 {r : R2} (hr : IxR X r) (ha : PE X a ta) (hb : PE X b tb) (hs : k7 b) : PE X (.Subscript a b pos) (tOp r ta tb) := by
 intro pins s σ H Q I h;exact Subscript_ (BS ha hb I h fun v u s2 x y H2 I2 rx ry q => hr a b pins s2 σ H2 x y v u Q I2 rx ry q (hs _ _))
noncomputable def oM (K : PySem.W.Frag) : R2 := fun x y H Q => ∃ p xs i v, x = .ref p ∧ y = .int i ∧ SqL K H p xs ∧ atI xs i = some v ∧ Q v H
noncomputable def C8 (K : PySem.W.Frag) : R2 := fun x y H Q => ∃ p xs i v, x = .ref p ∧ y = .int i ∧ SqT K H p xs ∧ atI xs i = some v ∧ Q v H
noncomputable def Cm : R2 := fun x y H Q => ∃ z i c, x = .str z ∧ y = .int i ∧ z.length ≤ sizeLine ∧ atI z.cps.toList i = some c ∧ Q (.str ⟨#[c]⟩) H
theorem rK : IxR X (oM X.K) := by
 intro value slice pins s σ H x y v u Q I rx ry h hs;obtain ⟨p, xs, i, z, rfl, rfl, hq, he, q⟩ := h;cases rx;obtain ⟨t, rfl⟩ := ry;obtain ⟨its, r, pl, hz⟩ := I.list hq;obtain ⟨j, h1, h2, h3, h4, h5⟩ := oE he;obtain ⟨w, ew, rw'⟩ := r.get h2;have hl := r.length;have hn := jI;have fin : EP X pins σ Q w s := ⟨z, H, I, rw', q⟩;by_cases h0 : 0 ≤ i
 ·have hj : i.toNat = j := by
   rw [seqIndex_of h0 h5] at h1;exact Option.some.inj h1
  exact item_listR pl.isList h0 (by lia) (by rw [hj]; simpa using ew) fin hs
 ·have hj : (i + (its.toArray.size : Int)).toNat = j := by
   rw [seqIndex_neg (by lia) h4] at h1
   rw [List.size_toArray, ← hl];exact Option.some.inj h1
  exact subscriptTail_builtinR (x := w) pl.isList.typeIs slot_list_getitem.lookup
   (wpAny_getItem_list_neg (Q := fun r s' => r = w ∧ EP X pins σ Q r s') pl.isList (by lia) (by rw [List.size_toArray] <;> lia) (by lia) (by rw [hj]; simpa using ew) ⟨rfl, fin⟩) hs
theorem AI : IxR X (C8 X.K) := by
 intro value slice pins s σ H x y v u Q I rx ry h hs;obtain ⟨p, xs, i, z, rfl, rfl, hq, he, q⟩ := h;cases rx;obtain ⟨t, rfl⟩ := ry;obtain ⟨its, r, pl, hz⟩ := I.tuple hq;obtain ⟨j, h1, h2, h3, h4, h5⟩ := oE he;obtain ⟨w, ew, rw'⟩ := r.get h2;have hl := r.length;have hn := jI;have fin : EP X pins σ Q w s := ⟨z, H, I, rw', q⟩;exact subscriptTail_builtinR (x := w) pl.typeIs slot_tuple_getitem.lookup
  (getItem_tuple (j := j) (Q := fun r s' => r = w ∧ EP X pins σ Q r s') pl (by lia) (by lia) (by rw [List.size_toArray, ← hl]; exact h1) (by simpa using ew) ⟨rfl, fin⟩) hs
theorem Ab : IxR X Cm := by
 intro value slice pins s σ H x y v u Q I rx ry h hs;obtain ⟨z, i, c, rfl, rfl, hz, he, q⟩ := h;obtain ⟨t, rfl⟩ := rx;obtain ⟨t', rfl⟩ := ry;obtain ⟨j, h1, h2, h3, h4, h5⟩ := oE he;have hl : z.cps.toList.length = z.length := by simp [Str.length]
 rw [hl] at h1 h4 h5;have hn := jI;exact tail_any (typeIs_str s z t) slot_str_getitem.lookup (getItem_str (c := c) (by
  have e1 : decide (i < -(2 ^ 63 : Int)) = false := decide_eq_false (by lia)
  have e2 : decide (i ≥ 2 ^ 63) = false := decide_eq_false (by lia)
  rw [e1, e2, Bool.or_false]) (by rw [h1]; simpa using h2) ⟨.str ⟨#[c]⟩, H, I.tok _, ⟨_, rfl⟩, q⟩) hs
noncomputable def rIx (K : PySem.W.Frag) : R2 := fun x y H Q => oM K x y H Q ∨ C8 K x y H Q ∨ Cm x y H Q
theorem aq : IxR X (rIx X.K) := rK.or (AI.or Ab)
theorem qs (its : List Value) (n j : Nat) (u : Value) : Obj.mapSeq (·.setIfInBounds j u) { cls := .type "list", data := .seq its.toArray n } = { cls := .type "list", data := .seq (its.set j u).toArray n } := by
 simp [Obj.mapSeq]
theorem Inv.lst {pins : List (Addr × Obj)} {σ : St} {H : Hp} {s : Shared} {p : Addr} {xs : List V} (I : Inv X pins σ H s) (h : H p = some (.lst xs)) :
  ∃ (its : List Value) (n : Nat), Vals xs its ∧ s.heap.get? p = some { cls := .type "list", data := .seq its.toArray n } ∧ xs.length ≤ sizeLine := by
 obtain ⟨z, its, n, r, e⟩ := I.hok p _ h;exact ⟨its, n, r, e, z⟩
theorem Inv.lstUpd {pins : List (Addr × Obj)} {σ : St} {H : Hp} {s : Shared} {p : Addr} {xs ys : List V} {its its' : List Value} {n n' : Nat} {f : Obj → Obj} (I : Inv X pins σ H s) (h : H p = some (.lst xs))
  (ho : s.heap.get? p = some { cls := .type "list", data := .seq its.toArray n }) (hf : f { cls := .type "list", data := .seq its.toArray n } = { cls := .type "list", data := .seq its'.toArray n' }) (r : Vals ys its') (hz : ys.length ≤ sizeLine) (t : Nat) :
  Inv X pins σ (upd H p (.lst ys)) { s with heap := s.heap.update p f, toks := t } := by
 have e : (s.heap.update p f).get? p = some { cls := .type "list", data := .seq its'.toArray n' } := by
  rw [Heap.get?_update_self f ho (by rw [hf] <;> rfl), hf]
 refine I.write (x := p) (e := p) (by rw [h]; trivial) (.inl rfl) (fun b u hb q => (Heap.get?_update_other _ _ (Ne.symm hb)).trans q) ⟨_, e⟩ ?_
 exact ⟨hz, its', n', r, e⟩
noncomputable def yJ : V → V → V → Hp → (Hp → Prop) → Prop := fun o i v H Q => ∃ p xs k j, o = .ref p ∧ i = .int k ∧ H p = some (.lst xs) ∧ ixN xs.length k = some j ∧ Q (upd H p (.lst (xs.set j v)))
theorem set_list : B9 X yJ := by
 intro pins s σ H o i v ov iv u Q I ro ri rv h;obtain ⟨p, xs, k, j, rfl, rfl, hp, hj, q⟩ := h;cases ro;obtain ⟨t, rfl⟩ := ri;obtain ⟨its, n, r, ho, hz⟩ := I.lst hp;obtain ⟨h1, h2, h3, h4⟩ := rL hj;have hl := r.length;have hn := jI;have I' : Inv X pins σ (upd H p (.lst (xs.set j v))) { s with heap := s.heap.update p (Obj.mapSeq (·.setIfInBounds j u)) } :=
  I.lstUpd hp ho (qs its n j u) (r.set rv j) (by rw [List.length_set]; exact hz) s.toks
 by_cases h0 : 0 ≤ k
 ·have hk : k.toNat = j := by
   rw [seqIndex_of h0 h4] at h1;exact Option.some.inj h1
  exact PySem.W.ki_setAt ho h0 (by lia) (by rw [List.size_toArray, ← hl]; exact h4) (by rw [hk]; exact ⟨_, I', q⟩)
 ·have hk : (k + (its.toArray.size : Int)).toNat = j := by
   rw [seqIndex_neg (by lia) h3] at h1
   rw [List.size_toArray, ← hl];exact Option.some.inj h1
  exact PySem.W.ki_setBack ho (by lia) (by rw [List.size_toArray, ← hl]; exact h3) (by lia) (by rw [hk]; exact ⟨_, I', q⟩)
theorem nC (lo hi : Option Int) (n : Nat) : (sliceBounds lo hi none n).1 = ((HT.sIx n 0 lo : Nat) : Int) ∧ (sliceBounds lo hi none n).2.1 = ((HT.sIx n n hi : Nat) : Int) ∧ (sliceBounds lo hi none n).2.2 = 1 := by
 refine ⟨?_, ?_, rfl⟩
 ·cases lo with
  | none => simp [sliceBounds, HT.sIx]
  | some i =>
   simp only [sliceBounds, HT.sIx, Option.getD_none, show (1 : Int) > 0 by decide, if_true]
   by_cases h : i < 0
   ·simp only [h, if_true] <;> lia
   ·simp only [h, if_false] <;> lia
 ·cases hi with
  | none => simp [sliceBounds, HT.sIx]
  | some i =>
   simp only [sliceBounds, HT.sIx, Option.getD_none, show (1 : Int) > 0 by decide, if_true]
   by_cases h : i < 0
   ·simp only [h, if_true] <;> lia
   ·simp only [h, if_false] <;> lia
theorem mN (its : List Value) (lo hi : Option Int) : slicePick its.toArray lo hi none = ((its.drop (HT.sIx its.length 0 lo)).take (HT.sIx its.length its.length hi - HT.sIx its.length 0 lo)).toArray := by
 obtain ⟨h1, h2, h3⟩ := nC lo hi its.toArray.size;unfold slicePick;rw [h1, h2, h3];simp only [sliceRange_one, pick_run, List.size_toArray] <;> rfl
noncomputable def B_ (K : PySem.W.Frag) : V → Option Int → Option Int → Hp → VK → Prop := fun x lo hi H Q => ∃ a xs, x = .ref a ∧ SqL K H a xs ∧ ∀ p, H p = none → Q (.ref p) (upd H p (.lst (vi xs lo hi)))
theorem gF : SlR X (B_ X.K) := by
 intro pins s σ H x v vl vu lo hi sl Q I rx hs pl pu h;obtain ⟨a, xs, rfl, hx, q⟩ := h;cases rx;obtain ⟨its, r, ht, hz⟩ := I.list hx;have hlen := r.length;refine ⟨"list", _, slot_list_getitem.lookup, ht.isList.typeIs, ?_⟩;refine wpAny_getItem_list_slice ht.isList hs pl pu .none (by simp) ?_ (by rw [List.size_toArray] <;> lia)
 rw [mN, ← hlen];refine ⟨.ref s.heap.objs.size, _, I.laid (t' := s.toks) (o := .lst (vi xs lo hi)) (fun b ob q => Heap.get?_push_of_some _ q) (Nat.le_refl _) ?_, rfl, q _ (I.hok.fresh (Nat.le_refl _))⟩
 exact ⟨Nat.le_trans (oS xs lo hi) hz, _, 0, (r.drop (HT.sIx xs.length 0 lo)).take (HT.sIx xs.length xs.length hi - HT.sIx xs.length 0 lo), Heap.get?_push_size _ rfl⟩
theorem nU : ed X (.builtin "len") (fun xs H Q => ∃ p ys, xs = [.ref p] ∧ (SqL X.K H p ys ∨ SqT X.K H p ys) ∧ Q (.int ys.length) H) := by
 intro pins s σ H xs us Q I r h;obtain ⟨p, ys, rfl, hq, q⟩ := h;obtain ⟨u, rfl, rx⟩ := vals1 r;cases rx;have hn := jI;rcases hq with hq | hq
 ·obtain ⟨its, r', pl, hz⟩ := I.list hq
  have hlen := r'.length;exact Calls.call_len_list pl.isList (by simp only [List.size_toArray] <;> lia) ⟨.int ys.length, H, I.tok _, ⟨s.toks + 1, by rw [List.size_toArray, hlen]⟩, q⟩
 ·obtain ⟨its, r', pl, hz⟩ := I.tuple hq
  have hlen := r'.length;exact len_tuple pl (by simp only [List.size_toArray] <;> lia) ⟨.int ys.length, H, I.tok _, ⟨s.toks + 1, by rw [List.size_toArray, hlen]⟩, q⟩
theorem nH : ed X (.builtin "len") (fun xs H Q => ∃ z, xs = [.str z] ∧ z.length ≤ sizeLine ∧ Q (.int z.length) H) := by
 intro pins s σ H xs us Q I r h;obtain ⟨z, rfl, hz, q⟩ := h;obtain ⟨u, rfl, t, rfl⟩ := vals1 r;have hn := jI;exact len_str (by lia) ⟨.int z.length, H, I.tok _, ⟨_, rfl⟩, q⟩
theorem ed.or {f : Value} {r r' : List V → Hp → VK → Prop} (h : ed X f r) (h' : ed X f r') : ed X f (fun xs H Q => r xs H Q ∨ r' xs H Q) := by
 intro pins s σ H xs us Q I rs q;rcases q with q | q
 ·exact h pins s σ H xs us Q I rs q
 ·exact h' pins s σ H xs us Q I rs q
theorem nK : ed X (.type "list") (fun xs H Q => ∃ p ys, xs = [.ref p] ∧ (SqL X.K H p ys ∨ SqT X.K H p ys) ∧ ∀ l, H l = none → Q (.ref l) (upd H l (.lst ys))) := by
 intro pins s σ H xs us Q I r h;obtain ⟨p, ys, rfl, hq, q⟩ := h;obtain ⟨u, rfl, rx⟩ := vals1 r;cases rx;have fin : ∀ (its : List Value), Vals ys its → ys.length ≤ sizeLine → ∀ (h' : Heap) (c' : Nat), (∀ b o', s.heap.get? b = some o' → h'.get? b = some o') →
   h'.get? s.heap.objs.size = some { cls := .type "list", dict := none, data := .seq its.toArray c', slots := #[] } → EP X pins σ Q (.ref s.heap.objs.size) { s with heap := h' } := fun its r' hz h' c' kp e =>
  ⟨.ref s.heap.objs.size, _, I.laid (t' := s.toks) kp (Nat.le_refl _) (show f_ X.prog X.w _ h' _ (.lst ys) from ⟨hz, its, c', r', e⟩), rfl, q _ (I.hok.fresh (Nat.le_refl _))⟩
 rcases hq with hq | hq
 ·obtain ⟨its, r', pl, hz⟩ := I.list hq
  have hlen := r'.length;obtain ⟨o, ho, hc, n, hd⟩ := pl.isList;exact call_list_seq p (.inl rfl) ho hc hd (fun h' c' kp e => fin its r' hz h' c' kp e) (by simp only [List.size_toArray] <;> lia)
 ·obtain ⟨its, r', pl, hz⟩ := I.tuple hq
  have hlen := r'.length;obtain ⟨o, ho, hc, n, hd⟩ := pl;exact call_list_seq p (.inr rfl) ho hc hd (fun h' c' kp e => fin its r' hz h' c' kp e) (by simp only [List.size_toArray] <;> lia)
noncomputable def tyV (K : PySem.W.Frag) (T : String) (x : V) (H : Hp) : Prop := match x with
 | .str _ => T = "str"
 | .int _ => T = "int"
 | .ref p => (T = "list" ∧ ∃ xs, SqL K H p xs) ∨ (T = "tuple" ∧ ∃ o, K.lookup p = some o ∧ o.cls = .type "tuple" ∧ o.dict = none) ∨
   (T = "dict" ∧ ((∃ kvs, H p = some (.dK kvs)) ∨ ∃ kvs, H p = some (.dT kvs))) ∨ (T = "set" ∧ ∃ S n, H p = some (.set S n))
 | _ => False
theorem uF {pins : List (Addr × Obj)} {σ : St} {H : Hp} {s : Shared} {T : String} {x : V} {v : Value} (I : Inv X pins σ H s) (r : RelV x v) (ty : tyV X.K T x H) :
  s.TypeIs v T ∧ ∀ a, v = .ref a → ∃ ob, s.heap.get? a = some ob ∧ ob.dict = none := by
 cases x with
 | str z =>
  obtain ⟨t, rfl⟩ := r;cases (show T = "str" from ty)
  exact ⟨typeIs_str s z t, fun _ e => nomatch e⟩
 | int i =>
  obtain ⟨t, rfl⟩ := r;cases (show T = "int" from ty)
  exact ⟨typeIs_int s i t, fun _ e => nomatch e⟩
 | ref p =>
  cases r;rcases ty with ⟨rfl, xs, hq⟩ | ⟨rfl, o, hk, hc, hd⟩ | ⟨rfl, hk⟩ | ⟨rfl, S, n, hk⟩
  ·obtain ⟨its, _, pl, _⟩ := I.list hq
   refine ⟨pl.isList.typeIs, fun a e => ?_⟩
   cases e;obtain ⟨o, n, e, c, hd, _⟩ := pl;exact ⟨o, e, hd⟩
  ·refine ⟨⟨o, I.kIn p o hk, hc⟩, fun a e => ?_⟩
   cases e;exact ⟨o, I.kIn _ o hk, hd⟩
  ·have z : ∃ o, s.heap.get? p = some o ∧ o.ExactDict := by
    rcases hk with ⟨kvs, hk⟩ | ⟨kvs, hk⟩
    ·obtain ⟨_, _, _, _, o, _, _, e, ex, _⟩ := I.hok p _ hk
     exact ⟨o, e, ex⟩
    ·obtain ⟨_, _, _, _, o, _, _, e, ex, _⟩ := I.hok p _ hk
     exact ⟨o, e, ex⟩
   obtain ⟨o, e, ex⟩ := z;refine ⟨⟨o, e, ex.1⟩, fun a e2 => ?_⟩
   cases e2;exact ⟨o, e, ex.2.1⟩
  ·obtain ⟨o, _, _, _, e, ex, _⟩ := I.hok p _ hk
   refine ⟨⟨o, e, ex.1⟩, fun a e2 => ?_⟩
   cases e2;exact ⟨o, e, ex.2.1⟩
 | _ => exact False.elim ty
noncomputable def CS (K : PySem.W.Frag) (T : String) (r : V → List V → Hp → VK → Prop) (to : TE) : TE := fun σ H Q => to σ H fun x H1 => tyV K T x H1 ∧ r x [] H1 Q
noncomputable def tBM (K : PySem.W.Frag) (T : String) (r : V → List V → Hp → VK → Prop) (to : TE) (t : TA) : TE := fun σ H Q => to σ H fun x H1 => tyV K T x H1 ∧ t σ H1 fun xs H2 => r x xs H2 Q
variable {o e : Expr} {es : List Expr} {to : TE} {t : TA} {name : Str} {apos cpos : Pos} {T id : String} {r : V → List V → Hp → VK → Prop}
theorem BK (pa : PlainAttrs T) (slot : Slot T name id) (hty : typeOf (.builtin id) = pure (.type "method_descriptor")) (hm : MtR X id r) (ho : PE X o to)
  (hbase : attributeBase o name X.env (eval o X.env) = eval o X.env := by rfl) (hline : (apos.endLine == cpos.line) = true := by rfl) : PE X (.Call (.Attribute o name apos) [] [] cpos) (CS X.K T r to) := by
 intro pins s σ H Q I h;refine wpAny_Call_method0_late hbase hline (thn (ho pins s σ H _ I h) fun v s1 ⟨x, H1, I1, r1, ty, q1⟩ => ?_)
 obtain ⟨h1, h2⟩ := uF I1 r1 ty;exact ⟨T, id, pa, slot, hty, h1, h2, Calls.callWith_builtin rfl (PySem.evalArgs_none (hm pins s1 σ H1 x [] v [] Q I1 r1 .nil q1))⟩
theorem yG (pa : PlainAttrs T) (slot : Slot T name id) (hty : typeOf (.builtin id) = pure (.type "method_descriptor")) (hm : MtR X id r) (ho : PE X o to) (ha : PA X (e :: es) t)
  (hbase : attributeBase o name X.env (eval o X.env) = eval o X.env := by rfl)
  (hfew : ((backTo cpos (starEach (e :: es) X.env)).all (fun x => !x.1) && (backToKw cpos (keywordEach [] X.env)).all (fun x => x.1.isSome)
   && decide ((e :: es).length + ([] : List Keyword).length + (if ([] : List Keyword).isEmpty then 0 else 1) < 30)) = true := by rfl)
  (hline : (apos.endLine == cpos.line) = true := by rfl) (hs : starEach (e :: es) X.env = (false, eval e X.env) :: starEach es X.env := by rfl) (hplain : (backTo cpos (starEach es X.env)).any (·.1) = false := by rfl) :
  PE X (.Call (.Attribute o name apos) (e :: es) [] cpos) (tBM X.K T r to t) := by
 intro pins s σ H Q I h;refine wpAny_Call_method_late hbase hfew hline rfl (thn (ho pins s σ H _ I h) fun v s1 ⟨x, H1, I1, r1, ty, q1⟩ => ?_)
 obtain ⟨h1, h2⟩ := uF I1 r1 ty;refine ⟨T, id, pa, slot, hty, h1, h2, ?_⟩;have hA := ha cpos pins s1 σ H1 _ I1 q1;rw [hs] at hA ⊢;refine Calls.callWith_builtin (by show (false || (backTo cpos (starEach es X.env)).any (·.1)) = false; rw [hplain] <;> rfl) (Calls.evalArgs_plain ?_)
 exact thn hA fun us s2 ⟨vs, H2, I2, r2, q2⟩ => hm pins s2 σ H2 x vs v us Q I2 r1 r2 q2
end
end L2
namespace L2
open PySem PySem.Spec PyProof.Rows
noncomputable def MtM (X : Cx) (id : String) (r : V → List V → Hp → VK → Prop) : Prop :=
 ∀ (pins : List (Addr × Obj)) (s : Shared) (σ : St) (H : Hp) (x : V) (xs : List V) (v : Value) (us : List Value) (Q : VK), Inv X pins σ H s → RelV x v → Vals xs us → r x xs H Q →
  wpAny (model X.prog X.w) X.A (call (.builtin id) (v :: us)) (EP X pins σ Q) X.xe s
theorem Vals.one {x : V} {us : List Value} (h : Vals [x] us) : ∃ u, us = [u] ∧ RelV x u := by
 cases h with
 | cons r t => cases t; exact ⟨_, rfl, r⟩
theorem Vals.two {x y : V} {us : List Value} (h : Vals [x, y] us) : ∃ u v, us = [u, v] ∧ RelV x u ∧ RelV y v := by
 cases h with
 | cons r t => obtain ⟨v, rfl, q⟩ := Vals.one t; exact ⟨_, v, rfl, r, q⟩
theorem Vals.zero : ∀ {us : List Value}, Vals [] us → us = []
 | _, .nil => rfl
theorem Vals.dropLast {xs : List V} {us : List Value} (h : Vals xs us) : Vals xs.dropLast us.dropLast := by
 induction h with
 | nil => exact .nil
 | cons r t ih =>
  cases t with
  | nil => exact .nil
  | cons q t' => exact .cons r ih
theorem Vals.reverse {xs : List V} {us : List Value} (h : Vals xs us) : Vals xs.reverse us.reverse := by
 induction h with
 | nil => exact .nil
 | cons r t ih => rw [List.reverse_cons, List.reverse_cons]; exact Vals.append ih (.cons r .nil)
theorem Vals.rep {xs : List V} {us : List Value} (h : Vals xs us) : ∀ k : Nat, Vals (List.replicate k xs).flatten (List.replicate k us).flatten
 | 0 => .nil
 | k + 1 => by
  rw [List.replicate_succ, List.replicate_succ, List.flatten_cons, List.flatten_cons];exact Vals.append h (Vals.rep h k)
theorem qv {α : Type} (l : List α) : l.eraseIdx (l.length - 1) = l.dropLast := by
 induction l with
 | nil => rfl
 | cons a r ih =>
  cases r with
  | nil => rfl
  | cons b r =>
   have e : (a :: b :: r).length - 1 = ((b :: r).length - 1) + 1 := by
    have h1 : (a :: b :: r).length = r.length + 2 := rfl;have h2 : (b :: r).length = r.length + 1 := rfl;lia
   rw [e, List.eraseIdx_cons_succ, ih]
   all_goals rfl
theorem foldl_rep (its : List Value) : ∀ (k : Nat) (acc : List Value),
  List.foldl (fun x1 x2 => x1 ++ x2) acc.toArray (List.replicate k its.toArray) = (acc ++ (List.replicate k its).flatten).toArray
 | 0, acc => by simp
 | k + 1, acc => by
  have e : acc.toArray ++ its.toArray = (acc ++ its).toArray := by simp
  have e2 : (acc ++ its) ++ (List.replicate k its).flatten = acc ++ (List.replicate (k + 1) its).flatten := by
   rw [List.replicate_succ, List.flatten_cons, List.append_assoc]
  rw [← e2, ← foldl_rep its k (acc ++ its), ← e, List.replicate_succ, List.foldl_cons]
section
variable {X : Cx} {pins : List (Addr × Obj)} {σ : St} {H : Hp} {s : Shared} {l b : Addr} {xs ys zs : List V}
theorem Inv.lset {its its' : List Value} {n : Nat} {f : Array Value → Array Value} {t' : Nat} (I : Inv X pins σ H s) (hH : H l = some (.lst xs))
  (e : s.heap.get? l = some { cls := .type "list", data := .seq its.toArray n }) (hf : f its.toArray = its'.toArray) (hv : Vals ys its') (hz : ys.length ≤ sizeLine) :
  Inv X pins σ (upd H l (.lst ys)) { s with heap := s.heap.update l (Obj.mapSeq f), toks := t' } := by
 have q := PySem.IsL.update e f;rw [hf] at q;refine I.write (x := l) (e := l) (by rw [hH]; exact trivial) (.inl rfl) (fun b' u hb hu => (Heap.get?_update_other s.heap (Obj.mapSeq f) (Ne.symm hb)).trans hu) ⟨_, q⟩ ?_
 exact ⟨hz, its', _, hv, q⟩
theorem Inv.lnew {its : List Value} {t' : Nat} (I : Inv X pins σ H s) (hv : Vals ys its) (hz : ys.length ≤ sizeLine) :
  Inv X pins σ (upd H s.heap.objs.size (.lst ys)) { s with heap := s.heap.push { cls := .type "list", data := .seq its.toArray }, toks := t' } :=
 I.laid (fun _ _ q => Heap.get?_push_of_some _ q) (Nat.le_refl _) ⟨hz, its, 0, hv, Heap.get?_push_size _ rfl⟩
theorem Inv.fresh (I : Inv X pins σ H s) : H s.heap.objs.size = none := I.hok.fresh (Nat.le_refl _)
theorem Inv.lstM (I : Inv X pins σ H s) (hH : H l = some (.lst xs)) : xs.length ≤ sizeLine ∧ ∃ (its : List Value) (n : Nat), Vals xs its ∧ xs.length = its.length ∧ s.heap.get? l = some { cls := .type "list", data := .seq its.toArray n } := by
 obtain ⟨z, its, n, r, e⟩ := I.hok l _ hH;exact ⟨z, its, n, r, r.length, e⟩
theorem oQ {n : Nat} (h : n ≤ sizeLine) : Builtin.List.listTooLong n = false := by
 unfold Builtin.List.listTooLong;exact decide_eq_false (by lia)
end
section
variable {X : Cx}
noncomputable def nY : V → List V → Hp → VK → Prop := fun x vs H Q => ∃ l xs y, x = .ref l ∧ vs = [y] ∧ H l = some (.lst xs) ∧ xs.length < sizeLine ∧ Q .non (upd H l (.lst (xs ++ [y])))
theorem i8 : MtM X "list.append" nY := by
 intro pins s σ H x vs v us Q I rx rv h;obtain ⟨l, xs, y, rfl, rfl, hH, hz, q⟩ := h;cases rx;obtain ⟨u, rfl, ru⟩ := rv.one;obtain ⟨z, its, n, r, hl, e⟩ := I.lstM hH;refine call_meets F.slot_list_append ⟨_, e, rfl⟩ F.entry_list_append (F.args_list_append_2 _ _) (PySem.list_append l its.toArray n u (by rw [List.size_toArray]; lia)) ⟨e, ?_⟩
 refine ⟨.non, _, I.lset (its' := its ++ [u]) hH e (by simp) (r.append (.cons ru .nil)) ?_, rfl, q⟩
 rw [List.length_append, List.length_singleton];lia
noncomputable def rJ : V → List V → Hp → VK → Prop := fun x vs H Q => ∃ l b xs zs, x = .ref l ∧ vs = [.ref b] ∧ H l = some (.lst xs) ∧ H b = some (.lst zs) ∧ xs.length + zs.length ≤ sizeLine ∧ Q .non (upd H l (.lst (xs ++ zs)))
theorem t5 : MtM X "list.extend" rJ := by
 intro pins s σ H x vs v us Q I rx rv h;obtain ⟨l, b, xs, zs, rfl, rfl, hH, hB, hz, q⟩ := h;cases rx;obtain ⟨u, rfl, ru⟩ := rv.one;cases ru;obtain ⟨z, its, n, r, hl, e⟩ := I.lstM hH;obtain ⟨z2, its2, n2, r2, hl2, e2⟩ := I.lstM hB;have hsz : its.toArray.size + its2.toArray.size ≤ sizeLine := by rw [List.size_toArray, List.size_toArray]; lia
 have hlong : ¬ (!its.toArray.isEmpty && Builtin.List.listTooLong (its.toArray.size + its2.toArray.size)) = true := by
  rw [oQ hsz, Bool.and_false];exact Bool.false_ne_true
 refine call_meets F.slot_list_extend ⟨_, e, rfl⟩ F.entry_list_extend (F.args_list_extend_2 _ _)
  (AutoSeq1.list_extend_list_list_0 l its.toArray n b its2.toArray n2 hlong (by rw [List.size_toArray]; lia) (by lia)) ⟨e, e2, ?_⟩
 refine ⟨.non, _, I.lset (its' := its ++ its2) hH e (by simp) (r.append r2) ?_, rfl, q⟩
 rw [List.length_append];lia
noncomputable def B8 : V → List V → Hp → VK → Prop := fun x vs H Q => ∃ l xs y, x = .ref l ∧ vs = [] ∧ H l = some (.lst xs) ∧ xs[xs.length - 1]? = some y ∧ Q y (upd H l (.lst xs.dropLast))
theorem AW : MtM X "list.pop" B8 := by
 intro pins s σ H x vs v us Q I rx rv h;obtain ⟨l, xs, y, rfl, rfl, hH, hy, q⟩ := h;cases rx;have hus := rv.zero;subst hus;obtain ⟨z, its, n, r, hl, e⟩ := I.lstM hH;obtain ⟨u, hu, ru⟩ := r.get hy;have hy' : its.toArray[its.toArray.size - 1]? = some u := by
  show its.toArray[its.length - 1]? = some u
  rw [← Array.getElem?_toList, ← hl];exact hu
 refine call_meets F.slot_list_pop ⟨_, e, rfl⟩ F.entry_list_pop (F.args_list_pop_1 _) (MeetsSeq.list_pop_last l its.toArray n u hy' (by rw [List.size_toArray]; lia)) ⟨e, ?_⟩
 refine ⟨y, _, I.lset (its' := its.dropLast) hH e ?_ r.dropLast ?_, ru, q⟩
 ·show its.toArray.eraseIdxIfInBounds (its.toArray.size - 1) = its.dropLast.toArray
  rw [List.size_toArray, List.eraseIdxIfInBounds_toArray, qv]
 ·rw [List.length_dropLast]
  lia
theorem len_rep {α : Type} (xs : List α) (k : Nat) : (List.replicate k xs).flatten.length = k * xs.length := by
 induction k with
 | zero => simp
 | succ k ih => rw [List.replicate_succ, List.flatten_cons, List.length_append, ih, Nat.succ_mul, Nat.add_comm]
end
section
variable {prog : Program} {w : World} {A : Around} {E : Value → Shared → Prop} {s : Shared}
set_option maxRecDepth 100000 in
end
section
variable {X : Cx}
end
end L2
namespace Att
open PySem PySem.W PySem.Calls PyProof.Rows
theorem kS {P : Params} {h : Heap} : ∀ (ns : List Int) (vs : List Value), WellAll P h vs (ns.map WData.int) → IntsAre vs ns := by
 intro ns
 induction ns with
 | nil =>
  intro vs w;rw [List.map_nil] at w;cases w;exact .nil
 | cons n ns ih =>
  intro vs w;rw [List.map_cons] at w;cases w with
  | cons a b =>
   cases a;exact .cons _ _ (ih _ b)
theorem sF {l : OpenLaw} {n : Nat} (hn : l.most = some n) {P : Params} {h : Heap} {args : List WData} {vals : List Value}
  (hpre : l.row.toRowW.claim.pre args = true) (hwl : WellAll P h vals args) :
  ∃ a vs ns, vals = [Value.ref a] ∧ args = [WData.list (ns.map WData.int)] ∧ h.get? a = some { cls := .type "list", data := .seq vs.toArray } ∧ IntsAre vs ns ∧ ns.length ≤ n := by
 have hsh : WShape.hasAll [] args [.list .int] = true := (pre_splitW hpre).1;have hc : l.pre.holds [] { args := args } = true := (pre_splitW hpre).2;obtain ⟨d, r, rfl, h1, h2⟩ := hasAllW_cons hsh;obtain rfl := hasAllW_nil h2;obtain ⟨xs, rfl, h3⟩ := hasW_list h1;obtain ⟨ns, rfl⟩ := items_int h3;have hlen : ns.length ≤ n := by
  unfold OpenLaw.pre at hc;have h4 : (WTm.not (.lt (.lit (.int (n : Int))) (.len (.arg 0)))).holds [] { args := [.list (ns.map .int)] } = true := by
   have h4 := (holds_andW hc).1;rw [hn] at h4;exact h4
  have h5 := condW_of h4 (w_not (w_lt w_lit (w_len_list (w_arg rfl))));rw [List.length_map] at h5;refine Nat.le_of_not_lt fun q => ?_
  have q' : (n : Int) < ((ns.length : Nat) : Int) := by lia
  first
   | (rw [decide_eq_true q'] at h5; exact absurd h5 (by decide))
   | (simp at h5; lia)
 cases hwl with
 | cons w1 w2 =>
  cases w2;cases w1 with
  | list ho hall => exact ⟨_, _, ns, rfl, rfl, ho, kS ns _ hall, hlen⟩
theorem tp (l : OpenLaw) (args : List WData) : l.row.toRowW.claim.post args (.bool true) args = true :=
 postW_of (r := l.row.toRowW) (X := (true == true))
  (show WShape.has [] (.bool true) .bool = true by first | rfl | decide | simp [WShape.has, WShape.arms, WShape.armsAll])
  (show (WTm.eq .res (.lit (.bool true))).value [] { args := args, res := some (.bool true), after := args } = some (.bool (true == true)) from w_eq_bool (w_res rfl) w_lit) rfl
theorem kK {l : OpenLaw} {n : Nat} {q : Program} {loose : List Str} {XP : (Str → Option Value) → Heap → Prop} {YP : World → Heap → Prop} {d : DefRec}
  (hn : l.most = some n) (hdf : d.params.defaults = [])
  (call : ∀ (w : World) (s₀ s₁ : Shared) (mg mb : Str → Option Value) (fa : Addr) (o : Obj) (pm cd doc : Value) (a : Addr) (vs : List Value) (ns : List Int),
   Ground q loose [] XP w s₀ mg mb s₁.heap → YP w s₁.heap →
   s₁.heap.get? fa = some o → o.data = .func (docDef d.name d.params d.body d.scope pm cd doc) → s₁.heap.CodeRec cd d.name → mg d.name = some (.ref fa) →
   s₁.heap.get? a = some { cls := .type "list", data := .seq vs.toArray } → IntsAre vs ns → ns.length ≤ n → s₁.gens = #[] →
   codeAny (model l.prog w) callerA (.call (.ref fa) ⟨[.ref a], []⟩) (fun r s' => r = .ok (.ret (.bool true)) ∧ OldK s₁.heap s'.heap ∧ s'.os = s₁.os ∧ AllBare s'.gens) s₁) :
  WalkO q loose XP YP l.row.toRowW d [] (fun f vs => PySem.call f vs) := by
 intro w s₀ s₁ mg mb G Y fa o pm cd doc dV kV ho hd hcd hD hmg hg args vals as hpre hlay hrd hwl hlo;obtain rfl : dV = .none := Dflts.none hD hdf;obtain rfl : kV = .none := Dflts.noKw hD;obtain ⟨a, vs, ns, rfl, rfl, hobj, hints, hlen⟩ := sF hn hpre hwl;refine enter_call (codeAny_mono (call w s₀ s₁ mg mb fa o pm cd doc a vs ns G Y ho (fd_plain hd) hcd hmg hobj hints hlen hg) fun r s' hq => ?_)
 obtain ⟨rfl, h2, h3, h4⟩ := hq;exact ⟨.inl ⟨.bool true, .bool true, [], rfl, fun _ => rfl, .bool true, tp l _, fun _ => ⟨List.Pairwise.nil, fun _ hm => (nomatch hm)⟩⟩, h2, h3, h4⟩
section
variable {prog : Program} {w : World} {A : Around} {E : Value → Shared → Prop} {s : Shared} {K : Frag}
noncomputable def ledger (h : Heap) (L d : Addr) : List (Addr × Obj) := (List.range h.objs.size).filterMap fun a => if a = L ∨ a = d then none else (h.get? a).map fun o => (a, o)
end
end Att
namespace L2
open PySem PySem.Spec PyProof.Rows
theorem g7 : ∀ {vs : List Value} {ns : List Int}, IntsAre vs ns → Vals (ns.map V.int) vs
 | _, _, .nil => .nil
 | _, _, .cons n t h => .cons ⟨t, rfl⟩ (g7 h)
noncomputable def sA (H : Hp) : Prop := ∀ b, H b = none ∨ ∃ o xs, H b = some (.frz o (.lst xs))
theorem uQ {P : Program} {w : World} {K : PySem.W.Frag} {mg mb : Str → Option Value} {CX : CXT} {k : Nat} {fa a : Addr} {fd : FuncData} {x : Str} {sp : Sp} {s₁ : Shared} {vs : List Value} {ns : List Int}
  (KX : K.In s₁.heap) (hns : s₁.heap.Ns mainGlobals mg) (hb : s₁.heap.Ns builtinsNs mb) (hbb : ∀ x : Str, x ≠ "__name__" → mb x = bootBuiltins x) (hlim : s₁.heap.NoLimit) (hg : s₁.gens = #[])
  (ha : s₁.heap.get? a = some { cls := .type "list", data := .seq vs.toArray }) (hi : IntsAre vs ns) (hl : ns.length ≤ sizeLine) (hr : Room k callerA)
  (F : ∀ base : Heap, K.In base → base.Ns mainGlobals mg → FnOk P w K mg base CX k fa fd [x] sp) (hbind : ∀ (s : Shared) (u : Value), BindsTo s fd ⟨[u], []⟩ [(x, u)])
  (hsp : ∀ H : Hp, sA H → SqL K H a (ns.map V.int) → sp [.ref a] H (fun v _ => v = .bl true) fun _ _ _ => False)
  (hCX : ∀ H e s', CX [] H s₁ (fun _ _ _ => False) e s' → False) :
  codeAny (model P w) callerA (.call (.ref fa) ⟨[.ref a], []⟩) (fun r s' => r = .ok (.ret (.bool true)) ∧ OldK s₁.heap s'.heap ∧ s'.os = s₁.os ∧ AllBare s'.gens) s₁ := by
 have rv := g7 hi;have lenV := hi.length;have core : ∀ H : Hp, sA H → SqL K H a (ns.map V.int) → HOk P w H s₁.heap → (∀ b, H b ≠ none → b = a) → (H a ≠ none → K.lookup a = none) →
   codeAny (model P w) callerA (.call (.ref fa) ⟨[.ref a], []⟩) (fun r s' => r = .ok (.ret (.bool true)) ∧ OldK s₁.heap s'.heap ∧ s'.os = s₁.os ∧ AllBare s'.gens) s₁ := by
  intro H hO hS hok hA hK;have base_of : ∀ {b : Addr} {o : Obj}, s₁.heap.get? b = some o → H b = none → (jC s₁.heap H).get? b = some o := fun e n => p6 e n
  have noA : ∀ {b : Addr} {o : Obj} {es : Array DictEntry} {ep : Nat}, s₁.heap.get? b = some o → o.data = .dict es ep → H b = none := fun {b o es ep} e d => by
   cases q : H b with
   | none => rfl
   | some u =>
    have e' : b = a := hA b (by rw [q]; simp)
    subst e';rw [ha] at e; cases e;have d' : Data.seq vs.toArray _ = Data.dict es ep := d;cases d'
  have nsK : ∀ {b : Addr} {m : Str → Option Value}, s₁.heap.Ns b m → (jC s₁.heap H).Ns b m := fun {b m} ⟨o, es, ep, e, d, r⟩ => ⟨o, es, ep, base_of e (noA e d), d, r⟩
  have hKb : K.In (jC s₁.heap H) := fun b o e => base_of (KX b o e) (by
   cases q : H b with
   | none => rfl
   | some u =>
    have e' : b = a := hA b (by rw [q]; simp)
    subst e';rw [hK (by rw [q]; simp)] at e; cases e)
  have hM : Mod K mg (jC s₁.heap H) := ⟨hKb, nsK hns, ⟨mb, nsK hb, hbb⟩, let ⟨mc, h1, h2⟩ := hlim; ⟨mc, nsK h1, h2⟩⟩;have e0 : Env0 P w K mg (jC s₁.heap H) callerA [] s₁ H := ⟨rfl, hM, fun b o e => rM e, Nat.le_of_eq (m9 _ _), trivial, fun b hb => absurd (show b ∈ ([] : List Addr) from hb) (by simp), hok, .of_eq hg⟩
  refine codeAny_mono ((F _ hKb (nsK hns)).run callerA [] s₁ H ⟨[.ref a], []⟩ [.ref a] [.ref a] _ _ hr e0 (hbind s₁ (.ref a)) (.cons rfl .nil) (hsp H hO hS)) fun r s' h => ?_
  cases r with
  | error e => exact (hCX H e s' h).elim
  | ok fl =>
   cases fl with
   | next => exact False.elim h
   | brk => exact False.elim h
   | cont => exact False.elim h
   | ret u =>
    obtain ⟨v, H', os, bare, un, hok', r', q⟩ := h;have q' : v = .bl true := q;subst q';obtain rfl : u = Value.bool true := r';refine ⟨rfl, OldK.of_keep fun b o e => ?_, os, bare⟩
    cases q : H b with
    | none => exact un.keep b o e q (by intro z; exact absurd (show b ∈ ([] : List Addr) from z) (by simp)) (by simp)
    | some u =>
     rcases hO b with z | ⟨ob, xs, z⟩
     ·rw [q] at z; cases z
     ·have z2 := un.frzs b ob _ z
      obtain ⟨e1, _⟩ := hok b _ z;obtain ⟨e2, _⟩ := hok' b _ z2;rw [e] at e1; cases e1;exact e2
 cases hk : K.lookup a with
 | some o =>
  have e := KX a o hk;rw [ha] at e;cases e;refine core (fun _ => none) (fun _ => .inl rfl) (.inr ⟨_, vs.toArray, _, hk, rfl, rfl, rfl, by rw [List.size_toArray, lenV]; exact hl, by simpa using rv⟩) (fun b u z => by have z' : (none : Option HO) = some u := z; cases z') (fun b z => absurd rfl z) fun z => absurd rfl z
 | none =>
  refine core (fun b => if b = a then some (.frz { cls := .type "list", data := .seq vs.toArray } (.lst (ns.map V.int))) else none) (fun b => ?_) (.inl (.inr ⟨{ cls := .type "list", data := .seq vs.toArray }, if_pos rfl⟩)) (fun b u z => ?_) (fun b z => ?_) fun _ => hk
  ·by_cases hb : b = a
   ·exact .inr ⟨_, _, if_pos hb⟩
   ·exact .inl (if_neg hb)
  ·by_cases hb : b = a
   ·have z' := (if_pos hb).symm.trans z
    cases z';subst hb;exact ⟨ha, by rw [List.length_map]; exact hl, vs, _, rv, ha⟩
   ·have z' := (if_neg hb).symm.trans z
    cases z'
  ·by_cases hb : b = a
   ·exact hb
   ·exact absurd (if_neg hb) z
end L2
namespace L2
open PySem PySem.Spec PyProof.Rows
noncomputable abbrev KOf {K : PySem.W.Frag} {h : Heap} (_ : K.In h) : PySem.W.Frag := K
theorem EI {l : PySem.W.OpenLaw} {n k : Nat} {q : Program} {loose : List Str} {XP : (Str → Option Value) → Heap → Prop} {YP : World → Heap → Prop} {d : DefRec} {K : Params → PySem.W.Frag} {CX : World → CXT} {sp : World → Sp} {x : Str}
  (hn : l.most = some n) (hn2 : n ≤ sizeLine) (hdf : d.params.defaults = []) (hr : Room k callerA)
  (hY : ∀ (w : World) (h : Heap), YP w h → (K w.params).In h)
  (F : ∀ (w : World) (mg : Str → Option Value) (fa : Addr) (h : Heap), (K w.params).In h → h.Ns mainGlobals mg → mg d.name = some (.ref fa) →
   ∃ fd : FuncData, (∀ (s : Shared) (u : Value), BindsTo s fd ⟨[u], []⟩ [(x, u)]) ∧
    ∀ base : Heap, (K w.params).In base → base.Ns mainGlobals mg → FnOk l.prog w (K w.params) mg base (CX w) k fa fd [x] (sp w))
  (hsp : ∀ (w : World) (H : Hp) (a : Addr) (ns : List Int), ns.length ≤ n → sA H → SqL (K w.params) H a (ns.map V.int) → sp w [.ref a] H (fun v _ => v = .bl true) fun _ _ _ => False)
  (hCX : ∀ (w : World) (H : Hp) (s : Shared) (e : Value) (s' : Shared), CX w [] H s (fun _ _ _ => False) e s' → False) :
  PySem.W.WalkO q loose XP YP l.row.toRowW d [] (fun f vs => PySem.call f vs) := by
 refine Att.kK hn hdf fun w s₀ s₁ mg mb fa o pm cd doc a vs ns G Y ho hd hcd hmg hobj hints hlen hg => ?_
 have KX := hY w _ Y;obtain ⟨fd, hb, hF⟩ := F w mg fa _ KX G.T.g hmg;exact uQ KX G.T.g G.T.b G.T.builtins G.T.nolimit hg hobj hints (Nat.le_trans hlen hn2) hr hF hb (fun H hO hS => hsp w H a ns hlen hO hS) fun H e s' => hCX w H s₁ e s'
end L2
namespace L2
open PySem PySem.Spec PyProof.Rows
noncomputable def aM (s : Stmt) : Arguments := match s with
 | .FunctionDef _ a _ _ _ _ _ _ _ _ => a
 | _ => { posonlyargs := [], args := [], vararg := none, kwonlyargs := [], kw_defaults := [], kwarg := none, defaults := [] }
noncomputable def aH (s : Stmt) : List Stmt := match s with
 | .FunctionDef _ _ b _ _ _ _ _ _ _ => b
 | _ => []
noncomputable def ai (s : Stmt) : Scope := match s with
 | .FunctionDef _ _ _ _ _ _ sc _ _ _ => sc
 | _ => { kind := .function, names := [], isGenerator := false, isCoroutine := false }
noncomputable abbrev CX0 : CXT := fun _ _ _ _ _ _ => False
structure Fun (K : PySem.W.Frag) (x qual : Str) (st : Stmt) (f : Addr) (fd : FuncData) : Prop where
 ex : ∃ (oc : Value) (od : Option Addr) (kV doc pm : Value) (an : Option Addr) (cdv ct : Value) (osl : Array (Option Value)),
  fd = PySem.W.fnOf x qual (aM st) (aH st) (ai st) .none kV doc pm an cdv ct ∧ K.lookup f = some ⟨oc, od, .func fd, osl⟩ ∧ PySem.W.codeIn K cdv qual = true
 kp : PySem.W.keepIn K (.ref f) = true
section
variable {P : Program} {w : World} {K : PySem.W.Frag} {mg : Str → Option Value} {base : Heap}
theorem Fun.ok {x qual : Str} {st : Stmt} {f : Addr} {fd : FuncData} {N ps : List Str} {k : Nat} {sp : Sp} (F : Fun K x qual st f fd) (S : FnScope N ps (ai st)) (len : ∀ vs H Q E, sp vs H Q E → vs.length = ps.length)
  (hbody : ∀ (cdv : Value) (A : Around) (outer : List Env) (s : Shared) (H : Hp) (vs : List V) (Q : VK) (E : XK), Room k (A.deeper (envOfC qual (ai st) s.heap.objs.size f cdv)) → sp vs H Q E →
   ∃ t, PSs (p9 CX0 P w K mg base N qual (ai st) f cdv A outer s H E).nox (aH st) t ∧ t { nx := fun _ H' => Q .non H', rt := Q } (start N vs) H) : FnOk P w K mg base CX0 (k + 1) f fd ps sp := by
 obtain ⟨oc, od, kV, doc, pm, an, cdv, ct, osl, rfl, lk, hcd⟩ := F.ex;refine Cy lk hcd S len fun A outer s H vs Q E hr hsp => ?_
 obtain ⟨t, h, q⟩ := hbody cdv A outer s H vs Q E hr hsp;exact ⟨t, h.nox, q⟩
theorem Fun.binds {x qual : Str} {st : Stmt} {f : Addr} {fd : FuncData} {ps : List Str} (F : Fun K x qual st f fd)
  (h : ∀ (kV doc pm : Value) (an : Option Addr) (cdv ct : Value) (us : List Value), us.length = ps.length → bindArgs (PySem.W.fnOf x qual (aM st) (aH st) (ai st) .none kV doc pm an cdv ct) ⟨us, []⟩ = pure (ps.zip us)) : Binds K fd ps [] := by
 obtain ⟨oc, od, kV, doc, pm, an, cdv, ct, osl, rfl, lk, hcd⟩ := F.ex;exact .all (h kV doc pm an cdv ct)
theorem bA {x qual : Str} {st : Stmt} {f : Addr} {oc : Value} {od an : Option Addr} {osl : Array (Option Value)} {kV doc pm cdv ct : Value} (l : K.lookup f = some ⟨oc, od, .func (PySem.W.fnOf x qual (aM st) (aH st) (ai st) .none kV doc pm an cdv ct), osl⟩)
  (c : PySem.W.codeIn K cdv qual = true) (k : PySem.W.keepIn K (.ref f) = true) : Fun K x qual st f (PySem.W.fnOf x qual (aM st) (aH st) (ai st) .none kV doc pm an cdv ct) := ⟨⟨oc, od, kV, doc, pm, an, cdv, ct, osl, rfl, l, c⟩, k⟩
end
section
variable {X : Cx}
theorem pv (i : Nat) {x : Str} {pos : Pos} (hN : X.N[i]? = some x := by rfl) (hv : Vis X.env.scope x := by first | exact Or.inl rfl | exact Or.inr (Or.inl rfl) | exact Or.inr (Or.inr rfl)) (hd : (x == ("__debug__" : Str)) = false := by decide)
  (hcd : (x == ("__classdict__" : Str)) = false := by decide) : PE X (.Name x pos) (iE i) := gx hN hv hd hcd
end
noncomputable def aN (H H' : Hp) : Prop := ∀ b o, H b = some o → H' b = some o
theorem aN.refl (H : Hp) : aN H H := fun _ _ h => h
theorem aN.trans {H H1 H2 : Hp} (a : aN H H1) (b : aN H1 H2) : aN H H2 := fun c o h => b c o (a c o h)
theorem aN.free {H H' : Hp} (e : aN H H') {l : Addr} (h : H' l = Option.none) : H l = Option.none := by
 cases q : H l with
 | none => rfl
 | some o =>
  rw [e l o q] at h;cases h
theorem aN.seq {K : PySem.W.Frag} {H H' : Hp} {a : Addr} {xs : List V} (e : aN H H') (h : SqL K H a xs) : SqL K H' a xs := by
 rcases h with (h | ⟨o, h⟩) | h
 ·exact .inl (.inl (e _ _ h))
 ·exact .inl (.inr ⟨o, e _ _ h⟩)
 ·exact .inr h
end L2
set_option maxHeartbeats 4000000
namespace L2
open PySem PySem.Spec PyProof.Rows
noncomputable def frees (env : Env) : List (Str × NameKind) → List (Str × Addr) → List (Str × Addr)
 | [], cs => cs
 | (n, k) :: r, cs => if (k == NameKind.free) = true then frees env r ((n, (env.cells.lookup n).getD 0) :: cs) else frees env r cs
theorem iY {env : Env} {x : Str} {c : Addr} : ∀ (l : List (Str × NameKind)) (cs : List (Str × Addr)), (∀ y ∈ l, y.2 = .free → ∃ c, env.cells.lookup y.1 = some c) →
  (∀ c, cs.lookup x = some c → env.cells.lookup x = some c) → (frees env l cs).lookup x = some c → env.cells.lookup x = some c
 | [], cs, _, hc, e => hc c e
 | (n, k) :: r, cs, hl, hc, e => by
  unfold frees at e;by_cases hk : (k == NameKind.free) = true
  ·rw [if_pos hk] at e
   obtain ⟨d, hd⟩ := hl (n, k) List.mem_cons_self (by simpa using hk)
   have hd' : env.cells.lookup n = some d := hd;refine iY r _ (fun y hy => hl y (List.mem_cons_of_mem _ hy)) (fun c' e' => ?_) e
   rw [List.lookup_cons] at e';cases hx : x == n with
   | true =>
    rw [hx] at e';have hxn : x = n := by simpa using hx
    rw [hd'] at e';rw [hxn, hd'];exact e'
   | false =>
    rw [hx] at e';exact hc c' e'
  ·rw [if_neg hk] at e
   exact iY r cs (fun y hy => hl y (List.mem_cons_of_mem _ hy)) hc e
theorem fW {env : Env} {x : Str} : ∀ (l : List (Str × NameKind)) (cs : List (Str × Addr)), ((x, NameKind.free) ∈ l ∨ ∃ c, cs.lookup x = some c) → ∃ c, (frees env l cs).lookup x = some c
 | [], cs, h => by
  rcases h with h | h
  ·cases h
  ·exact h
 | (n, k) :: r, cs, h => by
  unfold frees;by_cases hk : (k == NameKind.free) = true
  ·rw [if_pos hk]
   refine fW r _ ?_;rcases h with h | ⟨c, h⟩
   ·rcases List.mem_cons.mp h with e | e
    ·cases e
     exact .inr ⟨(env.cells.lookup x).getD 0, by rw [List.lookup_cons, beq_self_eq_true]⟩
    ·exact .inl e
   ·refine .inr ?_
    rw [List.lookup_cons];cases hx : x == n with
    | true => exact ⟨_, rfl⟩
    | false => exact ⟨c, h⟩
  ·rw [if_neg hk]
   refine fW r _ ?_;rcases h with h | h
   ·rcases List.mem_cons.mp h with e | e
    ·cases e
     exact absurd rfl hk
    ·exact .inl e
   ·exact .inr h
theorem mY {env : Env} {x : Str} {k' : NameKind} : ∀ {names : List (Str × NameKind)}, ((names.map fun (n, k) => if (k == NameKind.free && env.scope.kind == .function && env.kindOf n == some .cell) then (n, NameKind.cell) else (n, k)).lookup x = some k') →
  ∃ k, names.lookup x = some k ∧ (k' = k ∨ (k = .free ∧ k' = .cell))
 | [], h => by simp at h
 | (n, k) :: r, h => by
  rw [List.map_cons] at h
  dsimp only at h
  rw [List.lookup_cons];by_cases hc : (k == NameKind.free && env.scope.kind == .function && env.kindOf n == some .cell) = true
  ·rw [if_pos hc, List.lookup_cons] at h
   cases hx : x == n with
   | true =>
    rw [hx] at h;cases h;have hk : k = .free := by
     rw [Bool.and_eq_true, Bool.and_eq_true] at hc
     simpa using hc.1.1
    exact ⟨k, rfl, .inr ⟨hk, rfl⟩⟩
   | false =>
    rw [hx] at h;exact mY h
  ·rw [if_neg hc, List.lookup_cons] at h
   cases hx : x == n with
   | true =>
    rw [hx] at h;cases h;exact ⟨_, rfl, .inl rfl⟩
   | false =>
    rw [hx] at h;exact mY h
theorem gr {env : Env} {x : Str} : ∀ {names : List (Str × NameKind)}, names.lookup x = some .free →
  (names.map fun (n, k) => if (k == NameKind.free && env.scope.kind == .function && env.kindOf n == some .cell) then (n, NameKind.cell) else (n, k)).lookup x = some .cell ∨
  (names.map fun (n, k) => if (k == NameKind.free && env.scope.kind == .function && env.kindOf n == some .cell) then (n, NameKind.cell) else (n, k)).lookup x = some .free
 | [], h => by simp at h
 | (n, k) :: r, h => by
  rw [List.map_cons]
  dsimp only
  rw [List.lookup_cons] at h;by_cases hc : (k == NameKind.free && env.scope.kind == .function && env.kindOf n == some .cell) = true
  ·rw [if_pos hc, List.lookup_cons]
   cases hx : x == n with
   | true => exact .inl rfl
   | false =>
    rw [hx] at h;exact gr h
  ·rw [if_neg hc, List.lookup_cons]
   cases hx : x == n with
   | true =>
    rw [hx] at h;cases h;exact .inr rfl
   | false =>
    rw [hx] at h;exact gr h
theorem de {x : Str} {k : NameKind} : ∀ {l : List (Str × NameKind)}, l.lookup x = some k → (x, k) ∈ l
 | (n, j) :: r, h => by
  rw [List.lookup_cons] at h;cases hx : x == n with
  | true =>
   rw [hx] at h;cases h;have : x = n := by simpa using hx
   rw [this];exact List.mem_cons_self
  | false =>
   rw [hx] at h;exact List.mem_cons_of_mem _ (de h)
theorem ig {scope : Scope} {env : Env} (h : ∀ x ∈ scope.names, x.2 = .free → ∃ c, env.cells.lookup x.1 = some c) : closureFor scope env = pure (frees env scope.names []) := by
 unfold closureFor;have key : ∀ (l : List (Str × NameKind)) (cs : List (Str × Addr)), (∀ x ∈ l, x.2 = .free → ∃ c, env.cells.lookup x.1 = some c) →
  (forIn l cs fun (x : Str × NameKind) (r : List (Str × Addr)) => if (x.2 == NameKind.free) = true then do let a ← cellOf env x.1; pure (ForInStep.yield ((x.1, a) :: r)) else pure (ForInStep.yield r) : Sem (List (Str × Addr))) = pure (frees env l cs) := by
  intro l
  induction l with
  | nil => intro cs _; rfl
  | cons x r ih =>
   intro cs hx;obtain ⟨n, k⟩ := x;rw [List.forIn_cons]
   dsimp only
   have hr := fun cs => ih cs fun y hy => hx y (List.mem_cons_of_mem _ hy)
   by_cases hk : (k == NameKind.free) = true
   ·obtain ⟨c, hc⟩ := hx (n, k) List.mem_cons_self (by simpa using hk)
    have hc' : env.cells.lookup n = some c := hc;rw [if_pos hk];unfold frees;rw [if_pos hk];have e1 : cellOf env n = pure c := by unfold cellOf; rw [hc']
    rw [e1, hc', ← hr];rfl
   ·rw [if_neg hk]
    unfold frees;rw [if_neg hk, ← hr];rfl
 have := key scope.names [] h;simp only [bind_pure];exact this
section
variable {prog : Program} {w : World} {A : Around} {R : Result → Shared → Prop} {s : Shared}
noncomputable def t7 (ifs : List Expr) (env : Env) : Sem Bool := forIn ifs true fun c r => if r = true then do let ok ← isTrue c env (eval c env); pure (ForInStep.yield ok) else pure (ForInStep.yield r)
theorem jZ {elt tg iter : Expr} {ifs : List Expr} {scope : Scope} {pos : Pos} {it acc : Value} {env : Env} (J : Nat → Shared → Prop)
  (turn : ∀ n s, J n s → wpAny (model prog w) A (pyNext it) (fun r s1 => match r with
   | none => R (.ok .next) s1
   | some v => wpAny (model prog w) A (letOwnedTupleGo tg it v) (fun _ s2 => wpAny (model prog w) A (assign tg env v) (fun _ s3 => wpAny (model prog w) A (t7 ifs env) (fun ok s4 =>
     if ok = true then wpAny (model prog w) A (eval elt env) (fun x s5 => wpAny (model prog w) A (call (.builtin "list.append") [acc, x]) (fun _ s6 => ∃ m, m < n ∧ J m s6) (fun _ _ => False) s5) (fun _ _ => False) s4
     else ∃ m, m < n ∧ J m s4) (fun _ _ => False) s3) (fun _ _ => False) s2) (fun _ _ => False) s1) (fun _ _ => False) s)
  (n : Nat) (h : J n s) : codeAny (model prog w) A (.compLoop (.ListComp elt [⟨tg, iter, ifs, 0⟩] scope pos) 0 it acc env) R s := by
 refine codeAny_loop rfl J (fun n s hJ => ?_) n h
 have no : ∀ (P : Value → Shared → Prop) (e : Value) (s' : Shared), False → P e s' := fun _ _ _ f => f.elim
 show wpAny _ A ((compTurn (.ListComp elt [⟨tg, iter, ifs, 0⟩] scope pos) 0 it acc env).onRaise (fun x => do noteFrame x env; theTreesLotGoes x)) _ _ s
 refine wpAny_noted ?_;rw [compTurn_list];refine wpAny_bind (wpAny_standAt (wpAny_bind (wpAny_mono (turn n s hJ) (fun r s1 h1 => ?_) fun e s' f => f.elim)))
 cases r with
 | none => exact wpAny_pure h1
 | some v =>
  refine wpAny_bind (wpAny_mono h1 (fun _ s2 h2 => ?_) fun e s' f => f.elim)
  refine wpAny_bind (wpAny_mono h2 (fun _ s3 h3 => ?_) fun e s' f => f.elim)
  refine wpAny_bind (wpAny_mono h3 (fun ok s4 h4 => ?_) fun e s' f => f.elim)
  cases ok with
  | false => exact wpAny_pure ⟨rfl, h4⟩
  | true =>
   refine wpAny_bind (wpAny_bind (wpAny_mono h4 (fun x s5 h5 => ?_) fun e s' f => f.elim))
   exact wpAny_bind (wpAny_mono h5 (fun _ s6 h6 => wpAny_pure (wpAny_pure ⟨rfl, h6⟩)) fun e s' f => f.elim)
end
noncomputable def cxB (X : Cx) (N : List Str) (scope : Scope) (s : Shared) (H : Hp) (C : Addr) (ex : List Addr) (pins : List (Addr × Obj)) : Cx :=
 { X with N := N, s₀ := s, H₀ := H, env := compEnvC scope (frees X.env scope.names []) C X.env, outer := X.stack, ex := ex, fn := fun _ => false, pn := X.pn ++ pins, xe := fun _ _ => False }
noncomputable def h8 (X : Cx) (scope : Scope) : List (Nat × Str) → Prop
 | [] => True
 | p :: r => (X.N[p.1]? = some p.2 ∧ scope.names.lookup p.2 = some .free) ∧ h8 X scope r
theorem h8.get {X : Cx} {scope : Scope} : ∀ {outs : List (Nat × Str)} {j : Nat} {p : Nat × Str}, h8 X scope outs → outs[j]? = some p → X.N[p.1]? = some p.2 ∧ scope.names.lookup p.2 = some .free
 | [], _, _, _, e => by simp at e
 | q :: r, 0, p, h, e => by
  simp at e
  subst e;exact h.1
 | q :: r, j + 1, p, h, e => h8.get (j := j) h.2 (by simpa using e)
structure Blk (X : Cx) (sc scope : Scope) (outs : List (Nat × Str)) : Prop where
 hsc : X.env.scope = sc
 kind : scope.kind = .function
 loc : ∀ x ∈ scope.names, x.2 = .local → scope.names.lookup x.1 = some .local
 nocell : ∀ x ∈ scope.names, x.2 ≠ .cell
 fr : ∀ x ∈ scope.names, x.2 = .free → sc.names.lookup x.1 = some .cell ∨ sc.names.lookup x.1 = some .free
 out : h8 X scope outs
noncomputable def slots (k : Nat) (outs : List (Nat × Str)) (σ : St) : St := List.replicate k none ++ outs.map fun p => (σ[p.1]?).join
noncomputable def gc : St → St → Prop
 | [], [] => True
 | none :: r, _ :: r' => gc r r'
 | some v :: r, w :: r' => w = some v ∧ gc r r'
 | _, _ => False
theorem gc.len : ∀ {σ σ' : St}, gc σ σ' → σ.length = σ'.length
 | [], [], _ => rfl
 | none :: r, _ :: r', h => by
  have := gc.len (σ := r) (σ' := r') h;simp [this]
 | some v :: r, w :: r', h => by
  have := gc.len (σ := r) (σ' := r') h.2;simp [this]
theorem gc.get : ∀ {σ σ' : St} {i : Nat} {v : V}, gc σ σ' → σ[i]? = some (some v) → σ'[i]? = some (some v)
 | [], _, _, _, _, e => by simp at e
 | none :: r, w :: r', 0, v, _, e => by simp at e
 | none :: r, w :: r', i + 1, v, h, e => by
  have := gc.get (σ := r) (σ' := r') (i := i) (v := v) h (by simpa using e)
  simpa using this
 | some u :: r, w :: r', 0, v, h, e => by
  simp at e
  rw [h.1];simp [e]
 | some u :: r, w :: r', i + 1, v, h, e => by
  have := gc.get (σ := r) (σ' := r') (i := i) (v := v) h.2 (by simpa using e)
  simpa using this
noncomputable def PF (X : Cx) (ifs : List Expr) (t : TT) : Prop :=
 ∀ (pins : List (Addr × Obj)) (s : Shared) (σ : St) (H : Hp) (Q : Bool → Hp → Prop), Inv X pins σ H s → t σ H Q → wpAny (model X.prog X.w) X.A (t7 ifs X.env) (TP X pins σ Q) X.xe s
noncomputable def yh : TT := fun _ H Q => Q true H
theorem uz {X : Cx} : PF X [] yh := fun _ _ _ H _ I h => wpAny_tests_nil ⟨H, I, h⟩
theorem BP {X : Cx} {c : Expr} {t : TT} (h : PT X c t) : PF X [c] t := fun pins s σ H Q I q => wpAny_tests_one (h pins s σ H Q I q)
noncomputable abbrev DY (tc : TT) (te : TE) (σ0 : St) (D : Addr) (acc : List V) (N : List V → Hp → Prop) : St → Hp → Prop := fun σ2 H3 => gc σ0 σ2 ∧ tc σ2 H3 fun b H4 =>
 if b = true then te σ2 H4 fun y H5 => H5 D = some (.lst acc) ∧ acc.length < sizeLine ∧ N (acc ++ [y]) (upd H5 D (.lst (acc ++ [y]))) else N acc H4
noncomputable def xC (J : It) (g : TG) (tc : TT) (te : TE) (σ0 : St) (D : Addr) (H1 : Hp) (Q : Hp → Prop) : Prop :=
 ∃ W : Nat → Nat → List V → Hp → Prop, (∃ m, W 0 m [] (upd H1 D (.lst []))) ∧ ∀ i m acc H', W i m acc H' →
  (J.stop i H' ∧ Q H') ∨ (J.go i H' ∧ ∃ N : List V → Hp → Prop, (∀ acc' H2, N acc' H2 → ∃ m', m' < m ∧ W (i + 1) m' acc' H2) ∧ ∀ x H2, J.yld i H' x H2 → g x σ0 H2 (DY tc te σ0 D acc N))
section
variable {X : Cx} {sc scope : Scope} {own : List Str} {outs : List (Nat × Str)} {elt tg iter : Expr} {ifs : List Expr} {pos : Pos} {g : TG} {tc : TT} {te : TE}
theorem lD (B : Blk X sc scope outs) {pins : List (Addr × Obj)} {σ : St} {H : Hp} {s : Shared} (I : Inv X pins σ H s) : ∀ x ∈ scope.names, x.2 = .free → ∃ c, X.env.cells.lookup x.1 = some c := fun x hx hf => by
 refine I.ok.has x.1 ?_;show X.env.scope.names.lookup x.1 = _ ∨ X.env.scope.names.lookup x.1 = _
 rw [B.hsc];exact B.fr x hx hf
theorem xb (B : Blk X sc scope outs) {pins : List (Addr × Obj)} {σ : St} {H : Hp} {s : Shared} {fp : List Addr} (I : Inv X pins σ H s) (f2 : ∀ b ∈ fp, ji X pins H b) (fo : ∀ b ∈ fp, ∃ o, s.heap.get? b = some o)
  {h1 : Heap} {m : Str → Option Value} {tk : Nat} (hn : h1.Ns (s.heap.objs.size + 1) m) (old : ∀ b o, s.heap.get? b = some o → h1.get? b = some o)
  (hD : h1.get? s.heap.objs.size = some { cls := .type "list", data := .seq #[] 0 }) :
  Inv (cxB X (own ++ outs.map (·.2)) scope s H (s.heap.objs.size + 1) fp pins) [] (slots own.length outs σ) (upd H s.heap.objs.size (.lst [])) { s with heap := h1, toks := tk } := by
 have bf := lD B I;have sub : ∀ x c, (frees X.env scope.names []).lookup x = some c → X.env.cells.lookup x = some c := fun x c e => iY _ _ bf (fun c' e' => by simp at e') e
 have clt : ∀ x c, X.env.cells.lookup x = some c → c < s.heap.objs.size := fun x c e => (let ⟨v, q⟩ := I.cell x c e; q.lt)
 have flt : ∀ b ∈ fp, b < s.heap.objs.size := fun b hb => (let ⟨o, e⟩ := fo b hb; Heap.lt_size e)
 have un : Un (cxB X (own ++ outs.map (·.2)) scope s H (s.heap.objs.size + 1) fp pins).fs (cxB X (own ++ outs.map (·.2)) scope s H (s.heap.objs.size + 1) fp pins).ex H (upd H s.heap.objs.size (.lst [])) s.heap h1 := Un.laid old (Nat.le_refl _) I.fresh;have hok : HOk X.prog X.w (upd H s.heap.objs.size (.lst [])) h1 := I.hok.laid old (Nat.le_refl _) ⟨Nat.zero_le _, [], 0, .nil, hD⟩;refine ⟨⟨I.ok.mod, B.kind, I.ok.glob, I.ok.blt, Nat.le_succ _, fun x y c e1 e2 => I.ok.inj x y c (sub x c e1) (sub y c e2), fun x hx => ?_, fun x c hf => ?_, I.ok.hd, I.ok.frames, .inl rfl, fun b hb => ⟨?_, fun x c e => ?_⟩, I.bs, ?_, fun b o e hb => ?_, fun b hb z => ?_, I.stack, I.stkFree⟩,
  rfl, I.bare, un, ⟨m, hn, fun i x v e1 e2 e3 => ?_⟩, fun x c e => ?_, ?_, fun x c e => ?_, fun p hp => ?_, hok, ?_⟩
 ·obtain ⟨k, e, hk⟩ : ∃ k, scope.names.lookup x = some k ∧ k = .free := by
   rcases hx with hx | hx
   ·obtain ⟨k, e, hk⟩ := mY (show ((scope.names.map _).lookup x = some .cell) from hx)
    rcases hk with hk | hk
    ·exact absurd hk.symm (B.nocell _ (de e))
    ·exact ⟨k, e, hk.1⟩
   ·obtain ⟨k, e, hk⟩ := mY (show ((scope.names.map _).lookup x = some .free) from hx)
    rcases hk with hk | hk
    ·exact ⟨k, e, hk.symm⟩
    ·exact ⟨k, e, hk.1⟩
  subst hk;exact fW _ _ (.inl (de e))
 ·cases hf
 ·exact Nat.ne_of_lt (Nat.lt_succ_of_lt (flt b hb))
 ·exact (f2 b hb).2.2.2.2.1 x c (sub x c e)
 ·exact Nat.le_trans I.ok.bsz I.sz
 ·rcases (f2 b hb).2.2.2.1 with z | z
  ·exact I.ok.noex b o e z
  ·exact absurd (Nat.lt_of_lt_of_le (Heap.lt_size e) (Nat.le_trans I.ok.bsz z)) (Nat.lt_irrefl _)
 ·rcases List.mem_cons.mp (I.stkSub b z) with q | q
  ·exact (f2 b hb).2.1 q
  ·exact (f2 b hb).2.2.1 q
 ·
  have hi : own.length ≤ i := by
   by_cases hi : own.length ≤ i
   ·exact hi
   ·have e2' : (slots own.length outs σ)[i]? = some (some v) := e2
    unfold slots at e2';rw [List.getElem?_append_left (by simpa using Nat.lt_of_not_le hi), List.getElem?_replicate] at e2'
    split at e2' <;> cases e2'
  have e1' : (own ++ outs.map (·.2))[i]? = some x := e1;have e2' : (slots own.length outs σ)[i]? = some (some v) := e2;unfold slots at e2';rw [List.getElem?_append_right hi, List.getElem?_map] at e1';rw [List.getElem?_append_right (by simpa using hi), List.length_replicate, List.getElem?_map] at e2'
  cases ep : outs[i - own.length]? with
  | none =>
   rw [ep] at e1';cases e1'
  | some p =>
   rw [ep] at e1' e2';have ex : p.2 = x := Option.some.inj e1';have ev : (σ[p.1]?).join = some v := Option.some.inj e2';obtain ⟨o1, o2⟩ := B.out.get ep;have es : σ[p.1]? = some (some v) := by
    cases q : σ[p.1]? with
    | none =>
     rw [q] at ev;cases ev
    | some w =>
     rw [q] at ev;have ew : w = some v := ev;rw [ew]
   rw [ex] at o1 o2;have hk : X.env.scope.names.lookup x = some .cell ∨ X.env.scope.names.lookup x = some .free := by
    rw [B.hsc];exact B.fr (x, .free) (de o2) rfl
   obtain ⟨m0, hn0, hl0⟩ := I.loc;obtain ⟨u, r, l⟩ := hl0 p.1 x v o1 es (hk.elim (fun z => .inr (.inl z)) fun z => .inr (.inr z))
   refine ⟨u, r, .inr ?_⟩;rcases l with ⟨hl, _⟩ | ⟨_, c, ec, hc⟩
   ·have hl' : X.env.scope.names.lookup x = some .local := hl
    rcases hk with z | z <;> (rw [z] at hl'; cases hl')
   ·obtain ⟨c', ec'⟩ := fW (env := X.env) (x := x) scope.names [] (.inl (de o2))
    have e3 := sub x c' ec';rw [ec] at e3;cases e3;obtain ⟨oc, q1, q2⟩ := hc;exact ⟨gr o2, c, ec', ⟨oc, old _ _ q1, q2⟩⟩
 ·obtain ⟨v, oc, q1, q2⟩ := I.cell x c (sub x c e)
  exact ⟨v, oc, old _ _ q1, q2⟩
 ·show upd H s.heap.objs.size (.lst []) (s.heap.objs.size + 1) = none
  rw [aG (Nat.succ_ne_self _)];exact I.hok.fresh (Nat.le_succ _)
 ·rw [aG (Nat.ne_of_lt (clt x c (sub x c e)))]
  exact I.freeC x c (sub x c e)
 ·have hp' : p ∈ X.pn ++ pins := by
   have : p ∈ (X.pn ++ pins) ++ [] := hp
   simpa using this
  obtain ⟨q1, q2, q3, q4, q5⟩ := I.pin p hp';refine ⟨old _ _ q1, ?_, Nat.ne_of_lt (Nat.lt_succ_of_lt (Heap.lt_size q1)), fun z => ?_, q5⟩
  ·rw [aG (Nat.ne_of_lt (Heap.lt_size q1))]
   exact q2
  ·rcases List.mem_cons.mp (I.stkSub p.1 z) with q | q
   ·exact q3 q
   ·exact q4 q
 ·show (slots own.length outs σ).length = (own ++ outs.map (·.2)).length
  unfold slots;simp
theorem qV (B : Blk X sc scope outs) (hcalm : X.calm = true)
  (hg : ∀ s H C ex pins, PG (cxB X (own ++ outs.map (·.2)) scope s H C ex pins) tg g) (hc : ∀ s H C ex pins, PF (cxB X (own ++ outs.map (·.2)) scope s H C ex pins) ifs tc) (he : ∀ s H C ex pins, PE (cxB X (own ++ outs.map (·.2)) scope s H C ex pins) elt te)
  {pins : List (Addr × Obj)} {σ : St} {H : Hp} {s : Shared} {it : Addr} {fp : List Addr} {tn : Nat → Heap → Prop} {J : It} (I : Inv X pins σ H s) (T : Turn X.prog X.w X.K tg J fp it tn) (st : tn 0 s.heap) (f2 : ∀ b ∈ fp, ji X pins H b)
  {R0 : Addr → Hp → Prop} (hW : ∀ D, H D = none → xC J g tc te (slots own.length outs σ) D H (R0 D)) {RR : Value → Addr → Result → Shared → Prop} {E : Value → Shared → Prop}
  (fin : ∀ D C H' s' m, Inv X pins σ H' s' → ji X pins H' C → s'.heap.Ns C m → R0 D H' → RR (.ref D) C (.ok .next) s') :
  wpAny (model X.prog X.w) X.A (newList []) (fun acc s3 => wpAny (model X.prog X.w) X.A (newFunctionEnv scope X.env.globals (frees X.env scope.names []) [] X.env.qual none .none (some X.env)) (fun cenv s4 =>
   codeAny (model X.prog X.w) X.A (.compStart (.ListComp elt [⟨tg, iter, ifs, 0⟩] scope pos) 0 (.ref it) acc { cenv with scope := relabel scope X.env }) (RR acc cenv.locals) s4) E s3) E s := by
 refine wpAny_newObj_type (wpAny_newFunctionEnv B.nocell (by intro y hy; simp at hy) (fun h1 hn1 hs1 => ?_) B.kind)
 dsimp only at hn1 hs1 ⊢
 have hz : (s.heap.push { cls := .type "list", dict := none, data := .seq ([] : List Value).toArray }).objs.size = s.heap.objs.size + 1 := Heap.size_push ..;rw [hz] at hn1 hs1;simp only [hz];have fo : ∀ b ∈ fp, ∃ o, s.heap.get? b = some o := fun b hb => (let ⟨o, e, _⟩ := T.obj 0 _ st b hb; ⟨o, e⟩)
 have old : ∀ b o, s.heap.get? b = some o → h1.get? b = some o := fun b o e =>
  hs1.extBut b o (Nat.ne_of_lt (Nat.lt_succ_of_lt (Heap.lt_size e))) (Heap.get?_push_of_some _ (Heap.get?_push_of_some _ e))
 have hD : h1.get? s.heap.objs.size = some { cls := .type "list", data := .seq #[] 0 } := hs1.extBut _ _ (Nat.ne_of_lt (Nat.lt_succ_self _)) (Heap.get?_push_of_some _ (Heap.get?_push_size _ rfl));have I1 := xb (own := own) (tk := s.toks + ([] : List (Str × Value)).length) B I f2 fo hn1 old hD;have st1 : tn 0 h1 := T.keep _ _ _ st fun b _ o e => old b o e
 obtain ⟨W, ⟨m0, w0⟩, turn⟩ := hW _ I.fresh;have fpB : ∀ {H' : Hp}, (∀ b ∈ fp, H' b = none) → ∀ b ∈ fp, ji (cxB X (own ++ outs.map (·.2)) scope s H (s.heap.objs.size + 1) fp pins) [] H' b := fun hn b hb => by
  obtain ⟨o, eo⟩ := fo b hb;refine ⟨hn b hb, Nat.ne_of_lt (Nat.lt_succ_of_lt (Heap.lt_size eo)), I1.ok.exfs b hb, .inl hb, fun x c e => (I1.ok.exf b hb).2 x c e, fun p hp => ?_⟩
  have hp' : p ∈ X.pn ++ pins := by
   have : p ∈ (X.pn ++ pins) ++ [] := hp
   simpa using this
  exact (f2 b hb).2.2.2.2.2 p hp'
 have loop : ∀ s0 : Shared, s0 = { s with heap := h1, toks := s.toks + ([] : List (Str × Value)).length } →
   codeAny (model X.prog X.w) X.A (.compLoop (.ListComp elt [⟨tg, iter, ifs, 0⟩] scope pos) 0 (.ref it) (.ref s.heap.objs.size) (compEnvC scope (frees X.env scope.names []) (s.heap.objs.size + 1) X.env)) (RR (.ref s.heap.objs.size) (s.heap.objs.size + 1)) s0 := by
  rintro s0 rfl;refine jZ (fun n s' => ∃ i acc H', Inv (cxB X (own ++ outs.map (·.2)) scope s H (s.heap.objs.size + 1) fp pins) [] (slots own.length outs σ) H' s' ∧ tn i s'.heap ∧ (∀ b ∈ fp, H' b = none) ∧ W i n acc H') ?_ m0
   ⟨0, [], _, I1, st1, fun b hb => ?_, w0⟩
  ·rintro n s3 ⟨i, acc, H3, I3, st3, fr3, w3⟩
   rcases turn i n acc H3 w3 with ⟨stop, q⟩ | ⟨go, N, hN, step⟩
   ·refine thn (T.done (cxB X (own ++ outs.map (·.2)) scope s H (s.heap.objs.size + 1) fp pins) rfl rfl rfl hcalm i [] s3 _ H3 (fun _ _ => False) I3 (fpB fr3) st3 stop) fun r s4 ⟨hr, I4⟩ => ?_
    subst hr;have IX : Inv X pins σ H3 s4 := I.call' (ch := fp) I4.os I4.base I4.hok I4.bare fun b hb => ⟨(f2 b hb).2.2.2.1, (f2 b hb).2.1, (f2 b hb).2.2.2.2.1, (f2 b hb).2.2.2.2.2⟩
    obtain ⟨m4, hn4, _⟩ := I4.loc;exact fin _ _ H3 s4 m4 IX (I.fpOk (Nat.le_succ _) I4.free) hn4 q
   ·refine thn (T.item (cxB X (own ++ outs.map (·.2)) scope s H (s.heap.objs.size + 1) fp pins) rfl rfl rfl hcalm i [] s3 _ H3 (fun _ _ => False) I3 (fpB fr3) st3 go) fun r s4 ⟨u, hr, h4⟩ => ?_
    subst hr;refine thn h4 fun _ s5 ⟨x, H5, I5, r5, y5, st5, fr5⟩ => ?_
    have I5' := I5.pinned (fpB fr5) (T.obj _ _ st5);have back : ∀ {σ6 : St} {H6 : Hp} {s6 : Shared} {acc' : List V}, Inv (cxB X (own ++ outs.map (·.2)) scope s H (s.heap.objs.size + 1) fp pins) ([] ++ kC fp s5.heap) σ6 H6 s6 → gc (slots own.length outs σ) σ6 → N acc' H6 →
      ∃ m, m < n ∧ ∃ i acc H', Inv (cxB X (own ++ outs.map (·.2)) scope s H (s.heap.objs.size + 1) fp pins) [] (slots own.length outs σ) H' s6 ∧ tn i s6.heap ∧ (∀ b ∈ fp, H' b = none) ∧ W i m acc H' := fun {σ6 H6 s6 acc'} I6 hs hn6 => by
     obtain ⟨m', hm, hw⟩ := hN acc' H6 hn6;refine ⟨m', hm, i + 1, acc', H6, I6.unpinned.weak hs.len fun j v e => hs.get e, T.keep _ _ _ st5 fun b hb o e => (I6.pin (b, o) (List.mem_append_right _ (List.mem_append_right _ (fv hb e)))).1, fun b hb => ?_, hw⟩
     obtain ⟨o, e, _⟩ := T.obj _ _ st5 b hb;exact (I6.pin (b, o) (List.mem_append_right _ (List.mem_append_right _ (fv hb e)))).2.1
    refine thn (hg s H _ fp pins _ s5 _ H5 x u _ I5' r5 (step x H5 y5)) fun _ s6 ⟨σ6, H6, I6, hs6, q6⟩ => ?_
    refine thn (hc s H _ fp pins _ s6 σ6 H6 _ I6 q6) fun b s7 ⟨H7, I7, q7⟩ => ?_
    cases b with
    | false =>
     exact back I7 hs6 q7
    | true =>
     refine thn (he s H _ fp pins _ s7 σ6 H7 _ I7 q7) fun yv s8 ⟨y, H8, I8, r8, hd8, hl8, hw⟩ => ?_
     refine thn (i8 _ s8 σ6 H8 (.ref s.heap.objs.size) [y] (.ref s.heap.objs.size) [yv] (fun _ H9 => H9 = upd H8 s.heap.objs.size (.lst (acc ++ [y]))) I8 rfl (.cons r8 .nil) ⟨_, acc, y, rfl, rfl, hd8, hl8, rfl⟩) fun z s9 ⟨zv, H9, I9, _, q9⟩ => ?_
     subst q9;exact back I9 hs6 hw
  ·obtain ⟨o, eo⟩ := fo b hb
   rw [aG (Nat.ne_of_lt (Heap.lt_size eo))];exact (f2 b hb).1
 exact codeAny_compStart_list (loop _ rfl) (T.self X.A 0 _ _ _ st1 (loop _ rfl))
noncomputable def nh (wi : TI) (g : TG) (tc : TT) (te : TE) (k : Nat) (outs : List (Nat × Str)) : TE := fun σ H Q => wi σ H fun J H1 => ∀ D, H1 D = none → xC J g tc te (slots k outs σ) D H1 fun H' => Q (.ref D) H'
theorem wL {wi : TI} (own : List Str) (B : Blk X sc scope outs) (hcalm : X.calm = true) (hi : PI X tg iter wi)
  (hg : ∀ s H C ex pins, PG (cxB X (own ++ outs.map (·.2)) scope s H C ex pins) tg g) (hc : ∀ s H C ex pins, PF (cxB X (own ++ outs.map (·.2)) scope s H C ex pins) ifs tc) (he : ∀ s H C ex pins, PE (cxB X (own ++ outs.map (·.2)) scope s H C ex pins) elt te)
  (hs : ∀ x, foldedSetIterable iter X.env x = pure x := by intro _; rfl) : PE X (.ListComp elt [⟨tg, iter, ifs, 0⟩] scope pos) (nh wi g tc te own.length outs) := by
 intro pins s σ H Q I h;rw [eval_ListComp];refine wpAny_comprehension_free (use := none) rfl hs (ig (lD B I)) B.kind B.loc ?_;refine thn (hi pins s σ H _ I h) fun v s1 h1 => thn h1 fun itv s2 h2 => ?_
 obtain ⟨it, fp, tn, J, H2, e, I2, T, st2, f2, hW⟩ := h2;subst e;refine qV (RR := fun acc C => compPost (model X.prog X.w) X.A X.xe none (EP X pins σ Q) acc C) B hcalm hg hc he I2 T st2 f2 hW ?_
 intro D C H' s' m I' hC hn q;refine ⟨m, hn, fun h' hs' => ?_⟩
 obtain ⟨c0, c1, c2, c3, c4, c5⟩ := hC;exact ⟨.ref D, H', I'.turned (t' := s'.toks) (fun b o hb e => (hs'.2 b hb).trans e) c0 c1 c3 c4 c5, rfl, q⟩
theorem rH {wi : TI} {i : Nat} {x : Str} {pos' spos : Pos} (own : List Str) (hN : X.N.Nodup) (hix : X.N[i]? = some x) (hx : Loc X.env.scope x) (B : Blk X sc scope outs) (hcalm : X.calm = true) (hi : PI X tg iter wi)
  (hg : ∀ s H C ex pins, PG (cxB X (own ++ outs.map (·.2)) scope s H C ex pins) tg g) (hc : ∀ s H C ex pins, PF (cxB X (own ++ outs.map (·.2)) scope s H C ex pins) ifs tc) (he : ∀ s H C ex pins, PE (cxB X (own ++ outs.map (·.2)) scope s H C ex pins) elt te)
  (hsw : swapsWith (.ListComp elt [⟨tg, iter, ifs, 0⟩] scope pos) (some (.Name x pos')) spos.line X.env = pure true := by rfl)
  (hs : ∀ x, foldedSetIterable iter X.env x = pure x := by intro _; rfl) (hf : X.fn x = true ∨ X.env.scope.names.lookup x = some .local := by first | exact .inl rfl | exact .inr rfl | assumption) :
  PS X (.Assign [.Name x pos'] (.ListComp elt [⟨tg, iter, ifs, 0⟩] scope pos) spos) (oN (nh wi g tc te own.length outs) (jS i)) := by
 intro pins s σ H D0 I h;rw [exec_Assign_Name_used _ _ _ _ hsw];refine wpAny_bind (wpAny_standAt (wpAny_bind ?_));show wpAny _ X.A (do let _ ← comprehension (.ListComp elt [⟨tg, iter, ifs, 0⟩] scope pos) scope X.env _ (newList []) false (eval iter X.env) (some (assign (.Name x pos') X.env))) _ _ s
 refine wpAny_bind (thn (wpAny_comprehension_free (use := some (assign (.Name x pos') X.env)) (Q := fun _ s' => SP X pins D0 .next s') rfl hs (ig (lD B I)) B.kind B.loc ?_) fun _ s' hq => wpAny_pure (wpAny_pure hq))
 refine thn (hi pins s σ H _ I h) fun v s1 h1 => thn h1 fun itv s2 h2 => ?_
 obtain ⟨it, fp, tn, J, H2, e, I2, T, st2, f2, hW⟩ := h2;subst e;refine qV (RR := fun acc C => compPost (model X.prog X.w) X.A X.xe (some (assign (.Name x pos') X.env)) (fun _ s' => SP X pins D0 .next s') acc C) B hcalm hg hc he I2 T st2 f2 hW ?_
 intro D C H' s' m I' hC hn q;obtain ⟨c0, c1, c2, c3, c4, c5⟩ := hC;obtain ⟨oC, es, ep, hoC, hdC, hr⟩ := id hn;have IC : Inv X (pins ++ [(C, oC)]) σ H' s' := I'.pins_of fun p hp => (List.mem_append.mp hp).elim (fun z => I'.pin p (List.mem_append_right _ z)) fun z => by
  have ep : p = (C, oC) := by simpa using z
  subst ep;exact ⟨hoC, c0, c1, c2, fun v z => by rw [hdC] at z; cases z⟩
 show wpAny _ X.A (assign (.Name x pos') X.env (.ref D)) _ _ s'
 refine wpAny_assign_Name (j6 (v := .ref D) IC hN hix hx rfl (fun s3 I3 => ?_) hf)
 have hC3 : s3.heap.get? C = some oC := (I3.pin (C, oC) (List.mem_append_right _ (List.mem_append_right _ (by simp)))).1
 refine ⟨m, ⟨oC, es, ep, hC3, hdC, hr⟩, fun h' hs' => ?_⟩
 exact ⟨_, H', I3.unpinned.turned (t' := s3.toks) (fun b o hb e => (hs'.2 b hb).trans e) c0 c1 c3 c4 c5, q⟩
end
end L2
namespace L2
open PySem PySem.Spec PyProof.Rows
theorem pI {X : Cx} {pins : List (Addr × Obj)} {σ : St} {H : Hp} {s : Shared} {ch : List Addr} {T : Addr} {o : HO} {h' : Heap} {t' : Nat} (I : Inv X pins σ H s) (hch : ∀ b ∈ ch, ji X pins H b) (k : ∀ b u, b ∉ ch → s.heap.get? b = some u → h'.get? b = some u)
  (hT : s.heap.objs.size ≤ T) (new : f_ X.prog X.w (upd H T o) h' T o) : Inv X pins σ (upd H T o) { s with heap := h', toks := t' } := by
 have hn : H T = none := I.hok.fresh hT;have nch : ∀ b u, H b = some u → b ∉ ch := fun b u e z => by
  rw [(hch b z).1] at e;cases e
 have lt : ∀ b u, s.heap.get? b = some u → b ≠ T := fun b u e => Nat.ne_of_lt (Nat.lt_of_lt_of_le (Heap.lt_size e) hT)
 refine I.step (g' := s.gens) (d' := s.drawn) (ch := ch) (fun b hb => ?_) (fun b u _ _ hc e _ => k b u hc e) (fun b u _ _ hc e _ => ⟨u.slots, k b u hc e⟩) (fun b u _ e n => by rw [aG (lt b u e)]; exact n)
  (fun b u hc e => ⟨u, k b u hc e⟩) (fun b xs e => by rw [aG (aQ e hn)]; exact e) (fun b u v e => by rw [aG (aQ e hn)]; exact e) (fun b ps e => ⟨#[], by rw [aG (aQ e hn), e]; simp⟩) (fun m hm => ?_) (fun b u e => ?_) I.bare
 ·obtain ⟨f0, f1, f2, f3, f4, f5⟩ := hch b hb
  exact ⟨f3, f1, f4, f5⟩
 ·obtain ⟨oL, es, ep, ho, r⟩ := hm
  exact ⟨oL, es, ep, k _ oL (fun z => (hch _ z).2.1 rfl) ho, r⟩
 ·by_cases hb : b = T
  ·subst hb
   rw [cu] at e;cases e;exact new
  ·rw [aG hb] at e
   refine (I.hok b u e).stay (fun c v hc q => k c v ?_ q) (fun c q => by rw [aG (aQ q hn)]; exact q) fun c xs q => by rw [aG (aQ q hn)]; exact q
   rcases hc with z | z
   ·rw [z]
    exact nch b u e
   ·exact nch c _ z
theorem rh {X : Cx} {pins : List (Addr × Obj)} {σ : St} {H : Hp} {s : Shared} {ch : List Addr} {h' : Heap} {t' : Nat} (I : Inv X pins σ H s) (hch : ∀ b ∈ ch, ji X pins H b) (k : ∀ b u, b ∉ ch → s.heap.get? b = some u → h'.get? b = some u) :
  Inv X pins σ H { s with heap := h', toks := t' } := by
 have nch : ∀ b u, H b = some u → b ∉ ch := fun b u e z => by
  rw [(hch b z).1] at e;cases e
 refine I.step (g' := s.gens) (d' := s.drawn) (ch := ch) (fun b hb => ?_) (fun b u _ _ hc e _ => k b u hc e) (fun b u _ _ hc e _ => ⟨u.slots, k b u hc e⟩) (fun _ _ _ _ n => n)
  (fun b u hc e => ⟨u, k b u hc e⟩) (fun _ _ e => e) (fun _ _ _ e => e) (fun b ps e => ⟨#[], by rw [e]; simp⟩) (fun m hm => ?_) (fun b u e => ?_) I.bare
 ·obtain ⟨f0, f1, f2, f3, f4, f5⟩ := hch b hb
  exact ⟨f3, f1, f4, f5⟩
 ·obtain ⟨oL, es, ep, ho, r⟩ := hm
  exact ⟨oL, es, ep, k _ oL (fun z => (hch _ z).2.1 rfl) ho, r⟩
 ·refine (I.hok b u e).stay (fun c v hc q => k c v ?_ q) (fun _ q => q) fun _ _ q => q
  rcases hc with z | z
  ·rw [z]
   exact nch b u e
  ·exact nch c _ z
noncomputable def Ite (K : PySem.W.Frag) (a : Addr) : It :=
 ⟨fun i H => ∃ xs x, SqL K H a xs ∧ xs[i]? = some x, fun i H x H' => ∃ T y, H T = none ∧ x = .ref T ∧ H' = upd H T (.tup [.int i, y]) ∧ ∀ xs, SqL K H a xs → xs[i]? = some y, fun i H => ∃ xs, SqL K H a xs ∧ xs.length ≤ i⟩
theorem tm {P : Program} {w : World} {K : PySem.W.Frag} {es : List Expr} {k : Nat} {pos : Pos} (a e it : Addr) (hne : e ≠ it) :
  Turn P w K (.Tuple es k pos) (Ite K a) [e, it] e (fun i h => (∃ old, IsEnum h e it i old) ∧ h.IsListIter it a i) where
 mem := by simp
 obj := fun i h st b hb => by
  obtain ⟨⟨old, he⟩, o, eo, c, d⟩ := st;have hb' : b = e ∨ b = it := by simpa using hb
  rcases hb' with z | z
  ·subst z
   exact ⟨_, he, fun v z => by cases z⟩
  ·subst z
   exact ⟨o, eo, fun v z => by rw [d] at z; cases z⟩
 keep := fun i h h' st kp => ⟨(let ⟨old, he⟩ := st.1; ⟨old, kp e (by simp) _ he⟩), st.2.at fun o eo => kp it (by simp) o eo⟩
 item := by
  intro X hP hw hK hc i pins s σ H E I hf st hg;subst hP hw hK;obtain ⟨xs, x, hq, hx⟩ := hg;obtain ⟨⟨old, he⟩, hit⟩ := st;obtain ⟨its, rv, p, hz⟩ := I.list hq;obtain ⟨u, hu, ru⟩ := rv.get hx;have elt : e < s.heap.objs.size := Heap.lt_size he;refine wpAny_pyNext_enum_item he hit p.isList (x := u) (by simpa using hu) hne fun h1 ho hit1 hT hsz hk => ?_
  refine ⟨_, rfl, wpAny_letOwnedTupleGo_enum ho fun h2 he2 hs2 => ?_⟩
  have kk : ∀ b v, b ∉ [e, it] → s.heap.get? b = some v → h2.get? b = some v := fun b v hb q => by
   have h1' : b ≠ e := fun z => hb (by simp [z])
   have h2' : b ≠ it := fun z => hb (by simp [z])
   exact (hs2.2 b h1').trans (hk b v h1' h2' q)
  have hT2 : h2.get? s.heap.objs.size = some { cls := .type "tuple", data := .seq #[.int i s.toks, u] } := (hs2.2 _ (Nat.ne_of_gt elt)).trans hT;refine ⟨.ref s.heap.objs.size, upd H s.heap.objs.size (.tup [.int i, x]), pI (s := s) (h' := h2) (t' := s.toks + 1) I hf kk (Nat.le_refl _) ?_, rfl, ⟨_, x, I.fresh, rfl, rfl, fun ys hy => by rw [I.list_inj hy hq]; exact hx⟩, ⟨⟨_, he2⟩, ?_⟩, fun b hb => ?_⟩
  ·exact ⟨by show 2 ≤ sizeLine; decide, [.int i s.toks, u], .cons ⟨_, rfl⟩ (.cons ru .nil), _, hT2, rfl, _, rfl⟩
  ·exact hit1.at fun o eo => (hs2.2 it (Ne.symm hne)).trans eo
  ·obtain ⟨f0, f1, f2, f3, f4, f5⟩ := hf b hb
   have hb' : b = e ∨ b = it := by simpa using hb
   obtain ⟨oi, eoi, _⟩ := hit;have : b < s.heap.objs.size := by
    rcases hb' with z | z
    ·rw [z]; exact elt
    ·rw [z]; exact Heap.lt_size eoi
   rw [aG (Nat.ne_of_lt this)];exact f0
 done := by
  intro X hP hw hK hc i pins s σ H E I hf st hg;subst hP hw hK;obtain ⟨xs, hq, hx⟩ := hg;obtain ⟨⟨old, he⟩, hit⟩ := st;obtain ⟨its, rv, p, hz⟩ := I.list hq;have hl := rv.length;refine wpAny_pyNext_enum_end (I.ok.hd hc) he hit p.isList (by simp; lia) fun h1 eb => ⟨rfl, rh (t' := s.toks) I hf fun b v hb q => eb b v (fun z => hb (by simp [z])) q⟩
 self := fun _ _ _ _ _ st h => (let ⟨old, he⟩ := st.1; wpAny_pyIter_enum he h)
noncomputable def yX (K : PySem.W.Frag) (ta : TA) : TI := fun σ H R => ta σ H fun vs H1 => ∃ a, vs = [.ref a] ∧ (∃ xs, SqL K H1 a xs) ∧ R (Ite K a) H1
theorem kT : bootBuiltins "enumerate" = some (.type "enumerate") := by decide +kernel
theorem tx : bootBuiltins "zip" = some (.type "zip") := by decide +kernel
theorem w9 {X : Cx} {es : List Expr} {k : Nat} {a : Expr} {ta : TA} {p pos tpos : Pos} (hg : Gl X "enumerate") (hm : X.mg "enumerate" = none) (ha : PA X [a] ta) (hs : starEach [a] X.env = [(false, eval a X.env)] := by rfl) :
  PI X (.Tuple es k tpos) (.Call (.Name "enumerate" p) [a] [] pos) (yX X.K ta) := by
 intro pins s σ H R I h;refine Call_ (iH I hg hm kT (PyProof.Rows.callWith_type1 (thn (ha pos pins s σ H _ I h) fun us s1 ⟨vs, H1, I1, r1, q1⟩ => ?_) hs rfl))
 obtain ⟨l, e, ⟨xs, hq⟩, q⟩ := q1;subst e;obtain ⟨u, rfl, ru⟩ := Vals.one r1;cases ru;obtain ⟨its, rv, pl, hz⟩ := I1.list hq;refine call_enumerate_list pl.isList fun h1 he hit hsz hk => ?_
 refine wpAny_pyIter_enum he ?_;have I2 : Inv X pins σ H1 { s1 with heap := h1 } := I1.kept (t' := s1.toks) hk
 refine ⟨s1.heap.objs.size + 1, [s1.heap.objs.size + 1, s1.heap.objs.size], _, Ite X.K l, H1, rfl, I2, tm l _ _ (Nat.succ_ne_self _), ⟨⟨_, he⟩, hit⟩, fun b hb => ?_, q⟩
 have hb' : b = s1.heap.objs.size + 1 ∨ b = s1.heap.objs.size := by simpa using hb
 rcases hb' with z | z
 ·subst z
  exact I1.fpOk (Nat.le_succ _) (I1.hok.fresh (Nat.le_succ _))
 ·subst z
  exact I1.fpOk (Nat.le_refl _) (I1.hok.fresh (Nat.le_refl _))
noncomputable def Itz (K : PySem.W.Frag) (a b : Addr) : It :=
 ⟨fun i H => ∃ xs x ys y, SqL K H a xs ∧ xs[i]? = some x ∧ SqL K H b ys ∧ ys[i]? = some y, fun i H v H' => ∃ T x y, H T = none ∧ v = .ref T ∧ H' = upd H T (.tup [x, y]) ∧ (∀ xs, SqL K H a xs → xs[i]? = some x) ∧ ∀ ys, SqL K H b ys → ys[i]? = some y,
  fun i H => ∃ xs ys, SqL K H a xs ∧ SqL K H b ys ∧ (xs.length ≤ i ∨ ys.length ≤ i)⟩
theorem u_ {P : Program} {w : World} {K : PySem.W.Frag} {es : List Expr} {k : Nat} {pos : Pos} (a b z TI TO i1 i2 : Addr) (z1 : z ≠ TI ∧ z ≠ TO ∧ z ≠ i1 ∧ z ≠ i2) (z2 : TI ≠ TO ∧ TI ≠ i1 ∧ TI ≠ i2) (z3 : TO ≠ i1 ∧ TO ≠ i2) (z4 : i1 ≠ i2)
  (z5 : a ≠ z ∧ a ≠ TO ∧ a ≠ i1 ∧ a ≠ i2) (z6 : b ≠ z ∧ b ≠ TO ∧ b ≠ i1 ∧ b ≠ i2) :
  Turn P w K (.Tuple es k pos) (Itz K a b) [z, TI, TO, i1, i2] z (fun i h => IsZip h z TI TO .none ∧ IsPair h TI (.ref i1) (.ref i2) ∧ (∃ u v, IsPair h TO u v) ∧ h.IsListIter i1 a i ∧ h.IsListIter i2 b i) := by
 have D : ZipApart z TI TO i1 i2 a b := ⟨Ne.symm z1.1, Ne.symm z1.2.1, Ne.symm z1.2.2.1, Ne.symm z1.2.2.2, z2.1, z2.2.1, z2.2.2, z3.1, z3.2, z4, z5.1, z5.2.1, z5.2.2.1, z5.2.2.2, z6.1, z6.2.1, z6.2.2.1, z6.2.2.2⟩;have mem5 : ∀ c, c ∈ [z, TI, TO, i1, i2] → c = z ∨ c = TI ∨ c = TO ∨ c = i1 ∨ c = i2 := fun c hc => by simpa using hc
 constructor
 ·simp
 ·intro i h st c hc
  obtain ⟨hz, hTI, ⟨u, v, hTO⟩, ⟨o1, e1, c1, d1⟩, o2, e2, c2, d2⟩ := st;rcases mem5 c hc with rfl | rfl | rfl | rfl | rfl
  ·exact ⟨_, hz, fun v z => by cases z⟩
  ·exact ⟨_, hTI, fun v z => by cases z⟩
  ·exact ⟨_, hTO, fun v z => by cases z⟩
  ·exact ⟨o1, e1, fun v z => by rw [d1] at z; cases z⟩
  ·exact ⟨o2, e2, fun v z => by rw [d2] at z; cases z⟩
 ·intro i h h' st kp
  obtain ⟨hz, hTI, ⟨u, v, hTO⟩, h1, h2⟩ := st;exact ⟨kp z (by simp) _ hz, kp TI (by simp) _ hTI, ⟨u, v, kp TO (by simp) _ hTO⟩, h1.at fun o e => kp i1 (by simp) o e, h2.at fun o e => kp i2 (by simp) o e⟩
 ·intro X hP hw hK hc i pins s σ H E I hf st hg
  subst hP hw hK;obtain ⟨xs, x, ys, y, hq, hx, hr, hy⟩ := hg;obtain ⟨hz, hTI, ⟨u, v, hTO⟩, h1, h2⟩ := st;obtain ⟨its, rv, p, _⟩ := I.list hq;obtain ⟨its2, rv2, p2, _⟩ := I.list hr;obtain ⟨ux, hux, rux⟩ := rv.get hx;obtain ⟨uy, huy, ruy⟩ := rv2.get hy;refine wpAny_pyNext_zip_item D hz hTI hTO h1 h2 p.isList p2.isList (x := ux) (y := uy) (by simpa using hux) (by simpa using huy) fun h3 a1 a2 a3 a4 a5 a6 hk => ?_
  have zlt : z < s.heap.objs.size := Heap.lt_size hz;refine ⟨_, rfl, wpAny_letOwnedTupleGo_zip a1 fun h4 hz4 hs4 => ?_⟩
  have kk : ∀ c w', c ∉ [z, TI, TO, i1, i2] → s.heap.get? c = some w' → h4.get? c = some w' := fun c w' hc q => by
   have n1 : c ≠ z := fun e => hc (by simp [e])
   have n2 : c ≠ TO := fun e => hc (by simp [e])
   have n3 : c ≠ i1 := fun e => hc (by simp [e])
   have n4 : c ≠ i2 := fun e => hc (by simp [e])
   exact (hs4.2 c n1).trans (hk c w' n1 n2 n3 n4 q)
  have hT4 : IsPair h4 s.heap.objs.size ux uy := (hs4.2 _ (Nat.ne_of_gt zlt)).trans a5;have hTI4 : IsPair h4 TI (.ref i1) (.ref i2) := (hs4.2 _ (Ne.symm z1.1)).trans (hk _ _ (Ne.symm z1.1) z2.1 z2.2.1 z2.2.2 hTI);refine ⟨.ref s.heap.objs.size, upd H s.heap.objs.size (.tup [x, y]), pI (s := s) (h' := h4) (t' := s.toks) I hf kk (Nat.le_refl _) ?_, rfl, ⟨_, x, y, I.fresh, rfl, rfl, fun zs hzs => by rw [I.list_inj hzs hq]; exact hx, fun zs hzs => by rw [I.list_inj hzs hr]; exact hy⟩,
   ⟨hz4, hTI4, ⟨ux, uy, (hs4.2 _ (Ne.symm z1.2.1)).trans a2⟩, a3.at fun o e => (hs4.2 _ (Ne.symm z1.2.2.1)).trans e, a4.at fun o e => (hs4.2 _ (Ne.symm z1.2.2.2)).trans e⟩, fun c hc => ?_⟩
  ·exact ⟨by show 2 ≤ sizeLine; decide, [ux, uy], .cons rux (.cons ruy .nil), _, hT4, rfl, _, rfl⟩
  ·have clt : c < s.heap.objs.size := by
    obtain ⟨o1, e1, _⟩ := h1;obtain ⟨o2, e2, _⟩ := h2;rcases mem5 c hc with rfl | rfl | rfl | rfl | rfl
    ·exact zlt
    ·exact Heap.lt_size hTI
    ·exact Heap.lt_size hTO
    ·exact Heap.lt_size e1
    ·exact Heap.lt_size e2
   rw [aG (Nat.ne_of_lt clt)];exact (hf c hc).1
 ·intro X hP hw hK hc i pins s σ H E I hf st hg
  subst hP hw hK;obtain ⟨xs, ys, hq, hr, hx⟩ := hg;obtain ⟨hz, hTI, ⟨u, v, hTO⟩, h1, h2⟩ := st;obtain ⟨its, rv, p, _⟩ := I.list hq;obtain ⟨its2, rv2, p2, _⟩ := I.list hr;have l1 := rv.length;have l2 := rv2.length;refine wpAny_pyNext_zip_end (I.ok.hd hc) D hz hTI hTO h1 h2 p.isList p2.isList (by simp; lia) fun h3 hk => ⟨rfl, rh (t' := s.toks) I hf fun c w' hc q => hk c w' (fun e => hc (by simp [e])) (fun e => hc (by simp [e])) (fun e => hc (by simp [e])) (fun e => hc (by simp [e])) q⟩
 ·intro A i s Q E st h
  exact wpAny_pyIter_zip st.1 h
theorem neA {a b : Nat} (h : a ≠ b) : @Ne Addr a b := h
noncomputable def Ce (K : PySem.W.Frag) (ta : TA) : TI := fun σ H R => ta σ H fun vs H1 => ∃ a b, vs = [.ref a, .ref b] ∧ (∃ xs, SqL K H1 a xs) ∧ (∃ ys, SqL K H1 b ys) ∧ R (Itz K a b) H1
theorem Ae {X : Cx} {es : List Expr} {k : Nat} {a b : Expr} {ta : TA} {p pos tpos : Pos} (hg : Gl X "zip") (hm : X.mg "zip" = none) (ha : PA X [a, b] ta) (hs : starEach [a, b] X.env = [(false, eval a X.env), (false, eval b X.env)] := by rfl) (hs2 : starEach [b] X.env = [(false, eval b X.env)] := by rfl) :
  PI X (.Tuple es k tpos) (.Call (.Name "zip" p) [a, b] [] pos) (Ce X.K ta) := by
 intro pins s σ H R I h;refine Call_ (iH I hg hm tx (PyProof.Rows.callWith_type1 (thn (ha pos pins s σ H _ I h) fun us s1 ⟨vs, H1, I1, r1, q1⟩ => ?_) (by rw [hs, hs2]) (by rw [hs2]; rfl)))
 obtain ⟨l, l', e, ⟨xs, hq⟩, ⟨ys, hr⟩, q⟩ := q1;subst e;obtain ⟨u, v, rfl, ru, rv'⟩ := Vals.two r1;cases ru;cases rv';obtain ⟨its, rv, pl, hz⟩ := I1.list hq;obtain ⟨its2, rv2, pl2, hz2⟩ := I1.list hr;have lt1 : @LT.lt Nat instLTNat l s1.heap.objs.size := (let ⟨o, e, _⟩ := pl.isList; Heap.lt_size e);have lt2 : @LT.lt Nat instLTNat l' s1.heap.objs.size := (let ⟨o, e, _⟩ := pl2.isList; Heap.lt_size e);refine call_zip_2 pl.isList pl2.isList fun h1 a1 a2 a3 a4 a5 a6 hk => ?_
 refine wpAny_pyIter_zip a1 ?_;have I2 : Inv X pins σ H1 { s1 with heap := h1 } := I1.kept (t' := s1.toks) hk
 refine ⟨s1.heap.objs.size + 4, [s1.heap.objs.size + 4, s1.heap.objs.size + 2, s1.heap.objs.size + 3, s1.heap.objs.size, s1.heap.objs.size + 1], _, Itz X.K l l', H1, rfl, I2,
  u_ l l' (s1.heap.objs.size + 4) (s1.heap.objs.size + 2) (s1.heap.objs.size + 3) s1.heap.objs.size (s1.heap.objs.size + 1) ⟨neA (by lia), neA (by lia), neA (by lia), neA (by lia)⟩ ⟨neA (by lia), neA (by lia), neA (by lia)⟩ ⟨neA (by lia), neA (by lia)⟩ (neA (by lia)) ⟨neA (by lia), neA (by lia), neA (by lia), neA (by lia)⟩ ⟨neA (by lia), neA (by lia), neA (by lia), neA (by lia)⟩, ⟨a1, a2, ⟨_, _, a3⟩, a4, a5⟩, fun c hc => ?_, q⟩
 have hc' : @LE.le Nat instLENat s1.heap.objs.size c := by
  have hc2 : @Eq Nat c (s1.heap.objs.size + 4) ∨ @Eq Nat c (s1.heap.objs.size + 2) ∨ @Eq Nat c (s1.heap.objs.size + 3) ∨ @Eq Nat c s1.heap.objs.size ∨ @Eq Nat c (s1.heap.objs.size + 1) := by simpa using hc
  lia
 exact I1.fpOk hc' (I1.hok.fresh hc')
mutual
inductive Rep (K : PySem.W.Frag) (H : Hp) : V → PyData → Prop
 | non : Rep K H .non .none
 | bl (b : Bool) : Rep K H (.bl b) (.bool b)
 | int (i : Int) : Rep K H (.int i) (.int i)
 | str (x : Str) : Rep K H (.str x) (.str x)
 | lst {a : Addr} {xs : List V} {ds : List PyData} : SqL K H a xs → RepAll K H xs ds → Rep K H (.ref a) (.list ds)
 | tup {a : Addr} {xs : List V} {ds : List PyData} : SqT K H a xs → RepAll K H xs ds → Rep K H (.ref a) (.tuple ds)
inductive RepAll (K : PySem.W.Frag) (H : Hp) : List V → List PyData → Prop
 | nil : RepAll K H [] []
 | cons {v : V} {vs : List V} {d : PyData} {ds : List PyData} : Rep K H v d → RepAll K H vs ds → RepAll K H (v :: vs) (d :: ds)
end
theorem C2 {K : PySem.W.Frag} {H H' : Hp} {a : Addr} {xs : List V} (e : aN H H') (h : SqT K H a xs) : SqT K H' a xs := by
 rcases h with (h | ⟨o, h⟩) | h
 ·exact .inl (.inl (e _ _ h))
 ·exact .inl (.inr ⟨o, e _ _ h⟩)
 ·exact .inr h
mutual
theorem Rep.same {K : PySem.W.Frag} {H H' : Hp} (e : aN H H') {v : V} {d : PyData} : Rep K H v d → Rep K H' v d
 | .non => .non
 | .bl b => .bl b
 | .int i => .int i
 | .str x => .str x
 | .lst h r => .lst (e.seq h) (RepAll.same e r)
 | .tup h r => .tup (C2 e h) (RepAll.same e r)
theorem RepAll.same {K : PySem.W.Frag} {H H' : Hp} (e : aN H H') {vs : List V} {ds : List PyData} : RepAll K H vs ds → RepAll K H' vs ds
 | .nil => .nil
 | .cons h r => .cons (Rep.same e h) (RepAll.same e r)
end
mutual
theorem Rep.reads {X : Cx} {pins : List (Addr × Obj)} {σ : St} {H : Hp} {s : Shared} (I : Inv X pins σ H s) {v : V} {d : PyData} : ∀ {u : Value}, Rep X.K H v d → RelV v u → ∃ as, Reads s.heap u d as
 | _, .non, r => by
  cases r;exact ⟨_, .none⟩
 | _, .bl b, r => by
  cases r;exact ⟨_, .bool b⟩
 | _, .int i, r => by
  obtain ⟨t, rfl⟩ := r;exact ⟨_, .int i t⟩
 | _, .str x, r => by
  obtain ⟨t, rfl⟩ := r;exact ⟨_, .str x t⟩
 | _, .lst h ra, r => by
  cases r;obtain ⟨its, rv, pl, hz⟩ := I.list h;obtain ⟨as, ha⟩ := RepAll.reads I ra rv;obtain ⟨o, e, c, n, dd⟩ := pl.isList;exact ⟨_, .list e c dd (by simpa using ha)⟩
 | _, .tup h ra, r => by
  cases r;obtain ⟨its, rv, pl, hz⟩ := I.tuple h;obtain ⟨as, ha⟩ := RepAll.reads I ra rv;obtain ⟨o, e, c, n, dd⟩ := (show s.heap.IsTuple _ its.toArray from pl)
  exact ⟨_, .tuple e c dd (by simpa using ha)⟩
theorem RepAll.reads {X : Cx} {pins : List (Addr × Obj)} {σ : St} {H : Hp} {s : Shared} (I : Inv X pins σ H s) {vs : List V} {ds : List PyData} : ∀ {us : List Value}, RepAll X.K H vs ds → Vals vs us → ∃ as, ReadsAll s.heap us ds as
 | _, .nil, .nil => ⟨_, .nil⟩
 | _, .cons h r, .cons q t => by
  obtain ⟨as, ha⟩ := Rep.reads I h q;obtain ⟨bs, hb⟩ := RepAll.reads I r t;exact ⟨_, .cons ha hb⟩
end
noncomputable def Em (K : PySem.W.Frag) : R2 := fun x y H Q => ∃ d e, Rep K H x d ∧ Rep K H y e ∧ SeqAt.shaped d = true ∧ SeqAt.shaped e = true ∧ Q (.bl (PyData.eqv d e)) H
noncomputable def CD (K : PySem.W.Frag) : R2 := fun x y H Q => ∃ d e, Rep K H x d ∧ Rep K H y e ∧ SeqAt.shaped d = true ∧ SeqAt.shaped e = true ∧ Q (.bl (!PyData.eqv d e)) H
theorem z9 {X : Cx} (hu : X.A.units + 64 < cLine) : OpR X (compareOp .Eq) (Em X.K) := by
 intro pins s σ H x y v u Q I rx ry h;obtain ⟨d, e, h1, h2, s1, s2, q⟩ := h;obtain ⟨as, r1⟩ := h1.reads I rx;obtain ⟨bs, r2⟩ := h2.reads I ry;exact eq_dataH r1 r2 s1 s2 hu ⟨.bl _, H, I, rfl, q⟩
theorem Ad {X : Cx} (hu : X.A.units + 64 < cLine) : OpR X (compareOp .NotEq) (CD X.K) := by
 intro pins s σ H x y v u Q I rx ry h;obtain ⟨d, e, h1, h2, s1, s2, q⟩ := h;obtain ⟨as, r1⟩ := h1.reads I rx;obtain ⟨bs, r2⟩ := h2.reads I ry;exact ne_dataH r1 r2 s1 s2 hu ⟨.bl _, H, I, rfl, q⟩
theorem km : bootBuiltins "isinstance" = some (.builtin "isinstance") := by decide +kernel
theorem sL {X : Cx} (hc : X.calm = true) : ed X (.builtin "max") (fun xs H Q => ∃ (a : Addr) (ns : List Int), xs = [.ref a] ∧ SqL X.K H a (ns.map V.int) ∧ 0 < ns.length ∧ ∀ M, M ∈ ns → (∀ z, z ∈ ns → z ≤ M) → Q (.int M) H) := by
 intro pins s σ H xs us Q I r h;obtain ⟨a, ns, rfl, hq, hl, q⟩ := h;obtain ⟨u, rfl, ru⟩ := Vals.one r;cases ru;obtain ⟨its, rv, pl, hz⟩ := I.list hq;have hi : IntsAre its ns := intsAre_of rv;obtain ⟨ys, e⟩ := hi.allInts.items;have hns : ns = ys.toList.map (·.1) := by
  rw [← hi.numsOf, ← nums_intItems, ← e]
 have hsz : 0 < ys.size := by
  have h3 := hl;rw [hns, List.length_map, Array.length_toList] at h3;exact h3
 have hL := pl.isList;rw [e] at hL;refine max_intList (I.ok.hd hc) hL hsz fun v h' tk hv hk => ?_
 obtain ⟨t, rfl⟩ := intItems_at hv;obtain ⟨h1, h2⟩ := argBest_gt (numAt ys) (ys.size - 1);refine ⟨.int _, H, I.kept hk, ⟨t, rfl⟩, q _ ?_ fun z hzz => ?_⟩
 ·rw [hns, numAt_eq]
  exact getD_mem (by rw [List.length_map, Array.length_toList]; lia)
 ·rw [hns] at hzz
  obtain ⟨j, hj, rfl⟩ := mem_getD hzz;rw [List.length_map, Array.length_toList] at hj;rw [← numAt_eq];exact h2 j (by lia)
theorem sU {X : Cx} (hc : X.calm = true) : ed X (.builtin "min") (fun xs H Q => ∃ (a : Addr) (ns : List Int), xs = [.ref a] ∧ SqL X.K H a (ns.map V.int) ∧ 0 < ns.length ∧ ∀ M, M ∈ ns → (∀ z, z ∈ ns → M ≤ z) → Q (.int M) H) := by
 intro pins s σ H xs us Q I r h;obtain ⟨a, ns, rfl, hq, hl, q⟩ := h;obtain ⟨u, rfl, ru⟩ := Vals.one r;cases ru;obtain ⟨its, rv, pl, hz⟩ := I.list hq;have hi : IntsAre its ns := intsAre_of rv;obtain ⟨ys, e⟩ := hi.allInts.items;have hns : ns = ys.toList.map (·.1) := by
  rw [← hi.numsOf, ← nums_intItems, ← e]
 have hsz : 0 < ys.size := by
  have h3 := hl;rw [hns, List.length_map, Array.length_toList] at h3;exact h3
 have hL := pl.isList;rw [e] at hL;refine min_intList (I.ok.hd hc) hL hsz fun v h' tk hv hk => ?_
 obtain ⟨t, rfl⟩ := intItems_at hv;obtain ⟨h1, h2⟩ := argBest_lt (numAt ys) (ys.size - 1);refine ⟨.int _, H, I.kept hk, ⟨t, rfl⟩, q _ ?_ fun z hzz => ?_⟩
 ·rw [hns, numAt_eq]
  exact getD_mem (by rw [List.length_map, Array.length_toList]; lia)
 ·rw [hns] at hzz
  obtain ⟨j, hj, rfl⟩ := mem_getD hzz;rw [List.length_map, Array.length_toList] at hj;rw [← numAt_eq];exact h2 j (by lia)
theorem vw {X : Cx} : MtR X "list.index" (fun x vs H Q => ∃ (a : Addr) (ns : List Int) (z : Int), x = .ref a ∧ vs = [.int z] ∧ SqL X.K H a (ns.map V.int) ∧ z ∈ ns ∧ Q (.int (ns.idxOf z : Nat)) H) := by
 intro pins s σ H x vs v us Q I rx rv h;obtain ⟨a, ns, z, rfl, rfl, hq, hm, q⟩ := h;cases rx;obtain ⟨u, rfl, t, rfl⟩ := Vals.one rv;obtain ⟨its, rs, pl, hz⟩ := I.list hq;have hi : IntsAre its ns := intsAre_of rs;obtain ⟨⟨cls, dd, data, sl⟩, ho, hc, n, hd⟩ := pl.isList;simp only at hc hd;subst hc hd;have hlen := hi.length;have hj : ns.idxOf z < ns.length := List.idxOf_lt_length_iff.mpr hm;have hn := jI;have hb : ns.length ≤ sizeLine := by simpa using hz
 refine call_meets PySem.F.slot_list_index ⟨_, ho, rfl⟩ PySem.F.entry_list_index (PySem.F.args_list_index_2 _ _)
  (SeqAt.list_indexAt a its.toArray n dd sl (.int z t) (isInt z) (ns.idxOf z) (by simpa [hlen] using hj) (by lia) ?_ ?_) ⟨ho, fun y hy => (eq_isInt z t hi y (by simpa using hy)).at _ _, ⟨.int _, H, I.tok _, ⟨_, rfl⟩, q⟩⟩
 ·show isInt z its[ns.idxOf z] = true
  rw [isInt_at z hi _ (by lia) hj]
  simpa using List.getElem_idxOf hj
 ·intro j hjs hlt
  show isInt z its[j] = false
  rw [isInt_at z hi j (by simpa using hjs) (by lia)]
  exact ne_of_lt_idxOf hlt _
end L2
namespace L2
open PySem PySem.Spec PyProof.Rows
theorem DC {K : PySem.W.Frag} {a : Addr} {xs : List V} {g : TG} {tb : TS} {D : Ends} {σ : St} {H : Hp} (Pv : Nat → St → Hp → Prop) (h0 : Pv 0 σ H) (hl : ∀ i σ H, i ≤ xs.length → Pv i σ H → SqL K H a xs)
  (hs : ∀ i x σ H T, xs[i]? = some x → Pv i σ H → H T = none → g (.ref T) σ (upd H T (.tup [.int i, x])) fun σ2 H2 => tb { D with nx := Pv (i + 1), ct := Pv (i + 1), bk := D.nx } σ2 H2) (hd : ∀ σ H, Pv xs.length σ H → D.nx σ H) :
  ∃ W : Nat → Nat → St → Hp → Prop, (∃ m, W 0 m σ H) ∧ ∀ i m σ H, W i m σ H →
   ((Ite K a).stop i H ∧ D.nx σ H) ∨ ((Ite K a).go i H ∧ ∃ N : St → Hp → Prop, (∀ σ' H', N σ' H' → ∃ m', m' < m ∧ W (i + 1) m' σ' H') ∧ ∀ x H', (Ite K a).yld i H x H' → g x σ H' fun σ2 H2 => tb { D with nx := N, ct := N, bk := D.nx } σ2 H2) := by
 refine ⟨fun i m σ H => m = xs.length - i ∧ i ≤ xs.length ∧ Pv i σ H, ⟨xs.length, by simp, Nat.zero_le _, h0⟩, ?_⟩
 rintro i m σ H ⟨rfl, hi, p⟩;have q := hl i σ H hi p;by_cases hlt : i < xs.length
 ·refine .inr ⟨⟨xs, xs[i], q, by simp [hlt]⟩, Pv (i + 1), fun σ' H' p' => ⟨xs.length - (i + 1), by lia, rfl, hlt, p'⟩, fun x H' y => ?_⟩
  obtain ⟨T, z, hT, rfl, rfl, e⟩ := y;exact hs i z σ H T (e xs q) p hT
 ·have e : i = xs.length := by lia
  subst e;exact .inl ⟨⟨xs, q, Nat.le_refl _⟩, hd σ H p⟩
section
variable {g : TG} {tc : TT} {te : TE} {σ0 : St} {D : Addr} {H1 : Hp} {Q : Hp → Prop}
theorem ug {K : PySem.W.Frag} {a : Addr} {xs : List V} (Pv : Nat → List V → Hp → Prop) (h0 : Pv 0 [] (upd H1 D (.lst []))) (hl : ∀ i acc H, i ≤ xs.length → Pv i acc H → SqL K H a xs)
  (hs : ∀ i x acc H, xs[i]? = some x → Pv i acc H → g x σ0 H (DY tc te σ0 D acc (Pv (i + 1)))) (hd : ∀ acc H, Pv xs.length acc H → Q H) : xC (Itl K a) g tc te σ0 D H1 Q := by
 refine ⟨fun i m acc H => m = xs.length - i ∧ i ≤ xs.length ∧ Pv i acc H, ⟨xs.length, by simp, Nat.zero_le _, h0⟩, ?_⟩
 rintro i m acc H ⟨rfl, hi, p⟩;have q := hl i acc H hi p;by_cases hlt : i < xs.length
 ·refine .inr ⟨⟨xs, xs[i], q, by simp [hlt]⟩, Pv (i + 1), fun acc' H' p' => ⟨xs.length - (i + 1), by lia, rfl, hlt, p'⟩, fun x H' y => ?_⟩
  obtain ⟨e, y⟩ := y;subst e;exact hs i x acc _ (y xs q) p
 ·have e : i = xs.length := by lia
  subst e;exact .inl ⟨⟨xs, q, Nat.le_refl _⟩, hd acc H p⟩
end
noncomputable def PvM (H1 : Hp) (D : Addr) (r : Nat → List V) (i : Nat) (acc : List V) (H : Hp) : Prop := acc = r i ∧ aN H1 H ∧ H D = some (.lst acc)
theorem PvM.start {H1 : Hp} {D : Addr} {r : Nat → List V} (hD : H1 D = none) (h : r 0 = []) : PvM H1 D r 0 [] (upd H1 D (.lst [])) :=
 ⟨h.symm, fun b o e => by rw [aG (aQ e hD)]; exact e, cu⟩
theorem PvM.yes {H1 H : Hp} {D : Addr} {r : Nat → List V} {i : Nat} {acc : List V} {y : V} (hD : H1 D = none) (p : PvM H1 D r i acc H) (e : r (i + 1) = r i ++ [y]) (hl : (r i).length < sizeLine) :
  H D = some (.lst acc) ∧ acc.length < sizeLine ∧ PvM H1 D r (i + 1) (acc ++ [y]) (upd H D (.lst (acc ++ [y]))) :=
 ⟨p.2.2, by rw [p.1]; exact hl, by rw [p.1, e], fun b u q => by rw [aG (aQ q hD)]; exact p.2.1 b u q, cu⟩
structure Def (K : PySem.W.Frag) (mg : Str → Option Value) (x : Str) (st : Stmt) (ps : List Str) (f : Addr) (fd : FuncData) : Prop where
 F : Fun K x x st f fd
 g : mg x = some (.ref f)
 b : Binds K fd ps []
theorem aN.upd {H H' : Hp} {a : Addr} {o : HO} (e : aN H H') (h : H a = none) : aN H (L2.upd H' a o) := fun b u q => by
 rw [aG (aQ q h)];exact e b u q
section
variable {X : Cx}
theorem lF (K : PySem.W.Frag) (h : X.K = K) : IxR X (oM K) := by
 subst h;exact rK
noncomputable def CH (K : PySem.W.Frag) : List V → Hp → VK → Prop := fun xs H Q => ∃ p ys, xs = [.ref p] ∧ (SqL K H p ys ∨ SqT K H p ys) ∧ ∀ l, H l = none → Q (.ref l) (upd H l (.lst ys))
theorem m5 (K : PySem.W.Frag) (h : X.K = K) : ed X (.type "list") (CH K) := by
 subst h;exact nK
theorem vS (K : PySem.W.Frag) (h : X.K = K) {tg l : Expr} {tl : TE} (hl : PE X l tl) : PI X tg l (pZ K tl) := by
 subst h;exact rB hl
noncomputable def y9 (K : PySem.W.Frag) : List V → Hp → VK → Prop := fun xs H Q => ∃ (a : Addr) (ns : List Int), xs = [.ref a] ∧ SqL K H a (ns.map V.int) ∧ 0 < ns.length ∧ ∀ M, M ∈ ns → (∀ z, z ∈ ns → z ≤ M) → Q (.int M) H
theorem hX (K : PySem.W.Frag) (h : X.K = K) (hc : X.calm = true) : ed X (.builtin "max") (y9 K) := by
 subst h;exact sL hc
noncomputable def y6 (K : PySem.W.Frag) : List V → Hp → VK → Prop := fun xs H Q => ∃ (a : Addr) (ns : List Int), xs = [.ref a] ∧ SqL K H a (ns.map V.int) ∧ 0 < ns.length ∧ ∀ M, M ∈ ns → (∀ z, z ∈ ns → M ≤ z) → Q (.int M) H
theorem i7 (K : PySem.W.Frag) (h : X.K = K) (hc : X.calm = true) : ed X (.builtin "min") (y6 K) := by
 subst h;exact sU hc
end
end L2
namespace L2
open PySem PySem.Spec PyProof.Rows
end L2
namespace L2
open PySem PySem.Spec PyProof.Rows
section
variable {κ : Type} [DecidableEq κ]
end
section
variable {P : Program} {w : World} {H : Hp} {h : Heap} {a : Addr}
end
section
variable {X : Cx} {pins : List (Addr × Obj)} {σ : St} {H : Hp} {s : Shared} {a : Addr} {y v : V} {u r : Value} {o : Option V} {A : Around} {E : Value → Shared → Prop}
end
section
variable {X : Cx} {pins : List (Addr × Obj)} {σ : St} {H : Hp} {s : Shared} {a : Addr} {kvs : List (Key × V)} {k : Key} {u : Value} {A : Around} {E : Value → Shared → Prop}
end
section
variable {X : Cx} {o i e value : Expr} {pos pos' tpos : Pos} {td ty tv : TE}
end
section
variable {X : Cx} {pos : Pos}
end
end L2
namespace L3
open PySem L2 PySem.Spec PyProof.Rows
noncomputable abbrev St := L2.St
noncomputable def RdK (K : PySem.W.Frag) (H : Hp) (a : Addr) (xs : List V) : Prop :=
 Rd H a (.lst xs) ∨ ∃ (its : Array Value) (n : Nat), K.lookup a = some { cls := .type "list", data := .seq its n } ∧ its.size ≤ sizeLine ∧ Vals xs its.toList
theorem RdK.of {K : PySem.W.Frag} {H : Hp} {a : Addr} {xs : List V} (h : H a = some (.lst xs)) : RdK K H a xs := .inl (.inl h)
theorem RdK.sq {K : PySem.W.Frag} {H : Hp} {a : Addr} {xs : List V} (h : RdK K H a xs) : SqL K H a xs := by
 rcases h with h | ⟨its, n, hk, hz, r⟩
 ·exact .inl h
 ·exact .inr ⟨_, its, n, hk, rfl, rfl, rfl, hz, r⟩
theorem RdK.same {K : PySem.W.Frag} {H H' : Hp} (e : aN H H') {a : Addr} {xs : List V} (h : RdK K H a xs) : RdK K H' a xs := by
 rcases h with (h | ⟨o, h⟩) | h
 ·exact .inl (.inl (e _ _ h))
 ·exact .inl (.inr ⟨o, e _ _ h⟩)
 ·exact .inr h
theorem RdK.obj {X : Cx} {pins : List (Addr × Obj)} {σ : St} {H : Hp} {s : Shared} {a : Addr} {xs : List V} (I : Inv X pins σ H s) (h : RdK X.K H a xs) :
  xs.length ≤ sizeLine ∧ ∃ (its : List Value) (n : Nat), Vals xs its ∧ xs.length = its.length ∧ s.heap.get? a = some { cls := .type "list", data := .seq its.toArray n } := by
 rcases h with h | ⟨its, n, hk, hz, r⟩
 ·obtain ⟨z, its, n, r, e⟩ := h.ok I.hok
  exact ⟨z, its, n, r, r.length, e⟩
 ·have e := r.length
  have e' := e;simp only [Array.length_toList] at e';exact ⟨by lia, its.toList, n, r, e, by simpa using I.kIn a _ hk⟩
end L3
namespace L3
open PySem L2
inductive OD where
 | sh (d : PyData)
 | ol (xs : List OD)
 | ot (xs : List OD)
 | od (kvs : List (Key × PyData))
noncomputable def kD : Key → PyData
 | .inl i => .int i
 | .inr x => .str x
noncomputable def dD (kvs : List (Key × PyData)) : PyData := .dict (kvs.map fun p => (kD p.1, p.2))
mutual
noncomputable def OD.er : OD → PyData
 | .sh d => d
 | .ol xs => .list (OD.ers xs)
 | .ot xs => .tuple (OD.ers xs)
 | .od kvs => dD kvs
noncomputable def OD.ers : List OD → List PyData
 | [] => []
 | x :: xs => x.er :: OD.ers xs
end
theorem k9 : ∀ xs : List OD, OD.ers xs = xs.map OD.er
 | [] => rfl
 | x :: xs => by rw [OD.ers, List.map_cons, k9 xs]
theorem cZ (d : PyData) : (OD.sh d).er = d := by rw [OD.er]
theorem jL (xs : List OD) : (OD.ol xs).er = .list (xs.map OD.er) := by rw [OD.er, k9]
theorem yR (xs : List OD) : (OD.ot xs).er = .tuple (xs.map OD.er) := by rw [OD.er, k9]
theorem Ci (kvs : List (Key × PyData)) : (OD.od kvs).er = dD kvs := by rw [OD.er]
theorem aT (ds : List PyData) : (ds.map OD.sh).map OD.er = ds := by
 rw [List.map_map];have : (OD.er ∘ OD.sh) = id := funext fun d => cZ d
 rw [this, List.map_id]
inductive R (α : Type) where
 | ok (a : α)
 | ex (c : Str)
 | bad
noncomputable def R.bind {α β : Type} (r : R α) (f : α → R β) : R β := match r with
 | .ok a => f a
 | .ex c => .ex c
 | .bad => .bad
theorem cz {α β : Type} (a : α) (f : α → R β) : (R.ok a).bind f = f a := rfl
noncomputable abbrev Env := List (Option OD)
noncomputable abbrev Fe := Env → R OD
noncomputable abbrev Fa := Env → R (List OD)
noncomputable abbrev Ft := Env → R Bool
noncomputable abbrev Fn := List PyData → R OD
inductive Out where
 | nx (ρ : Env)
 | rt (x : OD)
 | bk (ρ : Env)
 | ct (ρ : Env)
noncomputable abbrev Fs := Env → R Out
noncomputable abbrev Fi := Env → R (List PyData)
noncomputable abbrev Fg := OD → Env → R Env
noncomputable def BIG : Nat := 10000000
noncomputable def flat : PyData → Bool
 | .none => true
 | .bool _ => true
 | .int _ => true
 | .str _ => true
 | _ => false
noncomputable def ae (i : Nat) : Fe := fun ρ => match ρ[i]? with
 | some (some (.sh d)) => .ok (.sh d)
 | _ => .bad
noncomputable def eC (d : PyData) : Fe := fun _ => .ok (.sh d)
noncomputable def eOp (g : PyData → PyData → R OD) (a b : Fe) : Fe := fun ρ => (a ρ).bind fun x => (b ρ).bind fun y => g x.er y.er
noncomputable def eUn (g : PyData → R OD) (a : Fe) : Fe := fun ρ => (a ρ).bind fun x => g x.er
noncomputable def truth : PyData → R Bool
 | .bool b => .ok b
 | _ => .bad
noncomputable def br (a : Fe) : Ft := fun ρ => (a ρ).bind fun x => truth x.er
noncomputable def lz (a b : Ft) : Ft := fun ρ => (a ρ).bind fun c => if c = true then b ρ else .ok false
noncomputable def pV (a b : Ft) : Ft := fun ρ => (a ρ).bind fun c => if c = true then .ok true else b ρ
noncomputable def lX (a : Ft) : Ft := fun ρ => (a ρ).bind fun c => .ok (!c)
noncomputable def vz (a b : Fe) : Fe := fun ρ => (a ρ).bind fun x => (truth x.er).bind fun c => if c = true then b ρ else .ok (.sh (.bool false))
noncomputable def eOr (a b : Fe) : Fe := fun ρ => (a ρ).bind fun x => (truth x.er).bind fun c => if c = true then .ok (.sh (.bool true)) else b ρ
noncomputable def wy (a : Fe) : Fe := fun ρ => (a ρ).bind fun x => (truth x.er).bind fun c => .ok (.sh (.bool (!c)))
noncomputable def eIf (t : Ft) (a b : Fe) : Fe := fun ρ => (t ρ).bind fun c => if c = true then a ρ else b ρ
noncomputable def az : Fa := fun _ => .ok []
noncomputable def ah (a : Fe) (r : Fa) : Fa := fun ρ => (a ρ).bind fun x => (r ρ).bind fun xs => .ok (x :: xs)
noncomputable def shs : List OD → Option (List PyData)
 | [] => some []
 | .sh d :: r => match shs r with
  | some ds => some (d :: ds)
  | none => none
 | _ :: _ => none
noncomputable def mkT (xs : List OD) : OD := match shs xs with
 | some ds => .sh (.tuple ds)
 | none => .ot xs
noncomputable def iz (a : Fa) : Fe := fun ρ => (a ρ).bind fun xs => if xs.length ≤ BIG then .ok (mkT xs) else .bad
noncomputable def eSh (a : Fe) : Fe := fun ρ => (a ρ).bind fun x => .ok (.sh x.er)
noncomputable def eR (a : Fa) : Fe := fun ρ => (a ρ).bind fun xs => if xs.length ≤ BIG then .ok (.ol xs) else .bad
noncomputable def bt (f : Fn) (a : Fa) : Fe := fun ρ => (a ρ).bind fun xs => f (xs.map OD.er)
noncomputable def eB (g : List PyData → R OD) (a : Fa) : Fe := fun ρ => (a ρ).bind fun xs => g (xs.map OD.er)
noncomputable def erase (ρ : Env) : Env := ρ.map fun o => o.map fun x => OD.sh x.er
noncomputable def mH (a : Fe) : Fe := fun ρ => (a (erase ρ)).bind fun x => if flat x.er = true then .ok (.sh x.er) else .bad
noncomputable def lO (a : Fe) : Fe := fun ρ => (a (erase ρ)).bind fun x => match x with
 | .ol xs => if xs.all (fun y => flat y.er) = true then .ok (.ol (xs.map fun y => .sh y.er)) else .bad
 | _ => .bad
noncomputable def oj (a : Ft) : Ft := fun ρ => a (erase ρ)
noncomputable abbrev Fo := Env → R (Option Int)
noncomputable def iF : Fo := fun _ => .ok none
noncomputable def iy (a : Fe) : Fo := fun ρ => (a ρ).bind fun x => match x.er with
 | .int i => .ok (some i)
 | _ => .bad
noncomputable def eSl (g : PyData → Option Int → Option Int → R OD) (a : Fe) (l h : Fo) : Fe := fun ρ => (a ρ).bind fun x => (l ρ).bind fun i => (h ρ).bind fun j => g x.er i j
noncomputable def fZ (a : Fe) : Fi := fun ρ => (a ρ).bind fun x => match x.er with
 | .list ds => .ok ds
 | _ => .bad
noncomputable def iTp (a : Fe) : Fi := fun ρ => (a ρ).bind fun x => match x.er with
 | .tuple ds => .ok ds
 | _ => .bad
noncomputable def ik (lo : Int) (n : Nat) : List PyData := (List.range n).map fun k : Nat => PyData.int (lo + k)
noncomputable def aB (i : Int) : Bool := decide (-(2 ^ 62) ≤ i) && decide (i < 2 ^ 62)
noncomputable def iR1 (a : Fe) : Fi := fun ρ => (a ρ).bind fun x => match x.er with
 | .int j => if aB j = true then .ok (ik 0 j.toNat) else .bad
 | _ => .bad
noncomputable def iR2 (a b : Fe) : Fi := fun ρ => (a ρ).bind fun x => (b ρ).bind fun y => match x.er, y.er with
 | .int i, .int j => if (aB i && aB j) = true then .ok (ik i (j - i).toNat) else .bad
 | _, _ => .bad
noncomputable def fT (ds : List PyData) : List PyData := ds.zipIdx.map fun p => PyData.tuple [.int (p.2 : Nat), p.1]
noncomputable def ku (ds es : List PyData) : List PyData := (ds.zip es).map fun p => PyData.tuple [p.1, p.2]
noncomputable def iEn (a : Fe) : Fi := fun ρ => (a ρ).bind fun x => match x.er with
 | .list ds => .ok (fT ds)
 | _ => .bad
noncomputable def iZp (a b : Fe) : Fi := fun ρ => (a ρ).bind fun x => (b ρ).bind fun y => match x.er, y.er with
 | .list ds, .list es => .ok (ku ds es)
 | _, _ => .bad
noncomputable def gNm (i : Nat) : Fg := fun x ρ => .ok (ρ.set i (some x))
noncomputable abbrev Fgs := List OD → Env → R Env
noncomputable def gE : Fgs := fun xs ρ => match xs with
 | [] => .ok ρ
 | _ => .bad
noncomputable def bD (g : Fg) (r : Fgs) : Fgs := fun xs ρ => match xs with
 | x :: xs => (g x ρ).bind fun ρ' => r xs ρ'
 | [] => .bad
noncomputable def gTp (n : Nat) (r : Fgs) : Fg := fun x ρ => match x with
 | .ot xs => if xs.length = n then r xs ρ else .bad
 | .sh (.tuple ds) => if ds.length = n then r (ds.map OD.sh) ρ else .bad
 | _ => .bad
noncomputable def ky : Option (Option OD) → Option OD
 | some (some (.sh d)) => some (.sh d)
 | _ => none
noncomputable def sl3 (k : Nat) (outs : List Nat) (ρ : Env) : Env := List.replicate k none ++ outs.map fun i => ky ρ[i]?
noncomputable def n8 {α : Type} : R α → R α
 | .ok a => .ok a
 | _ => .bad
noncomputable def bb (g : Fg) (t : Ft) (el : Fe) (ρ0 : Env) : List PyData → List OD → R (List OD)
 | [], acc => .ok acc
 | d :: ds, acc => (n8 (g (.sh d) ρ0)).bind fun ρ => (n8 (t ρ)).bind fun b => if b = true then (n8 (el ρ)).bind fun y => if acc.length < BIG then bb g t el ρ0 ds (acc ++ [y]) else .bad else bb g t el ρ0 ds acc
noncomputable def bT (it : Fi) (g : Fg) (t : Ft) (el : Fe) (k : Nat) (outs : List Nat) : Fe := fun ρ => (it ρ).bind fun ds => (bb g t el (sl3 k outs ρ) ds []).bind fun xs => .ok (.ol xs)
noncomputable def dt : Ft := fun _ => .ok true
noncomputable def sNx : Fs := fun ρ => .ok (.nx ρ)
noncomputable def aE (a b : Fs) : Fs := fun ρ => (a ρ).bind fun o => match o with
 | .nx ρ' => b ρ'
 | o => .ok o
noncomputable def sX (a : Fe) (g : Fg) : Fs := fun ρ => (a ρ).bind fun x => (g x ρ).bind fun ρ' => .ok (.nx ρ')
noncomputable def aJ (i : Nat) (a : Fe) : Fs := fun ρ => (a ρ).bind fun x => .ok (.nx (ρ.set i (some x)))
noncomputable def rY (a : Fe) : Fs := fun ρ => (a ρ).bind fun _ => .ok (.nx ρ)
noncomputable def e_ (a : Fe) : Fs := fun ρ => (a ρ).bind fun x => .ok (.rt x)
noncomputable def Cc : Fs := fun _ => .ok (.rt (.sh .none))
noncomputable def fm (i : Nat) : Fs := fun ρ => match ρ[i]? with
 | some (some x) => .ok (.rt x)
 | _ => .bad
noncomputable def sIf (t : Ft) (a b : Fs) : Fs := fun ρ => (t ρ).bind fun c => if c = true then a ρ else b ρ
noncomputable def sBk : Fs := fun ρ => .ok (.bk ρ)
noncomputable def sCt : Fs := fun ρ => .ok (.ct ρ)
noncomputable def zN : Fs := fun _ => .bad
noncomputable def wC (i : Nat) (ρ : Env) : Env := match ρ[i]? with
 | some (some x) => ρ.set i (some (.sh x.er))
 | _ => ρ
noncomputable def mU (i : Nat) (a : Fs) : Fs := fun ρ => a (wC i ρ)
noncomputable def Eu (i : Nat) (g : PyData → PyData → R OD) (a : Fe) : Fs := fun ρ => match ρ[i]? with
 | some (some (.sh d)) => (a ρ).bind fun y => (g d y.er).bind fun z => .ok (.nx (ρ.set i (some z)))
 | _ => .bad
noncomputable def ib (i : Nat) (a : Fe) : Fs := fun ρ => match ρ[i]? with
 | some (some (.ol xs)) => (a ρ).bind fun y => if xs.length < BIG then .ok (.nx (ρ.set i (some (.ol (xs ++ [y]))))) else .bad
 | _ => .bad
noncomputable def Cw (i : Nat) : Fs := fun ρ => match ρ[i]? with
 | some (some (.ol xs)) => .ok (.nx (ρ.set i (some (.ol xs.reverse))))
 | _ => .bad
noncomputable def Ep (i : Nat) : Fs := fun ρ => match ρ[i]? with
 | some (some (.ol xs)) => .ok (.nx (ρ.set i (some (.ol []))))
 | _ => .bad
noncomputable def qj (i : Nat) (g : Fg) : Fs := fun ρ => match ρ[i]? with
 | some (some (.ol xs)) => match xs.getLast? with
  | some (.sh d) => (g (.sh d) (ρ.set i (some (.ol xs.dropLast)))).bind fun ρ' => .ok (.nx ρ')
  | _ => .bad
 | _ => .bad
noncomputable def Ea (i : Nat) (a : Fe) : Fs := fun ρ => match ρ[i]? with
 | some (some (.ol xs)) => (a ρ).bind fun y => match y with
  | .ol ys => if xs.length + ys.length ≤ BIG then .ok (.nx (ρ.set i (some (.ol (xs ++ ys))))) else .bad
  | _ => .bad
 | _ => .bad
noncomputable def o8 (i : Nat) (k : Fe) (a : Fe) : Fs := fun ρ => match ρ[i]? with
 | some (some (.ol xs)) => (a ρ).bind fun y => (k ρ).bind fun z => match z.er with
  | .int q => match ixN xs.length q with
   | some j => .ok (.nx (ρ.set i (some (.ol (xs.set j y)))))
   | none => .bad
  | _ => .bad
 | _ => .bad
noncomputable def comps : OD → Option (Bool × List OD)
 | .ol xs => some (true, xs)
 | .ot xs => some (false, xs)
 | _ => none
noncomputable def wrap (l : Bool) (xs : List OD) : OD := if l = true then .ol xs else .ot xs
noncomputable def ke (i : Nat) (k : Fe) (a : Fe) : Fs := fun ρ => match ρ[i]? with
 | some (some (.ol xs)) => (k ρ).bind fun z => match z.er with
  | .int q => match ixN xs.length q with
   | some j => match xs[j]? with
    | some (.ol ys) => (a ρ).bind fun y => if ys.length < BIG then .ok (.nx (ρ.set i (some (.ol (xs.set j (.ol (ys ++ [y]))))))) else .bad
    | _ => .bad
   | none => .bad
  | _ => .bad
 | _ => .bad
noncomputable def bE (g : Fg) (b : Fs) : List PyData → Env → R Out
 | [], ρ => .ok (.nx ρ)
 | d :: ds, ρ => (g (.sh d) ρ).bind fun ρ1 => (b ρ1).bind fun o => match o with
  | .nx ρ2 => bE g b ds ρ2
  | .ct ρ2 => bE g b ds ρ2
  | .bk ρ2 => .ok (.nx ρ2)
  | .rt x => .ok (.rt x)
noncomputable def fM (it : Fi) (g : Fg) (b : Fs) : Fs := fun ρ => (it ρ).bind fun ds => bE g b ds ρ
noncomputable def dF (t : Ft) (b : Fs) : Nat → Env → R Out
 | 0, _ => .bad
 | n + 1, ρ => (t ρ).bind fun c => if c = true then (b ρ).bind fun o => match o with
  | .nx ρ2 => dF t b n ρ2
  | .ct ρ2 => dF t b n ρ2
  | .bk ρ2 => .ok (.nx ρ2)
  | .rt x => .ok (.rt x) else .ok (.nx ρ)
open Classical in
noncomputable def gh (t : Ft) (b : Fs) : Fs := fun ρ => if h : ∃ n, dF t b n ρ ≠ .bad then dF t b h.choose ρ else .bad
noncomputable def oq (n : Nat) (ds : List PyData) : Env := (ds.map fun d => some (OD.sh d)) ++ List.replicate (n - ds.length) none
noncomputable def dE (np n : Nat) (b : Fs) : Fn := fun ds => if ds.length = np then (b (oq n ds)).bind fun o => match o with
 | .rt x => .ok x
 | .nx _ => .ok (.sh .none)
 | _ => .bad else .bad
end L3
namespace L3
open PySem L2
mutual
inductive Rep (K : PySem.W.Frag) (H : Hp) : V → PyData → Prop
 | non : Rep K H .non .none
 | bl (b : Bool) : Rep K H (.bl b) (.bool b)
 | int (i : Int) : Rep K H (.int i) (.int i)
 | str (x : Str) : Rep K H (.str x) (.str x)
 | lst {a : Addr} {xs : List V} {ds : List PyData} : RdK K H a xs → RepAll K H xs ds → Rep K H (.ref a) (.list ds)
 | tup {a : Addr} {xs : List V} {ds : List PyData} : H a = some (.tup xs) → RepAll K H xs ds → Rep K H (.ref a) (.tuple ds)
 | dct {a : Addr} {kvs : List (Key × V)} {ds : List (Key × PyData)} : H a = some (.dK kvs) → kvs.map (·.1) = ds.map (·.1) → RepAll K H (kvs.map (·.2)) (ds.map (·.2)) → Rep K H (.ref a) (dD ds)
inductive RepAll (K : PySem.W.Frag) (H : Hp) : List V → List PyData → Prop
 | nil : RepAll K H [] []
 | cons {v : V} {vs : List V} {d : PyData} {ds : List PyData} : Rep K H v d → RepAll K H vs ds → RepAll K H (v :: vs) (d :: ds)
end
mutual
theorem Rep.same {K : PySem.W.Frag} {H H' : Hp} (e : aN H H') {v : V} {d : PyData} : Rep K H v d → Rep K H' v d
 | .non => .non
 | .bl b => .bl b
 | .int i => .int i
 | .str x => .str x
 | .lst h r => .lst (h.same e) (RepAll.same e r)
 | .tup h r => .tup (e _ _ h) (RepAll.same e r)
 | .dct h k r => .dct (e _ _ h) k (RepAll.same e r)
theorem RepAll.same {K : PySem.W.Frag} {H H' : Hp} (e : aN H H') {vs : List V} {ds : List PyData} : RepAll K H vs ds → RepAll K H' vs ds
 | .nil => .nil
 | .cons h r => .cons (Rep.same e h) (RepAll.same e r)
end
mutual
inductive Own (K : PySem.W.Frag) (F H : Hp) : V → OD → List Addr → Prop
 | sh {v : V} {d : PyData} : Rep K F v d → Own K F H v (.sh d) []
 | ol {a : Addr} {vs : List V} {xs : List OD} {f : List Addr} : H a = some (.lst vs) → OwnL K F H vs xs f → Own K F H (.ref a) (.ol xs) (a :: f)
 | ot {a : Addr} {vs : List V} {xs : List OD} {f : List Addr} : H a = some (.tup vs) → OwnL K F H vs xs f → Own K F H (.ref a) (.ot xs) (a :: f)
 | od {a : Addr} {kvs : List (Key × V)} {ds : List (Key × PyData)} : H a = some (.dK kvs) → kvs.map (·.1) = ds.map (·.1) → RepAll K F (kvs.map (·.2)) (ds.map (·.2)) → Own K F H (.ref a) (.od ds) [a]
inductive OwnL (K : PySem.W.Frag) (F H : Hp) : List V → List OD → List Addr → Prop
 | nil : OwnL K F H [] [] []
 | cons {v : V} {x : OD} {f : List Addr} {vs : List V} {xs : List OD} {g : List Addr} : Own K F H v x f → OwnL K F H vs xs g → OwnL K F H (v :: vs) (x :: xs) (f ++ g)
end
section
variable {K : PySem.W.Frag} {F H F' H' : Hp}
mutual
theorem Own.mono (e : aN F F') {v : V} {x : OD} {f : List Addr} : (∀ a ∈ f, ∀ o, H a = some o → H' a = some o) → Own K F H v x f → Own K F' H' v x f
 | _, .sh r => .sh (r.same e)
 | k, .ol h r => .ol (k _ List.mem_cons_self _ h) (OwnL.mono e (fun a m => k a (List.mem_cons_of_mem _ m)) r)
 | k, .ot h r => .ot (k _ List.mem_cons_self _ h) (OwnL.mono e (fun a m => k a (List.mem_cons_of_mem _ m)) r)
 | k, .od h q r => .od (k _ List.mem_cons_self _ h) q (RepAll.same e r)
theorem OwnL.mono (e : aN F F') {v : List V} {x : List OD} {f : List Addr} : (∀ a ∈ f, ∀ o, H a = some o → H' a = some o) → OwnL K F H v x f → OwnL K F' H' v x f
 | _, .nil => .nil
 | k, .cons h r => .cons (Own.mono e (fun a m => k a (List.mem_append_left _ m)) h) (OwnL.mono e (fun a m => k a (List.mem_append_right _ m)) r)
end
mutual
theorem Own.dom {v : V} {x : OD} {f : List Addr} : Own K F H v x f → ∀ a ∈ f, ∃ o, H a = some o
 | .sh _, a, m => by cases m
 | .ol h r, a, m => by
  rcases List.mem_cons.mp m with rfl | m
  ·exact ⟨_, h⟩
  ·exact OwnL.dom r a m
 | .ot h r, a, m => by
  rcases List.mem_cons.mp m with rfl | m
  ·exact ⟨_, h⟩
  ·exact OwnL.dom r a m
 | .od h q r, a, m => by
  rcases List.mem_cons.mp m with rfl | m
  ·exact ⟨_, h⟩
  ·cases m
theorem OwnL.dom {v : List V} {x : List OD} {f : List Addr} : OwnL K F H v x f → ∀ a ∈ f, ∃ o, H a = some o
 | .nil, a, m => by cases m
 | .cons h r, a, m => by
  rcases List.mem_append.mp m with m | m
  ·exact Own.dom h a m
  ·exact OwnL.dom r a m
end
mutual
theorem Own.frz (e : aN F F') {v : V} {x : OD} {f : List Addr} : (∀ a ∈ f, ∀ o, H a = some o → F' a = some o) → Own K F H v x f → Rep K F' v x.er
 | _, .sh r => by rw [cZ]; exact r.same e
 | k, .ol h r => by rw [OD.er]; exact .lst (RdK.of (k _ List.mem_cons_self _ h)) (OwnL.frz e (fun a m => k a (List.mem_cons_of_mem _ m)) r)
 | k, .ot h r => by rw [OD.er]; exact .tup (k _ List.mem_cons_self _ h) (OwnL.frz e (fun a m => k a (List.mem_cons_of_mem _ m)) r)
 | k, .od h q r => by rw [OD.er]; exact .dct (k _ List.mem_cons_self _ h) q (r.same e)
theorem OwnL.frz (e : aN F F') {v : List V} {x : List OD} {f : List Addr} : (∀ a ∈ f, ∀ o, H a = some o → F' a = some o) → OwnL K F H v x f → RepAll K F' v (OD.ers x)
 | _, .nil => by rw [OD.ers]; exact .nil
 | k, .cons h r => by rw [OD.ers]; exact .cons (Own.frz e (fun a m => k a (List.mem_append_left _ m)) h) (OwnL.frz e (fun a m => k a (List.mem_append_right _ m)) r)
end
theorem OwnL.len : ∀ {v : List V} {x : List OD} {f : List Addr}, OwnL K F H v x f → v.length = x.length
 | _, _, _, .nil => rfl
 | _, _, _, .cons _ r => by rw [List.length_cons, List.length_cons, OwnL.len r]
theorem OwnL.app : ∀ {v w : List V} {x y : List OD} {f g : List Addr}, OwnL K F H v x f → OwnL K F H w y g → OwnL K F H (v ++ w) (x ++ y) (f ++ g)
 | _, _, _, _, _, _, .nil, q => q
 | _, _, _, _, _, _, .cons h r, q => by
  rw [List.cons_append, List.cons_append, List.append_assoc];exact .cons h (OwnL.app r q)
theorem OwnL.shs : ∀ {v : List V} {ds : List PyData}, RepAll K F v ds → OwnL K F H v (ds.map OD.sh) []
 | _, _, .nil => .nil
 | _, _, .cons h r => .cons (f := []) (.sh h) (OwnL.shs r)
theorem RepAll.len : ∀ {v : List V} {ds : List PyData}, RepAll K F v ds → v.length = ds.length
 | _, _, .nil => rfl
 | _, _, .cons _ r => by rw [List.length_cons, List.length_cons, RepAll.len r]
theorem RepAll.get : ∀ {v : List V} {ds : List PyData} {i : Nat} {d : PyData}, RepAll K F v ds → ds[i]? = some d → ∃ x, v[i]? = some x ∧ Rep K F x d
 | _, _, _, _, .nil, e => by simp at e
 | _, _, 0, _, .cons h _, e => by
  simp at e
  subst e;exact ⟨_, rfl, h⟩
 | _, _, i + 1, _, .cons _ r, e => by
  obtain ⟨x, h1, h2⟩ := RepAll.get (i := i) r (by simpa using e)
  exact ⟨x, by simpa using h1, h2⟩
theorem RepAll.app : ∀ {v w : List V} {ds es : List PyData}, RepAll K F v ds → RepAll K F w es → RepAll K F (v ++ w) (ds ++ es)
 | _, _, _, _, .nil, q => q
 | _, _, _, _, .cons h r, q => .cons h (RepAll.app r q)
theorem RepAll.take : ∀ {v : List V} {ds : List PyData} (n : Nat), RepAll K F v ds → RepAll K F (v.take n) (ds.take n)
 | _, _, 0, _ => by rw [List.take_zero, List.take_zero]; exact .nil
 | _, _, _ + 1, .nil => .nil
 | _, _, n + 1, .cons h r => .cons h (RepAll.take n r)
theorem RepAll.drop : ∀ {v : List V} {ds : List PyData} (n : Nat), RepAll K F v ds → RepAll K F (v.drop n) (ds.drop n)
 | _, _, 0, r => r
 | _, _, _ + 1, .nil => .nil
 | _, _, n + 1, .cons h r => RepAll.drop n r
theorem RepAll.toInts : ∀ {v : List V} {ns : List Int}, RepAll K F v (ns.map PyData.int) → v = ns.map V.int
 | _, [], .nil => rfl
 | _, n :: ns, .cons h r => by
  cases h;rw [RepAll.toInts r];rfl
theorem RepAll.ofInts : ∀ (ns : List Int), RepAll K F (ns.map V.int) (ns.map PyData.int)
 | [] => .nil
 | n :: ns => .cons (.int n) (RepAll.ofInts ns)
end
structure Ext (F H F' H' : Hp) : Prop where
 ff : aN F F'
 hh : aN H H'
 fh : aN F' H'
 nw : ∀ a, H a ≠ none → F a = none → F' a = none
theorem cy {α : Type} {o : Option α} {x : α} (h : o = some x) : o ≠ none := by
 rw [h];exact Option.some_ne_none x
theorem _root_.L2.aN.dom {H H' : Hp} (e : aN H H') {a : Addr} (h : H a ≠ none) : H' a ≠ none := by
 cases q : H a with
 | none => exact absurd q h
 | some o => exact cy (e a o q)
section
variable {F H F1 H1 F2 H2 : Hp}
theorem Ext.refl (h : aN F H) : Ext F H F H := ⟨aN.refl _, aN.refl _, h, fun _ _ z => z⟩
theorem Ext.trans (a : Ext F H F1 H1) (b : Ext F1 H1 F2 H2) : Ext F H F2 H2 := ⟨a.ff.trans b.ff, a.hh.trans b.hh, b.fh, fun x h n => b.nw x (a.hh.dom h) (a.nw x h n)⟩
theorem Ext.alloc {p : Addr} {o : HO} (h : aN F H) (hp : H p = none) : Ext F H F (upd H p o) :=
 ⟨aN.refl _, (aN.refl H).upd hp, (aN.upd h (h.free hp)), fun _ _ z => z⟩
theorem Ext.allocF {p : Addr} {o : HO} (h : aN F H) (hp : H p = none) : Ext F H (upd F p o) (upd H p o) := by
 refine ⟨(aN.refl F).upd (h.free hp), (aN.refl H).upd hp, fun b u q => ?_, fun a ha n => ?_⟩
 ·by_cases e : b = p
  ·subst e
   rw [cu] at q ⊢;exact q
  ·rw [aG e] at q ⊢
   exact h b u q
 ·have e : a ≠ p := by
   rintro rfl;exact ha hp
  rw [aG e];exact n
end
structure Res (K : PySem.W.Frag) (F H : Hp) (v : V) (x : OD) (f : List Addr) : Prop where
 own : Own K F H v x f
 nd : f.Nodup
 fr : ∀ a ∈ f, F a = none
structure ResL (K : PySem.W.Frag) (F H : Hp) (v : List V) (x : List OD) (f : List Addr) : Prop where
 own : OwnL K F H v x f
 nd : f.Nodup
 fr : ∀ a ∈ f, F a = none
open Classical in
noncomputable def iC (F H : Hp) (f : List Addr) : Hp := fun a => if a ∈ f then H a else F a
theorem gJ {F H : Hp} {f : List Addr} {a : Addr} (h : a ∈ f) : iC F H f a = H a := by unfold iC; rw [if_pos h]
theorem ee {F H : Hp} {f : List Addr} {a : Addr} (h : a ∉ f) : iC F H f a = F a := by unfold iC; rw [if_neg h]
section
variable {K : PySem.W.Frag} {F H F' H' F1 H1 : Hp} {v : V} {x : OD} {f : List Addr} {vs : List V} {xs : List OD}
theorem dX (n : ∀ a ∈ f, F a = none) : aN F (iC F H f) := fun a o q => by
 rw [ee]
 ·exact q
 ·intro m
  rw [n a m] at q;cases q
theorem lq (h : aN F H) : aN (iC F H f) H := fun a o q => by
 by_cases m : a ∈ f
 ·rw [gJ m] at q
  exact q
 ·rw [ee m] at q
  exact h a o q
theorem Res.ext (r : Res K F H v x f) (e : Ext F H F' H') : Res K F' H' v x f :=
 ⟨r.own.mono e.ff fun a _ o q => e.hh a o q, r.nd, fun a m => e.nw a (let ⟨_, q⟩ := r.own.dom a m; cy q) (r.fr a m)⟩
theorem ResL.ext (r : ResL K F H vs xs f) (e : Ext F H F' H') : ResL K F' H' vs xs f :=
 ⟨r.own.mono e.ff fun a _ o q => e.hh a o q, r.nd, fun a m => e.nw a (let ⟨_, q⟩ := r.own.dom a m; cy q) (r.fr a m)⟩
theorem rC (e : Ext F H F1 H1) (n : ∀ a ∈ f, F1 a = none) (w : ∀ a ∈ f, H a = none) : Ext F H (iC F1 H1 f) H1 :=
 ⟨e.ff.trans (dX n), e.hh, lq e.fh, fun a h z => by
  have m : a ∉ f := fun m => h (w a m)
  rw [ee m];exact e.nw a h z⟩
theorem Res.frz (e : Ext F H F1 H1) (r : Res K F1 H1 v x f) (w : ∀ a ∈ f, H a = none) : ∃ G, Ext F H G H1 ∧ Rep K G v x.er :=
 ⟨iC F1 H1 f, rC e r.fr w, r.own.frz (dX r.fr) fun a m o q => by rw [gJ m]; exact q⟩
theorem ResL.frz (e : Ext F H F1 H1) (r : ResL K F1 H1 vs xs f) (w : ∀ a ∈ f, H a = none) : ∃ G, Ext F H G H1 ∧ RepAll K G vs (xs.map OD.er) :=
 ⟨iC F1 H1 f, rC e r.fr w, by rw [← k9]; exact r.own.frz (dX r.fr) fun a m o q => by rw [gJ m]; exact q⟩
theorem Res.sh {d : PyData} (r : Rep K F v d) : Res K F H v (.sh d) [] := ⟨.sh r, List.nodup_nil, fun _ m => by cases m⟩
theorem ResL.nil : ResL K F H [] [] [] := ⟨.nil, List.nodup_nil, fun _ m => by cases m⟩
theorem ResL.cons {f1 : List Addr} (r : Res K F H v x f1) (q : ResL K F H vs xs f) (d : ∀ a ∈ f1, a ∉ f) : ResL K F H (v :: vs) (x :: xs) (f1 ++ f) :=
 ⟨.cons r.own q.own, List.nodup_append.mpr ⟨r.nd, q.nd, fun a m b n e => d a m (e ▸ n)⟩, fun a m => (List.mem_append.mp m).elim (r.fr a) (q.fr a)⟩
end
inductive OwnS (K : PySem.W.Frag) (F H : Hp) : St → Env → List Addr → Prop
 | nil : OwnS K F H [] [] []
 | no {v : Option V} {σ : St} {ρ : Env} {g : List Addr} : OwnS K F H σ ρ g → OwnS K F H (v :: σ) (none :: ρ) g
 | yes {v : V} {x : OD} {f : List Addr} {σ : St} {ρ : Env} {g : List Addr} : Own K F H v x f → OwnS K F H σ ρ g → OwnS K F H (some v :: σ) (some x :: ρ) (f ++ g)
section
variable {K : PySem.W.Frag} {F H F' H' : Hp}
theorem OwnS.mono (e : aN F F') {σ : St} {ρ : Env} {g : List Addr} (k : ∀ a ∈ g, ∀ o, H a = some o → H' a = some o) (S : OwnS K F H σ ρ g) : OwnS K F' H' σ ρ g := by
 induction S with
 | nil => exact .nil
 | no r ih => exact .no (ih k)
 | yes h r ih => exact .yes (h.mono e fun a m => k a (List.mem_append_left _ m)) (ih fun a m => k a (List.mem_append_right _ m))
theorem OwnS.dom {σ : St} {ρ : Env} {g : List Addr} (S : OwnS K F H σ ρ g) : ∀ a ∈ g, ∃ o, H a = some o := by
 induction S with
 | nil => exact fun a m => by cases m
 | no r ih => exact ih
 | yes h r ih => exact fun a m => (List.mem_append.mp m).elim (h.dom a) (ih a)
theorem OwnS.at : ∀ {σ : St} {ρ : Env} {g : List Addr} {i : Nat} {x : OD}, OwnS K F H σ ρ g → ρ[i]? = some (some x) →
  ∃ v f g1 g2, σ[i]? = some (some v) ∧ Own K F H v x f ∧ g = g1 ++ (f ++ g2) ∧ ∀ (F' H' : Hp), aN F F' → (∀ a ∈ g1 ++ g2, ∀ o, H a = some o → H' a = some o) → ∀ v' x' f', Own K F' H' v' x' f' → OwnS K F' H' (σ.set i (some v')) (ρ.set i (some x')) (g1 ++ (f' ++ g2))
 | _, _, _, _, _, .nil, e => by simp at e
 | _, _, _, 0, x, .no r, e => by simp at e
 | _, _, _, i + 1, x, .no r, e => by
  obtain ⟨v, f, g1, g2, h1, h2, h3, h4⟩ := OwnS.at (i := i) r (by simpa using e)
  exact ⟨v, f, g1, g2, by simpa using h1, h2, h3, fun F' H' s k v' x' f' o => .no (h4 F' H' s k v' x' f' o)⟩
 | _, _, _, 0, x, .yes (f := f) (g := g) h r, e => by
  simp at e
  subst e;exact ⟨_, f, [], g, rfl, h, rfl, fun F' H' s k v' x' f' o => OwnS.yes (f := f') (g := g) o (r.mono s k)⟩
 | _, _, _, i + 1, x, .yes (f := f0) h r, e => by
  obtain ⟨v, f, g1, g2, h1, h2, h3, h4⟩ := OwnS.at (i := i) r (by simpa using e)
  refine ⟨v, f, f0 ++ g1, g2, by simpa using h1, h2, by rw [h3, List.append_assoc], fun F' H' s k v' x' f' o => ?_⟩
  rw [List.append_assoc];exact .yes (h.mono s fun a m => k a (List.mem_append_left _ (List.mem_append_left _ m))) (h4 F' H' s (fun a m => k a (by simp at m ⊢; rcases m with m | m <;> simp [m])) v' x' f' o)
theorem OwnS.put : ∀ {σ : St} {ρ : Env} {g : List Addr} {i : Nat}, OwnS K F H σ ρ g → i < ρ.length →
  ∃ f g1 g2, g = g1 ++ (f ++ g2) ∧ ∀ (F' H' : Hp), aN F F' → (∀ a ∈ g1 ++ g2, ∀ o, H a = some o → H' a = some o) → ∀ v' x' f', Own K F' H' v' x' f' → OwnS K F' H' (σ.set i (some v')) (ρ.set i (some x')) (g1 ++ (f' ++ g2))
 | _, _, _, _, .nil, e => by simp at e
 | _, _, g, 0, .no r, e => ⟨[], [], g, rfl, fun F' H' s k v' x' f' o => OwnS.yes (f := f') (g := g) o (r.mono s k)⟩
 | _, _, _, i + 1, .no r, e => by
  obtain ⟨f, g1, g2, h3, h4⟩ := OwnS.put (i := i) r (by simpa using e)
  exact ⟨f, g1, g2, h3, fun F' H' s k v' x' f' o => .no (h4 F' H' s k v' x' f' o)⟩
 | _, _, _, 0, .yes (f := f) (g := g) h r, e => ⟨f, [], g, rfl, fun F' H' s k v' x' f' o => OwnS.yes (f := f') (g := g) o (r.mono s k)⟩
 | _, _, _, i + 1, .yes (f := f0) h r, e => by
  obtain ⟨f, g1, g2, h3, h4⟩ := OwnS.put (i := i) r (by simpa using e)
  refine ⟨f, f0 ++ g1, g2, by rw [h3, List.append_assoc], fun F' H' s k v' x' f' o => ?_⟩
  rw [List.append_assoc];exact .yes (h.mono s fun a m => k a (List.mem_append_left _ (List.mem_append_left _ m))) (h4 F' H' s (fun a m => k a (by simp at m ⊢; rcases m with m | m <;> simp [m])) v' x' f' o)
theorem OwnS.erase (e : aN F H) {σ : St} {ρ : Env} {g : List Addr} (S : OwnS K F H σ ρ g) : OwnS K H H σ (L3.erase ρ) [] := by
 induction S with
 | nil => exact .nil
 | no r ih => exact .no ih
 | yes h r ih => exact .yes (f := []) (.sh (h.frz e fun _ _ _ q => q)) ih
theorem OwnS.len {σ : St} {ρ : Env} {g : List Addr} (S : OwnS K F H σ ρ g) : σ.length = ρ.length := by
 induction S with
 | nil => rfl
 | no r ih => exact congrArg (· + 1) ih
 | yes h r ih => exact congrArg (· + 1) ih
end
structure Stt (K : PySem.W.Frag) (n : Nat) (F H : Hp) (σ : St) (ρ : Env) (fp : List Addr) : Prop where
 same : aN F H
 own : OwnS K F H σ ρ fp
 nd : fp.Nodup
 fr : ∀ a ∈ fp, F a = none
 len : ρ.length = n
structure Stp (F H : Hp) (fp : List Addr) (F' H' : Hp) (fp' : List Addr) : Prop where
 ff : aN F F'
 keep : ∀ a o, H a = some o → a ∉ fp → H' a = some o
 new : ∀ a ∈ fp', a ∈ fp ∨ H a = none
 nw : ∀ a, H a ≠ none → a ∉ fp → F a = none → F' a = none
section
variable {K : PySem.W.Frag} {n : Nat} {F H F' H' F1 H1 F2 H2 : Hp} {σ : St} {ρ : Env} {fp fp1 fp2 : List Addr}
theorem Stt.ext (s : Stt K n F H σ ρ fp) (e : Ext F H F' H') : Stt K n F' H' σ ρ fp :=
 ⟨e.fh, s.own.mono e.ff fun a _ o q => e.hh a o q, s.nd, fun a m => e.nw a (let ⟨_, q⟩ := s.own.dom a m; cy q) (s.fr a m), s.len⟩
theorem Stt.erase (s : Stt K n F H σ ρ fp) : Stt K n H H σ (L3.erase ρ) [] :=
 ⟨aN.refl _, s.own.erase s.same, List.nodup_nil, (fun _ m => by cases m), (by unfold L3.erase; rw [List.length_map]; exact s.len)⟩
theorem Stp.refl : Stp F H fp F H fp := ⟨aN.refl _, fun _ _ h _ => h, fun _ m => .inl m, fun _ _ _ z => z⟩
theorem Ext.stp (e : Ext F H F' H') : Stp F H fp F' H' fp := ⟨e.ff, fun a o h _ => e.hh a o h, fun _ m => .inl m, fun a h _ z => e.nw a h z⟩
theorem Stp.out (s : Stp F H fp F1 H1 fp1) {a : Addr} (h : H a ≠ none) (m : a ∉ fp) : a ∉ fp1 := fun q => (s.new a q).elim m h
theorem Stp.trans (s : Stp F H fp F1 H1 fp1) (t : Stp F1 H1 fp1 F2 H2 fp2) : Stp F H fp F2 H2 fp2 where
 ff := s.ff.trans t.ff
 keep a o h m := t.keep a o (s.keep a o h m) (s.out (cy h) m)
 new a m := (t.new a m).elim (s.new a) fun z => by
  by_cases q : a ∈ fp
  ·exact .inl q
  ·refine .inr ?_
   cases w : H a with
   | none => rfl
   | some o =>
    rw [s.keep a o w q] at z;cases z
 nw a h m z := t.nw a (by
  cases w : H a with
  | none => exact absurd w h
  | some o => exact cy (s.keep a o w m)) (s.out h m) (s.nw a h m z)
theorem Stt.set (s : Stt K n F H σ ρ fp) {i : Nat} (hi : i < n) {v : V} {x : OD} {fx : List Addr} (r : Res K F H v x fx) (d : ∀ a ∈ fx, a ∉ fp) :
  ∃ fp', Stt K n F H (σ.set i (some v)) (ρ.set i (some x)) fp' ∧ ∀ a ∈ fp', a ∈ fp ∨ a ∈ fx := by
 obtain ⟨f, g1, g2, e, k⟩ := s.own.put (i := i) (by rw [s.len]; exact hi)
 subst e;have nd := s.nd;have sub : ∀ a ∈ g1 ++ (fx ++ g2), a ∈ g1 ++ (f ++ g2) ∨ a ∈ fx := fun a m => by
  simp only [List.mem_append] at m ⊢;rcases m with m | m | m
  ·exact .inl (.inl m)
  ·exact .inr m
  ·exact .inl (.inr (.inr m))
 refine ⟨g1 ++ (fx ++ g2), ⟨s.same, k F H (aN.refl _) (fun _ _ _ q => q) v x fx r.own, ?_, fun a m => (sub a m).elim (s.fr a) (r.fr a), by rw [List.length_set]; exact s.len⟩, sub⟩
 simp only [List.nodup_append, List.mem_append] at nd d ⊢;obtain ⟨n1, ⟨n2, n3, n4⟩, n5⟩ := nd;refine ⟨n1, ⟨r.nd, n3, fun a ha b hb e => d a ha (.inr (.inr (e ▸ hb)))⟩, fun a ha b hb e => ?_⟩
 rcases hb with hb | hb
 ·exact d b hb (.inl (e ▸ ha))
 ·exact n5 a ha b (.inr hb) e
end
end L3
namespace L3
open PySem L2
structure Mx where
 K : PySem.W.Frag
 mg : Str → Option Value
 E : XK
noncomputable def XOk (M : Mx) (c : Str) (H : Hp) (fp : List Addr) : Prop := ∃ cv, M.mg c = some cv ∧ ∀ od H', (∀ a o, H a = some o → a ∉ fp → H' a = some o) → M.E cv od H'
noncomputable def aA (M : Mx) (H : Hp) (fp : List Addr) {α : Type} (P : α → Prop) : R α → Prop
 | .ok a => P a
 | .ex c => XOk M c H fp
 | .bad => False
noncomputable def OkE (M : Mx) (F H : Hp) (Q : VK) (x : OD) : Prop := ∀ v F' H' fx, Ext F H F' H' → Res M.K F' H' v x fx → (∀ a ∈ fx, H a = none) → Q v H'
noncomputable def OkL (M : Mx) (F H : Hp) (Q : List V → Hp → Prop) (x : List OD) : Prop := ∀ v F' H' fx, Ext F H F' H' → ResL M.K F' H' v x fx → (∀ a ∈ fx, H a = none) → Q v H'
noncomputable def OkH (F H : Hp) {α : Type} (Q : α → Hp → Prop) (x : α) : Prop := ∀ F' H', Ext F H F' H' → Q x H'
section
variable {M : Mx} {F H F1 H1 F2 H2 : Hp} {fp fp1 : List Addr} {α β : Type} {P P' : α → Prop} {r : R α}
theorem aA.bind {P : β → Prop} {g : α → R β} (h : aA M H fp P (r.bind g)) : aA M H fp (fun a => aA M H fp P (g a)) r := by
 cases r with
 | ok a => exact h
 | ex c => exact h
 | bad => exact h
theorem aA.mono (h : aA M H fp P r) (k : ∀ a, P a → P' a) : aA M H fp P' r := by
 cases r with
 | ok a => exact k a h
 | ex c => exact h
 | bad => exact h
theorem XOk.stp (s : Stp F H fp F1 H1 fp1) {c : Str} (h : XOk M c H fp) : XOk M c H1 fp1 :=
 let ⟨cv, e, k⟩ := h
 ⟨cv, e, fun od H' q => k od H' fun a o z m => q a o (s.keep a o z m) (s.out (cy z) m)⟩
theorem aA.stp (s : Stp F H fp F1 H1 fp1) (h : aA M H fp P r) : aA M H1 fp1 P r := by
 cases r with
 | ok a => exact h
 | ex c => exact XOk.stp s h
 | bad => exact h
theorem aA.ext (e : Ext F H F1 H1) (h : aA M H fp P r) : aA M H1 fp P r := h.stp e.stp
theorem aA.nofp (h : aA M H fp P r) : aA M H [] P r := by
 cases r with
 | ok a => exact h
 | ex c =>
  obtain ⟨cv, e, k⟩ := h;exact ⟨cv, e, fun od H' q => k od H' fun a o z _ => q a o z (by simp)⟩
 | bad => exact h
theorem OkE.pre {Q : VK} {x : OD} (e : Ext F H F1 H1) (h : OkE M F H Q x) : OkE M F1 H1 Q x := fun v F' H' fx e' r w => h v F' H' fx (e.trans e') r fun a m => e.hh.free (w a m)
theorem OkH.pre {Q : α → Hp → Prop} {x : α} (e : Ext F H F1 H1) (h : OkH F H Q x) : OkH F1 H1 Q x := fun F' H' e' => h F' H' (e.trans e')
theorem OkE.val {Q : VK} {d : PyData} {v : V} (s : aN F H) (h : OkE M F H Q (.sh d)) (r : Rep M.K F v d) : Q v H := h v F H [] (Ext.refl s) (Res.sh r) fun _ m => by cases m
theorem OkE.lst {Q : VK} {xs : List OD} {vs : List V} {f : List Addr} {p : Addr} (s : aN F H) (h : OkE M F1 H1 Q (.ol xs)) (e : Ext F1 H1 F H) (r : ResL M.K F H vs xs f) (w : ∀ a ∈ f, H1 a = none) (hp : H p = none) : Q (.ref p) (upd H p (.lst vs)) := by
 have np : p ∉ f := fun m => by
  obtain ⟨o, q⟩ := r.own.dom p m;rw [hp] at q;cases q
 refine h (.ref p) F _ (p :: f) (e.trans (Ext.alloc s hp)) ⟨.ol cu (r.own.mono (aN.refl _) fun a m o q => ?_), List.nodup_cons.mpr ⟨np, r.nd⟩, fun a m => ?_⟩ fun a m => ?_
 ·rw [aG (aQ q hp)]
  exact q
 ·rcases List.mem_cons.mp m with rfl | m
  ·exact s.free hp
  ·exact r.fr a m
 ·rcases List.mem_cons.mp m with rfl | m
  ·exact e.hh.free hp
  ·exact w a m
theorem OkE.tup {Q : VK} {xs : List OD} {vs : List V} {f : List Addr} {p : Addr} (s : aN F H) (h : OkE M F1 H1 Q (.ot xs)) (e : Ext F1 H1 F H) (r : ResL M.K F H vs xs f) (w : ∀ a ∈ f, H1 a = none) (hp : H p = none) : Q (.ref p) (upd H p (.tup vs)) := by
 have np : p ∉ f := fun m => by
  obtain ⟨o, q⟩ := r.own.dom p m;rw [hp] at q;cases q
 refine h (.ref p) F _ (p :: f) (e.trans (Ext.alloc s hp)) ⟨.ot cu (r.own.mono (aN.refl _) fun a m o q => ?_), List.nodup_cons.mpr ⟨np, r.nd⟩, fun a m => ?_⟩ fun a m => ?_
 ·rw [aG (aQ q hp)]
  exact q
 ·rcases List.mem_cons.mp m with rfl | m
  ·exact s.free hp
  ·exact r.fr a m
 ·rcases List.mem_cons.mp m with rfl | m
  ·exact e.hh.free hp
  ·exact w a m
theorem OkE.lstD {Q : VK} {ds : List PyData} {vs : List V} {p : Addr} (s : aN F H) (h : OkE M F H Q (.ol (ds.map OD.sh))) (r : RepAll M.K F vs ds) (hp : H p = none) : Q (.ref p) (upd H p (.lst vs)) :=
 OkE.lst s h (Ext.refl s) ⟨OwnL.shs r, List.nodup_nil, fun _ m => by cases m⟩ (fun _ m => by cases m) hp
theorem OkE.tupF {Q : VK} {ds : List PyData} {vs : List V} {p : Addr} (s : aN F H) (h : OkE M F1 H1 Q (.sh (.tuple ds))) (e : Ext F1 H1 F H) (r : RepAll M.K F vs ds) (hp : H p = none) : Q (.ref p) (upd H p (.tup vs)) :=
 h (.ref p) (upd F p (.tup vs)) _ [] (e.trans (Ext.allocF s hp)) (Res.sh (.tup cu (r.same ((aN.refl F).upd (s.free hp))))) fun _ m => by cases m
theorem OwnL.of_shs {K : PySem.W.Frag} : ∀ {vs : List V} {xs : List OD} {f : List Addr} {ds : List PyData}, OwnL K F H vs xs f → L3.shs xs = some ds → f = [] ∧ RepAll K F vs ds
 | _, _, _, _, .nil, e => by
  unfold L3.shs at e;cases e;exact ⟨rfl, .nil⟩
 | _, _, _, _, .cons h0 r, e => by
  have ih := fun ds => OwnL.of_shs (ds := ds) r
  cases h0 with
  | sh h =>
   unfold L3.shs at e;split at e
   ·rename_i es q
    cases e;obtain ⟨rfl, k⟩ := ih _ q;exact ⟨rfl, .cons h k⟩
   ·cases e
  | ol _ _ =>
   unfold L3.shs at e;cases e
  | ot _ _ =>
   unfold L3.shs at e;cases e
  | od _ _ _ =>
   unfold L3.shs at e;cases e
end
noncomputable def tD (M : Mx) (n : Nat) (f : Fe) : TE := fun σ H Q => ∃ F ρ fp, Stt M.K n F H σ ρ fp ∧ aA M H fp (OkE M F H Q) (f ρ)
noncomputable def tA (M : Mx) (n : Nat) (f : Fa) : TA := fun σ H Q => ∃ F ρ fp, Stt M.K n F H σ ρ fp ∧ aA M H fp (OkL M F H Q) (f ρ)
noncomputable def tT (M : Mx) (n : Nat) (f : Ft) : TT := fun σ H Q => ∃ F ρ fp, Stt M.K n F H σ ρ fp ∧ aA M H fp (OkH F H Q) (f ρ)
noncomputable def tO (M : Mx) (n : Nat) (f : Fo) : TO := fun σ H Q => ∃ F ρ fp, Stt M.K n F H σ ρ fp ∧ aA M H fp (OkH F H Q) (f ρ)
noncomputable def Ok2 (M : Mx) (r : R2) (g : PyData → PyData → R OD) : Prop := ∀ (x y : V) (dx dy : PyData) (F H : Hp) (fp : List Addr) (Q : VK), aN F H → Rep M.K F x dx → Rep M.K F y dy → aA M H fp (OkE M F H Q) (g dx dy) → r x y H Q
noncomputable def Ok1 (M : Mx) (r : V → Hp → VK → Prop) (g : PyData → R OD) : Prop := ∀ (x : V) (dx : PyData) (F H : Hp) (fp : List Addr) (Q : VK), aN F H → Rep M.K F x dx → aA M H fp (OkE M F H Q) (g dx) → r x H Q
noncomputable def OkC (M : Mx) (r : List V → Hp → VK → Prop) (g : List PyData → R OD) : Prop := ∀ (x : List V) (dx : List PyData) (F H : Hp) (fp : List Addr) (Q : VK), aN F H → RepAll M.K F x dx → aA M H fp (OkE M F H Q) (g dx) → r x H Q
noncomputable def OkS (M : Mx) (r : V → Option Int → Option Int → Hp → VK → Prop) (g : PyData → Option Int → Option Int → R OD) : Prop := ∀ (x : V) (i j : Option Int) (dx : PyData) (F H : Hp) (fp : List Addr) (Q : VK), aN F H → Rep M.K F x dx → aA M H fp (OkE M F H Q) (g dx i j) → r x i j H Q
section
variable {M : Mx} {n : Nat} {σ : St} {H : Hp} {Q : VK} {QB : Bool → Hp → Prop} {fa fb : Fe} {ta tb : Ft}
theorem Df {i : Nat} (h : tD M n (ae i) σ H Q) : iE i σ H Q := by
 obtain ⟨F, ρ, fp, S, p⟩ := h;unfold ae at p;split at p
 ·rename_i d e
  obtain ⟨v, f, g1, g2, h1, h2, h3, h4⟩ := S.own.at e;cases h2 with
  | sh r => exact ⟨v, h1, OkE.val S.same p r⟩
 ·exact p.elim
theorem d_c {v : V} {d : PyData} (hr : ∀ K F, Rep K F v d) (h : tD M n (eC d) σ H Q) : tC v σ H Q := by
 obtain ⟨F, ρ, fp, S, p⟩ := h;exact OkE.val S.same p (hr _ _)
theorem yd {r : R2} {g : PyData → PyData → R OD} (hg : Ok2 M r g) (h : tD M n (eOp g fa fb) σ H Q) : tOp r (tD M n fa) (tD M n fb) σ H Q := by
 obtain ⟨F, ρ, fp, S, p⟩ := h;refine ⟨F, ρ, fp, S, (aA.bind p).mono fun x px v F1 H1 fx e1 r1 w1 => ?_⟩
 obtain ⟨G1, d1, k1⟩ := r1.frz e1 w1;refine ⟨G1, ρ, fp, S.ext d1, ((aA.bind px).ext d1).mono fun y py v2 F2 H2 fy e2 r2 w2 => ?_⟩
 obtain ⟨G2, d2, k2⟩ := r2.frz e2 w2;exact hg v v2 x.er y.er G2 H2 fp Q d2.fh (k1.same d2.ff) k2 ((py.ext (d1.trans d2)).mono fun z hz => hz.pre (d1.trans d2))
theorem FC {r : V → Hp → VK → Prop} {g : PyData → R OD} (hg : Ok1 M r g) (h : tD M n (eUn g fa) σ H Q) : tUn r (tD M n fa) σ H Q := by
 obtain ⟨F, ρ, fp, S, p⟩ := h;refine ⟨F, ρ, fp, S, (aA.bind p).mono fun x px v F1 H1 fx e1 r1 w1 => ?_⟩
 obtain ⟨G1, d1, k1⟩ := r1.frz e1 w1;exact hg v x.er G1 H1 fp Q d1.fh k1 ((px.ext d1).mono fun z hz => hz.pre d1)
theorem mh {K : PySem.W.Frag} {F : Hp} {v : V} {d : PyData} {fp : List Addr} {P : Bool → Prop} (k : Rep K F v d) (p : aA M H fp P (truth d)) : ∃ b, v = .bl b ∧ P b := by
 cases d with
 | bool b =>
  cases k;exact ⟨b, rfl, p⟩
 | none => exact p.elim
 | int _ => exact p.elim
 | str _ => exact p.elim
 | list _ => exact p.elim
 | tuple _ => exact p.elim
 | dict _ => exact p.elim
theorem wt (h : tT M n (br fa) σ H QB) : yP (tD M n fa) σ H QB := by
 obtain ⟨F, ρ, fp, S, p⟩ := h;refine ⟨F, ρ, fp, S, (aA.bind p).mono fun x px v F1 H1 fx e1 r1 w1 => ?_⟩
 obtain ⟨G1, d1, k1⟩ := r1.frz e1 w1;obtain ⟨b, rfl, q⟩ := mh k1 px;exact ⟨b, rfl, q G1 H1 d1⟩
theorem d_b (h : tT M n (br fa) σ H QB) : tB (tD M n fa) σ H QB := wt h
theorem Bx (h : tT M n (lz ta tb) σ H QB) : CJ (tT M n ta) (tT M n tb) σ H QB := by
 obtain ⟨F, ρ, fp, S, p⟩ := h;refine ⟨F, ρ, fp, S, (aA.bind p).mono fun c pc F1 H1 e1 => ?_⟩
 cases c with
 | true =>
  rw [if_pos rfl] at pc ⊢;exact ⟨F1, ρ, fp, S.ext e1, (pc.ext e1).mono fun b hb => hb.pre e1⟩
 | false =>
  rw [if_neg Bool.false_ne_true] at pc ⊢;exact pc F1 H1 e1
theorem C1 (h : tT M n (pV ta tb) σ H QB) : tOr (tT M n ta) (tT M n tb) σ H QB := by
 obtain ⟨F, ρ, fp, S, p⟩ := h;refine ⟨F, ρ, fp, S, (aA.bind p).mono fun c pc F1 H1 e1 => ?_⟩
 cases c with
 | true =>
  rw [if_pos rfl] at pc ⊢;exact pc F1 H1 e1
 | false =>
  rw [if_neg Bool.false_ne_true] at pc ⊢;exact ⟨F1, ρ, fp, S.ext e1, (pc.ext e1).mono fun b hb => hb.pre e1⟩
theorem AD (h : tT M n (lX ta) σ H QB) : B0 (tT M n ta) σ H QB := by
 obtain ⟨F, ρ, fp, S, p⟩ := h;exact ⟨F, ρ, fp, S, (aA.bind p).mono fun c pc F1 H1 e1 => pc F1 H1 e1⟩
theorem B5 (h : tD M n (vz fa fb) σ H Q) : yz (tD M n fa) (tD M n fb) σ H Q := by
 obtain ⟨F, ρ, fp, S, p⟩ := h;refine ⟨F, ρ, fp, S, (aA.bind p).mono fun x px v F1 H1 fx e1 r1 w1 => ?_⟩
 obtain ⟨G1, d1, k1⟩ := r1.frz e1 w1;obtain ⟨b, rfl, q⟩ := mh k1 (aA.bind px);refine ⟨b, rfl, ?_⟩;cases b with
 | true =>
  rw [if_pos rfl] at q ⊢;exact ⟨G1, ρ, fp, S.ext d1, (q.ext d1).mono fun z hz => hz.pre d1⟩
 | false =>
  rw [if_neg Bool.false_ne_true] at q ⊢;exact OkE.val d1.fh (OkE.pre d1 q) (.bl _)
theorem Dl (h : tD M n (wy fa) σ H Q) : yZ (tD M n fa) σ H Q := by
 obtain ⟨F, ρ, fp, S, p⟩ := h;refine ⟨F, ρ, fp, S, (aA.bind p).mono fun x px v F1 H1 fx e1 r1 w1 => ?_⟩
 obtain ⟨G1, d1, k1⟩ := r1.frz e1 w1;obtain ⟨b, rfl, q⟩ := mh k1 (aA.bind px);exact ⟨b, rfl, OkE.val d1.fh (OkE.pre d1 q) (.bl _)⟩
theorem mI (h : tD M n (eSh fa) σ H Q) : tD M n fa σ H Q := by
 obtain ⟨F, ρ, fp, S, p⟩ := h;refine ⟨F, ρ, fp, S, (aA.bind p).mono fun x px v F1 H1 fx e1 r1 w1 => ?_⟩
 obtain ⟨G1, d1, k1⟩ := r1.frz e1 w1;exact OkE.val d1.fh (OkE.pre d1 px) k1
theorem lC {K : PySem.W.Frag} {F G : Hp} {v : V} {d : PyData} (h : flat d = true) (r : Rep K F v d) : Rep K G v d := by
 cases r with
 | non => exact .non
 | bl b => exact .bl b
 | int i => exact .int i
 | str x => exact .str x
 | lst _ _ => cases h
 | tup _ _ => cases h
 | dct _ _ _ => cases h
theorem CM (h : tD M n (mH fa) σ H Q) : tD M n fa σ H Q := by
 obtain ⟨F, ρ, fp, S, p⟩ := h;refine ⟨H, erase ρ, [], S.erase, (aA.bind p).nofp.mono fun x px v F1 H1 fx e1 r1 w1 => ?_⟩
 by_cases hf : flat x.er = true
 ·rw [if_pos hf] at px
  obtain ⟨G1, d1, k1⟩ := r1.frz e1 w1;exact px v F H1 [] ⟨aN.refl _, d1.hh, S.same.trans d1.hh, fun _ _ z => z⟩ (Res.sh (lC hf k1)) fun _ m => by cases m
 ·rw [if_neg hf] at px
  exact px.elim
theorem zX (h : tT M n (oj ta) σ H QB) : tT M n ta σ H QB := by
 obtain ⟨F, ρ, fp, S, p⟩ := h;refine ⟨H, erase ρ, [], S.erase, (show aA M H fp _ (ta (erase ρ)) from p).nofp.mono fun b pb F1 H1 e1 => ?_⟩
 exact pb F H1 ⟨aN.refl _, e1.hh, S.same.trans e1.hh, fun _ _ z => z⟩
variable {QL : List V → Hp → Prop} {al : Fa}
theorem Bl (h : tA M n az σ H QL) : qt σ H QL := by
 obtain ⟨F, ρ, fp, S, p⟩ := h;exact p [] F H [] (Ext.refl S.same) ResL.nil fun _ m => by cases m
theorem wY (h : tA M n (ah fa al) σ H QL) : kL (tD M n fa) (tA M n al) σ H QL := by
 obtain ⟨F, ρ, fp, S, p⟩ := h;refine ⟨F, ρ, fp, S, (aA.bind p).mono fun x px v F1 H1 fx e1 r1 w1 => ?_⟩
 refine ⟨F1, ρ, fp, S.ext e1, ((aA.bind px).ext e1).mono fun xs pxs vs F2 H2 fxs e2 r2 w2 => ?_⟩
 refine pxs (v :: vs) F2 H2 (fx ++ fxs) (e1.trans e2) (ResL.cons (r1.ext e2) r2 fun a m q => ?_) fun a m => ?_
 ·obtain ⟨o, z⟩ := r1.own.dom a m
  rw [w2 a q] at z;cases z
 ·rcases List.mem_append.mp m with m | m
  ·exact w1 a m
  ·exact e1.hh.free (w2 a m)
theorem iJ {k : Nat} (h : k ≤ BIG) : k ≤ sizeLine := Nat.le_trans h (by decide)
theorem ow {k : Nat} (h : k < BIG) : k < sizeLine := Nat.lt_of_lt_of_le h (by decide)
theorem CW (h : tD M n (eR al) σ H Q) : D2 (tA M n al) σ H Q := by
 obtain ⟨F, ρ, fp, S, p⟩ := h;refine ⟨F, ρ, fp, S, (aA.bind p).mono fun xs px vs F1 H1 fx e1 r1 w1 => ?_⟩
 by_cases hl : xs.length ≤ BIG
 ·rw [if_pos hl] at px
  exact ⟨by rw [r1.own.len]; exact iJ hl, fun a ha => OkE.lst e1.fh px e1 r1 w1 ha⟩
 ·rw [if_neg hl] at px
  exact px.elim
theorem Ds (h : tD M n (iz al) σ H Q) : D4 (tA M n al) σ H Q := by
 obtain ⟨F, ρ, fp, S, p⟩ := h;refine ⟨F, ρ, fp, S, (aA.bind p).mono fun xs px vs F1 H1 fx e1 r1 w1 => ?_⟩
 by_cases hl : xs.length ≤ BIG
 ·rw [if_pos hl] at px
  refine ⟨by rw [r1.own.len]; exact iJ hl, fun a ha => ?_⟩
  unfold mkT at px;split at px
  ·rename_i ds q
   obtain ⟨_, k⟩ := OwnL.of_shs r1.own q;exact OkE.tupF e1.fh px e1 k ha
  ·exact OkE.tup e1.fh px e1 r1 w1 ha
 ·rw [if_neg hl] at px
  exact px.elim
noncomputable def sp3 (K : PySem.W.Frag) (mg : Str → Option Value) (f : Fn) : Sp := fun vs H Q E => ∃ F ds, aN F H ∧ RepAll K F vs ds ∧ aA ⟨K, mg, E⟩ H [] (OkE ⟨K, mg, E⟩ F H Q) (f ds)
theorem A6 {f : Fn} (h : tD M n (bt f al) σ H Q) : yL (sp3 M.K M.mg f) [] M.E (tA M n al) σ H Q := by
 obtain ⟨F, ρ, fp, S, p⟩ := h;refine ⟨F, ρ, fp, S, (aA.bind p).mono fun xs px vs F1 H1 fx e1 r1 w1 => ?_⟩
 obtain ⟨G1, d1, k1⟩ := r1.frz e1 w1;rw [List.append_nil];exact ⟨G1, xs.map OD.er, d1.fh, k1, (px.ext d1).nofp.mono fun z hz => hz.pre d1⟩
theorem CK {r : List V → Hp → VK → Prop} {g : List PyData → R OD} (hg : OkC M r g) (h : tD M n (eB g al) σ H Q) : tCB r (tA M n al) σ H Q := by
 obtain ⟨F, ρ, fp, S, p⟩ := h;refine ⟨F, ρ, fp, S, (aA.bind p).mono fun xs px vs F1 H1 fx e1 r1 w1 => ?_⟩
 obtain ⟨G1, d1, k1⟩ := r1.frz e1 w1;exact hg vs (xs.map OD.er) G1 H1 fp Q d1.fh k1 ((px.ext d1).mono fun z hz => hz.pre d1)
variable {QO : Option Int → Hp → Prop} {lo hi : Fo}
theorem xM (h : tO M n iF σ H QO) : rO σ H QO := by
 obtain ⟨F, ρ, fp, S, p⟩ := h;exact p F H (Ext.refl S.same)
theorem wW (h : tO M n (iy fa) σ H QO) : yu (tD M n fa) σ H QO := by
 obtain ⟨F, ρ, fp, S, p⟩ := h;refine ⟨F, ρ, fp, S, (aA.bind p).mono fun x px v F1 H1 fx e1 r1 w1 => ?_⟩
 obtain ⟨G1, d1, k1⟩ := r1.frz e1 w1;generalize x.er = d at px k1
 cases d with
 | int i =>
  cases k1;exact ⟨i, rfl, px G1 H1 d1⟩
 | none => exact px.elim
 | bool _ => exact px.elim
 | str _ => exact px.elim
 | list _ => exact px.elim
 | tuple _ => exact px.elim
 | dict _ => exact px.elim
theorem EO {r : V → Option Int → Option Int → Hp → VK → Prop} {g : PyData → Option Int → Option Int → R OD} (hg : OkS M r g) (h : tD M n (eSl g fa lo hi) σ H Q) : tSl r (tD M n fa) (tO M n lo) (tO M n hi) σ H Q := by
 obtain ⟨F, ρ, fp, S, p⟩ := h;refine ⟨F, ρ, fp, S, (aA.bind p).mono fun x px v F1 H1 fx e1 r1 w1 => ?_⟩
 obtain ⟨G1, d1, k1⟩ := r1.frz e1 w1;refine ⟨G1, ρ, fp, S.ext d1, ((aA.bind px).ext d1).mono fun i pi F2 H2 e2 => ?_⟩
 refine ⟨F2, ρ, fp, (S.ext d1).ext e2, ((aA.bind pi).ext (d1.trans e2)).mono fun j pj F3 H3 e3 => ?_⟩
 have e := (d1.trans e2).trans e3;exact hg v i j x.er F3 H3 fp Q e3.fh ((k1.same e2.ff).same e3.ff) ((pj.ext e).mono fun z hz => hz.pre e)
end
end L3
namespace L3
open PySem L2
noncomputable def fU (M : Mx) (n : Nat) (F H : Hp) (fp : List Addr) (D : Ends) : Out → Prop
 | .nx ρ => ∀ σ' F' H' fp', Stt M.K n F' H' σ' ρ fp' → Stp F H fp F' H' fp' → D.nx σ' H'
 | .bk ρ => ∀ σ' F' H' fp', Stt M.K n F' H' σ' ρ fp' → Stp F H fp F' H' fp' → D.bk σ' H'
 | .ct ρ => ∀ σ' F' H' fp', Stt M.K n F' H' σ' ρ fp' → Stp F H fp F' H' fp' → D.ct σ' H'
 | .rt x => ∀ v F' H' fx, aN F' H' → Res M.K F' H' v x fx → Stp F H fp F' H' fx → D.rt v H'
noncomputable def tS (M : Mx) (n : Nat) (f : Fs) : TS := fun D σ H => ∃ F ρ fp, Stt M.K n F H σ ρ fp ∧ aA M H fp (fU M n F H fp D) (f ρ)
noncomputable def OkG (M : Mx) (n : Nat) (is : List Nat) (F H : Hp) (fp : List Addr) (σ : St) (Q : St → Hp → Prop) (ρ : Env) : Prop :=
 ∀ σ' F' H' fp', Stt M.K n F' H' σ' ρ fp' → Stp F H fp F' H' fp' → (∀ j, j ∉ is → σ'[j]? = σ[j]?) → Q σ' H'
noncomputable def tG (M : Mx) (n : Nat) (is : List Nat) (f : Fg) : TG := fun v σ H Q => ∃ F ρ fp x fx, Stt M.K n F H σ ρ fp ∧ Res M.K F H v x fx ∧ (∀ a ∈ fx, a ∉ fp) ∧ aA M H (fp ++ fx) (OkG M n is F H (fp ++ fx) σ Q) (f x ρ)
noncomputable def tGs (M : Mx) (n : Nat) (is : List Nat) (f : Fgs) : TGs := fun vs σ H Q => ∃ F ρ fp xs fx, Stt M.K n F H σ ρ fp ∧ ResL M.K F H vs xs fx ∧ (∀ a ∈ fx, a ∉ fp) ∧ aA M H (fp ++ fx) (OkG M n is F H (fp ++ fx) σ Q) (f xs ρ)
section
variable {M : Mx} {n : Nat} {F H F1 H1 F2 H2 : Hp} {fp fp1 fp2 : List Addr} {σ : St} {ρ : Env} {D : Ends}
theorem fU.stp (s : Stp F H fp F1 H1 fp1) {o : Out} (h : fU M n F H fp D o) : fU M n F1 H1 fp1 D o := by
 cases o with
 | nx ρ => exact fun σ' F' H' fp' a b => h σ' F' H' fp' a (s.trans b)
 | bk ρ => exact fun σ' F' H' fp' a b => h σ' F' H' fp' a (s.trans b)
 | ct ρ => exact fun σ' F' H' fp' a b => h σ' F' H' fp' a (s.trans b)
 | rt x => exact fun v F' H' fx a b c => h v F' H' fx a b (s.trans c)
theorem PostS.stp (s : Stp F H fp F1 H1 fp1) {r : R Out} (h : aA M H fp (fU M n F H fp D) r) : aA M H1 fp1 (fU M n F1 H1 fp1 D) r := (h.stp s).mono fun o ho => ho.stp s
theorem Ext.stpN {fx : List Addr} (e : Ext F H F1 H1) (w : ∀ a ∈ fx, H a = none) : Stp F H fp F1 H1 (fp ++ fx) :=
 ⟨e.ff, fun a o h _ => e.hh a o h, fun a m => (List.mem_append.mp m).elim .inl fun m => .inr (w a m), fun a h _ z => e.nw a h z⟩
theorem Stp.sub (s : Stp F H fp F1 H1 fp1) (h : ∀ a ∈ fp2, a ∈ fp1) : Stp F H fp F1 H1 fp2 := ⟨s.ff, s.keep, fun a m => s.new a (h a m), s.nw⟩
theorem As (h : tS M n sNx D σ H) : yY D σ H := by
 obtain ⟨F, ρ, fp, S, p⟩ := h;exact p σ F H fp S Stp.refl
theorem B6 {f g : Fs} (h : tS M n (aE f g) D σ H) : Du (tS M n f) (tS M n g) D σ H := by
 obtain ⟨F, ρ, fp, S, p⟩ := h;refine ⟨F, ρ, fp, S, (aA.bind p).mono fun o po => ?_⟩
 cases o with
 | nx ρ1 => exact fun σ' F' H' fp' S' st => ⟨F', ρ1, fp', S', PostS.stp st po⟩
 | bk ρ => exact po
 | ct ρ => exact po
 | rt x => exact po
theorem C6 (h : tS M n zN D σ H) : vm D σ H := by
 obtain ⟨F, ρ, fp, S, p⟩ := h;exact p
theorem ET (h : tS M n sCt D σ H) : yT D σ H := by
 obtain ⟨F, ρ, fp, S, p⟩ := h;exact p σ F H fp S Stp.refl
theorem E8 {t : Ft} {f g : Fs} (h : tS M n (sIf t f g) D σ H) : Ee (tT M n t) (tS M n f) (tS M n g) D σ H := by
 obtain ⟨F, ρ, fp, S, p⟩ := h;refine ⟨F, ρ, fp, S, (aA.bind p).mono fun c pc F1 H1 e1 => ?_⟩
 cases c with
 | true =>
  rw [if_pos rfl] at pc ⊢;exact ⟨F1, ρ, fp, S.ext e1, PostS.stp e1.stp pc⟩
 | false =>
  rw [if_neg Bool.false_ne_true] at pc ⊢;exact ⟨F1, ρ, fp, S.ext e1, PostS.stp e1.stp pc⟩
theorem z7 {a : Fe} (h : tS M n (rY a) D σ H) : nt (tD M n a) D σ H := by
 obtain ⟨F, ρ, fp, S, p⟩ := h;exact ⟨F, ρ, fp, S, (aA.bind p).mono fun x px v F1 H1 fx e1 r1 w1 => px σ F1 H1 fp (S.ext e1) e1.stp⟩
theorem CO {a : Fe} (h : tS M n (e_ a) D σ H) : zZ (tD M n a) D σ H := by
 obtain ⟨F, ρ, fp, S, p⟩ := h;exact ⟨F, ρ, fp, S, (aA.bind p).mono fun x px v F1 H1 fx e1 r1 w1 => px v F1 H1 fx e1.fh r1 ((e1.stpN w1).sub fun a m => List.mem_append_right _ m)⟩
theorem zV {i : Nat} (h : tS M n (fm i) D σ H) : zZ (iE i) D σ H := by
 obtain ⟨F, ρ, fp, S, p⟩ := h;unfold fm at p;split at p
 ·rename_i x e
  obtain ⟨v, f, g1, g2, h1, h2, rfl, h4⟩ := S.own.at e;have sub : ∀ a ∈ f, a ∈ g1 ++ (f ++ g2) := fun a m => List.mem_append_right _ (List.mem_append_left _ m)
  refine ⟨v, h1, p v F H f S.same ⟨h2, ?_, fun a m => S.fr a (sub a m)⟩ (Stp.refl.sub sub)⟩
  have nd := S.nd;simp only [List.nodup_append] at nd;exact nd.2.1.1
 ·exact p.elim
theorem yU {a : Fe} {is : List Nat} {g : Fg} (h : tS M n (sX a g) D σ H) : oN (tD M n a) (tG M n is g) D σ H := by
 obtain ⟨F, ρ, fp, S, p⟩ := h;refine ⟨F, ρ, fp, S, (aA.bind p).mono fun x px v F1 H1 fx e1 r1 w1 => ?_⟩
 have st := e1.stpN (fp := fp) w1;refine ⟨F1, ρ, fp, x, fx, S.ext e1, r1, fun a m q => ?_, ((aA.bind px).stp st).mono fun ρ' hρ σ' F' H' fp' S' s' _ => hρ σ' F' H' fp' S' (st.trans s')⟩
 obtain ⟨o, z⟩ := S.own.dom a q;rw [w1 a m] at z;cases z
theorem uO {i : Nat} (hi : i < n) {v : V} {Q : St → Hp → Prop} (h : tG M n [i] (gNm i) v σ H Q) : jS i v σ H Q := by
 obtain ⟨F, ρ, fp, x, fx, S, r, d, p⟩ := h;obtain ⟨fp', S', sub⟩ := S.set hi r d;refine p _ F H fp' S' ⟨aN.refl _, fun _ _ h _ => h, fun a m => .inl (List.mem_append.mpr (sub a m)), fun _ _ _ z => z⟩ fun j hj => ?_
 have hne : i ≠ j := by
  rintro rfl;exact hj (by simp)
 rw [List.getElem?_set_ne hne]
theorem DZ {vs : List V} {Q : St → Hp → Prop} (h : tGs M n [] gE vs σ H Q) : D_ vs σ H Q := by
 obtain ⟨F, ρ, fp, xs, fx, S, r, d, p⟩ := h;cases xs with
 | nil =>
  cases r.own with
  | nil => exact ⟨rfl, p σ F H fp S (Stp.refl.sub fun a m => List.mem_append_left _ m) fun _ _ => rfl⟩
 | cons x xs => exact p.elim
theorem AB {vs : List V} {is js : List Nat} {g : Fg} {gs : Fgs} {Q : St → Hp → Prop} (h : tGs M n (is ++ js) (bD g gs) vs σ H Q) : yW (tG M n is g) (tGs M n js gs) vs σ H Q := by
 obtain ⟨F, ρ, fp, xs, fx, S, r, d, p⟩ := h;cases xs with
 | nil => exact p.elim
 | cons x xs =>
  obtain ⟨ro, rn, rf⟩ := r;cases ro with
  | @cons v _ f vs _ g' h1 h2 =>
   have nd := rn;simp only [List.nodup_append] at nd;refine ⟨v, vs, rfl, F, ρ, fp, x, f, S, ⟨h1, nd.1, fun a m => rf a (List.mem_append_left _ m)⟩, fun a m => d a (List.mem_append_left _ m), ?_⟩
   have p' : aA M H (fp ++ (f ++ g')) _ ((g x ρ).bind fun ρ' => gs xs ρ') := p
   have s0 : Stp F H (fp ++ (f ++ g')) F H (fp ++ f) := Stp.refl.sub fun a m => by
    simp only [List.mem_append] at m ⊢;rcases m with m | m
    ·exact .inl m
    ·exact .inr (.inl m)
   refine ((aA.bind p').stp s0).mono fun ρ1 p1 σ1 F1 H1 fp1 S1 s1 t1 => ?_
   have gd : ∀ a ∈ g', a ∉ fp ++ f := fun a m q => by
    rcases List.mem_append.mp q with q | q
    ·exact d a (List.mem_append_right _ m) q
    ·exact nd.2.2 a q a m rfl
   have hd : ∀ a ∈ g', H a ≠ none := fun a m => let ⟨_, q⟩ := h2.dom a m; cy q
   have k1 : ∀ a ∈ g', ∀ o, H a = some o → H1 a = some o := fun a m o q => s1.keep a o q (gd a m)
   have out : ∀ a ∈ g', a ∉ fp1 := fun a m => s1.out (hd a m) (gd a m)
   have s2 : Stp F H (fp ++ (f ++ g')) F1 H1 (fp1 ++ g') := ⟨s1.ff, fun a o q m => s1.keep a o q (fun z => m (by simp only [List.mem_append] at z ⊢; rcases z with z | z <;> simp [z])), fun a m => by
    rcases List.mem_append.mp m with m | m
    ·rcases s1.new a m with z | z
     ·exact .inl (by simp only [List.mem_append] at z ⊢; rcases z with z | z <;> simp [z])
     ·exact .inr z
    ·exact .inl (by simp [m]), fun a q m z => s1.nw a q (fun w => m (by simp only [List.mem_append] at w ⊢; rcases w with w | w <;> simp [w])) z⟩
   refine ⟨F1, ρ1, fp1, xs, g', S1, ⟨h2.mono s1.ff k1, nd.2.1, fun a m => s1.nw a (hd a m) (gd a m) (rf a (List.mem_append_right _ m))⟩, out, (p1.stp s2).mono fun ρ' hρ σ' F' H' fp' S' s' t' => hρ σ' F' H' fp' S' (s2.trans s') fun j hj => ?_⟩
   have hj1 : j ∉ is := fun z => hj (List.mem_append_left _ z)
   have hj2 : j ∉ js := fun z => hj (List.mem_append_right _ z)
   rw [t' j hj2, t1 j hj1]
theorem D1 {k : Nat} {v : V} {is : List Nat} {gs : Fgs} {Q : St → Hp → Prop} (h : tG M n is (gTp k gs) v σ H Q) : Di M.K k (tGs M n is gs) v σ H Q := by
 obtain ⟨F, ρ, fp, x, fx, S, r, d, p⟩ := h;unfold gTp at p;split at p
 ·rename_i xs
  obtain ⟨ro, rn, rf⟩ := r;cases ro with
  | @ot a vs _ f h1 h2 =>
   by_cases hl : xs.length = k
   ·rw [if_pos hl] at p
    have nd := List.nodup_cons.mp rn;have s0 : Stp F H (fp ++ (a :: f)) F H (fp ++ f) := Stp.refl.sub fun b m => by
     simp only [List.mem_append, List.mem_cons] at m ⊢;rcases m with m | m <;> simp [m]
    exact ⟨a, vs, rfl, SqT.of h1, by rw [h2.len]; exact hl, F, ρ, fp, xs, f, S, ⟨h2, nd.2, fun b m => rf b (List.mem_cons_of_mem _ m)⟩, fun b m => d b (List.mem_cons_of_mem _ m), (p.stp s0).mono fun ρ' hρ σ' F' H' fp' S' s' t' => hρ σ' F' H' fp' S' (s0.trans s') t'⟩
   ·rw [if_neg hl] at p
    exact p.elim
 ·rename_i ds
  obtain ⟨ro, rn, rf⟩ := r;cases ro with
  | sh q =>
   by_cases hl : ds.length = k
   ·rw [if_pos hl] at p
    cases q with
    | @tup a vs _ h1 h2 =>
     exact ⟨a, vs, rfl, SqT.of (S.same _ _ h1), by rw [RepAll.len h2]; exact hl, F, ρ, fp, ds.map OD.sh, [], S, ⟨OwnL.shs h2, List.nodup_nil, fun _ m => by cases m⟩, (fun _ m => by cases m), p⟩
   ·rw [if_neg hl] at p
    exact p.elim
 ·exact p.elim
theorem r_ {a : Fe} {i : Nat} (hi : i < n) (h : tS M n (aJ i a) D σ H) : oN (tD M n a) (jS i) D σ H := by
 have h' : tS M n (sX a (gNm i)) D σ H := h;obtain ⟨F, ρ, fp, S, p⟩ := yU (is := [i]) h';exact ⟨F, ρ, fp, S, p.mono fun x px v F1 H1 fx e1 r1 w1 => uO hi (px v F1 H1 fx e1 r1 w1)⟩
theorem Dv {f : Fs} {i : Nat} (h : tS M n (mU i f) D σ H) : tS M n f D σ H := by
 obtain ⟨F, ρ, fp, S, p⟩ := h;unfold mU wC at p;split at p
 ·rename_i x e
  obtain ⟨v, f, g1, g2, h1, h2, rfl, h4⟩ := S.own.at e;have ff : ∀ a ∈ f, F a = none := fun a m => S.fr a (List.mem_append_right _ (List.mem_append_left _ m))
  have o := h4 (iC F H f) H (dX ff) (fun _ _ _ q => q) v (.sh x.er) [] (.sh (h2.frz (dX ff) fun a m o q => by rw [gJ m]; exact q))
  have hs : σ.set i (some v) = σ := by
   apply List.ext_getElem?
   intro j;by_cases hj : i = j
   ·subst hj
    rw [h1, List.getElem?_set_self (List.getElem?_eq_some_iff.mp h1).1]
   ·rw [List.getElem?_set_ne hj]
  rw [hs] at o;have nd := S.nd;simp only [List.nodup_append, List.mem_append] at nd;obtain ⟨n1, ⟨n2, n3, n4⟩, n5⟩ := nd;have sub : ∀ a ∈ g1 ++ ([] ++ g2), a ∈ g1 ++ (f ++ g2) ∧ a ∉ f := fun a m => by
   simp only [List.nil_append, List.mem_append] at m ⊢;rcases m with m | m
   ·exact ⟨.inl m, fun z => n5 a m a (.inl z) rfl⟩
   ·exact ⟨.inr (.inr m), fun z => n4 a z a m rfl⟩
  have st : Stp F H (g1 ++ (f ++ g2)) (iC F H f) H (g1 ++ ([] ++ g2)) := ⟨dX ff, fun _ _ h _ => h, fun a m => .inl (sub a m).1, fun a h m z => by
   rw [ee fun w => m (List.mem_append_right _ (List.mem_append_left _ w))]
   exact z⟩
  refine ⟨iC F H f, _, _, ⟨lq S.same, o, ?_, fun a m => ?_, by rw [List.length_set]; exact S.len⟩, PostS.stp st p⟩
  ·simp only [List.nil_append, List.nodup_append]
   exact ⟨n1, n3, fun a ha b hb => n5 a ha b (.inr hb)⟩
  ·rw [ee (sub a m).2]
   exact S.fr a (sub a m).1
 ·exact ⟨F, ρ, fp, S, p⟩
end
noncomputable def Walks (K : PySem.W.Frag) (F : Hp) (J : It) (ds : List PyData) : Prop := ∀ i G H, aN F G → aN G H →
 (∀ d, ds[i]? = some d → J.go i H ∧ ∀ x H', J.yld i H x H' → ∃ G', Ext G H G' H' ∧ Rep K G' x d) ∧ (ds.length ≤ i → J.stop i H)
noncomputable def OkI (K : PySem.W.Frag) (F H : Hp) (R : It → Hp → Prop) (ds : List PyData) : Prop := ∀ J F' H', Ext F H F' H' → Walks K F' J ds → R J H'
noncomputable def tI (M : Mx) (n : Nat) (f : Fi) : TI := fun σ H R => ∃ F ρ fp, Stt M.K n F H σ ρ fp ∧ aA M H fp (OkI M.K F H R) (f ρ)
section
variable {M : Mx} {n : Nat} {F H : Hp} {σ : St} {D : Ends} {R' : It → Hp → Prop}
theorem Au {a : Fe} (h : tI M n (fZ a) σ H R') : pZ M.K (tD M n a) σ H R' := by
 obtain ⟨F, ρ, fp, S, p⟩ := h;refine ⟨F, ρ, fp, S, (aA.bind p).mono fun x px v F1 H1 fx e1 r1 w1 => ?_⟩
 obtain ⟨G1, d1, k1⟩ := r1.frz e1 w1;generalize x.er = d at px k1
 cases k1 with
 | @lst a vs ds h1 h2 =>
  refine ⟨a, rfl, ⟨vs, (h1.same d1.fh).sq⟩, px _ G1 H1 d1 fun i G H' s1 s2 => ?_⟩
  have hq := (h1.same (s1.trans s2)).sq;refine ⟨fun d hd => ?_, fun hl => ⟨vs, hq, by rw [RepAll.len h2]; exact hl⟩⟩
  obtain ⟨u, hu, ru⟩ := RepAll.get h2 hd;refine ⟨⟨vs, u, hq, hu⟩, fun x H2 y => ?_⟩
  obtain ⟨rfl, y⟩ := y;have hx := y vs hq;rw [hu] at hx;cases hx;exact ⟨G, Ext.refl s2, ru.same s1⟩
 | non => exact px.elim
 | bl _ => exact px.elim
 | int _ => exact px.elim
 | str _ => exact px.elim
 | dct _ _ _ => exact px.elim
 | tup _ _ => exact px.elim
theorem mr {K : PySem.W.Frag} (lo : Int) (k : Nat) : Walks K F (Itr lo k) (ik lo k) := by
 intro i G H s1 s2;unfold ik;refine ⟨fun d hd => ?_, fun hl => (show k ≤ i by simpa using hl)⟩
 rw [List.getElem?_map] at hd;obtain ⟨j, hj, rfl⟩ := Option.map_eq_some_iff.mp hd;obtain ⟨h1, h2⟩ := List.getElem?_eq_some_iff.mp hj;have h3 : i = j := by simpa using h2
 subst h3;refine ⟨(show i < k by simpa using h1), fun x H' y => ?_⟩
 obtain ⟨rfl, rfl⟩ := y;exact ⟨G, Ext.refl s2, .int _⟩
theorem eL {i : Int} : aB i = true ↔ -(2 ^ 62) ≤ i ∧ i < 2 ^ 62 := by
 unfold aB;rw [Bool.and_eq_true, decide_eq_true_eq, decide_eq_true_eq]
theorem Fv {a : Fe} (h : tI M n (iR1 a) σ H R') : yy (tA M n (ah a az)) σ H R' := by
 obtain ⟨F, ρ, fp, S, p⟩ := h;refine ⟨F, ρ, fp, S, ?_⟩;have p1 := aA.bind p;show aA M H fp _ ((a ρ).bind fun x => R.ok [x])
 cases ha : a ρ with
 | bad => rw [ha] at p1; exact p1
 | ex c => rw [ha] at p1; exact p1
 | ok x =>
  rw [ha] at p1;intro vs F1 H1 fx e1 r1 w1;obtain ⟨G1, d1, k1⟩ := r1.frz e1 w1;cases k1 with
  | @cons v _ _ _ k1 k2 =>
   cases k2;have p2 : aA M H fp (OkI M.K F H R') (match x.er with | .int j => if aB j = true then .ok (ik 0 j.toNat) else .bad | _ => .bad) := p1
   generalize x.er = d at p2 k1
   cases k1 with
   | int j =>
    by_cases hs : aB j = true
    ·have hs' := eL.mp hs
     have p3 : aA M H fp (OkI M.K F H R') (if aB j = true then .ok (ik 0 j.toNat) else .bad) := p2
     rw [if_pos hs] at p3;exact ⟨j, rfl, hs'.1, hs'.2, p3 _ G1 H1 d1 (mr _ _)⟩
    ·have p3 : aA M H fp (OkI M.K F H R') (if aB j = true then .ok (ik 0 j.toNat) else .bad) := p2
     rw [if_neg hs] at p3;exact p3.elim
   | non => exact p2.elim
   | bl _ => exact p2.elim
   | str _ => exact p2.elim
   | dct _ _ _ => exact p2.elim
   | lst _ _ => exact p2.elim
   | tup _ _ => exact p2.elim
theorem oP {a b : Fe} {g : PyData → PyData → R (List PyData)} {ρ : Env} {fp : List Addr} {QL : List V → Hp → Prop}
  (p : aA M H fp (OkI M.K F H R') ((a ρ).bind fun x => (b ρ).bind fun y => g x.er y.er))
  (k : ∀ v w dx dy G H1, Ext F H G H1 → Rep M.K G v dx → Rep M.K G w dy → aA M H fp (OkI M.K F H R') (g dx dy) → QL [v, w] H1) :
  aA M H fp (OkL M F H QL) (ah a (ah b az) ρ) := by
 show aA M H fp _ ((a ρ).bind fun x => ((b ρ).bind fun y => R.ok [y]).bind fun xs => R.ok (x :: xs))
 have p1 := aA.bind p;cases ha : a ρ with
 | bad => rw [ha] at p1; exact p1
 | ex c => rw [ha] at p1; exact p1
 | ok x =>
  rw [ha] at p1;have p2 : aA M H fp _ (b ρ) := aA.bind p1;show aA M H fp _ (((b ρ).bind fun y => R.ok [y]).bind fun xs => R.ok (x :: xs))
  cases hb : b ρ with
  | bad => rw [hb] at p2; exact p2
  | ex c => rw [hb] at p2; exact p2
  | ok y =>
   rw [hb] at p2;intro vs F1 H1 fx e1 r1 w1;obtain ⟨G1, d1, k1⟩ := r1.frz e1 w1;cases k1 with
   | @cons v _ _ _ k1 k2 =>
    cases k2 with
    | @cons w _ _ _ k2 k3 =>
     cases k3;exact k v w x.er y.er G1 H1 d1 k1 k2 p2
noncomputable def r2F (x y : PyData) : R (List PyData) := match x, y with
 | .int i, .int j => if (aB i && aB j) = true then .ok (ik i (j - i).toNat) else .bad
 | _, _ => .bad
theorem Fm {a b : Fe} (h : tI M n (iR2 a b) σ H R') : yO (tA M n (ah a (ah b az))) σ H R' := by
 obtain ⟨F, ρ, fp, S, p⟩ := h;refine ⟨F, ρ, fp, S, oP (g := r2F) (by unfold iR2 at p; exact p) fun v w dx dy G H1 e rv rw' q => ?_⟩
 unfold r2F at q;split at q
 ·rename_i i j
  cases rv;cases rw';by_cases hs : (aB i && aB j) = true
  ·rw [if_pos hs] at q
   rw [Bool.and_eq_true] at hs;have h1 := eL.mp hs.1;have h2 := eL.mp hs.2;exact ⟨i, j, rfl, ⟨h1.1, h1.2, h2.1, h2.2⟩, q _ G H1 e (mr _ _)⟩
  ·rw [if_neg hs] at q
   exact q.elim
 ·exact q.elim
theorem sO {ds : List PyData} {i : Nat} {d : PyData} (h : (fT ds)[i]? = some d) : ∃ e, ds[i]? = some e ∧ d = .tuple [.int i, e] := by
 unfold fT at h;rw [List.getElem?_map] at h;obtain ⟨p, hp, rfl⟩ := Option.map_eq_some_iff.mp h;rw [List.getElem?_zipIdx] at hp;obtain ⟨e, he, rfl⟩ := Option.map_eq_some_iff.mp hp;exact ⟨e, he, by simp⟩
theorem zx {a : Fe} (h : tI M n (iEn a) σ H R') : yX M.K (tA M n (ah a az)) σ H R' := by
 obtain ⟨F, ρ, fp, S, p⟩ := h;refine ⟨F, ρ, fp, S, ?_⟩;have p1 := aA.bind p;show aA M H fp _ ((a ρ).bind fun x => R.ok [x])
 cases ha : a ρ with
 | bad => rw [ha] at p1; exact p1
 | ex c => rw [ha] at p1; exact p1
 | ok x =>
  rw [ha] at p1;intro vs F1 H1 fx e1 r1 w1;obtain ⟨G1, d1, k1⟩ := r1.frz e1 w1;cases k1 with
  | @cons v _ _ _ k1 k2 =>
   cases k2;have p2 : aA M H fp (OkI M.K F H R') (match x.er with | .list ds => .ok (fT ds) | _ => .bad) := p1
   generalize x.er = d at p2 k1
   cases k1 with
   | @lst a vs ds h1 h2 =>
    have p3 : OkI M.K F H R' (fT ds) := p2;refine ⟨a, rfl, ⟨vs, (h1.same d1.fh).sq⟩, p3 _ G1 H1 d1 fun i G H' s1 s2 => ?_⟩
    have hq := (h1.same (s1.trans s2)).sq;refine ⟨fun d hd => ?_, fun hl => ⟨vs, hq, by rw [RepAll.len h2]; unfold fT at hl; simpa using hl⟩⟩
    obtain ⟨e, he, rfl⟩ := sO hd;obtain ⟨u, hu, ru⟩ := RepAll.get h2 he;refine ⟨⟨vs, u, hq, hu⟩, fun x H2 y => ?_⟩
    obtain ⟨T, z, hT, rfl, rfl, hz⟩ := y;have hx := hz vs hq;rw [hu] at hx;cases hx;exact ⟨upd G T _, Ext.allocF s2 hT, .tup cu (.cons (.int _) (.cons ((ru.same s1).same ((aN.refl G).upd (s2.free hT))) .nil))⟩
   | int j => exact p2.elim
   | non => exact p2.elim
   | bl _ => exact p2.elim
   | str _ => exact p2.elim
   | dct _ _ _ => exact p2.elim
   | tup _ _ => exact p2.elim
noncomputable def xj (x y : PyData) : R (List PyData) := match x, y with
 | .list ds, .list es => .ok (ku ds es)
 | _, _ => .bad
theorem lW {ds es : List PyData} {i : Nat} {d : PyData} (h : (ku ds es)[i]? = some d) : ∃ x y, ds[i]? = some x ∧ es[i]? = some y ∧ d = .tuple [x, y] := by
 unfold ku at h;rw [List.getElem?_map] at h;obtain ⟨p, hp, rfl⟩ := Option.map_eq_some_iff.mp h;rw [List.getElem?_zip_eq_some] at hp;exact ⟨p.1, p.2, hp.1, hp.2, rfl⟩
theorem Dq {a b : Fe} (h : tI M n (iZp a b) σ H R') : Ce M.K (tA M n (ah a (ah b az))) σ H R' := by
 obtain ⟨F, ρ, fp, S, p⟩ := h;refine ⟨F, ρ, fp, S, oP (g := xj) (by unfold iZp at p; exact p) fun v w dx dy G1 H1 d1 rv rw' q => ?_⟩
 unfold xj at q;split at q
 ·rename_i ds es
  cases rv with
  | @lst a vs _ h1 h2 =>
   cases rw' with
   | @lst b ws _ h3 h4 =>
    refine ⟨a, b, rfl, ⟨vs, (h1.same d1.fh).sq⟩, ⟨ws, (h3.same d1.fh).sq⟩, q _ G1 H1 d1 fun i G H' s1 s2 => ?_⟩
    have hq := (h1.same (s1.trans s2)).sq;have hq' := (h3.same (s1.trans s2)).sq;refine ⟨fun d hd => ?_, fun hl => ⟨vs, ws, hq, hq', ?_⟩⟩
    ·obtain ⟨x, y, hx, hy, rfl⟩ := lW hd
     obtain ⟨u, hu, ru⟩ := RepAll.get h2 hx;obtain ⟨u', hu', ru'⟩ := RepAll.get h4 hy;refine ⟨⟨vs, u, ws, u', hq, hu, hq', hu'⟩, fun x H2 y => ?_⟩
     obtain ⟨T, z, z', hT, rfl, rfl, hz, hz'⟩ := y;have e1 := hz vs hq;have e2 := hz' ws hq';rw [hu] at e1;rw [hu'] at e2;cases e1;cases e2;have sg : aN G (upd G T (.tup [u, u'])) := (aN.refl G).upd (s2.free hT);exact ⟨upd G T _, Ext.allocF s2 hT, .tup cu (.cons ((ru.same s1).same sg) (.cons ((ru'.same s1).same sg) .nil))⟩
    ·rw [RepAll.len h2, RepAll.len h4]
     unfold ku at hl;rw [List.length_map, List.length_zip] at hl;lia
 ·exact q.elim
theorem EG {it : Fi} {is : List Nat} {g : Fg} {b : Fs} (h : tS M n (fM it g b) D σ H) : C4 (tI M n it) (tG M n is g) (tS M n b) D σ H := by
 obtain ⟨F, ρ, fp, S, p⟩ := h;refine ⟨F, ρ, fp, S, (aA.bind p).mono fun ds pd J F1 H1 e1 wk => ?_⟩
 refine ⟨fun i m σ' H' => m = ds.length - i ∧ i ≤ ds.length ∧ ∃ F' ρ' fp', Stt M.K n F' H' σ' ρ' fp' ∧ aN F1 F' ∧ aA M H' fp' (fU M n F' H' fp' D) (bE g b (ds.drop i) ρ'), ⟨ds.length, by simp, Nat.zero_le _, F1, ρ, fp, S.ext e1, aN.refl _, PostS.stp e1.stp pd⟩, ?_⟩
 rintro i m σ' H' ⟨rfl, hi, F', ρ', fp', S', s', p'⟩;obtain ⟨w1, w2⟩ := wk i F' H' s' S'.same;by_cases hlt : i < ds.length
 ·obtain ⟨d, hd⟩ : ∃ d, ds[i]? = some d := ⟨ds[i], by simp [hlt]⟩
  obtain ⟨g1, g2⟩ := w1 d hd;have e : ds.drop i = d :: ds.drop (i + 1) := by
   rw [List.drop_eq_getElem_cons hlt];congr 1
   have := (List.getElem?_eq_some_iff.mp hd).2;exact this
  rw [e] at p';refine .inr ⟨g1, fun σ2 H2 => ∃ F2 ρ2 fp2, Stt M.K n F2 H2 σ2 ρ2 fp2 ∧ aN F1 F2 ∧ aA M H2 fp2 (fU M n F2 H2 fp2 D) (bE g b (ds.drop (i + 1)) ρ2), fun σ2 H2 q => ⟨ds.length - (i + 1), by lia, rfl, hlt, q⟩, fun x H2 y => ?_⟩
  obtain ⟨G2, e2, rx⟩ := g2 x H2 y;have p2 : aA M H' fp' _ ((g (.sh d) ρ').bind fun ρ1 => (b ρ1).bind fun o => match o with
   | .nx ρ2 => bE g b (ds.drop (i + 1)) ρ2
   | .ct ρ2 => bE g b (ds.drop (i + 1)) ρ2
   | .bk ρ2 => .ok (.nx ρ2)
   | .rt x => .ok (.rt x)) := p'
  have st : Stp F' H' fp' G2 H2 (fp' ++ []) := by
   rw [List.append_nil];exact e2.stp
  refine ⟨G2, ρ', fp', .sh d, [], S'.ext e2, Res.sh rx, (fun _ m => by cases m), ((aA.bind p2).stp st).mono fun ρ1 p1 σ3 F3 H3 fp3 S3 s3 _ => ?_⟩
  have s4 := st.trans s3;refine ⟨F3, ρ1, fp3, S3, ((aA.bind p1).stp s4).mono fun o po => ?_⟩
  cases o with
  | nx ρ2 => exact fun σ5 F5 H5 fp5 S5 s5 => ⟨F5, ρ2, fp5, S5, (s'.trans s4.ff).trans s5.ff, PostS.stp (s4.trans s5) po⟩
  | ct ρ2 => exact fun σ5 F5 H5 fp5 S5 s5 => ⟨F5, ρ2, fp5, S5, (s'.trans s4.ff).trans s5.ff, PostS.stp (s4.trans s5) po⟩
  | bk ρ2 => exact fun σ5 F5 H5 fp5 S5 s5 => po σ5 F5 H5 fp5 S5 (s4.trans s5)
  | rt x => exact fun v F5 H5 fx a r s5 => po v F5 H5 fx a r (s4.trans s5)
 ·have e : i = ds.length := by lia
  subst e;refine .inl ⟨w2 (Nat.le_refl _), ?_⟩;rw [List.drop_length] at p';exact p' σ' F' H' fp' S' Stp.refl
theorem xP {t : Ft} {b : Fs} (h : tS M n (gh t b) D σ H) : uc (tT M n t) (tS M n b) D σ H := by
 obtain ⟨F, ρ, fp, S, p⟩ := h;unfold gh at p;split at p
 ·rename_i hn
  refine ⟨fun m σ' H' => ∃ F' ρ' fp', Stt M.K n F' H' σ' ρ' fp' ∧ aA M H' fp' (fU M n F' H' fp' D) (dF t b m ρ'), ⟨_, F, ρ, fp, S, p⟩, ?_⟩
  rintro m σ' H' ⟨F', ρ', fp', S', p'⟩;cases m with
  | zero => exact p'.elim
  | succ m =>
   have p2 : aA M H' fp' _ ((t ρ').bind fun c => if c = true then (b ρ').bind fun o => match o with
    | .nx ρ2 => dF t b m ρ2
    | .ct ρ2 => dF t b m ρ2
    | .bk ρ2 => .ok (.nx ρ2)
    | .rt x => .ok (.rt x) else .ok (.nx ρ')) := p'
   refine ⟨F', ρ', fp', S', (aA.bind p2).mono fun c pc F1 H1 e1 => ?_⟩
   cases c with
   | true =>
    rw [if_pos rfl] at pc ⊢;refine ⟨fun σ2 H2 => ∃ F2 ρ2 fp2, Stt M.K n F2 H2 σ2 ρ2 fp2 ∧ aA M H2 fp2 (fU M n F2 H2 fp2 D) (dF t b m ρ2), fun σ2 H2 q => ⟨m, Nat.lt_succ_self _, q⟩, F1, ρ', fp', S'.ext e1, ((aA.bind pc).ext e1).mono fun o po => ?_⟩
    cases o with
    | nx ρ2 => exact fun σ5 F5 H5 fp5 S5 s5 => ⟨F5, ρ2, fp5, S5, PostS.stp (e1.stp.trans s5) po⟩
    | ct ρ2 => exact fun σ5 F5 H5 fp5 S5 s5 => ⟨F5, ρ2, fp5, S5, PostS.stp (e1.stp.trans s5) po⟩
    | bk ρ2 => exact fun σ5 F5 H5 fp5 S5 s5 => po σ5 F5 H5 fp5 S5 (e1.stp.trans s5)
    | rt x => exact fun v F5 H5 fx a r s5 => po v F5 H5 fx a r (e1.stp.trans s5)
   | false =>
    rw [if_neg Bool.false_ne_true] at pc ⊢;exact pc σ' F1 H1 fp' (S'.ext e1) e1.stp
 ·exact p.elim
end
end L3
namespace L3
open PySem L2
section
variable {M : Mx} {n : Nat} {F H F1 H1 : Hp} {σ : St} {ρ : Env} {fp : List Addr} {D : Ends} {K : PySem.W.Frag}
theorem OwnS.nones {K : PySem.W.Frag} : ∀ (k : Nat) {σ : St} {ρ : Env} {g : List Addr}, OwnS K F H σ ρ g → OwnS K F H (List.replicate k none ++ σ) (List.replicate k none ++ ρ) g
 | 0, _, _, _, h => h
 | k + 1, _, _, _, h => by
  rw [List.replicate_succ, List.replicate_succ];exact .no (OwnS.nones k h)
theorem OwnS.one (S : OwnS K F H σ ρ fp) (i : Nat) : ∃ f, (∀ a ∈ f, a ∈ fp) ∧ (fp.Nodup → f.Nodup) ∧ ∀ {σ' : St} {ρ' : Env} {g : List Addr}, OwnS K F H σ' ρ' g → OwnS K F H ((σ[i]?).join :: σ') ((ρ[i]?).join :: ρ') (f ++ g) := by
 cases e : ρ[i]? with
 | none => exact ⟨[], (fun _ m => by cases m), fun _ => List.nodup_nil, fun h => .no h⟩
 | some o =>
  cases o with
  | none => exact ⟨[], (fun _ m => by cases m), fun _ => List.nodup_nil, fun h => .no h⟩
  | some x =>
   obtain ⟨v, f, g1, g2, h1, h2, rfl, h4⟩ := S.at e;refine ⟨f, fun a m => List.mem_append_right _ (List.mem_append_left _ m), fun nd => ?_, fun h => ?_⟩
   ·simp only [List.nodup_append] at nd
    exact nd.2.1.1
   ·rw [h1]
    exact .yes h2 h
noncomputable def shE (ρ : Env) : Env := ρ.map fun o => match o with
 | some (.sh d) => some (.sh d)
 | _ => none
theorem OwnS.shE {σ : St} {ρ : Env} {g : List Addr} (S : OwnS K F H σ ρ g) : OwnS K F H σ (L3.shE ρ) [] := by
 induction S with
 | nil => exact .nil
 | no r ih => exact .no ih
 | yes h r ih =>
  cases h with
  | sh h => exact .yes (f := []) (.sh h) ih
  | ol _ _ => exact .no ih
  | ot _ _ => exact .no ih
  | od _ _ _ => exact .no ih
theorem OwnS.pick3 : ∀ (is : List Nat) {σ : St} {ρ : Env}, OwnS K F H σ ρ [] → OwnS K F H (is.map fun i => (σ[i]?).join) (is.map fun i => (ρ[i]?).join) []
 | [], _, _, _ => .nil
 | i :: is, _, _, S => by
  obtain ⟨f, h1, _, h3⟩ := S.one i;have hf : f = [] := by
   cases f with
   | nil => rfl
   | cons a f => exact absurd (h1 a List.mem_cons_self) (by simp)
  subst hf;exact h3 (OwnS.pick3 is S)
theorem pO : ∀ (k : Nat) {σ0 σ2 : St}, σ2.length = k + σ0.length → (∀ j, k ≤ j → σ2[j]? = (List.replicate k none ++ σ0)[j]?) → gc (List.replicate k none ++ σ0) σ2
 | 0, σ0, σ2, hl, h => by
  have e : σ2 = σ0 := List.ext_getElem? fun j => by simpa using h j (Nat.zero_le _)
  subst e;show gc σ2 σ2
  clear h hl
  induction σ2 with
  | nil => trivial
  | cons x r ih =>
   cases x with
   | none => exact ih
   | some v => exact ⟨rfl, ih⟩
 | k + 1, σ0, [], hl, h => by simp at hl; lia
 | k + 1, σ0, x :: σ2, hl, h => by
  rw [List.replicate_succ];refine pO k (by simp at hl; lia) fun j hj => ?_
  have := h (j + 1) (by lia)
  simpa [List.replicate_succ] using this
theorem rW (ρ : Env) : ∀ (is : List Nat), (is.map fun i => ((shE ρ)[i]?).join) = is.map fun i => ky ρ[i]?
 | [] => rfl
 | i :: is => by
  rw [List.map_cons, List.map_cons, rW ρ is];congr 1
  unfold shE;rw [List.getElem?_map];cases ρ[i]? with
  | none => rfl
  | some o =>
   cases o with
   | none => rfl
   | some x => cases x <;> rfl
theorem Stt.block (S : Stt K n F H σ ρ fp) (k : Nat) (outs : List (Nat × Str)) : Stt K (k + outs.length) F H (slots k outs σ) (sl3 k (outs.map (·.1)) ρ) [] := by
 refine ⟨S.same, ?_, List.nodup_nil, (fun _ m => by cases m), by unfold sl3; simp⟩
 have h := OwnS.nones k (OwnS.pick3 (outs.map (·.1)) S.own.shE);rw [rW, List.map_map] at h;exact h
theorem nN {α : Type} {r : R α} {P : α → Prop} {β : Type} {g : α → R β} {PP : β → Prop} (p : aA M H fp PP ((n8 r).bind g)) : ∃ a, r = .ok a ∧ aA M H fp PP (g a) := by
 cases r with
 | ok a => exact ⟨a, rfl, p⟩
 | ex c => exact p.elim
 | bad => exact p.elim
theorem nX {it : Fi} {g : Fg} {t : Ft} {el : Fe} {k : Nat} {is : List Nat} {outs : List (Nat × Str)} {Q : VK} (hk : ∀ j ∈ is, j < k) (h : tD M n (bT it g t el k (outs.map (·.1))) σ H Q) :
  nh (tI M n it) (tG M (k + outs.length) is g) (tT M (k + outs.length) t) (tD M (k + outs.length) el) k outs σ H Q := by
 obtain ⟨F, ρ, fp, S, p⟩ := h;refine ⟨F, ρ, fp, S, (aA.bind p).mono fun ds pd J F1 H1 e1 wk D hD => ?_⟩
 have SB := (S.ext e1).block k outs;have fD : F1 D = none := e1.fh.free hD;refine ⟨fun i m acc H' => m = ds.length - i ∧ i ≤ ds.length ∧ ∃ F' xs fx, H' D = some (.lst acc) ∧ F' D = none ∧ Ext F1 H1 F' H' ∧ ResL M.K F' H' acc xs fx ∧ (∀ a ∈ fx, H1 a = none ∧ a ≠ D) ∧
  aA M H fp (OkE M F H Q) ((bb g t el (sl3 k (outs.map (·.1)) ρ) (ds.drop i) xs).bind fun xs => .ok (.ol xs)), ⟨ds.length, by simp, Nat.zero_le _, F1, [], [], cu, fD, Ext.alloc e1.fh hD, ResL.nil, (fun _ m => by cases m), pd⟩, ?_⟩
 rintro i m acc H' ⟨rfl, hi, F', xs, fx, hacc, fD', e', rx, wx, p'⟩;have S' := SB.ext e';obtain ⟨w1, w2⟩ := wk i F' H' e'.ff e'.fh;by_cases hlt : i < ds.length
 ·obtain ⟨d, hd⟩ : ∃ d, ds[i]? = some d := ⟨ds[i], by simp [hlt]⟩
  obtain ⟨g1, g2⟩ := w1 d hd;have e : ds.drop i = d :: ds.drop (i + 1) := by
   rw [List.drop_eq_getElem_cons hlt];congr 1
   exact (List.getElem?_eq_some_iff.mp hd).2
  rw [e] at p';have p2 : aA M H fp (OkE M F H Q) (((n8 (g (.sh d) (sl3 k (outs.map (·.1)) ρ))).bind fun ρ1 => (n8 (t ρ1)).bind fun b => if b = true then (n8 (el ρ1)).bind fun y => if xs.length < BIG then bb g t el (sl3 k (outs.map (·.1)) ρ) (ds.drop (i + 1)) (xs ++ [y]) else .bad else bb g t el (sl3 k (outs.map (·.1)) ρ) (ds.drop (i + 1)) xs).bind fun xs => .ok (.ol xs)) := p'
  have assoc : ∀ {α β γ : Type} (r : R α) (f : α → R β) (h : β → R γ), (r.bind f).bind h = r.bind fun a => (f a).bind h := fun r f h => by cases r <;> rfl
  rw [assoc] at p2;obtain ⟨ρ1, hρ1, p3⟩ := nN (P := fun _ => True) p2
  rw [assoc] at p3;obtain ⟨b, hb, p4⟩ := nN (P := fun _ => True) p3
  refine .inr ⟨g1, fun acc' H2 => ∃ F2 xs2 fx2, H2 D = some (.lst acc') ∧ F2 D = none ∧ Ext F1 H1 F2 H2 ∧ ResL M.K F2 H2 acc' xs2 fx2 ∧ (∀ a ∈ fx2, H1 a = none ∧ a ≠ D) ∧
   aA M H fp (OkE M F H Q) ((bb g t el (sl3 k (outs.map (·.1)) ρ) (ds.drop (i + 1)) xs2).bind fun xs => .ok (.ol xs)), fun acc' H2 q => ⟨ds.length - (i + 1), by lia, rfl, hlt, q⟩, fun x H2 y => ?_⟩
  obtain ⟨G2, e2, rx2⟩ := g2 x H2 y;refine ⟨G2, sl3 k (outs.map (·.1)) ρ, [], .sh d, [], S'.ext e2, Res.sh rx2, (fun _ m => by cases m), ?_⟩
  rw [hρ1];intro σ3 F3 H3 fp3 S3 s3 t3;have e3 : Ext G2 H2 F3 H3 := ⟨s3.ff, fun a o q => s3.keep a o q (by simp), S3.same, fun a q z => s3.nw a q (by simp) z⟩
  refine ⟨pO k (by rw [S3.own.len, S3.len]; simp) fun j hj => t3 j fun z => by have := hk j z; lia, F3, ρ1, fp3, S3, ?_⟩
  rw [hb];intro F4 H4 e4;have e24 : Ext F' H' F4 H4 := (e2.trans e3).trans e4;cases b with
  | true =>
   rw [if_pos rfl] at p4 ⊢;rw [assoc] at p4;obtain ⟨y, hy, p5⟩ := nN (P := fun _ => True) p4
   refine ⟨F4, ρ1, fp3, S3.ext e4, ?_⟩;rw [hy];intro v F5 H5 fy e5 r5 w5;by_cases hl : xs.length < BIG
   ·rw [if_pos hl] at p5
    have e25 := e24.trans e5;have hD5 : H5 D = some (.lst acc) := e25.hh _ _ hacc;have fD5 : F5 D = none := e25.nw D (cy hacc) fD';have yD : ∀ a ∈ fy, a ≠ D := fun a m => by
     rintro rfl;have := e24.hh _ _ hacc;rw [w5 _ m] at this;cases this
    have rx5 := rx.ext e25;refine ⟨hD5, by rw [rx.own.len]; exact ow hl, F5, xs ++ [y], fx ++ fy, cu, fD5, ⟨e'.ff.trans e25.ff, fun a o q => ?_, fun a o q => ?_, fun a q z => e25.nw a (e'.hh.dom q) (e'.nw a q z)⟩, ⟨?_, ?_, ?_⟩, ?_, p5⟩
    ·rw [aG (aQ q hD)]
     exact e25.hh _ _ (e'.hh _ _ q)
    ·rw [aG (aQ q fD5)]
     exact e5.fh _ _ q
    ·have q1 : OwnL M.K F5 (upd H5 D (.lst (acc ++ [v]))) acc xs fx := rx5.own.mono (aN.refl _) fun a m o q => by
      rw [aG (wx a m).2];exact q
     have q2 : Own M.K F5 (upd H5 D (.lst (acc ++ [v]))) v y fy := r5.own.mono (aN.refl _) fun a m o q => by
      rw [aG (yD a m)];exact q
     have q3 := OwnL.app q1 (OwnL.cons q2 .nil);rw [List.append_nil] at q3;exact q3
    ·refine List.nodup_append.mpr ⟨rx.nd, r5.nd, fun a m b m' z => ?_⟩
     subst z;obtain ⟨o, q⟩ := rx.own.dom a m;have := e24.hh _ _ q;rw [w5 a m'] at this;cases this
    ·intro a m
     rcases List.mem_append.mp m with m | m
     ·exact rx5.fr a m
     ·exact r5.fr a m
    ·intro a m
     rcases List.mem_append.mp m with m | m
     ·exact wx a m
     ·exact ⟨(e'.trans e24).hh.free (w5 a m), yD a m⟩
   ·rw [if_neg hl] at p5
    exact p5.elim
  | false =>
   rw [if_neg Bool.false_ne_true] at p4 ⊢;exact ⟨F4, xs, fx, e24.hh _ _ hacc, e24.nw D (cy hacc) fD', e'.trans e24, rx.ext e24, wx, p4⟩
 ·have e : i = ds.length := by lia
  subst e;rw [List.drop_length] at p';have q : OkE M F H Q (.ol xs) := p';refine .inl ⟨w2 (Nat.le_refl _), q (.ref D) F' H' (D :: fx) (e1.trans e') ⟨.ol hacc rx.own, List.nodup_cons.mpr ⟨fun m => (wx D m).2 rfl, rx.nd⟩, fun a m => ?_⟩ fun a m => ?_⟩
  ·rcases List.mem_cons.mp m with rfl | m
   ·exact fD'
   ·exact rx.fr a m
  ·rcases List.mem_cons.mp m with rfl | m
   ·exact e1.hh.free hD
   ·exact e1.hh.free (wx a m).1
theorem oZ : ∀ {vs : List V} {xs : List OD} {f : List Addr} {G : Hp}, OwnL K F H vs xs f → xs.all (fun y => flat y.er) = true → OwnL K G H1 vs (xs.map fun y => .sh y.er) []
 | _, _, _, _, .nil, _ => .nil
 | _, _, _, G, .cons (x := x) h r, e => by
  rw [List.all_cons, Bool.and_eq_true] at e;rw [List.map_cons];refine .cons (f := []) (g := []) (.sh ?_) (oZ r e.2);cases h with
  | sh q =>
   rw [cZ] at e ⊢;exact lC e.1 q
  | ol _ _ =>
   rw [jL] at e;exact absurd e.1 (by simp [flat])
  | ot _ _ =>
   rw [yR] at e;exact absurd e.1 (by simp [flat])
  | od _ _ _ =>
   rw [Ci] at e;exact absurd e.1 (by simp [flat, dD])
theorem qP {fa : Fe} {Q : VK} (h : tD M n (lO fa) σ H Q) : tD M n fa σ H Q := by
 obtain ⟨F, ρ, fp, S, p⟩ := h;refine ⟨H, erase ρ, [], S.erase, (aA.bind p).nofp.mono fun x px v F1 H1 fx e1 r1 w1 => ?_⟩
 cases x with
 | sh d => exact px.elim
 | ot xs => exact px.elim
 | od xs => exact px.elim
 | ol xs =>
  have px' : aA M H fp (OkE M F H Q) (if xs.all (fun y => flat y.er) = true then .ok (.ol (xs.map fun y => .sh y.er)) else .bad) := px
  by_cases hf : xs.all (fun y => flat y.er) = true
  ·rw [if_pos hf] at px'
   obtain ⟨ro, rn, rf⟩ := r1;cases ro with
   | @ol a vs _ f h1 h2 =>
    have na : H a = none := w1 a List.mem_cons_self;refine px' (.ref a) F H1 [a] ⟨aN.refl _, e1.hh, S.same.trans e1.hh, fun _ _ z => z⟩ ⟨.ol h1 (oZ h2 hf), by simp, fun b m => ?_⟩ fun b m => ?_
    ·have : b = a := by simpa using m
     rw [this];exact S.same.free na
    ·have : b = a := by simpa using m
     rw [this];exact na
  ·rw [if_neg hf] at px'
   exact px'.elim
end
end L3
namespace L3
open PySem L2
section
variable {M : Mx} {n : Nat} {F H F1 H1 : Hp} {σ : St} {ρ : Env} {fp : List Addr} {D : Ends} {K : PySem.W.Frag}
theorem jE {p f q f' : List Addr} (h : (p ++ (f ++ q)).Nodup) (h' : f'.Nodup) (s : ∀ c ∈ f', c ∈ f ∨ c ∉ p ++ (f ++ q)) : (p ++ (f' ++ q)).Nodup := by
 simp only [List.nodup_append, List.mem_append] at h s ⊢;obtain ⟨n1, ⟨n2, n3, n4⟩, n5⟩ := h;refine ⟨n1, ⟨h', n3, fun a ha b hb e => ?_⟩, fun a ha b hb e => ?_⟩
 ·subst e
  rcases s a ha with z | z
  ·exact n4 a z a hb rfl
  ·exact z (.inr (.inr hb))
 ·subst e
  rcases hb with hb | hb
  ·rcases s a hb with z | z
   ·exact n5 a ha a (.inl z) rfl
   ·exact z (.inl ha)
  ·exact n5 a ha a (.inr hb) rfl
theorem OwnL.at : ∀ {vs : List V} {xs : List OD} {g : List Addr} {i : Nat} {x : OD}, OwnL K F H vs xs g → xs[i]? = some x →
  ∃ v f g1 g2, vs[i]? = some v ∧ Own K F H v x f ∧ g = g1 ++ (f ++ g2) ∧ ∀ (F' H' : Hp), aN F F' → (∀ a ∈ g1 ++ g2, ∀ o, H a = some o → H' a = some o) → ∀ v' x' f', Own K F' H' v' x' f' → OwnL K F' H' (vs.set i v') (xs.set i x') (g1 ++ (f' ++ g2))
 | _, _, _, _, _, .nil, e => by simp at e
 | _, _, _, 0, x, .cons (f := f) (g := g) h r, e => by
  simp at e
  subst e;exact ⟨_, f, [], g, rfl, h, rfl, fun F' H' s k v' x' f' o => OwnL.cons (f := f') (g := g) o (r.mono s k)⟩
 | _, _, _, i + 1, x, .cons (f := f0) h r, e => by
  obtain ⟨v, f, g1, g2, h1, h2, h3, h4⟩ := OwnL.at (i := i) r (by simpa using e)
  refine ⟨v, f, f0 ++ g1, g2, by simpa using h1, h2, by rw [h3, List.append_assoc], fun F' H' s k v' x' f' o => ?_⟩
  rw [List.append_assoc];exact .cons (h.mono s fun a m => k a (List.mem_append_left _ (List.mem_append_left _ m))) (h4 F' H' s (fun a m => k a (by simp at m ⊢; rcases m with m | m <;> simp [m])) v' x' f' o)
theorem l5 {σ : St} {i : Nat} {v : V} (h1 : σ[i]? = some (some v)) : σ.set i (some v) = σ := by
 apply List.ext_getElem?
 intro j;by_cases hj : i = j
 ·subst hj
  rw [h1, List.getElem?_set_self (List.getElem?_eq_some_iff.mp h1).1]
 ·rw [List.getElem?_set_ne hj]
theorem Stt.write (S : Stt K n F H σ ρ fp) {i : Nat} {xs : List OD} (hx : ρ[i]? = some (some (.ol xs))) :
  ∃ a vs f, σ[i]? = some (some (.ref a)) ∧ H a = some (.lst vs) ∧ OwnL K F H vs xs f ∧ f.Nodup ∧ (∀ b ∈ f, F b = none) ∧
   ∀ F1 H1 vs' xs' f', Ext F H F1 H1 → OwnL K F1 H1 vs' xs' f' → f'.Nodup → (∀ b ∈ f', b ∈ f ∨ H b = none) → (∀ b ∈ f', F1 b = none) →
    ∃ fp', Stt K n F1 (upd H1 a (.lst vs')) σ (ρ.set i (some (.ol xs'))) fp' ∧ Stp F H fp F1 (upd H1 a (.lst vs')) fp' ∧ (∀ b ∈ fp', b ∈ fp ∨ b ∈ f') := by
 obtain ⟨v, f0, g1, g2, h1, h2, rfl, h4⟩ := S.own.at hx;cases h2 with
 | @ol a vs _ f ha hv =>
  have nd := S.nd;have nd' := nd;simp only [List.nodup_append, List.mem_append, List.cons_append, List.nodup_cons, List.mem_cons] at nd';obtain ⟨n1, ⟨na, n2, n3, n4⟩, n5⟩ := nd';refine ⟨a, vs, f, h1, ha, hv, n2, fun b m => S.fr b (by simp [m]), fun F1 H1 vs' xs' f' e o nf sub ff => ?_⟩
  have fa : F1 a = none := e.nw a (cy ha) (S.fr a (by simp))
  have hne : ∀ b ∈ f', b ≠ a := fun b m => by
   rintro rfl;rcases sub b m with z | z
   ·exact na (.inl z)
   ·rw [ha] at z
    cases z
  have hs : ∀ c ∈ f', c ∈ f ∨ c ∉ (g1 ++ [a]) ++ (f ++ g2) := fun c m => by
   rcases sub c m with z | z
   ·exact .inl z
   ·refine .inr fun w => ?_
    obtain ⟨o, q⟩ := S.own.dom c (by simp at w ⊢; exact w)
    rw [z] at q;cases q
  have nd2 := jE (p := g1 ++ [a]) (f := f) (q := g2) (f' := f') (by simpa using nd) nf hs
  have own := h4 F1 (upd H1 a (.lst vs')) e.ff (fun b m o q => by
   have : b ≠ a := by
    rintro rfl;rcases List.mem_append.mp m with m | m
    ·exact n5 b m b (.inl rfl) rfl
    ·exact na (.inr m)
   rw [aG this];exact e.hh _ _ q) (.ref a) (.ol xs') (a :: f') (.ol cu (o.mono (aN.refl _) fun b m o q => by rw [aG (hne b m)]; exact q))
  rw [l5 h1] at own;have frs : ∀ b ∈ g1 ++ (a :: f ++ g2), F1 b = none := fun b m => let ⟨_, q⟩ := S.own.dom b m; e.nw b (cy q) (S.fr b m)
  refine ⟨g1 ++ (a :: f' ++ g2), ⟨?_, own, by simpa using nd2, fun b m => ?_, by rw [List.length_set]; exact S.len⟩, ⟨e.ff, fun b o q m => ?_, fun b m => ?_, fun b q m z => e.nw b q z⟩, fun b m => ?_⟩
  ·intro b o q
   rw [aG (aQ q fa)];exact e.fh _ _ q
  ·simp only [List.mem_append, List.mem_cons] at m
   rcases m with m | (rfl | m) | m
   ·exact frs b (by simp [m])
   ·exact fa
   ·exact ff b m
   ·exact frs b (by simp [m])
  ·have : b ≠ a := by
    rintro rfl;exact m (by simp)
   rw [aG this];exact e.hh _ _ q
  ·simp only [List.mem_append, List.mem_cons] at m ⊢
   rcases m with m | (m | m) | m
   ·exact .inl (.inl m)
   ·exact .inl (.inr (.inl (.inl m)))
   ·rcases sub b m with z | z
    ·exact .inl (.inr (.inl (.inr z)))
    ·exact .inr z
   ·exact .inl (.inr (.inr m))
  ·simp only [List.mem_append, List.mem_cons] at m ⊢
   rcases m with m | (m | m) | m <;> simp [m]
theorem OwnL.snoc {vs : List V} {xs : List OD} {f g : List Addr} {v : V} {y : OD} (h : OwnL K F H vs xs f) (o : Own K F H v y g) : OwnL K F H (vs ++ [v]) (xs ++ [y]) (f ++ g) := by
 have := OwnL.app h (OwnL.cons o .nil);rw [List.append_nil] at this;exact this
theorem CL {i : Nat} {a : Fe} (h : tS M n (ib i a) D σ H) : nt (tBM M.K "list" nY (iE i) (kL (tD M n a) qt)) D σ H := by
 obtain ⟨F, ρ, fp, S, p⟩ := h;unfold ib at p;split at p
 ·rename_i xs e
  obtain ⟨l, vs, f, h1, h2, h3, nf, ff, wr⟩ := S.write e;refine ⟨_, h1, .inl ⟨rfl, vs, SqL.of h2⟩, F, ρ, fp, S, (aA.bind p).mono fun y py v F1 H1 fy e1 r1 w1 => ?_⟩
  by_cases hl : xs.length < BIG
  ·rw [if_pos hl] at py
   refine ⟨l, vs, v, rfl, rfl, e1.hh _ _ h2, by rw [h3.len]; exact ow hl, ?_⟩
   have o : OwnL M.K F1 H1 (vs ++ [v]) (xs ++ [y]) (f ++ fy) := (h3.mono e1.ff fun b _ o q => e1.hh _ _ q).snoc r1.own
   obtain ⟨fp', S', st, _⟩ := wr F1 H1 _ _ _ e1 o (List.nodup_append.mpr ⟨nf, r1.nd, fun b m c m' z => by
    subst z;obtain ⟨o, q⟩ := h3.dom b m;rw [w1 b m'] at q;cases q⟩) (fun b m => (List.mem_append.mp m).elim .inl fun m => .inr (w1 b m)) (fun b m => (List.mem_append.mp m).elim (fun m => let ⟨_, q⟩ := h3.dom b m; e1.nw b (cy q) (ff b m)) (r1.fr b))
   exact py σ F1 _ fp' S' st
  ·rw [if_neg hl] at py
   exact py.elim
 ·exact p.elim
theorem OwnL.last {d : PyData} : ∀ {vs : List V} {xs : List OD} {f : List Addr}, OwnL K F H vs xs f → xs.getLast? = some (.sh d) → ∃ v, vs[vs.length - 1]? = some v ∧ Rep K F v d ∧ OwnL K F H vs.dropLast xs.dropLast f
 | _, _, _, .nil, e => by simp at e
 | _, _, _, .cons h r, e => by
  have ih := OwnL.last (d := d) r;cases r with
  | nil =>
   cases h with
   | sh h =>
    simp at e
    subst e;exact ⟨_, rfl, h, .nil⟩
   | ol _ _ => simp at e
   | ot _ _ => simp at e
   | od _ _ _ => simp at e
  | cons h' r =>
   obtain ⟨v, h1, h2, h3⟩ := ih (by simpa using e)
   exact ⟨v, by simpa using h1, h2, .cons h h3⟩
theorem s_pop {i : Nat} {is : List Nat} {g : Fg} (h : tS M n (qj i g) D σ H) : oN (CS M.K "list" B8 (iE i)) (tG M n is g) D σ H := by
 obtain ⟨F, ρ, fp, S, p⟩ := h;unfold qj at p;split at p
 ·rename_i xs e
  split at p
  ·rename_i d hd
   obtain ⟨l, vs, f, h1, h2, h3, nf, ff, wr⟩ := S.write e;obtain ⟨v, v1, v2, v3⟩ := h3.last hd;obtain ⟨fp', S', st, _⟩ := wr F H _ _ f (Ext.refl S.same) v3 nf (fun b m => .inl m) ff
   have st' : Stp F H fp F (upd H l (.lst vs.dropLast)) (fp' ++ []) := by
    rw [List.append_nil];exact st
   exact ⟨_, h1, .inl ⟨rfl, vs, SqL.of h2⟩, l, vs, v, rfl, rfl, h2, v1, F, _, fp', .sh d, [], S', Res.sh v2, (fun _ m => by cases m), ((aA.bind p).stp st').mono fun ρ' hρ σ' F' H' fp2 S2 s2 _ => hρ σ' F' H' fp2 S2 (st'.trans s2)⟩
  ·exact p.elim
 ·exact p.elim
theorem zR {k : Nat} {q : Int} {j : Nat} (h : ixN k q = some j) : j < k := by
 unfold ixN at h;split at h
 ·split at h
  ·cases h
   lia
  ·cases h
 ·split at h
  ·cases h
   lia
  ·cases h
theorem BW {i : Nat} {a k : Fe} (h : tS M n (o8 i k a) D σ H) : oN (tD M n a) (B3 (iE i) (tD M n k) yJ) D σ H := by
 obtain ⟨F, ρ, fp, S, p⟩ := h;unfold o8 at p;split at p
 ·rename_i xs e
  refine ⟨F, ρ, fp, S, (aA.bind p).mono fun y py v F1 H1 fy e1 r1 w1 => ?_⟩
  obtain ⟨l, vs, f, h1, h2, h3, nf, ff, wr⟩ := S.write e;refine ⟨_, h1, F1, ρ, fp, S.ext e1, ((aA.bind py).ext e1).mono fun z pz u F2 H2 fz e2 r2 w2 => ?_⟩
  obtain ⟨G2, d2, k2⟩ := r2.frz e2 w2;generalize z.er = dz at pz k2
  cases dz with
  | int q =>
   cases k2;have pz' : aA M H fp (fU M n F H fp D) (match ixN xs.length q with | some j => .ok (.nx (ρ.set i (some (.ol (xs.set j y))))) | none => .bad) := pz
   cases hj : ixN xs.length q with
   | none =>
    rw [hj] at pz';exact pz'.elim
   | some j =>
    rw [hj] at pz';have e12 := e1.trans d2;have hjl := zR hj;refine ⟨l, vs, q, j, rfl, rfl, e12.hh _ _ h2, by rw [h3.len]; exact hj, ?_⟩
    obtain ⟨x, hx⟩ : ∃ x, xs[j]? = some x := ⟨xs[j], by simp [hjl]⟩
    obtain ⟨v0, f0, g1, g2, b1, b2, b3, b4⟩ := h3.at hx;subst b3;have o := b4 G2 H2 e12.ff (fun b m o q => e12.hh _ _ q) v y fy (r1.ext d2).own
    have sub : ∀ b ∈ g1 ++ (fy ++ g2), b ∈ g1 ++ (f0 ++ g2) ∨ H b = none := fun b m => by
     simp only [List.mem_append] at m ⊢;rcases m with m | m | m
     ·exact .inl (.inl m)
     ·exact .inr (w1 b m)
     ·exact .inl (.inr (.inr m))
    obtain ⟨fp', S', st, _⟩ := wr G2 H2 _ _ _ e12 o (jE nf r1.nd fun c m => .inr fun w => by
     obtain ⟨o, q⟩ := h3.dom c w;rw [w1 c m] at q;cases q) sub (fun b m => by
      simp only [List.mem_append] at m;rcases m with m | m | m
      ·exact let ⟨_, q⟩ := h3.dom b (by simp [m]); e12.nw b (cy q) (ff b (by simp [m]))
      ·exact (r1.ext d2).fr b m
      ·exact let ⟨_, q⟩ := h3.dom b (by simp [m]); e12.nw b (cy q) (ff b (by simp [m])))
    exact pz' σ G2 _ fp' S' st
  | none => exact pz.elim
  | bool _ => exact pz.elim
  | str _ => exact pz.elim
  | list _ => exact pz.elim
  | tuple _ => exact pz.elim
  | dict _ => exact pz.elim
 ·exact p.elim
theorem Stt.write2 (S : Stt K n F H σ ρ fp) {i : Nat} {o : OD} {l : Bool} {xs : List OD} {j : Nat} {ys : List OD} (hx : ρ[i]? = some (some o)) (hc : comps o = some (l, xs)) (hj : xs[j]? = some (.ol ys)) :
  ∃ a vs b ws f, σ[i]? = some (some (.ref a)) ∧ H a = some (if l = true then .lst vs else .tup vs) ∧ vs.length = xs.length ∧ vs[j]? = some (.ref b) ∧ H b = some (.lst ws) ∧ OwnL K F H ws ys f ∧ f.Nodup ∧ (∀ c ∈ f, F c = none) ∧
   ∀ F1 H1 ws' ys' f', Ext F H F1 H1 → OwnL K F1 H1 ws' ys' f' → f'.Nodup → (∀ c ∈ f', c ∈ f ∨ H c = none) → (∀ c ∈ f', F1 c = none) →
    ∃ fp', Stt K n F1 (upd H1 b (.lst ws')) σ (ρ.set i (some (wrap l (xs.set j (.ol ys'))))) fp' ∧ Stp F H fp F1 (upd H1 b (.lst ws')) fp' := by
 obtain ⟨v, f0, g1, g2, h1, h2, rfl, h4⟩ := S.own.at hx;obtain ⟨a, vs, g, ha, hv, rfl, rfl, mk⟩ : ∃ a vs g, H a = some (if l = true then .lst vs else .tup vs) ∧ OwnL K F H vs xs g ∧ v = .ref a ∧ f0 = a :: g ∧ ∀ F' H' vs' xs' g', H' a = some (if l = true then .lst vs' else .tup vs') → OwnL K F' H' vs' xs' g' → Own K F' H' (.ref a) (wrap l xs') (a :: g') := by
  cases h2 with
  | sh r =>
   cases hc
  | od _ _ _ =>
   cases hc
  | @ol a vs _ g ha hv =>
   cases hc;exact ⟨a, vs, g, ha, hv, rfl, rfl, fun F' H' vs' xs' g' q r => .ol q r⟩
  | @ot a vs _ g ha hv =>
   cases hc;exact ⟨a, vs, g, ha, hv, rfl, rfl, fun F' H' vs' xs' g' q r => .ot q r⟩
 obtain ⟨u, f1, k1, k2, b1, b2, b3, b4⟩ := hv.at hj;cases b2 with
 | @ol b ws _ f hb hw =>
  subst b3;have nd : ((g1 ++ (a :: (k1 ++ [b]))) ++ (f ++ (k2 ++ g2))).Nodup := by simpa using S.nd
  have nd' := nd;simp only [List.nodup_append, List.mem_append, List.cons_append, List.nodup_cons, List.mem_cons, List.append_assoc, List.nil_append, List.not_mem_nil, or_false] at nd';have inL : ∀ c, c ∈ (g1 ++ (a :: (k1 ++ [b]))) ++ (f ++ (k2 ++ g2)) ↔ c ∈ g1 ++ (a :: (k1 ++ (b :: f ++ k2)) ++ g2) := fun c => by simp
  refine ⟨a, vs, b, ws, f, h1, ha, hv.len, b1, hb, hw, ?_, fun c m => S.fr c (by simp [m]), fun F1 H1 ws' ys' f' e o nf sub ff => ?_⟩
  ·simp only [List.nodup_append] at nd
   exact nd.2.1.1
  have hs : ∀ c ∈ f', c ∈ f ∨ c ∉ (g1 ++ (a :: (k1 ++ [b]))) ++ (f ++ (k2 ++ g2)) := fun c m => by
   rcases sub c m with z | z
   ·exact .inl z
   ·refine .inr fun w => ?_
    obtain ⟨o, q⟩ := S.own.dom c ((inL c).mp w);rw [z] at q;cases q
  have nd2 := jE nd nf hs;have eq2 : (g1 ++ (a :: (k1 ++ [b]))) ++ (f' ++ (k2 ++ g2)) = g1 ++ (a :: (k1 ++ (b :: f' ++ k2)) ++ g2) := by simp
  have frs : ∀ c ∈ g1 ++ (a :: (k1 ++ (b :: f ++ k2)) ++ g2), F1 c = none := fun c m => let ⟨_, q⟩ := S.own.dom c m; e.nw c (cy q) (S.fr c m)
  have fb : F1 b = none := frs b (by simp)
  have nb : ∀ c, c ∈ g1 ∨ c = a ∨ c ∈ k1 ∨ c ∈ f' ∨ c ∈ k2 ∨ c ∈ g2 → c ≠ b := fun c hc => by
   rintro rfl;have nd3 := nd2;simp only [List.append_assoc, List.cons_append, List.nil_append] at nd3;have q : (g1 ++ a :: (k1 ++ c :: (f' ++ (k2 ++ g2)))) = (g1 ++ a :: k1) ++ c :: (f' ++ (k2 ++ g2)) := by simp
   rw [q, List.nodup_append] at nd3;obtain ⟨_, y2, y3⟩ := nd3;rw [List.nodup_cons] at y2;have y4 : ∀ d, d ∈ g1 ++ a :: k1 → d ≠ c := fun d hd z => y3 d hd d (by rw [z]; exact List.mem_cons_self) rfl
   rcases hc with h | h | h | h | h | h
   ·exact y4 c (by simp [h]) rfl
   ·exact y4 a (by simp) h.symm
   ·exact y4 c (by simp [h]) rfl
   ·exact y2.1 (by simp [h])
   ·exact y2.1 (by simp [h])
   ·exact y2.1 (by simp [h])
  have hkeep : ∀ c o, c ≠ b → H c = some o → upd H1 b (.lst ws') c = some o := fun c o hc q => by
   rw [aG hc];exact e.hh _ _ q
  have o1 : Own K F1 (upd H1 b (.lst ws')) (.ref b) (.ol ys') (b :: f') := .ol cu (o.mono (aN.refl _) fun c m o q => by rw [aG (nb c (by simp [m]))]; exact q)
  have o2 := b4 F1 (upd H1 b (.lst ws')) e.ff (fun c m o q => hkeep c o (nb c (by simp only [List.mem_append] at m; rcases m with m | m <;> simp [m])) q) _ _ _ o1
  have vb : vs.set j (.ref b) = vs := by
   apply List.ext_getElem?
   intro t;by_cases ht : j = t
   ·subst ht
    rw [b1, List.getElem?_set_self (List.getElem?_eq_some_iff.mp b1).1]
   ·rw [List.getElem?_set_ne ht]
  rw [vb] at o2;have o3 := mk F1 (upd H1 b (.lst ws')) vs _ _ (hkeep a _ (nb a (by simp)) ha) o2
  have own := h4 F1 (upd H1 b (.lst ws')) e.ff (fun c m o q => hkeep c o (nb c (by simp only [List.mem_append] at m; rcases m with m | m <;> simp [m])) q) _ _ _ o3
  rw [l5 h1] at own;refine ⟨_, ⟨?_, own, by rw [← eq2]; exact nd2, fun c m => ?_, by rw [List.length_set]; exact S.len⟩, ⟨e.ff, fun c o q m => ?_, fun c m => ?_, fun c q m z => e.nw c q z⟩⟩
  ·intro c o q
   rw [aG (aQ q fb)];exact e.fh _ _ q
  ·simp only [List.mem_append, List.mem_cons] at m
   rcases m with m | (m | m | (m | m) | m) | m
   ·exact frs c (by simp [m])
   ·exact frs c (by simp [m])
   ·exact frs c (by simp [m])
   ·exact frs c (by simp [m])
   ·exact ff c m
   ·exact frs c (by simp [m])
   ·exact frs c (by simp [m])
  ·have : c ≠ b := by
    rintro rfl;exact m (by simp)
   exact hkeep c o this q
  ·simp only [List.mem_append, List.mem_cons] at m ⊢
   rcases m with m | (m | m | (m | m) | m) | m
   ·simp [m]
   ·simp [m]
   ·simp [m]
   ·simp [m]
   ·rcases sub c m with z | z
    ·simp [z]
    ·exact .inr z
   ·simp [m]
   ·simp [m]
theorem xO {i : Nat} {k a : Fe} (h : tS M n (ke i k a) D σ H) : nt (tBM M.K "list" nY (tOp (oM M.K) (iE i) (tD M n k)) (kL (tD M n a) qt)) D σ H := by
 obtain ⟨F, ρ, fp, S, p⟩ := h;unfold ke at p;split at p
 ·rename_i xs e
  have hc : comps (.ol xs) = some (true, xs) := rfl;obtain ⟨v0, _, _, _, h0, own0, _, _⟩ := S.own.at e;refine ⟨v0, h0, F, ρ, fp, S, (aA.bind p).mono fun z pz u F1 H1 fz e1 r1 w1 => ?_⟩
  obtain ⟨G1, d1, k1⟩ := r1.frz e1 w1;generalize z.er = dz at pz k1
  cases dz with
  | int q =>
   cases k1;have pz' : aA M H fp (fU M n F H fp D) (match ixN xs.length q with
    | some j => match xs[j]? with
     | some (.ol ys) => (a ρ).bind fun y => if ys.length < BIG then .ok (.nx (ρ.set i (some (.ol (xs.set j (.ol (ys ++ [y]))))))) else .bad
     | _ => .bad
    | none => .bad) := pz
   cases hj : ixN xs.length q with
   | none =>
    rw [hj] at pz';exact pz'.elim
   | some j =>
    rw [hj] at pz';have pz2 : aA M H fp (fU M n F H fp D) (match xs[j]? with
     | some (.ol ys) => (a ρ).bind fun y => if ys.length < BIG then .ok (.nx (ρ.set i (some (.ol (xs.set j (.ol (ys ++ [y]))))))) else .bad
     | _ => .bad) := pz'
    split at pz2
    ·rename_i ys hy
     obtain ⟨b0, vs, b, ws, f, h1, ha, hl, hb1, hb, hw, nf, ff, wr⟩ := (S.ext d1).write2 e hc hy;rw [h0] at h1;cases h1;have at1 : atI vs q = some (.ref b) := by
      unfold atI;rw [hl, hj];exact hb1
     refine ⟨b0, vs, q, .ref b, rfl, rfl, SqL.of ha, at1, .inl ⟨rfl, ws, SqL.of hb⟩, G1, ρ, fp, S.ext d1, ((aA.bind pz2).ext d1).mono fun y py v F2 H2 fy e2 r2 w2 => ?_⟩
     by_cases hlt : ys.length < BIG
     ·rw [if_pos hlt] at py
      refine ⟨b, ws, v, rfl, rfl, e2.hh _ _ hb, by rw [hw.len]; exact ow hlt, ?_⟩
      have o : OwnL M.K F2 H2 (ws ++ [v]) (ys ++ [y]) (f ++ fy) := (hw.mono e2.ff fun c _ o q => e2.hh _ _ q).snoc r2.own
      obtain ⟨fp', S', st⟩ := wr F2 H2 _ _ _ e2 o (List.nodup_append.mpr ⟨nf, r2.nd, fun c m d m' z => by
       subst z;obtain ⟨o, q⟩ := hw.dom c m;rw [w2 c m'] at q;cases q⟩) (fun c m => (List.mem_append.mp m).elim .inl fun m => .inr (w2 c m)) (fun c m => (List.mem_append.mp m).elim (fun m => let ⟨_, q⟩ := hw.dom c m; e2.nw c (cy q) (ff c m)) (r2.fr c))
      exact py σ F2 _ fp' S' (d1.stp.trans st)
     ·rw [if_neg hlt] at py
      exact py.elim
    ·exact pz2.elim
  | none => exact pz.elim
  | bool _ => exact pz.elim
  | str _ => exact pz.elim
  | list _ => exact pz.elim
  | tuple _ => exact pz.elim
  | dict _ => exact pz.elim
 ·exact p.elim
end
end L3
namespace L3
open PySem L2 PySem.Spec PyProof.Rows
noncomputable def DE (M : Mx) (X : Cx) (e : Expr) (f : Fe) : Prop := X.K = M.K → X.mg = M.mg → PE X e (tD M X.N.length f)
noncomputable def DT (M : Mx) (X : Cx) (e : Expr) (f : Ft) : Prop := X.K = M.K → X.mg = M.mg → PT X e (tT M X.N.length f)
noncomputable def DW (M : Mx) (X : Cx) (e : Expr) (f : Ft) : Prop := X.K = M.K → X.mg = M.mg → PW X e (tT M X.N.length f)
noncomputable def DA (M : Mx) (X : Cx) (e : List Expr) (f : Fa) : Prop := X.K = M.K → X.mg = M.mg → PA X e (tA M X.N.length f)
noncomputable def DO (M : Mx) (X : Cx) (e : Option Expr) (f : Fo) : Prop := X.K = M.K → X.mg = M.mg → PO X e (tO M X.N.length f)
noncomputable def DI (M : Mx) (X : Cx) (tg e : Expr) (f : Fi) : Prop := X.K = M.K → X.mg = M.mg → PI X tg e (tI M X.N.length f)
noncomputable def DG (M : Mx) (X : Cx) (tg : Expr) (is : List Nat) (f : Fg) : Prop := X.K = M.K → X.mg = M.mg → PG X tg (tG M X.N.length is f)
noncomputable def DGs (M : Mx) (X : Cx) (tg : List Expr) (is : List Nat) (f : Fgs) : Prop := X.K = M.K → X.mg = M.mg → PGs X tg (tGs M X.N.length is f)
noncomputable def DF (M : Mx) (X : Cx) (e : List Expr) (f : Ft) : Prop := X.K = M.K → X.mg = M.mg → PF X e (tT M X.N.length f)
noncomputable def DS (M : Mx) (X : Cx) (st : Stmt) (f : Fs) : Prop := X.K = M.K → X.mg = M.mg → PS X st (tS M X.N.length f)
noncomputable def DSs (M : Mx) (X : Cx) (st : List Stmt) (f : Fs) : Prop := X.K = M.K → X.mg = M.mg → PSs X st (tS M X.N.length f)
section
variable {M : Mx} {X : Cx} {e a b c : Expr} {es : List Expr} {pos : Pos} {fa fb : Fe} {ta tb : Ft} {al : Fa}
theorem peI {t t' : TE} (h : PE X e t) (k : ∀ σ H Q, t' σ H Q → t σ H Q) : PE X e t' := fun pins s σ H Q I q => h pins s σ H Q I (k σ H Q q)
theorem ptI {t t' : TT} (h : PT X e t) (k : ∀ σ H Q, t' σ H Q → t σ H Q) : PT X e t' := fun pins s σ H Q I q => h pins s σ H Q I (k σ H Q q)
theorem pwI {t t' : TT} (h : PW X e t) (k : ∀ σ H Q, t' σ H Q → t σ H Q) : PW X e t' := fun w pins s σ H Q I q => h w pins s σ H Q I (k σ H Q q)
theorem paI {t t' : TA} (h : PA X es t) (k : ∀ σ H Q, t' σ H Q → t σ H Q) : PA X es t' := fun ps pins s σ H Q I q => h ps pins s σ H Q I (k σ H Q q)
theorem poI {o : Option Expr} {t t' : TO} (h : PO X o t) (k : ∀ σ H Q, t' σ H Q → t σ H Q) : PO X o t' := fun pins s σ H Q I q => h pins s σ H Q I (k σ H Q q)
theorem psI {st : Stmt} {t t' : TS} (h : PS X st t) (k : ∀ D σ H, t' D σ H → t D σ H) : PS X st t' := fun pins s σ H D I q => h pins s σ H D I (k D σ H q)
theorem Et {st : List Stmt} {t t' : TS} (h : PSs X st t) (k : ∀ D σ H, t' D σ H → t D σ H) : PSs X st t' := fun pins s σ H D I q => h pins s σ H D I (k D σ H q)
theorem aa (i : Nat) {x : Str} (hN : X.N[i]? = some x := by rfl) (hv : Vis X.env.scope x := by first | exact Or.inl rfl | exact Or.inr (Or.inl rfl) | exact Or.inr (Or.inr rfl)) (hd : (x == ("__debug__" : Str)) = false := by decide)
  (hcd : (x == ("__classdict__" : Str)) = false := by decide) : DE M X (.Name x pos) (ae i) := fun _ _ => peI (gx hN hv hd hcd) fun _ _ _ h => Df h
theorem ag {i : Int} {j} : DE M X (.Constant (.int i) j pos) (eC (.int i)) := fun _ _ => peI Bd fun _ _ _ h => d_c (fun _ _ => .int i) h
theorem jt {i : Bool} {j} : DE M X (.Constant (.bool i) j pos) (eC (.bool i)) := fun _ _ => peI DD fun _ _ _ h => d_c (fun _ _ => .bl i) h
theorem ua {x : Str} {j} : DE M X (.Constant (.str x) j pos) (eC (.str x)) := fun _ _ => peI BH fun _ _ _ h => d_c (fun _ _ => .str x) h
theorem j4 {x : Str} {i : Int} (hg : Gl X x) (hm : ∃ t, X.mg x = some (.int i t)) (hd : (x == ("__debug__" : Str)) = false := by decide) : DE M X (.Name x pos) (eC (.int i)) := fun _ _ =>
 let ⟨t, e⟩ := hm
 peI (yn (v := .int i) hg e ⟨t, rfl⟩ hd) fun _ _ _ h => d_c (fun _ _ => .int i) h
theorem bP (h : DE M X e fa) : DE M X e (eSh fa) := fun hK hM => peI (h hK hM) fun _ _ _ q => mI q
theorem kF (h : DE M X e fa) : DE M X e (mH fa) := fun hK hM => peI (h hK hM) fun _ _ _ q => CM q
theorem xQ (h : DE M X e fa) : DE M X e (lO fa) := fun hK hM => peI (h hK hM) fun _ _ _ q => qP q
theorem kA (h : DT M X e ta) : DT M X e (oj ta) := fun hK hM => ptI (h hK hM) fun _ _ _ q => zX q
theorem ao {op : Operator} {r : R2} {g : PyData → PyData → R OD} (ho : OpR X (binaryOp op) r) (hg : X.K = M.K → Ok2 M r g) (ha : DE M X a fa) (hb : DE M X b fb) : DE M X (.BinOp a op b pos) (eOp g fa fb) := fun hK hM =>
 peI (Cr ho (ha hK hM) (hb hK hM)) fun _ _ _ q => yd (hg hK) q
theorem fS {op : UnaryOp} {r : V → Hp → VK → Prop} {g : PyData → R OD} (ho : UnR X (unaryOp op) r) (hg : X.K = M.K → Ok1 M r g) (ha : DE M X a fa) : DE M X (.UnaryOp op a pos) (eUn g fa) := fun hK hM =>
 peI (CF ho (ha hK hM)) fun _ _ _ q => FC (hg hK) q
theorem qy {op : CmpOp} {r : R2} {g : PyData → PyData → R OD} (ho : OpR X (compareOp op) r) (hg : X.K = M.K → Ok2 M r g) (ha : DE M X a fa) (hb : DE M X b fb) (hm : behindInMarks op b = false) : DE M X (.Compare a [op] [b] pos) (eOp g fa fb) := fun hK hM =>
 peI (xx ho (ha hK hM) (hb hK hM) hm) fun _ _ _ q => yd (hg hK) q
theorem bz {op : CmpOp} {r : R2} {g : PyData → PyData → R OD} (ho : OpR X (compareOp op) r) (hg : X.K = M.K → Ok2 M r g) (ha : DE M X a fa) (hb : DE M X b fb) (hm : behindInMarks op b = false) : DT M X (.Compare a [op] [b] pos) (br (eOp g fa fb)) := fun hK hM =>
 ptI (xH ho (ha hK hM) (hb hK hM) hm) fun σ H Q q => by
  obtain ⟨F, ρ, fp, S, p⟩ := wt q;exact yd (hg hK) ⟨F, ρ, fp, S, p⟩
theorem l_ (h : DE M X e fa) (he : ∀ whole, isTrue e X.env whole = (do let v ← whole; standAt e.pos; holding [v] (truthy v)) := by intro _; rfl) : DT M X e (br fa) := fun hK hM => ptI (AS (h hK hM) he) fun _ _ _ q => d_b q
theorem oG (h : DT M X a ta) : DT M X (.UnaryOp .Not a pos) (lX ta) := fun hK hM => ptI (zj (h hK hM)) fun _ _ _ q => AD q
theorem nT (h : DT M X a ta) : DW M X (.BoolOp .And [a] pos) ta := fun hK hM => xU (h hK hM)
theorem qx (h : DT M X a ta) : DW M X (.BoolOp .Or [a] pos) ta := fun hK hM => zS (h hK hM)
theorem qF {rest : List Expr} (h : DT M X a ta) (k : DW M X (.BoolOp .And (b :: rest) pos) tb) : DW M X (.BoolOp .And (a :: b :: rest) pos) (lz ta tb) := fun hK hM => pwI (Aq (h hK hM) (k hK hM)) fun _ _ _ q => Bx q
theorem rP {rest : List Expr} (h : DT M X a ta) (k : DW M X (.BoolOp .Or (b :: rest) pos) tb) : DW M X (.BoolOp .Or (a :: b :: rest) pos) (pV ta tb) := fun hK hM => pwI (BY (h hK hM) (k hK hM)) fun _ _ _ q => C1 q
theorem sM (h : DW M X e ta) : DT M X e ta := fun hK hM => (h hK hM).pt
theorem BO {op} (h : DE M X a fa) : DE M X (.BoolOp op [a] pos) fa := fun hK hM => AX (h hK hM)
theorem A_ {rest : List Expr} (h : DE M X a fa) (k : DE M X (.BoolOp .And (b :: rest) pos) fb) : DE M X (.BoolOp .And (a :: b :: rest) pos) (vz fa fb) := fun hK hM => peI (A2 (h hK hM) (k hK hM)) fun _ _ _ q => B5 q
theorem BQ (h : DE M X a fa) : DE M X (.UnaryOp .Not a pos) (wy fa) := fun hK hM => peI (zh (h hK hM)) fun _ _ _ q => Dl q
theorem aj : DA M X [] az := fun _ _ => paI oh fun _ _ _ q => Bl q
theorem ab (h : DE M X e fa) (r : DA M X es al) (hs : starEach (e :: es) X.env = (false, eval e X.env) :: starEach es X.env := by rfl) : DA M X (e :: es) (ah fa al) := fun hK hM => paI (jX (h hK hM) (r hK hM) hs) fun _ _ _ q => wY q
theorem e8 {x1} (h : DA M X es al) : DE M X (.Tuple es x1 pos) (iz al) := fun hK hM => peI (A5 (h hK hM)) fun _ _ _ q => Ds q
theorem bQ (h : DA M X es al) : DE M X (.List es pos) (eR al) := fun hK hM => peI (BM (h hK hM)) fun _ _ _ q => CW q
theorem gH : DO M X none iF := fun _ _ => poI ye fun _ _ _ q => xM q
theorem gG (h : DE M X e fa) : DO M X (some e) (iy fa) := fun hK hM => poI (xB (h hK hM)) fun _ _ _ q => wW q
theorem kH {r : V → Option Int → Option Int → Hp → VK → Prop} {g : PyData → Option Int → Option Int → R OD} {lo hi : Option Expr} {fl fh : Fo} {p2 : Pos} (hr : SlR X r) (hg : X.K = M.K → OkS M r g) (h : DE M X e fa) (hl : DO M X lo fl) (hh : DO M X hi fh) :
  DE M X (.Subscript e (.Slice lo hi none p2) pos) (eSl g fa fl fh) := fun hK hM => peI (uw hr (h hK hM) (hl hK hM) (hh hK hM)) fun _ _ _ q => EO (hg hK) q
theorem ay {r : R2} {g : PyData → PyData → R OD} (hr : IxR X r) (hg : X.K = M.K → Ok2 M r g) (ha : DE M X a fa) (hb : DE M X b fb) (hs : k7 b) : DE M X (.Subscript a b pos) (eOp g fa fb) := fun hK hM =>
 peI (r9 hr (ha hK hM) (hb hK hM) hs) fun _ _ _ q => yd (hg hK) q
theorem aZ {id : String} {x : Str} {p : Pos} {r : List V → Hp → VK → Prop} {g : List PyData → R OD} (hc : ed X (.builtin id) r) (ho : X.K = M.K → OkC M r g) (hg : Gl X x) (hm : X.mg x = none) (hv : bootBuiltins x = some (.builtin id)) (ha : DA M X (e :: es) al)
  (hn : x ≠ "__name__" := by decide) (hdb : (x == ("__debug__" : Str)) = false := by decide) (he : starEach (e :: es) X.env = (false, eval e X.env) :: starEach es X.env := by rfl) (hpl : (backTo pos (starEach es X.env)).any (·.1) = false := by rfl) :
  DE M X (.Call (.Name x p) (e :: es) [] pos) (eB g al) := fun hK hM => peI (pN hc hg hm hv (ha hK hM) hn hdb he hpl) fun _ _ _ q => CK (ho hK) q
theorem vx {T : String} {x : Str} {p : Pos} {r : List V → Hp → VK → Prop} {g : List PyData → R OD} (hc : ed X (.type T) r) (ho : X.K = M.K → OkC M r g) (hg : Gl X x) (hm : X.mg x = none) (hv : bootBuiltins x = some (.type T)) (ha : DA M X (e :: es) al)
  (hn : x ≠ "__name__" := by decide) (hdb : (x == ("__debug__" : Str)) = false := by decide) (he : starEach (e :: es) X.env = (false, eval e X.env) :: starEach es X.env := by rfl) (hpl : (backTo pos (starEach es X.env)).any (·.1) = false := by rfl) :
  DE M X (.Call (.Name x p) (e :: es) [] pos) (eB g al) := fun hK hM => peI (t4 hc hg hm hv (ha hK hM) hn hdb he hpl) fun _ _ _ q => CK (ho hK) q
theorem aK {CX : CXT} {k : Nat} {f : Addr} {fd : FuncData} {ps : List Str} {x : Str} {p : Pos} {fn : Fn} (F : FnOk X.prog X.w M.K M.mg X.base CX k f fd ps (sp3 M.K M.mg fn)) (hr : Room k X.A) (hg : Gl X x) (hm : M.mg x = some (.ref f)) (hk : PySem.W.keepIn M.K (.ref f) = true)
  (hb : Binds M.K fd ps []) (hx : Passes CX X M.E) (ha : DA M X (e :: es) al)
  (hdb : (x == ("__debug__" : Str)) = false := by decide) (he : starEach (e :: es) X.env = (false, eval e X.env) :: starEach es X.env := by rfl) (hpl : (backTo pos (starEach es X.env)).any (·.1) = false := by rfl) :
  DE M X (.Call (.Name x p) (e :: es) [] pos) (bt fn al) := fun hK hM => by
 have F' : FnOk X.prog X.w X.K X.mg X.base CX k f fd ps (sp3 M.K M.mg fn) := by
  rw [hK, hM];exact F
 exact peI (ym F' hr hg (by rw [hM]; exact hm) (by rw [hK]; exact hk) (by rw [hK]; exact hb) .nil hx (ha hK hM) hdb he hpl) fun _ _ _ q => A6 q
theorem cM {tg : Expr} (h : DE M X e fa) : DI M X tg e (fZ fa) := fun hK hM => by
 have q := rB (tg := tg) (h hK hM);rw [hK] at q;exact fun pins s σ H R' I z => q pins s σ H R' I (Au z)
theorem gf {tg : Expr} {p : Pos} (hg : Gl X "range") (hm : X.mg "range" = none) (h : DE M X a fa) (hs1 : starEach [a] X.env = (false, eval a X.env) :: starEach [] X.env := by rfl) (hs : starEach [a] X.env = [(false, eval a X.env)] := by rfl) : DI M X tg (.Call (.Name "range" p) [a] [] pos) (iR1 fa) := fun hK hM =>
 fun pins s σ H R' I z => sG hg hm ((ab h aj hs1) hK hM) hs pins s σ H R' I (Fv z)
theorem m_ {tg : Expr} {p : Pos} (hg : Gl X "range") (hm : X.mg "range" = none) (h : DE M X a fa) (k : DE M X b fb) (hs1 : starEach [a, b] X.env = (false, eval a X.env) :: starEach [b] X.env := by rfl) (hs0 : starEach [b] X.env = (false, eval b X.env) :: starEach [] X.env := by rfl)
  (hs : starEach [a, b] X.env = [(false, eval a X.env), (false, eval b X.env)] := by rfl) (hs2 : starEach [b] X.env = [(false, eval b X.env)] := by rfl) : DI M X tg (.Call (.Name "range" p) [a, b] [] pos) (iR2 fa fb) := fun hK hM =>
 fun pins s σ H R' I z => su hg hm ((ab h (ab k aj hs0) hs1) hK hM) hs hs2 pins s σ H R' I (Fm z)
theorem rk {ts : List Expr} {tk : Nat} {p tpos : Pos} (hg : Gl X "enumerate") (hm : X.mg "enumerate" = none) (h : DE M X a fa) (hs1 : starEach [a] X.env = (false, eval a X.env) :: starEach [] X.env := by rfl) (hs : starEach [a] X.env = [(false, eval a X.env)] := by rfl) :
  DI M X (.Tuple ts tk tpos) (.Call (.Name "enumerate" p) [a] [] pos) (iEn fa) := fun hK hM => by
 have q := w9 (es := ts) (k := tk) (tpos := tpos) (p := p) (pos := pos) hg hm ((ab h aj hs1) hK hM) hs;rw [hK] at q;exact fun pins s σ H R' I z => q pins s σ H R' I (zx z)
theorem lI {ts : List Expr} {tk : Nat} {p tpos : Pos} (hg : Gl X "zip") (hm : X.mg "zip" = none) (h : DE M X a fa) (k : DE M X b fb) (hs1 : starEach [a, b] X.env = (false, eval a X.env) :: starEach [b] X.env := by rfl) (hs0 : starEach [b] X.env = (false, eval b X.env) :: starEach [] X.env := by rfl)
  (hs : starEach [a, b] X.env = [(false, eval a X.env), (false, eval b X.env)] := by rfl) (hs2 : starEach [b] X.env = [(false, eval b X.env)] := by rfl) : DI M X (.Tuple ts tk tpos) (.Call (.Name "zip" p) [a, b] [] pos) (iZp fa fb) := fun hK hM => by
 have q := Ae (es := ts) (k := tk) (tpos := tpos) (p := p) (pos := pos) hg hm ((ab h (ab k aj hs0) hs1) hK hM) hs hs2;rw [hK] at q;exact fun pins s σ H R' I z => q pins s σ H R' I (Dq z)
theorem pU {α : Type} {N : List α} {i : Nat} {x : α} (h : N[i]? = some x) : i < N.length := (List.getElem?_eq_some_iff.mp h).1
theorem pgI {tg : Expr} {t t' : TG} (h : PG X tg t) (k : ∀ v σ H Q, t' v σ H Q → t v σ H Q) : PG X tg t' := fun pins s σ H v u Q I r q => h pins s σ H v u Q I r (k _ _ _ _ q)
theorem Dj {tg : List Expr} {t t' : TGs} (h : PGs X tg t) (k : ∀ v σ H Q, t' v σ H Q → t v σ H Q) : PGs X tg t' := fun pins s σ H v u Q I r q => h pins s σ H v u Q I r (k _ _ _ _ q)
theorem av {i : Nat} {x : Str} (hN : X.N.Nodup) (hi : X.N[i]? = some x) (hx : Loc X.env.scope x) (hf : X.fn x = true ∨ X.env.scope.names.lookup x = some .local := by first | exact .inl rfl | exact .inr rfl | assumption) : DG M X (.Name x pos) [i] (gNm i) := fun _ _ =>
 pgI (rT hN hi hx hf) fun _ _ _ _ q => uO (pU hi) q
theorem e6 : DGs M X [] [] gE := fun _ _ => Dj xt fun _ _ _ _ q => DZ q
theorem aR {is js : List Nat} {g : Fg} {gs : Fgs} (h : DG M X e is g) (k : DGs M X es js gs)
  (hs : (assignEach (e :: es) X.env).map (·.2) = assign e X.env :: (assignEach es X.env).map (·.2) := by rfl) : DGs M X (e :: es) (is ++ js) (bD g gs) := fun hK hM =>
 Dj (ub (h hK hM) (k hK hM) hs) fun _ _ _ _ q => AB q
theorem gj {is : List Nat} {gs : Fgs} {k n : Nat} (hc : X.calm = true) (h : DGs M X es is gs) (hn : (assignEach es X.env).length = n := by rfl) (hst : (assignEach es X.env).findIdx? (·.1) = none := by rfl) : DG M X (.Tuple es k pos) is (gTp n gs) := fun hK hM => by
 have q := AK (pos := pos) (k := k) hc (h hK hM) hn hst;rw [hK] at q;exact pgI q fun _ _ _ _ z => D1 z
variable {st : Stmt} {rest sa sb : List Stmt} {f g : Fs}
theorem b_ : DSs M X [] sNx := fun _ _ => Et wX fun _ _ _ q => As q
theorem af (h : DS M X st f) (k : DSs M X rest g) : DSs M X (st :: rest) (aE f g) := fun hK hM => Et (ud (h hK hM) (k hK hM)) fun _ _ _ q => B6 q
theorem ar (h : DS M X st f) : DSs M X [st] f := fun hK hM => xR (h hK hM)
theorem xy : DS M X (.Continue pos) sCt := fun _ _ => psI oT fun _ _ _ q => ET q
theorem uI : DS M X st zN := fun _ _ => psI vP fun _ _ _ q => C6 q
theorem xV (h : DE M X e fa) (hs : swapsWith e none pos.line X.env = pure false := by rfl) : DS M X (.Expr e pos) (rY fa) := fun hK hM => psI (rR (h hK hM) hs) fun _ _ _ q => z7 q
theorem bN (h : DE M X e fa) : DS M X (.Return (some e) pos) (e_ fa) := fun hK hM => psI (vk (h hK hM)) fun _ _ _ q => CO q
theorem eG (i : Nat) {x : Str} {p : Pos} (hN : X.N[i]? = some x := by rfl) (hv : Vis X.env.scope x := by first | exact Or.inl rfl | exact Or.inr (Or.inl rfl) | exact Or.inr (Or.inr rfl)) (hd : (x == ("__debug__" : Str)) = false := by decide)
  (hcd : (x == ("__classdict__" : Str)) = false := by decide) : DS M X (.Return (some (.Name x p)) pos) (fm i) := fun _ _ => psI (vk (gx hN hv hd hcd)) fun _ _ _ q => zV q
theorem eZ (h : DT M X c ta) (ha : DSs M X sa f) (hb : DSs M X sb g) : DS M X (.If c sa sb pos) (sIf ta f g) := fun hK hM => psI (Dt (h hK hM) (ha hK hM) (hb hK hM)) fun _ _ _ q => E8 q
theorem kq (i : Nat) (h : DS M X st f) : DS M X st (mU i f) := fun hK hM => psI (h hK hM) fun _ _ _ q => Dv q
theorem aw {i : Nat} {x : Str} {p : Pos} (hN : X.N.Nodup) (hi : X.N[i]? = some x) (hx : Loc X.env.scope x) (h : DE M X e fa) (hs : swapsWith e (some (.Name x p)) pos.line X.env = pure false := by rfl)
  (hf : X.fn x = true ∨ X.env.scope.names.lookup x = some .local := by first | exact .inl rfl | exact .inr rfl | assumption) : DS M X (.Assign [.Name x p] e pos) (aJ i fa) := fun hK hM =>
 psI (BJ hN hi hx (h hK hM) hs hf) fun _ _ _ q => r_ (pU hi) q
theorem BR {tg : Expr} {is : List Nat} {gg : Fg} (h : DE M X e fa) (hg : DG M X tg is gg) (hs : swapsWithSole [tg] e pos.line X.env = pure false := by rfl) (hw : swappedStores [tg] e X.env = pure none := by rfl) (h1 : (assignEach [tg] X.env).map (·.2) = [assign tg X.env] := by rfl) : DS M X (.Assign [tg] e pos) (sX fa gg) := fun hK hM =>
 psI (qu (h hK hM) (hg hK hM) hs hw h1) fun _ _ _ q => yU q
theorem cR {tg iter : Expr} {it : Fi} {is : List Nat} {gg : Fg} {body : List Stmt} (hc : X.calm = true) (hp : PassesOwn (model X.prog X.w) X.A X.env X.xe) (hi : DI M X tg iter it) (hg : DG M X tg is gg) (hb : DSs M X body f) (hs : ∀ x, foldedSetIterable iter X.env x = pure x := by intro _; rfl) : DS M X (.For tg iter body [] pos) (fM it gg f) := fun hK hM =>
 psI (AL hp hc (hi hK hM) (hg hK hM) (hb hK hM) hs) fun _ _ _ q => EG q
theorem pH {body : List Stmt} (hp : PassesOwn (model X.prog X.w) X.A X.env X.xe) (h : DT M X c ta) (hb : DSs M X body f) : DS M X (.While c body [] pos) (gh ta f) := fun hK hM =>
 psI (vc hp (h hK hM) (hb hK hM)) fun _ _ _ q => xP q
variable {x : Str} {p ap cp : Pos}
theorem zw {o : Expr} {to : TE} {t : TA} {name : Str} {id : String} {r : V → List V → Hp → VK → Prop} (slot : Slot "list" name id) (hty : typeOf (.builtin id) = pure (.type "method_descriptor")) (hm : MtR X id r) (ho : PE X o to) (ha : PA X [e] t) (k : ∀ D σ H, tS M X.N.length f D σ H → nt (tBM M.K "list" r to t) D σ H)
  (hbase : attributeBase o name X.env (eval o X.env) = eval o X.env)
  (hfew : ((backTo cp (starEach [e] X.env)).all (fun x => !x.1) && (backToKw cp (keywordEach [] X.env)).all (fun x => x.1.isSome) && decide (([e] : List Expr).length + ([] : List Keyword).length + (if ([] : List Keyword).isEmpty then 0 else 1) < 30)) = true)
  (hline : (ap.endLine == cp.line) = true) (hs : starEach [e] X.env = (false, eval e X.env) :: starEach [] X.env) (hplain : (backTo cp (starEach [] X.env)).any (·.1) = false)
  (hsw : swapsWith (.Call (.Attribute o name ap) [e] [] cp) none pos.line X.env = pure false) (hK : X.K = M.K) : PS X (.Expr (.Call (.Attribute o name ap) [e] [] cp) pos) (tS M X.N.length f) := by
 have q := yG (apos := ap) (cpos := cp) PySem.F.plainAttrs_list slot hty hm ho ha hbase hfew hline hs hplain;rw [hK] at q;exact psI (rR q hsw) k
theorem zO (h : DE M X e fa) (hs : starEach [e] X.env = (false, eval e X.env) :: starEach [] X.env) (hK : X.K = M.K) (hM : X.mg = M.mg) : PA X [e] (kL (tD M X.N.length fa) qt) := jX (h hK hM) oh hs
theorem fu (i : Nat) (h : DE M X e fa) (hN : X.N[i]? = some x := by rfl) (hv : Vis X.env.scope x := by first | exact Or.inl rfl | exact Or.inr (Or.inl rfl) | exact Or.inr (Or.inr rfl)) (hd : (x == ("__debug__" : Str)) = false := by decide) (hcd : (x == ("__classdict__" : Str)) = false := by decide)
  (hbase : attributeBase (.Name x p) "append" X.env (eval (.Name x p) X.env) = eval (.Name x p) X.env := by rfl)
  (hfew : ((backTo cp (starEach [e] X.env)).all (fun x => !x.1) && (backToKw cp (keywordEach [] X.env)).all (fun x => x.1.isSome) && decide (([e] : List Expr).length + ([] : List Keyword).length + (if ([] : List Keyword).isEmpty then 0 else 1) < 30)) = true := by rfl)
  (hline : (ap.endLine == cp.line) = true := by rfl) (hs : starEach [e] X.env = (false, eval e X.env) :: starEach [] X.env := by rfl) (hplain : (backTo cp (starEach [] X.env)).any (·.1) = false := by rfl)
  (hsw : swapsWith (.Call (.Attribute (.Name x p) "append" ap) [e] [] cp) none pos.line X.env = pure false := by rfl) : DS M X (.Expr (.Call (.Attribute (.Name x p) "append" ap) [e] [] cp) pos) (ib i fa) := fun hK hM =>
 zw PySem.F.slot_list_append PySem.F.type_list_append i8 (gx hN hv hd hcd) (zO h hs hK hM) (fun _ _ _ q => CL q) hbase hfew hline hs hplain hsw hK
theorem wd {p2 : Pos} (i : Nat) (hb : DE M X b fb) (h : DE M X e fa) (hix : k7 b) (hN : X.N[i]? = some x := by rfl) (hv : Vis X.env.scope x := by first | exact Or.inl rfl | exact Or.inr (Or.inl rfl) | exact Or.inr (Or.inr rfl)) (hd : (x == ("__debug__" : Str)) = false := by decide) (hcd : (x == ("__classdict__" : Str)) = false := by decide)
  (hbase : attributeBase (.Subscript (.Name x p) b p2) "append" X.env (eval (.Subscript (.Name x p) b p2) X.env) = eval (.Subscript (.Name x p) b p2) X.env := by rfl)
  (hfew : ((backTo cp (starEach [e] X.env)).all (fun x => !x.1) && (backToKw cp (keywordEach [] X.env)).all (fun x => x.1.isSome) && decide (([e] : List Expr).length + ([] : List Keyword).length + (if ([] : List Keyword).isEmpty then 0 else 1) < 30)) = true := by rfl)
  (hline : (ap.endLine == cp.line) = true := by rfl) (hs : starEach [e] X.env = (false, eval e X.env) :: starEach [] X.env := by rfl) (hplain : (backTo cp (starEach [] X.env)).any (·.1) = false := by rfl)
  (hsw : swapsWith (.Call (.Attribute (.Subscript (.Name x p) b p2) "append" ap) [e] [] cp) none pos.line X.env = pure false := by rfl) : DS M X (.Expr (.Call (.Attribute (.Subscript (.Name x p) b p2) "append" ap) [e] [] cp) pos) (ke i fb fa) := fun hK hM =>
 zw PySem.F.slot_list_append PySem.F.type_list_append i8 (r9 (lF M.K hK) (gx hN hv hd hcd) (hb hK hM) hix) (zO h hs hK hM) (fun _ _ _ q => xO q) hbase hfew hline hs hplain hsw hK
theorem wu {tg : Expr} {is : List Nat} {gg : Fg} (i : Nat) (hg : DG M X tg is gg) (hN : X.N[i]? = some x := by rfl) (hv : Vis X.env.scope x := by first | exact Or.inl rfl | exact Or.inr (Or.inl rfl) | exact Or.inr (Or.inr rfl)) (hd : (x == ("__debug__" : Str)) = false := by decide) (hcd : (x == ("__classdict__" : Str)) = false := by decide)
  (hbase : attributeBase (.Name x p) "pop" X.env (eval (.Name x p) X.env) = eval (.Name x p) X.env := by rfl) (hline : (ap.endLine == cp.line) = true := by rfl)
  (hs : swapsWithSole [tg] (.Call (.Attribute (.Name x p) "pop" ap) [] [] cp) pos.line X.env = pure false := by rfl) (hw : swappedStores [tg] (.Call (.Attribute (.Name x p) "pop" ap) [] [] cp) X.env = pure none := by rfl) (h1 : (assignEach [tg] X.env).map (·.2) = [assign tg X.env] := by rfl) :
  DS M X (.Assign [tg] (.Call (.Attribute (.Name x p) "pop" ap) [] [] cp) pos) (qj i gg) := fun hK hM => by
 have q := BK (apos := ap) (cpos := cp) PySem.F.plainAttrs_list PySem.F.slot_list_pop PySem.F.type_list_pop AW (gx (pos := p) hN hv hd hcd) hbase hline;rw [hK] at q;exact psI (qu q (hg hK hM) hs hw h1) fun _ _ _ z => s_pop z
theorem qI {p2 : Pos} (i : Nat) (hb : DE M X b fb) (h : DE M X e fa) (hN : X.N[i]? = some x := by rfl) (hv : Vis X.env.scope x := by first | exact Or.inl rfl | exact Or.inr (Or.inl rfl) | exact Or.inr (Or.inr rfl)) (hd : (x == ("__debug__" : Str)) = false := by decide) (hcd : (x == ("__classdict__" : Str)) = false := by decide)
  (hs : swapsWithSole [.Subscript (.Name x p) b p2] e pos.line X.env = pure false := by rfl) (hw : swappedStores [.Subscript (.Name x p) b p2] e X.env = pure none := by rfl)
  (ha : ∀ v, assign (.Subscript (.Name x p) b p2) X.env v = (do
   let ov ← holding [v] (eval (.Name x p) X.env)
   let iv ← holding [v, ov] (eval b X.env)
   standAt p2
   holding [v, ov, iv] (setItem ov iv v)
   release [v, ov, iv] []) := by intro _; rfl) (h1 : (assignEach [.Subscript (.Name x p) b p2] X.env).map (·.2) = [assign (.Subscript (.Name x p) b p2) X.env] := by rfl) : DS M X (.Assign [.Subscript (.Name x p) b p2] e pos) (o8 i fb fa) := fun hK hM =>
 psI (qu (h hK hM) (Ay (gx hN hv hd hcd) (hb hK hM) set_list ha) hs hw h1) fun _ _ _ q => BW q
variable {sc scope : Scope} {outs : List (Nat × Str)} {elt tg iter : Expr} {ifs : List Expr} {it : Fi} {gg : Fg} {is : List Nat} {el : Fe}
theorem cX : DF M X [] dt := fun _ _ => fun pins s σ H Q I q => uz pins s σ H Q I (by
 obtain ⟨F, ρ, fp, S, p⟩ := q;exact p F H (Ext.refl S.same))
theorem kB (h : DT M X c ta) : DF M X [c] ta := fun hK hM => BP (h hK hM)
theorem kg (own : List Str) (s : Shared) (H : Hp) (C : Addr) (ex : List Addr) (pins : List (Addr × Obj)) : (cxB X (own ++ outs.map (·.2)) scope s H C ex pins).N.length = own.length + outs.length := by
 show (own ++ outs.map (·.2)).length = _
 rw [List.length_append, List.length_map]
theorem cW (own : List Str) (B : Blk X sc scope outs) (hcalm : X.calm = true) (hk : ∀ j ∈ is, j < own.length) (hi : DI M X tg iter it)
  (hg : ∀ s H C ex pins, DG M (cxB X (own ++ outs.map (·.2)) scope s H C ex pins) tg is gg) (hc : ∀ s H C ex pins, DF M (cxB X (own ++ outs.map (·.2)) scope s H C ex pins) ifs ta) (he : ∀ s H C ex pins, DE M (cxB X (own ++ outs.map (·.2)) scope s H C ex pins) elt el)
  (hs : ∀ x, foldedSetIterable iter X.env x = pure x := by intro _; rfl) : DE M X (.ListComp elt [⟨tg, iter, ifs, 0⟩] scope pos) (bT it gg ta el own.length (outs.map (·.1))) := fun hK hM =>
 peI (wL (wi := tI M X.N.length it) (g := tG M (own.length + outs.length) is gg) (tc := tT M (own.length + outs.length) ta) (te := tD M (own.length + outs.length) el) own B hcalm (hi hK hM)
  (fun s H C ex pins => by have q := hg s H C ex pins hK hM; rw [kg] at q; exact q) (fun s H C ex pins => by have q := hc s H C ex pins hK hM; rw [kg] at q; exact q) (fun s H C ex pins => by have q := he s H C ex pins hK hM; rw [kg] at q; exact q) hs) fun _ _ _ q => nX hk q
theorem gO {fe : Fe} {i : Nat} {spos : Pos} (own : List Str) (w : ∀ σ H Q, tD M X.N.length fe σ H Q → tD M X.N.length (bT it gg ta el own.length (outs.map (·.1))) σ H Q) (hN : X.N.Nodup) (hix : X.N[i]? = some x) (hx : Loc X.env.scope x) (B : Blk X sc scope outs) (hcalm : X.calm = true) (hk : ∀ j ∈ is, j < own.length) (hi : DI M X tg iter it)
  (hg : ∀ s H C ex pins, DG M (cxB X (own ++ outs.map (·.2)) scope s H C ex pins) tg is gg) (hc : ∀ s H C ex pins, DF M (cxB X (own ++ outs.map (·.2)) scope s H C ex pins) ifs ta) (he : ∀ s H C ex pins, DE M (cxB X (own ++ outs.map (·.2)) scope s H C ex pins) elt el)
  (hsw : swapsWith (.ListComp elt [⟨tg, iter, ifs, 0⟩] scope pos) (some (.Name x p)) spos.line X.env = pure true := by rfl)
  (hs : ∀ x, foldedSetIterable iter X.env x = pure x := by intro _; rfl) (hf : X.fn x = true ∨ X.env.scope.names.lookup x = some .local := by first | exact .inl rfl | exact .inr rfl | assumption) :
  DS M X (.Assign [.Name x p] (.ListComp elt [⟨tg, iter, ifs, 0⟩] scope pos) spos) (aJ i fe) := fun hK hM =>
 psI (rH (wi := tI M X.N.length it) (g := tG M (own.length + outs.length) is gg) (tc := tT M (own.length + outs.length) ta) (te := tD M (own.length + outs.length) el) own hN hix hx B hcalm (hi hK hM)
  (fun s H C ex pins => by have q := hg s H C ex pins hK hM; rw [kg] at q; exact q) (fun s H C ex pins => by have q := hc s H C ex pins hK hM; rw [kg] at q; exact q) (fun s H C ex pins => by have q := he s H C ex pins hK hM; rw [kg] at q; exact q) hsw hs hf) fun D σ H q => by
  have q' := r_ (pU hix) q;exact nX hk (w _ _ _ q')
end
end L3
namespace L3
open PySem L2 PySem.Spec PyProof.Rows
noncomputable def oI (i : Int) : R OD := .ok (.sh (.int i))
noncomputable def oB (b : Bool) : R OD := .ok (.sh (.bool b))
noncomputable def oD (d : PyData) : R OD := .ok (.sh d)
noncomputable def bB : PyData → PyData → R OD
 | .int i, .int j => oI (i + j)
 | .str x, .str y => if x.length + y.length ≤ BIG then oD (.str (x ++ y)) else .bad
 | .list xs, .list ys => if xs.length + ys.length ≤ BIG then .ok (.ol ((xs ++ ys).map OD.sh)) else .bad
 | _, _ => .bad
noncomputable def eO : PyData → PyData → R OD
 | .int i, .int j => oI (i - j)
 | _, _ => .bad
noncomputable def gq (i j : Int) : Bool := (decide (-(2 ^ 64) < i) && decide (i < 2 ^ 64)) || (decide (-(2 ^ 64) < j) && decide (j < 2 ^ 64))
noncomputable def eS : PyData → PyData → R OD
 | .int i, .int j => if gq i j = true then oI (i * j) else .bad
 | .list xs, .int k => if (decide (-(2 ^ 63) ≤ k) && decide (k < 2 ^ 63) && decide (xs.length * k.toNat ≤ BIG)) = true then .ok (.ol ((List.replicate k.toNat xs).flatten.map OD.sh)) else .bad
 | _, _ => .bad
noncomputable def ft : PyData → PyData → R OD
 | .int i, .int j => if 0 < j then oI (i % j) else .bad
 | _, _ => .bad
noncomputable def gR : PyData → PyData → R OD
 | .int i, .int j => if 0 < j ∧ j < 1073741824 then oI (i / j) else .bad
 | _, _ => .bad
noncomputable def uk : PyData → PyData → R OD
 | .int i, .int j => if 0 ≤ j ∧ j ≤ 1000000 ∧ i.natAbs < 2 ^ 64 then oI (i ^ j.toNat) else .bad
 | _, _ => .bad
noncomputable def fK : PyData → R OD
 | .int i => oI (-i)
 | _ => .bad
noncomputable def gLt : PyData → PyData → R OD
 | .int i, .int j => oB (decide (i < j))
 | _, _ => .bad
noncomputable def gLe : PyData → PyData → R OD
 | .int i, .int j => oB (decide (i ≤ j))
 | _, _ => .bad
noncomputable def gGt : PyData → PyData → R OD
 | .int i, .int j => oB (decide (j < i))
 | _, _ => .bad
noncomputable def gGe : PyData → PyData → R OD
 | .int i, .int j => oB (decide (j ≤ i))
 | _, _ => .bad
noncomputable def gW (x y : PyData) : R Bool := if (SeqAt.shaped x && SeqAt.shaped y) = true then .ok (PyData.eqv x y) else .bad
noncomputable def eqD : PyData → PyData → R Bool
 | .int i, .int j => .ok (decide (i = j))
 | .str x, .str y => .ok (decide (x = y))
 | .bool x, .bool y => .ok (decide (x = y))
 | x, y => gW x y
noncomputable def gEq (x y : PyData) : R OD := (eqD x y).bind fun b => oB b
noncomputable def gNe (x y : PyData) : R OD := (eqD x y).bind fun b => oB (!b)
noncomputable def ju (o : Option PyData) : R OD := match o with
 | some d => oD d
 | none => .bad
noncomputable def gIx : PyData → PyData → R OD
 | .list xs, .int i => ju (atI xs i)
 | .tuple xs, .int i => ju (atI xs i)
 | .str z, .int i => if z.length ≤ BIG then ju ((atI z.cps.toList i).map fun c => .str ⟨#[c]⟩) else .bad
 | _, _ => .bad
noncomputable def cutD (xs : List PyData) (lo hi : Option Int) : List PyData := (xs.drop (HT.sIx xs.length 0 lo)).take (HT.sIx xs.length xs.length hi - HT.sIx xs.length 0 lo)
noncomputable def lN (x : PyData) (lo hi : Option Int) : R OD := match x with
 | .list xs => .ok (.ol ((cutD xs lo hi).map OD.sh))
 | _ => .bad
noncomputable def cH : List PyData → R OD
 | [.list xs] => oI xs.length
 | [.tuple xs] => oI xs.length
 | [.str x] => if x.length ≤ BIG then oI x.length else .bad
 | _ => .bad
noncomputable def rV : List PyData → R OD
 | [.int i, .int j] => oI (if j < i then j else i)
 | _ => .bad
noncomputable def pX : List PyData → R OD
 | [.int i, .int j] => oI (if i < j then j else i)
 | _ => .bad
noncomputable def dZ : List PyData → Option (List Int)
 | [] => some []
 | .int i :: r => (dZ r).map (i :: ·)
 | _ :: _ => none
theorem gI : ∀ ns : List Int, dZ (ns.map PyData.int) = some ns
 | [] => rfl
 | n :: ns => by rw [List.map_cons, dZ, gI ns]; rfl
theorem jF : ∀ {ds : List PyData} {ns : List Int}, dZ ds = some ns → ds = ns.map PyData.int
 | [], ns, h => by cases h; rfl
 | .int i :: r, ns, h => by
  rw [dZ] at h;obtain ⟨ms, h1, rfl⟩ := Option.map_eq_some_iff.mp h;rw [jF h1];rfl
 | .none :: _, _, h => by cases h
 | .bool _ :: _, _, h => by cases h
 | .str _ :: _, _, h => by cases h
 | .list _ :: _, _, h => by cases h
 | .tuple _ :: _, _, h => by cases h
 | .dict _ :: _, _, h => by cases h
noncomputable def iA : Int → List Int → Int
 | m, [] => m
 | m, n :: ns => iA (if m < n then n else m) ns
noncomputable def nW : Int → List Int → Int
 | m, [] => m
 | m, n :: ns => nW (if n < m then n else m) ns
noncomputable def jw : List PyData → R OD
 | [.list ds] => match dZ ds with
  | some (n :: ns) => oI (iA n ns)
  | _ => .bad
 | _ => .bad
noncomputable def jq : List PyData → R OD
 | [.list ds] => match dZ ds with
  | some (n :: ns) => oI (nW n ns)
  | _ => .bad
 | _ => .bad
noncomputable def jh : List PyData → R OD
 | [.list ds] => .ok (.ol (ds.map OD.sh))
 | [.tuple ds] => .ok (.ol (ds.map OD.sh))
 | _ => .bad
noncomputable def sE : List PyData → R OD
 | [.int i] => oI i
 | [.bool b] => oI (if b then 1 else 0)
 | _ => .bad
noncomputable def mK (ds : List PyData) (y : PyData) : R OD := match y with
 | .int z => match dZ ds with
  | some ns => if z ∈ ns then oI (ns.idxOf z : Nat) else .bad
  | none => .bad
 | _ => .bad
noncomputable def yH : PyData → Option String
 | .int _ => some "int"
 | .bool _ => some "bool"
 | .str _ => some "str"
 | .list _ => some "list"
 | .tuple _ => some "tuple"
 | .none => some "NoneType"
 | .dict _ => none
noncomputable def ya (T : String) (d : PyData) : Option Bool := match yH d with
 | some U => if T = "int" ∨ T = "bool" ∨ T = "str" ∨ T = "list" ∨ T = "tuple" then some (decide (T = U ∨ (U = "bool" ∧ T = "int"))) else none
 | none => none
noncomputable def ia (T : String) (x : PyData) : R OD := match ya T x with
 | some b => oB b
 | none => .bad
section
variable {M : Mx} {X : Cx}
theorem okI {F H : Hp} {fp : List Addr} {Q : VK} {i : Int} (s : aN F H) (p : aA M H fp (OkE M F H Q) (oI i)) : Q (.int i) H := OkE.val s p (.int i)
theorem okB {F H : Hp} {fp : List Addr} {Q : VK} {i : Bool} (s : aN F H) (p : aA M H fp (OkE M F H Q) (oB i)) : Q (.bl i) H := OkE.val s p (.bl i)
noncomputable def yS (K : PySem.W.Frag) : R2 := fun x y H Q => ∃ l b xs zs, x = .ref l ∧ y = .ref b ∧ RdK K H l xs ∧ RdK K H b zs ∧ xs.length + zs.length ≤ sizeLine ∧ ∀ p, H p = none → Q (.ref p) (upd H p (.lst (xs ++ zs)))
theorem x_ : OpR X (binaryOp .Add) (yS X.K) := by
 intro pins s σ H x y v u Q I rx ry h;obtain ⟨l, b, xs, zs, rfl, rfl, hH, hB, hz, q⟩ := h;cases rx;cases ry;obtain ⟨z, its, n, r, hl, e⟩ := hH.obj I;obtain ⟨z2, its2, n2, r2, hl2, e2⟩ := hB.obj I;refine PySem.P.add_list e e2 ?_ (by rw [List.size_toArray, List.size_toArray]; lia)
 have ea : its.toArray ++ its2.toArray = (its ++ its2).toArray := by simp
 rw [ea];exact ⟨.ref _, _, I.lnew (t' := s.toks) (r.append r2) (by rw [List.length_append]; lia), rfl, q _ I.fresh⟩
noncomputable def yK (K : PySem.W.Frag) : R2 := fun x y H Q => rI0 (fun i j => .int (i + j)) x y H Q ∨ (∃ i j, x = .str i ∧ y = .str j ∧ i.length + j.length ≤ sizeLine ∧ Q (.str (i ++ j)) H) ∨ yS K x y H Q
theorem aC : OpR X (binaryOp .Add) (yK X.K) := Be.or (qB.or x_)
theorem aF (hK : X.K = M.K) : Ok2 M (yK X.K) bB := by
 rw [hK];intro x y dx dy F H fp Q s rx ry p;unfold bB at p;split at p
 ·cases rx; cases ry
  exact .inl ⟨_, _, rfl, rfl, okI s p⟩
 ·cases rx; cases ry
  split at p
  ·rename_i hl
   exact .inr (.inl ⟨_, _, rfl, rfl, iJ hl, OkE.val s p (.str _)⟩)
  ·exact p.elim
 ·split at p
  ·rename_i hl
   cases rx with
   | lst h1 h2 =>
    cases ry with
    | lst h3 h4 => exact .inr (.inr ⟨_, _, _, _, rfl, rfl, h1.same s, h3.same s, by rw [RepAll.len h2, RepAll.len h4]; exact iJ hl, fun a ha => OkE.lstD s p (RepAll.app h2 h4) ha⟩)
  ·exact p.elim
 ·exact p.elim
theorem fP : Ok2 M (rI0 fun i j => .int (i - j)) eO := by
 intro x y dx dy F H fp Q s rx ry p;unfold eO at p;split at p
 ·cases rx; cases ry
  exact ⟨_, _, rfl, rfl, okI s p⟩
 ·exact p.elim
theorem wK {i j : Int} (h : gq i j = true) : uM i j := by
 unfold gq at h;rw [Bool.or_eq_true, Bool.and_eq_true, Bool.and_eq_true, decide_eq_true_eq, decide_eq_true_eq, decide_eq_true_eq, decide_eq_true_eq] at h;exact h
noncomputable def yw (K : PySem.W.Frag) : R2 := fun x y H Q => ∃ l k xs, x = .ref l ∧ y = .int k ∧ RdK K H l xs ∧ -(2 ^ 63) ≤ k ∧ k < 2 ^ 63 ∧ xs.length * k.toNat ≤ sizeLine ∧
 ∀ p, H p = none → Q (.ref p) (upd H p (.lst (List.replicate k.toNat xs).flatten))
theorem yl : OpR X (binaryOp .Mult) (yw X.K) := by
 intro pins s σ H x y v u Q I rx ry h;obtain ⟨l, k, xs, rfl, rfl, hH, h1, h2, hz, q⟩ := h;cases rx;obtain ⟨t, rfl⟩ := ry;obtain ⟨z, its, n, r, hl, e⟩ := hH.obj I;have hlen : its.toArray.size * k.toNat ≤ sizeLine := by rw [List.size_toArray, ← hl]; exact hz
 have hcap : ¬ its.toArray.size * k.toNat > (2 ^ 63 - 1) / 8 := by
  have : (sizeLine : Nat) ≤ (2 ^ 63 - 1) / 8 := by decide
  lia
 have hfit : ¬ (!Builtin.List.listFitsIndex k) = true := by
  rw [fitsIndex_both h1 h2];exact Bool.false_ne_true
 have hlong : ¬ Builtin.List.listTooLong (its.toArray.size * k.toNat) = true := by
  rw [oQ hlen];exact Bool.false_ne_true
 have hnew : List.foldl (fun x1 x2 => x1 ++ x2) #[] (List.replicate (if its.toArray.isEmpty = true then 0 else k.toNat) its.toArray) = (List.replicate k.toNat its).flatten.toArray := by
  have f0 : ∀ m : Nat, List.foldl (fun x1 x2 => x1 ++ x2) #[] (List.replicate m its.toArray) = (List.replicate m its).flatten.toArray := fun m => by
   have := foldl_rep its m [];rw [List.nil_append] at this;exact this
  rw [f0];cases its with
  | nil => simp
  | cons a r' => rw [if_neg (by simp)]
 refine wpAny_binaryOp_repeat_ref (T := "list") (U := "int") (by decide) ⟨_, e, rfl⟩ (fun s' => typeIs_int s' k t) noFill_list_mul F.fills_int_mul F.slot_int_rmul repeat_list F.slot_int_index.lookup
  (call_meets F.slot_int_rmul (typeIs_int s k t) F.entry_int_rmul (F.args_int_rmul_2 _ _) (int___rmul___int_list k t l its.toArray n)
   ⟨e, rfl, ⟨_, e, rfl⟩, call_meets F.slot_list_mul ⟨_, e, rfl⟩ F.entry_list_mul (F.args_list_mul_2 _ _) (AutoListH.list___mul___list_int_3 l its.toArray n k t hfit hcap hlong) ⟨e, ?_⟩⟩)
 rw [hnew];exact ⟨.ref _, _, I.lnew (t' := s.toks) (r.rep k.toNat) (by rw [len_rep, Nat.mul_comm]; exact hz), rfl, q _ I.fresh⟩
noncomputable def yx (K : PySem.W.Frag) : R2 := fun x y H Q => rI uM (fun i j => .int (i * j)) x y H Q ∨ yw K x y H Q
theorem bJ : OpR X (binaryOp .Mult) (yx X.K) := Bo.or yl
theorem RepAll.rep {K : PySem.W.Frag} {F : Hp} {vs : List V} {ds : List PyData} (h : RepAll K F vs ds) : ∀ k : Nat, RepAll K F (List.replicate k vs).flatten (List.replicate k ds).flatten
 | 0 => .nil
 | k + 1 => by
  rw [List.replicate_succ, List.replicate_succ, List.flatten_cons, List.flatten_cons];exact RepAll.app h (RepAll.rep h k)
theorem cQ (hK : X.K = M.K) : Ok2 M (yx X.K) eS := by
 rw [hK];intro x y dx dy F H fp Q s rx ry p;unfold eS at p;split at p
 ·cases rx; cases ry
  split at p
  ·rename_i hc
   exact .inl ⟨_, _, rfl, rfl, wK hc, okI s p⟩
  ·exact p.elim
 ·cases ry
  split at p
  ·rename_i hc
   rw [Bool.and_eq_true, Bool.and_eq_true, decide_eq_true_eq, decide_eq_true_eq, decide_eq_true_eq] at hc;cases rx with
   | lst h1 h2 => exact .inr ⟨_, _, _, rfl, rfl, h1.same s, hc.1.1, hc.1.2, by rw [RepAll.len h2]; exact iJ hc.2, fun a ha => OkE.lstD s p (RepAll.rep h2 _) ha⟩
  ·exact p.elim
 ·exact p.elim
theorem b7 : Ok2 M (rI (fun _ j => 0 < j) fun i j => .int (i % j)) ft := by
 intro x y dx dy F H fp Q s rx ry p;unfold ft at p;split at p
 ·cases rx; cases ry
  split at p
  ·rename_i hc
   exact ⟨_, _, rfl, rfl, hc, okI s p⟩
  ·exact p.elim
 ·exact p.elim
theorem dG : Ok2 M (rI DJ fun i j => .int (i / j)) gR := by
 intro x y dx dy F H fp Q s rx ry p;unfold gR at p;split at p
 ·cases rx; cases ry
  split at p
  ·rename_i hc
   exact ⟨_, _, rfl, rfl, hc, okI s p⟩
  ·exact p.elim
 ·exact p.elim
theorem vG : Ok2 M (rI Ew fun i j => .int (i ^ j.toNat)) uk := by
 intro x y dx dy F H fp Q s rx ry p;unfold uk at p;split at p
 ·cases rx; cases ry
  split at p
  ·rename_i hc
   exact ⟨_, _, rfl, rfl, hc, okI s p⟩
  ·exact p.elim
 ·exact p.elim
theorem d7 : Ok1 M (rU fun i => .int (-i)) fK := by
 intro x dx F H fp Q s rx p;unfold fK at p;split at p
 ·cases rx
  exact ⟨_, rfl, okI s p⟩
 ·exact p.elim
theorem vK : Ok2 M (rI0 fun i j => .bl (decide (i < j))) gLt := by
 intro x y dx dy F H fp Q s rx ry p;unfold gLt at p;split at p
 ·cases rx; cases ry
  exact ⟨_, _, rfl, rfl, okB s p⟩
 ·exact p.elim
theorem rQ : Ok2 M (rI0 fun i j => .bl (decide (j < i))) gGt := by
 intro x y dx dy F H fp Q s rx ry p;unfold gGt at p;split at p
 ·cases rx; cases ry
  exact ⟨_, _, rfl, rfl, okB s p⟩
 ·exact p.elim
theorem ze : Ok2 M (rI0 fun i j => .bl (decide (j ≤ i))) gGe := by
 intro x y dx dy F H fp Q s rx ry p;unfold gGe at p;split at p
 ·cases rx; cases ry
  exact ⟨_, _, rfl, rfl, okB s p⟩
 ·exact p.elim
mutual
theorem Rep.to2 {K : PySem.W.Frag} {H : Hp} {v : V} {d : PyData} : Rep K H v d → d.canLay0 = true → L2.Rep K H v d
 | .non, _ => .non
 | .bl b, _ => .bl b
 | .int i, _ => .int i
 | .str x, _ => .str x
 | .lst h r, c => .lst h.sq (RepAll.to2 r (by rw [PyData.canLay0] at c; exact c))
 | .tup h r, c => .tup (SqT.of h) (RepAll.to2 r (by rw [PyData.canLay0] at c; exact c))
 | .dct _ _ _, c => by
  unfold dD at c;rw [PyData.canLay0] at c;cases c
theorem RepAll.to2 {K : PySem.W.Frag} {H : Hp} {vs : List V} {ds : List PyData} : RepAll K H vs ds → PyData.canLayAll0 ds = true → L2.RepAll K H vs ds
 | .nil, _ => .nil
 | .cons h r, c => by
  rw [PyData.canLayAll0, Bool.and_eq_true] at c;exact .cons (Rep.to2 h c.1) (RepAll.to2 r c.2)
end
noncomputable def BX (K : PySem.W.Frag) : R2 := fun x y H Q => rEq x y H Q ∨ Em K x y H Q
noncomputable def D6 (K : PySem.W.Frag) : R2 := fun x y H Q => rNe x y H Q ∨ CD K x y H Q
theorem eI (hu : X.A.units + 64 < cLine) : OpR X (compareOp .Eq) (BX X.K) := DV.or (z9 hu)
theorem iG (hu : X.A.units + 64 < cLine) : OpR X (compareOp .NotEq) (D6 X.K) := B4.or (Ad hu)
theorem t9 {K : PySem.W.Frag} {F H : Hp} {fp : List Addr} {x y : V} {dx dy : PyData} {P : Bool → Prop} (rx : Rep K F x dx) (ry : Rep K F y dy) (p : aA M H fp P (eqD dx dy)) :
  (zu x y = true ∧ P (decide (x = y))) ∨ (SeqAt.shaped dx = true ∧ SeqAt.shaped dy = true ∧ P (PyData.eqv dx dy)) := by
 unfold eqD at p;split at p
 ·cases rx; cases ry
  refine .inl ⟨rfl, ?_⟩;have e : ∀ i j : Int, decide (V.int i = V.int j) = decide (i = j) := fun i j => by
   by_cases h : i = j
   ·rw [h]; simp
   ·rw [decide_eq_false h, decide_eq_false fun z => h (V.int.inj z)]
  rw [e];exact p
 ·cases rx; cases ry
  refine .inl ⟨rfl, ?_⟩;have e : ∀ i j : Str, decide (V.str i = V.str j) = decide (i = j) := fun i j => by
   by_cases h : i = j
   ·rw [h]; simp
   ·rw [decide_eq_false h, decide_eq_false fun z => h (V.str.inj z)]
  rw [e];exact p
 ·cases rx; cases ry
  refine .inl ⟨rfl, ?_⟩;have e : ∀ i j : Bool, decide (V.bl i = V.bl j) = decide (i = j) := fun i j => by
   by_cases h : i = j
   ·rw [h]; simp
   ·rw [decide_eq_false h, decide_eq_false fun z => h (V.bl.inj z)]
  rw [e];exact p
 ·unfold gW at p
  split at p
  ·rename_i h
   rw [Bool.and_eq_true] at h;exact .inr ⟨h.1, h.2, p⟩
  ·exact p.elim
theorem f7 (hK : X.K = M.K) : Ok2 M (BX X.K) gEq := by
 rw [hK];intro x y dx dy F H fp Q s rx ry p;rcases t9 rx ry (aA.bind p) with ⟨h, q⟩ | ⟨h1, h2, q⟩
 ·exact .inl ⟨h, okB s q⟩
 ·exact .inr ⟨dx, dy, (rx.same s).to2 (SeqAt.canLay_of_shaped h1), (ry.same s).to2 (SeqAt.canLay_of_shaped h2), h1, h2, okB s q⟩
theorem kJ (hK : X.K = M.K) : Ok2 M (D6 X.K) gNe := by
 rw [hK];intro x y dx dy F H fp Q s rx ry p;rcases t9 rx ry (aA.bind p) with ⟨h, q⟩ | ⟨h1, h2, q⟩
 ·exact .inl ⟨h, okB s q⟩
 ·exact .inr ⟨dx, dy, (rx.same s).to2 (SeqAt.canLay_of_shaped h1), (ry.same s).to2 (SeqAt.canLay_of_shaped h2), h1, h2, okB s q⟩
theorem qX {K : PySem.W.Frag} {F : Hp} {vs : List V} {ds : List PyData} {i : Int} {d : PyData} (h : RepAll K F vs ds) (e : atI ds i = some d) : ∃ v, atI vs i = some v ∧ Rep K F v d := by
 unfold atI at e ⊢;rw [RepAll.len h];cases q : ixN ds.length i with
 | none => rw [q] at e; cases e
 | some j =>
  rw [q] at e;obtain ⟨v, h1, h2⟩ := RepAll.get h e;exact ⟨v, h1, h2⟩
theorem ax (hK : X.K = M.K) : Ok2 M (rIx X.K) gIx := by
 rw [hK];intro x y dx dy F H fp Q s rx ry p;unfold gIx at p;split at p
 ·cases ry
  unfold ju at p;split at p
  ·rename_i d hd
   cases rx with
   | lst h1 h2 =>
    obtain ⟨v, e, r⟩ := qX h2 hd;exact .inl ⟨_, _, _, v, rfl, rfl, (h1.same s).sq, e, OkE.val s p r⟩
  ·exact p.elim
 ·cases ry
  unfold ju at p;split at p
  ·rename_i d hd
   cases rx with
   | tup h1 h2 =>
    obtain ⟨v, e, r⟩ := qX h2 hd;exact .inr (.inl ⟨_, _, _, v, rfl, rfl, SqT.of (s _ _ h1), e, OkE.val s p r⟩)
  ·exact p.elim
 ·cases ry
  cases rx;split at p
  ·rename_i hl
   unfold ju at p;split at p
   ·rename_i d hd
    obtain ⟨c, hc, rfl⟩ := Option.map_eq_some_iff.mp hd;exact .inr (.inr ⟨_, _, c, rfl, rfl, iJ hl, hc, OkE.val s p (.str _)⟩)
   ·exact p.elim
  ·exact p.elim
 ·exact p.elim
theorem iT (hK : X.K = M.K) : OkS M (B_ X.K) lN := by
 rw [hK];intro x lo hi dx F H fp Q s rx p;unfold lN at p;split at p
 ·cases rx with
  | @lst a vs ds h1 h2 =>
   refine ⟨a, vs, rfl, (h1.same s).sq, fun q hq => ?_⟩
   refine OkE.lstD s p ?_ hq;unfold vi cutD;rw [RepAll.len h2];exact RepAll.take _ (RepAll.drop _ h2)
 ·exact p.elim
noncomputable def y_ (K : PySem.W.Frag) : List V → Hp → VK → Prop := fun xs H Q => (∃ p ys, xs = [.ref p] ∧ (SqL K H p ys ∨ SqT K H p ys) ∧ Q (.int ys.length) H) ∨ (∃ z, xs = [.str z] ∧ z.length ≤ sizeLine ∧ Q (.int z.length) H)
theorem aD : ed X (.builtin "len") (y_ X.K) := nU.or nH
theorem aW (hK : X.K = M.K) : OkC M (y_ X.K) cH := by
 rw [hK];intro x dx F H fp Q s rx p;unfold cH at p;split at p
 ·cases rx with
  | cons h r =>
   cases r;cases h with
   | lst h1 h2 => exact .inl ⟨_, _, rfl, .inl (h1.same s).sq, by rw [RepAll.len h2]; exact okI s p⟩
 ·cases rx with
  | cons h r =>
   cases r;cases h with
   | tup h1 h2 => exact .inl ⟨_, _, rfl, .inr (SqT.of (s _ _ h1)), by rw [RepAll.len h2]; exact okI s p⟩
 ·cases rx with
  | cons h r =>
   cases r;cases h;split at p
   ·rename_i hl
    exact .inr ⟨_, rfl, iJ hl, okI s p⟩
   ·exact p.elim
 ·exact p.elim
theorem qc {K : PySem.W.Frag} {F : Hp} {x : List V} {i j : Int} (r : RepAll K F x [.int i, .int j]) : x = [.int i, .int j] := by
 cases r with
 | cons h r =>
  cases h;cases r with
  | cons h r =>
   cases h;cases r;rfl
theorem yq : OkC M (fun xs H Q => ∃ i j, xs = [.int i, .int j] ∧ Q (.int (if j < i then j else i)) H) rV := by
 intro x dx F H fp Q s rx p;unfold rV at p;split at p
 ·exact ⟨_, _, qc rx, okI s p⟩
 ·exact p.elim
theorem yk : OkC M (fun xs H Q => ∃ i j, xs = [.int i, .int j] ∧ Q (.int (if j > i then j else i)) H) pX := by
 intro x dx F H fp Q s rx p;unfold pX at p;split at p
 ·exact ⟨_, _, qc rx, okI s p⟩
 ·exact p.elim
theorem fY : ∀ (ns : List Int) (m : Int), iA m ns ∈ m :: ns ∧ ∀ z ∈ m :: ns, z ≤ iA m ns
 | [], m => ⟨List.mem_cons_self, fun z h => by simp at h; rw [h]; exact Int.le_refl _⟩
 | n :: ns, m => by
  obtain ⟨h1, h2⟩ := fY ns (if m < n then n else m)
  rw [iA];have hm : m ≤ (if m < n then n else m) := by split <;> lia
  have hn : n ≤ (if m < n then n else m) := by split <;> lia
  have ht := h2 _ List.mem_cons_self;refine ⟨?_, fun z hz => ?_⟩
  ·rcases List.mem_cons.mp h1 with h | h
   ·rw [h]
    split <;> simp
   ·simp [h]
  ·rcases List.mem_cons.mp hz with rfl | hz
   ·lia
   ·rcases List.mem_cons.mp hz with rfl | hz
    ·lia
    ·exact h2 z (List.mem_cons_of_mem _ hz)
theorem i5 : ∀ (ns : List Int) (m : Int), nW m ns ∈ m :: ns ∧ ∀ z ∈ m :: ns, nW m ns ≤ z
 | [], m => ⟨List.mem_cons_self, fun z h => by simp at h; rw [h]; exact Int.le_refl _⟩
 | n :: ns, m => by
  obtain ⟨h1, h2⟩ := i5 ns (if n < m then n else m)
  rw [nW];have hm : (if n < m then n else m) ≤ m := by split <;> lia
  have hn : (if n < m then n else m) ≤ n := by split <;> lia
  have ht := h2 _ List.mem_cons_self;refine ⟨?_, fun z hz => ?_⟩
  ·rcases List.mem_cons.mp h1 with h | h
   ·rw [h]
    split <;> simp
   ·simp [h]
  ·rcases List.mem_cons.mp hz with rfl | hz
   ·lia
   ·rcases List.mem_cons.mp hz with rfl | hz
    ·lia
    ·exact h2 z (List.mem_cons_of_mem _ hz)
theorem pD {K : PySem.W.Frag} {F : Hp} {x : List V} {ds : List PyData} {ns : List Int} (s : aN F H') (r : RepAll K F x [.list ds]) (e : dZ ds = some ns) : ∃ a, x = [.ref a] ∧ SqL K H' a (ns.map V.int) := by
 cases r with
 | cons h r =>
  cases r;cases h with
  | lst h1 h2 =>
   rw [jF e] at h2;rw [RepAll.toInts h2] at h1;exact ⟨_, rfl, (h1.same s).sq⟩
theorem jV (hK : X.K = M.K) : OkC M (y9 X.K) jw := by
 rw [hK];intro x dx F H fp Q s rx p;unfold jw at p;split at p
 ·split at p
  ·rename_i n ns e
   obtain ⟨a, rfl, h⟩ := pD s rx e;refine ⟨a, n :: ns, rfl, h, by simp, fun m h1 h2 => ?_⟩
   obtain ⟨k1, k2⟩ := fY ns n;have e : iA n ns = m := Int.le_antisymm (h2 _ k1) (k2 _ h1);rw [← e];exact okI s p
  ·exact p.elim
 ·exact p.elim
theorem kX (hK : X.K = M.K) : OkC M (y6 X.K) jq := by
 rw [hK];intro x dx F H fp Q s rx p;unfold jq at p;split at p
 ·split at p
  ·rename_i n ns e
   obtain ⟨a, rfl, h⟩ := pD s rx e;refine ⟨a, n :: ns, rfl, h, by simp, fun m h1 h2 => ?_⟩
   obtain ⟨k1, k2⟩ := i5 ns n;have e : nW n ns = m := Int.le_antisymm (k2 _ h1) (h2 _ k1);rw [← e];exact okI s p
  ·exact p.elim
 ·exact p.elim
theorem uR (hK : X.K = M.K) : OkC M (CH X.K) jh := by
 rw [hK];intro x dx F H fp Q s rx p;unfold jh at p;split at p
 ·cases rx with
  | cons h r =>
   cases r;cases h with
   | lst h1 h2 => exact ⟨_, _, rfl, .inl (h1.same s).sq, fun l hl => OkE.lstD s p h2 hl⟩
 ·cases rx with
  | cons h r =>
   cases r;cases h with
   | tup h1 h2 => exact ⟨_, _, rfl, .inr (SqT.of (s _ _ h1)), fun l hl => OkE.lstD s p h2 hl⟩
 ·exact p.elim
theorem wV : OkC M (fun xs H Q => (∃ i, xs = [.int i] ∧ Q (.int i) H) ∨ ∃ k, xs = [.bl k] ∧ Q (.int (if k then 1 else 0)) H) sE := by
 intro x dx F H fp Q s rx p;unfold sE at p;split at p
 ·cases rx with
  | cons h r =>
   cases r;cases h;exact .inl ⟨_, rfl, okI s p⟩
 ·cases rx with
  | cons h r =>
   cases r;cases h;exact .inr ⟨_, rfl, okI s p⟩
 ·exact p.elim
noncomputable def tY (T : String) (a : Fe) : Fe := fun ρ => (a ρ).bind fun x => ia T x.er
noncomputable def yN (K : PySem.W.Frag) (T : String) : List V → Hp → VK → Prop := fun xs H Q => ∃ x d b, xs = [x, .ty T] ∧ Rep K H x d ∧ ya T d = some b ∧ Q (.bl b) H
theorem z8 {K : PySem.W.Frag} {T U : String} (hU : U = "int" ∨ U = "bool" ∨ U = "str" ∨ U = "list" ∨ U = "tuple" ∨ U = "NoneType") (hT : T = "int" ∨ T = "bool" ∨ T = "str" ∨ T = "list" ∨ T = "tuple") : PySem.W.kitOne K (.type U) (.type T) = some (decide (T = U ∨ (U = "bool" ∧ T = "int"))) := by
 rcases hU with rfl | rfl | rfl | rfl | rfl | rfl <;> rcases hT with rfl | rfl | rfl | rfl | rfl <;> rfl
theorem tJ {K : PySem.W.Frag} {T U : String} {d : PyData} {b : Bool} (hk : yH d = some U) (hU : U = "int" ∨ U = "bool" ∨ U = "str" ∨ U = "list" ∨ U = "tuple" ∨ U = "NoneType") (e : ya T d = some b) : PySem.W.kitOne K (.type U) (.type T) = some b := by
 unfold ya at e;rw [hk] at e;have e' : (if T = "int" ∨ T = "bool" ∨ T = "str" ∨ T = "list" ∨ T = "tuple" then some (decide (T = U ∨ (U = "bool" ∧ T = "int"))) else none) = some b := e
 by_cases hT : T = "int" ∨ T = "bool" ∨ T = "str" ∨ T = "list" ∨ T = "tuple"
 ·rw [if_pos hT] at e'
  rw [← e'];exact z8 hU hT
 ·rw [if_neg hT] at e'
  cases e'
end
end L3
namespace L3
open PySem L2 PySem.Spec PyProof.Rows
section
variable {M : Mx} {X : Cx} {e a b c : Expr} {es : List Expr} {pos : Pos} {fa fb : Fe} {ta tb : Ft} {al : Fa}
theorem sI (T : String) : ed X (.builtin "isinstance") (yN X.K T) := by
 intro pins s σ H xs us Q I r h;obtain ⟨x, d, b, rfl, rd, e, q⟩ := h;obtain ⟨u, v, rfl, ru, rv⟩ := Vals.two r;cases rv;have fin : ∀ tk, EP X pins σ Q (.bool b) { s with toks := tk } := fun tk => ⟨.bl b, H, I.tok tk, rfl, q⟩
 cases rd with
 | non =>
  cases (show u = Value.none from ru)
  exact PySem.W.kia_one PySem.W.kitx_none I.kIn True.intro (tJ rfl (by simp) e) (fun z => nomatch z) fin
 | bl y =>
  cases (show u = Value.bool y from ru)
  exact PySem.W.kia_one PySem.W.kitx_bool I.kIn True.intro (tJ rfl (by simp) e) (fun z => nomatch z) fin
 | int i =>
  obtain ⟨t, hq⟩ := (show ∃ t, u = Value.int i t from ru)
  cases hq;exact PySem.W.kia_one PySem.W.kitx_int I.kIn True.intro (tJ rfl (by simp) e) (fun z => nomatch z) fin
 | str y =>
  obtain ⟨t, hq⟩ := (show ∃ t, u = Value.str y t from ru)
  cases hq;exact PySem.W.kia_one PySem.W.kitx_str I.kIn True.intro (tJ rfl (by simp) e) (fun z => nomatch z) fin
 | @lst a xs ds h1 h2 =>
  cases (show u = Value.ref a from ru)
  obtain ⟨_, its, n, _, _, he⟩ := h1.obj I;exact PySem.W.kia_one PySem.W.kitx_list I.kIn ⟨_, he, rfl⟩ (tJ (d := .list ds) rfl (by simp) e) (fun z => nomatch z) fin
 | @tup a xs ds h1 h2 =>
  cases (show u = Value.ref a from ru)
  obtain ⟨_, _, _, p⟩ := (show f_ X.prog X.w H s.heap a (.tup xs) from I.hok a _ h1)
  obtain ⟨o, k1, k2, _⟩ := p;exact PySem.W.kia_one PySem.W.kitx_tuple I.kIn ⟨o, k1, k2⟩ (tJ (d := .tuple ds) rfl (by simp) e) (fun z => nomatch z) fin
 | dct _ _ _ =>
  have e' : (none : Option Bool) = some b := e;cases e'
theorem DB {n : Nat} {σ : St} {H : Hp} {Q : VK} {T : String} (h : tD M n (tY T fa) σ H Q) : tCB (yN M.K T) (kL (tD M n fa) (kL (tC (.ty T)) qt)) σ H Q := by
 obtain ⟨F, ρ, fp, S, p⟩ := h;refine ⟨F, ρ, fp, S, (aA.bind p).mono fun x px v F1 H1 fx e1 r1 w1 => ?_⟩
 obtain ⟨G1, d1, k1⟩ := r1.frz e1 w1;unfold ia at px;split at px
 ·rename_i b hb
  exact ⟨v, x.er, b, rfl, k1.same d1.fh, hb, OkE.val d1.fh (OkE.pre d1 px) (.bl b)⟩
 ·exact px.elim
theorem ql {T : String} {x : Str} {p p2 : Pos} (hg : Gl X "isinstance") (hm : X.mg "isinstance" = none) (hgT : Gl X x) (hmT : X.mg x = none) (hT : bootBuiltins x = some (.type T)) (h : DE M X e fa) (hnT : x ≠ "__name__" := by decide) (hdT : (x == ("__debug__" : Str)) = false := by decide)
  (hs1 : starEach [e, .Name x p2] X.env = (false, eval e X.env) :: starEach [.Name x p2] X.env := by rfl) (hs2 : starEach [.Name x p2] X.env = (false, eval (.Name x p2) X.env) :: starEach [] X.env := by rfl) (hpl : (backTo pos (starEach [.Name x p2] X.env)).any (·.1) = false := by rfl) :
  DE M X (.Call (.Name "isinstance" p) [e, .Name x p2] [] pos) (tY T fa) := fun hK hM => by
 have q := pN (p := p) (pos := pos) (sI T) hg hm km (jX (h hK hM) (jX (yj (v := V.ty T) (pos := p2) hgT hmT hT rfl hnT hdT) oh hs2) hs1) (by decide) (by decide) hs1 hpl
 rw [hK] at q;exact peI q fun _ _ _ z => DB z
noncomputable def uq (a b : Fe) : Fe := fun ρ => (a ρ).bind fun x => match x.er with
 | .list ds => (b ρ).bind fun y => mK ds y.er
 | _ => .bad
theorem qa {ap cp : Pos} (ha : DE M X a fa) (h : DE M X e fb)
  (hbase : attributeBase a "index" X.env (eval a X.env) = eval a X.env := by rfl)
  (hfew : ((backTo cp (starEach [e] X.env)).all (fun x => !x.1) && (backToKw cp (keywordEach [] X.env)).all (fun x => x.1.isSome) && decide (([e] : List Expr).length + ([] : List Keyword).length + (if ([] : List Keyword).isEmpty then 0 else 1) < 30)) = true := by rfl)
  (hline : (ap.endLine == cp.line) = true := by rfl) (hs : starEach [e] X.env = (false, eval e X.env) :: starEach [] X.env := by rfl) (hplain : (backTo cp (starEach [] X.env)).any (·.1) = false := by rfl) :
  DE M X (.Call (.Attribute a "index" ap) [e] [] cp) (uq fa fb) := fun hK hM => by
 have q := yG (apos := ap) (cpos := cp) PySem.F.plainAttrs_list PySem.F.slot_list_index PySem.F.type_list_index vw (ha hK hM) (jX (h hK hM) oh hs) hbase hfew hline hs hplain;refine peI q fun σ H Q h => ?_
 obtain ⟨F, ρ, fp, S, p⟩ := h;refine ⟨F, ρ, fp, S, (aA.bind p).mono fun x px v F1 H1 fx e1 r1 w1 => ?_⟩
 obtain ⟨G1, d1, k1⟩ := r1.frz e1 w1;generalize x.er = d at px k1
 cases k1 with
 | @lst a' vs ds h1 h2 =>
  have px' : aA M H fp (OkE M F H Q) ((fb ρ).bind fun y => mK ds y.er) := px
  refine ⟨.inl ⟨rfl, vs, by rw [hK]; exact (h1.same d1.fh).sq⟩, G1, ρ, fp, S.ext d1, ((aA.bind px').ext d1).mono fun y py w F2 H2 fy e2 r2 w2 => ?_⟩
  obtain ⟨G2, d2, k2⟩ := r2.frz e2 w2;unfold mK at py;generalize y.er = d' at py k2
  cases k2 with
  | int z =>
   have py' : aA M H fp (OkE M F H Q) (match dZ ds with | some ns => if z ∈ ns then oI (ns.idxOf z : Nat) else .bad | none => .bad) := py
   split at py'
   ·rename_i ns hn
    split at py'
    ·rename_i hz
     rw [jF hn] at h2;rw [RepAll.toInts h2] at h1;exact ⟨a', ns, z, rfl, rfl, by rw [hK]; exact ((h1.same d2.ff).same d2.fh).sq, hz, OkE.val d2.fh (OkE.pre (d1.trans d2) py') (.int _)⟩
    ·exact py'.elim
   ·exact py'.elim
  | non => exact py.elim
  | bl _ => exact py.elim
  | str _ => exact py.elim
  | dct _ _ _ => exact py.elim
  | lst _ _ => exact py.elim
  | tup _ _ => exact py.elim
 | non => exact px.elim
 | bl _ => exact px.elim
 | int _ => exact px.elim
 | str _ => exact px.elim
 | dct _ _ _ => exact px.elim
 | tup _ _ => exact px.elim
end
theorem ni {K : PySem.W.Frag} {F H : Hp} (m : Nat) : ∀ {vs : List V} {ds : List PyData}, RepAll K F vs ds → OwnS K F H (vs.map some ++ List.replicate m none) ((ds.map fun d => some (OD.sh d)) ++ List.replicate m none) []
 | _, _, .nil => by
  show OwnS K F H (List.replicate m none) (List.replicate m none) []
  have := OwnS.nones (K := K) (F := F) (H := H) m .nil;rw [List.append_nil, List.append_nil] at this;exact this
 | _, _, .cons h r => .yes (f := []) (.sh h) (ni m r)
theorem fn3 {P : Program} {w : World} {K : PySem.W.Frag} {mg : Str → Option Value} {base : Heap} {x qual : Str} {st : Stmt} {f : Addr} {fd : FuncData} {N ps : List Str} {k : Nat} {body : Fs} (F : Fun K x qual st f fd) (S : FnScope N ps (ai st))
  (h : ∀ (cdv : Value) (A : Around) (outer : List PySem.Env) (s : Shared) (H : Hp) (E : XK), Room k (A.deeper (envOfC qual (ai st) s.heap.objs.size f cdv)) → DSs ⟨K, mg, E⟩ (p9 CX0 P w K mg base N qual (ai st) f cdv A outer s H E).nox (aH st) body) :
  FnOk P w K mg base CX0 (k + 1) f fd ps (sp3 K mg (dE ps.length N.length body)) := by
 have hpl : ps.length ≤ N.length := by
  have := congrArg List.length S.pre;rw [List.length_take] at this;lia
 have hlen : ∀ vs H Q E, sp3 K mg (dE ps.length N.length body) vs H Q E → vs.length = ps.length := by
  rintro vs H Q E ⟨F, ds, sm, ra, p⟩;by_cases hl : ds.length = ps.length
  ·rw [RepAll.len ra]
   exact hl
  ·unfold dE at p
   rw [if_neg hl] at p;exact p.elim
 refine F.ok S hlen fun cdv A outer s H vs Q E hr hs => ?_
 have hvl := hlen _ _ _ _ hs;obtain ⟨F0, ds, sm, ra, p⟩ := hs;have hdl : ds.length = ps.length := by rw [← RepAll.len ra]; exact hvl
 unfold dE at p;rw [if_pos hdl] at p;refine ⟨_, h cdv A outer s H E hr rfl rfl, F0, oq N.length ds, [], ⟨sm, ?_, List.nodup_nil, (fun _ m => by cases m), ?_⟩, (aA.bind p).mono fun o po => ?_⟩
 ·unfold L2.start oq
  rw [hvl, hdl];exact ni _ ra
 ·unfold oq
  show _ = N.length
  rw [List.length_append, List.length_map, List.length_replicate, hdl];lia
 ·cases o with
  | nx ρ => exact fun σ' F' H' fp' S' st => po .non F' H' [] ⟨st.ff, fun a o q => st.keep a o q (by simp), S'.same, fun a q z => st.nw a q (by simp) z⟩ (Res.sh .non) fun _ m => by cases m
  | rt y => exact fun v F' H' fx sm' r st => po v F' H' fx ⟨st.ff, fun a o q => st.keep a o q (by simp), sm', fun a q z => st.nw a q (by simp) z⟩ r fun a m => (st.new a m).elim (fun z => by cases z) id
  | bk ρ => exact po.elim
  | ct ρ => exact po.elim
end L3
namespace L3
open PySem L2 PySem.Spec PyProof.Rows
theorem fg {P : Program} {w : World} {K : PySem.W.Frag} {mg : Str → Option Value} {base : Heap} {x qual : Str} {st : Stmt} {f : Addr} {fd : FuncData} {N ps : List Str} {k np n : Nat} {body : Fs} {fn : Fn} (hf : fn = dE np n body) (hp : ps.length = np) (hn : N.length = n) (F : Fun K x qual st f fd) (S : FnScope N ps (ai st))
  (h : ∀ (cdv : Value) (A : Around) (outer : List PySem.Env) (s : Shared) (H : Hp) (E : XK), Room k (A.deeper (envOfC qual (ai st) s.heap.objs.size f cdv)) → DSs ⟨K, mg, E⟩ (p9 CX0 P w K mg base N qual (ai st) f cdv A outer s H E).nox (aH st) body) :
  FnOk P w K mg base CX0 (k + 1) f fd ps (sp3 K mg fn) := by
 subst hf hp hn;exact fn3 F S h
theorem bH {X : Cx} {E : XK} : Passes CX0 X E := fun _ _ _ _ _ _ _ h => h.elim
noncomputable def Dz : PyData → PyData → R OD
 | .int i, .int j => oI (i + j)
 | _, _ => .bad
section
variable {M : Mx} {X : Cx}
end
end L3
namespace L3
open PySem L2
theorem AJ (i : Int) : ia "int" (.int i) = oB true := rfl
theorem Bi (i : Int) : ia "bool" (.int i) = oB false := rfl
theorem A7 (i : Int) : ia "str" (.int i) = oB false := rfl
theorem Bg (i : Int) : ia "list" (.int i) = oB false := rfl
theorem Al (i : Int) : ia "tuple" (.int i) = oB false := rfl
theorem Bu (i : Bool) : ia "int" (.bool i) = oB true := rfl
theorem AV (i : Bool) : ia "bool" (.bool i) = oB true := rfl
theorem An (i : Str) : ia "int" (.str i) = oB false := rfl
theorem Bb (i : Str) : ia "bool" (.str i) = oB false := rfl
theorem Aa (i : Str) : ia "str" (.str i) = oB true := rfl
theorem zJ (i : List PyData) : ia "list" (.list i) = oB true := rfl
theorem zH (i : List PyData) : ia "tuple" (.list i) = oB false := rfl
theorem Ac (i : List PyData) : ia "int" (.list i) = oB false := rfl
theorem Af (i : List PyData) : ia "tuple" (.tuple i) = oB true := rfl
theorem zf (i : List PyData) : ia "list" (.tuple i) = oB false := rfl
theorem BD (i : List PyData) : ia "int" (.tuple i) = oB false := rfl
theorem E3 : (0 ≤ BIG) = True := by decide
theorem Fu : (1 ≤ BIG) = True := by decide
theorem Fc : (2 ≤ BIG) = True := by decide
theorem Fp : (3 ≤ BIG) = True := by decide
theorem Fw : (4 ≤ BIG) = True := by decide
theorem Fl : (0 < BIG) = True := by decide
theorem o5 {g : Fg} {b : Fs} (I : Nat → Env → Prop) : ∀ (ds : List PyData) (k : Nat) (ρ : Env), I k ρ → (∀ (i : Nat) (d : PyData) (ρ : Env), ds[i]? = some d → I (k + i) ρ → ∃ ρ1 ρ2, g (.sh d) ρ = .ok ρ1 ∧ (b ρ1 = .ok (.nx ρ2) ∨ b ρ1 = .ok (.ct ρ2)) ∧ I (k + i + 1) ρ2) →
  ∃ ρ', bE g b ds ρ = .ok (.nx ρ') ∧ I (k + ds.length) ρ'
 | [], k, ρ, h, _ => ⟨ρ, rfl, h⟩
 | d :: ds, k, ρ, h, st => by
  obtain ⟨ρ1, ρ2, h1, h2, h3⟩ := st 0 d ρ rfl h;obtain ⟨ρ', e, h4⟩ := o5 I ds (k + 1) ρ2 h3 fun i d' ρ hd hi => by
   have := st (i + 1) d' ρ (by simpa using hd) (by rw [show k + (i + 1) = k + 1 + i by lia]; exact hi)
   rw [show k + (i + 1) + 1 = k + 1 + i + 1 by lia] at this
   exact this
  refine ⟨ρ', ?_, by rw [List.length_cons, show k + (ds.length + 1) = k + 1 + ds.length by lia]; exact h4⟩
  rw [bE, h1, cz];rcases h2 with h2 | h2
  ·rw [h2, cz]
   exact e
  ·rw [h2, cz]
   exact e
theorem sR {g : Fg} {b : Fs} {ds : List PyData} {ρ : Env} (S : Nat → Env → Prop) (h0 : S 0 ρ) (st : ∀ (i : Nat) (d : PyData) (ρ : Env), ds[i]? = some d → S i ρ → ∃ ρ1 ρ2, g (.sh d) ρ = .ok ρ1 ∧ (b ρ1 = .ok (.nx ρ2) ∨ b ρ1 = .ok (.ct ρ2)) ∧ S (i + 1) ρ2) :
  ∃ ρ', bE g b ds ρ = .ok (.nx ρ') ∧ S ds.length ρ' := by
 obtain ⟨ρ', e, h⟩ := o5 S ds 0 ρ h0 fun i d ρ hd hi => by
  rw [Nat.zero_add] at hi ⊢;exact st i d ρ hd hi
 exact ⟨ρ', e, by rw [Nat.zero_add] at h; exact h⟩
theorem cY {lo : Int} {n i : Nat} {d : PyData} (h : (ik lo n)[i]? = some d) : i < n ∧ d = .int (lo + i) := by
 unfold ik at h;rw [List.getElem?_map] at h;obtain ⟨j, hj, rfl⟩ := Option.map_eq_some_iff.mp h;obtain ⟨h1, h2⟩ := List.getElem?_eq_some_iff.mp hj;have h3 : i = j := by simpa using h2
 subst h3;exact ⟨by simpa using h1, rfl⟩
theorem ey (lo : Int) (n : Nat) : (ik lo n).length = n := by unfold ik; simp
theorem sY {t : Ft} {b : Fs} {ρ : Env} {n : Nat} {o : Out} (h : dF t b n ρ = .ok o) : gh t b ρ = .ok o := by
 have mono : ∀ (n : Nat) (ρ : Env), dF t b n ρ ≠ .bad → ∀ m, n ≤ m → dF t b m ρ = dF t b n ρ := by
  intro n
  induction n with
  | zero => intro ρ hn; exact absurd rfl hn
  | succ n ih =>
   intro ρ hn m hm;obtain ⟨m, rfl⟩ : ∃ k, m = k + 1 := ⟨m - 1, by lia⟩
   rw [dF] at hn ⊢;rw [dF];cases ht : t ρ with
   | bad => rfl
   | ex c => rfl
   | ok c =>
    rw [ht, cz] at hn;rw [cz, cz];cases c with
    | false => rfl
    | true =>
     rw [if_pos rfl] at hn ⊢;rw [if_pos rfl];cases hb : b ρ with
     | bad => rfl
     | ex c => rfl
     | ok o =>
      rw [hb, cz] at hn;rw [cz, cz];cases o with
      | nx ρ2 => exact ih ρ2 hn m (by lia)
      | ct ρ2 => exact ih ρ2 hn m (by lia)
      | bk ρ2 => rfl
      | rt x => rfl
 unfold gh;have hx : ∃ n, dF t b n ρ ≠ .bad := ⟨n, by rw [h]; exact fun z => by cases z⟩
 rw [dif_pos hx];have e1 := mono n ρ (by rw [h]; exact fun z => by cases z) (n + hx.choose) (by lia)
 have e2 := mono hx.choose ρ hx.choose_spec (n + hx.choose) (by lia)
 rw [← e2, e1, h]
theorem sJ {t : Ft} {b : Fs} (I : Nat → Env → Prop) (Q : Env → Prop) (st : ∀ m ρ, I m ρ → (t ρ = .ok false ∧ Q ρ) ∨ (t ρ = .ok true ∧ ∃ ρ2 m', (b ρ = .ok (.nx ρ2) ∨ b ρ = .ok (.ct ρ2)) ∧ m' < m ∧ I m' ρ2)) : ∀ (m : Nat) (ρ : Env), I m ρ → ∃ ρ', gh t b ρ = .ok (.nx ρ') ∧ Q ρ' := by
 have go : ∀ (m : Nat) (ρ : Env), I m ρ → ∃ n ρ', dF t b n ρ = .ok (.nx ρ') ∧ Q ρ' := by
  intro m
  induction m using Nat.strongRecOn with
  | ind m ih =>
   intro ρ h;rcases st m ρ h with ⟨h1, h2⟩ | ⟨h1, ρ2, m', h2, h3, h4⟩
   ·exact ⟨1, ρ, by rw [dF, h1]; rfl, h2⟩
   ·obtain ⟨n, ρ', e, q⟩ := ih m' h3 ρ2 h4
    refine ⟨n + 1, ρ', ?_, q⟩;rw [dF, h1, cz, if_pos rfl];rcases h2 with h2 | h2
    ·rw [h2, cz]
     exact e
    ·rw [h2, cz]
     exact e
 intro m ρ h;obtain ⟨n, ρ', e, q⟩ := go m ρ h;exact ⟨ρ', sY e, q⟩
end L3
namespace L3
open PySem L2
noncomputable def zi : Option (Option OD) → R OD
 | some (some (.sh d)) => .ok (.sh d)
 | _ => .bad
noncomputable def opK (g : PyData → PyData → R OD) : R OD → R OD → R OD
 | .ok x, .ok y => g x.er y.er
 | .ok _, .ex c => .ex c
 | .ok _, .bad => .bad
 | .ex c, _ => .ex c
 | .bad, _ => .bad
noncomputable def unK {α β : Type} (g : α → R β) : R α → R β
 | .ok x => g x
 | .ex c => .ex c
 | .bad => .bad
noncomputable def Ai (r : R Bool) (b : Ft) (ρ : Env) : R Bool := match r with
 | .ok true => b ρ
 | .ok false => .ok false
 | .ex c => .ex c
 | .bad => .bad
noncomputable def orK (r : R Bool) (b : Ft) (ρ : Env) : R Bool := match r with
 | .ok true => .ok true
 | .ok false => b ρ
 | .ex c => .ex c
 | .bad => .bad
noncomputable def xq (r : R Bool) (b : Fe) (ρ : Env) : R OD := match r with
 | .ok true => b ρ
 | .ok false => .ok (.sh (.bool false))
 | .ex c => .ex c
 | .bad => .bad
noncomputable def orV (r : R Bool) (b : Fe) (ρ : Env) : R OD := match r with
 | .ok true => .ok (.sh (.bool true))
 | .ok false => b ρ
 | .ex c => .ex c
 | .bad => .bad
noncomputable def ifV (r : R Bool) (a b : Fe) (ρ : Env) : R OD := match r with
 | .ok true => a ρ
 | .ok false => b ρ
 | .ex c => .ex c
 | .bad => .bad
noncomputable def ifK (r : R Bool) (a b : Fs) (ρ : Env) : R Out := match r with
 | .ok true => a ρ
 | .ok false => b ρ
 | .ex c => .ex c
 | .bad => .bad
noncomputable def wz : R OD → R (List OD) → R (List OD)
 | .ok x, .ok xs => .ok (x :: xs)
 | .ok _, .ex c => .ex c
 | .ok _, .bad => .bad
 | .ex c, _ => .ex c
 | .bad, _ => .bad
noncomputable def vR (r : R Out) (b : Fs) : R Out := match r with
 | .ok (.nx ρ) => b ρ
 | .ok o => .ok o
 | .ex c => .ex c
 | .bad => .bad
noncomputable def CQ (r : R OD) (g : Fg) (ρ : Env) : R Out := match r with
 | .ok x => unK (fun ρ' => .ok (.nx ρ')) (g x ρ)
 | .ex c => .ex c
 | .bad => .bad
noncomputable def Ed (r : R (List PyData)) (g : Fg) (b : Fs) (ρ : Env) : R Out := match r with
 | .ok ds => bE g b ds ρ
 | .ex c => .ex c
 | .bad => .bad
noncomputable def yI (r : R (List PyData)) (g : Fg) (t : Ft) (el : Fe) (ρ0 : Env) : R OD := match r with
 | .ok ds => unK (fun xs => .ok (.ol xs)) (bb g t el ρ0 ds [])
 | .ex c => .ex c
 | .bad => .bad
noncomputable def slK (g : PyData → Option Int → Option Int → R OD) (a : R OD) (l h : R (Option Int)) : R OD := match a, l, h with
 | .ok x, .ok i, .ok j => g x.er i j
 | .ok _, .ok _, .ex c => .ex c
 | .ok _, .ok _, .bad => .bad
 | .ok _, .ex c, _ => .ex c
 | .ok _, .bad, _ => .bad
 | .ex c, _, _ => .ex c
 | .bad, _, _ => .bad
noncomputable def Cs (a : R OD) (b : Fe) (ρ : Env) : R OD := match a with
 | .ok x => match x.er with
  | .list ds => unK (fun y => mK ds y.er) (b ρ)
  | _ => .bad
 | .ex c => .ex c
 | .bad => .bad
noncomputable def AF (o : Option (Option OD)) (a : R OD) (i : Nat) (ρ : Env) : R Out := match o with
 | some (some (.ol xs)) => unK (fun y => if xs.length < BIG then .ok (.nx (ρ.set i (some (.ol (xs ++ [y]))))) else .bad) a
 | _ => .bad
noncomputable def vh : Option (Option OD) → R Out
 | some (some x) => .ok (.rt x)
 | _ => .bad
noncomputable def Bz (o : Option (Option OD)) (i : Nat) (ρ : Env) : Env := match o with
 | some (some x) => ρ.set i (some (.sh x.er))
 | _ => ρ
noncomputable def zq : R Out → R OD
 | .ok (.rt x) => .ok x
 | .ok (.nx _) => .ok (.sh .none)
 | .ok (.bk _) => .bad
 | .ok (.ct _) => .bad
 | .ex c => .ex c
 | .bad => .bad
noncomputable def Az (o : Option (Option OD)) (g : PyData → PyData → R OD) (a : R OD) (i : Nat) (ρ : Env) : R Out := match o with
 | some (some (.sh d)) => unK (fun y => unK (fun z => .ok (.nx (ρ.set i (some z)))) (g d y.er)) a
 | _ => .bad
section
variable {ρ : Env} {a b : Fe} {s t : Ft} {p q : Fs}
theorem v_var (i : Nat) : ae i ρ = zi ρ[i]? := by
 unfold ae zi;rfl
theorem v_c (d : PyData) : eC d ρ = .ok (.sh d) := rfl
theorem ER (g : PyData → PyData → R OD) : eOp g a b ρ = opK g (a ρ) (b ρ) := by
 unfold eOp;cases a ρ <;> cases b ρ <;> rfl
theorem dc {α β : Type} (r : R α) (g : α → R β) : r.bind g = unK g r := by cases r <;> rfl
theorem EY (g : PyData → R OD) : eUn g a ρ = unK (fun x => g x.er) (a ρ) := dc _ _
theorem BN : br a ρ = unK (fun x => truth x.er) (a ρ) := dc _ _
theorem AY : lz s t ρ = Ai (s ρ) t ρ := by
 unfold lz;cases s ρ with
 | ok c => cases c <;> rfl
 | ex c => rfl
 | bad => rfl
theorem Dm : pV s t ρ = orK (s ρ) t ρ := by
 unfold pV;cases s ρ with
 | ok c => cases c <;> rfl
 | ex c => rfl
 | bad => rfl
theorem A1 : lX s ρ = unK (fun c => .ok (!c)) (s ρ) := dc _ _
noncomputable def tru (r : R OD) : R Bool := unK (fun x => truth x.er) r
theorem v_and : vz a b ρ = xq (tru (a ρ)) b ρ := by
 unfold vz tru;cases a ρ with
 | ok x =>
  show (truth x.er).bind _ = xq (truth x.er) b ρ
  cases truth x.er with
  | ok c => cases c <;> rfl
  | ex c => rfl
  | bad => rfl
 | ex c => rfl
 | bad => rfl
theorem v_or : eOr a b ρ = orV (tru (a ρ)) b ρ := by
 unfold eOr tru;cases a ρ with
 | ok x =>
  show (truth x.er).bind _ = orV (truth x.er) b ρ
  cases truth x.er with
  | ok c => cases c <;> rfl
  | ex c => rfl
  | bad => rfl
 | ex c => rfl
 | bad => rfl
theorem v_not : wy a ρ = unK (fun c => .ok (.sh (.bool (!c)))) (tru (a ρ)) := by
 unfold wy tru;cases a ρ with
 | ok x =>
  show (truth x.er).bind _ = unK _ (truth x.er)
  exact dc _ _
 | ex c => rfl
 | bad => rfl
theorem Fx : eIf s a b ρ = ifV (s ρ) a b ρ := by
 unfold eIf;cases s ρ with
 | ok c => cases c <;> rfl
 | ex c => rfl
 | bad => rfl
theorem vv : az ρ = .ok [] := rfl
theorem k_ {r : Fa} : ah a r ρ = wz (a ρ) (r ρ) := by
 unfold ah;cases a ρ <;> cases r ρ <;> rfl
theorem En {r : Fa} : iz r ρ = unK (fun xs => if xs.length ≤ BIG then .ok (mkT xs) else .bad) (r ρ) := dc _ _
theorem DH {r : Fa} : eR r ρ = unK (fun xs => if xs.length ≤ BIG then .ok (.ol xs) else .bad) (r ρ) := dc _ _
theorem AU {f : Fn} {r : Fa} : bt f r ρ = unK (fun xs => f (xs.map OD.er)) (r ρ) := dc _ _
theorem v_b {f : List PyData → R OD} {r : Fa} : eB f r ρ = unK (fun xs => f (xs.map OD.er)) (r ρ) := dc _ _
theorem Fj : eSh a ρ = unK (fun x => .ok (.sh x.er)) (a ρ) := dc _ _
theorem v_bor : mH a ρ = unK (fun x => if flat x.er = true then .ok (.sh x.er) else .bad) (a (erase ρ)) := dc _ _
theorem zM : oj s ρ = s (erase ρ) := rfl
noncomputable def y7 : OD → R OD
 | .ol xs => if xs.all (fun y => flat y.er) = true then .ok (.ol (xs.map fun y => .sh y.er)) else .bad
 | _ => .bad
theorem By : lO a ρ = unK y7 (a (erase ρ)) := by
 unfold lO;cases a (erase ρ) with
 | ok x => cases x <;> rfl
 | ex c => rfl
 | bad => rfl
theorem Cf : erase [] = [] := rfl
theorem Dr (x : OD) : erase (some x :: ρ) = some (.sh x.er) :: erase ρ := rfl
theorem Ex : erase (none :: ρ) = none :: erase ρ := rfl
theorem yc : iF ρ = .ok none := rfl
noncomputable def ui : PyData → R (Option Int)
 | .int i => .ok (some i)
 | _ => .bad
theorem xT : iy a ρ = unK (fun x => ui x.er) (a ρ) := by
 unfold iy;rw [dc];cases a ρ with
 | ok x =>
  show (match x.er with | .int i => R.ok (some i) | _ => .bad) = ui x.er
  cases x.er <;> rfl
 | ex c => rfl
 | bad => rfl
theorem FA {g : PyData → Option Int → Option Int → R OD} {l h : Fo} : eSl g a l h ρ = slK g (a ρ) (l ρ) (h ρ) := by
 unfold eSl;cases a ρ <;> cases l ρ <;> cases h ρ <;> rfl
noncomputable def lstK : PyData → R (List PyData)
 | .list ds => .ok ds
 | _ => .bad
noncomputable def tupK : PyData → R (List PyData)
 | .tuple ds => .ok ds
 | _ => .bad
noncomputable def r1K : PyData → R (List PyData)
 | .int j => if aB j = true then .ok (ik 0 j.toNat) else .bad
 | _ => .bad
noncomputable def enK : PyData → R (List PyData)
 | .list ds => .ok (fT ds)
 | _ => .bad
theorem Ap : fZ a ρ = unK (fun x => lstK x.er) (a ρ) := by
 unfold fZ;rw [dc];cases a ρ with
 | ok x =>
  show (match x.er with | .list ds => R.ok ds | _ => .bad) = lstK x.er
  cases x.er <;> rfl
 | ex c => rfl
 | bad => rfl
theorem A9 : iTp a ρ = unK (fun x => tupK x.er) (a ρ) := by
 unfold iTp;rw [dc];cases a ρ with
 | ok x =>
  show (match x.er with | .tuple ds => R.ok ds | _ => .bad) = tupK x.er
  cases x.er <;> rfl
 | ex c => rfl
 | bad => rfl
theorem EU : iR1 a ρ = unK (fun x => r1K x.er) (a ρ) := by
 unfold iR1;rw [dc];cases a ρ with
 | ok x =>
  show (match x.er with | .int j => if aB j = true then R.ok (ik 0 j.toNat) else .bad | _ => .bad) = r1K x.er
  cases x.er <;> rfl
 | ex c => rfl
 | bad => rfl
theorem Fb : iEn a ρ = unK (fun x => enK x.er) (a ρ) := by
 unfold iEn;rw [dc];cases a ρ with
 | ok x =>
  show (match x.er with | .list ds => R.ok (fT ds) | _ => .bad) = enK x.er
  cases x.er <;> rfl
 | ex c => rfl
 | bad => rfl
noncomputable def Am (g : PyData → PyData → R (List PyData)) : R OD → R OD → R (List PyData)
 | .ok x, .ok y => g x.er y.er
 | .ok _, .ex c => .ex c
 | .ok _, .bad => .bad
 | .ex c, _ => .ex c
 | .bad, _ => .bad
theorem EV : iR2 a b ρ = Am r2F (a ρ) (b ρ) := by
 unfold iR2;cases a ρ <;> cases b ρ <;> rfl
theorem EM : iZp a b ρ = Am xj (a ρ) (b ρ) := by
 unfold iZp;cases a ρ <;> cases b ρ <;> rfl
theorem CN (i : Nat) (x : OD) : gNm i x ρ = .ok (ρ.set i (some x)) := rfl
theorem D7 : gE [] ρ = .ok ρ := rfl
theorem Ez {g : Fg} {r : Fgs} {x : OD} {xs : List OD} : bD g r (x :: xs) ρ = unK (fun ρ' => r xs ρ') (g x ρ) := dc _ _
theorem CG {n : Nat} {r : Fgs} {ds : List PyData} : gTp n r (.sh (.tuple ds)) ρ = if ds.length = n then r (ds.map OD.sh) ρ else .bad := rfl
theorem B1 {n : Nat} {r : Fgs} {xs : List OD} : gTp n r (.ot xs) ρ = if xs.length = n then r xs ρ else .bad := rfl
theorem A0 {it : Fi} {g : Fg} {k : Nat} {outs : List Nat} : bT it g t a k outs ρ = yI (it ρ) g t a (sl3 k outs ρ) := by
 unfold bT;cases it ρ with
 | ok ds => exact dc _ _
 | ex c => rfl
 | bad => rfl
theorem Ek {k : Nat} {outs : List Nat} : sl3 k outs ρ = List.replicate k none ++ outs.map fun i => ky ρ[i]? := rfl
theorem E6 : sNx ρ = .ok (.nx ρ) := rfl
theorem EX : sBk ρ = .ok (.bk ρ) := rfl
theorem ES : sCt ρ = .ok (.ct ρ) := rfl
theorem Dy : aE p q ρ = vR (p ρ) q := by
 unfold aE;cases p ρ with
 | ok o => cases o <;> rfl
 | ex c => rfl
 | bad => rfl
theorem Dd {g : Fg} : sX a g ρ = CQ (a ρ) g ρ := by
 unfold sX;cases a ρ with
 | ok x => exact dc _ _
 | ex c => rfl
 | bad => rfl
theorem D9 (i : Nat) : aJ i a ρ = unK (fun x => .ok (.nx (ρ.set i (some x)))) (a ρ) := dc _ _
theorem BB : rY a ρ = unK (fun _ => .ok (.nx ρ)) (a ρ) := dc _ _
theorem De : e_ a ρ = unK (fun x => .ok (.rt x)) (a ρ) := dc _ _
theorem zI : Cc ρ = .ok (.rt (.sh .none)) := rfl
theorem zP (i : Nat) : fm i ρ = vh ρ[i]? := by
 unfold fm vh;rfl
theorem Cn : sIf s p q ρ = ifK (s ρ) p q ρ := by
 unfold sIf;cases s ρ with
 | ok c => cases c <;> rfl
 | ex c => rfl
 | bad => rfl
theorem C0 (i : Nat) : mU i p ρ = p (wC i ρ) := rfl
theorem BL (i : Nat) : wC i ρ = Bz ρ[i]? i ρ := by
 unfold wC Bz;rfl
theorem D5 (i : Nat) {g : PyData → PyData → R OD} : Eu i g a ρ = Az ρ[i]? g (a ρ) i ρ := by
 unfold Eu Az;generalize ρ[i]? = o
 cases o with
 | none => rfl
 | some o =>
  cases o with
  | none => rfl
  | some x =>
   cases x with
   | sh d =>
    show ((a ρ).bind fun y => (g d y.er).bind fun z => R.ok (Out.nx (ρ.set i (some z)))) = _
    rw [dc];show unK _ (a ρ) = unK _ (a ρ)
    first
     | done
     | (congr 1; funext y; exact dc _ _)
     | (congr 1)
   | ol xs => rfl
   | ot xs => rfl
   | od xs => rfl
theorem Ei (i : Nat) : ib i a ρ = AF ρ[i]? (a ρ) i ρ := by
 unfold ib AF;generalize ρ[i]? = o
 cases o with
 | none => rfl
 | some o =>
  cases o with
  | none => rfl
  | some x =>
   cases x with
   | sh d => rfl
   | ol xs => exact dc _ _
   | ot xs => rfl
   | od xs => rfl
theorem B7 {it : Fi} {g : Fg} : fM it g p ρ = Ed (it ρ) g p ρ := by
 unfold fM;cases it ρ <;> rfl
theorem Ck (T : String) : tY T a ρ = unK (fun x => ia T x.er) (a ρ) := dc _ _
theorem CU : uq a b ρ = Cs (a ρ) b ρ := by
 unfold uq;cases a ρ with
 | ok x =>
  show (match x.er with | .list ds => (b ρ).bind fun y => mK ds y.er | _ => .bad) = (match x.er with | .list ds => unK (fun y => mK ds y.er) (b ρ) | _ => .bad)
  cases x.er with
  | list ds => exact dc _ _
  | _ => rfl
 | ex c => rfl
 | bad => rfl
theorem D3 {np n : Nat} {ds : List PyData} : dE np n p ds = if ds.length = np then zq (p (oq n ds)) else .bad := by
 unfold dE;congr 1
 cases p (oq n ds) with
 | ok o => cases o <;> rfl
 | ex c => rfl
 | bad => rfl
theorem EF (d : PyData) : zi (some (some (.sh d))) = .ok (.sh d) := rfl
theorem Fz {g : PyData → PyData → R OD} {x y : OD} : opK g (.ok x) (.ok y) = g x.er y.er := rfl
theorem DP {g : PyData → PyData → R (List PyData)} {x y : OD} : Am g (.ok x) (.ok y) = g x.er y.er := rfl
theorem E1 {α β : Type} {g : α → R β} {x : α} : unK g (.ok x) = g x := rfl
theorem Eb {α β : Type} {g : α → R β} {c : Str} : unK g (.ex c) = .ex c := rfl
theorem Bt : Ai (.ok true) t ρ = t ρ := rfl
theorem Ba : Ai (.ok false) t ρ = .ok false := rfl
theorem CP : orK (.ok true) t ρ = .ok true := rfl
theorem Ec : orK (.ok false) t ρ = t ρ := rfl
theorem wO : xq (.ok true) a ρ = a ρ := rfl
theorem yp : xq (.ok false) a ρ = .ok (.sh (.bool false)) := rfl
theorem BV : orV (.ok true) a ρ = .ok (.sh (.bool true)) := rfl
theorem A4 : orV (.ok false) a ρ = a ρ := rfl
theorem Bs : ifV (.ok true) a b ρ = a ρ := rfl
theorem zz : ifV (.ok false) a b ρ = b ρ := rfl
theorem DX : ifK (.ok true) p q ρ = p ρ := rfl
theorem BZ : ifK (.ok false) p q ρ = q ρ := rfl
theorem AQ {x : OD} {xs : List OD} : wz (.ok x) (.ok xs) = .ok (x :: xs) := rfl
theorem El : vR (.ok (.nx ρ)) p = p ρ := rfl
theorem zr {x : OD} : vR (.ok (.rt x)) p = .ok (.rt x) := rfl
theorem Bc : vR (.ok (.ct ρ)) p = .ok (.ct ρ) := rfl
theorem Ao : vR (.ok (.bk ρ)) p = .ok (.bk ρ) := rfl
theorem C9 {x : OD} {g : Fg} : CQ (.ok x) g ρ = unK (fun ρ' => .ok (.nx ρ')) (g x ρ) := rfl
theorem Dh {ds : List PyData} {g : Fg} : Ed (.ok ds) g p ρ = bE g p ds ρ := rfl
theorem AZ {ds : List PyData} {g : Fg} : yI (.ok ds) g t a ρ = unK (fun xs => .ok (.ol xs)) (bb g t a ρ ds []) := rfl
theorem E5 {g : PyData → Option Int → Option Int → R OD} {x : OD} {i j : Option Int} : slK g (.ok x) (.ok i) (.ok j) = g x.er i j := rfl
theorem EE {xs : List OD} {y : OD} {i : Nat} : AF (some (some (.ol xs))) (.ok y) i ρ = if xs.length < BIG then .ok (.nx (ρ.set i (some (.ol (xs ++ [y]))))) else .bad := rfl
theorem BG {x : OD} : vh (some (some x)) = .ok (.rt x) := rfl
theorem Dw {x : OD} {i : Nat} : Bz (some (some x)) i ρ = ρ.set i (some (.sh x.er)) := rfl
theorem zE {x : OD} : zq (.ok (.rt x)) = .ok x := rfl
theorem zF : zq (.ok (.nx ρ)) = .ok (.sh .none) := rfl
theorem Er (x : OD) : tru (.ok x) = truth x.er := rfl
theorem wR (c : Bool) : truth (.bool c) = .ok c := rfl
theorem Eo {ds : List PyData} : Cs (.ok (.sh (.list ds))) b ρ = unK (fun y => mK ds y.er) (b ρ) := rfl
theorem B2 {d : PyData} {g : PyData → PyData → R OD} {y : OD} {i : Nat} : Az (some (some (.sh d))) g (.ok y) i ρ = unK (fun z => .ok (.nx (ρ.set i (some z)))) (g d y.er) := rfl
theorem CA (ds : List PyData) : lstK (.list ds) = .ok ds := rfl
theorem Ct (ds : List PyData) : tupK (.tuple ds) = .ok ds := rfl
theorem E0 (ds : List PyData) : enK (.list ds) = .ok (fT ds) := rfl
theorem E4 (j : Int) : r1K (.int j) = if aB j = true then .ok (ik 0 j.toNat) else .bad := rfl
theorem EZ (i j : Int) : r2F (.int i) (.int j) = if (aB i && aB j) = true then .ok (ik i (j - i).toNat) else .bad := rfl
theorem DN (ds es : List PyData) : xj (.list ds) (.list es) = .ok (ku ds es) := rfl
theorem Ax (i : Int) : ui (.int i) = .ok (some i) := rfl
theorem Ah (n : Nat) (ds : List PyData) : oq n ds = (ds.map fun d => some (OD.sh d)) ++ List.replicate (n - ds.length) none := rfl
theorem Cg (d : PyData) : ky (some (some (.sh d))) = some (.sh d) := rfl
theorem Dk : ky (some none) = none := rfl
theorem Bk (xs : List OD) : ky (some (some (.ol xs))) = none := rfl
theorem Co (d : PyData) : mkT [.sh d] = .sh (.tuple [d]) := rfl
theorem Cb (d e : PyData) : mkT [.sh d, .sh e] = .sh (.tuple [d, e]) := rfl
theorem Dg (d e f : PyData) : mkT [.sh d, .sh e, .sh f] = .sh (.tuple [d, e, f]) := rfl
theorem CT (d e f g : PyData) : mkT [.sh d, .sh e, .sh f, .sh g] = .sh (.tuple [d, e, f, g]) := rfl
theorem C7 (i j : Int) : bB (.int i) (.int j) = .ok (.sh (.int (i + j))) := rfl
theorem Ca (i j : Int) : eO (.int i) (.int j) = .ok (.sh (.int (i - j))) := rfl
theorem Ey (i j : Int) : eS (.int i) (.int j) = if gq i j = true then .ok (.sh (.int (i * j))) else .bad := rfl
theorem Es (i j : Int) : ft (.int i) (.int j) = if 0 < j then .ok (.sh (.int (i % j))) else .bad := rfl
theorem Eg (i j : Int) : gR (.int i) (.int j) = if 0 < j ∧ j < 1073741824 then .ok (.sh (.int (i / j))) else .bad := rfl
theorem C_ (i j : Int) : uk (.int i) (.int j) = if 0 ≤ j ∧ j ≤ 1000000 ∧ i.natAbs < 2 ^ 64 then .ok (.sh (.int (i ^ j.toNat))) else .bad := rfl
theorem EC (i : Int) : fK (.int i) = .ok (.sh (.int (-i))) := rfl
theorem Fh (i j : Int) : gLt (.int i) (.int j) = .ok (.sh (.bool (decide (i < j)))) := rfl
theorem E_ (i j : Int) : gLe (.int i) (.int j) = .ok (.sh (.bool (decide (i ≤ j)))) := rfl
theorem EN (i j : Int) : gGt (.int i) (.int j) = .ok (.sh (.bool (decide (j < i)))) := rfl
theorem EK (i j : Int) : gGe (.int i) (.int j) = .ok (.sh (.bool (decide (j ≤ i)))) := rfl
theorem Ff (i j : Int) : gEq (.int i) (.int j) = .ok (.sh (.bool (decide (i = j)))) := rfl
theorem Fy (i j : Int) : gNe (.int i) (.int j) = .ok (.sh (.bool (!decide (i = j)))) := rfl
theorem BE (i j : Int) : Dz (.int i) (.int j) = .ok (.sh (.int (i + j))) := rfl
theorem DQ (xs : List PyData) (i : Int) : gIx (.list xs) (.int i) = ju (atI xs i) := rfl
theorem Ej (xs : List PyData) (i : Int) : gIx (.tuple xs) (.int i) = ju (atI xs i) := rfl
theorem Bj (xs : List PyData) : cH [.list xs] = .ok (.sh (.int xs.length)) := rfl
theorem zt (xs : List PyData) : cH [.tuple xs] = .ok (.sh (.int xs.length)) := rfl
theorem Ak (x : Str) : cH [.str x] = if x.length ≤ BIG then .ok (.sh (.int x.length)) else .bad := rfl
theorem AM (i j : Int) : rV [.int i, .int j] = .ok (.sh (.int (if j < i then j else i))) := rfl
theorem vn (i j : Int) : pX [.int i, .int j] = .ok (.sh (.int (if i < j then j else i))) := rfl
theorem qr (n : Int) (ns : List Int) : jw [.list (PyData.int n :: ns.map PyData.int)] = .ok (.sh (.int (iA n ns))) := by
 show (match dZ ((n :: ns).map PyData.int) with | some (n :: ns) => oI (iA n ns) | _ => .bad) = _
 rw [gI];rfl
theorem vA (n : Int) (ns : List Int) : jq [.list (PyData.int n :: ns.map PyData.int)] = .ok (.sh (.int (nW n ns))) := by
 show (match dZ ((n :: ns).map PyData.int) with | some (n :: ns) => oI (nW n ns) | _ => .bad) = _
 rw [gI];rfl
theorem Bh (ds : List PyData) : jh [.list ds] = .ok (.ol (ds.map OD.sh)) := rfl
theorem Cv (i : Int) : sE [.int i] = .ok (.sh (.int i)) := rfl
theorem AG (c : Bool) : sE [.bool c] = .ok (.sh (.int (if c then 1 else 0))) := rfl
theorem zd (ns : List Int) (z : Int) (h : z ∈ ns) : mK (ns.map PyData.int) (.int z) = .ok (.sh (.int (ns.idxOf z : Nat))) := by
 show (match dZ (ns.map PyData.int) with | some ns => if z ∈ ns then oI (ns.idxOf z : Nat) else .bad | none => .bad) = _
 rw [gI];show (if z ∈ ns then oI (ns.idxOf z : Nat) else .bad) = _
 rw [if_pos h];rfl
theorem CB (xs : List PyData) (i j : Option Int) : lN (.list xs) i j = .ok (.ol ((cutD xs i j).map OD.sh)) := rfl
theorem BI (d : PyData) : ju (some d) = .ok (.sh d) := rfl
theorem at0 {α : Type} (x : α) (xs : List α) : atI (x :: xs) 0 = some x := by
 have : atI (x :: xs) ((0 : Nat) : Int) = some x := eE rfl;exact this
theorem at1 {α : Type} (x y : α) (xs : List α) : atI (x :: y :: xs) 1 = some y := by
 have : atI (x :: y :: xs) ((1 : Nat) : Int) = some y := eE rfl;exact this
theorem at2 {α : Type} (x y z : α) (xs : List α) : atI (x :: y :: z :: xs) 2 = some z := by
 have : atI (x :: y :: z :: xs) ((2 : Nat) : Int) = some z := eE rfl;exact this
theorem D8 (c : Bool) : oB c = .ok (.sh (.bool c)) := rfl
end
end L3
namespace L3
open PySem L2
theorem sH {i j : Int} (h1 : -18446744073709551616 < i) (h2 : i < 18446744073709551616) : gq i j = true := by
 unfold gq;rw [Bool.or_eq_true, Bool.and_eq_true, decide_eq_true_eq, decide_eq_true_eq];exact .inl ⟨by lia, by lia⟩
theorem Av {i j : Int} (h1 : -18446744073709551616 < j) (h2 : j < 18446744073709551616) : gq i j = true := by
 unfold gq;rw [Bool.or_eq_true, Bool.and_eq_true, Bool.and_eq_true, decide_eq_true_eq, decide_eq_true_eq, decide_eq_true_eq, decide_eq_true_eq];exact .inr ⟨by lia, by lia⟩
theorem eT {i : Int} (h1 : -4611686018427387904 ≤ i) (h2 : i < 4611686018427387904) : aB i = true := eL.mpr ⟨by lia, by lia⟩
theorem eK {n : Nat} (h : n < 1000) : (n < BIG) = True := eq_true (Nat.lt_of_lt_of_le h (by decide))
theorem aP {n : Nat} (h : n ≤ 1000) : (n ≤ BIG) = True := eq_true (Nat.le_trans h (by decide))
theorem dR (i : Int) {j : Int} (h : 0 < j) : 0 ≤ i % j ∧ i % j < j := ⟨Int.emod_nonneg _ (by lia), Int.emod_lt_of_pos _ h⟩
theorem BU {α : Type} (xs : List α) (i : Int) (h0 : 0 ≤ i) (h1 : i < xs.length) : ∃ x, xs[i.toNat]? = some x ∧ atI xs i = some x := by
 obtain ⟨j, rfl⟩ : ∃ j : Nat, i = j := ⟨i.toNat, by lia⟩
 have hj : j < xs.length := by lia
 exact ⟨xs[j], by simp [hj], eE (by simp [hj])⟩
end L3
namespace L3
open PySem L2
theorem vD {g : Fg} {b : Fs} {ds : List PyData} {ρ : Env} {r : R Out} (hL : bE g b ds ρ = r) (S : Nat → Env → Prop) (h0 : S 0 ρ) (st : ∀ (i : Nat) (d : PyData) (ρ : Env), ds[i]? = some d → S i ρ → ∃ ρ1 ρ2, g (.sh d) ρ = .ok ρ1 ∧ (b ρ1 = .ok (.nx ρ2) ∨ b ρ1 = .ok (.ct ρ2)) ∧ S (i + 1) ρ2) :
  ∃ ρ', r = .ok (.nx ρ') ∧ S ds.length ρ' := by
 obtain ⟨ρ', e, h⟩ := sR S h0 st;exact ⟨ρ', by rw [← hL, e], h⟩
end L3
namespace L3
open PySem L2
noncomputable def kh (S : Env → Prop) : R Out → Prop
 | .ok (.nx ρ) => S ρ
 | .ok (.ct ρ) => S ρ
 | _ => False
theorem C5 {S : Env → Prop} {ρ : Env} : kh S (.ok (.nx ρ)) = S ρ := rfl
theorem EH {S : Env → Prop} {ρ : Env} : kh S (.ok (.ct ρ)) = S ρ := rfl
theorem rZ {S : Env → Prop} {b : Fs} {r : R Env} (h : kh S (unK b r)) : ∃ ρ1 ρ2, r = .ok ρ1 ∧ (b ρ1 = .ok (.nx ρ2) ∨ b ρ1 = .ok (.ct ρ2)) ∧ S ρ2 := by
 cases r with
 | ok ρ1 =>
  have h' : kh S (b ρ1) := h;cases hb : b ρ1 with
  | ok o =>
   rw [hb] at h';cases o with
   | nx ρ2 => exact ⟨ρ1, ρ2, rfl, .inl hb, h'⟩
   | ct ρ2 => exact ⟨ρ1, ρ2, rfl, .inr hb, h'⟩
   | bk _ => exact h'.elim
   | rt _ => exact h'.elim
  | ex _ => rw [hb] at h'; exact h'.elim
  | bad => rw [hb] at h'; exact h'.elim
 | ex c => exact h.elim
 | bad => exact h.elim
theorem cC {P : Prop} {g : Fg} {b : Fs} {ds : List PyData} {ρ : Env} {r : R Out} (hL : bE g b ds ρ = r) (S : Nat → Env → Prop) (h0 : S 0 ρ) (st : ∀ (i : Nat) (d : PyData) (ρ : Env), ds[i]? = some d → S i ρ → kh (S (i + 1)) (unK b (g (.sh d) ρ)))
  (fin : ∀ ρ', r = .ok (.nx ρ') → S ds.length ρ' → P) : P := by
 obtain ⟨ρ', e, h⟩ := vD hL S h0 fun i d ρ hd hS => by
  obtain ⟨ρ1, ρ2, a, b, c⟩ := rZ (st i d ρ hd hS);exact ⟨ρ1, ρ2, a, b, c⟩
 exact fin ρ' e h
theorem sf {P : Prop} {t : Ft} {b : Fs} {ρ : Env} {r : R Out} (hL : gh t b ρ = r) (I : Nat → Env → Prop) (m : Nat) (h0 : I m ρ) (Q : Env → Prop) (st : ∀ m ρ, I m ρ → (t ρ = .ok false ∧ Q ρ) ∨ (t ρ = .ok true ∧ kh (fun ρ2 => ∃ m', m' < m ∧ I m' ρ2) (b ρ)))
  (fin : ∀ ρ', r = .ok (.nx ρ') → Q ρ' → P) : P := by
 obtain ⟨ρ', e, h⟩ := sJ I Q (fun m ρ hI => by
  rcases st m ρ hI with h | ⟨h1, h2⟩
  ·exact .inl h
  ·obtain ⟨ρ1, ρ2, a, b, m', c, d⟩ := rZ (r := .ok ρ) h2
   cases a;exact .inr ⟨h1, ρ2, m', b, c, d⟩) m ρ h0
 exact fin ρ' (by rw [← hL, e]) h
end L3
namespace L3
open PySem L2
noncomputable def zC (o : Option (Option OD)) (a k : R OD) (i : Nat) (ρ : Env) : R Out := match o with
 | some (some (.ol xs)) => unK (fun y => unK (fun z => match z.er with
  | .int q => match ixN xs.length q with
   | some j => .ok (.nx (ρ.set i (some (.ol (xs.set j y)))))
   | none => .bad
  | _ => .bad) k) a
 | _ => .bad
theorem qN {β : Type} (o : Option (Option OD)) : o = none ∨ o = some none ∨ (∃ d, o = some (some (.sh d))) ∨ (∃ xs, o = some (some (.ol xs))) ∨ (∃ xs, o = some (some (.ot xs))) ∨ ∃ xs, o = some (some (.od xs)) := by
 cases o with
 | none => exact .inl rfl
 | some o =>
  cases o with
  | none => exact .inr (.inl rfl)
  | some x =>
   cases x with
   | sh d => exact .inr (.inr (.inl ⟨d, rfl⟩))
   | ol xs => exact .inr (.inr (.inr (.inl ⟨xs, rfl⟩)))
   | ot xs => exact .inr (.inr (.inr (.inr (.inl ⟨xs, rfl⟩))))
   | od xs => exact .inr (.inr (.inr (.inr (.inr ⟨xs, rfl⟩))))
section
variable {ρ : Env} {a b k : Fe} {s t : Ft} {p q : Fs}
theorem v_sub (i : Nat) : o8 i k a ρ = zC ρ[i]? (a ρ) (k ρ) i ρ := by
 unfold o8 zC;generalize ρ[i]? = o
 rcases qN (β := Nat) o with rfl | rfl | ⟨d, rfl⟩ | ⟨xs, rfl⟩ | ⟨xs, rfl⟩ | ⟨xs, rfl⟩
 ·rfl
 ·rfl
 ·rfl
 ·cases a ρ <;> cases k ρ <;> rfl
 ·rfl
 ·rfl
theorem uK {xs : List OD} {y : OD} {z : Int} {i j : Nat} (h : ixN xs.length z = some j) : zC (some (some (.ol xs))) (.ok y) (.ok (.sh (.int z))) i ρ = .ok (.nx (ρ.set i (some (.ol (xs.set j y))))) := by
 show (match (OD.sh (PyData.int z)).er with
  | .int q => match ixN xs.length q with
   | some j => R.ok (Out.nx (ρ.set i (some (.ol (xs.set j y)))))
   | none => .bad
  | _ => .bad) = _
 rw [cZ];show (match ixN xs.length z with
   | some j => R.ok (Out.nx (ρ.set i (some (.ol (xs.set j y)))))
   | none => .bad) = _
 rw [h]
theorem iX {n j : Nat} (h : j < n) : ixN n (j : Int) = some j := by
 unfold ixN;rw [if_pos (by lia), if_pos (by lia)]
 simp
noncomputable def Br (o : Option (Option OD)) (i : Nat) (ρ : Env) : R Out := match o with
 | some (some (.ol xs)) => .ok (.nx (ρ.set i (some (.ol xs.reverse))))
 | _ => .bad
noncomputable def Bw (o : Option (Option OD)) (i : Nat) (ρ : Env) : R Out := match o with
 | some (some (.ol xs)) => .ok (.nx (ρ.set i (some (.ol []))))
 | _ => .bad
theorem CZ (i : Nat) : Cw i ρ = Br ρ[i]? i ρ := by unfold Cw Br; rfl
theorem DU (i : Nat) : Ep i ρ = Bw ρ[i]? i ρ := by unfold Ep Bw; rfl
theorem C3 {xs : List OD} {i : Nat} : Br (some (some (.ol xs))) i ρ = .ok (.nx (ρ.set i (some (.ol xs.reverse)))) := rfl
theorem EB {xs : List OD} {i : Nat} : Bw (some (some (.ol xs))) i ρ = .ok (.nx (ρ.set i (some (.ol [])))) := rfl
noncomputable def w_ (o : Option (Option OD)) (g : Fg) (i : Nat) (ρ : Env) : R Out := match o with
 | some (some (.ol xs)) => match xs.getLast? with
  | some (.sh d) => unK (fun ρ' => .ok (.nx ρ')) (g (.sh d) (ρ.set i (some (.ol xs.dropLast))))
  | _ => .bad
 | _ => .bad
theorem Cj (i : Nat) {g : Fg} : qj i g ρ = w_ ρ[i]? g i ρ := by
 unfold qj w_;generalize ρ[i]? = o
 rcases qN (β := Nat) o with rfl | rfl | ⟨d, rfl⟩ | ⟨xs, rfl⟩ | ⟨xs, rfl⟩ | ⟨xs, rfl⟩
 ·rfl
 ·rfl
 ·rfl
 ·show (match xs.getLast? with
   | some (.sh d) => (g (.sh d) (ρ.set i (some (.ol xs.dropLast)))).bind fun ρ' => R.ok (Out.nx ρ')
   | _ => .bad) = (match xs.getLast? with
   | some (.sh d) => unK (fun ρ' => R.ok (Out.nx ρ')) (g (.sh d) (ρ.set i (some (.ol xs.dropLast))))
   | _ => R.bad)
  cases xs.getLast? with
  | none => rfl
  | some x =>
   cases x with
   | sh d => exact dc _ _
   | ol _ => rfl
   | ot _ => rfl
   | od _ => rfl
 ·rfl
 ·rfl
theorem rE {xs : List OD} {d : PyData} {i : Nat} {g : Fg} : w_ (some (some (.ol (xs ++ [.sh d])))) g i ρ = unK (fun ρ' => R.ok (Out.nx ρ')) (g (.sh d) (ρ.set i (some (.ol xs)))) := by
 have h1 : (xs ++ [OD.sh d]).getLast? = some (.sh d) := by simp
 unfold w_;simp only [h1, List.dropLast_concat]
noncomputable def zW (o : Option (Option OD)) (a : R OD) (i : Nat) (ρ : Env) : R Out := match o with
 | some (some (.ol xs)) => unK (fun y => match y with
  | .ol ys => if xs.length + ys.length ≤ BIG then .ok (.nx (ρ.set i (some (.ol (xs ++ ys))))) else .bad
  | _ => .bad) a
 | _ => .bad
theorem CI (i : Nat) : Ea i a ρ = zW ρ[i]? (a ρ) i ρ := by
 unfold Ea zW;generalize ρ[i]? = o
 rcases qN (β := Nat) o with rfl | rfl | ⟨d, rfl⟩ | ⟨xs, rfl⟩ | ⟨xs, rfl⟩ | ⟨xs, rfl⟩
 ·rfl
 ·rfl
 ·rfl
 ·cases a ρ with
  | ok y => cases y <;> rfl
  | ex c => rfl
  | bad => rfl
 ·rfl
 ·rfl
theorem Cd {xs ys : List OD} {i : Nat} : zW (some (some (.ol xs))) (.ok (.ol ys)) i ρ = if xs.length + ys.length ≤ BIG then .ok (.nx (ρ.set i (some (.ol (xs ++ ys))))) else .bad := rfl
theorem wZ {i : Nat} {xs ys : List OD} {z : Int} {j : Nat} {y : OD} (h1 : ρ[i]? = some (some (.ol xs))) (h2 : k ρ = .ok (.sh (.int z))) (h3 : ixN xs.length z = some j) (h4 : xs[j]? = some (.ol ys)) (h5 : a ρ = .ok y) (h6 : ys.length < BIG) :
  ke i k a ρ = .ok (.nx (ρ.set i (some (.ol (xs.set j (.ol (ys ++ [y]))))))) := by
 unfold ke;rw [h1, h2];simp only [cz, cZ, h3, h4, h5, h6, if_true]
end
theorem c6 {α : Type} {g : Fg} {el : Fe} {ρ0 : Env} {ds : List PyData} {r : R (List OD)} (hL : bb g dt el ρ0 ds [] = r) (emb : α → PyData) (y : α → OD) (L : List α) (e : ds = L.map emb) (hl : L.length ≤ BIG) (h : ∀ x ∈ L, unK el (g (.sh (emb x)) ρ0) = .ok (y x)) : r = .ok (L.map y) := by
 subst e;rw [← hL];have go : ∀ (L : List α) (acc : List OD), (∀ x ∈ L, unK el (g (.sh (emb x)) ρ0) = .ok (y x)) → acc.length + L.length ≤ BIG → bb g dt el ρ0 (L.map emb) acc = .ok (acc ++ L.map y) := by
  intro L
  induction L with
  | nil => intro acc _ _; rw [List.map_nil, bb, List.map_nil, List.append_nil]
  | cons x L ih =>
   intro acc h hl;have hx := h x List.mem_cons_self;rw [List.length_cons] at hl;rw [List.map_cons, bb];cases hg : g (.sh (emb x)) ρ0 with
   | ok ρ =>
    rw [hg] at hx;have hx' : el ρ = .ok (y x) := hx;simp only [n8, cz, dt, if_true, hx'];rw [if_pos (by lia), ih (acc ++ [y x]) (fun z hz => h z (List.mem_cons_of_mem _ hz)) (by rw [List.length_append, List.length_singleton]; lia), List.map_cons, List.append_assoc]
    rfl
   | ex c => rw [hg] at hx; cases hx
   | bad => rw [hg] at hx; cases hx
 rw [go L [] h (by simpa using hl)]
 rfl
theorem iZ {α : Type} {g : Fg} {t : Ft} {el : Fe} {ρ0 : Env} {ds : List PyData} {r : R (List OD)} (hL : bb g t el ρ0 ds [] = r) (emb : α → PyData) (p : α → Bool) (y : α → OD) (L : List α) (e : ds = L.map emb) (hl : L.length ≤ BIG) (h : ∀ x ∈ L, unK t (g (.sh (emb x)) ρ0) = .ok (p x) ∧ (p x = true → unK el (g (.sh (emb x)) ρ0) = .ok (y x))) : r = .ok ((L.filter p).map y) := by
 subst e;rw [← hL];have go : ∀ (L : List α) (acc : List OD), (∀ x ∈ L, unK t (g (.sh (emb x)) ρ0) = .ok (p x) ∧ (p x = true → unK el (g (.sh (emb x)) ρ0) = .ok (y x))) → acc.length + L.length ≤ BIG → bb g t el ρ0 (L.map emb) acc = .ok (acc ++ (L.filter p).map y) := by
  intro L
  induction L with
  | nil => intro acc _ _; rw [List.map_nil, bb, List.filter_nil, List.map_nil, List.append_nil]
  | cons x L ih =>
   intro acc h hl;obtain ⟨hx, hy⟩ := h x List.mem_cons_self;rw [List.length_cons] at hl;rw [List.map_cons, bb];cases hg : g (.sh (emb x)) ρ0 with
   | ok ρ =>
    rw [hg] at hx hy;have hx' : t ρ = .ok (p x) := hx;have hy' : p x = true → el ρ = .ok (y x) := hy;simp only [n8, cz, hx'];by_cases hp : p x = true
    ·rw [if_pos hp, hy' hp]
     simp only [cz];rw [if_pos (by lia), ih (acc ++ [y x]) (fun z hz => h z (List.mem_cons_of_mem _ hz)) (by rw [List.length_append, List.length_singleton]; lia), List.filter_cons_of_pos hp, List.map_cons, List.append_assoc]
     rfl
    ·rw [if_neg hp, ih acc (fun z hz => h z (List.mem_cons_of_mem _ hz)) (by lia), List.filter_cons_of_neg hp]
   | ex c => rw [hg] at hx; cases hx
   | bad => rw [hg] at hx; cases hx
 rw [go L [] h (by simpa using hl)]
 rfl
end L3
namespace L3
open PySem L2
noncomputable def lay (n : Nat) (d : PyData) : Prop := d.canLay0 = true ∧ d.depth ≤ n
theorem ij (i : Int) : lay 0 (.int i) := ⟨rfl, Nat.le_refl _⟩
theorem xW {x : Str} (h : PyData.strOk x = true) : lay 0 (.str x) := ⟨h, Nat.le_refl _⟩
theorem ox {n : Nat} : ∀ {xs : List PyData}, (∀ x ∈ xs, lay n x) → PyData.canLayAll0 xs = true ∧ PyData.depthAll xs ≤ n
 | [], _ => ⟨rfl, Nat.zero_le _⟩
 | x :: xs, h => by
  obtain ⟨a1, a2⟩ := h x List.mem_cons_self;obtain ⟨b1, b2⟩ := ox (xs := xs) fun y hy => h y (List.mem_cons_of_mem _ hy)
  unfold PyData.canLayAll0 PyData.depthAll;rw [a1, b1];exact ⟨rfl, by lia⟩
theorem iQ {n : Nat} {xs : List PyData} (h : ∀ x ∈ xs, lay n x) : lay (n + 1) (.list xs) := by
 obtain ⟨b1, b2⟩ := ox h;refine ⟨by unfold PyData.canLay0; exact b1, ?_⟩
 unfold PyData.depth;lia
theorem ko {n : Nat} {xs : List PyData} (h : ∀ x ∈ xs, lay n x) : lay (n + 1) (.tuple xs) := by
 obtain ⟨b1, b2⟩ := ox h;refine ⟨by unfold PyData.canLay0; exact b1, ?_⟩
 unfold PyData.depth;lia
theorem bX {n : Nat} {d : PyData} (h : lay n d) (hn : n ≤ 64) : SeqAt.shaped d = true := by
 unfold SeqAt.shaped;rw [Bool.and_eq_true];exact ⟨h.1, decide_eq_true (Nat.le_trans h.2 hn)⟩
theorem lay_ints (ns : List Int) : lay 1 (.list (ns.map PyData.int)) := iQ fun x hx => by
 obtain ⟨n, _, rfl⟩ := List.mem_map.mp hx;exact ij n
theorem gz (a b : List PyData) : eqD (.list a) (.list b) = gW (.list a) (.list b) := rfl
theorem nc {n : Nat} {d : PyData} (h : lay n d) (hn : n ≤ 64) : gW d d = .ok true := by
 unfold gW;rw [bX h hn, Bool.and_self, if_pos rfl, SeqAt.eqv_refl _ (SeqAt.canLay_of_shaped (bX h hn))]
theorem mf {n : Nat} {a : List PyData} (h : lay n (.list a)) (hn : n ≤ 64 := by decide) : gEq (.list a) (.list a) = .ok (.sh (.bool true)) := by
 unfold gEq;rw [gz, nc h hn];rfl
theorem iM {n : Nat} {a : List PyData} (h : lay n (.list a)) (hn : n ≤ 64 := by decide) : gNe (.list a) (.list a) = .ok (.sh (.bool false)) := by
 unfold gNe;rw [gz, nc h hn];rfl
end L3
namespace L3
open PySem L2
theorem EA (z : Str) (i : Int) : gIx (.str z) (.int i) = if z.length ≤ BIG then ju ((atI z.cps.toList i).map fun c => .str ⟨#[c]⟩) else .bad := rfl
theorem zA (x y : Str) : bB (.str x) (.str y) = if x.length + y.length ≤ BIG then .ok (.sh (.str (x ++ y))) else .bad := rfl
theorem oo (x y : List PyData) : bB (.list x) (.list y) = if x.length + y.length ≤ BIG then .ok (.ol ((x ++ y).map OD.sh)) else .bad := rfl
theorem BC (xs : List PyData) (k : Int) : eS (.list xs) (.int k) = if (decide (-(2 ^ 63) ≤ k) && decide (k < 2 ^ 63) && decide (xs.length * k.toNat ≤ BIG)) = true then .ok (.ol ((List.replicate k.toNat xs).flatten.map OD.sh)) else .bad := rfl
theorem k8 (x : PyData) (n : Nat) (h : n ≤ 1000) : eS (.list [x]) (.int n) = .ok (.ol ((List.replicate n x).map OD.sh)) := by
 rw [BC, if_pos]
 ·rw [Int.toNat_natCast]
  congr 2
  induction n with
  | zero => rfl
  | succ n ih => rw [List.replicate_succ, List.flatten_cons, List.map_append, ih (by lia), List.replicate_succ, List.map_cons]; rfl
 ·rw [Bool.and_eq_true, Bool.and_eq_true, decide_eq_true_eq, decide_eq_true_eq, decide_eq_true_eq]
  refine ⟨⟨by lia, by lia⟩, ?_⟩
  rw [Int.toNat_natCast, List.length_singleton, Nat.one_mul];exact of_eq_true (aP h)
theorem Dc (x y : Str) : gEq (.str x) (.str y) = .ok (.sh (.bool (decide (x = y)))) := rfl
theorem DM (x y : Str) : gNe (.str x) (.str y) = .ok (.sh (.bool (!decide (x = y)))) := rfl
end L3
namespace L3
open PySem L2
noncomputable def vp (S : Env → Prop) (T : OD → Prop) : R Out → Prop
 | .ok (.nx ρ) => S ρ
 | .ok (.ct ρ) => S ρ
 | .ok (.rt x) => T x
 | _ => False
theorem CV {S : Env → Prop} {T : OD → Prop} {ρ : Env} : vp S T (.ok (.nx ρ)) = S ρ := rfl
theorem Cq {S : Env → Prop} {T : OD → Prop} {ρ : Env} : vp S T (.ok (.ct ρ)) = S ρ := rfl
theorem Eh {S : Env → Prop} {T : OD → Prop} {x : OD} : vp S T (.ok (.rt x)) = T x := rfl
theorem jW (xs : List PyData) (a : Nat) (ha : a ≤ xs.length) : cutD xs (some (a : Int)) none = xs.drop a := by
 unfold cutD;rw [HT.qZ, HT.o_, Nat.min_eq_left ha, List.take_of_length_le (by rw [List.length_drop]; lia)]
end L3
namespace L3
open PySem L2 PySem.Spec PyProof.Rows
noncomputable def Itd (lo : Int) (n : Nat) : It := ⟨fun i _ => i < n, fun i H x H' => H' = H ∧ x = .int (lo - i), fun i _ => n ≤ i⟩
theorem sC {P : Program} {w : World} {K : PySem.W.Frag} {tg : Expr} (it : Addr) (lo : Int) (n : Nat) : Turn P w K tg (Itd lo n) [it] it (fun i h => IsRangeIter h it (lo + (i : Nat) * (-1)) ((n : Int) - (i : Nat)) (-1)) where
 mem := by simp
 obj := fun i h st b hb => by
  have e : b = it := by simpa using hb
  subst e;exact ⟨_, st, fun v z => by
   have z' : Data.fields _ = Data.cell v := z;cases z'⟩
 keep := fun i h h' st k => k it (by simp) _ st
 item := by
  intro X hP hw hK hc i pins s σ H E I hf st hg;subst hP hw hK;obtain ⟨f0, f1, f2, f3, f4, f5⟩ := hf it (by simp)
  have W := PySem.Walks.range (prog := X.prog) (w := X.w) (I.ok.hd hc) it lo (-1) n;refine W.item i s _ _ hg st fun v h' tk hv st' kk => ?_
  obtain ⟨t, rfl⟩ := hv;have I1 : Inv X pins σ H { s with heap := h', toks := tk } := I.turned (fun b o hb e => kk b o (by simpa using hb) e) f0 f1 f3 f4 f5
  refine ⟨_, rfl, wj (s := { s with heap := h', toks := tk }) (n := "range_iterator") st' rfl rfl (by decide) ⟨.int (lo - i), H, I1, ⟨t, ?_⟩, ⟨rfl, rfl⟩, st', fun b hb => (hf b hb).1⟩⟩
  congr 1
  lia
 done := by
  intro X hP hw hK hc i pins s σ H E I hf st hg;subst hP hw hK;obtain ⟨f0, f1, f2, f3, f4, f5⟩ := hf it (by simp)
  exact wpAny_pyNext_range_end (I.ok.hd hc) st (by have : n ≤ i := hg; lia) fun h' eb => ⟨rfl, I.turned (t' := s.toks) (fun b o hb e => eb b o hb e) f0 f1 f3 f4 f5⟩
 self := fun _ _ _ _ _ st h => wpAny_pyIter_rangeiter st h
theorem rangeSize_down (a b : Int) : Builtin.Range.rangeSize a b (-1) = if a > b then a - b else 0 := by
 unfold Builtin.Range.rangeSize;simp only [show ¬ ((-1 : Int) > 0) by decide, if_false]
 have : (-(-1 : Int)) = 1 := by decide
 rw [this, Int.ediv_one];split <;> lia
theorem small_down {a b : Int} (ha : -(2 ^ 62) ≤ a) (ha' : a < 2 ^ 62) (hb : -(2 ^ 62) ≤ b) (hb' : b < 2 ^ 62) : Builtin.Range.small a b (-1) = true := by
 unfold Builtin.Range.small;rw [rangeSize_down];simp only [Builtin.Range.rangeFitsLong, Bool.and_eq_true, Bool.or_eq_true, decide_eq_true_eq, beq_iff_eq, show ¬ ((-1 : Int) > 0) by decide, if_false]
 split <;> lia
section
variable {X : Cx} {tg : Expr}
theorem xY {pins : List (Addr × Obj)} {σ : St} {H : Hp} {s : Shared} {R : It → Hp → Prop} {E : Value → Shared → Prop} {lo hi : Int} {t u v : Tok} {tk : Nat} (I : Inv X pins σ H s) (h1 : -(2 ^ 62) ≤ lo) (h2 : lo < 2 ^ 62) (h3 : -(2 ^ 62) ≤ hi) (h4 : hi < 2 ^ 62)
  (q : R (Itd lo (lo - hi).toNat) H) : wpAny (model X.prog X.w) X.A (pyIter (.ref s.heap.objs.size)) (PIE X pins σ tg R) E { s with heap := s.heap.push { cls := .type "range", data := .fields #[.int lo t, .int hi u, .int (-1) v] }, toks := tk } := by
 refine wpAny_pyIter_range (IsRange.new ..) (small_down h1 h2 h3 h4) ?_;have I1 : Inv X pins σ H { s with heap := s.heap.push { cls := .type "range", data := .fields #[.int lo t, .int hi u, .int (-1) v] }, toks := tk } := I.kept fun b o e => Heap.get?_push_of_some _ e
 refine ⟨(s.heap.push { cls := .type "range", data := .fields #[.int lo t, .int hi u, .int (-1) v] }).objs.size, [(s.heap.push { cls := .type "range", data := .fields #[.int lo t, .int hi u, .int (-1) v] }).objs.size], _, _, H, rfl,
  I1.kept (t' := tk) fun b o e => Heap.get?_push_of_some _ e, sC _ lo (lo - hi).toNat, ?_, fun b hb => ?_, q⟩
 ·have e1 : lo + ((0 : Nat) : Int) * (-1) = lo := by simp
  have e2 : (((lo - hi).toNat : Nat) : Int) - ((0 : Nat) : Int) = Builtin.Range.rangeSize lo hi (-1) := by rw [rangeSize_down]; split <;> lia
  show IsRangeIter _ _ (lo + ((0 : Nat) : Int) * (-1)) ((((lo - hi).toNat : Nat) : Int) - ((0 : Nat) : Int)) (-1)
  rw [e1, e2];exact Heap.get?_push_size _ rfl
 ·have e : b = (s.heap.push { cls := .type "range", data := .fields #[.int lo t, .int hi u, .int (-1) v] }).objs.size := by simpa using hb
  subst e;exact I1.fpOk (Nat.le_refl _) (I1.hok.fresh (Nat.le_refl _))
noncomputable def yB (ta : TA) : TI := fun σ H R => ta σ H fun vs H1 => ∃ i j : Int, vs = [.int i, .int j, .int (-1)] ∧ (-(2 ^ 62) ≤ i ∧ i < 2 ^ 62 ∧ -(2 ^ 62) ≤ j ∧ j < 2 ^ 62) ∧ R (Itd i (i - j).toNat) H1
theorem sQ {a b c : Expr} {ta : TA} {p pos : Pos} (hg : Gl X "range") (hm : X.mg "range" = none) (ha : PA X [a, b, c] ta) (hs : starEach [a, b, c] X.env = (false, eval a X.env) :: starEach [b, c] X.env) (hs2 : (backTo pos (starEach [b, c] X.env)).any (·.1) = false) :
  PI X tg (.Call (.Name "range" p) [a, b, c] [] pos) (yB ta) := by
 intro pins s σ H R I h;refine Call_ (iH I hg hm boot_range (PyProof.Rows.callWith_type1 (thn (ha pos pins s σ H _ I h) fun us s1 ⟨vs, H1, I1, r1, q1⟩ => ?_) hs hs2))
 obtain ⟨i, j, e, ⟨q1, q2, q3, q4⟩, q⟩ := q1;subst e;cases r1 with
 | cons r rr =>
  cases rr with
  | cons r' rr =>
   cases rr with
   | cons r'' rr =>
    cases rr;obtain ⟨t, rfl⟩ := r;obtain ⟨t', rfl⟩ := r';obtain ⟨t'', rfl⟩ := r'';exact call_range_3 (by decide) (xY I1 q1 q2 q3 q4 q) (.inl (PyProof.noPylong_small (by decide)))
end
noncomputable def mm (lo : Int) (n : Nat) : List PyData := (List.range n).map fun k : Nat => PyData.int (lo - k)
noncomputable def iR3 (a b c : Fe) : Fi := fun ρ => (a ρ).bind fun x => (b ρ).bind fun y => (c ρ).bind fun z => match x.er, y.er, z.er with
 | .int i, .int j, .int k => if (aB i && aB j && decide (k = -1)) = true then .ok (mm i (i - j).toNat) else .bad
 | _, _, _ => .bad
theorem qq {K : PySem.W.Frag} {F : Hp} (lo : Int) (k : Nat) : Walks K F (Itd lo k) (mm lo k) := by
 intro i G H s1 s2;unfold mm;refine ⟨fun d hd => ?_, fun hl => (show k ≤ i by simpa using hl)⟩
 rw [List.getElem?_map] at hd;obtain ⟨j, hj, rfl⟩ := Option.map_eq_some_iff.mp hd;obtain ⟨h1, h2⟩ := List.getElem?_eq_some_iff.mp hj;have h3 : i = j := by simpa using h2
 subst h3;refine ⟨(show i < k by simpa using h1), fun x H' y => ?_⟩
 obtain ⟨rfl, rfl⟩ := y;exact ⟨G, Ext.refl s2, .int _⟩
section
variable {M : Mx} {n : Nat} {H : Hp} {σ : St} {R' : It → Hp → Prop} {X : Cx} {a b c e : Expr} {fa fb fc : Fe} {pos : Pos} {D : Ends}
theorem E2 (h : tI M n (iR3 fa fb fc) σ H R') : yB (tA M n (ah fa (ah fb (ah fc az)))) σ H R' := by
 obtain ⟨F, ρ, fp, S, p⟩ := h;refine ⟨F, ρ, fp, S, ?_⟩;unfold iR3 at p;have p1 := aA.bind p;show aA M H fp _ (ah fa (ah fb (ah fc az)) ρ)
 rw [k_, k_, k_, vv];cases ha : fa ρ with
 | bad => rw [ha] at p1; exact p1
 | ex c => rw [ha] at p1; exact p1
 | ok x =>
  rw [ha] at p1;have p2 : aA M H fp _ (fb ρ) := aA.bind p1;cases hb : fb ρ with
  | bad => rw [hb] at p2; exact p2
  | ex c => rw [hb] at p2; exact p2
  | ok y =>
   rw [hb] at p2;have p3 : aA M H fp _ (fc ρ) := aA.bind p2;cases hc : fc ρ with
   | bad => rw [hc] at p3; exact p3
   | ex c => rw [hc] at p3; exact p3
   | ok z =>
    rw [hc] at p3;intro vs F1 H1 fx e1 r1 w1;obtain ⟨G1, d1, k1⟩ := r1.frz e1 w1;cases k1 with
    | @cons v _ _ _ k1 k2 =>
     cases k2 with
     | @cons w _ _ _ k2 k3 =>
      cases k3 with
      | @cons u _ _ _ k3 k4 =>
       cases k4;have p4 : aA M H fp (OkI M.K F H R') (match x.er, y.er, z.er with
        | .int i, .int j, .int k => if (aB i && aB j && decide (k = -1)) = true then .ok (mm i (i - j).toNat) else .bad
        | _, _, _ => .bad) := p3
       generalize x.er = dx at p4 k1
       generalize y.er = dy at p4 k2
       generalize z.er = dz at p4 k3
       split at p4
       ·rename_i i j k
        cases k1;cases k2;cases k3;by_cases hs : (aB i && aB j && decide (k = -1)) = true
        ·rw [if_pos hs] at p4
         rw [Bool.and_eq_true, Bool.and_eq_true, decide_eq_true_eq] at hs;obtain ⟨⟨h1, h2⟩, rfl⟩ := hs;have h1 := eL.mp h1;have h2 := eL.mp h2;exact ⟨i, j, rfl, ⟨h1.1, h1.2, h2.1, h2.2⟩, p4 _ G1 H1 d1 (qq _ _)⟩
        ·rw [if_neg hs] at p4
         exact p4.elim
       ·exact p4.elim
theorem y8 {tg : Expr} {p : Pos} (hg : Gl X "range") (hm : X.mg "range" = none) (h : DE M X a fa) (k : DE M X b fb) (l : DE M X c fc) (hs1 : starEach [a, b, c] X.env = (false, eval a X.env) :: starEach [b, c] X.env := by rfl) (hs0 : starEach [b, c] X.env = (false, eval b X.env) :: starEach [c] X.env := by rfl)
  (hs3 : starEach [c] X.env = (false, eval c X.env) :: starEach [] X.env := by rfl) (hs2 : (backTo pos (starEach [b, c] X.env)).any (·.1) = false := by rfl) : DI M X tg (.Call (.Name "range" p) [a, b, c] [] pos) (iR3 fa fb fc) := fun hK hM =>
 fun pins s σ H R' I z => sQ hg hm ((ab h (ab k (ab l aj hs3) hs0) hs1) hK hM) hs1 hs2 pins s σ H R' I (E2 z)
noncomputable def yC (K : PySem.W.Frag) : V → Hp → VK → Prop := fun x H Q => ∃ a xs, x = .ref a ∧ SqL K H a xs ∧ ∀ p, H p = none → Q (.ref p) (upd H p (.lst xs.reverse))
noncomputable def tRv (r : V → Hp → VK → Prop) (te ts : TE) : TE := fun σ H Q => te σ H fun x H1 => ts σ H1 fun z H2 => z = .int (-1) ∧ r x H2 Q
theorem zo {te ts : TE} {st : Expr} {p2 : Pos} {ops : Value → Value → List Value} (he : PE X e te) (hs : PE X st ts) (hsub : ∀ v u, subscripted (.Slice none none (some st) p2) false v u = operate (ops v u) (getItem v u)) : PE X (.Subscript e (.Slice none none (some st) p2) pos) (tRv (yC X.K) te ts) := by
 intro pins s σ H Q I h;refine Subscript_ (thn (he pins s σ H _ I h) fun v s1 ⟨x, H1, I1, r1, q1⟩ => ?_)
 refine wpAny_Slice ?_;rw [evalPart_none];refine wpAny_pure ?_;refine wpAny_pure ?_;rw [evalPart_some];refine thn (hs pins s1 σ H1 _ I1 q1) fun vs s3 ⟨z, H3, I3, r3, q3⟩ => ?_
 obtain ⟨rfl, q3⟩ := q3;obtain ⟨t3, rfl⟩ := r3;obtain ⟨a, xs, rfl, hx, q⟩ := q3;cases r1;have I4 : Inv X pins σ H3 { s3 with heap := s3.heap.push { cls := .type "slice", data := .fields #[.none, .none, .int (-1) t3] } } := I3.kept (t' := s3.toks) fun b ob q => Heap.get?_push_of_some _ q
 show wpAny (model X.prog X.w) X.A (subscriptTail e (.Slice none none (some st) p2) (.ref a) (.ref s3.heap.objs.size)) (EP X pins σ Q) X.xe { s3 with heap := s3.heap.push { cls := .type "slice", data := .fields #[.none, .none, .int (-1) t3] } }
 obtain ⟨its, r, ht, hz⟩ := I4.list hx;refine tail_any (ops := ops (.ref a) (.ref s3.heap.objs.size)) ht.isList.typeIs slot_list_getitem.lookup ?_ (hsub _ _);refine wpAny_getItem_list_slice ht.isList (Heap.IsSliceOf.new ..) .none .none (.int (-1) t3) (by simp) ?_ (by rw [List.size_toArray, ← r.length]; exact hz)
 rw [PySem.W.krv_pick];refine ⟨.ref _, _, I4.laid (t' := s3.toks) (o := .lst xs.reverse) (fun b ob q => Heap.get?_push_of_some _ q) (Nat.le_refl _) ?_, rfl, q _ (I4.hok.fresh (Nat.le_refl _))⟩
 refine ⟨by rw [List.length_reverse]; exact hz, its.reverse, 0, r.reverse, ?_⟩
 have e : its.toArray.toList.reverse.toArray = its.reverse.toArray := by simp
 rw [e];exact Heap.get?_push_size _ rfl
noncomputable def pR (a s : Fe) : Fe := fun ρ => (a ρ).bind fun x => (s ρ).bind fun z => match x.er, z.er with
 | .list ds, .int k => if k = -1 then .ok (.ol (ds.reverse.map OD.sh)) else .bad
 | _, _ => .bad
theorem RepAll.rev {K : PySem.W.Frag} {F : Hp} : ∀ {vs : List V} {ds : List PyData}, RepAll K F vs ds → RepAll K F vs.reverse ds.reverse
 | _, _, .nil => .nil
 | _, _, .cons h r => by
  rw [List.reverse_cons, List.reverse_cons];exact RepAll.app (RepAll.rev r) (.cons h .nil)
theorem CC {Q : VK} (h : tD M n (pR fa fb) σ H Q) : tRv (yC M.K) (tD M n fa) (tD M n fb) σ H Q := by
 obtain ⟨F, ρ, fp, S, p⟩ := h;refine ⟨F, ρ, fp, S, (aA.bind p).mono fun x px v F1 H1 fx e1 r1 w1 => ?_⟩
 obtain ⟨G1, d1, k1⟩ := r1.frz e1 w1;refine ⟨G1, ρ, fp, S.ext d1, ((aA.bind px).ext d1).mono fun y py v2 F2 H2 fy e2 r2 w2 => ?_⟩
 obtain ⟨G2, d2, k2⟩ := r2.frz e2 w2;have e12 := d1.trans d2;generalize x.er = dx at py k1
 generalize y.er = dy at py k2
 split at py
 ·rename_i ds k
  cases k2;by_cases hk : k = -1
  ·rw [if_pos hk] at py
   cases k1 with
   | @lst a vs _ h1 h2 => exact ⟨by rw [hk], a, vs, rfl, ((h1.same d2.ff).same d2.fh).sq, fun p hp => OkE.lstD d2.fh (OkE.pre e12 py) (RepAll.rev (h2.same d2.ff)) hp⟩
  ·rw [if_neg hk] at py
   exact py.elim
 ·exact py.elim
theorem vY {st : Expr} {p2 : Pos} (ops : Value → Value → List Value) (he : DE M X e fa) (hs : DE M X st fb) (hsub : ∀ v u, subscripted (.Slice none none (some st) p2) false v u = operate (ops v u) (getItem v u) := by intro _ _; with_unfolding_all rfl) : DE M X (.Subscript e (.Slice none none (some st) p2) pos) (pR fa fb) := fun hK hM => by
 have q := zo (pos := pos) (p2 := p2) (he hK hM) (hs hK hM) hsub;rw [hK] at q;exact peI q fun _ _ _ z => CC z
theorem zD {ρ : Env} : pR fa fb ρ = opK (fun x z => match x, z with
 | .list ds, .int k => if k = -1 then .ok (.ol (ds.reverse.map OD.sh)) else .bad
 | _, _ => .bad) (fa ρ) (fb ρ) := by
 unfold pR;cases fa ρ <;> cases fb ρ <;> rfl
theorem Cz {ρ : Env} {x y z : Int} (h1 : fa ρ = .ok (.sh (.int x))) (h2 : fb ρ = .ok (.sh (.int y))) (h3 : fc ρ = .ok (.sh (.int z))) (hz : z = -1) (s1 : aB x = true) (s2 : aB y = true) : iR3 fa fb fc ρ = .ok (mm x (x - y).toNat) := by
 unfold iR3;rw [h1, h2, h3];subst hz;simp only [cz, cZ, s1, s2, Bool.and_self, decide_true, if_true]
theorem pQ {lo : Int} {n i : Nat} {d : PyData} (h : (mm lo n)[i]? = some d) : i < n ∧ d = .int (lo - i) := by
 unfold mm at h;rw [List.getElem?_map] at h;obtain ⟨j, hj, rfl⟩ := Option.map_eq_some_iff.mp h;obtain ⟨h1, h2⟩ := List.getElem?_eq_some_iff.mp hj;have h3 : i = j := by simpa using h2
 subst h3;exact ⟨by simpa using h1, rfl⟩
theorem uG (lo : Int) (n : Nat) : (mm lo n).length = n := by unfold mm; simp
end
end L3
namespace L3
open PySem L2 PySem.Spec PyProof.Rows
noncomputable def wD (P : Program) (base : Heap) : Prop := base.NoSeer ∧ P.given.tree = none
noncomputable def uJ : PyData → PyData → R OD
 | .int i, .int j => if 0 < j then .ok (.sh (.int (i / j))) else .bad
 | _, _ => .bad
theorem vZ {M : Mx} : Ok2 M (rI (fun _ j => 0 < j) fun i j => .int (i / j)) uJ := by
 intro x y dx dy F H fp Q s rx ry p;unfold uJ at p;split at p
 ·cases rx; cases ry
  split at p
  ·rename_i hc
   exact ⟨_, _, rfl, rfl, hc, okI s p⟩
  ·exact p.elim
 ·exact p.elim
theorem uB {X : Cx} {env : PySem.Env} {l : List PySem.Env} (S : wD X.prog X.base) (hr : Room 33 X.A) (hst : X.stack = env :: l) (hgen : env.scope.isGenerator = false) (hco : env.scope.isCoroutine = false) (hb : env.builtins = builtinsNs) (hg : env.globals = mainGlobals) :
  OpR X (binaryOp .FloorDiv) (rI (fun _ j => 0 < j) fun i j => .int (i / j)) := by
 intro pins s σ H x y v u Q I rx ry h;obtain ⟨i, j, rfl, rfl, hc, q⟩ := h;obtain ⟨t, rfl⟩ := rx;obtain ⟨t', rfl⟩ := ry;have hpl : PylongRoom (model X.prog X.w) X.A s := PylongRoom.of I.nolimit (by have := hr.dp; show X.A.depth + 100 < _; lia) (SeerAt.of (S.1.keeps I.bk) S.2 (by rw [I.ok.frames, hst]) hgen hco hb hg)
 exact floordiv_int (by lia) (by rw [Int.fdiv_eq_ediv_of_nonneg i (by lia)]; exact ⟨.int (i / j), H, I.tok _, ⟨_, rfl⟩, q⟩) (.inr hpl)
theorem yM (i j : Int) : uJ (.int i) (.int j) = if 0 < j then .ok (.sh (.int (i / j))) else .bad := rfl
theorem sT {P : Program} {w : World} {K : PySem.W.Frag} {mg mb : Str → Option Value} {CX : CXT} {k : Nat} {fa a : Addr} {fd : FuncData} {x : Str} {sp : Sp} {s₁ : Shared} {vs : List Value} {ns : List Int}
  (KX : K.In s₁.heap) (hns : s₁.heap.Ns mainGlobals mg) (hb : s₁.heap.Ns builtinsNs mb) (hbb : ∀ x : Str, x ≠ "__name__" → mb x = bootBuiltins x) (hlim : s₁.heap.NoLimit) (hseer : s₁.heap.NoSeer) (hg : s₁.gens = #[])
  (ha : s₁.heap.get? a = some { cls := .type "list", data := .seq vs.toArray }) (hi : IntsAre vs ns) (hl : ns.length ≤ sizeLine) (hr : Room k callerA)
  (F : ∀ base : Heap, K.In base → base.Ns mainGlobals mg → base.NoSeer → FnOk P w K mg base CX k fa fd [x] sp) (hbind : ∀ (s : Shared) (u : Value), BindsTo s fd ⟨[u], []⟩ [(x, u)])
  (hsp : ∀ H : Hp, sA H → RdK K H a (ns.map V.int) → sp [.ref a] H (fun v _ => v = .bl true) fun _ _ _ => False)
  (hCX : ∀ H e s', CX [] H s₁ (fun _ _ _ => False) e s' → False) :
  codeAny (model P w) callerA (.call (.ref fa) ⟨[.ref a], []⟩) (fun r s' => r = .ok (.ret (.bool true)) ∧ OldK s₁.heap s'.heap ∧ s'.os = s₁.os ∧ AllBare s'.gens) s₁ := by
 have rv := g7 hi;have lenV := hi.length;have core : ∀ H : Hp, sA H → RdK K H a (ns.map V.int) → HOk P w H s₁.heap → (∀ b, H b ≠ none → b = a) → (H a ≠ none → K.lookup a = none) →
   codeAny (model P w) callerA (.call (.ref fa) ⟨[.ref a], []⟩) (fun r s' => r = .ok (.ret (.bool true)) ∧ OldK s₁.heap s'.heap ∧ s'.os = s₁.os ∧ AllBare s'.gens) s₁ := by
  intro H hO hS hok hA hK;have base_of : ∀ {b : Addr} {o : Obj}, s₁.heap.get? b = some o → H b = none → (jC s₁.heap H).get? b = some o := fun e n => p6 e n
  have noA : ∀ {b : Addr} {o : Obj} {es : Array DictEntry} {ep : Nat}, s₁.heap.get? b = some o → o.data = .dict es ep → H b = none := fun {b o es ep} e d => by
   cases q : H b with
   | none => rfl
   | some u =>
    have e' : b = a := hA b (by rw [q]; simp)
    subst e';rw [ha] at e; cases e;have d' : Data.seq vs.toArray _ = Data.dict es ep := d;cases d'
  have nsK : ∀ {b : Addr} {m : Str → Option Value}, s₁.heap.Ns b m → (jC s₁.heap H).Ns b m := fun {b m} ⟨o, es, ep, e, d, r⟩ => ⟨o, es, ep, base_of e (noA e d), d, r⟩
  have noC : ∀ {b : Addr} {o : Obj}, s₁.heap.get? b = some o → o.cls = .type "module" → H b = none := fun {b o} e d => by
   cases q : H b with
   | none => rfl
   | some u =>
    have e' : b = a := hA b (by rw [q]; simp)
    subst e';rw [ha] at e; cases e;have d' : Value.type "list" = Value.type "module" := d;exact absurd d' (by decide)
  have hKb : K.In (jC s₁.heap H) := fun b o e => base_of (KX b o e) (by
   cases q : H b with
   | none => rfl
   | some u =>
    have e' : b = a := hA b (by rw [q]; simp)
    subst e';rw [hK (by rw [q]; simp)] at e; cases e)
  have hSb : (jC s₁.heap H).NoSeer :=
   ⟨let ⟨mc, h1, h2⟩ := hseer.statics; ⟨mc, nsK h1, h2⟩, let ⟨mc, h1, h2⟩ := hseer.mods; ⟨mc, nsK h1, h2⟩, let ⟨mc, h1, h2⟩ := hseer.imp; ⟨mc, nsK h1, h2⟩, let ⟨m1, bm, ob, h1, h2, h3, h4, h5⟩ := hseer.main; ⟨m1, bm, ob, nsK h1, h2, base_of h3 (noC h3 h4), h4, h5⟩⟩
  have hM : Mod K mg (jC s₁.heap H) := ⟨hKb, nsK hns, ⟨mb, nsK hb, hbb⟩, let ⟨mc, h1, h2⟩ := hlim; ⟨mc, nsK h1, h2⟩⟩;have e0 : Env0 P w K mg (jC s₁.heap H) callerA [] s₁ H := ⟨rfl, hM, fun b o e => rM e, Nat.le_of_eq (m9 _ _), trivial, fun b hb => absurd (show b ∈ ([] : List Addr) from hb) (by simp), hok, .of_eq hg⟩
  refine codeAny_mono ((F _ hKb (nsK hns) hSb).run callerA [] s₁ H ⟨[.ref a], []⟩ [.ref a] [.ref a] _ _ hr e0 (hbind s₁ (.ref a)) (.cons rfl .nil) (hsp H hO hS)) fun r s' h => ?_
  cases r with
  | error e => exact (hCX H e s' h).elim
  | ok fl =>
   cases fl with
   | next => exact False.elim h
   | brk => exact False.elim h
   | cont => exact False.elim h
   | ret u =>
    obtain ⟨v, H', os, bare, un, hok', r', q⟩ := h;have q' : v = .bl true := q;subst q';obtain rfl : u = Value.bool true := r';refine ⟨rfl, OldK.of_keep fun b o e => ?_, os, bare⟩
    cases q : H b with
    | none => exact un.keep b o e q (by intro z; exact absurd (show b ∈ ([] : List Addr) from z) (by simp)) (by simp)
    | some u =>
     rcases hO b with z | ⟨ob, xs, z⟩
     ·rw [q] at z; cases z
     ·have z2 := un.frzs b ob _ z
      obtain ⟨e1, _⟩ := hok b _ z;obtain ⟨e2, _⟩ := hok' b _ z2;rw [e] at e1; cases e1;exact e2
 cases hk : K.lookup a with
 | some o =>
  have e := KX a o hk;rw [ha] at e;cases e;refine core (fun _ => none) (fun _ => .inl rfl) (.inr ⟨vs.toArray, _, hk, by rw [List.size_toArray, lenV]; exact hl, by simpa using rv⟩) (fun b u z => by have z' : (none : Option HO) = some u := z; cases z') (fun b z => absurd rfl z) fun z => absurd rfl z
 | none =>
  refine core (fun b => if b = a then some (.frz { cls := .type "list", data := .seq vs.toArray } (.lst (ns.map V.int))) else none) (fun b => ?_) (.inl (.inr ⟨{ cls := .type "list", data := .seq vs.toArray }, if_pos rfl⟩)) (fun b u z => ?_) (fun b z => ?_) fun _ => hk
  ·by_cases hb : b = a
   ·exact .inr ⟨_, _, if_pos hb⟩
   ·exact .inl (if_neg hb)
  ·by_cases hb : b = a
   ·have z' := (if_pos hb).symm.trans z
    cases z';subst hb;exact ⟨ha, by rw [List.length_map]; exact hl, vs, _, rv, ha⟩
   ·have z' := (if_neg hb).symm.trans z
    cases z'
  ·by_cases hb : b = a
   ·exact hb
   ·exact absurd (if_neg hb) z
theorem vH {l : PySem.W.OpenLaw} {n k : Nat} {q : Program} {loose : List Str} {XP : (Str → Option Value) → Heap → Prop} {YP : World → Heap → Prop} {d : DefRec} {K : Params → PySem.W.Frag} {CX : World → CXT} {sp : World → Sp} {x : Str}
  (hq : importsNone q = true) (hn : l.most = some n) (hn2 : n ≤ sizeLine) (hdf : d.params.defaults = []) (hr : Room k callerA)
  (hY : ∀ (w : World) (h : Heap), YP w h → (K w.params).In h)
  (F : ∀ (w : World) (mg : Str → Option Value) (fa : Addr) (h : Heap), (K w.params).In h → h.Ns mainGlobals mg → mg d.name = some (.ref fa) →
   ∃ fd : FuncData, (∀ (s : Shared) (u : Value), BindsTo s fd ⟨[u], []⟩ [(x, u)]) ∧
    ∀ base : Heap, (K w.params).In base → base.Ns mainGlobals mg → base.NoSeer → FnOk l.prog w (K w.params) mg base (CX w) k fa fd [x] (sp w))
  (hsp : ∀ (w : World) (H : Hp) (a : Addr) (ns : List Int), ns.length ≤ n → sA H → RdK (K w.params) H a (ns.map V.int) → sp w [.ref a] H (fun v _ => v = .bl true) fun _ _ _ => False)
  (hCX : ∀ (w : World) (H : Hp) (s : Shared) (e : Value) (s' : Shared), CX w [] H s (fun _ _ _ => False) e s' → False) :
  PySem.W.WalkO q loose XP YP l.row.toRowW d [] (fun f vs => PySem.call f vs) := by
 refine Att.kK hn hdf fun w s₀ s₁ mg mb fa o pm cd doc a vs ns G Y ho hd hcd hmg hobj hints hlen hg => ?_
 have KX := hY w _ Y;obtain ⟨fd, hb, hF⟩ := F w mg fa _ KX G.T.g hmg;exact sT KX G.T.g G.T.b G.T.builtins G.T.nolimit (G.T.seer hq) hg hobj hints (Nat.le_trans hlen hn2) hr hF hb (fun H hO hS => hsp w H a ns hlen hO hS) fun H e s' => hCX w H s₁ e s'
theorem DR {l : PySem.W.OpenLaw} {q : Program} {loose : List Str} {XP : (Str → Option Value) → Heap → Prop} {YP : World → Heap → Prop} {d : DefRec} {K : Params → PySem.W.Frag} {x : Str} {k : Nat} {fn : Fn} (hq : importsNone q = true) (hn : l.most = some 63) (hdf : d.params.defaults = []) (hr : Room k callerA)
  (hY : ∀ (w : World) (h : Heap), YP w h → (K w.params).In h) (hl : ∀ ns : List Int, ns.length ≤ 63 → fn [.list (ns.map PyData.int)] = .ok (.sh (.bool true))) (ht : l.prog.given.tree = none)
  (F : ∀ (w : World) (mg : Str → Option Value) (fa : Addr) (h : Heap), (K w.params).In h → h.Ns mainGlobals mg → mg d.name = some (.ref fa) →
   ∃ fd : FuncData, (∀ (s : Shared) (u : Value), BindsTo s fd ⟨[u], []⟩ [(x, u)]) ∧ ∀ base : Heap, (K w.params).In base → base.Ns mainGlobals mg → wD l.prog base → FnOk l.prog w (K w.params) mg base CX0 k fa fd [x] (sp3 (K w.params) mg fn)) :
  PySem.W.WalkO q loose XP YP l.row.toRowW d [] (fun f vs => PySem.call f vs) := by
 refine vH (n := 63) (k := k) (x := x) (CX := fun _ => CX0) (sp := fun w vs H Q E => ∃ F ds x, aN F H ∧ RepAll (K w.params) F vs ds ∧ fn ds = .ok x ∧ OkE ⟨K w.params, fun _ => none, E⟩ F H Q x) hq hn (by decide) hdf hr hY (fun w mg fa h a b c => ?_) (fun w H a ns hlen _ hS => ?_) fun _ _ _ _ _ z => z
 ·obtain ⟨fd, h1, h2⟩ := F w mg fa h a b c
  refine ⟨fd, h1, fun base kb nb sb => (h2 base kb nb ⟨sb, ht⟩).imp ?_⟩
  rintro vs H Q E ⟨F0, ds, y, sm, ra, e, p⟩;refine ⟨F0, ds, sm, ra, ?_⟩;rw [e];exact fun v F' H' fx => p v F' H' fx
 ·refine ⟨H, [.list (ns.map PyData.int)], _, aN.refl _, .cons (.lst hS (RepAll.ofInts ns)) .nil, hl ns hlen, ?_⟩
  intro v F' H' fx e r w;cases r.own with
  | sh q =>
   cases q;rfl
end L3
namespace L3
open PySem L2 PySem.Spec PyProof.Rows
section
variable {M : Mx} {n : Nat} {σ : L3.St} {H : Hp} {D : Ends}
end
section
variable {M : Mx} {X : Cx} {e b : Expr} {fa : Fe} {x y : Str} {p p1 p2 p3 pos pos' : Pos}
end
end L3
namespace L3
open PySem L2 PySem.Spec PyProof.Rows
noncomputable def keyOf : PyData → Option Key
 | .int i => some (.inl i)
 | .str x => some (.inr x)
 | _ => none
noncomputable def putD (kvs : List (Key × PyData)) (k : Key) (d : PyData) : List (Key × PyData) :=
 if (kvs.any fun kv => decide (kv.1 = k)) = true then kvs.map (fun kv => if kv.1 = k then (kv.1, d) else kv) else kvs ++ [(k, d)]
noncomputable def sDP (i : Nat) (k a : Fe) : Fs := fun ρ => match ρ[i]? with
 | some (some (.od kvs)) => (a ρ).bind fun y => (k ρ).bind fun z => match keyOf z.er with
  | some q => if kvs.length < BIG then .ok (.nx (ρ.set i (some (.od (putD kvs q y.er))))) else .bad
  | none => .bad
 | _ => .bad
section
variable {K : PySem.W.Frag} {F H : Hp}
end
section
variable {M : Mx} {n : Nat} {σ : L3.St} {H : Hp} {D : Ends} {Q : VK} {fa fb : Fe}
end
section
variable {M : Mx} {X : Cx} {a b e : Expr} {fa fb : Fe} {x : Str} {p pos pos' : Pos}
end
section
variable {ρ : Env} {a b k : Fe}
end
end L3
namespace L3
open PySem L2 PySem.Spec PyProof.Rows
section
variable {X : Cx} {M : Mx}
end
end L3
namespace L3
open PySem L2 PySem.Spec PyProof.Rows
section
variable {X : Cx} {M : Mx}
end
end L3
namespace L3
open PySem L2 PySem.Spec PyProof.Rows
noncomputable def signs (x : Str) : List PyData := x.cps.toList.map fun c => PyData.str ⟨#[c]⟩
end L3
namespace L3
open PySem L2 PySem.Spec PyProof.Rows
section
variable {M : Mx} {n : Nat} {σ : L2.St} {H : Hp} {Q : VK} {al ak : Fa}
noncomputable def gK {α : Type} (m j : Nat) (us ws : List α) : List α := if us.length = m ∧ ws.length = j then us ++ ws else []
end
section
variable {M : Mx} {X : Cx} {e : Expr} {es : List Expr} {pos kpos : Pos} {fa : Fe} {al ak : Fa} {kws : List Keyword} {nm : Option Str}
end
structure FunD (K : PySem.W.Frag) (x qual : Str) (st : Stmt) (f : Addr) (fd : FuncData) : Prop where
 ex : ∃ (oc : Value) (od : Option Addr) (dV kV doc pm : Value) (an : Option Addr) (cdv ct : Value) (osl : Array (Option Value)),
  fd = PySem.W.fnOf x qual (aM st) (aH st) (ai st) dV kV doc pm an cdv ct ∧ K.lookup f = some ⟨oc, od, .func fd, osl⟩ ∧ PySem.W.codeIn K cdv qual = true
 kp : PySem.W.keepIn K (.ref f) = true
structure DefD (K : PySem.W.Frag) (mg : Str → Option Value) (x : Str) (st : Stmt) (ps ks : List Str) (m : Nat) (dvs : List V) (f : Addr) (fd : FuncData) : Prop where
 F : FunD K x x st f fd
 g : mg x = some (.ref f)
 b : Binds K fd ps []
 d : ∃ ds, Binds K fd ps ds ∧ Vals dvs ds
 k : KBinds K fd ps ks (gK m dvs.length) (gK m dvs.length)
end L3
namespace L3
open PySem L2 PySem.Spec PyProof.Rows
noncomputable def kG (i : Nat) (k : Fe) (a : Fe) : Fs := fun ρ => match ρ[i]? with
 | some (some (.ol xs)) => (k ρ).bind fun z => match z.er with
  | .int q => match ixN xs.length q with
   | some j => match xs[j]? with
    | some (.ol ys) => (a ρ).bind fun y => match y with
     | .ol zs => if ys.length + zs.length ≤ BIG then .ok (.nx (ρ.set i (some (.ol (xs.set j (.ol (ys ++ zs))))))) else .bad
     | _ => .bad
    | _ => .bad
   | none => .bad
  | _ => .bad
 | _ => .bad
section
variable {M : Mx} {n : Nat} {σ : L2.St} {H : Hp} {D : Ends}
theorem wF {i : Nat} {k a : Fe} (h : tS M n (kG i k a) D σ H) : nt (tBM M.K "list" rJ (tOp (oM M.K) (iE i) (tD M n k)) (kL (tD M n a) qt)) D σ H := by
 obtain ⟨F, ρ, fp, S, p⟩ := h;unfold kG at p;split at p
 ·rename_i xs e
  have hc : comps (.ol xs) = some (true, xs) := rfl;obtain ⟨v0, _, _, _, h0, own0, _, _⟩ := S.own.at e;refine ⟨v0, h0, F, ρ, fp, S, (aA.bind p).mono fun z pz u F1 H1 fz e1 r1 w1 => ?_⟩
  obtain ⟨G1, d1, k1⟩ := r1.frz e1 w1;generalize z.er = dz at pz k1
  cases dz with
  | int q =>
   cases k1;have pz' : aA M H fp (fU M n F H fp D) (match ixN xs.length q with
    | some j => match xs[j]? with
     | some (.ol ys) => (a ρ).bind fun y => match y with
      | .ol zs => if ys.length + zs.length ≤ BIG then .ok (.nx (ρ.set i (some (.ol (xs.set j (.ol (ys ++ zs))))))) else .bad
      | _ => .bad
     | _ => .bad
    | none => .bad) := pz
   cases hj : ixN xs.length q with
   | none =>
    rw [hj] at pz';exact pz'.elim
   | some j =>
    rw [hj] at pz';have pz2 : aA M H fp (fU M n F H fp D) (match xs[j]? with
     | some (.ol ys) => (a ρ).bind fun y => match y with
      | .ol zs => if ys.length + zs.length ≤ BIG then .ok (.nx (ρ.set i (some (.ol (xs.set j (.ol (ys ++ zs))))))) else .bad
      | _ => .bad
     | _ => .bad) := pz'
    split at pz2
    ·rename_i ys hy
     obtain ⟨b0, vs, b, ws, f, h1, ha, hl, hb1, hb, hw, nf, ff, wr⟩ := (S.ext d1).write2 e hc hy;rw [h0] at h1;cases h1;have at1 : atI vs q = some (.ref b) := by
      unfold atI;rw [hl, hj];exact hb1
     refine ⟨b0, vs, q, .ref b, rfl, rfl, SqL.of ha, at1, .inl ⟨rfl, ws, SqL.of hb⟩, G1, ρ, fp, S.ext d1, ((aA.bind pz2).ext d1).mono fun y py v F2 H2 fy e2 r2 w2 => ?_⟩
     cases y with
     | sh d => exact py.elim
     | ot ys => exact py.elim
     | od ys => exact py.elim
     | ol zs =>
      have py' : aA M H fp (fU M n F H fp D) (if ys.length + zs.length ≤ BIG then .ok (.nx (ρ.set i (some (.ol (xs.set j (.ol (ys ++ zs))))))) else .bad) := py
      by_cases hlt : ys.length + zs.length ≤ BIG
      ·rw [if_pos hlt] at py'
       obtain ⟨ro, rn, rf⟩ := r2;cases ro with
       | @ol c us _ g hcc hu =>
        refine ⟨b, c, ws, us, rfl, rfl, e2.hh _ _ hb, hcc, by rw [hw.len, hu.len]; exact iJ hlt, ?_⟩
        have o : OwnL M.K F2 H2 (ws ++ us) (ys ++ zs) (f ++ g) := (hw.mono e2.ff fun c _ o q => e2.hh _ _ q).app hu
        obtain ⟨fp', S', st⟩ := wr F2 H2 _ _ _ e2 o (List.nodup_append.mpr ⟨nf, (List.nodup_cons.mp rn).2, fun c m d m' z => by
         subst z;obtain ⟨o, q⟩ := hw.dom c m;rw [w2 c (List.mem_cons_of_mem _ m')] at q;cases q⟩) (fun c m => (List.mem_append.mp m).elim .inl fun m => .inr (w2 c (List.mem_cons_of_mem _ m))) (fun c m => (List.mem_append.mp m).elim (fun m => let ⟨_, q⟩ := hw.dom c m; e2.nw c (cy q) (ff c m)) fun m => rf c (List.mem_cons_of_mem _ m))
        exact py' σ F2 _ fp' S' (d1.stp.trans st)
      ·rw [if_neg hlt] at py'
       exact py'.elim
    ·exact pz2.elim
  | none => exact pz.elim
  | bool _ => exact pz.elim
  | str _ => exact pz.elim
  | list _ => exact pz.elim
  | tuple _ => exact pz.elim
  | dict _ => exact pz.elim
 ·exact p.elim
end
section
variable {M : Mx} {X : Cx} {e b : Expr} {x : Str} {p ap cp pos : Pos} {fa fb : Fe}
theorem ve {p2 : Pos} (i : Nat) (hb : DE M X b fb) (h : DE M X e fa) (hix : k7 b) (hN : X.N[i]? = some x := by rfl) (hv : Vis X.env.scope x := by first | exact Or.inl rfl | exact Or.inr (Or.inl rfl) | exact Or.inr (Or.inr rfl)) (hd : (x == ("__debug__" : Str)) = false := by decide) (hcd : (x == ("__classdict__" : Str)) = false := by decide)
  (hbase : attributeBase (.Subscript (.Name x p) b p2) "extend" X.env (eval (.Subscript (.Name x p) b p2) X.env) = eval (.Subscript (.Name x p) b p2) X.env := by rfl)
  (hfew : ((backTo cp (starEach [e] X.env)).all (fun x => !x.1) && (backToKw cp (keywordEach [] X.env)).all (fun x => x.1.isSome) && decide (([e] : List Expr).length + ([] : List Keyword).length + (if ([] : List Keyword).isEmpty then 0 else 1) < 30)) = true := by rfl)
  (hline : (ap.endLine == cp.line) = true := by rfl) (hs : starEach [e] X.env = (false, eval e X.env) :: starEach [] X.env := by rfl) (hplain : (backTo cp (starEach [] X.env)).any (·.1) = false := by rfl)
  (hsw : swapsWith (.Call (.Attribute (.Subscript (.Name x p) b p2) "extend" ap) [e] [] cp) none pos.line X.env = pure false := by rfl) : DS M X (.Expr (.Call (.Attribute (.Subscript (.Name x p) b p2) "extend" ap) [e] [] cp) pos) (kG i fb fa) := fun hK hM =>
 zw PySem.F.slot_list_extend PySem.F.type_list_extend t5 (r9 (lF M.K hK) (gx hN hv hd hcd) (hb hK hM) hix) (zO h hs hK hM) (fun _ _ _ q => wF q) hbase hfew hline hs hplain hsw hK
end
section
variable {ρ : Env} {k a : Fe}
theorem xE {i : Nat} {xs ys zs : List OD} {z : Int} {j : Nat} (h1 : ρ[i]? = some (some (.ol xs))) (h2 : k ρ = .ok (.sh (.int z))) (h3 : ixN xs.length z = some j) (h4 : xs[j]? = some (.ol ys)) (h5 : a ρ = .ok (.ol zs)) (h6 : ys.length + zs.length ≤ BIG) :
  kG i k a ρ = .ok (.nx (ρ.set i (some (.ol (xs.set j (.ol (ys ++ zs))))))) := by
 unfold kG;rw [h1, h2];simp only [cz, cZ, h3, h4, h5, h6, if_true]
end
noncomputable def pS (ks : List PyData) (j : Nat) : Bool := ks.any fun d => match d with
 | .int q => decide (q = (j : Int))
 | _ => false
noncomputable def fj (ks : List PyData) : Nat → List OD → List OD
 | _, [] => []
 | i, x :: xs => (if pS ks i = true then .sh x.er else x) :: fj ks (i + 1) xs
noncomputable def mX (i c : Nat) (f : Fs) : Fs := fun ρ => match ρ[i]?, ρ[c]? with
 | some (some (.ol xs)), some (some (.sh (.list ks))) => f (ρ.set i (some (.ol (fj ks 0 xs))))
 | _, _ => f ρ
theorem OwnL.frzS {K : PySem.W.Frag} {F H : Hp} (ks : List PyData) : ∀ (i : Nat) {vs : List V} {xs : List OD} {f : List Addr}, OwnL K F H vs xs f → f.Nodup →
  ∃ f0 f1 : List Addr, (∀ a, a ∈ f ↔ a ∈ f0 ∨ a ∈ f1) ∧ f1.Nodup ∧ (∀ a ∈ f0, a ∉ f1) ∧ ∀ G, aN F G → (∀ a ∈ f0, ∀ o, H a = some o → G a = some o) → OwnL K G H vs (fj ks i xs) f1
 | _, _, _, _, .nil, _ => ⟨[], [], (fun a => by simp), List.nodup_nil, (fun a m => by cases m), fun G e k => OwnL.nil⟩
 | i, _, _, _, .cons (f := fh) (g := fr) (x := x) h r, nd => by
  rw [List.nodup_append] at nd;obtain ⟨n1, n2, n3⟩ := nd;obtain ⟨f0, f1, a1, a2, a3, a4⟩ := OwnL.frzS ks (i + 1) r n2;by_cases hp : pS ks i = true
  ·refine ⟨fh ++ f0, f1, fun a => ?_, a2, fun a m m1 => ?_, fun G e k => ?_⟩
   ·rw [List.mem_append, List.mem_append, a1 a]
    constructor
    ·rintro (z | z | z)
     ·exact .inl (.inl z)
     ·exact .inl (.inr z)
     ·exact .inr z
    ·rintro ((z | z) | z)
     ·exact .inl z
     ·exact .inr (.inl z)
     ·exact .inr (.inr z)
   ·rcases List.mem_append.mp m with z | z
    ·exact n3 a z a ((a1 a).mpr (.inr m1)) rfl
    ·exact a3 a z m1
   ·unfold fj
    rw [if_pos hp];have := OwnL.cons (K := K) (F := G) (H := H) (f := []) (g := f1) (Own.sh (h.frz e fun a m o q => k a (List.mem_append_left _ m) o q)) (a4 G e fun a m => k a (List.mem_append_right _ m))
    exact this
  ·refine ⟨f0, fh ++ f1, fun a => ?_, ?_, fun a m m1 => ?_, fun G e k => ?_⟩
   ·rw [List.mem_append, List.mem_append, a1 a]
    constructor
    ·rintro (z | z | z)
     ·exact .inr (.inl z)
     ·exact .inl z
     ·exact .inr (.inr z)
    ·rintro (z | z | z)
     ·exact .inr (.inl z)
     ·exact .inl z
     ·exact .inr (.inr z)
   ·rw [List.nodup_append]
    exact ⟨n1, a2, fun a m b m2 => n3 a m b ((a1 b).mpr (.inr m2))⟩
   ·rcases List.mem_append.mp m1 with z | z
    ·exact n3 a z a ((a1 a).mpr (.inl m)) rfl
    ·exact a3 a m z
   ·unfold fj
    rw [if_neg hp];exact .cons (h.mono e fun a m o q => q) (a4 G e k)
section
variable {M : Mx} {n : Nat} {σ : L2.St} {H : Hp} {D : Ends}
theorem Ar {f : Fs} {i c : Nat} (h : tS M n (mX i c f) D σ H) : tS M n f D σ H := by
 obtain ⟨F, ρ, fp, S, p⟩ := h;unfold mX at p;split at p
 ·rename_i xs ks e _
  obtain ⟨v, f, g1, g2, h1, h2, rfl, h4⟩ := S.own.at e;cases h2 with
  | @ol a vs _ fl ha hv =>
   have nd := S.nd;have nd' := nd;simp only [List.nodup_append, List.mem_append, List.cons_append, List.nodup_cons, List.mem_cons] at nd';obtain ⟨n1, ⟨na, n2, n3, n4⟩, n5⟩ := nd';obtain ⟨f0, f1, a1, a2, a3, a4⟩ := OwnL.frzS ks 0 hv n2;have ff : ∀ b ∈ f0, F b = none := fun b m => S.fr b (by simp [(a1 b).mpr (.inl m)])
   have o := h4 (iC F H f0) H (dX ff) (fun _ _ _ q => q) (.ref a) (.ol (fj ks 0 xs)) (a :: f1) (.ol ha (a4 _ (dX ff) fun b m o q => by rw [gJ m]; exact q))
   rw [l5 h1] at o;have sub : ∀ b ∈ g1 ++ ((a :: f1) ++ g2), b ∈ g1 ++ ((a :: fl) ++ g2) ∧ b ∉ f0 := fun b m => by
    simp only [List.mem_append, List.mem_cons, List.cons_append] at m ⊢;rcases m with m | (m | m | m)
    ·exact ⟨.inl m, fun z => n5 b m b (.inr (.inl ((a1 b).mpr (.inl z)))) rfl⟩
    ·exact ⟨.inr (.inl m), fun z => na (.inl (by rw [← m]; exact (a1 b).mpr (.inl z)))⟩
    ·exact ⟨.inr (.inr (.inl ((a1 b).mpr (.inr m)))), fun z => a3 b z m⟩
    ·exact ⟨.inr (.inr (.inr m)), fun z => n4 b ((a1 b).mpr (.inl z)) b m rfl⟩
   have st : Stp F H (g1 ++ ((a :: fl) ++ g2)) (iC F H f0) H (g1 ++ ((a :: f1) ++ g2)) := ⟨dX ff, fun _ _ h _ => h, fun b m => .inl (sub b m).1, fun b h m z => by
    rw [ee fun w => m (by simp [(a1 b).mpr (.inl w)])]
    exact z⟩
   refine ⟨iC F H f0, _, _, ⟨lq S.same, o, ?_, fun b m => ?_, by rw [List.length_set]; exact S.len⟩, PostS.stp st p⟩
   ·simp only [List.nodup_append, List.mem_append, List.cons_append, List.nodup_cons, List.mem_cons]
    refine ⟨n1, ⟨fun z => ?_, a2, n3, fun b m c m2 => n4 b ((a1 b).mpr (.inr m)) c m2⟩, fun b m c m2 => ?_⟩
    ·rcases z with z | z
     ·exact na (.inl ((a1 a).mpr (.inr z)))
     ·exact na (.inr z)
    ·rcases m2 with z | z | z
     ·exact n5 b m c (.inl z)
     ·exact n5 b m c (.inr (.inl ((a1 c).mpr (.inr z))))
     ·exact n5 b m c (.inr (.inr z))
   ·rw [ee (sub b m).2]
    exact S.fr b (sub b m).1
 ·exact ⟨F, ρ, fp, S, p⟩
end
theorem wQ {M : Mx} {X : Cx} {st : Stmt} {f : Fs} (i c : Nat) (h : DS M X st f) : DS M X st (mX i c f) := fun hK hM => psI (h hK hM) fun _ _ _ q => Ar q
noncomputable def ir (xs : List OD) : List PyData → Option (List PyData)
 | [] => some []
 | .int q :: r => match ixN xs.length q with
  | some j => match xs[j]? with
   | some (.sh d) => (ir xs r).map fun ds => d :: ds
   | _ => none
  | none => none
 | _ :: _ => none
noncomputable def tE (i c : Nat) : Fe := fun ρ => match ρ[i]?, ρ[c]? with
 | some (some (.ol xs)), some (some (.sh (.list ks))) => match ir xs ks with
  | some ds => if ds.length ≤ BIG then .ok (.ol (ds.map OD.sh)) else .bad
  | none => .bad
 | _, _ => .bad
noncomputable def kI (vs : List V) (w : V) : V := match w with
 | .int q => (atI vs q).getD .non
 | _ => .non
theorem sj {K : PySem.W.Frag} {F H : Hp} {vs : List V} {xs : List OD} {f : List Addr} (o : OwnL K F H vs xs f) : ∀ {ws : List V} {ks ds : List PyData}, RepAll K F ws ks → ir xs ks = some ds → RepAll K F (ws.map (kI vs)) ds ∧ ∀ (i : Nat) (w : V), ws[i]? = some w → ∃ (q : Int) (y : V), w = V.int q ∧ atI vs q = some y
 | _, _, _, .nil, e => by
  unfold ir at e;cases e;exact ⟨.nil, fun i w h => by simp at h⟩
 | _, _, ds, .cons (v := v) (d := d) h r, e => by
  cases h with
  | int q =>
   unfold ir at e;split at e
   ·rename_i j hj
    split at e
    ·rename_i d' hd
     obtain ⟨es, he, rfl⟩ := Option.map_eq_some_iff.mp e;obtain ⟨r1, r2⟩ := sj o r he;obtain ⟨y, f', _, _, y1, y2, _, _⟩ := o.at hd;cases y2 with
     | sh yr =>
      have hat : atI vs q = some y := by
       unfold atI;rw [o.len, hj];exact y1
      refine ⟨.cons (by show Rep K F ((atI vs q).getD V.non) d'; rw [hat]; exact yr) r1, fun i w hw => ?_⟩
      cases i with
      | zero =>
       simp at hw
       subst hw;exact ⟨q, y, rfl, hat⟩
      | succ i => exact r2 i w (by simpa using hw)
    ·cases e
   ·cases e
  | non => unfold ir at e; cases e
  | bl b => unfold ir at e; cases e
  | str x => unfold ir at e; cases e
  | lst _ _ => unfold ir at e; cases e
  | tup _ _ => unfold ir at e; cases e
  | dct _ _ _ => unfold ir at e; cases e
theorem DK {M : Mx} {n : Nat} {σ : L2.St} {H : Hp} {Q : VK} {i c : Nat} {x : Str} (h : tD M n (tE i c) σ H Q) : nh (pZ M.K (iE c)) (jS 0) yh (tOp (oM M.K) (iE 1) (iE 0)) 1 [(i, x)] σ H Q := by
 obtain ⟨F, ρ, fp, S, p⟩ := h;unfold tE at p;split at p
 ·rename_i xs ks e1 e2
  split at p
  ·rename_i ds hds
   split at p
   ·rename_i hbig
    obtain ⟨v, f, g1, g2, h1, h2, _, _⟩ := S.own.at e1;obtain ⟨w, f', _, _, k1, k2, _, _⟩ := S.own.at e2;cases h2 with
    | @ol l vs _ fl hl ov =>
     cases k2 with
     | sh kr =>
      cases kr with
      | @lst a ws _ rd rw' =>
       obtain ⟨r1, r2⟩ := sj ov rw' hds;have hsl : slots 1 [(i, x)] σ = [none, some (.ref l)] := by
        unfold slots;show [none] ++ [(σ[i]?).join] = _
        rw [h1];rfl
       refine ⟨.ref a, k1, a, rfl, ⟨ws, (rd.same S.same).sq⟩, fun D hD => ?_⟩
       rw [hsl];refine ug (K := M.K) (xs := ws) (PvM H D fun i => (ws.take i).map (kI vs)) (PvM.start hD (by simp)) (fun i acc H' _ pv => ((rd.same S.same).same pv.2.1).sq) (fun i y acc H' hy pv => ?_) fun acc H' pv => ?_
       ·obtain ⟨q, z, rfl, hz⟩ := r2 i y hy
        have il := (List.getElem?_eq_some_iff.mp hy).1;have lw := r1.len;rw [List.length_map] at lw;refine ⟨⟨rfl, trivial⟩, ?_⟩;unfold yh;simp only [reduceIte];refine ⟨.ref l, rfl, .int q, rfl, l, vs, q, z, rfl, rfl, SqL.of (pv.2.1 _ _ hl), hz, ?_⟩;refine PvM.yes hD pv ?_ ?_
        ·show (ws.take (i + 1)).map (kI vs) = (ws.take i).map (kI vs) ++ [z]
         rw [List.take_add_one, hy, List.map_append];have ez : kI vs (.int q) = z := by show (atI vs q).getD V.non = z; rw [hz]; rfl
         show _ ++ [kI vs (.int q)] = _
         rw [ez]
        ·show ((ws.take i).map (kI vs)).length < sizeLine
         rw [List.length_map, List.length_take];exact ow (by lia)
       ·obtain ⟨pa, pb, pc⟩ := pv
        have pa' : acc = (ws.take ws.length).map (kI vs) := pa;rw [List.take_of_length_le (Nat.le_refl _)] at pa';subst pa';exact p (.ref D) F H' [D] ⟨aN.refl _, pb, S.same.trans pb, fun _ _ z => z⟩ ⟨.ol pc (OwnL.shs r1), by simp, fun a m => by
         have : a = D := by simpa using m
         rw [this];exact S.same.free hD⟩ fun a m => by
         have : a = D := by simpa using m
         rw [this];exact hD
   ·exact p.elim
  ·exact p.elim
 ·exact p.elim
section
variable {M : Mx} {X : Cx} {sc scope : Scope} {p p1 p2 p3 p4 p5 pos spos : Pos} {x y z b : Str}
theorem zm {i c bi : Nat} (B : Blk X sc scope [(i, x)]) (hN : X.N.Nodup) (hix : X.N[bi]? = some b) (hx : Loc X.env.scope b) (hcalm : X.calm = true) (hc : X.N[c]? = some z) (hv : Vis X.env.scope z)
  (hg : ∀ s H C ex pins, PG (cxB X ([y] ++ [(i, x)].map (·.2)) scope s H C ex pins) (.Name y p4) (jS 0))
  (he : ∀ s H C ex pins, (cxB X ([y] ++ [(i, x)].map (·.2)) scope s H C ex pins).K = M.K → PE (cxB X ([y] ++ [(i, x)].map (·.2)) scope s H C ex pins) (.Subscript (.Name x p1) (.Name y p2) p3) (tOp (oM M.K) (iE 1) (iE 0)))
  (hd : (z == ("__debug__" : Str)) = false := by decide) (hcd : (z == ("__classdict__" : Str)) = false := by decide)
  (hsw : swapsWith (.ListComp (.Subscript (.Name x p1) (.Name y p2) p3) [⟨.Name y p4, .Name z p5, [], 0⟩] scope pos) (some (.Name b p)) spos.line X.env = pure true := by rfl)
  (hs : ∀ v, foldedSetIterable (.Name z p5) X.env v = pure v := by intro _; rfl) (hf : X.fn b = true ∨ X.env.scope.names.lookup b = some .local := by first | exact .inl rfl | exact .inr rfl | assumption) :
  DS M X (.Assign [.Name b p] (.ListComp (.Subscript (.Name x p1) (.Name y p2) p3) [⟨.Name y p4, .Name z p5, [], 0⟩] scope pos) spos) (aJ bi (eSh (tE i c))) := fun hK hM =>
 psI (rH (wi := pZ M.K (iE c)) (g := jS 0) (tc := yh) (te := tOp (oM M.K) (iE 1) (iE 0)) [y] hN hix hx B hcalm (vS M.K hK (gx hc hv hd hcd)) hg (fun _ _ _ _ _ => uz) (fun s H C ex pins => he s H C ex pins hK) hsw hs hf) fun D σ H q => by
  have q' := r_ (pU hix) q;exact DK (mI q')
end
end L3
namespace L3
open PySem L2
theorem zg {i c : Nat} {f : Fs} {ρ : Env} {xs : List OD} {ks : List PyData} (h1 : ρ[i]? = some (some (.ol xs))) (h2 : ρ[c]? = some (some (.sh (.list ks)))) : mX i c f ρ = f (ρ.set i (some (.ol (fj ks 0 xs)))) := by
 unfold mX;rw [h1, h2]
theorem Dx {i c : Nat} {ρ : Env} {xs : List OD} {ks ds : List PyData} (h1 : ρ[i]? = some (some (.ol xs))) (h2 : ρ[c]? = some (some (.sh (.list ks)))) (h3 : ir xs ks = some ds) (h4 : ds.length ≤ BIG) : tE i c ρ = .ok (.ol (ds.map OD.sh)) := by
 unfold tE;rw [h1, h2];show (match ir xs ks with | some ds => if ds.length ≤ BIG then R.ok (OD.ol (ds.map OD.sh)) else .bad | none => .bad) = _
 rw [h3];show (if ds.length ≤ BIG then _ else _) = _
 rw [if_pos h4]
theorem jQ (ks : List PyData) : ∀ (xs : List OD) (i j : Nat), (fj ks i xs)[j]? = (xs[j]?).map fun x => if pS ks (i + j) = true then OD.sh x.er else x
 | [], i, j => by simp [fj]
 | x :: xs, i, 0 => by simp [fj]
 | x :: xs, i, j + 1 => by
  rw [fj, List.getElem?_cons_succ, List.getElem?_cons_succ, jQ ks xs (i + 1) j, show i + 1 + j = i + (j + 1) by lia]
theorem lQ (ks : List PyData) : ∀ (xs : List OD) (i : Nat), (fj ks i xs).length = xs.length
 | [], i => rfl
 | x :: xs, i => by rw [fj, List.length_cons, List.length_cons, lQ ks xs (i + 1)]
theorem qS (ks : List PyData) : ∀ (xs : List OD) (i : Nat), (fj ks i xs).map OD.er = xs.map OD.er
 | [], i => rfl
 | x :: xs, i => by
  rw [fj, List.map_cons, List.map_cons, qS ks xs (i + 1)];congr 1
  split
  ·exact cZ _
  ·rfl
end L3
namespace L2
open PySem PySem.Spec PyProof.Rows
noncomputable def pB (scope : Scope) (cl : List (Str × Addr)) (C : Addr) (env : Env) : Env := compEnvC scope (cellsFrom (C + 1) scope.names cl) C env
theorem jv : ∀ (names : List (Str × NameKind)) (n : Nat) (acc : List (Str × Addr)) {x : Str} {c : Addr}, (x, c) ∈ cellsFrom n names acc → (x, c) ∈ acc ∨ (n ≤ c ∧ (x, NameKind.cell) ∈ names)
 | [], n, acc, x, c, h => .inl h
 | (y, k) :: r, n, acc, x, c, h => by
  unfold cellsFrom at h;split at h
  ·rename_i hk
   have hk' : k = .cell := by simpa using hk
   rcases jv r (n + 1) _ h with h | ⟨h1, h2⟩
   ·rcases List.mem_cons.mp h with e | h
    ·cases e
     exact .inr ⟨Nat.le_refl _, by rw [← hk']; exact List.mem_cons_self⟩
    ·exact .inl h
   ·exact .inr ⟨by lia, List.mem_cons_of_mem _ h2⟩
  ·rcases jv r n _ h with h | ⟨h1, h2⟩
   ·exact .inl h
   ·exact .inr ⟨h1, List.mem_cons_of_mem _ h2⟩
theorem eU : ∀ (names : List (Str × NameKind)) (n : Nat) (acc : List (Str × Addr)) {x : Str} {c : Addr}, (cellsFrom n names acc).lookup x = some c → acc.lookup x = some c ∨ (n ≤ c ∧ (x, NameKind.cell) ∈ names)
 | [], n, acc, x, c, h => .inl h
 | (y, k) :: r, n, acc, x, c, h => by
  unfold cellsFrom at h;split at h
  ·rename_i hk
   have hk' : k = .cell := by simpa using hk
   rcases eU r (n + 1) _ h with h | ⟨h1, h2⟩
   ·rw [List.lookup_cons] at h
    cases hx : x == y with
    | true =>
     rw [hx] at h;cases h;have : x = y := by simpa using hx
     exact .inr ⟨Nat.le_refl _, by rw [← hk', this]; exact List.mem_cons_self⟩
    | false =>
     rw [hx] at h;exact .inl h
   ·exact .inr ⟨by lia, List.mem_cons_of_mem _ h2⟩
  ·rcases eU r n _ h with h | ⟨h1, h2⟩
   ·exact .inl h
   ·exact .inr ⟨h1, List.mem_cons_of_mem _ h2⟩
theorem gQ : ∀ (names : List (Str × NameKind)) (n : Nat) (acc : List (Str × Addr)) {x : Str}, (x, NameKind.cell) ∉ names → (cellsFrom n names acc).lookup x = acc.lookup x
 | [], n, acc, x, h => rfl
 | (y, k) :: r, n, acc, x, h => by
  unfold cellsFrom;split
  ·rename_i hk
   have hk' : k = .cell := by simpa using hk
   rw [gQ r (n + 1) _ fun z => h (List.mem_cons_of_mem _ z), List.lookup_cons]
   have : (x == y) = false := by
    cases hx : x == y with
    | false => rfl
    | true =>
     have e : x = y := by simpa using hx
     exact absurd (by rw [e, ← hk']; exact List.mem_cons_self) h
   rw [this]
  ·exact gQ r n _ fun z => h (List.mem_cons_of_mem _ z)
theorem gU : ∀ (names : List (Str × NameKind)) (h : Heap) (acc : List (Str × Addr)) {x : Str} {c : Addr}, (cellsFrom h.objs.size names acc).lookup x = some c → acc.lookup x = some c ∨ (pushCells h names).IsCell c none
 | [], h, acc, x, c, e => .inl e
 | (y, k) :: r, h, acc, x, c, e => by
  unfold cellsFrom at e;unfold pushCells;split at e
  ·rename_i hk
   rw [if_pos hk];have sz : (h.push { cls := .type "cell", data := .cell none }).objs.size = h.objs.size + 1 := Heap.size_push ..;rw [← sz] at e;rcases gU r (h.push { cls := .type "cell", data := .cell none }) _ e with q | q
   ·rw [List.lookup_cons] at q
    cases hx : x == y with
    | true =>
     rw [hx] at q;cases q;exact .inr ⟨_, pushCells_keeps _ _ _ _ (Heap.get?_push_size _ rfl), rfl⟩
    | false =>
     rw [hx] at q;exact .inl q
   ·exact .inr q
  ·rename_i hk
   rw [if_neg hk];exact gU r h _ e
theorem pq {M : Model} {A : Around} {E : Value → Shared → Prop} {s : Shared} {scope : Scope} {globals : Addr} {closure : List (Str × Addr)} {qual : Str} {outer : Env} {Q : Env → Shared → Prop}
  (h : ∀ h1 : Heap, (∀ b o, s.heap.get? b = some o → h1.get? b = some o) → h1.Ns s.heap.objs.size (fun _ => none) → h1 = pushCells (s.heap.push { cls := .type "dict", data := .dict #[] }) scope.names →
   Q { scope := scope, locals := s.heap.objs.size, globals := globals, cells := cellsFrom (s.heap.objs.size + 1) scope.names closure, qual := qual, func := none, code := outer.code, frame := outer.frame, builtins := outer.builtins } { s with heap := h1 }) :
  wpAny M A (newFunctionEnv scope globals closure [] qual none .none (some outer)) Q E s := by
 simp only [newFunctionEnv, Option.isSome_some, if_true];refine wpAny_bind (wpAny_alloc ?_);refine wpAny_bind (wpAny_layCells _ (fun name kind cells => by cases hkc : kind == NameKind.cell <;> simp [hkc]) _ _ _ _ ?_)
 rw [show ({ s with heap := s.heap.push { cls := .type "dict", data := .dict #[] } } : Shared).heap.objs.size = s.heap.objs.size + 1 from Heap.size_push ..]
 refine wpAny_bind ?_;rw [List.forIn_nil];refine wpAny_pure (wpAny_pure (h _ (fun b o e => pushCells_keeps _ _ b o (Heap.get?_push_of_some _ e)) ((Heap.Ns.new s.heap (.type "dict")).keeps (pushCells_keeps _ _)) rfl))
end L2
namespace L2
open PySem PySem.Spec PyProof.Rows
theorem gT : ∀ (names : List (Str × NameKind)) (n : Nat) (acc : List (Str × Addr)), (∀ x c, acc.lookup x = some c → @LT.lt Nat instLTNat c n) → (∀ x y c, acc.lookup x = some c → acc.lookup y = some c → x = y) → ∀ x y c, (cellsFrom n names acc).lookup x = some c → (cellsFrom n names acc).lookup y = some c → x = y
 | [], n, acc, _, hi, x, y, c, h1, h2 => hi x y c h1 h2
 | (z, k) :: r, n, acc, hb, hi, x, y, c, h1, h2 => by
  unfold cellsFrom at h1 h2;split at h1
  ·rename_i hk
   rw [if_pos hk] at h2;have look : ∀ x c, ((z, n) :: acc).lookup x = some c → (x = z ∧ c = n) ∨ acc.lookup x = some c := fun x c h => by
    rw [List.lookup_cons] at h;cases hx : x == z with
    | true =>
     rw [hx] at h;exact .inl ⟨by simpa using hx, (Option.some.inj h).symm⟩
    | false =>
     rw [hx] at h;exact .inr h
   refine gT r (n + 1) ((z, n) :: acc) (fun x c h => ?_) (fun x y c h1 h2 => ?_) x y c h1 h2
   ·rcases look x c h with ⟨_, e⟩ | h
    ·rw [e]
     exact Nat.lt_succ_self n
    ·exact Nat.lt_succ_of_lt (hb x c h)
   ·rcases look x c h1 with ⟨e1, f1⟩ | h1
    ·rcases look y c h2 with ⟨e2, f2⟩ | h2
     ·rw [e1, e2]
     ·rw [f1] at h2
      exact absurd (hb y n h2) (Nat.lt_irrefl _)
    ·rcases look y c h2 with ⟨e2, f2⟩ | h2
     ·rw [f2] at h1
      exact absurd (hb x n h1) (Nat.lt_irrefl _)
     ·exact hi x y c h1 h2
  ·rename_i hk
   rw [if_neg hk] at h2;exact gT r n acc hb hi x y c h1 h2
theorem kj {env : Env} {x : Str} {c : Addr} : ∀ (l : List (Str × NameKind)) (cs : List (Str × Addr)), (frees env l cs).lookup x = some c → cs.lookup x = some c ∨ (x, NameKind.free) ∈ l
 | [], cs, h => .inl h
 | (n, k) :: r, cs, h => by
  unfold frees at h;split at h
  ·rename_i hk
   have hk' : k = .free := by simpa using hk
   rcases kj r _ h with h | h
   ·rw [List.lookup_cons] at h
    cases hx : x == n with
    | true =>
     have : x = n := by simpa using hx
     exact .inr (by rw [this, ← hk']; exact List.mem_cons_self)
    | false =>
     rw [hx] at h;exact .inl h
   ·exact .inr (List.mem_cons_of_mem _ h)
  ·rcases kj r _ h with h | h
   ·exact .inl h
   ·exact .inr (List.mem_cons_of_mem _ h)
noncomputable def nQ (scope : Scope) (x : Str) : Bool := scope.names.any fun p => p.1 == x && p.2 == NameKind.cell
theorem p_ {scope : Scope} {x : Str} (h : nQ scope x = true) : (x, NameKind.cell) ∈ scope.names := by
 unfold nQ at h;rw [List.any_eq_true] at h;obtain ⟨⟨y, k⟩, hm, e⟩ := h;rw [Bool.and_eq_true] at e;have e1 : y = x := by simpa using e.1
 have e2 : k = .cell := by simpa using e.2
 rw [e1, e2] at hm;exact hm
noncomputable def cxK (X : Cx) (N : List Str) (scope : Scope) (s : Shared) (H : Hp) (C : Addr) (ex : List Addr) (pins : List (Addr × Obj)) : Cx :=
 { X with N := N, s₀ := s, H₀ := H, env := pB scope (frees X.env scope.names []) C X.env, outer := X.stack, ex := ex, fn := nQ scope, pn := X.pn ++ pins, xe := fun _ _ => False }
structure BlkK (X : Cx) (sc scope : Scope) (outs : List (Nat × Str)) : Prop where
 hsc : X.env.scope = sc
 kind : scope.kind = .function
 loc : ∀ x ∈ scope.names, x.2 = .local → scope.names.lookup x.1 = some .local
 own : ∀ x ∈ scope.names, x.2 = .cell → scope.names.lookup x.1 = some .cell
 ap : ∀ x ∈ scope.names, x.2 = .free → (x.1, NameKind.cell) ∉ scope.names
 fr : ∀ x ∈ scope.names, x.2 = .free → sc.names.lookup x.1 = some .cell ∨ sc.names.lookup x.1 = some .free
 out : h8 X scope outs
section
variable {X : Cx} {sc scope : Scope} {own : List Str} {outs : List (Nat × Str)} {elt tg iter : Expr} {ifs : List Expr} {pos : Pos} {g : TG} {tc : TT} {te : TE}
theorem kx (B : BlkK X sc scope outs) {pins : List (Addr × Obj)} {σ : St} {H : Hp} {s : Shared} (I : Inv X pins σ H s) : ∀ x ∈ scope.names, x.2 = .free → ∃ c, X.env.cells.lookup x.1 = some c := fun x hx hf => by
 refine I.ok.has x.1 ?_;show X.env.scope.names.lookup x.1 = _ ∨ X.env.scope.names.lookup x.1 = _
 rw [B.hsc];exact B.fr x hx hf
theorem vF (B : BlkK X sc scope outs) {pins : List (Addr × Obj)} {σ : St} {H : Hp} {s : Shared} {fp : List Addr} (I : Inv X pins σ H s) (f2 : ∀ b ∈ fp, ji X pins H b) (fo : ∀ b ∈ fp, ∃ o, s.heap.get? b = some o)
  {h1 : Heap} {m : Str → Option Value} {tk : Nat} (hn : h1.Ns (s.heap.objs.size + 1) m) (old : ∀ b o, s.heap.get? b = some o → h1.get? b = some o)
  (hD : h1.get? s.heap.objs.size = some { cls := .type "list", data := .seq #[] 0 })
  (hcl : ∀ x c, (cellsFrom (s.heap.objs.size + 1 + 1) scope.names (frees X.env scope.names [])).lookup x = some c → (frees X.env scope.names []).lookup x = some c ∨ h1.IsCell c none) :
  Inv (cxK X (own ++ outs.map (·.2)) scope s H (s.heap.objs.size + 1) fp pins) [] (slots own.length outs σ) (upd H s.heap.objs.size (.lst [])) { s with heap := h1, toks := tk } := by
 have bf := kx B I;have sub : ∀ x c, (frees X.env scope.names []).lookup x = some c → X.env.cells.lookup x = some c := fun x c e => iY _ _ bf (fun c' e' => by simp at e') e
 have clt : ∀ x c, X.env.cells.lookup x = some c → c < s.heap.objs.size := fun x c e => (let ⟨v, q⟩ := I.cell x c e; q.lt)
 have flo : ∀ x c, (frees X.env scope.names []).lookup x = some c → (x, NameKind.cell) ∉ scope.names := fun x c e => by
  rcases kj _ _ e with q | q
  ·simp at q
  ·exact B.ap _ q rfl
 have K1 : ∀ x c, (cellsFrom (s.heap.objs.size + 1 + 1) scope.names (frees X.env scope.names [])).lookup x = some c → X.env.cells.lookup x = some c ∨ (s.heap.objs.size + 2 ≤ c ∧ h1.IsCell c none) := fun x c e => by
  rcases eU _ _ _ e with q | ⟨q1, q2⟩
  ·exact .inl (sub x c q)
  ·rcases hcl x c e with z | z
   ·exact absurd q2 (flo x c z)
   ·exact .inr ⟨q1, z⟩
 have K2 : ∀ x c, (frees X.env scope.names []).lookup x = some c → (cellsFrom (s.heap.objs.size + 1 + 1) scope.names (frees X.env scope.names [])).lookup x = some c := fun x c e => by rw [gQ _ _ _ (flo x c e)]; exact e
 have flt : ∀ b ∈ fp, b < s.heap.objs.size := fun b hb => (let ⟨o, e⟩ := fo b hb; Heap.lt_size e)
 have un : Un (cxK X (own ++ outs.map (·.2)) scope s H (s.heap.objs.size + 1) fp pins).fs (cxK X (own ++ outs.map (·.2)) scope s H (s.heap.objs.size + 1) fp pins).ex H (upd H s.heap.objs.size (.lst [])) s.heap h1 := Un.laid old (Nat.le_refl _) I.fresh;have hok : HOk X.prog X.w (upd H s.heap.objs.size (.lst [])) h1 := I.hok.laid old (Nat.le_refl _) ⟨Nat.zero_le _, [], 0, .nil, hD⟩;refine ⟨⟨I.ok.mod, B.kind, I.ok.glob, I.ok.blt, Nat.le_succ _, fun x y c e1 e2 => gT _ _ _ (fun x c e => Nat.lt_of_lt_of_le (clt x c (sub x c e)) (Nat.le_trans (Nat.le_succ _) (Nat.le_succ _))) (fun x y c e1 e2 => I.ok.inj x y c (sub x c e1) (sub y c e2)) x y c e1 e2, fun x hx => ?_, fun x c hf hq => ?_, I.ok.hd, I.ok.frames, .inl rfl, fun b hb => ⟨?_, fun x c e => ?_⟩, I.bs, ?_, fun b o e hb => ?_, fun b hb z => ?_, I.stack, I.stkFree⟩,
  rfl, I.bare, un, ⟨m, hn, fun i x v e1 e2 e3 => ?_⟩, fun x c e => ?_, ?_, fun x c e => ?_, fun p hp => ?_, hok, ?_⟩
 ·have go : ∃ k, scope.names.lookup x = some k ∧ (k = .free ∨ k = .cell) := by
   rcases hx with hx | hx
   ·obtain ⟨k, e, hk⟩ := mY (show ((scope.names.map _).lookup x = some .cell) from hx)
    rcases hk with hk | hk
    ·exact ⟨k, e, .inr hk.symm⟩
    ·exact ⟨k, e, .inl hk.1⟩
   ·obtain ⟨k, e, hk⟩ := mY (show ((scope.names.map _).lookup x = some .free) from hx)
    rcases hk with hk | hk
    ·exact ⟨k, e, .inl hk.symm⟩
    ·exact ⟨k, e, .inl hk.1⟩
  obtain ⟨k, e, hk⟩ := go;rcases hk with rfl | rfl
  ·obtain ⟨c, hc⟩ := fW (env := X.env) (x := x) scope.names [] (.inl (de e))
   exact ⟨c, K2 x c hc⟩
  ·exact Option.isSome_iff_exists.mp (PySem.W.cellsFrom_some scope.names _ _ (.inl e))
 ·rcases eU _ _ _ hq with q | ⟨q1, _⟩
  ·exact absurd (p_ hf) (flo x c q)
  ·exact Nat.le_trans (Nat.le_trans (Nat.le_succ _) (Nat.le_succ _)) q1
 ·exact Nat.ne_of_lt (Nat.lt_succ_of_lt (flt b hb))
 ·rcases K1 x c e with q | ⟨q1, _⟩
  ·exact (f2 b hb).2.2.2.2.1 x c q
  ·exact fun z => absurd (flt b hb) (Nat.not_lt.mpr (by rw [← z]; exact Nat.le_trans (Nat.le_trans (Nat.le_succ _) (Nat.le_succ _)) q1))
 ·exact Nat.le_trans I.ok.bsz I.sz
 ·rcases (f2 b hb).2.2.2.1 with z | z
  ·exact I.ok.noex b o e z
  ·exact absurd (Nat.lt_of_lt_of_le (Heap.lt_size e) (Nat.le_trans I.ok.bsz z)) (Nat.lt_irrefl _)
 ·rcases List.mem_cons.mp (I.stkSub b z) with q | q
  ·exact (f2 b hb).2.1 q
  ·exact (f2 b hb).2.2.1 q
 ·
  have hi : own.length ≤ i := by
   by_cases hi : own.length ≤ i
   ·exact hi
   ·have e2' : (slots own.length outs σ)[i]? = some (some v) := e2
    unfold slots at e2';rw [List.getElem?_append_left (by simpa using Nat.lt_of_not_le hi), List.getElem?_replicate] at e2'
    split at e2' <;> cases e2'
  have e1' : (own ++ outs.map (·.2))[i]? = some x := e1;have e2' : (slots own.length outs σ)[i]? = some (some v) := e2;unfold slots at e2';rw [List.getElem?_append_right hi, List.getElem?_map] at e1';rw [List.getElem?_append_right (by simpa using hi), List.length_replicate, List.getElem?_map] at e2'
  cases ep : outs[i - own.length]? with
  | none =>
   rw [ep] at e1';cases e1'
  | some p =>
   rw [ep] at e1' e2';have ex : p.2 = x := Option.some.inj e1';have ev : (σ[p.1]?).join = some v := Option.some.inj e2';obtain ⟨o1, o2⟩ := B.out.get ep;have es : σ[p.1]? = some (some v) := by
    cases q : σ[p.1]? with
    | none =>
     rw [q] at ev;cases ev
    | some w =>
     rw [q] at ev;have ew : w = some v := ev;rw [ew]
   rw [ex] at o1 o2;have hk : X.env.scope.names.lookup x = some .cell ∨ X.env.scope.names.lookup x = some .free := by
    rw [B.hsc];exact B.fr (x, .free) (de o2) rfl
   obtain ⟨m0, hn0, hl0⟩ := I.loc;obtain ⟨u, r, l⟩ := hl0 p.1 x v o1 es (hk.elim (fun z => .inr (.inl z)) fun z => .inr (.inr z))
   refine ⟨u, r, .inr ?_⟩;rcases l with ⟨hl, _⟩ | ⟨_, c, ec, hc⟩
   ·have hl' : X.env.scope.names.lookup x = some .local := hl
    rcases hk with z | z <;> (rw [z] at hl'; cases hl')
   ·obtain ⟨c', ec'⟩ := fW (env := X.env) (x := x) scope.names [] (.inl (de o2))
    have e3 := sub x c' ec';rw [ec] at e3;cases e3;obtain ⟨oc, q1, q2⟩ := hc;exact ⟨gr o2, c, K2 x c ec', ⟨oc, old _ _ q1, q2⟩⟩
 ·rcases K1 x c e with q | ⟨_, q⟩
  ·obtain ⟨v, oc, q1, q2⟩ := I.cell x c q
   exact ⟨v, oc, old _ _ q1, q2⟩
  ·exact ⟨_, q⟩
 ·show upd H s.heap.objs.size (.lst []) (s.heap.objs.size + 1) = none
  rw [aG (Nat.succ_ne_self _)];exact I.hok.fresh (Nat.le_succ _)
 ·rcases K1 x c e with q | ⟨q1, _⟩
  ·rw [aG (Nat.ne_of_lt (clt x c q))]
   exact I.freeC x c q
  ·have hge : @LE.le Nat instLENat s.heap.objs.size c := Nat.le_trans (Nat.le_trans (Nat.le_succ _) (Nat.le_succ _)) q1
   rw [aG (fun z => by rw [z] at q1; exact absurd q1 (Nat.not_le.mpr (Nat.lt_trans (Nat.lt_succ_self _) (Nat.lt_succ_self _))))]
   exact I.hok.fresh hge
 ·have hp' : p ∈ X.pn ++ pins := by
   have : p ∈ (X.pn ++ pins) ++ [] := hp
   simpa using this
  obtain ⟨q1, q2, q3, q4, q5⟩ := I.pin p hp';refine ⟨old _ _ q1, ?_, Nat.ne_of_lt (Nat.lt_succ_of_lt (Heap.lt_size q1)), fun z => ?_, q5⟩
  ·rw [aG (Nat.ne_of_lt (Heap.lt_size q1))]
   exact q2
  ·rcases List.mem_cons.mp (I.stkSub p.1 z) with q | q
   ·exact q3 q
   ·exact q4 q
 ·show (slots own.length outs σ).length = (own ++ outs.map (·.2)).length
  unfold slots;simp
theorem pM (B : BlkK X sc scope outs) (hcalm : X.calm = true)
  (hg : ∀ s H C ex pins, PG (cxK X (own ++ outs.map (·.2)) scope s H C ex pins) tg g) (hc : ∀ s H C ex pins, PF (cxK X (own ++ outs.map (·.2)) scope s H C ex pins) ifs tc) (he : ∀ s H C ex pins, PE (cxK X (own ++ outs.map (·.2)) scope s H C ex pins) elt te)
  {pins : List (Addr × Obj)} {σ : St} {H : Hp} {s : Shared} {it : Addr} {fp : List Addr} {tn : Nat → Heap → Prop} {J : It} (I : Inv X pins σ H s) (T : Turn X.prog X.w X.K tg J fp it tn) (st : tn 0 s.heap) (f2 : ∀ b ∈ fp, ji X pins H b)
  {R0 : Addr → Hp → Prop} (hW : ∀ D, H D = none → xC J g tc te (slots own.length outs σ) D H (R0 D)) {RR : Value → Addr → Result → Shared → Prop} {E : Value → Shared → Prop}
  (fin : ∀ D C H' s' m, Inv X pins σ H' s' → ji X pins H' C → s'.heap.Ns C m → R0 D H' → RR (.ref D) C (.ok .next) s') :
  wpAny (model X.prog X.w) X.A (newList []) (fun acc s3 => wpAny (model X.prog X.w) X.A (newFunctionEnv scope X.env.globals (frees X.env scope.names []) [] X.env.qual none .none (some X.env)) (fun cenv s4 =>
   codeAny (model X.prog X.w) X.A (.compStart (.ListComp elt [⟨tg, iter, ifs, 0⟩] scope pos) 0 (.ref it) acc { cenv with scope := relabel scope X.env }) (RR acc cenv.locals) s4) E s3) E s := by
 refine wpAny_newObj_type (pq fun h1 hs1 hn1 hp1 => ?_)
 dsimp only at hn1 hs1 hp1 ⊢
 have hz : (s.heap.push { cls := .type "list", dict := none, data := .seq ([] : List Value).toArray }).objs.size = s.heap.objs.size + 1 := Heap.size_push ..;rw [hz] at hn1;simp only [hz];have fo : ∀ b ∈ fp, ∃ o, s.heap.get? b = some o := fun b hb => (let ⟨o, e, _⟩ := T.obj 0 _ st b hb; ⟨o, e⟩)
 have old : ∀ b o, s.heap.get? b = some o → h1.get? b = some o := fun b o e => hs1 b o (Heap.get?_push_of_some _ e)
 have hD : h1.get? s.heap.objs.size = some { cls := .type "list", data := .seq #[] 0 } := hs1 _ _ (Heap.get?_push_size _ rfl);have hz2 : ((s.heap.push { cls := .type "list", dict := none, data := .seq ([] : List Value).toArray }).push { cls := .type "dict", data := .dict #[] }).objs.size = s.heap.objs.size + 1 + 1 := by rw [Heap.size_push, hz]
 have hcl : ∀ x c, (cellsFrom (s.heap.objs.size + 1 + 1) scope.names (frees X.env scope.names [])).lookup x = some c → (frees X.env scope.names []).lookup x = some c ∨ h1.IsCell c none := fun x c e => by
  rw [hp1];rw [← hz2] at e;exact gU _ _ _ e
 have I1 := vF (own := own) (tk := s.toks) B I f2 fo hn1 old hD hcl;have st1 : tn 0 h1 := T.keep _ _ _ st fun b _ o e => old b o e
 obtain ⟨W, ⟨m0, w0⟩, turn⟩ := hW _ I.fresh;have fpB : ∀ {H' : Hp}, (∀ b ∈ fp, H' b = none) → ∀ b ∈ fp, ji (cxK X (own ++ outs.map (·.2)) scope s H (s.heap.objs.size + 1) fp pins) [] H' b := fun hn b hb => by
  obtain ⟨o, eo⟩ := fo b hb;refine ⟨hn b hb, Nat.ne_of_lt (Nat.lt_succ_of_lt (Heap.lt_size eo)), I1.ok.exfs b hb, .inl hb, fun x c e => (I1.ok.exf b hb).2 x c e, fun p hp => ?_⟩
  have hp' : p ∈ X.pn ++ pins := by
   have : p ∈ (X.pn ++ pins) ++ [] := hp
   simpa using this
  exact (f2 b hb).2.2.2.2.2 p hp'
 have loop : ∀ s0 : Shared, s0 = { s with heap := h1, toks := s.toks } →
   codeAny (model X.prog X.w) X.A (.compLoop (.ListComp elt [⟨tg, iter, ifs, 0⟩] scope pos) 0 (.ref it) (.ref s.heap.objs.size) (pB scope (frees X.env scope.names []) (s.heap.objs.size + 1) X.env)) (RR (.ref s.heap.objs.size) (s.heap.objs.size + 1)) s0 := by
  rintro s0 rfl;refine jZ (fun n s' => ∃ i acc H', Inv (cxK X (own ++ outs.map (·.2)) scope s H (s.heap.objs.size + 1) fp pins) [] (slots own.length outs σ) H' s' ∧ tn i s'.heap ∧ (∀ b ∈ fp, H' b = none) ∧ W i n acc H') ?_ m0
   ⟨0, [], _, I1, st1, fun b hb => ?_, w0⟩
  ·rintro n s3 ⟨i, acc, H3, I3, st3, fr3, w3⟩
   rcases turn i n acc H3 w3 with ⟨stop, q⟩ | ⟨go, N, hN, step⟩
   ·refine thn (T.done (cxK X (own ++ outs.map (·.2)) scope s H (s.heap.objs.size + 1) fp pins) rfl rfl rfl hcalm i [] s3 _ H3 (fun _ _ => False) I3 (fpB fr3) st3 stop) fun r s4 ⟨hr, I4⟩ => ?_
    subst hr;have IX : Inv X pins σ H3 s4 := I.call' (ch := fp) I4.os I4.base I4.hok I4.bare fun b hb => ⟨(f2 b hb).2.2.2.1, (f2 b hb).2.1, (f2 b hb).2.2.2.2.1, (f2 b hb).2.2.2.2.2⟩
    obtain ⟨m4, hn4, _⟩ := I4.loc;exact fin _ _ H3 s4 m4 IX (I.fpOk (Nat.le_succ _) I4.free) hn4 q
   ·refine thn (T.item (cxK X (own ++ outs.map (·.2)) scope s H (s.heap.objs.size + 1) fp pins) rfl rfl rfl hcalm i [] s3 _ H3 (fun _ _ => False) I3 (fpB fr3) st3 go) fun r s4 ⟨u, hr, h4⟩ => ?_
    subst hr;refine thn h4 fun _ s5 ⟨x, H5, I5, r5, y5, st5, fr5⟩ => ?_
    have I5' := I5.pinned (fpB fr5) (T.obj _ _ st5);have back : ∀ {σ6 : St} {H6 : Hp} {s6 : Shared} {acc' : List V}, Inv (cxK X (own ++ outs.map (·.2)) scope s H (s.heap.objs.size + 1) fp pins) ([] ++ kC fp s5.heap) σ6 H6 s6 → gc (slots own.length outs σ) σ6 → N acc' H6 →
      ∃ m, m < n ∧ ∃ i acc H', Inv (cxK X (own ++ outs.map (·.2)) scope s H (s.heap.objs.size + 1) fp pins) [] (slots own.length outs σ) H' s6 ∧ tn i s6.heap ∧ (∀ b ∈ fp, H' b = none) ∧ W i m acc H' := fun {σ6 H6 s6 acc'} I6 hs hn6 => by
     obtain ⟨m', hm, hw⟩ := hN acc' H6 hn6;refine ⟨m', hm, i + 1, acc', H6, I6.unpinned.weak hs.len fun j v e => hs.get e, T.keep _ _ _ st5 fun b hb o e => (I6.pin (b, o) (List.mem_append_right _ (List.mem_append_right _ (fv hb e)))).1, fun b hb => ?_, hw⟩
     obtain ⟨o, e, _⟩ := T.obj _ _ st5 b hb;exact (I6.pin (b, o) (List.mem_append_right _ (List.mem_append_right _ (fv hb e)))).2.1
    refine thn (hg s H _ fp pins _ s5 _ H5 x u _ I5' r5 (step x H5 y5)) fun _ s6 ⟨σ6, H6, I6, hs6, q6⟩ => ?_
    refine thn (hc s H _ fp pins _ s6 σ6 H6 _ I6 q6) fun b s7 ⟨H7, I7, q7⟩ => ?_
    cases b with
    | false =>
     exact back I7 hs6 q7
    | true =>
     refine thn (he s H _ fp pins _ s7 σ6 H7 _ I7 q7) fun yv s8 ⟨y, H8, I8, r8, hd8, hl8, hw⟩ => ?_
     refine thn (i8 _ s8 σ6 H8 (.ref s.heap.objs.size) [y] (.ref s.heap.objs.size) [yv] (fun _ H9 => H9 = upd H8 s.heap.objs.size (.lst (acc ++ [y]))) I8 rfl (.cons r8 .nil) ⟨_, acc, y, rfl, rfl, hd8, hl8, rfl⟩) fun z s9 ⟨zv, H9, I9, _, q9⟩ => ?_
     subst q9;exact back I9 hs6 hw
  ·obtain ⟨o, eo⟩ := fo b hb
   rw [aG (Nat.ne_of_lt (Heap.lt_size eo))];exact (f2 b hb).1
 exact codeAny_compStart_list (loop _ rfl) (T.self X.A 0 _ _ _ st1 (loop _ rfl))
theorem vf {wi : TI} (own : List Str) (B : BlkK X sc scope outs) (hcalm : X.calm = true) (hi : PI X tg iter wi)
  (hg : ∀ s H C ex pins, PG (cxK X (own ++ outs.map (·.2)) scope s H C ex pins) tg g) (hc : ∀ s H C ex pins, PF (cxK X (own ++ outs.map (·.2)) scope s H C ex pins) ifs tc) (he : ∀ s H C ex pins, PE (cxK X (own ++ outs.map (·.2)) scope s H C ex pins) elt te)
  (hs : ∀ x, foldedSetIterable iter X.env x = pure x := by intro _; rfl) : PE X (.ListComp elt [⟨tg, iter, ifs, 0⟩] scope pos) (nh wi g tc te own.length outs) := by
 intro pins s σ H Q I h;rw [eval_ListComp];refine wpAny_comprehension_free (use := none) rfl hs (ig (kx B I)) B.kind B.loc ?_;refine thn (hi pins s σ H _ I h) fun v s1 h1 => thn h1 fun itv s2 h2 => ?_
 obtain ⟨it, fp, tn, J, H2, e, I2, T, st2, f2, hW⟩ := h2;subst e;refine pM (RR := fun acc C => compPost (model X.prog X.w) X.A X.xe none (EP X pins σ Q) acc C) B hcalm hg hc he I2 T st2 f2 hW ?_
 intro D C H' s' m I' hC hn q;refine ⟨m, hn, fun h' hs' => ?_⟩
 obtain ⟨c0, c1, c2, c3, c4, c5⟩ := hC;exact ⟨.ref D, H', I'.turned (t' := s'.toks) (fun b o hb e => (hs'.2 b hb).trans e) c0 c1 c3 c4 c5, rfl, q⟩
theorem vT {wi : TI} {i : Nat} {x : Str} {pos' spos : Pos} (own : List Str) (hN : X.N.Nodup) (hix : X.N[i]? = some x) (hx : Loc X.env.scope x) (B : BlkK X sc scope outs) (hcalm : X.calm = true) (hi : PI X tg iter wi)
  (hg : ∀ s H C ex pins, PG (cxK X (own ++ outs.map (·.2)) scope s H C ex pins) tg g) (hc : ∀ s H C ex pins, PF (cxK X (own ++ outs.map (·.2)) scope s H C ex pins) ifs tc) (he : ∀ s H C ex pins, PE (cxK X (own ++ outs.map (·.2)) scope s H C ex pins) elt te)
  (hsw : swapsWith (.ListComp elt [⟨tg, iter, ifs, 0⟩] scope pos) (some (.Name x pos')) spos.line X.env = pure true := by rfl)
  (hs : ∀ x, foldedSetIterable iter X.env x = pure x := by intro _; rfl) (hf : X.fn x = true ∨ X.env.scope.names.lookup x = some .local := by first | exact .inl rfl | exact .inr rfl | assumption) :
  PS X (.Assign [.Name x pos'] (.ListComp elt [⟨tg, iter, ifs, 0⟩] scope pos) spos) (oN (nh wi g tc te own.length outs) (jS i)) := by
 intro pins s σ H D0 I h;rw [exec_Assign_Name_used _ _ _ _ hsw];refine wpAny_bind (wpAny_standAt (wpAny_bind ?_));show wpAny _ X.A (do let _ ← comprehension (.ListComp elt [⟨tg, iter, ifs, 0⟩] scope pos) scope X.env _ (newList []) false (eval iter X.env) (some (assign (.Name x pos') X.env))) _ _ s
 refine wpAny_bind (thn (wpAny_comprehension_free (use := some (assign (.Name x pos') X.env)) (Q := fun _ s' => SP X pins D0 .next s') rfl hs (ig (kx B I)) B.kind B.loc ?_) fun _ s' hq => wpAny_pure (wpAny_pure hq))
 refine thn (hi pins s σ H _ I h) fun v s1 h1 => thn h1 fun itv s2 h2 => ?_
 obtain ⟨it, fp, tn, J, H2, e, I2, T, st2, f2, hW⟩ := h2;subst e;refine pM (RR := fun acc C => compPost (model X.prog X.w) X.A X.xe (some (assign (.Name x pos') X.env)) (fun _ s' => SP X pins D0 .next s') acc C) B hcalm hg hc he I2 T st2 f2 hW ?_
 intro D C H' s' m I' hC hn q;obtain ⟨c0, c1, c2, c3, c4, c5⟩ := hC;obtain ⟨oC, es, ep, hoC, hdC, hr⟩ := id hn;have IC : Inv X (pins ++ [(C, oC)]) σ H' s' := I'.pins_of fun p hp => (List.mem_append.mp hp).elim (fun z => I'.pin p (List.mem_append_right _ z)) fun z => by
  have ep : p = (C, oC) := by simpa using z
  subst ep;exact ⟨hoC, c0, c1, c2, fun v z => by rw [hdC] at z; cases z⟩
 show wpAny _ X.A (assign (.Name x pos') X.env (.ref D)) _ _ s'
 refine wpAny_assign_Name (j6 (v := .ref D) IC hN hix hx rfl (fun s3 I3 => ?_) hf)
 have hC3 : s3.heap.get? C = some oC := (I3.pin (C, oC) (List.mem_append_right _ (List.mem_append_right _ (by simp)))).1
 refine ⟨m, ⟨oC, es, ep, hC3, hdC, hr⟩, fun h' hs' => ?_⟩
 exact ⟨_, H', I3.unpinned.turned (t' := s3.toks) (fun b o hb e => (hs'.2 b hb).trans e) c0 c1 c3 c4 c5, q⟩
end
theorem u6 {X : Cx} {N : List Str} {scope0 scope : Scope} {s : Shared} {H : Hp} {C : Addr} {ex : List Addr} {pins : List (Addr × Obj)} {outs : List (Nat × Str)} (kind : scope.kind = .function) (loc : ∀ x ∈ scope.names, x.2 = .local → scope.names.lookup x.1 = some .local) (nocell : ∀ x ∈ scope.names, x.2 ≠ .cell)
  (fr : ∀ x ∈ scope.names, x.2 = .free → scope0.names.lookup x.1 = some .cell ∨ scope0.names.lookup x.1 = some .free) (out : h8 (cxK X N scope0 s H C ex pins) scope outs) : Blk (cxK X N scope0 s H C ex pins) (relabel scope0 X.env) scope outs := by
 refine ⟨rfl, kind, loc, nocell, fun x hx hf => ?_, out⟩
 rcases fr x hx hf with h | h
 ·left
  show (scope0.names.map _).lookup x.1 = some NameKind.cell
  have : ∀ names : List (Str × NameKind), names.lookup x.1 = some .cell → (names.map fun (n, k) => if (k == NameKind.free && X.env.scope.kind == .function && X.env.kindOf n == some .cell) then (n, NameKind.cell) else (n, k)).lookup x.1 = some .cell := by
   intro names
   induction names with
   | nil => intro h; simp at h
   | cons y r ih =>
    obtain ⟨n, k⟩ := y;intro h;rw [List.lookup_cons] at h;rw [List.map_cons]
    dsimp only
    by_cases hc : (k == NameKind.free && X.env.scope.kind == .function && X.env.kindOf n == some .cell) = true
    ·rw [if_pos hc, List.lookup_cons]
     cases hx : x.1 == n with
     | true => rfl
     | false =>
      rw [hx] at h;exact ih h
    ·rw [if_neg hc, List.lookup_cons]
     cases hx : x.1 == n with
     | true =>
      rw [hx] at h;exact h
     | false =>
      rw [hx] at h;exact ih h
  exact this _ h
 ·exact gr h
end L2
namespace L3
open PySem L2 PySem.Spec PyProof.Rows
section
variable {M : Mx} {X : Cx} {e a b c : Expr} {es : List Expr} {pos : Pos} {fa fb : Fe} {ta tb : Ft} {al : Fa} {x : Str} {p ap cp : Pos}
variable {sc scope : Scope} {outs : List (Nat × Str)} {elt tg iter : Expr} {ifs : List Expr} {it : Fi} {gg : Fg} {is : List Nat} {el : Fe}
theorem iW (own : List Str) (s : Shared) (H : Hp) (C : Addr) (ex : List Addr) (pins : List (Addr × Obj)) : (cxK X (own ++ outs.map (·.2)) scope s H C ex pins).N.length = own.length + outs.length := by
 show (own ++ outs.map (·.2)).length = _
 rw [List.length_append, List.length_map]
theorem uU (own : List Str) (B : BlkK X sc scope outs) (hcalm : X.calm = true) (hk : ∀ j ∈ is, j < own.length) (hi : DI M X tg iter it)
  (hg : ∀ s H C ex pins, DG M (cxK X (own ++ outs.map (·.2)) scope s H C ex pins) tg is gg) (hc : ∀ s H C ex pins, DF M (cxK X (own ++ outs.map (·.2)) scope s H C ex pins) ifs ta) (he : ∀ s H C ex pins, DE M (cxK X (own ++ outs.map (·.2)) scope s H C ex pins) elt el)
  (hs : ∀ x, foldedSetIterable iter X.env x = pure x := by intro _; rfl) : DE M X (.ListComp elt [⟨tg, iter, ifs, 0⟩] scope pos) (bT it gg ta el own.length (outs.map (·.1))) := fun hK hM =>
 peI (vf (wi := tI M X.N.length it) (g := tG M (own.length + outs.length) is gg) (tc := tT M (own.length + outs.length) ta) (te := tD M (own.length + outs.length) el) own B hcalm (hi hK hM)
  (fun s H C ex pins => by have q := hg s H C ex pins hK hM; rw [iW] at q; exact q) (fun s H C ex pins => by have q := hc s H C ex pins hK hM; rw [iW] at q; exact q) (fun s H C ex pins => by have q := he s H C ex pins hK hM; rw [iW] at q; exact q) hs) fun _ _ _ q => nX hk q
theorem vL {fe : Fe} {i : Nat} {spos : Pos} (own : List Str) (w : ∀ σ H Q, tD M X.N.length fe σ H Q → tD M X.N.length (bT it gg ta el own.length (outs.map (·.1))) σ H Q) (hN : X.N.Nodup) (hix : X.N[i]? = some x) (hx : Loc X.env.scope x) (B : BlkK X sc scope outs) (hcalm : X.calm = true) (hk : ∀ j ∈ is, j < own.length) (hi : DI M X tg iter it)
  (hg : ∀ s H C ex pins, DG M (cxK X (own ++ outs.map (·.2)) scope s H C ex pins) tg is gg) (hc : ∀ s H C ex pins, DF M (cxK X (own ++ outs.map (·.2)) scope s H C ex pins) ifs ta) (he : ∀ s H C ex pins, DE M (cxK X (own ++ outs.map (·.2)) scope s H C ex pins) elt el)
  (hsw : swapsWith (.ListComp elt [⟨tg, iter, ifs, 0⟩] scope pos) (some (.Name x p)) spos.line X.env = pure true := by rfl)
  (hs : ∀ x, foldedSetIterable iter X.env x = pure x := by intro _; rfl) (hf : X.fn x = true ∨ X.env.scope.names.lookup x = some .local := by first | exact .inl rfl | exact .inr rfl | assumption) :
  DS M X (.Assign [.Name x p] (.ListComp elt [⟨tg, iter, ifs, 0⟩] scope pos) spos) (aJ i fe) := fun hK hM =>
 psI (vT (wi := tI M X.N.length it) (g := tG M (own.length + outs.length) is gg) (tc := tT M (own.length + outs.length) ta) (te := tD M (own.length + outs.length) el) own hN hix hx B hcalm (hi hK hM)
  (fun s H C ex pins => by have q := hg s H C ex pins hK hM; rw [iW] at q; exact q) (fun s H C ex pins => by have q := hc s H C ex pins hK hM; rw [iW] at q; exact q) (fun s H C ex pins => by have q := he s H C ex pins hK hM; rw [iW] at q; exact q) hsw hs hf) fun D σ H q => by
  have q' := r_ (pU hix) q;exact nX hk (w _ _ _ q')
end
end L3
namespace L3
open PySem L2 PySem.Spec PyProof.Rows
theorem g7 : ∀ {us : List Value} {ns : List Int}, IntsAre us ns → Vals (ns.map V.int) us
 | _, _, .nil => .nil
 | _, _, .cons n t r => .cons ⟨t, rfl⟩ (g7 r)
section
variable {X : Cx} {M : Mx}
end
end L3
namespace L3
open PySem L2 PySem.Spec PyProof.Rows
noncomputable def FD (i : Nat) (g : Fg) (d : Nat) (k a : Fe) : Fs := fun ρ => match ρ[i]? with
 | some (some (.ol xs)) => match shs xs with
  | some ds => bE g (sDP d k a) (fT ds) ρ
  | none => .bad
 | _ => .bad
section
variable {M : Mx} {n : Nat} {σ : L2.St} {H : Hp} {D : Ends} {Q Q' : VK}
end
noncomputable def yQ : PyData → Bool
 | .tuple ds => ds.all flat
 | d => flat d
noncomputable def x3 : OD → Bool
 | .sh _ => true
 | _ => false
noncomputable def tK : OD → Bool
 | .ol ys => ys.all x3
 | _ => false
noncomputable def nZ : OD → Bool
 | .ol ys => ys.all x3
 | .ot (x :: xs) => tK x && xs.all tK
 | _ => false
noncomputable def wN : OD → Bool
 | .sh d => yQ d
 | _ => false
noncomputable def DL : OD → Bool
 | .ol ys => ys.all wN
 | _ => false
noncomputable def xK : OD → Bool
 | .ot ys => ys.all DL
 | .ol ys => ys.all wN
 | _ => false
noncomputable def lA (i : Nat) (fa : Fe) : Fe := fun ρ => match ρ[i]? with
 | some (some x) => if nZ x = true then (fa (ρ.set i (some (.sh x.er)))).bind fun y => if xK y = true then .ok y else .bad else .bad
 | _ => .bad
noncomputable def LT (F : Hp) (b : Addr) : Prop := (∃ ws, F b = some (.lst ws)) ∨ ∃ r ws, F b = some (.tup (.ref r :: ws))
open Classical in
noncomputable def my (F : Hp) (f : List Addr) : Hp := fun b => if b ∈ f then none else F b
theorem nP {F : Hp} {f : List Addr} {b : Addr} (h : b ∈ f) : my F f b = none := by unfold my; rw [if_pos h]
theorem g8 {F : Hp} {f : List Addr} {b : Addr} (h : b ∉ f) : my F f b = F b := by unfold my; rw [if_neg h]
section
variable {K : PySem.W.Frag} {F H : Hp} {f : List Addr}
theorem nv : ∀ {vs : List V} {xs : List OD} {g : List Addr}, OwnL K F H vs xs g → xs.all x3 = true → g = []
 | _, _, _, .nil, _ => rfl
 | _, _, _, .cons h r, e => by
  rw [List.all_cons, Bool.and_eq_true] at e;have := nv r e.2;subst this;cases h with
  | sh _ => rfl
  | ol _ _ => cases e.1
  | ot _ _ => cases e.1
  | od _ _ _ => cases e.1
theorem nL {v : V} {x : OD} {g : List Addr} (h : Own K F H v x g) (e : tK x = true) : (∃ r, v = .ref r) ∧ ∀ b ∈ g, ∃ ws, H b = some (.lst ws) := by
 cases h with
 | sh _ => cases e
 | ot _ _ => cases e
 | od _ _ _ => cases e
 | @ol a vs xs f' ha hv =>
  have := nv hv e;subst this;exact ⟨⟨_, rfl⟩, fun b m => by
   have : b = a := by simpa using m
   rw [this];exact ⟨_, ha⟩⟩
theorem qf : ∀ {vs : List V} {xs : List OD} {g : List Addr}, OwnL K F H vs xs g → xs.all tK = true → ∀ b ∈ g, ∃ ws, H b = some (.lst ws)
 | _, _, _, .nil, _, b, m => by cases m
 | _, _, _, .cons h r, e, b, m => by
  rw [List.all_cons, Bool.and_eq_true] at e;rcases List.mem_append.mp m with m | m
  ·exact (nL h e.1).2 b m
  ·exact qf r e.2 b m
theorem xZ {v : V} {x : OD} {g : List Addr} (h : Own K F H v x g) (e : nZ x = true) : ∀ b ∈ g, LT H b := by
 cases h with
 | sh _ => cases e
 | od _ _ _ => cases e
 | @ol a vs xs f' ha hv =>
  have := nv hv e;subst this;intro b m;have : b = a := by simpa using m
  rw [this];exact .inl ⟨_, ha⟩
 | @ot a vs xs f' ha hv =>
  intro b m
  match xs, hv, e with
  | x :: xs, hv, e =>
   have e' : (tK x && xs.all tK) = true := e;rw [Bool.and_eq_true] at e';cases hv with
   | @cons v vs _ _ f g h r =>
    rcases List.mem_cons.mp m with m | m
    ·rw [m]
     obtain ⟨⟨r, rfl⟩, _⟩ := nL h e'.1;exact .inr ⟨_, _, ha⟩
    ·rcases List.mem_append.mp m with m | m
     ·exact .inl ((nL h e'.1).2 b m)
     ·exact .inl (qf r e'.2 b m)
theorem pE {F2 : Hp} : ∀ {vs : List V} {ds : List PyData}, RepAll K F vs ds → ds.all flat = true → RepAll K F2 vs ds
 | _, _, .nil, _ => .nil
 | _, _, .cons h r, e => by
  rw [List.all_cons, Bool.and_eq_true] at e;exact .cons (lC e.1 h) (pE r e.2)
theorem xv {v : V} {d : PyData} (hl : ∀ b ∈ f, LT F b) (h : Rep K F v d) (e : yQ d = true) : Rep K (my F f) v d := by
 cases h with
 | non => exact .non
 | bl b => exact .bl b
 | int i => exact .int i
 | str x => exact .str x
 | lst _ _ => cases e
 | dct _ _ _ => cases e
 | @tup a xs ds h1 h2 =>
  have ne : a ∉ f := by
   intro m;rcases hl a m with ⟨ws, q⟩ | ⟨r, ws, q⟩
   ·rw [h1] at q
    cases q
   ·rw [h1] at q
    cases q;cases h2 with
    | @cons _ _ d ds h3 h4 =>
     have e' : (d :: ds).all flat = true := e;rw [List.all_cons, Bool.and_eq_true] at e';cases h3 with
     | lst _ _ => cases e'.1
     | tup _ _ => cases e'.1
     | dct _ _ _ => cases e'.1
  refine .tup ?_ (pE h2 e);rw [g8 ne];exact h1
theorem lM (hl : ∀ b ∈ f, LT F b) : ∀ {vs : List V} {xs : List OD} {g : List Addr}, OwnL K F H vs xs g → xs.all wN = true → OwnL K (my F f) H vs xs g
 | _, _, _, .nil, _ => .nil
 | _, _, _, .cons h r, e => by
  rw [List.all_cons, Bool.and_eq_true] at e;refine .cons ?_ (lM hl r e.2);cases h with
  | sh q => exact .sh (xv hl q e.1)
  | ol _ _ => cases e.1
  | ot _ _ => cases e.1
  | od _ _ _ => cases e.1
theorem oJ (hl : ∀ b ∈ f, LT F b) : ∀ {vs : List V} {xs : List OD} {g : List Addr}, OwnL K F H vs xs g → xs.all DL = true → OwnL K (my F f) H vs xs g
 | _, _, _, .nil, _ => .nil
 | _, _, _, .cons h r, e => by
  rw [List.all_cons, Bool.and_eq_true] at e;refine .cons ?_ (oJ hl r e.2);cases h with
  | sh q => cases e.1
  | ol ha hv => exact .ol ha (lM hl hv e.1)
  | ot _ _ => cases e.1
  | od _ _ _ => cases e.1
theorem ue {v : V} {x : OD} {g : List Addr} (hl : ∀ b ∈ f, LT F b) (h : Own K F H v x g) (e : xK x = true) : Own K (my F f) H v x g := by
 cases h with
 | sh q => cases e
 | ol ha hv => exact .ol ha (lM hl hv e)
 | ot ha hv => exact .ot ha (oJ hl hv e)
 | od _ _ _ => cases e
end
section
variable {M : Mx} {n : Nat} {σ : L2.St} {H : Hp} {Q : VK}
theorem Bv {fa : Fe} {i : Nat} (h : tD M n (lA i fa) σ H Q) : tD M n fa σ H Q := by
 obtain ⟨F, ρ, fp, S, p⟩ := h;unfold lA at p;split at p
 ·rename_i x e
  split at p
  ·rename_i hlo
   obtain ⟨v, f, g1, g2, h1, h2, rfl, h4⟩ := S.own.at e;have ff : ∀ a ∈ f, F a = none := fun a m => S.fr a (List.mem_append_right _ (List.mem_append_left _ m))
   have o := h4 (iC F H f) H (dX ff) (fun _ _ _ q => q) v (.sh x.er) [] (.sh (h2.frz (dX ff) fun a m o q => by rw [gJ m]; exact q))
   have hs : σ.set i (some v) = σ := by
    apply List.ext_getElem?
    intro j;by_cases hj : i = j
    ·subst hj
     rw [h1, List.getElem?_set_self (List.getElem?_eq_some_iff.mp h1).1]
    ·rw [List.getElem?_set_ne hj]
   rw [hs] at o;have nd := S.nd;simp only [List.nodup_append, List.mem_append] at nd;obtain ⟨n1, ⟨n2, n3, n4⟩, n5⟩ := nd;have sub : ∀ a ∈ g1 ++ ([] ++ g2), a ∈ g1 ++ (f ++ g2) ∧ a ∉ f := fun a m => by
    simp only [List.nil_append, List.mem_append] at m ⊢;rcases m with m | m
    ·exact ⟨.inl m, fun z => n5 a m a (.inl z) rfl⟩
    ·exact ⟨.inr (.inr m), fun z => n4 a z a m rfl⟩
   have hLT := xZ h2 hlo;have S1 : Stt M.K n (iC F H f) H σ (ρ.set i (some (.sh x.er))) (g1 ++ ([] ++ g2)) :=
    ⟨lq S.same, o, by
     simp only [List.nil_append, List.nodup_append];exact ⟨n1, n3, fun a m b m' => n5 a m b (.inr m')⟩, fun a m => by
     rw [ee (sub a m).2];exact S.fr a (sub a m).1, by rw [List.length_set]; exact S.len⟩
   have st : Stp F H (g1 ++ (f ++ g2)) (iC F H f) H (g1 ++ ([] ++ g2)) := ⟨dX ff, fun _ _ h _ => h, fun a m => .inl (sub a m).1, fun a h m z => by
    rw [ee fun w => m (List.mem_append_right _ (List.mem_append_left _ w))]
    exact z⟩
   refine ⟨_, _, _, S1, ((aA.bind p).stp st).mono fun y py v1 F1 H1 fx e1 r1 w1 => ?_⟩
   split at py
   ·rename_i hok
    obtain ⟨ro, rn, rf⟩ := r1;have hL1 : ∀ b ∈ f, LT F1 b := fun b m => by
     rcases hLT b m with ⟨ws, q⟩ | ⟨r, ws, q⟩
     ·exact .inl ⟨ws, e1.ff _ _ (by rw [gJ m]; exact q)⟩
     ·exact .inr ⟨r, ws, e1.ff _ _ (by rw [gJ m]; exact q)⟩
    refine py v1 (my F1 f) H1 fx ⟨fun b o hb => ?_, e1.hh, fun b o hb => ?_, fun b hb hn => ?_⟩ ⟨ue hL1 ro hok, rn, fun b m => ?_⟩ w1
    ·have : b ∉ f := fun m => by
      rw [ff b m] at hb;cases hb
     rw [g8 this];exact e1.ff _ _ (dX ff _ _ hb)
    ·by_cases m : b ∈ f
     ·rw [nP m] at hb
      cases hb
     ·rw [g8 m] at hb
      exact e1.fh _ _ hb
    ·by_cases m : b ∈ f
     ·exact nP m
     ·rw [g8 m]
      exact e1.nw b hb (by rw [ee m]; exact hn)
    ·by_cases m' : b ∈ f
     ·exact nP m'
     ·rw [g8 m']
      exact rf b m
   ·exact py.elim
  ·exact p.elim
 ·exact p.elim
end
section
variable {M : Mx} {X : Cx} {e : Expr} {fa fb : Fe}
theorem zQ (i : Nat) (fa : Fe) (ρ : Env) {x y : OD} (h : ρ[i]? = some (some x)) (hx : nZ x = true) (h2 : fa (ρ.set i (some (.sh x.er))) = .ok y) (h3 : xK y = true) : lA i fa ρ = .ok y := by
 unfold lA;rw [h];show (if nZ x = true then (fa (ρ.set i (some (.sh x.er)))).bind _ else .bad) = _
 rw [if_pos hx, h2];show (if xK y = true then R.ok y else .bad) = _
 rw [if_pos h3]
theorem yo (i : Nat) (h : DE M X e fa) : DE M X e (lA i fa) := fun hK hM => peI (h hK hM) fun _ _ _ q => Bv q
end
theorem ex1 {α : Type} {us : List α} (h : us.length = 1) : ∃ a, us = [a] := by
 cases us with
 | nil => cases h
 | cons a r =>
  cases r with
  | nil => exact ⟨a, rfl⟩
  | cons b r => cases h
theorem ex2 {α : Type} {us : List α} (h : us.length = 2) : ∃ a b, us = [a, b] := by
 cases us with
 | nil => cases h
 | cons a r =>
  obtain ⟨b, e⟩ := ex1 (Nat.succ.inj h);exact ⟨a, b, by rw [e]⟩
theorem ex3 {α : Type} {us : List α} (h : us.length = 3) : ∃ a b c, us = [a, b, c] := by
 cases us with
 | nil => cases h
 | cons a r =>
  obtain ⟨b, c, e⟩ := ex2 (Nat.succ.inj h);exact ⟨a, b, c, by rw [e]⟩
end L3
namespace L3
open PySem L2 PySem.Spec PyProof.Rows
section
variable {M : Mx} {n : Nat} {σ : L2.St} {H : Hp} {Q : VK}
end
section
variable {X : Cx} {M : Mx}
end
end L3
namespace L3
open PySem L2 PySem.Spec PyProof.Rows
end L3
namespace L3
open PySem L2 PySem.Spec PyProof.Rows PySem.W PySem.Calls
end L3
namespace L2
open PySem PySem.Spec PyProof.Rows
noncomputable def yE (n0 n : Nat) : List Value := (List.range n).map fun j => Value.ref (n0 + j)
structure ZS (h : Heap) (n0 n : Nat) (ls : Nat → Nat) (is : Nat → Nat) (f0 : Value) (arr : List Value) : Prop where
 zp : h.get? (n0 + n + 2) = some { cls := .type "zip", dict := none, data := .fields #[f0, .bool false, .bool false, .ref (n0 + n), .ref (n0 + n + 1)], slots := #[] }
 ti : h.get? (n0 + n) = some { cls := .type "tuple", data := .seq (yE n0 n).toArray }
 to : h.get? (n0 + n + 1) = some { cls := .type "tuple", data := .seq arr.toArray }
 it : ∀ j, j < n → h.IsListIter (n0 + j) (ls j) (is j)
section
variable {prog : Program} {w : World} {A : Around} {E : Value → Shared → Prop} {s : Shared}
end
end L2
namespace L2
open PySem PySem.Spec PyProof.Rows
end L2
namespace L3
open PySem L2 PySem.Spec PyProof.Rows
section
variable {M : Mx} {n : Nat} {F H : Hp} {σ : St} {D : Ends} {R' : It → Hp → Prop} {X : Cx}
end
section
variable {M : Mx} {n : Nat} {F H : Hp} {σ : St} {D : Ends} {R' : It → Hp → Prop} {X : Cx}
end
end L3
namespace L2
open PySem PySem.Spec PyProof.Rows
end L2
namespace L3
open PySem L2 PySem.Spec PyProof.Rows
section
variable {M : Mx} {n : Nat} {F H : Hp} {σ : St} {D : Ends} {X : Cx} {b e : Expr} {fa fb : Fe} {x : Str} {p pos : Pos}
end
end L3
namespace L2
open PySem PySem.Spec PyProof.Rows
section
variable {prog : Program} {w : World} {A : Around} {E : Value → Shared → Prop} {s : Shared}
end
structure ZT (h : Heap) (n0 n : Nat) (ls : Nat → Nat) (is : Nat → Nat) (f0 : Value) (arr : List Value) : Prop where
 zp : h.get? (n0 + n + 2) = some { cls := .type "zip", dict := none, data := .fields #[f0, .bool false, .bool false, .ref (n0 + n), .ref (n0 + n + 1)], slots := #[] }
 ti : h.get? (n0 + n) = some { cls := .type "tuple", data := .seq (yE n0 n).toArray }
 to : h.get? (n0 + n + 1) = some { cls := .type "tuple", data := .seq arr.toArray }
 it : ∀ j, j < n → h.IsTupleIter (n0 + j) (ls j) (is j)
section
variable {prog : Program} {w : World} {A : Around} {E : Value → Shared → Prop} {s : Shared}
end
end L2
namespace L2
open PySem PySem.Spec PyProof.Rows
end L2
namespace L3
open PySem L2 PySem.Spec PyProof.Rows
section
variable {M : Mx} {n : Nat} {F H : Hp} {σ : St} {D : Ends} {R' : It → Hp → Prop} {X : Cx} {a b : Expr} {fa fb : Fe} {pos : Pos}
end
end L3
namespace L3
open PySem L2 PySem.Spec PyProof.Rows
mutual
noncomputable def nol : PyData → Bool
 | .tuple ds => xD ds
 | .list _ => false
 | .dict _ => false
 | .none => true
 | .bool _ => true
 | .int _ => true
 | .str _ => true
noncomputable def xD : List PyData → Bool
 | [] => true
 | d :: ds => nol d && xD ds
end
section
variable {K : PySem.W.Frag} {F H : Hp} {f : List Addr}
mutual
theorem uA (hl : ∀ b ∈ f, ∃ ws, F b = some (.lst ws)) {v : V} {d : PyData} : Rep K F v d → nol d = true → Rep K (my F f) v d
 | .non, _ => .non
 | .bl b, _ => .bl b
 | .int i, _ => .int i
 | .str x, _ => .str x
 | .lst _ _, e => by rw [nol] at e; cases e
 | .dct _ _ _, e => by unfold dD at e; rw [nol] at e; cases e
 | .tup (a := a) h1 h2, e => by
  rw [nol] at e;refine .tup ?_ (ng hl h2 e);rw [g8 fun m => by
   obtain ⟨ws, q⟩ := hl a m;rw [h1] at q;cases q]
  exact h1
theorem ng (hl : ∀ b ∈ f, ∃ ws, F b = some (.lst ws)) {vs : List V} {ds : List PyData} : RepAll K F vs ds → xD ds = true → RepAll K (my F f) vs ds
 | .nil, _ => .nil
 | .cons h r, e => by
  rw [xD, Bool.and_eq_true] at e;exact .cons (uA hl h e.1) (ng hl r e.2)
end
end
section
variable {M : Mx} {n : Nat} {σ : L2.St} {H : Hp} {Q : VK}
end
section
variable {M : Mx} {X : Cx} {e : Expr} {fa fb : Fe}
end
end L3
namespace B
noncomputable def IsE (n : Nat) (d : Nat → Nat → Int) (e : Nat → Int) : Prop := e 0 = 0 ∧ ∀ k, 0 < k → k < n → (∀ j, j < k → e j + d j k ≤ e k) ∧ ∃ j, j < k ∧ e k = e j + d j k
noncomputable def IsL (n : Nat) (d : Nat → Nat → Int) (T : Int) (l : Nat → Int) : Prop := l (n - 1) = T ∧ ∀ k, k + 1 < n → (∀ j, k < j → j < n → l k ≤ l j - d k j) ∧ ∃ j, k < j ∧ j < n ∧ l k = l j - d k j
theorem oV {n : Nat} {d : Nat → Nat → Int} {e f : Nat → Int} (he : IsE n d e) (hf : IsE n d f) : ∀ k, k < n → e k = f k := by
 intro k
 induction k using Nat.strongRecOn with
 | ind k ih =>
  intro hk;by_cases h0 : k = 0
  ·subst h0
   rw [he.1, hf.1]
  ·obtain ⟨a1, j1, b1, c1⟩ := he.2 k (by lia) hk
   obtain ⟨a2, j2, b2, c2⟩ := hf.2 k (by lia) hk
   have := ih j1 b1 (by lia)
   have := ih j2 b2 (by lia)
   have := a1 j2 b2;have := a2 j1 b1;lia
theorem zG {n : Nat} {d : Nat → Nat → Int} {T : Int} {e l : Nat → Int} (he : IsE n d e) (hl : IsL n d T l) (hT : T = e (n - 1)) : ∀ m k, k + m + 1 = n → e k ≤ l k := by
 intro m
 induction m using Nat.strongRecOn with
 | ind m ih =>
  intro k hk;by_cases h0 : m = 0
  ·subst h0
   have : k = n - 1 := by lia
   rw [this, hl.1, hT];lia
  ·obtain ⟨a1, j1, b1, b2, c1⟩ := hl.2 k (by lia)
   have := ih (n - 1 - j1) (by lia) j1 (by lia)
   have := (he.2 j1 (by lia) b2).1 k b1
   lia
theorem pC {n : Nat} {d : Nat → Nat → Int} {T : Int} {e l : Nat → Int} (hn : 0 < n) (he : IsE n d e) (hl : IsL n d T l) (hT : T = e (n - 1)) : l 0 = 0 := by
 have le := zG he hl hT;have key : ∀ k, k < n → l k = e k → l 0 = e 0 := by
  intro k
  induction k using Nat.strongRecOn with
  | ind k ih =>
   intro hk hek;by_cases h0 : k = 0
   ·subst h0
    exact hek
   ·obtain ⟨a1, j1, b1, c1⟩ := he.2 k (by lia) hk
    have h1 := (hl.2 j1 (by lia)).1 k b1 hk
    have h2 := le (n - 1 - j1) j1 (by lia)
    exact ih j1 b1 (by lia) (by lia)
 have := key (n - 1) (by lia) (by rw [hl.1, hT])
 rw [this, he.1]
theorem zB {n : Nat} {d : Nat → Nat → Int} {T : Int} {l : Nat → Int} (hl : IsL n d T l) : IsE n (fun i j => d (n - 1 - j) (n - 1 - i)) (fun k => T - l (n - 1 - k)) := by
 refine ⟨?_, fun k h0 hk => ?_⟩
 ·show T - l (n - 1 - 0) = 0
  rw [Nat.sub_zero, hl.1];lia
 ·obtain ⟨a1, j1, b1, b2, c1⟩ := hl.2 (n - 1 - k) (by lia)
  refine ⟨fun j hj => ?_, n - 1 - j1, by lia, ?_⟩
  ·have := a1 (n - 1 - j) (by lia) (by lia)
   show T - l (n - 1 - j) + d (n - 1 - k) (n - 1 - j) ≤ T - l (n - 1 - k)
   lia
  ·show T - l (n - 1 - k) = T - l (n - 1 - (n - 1 - j1)) + d (n - 1 - k) (n - 1 - (n - 1 - j1))
   rw [show n - 1 - (n - 1 - j1) = j1 by lia]
   lia
theorem Fq {n : Nat} {d : Nat → Nat → Int} {e : Nat → Int} (hn : 0 < n) (he : IsE n d e) : IsL n (fun i j => d (n - 1 - j) (n - 1 - i)) (e (n - 1)) (fun k => e (n - 1) - e (n - 1 - k)) := by
 refine ⟨?_, fun k hk => ?_⟩
 ·show e (n - 1) - e (n - 1 - (n - 1)) = e (n - 1)
  rw [show n - 1 - (n - 1) = 0 by lia, he.1]
  lia
 ·obtain ⟨a1, j1, b1, c1⟩ := he.2 (n - 1 - k) (by lia) (by lia)
  refine ⟨fun j h1 h2 => ?_, n - 1 - j1, by lia, by lia, ?_⟩
  ·have := a1 (n - 1 - j) (by lia)
   show e (n - 1) - e (n - 1 - k) ≤ e (n - 1) - e (n - 1 - j) - d (n - 1 - j) (n - 1 - k)
   lia
  ·show e (n - 1) - e (n - 1 - k) = e (n - 1) - e (n - 1 - (n - 1 - j1)) - d (n - 1 - (n - 1 - j1)) (n - 1 - k)
   rw [show n - 1 - (n - 1 - j1) = j1 by lia]
   lia
theorem uX {n : Nat} {d : Nat → Nat → Int} {T : Int} {l f : Nat → Int} (hl : IsL n d T l) (hf : IsL n d T f) (k : Nat) (hk : k < n) : l k = f k := by
 have := oV (zB hl) (zB hf) (n - 1 - k) (by lia)
 have this : T - l (n - 1 - (n - 1 - k)) = T - f (n - 1 - (n - 1 - k)) := this;rw [show n - 1 - (n - 1 - k) = k by lia] at this
 lia
theorem yg {n : Nat} {d d' : Nat → Nat → Int} {e : Nat → Int} (h : ∀ i j, i < j → j < n → d i j = d' i j) (he : IsE n d e) : IsE n d' e :=
 ⟨he.1, fun k h0 hk => ⟨fun j hj => by rw [← h j k hj hk]; exact (he.2 k h0 hk).1 j hj, by
  obtain ⟨j, h1, h2⟩ := (he.2 k h0 hk).2;exact ⟨j, h1, by rw [← h j k h1 hk]; exact h2⟩⟩⟩
theorem xN {n : Nat} {d d' : Nat → Nat → Int} {T : Int} {e : Nat → Int} (h : ∀ i j, i < j → j < n → d i j = d' i j) (he : IsL n d T e) : IsL n d' T e :=
 ⟨he.1, fun k hk => ⟨fun j h1 h2 => by rw [← h k j h1 h2]; exact (he.2 k hk).1 j h1 h2, by
  obtain ⟨j, h1, h2, h3⟩ := (he.2 k hk).2;exact ⟨j, h1, h2, by rw [← h k j h1 h2]; exact h3⟩⟩⟩
end B
namespace B
inductive F where
 | nil
 | cons (k : Nat) (c r : F)
namespace F
noncomputable def pre : F → List Nat
 | nil => []
 | cons k c r => k :: (pre c ++ pre r)
noncomputable def roots : F → List Nat
 | nil => []
 | cons k _ r => k :: roots r
noncomputable def fN : F → List Nat
 | nil => []
 | cons k c r => fN r ++ (k :: fN c)
noncomputable def app : F → F → F
 | nil, g => g
 | cons k c r, g => cons k c (app r g)
noncomputable def mir : F → F
 | nil => nil
 | cons k c r => app (mir r) (cons k (mir c) nil)
noncomputable def map (h : Nat → Nat) : F → F
 | nil => nil
 | cons k c r => cons (h k) (map h c) (map h r)
noncomputable def Con (ch : Nat → List Nat) : F → Prop
 | nil => True
 | cons k c r => ch k = roots c ∧ Con ch c ∧ Con ch r
noncomputable def Eld (e : Nat → Int) : Int → F → Prop
 | _, nil => True
 | p, cons k c r => e k = p ∧ Eld e (k : Int) c ∧ Eld e p r
theorem pre_app : ∀ f g : F, pre (app f g) = pre f ++ pre g
 | nil, g => rfl
 | cons k c r, g => by rw [app, pre, pre, pre_app r g, List.cons_append, List.append_assoc]
theorem mC : ∀ f g : F, fN (app f g) = fN g ++ fN f
 | nil, g => by rw [app, fN, List.append_nil]
 | cons k c r, g => by rw [app, fN, fN, mC r g, List.append_assoc]
theorem je : ∀ f g : F, roots (app f g) = roots f ++ roots g
 | nil, g => rfl
 | cons k c r, g => by rw [app, roots, roots, je r g, List.cons_append]
theorem iU : ∀ f : F, pre (mir f) = fN f
 | nil => rfl
 | cons k c r => by rw [mir, pre_app, iU r, fN, pre, iU c, pre, List.append_nil]
theorem j0 {ch : Nat → List Nat} : ∀ f g : F, Con ch (app f g) ↔ Con ch f ∧ Con ch g
 | nil, g => by rw [app, Con]; simp
 | cons k c r, g => by rw [app, Con, Con, j0 r g]; simp only [and_assoc]
theorem lh {e : Nat → Int} {p : Int} : ∀ f g : F, Eld e p (app f g) ↔ Eld e p f ∧ Eld e p g
 | nil, g => by rw [app, Eld]; simp
 | cons k c r, g => by rw [app, Eld, Eld, lh r g]; simp only [and_assoc]
theorem nB {e : Nat → Int} : ∀ (p : Int) (f : F), Eld e p f → Eld e p (mir f)
 | _, nil, _ => trivial
 | p, cons k c r, h => by
  obtain ⟨h1, h2, h3⟩ := h;rw [mir, lh];exact ⟨nB p r h3, h1, nB _ c h2, trivial⟩
theorem jc (h : Nat → Nat) : ∀ f : F, pre (map h f) = (pre f).map h
 | nil => rfl
 | cons k c r => by rw [map, pre, jc h c, jc h r, pre, List.map_cons, List.map_append]
theorem snoc : ∀ f : F, f ≠ nil → ∃ g k c, f = app g (cons k c nil)
 | nil, h => absurd rfl h
 | cons k c nil, _ => ⟨nil, k, c, rfl⟩
 | cons k c (cons k' c' r'), _ => by
  obtain ⟨g, a, b, e⟩ := snoc (cons k' c' r') (fun z => nomatch z)
  exact ⟨cons k c g, a, b, by rw [app, e]⟩
theorem gX {e : Nat → Int} {q : Int} : ∀ (p : Int) (f : F), Eld e p f → q ≠ p → (∀ j ∈ pre f, (j : Int) ≠ q) → (pre f).filter (fun j => decide (e j = q)) = []
 | _, nil, _, _, _ => rfl
 | p, cons k c r, h, hp, hq => by
  obtain ⟨h1, h2, h3⟩ := h;rw [pre, List.filter_cons, if_neg (by rw [decide_eq_true_eq, h1]; exact fun z => hp z.symm), List.filter_append, gX _ c h2 (fun z => hq k (by rw [pre]; exact List.mem_cons_self) z.symm) (fun j hj => hq j (by rw [pre]; simp [hj])), gX p r h3 hp (fun j hj => hq j (by rw [pre]; simp [hj]))]
  rfl
theorem o7 {e : Nat → Int} : ∀ (p : Int) (f : F), Eld e p f → (∀ j ∈ pre f, (j : Int) ≠ p) → (pre f).filter (fun j => decide (e j = p)) = roots f
 | _, nil, _, _ => rfl
 | p, cons k c r, h, hq => by
  obtain ⟨h1, h2, h3⟩ := h;rw [pre, List.filter_cons, if_pos (by rw [decide_eq_true_eq, h1]), List.filter_append, gX _ c h2 (fun z => hq k (by rw [pre]; exact List.mem_cons_self) z.symm) (fun j hj => hq j (by rw [pre]; simp [hj])), o7 p r h3 (fun j hj => hq j (by rw [pre]; simp [hj])), roots]
  rfl
theorem iV {ch ch' : Nat → List Nat} : ∀ f : F, (∀ q ∈ pre f, ch q = ch' q) → Con ch' f → Con ch f
 | nil, _, _ => trivial
 | cons k c r, h, hc => by
  obtain ⟨h1, h2, h3⟩ := hc;exact ⟨(h k (by rw [pre]; exact List.mem_cons_self)).trans h1, iV c (fun q m => h q (by rw [pre]; simp [m])) h2, iV r (fun q m => h q (by rw [pre]; simp [m])) h3⟩
theorem nz {e : Nat → Int} : ∀ (p : Int) (f : F), Eld e p f → (pre f).Nodup → (∀ j ∈ pre f, (j : Int) ≠ p) → Con (fun q => (pre f).filter (fun j => decide (e j = (q : Int)))) f
 | _, nil, _, _, _ => trivial
 | p, cons k c r, h, nd, hp => by
  obtain ⟨h1, h2, h3⟩ := h;rw [pre, List.nodup_cons, List.nodup_append] at nd;obtain ⟨nk, n1, n2, n3⟩ := nd;have hpk : (k : Int) ≠ p := hp k (by rw [pre]; exact List.mem_cons_self)
  have kc : ∀ j ∈ pre c, (j : Int) ≠ (k : Int) := fun j m z => nk (by
   have : j = k := by lia
   rw [← this];simp [m])
  have kr : ∀ j ∈ pre r, (j : Int) ≠ (k : Int) := fun j m z => nk (by
   have : j = k := by lia
   rw [← this];simp [m])
  have pc : ∀ j ∈ pre c, (j : Int) ≠ p := fun j m => hp j (by rw [pre]; simp [m])
  have pr : ∀ j ∈ pre r, (j : Int) ≠ p := fun j m => hp j (by rw [pre]; simp [m])
  have split : ∀ q : Nat, (q : Int) ≠ p → (pre (cons k c r)).filter (fun j => decide (e j = (q : Int))) = (pre c).filter (fun j => decide (e j = (q : Int))) ++ (pre r).filter (fun j => decide (e j = (q : Int))) := fun q hq => by
   rw [pre, List.filter_cons, if_neg (by rw [decide_eq_true_eq, h1]; exact fun z => hq z.symm), List.filter_append]
  refine ⟨?_, iV c (fun q m => ?_) (nz _ c h2 n1 kc), iV r (fun q m => ?_) (nz p r h3 n2 pr)⟩
  ·show (pre (cons k c r)).filter (fun j => decide (e j = (k : Int))) = roots c
   rw [split k hpk, o7 _ c h2 kc, gX p r h3 hpk kr, List.append_nil]
  ·show (pre (cons k c r)).filter (fun j => decide (e j = (q : Int))) = (pre c).filter (fun j => decide (e j = (q : Int)))
   rw [split q (pc q m), gX p r h3 (pc q m) (fun j mj z => n3 q m j mj (by lia)), List.append_nil]
  ·show (pre (cons k c r)).filter (fun j => decide (e j = (q : Int))) = (pre r).filter (fun j => decide (e j = (q : Int)))
   rw [split q (pr q m), gX _ c h2 (fun z => kr q m z) (fun j mj z => n3 j mj q m (by lia)), List.nil_append]
end F
end B
namespace B
namespace F
theorem fw : ∀ f : F, (fN f).Perm (pre f)
 | nil => List.Perm.refl _
 | cons k c r => by
  rw [fN, pre];have h1 := fw c;have h2 := fw r;have : (fN r ++ k :: fN c).Perm (k :: (fN r ++ fN c)) := List.perm_middle;refine this.trans (List.Perm.cons k ?_);exact (h2.append h1).trans List.perm_append_comm
structure Pf (n : Nat) (e : Nat → Int) (c : F) : Prop where
 pre : 0 :: pre c = List.range n
 root : e 0 = -1
 eld : Eld e 0 c
variable {n : Nat} {e : Nat → Int} {c : F}
noncomputable def full (c : F) : F := cons 0 c nil
theorem Pf.pos (h : Pf n e c) : 0 < n := by
 have := congrArg List.length h.pre;rw [List.length_cons, List.length_range] at this;lia
theorem Pf.preF (h : Pf n e c) : F.pre (full c) = List.range n := by
 unfold full;rw [F.pre, F.pre, List.append_nil];exact h.pre
theorem Pf.eldF (h : Pf n e c) : Eld e (-1) (full c) := ⟨h.root, h.eld, trivial⟩
theorem Pf.con (h : Pf n e c) : Con (fun q => (List.range n).filter (fun j => decide (e j = (q : Int)))) (full c) := by
 have := nz (-1) (full c) h.eldF (by rw [h.preF]; exact List.nodup_range) (fun j _ => by lia)
 rw [h.preF] at this;exact this
noncomputable def R (c : F) : List Nat := fN (full c)
theorem AA (c : F) : R c = 0 :: fN c := by
 unfold R full;rw [fN, fN, List.nil_append]
theorem Pf.perm (h : Pf n e c) : (R c).Perm (List.range n) := by
 have := fw (full c);rw [h.preF] at this;exact this
theorem Pf.nodup (h : Pf n e c) : (R c).Nodup := h.perm.nodup_iff.mpr List.nodup_range
theorem Pf.mem (h : Pf n e c) {k : Nat} : k ∈ R c ↔ k < n := by rw [h.perm.mem_iff, List.mem_range]
theorem Pf.len (h : Pf n e c) : (R c).length = n := by rw [h.perm.length_eq, List.length_range]
noncomputable def g (c : F) (k : Nat) : Nat := (R c).idxOf k
theorem Pf.g_lt (h : Pf n e c) {k : Nat} (hk : k < n) : g c k < n := by
 unfold g;rw [← h.len];exact List.idxOf_lt_length_of_mem (h.mem.mpr hk)
theorem Pf.at_g (h : Pf n e c) {k : Nat} (hk : k < n) : (R c)[g c k]? = some k := by
 unfold g;rw [List.getElem?_eq_getElem (List.idxOf_lt_length_of_mem (h.mem.mpr hk)), List.getElem_idxOf]
theorem Pf.g_at (h : Pf n e c) {i k : Nat} (hk : (R c)[i]? = some k) : g c k = i := by
 unfold g;obtain ⟨h1, h2⟩ := List.getElem?_eq_some_iff.mp hk;rw [← h2];exact h.nodup.idxOf_getElem i h1
theorem oe (c : F) : g c 0 = 0 := by
 unfold g;rw [AA, List.idxOf_cons_self]
noncomputable def e1 (e : Nat → Int) (c : F) (i : Nat) : Int := match (R c)[i]? with
 | some k => if e k < 0 then -1 else (g c (e k).toNat : Int)
 | none => -1
noncomputable def gi (c : F) (p : Int) : Int := if p < 0 then -1 else (g c p.toNat : Int)
theorem Pf.e1_g (h : Pf n e c) {k : Nat} (hk : k < n) : e1 e c (g c k) = gi c (e k) := by
 unfold e1 gi;rw [h.at_g hk]
theorem nV {e e' : Nat → Int} {h : Nat → Nat} {hi : Int → Int} (hh : ∀ k : Nat, hi (k : Int) = (h k : Int)) : ∀ (p : Int) (f : F), (∀ k ∈ F.pre f, e' (h k) = hi (e k)) → Eld e p f → Eld e' (hi p) (map h f)
 | _, nil, _, _ => trivial
 | p, cons k c r, hp, he => by
  obtain ⟨h1, h2, h3⟩ := he;refine ⟨?_, ?_, nV hh p r (fun j m => hp j (by rw [F.pre]; simp [m])) h3⟩
  ·rw [hp k (by rw [F.pre]; exact List.mem_cons_self), h1]
  ·have := nV hh (k : Int) c (fun j m => hp j (by rw [F.pre]; simp [m])) h2
   rw [hh] at this;exact this
noncomputable def c1 (c : F) : F := map (g c) (mir c)
theorem rX (c : F) : full (c1 c) = map (g c) (mir (full c)) := by
 unfold full c1;rw [mir, mir, app, map, map, oe]
theorem Pf.range_g (h : Pf n e c) : (R c).map (g c) = List.range n := by
 apply List.ext_getElem?
 intro i;rw [List.getElem?_map];by_cases hi : i < n
 ·obtain ⟨k, hk⟩ : ∃ k, (R c)[i]? = some k := ⟨(R c)[i]'(by rw [h.len]; exact hi), by simp⟩
  rw [hk, Option.map_some, h.g_at hk, List.getElem?_range hi]
 ·rw [List.getElem?_eq_none (by rw [h.len]; lia), List.getElem?_eq_none (by rw [List.length_range]; lia)]
  rfl
theorem Pf.mirrored (h : Pf n e c) : Pf n (e1 e c) (c1 c) := by
 have hp : F.pre (full (c1 c)) = List.range n := by
  rw [rX, jc, iU];exact h.range_g
 refine ⟨?_, ?_, ?_⟩
 ·unfold full at hp
  rw [F.pre, F.pre, List.append_nil] at hp;exact hp
 ·have := h.e1_g h.pos
  rw [oe, h.root] at this;exact this
 ·have he : Eld (e1 e c) (gi c 0) (map (g c) (mir c)) := nV (e := e) (h := g c) (fun k => by unfold gi; rw [if_neg (by lia)]; rfl) 0 (mir c) (fun k hk => by
   refine h.e1_g ?_;rw [iU, (fw c).mem_iff] at hk;have : k ∈ (0 :: F.pre c) := List.mem_cons_of_mem _ hk;rw [h.pre, List.mem_range] at this;exact this) (nB 0 c h.eld)
  have z : gi c 0 = 0 := by
   unfold gi;rw [if_neg (by lia)]
   show ((g c 0 : Nat) : Int) = 0
   rw [oe];rfl
  rw [z] at he;exact he
theorem kW {e : Nat → Int} : ∀ (p : Int) (f : F), Eld e p f → ∀ k ∈ F.pre f, e k = p ∨ ∃ j : Nat, j ∈ F.pre f ∧ e k = (j : Int)
 | _, nil, _, _, m => by cases m
 | p, cons a c r, h, k, m => by
  obtain ⟨h1, h2, h3⟩ := h;rw [F.pre] at m;rcases List.mem_cons.mp m with rfl | m
  ·exact .inl h1
  ·rcases List.mem_append.mp m with m | m
   ·rcases kW _ c h2 k m with z | ⟨j, j1, j2⟩
    ·exact .inr ⟨a, by rw [F.pre]; exact List.mem_cons_self, z⟩
    ·exact .inr ⟨j, by rw [F.pre]; simp [j1], j2⟩
   ·rcases kW p r h3 k m with z | ⟨j, j1, j2⟩
    ·exact .inl z
    ·exact .inr ⟨j, by rw [F.pre]; simp [j1], j2⟩
theorem Pf.elder (h : Pf n e c) {k : Nat} (hk : k < n) : e k = -1 ∨ ∃ j : Nat, j < n ∧ e k = (j : Int) := by
 have := kW (-1) (full c) h.eldF k (by rw [h.preF, List.mem_range]; exact hk)
 rcases this with z | ⟨j, j1, j2⟩
 ·exact .inl z
 ·rw [h.preF, List.mem_range] at j1
  exact .inr ⟨j, j1, j2⟩
end F
end B
namespace B
namespace F
noncomputable def path : F → List Nat
 | nil => []
 | cons k c nil => k :: path c
 | cons _ _ (cons k c r) => path (cons k c r)
noncomputable def iw : F → Nat → Nat → F
 | f, 0, x => app f (cons x nil nil)
 | nil, _ + 1, _ => nil
 | cons k c nil, d + 1, x => cons k (iw c d x) nil
 | cons k c (cons k' c' r'), d + 1, x => cons k c (iw (cons k' c' r') (d + 1) x)
theorem m7 : ∀ (f : F) (x : Nat), path (app f (cons x nil nil)) = [x]
 | nil, x => rfl
 | cons k c nil, x => rfl
 | cons k c (cons k' c' r'), x => by
  have := m7 (cons k' c' r') x;rw [app] at this ⊢;rw [app];rw [path];exact this
theorem g5 {e e' : Nat → Int} : ∀ (p : Int) (f : F), (∀ k ∈ F.pre f, e' k = e k) → Eld e p f → Eld e' p f
 | _, nil, _, _ => trivial
 | p, cons k c r, h, hc => by
  obtain ⟨h1, h2, h3⟩ := hc;exact ⟨(h k (by rw [F.pre]; exact List.mem_cons_self)).trans h1, g5 _ c (fun q m => h q (by rw [F.pre]; simp [m])) h2, g5 p r (fun q m => h q (by rw [F.pre]; simp [m])) h3⟩
theorem uh {k d x : Nat} {c r : F} : ∃ k' c' r', iw (cons k c r) (d + 1) x = cons k' c' r' := by
 cases r with
 | nil => exact ⟨_, _, _, by rw [iw]⟩
 | cons a b t => exact ⟨_, _, _, by rw [iw]⟩
theorem l8 {e : Nat → Int} {x : Nat} : ∀ (f : F) (d : Nat) (p : Int), d ≤ (path f).length → Eld e p f → e x = (if d = 0 then p else ((path f)[d - 1]?.getD 0 : Int)) →
  F.pre (iw f d x) = F.pre f ++ [x] ∧ path (iw f d x) = (path f).take d ++ [x] ∧ Eld e p (iw f d x)
 | f, 0, p, _, h, hx => by
  rw [iw, pre_app, m7, lh];exact ⟨rfl, rfl, h, by simpa using hx, trivial, trivial⟩
 | nil, d + 1, p, hd, _, _ => by
  rw [path] at hd;simp at hd
 | cons k c nil, d + 1, p, hd, h, hx => by
  obtain ⟨h1, h2, h3⟩ := h;rw [path, List.length_cons] at hd;have ih := l8 (e := e) (x := x) c d (k : Int) (by lia) h2 (by
   rw [hx, if_neg (by lia), path]
   by_cases d0 : d = 0
   ·subst d0
    rfl
   ·obtain ⟨m, rfl⟩ : ∃ m, d = m + 1 := ⟨d - 1, by lia⟩
    rw [if_neg (by lia)]
    rfl)
  rw [iw, F.pre, F.pre, ih.1, F.pre];refine ⟨by simp [F.pre], ?_, h1, ih.2.2, trivial⟩
  rw [path, path, ih.2.1, List.take_succ_cons, List.cons_append]
 | cons k c (cons k' c' r'), d + 1, p, hd, h, hx => by
  obtain ⟨h1, h2, h3⟩ := h;have hp : path (cons k c (cons k' c' r')) = path (cons k' c' r') := by rw [path]
  rw [hp] at hd hx;have ih := l8 (e := e) (x := x) (cons k' c' r') (d + 1) p hd h3 hx;obtain ⟨a, b, t, hq⟩ := uh (k := k') (d := d) (x := x) (c := c') (r := r');rw [iw, F.pre, ih.1, hp];refine ⟨?_, ?_, h1, h2, ih.2.2⟩
  ·show k :: (F.pre c ++ (F.pre (cons k' c' r') ++ [x])) = (k :: (F.pre c ++ F.pre (cons k' c' r'))) ++ [x]
   rw [List.cons_append, List.append_assoc]
  rw [hq] at ih ⊢;rw [path];exact ih.2.1
noncomputable def fE : F → F
 | nil => nil
 | cons _ nil nil => nil
 | cons k (cons a b t) nil => cons k (fE (cons a b t)) nil
 | cons k c (cons a b t) => cons k c (fE (cons a b t))
theorem jG {e : Nat → Int} : ∀ (f : F) (p : Int), f ≠ nil → Eld e p f → F.pre (fE f) = (F.pre f).dropLast ∧ Eld e p (fE f)
 | nil, _, h, _ => absurd rfl h
 | cons k nil nil, p, _, _ => ⟨rfl, trivial⟩
 | cons k (cons a b t) nil, p, _, h => by
  obtain ⟨h1, h2, h3⟩ := h;obtain ⟨i1, i2⟩ := jG (e := e) (cons a b t) (k : Int) (fun z => nomatch z) h2
  rw [fE];refine ⟨?_, h1, i2, trivial⟩;show k :: (F.pre (fE (cons a b t)) ++ []) = (k :: (F.pre (cons a b t) ++ [])).dropLast
  rw [i1, List.append_nil, List.append_nil, List.dropLast_cons_of_ne_nil (by rw [F.pre]; simp)]
 | cons k c (cons a b t), p, _, h => by
  obtain ⟨h1, h2, h3⟩ := h;obtain ⟨i1, i2⟩ := jG (e := e) (cons a b t) p (fun z => nomatch z) h3
  have e1 : fE (cons k c (cons a b t)) = cons k c (fE (cons a b t)) := by
   cases c <;> rw [fE]
  rw [e1];refine ⟨?_, h1, h2, i2⟩;rw [F.pre, i1];show _ = (k :: (F.pre c ++ F.pre (cons a b t))).dropLast
  have hne : F.pre c ++ F.pre (cons a b t) ≠ [] := by rw [F.pre]; simp
  rw [List.dropLast_cons_of_ne_nil hne, List.dropLast_append_of_ne_nil (by rw [F.pre]; simp)]
theorem l3 {e e' : Nat → Int} {h : Nat → Nat} {hi : Int → Int} : ∀ (p : Int) (f : F), (∀ k ∈ F.pre f, e' (h k) = hi (e k) ∧ hi (k : Int) = (h k : Int)) → Eld e p f → Eld e' (hi p) (map h f)
 | _, nil, _, _ => trivial
 | p, cons k c r, hp, he => by
  obtain ⟨h1, h2, h3⟩ := he;have hk := hp k (by rw [F.pre]; exact List.mem_cons_self)
  refine ⟨?_, ?_, l3 p r (fun j m => hp j (by rw [F.pre]; simp [m])) h3⟩
  ·rw [hk.1, h1]
  ·have := l3 (k : Int) c (fun j m => hp j (by rw [F.pre]; simp [m])) h2
   rw [hk.2] at this;exact this
theorem u9 {e : Nat → Int} : ∀ (f : F) (p : Int), Eld e p f → (∀ k ∈ F.pre f, p ≤ (k : Int)) → ∀ k ∈ F.pre f, p ≤ e k
 | nil, _, _, _, _, m => by cases m
 | cons a c r, p, h, hp, k, m => by
  obtain ⟨h1, h2, h3⟩ := h;rcases kW p (cons a c r) ⟨h1, h2, h3⟩ k m with z | ⟨j, j1, j2⟩
  ·lia
  ·rw [j2]
   exact hp j j1
end F
end B
namespace B
open PySem L2 L3
noncomputable def fG : Fs := (e_ (vz (tY "int" (ae 0)) (wy (tY "bool" (ae 0)))))
noncomputable def eh : Fn := dE 1 1 fG
local macro_rules
 | `(tactic| push_cast only [$a,*] $[$l:location]?) => do
  let e ← ("v_var v_c ER EY BN AY Dm A1 v_and v_or v_not Fx vv k_ En DH AU v_b Fj v_bor zM By Cf Dr Ex yc xT FA Ap A9 EU Fb EV EM CN D7 Ez CG B1 A0 Ek E6 EX ES Dy Dd D9 BB De zI zP Cn C0 BL D5 Ei B7 Ck CU D3 EF Fz DP E1 Eb Bt Ba CP Ec wO yp BV A4 Bs zz DX BZ AQ El zr Bc Ao C9 Dh AZ E5 EE BG Dw zE zF Er wR Eo B2 CA Ct E0 E4 EZ DN Ax Ah Cg Dk Bk Co Cb Dg CT C7 Ca Ey Es Eg C_ EC Fh E_ EN EK Ff Fy BE DQ Ej Bj zt Ak AM vn Bh Cv AG CB BI at0 at1 at2 D8 AJ Bi A7 Bg Al Bu AV An Bb Aa zJ zH Ac Af zf BD E3 Fu Fc Fp Fw Fl cZ jL yR flat List.map_cons List.map_nil List.length_cons List.length_nil List.getElem?_cons_zero List.getElem?_cons_succ List.getElem?_nil List.set_cons_zero List.set_cons_succ List.cons_append List.nil_append List.append_nil List.replicate_succ List.replicate_zero Nat.reduceAdd Nat.reduceSub Nat.reduceLeDiff Nat.reduceLT Nat.reduceEqDiff Nat.zero_add Bool.not_true Bool.not_false if_true if_false Bool.false_eq_true reduceIte decide_true decide_false reduceCtorEq sH Av Int.reduceLT Int.reduceLE Int.reduceNeg Int.reducePow Int.reduceToNat Int.reduceMul Int.reduceAdd Int.reduceSub Nat.reducePow and_true true_and and_self List.length_map C5 EH v_sub CZ DU C3 EB Cj rE CI Cd Int.cast_ofNat_Int Int.reduceEq Int.reduceNe EA zA oo Dc DM CV Cq Eh".splitOn " ").toArray.mapM fun s => `(Lean.Parser.Tactic.simpLemma| $(Lean.mkIdent s.toName):ident)
  `(tactic| simp (maxSteps := 1000000) -implicitDefEqProofs only [$e,*, $a,*] $[$l]?)
theorem tU (z : Int) : eh [.int z] = .ok (.sh (.bool true)) := by
 unfold eh fG;push_cast only [and_self]
structure Nd where
 e : Int
 l : Str
 t : Int
noncomputable def kM (l : Str) : Prop := 1 ≤ l.length ∧ l.length ≤ 9 ∧ ∀ c ∈ l.cps.toList, 97 ≤ c ∧ c ≤ 122
noncomputable def Bp (n : Nd) : Prop := kM n.l ∧ 1 ≤ n.t ∧ n.t ≤ 9
noncomputable def ndD (n : Nd) : PyData := .tuple [.int n.e, .str n.l, .int n.t]
noncomputable def au (ts : List Nd) : List PyData := ts.map ndD
inductive Grown (deep : Nat) : List Nd → List Int → Prop
 | root {n : Nd} : Bp n → n.e = -1 → Grown deep [n] [0]
 | step {ns : List Nd} {way : List Int} {c : Nat} {n : Nd} : Grown deep ns way → 1 ≤ c → c ≤ way.length → c ≤ deep → Bp n → way[c - 1]? = some n.e → Grown deep (ns ++ [n]) (way.take c ++ [(ns.length : Int)])
theorem Grown.pos {deep : Nat} {ns : List Nd} {way : List Int} (g : Grown deep ns way) : 0 < ns.length ∧ 0 < way.length := by
 cases g with
 | root => simp
 | step => simp
theorem Grown.way_lt {deep : Nat} {ns : List Nd} {way : List Int} (g : Grown deep ns way) : ∀ x ∈ way, 0 ≤ x ∧ x < ns.length := by
 induction g with
 | root => simp
 | @step ns way c n g h1 h2 h3 h4 h5 ih =>
  intro x hx;rw [List.mem_append] at hx;rw [List.length_append];rcases hx with hx | hx
  ·have := ih x (List.mem_of_mem_take hx)
   simp
   lia
  ·have : x = ns.length := by simpa using hx
   simp
   lia
theorem Grown.ok {deep : Nat} {ns : List Nd} {way : List Int} (g : Grown deep ns way) : ∀ n ∈ ns, Bp n := by
 induction g with
 | root h => simpa using h
 | @step ns way c n g h1 h2 h3 h4 h5 ih =>
  intro x hx;rcases List.mem_append.mp hx with hx | hx
  ·exact ih x hx
  ·have : x = n := by simpa using hx
   rw [this];exact h4
theorem yf {k : Int} (h0 : 0 ≤ k) (h1 : k < 26) : ∃ c, atI (Str.ofString "abcdefghijklmnopqrstuvwxyz").cps.toList k = some c ∧ 97 ≤ c ∧ c ≤ 122 := by
 have e : (Str.ofString "abcdefghijklmnopqrstuvwxyz").cps.toList = List.range' 97 26 := by decide +kernel
 rw [e];obtain ⟨v, e1, e2⟩ := BU (List.range' 97 26) k h0 (by simpa using h1)
 refine ⟨v, e2, ?_⟩;have := List.mem_range'.mp (List.mem_of_getElem? e1);lia
theorem uC (k : Int) (h0 : 0 ≤ k) (h1 : k < 26) : ∃ c, atI (Str.ofString "abcdefghijklmnopqrstuvwxyz").cps.toList k = some c ∧ (97 ≤ c ∧ c ≤ 122) := yf h0 h1
theorem qQ (a b : Str) : (a ++ b).cps.toList = a.cps.toList ++ b.cps.toList := PyProof.Rows.cps_toList_append a b
theorem si (a : Str) : a.length = a.cps.toList.length := by simp [Str.length]
theorem vO (a : Str) (c : Nat) : (a ++ ⟨#[c]⟩ : Str).length = a.length + 1 := by
 rw [si, qQ, si, List.length_append];rfl
theorem mw (xs : List PyData) (k : Nat) : cutD xs none (some (k : Int)) = xs.take k := by
 unfold cutD;rw [HT.o_, HT.qZ, List.drop_zero, Nat.sub_zero];rcases Nat.le_total k xs.length with h | h
 ·rw [Nat.min_eq_left h]
 ·rw [Nat.min_eq_right h, List.take_of_length_le (Nat.le_refl _), List.take_of_length_le h]
theorem nj {way : List Int} {k : Nat} (h1 : 1 ≤ k) (h2 : k ≤ way.length) : ∃ e, way[k - 1]? = some e ∧ atI ((way.take k).map PyData.int) (-1) = some (.int e) := by
 have hk : k - 1 < way.length := by lia
 refine ⟨way[k - 1], by simp [hk], ?_⟩
 have h : way.take (k - 1 + 1) = way.take (k - 1) ++ [way[k - 1]] := by
  rw [List.take_add_one];simp [hk]
 rw [show k - 1 + 1 = k by lia] at h
 rw [h, List.map_append];exact o6 _ _
theorem aI (ts : List Nd) : (au ts).length = ts.length := by unfold au; rw [List.length_map]
theorem jA (ts : List Nd) (n : Nd) : au (ts ++ [n]) = au ts ++ [.tuple [.int n.e, .str n.l, .int n.t]] := by
 unfold au;rw [List.map_append];rfl
theorem A3 {l : Str} (h : kM l) : PyData.strOk l = true := by
 unfold PyData.strOk;rw [Array.all_eq_true'];intro c hc;have := h.2.2 c (by simpa using hc)
 simp
 lia
theorem BA {n : Nd} (h : kM n.l) : lay 1 (ndD n) := ko fun x hx => by
 simp only [List.mem_cons, List.not_mem_nil, or_false] at hx;rcases hx with rfl | rfl | rfl
 ·exact ij _
 ·exact xW (A3 h)
 ·exact ij _
theorem xw {ts : List Nd} (h : ∀ n ∈ ts, kM n.l) : lay 2 (.list (au ts)) := iQ fun x hx => by
 unfold au at hx;obtain ⟨n, hn, rfl⟩ := List.mem_map.mp hx;exact BA (h n hn)
theorem f6 {ts : List Nd} {k : Nat} {n : Nd} (h : ts[k]? = some n) : atI (au ts) (k : Int) = some (.tuple [.int n.e, .str n.l, .int n.t]) := eE (by unfold au; rw [List.getElem?_map, h]; rfl)
instance : Inhabited Nd := ⟨⟨0, "", 0⟩⟩
noncomputable def eOf (ts : List Nd) (k : Nat) : Int := (ts[k]?.map (·.e)).getD 0
noncomputable def PT (ts : List Nd) (c : F) : Prop := F.Pf ts.length (eOf ts) c
theorem bZ {ts : List Nd} {k : Nat} {n : Nd} (h : ts[k]? = some n) : eOf ts k = n.e := by unfold eOf; rw [h]; rfl
theorem lH {deep : Nat} {ns : List Nd} {way : List Int} (g : Grown deep ns way) : ∃ c, PT ns c ∧ way = (0 :: F.path c).map (fun k : Nat => (k : Int)) := by
 induction g with
 | @root n h1 h2 => exact ⟨F.nil, ⟨rfl, by rw [bZ (n := n) rfl]; exact h2, trivial⟩, rfl⟩
 | @step ns way k n g h1 h2 h3 h4 h5 ih =>
  obtain ⟨c, p, hw⟩ := ih;subst hw;rw [List.length_map, List.length_cons] at h2;have same : ∀ j, j < ns.length → eOf (ns ++ [n]) j = eOf ns j := fun j hj => by
   unfold eOf;rw [List.getElem?_append_left hj]
  have new : eOf (ns ++ [n]) ns.length = n.e := bZ (by simp)
  have inR : ∀ j ∈ F.pre c, j < ns.length := fun j m => by
   have : j ∈ 0 :: F.pre c := List.mem_cons_of_mem _ m;rw [p.pre, List.mem_range] at this;exact this
  have he : F.Eld (eOf (ns ++ [n])) 0 c := F.g5 0 c (fun j m => same j (inR j m)) p.eld
  obtain ⟨q1, q2, q3⟩ := F.l8 (x := ns.length) c (k - 1) 0 (by lia) he (by
   rw [new];rw [List.getElem?_map] at h5;by_cases k1 : k = 1
   ·subst k1
    have := Option.some.inj h5;rw [if_pos rfl];exact this.symm
   ·obtain ⟨m, rfl⟩ : ∃ m, k = m + 2 := ⟨k - 2, by lia⟩
    rw [if_neg (by lia)]
    have e : (0 :: F.path c)[m + 2 - 1]? = (F.path c)[m + 2 - 1 - 1]? := rfl;rw [e] at h5;obtain ⟨v, hv, hv2⟩ := Option.map_eq_some_iff.mp h5;rw [hv, ← hv2];rfl)
  refine ⟨F.iw c (k - 1) ns.length, ⟨?_, ?_, q3⟩, ?_⟩
  ·rw [q1, ← List.cons_append, p.pre, List.length_append, List.length_cons, List.length_nil, List.range_succ]
  ·rw [same 0 p.pos]
   exact p.root
  ·rw [q2]
   obtain ⟨m, rfl⟩ : ∃ m, k = m + 1 := ⟨k - 1, by lia⟩
   rw [List.map_cons, List.map_cons, List.take_succ_cons, List.map_append, Nat.add_sub_cancel, List.map_take];rfl
noncomputable def eW (ts : List Nd) (k : Nat) : Nd := ts[k]?.getD default
noncomputable def dP (ts : List Nd) (c : F) : List Nd := (F.R c).map fun k => ⟨F.gi c (eW ts k).e, (eW ts k).l, (eW ts k).t⟩
theorem nu {ts : List Nd} {k : Nat} (h : k < ts.length) : (eW ts k).e = eOf ts k := by
 unfold eW eOf;rw [List.getElem?_eq_getElem h];rfl
section
variable {ts : List Nd} {c : F}
theorem gZ (p : PT ts c) : (dP ts c).length = ts.length := by unfold dP; rw [List.length_map, p.len]
theorem wB (p : PT ts c) {i : Nat} (hi : i < ts.length) : eOf (dP ts c) i = F.e1 (eOf ts) c i := by
 obtain ⟨k, hk⟩ : ∃ k, (F.R c)[i]? = some k := ⟨(F.R c)[i]'(by rw [p.len]; exact hi), by simp⟩
 have hkn : k < ts.length := p.mem.mp (List.mem_of_getElem? hk);unfold eOf dP F.e1;rw [List.getElem?_map, hk];show F.gi c (eW ts k).e = _
 rw [nu hkn];rfl
theorem lE {n : Nat} {e e' : Nat → Int} {c : F} (h : ∀ k, k < n → e' k = e k) (p : F.Pf n e c) : F.Pf n e' c := by
 refine ⟨p.pre, by rw [h 0 p.pos]; exact p.root, F.g5 0 c (fun k m => h k ?_) p.eld⟩
 have : k ∈ 0 :: F.pre c := List.mem_cons_of_mem _ m;rw [p.pre, List.mem_range] at this;exact this
theorem jR (p : PT ts c) : PT (dP ts c) (F.c1 c) := by
 unfold PT;rw [gZ p];exact lE (fun k hk => wB p hk) p.mirrored
end
theorem w8 {ts us : List Nd} {c : F} (p : PT ts c) (hl : us.length = ts.length) (h : ∀ k, k < ts.length → eOf us k = eOf ts k) : PT us c := by
 unfold PT;rw [hl];exact lE h p
theorem Bm {ts : List Nd} {c : F} (p : PT ts c) (h : 1 < ts.length) : ∃ c', PT ts.dropLast c' := by
 have hc : c ≠ F.nil := by
  rintro rfl;have := congrArg List.length p.pre;rw [List.length_range] at this;simp [F.pre] at this
  lia
 obtain ⟨q1, q2⟩ := F.jG (e := eOf ts) c 0 hc p.eld;have hr : F.pre c ≠ [] := by
  cases c with
  | nil => exact absurd rfl hc
  | cons a b t => rw [F.pre]; simp
 have same : ∀ k, k < ts.dropLast.length → eOf ts.dropLast k = eOf ts k := fun k hk => by
  unfold eOf;rw [List.getElem?_dropLast, if_pos (by rw [List.length_dropLast] at hk; exact hk)]
 refine ⟨F.fE c, lE same ⟨?_, p.root, q2⟩⟩;rw [q1, ← List.dropLast_cons_of_ne_nil hr, p.pre, List.length_dropLast];obtain ⟨m, hm⟩ : ∃ m, ts.length = m + 1 := ⟨ts.length - 1, by lia⟩
 rw [hm, List.range_succ];simp
noncomputable def dN (s : Nat) (ts : List Nd) : List Nd := match ts with
 | [] => []
 | n :: r => ⟨0, n.l, n.t⟩ :: r.map fun m => ⟨m.e + s, m.l, m.t⟩
theorem rD {ts us : List Nd} {c d : F} (p : PT ts c) (q : PT us d) : PT (ts ++ dN ts.length us) (F.app c (F.map (· + ts.length) (F.full d))) := by
 obtain ⟨n, r, rfl⟩ : ∃ n r, us = n :: r := by
  cases us with
  | nil => exact absurd q.pos (by simp)
  | cons n r => exact ⟨n, r, rfl⟩
 have e1 : ∀ k, k < ts.length → eOf (ts ++ dN ts.length (n :: r)) k = eOf ts k := fun k hk => by
  unfold eOf;rw [List.getElem?_append_left hk]
 have e2 : ∀ k, k < (n :: r).length → eOf (ts ++ dN ts.length (n :: r)) (k + ts.length) = if k = 0 then 0 else eOf (n :: r) k + ts.length := fun k hk => by
  unfold eOf;rw [List.getElem?_append_right (by lia), Nat.add_sub_cancel]
  cases k with
  | zero => rfl
  | succ k =>
   rw [if_neg (by lia)]
   show ((r.map fun m => (⟨m.e + ts.length, m.l, m.t⟩ : Nd))[k]?.map (·.e)).getD 0 = (r[k]?.map (·.e)).getD 0 + ts.length
   rw [List.length_cons] at hk;rw [List.getElem?_map, List.getElem?_eq_getElem (show k < r.length by lia)]
   rfl
 have hl : (ts ++ dN ts.length (n :: r)).length = ts.length + (n :: r).length := by
  rw [List.length_append];unfold dN;rw [List.length_cons, List.length_map, List.length_cons]
 refine ⟨?_, by rw [e1 0 p.pos]; exact p.root, ?_⟩
 ·rw [F.pre_app, F.jc, q.preF, ← List.cons_append, p.pre, hl, List.range_add]
  congr 1
  exact List.map_congr_left fun k _ => Nat.add_comm _ _
 ·rw [F.lh]
  refine ⟨F.g5 0 c (fun k m => e1 k ?_) p.eld, ?_, ?_, trivial⟩
  ·have : k ∈ 0 :: F.pre c := List.mem_cons_of_mem _ m
   rw [p.pre, List.mem_range] at this;exact this
  ·have := e2 0 (by simp)
   exact this
  ·have := F.l3 (e := eOf (n :: r)) (e' := eOf (ts ++ dN ts.length (n :: r))) (h := (· + ts.length)) (hi := fun z => z + ts.length) 0 d (fun k m => by
    have hk : k ∈ 0 :: F.pre d := List.mem_cons_of_mem _ m;have nd : (0 :: F.pre d).Nodup := by rw [q.pre]; exact List.nodup_range
    rw [q.pre, List.mem_range] at hk;have k0 : k ≠ 0 := fun z => (List.nodup_cons.mp nd).1 (z ▸ m)
    refine ⟨?_, by lia⟩
    have := e2 k hk;rw [if_neg k0] at this;exact this) q.eld
   exact this
namespace F
theorem qH {ch : Nat → List Nat} : ∀ (f : F), Con ch f → ∀ q ∈ F.pre f, ∀ b ∈ ch q, b ∈ F.pre f
 | nil, _, q, m, _, _ => by cases m
 | cons k c r, h, q, m, b, hb => by
  obtain ⟨h1, h2, h3⟩ := h;have rs : ∀ g : F, ∀ x ∈ roots g, x ∈ F.pre g := by
   intro g
   induction g with
   | nil => intro x hx; cases hx
   | cons a d t _ ih =>
    intro x hx;rw [roots] at hx;rw [F.pre];rcases List.mem_cons.mp hx with rfl | hx
    ·exact List.mem_cons_self
    ·exact List.mem_cons_of_mem _ (List.mem_append_right _ (ih x hx))
  rw [F.pre] at m ⊢;rcases List.mem_cons.mp m with rfl | m
  ·rw [h1] at hb
   exact List.mem_cons_of_mem _ (List.mem_append_left _ (rs c b hb))
  ·rcases List.mem_append.mp m with m | m
   ·exact List.mem_cons_of_mem _ (List.mem_append_left _ (qH c h2 q m b hb))
   ·exact List.mem_cons_of_mem _ (List.mem_append_right _ (qH r h3 q m b hb))
theorem oF {e : Nat → Int} {ch : Nat → List Nat} : ∀ (f : F) (a m : Nat) (p : Int), F.pre f = List.range' a m → Eld e p f → Con ch f → p < (a : Int) → ∀ j, a ≤ j → j < a + m →
  ∃ cj s, F.pre cj = List.range' (j + 1) s ∧ Eld e (j : Int) cj ∧ j + 1 + s ≤ a + m ∧ (j + 1 + s < a + m → e (j + 1 + s) < (j : Int)) ∧ Con ch cj ∧ ch j = roots cj
 | nil, a, m, p, hp, _, _, _, j, h1, h2 => by
  have := congrArg List.length hp;rw [F.pre, List.length_nil, List.length_range'] at this;lia
 | cons k c r, a, m, p, hp, he, hcon, hpa, j, h1, h2 => by
  obtain ⟨e1, e2, e3⟩ := he;obtain ⟨o1, o2, o3⟩ := hcon;obtain ⟨m', rfl⟩ : ∃ m', m = m' + 1 := ⟨m - 1, by lia⟩
  rw [F.pre, List.range'_succ] at hp;obtain ⟨hk, hrest⟩ := List.cons.inj hp;subst hk;have hl := congrArg List.length hrest;rw [List.length_append, List.length_range'] at hl;have hm : m' = (F.pre c).length + (F.pre r).length := by lia
  rw [hm, ← List.range'_append_1] at hrest;obtain ⟨hc, hr⟩ := List.append_inj hrest (by rw [List.length_range'])
  have first : (F.pre r).length ≠ 0 → e (k + 1 + (F.pre c).length) = p := fun hne => by
   cases r with
   | nil => exact absurd rfl hne
   | cons b1 b2 b3 =>
    have hb : b1 = k + 1 + (F.pre c).length := by
     have := congrArg (fun l => l[0]?) hr
     rw [F.pre] at this;rw [List.length_cons, List.range'_succ] at this;exact Option.some.inj this
    rw [← hb];exact e3.1
  by_cases hj : j = k
  ·subst hj
   refine ⟨c, (F.pre c).length, hc, e2, by lia, fun h => ?_, o2, o1⟩
   rw [first (by lia)]
   lia
  ·by_cases hj2 : j < k + 1 + (F.pre c).length
   ·obtain ⟨cj, s, q1, q2, q3, q4, q5, q6⟩ := oF c (k + 1) (F.pre c).length (k : Int) hc e2 o2 (by lia) j (by lia) hj2
    refine ⟨cj, s, q1, q2, by lia, fun h => ?_, q5, q6⟩
    by_cases hs : j + 1 + s < k + 1 + (F.pre c).length
    ·exact q4 hs
    ·have : j + 1 + s = k + 1 + (F.pre c).length := by lia
     rw [this, first (by lia)]
     lia
   ·obtain ⟨cj, s, q1, q2, q3, q4, q5, q6⟩ := oF r (k + 1 + (F.pre c).length) (F.pre r).length p hr e3 o3 (by lia) j (by lia) (by lia)
    exact ⟨cj, s, q1, q2, by lia, fun h => q4 (by lia), q5, q6⟩
end F
theorem Ag {ts : List Nd} {c : F} (p : PT ts c) {j : Nat} (hj : j < ts.length) : ∃ s, j + 1 + s ≤ ts.length ∧ (∀ k, j < k → k ≤ j + s → (j : Int) ≤ eOf ts k) ∧ (j + 1 + s < ts.length → eOf ts (j + 1 + s) < (j : Int)) ∧
  ∀ b, b < ts.length → (j : Int) ≤ eOf ts b → eOf ts b ≤ ((j + s : Nat) : Int) → j < b ∧ b ≤ j + s := by
 obtain ⟨cj, s, q1, q2, q3, q4, q5, q6⟩ := F.oF (e := eOf ts) (F.full c) 0 ts.length (-1) (by rw [p.preF, List.range_eq_range']) p.eldF p.con (by decide) j (by lia) (by lia)
 rw [Nat.zero_add] at q3 q4;have ge := F.u9 cj (j : Int) q2 (fun k m => by rw [q1, List.mem_range'_1] at m; lia)
 refine ⟨s, q3, fun k k1 k2 => ge k (by rw [q1, List.mem_range'_1]; lia), q4, fun b hb b1 b2 => ?_⟩
 have hm : b ∈ F.pre cj := by
  obtain ⟨q, hq⟩ : ∃ q : Nat, eOf ts b = (q : Int) := ⟨(eOf ts b).toNat, by lia⟩
  have hin : b ∈ (List.range ts.length).filter (fun x => decide (eOf ts x = (q : Int))) := List.mem_filter.mpr ⟨List.mem_range.mpr hb, decide_eq_true hq⟩
  by_cases hqj : q = j
  ·subst hqj
   have hin2 : b ∈ F.roots cj := by rw [← q6]; exact hin
   have rs : ∀ g : F, ∀ x ∈ F.roots g, x ∈ F.pre g := by
    intro g
    induction g with
    | nil => intro x hx; cases hx
    | cons a d t _ ih =>
     intro x hx;rw [F.roots] at hx;rw [F.pre];rcases List.mem_cons.mp hx with rfl | hx
     ·exact List.mem_cons_self
     ·exact List.mem_cons_of_mem _ (List.mem_append_right _ (ih x hx))
   exact rs cj b hin2
  ·exact F.qH cj q5 q (by rw [q1, List.mem_range'_1]; lia) b hin
 rw [q1, List.mem_range'_1] at hm;lia
namespace F
theorem pf (h : Nat → Nat) : ∀ f g : F, map h (app f g) = app (map h f) (map h g)
 | nil, g => rfl
 | cons k c r, g => by rw [app, map, map, app, pf h r g]
theorem gn (h : Nat → Nat) : ∀ f : F, roots (map h f) = (roots f).map h
 | nil => rfl
 | cons k c r => by rw [map, roots, roots, List.map_cons, gn h r]
theorem hV : ∀ f : F, roots (mir f) = (roots f).reverse
 | nil => rfl
 | cons k c r => by
  rw [mir, je, hV r];show _ ++ [k] = (k :: roots r).reverse
  rw [List.reverse_cons]
theorem oH {ch ch' : Nat → List Nat} {g : Nat → Nat} : ∀ f : F, Con ch f → Con ch' (map g (mir f)) → ∀ k ∈ F.pre f, ch' (g k) = ((ch k).reverse).map g
 | nil, _, _, k, m => by cases m
 | cons a c r, h, h', k, m => by
  obtain ⟨h1, h2, h3⟩ := h;rw [mir, pf, j0] at h';obtain ⟨q1, q2, q3, q4⟩ := h';rw [F.pre] at m;rcases List.mem_cons.mp m with rfl | m
  ·rw [q2, h1, gn, hV]
  ·rcases List.mem_append.mp m with m | m
   ·exact oH c h2 q3 k m
   ·exact oH r h3 q1 k m
end F
theorem zU {ts : List Nd} {c : F} (p : PT ts c) {k : Nat} (hk : k < ts.length) : (List.range (dP ts c).length).filter (fun j => decide (eOf (dP ts c) j = ((F.g c k : Nat) : Int))) = (((List.range ts.length).filter (fun j => decide (eOf ts j = (k : Int)))).reverse).map (F.g c) := by
 have h1 := p.con;have h2 := (jR p).con;rw [F.rX] at h2;exact F.oH (F.full c) h1 h2 k (by rw [p.preF]; exact List.mem_range.mpr hk)
noncomputable def fI : Fs := (sIf (pV (br (eOp gLt (ae 1) (eC (.int 0)))) (br (eOp gGe (ae 1) (eB cH (ah (ae 0) az))))) zN sNx)
noncomputable def et : Fn := dE 2 2 fI
noncomputable def iD : Fs := (aE (aJ 1 (eR az))
 (aE (fM (fZ (ae 0)) (gNm 2) (ib 1 (eSh (mH (eIf (br (eOp gEq (eOp gIx (ae 2) (eC (.int 0))) (eUn fK (eC (.int 1))))) (eC (.int 0)) (eOp bB (eOp gIx (ae 1) (eOp gIx (ae 2) (eC (.int 0)))) (eC (.int 1))))))))
 (fm 1)))
noncomputable def iO : Fn := dE 1 3 iD
noncomputable def h_ : Fs := (e_ (bT (fZ (ae 0)) (gNm 0) dt (eOp gR (eB cH (ah (eOp gIx (ae 0) (eC (.int 1))) az)) (eC (.int 2))) 1 []))
noncomputable def eJ : Fn := dE 1 1 h_
noncomputable def dY : Fs := (aE (aJ 1 (bT (fZ (ae 0)) (gNm 0) dt (eR az) 1 []))
 (aE (fM (iR2 (eC (.int 1)) (eB cH (ah (ae 0) az))) (gNm 2) (ke 1 (eOp gIx (eOp gIx (ae 0) (ae 2)) (eC (.int 0))) (ae 2)))
 (fm 1)))
noncomputable def c8 : Fn := dE 1 3 dY
noncomputable def fi : Fs := (aE (aJ 1 (eR (ah (eC (.int 0)) az)))
 (aE (fM (fZ (eSl lN (ae 0) (iy (eC (.int 1))) iF)) (gTp 3 (bD (gNm 2) (bD (gNm 3) (bD (gNm 4) gE)))) (ib 1 (mH (eOp bB (eOp gIx (ae 1) (ae 2)) (eC (.int 1))))))
 (mU 1 (e_ (bT (iR1 (eOp bB (eB jw (ah (ae 1) az)) (eC (.int 1)))) (gNm 0) dt (eSh (bT (iR1 (eB cH (ah (ae 1) az))) (gNm 0) (br (eOp gEq (eOp gIx (ae 1) (ae 0)) (ae 2))) (ae 0) 1 [2, 0])) 1 [0, 1])))))
noncomputable def dJ : Fn := dE 1 5 fi
noncomputable def e7 : Fs := (aE (rY (bt et (ah (ae 0) (ah (ae 1) az))))
 (e_ (bT (iEn (ae 0)) (gTp 2 (bD (gNm 0) (bD (gNm 1) gE))) (br (eOp gEq (eOp gIx (ae 1) (eC (.int 0))) (ae 2))) (ae 0) 2 [1])))
noncomputable def dM : Fn := dE 2 2 e7
noncomputable def EL (ts : List Nd) : Prop := ∀ (k : Nat) (n : Nd), ts[k]? = some n → (k = 0 → n.e = -1) ∧ (0 < k → 0 ≤ n.e) ∧ n.e < k
noncomputable def bF (acc : List Nat) (n : Nd) : Nat := if n.e = -1 then 0 else (acc[n.e.toNat]?).getD 0 + 1
noncomputable def lvs (ts : List Nd) : List Nat := ts.foldl (fun acc n => acc ++ [bF acc n]) []
theorem eX (ts : List Nd) (n : Nd) : lvs (ts ++ [n]) = lvs ts ++ [bF (lvs ts) n] := by
 unfold lvs;rw [List.foldl_append];rfl
theorem snoc_ind {α : Type} {P : List α → Prop} (h0 : P []) (hs : ∀ xs x, P xs → P (xs ++ [x])) (xs : List α) : P xs := by
 have : ∀ ys : List α, P ys.reverse := by
  intro ys
  induction ys with
  | nil => exact h0
  | cons y ys ih => rw [List.reverse_cons]; exact hs _ _ ih
 have h := this xs.reverse
 rwa [List.reverse_reverse] at h
theorem cN : ∀ ts : List Nd, (lvs ts).length = ts.length := by
 intro ts;refine snoc_ind (P := fun ts => (lvs ts).length = ts.length) rfl (fun ts n ih => ?_) ts
 rw [eX, List.length_append, List.length_append, ih];rfl
theorem take_snoc {α : Type} {xs : List α} {i : Nat} {x : α} (h : xs[i]? = some x) : xs.take (i + 1) = xs.take i ++ [x] := by rw [List.take_add_one, h]; rfl
theorem iN (ts : List Nd) : ∀ i : Nat, (lvs ts).take i = lvs (ts.take i) := by
 refine snoc_ind (P := fun ts => ∀ i : Nat, (lvs ts).take i = lvs (ts.take i)) (fun i => by simp [lvs]) (fun ts n ih => ?_) ts
 ·intro i
  rcases Nat.le_total i ts.length with h | h
  ·rw [eX, List.take_append_of_le_length (by rw [cN]; exact h), List.take_append_of_le_length h, ih]
  ·by_cases h2 : i = ts.length
   ·subst h2
    rw [eX, List.take_append_of_le_length (by rw [cN]; exact Nat.le_refl _), List.take_append_of_le_length (Nat.le_refl _), ih]
   ·rw [List.take_of_length_le (by rw [cN, List.length_append]; simp; lia), List.take_of_length_le (by rw [List.length_append]; simp; lia)]
theorem jO {ts : List Nd} {i : Nat} {n : Nd} (h : ts[i]? = some n) : (lvs ts)[i]? = some (bF (lvs (ts.take i)) n) := by
 have hi := (List.getElem?_eq_some_iff.mp h).1;have e := iN ts (i + 1);rw [take_snoc h, eX] at e;have : ((lvs ts).take (i + 1))[i]? = some (bF (lvs (ts.take i)) n) := by
  rw [e, List.getElem?_append_right (by rw [cN, List.length_take]; lia), cN, List.length_take, Nat.min_eq_left (by lia), Nat.sub_self]
  rfl
 rw [List.getElem?_take_of_lt (by lia)] at this
 exact this
noncomputable def d6 (ks : List Nat) : List PyData := ks.map fun k : Nat => PyData.int (k : Int)
theorem j5 (ks : List Nat) : (d6 ks).length = ks.length := by unfold d6; rw [List.length_map]
theorem nA {ks : List Nat} {k v : Nat} (h : ks[k]? = some v) : atI (d6 ks) (k : Int) = some (.int v) := eE (by unfold d6; rw [List.getElem?_map, h]; rfl)
theorem kd (ks : List Nat) (k : Nat) : (d6 ks).map OD.sh ++ [OD.sh (.int (k : Int))] = (d6 (ks ++ [k])).map OD.sh := by
 unfold d6;rw [List.map_append, List.map_append];rfl
theorem vd (ts : List Nd) (he : EL ts) (hl : ts.length ≤ 100) : iO [.list (au ts)] = .ok (.ol ((d6 (lvs ts)).map OD.sh)) := by
 unfold iO iD;push_cast only [and_self];generalize hL : bE _ _ _ _ = r'
 refine cC hL (fun i ρ => ∃ v2 : Option OD, ρ = [some (.sh (.list (au ts))), some (.ol ((d6 (lvs (ts.take i))).map OD.sh)), v2]) ⟨_, rfl⟩ ?_ ?_
 ·rintro i d ρ hd ⟨v2, rfl⟩
  unfold au at hd;rw [List.getElem?_map] at hd;obtain ⟨n, hn, rfl⟩ := Option.map_eq_some_iff.mp hd;have hi := (List.getElem?_eq_some_iff.mp hn).1;have lb : ((d6 (lvs (ts.take i))).length < BIG) = True := by rw [j5, cN, List.length_take]; exact eK (by lia)
  have e0 : (lvs (ts.take (i + 1))) = lvs (ts.take i) ++ [bF (lvs (ts.take i)) n] := by rw [take_snoc hn, eX]
  have el := he i n hn;by_cases h1 : n.e = -1
  ·have e1 : bF (lvs (ts.take i)) n = 0 := by unfold bF; rw [if_pos h1]
   rw [e1] at e0;have sn := kd (lvs (ts.take i)) 0;rw [← e0, Int.natCast_zero] at sn;push_cast only [ndD, decide_eq_true h1, lb, aT, sn];exact ⟨_, rfl⟩
  ·have h0 : 0 < i := by
    rcases Nat.eq_zero_or_pos i with h | h
    ·exact absurd (el.1 h) h1
    ·exact h
   obtain ⟨k, hk⟩ : ∃ k : Nat, n.e = (k : Int) := ⟨n.e.toNat, by have := el.2.1 h0; lia⟩
   have hki : k < i := by have := el.2.2; lia
   obtain ⟨v, hv⟩ : ∃ v, (lvs (ts.take i))[k]? = some v := ⟨(lvs (ts.take i))[k]'(by rw [cN, List.length_take]; lia), by simp⟩
   have e1 : bF (lvs (ts.take i)) n = v + 1 := by unfold bF; rw [if_neg h1, hk, Int.toNat_natCast, hv]; rfl
   rw [e1] at e0;have sn := kd (lvs (ts.take i)) (v + 1);rw [← e0, Int.natCast_add, Int.natCast_one] at sn;have ga := nA hv;have h1' : ¬ ((k : Int) = -1) := by lia
   push_cast only [ndD, hk, decide_eq_false h1', lb, aT, ga, sn];exact ⟨_, rfl⟩
 ·rintro ρ' rfl ⟨v2, rfl⟩
  push_cast only [and_self];rw [aI, List.take_of_length_le (Nat.le_refl _)]
noncomputable def AN (nums : List (List Nat)) (k lv : Nat) : List (List Nat) := if lv = nums.length then nums ++ [[k]] else nums.set lv ((nums[lv]?).getD [] ++ [k])
noncomputable def eQ (L : List Nat) : Nat → List (List Nat)
 | 0 => []
 | i + 1 => AN (eQ L i) i ((L[i]?).getD 0)
structure NumOk (L : List Nat) (i : Nat) (nums : List (List Nat)) : Prop where
 row : ∀ (j : Nat) (r : List Nat), nums[j]? = some r → r ≠ [] ∧ r.Pairwise (· < ·) ∧ ∀ k, k ∈ r ↔ k < i ∧ L[k]? = some j
 lt : ∀ (k v : Nat), k < i → L[k]? = some v → v < nums.length
 sum : (nums.map List.length).sum = i
theorem sum_set (f : List Nat → Nat) : ∀ (nums : List (List Nat)) (j : Nat) (r r' : List Nat), nums[j]? = some r → f r' = f r + 1 → ((nums.set j r').map f).sum = (nums.map f).sum + 1
 | [], j, _, _, h, _ => by simp at h
 | x :: xs, 0, r, r', h, e => by
  simp at h
  subst h;simp
  lia
 | x :: xs, j + 1, r, r', h, e => by
  have := sum_set f xs j r r' (by simpa using h) e
  simp at this ⊢
  lia
theorem NumOk.step {L : List Nat} {i : Nat} {nums : List (List Nat)} (h : NumOk L i nums) {v : Nat} (hv : L[i]? = some v) (hle : v ≤ nums.length) : NumOk L (i + 1) (AN nums i v) := by
 unfold AN;by_cases h1 : v = nums.length
 ·rw [if_pos h1]
  refine ⟨fun j r hr => ?_, fun k w hk hw => ?_, by rw [List.map_append, List.sum_append, h.sum]; simp⟩
  ·by_cases hj : j < nums.length
   ·rw [List.getElem?_append_left hj] at hr
    obtain ⟨a, b, c⟩ := h.row j r hr;refine ⟨a, b, fun k => ?_⟩
    rw [c k];constructor
    ·exact fun z => ⟨by lia, z.2⟩
    ·rintro ⟨z1, z2⟩
     refine ⟨?_, z2⟩;by_cases hki : k = i
     ·subst hki
      rw [hv] at z2;have := Option.some.inj z2;lia
     ·lia
   ·rw [List.getElem?_append_right (by lia)] at hr
    have hj' : j = nums.length := by
     have := (List.getElem?_eq_some_iff.mp hr).1;simp at this
     lia
    subst hj';have : [i] = r := by simpa using hr
    subst this;refine ⟨by simp, by simp, fun k => ?_⟩
    rw [List.mem_singleton];constructor
    ·rintro rfl
     exact ⟨by lia, by rw [hv, h1]⟩
    ·rintro ⟨z1, z2⟩
     by_cases hki : k = i
     ·exact hki
     ·have := h.lt k _ (by lia) z2
      lia
  ·rw [List.length_append, List.length_singleton]
   by_cases hki : k = i
   ·subst hki
    rw [hv] at hw;have := Option.some.inj hw;lia
   ·have := h.lt k w (by lia) hw
    lia
 ·rw [if_neg h1]
  have hlt : v < nums.length := by lia
  obtain ⟨r0, hr0⟩ : ∃ r, nums[v]? = some r := ⟨nums[v], by simp [hlt]⟩
  rw [hr0, Option.getD_some];obtain ⟨a, b, c⟩ := h.row v r0 hr0;refine ⟨fun j r hr => ?_, fun k w hk hw => ?_, ?_⟩
  ·by_cases hj : v = j
   ·subst hj
    rw [List.getElem?_set_self hlt] at hr;cases hr;refine ⟨by simp, ?_, fun k => ?_⟩
    ·rw [List.pairwise_append]
     refine ⟨b, by simp, fun x hx y hy => ?_⟩
     have hy' : y = i := by simpa using hy
     rw [hy'];exact ((c x).mp hx).1
    ·rw [List.mem_append, List.mem_singleton, c k]
     constructor
     ·rintro (⟨z1, z2⟩ | rfl)
      ·exact ⟨by lia, z2⟩
      ·exact ⟨by lia, hv⟩
     ·rintro ⟨z1, z2⟩
      by_cases hki : k = i
      ·exact .inr hki
      ·exact .inl ⟨by lia, z2⟩
   ·rw [List.getElem?_set_ne hj] at hr
    obtain ⟨a', b', c'⟩ := h.row j r hr;refine ⟨a', b', fun k => ?_⟩
    rw [c' k];constructor
    ·exact fun z => ⟨by lia, z.2⟩
    ·rintro ⟨z1, z2⟩
     refine ⟨?_, z2⟩;by_cases hki : k = i
     ·subst hki
      rw [hv] at z2;exact absurd (Option.some.inj z2) hj
     ·lia
  ·rw [List.length_set]
   by_cases hki : k = i
   ·subst hki
    rw [hv] at hw;have := Option.some.inj hw;lia
   ·exact h.lt k w (by lia) hw
  ·rw [sum_set List.length nums v r0 _ hr0 (by simp), h.sum]
theorem z_ {ts : List Nd} (he : EL ts) {i : Nat} {nums : List (List Nat)} (h : NumOk (lvs ts) i nums) {n : Nd} (hn : ts[i]? = some n) : bF (lvs (ts.take i)) n ≤ nums.length := by
 unfold bF;split
 ·exact Nat.zero_le _
 ·rename_i h1
  have el := he i n hn;have h0 : 0 < i := by
   rcases Nat.eq_zero_or_pos i with h | h
   ·exact absurd (el.1 h) h1
   ·exact h
  have hi := (List.getElem?_eq_some_iff.mp hn).1;have hk : n.e.toNat < i := by have := el.2.1 h0; have := el.2.2; lia
  obtain ⟨v, hv⟩ : ∃ v, (lvs ts)[n.e.toNat]? = some v := ⟨(lvs ts)[n.e.toNat]'(by rw [cN]; lia), by simp⟩
  have : (lvs (ts.take i))[n.e.toNat]? = some v := by rw [← iN, List.getElem?_take_of_lt hk]; exact hv
  rw [this, Option.getD_some];exact h.lt _ v hk hv
theorem j7 {ts : List Nd} (he : EL ts) : ∀ i, i ≤ ts.length → NumOk (lvs ts) i (eQ (lvs ts) i)
 | 0, _ => ⟨fun j r h => by simp [eQ] at h, fun k v h => by lia, rfl⟩
 | i + 1, hi => by
  have ih := j7 he i (by lia)
  obtain ⟨n, hn⟩ : ∃ n, ts[i]? = some n := ⟨ts[i]'(by lia), by simp⟩
  have hv := jO hn;rw [eQ, hv, Option.getD_some];exact ih.step hv (z_ he ih hn)
noncomputable def xF (nums : List (List Nat)) : List PyData := nums.map fun r => .list (d6 r)
noncomputable def aX (ts : List Nd) : List Int := ts.map fun n => (n.l.length : Int) / 2
theorem me (ts : List Nd) (h : ∀ n ∈ ts, n.l.length ≤ 1000) (hl : ts.length ≤ 100) : eJ [.list (au ts)] = .ok (.ol ((aX ts).map fun z => OD.sh (.int z))) := by
 unfold eJ h_;push_cast only [and_self];generalize hL : bb _ _ _ _ _ _ = r
 have e := c6 hL ndD (fun n : Nd => .sh (.int ((n.l.length : Int) / 2))) ts rfl (of_eq_true (aP (by lia))) (by
  intro n hn;have := aP (h n hn);push_cast only [ndD, this])
 subst e;push_cast only [and_self];unfold aX;rw [List.map_map];rfl
noncomputable def zL (f : Nat → Int) (n : Nat) : List PyData := (List.range n).map fun x => PyData.int (f x)
theorem ED (f : Nat → Int) (n x : Nat) (v : Int) : ((zL f n).map OD.sh).set x (.sh (.int v)) = (zL (fun y => if y = x then v else f y) n).map OD.sh := by
 unfold zL;rw [List.map_map, List.map_map];apply List.ext_getElem?
 intro k;by_cases hk : x = k
 ·subst hk
  by_cases hn : x < n
  ·rw [List.getElem?_set_self (by simpa using hn), List.getElem?_map, List.getElem?_range hn]
   simp
  ·rw [List.getElem?_eq_none (by simp; lia), List.getElem?_eq_none (by simp; lia)]
 ·rw [List.getElem?_set_ne hk, List.getElem?_map, List.getElem?_map]
  cases h : (List.range n)[k]? with
  | none => rfl
  | some y =>
   have : y = k := by
    have := (List.getElem?_eq_some_iff.mp h).2;simp at this
    exact this.symm
   subst this;simp [Ne.symm hk]
theorem xi {a : PyData} {as : List PyData} {n : Nat} (h : lay n (.list (a :: as))) (hn : n ≤ 64) : gEq (.list (a :: as)) (.list []) = .ok (.sh (.bool false)) := by
 have h2 : lay 1 (.list []) := iQ (n := 0) fun x hx => by cases hx
 unfold gEq;rw [gz];unfold gW;rw [bX h hn, bX h2 (by decide), Bool.and_self, if_pos rfl]
 have : PyData.eqv (.list (a :: as)) (.list []) = false := by unfold PyData.eqv PyData.eqvAll; rfl
 rw [this];rfl
theorem t_ (xs : List PyData) (j : Nat) (h : j < xs.length) : et [.list xs, .int j] = .ok (.sh .none) := by
 unfold et fI;have d1 : decide ((j : Int) < 0) = false := decide_eq_false (by lia)
 have d2 : decide ((xs.length : Int) ≤ (j : Int)) = false := decide_eq_false (by lia)
 push_cast only [d1, d2]
noncomputable def iL (rs : List Nat) : List Int := rs.map fun k : Nat => (k : Int)
noncomputable def nD (rs : List Nat) : List PyData := (iL rs).map PyData.int
noncomputable def nO (rs : List Nat) : List OD := (nD rs).map OD.sh
theorem jY (rs : List Nat) : (nO rs).map OD.er = nD rs := aT _
theorem f9 (rs : List Nat) : (nD rs).length = rs.length := by unfold nD iL; rw [List.length_map, List.length_map]
theorem vU (rs : List Nat) : (nO rs).length = rs.length := by unfold nO; rw [List.length_map, f9]
theorem vq (a b : List Nat) : nO a ++ nO b = nO (a ++ b) := by unfold nO nD iL; rw [List.map_append, List.map_append, List.map_append]
theorem nM (a : List Nat) (k : Nat) : nO a ++ [OD.sh (.int (k : Int))] = nO (a ++ [k]) := by rw [← vq]; rfl
theorem zc {rs : List Nat} {i k : Nat} (h : rs[i]? = some k) : (nD rs)[i]? = some (.int (k : Int)) := by
 unfold nD iL;rw [List.getElem?_map, List.getElem?_map, h];rfl
noncomputable def chN (ts : List Nd) (q : Nat) : List Nat := (List.range ts.length).filter (fun j => decide (eOf ts j = (q : Int)))
theorem tj (ts : List Nd) : fT (au ts) = (List.range ts.length).map fun k : Nat => PyData.tuple [.int (k : Int), ndD (eW ts k)] := by
 apply List.ext_getElem?
 intro i;rw [List.getElem?_map];by_cases hi : i < ts.length
 ·rw [List.getElem?_range hi]
  unfold fT au;rw [List.getElem?_map, List.getElem?_zipIdx, List.getElem?_map, List.getElem?_eq_getElem hi];unfold eW;simp [List.getElem?_eq_getElem hi]
 ·rw [List.getElem?_eq_none (by unfold fT au; simp; lia), List.getElem?_eq_none (by rw [List.length_range]; lia)]
  rfl
theorem n_ (L : List Nat) : (L.map fun k : Nat => OD.sh (.int (k : Int))) = nO L := by
 unfold nO nD iL;rw [List.map_map, List.map_map];rfl
theorem oU (ts : List Nd) (q : Nat) (hq : q < ts.length) (hl : ts.length ≤ 100) : dM [.list (au ts), .int q] = .ok (.ol (nO (chN ts q))) := by
 unfold dM e7;have ck := t_ (au ts) q (by rw [aI]; exact hq)
 push_cast only [ck];generalize hC : bb _ _ _ _ _ _ = rc
 have e := iZ hC (fun k : Nat => PyData.tuple [.int (k : Int), ndD (eW ts k)]) (fun k => decide (eOf ts k = (q : Int))) (fun k : Nat => .sh (.int (k : Int))) (List.range ts.length) (tj ts) (by rw [List.length_range]; exact of_eq_true (aP (by lia))) (by
  intro k hk;rw [List.mem_range] at hk;have he := nu hk;refine ⟨?_, fun _ => ?_⟩
  ·push_cast only [ndD, he]
  ·push_cast only [ndD])
 subst e;rw [n_];push_cast only [and_self];rfl
noncomputable def bG (ns : List Int) : List OD := (ns.map PyData.int).map OD.sh
theorem bV (ns : List Int) : (bG ns).map OD.er = ns.map PyData.int := aT _
theorem fL (ns : List Int) : (bG ns).length = ns.length := by unfold bG; rw [List.length_map, List.length_map]
theorem uN : ∀ {a b : List Nat}, a.Pairwise (· < ·) → b.Pairwise (· < ·) → (∀ k, k ∈ a ↔ k ∈ b) → a = b
 | [], [], _, _, _ => rfl
 | [], y :: ys, _, _, h => absurd ((h y).mpr List.mem_cons_self) (by simp)
 | x :: xs, [], _, _, h => absurd ((h x).mp List.mem_cons_self) (by simp)
 | x :: xs, y :: ys, pa, pb, h => by
  obtain ⟨a1, a2⟩ := List.pairwise_cons.mp pa;obtain ⟨b1, b2⟩ := List.pairwise_cons.mp pb;have e : x = y := by
   have h1 := (h x).mp List.mem_cons_self;have h2 := (h y).mpr List.mem_cons_self;rcases List.mem_cons.mp h1 with z | z
   ·exact z
   ·rcases List.mem_cons.mp h2 with z2 | z2
    ·exact z2.symm
    ·have := b1 x z
     have := a1 y z2;lia
  subst e;rw [uN a2 b2 fun k => ⟨fun m => ?_, fun m => ?_⟩]
  ·have h1 := (h k).mp (List.mem_cons_of_mem _ m)
   rcases List.mem_cons.mp h1 with z | z
   ·have := a1 k m
    lia
   ·exact z
  ·have h1 := (h k).mpr (List.mem_cons_of_mem _ m)
   rcases List.mem_cons.mp h1 with z | z
   ·have := b1 k m
    lia
   ·exact z
theorem mQ {β : Type} (f g : Nat → β) (n k : Nat) (hk : ∀ q, q ≠ k → g q = f q) : ((List.range n).map f).set k (g k) = (List.range n).map g := by
 apply List.ext_getElem?
 intro i;by_cases hi : k = i
 ·subst hi
  by_cases hn : k < n
  ·rw [List.getElem?_set_self (by simpa using hn), List.getElem?_map, List.getElem?_range hn]
   rfl
  ·rw [List.getElem?_eq_none (by simp; lia), List.getElem?_eq_none (by simp; lia)]
 ·rw [List.getElem?_set_ne hi, List.getElem?_map, List.getElem?_map]
  by_cases hn : i < n
  ·rw [List.getElem?_range hn]
   show some (f i) = some (g i)
   rw [hk i (Ne.symm hi)]
  ·rw [List.getElem?_eq_none (by simp; lia)]
   rfl
noncomputable def chI (ts : List Nd) (i q : Nat) : List Nat := (List.range i).filter (fun j => decide (eOf ts j = (q : Int)))
theorem x9 (ts : List Nd) (i q : Nat) : (chI ts i q).length ≤ i := by
 unfold chI;have := List.length_filter_le (fun j => decide (eOf ts j = (q : Int))) (List.range i)
 rw [List.length_range] at this;exact this
theorem lx (ts : List Nd) (i q : Nat) : chI ts (i + 1) q = chI ts i q ++ (if eOf ts i = (q : Int) then [i] else []) := by
 unfold chI;rw [List.range_succ, List.filter_append];congr 1
 by_cases h : eOf ts i = (q : Int)
 ·rw [if_pos h]
  simp [h]
 ·rw [if_neg h]
  simp [h]
theorem kQ (ts : List Nd) (he : EL ts) (h0 : 0 < ts.length) (hl : ts.length ≤ 100) : c8 [.list (au ts)] = .ok (.ol ((List.range ts.length).map fun q => OD.ol (nO (chN ts q)))) := by
 unfold c8 dY;push_cast only [and_self];generalize hC : bb _ _ _ _ _ _ = rc
 have e := c6 hC ndD (fun _ : Nd => .ol []) ts rfl (of_eq_true (aP (by lia))) (by intro n hn; push_cast only [and_self])
 subst e;have s1 : aB 1 = true := eT (by decide) (by decide)
 have s2 : aB (ts.length : Int) = true := eT (by lia) (by lia)
 have z0 : eOf ts 0 = -1 := by
  obtain ⟨n, hn⟩ : ∃ n, ts[0]? = some n := ⟨ts[0], by simp [h0]⟩
  rw [bZ hn];exact (he 0 n hn).1 rfl
 have e0 : (ts.map fun _ : Nd => OD.ol []) = (List.range ts.length).map fun q => OD.ol (nO (chI ts 1 q)) := by
  have : ∀ q : Nat, chI ts 1 q = [] := fun q => by
   rw [lx, z0, if_neg (by lia)]
   rfl
  apply List.ext_getElem?
  intro i;rw [List.getElem?_map, List.getElem?_map];by_cases hi : i < ts.length
  ·rw [List.getElem?_range hi, List.getElem?_eq_getElem hi]
   show some (OD.ol []) = some (OD.ol (nO (chI ts 1 i)))
   rw [this];rfl
  ·rw [List.getElem?_eq_none (by lia), List.getElem?_eq_none (by rw [List.length_range]; lia)]
   rfl
 push_cast only [e0, aI, s1, s2, Bool.and_self];generalize hL : bE _ _ _ _ = r'
 refine cC hL (fun i ρ => ∃ v2 : Option OD, ρ = [some (.sh (.list (au ts))), some (.ol ((List.range ts.length).map fun q => OD.ol (nO (chI ts (i + 1) q)))), v2]) ⟨_, rfl⟩ ?_ ?_
 ·rintro i d ρ hd ⟨v2, rfl⟩
  obtain ⟨hi, rfl⟩ := cY hd;have hi2 : i + 1 < ts.length := by lia
  have ei : (1 : Int) + (i : Int) = ((i + 1 : Nat) : Int) := by lia
  rw [ei];obtain ⟨n, hn⟩ : ∃ n, ts[i + 1]? = some n := ⟨ts[i + 1], by simp [hi2]⟩
  have el := he (i + 1) n hn;obtain ⟨k, hk⟩ : ∃ k : Nat, n.e = (k : Int) := ⟨n.e.toNat, by have := el.2.1 (by lia); lia⟩
  have hki : k < i + 1 := by have := el.2.2; lia
  have g3 := f6 hn;rw [hk] at g3;have hl2 := x9 ts (i + 1) k;have ap := wZ (i := 1) (ρ := [some (.sh (.list (au ts))), some (.ol ((List.range ts.length).map fun q => OD.ol (nO (chI ts (i + 1) q)))), some (.sh (.int ((i + 1 : Nat) : Int)))]) (k := eOp gIx (eOp gIx (ae 0) (ae 2)) (eC (.int 0))) (a := ae 2) (xs := (List.range ts.length).map fun q => OD.ol (nO (chI ts (i + 1) q))) (ys := nO (chI ts (i + 1) k)) (z := k) (j := k) (y := .sh (.int ((i + 1 : Nat) : Int))) rfl (by push_cast only [g3]) (iX (by rw [List.length_map, List.length_range]; lia)) (by rw [List.getElem?_map, List.getElem?_range (by lia)]; rfl) rfl (by rw [vU]; exact of_eq_true (eK (by lia)))
  push_cast only [and_self];rw [ap];have st : ((List.range ts.length).map fun q => OD.ol (nO (chI ts (i + 1) q))).set k (OD.ol (nO (chI ts (i + 1) k) ++ [OD.sh (.int ((i + 1 : Nat) : Int))])) = (List.range ts.length).map fun q => OD.ol (nO (chI ts (i + 1 + 1) q)) := by
   rw [nM];have e1 : chI ts (i + 1) k ++ [i + 1] = chI ts (i + 1 + 1) k := by rw [lx ts (i + 1), bZ hn, hk, if_pos rfl]
   rw [e1];refine mQ (fun q => OD.ol (nO (chI ts (i + 1) q))) (fun q => OD.ol (nO (chI ts (i + 1 + 1) q))) ts.length k fun q hq => ?_
   show OD.ol (nO (chI ts (i + 1 + 1) q)) = _
   rw [lx ts (i + 1), bZ hn, hk, if_neg (by lia), List.append_nil]
  rw [st];push_cast only [and_self];exact ⟨_, rfl⟩
 ·rintro ρ' rfl ⟨v2, rfl⟩
  rw [ey, show ((ts.length : Int) - 1).toNat + 1 = ts.length by lia]
  push_cast only [and_self];rfl
theorem wo {ts : List Nd} (he : EL ts) : eQ (lvs ts) ts.length = (List.range (eQ (lvs ts) ts.length).length).map fun j => (List.range ts.length).filter fun k => decide ((((lvs ts)[k]?).getD 0) = j) := by
 have ok := j7 he ts.length (Nat.le_refl _);apply List.ext_getElem?
 intro j;rw [List.getElem?_map];by_cases hj : j < (eQ (lvs ts) ts.length).length
 ·rw [List.getElem?_range hj, List.getElem?_eq_getElem hj]
  show some _ = some _
  congr 1
  obtain ⟨r1, r2, r3⟩ := ok.row j _ (List.getElem?_eq_getElem hj);refine uN r2 (List.Pairwise.filter _ List.pairwise_lt_range) fun k => ?_
  rw [r3 k, List.mem_filter, List.mem_range, decide_eq_true_eq];constructor
  ·rintro ⟨a, b⟩
   exact ⟨a, by rw [b]; rfl⟩
  ·rintro ⟨a, b⟩
   refine ⟨a, ?_⟩;obtain ⟨v, hv⟩ : ∃ v, (lvs ts)[k]? = some v := ⟨(lvs ts)[k]'(by rw [cN]; exact a), by simp⟩
   rw [hv] at b ⊢;rw [← b];rfl
 ·rw [List.getElem?_eq_none (by lia), List.getElem?_eq_none (by rw [List.length_range]; lia)]
  rfl
theorem pT {ts : List Nd} (he : EL ts) (h0 : 0 < ts.length) : 0 < (eQ (lvs ts) ts.length).length ∧ (eQ (lvs ts) ts.length).length ≤ ts.length := by
 have ok := j7 he ts.length (Nat.le_refl _);constructor
 ·obtain ⟨v, hv⟩ : ∃ v, (lvs ts)[0]? = some v := ⟨(lvs ts)[0]'(by rw [cN]; exact h0), by simp⟩
  have := ok.lt 0 v h0 hv;lia
 ·have : ∀ nums : List (List Nat), (∀ (j : Nat) (r : List Nat), nums[j]? = some r → r ≠ []) → nums.length ≤ (nums.map List.length).sum := by
   intro nums
   induction nums with
   | nil => intro _; simp
   | cons x xs ih =>
    intro h;have h1 := h 0 x rfl;have h2 := ih fun j r hr => h (j + 1) r (by simpa using hr)
    have : 1 ≤ x.length := by
     cases x with
     | nil => exact absurd rfl h1
     | cons a b => simp
    simp
    lia
  have := this _ fun j r hr => (ok.row j r hr).1
  rw [ok.sum] at this;exact this
theorem xh {ts : List Nd} (he : EL ts) (h0 : 0 < ts.length) : ∃ (a : Nat) (as : List Nat), lvs ts = a :: as ∧ iA (a : Int) (as.map fun k : Nat => (k : Int)) + 1 = ((eQ (lvs ts) ts.length).length : Int) := by
 have ok := j7 he ts.length (Nat.le_refl _);have nl := (pT he h0).1;cases hL : lvs ts with
 | nil =>
  have := cN ts;rw [hL] at this;simp at this
  lia
 | cons a as =>
  refine ⟨a, as, rfl, ?_⟩;rw [hL] at ok nl;obtain ⟨m1, m2⟩ := fY (as.map fun k : Nat => (k : Int)) (a : Int)
  have hmap : ((a : Int) :: as.map fun k : Nat => (k : Int)) = (a :: as).map fun k : Nat => (k : Int) := rfl
  rw [hmap] at m1 m2;obtain ⟨v, hv, ev⟩ := List.mem_map.mp m1;obtain ⟨i, hi, ei⟩ := List.getElem_of_mem hv;have il : i < ts.length := by
   have := cN ts;rw [hL] at this;lia
  have l1 := ok.lt i v il (by rw [List.getElem?_eq_getElem hi, ei])
  obtain ⟨r, hr⟩ : ∃ r, (eQ (a :: as) ts.length)[(eQ (a :: as) ts.length).length - 1]? = some r := ⟨(eQ (a :: as) ts.length)[(eQ (a :: as) ts.length).length - 1]'(by lia), by simp⟩
  obtain ⟨r1, r2, r3⟩ := ok.row _ r hr;obtain ⟨k, hk⟩ := List.exists_mem_of_ne_nil r r1;have k2 := ((r3 k).mp hk).2;have := m2 (((eQ (a :: as) ts.length).length - 1 : Nat) : Int) (List.mem_map.mpr ⟨_, List.mem_of_getElem? k2, rfl⟩);rw [← ev] at this ⊢;lia
theorem mM (ts : List Nd) (he : EL ts) (h0 : 0 < ts.length) (hl : ts.length ≤ 100) : dJ [.list (au ts)] = .ok (.ol ((xF (eQ (lvs ts) ts.length)).map OD.sh)) := by
 unfold dJ fi;have c1 : cutD (au ts) (some 1) none = (au ts).drop 1 := jW (au ts) 1 (by rw [aI]; lia)
 obtain ⟨n0, hn0⟩ : ∃ n, ts[0]? = some n := ⟨ts[0], by simp [h0]⟩
 have l0 : lvs (ts.take 1) = [0] := by
  rw [take_snoc (i := 0) hn0, List.take_zero];show [bF [] n0] = [0]
  unfold bF;rw [if_pos ((he 0 n0 hn0).1 rfl)]
 push_cast only [c1, aT];generalize hL : bE _ _ _ _ = r'
 refine cC hL (fun i ρ => ∃ v2 v3 v4 : Option OD, ρ = [some (.sh (.list (au ts))), some (.ol ((d6 (lvs (ts.take (i + 1)))).map OD.sh)), v2, v3, v4]) ⟨_, _, _, by rw [l0]; rfl⟩ ?_ ?_
 ·rintro i d ρ hd ⟨v2, v3, v4, rfl⟩
  rw [List.getElem?_drop] at hd;unfold au at hd;rw [List.getElem?_map] at hd;obtain ⟨n, hn, rfl⟩ := Option.map_eq_some_iff.mp hd;rw [Nat.add_comm] at hn;have hi := (List.getElem?_eq_some_iff.mp hn).1;have lb : ((d6 (lvs (ts.take (i + 1)))).length < BIG) = True := by rw [j5, cN, List.length_take]; exact eK (by lia)
  have e0 : (lvs (ts.take (i + 1 + 1))) = lvs (ts.take (i + 1)) ++ [bF (lvs (ts.take (i + 1))) n] := by rw [take_snoc hn, eX]
  have el := he (i + 1) n hn;obtain ⟨k, hk⟩ : ∃ k : Nat, n.e = (k : Int) := ⟨n.e.toNat, by have := el.2.1 (by lia); lia⟩
  have hki : k < i + 1 := by have := el.2.2; lia
  obtain ⟨v, hv⟩ : ∃ v, (lvs (ts.take (i + 1)))[k]? = some v := ⟨(lvs (ts.take (i + 1)))[k]'(by rw [cN, List.length_take]; lia), by simp⟩
  have e1 : bF (lvs (ts.take (i + 1))) n = v + 1 := by unfold bF; rw [if_neg (by lia), hk, Int.toNat_natCast, hv]; rfl
  rw [e1] at e0;have sn := kd (lvs (ts.take (i + 1))) (v + 1);rw [← e0, Int.natCast_add, Int.natCast_one] at sn;have ga := nA hv;push_cast only [ndD, hk, lb, aT, ga, sn];exact ⟨_, _, _, rfl⟩
 ·rintro ρ' rfl ⟨v2, v3, v4, rfl⟩
  rw [List.length_drop, aI, show ts.length - 1 + 1 = ts.length by lia, List.take_of_length_le (Nat.le_refl _)]
  obtain ⟨a, as, hL, hM⟩ := xh he h0;have nl := pT he h0;have mx : jw [.list (d6 (lvs ts))] = .ok (.sh (.int (iA (a : Int) (as.map fun k : Nat => (k : Int))))) := by
   have : d6 (lvs ts) = PyData.int (a : Int) :: (as.map fun k : Nat => (k : Int)).map PyData.int := by
    rw [hL];unfold d6;rw [List.map_cons, List.map_map];rfl
   rw [this];exact qr _ _
  have s1 : aB (iA (a : Int) (as.map fun k : Nat => (k : Int)) + 1) = true := by rw [hM]; exact eT (by lia) (by lia)
  push_cast only [aT, mx, s1];generalize hC : bb _ _ _ _ _ _ = rc
  have e := c6 hC (fun j : Nat => PyData.int (0 + (j : Int))) (fun j : Nat => .sh (.list (d6 ((List.range ts.length).filter fun k => decide ((((lvs ts)[k]?).getD 0) = j))))) (List.range (eQ (lvs ts) ts.length).length) (by rw [hM, Int.toNat_natCast]; rfl) (by rw [List.length_range]; exact of_eq_true (aP (by lia))) (by
   intro j hj;have s2 : aB (ts.length : Int) = true := eT (by lia) (by lia)
   push_cast only [aI, s2];generalize hC2 : bb _ _ _ _ _ _ = rc2
   have e2 := iZ hC2 (fun k : Nat => PyData.int (0 + (k : Int))) (fun k => decide ((((lvs ts)[k]?).getD 0) = j)) (fun k : Nat => .sh (.int (k : Int))) (List.range ts.length) (by rw [Int.toNat_natCast]; rfl) (by rw [List.length_range]; exact of_eq_true (aP (by lia))) (by
    intro k hk;rw [List.mem_range] at hk;obtain ⟨v, hv⟩ : ∃ v, (lvs ts)[k]? = some v := ⟨(lvs ts)[k]'(by rw [cN]; exact hk), by simp⟩
    have ga := nA hv;have dj : decide ((v : Int) = (0 : Int) + (j : Int)) = decide ((((lvs ts)[k]?).getD 0) = j) := by
     rw [hv];show _ = decide (v = j)
     by_cases h : v = j
     ·rw [decide_eq_true h, decide_eq_true (by lia)]
     ·rw [decide_eq_false h, decide_eq_false (by lia)]
    refine ⟨?_, fun _ => ?_⟩
    ·push_cast only [Int.zero_add, ga]
     rw [← dj, Int.zero_add]
    ·push_cast only [Int.zero_add])
   subst e2;have en : (((List.range ts.length).filter fun k => decide ((((lvs ts)[k]?).getD 0) = j)).map fun k : Nat => OD.sh (.int (k : Int))).map OD.er = d6 ((List.range ts.length).filter fun k => decide ((((lvs ts)[k]?).getD 0) = j)) := by
    unfold d6;rw [List.map_map];exact List.map_congr_left fun k _ => cZ _
   push_cast only [en])
  subst e;have en : (List.range (eQ (lvs ts) ts.length).length).map (fun j : Nat => OD.sh (.list (d6 ((List.range ts.length).filter fun k => decide ((((lvs ts)[k]?).getD 0) = j))))) = (xF (eQ (lvs ts) ts.length)).map OD.sh := by
   conv => rhs; rw [wo he]
   unfold xF;rw [List.map_map, List.map_map];rfl
  rw [en];push_cast only [and_self]
noncomputable def inB (j : Nat) (n : Nd) : Bool := decide ((j : Int) ≤ n.e)
theorem vt {α : Type} (p : α → Bool) : ∀ (L : List α) (s : Nat), s ≤ L.length → (∀ k, k < s → ∀ x, L[k]? = some x → p x = true) → (∀ x, L[s]? = some x → p x = false) → (L.takeWhile p).length = s
 | [], s, h, _, _ => by simp at h; subst h; rfl
 | a :: L, 0, _, _, h => by
  have := h a rfl;rw [List.takeWhile_cons, this];rfl
 | a :: L, s + 1, h, h1, h2 => by
  have := h1 0 (by lia) a rfl
  rw [List.takeWhile_cons, this, if_pos rfl, List.length_cons, vt p L s (by simp at h; lia) (fun k hk x hx => h1 (k + 1) (by lia) x hx) (fun x hx => h2 x hx)]
namespace F
theorem lr : ∀ f : F, (roots f).length ≤ (F.pre f).length
 | nil => Nat.le_refl _
 | cons a c r => by
  have := lr r;rw [roots, F.pre, List.length_cons, List.length_cons, List.length_append];lia
theorem qi {e : Nat → Int} : ∀ (f : F) (a m : Nat) (p : Int), F.pre f = List.range' a m → Eld e p f → p < (a : Int) → ∀ k ∈ F.pre f, e k < (k : Int)
 | nil, a, m, p, hp, _, _, j, h1 => by cases h1
 | cons k c r, a, m, p, hp, he, hpa, j, hj => by
  obtain ⟨e1, e2, e3⟩ := he;obtain ⟨m', rfl⟩ : ∃ m', m = m' + 1 := ⟨m - 1, by
   have := congrArg List.length hp;rw [F.pre, List.length_cons, List.length_range'] at this;lia⟩
  rw [F.pre, List.range'_succ] at hp;obtain ⟨hk, hrest⟩ := List.cons.inj hp;subst hk;have hl := congrArg List.length hrest;rw [List.length_append, List.length_range'] at hl;have hm : m' = (F.pre c).length + (F.pre r).length := by lia
  rw [hm, ← List.range'_append_1] at hrest;obtain ⟨hc, hr⟩ := List.append_inj hrest (by rw [List.length_range'])
  rw [F.pre] at hj;rcases List.mem_cons.mp hj with rfl | hj
  ·lia
  ·rcases List.mem_append.mp hj with hj | hj
   ·exact qi c (k + 1) _ (k : Int) hc e2 (by lia) j hj
   ·exact qi r (k + 1 + (F.pre c).length) _ p hr e3 (by lia) j hj
end F
theorem yV {ts : List Nd} {c : F} (p : PT ts c) {k : Nat} (hk : k < ts.length) : eOf ts k < (k : Int) := by
 refine F.qi (F.full c) 0 ts.length (-1) (by rw [p.preF, List.range_eq_range']) p.eldF (by decide) k ?_
 rw [p.preF, List.mem_range];exact hk
theorem xJ {ts : List Nd} {f : F} (hc : F.Con (chN ts) f) (hf : f ≠ F.nil) (hm : ∀ k ∈ F.pre f, k < ts.length) : ∃ g a b, F.roots f = F.roots g ++ [a] ∧ a < ts.length ∧ F.roots g ++ chN ts a = F.roots (F.app g b) ∧ F.Con (chN ts) (F.app g b) ∧ (F.pre f).length = (F.pre (F.app g b)).length + 1 ∧ (∀ k ∈ F.pre (F.app g b), k < ts.length) ∧ ∀ o : List Nat, (o ++ [a]) ++ F.fN (F.app g b) = o ++ F.fN f := by
 obtain ⟨g, a, b, rfl⟩ := F.snoc f hf;rw [F.j0] at hc;obtain ⟨h1, h2, h3, _⟩ := hc;refine ⟨g, a, b, by rw [F.je]; rfl, hm a (by rw [F.pre_app]; simp [F.pre]), by rw [h2, F.je], (F.j0 _ _).mpr ⟨h1, h3⟩, ?_, fun k m => hm k ?_, fun o => ?_⟩
 ·rw [F.pre_app, F.pre_app, List.length_append, List.length_append, F.pre, F.pre, List.append_nil, List.length_cons]
  lia
 ·rw [F.pre_app] at m ⊢
  rcases List.mem_append.mp m with m | m
  ·simp [m]
  ·simp [F.pre, m]
 ·rw [F.mC, F.mC, F.fN, F.fN, List.nil_append]
  simp
theorem s_ {f : F} (h : F.roots f = []) : f = F.nil := by
 cases f with
 | nil => rfl
 | cons k c r => cases h
theorem bx {ts : List Nd} {c : F} (p : PT ts c) : EL ts := by
 intro k n hn;have hk := (List.getElem?_eq_some_iff.mp hn).1;have lt := yV p hk;rw [bZ hn] at lt;have rt := p.eldF.1;refine ⟨fun z => ?_, fun z => ?_, lt⟩
 ·subst z
  rw [bZ hn] at rt;exact rt
 ·have pc : F.pre (F.full c) = List.range ts.length := p.preF
  have : F.pre c = List.range' 1 (ts.length - 1) := by
   unfold F.full at pc;rw [F.pre, List.range_eq_range', show ts.length = ts.length - 1 + 1 by lia, List.range'_succ] at pc
   have := (List.cons.inj pc).2;rw [F.pre, List.append_nil] at this;exact this
  have ge := F.u9 c 0 p.eldF.2.1 (fun k m => by rw [this, List.mem_range'_1] at m; lia) k (by rw [this, List.mem_range'_1]; lia)
  rw [bZ hn] at ge;exact ge
noncomputable abbrev Lb (ts : List Nd) : Prop := ∀ n ∈ ts, kM n.l
theorem vN {ts : List Nd} {k : Nat} (h : k < ts.length) : ts[k]? = some (eW ts k) := by
 unfold eW;rw [List.getElem?_eq_getElem h];rfl
theorem yt {ts : List Nd} {c : F} (p : PT ts c) (h : Lb ts) : Lb (dP ts c) := by
 intro n hn;unfold dP at hn;obtain ⟨k, hk, rfl⟩ := List.mem_map.mp hn;have hkn := p.mem.mp hk;exact h (eW ts k) (List.mem_of_getElem? (vN hkn))
noncomputable def iq : Fs := (aE (aJ 3 (eOp eS (eC (.int 256)) (eOp bB (ae 2) (eC (.int 1)))))
 (aE (aJ 4 (eSh (bT (iZp (ae 0) (ae 1)) (gTp 2 (bD (gNm 0) (bD (gNm 1) gE))) dt (eOp eO (eOp bB (eOp gIx (ae 0) (eC (.int 1))) (ae 2)) (eOp gIx (ae 1) (eC (.int 0)))) 2 [3])))
 (aE (aJ 5 (eB jw (ah (ae 4) az)))
 (e_ (iz (ah (ae 5) (ah (uq (ae 4) (ae 5)) az)))))))
noncomputable def dQ : Fn := dE 3 6 iq
noncomputable def dk : Fs := (aE (aJ 2 (eR (ah (eC (.int 0)) az)))
 (aE (fM (iR2 (eC (.int 1)) (eB cH (ah (ae 0) az))) (gNm 3) (aE (aJ 4 (eSh (lO (bT (iR1 (ae 3)) (gNm 0) dt (eOp bB (eOp gIx (ae 1) (ae 0)) (eOp gIx (bt dQ (ah (eOp gIx (ae 2) (ae 0)) (ah (eOp gIx (ae 2) (ae 3)) (ah (ae 4) az)))) (eC (.int 0)))) 1 [2, 0, 3, 1]))))
 (ib 2 (eB jw (ah (ae 4) az)))))
 (fm 2)))
noncomputable def cn : Fn := dE 2 5 dk
noncomputable def dS : Fs := (aE (aJ 3 (eB cH (ah (ae 0) az)))
 (aE (aJ 4 (eOp eS (eR (ah (ae 2) az)) (ae 3)))
 (aE (fM (iR3 (eOp eO (ae 3) (eC (.int 2))) (eUn fK (eC (.int 1))) (eUn fK (eC (.int 1)))) (gNm 5) (aE (aJ 6 (eOp gIx (ae 0) (ae 5)))
 (aE (aJ 7 (eSh (lO (bT (iR2 (eOp bB (ae 5) (eC (.int 1))) (ae 3)) (gNm 0) dt (eOp eO (eOp gIx (ae 1) (ae 0)) (eOp gIx (bt dQ (ah (ae 2) (ah (eOp gIx (ae 3) (ae 0)) (ah (ae 4) az)))) (eC (.int 0)))) 1 [4, 6, 0, 1]))))
 (o8 4 (ae 5) (eB jq (ah (ae 7) az))))))
 (fm 4))))
noncomputable def c7 : Fn := dE 3 8 dS
noncomputable def h7 : Fs := (aE (aJ 2 (eSh (bt cn (ah (ae 0) (ah (ae 1) az)))))
 (e_ (iz (ah (ae 2) (ah (eSh (bt c7 (ah (ae 0) (ah (ae 1) (ah (eOp gIx (ae 2) (eUn fK (eC (.int 1)))) az))))) az)))))
noncomputable def gk : Fn := dE 2 3 h7
noncomputable def eH (os : List (Int × Int)) : List PyData := os.map fun p => .tuple [.int p.1, .int p.2]
noncomputable def ask (gap : Int) (os ps : List (Int × Int)) : List Int := (os.zip ps).map fun z => z.1.2 + 256 * (gap + 1) - z.2.1
theorem pF : ∀ (os ps : List (Int × Int)), ku (eH os) (eH ps) = (os.zip ps).map fun z => .tuple [.tuple [.int z.1.1, .int z.1.2], .tuple [.int z.2.1, .int z.2.2]]
 | [], _ => rfl
 | _ :: _, [] => rfl
 | p :: os, q :: ps => by
  have := pF os ps;unfold eH ku at this ⊢;simp only [List.map_cons, List.zip_cons_cons];rw [this]
theorem qz (os ps : List (Int × Int)) (gap : Int) (ho : 1 ≤ os.length) (hp : 1 ≤ ps.length) (hb : os.length ≤ 100) : ∃ (m : Int) (l : Nat), dQ [.list (eH os), .list (eH ps), .int gap] = .ok (.sh (.tuple [.int m, .int l])) ∧
  (∀ z ∈ ask gap os ps, z ≤ m) ∧ (ask gap os ps)[l]? = some m ∧ ∀ j, j < l → (ask gap os ps)[j]? ≠ some m := by
 unfold dQ iq;push_cast only [and_self];generalize hL : bb _ _ _ _ _ _ = r
 have e := c6 hL (fun z : (Int × Int) × (Int × Int) => .tuple [.tuple [.int z.1.1, .int z.1.2], .tuple [.int z.2.1, .int z.2.2]]) (fun z => .sh (.int (z.1.2 + 256 * (gap + 1) - z.2.1))) (os.zip ps) (pF os ps) (by rw [List.length_zip]; exact of_eq_true (aP (by lia))) (by
  intro z _;push_cast only [and_self])
 subst e;have e2 : ((os.zip ps).map fun z : (Int × Int) × (Int × Int) => OD.sh (.int (z.1.2 + 256 * (gap + 1) - z.2.1))).map OD.er = (ask gap os ps).map PyData.int := by
  unfold ask;rw [List.map_map, List.map_map];exact List.map_congr_left fun z _ => cZ _
 obtain ⟨a, as, ha⟩ : ∃ a as, ask gap os ps = a :: as := by
  cases h : ask gap os ps with
  | nil =>
   have := congrArg List.length h;unfold ask at this;rw [List.length_map, List.length_zip, List.length_nil] at this;lia
  | cons a as => exact ⟨a, as, rfl⟩
 obtain ⟨m1, m2⟩ := fY as a;have hi : mK (PyData.int a :: as.map PyData.int) (.int (iA a as)) = .ok (.sh (.int ((a :: as).idxOf (iA a as) : Nat))) := zd (a :: as) _ m1;refine ⟨iA a as, (a :: as).idxOf (iA a as), ?_, ?_, ?_, ?_⟩
 ·push_cast only [e2, ha, qr, hi]
 ·rw [ha]; exact m2
 ·rw [ha]
  have hj := List.idxOf_lt_length_iff.mpr m1;rw [List.getElem?_eq_getElem hj, List.getElem_idxOf hj]
 ·rw [ha]
  intro j hj e;obtain ⟨h1, h2⟩ := List.getElem?_eq_some_iff.mp e;have := List.not_of_lt_findIdx (p := (· == iA a as)) hj;rw [h2] at this;simp at this
theorem vM {os : List (Int × Int)} {k : Nat} {p : Int × Int} (h : os[k]? = some p) : atI (eH os) (k : Int) = some (.tuple [.int p.1, .int p.2]) := eE (by unfold eH; rw [List.getElem?_map, h]; rfl)
theorem wG {gap : Int} {os ps : List (Int × Int)} {k : Nat} {p q : Int × Int} (h1 : os[k]? = some p) (h2 : ps[k]? = some q) : (ask gap os ps)[k]? = some (p.2 + 256 * (gap + 1) - q.1) := by
 unfold ask;rw [List.getElem?_map, List.getElem?_zip_eq_some (z := (p, q)) |>.mpr ⟨h1, h2⟩]
 rfl
noncomputable abbrev Ol := List (Int × Int)
noncomputable def cq (O : List Ol) : List PyData := O.map fun os => .list (eH os)
theorem jf (O : List Ol) : (cq O).length = O.length := by unfold cq; rw [List.length_map]
theorem iK {O : List Ol} {k : Nat} {os : Ol} (h : O[k]? = some os) : atI (cq O) (k : Int) = some (.list (eH os)) := eE (by unfold cq; rw [List.getElem?_map, h]; rfl)
noncomputable def okO (O : List Ol) : Prop := (∀ os ∈ O, 1 ≤ os.length ∧ os.length ≤ 100) ∧ 1 ≤ O.length ∧ O.length ≤ 100
noncomputable def dist (gap : Int) (os ps : Ol) : Int := match ask gap os ps with
 | a :: as => iA a as
 | [] => 0
theorem vC {gap : Int} {os ps : Ol} (h1 : 1 ≤ os.length) (h2 : 1 ≤ ps.length) : ∃ a as, ask gap os ps = a :: as := by
 cases h : ask gap os ps with
 | nil =>
  have := congrArg List.length h;unfold ask at this;rw [List.length_map, List.length_zip, List.length_nil] at this;lia
 | cons a as => exact ⟨a, as, rfl⟩
theorem nr (os ps : Ol) (gap : Int) (ho : 1 ≤ os.length) (hp : 1 ≤ ps.length) (hb : os.length ≤ 100) : ∃ l : Nat, dQ [.list (eH os), .list (eH ps), .int gap] = .ok (.sh (.tuple [.int (dist gap os ps), .int l])) := by
 obtain ⟨m, l, e, h1, h2, _⟩ := qz os ps gap ho hp hb;obtain ⟨a, as, ha⟩ := vC (gap := gap) ho hp;have : dist gap os ps = m := by
  unfold dist;rw [ha] at h1 h2 ⊢;obtain ⟨k1, k2⟩ := fY as a;exact Int.le_antisymm (h1 _ k1) (k2 _ (List.mem_of_getElem? h2))
 rw [this];exact ⟨l, e⟩
noncomputable def g6 : List Int → Int
 | [] => 0
 | a :: as => iA a as
theorem lK {xs : List Int} (h : xs ≠ []) : jw [.list (xs.map PyData.int)] = .ok (.sh (.int (g6 xs))) := by
 cases xs with
 | nil => exact absurd rfl h
 | cons a as => exact qr a as
theorem kZ (gap : Int) (os ps : Ol) : dist gap os ps = g6 (ask gap os ps) := by
 unfold dist g6;cases ask gap os ps <;> rfl
noncomputable def qC (gap : Int) (O : List Ol) (E : List Int) (k : Nat) : List Int := (List.range k).map fun j => E[j]?.getD 0 + dist gap (O[j]?.getD []) (O[k]?.getD [])
noncomputable def fQ (gap : Int) (O : List Ol) : Nat → List Int
 | 0 => [0]
 | k + 1 => fQ gap O k ++ [g6 (qC gap O (fQ gap O k) (k + 1))]
theorem gC (gap : Int) (O : List Ol) : ∀ k, (fQ gap O k).length = k + 1
 | 0 => rfl
 | k + 1 => by rw [fQ, List.length_append, gC gap O k]; rfl
theorem i6 (ns : List Int) (z : Int) : bG ns ++ [OD.sh (.int z)] = bG (ns ++ [z]) := by unfold bG; rw [List.map_append, List.map_append]; rfl
theorem int_at {ns : List Int} {k : Nat} {z : Int} (h : ns[k]? = some z) : atI (ns.map PyData.int) (k : Int) = some (.int z) := eE (by rw [List.getElem?_map, h]; rfl)
theorem sZ (ns : List Int) : (bG ns).all (fun y => flat y.er) = true := by
 unfold bG;rw [List.all_eq_true];intro x hx;obtain ⟨d, hd, rfl⟩ := List.mem_map.mp hx;obtain ⟨n, _, rfl⟩ := List.mem_map.mp hd;rw [cZ];rfl
theorem kz (ns : List Int) : y7 (.ol (bG ns)) = .ok (.ol (bG ns)) := by
 show (if (bG ns).all (fun y => flat y.er) = true then R.ok (OD.ol ((bG ns).map fun y => .sh y.er)) else .bad) = _
 rw [sZ, if_pos rfl];congr 2
 unfold bG;rw [List.map_map];exact List.map_congr_left fun x _ => by show OD.sh (OD.sh x).er = _; rw [cZ]
theorem uT {gap : Int} {O : List Ol} {E : List Int} {k j : Nat} {z : Int} {os ps : Ol} (hj : E[j]? = some z) (h1 : O[j]? = some os) (h2 : O[k]? = some ps) : E[j]?.getD 0 + dist gap (O[j]?.getD []) (O[k]?.getD []) = z + dist gap os ps := by rw [hj, h1, h2]; rfl
theorem qW {gap : Int} {O : List Ol} {E : List Int} {k : Nat} (h : 0 < k) : qC gap O E k ≠ [] := by
 intro z;have := congrArg List.length z;unfold qC at this;simp at this
 lia
theorem qm {α : Type} (L : List α) (f : α → Int) : (L.map fun x => OD.sh (.int (f x))) = bG (L.map f) := by
 unfold bG;rw [List.map_map, List.map_map];rfl
theorem qd (O : List Ol) (gap : Int) (hO : okO O) : cn [.list (cq O), .int gap] = .ok (.ol (bG (fQ gap O (O.length - 1)))) := by
 unfold cn dk;obtain ⟨ho, hl0, hl1⟩ := hO;have s1 : aB 1 = true := eT (by decide) (by decide)
 have s2 : aB (O.length : Int) = true := eT (by lia) (by lia)
 push_cast only [jf, s1, s2, Bool.and_self];generalize hL : bE _ _ _ _ = r'
 refine cC hL (fun i ρ => ∃ v3 v4 : Option OD, ρ = [some (.sh (.list (cq O))), some (.sh (.int gap)), some (.ol (bG (fQ gap O i))), v3, v4]) ⟨_, _, rfl⟩ ?_ ?_
 ·rintro i d ρ hd ⟨v3, v4, rfl⟩
  obtain ⟨hi, rfl⟩ := cY hd;have ei : (1 : Int) + (i : Int) = ((i + 1 : Nat) : Int) := by lia
  rw [ei];have s3 : aB ((i + 1 : Nat) : Int) = true := eT (by lia) (by lia)
  push_cast only [bV, s3];generalize hC : bb _ _ _ _ _ _ = rc
  have e := c6 hC (fun k : Nat => PyData.int (0 + (k : Int))) (fun j => .sh (.int ((fQ gap O i)[j]?.getD 0 + dist gap (O[j]?.getD []) (O[i + 1]?.getD [])))) (List.range (i + 1)) (by rw [Int.toNat_natCast]; rfl) (by rw [List.length_range]; exact of_eq_true (aP (by lia))) (by
   intro k hk;rw [List.mem_range] at hk;obtain ⟨z, hz⟩ : ∃ z, (fQ gap O i)[k]? = some z := ⟨(fQ gap O i)[k]'(by rw [gC]; exact hk), by simp⟩
   obtain ⟨os, h1⟩ : ∃ p, O[k]? = some p := ⟨O[k]'(by lia), by simp⟩
   obtain ⟨ps, h2⟩ : ∃ p, O[i + 1]? = some p := ⟨O[i + 1]'(by lia), by simp⟩
   obtain ⟨l, hn⟩ := nr os ps gap (ho os (List.mem_of_getElem? h1)).1 (ho ps (List.mem_of_getElem? h2)).1 (by have := (ho os (List.mem_of_getElem? h1)).2; lia)
   have g1 := int_at hz;have g2 := iK h1;have g3 := iK h2;rw [Int.zero_add, uT hz h1 h2];push_cast only [g1, g2, g3, hn])
  subst e;rw [qm];have hg := lK (qW (gap := gap) (O := O) (E := fQ gap O i) (k := i + 1) (by lia))
  have ea : (List.range (i + 1)).map (fun j => (fQ gap O i)[j]?.getD 0 + dist gap (O[j]?.getD []) (O[i + 1]?.getD [])) = qC gap O (fQ gap O i) (i + 1) := rfl
  rw [ea];have lb : ((bG (fQ gap O i)).length < BIG) = True := by rw [fL, gC]; exact eK (by lia)
  push_cast only [kz, bV, hg, lb, i6];exact ⟨_, _, rfl⟩
 ·rintro ρ' rfl ⟨v3, v4, rfl⟩
  rw [ey];push_cast only [and_self];rw [show ((O.length : Int) - 1).toNat = O.length - 1 by lia]
theorem lR (ns : List Int) (j : Nat) (z : Int) : (bG ns).set j (.sh (.int z)) = bG (ns.set j z) := by
 unfold bG;rw [List.map_map, List.map_map, List.map_set];rfl
noncomputable def gv (ls : List Int) (k : Nat) : Int := ls[k]?.getD 0
noncomputable def dO (gap : Int) (O : List Ol) (i j : Nat) : Int := dist gap (O[i]?.getD []) (O[j]?.getD [])
theorem eM {xs : List Int} (h : xs ≠ []) : g6 xs ∈ xs ∧ ∀ z ∈ xs, z ≤ g6 xs := by
 cases xs with
 | nil => exact absurd rfl h
 | cons a as => exact fY as a
theorem uW {xs : List Int} (h : xs ≠ []) : ∃ m, jq [.list (xs.map PyData.int)] = .ok (.sh (.int m)) ∧ m ∈ xs ∧ ∀ z ∈ xs, m ≤ z := by
 cases xs with
 | nil => exact absurd rfl h
 | cons a as => exact ⟨_, vA a as, i5 as a⟩
theorem oX (gap : Int) (O : List Ol) (m : Nat) : ∀ c j, j ≤ m → (fQ gap O (m + c))[j]? = (fQ gap O m)[j]?
 | 0, _, _ => rfl
 | c + 1, j, h => by
  rw [← oX gap O m c j h, ← Nat.add_assoc];show (fQ gap O (m + c) ++ _)[j]? = _
  rw [List.getElem?_append_left (by rw [gC]; lia)]
theorem vX (gap : Int) (O : List Ol) (n : Nat) (hn : 0 < n) : IsE n (dO gap O) (gv (fQ gap O (n - 1))) := by
 have pre : ∀ m j, j ≤ m → m < n → gv (fQ gap O (n - 1)) j = gv (fQ gap O m) j := fun m j h h2 => by
  unfold gv;have := oX gap O m (n - 1 - m) j h;rw [show m + (n - 1 - m) = n - 1 by lia] at this
  rw [this]
 refine ⟨?_, fun k h0 hk => ?_⟩
 ·rw [pre 0 0 (Nat.le_refl _) hn]
  rfl
 ·obtain ⟨m, rfl⟩ : ∃ m, k = m + 1 := ⟨k - 1, by lia⟩
  have ev : gv (fQ gap O (n - 1)) (m + 1) = g6 (qC gap O (fQ gap O m) (m + 1)) := by
   rw [pre (m + 1) (m + 1) (Nat.le_refl _) hk];unfold gv;show (fQ gap O m ++ _)[m + 1]?.getD 0 = _
   rw [List.getElem?_append_right (by rw [gC]; lia), gC, Nat.sub_self]
   rfl
  obtain ⟨s1, s2⟩ := eM (qW (gap := gap) (O := O) (E := fQ gap O m) (k := m + 1) (by lia))
  rw [ev];refine ⟨fun j hj => ?_, ?_⟩
  ·refine s2 _ ?_
   unfold qC;rw [List.mem_map];exact ⟨j, List.mem_range.mpr hj, by rw [pre m j (by lia) (by lia)]; rfl⟩
  ·unfold qC at s1
   rw [List.mem_map] at s1;obtain ⟨j, hj, e⟩ := s1;rw [List.mem_range] at hj;refine ⟨j, hj, ?_⟩;rw [pre m j (by lia) (by lia)]
   exact e.symm
noncomputable def LI (n : Nat) (d : Nat → Nat → Int) (last : Int) (m : Nat) (ls : List Int) : Prop := ls.length = n ∧ gv ls (n - 1) = last ∧ ∀ k, m ≤ k → k + 1 < n → (∀ j, k < j → j < n → gv ls k ≤ gv ls j - d k j) ∧ ∃ j, k < j ∧ j < n ∧ gv ls k = gv ls j - d k j
theorem AR {ls : List Int} {m : Nat} {v : Int} (h : m < ls.length) (k : Nat) : gv (ls.set m v) k = if k = m then v else gv ls k := by
 unfold gv;by_cases hk : k = m
 ·subst hk
  rw [if_pos rfl, List.getElem?_set_self h];rfl
 ·rw [if_neg hk, List.getElem?_set_ne (fun z => hk z.symm)]
theorem wJ {n : Nat} {d : Nat → Nat → Int} {last : Int} {m : Nat} {ls : List Int} {v : Int} (h : LI n d last (m + 1) ls) (hm : m + 1 < n) (h1 : v ∈ (List.range (n - (m + 1))).map fun k => gv ls (m + 1 + k) - d m (m + 1 + k)) (h2 : ∀ z ∈ (List.range (n - (m + 1))).map fun k => gv ls (m + 1 + k) - d m (m + 1 + k), v ≤ z) : LI n d last m (ls.set m v) := by
 obtain ⟨a, b, c⟩ := h;have sv := AR (v := v) (show m < ls.length by lia)
 refine ⟨by rw [List.length_set]; exact a, ?_, fun k hk hk2 => ?_⟩
 ·rw [sv, if_neg (by lia)]
  exact b
 ·by_cases e : k = m
  ·subst e
   refine ⟨fun j j1 j2 => ?_, ?_⟩
   ·rw [sv, sv, if_pos rfl, if_neg (by lia)]
    refine h2 _ ?_;rw [List.mem_map];exact ⟨j - (k + 1), List.mem_range.mpr (by lia), by rw [show k + 1 + (j - (k + 1)) = j by lia]⟩
   ·rw [List.mem_map] at h1
    obtain ⟨q, hq, e⟩ := h1;rw [List.mem_range] at hq;refine ⟨k + 1 + q, by lia, by lia, ?_⟩
    rw [sv, sv, if_pos rfl, if_neg (by lia)]
    exact e.symm
  ·obtain ⟨c1, j, c2, c3, c4⟩ := c k (by lia) hk2
   refine ⟨fun j j1 j2 => ?_, j, c2, c3, ?_⟩
   ·rw [sv, sv, if_neg e, if_neg (by lia)]
    exact c1 j j1 j2
   ·rw [sv, sv, if_neg e, if_neg (by lia)]
    exact c4
theorem t6 (O : List Ol) (gap last : Int) (hO : okO O) : ∃ ls : List Int, LI O.length (dO gap O) last 0 ls ∧ c7 [.list (cq O), .int gap, .int last] = .ok (.ol (bG ls)) := by
 unfold c7 dS;obtain ⟨ho, hl0, hl1⟩ := hO;have rp : eS (.list [.int last]) (.int (O.length : Int)) = .ok (.ol (bG (List.replicate O.length last))) := by
  rw [k8 _ _ (by lia)]
  unfold bG;simp only [List.map_replicate]
 have r3 := fun (ρ : L3.Env) (h1 : (eOp eO (ae 3) (eC (.int 2))) ρ = .ok (.sh (.int ((O.length : Int) - 2)))) => Cz (fa := eOp eO (ae 3) (eC (.int 2))) (fb := eUn fK (eC (.int 1))) (fc := eUn fK (eC (.int 1))) (ρ := ρ) (x := (O.length : Int) - 2) (y := -1) (z := -1) h1 rfl rfl rfl (eT (by lia) (by lia)) (eT (by decide) (by decide))
 push_cast only [jf, rp];rw [r3 _ rfl];push_cast only [and_self];generalize hL : bE _ _ _ _ = r'
 have st : LI O.length (dO gap O) last (O.length - 1 - 0) (List.replicate O.length last) := by
  refine ⟨by simp, ?_, fun k h1 h2 => by lia⟩
  unfold gv;rw [List.getElem?_replicate, if_pos (by lia)]
  rfl
 refine cC hL (fun i ρ => ∃ (ls : List Int) (v5 v6 v7 : Option OD), LI O.length (dO gap O) last (O.length - 1 - i) ls ∧ ρ = [some (.sh (.list (cq O))), some (.sh (.int gap)), some (.sh (.int last)), some (.sh (.int O.length)), some (.ol (bG ls)), v5, v6, v7]) ⟨List.replicate O.length last, _, _, _, st, rfl⟩ ?_ ?_
 ·rintro i d ρ hd ⟨ls, v5, v6, v7, hli, rfl⟩
  have hls := hli.1;obtain ⟨hi, rfl⟩ := pQ hd;obtain ⟨m, hm⟩ : ∃ m : Nat, (O.length : Int) - 2 - (i : Int) = (m : Int) := ⟨((O.length : Int) - 2 - (i : Int)).toNat, by lia⟩
  have hm2 : m + 1 < O.length := by lia
  rw [hm];obtain ⟨os, h1⟩ : ∃ p, O[m]? = some p := ⟨O[m]'(by lia), by simp⟩
  have g1 := iK h1;have em : (m : Int) + 1 = ((m + 1 : Nat) : Int) := by lia
  have s3 : aB ((m + 1 : Nat) : Int) = true := eT (by lia) (by lia)
  have s4 : aB (O.length : Int) = true := eT (by lia) (by lia)
  push_cast only [g1, em, s3, s4, Bool.and_self, bV];generalize hC : bb _ _ _ _ _ _ = rc
  have hcnt : ((O.length : Int) - ((m + 1 : Nat) : Int)).toNat = O.length - (m + 1) := by lia
  have e := c6 hC (fun k : Nat => PyData.int (((m + 1 : Nat) : Int) + (k : Int))) (fun k => .sh (.int (gv ls (m + 1 + k) - dO gap O m (m + 1 + k)))) (List.range (O.length - (m + 1))) (by rw [hcnt]; rfl) (by rw [List.length_range]; exact of_eq_true (aP (by lia))) (by
   intro k hk;rw [List.mem_range] at hk;have ek : ((m + 1 : Nat) : Int) + (k : Int) = ((m + 1 + k : Nat) : Int) := by lia
   rw [ek];obtain ⟨z, hz⟩ : ∃ z, ls[m + 1 + k]? = some z := ⟨ls[m + 1 + k]'(by lia), by simp⟩
   obtain ⟨ps, h2⟩ : ∃ p, O[m + 1 + k]? = some p := ⟨O[m + 1 + k]'(by lia), by simp⟩
   obtain ⟨l, hn⟩ := nr os ps gap (ho os (List.mem_of_getElem? h1)).1 (ho ps (List.mem_of_getElem? h2)).1 (by have := (ho os (List.mem_of_getElem? h1)).2; lia)
   have g1 := int_at hz;have g3 := iK h2;have q1 : gv ls (m + 1 + k) = z := by unfold gv; rw [hz]; rfl
   have q2 : dO gap O m (m + 1 + k) = dist gap os ps := by unfold dO; rw [h1, h2]; rfl
   rw [q1, q2];push_cast only [g1, g3, hn])
  subst e;rw [qm];obtain ⟨mn, hmn, hmem, hle⟩ := uW (xs := (List.range (O.length - (m + 1))).map fun k => gv ls (m + 1 + k) - dO gap O m (m + 1 + k)) (by
   intro z;have := congrArg List.length z;simp at this
   lia)
  have ix : ixN (bG ls).length (m : Int) = some m := iX (by rw [fL]; lia)
  have nx := wJ (by rw [show m + 1 = O.length - 1 - i by lia]; exact hli) hm2 hmem hle
  rw [show m = O.length - 1 - (i + 1) by lia] at nx
  push_cast only [kz, bV, hmn, uK ix, lR];rw [show m = O.length - 1 - (i + 1) by lia]
  exact ⟨_, _, _, _, nx, rfl⟩
 ·rintro ρ' rfl ⟨ls, v5, v6, v7, hli, rfl⟩
  push_cast only [and_self];refine ⟨ls, ?_, rfl⟩;have : O.length - 1 - (mm ((O.length : Int) - 2) ((O.length : Int) - 2 - -1).toNat).length = 0 := by
   unfold mm;rw [List.length_map, List.length_range];lia
  rw [this] at hli;exact hli
theorem lB {ls : List Int} {k : Nat} (h : k < ls.length) : ls[k]? = some (gv ls k) := by
 unfold gv;rw [List.getElem?_eq_getElem h];rfl
theorem nG {ls : List Int} {n : Nat} (h : ls.length = n) (hn : 0 < n) : atI (ls.map PyData.int) (-1) = some (.int (gv ls (n - 1))) := by
 have hne : ls ≠ [] := fun z => by rw [z] at h; simp at h; lia
 have e : gv ls (n - 1) = ls.getLast hne := by
  have h1 := lB (ls := ls) (k := n - 1) (by lia)
  rw [List.getLast_eq_getElem];rw [List.getElem?_eq_getElem (by lia)] at h1
  have h2 := Option.some.inj h1;rw [← h2];congr 1
  lia
 rw [e]
 conv => lhs; rw [← List.dropLast_concat_getLast hne, List.map_append]
 exact o6 _ _
theorem xp (O : List Ol) (gap : Int) (hO : okO O) : ∃ es ls : List Int, es.length = O.length ∧ ls.length = O.length ∧ IsE O.length (dO gap O) (gv es) ∧ IsL O.length (dO gap O) (gv es (O.length - 1)) (gv ls) ∧ gk [.list (cq O), .int gap] = .ok (.sh (.tuple [.list (es.map PyData.int), .list (ls.map PyData.int)])) := by
 have h1 := hO.2.1;have le : (fQ gap O (O.length - 1)).length = O.length := by rw [gC]; lia
 have hz := nG le (by lia)
 obtain ⟨ls, hl, e⟩ := t6 O gap (gv (fQ gap O (O.length - 1)) (O.length - 1)) hO;refine ⟨_, ls, le, hl.1, vX gap O O.length (by lia), ⟨hl.2.1, fun k hk => hl.2.2 k (Nat.zero_le _) hk⟩, ?_⟩
 unfold gk h7;push_cast only [qd O gap hO, bV, hz, e]
noncomputable def dH : Fs := (aE (aJ 2 (eR az))
 (aE (fM (iR1 (eB jw (ah (bT (fZ (ae 0)) (gNm 0) dt (eB cH (ah (ae 0) az)) 1 []) az))) (gNm 3) (aE (aJ 4 (eSh (bT (iEn (ae 0)) (gTp 2 (bD (gNm 0) (bD (gNm 1) gE))) (br (eOp gLt (ae 2) (eB cH (ah (ae 1) az)))) (ae 0) 2 [3])))
 (aE (aJ 5 (eB jq (ah (bT (fZ (ae 4)) (gNm 0) dt (eOp bB (eOp gIx (ae 1) (ae 0)) (eOp gIx (eOp gIx (eOp gIx (ae 2) (ae 0)) (ae 3)) (eC (.int 0)))) 1 [1, 0, 3]) az)))
 (aE (aJ 6 (eB jw (ah (bT (fZ (ae 4)) (gNm 0) dt (eOp bB (eOp gIx (ae 1) (ae 0)) (eOp gIx (eOp gIx (eOp gIx (ae 2) (ae 0)) (ae 3)) (eC (.int 1)))) 1 [1, 0, 3]) az)))
 (ib 2 (iz (ah (ae 5) (ah (ae 6) az))))))))
 (fm 2)))
noncomputable def bU : Fn := dE 2 7 dH
noncomputable def eA : Fs := (aE (aJ 2 (eSh (bt gk (ah (ae 0) (ah (ae 1) az)))))
 (aE (aJ 3 (eOp gR (eOp gIx (eOp gIx (ae 2) (eC (.int 0))) (eUn fK (eC (.int 1)))) (eC (.int 2))))
 (e_ (bT (iZp (eOp gIx (ae 2) (eC (.int 0))) (eOp gIx (ae 2) (eC (.int 1)))) (gTp 2 (bD (gNm 0) (bD (gNm 1) gE))) dt (eOp eO (eOp gR (eOp bB (ae 0) (ae 1)) (eC (.int 2))) (ae 2)) 2 [3]))))
noncomputable def bg : Fn := dE 2 4 eA
noncomputable def jd : Fs := (aE (aJ 2 (eOp eS (eR (ah (eC (.int 0)) az)) (eB cH (ah (ae 0) az))))
 (aE (aJ 3 (bT (fZ (bt eJ (ah (ae 0) az))) (gNm 0) dt (eR (ah (eSh (iz (ah (eOp eS (eUn fK (eC (.int 256))) (ae 0)) (ah (eOp eS (eC (.int 256)) (ae 0)) az)))) az)) 1 []))
 (aE (fM (iR3 (eOp eO (eB cH (ah (ae 0) az)) (eC (.int 1))) (eUn fK (eC (.int 1))) (eUn fK (eC (.int 1)))) (gNm 4) (aE (aJ 5 (eSh (bt dM (ah (ae 0) (ah (ae 4) az)))))
 (sIf (br (eOp gGt (eB cH (ah (ae 5) az)) (eC (.int 0)))) (aE (mX 3 5 (aJ 6 (eSh (tE 3 5))))
 (aE (aJ 7 (eSh (bt bg (ah (ae 6) (ah (ae 1) az)))))
 (aE (fM (iZp (ae 5) (ae 7)) (gTp 2 (bD (gNm 8) (bD (gNm 9) gE))) (o8 2 (ae 8) (ae 9)))
 (kG 3 (ae 4) (bt bU (ah (ae 6) (ah (ae 7) az))))))) sNx)))
 (mU 3 (mU 2 (e_ (iz (ah (ae 2) (ah (ae 3) az)))))))))
noncomputable def hR : Fn := dE 2 10 jd
noncomputable def dU : Fs := (aE (aJ 3 (eB jq (ah (bT (iZp (ae 1) (bt eJ (ah (ae 0) az))) (gTp 2 (bD (gNm 0) (bD (gNm 1) gE))) dt (eOp eO (ae 0) (eOp eS (ae 2) (ae 1))) 2 [2]) az)))
 (e_ (bT (fZ (ae 1)) (gNm 0) dt (eOp eO (ae 0) (ae 1)) 1 [3])))
noncomputable def c9 : Fn := dE 3 4 dU
noncomputable def jM : Fs := (aE (aJ 2 (eOp gIx (bt hR (ah (ae 0) (ah (ae 1) az))) (eC (.int 0))))
 (aE (aJ 3 (eR (ah (eC (.int 0)) az)))
 (aE (fM (iR2 (eC (.int 1)) (eB cH (ah (ae 0) az))) (gNm 4) (ib 3 (mH (eOp bB (eOp gIx (ae 3) (eOp gIx (eOp gIx (ae 0) (ae 4)) (eC (.int 0)))) (eOp gIx (ae 2) (ae 4))))))
 (mU 3 (e_ (bt c9 (ah (ae 0) (ah (ae 3) (ah (eC (.int 256)) az)))))))))
noncomputable def g9 : Fn := dE 2 5 jM
noncomputable def jz : List Int → Int
 | [] => 0
 | a :: as => nW a as
theorem lT {xs : List Int} (h : xs ≠ []) : jq [.list (xs.map PyData.int)] = .ok (.sh (.int (jz xs))) := by
 cases xs with
 | nil => exact absurd rfl h
 | cons a as => exact vA a as
theorem fX {xs : List Int} (h : xs ≠ []) : jz xs ∈ xs ∧ ∀ z ∈ xs, jz xs ≤ z := by
 cases xs with
 | nil => exact absurd rfl h
 | cons a as => exact i5 as a
noncomputable def oA (O : List Ol) (j l : Nat) : Int × Int := ((O[j]?.getD [])[l]?).getD (0, 0)
noncomputable def gD (O : List Ol) (j : Nat) : Nat := (O[j]?.getD []).length
noncomputable def there (O : List Ol) (l : Nat) : List Nat := (List.range O.length).filter fun j => decide (l < gD O j)
noncomputable def jl (O : List Ol) (st : List Int) (l : Nat) : Int × Int := (jz ((there O l).map fun j => gv st j + (oA O j l).1), g6 ((there O l).map fun j => gv st j + (oA O j l).2))
noncomputable def mxN (O : List Ol) : Nat := (g6 (O.map fun o => (o.length : Int))).toNat
noncomputable def jo (O : List Ol) (st : List Int) : Ol := (List.range (mxN O)).map (jl O st)
theorem iR (os : Ol) : (eH os).length = os.length := by unfold eH; rw [List.length_map]
theorem jx {O : List Ol} (h : O ≠ []) : g6 (O.map fun o => (o.length : Int)) = (mxN O : Int) ∧ (∃ j, j < O.length ∧ gD O j = mxN O) ∧ ∀ j, j < O.length → gD O j ≤ mxN O := by
 obtain ⟨s1, s2⟩ := eM (xs := O.map fun o => (o.length : Int)) (fun z => h (List.map_eq_nil_iff.mp z))
 obtain ⟨o, ho, eo⟩ := List.mem_map.mp s1;have e : g6 (O.map fun o => (o.length : Int)) = (mxN O : Int) := by
  unfold mxN;rw [← eo];rfl
 refine ⟨e, ?_, fun j hj => ?_⟩
 ·obtain ⟨j, hj, ej⟩ := List.getElem_of_mem ho
  refine ⟨j, hj, ?_⟩;unfold gD;rw [List.getElem?_eq_getElem hj, ej];show o.length = _
  have : (o.length : Int) = (mxN O : Int) := by rw [← e]; exact eo
  lia
 ·have := s2 (gD O j : Int) (List.mem_map.mpr ⟨O[j], List.getElem_mem hj, by unfold gD; rw [List.getElem?_eq_getElem hj]; rfl⟩)
  rw [e] at this;lia
theorem gY {O : List Ol} {l : Nat} (h : O ≠ []) (hl : l < mxN O) : there O l ≠ [] := by
 obtain ⟨_, ⟨j, hj, ej⟩, _⟩ := jx h;intro z;have : j ∈ there O l := List.mem_filter.mpr ⟨List.mem_range.mpr hj, decide_eq_true (by lia)⟩
 rw [z] at this;cases this
theorem sN (O : List Ol) : fT (cq O) = (List.range O.length).map fun j : Nat => PyData.tuple [.int (j : Int), .list (eH (O[j]?.getD []))] := by
 apply List.ext_getElem?
 intro i;rw [List.getElem?_map];by_cases hi : i < O.length
 ·rw [List.getElem?_range hi]
  unfold fT cq;rw [List.getElem?_map, List.getElem?_zipIdx, List.getElem?_map, List.getElem?_eq_getElem hi];simp [List.getElem?_eq_getElem hi]
 ·rw [List.getElem?_eq_none (by unfold fT cq; simp; lia), List.getElem?_eq_none (by rw [List.length_range]; lia)]
  rfl
theorem pL (O : List Ol) {j : Nat} (h : j < O.length) : atI (cq O) (j : Int) = some (.list (eH (O[j]?.getD []))) := by
 rw [List.getElem?_eq_getElem h];exact iK (List.getElem?_eq_getElem h)
theorem rg (os : Ol) {l : Nat} (h : l < os.length) : atI (eH os) (l : Int) = some (.tuple [.int ((os[l]?).getD (0, 0)).1, .int ((os[l]?).getD (0, 0)).2]) := by
 rw [List.getElem?_eq_getElem h];exact vM (List.getElem?_eq_getElem h)
theorem cE {st : List Int} {j : Nat} (h : j < st.length) : atI (st.map PyData.int) (j : Int) = some (.int (gv st j)) := int_at (lB h)
theorem Fd (L : List Nat) : (L.map fun k : Nat => OD.sh (.int (k : Int))).map OD.er = d6 L := by
 unfold d6;rw [List.map_map];exact List.map_congr_left fun k _ => cZ _
theorem sx (os : Ol) (p : Int × Int) : (eH os).map OD.sh ++ [OD.sh (.tuple [.int p.1, .int p.2])] = (eH (os ++ [p])).map OD.sh := by
 unfold eH;rw [List.map_append, List.map_append];rfl
theorem tw (O : List Ol) (st : List Int) (hO : okO O) (hs : st.length = O.length) : bU [.list (cq O), .list (st.map PyData.int)] = .ok (.ol ((eH (jo O st)).map OD.sh)) := by
 unfold bU dH;obtain ⟨ho, hl0, hl1⟩ := hO;have hne : O ≠ [] := fun z => by rw [z] at hl0; simp at hl0
 obtain ⟨mx1, mx2, mx3⟩ := jx hne;have mb : mxN O ≤ 100 := by
  obtain ⟨j, hj, ej⟩ := mx2;have := (ho O[j] (List.getElem_mem hj)).2;unfold gD at ej;rw [List.getElem?_eq_getElem hj] at ej;have ej' : O[j].length = mxN O := ej;lia
 push_cast only [and_self];generalize hC : bb _ _ _ _ _ _ = rc
 have e := c6 hC (fun o : Ol => .list (eH o)) (fun o : Ol => .sh (.int (o.length : Int))) O rfl (of_eq_true (aP (by lia))) (by
  intro o ho;push_cast only [iR])
 subst e;have e2 : (O.map fun o : Ol => OD.sh (.int (o.length : Int))).map OD.er = (O.map fun o : Ol => (o.length : Int)).map PyData.int := by
  rw [List.map_map, List.map_map];exact List.map_congr_left fun o _ => cZ _
 have hg := lK (xs := O.map fun o : Ol => (o.length : Int)) (fun z => hne (List.map_eq_nil_iff.mp z))
 rw [mx1] at hg;have s1 : aB (mxN O : Int) = true := eT (by lia) (by lia)
 push_cast only [e2, hg, s1];generalize hL : bE _ _ _ _ = r'
 refine cC hL (fun i ρ => ∃ v3 v4 v5 v6 : Option OD, ρ = [some (.sh (.list (cq O))), some (.sh (.list (st.map PyData.int))), some (.ol ((eH ((List.range i).map (jl O st))).map OD.sh)), v3, v4, v5, v6]) ⟨_, _, _, _, rfl⟩ ?_ ?_
 ·rintro i d ρ hd ⟨v3, v4, v5, v6, rfl⟩
  obtain ⟨hi, rfl⟩ := cY hd;rw [Int.toNat_natCast] at hi;rw [Int.zero_add];have tne := gY hne hi;have tin : ∀ j ∈ there O i, j < O.length ∧ i < gD O j := fun j hj => by
   have := List.mem_filter.mp hj;exact ⟨List.mem_range.mp this.1, of_decide_eq_true this.2⟩
  have tl : (there O i).length ≤ 100 := by
   have := List.length_filter_le (fun j => decide (i < gD O j)) (List.range O.length)
   rw [List.length_range] at this;unfold there;lia
  push_cast only [and_self];generalize hC : bb _ _ _ _ _ _ = rc
  have e := iZ hC (fun j : Nat => PyData.tuple [.int (j : Int), .list (eH (O[j]?.getD []))]) (fun j => decide (i < gD O j)) (fun j : Nat => .sh (.int (j : Int))) (List.range O.length) (sN O) (by rw [List.length_range]; exact of_eq_true (aP (by lia))) (by
   intro j hj;have dj : decide ((i : Int) < ((O[j]?.getD []).length : Int)) = decide (i < gD O j) := by
    unfold gD;by_cases h : i < (O[j]?.getD []).length
    ·rw [decide_eq_true h, decide_eq_true (by lia)]
    ·rw [decide_eq_false h, decide_eq_false (by lia)]
   refine ⟨?_, fun _ => ?_⟩
   ·push_cast only [iR, dj]
   ·push_cast only [and_self])
  subst e;clear hC;have e3 : ((List.range O.length).filter fun j => decide (i < gD O j)) = there O i := rfl
  rw [e3];push_cast only [Fd];generalize hC : bb _ _ _ _ _ _ = rc
  have e := c6 hC (fun j : Nat => PyData.int (j : Int)) (fun j => .sh (.int (gv st j + (oA O j i).1))) (there O i) rfl (of_eq_true (aP (by lia))) (by
   intro j hj;obtain ⟨j1, j2⟩ := tin j hj;have g1 := cE (st := st) (j := j) (by lia)
   have g2 := pL O j1;have g3 := rg (O[j]?.getD []) (l := i) j2;push_cast only [g1, g2, g3];rfl)
  subst e;clear hC;have hm1 := lT (xs := (there O i).map fun j => gv st j + (oA O j i).1) (fun z => tne (List.map_eq_nil_iff.mp z))
  have hm2 := lK (xs := (there O i).map fun j => gv st j + (oA O j i).2) (fun z => tne (List.map_eq_nil_iff.mp z))
  rw [qm];push_cast only [bV, hm1];generalize hC : bb _ _ _ _ _ _ = rc
  have e := c6 hC (fun j : Nat => PyData.int (j : Int)) (fun j => .sh (.int (gv st j + (oA O j i).2))) (there O i) rfl (of_eq_true (aP (by lia))) (by
   intro j hj;obtain ⟨j1, j2⟩ := tin j hj;have g1 := cE (st := st) (j := j) (by lia)
   have g2 := pL O j1;have g3 := rg (O[j]?.getD []) (l := i) j2;push_cast only [g1, g2, g3];rfl)
  subst e;clear hC;rw [qm];have lb : ((eH ((List.range i).map (jl O st))).length < BIG) = True := by rw [iR, List.length_map, List.length_range]; exact eK (by lia)
  push_cast only [bV, hm2, lb];have sn := sx ((List.range i).map (jl O st)) (jl O st i);rw [show (List.range i).map (jl O st) ++ [jl O st i] = (List.range (i + 1)).map (jl O st) by rw [List.range_succ, List.map_append]; rfl] at sn
  rw [← sn];exact ⟨_, _, _, _, rfl⟩
 ·rintro ρ' rfl ⟨v3, v4, v5, v6, rfl⟩
  rw [ey, Int.toNat_natCast];push_cast only [and_self];rfl
theorem qJ (O : List Ol) (st : List Int) : (jo O st).length = mxN O := by unfold jo; rw [List.length_map, List.length_range]
theorem vo {es ls : List Int} {n : Nat} (he : es.length = n) (hl : ls.length = n) : ku (es.map PyData.int) (ls.map PyData.int) = (List.range n).map fun k => PyData.tuple [.int (gv es k), .int (gv ls k)] := by
 apply List.ext_getElem?
 intro i;unfold ku;rw [List.getElem?_map, List.getElem?_map];by_cases hi : i < n
 ·rw [List.getElem?_range hi, (List.getElem?_zip_eq_some (z := (PyData.int (gv es i), PyData.int (gv ls i)))).mpr ⟨by rw [List.getElem?_map, lB (by lia)]; rfl, by rw [List.getElem?_map, lB (by lia)]; rfl⟩]
  rfl
 ·rw [List.getElem?_eq_none (by simp; lia), List.getElem?_eq_none (by simp; lia)]
  rfl
structure IsSt (gap : Int) (O : List Ol) (es ls st : List Int) : Prop where
 le : es.length = O.length
 ll : ls.length = O.length
 lst : st.length = O.length
 isE : IsE O.length (dO gap O) (gv es)
 isL : IsL O.length (dO gap O) (gv es (O.length - 1)) (gv ls)
 eq : ∀ k, k < O.length → gv st k = (gv es k + gv ls k) / 2 - gv es (O.length - 1) / 2
theorem tM (O : List Ol) (gap : Int) (hO : okO O) : ∃ es ls st : List Int, IsSt gap O es ls st ∧ bg [.list (cq O), .int gap] = .ok (.ol (bG st)) := by
 obtain ⟨es, ls, h1, h2, h3, h4, h5⟩ := xp O gap hO;have hn := hO.2.1;refine ⟨es, ls, (List.range O.length).map fun k => (gv es k + gv ls k) / 2 - gv es (O.length - 1) / 2, ⟨h1, h2, by simp, h3, h4, fun k hk => by
  unfold gv;rw [List.getElem?_map, List.getElem?_range hk];rfl⟩, ?_⟩
 unfold bg eA;have la := nG h1 (by lia)
 have lb := hO.2.2;push_cast only [h5, bV, la, vo h1 h2];generalize hC : bb _ _ _ _ _ _ = rc
 have e := c6 hC (fun k : Nat => PyData.tuple [.int (gv es k), .int (gv ls k)]) (fun k => .sh (.int ((gv es k + gv ls k) / 2 - gv es (O.length - 1) / 2))) (List.range O.length) rfl (by rw [List.length_range]; exact of_eq_true (aP (by lia))) (by
  intro k hk;push_cast only [and_self])
 subst e;rw [qm];push_cast only [and_self]
open Classical in
noncomputable def stF (gap : Int) (O : List Ol) : List Int := if h : ∃ st : List Int, bg [.list (cq O), .int gap] = .ok (.ol (bG st)) then choose h else []
theorem uH {a b : List Int} (h : bG a = bG b) : a = b := by
 have := congrArg (List.map OD.er) h;rw [bV, bV] at this;have inj : ∀ x y : List Int, x.map PyData.int = y.map PyData.int → x = y := by
  intro x
  induction x with
  | nil => intro y hy; cases y with | nil => rfl | cons b y => simp at hy
  | cons a x ih =>
   intro y hy;cases y with
   | nil => simp at hy
   | cons b y =>
    simp at hy
    rw [hy.1, ih y (by simpa using hy.2)]
 exact inj a b this
theorem jH {O : List Ol} {gap : Int} (hO : okO O) : (∃ es ls, IsSt gap O es ls (stF gap O)) ∧ bg [.list (cq O), .int gap] = .ok (.ol (bG (stF gap O))) := by
 obtain ⟨es, ls, st, h1, h2⟩ := tM O gap hO;have hex : ∃ st : List Int, bg [.list (cq O), .int gap] = .ok (.ol (bG st)) := ⟨st, h2⟩;have hs : bg [.list (cq O), .int gap] = .ok (.ol (bG (stF gap O))) := by
  unfold stF;rw [dif_pos hex];exact Classical.choose_spec hex
 have : stF gap O = st := by
  rw [h2] at hs;exact (uH (OD.ol.inj (R.ok.inj hs))).symm
 exact ⟨⟨es, ls, by rw [this]; exact h1⟩, hs⟩
noncomputable def ini (ts : List Nd) (k : Nat) : Ol := [(-256 * gv (aX ts) k, 256 * gv (aX ts) k)]
noncomputable def hG (out : List Ol) (k : Nat) : Ol := (out[k]?).getD []
noncomputable def a9 (ts : List Nd) (out : List Ol) (k : Nat) : List Ol := (chN ts k).map (hG out)
noncomputable def joB (ts : List Nd) (gap : Int) (out : List Ol) (k : Nat) : Ol := jo (a9 ts out k) (stF gap (a9 ts out k))
noncomputable def pJ (ts : List Nd) (gap : Int) (k : Nat) (out : List Ol) : List Ol := if chN ts k = [] then out else out.set k (hG out k ++ joB ts gap out k)
noncomputable def cS : List Int → List Nat → List Int → List Int
 | o, c :: cs, s :: ss => cS (o.set c s) cs ss
 | o, _, _ => o
noncomputable def pP (ts : List Nd) (gap : Int) (k : Nat) (out : List Ol) (off : List Int) : List Int := if chN ts k = [] then off else cS off (chN ts k) (stF gap (a9 ts out k))
noncomputable def PO (ts : List Nd) (gap : Int) : Nat → List Ol × List Int
 | 0 => ((List.range ts.length).map (ini ts), List.replicate ts.length 0)
 | m + 1 => (pJ ts gap (ts.length - 1 - m) (PO ts gap m).1, pP ts gap (ts.length - 1 - m) (PO ts gap m).1 (PO ts gap m).2)
theorem kN : ∀ (o : List Int) (cs : List Nat) (ss : List Int) (c : Nat) (s : Int), cs.length = ss.length → cS o (cs ++ [c]) (ss ++ [s]) = (cS o cs ss).set c s
 | o, [], [], c, s, _ => rfl
 | o, [], s' :: ss, c, s, h => by simp at h
 | o, c' :: cs, [], c, s, h => by simp at h
 | o, c' :: cs, s' :: ss, c, s, h => by
  rw [List.cons_append, List.cons_append, cS, cS, kN _ cs ss c s (by simpa using h)]
theorem jK : ∀ (o : List Int) (cs : List Nat) (ss : List Int), (cS o cs ss).length = o.length
 | o, [], ss => by rw [cS]; intro c cs s ss h; cases h
 | o, c :: cs, [] => by rw [cS]; intro c cs s ss _ h; cases h
 | o, c :: cs, s :: ss => by rw [cS, jK _ cs ss, List.length_set]
theorem ic : ∀ (o : List Int) (cs : List Nat) (ss : List Int) (x : Nat), x ∉ cs → gv (cS o cs ss) x = gv o x
 | o, [], ss, x, _ => by rw [cS]; intro c cs s ss h; cases h
 | o, c :: cs, [], x, _ => by rw [cS]; intro c cs s ss _ h; cases h
 | o, c :: cs, s :: ss, x, h => by
  rw [cS, ic _ cs ss x (fun z => h (List.mem_cons_of_mem _ z))]
  unfold gv;rw [List.getElem?_set_ne (fun z => h (by rw [z]; exact List.mem_cons_self))]
theorem m8 : ∀ (o : List Int) (cs : List Nat) (ss : List Int) (i : Nat) (x : Nat), cs.Nodup → (∀ c ∈ cs, c < o.length) → cs.length = ss.length → cs[i]? = some x → gv (cS o cs ss) x = gv ss i
 | o, [], ss, i, x, _, _, _, h => by simp at h
 | o, c :: cs, [], i, x, _, _, h, _ => by simp at h
 | o, c :: cs, s :: ss, i, x, nd, hb, hl, h => by
  obtain ⟨n1, n2⟩ := List.nodup_cons.mp nd;rw [cS];cases i with
  | zero =>
   have hx : c = x := by simpa using h
   subst hx;rw [ic _ cs ss c n1];unfold gv;rw [List.getElem?_set_self (hb c List.mem_cons_self)];rfl
  | succ i =>
   rw [m8 _ cs ss i x n2 (fun d hd => by rw [List.length_set]; exact hb d (List.mem_cons_of_mem _ hd)) (by simpa using hl) (by simpa using h)]
   rfl
theorem cw {ts : List Nd} {k j : Nat} : j ∈ chN ts k ↔ j < ts.length ∧ eOf ts j = (k : Int) := by
 unfold chN;rw [List.mem_filter, List.mem_range, decide_eq_true_eq]
theorem fk {ts : List Nd} (he : EL ts) {k j : Nat} (h : j ∈ chN ts k) : k < j ∧ j < ts.length := by
 obtain ⟨h1, h2⟩ := cw.mp h;obtain ⟨n, hn⟩ : ∃ n, ts[j]? = some n := ⟨ts[j], by simp [h1]⟩
 have := (he j n hn).2.2;rw [bZ hn] at h2;exact ⟨by lia, h1⟩
theorem uP (ts : List Nd) (k : Nat) : (chN ts k).Nodup := List.Pairwise.imp (fun h => Nat.ne_of_lt h) (show (chN ts k).Pairwise (· < ·) by unfold chN; exact List.Pairwise.filter _ List.pairwise_lt_range)
theorem CY (ts : List Nd) (k : Nat) : (chN ts k).Pairwise (· < ·) := by unfold chN; exact List.Pairwise.filter _ List.pairwise_lt_range
theorem qM (ts : List Nd) (k : Nat) : (chN ts k).length ≤ ts.length := by
 unfold chN;have := List.length_filter_le (fun j => decide (eOf ts j = (k : Int))) (List.range ts.length)
 rw [List.length_range] at this;exact this
theorem oR {out : List Ol} {k j : Nat} {o : Ol} (h : k ≠ j) : hG (out.set k o) j = hG out j := by unfold hG; rw [List.getElem?_set_ne h]
theorem tL {out : List Ol} {k : Nat} {o : Ol} (h : k < out.length) : hG (out.set k o) k = o := by unfold hG; rw [List.getElem?_set_self h]; rfl
theorem tf {ts : List Nd} (he : EL ts) {out : List Ol} {k q : Nat} {o : Ol} (h : k ≤ q) : a9 ts (out.set k o) q = a9 ts out q := by
 unfold a9;exact List.map_congr_left fun j hj => oR (by have := (fk he hj).1; lia)
structure PI (ts : List Nd) (gap : Int) (m : Nat) : Prop where
 l1 : (PO ts gap m).1.length = ts.length
 l2 : (PO ts gap m).2.length = ts.length
 lo : ∀ k, k < ts.length - m → hG (PO ts gap m).1 k = ini ts k
 hi : ∀ k, ts.length - m ≤ k → k < ts.length → hG (PO ts gap m).1 k = ini ts k ++ (if chN ts k = [] then [] else joB ts gap (PO ts gap m).1 k)
 ln : ∀ k, k < ts.length → 1 ≤ (hG (PO ts gap m).1 k).length ∧ (hG (PO ts gap m).1 k).length ≤ ts.length - k
 of : ∀ k, ts.length - m ≤ k → k < ts.length → ∀ i j, (chN ts k)[i]? = some j → gv (PO ts gap m).2 j = gv (stF gap (a9 ts (PO ts gap m).1 k)) i
 z : gv (PO ts gap m).2 0 = 0
theorem lJ {ts : List Nd} {gap : Int} {m k : Nat} (he : EL ts) (hl : ts.length ≤ 100) (h : PI ts gap m) (hk : chN ts k ≠ []) : okO (a9 ts (PO ts gap m).1 k) := by
 refine ⟨fun os ho => ?_, ?_, ?_⟩
 ·unfold a9 at ho
  obtain ⟨j, hj, rfl⟩ := List.mem_map.mp ho;have := h.ln j (fk he hj).2;lia
 ·unfold a9
  rw [List.length_map];exact List.length_pos_iff.mpr hk
 ·unfold a9
  rw [List.length_map];have := qM ts k;lia
theorem q8 {ts : List Nd} {gap : Int} {m k : Nat} (he : EL ts) (h : PI ts gap m) (hk : chN ts k ≠ []) : (joB ts gap (PO ts gap m).1 k).length ≤ ts.length - (k + 1) := by
 unfold joB;rw [qJ];have hne : a9 ts (PO ts gap m).1 k ≠ [] := by unfold a9; simp [hk]
 obtain ⟨_, ⟨j, hj, ej⟩, _⟩ := jx hne;rw [← ej];unfold gD a9;unfold a9 at hj;rw [List.length_map] at hj;rw [List.getElem?_map, List.getElem?_eq_getElem hj];show (hG _ (chN ts k)[j]).length ≤ _
 have g := fk he (List.getElem_mem hj);have := (h.ln _ g.2).2;lia
theorem l6 {ts : List Nd} (gap : Int) (he : EL ts) (h0 : 0 < ts.length) (hl : ts.length ≤ 100) : ∀ m, m ≤ ts.length → PI ts gap m
 | 0, _ => by
  have o : ∀ k, k < ts.length → hG (PO ts gap 0).1 k = ini ts k := fun k hk => by
   unfold PO hG;rw [List.getElem?_map, List.getElem?_range hk];rfl
  refine ⟨by unfold PO; simp, by unfold PO; simp, fun k hk => o k (by lia), fun k h1 h2 => by lia, fun k hk => ?_, fun k h1 h2 => by lia, ?_⟩
  ·rw [o k hk]
   unfold ini;simp
   lia
  ·unfold PO gv
   rw [List.getElem?_replicate, if_pos h0];rfl
 | m + 1, hm => by
  have ih := l6 gap he h0 hl m (by lia)
  obtain ⟨k0, hk0⟩ : ∃ k0, k0 = ts.length - 1 - m := ⟨_, rfl⟩;have hk0l : k0 < ts.length := by lia
  by_cases hc : chN ts k0 = []
  ·have e1 : (PO ts gap (m + 1)).1 = (PO ts gap m).1 := by rw [PO, ← hk0, pJ, if_pos hc]
   have e2 : (PO ts gap (m + 1)).2 = (PO ts gap m).2 := by rw [PO, ← hk0, pP, if_pos hc]
   refine ⟨by rw [e1]; exact ih.l1, by rw [e2]; exact ih.l2, fun k hk => by rw [e1]; exact ih.lo k (by lia), fun k h1 h2 => ?_, fun k hk => by rw [e1]; exact ih.ln k hk, fun k h1 h2 i j hj => ?_, by rw [e2]; exact ih.z⟩
   ·rw [e1]
    by_cases hk : k = k0
    ·subst hk
     rw [ih.lo k (by lia), if_pos hc, List.append_nil]
    ·exact ih.hi k (by lia) h2
   ·rw [e1, e2]
    by_cases hk : k = k0
    ·subst hk
     rw [hc] at hj;simp at hj
    ·exact ih.of k (by lia) h2 i j hj
  ·have e1 : (PO ts gap (m + 1)).1 = (PO ts gap m).1.set k0 (hG (PO ts gap m).1 k0 ++ joB ts gap (PO ts gap m).1 k0) := by rw [PO, ← hk0, pJ, if_neg hc]
   have e2 : (PO ts gap (m + 1)).2 = cS (PO ts gap m).2 (chN ts k0) (stF gap (a9 ts (PO ts gap m).1 k0)) := by rw [PO, ← hk0, pP, if_neg hc]
   have bl : ∀ q, k0 ≤ q → a9 ts (PO ts gap (m + 1)).1 q = a9 ts (PO ts gap m).1 q := fun q hq => by rw [e1]; exact tf he hq
   have jb : ∀ q, k0 ≤ q → joB ts gap (PO ts gap (m + 1)).1 q = joB ts gap (PO ts gap m).1 q := fun q hq => by unfold joB; rw [bl q hq]
   have self : hG (PO ts gap (m + 1)).1 k0 = ini ts k0 ++ joB ts gap (PO ts gap m).1 k0 := by rw [e1, tL (by rw [ih.l1]; exact hk0l), ih.lo k0 (by lia)]
   have oth : ∀ k, k ≠ k0 → hG (PO ts gap (m + 1)).1 k = hG (PO ts gap m).1 k := fun k hk => by rw [e1, oR (Ne.symm hk)]
   obtain ⟨⟨es, ls, hst⟩, _⟩ := jH (gap := gap) (lJ he hl ih hc);have sl : (chN ts k0).length = (stF gap (a9 ts (PO ts gap m).1 k0)).length := by rw [hst.lst]; unfold a9; rw [List.length_map]
   refine ⟨by rw [e1, List.length_set]; exact ih.l1, by rw [e2, jK]; exact ih.l2, fun k hk => by rw [oth k (by lia)]; exact ih.lo k (by lia), fun k h1 h2 => ?_, fun k hk => ?_, fun k h1 h2 i j hj => ?_, ?_⟩
   ·by_cases hk : k = k0
    ·subst hk
     rw [self, if_neg hc, jb k (Nat.le_refl _)]
    ·rw [oth k hk, jb k (by lia)]
     exact ih.hi k (by lia) h2
   ·by_cases hk' : k = k0
    ·subst hk'
     rw [self, List.length_append];have := q8 (gap := gap) he ih hc;have : (ini ts k).length = 1 := rfl;lia
    ·rw [oth k hk']
     exact ih.ln k hk
   ·by_cases hk : k = k0
    ·subst hk
     rw [e2, bl k (Nat.le_refl _)];exact m8 _ _ _ i j (uP ts k) (fun c hc' => by rw [ih.l2]; exact (fk he hc').2) sl hj
    ·rw [e2, bl k (by lia), ic _ _ _ j (fun z => ?_)]
     ·exact ih.of k (by lia) h2 i j hj
     ·have a := (cw.mp (List.mem_of_getElem? hj)).2
      have b := (cw.mp z).2;rw [a] at b;lia
   ·rw [e2, ic _ _ _ 0 (fun z => by have := (fk he z).1; lia)]
    exact ih.z
theorem lP {ch : List Nat} {j : Nat} : pS (nD ch) j = true ↔ j ∈ ch := by
 unfold pS nD iL;rw [List.any_eq_true];constructor
 ·rintro ⟨d, hd, e⟩
  rw [List.map_map] at hd;obtain ⟨k, hk, rfl⟩ := List.mem_map.mp hd;have e' : decide ((k : Int) = (j : Int)) = true := e;have := of_decide_eq_true e';rw [show j = k by lia]
  exact hk
 ·intro h
  exact ⟨.int (j : Int), by rw [List.map_map]; exact List.mem_map.mpr ⟨j, h, rfl⟩, decide_eq_true rfl⟩
theorem rS {ch : List Nat} {xs : List OD} : ∀ ch' : List Nat, (∀ j ∈ ch', j ∈ ch ∧ j < xs.length) → ir (fj (nD ch) 0 xs) (nD ch') = some (ch'.map fun j => (xs[j]?.map OD.er).getD .none)
 | [], _ => rfl
 | j :: r, h => by
  have ih := rS r fun k hk => h k (List.mem_cons_of_mem _ hk)
  obtain ⟨h1, h2⟩ := h j List.mem_cons_self;show ir (fj (nD ch) 0 xs) (.int (j : Int) :: nD r) = _
  unfold ir;have ix : ixN (fj (nD ch) 0 xs).length (j : Int) = some j := iX (by rw [lQ]; exact h2)
  have gt : (fj (nD ch) 0 xs)[j]? = some (.sh (xs[j]).er) := by
   rw [jQ, List.getElem?_eq_getElem h2];show some (if pS (nD ch) (0 + j) = true then OD.sh (xs[j]).er else xs[j]) = _
   rw [Nat.zero_add, if_pos (lP.mpr h1)]
  rw [ix];show (match (fj (nD ch) 0 xs)[j]? with | some (.sh d) => (ir (fj (nD ch) 0 xs) (nD r)).map fun ds => d :: ds | _ => none) = _
  rw [gt];show (ir (fj (nD ch) 0 xs) (nD r)).map (fun ds => (xs[j]).er :: ds) = _
  rw [ih, List.map_cons, List.getElem?_eq_getElem h2];rfl
theorem sS (ts : List Nd) (gap : Int) (he : EL ts) (h0 : 0 < ts.length) (hl : ts.length ≤ 100) (hlab : ∀ n ∈ ts, n.l.length ≤ 1000) :
  hR [.list (au ts), .int gap] = .ok (.sh (.tuple [.list ((PO ts gap ts.length).2.map PyData.int), .list (cq (PO ts gap ts.length).1)])) := by
 unfold hR jd;have rp := k8 (.int 0) ts.length (by lia)
 have ri : (List.replicate ts.length (PyData.int 0)).map OD.sh = bG (List.replicate ts.length 0) := by unfold bG; simp only [List.map_replicate]
 have rs : ((aX ts).map fun z => OD.sh (.int z)).map OD.er = (aX ts).map PyData.int := by
  rw [List.map_map];exact List.map_congr_left fun z _ => cZ _
 have rl : (aX ts).length = ts.length := by unfold aX; rw [List.length_map]
 push_cast only [aI, rp, ri, me ts hlab hl, rs];generalize hC : bb _ _ _ _ _ _ = rc
 have e := c6 hC PyData.int (fun z : Int => .ol [.sh (.tuple [.int (-256 * z), .int (256 * z)])]) (aX ts) rfl (by rw [rl]; exact of_eq_true (aP (by lia))) (by
  intro z hz;push_cast only [and_self])
 subst e;clear hC;obtain ⟨xs0, hx0⟩ : ∃ xs0, xs0 = (aX ts).map fun z : Int => OD.ol [.sh (.tuple [.int (-256 * z), .int (256 * z)])] := ⟨_, rfl⟩
 have x0 : ∀ k, k < ts.length → xs0[k]? = some (.ol ((eH (ini ts k)).map OD.sh)) := fun k hk => by
  rw [hx0, List.getElem?_map, lB (by rw [rl]; exact hk)]
  rfl
 have xe0 : xs0.map OD.er = cq (PO ts gap 0).1 := by
  apply List.ext_getElem?
  intro k;unfold cq PO;rw [List.getElem?_map, List.map_map, List.getElem?_map];by_cases hk : k < ts.length
  ·rw [x0 k hk, List.getElem?_range hk]
   show some (OD.ol _).er = some _
   rw [jL, aT];rfl
  ·rw [List.getElem?_eq_none (by rw [hx0, List.length_map, rl]; lia), List.getElem?_eq_none (by rw [List.length_range]; lia)]
   rfl
 rw [← hx0];have r3 := fun (ρ : L3.Env) (h1 : (eOp eO (eB cH (ah (ae 0) az)) (eC (.int 1))) ρ = .ok (.sh (.int ((ts.length : Int) - 1)))) => Cz (fa := eOp eO (eB cH (ah (ae 0) az)) (eC (.int 1))) (fb := eUn fK (eC (.int 1))) (fc := eUn fK (eC (.int 1))) (ρ := ρ) (x := (ts.length : Int) - 1) (y := -1) (z := -1) h1 rfl rfl rfl (eT (by lia) (by lia)) (eT (by decide) (by decide))
 have r4 := r3 [some (.sh (.list (au ts))), some (.sh (.int gap)), some (.ol (bG (List.replicate ts.length 0))), some (.ol xs0), none, none, none, none, none, none] (by push_cast only [aI])
 push_cast only [r4];generalize hL : bE _ _ _ _ = r'
 refine cC hL (fun m ρ => ∃ (xs : List OD) (v4 v5 v6 v7 v8 v9 : Option OD), xs.map OD.er = cq (PO ts gap m).1 ∧ (∀ k, k < ts.length - m → xs[k]? = some (.ol ((eH (ini ts k)).map OD.sh))) ∧ ρ = [some (.sh (.list (au ts))), some (.sh (.int gap)), some (.ol (bG (PO ts gap m).2)), some (.ol xs), v4, v5, v6, v7, v8, v9])
  ⟨xs0, _, _, _, _, _, _, xe0, fun k hk => x0 k (by lia), rfl⟩ ?_ ?_
 ·rintro m d ρ hd ⟨xs, v4, v5, v6, v7, v8, v9, xe, xo, rfl⟩
  obtain ⟨hm, rfl⟩ := pQ hd;have hm2 : m < ts.length := by lia
  obtain ⟨k, hk⟩ : ∃ k : Nat, k = ts.length - 1 - m := ⟨_, rfl⟩;have hkl : k < ts.length := by lia
  have ek : (ts.length : Int) - 1 - (m : Int) = (k : Int) := by lia
  rw [ek];have ih := l6 gap he h0 hl m (by lia)
  have ck := oU ts k hkl hl;have xl : xs.length = ts.length := by
   have := congrArg List.length xe;rw [List.length_map, jf, ih.l1] at this;exact this
  by_cases hc : chN ts k = []
  ·have l0 : decide ((0 : Int) < ((nD (chN ts k)).length : Int)) = false := decide_eq_false (by rw [f9, hc]; decide)
   have e1 : (PO ts gap (m + 1)).1 = (PO ts gap m).1 := by rw [PO, ← hk, pJ, if_pos hc]
   have e2 : (PO ts gap (m + 1)).2 = (PO ts gap m).2 := by rw [PO, ← hk, pP, if_pos hc]
   push_cast only [ck, jY, l0];rw [← e2];exact ⟨xs, _, _, _, _, _, _, by rw [e1]; exact xe, fun q hq => xo q (by lia), rfl⟩
  ·have l0 : decide ((0 : Int) < ((nD (chN ts k)).length : Int)) = true := decide_eq_true (by
    rw [f9];have := List.length_pos_iff.mpr hc;lia)
   have e1 : (PO ts gap (m + 1)).1 = (PO ts gap m).1.set k (hG (PO ts gap m).1 k ++ joB ts gap (PO ts gap m).1 k) := by rw [PO, ← hk, pJ, if_neg hc]
   have e2 : (PO ts gap (m + 1)).2 = cS (PO ts gap m).2 (chN ts k) (stF gap (a9 ts (PO ts gap m).1 k)) := by rw [PO, ← hk, pP, if_neg hc]
   have bok := lJ he hl ih hc;obtain ⟨⟨es, ls, hst⟩, hsf⟩ := jH (gap := gap) bok;have jn := tw (a9 ts (PO ts gap m).1 k) (stF gap (a9 ts (PO ts gap m).1 k)) bok hst.lst;have bl : (a9 ts (PO ts gap m).1 k).length = (chN ts k).length := by unfold a9; rw [List.length_map]
   have cl := qM ts k;have gt : ir (fj (nD (chN ts k)) 0 xs) (nD (chN ts k)) = some (cq (a9 ts (PO ts gap m).1 k)) := by
    rw [rS (chN ts k) fun j hj => ⟨hj, by rw [xl]; exact (fk he hj).2⟩]
    refine congrArg some ?_;unfold a9 cq;rw [List.map_map];refine List.map_congr_left fun j hj => ?_
    have hjl := (fk he hj).2;have := congrArg (fun l => l[j]?) xe
    simp only [List.getElem?_map] at this;have g : (PO ts gap m).1[j]? = some ((PO ts gap m).1[j]'(by rw [ih.l1]; exact hjl)) := List.getElem?_eq_getElem _
    rw [this];show ((cq (PO ts gap m).1)[j]?).getD .none = PyData.list (eH (((PO ts gap m).1[j]?).getD []))
    unfold cq;rw [List.getElem?_map, g];rfl
   have jl := q8 (gap := gap) he ih hc;generalize hst' : stF gap (a9 ts (PO ts gap m).1 k) = st at hst hsf jn e2
   have sl : (chN ts k).length = st.length := by rw [hst.lst, bl]
   push_cast only [ck, jY, l0];rw [zg (xs := xs) (ks := nD (chN ts k)) rfl rfl];push_cast only [and_self];rw [Dx (i := 3) (c := 5) (xs := fj (nD (chN ts k)) 0 xs) (ks := nD (chN ts k)) rfl rfl gt (by rw [jf, bl]; exact of_eq_true (aP (by lia)))]
   push_cast only [aT, hsf, bV];generalize hL2 : bE _ _ _ _ = r2
   refine cC hL2 (fun i ρ => ∃ v8 v9 : Option OD, ρ = [some (.sh (.list (au ts))), some (.sh (.int gap)), some (.ol (bG (cS (PO ts gap m).2 ((chN ts k).take i) (st.take i)))), some (.ol (fj (nD (chN ts k)) 0 xs)), some (.sh (.int k)), some (.sh (.list (nD (chN ts k)))), some (.sh (.list (cq (a9 ts (PO ts gap m).1 k)))), some (.sh (.list (st.map PyData.int))), v8, v9]) ⟨_, _, by rw [List.take_zero, List.take_zero, cS]; intro _ _ _ _ h; cases h⟩ ?_ ?_
   ·rintro i d ρ hd ⟨v8, v9, rfl⟩
    obtain ⟨x, y, hx, hy, rfl⟩ := lW hd;unfold nD iL at hx;rw [List.map_map, List.getElem?_map] at hx;obtain ⟨j, hj, rfl⟩ := Option.map_eq_some_iff.mp hx;rw [List.getElem?_map] at hy;obtain ⟨s, hs, rfl⟩ := Option.map_eq_some_iff.mp hy;have jg := (fk he (List.mem_of_getElem? hj)).2;have ix : ixN (bG (cS (PO ts gap m).2 ((chN ts k).take i) (st.take i))).length (j : Int) = some j := iX (by rw [fL, jK, ih.l2]; exact jg)
    push_cast only [Function.comp, uK ix, lR];rw [take_snoc hj, take_snoc hs, kN _ _ _ _ _ (by rw [List.length_take, List.length_take, sl])]
    exact ⟨_, _, rfl⟩
   ·rintro ρ' rfl ⟨v8, v9, rfl⟩
    have zl : (ku (nD (chN ts k)) (st.map PyData.int)).length = (chN ts k).length := by
     unfold ku;rw [List.length_map, List.length_zip, f9, List.length_map, ← sl, Nat.min_self]
    rw [zl, List.take_of_length_le (Nat.le_refl _), List.take_of_length_le (by lia), ← e2]
    have xk : (fj (nD (chN ts k)) 0 xs)[k]? = some (.ol ((eH (ini ts k)).map OD.sh)) := by
     rw [jQ, xo k (by lia)]
     show some (if pS (nD (chN ts k)) (0 + k) = true then _ else _) = _
     rw [if_neg (fun z => by have := (fk he (lP.mp z)).1; lia)]
    have ex := xE (i := 3) (k := ae 4) (a := bt bU (ah (ae 6) (ah (ae 7) az))) (ρ := [some (.sh (.list (au ts))), some (.sh (.int gap)), some (.ol (bG (PO ts gap (m + 1)).2)), some (.ol (fj (nD (chN ts k)) 0 xs)), some (.sh (.int k)), some (.sh (.list (nD (chN ts k)))), some (.sh (.list (cq (a9 ts (PO ts gap m).1 k)))), some (.sh (.list (st.map PyData.int))), v8, v9]) (xs := fj (nD (chN ts k)) 0 xs) (ys := (eH (ini ts k)).map OD.sh) (zs := (eH (jo (a9 ts (PO ts gap m).1 k) st)).map OD.sh) (z := k) (j := k) rfl rfl (iX (by rw [lQ, xl]; exact hkl)) xk (by push_cast only [jn]) (by
     rw [List.length_map, List.length_map, iR, iR];have jl2 : (jo (a9 ts (PO ts gap m).1 k) st).length ≤ ts.length - (k + 1) := by
      unfold joB at jl;rw [hst'] at jl;exact jl
     have : (ini ts k).length = 1 := rfl;exact of_eq_true (aP (by lia)))
    push_cast only [and_self];rw [ex];push_cast only [and_self];have jb : joB ts gap (PO ts gap m).1 k = jo (a9 ts (PO ts gap m).1 k) st := by unfold joB; rw [hst']
    refine ⟨_, _, _, _, _, _, _, ?_, fun q hq => ?_, rfl⟩
    ·rw [List.map_set, qS, xe, e1, ih.lo k (by lia), jb, jL]
     unfold cq eH;rw [List.map_set, List.map_append, List.map_append, aT, aT]
    ·rw [List.getElem?_set_ne (by lia), jQ, xo q (by lia)]
     show some (if pS (nD (chN ts k)) (0 + q) = true then _ else _) = _
     rw [if_neg (fun z => by have := (fk he (lP.mp z)).1; lia)]
 ·rintro ρ' rfl ⟨xs, v4, v5, v6, v7, v8, v9, xe, xo, rfl⟩
  rw [uG, show ((ts.length : Int) - 1 - -1).toNat = ts.length by lia] at xe ⊢
  push_cast only [jL, xe, bV]
noncomputable def iI (ts : List Nd) (off : List Int) : Nat → List Int
 | 0 => [0]
 | i + 1 => iI ts off i ++ [gv (iI ts off i) (eOf ts (i + 1)).toNat + gv off (i + 1)]
theorem gB (ts : List Nd) (off : List Int) : ∀ i, (iI ts off i).length = i + 1
 | 0 => rfl
 | i + 1 => by rw [iI, List.length_append, gB ts off i]; rfl
theorem mv (ts : List Nd) (off : List Int) (m j : Nat) (h : j ≤ m) : ∀ c, gv (iI ts off (m + c)) j = gv (iI ts off m) j
 | 0 => rfl
 | c + 1 => by
  rw [← mv ts off m j h c, ← Nat.add_assoc, iI];unfold gv;rw [List.getElem?_append_left (by rw [gB]; lia)]
noncomputable def AO (ts : List Nd) (gap : Int) (k : Nat) : Int := gv (PO ts gap ts.length).2 k
noncomputable def outF (ts : List Nd) (gap : Int) (k : Nat) : Ol := hG (PO ts gap ts.length).1 k
noncomputable def oy (ts : List Nd) (gap : Int) : List Int := iI ts (PO ts gap ts.length).2 (ts.length - 1)
noncomputable def pos (ts : List Nd) (gap : Int) (k : Nat) : Int := gv (oy ts gap) k
noncomputable def lS (ts : List Nd) (gap : Int) : Int := jz ((List.range ts.length).map fun k => pos ts gap k - 256 * gv (aX ts) k)
noncomputable def drw (ts : List Nd) (gap : Int) : List Int := (oy ts gap).map fun z => z - lS ts gap
theorem mq {ts : List Nd} {gap : Int} (h0 : 0 < ts.length) : (oy ts gap).length = ts.length := by unfold oy; rw [gB]; lia
theorem nE {ts : List Nd} {gap : Int} (h0 : 0 < ts.length) : (drw ts gap).length = ts.length := by unfold drw; rw [List.length_map, mq h0]
theorem ip {ts : List Nd} {gap : Int} (h0 : 0 < ts.length) {k : Nat} (hk : k < ts.length) : gv (drw ts gap) k = pos ts gap k - lS ts gap := by
 unfold drw pos;unfold gv;rw [List.getElem?_map, List.getElem?_eq_getElem (by rw [mq h0]; exact hk)]
 rfl
theorem we {ts : List Nd} {gap : Int} {k q : Nat} (he : EL ts) (h0 : 0 < k) (hk : k < ts.length) (hq : eOf ts k = (q : Int)) : pos ts gap k = pos ts gap q + AO ts gap k := by
 have hqk : q < k := by
  obtain ⟨n, hn⟩ : ∃ n, ts[k]? = some n := ⟨ts[k], by simp [hk]⟩
  have := (he k n hn).2.2;rw [bZ hn] at hq;lia
 obtain ⟨m, rfl⟩ : ∃ m, k = m + 1 := ⟨k - 1, by lia⟩
 unfold pos oy AO;have a := mv ts (PO ts gap ts.length).2 (m + 1) (m + 1) (Nat.le_refl _) (ts.length - 1 - (m + 1));have b := mv ts (PO ts gap ts.length).2 m q (by lia) (ts.length - 1 - m)
 rw [show m + 1 + (ts.length - 1 - (m + 1)) = ts.length - 1 by lia] at a
 rw [show m + (ts.length - 1 - m) = ts.length - 1 by lia] at b
 rw [a, b, iI, hq, Int.toNat_natCast]
 conv => lhs; unfold gv
 rw [List.getElem?_append_right (by rw [gB]; lia), gB, Nat.sub_self]
 rfl
theorem xf (ts : List Nd) (gap : Int) (h0 : 0 < ts.length) (hl : ts.length ≤ 100) (hlab : ∀ n ∈ ts, n.l.length ≤ 1000) :
  c9 [.list (au ts), .list ((oy ts gap).map PyData.int), .int 256] = .ok (.ol (bG (drw ts gap))) := by
 unfold c9 dU;have rs : ((aX ts).map fun z => OD.sh (.int z)).map OD.er = (aX ts).map PyData.int := by
  rw [List.map_map];exact List.map_congr_left fun z _ => cZ _
 have rl : (aX ts).length = ts.length := by unfold aX; rw [List.length_map]
 have pl := mq (gap := gap) h0;push_cast only [bV, me ts hlab hl, rs, vo pl rl];generalize hC : bb _ _ _ _ _ _ = rc
 have e := c6 hC (fun k : Nat => PyData.tuple [.int (gv (oy ts gap) k), .int (gv (aX ts) k)]) (fun k => .sh (.int (pos ts gap k - 256 * gv (aX ts) k))) (List.range ts.length) rfl (by rw [List.length_range]; exact of_eq_true (aP (by lia))) (by
  intro k hk;push_cast only [and_self];rfl)
 subst e;clear hC;rw [qm];have hm := lT (xs := (List.range ts.length).map fun k => pos ts gap k - 256 * gv (aX ts) k) (fun z => by
  have := congrArg List.length z;rw [List.length_map, List.length_range, List.length_nil] at this;lia)
 have hm2 : jq [.list (((List.range ts.length).map fun k => pos ts gap k - 256 * gv (aX ts) k).map PyData.int)] = .ok (.sh (.int (lS ts gap))) := hm
 push_cast only [bV, hm2];generalize hC : bb _ _ _ _ _ _ = rc
 have e := c6 hC PyData.int (fun z : Int => .sh (.int (z - lS ts gap))) (oy ts gap) rfl (by rw [pl]; exact of_eq_true (aP (by lia))) (by
  intro z hz;push_cast only [and_self])
 subst e;rw [qm];push_cast only [and_self];rfl
theorem wc (ts : List Nd) (gap : Int) (he : EL ts) (h0 : 0 < ts.length) (hl : ts.length ≤ 100) (hlab : ∀ n ∈ ts, n.l.length ≤ 1000) :
  g9 [.list (au ts), .int gap] = .ok (.ol (bG (drw ts gap))) := by
 unfold g9 jM;have pk := sS ts gap he h0 hl hlab;have PI1 := l6 gap he h0 hl ts.length (Nat.le_refl _);have rs : ((aX ts).map fun z => OD.sh (.int z)).map OD.er = (aX ts).map PyData.int := by
  rw [List.map_map];exact List.map_congr_left fun z _ => cZ _
 have rl : (aX ts).length = ts.length := by unfold aX; rw [List.length_map]
 have s1 : aB 1 = true := eT (by decide) (by decide)
 have s2 : aB (ts.length : Int) = true := eT (by lia) (by lia)
 push_cast only [pk, aI, s1, s2, Bool.and_self];generalize hL : bE _ _ _ _ = r'
 refine cC hL (fun i ρ => ∃ v4 : Option OD, ρ = [some (.sh (.list (au ts))), some (.sh (.int gap)), some (.sh (.list ((PO ts gap ts.length).2.map PyData.int))), some (.ol (bG (iI ts (PO ts gap ts.length).2 i))), v4]) ⟨_, rfl⟩ ?_ ?_
 ·rintro i d ρ hd ⟨v4, rfl⟩
  obtain ⟨hi, rfl⟩ := cY hd;have hi2 : i + 1 < ts.length := by lia
  have ei : (1 : Int) + (i : Int) = ((i + 1 : Nat) : Int) := by lia
  rw [ei];obtain ⟨n, hn⟩ : ∃ n, ts[i + 1]? = some n := ⟨ts[i + 1], by simp [hi2]⟩
  have el := he (i + 1) n hn;obtain ⟨k, hk⟩ : ∃ k : Nat, n.e = (k : Int) := ⟨n.e.toNat, by have := el.2.1 (by lia); lia⟩
  have hki : k < i + 1 := by have := el.2.2; lia
  have g3 := f6 hn;rw [hk] at g3;have g1 := cE (st := iI ts (PO ts gap ts.length).2 i) (j := k) (by rw [gB]; lia)
  have g2 := cE (st := (PO ts gap ts.length).2) (j := i + 1) (by rw [PI1.l2]; lia)
  have lb : ((bG (iI ts (PO ts gap ts.length).2 i)).length < BIG) = True := by rw [fL, gB]; exact eK (by lia)
  push_cast only [bV, g1, g2, g3, lb, i6];have e : iI ts (PO ts gap ts.length).2 (i + 1) = iI ts (PO ts gap ts.length).2 i ++ [gv (iI ts (PO ts gap ts.length).2 i) k + gv (PO ts gap ts.length).2 (i + 1)] := by rw [iI, bZ hn, hk, Int.toNat_natCast]
  rw [e];exact ⟨_, rfl⟩
 ·rintro ρ' rfl ⟨v4, rfl⟩
  rw [ey, show ((ts.length : Int) - 1).toNat = ts.length - 1 by lia]
  have pe : iI ts (PO ts gap ts.length).2 (ts.length - 1) = oy ts gap := rfl;rw [pe];push_cast only [bV, xf ts gap h0 hl hlab]
theorem gL {ts : List Nd} (gap : Int) (he : EL ts) (h0 : 0 < ts.length) (hl : ts.length ≤ 100) {k : Nat} (hk : k < ts.length) :
  outF ts gap k = ini ts k ++ (if chN ts k = [] then [] else jo ((chN ts k).map (outF ts gap)) (stF gap ((chN ts k).map (outF ts gap)))) :=
 (l6 gap he h0 hl ts.length (Nat.le_refl _)).hi k (by lia) hk
theorem wM {ts : List Nd} (gap : Int) (he : EL ts) (h0 : 0 < ts.length) (hl : ts.length ≤ 100) {k i j : Nat} (hk : k < ts.length) (hj : (chN ts k)[i]? = some j) :
  AO ts gap j = gv (stF gap ((chN ts k).map (outF ts gap))) i :=
 (l6 gap he h0 hl ts.length (Nat.le_refl _)).of k (by lia) hk i j hj
theorem pA {ts : List Nd} (gap : Int) (he : EL ts) (h0 : 0 < ts.length) (hl : ts.length ≤ 100) {k : Nat} (hk : k < ts.length) : 1 ≤ (outF ts gap k).length ∧ (outF ts gap k).length ≤ ts.length - k :=
 (l6 gap he h0 hl ts.length (Nat.le_refl _)).ln k hk
theorem i9 {ts : List Nd} (gap : Int) (he : EL ts) (h0 : 0 < ts.length) (hl : ts.length ≤ 100) {k : Nat} (hc : chN ts k ≠ []) : okO ((chN ts k).map (outF ts gap)) :=
 lJ he hl (l6 gap he h0 hl ts.length (Nat.le_refl _)) hc
structure Part (ts us : List Nd) (j : Nat) : Prop where
 le : j + us.length ≤ ts.length
 ch : ∀ i, i < us.length → (chN us i).map (j + ·) = chN ts (j + i)
 e : ∀ i, 0 < i → i < us.length → eOf us i = eOf ts (j + i) - j
 r : ∀ i, i < us.length → gv (aX us) i = gv (aX ts) (j + i)
noncomputable def cG : Fs := (aE (aJ 1 (eR az))
 (aE (aJ 2 (eR (ah (eC (.int 0)) az)))
 (aE (gh (oj (br (eOp gNe (ae 2) (eR az)))) (aE (qj 2 (gNm 3))
 (aE (ib 1 (ae 3))
 (mU 2 (aJ 2 (eOp bB (ae 2) (bT (iR2 (eOp bB (ae 3) (eC (.int 1))) (eB cH (ah (ae 0) az))) (gNm 0) (br (eOp gEq (eOp gIx (eOp gIx (ae 1) (ae 0)) (eC (.int 0))) (ae 2))) (ae 0) 1 [0, 3])))))))
 (fm 1))))
noncomputable def bR : Fn := dE 1 4 cG
noncomputable def fV : Fs := (aE (aJ 2 (eR (ah (iz (ah (eC (.int 0)) (ah (eOp gIx (eOp gIx (ae 0) (eC (.int 0))) (eC (.int 1))) (ah (eOp gIx (eOp gIx (ae 0) (eC (.int 0))) (eC (.int 2))) az)))) az)))
 (aE (fM (fZ (eSl lN (ae 0) (iy (eC (.int 1))) iF)) (gTp 3 (bD (gNm 3) (bD (gNm 4) (bD (gNm 5) gE)))) (ib 2 (eSh (iz (ah (eOp bB (ae 3) (ae 1)) (ah (ae 4) (ah (ae 5) az)))))))
 (fm 2)))
noncomputable def e9 : Fn := dE 2 6 fV
noncomputable def cU : Fs := (aE (aJ 1 (eSh (bt bR (ah (ae 0) az))))
 (aE (aJ 2 (eR az))
 (aE (fM (fZ (ae 1)) (gNm 3) (aE (sX (eOp gIx (ae 0) (ae 3)) (gTp 3 (bD (gNm 4) (bD (gNm 5) (bD (gNm 6) gE)))))
 (aE (sIf (br (eOp gGe (ae 4) (eC (.int 0)))) (aJ 4 (uq (ae 1) (ae 4))) sNx)
 (ib 2 (iz (ah (ae 4) (ah (ae 5) (ah (ae 6) az))))))))
 (fm 2))))
noncomputable def b5 : Fn := dE 1 7 cU
theorem tq {ts : List Nd} {c : F} (p : PT ts c) {a : Nat} (ha : a < ts.length) : ((List.range (ts.length - (a + 1))).filter fun j => decide (eOf ts (a + 1 + j) = (a : Int))).map (fun j => a + 1 + j) = chN ts a := by
 unfold chN;have e : List.range ts.length = List.range (a + 1) ++ (List.range (ts.length - (a + 1))).map fun j => a + 1 + j := by
  rw [← List.range_add, show a + 1 + (ts.length - (a + 1)) = ts.length by lia]
 rw [e, List.filter_append, List.filter_map];have z : (List.range (a + 1)).filter (fun j => decide (eOf ts j = (a : Int))) = [] := by
  rw [List.filter_eq_nil_iff];intro j hj;rw [List.mem_range] at hj;have := yV p (k := j) (by lia)
  rw [decide_eq_true_eq];lia
 rw [z, List.nil_append];rfl
theorem wI {ns : List Int} (h : ns ≠ []) : gNe (.list (ns.map PyData.int)) (.list []) = .ok (.sh (.bool true)) := by
 cases ns with
 | nil => exact absurd rfl h
 | cons a as =>
  unfold gNe;rw [gz];unfold gW;rw [bX (lay_ints (a :: as)) (by decide), show SeqAt.shaped (.list []) = true from bX (lay_ints []) (by decide), Bool.and_self, if_pos rfl]
  rfl
theorem ou (ts : List Nd) (c : F) (p : PT ts c) (hl : ts.length ≤ 100) : bR [.list (au ts)] = .ok (.ol (nO (F.R c))) := by
 unfold bR cG;push_cast only [and_self];generalize hL : gh _ _ _ = r
 refine sf hL (fun m ρ => ∃ (f : F) (o : List Nat) (v3 : Option OD), F.Con (chN ts) f ∧ (F.pre f).length = m ∧ (∀ k ∈ F.pre f, k < ts.length) ∧ o ++ F.fN f = F.R c ∧ ρ = [some (.sh (.list (au ts))), some (.ol (nO o)), some (.ol (nO (F.roots f))), v3])
  ts.length ⟨F.full c, [], _, p.con, by rw [p.preF, List.length_range], (fun k m => by rw [p.preF, List.mem_range] at m; exact m), rfl, rfl⟩
  (fun ρ => ∃ v2 v3 : Option OD, ρ = [some (.sh (.list (au ts))), some (.ol (nO (F.R c))), v2, v3]) ?_ ?_
 ·rintro m ρ ⟨f, o, v3, hc, hm, hk, ho, rfl⟩
  by_cases hf : F.roots f = []
  ·left
   have := s_ hf;subst this;rw [F.fN, List.append_nil] at ho;subst ho;have ge : gNe (.list (nD [])) (.list []) = .ok (.sh (.bool false)) := iM (lay_ints []);constructor
   ·push_cast only [jY, F.roots, ge]
   ·exact ⟨_, _, rfl⟩
  ·right
   obtain ⟨g, a, b, r1, r2, r3, r4, r5, r6, r7⟩ := xJ hc (fun z => hf (by rw [z]; rfl)) hk
   have ge : gNe (.list (nD (F.roots g ++ [a]))) (.list []) = .ok (.sh (.bool true)) := wI (ns := iL (F.roots g ++ [a])) (by unfold iL; simp)
   have ol : o.length ≤ 100 := by
    have := congrArg List.length ho;rw [List.length_append, p.len] at this;lia
   have lb1 : ((nO o).length < BIG) = True := by rw [vU]; exact eK (by lia)
   have lb2 : ((nD (F.roots g)).length + (nD (chN ts a)).length ≤ BIG) = True := by
    rw [f9, f9, ← List.length_append, r3];have := F.lr (F.app g b);have q : (F.pre (F.app g b)).length ≤ ts.length := by
     have := congrArg List.length ho;rw [List.length_append, p.len, (F.fw f).length_eq] at this;lia
    exact aP (by lia)
   rw [r1];constructor
   ·push_cast only [jY, ge]
   ·rw [← nM]
    have em : (a : Int) + 1 = ((a + 1 : Nat) : Int) := by lia
    have s1 : aB ((a + 1 : Nat) : Int) = true := eT (by lia) (by lia)
    have s2 : aB (ts.length : Int) = true := eT (by lia) (by lia)
    push_cast only [rE, lb1, aI, em, s1, s2, Bool.and_self, jY];generalize hC : bb _ _ _ _ _ _ = rc
    have hcnt : ((ts.length : Int) - ((a + 1 : Nat) : Int)).toNat = ts.length - (a + 1) := by lia
    have e := iZ hC (fun j : Nat => PyData.int (((a + 1 : Nat) : Int) + (j : Int))) (fun j => decide (eOf ts (a + 1 + j) = (a : Int))) (fun j => .sh (.int ((a + 1 + j : Nat) : Int))) (List.range (ts.length - (a + 1))) (by rw [hcnt]; rfl) (by rw [List.length_range]; exact of_eq_true (aP (by lia))) (by
     intro j hj;rw [List.mem_range] at hj;rw [show ((a + 1 : Nat) : Int) + (j : Int) = ((a + 1 + j : Nat) : Int) by lia]
     obtain ⟨n, hn⟩ : ∃ n, ts[a + 1 + j]? = some n := ⟨ts[a + 1 + j]'(by lia), by simp⟩
     have g1 := f6 hn;have g2 := bZ hn;rw [g2];refine ⟨?_, fun _ => ?_⟩
     ·push_cast only [g1]
     ·push_cast only [and_self])
    subst e;clear hC;have e3 : (((List.range (ts.length - (a + 1))).filter fun j => decide (eOf ts (a + 1 + j) = (a : Int))).map fun j => OD.sh (.int ((a + 1 + j : Nat) : Int))) = nO (chN ts a) := by
     rw [← tq p r2, ← n_, List.map_map];rfl
    rw [e3];have e4 : (nD (F.roots g) ++ nD (chN ts a)).map OD.sh = nO (F.roots (F.app g b)) := by
     rw [← r3, ← vq, List.map_append];rfl
    push_cast only [jY, oo, lb2];rw [e4, nM];exact ⟨_, by lia, F.app g b, o ++ [a], _, r4, rfl, r6, by rw [r7]; exact ho, rfl⟩
 ·rintro ρ' rfl ⟨v2, v3, rfl⟩
  push_cast only [and_self]
theorem xu (R : List Nat) (k : Nat) : (iL R).idxOf (k : Int) = R.idxOf k := by
 unfold iL
 induction R with
 | nil => rfl
 | cons a r ih =>
  rw [List.map_cons, List.idxOf_cons, List.idxOf_cons, ih];by_cases h : a = k
  ·subst h
   simp
  ·have h1 : ((a : Int) == (k : Int)) = false := by simp; lia
   have h2 : (a == k) = false := by simp; exact h
   rw [h1, h2]
theorem mP (ts : List Nd) (c : F) (p : PT ts c) (hl : ts.length ≤ 100) : b5 [.list (au ts)] = .ok (.ol ((au (dP ts c)).map OD.sh)) := by
 unfold b5 cU;have len := p.len;push_cast only [ou ts c p hl, jY];generalize hL : bE _ _ _ _ = r'
 refine cC hL (fun i ρ => ∃ v3 v4 v5 v6 : Option OD, ρ = [some (.sh (.list (au ts))), some (.sh (.list (nD (F.R c)))), some (.ol ((au ((dP ts c).take i)).map OD.sh)), v3, v4, v5, v6]) ⟨_, _, _, _, rfl⟩ ?_ ?_
 ·rintro i d ρ hd ⟨v3, v4, v5, v6, rfl⟩
  have hi : i < (F.R c).length := by
   have := (List.getElem?_eq_some_iff.mp hd).1;rw [f9] at this;exact this
  obtain ⟨k, hk⟩ : ∃ k, (F.R c)[i]? = some k := ⟨(F.R c)[i], by simp⟩
  rw [zc hk] at hd;cases hd;have hkn := p.mem.mp (List.mem_of_getElem? hk);have g1 := f6 (vN hkn);have lb : ((au ((dP ts c).take i)).length < BIG) = True := by rw [aI, List.length_take]; exact eK (by lia)
  have e2 : (au ((dP ts c).take (i + 1))).map OD.sh = (au ((dP ts c).take i)).map OD.sh ++ [OD.sh (.tuple [.int (F.gi c (eW ts k).e), .str (eW ts k).l, .int (eW ts k).t])] := by
   have : (dP ts c)[i]? = some ⟨F.gi c (eW ts k).e, (eW ts k).l, (eW ts k).t⟩ := by
    unfold dP;rw [List.getElem?_map, hk];rfl
   rw [List.take_add_one, this];unfold au;rw [List.map_append, List.map_append];rfl
  rcases p.elder hkn with z | ⟨j, j1, j2⟩
  ·have he : (eW ts k).e = -1 := by rw [nu hkn, z]
   have d1 : decide ((0 : Int) ≤ (eW ts k).e) = false := decide_eq_false (by lia)
   have gi : F.gi c (eW ts k).e = (eW ts k).e := by rw [he]; rfl
   rw [gi] at e2;push_cast only [g1, d1, lb];rw [← e2];exact ⟨_, _, _, _, rfl⟩
  ·have he : (eW ts k).e = (j : Int) := by rw [nu hkn, j2]
   have d1 : decide ((0 : Int) ≤ (eW ts k).e) = true := decide_eq_true (by lia)
   have mj : (j : Int) ∈ iL (F.R c) := by unfold iL; exact List.mem_map.mpr ⟨j, p.mem.mpr j1, rfl⟩
   have ix : mK (nD (F.R c)) (.int (eW ts k).e) = .ok (.sh (.int (F.gi c (eW ts k).e))) := by
    rw [he];have := zd (iL (F.R c)) (j : Int) mj;rw [xu] at this;have gi : F.gi c (j : Int) = (((F.R c).idxOf j : Nat) : Int) := by
     unfold F.gi;rw [if_neg (by lia)]
     rfl
    rw [gi];exact this
   push_cast only [g1, d1, lb, ix];rw [← e2];exact ⟨_, _, _, _, rfl⟩
 ·rintro ρ' rfl ⟨v3, v4, v5, v6, rfl⟩
  have e : (dP ts c).take (nD (F.R c)).length = dP ts c := List.take_of_length_le (by rw [gZ p, f9, len]; exact Nat.le_refl _)
  rw [e];push_cast only [and_self]
theorem xI (n : Nd) (r : List Nd) (s : Nat) (hl : r.length ≤ 100) : e9 [.list (au (n :: r)), .int s] = .ok (.ol ((au (dN s (n :: r))).map OD.sh)) := by
 unfold e9 fV;have g1 := f6 (ts := n :: r) (k := 0) (n := n) rfl;rw [Int.natCast_zero] at g1;have cf : cutD (au (n :: r)) (some 1) none = au r := by
  have := jW (au (n :: r)) 1 (by rw [aI]; simp)
  exact this
 push_cast only [g1, cf, aT];generalize hL : bE _ _ _ _ = r'
 refine cC hL (fun i ρ => ∃ v3 v4 v5 : Option OD, ρ = [some (.sh (.list (au (n :: r)))), some (.sh (.int s)), some (.ol ((au (⟨0, n.l, n.t⟩ :: (r.take i).map fun m => ⟨m.e + s, m.l, m.t⟩)).map OD.sh)), v3, v4, v5]) ⟨_, _, _, rfl⟩ ?_ ?_
 ·rintro i d ρ hd ⟨v3, v4, v5, rfl⟩
  unfold au at hd;rw [List.getElem?_map] at hd;obtain ⟨m, hm, rfl⟩ := Option.map_eq_some_iff.mp hd;have hi := (List.getElem?_eq_some_iff.mp hm).1;have lb : ((au (⟨0, n.l, n.t⟩ :: (r.take i).map fun m => ⟨m.e + s, m.l, m.t⟩)).length < BIG) = True := by
   rw [aI];exact eK (by simp; lia)
  have t1 : (au (⟨0, n.l, n.t⟩ :: (r.take (i + 1)).map fun m => ⟨m.e + s, m.l, m.t⟩)).map OD.sh = (au (⟨0, n.l, n.t⟩ :: (r.take i).map fun m => ⟨m.e + s, m.l, m.t⟩)).map OD.sh ++ [OD.sh (.tuple [.int (m.e + s), .str m.l, .int m.t])] := by
   rw [List.take_add_one, hm];unfold au;simp [ndD]
  push_cast only [ndD, lb];rw [← t1];exact ⟨_, _, _, rfl⟩
 ·rintro ρ' rfl ⟨v3, v4, v5, rfl⟩
  have e : r.take (au r).length = r := List.take_of_length_le (by rw [aI]; exact Nat.le_refl _)
  rw [e];push_cast only [and_self];rfl
theorem oK (xs : List PyData) (h : 1 ≤ xs.length) : cutD xs none (some (-1)) = xs.dropLast := by
 have e : HT.sIx xs.length xs.length (some (-1)) = xs.length - 1 := by
  unfold HT.sIx;simp
  lia
 unfold cutD;rw [e, List.dropLast_eq_take];rfl
theorem qk (ts : List Nd) : (au ts).dropLast = au ts.dropLast := by unfold au; rw [List.map_dropLast]
noncomputable def Dn (ts : List Nd) : Nat → Nat → Nat → Prop
 | j, 0, k => k = j
 | j, l + 1, k => ∃ c, c ∈ chN ts j ∧ Dn ts c l k
theorem Dn.snoc {ts : List Nd} {q k : Nat} (hk : k ∈ chN ts q) : ∀ {l j : Nat}, Dn ts j l q → Dn ts j (l + 1) k
 | 0, j, h => by
  have h : q = j := h;subst h;exact ⟨k, hk, rfl⟩
 | l + 1, j, ⟨c, hc, h⟩ => ⟨c, hc, Dn.snoc hk h⟩
structure IsOut (ts : List Nd) (f : Nat → Int) (j : Nat) (o : Ol) : Prop where
 len : ∀ l, l < o.length ↔ ∃ k, Dn ts j l k
 lo : ∀ l p, o[l]? = some p → (∃ k, Dn ts j l k ∧ p.1 = f k - 256 * gv (aX ts) k - f j) ∧ ∀ k, Dn ts j l k → p.1 ≤ f k - 256 * gv (aX ts) k - f j
 hi : ∀ l p, o[l]? = some p → (∃ k, Dn ts j l k ∧ p.2 = f k + 256 * gv (aX ts) k - f j) ∧ ∀ k, Dn ts j l k → f k + 256 * gv (aX ts) k - f j ≤ p.2
theorem fA {ts : List Nd} (gap : Int) (he : EL ts) (h0 : 0 < ts.length) (hl : ts.length ≤ 100) {j i c : Nat} (hj : j < ts.length) (hc : (chN ts j)[i]? = some c) : pos ts gap c = pos ts gap j + gv (stF gap ((chN ts j).map (outF ts gap))) i := by
 have hm := List.mem_of_getElem? hc;obtain ⟨c1, c2⟩ := cw.mp hm;have := (fk he hm).1;rw [we he (by lia) c1 c2, wM gap he h0 hl hj hc]
theorem n6 {ts : List Nd} (gap : Int) (he : EL ts) (h0 : 0 < ts.length) (hl : ts.length ≤ 100) : ∀ m j, j + m = ts.length → j < ts.length → IsOut ts (pos ts gap) j (outF ts gap j) := by
 intro m
 induction m using Nat.strongRecOn with
 | ind m ih =>
  intro j hjm hj;have ihc : ∀ c ∈ chN ts j, IsOut ts (pos ts gap) c (outF ts gap c) := fun c hc => by
   obtain ⟨c1, c2⟩ := fk he hc;exact ih (ts.length - c) (by lia) c (by lia) c2
  have zero : ∀ p, (outF ts gap j)[0]? = some p → p = (-256 * gv (aX ts) j, 256 * gv (aX ts) j) := fun p hp => by
   rw [gL gap he h0 hl hj] at hp;unfold ini at hp;simp at hp
   exact hp.symm
  by_cases hc : chN ts j = []
  ·have e : outF ts gap j = ini ts j := by rw [gL gap he h0 hl hj, if_pos hc, List.append_nil]
   have no : ∀ l k, ¬ Dn ts j (l + 1) k := fun l k h => by
    obtain ⟨c, c1, _⟩ := h;rw [hc] at c1;cases c1
   have l1 : (outF ts gap j).length = 1 := by rw [e]; rfl
   have lt : ∀ l p, (outF ts gap j)[l]? = some p → l = 0 := fun l p hp => by
    have := (List.getElem?_eq_some_iff.mp hp).1;lia
   refine ⟨fun l => ?_, fun l p hp => ?_, fun l p hp => ?_⟩
   ·rw [l1]
    constructor
    ·intro h
     have : l = 0 := by lia
     subst this;exact ⟨j, rfl⟩
    ·rintro ⟨k, hk⟩
     cases l with
     | zero => lia
     | succ l => exact absurd hk (no l k)
   ·have := lt l p hp
    subst this;rw [zero p hp];exact ⟨⟨j, rfl, by show _ = _; lia⟩, fun k hk => by have hk : k = j := hk; subst hk; show -256 * _ ≤ _; lia⟩
   ·have := lt l p hp
    subst this;rw [zero p hp];exact ⟨⟨j, rfl, by show _ = _; lia⟩, fun k hk => by have hk : k = j := hk; subst hk; show _ ≤ 256 * _; lia⟩
  ·have hO := i9 gap he h0 hl hc
   have e : outF ts gap j = ini ts j ++ jo ((chN ts j).map (outF ts gap)) (stF gap ((chN ts j).map (outF ts gap))) := by rw [gL gap he h0 hl hj, if_neg hc]
   have pc := fun i c (h : (chN ts j)[i]? = some c) => fA gap he h0 hl hj h
   generalize hst : stF gap ((chN ts j).map (outF ts gap)) = st at e pc
   have hne : (chN ts j).map (outF ts gap) ≠ [] := by simp [hc]
   obtain ⟨_, ⟨jm, jm1, jm2⟩, mx⟩ := jx hne;have len1 : (outF ts gap j).length = 1 + mxN ((chN ts j).map (outF ts gap)) := by rw [e, List.length_append, qJ]; rfl
   have lenO_at : ∀ i c, (chN ts j)[i]? = some c → gD ((chN ts j).map (outF ts gap)) i = (outF ts gap c).length := fun i c h => by unfold gD; rw [List.getElem?_map, h]; rfl
   have oA_at : ∀ i c l, (chN ts j)[i]? = some c → oA ((chN ts j).map (outF ts gap)) i l = ((outF ts gap c)[l]?).getD (0, 0) := fun i c l h => by unfold oA; rw [List.getElem?_map, h]; rfl
   have th : ∀ l i, i ∈ there ((chN ts j).map (outF ts gap)) l ↔ ∃ c, (chN ts j)[i]? = some c ∧ l < (outF ts gap c).length := fun l i => by
    unfold there;rw [List.mem_filter, List.mem_range, decide_eq_true_eq, List.length_map];constructor
    ·rintro ⟨a, b⟩
     have g : (chN ts j)[i]? = some (chN ts j)[i] := List.getElem?_eq_getElem a;exact ⟨_, g, by rw [← lenO_at i _ g]; exact b⟩
    ·rintro ⟨c, c1, c2⟩
     exact ⟨(List.getElem?_eq_some_iff.mp c1).1, by rw [lenO_at i c c1]; exact c2⟩
   have succ : ∀ l p, (outF ts gap j)[l + 1]? = some p → l < mxN ((chN ts j).map (outF ts gap)) ∧ p = jl ((chN ts j).map (outF ts gap)) st l := fun l p hp => by
    have hlt := (List.getElem?_eq_some_iff.mp hp).1;rw [len1] at hlt;have h2 : l < mxN ((chN ts j).map (outF ts gap)) := by lia
    refine ⟨h2, ?_⟩;rw [e] at hp;unfold ini jo at hp;rw [List.cons_append, List.nil_append, List.getElem?_cons_succ, List.getElem?_map, List.getElem?_range h2] at hp;exact (Option.some.inj hp).symm
   refine ⟨fun l => ?_, fun l p hp => ?_, fun l p hp => ?_⟩
   ·cases l with
    | zero => exact ⟨fun _ => ⟨j, rfl⟩, fun _ => by lia⟩
    | succ l =>
     rw [len1];constructor
     ·intro h
      have tn := gY hne (show l < mxN ((chN ts j).map (outF ts gap)) by lia)
      obtain ⟨i, hi⟩ := List.exists_mem_of_ne_nil _ tn;obtain ⟨c, c1, c2⟩ := (th l i).mp hi;have cm := List.mem_of_getElem? c1;obtain ⟨k, hk⟩ := ((ihc c cm).len l).mp c2;exact ⟨k, c, cm, hk⟩
     ·rintro ⟨k, c, cm, hk⟩
      have c2 := ((ihc c cm).len l).mpr ⟨k, hk⟩;obtain ⟨i, il, ie⟩ := List.getElem_of_mem cm;have := mx i (by rw [List.length_map]; exact il)
      rw [lenO_at i c (by rw [List.getElem?_eq_getElem il, ie])] at this
      lia
   ·cases l with
    | zero =>
     rw [zero p hp];exact ⟨⟨j, rfl, by show _ = _; lia⟩, fun k hk => by have hk : k = j := hk; subst hk; show -256 * _ ≤ _; lia⟩
    | succ l =>
     obtain ⟨h2, rfl⟩ := succ l p hp;have tn := gY hne h2;obtain ⟨s1, s2⟩ := fX (xs := (there ((chN ts j).map (outF ts gap)) l).map fun i => gv st i + (oA ((chN ts j).map (outF ts gap)) i l).1) (fun z => tn (List.map_eq_nil_iff.mp z))
     refine ⟨?_, ?_⟩
     ·obtain ⟨i, hi, ei⟩ := List.mem_map.mp s1
      obtain ⟨c, c1, c2⟩ := (th l i).mp hi;have cm := List.mem_of_getElem? c1;obtain ⟨⟨k, k1, k2⟩, _⟩ := (ihc c cm).lo l _ (List.getElem?_eq_getElem c2);refine ⟨k, ⟨c, cm, k1⟩, ?_⟩;show jz _ = _
      rw [← ei, oA_at i c l c1, List.getElem?_eq_getElem c2];show gv st i + (outF ts gap c)[l].1 = _
      rw [k2, pc i c c1];lia
     ·rintro k ⟨c, cm, hk⟩
      obtain ⟨i, il, ie⟩ := List.getElem_of_mem cm;have c1 : (chN ts j)[i]? = some c := by rw [List.getElem?_eq_getElem il, ie]
      have c2 := ((ihc c cm).len l).mpr ⟨k, hk⟩;have q := s2 _ (List.mem_map.mpr ⟨i, (th l i).mpr ⟨c, c1, c2⟩, rfl⟩);rw [oA_at i c l c1, List.getElem?_eq_getElem c2] at q;have q : jz _ ≤ gv st i + (outF ts gap c)[l].1 := q;have := ((ihc c cm).lo l _ (List.getElem?_eq_getElem c2)).2 k hk;have pcc := pc i c c1;show jz _ ≤ _
      lia
   ·cases l with
    | zero =>
     rw [zero p hp];exact ⟨⟨j, rfl, by show _ = _; lia⟩, fun k hk => by have hk : k = j := hk; subst hk; show _ ≤ 256 * _; lia⟩
    | succ l =>
     obtain ⟨h2, rfl⟩ := succ l p hp;have tn := gY hne h2;obtain ⟨s1, s2⟩ := eM (xs := (there ((chN ts j).map (outF ts gap)) l).map fun i => gv st i + (oA ((chN ts j).map (outF ts gap)) i l).2) (fun z => tn (List.map_eq_nil_iff.mp z))
     refine ⟨?_, ?_⟩
     ·obtain ⟨i, hi, ei⟩ := List.mem_map.mp s1
      obtain ⟨c, c1, c2⟩ := (th l i).mp hi;have cm := List.mem_of_getElem? c1;obtain ⟨⟨k, k1, k2⟩, _⟩ := (ihc c cm).hi l _ (List.getElem?_eq_getElem c2);refine ⟨k, ⟨c, cm, k1⟩, ?_⟩;show g6 _ = _
      rw [← ei, oA_at i c l c1, List.getElem?_eq_getElem c2];show gv st i + (outF ts gap c)[l].2 = _
      rw [k2, pc i c c1];lia
     ·rintro k ⟨c, cm, hk⟩
      obtain ⟨i, il, ie⟩ := List.getElem_of_mem cm;have c1 : (chN ts j)[i]? = some c := by rw [List.getElem?_eq_getElem il, ie]
      have c2 := ((ihc c cm).len l).mpr ⟨k, hk⟩;have q := s2 _ (List.mem_map.mpr ⟨i, (th l i).mpr ⟨c, c1, c2⟩, rfl⟩);rw [oA_at i c l c1, List.getElem?_eq_getElem c2] at q;have q : gv st i + (outF ts gap c)[l].2 ≤ g6 _ := q;have := ((ihc c cm).hi l _ (List.getElem?_eq_getElem c2)).2 k hk;have pcc := pc i c c1;show _ ≤ g6 _
      lia
noncomputable def lvN (ts : List Nd) (k : Nat) : Nat := ((lvs ts)[k]?).getD 0
theorem fB {ts : List Nd} (he : EL ts) {j c : Nat} (h : c ∈ chN ts j) : lvN ts c = lvN ts j + 1 := by
 obtain ⟨c1, c2⟩ := cw.mp h;have hg := (fk he h).1;obtain ⟨n, hn⟩ : ∃ n, ts[c]? = some n := ⟨ts[c], by simp [c1]⟩
 rw [bZ hn] at c2;unfold lvN;rw [jO hn];show bF _ n = _
 unfold bF;rw [if_neg (by lia), c2, Int.toNat_natCast, ← iN, List.getElem?_take_of_lt hg]
theorem qR {ts : List Nd} (he : EL ts) : ∀ {l j k : Nat}, j < ts.length → Dn ts j l k → lvN ts k = lvN ts j + l ∧ j ≤ k ∧ k < ts.length
 | 0, j, k, hj, h => by
  have h : k = j := h;subst h;exact ⟨rfl, Nat.le_refl _, hj⟩
 | l + 1, j, k, hj, ⟨c, hc, h⟩ => by
  have g := fk he hc;obtain ⟨a, b, d⟩ := qR he g.2 h;rw [fB he hc] at a;exact ⟨by lia, by lia, d⟩
theorem yb {ts : List Nd} {c : F} (p : PT ts c) {j : Nat} (hj : j < ts.length) : ∃ s, ((ts.drop (j + 1)).takeWhile (inB j)).length = s ∧ j + 1 + s ≤ ts.length ∧ (∀ k, j < k → k ≤ j + s → (j : Int) ≤ eOf ts k) ∧
  ∀ b, b < ts.length → (j : Int) ≤ eOf ts b → eOf ts b ≤ ((j + s : Nat) : Int) → j < b ∧ b ≤ j + s := by
 obtain ⟨s, q1, q2, q3, q4⟩ := Ag p hj;have at1 : ∀ k, (ts.drop (j + 1))[k]? = ts[j + 1 + k]? := fun k => List.getElem?_drop
 refine ⟨s, vt _ _ s (by rw [List.length_drop]; lia) (fun k hk x hx => ?_) (fun x hx => ?_), q1, q2, q4⟩
 ·rw [at1] at hx
  have := q2 (j + 1 + k) (by lia) (by lia)
  rw [bZ hx] at this;exact decide_eq_true this
 ·rw [at1] at hx
  have hlt := (List.getElem?_eq_some_iff.mp hx).1;have := q3 hlt;rw [bZ hx] at this;exact decide_eq_false (by lia)
theorem uZ {ts : List Nd} (he : EL ts) {j s : Nat} (q : ∀ b, b < ts.length → (j : Int) ≤ eOf ts b → eOf ts b ≤ ((j + s : Nat) : Int) → j < b ∧ b ≤ j + s) : ∀ {l i k : Nat}, j ≤ i → i ≤ j + s → Dn ts i l k → k ≤ j + s
 | 0, i, k, _, h, hd => by
  have hd : k = i := hd;lia
 | l + 1, i, k, h1, h2, ⟨c, hc, hd⟩ => by
  obtain ⟨c1, c2⟩ := cw.mp hc;have := q c c1 (by lia) (by lia)
  exact uZ he q (by lia) this.2 hd
theorem zy {ts : List Nd} (he : EL ts) {j s : Nat} (hj : j + s < ts.length) (q : ∀ k, j < k → k ≤ j + s → (j : Int) ≤ eOf ts k) (k : Nat) (h1 : j ≤ k) (h2 : k ≤ j + s) : ∃ l, Dn ts j l k := by
 induction k using Nat.strongRecOn with
 | ind k ih =>
  by_cases hk : k = j
  ·exact ⟨0, hk⟩
  ·have e1 := q k (by lia) h2
   obtain ⟨n, hn⟩ : ∃ n, ts[k]? = some n := ⟨ts[k]'(by lia), by simp⟩
   have lt := (he k n hn).2.2;rw [← bZ hn] at lt;obtain ⟨x, hx⟩ : ∃ x : Nat, eOf ts k = (x : Int) := ⟨(eOf ts k).toNat, by lia⟩
   obtain ⟨l, hl⟩ := ih x (by lia) (by lia) (by lia)
   exact ⟨l + 1, Dn.snoc (cw.mpr ⟨by lia, hx⟩) hl⟩
structure IsUp (ts : List Nd) (f : Nat → Int) (j i : Nat) (o : Ol) : Prop where
 len : ∀ l, l < o.length ↔ ∃ k, k < i ∧ Dn ts j l k
 lo : ∀ l p, o[l]? = some p → (∃ k, k < i ∧ Dn ts j l k ∧ p.1 = f k - 256 * gv (aX ts) k - f j) ∧ ∀ k, k < i → Dn ts j l k → p.1 ≤ f k - 256 * gv (aX ts) k - f j
 hi : ∀ l p, o[l]? = some p → (∃ k, k < i ∧ Dn ts j l k ∧ p.2 = f k + 256 * gv (aX ts) k - f j) ∧ ∀ k, k < i → Dn ts j l k → f k + 256 * gv (aX ts) k - f j ≤ p.2
theorem sk {ts : List Nd} {k : Nat} {n : Nd} (h : ts[k]? = some n) : gv (aX ts) k = (n.l.length : Int) / 2 := by
 unfold gv aX;rw [List.getElem?_map, h];rfl
noncomputable def Dp (ts : List Nd) (d : Nat) : Prop := ∀ k, k < ts.length → lvN ts k ≤ d
theorem Dp.mono {ts : List Nd} {a b : Nat} (h : Dp ts a) (hab : a ≤ b) : Dp ts b := fun k hk => Nat.le_trans (h k hk) hab
theorem sD : ∀ (ts us : List Nd), us.length = ts.length → (∀ k, k < ts.length → eOf us k = eOf ts k) → lvs us = lvs ts := by
 intro ts;refine snoc_ind (P := fun ts => ∀ us : List Nd, us.length = ts.length → (∀ k, k < ts.length → eOf us k = eOf ts k) → lvs us = lvs ts) (fun us h _ => ?_) (fun ts n ih us h he => ?_) ts
 ·have : us = [] := List.length_eq_zero_iff.mp h
  rw [this]
 ·rw [List.length_append, List.length_singleton] at h
  have hne : us ≠ [] := fun z => by rw [z] at h; simp at h
  have e := List.dropLast_concat_getLast hne;generalize us.dropLast = vs at e
  generalize us.getLast hne = m at e
  subst e;rw [List.length_append, List.length_singleton] at h;have hv : vs.length = ts.length := by lia
  have e1 : lvs vs = lvs ts := ih vs hv fun k hk => by
   have := he k (by rw [List.length_append]; lia)
   unfold eOf at this ⊢;rw [List.getElem?_append_left (by lia), List.getElem?_append_left hk] at this
   exact this
  have e2 : m.e = n.e := by
   have := he ts.length (by rw [List.length_append, List.length_singleton]; lia)
   have g1 : (ts ++ [n])[ts.length]? = some n := by simp
   have g2 : (vs ++ [m])[ts.length]? = some m := by rw [← hv]; simp
   rw [bZ g1, bZ g2] at this;exact this
  rw [eX, eX, e1];unfold bF;rw [e2]
theorem oz {ts us : List Nd} {k : Nat} (h : k < ts.length) : lvN (ts ++ us) k = lvN ts k := by
 unfold lvN;have := iN (ts ++ us) ts.length;rw [List.take_left] at this;rw [← this, List.getElem?_take_of_lt h]
theorem iP {ts : List Nd} (he : EL ts) (h0 : 0 < ts.length) : lvN ts 0 = 0 := by
 obtain ⟨n, hn⟩ : ∃ n, ts[0]? = some n := ⟨ts[0], by simp [h0]⟩
 unfold lvN;rw [jO hn];show bF _ n = 0
 unfold bF;rw [if_pos ((he 0 n hn).1 rfl)]
theorem lL {deep : Nat} {ts : List Nd} {way : List Int} (g : Grown deep ts way) : (∀ (i : Nat) (x : Int), way[i]? = some x → lvN ts x.toNat = i) ∧ Dp ts deep := by
 induction g with
 | @root n h e =>
  have z : lvN [n] 0 = 0 := by
   unfold lvN;rw [jO (ts := [n]) (i := 0) rfl];show bF _ n = 0
   unfold bF;rw [if_pos e]
  refine ⟨fun i x hx => ?_, fun k hk => ?_⟩
  ·have : i = 0 := by
    have := (List.getElem?_eq_some_iff.mp hx).1;simp at this
    lia
   subst this;have hx : (0 : Int) = x := by simpa using hx
   subst hx;exact z
  ·have : k = 0 := by simp at hk; lia
   subst this;rw [z];exact Nat.zero_le _
 | @step ns way c n g h1 h2 h3 h4 h5 ih =>
  obtain ⟨i1, i2⟩ := ih;have ew := g.way_lt n.e (List.mem_of_getElem? h5);have el := i1 (c - 1) n.e h5;have last : lvN (ns ++ [n]) ns.length = c := by
   unfold lvN;rw [eX, List.getElem?_append_right (by rw [cN]; exact Nat.le_refl _), cN, Nat.sub_self]
   show bF _ n = c
   unfold bF;rw [if_neg (by lia)]
   unfold lvN at el;rw [el];lia
  refine ⟨fun i x hx => ?_, fun k hk => ?_⟩
  ·by_cases hi : i < (way.take c).length
   ·rw [List.getElem?_append_left hi] at hx
    rw [List.length_take] at hi;rw [List.getElem?_take_of_lt (by lia)] at hx
    have xl := g.way_lt x (List.mem_of_getElem? hx);rw [oz (by lia)]
    exact i1 i x hx
   ·rw [List.getElem?_append_right (by lia)] at hx
    have hl := (List.getElem?_eq_some_iff.mp hx).1;rw [List.length_singleton] at hl;rw [List.length_take] at hi hl;have hi2 : i = c := by lia
    have hx : (ns.length : Int) = x := by
     rw [List.length_take, show i - min c way.length = 0 by lia] at hx
     simpa using hx
    subst hx;rw [Int.toNat_natCast, last, hi2]
  ·rw [List.length_append, List.length_singleton] at hk
   by_cases hkl : k < ns.length
   ·rw [oz hkl]
    exact i2 k hkl
   ·rw [show k = ns.length by lia, last]
    exact h3
theorem E9 {ts us : List Nd} {d : Nat} (h : Dp ts d) (hl : us.length = ts.length) (he : ∀ k, k < ts.length → eOf us k = eOf ts k) : Dp us d := fun k hk => by
 have := h k (by lia)
 unfold lvN at this ⊢;rw [sD ts us hl he];exact this
theorem Bn {ts : List Nd} {c : F} (p : PT ts c) {d : Nat} (h : Dp ts d) : Dp (dP ts c) d := by
 have pm := jR p;have hem := bx pm;have he := bx p;have ml := gZ p;have key : ∀ k, k < ts.length → lvN (dP ts c) (F.g c k) = lvN ts k := by
  intro k
  induction k using Nat.strongRecOn with
  | ind k ih =>
   intro hk;by_cases h0 : k = 0
   ·subst h0
    rw [F.oe, iP hem (by lia), iP he hk]
   ·obtain ⟨n, hn⟩ : ∃ n, ts[k]? = some n := ⟨ts[k], by simp [hk]⟩
    have el := he k n hn;obtain ⟨q, hq⟩ : ∃ q : Nat, n.e = (q : Int) := ⟨n.e.toNat, by have := el.2.1 (by lia); lia⟩
    have hqk : q < k := by have := el.2.2; lia
    have e1 : eOf ts k = (q : Int) := by rw [bZ hn]; exact hq
    have gl := F.Pf.g_lt p hk;have e2 : eOf (dP ts c) (F.g c k) = ((F.g c q : Nat) : Int) := by
     rw [wB p gl, F.Pf.e1_g p hk, e1];unfold F.gi;rw [if_neg (by lia), Int.toNat_natCast]
    rw [fB hem (cw.mpr ⟨by lia, e2⟩), fB he (cw.mpr ⟨hk, e1⟩), ih q hqk (by lia)]
 intro i hi;rw [ml] at hi;obtain ⟨k, hk⟩ : ∃ k, (F.R c)[i]? = some k := ⟨(F.R c)[i]'(by rw [F.Pf.len p]; exact hi), by simp⟩
 have kl : k < ts.length := (F.Pf.mem p).mp (List.mem_of_getElem? hk);rw [← F.Pf.g_at p hk, key k kl];exact h k kl
theorem zY {ts : List Nd} {d : Nat} (h : Dp ts d) : Dp ts.dropLast d := fun k hk => by
 rw [List.length_dropLast] at hk;have := h k (by lia)
 rw [List.dropLast_eq_take];unfold lvN at this ⊢;rw [← iN, List.getElem?_take_of_lt hk];exact this
theorem xX {ts us : List Nd} {c d : F} (p : PT ts c) (q : PT us d) {a b : Nat} (ht : Dp ts a) (hu : Dp us b) : Dp (ts ++ dN ts.length us) (max a (b + 1)) := by
 have het := bx p;have heu := bx q;have hea := bx (rD p q);have t0 := p.pos;have u0 := q.pos;obtain ⟨m, r, rfl⟩ : ∃ m r, us = m :: r := by
  cases us with
  | nil => exact absurd u0 (by simp)
  | cons m r => exact ⟨m, r, rfl⟩
 have hl : (dN ts.length (m :: r)).length = r.length + 1 := by unfold dN; rw [List.length_cons, List.length_map]
 have at0 : (ts ++ dN ts.length (m :: r))[ts.length]? = some ⟨0, m.l, m.t⟩ := by
  rw [List.getElem?_append_right (Nat.le_refl _), Nat.sub_self];rfl
 have at1 : ∀ (i : Nat) (x : Nd), r[i]? = some x → (ts ++ dN ts.length (m :: r))[ts.length + (i + 1)]? = some ⟨x.e + ts.length, x.l, x.t⟩ := fun i x hx => by
  rw [List.getElem?_append_right (by lia), Nat.add_sub_cancel_left]
  unfold dN;rw [List.getElem?_cons_succ, List.getElem?_map, hx];rfl
 have z0 : lvN (ts ++ dN ts.length (m :: r)) 0 = 0 := iP hea (by rw [List.length_append]; lia)
 have key : ∀ i, i < (m :: r).length → lvN (ts ++ dN ts.length (m :: r)) (ts.length + i) = lvN (m :: r) i + 1 := by
  intro i
  induction i using Nat.strongRecOn with
  | ind i ih =>
   intro hi;by_cases h0 : i = 0
   ·subst h0
    rw [iP heu u0, Nat.add_zero];have := fB hea (j := 0) (c := ts.length) (cw.mpr ⟨by rw [List.length_append, hl]; lia, by rw [bZ at0]; rfl⟩)
    rw [this, z0]
   ·obtain ⟨x, hx⟩ : ∃ n, r[i - 1]? = some n := ⟨r[i - 1]'(by simp at hi; lia), by simp⟩
    have hx2 : (m :: r)[i]? = some x := by
     rw [show i = i - 1 + 1 by lia, List.getElem?_cons_succ]
     exact hx
    have el := heu i x hx2;obtain ⟨y, hy⟩ : ∃ y : Nat, x.e = (y : Int) := ⟨x.e.toNat, by have := el.2.1 (by lia); lia⟩
    have hyi : y < i := by have := el.2.2; lia
    have a1 := at1 (i - 1) x hx;rw [show i - 1 + 1 = i by lia] at a1
    have e1 : eOf (ts ++ dN ts.length (m :: r)) (ts.length + i) = ((ts.length + y : Nat) : Int) := by
     rw [bZ a1];show x.e + ts.length = _
     lia
    rw [fB hea (cw.mpr ⟨(List.getElem?_eq_some_iff.mp a1).1, e1⟩), ih y hyi (by lia), fB heu (cw.mpr ⟨hi, by rw [bZ hx2]; exact hy⟩)]
 intro k hk;by_cases hkt : k < ts.length
 ·rw [oz hkt]
  have := ht k hkt;lia
 ·rw [List.length_append, hl] at hk
  have := key (k - ts.length) (by simp; lia)
  rw [show ts.length + (k - ts.length) = k by lia] at this
  rw [this];have := hu (k - ts.length) (by simp; lia)
  lia
noncomputable def dv (m : Nat) : Int := 2 ^ (9 - m)
theorem qY {m : Nat} (h : m + 1 ≤ 9) : dv m = 2 * dv (m + 1) := by
 unfold dv;rw [show 9 - m = 9 - (m + 1) + 1 by lia, Int.pow_succ, Int.mul_comm]
theorem qD {a b : Nat} (h : a ≤ b) : dv b ∣ dv a := by
 unfold dv;refine ⟨2 ^ ((9 - a) - (9 - b)), ?_⟩;rw [← Int.pow_add];congr 1
 lia
theorem wA {m : Nat} (h : 1 ≤ m) : dv m ∣ 256 := by
 have := qD h;exact this
theorem w6 {n : Nat} {d : Nat → Nat → Int} {e : Nat → Int} {D : Int} (h : IsE n d e) (hd : ∀ i j, i < j → j < n → D ∣ d i j) (k : Nat) (hk : k < n) : D ∣ e k := by
 induction k using Nat.strongRecOn with
 | ind k ih =>
  by_cases h0 : k = 0
  ·subst h0
   rw [h.1];exact Int.dvd_zero _
  ·obtain ⟨_, j, h1, h2⟩ := h.2 k (by lia) hk
   rw [h2];exact Int.dvd_add (ih j h1 (by lia)) (hd j k h1 hk)
theorem xc {n : Nat} {d : Nat → Nat → Int} {T : Int} {l : Nat → Int} {D : Int} (h : IsL n d T l) (hT : D ∣ T) (hd : ∀ i j, i < j → j < n → D ∣ d i j) : ∀ m k, k + m + 1 = n → D ∣ l k := by
 intro m
 induction m using Nat.strongRecOn with
 | ind m ih =>
  intro k hk;by_cases h0 : m = 0
  ·subst h0
   rw [show k = n - 1 by lia, h.1]
   exact hT
  ·obtain ⟨_, j, h1, h2, h3⟩ := h.2 k (by lia)
   rw [h3];exact Int.dvd_sub (ih (n - 1 - j) (by lia) j (by lia)) (hd k j h1 h2)
noncomputable def kR (D : Int) (o : Ol) : Prop := ∀ p ∈ o, D ∣ p.1 ∧ D ∣ p.2
theorem kR.mono {D D' : Int} {o : Ol} (h : kR D o) (hd : D' ∣ D) : kR D' o := fun p hp => ⟨Int.dvd_trans hd (h p hp).1, Int.dvd_trans hd (h p hp).2⟩
theorem vE {gap D : Int} {o p : Ol} (h1 : kR D o) (h2 : kR D p) (hD : D ∣ 256) (l1 : 1 ≤ o.length) (l2 : 1 ≤ p.length) : D ∣ dist gap o p := by
 obtain ⟨a, as, ha⟩ := vC (gap := gap) l1 l2;obtain ⟨m1, _⟩ := eM (xs := ask gap o p) (by rw [ha]; simp)
 rw [kZ];generalize g6 (ask gap o p) = z at m1
 unfold ask at m1;obtain ⟨⟨x, y⟩, hxy, rfl⟩ := List.mem_map.mp m1;have := List.of_mem_zip hxy;exact Int.dvd_sub (Int.dvd_add (h1 x this.1).2 (Int.dvd_trans hD (Int.dvd_mul_right _ _))) (h2 y this.2).1
theorem k5 {D e l : Int} (h1 : 2 * D ∣ e) (h2 : 2 * D ∣ l) : D ∣ (e + l) / 2 ∧ 2 * ((e + l) / 2) = e + l := by
 obtain ⟨a, rfl⟩ := h1;obtain ⟨b, rfl⟩ := h2;have e1 : 2 * D * a + 2 * D * b = 2 * (D * (a + b)) := by rw [Int.mul_add, Int.mul_add, Int.mul_assoc, Int.mul_assoc]
 rw [e1, Int.mul_ediv_cancel_left _ (by decide)]
 exact ⟨Int.dvd_mul_right _ _, rfl⟩
theorem qp {gap D : Int} {O : List Ol} {es ls st : List Int} (h : IsSt gap O es ls st) (hO : okO O) (hm : ∀ o ∈ O, kR (2 * D) o) (hD : 2 * D ∣ 256) : (∀ k, k < O.length → 2 * D ∣ gv es k ∧ 2 * D ∣ gv ls k) ∧ ∀ k, k < O.length → D ∣ gv st k := by
 have n0 := hO.2.1;have hd : ∀ i j, i < j → j < O.length → 2 * D ∣ dO gap O i j := fun i j h1 h2 => by
  have mi := List.getElem_mem (l := O) (show i < O.length by lia)
  have mj := List.getElem_mem (l := O) h2;rw [show dO gap O i j = dist gap O[i] O[j] by unfold dO; rw [List.getElem?_eq_getElem (show i < O.length by lia), List.getElem?_eq_getElem h2]; rfl]
  exact vE (hm _ mi) (hm _ mj) hD (hO.1 _ mi).1 (hO.1 _ mj).1
 have hE := w6 h.isE hd;have hL : ∀ k, k < O.length → 2 * D ∣ gv ls k := fun k hk => xc h.isL (hE _ (by lia)) hd (O.length - 1 - k) k (by lia)
 refine ⟨fun k hk => ⟨hE k hk, hL k hk⟩, fun k hk => ?_⟩
 rw [h.eq k hk];have z := k5 (hE (O.length - 1) (by lia)) (Int.dvd_zero (2 * D))
 rw [Int.add_zero] at z;exact Int.dvd_sub (k5 (hE k hk) (hL k hk)).1 z.1
theorem wb {ts : List Nd} (gap : Int) (he : EL ts) (h0 : 0 < ts.length) (hl : ts.length ≤ 100) : ∀ m j, j + m = ts.length → j < ts.length → (outF ts gap j).length ≤ 9 → kR (dv (outF ts gap j).length) (outF ts gap j) := by
 intro m
 induction m using Nat.strongRecOn with
 | ind m ih =>
  intro j hjm hj h9;have ln := pA gap he h0 hl hj;have inid : ∀ D : Int, D ∣ 256 → kR D (ini ts j) := fun D hD p hp => by
   unfold ini at hp;rw [List.mem_singleton] at hp;subst hp;exact ⟨Int.dvd_trans (Int.dvd_trans hD ⟨-1, by decide⟩) (Int.dvd_mul_right _ _), Int.dvd_trans hD (Int.dvd_mul_right _ _)⟩
  by_cases hc : chN ts j = []
  ·have e : outF ts gap j = ini ts j := by rw [gL gap he h0 hl hj, if_pos hc, List.append_nil]
   rw [e];exact inid _ (wA (by show 1 ≤ 1; lia))
  ·have hO := i9 gap he h0 hl hc
   have e : outF ts gap j = ini ts j ++ jo ((chN ts j).map (outF ts gap)) (stF gap ((chN ts j).map (outF ts gap))) := by rw [gL gap he h0 hl hj, if_neg hc]
   obtain ⟨⟨es, ls, hst⟩, _⟩ := jH (gap := gap) hO;have hne : (chN ts j).map (outF ts gap) ≠ [] := by simp [hc]
   obtain ⟨_, _, mx⟩ := jx hne;have len1 : (outF ts gap j).length = 1 + mxN ((chN ts j).map (outF ts gap)) := by rw [e, List.length_append, qJ]; rfl
   have m1 : 1 ≤ mxN ((chN ts j).map (outF ts gap)) := by
    have a := mx 0 (by have := hO.2.1; lia)
    have b := (hO.1 _ (List.getElem_mem (l := (chN ts j).map (outF ts gap)) (show 0 < _ from hO.2.1))).1
    unfold gD at a;rw [List.getElem?_eq_getElem (show 0 < ((chN ts j).map (outF ts gap)).length from hO.2.1)] at a
    have a : (((chN ts j).map (outF ts gap))[0]'(show 0 < _ from hO.2.1)).length ≤ mxN ((chN ts j).map (outF ts gap)) := a
    lia
   have hm : ∀ o ∈ (chN ts j).map (outF ts gap), kR (2 * dv (mxN ((chN ts j).map (outF ts gap)) + 1)) o := fun o ho => by
    rw [← qY (by lia)]
    obtain ⟨i, il, ie⟩ := List.getElem_of_mem ho;obtain ⟨c, cm, rfl⟩ := List.mem_map.mp ho;have c1 := fk he cm;have lc : (outF ts gap c).length ≤ mxN ((chN ts j).map (outF ts gap)) := by
     have := mx i il;unfold gD at this;rw [List.getElem?_eq_getElem il, ie] at this;exact this
    exact (ih (ts.length - c) (by lia) c (by lia) c1.2 (by lia)).mono (qD lc)
   have hD : 2 * dv (mxN ((chN ts j).map (outF ts gap)) + 1) ∣ 256 := by rw [← qY (by lia)]; exact wA m1
   have sd := (qp hst hO hm hD).2;rw [len1, Nat.add_comm];generalize hst' : stF gap ((chN ts j).map (outF ts gap)) = st at e sd hst
   generalize hOe : (chN ts j).map (outF ts gap) = O at e sd hm hD hO hne mx m1 hst
   have hD1 : dv (mxN O + 1) ∣ 256 := Int.dvd_trans ⟨2, by rw [Int.mul_comm]⟩ hD
   rw [e];intro p hp;rcases List.mem_append.mp hp with hp | hp
   ·exact inid _ hD1 p hp
   ·unfold jo at hp
    obtain ⟨l, hlm, rfl⟩ := List.mem_map.mp hp;rw [List.mem_range] at hlm;have tn := gY hne hlm;have mem : ∀ i ∈ there O l, dv (mxN O + 1) ∣ gv st i ∧ dv (mxN O + 1) ∣ (oA O i l).1 ∧ dv (mxN O + 1) ∣ (oA O i l).2 := fun i hi => by
     have h1 := List.mem_filter.mp hi;have il := List.mem_range.mp h1.1;have ll := of_decide_eq_true h1.2;refine ⟨sd i il, ?_⟩;have om := (hm _ (List.getElem_mem (l := O) il)).mono (D' := dv (mxN O + 1)) ⟨2, by rw [Int.mul_comm]⟩
     unfold oA;unfold gD at ll;rw [List.getElem?_eq_getElem il] at ll ⊢;have ll : l < O[i].length := ll;show dv (mxN O + 1) ∣ ((O[i][l]?).getD (0, 0)).1 ∧ dv (mxN O + 1) ∣ ((O[i][l]?).getD (0, 0)).2
     rw [List.getElem?_eq_getElem ll];exact om _ (List.getElem_mem ll)
    refine ⟨?_, ?_⟩
    ·obtain ⟨s1, _⟩ := fX (xs := (there O l).map fun i => gv st i + (oA O i l).1) (fun z => tn (List.map_eq_nil_iff.mp z))
     obtain ⟨i, hi, ei⟩ := List.mem_map.mp s1;show _ ∣ jz _
     rw [← ei];exact Int.dvd_add (mem i hi).1 (mem i hi).2.1
    ·obtain ⟨s1, _⟩ := eM (xs := (there O l).map fun i => gv st i + (oA O i l).2) (fun z => tn (List.map_eq_nil_iff.mp z))
     obtain ⟨i, hi, ei⟩ := List.mem_map.mp s1;show _ ∣ g6 _
     rw [← ei];exact Int.dvd_add (mem i hi).1 (mem i hi).2.2
theorem vj {ts : List Nd} (gap : Int) (he : EL ts) (h0 : 0 < ts.length) (hl : ts.length ≤ 100) (hd : Dp ts 8) {j : Nat} (hj : j < ts.length) : (outF ts gap j).length + lvN ts j ≤ 9 := by
 have io := n6 gap he h0 hl (ts.length - j) j (by lia) hj
 have ln := pA gap he h0 hl hj;obtain ⟨k, hk⟩ := (io.len ((outF ts gap j).length - 1)).mp (by lia)
 obtain ⟨a, b, c⟩ := qR he hj hk;have := hd k c;lia
noncomputable def fF : Fs := (aE (aJ 2 (eSh (eOp bB (eSl lN (ae 0) iF (iy (eC (.int 63)))) (eOp eS (eR (ah (eC (.int 0)) az)) (eB sE (ah (eOp gEq (ae 0) (eR az)) az))))))
 (aE (aJ 3 (eR az))
 (aE (sIf (br (eOp gEq (eOp ft (eOp gIx (ae 2) (eC (.int 0))) (eC (.int 2))) (eC (.int 1)))) (aE (aJ 4 (eOp bB (eR (ah (eOp uJ (eOp gIx (ae 2) (eC (.int 0))) (eC (.int 2))) az)) (eSl lN (ae 2) (iy (eC (.int 1))) iF)))
 (aE (fM (iR1 (ae 1)) (gNm 5) (aE (aJ 6 (mH (eOp ft (ae 5) (eB cH (ah (ae 4) az)))))
 (aE (ib 3 (mH (eOp ft (eOp gIx (ae 4) (ae 6)) (eOp uk (eC (.int 10)) (eC (.int 30))))))
 (o8 4 (ae 6) (mH (eOp uJ (eOp gIx (ae 4) (ae 6)) (eOp uk (eC (.int 10)) (eC (.int 30)))))))))
 (fm 3))) sNx)
 (aE (fM (iR1 (ae 1)) (gNm 5) (aE (aJ 7 (eOp gIx (ae 2) (eOp ft (ae 5) (eB cH (ah (ae 2) az)))))
 (aE (aJ 8 (eOp ft (eOp bB (eOp bB (eOp bB (eOp eS (ae 7) (eC (.int 48271))) (eOp eS (eOp eS (ae 5) (ae 5)) (eC (.int 16807)))) (eOp eS (eC (.int 7919)) (ae 5))) (eC (.int 5))) (eC (.int 2147483647))))
 (aE (aJ 9 (eOp ft (eOp bB (eOp eS (ae 8) (ae 8)) (eOp eS (ae 5) (eC (.int 39373)))) (eC (.int 2147483629))))
 (ib 3 (eOp bB (eOp eS (eOp ft (eOp eS (ae 8) (ae 9)) (eC (.int 2147483587))) (eC (.int 2147483629))) (ae 9)))))))
 (fm 3)))))
noncomputable def dC : Fn := dE 2 10 fF
noncomputable def eD : Fs := (aE (aJ 2 (eC (.str "abcdefghijklmnopqrstuvwxyz")))
 (aE (aJ 3 (eC (.str "")))
 (aE (fM (iR1 (ae 1)) (gNm 4) (aE (aJ 3 (eOp bB (ae 3) (eOp gIx (ae 2) (eOp ft (ae 0) (eC (.int 26))))))
 (aJ 0 (eOp gR (ae 0) (eC (.int 26))))))
 (e_ (ae 3)))))
noncomputable def bY : Fn := dE 2 5 eD
noncomputable def eF : Fs := (e_ (bt bY (ah (eOp gR (ae 0) (ae 1)) (ah (eOp bB (eC (.int 1)) (eOp ft (ae 0) (ae 1))) az))))
noncomputable def bW : Fn := dE 2 2 eF
noncomputable def eV : Fs := (aE (aJ 5 (eR az))
 (aE (aJ 6 (eSh (eR az)))
 (aE (fM (iR1 (ae 2)) (gNm 7) (aE (aJ 8 (eOp gIx (ae 0) (eOp bB (ae 1) (ae 7))))
 (aE (aJ 9 (eOp bB (eC (.int 1)) (eOp ft (ae 8) (eC (.int 9)))))
 (aE (aJ 8 (eOp gR (ae 8) (eC (.int 9))))
 (aE (aJ 10 (eUn fK (eC (.int 1))))
 (aE (sIf (br (eOp gGt (ae 7) (eC (.int 0)))) (aE (aJ 11 (eOp bB (eC (.int 1)) (eOp ft (ae 8) (eB cH (ah (ae 6) az)))))
 (aE (sIf (br (eOp gEq (eOp ft (eOp gR (ae 8) (eB cH (ah (ae 6) az))) (eC (.int 3))) (eC (.int 0)))) (aJ 11 (eB cH (ah (ae 6) az))) sNx)
 (aE (aJ 8 (eOp gR (ae 8) (eOp eS (eC (.int 3)) (eB cH (ah (ae 6) az)))))
 (aE (aJ 6 (eSh (eSl lN (ae 6) iF (iy (eB rV (ah (ae 11) (ah (ae 4) az)))))))
 (aJ 10 (eOp gIx (ae 6) (eUn fK (eC (.int 1))))))))) sNx)
 (aE (ib 5 (eSh (iz (ah (ae 10) (ah (eSh (bt bW (ah (ae 8) (ah (ae 3) az)))) (ah (ae 9) az))))))
 (aJ 6 (eSh (eOp bB (ae 6) (eR (ah (ae 7) az))))))))))))
 (fm 5))))
noncomputable def a7 : Fn := dE 5 12 eV
noncomputable def cO : Fs := (aE (aJ 3 (eR az))
 (aE (fM (iR1 (eB cH (ah (ae 0) az))) (gNm 4) (aE (aJ 5 (eOp gIx (ae 1) (eOp bB (ae 2) (ae 4))))
 (aE (aJ 6 (eB pX (ah (eC (.int 1)) (ah (eOp bB (eOp eS (eOp gR (eB cH (ah (eOp gIx (eOp gIx (ae 0) (ae 4)) (eC (.int 1))) az)) (eC (.int 2))) (eC (.int 2))) (eOp ft (ae 5) (eC (.int 2)))) az))))
 (ib 3 (eSh (iz (ah (eOp gIx (eOp gIx (ae 0) (ae 4)) (eC (.int 0))) (ah (eSh (bt bY (ah (eOp gR (ae 5) (eC (.int 18))) (ah (ae 6) az)))) (ah (eOp bB (eC (.int 1)) (eOp ft (eOp gR (ae 5) (eC (.int 2))) (eC (.int 9)))) az)))))))))
 (fm 3)))
noncomputable def bp : Fn := dE 3 7 cO
noncomputable def dW : Fs := (aE (aJ 3 (eSh (bt a7 (ah (ae 0) (ah (ae 1) (ah (ae 2) (ah (eC (.int 9)) (ah (eC (.int 6)) az))))))))
 (aE (aJ 4 (eSh (eR (ah (eSh (iz (ah (eUn fK (eC (.int 1))) (ah (eSh (bt bW (ah (eOp gIx (ae 0) (eOp bB (ae 1) (eC (.int 35)))) (ah (eC (.int 9)) az)))) (ah (eOp bB (eC (.int 1)) (eOp ft (eOp gIx (ae 0) (eOp bB (ae 1) (eC (.int 36)))) (eC (.int 9)))) az))))) az))))
 (aE (fM (iR1 (eOp bB (eC (.int 1)) (eOp ft (eOp gR (eOp gIx (ae 0) (eOp bB (ae 1) (eC (.int 36)))) (eC (.int 9))) (eC (.int 3))))) (gNm 5) (aE (aJ 6 (eSh (bt bp (ah (ae 3) (ah (ae 0) (ah (eOp bB (ae 1) (eOp eS (eC (.int 8)) (eOp bB (ae 5) (eC (.int 1))))) az))))))
 (aE (sIf (br (eOp gEq (eOp ft (eOp gIx (ae 0) (eOp bB (eOp bB (ae 1) (eC (.int 32))) (ae 5))) (eC (.int 3))) (eC (.int 1)))) (aJ 6 (eSh (bt b5 (ah (ae 6) az)))) sNx)
 (aE (sIf (lz (br (eOp gEq (eOp ft (eOp gR (eOp gIx (ae 0) (eOp bB (eOp bB (ae 1) (eC (.int 32))) (ae 5))) (eC (.int 3))) (eC (.int 5))) (eC (.int 1)))) (br (eOp gGt (eB cH (ah (ae 6) az)) (eC (.int 1))))) (aJ 6 (eSh (eSl lN (ae 6) iF (iy (eUn fK (eC (.int 1))))))) sNx)
 (aJ 4 (eSh (eOp bB (ae 4) (bt e9 (ah (ae 6) (ah (eB cH (ah (ae 4) az)) az))))))))))
 (e_ (ae 4)))))
noncomputable def c_ : Fn := dE 3 7 dW
noncomputable def cV : Fs := (aE (aJ 1 (eOp gIx (ae 0) (eC (.int 0))))
 (aE (sIf (br (eOp gEq (eOp ft (ae 1) (eC (.int 3))) (eC (.int 1)))) (e_ (bt c_ (ah (ae 0) (ah (eC (.int 3)) (ah (eOp bB (eC (.int 1)) (eOp ft (eOp gR (ae 1) (eC (.int 3))) (eC (.int 6)))) az))))) sNx)
 (aE (sIf (br (eOp gEq (eOp ft (ae 1) (eC (.int 12))) (eC (.int 2)))) (e_ (bt a7 (ah (ae 0) (ah (eC (.int 3)) (ah (eOp bB (eC (.int 1)) (eOp ft (eOp gR (ae 1) (eC (.int 12))) (eC (.int 36)))) (ah (eC (.int 9)) (ah (eC (.int 8)) az))))))) sNx)
 (e_ (bt a7 (ah (ae 0) (ah (eC (.int 3)) (ah (eOp bB (eC (.int 1)) (eOp ft (eOp gR (ae 1) (eC (.int 3))) (eC (.int 18)))) (ah (eC (.int 9)) (ah (eC (.int 8)) az))))))))))
noncomputable def b6 : Fn := dE 1 2 cV
theorem uD {ns : List Int} (h : ns ≠ []) : gEq (.list (ns.map PyData.int)) (.list []) = .ok (.sh (.bool false)) := by
 cases ns with
 | nil => exact absurd rfl h
 | cons a as =>
  unfold gEq;rw [gz];unfold gW;rw [bX (lay_ints (a :: as)) (by decide), show SeqAt.shaped (.list []) = true from bX (lay_ints []) (by decide), Bool.and_self, if_pos rfl]
  rfl
theorem vV (ns : List Int) (hn : ns.length ≤ 63) : ∃ cs : List Int, cs ≠ [] ∧ cs.length ≤ 63 ∧ unK (fun x => R.ok (OD.sh x.er)) (opK bB (R.ok (OD.ol (List.map OD.sh (cutD (List.map PyData.int ns) none (some 63))))) (opK eS (R.ok (OD.ol [OD.sh (PyData.int 0)])) (unK (fun xs => sE (List.map OD.er xs)) (wz (gEq (PyData.list (List.map PyData.int ns)) (PyData.list [])) (R.ok []))))) = .ok (.sh (.list (cs.map PyData.int))) := by
 have ct : cutD (ns.map PyData.int) none (some 63) = ns.map PyData.int := by
  have := mw (ns.map PyData.int) 63;rw [List.take_of_length_le (by rw [List.length_map]; exact hn)] at this
  exact this
 by_cases h : ns = []
 ·subst h
  refine ⟨[0], by simp, by decide, ?_⟩
  have m1 := k8 (.int 0) 1 (by decide)
  have m1 : eS (.list [.int 0]) (.int 1) = .ok (.ol [.sh (.int 0)]) := m1;have ge := mf (lay_ints []);have ge : gEq (.list []) (.list []) = .ok (.sh (.bool true)) := ge;have ct : cutD [] none (some 63) = [] := ct;push_cast only [ct, ge, m1, aT, List.map_nil]
 ·refine ⟨ns, h, hn, ?_⟩
  have m0 := k8 (.int 0) 0 (by decide)
  have m0 : eS (.list [.int 0]) (.int 0) = .ok (.ol []) := m0;have lb := aP (show ns.length ≤ 1000 by lia)
  push_cast only [ct, uD h, m0, aT, List.append_nil, Nat.add_zero, lb]
theorem uV {cs : List Int} (h : cs ≠ []) (i : Nat) : ∃ j, j < cs.length ∧ (i : Int) % (cs.length : Int) = (j : Int) ∧ atI (cs.map PyData.int) (j : Int) = some (.int (gv cs j)) := by
 have hl : 0 < cs.length := List.length_pos_iff.mpr h;have hb := dR (i : Int) (show (0 : Int) < (cs.length : Int) by lia)
 refine ⟨((i : Int) % (cs.length : Int)).toNat, by lia, by lia, int_at (lB (by lia))⟩
theorem u7 (ns : List Int) (hn : ns.length ≤ 63) (many : Nat) (hm : many ≤ 1000) : ∃ ds : List Int, ds.length = many ∧ (∀ z ∈ ds, 0 ≤ z ∧ z < 1000000000000000000000000000000) ∧ dC [.list (ns.map PyData.int), .int many] = .ok (.ol (bG ds)) := by
 obtain ⟨cs, c0, c1, hc⟩ := vV ns hn;have hl : 0 < cs.length := List.length_pos_iff.mpr c0;have a0 := int_at (lB (ls := cs) (k := 0) hl);rw [Int.natCast_zero] at a0;have sm : aB (many : Int) = true := eT (by lia) (by lia)
 unfold dC fF;push_cast only [and_self];rw [hc];by_cases hodd : gv cs 0 % 2 = 1
 ·obtain ⟨l0, l1, hl0⟩ : ∃ l0 : List Int, l0.length = cs.length ∧ ∀ (x : Int), PyData.int x :: (cs.map PyData.int).drop 1 = (x :: cs.drop 1).map PyData.int := ⟨cs, rfl, fun x => by rw [List.map_cons, List.map_drop]⟩
  have cf := jW (cs.map PyData.int) 1 (by rw [List.length_map]; lia)
  have cf : cutD (cs.map PyData.int) (some 1) none = (cs.map PyData.int).drop 1 := cf;have lb := aP (show 1 + (cs.drop 1).length ≤ 1000 by rw [List.length_drop]; lia)
  have p2 : (0 : Int) < 2 := by decide
  push_cast only [a0, decide_eq_true hodd, yM, cf, aT, ← List.map_drop, lb, sm, oo];rw [Int.toNat_natCast];generalize hL : bE _ _ _ _ = r'
  refine cC hL (fun i ρ => ∃ (fs ls : List Int) (v5 v6 : Option OD), fs.length = i ∧ (∀ z ∈ fs, 0 ≤ z ∧ z < 1000000000000000000000000000000) ∧ ls.length = cs.length ∧ ρ = [some (.sh (.list (ns.map PyData.int))), some (.sh (.int many)), some (.sh (.list (cs.map PyData.int))), some (.ol (bG fs)), some (.ol (bG ls)), v5, v6, none, none, none])
   ⟨[], gv cs 0 / 2 :: cs.drop 1, _, _, rfl, (fun z h => by cases h), by rw [List.length_cons, List.length_drop]; lia, rfl⟩ ?_ ?_
  ·rintro i d ρ hd ⟨fs, ls, v5, v6, hf, hb, hll, rfl⟩
   obtain ⟨hi, rfl⟩ := cY hd;rw [Int.zero_add];obtain ⟨j, j1, j2, j3⟩ := uV (cs := ls) (fun z => by rw [z] at hll; simp at hll; lia) i
   have lp : (0 : Int) < (ls.length : Int) := by lia
   have na : ((10 : Int).natAbs < 18446744073709551616) = True := by decide
   have lb : ((bG fs).length < BIG) = True := by rw [fL]; exact eK (by lia)
   have ix : ixN (bG ls).length (j : Int) = some j := iX (by rw [fL]; exact j1)
   push_cast only [bV, lp, j2, j3, na, lb, yM, uK ix, lR, i6];refine ⟨_, _, _, _, ?_, ?_, ?_, rfl⟩
   ·rw [List.length_append, hf]
    rfl
   ·intro z hz
    rcases List.mem_append.mp hz with h | h
    ·exact hb z h
    ·rw [List.mem_singleton] at h
     subst h;exact dR _ (by decide)
   ·rw [List.length_set]
    exact hll
  ·rintro ρ' rfl ⟨fs, ls, v5, v6, hf, hb, hll, rfl⟩
   rw [ey] at hf;exact ⟨fs, hf, hb, by push_cast only [and_self]⟩
 ·push_cast only [a0, decide_eq_false hodd, sm]
  rw [Int.toNat_natCast];generalize hL : bE _ _ _ _ = r'
  refine cC hL (fun i ρ => ∃ (fs : List Int) (v5 v7 v8 v9 : Option OD), fs.length = i ∧ (∀ z ∈ fs, 0 ≤ z ∧ z < 1000000000000000000000000000000) ∧ ρ = [some (.sh (.list (ns.map PyData.int))), some (.sh (.int many)), some (.sh (.list (cs.map PyData.int))), some (.ol (bG fs)), none, v5, none, v7, v8, v9])
   ⟨[], _, _, _, _, rfl, (fun z h => by cases h), rfl⟩ ?_ ?_
  ·rintro i d ρ hd ⟨fs, v5, v7, v8, v9, hf, hb, rfl⟩
   obtain ⟨hi, rfl⟩ := cY hd;rw [Int.zero_add];obtain ⟨j, j1, j2, j3⟩ := uV c0 i;have lp : (0 : Int) < (cs.length : Int) := by lia
   have lb : ((bG fs).length < BIG) = True := by rw [fL]; exact eK (by lia)
   have ci : ∀ z : Int, gq (i : Int) z = true := fun z => sH (by lia) (by lia)
   have ci2 : ∀ z : Int, gq z (i : Int) = true := fun z => Av (by lia) (by lia)
   generalize hone : (gv cs j * 48271 + (i : Int) * (i : Int) * 16807 + 7919 * (i : Int) + 5) % 2147483647 = one
   have h1 := dR (gv cs j * 48271 + (i : Int) * (i : Int) * 16807 + 7919 * (i : Int) + 5) (show (0 : Int) < 2147483647 by decide)
   rw [hone] at h1;have co : ∀ z : Int, gq one z = true := fun z => sH (by lia) (by lia)
   generalize hoth : (one * one + (i : Int) * 39373) % 2147483629 = oth
   have h2 := dR (one * one + (i : Int) * 39373) (show (0 : Int) < 2147483629 by decide)
   rw [hoth] at h2;have h3 := dR (one * oth) (show (0 : Int) < 2147483587 by decide)
   push_cast only [lp, j2, j3, lb, ci, ci2, hone, co, hoth, i6];refine ⟨_, _, _, _, _, ?_, ?_, rfl⟩
   ·rw [List.length_append, hf]
    rfl
   ·intro z hz
    rcases List.mem_append.mp hz with h | h
    ·exact hb z h
    ·rw [List.mem_singleton] at h
     subst h;lia
  ·rintro ρ' rfl ⟨fs, v5, v7, v8, v9, hf, hb, rfl⟩
   rw [ey] at hf;exact ⟨fs, hf, hb, by push_cast only [and_self]⟩
theorem lZ (z : Int) (n : Nat) (h1 : 1 ≤ n) (h9 : n ≤ 9) : ∃ l, kM l ∧ bY [.int z, .int (n : Int)] = .ok (.sh (.str l)) := by
 unfold bY eD;obtain ⟨f, hf⟩ : ∃ f : Int → Nat, ∀ y : Int, atI (Str.ofString "abcdefghijklmnopqrstuvwxyz").cps.toList (y % 26) = some (f y) ∧ (97 ≤ f y ∧ f y ≤ 122) :=
  ⟨fun y => Classical.choose (uC _ (dR y (show (0 : Int) < 26 by decide)).1 (dR y (by decide)).2), fun y => Classical.choose_spec (uC _ (dR y (show (0 : Int) < 26 by decide)).1 (dR y (by decide)).2)⟩
 have s1 : aB (n : Int) = true := eT (by lia) (by lia)
 push_cast only [s1];generalize hL : bE _ _ _ _ = r
 refine cC hL (fun i ρ => ∃ (l : Str) (y : Int) (v : Option OD), ρ = [some (.sh (.int y)), some (.sh (.int n)), some (.sh (.str (Str.ofString "abcdefghijklmnopqrstuvwxyz"))), some (.sh (.str l)), v] ∧ l.length = i ∧ ∀ c ∈ l.cps.toList, 97 ≤ c ∧ c ≤ 122) ⟨_, _, _, rfl, rfl, fun c hc => by cases hc⟩ ?_ ?_
 ·rintro i d ρ hd ⟨l, y, v, rfl, hl, hc⟩
  obtain ⟨hi, rfl⟩ := cY hd;rw [Int.toNat_natCast] at hi;have ec := (hf y).1;have c1 := (hf y).2.1;have c2 := (hf y).2.2;generalize f y = c at ec c1 c2
  have k3 : ((Str.ofString "abcdefghijklmnopqrstuvwxyz").length ≤ BIG) = True := by decide +kernel
  have k4 : (l.length + (⟨#[c]⟩ : Str).length ≤ BIG) = True := aP (by rw [hl]; show i + 1 ≤ 1000; lia)
  push_cast only [k3, k4, ec, Option.map_some];refine ⟨_, _, _, rfl, by rw [vO, hl], fun d hd => ?_⟩
  rw [qQ, List.mem_append] at hd;rcases hd with hd | hd
  ·exact hc d hd
  ·have : d = c := by simpa using hd
   lia
 ·rintro ρ' rfl ⟨l, y, v, rfl, hl, hc⟩
  rw [ey, Int.toNat_natCast] at hl;push_cast only [and_self];exact ⟨l, ⟨by lia, by lia, hc⟩, rfl⟩
theorem jD (z m : Int) (m1 : 1 ≤ m) (m2 : m ≤ 9) : ∃ l, kM l ∧ bW [.int z, .int m] = .ok (.sh (.str l)) := by
 unfold bW eF;have hm := dR z (show 0 < m by lia)
 obtain ⟨n, hn⟩ : ∃ n : Nat, 1 + z % m = (n : Int) := ⟨(1 + z % m).toNat, by lia⟩
 obtain ⟨l, h1, h2⟩ := lZ (z / m) n (by lia) (by lia)
 have p0 : (0 : Int) < m := by lia
 have p1 : (m < 1073741824) = True := eq_true (by lia)
 exact ⟨l, h1, by push_cast only [p0, p1, hn, h2]⟩
theorem kn (ds : List Int) (st many : Nat) (most deep : Int) (hds : st + many ≤ ds.length) (n0 : 1 ≤ many) (n1 : many ≤ 900) (m0 : 1 ≤ most) (m1 : most ≤ 9) (d0 : 1 ≤ deep) (d1 : deep ≤ 1000) :
  ∃ ts way, Grown deep.toNat ts way ∧ ts.length = many ∧ a7 [.list (ds.map PyData.int), .int (st : Int), .int (many : Int), .int most, .int deep] = .ok (.ol ((au ts).map OD.sh)) := by
 unfold a7 eV;have s62 : aB (many : Int) = true := eT (by lia) (by lia)
 push_cast only [s62];generalize hL : bE _ _ _ _ = r
 refine cC hL (fun i ρ => ∃ (ts : List Nd) (way : List Int) (v7 v8 v9 v10 v11 : Option OD), ρ = [some (.sh (.list (ds.map PyData.int))), some (.sh (.int st)), some (.sh (.int many)), some (.sh (.int most)), some (.sh (.int deep)), some (.ol ((au ts).map OD.sh)), some (.sh (.list (way.map PyData.int))), v7, v8, v9, v10, v11] ∧ ts.length = i ∧ way.length ≤ i ∧ ((i = 0 ∧ ts = [] ∧ way = []) ∨ (0 < i ∧ Grown deep.toNat ts way)))
  ⟨[], [], _, _, _, _, _, rfl, rfl, Nat.le_refl _, .inl ⟨rfl, rfl, rfl⟩⟩ ?_ ?_
 ·rintro i d ρ hd ⟨ts, way, v7, v8, v9, v10, v11, rfl, hti, hwi, hg⟩
  obtain ⟨hi, rfl⟩ := cY hd;rw [Int.toNat_natCast] at hi;rw [Int.zero_add];have esi : (st : Int) + (i : Int) = ((st + i : Nat) : Int) := by lia
  have gy := cE (st := ds) (j := st + i) (by lia)
  generalize gv ds (st + i) = y at gy
  have hq := dR y (show (0 : Int) < 9 by decide)
  have lb : ((au ts).length < BIG) = True := by rw [aI]; exact eK (by lia)
  by_cases h0 : (0 : Int) < (i : Int)
  ·have hg' : Grown deep.toNat ts way := by
    rcases hg with hg | hg
    ·lia
    ·exact hg.2
   have wp := hg'.pos.2;have wl : (0 : Int) < way.length := by lia
   have wl2 : ((way.length : Int) < 1073741824) = True := eq_true (by lia)
   have wl3 : (0 < 3 * (way.length : Int)) = True := eq_true (by lia)
   have wl4 : (3 * (way.length : Int) < 1073741824) = True := eq_true (by lia)
   have hr := dR (y / 9) wl;obtain ⟨l, hl, el⟩ := jD (y / 9 / (3 * (way.length : Int))) most m0 m1;have fin : ∀ c : Nat, 1 ≤ c → c ≤ way.length → c ≤ deep.toNat → ∀ (e : Int), way[c - 1]? = some e → Grown deep.toNat (ts ++ [⟨e, l, 1 + y % 9⟩]) (way.take c ++ [(ts.length : Int)]) := fun c c1 c2 c3 e he =>
    Grown.step hg' c1 c2 c3 ⟨hl, by show 1 ≤ 1 + _; lia, by show 1 + _ ≤ 9; lia⟩ he
   have lw : ∀ c : Nat, ((way.take c).length + 1 ≤ BIG) = True := fun c => aP (by rw [List.length_take]; lia)
   by_cases h3 : y / 9 / (way.length : Int) % 3 = 0
   ·obtain ⟨c, hc⟩ : ∃ c : Nat, (if deep < (way.length : Int) then deep else (way.length : Int)) = (c : Int) := ⟨(if deep < (way.length : Int) then deep else (way.length : Int)).toNat, by split <;> lia⟩
    obtain ⟨c1, c2, c3⟩ : 1 ≤ c ∧ c ≤ way.length ∧ c ≤ deep.toNat := by split at hc <;> lia
    obtain ⟨e, he, hat⟩ := nj c1 c2;push_cast only [esi, gy, el, wl, wl2, wl3, wl4, decide_eq_true h0, decide_eq_true h3, hc, mw, ← List.map_take, aT, hat, lb, lw];have t1 := jA ts ⟨e, l, 1 + y % 9⟩;have t2 : (au ts).map OD.sh ++ [OD.sh (.tuple [.int e, .str l, .int (1 + y % 9)])] = (au (ts ++ [⟨e, l, 1 + y % 9⟩])).map OD.sh := by rw [t1, List.map_append]; rfl
    have w1 : (way.take c).map PyData.int ++ [PyData.int (i : Int)] = (way.take c ++ [(ts.length : Int)]).map PyData.int := by rw [List.map_append, hti]; rfl
    rw [t2, w1];exact ⟨_, _, _, _, _, _, _, rfl, by rw [List.length_append, hti]; rfl, by rw [List.length_append, List.length_take, List.length_singleton]; lia, .inr ⟨Nat.succ_pos _, fin c c1 c2 c3 e he⟩⟩
   ·obtain ⟨c, hc⟩ : ∃ c : Nat, (if deep < 1 + y / 9 % (way.length : Int) then deep else 1 + y / 9 % (way.length : Int)) = (c : Int) := ⟨(if deep < 1 + y / 9 % (way.length : Int) then deep else 1 + y / 9 % (way.length : Int)).toNat, by split <;> lia⟩
    obtain ⟨c1, c2, c3⟩ : 1 ≤ c ∧ c ≤ way.length ∧ c ≤ deep.toNat := by split at hc <;> lia
    obtain ⟨e, he, hat⟩ := nj c1 c2;push_cast only [esi, gy, el, wl, wl2, wl3, wl4, decide_eq_true h0, decide_eq_false h3, hc, mw, ← List.map_take, aT, hat, lb, lw];have t1 := jA ts ⟨e, l, 1 + y % 9⟩;have t2 : (au ts).map OD.sh ++ [OD.sh (.tuple [.int e, .str l, .int (1 + y % 9)])] = (au (ts ++ [⟨e, l, 1 + y % 9⟩])).map OD.sh := by rw [t1, List.map_append]; rfl
    have w1 : (way.take c).map PyData.int ++ [PyData.int (i : Int)] = (way.take c ++ [(ts.length : Int)]).map PyData.int := by rw [List.map_append, hti]; rfl
    rw [t2, w1];exact ⟨_, _, _, _, _, _, _, rfl, by rw [List.length_append, hti]; rfl, by rw [List.length_append, List.length_take, List.length_singleton]; lia, .inr ⟨Nat.succ_pos _, fin c c1 c2 c3 e he⟩⟩
  ·obtain ⟨i0, rfl, rfl⟩ : i = 0 ∧ ts = [] ∧ way = [] := by
    rcases hg with hg | hg
    ·exact hg
    ·lia
   obtain ⟨l, hl, el⟩ := jD (y / 9) most m0 m1;push_cast only [esi, gy, el, decide_eq_false h0, aT, lb];subst i0;exact ⟨[⟨-1, l, 1 + y % 9⟩], [0], _, _, _, _, _, rfl, rfl, by decide, .inr ⟨Nat.succ_pos _, Grown.root ⟨hl, by show 1 ≤ 1 + _; lia, by show 1 + _ ≤ 9; lia⟩ rfl⟩⟩
 ·rintro ρ' rfl ⟨ts, way, v7, v8, v9, v10, v11, rfl, hti, hwi, hg⟩
  rw [ey, Int.toNat_natCast] at hti hg;rcases hg with hg | hg
  ·lia
  ·push_cast only [and_self]
   exact ⟨ts, way, hg.2, hti, rfl⟩
theorem qO (ts : List Nd) (hlab : Lb ts) (hl : ts.length ≤ 100) (ds : List Int) (st : Nat) (hds : st + ts.length ≤ ds.length) : ∃ us : List Nd, us.length = ts.length ∧ (∀ k, k < ts.length → eOf us k = eOf ts k) ∧ Lb us ∧ bp [.list (au ts), .list (ds.map PyData.int), .int (st : Int)] = .ok (.ol ((au us).map OD.sh)) := by
 unfold bp cO;have s0 : aB (ts.length : Int) = true := eT (by lia) (by lia)
 push_cast only [aI, s0];rw [Int.toNat_natCast];generalize hL : bE _ _ _ _ = r
 refine cC hL (fun i ρ => ∃ (us : List Nd) (v4 v5 v6 : Option OD), us.length = i ∧ (∀ k, k < i → eOf us k = eOf ts k) ∧ Lb us ∧ ρ = [some (.sh (.list (au ts))), some (.sh (.list (ds.map PyData.int))), some (.sh (.int st)), some (.ol ((au us).map OD.sh)), v4, v5, v6])
  ⟨[], _, _, _, rfl, (fun k hk => by lia), (fun n hn => by cases hn), rfl⟩ ?_ ?_
 ·rintro i d ρ hd ⟨us, v4, v5, v6, hu, he, hlb, rfl⟩
  obtain ⟨hi, rfl⟩ := cY hd;rw [Int.zero_add];have esi : (st : Int) + (i : Int) = ((st + i : Nat) : Int) := by lia
  have gy := cE (st := ds) (j := st + i) (by lia)
  generalize gv ds (st + i) = y at gy
  obtain ⟨n, hn⟩ : ∃ n, ts[i]? = some n := ⟨ts[i]'(by lia), by simp⟩
  have g1 := f6 hn;have nl := hlab n (List.mem_of_getElem? hn);have lbn := aP (show n.l.length ≤ 1000 by have := nl.2.1; lia)
  have hy2 := dR y (show (0 : Int) < 2 by decide)
  have hl9 := nl.2.1;obtain ⟨m, hm⟩ : ∃ m : Nat, pX [.int 1, .int ((n.l.length : Int) / 2 * 2 + y % 2)] = .ok (.sh (.int (m : Int))) ∧ 1 ≤ m ∧ m ≤ 9 := by
   rw [vn];split
   ·exact ⟨((n.l.length : Int) / 2 * 2 + y % 2).toNat, by rw [Int.toNat_of_nonneg (by lia)], by lia, by lia⟩
   ·exact ⟨1, rfl, by lia, by lia⟩
  obtain ⟨l, hl1, el⟩ := lZ (y / 18) m hm.2.1 hm.2.2;have hm1 := hm.1;have hcm : gq ((n.l.length : Int) / 2) 2 = true := Av (by decide) (by decide)
  have lb : ((au us).length < BIG) = True := by rw [aI]; exact eK (by lia)
  push_cast only [esi, gy, g1, lbn, hcm, hm1, el, lb];refine ⟨us ++ [⟨n.e, l, 1 + y / 2 % 9⟩], _, _, _, by rw [List.length_append, hu]; rfl, fun k hk => ?_, fun x hx => ?_, by rw [jA, List.map_append]; rfl⟩
  ·by_cases hk' : k < i
   ·rw [← he k hk']
    unfold eOf;rw [List.getElem?_append_left (by lia)]
   ·have hki : k = i := by lia
    rw [hki, bZ hn];exact bZ (n := ⟨n.e, l, 1 + y / 2 % 9⟩) (by rw [← hu]; simp)
  ·rcases List.mem_append.mp hx with hx | hx
   ·exact hlb x hx
   ·rw [List.mem_singleton] at hx
    subst hx;exact hl1
 ·rintro ρ' rfl ⟨us, v4, v5, v6, hu, he, hlb, rfl⟩
  rw [ey] at hu he;exact ⟨us, hu, he, hlb, by push_cast only [and_self]⟩
theorem o9 (ds : List Int) (hd40 : ds.length = 40) (many : Nat) (m0 : 1 ≤ many) (m1 : many ≤ 6) : ∃ (ts : List Nd) (c : F), PT ts c ∧ Lb ts ∧ Dp ts 8 ∧ ts.length ≤ 30 ∧ c_ [.list (ds.map PyData.int), .int 3, .int (many : Int)] = .ok (.sh (.list (au ts))) := by
  unfold c_ dW;obtain ⟨ps, way, hg, hlen, ht⟩ := kn ds 3 many 9 6 (by lia) (by lia) (by lia) (by decide) (by decide) (by decide) (by decide)
  have ht : a7 [.list (ds.map PyData.int), .int 3, .int (many : Int), .int 9, .int 6] = .ok (.ol ((au ps).map OD.sh)) := ht;obtain ⟨cp, pp, _⟩ := lH hg;have plab : Lb ps := fun n h => (hg.ok n h).1
  have pdp : Dp ps 6 := (lL hg).2;have hq : ∀ i : Nat, ∃ us : List Nd, i < 3 → us.length = ps.length ∧ (∀ k, k < ps.length → eOf us k = eOf ps k) ∧ Lb us ∧ bp [.list (au ps), .list (ds.map PyData.int), .int (3 + 8 * ((i : Int) + 1))] = .ok (.ol ((au us).map OD.sh)) := by
    intro i;by_cases hi : i < 3
    · obtain ⟨us, a⟩ := qO ps plab (by lia) ds (3 + 8 * (i + 1)) (by lia)
      rw [show ((3 + 8 * (i + 1) : Nat) : Int) = 3 + 8 * ((i : Int) + 1) by lia] at a
      exact ⟨us, fun _ => a⟩
    · exact ⟨[], fun h => absurd h hi⟩
  obtain ⟨uf, huf⟩ := Classical.skolem.mp hq;have g38 : atI (ds.map PyData.int) (38 : Int) = some (.int (gv ds 38)) := cE (st := ds) (j := 38) (by lia)
  have g39 : atI (ds.map PyData.int) (39 : Int) = some (.int (gv ds 39)) := cE (st := ds) (j := 39) (by lia)
  have k81 := dR (gv ds 39 / 9) (show (0 : Int) < 3 by decide)
  obtain ⟨lab, l9, hlab⟩ := jD (gv ds 38) 9 (by decide) (by decide)
  have sc : aB (1 + gv ds 39 / 9 % 3) = true := eT (by lia) (by lia)
  push_cast only [ht, aT, g38, g39, hlab, sc];generalize hL : bE _ _ _ _ = r
  refine cC hL (fun i ρ => ∃ (ts : List Nd) (c : F) (v5 v6 : Option OD), PT ts c ∧ Lb ts ∧ Dp ts 8 ∧ ts.length ≤ 1 + 8 * i ∧ ρ = [some (.sh (.list (ds.map PyData.int))), some (.sh (.int 3)), some (.sh (.int many)), some (.sh (.list (au ps))), some (.sh (.list (au ts))), v5, v6])
    ⟨[⟨-1, lab, 1 + gv ds 39 % 9⟩], F.nil, _, _, ⟨rfl, rfl, trivial⟩, (fun n hn => by rw [List.mem_singleton] at hn; subst hn; exact l9), (fun k hk => by
      have : k = 0 := by simp at hk; lia
      subst this;unfold lvN;rw [jO (i := 0) rfl];show bF _ _ ≤ 8
      unfold bF;rw [if_pos rfl];exact Nat.zero_le _), by simp, rfl⟩ ?_ ?_
  · rintro i d ρ hd ⟨ts, c, v5, v6, p, tlab, tdp, tlen, rfl⟩
    obtain ⟨hi, rfl⟩ := cY hd;rw [Int.zero_add];have hi3 : i < 3 := by lia
    have uu := huf i hi3;have u1 := uu.1;have u2 := uu.2.1;have u3 := uu.2.2.1;have u4 := uu.2.2.2;clear uu;generalize uf i = us at u1 u2 u3 u4
    have pu : PT us cp := w8 pp u1 u2;have udp : Dp us 6 := E9 pdp u1 u2;have plen : us.length ≤ 8 := by lia
    have e35 : (35 : Int) + (i : Int) = ((35 + i : Nat) : Int) := by lia
    have g35 := cE (st := ds) (j := 35 + i) (by lia)
    generalize gv ds (35 + i) = kinds at g35
    push_cast only [u4, aT, e35, g35];generalize hI : ifK _ _ _ _ = r1
    have hr1 : ∃ (ws : List Nd) (d : F), PT ws d ∧ Lb ws ∧ Dp ws 6 ∧ ws.length ≤ 8 ∧ r1 = .ok (.nx [some (.sh (.list (ds.map PyData.int))), some (.sh (.int 3)), some (.sh (.int many)), some (.sh (.list (au ps))), some (.sh (.list (au ts))), some (.sh (.int i)), some (.sh (.list (au ws)))]) := by
      by_cases hc : kinds % 3 = 1
      · rw [decide_eq_true hc] at hI
        have lm := mP us cp pu (by lia)
        push_cast only [lm, aT] at hI;exact ⟨dP us cp, F.c1 cp, jR pu, yt pu u3, Bn pu udp, by rw [gZ pu]; exact plen, hI.symm⟩
      · rw [decide_eq_false hc] at hI
        push_cast only [and_self] at hI;exact ⟨us, cp, pu, u3, udp, plen, hI.symm⟩
    clear hI;obtain ⟨ws, dw, pw, wlab, wdp, wlen, rfl⟩ := hr1;push_cast only [aI, e35, g35];generalize hI : ifK _ _ _ _ = r1
    have hr1 : ∃ (ws : List Nd) (d : F), PT ws d ∧ Lb ws ∧ Dp ws 6 ∧ ws.length ≤ 8 ∧ r1 = .ok (.nx [some (.sh (.list (ds.map PyData.int))), some (.sh (.int 3)), some (.sh (.int many)), some (.sh (.list (au ps))), some (.sh (.list (au ts))), some (.sh (.int i)), some (.sh (.list (au ws)))]) := by
      by_cases hc : kinds / 3 % 5 = 1
      · by_cases h1 : 1 < ws.length
        · have d1 : decide ((1 : Int) < (ws.length : Int)) = true := decide_eq_true (by lia)
          have cl := oK (au ws) (by rw [aI]; lia)
          rw [qk] at cl;rw [decide_eq_true hc] at hI;push_cast only [aI, d1, cl, aT] at hI;obtain ⟨d', pd⟩ := Bm pw h1;exact ⟨ws.dropLast, d', pd, fun n hn => wlab n (List.dropLast_subset _ hn), zY wdp, by rw [List.length_dropLast]; lia, hI.symm⟩
        · have d1 : decide ((1 : Int) < (ws.length : Int)) = false := decide_eq_false (by lia)
          rw [decide_eq_true hc] at hI;push_cast only [aI, d1] at hI;exact ⟨ws, dw, pw, wlab, wdp, wlen, hI.symm⟩
      · rw [decide_eq_false hc] at hI
        push_cast only [and_self] at hI;exact ⟨ws, dw, pw, wlab, wdp, wlen, hI.symm⟩
    clear hI;obtain ⟨ws, dw, pw, wlab, wdp, wlen, rfl⟩ := hr1;have ph := rD p pw;have hdp : Dp (ts ++ dN ts.length ws) 8 := (xX p pw tdp wdp).mono (by decide)
    obtain ⟨n, rr, rfl⟩ : ∃ n rr, ws = n :: rr := by
      cases ws with
      | nil => exact absurd pw.pos (by simp)
      | cons n rr => exact ⟨n, rr, rfl⟩
    rw [List.length_cons] at wlen;have hh := xI n rr ts.length (by lia)
    have hlen2 : (dN ts.length (n :: rr)).length = rr.length + 1 := by unfold dN; rw [List.length_cons, List.length_map]
    have lb : (ts.length + (dN ts.length (n :: rr)).length ≤ BIG) = True := aP (by rw [hlen2]; lia)
    have ea : au ts ++ au (dN ts.length (n :: rr)) = au (ts ++ dN ts.length (n :: rr)) := by unfold au; rw [List.map_append]
    push_cast only [aI, hh, aT, oo, lb, ea];refine ⟨_, _, _, _, ph, fun x hx => ?_, hdp, ?_, rfl⟩
    · rcases List.mem_append.mp hx with hx | hx
      · exact tlab x hx
      · unfold dN at hx
        rcases List.mem_cons.mp hx with rfl | hx
        · exact wlab n List.mem_cons_self
        · obtain ⟨m, hm, rfl⟩ := List.mem_map.mp hx
          exact wlab m (List.mem_cons_of_mem _ hm)
    · rw [List.length_append, hlen2]
      lia
  · rintro ρ' rfl ⟨ts, c, v5, v6, p, tlab, tdp, tlen, rfl⟩
    rw [ey] at tlen;exact ⟨ts, c, p, tlab, tdp, by lia, by push_cast only [and_self]⟩
theorem mB (ds : List Int) (hd40 : ds.length = 40) : ∃ (ts : List Nd) (c : F) (x : OD), PT ts c ∧ Lb ts ∧ Dp ts 8 ∧ ts.length ≤ 40 ∧ x.er = .list (au ts) ∧ b6 [.list (ds.map PyData.int)] = .ok x := by
 unfold b6 cV;have g0 : atI (ds.map PyData.int) (0 : Int) = some (.int (gv ds 0)) := cE (st := ds) (j := 0) (by lia)
 generalize gv ds 0 = z at g0
 by_cases h1 : z % 3 = 1
 ·have m6 := dR (z / 3) (show (0 : Int) < 6 by decide)
  obtain ⟨m, hm⟩ : ∃ m : Nat, 1 + z / 3 % 6 = (m : Int) := ⟨(1 + z / 3 % 6).toNat, by lia⟩
  obtain ⟨ts, c, p, lb, dp, hl, hf⟩ := o9 ds hd40 m (by lia) (by lia)
  exact ⟨ts, c, .sh (.list (au ts)), p, lb, dp, by lia, cZ _, by push_cast only [g0, decide_eq_true h1, hm, hf]⟩
 ·by_cases h2 : z % 12 = 2
  ·have m := dR (z / 12) (show (0 : Int) < 36 by decide)
   obtain ⟨m, hm⟩ : ∃ m : Nat, 1 + z / 12 % 36 = (m : Int) := ⟨(1 + z / 12 % 36).toNat, by lia⟩
   obtain ⟨ts, way, hg, hlen, ht⟩ := kn ds 3 m 9 8 (by lia) (by lia) (by lia) (by decide) (by decide) (by decide) (by decide)
   have ht : a7 [.list (ds.map PyData.int), .int 3, .int (m : Int), .int 9, .int 8] = .ok (.ol ((au ts).map OD.sh)) := ht;obtain ⟨c, p, _⟩ := lH hg;exact ⟨ts, c, _, p, fun n h => (hg.ok n h).1, (lL hg).2, by lia, by rw [jL, aT], by push_cast only [g0, decide_eq_false h1, decide_eq_true h2, hm, ht]⟩
  ·have m := dR (z / 3) (show (0 : Int) < 18 by decide)
   obtain ⟨m, hm⟩ : ∃ m : Nat, 1 + z / 3 % 18 = (m : Int) := ⟨(1 + z / 3 % 18).toNat, by lia⟩
   obtain ⟨ts, way, hg, hlen, ht⟩ := kn ds 3 m 9 8 (by lia) (by lia) (by lia) (by decide) (by decide) (by decide) (by decide)
   have ht : a7 [.list (ds.map PyData.int), .int 3, .int (m : Int), .int 9, .int 8] = .ok (.ol ((au ts).map OD.sh)) := ht;obtain ⟨c, p, _⟩ := lH hg;exact ⟨ts, c, _, p, fun n h => (hg.ok n h).1, (lL hg).2, by lia, by rw [jL, aT], by push_cast only [g0, decide_eq_false h1, decide_eq_false h2, hm, ht]⟩
noncomputable def iB (os : Ol) : Ol := os.map fun p => (0 - p.2, 0 - p.1)
theorem pK (gap : Int) : ∀ a b : Ol, ask gap (iB a) (iB b) = ask gap b a
 | [], b => by unfold ask iB; simp
 | a :: as, [] => by unfold ask iB; simp
 | a :: as, b :: bs => by
  have ih := pK gap as bs;unfold ask iB at ih ⊢;rw [List.map_cons, List.map_cons, List.zip_cons_cons, List.zip_cons_cons, List.map_cons, List.map_cons, ih];congr 1
  show 0 - a.1 + 256 * (gap + 1) - (0 - b.2) = b.2 + 256 * (gap + 1) - a.1
  lia
theorem sP (gap : Int) (a b : Ol) : dist gap (iB a) (iB b) = dist gap b a := by rw [kZ, kZ, pK]
noncomputable def cB (O : List Ol) : List Ol := O.reverse.map iB
theorem eP (O : List Ol) : (cB O).length = O.length := by unfold cB; rw [List.length_map, List.length_reverse]
theorem j_ {O : List Ol} {k : Nat} (hk : k < O.length) : (cB O)[k]?.getD [] = iB (O[O.length - 1 - k]?.getD []) := by
 unfold cB;rw [List.getElem?_map, List.getElem?_reverse hk, List.getElem?_eq_getElem (show O.length - 1 - k < O.length by lia)]
 rfl
theorem sy {O : List Ol} (h : okO O) : okO (cB O) := by
 refine ⟨fun os m => ?_, by rw [eP]; exact h.2.1, by rw [eP]; exact h.2.2⟩
 obtain ⟨o, h1, rfl⟩ := List.mem_map.mp m;unfold iB;rw [List.length_map];exact h.1 o (List.mem_reverse.mp h1)
theorem vB (gap : Int) (O : List Ol) (i j : Nat) (hij : i < j) (hj : j < O.length) : dO gap O (O.length - 1 - j) (O.length - 1 - i) = dO gap (cB O) i j := by
 unfold dO;rw [j_ (show i < O.length by lia), j_ hj, sP]
theorem qU {gap : Int} {O : List Ol} (hO : okO O) (hm : ∀ o ∈ O, kR 2 o) (k : Nat) (hk : k < O.length) : gv (stF gap (cB O)) k = 0 - gv (stF gap O) (O.length - 1 - k) := by
 obtain ⟨⟨es, ls, h⟩, _⟩ := jH (gap := gap) hO;obtain ⟨⟨es', ls', h'⟩, _⟩ := jH (gap := gap) (sy hO);have n0 : 0 < O.length := hO.2.1;have hm' : ∀ o ∈ O, kR (2 * 1) o := hm;obtain ⟨sd, _⟩ := qp (D := 1) h hO hm' ⟨128, by decide⟩
 have ex : ∀ i j, i < j → j < O.length → dO gap O (O.length - 1 - j) (O.length - 1 - i) = dO gap (cB O) i j := vB gap O;have iE' := yg ex (zB h.isL);have iL' := xN ex (Fq n0 h.isE);have qE := h'.isE;have qL := h'.isL;have he := h'.eq;rw [eP] at qE qL he;have uE : ∀ k, k < O.length → gv es' k = gv es (O.length - 1) - gv ls (O.length - 1 - k) := fun k hk => oV qE iE' k hk
 have T' : gv es' (O.length - 1) = gv es (O.length - 1) := by
  rw [uE (O.length - 1) (by lia), Nat.sub_self, pC n0 h.isE h.isL rfl]
  lia
 rw [T'] at qL;have uL : ∀ k, k < O.length → gv ls' k = gv es (O.length - 1) - gv es (O.length - 1 - k) := fun k hk => uX qL iL' k hk
 rw [he k hk, h.eq (O.length - 1 - k) (by lia), T', uE k hk, uL k hk]
 have a := (k5 (D := 1) (sd (O.length - 1 - k) (by lia)).1 (sd (O.length - 1 - k) (by lia)).2).2
 have b := (k5 (D := 1) (sd (O.length - 1) (by lia)).1 (Int.dvd_zero _)).2
 rw [Int.add_zero] at b;lia
theorem i4 {O : List Ol} {k : Nat} (hk : k < O.length) : gD (cB O) k = gD O (O.length - 1 - k) := by
 unfold gD;rw [j_ hk];unfold iB;rw [List.length_map]
theorem rq {O : List Ol} {k l : Nat} (hk : k < O.length) : oA (cB O) k l = (0 - (oA O (O.length - 1 - k) l).2, 0 - (oA O (O.length - 1 - k) l).1) := by
 unfold oA;rw [j_ hk];unfold iB;rw [List.getElem?_map];cases (O[O.length - 1 - k]?.getD [])[l]? with
 | none => rfl
 | some p => rfl
theorem se {O : List Ol} (h : O ≠ []) : mxN (cB O) = mxN O := by
 have h' : cB O ≠ [] := fun z => h (by
  have := congrArg List.length z;rw [eP] at this;exact List.length_eq_zero_iff.mp this)
 obtain ⟨_, ⟨i, i1, i2⟩, i3⟩ := jx h;obtain ⟨_, ⟨j, j1, j2⟩, j3⟩ := jx h';rw [eP] at j1 j3;have a := i3 (O.length - 1 - j) (by lia)
 have b := j3 (O.length - 1 - i) (by lia)
 rw [i4 j1] at j2;rw [i4 (by lia), show O.length - 1 - (O.length - 1 - i) = i by lia] at b
 lia
theorem lU {O : List Ol} {l i : Nat} : i ∈ there (cB O) l ↔ i < O.length ∧ O.length - 1 - i ∈ there O l := by
 unfold there;rw [List.mem_filter, List.mem_filter, List.mem_range, List.mem_range, decide_eq_true_eq, decide_eq_true_eq, eP];constructor
 ·rintro ⟨a, b⟩
  rw [i4 a] at b;exact ⟨a, by lia, b⟩
 ·rintro ⟨a, b, c⟩
  exact ⟨a, by rw [i4 a]; exact c⟩
theorem xa {xs ys : List Int} (hx : xs ≠ []) (h1 : ∀ x ∈ xs, ∃ y ∈ ys, x = 0 - y) (h2 : ∀ y ∈ ys, ∃ x ∈ xs, x = 0 - y) : jz xs = 0 - g6 ys := by
 have hy : ys ≠ [] := fun z => by
  obtain ⟨x, hx'⟩ := List.exists_mem_of_ne_nil xs hx;obtain ⟨y, hy, _⟩ := h1 x hx';rw [z] at hy;cases hy
 obtain ⟨a1, a2⟩ := fX hx;obtain ⟨b1, b2⟩ := eM hy;obtain ⟨y, y1, y2⟩ := h1 _ a1;obtain ⟨x, x1, x2⟩ := h2 _ b1;have := b2 y y1;have := a2 x x1;lia
theorem yi {xs ys : List Int} (hx : xs ≠ []) (h1 : ∀ x ∈ xs, ∃ y ∈ ys, x = 0 - y) (h2 : ∀ y ∈ ys, ∃ x ∈ xs, x = 0 - y) : g6 xs = 0 - jz ys := by
 have hy : ys ≠ [] := fun z => by
  obtain ⟨x, hx'⟩ := List.exists_mem_of_ne_nil xs hx;obtain ⟨y, hy, _⟩ := h1 x hx';rw [z] at hy;cases hy
 obtain ⟨a1, a2⟩ := eM hx;obtain ⟨b1, b2⟩ := fX hy;obtain ⟨y, y1, y2⟩ := h1 _ a1;obtain ⟨x, x1, x2⟩ := h2 _ b1;have := b2 y y1;have := a2 x x1;lia
theorem xg {O : List Ol} (hO : okO O) {st st' : List Int} (hs : ∀ k, k < O.length → gv st' k = 0 - gv st (O.length - 1 - k)) : jo (cB O) st' = iB (jo O st) := by
 have hne : O ≠ [] := fun z => by have := hO.2.1; rw [z] at this; simp at this
 unfold jo iB;rw [se hne, List.map_map];refine List.map_congr_left fun l hl => ?_
 rw [List.mem_range] at hl;show jl (cB O) st' l = (0 - (jl O st l).2, 0 - (jl O st l).1)
 have hne' : cB O ≠ [] := fun z => hne (by
  have := congrArg List.length z;rw [eP] at this;exact List.length_eq_zero_iff.mp this)
 have tn := gY hne' (l := l) (by rw [se hne]; exact hl)
 have m1 : ∀ i ∈ there (cB O) l, ∃ j ∈ there O l, j = O.length - 1 - i ∧ gv st' i = 0 - gv st j ∧ (oA (cB O) i l).1 = 0 - (oA O j l).2 ∧ (oA (cB O) i l).2 = 0 - (oA O j l).1 := fun i hi => by
  obtain ⟨a, b⟩ := lU.mp hi;refine ⟨_, b, rfl, hs i a, ?_, ?_⟩
  ·rw [rq a]
  ·rw [rq a]
 have m2 : ∀ j ∈ there O l, ∃ i ∈ there (cB O) l, gv st' i = 0 - gv st j ∧ (oA (cB O) i l).1 = 0 - (oA O j l).2 ∧ (oA (cB O) i l).2 = 0 - (oA O j l).1 := fun j hj => by
  have jl := List.mem_range.mp (List.mem_filter.mp hj).1;have hi : O.length - 1 - j ∈ there (cB O) l := lU.mpr ⟨by lia, by rw [show O.length - 1 - (O.length - 1 - j) = j by lia]; exact hj⟩
  obtain ⟨j', _, e, a, b, c⟩ := m1 _ hi;rw [show O.length - 1 - (O.length - 1 - j) = j by lia] at e
  subst e;exact ⟨_, hi, a, b, c⟩
 unfold jl;refine Prod.ext ?_ ?_
 ·show jz _ = 0 - g6 _
  refine xa (fun z => tn (List.map_eq_nil_iff.mp z)) (fun x hx => ?_) (fun y hy => ?_)
  ·obtain ⟨i, hi, rfl⟩ := List.mem_map.mp hx
   obtain ⟨j, hj, _, a, b, _⟩ := m1 i hi;exact ⟨_, List.mem_map.mpr ⟨j, hj, rfl⟩, by rw [a, b]; lia⟩
  ·obtain ⟨j, hj, rfl⟩ := List.mem_map.mp hy
   obtain ⟨i, hi, a, b, _⟩ := m2 j hj;exact ⟨_, List.mem_map.mpr ⟨i, hi, rfl⟩, by rw [a, b]; lia⟩
 ·show g6 _ = 0 - jz _
  refine yi (fun z => tn (List.map_eq_nil_iff.mp z)) (fun x hx => ?_) (fun y hy => ?_)
  ·obtain ⟨i, hi, rfl⟩ := List.mem_map.mp hx
   obtain ⟨j, hj, _, a, _, b⟩ := m1 i hi;exact ⟨_, List.mem_map.mpr ⟨j, hj, rfl⟩, by rw [a, b]; lia⟩
  ·obtain ⟨j, hj, rfl⟩ := List.mem_map.mp hy
   obtain ⟨i, hi, a, _, b⟩ := m2 j hj;exact ⟨_, List.mem_map.mpr ⟨i, hi, rfl⟩, by rw [a, b]; lia⟩
section
variable {ts : List Nd} {c : F}
theorem qT (p : PT ts c) {k : Nat} (hk : k < ts.length) : gv (aX (dP ts c)) (F.g c k) = gv (aX ts) k := by
 have h := F.Pf.at_g p hk;have g1 : (dP ts c)[F.g c k]? = some ⟨F.gi c (eW ts k).e, (eW ts k).l, (eW ts k).t⟩ := by
  unfold dP;rw [List.getElem?_map, h];rfl
 rw [sk g1, sk (vN hk)]
theorem k6 (p : PT ts c) {k : Nat} (hk : k < ts.length) : chN (dP ts c) (F.g c k) = ((chN ts k).reverse).map (F.g c) := zU p hk
theorem Aj {ts : List Nd} (gap : Int) (he : EL ts) (h0 : 0 < ts.length) (hl : ts.length ≤ 100) (hd : Dp ts 8) {j : Nat} (hj : j < ts.length) : ∀ o ∈ (chN ts j).map (outF ts gap), kR 2 o := fun o ho => by
 obtain ⟨c, cm, rfl⟩ := List.mem_map.mp ho;have c1 := fk he cm;have l9 := vj gap he h0 hl hd c1.2;have lc := fB he cm;refine (wb gap he h0 hl (ts.length - c) c (by lia) c1.2 (by lia)).mono ?_
 exact qD (show (outF ts gap c).length ≤ 8 by lia)
theorem xr (p : PT ts c) (gap : Int) (hl : ts.length ≤ 100) (hd : Dp ts 8) : ∀ m j, j + m = ts.length → j < ts.length → outF (dP ts c) gap (F.g c j) = iB (outF ts gap j) ∧ (chN (dP ts c) (F.g c j)).map (outF (dP ts c) gap) = cB ((chN ts j).map (outF ts gap)) := by
 have he := bx p;have hem := bx (jR p);have h0 := p.pos;have ml := gZ p;intro m
 induction m using Nat.strongRecOn with
 | ind m ih =>
  intro j hjm hj;have gl := F.Pf.g_lt p hj;have below : (chN (dP ts c) (F.g c j)).map (outF (dP ts c) gap) = cB ((chN ts j).map (outF ts gap)) := by
   rw [k6 p hj];unfold cB;rw [List.map_map, ← List.map_reverse, List.map_map];refine List.map_congr_left fun a ha => ?_
   obtain ⟨a1, a2⟩ := fk he (List.mem_reverse.mp ha);exact (ih (ts.length - a) (by lia) a (by lia) a2).1
  refine ⟨?_, below⟩;have hini : ini (dP ts c) (F.g c j) = iB (ini ts j) := by
   unfold ini iB;rw [qT p hj];show [_] = [_]
   congr 1
   exact Prod.ext (by show _ = 0 - _; lia) (by show _ = 0 - _; lia)
  rw [gL gap hem (by lia) (by lia) (by lia), gL gap he h0 hl hj, below, hini]
  have hce : (chN (dP ts c) (F.g c j) = []) = (chN ts j = []) := by rw [k6 p hj]; simp
  by_cases hc : chN ts j = []
  ·rw [if_pos hc, if_pos (by rw [hce]; exact hc), List.append_nil, List.append_nil]
  ·rw [if_neg hc, if_neg (by rw [hce]; exact hc)]
   have hO := i9 gap he h0 hl hc;rw [xg hO fun k hk => qU hO (Aj gap he h0 hl hd hj) k hk]
   unfold iB;rw [List.map_append]
end
noncomputable def gN : Fs := (aE (aJ 4 (eR az))
 (aE (aJ 5 (eR (ah (iz (ah (ae 2) (ah (eUn fK (eC (.int 1))) az))) az)))
 (aE (gh (oj (br (eOp gNe (ae 5) (eR az)))) (aE (qj 5 (gTp 2 (bD (gNm 6) (bD (gNm 7) gE))))
 (aE (ib 4 (iz (ah (ae 7) (ah (eOp gR (eB cH (ah (eOp gIx (eOp gIx (ae 0) (ae 6)) (eC (.int 1))) az)) (eC (.int 2))) az))))
 (aE (aJ 8 (eOp gIx (ae 1) (ae 6)))
 (aE (sIf (lX (br (ae 3))) (aJ 8 (eSh (pR (ae 8) (eUn fK (eC (.int 1)))))) sNx)
 (mU 5 (aJ 5 (lA 4 (eOp bB (ae 5) (bT (fZ (ae 8)) (gNm 0) dt (iz (ah (ae 0) (ah (eOp eO (eB cH (ah (ae 1) az)) (eC (.int 1))) az))) 1 [4]))))))))))
 (fm 4))))
noncomputable def di : Fn := dE 4 9 gN
noncomputable def fJ : Fs := (aE (aJ 3 (eSh (bT (fZ (ae 0)) (gNm 0) dt (eOp gR (eB cH (ah (eOp gIx (ae 0) (eC (.int 1))) az)) (eC (.int 2))) 1 [])))
 (aE (fM (fZ (bt dJ (ah (ae 0) az))) (gNm 4) (fM (iZp (eSl lN (ae 4) iF (iy (eUn fK (eC (.int 1))))) (eSl lN (ae 4) (iy (eC (.int 1))) iF)) (gTp 2 (bD (gNm 5) (bD (gNm 6) gE))) (aE (aJ 7 (eOp eS (eC (.int 256)) (eOp bB (eOp bB (eOp bB (eOp gIx (ae 3) (ae 5)) (eOp gIx (ae 3) (ae 6))) (ae 2)) (eC (.int 1)))))
 (sIf (br (eOp gLt (eOp eO (eOp gIx (ae 1) (ae 6)) (eOp gIx (ae 1) (ae 5))) (ae 7))) (e_ (eC (.bool false))) sNx))))
 (e_ (eOp gEq (eB jq (ah (bT (iR1 (eB cH (ah (ae 0) az))) (gNm 0) dt (eOp eO (eOp gIx (ae 1) (ae 0)) (eOp eS (eC (.int 256)) (eOp gIx (ae 2) (ae 0)))) 1 [1, 3]) az)) (eC (.int 0))))))
noncomputable def ef : Fn := dE 3 8 fJ
noncomputable def fH : Fs := (aE (aJ 3 (eSh (bT (iR1 (eB cH (ah (ae 0) az))) (gNm 0) (br (eOp gGt (eB cH (ah (eOp gIx (ae 1) (ae 0)) az)) (eC (.int 1)))) (ae 0) 1 [1])))
 (aE (aJ 4 (eSh (bT (fZ (ae 1)) (gNm 0) dt (eSh (bT (iR2 (eC (.int 1)) (eB cH (ah (ae 0) az))) (gNm 0) dt (eOp eO (eOp gIx (ae 1) (eOp gIx (ae 2) (ae 0))) (eOp gIx (ae 1) (eOp gIx (ae 2) (eOp eO (ae 0) (eC (.int 1)))))) 1 [1, 0])) 1 [2])))
 (aE (aJ 5 (eSh (bT (fZ (ae 3)) (gNm 0) dt (eSh (bt di (ah (ae 1) (ah (ae 2) (ah (ae 0) (ah (eC (.bool false)) az)))))) 1 [0, 1])))
 (aE (aJ 6 (eSh (bT (fZ (ae 3)) (gNm 0) dt (eSh (bt di (ah (ae 1) (ah (ae 2) (ah (ae 0) (ah (eC (.bool true)) az)))))) 1 [0, 1])))
 (aE (fM (iR1 (eB cH (ah (ae 3) az))) (gNm 7) (fM (iR1 (eOp bB (ae 7) (eC (.int 1)))) (gNm 8) (aE (sIf (lz (br (eOp gEq (eOp gIx (ae 5) (ae 7)) (eOp gIx (ae 5) (ae 8)))) (br (eOp gNe (eOp gIx (ae 4) (eOp gIx (ae 3) (ae 7))) (eOp gIx (ae 4) (eOp gIx (ae 3) (ae 8)))))) (e_ (eC (.bool false))) sNx)
 (sIf (lz (br (eOp gEq (eOp gIx (ae 5) (ae 7)) (eOp gIx (ae 6) (ae 8)))) (br (eOp gNe (eOp gIx (ae 4) (eOp gIx (ae 3) (ae 7))) (pR (eOp gIx (ae 4) (eOp gIx (ae 3) (ae 8))) (eUn fK (eC (.int 1))))))) (e_ (eC (.bool false))) sNx))))
 (e_ (eC (.bool true))))))))
noncomputable def d9 : Fn := dE 3 9 fH
noncomputable def nS : Fs := (aE (aJ 1 (eSh (bt dC (ah (ae 0) (ah (eC (.int 40)) az)))))
 (aE (aJ 2 (eSh (bt b6 (ah (ae 1) az))))
 (aE (aJ 3 (eOp bB (eC (.int 1)) (eOp ft (eOp gIx (ae 1) (eC (.int 2))) (eC (.int 20)))))
 (aE (aJ 4 (eSh (eB jh (ah (ae 2) az))))
 (aE (aJ 5 (bt g9 (ah (ae 4) (ah (ae 3) az))))
 (aE (sIf (oj (pV (lX (br (tY "list" (ae 5)))) (pV (br (eOp gNe (eB cH (ah (ae 5) az)) (eB cH (ah (ae 2) az)))) (br (eOp gNe (ae 4) (ae 2)))))) (e_ (eC (.bool false))) sNx)
 (aE (sIf (oj (pV (br (eOp gNe (eB cH (ah (bT (fZ (ae 5)) (gNm 0) (br (bt eh (ah (ae 0) az))) (ae 0) 1 []) az)) (eB cH (ah (ae 2) az)))) (lX (br (bt ef (ah (ae 2) (ah (ae 5) (ah (ae 3) az)))))))) (e_ (eC (.bool false))) sNx)
 (aE (aJ 6 (eSh (bt c8 (ah (ae 2) az))))
 (aE (fM (iR1 (eB cH (ah (ae 2) az))) (gNm 7) (aE (sIf (br (eOp gEq (eOp gIx (ae 6) (ae 7)) (eR az))) sCt sNx)
 (aE (aJ 8 (mH (eOp bB (eOp gIx (ae 5) (eOp gIx (eOp gIx (ae 6) (ae 7)) (eC (.int 0)))) (eOp gIx (ae 5) (eOp gIx (eOp gIx (ae 6) (ae 7)) (eUn fK (eC (.int 1))))))))
 (sIf (oj (br (eOp gNe (eOp eS (eC (.int 2)) (eOp gIx (ae 5) (ae 7))) (ae 8)))) (e_ (eC (.bool false))) sNx))))
 (aE (sIf (oj (lX (br (bt d9 (ah (ae 2) (ah (ae 6) (ah (ae 5) az))))))) (e_ (eC (.bool false))) sNx)
 (aE (aJ 9 (eSh (lO (eB jh (ah (ae 5) az)))))
 (aE (ib 5 (eC (.int 0)))
 (e_ (eOp gEq (bt g9 (ah (ae 2) (ah (ae 3) az))) (ae 9)))))))))))))))
noncomputable def ma : Fn := dE 1 10 nS
noncomputable def top (i : Nat) : Stmt := PySem.Challenge.pw_boughdraw_k34_whole_drawn_by_the_rules.main.body.getD i (.Pass ⟨0, 0, 0, 0⟩)
noncomputable abbrev cK : Stmt := top 4
theorem mJ : FnScope ["tree", "node"] ["tree", "node"] (ai cK) := ⟨rfl, rfl, rfl, by decide +kernel, rfl, by decide +kernel, by decide +kernel⟩
noncomputable abbrev du : Stmt := top 6
theorem qw : FnScope ["tree"] ["tree"] (ai du) := ⟨rfl, rfl, rfl, by decide +kernel, rfl, by decide +kernel, by decide +kernel⟩
noncomputable abbrev dB : Stmt := top 9
theorem iu : FnScope ["one", "other", "gap", "apart", "asked", "distance"] ["one", "other", "gap"] (ai dB) := ⟨rfl, rfl, rfl, by decide +kernel, rfl, by decide +kernel, by decide +kernel⟩
noncomputable abbrev aL : Stmt := top 18
theorem bS : FnScope ["outlines", "stands", "joined", "level", "there", "left", "right"] ["outlines", "stands"] (ai aL) := ⟨rfl, rfl, rfl, by decide +kernel, rfl, by decide +kernel, by decide +kernel⟩
noncomputable abbrev bw : Stmt := top 21
theorem cF : FnScope ["_law_number", "_law_size", "_law_letters_here", "_law_label_here", "_law_k"] ["_law_number", "_law_size"] (ai bw) := ⟨rfl, rfl, rfl, by decide +kernel, rfl, by decide +kernel, by decide +kernel⟩
noncomputable abbrev aO : Stmt := top 24
theorem bO : FnScope ["_law_tree_here", "_law_order", "_law_left", "_law_node"] ["_law_tree_here"] (ai aO) := ⟨rfl, rfl, rfl, by decide +kernel, rfl, by decide +kernel, by decide +kernel⟩
noncomputable abbrev dh : Stmt := top 27
theorem eY : FnScope ["_law_tree_here", "_law_shift", "_law_found", "_law_elder", "_law_label_here", "_law_tall"] ["_law_tree_here", "_law_shift"] (ai dh) := ⟨rfl, rfl, rfl, by decide +kernel, rfl, by decide +kernel, by decide +kernel⟩
noncomputable abbrev cI : Stmt := top 30
theorem mS : FnScope ["_law_found"] ["_law_found"] (ai cI) := ⟨rfl, rfl, rfl, by decide +kernel, rfl, by decide +kernel, by decide +kernel⟩
noncomputable abbrev bK : Stmt := top 31
theorem dI : FnScope ["_law_tree_here", "_law_level", "_law_elder", "_law_label_here", "_law_tall"] ["_law_tree_here"] (ai bK) := ⟨rfl, rfl, rfl, by decide +kernel, rfl, by decide +kernel, by decide +kernel⟩
noncomputable abbrev bc : Stmt := top 32
theorem fC : FnScope ["_law_tree_here", "_law_some", "_law_k"] ["_law_tree_here"] (ai bc) := ⟨rfl, rfl, rfl, by decide +kernel, rfl, by decide +kernel, by decide +kernel⟩
noncomputable abbrev dn : Stmt := top 34
theorem df : FnScope ["_law_tree_here", "_law_some", "_law_node", "_law_turned", "_law_found", "_law_left", "_law_at", "_law_elder", "_law_parts"] ["_law_tree_here", "_law_some", "_law_node", "_law_turned"] (ai dn) := ⟨rfl, rfl, rfl, by decide +kernel, rfl, by decide +kernel, by decide +kernel⟩
noncomputable abbrev bI : Stmt := top 5
theorem lu : FnScope ["tree", "node"] ["tree", "node"] (ai bI) := ⟨rfl, rfl, rfl, by decide +kernel, rfl, by decide +kernel, by decide +kernel⟩
noncomputable abbrev aV : Stmt := top 11
theorem dm : FnScope ["outlines", "gap", "places", "number", "asked"] ["outlines", "gap"] (ai aV) := ⟨rfl, rfl, rfl, by decide +kernel, rfl, by decide +kernel, by decide +kernel⟩
noncomputable abbrev bj : Stmt := top 12
theorem cg : FnScope ["outlines", "gap", "last", "count", "places", "number", "one", "asked"] ["outlines", "gap", "last"] (ai bj) := ⟨rfl, rfl, rfl, by decide +kernel, rfl, by decide +kernel, by decide +kernel⟩
noncomputable abbrev a8 : Stmt := top 15
theorem hZ : FnScope ["tree", "places", "unit", "least"] ["tree", "places", "unit"] (ai a8) := ⟨rfl, rfl, rfl, by decide +kernel, rfl, by decide +kernel, by decide +kernel⟩
noncomputable abbrev b9 : Stmt := top 22
theorem mT : FnScope ["_law_number", "_law_most"] ["_law_number", "_law_most"] (ai b9) := ⟨rfl, rfl, rfl, by decide +kernel, rfl, by decide +kernel, by decide +kernel⟩
noncomputable abbrev aY : Stmt := top 25
theorem aS : FnScope ["_law_tree_here", "_law_order", "_law_found", "_law_node", "_law_elder", "_law_label_here", "_law_tall"] ["_law_tree_here"] (ai aY) := ⟨rfl, rfl, rfl, by decide +kernel, rfl, by decide +kernel, by decide +kernel⟩
noncomputable abbrev a_ : Stmt := top 26
theorem cx : FnScope ["_law_tree_here", "_law_draws_here", "_law_start", "_law_found", "_law_k", "_law_number", "_law_size"] ["_law_tree_here", "_law_draws_here", "_law_start"] (ai a_) := ⟨rfl, rfl, rfl, by decide +kernel, rfl, by decide +kernel, by decide +kernel⟩
noncomputable abbrev bL : Stmt := top 33
theorem dA : FnScope ["_law_tree_here", "_law_places", "_law_gap", "_law_wide", "_law_level", "_law_one", "_law_other", "_law_least"] ["_law_tree_here", "_law_places", "_law_gap"] (ai bL) := ⟨rfl, rfl, rfl, by decide +kernel, rfl, by decide +kernel, by decide +kernel⟩
noncomputable abbrev bh : Stmt := top 35
theorem cT : FnScope ["_law_tree_here", "_law_some", "_law_places", "_law_wide", "_law_steps", "_law_keys", "_law_others", "_law_j", "_law_k"] ["_law_tree_here", "_law_some", "_law_places"] (ai bh) := ⟨rfl, rfl, rfl, by decide +kernel, rfl, by decide +kernel, by decide +kernel⟩
noncomputable abbrev eN : Stmt := top 10
theorem l4 : FnScope ["outlines", "gap", "earliest"] ["outlines", "gap"] (ai eN) := ⟨rfl, rfl, rfl, by decide +kernel, rfl, by decide +kernel, by decide +kernel⟩
noncomputable abbrev cJ : Stmt := top 23
theorem aU : FnScope ["_law_draws_here", "_law_start", "_law_many", "_law_most", "_law_deep", "_law_tree_here", "_law_way", "_law_k", "_law_number", "_law_tall", "_law_elder", "_law_keep"] ["_law_draws_here", "_law_start", "_law_many", "_law_most", "_law_deep"] (ai cJ) := ⟨rfl, rfl, rfl, by decide +kernel, rfl, by decide +kernel, by decide +kernel⟩
noncomputable abbrev bC : Stmt := top 17
theorem fR : FnScope ["outlines", "gap", "room", "elder"] ["outlines", "gap"] (ai bC) := ⟨rfl, rfl, rfl, by decide +kernel, rfl, by decide +kernel, by decide +kernel⟩
noncomputable abbrev cc : Stmt := top 28
theorem bM : FnScope ["_law_draws_here", "_law_start", "_law_many", "_law_part", "_law_tree_here", "_law_k", "_law_bough"] ["_law_draws_here", "_law_start", "_law_many"] (ai cc) := ⟨rfl, rfl, rfl, by decide +kernel, rfl, by decide +kernel, by decide +kernel⟩
noncomputable abbrev eg : Stmt := top 16
theorem d5 : FnScope ["tree", "gap", "offsets", "outlines", "node", "children", "below", "stands", "child", "stand"] ["tree", "gap"] (ai eg) := ⟨rfl, rfl, rfl, by decide +kernel, rfl, by decide +kernel, by decide +kernel⟩
noncomputable abbrev bo : Stmt := top 29
theorem gM : FnScope ["_law_draws_here", "_law_cell"] ["_law_draws_here"] (ai bo) := ⟨rfl, rfl, rfl, by decide +kernel, rfl, by decide +kernel, by decide +kernel⟩
noncomputable abbrev gP : Stmt := top 14
theorem jU : FnScope ["tree", "gap", "offsets", "places", "node"] ["tree", "gap"] (ai gP) := ⟨rfl, rfl, rfl, by decide +kernel, rfl, by decide +kernel, by decide +kernel⟩
noncomputable abbrev cP : Stmt := top 20
theorem bu : FnScope ["_law_script", "_law_many", "_law_cells", "_law_found", "_law_left", "_law_k", "_law_at", "_law_cell", "_law_one", "_law_other"] ["_law_script", "_law_many"] (ai cP) := ⟨rfl, rfl, rfl, by decide +kernel, rfl, by decide +kernel, by decide +kernel⟩
noncomputable abbrev jr : Stmt := top 36
theorem gS : FnScope ["_law_script", "_law_draws_here", "_law_tree_here", "_law_gap", "_law_handed", "_law_places", "_law_some", "_law_k", "_law_both", "_law_held"] ["_law_script"] (ai jr) := ⟨rfl, rfl, rfl, by decide +kernel, rfl, by decide +kernel, by decide +kernel⟩
theorem nJ : bootBuiltins "list" = some (.type "list") := by decide +kernel
theorem vW : bootBuiltins "int" = some (.type "int") := by decide +kernel
theorem xG : bootBuiltins "bool" = some (.type "bool") := by decide +kernel
structure Txt (K : PySem.W.Frag) (mg : Str → Option Value) : Prop where
 z_bool : mg "bool" = none
 z_enumerate : mg "enumerate" = none
 z_int : mg "int" = none
 z_isinstance : mg "isinstance" = none
 z_len : mg "len" = none
 z_list : mg "list" = none
 z_max : mg "max" = none
 z_min : mg "min" = none
 z_range : mg "range" = none
 z_zip : mg "zip" = none
 c_SHREDS : ∃ t, mg "SHREDS" = some (.int 256 t)
section
variable {P : Program} {w : World} {K : PySem.W.Frag} {mg : Str → Option Value} {base : Heap}
theorem mO {f : Addr} {fd : FuncData} (F : Fun K "check_node" "check_node" cK f fd) (T : Txt K mg) : FnOk P w K mg base CX0 1 f fd ["tree", "node"] (sp3 K mg et) := by
 refine fg (N := ["tree", "node"]) (k := 0) (body := fI) rfl rfl rfl F mJ fun cdv A outer s H E hr => ?_
 unfold fI;exact (ar (eZ (sM (rP (bz vy (fun _ => vK) (aa 1) ag (ba _)) (qx (bz yF (fun _ => ze) (aa 1) (aZ aD aW rfl T.z_len PySem.boot_len (ab (aa 0) aj)) (ba _))))) (ar uI) b_))
theorem qo {f : Addr} {fd : FuncData} (F : Fun K "reaches" "reaches" du f fd) (T : Txt K mg) : FnOk P w K mg base CX0 1 f fd ["tree"] (sp3 K mg eJ) := by
 refine fg (N := ["tree"]) (k := 0) (body := h_) rfl rfl rfl F qw fun cdv A outer s H E hr => ?_
 unfold h_;exact (ar (bN (cW (sc := (ai du)) (outs := []) (is := [0]) ["row"] ⟨rfl, rfl, by decide +kernel, by decide +kernel, by decide +kernel, trivial⟩ rfl (by decide) (cM (aa 0)) (fun _ _ _ _ _ => (av (i := 0) (show List.Nodup (["row"] : List Str) by decide +kernel) rfl (Or.inl rfl))) (fun _ _ _ _ _ => cX) (fun _ _ _ _ _ => (ao cA (fun _ => dG) (aZ aD aW rfl T.z_len PySem.boot_len (ab (ay aq ax (aa 0) ag (fun _ _ => rfl)) aj)) ag)))))
theorem qA {f : Addr} {fd : FuncData} (F : Fun K "nearest" "nearest" dB f fd) (T : Txt K mg) : FnOk P w K mg base CX0 1 f fd ["one", "other", "gap"] (sp3 K mg dQ) := by
 refine fg (N := ["one", "other", "gap", "apart", "asked", "distance"]) (k := 0) (body := iq) rfl rfl rfl F iu fun cdv A outer s H E hr => ?_
 unfold iq;exact (af (aw (i := 3) iu.nd rfl (Or.inr rfl) (ao bJ cQ (j4 rfl T.c_SHREDS) (ao aC aF (aa 2) ag)))
   (af (gO (i := 4) (sc := (ai dB)) (outs := [(3, "apart")]) (is := [0, 1]) ["ahead", "behind"] (fun _ _ _ q => mI q) iu.nd rfl (Or.inl rfl) ⟨rfl, rfl, by decide +kernel, by decide +kernel, by decide +kernel, ⟨⟨rfl, rfl⟩, trivial⟩⟩ rfl (by decide) (lI rfl T.z_zip (aa 0) (aa 1)) (fun _ _ _ _ _ => (gj (n := 2) rfl (aR (av (i := 0) (show List.Nodup (["ahead", "behind", "apart"] : List Str) by decide +kernel) rfl (Or.inl rfl)) (aR (av (i := 1) (show List.Nodup (["ahead", "behind", "apart"] : List Str) by decide +kernel) rfl (Or.inl rfl)) e6)))) (fun _ _ _ _ _ => cX) (fun _ _ _ _ _ => (ao fO (fun _ => fP) (ao aC aF (ay aq ax (aa 0) ag (fun _ _ => rfl)) (aa 2)) (ay aq ax (aa 1) ag (fun _ _ => rfl)))))
   (af (aw (i := 5) iu.nd rfl (Or.inl rfl) (aZ (hX _ rfl rfl) jV rfl T.z_max PyProof.Rows.boot_max (ab (aa 4) aj)))
   (ar (bN (e8 (ab (aa 5) (ab (qa (aa 4) (aa 5)) aj))))))))
theorem jP {f : Addr} {fd : FuncData} (F : Fun K "joined_outline" "joined_outline" aL f fd) (T : Txt K mg) : FnOk P w K mg base CX0 1 f fd ["outlines", "stands"] (sp3 K mg bU) := by
 refine fg (N := ["outlines", "stands", "joined", "level", "there", "left", "right"]) (k := 0) (body := dH) rfl rfl rfl F bS fun cdv A outer s H E hr => ?_
 unfold dH;exact (af (aw (i := 2) bS.nd rfl (Or.inl rfl) (bQ aj))
   (af (cR rfl PassesOwn.never (gf rfl T.z_range (aZ (hX _ rfl rfl) jV rfl T.z_max PyProof.Rows.boot_max (ab (cW (sc := (ai aL)) (outs := []) (is := [0]) ["outline"] ⟨rfl, rfl, by decide +kernel, by decide +kernel, by decide +kernel, trivial⟩ rfl (by decide) (cM (aa 0)) (fun _ _ _ _ _ => (av (i := 0) (show List.Nodup (["outline"] : List Str) by decide +kernel) rfl (Or.inl rfl))) (fun _ _ _ _ _ => cX) (fun _ _ _ _ _ => (aZ aD aW rfl T.z_len PySem.boot_len (ab (aa 0) aj)))) aj))) (av (i := 3) bS.nd rfl (Or.inr rfl)) (af (gO (i := 4) (sc := (ai aL)) (outs := [(3, "level")]) (is := [0, 1]) ["number", "outline"] (fun _ _ _ q => mI q) bS.nd rfl (Or.inl rfl) ⟨rfl, rfl, by decide +kernel, by decide +kernel, by decide +kernel, ⟨⟨rfl, rfl⟩, trivial⟩⟩ rfl (by decide) (rk rfl T.z_enumerate (aa 0)) (fun _ _ _ _ _ => (gj (n := 2) rfl (aR (av (i := 0) (show List.Nodup (["number", "outline", "level"] : List Str) by decide +kernel) rfl (Or.inl rfl)) (aR (av (i := 1) (show List.Nodup (["number", "outline", "level"] : List Str) by decide +kernel) rfl (Or.inl rfl)) e6)))) (fun _ _ _ _ _ => (kB (bz vy (fun _ => vK) (aa 2) (aZ aD aW rfl T.z_len PySem.boot_len (ab (aa 1) aj)) (ba _)))) (fun _ _ _ _ _ => (aa 0)))
   (af (aw (i := 5) bS.nd rfl (Or.inl rfl) (aZ (i7 _ rfl rfl) kX rfl T.z_min PyProof.Rows.boot_min (ab (cW (sc := (ai aL)) (outs := [(1, "stands"), (0, "outlines"), (3, "level")]) (is := [0]) ["number"] ⟨rfl, rfl, by decide +kernel, by decide +kernel, by decide +kernel, ⟨⟨rfl, rfl⟩, ⟨rfl, rfl⟩, ⟨rfl, rfl⟩, trivial⟩⟩ rfl (by decide) (cM (aa 4)) (fun _ _ _ _ _ => (av (i := 0) (show List.Nodup (["number", "stands", "outlines", "level"] : List Str) by decide +kernel) rfl (Or.inl rfl))) (fun _ _ _ _ _ => cX) (fun _ _ _ _ _ => (ao aC aF (ay aq ax (aa 1) (aa 0) (fun _ _ => rfl)) (ay aq ax (ay aq ax (ay aq ax (aa 2) (aa 0) (fun _ _ => rfl)) (aa 3) (fun _ _ => rfl)) ag (fun _ _ => rfl))))) aj)))
   (af (aw (i := 6) bS.nd rfl (Or.inl rfl) (aZ (hX _ rfl rfl) jV rfl T.z_max PyProof.Rows.boot_max (ab (cW (sc := (ai aL)) (outs := [(1, "stands"), (0, "outlines"), (3, "level")]) (is := [0]) ["number"] ⟨rfl, rfl, by decide +kernel, by decide +kernel, by decide +kernel, ⟨⟨rfl, rfl⟩, ⟨rfl, rfl⟩, ⟨rfl, rfl⟩, trivial⟩⟩ rfl (by decide) (cM (aa 4)) (fun _ _ _ _ _ => (av (i := 0) (show List.Nodup (["number", "stands", "outlines", "level"] : List Str) by decide +kernel) rfl (Or.inl rfl))) (fun _ _ _ _ _ => cX) (fun _ _ _ _ _ => (ao aC aF (ay aq ax (aa 1) (aa 0) (fun _ _ => rfl)) (ay aq ax (ay aq ax (ay aq ax (aa 2) (aa 0) (fun _ _ => rfl)) (aa 3) (fun _ _ => rfl)) ag (fun _ _ => rfl))))) aj)))
   (ar (fu 2 (e8 (ab (aa 5) (ab (aa 6) aj)))))))))
   (ar (eG 2))))
theorem kP {f : Addr} {fd : FuncData} (F : Fun K "_law_letters" "_law_letters" bw f fd) (T : Txt K mg) : FnOk P w K mg base CX0 1 f fd ["_law_number", "_law_size"] (sp3 K mg bY) := by
 refine fg (N := ["_law_number", "_law_size", "_law_letters_here", "_law_label_here", "_law_k"]) (k := 0) (body := eD) rfl rfl rfl F cF fun cdv A outer s H E hr => ?_
 unfold eD;exact (af (aw (i := 2) cF.nd rfl (Or.inl rfl) ua)
   (af (aw (i := 3) cF.nd rfl (Or.inl rfl) ua)
   (af (cR rfl PassesOwn.never (gf rfl T.z_range (aa 1)) (av (i := 4) cF.nd rfl (Or.inl rfl)) (af (aw (i := 3) cF.nd rfl (Or.inl rfl) (ao aC aF (aa 3) (ay aq ax (aa 2) (ao b8 (fun _ => b7) (aa 0) ag) (fun _ _ => rfl))))
   (ar (aw (i := 0) cF.nd rfl (Or.inl rfl) (ao cA (fun _ => dG) (aa 0) ag)))))
   (ar (bN (aa 3))))))
theorem iS {f : Addr} {fd : FuncData} (F : Fun K "_law_mirror_order" "_law_mirror_order" aO f fd) (T : Txt K mg) : FnOk P w K mg base CX0 1 f fd ["_law_tree_here"] (sp3 K mg bR) := by
 refine fg (N := ["_law_tree_here", "_law_order", "_law_left", "_law_node"]) (k := 0) (body := cG) rfl rfl rfl F bO fun cdv A outer s H E hr => ?_
 unfold cG;exact (af (aw (i := 1) bO.nd rfl (Or.inl rfl) (bQ aj))
   (af (aw (i := 2) bO.nd rfl (Or.inl rfl) (bQ (ab ag aj)))
   (af (pH PassesOwn.never (kA (bz (iG hr.units) kJ (aa 2) (bQ aj) (ba _))) (af (wu 2 (av (i := 3) bO.nd rfl (Or.inr rfl)))
   (af (fu 1 (aa 3))
   (ar (kq 2 (aw (i := 2) bO.nd rfl (Or.inl rfl) (ao aC aF (aa 2) (cW (sc := (ai aO)) (outs := [(0, "_law_tree_here"), (3, "_law_node")]) (is := [0]) ["_law_k"] ⟨rfl, rfl, by decide +kernel, by decide +kernel, by decide +kernel, ⟨⟨rfl, rfl⟩, ⟨rfl, rfl⟩, trivial⟩⟩ rfl (by decide) (m_ rfl T.z_range (ao aC aF (aa 3) ag) (aZ aD aW rfl T.z_len PySem.boot_len (ab (aa 0) aj))) (fun _ _ _ _ _ => (av (i := 0) (show List.Nodup (["_law_k", "_law_tree_here", "_law_node"] : List Str) by decide +kernel) rfl (Or.inl rfl))) (fun _ _ _ _ _ => (kB (bz (eI hr.units) f7 (ay aq ax (ay aq ax (aa 1) (aa 0) (fun _ _ => rfl)) ag (fun _ _ => rfl)) (aa 2) (ba _)))) (fun _ _ _ _ _ => (aa 0))))))))))
   (ar (eG 1)))))
theorem n9 {f : Addr} {fd : FuncData} (F : Fun K "_law_hung" "_law_hung" dh f fd) (T : Txt K mg) : FnOk P w K mg base CX0 1 f fd ["_law_tree_here", "_law_shift"] (sp3 K mg e9) := by
 refine fg (N := ["_law_tree_here", "_law_shift", "_law_found", "_law_elder", "_law_label_here", "_law_tall"]) (k := 0) (body := fV) rfl rfl rfl F eY fun cdv A outer s H E hr => ?_
 unfold fV;exact (af (aw (i := 2) eY.nd rfl (Or.inl rfl) (bQ (ab (e8 (ab ag (ab (ay aq ax (ay aq ax (aa 0) ag (fun _ _ => rfl)) ag (fun _ _ => rfl)) (ab (ay aq ax (ay aq ax (aa 0) ag (fun _ _ => rfl)) ag (fun _ _ => rfl)) aj)))) aj)))
   (af (cR rfl PassesOwn.never (cM (kH gF iT (aa 0) (gG ag) gH)) (gj (n := 3) rfl (aR (av (i := 3) eY.nd rfl (Or.inl rfl)) (aR (av (i := 4) eY.nd rfl (Or.inl rfl)) (aR (av (i := 5) eY.nd rfl (Or.inl rfl)) e6)))) (ar (fu 2 (bP (e8 (ab (ao aC aF (aa 3) (aa 1)) (ab (aa 4) (ab (aa 5) aj))))))))
   (ar (eG 2))))
theorem mL {f : Addr} {fd : FuncData} (F : Fun K "_law_whole" "_law_whole" cI f fd) (T : Txt K mg) : FnOk P w K mg base CX0 1 f fd ["_law_found"] (sp3 K mg eh) := by
 refine fg (N := ["_law_found"]) (k := 0) (body := fG) rfl rfl rfl F mS fun cdv A outer s H E hr => ?_
 unfold fG;exact (ar (bN (A_ (ql rfl T.z_isinstance rfl T.z_int vW (aa 0)) (BO (BQ (ql rfl T.z_isinstance rfl T.z_bool xG (aa 0)))))))
theorem mD {f : Addr} {fd : FuncData} (F : Fun K "_law_levels" "_law_levels" bK f fd) (T : Txt K mg) : FnOk P w K mg base CX0 1 f fd ["_law_tree_here"] (sp3 K mg dJ) := by
 refine fg (N := ["_law_tree_here", "_law_level", "_law_elder", "_law_label_here", "_law_tall"]) (k := 0) (body := fi) rfl rfl rfl F dI fun cdv A outer s H E hr => ?_
 unfold fi;exact (af (aw (i := 1) dI.nd rfl (Or.inr rfl) (bQ (ab ag aj)))
   (af (cR rfl PassesOwn.never (cM (kH gF iT (aa 0) (gG ag) gH)) (gj (n := 3) rfl (aR (av (i := 2) dI.nd rfl (Or.inl rfl)) (aR (av (i := 3) dI.nd rfl (Or.inl rfl)) (aR (av (i := 4) dI.nd rfl (Or.inl rfl)) e6)))) (ar (fu 1 (kF (ao aC aF (ay aq ax (aa 1) (aa 2) (fun _ _ => rfl)) ag)))))
   (ar (kq 1 (bN (uU (sc := (ai bK)) (outs := [(0, "_law_tree_here"), (1, "_law_level")]) (is := [0]) ["_law_j"] ⟨rfl, rfl, by decide +kernel, by decide +kernel, by decide +kernel, by decide +kernel, ⟨⟨rfl, rfl⟩, ⟨rfl, rfl⟩, trivial⟩⟩ rfl (by decide) (gf rfl T.z_range (ao aC aF (aZ (hX _ rfl rfl) jV rfl T.z_max PyProof.Rows.boot_max (ab (aa 1) aj)) ag)) (fun _ _ _ _ _ => (av (i := 0) (show List.Nodup (["_law_j", "_law_tree_here", "_law_level"] : List Str) by decide +kernel) rfl (Or.inr rfl))) (fun _ _ _ _ _ => cX) (fun _ _ _ _ _ => (bP (cW (sc := _) (outs := [(2, "_law_level"), (0, "_law_j")]) (is := [0]) ["_law_k"] (u6 rfl (by decide +kernel) (by decide +kernel) (by decide +kernel) (show h8 _ _ [(2, "_law_level"), (0, "_law_j")] from ⟨⟨rfl, rfl⟩, ⟨rfl, rfl⟩, trivial⟩)) rfl (by decide) (gf rfl T.z_range (aZ aD aW rfl T.z_len PySem.boot_len (ab (aa 1) aj))) (fun _ _ _ _ _ => (av (i := 0) (show List.Nodup (["_law_k", "_law_level", "_law_j"] : List Str) by decide +kernel) rfl (Or.inl rfl))) (fun _ _ _ _ _ => (kB (bz (eI hr.units) f7 (ay aq ax (aa 1) (aa 0) (fun _ _ => rfl)) (aa 2) (ba _)))) (fun _ _ _ _ _ => (aa 0)))))))))))
theorem ka {f : Addr} {fd : FuncData} (F : Fun K "_law_children" "_law_children" bc f fd) (T : Txt K mg) : FnOk P w K mg base CX0 1 f fd ["_law_tree_here"] (sp3 K mg c8) := by
 refine fg (N := ["_law_tree_here", "_law_some", "_law_k"]) (k := 0) (body := dY) rfl rfl rfl F fC fun cdv A outer s H E hr => ?_
 unfold dY;exact (af (gO (i := 1) (sc := (ai bc)) (outs := []) (is := [0]) ["_law_row"] (fun _ _ _ q => q) fC.nd rfl (Or.inl rfl) ⟨rfl, rfl, by decide +kernel, by decide +kernel, by decide +kernel, trivial⟩ rfl (by decide) (cM (aa 0)) (fun _ _ _ _ _ => (av (i := 0) (show List.Nodup (["_law_row"] : List Str) by decide +kernel) rfl (Or.inl rfl))) (fun _ _ _ _ _ => cX) (fun _ _ _ _ _ => (bQ aj)))
   (af (cR rfl PassesOwn.never (m_ rfl T.z_range ag (aZ aD aW rfl T.z_len PySem.boot_len (ab (aa 0) aj))) (av (i := 2) fC.nd rfl (Or.inl rfl)) (ar (wd 1 (ay aq ax (ay aq ax (aa 0) (aa 2) (fun _ _ => rfl)) ag (fun _ _ => rfl)) (aa 2) (fun _ _ => rfl))))
   (ar (eG 1))))
theorem pW {f : Addr} {fd : FuncData} (F : Fun K "_law_key" "_law_key" dn f fd) (T : Txt K mg) : FnOk P w K mg base CX0 1 f fd ["_law_tree_here", "_law_some", "_law_node", "_law_turned"] (sp3 K mg di) := by
 refine fg (N := ["_law_tree_here", "_law_some", "_law_node", "_law_turned", "_law_found", "_law_left", "_law_at", "_law_elder", "_law_parts"]) (k := 0) (body := gN) rfl rfl rfl F df fun cdv A outer s H E hr => ?_
 unfold gN;exact (af (aw (i := 4) df.nd rfl (Or.inr rfl) (bQ aj))
   (af (aw (i := 5) df.nd rfl (Or.inl rfl) (bQ (ab (e8 (ab (aa 2) (ab (fS d8 (fun _ => d7) ag) aj))) aj)))
   (af (pH PassesOwn.never (kA (bz (iG hr.units) kJ (aa 5) (bQ aj) (ba _))) (af (wu 5 (gj (n := 2) rfl (aR (av (i := 6) df.nd rfl (Or.inl rfl)) (aR (av (i := 7) df.nd rfl (Or.inl rfl)) e6))))
   (af (fu 4 (e8 (ab (aa 7) (ab (ao cA (fun _ => dG) (aZ aD aW rfl T.z_len PySem.boot_len (ab (ay aq ax (ay aq ax (aa 0) (aa 6) (fun _ _ => rfl)) ag (fun _ _ => rfl)) aj)) ag) aj))))
   (af (aw (i := 8) df.nd rfl (Or.inl rfl) (ay aq ax (aa 1) (aa 6) (fun _ _ => rfl)))
   (af (eZ (oG (l_ (aa 3))) (ar (aw (i := 8) df.nd rfl (Or.inl rfl) (bP (vY (fun v u => [v, u]) (aa 8) (fS d8 (fun _ => d7) ag))))) b_)
   (ar (kq 5 (aw (i := 5) df.nd rfl (Or.inl rfl) (yo 4 (ao aC aF (aa 5) (cW (sc := (ai dn)) (outs := [(4, "_law_found")]) (is := [0]) ["_law_child"] ⟨rfl, rfl, by decide +kernel, by decide +kernel, by decide +kernel, ⟨⟨rfl, rfl⟩, trivial⟩⟩ rfl (by decide) (cM (aa 8)) (fun _ _ _ _ _ => (av (i := 0) (show List.Nodup (["_law_child", "_law_found"] : List Str) by decide +kernel) rfl (Or.inl rfl))) (fun _ _ _ _ _ => cX) (fun _ _ _ _ _ => (e8 (ab (aa 0) (ab (ao fO (fun _ => fP) (aZ aD aW rfl T.z_len PySem.boot_len (ab (aa 1) aj)) ag) aj)))))))))))))))
   (ar (eG 4)))))
theorem lY {f : Addr} {fd : FuncData} (F : Fun K "children_of" "children_of" bI f fd) (T : Txt K mg) {f_check_node : Addr} {fd_check_node : FuncData} (D_check_node : Def K mg "check_node" cK ["tree", "node"] f_check_node fd_check_node) (G_check_node : FnOk P w K mg base CX0 1 f_check_node fd_check_node ["tree", "node"] (sp3 K mg et)) : FnOk P w K mg base CX0 2 f fd ["tree", "node"] (sp3 K mg dM) := by
 refine fg (N := ["tree", "node"]) (k := 1) (body := e7) rfl rfl rfl F lu fun cdv A outer s H E hr => ?_
 unfold e7;exact (af (xV (aK G_check_node (hr.mono (by decide)) rfl D_check_node.g D_check_node.F.kp D_check_node.b bH (ab (aa 0) (ab (aa 1) aj))))
   (ar (bN (cW (sc := (ai bI)) (outs := [(1, "node")]) (is := [0, 1]) ["number", "row"] ⟨rfl, rfl, by decide +kernel, by decide +kernel, by decide +kernel, ⟨⟨rfl, rfl⟩, trivial⟩⟩ rfl (by decide) (rk rfl T.z_enumerate (aa 0)) (fun _ _ _ _ _ => (gj (n := 2) rfl (aR (av (i := 0) (show List.Nodup (["number", "row", "node"] : List Str) by decide +kernel) rfl (Or.inl rfl)) (aR (av (i := 1) (show List.Nodup (["number", "row", "node"] : List Str) by decide +kernel) rfl (Or.inl rfl)) e6)))) (fun _ _ _ _ _ => (kB (bz (eI hr.units) f7 (ay aq ax (aa 1) ag (fun _ _ => rfl)) (aa 2) (ba _)))) (fun _ _ _ _ _ => (aa 0))))))
theorem jB {f : Addr} {fd : FuncData} (F : Fun K "earliest_places" "earliest_places" aV f fd) (T : Txt K mg) {f_nearest : Addr} {fd_nearest : FuncData} (D_nearest : Def K mg "nearest" dB ["one", "other", "gap"] f_nearest fd_nearest) (G_nearest : FnOk P w K mg base CX0 1 f_nearest fd_nearest ["one", "other", "gap"] (sp3 K mg dQ)) : FnOk P w K mg base CX0 2 f fd ["outlines", "gap"] (sp3 K mg cn) := by
 refine fg (N := ["outlines", "gap", "places", "number", "asked"]) (k := 1) (body := dk) rfl rfl rfl F dm fun cdv A outer s H E hr => ?_
 unfold dk;exact (af (aw (i := 2) dm.nd rfl (Or.inr rfl) (bQ (ab ag aj)))
   (af (cR rfl PassesOwn.never (m_ rfl T.z_range ag (aZ aD aW rfl T.z_len PySem.boot_len (ab (aa 0) aj))) (av (i := 3) dm.nd rfl (Or.inr rfl)) (af (gO (i := 4) (sc := (ai aV)) (outs := [(2, "places"), (0, "outlines"), (3, "number"), (1, "gap")]) (is := [0]) ["ahead"] (fun _ _ _ q => qP (mI q)) dm.nd rfl (Or.inl rfl) ⟨rfl, rfl, by decide +kernel, by decide +kernel, by decide +kernel, ⟨⟨rfl, rfl⟩, ⟨rfl, rfl⟩, ⟨rfl, rfl⟩, ⟨rfl, rfl⟩, trivial⟩⟩ rfl (by decide) (gf rfl T.z_range (aa 3)) (fun _ _ _ _ _ => (av (i := 0) (show List.Nodup (["ahead", "places", "outlines", "number", "gap"] : List Str) by decide +kernel) rfl (Or.inl rfl))) (fun _ _ _ _ _ => cX) (fun _ _ _ _ _ => (ao aC aF (ay aq ax (aa 1) (aa 0) (fun _ _ => rfl)) (ay aq ax (aK G_nearest (hr.mono (by decide)) rfl D_nearest.g D_nearest.F.kp D_nearest.b bH (ab (ay aq ax (aa 2) (aa 0) (fun _ _ => rfl)) (ab (ay aq ax (aa 2) (aa 3) (fun _ _ => rfl)) (ab (aa 4) aj)))) ag (fun _ _ => rfl)))))
   (ar (fu 2 (aZ (hX _ rfl rfl) jV rfl T.z_max PyProof.Rows.boot_max (ab (aa 4) aj))))))
   (ar (eG 2))))
theorem ki {f : Addr} {fd : FuncData} (F : Fun K "latest_places" "latest_places" bj f fd) (T : Txt K mg) {f_nearest : Addr} {fd_nearest : FuncData} (D_nearest : Def K mg "nearest" dB ["one", "other", "gap"] f_nearest fd_nearest) (G_nearest : FnOk P w K mg base CX0 1 f_nearest fd_nearest ["one", "other", "gap"] (sp3 K mg dQ)) : FnOk P w K mg base CX0 2 f fd ["outlines", "gap", "last"] (sp3 K mg c7) := by
 refine fg (N := ["outlines", "gap", "last", "count", "places", "number", "one", "asked"]) (k := 1) (body := dS) rfl rfl rfl F cg fun cdv A outer s H E hr => ?_
 unfold dS;exact (af (aw (i := 3) cg.nd rfl (Or.inl rfl) (aZ aD aW rfl T.z_len PySem.boot_len (ab (aa 0) aj)))
   (af (aw (i := 4) cg.nd rfl (Or.inr rfl) (ao bJ cQ (bQ (ab (aa 2) aj)) (aa 3)))
   (af (cR rfl PassesOwn.never (y8 rfl T.z_range (ao fO (fun _ => fP) (aa 3) ag) (fS d8 (fun _ => d7) ag) (fS d8 (fun _ => d7) ag)) (av (i := 5) cg.nd rfl (Or.inl rfl)) (af (aw (i := 6) cg.nd rfl (Or.inr rfl) (ay aq ax (aa 0) (aa 5) (fun _ _ => rfl)))
   (af (gO (i := 7) (sc := (ai bj)) (outs := [(4, "places"), (6, "one"), (0, "outlines"), (1, "gap")]) (is := [0]) ["behind"] (fun _ _ _ q => qP (mI q)) cg.nd rfl (Or.inl rfl) ⟨rfl, rfl, by decide +kernel, by decide +kernel, by decide +kernel, ⟨⟨rfl, rfl⟩, ⟨rfl, rfl⟩, ⟨rfl, rfl⟩, ⟨rfl, rfl⟩, trivial⟩⟩ rfl (by decide) (m_ rfl T.z_range (ao aC aF (aa 5) ag) (aa 3)) (fun _ _ _ _ _ => (av (i := 0) (show List.Nodup (["behind", "places", "one", "outlines", "gap"] : List Str) by decide +kernel) rfl (Or.inl rfl))) (fun _ _ _ _ _ => cX) (fun _ _ _ _ _ => (ao fO (fun _ => fP) (ay aq ax (aa 1) (aa 0) (fun _ _ => rfl)) (ay aq ax (aK G_nearest (hr.mono (by decide)) rfl D_nearest.g D_nearest.F.kp D_nearest.b bH (ab (aa 2) (ab (ay aq ax (aa 3) (aa 0) (fun _ _ => rfl)) (ab (aa 4) aj)))) ag (fun _ _ => rfl)))))
   (ar (qI 4 (aa 5) (aZ (i7 _ rfl rfl) kX rfl T.z_min PyProof.Rows.boot_min (ab (aa 7) aj)))))))
   (ar (eG 4)))))
theorem kf {f : Addr} {fd : FuncData} (F : Fun K "moved_to_side" "moved_to_side" a8 f fd) (T : Txt K mg) {f_reaches : Addr} {fd_reaches : FuncData} (D_reaches : Def K mg "reaches" du ["tree"] f_reaches fd_reaches) (G_reaches : FnOk P w K mg base CX0 1 f_reaches fd_reaches ["tree"] (sp3 K mg eJ)) : FnOk P w K mg base CX0 2 f fd ["tree", "places", "unit"] (sp3 K mg c9) := by
 refine fg (N := ["tree", "places", "unit", "least"]) (k := 1) (body := dU) rfl rfl rfl F hZ fun cdv A outer s H E hr => ?_
 unfold dU;exact (af (aw (i := 3) hZ.nd rfl (Or.inr rfl) (aZ (i7 _ rfl rfl) kX rfl T.z_min PyProof.Rows.boot_min (ab (cW (sc := (ai a8)) (outs := [(2, "unit")]) (is := [0, 1]) ["place", "reach"] ⟨rfl, rfl, by decide +kernel, by decide +kernel, by decide +kernel, ⟨⟨rfl, rfl⟩, trivial⟩⟩ rfl (by decide) (lI rfl T.z_zip (aa 1) (aK G_reaches (hr.mono (by decide)) rfl D_reaches.g D_reaches.F.kp D_reaches.b bH (ab (aa 0) aj))) (fun _ _ _ _ _ => (gj (n := 2) rfl (aR (av (i := 0) (show List.Nodup (["place", "reach", "unit"] : List Str) by decide +kernel) rfl (Or.inl rfl)) (aR (av (i := 1) (show List.Nodup (["place", "reach", "unit"] : List Str) by decide +kernel) rfl (Or.inl rfl)) e6)))) (fun _ _ _ _ _ => cX) (fun _ _ _ _ _ => (ao fO (fun _ => fP) (aa 0) (ao bJ cQ (aa 2) (aa 1))))) aj)))
   (ar (bN (cW (sc := (ai a8)) (outs := [(3, "least")]) (is := [0]) ["place"] ⟨rfl, rfl, by decide +kernel, by decide +kernel, by decide +kernel, ⟨⟨rfl, rfl⟩, trivial⟩⟩ rfl (by decide) (cM (aa 1)) (fun _ _ _ _ _ => (av (i := 0) (show List.Nodup (["place", "least"] : List Str) by decide +kernel) rfl (Or.inl rfl))) (fun _ _ _ _ _ => cX) (fun _ _ _ _ _ => (ao fO (fun _ => fP) (aa 0) (aa 1)))))))
theorem mG {f : Addr} {fd : FuncData} (F : Fun K "_law_label" "_law_label" b9 f fd) (T : Txt K mg) {f__law_letters : Addr} {fd__law_letters : FuncData} (D__law_letters : Def K mg "_law_letters" bw ["_law_number", "_law_size"] f__law_letters fd__law_letters) (G__law_letters : FnOk P w K mg base CX0 1 f__law_letters fd__law_letters ["_law_number", "_law_size"] (sp3 K mg bY)) : FnOk P w K mg base CX0 2 f fd ["_law_number", "_law_most"] (sp3 K mg bW) := by
 refine fg (N := ["_law_number", "_law_most"]) (k := 1) (body := eF) rfl rfl rfl F mT fun cdv A outer s H E hr => ?_
 unfold eF;exact (ar (bN (aK G__law_letters (hr.mono (by decide)) rfl D__law_letters.g D__law_letters.F.kp D__law_letters.b bH (ab (ao cA (fun _ => dG) (aa 0) (aa 1)) (ab (ao aC aF ag (ao b8 (fun _ => b7) (aa 0) (aa 1))) aj)))))
theorem jk {f : Addr} {fd : FuncData} (F : Fun K "_law_mirror_tree" "_law_mirror_tree" aY f fd) (T : Txt K mg) {f__law_mirror_order : Addr} {fd__law_mirror_order : FuncData} (D__law_mirror_order : Def K mg "_law_mirror_order" aO ["_law_tree_here"] f__law_mirror_order fd__law_mirror_order) (G__law_mirror_order : FnOk P w K mg base CX0 1 f__law_mirror_order fd__law_mirror_order ["_law_tree_here"] (sp3 K mg bR)) : FnOk P w K mg base CX0 2 f fd ["_law_tree_here"] (sp3 K mg b5) := by
 refine fg (N := ["_law_tree_here", "_law_order", "_law_found", "_law_node", "_law_elder", "_law_label_here", "_law_tall"]) (k := 1) (body := cU) rfl rfl rfl F aS fun cdv A outer s H E hr => ?_
 unfold cU;exact (af (aw (i := 1) aS.nd rfl (Or.inl rfl) (bP (aK G__law_mirror_order (hr.mono (by decide)) rfl D__law_mirror_order.g D__law_mirror_order.F.kp D__law_mirror_order.b bH (ab (aa 0) aj))))
   (af (aw (i := 2) aS.nd rfl (Or.inl rfl) (bQ aj))
   (af (cR rfl PassesOwn.never (cM (aa 1)) (av (i := 3) aS.nd rfl (Or.inl rfl)) (af (BR (ay aq ax (aa 0) (aa 3) (fun _ _ => rfl)) (gj (n := 3) rfl (aR (av (i := 4) aS.nd rfl (Or.inl rfl)) (aR (av (i := 5) aS.nd rfl (Or.inl rfl)) (aR (av (i := 6) aS.nd rfl (Or.inl rfl)) e6)))))
   (af (eZ (bz yF (fun _ => ze) (aa 4) ag (ba _)) (ar (aw (i := 4) aS.nd rfl (Or.inl rfl) (qa (aa 1) (aa 4)))) b_)
   (ar (fu 2 (e8 (ab (aa 4) (ab (aa 5) (ab (aa 6) aj)))))))))
   (ar (eG 2)))))
theorem jJ {f : Addr} {fd : FuncData} (F : Fun K "_law_relabelled" "_law_relabelled" a_ f fd) (T : Txt K mg) {f__law_letters : Addr} {fd__law_letters : FuncData} (D__law_letters : Def K mg "_law_letters" bw ["_law_number", "_law_size"] f__law_letters fd__law_letters) (G__law_letters : FnOk P w K mg base CX0 1 f__law_letters fd__law_letters ["_law_number", "_law_size"] (sp3 K mg bY)) : FnOk P w K mg base CX0 2 f fd ["_law_tree_here", "_law_draws_here", "_law_start"] (sp3 K mg bp) := by
 refine fg (N := ["_law_tree_here", "_law_draws_here", "_law_start", "_law_found", "_law_k", "_law_number", "_law_size"]) (k := 1) (body := cO) rfl rfl rfl F cx fun cdv A outer s H E hr => ?_
 unfold cO;exact (af (aw (i := 3) cx.nd rfl (Or.inl rfl) (bQ aj))
   (af (cR rfl PassesOwn.never (gf rfl T.z_range (aZ aD aW rfl T.z_len PySem.boot_len (ab (aa 0) aj))) (av (i := 4) cx.nd rfl (Or.inl rfl)) (af (aw (i := 5) cx.nd rfl (Or.inl rfl) (ay aq ax (aa 1) (ao aC aF (aa 2) (aa 4)) (fun _ _ => rfl)))
   (af (aw (i := 6) cx.nd rfl (Or.inl rfl) (aZ (tP rfl) (fun _ => yk) rfl T.z_max PyProof.Rows.boot_max (ab ag (ab (ao aC aF (ao bJ cQ (ao cA (fun _ => dG) (aZ aD aW rfl T.z_len PySem.boot_len (ab (ay aq ax (ay aq ax (aa 0) (aa 4) (fun _ _ => rfl)) ag (fun _ _ => rfl)) aj)) ag) ag) (ao b8 (fun _ => b7) (aa 5) ag)) aj))))
   (ar (fu 3 (bP (e8 (ab (ay aq ax (ay aq ax (aa 0) (aa 4) (fun _ _ => rfl)) ag (fun _ _ => rfl)) (ab (bP (aK G__law_letters (hr.mono (by decide)) rfl D__law_letters.g D__law_letters.F.kp D__law_letters.b bH (ab (ao cA (fun _ => dG) (aa 5) ag) (ab (aa 6) aj)))) (ab (ao aC aF ag (ao b8 (fun _ => b7) (ao cA (fun _ => dG) (aa 5) ag) ag)) aj))))))))))
   (ar (eG 3))))
theorem mR {f : Addr} {fd : FuncData} (F : Fun K "_law_apart" "_law_apart" bL f fd) (T : Txt K mg) {f__law_levels : Addr} {fd__law_levels : FuncData} (D__law_levels : Def K mg "_law_levels" bK ["_law_tree_here"] f__law_levels fd__law_levels) (G__law_levels : FnOk P w K mg base CX0 1 f__law_levels fd__law_levels ["_law_tree_here"] (sp3 K mg dJ)) : FnOk P w K mg base CX0 2 f fd ["_law_tree_here", "_law_places", "_law_gap"] (sp3 K mg ef) := by
 refine fg (N := ["_law_tree_here", "_law_places", "_law_gap", "_law_wide", "_law_level", "_law_one", "_law_other", "_law_least"]) (k := 1) (body := fJ) rfl rfl rfl F dA fun cdv A outer s H E hr => ?_
 unfold fJ;exact (af (aw (i := 3) dA.nd rfl (Or.inr rfl) (bP (cW (sc := (ai bL)) (outs := []) (is := [0]) ["_law_row"] ⟨rfl, rfl, by decide +kernel, by decide +kernel, by decide +kernel, trivial⟩ rfl (by decide) (cM (aa 0)) (fun _ _ _ _ _ => (av (i := 0) (show List.Nodup (["_law_row"] : List Str) by decide +kernel) rfl (Or.inl rfl))) (fun _ _ _ _ _ => cX) (fun _ _ _ _ _ => (ao cA (fun _ => dG) (aZ aD aW rfl T.z_len PySem.boot_len (ab (ay aq ax (aa 0) ag (fun _ _ => rfl)) aj)) ag)))))
   (af (cR rfl PassesOwn.never (cM (aK G__law_levels (hr.mono (by decide)) rfl D__law_levels.g D__law_levels.F.kp D__law_levels.b bH (ab (aa 0) aj))) (av (i := 4) dA.nd rfl (Or.inl rfl)) (ar (cR rfl PassesOwn.never (lI rfl T.z_zip (kH gF iT (aa 4) gH (gG (fS d8 (fun _ => d7) ag))) (kH gF iT (aa 4) (gG ag) gH)) (gj (n := 2) rfl (aR (av (i := 5) dA.nd rfl (Or.inl rfl)) (aR (av (i := 6) dA.nd rfl (Or.inl rfl)) e6))) (af (aw (i := 7) dA.nd rfl (Or.inl rfl) (ao bJ cQ ag (ao aC aF (ao aC aF (ao aC aF (ay aq ax (aa 3) (aa 5) (fun _ _ => rfl)) (ay aq ax (aa 3) (aa 6) (fun _ _ => rfl))) (aa 2)) ag)))
   (ar (eZ (bz vy (fun _ => vK) (ao fO (fun _ => fP) (ay aq ax (aa 1) (aa 6) (fun _ _ => rfl)) (ay aq ax (aa 1) (aa 5) (fun _ _ => rfl))) (aa 7) (ba _)) (ar (bN jt)) b_))))))
   (ar (bN (qy (eI hr.units) f7 (aZ (i7 _ rfl rfl) kX rfl T.z_min PyProof.Rows.boot_min (ab (cW (sc := (ai bL)) (outs := [(1, "_law_places"), (3, "_law_wide")]) (is := [0]) ["_law_k"] ⟨rfl, rfl, by decide +kernel, by decide +kernel, by decide +kernel, ⟨⟨rfl, rfl⟩, ⟨rfl, rfl⟩, trivial⟩⟩ rfl (by decide) (gf rfl T.z_range (aZ aD aW rfl T.z_len PySem.boot_len (ab (aa 0) aj))) (fun _ _ _ _ _ => (av (i := 0) (show List.Nodup (["_law_k", "_law_places", "_law_wide"] : List Str) by decide +kernel) rfl (Or.inl rfl))) (fun _ _ _ _ _ => cX) (fun _ _ _ _ _ => (ao fO (fun _ => fP) (ay aq ax (aa 1) (aa 0) (fun _ _ => rfl)) (ao bJ cQ ag (ay aq ax (aa 2) (aa 0) (fun _ _ => rfl)))))) aj)) ag (ba _))))))
theorem mE {f : Addr} {fd : FuncData} (F : Fun K "_law_alike" "_law_alike" bh f fd) (T : Txt K mg) {f__law_key : Addr} {fd__law_key : FuncData} (D__law_key : Def K mg "_law_key" dn ["_law_tree_here", "_law_some", "_law_node", "_law_turned"] f__law_key fd__law_key) (G__law_key : FnOk P w K mg base CX0 1 f__law_key fd__law_key ["_law_tree_here", "_law_some", "_law_node", "_law_turned"] (sp3 K mg di)) : FnOk P w K mg base CX0 2 f fd ["_law_tree_here", "_law_some", "_law_places"] (sp3 K mg d9) := by
 refine fg (N := ["_law_tree_here", "_law_some", "_law_places", "_law_wide", "_law_steps", "_law_keys", "_law_others", "_law_j", "_law_k"]) (k := 1) (body := fH) rfl rfl rfl F cT fun cdv A outer s H E hr => ?_
 unfold fH;exact (af (gO (i := 3) (sc := (ai bh)) (outs := [(1, "_law_some")]) (is := [0]) ["_law_k"] (fun _ _ _ q => mI q) cT.nd rfl (Or.inl rfl) ⟨rfl, rfl, by decide +kernel, by decide +kernel, by decide +kernel, ⟨⟨rfl, rfl⟩, trivial⟩⟩ rfl (by decide) (gf rfl T.z_range (aZ aD aW rfl T.z_len PySem.boot_len (ab (aa 0) aj))) (fun _ _ _ _ _ => (av (i := 0) (show List.Nodup (["_law_k", "_law_some"] : List Str) by decide +kernel) rfl (Or.inl rfl))) (fun _ _ _ _ _ => (kB (bz rG (fun _ => rQ) (aZ aD aW rfl T.z_len PySem.boot_len (ab (ay aq ax (aa 1) (aa 0) (fun _ _ => rfl)) aj)) ag (ba _)))) (fun _ _ _ _ _ => (aa 0)))
   (af (vL (i := 4) (sc := (ai bh)) (outs := [(2, "_law_places")]) (is := [0]) ["_law_one"] (fun _ _ _ q => mI q) cT.nd rfl (Or.inl rfl) ⟨rfl, rfl, by decide +kernel, by decide +kernel, by decide +kernel, by decide +kernel, ⟨⟨rfl, rfl⟩, trivial⟩⟩ rfl (by decide) (cM (aa 1)) (fun _ _ _ _ _ => (av (i := 0) (show List.Nodup (["_law_one", "_law_places"] : List Str) by decide +kernel) rfl (Or.inr rfl))) (fun _ _ _ _ _ => cX) (fun _ _ _ _ _ => (bP (cW (sc := _) (outs := [(1, "_law_places"), (0, "_law_one")]) (is := [0]) ["_law_k"] (u6 rfl (by decide +kernel) (by decide +kernel) (by decide +kernel) (show h8 _ _ [(1, "_law_places"), (0, "_law_one")] from ⟨⟨rfl, rfl⟩, ⟨rfl, rfl⟩, trivial⟩)) rfl (by decide) (m_ rfl T.z_range ag (aZ aD aW rfl T.z_len PySem.boot_len (ab (aa 0) aj))) (fun _ _ _ _ _ => (av (i := 0) (show List.Nodup (["_law_k", "_law_places", "_law_one"] : List Str) by decide +kernel) rfl (Or.inl rfl))) (fun _ _ _ _ _ => cX) (fun _ _ _ _ _ => (ao fO (fun _ => fP) (ay aq ax (aa 1) (ay aq ax (aa 2) (aa 0) (fun _ _ => rfl)) (fun _ _ => rfl)) (ay aq ax (aa 1) (ay aq ax (aa 2) (ao fO (fun _ => fP) (aa 0) ag) (fun _ _ => rfl)) (fun _ _ => rfl))))))))
   (af (gO (i := 5) (sc := (ai bh)) (outs := [(0, "_law_tree_here"), (1, "_law_some")]) (is := [0]) ["_law_node"] (fun _ _ _ q => mI q) cT.nd rfl (Or.inl rfl) ⟨rfl, rfl, by decide +kernel, by decide +kernel, by decide +kernel, ⟨⟨rfl, rfl⟩, ⟨rfl, rfl⟩, trivial⟩⟩ rfl (by decide) (cM (aa 3)) (fun _ _ _ _ _ => (av (i := 0) (show List.Nodup (["_law_node", "_law_tree_here", "_law_some"] : List Str) by decide +kernel) rfl (Or.inl rfl))) (fun _ _ _ _ _ => cX) (fun _ _ _ _ _ => (bP (aK G__law_key (hr.mono (by decide)) rfl D__law_key.g D__law_key.F.kp D__law_key.b bH (ab (aa 1) (ab (aa 2) (ab (aa 0) (ab jt aj))))))))
   (af (gO (i := 6) (sc := (ai bh)) (outs := [(0, "_law_tree_here"), (1, "_law_some")]) (is := [0]) ["_law_node"] (fun _ _ _ q => mI q) cT.nd rfl (Or.inl rfl) ⟨rfl, rfl, by decide +kernel, by decide +kernel, by decide +kernel, ⟨⟨rfl, rfl⟩, ⟨rfl, rfl⟩, trivial⟩⟩ rfl (by decide) (cM (aa 3)) (fun _ _ _ _ _ => (av (i := 0) (show List.Nodup (["_law_node", "_law_tree_here", "_law_some"] : List Str) by decide +kernel) rfl (Or.inl rfl))) (fun _ _ _ _ _ => cX) (fun _ _ _ _ _ => (bP (aK G__law_key (hr.mono (by decide)) rfl D__law_key.g D__law_key.F.kp D__law_key.b bH (ab (aa 1) (ab (aa 2) (ab (aa 0) (ab jt aj))))))))
   (af (cR rfl PassesOwn.never (gf rfl T.z_range (aZ aD aW rfl T.z_len PySem.boot_len (ab (aa 3) aj))) (av (i := 7) cT.nd rfl (Or.inl rfl)) (ar (cR rfl PassesOwn.never (gf rfl T.z_range (ao aC aF (aa 7) ag)) (av (i := 8) cT.nd rfl (Or.inl rfl)) (af (eZ (sM (qF (bz (eI hr.units) f7 (ay aq ax (aa 5) (aa 7) (fun _ _ => rfl)) (ay aq ax (aa 5) (aa 8) (fun _ _ => rfl)) (ba _)) (nT (bz (iG hr.units) kJ (ay aq ax (aa 4) (ay aq ax (aa 3) (aa 7) (fun _ _ => rfl)) (fun _ _ => rfl)) (ay aq ax (aa 4) (ay aq ax (aa 3) (aa 8) (fun _ _ => rfl)) (fun _ _ => rfl)) (ba _))))) (ar (bN jt)) b_)
   (ar (eZ (sM (qF (bz (eI hr.units) f7 (ay aq ax (aa 5) (aa 7) (fun _ _ => rfl)) (ay aq ax (aa 6) (aa 8) (fun _ _ => rfl)) (ba _)) (nT (bz (iG hr.units) kJ (ay aq ax (aa 4) (ay aq ax (aa 3) (aa 7) (fun _ _ => rfl)) (fun _ _ => rfl)) (vY (fun v u => [v, u]) (ay aq ax (aa 4) (ay aq ax (aa 3) (aa 8) (fun _ _ => rfl)) (fun _ _ => rfl)) (fS d8 (fun _ => d7) ag)) (ba _))))) (ar (bN jt)) b_))))))
   (ar (bN jt)))))))
theorem qK {f : Addr} {fd : FuncData} (F : Fun K "room_of" "room_of" eN f fd) (T : Txt K mg) {f_earliest_places : Addr} {fd_earliest_places : FuncData} (D_earliest_places : Def K mg "earliest_places" aV ["outlines", "gap"] f_earliest_places fd_earliest_places) (G_earliest_places : FnOk P w K mg base CX0 2 f_earliest_places fd_earliest_places ["outlines", "gap"] (sp3 K mg cn)) {f_latest_places : Addr} {fd_latest_places : FuncData} (D_latest_places : Def K mg "latest_places" bj ["outlines", "gap", "last"] f_latest_places fd_latest_places) (G_latest_places : FnOk P w K mg base CX0 2 f_latest_places fd_latest_places ["outlines", "gap", "last"] (sp3 K mg c7)) : FnOk P w K mg base CX0 3 f fd ["outlines", "gap"] (sp3 K mg gk) := by
 refine fg (N := ["outlines", "gap", "earliest"]) (k := 2) (body := h7) rfl rfl rfl F l4 fun cdv A outer s H E hr => ?_
 unfold h7;exact (af (aw (i := 2) l4.nd rfl (Or.inl rfl) (bP (aK G_earliest_places (hr.mono (by decide)) rfl D_earliest_places.g D_earliest_places.F.kp D_earliest_places.b bH (ab (aa 0) (ab (aa 1) aj)))))
   (ar (bN (e8 (ab (aa 2) (ab (bP (aK G_latest_places (hr.mono (by decide)) rfl D_latest_places.g D_latest_places.F.kp D_latest_places.b bH (ab (aa 0) (ab (aa 1) (ab (ay aq ax (aa 2) (fS d8 (fun _ => d7) ag) (fun _ _ => rfl)) aj))))) aj))))))
theorem ny {f : Addr} {fd : FuncData} (F : Fun K "_law_tree" "_law_tree" cJ f fd) (T : Txt K mg) {f__law_label : Addr} {fd__law_label : FuncData} (D__law_label : Def K mg "_law_label" b9 ["_law_number", "_law_most"] f__law_label fd__law_label) (G__law_label : FnOk P w K mg base CX0 2 f__law_label fd__law_label ["_law_number", "_law_most"] (sp3 K mg bW)) : FnOk P w K mg base CX0 3 f fd ["_law_draws_here", "_law_start", "_law_many", "_law_most", "_law_deep"] (sp3 K mg a7) := by
 refine fg (N := ["_law_draws_here", "_law_start", "_law_many", "_law_most", "_law_deep", "_law_tree_here", "_law_way", "_law_k", "_law_number", "_law_tall", "_law_elder", "_law_keep"]) (k := 2) (body := eV) rfl rfl rfl F aU fun cdv A outer s H E hr => ?_
 unfold eV;exact (af (aw (i := 5) aU.nd rfl (Or.inl rfl) (bQ aj))
   (af (aw (i := 6) aU.nd rfl (Or.inl rfl) (bP (bQ aj)))
   (af (cR rfl PassesOwn.never (gf rfl T.z_range (aa 2)) (av (i := 7) aU.nd rfl (Or.inl rfl)) (af (aw (i := 8) aU.nd rfl (Or.inl rfl) (ay aq ax (aa 0) (ao aC aF (aa 1) (aa 7)) (fun _ _ => rfl)))
   (af (aw (i := 9) aU.nd rfl (Or.inl rfl) (ao aC aF ag (ao b8 (fun _ => b7) (aa 8) ag)))
   (af (aw (i := 8) aU.nd rfl (Or.inl rfl) (ao cA (fun _ => dG) (aa 8) ag))
   (af (aw (i := 10) aU.nd rfl (Or.inl rfl) (fS d8 (fun _ => d7) ag))
   (af (eZ (bz rG (fun _ => rQ) (aa 7) ag (ba _)) (af (aw (i := 11) aU.nd rfl (Or.inl rfl) (ao aC aF ag (ao b8 (fun _ => b7) (aa 8) (aZ aD aW rfl T.z_len PySem.boot_len (ab (aa 6) aj)))))
   (af (eZ (bz (eI hr.units) f7 (ao b8 (fun _ => b7) (ao cA (fun _ => dG) (aa 8) (aZ aD aW rfl T.z_len PySem.boot_len (ab (aa 6) aj))) ag) ag (ba _)) (ar (aw (i := 11) aU.nd rfl (Or.inl rfl) (aZ aD aW rfl T.z_len PySem.boot_len (ab (aa 6) aj)))) b_)
   (af (aw (i := 8) aU.nd rfl (Or.inl rfl) (ao cA (fun _ => dG) (aa 8) (ao bJ cQ ag (aZ aD aW rfl T.z_len PySem.boot_len (ab (aa 6) aj)))))
   (af (aw (i := 6) aU.nd rfl (Or.inl rfl) (bP (kH gF iT (aa 6) gH (gG (aZ (sW rfl) (fun _ => yq) rfl T.z_min PyProof.Rows.boot_min (ab (aa 11) (ab (aa 4) aj)))))))
   (ar (aw (i := 10) aU.nd rfl (Or.inl rfl) (ay aq ax (aa 6) (fS d8 (fun _ => d7) ag) (fun _ _ => rfl)))))))) b_)
   (af (fu 5 (bP (e8 (ab (aa 10) (ab (bP (aK G__law_label (hr.mono (by decide)) rfl D__law_label.g D__law_label.F.kp D__law_label.b bH (ab (aa 8) (ab (aa 3) aj)))) (ab (aa 9) aj))))))
   (ar (aw (i := 6) aU.nd rfl (Or.inl rfl) (bP (ao aC aF (aa 6) (bQ (ab (aa 7) aj)))))))))))))
   (ar (eG 5)))))
theorem kU {f : Addr} {fd : FuncData} (F : Fun K "stands_below" "stands_below" bC f fd) (T : Txt K mg) {f_room_of : Addr} {fd_room_of : FuncData} (D_room_of : Def K mg "room_of" eN ["outlines", "gap"] f_room_of fd_room_of) (G_room_of : FnOk P w K mg base CX0 3 f_room_of fd_room_of ["outlines", "gap"] (sp3 K mg gk)) : FnOk P w K mg base CX0 4 f fd ["outlines", "gap"] (sp3 K mg bg) := by
 refine fg (N := ["outlines", "gap", "room", "elder"]) (k := 3) (body := eA) rfl rfl rfl F fR fun cdv A outer s H E hr => ?_
 unfold eA;exact (af (aw (i := 2) fR.nd rfl (Or.inl rfl) (bP (aK G_room_of (hr.mono (by decide)) rfl D_room_of.g D_room_of.F.kp D_room_of.b bH (ab (aa 0) (ab (aa 1) aj)))))
   (af (aw (i := 3) fR.nd rfl (Or.inr rfl) (ao cA (fun _ => dG) (ay aq ax (ay aq ax (aa 2) ag (fun _ _ => rfl)) (fS d8 (fun _ => d7) ag) (fun _ _ => rfl)) ag))
   (ar (bN (cW (sc := (ai bC)) (outs := [(3, "elder")]) (is := [0, 1]) ["earliest", "latest"] ⟨rfl, rfl, by decide +kernel, by decide +kernel, by decide +kernel, ⟨⟨rfl, rfl⟩, trivial⟩⟩ rfl (by decide) (lI rfl T.z_zip (ay aq ax (aa 2) ag (fun _ _ => rfl)) (ay aq ax (aa 2) ag (fun _ _ => rfl))) (fun _ _ _ _ _ => (gj (n := 2) rfl (aR (av (i := 0) (show List.Nodup (["earliest", "latest", "elder"] : List Str) by decide +kernel) rfl (Or.inl rfl)) (aR (av (i := 1) (show List.Nodup (["earliest", "latest", "elder"] : List Str) by decide +kernel) rfl (Or.inl rfl)) e6)))) (fun _ _ _ _ _ => cX) (fun _ _ _ _ _ => (ao fO (fun _ => fP) (ao cA (fun _ => dG) (ao aC aF (aa 0) (aa 1)) ag) (aa 2))))))))
theorem l7 {f : Addr} {fd : FuncData} (F : Fun K "_law_family" "_law_family" cc f fd) (T : Txt K mg) {f__law_label : Addr} {fd__law_label : FuncData} (D__law_label : Def K mg "_law_label" b9 ["_law_number", "_law_most"] f__law_label fd__law_label) (G__law_label : FnOk P w K mg base CX0 2 f__law_label fd__law_label ["_law_number", "_law_most"] (sp3 K mg bW)) {f__law_tree : Addr} {fd__law_tree : FuncData} (D__law_tree : Def K mg "_law_tree" cJ ["_law_draws_here", "_law_start", "_law_many", "_law_most", "_law_deep"] f__law_tree fd__law_tree) (G__law_tree : FnOk P w K mg base CX0 3 f__law_tree fd__law_tree ["_law_draws_here", "_law_start", "_law_many", "_law_most", "_law_deep"] (sp3 K mg a7)) {f__law_mirror_tree : Addr} {fd__law_mirror_tree : FuncData} (D__law_mirror_tree : Def K mg "_law_mirror_tree" aY ["_law_tree_here"] f__law_mirror_tree fd__law_mirror_tree) (G__law_mirror_tree : FnOk P w K mg base CX0 2 f__law_mirror_tree fd__law_mirror_tree ["_law_tree_here"] (sp3 K mg b5)) {f__law_relabelled : Addr} {fd__law_relabelled : FuncData} (D__law_relabelled : Def K mg "_law_relabelled" a_ ["_law_tree_here", "_law_draws_here", "_law_start"] f__law_relabelled fd__law_relabelled) (G__law_relabelled : FnOk P w K mg base CX0 2 f__law_relabelled fd__law_relabelled ["_law_tree_here", "_law_draws_here", "_law_start"] (sp3 K mg bp)) {f__law_hung : Addr} {fd__law_hung : FuncData} (D__law_hung : Def K mg "_law_hung" dh ["_law_tree_here", "_law_shift"] f__law_hung fd__law_hung) (G__law_hung : FnOk P w K mg base CX0 1 f__law_hung fd__law_hung ["_law_tree_here", "_law_shift"] (sp3 K mg e9)) : FnOk P w K mg base CX0 4 f fd ["_law_draws_here", "_law_start", "_law_many"] (sp3 K mg c_) := by
 refine fg (N := ["_law_draws_here", "_law_start", "_law_many", "_law_part", "_law_tree_here", "_law_k", "_law_bough"]) (k := 3) (body := dW) rfl rfl rfl F bM fun cdv A outer s H E hr => ?_
 unfold dW;exact (af (aw (i := 3) bM.nd rfl (Or.inl rfl) (bP (aK G__law_tree (hr.mono (by decide)) rfl D__law_tree.g D__law_tree.F.kp D__law_tree.b bH (ab (aa 0) (ab (aa 1) (ab (aa 2) (ab ag (ab ag aj))))))))
   (af (aw (i := 4) bM.nd rfl (Or.inl rfl) (bP (bQ (ab (bP (e8 (ab (fS d8 (fun _ => d7) ag) (ab (bP (aK G__law_label (hr.mono (by decide)) rfl D__law_label.g D__law_label.F.kp D__law_label.b bH (ab (ay aq ax (aa 0) (ao aC aF (aa 1) ag) (fun _ _ => rfl)) (ab ag aj)))) (ab (ao aC aF ag (ao b8 (fun _ => b7) (ay aq ax (aa 0) (ao aC aF (aa 1) ag) (fun _ _ => rfl)) ag)) aj))))) aj))))
   (af (cR rfl PassesOwn.never (gf rfl T.z_range (ao aC aF ag (ao b8 (fun _ => b7) (ao cA (fun _ => dG) (ay aq ax (aa 0) (ao aC aF (aa 1) ag) (fun _ _ => rfl)) ag) ag))) (av (i := 5) bM.nd rfl (Or.inl rfl)) (af (aw (i := 6) bM.nd rfl (Or.inl rfl) (bP (aK G__law_relabelled (hr.mono (by decide)) rfl D__law_relabelled.g D__law_relabelled.F.kp D__law_relabelled.b bH (ab (aa 3) (ab (aa 0) (ab (ao aC aF (aa 1) (ao bJ cQ ag (ao aC aF (aa 5) ag))) aj))))))
   (af (eZ (bz (eI hr.units) f7 (ao b8 (fun _ => b7) (ay aq ax (aa 0) (ao aC aF (ao aC aF (aa 1) ag) (aa 5)) (fun _ _ => rfl)) ag) ag (ba _)) (ar (aw (i := 6) bM.nd rfl (Or.inl rfl) (bP (aK G__law_mirror_tree (hr.mono (by decide)) rfl D__law_mirror_tree.g D__law_mirror_tree.F.kp D__law_mirror_tree.b bH (ab (aa 6) aj))))) b_)
   (af (eZ (sM (qF (bz (eI hr.units) f7 (ao b8 (fun _ => b7) (ao cA (fun _ => dG) (ay aq ax (aa 0) (ao aC aF (ao aC aF (aa 1) ag) (aa 5)) (fun _ _ => rfl)) ag) ag) ag (ba _)) (nT (bz rG (fun _ => rQ) (aZ aD aW rfl T.z_len PySem.boot_len (ab (aa 6) aj)) ag (ba _))))) (ar (aw (i := 6) bM.nd rfl (Or.inl rfl) (bP (kH gF iT (aa 6) gH (gG (fS d8 (fun _ => d7) ag)))))) b_)
   (ar (aw (i := 4) bM.nd rfl (Or.inl rfl) (bP (ao aC aF (aa 4) (aK G__law_hung (hr.mono (by decide)) rfl D__law_hung.g D__law_hung.F.kp D__law_hung.b bH (ab (aa 6) (ab (aZ aD aW rfl T.z_len PySem.boot_len (ab (aa 4) aj)) aj)))))))))))
   (ar (bN (aa 4))))))
theorem tQ {f : Addr} {fd : FuncData} (F : Fun K "pieces" "pieces" eg f fd) (T : Txt K mg) {f_children_of : Addr} {fd_children_of : FuncData} (D_children_of : Def K mg "children_of" bI ["tree", "node"] f_children_of fd_children_of) (G_children_of : FnOk P w K mg base CX0 2 f_children_of fd_children_of ["tree", "node"] (sp3 K mg dM)) {f_reaches : Addr} {fd_reaches : FuncData} (D_reaches : Def K mg "reaches" du ["tree"] f_reaches fd_reaches) (G_reaches : FnOk P w K mg base CX0 1 f_reaches fd_reaches ["tree"] (sp3 K mg eJ)) {f_stands_below : Addr} {fd_stands_below : FuncData} (D_stands_below : Def K mg "stands_below" bC ["outlines", "gap"] f_stands_below fd_stands_below) (G_stands_below : FnOk P w K mg base CX0 4 f_stands_below fd_stands_below ["outlines", "gap"] (sp3 K mg bg)) {f_joined_outline : Addr} {fd_joined_outline : FuncData} (D_joined_outline : Def K mg "joined_outline" aL ["outlines", "stands"] f_joined_outline fd_joined_outline) (G_joined_outline : FnOk P w K mg base CX0 1 f_joined_outline fd_joined_outline ["outlines", "stands"] (sp3 K mg bU)) : FnOk P w K mg base CX0 5 f fd ["tree", "gap"] (sp3 K mg hR) := by
 refine fg (N := ["tree", "gap", "offsets", "outlines", "node", "children", "below", "stands", "child", "stand"]) (k := 4) (body := jd) rfl rfl rfl F d5 fun cdv A outer s H E hr => ?_
 unfold jd;exact (af (aw (i := 2) d5.nd rfl (Or.inl rfl) (ao bJ cQ (bQ (ab ag aj)) (aZ aD aW rfl T.z_len PySem.boot_len (ab (aa 0) aj))))
   (af (aw (i := 3) d5.nd rfl (Or.inr rfl) (cW (sc := (ai eg)) (outs := []) (is := [0]) ["reach"] ⟨rfl, rfl, by decide +kernel, by decide +kernel, by decide +kernel, trivial⟩ rfl (by decide) (cM (aK G_reaches (hr.mono (by decide)) rfl D_reaches.g D_reaches.F.kp D_reaches.b bH (ab (aa 0) aj))) (fun _ _ _ _ _ => (av (i := 0) (show List.Nodup (["reach"] : List Str) by decide +kernel) rfl (Or.inl rfl))) (fun _ _ _ _ _ => cX) (fun _ _ _ _ _ => (bQ (ab (bP (e8 (ab (ao bJ cQ (fS d8 (fun _ => d7) (j4 rfl T.c_SHREDS)) (aa 0)) (ab (ao bJ cQ (j4 rfl T.c_SHREDS) (aa 0)) aj)))) aj)))))
   (af (cR rfl PassesOwn.never (y8 rfl T.z_range (ao fO (fun _ => fP) (aZ aD aW rfl T.z_len PySem.boot_len (ab (aa 0) aj)) ag) (fS d8 (fun _ => d7) ag) (fS d8 (fun _ => d7) ag)) (av (i := 4) d5.nd rfl (Or.inl rfl)) (af (aw (i := 5) d5.nd rfl (Or.inl rfl) (bP (aK G_children_of (hr.mono (by decide)) rfl D_children_of.g D_children_of.F.kp D_children_of.b bH (ab (aa 0) (ab (aa 4) aj)))))
   (ar (eZ (bz rG (fun _ => rQ) (aZ aD aW rfl T.z_len PySem.boot_len (ab (aa 5) aj)) ag (ba _)) (af (wQ 3 5 (zm (sc := (ai eg)) (i := 3) (c := 5) (bi := 6) ⟨rfl, rfl, by decide +kernel, by decide +kernel, by decide +kernel, ⟨⟨rfl, rfl⟩, trivial⟩⟩ d5.nd rfl (Or.inl rfl) rfl rfl (by first | exact Or.inl rfl | exact Or.inr (Or.inl rfl) | exact Or.inr (Or.inr rfl)) (fun _ _ _ _ _ => rT (show List.Nodup (["child", "outlines"] : List Str) by decide +kernel) rfl (Or.inl rfl)) (fun _ _ _ _ _ hK => r9 (lF _ hK) (gx rfl (by first | exact Or.inl rfl | exact Or.inr (Or.inl rfl) | exact Or.inr (Or.inr rfl))) (gx rfl (by first | exact Or.inl rfl | exact Or.inr (Or.inl rfl) | exact Or.inr (Or.inr rfl))) (fun _ _ => rfl))))
   (af (aw (i := 7) d5.nd rfl (Or.inl rfl) (bP (aK G_stands_below (hr.mono (by decide)) rfl D_stands_below.g D_stands_below.F.kp D_stands_below.b bH (ab (aa 6) (ab (aa 1) aj)))))
   (af (cR rfl PassesOwn.never (lI rfl T.z_zip (aa 5) (aa 7)) (gj (n := 2) rfl (aR (av (i := 8) d5.nd rfl (Or.inl rfl)) (aR (av (i := 9) d5.nd rfl (Or.inl rfl)) e6))) (ar (qI 2 (aa 8) (aa 9))))
   (ar (ve 3 (aa 4) (aK G_joined_outline (hr.mono (by decide)) rfl D_joined_outline.g D_joined_outline.F.kp D_joined_outline.b bH (ab (aa 6) (ab (aa 7) aj))) (fun _ _ => rfl)))))) b_))))
   (ar (kq 3 (kq 2 (bN (e8 (ab (aa 2) (ab (aa 3) aj))))))))))
theorem j8 {f : Addr} {fd : FuncData} (F : Fun K "_law_some_tree" "_law_some_tree" bo f fd) (T : Txt K mg) {f__law_tree : Addr} {fd__law_tree : FuncData} (D__law_tree : Def K mg "_law_tree" cJ ["_law_draws_here", "_law_start", "_law_many", "_law_most", "_law_deep"] f__law_tree fd__law_tree) (G__law_tree : FnOk P w K mg base CX0 3 f__law_tree fd__law_tree ["_law_draws_here", "_law_start", "_law_many", "_law_most", "_law_deep"] (sp3 K mg a7)) {f__law_family : Addr} {fd__law_family : FuncData} (D__law_family : Def K mg "_law_family" cc ["_law_draws_here", "_law_start", "_law_many"] f__law_family fd__law_family) (G__law_family : FnOk P w K mg base CX0 4 f__law_family fd__law_family ["_law_draws_here", "_law_start", "_law_many"] (sp3 K mg c_)) : FnOk P w K mg base CX0 5 f fd ["_law_draws_here"] (sp3 K mg b6) := by
 refine fg (N := ["_law_draws_here", "_law_cell"]) (k := 4) (body := cV) rfl rfl rfl F gM fun cdv A outer s H E hr => ?_
 unfold cV;exact (af (aw (i := 1) gM.nd rfl (Or.inl rfl) (ay aq ax (aa 0) ag (fun _ _ => rfl)))
   (af (eZ (bz (eI hr.units) f7 (ao b8 (fun _ => b7) (aa 1) ag) ag (ba _)) (ar (bN (aK G__law_family (hr.mono (by decide)) rfl D__law_family.g D__law_family.F.kp D__law_family.b bH (ab (aa 0) (ab ag (ab (ao aC aF ag (ao b8 (fun _ => b7) (ao cA (fun _ => dG) (aa 1) ag) ag)) aj)))))) b_)
   (af (eZ (bz (eI hr.units) f7 (ao b8 (fun _ => b7) (aa 1) ag) ag (ba _)) (ar (bN (aK G__law_tree (hr.mono (by decide)) rfl D__law_tree.g D__law_tree.F.kp D__law_tree.b bH (ab (aa 0) (ab ag (ab (ao aC aF ag (ao b8 (fun _ => b7) (ao cA (fun _ => dG) (aa 1) ag) ag)) (ab ag (ab ag aj)))))))) b_)
   (ar (bN (aK G__law_tree (hr.mono (by decide)) rfl D__law_tree.g D__law_tree.F.kp D__law_tree.b bH (ab (aa 0) (ab ag (ab (ao aC aF ag (ao b8 (fun _ => b7) (ao cA (fun _ => dG) (aa 1) ag) ag)) (ab ag (ab ag aj)))))))))))
theorem uj {f : Addr} {fd : FuncData} (F : Fun K "drawn" "drawn" gP f fd) (T : Txt K mg) {f_moved_to_side : Addr} {fd_moved_to_side : FuncData} (D_moved_to_side : Def K mg "moved_to_side" a8 ["tree", "places", "unit"] f_moved_to_side fd_moved_to_side) (G_moved_to_side : FnOk P w K mg base CX0 2 f_moved_to_side fd_moved_to_side ["tree", "places", "unit"] (sp3 K mg c9)) {f_pieces : Addr} {fd_pieces : FuncData} (D_pieces : Def K mg "pieces" eg ["tree", "gap"] f_pieces fd_pieces) (G_pieces : FnOk P w K mg base CX0 5 f_pieces fd_pieces ["tree", "gap"] (sp3 K mg hR)) : FnOk P w K mg base CX0 6 f fd ["tree", "gap"] (sp3 K mg g9) := by
 refine fg (N := ["tree", "gap", "offsets", "places", "node"]) (k := 5) (body := jM) rfl rfl rfl F jU fun cdv A outer s H E hr => ?_
 unfold jM;exact (af (aw (i := 2) jU.nd rfl (Or.inl rfl) (ay aq ax (aK G_pieces (hr.mono (by decide)) rfl D_pieces.g D_pieces.F.kp D_pieces.b bH (ab (aa 0) (ab (aa 1) aj))) ag (fun _ _ => rfl)))
   (af (aw (i := 3) jU.nd rfl (Or.inl rfl) (bQ (ab ag aj)))
   (af (cR rfl PassesOwn.never (m_ rfl T.z_range ag (aZ aD aW rfl T.z_len PySem.boot_len (ab (aa 0) aj))) (av (i := 4) jU.nd rfl (Or.inl rfl)) (ar (fu 3 (kF (ao aC aF (ay aq ax (aa 3) (ay aq ax (ay aq ax (aa 0) (aa 4) (fun _ _ => rfl)) ag (fun _ _ => rfl)) (fun _ _ => rfl)) (ay aq ax (aa 2) (aa 4) (fun _ _ => rfl)))))))
   (ar (kq 3 (bN (aK G_moved_to_side (hr.mono (by decide)) rfl D_moved_to_side.g D_moved_to_side.F.kp D_moved_to_side.b bH (ab (aa 0) (ab (aa 3) (ab (j4 rfl T.c_SHREDS) aj))))))))))
theorem mF {f : Addr} {fd : FuncData} (F : Fun K "_law_draws" "_law_draws" cP f fd) (T : Txt K mg) (S : wD P base) : FnOk P w K mg base CX0 34 f fd ["_law_script", "_law_many"] (sp3 K mg dC) := by
 refine fg (N := ["_law_script", "_law_many", "_law_cells", "_law_found", "_law_left", "_law_k", "_law_at", "_law_cell", "_law_one", "_law_other"]) (k := 33) (body := fF) rfl rfl rfl F bu fun cdv A outer s H E hr => ?_
 unfold fF;exact (af (aw (i := 2) bu.nd rfl (Or.inl rfl) (bP (ao aC aF (kH gF iT (aa 0) gH (gG ag)) (ao bJ cQ (bQ (ab ag aj)) (vx tW (fun _ => wV) rfl T.z_int vW (ab (qy (eI hr.units) f7 (aa 0) (bQ aj) (ba _)) aj))))))
   (af (aw (i := 3) bu.nd rfl (Or.inl rfl) (bQ aj))
   (af (eZ (bz (eI hr.units) f7 (ao b8 (fun _ => b7) (ay aq ax (aa 2) ag (fun _ _ => rfl)) ag) ag (ba _)) (af (aw (i := 4) bu.nd rfl (Or.inl rfl) (ao aC aF (bQ (ab (ao (uB S (hr.mono (by decide)) rfl rfl rfl rfl rfl) (fun _ => vZ) (ay aq ax (aa 2) ag (fun _ _ => rfl)) ag) aj)) (kH gF iT (aa 2) (gG ag) gH)))
   (af (cR rfl PassesOwn.never (gf rfl T.z_range (aa 1)) (av (i := 5) bu.nd rfl (Or.inl rfl)) (af (aw (i := 6) bu.nd rfl (Or.inl rfl) (kF (ao b8 (fun _ => b7) (aa 5) (aZ aD aW rfl T.z_len PySem.boot_len (ab (aa 4) aj)))))
   (af (fu 3 (kF (ao b8 (fun _ => b7) (ay aq ax (aa 4) (aa 6) (fun _ _ => rfl)) (ao u5 (fun _ => vG) ag ag))))
   (ar (qI 4 (aa 6) (kF (ao (uB S (hr.mono (by decide)) rfl rfl rfl rfl rfl) (fun _ => vZ) (ay aq ax (aa 4) (aa 6) (fun _ _ => rfl)) (ao u5 (fun _ => vG) ag ag))))))))
   (ar (eG 3)))) b_)
   (af (cR rfl PassesOwn.never (gf rfl T.z_range (aa 1)) (av (i := 5) bu.nd rfl (Or.inl rfl)) (af (aw (i := 7) bu.nd rfl (Or.inl rfl) (ay aq ax (aa 2) (ao b8 (fun _ => b7) (aa 5) (aZ aD aW rfl T.z_len PySem.boot_len (ab (aa 2) aj))) (fun _ _ => rfl)))
   (af (aw (i := 8) bu.nd rfl (Or.inl rfl) (ao b8 (fun _ => b7) (ao aC aF (ao aC aF (ao aC aF (ao bJ cQ (aa 7) ag) (ao bJ cQ (ao bJ cQ (aa 5) (aa 5)) ag)) (ao bJ cQ ag (aa 5))) ag) ag))
   (af (aw (i := 9) bu.nd rfl (Or.inl rfl) (ao b8 (fun _ => b7) (ao aC aF (ao bJ cQ (aa 8) (aa 8)) (ao bJ cQ (aa 5) ag)) ag))
   (ar (fu 3 (ao aC aF (ao bJ cQ (ao b8 (fun _ => b7) (ao bJ cQ (aa 8) (aa 9)) ag) ag) (aa 9))))))))
   (ar (eG 3))))))
theorem Bf {f : Addr} {fd : FuncData} (F : Fun K "law" "law" jr f fd) (T : Txt K mg) {f_drawn : Addr} {fd_drawn : FuncData} (D_drawn : Def K mg "drawn" gP ["tree", "gap"] f_drawn fd_drawn) (G_drawn : FnOk P w K mg base CX0 6 f_drawn fd_drawn ["tree", "gap"] (sp3 K mg g9)) {f__law_draws : Addr} {fd__law_draws : FuncData} (D__law_draws : Def K mg "_law_draws" cP ["_law_script", "_law_many"] f__law_draws fd__law_draws) (G__law_draws : FnOk P w K mg base CX0 34 f__law_draws fd__law_draws ["_law_script", "_law_many"] (sp3 K mg dC)) {f__law_some_tree : Addr} {fd__law_some_tree : FuncData} (D__law_some_tree : Def K mg "_law_some_tree" bo ["_law_draws_here"] f__law_some_tree fd__law_some_tree) (G__law_some_tree : FnOk P w K mg base CX0 5 f__law_some_tree fd__law_some_tree ["_law_draws_here"] (sp3 K mg b6)) {f__law_whole : Addr} {fd__law_whole : FuncData} (D__law_whole : Def K mg "_law_whole" cI ["_law_found"] f__law_whole fd__law_whole) (G__law_whole : FnOk P w K mg base CX0 1 f__law_whole fd__law_whole ["_law_found"] (sp3 K mg eh)) {f__law_children : Addr} {fd__law_children : FuncData} (D__law_children : Def K mg "_law_children" bc ["_law_tree_here"] f__law_children fd__law_children) (G__law_children : FnOk P w K mg base CX0 1 f__law_children fd__law_children ["_law_tree_here"] (sp3 K mg c8)) {f__law_apart : Addr} {fd__law_apart : FuncData} (D__law_apart : Def K mg "_law_apart" bL ["_law_tree_here", "_law_places", "_law_gap"] f__law_apart fd__law_apart) (G__law_apart : FnOk P w K mg base CX0 2 f__law_apart fd__law_apart ["_law_tree_here", "_law_places", "_law_gap"] (sp3 K mg ef)) {f__law_alike : Addr} {fd__law_alike : FuncData} (D__law_alike : Def K mg "_law_alike" bh ["_law_tree_here", "_law_some", "_law_places"] f__law_alike fd__law_alike) (G__law_alike : FnOk P w K mg base CX0 2 f__law_alike fd__law_alike ["_law_tree_here", "_law_some", "_law_places"] (sp3 K mg d9)) : FnOk P w K mg base CX0 35 f fd ["_law_script"] (sp3 K mg ma) := by
 refine fg (N := ["_law_script", "_law_draws_here", "_law_tree_here", "_law_gap", "_law_handed", "_law_places", "_law_some", "_law_k", "_law_both", "_law_held"]) (k := 34) (body := nS) rfl rfl rfl F gS fun cdv A outer s H E hr => ?_
 unfold nS;exact (af (aw (i := 1) gS.nd rfl (Or.inl rfl) (bP (aK G__law_draws (hr.mono (by decide)) rfl D__law_draws.g D__law_draws.F.kp D__law_draws.b bH (ab (aa 0) (ab ag aj)))))
   (af (aw (i := 2) gS.nd rfl (Or.inl rfl) (bP (aK G__law_some_tree (hr.mono (by decide)) rfl D__law_some_tree.g D__law_some_tree.F.kp D__law_some_tree.b bH (ab (aa 1) aj))))
   (af (aw (i := 3) gS.nd rfl (Or.inl rfl) (ao aC aF ag (ao b8 (fun _ => b7) (ay aq ax (aa 1) ag (fun _ _ => rfl)) ag)))
   (af (aw (i := 4) gS.nd rfl (Or.inl rfl) (bP (vx (m5 _ rfl) uR rfl T.z_list nJ (ab (aa 2) aj))))
   (af (aw (i := 5) gS.nd rfl (Or.inl rfl) (aK G_drawn (hr.mono (by decide)) rfl D_drawn.g D_drawn.F.kp D_drawn.b bH (ab (aa 4) (ab (aa 3) aj))))
   (af (eZ (kA (sM (rP (oG (l_ (ql rfl T.z_isinstance rfl T.z_list nJ (aa 5)))) (rP (bz (iG hr.units) kJ (aZ aD aW rfl T.z_len PySem.boot_len (ab (aa 5) aj)) (aZ aD aW rfl T.z_len PySem.boot_len (ab (aa 2) aj)) (ba _)) (qx (bz (iG hr.units) kJ (aa 4) (aa 2) (ba _))))))) (ar (bN jt)) b_)
   (af (eZ (kA (sM (rP (bz (iG hr.units) kJ (aZ aD aW rfl T.z_len PySem.boot_len (ab (cW (sc := (ai jr)) (outs := []) (is := [0]) ["_law_place"] ⟨rfl, rfl, by decide +kernel, by decide +kernel, by decide +kernel, trivial⟩ rfl (by decide) (cM (aa 5)) (fun _ _ _ _ _ => (av (i := 0) (show List.Nodup (["_law_place"] : List Str) by decide +kernel) rfl (Or.inl rfl))) (fun _ _ _ _ _ => (kB (l_ (aK G__law_whole (hr.mono (by decide)) rfl D__law_whole.g D__law_whole.F.kp D__law_whole.b bH (ab (aa 0) aj))))) (fun _ _ _ _ _ => (aa 0))) aj)) (aZ aD aW rfl T.z_len PySem.boot_len (ab (aa 2) aj)) (ba _)) (qx (oG (l_ (aK G__law_apart (hr.mono (by decide)) rfl D__law_apart.g D__law_apart.F.kp D__law_apart.b bH (ab (aa 2) (ab (aa 5) (ab (aa 3) aj)))))))))) (ar (bN jt)) b_)
   (af (aw (i := 6) gS.nd rfl (Or.inl rfl) (bP (aK G__law_children (hr.mono (by decide)) rfl D__law_children.g D__law_children.F.kp D__law_children.b bH (ab (aa 2) aj))))
   (af (cR rfl PassesOwn.never (gf rfl T.z_range (aZ aD aW rfl T.z_len PySem.boot_len (ab (aa 2) aj))) (av (i := 7) gS.nd rfl (Or.inl rfl)) (af (eZ (bz (eI hr.units) f7 (ay aq ax (aa 6) (aa 7) (fun _ _ => rfl)) (bQ aj) (ba _)) (ar xy) b_)
   (af (aw (i := 8) gS.nd rfl (Or.inl rfl) (kF (ao aC aF (ay aq ax (aa 5) (ay aq ax (ay aq ax (aa 6) (aa 7) (fun _ _ => rfl)) ag (fun _ _ => rfl)) (fun _ _ => rfl)) (ay aq ax (aa 5) (ay aq ax (ay aq ax (aa 6) (aa 7) (fun _ _ => rfl)) (fS d8 (fun _ => d7) ag) (fun _ _ => rfl)) (fun _ _ => rfl)))))
   (ar (eZ (kA (bz (iG hr.units) kJ (ao bJ cQ ag (ay aq ax (aa 5) (aa 7) (fun _ _ => rfl))) (aa 8) (ba _))) (ar (bN jt)) b_)))))
   (af (eZ (kA (oG (l_ (aK G__law_alike (hr.mono (by decide)) rfl D__law_alike.g D__law_alike.F.kp D__law_alike.b bH (ab (aa 2) (ab (aa 6) (ab (aa 5) aj))))))) (ar (bN jt)) b_)
   (af (aw (i := 9) gS.nd rfl (Or.inl rfl) (bP (xQ (vx (m5 _ rfl) uR rfl T.z_list nJ (ab (aa 5) aj)))))
   (af (fu 5 ag)
   (ar (bN (qy (eI hr.units) f7 (aK G_drawn (hr.mono (by decide)) rfl D_drawn.g D_drawn.F.kp D_drawn.b bH (ab (aa 2) (ab (aa 3) aj))) (aa 9) (ba _))))))))))))))))
end
theorem xS {gap : Int} {O : List Ol} {es ls st : List Int} (h : IsSt gap O es ls st) {p q : Nat} (hpq : p < q) (hq : q < O.length) : gv st p + dO gap O p q ≤ gv st q := by
 have e := (h.isE.2 q (by lia) hq).1 p hpq
 have l := (h.isL.2 p (by lia)).1 q hpq hq
 rw [h.eq p (by lia), h.eq q hq]
 lia
theorem xm {gap : Int} {a b : Ol} {l : Nat} {p q : Int × Int} (h1 : a[l]? = some p) (h2 : b[l]? = some q) : p.2 + 256 * (gap + 1) - q.1 ≤ dist gap a b := by
 rw [kZ];have hg := wG (gap := gap) h1 h2;have hm := List.mem_of_getElem? hg;exact (eM (fun z => by rw [z] at hm; cases hm)).2 _ hm
theorem sub_lt {ts : List Nd} {c : F} (p : PT ts c) {j a b x y l m : Nat} (ha : a ∈ chN ts j) (hb : b ∈ chN ts j) (hab : a < b) (hx : Dn ts a l x) (hy : Dn ts b m y) : x < y := by
 have he := bx p;obtain ⟨a1, a2⟩ := cw.mp ha;obtain ⟨b1, b2⟩ := cw.mp hb;have ja := (fk he ha).1;obtain ⟨s, q0, q1, q2, q4⟩ := yb p a1;have hx' := uZ he q4 (Nat.le_refl a) (by lia) hx
 have hy' := (qR he b1 hy).2.1;have : ¬ b ≤ a + s := fun z => by
  have := q2 b hab z;rw [b2] at this;lia
 lia
theorem uY {ts : List Nd} {c : F} (p : PT ts c) (gap : Int) (hl : ts.length ≤ 100) : ∀ (L j x y : Nat), j < ts.length → Dn ts j L x → Dn ts j L y → x < y → pos ts gap x + 256 * (gv (aX ts) x + gv (aX ts) y + gap + 1) ≤ pos ts gap y
 | 0, j, x, y, _, hx, hy, hxy => by
  have hx : x = j := hx;have hy : y = j := hy;lia
 | L + 1, j, x, y, hj, ⟨a, ha, hx⟩, ⟨b, hb, hy⟩, hxy => by
  have he := bx p;have h0 := F.Pf.pos p;by_cases hab : a = b
  ·subst hab
   exact uY p gap hl L a x y (cw.mp ha).1 hx hy hxy
  ·have lt : a < b := by
    rcases Nat.lt_or_ge a b with z | z
    ·exact z
    ·have := sub_lt p hb ha (by lia) hy hx
     lia
   obtain ⟨u, hu, eu⟩ := List.getElem_of_mem ha;obtain ⟨v, hv, ev⟩ := List.getElem_of_mem hb;have gu : (chN ts j)[u]? = some a := by rw [List.getElem?_eq_getElem hu, eu]
   have gw : (chN ts j)[v]? = some b := by rw [List.getElem?_eq_getElem hv, ev]
   have uv : u < v := by
    rcases Nat.lt_trichotomy u v with z | z | z
    ·exact z
    ·subst z
     rw [eu] at ev;exact absurd ev hab
    ·have := List.pairwise_iff_getElem.mp (CY ts j) v u hv hu z
     rw [eu, ev] at this;lia
   have hc : chN ts j ≠ [] := fun z => by rw [z] at ha; cases ha
   have hO := i9 gap he h0 hl hc;obtain ⟨⟨es, ls, hst⟩, _⟩ := jH (gap := gap) hO;have ol : ((chN ts j).map (outF ts gap)).length = (chN ts j).length := List.length_map _;have k1 := xS hst uv (by lia)
   have a1 := (cw.mp ha).1;have b1 := (cw.mp hb).1;have oa := n6 gap he h0 hl (ts.length - a) a (by lia) a1
   have ob := n6 gap he h0 hl (ts.length - b) b (by lia) b1
   have la : L < (outF ts gap a).length := (oa.len L).mpr ⟨x, hx⟩;have lb : L < (outF ts gap b).length := (ob.len L).mpr ⟨y, hy⟩;have ga : (outF ts gap a)[L]? = some (outF ts gap a)[L] := List.getElem?_eq_getElem la;have gb : (outF ts gap b)[L]? = some (outF ts gap b)[L] := List.getElem?_eq_getElem lb;have ha2 := (oa.hi L _ ga).2 x hx;have hb2 := (ob.lo L _ gb).2 y hy;have dd : dO gap ((chN ts j).map (outF ts gap)) u v = dist gap (outF ts gap a) (outF ts gap b) := by
    unfold dO;rw [List.getElem?_map, List.getElem?_map, gu, gw];rfl
   have dg := xm (gap := gap) ga gb;rw [dd] at k1;have pa := fA gap he h0 hl hj gu;have pb := fA gap he h0 hl hj gw;lia
theorem q_ {ts : List Nd} (he : EL ts) (h0 : 0 < ts.length) {k : Nat} (hk : k < ts.length) : Dn ts 0 (lvN ts k) k := by
 obtain ⟨l, hd⟩ := zy he (j := 0) (s := ts.length - 1) (by lia) (fun q h1 h2 => by
  obtain ⟨n, hn⟩ : ∃ n, ts[q]? = some n := ⟨ts[q]'(by lia), by simp⟩
  rw [bZ hn];exact (he q n hn).2.1 h1) k (by lia) (by lia)
 have := (qR he h0 hd).1;rw [iP he h0, Nat.zero_add] at this;rw [this];exact hd
theorem tZ {ts : List Nd} {c : F} (p : PT ts c) (gap : Int) (hl : ts.length ≤ 100) {x y : Nat} (hx : x < ts.length) (hy : y < ts.length) (hxy : x < y) (e : lvN ts x = lvN ts y) : pos ts gap x + 256 * (gv (aX ts) x + gv (aX ts) y + gap + 1) ≤ pos ts gap y := by
 have he := bx p;have h0 := F.Pf.pos p;have dx := q_ he h0 hx;have dy := q_ he h0 hy;rw [← e] at dy;exact uY p gap hl _ 0 x y h0 dx dy hxy
theorem sr {ts : List Nd} {c : F} (p : PT ts c) (gap : Int) (hl : ts.length ≤ 100) (hd : Dp ts 8) {k a b : Nat} (hk : k < ts.length) (ha : (chN ts k)[0]? = some a) (hb : (chN ts k)[(chN ts k).length - 1]? = some b) : 2 * pos ts gap k = pos ts gap a + pos ts gap b := by
 have he := bx p;have h0 := F.Pf.pos p;have hc : chN ts k ≠ [] := fun z => by rw [z] at ha; cases ha
 have hO := i9 gap he h0 hl hc;obtain ⟨⟨es, ls, hst⟩, _⟩ := jH (gap := gap) hO;have ol : ((chN ts k).map (outF ts gap)).length = (chN ts k).length := List.length_map _;have n0 : 0 < (chN ts k).length := List.length_pos_iff.mpr hc;have hm := Aj gap he h0 hl hd hk;obtain ⟨sd, _⟩ := qp (D := 1) hst hO (fun o ho => hm o ho) ⟨128, by decide⟩
 have z1 : gv es 0 = 0 := hst.isE.1;have z2 : gv ls 0 = 0 := pC (by lia) hst.isE hst.isL rfl
 have z3 : gv ls ((chN ts k).length - 1) = gv es ((chN ts k).length - 1) := by
  have := hst.isL.1;rw [ol] at this;exact this
 have e0 := hst.eq 0 (by lia)
 have e1 := hst.eq ((chN ts k).length - 1) (by lia)
 have pa := fA gap he h0 hl hk ha;have pb := fA gap he h0 hl hk hb;rw [ol] at e0 e1;rw [z1, z2] at e0;rw [z3] at e1;have ev := (sd ((chN ts k).length - 1) (by lia)).1
 rw [pa, pb, e0, e1];lia
theorem xn {r : List Nat} {i : Nat} {d : PyData} (h : (ku (d6 r).dropLast ((d6 r).drop 1))[i]? = some d) : ∃ a b, r[i]? = some a ∧ r[i + 1]? = some b ∧ d = .tuple [.int (a : Int), .int (b : Int)] := by
 obtain ⟨x, y, hx, hy, rfl⟩ := lW h;have hx : (d6 r)[i]? = some x := by
  rw [List.getElem?_dropLast] at hx;split at hx
  ·exact hx
  ·cases hx
 rw [List.getElem?_drop] at hy;unfold d6 at hx hy;rw [List.getElem?_map] at hx hy;obtain ⟨a, ha, rfl⟩ := Option.map_eq_some_iff.mp hx;obtain ⟨b, hb, rfl⟩ := Option.map_eq_some_iff.mp hy;rw [Nat.add_comm] at hb;exact ⟨a, b, ha, hb, rfl⟩
theorem kE (ts : List Nd) : (aX ts).length = ts.length := by unfold aX; rw [List.length_map]
theorem vI {ts : List Nd} {c : F} (p : PT ts c) (gap : Int) (hl : ts.length ≤ 100) (hlab : ∀ n ∈ ts, n.l.length ≤ 1000) : ef [.list (au ts), .list ((drw ts gap).map PyData.int), .int gap] = .ok (.sh (.bool true)) := by
 unfold ef fJ;have he := bx p;have h0 := F.Pf.pos p;have ok := j7 he ts.length (Nat.le_refl _);have dl := nE (ts := ts) (gap := gap) h0;push_cast only [and_self];generalize hC : bb _ _ _ _ _ _ = rc
 have e := c6 hC ndD (fun n : Nd => .sh (.int ((n.l.length : Int) / 2))) ts rfl (of_eq_true (aP (by lia))) (by
  intro n hn;have := aP (hlab n hn);push_cast only [ndD, this])
 subst e;clear hC;have ec : (ts.map fun n : Nd => OD.sh (.int ((n.l.length : Int) / 2))).map OD.er = (aX ts).map PyData.int := by
  unfold aX;rw [List.map_map, List.map_map];exact List.map_congr_left fun n _ => cZ _
 push_cast only [ec, mM ts he h0 hl, aT];generalize eQ (lvs ts) ts.length = nums at ok ⊢
 generalize hL : bE _ _ _ _ = r'
 refine cC hL (fun i ρ => ∃ v4 v5 v6 v7 : Option OD, ρ = [some (.sh (.list (au ts))), some (.sh (.list ((drw ts gap).map PyData.int))), some (.sh (.int gap)), some (.sh (.list ((aX ts).map PyData.int))), v4, v5, v6, v7]) ⟨_, _, _, _, rfl⟩ ?_ ?_
 ·rintro i d ρ hd ⟨v4, v5, v6, v7, rfl⟩
  unfold xF at hd;rw [List.getElem?_map] at hd;obtain ⟨r, hr, rfl⟩ := Option.map_eq_some_iff.mp hd;obtain ⟨r1, r2, r3⟩ := ok.row i r hr;have rl : 1 ≤ r.length := by
   cases r with
   | nil => exact absurd rfl r1
   | cons a b => simp
  have c1 : cutD (d6 r) (some 1) none = (d6 r).drop 1 := jW (d6 r) 1 (by rw [j5]; exact rl)
  have c2 : cutD (d6 r) none (some (-1)) = (d6 r).dropLast := oK (d6 r) (by rw [j5]; exact rl)
  push_cast only [c1, c2, aT];generalize hL2 : bE _ _ _ _ = rr2
  refine cC hL2 (fun p ρ => ∃ v5 v6 v7 : Option OD, ρ = [some (.sh (.list (au ts))), some (.sh (.list ((drw ts gap).map PyData.int))), some (.sh (.int gap)), some (.sh (.list ((aX ts).map PyData.int))), some (.sh (.list (d6 r))), v5, v6, v7]) ⟨_, _, _, rfl⟩ ?_ ?_
  ·rintro m d ρ hd ⟨v5, v6, v7, rfl⟩
   obtain ⟨a, b, ha, hb, rfl⟩ := xn hd;obtain ⟨la, va⟩ := (r3 a).mp (List.mem_of_getElem? ha);obtain ⟨lb, vb⟩ := (r3 b).mp (List.mem_of_getElem? hb);have hab : a < b := by
    obtain ⟨i1, e1⟩ := List.getElem?_eq_some_iff.mp ha;obtain ⟨i2, e2⟩ := List.getElem?_eq_some_iff.mp hb;have := List.pairwise_iff_getElem.mp r2 m (m + 1) i1 i2 (by lia)
    rw [e1, e2] at this;exact this
   have g1 := cE (st := drw ts gap) (j := a) (by lia)
   have g2 := cE (st := drw ts gap) (j := b) (by lia)
   have g3 := cE (st := aX ts) (j := a) (by rw [kE]; lia)
   have g4 := cE (st := aX ts) (j := b) (by rw [kE]; lia)
   have cm : gq 256 (gv (aX ts) a + gv (aX ts) b + gap + 1) = true := sH (by decide) (by decide)
   have gp := tZ p gap hl la lb hab (by
    unfold lvN;rw [va, vb])
   have bad : decide (gv (drw ts gap) b - gv (drw ts gap) a < 256 * (gv (aX ts) a + gv (aX ts) b + gap + 1)) = false := decide_eq_false (by
    rw [ip h0 la, ip h0 lb];lia)
   push_cast only [g1, g2, g3, g4, cm, bad];exact ⟨_, _, _, rfl⟩
  ·rintro ρ' rfl ⟨v5, v6, v7, rfl⟩
   push_cast only [and_self];exact ⟨_, _, _, _, rfl⟩
 ·rintro ρ' rfl ⟨v4, v5, v6, v7, rfl⟩
  have s2 : aB (ts.length : Int) = true := eT (by lia) (by lia)
  push_cast only [aI, s2];generalize hC : bb _ _ _ _ _ _ = rc
  have e := c6 hC (fun k : Nat => PyData.int (k : Int)) (fun k => .sh (.int (gv (drw ts gap) k - 256 * gv (aX ts) k))) (List.range ts.length) (by
   rw [Int.toNat_natCast];unfold ik;exact List.map_congr_left fun k _ => by rw [Int.zero_add]) (by rw [List.length_range]; exact of_eq_true (aP (by lia))) (by
   intro k hk;rw [List.mem_range] at hk;have g1 := cE (st := drw ts gap) (j := k) (by lia)
   have g3 := cE (st := aX ts) (j := k) (by rw [kE]; lia)
   have cm : gq 256 (gv (aX ts) k) = true := sH (by decide) (by decide)
   push_cast only [g1, g3, cm])
  subst e;clear hC;have em : ((List.range ts.length).map fun k => OD.sh (.int (gv (drw ts gap) k - 256 * gv (aX ts) k))).map OD.er = ((List.range ts.length).map fun k => gv (drw ts gap) k - 256 * gv (aX ts) k).map PyData.int := by
   rw [List.map_map, List.map_map];exact List.map_congr_left fun n _ => cZ _
  have hne : (List.range ts.length).map (fun k => gv (drw ts gap) k - 256 * gv (aX ts) k) ≠ [] := fun z => by
   have := congrArg List.length z;rw [List.length_map, List.length_range, List.length_nil] at this;lia
  have hne2 : (List.range ts.length).map (fun k => pos ts gap k - 256 * gv (aX ts) k) ≠ [] := fun z => by
   have := congrArg List.length z;rw [List.length_map, List.length_range, List.length_nil] at this;lia
  have mz : jz ((List.range ts.length).map fun k => gv (drw ts gap) k - 256 * gv (aX ts) k) = 0 := by
   obtain ⟨m1, m2⟩ := fX hne;obtain ⟨n1, n2⟩ := fX hne2;obtain ⟨k, hk, ek⟩ := List.mem_map.mp n1;obtain ⟨j, hj, ej⟩ := List.mem_map.mp m1;rw [List.mem_range] at hk hj;have a1 := m2 _ (List.mem_map.mpr ⟨k, List.mem_range.mpr hk, rfl⟩);have a2 := n2 _ (List.mem_map.mpr ⟨j, List.mem_range.mpr hj, rfl⟩);rw [ip h0 hk] at a1;rw [ip h0 hj] at ej;have lp : lS ts gap = jz ((List.range ts.length).map fun k => pos ts gap k - 256 * gv (aX ts) k) := rfl
   rw [← lp] at ek a2;lia
  have gm := lT hne;rw [mz] at gm;push_cast only [em, gm]
noncomputable def d_ : F → Int → Nat → List (Int × Nat)
 | F.nil, _, _ => []
 | F.cons k c r, p, n => (p, k) :: (d_ c (n : Int) (n + 1) ++ d_ r p (n + 1 + (F.pre c).length))
theorem kY : ∀ (f : F) (p : Int) (n : Nat), (d_ f p n).length = (F.pre f).length
 | F.nil, _, _ => rfl
 | F.cons k c r, p, n => by
  rw [d_, F.pre, List.length_cons, List.length_cons, List.length_append, List.length_append, kY c, kY r]
theorem nF : ∀ (f : F) (p : Int) (n : Nat) (x : Int × Nat), x ∈ d_ f p n → x.1 = p ∨ (n : Int) ≤ x.1
 | F.nil, _, _, x, h => by cases h
 | F.cons k c r, p, n, x, h => by
  rw [d_] at h;rcases List.mem_cons.mp h with rfl | h
  ·exact .inl rfl
  ·rcases List.mem_append.mp h with h | h
   ·rcases nF c _ _ x h with z | z
    ·exact .inr (by lia)
    ·exact .inr (by lia)
   ·rcases nF r _ _ x h with z | z
    ·exact .inl z
    ·exact .inr (by lia)
theorem oO : ∀ (f : F) (p : Int) (n : Nat) (x : Int × Nat), (d_ f p n).head? = some x → x.1 = p
 | F.nil, _, _, x, h => by cases h
 | F.cons k c r, p, n, x, h => by
  rw [d_, List.head?_cons] at h;cases h;rfl
theorem qh {α : Type} (Q : α → Prop) : ∀ {A A' B B' : List α}, (∀ x ∈ A, Q x) → (∀ x ∈ A', Q x) → (∀ x, B.head? = some x → ¬ Q x) → (∀ x, B'.head? = some x → ¬ Q x) → A ++ B = A' ++ B' → A = A' ∧ B = B'
 | [], [], B, B', _, _, _, _, h => ⟨rfl, h⟩
 | [], a' :: A', B, B', _, h2, h3, _, h => by
  have h : B = a' :: (A' ++ B') := h;exact absurd (h2 a' List.mem_cons_self) (h3 a' (by rw [h]; rfl))
 | a :: A, [], B, B', h1, _, _, h4, h => by
  have h : a :: (A ++ B) = B' := h;exact absurd (h1 a List.mem_cons_self) (h4 a (by rw [← h]; rfl))
 | a :: A, a' :: A', B, B', h1, h2, h3, h4, h => by
  rw [List.cons_append, List.cons_append] at h;obtain ⟨e1, e2⟩ := List.cons.inj h;obtain ⟨e3, e4⟩ := qh Q (fun x hx => h1 x (List.mem_cons_of_mem _ hx)) (fun x hx => h2 x (List.mem_cons_of_mem _ hx)) h3 h4 e2
  exact ⟨by rw [e1, e3], e4⟩
theorem og : ∀ (f g : F) (p : Int) (n : Nat), p < (n : Int) → d_ f p n = d_ g p n → f = g
 | F.nil, F.nil, _, _, _, _ => rfl
 | F.nil, F.cons _ _ _, _, _, _, h => by rw [d_, d_] at h; cases h
 | F.cons _ _ _, F.nil, _, _, _, h => by rw [d_, d_] at h; cases h
 | F.cons k c r, F.cons k' c' r', p, n, hp, h => by
  rw [d_, d_] at h;obtain ⟨e1, e2⟩ := List.cons.inj h;have ek : k = k' := congrArg Prod.snd e1;obtain ⟨a1, a2⟩ := qh (fun x : Int × Nat => (n : Int) ≤ x.1)
   (fun x hx => by rcases nF c _ _ x hx with z | z <;> lia) (fun x hx => by rcases nF c' _ _ x hx with z | z <;> lia)
   (fun x hx => by have := oO r _ _ x hx; lia) (fun x hx => by have := oO r' _ _ x hx; lia) e2
  have ec := og c c' _ _ (by lia) a1
  subst ec;have er := og r r' _ _ (by lia) a2
  rw [ek, er]
theorem p7 (h : Nat → Nat) (f : F) : (F.pre (F.map h f)).length = (F.pre f).length := by rw [F.jc, List.length_map]
theorem lj (h : Nat → Nat) : ∀ (f : F) (p : Int) (n : Nat), d_ (F.map h f) p n = (d_ f p n).map fun x => (x.1, h x.2)
 | F.nil, _, _ => rfl
 | F.cons k c r, p, n => by
  rw [F.map, d_, d_, List.map_cons, List.map_append, lj h c, lj h r, p7]
noncomputable def o4 (gap : Int) : F → List Ol
 | F.nil => []
 | F.cons k c r => ([(-256 * (k : Int), 256 * (k : Int))] ++ (if F.roots c = [] then [] else jo (o4 gap c) (stF gap (o4 gap c)))) :: o4 gap r
noncomputable def rN (ts : List Nd) (k : Nat) : Nat := (gv (aX ts) k).toNat
theorem Cu {ts : List Nd} {k : Nat} : ((rN ts k : Nat) : Int) = gv (aX ts) k := by
 unfold rN;have : 0 ≤ gv (aX ts) k := by
  unfold gv aX;rw [List.getElem?_map];cases ts[k]? with
  | none => exact Int.le_refl _
  | some n => exact Int.ediv_nonneg (by lia) (by decide)
 lia
theorem i_ {ts : List Nd} (gap : Int) (he : EL ts) (h0 : 0 < ts.length) (hl : ts.length ≤ 100) : ∀ f : F, F.Con (chN ts) f → (∀ k ∈ F.pre f, k < ts.length) → (F.roots f).map (outF ts gap) = o4 gap (F.map (rN ts) f)
 | F.nil, _, _ => rfl
 | F.cons k c r, ⟨h1, h2, h3⟩, hk => by
  have ihc := i_ gap he h0 hl c h2 fun q hq => hk q (by rw [F.pre]; simp [hq])
  have ihr := i_ gap he h0 hl r h3 fun q hq => hk q (by rw [F.pre]; simp [hq])
  rw [F.roots, List.map_cons, F.map, o4, ihr, gL gap he h0 hl (hk k (by rw [F.pre]; simp)), h1, ihc]
  have e1 : F.roots (F.map (rN ts) c) = (F.roots c).map (rN ts) := F.gn _ _;unfold ini;rw [e1, Cu];by_cases hc : F.roots c = []
  ·rw [if_pos hc, if_pos (by rw [hc]; rfl)]
  ·rw [if_neg hc, if_neg (fun z => hc (List.map_eq_nil_iff.mp z))]
theorem jy {ch : Nat → List Nat} : ∀ (f : F), F.Con ch f → ∀ a ∈ F.pre f, ∃ d, ch a = F.roots d ∧ F.Con ch d ∧ (∀ k ∈ F.pre d, k ∈ F.pre f) ∧ (F.pre d).length ≤ (F.pre f).length
 | F.nil, _, a, h => by cases h
 | F.cons k c r, ⟨h1, h2, h3⟩, a, h => by
  rw [F.pre] at h;rcases List.mem_cons.mp h with rfl | h
  ·exact ⟨c, h1, h2, fun k hk => by rw [F.pre]; simp [hk], by rw [F.pre, List.length_cons, List.length_append]; lia⟩
  ·rcases List.mem_append.mp h with h | h
   ·obtain ⟨d, d1, d2, d3, d4⟩ := jy c h2 a h
    exact ⟨d, d1, d2, fun k hk => by rw [F.pre]; simp [d3 k hk], by rw [F.pre, List.length_cons, List.length_append]; lia⟩
   ·obtain ⟨d, d1, d2, d3, d4⟩ := jy r h3 a h
    exact ⟨d, d1, d2, fun k hk => by rw [F.pre]; simp [d3 k hk], by rw [F.pre, List.length_cons, List.length_append]; lia⟩
theorem oW {ts : List Nd} {c : F} (p : PT ts c) {a : Nat} (ha : a < ts.length) : ∃ d, chN ts a = F.roots d ∧ F.Con (chN ts) d ∧ (∀ k ∈ F.pre d, k < ts.length) ∧ (F.pre d).length ≤ ts.length := by
 obtain ⟨d, d1, d2, d3, d4⟩ := jy (F.full c) (F.Pf.con p) a (by rw [F.Pf.preF p, List.mem_range]; exact ha)
 rw [F.Pf.preF p, List.length_range] at d4;refine ⟨d, d1, d2, fun k hk => ?_, d4⟩
 have := d3 k hk;rw [F.Pf.preF p, List.mem_range] at this;exact this
theorem lg {ch : Nat → List Nat} : ∀ f : F, F.Con ch f → F.Con (fun k => (ch k).reverse) (F.mir f)
 | F.nil, _ => trivial
 | F.cons k c r, ⟨h1, h2, h3⟩ => by
  rw [F.mir];exact (F.j0 _ _).mpr ⟨lg r h3, by rw [F.hV, ← h1], lg c h2, trivial⟩
theorem lG {ts : List Nd} {c : F} (p : PT ts c) : ∀ f : F, F.Con (fun k => (chN ts k).reverse) f → (∀ k ∈ F.pre f, k < ts.length) → F.Con (chN (dP ts c)) (F.map (F.g c) f)
 | F.nil, _, _ => trivial
 | F.cons k d r, ⟨h1, h2, h3⟩, hk => by
  refine ⟨?_, lG p d h2 fun q hq => hk q (by rw [F.pre]; simp [hq]), lG p r h3 fun q hq => hk q (by rw [F.pre]; simp [hq])⟩
  rw [k6 p (hk k (by rw [F.pre]; simp)), F.gn, ← h1]
theorem map_two {h g k : Nat → Nat} : ∀ f : F, (∀ q ∈ F.pre f, h (g q) = k q) → F.map h (F.map g f) = F.map k f
 | F.nil, _ => rfl
 | F.cons q c r, e => by
  rw [F.map, F.map, F.map, e q (by rw [F.pre]; simp), map_two c fun x hx => e x (by rw [F.pre]; simp [hx]), map_two r fun x hx => e x (by rw [F.pre]; simp [hx])]
theorem kO {f : F} {k : Nat} (h : k ∈ F.pre (F.mir f)) : k ∈ F.pre f := by
 rw [F.iU] at h;exact (F.fw f).mem_iff.mp h
theorem tN {ts : List Nd} {c : F} (p : PT ts c) (gap : Int) (hl : ts.length ≤ 100) {a b : Nat} {da db : F} (a1 : chN ts a = F.roots da) (a2 : F.Con (chN ts) da) (a3 : ∀ k ∈ F.pre da, k < ts.length) (b1 : chN ts b = F.roots db) (b2 : F.Con (chN ts) db) (b3 : ∀ k ∈ F.pre db, k < ts.length)
  (h : F.map (rN ts) da = F.map (rN ts) db) : (chN ts a).map (outF ts gap) = (chN ts b).map (outF ts gap) := by
 have he := bx p;have h0 := F.Pf.pos p;rw [a1, b1, i_ gap he h0 hl da a2 a3, i_ gap he h0 hl db b2 b3, h]
theorem tX {ts : List Nd} {c : F} (p : PT ts c) (gap : Int) (hl : ts.length ≤ 100) (hd : Dp ts 8) {a b : Nat} {da db : F} (hb : b < ts.length) (a1 : chN ts a = F.roots da) (a2 : F.Con (chN ts) da) (a3 : ∀ k ∈ F.pre da, k < ts.length) (b1 : chN ts b = F.roots db) (b2 : F.Con (chN ts) db) (b3 : ∀ k ∈ F.pre db, k < ts.length)
  (h : F.map (rN ts) da = F.map (rN ts) (F.mir db)) : (chN ts a).map (outF ts gap) = cB ((chN ts b).map (outF ts gap)) := by
 have he := bx p;have h0 := F.Pf.pos p;have pm := jR p;have ml := gZ p;have m3 : ∀ k ∈ F.pre (F.mir db), k < ts.length := fun k hk => b3 k (kO hk)
 have cm := lG p (F.mir db) (lg db b2) m3;have e1 : F.map (rN (dP ts c)) (F.map (F.g c) (F.mir db)) = F.map (rN ts) (F.mir db) := map_two _ fun q hq => by
  unfold rN;rw [qT p (m3 q hq)]
 have e2 := i_ gap (bx pm) (by lia) (by lia) _ cm (fun k hk => by
  rw [F.jc] at hk;obtain ⟨q, hq, rfl⟩ := List.mem_map.mp hk;rw [ml];exact F.Pf.g_lt p (m3 q hq))
 rw [e1, ← h] at e2;rw [a1, i_ gap he h0 hl da a2 a3, ← e2, F.gn, F.hV, ← b1, ← k6 p hb];exact (xr p gap hl hd (ts.length - b) b (by lia) hb).2
structure Wt where
 k : Nat
 c : F
 p : Int
noncomputable def gA : F → Int → List Wt
 | F.nil, _ => []
 | F.cons k c r, i => ⟨k, c, i⟩ :: gA r i
noncomputable def encL : List Wt → Nat → List (Int × Nat)
 | [], _ => []
 | w :: r, n => (w.p, w.k) :: (d_ w.c (n : Int) (n + 1) ++ encL r (n + 1 + (F.pre w.c).length))
noncomputable def szL : List Wt → Nat
 | [] => 0
 | w :: r => 1 + (F.pre w.c).length + szL r
theorem qe : ∀ (c : F) (i : Int) (r : List Wt) (n : Nat), encL (gA c i ++ r) n = d_ c i n ++ encL r (n + (F.pre c).length)
 | F.nil, _, _, _ => rfl
 | F.cons k c d, i, r, n => by
  rw [gA, List.cons_append, encL, qe d, d_, List.cons_append, List.append_assoc, F.pre, List.length_cons, List.length_append];show (i, k) :: (d_ c (n : Int) (n + 1) ++ (d_ d i (n + 1 + (F.pre c).length) ++ encL r (n + 1 + (F.pre c).length + (F.pre d).length))) = _
  rw [show n + 1 + (F.pre c).length + (F.pre d).length = n + ((F.pre c).length + (F.pre d).length + 1) by lia]
theorem nR : ∀ (c : F) (i : Int) (r : List Wt), szL (gA c i ++ r) = (F.pre c).length + szL r
 | F.nil, _, r => by
  show szL r = 0 + szL r
  lia
 | F.cons k c d, i, r => by
  rw [gA, List.cons_append, szL, nR d, F.pre, List.length_cons, List.length_append];show 1 + (F.pre c).length + _ = _
  lia
noncomputable def pairD (x : Nat × Int) : PyData := .tuple [.int (x.1 : Int), .int x.2]
noncomputable def cD (L : List Wt) : List PyData := (L.map fun w => pairD (w.k, w.p)).reverse
noncomputable def jj (ts : List Nd) (es : List (Int × Nat)) : List PyData := es.map fun x => .tuple [.int x.1, .int (gv (aX ts) x.2)]
theorem oY : ∀ (L : List Wt) (n : Nat), (encL L n).length = szL L
 | [], _ => rfl
 | w :: r, n => by
  rw [encL, List.length_cons, List.length_append, kY, oY r, szL];lia
theorem uo : ∀ L : List Wt, L.length ≤ szL L
 | [] => Nat.le_refl _
 | x :: r => by
  have := uo r;show r.length + 1 ≤ 1 + (F.pre x.c).length + szL r
  lia
noncomputable def zK (ch : Nat → List Nat) (n : Nat) (w : Wt) : Prop := ch w.k = F.roots w.c ∧ F.Con ch w.c ∧ w.k < n ∧ ∀ q ∈ F.pre w.c, q < n
theorem pY {ch : Nat → List Nat} {n : Nat} : ∀ (c : F) (i : Int), F.Con ch c → (∀ q ∈ F.pre c, q < n) → ∀ w ∈ gA c i, zK ch n w
 | F.nil, _, _, _, w, h => by cases h
 | F.cons k c d, i, ⟨h1, h2, h3⟩, hq, w, h => by
  rw [gA] at h;rcases List.mem_cons.mp h with rfl | h
  ·exact ⟨h1, h2, hq k (by rw [F.pre]; simp), fun q z => hq q (by rw [F.pre]; simp [z])⟩
  ·exact pY d i h3 (fun q z => hq q (by rw [F.pre]; simp [z])) w h
theorem lV : ∀ (c : F) (i : Int), (gA c i).map (fun w => pairD (w.k, w.p)) = (F.roots c).map fun k => pairD (k, i)
 | F.nil, _ => rfl
 | F.cons k c d, i => by
  rw [gA, F.roots, List.map_cons, List.map_cons, lV d]
theorem t8 {a : PyData} {as : List PyData} {n : Nat} (h : lay n (.list (a :: as))) (hn : n ≤ 64) : gNe (.list (a :: as)) (.list []) = .ok (.sh (.bool true)) := by
 unfold gNe;rw [gz];unfold gW;rw [bX h hn, show SeqAt.shaped (.list []) = true from bX (lay_ints []) (by decide), Bool.and_self, if_pos rfl]
 have : PyData.eqv (.list (a :: as)) (.list []) = false := by unfold PyData.eqv PyData.eqvAll; rfl
 rw [this];rfl
theorem tH (L : List Wt) : lay 2 (.list (cD L)) := iQ fun x hx => by
 unfold cD at hx;rw [List.mem_reverse] at hx;obtain ⟨w, _, rfl⟩ := List.mem_map.mp hx;exact ko fun y hy => by
  simp only [List.mem_cons, List.not_mem_nil, or_false] at hy;rcases hy with rfl | rfl
  ·exact ij _
  ·exact ij _
noncomputable def chS (ts : List Nd) (turned : Bool) (k : Nat) : List Nat := if turned then (chN ts k).reverse else chN ts k
theorem um {ts : List Nd} (hl : ts.length ≤ 40) (hlab : ∀ n ∈ ts, n.l.length ≤ 1000) (turned : Bool) (some_ : List PyData) (hs : ∀ k, k < ts.length → atI some_ (k : Int) = some (.list (nD (chN ts k)))) {a : Nat} {c : F} (ha : a < ts.length) (h1 : chS ts turned a = F.roots c) (h2 : F.Con (chS ts turned) c) (h3 : ∀ q ∈ F.pre c, q < ts.length) (hsz : (F.pre c).length ≤ 100) :
  di [.list (au ts), .list some_, .int (a : Int), .bool turned] = .ok (.ol ((jj ts (d_ (F.cons a c F.nil) (-1) 0)).map OD.sh)) := by
 unfold di gN;push_cast only [and_self];generalize hL : gh _ _ _ = r
 have e0 : encL [⟨a, c, -1⟩] 0 = d_ (F.cons a c F.nil) (-1) 0 := rfl;refine sf hL (fun m ρ => ∃ (L : List Wt) (o : List (Int × Nat)) (v6 v7 v8 : Option OD), szL L = m ∧ m ≤ 101 ∧ o.length ≤ 101 ∧ (∀ w ∈ L, zK (chS ts turned) ts.length w) ∧ o ++ encL L o.length = d_ (F.cons a c F.nil) (-1) 0 ∧ ρ = [some (.sh (.list (au ts))), some (.sh (.list some_)), some (.sh (.int (a : Int))), some (.sh (.bool turned)), some (.ol ((jj ts o).map OD.sh)), some (.ol ((cD L).map OD.sh)), v6, v7, v8])
  (szL [⟨a, c, -1⟩]) ⟨[⟨a, c, -1⟩], [], _, _, _, rfl, by show 1 + (F.pre c).length + 0 ≤ 101; lia, by simp, fun w hw => ?_, by rw [← e0]; rfl, rfl⟩
  (fun ρ => ∃ v5 v6 v7 v8 : Option OD, ρ = [some (.sh (.list (au ts))), some (.sh (.list some_)), some (.sh (.int (a : Int))), some (.sh (.bool turned)), some (.ol ((jj ts (d_ (F.cons a c F.nil) (-1) 0)).map OD.sh)), v5, v6, v7, v8]) ?_ ?_
 ·have : w = ⟨a, c, -1⟩ := by simpa using hw
  subst this;exact ⟨h1, h2, ha, h3⟩
 ·rintro m ρ ⟨L, o, v6, v7, v8, hm, hm2, ol, hc, ho, rfl⟩
  cases L with
  | nil =>
   left
   have ge : gNe (.list (cD [])) (.list []) = .ok (.sh (.bool false)) := iM (lay_ints []);rw [encL, List.append_nil] at ho;subst ho;constructor
   ·push_cast only [aT, ge]
   ·exact ⟨_, _, _, _, rfl⟩
  | cons w L =>
   right
   obtain ⟨w1, w2, w3, w4⟩ := hc w List.mem_cons_self;have sd : cD (w :: L) = cD L ++ [pairD (w.k, w.p)] := by
    unfold cD;rw [List.map_cons, List.reverse_cons]
   have ge : gNe (.list (cD (w :: L))) (.list []) = .ok (.sh (.bool true)) := by
    have hx : ∃ x xs, cD (w :: L) = x :: xs := by
     cases h : cD (w :: L) with
     | nil =>
      rw [sd] at h;simp at h
     | cons x xs => exact ⟨x, xs, rfl⟩
    obtain ⟨x, xs, e⟩ := hx;have := tH (w :: L);rw [e] at this ⊢;exact t8 this (by decide)
   constructor
   ·push_cast only [aT, ge]
   ·obtain ⟨nd, hn⟩ : ∃ nd, ts[w.k]? = some nd := ⟨ts[w.k], by simp [w3]⟩
    have g1 := f6 hn;have lb0 := aP (hlab nd (List.mem_of_getElem? hn));have g2 := hs w.k w3;have rc : (nd.l.length : Int) / 2 = gv (aX ts) w.k := by
     unfold gv aX;rw [List.getElem?_map, hn];rfl
    have lb1 : ((jj ts o).length < BIG) = True := by unfold jj; rw [List.length_map]; exact eK (by lia)
    have ks : (jj ts o).map OD.sh ++ [OD.sh (.tuple [.int w.p, .int (gv (aX ts) w.k)])] = (jj ts (o ++ [(w.p, w.k)])).map OD.sh := by
     unfold jj;rw [List.map_append, List.map_append];rfl
    have prt : ∀ x, turned = x → (if x then nD (chN ts w.k) else (nD (chN ts w.k)).reverse) = nD (F.roots w.c).reverse := fun x hx => by
     rw [← w1];unfold chS;subst hx;cases turned with
     | true =>
      rw [if_pos rfl, if_pos rfl, List.reverse_reverse]
     | false =>
      rw [if_neg Bool.false_ne_true, if_neg Bool.false_ne_true];unfold nD iL;rw [List.map_reverse, List.map_reverse]
    have szw : szL (w :: L) = 1 + (F.pre w.c).length + szL L := rfl;have Ll : L.length ≤ szL L := uo L;have rl := F.lr w.c;have kl : (jj ts (o ++ [(w.p, w.k)])).length = o.length + 1 := by unfold jj; rw [List.length_map, List.length_append]; rfl
    have sl : (cD L).length = L.length := by unfold cD; rw [List.length_reverse, List.length_map]
    have cat : cD L ++ (F.roots w.c).reverse.map (fun k => pairD (k, (o.length : Int))) = cD (gA w.c (o.length : Int) ++ L) := by
     unfold cD;rw [List.map_append, List.reverse_append, lV, List.map_reverse (l := F.roots w.c)]
    have b1 : ∀ v6 v7 : Option OD, lA 4 (eOp bB (ae 5) (bT (fZ (ae 8)) (gNm 0) dt (iz (ah (ae 0) (ah (eOp eO (eB cH (ah (ae 1) az)) (eC (.int 1))) az))) 1 [4])) [some (.sh (.list (au ts))), some (.sh (.list some_)), some (.sh (.int (a : Int))), some (.sh (.bool turned)), some (.ol ((jj ts (o ++ [(w.p, w.k)])).map OD.sh)), some (.sh (.list (cD L))), v6, v7, some (.sh (.list (nD (F.roots w.c).reverse)))] = .ok (.ol ((cD (gA w.c (o.length : Int) ++ L)).map OD.sh)) := fun v6 v7 => by
     refine zQ 4 _ _ rfl ?_ ?_ ?_
     ·show ((jj ts (o ++ [(w.p, w.k)])).map OD.sh).all x3 = true
      rw [List.all_eq_true];intro x hx;obtain ⟨d, hd, rfl⟩ := List.mem_map.mp hx;rfl
     ·push_cast only [jL, aT]
      generalize hC : bb _ _ _ _ _ _ = rc
      have e := c6 hC (fun k : Nat => PyData.int (k : Int)) (fun k => .sh (pairD (k, (o.length : Int)))) (F.roots w.c).reverse (by unfold nD iL; rw [List.map_map]; rfl) (by rw [List.length_reverse]; exact of_eq_true (aP (by lia))) (by
       intro k hk;have e1 : ((o.length + 1 : Nat) : Int) - 1 = (o.length : Int) := by lia
       push_cast only [kl, e1, pairD])
      subst e;clear hC;have em : ((F.roots w.c).reverse.map fun k => OD.sh (pairD (k, (o.length : Int)))).map OD.er = (F.roots w.c).reverse.map fun k => pairD (k, (o.length : Int)) := by
       rw [List.map_map];exact List.map_congr_left fun k _ => cZ _
      have lb2 : ((cD L).length + (F.roots w.c).reverse.length ≤ BIG) = True := aP (by rw [sl, List.length_reverse]; lia)
      push_cast only [em, lb2, cat]
     ·show ((cD (gA w.c (o.length : Int) ++ L)).map OD.sh).all wN = true
      rw [List.all_eq_true];intro x hx;obtain ⟨d, hd, rfl⟩ := List.mem_map.mp hx;unfold cD at hd;rw [List.mem_reverse] at hd;obtain ⟨z, _, rfl⟩ := List.mem_map.mp hd;rfl
    have done : ∀ v6 v7 v8 : Option OD, ∃ m', m' < m ∧ ∃ (L' : List Wt) (o' : List (Int × Nat)) (v6' v7' v8' : Option OD), szL L' = m' ∧ m' ≤ 101 ∧ o'.length ≤ 101 ∧ (∀ w ∈ L', zK (chS ts turned) ts.length w) ∧ o' ++ encL L' o'.length = d_ (F.cons a c F.nil) (-1) 0 ∧ [some (OD.sh (.list (au ts))), some (.sh (.list some_)), some (.sh (.int (a : Int))), some (.sh (.bool turned)), some (.ol ((jj ts (o ++ [(w.p, w.k)])).map OD.sh)), some (.ol ((cD (gA w.c (o.length : Int) ++ L)).map OD.sh)), v6, v7, v8] = [some (OD.sh (.list (au ts))), some (.sh (.list some_)), some (.sh (.int (a : Int))), some (.sh (.bool turned)), some (.ol ((jj ts o').map OD.sh)), some (.ol ((cD L').map OD.sh)), v6', v7', v8'] := fun v6 v7 v8 => by
     refine ⟨szL (gA w.c (o.length : Int) ++ L), by rw [nR]; lia, gA w.c (o.length : Int) ++ L, o ++ [(w.p, w.k)], v6, v7, v8, rfl, by rw [nR]; lia, ?_, fun z hz => ?_, ?_, rfl⟩
     ·have := congrArg List.length ho
      rw [List.length_append, oY, kY, F.pre, List.length_cons, List.length_append, szw] at this;rw [List.length_append];show o.length + 1 ≤ 101
      have e3 : (F.pre F.nil).length = 0 := rfl;lia
     ·rcases List.mem_append.mp hz with hz | hz
      ·exact pY w.c _ w2 w4 z hz
      ·exact hc z (List.mem_cons_of_mem _ hz)
     ·rw [qe, List.length_append, List.append_assoc]
      exact ho
    rw [sd, List.map_append];cases turned with
    | true =>
     have pt : nD (chN ts w.k) = nD (F.roots w.c).reverse := prt true rfl;rw [pt] at g2;push_cast only [rE, List.map_cons, List.map_nil, pairD, g1, lb0, rc, lb1, ks, g2, aT, b1];exact done _ _ _
    | false =>
     have pt : (nD (chN ts w.k)).reverse = nD (F.roots w.c).reverse := prt false rfl;have crev : ∀ x4 x5 x6 x7 : Option OD, pR (ae 8) (eUn fK (eC (.int 1))) [some (.sh (.list (au ts))), some (.sh (.list some_)), some (.sh (.int (a : Int))), some (.sh (.bool false)), x4, x5, x6, x7, some (.sh (.list (nD (chN ts w.k))))] = .ok (.ol ((nD (F.roots w.c).reverse).map OD.sh)) := fun x4 x5 x6 x7 => by
      show R.ok (OD.ol ((nD (chN ts w.k)).reverse.map OD.sh)) = _
      rw [pt]
     push_cast only [rE, List.map_cons, List.map_nil, pairD, g1, lb0, rc, lb1, ks, g2, crev, aT, b1];exact done _ _ _
 ·rintro ρ' rfl ⟨v5, v6, v7, v8, rfl⟩
  push_cast only [and_self]
noncomputable def fq (s : List (Int × Int)) : List PyData := s.map fun p => .tuple [.int p.1, .int p.2]
theorem rA : ∀ a b : List (Int × Int), PyData.eqvAll (fq a) (fq b) = decide (a = b)
 | [], [] => by rw [decide_eq_true rfl]; rfl
 | [], y :: b => by rw [decide_eq_false (fun z => nomatch z)]; rfl
 | x :: a, [] => by rw [decide_eq_false (fun z => nomatch z)]; rfl
 | (x1, x2) :: a, (y1, y2) :: b => by
  have ih := rA a b;unfold fq at ih ⊢;rw [List.map_cons, List.map_cons, PyData.eqvAll, ih, PyData.eqv, PyData.eqvAll, PyData.eqvAll, PyData.eqvAll, PyData.eqv, PyData.eqv];by_cases h1 : x1 = y1
  ·by_cases h2 : x2 = y2
   ·by_cases h3 : a = b
    ·simp [h1, h2, h3]
    ·simp [h1, h2, h3]
   ·simp [h1, h2]
  ·simp [h1]
theorem so (s : List (Int × Int)) : lay 2 (.list (fq s)) := iQ fun x hx => by
 obtain ⟨w, _, rfl⟩ := List.mem_map.mp hx;exact ko fun y hy => by
  simp only [List.mem_cons, List.not_mem_nil, or_false] at hy;rcases hy with rfl | rfl
  ·exact ij _
  ·exact ij _
theorem wg (a b : List (Int × Int)) : gEq (.list (fq a)) (.list (fq b)) = .ok (.sh (.bool (decide (a = b)))) := by
 unfold gEq;rw [gz];unfold gW;rw [bX (so a) (by decide), bX (so b) (by decide), Bool.and_self, if_pos rfl]
 have : PyData.eqv (.list (fq a)) (.list (fq b)) = decide (a = b) := by rw [PyData.eqv, rA]
 rw [this];rfl
noncomputable def dr (ts : List Nd) (f : F) : List (Int × Int) := (d_ f (-1) 0).map fun x => (x.1, gv (aX ts) x.2)
theorem ur (ts : List Nd) (f : F) : jj ts (d_ f (-1) 0) = fq (dr ts f) := by
 unfold jj fq dr;rw [List.map_map];rfl
theorem qg {ts : List Nd} {f g : F} (h : dr ts f = dr ts g) : F.map (rN ts) f = F.map (rN ts) g := by
 refine og _ _ (-1) 0 (by decide) ?_
 rw [lj, lj];have h2 := congrArg (List.map fun x : Int × Int => (x.1, x.2.toNat)) h
 unfold dr at h2;rw [List.map_map, List.map_map] at h2;exact h2
noncomputable def stp (ts : List Nd) (gap : Int) (q : Nat) : List Int := (List.range ((chN ts q).length - 1)).map fun i => gv (drw ts gap) (((chN ts q)[i + 1]?).getD 0) - gv (drw ts gap) (((chN ts q)[i]?).getD 0)
theorem nI {ts : List Nd} {c : F} (p : PT ts c) (gap : Int) (hl : ts.length ≤ 100) {q : Nat} (hq : q < ts.length) : stp ts gap q = (List.range ((chN ts q).length - 1)).map fun i => gv (stF gap ((chN ts q).map (outF ts gap))) (i + 1) - gv (stF gap ((chN ts q).map (outF ts gap))) i := by
 have he := bx p;have h0 := F.Pf.pos p;unfold stp;apply List.map_congr_left
 intro i hi;rw [List.mem_range] at hi;have g1 : (chN ts q)[i]? = some ((chN ts q)[i]'(by lia)) := List.getElem?_eq_getElem _
 have g2 : (chN ts q)[i + 1]? = some ((chN ts q)[i + 1]'(by lia)) := List.getElem?_eq_getElem _
 have m1 := (cw.mp (List.mem_of_getElem? g1)).1;have m2 := (cw.mp (List.mem_of_getElem? g2)).1;have p1 := fA gap he h0 hl hq g1;have p2 := fA gap he h0 hl hq g2;rw [g1, g2];show gv (drw ts gap) ((chN ts q)[i + 1]'(by lia)) - gv (drw ts gap) ((chN ts q)[i]'(by lia)) = _
 rw [ip h0 m1, ip h0 m2, p1, p2];lia
theorem vQ {ts : List Nd} {c : F} (p : PT ts c) (gap : Int) (hl : ts.length ≤ 100) {a b : Nat} (ha : a < ts.length) (hb : b < ts.length) (h : (chN ts a).map (outF ts gap) = (chN ts b).map (outF ts gap)) : stp ts gap a = stp ts gap b := by
 have e := congrArg List.length h;rw [List.length_map, List.length_map] at e;rw [nI p gap hl ha, nI p gap hl hb, h, e]
theorem uS {ts : List Nd} {c : F} (p : PT ts c) (gap : Int) (hl : ts.length ≤ 100) (hd : Dp ts 8) {a b : Nat} (ha : a < ts.length) (hb : b < ts.length) (hc : chN ts b ≠ []) (h : (chN ts a).map (outF ts gap) = cB ((chN ts b).map (outF ts gap))) : stp ts gap a = (stp ts gap b).reverse := by
 have he := bx p;have h0 := F.Pf.pos p;have e := congrArg List.length h;rw [eP, List.length_map, List.length_map] at e;have hO := i9 gap he h0 hl hc;have ol : ((chN ts b).map (outF ts gap)).length = (chN ts b).length := List.length_map _;have tu := fun k hk => qU (gap := gap) hO (Aj gap he h0 hl hd hb) k hk
 rw [nI p gap hl ha, nI p gap hl hb, h, e];apply List.ext_getElem?
 intro i;by_cases hi : i < (chN ts b).length - 1
 ·rw [List.getElem?_map, List.getElem?_range hi, List.getElem?_reverse (by rw [List.length_map, List.length_range]; exact hi), List.length_map, List.length_range, List.getElem?_map, List.getElem?_range (by lia)]
  show some (gv (stF gap (cB ((chN ts b).map (outF ts gap)))) (i + 1) - gv (stF gap (cB ((chN ts b).map (outF ts gap)))) i) = some (gv (stF gap ((chN ts b).map (outF ts gap))) ((chN ts b).length - 1 - 1 - i + 1) - gv (stF gap ((chN ts b).map (outF ts gap))) ((chN ts b).length - 1 - 1 - i))
  rw [tu i (by lia), tu (i + 1) (by lia), ol]
  rw [show (chN ts b).length - 1 - 1 - i + 1 = (chN ts b).length - 1 - i by lia, show (chN ts b).length - 1 - (i + 1) = (chN ts b).length - 1 - 1 - i by lia]
  exact congrArg some (by lia)
 ·rw [List.getElem?_eq_none (by rw [List.length_map, List.length_range]; lia), List.getElem?_eq_none (by rw [List.length_reverse, List.length_map, List.length_range]; lia)]
noncomputable def g_ (ts : List Nd) : List PyData := (List.range ts.length).map fun q => .list (nD (chN ts q))
theorem jT {ts : List Nd} {k : Nat} (h : k < ts.length) : atI (g_ ts) (k : Int) = some (.list (nD (chN ts k))) := eE (by unfold g_; rw [List.getElem?_map, List.getElem?_range h]; rfl)
noncomputable def dq (ts : List Nd) : List Nat := (List.range ts.length).filter fun q => decide ((1 : Int) < ((chN ts q).length : Int))
theorem wa (n : Nat) : ik 0 n = (List.range n).map fun k : Nat => PyData.int (k : Int) := by
 unfold ik;exact List.map_congr_left fun k _ => by rw [Int.zero_add]
theorem jN {rs : List Nat} {i k : Nat} (h : rs[i]? = some k) : atI (nD rs) (i : Int) = some (.int (k : Int)) := eE (zc h)
theorem j9 {α : Type} {L : List α} {f : α → PyData} {i : Nat} {x : α} (h : L[i]? = some x) : atI (L.map f) (i : Int) = some (f x) := eE (by rw [List.getElem?_map, h]; rfl)
theorem wq {ts : List Nd} {c : F} (p : PT ts c) (gap : Int) (hl : ts.length ≤ 40) (hd : Dp ts 8) (hlab : ∀ n ∈ ts, n.l.length ≤ 1000) : d9 [.list (au ts), .list (g_ ts), .list ((drw ts gap).map PyData.int)] = .ok (.sh (.bool true)) := by
 unfold d9 fH;have he := bx p;have h0 := F.Pf.pos p;have dl := nE (ts := ts) (gap := gap) h0;have s2 : aB (ts.length : Int) = true := eT (by lia) (by lia)
 obtain ⟨D, hD⟩ : ∃ D : Nat → F, ∀ q, q < ts.length → chN ts q = F.roots (D q) ∧ F.Con (chN ts) (D q) ∧ (∀ k ∈ F.pre (D q), k < ts.length) ∧ (F.pre (D q)).length ≤ ts.length := by
  have h : ∀ q, ∃ d, q < ts.length → chN ts q = F.roots d ∧ F.Con (chN ts) d ∧ (∀ k ∈ F.pre d, k < ts.length) ∧ (F.pre d).length ≤ ts.length := fun q => by
   by_cases hq : q < ts.length
   ·obtain ⟨d, hd⟩ := oW p hq
    exact ⟨d, fun _ => hd⟩
   ·exact ⟨F.nil, fun z => absurd z hq⟩
  exact ⟨fun q => Classical.choose (h q), fun q => Classical.choose_spec (h q)⟩
 have k1 : ∀ q, q < ts.length → di [.list (au ts), .list (g_ ts), .int (q : Int), .bool false] = .ok (.ol ((fq (dr ts (F.cons q (D q) F.nil))).map OD.sh)) := fun q hq => by
  obtain ⟨d1, d2, d3, d4⟩ := hD q hq;have := um hl hlab false (g_ ts) (fun k hk => jT hk) hq (c := D q) d1 d2 d3 (by lia)
  rw [ur] at this;exact this
 have k2 : ∀ q, q < ts.length → di [.list (au ts), .list (g_ ts), .int (q : Int), .bool true] = .ok (.ol ((fq (dr ts (F.cons q (F.mir (D q)) F.nil))).map OD.sh)) := fun q hq => by
  obtain ⟨d1, d2, d3, d4⟩ := hD q hq;have ml : (F.pre (F.mir (D q))).length = (F.pre (D q)).length := by rw [F.iU]; exact (F.fw (D q)).length_eq
  have := um hl hlab true (g_ ts) (fun k hk => jT hk) hq (c := F.mir (D q)) (by
   show (chN ts q).reverse = _
   rw [F.hV, d1]) (lg (D q) d2) (fun k hk => d3 k (kO hk)) (by lia)
  rw [ur] at this;exact this
 have wm : ∀ q ∈ dq ts, q < ts.length ∧ 1 < (chN ts q).length := fun q hq => by
  unfold dq at hq;rw [List.mem_filter, List.mem_range, decide_eq_true_eq] at hq;lia
 have wl : (dq ts).length ≤ ts.length := by
  have := List.length_filter_le (fun q => decide ((1 : Int) < ((chN ts q).length : Int))) (List.range ts.length)
  rw [List.length_range] at this;exact this
 push_cast only [aI, s2];generalize hC : bb _ _ _ _ _ _ = rc
 have e := iZ hC (fun k : Nat => PyData.int (k : Int)) (fun q => decide ((1 : Int) < ((chN ts q).length : Int))) (fun k : Nat => .sh (.int (k : Int))) (List.range ts.length) (by rw [Int.toNat_natCast, wa]) (by rw [List.length_range]; exact of_eq_true (aP (by lia))) (by
  intro k hk;rw [List.mem_range] at hk;have g1 := jT hk;refine ⟨?_, fun _ => ?_⟩
  ·push_cast only [g1, f9]
  ·push_cast only [and_self])
 subst e;clear hC;rw [n_];have ew : List.filter (fun q => decide ((1 : Int) < ((chN ts q).length : Int))) (List.range ts.length) = dq ts := rfl
 rw [ew];push_cast only [jY];generalize hC : bb _ _ _ _ _ _ = rc
 have e := c6 hC (fun q : Nat => PyData.list (nD (chN ts q))) (fun q => .sh (.list ((stp ts gap q).map PyData.int))) (List.range ts.length) rfl (by rw [List.length_range]; exact of_eq_true (aP (by lia))) (by
  intro q hq;rw [List.mem_range] at hq;have cl := qM ts q;have s3 : (aB (1 : Int) && aB ((chN ts q).length : Int)) = true := by
   rw [eT (by lia) (by lia), eT (by lia) (by lia)]
   rfl
  push_cast only [f9, s3];generalize hC2 : bb _ _ _ _ _ _ = rc2
  have e2 := c6 hC2 (fun i : Nat => PyData.int (1 + (i : Int))) (fun i => .sh (.int (gv (drw ts gap) (((chN ts q)[i + 1]?).getD 0) - gv (drw ts gap) (((chN ts q)[i]?).getD 0)))) (List.range ((chN ts q).length - 1)) (by
   rw [show (((chN ts q).length : Int) - 1).toNat = (chN ts q).length - 1 by lia]
   rfl) (by rw [List.length_range]; exact of_eq_true (aP (by lia))) (by
   intro i hi;rw [List.mem_range] at hi;have g1 : (chN ts q)[i]? = some ((chN ts q)[i]'(by lia)) := List.getElem?_eq_getElem _
   have g2 : (chN ts q)[i + 1]? = some ((chN ts q)[i + 1]'(by lia)) := List.getElem?_eq_getElem _
   have m1 := (cw.mp (List.mem_of_getElem? g1)).1;have m2 := (cw.mp (List.mem_of_getElem? g2)).1;have a1 := jN g1;have a2 := jN g2;have b1 := cE (st := drw ts gap) (j := (chN ts q)[i]'(by lia)) (by lia)
   have b2 := cE (st := drw ts gap) (j := (chN ts q)[i + 1]'(by lia)) (by lia)
   have x1 : (1 : Int) + (i : Int) = ((i + 1 : Nat) : Int) := by lia
   have x2 : ((i + 1 : Nat) : Int) - 1 = (i : Int) := by lia
   rw [g1, g2, x1];push_cast only [x2, a1, a2, b1, b2, Option.getD_some])
  subst e2;have em : ((List.range ((chN ts q).length - 1)).map fun i => OD.sh (.int (gv (drw ts gap) (((chN ts q)[i + 1]?).getD 0) - gv (drw ts gap) (((chN ts q)[i]?).getD 0)))).map OD.er = (stp ts gap q).map PyData.int := by
   unfold stp;rw [List.map_map, List.map_map];exact List.map_congr_left fun i _ => cZ _
  push_cast only [em])
 subst e;clear hC;have em : ((List.range ts.length).map fun q => OD.sh (.list ((stp ts gap q).map PyData.int))).map OD.er = (List.range ts.length).map fun q => PyData.list ((stp ts gap q).map PyData.int) := by
  rw [List.map_map];exact List.map_congr_left fun i _ => cZ _
 push_cast only [em];generalize hC : bb _ _ _ _ _ _ = rc
 have e := c6 hC (fun q : Nat => PyData.int (q : Int)) (fun q => .sh (.list (fq (dr ts (F.cons q (D q) F.nil))))) (dq ts) (by unfold nD iL; rw [List.map_map]; rfl) (of_eq_true (aP (by lia))) (by
  intro q hq;have kk := k1 q (wm q hq).1;push_cast only [kk, aT])
 subst e;clear hC;have em2 : ((dq ts).map fun q => OD.sh (.list (fq (dr ts (F.cons q (D q) F.nil))))).map OD.er = (dq ts).map fun q => PyData.list (fq (dr ts (F.cons q (D q) F.nil))) := by
  rw [List.map_map];exact List.map_congr_left fun i _ => cZ _
 push_cast only [em2];generalize hC : bb _ _ _ _ _ _ = rc
 have e := c6 hC (fun q : Nat => PyData.int (q : Int)) (fun q => .sh (.list (fq (dr ts (F.cons q (F.mir (D q)) F.nil))))) (dq ts) (by unfold nD iL; rw [List.map_map]; rfl) (of_eq_true (aP (by lia))) (by
  intro q hq;have kk := k2 q (wm q hq).1;push_cast only [kk, aT])
 subst e;clear hC;have em3 : ((dq ts).map fun q => OD.sh (.list (fq (dr ts (F.cons q (F.mir (D q)) F.nil))))).map OD.er = (dq ts).map fun q => PyData.list (fq (dr ts (F.cons q (F.mir (D q)) F.nil))) := by
  rw [List.map_map];exact List.map_congr_left fun i _ => cZ _
 have s5 : aB ((dq ts).length : Int) = true := eT (by lia) (by lia)
 push_cast only [em3, f9, s5];generalize hL : bE _ _ _ _ = r'
 refine cC hL (fun i ρ => ∃ v7 v8 : Option OD, ρ = [some (.sh (.list (au ts))), some (.sh (.list (g_ ts))), some (.sh (.list ((drw ts gap).map PyData.int))), some (.sh (.list (nD (dq ts)))), some (.sh (.list ((List.range ts.length).map fun q => PyData.list ((stp ts gap q).map PyData.int)))), some (.sh (.list ((dq ts).map fun q => PyData.list (fq (dr ts (F.cons q (D q) F.nil)))))), some (.sh (.list ((dq ts).map fun q => PyData.list (fq (dr ts (F.cons q (F.mir (D q)) F.nil)))))), v7, v8]) ⟨_, _, rfl⟩ ?_ ?_
 ·rintro i d ρ hd' ⟨v7, v8, rfl⟩
  obtain ⟨hi, rfl⟩ := cY hd';rw [Int.toNat_natCast] at hi;rw [Int.zero_add];have s6 : aB ((i : Int) + 1) = true := eT (by lia) (by lia)
  push_cast only [s6];generalize hL2 : bE _ _ _ _ = rr2
  refine cC hL2 (fun m ρ => ∃ v8 : Option OD, ρ = [some (.sh (.list (au ts))), some (.sh (.list (g_ ts))), some (.sh (.list ((drw ts gap).map PyData.int))), some (.sh (.list (nD (dq ts)))), some (.sh (.list ((List.range ts.length).map fun q => PyData.list ((stp ts gap q).map PyData.int)))), some (.sh (.list ((dq ts).map fun q => PyData.list (fq (dr ts (F.cons q (D q) F.nil)))))), some (.sh (.list ((dq ts).map fun q => PyData.list (fq (dr ts (F.cons q (F.mir (D q)) F.nil)))))), some (.sh (.int (i : Int))), v8]) ⟨_, rfl⟩ ?_ ?_
  ·rintro m d ρ hd'' ⟨v8, rfl⟩
   obtain ⟨hm, rfl⟩ := cY hd'';have hm' : m < (dq ts).length := by lia
   rw [Int.zero_add];obtain ⟨a, ga⟩ : ∃ a, (dq ts)[i]? = some a := ⟨(dq ts)[i], by simp [hi]⟩
   obtain ⟨b, gb⟩ : ∃ b, (dq ts)[m]? = some b := ⟨(dq ts)[m], by simp [hm']⟩
   obtain ⟨la, ca⟩ := wm a (List.mem_of_getElem? ga);obtain ⟨lb, cb⟩ := wm b (List.mem_of_getElem? gb);have x1 := jN ga;have x2 := jN gb;have y1 := j9 (f := fun q => PyData.list (fq (dr ts (F.cons q (D q) F.nil)))) ga
   have y2 := j9 (f := fun q => PyData.list (fq (dr ts (F.cons q (D q) F.nil)))) gb
   have y3 := j9 (f := fun q => PyData.list (fq (dr ts (F.cons q (F.mir (D q)) F.nil)))) gb
   have z1 := j9 (L := List.range ts.length) (f := fun q => PyData.list ((stp ts gap q).map PyData.int)) (i := a) (x := a) (List.getElem?_range la)
   have z2 := j9 (L := List.range ts.length) (f := fun q => PyData.list ((stp ts gap q).map PyData.int)) (i := b) (x := b) (List.getElem?_range lb)
   obtain ⟨a1, a2, a3, a4⟩ := hD a la;obtain ⟨b1, b2, b3, b4⟩ := hD b lb;have q1 := wg (dr ts (F.cons a (D a) F.nil)) (dr ts (F.cons b (D b) F.nil));have q2 := wg (dr ts (F.cons a (D a) F.nil)) (dr ts (F.cons b (F.mir (D b)) F.nil));have crev : ∀ x8 : Option OD, pR (eOp gIx (ae 4) (eOp gIx (ae 3) (ae 8))) (eUn fK (eC (.int 1))) [some (.sh (.list (au ts))), some (.sh (.list (g_ ts))), some (.sh (.list ((drw ts gap).map PyData.int))), some (.sh (.list (nD (dq ts)))), some (.sh (.list ((List.range ts.length).map fun q => PyData.list ((stp ts gap q).map PyData.int)))), some (.sh (.list ((dq ts).map fun q => PyData.list (fq (dr ts (F.cons q (D q) F.nil)))))), some (.sh (.list ((dq ts).map fun q => PyData.list (fq (dr ts (F.cons q (F.mir (D q)) F.nil)))))), some (.sh (.int (i : Int))), some (.sh (.int (m : Int)))] = .ok (.ol (((stp ts gap b).reverse.map PyData.int).map OD.sh)) := fun x8 => by
    rw [zD];push_cast only [x2, z2];show R.ok (OD.ol (((stp ts gap b).map PyData.int).reverse.map OD.sh)) = _
    rw [← List.map_reverse]
   have first : decide (dr ts (F.cons a (D a) F.nil) = dr ts (F.cons b (D b) F.nil)) = false ∨ decide (dr ts (F.cons a (D a) F.nil) = dr ts (F.cons b (D b) F.nil)) = true ∧ gNe (.list ((stp ts gap a).map PyData.int)) (.list ((stp ts gap b).map PyData.int)) = .ok (.sh (.bool false)) := by
    by_cases h : dr ts (F.cons a (D a) F.nil) = dr ts (F.cons b (D b) F.nil)
    ·right
     refine ⟨decide_eq_true h, ?_⟩;have sh := qg h;rw [F.map, F.map] at sh;have sh2 : F.map (rN ts) (D a) = F.map (rN ts) (D b) := (F.cons.inj sh).2.1;have o := tN p gap (by lia) a1 a2 a3 b1 b2 b3 sh2
     rw [vQ p gap (by lia) la lb o]
     exact iM (lay_ints _)
    ·exact .inl (decide_eq_false h)
   have second : decide (dr ts (F.cons a (D a) F.nil) = dr ts (F.cons b (F.mir (D b)) F.nil)) = false ∨ decide (dr ts (F.cons a (D a) F.nil) = dr ts (F.cons b (F.mir (D b)) F.nil)) = true ∧ gNe (.list ((stp ts gap a).map PyData.int)) (.list ((stp ts gap b).reverse.map PyData.int)) = .ok (.sh (.bool false)) := by
    by_cases h : dr ts (F.cons a (D a) F.nil) = dr ts (F.cons b (F.mir (D b)) F.nil)
    ·right
     refine ⟨decide_eq_true h, ?_⟩;have sh := qg h;rw [F.map, F.map] at sh;have sh2 : F.map (rN ts) (D a) = F.map (rN ts) (F.mir (D b)) := (F.cons.inj sh).2.1;have o := tX p gap (by lia) hd lb a1 a2 a3 b1 b2 b3 sh2
     rw [uS p gap (by lia) hd la lb (fun z => by rw [z] at cb; simp at cb) o]
     exact iM (lay_ints _)
    ·exact .inl (decide_eq_false h)
   have crev' := crev none;rcases first with f1 | ⟨f1, f2⟩
   ·rcases second with g1 | ⟨g1, g2⟩
    ·push_cast only [x1, x2, y1, y2, y3, z1, z2, q1, q2, f1, g1]
     exact ⟨_, rfl⟩
    ·push_cast only [↓crev', x1, x2, y1, y2, y3, z1, z2, q1, q2, f1, g1, g2, aT]
     exact ⟨_, rfl⟩
   ·rcases second with g1 | ⟨g1, g2⟩
    ·push_cast only [x1, x2, y1, y2, y3, z1, z2, q1, q2, f1, f2, g1]
     exact ⟨_, rfl⟩
    ·push_cast only [↓crev', x1, x2, y1, y2, y3, z1, z2, q1, q2, f1, f2, g1, g2, aT]
     exact ⟨_, rfl⟩
  ·rintro ρ' rfl ⟨v8, rfl⟩
   push_cast only [and_self];exact ⟨_, _, rfl⟩
 ·rintro ρ' rfl ⟨v7, v8, rfl⟩
  push_cast only [and_self]
theorem xA {ks : List Nat} (h : ks ≠ []) : atI (nD ks) (-1) = some (.int (((ks[ks.length - 1]?).getD 0 : Nat) : Int)) := by
 have hp := List.length_pos_iff.mpr h;have := nG (ls := iL ks) (n := ks.length) (by unfold iL; rw [List.length_map]) hp
 unfold nD;rw [this];unfold gv iL;rw [List.getElem?_map, List.getElem?_eq_getElem (show ks.length - 1 < ks.length by lia)]
 rfl
theorem wU (ts : List Nd) : ((List.range ts.length).map fun q => OD.ol (nO (chN ts q))).map OD.er = g_ ts := by
 unfold g_;rw [List.map_map];exact List.map_congr_left fun q _ => by
  show (OD.ol (nO (chN ts q))).er = _
  rw [jL, jY]
theorem vJ (ns : List Int) (hn : ns.length ≤ 63) : ma [.list (ns.map PyData.int)] = .ok (.sh (.bool true)) := by
 unfold ma nS;obtain ⟨ds, hds, hdb, hdr⟩ := u7 ns hn 40 (by decide)
 have hdr : dC [.list (ns.map PyData.int), .int 40] = .ok (.ol (bG ds)) := hdr;obtain ⟨ts, c, x, p, lb, dp, hl40, hx, hst⟩ := mB ds hds;have he := bx p;have h0 := F.Pf.pos p;have hl : ts.length ≤ 100 := by lia
 have lab : ∀ n ∈ ts, n.l.length ≤ 1000 := fun n hn => by have := (lb n hn).2.1; lia
 have labk : ∀ n ∈ ts, kM n.l := fun n hn => lb n hn
 have g2 : atI (ds.map PyData.int) (2 : Int) = some (.int (gv ds 2)) := cE (st := ds) (j := 2) (by lia)
 obtain ⟨gap, hgap⟩ : ∃ gap, gap = 1 + gv ds 2 % 20 := ⟨_, rfl⟩;have d1 := wc ts gap he h0 hl lab;have dl := nE (ts := ts) (gap := gap) h0;have ap := vI p gap hl lab;have lc := kQ ts he h0 hl;have al := wq p gap hl40 dp lab;have ne1 : gNe (.list (au ts)) (.list (au ts)) = .ok (.sh (.bool false)) := iM (xw labk);have eqp : gEq (.list ((drw ts gap).map PyData.int)) (.list ((drw ts gap).map PyData.int)) = .ok (.sh (.bool true)) := mf (lay_ints _);have s2 : aB (ts.length : Int) = true := eT (by lia) (by lia)
 have dd : decide (((drw ts gap).length : Int) = (ts.length : Int)) = true := decide_eq_true (by rw [dl])
 push_cast only [hdr, bV, hst, hx, g2, ← hgap, aT, aI, d1, List.length_map, dd, ne1];generalize hC : bb _ _ _ _ _ _ = rc
 have e := iZ hC PyData.int (fun _ : Int => true) (fun z : Int => .sh (.int z)) (drw ts gap) rfl (by rw [dl]; exact of_eq_true (aP (by lia))) (by
  intro z _;refine ⟨?_, fun _ => ?_⟩
  ·push_cast only [tU]
  ·push_cast only [and_self])
 subst e;clear hC;have fl : (List.filter (fun _ : Int => true) (drw ts gap)) = drw ts gap := List.filter_eq_self.mpr fun _ _ => rfl
 rw [fl];have lm : ((drw ts gap).map fun z : Int => OD.sh (.int z)).map OD.er = (drw ts gap).map PyData.int := by
  rw [List.map_map];exact List.map_congr_left fun i _ => cZ _
 push_cast only [lm, List.length_map, dd, ap, lc, wU, aI, s2];generalize hL : bE _ _ _ _ = r'
 refine cC hL (fun i ρ => ∃ v7 v8 : Option OD, ρ = [some (.sh (.list (ns.map PyData.int))), some (.sh (.list (ds.map PyData.int))), some (.sh (.list (au ts))), some (.sh (.int gap)), some (.sh (.list (au ts))), some (.ol (bG (drw ts gap))), some (.sh (.list (g_ ts))), v7, v8, none]) ⟨_, _, rfl⟩ ?_ ?_
 ·rintro k d ρ hd ⟨v7, v8, rfl⟩
  obtain ⟨hk, rfl⟩ := cY hd;rw [Int.toNat_natCast] at hk;rw [Int.zero_add];have sa := jT hk;by_cases hc : chN ts k = []
  ·have ge : gEq (.list (nD (chN ts k))) (.list []) = .ok (.sh (.bool true)) := by
    rw [hc];exact mf (lay_ints [])
   push_cast only [sa, ge];exact ⟨_, _, rfl⟩
  ·have ge : gEq (.list (nD (chN ts k))) (.list []) = .ok (.sh (.bool false)) := by
    have ly : lay 1 (.list (nD (chN ts k))) := lay_ints _;cases h : chN ts k with
    | nil => exact absurd h hc
    | cons a as =>
     rw [h] at ly;exact xi ly (by decide)
   have n0 : 0 < (chN ts k).length := List.length_pos_iff.mpr hc;have ga : (chN ts k)[0]? = some ((chN ts k)[0]'n0) := List.getElem?_eq_getElem _;have gb : (chN ts k)[(chN ts k).length - 1]? = some ((chN ts k)[(chN ts k).length - 1]'(by lia)) := List.getElem?_eq_getElem _
   have la := (cw.mp (List.mem_of_getElem? ga)).1;have lb' := (cw.mp (List.mem_of_getElem? gb)).1;have md := sr p gap hl dp hk ga gb;have x0 : atI (nD (chN ts k)) (0 : Int) = some (.int (((chN ts k)[0]'n0 : Nat) : Int)) := jN (i := 0) ga;have x1 := xA hc;rw [gb, Option.getD_some] at x1;have y0 := cE (st := drw ts gap) (j := (chN ts k)[0]'n0) (by lia)
   have y1 := cE (st := drw ts gap) (j := (chN ts k)[(chN ts k).length - 1]'(by lia)) (by lia)
   have y2 := cE (st := drw ts gap) (j := k) (by lia)
   have cm : gq 2 (gv (drw ts gap) k) = true := sH (by decide) (by decide)
   have eqm : (2 : Int) * gv (drw ts gap) k = gv (drw ts gap) ((chN ts k)[0]'n0) + gv (drw ts gap) ((chN ts k)[(chN ts k).length - 1]'(by lia)) := by
    rw [ip h0 hk, ip h0 la, ip h0 lb'];lia
   generalize gv (drw ts gap) ((chN ts k)[0]'n0) = za at y0 eqm
   generalize gv (drw ts gap) ((chN ts k)[(chN ts k).length - 1]'(by lia)) = zb at y1 eqm
   generalize gv (drw ts gap) k = zk at y2 eqm cm
   have eqm := decide_eq_true eqm;push_cast only [sa, ge, bV, x0, x1, y0, y1, y2, cm];rw [eqm];push_cast only [and_self];exact ⟨_, _, rfl⟩
 ·rintro ρ' rfl ⟨v7, v8, rfl⟩
  have lb3 : ((bG (drw ts gap)).length < BIG) = True := by rw [fL, dl]; exact eK (by lia)
  have lf : jh [.list ((drw ts gap).map PyData.int)] = .ok (.ol (bG (drw ts gap))) := rfl;push_cast only [bV, al, lf, kz, lb3, d1, eqp]
theorem all_mk {l : PySem.W.OpenLaw} {w : World} {K : PySem.W.Frag} {h : Heap} {mg : Str → Option Value} {fa : Addr} (X : K.In h) (G : h.Ns mainGlobals mg) (hfa : mg "law" = some (.ref fa))
  {f_check_node f_reaches f_nearest f_joined_outline f__law_letters f__law_mirror_order f__law_hung f__law_whole f__law_levels f__law_children f__law_key f_children_of f_earliest_places f_latest_places f_moved_to_side f__law_label f__law_mirror_tree f__law_relabelled f__law_apart f__law_alike f_room_of f__law_tree f_stands_below f__law_family f_pieces f__law_some_tree f_drawn f__law_draws f_law : Addr}
  {od_check_node an_check_node od_reaches an_reaches od_nearest an_nearest od_joined_outline an_joined_outline od__law_letters an__law_letters od__law_mirror_order an__law_mirror_order od__law_hung an__law_hung od__law_whole an__law_whole od__law_levels an__law_levels od__law_children an__law_children od__law_key an__law_key od_children_of an_children_of od_earliest_places an_earliest_places od_latest_places an_latest_places od_moved_to_side an_moved_to_side od__law_label an__law_label od__law_mirror_tree an__law_mirror_tree od__law_relabelled an__law_relabelled od__law_apart an__law_apart od__law_alike an__law_alike od_room_of an_room_of od__law_tree an__law_tree od_stands_below an_stands_below od__law_family an__law_family od_pieces an_pieces od__law_some_tree an__law_some_tree od_drawn an_drawn od__law_draws an__law_draws od_law an_law : Option Addr}
  {sl_check_node sl_reaches sl_nearest sl_joined_outline sl__law_letters sl__law_mirror_order sl__law_hung sl__law_whole sl__law_levels sl__law_children sl__law_key sl_children_of sl_earliest_places sl_latest_places sl_moved_to_side sl__law_label sl__law_mirror_tree sl__law_relabelled sl__law_apart sl__law_alike sl_room_of sl__law_tree sl_stands_below sl__law_family sl_pieces sl__law_some_tree sl_drawn sl__law_draws sl_law : Array (Option Value)}
  {oc_check_node kV_check_node dc_check_node pm_check_node cd_check_node ct_check_node oc_reaches kV_reaches dc_reaches pm_reaches cd_reaches ct_reaches oc_nearest kV_nearest dc_nearest pm_nearest cd_nearest ct_nearest oc_joined_outline kV_joined_outline dc_joined_outline pm_joined_outline cd_joined_outline ct_joined_outline oc__law_letters kV__law_letters dc__law_letters pm__law_letters cd__law_letters ct__law_letters oc__law_mirror_order kV__law_mirror_order dc__law_mirror_order pm__law_mirror_order cd__law_mirror_order ct__law_mirror_order oc__law_hung kV__law_hung dc__law_hung pm__law_hung cd__law_hung ct__law_hung oc__law_whole kV__law_whole dc__law_whole pm__law_whole cd__law_whole ct__law_whole oc__law_levels kV__law_levels dc__law_levels pm__law_levels cd__law_levels ct__law_levels oc__law_children kV__law_children dc__law_children pm__law_children cd__law_children ct__law_children oc__law_key kV__law_key dc__law_key pm__law_key cd__law_key ct__law_key oc_children_of kV_children_of dc_children_of pm_children_of cd_children_of ct_children_of oc_earliest_places kV_earliest_places dc_earliest_places pm_earliest_places cd_earliest_places ct_earliest_places oc_latest_places kV_latest_places dc_latest_places pm_latest_places cd_latest_places ct_latest_places oc_moved_to_side kV_moved_to_side dc_moved_to_side pm_moved_to_side cd_moved_to_side ct_moved_to_side oc__law_label kV__law_label dc__law_label pm__law_label cd__law_label ct__law_label oc__law_mirror_tree kV__law_mirror_tree dc__law_mirror_tree pm__law_mirror_tree cd__law_mirror_tree ct__law_mirror_tree oc__law_relabelled kV__law_relabelled dc__law_relabelled pm__law_relabelled cd__law_relabelled ct__law_relabelled oc__law_apart kV__law_apart dc__law_apart pm__law_apart cd__law_apart ct__law_apart oc__law_alike kV__law_alike dc__law_alike pm__law_alike cd__law_alike ct__law_alike oc_room_of kV_room_of dc_room_of pm_room_of cd_room_of ct_room_of oc__law_tree kV__law_tree dc__law_tree pm__law_tree cd__law_tree ct__law_tree oc_stands_below kV_stands_below dc_stands_below pm_stands_below cd_stands_below ct_stands_below oc__law_family kV__law_family dc__law_family pm__law_family cd__law_family ct__law_family oc_pieces kV_pieces dc_pieces pm_pieces cd_pieces ct_pieces oc__law_some_tree kV__law_some_tree dc__law_some_tree pm__law_some_tree cd__law_some_tree ct__law_some_tree oc_drawn kV_drawn dc_drawn pm_drawn cd_drawn ct_drawn oc__law_draws kV__law_draws dc__law_draws pm__law_draws cd__law_draws ct__law_draws oc_law kV_law dc_law pm_law cd_law ct_law : Value}
  {tk_SHREDS : Tok}
  (a_check_node : PySem.W.nsIn K mainGlobals "check_node" = some (some (.ref f_check_node))) (l_check_node : K.lookup f_check_node = some ⟨oc_check_node, od_check_node, .func (PySem.W.fnOf "check_node" "check_node" (aM cK) (aH cK) (ai cK) .none kV_check_node dc_check_node pm_check_node an_check_node cd_check_node ct_check_node), sl_check_node⟩) (c_check_node : PySem.W.codeIn K cd_check_node "check_node" = true) (k_check_node : PySem.W.keepIn K (.ref f_check_node) = true)
  (a_reaches : PySem.W.nsIn K mainGlobals "reaches" = some (some (.ref f_reaches))) (l_reaches : K.lookup f_reaches = some ⟨oc_reaches, od_reaches, .func (PySem.W.fnOf "reaches" "reaches" (aM du) (aH du) (ai du) .none kV_reaches dc_reaches pm_reaches an_reaches cd_reaches ct_reaches), sl_reaches⟩) (c_reaches : PySem.W.codeIn K cd_reaches "reaches" = true) (k_reaches : PySem.W.keepIn K (.ref f_reaches) = true)
  (a_nearest : PySem.W.nsIn K mainGlobals "nearest" = some (some (.ref f_nearest))) (l_nearest : K.lookup f_nearest = some ⟨oc_nearest, od_nearest, .func (PySem.W.fnOf "nearest" "nearest" (aM dB) (aH dB) (ai dB) .none kV_nearest dc_nearest pm_nearest an_nearest cd_nearest ct_nearest), sl_nearest⟩) (c_nearest : PySem.W.codeIn K cd_nearest "nearest" = true) (k_nearest : PySem.W.keepIn K (.ref f_nearest) = true)
  (a_joined_outline : PySem.W.nsIn K mainGlobals "joined_outline" = some (some (.ref f_joined_outline))) (l_joined_outline : K.lookup f_joined_outline = some ⟨oc_joined_outline, od_joined_outline, .func (PySem.W.fnOf "joined_outline" "joined_outline" (aM aL) (aH aL) (ai aL) .none kV_joined_outline dc_joined_outline pm_joined_outline an_joined_outline cd_joined_outline ct_joined_outline), sl_joined_outline⟩) (c_joined_outline : PySem.W.codeIn K cd_joined_outline "joined_outline" = true) (k_joined_outline : PySem.W.keepIn K (.ref f_joined_outline) = true)
  (a__law_letters : PySem.W.nsIn K mainGlobals "_law_letters" = some (some (.ref f__law_letters))) (l__law_letters : K.lookup f__law_letters = some ⟨oc__law_letters, od__law_letters, .func (PySem.W.fnOf "_law_letters" "_law_letters" (aM bw) (aH bw) (ai bw) .none kV__law_letters dc__law_letters pm__law_letters an__law_letters cd__law_letters ct__law_letters), sl__law_letters⟩) (c__law_letters : PySem.W.codeIn K cd__law_letters "_law_letters" = true) (k__law_letters : PySem.W.keepIn K (.ref f__law_letters) = true)
  (a__law_mirror_order : PySem.W.nsIn K mainGlobals "_law_mirror_order" = some (some (.ref f__law_mirror_order))) (l__law_mirror_order : K.lookup f__law_mirror_order = some ⟨oc__law_mirror_order, od__law_mirror_order, .func (PySem.W.fnOf "_law_mirror_order" "_law_mirror_order" (aM aO) (aH aO) (ai aO) .none kV__law_mirror_order dc__law_mirror_order pm__law_mirror_order an__law_mirror_order cd__law_mirror_order ct__law_mirror_order), sl__law_mirror_order⟩) (c__law_mirror_order : PySem.W.codeIn K cd__law_mirror_order "_law_mirror_order" = true) (k__law_mirror_order : PySem.W.keepIn K (.ref f__law_mirror_order) = true)
  (a__law_hung : PySem.W.nsIn K mainGlobals "_law_hung" = some (some (.ref f__law_hung))) (l__law_hung : K.lookup f__law_hung = some ⟨oc__law_hung, od__law_hung, .func (PySem.W.fnOf "_law_hung" "_law_hung" (aM dh) (aH dh) (ai dh) .none kV__law_hung dc__law_hung pm__law_hung an__law_hung cd__law_hung ct__law_hung), sl__law_hung⟩) (c__law_hung : PySem.W.codeIn K cd__law_hung "_law_hung" = true) (k__law_hung : PySem.W.keepIn K (.ref f__law_hung) = true)
  (a__law_whole : PySem.W.nsIn K mainGlobals "_law_whole" = some (some (.ref f__law_whole))) (l__law_whole : K.lookup f__law_whole = some ⟨oc__law_whole, od__law_whole, .func (PySem.W.fnOf "_law_whole" "_law_whole" (aM cI) (aH cI) (ai cI) .none kV__law_whole dc__law_whole pm__law_whole an__law_whole cd__law_whole ct__law_whole), sl__law_whole⟩) (c__law_whole : PySem.W.codeIn K cd__law_whole "_law_whole" = true) (k__law_whole : PySem.W.keepIn K (.ref f__law_whole) = true)
  (a__law_levels : PySem.W.nsIn K mainGlobals "_law_levels" = some (some (.ref f__law_levels))) (l__law_levels : K.lookup f__law_levels = some ⟨oc__law_levels, od__law_levels, .func (PySem.W.fnOf "_law_levels" "_law_levels" (aM bK) (aH bK) (ai bK) .none kV__law_levels dc__law_levels pm__law_levels an__law_levels cd__law_levels ct__law_levels), sl__law_levels⟩) (c__law_levels : PySem.W.codeIn K cd__law_levels "_law_levels" = true) (k__law_levels : PySem.W.keepIn K (.ref f__law_levels) = true)
  (a__law_children : PySem.W.nsIn K mainGlobals "_law_children" = some (some (.ref f__law_children))) (l__law_children : K.lookup f__law_children = some ⟨oc__law_children, od__law_children, .func (PySem.W.fnOf "_law_children" "_law_children" (aM bc) (aH bc) (ai bc) .none kV__law_children dc__law_children pm__law_children an__law_children cd__law_children ct__law_children), sl__law_children⟩) (c__law_children : PySem.W.codeIn K cd__law_children "_law_children" = true) (k__law_children : PySem.W.keepIn K (.ref f__law_children) = true)
  (a__law_key : PySem.W.nsIn K mainGlobals "_law_key" = some (some (.ref f__law_key))) (l__law_key : K.lookup f__law_key = some ⟨oc__law_key, od__law_key, .func (PySem.W.fnOf "_law_key" "_law_key" (aM dn) (aH dn) (ai dn) .none kV__law_key dc__law_key pm__law_key an__law_key cd__law_key ct__law_key), sl__law_key⟩) (c__law_key : PySem.W.codeIn K cd__law_key "_law_key" = true) (k__law_key : PySem.W.keepIn K (.ref f__law_key) = true)
  (a_children_of : PySem.W.nsIn K mainGlobals "children_of" = some (some (.ref f_children_of))) (l_children_of : K.lookup f_children_of = some ⟨oc_children_of, od_children_of, .func (PySem.W.fnOf "children_of" "children_of" (aM bI) (aH bI) (ai bI) .none kV_children_of dc_children_of pm_children_of an_children_of cd_children_of ct_children_of), sl_children_of⟩) (c_children_of : PySem.W.codeIn K cd_children_of "children_of" = true) (k_children_of : PySem.W.keepIn K (.ref f_children_of) = true)
  (a_earliest_places : PySem.W.nsIn K mainGlobals "earliest_places" = some (some (.ref f_earliest_places))) (l_earliest_places : K.lookup f_earliest_places = some ⟨oc_earliest_places, od_earliest_places, .func (PySem.W.fnOf "earliest_places" "earliest_places" (aM aV) (aH aV) (ai aV) .none kV_earliest_places dc_earliest_places pm_earliest_places an_earliest_places cd_earliest_places ct_earliest_places), sl_earliest_places⟩) (c_earliest_places : PySem.W.codeIn K cd_earliest_places "earliest_places" = true) (k_earliest_places : PySem.W.keepIn K (.ref f_earliest_places) = true)
  (a_latest_places : PySem.W.nsIn K mainGlobals "latest_places" = some (some (.ref f_latest_places))) (l_latest_places : K.lookup f_latest_places = some ⟨oc_latest_places, od_latest_places, .func (PySem.W.fnOf "latest_places" "latest_places" (aM bj) (aH bj) (ai bj) .none kV_latest_places dc_latest_places pm_latest_places an_latest_places cd_latest_places ct_latest_places), sl_latest_places⟩) (c_latest_places : PySem.W.codeIn K cd_latest_places "latest_places" = true) (k_latest_places : PySem.W.keepIn K (.ref f_latest_places) = true)
  (a_moved_to_side : PySem.W.nsIn K mainGlobals "moved_to_side" = some (some (.ref f_moved_to_side))) (l_moved_to_side : K.lookup f_moved_to_side = some ⟨oc_moved_to_side, od_moved_to_side, .func (PySem.W.fnOf "moved_to_side" "moved_to_side" (aM a8) (aH a8) (ai a8) .none kV_moved_to_side dc_moved_to_side pm_moved_to_side an_moved_to_side cd_moved_to_side ct_moved_to_side), sl_moved_to_side⟩) (c_moved_to_side : PySem.W.codeIn K cd_moved_to_side "moved_to_side" = true) (k_moved_to_side : PySem.W.keepIn K (.ref f_moved_to_side) = true)
  (a__law_label : PySem.W.nsIn K mainGlobals "_law_label" = some (some (.ref f__law_label))) (l__law_label : K.lookup f__law_label = some ⟨oc__law_label, od__law_label, .func (PySem.W.fnOf "_law_label" "_law_label" (aM b9) (aH b9) (ai b9) .none kV__law_label dc__law_label pm__law_label an__law_label cd__law_label ct__law_label), sl__law_label⟩) (c__law_label : PySem.W.codeIn K cd__law_label "_law_label" = true) (k__law_label : PySem.W.keepIn K (.ref f__law_label) = true)
  (a__law_mirror_tree : PySem.W.nsIn K mainGlobals "_law_mirror_tree" = some (some (.ref f__law_mirror_tree))) (l__law_mirror_tree : K.lookup f__law_mirror_tree = some ⟨oc__law_mirror_tree, od__law_mirror_tree, .func (PySem.W.fnOf "_law_mirror_tree" "_law_mirror_tree" (aM aY) (aH aY) (ai aY) .none kV__law_mirror_tree dc__law_mirror_tree pm__law_mirror_tree an__law_mirror_tree cd__law_mirror_tree ct__law_mirror_tree), sl__law_mirror_tree⟩) (c__law_mirror_tree : PySem.W.codeIn K cd__law_mirror_tree "_law_mirror_tree" = true) (k__law_mirror_tree : PySem.W.keepIn K (.ref f__law_mirror_tree) = true)
  (a__law_relabelled : PySem.W.nsIn K mainGlobals "_law_relabelled" = some (some (.ref f__law_relabelled))) (l__law_relabelled : K.lookup f__law_relabelled = some ⟨oc__law_relabelled, od__law_relabelled, .func (PySem.W.fnOf "_law_relabelled" "_law_relabelled" (aM a_) (aH a_) (ai a_) .none kV__law_relabelled dc__law_relabelled pm__law_relabelled an__law_relabelled cd__law_relabelled ct__law_relabelled), sl__law_relabelled⟩) (c__law_relabelled : PySem.W.codeIn K cd__law_relabelled "_law_relabelled" = true) (k__law_relabelled : PySem.W.keepIn K (.ref f__law_relabelled) = true)
  (a__law_apart : PySem.W.nsIn K mainGlobals "_law_apart" = some (some (.ref f__law_apart))) (l__law_apart : K.lookup f__law_apart = some ⟨oc__law_apart, od__law_apart, .func (PySem.W.fnOf "_law_apart" "_law_apart" (aM bL) (aH bL) (ai bL) .none kV__law_apart dc__law_apart pm__law_apart an__law_apart cd__law_apart ct__law_apart), sl__law_apart⟩) (c__law_apart : PySem.W.codeIn K cd__law_apart "_law_apart" = true) (k__law_apart : PySem.W.keepIn K (.ref f__law_apart) = true)
  (a__law_alike : PySem.W.nsIn K mainGlobals "_law_alike" = some (some (.ref f__law_alike))) (l__law_alike : K.lookup f__law_alike = some ⟨oc__law_alike, od__law_alike, .func (PySem.W.fnOf "_law_alike" "_law_alike" (aM bh) (aH bh) (ai bh) .none kV__law_alike dc__law_alike pm__law_alike an__law_alike cd__law_alike ct__law_alike), sl__law_alike⟩) (c__law_alike : PySem.W.codeIn K cd__law_alike "_law_alike" = true) (k__law_alike : PySem.W.keepIn K (.ref f__law_alike) = true)
  (a_room_of : PySem.W.nsIn K mainGlobals "room_of" = some (some (.ref f_room_of))) (l_room_of : K.lookup f_room_of = some ⟨oc_room_of, od_room_of, .func (PySem.W.fnOf "room_of" "room_of" (aM eN) (aH eN) (ai eN) .none kV_room_of dc_room_of pm_room_of an_room_of cd_room_of ct_room_of), sl_room_of⟩) (c_room_of : PySem.W.codeIn K cd_room_of "room_of" = true) (k_room_of : PySem.W.keepIn K (.ref f_room_of) = true)
  (a__law_tree : PySem.W.nsIn K mainGlobals "_law_tree" = some (some (.ref f__law_tree))) (l__law_tree : K.lookup f__law_tree = some ⟨oc__law_tree, od__law_tree, .func (PySem.W.fnOf "_law_tree" "_law_tree" (aM cJ) (aH cJ) (ai cJ) .none kV__law_tree dc__law_tree pm__law_tree an__law_tree cd__law_tree ct__law_tree), sl__law_tree⟩) (c__law_tree : PySem.W.codeIn K cd__law_tree "_law_tree" = true) (k__law_tree : PySem.W.keepIn K (.ref f__law_tree) = true)
  (a_stands_below : PySem.W.nsIn K mainGlobals "stands_below" = some (some (.ref f_stands_below))) (l_stands_below : K.lookup f_stands_below = some ⟨oc_stands_below, od_stands_below, .func (PySem.W.fnOf "stands_below" "stands_below" (aM bC) (aH bC) (ai bC) .none kV_stands_below dc_stands_below pm_stands_below an_stands_below cd_stands_below ct_stands_below), sl_stands_below⟩) (c_stands_below : PySem.W.codeIn K cd_stands_below "stands_below" = true) (k_stands_below : PySem.W.keepIn K (.ref f_stands_below) = true)
  (a__law_family : PySem.W.nsIn K mainGlobals "_law_family" = some (some (.ref f__law_family))) (l__law_family : K.lookup f__law_family = some ⟨oc__law_family, od__law_family, .func (PySem.W.fnOf "_law_family" "_law_family" (aM cc) (aH cc) (ai cc) .none kV__law_family dc__law_family pm__law_family an__law_family cd__law_family ct__law_family), sl__law_family⟩) (c__law_family : PySem.W.codeIn K cd__law_family "_law_family" = true) (k__law_family : PySem.W.keepIn K (.ref f__law_family) = true)
  (a_pieces : PySem.W.nsIn K mainGlobals "pieces" = some (some (.ref f_pieces))) (l_pieces : K.lookup f_pieces = some ⟨oc_pieces, od_pieces, .func (PySem.W.fnOf "pieces" "pieces" (aM eg) (aH eg) (ai eg) .none kV_pieces dc_pieces pm_pieces an_pieces cd_pieces ct_pieces), sl_pieces⟩) (c_pieces : PySem.W.codeIn K cd_pieces "pieces" = true) (k_pieces : PySem.W.keepIn K (.ref f_pieces) = true)
  (a__law_some_tree : PySem.W.nsIn K mainGlobals "_law_some_tree" = some (some (.ref f__law_some_tree))) (l__law_some_tree : K.lookup f__law_some_tree = some ⟨oc__law_some_tree, od__law_some_tree, .func (PySem.W.fnOf "_law_some_tree" "_law_some_tree" (aM bo) (aH bo) (ai bo) .none kV__law_some_tree dc__law_some_tree pm__law_some_tree an__law_some_tree cd__law_some_tree ct__law_some_tree), sl__law_some_tree⟩) (c__law_some_tree : PySem.W.codeIn K cd__law_some_tree "_law_some_tree" = true) (k__law_some_tree : PySem.W.keepIn K (.ref f__law_some_tree) = true)
  (a_drawn : PySem.W.nsIn K mainGlobals "drawn" = some (some (.ref f_drawn))) (l_drawn : K.lookup f_drawn = some ⟨oc_drawn, od_drawn, .func (PySem.W.fnOf "drawn" "drawn" (aM gP) (aH gP) (ai gP) .none kV_drawn dc_drawn pm_drawn an_drawn cd_drawn ct_drawn), sl_drawn⟩) (c_drawn : PySem.W.codeIn K cd_drawn "drawn" = true) (k_drawn : PySem.W.keepIn K (.ref f_drawn) = true)
  (a__law_draws : PySem.W.nsIn K mainGlobals "_law_draws" = some (some (.ref f__law_draws))) (l__law_draws : K.lookup f__law_draws = some ⟨oc__law_draws, od__law_draws, .func (PySem.W.fnOf "_law_draws" "_law_draws" (aM cP) (aH cP) (ai cP) .none kV__law_draws dc__law_draws pm__law_draws an__law_draws cd__law_draws ct__law_draws), sl__law_draws⟩) (c__law_draws : PySem.W.codeIn K cd__law_draws "_law_draws" = true) (k__law_draws : PySem.W.keepIn K (.ref f__law_draws) = true)
  (a_law : PySem.W.nsIn K mainGlobals "law" = some (some (.ref f_law))) (l_law : K.lookup f_law = some ⟨oc_law, od_law, .func (PySem.W.fnOf "law" "law" (aM jr) (aH jr) (ai jr) .none kV_law dc_law pm_law an_law cd_law ct_law), sl_law⟩) (c_law : PySem.W.codeIn K cd_law "law" = true) (k_law : PySem.W.keepIn K (.ref f_law) = true)
  (z_bool : PySem.W.nsIn K mainGlobals "bool" = some none)
  (z_enumerate : PySem.W.nsIn K mainGlobals "enumerate" = some none)
  (z_int : PySem.W.nsIn K mainGlobals "int" = some none)
  (z_isinstance : PySem.W.nsIn K mainGlobals "isinstance" = some none)
  (z_len : PySem.W.nsIn K mainGlobals "len" = some none)
  (z_list : PySem.W.nsIn K mainGlobals "list" = some none)
  (z_max : PySem.W.nsIn K mainGlobals "max" = some none)
  (z_min : PySem.W.nsIn K mainGlobals "min" = some none)
  (z_range : PySem.W.nsIn K mainGlobals "range" = some none)
  (z_zip : PySem.W.nsIn K mainGlobals "zip" = some none)
  (g_SHREDS : PySem.W.nsIn K mainGlobals "SHREDS" = some (some (.int 256 tk_SHREDS))) :
  ∃ fd : FuncData, (∀ (s : Shared) (v : Value), BindsTo s fd ⟨[v], []⟩ [("_law_script", v)]) ∧ ∀ base : Heap, K.In base → base.Ns mainGlobals mg → wD l.prog base → FnOk l.prog w K mg base CX0 35 fa fd ["_law_script"] (sp3 K mg ma) := by
 have e := hfa.symm.trans (PySem.W.mg_of X G a_law);cases e;have T : Txt K mg := ⟨PySem.W.mg_none_of X G z_bool, PySem.W.mg_none_of X G z_enumerate, PySem.W.mg_none_of X G z_int, PySem.W.mg_none_of X G z_isinstance, PySem.W.mg_none_of X G z_len, PySem.W.mg_none_of X G z_list, PySem.W.mg_none_of X G z_max, PySem.W.mg_none_of X G z_min, PySem.W.mg_none_of X G z_range, PySem.W.mg_none_of X G z_zip, ⟨_, PySem.W.mg_of X G g_SHREDS⟩⟩;have F_check_node := bA (st := cK) l_check_node c_check_node k_check_node;have D_check_node : Def K mg "check_node" cK ["tree", "node"] _ _ := ⟨F_check_node, PySem.W.mg_of X G a_check_node, F_check_node.binds (ps := ["tree", "node"]) fun _ _ _ _ _ _ us hl => by obtain ⟨_, _, rfl⟩ := ex2 hl; rfl⟩
 have F_reaches := bA (st := du) l_reaches c_reaches k_reaches;have D_reaches : Def K mg "reaches" du ["tree"] _ _ := ⟨F_reaches, PySem.W.mg_of X G a_reaches, F_reaches.binds (ps := ["tree"]) fun _ _ _ _ _ _ us hl => by obtain ⟨_, rfl⟩ := ex1 hl; rfl⟩
 have F_nearest := bA (st := dB) l_nearest c_nearest k_nearest;have D_nearest : Def K mg "nearest" dB ["one", "other", "gap"] _ _ := ⟨F_nearest, PySem.W.mg_of X G a_nearest, F_nearest.binds (ps := ["one", "other", "gap"]) fun _ _ _ _ _ _ us hl => by obtain ⟨_, _, _, rfl⟩ := ex3 hl; rfl⟩
 have F_joined_outline := bA (st := aL) l_joined_outline c_joined_outline k_joined_outline;have D_joined_outline : Def K mg "joined_outline" aL ["outlines", "stands"] _ _ := ⟨F_joined_outline, PySem.W.mg_of X G a_joined_outline, F_joined_outline.binds (ps := ["outlines", "stands"]) fun _ _ _ _ _ _ us hl => by obtain ⟨_, _, rfl⟩ := ex2 hl; rfl⟩
 have F__law_letters := bA (st := bw) l__law_letters c__law_letters k__law_letters;have D__law_letters : Def K mg "_law_letters" bw ["_law_number", "_law_size"] _ _ := ⟨F__law_letters, PySem.W.mg_of X G a__law_letters, F__law_letters.binds (ps := ["_law_number", "_law_size"]) fun _ _ _ _ _ _ us hl => by obtain ⟨_, _, rfl⟩ := ex2 hl; rfl⟩
 have F__law_mirror_order := bA (st := aO) l__law_mirror_order c__law_mirror_order k__law_mirror_order;have D__law_mirror_order : Def K mg "_law_mirror_order" aO ["_law_tree_here"] _ _ := ⟨F__law_mirror_order, PySem.W.mg_of X G a__law_mirror_order, F__law_mirror_order.binds (ps := ["_law_tree_here"]) fun _ _ _ _ _ _ us hl => by obtain ⟨_, rfl⟩ := ex1 hl; rfl⟩
 have F__law_hung := bA (st := dh) l__law_hung c__law_hung k__law_hung;have D__law_hung : Def K mg "_law_hung" dh ["_law_tree_here", "_law_shift"] _ _ := ⟨F__law_hung, PySem.W.mg_of X G a__law_hung, F__law_hung.binds (ps := ["_law_tree_here", "_law_shift"]) fun _ _ _ _ _ _ us hl => by obtain ⟨_, _, rfl⟩ := ex2 hl; rfl⟩
 have F__law_whole := bA (st := cI) l__law_whole c__law_whole k__law_whole;have D__law_whole : Def K mg "_law_whole" cI ["_law_found"] _ _ := ⟨F__law_whole, PySem.W.mg_of X G a__law_whole, F__law_whole.binds (ps := ["_law_found"]) fun _ _ _ _ _ _ us hl => by obtain ⟨_, rfl⟩ := ex1 hl; rfl⟩
 have F__law_levels := bA (st := bK) l__law_levels c__law_levels k__law_levels;have D__law_levels : Def K mg "_law_levels" bK ["_law_tree_here"] _ _ := ⟨F__law_levels, PySem.W.mg_of X G a__law_levels, F__law_levels.binds (ps := ["_law_tree_here"]) fun _ _ _ _ _ _ us hl => by obtain ⟨_, rfl⟩ := ex1 hl; rfl⟩
 have F__law_children := bA (st := bc) l__law_children c__law_children k__law_children;have D__law_children : Def K mg "_law_children" bc ["_law_tree_here"] _ _ := ⟨F__law_children, PySem.W.mg_of X G a__law_children, F__law_children.binds (ps := ["_law_tree_here"]) fun _ _ _ _ _ _ us hl => by obtain ⟨_, rfl⟩ := ex1 hl; rfl⟩
 have F__law_key := bA (st := dn) l__law_key c__law_key k__law_key;have D__law_key : Def K mg "_law_key" dn ["_law_tree_here", "_law_some", "_law_node", "_law_turned"] _ _ := ⟨F__law_key, PySem.W.mg_of X G a__law_key, F__law_key.binds (ps := ["_law_tree_here", "_law_some", "_law_node", "_law_turned"]) fun _ _ _ _ _ _ us hl => match us, hl with | [_, _, _, _], _ => rfl⟩
 have F_children_of := bA (st := bI) l_children_of c_children_of k_children_of;have D_children_of : Def K mg "children_of" bI ["tree", "node"] _ _ := ⟨F_children_of, PySem.W.mg_of X G a_children_of, F_children_of.binds (ps := ["tree", "node"]) fun _ _ _ _ _ _ us hl => by obtain ⟨_, _, rfl⟩ := ex2 hl; rfl⟩
 have F_earliest_places := bA (st := aV) l_earliest_places c_earliest_places k_earliest_places;have D_earliest_places : Def K mg "earliest_places" aV ["outlines", "gap"] _ _ := ⟨F_earliest_places, PySem.W.mg_of X G a_earliest_places, F_earliest_places.binds (ps := ["outlines", "gap"]) fun _ _ _ _ _ _ us hl => by obtain ⟨_, _, rfl⟩ := ex2 hl; rfl⟩
 have F_latest_places := bA (st := bj) l_latest_places c_latest_places k_latest_places;have D_latest_places : Def K mg "latest_places" bj ["outlines", "gap", "last"] _ _ := ⟨F_latest_places, PySem.W.mg_of X G a_latest_places, F_latest_places.binds (ps := ["outlines", "gap", "last"]) fun _ _ _ _ _ _ us hl => by obtain ⟨_, _, _, rfl⟩ := ex3 hl; rfl⟩
 have F_moved_to_side := bA (st := a8) l_moved_to_side c_moved_to_side k_moved_to_side;have D_moved_to_side : Def K mg "moved_to_side" a8 ["tree", "places", "unit"] _ _ := ⟨F_moved_to_side, PySem.W.mg_of X G a_moved_to_side, F_moved_to_side.binds (ps := ["tree", "places", "unit"]) fun _ _ _ _ _ _ us hl => by obtain ⟨_, _, _, rfl⟩ := ex3 hl; rfl⟩
 have F__law_label := bA (st := b9) l__law_label c__law_label k__law_label;have D__law_label : Def K mg "_law_label" b9 ["_law_number", "_law_most"] _ _ := ⟨F__law_label, PySem.W.mg_of X G a__law_label, F__law_label.binds (ps := ["_law_number", "_law_most"]) fun _ _ _ _ _ _ us hl => by obtain ⟨_, _, rfl⟩ := ex2 hl; rfl⟩
 have F__law_mirror_tree := bA (st := aY) l__law_mirror_tree c__law_mirror_tree k__law_mirror_tree;have D__law_mirror_tree : Def K mg "_law_mirror_tree" aY ["_law_tree_here"] _ _ := ⟨F__law_mirror_tree, PySem.W.mg_of X G a__law_mirror_tree, F__law_mirror_tree.binds (ps := ["_law_tree_here"]) fun _ _ _ _ _ _ us hl => by obtain ⟨_, rfl⟩ := ex1 hl; rfl⟩
 have F__law_relabelled := bA (st := a_) l__law_relabelled c__law_relabelled k__law_relabelled;have D__law_relabelled : Def K mg "_law_relabelled" a_ ["_law_tree_here", "_law_draws_here", "_law_start"] _ _ := ⟨F__law_relabelled, PySem.W.mg_of X G a__law_relabelled, F__law_relabelled.binds (ps := ["_law_tree_here", "_law_draws_here", "_law_start"]) fun _ _ _ _ _ _ us hl => by obtain ⟨_, _, _, rfl⟩ := ex3 hl; rfl⟩
 have F__law_apart := bA (st := bL) l__law_apart c__law_apart k__law_apart;have D__law_apart : Def K mg "_law_apart" bL ["_law_tree_here", "_law_places", "_law_gap"] _ _ := ⟨F__law_apart, PySem.W.mg_of X G a__law_apart, F__law_apart.binds (ps := ["_law_tree_here", "_law_places", "_law_gap"]) fun _ _ _ _ _ _ us hl => by obtain ⟨_, _, _, rfl⟩ := ex3 hl; rfl⟩
 have F__law_alike := bA (st := bh) l__law_alike c__law_alike k__law_alike;have D__law_alike : Def K mg "_law_alike" bh ["_law_tree_here", "_law_some", "_law_places"] _ _ := ⟨F__law_alike, PySem.W.mg_of X G a__law_alike, F__law_alike.binds (ps := ["_law_tree_here", "_law_some", "_law_places"]) fun _ _ _ _ _ _ us hl => by obtain ⟨_, _, _, rfl⟩ := ex3 hl; rfl⟩
 have F_room_of := bA (st := eN) l_room_of c_room_of k_room_of;have D_room_of : Def K mg "room_of" eN ["outlines", "gap"] _ _ := ⟨F_room_of, PySem.W.mg_of X G a_room_of, F_room_of.binds (ps := ["outlines", "gap"]) fun _ _ _ _ _ _ us hl => by obtain ⟨_, _, rfl⟩ := ex2 hl; rfl⟩
 have F__law_tree := bA (st := cJ) l__law_tree c__law_tree k__law_tree;have D__law_tree : Def K mg "_law_tree" cJ ["_law_draws_here", "_law_start", "_law_many", "_law_most", "_law_deep"] _ _ := ⟨F__law_tree, PySem.W.mg_of X G a__law_tree, F__law_tree.binds (ps := ["_law_draws_here", "_law_start", "_law_many", "_law_most", "_law_deep"]) fun _ _ _ _ _ _ us hl => match us, hl with | [_, _, _, _, _], _ => rfl⟩
 have F_stands_below := bA (st := bC) l_stands_below c_stands_below k_stands_below;have D_stands_below : Def K mg "stands_below" bC ["outlines", "gap"] _ _ := ⟨F_stands_below, PySem.W.mg_of X G a_stands_below, F_stands_below.binds (ps := ["outlines", "gap"]) fun _ _ _ _ _ _ us hl => by obtain ⟨_, _, rfl⟩ := ex2 hl; rfl⟩
 have F__law_family := bA (st := cc) l__law_family c__law_family k__law_family;have D__law_family : Def K mg "_law_family" cc ["_law_draws_here", "_law_start", "_law_many"] _ _ := ⟨F__law_family, PySem.W.mg_of X G a__law_family, F__law_family.binds (ps := ["_law_draws_here", "_law_start", "_law_many"]) fun _ _ _ _ _ _ us hl => by obtain ⟨_, _, _, rfl⟩ := ex3 hl; rfl⟩
 have F_pieces := bA (st := eg) l_pieces c_pieces k_pieces;have D_pieces : Def K mg "pieces" eg ["tree", "gap"] _ _ := ⟨F_pieces, PySem.W.mg_of X G a_pieces, F_pieces.binds (ps := ["tree", "gap"]) fun _ _ _ _ _ _ us hl => by obtain ⟨_, _, rfl⟩ := ex2 hl; rfl⟩
 have F__law_some_tree := bA (st := bo) l__law_some_tree c__law_some_tree k__law_some_tree;have D__law_some_tree : Def K mg "_law_some_tree" bo ["_law_draws_here"] _ _ := ⟨F__law_some_tree, PySem.W.mg_of X G a__law_some_tree, F__law_some_tree.binds (ps := ["_law_draws_here"]) fun _ _ _ _ _ _ us hl => by obtain ⟨_, rfl⟩ := ex1 hl; rfl⟩
 have F_drawn := bA (st := gP) l_drawn c_drawn k_drawn;have D_drawn : Def K mg "drawn" gP ["tree", "gap"] _ _ := ⟨F_drawn, PySem.W.mg_of X G a_drawn, F_drawn.binds (ps := ["tree", "gap"]) fun _ _ _ _ _ _ us hl => by obtain ⟨_, _, rfl⟩ := ex2 hl; rfl⟩
 have F__law_draws := bA (st := cP) l__law_draws c__law_draws k__law_draws;have D__law_draws : Def K mg "_law_draws" cP ["_law_script", "_law_many"] _ _ := ⟨F__law_draws, PySem.W.mg_of X G a__law_draws, F__law_draws.binds (ps := ["_law_script", "_law_many"]) fun _ _ _ _ _ _ us hl => by obtain ⟨_, _, rfl⟩ := ex2 hl; rfl⟩
 have F_law := bA (st := jr) l_law c_law k_law;refine ⟨PySem.W.fnOf "law" "law" (aM jr) (aH jr) (ai jr) .none kV_law dc_law pm_law an_law cd_law ct_law, fun s v => .of_eq rfl, fun base _ _ S => ?_⟩
 have G_check_node : FnOk l.prog w K mg base CX0 1 _ _ _ _ := mO D_check_node.F T;have G_reaches : FnOk l.prog w K mg base CX0 1 _ _ _ _ := qo D_reaches.F T;have G_nearest : FnOk l.prog w K mg base CX0 1 _ _ _ _ := qA D_nearest.F T;have G_joined_outline : FnOk l.prog w K mg base CX0 1 _ _ _ _ := jP D_joined_outline.F T;have G__law_letters : FnOk l.prog w K mg base CX0 1 _ _ _ _ := kP D__law_letters.F T;have G__law_mirror_order : FnOk l.prog w K mg base CX0 1 _ _ _ _ := iS D__law_mirror_order.F T;have G__law_hung : FnOk l.prog w K mg base CX0 1 _ _ _ _ := n9 D__law_hung.F T;have G__law_whole : FnOk l.prog w K mg base CX0 1 _ _ _ _ := mL D__law_whole.F T;have G__law_levels : FnOk l.prog w K mg base CX0 1 _ _ _ _ := mD D__law_levels.F T;have G__law_children : FnOk l.prog w K mg base CX0 1 _ _ _ _ := ka D__law_children.F T;have G__law_key : FnOk l.prog w K mg base CX0 1 _ _ _ _ := pW D__law_key.F T;have G_children_of : FnOk l.prog w K mg base CX0 2 _ _ _ _ := lY D_children_of.F T D_check_node G_check_node;have G_earliest_places : FnOk l.prog w K mg base CX0 2 _ _ _ _ := jB D_earliest_places.F T D_nearest G_nearest;have G_latest_places : FnOk l.prog w K mg base CX0 2 _ _ _ _ := ki D_latest_places.F T D_nearest G_nearest;have G_moved_to_side : FnOk l.prog w K mg base CX0 2 _ _ _ _ := kf D_moved_to_side.F T D_reaches G_reaches;have G__law_label : FnOk l.prog w K mg base CX0 2 _ _ _ _ := mG D__law_label.F T D__law_letters G__law_letters;have G__law_mirror_tree : FnOk l.prog w K mg base CX0 2 _ _ _ _ := jk D__law_mirror_tree.F T D__law_mirror_order G__law_mirror_order;have G__law_relabelled : FnOk l.prog w K mg base CX0 2 _ _ _ _ := jJ D__law_relabelled.F T D__law_letters G__law_letters;have G__law_apart : FnOk l.prog w K mg base CX0 2 _ _ _ _ := mR D__law_apart.F T D__law_levels G__law_levels;have G__law_alike : FnOk l.prog w K mg base CX0 2 _ _ _ _ := mE D__law_alike.F T D__law_key G__law_key;have G_room_of : FnOk l.prog w K mg base CX0 3 _ _ _ _ := qK D_room_of.F T D_earliest_places G_earliest_places D_latest_places G_latest_places;have G__law_tree : FnOk l.prog w K mg base CX0 3 _ _ _ _ := ny D__law_tree.F T D__law_label G__law_label;have G_stands_below : FnOk l.prog w K mg base CX0 4 _ _ _ _ := kU D_stands_below.F T D_room_of G_room_of;have G__law_family : FnOk l.prog w K mg base CX0 4 _ _ _ _ := l7 D__law_family.F T D__law_label G__law_label D__law_tree G__law_tree D__law_mirror_tree G__law_mirror_tree D__law_relabelled G__law_relabelled D__law_hung G__law_hung;have G_pieces : FnOk l.prog w K mg base CX0 5 _ _ _ _ := tQ D_pieces.F T D_children_of G_children_of D_reaches G_reaches D_stands_below G_stands_below D_joined_outline G_joined_outline;have G__law_some_tree : FnOk l.prog w K mg base CX0 5 _ _ _ _ := j8 D__law_some_tree.F T D__law_tree G__law_tree D__law_family G__law_family;have G_drawn : FnOk l.prog w K mg base CX0 6 _ _ _ _ := uj D_drawn.F T D_moved_to_side G_moved_to_side D_pieces G_pieces;have G__law_draws : FnOk l.prog w K mg base CX0 34 _ _ _ _ := mF D__law_draws.F T S;exact Bf F_law T D_drawn G_drawn D__law_draws G__law_draws D__law_some_tree G__law_some_tree D__law_whole G__law_whole D__law_children G__law_children D__law_apart G__law_apart D__law_alike G__law_alike
end B
open PySem PySem.W PyProof.Rows
set_option maxRecDepth 100000 in
set_option maxHeartbeats 0 in
theorem PySem.Challenge.cw_boughdraw_k34_whole_drawn_by_the_rules_holds : PySem.Challenge.rw_boughdraw_k34_whole_drawn_by_the_rules.Holds := by
 w_on; o_law; k_head; (case hw => w_witness2)
 k_fill
 refine L3.DR (l := PySem.Challenge.rw_boughdraw_k34_whole_drawn_by_the_rules) (x := "_law_script") (k := 35) (fn := B.ma) (by decide +kernel) rfl rfl ⟨rfl, by decide, by decide⟩ (fun w h Y => PySem.W.kIn_of Y) B.vJ rfl ?F
 case F =>
  intro w mg fa h KX G hmg;refine' B.all_mk KX G hmg ?a_check_node ?l_check_node ?c_check_node ?k_check_node ?a_reaches ?l_reaches ?c_reaches ?k_reaches ?a_nearest ?l_nearest ?c_nearest ?k_nearest ?a_joined_outline ?l_joined_outline ?c_joined_outline ?k_joined_outline ?a__law_letters ?l__law_letters ?c__law_letters ?k__law_letters ?a__law_mirror_order ?l__law_mirror_order ?c__law_mirror_order ?k__law_mirror_order ?a__law_hung ?l__law_hung ?c__law_hung ?k__law_hung ?a__law_whole ?l__law_whole ?c__law_whole ?k__law_whole ?a__law_levels ?l__law_levels ?c__law_levels ?k__law_levels ?a__law_children ?l__law_children ?c__law_children ?k__law_children ?a__law_key ?l__law_key ?c__law_key ?k__law_key ?a_children_of ?l_children_of ?c_children_of ?k_children_of ?a_earliest_places ?l_earliest_places ?c_earliest_places ?k_earliest_places ?a_latest_places ?l_latest_places ?c_latest_places ?k_latest_places ?a_moved_to_side ?l_moved_to_side ?c_moved_to_side ?k_moved_to_side ?a__law_label ?l__law_label ?c__law_label ?k__law_label ?a__law_mirror_tree ?l__law_mirror_tree ?c__law_mirror_tree ?k__law_mirror_tree ?a__law_relabelled ?l__law_relabelled ?c__law_relabelled ?k__law_relabelled ?a__law_apart ?l__law_apart ?c__law_apart ?k__law_apart ?a__law_alike ?l__law_alike ?c__law_alike ?k__law_alike ?a_room_of ?l_room_of ?c_room_of ?k_room_of ?a__law_tree ?l__law_tree ?c__law_tree ?k__law_tree ?a_stands_below ?l_stands_below ?c_stands_below ?k_stands_below ?a__law_family ?l__law_family ?c__law_family ?k__law_family ?a_pieces ?l_pieces ?c_pieces ?k_pieces ?a__law_some_tree ?l__law_some_tree ?c__law_some_tree ?k__law_some_tree ?a_drawn ?l_drawn ?c_drawn ?k_drawn ?a__law_draws ?l__law_draws ?c__law_draws ?k__law_draws ?a_law ?l_law ?c_law ?k_law ?z_bool ?z_enumerate ?z_int ?z_isinstance ?z_len ?z_list ?z_max ?z_min ?z_range ?z_zip ?g_SHREDS
  (case a_check_node => k_is)
  (case l_check_node => k_is)
  (case c_check_node => k_is)
  (case k_check_node => k_is)
  (case a_reaches => k_is)
  (case l_reaches => k_is)
  (case c_reaches => k_is)
  (case k_reaches => k_is)
  (case a_nearest => k_is)
  (case l_nearest => k_is)
  (case c_nearest => k_is)
  (case k_nearest => k_is)
  (case a_joined_outline => k_is)
  (case l_joined_outline => k_is)
  (case c_joined_outline => k_is)
  (case k_joined_outline => k_is)
  (case a__law_letters => k_is)
  (case l__law_letters => k_is)
  (case c__law_letters => k_is)
  (case k__law_letters => k_is)
  (case a__law_mirror_order => k_is)
  (case l__law_mirror_order => k_is)
  (case c__law_mirror_order => k_is)
  (case k__law_mirror_order => k_is)
  (case a__law_hung => k_is)
  (case l__law_hung => k_is)
  (case c__law_hung => k_is)
  (case k__law_hung => k_is)
  (case a__law_whole => k_is)
  (case l__law_whole => k_is)
  (case c__law_whole => k_is)
  (case k__law_whole => k_is)
  (case a__law_levels => k_is)
  (case l__law_levels => k_is)
  (case c__law_levels => k_is)
  (case k__law_levels => k_is)
  (case a__law_children => k_is)
  (case l__law_children => k_is)
  (case c__law_children => k_is)
  (case k__law_children => k_is)
  (case a__law_key => k_is)
  (case l__law_key => k_is)
  (case c__law_key => k_is)
  (case k__law_key => k_is)
  (case a_children_of => k_is)
  (case l_children_of => k_is)
  (case c_children_of => k_is)
  (case k_children_of => k_is)
  (case a_earliest_places => k_is)
  (case l_earliest_places => k_is)
  (case c_earliest_places => k_is)
  (case k_earliest_places => k_is)
  (case a_latest_places => k_is)
  (case l_latest_places => k_is)
  (case c_latest_places => k_is)
  (case k_latest_places => k_is)
  (case a_moved_to_side => k_is)
  (case l_moved_to_side => k_is)
  (case c_moved_to_side => k_is)
  (case k_moved_to_side => k_is)
  (case a__law_label => k_is)
  (case l__law_label => k_is)
  (case c__law_label => k_is)
  (case k__law_label => k_is)
  (case a__law_mirror_tree => k_is)
  (case l__law_mirror_tree => k_is)
  (case c__law_mirror_tree => k_is)
  (case k__law_mirror_tree => k_is)
  (case a__law_relabelled => k_is)
  (case l__law_relabelled => k_is)
  (case c__law_relabelled => k_is)
  (case k__law_relabelled => k_is)
  (case a__law_apart => k_is)
  (case l__law_apart => k_is)
  (case c__law_apart => k_is)
  (case k__law_apart => k_is)
  (case a__law_alike => k_is)
  (case l__law_alike => k_is)
  (case c__law_alike => k_is)
  (case k__law_alike => k_is)
  (case a_room_of => k_is)
  (case l_room_of => k_is)
  (case c_room_of => k_is)
  (case k_room_of => k_is)
  (case a__law_tree => k_is)
  (case l__law_tree => k_is)
  (case c__law_tree => k_is)
  (case k__law_tree => k_is)
  (case a_stands_below => k_is)
  (case l_stands_below => k_is)
  (case c_stands_below => k_is)
  (case k_stands_below => k_is)
  (case a__law_family => k_is)
  (case l__law_family => k_is)
  (case c__law_family => k_is)
  (case k__law_family => k_is)
  (case a_pieces => k_is)
  (case l_pieces => k_is)
  (case c_pieces => k_is)
  (case k_pieces => k_is)
  (case a__law_some_tree => k_is)
  (case l__law_some_tree => k_is)
  (case c__law_some_tree => k_is)
  (case k__law_some_tree => k_is)
  (case a_drawn => k_is)
  (case l_drawn => k_is)
  (case c_drawn => k_is)
  (case k_drawn => k_is)
  (case a__law_draws => k_is)
  (case l__law_draws => k_is)
  (case c__law_draws => k_is)
  (case k__law_draws => k_is)
  (case a_law => k_is)
  (case l_law => k_is)
  (case c_law => k_is)
  (case k_law => k_is)
  (case z_bool => k_is)
  (case z_enumerate => k_is)
  (case z_int => k_is)
  (case z_isinstance => k_is)
  (case z_len => k_is)
  (case z_list => k_is)
  (case z_max => k_is)
  (case z_min => k_is)
  (case z_range => k_is)
  (case z_zip => k_is)
  (case g_SHREDS => k_is)

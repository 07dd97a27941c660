import PyProof.Rows.All
import Wide.All
import OpenK.AllK
import Wide.FinOn
import Lean
import PyProof.EqAt
import PyProof.EqKinds
import PyProof.TupleCall
import PySem.Challenge.RW_boughdraw_k15_hung_refused
set_option Elab.async false
set_option linter.all false
set_option compiler.extract_closed false
set_option maxRecDepth 100000
namespace L2
open PySem PySem.Spec PyProof.Rows
noncomputable abbrev Key := Sum Int Str
noncomputable def ma : Key → Value → Bool
 | .inl k, v => Value.isInt k v
 | .inr x, v => Value.isStrOf x v
noncomputable def EH (w : World) : Key → Int
 | .inl k => hashInt k
 | .inr x => hashStr w x
theorem cH : ∀ {k : Key} {v : Value}, ma k v = true → (∃ i t, k = Sum.inl i ∧ v = Value.int i t) ∨ (∃ x t, k = Sum.inr x ∧ v = Value.str x t)
 | .inl i, v, h => by
  obtain ⟨t, e⟩ := Value.isInt_shape (k := i) (v := v) h;exact .inl ⟨i, t, rfl, e⟩
 | .inr x, v, h => by
  obtain ⟨t, e⟩ := Value.isStrOf_shape (x := x) (v := v) h;exact .inr ⟨x, t, rfl, e⟩
theorem qM (i : Int) (t : Tok) : ma (.inl i) (.int i t) = true := by simp [ma, Value.isInt]
theorem qF (x : Str) (t : Tok) : ma (.inr x) (.str x t) = true := by simp [ma, Value.isStrOf]
theorem Ae (a b : Int) : decide ((Sum.inl a : Key) = Sum.inl b) = (a == b) := by
 by_cases e : a = b
 ·subst e; simp
 ·have h : ¬ (Sum.inl a : Key) = Sum.inl b := fun q => e (Sum.inl.inj q)
  rw [decide_eq_false h];exact (beq_eq_false_iff_ne.mpr e).symm
theorem AD (a b : Str) : decide ((Sum.inr a : Key) = Sum.inr b) = decide (a = b) := by
 by_cases e : a = b
 ·subst e; simp
 ·have h : ¬ (Sum.inr a : Key) = Sum.inr b := fun q => e (Sum.inr.inj q)
  rw [decide_eq_false h, decide_eq_false e]
theorem yX (a : Int) (b : Str) : decide ((Sum.inl a : Key) = Sum.inr b) = false := decide_eq_false (fun q => nomatch q)
theorem y_ (a : Str) (b : Int) : decide ((Sum.inr a : Key) = Sum.inl b) = false := decide_eq_false (fun q => nomatch q)
noncomputable def dI (prog : Program) (w : World) : PySem.KeyKind prog w Key where
 is := ma
 hash := EH w
 inj := fun v a b ha hb => by
  rcases cH ha with ⟨i, t, rfl, rfl⟩ | ⟨x, t, rfl, rfl⟩
  ·rcases cH hb with ⟨j, u, rfl, e⟩ | ⟨y, u, rfl, e⟩
   ·injection e with e1 _; rw [e1]
   ·exact nomatch e
  ·rcases cH hb with ⟨j, u, rfl, e⟩ | ⟨y, u, rfl, e⟩
   ·exact nomatch e
   ·injection e with e1 _; rw [e1]
 byValue := fun k v h => by
  rcases cH h with ⟨i, t, rfl, rfl⟩ | ⟨x, t, rfl, rfl⟩ <;> rfl
 pyHash := fun hv h => by
  rcases cH hv with ⟨i, t, rfl, rfl⟩ | ⟨x, t, rfl, rfl⟩
  ·exact wpAny_pyHash_int h
  ·exact wpAny_pyHash_str h
 eqBool := fun hu hv h => by
  rcases cH hu with ⟨i, t, rfl, rfl⟩ | ⟨x, t, rfl, rfl⟩
  ·rcases cH hv with ⟨j, u, rfl, rfl⟩ | ⟨y, u, rfl, rfl⟩
   ·rw [Ae] at h; exact wpAny_eqBool_int h
   ·rw [yX] at h; exact SeqAt.EqAt.int_str i t y u _ _ _ _ h
  ·rcases cH hv with ⟨j, u, rfl, rfl⟩ | ⟨y, u, rfl, rfl⟩
   ·rw [y_] at h; exact SeqAt.EqAt.str_int x t j u _ _ _ _ h
   ·rw [AD] at h; exact wpAny_eqBool_str h
 «strs» := fun k x t v h => by
  rcases cH h with ⟨i, u, rfl, e⟩ | ⟨y, u, rfl, e⟩
  ·exact nomatch e
  ·injection e with e1 _
   subst e1;cases v <;> rfl
theorem oE (prog : Program) (w : World) (i : Int) (t : Tok) : (dI prog w).is (.inl i) (.int i t) = true := qM i t
theorem ow (prog : Program) (w : World) (x : Str) (t : Tok) : (dI prog w).is (.inr x) (.str x t) = true := qF x t
end L2
namespace L2
open PySem PySem.Spec PyProof.Rows
inductive V where
 | non | bl (b : Bool) | int (i : Int) | str (x : Str) | byt (b : Array UInt8) | flt (b : UInt64) | ref (a : Addr) | ty (n : String)
 deriving DecidableEq
noncomputable def RelV : V → Value → Prop
 | .non, u => u = Value.none
 | .bl b, u => u = Value.bool b
 | .int i, u => ∃ t, u = Value.int i t
 | .str x, u => ∃ t, u = Value.str x t
 | .byt b, u => ∃ t, u = Value.bytes b t
 | .flt b, u => ∃ t, u = Value.float b t
 | .ref a, u => u = Value.ref a
 | .ty n, u => u = Value.type n
noncomputable abbrev Vals : List V → List Value → Prop := Paired RelV
theorem Vals.length {xs : List V} {us : List Value} (r : Vals xs us) : xs.length = us.length := Paired.length r
theorem Vals.get : ∀ {xs : List V} {us : List Value} {i : Nat} {x : V}, Vals xs us → xs[i]? = some x → ∃ u, us[i]? = some u ∧ RelV x u
 | _, _, _, _, .nil, e => by simp at e
 | _, _, 0, _, .cons r _, e => by simp at e; subst e; exact ⟨_, rfl, r⟩
 | _, _, i + 1, x, .cons _ t, e => by
  obtain ⟨u, h1, h2⟩ := Vals.get (i := i) (x := x) t (by simpa using e)
  exact ⟨u, by simpa using h1, h2⟩
theorem Vals.append : ∀ {xs ys : List V} {us ws : List Value}, Vals xs us → Vals ys ws → Vals (xs ++ ys) (us ++ ws)
 | _, _, _, _, .nil, s => s
 | _, _, _, _, .cons r t, s => .cons r (Vals.append t s)
theorem Vals.take : ∀ {xs : List V} {us : List Value} (n : Nat), Vals xs us → Vals (xs.take n) (us.take n)
 | _, _, 0, _ => .nil
 | _, _, _ + 1, .nil => .nil
 | _, _, n + 1, .cons r t => .cons r (Vals.take n t)
theorem Vals.drop : ∀ {xs : List V} {us : List Value} (n : Nat), Vals xs us → Vals (xs.drop n) (us.drop n)
 | _, _, 0, r => r
 | _, _, _ + 1, .nil => .nil
 | _, _, n + 1, .cons _ t => Vals.drop n t
noncomputable def ly : Option V → Option Value → Prop
 | some v, some u => RelV v u
 | none, none => True
 | _, _ => False
noncomputable def KV {κ : Type} : List (κ × V) → List (κ × Value) → Prop := Paired fun (p : κ × V) (q : κ × Value) => p.1 = q.1 ∧ RelV p.2 q.2
noncomputable def kV : Key → V
 | .inl i => .int i
 | .inr x => .str x
inductive HO where
 | lst (xs : List V)
 | tup (xs : List V)
 | dK (kvs : List (Key × V)) | dT (kvs : List (List Key × V))
 | set (S : Int → Bool) (n : Nat)
 | ins (C dx : Addr) (fs : List (Str × V))
 | own (x : Addr)
 | xd (fs : List (Str × V))
 | met (f x : Addr)
 | rng (lo hi : Int)
 | frz (o : Obj) (u : HO)
 | tbl (ps : Array Value)
 | ext (φ : Heap → Prop)
noncomputable abbrev Hp := Addr → Option HO
noncomputable def upd (H : Hp) (a : Addr) (o : HO) : Hp := fun b => if b = a then some o else H b
theorem cm {H : Hp} {a : Addr} {o : HO} : upd H a o a = some o := by unfold upd; rw [if_pos rfl]
theorem aQ {H : Hp} {a b : Addr} {o : HO} (h : b ≠ a) : upd H a o b = H b := by unfold upd; rw [if_neg h]
theorem Eh {H : Hp} {a b : Addr} {o u : HO} (h : H a = some o) (h' : H b = some u) (d : o ≠ u) : a ≠ b := by
 intro e; subst e; rw [h] at h'; exact d (Option.some.inj h')
theorem a9 {H : Hp} {a b : Addr} {o : HO} (h : H a = some o) (h' : H b = none) : a ≠ b := by
 intro e; subst e; rw [h] at h'; cases h'
section
variable (P : Program) (w : World)
noncomputable def dw (H : Hp) (h : Heap) (a : Addr) : HO → Prop
 | .lst xs => xs.length ≤ sizeLine ∧ ∃ (its : List Value) (n : Nat), Vals xs its ∧ h.get? a = some { cls := .type "list", data := .seq its.toArray n }
 | .tup xs => xs.length ≤ sizeLine ∧ ∃ its : List Value, Vals xs its ∧ IsTup h a its.toArray
 | .dK kvs => kvs.length ≤ sizeLine ∧ (a == sysModules) = false ∧ ∃ vs, KV kvs vs ∧ h.DictOf (dI P w) a vs
 | .dT kvs => kvs.length ≤ sizeLine ∧ (a == sysModules) = false ∧ ∃ xs : List (List Key × Addr × Value),
   Paired (fun (p : List Key × V) (q : List Key × Addr × Value) => p.1 = q.1 ∧ H q.2.1 = some (.tup (p.1.map kV)) ∧ RelV p.2 q.2.2) kvs xs ∧
   ∃ o es ep, h.get? a = some o ∧ o.ExactDict ∧ o.data = .dict es ep ∧ es.toList = xs.map (entryOfKey (tupleKind (dI P w))) ∧ (xs.map (·.1)).Nodup
 | .set S n => h.SetOf (intKind P w) a S n
 | .ins C dx fs => H dx = some (.own a) ∧ fs.length ≤ 1000 ∧ dx ≠ a ∧ h.get? a = some (PySem.W.instObj C dx) ∧
   ∃ mA, h.Ns1 dx mA ∧ (∀ f, ly (fs.lookup f) (mA f)) ∧ PySem.Within mA (fs.map (·.1))
 | .own _ => ∃ o, h.get? a = some o
 | .xd fs => ∃ mA, h.Ns1 a mA ∧ ∀ f, ly (fs.lookup f) (mA f)
 | .rng lo hi => ∃ t u v, h.get? a = some { cls := .type "range", data := .fields #[.int lo t, .int hi u, .int 1 v] }
 | .frz o u => h.get? a = some o ∧ dw H h a u
 | .tbl ps => h.get? a = some { cls := .none, data := .fields ps }
 | .met f x => h.get? a = some (PySem.W.methodObj (.ref f) (.ref x))
 | .ext φ => φ h ∧ (∃ o, h.get? a = some o) ∧ ∀ h1 h2 : Heap, φ h1 → (∀ o, h1.get? a = some o → h2.get? a = some o) → φ h2
noncomputable def HOk (H : Hp) (h : Heap) : Prop := ∀ a o, H a = some o → dw P w H h a o
end
section
variable {P : Program} {w : World} {H H' : Hp} {h h' : Heap} {a : Addr} {o : HO}
theorem dw.lt (x : dw P w H h a o) : a < h.objs.size := by
 cases o with
 | lst xs => obtain ⟨_, _, _, _, e⟩ := x; exact Heap.lt_size e
 | tup xs => obtain ⟨_, _, _, p⟩ := x; exact p.lt
 | dK kvs => obtain ⟨_, _, _, _, o, _, _, e, _⟩ := x; exact Heap.lt_size e
 | dT kvs => obtain ⟨_, _, _, _, o, _, _, e, _⟩ := x; exact Heap.lt_size e
 | set S n => obtain ⟨o, _, _, _, e, _⟩ := x; exact Heap.lt_size e
 | ins C dx fs => obtain ⟨_, _, _, e, _⟩ := x; exact Heap.lt_size e
 | own y => obtain ⟨_, e⟩ := x; exact Heap.lt_size e
 | xd fs => obtain ⟨_, ⟨_, _, _, e, _⟩, _⟩ := x; exact Heap.lt_size e
 | rng lo hi => obtain ⟨_, _, _, e⟩ := x; exact Heap.lt_size e
 | frz ob u => obtain ⟨e, _⟩ := x; exact Heap.lt_size e
 | tbl ps => exact Heap.lt_size (show h.get? a = some _ from x)
 | met f y => exact Heap.lt_size (show h.get? a = some _ from x)
 | ext φ => obtain ⟨_, ⟨_, e⟩, _⟩ := x; exact Heap.lt_size e
theorem Paired.mapP {α β : Type} {F G : α → β → Prop} : ∀ {l₁ : List α} {l₂ : List β}, Paired F l₁ l₂ → (∀ a b, F a b → G a b) → Paired G l₁ l₂
 | _, _, .nil, _ => .nil
 | _, _, .cons r t, f => .cons (f _ _ r) (Paired.mapP t f)
theorem dw.stay (x : dw P w H h a o) (k : ∀ b u, (b = a ∨ H b = some (.own a)) → h.get? b = some u → h'.get? b = some u)
  (ho : ∀ b, H b = some (.own a) → H' b = some (.own a)) (ht : ∀ b xs, H b = some (.tup xs) → H' b = some (.tup xs)) : dw P w H' h' a o := by
 induction o with
 | lst xs => obtain ⟨z, its, n, r, e⟩ := x; exact ⟨z, its, n, r, k _ _ (.inl rfl) e⟩
 | tup xs => obtain ⟨z, its, r, ob, e, c⟩ := x; exact ⟨z, its, r, ob, k _ _ (.inl rfl) e, c⟩
 | dK kvs => obtain ⟨z, y, vs, r, ob, es, ep, e, c⟩ := x; exact ⟨z, y, vs, r, ob, es, ep, k _ _ (.inl rfl) e, c⟩
 | dT kvs =>
  obtain ⟨z, y, xs, r, ob, es, ep, e, c⟩ := x;exact ⟨z, y, xs, Paired.mapP r fun p q z => ⟨z.1, ht _ _ z.2.1, z.2.2⟩, ob, es, ep, k _ _ (.inl rfl) e, c⟩
 | set S n => obtain ⟨ob, es, ep, t, e, c⟩ := x; exact ⟨ob, es, ep, t, k _ _ (.inl rfl) e, c⟩
 | ins C dx fs =>
  obtain ⟨d, z, ne, e, mA, ⟨od, es, ep, e2, c⟩, r⟩ := x;exact ⟨ho _ d, z, ne, k _ _ (.inl rfl) e, mA, ⟨od, es, ep, k _ _ (.inr d) e2, c⟩, r⟩
 | own y => obtain ⟨ob, e⟩ := x; exact ⟨ob, k _ _ (.inl rfl) e⟩
 | xd fs => obtain ⟨mA, ⟨od, es, ep, e, c⟩, r⟩ := x; exact ⟨mA, ⟨od, es, ep, k _ _ (.inl rfl) e, c⟩, r⟩
 | rng lo hi => obtain ⟨t, u, v, e⟩ := x; exact ⟨t, u, v, k _ _ (.inl rfl) e⟩
 | frz ob u ih => obtain ⟨e, q⟩ := x; exact ⟨k _ _ (.inl rfl) e, ih q⟩
 | tbl ps =>
  have e : h.get? a = some { cls := .none, data := .fields ps } := x;show h'.get? a = some { cls := .none, data := .fields ps }
  exact k a _ (.inl rfl) e
 | met f y =>
  have e : h.get? a = some (PySem.W.methodObj (.ref f) (.ref y)) := x;show h'.get? a = some (PySem.W.methodObj (.ref f) (.ref y))
  exact k a _ (.inl rfl) e
 | ext φ => obtain ⟨p, ⟨o, e⟩, st⟩ := x; exact ⟨st _ _ p fun o q => k _ _ (.inl rfl) q, ⟨o, k _ _ (.inl rfl) e⟩, st⟩
theorem HOk.lt (x : HOk P w H h) (e : H a = some o) : a < h.objs.size := (x a o e).lt
theorem HOk.fresh (x : HOk P w H h) (e : h.objs.size ≤ a) : H a = none := by
 cases q : H a with
 | none => rfl
 | some u => exact absurd (Nat.lt_of_lt_of_le (x.lt q) e) (Nat.lt_irrefl _)
theorem HOk.kept (x : HOk P w H h) (k : ∀ b u, h.get? b = some u → h'.get? b = some u) : HOk P w H h' := fun a o e =>
 (x a o e).stay (fun b u _ q => k b u q) (fun _ q => q) fun _ _ q => q
theorem HOk.laid (x : HOk P w H h) (k : ∀ b u, h.get? b = some u → h'.get? b = some u) (hp : h.objs.size ≤ a) (new : dw P w (upd H a o) h' a o) : HOk P w (upd H a o) h' := fun b u e => by
 have hn := x.fresh hp;by_cases hb : b = a
 ·subst hb; rw [cm] at e; cases e; exact new
 ·rw [aQ hb] at e
  exact (x b u e).stay (fun c v _ q => k c v q) (fun c q => by rw [aQ (a9 q hn)]; exact q) fun c xs q => by rw [aQ (a9 q hn)]; exact q
end
noncomputable def Rd (H : Hp) (a : Addr) (u : HO) : Prop := H a = some u ∨ ∃ o, H a = some (.frz o u)
theorem Rd.ok {P : Program} {w : World} {H : Hp} {h : Heap} {a : Addr} {u : HO} (r : Rd H a u) (x : HOk P w H h) : dw P w H h a u := by
 rcases r with r | ⟨o, r⟩
 ·exact x a u r
 ·obtain ⟨_, q⟩ := x a _ r
  exact q
noncomputable def Mut : Option HO → Prop
 | some (.lst _) => True
 | some (.dK _) => True
 | some (.dT _) => True
 | some (.set _ _) => True
 | some (.ins _ _ _) => True
 | some (.ext _) => True
 | _ => False
section
variable {P : Program} {w : World} {H : Hp} {h h' : Heap} {x e : Addr} {o' : HO}
theorem HOk.write (ok : HOk P w H h) (mu : Mut (H x)) (he : e = x ∨ H e = some (.own x)) (k : ∀ b u, b ≠ e → h.get? b = some u → h'.get? b = some u) (heo : ∃ u, h'.get? e = some u)
  (new : dw P w (upd H x o') h' x o') : HOk P w (upd H x o') h' := fun b u q => by
 have nown : ∀ c y, H c = some (.own y) → c ≠ x := fun c y r z => by subst z; rw [r] at mu; exact mu
 have ntup : ∀ c xs, H c = some (.tup xs) → c ≠ x := fun c xs r z => by subst z; rw [r] at mu; exact mu
 by_cases hb : b = x
 ·subst hb; rw [cm] at q; cases q; exact new
 ·rw [aQ hb] at q
  by_cases hbe : b = e
  ·have q' : H b = some (.own x) := by
    rcases he with z | z
    ·exact absurd (hbe.trans z) hb
    ·rw [hbe]; exact z
   rw [q] at q'; cases q';obtain ⟨v, hv⟩ := heo;exact ⟨v, by rw [hbe]; exact hv⟩
  ·refine (ok b u q).stay (fun c v hc r => k c v ?_ r) (fun c r => by rw [aQ (nown c b r)]; exact r) fun c xs r => by rw [aQ (ntup c xs r)]; exact r
   rcases hc with rfl | hc
   ·exact hbe
   ·rintro rfl
    rcases he with z | z
    ·exact nown c b hc z
    ·rw [hc] at z; cases z; exact hb rfl
end
structure Un (fs ex : List Addr) (H H' : Hp) (h h' : Heap) : Prop where
 keep : ∀ b o, h.get? b = some o → H b = none → b ∉ fs → b ∉ ex → h'.get? b = some o
 slot : ∀ b o, h.get? b = some o → H b = none → b ∈ fs → b ∉ ex → ∃ sl, h'.get? b = some { o with slots := sl }
 free : ∀ b o, h.get? b = some o → H b = none → b ∉ ex → H' b = none
 there : ∀ b o, h.get? b = some o → b ∉ ex → ∃ o', h'.get? b = some o'
 tups : ∀ b xs, H b = some (.tup xs) → H' b = some (.tup xs)
 frzs : ∀ b o u, H b = some (.frz o u) → H' b = some (.frz o u)
 tbls : ∀ b ps, H b = some (.tbl ps) → ∃ more, H' b = some (.tbl (ps ++ more))
section
variable {fs fs' ex ex' : List Addr} {H H1 H2 : Hp} {h h1 h2 h' : Heap} {a x e : Addr} {o : HO}
theorem Un.any (u : Un fs ex H H1 h h1) {b : Addr} {ob : Obj} (q : h.get? b = some ob) (n : H b = none) (hx : b ∉ ex) : ∃ sl, h1.get? b = some { ob with slots := sl } := by
 by_cases hb : b ∈ fs
 ·exact u.slot b ob q n hb hx
 ·exact ⟨ob.slots, u.keep b ob q n hb hx⟩
theorem Un.kept (k : ∀ b u, h.get? b = some u → h'.get? b = some u) : Un fs ex H H h h' :=
 ⟨fun b ob q _ _ _ => k b ob q, fun b ob q _ _ _ => ⟨ob.slots, k b ob q⟩, fun _ _ _ n _ => n, fun b ob q _ => ⟨ob, k b ob q⟩, fun _ _ q => q, fun _ _ _ q => q, fun _ ps q => ⟨#[], by rw [q]; simp⟩⟩
theorem Un.refl : Un fs ex H H h h := Un.kept fun _ _ q => q
theorem Un.laid (k : ∀ b u, h.get? b = some u → h'.get? b = some u) (hp : h.objs.size ≤ a) (hn : H a = none) : Un fs ex H (upd H a o) h h' where
 keep := fun b u q _ _ _ => k b u q
 slot := fun b u q _ _ _ => ⟨u.slots, k b u q⟩
 free := fun b u q n _ => by rw [aQ (Nat.ne_of_lt (Nat.lt_of_lt_of_le (Heap.lt_size q) hp))]; exact n
 there := fun b u q _ => ⟨u, k b u q⟩
 tups := fun b xs q => by rw [aQ (a9 q hn)]; exact q
 frzs := fun b u xs q => by rw [aQ (a9 q hn)]; exact q
 tbls := fun b ps q => ⟨#[], by rw [aQ (a9 q hn), q]; simp⟩
theorem Un.write (mu : Mut (H x)) (he : e = x ∨ H e = some (.own x)) (k : ∀ b u, b ≠ e → h.get? b = some u → h'.get? b = some u) (heo : ∃ u, h'.get? e = some u) : Un fs ex H (upd H x o) h h' := by
 have hx : ∀ b, H b = none → b ≠ x := fun b n z => by subst z; rw [n] at mu; exact mu
 have hb : ∀ b, H b = none → b ≠ e := fun b n z => by
  subst z;rcases he with r | r
  ·exact hx b n r
  ·rw [n] at r; cases r
 have hm : ∀ b u, H b = some u → ¬ Mut (some u) → b ≠ x := fun b u q nm z => by subst z; rw [q] at mu; exact nm mu
 refine ⟨fun b u q n _ _ => k b u (hb b n) q, fun b u q n _ _ => ⟨u.slots, k b u (hb b n) q⟩, fun b u q n _ => by rw [aQ (hx b n)]; exact n, fun b u q _ => ?_,
  fun b xs q => by rw [aQ (hm b _ q fun z => z)]; exact q, fun b u xs q => by rw [aQ (hm b _ q fun z => z)]; exact q, fun b ps q => ⟨#[], by rw [aQ (hm b _ q fun z => z), q]; simp⟩⟩
 by_cases hbe : b = e
 ·subst hbe; exact heo
 ·exact ⟨u, k b u hbe q⟩
end
noncomputable def trk (h : Heap) (H : Hp) : List Addr := (List.range h.objs.size).filter fun a => (H a).isSome
noncomputable def jc (h : Heap) (H : Hp) : Heap := PySem.W.hideAll h (trk h H)
theorem me (h : Heap) (H : Hp) : (jc h H).objs.size = h.objs.size := PySem.W.hideAll_size _ _
theorem ox {h : Heap} {H : Hp} {b : Addr} {o : Obj} (e : h.get? b = some o) (n : H b = none) : (jc h H).get? b = some o :=
 PySem.W.hideAll_get _ e fun hm => by
  have q : (H b).isSome = true := (List.mem_filter.mp hm).2;rw [n] at q; simp at q
theorem pW {h : Heap} {H : Hp} {b : Addr} {o : Obj} (e : (jc h H).get? b = some o) : h.get? b = some o ∧ H b = none := by
 have e' : h.get? b = some o := PySem.W.of_hideAll (trk h H) e;refine ⟨e', ?_⟩;cases q : H b with
 | none => rfl
 | some x =>
  have hm : b ∈ trk h H := List.mem_filter.mpr ⟨List.mem_range.mpr (Heap.lt_size e'), by simp [q]⟩
  have z : (jc h H).get? b = none := PySem.W.hideAll_none (trk h H) hm;rw [z] at e; cases e
noncomputable def vI (g h : Heap) (L : Addr) : List (Addr × Obj) := (List.range h.objs.size).filterMap fun a => if a = L ∨ (g.get? a).isSome = true then none else (h.get? a).map fun o => (a, o)
noncomputable def rest (g h : Heap) (L d : Addr) : List (Addr × Obj) := (vI g h L).filter fun p => decide (p.1 ≠ d)
end L2
namespace L2
open PySem PySem.Spec PyProof.Rows
structure Mod (K : PySem.W.Frag) (mg : Str → Option Value) (base : Heap) : Prop where
 kin : K.In base
 glob : base.Ns mainGlobals mg
 blt : ∃ mb, base.Ns builtinsNs mb ∧ ∀ x : Str, x ≠ "__name__" → mb x = bootBuiltins x
 nolimit : base.NoLimit
structure Cx where
 prog : Program
 w : World
 K : PySem.W.Frag
 mg : Str → Option Value
 base : Heap
 A : Around
 N : List Str
 s₀ : Shared
 H₀ : Hp
 env : Env
 outer : List Env
 stack : List Env
 ex : List Addr
 fn : Str → Bool
 calm : Bool
 pn : List (Addr × Obj)
 xe : Value → Shared → Prop
noncomputable def frs (l : List Env) : List Addr := l.filterMap (·.frame)
noncomputable abbrev Cx.fs (X : Cx) : List Addr := frs X.outer
noncomputable def Vis (sc : Scope) (x : Str) : Prop := sc.names.lookup x = some .local ∨ sc.names.lookup x = some .cell ∨ sc.names.lookup x = some .free
noncomputable def Loc (sc : Scope) (x : Str) : Prop := sc.names.lookup x = some .local ∨ sc.names.lookup x = some .cell
noncomputable def Look (env : Env) (h : Heap) (m : Str → Option Value) (x : Str) (u : Value) : Prop :=
 (env.kindOf x = some .local ∧ m x = some u) ∨ ((env.kindOf x = some .cell ∨ env.kindOf x = some .free) ∧ ∃ c, env.cells.lookup x = some c ∧ h.IsCell c (some u))
structure Cx.Ok (X : Cx) : Prop where
 mod : Mod X.K X.mg X.base
 kind : X.env.scope.kind = .function
 glob : X.env.globals = mainGlobals
 blt : X.env.builtins = builtinsNs
 above : X.s₀.heap.objs.size ≤ X.env.locals
 inj : ∀ x y c, X.env.cells.lookup x = some c → X.env.cells.lookup y = some c → x = y
 has : ∀ x, (X.env.kindOf x = some .cell ∨ X.env.kindOf x = some .free) → ∃ c, X.env.cells.lookup x = some c
 cab : ∀ x c, X.fn x = true → X.env.cells.lookup x = some c → X.s₀.heap.objs.size ≤ c
 hd : X.calm = true → X.A.handled = none
 frames : X.A.frames = some X.stack
 stk : X.stack = X.outer ∨ (X.stack = X.env :: X.outer ∧ X.env.frame = some X.env.locals)
 exf : ∀ b ∈ X.ex, b ≠ X.env.locals ∧ ∀ x c, X.env.cells.lookup x = some c → c ≠ b
 bs : ∀ b o, X.base.get? b = some o → X.s₀.heap.get? b = some o ∧ X.H₀ b = none
 bsz : X.base.objs.size ≤ X.s₀.heap.objs.size
 noex : ∀ b o, X.base.get? b = some o → b ∉ X.ex
 exfs : ∀ b ∈ X.ex, b ∉ X.fs
 funs : X.s₀.heap.FunFrames X.base X.outer
 frf : ∀ b ∈ X.fs, X.H₀ b = none
structure Inv (X : Cx) (pins : List (Addr × Obj)) (σ : List (Option V)) (H : Hp) (s : Shared) : Prop where
 ok : X.Ok
 os : s.os = X.s₀.os
 bare : AllBare s.gens
 base : Un X.fs X.ex X.H₀ H X.s₀.heap s.heap
 loc : ∃ m, s.heap.Ns X.env.locals m ∧ ∀ (i : Nat) (x : Str) (v : V), X.N[i]? = some x → σ[i]? = some (some v) → Vis X.env.scope x → ∃ u, RelV v u ∧ Look X.env s.heap m x u
 cell : ∀ x c, X.env.cells.lookup x = some c → ∃ v, s.heap.IsCell c v
 free : H X.env.locals = none
 freeC : ∀ x c, X.env.cells.lookup x = some c → H c = none
 pin : ∀ p ∈ X.pn ++ pins, s.heap.get? p.1 = some p.2 ∧ H p.1 = none ∧ p.1 ≠ X.env.locals ∧ p.1 ∉ X.fs ∧ ∀ v, p.2.data ≠ .cell v
 hok : HOk X.prog X.w H s.heap
 len : σ.length = X.N.length
section
variable {X : Cx} {pins : List (Addr × Obj)} {σ : List (Option V)} {H H' : Hp} {s : Shared} {h' : Heap}
theorem Cx.Ok.nofr (ok : X.Ok) {b : Addr} {o : Obj} (e : X.base.get? b = some o) : b ∉ X.fs := fun hb => by
 have := (ok.funs.mem hb).1;rw [e] at this; cases this
theorem Inv.bs (I : Inv X pins σ H s) : ∀ b o, X.base.get? b = some o → s.heap.get? b = some o ∧ H b = none := fun b o e =>
 ⟨I.base.keep b o (I.ok.bs b o e).1 (I.ok.bs b o e).2 (I.ok.nofr e) (I.ok.noex b o e), I.base.free b o (I.ok.bs b o e).1 (I.ok.bs b o e).2 (I.ok.noex b o e)⟩
theorem Inv.bk (I : Inv X pins σ H s) : ∀ b o, X.base.get? b = some o → s.heap.get? b = some o := fun b o e => (I.bs b o e).1
theorem Inv.mod (I : Inv X pins σ H s) : Mod X.K X.mg X.base := I.ok.mod
theorem Inv.kIn (I : Inv X pins σ H s) : X.K.In s.heap := I.ok.mod.kin.keeps I.bk
theorem Inv.fr (I : Inv X pins σ H s) : ∃ m, Fr X.base X.env.locals s.heap m :=
 let ⟨m, hn, _⟩ := I.loc
 ⟨m, hn, I.bk, Nat.le_trans I.ok.bsz I.ok.above⟩
theorem Inv.lt (I : Inv X pins σ H s) : X.env.locals < s.heap.objs.size := let ⟨_, hn, _⟩ := I.loc; hn.lt
theorem Inv.sz (I : Inv X pins σ H s) : X.s₀.heap.objs.size ≤ s.heap.objs.size := Nat.le_trans I.ok.above (Nat.le_of_lt I.lt)
theorem Inv.nofs (I : Inv X pins σ H s) {a : Addr} (h : s.heap.objs.size ≤ a) : a ∉ X.fs := fun hb => by
 obtain ⟨_, o, ho, _⟩ := I.ok.funs.mem hb;exact absurd (Nat.lt_of_lt_of_le (Heap.lt_size ho) (Nat.le_trans I.sz h)) (Nat.lt_irrefl _)
theorem Inv.cne (I : Inv X pins σ H s) : ∀ x c, X.env.cells.lookup x = some c → c ≠ X.env.locals := fun x c e z => by
 obtain ⟨v, o, ho, hd⟩ := I.cell x c e;obtain ⟨m, ⟨o', es, ep, ho', hd', _⟩, _⟩ := I.loc;rw [z, ho'] at ho; cases ho; rw [hd'] at hd; cases hd
theorem Inv.funs (I : Inv X pins σ H s) : s.heap.FunFrames X.base X.outer := by
 have all : ∀ (l : List Env), (∀ b ∈ frs l, b ∈ X.fs) → X.s₀.heap.FunFrames X.base l → s.heap.FunFrames X.base l := by
  intro l
  induction l with
  | nil => intro _ _; trivial
  | cons env r ih =>
   intro hs hl;obtain ⟨hk, ⟨L, o, hf, hn, ho, hd⟩, hr⟩ := hl;have hL : L ∈ X.fs := hs L (by unfold frs; rw [List.filterMap_cons, hf]; exact List.mem_cons_self)
   obtain ⟨sl, e⟩ := I.base.slot L o ho (I.ok.frf L hL) hL fun z => I.ok.exfs L z hL
   exact ⟨hk, ⟨L, _, hf, hn, e, hd⟩, ih (fun b hb => hs b (by unfold frs; rw [List.filterMap_cons, hf]; exact List.mem_cons_of_mem _ hb)) hr⟩
 exact all X.outer (fun _ hb => hb) I.ok.funs
theorem Inv.stack (I : Inv X pins σ H s) : s.heap.FunFrames X.base X.stack := by
 rcases I.ok.stk with e | ⟨e, hf⟩
 ·rw [e]; exact I.funs
 ·rw [e]
  obtain ⟨m, hn, _⟩ := I.loc;refine .cons (by rw [I.ok.kind]; decide) hf hn ?_ I.funs
  exact Heap.get?_none_of_le (Nat.le_trans I.ok.bsz I.ok.above)
theorem Inv.stkSub (I : Inv X pins σ H s) : ∀ b ∈ frs X.stack, b ∈ X.env.locals :: X.fs := fun b hb => by
 rcases I.ok.stk with e | ⟨e, hf⟩
 ·rw [e] at hb; exact List.mem_cons_of_mem _ hb
 ·rw [e] at hb
  unfold frs at hb;rw [List.filterMap_cons, hf] at hb;exact hb
theorem Inv.stkFree (I : Inv X pins σ H s) : ∀ b ∈ frs X.stack, H b = none := fun b hb => by
 rcases List.mem_cons.mp (I.stkSub b hb) with e | hb
 ·rw [e]; exact I.free
 ·obtain ⟨_, o, ho, _⟩ := I.ok.funs.mem hb
  exact I.base.free b o ho (I.ok.frf b hb) fun z => I.ok.exfs b z hb
theorem Inv.step {g' : Array GenState} {t' : Nat} {d' : Drawn} {ch : List Addr} (I : Inv X pins σ H s)
  (hch : ∀ b ∈ ch, (b ∈ X.ex ∨ X.s₀.heap.objs.size ≤ b) ∧ b ≠ X.env.locals ∧ (∀ x c, X.env.cells.lookup x = some c → c ≠ b) ∧ ∀ p ∈ X.pn ++ pins, p.1 ≠ b)
  (keep : ∀ b o, b ≠ X.env.locals → b ∉ X.fs → b ∉ ch → s.heap.get? b = some o → H b = none → h'.get? b = some o)
  (slot : ∀ b o, b ≠ X.env.locals → b ∈ X.fs → b ∉ ch → s.heap.get? b = some o → H b = none → ∃ sl, h'.get? b = some { o with slots := sl }) (free : ∀ b o, b ∉ ch → s.heap.get? b = some o → H b = none → H' b = none)
  (there : ∀ b o, b ∉ ch → s.heap.get? b = some o → ∃ o', h'.get? b = some o')
  (tups : ∀ b xs, H b = some (.tup xs) → H' b = some (.tup xs)) (frzs : ∀ b o u, H b = some (.frz o u) → H' b = some (.frz o u)) (tbls : ∀ b ps, H b = some (.tbl ps) → ∃ more, H' b = some (.tbl (ps ++ more)))
  (ns : ∀ m, s.heap.Ns X.env.locals m → h'.Ns X.env.locals m) (hok : HOk X.prog X.w H' h') (hg : AllBare g') :
  Inv X pins σ H' { s with heap := h', gens := g', drawn := d', toks := t' } := by
 have neL : ∀ b o, X.s₀.heap.get? b = some o → b ≠ X.env.locals := fun b o e => Nat.ne_of_lt (Nat.lt_of_lt_of_le (Heap.lt_size e) I.ok.above)
 have neC : ∀ b o, X.s₀.heap.get? b = some o → b ∉ X.ex → b ∉ ch := fun b o e hx hb => by
  rcases (hch b hb).1 with z | z
  ·exact hx z
  ·exact absurd (Nat.lt_of_lt_of_le (Heap.lt_size e) z) (Nat.lt_irrefl _)
 have cellK : ∀ x c, X.env.cells.lookup x = some c → ∀ v, s.heap.IsCell c v → h'.IsCell c v := fun x c e v ⟨o, ho, hd⟩ => by
  have nch : c ∉ ch := fun z => (hch c z).2.2.1 x c e rfl
  by_cases hc : c ∈ X.fs
  ·obtain ⟨sl, q⟩ := slot c o (I.cne x c e) hc nch ho (I.freeC x c e)
   exact ⟨_, q, hd⟩
  ·exact ⟨o, keep c o (I.cne x c e) hc nch ho (I.freeC x c e), hd⟩
 refine ⟨I.ok, I.os, hg, ⟨fun b o e n hb hx => ?_, fun b o e n hb hx => ?_, fun b o e n hx => ?_, fun b o e hx => ?_, fun b xs e => tups b xs (I.base.tups b xs e), fun b o xs e => frzs b o xs (I.base.frzs b o xs e), fun b ps e => ?_⟩, ?_, fun x c e => ?_, ?_, fun x c e => ?_, fun p hp => ?_, hok, I.len⟩
 ·exact keep b o (neL b o e) hb (neC b o e hx) (I.base.keep b o e n hb hx) (I.base.free b o e n hx)
 ·obtain ⟨sl, e1⟩ := I.base.slot b o e n hb hx
  obtain ⟨sl', e2⟩ := slot b _ (neL b o e) hb (neC b o e hx) e1 (I.base.free b o e n hx);exact ⟨sl', e2⟩
 ·obtain ⟨o', e1⟩ := I.base.there b o e hx
  exact free b o' (neC b o e hx) e1 (I.base.free b o e n hx)
 ·obtain ⟨o', e1⟩ := I.base.there b o e hx
  exact there b o' (neC b o e hx) e1
 ·obtain ⟨m1, e1⟩ := I.base.tbls b ps e
  obtain ⟨m2, e2⟩ := tbls b _ e1;exact ⟨m1 ++ m2, by rw [e2, Array.append_assoc]⟩
 ·obtain ⟨m, hn, hl⟩ := I.loc
  refine ⟨m, ns m hn, fun i x v e1 e2 e3 => ?_⟩
  obtain ⟨u, r, l⟩ := hl i x v e1 e2 e3;refine ⟨u, r, ?_⟩;rcases l with l | ⟨k, c, e, z⟩
  ·exact .inl l
  ·exact .inr ⟨k, c, e, cellK x c e _ z⟩
 ·obtain ⟨v, z⟩ := I.cell x c e
  exact ⟨v, cellK x c e v z⟩
 ·obtain ⟨m, ⟨o, _, _, ho, _⟩, _⟩ := I.loc
  exact free _ o (fun z => (hch _ z).2.1 rfl) ho I.free
 ·obtain ⟨v, o, ho, hd⟩ := I.cell x c e
  exact free c o (fun z => (hch c z).2.2.1 x c e rfl) ho (I.freeC x c e)
 ·obtain ⟨e, n, ne, nf, d⟩ := I.pin p hp
  have nch : p.1 ∉ ch := fun z => (hch p.1 z).2.2.2 p hp rfl
  exact ⟨keep p.1 p.2 ne nf nch e n, free p.1 p.2 nch e n, ne, nf, d⟩
theorem Inv.un {t' : Nat} (I : Inv X pins σ H s) (u : Un X.fs [] H H' s.heap h') (hok : HOk X.prog X.w H' h') : Inv X pins σ H' { s with heap := h', toks := t' } := by
 obtain ⟨m, ⟨o, es, ep, ho, r⟩, _⟩ := id I.loc;obtain ⟨sl, hL⟩ := u.any ho I.free (by simp)
 exact I.step (g' := s.gens) (d' := s.drawn) (ch := []) (fun _ z => nomatch z) (fun b o _ hb _ e n => u.keep b o e n hb (by simp)) (fun b o _ hb _ e n => u.slot b o e n hb (by simp)) (fun b o _ e n => u.free b o e n (by simp)) (fun b o _ e => u.there b o e (by simp)) u.tups u.frzs u.tbls (fun m' hm => by
  obtain ⟨o', es', ep', ho', r'⟩ := hm;rw [ho] at ho'; cases ho';exact ⟨_, es', ep', hL, r'⟩) hok I.bare
theorem Inv.call {g' : Array GenState} {t' : Nat} {d' : Drawn} {ch : List Addr} (I : Inv X pins σ H s) (u : Un (frs X.stack) ch H H' s.heap h') (hok : HOk X.prog X.w H' h') (hg : AllBare g')
  (hch : ∀ b ∈ ch, (b ∈ X.ex ∨ X.s₀.heap.objs.size ≤ b) ∧ b ≠ X.env.locals ∧ (∀ x c, X.env.cells.lookup x = some c → c ≠ b) ∧ ∀ p ∈ X.pn ++ pins, p.1 ≠ b) :
  Inv X pins σ H' { s with heap := h', gens := g', drawn := d', toks := t' } := by
 obtain ⟨m, ⟨o, es, ep, ho, r⟩, _⟩ := id I.loc;obtain ⟨sl, hL⟩ := u.any ho I.free fun z => (hch _ z).2.1 rfl
 exact I.step (ch := ch) hch (fun b o hL hb hc e n => u.keep b o e n (fun z => (List.mem_cons.mp (I.stkSub b z)).elim hL hb) hc) (fun b o _ _ hc e n => u.any e n hc) (fun b o hc e n => u.free b o e n hc) (fun b o hc e => u.there b o e hc) u.tups u.frzs u.tbls (fun m' hm => by
  obtain ⟨o', es', ep', ho', r'⟩ := hm;rw [ho] at ho'; cases ho';exact ⟨_, es', ep', hL, r'⟩) hok hg
theorem Inv.turned {t' : Nat} {it : Addr} (I : Inv X pins σ H s) (k : ∀ b o, b ≠ it → s.heap.get? b = some o → h'.get? b = some o) (hn : H it = none) (hL : it ≠ X.env.locals)
  (h1 : it ∈ X.ex ∨ X.s₀.heap.objs.size ≤ it) (h2 : ∀ x c, X.env.cells.lookup x = some c → c ≠ it) (h3 : ∀ p ∈ X.pn ++ pins, p.1 ≠ it) : Inv X pins σ H { s with heap := h', toks := t' } := by
 have nit : ∀ b u, H b = some u → b ≠ it := fun b u e z => by rw [z, hn] at e; cases e
 refine I.step (g' := s.gens) (d' := s.drawn) (ch := [it]) (fun b hb => ?_) (fun b o _ _ hc e _ => k b o (fun z => hc (by simp [z])) e) (fun b o _ _ hc e _ => ⟨o.slots, k b o (fun z => hc (by simp [z])) e⟩) (fun _ _ _ _ n => n)
  (fun b o hc e => ⟨o, k b o (fun z => hc (by simp [z])) e⟩) (fun _ _ e => e) (fun _ _ _ e => e) (fun b ps e => ⟨#[], by rw [e]; simp⟩) (fun m hm => ?_) (fun b u e => ?_) I.bare
 ·have e : b = it := by simpa using hb
  subst e;exact ⟨h1, hL, h2, h3⟩
 ·obtain ⟨o, es, ep, ho, r⟩ := hm
  exact ⟨o, es, ep, k _ o (Ne.symm hL) ho, r⟩
 ·refine (I.hok b u e).stay (fun c v hc q => k c v ?_ q) (fun _ q => q) fun _ _ q => q
  rcases hc with z | z
  ·rw [z]; exact nit b u e
  ·exact nit c _ z
theorem Inv.tok (I : Inv X pins σ H s) (t : Nat) : Inv X pins σ H { s with toks := t } := I.un (h' := s.heap) (t' := t) Un.refl I.hok
theorem Inv.kept {t' : Nat} (I : Inv X pins σ H s) (k : ∀ b u, s.heap.get? b = some u → h'.get? b = some u) : Inv X pins σ H { s with heap := h', toks := t' } := I.un (Un.kept k) (I.hok.kept k)
theorem Inv.laid {a : Addr} {o : HO} {t' : Nat} (I : Inv X pins σ H s) (k : ∀ b u, s.heap.get? b = some u → h'.get? b = some u) (hp : s.heap.objs.size ≤ a) (new : dw X.prog X.w (upd H a o) h' a o) :
  Inv X pins σ (upd H a o) { s with heap := h', toks := t' } := I.un (Un.laid k hp (I.hok.fresh hp)) (I.hok.laid k hp new)
theorem Inv.write {x e : Addr} {o : HO} {t' : Nat} (I : Inv X pins σ H s) (mu : Mut (H x)) (he : e = x ∨ H e = some (.own x)) (k : ∀ b u, b ≠ e → s.heap.get? b = some u → h'.get? b = some u) (heo : ∃ u, h'.get? e = some u)
  (new : dw X.prog X.w (upd H x o) h' x o) : Inv X pins σ (upd H x o) { s with heap := h', toks := t' } := I.un (Un.write mu he k heo) (I.hok.write mu he k heo new)
theorem Inv.weak {σ' : List (Option V)} (I : Inv X pins σ H s) (hl : σ'.length = σ.length) (w : ∀ (i : Nat) v, σ'[i]? = some (some v) → σ[i]? = some (some v)) : Inv X pins σ' H s :=
 ⟨I.ok, I.os, I.bare, I.base, let ⟨m, hn, hl'⟩ := I.loc; ⟨m, hn, fun i x v e1 e2 e3 => hl' i x v e1 (w i v e2) e3⟩, I.cell, I.free, I.freeC, I.pin, I.hok, hl.trans I.len⟩
theorem Inv.pins_of {pins' : List (Addr × Obj)} (I : Inv X pins σ H s) (h : ∀ p ∈ pins', s.heap.get? p.1 = some p.2 ∧ H p.1 = none ∧ p.1 ≠ X.env.locals ∧ p.1 ∉ X.fs ∧ ∀ v, p.2.data ≠ .cell v) : Inv X pins' σ H s :=
 ⟨I.ok, I.os, I.bare, I.base, I.loc, I.cell, I.free, I.freeC, fun p hp => (List.mem_append.mp hp).elim (fun z => I.pin p (List.mem_append_left _ z)) (h p), I.hok, I.len⟩
theorem kJ {N : List Str} (hN : N.Nodup) {i j : Nat} {x : Str} (a : N[i]? = some x) (b : N[j]? = some x) : i = j := by
 obtain ⟨h1, e1⟩ := List.getElem?_eq_some_iff.mp a;obtain ⟨h2, e2⟩ := List.getElem?_eq_some_iff.mp b;exact (List.getElem_inj hN).mp (e1.trans e2.symm)
theorem rD {M : Model} {A : Around} {E : Value → Shared → Prop} {i : Nat} {x : Str} {v : V} {u : Value} {Q : Unit → Shared → Prop} (I : Inv X pins σ H s) (hN : X.N.Nodup) (hi : X.N[i]? = some x) (hx : Loc X.env.scope x) (r : RelV v u)
  (h : ∀ s', Inv X pins (σ.set i (some v)) H s' → (∃ a, Heap.SameBut a s.heap s'.heap ∧ (a = X.env.locals ∨ X.env.cells.lookup x = some a)) → Q () s') (hf : X.fn x = true ∨ X.env.scope.names.lookup x = some .local := by first | exact .inl rfl | exact .inr rfl | assumption) : wpAny M A (storeName X.env x u) Q E s := by
 obtain ⟨m, hn, hl⟩ := id I.loc;have hcls : (X.env.scope.kind == .class || (X.env.scope.kind == .module && X.env.locals != X.env.globals)) = false := by rw [I.ok.kind]; rfl
 have hiσ : i < σ.length := by rw [I.len]; exact (List.getElem?_eq_some_iff.mp hi).1
 have cne := I.cne;have tracked : ∀ {a : Addr} {h' : Heap}, (∃ o, s.heap.get? a = some o ∧ H a = none) → Heap.SameBut a s.heap h' → HOk X.prog X.w H h' := fun {a h'} ha hs b ob e => by
  obtain ⟨_, _, hfree⟩ := ha;refine (I.hok b ob e).stay (fun c w' hc q => (hs.2 c ?_).trans q) (fun _ q => q) fun _ _ q => q
  rintro rfl;rcases hc with rfl | hc
  ·rw [hfree] at e; cases e
  ·rw [hfree] at hc; cases hc
 rcases hx with hk | hk
 ·refine wpAny_storeName_local hk hn (fun h' hn' hs => ?_) hcls
  obtain ⟨oL, _, _, hoL, _⟩ := id hn;refine h _ ⟨I.ok, I.os, I.bare, ⟨fun b o e n hb hx => ?_, fun b o e n hb hx => ?_, I.base.free, fun b o e hx => ?_, I.base.tups, I.base.frzs, I.base.tbls⟩, ⟨_, hn', fun j y v' e1 e2 e3 => ?_⟩, fun y c e => ?_, I.free, I.freeC, fun p hp => ?_, tracked ⟨oL, hoL, I.free⟩ hs, by simpa using I.len⟩ ⟨_, hs, .inl rfl⟩
  ·exact (hs.2 b (Nat.ne_of_lt (Nat.lt_of_lt_of_le (Heap.lt_size e) I.ok.above))).trans (I.base.keep b o e n hb hx)
  ·obtain ⟨sl, e1⟩ := I.base.slot b o e n hb hx
   exact ⟨sl, (hs.2 b (Nat.ne_of_lt (Nat.lt_of_lt_of_le (Heap.lt_size e) I.ok.above))).trans e1⟩
  ·obtain ⟨o', e1⟩ := I.base.there b o e hx
   exact ⟨o', (hs.2 b (Nat.ne_of_lt (Nat.lt_of_lt_of_le (Heap.lt_size e) I.ok.above))).trans e1⟩
  ·by_cases hj : j = i
   ·subst hj
    rw [hi] at e1; cases e1;rw [List.getElem?_set_self hiσ] at e2;cases e2;exact ⟨u, r, .inl ⟨hk, by simp⟩⟩
   ·rw [List.getElem?_set_ne (Ne.symm hj)] at e2
    obtain ⟨u', r', q⟩ := hl j y v' e1 e2 e3;refine ⟨u', r', ?_⟩;rcases q with ⟨k, e⟩ | ⟨k, c, e, z⟩
    ·refine .inl ⟨k, ?_⟩
     have : y ≠ x := fun e => hj (kJ hN e1 (e ▸ hi))
     simp [this, e]
    ·exact .inr ⟨k, c, e, z.sameBut hs (cne y c e)⟩
  ·obtain ⟨w', z⟩ := I.cell y c e
   exact ⟨w', z.sameBut hs (cne y c e)⟩
  ·obtain ⟨e, n, ne, nf, d⟩ := I.pin p hp
   exact ⟨(hs.2 p.1 ne).trans e, n, ne, nf, d⟩
 ·have hfn : X.fn x = true := by
   rcases hf with z | z
   ·exact z
   ·rw [z] at hk; cases hk
  obtain ⟨c, hc⟩ := I.ok.has x (.inl hk);obtain ⟨w', z⟩ := I.cell x c hc;refine wpAny_storeName_cell I.ok.kind hk hc z (fun h' hc' hs => ?_)
  obtain ⟨oc, hoc, hocd⟩ := id z;refine h { s with heap := h' } ⟨I.ok, I.os, I.bare, ⟨fun b o e n hb hx => ?_, fun b o e n hb hx => ?_, I.base.free, fun b o e hx => ?_, I.base.tups, I.base.frzs, I.base.tbls⟩, ⟨m, hn.sameBut hs (Ne.symm (cne x c hc)), fun j y v' e1 e2 e3 => ?_⟩, fun y c' e => ?_, I.free, I.freeC, fun p hp => ?_, tracked ⟨oc, hoc, I.freeC x c hc⟩ hs, by simpa using I.len⟩ ⟨c, hs, .inr hc⟩
  ·exact (hs.2 b (Nat.ne_of_lt (Nat.lt_of_lt_of_le (Heap.lt_size e) (I.ok.cab x c hfn hc)))).trans (I.base.keep b o e n hb hx)
  ·obtain ⟨sl, e1⟩ := I.base.slot b o e n hb hx
   exact ⟨sl, (hs.2 b (Nat.ne_of_lt (Nat.lt_of_lt_of_le (Heap.lt_size e) (I.ok.cab x c hfn hc)))).trans e1⟩
  ·obtain ⟨o', e1⟩ := I.base.there b o e hx
   exact ⟨o', (hs.2 b (Nat.ne_of_lt (Nat.lt_of_lt_of_le (Heap.lt_size e) (I.ok.cab x c hfn hc)))).trans e1⟩
  ·by_cases hj : j = i
   ·subst hj
    rw [hi] at e1; cases e1;rw [List.getElem?_set_self hiσ] at e2;cases e2;exact ⟨u, r, .inr ⟨.inl hk, c, hc, hc'⟩⟩
   ·rw [List.getElem?_set_ne (Ne.symm hj)] at e2
    obtain ⟨u', r', q⟩ := hl j y v' e1 e2 e3;refine ⟨u', r', ?_⟩;rcases q with q | ⟨k, c', e, z'⟩
    ·exact .inl q
    ·refine .inr ⟨k, c', e, z'.sameBut hs ?_⟩
     rintro rfl;exact hj (kJ hN e1 (I.ok.inj _ _ _ e hc ▸ hi))
  ·by_cases hcc : c' = c
   ·subst hcc; exact ⟨_, hc'⟩
   ·obtain ⟨w2, z2⟩ := I.cell y c' e
    exact ⟨w2, z2.sameBut hs hcc⟩
  ·obtain ⟨e, n, ne, nf, d⟩ := I.pin p hp
   refine ⟨(hs.2 p.1 ?_).trans e, n, ne, nf, d⟩;intro q;rw [q, hoc] at e;have q' : oc = p.2 := Option.some.inj e;exact d w' (by rw [← q']; exact hocd)
theorem hX {M : Model} {A : Around} {E : Value → Shared → Prop} {i : Nat} {x : Str} {v : V} {u : Value} {Q : Unit → Shared → Prop} (I : Inv X pins σ H s) (hN : X.N.Nodup) (hi : X.N[i]? = some x) (hx : Loc X.env.scope x) (r : RelV v u)
  (h : ∀ s', Inv X pins (σ.set i (some v)) H s' → Q () s') (hf : X.fn x = true ∨ X.env.scope.names.lookup x = some .local := by first | exact .inl rfl | exact .inr rfl | assumption) : wpAny M A (storeName X.env x u) Q E s :=
 rD I hN hi hx r (fun s' I' _ => h s' I') hf
theorem Inv.call' {s' : Shared} {ch : List Addr} (I : Inv X pins σ H s) (ho : s'.os = s.os) (u : Un (frs X.stack) ch H H' s.heap s'.heap) (hok : HOk X.prog X.w H' s'.heap) (hg : AllBare s'.gens)
  (hch : ∀ b ∈ ch, (b ∈ X.ex ∨ X.s₀.heap.objs.size ≤ b) ∧ b ≠ X.env.locals ∧ (∀ x c, X.env.cells.lookup x = some c → c ≠ b) ∧ ∀ p ∈ X.pn ++ pins, p.1 ≠ b) : Inv X pins σ H' s' := by
 obtain ⟨h', g', d', t', o'⟩ := s';have e : o' = s.os := ho;subst e;exact I.call (g' := g') (t' := t') (d' := d') u hok hg hch
end
noncomputable abbrev XK := Value → Option Addr → Hp → Prop
noncomputable abbrev St := List (Option V)
noncomputable abbrev VK := V → Hp → Prop
noncomputable abbrev TE := St → Hp → VK → Prop
noncomputable abbrev TT := St → Hp → (Bool → Hp → Prop) → Prop
noncomputable abbrev TA := St → Hp → (List V → Hp → Prop) → Prop
structure Ends where
 nx : St → Hp → Prop
 rt : VK
 bk : St → Hp → Prop := fun _ _ => False
 ct : St → Hp → Prop := fun _ _ => False
noncomputable abbrev TS := Ends → St → Hp → Prop
noncomputable def EP (X : Cx) (pins : List (Addr × Obj)) (σ : St) (Q : VK) (u : Value) (s' : Shared) : Prop := ∃ v H', Inv X pins σ H' s' ∧ RelV v u ∧ Q v H'
noncomputable def TP (X : Cx) (pins : List (Addr × Obj)) (σ : St) (Q : Bool → Hp → Prop) (b : Bool) (s' : Shared) : Prop := ∃ H', Inv X pins σ H' s' ∧ Q b H'
noncomputable def AP (X : Cx) (pins : List (Addr × Obj)) (σ : St) (Q : List V → Hp → Prop) (us : List Value) (s' : Shared) : Prop := ∃ vs H', Inv X pins σ H' s' ∧ Vals vs us ∧ Q vs H'
noncomputable def SP (X : Cx) (pins : List (Addr × Obj)) (D : Ends) (f : Flow) (s' : Shared) : Prop :=
 match f with
 | .next => ∃ σ' H', Inv X pins σ' H' s' ∧ D.nx σ' H'
 | .brk => ∃ σ' H', Inv X pins σ' H' s' ∧ D.bk σ' H'
 | .cont => ∃ σ' H', Inv X pins σ' H' s' ∧ D.ct σ' H'
 | .ret u => ∃ v σ' H', Inv X pins σ' H' s' ∧ RelV v u ∧ D.rt v H'
noncomputable def PE (X : Cx) (e : Expr) (t : TE) : Prop :=
 ∀ (pins : List (Addr × Obj)) (s : Shared) (σ : St) (H : Hp) (Q : VK), Inv X pins σ H s → t σ H Q → wpAny (model X.prog X.w) X.A (eval e X.env) (EP X pins σ Q) X.xe s
noncomputable def PT (X : Cx) (e : Expr) (t : TT) : Prop :=
 ∀ (pins : List (Addr × Obj)) (s : Shared) (σ : St) (H : Hp) (Q : Bool → Hp → Prop), Inv X pins σ H s → t σ H Q → wpAny (model X.prog X.w) X.A (isTrue e X.env (eval e X.env)) (TP X pins σ Q) X.xe s
noncomputable def PW (X : Cx) (e : Expr) (t : TT) : Prop :=
 ∀ (whole : Sem Value) (pins : List (Addr × Obj)) (s : Shared) (σ : St) (H : Hp) (Q : Bool → Hp → Prop), Inv X pins σ H s → t σ H Q → wpAny (model X.prog X.w) X.A (isTrue e X.env whole) (TP X pins σ Q) X.xe s
theorem PW.pt {X : Cx} {e : Expr} {t : TT} (h : PW X e t) : PT X e t := h _
noncomputable def PA (X : Cx) (es : List Expr) (t : TA) : Prop :=
 ∀ (pos : Pos) (pins : List (Addr × Obj)) (s : Shared) (σ : St) (H : Hp) (Q : List V → Hp → Prop), Inv X pins σ H s → t σ H Q → wpAny (model X.prog X.w) X.A (spliced (backTo pos (starEach es X.env))) (AP X pins σ Q) X.xe s
noncomputable def PS (X : Cx) (st : Stmt) (t : TS) : Prop :=
 ∀ (pins : List (Addr × Obj)) (s : Shared) (σ : St) (H : Hp) (D : Ends), Inv X pins σ H s → t D σ H → wpAny (model X.prog X.w) X.A (exec st X.env) (SP X pins D) X.xe s
noncomputable def PSs (X : Cx) (st : List Stmt) (t : TS) : Prop :=
 ∀ (pins : List (Addr × Obj)) (s : Shared) (σ : St) (H : Hp) (D : Ends), Inv X pins σ H s → t D σ H → wpAny (model X.prog X.w) X.A (execs st X.env) (SP X pins D) X.xe s
theorem thn {α : Type} {t : Sem α} {Q Q' : α → Shared → Prop} {M : Model} {A : Around} {E : Value → Shared → Prop} {s : Shared} (h : wpAny M A t Q E s) (hQ : ∀ a s, Q a s → Q' a s) : wpAny M A t Q' E s := wpAny_mono h hQ fun _ _ x => x
end L2
namespace L2
open PySem PySem.Spec PyProof.Rows
section
variable {X : Cx}
theorem bin {a b : Expr} {ta tb : TE} (ha : PE X a ta) (hb : PE X b tb) {pins : List (Addr × Obj)} {s : Shared} {σ : St} {H : Hp} {R : V → V → Hp → Prop} (I : Inv X pins σ H s) (h : ta σ H fun x H1 => tb σ H1 fun y H2 => R x y H2)
  {α : Type} {Q : α → Shared → Prop} {f : Value → Value → Sem α}
  (hf : ∀ v u s2 x y H2, Inv X pins σ H2 s2 → RelV x v → RelV y u → R x y H2 → wpAny (model X.prog X.w) X.A (f v u) Q X.xe s2) :
  wpAny (model X.prog X.w) X.A (eval a X.env) (fun v s₁ => wpAny (model X.prog X.w) X.A (eval b X.env) (fun u s₂ => wpAny (model X.prog X.w) X.A (f v u) Q X.xe s₂) X.xe s₁) X.xe s := by
 refine thn (ha pins s σ H _ I h) fun v s1 ⟨x, H1, I1, r1, q1⟩ => ?_
 refine thn (hb pins s1 σ H1 _ I1 q1) fun u s2 ⟨y, H2, I2, r2, q2⟩ => ?_
 exact hf v u s2 x y H2 I2 r1 r2 q2
noncomputable def rW (i : Nat) : TE := fun σ H Q => ∃ v, σ[i]? = some (some v) ∧ Q v H
noncomputable def tC (v : V) : TE := fun _ H Q => Q v H
theorem ic {i : Nat} {x : Str} {pos : Pos} (hN : X.N[i]? = some x) (hv : Vis X.env.scope x) (hd : (x == ("__debug__" : Str)) = false := by decide) (hcd : (x == ("__classdict__" : Str)) = false := by decide) : PE X (.Name x pos) (rW i) := by
 intro pins s σ H Q I h;obtain ⟨v, e, h⟩ := h;obtain ⟨m, hn, hl⟩ := I.loc;obtain ⟨u, r, l⟩ := hl i x v hN e hv;have fin : EP X pins σ Q u s := ⟨v, H, I, r, h⟩;rcases l with ⟨hk, hm⟩ | ⟨hk, c, hc, hcell⟩
 ·exact wpAny_Name (wpAny_loadName_local I.ok.kind hk hn hm fin) hd
 ·rcases hk with hk | hk
  ·exact wpAny_Name (wpAny_loadName_cell I.ok.kind hk hc hcell fin) hd
  ·exact wpAny_Name (wpAny_loadName_free I.ok.kind hk hc hcell fin hcd) hd
theorem yS {i j pos} : PE X (.Constant (.int i) j pos) (tC (.int i)) := fun _ _ _ H _ I h => wpAny_Constant_int ⟨.int i, H, I.tok _, ⟨_, rfl⟩, h⟩
theorem xJ {b j pos} : PE X (.Constant (.bool b) j pos) (tC (.bl b)) := fun _ _ _ H _ I h => Constant_bool ⟨.bl b, H, I, rfl, h⟩
theorem nq {x j pos} : PE X (.Constant (.str x) j pos) (tC (.str x)) := fun _ _ _ H _ I h => Calls.Constant_str ⟨.str x, H, I.tok _, ⟨_, rfl⟩, h⟩
noncomputable def Gl (X : Cx) (x : Str) : Prop := X.env.kindOf x = some .globalImplicit
theorem fC {E : Value → Shared → Prop} {pins : List (Addr × Obj)} {s : Shared} {σ : St} {H : Hp} {x : Str} {u : Value} {pos : Pos} {Q : Value → Shared → Prop} (I : Inv X pins σ H s) (hg : Gl X x) (hm : X.mg x = some u) (h : Q u s)
  (hd : (x == ("__debug__" : Str)) = false := by decide) : wpAny (model X.prog X.w) X.A (eval (.Name x pos) X.env) Q E s :=
 Calls.Name_function_global I.ok.kind hg (Calls.loadGlobal_global (by rw [I.ok.glob]; exact I.mod.glob.keeps I.bk) hm h) hd
theorem iO {E : Value → Shared → Prop} {pins : List (Addr × Obj)} {s : Shared} {σ : St} {H : Hp} {x : Str} {u : Value} {pos : Pos} {Q : Value → Shared → Prop} (I : Inv X pins σ H s) (hg : Gl X x) (hm : X.mg x = none) (hv : bootBuiltins x = some u) (h : Q u s)
  (hn : x ≠ "__name__" := by decide) (hd : (x == ("__debug__" : Str)) = false := by decide) : wpAny (model X.prog X.w) X.A (eval (.Name x pos) X.env) Q E s := by
 obtain ⟨mb, h1, h2⟩ := I.mod.blt;exact Calls.Name_function_global I.ok.kind hg (Calls.loadGlobal_builtin (by rw [I.ok.glob]; exact I.mod.glob.keeps I.bk) hm (by rw [I.ok.blt]; exact h1.keeps I.bk) ((h2 x hn).trans hv) h) hd
theorem kd {x : Str} {v : V} {u : Value} {pos : Pos} (hg : Gl X x) (hm : X.mg x = some u) (r : RelV v u) (hd : (x == ("__debug__" : Str)) = false := by decide) : PE X (.Name x pos) (tC v) :=
 fun _ _ _ H _ I h => fC I hg hm ⟨v, H, I, r, h⟩ hd
theorem pQ {x : Str} {v : V} {u : Value} {pos : Pos} (hg : Gl X x) (hm : X.mg x = none) (hv : bootBuiltins x = some u) (r : RelV v u) (hn : x ≠ "__name__" := by decide) (hd : (x == ("__debug__" : Str)) = false := by decide) : PE X (.Name x pos) (tC v) :=
 fun _ _ _ H _ I h => iO I hg hm hv ⟨v, H, I, r, h⟩ hn hd
variable {a b : Expr} {ta tb : TE} {pos : Pos}
noncomputable def PC (X : Cx) (op : CmpOp) (a b : Expr) (t : TE) : Prop :=
 ∀ (pins : List (Addr × Obj)) (s : Shared) (σ : St) (H : Hp) (Q : VK), Inv X pins σ H s → t σ H Q →
  wpAny (model X.prog X.w) X.A (eval a X.env) (fun v s₁ => wpAny (model X.prog X.w) X.A (eval b X.env) (fun u s₂ => wpAny (model X.prog X.w) X.A (compareOp op v u) (EP X pins σ Q) X.xe s₂) X.xe s₁) X.xe s
theorem uo (b : Expr) {op : CmpOp} (h : op ≠ .In) (h2 : op ≠ .NotIn) : behindInMarks op b = false := by
 have e1 : (op == CmpOp.In) = false := by cases op <;> first | rfl | exact absurd rfl h
 have e2 : (op == CmpOp.NotIn) = false := by cases op <;> first | rfl | exact absurd rfl h2
 cases b <;> simp [behindInMarks, e1, e2]
noncomputable def tB (t : TE) : TT := fun σ H Q => t σ H fun x H1 => ∃ c, x = .bl c ∧ Q c H1
theorem E1 {op : CmpOp} {t : TE} (h : PC X op a b t) (h1 : behindInMarks op b = false := by first | exact uo _ (by decide) (by decide) | rfl) : PT X (.Compare a [op] [b] pos) (tB t) := by
 intro pins s σ H Q I hw;refine wpAny_isTrue_Compare1 (thn (h pins s σ H _ I hw) fun v s1 h1 => thn h1 fun u s2 h2 => thn h2 fun c s3 ⟨x, H1, I1, r1, q1⟩ => ?_) h1
 obtain ⟨d, rfl, q⟩ := q1;cases r1;exact wpAny_truthy_bool ⟨H1, I1, q⟩
theorem y0 {e : Expr} {t : TE} (h : PE X e t) (he : ∀ whole, isTrue e X.env whole = (do let v ← whole; standAt e.pos; holding [v] (truthy v)) := by intro _; rfl) : PT X e (tB t) := by
 intro pins s σ H Q I hw;refine isTrue_plain (thn (h pins s σ H _ I hw) fun v s1 ⟨x, H1, I1, r1, q1⟩ => ?_) (he _)
 obtain ⟨d, rfl, q⟩ := q1;cases r1;exact wpAny_truthy_bool ⟨H1, I1, q⟩
variable {tA tB' : TT} {rest : List Expr}
noncomputable def Cz (t u : TT) : TT := fun σ H Q => t σ H fun c H1 => if c = true then u σ H1 Q else Q false H1
noncomputable def tOr (t u : TT) : TT := fun σ H Q => t σ H fun c H1 => if c = true then Q true H1 else u σ H1 Q
noncomputable def Cu (t : TT) : TT := fun σ H Q => t σ H fun c H1 => Q (!c) H1
theorem vG (ha : PT X a tA) : PW X (.BoolOp .And [a] pos) tA := by
 intro wh pins s σ H Q I h;refine isTrue_and (thn (ha pins s σ H Q I h) fun c s1 e => ?_)
 cases c with
 | true => exact isTrue_and_nil e
 | false => exact e
theorem zg (ha : PT X a tA) : PW X (.BoolOp .Or [a] pos) tA := by
 intro wh pins s σ H Q I h;refine isTrue_or (thn (ha pins s σ H Q I h) fun c s1 e => ?_)
 cases c with
 | false => exact isTrue_or_nil e
 | true => exact e
theorem yk (ha : PT X a tA) (hb : PW X (.BoolOp .And (b :: rest) pos) tB') : PW X (.BoolOp .And (a :: b :: rest) pos) (Cz tA tB') := by
 intro wh pins s σ H Q I h;refine isTrue_and (thn (ha pins s σ H _ I h) fun c s1 ⟨H1, I1, q1⟩ => ?_)
 cases c with
 | true => exact hb wh pins s1 σ H1 Q I1 q1
 | false => exact ⟨H1, I1, q1⟩
theorem C8 (ha : PT X a tA) (hb : PW X (.BoolOp .Or (b :: rest) pos) tB') : PW X (.BoolOp .Or (a :: b :: rest) pos) (tOr tA tB') := by
 intro wh pins s σ H Q I h;refine isTrue_or (thn (ha pins s σ H _ I h) fun c s1 ⟨H1, I1, q1⟩ => ?_)
 cases c with
 | true => exact ⟨H1, I1, q1⟩
 | false => exact hb wh pins s1 σ H1 Q I1 q1
theorem zr (ha : PT X a tA) : PT X (.UnaryOp .Not a pos) (Cu tA) := by
 intro pins s σ H Q I h;exact isTrue_not (ha pins s σ H (fun c H1 => Q (!c) H1) I h)
noncomputable def xM (ta tb : TE) : TE := fun σ H Q => ta σ H fun x H1 => ∃ c, x = .bl c ∧ if c = true then tb σ H1 Q else Q (.bl false) H1
noncomputable def xD (ta : TE) : TE := fun σ H Q => ta σ H fun x H1 => ∃ c, x = .bl c ∧ Q (.bl (!c)) H1
theorem rV {op} {t : TE} (h : PE X a t) : PE X (.BoolOp op [a] pos) t := fun pins s σ H Q I hw => BoolOp_one (h pins s σ H Q I hw)
theorem tQ (ha : PE X a ta) (hb : PE X (.BoolOp .And (b :: rest) pos) tb) : PE X (.BoolOp .And (a :: b :: rest) pos) (xM ta tb) := by
 intro pins s σ H Q I h;refine BoolOp_and (thn (ha pins s σ H _ I h) fun v s1 ⟨x, H1, I1, r1, q1⟩ => ?_)
 obtain ⟨c, rfl, q1⟩ := q1;cases r1;refine wpAny_truthy_bool ?_;cases c with
 | true => exact hb pins s1 σ H1 Q I1 q1
 | false => exact ⟨.bl false, H1, I1, rfl, q1⟩
theorem rK (ha : PE X a ta) : PE X (.UnaryOp .Not a pos) (xD ta) := by
 intro pins s σ H Q I h;refine UnaryOp_ (thn (ha pins s σ H _ I h) fun v s1 ⟨x, H1, I1, r1, q1⟩ => ?_)
 obtain ⟨c, rfl, q1⟩ := q1;cases r1;exact not_of (wpAny_truthy_bool ⟨.bl (!c), H1, I1, rfl, q1⟩)
noncomputable def tIf (t : TT) (ta tb : TE) : TE := fun σ H Q => t σ H fun c H1 => if c = true then ta σ H1 Q else tb σ H1 Q
theorem uW {c : Expr} (hc : PT X c tA) (ha : PE X a ta) (hb : PE X b tb) : PE X (.IfExp c a b pos) (tIf tA ta tb) := by
 intro pins s σ H Q I h;refine wpAny_IfExp (thn (hc pins s σ H _ I h) fun d s1 ⟨H1, I1, q1⟩ => ?_)
 cases d with
 | true => exact ha pins s1 σ H1 Q I1 q1
 | false => exact hb pins s1 σ H1 Q I1 q1
end
end L2
namespace L2
open PySem PySem.Spec PyProof.Rows
noncomputable def SqL (K : PySem.W.Frag) (H : Hp) (a : Addr) (xs : List V) : Prop :=
 Rd H a (.lst xs) ∨
  ∃ (o : Obj) (its : Array Value) (n : Nat), K.lookup a = some o ∧ o.cls = .type "list" ∧ o.dict = none ∧ o.data = .seq its n ∧ its.size ≤ sizeLine ∧ Vals xs its.toList
noncomputable def SqT (K : PySem.W.Frag) (H : Hp) (a : Addr) (xs : List V) : Prop :=
 Rd H a (.tup xs) ∨
  ∃ (o : Obj) (its : Array Value) (n : Nat), K.lookup a = some o ∧ o.cls = .type "tuple" ∧ o.data = .seq its n ∧ its.size ≤ sizeLine ∧ Vals xs its.toList
noncomputable def Ej : Value → Option V
 | .none => some .non
 | .bool b => some (.bl b)
 | .int i _ => some (.int i)
 | .str x _ => some (.str x)
 | .bytes b _ => some (.byt b)
 | .float b _ => some (.flt b)
 | .ref a => some (.ref a)
 | .type n => some (.ty n)
 | _ => none
theorem RelV.abs {x : V} {u : Value} (r : RelV x u) : Ej u = some x := by
 cases x with
 | non => cases r; rfl
 | bl _ => cases r; rfl
 | int _ => obtain ⟨t, rfl⟩ := r; rfl
 | str _ => obtain ⟨t, rfl⟩ := r; rfl
 | byt _ => obtain ⟨t, rfl⟩ := r; rfl
 | flt _ => obtain ⟨t, rfl⟩ := r; rfl
 | ref _ => cases r; rfl
 | ty _ => cases r; rfl
theorem RelV.inj {x y : V} {u : Value} (r : RelV x u) (q : RelV y u) : x = y := Option.some.inj (r.abs.symm.trans q.abs)
theorem Vals.inj : ∀ {xs ys : List V} {us : List Value}, Vals xs us → Vals ys us → xs = ys
 | _, _, _, .nil, .nil => rfl
 | _, _, _, .cons r t, .cons r' t' => by rw [r.inj r', Vals.inj t t']
section
variable {X : Cx} {pins : List (Addr × Obj)} {σ : St} {H : Hp} {s : Shared} {a : Addr} {xs ys : List V}
theorem SqL.of {K : PySem.W.Frag} (h : H a = some (.lst xs)) : SqL K H a xs := .inl (.inl h)
theorem SqT.of {K : PySem.W.Frag} (h : H a = some (.tup xs)) : SqT K H a xs := .inl (.inl h)
theorem Inv.list (I : Inv X pins σ H s) (h : SqL X.K H a xs) : ∃ its : List Value, Vals xs its ∧ PlainL s.heap a its.toArray ∧ xs.length ≤ sizeLine := by
 rcases h with h | ⟨o, its, n, hk, hc, hd, hs, hz, r⟩
 ·obtain ⟨z, its, n, r, e⟩ := h.ok I.hok
  exact ⟨its, r, ⟨_, n, e, rfl, rfl, rfl⟩, z⟩
 ·refine ⟨its.toList, r, ⟨o, n, I.kIn a o hk, hc, hd, by simpa using hs⟩, ?_⟩
  have e := r.length;simp only [Array.length_toList] at e
  lia
theorem Inv.tuple (I : Inv X pins σ H s) (h : SqT X.K H a xs) : ∃ its : List Value, Vals xs its ∧ IsTup s.heap a its.toArray ∧ xs.length ≤ sizeLine := by
 rcases h with h | ⟨o, its, n, hk, hc, hs, hz, r⟩
 ·obtain ⟨z, its, r, p⟩ := h.ok I.hok
  exact ⟨its, r, p, z⟩
 ·refine ⟨its.toList, r, ⟨o, I.kIn a o hk, hc, n, by simpa using hs⟩, ?_⟩
  have e := r.length;simp only [Array.length_toList] at e
  lia
theorem Inv.list_inj (I : Inv X pins σ H s) (h : SqL X.K H a xs) (h' : SqL X.K H a ys) : xs = ys := by
 obtain ⟨its, r, ⟨o, n, e, _, _, d⟩, _⟩ := I.list h;obtain ⟨its', r', ⟨o', n', e', _, _, d'⟩, _⟩ := I.list h';rw [e] at e'; cases e';rw [d] at d';injection d' with d1 _
 have : its = its' := by simpa using congrArg Array.toList d1
 subst this;exact r.inj r'
end
noncomputable abbrev Cx.wish (X : Cx) (E : Value → Shared → Prop) : Cx := { X with xe := E }
noncomputable abbrev Cx.nox (X : Cx) : Cx := X.wish fun _ _ => False
theorem Cx.Ok.wish {X : Cx} (ok : X.Ok) (E : Value → Shared → Prop) : (X.wish E).Ok :=
 ⟨ok.mod, ok.kind, ok.glob, ok.blt, ok.above, ok.inj, ok.has, ok.cab, ok.hd, ok.frames, ok.stk, ok.exf, ok.bs, ok.bsz, ok.noex, ok.exfs, ok.funs, ok.frf⟩
theorem Cx.Ok.unwish {X : Cx} {E : Value → Shared → Prop} (ok : (X.wish E).Ok) : X.Ok :=
 ⟨ok.mod, ok.kind, ok.glob, ok.blt, ok.above, ok.inj, ok.has, ok.cab, ok.hd, ok.frames, ok.stk, ok.exf, ok.bs, ok.bsz, ok.noex, ok.exfs, ok.funs, ok.frf⟩
section
variable {X : Cx} {pins : List (Addr × Obj)} {σ : St} {H : Hp} {s : Shared} {E : Value → Shared → Prop}
theorem Inv.wish (I : Inv X pins σ H s) (E : Value → Shared → Prop) : Inv (X.wish E) pins σ H s := ⟨I.ok.wish E, I.os, I.bare, I.base, I.loc, I.cell, I.free, I.freeC, I.pin, I.hok, I.len⟩
theorem Inv.unwish (I : Inv (X.wish E) pins σ H s) : Inv X pins σ H s := ⟨I.ok.unwish, I.os, I.bare, I.base, I.loc, I.cell, I.free, I.freeC, I.pin, I.hok, I.len⟩
theorem SP.unwish {D : Ends} {f : Flow} {s' : Shared} (h : SP (X.wish E) pins D f s') : SP X pins D f s' := by
 cases f with
 | next => obtain ⟨σ', H', I, q⟩ := h; exact ⟨σ', H', I.unwish, q⟩
 | brk => obtain ⟨σ', H', I, q⟩ := h; exact ⟨σ', H', I.unwish, q⟩
 | cont => obtain ⟨σ', H', I, q⟩ := h; exact ⟨σ', H', I.unwish, q⟩
 | ret u => obtain ⟨v, σ', H', I, r, q⟩ := h; exact ⟨v, σ', H', I.unwish, r, q⟩
theorem PSs.nox {st : List Stmt} {t : TS} (h : PSs X.nox st t) : PSs X st t := fun pins s σ H D I hw =>
 wpAny_mono (h pins s σ H D (I.wish _) hw) (fun _ _ q => q.unwish) fun _ _ z => False.elim z
end
section
variable {X : Cx} {st : Stmt} {rest : List Stmt} {t u : TS} {e : Expr} {te : TE} {pos : Pos}
noncomputable def xp : TS := fun D σ H => D.nx σ H
noncomputable def DB (t u : TS) : TS := fun D σ H => t { D with nx := u D } σ H
theorem vC : PSs X [] xp := fun _ _ σ H _ I h => wpAny_execs_nil ⟨σ, H, I, h⟩
theorem nQ (h1 : PS X st t) (h2 : PSs X rest u) : PSs X (st :: rest) (DB t u) := by
 intro pins s σ H D I h;refine wpAny_execs_cons (thn (h1 pins s σ H { D with nx := u D } I h) fun f s1 q => ?_)
 cases f with
 | next =>
  obtain ⟨σ', H', I', q⟩ := q;exact h2 pins s1 σ' H' D I' q
 | ret v => exact q
 | brk => exact q
 | cont => exact q
theorem pU (h1 : PS X st t) : PSs X [st] t := by
 intro pins s σ H D I h;refine wpAny_execs_cons (thn (h1 pins s σ H D I h) fun f s1 q => ?_)
 cases f with
 | next => exact wpAny_execs_nil q
 | ret v => exact q
 | brk => exact q
 | cont => exact q
theorem Inv.quiet {pins : List (Addr × Obj)} {σ : St} {H : Hp} {s : Shared} (I : Inv X pins σ H s) : interactive X.env = false := by simp [interactive, I.ok.kind]
noncomputable def pO (te : TE) : TS := fun D σ H => te σ H fun _ H1 => D.nx σ H1
theorem pT (he : PE X e te) (hs : swapsWith e none pos.line X.env = pure false := by rfl) : PS X (.Expr e pos) (pO te) := by
 intro pins s σ H D I h;exact wpAny_Expr_any (thn (he pins s σ H _ I h) fun v s1 ⟨x, H1, I1, r1, q1⟩ => ⟨σ, H1, I1, q1⟩) I.quiet hs
noncomputable def zU (te : TE) : TS := fun D σ H => te σ H D.rt
theorem tR (he : PE X e te) : PS X (.Return (some e) pos) (zU te) := by
 intro pins s σ H D I h;exact wpAny_Return_some (thn (he pins s σ H _ I h) fun v s1 ⟨x, H1, I1, r1, q1⟩ => ⟨x, σ, H1, I1, r1, q1⟩)
noncomputable def Ef (c : TT) (t u : TS) : TS := fun D σ H => c σ H fun b H1 => if b = true then t D σ H1 else u D σ H1
theorem DR {c : Expr} {a b : List Stmt} {tc : TT} (hc : PT X c tc) (ha : PSs X a t) (hb : PSs X b u) : PS X (.If c a b pos) (Ef tc t u) := by
 intro pins s σ H D I h;refine wpAny_If (thn (hc pins s σ H _ I h) fun d s1 ⟨H1, I1, q1⟩ => ?_)
 cases d with
 | true => exact ha pins s1 σ H1 D I1 q1
 | false => exact hb pins s1 σ H1 D I1 q1
noncomputable def sC : TS := fun _ _ _ => False
theorem tW : PS X st sC := fun _ _ _ _ _ _ h => h.elim
end
noncomputable abbrev TG := V → St → Hp → (St → Hp → Prop) → Prop
noncomputable abbrev TGs := List V → St → Hp → (St → Hp → Prop) → Prop
noncomputable def PG (X : Cx) (target : Expr) (t : TG) : Prop :=
 ∀ (pins : List (Addr × Obj)) (s : Shared) (σ : St) (H : Hp) (v : V) (u : Value) (Q : St → Hp → Prop), Inv X pins σ H s → RelV v u → t v σ H Q →
  wpAny (model X.prog X.w) X.A (assign target X.env u) (fun _ s' => ∃ σ' H', Inv X pins σ' H' s' ∧ Q σ' H') X.xe s
noncomputable def PGs (X : Cx) (ts : List Expr) (t : TGs) : Prop :=
 ∀ (pins : List (Addr × Obj)) (s : Shared) (σ : St) (H : Hp) (vs : List V) (us : List Value) (Q : St → Hp → Prop), Inv X pins σ H s → Vals vs us → t vs σ H Q →
  wpAny (model X.prog X.w) X.A (assignInOrder ((assignEach ts X.env).map (·.2)) us) (fun _ s' => ∃ σ' H', Inv X pins σ' H' s' ∧ Q σ' H') X.xe s
section
variable {X : Cx} {pos : Pos}
noncomputable def oj (i : Nat) : TG := fun v σ H Q => Q (σ.set i (some v)) H
theorem vM {i : Nat} {x : Str} (hN : X.N.Nodup) (hi : X.N[i]? = some x) (hx : Loc X.env.scope x) (hf : X.fn x = true ∨ X.env.scope.names.lookup x = some .local := by first | exact .inl rfl | exact .inr rfl | assumption) : PG X (.Name x pos) (oj i) := by
 intro pins s σ H v u Q I r h;exact wpAny_assign_Name (hX I hN hi hx r (fun s' I' => ⟨_, H, I', h⟩) hf)
noncomputable def Ec : TGs := fun vs σ H Q => vs = [] ∧ Q σ H
noncomputable def xx (t : TG) (u : TGs) : TGs := fun vs σ H Q => ∃ v r, vs = v :: r ∧ t v σ H fun σ' H' => u r σ' H' Q
theorem ve : PGs X [] Ec := by
 intro pins s σ H vs us Q I r h;obtain ⟨e, h⟩ := h;subst e;cases r;exact assignInOrder_nil ⟨σ, H, I, h⟩
theorem tj {e : Expr} {es : List Expr} {t : TG} {u : TGs} (h1 : PG X e t) (h2 : PGs X es u)
  (hs : (assignEach (e :: es) X.env).map (·.2) = assign e X.env :: (assignEach es X.env).map (·.2) := by rfl) : PGs X (e :: es) (xx t u) := by
 intro pins s σ H vs us Q I r h;obtain ⟨v, vr, e1, h⟩ := h;subst e1;cases r with
 | cons r rr =>
  rw [hs];refine assignInOrder_cons (thn (h1 pins s σ H _ _ _ I r h) fun _ s1 ⟨σ1, H1, I1, q1⟩ => ?_)
  exact h2 pins s1 σ1 H1 _ _ Q I1 rr q1
noncomputable def C7 (K : PySem.W.Frag) (n : Nat) (t : TGs) : TG := fun v σ H Q => ∃ a xs, v = .ref a ∧ SqT K H a xs ∧ xs.length = n ∧ t xs σ H Q
theorem yU {es : List Expr} {k : Nat} {t : TGs} {n : Nat} (hc : X.calm = true) (h : PGs X es t)
  (hn : (assignEach es X.env).length = n := by rfl) (hst : (assignEach es X.env).findIdx? (·.1) = none := by rfl) : PG X (.Tuple es k pos) (C7 X.K n t) := by
 intro pins s σ H v u Q I r hw;obtain ⟨a, xs, e1, hq, hl, hw⟩ := hw;subst e1;cases r;obtain ⟨its, rv, ht, hz⟩ := I.tuple hq;refine assign_Tuple_tuple (I.ok.hd hc) ht (by simp [hn, ← hl, rv.length]) hst fun h' hx => ?_
 have I1 : Inv X pins σ H { s with heap := h' } := I.kept (t' := s.toks) fun b o e => hx b o (Nat.ne_of_lt (Heap.lt_size e)) e
 exact h pins _ σ H xs _ Q I1 (by simpa using rv) hw
noncomputable def wm (te : TE) (g : TG) : TS := fun D σ H => te σ H fun x H1 => g x σ H1 D.nx
theorem uD {i : Nat} {x : Str} {e : Expr} {te : TE} {pos' : Pos} (hN : X.N.Nodup) (hi : X.N[i]? = some x) (hx : Loc X.env.scope x) (he : PE X e te) (hs : swapsWith e (some (.Name x pos')) pos.line X.env = pure false := by rfl) (hf : X.fn x = true ∨ X.env.scope.names.lookup x = some .local := by first | exact .inl rfl | exact .inr rfl | assumption) :
  PS X (.Assign [.Name x pos'] e pos) (wm te (oj i)) := by
 intro pins s σ H D I h;refine wpAny_Assign_Name (thn (he pins s σ H _ I h) fun v s1 ⟨y, H1, I1, r1, q1⟩ => ?_) hs
 exact hX I1 hN hi hx r1 (fun s2 I2 => ⟨_, H1, I2, q1⟩) hf
end
section
variable {X : Cx} {pos : Pos}
noncomputable def sO (c : TT) (tb : TS) : TS := fun D σ H => ∃ W : Nat → St → Hp → Prop, (∃ m, W m σ H) ∧ ∀ m σ H, W m σ H →
 c σ H fun b H1 => if b = true then ∃ N : St → Hp → Prop, (∀ σ' H', N σ' H' → ∃ m', m' < m ∧ W m' σ' H') ∧ tb { D with nx := N, ct := N, bk := D.nx } σ H1 else D.nx σ H1
theorem sj {c : Expr} {body : List Stmt} {tc : TT} {tb : TS} (hp : PassesOwn (model X.prog X.w) X.A X.env X.xe) (hc : PT X c tc) (hb : PSs X body tb) : PS X (.While c body [] pos) (sO tc tb) := by
 intro pins s σ H D I h;obtain ⟨W, ⟨m0, w0⟩, turn⟩ := h;refine wpAny_While (codeAny_whileLoop (fun n s' => ∃ σ' H', Inv X pins σ' H' s' ∧ W n σ' H') ?_ m0 ⟨σ, H, I, w0⟩)
 rintro n s1 ⟨σ1, H1, I1, w1⟩;refine wpAny_passesOwn hp (thn (hc pins s1 σ1 H1 _ I1 (turn n σ1 H1 w1)) fun b s2 ⟨H2, I2, q2⟩ => ?_)
 cases b with
 | true =>
  obtain ⟨N, hN, q2⟩ := q2;rw [if_pos rfl];refine wpAny_passesOwn hp (thn (hb pins s2 σ1 H2 _ I2 q2) fun f s3 q3 => ?_)
  cases f with
  | next =>
   obtain ⟨σ3, H3, I3, n3⟩ := q3;obtain ⟨m', hm, w3⟩ := hN σ3 H3 n3;exact ⟨m', hm, σ3, H3, I3, w3⟩
  | cont =>
   obtain ⟨σ3, H3, I3, n3⟩ := q3;obtain ⟨m', hm, w3⟩ := hN σ3 H3 n3;exact ⟨m', hm, σ3, H3, I3, w3⟩
  | brk => exact q3
  | ret v => exact q3
 | false =>
  rw [if_neg Bool.false_ne_true];exact wpAny_execs_nil ⟨σ1, H2, I2, q2⟩
end
structure It where
 go : Nat → Hp → Prop
 yld : Nat → Hp → V → Hp → Prop
 stop : Nat → Hp → Prop
noncomputable def jS (X : Cx) (pins : List (Addr × Obj)) (H : Hp) (b : Addr) : Prop :=
 H b = none ∧ b ≠ X.env.locals ∧ b ∉ X.fs ∧ (b ∈ X.ex ∨ X.s₀.heap.objs.size ≤ b) ∧ (∀ x c, X.env.cells.lookup x = some c → c ≠ b) ∧ ∀ p ∈ X.pn ++ pins, p.1 ≠ b
theorem Inv.fpOk {X : Cx} {pins : List (Addr × Obj)} {σ : St} {H H' : Hp} {s : Shared} {b : Addr} (I : Inv X pins σ H s) (hb : s.heap.objs.size ≤ b) (hn : H' b = none) : jS X pins H' b := by
 refine ⟨hn, Nat.ne_of_gt (Nat.lt_of_lt_of_le I.lt hb), I.nofs hb, .inr (Nat.le_trans I.sz hb), fun x c e z => ?_, fun p hp z => ?_⟩
 ·obtain ⟨v, q⟩ := I.cell x c e
  exact absurd (Nat.lt_of_lt_of_le q.lt (by rw [z]; exact hb)) (Nat.lt_irrefl _)
 ·exact absurd (Nat.lt_of_lt_of_le (Heap.lt_size (I.pin p hp).1) (by rw [z]; exact hb)) (Nat.lt_irrefl _)
structure Turn (P : Program) (w : World) (K : PySem.W.Frag) (tg : Expr) (J : It) (fp : List Addr) (it : Addr) (tn : Nat → Heap → Prop) : Prop where
 mem : it ∈ fp
 obj : ∀ i h, tn i h → ∀ b ∈ fp, ∃ o, h.get? b = some o ∧ ∀ v, o.data ≠ .cell v
 keep : ∀ i h h', tn i h → (∀ b ∈ fp, ∀ o, h.get? b = some o → h'.get? b = some o) → tn i h'
 item : ∀ (X : Cx), X.prog = P → X.w = w → X.K = K → X.calm = true → ∀ (i : Nat) (pins : List (Addr × Obj)) (s : Shared) (σ : St) (H : Hp) (E : Value → Shared → Prop), Inv X pins σ H s → (∀ b ∈ fp, jS X pins H b) → tn i s.heap → J.go i H →
  wpAny (model P w) X.A (pyNext (.ref it)) (fun r s1 => ∃ u, r = some u ∧
   wpAny (model P w) X.A (letOwnedTupleGo tg (.ref it) u) (fun _ s2 => ∃ x H', Inv X pins σ H' s2 ∧ RelV x u ∧ J.yld i H x H' ∧ tn (i + 1) s2.heap ∧ ∀ b ∈ fp, H' b = none) E s1) E s
 done : ∀ (X : Cx), X.prog = P → X.w = w → X.K = K → X.calm = true → ∀ (i : Nat) (pins : List (Addr × Obj)) (s : Shared) (σ : St) (H : Hp) (E : Value → Shared → Prop), Inv X pins σ H s → (∀ b ∈ fp, jS X pins H b) → tn i s.heap → J.stop i H →
  wpAny (model P w) X.A (pyNext (.ref it)) (fun r s1 => r = none ∧ Inv X pins σ H s1) E s
 self : ∀ (A : Around) (i : Nat) (s : Shared) (Q : Value → Shared → Prop) (E : Value → Shared → Prop), tn i s.heap → Q (.ref it) s → wpAny (model P w) A (pyIter (.ref it)) Q E s
noncomputable abbrev TI := St → Hp → (It → Hp → Prop) → Prop
noncomputable def PIE (X : Cx) (pins : List (Addr × Obj)) (σ : St) (tg : Expr) (R : It → Hp → Prop) (itv : Value) (s2 : Shared) : Prop :=
 ∃ (it : Addr) (fp : List Addr) (tn : Nat → Heap → Prop) (J : It) (H' : Hp), itv = .ref it ∧ Inv X pins σ H' s2 ∧ Turn X.prog X.w X.K tg J fp it tn ∧ tn 0 s2.heap ∧ (∀ b ∈ fp, jS X pins H' b) ∧ R J H'
noncomputable def PI (X : Cx) (tg iter : Expr) (wi : TI) : Prop :=
 ∀ (pins : List (Addr × Obj)) (s : Shared) (σ : St) (H : Hp) (R : It → Hp → Prop), Inv X pins σ H s → wi σ H R →
  wpAny (model X.prog X.w) X.A (eval iter X.env) (fun v s1 => wpAny (model X.prog X.w) X.A (pyIter v) (PIE X pins σ tg R) X.xe s1) X.xe s
theorem sH {M : Model} {A : Around} {E : Value → Shared → Prop} {s : Shared} {tg : Expr} {it : Addr} {u : Value} {o : Obj} {n : String} {vs : Array Value} {Q : Unit → Shared → Prop} (ho : s.heap.get? it = some o) (hc : o.cls = .type n) (hd : o.data = .fields vs)
    (hn : ["enumerate", "zip", "dict_itemiterator", "dict_reverseitemiterator", "odict_iterator", "itertools.zip_longest", "itertools.pairwise"].contains n = false) (hQ : Q () s) : wpAny M A (letOwnedTupleGo tg (.ref it) u) Q E s := by
  unfold letOwnedTupleGo;cases tg <;> first
    | exact wpAny_pure hQ
    | (cases u <;> first
        | exact wpAny_pure hQ
        | (refine wpAny_bind (wpAny_load ho ?_)
           rw [hc, hd];show wpAny M A (if (["enumerate", "zip", "dict_itemiterator", "dict_reverseitemiterator", "odict_iterator", "itertools.zip_longest", "itertools.pairwise"].contains n && vs[0]? == some (rawInt _)) = true then _ else _) Q E s
           rw [if_neg (by intro h; rw [hn, Bool.false_and] at h; cases h)]
           exact wpAny_pure hQ))
noncomputable def Itl (K : PySem.W.Frag) (a : Addr) : It :=
 ⟨fun i H => ∃ xs x, SqL K H a xs ∧ xs[i]? = some x, fun i H x H' => H' = H ∧ ∀ xs, SqL K H a xs → xs[i]? = some x, fun i H => ∃ xs, SqL K H a xs ∧ xs.length ≤ i⟩
noncomputable def Itr (lo : Int) (n : Nat) : It := ⟨fun i _ => i < n, fun i H x H' => H' = H ∧ x = .int (lo + i), fun i _ => n ≤ i⟩
theorem qK {P : Program} {w : World} {K : PySem.W.Frag} {tg : Expr} (a it : Addr) : Turn P w K tg (Itl K a) [it] it (fun i h => h.IsListIter it a i) where
 mem := by simp
 obj := fun i h st b hb => by
  have e : b = it := by simpa using hb
  subst e;obtain ⟨o, e, c, d⟩ := st;exact ⟨o, e, fun v z => by rw [d] at z; cases z⟩
 keep := fun i h h' st k => st.at fun o e => k it (by simp) o e
 item := by
  intro X hP hw hK hc i pins s σ H E I hf st hg;subst hP hw hK;obtain ⟨xs, x, hq, hx⟩ := hg;obtain ⟨its, rv, p, hz⟩ := I.list hq;obtain ⟨u, hu, ru⟩ := rv.get hx;obtain ⟨f0, f1, f2, f3, f4, f5⟩ := hf it (by simp)
  refine wpAny_pyNext_list_item st p.isList (x := u) (by simpa using hu) fun h' st' sb => ?_
  have I1 : Inv X pins σ H { s with heap := h' } := I.turned (t' := s.toks) (fun b o hb e => (sb.2 b hb).trans e) f0 f1 f3 f4 f5
  obtain ⟨o, e, c, d⟩ := id st';exact ⟨u, rfl, sH (s := { s with heap := h' }) e c d (by decide) ⟨x, H, I1, ru, ⟨rfl, fun ys hy => by rw [I.list_inj hy hq]; exact hx⟩, st', fun b hb => (hf b hb).1⟩⟩
 done := by
  intro X hP hw hK hc i pins s σ H E I hf st hg;subst hP hw hK;obtain ⟨xs, hq, hx⟩ := hg;obtain ⟨its, rv, p, hz⟩ := I.list hq;obtain ⟨f0, f1, f2, f3, f4, f5⟩ := hf it (by simp)
  have hl := rv.length;exact wpAny_pyNext_list_end (I.ok.hd hc) st p.isList (by simp; lia) fun h' eb => ⟨rfl, I.turned (t' := s.toks) (fun b o hb e => eb b o hb e) f0 f1 f3 f4 f5⟩
 self := fun _ _ _ _ _ st h => wpAny_pyIter_listiter st h
theorem o8 {P : Program} {w : World} {K : PySem.W.Frag} {tg : Expr} (it : Addr) (lo : Int) (n : Nat) : Turn P w K tg (Itr lo n) [it] it (fun i h => IsRangeIter h it (lo + (i : Nat) * 1) ((n : Int) - (i : Nat)) 1) where
 mem := by simp
 obj := fun i h st b hb => by
  have e : b = it := by simpa using hb
  subst e;exact ⟨_, st, fun v z => by
   have z' : Data.fields _ = Data.cell v := z;cases z'⟩
 keep := fun i h h' st k => k it (by simp) _ st
 item := by
  intro X hP hw hK hc i pins s σ H E I hf st hg;subst hP hw hK;obtain ⟨f0, f1, f2, f3, f4, f5⟩ := hf it (by simp)
  have W := Walks.range (prog := X.prog) (w := X.w) (I.ok.hd hc) it lo 1 n;refine W.item i s _ _ hg st fun v h' tk hv st' kk => ?_
  obtain ⟨t, rfl⟩ := hv;have I1 : Inv X pins σ H { s with heap := h', toks := tk } := I.turned (fun b o hb e => kk b o (by simpa using hb) e) f0 f1 f3 f4 f5
  refine ⟨_, rfl, sH (s := { s with heap := h', toks := tk }) (n := "range_iterator") st' rfl rfl (by decide) ⟨.int (lo + i), H, I1, ⟨t, ?_⟩, ⟨rfl, rfl⟩, st', fun b hb => (hf b hb).1⟩⟩
  rw [Int.mul_one]
 done := by
  intro X hP hw hK hc i pins s σ H E I hf st hg;subst hP hw hK;obtain ⟨f0, f1, f2, f3, f4, f5⟩ := hf it (by simp)
  exact wpAny_pyNext_range_end (I.ok.hd hc) st (by have : n ≤ i := hg; lia) fun h' eb => ⟨rfl, I.turned (t' := s.toks) (fun b o hb e => eb b o hb e) f0 f1 f3 f4 f5⟩
 self := fun _ _ _ _ _ st h => wpAny_pyIter_rangeiter st h
end L2
namespace L2
open PySem PySem.Spec PyProof.Rows
section
variable {X : Cx} {tg : Expr}
noncomputable def xK (K : PySem.W.Frag) (tl : TE) : TI := fun σ H R => tl σ H fun x H1 => ∃ a, x = .ref a ∧ (∃ xs, SqL K H1 a xs) ∧ R (Itl K a) H1
theorem wq {l : Expr} {tl : TE} (hl : PE X l tl) : PI X tg l (xK X.K tl) := by
 intro pins s σ H R I h;refine thn (hl pins s σ H _ I h) fun v s1 ⟨x, H1, I1, r1, q1⟩ => ?_
 obtain ⟨a, e, ⟨xs, hq⟩, q⟩ := q1;subst e;cases r1;obtain ⟨its, rv, p, hz⟩ := I1.list hq;refine wpAny_pyIter_list p.isList ?_;refine ⟨s1.heap.objs.size, [s1.heap.objs.size], _, _, H1, rfl, I1.kept (t' := s1.toks) fun b o e => Heap.get?_push_of_some _ e, qK a _, ⟨_, Heap.get?_push_size _ rfl, rfl, rfl⟩, fun b hb => ?_, q⟩
 have e : b = s1.heap.objs.size := by simpa using hb
 subst e;exact I1.fpOk (Nat.le_refl _) (I1.hok.fresh (Nat.le_refl _))
theorem oh {pins : List (Addr × Obj)} {σ : St} {H : Hp} {s : Shared} {R : It → Hp → Prop} {E : Value → Shared → Prop} {lo hi : Int} {t u v : Tok} {tk : Nat} (I : Inv X pins σ H s) (h1 : -(2 ^ 62) ≤ lo) (h2 : lo < 2 ^ 62) (h3 : -(2 ^ 62) ≤ hi) (h4 : hi < 2 ^ 62)
  (q : R (Itr lo (hi - lo).toNat) H) : wpAny (model X.prog X.w) X.A (pyIter (.ref s.heap.objs.size)) (PIE X pins σ tg R) E { s with heap := s.heap.push { cls := .type "range", data := .fields #[.int lo t, .int hi u, .int 1 v] }, toks := tk } := by
 refine wpAny_pyIter_range (IsRange.new ..) (small_one h1 h2 h3 h4) ?_;have I1 : Inv X pins σ H { s with heap := s.heap.push { cls := .type "range", data := .fields #[.int lo t, .int hi u, .int 1 v] }, toks := tk } := I.kept fun b o e => Heap.get?_push_of_some _ e
 refine ⟨(s.heap.push { cls := .type "range", data := .fields #[.int lo t, .int hi u, .int 1 v] }).objs.size, [(s.heap.push { cls := .type "range", data := .fields #[.int lo t, .int hi u, .int 1 v] }).objs.size], _, _, H, rfl,
  I1.kept (t' := tk) fun b o e => Heap.get?_push_of_some _ e, o8 _ lo (hi - lo).toNat, ?_, fun b hb => ?_, q⟩
 ·have e1 : lo + ((0 : Nat) : Int) * 1 = lo := by simp
  have e2 : (((hi - lo).toNat : Nat) : Int) - ((0 : Nat) : Int) = Builtin.Range.rangeSize lo hi 1 := by rw [rangeSize_one]; split <;> lia
  show IsRangeIter _ _ (lo + ((0 : Nat) : Int) * 1) ((((hi - lo).toNat : Nat) : Int) - ((0 : Nat) : Int)) 1
  rw [e1, e2];exact Heap.get?_push_size _ rfl
 ·have e : b = (s.heap.push { cls := .type "range", data := .fields #[.int lo t, .int hi u, .int 1 v] }).objs.size := by simpa using hb
  subst e;exact I1.fpOk (Nat.le_refl _) (I1.hok.fresh (Nat.le_refl _))
noncomputable def xv (ta : TA) : TI := fun σ H R => ta σ H fun vs H1 => ∃ j : Int, vs = [.int j] ∧ -(2 ^ 62) ≤ j ∧ j < 2 ^ 62 ∧ R (Itr 0 j.toNat) H1
noncomputable def xm (ta : TA) : TI := fun σ H R => ta σ H fun vs H1 => ∃ i j : Int, vs = [.int i, .int j] ∧ (-(2 ^ 62) ≤ i ∧ i < 2 ^ 62 ∧ -(2 ^ 62) ≤ j ∧ j < 2 ^ 62) ∧ R (Itr i (j - i).toNat) H1
theorem rh {a : Expr} {ta : TA} {p pos : Pos} (hg : Gl X "range") (hm : X.mg "range" = none) (ha : PA X [a] ta) (hs : starEach [a] X.env = [(false, eval a X.env)] := by rfl) : PI X tg (.Call (.Name "range" p) [a] [] pos) (xv ta) := by
 intro pins s σ H R I h;refine Call_ (iO I hg hm boot_range (PyProof.Rows.callWith_type1 (thn (ha pos pins s σ H _ I h) fun us s1 ⟨vs, H1, I1, r1, q1⟩ => ?_) hs rfl))
 obtain ⟨j, e, q1, q2, q⟩ := q1;subst e;cases r1 with
 | cons r rr =>
  cases rr;obtain ⟨t, rfl⟩ := r;exact call_range_1 (oh I1 (by lia) (by lia) q1 q2 (by simpa using q))
theorem rC {a b : Expr} {ta : TA} {p pos : Pos} (hg : Gl X "range") (hm : X.mg "range" = none) (ha : PA X [a, b] ta) (hs : starEach [a, b] X.env = [(false, eval a X.env), (false, eval b X.env)] := by rfl) (hs2 : starEach [b] X.env = [(false, eval b X.env)] := by rfl) :
  PI X tg (.Call (.Name "range" p) [a, b] [] pos) (xm ta) := by
 intro pins s σ H R I h;refine Call_ (iO I hg hm boot_range (PyProof.Rows.callWith_type1 (thn (ha pos pins s σ H _ I h) fun us s1 ⟨vs, H1, I1, r1, q1⟩ => ?_) (by rw [hs, hs2]) (by rw [hs2]; rfl)))
 obtain ⟨i, j, e, ⟨q1, q2, q3, q4⟩, q⟩ := q1;subst e;cases r1 with
 | cons r rr =>
  cases rr with
  | cons r' rr =>
   cases rr;obtain ⟨t, rfl⟩ := r;obtain ⟨t', rfl⟩ := r';exact call_range_2 (oh I1 q1 q2 q3 q4 q)
noncomputable def Du (wi : TI) (g : TG) (tb : TS) : TS := fun D σ H => wi σ H fun J H1 => ∃ W : Nat → Nat → St → Hp → Prop, (∃ m, W 0 m σ H1) ∧ ∀ i m σ H, W i m σ H →
 (J.stop i H ∧ D.nx σ H) ∨ (J.go i H ∧ ∃ N : St → Hp → Prop, (∀ σ' H', N σ' H' → ∃ m', m' < m ∧ W (i + 1) m' σ' H') ∧ ∀ x H', J.yld i H x H' → g x σ H' fun σ2 H2 => tb { D with nx := N, ct := N, bk := D.nx } σ2 H2)
noncomputable def kK (fp : List Addr) (h : Heap) : List (Addr × Obj) := fp.filterMap fun b => (h.get? b).map fun o => (b, o)
theorem gW {fp : List Addr} {h : Heap} {b : Addr} {o : Obj} (hb : b ∈ fp) (e : h.get? b = some o) : (b, o) ∈ kK fp h := List.mem_filterMap.mpr ⟨b, hb, by rw [e]; rfl⟩
theorem qJ {fp : List Addr} {h : Heap} {p : Addr × Obj} (hp : p ∈ kK fp h) : p.1 ∈ fp ∧ h.get? p.1 = some p.2 := by
 obtain ⟨b, hb, e⟩ := List.mem_filterMap.mp hp;cases q : h.get? b with
 | none => rw [q] at e; cases e
 | some o =>
  rw [q] at e;have e' : (b, o) = p := Option.some.inj e;subst e';exact ⟨hb, q⟩
theorem Inv.pinned {pins : List (Addr × Obj)} {σ : St} {H : Hp} {s : Shared} {fp : List Addr} (I : Inv X pins σ H s) (hf : ∀ b ∈ fp, jS X pins H b) (ho : ∀ b ∈ fp, ∃ o, s.heap.get? b = some o ∧ ∀ v, o.data ≠ .cell v) : Inv X (pins ++ kK fp s.heap) σ H s :=
 I.pins_of fun p hp => (List.mem_append.mp hp).elim (fun z => I.pin p (List.mem_append_right _ z)) fun z => by
  obtain ⟨hb, e⟩ := qJ z;obtain ⟨f0, f1, f2, _⟩ := hf p.1 hb;obtain ⟨o, e', d⟩ := ho p.1 hb;rw [e] at e'; cases e';exact ⟨e, f0, f1, f2, d⟩
theorem Inv.unpinned {pins pl : List (Addr × Obj)} {σ : St} {H : Hp} {s : Shared} (I : Inv X (pins ++ pl) σ H s) : Inv X pins σ H s := I.pins_of fun p hp => I.pin p (List.mem_append_right _ (List.mem_append_left _ hp))
theorem zR {iter : Expr} {body : List Stmt} {wi : TI} {g : TG} {tb : TS} {pos : Pos} (hp : PassesOwn (model X.prog X.w) X.A X.env X.xe) (hc : X.calm = true) (hi : PI X tg iter wi) (hg : PG X tg g) (hb : PSs X body tb)
  (hs : ∀ x, foldedSetIterable iter X.env x = pure x := by intro _; rfl) : PS X (.For tg iter body [] pos) (Du wi g tb) := by
 intro pins s σ H D I h;refine wpAny_For (thn (hi pins s σ H _ I h) fun v s1 h1 => thn h1 fun itv s2 h2 => ?_) hs
 obtain ⟨it, fp, tn, J, H2, e, I2, T, st2, f2, W, ⟨m0, w0⟩, turn⟩ := h2;subst e;have stat : ∀ {H' : Hp}, (∀ b ∈ fp, H' b = none) → ∀ b ∈ fp, jS X pins H' b := fun hn b hb => ⟨hn b hb, (f2 b hb).2⟩
 refine codeAny_forLoop_any (fun n s' => ∃ i σ' H', Inv X pins σ' H' s' ∧ tn i s'.heap ∧ (∀ b ∈ fp, H' b = none) ∧ W i n σ' H') ?_ m0 ⟨0, σ, H2, I2, st2, fun b hb => (f2 b hb).1, w0⟩
 rintro n s3 ⟨i, σ3, H3, I3, st3, fr3, w3⟩;rcases turn i n σ3 H3 w3 with ⟨stop, qn⟩ | ⟨go, N, hN, step⟩
 ·refine wpAny_passesOwn hp (thn (T.done X rfl rfl rfl hc i pins s3 σ3 H3 X.xe I3 (stat fr3) st3 stop) fun r s4 ⟨hr, I4⟩ => ?_)
  subst hr;exact wpAny_execs_nil ⟨σ3, H3, I4, qn⟩
 ·refine wpAny_passesOwn hp (thn (T.item X rfl rfl rfl hc i pins s3 σ3 H3 X.xe I3 (stat fr3) st3 go) fun r s4 ⟨u, hr, h4⟩ => ?_)
  subst hr;refine wpAny_passesOwn hp (thn h4 fun _ s5 ⟨x, H5, I5, r5, y5, st5, fr5⟩ => ?_)
  have I5' := I5.pinned (stat fr5) (T.obj _ _ st5);refine wpAny_passesOwn hp (thn (hg _ s5 σ3 H5 x u _ I5' r5 (step x H5 y5)) fun _ s6 ⟨σ6, H6, I6, q6⟩ => ?_)
  refine wpAny_passesOwn hp (thn (hb _ s6 σ6 H6 _ I6 q6) fun f s7 q7 => ?_)
  have again : ∀ {σ7 : St} {H7 : Hp}, Inv X (pins ++ kK fp s5.heap) σ7 H7 s7 → N σ7 H7 → ∃ m, m < n ∧ ∃ i σ' H', Inv X pins σ' H' s7 ∧ tn i s7.heap ∧ (∀ b ∈ fp, H' b = none) ∧ W i m σ' H' := fun {σ7 H7} I7 n7 => by
   obtain ⟨m', hm, w7⟩ := hN σ7 H7 n7;refine ⟨m', hm, i + 1, σ7, H7, I7.unpinned, T.keep _ _ _ st5 fun b hb o e => (I7.pin (b, o) (List.mem_append_right _ (List.mem_append_right _ (gW hb e)))).1, fun b hb => ?_, w7⟩
   obtain ⟨o, e, d⟩ := T.obj _ _ st5 b hb;exact (I7.pin (b, o) (List.mem_append_right _ (List.mem_append_right _ (gW hb e)))).2.1
  cases f with
  | next => obtain ⟨σ7, H7, I7, n7⟩ := q7; exact again I7 n7
  | cont => obtain ⟨σ7, H7, I7, n7⟩ := q7; exact again I7 n7
  | brk => obtain ⟨σ7, H7, I7, q7⟩ := q7; exact ⟨σ7, H7, I7.unpinned, q7⟩
  | ret v => obtain ⟨x7, σ7, H7, I7, r7, q7⟩ := q7; exact ⟨x7, σ7, H7, I7.unpinned, r7, q7⟩
end
end L2
namespace L2
open PySem PySem.Spec PyProof.Rows
noncomputable abbrev R2 := V → V → Hp → VK → Prop
noncomputable def OpR (X : Cx) (f : Value → Value → Sem Value) (r : R2) : Prop :=
 ∀ (pins : List (Addr × Obj)) (s : Shared) (σ : St) (H : Hp) (x y : V) (v u : Value) (Q : VK), Inv X pins σ H s → RelV x v → RelV y u → r x y H Q →
  wpAny (model X.prog X.w) X.A (f v u) (EP X pins σ Q) X.xe s
noncomputable def UnR (X : Cx) (f : Value → Sem Value) (r : V → Hp → VK → Prop) : Prop :=
 ∀ (pins : List (Addr × Obj)) (s : Shared) (σ : St) (H : Hp) (x : V) (v : Value) (Q : VK), Inv X pins σ H s → RelV x v → r x H Q →
  wpAny (model X.prog X.w) X.A (f v) (EP X pins σ Q) X.xe s
noncomputable def ee (X : Cx) (f : Value) (r : List V → Hp → VK → Prop) : Prop :=
 ∀ (pins : List (Addr × Obj)) (s : Shared) (σ : St) (H : Hp) (xs : List V) (us : List Value) (Q : VK), Inv X pins σ H s → Vals xs us → r xs H Q →
  wpAny (model X.prog X.w) X.A (call f us) (EP X pins σ Q) X.xe s
noncomputable def tOp (r : R2) (ta tb : TE) : TE := fun σ H Q => ta σ H fun x H1 => tb σ H1 fun y H2 => r x y H2 Q
noncomputable def tUn (r : V → Hp → VK → Prop) (ta : TE) : TE := fun σ H Q => ta σ H fun x H1 => r x H1 Q
noncomputable def rI (C : Int → Int → Prop) (g : Int → Int → V) : R2 := fun x y H Q => ∃ i j, x = .int i ∧ y = .int j ∧ C i j ∧ Q (g i j) H
noncomputable def rI0 (g : Int → Int → V) : R2 := fun x y H Q => ∃ i j, x = .int i ∧ y = .int j ∧ Q (g i j) H
noncomputable def rU (g : Int → V) : V → Hp → VK → Prop := fun x H Q => ∃ i, x = .int i ∧ Q (g i) H
section
variable {X : Cx} {a b c : Expr} {ta tb tc : TE} {pos : Pos}
theorem zz (ha : PE X a ta) (hb : PE X b tb) {pins : List (Addr × Obj)} {s : Shared} {σ : St} {H : Hp} {R : V → V → Hp → Prop} (I : Inv X pins σ H s)
  (h : ta σ H fun x H1 => tb σ H1 fun y H2 => R x y H2) {Q : Value → Shared → Prop} {f : Value → Value → Sem Value}
  (hf : ∀ v u s2 x y H2, Inv X pins σ H2 s2 → RelV x v → RelV y u → R x y H2 → wpAny (model X.prog X.w) X.A (f v u) Q X.xe s2) :
  wpAny (model X.prog X.w) X.A (eval a X.env) (fun v s₁ => wpAny (model X.prog X.w) X.A (eval b X.env) (fun u s₂ => wpAny (model X.prog X.w) X.A (f v u) Q X.xe s₂) X.xe s₁) X.xe s := by
 refine thn (ha pins s σ H _ I h) fun v s1 ⟨x, H1, I1, r1, q1⟩ => ?_
 refine thn (hb pins s1 σ H1 _ I1 q1) fun u s2 ⟨y, H2, I2, r2, q2⟩ => ?_
 exact hf v u s2 x y H2 I2 r1 r2 q2
theorem Dq {op : Operator} {r : R2} (ho : OpR X (binaryOp op) r) (ha : PE X a ta) (hb : PE X b tb) : PE X (.BinOp a op b pos) (tOp r ta tb) := by
 intro pins s σ H Q I h;exact wpAny_BinOp (zz ha hb I h fun v u s2 x y H2 I2 rx ry q => ho pins s2 σ H2 x y v u Q I2 rx ry q)
theorem CF {op : UnaryOp} {r : V → Hp → VK → Prop} (ho : UnR X (unaryOp op) r) (ha : PE X a ta) : PE X (.UnaryOp op a pos) (tUn r ta) := by
 intro pins s σ H Q I h;exact UnaryOp_ (thn (ha pins s σ H _ I h) fun v s1 ⟨x, H1, I1, r1, q1⟩ => ho pins s1 σ H1 x v Q I1 r1 q1)
theorem opI {f : Value → Value → Sem Value} {C : Int → Int → Prop} {g : Int → Int → Int}
  (rule : ∀ (i j : Int) (t u : Tok) (s : Shared) (Q : Value → Shared → Prop) (E : Value → Shared → Prop), C i j → Q (.int (g i j) s.toks) { s with toks := s.toks + 1 } → wpAny (model X.prog X.w) X.A (f (.int i t) (.int j u)) Q E s) :
  OpR X f (rI C fun i j => .int (g i j)) := by
 intro pins s σ H x y v u Q I rx ry h;obtain ⟨i, j, rfl, rfl, hc, q⟩ := h;obtain ⟨t, rfl⟩ := rx;obtain ⟨t', rfl⟩ := ry;exact rule i j t t' s _ _ hc ⟨.int (g i j), H, I.tok _, ⟨_, rfl⟩, q⟩
theorem De {f : Value → Value → Sem Value} {g : Int → Int → Int}
  (rule : ∀ (i j : Int) (t u : Tok) (s : Shared) (Q : Value → Shared → Prop) (E : Value → Shared → Prop), Q (.int (g i j) s.toks) { s with toks := s.toks + 1 } → wpAny (model X.prog X.w) X.A (f (.int i t) (.int j u)) Q E s) :
  OpR X f (rI0 fun i j => .int (g i j)) := by
 intro pins s σ H x y v u Q I rx ry h;obtain ⟨i, j, rfl, rfl, q⟩ := h;obtain ⟨t, rfl⟩ := rx;obtain ⟨t', rfl⟩ := ry;exact rule i j t t' s _ _ ⟨.int (g i j), H, I.tok _, ⟨_, rfl⟩, q⟩
theorem BN {f : Value → Value → Sem Value} {g : Int → Int → Bool}
  (rule : ∀ (i j : Int) (t u : Tok) (s : Shared) (Q : Value → Shared → Prop) (E : Value → Shared → Prop), Q (.bool (g i j)) s → wpAny (model X.prog X.w) X.A (f (.int i t) (.int j u)) Q E s) :
  OpR X f (rI0 fun i j => .bl (g i j)) := by
 intro pins s σ H x y v u Q I rx ry h;obtain ⟨i, j, rfl, rfl, q⟩ := h;obtain ⟨t, rfl⟩ := rx;obtain ⟨t', rfl⟩ := ry;exact rule i j t t' s _ _ ⟨.bl (g i j), H, I, rfl, q⟩
noncomputable def Bo (i j : Int) : Prop := 0 < j ∧ j < 1073741824
noncomputable def sI (i j : Int) : Prop := (-(2 ^ 64) < i ∧ i < 2 ^ 64) ∨ (-(2 ^ 64) < j ∧ j < 2 ^ 64)
theorem sI.ok {i j : Int} (h : sI i j) : IntMulOk i j := by
 rcases h with ⟨h1, h2⟩ | ⟨h1, h2⟩
 ·exact .of_left (intBits_le_64 h1 h2)
 ·exact .of_right (intBits_le_64 h1 h2)
theorem zj : OpR X (binaryOp .Add) (rI0 fun i j => .int (i + j)) := De fun _ _ _ _ _ _ _ q => add_int q
theorem fV : OpR X (binaryOp .Sub) (rI0 fun i j => .int (i - j)) := De fun _ _ _ _ _ _ _ q => sub_int q
theorem zE : OpR X (binaryOp .Mult) (rI sI fun i j => .int (i * j)) := opI fun _ _ _ _ _ _ _ hc q => mul_int q hc.ok
theorem cE : OpR X (binaryOp .FloorDiv) (rI Bo fun i j => .int (i / j)) := opI fun i j _ _ _ _ _ hc q => by
 have h1 : (0 : Int) < j := hc.1;have h2 : j < 1073741824 := hc.2;exact floordiv_int (by lia) (by rw [Int.fdiv_eq_ediv_of_nonneg i (by lia)]; exact q) (.inl (PyProof.noPylong_small (by lia)))
theorem cu : OpR X (binaryOp .Mod) (rI (fun _ j => 0 < j) fun i j => .int (i % j)) := opI fun i j _ _ _ _ _ hc q => by
 have h1 : (0 : Int) < j := hc;exact mod_int' (by lia) (by rw [Int.fmod_eq_emod_of_nonneg i (by lia)]; exact q)
theorem unI {f : Value → Sem Value} {g : Int → Int}
  (rule : ∀ (i : Int) (t : Tok) (s : Shared) (Q : Value → Shared → Prop) (E : Value → Shared → Prop), Q (.int (g i) s.toks) { s with toks := s.toks + 1 } → wpAny (model X.prog X.w) X.A (f (.int i t)) Q E s) :
  UnR X f (rU fun i => .int (g i)) := by
 intro pins s σ H x v Q I rx h;obtain ⟨i, rfl, q⟩ := h;obtain ⟨t, rfl⟩ := rx;exact rule i t s _ _ ⟨.int (g i), H, I.tok _, ⟨_, rfl⟩, q⟩
theorem d7 : UnR X (unaryOp .USub) (rU fun i => .int (-i)) := unI fun _ _ _ _ _ q => neg_int q
end
noncomputable def yF : V → V → Bool
 | .non, .non => true | .non, .int _ => true | .int _, .non => true | .non, .bl _ => true | .bl _, .non => true | .non, .str _ => true | .str _, .non => true
 | .int _, .int _ => true | .bl _, .bl _ => true | .str _, .str _ => true | .byt _, .byt _ => true
 | .int _, .str _ => true | .str _, .int _ => true | .bl _, .str _ => true | .str _, .bl _ => true
 | _, _ => false
noncomputable def rEq : R2 := fun x y H Q => yF x y = true ∧ Q (.bl (decide (x = y))) H
noncomputable def rNe : R2 := fun x y H Q => yF x y = true ∧ Q (.bl (!decide (x = y))) H
theorem pE {i j : Int} : decide (V.int i = V.int j) = (i == j) := by
 rw [Bool.eq_iff_iff];simp
theorem uJ {i j : Bool} : decide (V.bl i = V.bl j) = (i == j) := by
 rw [Bool.eq_iff_iff];simp
theorem qj {i j : Str} : decide (V.str i = V.str j) = (i == j) := by
 rw [Bool.eq_iff_iff];simp
theorem qw {i j : Array UInt8} : decide (V.byt i = V.byt j) = (i.toList == j.toList) := by
 rw [Bool.eq_iff_iff];cases i;cases j;simp
section
variable {X : Cx} {a b c : Expr} {ta tb tc : TE} {pos : Pos}
theorem bw {pins : List (Addr × Obj)} {σ : St} {H : Hp} {s : Shared} {Q : VK} {k k' : Bool} (I : Inv X pins σ H s) (q : Q (.bl k) H) (e : k = k') : EP X pins σ Q (.bool k') s := by
 subst e;exact ⟨.bl k, H, I, rfl, q⟩
theorem Dy : OpR X (compareOp .Eq) rEq := by
 intro pins s σ H x y v u Q I rx ry h;obtain ⟨hs, q⟩ := h;cases x with
 | non =>
  cases rx;cases y with
  | non => cases ry; exact PySem.EqNone.eq_none_none (bw I q (by simp))
  | bl j => cases ry; exact PySem.EqNone.eq_none_bool (bw I q (by simp))
  | int j => obtain ⟨t', rfl⟩ := ry; exact PySem.EqNone.eq_none_int (bw I q (by simp))
  | str j => obtain ⟨t', rfl⟩ := ry; exact PySem.EqNone.eq_none_str (bw I q (by simp))
  | _ => exact absurd (show false = true from hs) Bool.false_ne_true
 | bl i =>
  cases rx;cases y with
  | non => cases ry; exact PySem.EqNone.eq_bool_none (bw I q (by simp))
  | bl j => cases ry; exact eq_bool (bw I q uJ)
  | str j => obtain ⟨t', rfl⟩ := ry; exact PySem.EqMixed.eq_bool_str (bw I q (by simp))
  | _ => exact absurd (show false = true from hs) Bool.false_ne_true
 | int i =>
  obtain ⟨t, rfl⟩ := rx;cases y with
  | non => cases ry; exact PySem.EqNone.eq_int_none (bw I q (by simp))
  | int j => obtain ⟨t', rfl⟩ := ry; exact eq_int (bw I q pE)
  | str j => obtain ⟨t', rfl⟩ := ry; exact PySem.EqMixed.eq_int_str (bw I q (by simp))
  | _ => exact absurd (show false = true from hs) Bool.false_ne_true
 | str i =>
  obtain ⟨t, rfl⟩ := rx;cases y with
  | non => cases ry; exact PySem.EqNone.eq_str_none (bw I q (by simp))
  | bl j => cases ry; exact PySem.EqMixed.eq_str_bool (bw I q (by simp))
  | int j => obtain ⟨t', rfl⟩ := ry; exact PySem.EqMixed.eq_str_int (bw I q (by simp))
  | str j => obtain ⟨t', rfl⟩ := ry; exact eq_str (bw I q qj)
  | _ => exact absurd (show false = true from hs) Bool.false_ne_true
 | byt i =>
  obtain ⟨t, rfl⟩ := rx;cases y with
  | byt j => obtain ⟨t', rfl⟩ := ry; exact PySem.W.eq_bytes (bw I q qw)
  | _ => exact absurd (show false = true from hs) Bool.false_ne_true
 | _ => cases y <;> exact absurd (show false = true from hs) Bool.false_ne_true
theorem Eb : OpR X (compareOp .NotEq) rNe := by
 intro pins s σ H x y v u Q I rx ry h;obtain ⟨hs, q⟩ := h;cases x with
 | non =>
  cases rx;cases y with
  | non => cases ry; exact PySem.EqNone.ne_none_none (bw I q (by simp))
  | bl j => cases ry; exact PySem.EqNone.ne_none_bool (bw I q (by simp))
  | int j => obtain ⟨t', rfl⟩ := ry; exact PySem.EqNone.ne_none_int (bw I q (by simp))
  | str j => obtain ⟨t', rfl⟩ := ry; exact PySem.EqNone.ne_none_str (bw I q (by simp))
  | _ => exact absurd (show false = true from hs) Bool.false_ne_true
 | bl i =>
  cases rx;cases y with
  | non => cases ry; exact PySem.EqNone.ne_bool_none (bw I q (by simp))
  | bl j => cases ry; exact ne_bool (bw I q (congrArg not uJ))
  | str j => obtain ⟨t', rfl⟩ := ry; exact PySem.EqMixed.ne_bool_str (bw I q (by simp))
  | _ => exact absurd (show false = true from hs) Bool.false_ne_true
 | int i =>
  obtain ⟨t, rfl⟩ := rx;cases y with
  | non => cases ry; exact PySem.EqNone.ne_int_none (bw I q (by simp))
  | int j => obtain ⟨t', rfl⟩ := ry; exact ne_int (bw I q (congrArg not pE))
  | str j => obtain ⟨t', rfl⟩ := ry; exact PySem.EqMixed.ne_int_str (bw I q (by simp))
  | _ => exact absurd (show false = true from hs) Bool.false_ne_true
 | str i =>
  obtain ⟨t, rfl⟩ := rx;cases y with
  | non => cases ry; exact PySem.EqNone.ne_str_none (bw I q (by simp))
  | bl j => cases ry; exact PySem.EqMixed.ne_str_bool (bw I q (by simp))
  | int j => obtain ⟨t', rfl⟩ := ry; exact PySem.EqMixed.ne_str_int (bw I q (by simp))
  | str j => obtain ⟨t', rfl⟩ := ry; exact ne_str (bw I q (congrArg not qj))
  | _ => exact absurd (show false = true from hs) Bool.false_ne_true
 | byt i =>
  obtain ⟨t, rfl⟩ := rx;cases y with
  | byt j => obtain ⟨t', rfl⟩ := ry; exact PySem.W.ne_bytes (bw I q (congrArg not qw))
  | _ => exact absurd (show false = true from hs) Bool.false_ne_true
 | _ => cases y <;> exact absurd (show false = true from hs) Bool.false_ne_true
theorem oq : OpR X (compareOp .Lt) (rI0 fun i j => .bl (decide (i < j))) := BN fun _ _ _ _ _ _ _ q => lt_int q
theorem g7 : OpR X (compareOp .Gt) (rI0 fun i j => .bl (decide (j < i))) := BN fun _ _ _ _ _ _ _ q => gt_int q
theorem qN : OpR X (compareOp .In) (fun x y H Q => ∃ i j, x = .str i ∧ y = .str j ∧ Q (.bl (!(Builtin.Str.occurrences j i 0 j.length 1).isEmpty)) H) := by
 intro pins s σ H x y v u Q I rx ry h;obtain ⟨i, j, rfl, rfl, q⟩ := h;obtain ⟨t, rfl⟩ := rx;obtain ⟨t', rfl⟩ := ry;exact in_str (bw I q rfl)
noncomputable def isObj : HO → Bool
 | .lst _ => true
 | .ins _ _ _ => true
 | _ => false
theorem lH {pins : List (Addr × Obj)} {s : Shared} {σ : St} {H : Hp} {a : Addr} {o : HO} (I : Inv X pins σ H s) (h : H a = some o) (p : isObj o = true) : ∃ ob, s.heap.get? a = some ob ∧ ob.cls ≠ .type "tuple" := by
 cases o with
 | lst xs =>
  obtain ⟨_, its, n, _, e⟩ : xs.length ≤ sizeLine ∧ ∃ (its : List Value) (n : Nat), Vals xs its ∧ s.heap.get? a = some { cls := .type "list", data := .seq its.toArray n } := I.hok a _ h;exact ⟨_, e, (by show Value.type "list" ≠ .type "tuple"; decide +kernel)⟩
 | ins C dx fs =>
  have x := I.hok a _ h;obtain ⟨_, _, _, e, _⟩ := x;exact ⟨_, e, (by show Value.ref C ≠ .type "tuple"; exact fun z => by cases z)⟩
 | _ => exact absurd (show false = true from p) Bool.false_ne_true
theorem OpR.or {f : Value → Value → Sem Value} {r r' : R2} (h : OpR X f r) (h' : OpR X f r') : OpR X f (fun x y H Q => r x y H Q ∨ r' x y H Q) := by
 intro pins s σ H x y v u Q I rx ry q;rcases q with q | q
 ·exact h pins s σ H x y v u Q I rx ry q
 ·exact h' pins s σ H x y v u Q I rx ry q
theorem aK (b : Expr) {op : CmpOp} (h : op ≠ .In := by decide) (h2 : op ≠ .NotIn := by decide) : behindInMarks op b = false := by
 have e1 : (op == CmpOp.In) = false := by cases op <;> first | rfl | exact absurd rfl h
 have e2 : (op == CmpOp.NotIn) = false := by cases op <;> first | rfl | exact absurd rfl h2
 cases b <;> simp [behindInMarks, e1, e2]
theorem vv {op : CmpOp} {r : R2} (ho : OpR X (compareOp op) r) (ha : PE X a ta) (hb : PE X b tb) (hm : behindInMarks op b = false) : PE X (.Compare a [op] [b] pos) (tOp r ta tb) := by
 intro pins s σ H Q I h;exact wpAny_Compare1 (zz ha hb I h fun v u s2 x y H2 I2 rx ry q => ho pins s2 σ H2 x y v u Q I2 rx ry q) hm
noncomputable def xH (t : TE) : TT := fun σ H Q => t σ H fun x H' => ∃ k, x = .bl k ∧ Q k H'
theorem wG {op : CmpOp} {r : R2} (ho : OpR X (compareOp op) r) (ha : PE X a ta) (hb : PE X b tb) (hm : behindInMarks op b = false) : PT X (.Compare a [op] [b] pos) (xH (tOp r ta tb)) := by
 intro pins s σ H Q I h;refine wpAny_isTrue_Compare1 (thn (ha pins s σ H _ I h) fun v s1 ⟨x, H1, I1, r1, q1⟩ => thn (hb pins s1 σ H1 _ I1 q1) fun u s2 ⟨y, H2, I2, r2, q2⟩ =>
  thn (ho pins s2 σ H2 x y v u _ I2 r1 r2 q2) fun c s3 ⟨z, H3, I3, r3, k, e, q3⟩ => ?_) hm
 subst e;cases r3;exact wpAny_truthy_bool ⟨H3, I3, q3⟩
theorem ki : (sizeLine : Nat) < 2 ^ 63 := by rw [sizeLine_eq]; decide
theorem pA : OpR X (binaryOp .Add) (fun x y H Q => ∃ i j, x = .str i ∧ y = .str j ∧ i.length + j.length ≤ sizeLine ∧ Q (.str (i ++ j)) H) := by
 intro pins s σ H x y v u Q I rx ry h;obtain ⟨i, j, rfl, rfl, hz, q⟩ := h;obtain ⟨t, rfl⟩ := rx;obtain ⟨t', rfl⟩ := ry;exact add_str (fun t' tk => ⟨.str (i ++ j), H, I.tok _, ⟨_, rfl⟩, q⟩) hz
theorem vals1 {x : V} {us : List Value} (r : Vals [x] us) : ∃ u, us = [u] ∧ RelV x u := by
 cases r with
 | cons r1 r2 => cases r2; exact ⟨_, rfl, r1⟩
theorem vals2 {x y : V} {us : List Value} (r : Vals [x, y] us) : ∃ u w', us = [u, w'] ∧ RelV x u ∧ RelV y w' := by
 cases r with
 | cons r1 r2 =>
  cases r2 with
  | cons r3 r4 => cases r4; exact ⟨_, _, rfl, r1, r3⟩
theorem ri (hc : X.calm = true) : ee X (.builtin "min") (fun xs H Q => ∃ i j, xs = [.int i, .int j] ∧ Q (.int (if j < i then j else i)) H) := by
 intro pins s σ H xs us Q I r h;obtain ⟨i, j, rfl, q⟩ := h;obtain ⟨u, w', rfl, ⟨t, rfl⟩, ⟨t', rfl⟩⟩ := vals2 r;refine min_two_ints (I.ok.hd hc) fun h' tk k => ⟨_, H, I.kept k, ?_, q⟩
 by_cases hj : j < i
 ·rw [if_pos hj, if_pos hj]; exact ⟨_, rfl⟩
 ·rw [if_neg hj, if_neg hj]; exact ⟨_, rfl⟩
theorem lT : ee X (.type "int") (fun xs H Q => (∃ i, xs = [.int i] ∧ Q (.int i) H) ∨ ∃ k, xs = [.bl k] ∧ Q (.int (if k then 1 else 0)) H) := by
 intro pins s σ H xs us Q I r h;rcases h with ⟨i, rfl, q⟩ | ⟨k, rfl, q⟩
 ·obtain ⟨u, rfl, t, rfl⟩ := vals1 r
  exact call_int_int ⟨.int i, H, I, ⟨_, rfl⟩, q⟩
 ·obtain ⟨u, rfl, r1⟩ := vals1 r
  cases r1;exact call_int_bool ⟨.int (if k then 1 else 0), H, I.tok _, ⟨_, rfl⟩, q⟩
end
end L2
namespace L2
open PySem PySem.Spec PyProof.Rows
structure ObjM (h : Heap) (x dx C : Addr) (mA : Str → Option Value) : Prop where
 obj : h.get? x = some (PySem.W.instObj C dx)
 ns : h.Ns1 dx mA
 ne : dx ≠ x
section
variable {prog : Program} {w : World} {A : Around} {E : Value → Shared → Prop} {s : Shared} {K : PySem.W.Frag} {x dx C f : Addr} {mA : Str → Option Value} {name : Str} {v : Value}
end
theorem ly.some_of {v : V} {o : Option Value} (r : ly (some v) o) : ∃ u, o = some u ∧ RelV v u := by
 cases o with
 | none => exact (show False from r).elim
 | some u => exact ⟨u, rfl, r⟩
section
variable {P : Program} {w : World} {H H' : Hp} {h h' : Heap} {a C dx : Addr} {fs fs' : List (Str × V)}
end
structure Cls (K : PySem.W.Frag) (C : Addr) : Prop where
 pg : PySem.W.plainGet K C Str.empty = true
 hd : PySem.W.hasDictIn K C = true
 po : PySem.W.plainOver K C = true
 sa : PySem.W.findIn K (.ref C) "__setattr__" = some (some (.builtin "object.__setattr__"))
structure Con (K : PySem.W.Frag) (C : Addr) (f : Str) (v : V) (u : Value) : Prop where
 at_ : PySem.W.findIn K (.ref C) f = some (some u)
 rel : RelV v u
 get : PySem.W.specialIn K u "__get__" = some none
 cp : PySem.W.copiedNames.contains f = false
structure Meth (K : PySem.W.Frag) (C : Addr) (m : Str) (f : Addr) : Prop where
 at_ : PySem.W.findIn K (.ref C) m = some (some (.ref f))
 fn : PySem.W.isFn K (.ref f) = true
 kp : PySem.W.keepIn K (.ref f) = true
section
variable {X : Cx} {pins : List (Addr × Obj)} {σ : St} {H : Hp} {s : Shared} {a C dx : Addr} {fs : List (Str × V)} {f : Str} {v : V} {A : Around} {E : Value → Shared → Prop}
end
section
variable {X : Cx} {o e value : Expr} {f : Str} {pos pos' tpos : Pos} {ta tv : TE}
end
section
variable {X : Cx} {pins : List (Addr × Obj)} {σ : St} {H : Hp} {s : Shared} {A : Around} {E : Value → Shared → Prop} {Q : Value → Shared → Prop} {c : Value} {b : Bool}
inductive TyOf (K : PySem.W.Frag) (H : Hp) : V → Value → Prop where
 | non : TyOf K H .non (.type "NoneType")
 | bl (x : Bool) : TyOf K H (.bl x) (.type "bool")
 | int (i : Int) : TyOf K H (.int i) (.type "int")
 | str (x : Str) : TyOf K H (.str x) (.type "str")
 | flt (x : UInt64) : TyOf K H (.flt x) (.type "float")
 | lst {a : Addr} {xs : List V} (e : H a = some (.lst xs)) : TyOf K H (.ref a) (.type "list")
 | frz {a : Addr} {o : Obj} {xs : List V} (e : H a = some (.frz o (.lst xs))) : TyOf K H (.ref a) (.type "list")
 | tup {a : Addr} {xs : List V} (e : H a = some (.tup xs)) : TyOf K H (.ref a) (.type "tuple")
 | dK {a : Addr} {kvs : List (Key × V)} (e : H a = some (.dK kvs)) : TyOf K H (.ref a) (.type "dict")
 | dT {a : Addr} {kvs : List (List Key × V)} (e : H a = some (.dT kvs)) : TyOf K H (.ref a) (.type "dict")
 | ins {a C dx : Addr} {fs : List (Str × V)} (e : H a = some (.ins C dx fs)) (cl : Cls K C) (ha : PySem.W.findIn K (.ref C) "__class__" = some (some (.builtin "object.__class__")))
   (hn : PySem.W.specialIn K (.builtin "object.__class__") "__get__" = some (some (.builtin "getset_descriptor.__get__"))) (htk : PySem.W.takesIn K (.builtin "object.__class__") = some true)
   (hm : PySem.W.mroIn K C (.type "object") = some true) : TyOf K H (.ref a) (.ref C)
end
end L2
namespace L2
open PySem PySem.Spec PyProof.Rows
structure Room (k : Nat) (A : Around) : Prop where
 hd : A.handled = none
 dp : A.depth + 3 * k + 5 < recursionLimit
 un : A.units + 16 * k + 200 < cLine
theorem Room.mono {j k : Nat} {A : Around} (r : Room k A) (h : j ≤ k) : Room j A := ⟨r.hd, by have := r.dp; lia, by have := r.un; lia⟩
theorem Room.deeper {k : Nat} {A : Around} (r : Room (k + 1) A) (env : Env) : Room k (A.deeper env) :=
 ⟨r.hd, by have := r.dp; show A.depth + 1 + 3 * k + 5 < _; lia, by have := r.un; show A.units + 3 + 16 * k + 200 < _; lia⟩
theorem Room.depth {k : Nat} {A : Around} (r : Room k A) : A.depth < recursionLimit := by have := r.dp; lia
theorem Room.units {k : Nat} {A : Around} (r : Room k A) : A.units + 64 < cLine := by have := r.un; lia
noncomputable def qI : TA := fun _ H Q => Q [] H
noncomputable def lP (ta : TE) (tr : TA) : TA := fun σ H Q => ta σ H fun x H1 => tr σ H1 fun xs H2 => Q (x :: xs) H2
section
variable {X : Cx} {e : Expr} {es : List Expr} {te : TE} {t : TA} {pos : Pos}
theorem fY : PA X [] qI := fun _ _ _ _ H Q I h => Calls.spliced_nil ⟨[], H, I, .nil, h⟩
theorem de (ha : PE X e te) (hr : PA X es t) (hs : starEach (e :: es) X.env = (false, eval e X.env) :: starEach es X.env := by rfl) : PA X (e :: es) (lP te t) := by
 intro pos pins s σ H Q I h;rw [hs];show wpAny _ _ (spliced ((false, eval e X.env) :: backTo pos (starEach es X.env))) _ _ s
 refine Calls.spliced_cons (thn (ha pins s σ H _ I h) fun u s1 ⟨x, H1, I1, r1, q1⟩ => ?_)
 exact thn (hr pos pins s1 σ H1 _ I1 q1) fun us s2 ⟨xs, H2, I2, r2, q2⟩ => ⟨x :: xs, H2, I2, .cons r1 r2, q2⟩
noncomputable def CG (t : TA) : TE := fun σ H Q => t σ H fun xs H1 => xs.length ≤ sizeLine ∧ ∀ p, H1 p = none → Q (.ref p) (upd H1 p (.tup xs))
noncomputable def Co (t : TA) : TE := fun σ H Q => t σ H fun xs H1 => xs.length ≤ sizeLine ∧ ∀ p, H1 p = none → Q (.ref p) (upd H1 p (.lst xs))
theorem tK {x1} (h : PA X es t) : PE X (.Tuple es x1 pos) (CG t) := by
 intro pins s σ H Q I hq;refine wpAny_Tuple_spliced (thn (h pos pins s σ H _ I hq) fun us s1 ⟨xs, H1, I1, r, z, q⟩ => ⟨by rw [← r.length]; exact z, ?_⟩)
 have hf : H1 s1.heap.objs.size = none := I1.hok.fresh (Nat.le_refl _);refine ⟨.ref s1.heap.objs.size, upd H1 s1.heap.objs.size (.tup xs), I1.laid (t' := s1.toks) (fun b u e => Heap.get?_push_of_some _ e) (Nat.le_refl _) ?_, rfl, q _ hf⟩
 exact ⟨z, us, r, ⟨_, Heap.get?_push_size _ rfl, rfl, _, rfl⟩⟩
theorem Aq (h : PA X es t) : PE X (.List es pos) (Co t) := by
 intro pins s σ H Q I hq;refine wpAny_List_spliced (thn (h pos pins s σ H _ I hq) fun us s1 ⟨xs, H1, I1, r, z, q⟩ => ⟨by rw [← r.length]; exact z, ?_⟩)
 have hf : H1 s1.heap.objs.size = none := I1.hok.fresh (Nat.le_refl _);refine ⟨.ref s1.heap.objs.size, upd H1 s1.heap.objs.size (.lst xs), I1.laid (t' := s1.toks) (fun b u e => Heap.get?_push_of_some _ e) (Nat.le_refl _) ?_, rfl, q _ hf⟩
 exact ⟨z, us, 0, r, Heap.get?_push_size _ rfl⟩
end
noncomputable abbrev Sp := List V → Hp → VK → XK → Prop
noncomputable abbrev CXT := List Env → Hp → Shared → XK → Value → Shared → Prop
structure Env0 (P : Program) (w : World) (K : PySem.W.Frag) (mg : Str → Option Value) (base : Heap) (A : Around) (outer : List Env) (s : Shared) (H : Hp) : Prop where
 frames : A.frames = some outer
 mod : Mod K mg base
 bs : ∀ b o, base.get? b = some o → s.heap.get? b = some o ∧ H b = none
 bsz : base.objs.size ≤ s.heap.objs.size
 funs : s.heap.FunFrames base outer
 frf : ∀ b ∈ frs outer, H b = none
 hok : HOk P w H s.heap
 bare : AllBare s.gens
noncomputable def CE (outer : List Env) (P : Program) (w : World) (H : Hp) (s : Shared) (Q : VK) (u : Value) (s' : Shared) : Prop :=
 ∃ v H', s'.os = s.os ∧ AllBare s'.gens ∧ Un (frs outer) [] H H' s.heap s'.heap ∧ HOk P w H' s'.heap ∧ RelV v u ∧ Q v H'
noncomputable def CR (CX : CXT) (outer : List Env) (P : Program) (w : World) (H : Hp) (s : Shared) (Q : VK) (E : XK) (r : Result) (s' : Shared) : Prop :=
 match r with
 | .ok (.ret u) => CE outer P w H s Q u s'
 | .ok _ => False
 | .error e => CX outer H s E e s'
structure FnOk (P : Program) (w : World) (K : PySem.W.Frag) (mg : Str → Option Value) (base : Heap) (CX : CXT) (k : Nat) (f : Addr) (fd : FuncData) (ps : List Str) (sp : Sp) : Prop where
 len : ∀ vs H Q E, sp vs H Q E → vs.length = ps.length
 run : ∀ (A : Around) (outer : List Env) (s : Shared) (H : Hp) (args : Args) (us : List Value) (vs : List V) (Q : VK) (E : XK), Room k A → Env0 P w K mg base A outer s H → BindsTo s fd args (ps.zip us) → Vals vs us → sp vs H Q E →
  codeAny (model P w) A (.call (.ref f) args) (CR CX outer P w H s Q E) s
theorem FnOk.imp {P : Program} {w : World} {K : PySem.W.Frag} {mg : Str → Option Value} {base : Heap} {CX : CXT} {k : Nat} {f : Addr} {fd : FuncData} {ps : List Str} {sp sp' : Sp} (F : FnOk P w K mg base CX k f fd ps sp)
  (h : ∀ vs H Q E, sp' vs H Q E → sp vs H Q E) : FnOk P w K mg base CX k f fd ps sp' :=
 ⟨fun vs H Q E q => F.len vs H Q E (h _ _ _ _ q), fun A outer s H args us vs Q E hr he hb hv hs => F.run A outer s H args us vs Q E hr he hb hv (h _ _ _ _ hs)⟩
section
variable {X : Cx} {pins : List (Addr × Obj)} {σ : St} {H : Hp} {s s' : Shared}
theorem Inv.iE (I : Inv X pins σ H s) : Env0 X.prog X.w X.K X.mg X.base X.A X.stack s H :=
 ⟨I.ok.frames, I.ok.mod, I.bs, Nat.le_trans I.ok.bsz I.sz, I.stack, I.stkFree, I.hok, I.bare⟩
theorem Inv.after {Q : VK} {u : Value} (I : Inv X pins σ H s) (h : CE X.stack X.prog X.w H s Q u s') : EP X pins σ Q u s' := by
 obtain ⟨v, H', os, bare, un, hok, r, q⟩ := h;obtain ⟨hh, g, d, t, os'⟩ := s';obtain rfl : os' = s.os := os;exact ⟨v, H', I.call (h' := hh) (g' := g) (d' := d) (t' := t) (ch := []) un hok bare (fun b z => absurd z (by simp)), r, q⟩
end
noncomputable def rQ (sp : Sp) (dvs : List V) (E : XK) (t : TA) : TE := fun σ H Q => t σ H fun vs H1 => sp (vs ++ dvs) H1 Q E
noncomputable def Binds (K : PySem.W.Frag) (fd : FuncData) (ps : List Str) (ds : List Value) : Prop :=
 ∀ (s : Shared) (us : List Value), K.In s.heap → (us ++ ds).length = ps.length → BindsTo s fd ⟨us, []⟩ (ps.zip (us ++ ds))
theorem Binds.all {K : PySem.W.Frag} {fd : FuncData} {ps : List Str} (h : ∀ us : List Value, us.length = ps.length → bindArgs fd ⟨us, []⟩ = pure (ps.zip us)) : Binds K fd ps [] := fun s us _ hl => by
 rw [List.append_nil] at hl ⊢;exact .of_eq (h us hl)
noncomputable def Passes (CX : CXT) (X : Cx) (E : XK) : Prop := ∀ (pins : List (Addr × Obj)) (σ : St) (H : Hp) (s : Shared) (e : Value) (s' : Shared), Inv X pins σ H s → CX X.stack H s E e s' → X.xe e s'
section
variable {X : Cx} {CX : CXT} {k : Nat} {f C : Addr} {fd : FuncData} {ps : List Str} {sp : Sp} {dvs : List V} {ds : List Value} {E : XK} {x m : Str} {p pos apos : Pos} {e o : Expr} {es : List Expr} {ta : TE} {t : TA}
theorem rT {pins : List (Addr × Obj)} {σ : St} {H : Hp} {s : Shared} {Q : VK} {us : List Value} {vs : List V} (F : FnOk X.prog X.w X.K X.mg X.base CX k f fd ps sp) (hr : Room k X.A) (hb : Binds X.K fd ps ds) (hd : Vals dvs ds) (hx : Passes CX X E)
  (I : Inv X pins σ H s) (r : Vals vs us) (h : sp (vs ++ dvs) H Q E) : wpAny (model X.prog X.w) X.A (call (.ref f) us) (EP X pins σ Q) X.xe s := by
 have r2 : Vals (vs ++ dvs) (us ++ ds) := r.append hd;have hl : (us ++ ds).length = ps.length := by rw [← r2.length]; exact F.len _ _ _ _ h
 refine wpAny_call (codeAny_mono (F.run X.A X.stack s H ⟨us, []⟩ (us ++ ds) (vs ++ dvs) Q E hr I.iE (hb s us I.kIn hl) r2 h) fun r s' hq => ?_)
 cases r with
 | error e => exact hx pins σ H s e s' I hq
 | ok fl =>
  cases fl with
  | ret u => exact I.after hq
  | next => exact False.elim hq
  | brk => exact False.elim hq
  | cont => exact False.elim hq
theorem vb (F : FnOk X.prog X.w X.K X.mg X.base CX k f fd ps sp) (hr : Room k X.A) (hg : Gl X x) (hm : X.mg x = some (.ref f)) (hk : PySem.W.keepIn X.K (.ref f) = true) (hb : Binds X.K fd ps ds) (hd : Vals dvs ds) (hx : Passes CX X E)
  (ha : PA X (e :: es) t) (hdb : (x == ("__debug__" : Str)) = false := by decide) (he : starEach (e :: es) X.env = (false, eval e X.env) :: starEach es X.env := by rfl) (hpl : (backTo pos (starEach es X.env)).any (·.1) = false := by rfl) :
  PE X (.Call (.Name x p) (e :: es) [] pos) (rQ sp dvs E t) := by
 intro pins s σ H Q I h;refine wpAny_Call_Name_kw (fC I hg hm ?_ hdb);refine PySem.W.callWith_K (h₀ := X.base) I.ok.mod.kin hk (thn (ha pos pins s σ H _ I h) fun us s1 ⟨vs, H1, I1, r, q⟩ => ⟨I1.kIn, ?_⟩) he hpl
 exact rT F hr hb hd hx I1 r q
theorem tm (F : FnOk X.prog X.w X.K X.mg X.base CX k f fd ps sp) (hr : Room k X.A) (hg : Gl X x) (hm : X.mg x = some (.ref f)) (hk : PySem.W.keepIn X.K (.ref f) = true) (hb : Binds X.K fd ps ds) (hd : Vals dvs ds) (hx : Passes CX X E)
  (hdb : (x == ("__debug__" : Str)) = false := by decide) : PE X (.Call (.Name x p) [] [] pos) (rQ sp dvs E qI) := by
 intro pins s σ H Q I h;refine wpAny_Call_Name_kw (fC I hg hm ?_ hdb);exact PySem.W.callWith_K0 I.kIn hk (rT (us := []) F hr hb hd hx I .nil h)
structure Mk (K : PySem.W.Frag) (C f : Addr) : Prop where
 makes : PySem.W.makesIn K C = true
 init : PySem.W.findIn K (.ref C) "__init__" = some (some (.ref f))
 fn : PySem.W.isFn K (.ref f) = true
 kp : PySem.W.keepIn K (.ref C) = true
end
section
variable {X : Cx} {CX : CXT} {k : Nat} {f C : Addr} {fd : FuncData} {ps ks : List Str} {sp : Sp} {E : XK} {x m : Str} {p pos apos kpos : Pos} {e o : Expr} {es : List Expr} {kws : List Keyword} {te ta : TE} {t tk : TA} {nm : Option Str}
structure KBinds (K : PySem.W.Frag) (fd : FuncData) (ps ks : List Str) (g : List Value → List Value → List Value) (gV : List V → List V → List V) : Prop where
 to : ∀ (s : Shared) (us ws : List Value), K.In s.heap → (g us ws).length = ps.length → BindsTo s fd ⟨us, ks.zip ws⟩ (ps.zip (g us ws))
 rel : ∀ {vs : List V} {us : List Value} {zs : List V} {ws : List Value}, Vals vs us → Vals zs ws → Vals (gV vs zs) (g us ws)
variable {g : List Value → List Value → List Value} {gV : List V → List V → List V}
end
structure FnScope (N P : List Str) (sc : Scope) : Prop where
 kind : sc.kind = .function
 co : sc.isCoroutine = false
 gen : sc.isGenerator = false
 nd : N.Nodup
 pre : N.take P.length = P
 par : ∀ x ∈ P, sc.names.lookup x = some .local ∨ sc.names.lookup x = some .cell
 nofree : ∀ y ∈ sc.names, y.2 ≠ .free
theorem lN {kindOf : Str → Option NameKind} {x : Str} : ∀ {binds : List (Str × Value)} {m : Str → Option Value}, (∀ v, (x, v) ∉ binds) → bindL kindOf binds m x = m x
 | [], _, _ => rfl
 | (n, v) :: r, m, h => by
  unfold bindL;rw [lN fun w hw => h w (List.mem_cons_of_mem _ hw)]
  split
  ·have : x ≠ n := by rintro rfl; exact h v List.mem_cons_self
   simp [this]
  ·rfl
theorem lX {kindOf : Str → Option NameKind} {x : Str} : ∀ {binds : List (Str × Value)} {m : Str → Option Value}, (∀ v, (x, v) ∉ binds) → bindC kindOf binds m x = m x
 | [], _, _ => rfl
 | (n, v) :: r, m, h => by
  unfold bindC;rw [lX fun w hw => h w (List.mem_cons_of_mem _ hw)]
  split
  ·rfl
  ·have : x ≠ n := by rintro rfl; exact h v List.mem_cons_self
   simp [this]
theorem lJ {kindOf : Str → Option NameKind} {x : Str} {v : Value} : ∀ {P : List Str} {vs : List Value} {i : Nat} {m : Str → Option Value}, P.Nodup → P[i]? = some x → vs[i]? = some v → kindOf x = some .local →
  bindL kindOf (P.zip vs) m x = some v
 | [], _, _, _, _, h, _, _ => by simp at h
 | _ :: _, [], _, _, _, _, h, _ => by simp at h
 | p :: P, w :: vs, 0, m, nd, h1, h2, hk => by
  simp at h1 h2; subst h1; subst h2
  show bindL kindOf ((p, w) :: P.zip vs) m p = _
  unfold bindL;rw [lN fun v hv => (List.nodup_cons.mp nd).1 (List.of_mem_zip hv).1, if_pos hk]
  simp
 | p :: P, w :: vs, i + 1, m, nd, h1, h2, hk => by
  show bindL kindOf ((p, w) :: P.zip vs) m x = _
  unfold bindL;exact lJ (i := i) (List.nodup_cons.mp nd).2 (by simpa using h1) (by simpa using h2) hk
theorem lW {kindOf : Str → Option NameKind} {x : Str} {v : Value} : ∀ {P : List Str} {vs : List Value} {i : Nat} {m : Str → Option Value}, P.Nodup → P[i]? = some x → vs[i]? = some v → kindOf x ≠ some .local →
  bindC kindOf (P.zip vs) m x = some v
 | [], _, _, _, _, h, _, _ => by simp at h
 | _ :: _, [], _, _, _, _, h, _ => by simp at h
 | p :: P, w :: vs, 0, m, nd, h1, h2, hk => by
  simp at h1 h2; subst h1; subst h2
  show bindC kindOf ((p, w) :: P.zip vs) m p = _
  unfold bindC;rw [lX fun v hv => (List.nodup_cons.mp nd).1 (List.of_mem_zip hv).1, if_neg hk]
  simp
 | p :: P, w :: vs, i + 1, m, nd, h1, h2, hk => by
  show bindC kindOf ((p, w) :: P.zip vs) m x = _
  unfold bindC;exact lW (i := i) (List.nodup_cons.mp nd).2 (by simpa using h1) (by simpa using h2) hk
noncomputable def start (N : List Str) (vs : List V) : St := vs.map some ++ List.replicate (N.length - vs.length) none
noncomputable def jZ (CX : CXT) (P : Program) (w : World) (K : PySem.W.Frag) (mg : Str → Option Value) (base : Heap) (N : List Str) (qual : Str) (scope : Scope) (f : Addr) (cd : Value) (A : Around) (outer : List Env) (s : Shared) (H : Hp) (E : XK) : Cx where
 prog := P
 w := w
 K := K
 mg := mg
 base := base
 A := A.deeper (envOfC qual scope s.heap.objs.size f cd)
 N := N
 s₀ := s
 H₀ := H
 env := envOfC qual scope s.heap.objs.size f cd
 outer := outer
 stack := envOfC qual scope s.heap.objs.size f cd :: outer
 ex := []
 calm := true
 fn := fun _ => true
 pn := []
 xe := fun e s' => wpAny (model P w) (A.deeper (envOfC qual scope s.heap.objs.size f cd)) (leaving (envOfC qual scope s.heap.objs.size f cd) e) (fun _ s'' => CX outer H s E e s'') (fun e' s'' => CX outer H s E e' s'') s'
theorem nD {sc : Scope} {n : Nat} {x : Str} (h : sc.names.lookup x = some .cell) : ∃ c, (cellsFrom n sc.names []).lookup x = some c := by
 have q := PySem.W.cellsFrom_some sc.names n [] (.inl h);exact Option.isSome_iff_exists.mp q
theorem rm {CX : CXT} {P : Program} {w : World} {K : PySem.W.Frag} {mg : Str → Option Value} {base : Heap} {N ps : List Str} {qual : Str} {scope : Scope} {f : Addr} {cd : Value} {A : Around} {outer : List Env} {s s1 : Shared} {H : Hp} {E : XK} {us : List Value} {vs : List V}
  (S : FnScope N ps scope) (hd : A.handled = none) (e0 : Env0 P w K mg base A outer s H) (hl : vs.length = ps.length) (r : Vals vs us)
  (x : InCallC s s.heap.objs.size (bindL (envOfC qual scope s.heap.objs.size f cd).kindOf (ps.zip us) fun _ => none) (cellsFrom (s.heap.objs.size + 1) scope.names []) (bindC (envOfC qual scope s.heap.objs.size f cd).kindOf (ps.zip us) fun _ => none) s1) :
  Inv (jZ CX P w K mg base N qual scope f cd A outer s H E) [] (start N vs) H s1 := by
 have hpl : ps.length ≤ N.length := by have := congrArg List.length S.pre; rw [List.length_take] at this; lia
 obtain ⟨h1, tk, rfl, hk⟩ := x.done;have noA : ∀ b : Addr, b ∉ (jZ CX P w K mg base N qual scope f cd A outer s H E).ex := fun b z => absurd (show b ∈ ([] : List Addr) from z) (by simp)
 refine ⟨⟨e0.mod, S.kind, rfl, rfl, Nat.le_refl _, fun y z c h1 h2 => ?_, fun y hy => ?_, fun y c _ h => ?_, fun _ => hd, Around.frames_deeper e0.frames, .inr ⟨rfl, rfl⟩, fun b z => absurd z (noA b), e0.bs, e0.bsz, fun b _ _ => noA b, fun b z => absurd z (noA b), e0.funs, e0.frf⟩,
  rfl, e0.bare, Un.kept hk, ⟨_, x.toInCall.ns, fun i y v h1 h2 h3 => ?_⟩, fun y c h => ⟨_, x.cell y c h⟩, e0.hok.fresh (Nat.le_refl _), fun y c h => ?_, fun p hp => absurd (show p ∈ ([] : List (Addr × Obj)) from hp) (by simp), e0.hok.kept hk, ?_⟩
 ·exact name_of_addr x.apart (PySem.mem_of_lookup h1) (PySem.mem_of_lookup h2)
 ·have hy : scope.names.lookup y = some .cell ∨ scope.names.lookup y = some .free := hy
  rcases hy with hy | hy
  ·exact nD hy
  ·exact absurd rfl (S.nofree _ (PySem.mem_of_lookup hy))
 ·exact Nat.le_of_lt (x.above y c (PySem.mem_of_lookup h))
 ·have hi : i < vs.length := by
   unfold start at h2;by_cases hi : i < vs.length
   ·exact hi
   ·rw [List.getElem?_append_right (by simpa using hi)] at h2
    rw [List.getElem?_replicate] at h2;split at h2 <;> cases h2
  have ha : vs[i]? = some v := by
   unfold start at h2;rw [List.getElem?_append_left (by simpa using hi), List.getElem?_map] at h2
   cases e : vs[i]? with
   | none => rw [e] at h2; cases h2
   | some a => rw [e] at h2; cases h2; rfl
  obtain ⟨u, hu, rv⟩ := r.get ha;have hp : ps[i]? = some y := by
   rw [← S.pre, List.getElem?_take_of_lt (by lia)]; exact h1
  have ndP : ps.Nodup := by rw [← S.pre]; exact S.nd.sublist (List.take_sublist _ _)
  refine ⟨u, rv, ?_⟩;rcases S.par y (List.mem_of_getElem? hp) with k | k
  ·exact .inl ⟨k, lJ ndP hp hu k⟩
  ·obtain ⟨c, e⟩ := nD (n := s.heap.objs.size + 1) k
   refine .inr ⟨.inl k, c, e, ?_⟩;have q := x.cell y c e;rw [lW ndP hp hu (by show scope.names.lookup y ≠ _; rw [k]; decide)] at q
   exact q
 ·exact e0.hok.fresh (Nat.le_of_lt (x.above y c (PySem.mem_of_lookup h)))
 ·unfold start
  show _ = N.length
  rw [List.length_append, List.length_map, List.length_replicate]
  lia
theorem uQ {CX : CXT} {P : Program} {w : World} {K : PySem.W.Frag} {mg : Str → Option Value} {base : Heap} {k : Nat} {f : Addr} {name qual : Str} {params : Arguments} {body : List Stmt} {scope : Scope} {dV kV doc pm cdv ct oc : Value} {an od : Option Addr}
  {osl : Array (Option Value)} {N ps : List Str} {sp : Sp} (lk : K.lookup f = some ⟨oc, od, .func (PySem.W.fnOf name qual params body scope dV kV doc pm an cdv ct), osl⟩) (hcd : PySem.W.codeIn K cdv qual = true) (S : FnScope N ps scope)
  (len : ∀ vs H Q E, sp vs H Q E → vs.length = ps.length)
  (hbody : ∀ (A : Around) (outer : List Env) (s : Shared) (H : Hp) (vs : List V) (Q : VK) (E : XK), Room k (A.deeper (envOfC qual scope s.heap.objs.size f cdv)) → sp vs H Q E →
   ∃ t, PSs (jZ CX P w K mg base N qual scope f cdv A outer s H E) body t ∧ t { nx := fun _ H' => Q .non H', rt := Q } (start N vs) H) :
  FnOk P w K mg base CX (k + 1) f (PySem.W.fnOf name qual params body scope dV kV doc pm an cdv ct) ps sp := by
 refine ⟨len, fun A outer s H args us vs Q E hr e0 hb r hsp => ?_⟩
 have hl := len _ _ _ _ hsp;have KX : K.In s.heap := e0.mod.kin.keeps fun b o e => (e0.bs b o e).1
 have lim : s.heap.NoLimit := e0.mod.nolimit.keeps fun b o e => (e0.bs b o e).1
 have hkind : ∀ y ∈ ps.zip us, scope.names.lookup y.1 = some .local ∨ (scope.names.lookup y.1 = some .cell ∧ ((cellsFrom (s.heap.objs.size + 1) scope.names []).lookup y.1).isSome = true) := fun ⟨n, v⟩ hy => by
  rcases S.par n (List.of_mem_zip hy).1 with q | q
  ·exact .inl q
  ·exact .inr ⟨q, PySem.W.cellsFrom_some _ _ _ (.inl q)⟩
 refine codeAny_call_function hr.depth (KX _ _ lk) rfl S.co S.gen rfl (PySem.W.codeRec_of KX hcd) (hb _ _ _ _ ?_);refine wpAny_newFunctionEnv_cells S.kind hkind fun env he s1 x => ?_
 subst he;refine ⟨lim.keeps x.toInCall.keep, codeAny_func ?_⟩;obtain ⟨t, ht, hq⟩ := hbody A outer s H vs Q E (hr.deeper _) hsp;have I : Inv (jZ CX P w K mg base N qual scope f cdv A outer s H E) [] (start N vs) H s1 := rm S hr.hd e0 hl r x;refine wpAny_mono (ht [] s1 (start N vs) H _ I hq) (fun fl s' hs => ?_) fun e s' hs => hs
 have fin : ∀ {σ' : St} {H' : Hp} {v : V} {u : Value}, Inv (jZ CX P w K mg base N qual scope f cdv A outer s H E) [] σ' H' s' → RelV v u → Q v H' → CE outer P w H s Q u s' :=
  fun {σ' H' v u} J rv q => ⟨v, H', J.os, J.bare, J.base, J.hok, rv, q⟩
 cases fl with
 | ret u =>
  obtain ⟨v, σ', H', J, rv, q⟩ := hs;exact fin J rv q
 | next =>
  obtain ⟨σ', H', J, q⟩ := hs;exact fin (v := V.non) (u := Value.none) J rfl q
 | brk =>
  obtain ⟨_, _, _, q⟩ := hs;exact False.elim q
 | cont =>
  obtain ⟨_, _, _, q⟩ := hs;exact False.elim q
end L2
namespace L2
open PySem PySem.Spec PyProof.Rows
section
variable {X : Cx} {x : Str} {p pos : Pos} {e : Expr} {es : List Expr} {t : TA} {id T : String} {r : List V → Hp → VK → Prop}
noncomputable def tCB (r : List V → Hp → VK → Prop) (t : TA) : TE := fun σ H Q => t σ H fun vs H1 => r vs H1 Q
theorem h9 (hc : ee X (.builtin id) r) (hg : Gl X x) (hm : X.mg x = none) (hv : bootBuiltins x = some (.builtin id)) (ha : PA X (e :: es) t) (hn : x ≠ "__name__" := by decide) (hdb : (x == ("__debug__" : Str)) = false := by decide)
  (he : starEach (e :: es) X.env = (false, eval e X.env) :: starEach es X.env := by rfl) (hpl : (backTo pos (starEach es X.env)).any (·.1) = false := by rfl) : PE X (.Call (.Name x p) (e :: es) [] pos) (tCB r t) := by
 intro pins s σ H Q I h;refine wpAny_Call_Name_kw (iO I hg hm hv ?_ hn hdb);exact PyProof.Rows.callWith_builtin1 (thn (ha pos pins s σ H _ I h) fun us s1 ⟨vs, H1, I1, r1, q1⟩ => hc pins s1 σ H1 vs us Q I1 r1 q1) he hpl
theorem rH (hc : ee X (.type T) r) (hg : Gl X x) (hm : X.mg x = none) (hv : bootBuiltins x = some (.type T)) (ha : PA X (e :: es) t) (hn : x ≠ "__name__" := by decide) (hdb : (x == ("__debug__" : Str)) = false := by decide)
  (he : starEach (e :: es) X.env = (false, eval e X.env) :: starEach es X.env := by rfl) (hpl : (backTo pos (starEach es X.env)).any (·.1) = false := by rfl) : PE X (.Call (.Name x p) (e :: es) [] pos) (tCB r t) := by
 intro pins s σ H Q I h;refine wpAny_Call_Name_kw (iO I hg hm hv ?_ hn hdb);exact PyProof.Rows.callWith_type1 (thn (ha pos pins s σ H _ I h) fun us s1 ⟨vs, H1, I1, r1, q1⟩ => hc pins s1 σ H1 vs us Q I1 r1 q1) he hpl
end
end L2
namespace HT
open PySem PyProof.Rows
section
open PySem.SeqAt
open PySem.AutoSeq1 (wpAny_loadPart')
open PySem.MeetsSeq PySem.MeetsSeq2 PySem.MeetsSeq3
end
section
variable {prog : Program} {w : World} {A : Around} {E : Value → Shared → Prop} {s : Shared}
noncomputable def sIx (n d : Nat) : Option Int → Nat
 | none => d
 | some v => if v < 0 then (v + (n : Int)).toNat else min v.toNat n
theorem nU (n d : Nat) : sIx n d none = d := rfl
theorem pD (n d k : Nat) : sIx n d (some (k : Int)) = min k n := by
 show (if (k : Int) < 0 then ((k : Int) + (n : Int)).toNat else min (k : Int).toNat n) = min k n
 rw [if_neg (by lia), Int.toNat_natCast]
end
end HT
namespace L2
open PySem PySem.Spec PyProof.Rows
noncomputable abbrev TO := St → Hp → (Option Int → Hp → Prop) → Prop
noncomputable def PO (X : Cx) (e : Option Expr) (t : TO) : Prop :=
 ∀ (pins : List (Addr × Obj)) (s : Shared) (σ : St) (H : Hp) (Q : Option Int → Hp → Prop), Inv X pins σ H s → t σ H Q →
  wpAny (model X.prog X.w) X.A (evalPart e X.env) (fun u s' => ∃ o H', Inv X pins σ H' s' ∧ IsPart u o ∧ Q o H') X.xe s
noncomputable def p_ : TO := fun _ H Q => Q none H
noncomputable def xu (t : TE) : TO := fun σ H Q => t σ H fun x H1 => ∃ i, x = .int i ∧ Q (some i) H1
theorem intsAre_of {ns : List Int} : ∀ {us : List Value}, Vals (ns.map V.int) us → IntsAre us ns := by
 induction ns with
 | nil => intro us r; rw [List.map_nil] at r; cases r; exact .nil
 | cons n ns ih =>
  intro us r;rw [List.map_cons] at r;cases r with
  | cons r1 r2 =>
   obtain ⟨t, e⟩ := r1;subst e;exact .cons n t (ih r2)
section
variable {X : Cx} {e : Expr} {te : TE} {lo hi : Option Expr} {tl th : TO} {pos p2 : Pos}
theorem u6 : PO X none p_ := by
 intro pins s σ H Q I h;rw [evalPart_none];exact wpAny_pure ⟨none, H, I, .none, h⟩
theorem vV (h : PE X e te) : PO X (some e) (xu te) := by
 intro pins s σ H Q I hw;rw [evalPart_some];refine thn (h pins s σ H _ I hw) fun u s1 ⟨x, H1, I1, r1, q1⟩ => ?_
 obtain ⟨i, rfl, q⟩ := q1;obtain ⟨t, rfl⟩ := r1;exact ⟨some i, H1, I1, .int i t, q⟩
noncomputable def SlR (X : Cx) (r : V → Option Int → Option Int → Hp → VK → Prop) : Prop :=
 ∀ (pins : List (Addr × Obj)) (s : Shared) (σ : St) (H : Hp) (x : V) (v vl vu : Value) (lo hi : Option Int) (sl : Addr) (Q : VK), Inv X pins σ H s → RelV x v → s.heap.IsSliceOf sl vl vu .none → IsPart vl lo → IsPart vu hi → r x lo hi H Q →
  ∃ T id, typeLookup (.type T) "__getitem__" = pure (some (.builtin id)) ∧ s.TypeIs v T ∧ wpAny (model X.prog X.w) X.A (getItem v (.ref sl)) (EP X pins σ Q) X.xe s
noncomputable def tSl (r : V → Option Int → Option Int → Hp → VK → Prop) (te : TE) (tl th : TO) : TE := fun σ H Q => te σ H fun x H1 => tl σ H1 fun l H2 => th σ H2 fun u H3 => r x l u H3 Q
theorem r9 {r : V → Option Int → Option Int → Hp → VK → Prop} (hr : SlR X r) (he : PE X e te) (hl : PO X lo tl) (hu : PO X hi th) : PE X (.Subscript e (.Slice lo hi none p2) pos) (tSl r te tl th) := by
 intro pins s σ H Q I h;refine Subscript_ (thn (he pins s σ H _ I h) fun v s1 ⟨x, H1, I1, r1, q1⟩ => ?_)
 refine wpAny_Slice (thn (hl pins s1 σ H1 _ I1 q1) fun vl s2 ⟨l, H2, I2, pl, q2⟩ => thn (hu pins s2 σ H2 _ I2 q2) fun vu s3 ⟨u, H3, I3, pu, q3⟩ => ?_)
 rw [evalPart_none];refine wpAny_pure ?_;have I4 : Inv X pins σ H3 { s3 with heap := s3.heap.push { cls := .type "slice", data := .fields #[vl, vu, .none] } } := I3.kept (t' := s3.toks) fun b ob q => Heap.get?_push_of_some _ q
 obtain ⟨T, id, hT, ht, hg⟩ := hr pins { s3 with heap := s3.heap.push { cls := .type "slice", data := .fields #[vl, vu, .none] } } σ H3 x v vl vu l u s3.heap.objs.size Q I4 r1 (Heap.IsSliceOf.new ..) pl pu q3
 show wpAny (model X.prog X.w) X.A (subscriptTail e (.Slice lo hi none p2) v (.ref s3.heap.objs.size)) (EP X pins σ Q) X.xe { s3 with heap := s3.heap.push { cls := .type "slice", data := .fields #[vl, vu, .none] } }
 exact tail_any (ops := [.ref s3.heap.objs.size, v]) ht hT hg (by with_unfolding_all rfl)
noncomputable def ui (xs : List V) (lo hi : Option Int) : List V := (xs.drop (HT.sIx xs.length 0 lo)).take (HT.sIx xs.length xs.length hi - HT.sIx xs.length 0 lo)
theorem nG (xs : List V) (lo hi : Option Int) : (ui xs lo hi).length ≤ xs.length := by
 unfold ui;rw [List.length_take, List.length_drop]
 lia
end
end L2
namespace L2
open PySem PySem.Spec PyProof.Rows
noncomputable def ixN (n : Nat) (i : Int) : Option Nat := if 0 ≤ i then (if i < n then some i.toNat else none) else if -(n : Int) ≤ i then some (i + n).toNat else none
noncomputable def atI {α : Type} (xs : List α) (i : Int) : Option α := (ixN xs.length i).bind fun j => xs[j]?
theorem vB {n : Nat} {i : Int} {j : Nat} (h : ixN n i = some j) : seqIndex? i n = some j ∧ j < n ∧ -(n : Int) ≤ i ∧ i < n := by
 unfold ixN at h;by_cases h0 : 0 ≤ i
 ·rw [if_pos h0] at h
  by_cases h1 : i < n
  ·rw [if_pos h1] at h
   have e : i.toNat = j := Option.some.inj h;exact ⟨by rw [seqIndex_of h0 h1, e], by lia, by lia, h1⟩
  ·rw [if_neg h1] at h; cases h
 ·rw [if_neg h0] at h
  by_cases h1 : -(n : Int) ≤ i
  ·rw [if_pos h1] at h
   have e : (i + n).toNat = j := Option.some.inj h;exact ⟨by rw [seqIndex_neg (by lia) h1, e], by lia, h1, by lia⟩
  ·rw [if_neg h1] at h; cases h
theorem mB {α : Type} {xs : List α} {i : Int} {v : α} (h : atI xs i = some v) : ∃ j, seqIndex? i xs.length = some j ∧ xs[j]? = some v ∧ j < xs.length ∧ -(xs.length : Int) ≤ i ∧ i < xs.length := by
 unfold atI at h;cases e : ixN xs.length i with
 | none => rw [e] at h; cases h
 | some j =>
  rw [e] at h;obtain ⟨h1, h2, h3, h4⟩ := vB e;exact ⟨j, h1, h, h2, h3, h4⟩
theorem e_ {α : Type} {xs : List α} {j : Nat} {v : α} (h : xs[j]? = some v) : atI xs (j : Int) = some v := by
 have hj : j < xs.length := (List.getElem?_eq_some_iff.mp h).1;have e : ixN xs.length (j : Int) = some j := by
  unfold ixN;rw [if_pos (by lia), if_pos (by lia)]; simp
 unfold atI; rw [e]; exact h
theorem sV {α : Type} (xs : List α) (v : α) : atI (xs ++ [v]) (-1) = some v := by
 have hl : (xs ++ [v]).length = xs.length + 1 := by simp
 have e : ixN (xs ++ [v]).length (-1) = some xs.length := by
  unfold ixN;rw [hl, if_neg (by decide), if_pos (by lia)]
  congr 1
  lia
 unfold atI;rw [e];show (xs ++ [v])[xs.length]? = some v
 simp
noncomputable def qg (b : Expr) : Prop := ∀ o i, subscripted b false o i = operate [o, i] (getItem o i)
noncomputable def IxR (X : Cx) (r : R2) : Prop :=
 ∀ (value slice : Expr) (pins : List (Addr × Obj)) (s : Shared) (σ : St) (H : Hp) (x y : V) (v u : Value) (Q : VK), Inv X pins σ H s → RelV x v → RelV y u → r x y H Q →
  subscripted slice false v u = operate [v, u] (getItem v u) → wpAny (model X.prog X.w) X.A (subscriptTail value slice v u) (EP X pins σ Q) X.xe s
noncomputable def MtR (X : Cx) (id : String) (r : V → List V → Hp → VK → Prop) : Prop :=
 ∀ (pins : List (Addr × Obj)) (s : Shared) (σ : St) (H : Hp) (x : V) (xs : List V) (v : Value) (us : List Value) (Q : VK), Inv X pins σ H s → RelV x v → Vals xs us → r x xs H Q →
  wpAny (model X.prog X.w) X.A (call (.builtin id) (v :: us)) (EP X pins σ Q) X.xe s
section
variable {X : Cx} {a b : Expr} {ta tb : TE} {pos : Pos}
theorem IxR.or {r r' : R2} (h : IxR X r) (h' : IxR X r') : IxR X (fun x y H Q => r x y H Q ∨ r' x y H Q) := by
 intro value slice pins s σ H x y v u Q I rx ry q hs;rcases q with q | q
 ·exact h value slice pins s σ H x y v u Q I rx ry q hs
 ·exact h' value slice pins s σ H x y v u Q I rx ry q hs
theorem BA {r : R2} (hr : IxR X r) (ha : PE X a ta) (hb : PE X b tb) (hs : qg b) : PE X (.Subscript a b pos) (tOp r ta tb) := by
 intro pins s σ H Q I h;exact Subscript_ (zz ha hb I h fun v u s2 x y H2 I2 rx ry q => hr a b pins s2 σ H2 x y v u Q I2 rx ry q (hs _ _))
noncomputable def Be (K : PySem.W.Frag) : R2 := fun x y H Q => ∃ p xs i v, x = .ref p ∧ y = .int i ∧ SqL K H p xs ∧ atI xs i = some v ∧ Q v H
noncomputable def Dh (K : PySem.W.Frag) : R2 := fun x y H Q => ∃ p xs i v, x = .ref p ∧ y = .int i ∧ SqT K H p xs ∧ atI xs i = some v ∧ Q v H
noncomputable def BP : R2 := fun x y H Q => ∃ z i c, x = .str z ∧ y = .int i ∧ z.length ≤ sizeLine ∧ atI z.cps.toList i = some c ∧ Q (.str ⟨#[c]⟩) H
theorem vY : IxR X (Be X.K) := by
 intro value slice pins s σ H x y v u Q I rx ry h hs;obtain ⟨p, xs, i, z, rfl, rfl, hq, he, q⟩ := h;cases rx;obtain ⟨t, rfl⟩ := ry;obtain ⟨its, r, pl, hz⟩ := I.list hq;obtain ⟨j, h1, h2, h3, h4, h5⟩ := mB he;obtain ⟨w, ew, rw'⟩ := r.get h2;have hl := r.length;have hn := ki;have fin : EP X pins σ Q w s := ⟨z, H, I, rw', q⟩;by_cases h0 : 0 ≤ i
 ·have hj : i.toNat = j := by
   rw [seqIndex_of h0 h5] at h1;exact Option.some.inj h1
  exact item_listR pl.isList h0 (by lia) (by rw [hj]; simpa using ew) fin hs
 ·have hj : (i + (its.toArray.size : Int)).toNat = j := by
   rw [seqIndex_neg (by lia) h4] at h1
   rw [List.size_toArray, ← hl];exact Option.some.inj h1
  exact subscriptTail_builtinR (x := w) pl.isList.typeIs slot_list_getitem.lookup
   (wpAny_getItem_list_neg (Q := fun r s' => r = w ∧ EP X pins σ Q r s') pl.isList (by lia) (by rw [List.size_toArray] <;> lia) (by lia) (by rw [hj]; simpa using ew) ⟨rfl, fin⟩) hs
theorem yW : IxR X (Dh X.K) := by
 intro value slice pins s σ H x y v u Q I rx ry h hs;obtain ⟨p, xs, i, z, rfl, rfl, hq, he, q⟩ := h;cases rx;obtain ⟨t, rfl⟩ := ry;obtain ⟨its, r, pl, hz⟩ := I.tuple hq;obtain ⟨j, h1, h2, h3, h4, h5⟩ := mB he;obtain ⟨w, ew, rw'⟩ := r.get h2;have hl := r.length;have hn := ki;have fin : EP X pins σ Q w s := ⟨z, H, I, rw', q⟩;exact subscriptTail_builtinR (x := w) pl.typeIs slot_tuple_getitem.lookup
  (getItem_tuple (j := j) (Q := fun r s' => r = w ∧ EP X pins σ Q r s') pl (by lia) (by lia) (by rw [List.size_toArray, ← hl]; exact h1) (by simpa using ew) ⟨rfl, fin⟩) hs
theorem zJ : IxR X BP := by
 intro value slice pins s σ H x y v u Q I rx ry h hs;obtain ⟨z, i, c, rfl, rfl, hz, he, q⟩ := h;obtain ⟨t, rfl⟩ := rx;obtain ⟨t', rfl⟩ := ry;obtain ⟨j, h1, h2, h3, h4, h5⟩ := mB he;have hl : z.cps.toList.length = z.length := by simp [Str.length]
 rw [hl] at h1 h4 h5;have hn := ki;exact tail_any (typeIs_str s z t) slot_str_getitem.lookup (getItem_str (c := c) (by
  have e1 : decide (i < -(2 ^ 63 : Int)) = false := decide_eq_false (by lia)
  have e2 : decide (i ≥ 2 ^ 63) = false := decide_eq_false (by lia)
  rw [e1, e2, Bool.or_false]) (by rw [h1]; simpa using h2) ⟨.str ⟨#[c]⟩, H, I.tok _, ⟨_, rfl⟩, q⟩) hs
noncomputable def rIx (K : PySem.W.Frag) : R2 := fun x y H Q => Be K x y H Q ∨ Dh K x y H Q ∨ BP x y H Q
theorem aG : IxR X (rIx X.K) := vY.or (yW.or zJ)
theorem mK (lo hi : Option Int) (n : Nat) : (sliceBounds lo hi none n).1 = ((HT.sIx n 0 lo : Nat) : Int) ∧ (sliceBounds lo hi none n).2.1 = ((HT.sIx n n hi : Nat) : Int) ∧ (sliceBounds lo hi none n).2.2 = 1 := by
 refine ⟨?_, ?_, rfl⟩
 ·cases lo with
  | none => simp [sliceBounds, HT.sIx]
  | some i =>
   simp only [sliceBounds, HT.sIx, Option.getD_none, show (1 : Int) > 0 by decide, if_true]
   by_cases h : i < 0
   ·simp only [h, if_true] <;> lia
   ·simp only [h, if_false] <;> lia
 ·cases hi with
  | none => simp [sliceBounds, HT.sIx]
  | some i =>
   simp only [sliceBounds, HT.sIx, Option.getD_none, show (1 : Int) > 0 by decide, if_true]
   by_cases h : i < 0
   ·simp only [h, if_true] <;> lia
   ·simp only [h, if_false] <;> lia
theorem lq (its : List Value) (lo hi : Option Int) : slicePick its.toArray lo hi none = ((its.drop (HT.sIx its.length 0 lo)).take (HT.sIx its.length its.length hi - HT.sIx its.length 0 lo)).toArray := by
 obtain ⟨h1, h2, h3⟩ := mK lo hi its.toArray.size;unfold slicePick;rw [h1, h2, h3];simp only [sliceRange_one, pick_run, List.size_toArray] <;> rfl
noncomputable def BJ (K : PySem.W.Frag) : V → Option Int → Option Int → Hp → VK → Prop := fun x lo hi H Q => ∃ a xs, x = .ref a ∧ SqL K H a xs ∧ ∀ p, H p = none → Q (.ref p) (upd H p (.lst (ui xs lo hi)))
theorem cK : SlR X (BJ X.K) := by
 intro pins s σ H x v vl vu lo hi sl Q I rx hs pl pu h;obtain ⟨a, xs, rfl, hx, q⟩ := h;cases rx;obtain ⟨its, r, ht, hz⟩ := I.list hx;have hlen := r.length;refine ⟨"list", _, slot_list_getitem.lookup, ht.isList.typeIs, ?_⟩;refine wpAny_getItem_list_slice ht.isList hs pl pu .none (by simp) ?_ (by rw [List.size_toArray] <;> lia)
 rw [lq, ← hlen];refine ⟨.ref s.heap.objs.size, _, I.laid (t' := s.toks) (o := .lst (ui xs lo hi)) (fun b ob q => Heap.get?_push_of_some _ q) (Nat.le_refl _) ?_, rfl, q _ (I.hok.fresh (Nat.le_refl _))⟩
 exact ⟨Nat.le_trans (nG xs lo hi) hz, _, 0, (r.drop (HT.sIx xs.length 0 lo)).take (HT.sIx xs.length xs.length hi - HT.sIx xs.length 0 lo), Heap.get?_push_size _ rfl⟩
theorem m7 : ee X (.builtin "len") (fun xs H Q => ∃ p ys, xs = [.ref p] ∧ (SqL X.K H p ys ∨ SqT X.K H p ys) ∧ Q (.int ys.length) H) := by
 intro pins s σ H xs us Q I r h;obtain ⟨p, ys, rfl, hq, q⟩ := h;obtain ⟨u, rfl, rx⟩ := vals1 r;cases rx;have hn := ki;rcases hq with hq | hq
 ·obtain ⟨its, r', pl, hz⟩ := I.list hq
  have hlen := r'.length;exact Calls.call_len_list pl.isList (by simp only [List.size_toArray] <;> lia) ⟨.int ys.length, H, I.tok _, ⟨s.toks + 1, by rw [List.size_toArray, hlen]⟩, q⟩
 ·obtain ⟨its, r', pl, hz⟩ := I.tuple hq
  have hlen := r'.length;exact len_tuple pl (by simp only [List.size_toArray] <;> lia) ⟨.int ys.length, H, I.tok _, ⟨s.toks + 1, by rw [List.size_toArray, hlen]⟩, q⟩
theorem mQ : ee X (.builtin "len") (fun xs H Q => ∃ z, xs = [.str z] ∧ z.length ≤ sizeLine ∧ Q (.int z.length) H) := by
 intro pins s σ H xs us Q I r h;obtain ⟨z, rfl, hz, q⟩ := h;obtain ⟨u, rfl, t, rfl⟩ := vals1 r;have hn := ki;exact len_str (by lia) ⟨.int z.length, H, I.tok _, ⟨_, rfl⟩, q⟩
theorem ee.or {f : Value} {r r' : List V → Hp → VK → Prop} (h : ee X f r) (h' : ee X f r') : ee X f (fun xs H Q => r xs H Q ∨ r' xs H Q) := by
 intro pins s σ H xs us Q I rs q;rcases q with q | q
 ·exact h pins s σ H xs us Q I rs q
 ·exact h' pins s σ H xs us Q I rs q
theorem mE : ee X (.type "list") (fun xs H Q => ∃ p ys, xs = [.ref p] ∧ (SqL X.K H p ys ∨ SqT X.K H p ys) ∧ ∀ l, H l = none → Q (.ref l) (upd H l (.lst ys))) := by
 intro pins s σ H xs us Q I r h;obtain ⟨p, ys, rfl, hq, q⟩ := h;obtain ⟨u, rfl, rx⟩ := vals1 r;cases rx;have fin : ∀ (its : List Value), Vals ys its → ys.length ≤ sizeLine → ∀ (h' : Heap) (c' : Nat), (∀ b o', s.heap.get? b = some o' → h'.get? b = some o') →
   h'.get? s.heap.objs.size = some { cls := .type "list", dict := none, data := .seq its.toArray c', slots := #[] } → EP X pins σ Q (.ref s.heap.objs.size) { s with heap := h' } := fun its r' hz h' c' kp e =>
  ⟨.ref s.heap.objs.size, _, I.laid (t' := s.toks) kp (Nat.le_refl _) (show dw X.prog X.w _ h' _ (.lst ys) from ⟨hz, its, c', r', e⟩), rfl, q _ (I.hok.fresh (Nat.le_refl _))⟩
 rcases hq with hq | hq
 ·obtain ⟨its, r', pl, hz⟩ := I.list hq
  have hlen := r'.length;obtain ⟨o, ho, hc, n, hd⟩ := pl.isList;exact call_list_seq p (.inl rfl) ho hc hd (fun h' c' kp e => fin its r' hz h' c' kp e) (by simp only [List.size_toArray] <;> lia)
 ·obtain ⟨its, r', pl, hz⟩ := I.tuple hq
  have hlen := r'.length;obtain ⟨o, ho, hc, n, hd⟩ := pl;exact call_list_seq p (.inr rfl) ho hc hd (fun h' c' kp e => fin its r' hz h' c' kp e) (by simp only [List.size_toArray] <;> lia)
noncomputable def tyV (K : PySem.W.Frag) (T : String) (x : V) (H : Hp) : Prop := match x with
 | .str _ => T = "str"
 | .int _ => T = "int"
 | .ref p => (T = "list" ∧ ∃ xs, SqL K H p xs) ∨ (T = "tuple" ∧ ∃ o, K.lookup p = some o ∧ o.cls = .type "tuple" ∧ o.dict = none) ∨
   (T = "dict" ∧ ((∃ kvs, H p = some (.dK kvs)) ∨ ∃ kvs, H p = some (.dT kvs))) ∨ (T = "set" ∧ ∃ S n, H p = some (.set S n))
 | _ => False
theorem yZ {pins : List (Addr × Obj)} {σ : St} {H : Hp} {s : Shared} {T : String} {x : V} {v : Value} (I : Inv X pins σ H s) (r : RelV x v) (ty : tyV X.K T x H) :
  s.TypeIs v T ∧ ∀ a, v = .ref a → ∃ ob, s.heap.get? a = some ob ∧ ob.dict = none := by
 cases x with
 | str z =>
  obtain ⟨t, rfl⟩ := r;cases (show T = "str" from ty)
  exact ⟨typeIs_str s z t, fun _ e => nomatch e⟩
 | int i =>
  obtain ⟨t, rfl⟩ := r;cases (show T = "int" from ty)
  exact ⟨typeIs_int s i t, fun _ e => nomatch e⟩
 | ref p =>
  cases r;rcases ty with ⟨rfl, xs, hq⟩ | ⟨rfl, o, hk, hc, hd⟩ | ⟨rfl, hk⟩ | ⟨rfl, S, n, hk⟩
  ·obtain ⟨its, _, pl, _⟩ := I.list hq
   refine ⟨pl.isList.typeIs, fun a e => ?_⟩
   cases e;obtain ⟨o, n, e, c, hd, _⟩ := pl;exact ⟨o, e, hd⟩
  ·refine ⟨⟨o, I.kIn p o hk, hc⟩, fun a e => ?_⟩
   cases e;exact ⟨o, I.kIn _ o hk, hd⟩
  ·have z : ∃ o, s.heap.get? p = some o ∧ o.ExactDict := by
    rcases hk with ⟨kvs, hk⟩ | ⟨kvs, hk⟩
    ·obtain ⟨_, _, _, _, o, _, _, e, ex, _⟩ := I.hok p _ hk
     exact ⟨o, e, ex⟩
    ·obtain ⟨_, _, _, _, o, _, _, e, ex, _⟩ := I.hok p _ hk
     exact ⟨o, e, ex⟩
   obtain ⟨o, e, ex⟩ := z;refine ⟨⟨o, e, ex.1⟩, fun a e2 => ?_⟩
   cases e2;exact ⟨o, e, ex.2.1⟩
  ·obtain ⟨o, _, _, _, e, ex, _⟩ := I.hok p _ hk
   refine ⟨⟨o, e, ex.1⟩, fun a e2 => ?_⟩
   cases e2;exact ⟨o, e, ex.2.1⟩
 | _ => exact False.elim ty
noncomputable def tBM (K : PySem.W.Frag) (T : String) (r : V → List V → Hp → VK → Prop) (to : TE) (t : TA) : TE := fun σ H Q => to σ H fun x H1 => tyV K T x H1 ∧ t σ H1 fun xs H2 => r x xs H2 Q
variable {o e : Expr} {es : List Expr} {to : TE} {t : TA} {name : Str} {apos cpos : Pos} {T id : String} {r : V → List V → Hp → VK → Prop}
theorem xn (pa : PlainAttrs T) (slot : Slot T name id) (hty : typeOf (.builtin id) = pure (.type "method_descriptor")) (hm : MtR X id r) (ho : PE X o to) (ha : PA X (e :: es) t)
  (hbase : attributeBase o name X.env (eval o X.env) = eval o X.env := by rfl)
  (hfew : ((backTo cpos (starEach (e :: es) X.env)).all (fun x => !x.1) && (backToKw cpos (keywordEach [] X.env)).all (fun x => x.1.isSome)
   && decide ((e :: es).length + ([] : List Keyword).length + (if ([] : List Keyword).isEmpty then 0 else 1) < 30)) = true := by rfl)
  (hline : (apos.endLine == cpos.line) = true := by rfl) (hs : starEach (e :: es) X.env = (false, eval e X.env) :: starEach es X.env := by rfl) (hplain : (backTo cpos (starEach es X.env)).any (·.1) = false := by rfl) :
  PE X (.Call (.Attribute o name apos) (e :: es) [] cpos) (tBM X.K T r to t) := by
 intro pins s σ H Q I h;refine wpAny_Call_method_late hbase hfew hline rfl (thn (ho pins s σ H _ I h) fun v s1 ⟨x, H1, I1, r1, ty, q1⟩ => ?_)
 obtain ⟨h1, h2⟩ := yZ I1 r1 ty;refine ⟨T, id, pa, slot, hty, h1, h2, ?_⟩;have hA := ha cpos pins s1 σ H1 _ I1 q1;rw [hs] at hA ⊢;refine Calls.callWith_builtin (by show (false || (backTo cpos (starEach es X.env)).any (·.1)) = false; rw [hplain] <;> rfl) (Calls.evalArgs_plain ?_)
 exact thn hA fun us s2 ⟨vs, H2, I2, r2, q2⟩ => hm pins s2 σ H2 x vs v us Q I2 r1 r2 q2
end
end L2
namespace L2
open PySem PySem.Spec PyProof.Rows
noncomputable def MtM (X : Cx) (id : String) (r : V → List V → Hp → VK → Prop) : Prop :=
 ∀ (pins : List (Addr × Obj)) (s : Shared) (σ : St) (H : Hp) (x : V) (xs : List V) (v : Value) (us : List Value) (Q : VK), Inv X pins σ H s → RelV x v → Vals xs us → r x xs H Q →
  wpAny (model X.prog X.w) X.A (call (.builtin id) (v :: us)) (EP X pins σ Q) X.xe s
theorem Vals.one {x : V} {us : List Value} (h : Vals [x] us) : ∃ u, us = [u] ∧ RelV x u := by
 cases h with
 | cons r t => cases t; exact ⟨_, rfl, r⟩
theorem Vals.two {x y : V} {us : List Value} (h : Vals [x, y] us) : ∃ u v, us = [u, v] ∧ RelV x u ∧ RelV y v := by
 cases h with
 | cons r t => obtain ⟨v, rfl, q⟩ := Vals.one t; exact ⟨_, v, rfl, r, q⟩
theorem Vals.zero : ∀ {us : List Value}, Vals [] us → us = []
 | _, .nil => rfl
theorem Vals.rep {xs : List V} {us : List Value} (h : Vals xs us) : ∀ k : Nat, Vals (List.replicate k xs).flatten (List.replicate k us).flatten
 | 0 => .nil
 | k + 1 => by
  rw [List.replicate_succ, List.replicate_succ, List.flatten_cons, List.flatten_cons];exact Vals.append h (Vals.rep h k)
theorem foldl_rep (its : List Value) : ∀ (k : Nat) (acc : List Value),
  List.foldl (fun x1 x2 => x1 ++ x2) acc.toArray (List.replicate k its.toArray) = (acc ++ (List.replicate k its).flatten).toArray
 | 0, acc => by simp
 | k + 1, acc => by
  have e : acc.toArray ++ its.toArray = (acc ++ its).toArray := by simp
  have e2 : (acc ++ its) ++ (List.replicate k its).flatten = acc ++ (List.replicate (k + 1) its).flatten := by
   rw [List.replicate_succ, List.flatten_cons, List.append_assoc]
  rw [← e2, ← foldl_rep its k (acc ++ its), ← e, List.replicate_succ, List.foldl_cons]
section
variable {X : Cx} {pins : List (Addr × Obj)} {σ : St} {H : Hp} {s : Shared} {l b : Addr} {xs ys zs : List V}
theorem Inv.lset {its its' : List Value} {n : Nat} {f : Array Value → Array Value} {t' : Nat} (I : Inv X pins σ H s) (hH : H l = some (.lst xs))
  (e : s.heap.get? l = some { cls := .type "list", data := .seq its.toArray n }) (hf : f its.toArray = its'.toArray) (hv : Vals ys its') (hz : ys.length ≤ sizeLine) :
  Inv X pins σ (upd H l (.lst ys)) { s with heap := s.heap.update l (Obj.mapSeq f), toks := t' } := by
 have q := PySem.IsL.update e f;rw [hf] at q;refine I.write (x := l) (e := l) (by rw [hH]; exact trivial) (.inl rfl) (fun b' u hb hu => (Heap.get?_update_other s.heap (Obj.mapSeq f) (Ne.symm hb)).trans hu) ⟨_, q⟩ ?_
 exact ⟨hz, its', _, hv, q⟩
theorem Inv.lnew {its : List Value} {t' : Nat} (I : Inv X pins σ H s) (hv : Vals ys its) (hz : ys.length ≤ sizeLine) :
  Inv X pins σ (upd H s.heap.objs.size (.lst ys)) { s with heap := s.heap.push { cls := .type "list", data := .seq its.toArray }, toks := t' } :=
 I.laid (fun _ _ q => Heap.get?_push_of_some _ q) (Nat.le_refl _) ⟨hz, its, 0, hv, Heap.get?_push_size _ rfl⟩
theorem Inv.fresh (I : Inv X pins σ H s) : H s.heap.objs.size = none := I.hok.fresh (Nat.le_refl _)
theorem Inv.lstM (I : Inv X pins σ H s) (hH : H l = some (.lst xs)) : xs.length ≤ sizeLine ∧ ∃ (its : List Value) (n : Nat), Vals xs its ∧ xs.length = its.length ∧ s.heap.get? l = some { cls := .type "list", data := .seq its.toArray n } := by
 obtain ⟨z, its, n, r, e⟩ := I.hok l _ hH;exact ⟨z, its, n, r, r.length, e⟩
theorem tu {n : Nat} (h : n ≤ sizeLine) : Builtin.List.listTooLong n = false := by
 unfold Builtin.List.listTooLong;exact decide_eq_false (by lia)
end
section
variable {X : Cx}
noncomputable def qo : V → List V → Hp → VK → Prop := fun x vs H Q => ∃ l xs y, x = .ref l ∧ vs = [y] ∧ H l = some (.lst xs) ∧ xs.length < sizeLine ∧ Q .non (upd H l (.lst (xs ++ [y])))
theorem lV : MtM X "list.append" qo := by
 intro pins s σ H x vs v us Q I rx rv h;obtain ⟨l, xs, y, rfl, rfl, hH, hz, q⟩ := h;cases rx;obtain ⟨u, rfl, ru⟩ := rv.one;obtain ⟨z, its, n, r, hl, e⟩ := I.lstM hH;refine call_meets F.slot_list_append ⟨_, e, rfl⟩ F.entry_list_append (F.args_list_append_2 _ _) (PySem.list_append l its.toArray n u (by rw [List.size_toArray]; lia)) ⟨e, ?_⟩
 refine ⟨.non, _, I.lset (its' := its ++ [u]) hH e (by simp) (r.append (.cons ru .nil)) ?_, rfl, q⟩
 rw [List.length_append, List.length_singleton]
 lia
theorem len_rep {α : Type} (xs : List α) (k : Nat) : (List.replicate k xs).flatten.length = k * xs.length := by
 induction k with
 | zero => simp
 | succ k ih => rw [List.replicate_succ, List.flatten_cons, List.length_append, ih, Nat.succ_mul, Nat.add_comm]
end
section
variable {prog : Program} {w : World} {A : Around} {E : Value → Shared → Prop} {s : Shared}
set_option maxRecDepth 100000 in
end
section
variable {X : Cx}
end
end L2
namespace Att
open PySem PySem.W PySem.Calls PyProof.Rows
theorem jY {P : Params} {h : Heap} : ∀ (ns : List Int) (vs : List Value), WellAll P h vs (ns.map WData.int) → IntsAre vs ns := by
 intro ns
 induction ns with
 | nil =>
  intro vs w;rw [List.map_nil] at w;cases w;exact .nil
 | cons n ns ih =>
  intro vs w;rw [List.map_cons] at w;cases w with
  | cons a b =>
   cases a;exact .cons _ _ (ih _ b)
theorem rG {l : OpenLaw} {n : Nat} (hn : l.most = some n) {P : Params} {h : Heap} {args : List WData} {vals : List Value}
  (hpre : l.row.toRowW.claim.pre args = true) (hwl : WellAll P h vals args) :
  ∃ a vs ns, vals = [Value.ref a] ∧ args = [WData.list (ns.map WData.int)] ∧ h.get? a = some { cls := .type "list", data := .seq vs.toArray } ∧ IntsAre vs ns ∧ ns.length ≤ n := by
 have hsh : WShape.hasAll [] args [.list .int] = true := (pre_splitW hpre).1;have hc : l.pre.holds [] { args := args } = true := (pre_splitW hpre).2;obtain ⟨d, r, rfl, h1, h2⟩ := hasAllW_cons hsh;obtain rfl := hasAllW_nil h2;obtain ⟨xs, rfl, h3⟩ := hasW_list h1;obtain ⟨ns, rfl⟩ := items_int h3;have hlen : ns.length ≤ n := by
  unfold OpenLaw.pre at hc;have h4 : (WTm.not (.lt (.lit (.int (n : Int))) (.len (.arg 0)))).holds [] { args := [.list (ns.map .int)] } = true := by
   have h4 := (holds_andW hc).1;rw [hn] at h4;exact h4
  have h5 := condW_of h4 (w_not (w_lt w_lit (w_len_list (w_arg rfl))));rw [List.length_map] at h5;refine Nat.le_of_not_lt fun q => ?_
  have q' : (n : Int) < ((ns.length : Nat) : Int) := by lia
  first
   | (rw [decide_eq_true q'] at h5; exact absurd h5 (by decide))
   | (simp at h5; lia)
 cases hwl with
 | cons w1 w2 =>
  cases w2;cases w1 with
  | list ho hall => exact ⟨_, _, ns, rfl, rfl, ho, jY ns _ hall, hlen⟩
theorem qC (l : OpenLaw) (args : List WData) : l.row.toRowW.claim.post args (.bool true) args = true :=
 postW_of (r := l.row.toRowW) (X := (true == true))
  (show WShape.has [] (.bool true) .bool = true by first | rfl | decide | simp [WShape.has, WShape.arms, WShape.armsAll])
  (show (WTm.eq .res (.lit (.bool true))).value [] { args := args, res := some (.bool true), after := args } = some (.bool (true == true)) from w_eq_bool (w_res rfl) w_lit) rfl
theorem jM {l : OpenLaw} {n : Nat} {q : Program} {loose : List Str} {XP : (Str → Option Value) → Heap → Prop} {YP : World → Heap → Prop} {d : DefRec}
  (hn : l.most = some n) (hdf : d.params.defaults = [])
  (call : ∀ (w : World) (s₀ s₁ : Shared) (mg mb : Str → Option Value) (fa : Addr) (o : Obj) (pm cd doc : Value) (a : Addr) (vs : List Value) (ns : List Int),
   Ground q loose [] XP w s₀ mg mb s₁.heap → YP w s₁.heap →
   s₁.heap.get? fa = some o → o.data = .func (docDef d.name d.params d.body d.scope pm cd doc) → s₁.heap.CodeRec cd d.name → mg d.name = some (.ref fa) →
   s₁.heap.get? a = some { cls := .type "list", data := .seq vs.toArray } → IntsAre vs ns → ns.length ≤ n → s₁.gens = #[] →
   codeAny (model l.prog w) callerA (.call (.ref fa) ⟨[.ref a], []⟩) (fun r s' => r = .ok (.ret (.bool true)) ∧ OldK s₁.heap s'.heap ∧ s'.os = s₁.os ∧ AllBare s'.gens) s₁) :
  WalkO q loose XP YP l.row.toRowW d [] (fun f vs => PySem.call f vs) := by
 intro w s₀ s₁ mg mb G Y fa o pm cd doc dV kV ho hd hcd hD hmg hg args vals as hpre hlay hrd hwl hlo;obtain rfl : dV = .none := Dflts.none hD hdf;obtain rfl : kV = .none := Dflts.noKw hD;obtain ⟨a, vs, ns, rfl, rfl, hobj, hints, hlen⟩ := rG hn hpre hwl;refine enter_call (codeAny_mono (call w s₀ s₁ mg mb fa o pm cd doc a vs ns G Y ho (fd_plain hd) hcd hmg hobj hints hlen hg) fun r s' hq => ?_)
 obtain ⟨rfl, h2, h3, h4⟩ := hq;exact ⟨.inl ⟨.bool true, .bool true, [], rfl, fun _ => rfl, .bool true, qC l _, fun _ => ⟨List.Pairwise.nil, fun _ hm => (nomatch hm)⟩⟩, h2, h3, h4⟩
section
variable {prog : Program} {w : World} {A : Around} {E : Value → Shared → Prop} {s : Shared} {K : Frag}
noncomputable def ledger (h : Heap) (L d : Addr) : List (Addr × Obj) := (List.range h.objs.size).filterMap fun a => if a = L ∨ a = d then none else (h.get? a).map fun o => (a, o)
end
end Att
namespace L2
open PySem PySem.Spec PyProof.Rows
theorem gF : ∀ {vs : List Value} {ns : List Int}, IntsAre vs ns → Vals (ns.map V.int) vs
 | _, _, .nil => .nil
 | _, _, .cons n t h => .cons ⟨t, rfl⟩ (gF h)
noncomputable def rq (H : Hp) : Prop := ∀ b, H b = none ∨ ∃ o xs, H b = some (.frz o (.lst xs))
theorem uI {P : Program} {w : World} {K : PySem.W.Frag} {mg mb : Str → Option Value} {CX : CXT} {k : Nat} {fa a : Addr} {fd : FuncData} {x : Str} {sp : Sp} {s₁ : Shared} {vs : List Value} {ns : List Int}
  (KX : K.In s₁.heap) (hns : s₁.heap.Ns mainGlobals mg) (hb : s₁.heap.Ns builtinsNs mb) (hbb : ∀ x : Str, x ≠ "__name__" → mb x = bootBuiltins x) (hlim : s₁.heap.NoLimit) (hg : s₁.gens = #[])
  (ha : s₁.heap.get? a = some { cls := .type "list", data := .seq vs.toArray }) (hi : IntsAre vs ns) (hl : ns.length ≤ sizeLine) (hr : Room k callerA)
  (F : ∀ base : Heap, K.In base → base.Ns mainGlobals mg → FnOk P w K mg base CX k fa fd [x] sp) (hbind : ∀ (s : Shared) (u : Value), BindsTo s fd ⟨[u], []⟩ [(x, u)])
  (hsp : ∀ H : Hp, rq H → SqL K H a (ns.map V.int) → sp [.ref a] H (fun v _ => v = .bl true) fun _ _ _ => False)
  (hCX : ∀ H e s', CX [] H s₁ (fun _ _ _ => False) e s' → False) :
  codeAny (model P w) callerA (.call (.ref fa) ⟨[.ref a], []⟩) (fun r s' => r = .ok (.ret (.bool true)) ∧ OldK s₁.heap s'.heap ∧ s'.os = s₁.os ∧ AllBare s'.gens) s₁ := by
 have rv := gF hi;have lenV := hi.length;have core : ∀ H : Hp, rq H → SqL K H a (ns.map V.int) → HOk P w H s₁.heap → (∀ b, H b ≠ none → b = a) → (H a ≠ none → K.lookup a = none) →
   codeAny (model P w) callerA (.call (.ref fa) ⟨[.ref a], []⟩) (fun r s' => r = .ok (.ret (.bool true)) ∧ OldK s₁.heap s'.heap ∧ s'.os = s₁.os ∧ AllBare s'.gens) s₁ := by
  intro H hO hS hok hA hK;have base_of : ∀ {b : Addr} {o : Obj}, s₁.heap.get? b = some o → H b = none → (jc s₁.heap H).get? b = some o := fun e n => ox e n
  have noA : ∀ {b : Addr} {o : Obj} {es : Array DictEntry} {ep : Nat}, s₁.heap.get? b = some o → o.data = .dict es ep → H b = none := fun {b o es ep} e d => by
   cases q : H b with
   | none => rfl
   | some u =>
    have e' : b = a := hA b (by rw [q]; simp)
    subst e';rw [ha] at e; cases e;have d' : Data.seq vs.toArray _ = Data.dict es ep := d;cases d'
  have nsK : ∀ {b : Addr} {m : Str → Option Value}, s₁.heap.Ns b m → (jc s₁.heap H).Ns b m := fun {b m} ⟨o, es, ep, e, d, r⟩ => ⟨o, es, ep, base_of e (noA e d), d, r⟩
  have hKb : K.In (jc s₁.heap H) := fun b o e => base_of (KX b o e) (by
   cases q : H b with
   | none => rfl
   | some u =>
    have e' : b = a := hA b (by rw [q]; simp)
    subst e';rw [hK (by rw [q]; simp)] at e; cases e)
  have hM : Mod K mg (jc s₁.heap H) := ⟨hKb, nsK hns, ⟨mb, nsK hb, hbb⟩, let ⟨mc, h1, h2⟩ := hlim; ⟨mc, nsK h1, h2⟩⟩;have e0 : Env0 P w K mg (jc s₁.heap H) callerA [] s₁ H := ⟨rfl, hM, fun b o e => pW e, Nat.le_of_eq (me _ _), trivial, fun b hb => absurd (show b ∈ ([] : List Addr) from hb) (by simp), hok, .of_eq hg⟩
  refine codeAny_mono ((F _ hKb (nsK hns)).run callerA [] s₁ H ⟨[.ref a], []⟩ [.ref a] [.ref a] _ _ hr e0 (hbind s₁ (.ref a)) (.cons rfl .nil) (hsp H hO hS)) fun r s' h => ?_
  cases r with
  | error e => exact (hCX H e s' h).elim
  | ok fl =>
   cases fl with
   | next => exact False.elim h
   | brk => exact False.elim h
   | cont => exact False.elim h
   | ret u =>
    obtain ⟨v, H', os, bare, un, hok', r', q⟩ := h;have q' : v = .bl true := q;subst q';obtain rfl : u = Value.bool true := r';refine ⟨rfl, OldK.of_keep fun b o e => ?_, os, bare⟩
    cases q : H b with
    | none => exact un.keep b o e q (by intro z; exact absurd (show b ∈ ([] : List Addr) from z) (by simp)) (by simp)
    | some u =>
     rcases hO b with z | ⟨ob, xs, z⟩
     ·rw [q] at z; cases z
     ·have z2 := un.frzs b ob _ z
      obtain ⟨e1, _⟩ := hok b _ z;obtain ⟨e2, _⟩ := hok' b _ z2;rw [e] at e1; cases e1;exact e2
 cases hk : K.lookup a with
 | some o =>
  have e := KX a o hk;rw [ha] at e;cases e;refine core (fun _ => none) (fun _ => .inl rfl) (.inr ⟨_, vs.toArray, _, hk, rfl, rfl, rfl, by rw [List.size_toArray, lenV]; exact hl, by simpa using rv⟩) (fun b u z => by have z' : (none : Option HO) = some u := z; cases z') (fun b z => absurd rfl z) fun z => absurd rfl z
 | none =>
  refine core (fun b => if b = a then some (.frz { cls := .type "list", data := .seq vs.toArray } (.lst (ns.map V.int))) else none) (fun b => ?_) (.inl (.inr ⟨{ cls := .type "list", data := .seq vs.toArray }, if_pos rfl⟩)) (fun b u z => ?_) (fun b z => ?_) fun _ => hk
  ·by_cases hb : b = a
   ·exact .inr ⟨_, _, if_pos hb⟩
   ·exact .inl (if_neg hb)
  ·by_cases hb : b = a
   ·have z' := (if_pos hb).symm.trans z
    cases z';subst hb;exact ⟨ha, by rw [List.length_map]; exact hl, vs, _, rv, ha⟩
   ·have z' := (if_neg hb).symm.trans z
    cases z'
  ·by_cases hb : b = a
   ·exact hb
   ·exact absurd (if_neg hb) z
end L2
namespace L2
open PySem PySem.Spec PyProof.Rows
noncomputable abbrev KOf {K : PySem.W.Frag} {h : Heap} (_ : K.In h) : PySem.W.Frag := K
theorem Ei {l : PySem.W.OpenLaw} {n k : Nat} {q : Program} {loose : List Str} {XP : (Str → Option Value) → Heap → Prop} {YP : World → Heap → Prop} {d : DefRec} {K : Params → PySem.W.Frag} {CX : World → CXT} {sp : World → Sp} {x : Str}
  (hn : l.most = some n) (hn2 : n ≤ sizeLine) (hdf : d.params.defaults = []) (hr : Room k callerA)
  (hY : ∀ (w : World) (h : Heap), YP w h → (K w.params).In h)
  (F : ∀ (w : World) (mg : Str → Option Value) (fa : Addr) (h : Heap), (K w.params).In h → h.Ns mainGlobals mg → mg d.name = some (.ref fa) →
   ∃ fd : FuncData, (∀ (s : Shared) (u : Value), BindsTo s fd ⟨[u], []⟩ [(x, u)]) ∧
    ∀ base : Heap, (K w.params).In base → base.Ns mainGlobals mg → FnOk l.prog w (K w.params) mg base (CX w) k fa fd [x] (sp w))
  (hsp : ∀ (w : World) (H : Hp) (a : Addr) (ns : List Int), ns.length ≤ n → rq H → SqL (K w.params) H a (ns.map V.int) → sp w [.ref a] H (fun v _ => v = .bl true) fun _ _ _ => False)
  (hCX : ∀ (w : World) (H : Hp) (s : Shared) (e : Value) (s' : Shared), CX w [] H s (fun _ _ _ => False) e s' → False) :
  PySem.W.WalkO q loose XP YP l.row.toRowW d [] (fun f vs => PySem.call f vs) := by
 refine Att.jM hn hdf fun w s₀ s₁ mg mb fa o pm cd doc a vs ns G Y ho hd hcd hmg hobj hints hlen hg => ?_
 have KX := hY w _ Y;obtain ⟨fd, hb, hF⟩ := F w mg fa _ KX G.T.g hmg;exact uI KX G.T.g G.T.b G.T.builtins G.T.nolimit hg hobj hints (Nat.le_trans hlen hn2) hr hF hb (fun H hO hS => hsp w H a ns hlen hO hS) fun H e s' => hCX w H s₁ e s'
end L2
namespace L2
open PySem PySem.Spec PyProof.Rows
noncomputable def aW (s : Stmt) : Arguments := match s with
 | .FunctionDef _ a _ _ _ _ _ _ _ _ => a
 | _ => { posonlyargs := [], args := [], vararg := none, kwonlyargs := [], kw_defaults := [], kwarg := none, defaults := [] }
noncomputable def aR (s : Stmt) : List Stmt := match s with
 | .FunctionDef _ _ b _ _ _ _ _ _ _ => b
 | _ => []
noncomputable def ar (s : Stmt) : Scope := match s with
 | .FunctionDef _ _ _ _ _ _ sc _ _ _ => sc
 | _ => { kind := .function, names := [], isGenerator := false, isCoroutine := false }
noncomputable abbrev CX0 : CXT := fun _ _ _ _ _ _ => False
noncomputable abbrev E0 : XK := fun _ _ _ => False
structure Fun (K : PySem.W.Frag) (x qual : Str) (st : Stmt) (f : Addr) (fd : FuncData) : Prop where
 ex : ∃ (oc : Value) (od : Option Addr) (kV doc pm : Value) (an : Option Addr) (cdv ct : Value) (osl : Array (Option Value)),
  fd = PySem.W.fnOf x qual (aW st) (aR st) (ar st) .none kV doc pm an cdv ct ∧ K.lookup f = some ⟨oc, od, .func fd, osl⟩ ∧ PySem.W.codeIn K cdv qual = true
 kp : PySem.W.keepIn K (.ref f) = true
section
variable {P : Program} {w : World} {K : PySem.W.Frag} {mg : Str → Option Value} {base : Heap}
theorem Fun.ok {x qual : Str} {st : Stmt} {f : Addr} {fd : FuncData} {N ps : List Str} {k : Nat} {sp : Sp} (F : Fun K x qual st f fd) (S : FnScope N ps (ar st)) (len : ∀ vs H Q E, sp vs H Q E → vs.length = ps.length)
  (hbody : ∀ (cdv : Value) (A : Around) (outer : List Env) (s : Shared) (H : Hp) (vs : List V) (Q : VK) (E : XK), Room k (A.deeper (envOfC qual (ar st) s.heap.objs.size f cdv)) → sp vs H Q E →
   ∃ t, PSs (jZ CX0 P w K mg base N qual (ar st) f cdv A outer s H E).nox (aR st) t ∧ t { nx := fun _ H' => Q .non H', rt := Q } (start N vs) H) : FnOk P w K mg base CX0 (k + 1) f fd ps sp := by
 obtain ⟨oc, od, kV, doc, pm, an, cdv, ct, osl, rfl, lk, hcd⟩ := F.ex;refine uQ lk hcd S len fun A outer s H vs Q E hr hsp => ?_
 obtain ⟨t, h, q⟩ := hbody cdv A outer s H vs Q E hr hsp;exact ⟨t, h.nox, q⟩
theorem Fun.binds {x qual : Str} {st : Stmt} {f : Addr} {fd : FuncData} {ps : List Str} (F : Fun K x qual st f fd)
  (h : ∀ (kV doc pm : Value) (an : Option Addr) (cdv ct : Value) (us : List Value), us.length = ps.length → bindArgs (PySem.W.fnOf x qual (aW st) (aR st) (ar st) .none kV doc pm an cdv ct) ⟨us, []⟩ = pure (ps.zip us)) : Binds K fd ps [] := by
 obtain ⟨oc, od, kV, doc, pm, an, cdv, ct, osl, rfl, lk, hcd⟩ := F.ex;exact .all (h kV doc pm an cdv ct)
theorem bT {x qual : Str} {st : Stmt} {f : Addr} {oc : Value} {od an : Option Addr} {osl : Array (Option Value)} {kV doc pm cdv ct : Value} (l : K.lookup f = some ⟨oc, od, .func (PySem.W.fnOf x qual (aW st) (aR st) (ar st) .none kV doc pm an cdv ct), osl⟩)
  (c : PySem.W.codeIn K cdv qual = true) (k : PySem.W.keepIn K (.ref f) = true) : Fun K x qual st f (PySem.W.fnOf x qual (aW st) (aR st) (ar st) .none kV doc pm an cdv ct) := ⟨⟨oc, od, kV, doc, pm, an, cdv, ct, osl, rfl, l, c⟩, k⟩
end
section
variable {X : Cx}
end
noncomputable def aN (H H' : Hp) : Prop := ∀ b o, H b = some o → H' b = some o
theorem aN.refl (H : Hp) : aN H H := fun _ _ h => h
theorem aN.trans {H H1 H2 : Hp} (a : aN H H1) (b : aN H1 H2) : aN H H2 := fun c o h => b c o (a c o h)
theorem aN.free {H H' : Hp} (e : aN H H') {l : Addr} (h : H' l = Option.none) : H l = Option.none := by
 cases q : H l with
 | none => rfl
 | some o =>
  rw [e l o q] at h;cases h
theorem aN.seq {K : PySem.W.Frag} {H H' : Hp} {a : Addr} {xs : List V} (e : aN H H') (h : SqL K H a xs) : SqL K H' a xs := by
 rcases h with (h | ⟨o, h⟩) | h
 ·exact .inl (.inl (e _ _ h))
 ·exact .inl (.inr ⟨o, e _ _ h⟩)
 ·exact .inr h
end L2
set_option maxHeartbeats 4000000
namespace L2
open PySem PySem.Spec PyProof.Rows
noncomputable def frees (env : Env) : List (Str × NameKind) → List (Str × Addr) → List (Str × Addr)
 | [], cs => cs
 | (n, k) :: r, cs => if (k == NameKind.free) = true then frees env r ((n, (env.cells.lookup n).getD 0) :: cs) else frees env r cs
theorem jz {env : Env} {x : Str} {c : Addr} : ∀ (l : List (Str × NameKind)) (cs : List (Str × Addr)), (∀ y ∈ l, y.2 = .free → ∃ c, env.cells.lookup y.1 = some c) →
  (∀ c, cs.lookup x = some c → env.cells.lookup x = some c) → (frees env l cs).lookup x = some c → env.cells.lookup x = some c
 | [], cs, _, hc, e => hc c e
 | (n, k) :: r, cs, hl, hc, e => by
  unfold frees at e;by_cases hk : (k == NameKind.free) = true
  ·rw [if_pos hk] at e
   obtain ⟨d, hd⟩ := hl (n, k) List.mem_cons_self (by simpa using hk)
   have hd' : env.cells.lookup n = some d := hd;refine jz r _ (fun y hy => hl y (List.mem_cons_of_mem _ hy)) (fun c' e' => ?_) e
   rw [List.lookup_cons] at e';cases hx : x == n with
   | true =>
    rw [hx] at e';have hxn : x = n := by simpa using hx
    rw [hd'] at e';rw [hxn, hd'];exact e'
   | false =>
    rw [hx] at e';exact hc c' e'
  ·rw [if_neg hk] at e
   exact jz r cs (fun y hy => hl y (List.mem_cons_of_mem _ hy)) hc e
theorem iz {env : Env} {x : Str} : ∀ (l : List (Str × NameKind)) (cs : List (Str × Addr)), ((x, NameKind.free) ∈ l ∨ ∃ c, cs.lookup x = some c) → ∃ c, (frees env l cs).lookup x = some c
 | [], cs, h => by
  rcases h with h | h
  ·cases h
  ·exact h
 | (n, k) :: r, cs, h => by
  unfold frees;by_cases hk : (k == NameKind.free) = true
  ·rw [if_pos hk]
   refine iz r _ ?_;rcases h with h | ⟨c, h⟩
   ·rcases List.mem_cons.mp h with e | e
    ·cases e
     exact .inr ⟨(env.cells.lookup x).getD 0, by rw [List.lookup_cons, beq_self_eq_true]⟩
    ·exact .inl e
   ·refine .inr ?_
    rw [List.lookup_cons];cases hx : x == n with
    | true => exact ⟨_, rfl⟩
    | false => exact ⟨c, h⟩
  ·rw [if_neg hk]
   refine iz r _ ?_;rcases h with h | h
   ·rcases List.mem_cons.mp h with e | e
    ·cases e
     exact absurd rfl hk
    ·exact .inl e
   ·exact .inr h
theorem p8 {env : Env} {x : Str} {k' : NameKind} : ∀ {names : List (Str × NameKind)}, ((names.map fun (n, k) => if (k == NameKind.free && env.scope.kind == .function && env.kindOf n == some .cell) then (n, NameKind.cell) else (n, k)).lookup x = some k') →
  ∃ k, names.lookup x = some k ∧ (k' = k ∨ (k = .free ∧ k' = .cell))
 | [], h => by simp at h
 | (n, k) :: r, h => by
  rw [List.map_cons] at h
  dsimp only at h
  rw [List.lookup_cons];by_cases hc : (k == NameKind.free && env.scope.kind == .function && env.kindOf n == some .cell) = true
  ·rw [if_pos hc, List.lookup_cons] at h
   cases hx : x == n with
   | true =>
    rw [hx] at h;cases h;have hk : k = .free := by
     rw [Bool.and_eq_true, Bool.and_eq_true] at hc
     simpa using hc.1.1
    exact ⟨k, rfl, .inr ⟨hk, rfl⟩⟩
   | false =>
    rw [hx] at h;exact p8 h
  ·rw [if_neg hc, List.lookup_cons] at h
   cases hx : x == n with
   | true =>
    rw [hx] at h;cases h;exact ⟨_, rfl, .inl rfl⟩
   | false =>
    rw [hx] at h;exact p8 h
theorem iP {env : Env} {x : Str} : ∀ {names : List (Str × NameKind)}, names.lookup x = some .free →
  (names.map fun (n, k) => if (k == NameKind.free && env.scope.kind == .function && env.kindOf n == some .cell) then (n, NameKind.cell) else (n, k)).lookup x = some .cell ∨
  (names.map fun (n, k) => if (k == NameKind.free && env.scope.kind == .function && env.kindOf n == some .cell) then (n, NameKind.cell) else (n, k)).lookup x = some .free
 | [], h => by simp at h
 | (n, k) :: r, h => by
  rw [List.map_cons]
  dsimp only
  rw [List.lookup_cons] at h;by_cases hc : (k == NameKind.free && env.scope.kind == .function && env.kindOf n == some .cell) = true
  ·rw [if_pos hc, List.lookup_cons]
   cases hx : x == n with
   | true => exact .inl rfl
   | false =>
    rw [hx] at h;exact iP h
  ·rw [if_neg hc, List.lookup_cons]
   cases hx : x == n with
   | true =>
    rw [hx] at h;cases h;exact .inr rfl
   | false =>
    rw [hx] at h;exact iP h
theorem fq {x : Str} {k : NameKind} : ∀ {l : List (Str × NameKind)}, l.lookup x = some k → (x, k) ∈ l
 | (n, j) :: r, h => by
  rw [List.lookup_cons] at h;cases hx : x == n with
  | true =>
   rw [hx] at h;cases h;have : x = n := by simpa using hx
   rw [this];exact List.mem_cons_self
  | false =>
   rw [hx] at h;exact List.mem_cons_of_mem _ (fq h)
theorem kX {scope : Scope} {env : Env} (h : ∀ x ∈ scope.names, x.2 = .free → ∃ c, env.cells.lookup x.1 = some c) : closureFor scope env = pure (frees env scope.names []) := by
 unfold closureFor;have key : ∀ (l : List (Str × NameKind)) (cs : List (Str × Addr)), (∀ x ∈ l, x.2 = .free → ∃ c, env.cells.lookup x.1 = some c) →
  (forIn l cs fun (x : Str × NameKind) (r : List (Str × Addr)) => if (x.2 == NameKind.free) = true then do let a ← cellOf env x.1; pure (ForInStep.yield ((x.1, a) :: r)) else pure (ForInStep.yield r) : Sem (List (Str × Addr))) = pure (frees env l cs) := by
  intro l
  induction l with
  | nil => intro cs _; rfl
  | cons x r ih =>
   intro cs hx;obtain ⟨n, k⟩ := x;rw [List.forIn_cons]
   dsimp only
   have hr := fun cs => ih cs fun y hy => hx y (List.mem_cons_of_mem _ hy)
   by_cases hk : (k == NameKind.free) = true
   ·obtain ⟨c, hc⟩ := hx (n, k) List.mem_cons_self (by simpa using hk)
    have hc' : env.cells.lookup n = some c := hc;rw [if_pos hk];unfold frees;rw [if_pos hk];have e1 : cellOf env n = pure c := by unfold cellOf; rw [hc']
    rw [e1, hc', ← hr];rfl
   ·rw [if_neg hk]
    unfold frees;rw [if_neg hk, ← hr];rfl
 have := key scope.names [] h;simp only [bind_pure];exact this
section
variable {prog : Program} {w : World} {A : Around} {R : Result → Shared → Prop} {s : Shared}
noncomputable def uE (ifs : List Expr) (env : Env) : Sem Bool := forIn ifs true fun c r => if r = true then do let ok ← isTrue c env (eval c env); pure (ForInStep.yield ok) else pure (ForInStep.yield r)
theorem mO {elt tg iter : Expr} {ifs : List Expr} {scope : Scope} {pos : Pos} {it acc : Value} {env : Env} (J : Nat → Shared → Prop)
  (turn : ∀ n s, J n s → wpAny (model prog w) A (pyNext it) (fun r s1 => match r with
   | none => R (.ok .next) s1
   | some v => wpAny (model prog w) A (letOwnedTupleGo tg it v) (fun _ s2 => wpAny (model prog w) A (assign tg env v) (fun _ s3 => wpAny (model prog w) A (uE ifs env) (fun ok s4 =>
     if ok = true then wpAny (model prog w) A (eval elt env) (fun x s5 => wpAny (model prog w) A (call (.builtin "list.append") [acc, x]) (fun _ s6 => ∃ m, m < n ∧ J m s6) (fun _ _ => False) s5) (fun _ _ => False) s4
     else ∃ m, m < n ∧ J m s4) (fun _ _ => False) s3) (fun _ _ => False) s2) (fun _ _ => False) s1) (fun _ _ => False) s)
  (n : Nat) (h : J n s) : codeAny (model prog w) A (.compLoop (.ListComp elt [⟨tg, iter, ifs, 0⟩] scope pos) 0 it acc env) R s := by
 refine codeAny_loop rfl J (fun n s hJ => ?_) n h
 have no : ∀ (P : Value → Shared → Prop) (e : Value) (s' : Shared), False → P e s' := fun _ _ _ f => f.elim
 show wpAny _ A ((compTurn (.ListComp elt [⟨tg, iter, ifs, 0⟩] scope pos) 0 it acc env).onRaise (fun x => do noteFrame x env; theTreesLotGoes x)) _ _ s
 refine wpAny_noted ?_;rw [compTurn_list];refine wpAny_bind (wpAny_standAt (wpAny_bind (wpAny_mono (turn n s hJ) (fun r s1 h1 => ?_) fun e s' f => f.elim)))
 cases r with
 | none => exact wpAny_pure h1
 | some v =>
  refine wpAny_bind (wpAny_mono h1 (fun _ s2 h2 => ?_) fun e s' f => f.elim)
  refine wpAny_bind (wpAny_mono h2 (fun _ s3 h3 => ?_) fun e s' f => f.elim)
  refine wpAny_bind (wpAny_mono h3 (fun ok s4 h4 => ?_) fun e s' f => f.elim)
  cases ok with
  | false => exact wpAny_pure ⟨rfl, h4⟩
  | true =>
   refine wpAny_bind (wpAny_bind (wpAny_mono h4 (fun x s5 h5 => ?_) fun e s' f => f.elim))
   exact wpAny_bind (wpAny_mono h5 (fun _ s6 h6 => wpAny_pure (wpAny_pure ⟨rfl, h6⟩)) fun e s' f => f.elim)
end
noncomputable def cxB (X : Cx) (N : List Str) (scope : Scope) (s : Shared) (H : Hp) (C : Addr) (ex : List Addr) (pins : List (Addr × Obj)) : Cx :=
 { X with N := N, s₀ := s, H₀ := H, env := compEnvC scope (frees X.env scope.names []) C X.env, outer := X.stack, ex := ex, fn := fun _ => false, pn := X.pn ++ pins, xe := fun _ _ => False }
noncomputable def jA (X : Cx) (scope : Scope) : List (Nat × Str) → Prop
 | [] => True
 | p :: r => (X.N[p.1]? = some p.2 ∧ scope.names.lookup p.2 = some .free) ∧ jA X scope r
theorem jA.get {X : Cx} {scope : Scope} : ∀ {outs : List (Nat × Str)} {j : Nat} {p : Nat × Str}, jA X scope outs → outs[j]? = some p → X.N[p.1]? = some p.2 ∧ scope.names.lookup p.2 = some .free
 | [], _, _, _, e => by simp at e
 | q :: r, 0, p, h, e => by
  simp at e
  subst e;exact h.1
 | q :: r, j + 1, p, h, e => jA.get (j := j) h.2 (by simpa using e)
structure Blk (X : Cx) (sc scope : Scope) (outs : List (Nat × Str)) : Prop where
 hsc : X.env.scope = sc
 kind : scope.kind = .function
 loc : ∀ x ∈ scope.names, x.2 = .local → scope.names.lookup x.1 = some .local
 nocell : ∀ x ∈ scope.names, x.2 ≠ .cell
 fr : ∀ x ∈ scope.names, x.2 = .free → sc.names.lookup x.1 = some .cell ∨ sc.names.lookup x.1 = some .free
 out : jA X scope outs
noncomputable def slots (k : Nat) (outs : List (Nat × Str)) (σ : St) : St := List.replicate k none ++ outs.map fun p => (σ[p.1]?).join
noncomputable def gq : St → St → Prop
 | [], [] => True
 | none :: r, _ :: r' => gq r r'
 | some v :: r, w :: r' => w = some v ∧ gq r r'
 | _, _ => False
theorem gq.len : ∀ {σ σ' : St}, gq σ σ' → σ.length = σ'.length
 | [], [], _ => rfl
 | none :: r, _ :: r', h => by
  have := gq.len (σ := r) (σ' := r') h;simp [this]
 | some v :: r, w :: r', h => by
  have := gq.len (σ := r) (σ' := r') h.2;simp [this]
theorem gq.get : ∀ {σ σ' : St} {i : Nat} {v : V}, gq σ σ' → σ[i]? = some (some v) → σ'[i]? = some (some v)
 | [], _, _, _, _, e => by simp at e
 | none :: r, w :: r', 0, v, _, e => by simp at e
 | none :: r, w :: r', i + 1, v, h, e => by
  have := gq.get (σ := r) (σ' := r') (i := i) (v := v) h (by simpa using e)
  simpa using this
 | some u :: r, w :: r', 0, v, h, e => by
  simp at e
  rw [h.1];simp [e]
 | some u :: r, w :: r', i + 1, v, h, e => by
  have := gq.get (σ := r) (σ' := r') (i := i) (v := v) h.2 (by simpa using e)
  simpa using this
noncomputable def PF (X : Cx) (ifs : List Expr) (t : TT) : Prop :=
 ∀ (pins : List (Addr × Obj)) (s : Shared) (σ : St) (H : Hp) (Q : Bool → Hp → Prop), Inv X pins σ H s → t σ H Q → wpAny (model X.prog X.w) X.A (uE ifs X.env) (TP X pins σ Q) X.xe s
noncomputable def Em : TT := fun _ H Q => Q true H
theorem Ax {X : Cx} : PF X [] Em := fun _ _ _ H _ I h => wpAny_tests_nil ⟨H, I, h⟩
noncomputable abbrev EM (tc : TT) (te : TE) (σ0 : St) (D : Addr) (acc : List V) (N : List V → Hp → Prop) : St → Hp → Prop := fun σ2 H3 => gq σ0 σ2 ∧ tc σ2 H3 fun b H4 =>
 if b = true then te σ2 H4 fun y H5 => H5 D = some (.lst acc) ∧ acc.length < sizeLine ∧ N (acc ++ [y]) (upd H5 D (.lst (acc ++ [y]))) else N acc H4
noncomputable def Bm (J : It) (g : TG) (tc : TT) (te : TE) (σ0 : St) (D : Addr) (H1 : Hp) (Q : Hp → Prop) : Prop :=
 ∃ W : Nat → Nat → List V → Hp → Prop, (∃ m, W 0 m [] (upd H1 D (.lst []))) ∧ ∀ i m acc H', W i m acc H' →
  (J.stop i H' ∧ Q H') ∨ (J.go i H' ∧ ∃ N : List V → Hp → Prop, (∀ acc' H2, N acc' H2 → ∃ m', m' < m ∧ W (i + 1) m' acc' H2) ∧ ∀ x H2, J.yld i H' x H2 → g x σ0 H2 (EM tc te σ0 D acc N))
section
variable {X : Cx} {sc scope : Scope} {own : List Str} {outs : List (Nat × Str)} {elt tg iter : Expr} {ifs : List Expr} {pos : Pos} {g : TG} {tc : TT} {te : TE}
theorem kF (B : Blk X sc scope outs) {pins : List (Addr × Obj)} {σ : St} {H : Hp} {s : Shared} (I : Inv X pins σ H s) : ∀ x ∈ scope.names, x.2 = .free → ∃ c, X.env.cells.lookup x.1 = some c := fun x hx hf => by
 refine I.ok.has x.1 ?_;show X.env.scope.names.lookup x.1 = _ ∨ X.env.scope.names.lookup x.1 = _
 rw [B.hsc];exact B.fr x hx hf
theorem w6 (B : Blk X sc scope outs) {pins : List (Addr × Obj)} {σ : St} {H : Hp} {s : Shared} {fp : List Addr} (I : Inv X pins σ H s) (f2 : ∀ b ∈ fp, jS X pins H b) (fo : ∀ b ∈ fp, ∃ o, s.heap.get? b = some o)
  {h1 : Heap} {m : Str → Option Value} {tk : Nat} (hn : h1.Ns (s.heap.objs.size + 1) m) (old : ∀ b o, s.heap.get? b = some o → h1.get? b = some o)
  (hD : h1.get? s.heap.objs.size = some { cls := .type "list", data := .seq #[] 0 }) :
  Inv (cxB X (own ++ outs.map (·.2)) scope s H (s.heap.objs.size + 1) fp pins) [] (slots own.length outs σ) (upd H s.heap.objs.size (.lst [])) { s with heap := h1, toks := tk } := by
 have bf := kF B I;have sub : ∀ x c, (frees X.env scope.names []).lookup x = some c → X.env.cells.lookup x = some c := fun x c e => jz _ _ bf (fun c' e' => by simp at e') e
 have clt : ∀ x c, X.env.cells.lookup x = some c → c < s.heap.objs.size := fun x c e => (let ⟨v, q⟩ := I.cell x c e; q.lt)
 have flt : ∀ b ∈ fp, b < s.heap.objs.size := fun b hb => (let ⟨o, e⟩ := fo b hb; Heap.lt_size e)
 have un : Un (cxB X (own ++ outs.map (·.2)) scope s H (s.heap.objs.size + 1) fp pins).fs (cxB X (own ++ outs.map (·.2)) scope s H (s.heap.objs.size + 1) fp pins).ex H (upd H s.heap.objs.size (.lst [])) s.heap h1 := Un.laid old (Nat.le_refl _) I.fresh;have hok : HOk X.prog X.w (upd H s.heap.objs.size (.lst [])) h1 := I.hok.laid old (Nat.le_refl _) ⟨Nat.zero_le _, [], 0, .nil, hD⟩;refine ⟨⟨I.ok.mod, B.kind, I.ok.glob, I.ok.blt, Nat.le_succ _, fun x y c e1 e2 => I.ok.inj x y c (sub x c e1) (sub y c e2), fun x hx => ?_, fun x c hf => ?_, I.ok.hd, I.ok.frames, .inl rfl, fun b hb => ⟨?_, fun x c e => ?_⟩, I.bs, ?_, fun b o e hb => ?_, fun b hb z => ?_, I.stack, I.stkFree⟩,
  rfl, I.bare, un, ⟨m, hn, fun i x v e1 e2 e3 => ?_⟩, fun x c e => ?_, ?_, fun x c e => ?_, fun p hp => ?_, hok, ?_⟩
 ·obtain ⟨k, e, hk⟩ : ∃ k, scope.names.lookup x = some k ∧ k = .free := by
   rcases hx with hx | hx
   ·obtain ⟨k, e, hk⟩ := p8 (show ((scope.names.map _).lookup x = some .cell) from hx)
    rcases hk with hk | hk
    ·exact absurd hk.symm (B.nocell _ (fq e))
    ·exact ⟨k, e, hk.1⟩
   ·obtain ⟨k, e, hk⟩ := p8 (show ((scope.names.map _).lookup x = some .free) from hx)
    rcases hk with hk | hk
    ·exact ⟨k, e, hk.symm⟩
    ·exact ⟨k, e, hk.1⟩
  subst hk;exact iz _ _ (.inl (fq e))
 ·cases hf
 ·exact Nat.ne_of_lt (Nat.lt_succ_of_lt (flt b hb))
 ·exact (f2 b hb).2.2.2.2.1 x c (sub x c e)
 ·exact Nat.le_trans I.ok.bsz I.sz
 ·rcases (f2 b hb).2.2.2.1 with z | z
  ·exact I.ok.noex b o e z
  ·exact absurd (Nat.lt_of_lt_of_le (Heap.lt_size e) (Nat.le_trans I.ok.bsz z)) (Nat.lt_irrefl _)
 ·rcases List.mem_cons.mp (I.stkSub b z) with q | q
  ·exact (f2 b hb).2.1 q
  ·exact (f2 b hb).2.2.1 q
 ·
  have hi : own.length ≤ i := by
   by_cases hi : own.length ≤ i
   ·exact hi
   ·have e2' : (slots own.length outs σ)[i]? = some (some v) := e2
    unfold slots at e2';rw [List.getElem?_append_left (by simpa using Nat.lt_of_not_le hi), List.getElem?_replicate] at e2'
    split at e2' <;> cases e2'
  have e1' : (own ++ outs.map (·.2))[i]? = some x := e1;have e2' : (slots own.length outs σ)[i]? = some (some v) := e2;unfold slots at e2';rw [List.getElem?_append_right hi, List.getElem?_map] at e1';rw [List.getElem?_append_right (by simpa using hi), List.length_replicate, List.getElem?_map] at e2'
  cases ep : outs[i - own.length]? with
  | none =>
   rw [ep] at e1';cases e1'
  | some p =>
   rw [ep] at e1' e2';have ex : p.2 = x := Option.some.inj e1';have ev : (σ[p.1]?).join = some v := Option.some.inj e2';obtain ⟨o1, o2⟩ := B.out.get ep;have es : σ[p.1]? = some (some v) := by
    cases q : σ[p.1]? with
    | none =>
     rw [q] at ev;cases ev
    | some w =>
     rw [q] at ev;have ew : w = some v := ev;rw [ew]
   rw [ex] at o1 o2;have hk : X.env.scope.names.lookup x = some .cell ∨ X.env.scope.names.lookup x = some .free := by
    rw [B.hsc];exact B.fr (x, .free) (fq o2) rfl
   obtain ⟨m0, hn0, hl0⟩ := I.loc;obtain ⟨u, r, l⟩ := hl0 p.1 x v o1 es (hk.elim (fun z => .inr (.inl z)) fun z => .inr (.inr z))
   refine ⟨u, r, .inr ?_⟩;rcases l with ⟨hl, _⟩ | ⟨_, c, ec, hc⟩
   ·have hl' : X.env.scope.names.lookup x = some .local := hl
    rcases hk with z | z <;> (rw [z] at hl'; cases hl')
   ·obtain ⟨c', ec'⟩ := iz (env := X.env) (x := x) scope.names [] (.inl (fq o2))
    have e3 := sub x c' ec';rw [ec] at e3;cases e3;obtain ⟨oc, q1, q2⟩ := hc;exact ⟨iP o2, c, ec', ⟨oc, old _ _ q1, q2⟩⟩
 ·obtain ⟨v, oc, q1, q2⟩ := I.cell x c (sub x c e)
  exact ⟨v, oc, old _ _ q1, q2⟩
 ·show upd H s.heap.objs.size (.lst []) (s.heap.objs.size + 1) = none
  rw [aQ (Nat.succ_ne_self _)];exact I.hok.fresh (Nat.le_succ _)
 ·rw [aQ (Nat.ne_of_lt (clt x c (sub x c e)))]
  exact I.freeC x c (sub x c e)
 ·have hp' : p ∈ X.pn ++ pins := by
   have : p ∈ (X.pn ++ pins) ++ [] := hp
   simpa using this
  obtain ⟨q1, q2, q3, q4, q5⟩ := I.pin p hp';refine ⟨old _ _ q1, ?_, Nat.ne_of_lt (Nat.lt_succ_of_lt (Heap.lt_size q1)), fun z => ?_, q5⟩
  ·rw [aQ (Nat.ne_of_lt (Heap.lt_size q1))]
   exact q2
  ·rcases List.mem_cons.mp (I.stkSub p.1 z) with q | q
   ·exact q3 q
   ·exact q4 q
 ·show (slots own.length outs σ).length = (own ++ outs.map (·.2)).length
  unfold slots;simp
theorem qr (B : Blk X sc scope outs) (hcalm : X.calm = true)
  (hg : ∀ s H C ex pins, PG (cxB X (own ++ outs.map (·.2)) scope s H C ex pins) tg g) (hc : ∀ s H C ex pins, PF (cxB X (own ++ outs.map (·.2)) scope s H C ex pins) ifs tc) (he : ∀ s H C ex pins, PE (cxB X (own ++ outs.map (·.2)) scope s H C ex pins) elt te)
  {pins : List (Addr × Obj)} {σ : St} {H : Hp} {s : Shared} {it : Addr} {fp : List Addr} {tn : Nat → Heap → Prop} {J : It} (I : Inv X pins σ H s) (T : Turn X.prog X.w X.K tg J fp it tn) (st : tn 0 s.heap) (f2 : ∀ b ∈ fp, jS X pins H b)
  {R0 : Addr → Hp → Prop} (hW : ∀ D, H D = none → Bm J g tc te (slots own.length outs σ) D H (R0 D)) {RR : Value → Addr → Result → Shared → Prop} {E : Value → Shared → Prop}
  (fin : ∀ D C H' s' m, Inv X pins σ H' s' → jS X pins H' C → s'.heap.Ns C m → R0 D H' → RR (.ref D) C (.ok .next) s') :
  wpAny (model X.prog X.w) X.A (newList []) (fun acc s3 => wpAny (model X.prog X.w) X.A (newFunctionEnv scope X.env.globals (frees X.env scope.names []) [] X.env.qual none .none (some X.env)) (fun cenv s4 =>
   codeAny (model X.prog X.w) X.A (.compStart (.ListComp elt [⟨tg, iter, ifs, 0⟩] scope pos) 0 (.ref it) acc { cenv with scope := relabel scope X.env }) (RR acc cenv.locals) s4) E s3) E s := by
 refine wpAny_newObj_type (wpAny_newFunctionEnv B.nocell (by intro y hy; simp at hy) (fun h1 hn1 hs1 => ?_) B.kind)
 dsimp only at hn1 hs1 ⊢
 have hz : (s.heap.push { cls := .type "list", dict := none, data := .seq ([] : List Value).toArray }).objs.size = s.heap.objs.size + 1 := Heap.size_push ..;rw [hz] at hn1 hs1;simp only [hz];have fo : ∀ b ∈ fp, ∃ o, s.heap.get? b = some o := fun b hb => (let ⟨o, e, _⟩ := T.obj 0 _ st b hb; ⟨o, e⟩)
 have old : ∀ b o, s.heap.get? b = some o → h1.get? b = some o := fun b o e =>
  hs1.extBut b o (Nat.ne_of_lt (Nat.lt_succ_of_lt (Heap.lt_size e))) (Heap.get?_push_of_some _ (Heap.get?_push_of_some _ e))
 have hD : h1.get? s.heap.objs.size = some { cls := .type "list", data := .seq #[] 0 } := hs1.extBut _ _ (Nat.ne_of_lt (Nat.lt_succ_self _)) (Heap.get?_push_of_some _ (Heap.get?_push_size _ rfl));have I1 := w6 (own := own) (tk := s.toks + ([] : List (Str × Value)).length) B I f2 fo hn1 old hD;have st1 : tn 0 h1 := T.keep _ _ _ st fun b _ o e => old b o e
 obtain ⟨W, ⟨m0, w0⟩, turn⟩ := hW _ I.fresh;have fpB : ∀ {H' : Hp}, (∀ b ∈ fp, H' b = none) → ∀ b ∈ fp, jS (cxB X (own ++ outs.map (·.2)) scope s H (s.heap.objs.size + 1) fp pins) [] H' b := fun hn b hb => by
  obtain ⟨o, eo⟩ := fo b hb;refine ⟨hn b hb, Nat.ne_of_lt (Nat.lt_succ_of_lt (Heap.lt_size eo)), I1.ok.exfs b hb, .inl hb, fun x c e => (I1.ok.exf b hb).2 x c e, fun p hp => ?_⟩
  have hp' : p ∈ X.pn ++ pins := by
   have : p ∈ (X.pn ++ pins) ++ [] := hp
   simpa using this
  exact (f2 b hb).2.2.2.2.2 p hp'
 have loop : ∀ s0 : Shared, s0 = { s with heap := h1, toks := s.toks + ([] : List (Str × Value)).length } →
   codeAny (model X.prog X.w) X.A (.compLoop (.ListComp elt [⟨tg, iter, ifs, 0⟩] scope pos) 0 (.ref it) (.ref s.heap.objs.size) (compEnvC scope (frees X.env scope.names []) (s.heap.objs.size + 1) X.env)) (RR (.ref s.heap.objs.size) (s.heap.objs.size + 1)) s0 := by
  rintro s0 rfl;refine mO (fun n s' => ∃ i acc H', Inv (cxB X (own ++ outs.map (·.2)) scope s H (s.heap.objs.size + 1) fp pins) [] (slots own.length outs σ) H' s' ∧ tn i s'.heap ∧ (∀ b ∈ fp, H' b = none) ∧ W i n acc H') ?_ m0
   ⟨0, [], _, I1, st1, fun b hb => ?_, w0⟩
  ·rintro n s3 ⟨i, acc, H3, I3, st3, fr3, w3⟩
   rcases turn i n acc H3 w3 with ⟨stop, q⟩ | ⟨go, N, hN, step⟩
   ·refine thn (T.done (cxB X (own ++ outs.map (·.2)) scope s H (s.heap.objs.size + 1) fp pins) rfl rfl rfl hcalm i [] s3 _ H3 (fun _ _ => False) I3 (fpB fr3) st3 stop) fun r s4 ⟨hr, I4⟩ => ?_
    subst hr;have IX : Inv X pins σ H3 s4 := I.call' (ch := fp) I4.os I4.base I4.hok I4.bare fun b hb => ⟨(f2 b hb).2.2.2.1, (f2 b hb).2.1, (f2 b hb).2.2.2.2.1, (f2 b hb).2.2.2.2.2⟩
    obtain ⟨m4, hn4, _⟩ := I4.loc;exact fin _ _ H3 s4 m4 IX (I.fpOk (Nat.le_succ _) I4.free) hn4 q
   ·refine thn (T.item (cxB X (own ++ outs.map (·.2)) scope s H (s.heap.objs.size + 1) fp pins) rfl rfl rfl hcalm i [] s3 _ H3 (fun _ _ => False) I3 (fpB fr3) st3 go) fun r s4 ⟨u, hr, h4⟩ => ?_
    subst hr;refine thn h4 fun _ s5 ⟨x, H5, I5, r5, y5, st5, fr5⟩ => ?_
    have I5' := I5.pinned (fpB fr5) (T.obj _ _ st5);have back : ∀ {σ6 : St} {H6 : Hp} {s6 : Shared} {acc' : List V}, Inv (cxB X (own ++ outs.map (·.2)) scope s H (s.heap.objs.size + 1) fp pins) ([] ++ kK fp s5.heap) σ6 H6 s6 → gq (slots own.length outs σ) σ6 → N acc' H6 →
      ∃ m, m < n ∧ ∃ i acc H', Inv (cxB X (own ++ outs.map (·.2)) scope s H (s.heap.objs.size + 1) fp pins) [] (slots own.length outs σ) H' s6 ∧ tn i s6.heap ∧ (∀ b ∈ fp, H' b = none) ∧ W i m acc H' := fun {σ6 H6 s6 acc'} I6 hs hn6 => by
     obtain ⟨m', hm, hw⟩ := hN acc' H6 hn6;refine ⟨m', hm, i + 1, acc', H6, I6.unpinned.weak hs.len fun j v e => hs.get e, T.keep _ _ _ st5 fun b hb o e => (I6.pin (b, o) (List.mem_append_right _ (List.mem_append_right _ (gW hb e)))).1, fun b hb => ?_, hw⟩
     obtain ⟨o, e, _⟩ := T.obj _ _ st5 b hb;exact (I6.pin (b, o) (List.mem_append_right _ (List.mem_append_right _ (gW hb e)))).2.1
    refine thn (hg s H _ fp pins _ s5 _ H5 x u _ I5' r5 (step x H5 y5)) fun _ s6 ⟨σ6, H6, I6, hs6, q6⟩ => ?_
    refine thn (hc s H _ fp pins _ s6 σ6 H6 _ I6 q6) fun b s7 ⟨H7, I7, q7⟩ => ?_
    cases b with
    | false =>
     exact back I7 hs6 q7
    | true =>
     refine thn (he s H _ fp pins _ s7 σ6 H7 _ I7 q7) fun yv s8 ⟨y, H8, I8, r8, hd8, hl8, hw⟩ => ?_
     refine thn (lV _ s8 σ6 H8 (.ref s.heap.objs.size) [y] (.ref s.heap.objs.size) [yv] (fun _ H9 => H9 = upd H8 s.heap.objs.size (.lst (acc ++ [y]))) I8 rfl (.cons r8 .nil) ⟨_, acc, y, rfl, rfl, hd8, hl8, rfl⟩) fun z s9 ⟨zv, H9, I9, _, q9⟩ => ?_
     subst q9;exact back I9 hs6 hw
  ·obtain ⟨o, eo⟩ := fo b hb
   rw [aQ (Nat.ne_of_lt (Heap.lt_size eo))];exact (f2 b hb).1
 exact codeAny_compStart_list (loop _ rfl) (T.self X.A 0 _ _ _ st1 (loop _ rfl))
noncomputable def rM (wi : TI) (g : TG) (tc : TT) (te : TE) (k : Nat) (outs : List (Nat × Str)) : TE := fun σ H Q => wi σ H fun J H1 => ∀ D, H1 D = none → Bm J g tc te (slots k outs σ) D H1 fun H' => Q (.ref D) H'
theorem vS {wi : TI} (own : List Str) (B : Blk X sc scope outs) (hcalm : X.calm = true) (hi : PI X tg iter wi)
  (hg : ∀ s H C ex pins, PG (cxB X (own ++ outs.map (·.2)) scope s H C ex pins) tg g) (hc : ∀ s H C ex pins, PF (cxB X (own ++ outs.map (·.2)) scope s H C ex pins) ifs tc) (he : ∀ s H C ex pins, PE (cxB X (own ++ outs.map (·.2)) scope s H C ex pins) elt te)
  (hs : ∀ x, foldedSetIterable iter X.env x = pure x := by intro _; rfl) : PE X (.ListComp elt [⟨tg, iter, ifs, 0⟩] scope pos) (rM wi g tc te own.length outs) := by
 intro pins s σ H Q I h;rw [eval_ListComp];refine wpAny_comprehension_free (use := none) rfl hs (kX (kF B I)) B.kind B.loc ?_;refine thn (hi pins s σ H _ I h) fun v s1 h1 => thn h1 fun itv s2 h2 => ?_
 obtain ⟨it, fp, tn, J, H2, e, I2, T, st2, f2, hW⟩ := h2;subst e;refine qr (RR := fun acc C => compPost (model X.prog X.w) X.A X.xe none (EP X pins σ Q) acc C) B hcalm hg hc he I2 T st2 f2 hW ?_
 intro D C H' s' m I' hC hn q;refine ⟨m, hn, fun h' hs' => ?_⟩
 obtain ⟨c0, c1, c2, c3, c4, c5⟩ := hC;exact ⟨.ref D, H', I'.turned (t' := s'.toks) (fun b o hb e => (hs'.2 b hb).trans e) c0 c1 c3 c4 c5, rfl, q⟩
theorem vk {wi : TI} {i : Nat} {x : Str} {pos' spos : Pos} (own : List Str) (hN : X.N.Nodup) (hix : X.N[i]? = some x) (hx : Loc X.env.scope x) (B : Blk X sc scope outs) (hcalm : X.calm = true) (hi : PI X tg iter wi)
  (hg : ∀ s H C ex pins, PG (cxB X (own ++ outs.map (·.2)) scope s H C ex pins) tg g) (hc : ∀ s H C ex pins, PF (cxB X (own ++ outs.map (·.2)) scope s H C ex pins) ifs tc) (he : ∀ s H C ex pins, PE (cxB X (own ++ outs.map (·.2)) scope s H C ex pins) elt te)
  (hsw : swapsWith (.ListComp elt [⟨tg, iter, ifs, 0⟩] scope pos) (some (.Name x pos')) spos.line X.env = pure true := by rfl)
  (hs : ∀ x, foldedSetIterable iter X.env x = pure x := by intro _; rfl) (hf : X.fn x = true ∨ X.env.scope.names.lookup x = some .local := by first | exact .inl rfl | exact .inr rfl | assumption) :
  PS X (.Assign [.Name x pos'] (.ListComp elt [⟨tg, iter, ifs, 0⟩] scope pos) spos) (wm (rM wi g tc te own.length outs) (oj i)) := by
 intro pins s σ H D0 I h;rw [exec_Assign_Name_used _ _ _ _ hsw];refine wpAny_bind (wpAny_standAt (wpAny_bind ?_));show wpAny _ X.A (do let _ ← comprehension (.ListComp elt [⟨tg, iter, ifs, 0⟩] scope pos) scope X.env _ (newList []) false (eval iter X.env) (some (assign (.Name x pos') X.env))) _ _ s
 refine wpAny_bind (thn (wpAny_comprehension_free (use := some (assign (.Name x pos') X.env)) (Q := fun _ s' => SP X pins D0 .next s') rfl hs (kX (kF B I)) B.kind B.loc ?_) fun _ s' hq => wpAny_pure (wpAny_pure hq))
 refine thn (hi pins s σ H _ I h) fun v s1 h1 => thn h1 fun itv s2 h2 => ?_
 obtain ⟨it, fp, tn, J, H2, e, I2, T, st2, f2, hW⟩ := h2;subst e;refine qr (RR := fun acc C => compPost (model X.prog X.w) X.A X.xe (some (assign (.Name x pos') X.env)) (fun _ s' => SP X pins D0 .next s') acc C) B hcalm hg hc he I2 T st2 f2 hW ?_
 intro D C H' s' m I' hC hn q;obtain ⟨c0, c1, c2, c3, c4, c5⟩ := hC;obtain ⟨oC, es, ep, hoC, hdC, hr⟩ := id hn;have IC : Inv X (pins ++ [(C, oC)]) σ H' s' := I'.pins_of fun p hp => (List.mem_append.mp hp).elim (fun z => I'.pin p (List.mem_append_right _ z)) fun z => by
  have ep : p = (C, oC) := by simpa using z
  subst ep;exact ⟨hoC, c0, c1, c2, fun v z => by rw [hdC] at z; cases z⟩
 show wpAny _ X.A (assign (.Name x pos') X.env (.ref D)) _ _ s'
 refine wpAny_assign_Name (hX (v := .ref D) IC hN hix hx rfl (fun s3 I3 => ?_) hf)
 have hC3 : s3.heap.get? C = some oC := (I3.pin (C, oC) (List.mem_append_right _ (List.mem_append_right _ (by simp)))).1
 refine ⟨m, ⟨oC, es, ep, hC3, hdC, hr⟩, fun h' hs' => ?_⟩
 exact ⟨_, H', I3.unpinned.turned (t' := s3.toks) (fun b o hb e => (hs'.2 b hb).trans e) c0 c1 c3 c4 c5, q⟩
end
end L2
namespace L2
open PySem PySem.Spec PyProof.Rows
theorem n_ {X : Cx} {pins : List (Addr × Obj)} {σ : St} {H : Hp} {s : Shared} {ch : List Addr} {T : Addr} {o : HO} {h' : Heap} {t' : Nat} (I : Inv X pins σ H s) (hch : ∀ b ∈ ch, jS X pins H b) (k : ∀ b u, b ∉ ch → s.heap.get? b = some u → h'.get? b = some u)
  (hT : s.heap.objs.size ≤ T) (new : dw X.prog X.w (upd H T o) h' T o) : Inv X pins σ (upd H T o) { s with heap := h', toks := t' } := by
 have hn : H T = none := I.hok.fresh hT;have nch : ∀ b u, H b = some u → b ∉ ch := fun b u e z => by
  rw [(hch b z).1] at e;cases e
 have lt : ∀ b u, s.heap.get? b = some u → b ≠ T := fun b u e => Nat.ne_of_lt (Nat.lt_of_lt_of_le (Heap.lt_size e) hT)
 refine I.step (g' := s.gens) (d' := s.drawn) (ch := ch) (fun b hb => ?_) (fun b u _ _ hc e _ => k b u hc e) (fun b u _ _ hc e _ => ⟨u.slots, k b u hc e⟩) (fun b u _ e n => by rw [aQ (lt b u e)]; exact n)
  (fun b u hc e => ⟨u, k b u hc e⟩) (fun b xs e => by rw [aQ (a9 e hn)]; exact e) (fun b u v e => by rw [aQ (a9 e hn)]; exact e) (fun b ps e => ⟨#[], by rw [aQ (a9 e hn), e]; simp⟩) (fun m hm => ?_) (fun b u e => ?_) I.bare
 ·obtain ⟨f0, f1, f2, f3, f4, f5⟩ := hch b hb
  exact ⟨f3, f1, f4, f5⟩
 ·obtain ⟨oL, es, ep, ho, r⟩ := hm
  exact ⟨oL, es, ep, k _ oL (fun z => (hch _ z).2.1 rfl) ho, r⟩
 ·by_cases hb : b = T
  ·subst hb
   rw [cm] at e;cases e;exact new
  ·rw [aQ hb] at e
   refine (I.hok b u e).stay (fun c v hc q => k c v ?_ q) (fun c q => by rw [aQ (a9 q hn)]; exact q) fun c xs q => by rw [aQ (a9 q hn)]; exact q
   rcases hc with z | z
   ·rw [z]
    exact nch b u e
   ·exact nch c _ z
theorem qc {X : Cx} {pins : List (Addr × Obj)} {σ : St} {H : Hp} {s : Shared} {ch : List Addr} {h' : Heap} {t' : Nat} (I : Inv X pins σ H s) (hch : ∀ b ∈ ch, jS X pins H b) (k : ∀ b u, b ∉ ch → s.heap.get? b = some u → h'.get? b = some u) :
  Inv X pins σ H { s with heap := h', toks := t' } := by
 have nch : ∀ b u, H b = some u → b ∉ ch := fun b u e z => by
  rw [(hch b z).1] at e;cases e
 refine I.step (g' := s.gens) (d' := s.drawn) (ch := ch) (fun b hb => ?_) (fun b u _ _ hc e _ => k b u hc e) (fun b u _ _ hc e _ => ⟨u.slots, k b u hc e⟩) (fun _ _ _ _ n => n)
  (fun b u hc e => ⟨u, k b u hc e⟩) (fun _ _ e => e) (fun _ _ _ e => e) (fun b ps e => ⟨#[], by rw [e]; simp⟩) (fun m hm => ?_) (fun b u e => ?_) I.bare
 ·obtain ⟨f0, f1, f2, f3, f4, f5⟩ := hch b hb
  exact ⟨f3, f1, f4, f5⟩
 ·obtain ⟨oL, es, ep, ho, r⟩ := hm
  exact ⟨oL, es, ep, k _ oL (fun z => (hch _ z).2.1 rfl) ho, r⟩
 ·refine (I.hok b u e).stay (fun c v hc q => k c v ?_ q) (fun _ q => q) fun _ _ q => q
  rcases hc with z | z
  ·rw [z]
   exact nch b u e
  ·exact nch c _ z
noncomputable def Ite (K : PySem.W.Frag) (a : Addr) : It :=
 ⟨fun i H => ∃ xs x, SqL K H a xs ∧ xs[i]? = some x, fun i H x H' => ∃ T y, H T = none ∧ x = .ref T ∧ H' = upd H T (.tup [.int i, y]) ∧ ∀ xs, SqL K H a xs → xs[i]? = some y, fun i H => ∃ xs, SqL K H a xs ∧ xs.length ≤ i⟩
theorem q_ {P : Program} {w : World} {K : PySem.W.Frag} {es : List Expr} {k : Nat} {pos : Pos} (a e it : Addr) (hne : e ≠ it) :
  Turn P w K (.Tuple es k pos) (Ite K a) [e, it] e (fun i h => (∃ old, IsEnum h e it i old) ∧ h.IsListIter it a i) where
 mem := by simp
 obj := fun i h st b hb => by
  obtain ⟨⟨old, he⟩, o, eo, c, d⟩ := st;have hb' : b = e ∨ b = it := by simpa using hb
  rcases hb' with z | z
  ·subst z
   exact ⟨_, he, fun v z => by cases z⟩
  ·subst z
   exact ⟨o, eo, fun v z => by rw [d] at z; cases z⟩
 keep := fun i h h' st kp => ⟨(let ⟨old, he⟩ := st.1; ⟨old, kp e (by simp) _ he⟩), st.2.at fun o eo => kp it (by simp) o eo⟩
 item := by
  intro X hP hw hK hc i pins s σ H E I hf st hg;subst hP hw hK;obtain ⟨xs, x, hq, hx⟩ := hg;obtain ⟨⟨old, he⟩, hit⟩ := st;obtain ⟨its, rv, p, hz⟩ := I.list hq;obtain ⟨u, hu, ru⟩ := rv.get hx;have elt : e < s.heap.objs.size := Heap.lt_size he;refine wpAny_pyNext_enum_item he hit p.isList (x := u) (by simpa using hu) hne fun h1 ho hit1 hT hsz hk => ?_
  refine ⟨_, rfl, wpAny_letOwnedTupleGo_enum ho fun h2 he2 hs2 => ?_⟩
  have kk : ∀ b v, b ∉ [e, it] → s.heap.get? b = some v → h2.get? b = some v := fun b v hb q => by
   have h1' : b ≠ e := fun z => hb (by simp [z])
   have h2' : b ≠ it := fun z => hb (by simp [z])
   exact (hs2.2 b h1').trans (hk b v h1' h2' q)
  have hT2 : h2.get? s.heap.objs.size = some { cls := .type "tuple", data := .seq #[.int i s.toks, u] } := (hs2.2 _ (Nat.ne_of_gt elt)).trans hT;refine ⟨.ref s.heap.objs.size, upd H s.heap.objs.size (.tup [.int i, x]), n_ (s := s) (h' := h2) (t' := s.toks + 1) I hf kk (Nat.le_refl _) ?_, rfl, ⟨_, x, I.fresh, rfl, rfl, fun ys hy => by rw [I.list_inj hy hq]; exact hx⟩, ⟨⟨_, he2⟩, ?_⟩, fun b hb => ?_⟩
  ·exact ⟨by show 2 ≤ sizeLine; decide, [.int i s.toks, u], .cons ⟨_, rfl⟩ (.cons ru .nil), _, hT2, rfl, _, rfl⟩
  ·exact hit1.at fun o eo => (hs2.2 it (Ne.symm hne)).trans eo
  ·obtain ⟨f0, f1, f2, f3, f4, f5⟩ := hf b hb
   have hb' : b = e ∨ b = it := by simpa using hb
   obtain ⟨oi, eoi, _⟩ := hit;have : b < s.heap.objs.size := by
    rcases hb' with z | z
    ·rw [z]; exact elt
    ·rw [z]; exact Heap.lt_size eoi
   rw [aQ (Nat.ne_of_lt this)];exact f0
 done := by
  intro X hP hw hK hc i pins s σ H E I hf st hg;subst hP hw hK;obtain ⟨xs, hq, hx⟩ := hg;obtain ⟨⟨old, he⟩, hit⟩ := st;obtain ⟨its, rv, p, hz⟩ := I.list hq;have hl := rv.length;refine wpAny_pyNext_enum_end (I.ok.hd hc) he hit p.isList (by simp; lia) fun h1 eb => ⟨rfl, qc (t' := s.toks) I hf fun b v hb q => eb b v (fun z => hb (by simp [z])) q⟩
 self := fun _ _ _ _ _ st h => (let ⟨old, he⟩ := st.1; wpAny_pyIter_enum he h)
noncomputable def xN (K : PySem.W.Frag) (ta : TA) : TI := fun σ H R => ta σ H fun vs H1 => ∃ a, vs = [.ref a] ∧ (∃ xs, SqL K H1 a xs) ∧ R (Ite K a) H1
theorem jW : bootBuiltins "enumerate" = some (.type "enumerate") := by decide +kernel
theorem rE : bootBuiltins "zip" = some (.type "zip") := by decide +kernel
theorem wX {X : Cx} {es : List Expr} {k : Nat} {a : Expr} {ta : TA} {p pos tpos : Pos} (hg : Gl X "enumerate") (hm : X.mg "enumerate" = none) (ha : PA X [a] ta) (hs : starEach [a] X.env = [(false, eval a X.env)] := by rfl) :
  PI X (.Tuple es k tpos) (.Call (.Name "enumerate" p) [a] [] pos) (xN X.K ta) := by
 intro pins s σ H R I h;refine Call_ (iO I hg hm jW (PyProof.Rows.callWith_type1 (thn (ha pos pins s σ H _ I h) fun us s1 ⟨vs, H1, I1, r1, q1⟩ => ?_) hs rfl))
 obtain ⟨l, e, ⟨xs, hq⟩, q⟩ := q1;subst e;obtain ⟨u, rfl, ru⟩ := Vals.one r1;cases ru;obtain ⟨its, rv, pl, hz⟩ := I1.list hq;refine call_enumerate_list pl.isList fun h1 he hit hsz hk => ?_
 refine wpAny_pyIter_enum he ?_;have I2 : Inv X pins σ H1 { s1 with heap := h1 } := I1.kept (t' := s1.toks) hk
 refine ⟨s1.heap.objs.size + 1, [s1.heap.objs.size + 1, s1.heap.objs.size], _, Ite X.K l, H1, rfl, I2, q_ l _ _ (Nat.succ_ne_self _), ⟨⟨_, he⟩, hit⟩, fun b hb => ?_, q⟩
 have hb' : b = s1.heap.objs.size + 1 ∨ b = s1.heap.objs.size := by simpa using hb
 rcases hb' with z | z
 ·subst z
  exact I1.fpOk (Nat.le_succ _) (I1.hok.fresh (Nat.le_succ _))
 ·subst z
  exact I1.fpOk (Nat.le_refl _) (I1.hok.fresh (Nat.le_refl _))
noncomputable def Itz (K : PySem.W.Frag) (a b : Addr) : It :=
 ⟨fun i H => ∃ xs x ys y, SqL K H a xs ∧ xs[i]? = some x ∧ SqL K H b ys ∧ ys[i]? = some y, fun i H v H' => ∃ T x y, H T = none ∧ v = .ref T ∧ H' = upd H T (.tup [x, y]) ∧ (∀ xs, SqL K H a xs → xs[i]? = some x) ∧ ∀ ys, SqL K H b ys → ys[i]? = some y,
  fun i H => ∃ xs ys, SqL K H a xs ∧ SqL K H b ys ∧ (xs.length ≤ i ∨ ys.length ≤ i)⟩
theorem ud {P : Program} {w : World} {K : PySem.W.Frag} {es : List Expr} {k : Nat} {pos : Pos} (a b z TI TO i1 i2 : Addr) (z1 : z ≠ TI ∧ z ≠ TO ∧ z ≠ i1 ∧ z ≠ i2) (z2 : TI ≠ TO ∧ TI ≠ i1 ∧ TI ≠ i2) (z3 : TO ≠ i1 ∧ TO ≠ i2) (z4 : i1 ≠ i2)
  (z5 : a ≠ z ∧ a ≠ TO ∧ a ≠ i1 ∧ a ≠ i2) (z6 : b ≠ z ∧ b ≠ TO ∧ b ≠ i1 ∧ b ≠ i2) :
  Turn P w K (.Tuple es k pos) (Itz K a b) [z, TI, TO, i1, i2] z (fun i h => IsZip h z TI TO .none ∧ IsPair h TI (.ref i1) (.ref i2) ∧ (∃ u v, IsPair h TO u v) ∧ h.IsListIter i1 a i ∧ h.IsListIter i2 b i) := by
 have D : ZipApart z TI TO i1 i2 a b := ⟨Ne.symm z1.1, Ne.symm z1.2.1, Ne.symm z1.2.2.1, Ne.symm z1.2.2.2, z2.1, z2.2.1, z2.2.2, z3.1, z3.2, z4, z5.1, z5.2.1, z5.2.2.1, z5.2.2.2, z6.1, z6.2.1, z6.2.2.1, z6.2.2.2⟩;have mem5 : ∀ c, c ∈ [z, TI, TO, i1, i2] → c = z ∨ c = TI ∨ c = TO ∨ c = i1 ∨ c = i2 := fun c hc => by simpa using hc
 constructor
 ·simp
 ·intro i h st c hc
  obtain ⟨hz, hTI, ⟨u, v, hTO⟩, ⟨o1, e1, c1, d1⟩, o2, e2, c2, d2⟩ := st;rcases mem5 c hc with rfl | rfl | rfl | rfl | rfl
  ·exact ⟨_, hz, fun v z => by cases z⟩
  ·exact ⟨_, hTI, fun v z => by cases z⟩
  ·exact ⟨_, hTO, fun v z => by cases z⟩
  ·exact ⟨o1, e1, fun v z => by rw [d1] at z; cases z⟩
  ·exact ⟨o2, e2, fun v z => by rw [d2] at z; cases z⟩
 ·intro i h h' st kp
  obtain ⟨hz, hTI, ⟨u, v, hTO⟩, h1, h2⟩ := st;exact ⟨kp z (by simp) _ hz, kp TI (by simp) _ hTI, ⟨u, v, kp TO (by simp) _ hTO⟩, h1.at fun o e => kp i1 (by simp) o e, h2.at fun o e => kp i2 (by simp) o e⟩
 ·intro X hP hw hK hc i pins s σ H E I hf st hg
  subst hP hw hK;obtain ⟨xs, x, ys, y, hq, hx, hr, hy⟩ := hg;obtain ⟨hz, hTI, ⟨u, v, hTO⟩, h1, h2⟩ := st;obtain ⟨its, rv, p, _⟩ := I.list hq;obtain ⟨its2, rv2, p2, _⟩ := I.list hr;obtain ⟨ux, hux, rux⟩ := rv.get hx;obtain ⟨uy, huy, ruy⟩ := rv2.get hy;refine wpAny_pyNext_zip_item D hz hTI hTO h1 h2 p.isList p2.isList (x := ux) (y := uy) (by simpa using hux) (by simpa using huy) fun h3 a1 a2 a3 a4 a5 a6 hk => ?_
  have zlt : z < s.heap.objs.size := Heap.lt_size hz;refine ⟨_, rfl, wpAny_letOwnedTupleGo_zip a1 fun h4 hz4 hs4 => ?_⟩
  have kk : ∀ c w', c ∉ [z, TI, TO, i1, i2] → s.heap.get? c = some w' → h4.get? c = some w' := fun c w' hc q => by
   have n1 : c ≠ z := fun e => hc (by simp [e])
   have n2 : c ≠ TO := fun e => hc (by simp [e])
   have n3 : c ≠ i1 := fun e => hc (by simp [e])
   have n4 : c ≠ i2 := fun e => hc (by simp [e])
   exact (hs4.2 c n1).trans (hk c w' n1 n2 n3 n4 q)
  have hT4 : IsPair h4 s.heap.objs.size ux uy := (hs4.2 _ (Nat.ne_of_gt zlt)).trans a5;have hTI4 : IsPair h4 TI (.ref i1) (.ref i2) := (hs4.2 _ (Ne.symm z1.1)).trans (hk _ _ (Ne.symm z1.1) z2.1 z2.2.1 z2.2.2 hTI);refine ⟨.ref s.heap.objs.size, upd H s.heap.objs.size (.tup [x, y]), n_ (s := s) (h' := h4) (t' := s.toks) I hf kk (Nat.le_refl _) ?_, rfl, ⟨_, x, y, I.fresh, rfl, rfl, fun zs hzs => by rw [I.list_inj hzs hq]; exact hx, fun zs hzs => by rw [I.list_inj hzs hr]; exact hy⟩,
   ⟨hz4, hTI4, ⟨ux, uy, (hs4.2 _ (Ne.symm z1.2.1)).trans a2⟩, a3.at fun o e => (hs4.2 _ (Ne.symm z1.2.2.1)).trans e, a4.at fun o e => (hs4.2 _ (Ne.symm z1.2.2.2)).trans e⟩, fun c hc => ?_⟩
  ·exact ⟨by show 2 ≤ sizeLine; decide, [ux, uy], .cons rux (.cons ruy .nil), _, hT4, rfl, _, rfl⟩
  ·have clt : c < s.heap.objs.size := by
    obtain ⟨o1, e1, _⟩ := h1;obtain ⟨o2, e2, _⟩ := h2;rcases mem5 c hc with rfl | rfl | rfl | rfl | rfl
    ·exact zlt
    ·exact Heap.lt_size hTI
    ·exact Heap.lt_size hTO
    ·exact Heap.lt_size e1
    ·exact Heap.lt_size e2
   rw [aQ (Nat.ne_of_lt clt)];exact (hf c hc).1
 ·intro X hP hw hK hc i pins s σ H E I hf st hg
  subst hP hw hK;obtain ⟨xs, ys, hq, hr, hx⟩ := hg;obtain ⟨hz, hTI, ⟨u, v, hTO⟩, h1, h2⟩ := st;obtain ⟨its, rv, p, _⟩ := I.list hq;obtain ⟨its2, rv2, p2, _⟩ := I.list hr;have l1 := rv.length;have l2 := rv2.length;refine wpAny_pyNext_zip_end (I.ok.hd hc) D hz hTI hTO h1 h2 p.isList p2.isList (by simp; lia) fun h3 hk => ⟨rfl, qc (t' := s.toks) I hf fun c w' hc q => hk c w' (fun e => hc (by simp [e])) (fun e => hc (by simp [e])) (fun e => hc (by simp [e])) (fun e => hc (by simp [e])) q⟩
 ·intro A i s Q E st h
  exact wpAny_pyIter_zip st.1 h
theorem neA {a b : Nat} (h : a ≠ b) : @Ne Addr a b := h
noncomputable def Bh (K : PySem.W.Frag) (ta : TA) : TI := fun σ H R => ta σ H fun vs H1 => ∃ a b, vs = [.ref a, .ref b] ∧ (∃ xs, SqL K H1 a xs) ∧ (∃ ys, SqL K H1 b ys) ∧ R (Itz K a b) H1
theorem yr {X : Cx} {es : List Expr} {k : Nat} {a b : Expr} {ta : TA} {p pos tpos : Pos} (hg : Gl X "zip") (hm : X.mg "zip" = none) (ha : PA X [a, b] ta) (hs : starEach [a, b] X.env = [(false, eval a X.env), (false, eval b X.env)] := by rfl) (hs2 : starEach [b] X.env = [(false, eval b X.env)] := by rfl) :
  PI X (.Tuple es k tpos) (.Call (.Name "zip" p) [a, b] [] pos) (Bh X.K ta) := by
 intro pins s σ H R I h;refine Call_ (iO I hg hm rE (PyProof.Rows.callWith_type1 (thn (ha pos pins s σ H _ I h) fun us s1 ⟨vs, H1, I1, r1, q1⟩ => ?_) (by rw [hs, hs2]) (by rw [hs2]; rfl)))
 obtain ⟨l, l', e, ⟨xs, hq⟩, ⟨ys, hr⟩, q⟩ := q1;subst e;obtain ⟨u, v, rfl, ru, rv'⟩ := Vals.two r1;cases ru;cases rv';obtain ⟨its, rv, pl, hz⟩ := I1.list hq;obtain ⟨its2, rv2, pl2, hz2⟩ := I1.list hr;have lt1 : @LT.lt Nat instLTNat l s1.heap.objs.size := (let ⟨o, e, _⟩ := pl.isList; Heap.lt_size e);have lt2 : @LT.lt Nat instLTNat l' s1.heap.objs.size := (let ⟨o, e, _⟩ := pl2.isList; Heap.lt_size e);refine call_zip_2 pl.isList pl2.isList fun h1 a1 a2 a3 a4 a5 a6 hk => ?_
 refine wpAny_pyIter_zip a1 ?_;have I2 : Inv X pins σ H1 { s1 with heap := h1 } := I1.kept (t' := s1.toks) hk
 refine ⟨s1.heap.objs.size + 4, [s1.heap.objs.size + 4, s1.heap.objs.size + 2, s1.heap.objs.size + 3, s1.heap.objs.size, s1.heap.objs.size + 1], _, Itz X.K l l', H1, rfl, I2,
  ud l l' (s1.heap.objs.size + 4) (s1.heap.objs.size + 2) (s1.heap.objs.size + 3) s1.heap.objs.size (s1.heap.objs.size + 1) ⟨neA (by lia), neA (by lia), neA (by lia), neA (by lia)⟩ ⟨neA (by lia), neA (by lia), neA (by lia)⟩ ⟨neA (by lia), neA (by lia)⟩ (neA (by lia)) ⟨neA (by lia), neA (by lia), neA (by lia), neA (by lia)⟩ ⟨neA (by lia), neA (by lia), neA (by lia), neA (by lia)⟩, ⟨a1, a2, ⟨_, _, a3⟩, a4, a5⟩, fun c hc => ?_, q⟩
 have hc' : @LE.le Nat instLENat s1.heap.objs.size c := by
  have hc2 : @Eq Nat c (s1.heap.objs.size + 4) ∨ @Eq Nat c (s1.heap.objs.size + 2) ∨ @Eq Nat c (s1.heap.objs.size + 3) ∨ @Eq Nat c s1.heap.objs.size ∨ @Eq Nat c (s1.heap.objs.size + 1) := by simpa using hc
  lia
 exact I1.fpOk hc' (I1.hok.fresh hc')
mutual
inductive Rep (K : PySem.W.Frag) (H : Hp) : V → PyData → Prop
 | non : Rep K H .non .none
 | bl (b : Bool) : Rep K H (.bl b) (.bool b)
 | int (i : Int) : Rep K H (.int i) (.int i)
 | str (x : Str) : Rep K H (.str x) (.str x)
 | lst {a : Addr} {xs : List V} {ds : List PyData} : SqL K H a xs → RepAll K H xs ds → Rep K H (.ref a) (.list ds)
 | tup {a : Addr} {xs : List V} {ds : List PyData} : SqT K H a xs → RepAll K H xs ds → Rep K H (.ref a) (.tuple ds)
inductive RepAll (K : PySem.W.Frag) (H : Hp) : List V → List PyData → Prop
 | nil : RepAll K H [] []
 | cons {v : V} {vs : List V} {d : PyData} {ds : List PyData} : Rep K H v d → RepAll K H vs ds → RepAll K H (v :: vs) (d :: ds)
end
theorem Bf {K : PySem.W.Frag} {H H' : Hp} {a : Addr} {xs : List V} (e : aN H H') (h : SqT K H a xs) : SqT K H' a xs := by
 rcases h with (h | ⟨o, h⟩) | h
 ·exact .inl (.inl (e _ _ h))
 ·exact .inl (.inr ⟨o, e _ _ h⟩)
 ·exact .inr h
mutual
theorem Rep.same {K : PySem.W.Frag} {H H' : Hp} (e : aN H H') {v : V} {d : PyData} : Rep K H v d → Rep K H' v d
 | .non => .non
 | .bl b => .bl b
 | .int i => .int i
 | .str x => .str x
 | .lst h r => .lst (e.seq h) (RepAll.same e r)
 | .tup h r => .tup (Bf e h) (RepAll.same e r)
theorem RepAll.same {K : PySem.W.Frag} {H H' : Hp} (e : aN H H') {vs : List V} {ds : List PyData} : RepAll K H vs ds → RepAll K H' vs ds
 | .nil => .nil
 | .cons h r => .cons (Rep.same e h) (RepAll.same e r)
end
mutual
theorem Rep.reads {X : Cx} {pins : List (Addr × Obj)} {σ : St} {H : Hp} {s : Shared} (I : Inv X pins σ H s) {v : V} {d : PyData} : ∀ {u : Value}, Rep X.K H v d → RelV v u → ∃ as, Reads s.heap u d as
 | _, .non, r => by
  cases r;exact ⟨_, .none⟩
 | _, .bl b, r => by
  cases r;exact ⟨_, .bool b⟩
 | _, .int i, r => by
  obtain ⟨t, rfl⟩ := r;exact ⟨_, .int i t⟩
 | _, .str x, r => by
  obtain ⟨t, rfl⟩ := r;exact ⟨_, .str x t⟩
 | _, .lst h ra, r => by
  cases r;obtain ⟨its, rv, pl, hz⟩ := I.list h;obtain ⟨as, ha⟩ := RepAll.reads I ra rv;obtain ⟨o, e, c, n, dd⟩ := pl.isList;exact ⟨_, .list e c dd (by simpa using ha)⟩
 | _, .tup h ra, r => by
  cases r;obtain ⟨its, rv, pl, hz⟩ := I.tuple h;obtain ⟨as, ha⟩ := RepAll.reads I ra rv;obtain ⟨o, e, c, n, dd⟩ := (show s.heap.IsTuple _ its.toArray from pl)
  exact ⟨_, .tuple e c dd (by simpa using ha)⟩
theorem RepAll.reads {X : Cx} {pins : List (Addr × Obj)} {σ : St} {H : Hp} {s : Shared} (I : Inv X pins σ H s) {vs : List V} {ds : List PyData} : ∀ {us : List Value}, RepAll X.K H vs ds → Vals vs us → ∃ as, ReadsAll s.heap us ds as
 | _, .nil, .nil => ⟨_, .nil⟩
 | _, .cons h r, .cons q t => by
  obtain ⟨as, ha⟩ := Rep.reads I h q;obtain ⟨bs, hb⟩ := RepAll.reads I r t;exact ⟨_, .cons ha hb⟩
end
noncomputable def Cd (K : PySem.W.Frag) : R2 := fun x y H Q => ∃ d e, Rep K H x d ∧ Rep K H y e ∧ SeqAt.shaped d = true ∧ SeqAt.shaped e = true ∧ Q (.bl (PyData.eqv d e)) H
noncomputable def Dz (K : PySem.W.Frag) : R2 := fun x y H Q => ∃ d e, Rep K H x d ∧ Rep K H y e ∧ SeqAt.shaped d = true ∧ SeqAt.shaped e = true ∧ Q (.bl (!PyData.eqv d e)) H
theorem AE {X : Cx} (hu : X.A.units + 64 < cLine) : OpR X (compareOp .Eq) (Cd X.K) := by
 intro pins s σ H x y v u Q I rx ry h;obtain ⟨d, e, h1, h2, s1, s2, q⟩ := h;obtain ⟨as, r1⟩ := h1.reads I rx;obtain ⟨bs, r2⟩ := h2.reads I ry;exact eq_dataH r1 r2 s1 s2 hu ⟨.bl _, H, I, rfl, q⟩
theorem zG {X : Cx} (hu : X.A.units + 64 < cLine) : OpR X (compareOp .NotEq) (Dz X.K) := by
 intro pins s σ H x y v u Q I rx ry h;obtain ⟨d, e, h1, h2, s1, s2, q⟩ := h;obtain ⟨as, r1⟩ := h1.reads I rx;obtain ⟨bs, r2⟩ := h2.reads I ry;exact ne_dataH r1 r2 s1 s2 hu ⟨.bl _, H, I, rfl, q⟩
theorem dG : bootBuiltins "isinstance" = some (.builtin "isinstance") := by decide +kernel
theorem qB {X : Cx} (hc : X.calm = true) : ee X (.builtin "max") (fun xs H Q => ∃ (a : Addr) (ns : List Int), xs = [.ref a] ∧ SqL X.K H a (ns.map V.int) ∧ 0 < ns.length ∧ ∀ M, M ∈ ns → (∀ z, z ∈ ns → z ≤ M) → Q (.int M) H) := by
 intro pins s σ H xs us Q I r h;obtain ⟨a, ns, rfl, hq, hl, q⟩ := h;obtain ⟨u, rfl, ru⟩ := Vals.one r;cases ru;obtain ⟨its, rv, pl, hz⟩ := I.list hq;have hi : IntsAre its ns := intsAre_of rv;obtain ⟨ys, e⟩ := hi.allInts.items;have hns : ns = ys.toList.map (·.1) := by
  rw [← hi.numsOf, ← nums_intItems, ← e]
 have hsz : 0 < ys.size := by
  have h3 := hl;rw [hns, List.length_map, Array.length_toList] at h3;exact h3
 have hL := pl.isList;rw [e] at hL;refine max_intList (I.ok.hd hc) hL hsz fun v h' tk hv hk => ?_
 obtain ⟨t, rfl⟩ := intItems_at hv;obtain ⟨h1, h2⟩ := argBest_gt (numAt ys) (ys.size - 1);refine ⟨.int _, H, I.kept hk, ⟨t, rfl⟩, q _ ?_ fun z hzz => ?_⟩
 ·rw [hns, numAt_eq]
  exact getD_mem (by rw [List.length_map, Array.length_toList]; lia)
 ·rw [hns] at hzz
  obtain ⟨j, hj, rfl⟩ := mem_getD hzz;rw [List.length_map, Array.length_toList] at hj;rw [← numAt_eq];exact h2 j (by lia)
end L2
namespace L2
open PySem PySem.Spec PyProof.Rows
section
variable {g : TG} {tc : TT} {te : TE} {σ0 : St} {D : Addr} {H1 : Hp} {Q : Hp → Prop}
end
structure Def (K : PySem.W.Frag) (mg : Str → Option Value) (x : Str) (st : Stmt) (ps : List Str) (f : Addr) (fd : FuncData) : Prop where
 F : Fun K x x st f fd
 g : mg x = some (.ref f)
 b : Binds K fd ps []
theorem aN.upd {H H' : Hp} {a : Addr} {o : HO} (e : aN H H') (h : H a = none) : aN H (L2.upd H' a o) := fun b u q => by
 rw [aQ (a9 q h)];exact e b u q
section
variable {X : Cx}
noncomputable def AW (K : PySem.W.Frag) : List V → Hp → VK → Prop := fun xs H Q => ∃ p ys, xs = [.ref p] ∧ (SqL K H p ys ∨ SqT K H p ys) ∧ ∀ l, H l = none → Q (.ref l) (upd H l (.lst ys))
theorem iA (K : PySem.W.Frag) (h : X.K = K) : ee X (.type "list") (AW K) := by
 subst h;exact mE
noncomputable def xq (K : PySem.W.Frag) : List V → Hp → VK → Prop := fun xs H Q => ∃ (a : Addr) (ns : List Int), xs = [.ref a] ∧ SqL K H a (ns.map V.int) ∧ 0 < ns.length ∧ ∀ M, M ∈ ns → (∀ z, z ∈ ns → z ≤ M) → Q (.int M) H
theorem l5 (K : PySem.W.Frag) (h : X.K = K) (hc : X.calm = true) : ee X (.builtin "max") (xq K) := by
 subst h;exact qB hc
end
end L2
namespace L2
open PySem PySem.Spec PyProof.Rows
end L2
namespace L2
open PySem PySem.Spec PyProof.Rows
section
variable {κ : Type} [DecidableEq κ]
noncomputable def kZ (kvs : List (κ × V)) (k : κ) : Option V := (kvs.find? fun kv => decide (kv.1 = k)).map (·.2)
noncomputable def putK (kvs : List (κ × V)) (k : κ) (v : V) : List (κ × V) :=
 if (kvs.any fun kv => decide (kv.1 = k)) = true then kvs.map (fun kv => if kv.1 = k then (kv.1, v) else kv) else kvs ++ [(k, v)]
theorem jf {p : κ × V} {r : List (κ × V)} {k : κ} (e : p.1 = k) : kZ (p :: r) k = some p.2 := by simp [kZ, List.find?_cons, e]
theorem je {p : κ × V} {r : List (κ × V)} {k : κ} (e : ¬ p.1 = k) : kZ (p :: r) k = kZ r k := by simp [kZ, List.find?_cons, e]
theorem nI (k : κ) : ∀ kvs : List (κ × V), (kvs.any fun kv => decide (kv.1 = k)) = (kZ kvs k).isSome
 | [] => rfl
 | p :: r => by
  rw [List.any_cons];by_cases e : p.1 = k
  ·simp only [jf e, decide_eq_true e, Bool.true_or, Option.isSome_some]
  ·rw [je e, decide_eq_false e, Bool.false_or]; exact nI k r
theorem jE (kvs : List (κ × V)) (k : κ) (v : V) : (putK kvs k v).length ≤ kvs.length + 1 := by
 unfold putK;split
 ·rw [List.length_map]; lia
 ·rw [List.length_append, List.length_cons, List.length_nil]; lia
theorem ly.isSome_eq {o : Option V} {u : Option Value} (r : ly o u) : o.isSome = u.isSome := by
 cases o with
 | none => cases u with
  | none => rfl
  | some _ => exact (show False from r).elim
 | some _ => cases u with
  | none => exact (show False from r).elim
  | some _ => rfl
theorem KV.val {kvs : List (κ × V)} {vs : List (κ × Value)} (r : KV kvs vs) (k : κ) : ly (kZ kvs k) (valueAt vs k) := by
 unfold KV at r
 induction r with
 | nil => exact True.intro
 | @cons p q ps qs h t ih =>
  obtain ⟨h1, h2⟩ := h;by_cases e : p.1 = k
  ·have e' : q.1 = k := h1.symm.trans e
   have b : valueAt (q :: qs) k = some q.2 := by simp [valueAt, List.find?_cons, e']
   rw [jf e, b]; exact h2
  ·have e' : ¬ q.1 = k := fun z => e (h1.trans z)
   have b : valueAt (q :: qs) k = valueAt qs k := by simp [valueAt, List.find?_cons, e']
   rw [je e, b]; exact ih
theorem KV.any {kvs : List (κ × V)} {vs : List (κ × Value)} (r : KV kvs vs) (k : κ) : (kvs.any fun kv => decide (kv.1 = k)) = vs.any fun kv => decide (kv.1 = k) := by
 unfold KV at r
 induction r with
 | nil => rfl
 | cons h t ih => rw [List.any_cons, List.any_cons, ih, h.1]
theorem KV.repl {kvs : List (κ × V)} {vs : List (κ × Value)} (r : KV kvs vs) (k : κ) {y : V} {u : Value} (ry : RelV y u) :
  KV (kvs.map fun kv => if kv.1 = k then (kv.1, y) else kv) (vs.map fun kv => if kv.1 = k then (kv.1, u) else kv) := by
 unfold KV at r ⊢
 induction r with
 | nil => exact .nil
 | @cons p q ps qs h t ih =>
  rw [List.map_cons, List.map_cons];refine .cons ?_ ih;obtain ⟨h1, h2⟩ := h;by_cases e : p.1 = k
  ·rw [if_pos e, if_pos (h1.symm.trans e)]; exact ⟨h1, ry⟩
  ·rw [if_neg e, if_neg (fun z => e (h1.trans z))]; exact ⟨h1, h2⟩
theorem KV.put {kvs : List (κ × V)} {vs : List (κ × Value)} (r : KV kvs vs) (k : κ) {y : V} {u : Value} (ry : RelV y u) : KV (putK kvs k y) (stored vs k u) := by
 unfold putK stored;rw [r.any k];by_cases e : (vs.any fun kv => decide (kv.1 = k)) = true
 ·rw [if_pos e, if_pos e]; exact r.repl k ry
 ·rw [if_neg e, if_neg e]; exact Paired.snoc r ⟨rfl, ry⟩
theorem KV.length {kvs : List (κ × V)} {vs : List (κ × Value)} (r : KV kvs vs) : kvs.length = vs.length := Paired.length r
end
theorem r6 {P : Program} {w : World} {k : Key} {u : Value} (r : RelV (kV k) u) : (dI P w).is k u = true := by
 cases k with
 | inl i => obtain ⟨t, e⟩ := (show ∃ t, u = Value.int i t from r); subst e; exact oE P w i t
 | inr x => obtain ⟨t, e⟩ := (show ∃ t, u = Value.str x t from r); subst e; exact ow P w x t
theorem lR {P : Program} {w : World} : ∀ {ks : List Key} {us : List Value}, Vals (ks.map kV) us → ItemsAre (dI P w) ks us
 | [], _, r => by rw [List.map_nil] at r; cases r; exact .nil
 | k :: ks, _, r => by
  rw [List.map_cons] at r;cases r with
  | cons h t => exact .cons (r6 h) (lR t)
noncomputable abbrev KT (H : Hp) : List (List Key × V) → List (List Key × Addr × Value) → Prop := Paired fun p q => p.1 = q.1 ∧ H q.2.1 = some (.tup (p.1.map kV)) ∧ RelV p.2 q.2.2
theorem KT.val {H : Hp} {kvs : List (List Key × V)} {xs : List (List Key × Addr × Value)} (r : KT H kvs xs) (k : List Key) : ly (kZ kvs k) ((atKey xs k).map (·.2)) := by
 induction r with
 | nil => exact True.intro
 | @cons p q ps qs h t ih =>
  obtain ⟨h1, _, h2⟩ := h;by_cases e : p.1 = k
  ·have e' : q.1 = k := h1.symm.trans e
   have b : atKey (q :: qs) k = some q.2 := by simp [atKey, List.find?_cons, e']
   rw [jf e, b]; exact h2
  ·have e' : ¬ q.1 = k := fun z => e (h1.trans z)
   have b : atKey (q :: qs) k = atKey qs k := by simp [atKey, List.find?_cons, e']
   rw [je e, b]; exact ih
theorem KT.repl {H : Hp} {kvs : List (List Key × V)} {xs : List (List Key × Addr × Value)} (r : KT H kvs xs) (k : List Key) {y : V} {u : Value} (ry : RelV y u) :
  KT H (kvs.map fun kv => if kv.1 = k then (kv.1, y) else kv) (xs.map (putAt k u)) := by
 induction r with
 | nil => exact .nil
 | @cons p q ps qs h t ih =>
  rw [List.map_cons, List.map_cons];refine .cons ?_ ih;obtain ⟨h1, h2, h3⟩ := h;unfold putAt;by_cases e : p.1 = k
  ·rw [if_pos e, if_pos (h1.symm.trans e)]; exact ⟨h1, h2, ry⟩
  ·rw [if_neg e, if_neg (fun z => e (h1.trans z))]; exact ⟨h1, h2, h3⟩
theorem KT.put {H : Hp} {kvs : List (List Key × V)} {xs : List (List Key × Addr × Value)} (r : KT H kvs xs) (k : List Key) {b : Addr} {y : V} {u : Value} (hb : H b = some (.tup (k.map kV))) (ry : RelV y u) :
  KT H (putK kvs k y) (storedH xs k b u) := by
 have e : (kvs.any fun kv => decide (kv.1 = k)) = (atKey xs k).isSome := by
  rw [nI, (r.val k).isSome_eq, Option.isSome_map]
 unfold putK storedH;rw [e];by_cases q : (atKey xs k).isSome = true
 ·rw [if_pos q, if_pos q]; exact r.repl k ry
 ·rw [if_neg q, if_neg q]; exact Paired.snoc r ⟨rfl, hb, ry⟩
theorem KT.keeps {H H' : Hp} {kvs : List (List Key × V)} {xs : List (List Key × Addr × Value)} (r : KT H kvs xs) (ht : ∀ b ys, H b = some (.tup ys) → H' b = some (.tup ys)) : KT H' kvs xs :=
 Paired.mapP r fun _ _ z => ⟨z.1, ht _ _ z.2.1, z.2.2⟩
section
variable {P : Program} {w : World} {H : Hp} {h : Heap} {a : Addr}
theorem xB {u : HO} (ok : HOk P w H h) (e : Rd H a u) : dw P w H h a u := e.ok ok
theorem tX {kvs : List (Key × V)} (ok : HOk P w H h) (e : Rd H a (.dK kvs)) : kvs.length ≤ sizeLine ∧ (a == sysModules) = false ∧ ∃ vs, KV kvs vs ∧ h.DictOf (dI P w) a vs :=
 show dw P w H h a (.dK kvs) from xB ok e
theorem DJ {kvs : List (Key × V)} (ok : HOk P w H h) (e : H a = some (.dK kvs)) : kvs.length ≤ sizeLine ∧ (a == sysModules) = false ∧ ∃ vs, KV kvs vs ∧ h.DictOf (dI P w) a vs := tX ok (.inl e)
theorem jq {ks : List Key} (ok : HOk P w H h) (e : H a = some (.tup (ks.map kV))) : (tupleKind (dI P w)).is h ks a := by
 obtain ⟨_, its, r, o, h1, h2, n, h3⟩ := (show dw P w H h a (.tup (ks.map kV)) from ok a _ e)
 exact ⟨o, its.toArray, n, h1, h2, h3, by simpa using lR r⟩
theorem uY {kvs : List (List Key × V)} (ok : HOk P w H h) (e : Rd H a (.dT kvs)) : kvs.length ≤ sizeLine ∧ (a == sysModules) = false ∧
  ∃ xs, KT H kvs xs ∧ h.DictOfH (tupleKind (dI P w)) a xs := by
 obtain ⟨z, y, xs, r, o, es, ep, h1, h2, h3, h4, h5⟩ := (show dw P w H h a (.dT kvs) from xB ok e)
 refine ⟨z, y, xs, r, o, es, ep, h1, h2, h3, h4, fun x hx => ?_, h5⟩
 have all : ∀ {l : List (List Key × V)} {m : List (List Key × Addr × Value)}, KT H l m → ∀ x ∈ m, (tupleKind (dI P w)).is h x.1 x.2.1 := by
  intro l m q
  induction q with
  | nil => intro x hx; exact nomatch hx
  | @cons p q ps qs hq t ih =>
   intro x hx;rcases List.mem_cons.mp hx with e | hx
   ·subst e
    exact jq ok (by rw [← hq.1]; exact hq.2.1)
   ·exact ih x hx
 exact all r x hx
theorem BG {kvs : List (List Key × V)} (ok : HOk P w H h) (e : H a = some (.dT kvs)) : kvs.length ≤ sizeLine ∧ (a == sysModules) = false ∧
  ∃ xs, KT H kvs xs ∧ h.DictOfH (tupleKind (dI P w)) a xs := uY ok (.inl e)
end
noncomputable def wj (H : Hp) (a : Addr) (y : V) (r : Option V) : Prop :=
 (∃ kvs k, Rd H a (.dK kvs) ∧ y = kV k ∧ r = kZ kvs k) ∨ ∃ kvs k b, Rd H a (.dT kvs) ∧ y = .ref b ∧ H b = some (.tup (k.map kV)) ∧ r = kZ kvs k
noncomputable def Bd (H : Hp) (a : Addr) (y v : V) (H' : Hp) : Prop :=
 (∃ kvs k, H a = some (.dK kvs) ∧ y = kV k ∧ kvs.length < sizeLine ∧ H' = upd H a (.dK (putK kvs k v))) ∨
 ∃ kvs k b, H a = some (.dT kvs) ∧ y = .ref b ∧ H b = some (.tup (k.map kV)) ∧ kvs.length < sizeLine ∧ H' = upd H a (.dT (putK kvs k v))
section
variable {X : Cx} {pins : List (Addr × Obj)} {σ : St} {H : Hp} {s : Shared} {a : Addr} {y v : V} {u r : Value} {o : Option V} {A : Around} {E : Value → Shared → Prop}
theorem Inv.big (I : Inv X pins σ H s) : sysModules < s.heap.objs.size := by
 have h : mainGlobals < s.heap.objs.size := (I.mod.glob.keeps I.bk).lt;exact Nat.lt_trans (by decide) h
theorem rj {Q : Value → Shared → Prop} (hu : A.units + 1 < cLine) (I : Inv X pins σ H s) (g : wj H a y (some v)) (ry : RelV y u) (h : ∀ w' s', Inv X pins σ H s' → RelV v w' → Q w' s') :
  wpAny (model X.prog X.w) A (getItem (.ref a) u) Q E s := by
 rcases g with ⟨kvs, k, e, ey, l⟩ | ⟨kvs, k, b, e, ey, eb, l⟩
 ·subst ey
  obtain ⟨z, hd, vs, rel, dd⟩ := tX I.hok e;obtain ⟨w', hw, rw'⟩ := ly.some_of (v := v) (o := valueAt vs k) (by rw [l]; exact rel.val k)
  exact wpAny_getItem_of (r6 ry) dd.mapOf hw (h w' _ (I.tok _) rw')
 ·subst ey
  cases (show u = Value.ref b from ry)
  obtain ⟨z, hd, xs, rel, dd⟩ := uY I.hok e;obtain ⟨w', hw, rw'⟩ := ly.some_of (v := v) (o := (atKey xs k).map (·.2)) (by rw [l]; exact rel.val k)
  obtain ⟨p, hp, hp2⟩ := Option.map_eq_some_iff.mp hw;refine wpAny_getItem_heap (tupleKind_room_in1 hu) (jq I.hok eb) dd hp ?_;rw [hp2];exact h w' _ (I.tok _) rw'
theorem qx {h' : Heap} {t' : Nat} {ob : HO} (I : Inv X pins σ H s) (mu : Mut (H a)) (hs : Heap.SameBut a s.heap h') (he : ∃ q, h'.get? a = some q) (new : dw X.prog X.w (upd H a ob) h' a ob) :
  Inv X pins σ (upd H a ob) { s with heap := h', toks := t' } :=
 I.write (x := a) (e := a) mu (.inl rfl) (fun b q hb z => (hs.2 b hb).trans z) he new
theorem zH {P : Program} {w : World} {H' : Hp} {h' : Heap} {kvs : List (Key × V)} {vs : List (Key × Value)} (z : kvs.length ≤ sizeLine) (hd : (a == sysModules) = false) (rel : KV kvs vs) (dd : h'.DictOf (dI P w) a vs) :
  dw P w H' h' a (.dK kvs) := ⟨z, hd, vs, rel, dd⟩
theorem qY {H' : Hp} {Q : Unit → Shared → Prop} (hu : A.units + 1 < cLine) (I : Inv X pins σ H s) (g : Bd H a y v H') (ry : RelV y u) (rv : RelV v r) (h : ∀ s', Inv X pins σ H' s' → Q () s') :
  wpAny (model X.prog X.w) A (setItem (.ref a) u r) Q E s := by
 rcases g with ⟨kvs, k, e, ey, l, eH⟩ | ⟨kvs, k, b, e, ey, eb, l, eH⟩
 ·subst ey eH
  obtain ⟨z, hd, vs, rel, dd⟩ := DJ I.hok e;have hz : vs.length ≤ sizeLine := by rw [← rel.length]; exact z
  have hl : (putK kvs k v).length ≤ sizeLine := by have := jE kvs k v; lia
  refine wpAny_setItem_pairs (hsz := hz) (r6 ry) dd fun h' dd' hs => h _ ?_
  have he : ∃ q, h'.get? a = some q := let ⟨q, _, _, hq, _⟩ := dd'; ⟨q, hq⟩;exact qx I (by rw [e]; exact True.intro) hs he (zH hl hd (rel.put k rv) dd')
 ·subst ey eH
  cases (show u = Value.ref b from ry)
  obtain ⟨z, hd, xs, rel, dd⟩ := BG I.hok e;have hz : xs.length ≤ sizeLine := by rw [← Paired.length rel]; exact z
  have hl : (putK kvs k v).length ≤ sizeLine := by have := jE kvs k v; lia
  refine wpAny_setItem_heap (hsz := hz) (tupleKind_room_in1 hu) (jq I.hok eb) dd fun h' dd' hs => h _ ?_
  obtain ⟨q, es, ep, hq, h2, h3, h4, _, h5⟩ := dd';refine qx I (by rw [e]; exact True.intro) hs ⟨q, hq⟩ ⟨hl, hd, _, (rel.put k eb rv).keeps fun c ys ec => ?_, q, es, ep, hq, h2, h3, h4, h5⟩
  rw [aQ (Eh ec e (fun z => nomatch z))]
  exact ec
end
section
variable {X : Cx} {pins : List (Addr × Obj)} {σ : St} {H : Hp} {s : Shared} {a : Addr} {kvs : List (Key × V)} {k : Key} {u : Value} {A : Around} {E : Value → Shared → Prop}
end
noncomputable def x_ (i : Expr) : Prop := ∀ ov iv, subscripted i false ov iv = operate [ov, iv] (getItem ov iv)
theorem xa {prog : Program} {w : World} {A : Around} {E : Value → Shared → Prop} {s : Shared} {env : Env} {value slice : Expr} {pos : Pos} {T id : String} {Q : Value → Shared → Prop}
  (hl : typeLookup (.type T) "__getitem__" = pure (some (.builtin id))) (hs : x_ slice)
  (h : wpAny (model prog w) A (eval value env) (fun o s₁ => wpAny (model prog w) A (eval slice env) (fun i s₂ => s₂.TypeIs o T ∧ wpAny (model prog w) A (getItem o i) Q E s₂) E s₁) E s) :
  wpAny (model prog w) A (eval (.Subscript value slice pos) env) Q E s := by
 refine Subscript_ (wpAny_mono h (fun o s₁ h₁ => wpAny_mono h₁ (fun i s₂ h₂ => ?_) fun _ _ x => x) fun _ _ x => x)
 obtain ⟨hT, h₂⟩ := h₂;unfold subscriptTail;refine wpAny_bind ?_;rw [getitemInPython_of_ne hT.not_modules];refine wpAny_bind (wpAny_specialOf hT hl ?_);have fin : wpAny (model prog w) A (subscripted slice false o i) (fun r s₃ => wpAny (model prog w) A (letTemporaryGo value o r >>= fun _ => pure r) Q E s₃) E s₂ := by
  rw [hs o i];exact wpAny_operating (wpAny_mono h₂ (fun r s₃ h₃ => wpAny_bind (wpAny_letTemporaryGo (wpAny_pure h₃))) fun _ _ x => x)
 first
  | exact wpAny_pure (wpAny_bind fin)
  | exact wpAny_bind (wpAny_pure (wpAny_bind fin))
  | exact wpAny_bind fin
theorem nJ {X : Cx} {pins : List (Addr × Obj)} {σ : St} {H : Hp} {s : Shared} {a : Addr} {y : V} {o : Option V} (I : Inv X pins σ H s) (g : wj H a y o) : s.TypeIs (.ref a) "dict" := by
 rcases g with ⟨kvs, k, e, _, _⟩ | ⟨kvs, k, b, e, _, _, _⟩
 ·obtain ⟨_, _, vs, _, dd⟩ := tX I.hok e
  exact dd.typeIs
 ·obtain ⟨_, _, xs, _, dd⟩ := uY I.hok e
  exact dd.typeIs
noncomputable def Cq (td ty : TE) : TE := fun σ H Q => td σ H fun x H1 => ty σ H1 fun y H2 => ∃ a v, x = .ref a ∧ wj H2 a y (some v) ∧ Q v H2
noncomputable def xt (td ty tv : TE) : TS := fun D σ H => tv σ H fun v H1 => td σ H1 fun x H2 => ty σ H2 fun y H3 => ∃ a H4, x = .ref a ∧ Bd H3 a y v H4 ∧ D.nx σ H4
section
variable {X : Cx} {o i e value : Expr} {pos pos' tpos : Pos} {td ty tv : TE}
theorem vA (hu : X.A.units + 1 < cLine) (ho : PE X o td) (hi : PE X i ty) (hs : x_ i) : PE X (.Subscript o i pos) (Cq td ty) := by
 intro pins s σ H Q I h;refine xa PySem.F.slot_dict_getitem.lookup hs (thn (ho pins s σ H _ I h) fun u s1 ⟨x, H1, I1, rx, q1⟩ => thn (hi pins s1 σ H1 _ I1 q1) fun iv s2 ⟨y, H2, I2, ry, a, v, ex, g, q2⟩ => ?_)
 subst ex;obtain rfl : u = Value.ref a := rx;exact ⟨nJ I2 g, rj hu I2 g ry fun w' s3 I3 rw' => ⟨v, H2, I3, rw', q2⟩⟩
theorem wB (hu : X.A.units + 1 < cLine) (ho : PE X o td) (hi : PE X i ty) (hv : PE X value tv) (hs : swapsWith value (some (.Subscript o i pos')) pos.line X.env = pure false) :
  PS X (.Assign [.Subscript o i pos'] value pos) (xt td ty tv) := by
 intro pins s σ H D I h;refine wpAny_Assign_Subscript (thn (hv pins s σ H _ I h) fun r s1 ⟨v, H1, I1, rv, q1⟩ => thn (ho pins s1 σ H1 _ I1 q1) fun u s2 ⟨x, H2, I2, rx, q2⟩ => thn (hi pins s2 σ H2 _ I2 q2) fun iv s3 ⟨y, H3, I3, ry, a, H4, ex, g, q3⟩ => ?_) hs
 subst ex;obtain rfl : u = Value.ref a := rx;exact qY hu I3 g ry rv fun s4 I4 => ⟨σ, H4, I4, q3⟩
end
theorem uS {P : Program} {w : World} {H : Hp} (h : Heap) (hb : sysModules < h.objs.size) : dw P w H (h.push { cls := .type "dict", data := .dict #[] }) h.objs.size (.dK []) :=
 ⟨Nat.zero_le _, beq_eq_false_iff_ne.mpr (Ne.symm (Nat.ne_of_lt hb)), [], .nil, Heap.DictOf.new h⟩
noncomputable def rR : TE := fun _ H Q => ∀ p, H p = none → Q (.ref p) (upd H p (.dK []))
section
variable {X : Cx} {pos : Pos}
theorem sd : PE X (.Dict [] [] pos) rR := fun pins s σ H Q I h =>
 wpAny_Dict_empty ⟨.ref s.heap.objs.size, _, I.laid (a := s.heap.objs.size) (o := .dK []) (t' := s.toks) (fun _ _ q => Heap.get?_push_of_some _ q) (Nat.le_refl _) (uS s.heap I.big), rfl, h _ (I.hok.fresh (Nat.le_refl _))⟩
end
end L2
namespace L3
open PySem L2 PySem.Spec PyProof.Rows
noncomputable abbrev St := L2.St
noncomputable def RdK (K : PySem.W.Frag) (H : Hp) (a : Addr) (xs : List V) : Prop :=
 Rd H a (.lst xs) ∨ ∃ (its : Array Value) (n : Nat), K.lookup a = some { cls := .type "list", data := .seq its n } ∧ its.size ≤ sizeLine ∧ Vals xs its.toList
theorem RdK.of {K : PySem.W.Frag} {H : Hp} {a : Addr} {xs : List V} (h : H a = some (.lst xs)) : RdK K H a xs := .inl (.inl h)
theorem RdK.sq {K : PySem.W.Frag} {H : Hp} {a : Addr} {xs : List V} (h : RdK K H a xs) : SqL K H a xs := by
 rcases h with h | ⟨its, n, hk, hz, r⟩
 ·exact .inl h
 ·exact .inr ⟨_, its, n, hk, rfl, rfl, rfl, hz, r⟩
theorem RdK.same {K : PySem.W.Frag} {H H' : Hp} (e : aN H H') {a : Addr} {xs : List V} (h : RdK K H a xs) : RdK K H' a xs := by
 rcases h with (h | ⟨o, h⟩) | h
 ·exact .inl (.inl (e _ _ h))
 ·exact .inl (.inr ⟨o, e _ _ h⟩)
 ·exact .inr h
theorem RdK.obj {X : Cx} {pins : List (Addr × Obj)} {σ : St} {H : Hp} {s : Shared} {a : Addr} {xs : List V} (I : Inv X pins σ H s) (h : RdK X.K H a xs) :
  xs.length ≤ sizeLine ∧ ∃ (its : List Value) (n : Nat), Vals xs its ∧ xs.length = its.length ∧ s.heap.get? a = some { cls := .type "list", data := .seq its.toArray n } := by
 rcases h with h | ⟨its, n, hk, hz, r⟩
 ·obtain ⟨z, its, n, r, e⟩ := h.ok I.hok
  exact ⟨z, its, n, r, r.length, e⟩
 ·have e := r.length
  have e' := e;simp only [Array.length_toList] at e';exact ⟨by lia, its.toList, n, r, e, by simpa using I.kIn a _ hk⟩
end L3
namespace L3
open PySem L2
inductive OD where
 | sh (d : PyData)
 | ol (xs : List OD)
 | ot (xs : List OD)
 | od (kvs : List (Key × PyData))
noncomputable def kD : Key → PyData
 | .inl i => .int i
 | .inr x => .str x
noncomputable def dD (kvs : List (Key × PyData)) : PyData := .dict (kvs.map fun p => (kD p.1, p.2))
mutual
noncomputable def OD.er : OD → PyData
 | .sh d => d
 | .ol xs => .list (OD.ers xs)
 | .ot xs => .tuple (OD.ers xs)
 | .od kvs => dD kvs
noncomputable def OD.ers : List OD → List PyData
 | [] => []
 | x :: xs => x.er :: OD.ers xs
end
theorem j4 : ∀ xs : List OD, OD.ers xs = xs.map OD.er
 | [] => rfl
 | x :: xs => by rw [OD.ers, List.map_cons, j4 xs]
theorem g8 (d : PyData) : (OD.sh d).er = d := by rw [OD.er]
theorem xh (xs : List OD) : (OD.ol xs).er = .list (xs.map OD.er) := by rw [OD.er, j4]
theorem Dt (xs : List OD) : (OD.ot xs).er = .tuple (xs.map OD.er) := by rw [OD.er, j4]
theorem Bq (kvs : List (Key × PyData)) : (OD.od kvs).er = dD kvs := by rw [OD.er]
theorem bW (ds : List PyData) : (ds.map OD.sh).map OD.er = ds := by
 rw [List.map_map];have : (OD.er ∘ OD.sh) = id := funext fun d => g8 d
 rw [this, List.map_id]
inductive R (α : Type) where
 | ok (a : α)
 | ex (c : Str)
 | bad
noncomputable def R.bind {α β : Type} (r : R α) (f : α → R β) : R β := match r with
 | .ok a => f a
 | .ex c => .ex c
 | .bad => .bad
theorem b_ {α β : Type} (a : α) (f : α → R β) : (R.ok a).bind f = f a := rfl
noncomputable abbrev Env := List (Option OD)
noncomputable abbrev Fe := Env → R OD
noncomputable abbrev Fa := Env → R (List OD)
noncomputable abbrev Ft := Env → R Bool
noncomputable abbrev Fn := List PyData → R OD
inductive Out where
 | nx (ρ : Env)
 | rt (x : OD)
 | bk (ρ : Env)
 | ct (ρ : Env)
noncomputable abbrev Fs := Env → R Out
noncomputable abbrev Fi := Env → R (List PyData)
noncomputable abbrev Fg := OD → Env → R Env
noncomputable def BIG : Nat := 10000000
noncomputable def flat : PyData → Bool
 | .none => true
 | .bool _ => true
 | .int _ => true
 | .str _ => true
 | _ => false
noncomputable def ag (i : Nat) : Fe := fun ρ => match ρ[i]? with
 | some (some (.sh d)) => .ok (.sh d)
 | _ => .bad
noncomputable def eC (d : PyData) : Fe := fun _ => .ok (.sh d)
noncomputable def eOp (g : PyData → PyData → R OD) (a b : Fe) : Fe := fun ρ => (a ρ).bind fun x => (b ρ).bind fun y => g x.er y.er
noncomputable def eUn (g : PyData → R OD) (a : Fe) : Fe := fun ρ => (a ρ).bind fun x => g x.er
noncomputable def truth : PyData → R Bool
 | .bool b => .ok b
 | _ => .bad
noncomputable def aJ (a : Fe) : Ft := fun ρ => (a ρ).bind fun x => truth x.er
noncomputable def md (a b : Ft) : Ft := fun ρ => (a ρ).bind fun c => if c = true then b ρ else .ok false
noncomputable def iF (a b : Ft) : Ft := fun ρ => (a ρ).bind fun c => if c = true then .ok true else b ρ
noncomputable def fw (a : Ft) : Ft := fun ρ => (a ρ).bind fun c => .ok (!c)
noncomputable def nX (a b : Fe) : Fe := fun ρ => (a ρ).bind fun x => (truth x.er).bind fun c => if c = true then b ρ else .ok (.sh (.bool false))
noncomputable def eOr (a b : Fe) : Fe := fun ρ => (a ρ).bind fun x => (truth x.er).bind fun c => if c = true then .ok (.sh (.bool true)) else b ρ
noncomputable def rN (a : Fe) : Fe := fun ρ => (a ρ).bind fun x => (truth x.er).bind fun c => .ok (.sh (.bool (!c)))
noncomputable def eIf (t : Ft) (a b : Fe) : Fe := fun ρ => (t ρ).bind fun c => if c = true then a ρ else b ρ
noncomputable def ax : Fa := fun _ => .ok []
noncomputable def aj (a : Fe) (r : Fa) : Fa := fun ρ => (a ρ).bind fun x => (r ρ).bind fun xs => .ok (x :: xs)
noncomputable def shs : List OD → Option (List PyData)
 | [] => some []
 | .sh d :: r => match shs r with
  | some ds => some (d :: ds)
  | none => none
 | _ :: _ => none
noncomputable def mkT (xs : List OD) : OD := match shs xs with
 | some ds => .sh (.tuple ds)
 | none => .ot xs
noncomputable def lh (a : Fa) : Fe := fun ρ => (a ρ).bind fun xs => if xs.length ≤ BIG then .ok (mkT xs) else .bad
noncomputable def eSh (a : Fe) : Fe := fun ρ => (a ρ).bind fun x => .ok (.sh x.er)
noncomputable def dB (a : Fa) : Fe := fun ρ => (a ρ).bind fun xs => if xs.length ≤ BIG then .ok (.ol xs) else .bad
noncomputable def aV (f : Fn) (a : Fa) : Fe := fun ρ => (a ρ).bind fun xs => f (xs.map OD.er)
noncomputable def eB (g : List PyData → R OD) (a : Fa) : Fe := fun ρ => (a ρ).bind fun xs => g (xs.map OD.er)
noncomputable def erase (ρ : Env) : Env := ρ.map fun o => o.map fun x => OD.sh x.er
noncomputable def qL (a : Fe) : Fe := fun ρ => (a (erase ρ)).bind fun x => if flat x.er = true then .ok (.sh x.er) else .bad
noncomputable def xI (a : Fe) : Fe := fun ρ => (a (erase ρ)).bind fun x => match x with
 | .ol xs => if xs.all (fun y => flat y.er) = true then .ok (.ol (xs.map fun y => .sh y.er)) else .bad
 | _ => .bad
noncomputable def sy (a : Ft) : Ft := fun ρ => a (erase ρ)
noncomputable abbrev Fo := Env → R (Option Int)
noncomputable def dz : Fo := fun _ => .ok none
noncomputable def dj (a : Fe) : Fo := fun ρ => (a ρ).bind fun x => match x.er with
 | .int i => .ok (some i)
 | _ => .bad
noncomputable def eSl (g : PyData → Option Int → Option Int → R OD) (a : Fe) (l h : Fo) : Fe := fun ρ => (a ρ).bind fun x => (l ρ).bind fun i => (h ρ).bind fun j => g x.er i j
noncomputable def sD (a : Fe) : Fi := fun ρ => (a ρ).bind fun x => match x.er with
 | .list ds => .ok ds
 | _ => .bad
noncomputable def iTp (a : Fe) : Fi := fun ρ => (a ρ).bind fun x => match x.er with
 | .tuple ds => .ok ds
 | _ => .bad
noncomputable def iC (lo : Int) (n : Nat) : List PyData := (List.range n).map fun k : Nat => PyData.int (lo + k)
noncomputable def aZ (i : Int) : Bool := decide (-(2 ^ 62) ≤ i) && decide (i < 2 ^ 62)
noncomputable def iR1 (a : Fe) : Fi := fun ρ => (a ρ).bind fun x => match x.er with
 | .int j => if aZ j = true then .ok (iC 0 j.toNat) else .bad
 | _ => .bad
noncomputable def iR2 (a b : Fe) : Fi := fun ρ => (a ρ).bind fun x => (b ρ).bind fun y => match x.er, y.er with
 | .int i, .int j => if (aZ i && aZ j) = true then .ok (iC i (j - i).toNat) else .bad
 | _, _ => .bad
noncomputable def gk (ds : List PyData) : List PyData := ds.zipIdx.map fun p => PyData.tuple [.int (p.2 : Nat), p.1]
noncomputable def qD (ds es : List PyData) : List PyData := (ds.zip es).map fun p => PyData.tuple [p.1, p.2]
noncomputable def iEn (a : Fe) : Fi := fun ρ => (a ρ).bind fun x => match x.er with
 | .list ds => .ok (gk ds)
 | _ => .bad
noncomputable def iZp (a b : Fe) : Fi := fun ρ => (a ρ).bind fun x => (b ρ).bind fun y => match x.er, y.er with
 | .list ds, .list es => .ok (qD ds es)
 | _, _ => .bad
noncomputable def gNm (i : Nat) : Fg := fun x ρ => .ok (ρ.set i (some x))
noncomputable abbrev Fgs := List OD → Env → R Env
noncomputable def iX : Fgs := fun xs ρ => match xs with
 | [] => .ok ρ
 | _ => .bad
noncomputable def d_ (g : Fg) (r : Fgs) : Fgs := fun xs ρ => match xs with
 | x :: xs => (g x ρ).bind fun ρ' => r xs ρ'
 | [] => .bad
noncomputable def gTp (n : Nat) (r : Fgs) : Fg := fun x ρ => match x with
 | .ot xs => if xs.length = n then r xs ρ else .bad
 | .sh (.tuple ds) => if ds.length = n then r (ds.map OD.sh) ρ else .bad
 | _ => .bad
noncomputable def jB : Option (Option OD) → Option OD
 | some (some (.sh d)) => some (.sh d)
 | _ => none
noncomputable def sl3 (k : Nat) (outs : List Nat) (ρ : Env) : Env := List.replicate k none ++ outs.map fun i => jB ρ[i]?
noncomputable def oa {α : Type} : R α → R α
 | .ok a => .ok a
 | _ => .bad
noncomputable def fA (g : Fg) (t : Ft) (el : Fe) (ρ0 : Env) : List PyData → List OD → R (List OD)
 | [], acc => .ok acc
 | d :: ds, acc => (oa (g (.sh d) ρ0)).bind fun ρ => (oa (t ρ)).bind fun b => if b = true then (oa (el ρ)).bind fun y => if acc.length < BIG then fA g t el ρ0 ds (acc ++ [y]) else .bad else fA g t el ρ0 ds acc
noncomputable def jg (it : Fi) (g : Fg) (t : Ft) (el : Fe) (k : Nat) (outs : List Nat) : Fe := fun ρ => (it ρ).bind fun ds => (fA g t el (sl3 k outs ρ) ds []).bind fun xs => .ok (.ol xs)
noncomputable def jJ : Ft := fun _ => .ok true
noncomputable def sNx : Fs := fun ρ => .ok (.nx ρ)
noncomputable def aI (a b : Fs) : Fs := fun ρ => (a ρ).bind fun o => match o with
 | .nx ρ' => b ρ'
 | o => .ok o
noncomputable def u7 (a : Fe) (g : Fg) : Fs := fun ρ => (a ρ).bind fun x => (g x ρ).bind fun ρ' => .ok (.nx ρ')
noncomputable def bx (i : Nat) (a : Fe) : Fs := fun ρ => (a ρ).bind fun x => .ok (.nx (ρ.set i (some x)))
noncomputable def iY (a : Fe) : Fs := fun ρ => (a ρ).bind fun _ => .ok (.nx ρ)
noncomputable def c_ (a : Fe) : Fs := fun ρ => (a ρ).bind fun x => .ok (.rt x)
noncomputable def C9 : Fs := fun _ => .ok (.rt (.sh .none))
noncomputable def gj (i : Nat) : Fs := fun ρ => match ρ[i]? with
 | some (some x) => .ok (.rt x)
 | _ => .bad
noncomputable def sIf (t : Ft) (a b : Fs) : Fs := fun ρ => (t ρ).bind fun c => if c = true then a ρ else b ρ
noncomputable def sBk : Fs := fun ρ => .ok (.bk ρ)
noncomputable def sCt : Fs := fun ρ => .ok (.ct ρ)
noncomputable def lz : Fs := fun _ => .bad
noncomputable def wC (i : Nat) (ρ : Env) : Env := match ρ[i]? with
 | some (some x) => ρ.set i (some (.sh x.er))
 | _ => ρ
noncomputable def Fl (i : Nat) (a : Fs) : Fs := fun ρ => a (wC i ρ)
noncomputable def D_ (i : Nat) (g : PyData → PyData → R OD) (a : Fe) : Fs := fun ρ => match ρ[i]? with
 | some (some (.sh d)) => (a ρ).bind fun y => (g d y.er).bind fun z => .ok (.nx (ρ.set i (some z)))
 | _ => .bad
noncomputable def jv (i : Nat) (a : Fe) : Fs := fun ρ => match ρ[i]? with
 | some (some (.ol xs)) => (a ρ).bind fun y => if xs.length < BIG then .ok (.nx (ρ.set i (some (.ol (xs ++ [y]))))) else .bad
 | _ => .bad
noncomputable def BV (i : Nat) : Fs := fun ρ => match ρ[i]? with
 | some (some (.ol xs)) => .ok (.nx (ρ.set i (some (.ol xs.reverse))))
 | _ => .bad
noncomputable def DV (i : Nat) : Fs := fun ρ => match ρ[i]? with
 | some (some (.ol xs)) => .ok (.nx (ρ.set i (some (.ol []))))
 | _ => .bad
noncomputable def Bt (i : Nat) (g : Fg) : Fs := fun ρ => match ρ[i]? with
 | some (some (.ol xs)) => match xs.getLast? with
  | some (.sh d) => (g (.sh d) (ρ.set i (some (.ol xs.dropLast)))).bind fun ρ' => .ok (.nx ρ')
  | _ => .bad
 | _ => .bad
noncomputable def Bs (i : Nat) (a : Fe) : Fs := fun ρ => match ρ[i]? with
 | some (some (.ol xs)) => (a ρ).bind fun y => match y with
  | .ol ys => if xs.length + ys.length ≤ BIG then .ok (.nx (ρ.set i (some (.ol (xs ++ ys))))) else .bad
  | _ => .bad
 | _ => .bad
noncomputable def DX (i : Nat) (k : Fe) (a : Fe) : Fs := fun ρ => match ρ[i]? with
 | some (some (.ol xs)) => (a ρ).bind fun y => (k ρ).bind fun z => match z.er with
  | .int q => match ixN xs.length q with
   | some j => .ok (.nx (ρ.set i (some (.ol (xs.set j y)))))
   | none => .bad
  | _ => .bad
 | _ => .bad
noncomputable def bA (g : Fg) (b : Fs) : List PyData → Env → R Out
 | [], ρ => .ok (.nx ρ)
 | d :: ds, ρ => (g (.sh d) ρ).bind fun ρ1 => (b ρ1).bind fun o => match o with
  | .nx ρ2 => bA g b ds ρ2
  | .ct ρ2 => bA g b ds ρ2
  | .bk ρ2 => .ok (.nx ρ2)
  | .rt x => .ok (.rt x)
noncomputable def g_ (it : Fi) (g : Fg) (b : Fs) : Fs := fun ρ => (it ρ).bind fun ds => bA g b ds ρ
noncomputable def dv (t : Ft) (b : Fs) : Nat → Env → R Out
 | 0, _ => .bad
 | n + 1, ρ => (t ρ).bind fun c => if c = true then (b ρ).bind fun o => match o with
  | .nx ρ2 => dv t b n ρ2
  | .ct ρ2 => dv t b n ρ2
  | .bk ρ2 => .ok (.nx ρ2)
  | .rt x => .ok (.rt x) else .ok (.nx ρ)
open Classical in
noncomputable def fS (t : Ft) (b : Fs) : Fs := fun ρ => if h : ∃ n, dv t b n ρ ≠ .bad then dv t b h.choose ρ else .bad
noncomputable def iE (n : Nat) (ds : List PyData) : Env := (ds.map fun d => some (OD.sh d)) ++ List.replicate (n - ds.length) none
noncomputable def cq (np n : Nat) (b : Fs) : Fn := fun ds => if ds.length = np then (b (iE n ds)).bind fun o => match o with
 | .rt x => .ok x
 | .nx _ => .ok (.sh .none)
 | _ => .bad else .bad
end L3
namespace L3
open PySem L2
mutual
inductive Rep (K : PySem.W.Frag) (H : Hp) : V → PyData → Prop
 | non : Rep K H .non .none
 | bl (b : Bool) : Rep K H (.bl b) (.bool b)
 | int (i : Int) : Rep K H (.int i) (.int i)
 | str (x : Str) : Rep K H (.str x) (.str x)
 | lst {a : Addr} {xs : List V} {ds : List PyData} : RdK K H a xs → RepAll K H xs ds → Rep K H (.ref a) (.list ds)
 | tup {a : Addr} {xs : List V} {ds : List PyData} : H a = some (.tup xs) → RepAll K H xs ds → Rep K H (.ref a) (.tuple ds)
 | dct {a : Addr} {kvs : List (Key × V)} {ds : List (Key × PyData)} : H a = some (.dK kvs) → kvs.map (·.1) = ds.map (·.1) → RepAll K H (kvs.map (·.2)) (ds.map (·.2)) → Rep K H (.ref a) (dD ds)
inductive RepAll (K : PySem.W.Frag) (H : Hp) : List V → List PyData → Prop
 | nil : RepAll K H [] []
 | cons {v : V} {vs : List V} {d : PyData} {ds : List PyData} : Rep K H v d → RepAll K H vs ds → RepAll K H (v :: vs) (d :: ds)
end
mutual
theorem Rep.same {K : PySem.W.Frag} {H H' : Hp} (e : aN H H') {v : V} {d : PyData} : Rep K H v d → Rep K H' v d
 | .non => .non
 | .bl b => .bl b
 | .int i => .int i
 | .str x => .str x
 | .lst h r => .lst (h.same e) (RepAll.same e r)
 | .tup h r => .tup (e _ _ h) (RepAll.same e r)
 | .dct h k r => .dct (e _ _ h) k (RepAll.same e r)
theorem RepAll.same {K : PySem.W.Frag} {H H' : Hp} (e : aN H H') {vs : List V} {ds : List PyData} : RepAll K H vs ds → RepAll K H' vs ds
 | .nil => .nil
 | .cons h r => .cons (Rep.same e h) (RepAll.same e r)
end
mutual
inductive Own (K : PySem.W.Frag) (F H : Hp) : V → OD → List Addr → Prop
 | sh {v : V} {d : PyData} : Rep K F v d → Own K F H v (.sh d) []
 | ol {a : Addr} {vs : List V} {xs : List OD} {f : List Addr} : H a = some (.lst vs) → OwnL K F H vs xs f → Own K F H (.ref a) (.ol xs) (a :: f)
 | ot {a : Addr} {vs : List V} {xs : List OD} {f : List Addr} : H a = some (.tup vs) → OwnL K F H vs xs f → Own K F H (.ref a) (.ot xs) (a :: f)
 | od {a : Addr} {kvs : List (Key × V)} {ds : List (Key × PyData)} : H a = some (.dK kvs) → kvs.map (·.1) = ds.map (·.1) → RepAll K F (kvs.map (·.2)) (ds.map (·.2)) → Own K F H (.ref a) (.od ds) [a]
inductive OwnL (K : PySem.W.Frag) (F H : Hp) : List V → List OD → List Addr → Prop
 | nil : OwnL K F H [] [] []
 | cons {v : V} {x : OD} {f : List Addr} {vs : List V} {xs : List OD} {g : List Addr} : Own K F H v x f → OwnL K F H vs xs g → OwnL K F H (v :: vs) (x :: xs) (f ++ g)
end
section
variable {K : PySem.W.Frag} {F H F' H' : Hp}
mutual
theorem Own.mono (e : aN F F') {v : V} {x : OD} {f : List Addr} : (∀ a ∈ f, ∀ o, H a = some o → H' a = some o) → Own K F H v x f → Own K F' H' v x f
 | _, .sh r => .sh (r.same e)
 | k, .ol h r => .ol (k _ List.mem_cons_self _ h) (OwnL.mono e (fun a m => k a (List.mem_cons_of_mem _ m)) r)
 | k, .ot h r => .ot (k _ List.mem_cons_self _ h) (OwnL.mono e (fun a m => k a (List.mem_cons_of_mem _ m)) r)
 | k, .od h q r => .od (k _ List.mem_cons_self _ h) q (RepAll.same e r)
theorem OwnL.mono (e : aN F F') {v : List V} {x : List OD} {f : List Addr} : (∀ a ∈ f, ∀ o, H a = some o → H' a = some o) → OwnL K F H v x f → OwnL K F' H' v x f
 | _, .nil => .nil
 | k, .cons h r => .cons (Own.mono e (fun a m => k a (List.mem_append_left _ m)) h) (OwnL.mono e (fun a m => k a (List.mem_append_right _ m)) r)
end
mutual
theorem Own.dom {v : V} {x : OD} {f : List Addr} : Own K F H v x f → ∀ a ∈ f, ∃ o, H a = some o
 | .sh _, a, m => by cases m
 | .ol h r, a, m => by
  rcases List.mem_cons.mp m with rfl | m
  ·exact ⟨_, h⟩
  ·exact OwnL.dom r a m
 | .ot h r, a, m => by
  rcases List.mem_cons.mp m with rfl | m
  ·exact ⟨_, h⟩
  ·exact OwnL.dom r a m
 | .od h q r, a, m => by
  rcases List.mem_cons.mp m with rfl | m
  ·exact ⟨_, h⟩
  ·cases m
theorem OwnL.dom {v : List V} {x : List OD} {f : List Addr} : OwnL K F H v x f → ∀ a ∈ f, ∃ o, H a = some o
 | .nil, a, m => by cases m
 | .cons h r, a, m => by
  rcases List.mem_append.mp m with m | m
  ·exact Own.dom h a m
  ·exact OwnL.dom r a m
end
mutual
theorem Own.frz (e : aN F F') {v : V} {x : OD} {f : List Addr} : (∀ a ∈ f, ∀ o, H a = some o → F' a = some o) → Own K F H v x f → Rep K F' v x.er
 | _, .sh r => by rw [g8]; exact r.same e
 | k, .ol h r => by rw [OD.er]; exact .lst (RdK.of (k _ List.mem_cons_self _ h)) (OwnL.frz e (fun a m => k a (List.mem_cons_of_mem _ m)) r)
 | k, .ot h r => by rw [OD.er]; exact .tup (k _ List.mem_cons_self _ h) (OwnL.frz e (fun a m => k a (List.mem_cons_of_mem _ m)) r)
 | k, .od h q r => by rw [OD.er]; exact .dct (k _ List.mem_cons_self _ h) q (r.same e)
theorem OwnL.frz (e : aN F F') {v : List V} {x : List OD} {f : List Addr} : (∀ a ∈ f, ∀ o, H a = some o → F' a = some o) → OwnL K F H v x f → RepAll K F' v (OD.ers x)
 | _, .nil => by rw [OD.ers]; exact .nil
 | k, .cons h r => by rw [OD.ers]; exact .cons (Own.frz e (fun a m => k a (List.mem_append_left _ m)) h) (OwnL.frz e (fun a m => k a (List.mem_append_right _ m)) r)
end
theorem OwnL.len {v : List V} {x : List OD} {f : List Addr} (o : OwnL K F H v x f) : v.length = x.length := by
 induction x generalizing v f with
 | nil => cases o; rfl
 | cons a r ih =>
  cases o with
  | cons h t => exact congrArg (· + 1) (ih t)
theorem OwnL.app {v w : List V} {x y : List OD} {f g : List Addr} (o : OwnL K F H v x f) (q : OwnL K F H w y g) : OwnL K F H (v ++ w) (x ++ y) (f ++ g) := by
 induction x generalizing v f with
 | nil => cases o; exact q
 | cons a r ih =>
  cases o with
  | cons h t =>
   rw [List.cons_append, List.cons_append, List.append_assoc];exact .cons h (ih t)
theorem OwnL.shs : ∀ {v : List V} {ds : List PyData}, RepAll K F v ds → OwnL K F H v (ds.map OD.sh) []
 | _, _, .nil => .nil
 | _, _, .cons h r => .cons (f := []) (.sh h) (OwnL.shs r)
theorem RepAll.len : ∀ {v : List V} {ds : List PyData}, RepAll K F v ds → v.length = ds.length
 | _, _, .nil => rfl
 | _, _, .cons _ r => by rw [List.length_cons, List.length_cons, RepAll.len r]
theorem RepAll.get : ∀ {v : List V} {ds : List PyData} {i : Nat} {d : PyData}, RepAll K F v ds → ds[i]? = some d → ∃ x, v[i]? = some x ∧ Rep K F x d
 | _, _, _, _, .nil, e => by simp at e
 | _, _, 0, _, .cons h _, e => by
  simp at e
  subst e;exact ⟨_, rfl, h⟩
 | _, _, i + 1, _, .cons _ r, e => by
  obtain ⟨x, h1, h2⟩ := RepAll.get (i := i) r (by simpa using e)
  exact ⟨x, by simpa using h1, h2⟩
theorem RepAll.app : ∀ {v w : List V} {ds es : List PyData}, RepAll K F v ds → RepAll K F w es → RepAll K F (v ++ w) (ds ++ es)
 | _, _, _, _, .nil, q => q
 | _, _, _, _, .cons h r, q => .cons h (RepAll.app r q)
theorem RepAll.take : ∀ {v : List V} {ds : List PyData} (n : Nat), RepAll K F v ds → RepAll K F (v.take n) (ds.take n)
 | _, _, 0, _ => by rw [List.take_zero, List.take_zero]; exact .nil
 | _, _, _ + 1, .nil => .nil
 | _, _, n + 1, .cons h r => .cons h (RepAll.take n r)
theorem RepAll.drop : ∀ {v : List V} {ds : List PyData} (n : Nat), RepAll K F v ds → RepAll K F (v.drop n) (ds.drop n)
 | _, _, 0, r => r
 | _, _, _ + 1, .nil => .nil
 | _, _, n + 1, .cons h r => RepAll.drop n r
theorem RepAll.toInts : ∀ {v : List V} {ns : List Int}, RepAll K F v (ns.map PyData.int) → v = ns.map V.int
 | _, [], .nil => rfl
 | _, n :: ns, .cons h r => by
  cases h;rw [RepAll.toInts r];rfl
theorem RepAll.ofInts : ∀ (ns : List Int), RepAll K F (ns.map V.int) (ns.map PyData.int)
 | [] => .nil
 | n :: ns => .cons (.int n) (RepAll.ofInts ns)
end
structure Ext (F H F' H' : Hp) : Prop where
 ff : aN F F'
 hh : aN H H'
 fh : aN F' H'
 nw : ∀ a, H a ≠ none → F a = none → F' a = none
theorem dh {α : Type} {o : Option α} {x : α} (h : o = some x) : o ≠ none := by
 rw [h];exact Option.some_ne_none x
theorem _root_.L2.aN.dom {H H' : Hp} (e : aN H H') {a : Addr} (h : H a ≠ none) : H' a ≠ none := by
 cases q : H a with
 | none => exact absurd q h
 | some o => exact dh (e a o q)
section
variable {F H F1 H1 F2 H2 : Hp}
theorem Ext.refl (h : aN F H) : Ext F H F H := ⟨aN.refl _, aN.refl _, h, fun _ _ z => z⟩
theorem Ext.trans (a : Ext F H F1 H1) (b : Ext F1 H1 F2 H2) : Ext F H F2 H2 := ⟨a.ff.trans b.ff, a.hh.trans b.hh, b.fh, fun x h n => b.nw x (a.hh.dom h) (a.nw x h n)⟩
theorem Ext.alloc {p : Addr} {o : HO} (h : aN F H) (hp : H p = none) : Ext F H F (upd H p o) :=
 ⟨aN.refl _, (aN.refl H).upd hp, (aN.upd h (h.free hp)), fun _ _ z => z⟩
theorem Ext.allocF {p : Addr} {o : HO} (h : aN F H) (hp : H p = none) : Ext F H (upd F p o) (upd H p o) := by
 refine ⟨(aN.refl F).upd (h.free hp), (aN.refl H).upd hp, fun b u q => ?_, fun a ha n => ?_⟩
 ·by_cases e : b = p
  ·subst e
   rw [cm] at q ⊢;exact q
  ·rw [aQ e] at q ⊢
   exact h b u q
 ·have e : a ≠ p := by
   rintro rfl;exact ha hp
  rw [aQ e];exact n
end
structure Res (K : PySem.W.Frag) (F H : Hp) (v : V) (x : OD) (f : List Addr) : Prop where
 own : Own K F H v x f
 nd : f.Nodup
 fr : ∀ a ∈ f, F a = none
structure ResL (K : PySem.W.Frag) (F H : Hp) (v : List V) (x : List OD) (f : List Addr) : Prop where
 own : OwnL K F H v x f
 nd : f.Nodup
 fr : ∀ a ∈ f, F a = none
open Classical in
noncomputable def mv (F H : Hp) (f : List Addr) : Hp := fun a => if a ∈ f then H a else F a
theorem mw {F H : Hp} {f : List Addr} {a : Addr} (h : a ∈ f) : mv F H f a = H a := by unfold mv; rw [if_pos h]
theorem kR {F H : Hp} {f : List Addr} {a : Addr} (h : a ∉ f) : mv F H f a = F a := by unfold mv; rw [if_neg h]
section
variable {K : PySem.W.Frag} {F H F' H' F1 H1 : Hp} {v : V} {x : OD} {f : List Addr} {vs : List V} {xs : List OD}
theorem mL (n : ∀ a ∈ f, F a = none) : aN F (mv F H f) := fun a o q => by
 rw [kR]
 ·exact q
 ·intro m
  rw [n a m] at q;cases q
theorem vi (h : aN F H) : aN (mv F H f) H := fun a o q => by
 by_cases m : a ∈ f
 ·rw [mw m] at q
  exact q
 ·rw [kR m] at q
  exact h a o q
theorem Res.ext (r : Res K F H v x f) (e : Ext F H F' H') : Res K F' H' v x f :=
 ⟨r.own.mono e.ff fun a _ o q => e.hh a o q, r.nd, fun a m => e.nw a (let ⟨_, q⟩ := r.own.dom a m; dh q) (r.fr a m)⟩
theorem ResL.ext (r : ResL K F H vs xs f) (e : Ext F H F' H') : ResL K F' H' vs xs f :=
 ⟨r.own.mono e.ff fun a _ o q => e.hh a o q, r.nd, fun a m => e.nw a (let ⟨_, q⟩ := r.own.dom a m; dh q) (r.fr a m)⟩
theorem pP (e : Ext F H F1 H1) (n : ∀ a ∈ f, F1 a = none) (w : ∀ a ∈ f, H a = none) : Ext F H (mv F1 H1 f) H1 :=
 ⟨e.ff.trans (mL n), e.hh, vi e.fh, fun a h z => by
  have m : a ∉ f := fun m => h (w a m)
  rw [kR m];exact e.nw a h z⟩
theorem Res.frz (e : Ext F H F1 H1) (r : Res K F1 H1 v x f) (w : ∀ a ∈ f, H a = none) : ∃ G, Ext F H G H1 ∧ Rep K G v x.er :=
 ⟨mv F1 H1 f, pP e r.fr w, r.own.frz (mL r.fr) fun a m o q => by rw [mw m]; exact q⟩
theorem ResL.frz (e : Ext F H F1 H1) (r : ResL K F1 H1 vs xs f) (w : ∀ a ∈ f, H a = none) : ∃ G, Ext F H G H1 ∧ RepAll K G vs (xs.map OD.er) :=
 ⟨mv F1 H1 f, pP e r.fr w, by rw [← j4]; exact r.own.frz (mL r.fr) fun a m o q => by rw [mw m]; exact q⟩
theorem Res.sh {d : PyData} (r : Rep K F v d) : Res K F H v (.sh d) [] := ⟨.sh r, List.nodup_nil, fun _ m => by cases m⟩
theorem ResL.nil : ResL K F H [] [] [] := ⟨.nil, List.nodup_nil, fun _ m => by cases m⟩
theorem ResL.cons {f1 : List Addr} (r : Res K F H v x f1) (q : ResL K F H vs xs f) (d : ∀ a ∈ f1, a ∉ f) : ResL K F H (v :: vs) (x :: xs) (f1 ++ f) :=
 ⟨.cons r.own q.own, List.nodup_append.mpr ⟨r.nd, q.nd, fun a m b n e => d a m (e ▸ n)⟩, fun a m => (List.mem_append.mp m).elim (r.fr a) (q.fr a)⟩
end
inductive OwnS (K : PySem.W.Frag) (F H : Hp) : St → Env → List Addr → Prop
 | nil : OwnS K F H [] [] []
 | no {v : Option V} {σ : St} {ρ : Env} {g : List Addr} : OwnS K F H σ ρ g → OwnS K F H (v :: σ) (none :: ρ) g
 | yes {v : V} {x : OD} {f : List Addr} {σ : St} {ρ : Env} {g : List Addr} : Own K F H v x f → OwnS K F H σ ρ g → OwnS K F H (some v :: σ) (some x :: ρ) (f ++ g)
section
variable {K : PySem.W.Frag} {F H F' H' : Hp}
theorem OwnS.mono (e : aN F F') {σ : St} {ρ : Env} {g : List Addr} (k : ∀ a ∈ g, ∀ o, H a = some o → H' a = some o) (S : OwnS K F H σ ρ g) : OwnS K F' H' σ ρ g := by
 induction S with
 | nil => exact .nil
 | no r ih => exact .no (ih k)
 | yes h r ih => exact .yes (h.mono e fun a m => k a (List.mem_append_left _ m)) (ih fun a m => k a (List.mem_append_right _ m))
theorem OwnS.dom {σ : St} {ρ : Env} {g : List Addr} (S : OwnS K F H σ ρ g) : ∀ a ∈ g, ∃ o, H a = some o := by
 induction S with
 | nil => exact fun a m => by cases m
 | no r ih => exact ih
 | yes h r ih => exact fun a m => (List.mem_append.mp m).elim (h.dom a) (ih a)
theorem OwnS.at {σ : St} {ρ : Env} {g : List Addr} (S : OwnS K F H σ ρ g) : ∀ {i : Nat} {x : OD}, ρ[i]? = some (some x) →
  ∃ v f g1 g2, σ[i]? = some (some v) ∧ Own K F H v x f ∧ g = g1 ++ (f ++ g2) ∧ ∀ (F' H' : Hp), aN F F' → (∀ a ∈ g1 ++ g2, ∀ o, H a = some o → H' a = some o) → ∀ v' x' f', Own K F' H' v' x' f' → OwnS K F' H' (σ.set i (some v')) (ρ.set i (some x')) (g1 ++ (f' ++ g2)) := by
 induction S with
 | nil => intro i x e; simp at e
 | no r ih =>
  intro i x e;cases i with
  | zero => simp at e
  | succ i =>
   obtain ⟨v, f, g1, g2, h1, h2, h3, h4⟩ := ih (i := i) (by simpa using e)
   exact ⟨v, f, g1, g2, by simpa using h1, h2, h3, fun F' H' s k v' x' f' o => .no (h4 F' H' s k v' x' f' o)⟩
 | @yes v0 x0 f0 σ0 ρ0 g0 h r ih =>
  intro i x e;cases i with
  | zero =>
   simp at e
   subst e;exact ⟨_, f0, [], g0, rfl, h, rfl, fun F' H' s k v' x' f' o => OwnS.yes (f := f') (g := g0) o (r.mono s k)⟩
  | succ i =>
   obtain ⟨v, f, g1, g2, h1, h2, h3, h4⟩ := ih (i := i) (by simpa using e)
   refine ⟨v, f, f0 ++ g1, g2, by simpa using h1, h2, by rw [h3, List.append_assoc], fun F' H' s k v' x' f' o => ?_⟩
   rw [List.append_assoc];exact .yes (h.mono s fun a m => k a (List.mem_append_left _ (List.mem_append_left _ m))) (h4 F' H' s (fun a m => k a (by simp at m ⊢; rcases m with m | m <;> simp [m])) v' x' f' o)
theorem OwnS.put {σ : St} {ρ : Env} {g : List Addr} (S : OwnS K F H σ ρ g) : ∀ {i : Nat}, i < ρ.length →
  ∃ f g1 g2, g = g1 ++ (f ++ g2) ∧ ∀ (F' H' : Hp), aN F F' → (∀ a ∈ g1 ++ g2, ∀ o, H a = some o → H' a = some o) → ∀ v' x' f', Own K F' H' v' x' f' → OwnS K F' H' (σ.set i (some v')) (ρ.set i (some x')) (g1 ++ (f' ++ g2)) := by
 induction S with
 | nil => intro i e; simp at e
 | @no v0 σ0 ρ0 g0 r ih =>
  intro i e;cases i with
  | zero => exact ⟨[], [], g0, rfl, fun F' H' s k v' x' f' o => OwnS.yes (f := f') (g := g0) o (r.mono s k)⟩
  | succ i =>
   obtain ⟨f, g1, g2, h3, h4⟩ := ih (i := i) (by simpa using e)
   exact ⟨f, g1, g2, h3, fun F' H' s k v' x' f' o => .no (h4 F' H' s k v' x' f' o)⟩
 | @yes v0 x0 f0 σ0 ρ0 g0 h r ih =>
  intro i e;cases i with
  | zero => exact ⟨f0, [], g0, rfl, fun F' H' s k v' x' f' o => OwnS.yes (f := f') (g := g0) o (r.mono s k)⟩
  | succ i =>
   obtain ⟨f, g1, g2, h3, h4⟩ := ih (i := i) (by simpa using e)
   refine ⟨f, f0 ++ g1, g2, by rw [h3, List.append_assoc], fun F' H' s k v' x' f' o => ?_⟩
   rw [List.append_assoc];exact .yes (h.mono s fun a m => k a (List.mem_append_left _ (List.mem_append_left _ m))) (h4 F' H' s (fun a m => k a (by simp at m ⊢; rcases m with m | m <;> simp [m])) v' x' f' o)
theorem OwnS.erase (e : aN F H) {σ : St} {ρ : Env} {g : List Addr} (S : OwnS K F H σ ρ g) : OwnS K H H σ (L3.erase ρ) [] := by
 induction S with
 | nil => exact .nil
 | no r ih => exact .no ih
 | yes h r ih => exact .yes (f := []) (.sh (h.frz e fun _ _ _ q => q)) ih
theorem OwnS.len {σ : St} {ρ : Env} {g : List Addr} (S : OwnS K F H σ ρ g) : σ.length = ρ.length := by
 induction S with
 | nil => rfl
 | no r ih => exact congrArg (· + 1) ih
 | yes h r ih => exact congrArg (· + 1) ih
end
structure Stt (K : PySem.W.Frag) (n : Nat) (F H : Hp) (σ : St) (ρ : Env) (fp : List Addr) : Prop where
 same : aN F H
 own : OwnS K F H σ ρ fp
 nd : fp.Nodup
 fr : ∀ a ∈ fp, F a = none
 len : ρ.length = n
structure Stp (F H : Hp) (fp : List Addr) (F' H' : Hp) (fp' : List Addr) : Prop where
 ff : aN F F'
 keep : ∀ a o, H a = some o → a ∉ fp → H' a = some o
 new : ∀ a ∈ fp', a ∈ fp ∨ H a = none
 nw : ∀ a, H a ≠ none → a ∉ fp → F a = none → F' a = none
section
variable {K : PySem.W.Frag} {n : Nat} {F H F' H' F1 H1 F2 H2 : Hp} {σ : St} {ρ : Env} {fp fp1 fp2 : List Addr}
theorem Stt.ext (s : Stt K n F H σ ρ fp) (e : Ext F H F' H') : Stt K n F' H' σ ρ fp :=
 ⟨e.fh, s.own.mono e.ff fun a _ o q => e.hh a o q, s.nd, fun a m => e.nw a (let ⟨_, q⟩ := s.own.dom a m; dh q) (s.fr a m), s.len⟩
theorem Stt.erase (s : Stt K n F H σ ρ fp) : Stt K n H H σ (L3.erase ρ) [] :=
 ⟨aN.refl _, s.own.erase s.same, List.nodup_nil, (fun _ m => by cases m), (by unfold L3.erase; rw [List.length_map]; exact s.len)⟩
theorem Stp.refl : Stp F H fp F H fp := ⟨aN.refl _, fun _ _ h _ => h, fun _ m => .inl m, fun _ _ _ z => z⟩
theorem Ext.stp (e : Ext F H F' H') : Stp F H fp F' H' fp := ⟨e.ff, fun a o h _ => e.hh a o h, fun _ m => .inl m, fun a h _ z => e.nw a h z⟩
theorem Stp.out (s : Stp F H fp F1 H1 fp1) {a : Addr} (h : H a ≠ none) (m : a ∉ fp) : a ∉ fp1 := fun q => (s.new a q).elim m h
theorem Stp.trans (s : Stp F H fp F1 H1 fp1) (t : Stp F1 H1 fp1 F2 H2 fp2) : Stp F H fp F2 H2 fp2 where
 ff := s.ff.trans t.ff
 keep a o h m := t.keep a o (s.keep a o h m) (s.out (dh h) m)
 new a m := (t.new a m).elim (s.new a) fun z => by
  by_cases q : a ∈ fp
  ·exact .inl q
  ·refine .inr ?_
   cases w : H a with
   | none => rfl
   | some o =>
    rw [s.keep a o w q] at z;cases z
 nw a h m z := t.nw a (by
  cases w : H a with
  | none => exact absurd w h
  | some o => exact dh (s.keep a o w m)) (s.out h m) (s.nw a h m z)
theorem Stt.set (s : Stt K n F H σ ρ fp) {i : Nat} (hi : i < n) {v : V} {x : OD} {fx : List Addr} (r : Res K F H v x fx) (d : ∀ a ∈ fx, a ∉ fp) :
  ∃ fp', Stt K n F H (σ.set i (some v)) (ρ.set i (some x)) fp' ∧ ∀ a ∈ fp', a ∈ fp ∨ a ∈ fx := by
 obtain ⟨f, g1, g2, e, k⟩ := s.own.put (i := i) (by rw [s.len]; exact hi)
 subst e;have nd := s.nd;have sub : ∀ a ∈ g1 ++ (fx ++ g2), a ∈ g1 ++ (f ++ g2) ∨ a ∈ fx := fun a m => by
  simp only [List.mem_append] at m ⊢;rcases m with m | m | m
  ·exact .inl (.inl m)
  ·exact .inr m
  ·exact .inl (.inr (.inr m))
 refine ⟨g1 ++ (fx ++ g2), ⟨s.same, k F H (aN.refl _) (fun _ _ _ q => q) v x fx r.own, ?_, fun a m => (sub a m).elim (s.fr a) (r.fr a), by rw [List.length_set]; exact s.len⟩, sub⟩
 simp only [List.nodup_append, List.mem_append] at nd d ⊢;obtain ⟨n1, ⟨n2, n3, n4⟩, n5⟩ := nd;refine ⟨n1, ⟨r.nd, n3, fun a ha b hb e => d a ha (.inr (.inr (e ▸ hb)))⟩, fun a ha b hb e => ?_⟩
 rcases hb with hb | hb
 ·exact d b hb (.inl (e ▸ ha))
 ·exact n5 a ha b (.inr hb) e
end
end L3
namespace L3
open PySem L2
structure Mx where
 K : PySem.W.Frag
 mg : Str → Option Value
 E : XK
noncomputable def XOk (M : Mx) (c : Str) (H : Hp) (fp : List Addr) : Prop := ∃ cv, M.mg c = some cv ∧ ∀ od H', (∀ a o, H a = some o → a ∉ fp → H' a = some o) → M.E cv od H'
noncomputable def ay (M : Mx) (H : Hp) (fp : List Addr) {α : Type} (P : α → Prop) : R α → Prop
 | .ok a => P a
 | .ex c => XOk M c H fp
 | .bad => False
noncomputable def OkE (M : Mx) (F H : Hp) (Q : VK) (x : OD) : Prop := ∀ v F' H' fx, Ext F H F' H' → Res M.K F' H' v x fx → (∀ a ∈ fx, H a = none) → Q v H'
noncomputable def OkL (M : Mx) (F H : Hp) (Q : List V → Hp → Prop) (x : List OD) : Prop := ∀ v F' H' fx, Ext F H F' H' → ResL M.K F' H' v x fx → (∀ a ∈ fx, H a = none) → Q v H'
noncomputable def OkH (F H : Hp) {α : Type} (Q : α → Hp → Prop) (x : α) : Prop := ∀ F' H', Ext F H F' H' → Q x H'
section
variable {M : Mx} {F H F1 H1 F2 H2 : Hp} {fp fp1 : List Addr} {α β : Type} {P P' : α → Prop} {r : R α}
theorem ay.bind {P : β → Prop} {g : α → R β} (h : ay M H fp P (r.bind g)) : ay M H fp (fun a => ay M H fp P (g a)) r := by
 cases r with
 | ok a => exact h
 | ex c => exact h
 | bad => exact h
theorem ay.mono (h : ay M H fp P r) (k : ∀ a, P a → P' a) : ay M H fp P' r := by
 cases r with
 | ok a => exact k a h
 | ex c => exact h
 | bad => exact h
theorem XOk.stp (s : Stp F H fp F1 H1 fp1) {c : Str} (h : XOk M c H fp) : XOk M c H1 fp1 :=
 let ⟨cv, e, k⟩ := h
 ⟨cv, e, fun od H' q => k od H' fun a o z m => q a o (s.keep a o z m) (s.out (dh z) m)⟩
theorem ay.stp (s : Stp F H fp F1 H1 fp1) (h : ay M H fp P r) : ay M H1 fp1 P r := by
 cases r with
 | ok a => exact h
 | ex c => exact XOk.stp s h
 | bad => exact h
theorem ay.ext (e : Ext F H F1 H1) (h : ay M H fp P r) : ay M H1 fp P r := h.stp e.stp
theorem ay.nofp (h : ay M H fp P r) : ay M H [] P r := by
 cases r with
 | ok a => exact h
 | ex c =>
  obtain ⟨cv, e, k⟩ := h;exact ⟨cv, e, fun od H' q => k od H' fun a o z _ => q a o z (by simp)⟩
 | bad => exact h
theorem OkE.pre {Q : VK} {x : OD} (e : Ext F H F1 H1) (h : OkE M F H Q x) : OkE M F1 H1 Q x := fun v F' H' fx e' r w => h v F' H' fx (e.trans e') r fun a m => e.hh.free (w a m)
theorem OkH.pre {Q : α → Hp → Prop} {x : α} (e : Ext F H F1 H1) (h : OkH F H Q x) : OkH F1 H1 Q x := fun F' H' e' => h F' H' (e.trans e')
theorem OkE.val {Q : VK} {d : PyData} {v : V} (s : aN F H) (h : OkE M F H Q (.sh d)) (r : Rep M.K F v d) : Q v H := h v F H [] (Ext.refl s) (Res.sh r) fun _ m => by cases m
theorem OkE.lst {Q : VK} {xs : List OD} {vs : List V} {f : List Addr} {p : Addr} (s : aN F H) (h : OkE M F1 H1 Q (.ol xs)) (e : Ext F1 H1 F H) (r : ResL M.K F H vs xs f) (w : ∀ a ∈ f, H1 a = none) (hp : H p = none) : Q (.ref p) (upd H p (.lst vs)) := by
 have np : p ∉ f := fun m => by
  obtain ⟨o, q⟩ := r.own.dom p m;rw [hp] at q;cases q
 refine h (.ref p) F _ (p :: f) (e.trans (Ext.alloc s hp)) ⟨.ol cm (r.own.mono (aN.refl _) fun a m o q => ?_), List.nodup_cons.mpr ⟨np, r.nd⟩, fun a m => ?_⟩ fun a m => ?_
 ·rw [aQ (a9 q hp)]
  exact q
 ·rcases List.mem_cons.mp m with rfl | m
  ·exact s.free hp
  ·exact r.fr a m
 ·rcases List.mem_cons.mp m with rfl | m
  ·exact e.hh.free hp
  ·exact w a m
theorem OkE.tup {Q : VK} {xs : List OD} {vs : List V} {f : List Addr} {p : Addr} (s : aN F H) (h : OkE M F1 H1 Q (.ot xs)) (e : Ext F1 H1 F H) (r : ResL M.K F H vs xs f) (w : ∀ a ∈ f, H1 a = none) (hp : H p = none) : Q (.ref p) (upd H p (.tup vs)) := by
 have np : p ∉ f := fun m => by
  obtain ⟨o, q⟩ := r.own.dom p m;rw [hp] at q;cases q
 refine h (.ref p) F _ (p :: f) (e.trans (Ext.alloc s hp)) ⟨.ot cm (r.own.mono (aN.refl _) fun a m o q => ?_), List.nodup_cons.mpr ⟨np, r.nd⟩, fun a m => ?_⟩ fun a m => ?_
 ·rw [aQ (a9 q hp)]
  exact q
 ·rcases List.mem_cons.mp m with rfl | m
  ·exact s.free hp
  ·exact r.fr a m
 ·rcases List.mem_cons.mp m with rfl | m
  ·exact e.hh.free hp
  ·exact w a m
theorem OkE.lstD {Q : VK} {ds : List PyData} {vs : List V} {p : Addr} (s : aN F H) (h : OkE M F H Q (.ol (ds.map OD.sh))) (r : RepAll M.K F vs ds) (hp : H p = none) : Q (.ref p) (upd H p (.lst vs)) :=
 OkE.lst s h (Ext.refl s) ⟨OwnL.shs r, List.nodup_nil, fun _ m => by cases m⟩ (fun _ m => by cases m) hp
theorem OkE.tupF {Q : VK} {ds : List PyData} {vs : List V} {p : Addr} (s : aN F H) (h : OkE M F1 H1 Q (.sh (.tuple ds))) (e : Ext F1 H1 F H) (r : RepAll M.K F vs ds) (hp : H p = none) : Q (.ref p) (upd H p (.tup vs)) :=
 h (.ref p) (upd F p (.tup vs)) _ [] (e.trans (Ext.allocF s hp)) (Res.sh (.tup cm (r.same ((aN.refl F).upd (s.free hp))))) fun _ m => by cases m
theorem OwnL.of_shs {K : PySem.W.Frag} {vs : List V} {xs : List OD} {f : List Addr} {ds : List PyData} (o : OwnL K F H vs xs f) (e : L3.shs xs = some ds) : f = [] ∧ RepAll K F vs ds := by
 induction xs generalizing vs f ds with
 | nil =>
  cases o;unfold L3.shs at e;cases e;exact ⟨rfl, .nil⟩
 | cons a0 r0 ih0 =>
 cases o with
 | cons h0 r =>
  have ih := fun ds => ih0 (ds := ds) r
  cases h0 with
  | sh h =>
   unfold L3.shs at e;split at e
   ·rename_i es q
    cases e;obtain ⟨rfl, k⟩ := ih _ q;exact ⟨rfl, .cons h k⟩
   ·cases e
  | ol _ _ =>
   unfold L3.shs at e;cases e
  | ot _ _ =>
   unfold L3.shs at e;cases e
  | od _ _ _ =>
   unfold L3.shs at e;cases e
end
noncomputable def tD (M : Mx) (n : Nat) (f : Fe) : TE := fun σ H Q => ∃ F ρ fp, Stt M.K n F H σ ρ fp ∧ ay M H fp (OkE M F H Q) (f ρ)
noncomputable def tA (M : Mx) (n : Nat) (f : Fa) : TA := fun σ H Q => ∃ F ρ fp, Stt M.K n F H σ ρ fp ∧ ay M H fp (OkL M F H Q) (f ρ)
noncomputable def tT (M : Mx) (n : Nat) (f : Ft) : TT := fun σ H Q => ∃ F ρ fp, Stt M.K n F H σ ρ fp ∧ ay M H fp (OkH F H Q) (f ρ)
noncomputable def tO (M : Mx) (n : Nat) (f : Fo) : TO := fun σ H Q => ∃ F ρ fp, Stt M.K n F H σ ρ fp ∧ ay M H fp (OkH F H Q) (f ρ)
noncomputable def Ok2 (M : Mx) (r : R2) (g : PyData → PyData → R OD) : Prop := ∀ (x y : V) (dx dy : PyData) (F H : Hp) (fp : List Addr) (Q : VK), aN F H → Rep M.K F x dx → Rep M.K F y dy → ay M H fp (OkE M F H Q) (g dx dy) → r x y H Q
noncomputable def Ok1 (M : Mx) (r : V → Hp → VK → Prop) (g : PyData → R OD) : Prop := ∀ (x : V) (dx : PyData) (F H : Hp) (fp : List Addr) (Q : VK), aN F H → Rep M.K F x dx → ay M H fp (OkE M F H Q) (g dx) → r x H Q
noncomputable def OkC (M : Mx) (r : List V → Hp → VK → Prop) (g : List PyData → R OD) : Prop := ∀ (x : List V) (dx : List PyData) (F H : Hp) (fp : List Addr) (Q : VK), aN F H → RepAll M.K F x dx → ay M H fp (OkE M F H Q) (g dx) → r x H Q
noncomputable def OkS (M : Mx) (r : V → Option Int → Option Int → Hp → VK → Prop) (g : PyData → Option Int → Option Int → R OD) : Prop := ∀ (x : V) (i j : Option Int) (dx : PyData) (F H : Hp) (fp : List Addr) (Q : VK), aN F H → Rep M.K F x dx → ay M H fp (OkE M F H Q) (g dx i j) → r x i j H Q
section
variable {M : Mx} {n : Nat} {σ : St} {H : Hp} {Q : VK} {QB : Bool → Hp → Prop} {fa fb : Fe} {ta tb : Ft}
theorem Dp {i : Nat} (h : tD M n (ag i) σ H Q) : rW i σ H Q := by
 obtain ⟨F, ρ, fp, S, p⟩ := h;unfold ag at p;split at p
 ·rename_i d e
  obtain ⟨v, f, g1, g2, h1, h2, h3, h4⟩ := S.own.at e;cases h2 with
  | sh r => exact ⟨v, h1, OkE.val S.same p r⟩
 ·exact p.elim
theorem d_c {v : V} {d : PyData} (hr : ∀ K F, Rep K F v d) (h : tD M n (eC d) σ H Q) : tC v σ H Q := by
 obtain ⟨F, ρ, fp, S, p⟩ := h;exact OkE.val S.same p (hr _ _)
theorem t8 {r : R2} {g : PyData → PyData → R OD} (hg : Ok2 M r g) (h : tD M n (eOp g fa fb) σ H Q) : tOp r (tD M n fa) (tD M n fb) σ H Q := by
 obtain ⟨F, ρ, fp, S, p⟩ := h;refine ⟨F, ρ, fp, S, (ay.bind p).mono fun x px v F1 H1 fx e1 r1 w1 => ?_⟩
 obtain ⟨G1, d1, k1⟩ := r1.frz e1 w1;refine ⟨G1, ρ, fp, S.ext d1, ((ay.bind px).ext d1).mono fun y py v2 F2 H2 fy e2 r2 w2 => ?_⟩
 obtain ⟨G2, d2, k2⟩ := r2.frz e2 w2;exact hg v v2 x.er y.er G2 H2 fp Q d2.fh (k1.same d2.ff) k2 ((py.ext (d1.trans d2)).mono fun z hz => hz.pre (d1.trans d2))
theorem En {r : V → Hp → VK → Prop} {g : PyData → R OD} (hg : Ok1 M r g) (h : tD M n (eUn g fa) σ H Q) : tUn r (tD M n fa) σ H Q := by
 obtain ⟨F, ρ, fp, S, p⟩ := h;refine ⟨F, ρ, fp, S, (ay.bind p).mono fun x px v F1 H1 fx e1 r1 w1 => ?_⟩
 obtain ⟨G1, d1, k1⟩ := r1.frz e1 w1;exact hg v x.er G1 H1 fp Q d1.fh k1 ((px.ext d1).mono fun z hz => hz.pre d1)
theorem kj {K : PySem.W.Frag} {F : Hp} {v : V} {d : PyData} {fp : List Addr} {P : Bool → Prop} (k : Rep K F v d) (p : ay M H fp P (truth d)) : ∃ b, v = .bl b ∧ P b := by
 cases d with
 | bool b =>
  cases k;exact ⟨b, rfl, p⟩
 | none => exact p.elim
 | int _ => exact p.elim
 | str _ => exact p.elim
 | list _ => exact p.elim
 | tuple _ => exact p.elim
 | dict _ => exact p.elim
theorem tE (h : tT M n (aJ fa) σ H QB) : xH (tD M n fa) σ H QB := by
 obtain ⟨F, ρ, fp, S, p⟩ := h;refine ⟨F, ρ, fp, S, (ay.bind p).mono fun x px v F1 H1 fx e1 r1 w1 => ?_⟩
 obtain ⟨G1, d1, k1⟩ := r1.frz e1 w1;obtain ⟨b, rfl, q⟩ := kj k1 px;exact ⟨b, rfl, q G1 H1 d1⟩
theorem d_b (h : tT M n (aJ fa) σ H QB) : tB (tD M n fa) σ H QB := tE h
theorem yK (h : tT M n (md ta tb) σ H QB) : Cz (tT M n ta) (tT M n tb) σ H QB := by
 obtain ⟨F, ρ, fp, S, p⟩ := h;refine ⟨F, ρ, fp, S, (ay.bind p).mono fun c pc F1 H1 e1 => ?_⟩
 cases c with
 | true =>
  rw [if_pos rfl] at pc ⊢;exact ⟨F1, ρ, fp, S.ext e1, (pc.ext e1).mono fun b hb => hb.pre e1⟩
 | false =>
  rw [if_neg Bool.false_ne_true] at pc ⊢;exact pc F1 H1 e1
theorem CH (h : tT M n (iF ta tb) σ H QB) : tOr (tT M n ta) (tT M n tb) σ H QB := by
 obtain ⟨F, ρ, fp, S, p⟩ := h;refine ⟨F, ρ, fp, S, (ay.bind p).mono fun c pc F1 H1 e1 => ?_⟩
 cases c with
 | true =>
  rw [if_pos rfl] at pc ⊢;exact pc F1 H1 e1
 | false =>
  rw [if_neg Bool.false_ne_true] at pc ⊢;exact ⟨F1, ρ, fp, S.ext e1, (pc.ext e1).mono fun b hb => hb.pre e1⟩
theorem yH (h : tT M n (fw ta) σ H QB) : Cu (tT M n ta) σ H QB := by
 obtain ⟨F, ρ, fp, S, p⟩ := h;exact ⟨F, ρ, fp, S, (ay.bind p).mono fun c pc F1 H1 e1 => pc F1 H1 e1⟩
theorem Dm (h : tD M n (nX fa fb) σ H Q) : xM (tD M n fa) (tD M n fb) σ H Q := by
 obtain ⟨F, ρ, fp, S, p⟩ := h;refine ⟨F, ρ, fp, S, (ay.bind p).mono fun x px v F1 H1 fx e1 r1 w1 => ?_⟩
 obtain ⟨G1, d1, k1⟩ := r1.frz e1 w1;obtain ⟨b, rfl, q⟩ := kj k1 (ay.bind px);refine ⟨b, rfl, ?_⟩;cases b with
 | true =>
  rw [if_pos rfl] at q ⊢;exact ⟨G1, ρ, fp, S.ext d1, (q.ext d1).mono fun z hz => hz.pre d1⟩
 | false =>
  rw [if_neg Bool.false_ne_true] at q ⊢;exact OkE.val d1.fh (OkE.pre d1 q) (.bl _)
theorem Di (h : tD M n (rN fa) σ H Q) : xD (tD M n fa) σ H Q := by
 obtain ⟨F, ρ, fp, S, p⟩ := h;refine ⟨F, ρ, fp, S, (ay.bind p).mono fun x px v F1 H1 fx e1 r1 w1 => ?_⟩
 obtain ⟨G1, d1, k1⟩ := r1.frz e1 w1;obtain ⟨b, rfl, q⟩ := kj k1 (ay.bind px);exact ⟨b, rfl, OkE.val d1.fh (OkE.pre d1 q) (.bl _)⟩
theorem Er (h : tD M n (eIf ta fa fb) σ H Q) : tIf (tT M n ta) (tD M n fa) (tD M n fb) σ H Q := by
 obtain ⟨F, ρ, fp, S, p⟩ := h;refine ⟨F, ρ, fp, S, (ay.bind p).mono fun c pc F1 H1 e1 => ?_⟩
 cases c with
 | true =>
  rw [if_pos rfl] at pc ⊢;exact ⟨F1, ρ, fp, S.ext e1, (pc.ext e1).mono fun b hb => hb.pre e1⟩
 | false =>
  rw [if_neg Bool.false_ne_true] at pc ⊢;exact ⟨F1, ρ, fp, S.ext e1, (pc.ext e1).mono fun b hb => hb.pre e1⟩
theorem BC (h : tD M n (eSh fa) σ H Q) : tD M n fa σ H Q := by
 obtain ⟨F, ρ, fp, S, p⟩ := h;refine ⟨F, ρ, fp, S, (ay.bind p).mono fun x px v F1 H1 fx e1 r1 w1 => ?_⟩
 obtain ⟨G1, d1, k1⟩ := r1.frz e1 w1;exact OkE.val d1.fh (OkE.pre d1 px) k1
theorem t6 {K : PySem.W.Frag} {F G : Hp} {v : V} {d : PyData} (h : flat d = true) (r : Rep K F v d) : Rep K G v d := by
 cases r with
 | non => exact .non
 | bl b => exact .bl b
 | int i => exact .int i
 | str x => exact .str x
 | lst _ _ => cases h
 | tup _ _ => cases h
 | dct _ _ _ => cases h
theorem AR (h : tD M n (qL fa) σ H Q) : tD M n fa σ H Q := by
 obtain ⟨F, ρ, fp, S, p⟩ := h;refine ⟨H, erase ρ, [], S.erase, (ay.bind p).nofp.mono fun x px v F1 H1 fx e1 r1 w1 => ?_⟩
 by_cases hf : flat x.er = true
 ·rw [if_pos hf] at px
  obtain ⟨G1, d1, k1⟩ := r1.frz e1 w1;exact px v F H1 [] ⟨aN.refl _, d1.hh, S.same.trans d1.hh, fun _ _ z => z⟩ (Res.sh (t6 hf k1)) fun _ m => by cases m
 ·rw [if_neg hf] at px
  exact px.elim
theorem yb (h : tT M n (sy ta) σ H QB) : tT M n ta σ H QB := by
 obtain ⟨F, ρ, fp, S, p⟩ := h;refine ⟨H, erase ρ, [], S.erase, (show ay M H fp _ (ta (erase ρ)) from p).nofp.mono fun b pb F1 H1 e1 => ?_⟩
 exact pb F H1 ⟨aN.refl _, e1.hh, S.same.trans e1.hh, fun _ _ z => z⟩
variable {QL : List V → Hp → Prop} {al : Fa}
theorem AK (h : tA M n ax σ H QL) : qI σ H QL := by
 obtain ⟨F, ρ, fp, S, p⟩ := h;exact p [] F H [] (Ext.refl S.same) ResL.nil fun _ m => by cases m
theorem vJ (h : tA M n (aj fa al) σ H QL) : lP (tD M n fa) (tA M n al) σ H QL := by
 obtain ⟨F, ρ, fp, S, p⟩ := h;refine ⟨F, ρ, fp, S, (ay.bind p).mono fun x px v F1 H1 fx e1 r1 w1 => ?_⟩
 refine ⟨F1, ρ, fp, S.ext e1, ((ay.bind px).ext e1).mono fun xs pxs vs F2 H2 fxs e2 r2 w2 => ?_⟩
 refine pxs (v :: vs) F2 H2 (fx ++ fxs) (e1.trans e2) (ResL.cons (r1.ext e2) r2 fun a m q => ?_) fun a m => ?_
 ·obtain ⟨o, z⟩ := r1.own.dom a m
  rw [w2 a q] at z;cases z
 ·rcases List.mem_append.mp m with m | m
  ·exact w1 a m
  ·exact e1.hh.free (w2 a m)
theorem gO {k : Nat} (h : k ≤ BIG) : k ≤ sizeLine := Nat.le_trans h (by decide)
theorem oU {k : Nat} (h : k < BIG) : k < sizeLine := Nat.lt_of_lt_of_le h (by decide)
theorem Cb (h : tD M n (dB al) σ H Q) : Co (tA M n al) σ H Q := by
 obtain ⟨F, ρ, fp, S, p⟩ := h;refine ⟨F, ρ, fp, S, (ay.bind p).mono fun xs px vs F1 H1 fx e1 r1 w1 => ?_⟩
 by_cases hl : xs.length ≤ BIG
 ·rw [if_pos hl] at px
  exact ⟨by rw [r1.own.len]; exact gO hl, fun a ha => OkE.lst e1.fh px e1 r1 w1 ha⟩
 ·rw [if_neg hl] at px
  exact px.elim
theorem C6 (h : tD M n (lh al) σ H Q) : CG (tA M n al) σ H Q := by
 obtain ⟨F, ρ, fp, S, p⟩ := h;refine ⟨F, ρ, fp, S, (ay.bind p).mono fun xs px vs F1 H1 fx e1 r1 w1 => ?_⟩
 by_cases hl : xs.length ≤ BIG
 ·rw [if_pos hl] at px
  refine ⟨by rw [r1.own.len]; exact gO hl, fun a ha => ?_⟩
  unfold mkT at px;split at px
  ·rename_i ds q
   obtain ⟨_, k⟩ := OwnL.of_shs r1.own q;exact OkE.tupF e1.fh px e1 k ha
  ·exact OkE.tup e1.fh px e1 r1 w1 ha
 ·rw [if_neg hl] at px
  exact px.elim
noncomputable def sp3 (K : PySem.W.Frag) (mg : Str → Option Value) (f : Fn) : Sp := fun vs H Q E => ∃ F ds, aN F H ∧ RepAll K F vs ds ∧ ay ⟨K, mg, E⟩ H [] (OkE ⟨K, mg, E⟩ F H Q) (f ds)
theorem ue {f : Fn} (h : tD M n (aV f al) σ H Q) : rQ (sp3 M.K M.mg f) [] M.E (tA M n al) σ H Q := by
 obtain ⟨F, ρ, fp, S, p⟩ := h;refine ⟨F, ρ, fp, S, (ay.bind p).mono fun xs px vs F1 H1 fx e1 r1 w1 => ?_⟩
 obtain ⟨G1, d1, k1⟩ := r1.frz e1 w1;rw [List.append_nil];exact ⟨G1, xs.map OD.er, d1.fh, k1, (px.ext d1).nofp.mono fun z hz => hz.pre d1⟩
theorem DM {r : List V → Hp → VK → Prop} {g : List PyData → R OD} (hg : OkC M r g) (h : tD M n (eB g al) σ H Q) : tCB r (tA M n al) σ H Q := by
 obtain ⟨F, ρ, fp, S, p⟩ := h;refine ⟨F, ρ, fp, S, (ay.bind p).mono fun xs px vs F1 H1 fx e1 r1 w1 => ?_⟩
 obtain ⟨G1, d1, k1⟩ := r1.frz e1 w1;exact hg vs (xs.map OD.er) G1 H1 fp Q d1.fh k1 ((px.ext d1).mono fun z hz => hz.pre d1)
variable {QO : Option Int → Hp → Prop} {lo hi : Fo}
theorem we (h : tO M n dz σ H QO) : p_ σ H QO := by
 obtain ⟨F, ρ, fp, S, p⟩ := h;exact p F H (Ext.refl S.same)
theorem wJ (h : tO M n (dj fa) σ H QO) : xu (tD M n fa) σ H QO := by
 obtain ⟨F, ρ, fp, S, p⟩ := h;refine ⟨F, ρ, fp, S, (ay.bind p).mono fun x px v F1 H1 fx e1 r1 w1 => ?_⟩
 obtain ⟨G1, d1, k1⟩ := r1.frz e1 w1;generalize x.er = d at px k1
 cases d with
 | int i =>
  cases k1;exact ⟨i, rfl, px G1 H1 d1⟩
 | none => exact px.elim
 | bool _ => exact px.elim
 | str _ => exact px.elim
 | list _ => exact px.elim
 | tuple _ => exact px.elim
 | dict _ => exact px.elim
theorem Ep {r : V → Option Int → Option Int → Hp → VK → Prop} {g : PyData → Option Int → Option Int → R OD} (hg : OkS M r g) (h : tD M n (eSl g fa lo hi) σ H Q) : tSl r (tD M n fa) (tO M n lo) (tO M n hi) σ H Q := by
 obtain ⟨F, ρ, fp, S, p⟩ := h;refine ⟨F, ρ, fp, S, (ay.bind p).mono fun x px v F1 H1 fx e1 r1 w1 => ?_⟩
 obtain ⟨G1, d1, k1⟩ := r1.frz e1 w1;refine ⟨G1, ρ, fp, S.ext d1, ((ay.bind px).ext d1).mono fun i pi F2 H2 e2 => ?_⟩
 refine ⟨F2, ρ, fp, (S.ext d1).ext e2, ((ay.bind pi).ext (d1.trans e2)).mono fun j pj F3 H3 e3 => ?_⟩
 have e := (d1.trans e2).trans e3;exact hg v i j x.er F3 H3 fp Q e3.fh ((k1.same e2.ff).same e3.ff) ((pj.ext e).mono fun z hz => hz.pre e)
end
end L3
namespace L3
open PySem L2
noncomputable def eA (M : Mx) (n : Nat) (F H : Hp) (fp : List Addr) (D : Ends) : Out → Prop
 | .nx ρ => ∀ σ' F' H' fp', Stt M.K n F' H' σ' ρ fp' → Stp F H fp F' H' fp' → D.nx σ' H'
 | .bk ρ => ∀ σ' F' H' fp', Stt M.K n F' H' σ' ρ fp' → Stp F H fp F' H' fp' → D.bk σ' H'
 | .ct ρ => ∀ σ' F' H' fp', Stt M.K n F' H' σ' ρ fp' → Stp F H fp F' H' fp' → D.ct σ' H'
 | .rt x => ∀ v F' H' fx, aN F' H' → Res M.K F' H' v x fx → Stp F H fp F' H' fx → D.rt v H'
noncomputable def tS (M : Mx) (n : Nat) (f : Fs) : TS := fun D σ H => ∃ F ρ fp, Stt M.K n F H σ ρ fp ∧ ay M H fp (eA M n F H fp D) (f ρ)
noncomputable def OkG (M : Mx) (n : Nat) (is : List Nat) (F H : Hp) (fp : List Addr) (σ : St) (Q : St → Hp → Prop) (ρ : Env) : Prop :=
 ∀ σ' F' H' fp', Stt M.K n F' H' σ' ρ fp' → Stp F H fp F' H' fp' → (∀ j, j ∉ is → σ'[j]? = σ[j]?) → Q σ' H'
noncomputable def tG (M : Mx) (n : Nat) (is : List Nat) (f : Fg) : TG := fun v σ H Q => ∃ F ρ fp x fx, Stt M.K n F H σ ρ fp ∧ Res M.K F H v x fx ∧ (∀ a ∈ fx, a ∉ fp) ∧ ay M H (fp ++ fx) (OkG M n is F H (fp ++ fx) σ Q) (f x ρ)
noncomputable def tGs (M : Mx) (n : Nat) (is : List Nat) (f : Fgs) : TGs := fun vs σ H Q => ∃ F ρ fp xs fx, Stt M.K n F H σ ρ fp ∧ ResL M.K F H vs xs fx ∧ (∀ a ∈ fx, a ∉ fp) ∧ ay M H (fp ++ fx) (OkG M n is F H (fp ++ fx) σ Q) (f xs ρ)
section
variable {M : Mx} {n : Nat} {F H F1 H1 F2 H2 : Hp} {fp fp1 fp2 : List Addr} {σ : St} {ρ : Env} {D : Ends}
theorem eA.stp (s : Stp F H fp F1 H1 fp1) {o : Out} (h : eA M n F H fp D o) : eA M n F1 H1 fp1 D o := by
 cases o with
 | nx ρ => exact fun σ' F' H' fp' a b => h σ' F' H' fp' a (s.trans b)
 | bk ρ => exact fun σ' F' H' fp' a b => h σ' F' H' fp' a (s.trans b)
 | ct ρ => exact fun σ' F' H' fp' a b => h σ' F' H' fp' a (s.trans b)
 | rt x => exact fun v F' H' fx a b c => h v F' H' fx a b (s.trans c)
theorem PostS.stp (s : Stp F H fp F1 H1 fp1) {r : R Out} (h : ay M H fp (eA M n F H fp D) r) : ay M H1 fp1 (eA M n F1 H1 fp1 D) r := (h.stp s).mono fun o ho => ho.stp s
theorem Ext.stpN {fx : List Addr} (e : Ext F H F1 H1) (w : ∀ a ∈ fx, H a = none) : Stp F H fp F1 H1 (fp ++ fx) :=
 ⟨e.ff, fun a o h _ => e.hh a o h, fun a m => (List.mem_append.mp m).elim .inl fun m => .inr (w a m), fun a h _ z => e.nw a h z⟩
theorem Stp.sub (s : Stp F H fp F1 H1 fp1) (h : ∀ a ∈ fp2, a ∈ fp1) : Stp F H fp F1 H1 fp2 := ⟨s.ff, s.keep, fun a m => s.new a (h a m), s.nw⟩
theorem yR (h : tS M n sNx D σ H) : xp D σ H := by
 obtain ⟨F, ρ, fp, S, p⟩ := h;exact p σ F H fp S Stp.refl
theorem Bi {f g : Fs} (h : tS M n (aI f g) D σ H) : DB (tS M n f) (tS M n g) D σ H := by
 obtain ⟨F, ρ, fp, S, p⟩ := h;refine ⟨F, ρ, fp, S, (ay.bind p).mono fun o po => ?_⟩
 cases o with
 | nx ρ1 => exact fun σ' F' H' fp' S' st => ⟨F', ρ1, fp', S', PostS.stp st po⟩
 | bk ρ => exact po
 | ct ρ => exact po
 | rt x => exact po
theorem BQ (h : tS M n lz D σ H) : sC D σ H := by
 obtain ⟨F, ρ, fp, S, p⟩ := h;exact p
theorem E_ {t : Ft} {f g : Fs} (h : tS M n (sIf t f g) D σ H) : Ef (tT M n t) (tS M n f) (tS M n g) D σ H := by
 obtain ⟨F, ρ, fp, S, p⟩ := h;refine ⟨F, ρ, fp, S, (ay.bind p).mono fun c pc F1 H1 e1 => ?_⟩
 cases c with
 | true =>
  rw [if_pos rfl] at pc ⊢;exact ⟨F1, ρ, fp, S.ext e1, PostS.stp e1.stp pc⟩
 | false =>
  rw [if_neg Bool.false_ne_true] at pc ⊢;exact ⟨F1, ρ, fp, S.ext e1, PostS.stp e1.stp pc⟩
theorem xP {a : Fe} (h : tS M n (iY a) D σ H) : pO (tD M n a) D σ H := by
 obtain ⟨F, ρ, fp, S, p⟩ := h;exact ⟨F, ρ, fp, S, (ay.bind p).mono fun x px v F1 H1 fx e1 r1 w1 => px σ F1 H1 fp (S.ext e1) e1.stp⟩
theorem Dj {a : Fe} (h : tS M n (c_ a) D σ H) : zU (tD M n a) D σ H := by
 obtain ⟨F, ρ, fp, S, p⟩ := h;exact ⟨F, ρ, fp, S, (ay.bind p).mono fun x px v F1 H1 fx e1 r1 w1 => px v F1 H1 fx e1.fh r1 ((e1.stpN w1).sub fun a m => List.mem_append_right _ m)⟩
theorem zb {i : Nat} (h : tS M n (gj i) D σ H) : zU (rW i) D σ H := by
 obtain ⟨F, ρ, fp, S, p⟩ := h;unfold gj at p;split at p
 ·rename_i x e
  obtain ⟨v, f, g1, g2, h1, h2, rfl, h4⟩ := S.own.at e;have sub : ∀ a ∈ f, a ∈ g1 ++ (f ++ g2) := fun a m => List.mem_append_right _ (List.mem_append_left _ m)
  refine ⟨v, h1, p v F H f S.same ⟨h2, ?_, fun a m => S.fr a (sub a m)⟩ (Stp.refl.sub sub)⟩
  have nd := S.nd;simp only [List.nodup_append] at nd;exact nd.2.1.1
 ·exact p.elim
theorem Dd {a : Fe} {is : List Nat} {g : Fg} (h : tS M n (u7 a g) D σ H) : wm (tD M n a) (tG M n is g) D σ H := by
 obtain ⟨F, ρ, fp, S, p⟩ := h;refine ⟨F, ρ, fp, S, (ay.bind p).mono fun x px v F1 H1 fx e1 r1 w1 => ?_⟩
 have st := e1.stpN (fp := fp) w1;refine ⟨F1, ρ, fp, x, fx, S.ext e1, r1, fun a m q => ?_, ((ay.bind px).stp st).mono fun ρ' hρ σ' F' H' fp' S' s' _ => hρ σ' F' H' fp' S' (st.trans s')⟩
 obtain ⟨o, z⟩ := S.own.dom a q;rw [w1 a m] at z;cases z
theorem tL {i : Nat} (hi : i < n) {v : V} {Q : St → Hp → Prop} (h : tG M n [i] (gNm i) v σ H Q) : oj i v σ H Q := by
 obtain ⟨F, ρ, fp, x, fx, S, r, d, p⟩ := h;obtain ⟨fp', S', sub⟩ := S.set hi r d;refine p _ F H fp' S' ⟨aN.refl _, fun _ _ h _ => h, fun a m => .inl (List.mem_append.mpr (sub a m)), fun _ _ _ z => z⟩ fun j hj => ?_
 have hne : i ≠ j := by
  rintro rfl;exact hj (by simp)
 rw [List.getElem?_set_ne hne]
theorem BU {vs : List V} {Q : St → Hp → Prop} (h : tGs M n [] iX vs σ H Q) : Ec vs σ H Q := by
 obtain ⟨F, ρ, fp, xs, fx, S, r, d, p⟩ := h;cases xs with
 | nil =>
  cases r.own with
  | nil => exact ⟨rfl, p σ F H fp S (Stp.refl.sub fun a m => List.mem_append_left _ m) fun _ _ => rfl⟩
 | cons x xs => exact p.elim
theorem yG {vs : List V} {is js : List Nat} {g : Fg} {gs : Fgs} {Q : St → Hp → Prop} (h : tGs M n (is ++ js) (d_ g gs) vs σ H Q) : xx (tG M n is g) (tGs M n js gs) vs σ H Q := by
 obtain ⟨F, ρ, fp, xs, fx, S, r, d, p⟩ := h;cases xs with
 | nil => exact p.elim
 | cons x xs =>
  obtain ⟨ro, rn, rf⟩ := r;cases ro with
  | @cons v _ f vs _ g' h1 h2 =>
   have nd := rn;simp only [List.nodup_append] at nd;refine ⟨v, vs, rfl, F, ρ, fp, x, f, S, ⟨h1, nd.1, fun a m => rf a (List.mem_append_left _ m)⟩, fun a m => d a (List.mem_append_left _ m), ?_⟩
   have p' : ay M H (fp ++ (f ++ g')) _ ((g x ρ).bind fun ρ' => gs xs ρ') := p
   have s0 : Stp F H (fp ++ (f ++ g')) F H (fp ++ f) := Stp.refl.sub fun a m => by
    simp only [List.mem_append] at m ⊢;rcases m with m | m
    ·exact .inl m
    ·exact .inr (.inl m)
   refine ((ay.bind p').stp s0).mono fun ρ1 p1 σ1 F1 H1 fp1 S1 s1 t1 => ?_
   have gd : ∀ a ∈ g', a ∉ fp ++ f := fun a m q => by
    rcases List.mem_append.mp q with q | q
    ·exact d a (List.mem_append_right _ m) q
    ·exact nd.2.2 a q a m rfl
   have hd : ∀ a ∈ g', H a ≠ none := fun a m => let ⟨_, q⟩ := h2.dom a m; dh q
   have k1 : ∀ a ∈ g', ∀ o, H a = some o → H1 a = some o := fun a m o q => s1.keep a o q (gd a m)
   have out : ∀ a ∈ g', a ∉ fp1 := fun a m => s1.out (hd a m) (gd a m)
   have s2 : Stp F H (fp ++ (f ++ g')) F1 H1 (fp1 ++ g') := ⟨s1.ff, fun a o q m => s1.keep a o q (fun z => m (by simp only [List.mem_append] at z ⊢; rcases z with z | z <;> simp [z])), fun a m => by
    rcases List.mem_append.mp m with m | m
    ·rcases s1.new a m with z | z
     ·exact .inl (by simp only [List.mem_append] at z ⊢; rcases z with z | z <;> simp [z])
     ·exact .inr z
    ·exact .inl (by simp [m]), fun a q m z => s1.nw a q (fun w => m (by simp only [List.mem_append] at w ⊢; rcases w with w | w <;> simp [w])) z⟩
   refine ⟨F1, ρ1, fp1, xs, g', S1, ⟨h2.mono s1.ff k1, nd.2.1, fun a m => s1.nw a (hd a m) (gd a m) (rf a (List.mem_append_right _ m))⟩, out, (p1.stp s2).mono fun ρ' hρ σ' F' H' fp' S' s' t' => hρ σ' F' H' fp' S' (s2.trans s') fun j hj => ?_⟩
   have hj1 : j ∉ is := fun z => hj (List.mem_append_left _ z)
   have hj2 : j ∉ js := fun z => hj (List.mem_append_right _ z)
   rw [t' j hj2, t1 j hj1]
theorem Dv {k : Nat} {v : V} {is : List Nat} {gs : Fgs} {Q : St → Hp → Prop} (h : tG M n is (gTp k gs) v σ H Q) : C7 M.K k (tGs M n is gs) v σ H Q := by
 obtain ⟨F, ρ, fp, x, fx, S, r, d, p⟩ := h;unfold gTp at p;split at p
 ·rename_i xs
  obtain ⟨ro, rn, rf⟩ := r;cases ro with
  | @ot a vs _ f h1 h2 =>
   by_cases hl : xs.length = k
   ·rw [if_pos hl] at p
    have nd := List.nodup_cons.mp rn;have s0 : Stp F H (fp ++ (a :: f)) F H (fp ++ f) := Stp.refl.sub fun b m => by
     simp only [List.mem_append, List.mem_cons] at m ⊢;rcases m with m | m <;> simp [m]
    exact ⟨a, vs, rfl, SqT.of h1, by rw [h2.len]; exact hl, F, ρ, fp, xs, f, S, ⟨h2, nd.2, fun b m => rf b (List.mem_cons_of_mem _ m)⟩, fun b m => d b (List.mem_cons_of_mem _ m), (p.stp s0).mono fun ρ' hρ σ' F' H' fp' S' s' t' => hρ σ' F' H' fp' S' (s0.trans s') t'⟩
   ·rw [if_neg hl] at p
    exact p.elim
 ·rename_i ds
  obtain ⟨ro, rn, rf⟩ := r;cases ro with
  | sh q =>
   by_cases hl : ds.length = k
   ·rw [if_pos hl] at p
    cases q with
    | @tup a vs _ h1 h2 =>
     exact ⟨a, vs, rfl, SqT.of (S.same _ _ h1), by rw [RepAll.len h2]; exact hl, F, ρ, fp, ds.map OD.sh, [], S, ⟨OwnL.shs h2, List.nodup_nil, fun _ m => by cases m⟩, (fun _ m => by cases m), p⟩
   ·rw [if_neg hl] at p
    exact p.elim
 ·exact p.elim
theorem xo {a : Fe} {i : Nat} (hi : i < n) (h : tS M n (bx i a) D σ H) : wm (tD M n a) (oj i) D σ H := by
 have h' : tS M n (u7 a (gNm i)) D σ H := h;obtain ⟨F, ρ, fp, S, p⟩ := Dd (is := [i]) h';exact ⟨F, ρ, fp, S, p.mono fun x px v F1 H1 fx e1 r1 w1 => tL hi (px v F1 H1 fx e1 r1 w1)⟩
end
noncomputable def Walks (K : PySem.W.Frag) (F : Hp) (J : It) (ds : List PyData) : Prop := ∀ i G H, aN F G → aN G H →
 (∀ d, ds[i]? = some d → J.go i H ∧ ∀ x H', J.yld i H x H' → ∃ G', Ext G H G' H' ∧ Rep K G' x d) ∧ (ds.length ≤ i → J.stop i H)
noncomputable def OkI (K : PySem.W.Frag) (F H : Hp) (R : It → Hp → Prop) (ds : List PyData) : Prop := ∀ J F' H', Ext F H F' H' → Walks K F' J ds → R J H'
noncomputable def tI (M : Mx) (n : Nat) (f : Fi) : TI := fun σ H R => ∃ F ρ fp, Stt M.K n F H σ ρ fp ∧ ay M H fp (OkI M.K F H R) (f ρ)
section
variable {M : Mx} {n : Nat} {F H : Hp} {σ : St} {D : Ends} {R' : It → Hp → Prop}
theorem AI {a : Fe} (h : tI M n (sD a) σ H R') : xK M.K (tD M n a) σ H R' := by
 obtain ⟨F, ρ, fp, S, p⟩ := h;refine ⟨F, ρ, fp, S, (ay.bind p).mono fun x px v F1 H1 fx e1 r1 w1 => ?_⟩
 obtain ⟨G1, d1, k1⟩ := r1.frz e1 w1;generalize x.er = d at px k1
 cases k1 with
 | @lst a vs ds h1 h2 =>
  refine ⟨a, rfl, ⟨vs, (h1.same d1.fh).sq⟩, px _ G1 H1 d1 fun i G H' s1 s2 => ?_⟩
  have hq := (h1.same (s1.trans s2)).sq;refine ⟨fun d hd => ?_, fun hl => ⟨vs, hq, by rw [RepAll.len h2]; exact hl⟩⟩
  obtain ⟨u, hu, ru⟩ := RepAll.get h2 hd;refine ⟨⟨vs, u, hq, hu⟩, fun x H2 y => ?_⟩
  obtain ⟨rfl, y⟩ := y;have hx := y vs hq;rw [hu] at hx;cases hx;exact ⟨G, Ext.refl s2, ru.same s1⟩
 | non => exact px.elim
 | bl _ => exact px.elim
 | int _ => exact px.elim
 | str _ => exact px.elim
 | dct _ _ _ => exact px.elim
 | tup _ _ => exact px.elim
theorem lp {K : PySem.W.Frag} (lo : Int) (k : Nat) : Walks K F (Itr lo k) (iC lo k) := by
 intro i G H s1 s2;unfold iC;refine ⟨fun d hd => ?_, fun hl => (show k ≤ i by simpa using hl)⟩
 rw [List.getElem?_map] at hd;obtain ⟨j, hj, rfl⟩ := Option.map_eq_some_iff.mp hd;obtain ⟨h1, h2⟩ := List.getElem?_eq_some_iff.mp hj;have h3 : i = j := by simpa using h2
 subst h3;refine ⟨(show i < k by simpa using h1), fun x H' y => ?_⟩
 obtain ⟨rfl, rfl⟩ := y;exact ⟨G, Ext.refl s2, .int _⟩
theorem gi {i : Int} : aZ i = true ↔ -(2 ^ 62) ≤ i ∧ i < 2 ^ 62 := by
 unfold aZ;rw [Bool.and_eq_true, decide_eq_true_eq, decide_eq_true_eq]
theorem Eo {a : Fe} (h : tI M n (iR1 a) σ H R') : xv (tA M n (aj a ax)) σ H R' := by
 obtain ⟨F, ρ, fp, S, p⟩ := h;refine ⟨F, ρ, fp, S, ?_⟩;have p1 := ay.bind p;show ay M H fp _ ((a ρ).bind fun x => R.ok [x])
 cases ha : a ρ with
 | bad => rw [ha] at p1; exact p1
 | ex c => rw [ha] at p1; exact p1
 | ok x =>
  rw [ha] at p1;intro vs F1 H1 fx e1 r1 w1;obtain ⟨G1, d1, k1⟩ := r1.frz e1 w1;cases k1 with
  | @cons v _ _ _ k1 k2 =>
   cases k2;have p2 : ay M H fp (OkI M.K F H R') (match x.er with | .int j => if aZ j = true then .ok (iC 0 j.toNat) else .bad | _ => .bad) := p1
   generalize x.er = d at p2 k1
   cases k1 with
   | int j =>
    by_cases hs : aZ j = true
    ·have hs' := gi.mp hs
     have p3 : ay M H fp (OkI M.K F H R') (if aZ j = true then .ok (iC 0 j.toNat) else .bad) := p2
     rw [if_pos hs] at p3;exact ⟨j, rfl, hs'.1, hs'.2, p3 _ G1 H1 d1 (lp _ _)⟩
    ·have p3 : ay M H fp (OkI M.K F H R') (if aZ j = true then .ok (iC 0 j.toNat) else .bad) := p2
     rw [if_neg hs] at p3;exact p3.elim
   | non => exact p2.elim
   | bl _ => exact p2.elim
   | str _ => exact p2.elim
   | dct _ _ _ => exact p2.elim
   | lst _ _ => exact p2.elim
   | tup _ _ => exact p2.elim
theorem nN {a b : Fe} {g : PyData → PyData → R (List PyData)} {ρ : Env} {fp : List Addr} {QL : List V → Hp → Prop}
  (p : ay M H fp (OkI M.K F H R') ((a ρ).bind fun x => (b ρ).bind fun y => g x.er y.er))
  (k : ∀ v w dx dy G H1, Ext F H G H1 → Rep M.K G v dx → Rep M.K G w dy → ay M H fp (OkI M.K F H R') (g dx dy) → QL [v, w] H1) :
  ay M H fp (OkL M F H QL) (aj a (aj b ax) ρ) := by
 show ay M H fp _ ((a ρ).bind fun x => ((b ρ).bind fun y => R.ok [y]).bind fun xs => R.ok (x :: xs))
 have p1 := ay.bind p;cases ha : a ρ with
 | bad => rw [ha] at p1; exact p1
 | ex c => rw [ha] at p1; exact p1
 | ok x =>
  rw [ha] at p1;have p2 : ay M H fp _ (b ρ) := ay.bind p1;show ay M H fp _ (((b ρ).bind fun y => R.ok [y]).bind fun xs => R.ok (x :: xs))
  cases hb : b ρ with
  | bad => rw [hb] at p2; exact p2
  | ex c => rw [hb] at p2; exact p2
  | ok y =>
   rw [hb] at p2;intro vs F1 H1 fx e1 r1 w1;obtain ⟨G1, d1, k1⟩ := r1.frz e1 w1;cases k1 with
   | @cons v _ _ _ k1 k2 =>
    cases k2 with
    | @cons w _ _ _ k2 k3 =>
     cases k3;exact k v w x.er y.er G1 H1 d1 k1 k2 p2
noncomputable def r2F (x y : PyData) : R (List PyData) := match x, y with
 | .int i, .int j => if (aZ i && aZ j) = true then .ok (iC i (j - i).toNat) else .bad
 | _, _ => .bad
theorem Eu {a b : Fe} (h : tI M n (iR2 a b) σ H R') : xm (tA M n (aj a (aj b ax))) σ H R' := by
 obtain ⟨F, ρ, fp, S, p⟩ := h;refine ⟨F, ρ, fp, S, nN (g := r2F) (by unfold iR2 at p; exact p) fun v w dx dy G H1 e rv rw' q => ?_⟩
 unfold r2F at q;split at q
 ·rename_i i j
  cases rv;cases rw';by_cases hs : (aZ i && aZ j) = true
  ·rw [if_pos hs] at q
   rw [Bool.and_eq_true] at hs;have h1 := gi.mp hs.1;have h2 := gi.mp hs.2;exact ⟨i, j, rfl, ⟨h1.1, h1.2, h2.1, h2.2⟩, q _ G H1 e (lp _ _)⟩
  ·rw [if_neg hs] at q
   exact q.elim
 ·exact q.elim
theorem fR {ds : List PyData} {i : Nat} {d : PyData} (h : (gk ds)[i]? = some d) : ∃ e, ds[i]? = some e ∧ d = .tuple [.int i, e] := by
 unfold gk at h;rw [List.getElem?_map] at h;obtain ⟨p, hp, rfl⟩ := Option.map_eq_some_iff.mp h;rw [List.getElem?_zipIdx] at hp;obtain ⟨e, he, rfl⟩ := Option.map_eq_some_iff.mp hp;exact ⟨e, he, by simp⟩
theorem zo {a : Fe} (h : tI M n (iEn a) σ H R') : xN M.K (tA M n (aj a ax)) σ H R' := by
 obtain ⟨F, ρ, fp, S, p⟩ := h;refine ⟨F, ρ, fp, S, ?_⟩;have p1 := ay.bind p;show ay M H fp _ ((a ρ).bind fun x => R.ok [x])
 cases ha : a ρ with
 | bad => rw [ha] at p1; exact p1
 | ex c => rw [ha] at p1; exact p1
 | ok x =>
  rw [ha] at p1;intro vs F1 H1 fx e1 r1 w1;obtain ⟨G1, d1, k1⟩ := r1.frz e1 w1;cases k1 with
  | @cons v _ _ _ k1 k2 =>
   cases k2;have p2 : ay M H fp (OkI M.K F H R') (match x.er with | .list ds => .ok (gk ds) | _ => .bad) := p1
   generalize x.er = d at p2 k1
   cases k1 with
   | @lst a vs ds h1 h2 =>
    have p3 : OkI M.K F H R' (gk ds) := p2;refine ⟨a, rfl, ⟨vs, (h1.same d1.fh).sq⟩, p3 _ G1 H1 d1 fun i G H' s1 s2 => ?_⟩
    have hq := (h1.same (s1.trans s2)).sq;refine ⟨fun d hd => ?_, fun hl => ⟨vs, hq, by rw [RepAll.len h2]; unfold gk at hl; simpa using hl⟩⟩
    obtain ⟨e, he, rfl⟩ := fR hd;obtain ⟨u, hu, ru⟩ := RepAll.get h2 he;refine ⟨⟨vs, u, hq, hu⟩, fun x H2 y => ?_⟩
    obtain ⟨T, z, hT, rfl, rfl, hz⟩ := y;have hx := hz vs hq;rw [hu] at hx;cases hx;exact ⟨upd G T _, Ext.allocF s2 hT, .tup cm (.cons (.int _) (.cons ((ru.same s1).same ((aN.refl G).upd (s2.free hT))) .nil))⟩
   | int j => exact p2.elim
   | non => exact p2.elim
   | bl _ => exact p2.elim
   | str _ => exact p2.elim
   | dct _ _ _ => exact p2.elim
   | tup _ _ => exact p2.elim
noncomputable def vR (x y : PyData) : R (List PyData) := match x, y with
 | .list ds, .list es => .ok (qD ds es)
 | _, _ => .bad
theorem nT {ds es : List PyData} {i : Nat} {d : PyData} (h : (qD ds es)[i]? = some d) : ∃ x y, ds[i]? = some x ∧ es[i]? = some y ∧ d = .tuple [x, y] := by
 unfold qD at h;rw [List.getElem?_map] at h;obtain ⟨p, hp, rfl⟩ := Option.map_eq_some_iff.mp h;rw [List.getElem?_zip_eq_some] at hp;exact ⟨p.1, p.2, hp.1, hp.2, rfl⟩
theorem Ca {a b : Fe} (h : tI M n (iZp a b) σ H R') : Bh M.K (tA M n (aj a (aj b ax))) σ H R' := by
 obtain ⟨F, ρ, fp, S, p⟩ := h;refine ⟨F, ρ, fp, S, nN (g := vR) (by unfold iZp at p; exact p) fun v w dx dy G1 H1 d1 rv rw' q => ?_⟩
 unfold vR at q;split at q
 ·rename_i ds es
  cases rv with
  | @lst a vs _ h1 h2 =>
   cases rw' with
   | @lst b ws _ h3 h4 =>
    refine ⟨a, b, rfl, ⟨vs, (h1.same d1.fh).sq⟩, ⟨ws, (h3.same d1.fh).sq⟩, q _ G1 H1 d1 fun i G H' s1 s2 => ?_⟩
    have hq := (h1.same (s1.trans s2)).sq;have hq' := (h3.same (s1.trans s2)).sq;refine ⟨fun d hd => ?_, fun hl => ⟨vs, ws, hq, hq', ?_⟩⟩
    ·obtain ⟨x, y, hx, hy, rfl⟩ := nT hd
     obtain ⟨u, hu, ru⟩ := RepAll.get h2 hx;obtain ⟨u', hu', ru'⟩ := RepAll.get h4 hy;refine ⟨⟨vs, u, ws, u', hq, hu, hq', hu'⟩, fun x H2 y => ?_⟩
     obtain ⟨T, z, z', hT, rfl, rfl, hz, hz'⟩ := y;have e1 := hz vs hq;have e2 := hz' ws hq';rw [hu] at e1;rw [hu'] at e2;cases e1;cases e2;have sg : aN G (upd G T (.tup [u, u'])) := (aN.refl G).upd (s2.free hT);exact ⟨upd G T _, Ext.allocF s2 hT, .tup cm (.cons ((ru.same s1).same sg) (.cons ((ru'.same s1).same sg) .nil))⟩
    ·rw [RepAll.len h2, RepAll.len h4]
     unfold qD at hl;rw [List.length_map, List.length_zip] at hl
     lia
 ·exact q.elim
theorem Cr {it : Fi} {is : List Nat} {g : Fg} {b : Fs} (h : tS M n (g_ it g b) D σ H) : Du (tI M n it) (tG M n is g) (tS M n b) D σ H := by
 obtain ⟨F, ρ, fp, S, p⟩ := h;refine ⟨F, ρ, fp, S, (ay.bind p).mono fun ds pd J F1 H1 e1 wk => ?_⟩
 refine ⟨fun i m σ' H' => m = ds.length - i ∧ i ≤ ds.length ∧ ∃ F' ρ' fp', Stt M.K n F' H' σ' ρ' fp' ∧ aN F1 F' ∧ ay M H' fp' (eA M n F' H' fp' D) (bA g b (ds.drop i) ρ'), ⟨ds.length, by simp, Nat.zero_le _, F1, ρ, fp, S.ext e1, aN.refl _, PostS.stp e1.stp pd⟩, ?_⟩
 rintro i m σ' H' ⟨rfl, hi, F', ρ', fp', S', s', p'⟩;obtain ⟨w1, w2⟩ := wk i F' H' s' S'.same;by_cases hlt : i < ds.length
 ·obtain ⟨d, hd⟩ : ∃ d, ds[i]? = some d := ⟨ds[i], by simp [hlt]⟩
  obtain ⟨g1, g2⟩ := w1 d hd;have e : ds.drop i = d :: ds.drop (i + 1) := by
   rw [List.drop_eq_getElem_cons hlt];congr 1
   have := (List.getElem?_eq_some_iff.mp hd).2;exact this
  rw [e] at p';refine .inr ⟨g1, fun σ2 H2 => ∃ F2 ρ2 fp2, Stt M.K n F2 H2 σ2 ρ2 fp2 ∧ aN F1 F2 ∧ ay M H2 fp2 (eA M n F2 H2 fp2 D) (bA g b (ds.drop (i + 1)) ρ2), fun σ2 H2 q => ⟨ds.length - (i + 1), by lia, rfl, hlt, q⟩, fun x H2 y => ?_⟩
  obtain ⟨G2, e2, rx⟩ := g2 x H2 y;have p2 : ay M H' fp' _ ((g (.sh d) ρ').bind fun ρ1 => (b ρ1).bind fun o => match o with
   | .nx ρ2 => bA g b (ds.drop (i + 1)) ρ2
   | .ct ρ2 => bA g b (ds.drop (i + 1)) ρ2
   | .bk ρ2 => .ok (.nx ρ2)
   | .rt x => .ok (.rt x)) := p'
  have st : Stp F' H' fp' G2 H2 (fp' ++ []) := by
   rw [List.append_nil];exact e2.stp
  refine ⟨G2, ρ', fp', .sh d, [], S'.ext e2, Res.sh rx, (fun _ m => by cases m), ((ay.bind p2).stp st).mono fun ρ1 p1 σ3 F3 H3 fp3 S3 s3 _ => ?_⟩
  have s4 := st.trans s3;refine ⟨F3, ρ1, fp3, S3, ((ay.bind p1).stp s4).mono fun o po => ?_⟩
  cases o with
  | nx ρ2 => exact fun σ5 F5 H5 fp5 S5 s5 => ⟨F5, ρ2, fp5, S5, (s'.trans s4.ff).trans s5.ff, PostS.stp (s4.trans s5) po⟩
  | ct ρ2 => exact fun σ5 F5 H5 fp5 S5 s5 => ⟨F5, ρ2, fp5, S5, (s'.trans s4.ff).trans s5.ff, PostS.stp (s4.trans s5) po⟩
  | bk ρ2 => exact fun σ5 F5 H5 fp5 S5 s5 => po σ5 F5 H5 fp5 S5 (s4.trans s5)
  | rt x => exact fun v F5 H5 fx a r s5 => po v F5 H5 fx a r (s4.trans s5)
 ·have e : i = ds.length := by lia
  subst e;refine .inl ⟨w2 (Nat.le_refl _), ?_⟩;rw [List.drop_length] at p';exact p' σ' F' H' fp' S' Stp.refl
theorem w9 {t : Ft} {b : Fs} (h : tS M n (fS t b) D σ H) : sO (tT M n t) (tS M n b) D σ H := by
 obtain ⟨F, ρ, fp, S, p⟩ := h;unfold fS at p;split at p
 ·rename_i hn
  refine ⟨fun m σ' H' => ∃ F' ρ' fp', Stt M.K n F' H' σ' ρ' fp' ∧ ay M H' fp' (eA M n F' H' fp' D) (dv t b m ρ'), ⟨_, F, ρ, fp, S, p⟩, ?_⟩
  rintro m σ' H' ⟨F', ρ', fp', S', p'⟩;cases m with
  | zero => exact p'.elim
  | succ m =>
   have p2 : ay M H' fp' _ ((t ρ').bind fun c => if c = true then (b ρ').bind fun o => match o with
    | .nx ρ2 => dv t b m ρ2
    | .ct ρ2 => dv t b m ρ2
    | .bk ρ2 => .ok (.nx ρ2)
    | .rt x => .ok (.rt x) else .ok (.nx ρ')) := p'
   refine ⟨F', ρ', fp', S', (ay.bind p2).mono fun c pc F1 H1 e1 => ?_⟩
   cases c with
   | true =>
    rw [if_pos rfl] at pc ⊢;refine ⟨fun σ2 H2 => ∃ F2 ρ2 fp2, Stt M.K n F2 H2 σ2 ρ2 fp2 ∧ ay M H2 fp2 (eA M n F2 H2 fp2 D) (dv t b m ρ2), fun σ2 H2 q => ⟨m, Nat.lt_succ_self _, q⟩, F1, ρ', fp', S'.ext e1, ((ay.bind pc).ext e1).mono fun o po => ?_⟩
    cases o with
    | nx ρ2 => exact fun σ5 F5 H5 fp5 S5 s5 => ⟨F5, ρ2, fp5, S5, PostS.stp (e1.stp.trans s5) po⟩
    | ct ρ2 => exact fun σ5 F5 H5 fp5 S5 s5 => ⟨F5, ρ2, fp5, S5, PostS.stp (e1.stp.trans s5) po⟩
    | bk ρ2 => exact fun σ5 F5 H5 fp5 S5 s5 => po σ5 F5 H5 fp5 S5 (e1.stp.trans s5)
    | rt x => exact fun v F5 H5 fx a r s5 => po v F5 H5 fx a r (e1.stp.trans s5)
   | false =>
    rw [if_neg Bool.false_ne_true] at pc ⊢;exact pc σ' F1 H1 fp' (S'.ext e1) e1.stp
 ·exact p.elim
end
end L3
namespace L3
open PySem L2
section
variable {M : Mx} {n : Nat} {F H F1 H1 : Hp} {σ : St} {ρ : Env} {fp : List Addr} {D : Ends} {K : PySem.W.Frag}
theorem OwnS.nones {K : PySem.W.Frag} : ∀ (k : Nat) {σ : St} {ρ : Env} {g : List Addr}, OwnS K F H σ ρ g → OwnS K F H (List.replicate k none ++ σ) (List.replicate k none ++ ρ) g
 | 0, _, _, _, h => h
 | k + 1, _, _, _, h => by
  rw [List.replicate_succ, List.replicate_succ];exact .no (OwnS.nones k h)
theorem OwnS.one (S : OwnS K F H σ ρ fp) (i : Nat) : ∃ f, (∀ a ∈ f, a ∈ fp) ∧ (fp.Nodup → f.Nodup) ∧ ∀ {σ' : St} {ρ' : Env} {g : List Addr}, OwnS K F H σ' ρ' g → OwnS K F H ((σ[i]?).join :: σ') ((ρ[i]?).join :: ρ') (f ++ g) := by
 cases e : ρ[i]? with
 | none => exact ⟨[], (fun _ m => by cases m), fun _ => List.nodup_nil, fun h => .no h⟩
 | some o =>
  cases o with
  | none => exact ⟨[], (fun _ m => by cases m), fun _ => List.nodup_nil, fun h => .no h⟩
  | some x =>
   obtain ⟨v, f, g1, g2, h1, h2, rfl, h4⟩ := S.at e;refine ⟨f, fun a m => List.mem_append_right _ (List.mem_append_left _ m), fun nd => ?_, fun h => ?_⟩
   ·simp only [List.nodup_append] at nd
    exact nd.2.1.1
   ·rw [h1]
    exact .yes h2 h
noncomputable def shE (ρ : Env) : Env := ρ.map fun o => match o with
 | some (.sh d) => some (.sh d)
 | _ => none
theorem OwnS.shE {σ : St} {ρ : Env} {g : List Addr} (S : OwnS K F H σ ρ g) : OwnS K F H σ (L3.shE ρ) [] := by
 induction S with
 | nil => exact .nil
 | no r ih => exact .no ih
 | yes h r ih =>
  cases h with
  | sh h => exact .yes (f := []) (.sh h) ih
  | ol _ _ => exact .no ih
  | ot _ _ => exact .no ih
  | od _ _ _ => exact .no ih
theorem OwnS.pick3 : ∀ (is : List Nat) {σ : St} {ρ : Env}, OwnS K F H σ ρ [] → OwnS K F H (is.map fun i => (σ[i]?).join) (is.map fun i => (ρ[i]?).join) []
 | [], _, _, _ => .nil
 | i :: is, _, _, S => by
  obtain ⟨f, h1, _, h3⟩ := S.one i;have hf : f = [] := by
   cases f with
   | nil => rfl
   | cons a f => exact absurd (h1 a List.mem_cons_self) (by simp)
  subst hf;exact h3 (OwnS.pick3 is S)
theorem oO : ∀ (k : Nat) {σ0 σ2 : St}, σ2.length = k + σ0.length → (∀ j, k ≤ j → σ2[j]? = (List.replicate k none ++ σ0)[j]?) → gq (List.replicate k none ++ σ0) σ2
 | 0, σ0, σ2, hl, h => by
  have e : σ2 = σ0 := List.ext_getElem? fun j => by simpa using h j (Nat.zero_le _)
  subst e;show gq σ2 σ2
  clear h hl
  induction σ2 with
  | nil => trivial
  | cons x r ih =>
   cases x with
   | none => exact ih
   | some v => exact ⟨rfl, ih⟩
 | k + 1, σ0, [], hl, h => by simp at hl; lia
 | k + 1, σ0, x :: σ2, hl, h => by
  rw [List.replicate_succ];refine oO k (by simp at hl; lia) fun j hj => ?_
  have := h (j + 1) (by lia)
  simpa [List.replicate_succ] using this
theorem qu (ρ : Env) : ∀ (is : List Nat), (is.map fun i => ((shE ρ)[i]?).join) = is.map fun i => jB ρ[i]?
 | [] => rfl
 | i :: is => by
  rw [List.map_cons, List.map_cons, qu ρ is];congr 1
  unfold shE;rw [List.getElem?_map];cases ρ[i]? with
  | none => rfl
  | some o =>
   cases o with
   | none => rfl
   | some x => cases x <;> rfl
theorem Stt.block (S : Stt K n F H σ ρ fp) (k : Nat) (outs : List (Nat × Str)) : Stt K (k + outs.length) F H (slots k outs σ) (sl3 k (outs.map (·.1)) ρ) [] := by
 refine ⟨S.same, ?_, List.nodup_nil, (fun _ m => by cases m), by unfold sl3; simp⟩
 have h := OwnS.nones k (OwnS.pick3 (outs.map (·.1)) S.own.shE);rw [qu, List.map_map] at h;exact h
theorem mF {α : Type} {r : R α} {P : α → Prop} {β : Type} {g : α → R β} {PP : β → Prop} (p : ay M H fp PP ((oa r).bind g)) : ∃ a, r = .ok a ∧ ay M H fp PP (g a) := by
 cases r with
 | ok a => exact ⟨a, rfl, p⟩
 | ex c => exact p.elim
 | bad => exact p.elim
theorem tP {it : Fi} {g : Fg} {t : Ft} {el : Fe} {k : Nat} {is : List Nat} {outs : List (Nat × Str)} {Q : VK} (hk : ∀ j ∈ is, j < k) (h : tD M n (jg it g t el k (outs.map (·.1))) σ H Q) :
  rM (tI M n it) (tG M (k + outs.length) is g) (tT M (k + outs.length) t) (tD M (k + outs.length) el) k outs σ H Q := by
 obtain ⟨F, ρ, fp, S, p⟩ := h;refine ⟨F, ρ, fp, S, (ay.bind p).mono fun ds pd J F1 H1 e1 wk D hD => ?_⟩
 have SB := (S.ext e1).block k outs;have fD : F1 D = none := e1.fh.free hD;refine ⟨fun i m acc H' => m = ds.length - i ∧ i ≤ ds.length ∧ ∃ F' xs fx, H' D = some (.lst acc) ∧ F' D = none ∧ Ext F1 H1 F' H' ∧ ResL M.K F' H' acc xs fx ∧ (∀ a ∈ fx, H1 a = none ∧ a ≠ D) ∧
  ay M H fp (OkE M F H Q) ((fA g t el (sl3 k (outs.map (·.1)) ρ) (ds.drop i) xs).bind fun xs => .ok (.ol xs)), ⟨ds.length, by simp, Nat.zero_le _, F1, [], [], cm, fD, Ext.alloc e1.fh hD, ResL.nil, (fun _ m => by cases m), pd⟩, ?_⟩
 rintro i m acc H' ⟨rfl, hi, F', xs, fx, hacc, fD', e', rx, wx, p'⟩;have S' := SB.ext e';obtain ⟨w1, w2⟩ := wk i F' H' e'.ff e'.fh;by_cases hlt : i < ds.length
 ·obtain ⟨d, hd⟩ : ∃ d, ds[i]? = some d := ⟨ds[i], by simp [hlt]⟩
  obtain ⟨g1, g2⟩ := w1 d hd;have e : ds.drop i = d :: ds.drop (i + 1) := by
   rw [List.drop_eq_getElem_cons hlt];congr 1
   exact (List.getElem?_eq_some_iff.mp hd).2
  rw [e] at p';have p2 : ay M H fp (OkE M F H Q) (((oa (g (.sh d) (sl3 k (outs.map (·.1)) ρ))).bind fun ρ1 => (oa (t ρ1)).bind fun b => if b = true then (oa (el ρ1)).bind fun y => if xs.length < BIG then fA g t el (sl3 k (outs.map (·.1)) ρ) (ds.drop (i + 1)) (xs ++ [y]) else .bad else fA g t el (sl3 k (outs.map (·.1)) ρ) (ds.drop (i + 1)) xs).bind fun xs => .ok (.ol xs)) := p'
  have assoc : ∀ {α β γ : Type} (r : R α) (f : α → R β) (h : β → R γ), (r.bind f).bind h = r.bind fun a => (f a).bind h := fun r f h => by cases r <;> rfl
  rw [assoc] at p2;obtain ⟨ρ1, hρ1, p3⟩ := mF (P := fun _ => True) p2
  rw [assoc] at p3;obtain ⟨b, hb, p4⟩ := mF (P := fun _ => True) p3
  refine .inr ⟨g1, fun acc' H2 => ∃ F2 xs2 fx2, H2 D = some (.lst acc') ∧ F2 D = none ∧ Ext F1 H1 F2 H2 ∧ ResL M.K F2 H2 acc' xs2 fx2 ∧ (∀ a ∈ fx2, H1 a = none ∧ a ≠ D) ∧
   ay M H fp (OkE M F H Q) ((fA g t el (sl3 k (outs.map (·.1)) ρ) (ds.drop (i + 1)) xs2).bind fun xs => .ok (.ol xs)), fun acc' H2 q => ⟨ds.length - (i + 1), by lia, rfl, hlt, q⟩, fun x H2 y => ?_⟩
  obtain ⟨G2, e2, rx2⟩ := g2 x H2 y;refine ⟨G2, sl3 k (outs.map (·.1)) ρ, [], .sh d, [], S'.ext e2, Res.sh rx2, (fun _ m => by cases m), ?_⟩
  rw [hρ1];intro σ3 F3 H3 fp3 S3 s3 t3;have e3 : Ext G2 H2 F3 H3 := ⟨s3.ff, fun a o q => s3.keep a o q (by simp), S3.same, fun a q z => s3.nw a q (by simp) z⟩
  refine ⟨oO k (by rw [S3.own.len, S3.len]; simp) fun j hj => t3 j fun z => by have := hk j z; lia, F3, ρ1, fp3, S3, ?_⟩
  rw [hb];intro F4 H4 e4;have e24 : Ext F' H' F4 H4 := (e2.trans e3).trans e4;cases b with
  | true =>
   rw [if_pos rfl] at p4 ⊢;rw [assoc] at p4;obtain ⟨y, hy, p5⟩ := mF (P := fun _ => True) p4
   refine ⟨F4, ρ1, fp3, S3.ext e4, ?_⟩;rw [hy];intro v F5 H5 fy e5 r5 w5;by_cases hl : xs.length < BIG
   ·rw [if_pos hl] at p5
    have e25 := e24.trans e5;have hD5 : H5 D = some (.lst acc) := e25.hh _ _ hacc;have fD5 : F5 D = none := e25.nw D (dh hacc) fD';have yD : ∀ a ∈ fy, a ≠ D := fun a m => by
     rintro rfl;have := e24.hh _ _ hacc;rw [w5 _ m] at this;cases this
    have rx5 := rx.ext e25;refine ⟨hD5, by rw [rx.own.len]; exact oU hl, F5, xs ++ [y], fx ++ fy, cm, fD5, ⟨e'.ff.trans e25.ff, fun a o q => ?_, fun a o q => ?_, fun a q z => e25.nw a (e'.hh.dom q) (e'.nw a q z)⟩, ⟨?_, ?_, ?_⟩, ?_, p5⟩
    ·rw [aQ (a9 q hD)]
     exact e25.hh _ _ (e'.hh _ _ q)
    ·rw [aQ (a9 q fD5)]
     exact e5.fh _ _ q
    ·have q1 : OwnL M.K F5 (upd H5 D (.lst (acc ++ [v]))) acc xs fx := rx5.own.mono (aN.refl _) fun a m o q => by
      rw [aQ (wx a m).2];exact q
     have q2 : Own M.K F5 (upd H5 D (.lst (acc ++ [v]))) v y fy := r5.own.mono (aN.refl _) fun a m o q => by
      rw [aQ (yD a m)];exact q
     have q3 := OwnL.app q1 (OwnL.cons q2 .nil);rw [List.append_nil] at q3;exact q3
    ·refine List.nodup_append.mpr ⟨rx.nd, r5.nd, fun a m b m' z => ?_⟩
     subst z;obtain ⟨o, q⟩ := rx.own.dom a m;have := e24.hh _ _ q;rw [w5 a m'] at this;cases this
    ·intro a m
     rcases List.mem_append.mp m with m | m
     ·exact rx5.fr a m
     ·exact r5.fr a m
    ·intro a m
     rcases List.mem_append.mp m with m | m
     ·exact wx a m
     ·exact ⟨(e'.trans e24).hh.free (w5 a m), yD a m⟩
   ·rw [if_neg hl] at p5
    exact p5.elim
  | false =>
   rw [if_neg Bool.false_ne_true] at p4 ⊢;exact ⟨F4, xs, fx, e24.hh _ _ hacc, e24.nw D (dh hacc) fD', e'.trans e24, rx.ext e24, wx, p4⟩
 ·have e : i = ds.length := by lia
  subst e;rw [List.drop_length] at p';have q : OkE M F H Q (.ol xs) := p';refine .inl ⟨w2 (Nat.le_refl _), q (.ref D) F' H' (D :: fx) (e1.trans e') ⟨.ol hacc rx.own, List.nodup_cons.mpr ⟨fun m => (wx D m).2 rfl, rx.nd⟩, fun a m => ?_⟩ fun a m => ?_⟩
  ·rcases List.mem_cons.mp m with rfl | m
   ·exact fD'
   ·exact rx.fr a m
  ·rcases List.mem_cons.mp m with rfl | m
   ·exact e1.hh.free hD
   ·exact e1.hh.free (wx a m).1
end
end L3
namespace L3
open PySem L2
section
variable {M : Mx} {n : Nat} {F H F1 H1 : Hp} {σ : St} {ρ : Env} {fp : List Addr} {D : Ends} {K : PySem.W.Frag}
theorem oR {p f q f' : List Addr} (h : (p ++ (f ++ q)).Nodup) (h' : f'.Nodup) (s : ∀ c ∈ f', c ∈ f ∨ c ∉ p ++ (f ++ q)) : (p ++ (f' ++ q)).Nodup := by
 simp only [List.nodup_append, List.mem_append] at h s ⊢;obtain ⟨n1, ⟨n2, n3, n4⟩, n5⟩ := h;refine ⟨n1, ⟨h', n3, fun a ha b hb e => ?_⟩, fun a ha b hb e => ?_⟩
 ·subst e
  rcases s a ha with z | z
  ·exact n4 a z a hb rfl
  ·exact z (.inr (.inr hb))
 ·subst e
  rcases hb with hb | hb
  ·rcases s a hb with z | z
   ·exact n5 a ha a (.inl z) rfl
   ·exact z (.inl ha)
  ·exact n5 a ha a (.inr hb) rfl
theorem oo {σ : St} {i : Nat} {v : V} (h1 : σ[i]? = some (some v)) : σ.set i (some v) = σ := by
 apply List.ext_getElem?
 intro j;by_cases hj : i = j
 ·subst hj
  rw [h1, List.getElem?_set_self (List.getElem?_eq_some_iff.mp h1).1]
 ·rw [List.getElem?_set_ne hj]
theorem Stt.write (S : Stt K n F H σ ρ fp) {i : Nat} {xs : List OD} (hx : ρ[i]? = some (some (.ol xs))) :
  ∃ a vs f, σ[i]? = some (some (.ref a)) ∧ H a = some (.lst vs) ∧ OwnL K F H vs xs f ∧ f.Nodup ∧ (∀ b ∈ f, F b = none) ∧
   ∀ F1 H1 vs' xs' f', Ext F H F1 H1 → OwnL K F1 H1 vs' xs' f' → f'.Nodup → (∀ b ∈ f', b ∈ f ∨ H b = none) → (∀ b ∈ f', F1 b = none) →
    ∃ fp', Stt K n F1 (upd H1 a (.lst vs')) σ (ρ.set i (some (.ol xs'))) fp' ∧ Stp F H fp F1 (upd H1 a (.lst vs')) fp' ∧ (∀ b ∈ fp', b ∈ fp ∨ b ∈ f') := by
 obtain ⟨v, f0, g1, g2, h1, h2, rfl, h4⟩ := S.own.at hx;cases h2 with
 | @ol a vs _ f ha hv =>
  have nd := S.nd;have nd' := nd;simp only [List.nodup_append, List.mem_append, List.cons_append, List.nodup_cons, List.mem_cons] at nd';obtain ⟨n1, ⟨na, n2, n3, n4⟩, n5⟩ := nd';refine ⟨a, vs, f, h1, ha, hv, n2, fun b m => S.fr b (by simp [m]), fun F1 H1 vs' xs' f' e o nf sub ff => ?_⟩
  have fa : F1 a = none := e.nw a (dh ha) (S.fr a (by simp))
  have hne : ∀ b ∈ f', b ≠ a := fun b m => by
   rintro rfl;rcases sub b m with z | z
   ·exact na (.inl z)
   ·rw [ha] at z
    cases z
  have hs : ∀ c ∈ f', c ∈ f ∨ c ∉ (g1 ++ [a]) ++ (f ++ g2) := fun c m => by
   rcases sub c m with z | z
   ·exact .inl z
   ·refine .inr fun w => ?_
    obtain ⟨o, q⟩ := S.own.dom c (by simp at w ⊢; exact w)
    rw [z] at q;cases q
  have nd2 := oR (p := g1 ++ [a]) (f := f) (q := g2) (f' := f') (by simpa using nd) nf hs
  have own := h4 F1 (upd H1 a (.lst vs')) e.ff (fun b m o q => by
   have : b ≠ a := by
    rintro rfl;rcases List.mem_append.mp m with m | m
    ·exact n5 b m b (.inl rfl) rfl
    ·exact na (.inr m)
   rw [aQ this];exact e.hh _ _ q) (.ref a) (.ol xs') (a :: f') (.ol cm (o.mono (aN.refl _) fun b m o q => by rw [aQ (hne b m)]; exact q))
  rw [oo h1] at own;have frs : ∀ b ∈ g1 ++ (a :: f ++ g2), F1 b = none := fun b m => let ⟨_, q⟩ := S.own.dom b m; e.nw b (dh q) (S.fr b m)
  refine ⟨g1 ++ (a :: f' ++ g2), ⟨?_, own, by simpa using nd2, fun b m => ?_, by rw [List.length_set]; exact S.len⟩, ⟨e.ff, fun b o q m => ?_, fun b m => ?_, fun b q m z => e.nw b q z⟩, fun b m => ?_⟩
  ·intro b o q
   rw [aQ (a9 q fa)];exact e.fh _ _ q
  ·simp only [List.mem_append, List.mem_cons] at m
   rcases m with m | (rfl | m) | m
   ·exact frs b (by simp [m])
   ·exact fa
   ·exact ff b m
   ·exact frs b (by simp [m])
  ·have : b ≠ a := by
    rintro rfl;exact m (by simp)
   rw [aQ this];exact e.hh _ _ q
  ·simp only [List.mem_append, List.mem_cons] at m ⊢
   rcases m with m | (m | m) | m
   ·exact .inl (.inl m)
   ·exact .inl (.inr (.inl (.inl m)))
   ·rcases sub b m with z | z
    ·exact .inl (.inr (.inl (.inr z)))
    ·exact .inr z
   ·exact .inl (.inr (.inr m))
  ·simp only [List.mem_append, List.mem_cons] at m ⊢
   rcases m with m | (m | m) | m <;> simp [m]
theorem OwnL.snoc {vs : List V} {xs : List OD} {f g : List Addr} {v : V} {y : OD} (h : OwnL K F H vs xs f) (o : Own K F H v y g) : OwnL K F H (vs ++ [v]) (xs ++ [y]) (f ++ g) := by
 have := OwnL.app h (OwnL.cons o .nil);rw [List.append_nil] at this;exact this
theorem CN {i : Nat} {a : Fe} (h : tS M n (jv i a) D σ H) : pO (tBM M.K "list" qo (rW i) (lP (tD M n a) qI)) D σ H := by
 obtain ⟨F, ρ, fp, S, p⟩ := h;unfold jv at p;split at p
 ·rename_i xs e
  obtain ⟨l, vs, f, h1, h2, h3, nf, ff, wr⟩ := S.write e;refine ⟨_, h1, .inl ⟨rfl, vs, SqL.of h2⟩, F, ρ, fp, S, (ay.bind p).mono fun y py v F1 H1 fy e1 r1 w1 => ?_⟩
  by_cases hl : xs.length < BIG
  ·rw [if_pos hl] at py
   refine ⟨l, vs, v, rfl, rfl, e1.hh _ _ h2, by rw [h3.len]; exact oU hl, ?_⟩
   have o : OwnL M.K F1 H1 (vs ++ [v]) (xs ++ [y]) (f ++ fy) := (h3.mono e1.ff fun b _ o q => e1.hh _ _ q).snoc r1.own
   obtain ⟨fp', S', st, _⟩ := wr F1 H1 _ _ _ e1 o (List.nodup_append.mpr ⟨nf, r1.nd, fun b m c m' z => by
    subst z;obtain ⟨o, q⟩ := h3.dom b m;rw [w1 b m'] at q;cases q⟩) (fun b m => (List.mem_append.mp m).elim .inl fun m => .inr (w1 b m)) (fun b m => (List.mem_append.mp m).elim (fun m => let ⟨_, q⟩ := h3.dom b m; e1.nw b (dh q) (ff b m)) (r1.fr b))
   exact py σ F1 _ fp' S' st
  ·rw [if_neg hl] at py
   exact py.elim
 ·exact p.elim
end
end L3
namespace L3
open PySem L2 PySem.Spec PyProof.Rows
noncomputable def DE (M : Mx) (X : Cx) (e : Expr) (f : Fe) : Prop := X.K = M.K → X.mg = M.mg → PE X e (tD M X.N.length f)
noncomputable def DT (M : Mx) (X : Cx) (e : Expr) (f : Ft) : Prop := X.K = M.K → X.mg = M.mg → PT X e (tT M X.N.length f)
noncomputable def DW (M : Mx) (X : Cx) (e : Expr) (f : Ft) : Prop := X.K = M.K → X.mg = M.mg → PW X e (tT M X.N.length f)
noncomputable def DA (M : Mx) (X : Cx) (e : List Expr) (f : Fa) : Prop := X.K = M.K → X.mg = M.mg → PA X e (tA M X.N.length f)
noncomputable def DO (M : Mx) (X : Cx) (e : Option Expr) (f : Fo) : Prop := X.K = M.K → X.mg = M.mg → PO X e (tO M X.N.length f)
noncomputable def DI (M : Mx) (X : Cx) (tg e : Expr) (f : Fi) : Prop := X.K = M.K → X.mg = M.mg → PI X tg e (tI M X.N.length f)
noncomputable def DG (M : Mx) (X : Cx) (tg : Expr) (is : List Nat) (f : Fg) : Prop := X.K = M.K → X.mg = M.mg → PG X tg (tG M X.N.length is f)
noncomputable def DGs (M : Mx) (X : Cx) (tg : List Expr) (is : List Nat) (f : Fgs) : Prop := X.K = M.K → X.mg = M.mg → PGs X tg (tGs M X.N.length is f)
noncomputable def DF (M : Mx) (X : Cx) (e : List Expr) (f : Ft) : Prop := X.K = M.K → X.mg = M.mg → PF X e (tT M X.N.length f)
noncomputable def DS (M : Mx) (X : Cx) (st : Stmt) (f : Fs) : Prop := X.K = M.K → X.mg = M.mg → PS X st (tS M X.N.length f)
noncomputable def DSs (M : Mx) (X : Cx) (st : List Stmt) (f : Fs) : Prop := X.K = M.K → X.mg = M.mg → PSs X st (tS M X.N.length f)
section
variable {M : Mx} {X : Cx} {e a b c : Expr} {es : List Expr} {pos : Pos} {fa fb : Fe} {ta tb : Ft} {al : Fa}
theorem peI {t t' : TE} (h : PE X e t) (k : ∀ σ H Q, t' σ H Q → t σ H Q) : PE X e t' := fun pins s σ H Q I q => h pins s σ H Q I (k σ H Q q)
theorem ptI {t t' : TT} (h : PT X e t) (k : ∀ σ H Q, t' σ H Q → t σ H Q) : PT X e t' := fun pins s σ H Q I q => h pins s σ H Q I (k σ H Q q)
theorem pwI {t t' : TT} (h : PW X e t) (k : ∀ σ H Q, t' σ H Q → t σ H Q) : PW X e t' := fun w pins s σ H Q I q => h w pins s σ H Q I (k σ H Q q)
theorem paI {t t' : TA} (h : PA X es t) (k : ∀ σ H Q, t' σ H Q → t σ H Q) : PA X es t' := fun ps pins s σ H Q I q => h ps pins s σ H Q I (k σ H Q q)
theorem poI {o : Option Expr} {t t' : TO} (h : PO X o t) (k : ∀ σ H Q, t' σ H Q → t σ H Q) : PO X o t' := fun pins s σ H Q I q => h pins s σ H Q I (k σ H Q q)
theorem psI {st : Stmt} {t t' : TS} (h : PS X st t) (k : ∀ D σ H, t' D σ H → t D σ H) : PS X st t' := fun pins s σ H D I q => h pins s σ H D I (k D σ H q)
theorem zK {st : List Stmt} {t t' : TS} (h : PSs X st t) (k : ∀ D σ H, t' D σ H → t D σ H) : PSs X st t' := fun pins s σ H D I q => h pins s σ H D I (k D σ H q)
theorem aa (i : Nat) {x : Str} (hN : X.N[i]? = some x := by rfl) (hv : Vis X.env.scope x := by first | exact Or.inl rfl | exact Or.inr (Or.inl rfl) | exact Or.inr (Or.inr rfl)) (hd : (x == ("__debug__" : Str)) = false := by decide)
  (hcd : (x == ("__classdict__" : Str)) = false := by decide) : DE M X (.Name x pos) (ag i) := fun _ _ => peI (ic hN hv hd hcd) fun _ _ _ h => Dp h
theorem ai {i : Int} {j} : DE M X (.Constant (.int i) j pos) (eC (.int i)) := fun _ _ => peI yS fun _ _ _ h => d_c (fun _ _ => .int i) h
theorem iG {i : Bool} {j} : DE M X (.Constant (.bool i) j pos) (eC (.bool i)) := fun _ _ => peI xJ fun _ _ _ h => d_c (fun _ _ => .bl i) h
theorem aS {x : Str} {j} : DE M X (.Constant (.str x) j pos) (eC (.str x)) := fun _ _ => peI nq fun _ _ _ h => d_c (fun _ _ => .str x) h
theorem f9 {x : Str} {i : Int} (hg : Gl X x) (hm : ∃ t, X.mg x = some (.int i t)) (hd : (x == ("__debug__" : Str)) = false := by decide) : DE M X (.Name x pos) (eC (.int i)) := fun _ _ =>
 let ⟨t, e⟩ := hm
 peI (kd (v := .int i) hg e ⟨t, rfl⟩ hd) fun _ _ _ h => d_c (fun _ _ => .int i) h
theorem uU {x : Str} {i : Str} (hg : Gl X x) (hm : ∃ t, X.mg x = some (.str i t)) (hd : (x == ("__debug__" : Str)) = false := by decide) : DE M X (.Name x pos) (eC (.str i)) := fun _ _ =>
 let ⟨t, e⟩ := hm
 peI (kd (v := .str i) hg e ⟨t, rfl⟩ hd) fun _ _ _ h => d_c (fun _ _ => .str i) h
theorem cz (h : DE M X e fa) : DE M X e (eSh fa) := fun hK hM => peI (h hK hM) fun _ _ _ q => BC q
theorem o9 (h : DE M X e fa) : DE M X e (qL fa) := fun hK hM => peI (h hK hM) fun _ _ _ q => AR q
theorem rY (h : DT M X e ta) : DT M X e (sy ta) := fun hK hM => ptI (h hK hM) fun _ _ _ q => yb q
theorem au {op : Operator} {r : R2} {g : PyData → PyData → R OD} (ho : OpR X (binaryOp op) r) (hg : X.K = M.K → Ok2 M r g) (ha : DE M X a fa) (hb : DE M X b fb) : DE M X (.BinOp a op b pos) (eOp g fa fb) := fun hK hM =>
 peI (Dq ho (ha hK hM) (hb hK hM)) fun _ _ _ q => t8 (hg hK) q
theorem fX {op : UnaryOp} {r : V → Hp → VK → Prop} {g : PyData → R OD} (ho : UnR X (unaryOp op) r) (hg : X.K = M.K → Ok1 M r g) (ha : DE M X a fa) : DE M X (.UnaryOp op a pos) (eUn g fa) := fun hK hM =>
 peI (CF ho (ha hK hM)) fun _ _ _ q => En (hg hK) q
theorem nj {op : CmpOp} {r : R2} {g : PyData → PyData → R OD} (ho : OpR X (compareOp op) r) (hg : X.K = M.K → Ok2 M r g) (ha : DE M X a fa) (hb : DE M X b fb) (hm : behindInMarks op b = false) : DE M X (.Compare a [op] [b] pos) (eOp g fa fb) := fun hK hM =>
 peI (vv ho (ha hK hM) (hb hK hM) hm) fun _ _ _ q => t8 (hg hK) q
theorem aP {op : CmpOp} {r : R2} {g : PyData → PyData → R OD} (ho : OpR X (compareOp op) r) (hg : X.K = M.K → Ok2 M r g) (ha : DE M X a fa) (hb : DE M X b fb) (hm : behindInMarks op b = false) : DT M X (.Compare a [op] [b] pos) (aJ (eOp g fa fb)) := fun hK hM =>
 ptI (wG ho (ha hK hM) (hb hK hM) hm) fun σ H Q q => by
  obtain ⟨F, ρ, fp, S, p⟩ := tE q;exact t8 (hg hK) ⟨F, ρ, fp, S, p⟩
theorem d8 (h : DE M X e fa) (he : ∀ whole, isTrue e X.env whole = (do let v ← whole; standAt e.pos; holding [v] (truthy v)) := by intro _; rfl) : DT M X e (aJ fa) := fun hK hM => ptI (y0 (h hK hM) he) fun _ _ _ q => d_b q
theorem eP (h : DT M X a ta) : DT M X (.UnaryOp .Not a pos) (fw ta) := fun hK hM => ptI (zr (h hK hM)) fun _ _ _ q => yH q
theorem pB (h : DT M X a ta) : DW M X (.BoolOp .And [a] pos) ta := fun hK hM => vG (h hK hM)
theorem gA (h : DT M X a ta) : DW M X (.BoolOp .Or [a] pos) ta := fun hK hM => zg (h hK hM)
theorem sW {rest : List Expr} (h : DT M X a ta) (k : DW M X (.BoolOp .And (b :: rest) pos) tb) : DW M X (.BoolOp .And (a :: b :: rest) pos) (md ta tb) := fun hK hM => pwI (yk (h hK hM) (k hK hM)) fun _ _ _ q => yK q
theorem g6 {rest : List Expr} (h : DT M X a ta) (k : DW M X (.BoolOp .Or (b :: rest) pos) tb) : DW M X (.BoolOp .Or (a :: b :: rest) pos) (iF ta tb) := fun hK hM => pwI (C8 (h hK hM) (k hK hM)) fun _ _ _ q => CH q
theorem jR (h : DW M X e ta) : DT M X e ta := fun hK hM => (h hK hM).pt
theorem mn {op} (h : DE M X a fa) : DE M X (.BoolOp op [a] pos) fa := fun hK hM => rV (h hK hM)
theorem nk {rest : List Expr} (h : DE M X a fa) (k : DE M X (.BoolOp .And (b :: rest) pos) fb) : DE M X (.BoolOp .And (a :: b :: rest) pos) (nX fa fb) := fun hK hM => peI (tQ (h hK hM) (k hK hM)) fun _ _ _ q => Dm q
theorem yL (h : DE M X a fa) : DE M X (.UnaryOp .Not a pos) (rN fa) := fun hK hM => peI (rK (h hK hM)) fun _ _ _ q => Di q
theorem oG (h : DT M X c ta) (ha : DE M X a fa) (hb : DE M X b fb) : DE M X (.IfExp c a b pos) (eIf ta fa fb) := fun hK hM => peI (uW (h hK hM) (ha hK hM) (hb hK hM)) fun _ _ _ q => Er q
theorem ao : DA M X [] ax := fun _ _ => paI fY fun _ _ _ q => AK q
theorem ae (h : DE M X e fa) (r : DA M X es al) (hs : starEach (e :: es) X.env = (false, eval e X.env) :: starEach es X.env := by rfl) : DA M X (e :: es) (aj fa al) := fun hK hM => paI (de (h hK hM) (r hK hM) hs) fun _ _ _ q => vJ q
theorem iM {x1} (h : DA M X es al) : DE M X (.Tuple es x1 pos) (lh al) := fun hK hM => peI (tK (h hK hM)) fun _ _ _ q => C6 q
theorem bo (h : DA M X es al) : DE M X (.List es pos) (dB al) := fun hK hM => peI (Aq (h hK hM)) fun _ _ _ q => Cb q
theorem bN : DO M X none dz := fun _ _ => poI u6 fun _ _ _ q => we q
theorem bP (h : DE M X e fa) : DO M X (some e) (dj fa) := fun hK hM => poI (vV (h hK hM)) fun _ _ _ q => wJ q
theorem dR {r : V → Option Int → Option Int → Hp → VK → Prop} {g : PyData → Option Int → Option Int → R OD} {lo hi : Option Expr} {fl fh : Fo} {p2 : Pos} (hr : SlR X r) (hg : X.K = M.K → OkS M r g) (h : DE M X e fa) (hl : DO M X lo fl) (hh : DO M X hi fh) :
  DE M X (.Subscript e (.Slice lo hi none p2) pos) (eSl g fa fl fh) := fun hK hM => peI (r9 hr (h hK hM) (hl hK hM) (hh hK hM)) fun _ _ _ q => Ep (hg hK) q
theorem aY {r : R2} {g : PyData → PyData → R OD} (hr : IxR X r) (hg : X.K = M.K → Ok2 M r g) (ha : DE M X a fa) (hb : DE M X b fb) (hs : qg b) : DE M X (.Subscript a b pos) (eOp g fa fb) := fun hK hM =>
 peI (BA hr (ha hK hM) (hb hK hM) hs) fun _ _ _ q => t8 (hg hK) q
theorem bU {id : String} {x : Str} {p : Pos} {r : List V → Hp → VK → Prop} {g : List PyData → R OD} (hc : ee X (.builtin id) r) (ho : X.K = M.K → OkC M r g) (hg : Gl X x) (hm : X.mg x = none) (hv : bootBuiltins x = some (.builtin id)) (ha : DA M X (e :: es) al)
  (hn : x ≠ "__name__" := by decide) (hdb : (x == ("__debug__" : Str)) = false := by decide) (he : starEach (e :: es) X.env = (false, eval e X.env) :: starEach es X.env := by rfl) (hpl : (backTo pos (starEach es X.env)).any (·.1) = false := by rfl) :
  DE M X (.Call (.Name x p) (e :: es) [] pos) (eB g al) := fun hK hM => peI (h9 hc hg hm hv (ha hK hM) hn hdb he hpl) fun _ _ _ q => DM (ho hK) q
theorem lZ {T : String} {x : Str} {p : Pos} {r : List V → Hp → VK → Prop} {g : List PyData → R OD} (hc : ee X (.type T) r) (ho : X.K = M.K → OkC M r g) (hg : Gl X x) (hm : X.mg x = none) (hv : bootBuiltins x = some (.type T)) (ha : DA M X (e :: es) al)
  (hn : x ≠ "__name__" := by decide) (hdb : (x == ("__debug__" : Str)) = false := by decide) (he : starEach (e :: es) X.env = (false, eval e X.env) :: starEach es X.env := by rfl) (hpl : (backTo pos (starEach es X.env)).any (·.1) = false := by rfl) :
  DE M X (.Call (.Name x p) (e :: es) [] pos) (eB g al) := fun hK hM => peI (rH hc hg hm hv (ha hK hM) hn hdb he hpl) fun _ _ _ q => DM (ho hK) q
theorem az {CX : CXT} {k : Nat} {f : Addr} {fd : FuncData} {ps : List Str} {x : Str} {p : Pos} {fn : Fn} (F : FnOk X.prog X.w M.K M.mg X.base CX k f fd ps (sp3 M.K M.mg fn)) (hr : Room k X.A) (hg : Gl X x) (hm : M.mg x = some (.ref f)) (hk : PySem.W.keepIn M.K (.ref f) = true)
  (hb : Binds M.K fd ps []) (hx : Passes CX X M.E) (ha : DA M X (e :: es) al)
  (hdb : (x == ("__debug__" : Str)) = false := by decide) (he : starEach (e :: es) X.env = (false, eval e X.env) :: starEach es X.env := by rfl) (hpl : (backTo pos (starEach es X.env)).any (·.1) = false := by rfl) :
  DE M X (.Call (.Name x p) (e :: es) [] pos) (aV fn al) := fun hK hM => by
 have F' : FnOk X.prog X.w X.K X.mg X.base CX k f fd ps (sp3 M.K M.mg fn) := by
  rw [hK, hM];exact F
 exact peI (vb F' hr hg (by rw [hM]; exact hm) (by rw [hK]; exact hk) (by rw [hK]; exact hb) .nil hx (ha hK hM) hdb he hpl) fun _ _ _ q => ue q
theorem sS {CX : CXT} {k : Nat} {f : Addr} {fd : FuncData} {ps : List Str} {x : Str} {p : Pos} {fn : Fn} (F : FnOk X.prog X.w M.K M.mg X.base CX k f fd ps (sp3 M.K M.mg fn)) (hr : Room k X.A) (hg : Gl X x) (hm : M.mg x = some (.ref f)) (hk : PySem.W.keepIn M.K (.ref f) = true)
  (hb : Binds M.K fd ps []) (hx : Passes CX X M.E) (hdb : (x == ("__debug__" : Str)) = false := by decide) :
  DE M X (.Call (.Name x p) [] [] pos) (aV fn ax) := fun hK hM => by
 have F' : FnOk X.prog X.w X.K X.mg X.base CX k f fd ps (sp3 M.K M.mg fn) := by
  rw [hK, hM];exact F
 refine peI (tm F' hr hg (by rw [hM]; exact hm) (by rw [hK]; exact hk) (by rw [hK]; exact hb) .nil hx hdb) fun σ H Q q => ?_
 obtain ⟨F, ρ, fp, S, p⟩ := ue q;exact p [] F H [] (Ext.refl S.same) ResL.nil fun _ m => by cases m
theorem wZ {tg : Expr} (h : DE M X e fa) : DI M X tg e (sD fa) := fun hK hM => by
 have q := wq (tg := tg) (h hK hM);rw [hK] at q;exact fun pins s σ H R' I z => q pins s σ H R' I (AI z)
theorem lU {tg : Expr} {p : Pos} (hg : Gl X "range") (hm : X.mg "range" = none) (h : DE M X a fa) (hs1 : starEach [a] X.env = (false, eval a X.env) :: starEach [] X.env := by rfl) (hs : starEach [a] X.env = [(false, eval a X.env)] := by rfl) : DI M X tg (.Call (.Name "range" p) [a] [] pos) (iR1 fa) := fun hK hM =>
 fun pins s σ H R' I z => rh hg hm ((ae h ao hs1) hK hM) hs pins s σ H R' I (Eo z)
theorem uV {tg : Expr} {p : Pos} (hg : Gl X "range") (hm : X.mg "range" = none) (h : DE M X a fa) (k : DE M X b fb) (hs1 : starEach [a, b] X.env = (false, eval a X.env) :: starEach [b] X.env := by rfl) (hs0 : starEach [b] X.env = (false, eval b X.env) :: starEach [] X.env := by rfl)
  (hs : starEach [a, b] X.env = [(false, eval a X.env), (false, eval b X.env)] := by rfl) (hs2 : starEach [b] X.env = [(false, eval b X.env)] := by rfl) : DI M X tg (.Call (.Name "range" p) [a, b] [] pos) (iR2 fa fb) := fun hK hM =>
 fun pins s σ H R' I z => rC hg hm ((ae h (ae k ao hs0) hs1) hK hM) hs hs2 pins s σ H R' I (Eu z)
theorem iZ {ts : List Expr} {tk : Nat} {p tpos : Pos} (hg : Gl X "enumerate") (hm : X.mg "enumerate" = none) (h : DE M X a fa) (hs1 : starEach [a] X.env = (false, eval a X.env) :: starEach [] X.env := by rfl) (hs : starEach [a] X.env = [(false, eval a X.env)] := by rfl) :
  DI M X (.Tuple ts tk tpos) (.Call (.Name "enumerate" p) [a] [] pos) (iEn fa) := fun hK hM => by
 have q := wX (es := ts) (k := tk) (tpos := tpos) (p := p) (pos := pos) hg hm ((ae h ao hs1) hK hM) hs;rw [hK] at q;exact fun pins s σ H R' I z => q pins s σ H R' I (zo z)
theorem AG {ts : List Expr} {tk : Nat} {p tpos : Pos} (hg : Gl X "zip") (hm : X.mg "zip" = none) (h : DE M X a fa) (k : DE M X b fb) (hs1 : starEach [a, b] X.env = (false, eval a X.env) :: starEach [b] X.env := by rfl) (hs0 : starEach [b] X.env = (false, eval b X.env) :: starEach [] X.env := by rfl)
  (hs : starEach [a, b] X.env = [(false, eval a X.env), (false, eval b X.env)] := by rfl) (hs2 : starEach [b] X.env = [(false, eval b X.env)] := by rfl) : DI M X (.Tuple ts tk tpos) (.Call (.Name "zip" p) [a, b] [] pos) (iZp fa fb) := fun hK hM => by
 have q := yr (es := ts) (k := tk) (tpos := tpos) (p := p) (pos := pos) hg hm ((ae h (ae k ao hs0) hs1) hK hM) hs hs2;rw [hK] at q;exact fun pins s σ H R' I z => q pins s σ H R' I (Ca z)
theorem jK {α : Type} {N : List α} {i : Nat} {x : α} (h : N[i]? = some x) : i < N.length := (List.getElem?_eq_some_iff.mp h).1
theorem pgI {tg : Expr} {t t' : TG} (h : PG X tg t) (k : ∀ v σ H Q, t' v σ H Q → t v σ H Q) : PG X tg t' := fun pins s σ H v u Q I r q => h pins s σ H v u Q I r (k _ _ _ _ q)
theorem Dk {tg : List Expr} {t t' : TGs} (h : PGs X tg t) (k : ∀ v σ H Q, t' v σ H Q → t v σ H Q) : PGs X tg t' := fun pins s σ H v u Q I r q => h pins s σ H v u Q I r (k _ _ _ _ q)
theorem bH {i : Nat} {x : Str} (hN : X.N.Nodup) (hi : X.N[i]? = some x) (hx : Loc X.env.scope x) (hf : X.fn x = true ∨ X.env.scope.names.lookup x = some .local := by first | exact .inl rfl | exact .inr rfl | assumption) : DG M X (.Name x pos) [i] (gNm i) := fun _ _ =>
 pgI (vM hN hi hx hf) fun _ _ _ _ q => tL (jK hi) q
theorem ix : DGs M X [] [] iX := fun _ _ => Dk ve fun _ _ _ _ q => BU q
theorem dk {is js : List Nat} {g : Fg} {gs : Fgs} (h : DG M X e is g) (k : DGs M X es js gs)
  (hs : (assignEach (e :: es) X.env).map (·.2) = assign e X.env :: (assignEach es X.env).map (·.2) := by rfl) : DGs M X (e :: es) (is ++ js) (d_ g gs) := fun hK hM =>
 Dk (tj (h hK hM) (k hK hM) hs) fun _ _ _ _ q => yG q
theorem jC {is : List Nat} {gs : Fgs} {k n : Nat} (hc : X.calm = true) (h : DGs M X es is gs) (hn : (assignEach es X.env).length = n := by rfl) (hst : (assignEach es X.env).findIdx? (·.1) = none := by rfl) : DG M X (.Tuple es k pos) is (gTp n gs) := fun hK hM => by
 have q := yU (pos := pos) (k := k) hc (h hK hM) hn hst;rw [hK] at q;exact pgI q fun _ _ _ _ z => Dv z
variable {st : Stmt} {rest sa sb : List Stmt} {f g : Fs}
theorem aM : DSs M X [] sNx := fun _ _ => zK vC fun _ _ _ q => yR q
theorem af (h : DS M X st f) (k : DSs M X rest g) : DSs M X (st :: rest) (aI f g) := fun hK hM => zK (nQ (h hK hM) (k hK hM)) fun _ _ _ q => Bi q
theorem aq (h : DS M X st f) : DSs M X [st] f := fun hK hM => pU (h hK hM)
theorem fk : DS M X st lz := fun _ _ => psI tW fun _ _ _ q => BQ q
theorem iw (h : DE M X e fa) (hs : swapsWith e none pos.line X.env = pure false := by rfl) : DS M X (.Expr e pos) (iY fa) := fun hK hM => psI (pT (h hK hM) hs) fun _ _ _ q => xP q
theorem a8 (h : DE M X e fa) : DS M X (.Return (some e) pos) (c_ fa) := fun hK hM => psI (tR (h hK hM)) fun _ _ _ q => Dj q
theorem fF (i : Nat) {x : Str} {p : Pos} (hN : X.N[i]? = some x := by rfl) (hv : Vis X.env.scope x := by first | exact Or.inl rfl | exact Or.inr (Or.inl rfl) | exact Or.inr (Or.inr rfl)) (hd : (x == ("__debug__" : Str)) = false := by decide)
  (hcd : (x == ("__classdict__" : Str)) = false := by decide) : DS M X (.Return (some (.Name x p)) pos) (gj i) := fun _ _ => psI (tR (ic hN hv hd hcd)) fun _ _ _ q => zb q
theorem bq (h : DT M X c ta) (ha : DSs M X sa f) (hb : DSs M X sb g) : DS M X (.If c sa sb pos) (sIf ta f g) := fun hK hM => psI (DR (h hK hM) (ha hK hM) (hb hK hM)) fun _ _ _ q => E_ q
theorem aD {i : Nat} {x : Str} {p : Pos} (hN : X.N.Nodup) (hi : X.N[i]? = some x) (hx : Loc X.env.scope x) (h : DE M X e fa) (hs : swapsWith e (some (.Name x p)) pos.line X.env = pure false := by rfl)
  (hf : X.fn x = true ∨ X.env.scope.names.lookup x = some .local := by first | exact .inl rfl | exact .inr rfl | assumption) : DS M X (.Assign [.Name x p] e pos) (bx i fa) := fun hK hM =>
 psI (uD hN hi hx (h hK hM) hs hf) fun _ _ _ q => xo (jK hi) q
theorem eG {tg iter : Expr} {it : Fi} {is : List Nat} {gg : Fg} {body : List Stmt} (hc : X.calm = true) (hp : PassesOwn (model X.prog X.w) X.A X.env X.xe) (hi : DI M X tg iter it) (hg : DG M X tg is gg) (hb : DSs M X body f) (hs : ∀ x, foldedSetIterable iter X.env x = pure x := by intro _; rfl) : DS M X (.For tg iter body [] pos) (g_ it gg f) := fun hK hM =>
 psI (zR hp hc (hi hK hM) (hg hK hM) (hb hK hM) hs) fun _ _ _ q => Cr q
theorem nv {body : List Stmt} (hp : PassesOwn (model X.prog X.w) X.A X.env X.xe) (h : DT M X c ta) (hb : DSs M X body f) : DS M X (.While c body [] pos) (fS ta f) := fun hK hM =>
 psI (sj hp (h hK hM) (hb hK hM)) fun _ _ _ q => w9 q
variable {x : Str} {p ap cp : Pos}
theorem EU {o : Expr} {to : TE} {t : TA} {name : Str} {id : String} {r : V → List V → Hp → VK → Prop} (slot : Slot "list" name id) (hty : typeOf (.builtin id) = pure (.type "method_descriptor")) (hm : MtR X id r) (ho : PE X o to) (ha : PA X [e] t) (k : ∀ D σ H, tS M X.N.length f D σ H → pO (tBM M.K "list" r to t) D σ H)
  (hbase : attributeBase o name X.env (eval o X.env) = eval o X.env)
  (hfew : ((backTo cp (starEach [e] X.env)).all (fun x => !x.1) && (backToKw cp (keywordEach [] X.env)).all (fun x => x.1.isSome) && decide (([e] : List Expr).length + ([] : List Keyword).length + (if ([] : List Keyword).isEmpty then 0 else 1) < 30)) = true)
  (hline : (ap.endLine == cp.line) = true) (hs : starEach [e] X.env = (false, eval e X.env) :: starEach [] X.env) (hplain : (backTo cp (starEach [] X.env)).any (·.1) = false)
  (hsw : swapsWith (.Call (.Attribute o name ap) [e] [] cp) none pos.line X.env = pure false) (hK : X.K = M.K) : PS X (.Expr (.Call (.Attribute o name ap) [e] [] cp) pos) (tS M X.N.length f) := by
 have q := xn (apos := ap) (cpos := cp) PySem.F.plainAttrs_list slot hty hm ho ha hbase hfew hline hs hplain;rw [hK] at q;exact psI (pT q hsw) k
theorem EA (h : DE M X e fa) (hs : starEach [e] X.env = (false, eval e X.env) :: starEach [] X.env) (hK : X.K = M.K) (hM : X.mg = M.mg) : PA X [e] (lP (tD M X.N.length fa) qI) := de (h hK hM) fY hs
theorem ig (i : Nat) (h : DE M X e fa) (hN : X.N[i]? = some x := by rfl) (hv : Vis X.env.scope x := by first | exact Or.inl rfl | exact Or.inr (Or.inl rfl) | exact Or.inr (Or.inr rfl)) (hd : (x == ("__debug__" : Str)) = false := by decide) (hcd : (x == ("__classdict__" : Str)) = false := by decide)
  (hbase : attributeBase (.Name x p) "append" X.env (eval (.Name x p) X.env) = eval (.Name x p) X.env := by rfl)
  (hfew : ((backTo cp (starEach [e] X.env)).all (fun x => !x.1) && (backToKw cp (keywordEach [] X.env)).all (fun x => x.1.isSome) && decide (([e] : List Expr).length + ([] : List Keyword).length + (if ([] : List Keyword).isEmpty then 0 else 1) < 30)) = true := by rfl)
  (hline : (ap.endLine == cp.line) = true := by rfl) (hs : starEach [e] X.env = (false, eval e X.env) :: starEach [] X.env := by rfl) (hplain : (backTo cp (starEach [] X.env)).any (·.1) = false := by rfl)
  (hsw : swapsWith (.Call (.Attribute (.Name x p) "append" ap) [e] [] cp) none pos.line X.env = pure false := by rfl) : DS M X (.Expr (.Call (.Attribute (.Name x p) "append" ap) [e] [] cp) pos) (jv i fa) := fun hK hM =>
 EU PySem.F.slot_list_append PySem.F.type_list_append lV (ic hN hv hd hcd) (EA h hs hK hM) (fun _ _ _ q => CN q) hbase hfew hline hs hplain hsw hK
variable {sc scope : Scope} {outs : List (Nat × Str)} {elt tg iter : Expr} {ifs : List Expr} {it : Fi} {gg : Fg} {is : List Nat} {el : Fe}
theorem ph : DF M X [] jJ := fun _ _ => fun pins s σ H Q I q => Ax pins s σ H Q I (by
 obtain ⟨F, ρ, fp, S, p⟩ := q;exact p F H (Ext.refl S.same))
theorem jD (own : List Str) (s : Shared) (H : Hp) (C : Addr) (ex : List Addr) (pins : List (Addr × Obj)) : (cxB X (own ++ outs.map (·.2)) scope s H C ex pins).N.length = own.length + outs.length := by
 show (own ++ outs.map (·.2)).length = _
 rw [List.length_append, List.length_map]
theorem pY (own : List Str) (B : Blk X sc scope outs) (hcalm : X.calm = true) (hk : ∀ j ∈ is, j < own.length) (hi : DI M X tg iter it)
  (hg : ∀ s H C ex pins, DG M (cxB X (own ++ outs.map (·.2)) scope s H C ex pins) tg is gg) (hc : ∀ s H C ex pins, DF M (cxB X (own ++ outs.map (·.2)) scope s H C ex pins) ifs ta) (he : ∀ s H C ex pins, DE M (cxB X (own ++ outs.map (·.2)) scope s H C ex pins) elt el)
  (hs : ∀ x, foldedSetIterable iter X.env x = pure x := by intro _; rfl) : DE M X (.ListComp elt [⟨tg, iter, ifs, 0⟩] scope pos) (jg it gg ta el own.length (outs.map (·.1))) := fun hK hM =>
 peI (vS (wi := tI M X.N.length it) (g := tG M (own.length + outs.length) is gg) (tc := tT M (own.length + outs.length) ta) (te := tD M (own.length + outs.length) el) own B hcalm (hi hK hM)
  (fun s H C ex pins => by have q := hg s H C ex pins hK hM; rw [jD] at q; exact q) (fun s H C ex pins => by have q := hc s H C ex pins hK hM; rw [jD] at q; exact q) (fun s H C ex pins => by have q := he s H C ex pins hK hM; rw [jD] at q; exact q) hs) fun _ _ _ q => tP hk q
theorem wU {fe : Fe} {i : Nat} {spos : Pos} (own : List Str) (w : ∀ σ H Q, tD M X.N.length fe σ H Q → tD M X.N.length (jg it gg ta el own.length (outs.map (·.1))) σ H Q) (hN : X.N.Nodup) (hix : X.N[i]? = some x) (hx : Loc X.env.scope x) (B : Blk X sc scope outs) (hcalm : X.calm = true) (hk : ∀ j ∈ is, j < own.length) (hi : DI M X tg iter it)
  (hg : ∀ s H C ex pins, DG M (cxB X (own ++ outs.map (·.2)) scope s H C ex pins) tg is gg) (hc : ∀ s H C ex pins, DF M (cxB X (own ++ outs.map (·.2)) scope s H C ex pins) ifs ta) (he : ∀ s H C ex pins, DE M (cxB X (own ++ outs.map (·.2)) scope s H C ex pins) elt el)
  (hsw : swapsWith (.ListComp elt [⟨tg, iter, ifs, 0⟩] scope pos) (some (.Name x p)) spos.line X.env = pure true := by rfl)
  (hs : ∀ x, foldedSetIterable iter X.env x = pure x := by intro _; rfl) (hf : X.fn x = true ∨ X.env.scope.names.lookup x = some .local := by first | exact .inl rfl | exact .inr rfl | assumption) :
  DS M X (.Assign [.Name x p] (.ListComp elt [⟨tg, iter, ifs, 0⟩] scope pos) spos) (bx i fe) := fun hK hM =>
 psI (vk (wi := tI M X.N.length it) (g := tG M (own.length + outs.length) is gg) (tc := tT M (own.length + outs.length) ta) (te := tD M (own.length + outs.length) el) own hN hix hx B hcalm (hi hK hM)
  (fun s H C ex pins => by have q := hg s H C ex pins hK hM; rw [jD] at q; exact q) (fun s H C ex pins => by have q := hc s H C ex pins hK hM; rw [jD] at q; exact q) (fun s H C ex pins => by have q := he s H C ex pins hK hM; rw [jD] at q; exact q) hsw hs hf) fun D σ H q => by
  have q' := xo (jK hix) q;exact tP hk (w _ _ _ q')
end
end L3
namespace L3
open PySem L2 PySem.Spec PyProof.Rows
noncomputable def oI (i : Int) : R OD := .ok (.sh (.int i))
noncomputable def oB (b : Bool) : R OD := .ok (.sh (.bool b))
noncomputable def oD (d : PyData) : R OD := .ok (.sh d)
noncomputable def a_ : PyData → PyData → R OD
 | .int i, .int j => oI (i + j)
 | .str x, .str y => if x.length + y.length ≤ BIG then oD (.str (x ++ y)) else .bad
 | .list xs, .list ys => if xs.length + ys.length ≤ BIG then .ok (.ol ((xs ++ ys).map OD.sh)) else .bad
 | _, _ => .bad
noncomputable def fT : PyData → PyData → R OD
 | .int i, .int j => oI (i - j)
 | _, _ => .bad
noncomputable def hZ (i j : Int) : Bool := (decide (-(2 ^ 64) < i) && decide (i < 2 ^ 64)) || (decide (-(2 ^ 64) < j) && decide (j < 2 ^ 64))
noncomputable def ie : PyData → PyData → R OD
 | .int i, .int j => if hZ i j = true then oI (i * j) else .bad
 | .list xs, .int k => if (decide (-(2 ^ 63) ≤ k) && decide (k < 2 ^ 63) && decide (xs.length * k.toNat ≤ BIG)) = true then .ok (.ol ((List.replicate k.toNat xs).flatten.map OD.sh)) else .bad
 | _, _ => .bad
noncomputable def fi : PyData → PyData → R OD
 | .int i, .int j => if 0 < j then oI (i % j) else .bad
 | _, _ => .bad
noncomputable def gI : PyData → PyData → R OD
 | .int i, .int j => if 0 < j ∧ j < 1073741824 then oI (i / j) else .bad
 | _, _ => .bad
noncomputable def Ek : PyData → PyData → R OD
 | .int i, .int j => if 0 ≤ j ∧ j ≤ 1000000 ∧ i.natAbs < 2 ^ 64 then oI (i ^ j.toNat) else .bad
 | _, _ => .bad
noncomputable def hG : PyData → R OD
 | .int i => oI (-i)
 | _ => .bad
noncomputable def gLt : PyData → PyData → R OD
 | .int i, .int j => oB (decide (i < j))
 | _, _ => .bad
noncomputable def gLe : PyData → PyData → R OD
 | .int i, .int j => oB (decide (i ≤ j))
 | _, _ => .bad
noncomputable def gGt : PyData → PyData → R OD
 | .int i, .int j => oB (decide (j < i))
 | _, _ => .bad
noncomputable def gGe : PyData → PyData → R OD
 | .int i, .int j => oB (decide (j ≤ i))
 | _, _ => .bad
noncomputable def iN (x y : PyData) : R Bool := if (SeqAt.shaped x && SeqAt.shaped y) = true then .ok (PyData.eqv x y) else .bad
noncomputable def eqD : PyData → PyData → R Bool
 | .int i, .int j => .ok (decide (i = j))
 | .str x, .str y => .ok (decide (x = y))
 | .bool x, .bool y => .ok (decide (x = y))
 | x, y => iN x y
noncomputable def gEq (x y : PyData) : R OD := (eqD x y).bind fun b => oB b
noncomputable def gNe (x y : PyData) : R OD := (eqD x y).bind fun b => oB (!b)
noncomputable def fZ (o : Option PyData) : R OD := match o with
 | some d => oD d
 | none => .bad
noncomputable def gIx : PyData → PyData → R OD
 | .list xs, .int i => fZ (atI xs i)
 | .tuple xs, .int i => fZ (atI xs i)
 | .str z, .int i => if z.length ≤ BIG then fZ ((atI z.cps.toList i).map fun c => .str ⟨#[c]⟩) else .bad
 | _, _ => .bad
noncomputable def cutD (xs : List PyData) (lo hi : Option Int) : List PyData := (xs.drop (HT.sIx xs.length 0 lo)).take (HT.sIx xs.length xs.length hi - HT.sIx xs.length 0 lo)
noncomputable def gC (x : PyData) (lo hi : Option Int) : R OD := match x with
 | .list xs => .ok (.ol ((cutD xs lo hi).map OD.sh))
 | _ => .bad
noncomputable def dA : List PyData → R OD
 | [.list xs] => oI xs.length
 | [.tuple xs] => oI xs.length
 | [.str x] => if x.length ≤ BIG then oI x.length else .bad
 | _ => .bad
noncomputable def qq : List PyData → R OD
 | [.int i, .int j] => oI (if j < i then j else i)
 | _ => .bad
noncomputable def C4 : List PyData → R OD
 | [.int i, .int j] => oI (if i < j then j else i)
 | _ => .bad
noncomputable def fI : List PyData → Option (List Int)
 | [] => some []
 | .int i :: r => (fI r).map (i :: ·)
 | _ :: _ => none
theorem jL : ∀ ns : List Int, fI (ns.map PyData.int) = some ns
 | [] => rfl
 | n :: ns => by rw [List.map_cons, fI, jL ns]; rfl
theorem kn : ∀ {ds : List PyData} {ns : List Int}, fI ds = some ns → ds = ns.map PyData.int
 | [], ns, h => by cases h; rfl
 | .int i :: r, ns, h => by
  rw [fI] at h;obtain ⟨ms, h1, rfl⟩ := Option.map_eq_some_iff.mp h;rw [kn h1];rfl
 | .none :: _, _, h => by cases h
 | .bool _ :: _, _, h => by cases h
 | .str _ :: _, _, h => by cases h
 | .list _ :: _, _, h => by cases h
 | .tuple _ :: _, _, h => by cases h
 | .dict _ :: _, _, h => by cases h
noncomputable def mm : Int → List Int → Int
 | m, [] => m
 | m, n :: ns => mm (if m < n then n else m) ns
noncomputable def l7 : List PyData → R OD
 | [.list ds] => match fI ds with
  | some (n :: ns) => oI (mm n ns)
  | _ => .bad
 | _ => .bad
noncomputable def gM : List PyData → R OD
 | [.list ds] => .ok (.ol (ds.map OD.sh))
 | [.tuple ds] => .ok (.ol (ds.map OD.sh))
 | _ => .bad
noncomputable def qP : List PyData → R OD
 | [.int i] => oI i
 | [.bool b] => oI (if b then 1 else 0)
 | _ => .bad
noncomputable def rP (ds : List PyData) (y : PyData) : R OD := match y with
 | .int z => match fI ds with
  | some ns => if z ∈ ns then oI (ns.idxOf z : Nat) else .bad
  | none => .bad
 | _ => .bad
noncomputable def xy : PyData → Option String
 | .int _ => some "int"
 | .bool _ => some "bool"
 | .str _ => some "str"
 | .list _ => some "list"
 | .tuple _ => some "tuple"
 | .none => some "NoneType"
 | .dict _ => none
noncomputable def u9 (T : String) (d : PyData) : Option Bool := match xy d with
 | some U => if T = "int" ∨ T = "bool" ∨ T = "str" ∨ T = "list" ∨ T = "tuple" then some (decide (T = U ∨ (U = "bool" ∧ T = "int"))) else none
 | none => none
noncomputable def gX (T : String) (x : PyData) : R OD := match u9 T x with
 | some b => oB b
 | none => .bad
section
variable {M : Mx} {X : Cx}
theorem okI {F H : Hp} {fp : List Addr} {Q : VK} {i : Int} (s : aN F H) (p : ay M H fp (OkE M F H Q) (oI i)) : Q (.int i) H := OkE.val s p (.int i)
theorem okB {F H : Hp} {fp : List Addr} {Q : VK} {i : Bool} (s : aN F H) (p : ay M H fp (OkE M F H Q) (oB i)) : Q (.bl i) H := OkE.val s p (.bl i)
noncomputable def xC (K : PySem.W.Frag) : R2 := fun x y H Q => ∃ l b xs zs, x = .ref l ∧ y = .ref b ∧ RdK K H l xs ∧ RdK K H b zs ∧ xs.length + zs.length ≤ sizeLine ∧ ∀ p, H p = none → Q (.ref p) (upd H p (.lst (xs ++ zs)))
theorem vD : OpR X (binaryOp .Add) (xC X.K) := by
 intro pins s σ H x y v u Q I rx ry h;obtain ⟨l, b, xs, zs, rfl, rfl, hH, hB, hz, q⟩ := h;cases rx;cases ry;obtain ⟨z, its, n, r, hl, e⟩ := hH.obj I;obtain ⟨z2, its2, n2, r2, hl2, e2⟩ := hB.obj I;refine PySem.P.add_list e e2 ?_ (by rw [List.size_toArray, List.size_toArray]; lia)
 have ea : its.toArray ++ its2.toArray = (its ++ its2).toArray := by simp
 rw [ea];exact ⟨.ref _, _, I.lnew (t' := s.toks) (r.append r2) (by rw [List.length_append]; lia), rfl, q _ I.fresh⟩
noncomputable def xF (K : PySem.W.Frag) : R2 := fun x y H Q => rI0 (fun i j => .int (i + j)) x y H Q ∨ (∃ i j, x = .str i ∧ y = .str j ∧ i.length + j.length ≤ sizeLine ∧ Q (.str (i ++ j)) H) ∨ xC K x y H Q
theorem aw : OpR X (binaryOp .Add) (xF X.K) := zj.or (pA.or vD)
theorem aC (hK : X.K = M.K) : Ok2 M (xF X.K) a_ := by
 rw [hK];intro x y dx dy F H fp Q s rx ry p;unfold a_ at p;split at p
 ·cases rx; cases ry
  exact .inl ⟨_, _, rfl, rfl, okI s p⟩
 ·cases rx; cases ry
  split at p
  ·rename_i hl
   exact .inr (.inl ⟨_, _, rfl, rfl, gO hl, OkE.val s p (.str _)⟩)
  ·exact p.elim
 ·split at p
  ·rename_i hl
   cases rx with
   | lst h1 h2 =>
    cases ry with
    | lst h3 h4 => exact .inr (.inr ⟨_, _, _, _, rfl, rfl, h1.same s, h3.same s, by rw [RepAll.len h2, RepAll.len h4]; exact gO hl, fun a ha => OkE.lstD s p (RepAll.app h2 h4) ha⟩)
  ·exact p.elim
 ·exact p.elim
theorem gb : Ok2 M (rI0 fun i j => .int (i - j)) fT := by
 intro x y dx dy F H fp Q s rx ry p;unfold fT at p;split at p
 ·cases rx; cases ry
  exact ⟨_, _, rfl, rfl, okI s p⟩
 ·exact p.elim
theorem wD {i j : Int} (h : hZ i j = true) : sI i j := by
 unfold hZ at h;rw [Bool.or_eq_true, Bool.and_eq_true, Bool.and_eq_true, decide_eq_true_eq, decide_eq_true_eq, decide_eq_true_eq, decide_eq_true_eq] at h;exact h
noncomputable def xg (K : PySem.W.Frag) : R2 := fun x y H Q => ∃ l k xs, x = .ref l ∧ y = .int k ∧ RdK K H l xs ∧ -(2 ^ 63) ≤ k ∧ k < 2 ^ 63 ∧ xs.length * k.toNat ≤ sizeLine ∧
 ∀ p, H p = none → Q (.ref p) (upd H p (.lst (List.replicate k.toNat xs).flatten))
theorem vz : OpR X (binaryOp .Mult) (xg X.K) := by
 intro pins s σ H x y v u Q I rx ry h;obtain ⟨l, k, xs, rfl, rfl, hH, h1, h2, hz, q⟩ := h;cases rx;obtain ⟨t, rfl⟩ := ry;obtain ⟨z, its, n, r, hl, e⟩ := hH.obj I;have hlen : its.toArray.size * k.toNat ≤ sizeLine := by rw [List.size_toArray, ← hl]; exact hz
 have hcap : ¬ its.toArray.size * k.toNat > (2 ^ 63 - 1) / 8 := by
  have : (sizeLine : Nat) ≤ (2 ^ 63 - 1) / 8 := by decide
  lia
 have hfit : ¬ (!Builtin.List.listFitsIndex k) = true := by
  rw [fitsIndex_both h1 h2];exact Bool.false_ne_true
 have hlong : ¬ Builtin.List.listTooLong (its.toArray.size * k.toNat) = true := by
  rw [tu hlen];exact Bool.false_ne_true
 have hnew : List.foldl (fun x1 x2 => x1 ++ x2) #[] (List.replicate (if its.toArray.isEmpty = true then 0 else k.toNat) its.toArray) = (List.replicate k.toNat its).flatten.toArray := by
  have f0 : ∀ m : Nat, List.foldl (fun x1 x2 => x1 ++ x2) #[] (List.replicate m its.toArray) = (List.replicate m its).flatten.toArray := fun m => by
   have := foldl_rep its m [];rw [List.nil_append] at this;exact this
  rw [f0];cases its with
  | nil => simp
  | cons a r' => rw [if_neg (by simp)]
 refine wpAny_binaryOp_repeat_ref (T := "list") (U := "int") (by decide) ⟨_, e, rfl⟩ (fun s' => typeIs_int s' k t) noFill_list_mul F.fills_int_mul F.slot_int_rmul repeat_list F.slot_int_index.lookup
  (call_meets F.slot_int_rmul (typeIs_int s k t) F.entry_int_rmul (F.args_int_rmul_2 _ _) (int___rmul___int_list k t l its.toArray n)
   ⟨e, rfl, ⟨_, e, rfl⟩, call_meets F.slot_list_mul ⟨_, e, rfl⟩ F.entry_list_mul (F.args_list_mul_2 _ _) (AutoListH.list___mul___list_int_3 l its.toArray n k t hfit hcap hlong) ⟨e, ?_⟩⟩)
 rw [hnew];exact ⟨.ref _, _, I.lnew (t' := s.toks) (r.rep k.toNat) (by rw [len_rep, Nat.mul_comm]; exact hz), rfl, q _ I.fresh⟩
noncomputable def xG (K : PySem.W.Frag) : R2 := fun x y H Q => rI sI (fun i j => .int (i * j)) x y H Q ∨ xg K x y H Q
theorem e6 : OpR X (binaryOp .Mult) (xG X.K) := zE.or vz
theorem RepAll.rep {K : PySem.W.Frag} {F : Hp} {vs : List V} {ds : List PyData} (h : RepAll K F vs ds) : ∀ k : Nat, RepAll K F (List.replicate k vs).flatten (List.replicate k ds).flatten
 | 0 => .nil
 | k + 1 => by
  rw [List.replicate_succ, List.replicate_succ, List.flatten_cons, List.flatten_cons];exact RepAll.app h (RepAll.rep h k)
theorem gz (hK : X.K = M.K) : Ok2 M (xG X.K) ie := by
 rw [hK];intro x y dx dy F H fp Q s rx ry p;unfold ie at p;split at p
 ·cases rx; cases ry
  split at p
  ·rename_i hc
   exact .inl ⟨_, _, rfl, rfl, wD hc, okI s p⟩
  ·exact p.elim
 ·cases ry
  split at p
  ·rename_i hc
   rw [Bool.and_eq_true, Bool.and_eq_true, decide_eq_true_eq, decide_eq_true_eq, decide_eq_true_eq] at hc;cases rx with
   | lst h1 h2 => exact .inr ⟨_, _, _, rfl, rfl, h1.same s, hc.1.1, hc.1.2, by rw [RepAll.len h2]; exact gO hc.2, fun a ha => OkE.lstD s p (RepAll.rep h2 _) ha⟩
  ·exact p.elim
 ·exact p.elim
theorem cn : Ok2 M (rI (fun _ j => 0 < j) fun i j => .int (i % j)) fi := by
 intro x y dx dy F H fp Q s rx ry p;unfold fi at p;split at p
 ·cases rx; cases ry
  split at p
  ·rename_i hc
   exact ⟨_, _, rfl, rfl, hc, okI s p⟩
  ·exact p.elim
 ·exact p.elim
theorem dE : Ok2 M (rI Bo fun i j => .int (i / j)) gI := by
 intro x y dx dy F H fp Q s rx ry p;unfold gI at p;split at p
 ·cases rx; cases ry
  split at p
  ·rename_i hc
   exact ⟨_, _, rfl, rfl, hc, okI s p⟩
  ·exact p.elim
 ·exact p.elim
theorem d9 : Ok1 M (rU fun i => .int (-i)) hG := by
 intro x dx F H fp Q s rx p;unfold hG at p;split at p
 ·cases rx
  exact ⟨_, rfl, okI s p⟩
 ·exact p.elim
theorem oJ : Ok2 M (rI0 fun i j => .bl (decide (i < j))) gLt := by
 intro x y dx dy F H fp Q s rx ry p;unfold gLt at p;split at p
 ·cases rx; cases ry
  exact ⟨_, _, rfl, rfl, okB s p⟩
 ·exact p.elim
theorem g9 : Ok2 M (rI0 fun i j => .bl (decide (j < i))) gGt := by
 intro x y dx dy F H fp Q s rx ry p;unfold gGt at p;split at p
 ·cases rx; cases ry
  exact ⟨_, _, rfl, rfl, okB s p⟩
 ·exact p.elim
mutual
theorem Rep.to2 {K : PySem.W.Frag} {H : Hp} {v : V} {d : PyData} : Rep K H v d → d.canLay0 = true → L2.Rep K H v d
 | .non, _ => .non
 | .bl b, _ => .bl b
 | .int i, _ => .int i
 | .str x, _ => .str x
 | .lst h r, c => .lst h.sq (RepAll.to2 r (by rw [PyData.canLay0] at c; exact c))
 | .tup h r, c => .tup (SqT.of h) (RepAll.to2 r (by rw [PyData.canLay0] at c; exact c))
 | .dct _ _ _, c => by
  unfold dD at c;rw [PyData.canLay0] at c;cases c
theorem RepAll.to2 {K : PySem.W.Frag} {H : Hp} {vs : List V} {ds : List PyData} : RepAll K H vs ds → PyData.canLayAll0 ds = true → L2.RepAll K H vs ds
 | .nil, _ => .nil
 | .cons h r, c => by
  rw [PyData.canLayAll0, Bool.and_eq_true] at c;exact .cons (Rep.to2 h c.1) (RepAll.to2 r c.2)
end
noncomputable def AS (K : PySem.W.Frag) : R2 := fun x y H Q => rEq x y H Q ∨ Cd K x y H Q
noncomputable def BL (K : PySem.W.Frag) : R2 := fun x y H Q => rNe x y H Q ∨ Dz K x y H Q
theorem cA (hu : X.A.units + 64 < cLine) : OpR X (compareOp .Eq) (AS X.K) := Dy.or (AE hu)
theorem fU (hu : X.A.units + 64 < cLine) : OpR X (compareOp .NotEq) (BL X.K) := Eb.or (zG hu)
theorem t5 {K : PySem.W.Frag} {F H : Hp} {fp : List Addr} {x y : V} {dx dy : PyData} {P : Bool → Prop} (rx : Rep K F x dx) (ry : Rep K F y dy) (p : ay M H fp P (eqD dx dy)) :
  (yF x y = true ∧ P (decide (x = y))) ∨ (SeqAt.shaped dx = true ∧ SeqAt.shaped dy = true ∧ P (PyData.eqv dx dy)) := by
 unfold eqD at p;split at p
 ·cases rx; cases ry
  refine .inl ⟨rfl, ?_⟩;have e : ∀ i j : Int, decide (V.int i = V.int j) = decide (i = j) := fun i j => by
   by_cases h : i = j
   ·rw [h]; simp
   ·rw [decide_eq_false h, decide_eq_false fun z => h (V.int.inj z)]
  rw [e];exact p
 ·cases rx; cases ry
  refine .inl ⟨rfl, ?_⟩;have e : ∀ i j : Str, decide (V.str i = V.str j) = decide (i = j) := fun i j => by
   by_cases h : i = j
   ·rw [h]; simp
   ·rw [decide_eq_false h, decide_eq_false fun z => h (V.str.inj z)]
  rw [e];exact p
 ·cases rx; cases ry
  refine .inl ⟨rfl, ?_⟩;have e : ∀ i j : Bool, decide (V.bl i = V.bl j) = decide (i = j) := fun i j => by
   by_cases h : i = j
   ·rw [h]; simp
   ·rw [decide_eq_false h, decide_eq_false fun z => h (V.bl.inj z)]
  rw [e];exact p
 ·unfold iN at p
  split at p
  ·rename_i h
   rw [Bool.and_eq_true] at h;exact .inr ⟨h.1, h.2, p⟩
  ·exact p.elim
theorem dP (hK : X.K = M.K) : Ok2 M (AS X.K) gEq := by
 rw [hK];intro x y dx dy F H fp Q s rx ry p;rcases t5 rx ry (ay.bind p) with ⟨h, q⟩ | ⟨h1, h2, q⟩
 ·exact .inl ⟨h, okB s q⟩
 ·exact .inr ⟨dx, dy, (rx.same s).to2 (SeqAt.canLay_of_shaped h1), (ry.same s).to2 (SeqAt.canLay_of_shaped h2), h1, h2, okB s q⟩
theorem ij (hK : X.K = M.K) : Ok2 M (BL X.K) gNe := by
 rw [hK];intro x y dx dy F H fp Q s rx ry p;rcases t5 rx ry (ay.bind p) with ⟨h, q⟩ | ⟨h1, h2, q⟩
 ·exact .inl ⟨h, okB s q⟩
 ·exact .inr ⟨dx, dy, (rx.same s).to2 (SeqAt.canLay_of_shaped h1), (ry.same s).to2 (SeqAt.canLay_of_shaped h2), h1, h2, okB s q⟩
theorem pV {K : PySem.W.Frag} {F : Hp} {vs : List V} {ds : List PyData} {i : Int} {d : PyData} (h : RepAll K F vs ds) (e : atI ds i = some d) : ∃ v, atI vs i = some v ∧ Rep K F v d := by
 unfold atI at e ⊢;rw [RepAll.len h];cases q : ixN ds.length i with
 | none => rw [q] at e; cases e
 | some j =>
  rw [q] at e;obtain ⟨v, h1, h2⟩ := RepAll.get h e;exact ⟨v, h1, h2⟩
theorem aX (hK : X.K = M.K) : Ok2 M (rIx X.K) gIx := by
 rw [hK];intro x y dx dy F H fp Q s rx ry p;unfold gIx at p;split at p
 ·cases ry
  unfold fZ at p;split at p
  ·rename_i d hd
   cases rx with
   | lst h1 h2 =>
    obtain ⟨v, e, r⟩ := pV h2 hd;exact .inl ⟨_, _, _, v, rfl, rfl, (h1.same s).sq, e, OkE.val s p r⟩
  ·exact p.elim
 ·cases ry
  unfold fZ at p;split at p
  ·rename_i d hd
   cases rx with
   | tup h1 h2 =>
    obtain ⟨v, e, r⟩ := pV h2 hd;exact .inr (.inl ⟨_, _, _, v, rfl, rfl, SqT.of (s _ _ h1), e, OkE.val s p r⟩)
  ·exact p.elim
 ·cases ry
  cases rx;split at p
  ·rename_i hl
   unfold fZ at p;split at p
   ·rename_i d hd
    obtain ⟨c, hc, rfl⟩ := Option.map_eq_some_iff.mp hd;exact .inr (.inr ⟨_, _, c, rfl, rfl, gO hl, hc, OkE.val s p (.str _)⟩)
   ·exact p.elim
  ·exact p.elim
 ·exact p.elim
theorem dF (hK : X.K = M.K) : OkS M (BJ X.K) gC := by
 rw [hK];intro x lo hi dx F H fp Q s rx p;unfold gC at p;split at p
 ·cases rx with
  | @lst a vs ds h1 h2 =>
   refine ⟨a, vs, rfl, (h1.same s).sq, fun q hq => ?_⟩
   refine OkE.lstD s p ?_ hq;unfold ui cutD;rw [RepAll.len h2];exact RepAll.take _ (RepAll.drop _ h2)
 ·exact p.elim
noncomputable def xk (K : PySem.W.Frag) : List V → Hp → VK → Prop := fun xs H Q => (∃ p ys, xs = [.ref p] ∧ (SqL K H p ys ∨ SqT K H p ys) ∧ Q (.int ys.length) H) ∨ (∃ z, xs = [.str z] ∧ z.length ≤ sizeLine ∧ Q (.int z.length) H)
theorem aH : ee X (.builtin "len") (xk X.K) := m7.or mQ
theorem bz (hK : X.K = M.K) : OkC M (xk X.K) dA := by
 rw [hK];intro x dx F H fp Q s rx p;unfold dA at p;split at p
 ·cases rx with
  | cons h r =>
   cases r;cases h with
   | lst h1 h2 => exact .inl ⟨_, _, rfl, .inl (h1.same s).sq, by rw [RepAll.len h2]; exact okI s p⟩
 ·cases rx with
  | cons h r =>
   cases r;cases h with
   | tup h1 h2 => exact .inl ⟨_, _, rfl, .inr (SqT.of (s _ _ h1)), by rw [RepAll.len h2]; exact okI s p⟩
 ·cases rx with
  | cons h r =>
   cases r;cases h;split at p
   ·rename_i hl
    exact .inr ⟨_, rfl, gO hl, okI s p⟩
   ·exact p.elim
 ·exact p.elim
theorem uA {K : PySem.W.Frag} {F : Hp} {x : List V} {i j : Int} (r : RepAll K F x [.int i, .int j]) : x = [.int i, .int j] := by
 cases r with
 | cons h r =>
  cases h;cases r with
  | cons h r =>
   cases h;cases r;rfl
theorem wW : OkC M (fun xs H Q => ∃ i j, xs = [.int i, .int j] ∧ Q (.int (if j < i then j else i)) H) qq := by
 intro x dx F H fp Q s rx p;unfold qq at p;split at p
 ·exact ⟨_, _, uA rx, okI s p⟩
 ·exact p.elim
theorem jt : ∀ (ns : List Int) (m : Int), mm m ns ∈ m :: ns ∧ ∀ z ∈ m :: ns, z ≤ mm m ns
 | [], m => ⟨List.mem_cons_self, fun z h => by simp at h; rw [h]; exact Int.le_refl _⟩
 | n :: ns, m => by
  obtain ⟨h1, h2⟩ := jt ns (if m < n then n else m)
  rw [mm];have hm : m ≤ (if m < n then n else m) := by split <;> lia
  have hn : n ≤ (if m < n then n else m) := by split <;> lia
  have ht := h2 _ List.mem_cons_self;refine ⟨?_, fun z hz => ?_⟩
  ·rcases List.mem_cons.mp h1 with h | h
   ·rw [h]
    split <;> simp
   ·simp [h]
  ·rcases List.mem_cons.mp hz with rfl | hz
   ·lia
   ·rcases List.mem_cons.mp hz with rfl | hz
    ·lia
    ·exact h2 z (List.mem_cons_of_mem _ hz)
theorem ub {K : PySem.W.Frag} {F : Hp} {x : List V} {ds : List PyData} {ns : List Int} (s : aN F H') (r : RepAll K F x [.list ds]) (e : fI ds = some ns) : ∃ a, x = [.ref a] ∧ SqL K H' a (ns.map V.int) := by
 cases r with
 | cons h r =>
  cases r;cases h with
  | lst h1 h2 =>
   rw [kn e] at h2;rw [RepAll.toInts h2] at h1;exact ⟨_, rfl, (h1.same s).sq⟩
theorem qf (hK : X.K = M.K) : OkC M (xq X.K) l7 := by
 rw [hK];intro x dx F H fp Q s rx p;unfold l7 at p;split at p
 ·split at p
  ·rename_i n ns e
   obtain ⟨a, rfl, h⟩ := ub s rx e;refine ⟨a, n :: ns, rfl, h, by simp, fun m h1 h2 => ?_⟩
   obtain ⟨k1, k2⟩ := jt ns n;have e : mm n ns = m := Int.le_antisymm (h2 _ k1) (k2 _ h1);rw [← e];exact okI s p
  ·exact p.elim
 ·exact p.elim
theorem mM (hK : X.K = M.K) : OkC M (AW X.K) gM := by
 rw [hK];intro x dx F H fp Q s rx p;unfold gM at p;split at p
 ·cases rx with
  | cons h r =>
   cases r;cases h with
   | lst h1 h2 => exact ⟨_, _, rfl, .inl (h1.same s).sq, fun l hl => OkE.lstD s p h2 hl⟩
 ·cases rx with
  | cons h r =>
   cases r;cases h with
   | tup h1 h2 => exact ⟨_, _, rfl, .inr (SqT.of (s _ _ h1)), fun l hl => OkE.lstD s p h2 hl⟩
 ·exact p.elim
theorem pL : OkC M (fun xs H Q => (∃ i, xs = [.int i] ∧ Q (.int i) H) ∨ ∃ k, xs = [.bl k] ∧ Q (.int (if k then 1 else 0)) H) qP := by
 intro x dx F H fp Q s rx p;unfold qP at p;split at p
 ·cases rx with
  | cons h r =>
   cases r;cases h;exact .inl ⟨_, rfl, okI s p⟩
 ·cases rx with
  | cons h r =>
   cases r;cases h;exact .inr ⟨_, rfl, okI s p⟩
 ·exact p.elim
noncomputable def oz (T : String) (a : Fe) : Fe := fun ρ => (a ρ).bind fun x => gX T x.er
noncomputable def xi (K : PySem.W.Frag) (T : String) : List V → Hp → VK → Prop := fun xs H Q => ∃ x d b, xs = [x, .ty T] ∧ Rep K H x d ∧ u9 T d = some b ∧ Q (.bl b) H
theorem yo {K : PySem.W.Frag} {T U : String} (hU : U = "int" ∨ U = "bool" ∨ U = "str" ∨ U = "list" ∨ U = "tuple" ∨ U = "NoneType") (hT : T = "int" ∨ T = "bool" ∨ T = "str" ∨ T = "list" ∨ T = "tuple") : PySem.W.kitOne K (.type U) (.type T) = some (decide (T = U ∨ (U = "bool" ∧ T = "int"))) := by
 rcases hU with rfl | rfl | rfl | rfl | rfl | rfl <;> rcases hT with rfl | rfl | rfl | rfl | rfl <;> rfl
theorem qR {K : PySem.W.Frag} {T U : String} {d : PyData} {b : Bool} (hk : xy d = some U) (hU : U = "int" ∨ U = "bool" ∨ U = "str" ∨ U = "list" ∨ U = "tuple" ∨ U = "NoneType") (e : u9 T d = some b) : PySem.W.kitOne K (.type U) (.type T) = some b := by
 unfold u9 at e;rw [hk] at e;have e' : (if T = "int" ∨ T = "bool" ∨ T = "str" ∨ T = "list" ∨ T = "tuple" then some (decide (T = U ∨ (U = "bool" ∧ T = "int"))) else none) = some b := e
 by_cases hT : T = "int" ∨ T = "bool" ∨ T = "str" ∨ T = "list" ∨ T = "tuple"
 ·rw [if_pos hT] at e'
  rw [← e'];exact yo hU hT
 ·rw [if_neg hT] at e'
  cases e'
end
end L3
namespace L3
open PySem L2 PySem.Spec PyProof.Rows
section
variable {M : Mx} {X : Cx} {e a b c : Expr} {es : List Expr} {pos : Pos} {fa fb : Fe} {ta tb : Ft} {al : Fa}
theorem q0 (T : String) : ee X (.builtin "isinstance") (xi X.K T) := by
 intro pins s σ H xs us Q I r h;obtain ⟨x, d, b, rfl, rd, e, q⟩ := h;obtain ⟨u, v, rfl, ru, rv⟩ := Vals.two r;cases rv;have fin : ∀ tk, EP X pins σ Q (.bool b) { s with toks := tk } := fun tk => ⟨.bl b, H, I.tok tk, rfl, q⟩
 cases rd with
 | non =>
  cases (show u = Value.none from ru)
  exact PySem.W.kia_one PySem.W.kitx_none I.kIn True.intro (qR rfl (by simp) e) (fun z => nomatch z) fin
 | bl y =>
  cases (show u = Value.bool y from ru)
  exact PySem.W.kia_one PySem.W.kitx_bool I.kIn True.intro (qR rfl (by simp) e) (fun z => nomatch z) fin
 | int i =>
  obtain ⟨t, hq⟩ := (show ∃ t, u = Value.int i t from ru)
  cases hq;exact PySem.W.kia_one PySem.W.kitx_int I.kIn True.intro (qR rfl (by simp) e) (fun z => nomatch z) fin
 | str y =>
  obtain ⟨t, hq⟩ := (show ∃ t, u = Value.str y t from ru)
  cases hq;exact PySem.W.kia_one PySem.W.kitx_str I.kIn True.intro (qR rfl (by simp) e) (fun z => nomatch z) fin
 | @lst a xs ds h1 h2 =>
  cases (show u = Value.ref a from ru)
  obtain ⟨_, its, n, _, _, he⟩ := h1.obj I;exact PySem.W.kia_one PySem.W.kitx_list I.kIn ⟨_, he, rfl⟩ (qR (d := .list ds) rfl (by simp) e) (fun z => nomatch z) fin
 | @tup a xs ds h1 h2 =>
  cases (show u = Value.ref a from ru)
  obtain ⟨_, _, _, p⟩ := (show dw X.prog X.w H s.heap a (.tup xs) from I.hok a _ h1)
  obtain ⟨o, k1, k2, _⟩ := p;exact PySem.W.kia_one PySem.W.kitx_tuple I.kIn ⟨o, k1, k2⟩ (qR (d := .tuple ds) rfl (by simp) e) (fun z => nomatch z) fin
 | dct _ _ _ =>
  have e' : (none : Option Bool) = some b := e;cases e'
theorem BO {n : Nat} {σ : St} {H : Hp} {Q : VK} {T : String} (h : tD M n (oz T fa) σ H Q) : tCB (xi M.K T) (lP (tD M n fa) (lP (tC (.ty T)) qI)) σ H Q := by
 obtain ⟨F, ρ, fp, S, p⟩ := h;refine ⟨F, ρ, fp, S, (ay.bind p).mono fun x px v F1 H1 fx e1 r1 w1 => ?_⟩
 obtain ⟨G1, d1, k1⟩ := r1.frz e1 w1;unfold gX at px;split at px
 ·rename_i b hb
  exact ⟨v, x.er, b, rfl, k1.same d1.fh, hb, OkE.val d1.fh (OkE.pre d1 px) (.bl b)⟩
 ·exact px.elim
theorem kN {T : String} {x : Str} {p p2 : Pos} (hg : Gl X "isinstance") (hm : X.mg "isinstance" = none) (hgT : Gl X x) (hmT : X.mg x = none) (hT : bootBuiltins x = some (.type T)) (h : DE M X e fa) (hnT : x ≠ "__name__" := by decide) (hdT : (x == ("__debug__" : Str)) = false := by decide)
  (hs1 : starEach [e, .Name x p2] X.env = (false, eval e X.env) :: starEach [.Name x p2] X.env := by rfl) (hs2 : starEach [.Name x p2] X.env = (false, eval (.Name x p2) X.env) :: starEach [] X.env := by rfl) (hpl : (backTo pos (starEach [.Name x p2] X.env)).any (·.1) = false := by rfl) :
  DE M X (.Call (.Name "isinstance" p) [e, .Name x p2] [] pos) (oz T fa) := fun hK hM => by
 have q := h9 (p := p) (pos := pos) (q0 T) hg hm dG (de (h hK hM) (de (pQ (v := V.ty T) (pos := p2) hgT hmT hT rfl hnT hdT) fY hs2) hs1) (by decide) (by decide) hs1 hpl
 rw [hK] at q;exact peI q fun _ _ _ z => BO z
noncomputable def BH (a b : Fe) : Fe := fun ρ => (a ρ).bind fun x => match x.er with
 | .list ds => (b ρ).bind fun y => rP ds y.er
 | _ => .bad
end
theorem iB {K : PySem.W.Frag} {F H : Hp} (m : Nat) : ∀ {vs : List V} {ds : List PyData}, RepAll K F vs ds → OwnS K F H (vs.map some ++ List.replicate m none) ((ds.map fun d => some (OD.sh d)) ++ List.replicate m none) []
 | _, _, .nil => by
  show OwnS K F H (List.replicate m none) (List.replicate m none) []
  have := OwnS.nones (K := K) (F := F) (H := H) m .nil;rw [List.append_nil, List.append_nil] at this;exact this
 | _, _, .cons h r => .yes (f := []) (.sh h) (iB m r)
theorem fn3 {P : Program} {w : World} {K : PySem.W.Frag} {mg : Str → Option Value} {base : Heap} {x qual : Str} {st : Stmt} {f : Addr} {fd : FuncData} {N ps : List Str} {k : Nat} {body : Fs} (F : Fun K x qual st f fd) (S : FnScope N ps (ar st))
  (h : ∀ (cdv : Value) (A : Around) (outer : List PySem.Env) (s : Shared) (H : Hp) (E : XK), Room k (A.deeper (envOfC qual (ar st) s.heap.objs.size f cdv)) → DSs ⟨K, mg, E⟩ (jZ CX0 P w K mg base N qual (ar st) f cdv A outer s H E).nox (aR st) body) :
  FnOk P w K mg base CX0 (k + 1) f fd ps (sp3 K mg (cq ps.length N.length body)) := by
 have hpl : ps.length ≤ N.length := by
  have := congrArg List.length S.pre;rw [List.length_take] at this
  lia
 have hlen : ∀ vs H Q E, sp3 K mg (cq ps.length N.length body) vs H Q E → vs.length = ps.length := by
  rintro vs H Q E ⟨F, ds, sm, ra, p⟩;by_cases hl : ds.length = ps.length
  ·rw [RepAll.len ra]
   exact hl
  ·unfold cq at p
   rw [if_neg hl] at p;exact p.elim
 refine F.ok S hlen fun cdv A outer s H vs Q E hr hs => ?_
 have hvl := hlen _ _ _ _ hs;obtain ⟨F0, ds, sm, ra, p⟩ := hs;have hdl : ds.length = ps.length := by rw [← RepAll.len ra]; exact hvl
 unfold cq at p;rw [if_pos hdl] at p;refine ⟨_, h cdv A outer s H E hr rfl rfl, F0, iE N.length ds, [], ⟨sm, ?_, List.nodup_nil, (fun _ m => by cases m), ?_⟩, (ay.bind p).mono fun o po => ?_⟩
 ·unfold L2.start iE
  rw [hvl, hdl];exact iB _ ra
 ·unfold iE
  show _ = N.length
  rw [List.length_append, List.length_map, List.length_replicate, hdl]
  lia
 ·cases o with
  | nx ρ => exact fun σ' F' H' fp' S' st => po .non F' H' [] ⟨st.ff, fun a o q => st.keep a o q (by simp), S'.same, fun a q z => st.nw a q (by simp) z⟩ (Res.sh .non) fun _ m => by cases m
  | rt y => exact fun v F' H' fx sm' r st => po v F' H' fx ⟨st.ff, fun a o q => st.keep a o q (by simp), sm', fun a q z => st.nw a q (by simp) z⟩ r fun a m => (st.new a m).elim (fun z => by cases z) id
  | bk ρ => exact po.elim
  | ct ρ => exact po.elim
theorem qS {P : Program} {w : World} {K : PySem.W.Frag} {mg mb : Str → Option Value} {CX : CXT} {k : Nat} {fa a : Addr} {fd : FuncData} {x : Str} {sp : Sp} {s₁ : Shared} {vs : List Value} {ns : List Int}
  (KX : K.In s₁.heap) (hns : s₁.heap.Ns mainGlobals mg) (hb : s₁.heap.Ns builtinsNs mb) (hbb : ∀ x : Str, x ≠ "__name__" → mb x = bootBuiltins x) (hlim : s₁.heap.NoLimit) (hg : s₁.gens = #[])
  (ha : s₁.heap.get? a = some { cls := .type "list", data := .seq vs.toArray }) (hi : IntsAre vs ns) (hl : ns.length ≤ sizeLine) (hr : Room k callerA)
  (F : ∀ base : Heap, K.In base → base.Ns mainGlobals mg → FnOk P w K mg base CX k fa fd [x] sp) (hbind : ∀ (s : Shared) (u : Value), BindsTo s fd ⟨[u], []⟩ [(x, u)])
  (hsp : ∀ H : Hp, rq H → RdK K H a (ns.map V.int) → sp [.ref a] H (fun v _ => v = .bl true) fun _ _ _ => False)
  (hCX : ∀ H e s', CX [] H s₁ (fun _ _ _ => False) e s' → False) :
  codeAny (model P w) callerA (.call (.ref fa) ⟨[.ref a], []⟩) (fun r s' => r = .ok (.ret (.bool true)) ∧ OldK s₁.heap s'.heap ∧ s'.os = s₁.os ∧ AllBare s'.gens) s₁ := by
 have rv := gF hi;have lenV := hi.length;have core : ∀ H : Hp, rq H → RdK K H a (ns.map V.int) → HOk P w H s₁.heap → (∀ b, H b ≠ none → b = a) → (H a ≠ none → K.lookup a = none) →
   codeAny (model P w) callerA (.call (.ref fa) ⟨[.ref a], []⟩) (fun r s' => r = .ok (.ret (.bool true)) ∧ OldK s₁.heap s'.heap ∧ s'.os = s₁.os ∧ AllBare s'.gens) s₁ := by
  intro H hO hS hok hA hK;have base_of : ∀ {b : Addr} {o : Obj}, s₁.heap.get? b = some o → H b = none → (jc s₁.heap H).get? b = some o := fun e n => ox e n
  have noA : ∀ {b : Addr} {o : Obj} {es : Array DictEntry} {ep : Nat}, s₁.heap.get? b = some o → o.data = .dict es ep → H b = none := fun {b o es ep} e d => by
   cases q : H b with
   | none => rfl
   | some u =>
    have e' : b = a := hA b (by rw [q]; simp)
    subst e';rw [ha] at e; cases e;have d' : Data.seq vs.toArray _ = Data.dict es ep := d;cases d'
  have nsK : ∀ {b : Addr} {m : Str → Option Value}, s₁.heap.Ns b m → (jc s₁.heap H).Ns b m := fun {b m} ⟨o, es, ep, e, d, r⟩ => ⟨o, es, ep, base_of e (noA e d), d, r⟩
  have hKb : K.In (jc s₁.heap H) := fun b o e => base_of (KX b o e) (by
   cases q : H b with
   | none => rfl
   | some u =>
    have e' : b = a := hA b (by rw [q]; simp)
    subst e';rw [hK (by rw [q]; simp)] at e; cases e)
  have hM : Mod K mg (jc s₁.heap H) := ⟨hKb, nsK hns, ⟨mb, nsK hb, hbb⟩, let ⟨mc, h1, h2⟩ := hlim; ⟨mc, nsK h1, h2⟩⟩;have e0 : Env0 P w K mg (jc s₁.heap H) callerA [] s₁ H := ⟨rfl, hM, fun b o e => pW e, Nat.le_of_eq (me _ _), trivial, fun b hb => absurd (show b ∈ ([] : List Addr) from hb) (by simp), hok, .of_eq hg⟩
  refine codeAny_mono ((F _ hKb (nsK hns)).run callerA [] s₁ H ⟨[.ref a], []⟩ [.ref a] [.ref a] _ _ hr e0 (hbind s₁ (.ref a)) (.cons rfl .nil) (hsp H hO hS)) fun r s' h => ?_
  cases r with
  | error e => exact (hCX H e s' h).elim
  | ok fl =>
   cases fl with
   | next => exact False.elim h
   | brk => exact False.elim h
   | cont => exact False.elim h
   | ret u =>
    obtain ⟨v, H', os, bare, un, hok', r', q⟩ := h;have q' : v = .bl true := q;subst q';obtain rfl : u = Value.bool true := r';refine ⟨rfl, OldK.of_keep fun b o e => ?_, os, bare⟩
    cases q : H b with
    | none => exact un.keep b o e q (by intro z; exact absurd (show b ∈ ([] : List Addr) from z) (by simp)) (by simp)
    | some u =>
     rcases hO b with z | ⟨ob, xs, z⟩
     ·rw [q] at z; cases z
     ·have z2 := un.frzs b ob _ z
      obtain ⟨e1, _⟩ := hok b _ z;obtain ⟨e2, _⟩ := hok' b _ z2;rw [e] at e1; cases e1;exact e2
 cases hk : K.lookup a with
 | some o =>
  have e := KX a o hk;rw [ha] at e;cases e;refine core (fun _ => none) (fun _ => .inl rfl) (.inr ⟨vs.toArray, _, hk, by rw [List.size_toArray, lenV]; exact hl, by simpa using rv⟩) (fun b u z => by have z' : (none : Option HO) = some u := z; cases z') (fun b z => absurd rfl z) fun z => absurd rfl z
 | none =>
  refine core (fun b => if b = a then some (.frz { cls := .type "list", data := .seq vs.toArray } (.lst (ns.map V.int))) else none) (fun b => ?_) (.inl (.inr ⟨{ cls := .type "list", data := .seq vs.toArray }, if_pos rfl⟩)) (fun b u z => ?_) (fun b z => ?_) fun _ => hk
  ·by_cases hb : b = a
   ·exact .inr ⟨_, _, if_pos hb⟩
   ·exact .inl (if_neg hb)
  ·by_cases hb : b = a
   ·have z' := (if_pos hb).symm.trans z
    cases z';subst hb;exact ⟨ha, by rw [List.length_map]; exact hl, vs, _, rv, ha⟩
   ·have z' := (if_neg hb).symm.trans z
    cases z'
  ·by_cases hb : b = a
   ·exact hb
   ·exact absurd (if_neg hb) z
theorem uG {l : PySem.W.OpenLaw} {n k : Nat} {q : Program} {loose : List Str} {XP : (Str → Option Value) → Heap → Prop} {YP : World → Heap → Prop} {d : DefRec} {K : Params → PySem.W.Frag} {CX : World → CXT} {sp : World → Sp} {x : Str}
  (hn : l.most = some n) (hn2 : n ≤ sizeLine) (hdf : d.params.defaults = []) (hr : Room k callerA)
  (hY : ∀ (w : World) (h : Heap), YP w h → (K w.params).In h)
  (F : ∀ (w : World) (mg : Str → Option Value) (fa : Addr) (h : Heap), (K w.params).In h → h.Ns mainGlobals mg → mg d.name = some (.ref fa) →
   ∃ fd : FuncData, (∀ (s : Shared) (u : Value), BindsTo s fd ⟨[u], []⟩ [(x, u)]) ∧
    ∀ base : Heap, (K w.params).In base → base.Ns mainGlobals mg → FnOk l.prog w (K w.params) mg base (CX w) k fa fd [x] (sp w))
  (hsp : ∀ (w : World) (H : Hp) (a : Addr) (ns : List Int), ns.length ≤ n → rq H → RdK (K w.params) H a (ns.map V.int) → sp w [.ref a] H (fun v _ => v = .bl true) fun _ _ _ => False)
  (hCX : ∀ (w : World) (H : Hp) (s : Shared) (e : Value) (s' : Shared), CX w [] H s (fun _ _ _ => False) e s' → False) :
  PySem.W.WalkO q loose XP YP l.row.toRowW d [] (fun f vs => PySem.call f vs) := by
 refine Att.jM hn hdf fun w s₀ s₁ mg mb fa o pm cd doc a vs ns G Y ho hd hcd hmg hobj hints hlen hg => ?_
 have KX := hY w _ Y;obtain ⟨fd, hb, hF⟩ := F w mg fa _ KX G.T.g hmg;exact qS KX G.T.g G.T.b G.T.builtins G.T.nolimit hg hobj hints (Nat.le_trans hlen hn2) hr hF hb (fun H hO hS => hsp w H a ns hlen hO hS) fun H e s' => hCX w H s₁ e s'
theorem AV {l : PySem.W.OpenLaw} {q : Program} {loose : List Str} {XP : (Str → Option Value) → Heap → Prop} {YP : World → Heap → Prop} {d : DefRec} {K : Params → PySem.W.Frag} {x : Str} {k : Nat} {fn : Fn} (hn : l.most = some 63) (hdf : d.params.defaults = []) (hr : Room k callerA)
  (hY : ∀ (w : World) (h : Heap), YP w h → (K w.params).In h) (hl : ∀ ns : List Int, ns.length ≤ 63 → fn [.list (ns.map PyData.int)] = .ok (.sh (.bool true)))
  (F : ∀ (w : World) (mg : Str → Option Value) (fa : Addr) (h : Heap), (K w.params).In h → h.Ns mainGlobals mg → mg d.name = some (.ref fa) →
   ∃ fd : FuncData, (∀ (s : Shared) (u : Value), BindsTo s fd ⟨[u], []⟩ [(x, u)]) ∧ ∀ base : Heap, (K w.params).In base → base.Ns mainGlobals mg → FnOk l.prog w (K w.params) mg base CX0 k fa fd [x] (sp3 (K w.params) mg fn)) :
  PySem.W.WalkO q loose XP YP l.row.toRowW d [] (fun f vs => PySem.call f vs) := by
 refine uG (n := 63) (k := k) (x := x) (CX := fun _ => CX0) (sp := fun w vs H Q E => ∃ F ds x, aN F H ∧ RepAll (K w.params) F vs ds ∧ fn ds = .ok x ∧ OkE ⟨K w.params, fun _ => none, E⟩ F H Q x) hn (by decide) hdf hr hY (fun w mg fa h a b c => ?_) (fun w H a ns hlen _ hS => ?_) fun _ _ _ _ _ z => z
 ·obtain ⟨fd, h1, h2⟩ := F w mg fa h a b c
  refine ⟨fd, h1, fun base kb nb => (h2 base kb nb).imp ?_⟩
  rintro vs H Q E ⟨F0, ds, y, sm, ra, e, p⟩;refine ⟨F0, ds, sm, ra, ?_⟩;rw [e];exact fun v F' H' fx => p v F' H' fx
 ·refine ⟨H, [.list (ns.map PyData.int)], _, aN.refl _, .cons (.lst hS (RepAll.ofInts ns)) .nil, hl ns hlen, ?_⟩
  intro v F' H' fx e r w;cases r.own with
  | sh q =>
   cases q;rfl
end L3
namespace L3
open PySem L2 PySem.Spec PyProof.Rows
theorem fj {P : Program} {w : World} {K : PySem.W.Frag} {mg : Str → Option Value} {base : Heap} {x qual : Str} {st : Stmt} {f : Addr} {fd : FuncData} {N ps : List Str} {k np n : Nat} {body : Fs} {fn : Fn} (hf : fn = cq np n body) (hp : ps.length = np) (hn : N.length = n) (F : Fun K x qual st f fd) (S : FnScope N ps (ar st))
  (h : ∀ (cdv : Value) (A : Around) (outer : List PySem.Env) (s : Shared) (H : Hp) (E : XK), Room k (A.deeper (envOfC qual (ar st) s.heap.objs.size f cdv)) → DSs ⟨K, mg, E⟩ (jZ CX0 P w K mg base N qual (ar st) f cdv A outer s H E).nox (aR st) body) :
  FnOk P w K mg base CX0 (k + 1) f fd ps (sp3 K mg fn) := by
 subst hf hp hn;exact fn3 F S h
theorem bh {X : Cx} {E : XK} : Passes CX0 X E := fun _ _ _ _ _ _ _ h => h.elim
noncomputable def CP : PyData → PyData → R OD
 | .int i, .int j => oI (i + j)
 | _, _ => .bad
section
variable {M : Mx} {X : Cx}
end
end L3
namespace L3
open PySem L2
theorem z_ (i : Int) : gX "int" (.int i) = oB true := rfl
theorem AF (i : Int) : gX "bool" (.int i) = oB false := rfl
theorem yJ (i : Int) : gX "str" (.int i) = oB false := rfl
theorem yC (i : Int) : gX "list" (.int i) = oB false := rfl
theorem yz (i : Int) : gX "tuple" (.int i) = oB false := rfl
theorem Ap (i : Bool) : gX "int" (.bool i) = oB true := rfl
theorem zw (i : Bool) : gX "bool" (.bool i) = oB true := rfl
theorem yY (i : Str) : gX "int" (.str i) = oB false := rfl
theorem zq (i : Str) : gX "bool" (.str i) = oB false := rfl
theorem yP (i : Str) : gX "str" (.str i) = oB true := rfl
theorem zT (i : List PyData) : gX "list" (.list i) = oB true := rfl
theorem ze (i : List PyData) : gX "tuple" (.list i) = oB false := rfl
theorem Af (i : List PyData) : gX "int" (.list i) = oB false := rfl
theorem zZ (i : List PyData) : gX "tuple" (.tuple i) = oB true := rfl
theorem xQ (i : List PyData) : gX "list" (.tuple i) = oB false := rfl
theorem yN (i : List PyData) : gX "int" (.tuple i) = oB false := rfl
theorem EI : (0 ≤ BIG) = True := by decide
theorem Fc : (1 ≤ BIG) = True := by decide
theorem Ez : (2 ≤ BIG) = True := by decide
theorem EZ : (3 ≤ BIG) = True := by decide
theorem E9 : (4 ≤ BIG) = True := by decide
theorem Et : (0 < BIG) = True := by decide
theorem nB {g : Fg} {b : Fs} (I : Nat → Env → Prop) : ∀ (ds : List PyData) (k : Nat) (ρ : Env), I k ρ → (∀ (i : Nat) (d : PyData) (ρ : Env), ds[i]? = some d → I (k + i) ρ → ∃ ρ1 ρ2, g (.sh d) ρ = .ok ρ1 ∧ (b ρ1 = .ok (.nx ρ2) ∨ b ρ1 = .ok (.ct ρ2)) ∧ I (k + i + 1) ρ2) →
  ∃ ρ', bA g b ds ρ = .ok (.nx ρ') ∧ I (k + ds.length) ρ'
 | [], k, ρ, h, _ => ⟨ρ, rfl, h⟩
 | d :: ds, k, ρ, h, st => by
  obtain ⟨ρ1, ρ2, h1, h2, h3⟩ := st 0 d ρ rfl h;obtain ⟨ρ', e, h4⟩ := nB I ds (k + 1) ρ2 h3 fun i d' ρ hd hi => by
   have := st (i + 1) d' ρ (by simpa using hd) (by rw [show k + (i + 1) = k + 1 + i by lia]; exact hi)
   rw [show k + (i + 1) + 1 = k + 1 + i + 1 by lia] at this
   exact this
  refine ⟨ρ', ?_, by rw [List.length_cons, show k + (ds.length + 1) = k + 1 + ds.length by lia]; exact h4⟩
  rw [bA, h1, b_];rcases h2 with h2 | h2
  ·rw [h2, b_]
   exact e
  ·rw [h2, b_]
   exact e
theorem qT {g : Fg} {b : Fs} {ds : List PyData} {ρ : Env} (S : Nat → Env → Prop) (h0 : S 0 ρ) (st : ∀ (i : Nat) (d : PyData) (ρ : Env), ds[i]? = some d → S i ρ → ∃ ρ1 ρ2, g (.sh d) ρ = .ok ρ1 ∧ (b ρ1 = .ok (.nx ρ2) ∨ b ρ1 = .ok (.ct ρ2)) ∧ S (i + 1) ρ2) :
  ∃ ρ', bA g b ds ρ = .ok (.nx ρ') ∧ S ds.length ρ' := by
 obtain ⟨ρ', e, h⟩ := nB S ds 0 ρ h0 fun i d ρ hd hi => by
  rw [Nat.zero_add] at hi ⊢;exact st i d ρ hd hi
 exact ⟨ρ', e, by rw [Nat.zero_add] at h; exact h⟩
theorem gf {lo : Int} {n i : Nat} {d : PyData} (h : (iC lo n)[i]? = some d) : i < n ∧ d = .int (lo + i) := by
 unfold iC at h;rw [List.getElem?_map] at h;obtain ⟨j, hj, rfl⟩ := Option.map_eq_some_iff.mp h;obtain ⟨h1, h2⟩ := List.getElem?_eq_some_iff.mp hj;have h3 : i = j := by simpa using h2
 subst h3;exact ⟨by simpa using h1, rfl⟩
theorem gG (lo : Int) (n : Nat) : (iC lo n).length = n := by unfold iC; simp
theorem qW {t : Ft} {b : Fs} {ρ : Env} {n : Nat} {o : Out} (h : dv t b n ρ = .ok o) : fS t b ρ = .ok o := by
 have mono : ∀ (n : Nat) (ρ : Env), dv t b n ρ ≠ .bad → ∀ m, n ≤ m → dv t b m ρ = dv t b n ρ := by
  intro n
  induction n with
  | zero => intro ρ hn; exact absurd rfl hn
  | succ n ih =>
   intro ρ hn m hm;obtain ⟨m, rfl⟩ : ∃ k, m = k + 1 := ⟨m - 1, by lia⟩
   rw [dv] at hn ⊢;rw [dv];cases ht : t ρ with
   | bad => rfl
   | ex c => rfl
   | ok c =>
    rw [ht, b_] at hn;rw [b_, b_];cases c with
    | false => rfl
    | true =>
     rw [if_pos rfl] at hn ⊢;rw [if_pos rfl];cases hb : b ρ with
     | bad => rfl
     | ex c => rfl
     | ok o =>
      rw [hb, b_] at hn;rw [b_, b_];cases o with
      | nx ρ2 => exact ih ρ2 hn m (by lia)
      | ct ρ2 => exact ih ρ2 hn m (by lia)
      | bk ρ2 => rfl
      | rt x => rfl
 unfold fS;have hx : ∃ n, dv t b n ρ ≠ .bad := ⟨n, by rw [h]; exact fun z => by cases z⟩
 rw [dif_pos hx];have e1 := mono n ρ (by rw [h]; exact fun z => by cases z) (n + hx.choose) (by lia)
 have e2 := mono hx.choose ρ hx.choose_spec (n + hx.choose) (by lia)
 rw [← e2, e1, h]
theorem qQ {t : Ft} {b : Fs} (I : Nat → Env → Prop) (Q : Env → Prop) (st : ∀ m ρ, I m ρ → (t ρ = .ok false ∧ Q ρ) ∨ (t ρ = .ok true ∧ ∃ ρ2 m', (b ρ = .ok (.nx ρ2) ∨ b ρ = .ok (.ct ρ2)) ∧ m' < m ∧ I m' ρ2)) : ∀ (m : Nat) (ρ : Env), I m ρ → ∃ ρ', fS t b ρ = .ok (.nx ρ') ∧ Q ρ' := by
 have go : ∀ (m : Nat) (ρ : Env), I m ρ → ∃ n ρ', dv t b n ρ = .ok (.nx ρ') ∧ Q ρ' := by
  intro m
  induction m using Nat.strongRecOn with
  | ind m ih =>
   intro ρ h;rcases st m ρ h with ⟨h1, h2⟩ | ⟨h1, ρ2, m', h2, h3, h4⟩
   ·exact ⟨1, ρ, by rw [dv, h1]; rfl, h2⟩
   ·obtain ⟨n, ρ', e, q⟩ := ih m' h3 ρ2 h4
    refine ⟨n + 1, ρ', ?_, q⟩;rw [dv, h1, b_, if_pos rfl];rcases h2 with h2 | h2
    ·rw [h2, b_]
     exact e
    ·rw [h2, b_]
     exact e
 intro m ρ h;obtain ⟨n, ρ', e, q⟩ := go m ρ h;exact ⟨ρ', qW e, q⟩
end L3
namespace L3
open PySem L2
noncomputable def xU : Option (Option OD) → R OD
 | some (some (.sh d)) => .ok (.sh d)
 | _ => .bad
noncomputable def opK (g : PyData → PyData → R OD) : R OD → R OD → R OD
 | .ok x, .ok y => g x.er y.er
 | .ok _, .ex c => .ex c
 | .ok _, .bad => .bad
 | .ex c, _ => .ex c
 | .bad, _ => .bad
noncomputable def unK {α β : Type} (g : α → R β) : R α → R β
 | .ok x => g x
 | .ex c => .ex c
 | .bad => .bad
noncomputable def yj (r : R Bool) (b : Ft) (ρ : Env) : R Bool := match r with
 | .ok true => b ρ
 | .ok false => .ok false
 | .ex c => .ex c
 | .bad => .bad
noncomputable def orK (r : R Bool) (b : Ft) (ρ : Env) : R Bool := match r with
 | .ok true => .ok true
 | .ok false => b ρ
 | .ex c => .ex c
 | .bad => .bad
noncomputable def vX (r : R Bool) (b : Fe) (ρ : Env) : R OD := match r with
 | .ok true => b ρ
 | .ok false => .ok (.sh (.bool false))
 | .ex c => .ex c
 | .bad => .bad
noncomputable def orV (r : R Bool) (b : Fe) (ρ : Env) : R OD := match r with
 | .ok true => .ok (.sh (.bool true))
 | .ok false => b ρ
 | .ex c => .ex c
 | .bad => .bad
noncomputable def ifV (r : R Bool) (a b : Fe) (ρ : Env) : R OD := match r with
 | .ok true => a ρ
 | .ok false => b ρ
 | .ex c => .ex c
 | .bad => .bad
noncomputable def ifK (r : R Bool) (a b : Fs) (ρ : Env) : R Out := match r with
 | .ok true => a ρ
 | .ok false => b ρ
 | .ex c => .ex c
 | .bad => .bad
noncomputable def sE : R OD → R (List OD) → R (List OD)
 | .ok x, .ok xs => .ok (x :: xs)
 | .ok _, .ex c => .ex c
 | .ok _, .bad => .bad
 | .ex c, _ => .ex c
 | .bad, _ => .bad
noncomputable def qO (r : R Out) (b : Fs) : R Out := match r with
 | .ok (.nx ρ) => b ρ
 | .ok o => .ok o
 | .ex c => .ex c
 | .bad => .bad
noncomputable def BX (r : R OD) (g : Fg) (ρ : Env) : R Out := match r with
 | .ok x => unK (fun ρ' => .ok (.nx ρ')) (g x ρ)
 | .ex c => .ex c
 | .bad => .bad
noncomputable def Cn (r : R (List PyData)) (g : Fg) (b : Fs) (ρ : Env) : R Out := match r with
 | .ok ds => bA g b ds ρ
 | .ex c => .ex c
 | .bad => .bad
noncomputable def xr (r : R (List PyData)) (g : Fg) (t : Ft) (el : Fe) (ρ0 : Env) : R OD := match r with
 | .ok ds => unK (fun xs => .ok (.ol xs)) (fA g t el ρ0 ds [])
 | .ex c => .ex c
 | .bad => .bad
noncomputable def slK (g : PyData → Option Int → Option Int → R OD) (a : R OD) (l h : R (Option Int)) : R OD := match a, l, h with
 | .ok x, .ok i, .ok j => g x.er i j
 | .ok _, .ok _, .ex c => .ex c
 | .ok _, .ok _, .bad => .bad
 | .ok _, .ex c, _ => .ex c
 | .ok _, .bad, _ => .bad
 | .ex c, _, _ => .ex c
 | .bad, _, _ => .bad
noncomputable def CY (a : R OD) (b : Fe) (ρ : Env) : R OD := match a with
 | .ok x => match x.er with
  | .list ds => unK (fun y => rP ds y.er) (b ρ)
  | _ => .bad
 | .ex c => .ex c
 | .bad => .bad
noncomputable def xT (o : Option (Option OD)) (a : R OD) (i : Nat) (ρ : Env) : R Out := match o with
 | some (some (.ol xs)) => unK (fun y => if xs.length < BIG then .ok (.nx (ρ.set i (some (.ol (xs ++ [y]))))) else .bad) a
 | _ => .bad
noncomputable def s_ : Option (Option OD) → R Out
 | some (some x) => .ok (.rt x)
 | _ => .bad
noncomputable def yp (o : Option (Option OD)) (i : Nat) (ρ : Env) : Env := match o with
 | some (some x) => ρ.set i (some (.sh x.er))
 | _ => ρ
noncomputable def w8 : R Out → R OD
 | .ok (.rt x) => .ok x
 | .ok (.nx _) => .ok (.sh .none)
 | .ok (.bk _) => .bad
 | .ok (.ct _) => .bad
 | .ex c => .ex c
 | .bad => .bad
noncomputable def zx (o : Option (Option OD)) (g : PyData → PyData → R OD) (a : R OD) (i : Nat) (ρ : Env) : R Out := match o with
 | some (some (.sh d)) => unK (fun y => unK (fun z => .ok (.nx (ρ.set i (some z)))) (g d y.er)) a
 | _ => .bad
section
variable {ρ : Env} {a b : Fe} {s t : Ft} {p q : Fs}
theorem v_var (i : Nat) : ag i ρ = xU ρ[i]? := by
 unfold ag xU;rfl
theorem v_c (d : PyData) : eC d ρ = .ok (.sh d) := rfl
theorem E7 (g : PyData → PyData → R OD) : eOp g a b ρ = opK g (a ρ) (b ρ) := by
 unfold eOp;cases a ρ <;> cases b ρ <;> rfl
theorem cR {α β : Type} (r : R α) (g : α → R β) : r.bind g = unK g r := by cases r <;> rfl
theorem EB (g : PyData → R OD) : eUn g a ρ = unK (fun x => g x.er) (a ρ) := cR _ _
theorem xW : aJ a ρ = unK (fun x => truth x.er) (a ρ) := cR _ _
theorem yT : md s t ρ = yj (s ρ) t ρ := by
 unfold md;cases s ρ with
 | ok c => cases c <;> rfl
 | ex c => rfl
 | bad => rfl
theorem AM : iF s t ρ = orK (s ρ) t ρ := by
 unfold iF;cases s ρ with
 | ok c => cases c <;> rfl
 | ex c => rfl
 | bad => rfl
theorem zY : fw s ρ = unK (fun c => .ok (!c)) (s ρ) := cR _ _
noncomputable def tru (r : R OD) : R Bool := unK (fun x => truth x.er) r
theorem v_and : nX a b ρ = vX (tru (a ρ)) b ρ := by
 unfold nX tru;cases a ρ with
 | ok x =>
  show (truth x.er).bind _ = vX (truth x.er) b ρ
  cases truth x.er with
  | ok c => cases c <;> rfl
  | ex c => rfl
  | bad => rfl
 | ex c => rfl
 | bad => rfl
theorem v_or : eOr a b ρ = orV (tru (a ρ)) b ρ := by
 unfold eOr tru;cases a ρ with
 | ok x =>
  show (truth x.er).bind _ = orV (truth x.er) b ρ
  cases truth x.er with
  | ok c => cases c <;> rfl
  | ex c => rfl
  | bad => rfl
 | ex c => rfl
 | bad => rfl
theorem v_not : rN a ρ = unK (fun c => .ok (.sh (.bool (!c)))) (tru (a ρ)) := by
 unfold rN tru;cases a ρ with
 | ok x =>
  show (truth x.er).bind _ = unK _ (truth x.er)
  exact cR _ _
 | ex c => rfl
 | bad => rfl
theorem EG : eIf s a b ρ = ifV (s ρ) a b ρ := by
 unfold eIf;cases s ρ with
 | ok c => cases c <;> rfl
 | ex c => rfl
 | bad => rfl
theorem Ar : ax ρ = .ok [] := rfl
theorem wM {r : Fa} : aj a r ρ = sE (a ρ) (r ρ) := by
 unfold aj;cases a ρ <;> cases r ρ <;> rfl
theorem BK {r : Fa} : lh r ρ = unK (fun xs => if xs.length ≤ BIG then .ok (mkT xs) else .bad) (r ρ) := cR _ _
theorem A0 {r : Fa} : dB r ρ = unK (fun xs => if xs.length ≤ BIG then .ok (.ol xs) else .bad) (r ρ) := cR _ _
theorem zu {f : Fn} {r : Fa} : aV f r ρ = unK (fun xs => f (xs.map OD.er)) (r ρ) := cR _ _
theorem v_b {f : List PyData → R OD} {r : Fa} : eB f r ρ = unK (fun xs => f (xs.map OD.er)) (r ρ) := cR _ _
theorem EK : eSh a ρ = unK (fun x => .ok (.sh x.er)) (a ρ) := cR _ _
theorem v_bor : qL a ρ = unK (fun x => if flat x.er = true then .ok (.sh x.er) else .bad) (a (erase ρ)) := cR _ _
theorem zl : sy s ρ = s (erase ρ) := rfl
noncomputable def Dl : OD → R OD
 | .ol xs => if xs.all (fun y => flat y.er) = true then .ok (.ol (xs.map fun y => .sh y.er)) else .bad
 | _ => .bad
theorem Ao : xI a ρ = unK Dl (a (erase ρ)) := by
 unfold xI;cases a (erase ρ) with
 | ok x => cases x <;> rfl
 | ex c => rfl
 | bad => rfl
theorem BB : erase [] = [] := rfl
theorem Dx (x : OD) : erase (some x :: ρ) = some (.sh x.er) :: erase ρ := rfl
theorem Eg : erase (none :: ρ) = none :: erase ρ := rfl
theorem wK : dz ρ = .ok none := rfl
noncomputable def uP : PyData → R (Option Int)
 | .int i => .ok (some i)
 | _ => .bad
theorem vW : dj a ρ = unK (fun x => uP x.er) (a ρ) := by
 unfold dj;rw [cR];cases a ρ with
 | ok x =>
  show (match x.er with | .int i => R.ok (some i) | _ => .bad) = uP x.er
  cases x.er <;> rfl
 | ex c => rfl
 | bad => rfl
theorem EO {g : PyData → Option Int → Option Int → R OD} {l h : Fo} : eSl g a l h ρ = slK g (a ρ) (l ρ) (h ρ) := by
 unfold eSl;cases a ρ <;> cases l ρ <;> cases h ρ <;> rfl
noncomputable def lstK : PyData → R (List PyData)
 | .list ds => .ok ds
 | _ => .bad
noncomputable def tupK : PyData → R (List PyData)
 | .tuple ds => .ok ds
 | _ => .bad
noncomputable def r1K : PyData → R (List PyData)
 | .int j => if aZ j = true then .ok (iC 0 j.toNat) else .bad
 | _ => .bad
noncomputable def enK : PyData → R (List PyData)
 | .list ds => .ok (gk ds)
 | _ => .bad
theorem Ad : sD a ρ = unK (fun x => lstK x.er) (a ρ) := by
 unfold sD;rw [cR];cases a ρ with
 | ok x =>
  show (match x.er with | .list ds => R.ok ds | _ => .bad) = lstK x.er
  cases x.er <;> rfl
 | ex c => rfl
 | bad => rfl
theorem Aa : iTp a ρ = unK (fun x => tupK x.er) (a ρ) := by
 unfold iTp;rw [cR];cases a ρ with
 | ok x =>
  show (match x.er with | .tuple ds => R.ok ds | _ => .bad) = tupK x.er
  cases x.er <;> rfl
 | ex c => rfl
 | bad => rfl
theorem Fj : iR1 a ρ = unK (fun x => r1K x.er) (a ρ) := by
 unfold iR1;rw [cR];cases a ρ with
 | ok x =>
  show (match x.er with | .int j => if aZ j = true then R.ok (iC 0 j.toNat) else .bad | _ => .bad) = r1K x.er
  cases x.er <;> rfl
 | ex c => rfl
 | bad => rfl
theorem Es : iEn a ρ = unK (fun x => enK x.er) (a ρ) := by
 unfold iEn;rw [cR];cases a ρ with
 | ok x =>
  show (match x.er with | .list ds => R.ok (gk ds) | _ => .bad) = enK x.er
  cases x.er <;> rfl
 | ex c => rfl
 | bad => rfl
noncomputable def xY (g : PyData → PyData → R (List PyData)) : R OD → R OD → R (List PyData)
 | .ok x, .ok y => g x.er y.er
 | .ok _, .ex c => .ex c
 | .ok _, .bad => .bad
 | .ex c, _ => .ex c
 | .bad, _ => .bad
theorem Fm : iR2 a b ρ = xY r2F (a ρ) (b ρ) := by
 unfold iR2;cases a ρ <;> cases b ρ <;> rfl
theorem Fd : iZp a b ρ = xY vR (a ρ) (b ρ) := by
 unfold iZp;cases a ρ <;> cases b ρ <;> rfl
theorem AX (i : Nat) (x : OD) : gNm i x ρ = .ok (ρ.set i (some x)) := rfl
theorem Bu : iX [] ρ = .ok ρ := rfl
theorem DN {g : Fg} {r : Fgs} {x : OD} {xs : List OD} : d_ g r (x :: xs) ρ = unK (fun ρ' => r xs ρ') (g x ρ) := cR _ _
theorem Bj {n : Nat} {r : Fgs} {ds : List PyData} : gTp n r (.sh (.tuple ds)) ρ = if ds.length = n then r (ds.map OD.sh) ρ else .bad := rfl
theorem AU {n : Nat} {r : Fgs} {xs : List OD} : gTp n r (.ot xs) ρ = if xs.length = n then r xs ρ else .bad := rfl
theorem ye {it : Fi} {g : Fg} {k : Nat} {outs : List Nat} : jg it g t a k outs ρ = xr (it ρ) g t a (sl3 k outs ρ) := by
 unfold jg;cases it ρ with
 | ok ds => exact cR _ _
 | ex c => rfl
 | bad => rfl
theorem DZ {k : Nat} {outs : List Nat} : sl3 k outs ρ = List.replicate k none ++ outs.map fun i => jB ρ[i]? := rfl
theorem Fu : sNx ρ = .ok (.nx ρ) := rfl
theorem EX : sBk ρ = .ok (.bk ρ) := rfl
theorem ET : sCt ρ = .ok (.ct ρ) := rfl
theorem CO : aI p q ρ = qO (p ρ) q := by
 unfold aI;cases p ρ with
 | ok o => cases o <;> rfl
 | ex c => rfl
 | bad => rfl
theorem Cm {g : Fg} : u7 a g ρ = BX (a ρ) g ρ := by
 unfold u7;cases a ρ with
 | ok x => exact cR _ _
 | ex c => rfl
 | bad => rfl
theorem AO (i : Nat) : bx i a ρ = unK (fun x => .ok (.nx (ρ.set i (some x)))) (a ρ) := cR _ _
theorem yE : iY a ρ = unK (fun _ => .ok (.nx ρ)) (a ρ) := cR _ _
theorem DK : c_ a ρ = unK (fun x => .ok (.rt x)) (a ρ) := cR _ _
theorem ym : C9 ρ = .ok (.rt (.sh .none)) := rfl
theorem Ag (i : Nat) : gj i ρ = s_ ρ[i]? := by
 unfold gj s_;rfl
theorem Cj : sIf s p q ρ = ifK (s ρ) p q ρ := by
 unfold sIf;cases s ρ with
 | ok c => cases c <;> rfl
 | ex c => rfl
 | bad => rfl
theorem Bz (i : Nat) : Fl i p ρ = p (wC i ρ) := rfl
theorem zW (i : Nat) : wC i ρ = yp ρ[i]? i ρ := by
 unfold wC yp;rfl
theorem Bp (i : Nat) {g : PyData → PyData → R OD} : D_ i g a ρ = zx ρ[i]? g (a ρ) i ρ := by
 unfold D_ zx;generalize ρ[i]? = o
 cases o with
 | none => rfl
 | some o =>
  cases o with
  | none => rfl
  | some x =>
   cases x with
   | sh d =>
    show ((a ρ).bind fun y => (g d y.er).bind fun z => R.ok (Out.nx (ρ.set i (some z)))) = _
    rw [cR];show unK _ (a ρ) = unK _ (a ρ)
    first
     | done
     | (congr 1; funext y; exact cR _ _)
     | (congr 1)
   | ol xs => rfl
   | ot xs => rfl
   | od xs => rfl
theorem Br (i : Nat) : jv i a ρ = xT ρ[i]? (a ρ) i ρ := by
 unfold jv xT;generalize ρ[i]? = o
 cases o with
 | none => rfl
 | some o =>
  cases o with
  | none => rfl
  | some x =>
   cases x with
   | sh d => rfl
   | ol xs => exact cR _ _
   | ot xs => rfl
   | od xs => rfl
theorem BD {it : Fi} {g : Fg} : g_ it g p ρ = Cn (it ρ) g p ρ := by
 unfold g_;cases it ρ <;> rfl
theorem Bn (T : String) : oz T a ρ = unK (fun x => gX T x.er) (a ρ) := cR _ _
theorem BI : BH a b ρ = CY (a ρ) b ρ := by
 unfold BH;cases a ρ with
 | ok x =>
  show (match x.er with | .list ds => (b ρ).bind fun y => rP ds y.er | _ => .bad) = (match x.er with | .list ds => unK (fun y => rP ds y.er) (b ρ) | _ => .bad)
  cases x.er with
  | list ds => exact cR _ _
  | _ => rfl
 | ex c => rfl
 | bad => rfl
theorem CT {np n : Nat} {ds : List PyData} : cq np n p ds = if ds.length = np then w8 (p (iE n ds)) else .bad := by
 unfold cq;congr 1
 cases p (iE n ds) with
 | ok o => cases o <;> rfl
 | ex c => rfl
 | bad => rfl
theorem B0 (d : PyData) : xU (some (some (.sh d))) = .ok (.sh d) := rfl
theorem EV {g : PyData → PyData → R OD} {x y : OD} : opK g (.ok x) (.ok y) = g x.er y.er := rfl
theorem CA {g : PyData → PyData → R (List PyData)} {x y : OD} : xY g (.ok x) (.ok y) = g x.er y.er := rfl
theorem EF {α β : Type} {g : α → R β} {x : α} : unK g (.ok x) = g x := rfl
theorem Bc {α β : Type} {g : α → R β} {c : Str} : unK g (.ex c) = .ex c := rfl
theorem Ah : yj (.ok true) t ρ = t ρ := rfl
theorem AB : yj (.ok false) t ρ = .ok false := rfl
theorem CQ : orK (.ok true) t ρ = .ok true := rfl
theorem AL : orK (.ok false) t ρ = t ρ := rfl
theorem wA : vX (.ok true) a ρ = a ρ := rfl
theorem wI : vX (.ok false) a ρ = .ok (.sh (.bool false)) := rfl
theorem Ai : orV (.ok true) a ρ = .ok (.sh (.bool true)) := rfl
theorem yB : orV (.ok false) a ρ = a ρ := rfl
theorem AH : ifV (.ok true) a b ρ = a ρ := rfl
theorem yt : ifV (.ok false) a b ρ = b ρ := rfl
theorem Bl : ifK (.ok true) p q ρ = p ρ := rfl
theorem Dc : ifK (.ok false) p q ρ = q ρ := rfl
theorem zV {x : OD} {xs : List OD} : sE (.ok x) (.ok xs) = .ok (x :: xs) := rfl
theorem Cg : qO (.ok (.nx ρ)) p = p ρ := rfl
theorem zm {x : OD} : qO (.ok (.rt x)) p = .ok (.rt x) := rfl
theorem Ak : qO (.ok (.ct ρ)) p = .ok (.ct ρ) := rfl
theorem Am : qO (.ok (.bk ρ)) p = .ok (.bk ρ) := rfl
theorem C0 {x : OD} {g : Fg} : BX (.ok x) g ρ = unK (fun ρ' => .ok (.nx ρ')) (g x ρ) := rfl
theorem By {ds : List PyData} {g : Fg} : Cn (.ok ds) g p ρ = bA g p ds ρ := rfl
theorem zQ {ds : List PyData} {g : Fg} : xr (.ok ds) g t a ρ = unK (fun xs => .ok (.ol xs)) (fA g t a ρ ds []) := rfl
theorem EJ {g : PyData → Option Int → Option Int → R OD} {x : OD} {i j : Option Int} : slK g (.ok x) (.ok i) (.ok j) = g x.er i j := rfl
theorem BW {xs : List OD} {y : OD} {i : Nat} : xT (some (some (.ol xs))) (.ok y) i ρ = if xs.length < BIG then .ok (.nx (ρ.set i (some (.ol (xs ++ [y]))))) else .bad := rfl
theorem zI {x : OD} : s_ (some (some x)) = .ok (.rt x) := rfl
theorem AQ {x : OD} {i : Nat} : yp (some (some x)) i ρ = ρ.set i (some (.sh x.er)) := rfl
theorem yn {x : OD} : w8 (.ok (.rt x)) = .ok x := rfl
theorem Ab : w8 (.ok (.nx ρ)) = .ok (.sh .none) := rfl
theorem CM (x : OD) : tru (.ok x) = truth x.er := rfl
theorem va (c : Bool) : truth (.bool c) = .ok c := rfl
theorem DC {ds : List PyData} : CY (.ok (.sh (.list ds))) b ρ = unK (fun y => rP ds y.er) (b ρ) := rfl
theorem CV {d : PyData} {g : PyData → PyData → R OD} {y : OD} {i : Nat} : zx (some (some (.sh d))) g (.ok y) i ρ = unK (fun z => .ok (.nx (ρ.set i (some z)))) (g d y.er) := rfl
theorem Ck (ds : List PyData) : lstK (.list ds) = .ok ds := rfl
theorem BZ (ds : List PyData) : tupK (.tuple ds) = .ok ds := rfl
theorem EY (ds : List PyData) : enK (.list ds) = .ok (gk ds) := rfl
theorem EW (j : Int) : r1K (.int j) = if aZ j = true then .ok (iC 0 j.toNat) else .bad := rfl
theorem EC (i j : Int) : r2F (.int i) (.int j) = if (aZ i && aZ j) = true then .ok (iC i (j - i).toNat) else .bad := rfl
theorem Ci (ds es : List PyData) : vR (.list ds) (.list es) = .ok (qD ds es) := rfl
theorem yA (i : Int) : uP (.int i) = .ok (some i) := rfl
theorem za (n : Nat) (ds : List PyData) : iE n ds = (ds.map fun d => some (OD.sh d)) ++ List.replicate (n - ds.length) none := rfl
theorem Cy (d : PyData) : jB (some (some (.sh d))) = some (.sh d) := rfl
theorem Bv : jB (some none) = none := rfl
theorem Ac (xs : List OD) : jB (some (some (.ol xs))) = none := rfl
theorem Cs (d : PyData) : mkT [.sh d] = .sh (.tuple [d]) := rfl
theorem Dn (d e : PyData) : mkT [.sh d, .sh e] = .sh (.tuple [d, e]) := rfl
theorem CD (d e f : PyData) : mkT [.sh d, .sh e, .sh f] = .sh (.tuple [d, e, f]) := rfl
theorem Bb (d e f g : PyData) : mkT [.sh d, .sh e, .sh f, .sh g] = .sh (.tuple [d, e, f, g]) := rfl
theorem CK (i j : Int) : a_ (.int i) (.int j) = .ok (.sh (.int (i + j))) := rfl
theorem Dg (i j : Int) : fT (.int i) (.int j) = .ok (.sh (.int (i - j))) := rfl
theorem BM (i j : Int) : ie (.int i) (.int j) = if hZ i j = true then .ok (.sh (.int (i * j))) else .bad := rfl
theorem Dr (i j : Int) : fi (.int i) (.int j) = if 0 < j then .ok (.sh (.int (i % j))) else .bad := rfl
theorem DP (i j : Int) : gI (.int i) (.int j) = if 0 < j ∧ j < 1073741824 then .ok (.sh (.int (i / j))) else .bad := rfl
theorem Ee (i j : Int) : Ek (.int i) (.int j) = if 0 ≤ j ∧ j ≤ 1000000 ∧ i.natAbs < 2 ^ 64 then .ok (.sh (.int (i ^ j.toNat))) else .bad := rfl
theorem Bg (i : Int) : hG (.int i) = .ok (.sh (.int (-i))) := rfl
theorem Fp (i j : Int) : gLt (.int i) (.int j) = .ok (.sh (.bool (decide (i < j)))) := rfl
theorem Fb (i j : Int) : gLe (.int i) (.int j) = .ok (.sh (.bool (decide (i ≤ j)))) := rfl
theorem Ey (i j : Int) : gGt (.int i) (.int j) = .ok (.sh (.bool (decide (j < i)))) := rfl
theorem Ex (i j : Int) : gGe (.int i) (.int j) = .ok (.sh (.bool (decide (j ≤ i)))) := rfl
theorem E5 (i j : Int) : gEq (.int i) (.int j) = .ok (.sh (.bool (decide (i = j)))) := rfl
theorem Fv (i j : Int) : gNe (.int i) (.int j) = .ok (.sh (.bool (!decide (i = j)))) := rfl
theorem zC (i j : Int) : CP (.int i) (.int j) = .ok (.sh (.int (i + j))) := rfl
theorem Cf (xs : List PyData) (i : Int) : gIx (.list xs) (.int i) = fZ (atI xs i) := rfl
theorem DH (xs : List PyData) (i : Int) : gIx (.tuple xs) (.int i) = fZ (atI xs i) := rfl
theorem yx (xs : List PyData) : dA [.list xs] = .ok (.sh (.int xs.length)) := rfl
theorem xV (xs : List PyData) : dA [.tuple xs] = .ok (.sh (.int xs.length)) := rfl
theorem yM (x : Str) : dA [.str x] = if x.length ≤ BIG then .ok (.sh (.int x.length)) else .bad := rfl
theorem yy (i j : Int) : qq [.int i, .int j] = .ok (.sh (.int (if j < i then j else i))) := rfl
theorem Az (i j : Int) : C4 [.int i, .int j] = .ok (.sh (.int (if i < j then j else i))) := rfl
theorem yq (n : Int) (ns : List Int) : l7 [.list (PyData.int n :: ns.map PyData.int)] = .ok (.sh (.int (mm n ns))) := by
 show (match fI ((n :: ns).map PyData.int) with | some (n :: ns) => oI (mm n ns) | _ => .bad) = _
 rw [jL];rfl
theorem zk (ds : List PyData) : gM [.list ds] = .ok (.ol (ds.map OD.sh)) := rfl
theorem Dw (i : Int) : qP [.int i] = .ok (.sh (.int i)) := rfl
theorem An (c : Bool) : qP [.bool c] = .ok (.sh (.int (if c then 1 else 0))) := rfl
theorem AZ (xs : List PyData) (i j : Option Int) : gC (.list xs) i j = .ok (.ol ((cutD xs i j).map OD.sh)) := rfl
theorem Ay (d : PyData) : fZ (some d) = .ok (.sh d) := rfl
theorem at0 {α : Type} (x : α) (xs : List α) : atI (x :: xs) 0 = some x := by
 have : atI (x :: xs) ((0 : Nat) : Int) = some x := e_ rfl;exact this
theorem at1 {α : Type} (x y : α) (xs : List α) : atI (x :: y :: xs) 1 = some y := by
 have : atI (x :: y :: xs) ((1 : Nat) : Int) = some y := e_ rfl;exact this
theorem at2 {α : Type} (x y z : α) (xs : List α) : atI (x :: y :: z :: xs) 2 = some z := by
 have : atI (x :: y :: z :: xs) ((2 : Nat) : Int) = some z := e_ rfl;exact this
theorem Cp (c : Bool) : oB c = .ok (.sh (.bool c)) := rfl
end
end L3
namespace L3
open PySem L2
theorem v_ {i j : Int} (h1 : -18446744073709551616 < i) (h2 : i < 18446744073709551616) : hZ i j = true := by
 unfold hZ;rw [Bool.or_eq_true, Bool.and_eq_true, decide_eq_true_eq, decide_eq_true_eq];exact .inl ⟨by lia, by lia⟩
theorem Fh {i j : Int} (h1 : -18446744073709551616 < j) (h2 : j < 18446744073709551616) : hZ i j = true := by
 unfold hZ;rw [Bool.or_eq_true, Bool.and_eq_true, Bool.and_eq_true, decide_eq_true_eq, decide_eq_true_eq, decide_eq_true_eq, decide_eq_true_eq];exact .inr ⟨by lia, by lia⟩
theorem jQ {i : Int} (h1 : -4611686018427387904 ≤ i) (h2 : i < 4611686018427387904) : aZ i = true := gi.mpr ⟨by lia, by lia⟩
theorem hR {n : Nat} (h : n < 1000) : (n < BIG) = True := eq_true (Nat.lt_of_lt_of_le h (by decide))
theorem aE {n : Nat} (h : n ≤ 1000) : (n ≤ BIG) = True := eq_true (Nat.le_trans h (by decide))
theorem df (i : Int) {j : Int} (h : 0 < j) : 0 ≤ i % j ∧ i % j < j := ⟨Int.emod_nonneg _ (by lia), Int.emod_lt_of_pos _ h⟩
theorem pk {α : Type} (xs : List α) (i : Int) (h0 : 0 ≤ i) (h1 : i < xs.length) : ∃ x, xs[i.toNat]? = some x ∧ atI xs i = some x := by
 obtain ⟨j, rfl⟩ : ∃ j : Nat, i = j := ⟨i.toNat, by lia⟩
 have hj : j < xs.length := by lia
 exact ⟨xs[j], by simp [hj], e_ (by simp [hj])⟩
end L3
namespace L3
open PySem L2
theorem tM {g : Fg} {b : Fs} {ds : List PyData} {ρ : Env} {r : R Out} (hL : bA g b ds ρ = r) (S : Nat → Env → Prop) (h0 : S 0 ρ) (st : ∀ (i : Nat) (d : PyData) (ρ : Env), ds[i]? = some d → S i ρ → ∃ ρ1 ρ2, g (.sh d) ρ = .ok ρ1 ∧ (b ρ1 = .ok (.nx ρ2) ∨ b ρ1 = .ok (.ct ρ2)) ∧ S (i + 1) ρ2) :
  ∃ ρ', r = .ok (.nx ρ') ∧ S ds.length ρ' := by
 obtain ⟨ρ', e, h⟩ := qT S h0 st;exact ⟨ρ', by rw [← hL, e], h⟩
end L3
namespace L3
open PySem L2
noncomputable def jn (S : Env → Prop) : R Out → Prop
 | .ok (.nx ρ) => S ρ
 | .ok (.ct ρ) => S ρ
 | _ => False
theorem B_ {S : Env → Prop} {ρ : Env} : jn S (.ok (.nx ρ)) = S ρ := rfl
theorem C3 {S : Env → Prop} {ρ : Env} : jn S (.ok (.ct ρ)) = S ρ := rfl
theorem pG {S : Env → Prop} {b : Fs} {r : R Env} (h : jn S (unK b r)) : ∃ ρ1 ρ2, r = .ok ρ1 ∧ (b ρ1 = .ok (.nx ρ2) ∨ b ρ1 = .ok (.ct ρ2)) ∧ S ρ2 := by
 cases r with
 | ok ρ1 =>
  have h' : jn S (b ρ1) := h;cases hb : b ρ1 with
  | ok o =>
   rw [hb] at h';cases o with
   | nx ρ2 => exact ⟨ρ1, ρ2, rfl, .inl hb, h'⟩
   | ct ρ2 => exact ⟨ρ1, ρ2, rfl, .inr hb, h'⟩
   | bk _ => exact h'.elim
   | rt _ => exact h'.elim
  | ex _ => rw [hb] at h'; exact h'.elim
  | bad => rw [hb] at h'; exact h'.elim
 | ex c => exact h.elim
 | bad => exact h.elim
theorem gx {P : Prop} {g : Fg} {b : Fs} {ds : List PyData} {ρ : Env} {r : R Out} (hL : bA g b ds ρ = r) (S : Nat → Env → Prop) (h0 : S 0 ρ) (st : ∀ (i : Nat) (d : PyData) (ρ : Env), ds[i]? = some d → S i ρ → jn (S (i + 1)) (unK b (g (.sh d) ρ)))
  (fin : ∀ ρ', r = .ok (.nx ρ') → S ds.length ρ' → P) : P := by
 obtain ⟨ρ', e, h⟩ := tM hL S h0 fun i d ρ hd hS => by
  obtain ⟨ρ1, ρ2, a, b, c⟩ := pG (st i d ρ hd hS);exact ⟨ρ1, ρ2, a, b, c⟩
 exact fin ρ' e h
theorem pR {P : Prop} {t : Ft} {b : Fs} {ρ : Env} {r : R Out} (hL : fS t b ρ = r) (I : Nat → Env → Prop) (m : Nat) (h0 : I m ρ) (Q : Env → Prop) (st : ∀ m ρ, I m ρ → (t ρ = .ok false ∧ Q ρ) ∨ (t ρ = .ok true ∧ jn (fun ρ2 => ∃ m', m' < m ∧ I m' ρ2) (b ρ)))
  (fin : ∀ ρ', r = .ok (.nx ρ') → Q ρ' → P) : P := by
 obtain ⟨ρ', e, h⟩ := qQ I Q (fun m ρ hI => by
  rcases st m ρ hI with h | ⟨h1, h2⟩
  ·exact .inl h
  ·obtain ⟨ρ1, ρ2, a, b, m', c, d⟩ := pG (r := .ok ρ) h2
   cases a;exact .inr ⟨h1, ρ2, m', b, c, d⟩) m ρ h0
 exact fin ρ' (by rw [← hL, e]) h
end L3
namespace L3
open PySem L2
noncomputable def CU (o : Option (Option OD)) (a k : R OD) (i : Nat) (ρ : Env) : R Out := match o with
 | some (some (.ol xs)) => unK (fun y => unK (fun z => match z.er with
  | .int q => match ixN xs.length q with
   | some j => .ok (.nx (ρ.set i (some (.ol (xs.set j y)))))
   | none => .bad
  | _ => .bad) k) a
 | _ => .bad
theorem mX {β : Type} (o : Option (Option OD)) : o = none ∨ o = some none ∨ (∃ d, o = some (some (.sh d))) ∨ (∃ xs, o = some (some (.ol xs))) ∨ (∃ xs, o = some (some (.ot xs))) ∨ ∃ xs, o = some (some (.od xs)) := by
 cases o with
 | none => exact .inl rfl
 | some o =>
  cases o with
  | none => exact .inr (.inl rfl)
  | some x =>
   cases x with
   | sh d => exact .inr (.inr (.inl ⟨d, rfl⟩))
   | ol xs => exact .inr (.inr (.inr (.inl ⟨xs, rfl⟩)))
   | ot xs => exact .inr (.inr (.inr (.inr (.inl ⟨xs, rfl⟩))))
   | od xs => exact .inr (.inr (.inr (.inr (.inr ⟨xs, rfl⟩))))
section
variable {ρ : Env} {a b k : Fe} {s t : Ft} {p q : Fs}
theorem v_sub (i : Nat) : DX i k a ρ = CU ρ[i]? (a ρ) (k ρ) i ρ := by
 unfold DX CU;generalize ρ[i]? = o
 rcases mX (β := Nat) o with rfl | rfl | ⟨d, rfl⟩ | ⟨xs, rfl⟩ | ⟨xs, rfl⟩ | ⟨xs, rfl⟩
 ·rfl
 ·rfl
 ·rfl
 ·cases a ρ <;> cases k ρ <;> rfl
 ·rfl
 ·rfl
noncomputable def xR (o : Option (Option OD)) (i : Nat) (ρ : Env) : R Out := match o with
 | some (some (.ol xs)) => .ok (.nx (ρ.set i (some (.ol xs.reverse))))
 | _ => .bad
noncomputable def zd (o : Option (Option OD)) (i : Nat) (ρ : Env) : R Out := match o with
 | some (some (.ol xs)) => .ok (.nx (ρ.set i (some (.ol []))))
 | _ => .bad
theorem Ct (i : Nat) : BV i ρ = xR ρ[i]? i ρ := by unfold BV xR; rfl
theorem Ea (i : Nat) : DV i ρ = zd ρ[i]? i ρ := by unfold DV zd; rfl
theorem CZ {xs : List OD} {i : Nat} : xR (some (some (.ol xs))) i ρ = .ok (.nx (ρ.set i (some (.ol xs.reverse)))) := rfl
theorem Cw {xs : List OD} {i : Nat} : zd (some (some (.ol xs))) i ρ = .ok (.nx (ρ.set i (some (.ol [])))) := rfl
noncomputable def vd (o : Option (Option OD)) (g : Fg) (i : Nat) (ρ : Env) : R Out := match o with
 | some (some (.ol xs)) => match xs.getLast? with
  | some (.sh d) => unK (fun ρ' => .ok (.nx ρ')) (g (.sh d) (ρ.set i (some (.ol xs.dropLast))))
  | _ => .bad
 | _ => .bad
theorem Df (i : Nat) {g : Fg} : Bt i g ρ = vd ρ[i]? g i ρ := by
 unfold Bt vd;generalize ρ[i]? = o
 rcases mX (β := Nat) o with rfl | rfl | ⟨d, rfl⟩ | ⟨xs, rfl⟩ | ⟨xs, rfl⟩ | ⟨xs, rfl⟩
 ·rfl
 ·rfl
 ·rfl
 ·show (match xs.getLast? with
   | some (.sh d) => (g (.sh d) (ρ.set i (some (.ol xs.dropLast)))).bind fun ρ' => R.ok (Out.nx ρ')
   | _ => .bad) = (match xs.getLast? with
   | some (.sh d) => unK (fun ρ' => R.ok (Out.nx ρ')) (g (.sh d) (ρ.set i (some (.ol xs.dropLast))))
   | _ => R.bad)
  cases xs.getLast? with
  | none => rfl
  | some x =>
   cases x with
   | sh d => exact cR _ _
   | ol _ => rfl
   | ot _ => rfl
   | od _ => rfl
 ·rfl
 ·rfl
theorem Bk {xs : List OD} {d : PyData} {i : Nat} {g : Fg} : vd (some (some (.ol (xs ++ [.sh d])))) g i ρ = unK (fun ρ' => R.ok (Out.nx ρ')) (g (.sh d) (ρ.set i (some (.ol xs)))) := by
 have h1 : (xs ++ [OD.sh d]).getLast? = some (.sh d) := by simp
 unfold vd;simp only [h1, List.dropLast_concat]
noncomputable def xX (o : Option (Option OD)) (a : R OD) (i : Nat) (ρ : Env) : R Out := match o with
 | some (some (.ol xs)) => unK (fun y => match y with
  | .ol ys => if xs.length + ys.length ≤ BIG then .ok (.nx (ρ.set i (some (.ol (xs ++ ys))))) else .bad
  | _ => .bad) a
 | _ => .bad
theorem Cc (i : Nat) : Bs i a ρ = xX ρ[i]? (a ρ) i ρ := by
 unfold Bs xX;generalize ρ[i]? = o
 rcases mX (β := Nat) o with rfl | rfl | ⟨d, rfl⟩ | ⟨xs, rfl⟩ | ⟨xs, rfl⟩ | ⟨xs, rfl⟩
 ·rfl
 ·rfl
 ·rfl
 ·cases a ρ with
  | ok y => cases y <;> rfl
  | ex c => rfl
  | bad => rfl
 ·rfl
 ·rfl
theorem Ba {xs ys : List OD} {i : Nat} : xX (some (some (.ol xs))) (.ok (.ol ys)) i ρ = if xs.length + ys.length ≤ BIG then .ok (.nx (ρ.set i (some (.ol (xs ++ ys))))) else .bad := rfl
end
theorem pw {α : Type} {g : Fg} {el : Fe} {ρ0 : Env} {ds : List PyData} {r : R (List OD)} (hL : fA g jJ el ρ0 ds [] = r) (emb : α → PyData) (y : α → OD) (L : List α) (e : ds = L.map emb) (hl : L.length ≤ BIG) (h : ∀ x ∈ L, unK el (g (.sh (emb x)) ρ0) = .ok (y x)) : r = .ok (L.map y) := by
 subst e;rw [← hL];have go : ∀ (L : List α) (acc : List OD), (∀ x ∈ L, unK el (g (.sh (emb x)) ρ0) = .ok (y x)) → acc.length + L.length ≤ BIG → fA g jJ el ρ0 (L.map emb) acc = .ok (acc ++ L.map y) := by
  intro L
  induction L with
  | nil => intro acc _ _; rw [List.map_nil, fA, List.map_nil, List.append_nil]
  | cons x L ih =>
   intro acc h hl;have hx := h x List.mem_cons_self;rw [List.length_cons] at hl;rw [List.map_cons, fA];cases hg : g (.sh (emb x)) ρ0 with
   | ok ρ =>
    rw [hg] at hx;have hx' : el ρ = .ok (y x) := hx;simp only [oa, b_, jJ, if_true, hx'];rw [if_pos (by lia), ih (acc ++ [y x]) (fun z hz => h z (List.mem_cons_of_mem _ hz)) (by rw [List.length_append, List.length_singleton]; lia), List.map_cons, List.append_assoc]
    rfl
   | ex c => rw [hg] at hx; cases hx
   | bad => rw [hg] at hx; cases hx
 rw [go L [] h (by simpa using hl)]
 rfl
end L3
namespace L3
open PySem L2
noncomputable def lay (n : Nat) (d : PyData) : Prop := d.canLay0 = true ∧ d.depth ≤ n
theorem qp (i : Int) : lay 0 (.int i) := ⟨rfl, Nat.le_refl _⟩
theorem pC {x : Str} (h : PyData.strOk x = true) : lay 0 (.str x) := ⟨h, Nat.le_refl _⟩
theorem nc {n : Nat} : ∀ {xs : List PyData}, (∀ x ∈ xs, lay n x) → PyData.canLayAll0 xs = true ∧ PyData.depthAll xs ≤ n
 | [], _ => ⟨rfl, Nat.zero_le _⟩
 | x :: xs, h => by
  obtain ⟨a1, a2⟩ := h x List.mem_cons_self;obtain ⟨b1, b2⟩ := nc (xs := xs) fun y hy => h y (List.mem_cons_of_mem _ hy)
  unfold PyData.canLayAll0 PyData.depthAll;rw [a1, b1];exact ⟨rfl, by lia⟩
theorem uB {n : Nat} {xs : List PyData} (h : ∀ x ∈ xs, lay n x) : lay (n + 1) (.list xs) := by
 obtain ⟨b1, b2⟩ := nc h;refine ⟨by unfold PyData.canLay0; exact b1, ?_⟩
 unfold PyData.depth
 lia
theorem qy {n : Nat} {xs : List PyData} (h : ∀ x ∈ xs, lay n x) : lay (n + 1) (.tuple xs) := by
 obtain ⟨b1, b2⟩ := nc h;refine ⟨by unfold PyData.canLay0; exact b1, ?_⟩
 unfold PyData.depth
 lia
theorem gZ {n : Nat} {d : PyData} (h : lay n d) (hn : n ≤ 64) : SeqAt.shaped d = true := by
 unfold SeqAt.shaped;rw [Bool.and_eq_true];exact ⟨h.1, decide_eq_true (Nat.le_trans h.2 hn)⟩
theorem kE (a b : List PyData) : eqD (.list a) (.list b) = iN (.list a) (.list b) := rfl
theorem qV (a b : List PyData) : eqD (.tuple a) (.tuple b) = iN (.tuple a) (.tuple b) := rfl
theorem jy {n : Nat} {d : PyData} (h : lay n d) (hn : n ≤ 64) : iN d d = .ok true := by
 unfold iN;rw [gZ h hn, Bool.and_self, if_pos rfl, SeqAt.eqv_refl _ (SeqAt.canLay_of_shaped (gZ h hn))]
theorem uj {n : Nat} {a : List PyData} (h : lay n (.list a)) (hn : n ≤ 64 := by decide) : gEq (.list a) (.list a) = .ok (.sh (.bool true)) := by
 unfold gEq;rw [kE, jy h hn];rfl
theorem sR {n : Nat} {a : List PyData} (h : lay n (.list a)) (hn : n ≤ 64 := by decide) : gNe (.list a) (.list a) = .ok (.sh (.bool false)) := by
 unfold gNe;rw [kE, jy h hn];rfl
end L3
namespace L3
open PySem L2
theorem CJ (z : Str) (i : Int) : gIx (.str z) (.int i) = if z.length ≤ BIG then fZ ((atI z.cps.toList i).map fun c => .str ⟨#[c]⟩) else .bad := rfl
theorem zO (x y : Str) : a_ (.str x) (.str y) = if x.length + y.length ≤ BIG then .ok (.sh (.str (x ++ y))) else .bad := rfl
theorem eN (x y : List PyData) : a_ (.list x) (.list y) = if x.length + y.length ≤ BIG then .ok (.ol ((x ++ y).map OD.sh)) else .bad := rfl
theorem yg (xs : List PyData) (k : Int) : ie (.list xs) (.int k) = if (decide (-(2 ^ 63) ≤ k) && decide (k < 2 ^ 63) && decide (xs.length * k.toNat ≤ BIG)) = true then .ok (.ol ((List.replicate k.toNat xs).flatten.map OD.sh)) else .bad := rfl
theorem pJ (x : PyData) (n : Nat) (h : n ≤ 1000) : ie (.list [x]) (.int n) = .ok (.ol ((List.replicate n x).map OD.sh)) := by
 rw [yg, if_pos]
 ·rw [Int.toNat_natCast]
  congr 2
  induction n with
  | zero => rfl
  | succ n ih => rw [List.replicate_succ, List.flatten_cons, List.map_append, ih (by lia), List.replicate_succ, List.map_cons]; rfl
 ·rw [Bool.and_eq_true, Bool.and_eq_true, decide_eq_true_eq, decide_eq_true_eq, decide_eq_true_eq]
  refine ⟨⟨by lia, by lia⟩, ?_⟩
  rw [Int.toNat_natCast, List.length_singleton, Nat.one_mul];exact of_eq_true (aE h)
theorem Bw (x y : Str) : gEq (.str x) (.str y) = .ok (.sh (.bool (decide (x = y)))) := rfl
theorem Bx (x y : Str) : gNe (.str x) (.str y) = .ok (.sh (.bool (!decide (x = y)))) := rfl
end L3
namespace L3
open PySem L2
noncomputable def lY (S : Env → Prop) (T : OD → Prop) : R Out → Prop
 | .ok (.nx ρ) => S ρ
 | .ok (.ct ρ) => S ρ
 | .ok (.rt x) => T x
 | _ => False
theorem CS {S : Env → Prop} {T : OD → Prop} {ρ : Env} : lY S T (.ok (.nx ρ)) = S ρ := rfl
theorem A_ {S : Env → Prop} {T : OD → Prop} {ρ : Env} : lY S T (.ok (.ct ρ)) = S ρ := rfl
theorem DL {S : Env → Prop} {T : OD → Prop} {x : OD} : lY S T (.ok (.rt x)) = T x := rfl
theorem sT {P : Prop} {g : Fg} {b : Fs} {ds : List PyData} {ρ : Env} {r : R Out} (hL : bA g b ds ρ = r) (S : Nat → Env → Prop) (T : OD → Prop) (h0 : S 0 ρ) (st : ∀ (i : Nat) (d : PyData) (ρ : Env), ds[i]? = some d → S i ρ → lY (S (i + 1)) T (unK b (g (.sh d) ρ)))
  (fin : ∀ ρ', r = .ok (.nx ρ') → S ds.length ρ' → P) (fin2 : ∀ x, r = .ok (.rt x) → T x → P) : P := by
 have go : ∀ (es : List PyData) (k : Nat) (ρ : Env), S k ρ → (∀ (i : Nat) (d : PyData) (ρ : Env), es[i]? = some d → S (k + i) ρ → lY (S (k + i + 1)) T (unK b (g (.sh d) ρ))) → (∃ ρ', bA g b es ρ = .ok (.nx ρ') ∧ S (k + es.length) ρ') ∨ ∃ x, bA g b es ρ = .ok (.rt x) ∧ T x := by
  intro es
  induction es with
  | nil => exact fun k ρ h _ => .inl ⟨ρ, rfl, h⟩
  | cons d es ih =>
   intro k ρ h st;have h1 := st 0 d ρ rfl h;rw [bA];cases hg : g (.sh d) ρ with
   | bad => rw [hg] at h1; exact h1.elim
   | ex c => rw [hg] at h1; exact h1.elim
   | ok ρ1 =>
    rw [hg] at h1;have h2 : lY (S (k + 0 + 1)) T (b ρ1) := h1;rw [b_];cases hb : b ρ1 with
    | bad => rw [hb] at h2; exact h2.elim
    | ex c => rw [hb] at h2; exact h2.elim
    | ok o =>
     rw [hb] at h2;rw [b_];have nxt : ∀ ρ2, S (k + 1) ρ2 → (∃ ρ', bA g b es ρ2 = .ok (.nx ρ') ∧ S (k + (d :: es).length) ρ') ∨ ∃ x, bA g b es ρ2 = .ok (.rt x) ∧ T x := fun ρ2 h3 => by
      have := ih (k + 1) ρ2 h3 fun i d' ρ hd hi => by
       have := st (i + 1) d' ρ (by simpa using hd) (by rw [show k + (i + 1) = k + 1 + i by lia]; exact hi)
       rw [show k + (i + 1) + 1 = k + 1 + i + 1 by lia] at this
       exact this
      rw [List.length_cons, show k + (es.length + 1) = k + 1 + es.length by lia]
      exact this
     cases o with
     | nx ρ2 => exact nxt ρ2 h2
     | ct ρ2 => exact nxt ρ2 h2
     | bk _ => exact h2.elim
     | rt x => exact .inr ⟨x, rfl, h2⟩
 rcases go ds 0 ρ h0 fun i d ρ hd hi => by rw [Nat.zero_add] at hi ⊢; exact st i d ρ hd hi with ⟨ρ', e, h⟩ | ⟨x, e, h⟩
 ·rw [Nat.zero_add] at h
  exact fin ρ' (by rw [← hL, e]) h
 ·exact fin2 x (by rw [← hL, e]) h
theorem ir (xs : List PyData) (a : Nat) (ha : a ≤ xs.length) : cutD xs (some (a : Int)) none = xs.drop a := by
 unfold cutD;rw [HT.pD, HT.nU, Nat.min_eq_left ha, List.take_of_length_le (by rw [List.length_drop]; lia)]
theorem rg {n : Nat} {a : List PyData} (h : lay n (.tuple a)) (hn : n ≤ 64 := by decide) : gNe (.tuple a) (.tuple a) = .ok (.sh (.bool false)) := by
 unfold gNe;rw [qV, jy h hn];rfl
end L3
namespace L3
open PySem L2 PySem.Spec PyProof.Rows
section
variable {X : Cx} {tg : Expr}
end
section
variable {M : Mx} {n : Nat} {H : Hp} {σ : St} {R' : It → Hp → Prop} {X : Cx} {a b c e : Expr} {fa fb fc : Fe} {pos : Pos} {D : Ends}
end
end L3
namespace L3
open PySem L2 PySem.Spec PyProof.Rows
end L3
namespace L3
open PySem L2 PySem.Spec PyProof.Rows
section
variable {M : Mx} {n : Nat} {σ : L3.St} {H : Hp} {D : Ends}
end
section
variable {M : Mx} {X : Cx} {e b : Expr} {fa : Fe} {x y : Str} {p p1 p2 p3 pos pos' : Pos}
end
end L3
namespace L3
open PySem L2 PySem.Spec PyProof.Rows
noncomputable def keyOf : PyData → Option Key
 | .int i => some (.inl i)
 | .str x => some (.inr x)
 | _ => none
theorem nW (k : Key) : keyOf (kD k) = some k := by cases k <;> rfl
noncomputable def gh (kvs : List (Key × PyData)) (k : Key) : Option PyData := (kvs.find? fun kv => decide (kv.1 = k)).map (·.2)
noncomputable def putD (kvs : List (Key × PyData)) (k : Key) (d : PyData) : List (Key × PyData) :=
 if (kvs.any fun kv => decide (kv.1 = k)) = true then kvs.map (fun kv => if kv.1 = k then (kv.1, d) else kv) else kvs ++ [(k, d)]
noncomputable def l8 (kvs : List (PyData × PyData)) (k : Key) : Option PyData := (kvs.find? fun kv => decide (keyOf kv.1 = some k)).map (·.2)
theorem nY (kvs : List (Key × PyData)) (k : Key) : l8 (kvs.map fun p => (kD p.1, p.2)) k = gh kvs k := by
 unfold l8 gh
 induction kvs with
 | nil => rfl
 | cons p r ih =>
  rw [List.map_cons, List.find?_cons, List.find?_cons];by_cases h : p.1 = k
  ·rw [decide_eq_true h, decide_eq_true (by show keyOf (kD p.1) = some k; rw [nW, h])]
   rfl
  ·rw [decide_eq_false h, decide_eq_false (by show ¬ keyOf (kD p.1) = some k; rw [nW]; exact fun z => h (Option.some.inj z))]
   exact ih
noncomputable def gDx : PyData → PyData → R OD
 | .dict kvs, y => match keyOf y with
  | some k => fZ (l8 kvs k)
  | none => .bad
 | _, _ => .bad
theorem CW (kvs : List (Key × PyData)) (i : Int) : gDx (dD kvs) (.int i) = fZ (gh kvs (.inl i)) := by
 show fZ (l8 _ _) = _
 rw [nY]
noncomputable def sDP (i : Nat) (k a : Fe) : Fs := fun ρ => match ρ[i]? with
 | some (some (.od kvs)) => (a ρ).bind fun y => (k ρ).bind fun z => match keyOf z.er with
  | some q => if kvs.length < BIG then .ok (.nx (ρ.set i (some (.od (putD kvs q y.er))))) else .bad
  | none => .bad
 | _ => .bad
section
variable {K : PySem.W.Frag} {F H : Hp}
theorem oK : ∀ {kvs : List (Key × V)} {ds : List (Key × PyData)} {k : Key} {d : PyData}, kvs.map (·.1) = ds.map (·.1) → RepAll K F (kvs.map (·.2)) (ds.map (·.2)) → gh ds k = some d → ∃ v, kZ kvs k = some v ∧ Rep K F v d
 | [], [], _, _, _, _, e => by cases e
 | [], _ :: _, _, _, h, _, _ => by cases h
 | _ :: _, [], _, _, h, _, _ => by cases h
 | p :: kvs, q :: ds, k, d, h, r, e => by
  rw [List.map_cons, List.map_cons] at h r;obtain ⟨h1, h2⟩ := List.cons.inj h;cases r with
  | cons r1 r2 =>
   unfold gh at e;rw [List.find?_cons] at e;by_cases hq : q.1 = k
   ·rw [decide_eq_true hq] at e
    have e' := Option.some.inj e;exact ⟨p.2, jf (h1.trans hq), by rw [← e']; exact r1⟩
   ·rw [decide_eq_false hq] at e
    obtain ⟨v, a, b⟩ := oK (k := k) (d := d) h2 r2 e;exact ⟨v, by rw [je (fun z => hq (h1.symm.trans z))]; exact a, b⟩
theorem tF {kvs : List (Key × V)} {ds : List (Key × PyData)} (k : Key) (h : kvs.map (·.1) = ds.map (·.1)) : (kvs.any fun kv => decide (kv.1 = k)) = (ds.any fun kv => decide (kv.1 = k)) := by
 have e1 : (kvs.any fun kv => decide (kv.1 = k)) = (kvs.map (·.1)).any fun x => decide (x = k) := by rw [List.any_map]; rfl
 have e2 : (ds.any fun kv => decide (kv.1 = k)) = (ds.map (·.1)).any fun x => decide (x = k) := by rw [List.any_map]; rfl
 rw [e1, e2, h]
theorem nM {k : Key} {v : V} {d : PyData} (hv : Rep K F v d) : ∀ {kvs : List (Key × V)} {ds : List (Key × PyData)}, kvs.map (·.1) = ds.map (·.1) → RepAll K F (kvs.map (·.2)) (ds.map (·.2)) →
  (kvs.map fun kv => if kv.1 = k then (kv.1, v) else kv).map (·.1) = (ds.map fun kv => if kv.1 = k then (kv.1, d) else kv).map (·.1) ∧ RepAll K F ((kvs.map fun kv => if kv.1 = k then (kv.1, v) else kv).map (·.2)) ((ds.map fun kv => if kv.1 = k then (kv.1, d) else kv).map (·.2))
 | [], [], _, _ => ⟨rfl, .nil⟩
 | [], _ :: _, h, _ => by cases h
 | _ :: _, [], h, _ => by cases h
 | p :: kvs, q :: ds, h, r => by
  rw [List.map_cons, List.map_cons] at h r;obtain ⟨h1, h2⟩ := List.cons.inj h;cases r with
  | cons r1 r2 =>
   obtain ⟨a, b⟩ := nM hv h2 r2;rw [List.map_cons, List.map_cons, List.map_cons, List.map_cons, List.map_cons, List.map_cons, a];by_cases hq : q.1 = k
   ·rw [if_pos hq, if_pos (h1.trans hq)]
    exact ⟨by rw [h1], .cons hv b⟩
   ·rw [if_neg hq, if_neg (fun z => hq (h1.symm.trans z))]
    exact ⟨by rw [h1], .cons r1 b⟩
theorem sJ {kvs : List (Key × V)} {ds : List (Key × PyData)} {k : Key} {v : V} {d : PyData} (hv : Rep K F v d) (h : kvs.map (·.1) = ds.map (·.1)) (r : RepAll K F (kvs.map (·.2)) (ds.map (·.2))) :
  (putK kvs k v).map (·.1) = (putD ds k d).map (·.1) ∧ RepAll K F ((putK kvs k v).map (·.2)) ((putD ds k d).map (·.2)) := by
 unfold putK putD;rw [tF k h];by_cases ha : (ds.any fun kv => decide (kv.1 = k)) = true
 ·rw [if_pos ha, if_pos ha]
  exact nM hv h r
 ·rw [if_neg ha, if_neg ha, List.map_append, List.map_append, List.map_append, List.map_append, h]
  exact ⟨rfl, r.app (.cons hv .nil)⟩
theorem jq {y : V} {d : PyData} {k : Key} (r : Rep K F y d) (e : keyOf d = some k) : y = kV k := by
 cases r with
 | non => cases e
 | bl _ => cases e
 | int i => cases e; rfl
 | str x => cases e; rfl
 | lst _ _ => cases e
 | tup _ _ => cases e
 | dct _ _ _ =>
  have e' : (none : Option Key) = some k := e;cases e'
end
section
variable {M : Mx} {n : Nat} {σ : L3.St} {H : Hp} {D : Ends} {Q : VK} {fa fb : Fe}
noncomputable def C_ : R2 := fun x y H Q => ∃ a v, x = .ref a ∧ wj H a y (some v) ∧ Q v H
theorem BS : Ok2 M C_ gDx := by
 intro x y dx dy F H fp Q s rx ry p;cases rx with
 | non => exact p.elim
 | bl _ => exact p.elim
 | int _ => exact p.elim
 | str _ => exact p.elim
 | lst _ _ => exact p.elim
 | tup _ _ => exact p.elim
 | @dct a kvs ds h1 h2 h3 =>
  have p1 : ay M H fp (OkE M F H Q) (match keyOf dy with
   | some k => fZ (l8 (ds.map fun p => (kD p.1, p.2)) k)
   | none => .bad) := p
  cases hk : keyOf dy with
  | none =>
   rw [hk] at p1;exact p1.elim
  | some k =>
   rw [hk] at p1;have p2 : ay M H fp (OkE M F H Q) (fZ (l8 (ds.map fun p => (kD p.1, p.2)) k)) := p1
   rw [nY] at p2;cases hv : gh ds k with
   | none =>
    rw [hv] at p2;exact p2.elim
   | some d =>
    rw [hv] at p2;obtain ⟨v, v1, v2⟩ := oK h2 h3 hv;exact ⟨a, v, rfl, .inl ⟨kvs, k, .inl (s _ _ h1), jq ry hk, v1.symm⟩, OkE.val s p2 v2⟩
theorem Stt.writeD {K : PySem.W.Frag} {F : Hp} {ρ : Env} {fp : List Addr} (S : Stt K n F H σ ρ fp) {i : Nat} {ds : List (Key × PyData)} (hx : ρ[i]? = some (some (.od ds))) :
  ∃ a kvs, σ[i]? = some (some (.ref a)) ∧ H a = some (.dK kvs) ∧ kvs.map (·.1) = ds.map (·.1) ∧ RepAll K F (kvs.map (·.2)) (ds.map (·.2)) ∧
   ∀ F1 H1 kvs' ds', Ext F H F1 H1 → kvs'.map (·.1) = ds'.map (·.1) → RepAll K F1 (kvs'.map (·.2)) (ds'.map (·.2)) →
    ∃ fp', Stt K n F1 (upd H1 a (.dK kvs')) σ (ρ.set i (some (.od ds'))) fp' ∧ Stp F H fp F1 (upd H1 a (.dK kvs')) fp' := by
 obtain ⟨v, f0, g1, g2, h1, h2, rfl, h4⟩ := S.own.at hx;cases h2 with
 | @od a kvs _ ha hk hr =>
  have nd := S.nd;simp only [List.nodup_append, List.mem_append, List.cons_append, List.nodup_cons, List.mem_cons, List.nil_append] at nd;obtain ⟨n1, ⟨na, n2⟩, n5⟩ := nd;refine ⟨a, kvs, h1, ha, hk, hr, fun F1 H1 kvs' ds' e q1 q2 => ?_⟩
  have fa : F1 a = none := e.nw a (dh ha) (S.fr a (by simp))
  have own := h4 F1 (upd H1 a (.dK kvs')) e.ff (fun b m o q => by
   have : b ≠ a := by
    rintro rfl;rcases List.mem_append.mp m with m | m
    ·exact n5 b m b (.inl rfl) rfl
    ·exact na m
   rw [aQ this];exact e.hh _ _ q) (.ref a) (.od ds') [a] (.od cm q1 q2)
  rw [oo h1] at own;have frs : ∀ b ∈ g1 ++ ([a] ++ g2), F1 b = none := fun b m => let ⟨_, q⟩ := S.own.dom b m; e.nw b (dh q) (S.fr b m)
  refine ⟨g1 ++ ([a] ++ g2), ⟨?_, own, S.nd, frs, by rw [List.length_set]; exact S.len⟩, ⟨e.ff, fun b o q m => ?_, fun b m => .inl m, fun b q m z => e.nw b q z⟩⟩
  ·intro b o q
   rw [aQ (a9 q fa)];exact e.fh _ _ q
  ·have hb : b ≠ a := by
    rintro rfl;exact m (by simp)
   rw [aQ hb];exact e.hh _ _ q
theorem zP {i : Nat} {k a : Fe} (h : tS M n (sDP i k a) D σ H) : xt (rW i) (tD M n k) (tD M n a) D σ H := by
 obtain ⟨F, ρ, fp, S, p⟩ := h;unfold sDP at p;split at p
 ·rename_i ds e
  refine ⟨F, ρ, fp, S, (ay.bind p).mono fun y py v F1 H1 fy e1 r1 w1 => ?_⟩
  obtain ⟨G1, d1, k1⟩ := r1.frz e1 w1;obtain ⟨l, kvs, h1, h2, h3, h4, wr⟩ := S.writeD e;refine ⟨_, h1, G1, ρ, fp, S.ext d1, ((ay.bind py).ext d1).mono fun z pz u F2 H2 fz e2 r2 w2 => ?_⟩
  obtain ⟨G2, d2, k2⟩ := r2.frz e2 w2;have e12 := d1.trans d2;cases hk : keyOf z.er with
  | none =>
   rw [hk] at pz;exact pz.elim
  | some q =>
   rw [hk] at pz;have pz' : ay M H fp (eA M n F H fp D) (if ds.length < BIG then .ok (.nx (ρ.set i (some (.od (putD ds q y.er))))) else .bad) := pz
   by_cases hl : ds.length < BIG
   ·rw [if_pos hl] at pz'
    have hlen : kvs.length = ds.length := by
     have := congrArg List.length h3;rw [List.length_map, List.length_map] at this;exact this
    have rp := sJ (k := q) (k1.same d2.ff) h3 (h4.same e12.ff);obtain ⟨fp', S', st⟩ := wr G2 H2 _ _ e12 rp.1 rp.2;exact ⟨l, _, rfl, .inl ⟨kvs, q, e12.hh _ _ h2, jq k2 hk, by rw [hlen]; exact oU hl, rfl⟩, pz' σ G2 _ fp' S' st⟩
   ·rw [if_neg hl] at pz'
    exact pz'.elim
 ·exact p.elim
end
section
variable {M : Mx} {X : Cx} {a b e : Expr} {fa fb : Fe} {x : Str} {p pos pos' : Pos}
theorem AN (hu : X.A.units + 1 < cLine) (ha : DE M X a fa) (hb : DE M X b fb) (hs : x_ b) : DE M X (.Subscript a b pos) (eOp gDx fa fb) := fun hK hM =>
 peI (vA hu (ha hK hM) (hb hK hM) hs) fun _ _ _ q => t8 BS q
theorem wg (i : Nat) (hu : X.A.units + 1 < cLine) (hb : DE M X b fb) (h : DE M X e fa) (hN : X.N[i]? = some x := by rfl) (hv : Vis X.env.scope x := by first | exact Or.inl rfl | exact Or.inr (Or.inl rfl) | exact Or.inr (Or.inr rfl)) (hd : (x == ("__debug__" : Str)) = false := by decide) (hcd : (x == ("__classdict__" : Str)) = false := by decide)
  (hs : swapsWith e (some (.Subscript (.Name x p) b pos')) pos.line X.env = pure false := by rfl) : DS M X (.Assign [.Subscript (.Name x p) b pos'] e pos) (sDP i fb fa) := fun hK hM =>
 psI (wB hu (ic hN hv hd hcd) (hb hK hM) (h hK hM) hs) fun _ _ _ q => zP q
end
section
variable {ρ : Env} {a b k : Fe}
noncomputable def uC (o : Option (Option OD)) (a k : R OD) (i : Nat) (ρ : Env) : R Out := match o with
 | some (some (.od kvs)) => unK (fun y => unK (fun z => match keyOf z.er with
  | some q => if kvs.length < BIG then .ok (.nx (ρ.set i (some (.od (putD kvs q y.er))))) else .bad
  | none => .bad) k) a
 | _ => .bad
theorem zy (i : Nat) : sDP i k a ρ = uC ρ[i]? (a ρ) (k ρ) i ρ := by
 unfold sDP uC;generalize ρ[i]? = o
 rcases mX (β := Nat) o with rfl | rfl | ⟨d, rfl⟩ | ⟨xs, rfl⟩ | ⟨xs, rfl⟩ | ⟨xs, rfl⟩
 ·rfl
 ·rfl
 ·rfl
 ·rfl
 ·rfl
 ·cases a ρ <;> cases k ρ <;> rfl
theorem Au {kvs : List (Key × PyData)} {d : PyData} {z : Int} {i : Nat} : uC (some (some (.od kvs))) (.ok (.sh d)) (.ok (.sh (.int z))) i ρ = if kvs.length < BIG then .ok (.nx (ρ.set i (some (.od (putD kvs (.inl z) d))))) else .bad := by
 show (match keyOf (OD.sh (PyData.int z)).er with
  | some q => if kvs.length < BIG then R.ok (Out.nx (ρ.set i (some (.od (putD kvs q (OD.sh d).er))))) else .bad
  | none => .bad) = _
 rw [g8, g8];rfl
end
end L3
namespace L3
open PySem L2 PySem.Spec PyProof.Rows
theorem rS {k : Nat} {A : Around} (r : Room k A) : A.units + 1 < cLine := by have := r.units; lia
noncomputable def pe (x : PyData) (lo hi : Option Int) : R OD := match x with
 | .str y => if y.length ≤ BIG then .ok (.sh (.str (Txt.slice y lo hi))) else .bad
 | _ => .bad
noncomputable def Cv : V → Option Int → Option Int → Hp → VK → Prop := fun x lo hi H Q => ∃ y, x = .str y ∧ y.length ≤ sizeLine ∧ Q (.str (Txt.slice y lo hi)) H
section
variable {X : Cx} {M : Mx}
theorem part_of {v : Value} {o : Option Int} (h : IsPart v o) : ∃ l : Option (Int × Tok), v = partValue l ∧ l.map (·.1) = o := by
 cases h with
 | none => exact ⟨none, rfl, rfl⟩
 | int i t => exact ⟨some (i, t), rfl, rfl⟩
theorem mV : SlR X Cv := by
 intro pins s σ H x v vl vu lo hi sl Q I rx hs pl pu h;obtain ⟨y, rfl, hy, q⟩ := h;obtain ⟨t, rfl⟩ := rx;obtain ⟨l, rfl, rfl⟩ := part_of pl;obtain ⟨u, rfl, rfl⟩ := part_of pu;refine ⟨"str", _, PySem.F.slot_str_getitem.lookup, typeIs_str _ _ _, wpAny_getItem_str_slice (l := l) (u := u) (st := none) hs rfl (post_val_or_str ⟨Nat.le_trans (Txt.slice_le y _ _) hy, fun t' k => ?_⟩)⟩
 exact ⟨.str _, H, I.tok k, ⟨t', rfl⟩, q⟩
theorem mq (hK : X.K = M.K) : OkS M Cv pe := by
 intro x lo hi dx F H fp Q s rx p;unfold pe at p;split at p
 ·cases rx
  split at p
  ·rename_i hl
   exact ⟨_, rfl, gO hl, OkE.val s p (.str _)⟩
  ·exact p.elim
 ·exact p.elim
theorem uM (y : Str) (lo hi : Option Int) : pe (.str y) lo hi = if y.length ≤ BIG then .ok (.sh (.str (Txt.slice y lo hi))) else .bad := rfl
end
end L3
namespace L3
open PySem L2 PySem.Spec PyProof.Rows
noncomputable def inS (x y : Str) : Bool := !(Builtin.Str.occurrences y x 0 y.length 1).isEmpty
noncomputable def gIn : PyData → PyData → R OD
 | .str x, .str y => .ok (.sh (.bool (inS x y)))
 | _, _ => .bad
section
variable {X : Cx} {M : Mx}
theorem uq : OpR X (compareOp .In) (fun x y H Q => ∃ i j, x = .str i ∧ y = .str j ∧ Q (.bl (!(Builtin.Str.occurrences j i 0 j.length 1).isEmpty)) H) := qN
theorem xO (_ : X.K = M.K) : Ok2 M (fun x y H Q => ∃ i j, x = .str i ∧ y = .str j ∧ Q (.bl (!(Builtin.Str.occurrences j i 0 j.length 1).isEmpty)) H) gIn := by
 intro x y dx dy F H fp Q s rx ry p;unfold gIn at p;split at p
 ·cases rx; cases ry
  exact ⟨_, _, rfl, rfl, OkE.val s p (.bl _)⟩
 ·exact p.elim
theorem t9 (x y : Str) : gIn (.str x) (.str y) = .ok (.sh (.bool (inS x y))) := rfl
end
end L3
namespace L3
open PySem L2 PySem.Spec PyProof.Rows
noncomputable def Its (x : Str) : It := ⟨fun i _ => i < x.cps.size, fun i H v H' => H' = H ∧ ∃ c, x.cps[i]? = some c ∧ v = .str ⟨#[c]⟩, fun i _ => x.cps.size ≤ i⟩
theorem rF {P : Program} {w : World} {K : PySem.W.Frag} {tg : Expr} (it : Addr) (x : Str) (t : Tok) : Turn P w K tg (Its x) [it] it (fun i h => h.IsStrIter it "str_ascii_iterator" x t i) where
 mem := by simp
 obj := fun i h st b hb => by
  have e : b = it := by simpa using hb
  subst e;obtain ⟨o, e, c, d⟩ := st;exact ⟨o, e, fun v z => by rw [d] at z; cases z⟩
 keep := fun i h h' st k => let ⟨o, e, r⟩ := st; ⟨o, k it (by simp) o e, r⟩
 item := by
  intro X hP hw hK hc i pins s σ H E I hf st hg;subst hP hw hK;obtain ⟨f0, f1, f2, f3, f4, f5⟩ := hf it (by simp)
  have W := PySem.Walks.strAscii (prog := X.prog) (w := X.w) (I.ok.hd hc) it x t;refine W.item i s _ _ hg st fun v h' tk hv st' kk => ?_
  obtain ⟨c, u, hc1, rfl⟩ := hv;have I1 : Inv X pins σ H { s with heap := h', toks := tk } := I.turned (fun b o hb e => kk b o (by simpa using hb) e) f0 f1 f3 f4 f5
  obtain ⟨o, e, cc, d⟩ := id st';exact ⟨_, rfl, sH (s := { s with heap := h', toks := tk }) e cc d (by decide) ⟨.str ⟨#[c]⟩, H, I1, ⟨u, rfl⟩, ⟨rfl, c, hc1, rfl⟩, st', fun b hb => (hf b hb).1⟩⟩
 done := by
  intro X hP hw hK hc i pins s σ H E I hf st hg;subst hP hw hK;obtain ⟨f0, f1, f2, f3, f4, f5⟩ := hf it (by simp)
  exact wpAny_pyNext_ascii_end (I.ok.hd hc) st (by have : x.cps.size ≤ i := hg; simp; lia) fun h' eb => ⟨rfl, I.turned (t' := s.toks) (fun b o hb e => eb b o (by simpa using hb) e) f0 f1 f3 f4 f5⟩
 self := fun _ _ _ _ _ st h => wpAny_pyIter_striter_ascii st h
noncomputable def xb (tl : TE) : TI := fun σ H R => tl σ H fun x H1 => ∃ y, x = .str y ∧ y.cps.all (· < 128) = true ∧ R (Its y) H1
theorem vU {X : Cx} {tg l : Expr} {tl : TE} (hl : PE X l tl) : PI X tg l (xb tl) := by
 intro pins s σ H R I h;refine thn (hl pins s σ H _ I h) fun v s1 ⟨x, H1, I1, r1, q1⟩ => ?_
 obtain ⟨y, e, hy, q⟩ := q1;subst e;obtain ⟨t, rfl⟩ := r1;refine wpAny_pyIter_ascii hy ?_;refine ⟨s1.heap.objs.size, [s1.heap.objs.size], _, _, H1, rfl, I1.kept (t' := s1.toks) fun b o e => Heap.get?_push_of_some _ e, rF _ y t, ⟨_, Heap.get?_push_size _ rfl, rfl, rfl⟩, fun b hb => ?_, q⟩
 have e : b = s1.heap.objs.size := by simpa using hb
 subst e;exact I1.fpOk (Nat.le_refl _) (I1.hok.fresh (Nat.le_refl _))
noncomputable def signs (x : Str) : List PyData := x.cps.toList.map fun c => PyData.str ⟨#[c]⟩
noncomputable def iTx (a : Fe) : Fi := fun ρ => (a ρ).bind fun x => match x.er with
 | .str y => if y.cps.all (· < 128) = true then .ok (signs y) else .bad
 | _ => .bad
theorem AA {M : Mx} {n : Nat} {σ : L3.St} {H : Hp} {R' : It → Hp → Prop} {a : Fe} (h : tI M n (iTx a) σ H R') : xb (tD M n a) σ H R' := by
 obtain ⟨F, ρ, fp, S, p⟩ := h;refine ⟨F, ρ, fp, S, (ay.bind p).mono fun x px v F1 H1 fx e1 r1 w1 => ?_⟩
 obtain ⟨G1, d1, k1⟩ := r1.frz e1 w1;generalize x.er = d at px k1
 cases k1 with
 | str y =>
  have px' : ay M H fp (OkI M.K F H R') (if y.cps.all (· < 128) = true then .ok (signs y) else .bad) := px
  by_cases hy : y.cps.all (· < 128) = true
  ·rw [if_pos hy] at px'
   refine ⟨y, rfl, hy, px' _ G1 H1 d1 fun i G H' s1 s2 => ⟨fun d hd => ?_, fun hl => ?_⟩⟩
   ·unfold signs at hd
    rw [List.getElem?_map] at hd;obtain ⟨c, hc, rfl⟩ := Option.map_eq_some_iff.mp hd;have hc' : y.cps[i]? = some c := by rw [← Array.getElem?_toList]; exact hc
    refine ⟨(Array.getElem?_eq_some_iff.mp hc').1, fun x H2 y' => ?_⟩
    obtain ⟨rfl, c', h1, rfl⟩ := y';rw [hc'] at h1;cases h1;exact ⟨G, Ext.refl s2, .str _⟩
   ·unfold signs at hl
    rw [List.length_map] at hl;show y.cps.size ≤ i
    simpa using hl
  ·rw [if_neg hy] at px'
   exact px'.elim
 | non => exact px.elim
 | bl _ => exact px.elim
 | int _ => exact px.elim
 | lst _ _ => exact px.elim
 | tup _ _ => exact px.elim
 | dct _ _ _ => exact px.elim
theorem wb {M : Mx} {X : Cx} {e : Expr} {fa : Fe} {tg : Expr} (h : DE M X e fa) : DI M X tg e (iTx fa) := fun hK hM =>
 fun pins s σ H R' I z => vU (tg := tg) (h hK hM) pins s σ H R' I (AA z)
end L3
namespace L3
open PySem L2 PySem.Spec PyProof.Rows
section
variable {M : Mx} {n : Nat} {σ : L2.St} {H : Hp} {Q : VK} {al ak : Fa}
noncomputable def gK {α : Type} (m j : Nat) (us ws : List α) : List α := if us.length = m ∧ ws.length = j then us ++ ws else []
end
section
variable {M : Mx} {X : Cx} {e : Expr} {es : List Expr} {pos kpos : Pos} {fa : Fe} {al ak : Fa} {kws : List Keyword} {nm : Option Str}
end
structure FunD (K : PySem.W.Frag) (x qual : Str) (st : Stmt) (f : Addr) (fd : FuncData) : Prop where
 ex : ∃ (oc : Value) (od : Option Addr) (dV kV doc pm : Value) (an : Option Addr) (cdv ct : Value) (osl : Array (Option Value)),
  fd = PySem.W.fnOf x qual (aW st) (aR st) (ar st) dV kV doc pm an cdv ct ∧ K.lookup f = some ⟨oc, od, .func fd, osl⟩ ∧ PySem.W.codeIn K cdv qual = true
 kp : PySem.W.keepIn K (.ref f) = true
structure DefD (K : PySem.W.Frag) (mg : Str → Option Value) (x : Str) (st : Stmt) (ps ks : List Str) (m : Nat) (dvs : List V) (f : Addr) (fd : FuncData) : Prop where
 F : FunD K x x st f fd
 g : mg x = some (.ref f)
 b : Binds K fd ps []
 d : ∃ ds, Binds K fd ps ds ∧ Vals dvs ds
 k : KBinds K fd ps ks (gK m dvs.length) (gK m dvs.length)
end L3
namespace L3
open PySem L2 PySem.Spec PyProof.Rows
section
variable {M : Mx} {n : Nat} {σ : L2.St} {H : Hp} {D : Ends}
end
section
variable {M : Mx} {X : Cx} {e b : Expr} {x : Str} {p ap cp pos : Pos} {fa fb : Fe}
end
section
variable {ρ : Env} {k a : Fe}
end
section
variable {M : Mx} {n : Nat} {σ : L2.St} {H : Hp} {D : Ends}
end
section
variable {M : Mx} {X : Cx} {sc scope : Scope} {p p1 p2 p3 p4 p5 pos spos : Pos} {x y z b : Str}
end
end L3
namespace L3
open PySem L2
end L3
namespace L2
open PySem PySem.Spec PyProof.Rows
end L2
namespace L2
open PySem PySem.Spec PyProof.Rows
structure BlkK (X : Cx) (sc scope : Scope) (outs : List (Nat × Str)) : Prop where
 hsc : X.env.scope = sc
 kind : scope.kind = .function
 loc : ∀ x ∈ scope.names, x.2 = .local → scope.names.lookup x.1 = some .local
 own : ∀ x ∈ scope.names, x.2 = .cell → scope.names.lookup x.1 = some .cell
 ap : ∀ x ∈ scope.names, x.2 = .free → (x.1, NameKind.cell) ∉ scope.names
 fr : ∀ x ∈ scope.names, x.2 = .free → sc.names.lookup x.1 = some .cell ∨ sc.names.lookup x.1 = some .free
 out : jA X scope outs
section
variable {X : Cx} {sc scope : Scope} {own : List Str} {outs : List (Nat × Str)} {elt tg iter : Expr} {ifs : List Expr} {pos : Pos} {g : TG} {tc : TT} {te : TE}
end
end L2
namespace L3
open PySem L2 PySem.Spec PyProof.Rows
section
variable {M : Mx} {X : Cx} {e a b c : Expr} {es : List Expr} {pos : Pos} {fa fb : Fe} {ta tb : Ft} {al : Fa} {x : Str} {p ap cp : Pos}
variable {sc scope : Scope} {outs : List (Nat × Str)} {elt tg iter : Expr} {ifs : List Expr} {it : Fi} {gg : Fg} {is : List Nat} {el : Fe}
end
end L3
namespace L3
open PySem L2 PySem.Spec PyProof.Rows
theorem gF : ∀ {us : List Value} {ns : List Int}, IntsAre us ns → Vals (ns.map V.int) us
 | _, _, .nil => .nil
 | _, _, .cons n t r => .cons ⟨t, rfl⟩ (gF r)
section
variable {X : Cx} {M : Mx}
end
end L3
namespace L3
open PySem L2 PySem.Spec PyProof.Rows
theorem ju (ds : List PyData) : (gk ds).length = ds.length := by unfold gk; simp
section
variable {M : Mx} {n : Nat} {σ : L2.St} {H : Hp} {D : Ends} {Q Q' : VK}
end
noncomputable def LT (F : Hp) (b : Addr) : Prop := (∃ ws, F b = some (.lst ws)) ∨ ∃ r ws, F b = some (.tup (.ref r :: ws))
open Classical in
noncomputable def vZ (F : Hp) (f : List Addr) : Hp := fun b => if b ∈ f then none else F b
theorem uu {F : Hp} {f : List Addr} {b : Addr} (h : b ∉ f) : vZ F f b = F b := by unfold vZ; rw [if_neg h]
section
variable {K : PySem.W.Frag} {F H : Hp} {f : List Addr}
end
section
variable {M : Mx} {n : Nat} {σ : L2.St} {H : Hp} {Q : VK}
end
section
variable {M : Mx} {X : Cx} {e : Expr} {fa fb : Fe}
end
theorem ex1 {α : Type} {us : List α} (h : us.length = 1) : ∃ a, us = [a] := by
 cases us with
 | nil => cases h
 | cons a r =>
  cases r with
  | nil => exact ⟨a, rfl⟩
  | cons b r => cases h
theorem ex2 {α : Type} {us : List α} (h : us.length = 2) : ∃ a b, us = [a, b] := by
 cases us with
 | nil => cases h
 | cons a r =>
  obtain ⟨b, e⟩ := ex1 (Nat.succ.inj h);exact ⟨a, b, by rw [e]⟩
theorem ex3 {α : Type} {us : List α} (h : us.length = 3) : ∃ a b c, us = [a, b, c] := by
 cases us with
 | nil => cases h
 | cons a r =>
  obtain ⟨b, c, e⟩ := ex2 (Nat.succ.inj h);exact ⟨a, b, c, by rw [e]⟩
theorem ex4 {α : Type} {us : List α} (h : us.length = 4) : ∃ a b c d, us = [a, b, c, d] := by
 cases us with
 | nil => cases h
 | cons a r =>
  obtain ⟨b, c, d, e⟩ := ex3 (Nat.succ.inj h);exact ⟨a, b, c, d, by rw [e]⟩
theorem ex5 {α : Type} {us : List α} (h : us.length = 5) : ∃ a b c d f, us = [a, b, c, d, f] := by
 cases us with
 | nil => cases h
 | cons a r =>
  obtain ⟨b, c, d, f, e⟩ := ex4 (Nat.succ.inj h);exact ⟨a, b, c, d, f, by rw [e]⟩
end L3
namespace L3
open PySem L2 PySem.Spec PyProof.Rows
noncomputable def eD0 : Fe := fun _ => .ok (.od [])
noncomputable def jO : PyData → PyData → R OD
 | .str x, .int n => if x.length = 1 ∧ 0 ≤ n ∧ n ≤ 1000 then .ok (.sh (.str (Txt.mul x n))) else .bad
 | _, _ => .bad
section
variable {M : Mx} {n : Nat} {σ : L2.St} {H : Hp} {Q : VK}
theorem El (h : tD M n eD0 σ H Q) : rR σ H Q := by
 obtain ⟨F, ρ, fp, S, p⟩ := h;intro q hq;have py' : OkE M F H Q (.od []) := p;have Fq : F q = none := S.same.free hq;refine py' (.ref q) F _ [q] ⟨fun _ _ z => z, fun b o z => ?_, fun b o z => ?_, fun b z w => w⟩ ⟨.od cm rfl .nil, by simp, fun b m => ?_⟩ fun b m => ?_
 ·have hb : b ≠ q := by
   rintro rfl;rw [hq] at z;cases z
  rw [aQ hb];exact z
 ·have hb : b ≠ q := by
   rintro rfl;rw [Fq] at z;cases z
  rw [aQ hb];exact S.same _ _ z
 ·have : b = q := by simpa using m
  rw [this];exact Fq
 ·have : b = q := by simpa using m
  rw [this];exact hq
end
theorem qA {x : Str} {n : Int} (h1 : x.length = 1) (h2 : 0 ≤ n) (h3 : n ≤ 1000) : MulOk x n := by
 refine ⟨?_, fun hn _ => ?_, fun hn _ => ?_⟩
 ·rw [Bool.or_eq_false_iff]
  exact ⟨decide_eq_false (by lia), decide_eq_false (by lia)⟩
 ·rw [h1]
  have : (1 : Int) ≤ (2 ^ 63 - 1) / n := by
   rw [Int.le_ediv_iff_mul_le (by lia)]
   lia
  lia
 ·rw [h1]
  unfold Builtin.Str.tooLong;rw [sizeLine_eq];exact decide_eq_false (by lia)
section
variable {X : Cx} {M : Mx}
noncomputable def sQ : R2 := fun x y H Q => ∃ i n, x = .str i ∧ y = .int n ∧ MulOk i n ∧ Q (.str (Txt.mul i n)) H
theorem mD : OpR X (binaryOp .Mult) sQ := by
 intro pins s σ H x y v u Q I rx ry h;obtain ⟨i, n, rfl, rfl, hm, q⟩ := h;obtain ⟨t, rfl⟩ := rx;obtain ⟨t', rfl⟩ := ry;exact SB.mul hm fun t2 k => ⟨.str _, H, I.kept (t' := k) (fun _ _ z => z), ⟨t2, rfl⟩, q⟩
theorem qi (_ : X.K = M.K) : Ok2 M sQ jO := by
 intro x y dx dy F H fp Q s rx ry p;unfold jO at p;split at p
 ·cases rx; cases ry
  split at p
  ·rename_i hc
   exact ⟨_, _, rfl, rfl, qA hc.1 hc.2.1 hc.2.2, OkE.val s p (.str _)⟩
  ·exact p.elim
 ·exact p.elim
theorem AY {pos : Pos} : DE M X (.Dict [] [] pos) eD0 := fun _ _ => peI sd fun _ _ _ q => El q
theorem ES (ρ : Env) : eD0 ρ = .ok (.od []) := rfl
theorem o6 {x : Str} {n : Int} (h1 : x.length = 1) (h2 : 0 ≤ n) (h3 : n ≤ 1000) : jO (.str x) (.int n) = .ok (.sh (.str (Txt.mul x n))) := by
 show (if x.length = 1 ∧ 0 ≤ n ∧ n ≤ 1000 then R.ok (OD.sh (.str (Txt.mul x n))) else .bad) = _
 rw [if_pos ⟨h1, h2, h3⟩]
end
end L3
namespace L3
open PySem L2 PySem.Spec PyProof.Rows
end L3
namespace L3
open PySem L2 PySem.Spec PyProof.Rows PySem.W PySem.Calls
end L3
namespace L2
open PySem PySem.Spec PyProof.Rows
noncomputable def xj (n0 n : Nat) : List Value := (List.range n).map fun j => Value.ref (n0 + j)
structure ZS (h : Heap) (n0 n : Nat) (ls : Nat → Nat) (is : Nat → Nat) (f0 : Value) (arr : List Value) : Prop where
 zp : h.get? (n0 + n + 2) = some { cls := .type "zip", dict := none, data := .fields #[f0, .bool false, .bool false, .ref (n0 + n), .ref (n0 + n + 1)], slots := #[] }
 ti : h.get? (n0 + n) = some { cls := .type "tuple", data := .seq (xj n0 n).toArray }
 to : h.get? (n0 + n + 1) = some { cls := .type "tuple", data := .seq arr.toArray }
 it : ∀ j, j < n → h.IsListIter (n0 + j) (ls j) (is j)
section
variable {prog : Program} {w : World} {A : Around} {E : Value → Shared → Prop} {s : Shared}
end
end L2
namespace L2
open PySem PySem.Spec PyProof.Rows
end L2
namespace L3
open PySem L2 PySem.Spec PyProof.Rows
section
variable {M : Mx} {n : Nat} {F H : Hp} {σ : St} {D : Ends} {R' : It → Hp → Prop} {X : Cx}
end
section
variable {M : Mx} {n : Nat} {F H : Hp} {σ : St} {D : Ends} {R' : It → Hp → Prop} {X : Cx}
end
end L3
namespace L2
open PySem PySem.Spec PyProof.Rows
end L2
namespace L3
open PySem L2 PySem.Spec PyProof.Rows
section
variable {M : Mx} {n : Nat} {F H : Hp} {σ : St} {D : Ends} {X : Cx} {b e : Expr} {fa fb : Fe} {x : Str} {p pos : Pos}
end
end L3
namespace L2
open PySem PySem.Spec PyProof.Rows
section
variable {prog : Program} {w : World} {A : Around} {E : Value → Shared → Prop} {s : Shared}
end
structure ZT (h : Heap) (n0 n : Nat) (ls : Nat → Nat) (is : Nat → Nat) (f0 : Value) (arr : List Value) : Prop where
 zp : h.get? (n0 + n + 2) = some { cls := .type "zip", dict := none, data := .fields #[f0, .bool false, .bool false, .ref (n0 + n), .ref (n0 + n + 1)], slots := #[] }
 ti : h.get? (n0 + n) = some { cls := .type "tuple", data := .seq (xj n0 n).toArray }
 to : h.get? (n0 + n + 1) = some { cls := .type "tuple", data := .seq arr.toArray }
 it : ∀ j, j < n → h.IsTupleIter (n0 + j) (ls j) (is j)
section
variable {prog : Program} {w : World} {A : Around} {E : Value → Shared → Prop} {s : Shared}
end
end L2
namespace L2
open PySem PySem.Spec PyProof.Rows
end L2
namespace L3
open PySem L2 PySem.Spec PyProof.Rows
section
variable {M : Mx} {n : Nat} {F H : Hp} {σ : St} {D : Ends} {R' : It → Hp → Prop} {X : Cx} {a b : Expr} {fa fb : Fe} {pos : Pos}
end
end L3
namespace L3
open PySem L2 PySem.Spec PyProof.Rows
mutual
noncomputable def nol : PyData → Bool
 | .tuple ds => wQ ds
 | .list _ => false
 | .dict _ => false
 | .none => true
 | .bool _ => true
 | .int _ => true
 | .str _ => true
noncomputable def wQ : List PyData → Bool
 | [] => true
 | d :: ds => nol d && wQ ds
end
section
variable {K : PySem.W.Frag} {F H : Hp} {f : List Addr}
mutual
theorem uk (hl : ∀ b ∈ f, ∃ ws, F b = some (.lst ws)) {v : V} {d : PyData} : Rep K F v d → nol d = true → Rep K (vZ F f) v d
 | .non, _ => .non
 | .bl b, _ => .bl b
 | .int i, _ => .int i
 | .str x, _ => .str x
 | .lst _ _, e => by rw [nol] at e; cases e
 | .dct _ _ _, e => by unfold dD at e; rw [nol] at e; cases e
 | .tup (a := a) h1 h2, e => by
  rw [nol] at e;refine .tup ?_ (lK hl h2 e);rw [uu fun m => by
   obtain ⟨ws, q⟩ := hl a m;rw [h1] at q;cases q]
  exact h1
theorem lK (hl : ∀ b ∈ f, ∃ ws, F b = some (.lst ws)) {vs : List V} {ds : List PyData} : RepAll K F vs ds → wQ ds = true → RepAll K (vZ F f) vs ds
 | .nil, _ => .nil
 | .cons h r, e => by
  rw [wQ, Bool.and_eq_true] at e;exact .cons (uk hl h e.1) (lK hl r e.2)
end
end
section
variable {M : Mx} {n : Nat} {σ : L2.St} {H : Hp} {Q : VK}
end
section
variable {M : Mx} {X : Cx} {e : Expr} {fa fb : Fe}
end
end L3
namespace L2
open PySem PySem.Spec PyProof.Rows
section
variable {prog : Program} {w : World} {A : Around} {E : Value → Shared → Prop} {s : Shared}
end
section
variable {prog : Program} {w : World} {A : Around} {E : Value → Shared → Prop} {s : Shared}
end
end L2
namespace L2
open PySem PySem.Spec PyProof.Rows
section
variable {prog : Program} {w : World} {A : Around} {E : Value → Shared → Prop} {s : Shared}
end
structure LZ (X : Cx) (H0 H : Hp) (xs ys : List V) (Ts : List Addr) : Prop where
 up : aN H0 H
 new : ∀ c o, H c = some o → H0 c = some o ∨ c ∈ Ts
 free : ∀ T ∈ Ts, H0 T = none
 tup : ∀ (j : Nat) (T : Addr), Ts[j]? = some T → ∃ x y, xs[j]? = some x ∧ ys[j]? = some y ∧ H T = some (.tup [x, y])
end L2
namespace L2
open PySem PySem.Spec PyProof.Rows
theorem jo : ∀ Ts : List Addr, Vals (Ts.map V.ref) (Ts.map Value.ref)
 | [] => .nil
 | _ :: Ts => .cons rfl (jo Ts)
end L2
namespace L3
open PySem L2 PySem.Spec PyProof.Rows
section
variable {M : Mx} {X : Cx}
open Classical in
end
end L3
namespace L3
open PySem L2 PySem.Spec PyProof.Rows
noncomputable def CXE (P : Program) (w : World) : CXT := fun outer H s E e s' => ∃ (ea : Addr) (cls a0 : Value) (B : Heap) (H' : Hp),
 e = .ref ea ∧ s'.os = s.os ∧ AllBare s'.gens ∧ Un (frs outer) [] H H' s.heap s'.heap ∧ HOk P w H' s'.heap ∧ Heap.FlyingW B outer ea cls a0 s'.heap ∧
 (∀ b o, s'.heap.get? b = some o → b ∉ frs outer → (H' b ≠ none ∨ s.heap.get? b ≠ none) → B.get? b = some o) ∧ E cls none H'
theorem gE {env : PySem.Env} {L : Addr} {outer : List PySem.Env} (h : env.frame = some L) : frs (env :: outer) = L :: frs outer := by
 unfold frs;rw [List.filterMap_cons, h]
theorem lH {P : Program} {w : World} {H : Hp} {h : Heap} {a : Addr} {o : HO} (x : dw P w H h a o) : ∃ u, h.get? a = some u := by
 cases o with
 | lst xs => obtain ⟨_, _, _, _, e⟩ := x; exact ⟨_, e⟩
 | tup xs => obtain ⟨_, _, _, _, e, _⟩ := x; exact ⟨_, e⟩
 | dK kvs => obtain ⟨_, _, _, _, o, _, _, e, _⟩ := x; exact ⟨_, e⟩
 | dT kvs => obtain ⟨_, _, _, _, o, _, _, e, _⟩ := x; exact ⟨_, e⟩
 | set S n => obtain ⟨o, _, _, _, e, _⟩ := x; exact ⟨_, e⟩
 | ins C dx fs => obtain ⟨_, _, _, e, _⟩ := x; exact ⟨_, e⟩
 | own y => exact x
 | xd fs => obtain ⟨_, ⟨_, _, _, e, _⟩, _⟩ := x; exact ⟨_, e⟩
 | rng lo hi => obtain ⟨_, _, _, e⟩ := x; exact ⟨_, e⟩
 | frz ob u => exact ⟨_, x.1⟩
 | tbl ps => exact ⟨_, (show h.get? a = some _ from x)⟩
 | met f y => exact ⟨_, (show h.get? a = some _ from x)⟩
 | ext φ => exact x.2.1
section
variable {X : Cx} {pins : List (Addr × Obj)} {σ : St} {H' : Hp} {s' : Shared} {B h'' : Heap}
theorem jj (J : Inv X pins σ H' s') (hst : X.stack = X.env :: X.outer) (hfr : X.env.frame = some X.env.locals) (hex : X.ex = []) (up : s'.heap.UpToSlots h'') (stay : B.StaysIn h'')
  (cov : ∀ b o, s'.heap.get? b = some o → b ∉ frs X.stack → (H' b ≠ none ∨ X.s₀.heap.get? b ≠ none) → B.get? b = some o) :
  Un (frs X.outer) [] X.H₀ H' X.s₀.heap h'' ∧ HOk X.prog X.w H' h'' ∧ ∀ b o, h''.get? b = some o → b ∉ frs X.outer → (H' b ≠ none ∨ X.s₀.heap.get? b ≠ none) → B.get? b = some o := by
 have nb : ∀ b o, X.s₀.heap.get? b = some o → b ≠ X.env.locals := fun b o q => Nat.ne_of_lt (Nat.lt_of_lt_of_le (Heap.lt_size q) J.ok.above)
 have ns : ∀ b, b ∉ frs X.outer → b ≠ X.env.locals → b ∉ frs X.stack := fun b h1 h2 => by
  rw [hst, gE hfr];exact fun m => (List.mem_cons.mp m).elim h2 h1
 have nx : ∀ b, b ∉ X.ex := fun b => by rw [hex]; simp
 have tr : ∀ b, H' b ≠ none → b ∉ frs X.stack := fun b n m => n (J.stkFree b m)
 have old : ∀ b o, X.s₀.heap.get? b = some o → b ∉ frs X.outer → ∀ o', s'.heap.get? b = some o' → h''.get? b = some o' := fun b o q n o' q' =>
  stay b o' (cov b o' q' (ns b n (nb b o q)) (.inr (by rw [q]; simp)))
 have fr : ∀ b o, b ∈ frs X.outer → s'.heap.get? b = some o → ∃ sl, h''.get? b = some { o with slots := sl } := fun b o m q => by
  have m' : b ∈ frs X.stack := by rw [hst, gE hfr]; exact List.mem_cons_of_mem _ m
  obtain ⟨_, o', q', nf⟩ := J.stack.mem m';rw [q] at q';cases q';exact up b o q nf
 refine ⟨⟨fun b o q n hb _ => ?_, fun b o q n hb _ => ?_, fun b o q n _ => J.base.free b o q n (nx b), fun b o q _ => ?_, J.base.tups, J.base.frzs, J.base.tbls⟩, fun b u e => ?_, fun b o q n hc => ?_⟩
 ·exact old b o q hb o (J.base.keep b o q n hb (nx b))
 ·obtain ⟨sl, e1⟩ := J.base.slot b o q n hb (nx b)
  obtain ⟨sl', e2⟩ := fr b _ hb e1;exact ⟨sl', e2⟩
 ·obtain ⟨o', e1⟩ := J.base.there b o q (nx b)
  by_cases hb : b ∈ frs X.outer
  ·obtain ⟨sl', e2⟩ := fr b _ hb e1
   exact ⟨_, e2⟩
  ·exact ⟨o', old b o q hb o' e1⟩
 ·refine (J.hok b u e).stay (fun c v hc q => stay c v (cov c v q (tr c ?_) (.inl ?_))) (fun _ q => q) fun _ _ q => q
  ·rcases hc with rfl | hc
   ·rw [e]; simp
   ·rw [hc]; simp
  ·rcases hc with rfl | hc
   ·rw [e]; simp
   ·rw [hc]; simp
 ·have ex : ∃ o', s'.heap.get? b = some o' := by
   rcases hc with hc | hc
   ·cases z : H' b with
    | none => exact absurd z hc
    | some u => exact lH (J.hok b u z)
   ·cases z : X.s₀.heap.get? b with
    | none => exact absurd z hc
    | some u => exact J.base.there b u z (nx b)
  obtain ⟨o', e1⟩ := ex;have nl : b ≠ X.env.locals := by
   rcases hc with hc | hc
   ·exact fun z => hc (z ▸ J.free)
   ·cases z : X.s₀.heap.get? b with
    | none => exact absurd z hc
    | some u => exact nb b u z
  have e2 := cov b o' e1 (ns b n nl) hc;have e3 := stay b o' e2;rw [q] at e3;cases e3;exact e2
end
noncomputable def Lv (X : Cx) (E : XK) : Prop := X.stack = X.env :: X.outer ∧ X.env.frame = some X.env.locals ∧ X.ex = [] ∧
 ∀ (e : Value) (s' : Shared), wpAny (model X.prog X.w) X.A (leaving X.env e) (fun _ s'' => CXE X.prog X.w X.outer X.H₀ X.s₀ E e s'') (fun e' s'' => CXE X.prog X.w X.outer X.H₀ X.s₀ E e' s'') s' → X.xe e s'
theorem Lv.of {P : Program} {w : World} {K : PySem.W.Frag} {mg : Str → Option Value} {base : Heap} {N : List Str} {qual : Str} {scope : Scope} {f : Addr} {cd : Value} {A : Around} {outer : List PySem.Env} {s : Shared} {H : Hp} {E : XK} :
  Lv (jZ (CXE P w) P w K mg base N qual scope f cd A outer s H E) E := ⟨rfl, rfl, rfl, fun _ _ h => h⟩
section
variable {X : Cx} {E : XK} {pins : List (Addr × Obj)} {σ : St} {H : Hp} {s s' : Shared} {e : Value}
theorem Lv.made (L : Lv X E) (I : Inv X pins σ H s) {h' : Heap} {e C : Addr} {args : List Value} (hx : Heap.MadeExcOf s.heap h' e (.ref C) args) (hE : E (.ref C) none H) : X.xe (.ref e) { s with heap := h' } := by
 obtain ⟨hst, hfr, hex, hxe⟩ := L;refine hxe _ _ ?_;have hin : ∀ env ∈ (X.env :: X.outer), ∀ b, env.frame = some b → b ∈ frs (X.env :: X.outer) := fun env he b hb => List.mem_filterMap.mpr ⟨env, he, hb⟩
 have fr := I.stack;rw [hst] at fr;refine wpAny_leaves_madeW (base := PySem.W.hideAll s.heap (frs (X.env :: X.outer))) (by rw [← hst]; exact I.ok.frames) hfr (fun b o q => PySem.W.of_hideAll _ q) (PySem.W.funFrames_hide fr hin) hx fun h'' t fl _ _ up => ?_
 have up' : s.heap.UpToSlots h'' := (Heap.UpToSlots.of_keeps hx.keeps).trans up;obtain ⟨u1, u2, u3⟩ := jj I hst hfr hex up' fl.1 fun b o q n _ => PySem.W.hideAll_get _ q (by rw [← hst]; exact n)
 exact ⟨e, _, _, _, H, rfl, I.os, I.bare, u1, u2, fl, u3, hE⟩
end
end L3
namespace L3
open PySem L2 PySem.Spec PyProof.Rows
noncomputable abbrev vE : List Value := [.type "ValueError", .type "Exception", .type "BaseException", .type "object"]
noncomputable abbrev vN : String := "ValueError.__new__"
theorem gP {K : PySem.W.Frag} {h : Heap} {C : Addr} (X : K.In h) (q : PySem.W.excIn K C vE vN = true) :
  ∃ mr N y1 y2 y3 y4 y5 y6 y7 y8 y9 z0 z1 z2 z3 z5 mN, h.get? C = some (excClassObj y1 y2 C N y3 mr y4 y5 y6 y7 y8 y9 z0 z1 z2 z3 z5 vN) ∧ h.Ns N mN ∧ mN "__init__" = none ∧ OwnTail h vE mr := by
 unfold PySem.W.excIn at q;split at q
 case h_2 => cases q
 case h_1 y9 cd sl hl =>
  split at q
  case h_2 => cases q
  case h_1 C1 mr z0 z1 z2 z3 z4 z5 e1 e2 =>
   simp only [Bool.and_eq_true, beq_iff_eq, Bool.not_eq_true'] at q;obtain ⟨⟨⟨⟨⟨c1, c2⟩, c3⟩, c4⟩, c5⟩, c6⟩ := q;cases c1;cases c2;cases cd with
   | mk y1 y3 m0 N y2 y4 y5 y6 y7 y8 dl =>
    dsimp only at e1 c3 c5 c6
    cases e1;cases c3;cases sl with
    | mk ls =>
     dsimp only at e2
     cases e2;exact ⟨mr, N, y1, y2, y3, y4, y5, y6, y7, y8, y9, z0, z1, z2, z3, z5, _, X _ _ hl, .of_isNs (PySem.W.isNs_of_in X c5), PySem.W.nsMap_none_of_in X c5 c6, PySem.W.tail_of_in X c4⟩
noncomputable def gc (c : Str) : Fs := fun _ => .ex c
section
variable {M : Mx} {X : Cx} {x t : Str} {j : Nat} {np cpos pos p2 : Pos}
theorem r_ {C : Addr} (L : Lv X M.E) (hc : X.calm = true) (hg : Gl X x) (hm : M.mg x = some (.ref C)) (hk : PySem.W.excIn M.K C vE vN = true) (hd : (x == ("__debug__" : Str)) = false := by decide)
  (hs : starEach [.Constant (.str t) j p2] X.env = (false, eval (.Constant (.str t) j p2) X.env) :: starEach [] X.env := by rfl) :
  DS M X (.Raise (some (.Call (.Name x np) [.Constant (.str t) j p2] [] cpos)) none pos) (gc x) := fun hK hM pins s σ H D I q => by
 obtain ⟨F, ρ, fp, S, cv, e1, e2⟩ := q;rw [hm] at e1;cases e1;have hE := e2 none H fun _ _ z _ => z
 rw [← hK] at hk;obtain ⟨mr, N, y1, y2, y3, y4, y5, y6, y7, y8, y9, z0, z1, z2, z3, z5, mN, hC, hN, hni, T⟩ := gP I.mod.kin hk;refine wpAny_Raise_call_subU (C := C) (nm := y1) (q := y2) (N := N) (bs := y3) (bm := mr) (hdct := y4) (sn := y5) (sub := y6) (ab := y7) (col := y8) (dd := y9) (k0 := z0) (k1 := z1) (k2 := z2) (k3 := z3) (k5 := z5)
  PySem.F.excBase_ValueError (by decide) PySem.F.excBase_ValueError (mN := mN) (T.hasType PySem.F.excBase_ValueError.hasBase) (I.ok.hd hc) (by rw [hs]; rfl) hni (fC I hg (by rw [hM]; exact hm) ⟨rfl, ?_⟩ hd)
 have ha : PA X [.Constant (.str t) j p2] _ := de nq fY hs;have hw := ha cpos pins s σ H (fun vs H' => H' = H ∧ vs.length ≤ sizeLine) I ⟨rfl, show 1 ≤ sizeLine by decide⟩
 rw [hs] at hw ⊢;refine Calls.evalArgs_plain (wpAny_mono hw (fun us s2 hz => ?_) fun _ _ y => y)
 obtain ⟨vs, H2, I2, r2, rfl, hl⟩ := hz;exact ⟨rfl, by rw [← r2.length]; exact hl, I2.bk _ _ hC, hN.keeps I2.bk, T.keeps I2.bk, fun h' e hx => L.made I2 hx hE⟩
end
end L3
namespace L3
open PySem L2 PySem.Spec PyProof.Rows Builtin Builtin.ObjectAttr Builtin.Getset_descriptor
structure ExcK (K : PySem.W.Frag) (C : Addr) : Prop where
 ex : PySem.W.excIn K C vE vN = true
 ga : PySem.W.findIn K (.ref C) "__getattribute__" = some (some (.builtin "BaseException.__getattribute__"))
 ca : PySem.W.findIn K (.ref C) "__class__" = some (some (.builtin "object.__class__"))
 ng : PySem.W.findIn K (.ref C) "__getattr__" = some none
 mo : PySem.W.mroIn K C (.type "object") = some true
section
variable {prog : Program} {w : World} {A : Around} {E : Value → Shared → Prop} {h : Heap} {g : Array GenState} {d : Drawn} {t : Nat} {os : OsState} {a C : Addr} {o : Obj} {K : PySem.W.Frag}
theorem Al {tp : Value} {R : Result → Shared → Prop} (Z : ExcK K C) (X : K.In h) (hx : h.get? a = some o) (hc : o.cls = .ref C) (hq : R (.ok (.ret (.ref C))) ⟨h, g, d, t, os⟩) :
  codeAny (model prog w) A (.call (.builtin "getset_descriptor.__get__") ⟨[.builtin "object.__class__", .ref a, tp], []⟩) R ⟨h, g, d, t, os⟩ := by
 have L0 : PySem.W.Looks (model prog w) h (typeOf (.ref a)) (.ref C) := hc ▸ (PySem.W.Looks.ld hx).andThen .now;have L1 := PySem.W.looks_mroIn (M := model prog w) X Z.mo;refine codeAny_call_builtin PySem.W.KF.slot_gs.plain PySem.W.KF.entry_gs (PySem.W.KF.slot_gs.check _ _ _ _ _ _ _ _ PySem.W.KF.type_class (PySem.W.KF.args_gs _ _ _) ?_);unfold Builtin.«getset_descriptor.__get__» descrGet; rw [PySem.W.dga_obj];refine wpAny_bind (wpAny_pure ?_); unfold descrGetter descrCheckInstance descrNameAndClass isInstance; simp only [PySem.W.KF.owner_class]
 repeat lk
 refine ⟨Code.quiet_builtin _ (by decide +kernel), codeAny_builtin PySem.W.KF.entry_class ?_⟩; unfold Builtin.«object.__class__» shownTypeOf
 repeat lk
 exact hq
theorem t7 {tk : Tok} {Q : Fin → Shared → Prop} (Z : ExcK K C) (X : K.In h) (hx : h.get? a = some o) (hc : o.cls = .ref C) (hq : Q (.done (.ret (.ref C))) ⟨h, g, d, t, os⟩) :
  wpAny (model prog w) A (Builtin.«object.__getattribute__» ⟨[.ref a, .str "__class__" tk], []⟩) Q E ⟨h, g, d, t, os⟩ := by
 have hT : (⟨h, g, d, t, os⟩ : Shared).TypeIs (.builtin "object.__class__") "getset_descriptor" := PySem.F.typeOf_object_class;have f5 := PySem.F.typeOf_object_class;have f6 := PySem.F.slot_gs_get.lookup;have f7 := PySem.F.slot_gs_set.lookup;have L2 := PySem.W.looks_findIn (M := model prog w) X Z.ca
 repeat (any_goals (first | assumption | (with_reducible refine wpAny_loadPart_at hx ?_; rw [hc]) | with_reducible refine L2.at ?_ | wp_step))
 refine Al Z X hx hc ?_
 repeat (any_goals (first | assumption | wp_step))
theorem uw {M : Model} {nameV : Value} {Q : Unit → Shared → Prop} (Z : ExcK K C) (X : K.In h) (hx : h.get? a = some o) (hc : o.cls = .ref C) (hq : Q () ⟨h, g, d, t, os⟩) :
  wpAny M A (checkBuiltinCall "BaseException.__getattribute__" ⟨[.ref a, nameV], []⟩) Q E ⟨h, g, d, t, os⟩ := by
 obtain ⟨mr, N, y1, y2, y3, y4, y5, y6, y7, y8, y9, z0, z1, z2, z3, z5, mN, hC, hN, hni, T⟩ := gP X Z.ex;have k1 : builtinKind "BaseException.__getattribute__" = some .slot := by decide +kernel
 have k2 : splitId "BaseException.__getattribute__" = some ("BaseException", "__getattribute__") := by decide +kernel
 have k3 : (Value.ref C :: mr).contains (.type "BaseException") = true := by
  rw [List.contains_cons, T.hasType PySem.F.excBase_ValueError.hasBase];rfl
 have k4 := PySem.F.args_bexc_ga (.ref a) nameV;simp only [checkBuiltinCall, k1, k2];refine wpAny_bind ?_;unfold isInstance
 repeat (first | (with_reducible refine wpAny_loadPart_at hx ?_; rw [hc]) | (with_reducible refine wpAny_isSubtype_exc hC ?_; rw [k3]) | wp_step)
 exact hq
theorem CC {tk : Tok} {fill expr : Bool} {Q : Value → Shared → Prop} (Z : ExcK K C) (X : K.In h) (hx : h.get? a = some o) (hc : o.cls = .ref C) (hq : Q (.ref C) ⟨h, g, d, t, os⟩) :
  wpAny (model prog w) A (getAttrBy (.ref a) (.str "__class__" tk) fill expr) Q E ⟨h, g, d, t, os⟩ := by
 have FB := PySem.F.attrBase_ValueError;have f3 := FB.ga.bind (.ref a);have n1 : (expr && onTheHeap (Value.builtin "BaseException.__getattribute__")) = false := by cases expr <;> rfl
 have n2 : (Value.builtin "BaseException.__getattribute__" == Value.builtin "object.__getattribute__") = false := by decide +kernel
 have n3 : (onTheHeap (Value.ref C) && Value.builtin "BaseException.__getattribute__" == Value.builtin "object.__getattribute__") = false := by rw [n2]; rfl
 have L1 := PySem.W.looks_findIn (M := model prog w) X Z.ga;have L3 := PySem.W.looks_findIn (M := model prog w) X Z.ng
 repeat (any_goals (first | assumption | (with_reducible refine wpAny_loadPart_at hx ?_; rw [hc]) | with_reducible refine L1.at ?_ | with_reducible refine L3.at ?_ | wp_step))
 refine codeAny_call_builtin FB.ga.plain PySem.F.entry_bexc_ga (uw Z X hx hc (t7 Z X hx hc ?_))
 repeat (any_goals (first | assumption | wp_step))
theorem vT {Q : Option Value → Shared → Prop} (Z : ExcK K C) (X : K.In h) (hx : h.get? a = some o) (hc : o.cls = .ref C) (hq : Q (some (.ref C)) ⟨h, g, d, t + 1, os⟩) :
  wpAny (model prog w) A (getAttr? (.ref a) "__class__") Q E ⟨h, g, d, t, os⟩ := by
 unfold getAttr? getAttrBy?
 repeat (any_goals (first | assumption | with_reducible apply CC Z X hx hc | wp_step))
end
end L3
namespace L3
open PySem L2 PySem.Spec PyProof.Rows
noncomputable def Ed (a C : Addr) (h : Heap) : Prop := ∃ o, h.get? a = some o ∧ o.cls = .ref C
theorem oH {K : PySem.W.Frag} {a C : Addr} (Z : ExcK K C) : PySem.W.KitX K (.ref a) (.ref C) (Ed a C) where
 ty := fun M h _ p => by
  obtain ⟨o, h1, h2⟩ := p;exact h2 ▸ (PySem.W.Looks.ld h1).andThen .now
 it := fun M h X _ => by
  obtain ⟨mr, N, y1, y2, y3, y4, y5, y6, y7, y8, y9, z0, z1, z2, z3, z5, mN, hC, _⟩ := gP X Z.ex;intro A Q E s k q;unfold isType loadHead;exact wpAny_bind (wpAny_loadPart (k _ _ hC) (wpAny_pure q))
 ne := fun h tp dd its n sl X htp => by
  obtain ⟨mr, N, y1, y2, y3, y4, y5, y6, y7, y8, y9, z0, z1, z2, z3, z5, mN, hC, _⟩ := gP X Z.ex;refine Bool.eq_false_iff.mpr fun q => ?_
  have e : C = tp := Value.ref.inj (beq_iff_eq.mp q);rw [← e, hC] at htp;have y := congrArg Obj.data (Option.some.inj htp);cases y
 ca := fun {prog w A E Q s} X p k => by
  obtain ⟨o, h1, h2⟩ := p;obtain ⟨h, g, d, t, os⟩ := s;exact vT Z X h1 h2 k
section
variable {M : Model} {A : Around} {E : Value → Shared → Prop} {h : Heap} {g : Array GenState} {d : Drawn} {t : Nat} {os : OsState} {e C D : Addr} {o : Obj} {K : PySem.W.Frag}
theorem uc {b : Bool} {Q : Bool → Shared → Prop} (X : K.In h) (hD : PySem.W.excIn K D vE vN = true) (hs : PySem.W.subIn K (.ref C) (.ref D) = some b) (he : h.get? e = some o) (hc : o.cls = .ref C) (hq : Q b ⟨h, g, d, t, os⟩) :
  wpAny M A (excMatches (.ref e) (.ref D)) Q E ⟨h, g, d, t, os⟩ := by
 obtain ⟨mr, N, y1, y2, y3, y4, y5, y6, y7, y8, y9, z0, z1, z2, z3, z5, mN, hd, hN, hni, T⟩ := gP X hD;have hB : (Value.ref D :: mr).contains (.type "BaseException") = true := by
  rw [List.contains_cons, T.hasType PySem.F.excBase_ValueError.hasBase, Bool.or_true]
 have f := tc_notTuple;have LS := PySem.W.looks_subIn (M := M) X hs;unfold excMatches
 repeat (first | (with_reducible refine wpAny_loadPart_at he ?_; rw [hc]) | with_reducible refine LS.at ?_ | with_reducible refine wpAny_loadPart_at hd ?_ | (with_reducible refine wpAny_isSubtype_exc hd ?_; rw [hB]) | wp_step)
 cases b <;> (wp_walk; exact hq)
end
noncomputable def cxM (X : Cx) (ea : Addr) (oe : Obj) : Cx := { X with A := X.A.mark (some (.ref ea)), calm := false, xe := fun _ _ => False, pn := (ea, oe) :: X.pn }
section
variable {X : Cx} {ea : Addr} {oe : Obj} {pins : List (Addr × Obj)} {σ : St} {H : Hp} {s : Shared}
theorem pM (I : Inv X pins σ H s) (hp : s.heap.get? ea = some oe ∧ H ea = none ∧ ea ≠ X.env.locals ∧ ea ∉ X.fs ∧ ∀ v, oe.data ≠ .cell v) : Inv (cxM X ea oe) pins σ H s :=
  ⟨⟨I.ok.mod, I.ok.kind, I.ok.glob, I.ok.blt, I.ok.above, I.ok.inj, I.ok.has, I.ok.cab, fun z => (by cases z), I.ok.frames, I.ok.stk, I.ok.exf, I.ok.bs, I.ok.bsz, I.ok.noex, I.ok.exfs, I.ok.funs, I.ok.frf⟩,
    I.os, I.bare, I.base, I.loc, I.cell, I.free, I.freeC, fun p m => by
      rcases List.mem_cons.mp (show p ∈ (ea, oe) :: (X.pn ++ pins) from m) with rfl | m
      · exact hp
      · exact I.pin p m, I.hok, I.len⟩
theorem kS (hc : X.calm = true → X.A.handled = none) (hf : X.A.frames = some X.stack) (I : Inv (cxM X ea oe) pins σ H s) : Inv X pins σ H s :=
  ⟨⟨I.ok.mod, I.ok.kind, I.ok.glob, I.ok.blt, I.ok.above, I.ok.inj, I.ok.has, I.ok.cab, hc, hf, I.ok.stk, I.ok.exf, I.ok.bs, I.ok.bsz, I.ok.noex, I.ok.exfs, I.ok.funs, I.ok.frf⟩,
    I.os, I.bare, I.base, I.loc, I.cell, I.free, I.freeC, fun p m => I.pin p (List.mem_cons_of_mem _ m), I.hok, I.len⟩
end
noncomputable def tB (P : St → Prop) (b : Bool) : TE := fun σ H Q => P σ ∧ ∀ H', aN H H' → Q (.bl b) H'
noncomputable def tBs (P : St → Prop) (j : Nat) (b : Bool) : TS := fun D σ H => P σ ∧ ∀ H', aN H H' → D.nx (σ.set j (some (.bl b))) H'
section
variable {X : Cx} {P : St → Prop} {a b e : Expr} {c d : Bool} {pos p p2 p3 : Pos} {i j : Nat} {x y : Str}
theorem jl {v : Bool} (ha : PE X a (tB P c)) (hb : PE X b (tB P d)) (hv : (c && d) = v := by rfl) : PE X (.BoolOp .And [a, b] pos) (tB P v) := hv ▸ peI (tQ ha (rV hb)) fun σ H Q q => by
 refine ⟨q.1, fun H1 s1 => ⟨c, rfl, ?_⟩⟩
 cases c with
 | true => exact ⟨q.1, fun H2 s2 => q.2 H2 (s1.trans s2)⟩
 | false => exact q.2 H1 s1
theorem mT {v : Bool} (ha : PE X a (tB P c)) (hv : (!c) = v := by rfl) : PE X (.UnaryOp .Not a pos) (tB P v) := hv ▸ peI (rK ha) fun σ H Q q => ⟨q.1, fun H1 s1 => ⟨c, rfl, q.2 H1 s1⟩⟩
theorem vm {k : Nat} : PE X (.Constant (.bool true) k pos) (tB P true) := peI xJ fun σ H Q q => q.2 H (aN.refl _)
theorem mS (hP : ∀ σ, P σ → σ[j]? = some (some (.bl c))) (hN : X.N[j]? = some x) (hv : Vis X.env.scope x) (hd : (x == ("__debug__" : Str)) = false := by decide) (hcd : (x == ("__classdict__" : Str)) = false := by decide) :
  PE X (.Name x pos) (tB P c) := peI (ic hN hv hd hcd) fun σ H Q q => ⟨_, hP σ q.1, q.2 H (aN.refl _)⟩
theorem iS (hN : X.N.Nodup) (hj : X.N[j]? = some x) (hx : Loc X.env.scope x) (he : PE X e (tB P c)) (hs : swapsWith e (some (.Name x p)) pos.line X.env = pure false := by rfl)
  (hf : X.fn x = true ∨ X.env.scope.names.lookup x = some .local := by first | exact .inl rfl | exact .inr rfl | assumption) : PS X (.Assign [.Name x p] e pos) (tBs P j c) :=
 psI (uD hN hj hx he hs hf) fun D σ H q => ⟨q.1, fun H1 s1 => q.2 H1 s1⟩
theorem oX {st : Stmt} (h : PS X st (tBs P j c)) : PSs X [st] (tBs P j c) := pU h
theorem j5 {st : Stmt} {rest : List Stmt} {P' : St → Prop} (h : PS X st (tBs P j c)) (k : PSs X rest (tBs P' j d)) (hp : ∀ σ, P σ → P' (σ.set j (some (.bl c)))) : PSs X (st :: rest) (tBs P j d) :=
 zK (nQ h k) fun D σ H q => ⟨q.1, fun H1 s1 => ⟨hp σ q.1, fun H2 s2 => by
  rw [List.set_set];exact q.2 H2 (s1.trans s2)⟩⟩
noncomputable def Pe (i : Nat) (ea : Addr) (j : Nat) (σ : St) : Prop := σ[i]? = some (some (.ref ea)) ∧ j < σ.length ∧ i ≠ j
noncomputable def Pb (i : Nat) (ea : Addr) (j : Nat) (c : Bool) (σ : St) : Prop := Pe i ea j σ ∧ σ[j]? = some (some (.bl c))
theorem sM {ea : Addr} (σ : St) (h : Pe i ea j σ) : Pb i ea j c (σ.set j (some (.bl c))) := by
 obtain ⟨h1, h2, h3⟩ := h;refine ⟨⟨?_, by rw [List.length_set]; exact h2, h3⟩, ?_⟩
 ·rw [List.getElem?_set_ne (Ne.symm h3)]
  exact h1
 ·rw [List.getElem?_set_self h2]
theorem xA {ea : Addr} {c' : Bool} (σ : St) (h : Pb i ea j c' σ) : Pb i ea j c (σ.set j (some (.bl c))) := sM σ h.1
theorem ml {ea C : Addr} {oe : Obj} (Z : ExcK X.K C) (hp : (ea, oe) ∈ X.pn) (ho : oe.cls = .ref C) :
  ee X (.builtin "isinstance") (fun xs H Q => ∃ v b, xs = [.ref ea, v] ∧ ((∃ u, RelV v u ∧ (∀ u', RelV v u' → u' = u) ∧ PySem.W.kitOne X.K (.ref C) u = some b) ∨
   ∃ p vs us, v = .ref p ∧ H p = some (.tup vs) ∧ (∀ us', Vals vs us' → us' = us) ∧ PySem.W.kitAny X.K (.ref C) us = some b) ∧ Q (.bl b) H) := by
 intro pins s σ H xs us Q I r h;obtain ⟨v, b, rfl, h1, q⟩ := h;obtain ⟨u1, u2, rfl, ru, rv⟩ := Vals.two r;cases (show u1 = Value.ref ea from ru)
 have fin : ∀ tk, EP X pins σ Q (.bool b) { s with toks := tk } := fun tk => ⟨.bl b, H, I.tok tk, rfl, q⟩
 have hx : Ed ea C s.heap := ⟨oe, (I.pin _ (List.mem_append_left _ hp)).1, ho⟩;rcases h1 with ⟨u, r1, r2, e⟩ | ⟨p, vs, ws, rfl, hv, r2, e⟩
 ·cases r2 _ rv
  exact PySem.W.kia_one (oH Z) I.kIn hx e (fun z => nomatch z) fin
 ·cases (show u2 = Value.ref p from rv)
  obtain ⟨_, its, k1, o, k2, k3, n, k4⟩ := (show dw X.prog X.w H s.heap p (.tup vs) from I.hok p _ hv)
  cases r2 _ k1;obtain ⟨oc, od, odt, osl⟩ := o;cases k3;cases k4;exact PySem.W.kia_tup (oH Z) I.kIn hx k2 e (fun z => nomatch z) fin
end
end L3
namespace L3
open PySem L2 PySem.Spec PyProof.Rows
noncomputable def tCs (Ds : List Addr) : TA := fun _ H Q => Q (Ds.map V.ref) H
theorem jo : ∀ (Ds : List Addr) (us : List Value), Vals (Ds.map V.ref) us → us = Ds.map Value.ref := by
 intro Ds
 induction Ds with
 | nil => exact fun us h => Vals.zero h
 | cons D r ih =>
  intro us h;cases h with
  | cons q t =>
   rw [List.map_cons, ih _ t];exact congrArg (· :: _) (show _ = Value.ref D from q)
structure Xs (X : Cx) (C ea : Addr) (oe : Obj) : Prop where
 k : ExcK X.K C
 pin : (ea, oe) ∈ X.pn
 ob : oe.cls = .ref C
section
variable {X : Cx} {P : St → Prop} {es : List Expr} {c : Bool} {pos p p2 p3 : Pos} {i j x1 : Nat} {x y : Str} {C ea D : Addr} {oe : Obj} {Ds : List Addr}
theorem pZ : PA X [] (tCs []) := fY
theorem g5 (hg : Gl X x) (hm : X.mg x = some (.ref D)) (h : PA X es (tCs Ds)) (hd : (x == ("__debug__" : Str)) = false := by decide) (hs : starEach (.Name x p :: es) X.env = (false, eval (.Name x p) X.env) :: starEach es X.env := by rfl) :
  PA X (.Name x p :: es) (tCs (D :: Ds)) := fun ps pins s σ H Q I q => de (kd (v := .ref D) hg hm rfl hd) h hs ps pins s σ H Q I q
theorem pF (Z : Xs X C ea oe) (hP : ∀ σ, P σ → σ[i]? = some (some (.ref ea))) (hN : X.N[i]? = some y) (hv : Vis X.env.scope y) (hgi : Gl X "isinstance") (hmi : X.mg "isinstance" = none) (hg : Gl X x) (hm : X.mg x = some (.ref D))
  (e : PySem.W.kitOne X.K (.ref C) (.ref D) = some c) (hd : (x == ("__debug__" : Str)) = false := by decide) (hdy : (y == ("__debug__" : Str)) = false := by decide) (hcd : (y == ("__classdict__" : Str)) = false := by decide)
  (hs1 : starEach [.Name y p2, .Name x p3] X.env = (false, eval (.Name y p2) X.env) :: starEach [.Name x p3] X.env := by rfl) (hs2 : starEach [.Name x p3] X.env = (false, eval (.Name x p3) X.env) :: starEach [] X.env := by rfl)
  (hpl : (backTo pos (starEach [.Name x p3] X.env)).any (·.1) = false := by rfl) :
  PE X (.Call (.Name "isinstance" p) [.Name y p2, .Name x p3] [] pos) (tB P c) :=
 peI (h9 (ml Z.k Z.pin Z.ob) hgi hmi dG (de (ic hN hv hdy hcd) (de (kd (v := .ref D) hg hm rfl hd) fY hs2) hs1) (by decide) (by decide) hs1 hpl) fun σ H Q q =>
  ⟨_, hP σ q.1, _, c, rfl, .inl ⟨.ref D, rfl, fun _ h => h, e⟩, q.2 H (aN.refl _)⟩
theorem qv {T : String} (Z : Xs X C ea oe) (hP : ∀ σ, P σ → σ[i]? = some (some (.ref ea))) (hN : X.N[i]? = some y) (hv : Vis X.env.scope y) (hgi : Gl X "isinstance") (hmi : X.mg "isinstance" = none) (hg : Gl X x) (hm : X.mg x = none) (hT : bootBuiltins x = some (.type T))
  (e : PySem.W.kitOne X.K (.ref C) (.type T) = some c) (hn : x ≠ "__name__" := by decide) (hd : (x == ("__debug__" : Str)) = false := by decide) (hdy : (y == ("__debug__" : Str)) = false := by decide) (hcd : (y == ("__classdict__" : Str)) = false := by decide)
  (hs1 : starEach [.Name y p2, .Name x p3] X.env = (false, eval (.Name y p2) X.env) :: starEach [.Name x p3] X.env := by rfl) (hs2 : starEach [.Name x p3] X.env = (false, eval (.Name x p3) X.env) :: starEach [] X.env := by rfl)
  (hpl : (backTo pos (starEach [.Name x p3] X.env)).any (·.1) = false := by rfl) :
  PE X (.Call (.Name "isinstance" p) [.Name y p2, .Name x p3] [] pos) (tB P c) :=
 peI (h9 (ml Z.k Z.pin Z.ob) hgi hmi dG (de (ic hN hv hdy hcd) (de (pQ (v := V.ty T) hg hm hT rfl hn hd) fY hs2) hs1) (by decide) (by decide) hs1 hpl) fun σ H Q q =>
  ⟨_, hP σ q.1, _, c, rfl, .inl ⟨.type T, rfl, fun _ h => h, e⟩, q.2 H (aN.refl _)⟩
theorem ka (Z : Xs X C ea oe) (hP : ∀ σ, P σ → σ[i]? = some (some (.ref ea))) (hN : X.N[i]? = some y) (hv : Vis X.env.scope y) (hgi : Gl X "isinstance") (hmi : X.mg "isinstance" = none) (ht : PA X es (tCs Ds)) (hl : Ds.length ≤ 9)
  (e : PySem.W.kitAny X.K (.ref C) (Ds.map Value.ref) = some c) (hdy : (y == ("__debug__" : Str)) = false := by decide) (hcd : (y == ("__classdict__" : Str)) = false := by decide)
  (hs1 : starEach [.Name y p2, .Tuple es x1 p3] X.env = (false, eval (.Name y p2) X.env) :: starEach [.Tuple es x1 p3] X.env := by rfl) (hs2 : starEach [.Tuple es x1 p3] X.env = (false, eval (.Tuple es x1 p3) X.env) :: starEach [] X.env := by rfl)
  (hpl : (backTo pos (starEach [.Tuple es x1 p3] X.env)).any (·.1) = false := by rfl) :
  PE X (.Call (.Name "isinstance" p) [.Name y p2, .Tuple es x1 p3] [] pos) (tB P c) :=
 peI (h9 (ml Z.k Z.pin Z.ob) hgi hmi dG (de (ic hN hv hdy hcd) (de (tK ht) fY hs2) hs1) (by decide) (by decide) hs1 hpl) fun σ H Q q =>
  ⟨_, hP σ q.1, by rw [List.length_map]; exact Nat.le_trans hl (by decide), fun p hp => ⟨_, c, rfl, .inr ⟨p, _, _, rfl, cm, jo Ds, e⟩, q.2 _ fun a o z => by rw [aQ (a9 z hp)]; exact z⟩⟩
end
section
variable {P : Program} {w : World} {fs : List Addr} {H1 H' : Hp} {h1 hs h5 B : Heap}
theorem uK (un : Un fs [] H1 H' h1 hs) (hok : HOk P w H' hs) (stay : B.StaysIn h5) (up : hs.UpToSlots h5) (cov : ∀ b o, hs.get? b = some o → b ∉ fs → (H' b ≠ none ∨ h1.get? b ≠ none) → B.get? b = some o)
  (hf : ∀ b ∈ fs, ∀ o, hs.get? b = some o → ∀ vs, o.data ≠ .fields vs) (hn : ∀ b ∈ fs, H' b = none) : Un fs [] H1 H' h1 h5 ∧ HOk P w H' h5 := by
 refine ⟨⟨fun b o q n hb hx => ?_, fun b o q n hb hx => ?_, un.free, fun b o q hx => ?_, un.tups, un.frzs, un.tbls⟩, fun b u e => ?_⟩
 ·exact stay b o (cov b o (un.keep b o q n hb hx) hb (.inr (by rw [q]; simp)))
 ·obtain ⟨sl, e1⟩ := un.slot b o q n hb hx
  obtain ⟨sl', e2⟩ := up b _ e1 (hf b hb _ e1);exact ⟨sl', e2⟩
 ·obtain ⟨o', e1⟩ := un.there b o q hx
  by_cases hb : b ∈ fs
  ·obtain ⟨sl', e2⟩ := up b _ e1 (hf b hb _ e1)
   exact ⟨_, e2⟩
  ·exact ⟨o', stay b o' (cov b o' e1 hb (.inr (by rw [q]; simp)))⟩
 ·have tr : ∀ c, H' c ≠ none → ∀ v, hs.get? c = some v → h5.get? c = some v := fun c hc v q => stay c v (cov c v q (fun m => hc (hn c m)) (.inl hc))
  refine (hok b u e).stay (fun c v hc q => tr c ?_ v q) (fun _ q => q) fun _ _ q => q
  rcases hc with rfl | hc
  ·rw [e]; simp
  ·rw [hc]; simp
end
end L3
namespace L3
open PySem L2 PySem.Spec PyProof.Rows
section
variable {X : Cx} {pins : List (Addr × Obj)} {σ : St} {H : Hp} {s : Shared} {i : Nat} {n : Str}
theorem qE {M : Model} {A : Around} {E : Value → Shared → Prop} {v : V} {Q : Unit → Shared → Prop} (I : Inv X pins σ H s) (hN : X.N.Nodup) (hi : X.N[i]? = some n) (hl : X.env.scope.names.lookup n = some .local) (hv : σ[i]? = some (some v))
  (h : ∀ s', Inv X pins (σ.set i none) H s' → Q () s') : wpAny M A (unbindName X.env n) Q E s := by
 obtain ⟨m, hn, hm⟩ := id I.loc;have cne := I.cne;have hp : (X.env.scope.kind == .class || (X.env.scope.kind == .module && X.env.locals != X.env.globals)) = false := by rw [I.ok.kind]; rfl
 obtain ⟨u, _, lk⟩ := hm i n v hi hv (.inl hl);have hu : m n = some u := by
  rcases lk with ⟨_, e⟩ | ⟨e, _⟩
  ·exact e
  ·rcases e with e | e
   ·rw [show X.env.kindOf n = some .local from hl] at e; cases e
   ·rw [show X.env.kindOf n = some .local from hl] at e; cases e
 obtain ⟨oL, _, _, hoL, _⟩ := id hn;refine wpAny_unbindName_local hl hn hu hp fun h' u' hn' hs => h _ ?_
 have old : ∀ b o, X.s₀.heap.get? b = some o → b ≠ X.env.locals := fun b o e => Nat.ne_of_lt (Nat.lt_of_lt_of_le (Heap.lt_size e) I.ok.above)
 refine ⟨I.ok, I.os, I.bare, ⟨?_, ?_, I.base.free, ?_, I.base.tups, I.base.frzs, I.base.tbls⟩, ⟨_, hn', ?_⟩, ?_, I.free, I.freeC, ?_, ?_, ?_⟩
 ·exact fun b o e n1 n2 n3 => (hs.2 b (old b o e)).trans (I.base.keep b o e n1 n2 n3)
 ·exact fun b o e n1 n2 n3 => (I.base.slot b o e n1 n2 n3).imp fun sl q => (hs.2 b (old b o e)).trans q
 ·exact fun b o e n1 => (I.base.there b o e n1).imp fun o' q => (hs.2 b (old b o e)).trans q
 ·intro j y v' e1 e2 e3
  by_cases hj : j = i
  ·subst hj
   rw [List.getElem?_set] at e2;split at e2
   ·split at e2 <;> cases e2
   ·rename_i z
    exact absurd rfl z
  ·rw [List.getElem?_set_ne (Ne.symm hj)] at e2
   obtain ⟨w', r', q⟩ := hm j y v' e1 e2 e3;refine ⟨w', r', q.imp (fun z => ⟨z.1, ?_⟩) fun z => ⟨z.1, ?_⟩⟩
   ·have ny : y ≠ n := fun e => hj (kJ hN e1 (e ▸ hi))
    show (if y = n then u' else m y) = some w'
    rw [if_neg ny];exact z.2
   ·obtain ⟨_, c, e, z'⟩ := z
    exact ⟨c, e, z'.sameBut hs (cne y c e)⟩
 ·exact fun y c e => (I.cell y c e).imp fun w' z => z.sameBut hs (cne y c e)
 ·exact fun p m => let ⟨q1, q2, q3, q4, q5⟩ := I.pin p m; ⟨(hs.2 p.1 q3).trans q1, q2, q3, q4, q5⟩
 ·intro b ob e
  refine (I.hok b ob e).stay (fun c w' hc q => (hs.2 c ?_).trans q) (fun _ q => q) fun _ _ q => q
  intro z;subst z;rcases hc with z | hc
  ·rw [← z, I.free] at e; cases e
  ·rw [I.free] at hc; cases hc
 ·rw [List.length_set]
  exact I.len
end
section
variable {X : Cx} {pins : List (Addr × Obj)} {σ : St} {H1 : Hp} {s1 s' : Shared} {E' : XK} {ev : Value} {D : Addr} {dx n : Str} {b0 : Stmt} {suite : List Stmt} {hpos np : Pos} {Q : Flow → Shared → Prop} {E : Value → Shared → Prop} {i j : Nat}
theorem vg (I : Inv X pins σ H1 s1) (x : CXE X.prog X.w X.stack H1 s1 E' ev s') (hst : X.stack = X.env :: X.outer) (hfr : X.env.frame = some X.env.locals) {nm : Option Str}
  (hD : PySem.W.excIn X.K D vE vN = true) (hgD : Gl X dx) (hmD : X.mg dx = some (.ref D)) (hd : (dx == ("__debug__" : Str)) = false)
  (h : ∀ ea cls H' , ev = .ref ea → E' cls none H' → ∃ C, cls = .ref C ∧ PySem.W.subIn X.K (.ref C) (.ref D) = some true ∧
   ∀ s5, (∀ (Q' : Unit → Shared → Prop) (E'' : Value → Shared → Prop), (∀ oe s6, oe.cls = .ref C → Inv (cxM X ea oe) pins σ H' s6 → Q' () s6) → wpAny (model X.prog X.w) (X.A.mark (some (.ref ea))) (setFlight (.ref ea) none) Q' E'' s5) →
    codeAny (model X.prog X.w) (X.A.mark (some (.ref ea))) (.handlers (.ref ea) [.ExceptHandler none nm (b0 :: suite) hpos] X.env) (fun r s₂ => match r with
     | .ok f => (match nm with
      | none => Q f s₂
      | some n => wpAny (model X.prog X.w) X.A (do bindName X.env n .none; unbindBehindTheSuite X.env n hpos) (fun _ s₃ => Q f s₃) E s₂)
     | .error x => cameBackBy (model X.prog X.w) X.A X.env E x s₂) s5) :
  wpAny (model X.prog X.w) X.A (noteFrame ev X.env) (fun _ s₂ => wpAny (model X.prog X.w) X.A (setFlight ev none) (fun _ s₃ =>
   wpAny (model X.prog X.w) X.A (handleBy ev X.env [.ExceptHandler (some (.Name dx np)) nm (b0 :: suite) hpos]) Q E s₃) E s₂) E s' := by
 obtain ⟨ea, cls, a0, B, H', rfl, os, bare, un, hok, fl, cov, hE'⟩ := x;obtain ⟨C, rfl, hsub, hh⟩ := h ea cls H' rfl hE';have J : Inv X pins σ H' s' := I.call' os un hok bare fun b z => absurd z (by simp)
 have nf : ∀ b ∈ frs X.stack, ∀ o, s'.heap.get? b = some o → ∀ vs, o.data ≠ .fields vs := fun b m o q vs => by
  obtain ⟨_, o', q', k⟩ := J.stack.mem m;rw [q] at q';cases q';exact k vs
 have later : ∀ h5, B.StaysIn h5 → s'.heap.UpToSlots h5 → Inv X pins σ H' { s' with heap := h5 } := fun h5 st up => by
  obtain ⟨u5, k5⟩ := uK un hok st up cov nf J.stkFree;exact I.call' (s' := { s' with heap := h5 }) os u5 k5 bare fun b z => absurd z (by simp)
 obtain ⟨oe, vs, hoe, hoc, hod, _⟩ := fl.first
 have eaF : ea ∉ frs X.stack := fun m => nf ea m oe hoe vs hod
 have eaN : H' ea = none := by
  cases z : H' ea with
  | none => rfl
  | some u =>
   have q := cov ea oe hoe eaF (.inl (by rw [z]; simp))
   rw [fl.2.1] at q;cases q
 have eaL : ea ≠ X.env.locals := fun z => eaF (by rw [hst, gE hfr, z]; exact List.mem_cons_self)
 have eaO : ea ∉ X.fs := fun m => eaF (by rw [hst, gE hfr]; exact List.mem_cons_of_mem _ m)
 have mk : ∀ h5 o v, h5.get? ea = some o → o.data = .fields v → Inv X pins σ H' { s' with heap := h5 } → Inv (cxM X ea o) pins σ H' { s' with heap := h5 } := fun h5 o v q1 q2 I5 =>
  pM I5 ⟨q1, eaN, eaL, eaO, fun z => by rw [q2]; intro y; cases y⟩
 rw [hst] at fl;refine wpAny_looks_onW (by rw [← hst]; exact I.ok.frames) hfr fl fun h4 fl4 up4 => ?_
 refine wpAny_landsW fl4 fun h5 fl5 up5 => ?_
 have I5 := later h5 fl5.1 (up4.trans up5);obtain ⟨oe5, vs5, hoe5, hoc5, hod5, _⟩ := fl5.first
 have M5 := mk h5 oe5 vs5 hoe5 hod5 I5;refine wpAny_handleBy_cons (codeAny_handlers_test ?_) (by intro q; cases q)
 refine fC (X := cxM X ea oe5) M5 hgD hmD ?_ hd;refine uc (h := h5) (K := X.K) I5.kIn hD hsub hoe5 hoc5 ?_;refine hh _ fun Q' E'' hq => ?_
 refine lands_againW fl5 fun h6 fl6 up6 => ?_
 obtain ⟨oe6, vs6, hoe6, hoc6, hod6, _⟩ := fl6.first
 exact hq oe6 _ hoc6 (mk h6 oe6 vs6 hoe6 hod6 (later h6 fl6.1 ((up4.trans up5).trans up6)))
end
end L3
namespace L3
open PySem L2 PySem.Spec PyProof.Rows
section
variable {X : Cx} {pins : List (Addr × Obj)} {σ : St} {H' : Hp} {C ea : Addr} {n : Str} {b0 : Stmt} {suite : List Stmt} {hpos : Pos} {Q : Flow → Shared → Prop} {E : Value → Shared → Prop} {i j : Nat} {b : Bool}
theorem qa (hca : X.calm = true → X.A.handled = none) (hfr : X.A.frames = some X.stack) (hN : X.N.Nodup) (hi : X.N[i]? = some n) (hl : X.env.scope.names.lookup n = some .local) (hij : i ≠ j) (hj : j < X.N.length) (hlen : σ.length = X.N.length)
  (hs : ∀ oe, oe.cls = .ref C → PSs (cxM X ea oe) (b0 :: suite) (tBs (Pe i ea j) j b)) (hq : ∀ H'' s'', aN H' H'' → Inv X pins ((σ.set j (some (.bl b))).set i none) H'' s'' → Q .next s'') :
  ∀ s5, (∀ (Q' : Unit → Shared → Prop) (E'' : Value → Shared → Prop), (∀ oe s6, oe.cls = .ref C → Inv (cxM X ea oe) pins σ H' s6 → Q' () s6) → wpAny (model X.prog X.w) (X.A.mark (some (.ref ea))) (setFlight (.ref ea) none) Q' E'' s5) →
    codeAny (model X.prog X.w) (X.A.mark (some (.ref ea))) (.handlers (.ref ea) [.ExceptHandler none (some n) (b0 :: suite) hpos] X.env) (fun r s₂ => match r with
     | .ok f => wpAny (model X.prog X.w) X.A (do bindName X.env n .none; unbindBehindTheSuite X.env n hpos) (fun _ s₃ => Q f s₃) E s₂
     | .error x => cameBackBy (model X.prog X.w) X.A X.env E x s₂) s5 := by
 intro s5 hset;have iL : i < σ.length := by rw [hlen]; exact jK hi
 refine codeAny_handlers_suite_as (hset _ _ fun oe s6 hoc I6 => ?_)
 refine hX (X := cxM X ea oe) I6 hN hi (.inl hl) (v := .ref ea) (u := .ref ea) rfl (fun s7 I7 => ?_) (.inr hl)
 refine wpAny_mono (hs oe hoc pins s7 (σ.set i (some (.ref ea))) H' ⟨fun σ' H'' => aN H' H'' ∧ σ' = (σ.set i (some (.ref ea))).set j (some (.bl b)), fun _ _ => False, fun _ _ => False, fun _ _ => False⟩ I7
  ⟨⟨List.getElem?_set_self iL, by rw [List.length_set, hlen]; exact hj, hij⟩, fun H'' sm => ⟨sm, rfl⟩⟩) (fun fl s8 q => ?_) fun _ _ z => z.elim
 cases fl with
 | next =>
  obtain ⟨σ', H'', I8, sm, rfl⟩ := q;have I9 := kS hca hfr I8;show wpAny _ _ _ _ _ _
  refine wpAny_bind (wpAny_bindName (hX I9 hN hi (.inl hl) (v := .non) (u := .none) rfl (fun s10 I10 => ?_) (.inr hl)))
  unfold unbindBehindTheSuite;refine wpAny_onRaise (qE (v := .non) I10 hN hi hl (List.getElem?_set_self (by rw [List.length_set, List.length_set]; exact iL)) fun s11 I11 => hq H'' s11 sm ?_)
  rw [List.set_set, List.set_comm _ _ hij, List.set_set] at I11;exact I11
 | ret u =>
  obtain ⟨_, _, _, _, _, z⟩ := q;exact z.elim
 | brk =>
  obtain ⟨_, _, _, z⟩ := q;exact z.elim
 | cont =>
  obtain ⟨_, _, _, z⟩ := q;exact z.elim
theorem vF (hca : X.calm = true → X.A.handled = none) (hfr : X.A.frames = some X.stack)
  (hs : ∀ oe, oe.cls = .ref C → PSs (cxM X ea oe) (b0 :: suite) (tBs (fun _ => True) j b)) (hq : ∀ H'' s'', aN H' H'' → Inv X pins (σ.set j (some (.bl b))) H'' s'' → Q .next s'') :
  ∀ s5, (∀ (Q' : Unit → Shared → Prop) (E'' : Value → Shared → Prop), (∀ oe s6, oe.cls = .ref C → Inv (cxM X ea oe) pins σ H' s6 → Q' () s6) → wpAny (model X.prog X.w) (X.A.mark (some (.ref ea))) (setFlight (.ref ea) none) Q' E'' s5) →
    codeAny (model X.prog X.w) (X.A.mark (some (.ref ea))) (.handlers (.ref ea) [.ExceptHandler none none (b0 :: suite) hpos] X.env) (fun r s₂ => match r with
     | .ok f => Q f s₂
     | .error x => cameBackBy (model X.prog X.w) X.A X.env E x s₂) s5 := by
 intro s5 hset;refine codeAny_handlers_suite (hset _ _ fun oe s6 hoc I6 => ?_)
 refine wpAny_mono (hs oe hoc pins s6 σ H' ⟨fun σ' H'' => aN H' H'' ∧ σ' = σ.set j (some (.bl b)), fun _ _ => False, fun _ _ => False, fun _ _ => False⟩ I6 ⟨trivial, fun H'' sm => ⟨sm, rfl⟩⟩) (fun fl s8 q => ?_) fun _ _ z => z.elim
 cases fl with
 | next =>
  obtain ⟨σ', H'', I8, sm, rfl⟩ := q;exact hq H'' s8 sm (kS hca hfr I8)
 | ret u =>
  obtain ⟨_, _, _, _, _, z⟩ := q;exact z.elim
 | brk =>
  obtain ⟨_, _, _, z⟩ := q;exact z.elim
 | cont =>
  obtain ⟨_, _, _, z⟩ := q;exact z.elim
end
theorem sF {X : Cx} {xe : Value → Shared → Prop} {pins : List (Addr × Obj)} {σ : St} {H : Hp} {s : Shared} (I : Inv X pins σ H s) : Inv { X with xe := xe } pins σ H s :=
  ⟨⟨I.ok.mod, I.ok.kind, I.ok.glob, I.ok.blt, I.ok.above, I.ok.inj, I.ok.has, I.ok.cab, I.ok.hd, I.ok.frames, I.ok.stk, I.ok.exf, I.ok.bs, I.ok.bsz, I.ok.noex, I.ok.exfs, I.ok.funs, I.ok.frf⟩,
    I.os, I.bare, I.base, I.loc, I.cell, I.free, I.freeC, I.pin, I.hok, I.len⟩
theorem gB {X : Cx} {xe : Value → Shared → Prop} {pins : List (Addr × Obj)} {σ : St} {H : Hp} {s : Shared} (I : Inv { X with xe := xe } pins σ H s) : Inv X pins σ H s :=
  ⟨⟨I.ok.mod, I.ok.kind, I.ok.glob, I.ok.blt, I.ok.above, I.ok.inj, I.ok.has, I.ok.cab, I.ok.hd, I.ok.frames, I.ok.stk, I.ok.exf, I.ok.bs, I.ok.bsz, I.ok.noex, I.ok.exfs, I.ok.funs, I.ok.frf⟩,
    I.os, I.bare, I.base, I.loc, I.cell, I.free, I.freeC, I.pin, I.hok, I.len⟩
noncomputable def lx (ρ : L3.Env) (i : Nat) : Bool := match ρ[i]? with
 | some none => true
 | _ => false
noncomputable def pK (fn : Fn) (al : Fa) (ok : L3.Env → Bool) (j : Nat) (tbl : List (Str × Bool)) : Fs := fun ρ => (al ρ).bind fun xs => match fn (xs.map OD.er) with
 | .ok _ => .ok (.nx ρ)
 | .ex c => (match tbl.lookup c with
  | some b => if ok ρ = true then .ok (.nx (ρ.set j (some (.sh (.bool b))))) else .bad
  | none => .bad)
 | .bad => .bad
theorem pN {K : PySem.W.Frag} {F H : Hp} {v : Option V} {σ : St} {ρ : L3.Env} {g : List Addr} (S : OwnS K F H σ ρ g) : ∀ {i : Nat}, lx ρ i = true → OwnS K F H (σ.set i v) ρ g := by
 induction S with
 | nil => exact fun {i} _ => .nil
 | no r ih =>
  intro i h;cases i with
  | zero => exact .no r
  | succ i => exact .no (ih (i := i) (by simpa [lx] using h))
 | yes o r ih =>
  intro i h;cases i with
  | zero => simp [lx] at h
  | succ i => exact .yes o (ih (i := i) (by simpa [lx] using h))
end L3
namespace L3
open PySem L2 PySem.Spec PyProof.Rows
section
variable {M : Mx} {X : Cx} {k : Nat} {f : Addr} {fd : FuncData} {ps : List Str} {x dx : Str} {p pos cpos epos hpos np : Pos} {fn : Fn} {al : Fa} {e : Expr} {es : List Expr} {D : Addr} {nm : Option Str} {b0 : Stmt} {suite : List Stmt} {ok : L3.Env → Bool} {j : Nat} {tbl : List (Str × Bool)}
theorem sG (F : FnOk X.prog X.w M.K M.mg X.base (CXE X.prog X.w) k f fd ps (sp3 M.K M.mg fn)) (hr : Room k X.A) (hg : Gl X x) (hm : M.mg x = some (.ref f)) (hk : PySem.W.keepIn M.K (.ref f) = true) (hb : Binds M.K fd ps [])
  (ha : ∀ xe, DA M { X with xe := xe } (e :: es) al) (hst : X.stack = X.env :: X.outer) (hfr : X.env.frame = some X.env.locals)
  (hD : PySem.W.excIn M.K D vE vN = true) (hgD : Gl X dx) (hmD : M.mg dx = some (.ref D)) (hj : j < X.N.length)
  (hT : ∀ c b, tbl.lookup c = some b → ∃ C, M.mg c = some (.ref C) ∧ PySem.W.subIn M.K (.ref C) (.ref D) = some true ∧
   ∀ (pins : List (Addr × Obj)) (σ : St) (H' : Hp) (ea : Addr) (Q : Flow → Shared → Prop) (E : Value → Shared → Prop), (X.calm = true → X.A.handled = none) → X.A.frames = some X.stack → σ.length = X.N.length →
    (∀ σ' H'' s'', aN H' H'' → Inv X pins σ' H'' s'' → (∀ K F H ρ g, ok ρ = true → OwnS K F H (σ.set j (some (.bl b))) ρ g → OwnS K F H σ' ρ g) → Q .next s'') →
    ∀ s5, (∀ (Q' : Unit → Shared → Prop) (E'' : Value → Shared → Prop), (∀ oe s6, oe.cls = .ref C → Inv (cxM X ea oe) pins σ H' s6 → Q' () s6) → wpAny (model X.prog X.w) (X.A.mark (some (.ref ea))) (setFlight (.ref ea) none) Q' E'' s5) →
    codeAny (model X.prog X.w) (X.A.mark (some (.ref ea))) (.handlers (.ref ea) [.ExceptHandler none nm (b0 :: suite) hpos] X.env) (fun r s₂ => match r with
     | .ok f => (match nm with
      | none => Q f s₂
      | some n => wpAny (model X.prog X.w) X.A (do bindName X.env n .none; unbindBehindTheSuite X.env n hpos) (fun _ s₃ => Q f s₃) E s₂)
     | .error x => cameBackBy (model X.prog X.w) X.A X.env E x s₂) s5)
  (hok : ∀ (ρ : L3.Env) v, ok (ρ.set j v) = ok ρ)
  (hd : (x == ("__debug__" : Str)) = false := by decide) (hdD : (dx == ("__debug__" : Str)) = false := by decide)
  (he : starEach (e :: es) X.env = (false, eval e X.env) :: starEach es X.env := by rfl) (hpl : (backTo cpos (starEach es X.env)).any (·.1) = false := by rfl)
  (hs : swapsWith (.Call (.Name x p) (e :: es) [] cpos) none epos.line X.env = pure false := by rfl) :
  DS M X (.Try [.Expr (.Call (.Name x p) (e :: es) [] cpos) epos] [.ExceptHandler (some (.Name dx np)) nm (b0 :: suite) hpos] [] [] pos) (pK fn al ok j tbl) := fun hK hM pins s σ H D' I q => by
 obtain ⟨F0, ρ, fp, S, pq⟩ := q;refine wpAny_Try_except (wpAny_execs_cons ?_);have F' : FnOk X.prog X.w X.K X.mg X.base (CXE X.prog X.w) k f fd ps (sp3 M.K M.mg fn) := by
  rw [hK, hM];exact F
 refine wpAny_Expr_any ?_ I.quiet hs;refine wpAny_Call_Name_kw (fC I hg (by rw [hM]; exact hm) ?_ hd)
 refine PySem.W.callWith_K (h₀ := X.base) (K := X.K) I.ok.mod.kin (by rw [hK]; exact hk) ?_ he hpl
 have pa := ha (fun e s₁ => wpAny (model X.prog X.w) X.A (noteFrame e X.env) (fun _ s₂ => wpAny (model X.prog X.w) X.A (setFlight e none) (fun _ s₃ => wpAny (model X.prog X.w) X.A (handleBy e X.env [.ExceptHandler (some (.Name dx np)) nm (b0 :: suite) hpos]) (SP X pins D') X.xe s₃) X.xe s₂) X.xe s₁) hK hM
 refine thn (pa cpos pins s σ H (fun vs H1 => ∃ G1 ds, Ext F0 H G1 H1 ∧ RepAll M.K G1 vs ds ∧ ay M H1 fp (eA M X.N.length G1 H1 fp D') (match fn ds with
   | .ok _ => .ok (.nx ρ)
   | .ex c => (match tbl.lookup c with
    | some b => if ok ρ = true then .ok (.nx (ρ.set j (some (.sh (.bool b))))) else .bad
    | none => .bad)
   | .bad => .bad)) (sF I) ⟨F0, ρ, fp, S, (ay.bind pq).mono fun xs px vs F1 H1 fx e1 r1 w1 => ?_⟩) fun us s1 hz => ?_
 ·obtain ⟨G1, d1, k1⟩ := r1.frz e1 w1
  exact ⟨G1, xs.map OD.er, d1, k1, (px.ext d1).mono fun o ho => eA.stp d1.stp ho⟩
 ·obtain ⟨vs, H1, I1', r1, G1, ds, d1, k1, px⟩ := hz
  have I1 : Inv X pins σ H1 s1 := gB I1';have S1 := S.ext d1;refine ⟨I1.kIn, ?_⟩;have hsp : sp3 M.K M.mg fn vs H1 (fun _ H2 => (∃ z, fn ds = .ok z) ∧ ∃ G2, Ext G1 H1 G2 H2) (fun cls _ H2 => (∃ c b, fn ds = .ex c ∧ tbl.lookup c = some b ∧ M.mg c = some cls) ∧ aN H1 H2) := by
   refine ⟨G1, ds, d1.fh, k1, ?_⟩;cases hf : fn ds with
   | ok z => exact fun v F' H' fx e _ _ => ⟨⟨z, rfl⟩, F', e⟩
   | bad =>
    rw [hf] at px;exact px.elim
   | ex c =>
    rw [hf] at px;cases hc : tbl.lookup c with
    | none =>
     simp only [hc] at px;exact px.elim
    | some b =>
     obtain ⟨C, hC, _⟩ := hT c b hc;exact ⟨.ref C, hC, fun od H2 hk => ⟨⟨c, b, rfl, hc, hC⟩, fun a o z => hk a o z (by simp)⟩⟩
  have hl : (us ++ []).length = ps.length := by
   rw [List.append_nil, ← r1.length];exact F.len _ _ _ _ hsp
  have hbd := hb s1 us (hK ▸ I1.kIn) hl;rw [List.append_nil] at hbd;refine wpAny_call (codeAny_mono (F'.run X.A X.stack s1 H1 ⟨us, []⟩ us vs _ _ hr I1.iE hbd r1 hsp) fun r s2 hq => ?_)
  cases r with
  | error ev =>
   have hq' : CXE X.prog X.w X.stack H1 s1 (fun cls _ H2 => (∃ c b, fn ds = .ex c ∧ tbl.lookup c = some b ∧ M.mg c = some cls) ∧ aN H1 H2) ev s2 := hq
   refine vg I1 hq' hst hfr (by rw [hK]; exact hD) hgD (by rw [hM]; exact hmD) hdD fun ea cls H' _ hE => ?_
   obtain ⟨⟨c, b, hfn, hc, hmc⟩, same⟩ := hE;obtain ⟨C, hC, hsub, hh⟩ := hT c b hc;rw [hC] at hmc;cases hmc;refine ⟨C, rfl, by rw [hK]; exact hsub, fun s5 hset => hh pins σ H' ea _ _ I1.ok.hd I1.ok.frames I1.len (fun σ' H'' s'' sm J hown => ?_) s5 hset⟩
   rw [hfn] at px;simp only [hc] at px;split at px
   ·rename_i hO
    have e2 : Ext G1 H1 G1 H'' := ⟨aN.refl _, same.trans sm, d1.fh.trans (same.trans sm), fun _ _ z => z⟩
    obtain ⟨fp', S3, sub⟩ := (S1.ext e2).set hj (Res.sh (K := M.K) (F := G1) (H := H'') (.bl b)) fun _ m => by cases m
    exact ⟨σ', H'', J, px σ' G1 H'' fp' ⟨S3.same, hown _ _ _ _ _ (by rw [hok]; exact hO) S3.own, S3.nd, S3.fr, S3.len⟩ ⟨aN.refl _, fun a o z _ => same.trans sm a o z, fun a m => .inl ((sub a m).elim id fun z => by cases z), fun _ _ _ z => z⟩⟩
   ·exact px.elim
  | ok fl =>
   cases fl with
   | ret u =>
    obtain ⟨v, H2, J, _, ⟨z, hf⟩, G2, e2⟩ := I1.after hq;rw [hf] at px;exact wpAny_execs_nil (wpAny_execs_nil ⟨σ, H2, J, px σ G2 H2 fp (S1.ext e2) e2.stp⟩)
   | next => exact False.elim hq
   | brk => exact False.elim hq
   | cont => exact False.elim hq
end
end L3
namespace L3
open PySem L2 PySem.Spec PyProof.Rows
theorem Ff {P : Program} {w : World} {K : PySem.W.Frag} {mg : Str → Option Value} {base : Heap} {x qual : Str} {st : Stmt} {f : Addr} {fd : FuncData} {N ps : List Str} {k np n : Nat} {body : Fs} {fn : Fn} (hf : fn = cq np n body) (hp : ps.length = np) (hn : N.length = n) (F : Fun K x qual st f fd) (S : FnScope N ps (ar st))
  (h : ∀ (cdv : Value) (A : Around) (outer : List PySem.Env) (s : Shared) (H : Hp) (E : XK), Room k (A.deeper (envOfC qual (ar st) s.heap.objs.size f cdv)) → DSs ⟨K, mg, E⟩ (jZ (CXE P w) P w K mg base N qual (ar st) f cdv A outer s H E) (aR st) body) :
  FnOk P w K mg base (CXE P w) (k + 1) f fd ps (sp3 K mg fn) := by
 subst hf hp hn;have hpl : ps.length ≤ N.length := by
  have := congrArg List.length S.pre;rw [List.length_take] at this
  lia
 have hlen : ∀ vs H Q E, sp3 K mg (cq ps.length N.length body) vs H Q E → vs.length = ps.length := by
  rintro vs H Q E ⟨F, ds, sm, ra, p⟩;by_cases hl : ds.length = ps.length
  ·rw [RepAll.len ra]
   exact hl
  ·unfold cq at p
   rw [if_neg hl] at p;exact p.elim
 obtain ⟨oc, od, kV, doc, pm, an, cdv, ct, osl, rfl, lk, hcd⟩ := F.ex;refine uQ lk hcd S hlen fun A outer s H vs Q E hr hs => ?_
 have hvl := hlen _ _ _ _ hs;obtain ⟨F0, ds, sm, ra, p⟩ := hs;have hdl : ds.length = ps.length := by rw [← RepAll.len ra]; exact hvl
 unfold cq at p;rw [if_pos hdl] at p;refine ⟨_, h cdv A outer s H E hr rfl rfl, F0, iE N.length ds, [], ⟨sm, ?_, List.nodup_nil, (fun _ m => by cases m), ?_⟩, (ay.bind p).mono fun o po => ?_⟩
 ·unfold L2.start iE
  rw [hvl, hdl];exact iB _ ra
 ·unfold iE
  show _ = N.length
  rw [List.length_append, List.length_map, List.length_replicate, hdl]
  lia
 ·cases o with
  | nx ρ => exact fun σ' F' H' fp' S' st => po .non F' H' [] ⟨st.ff, fun a o q => st.keep a o q (by simp), S'.same, fun a q z => st.nw a q (by simp) z⟩ (Res.sh .non) fun _ m => by cases m
  | rt y => exact fun v F' H' fx sm' r st => po v F' H' fx ⟨st.ff, fun a o q => st.keep a o q (by simp), sm', fun a q z => st.nw a q (by simp) z⟩ r fun a m => (st.new a m).elim (fun z => by cases z) id
  | bk ρ => exact po.elim
  | ct ρ => exact po.elim
theorem tJ {P : Str → Bool → Prop} : ∀ c b, ([] : List (Str × Bool)).lookup c = some b → P c b := fun c b h => by cases h
theorem mY {P : Str → Bool → Prop} {a : Str} {b0 : Bool} {l : List (Str × Bool)} (h : P a b0) (r : ∀ c b, l.lookup c = some b → P c b) : ∀ c b, ((a, b0) :: l).lookup c = some b → P c b := fun c b q => by
 rw [List.lookup_cons] at q;split at q
 ·rename_i e
  cases q;rw [beq_iff_eq.mp e];exact h
 ·exact r c b q
theorem uv {ρ : L3.Env} {i j : Nat} {v : Option OD} (h : i ≠ j) : lx (ρ.set j v) i = lx ρ i := by
 unfold lx;rw [List.getElem?_set_ne (Ne.symm h)]
end L3
namespace L3
open PySem L2 PySem.Spec PyProof.Rows
section
variable {M : Mx} {X : Cx} {e : Expr} {pos : Pos} {fa : Fe}
end
end L3
namespace L3
open PySem L2
section
variable {c : Str} {ρ : L3.Env} {p : Fs}
theorem fu : qO (.ex c) p = .ex c := rfl
theorem eQ : w8 (.ex c) = .ex c := rfl
theorem fg (c : Str) : gc c ρ = .ex c := rfl
noncomputable def zf (r : R OD) (o : Bool) (j : Nat) (tbl : List (Str × Bool)) (ρ : L3.Env) : R Out := match r with
 | .ok _ => .ok (.nx ρ)
 | .ex c => (match tbl.lookup c with
  | some b => if o = true then .ok (.nx (ρ.set j (some (.sh (.bool b))))) else .bad
  | none => .bad)
 | .bad => .bad
theorem xE {fn : Fn} {al : Fa} {ok : L3.Env → Bool} {j : Nat} {tbl : List (Str × Bool)} : pK fn al ok j tbl ρ = unK (fun xs => zf (fn (xs.map OD.er)) (ok ρ) j tbl ρ) (al ρ) := cR _ _
theorem tY {b : Bool} {j : Nat} {l : List (Str × Bool)} : zf (.ex c) true j ((c, b) :: l) ρ = .ok (.nx (ρ.set j (some (.sh (.bool b))))) := by
 unfold zf;simp [List.lookup]
noncomputable def noK : Option (Option OD) → Bool
 | some none => true
 | _ => false
theorem E8 (i : Nat) : lx ρ i = noK ρ[i]? := by
 unfold lx noK;rfl
theorem ER : noK (some none) = true := rfl
end
end L3
namespace L3
open PySem L2 PySem.Spec PyProof.Rows
section
variable {M : Mx} {X : Cx} {e : Expr} {pos p2 : Pos} {fa : Fe}
end
end L3
namespace L3
open PySem L2 PySem.Spec PyProof.Rows
noncomputable def eCh (a b c : Fe) : Fe := fun ρ => (a ρ).bind fun x => (b ρ).bind fun y => match x.er, y.er with
 | .int i, .int j => if i ≤ j then (c ρ).bind fun z => (match z.er with
  | .int k => oB (decide (j ≤ k))
  | _ => .bad) else oB false
 | _, _ => .bad
noncomputable def tCh (ta tb tc : TE) : TE := fun σ H Q => ta σ H fun x H1 => tb σ H1 fun y H2 => ∃ i j, x = .int i ∧ y = .int j ∧ if i ≤ j then tc σ H2 fun z H3 => ∃ k, z = .int k ∧ Q (.bl (decide (j ≤ k))) H3 else Q (.bl false) H2
section
variable {M : Mx} {X : Cx} {a b c : Expr} {pos : Pos} {fa fb fc : Fe}
theorem C5 {ta tb tc : TE} (ha : PE X a ta) (hb : PE X b tb) (hc : PE X c tc) (hm : lastMarks [.LtE, .LtE] [b, c] = false := by with_unfolding_all rfl) : PE X (.Compare a [.LtE, .LtE] [b, c] pos) (tCh ta tb tc) := by
 intro pins s σ H Q I h;refine Compare_chain (thn (ha pins s σ H _ I h) fun v s1 ⟨x, H1, I1, r1, q1⟩ => chain_link (thn (hb pins s1 σ H1 _ I1 q1) fun u s2 ⟨y, H2, I2, r2, q2⟩ => ?_)) hm
 obtain ⟨i, j, rfl, rfl, q⟩ := q2;obtain ⟨t1, rfl⟩ := r1;obtain ⟨t2, rfl⟩ := r2;refine le_int (wpAny_truthy_bool ?_);by_cases hij : i ≤ j
 ·rw [if_pos hij] at q
  rw [decide_eq_true hij, if_pos rfl];refine chain_last (thn (hc pins s2 σ H2 _ I2 q) fun z s3 ⟨w, H3, I3, r3, q3⟩ => ?_)
  obtain ⟨k, rfl, q3⟩ := q3;obtain ⟨t3, rfl⟩ := r3;exact le_int ⟨.bl _, H3, I3, rfl, q3⟩
 ·rw [if_neg hij] at q
  rw [decide_eq_false hij, if_neg (by simp)]
  exact ⟨.bl false, H2, I2, rfl, q⟩
theorem ED {n : Nat} {σ : St} {H : Hp} {Q : VK} (h : tD M n (eCh fa fb fc) σ H Q) : tCh (tD M n fa) (tD M n fb) (tD M n fc) σ H Q := by
 obtain ⟨F, ρ, fp, S, p⟩ := h;refine ⟨F, ρ, fp, S, (ay.bind p).mono fun x px v F1 H1 fx e1 r1 w1 => ?_⟩
 obtain ⟨G1, d1, k1⟩ := r1.frz e1 w1;refine ⟨G1, ρ, fp, S.ext d1, ((ay.bind px).ext d1).mono fun y py v2 F2 H2 fy e2 r2 w2 => ?_⟩
 obtain ⟨G2, d2, k2⟩ := r2.frz e2 w2;have py2 := py.ext (d1.trans d2);split at py2
 ·rename_i i j hi hj
  rw [hi] at k1;rw [hj] at k2;cases k1;cases k2;refine ⟨i, j, rfl, rfl, ?_⟩;split at py2
  ·rename_i hij
   rw [if_pos hij];refine ⟨G2, ρ, fp, (S.ext d1).ext d2, (ay.bind py2).mono fun z pz v3 F3 H3 fz e3 r3 w3 => ?_⟩
   obtain ⟨G3, d3, k3⟩ := r3.frz e3 w3;split at pz
   ·rename_i k hk
    rw [hk] at k3;cases k3;exact ⟨k, rfl, OkE.val d3.fh (OkE.pre ((d1.trans d2).trans d3) pz) (.bl _)⟩
   ·exact pz.elim
  ·rename_i hij
   rw [if_neg hij];exact OkE.val d2.fh (OkE.pre (d1.trans d2) py2) (.bl false)
 ·exact py2.elim
theorem DY (ha : DE M X a fa) (hb : DE M X b fb) (hc : DE M X c fc) (hm : lastMarks [.LtE, .LtE] [b, c] = false := by with_unfolding_all rfl) : DE M X (.Compare a [.LtE, .LtE] [b, c] pos) (eCh fa fb fc) := fun hK hM =>
 peI (C5 (ha hK hM) (hb hK hM) (hc hK hM) hm) fun _ _ _ q => ED q
end
theorem E6 {fa fb fc : Fe} {ρ : L3.Env} {x y z : OD} {i j k : Int} (h1 : fa ρ = .ok x) (h2 : x.er = .int i) (h3 : fb ρ = .ok y) (h4 : y.er = .int j) (h5 : fc ρ = .ok z) (h6 : z.er = .int k) : eCh fa fb fc ρ = .ok (.sh (.bool (decide (i ≤ j ∧ j ≤ k)))) := by
 unfold eCh;rw [h1, b_, h3, b_];simp only [h2, h4];by_cases hij : i ≤ j
 ·rw [if_pos hij, h5, b_]
  simp only [h6];unfold oB;simp [hij]
 ·rw [if_neg hij]
  unfold oB;simp [hij]
noncomputable def lL : List PyData → Option (List Bool)
 | [] => some []
 | .bool b :: r => (lL r).map (b :: ·)
 | _ :: _ => none
noncomputable def sU : List PyData → R OD
 | [.list ds] => (match lL ds with
  | some bs => oB (bs.all id)
  | none => .bad)
 | _ => .bad
noncomputable def BR (K : PySem.W.Frag) : List V → Hp → VK → Prop := fun xs H Q => ∃ (a : Addr) (bs : List Bool), xs = [.ref a] ∧ RdK K H a (bs.map V.bl) ∧ Q (.bl (bs.all id)) H
theorem oy : ∀ {bs : List Bool} {us : List Value}, Vals (bs.map V.bl) us → us = bs.map Value.bool := by
 intro bs
 induction bs with
 | nil => exact fun h => Vals.zero h
 | cons b r ih =>
  intro us h;cases h with
  | cons q t =>
   rw [List.map_cons, ih t];exact congrArg (· :: _) (show _ = Value.bool b from q)
end L3
namespace L3
open PySem L2 PySem.Spec PyProof.Rows PySem.W
section
variable {M : Mx} {X : Cx}
theorem se (hc : X.calm = true) : ee X (.builtin "all") (BR X.K) := by
 intro pins s σ H xs us Q I r h;obtain ⟨a, bs, rfl, hq, q⟩ := h;obtain ⟨u, rfl, ru⟩ := Vals.one r;cases (show u = Value.ref a from ru)
 obtain ⟨its, rv, pl, hz⟩ := I.list hq.sq;have hi := oy rv;subst hi;have hl := pl.isList;have na : a < s.heap.objs.size := by
  obtain ⟨_, z, _⟩ := hl;exact Heap.lt_size z
 have sz : (bs.map Value.bool).toArray.size = bs.length := by simp
 refine PySem.call_all_walk (wpAny_pyIter_list hl ⟨s.heap.objs.size, [s.heap.objs.size, a], [s.heap.objs.size], (bs.map Value.bool).toArray.size, _, _, fun i => (bs[i]?).getD true, rfl,
  Walks.list (A := X.A.in1) (I.ok.hd hc) _ a (Nat.ne_of_lt na) (bs.map Value.bool).toArray, ⟨⟨_, Heap.get?_push_size _ rfl, rfl, rfl⟩, hl.push _⟩, fun i v s' Q' E' hP hQ => ?_, fun h' tk hk => ?_⟩)
 ·have hv : (bs.map Value.bool)[i]? = some v := by simpa using hP
  rw [List.getElem?_map] at hv;obtain ⟨b, hb, rfl⟩ := Option.map_eq_some_iff.mp hv;simp only [hb, Option.getD_some] at hQ;exact wpAny_truthy_bool hQ
 ·have e : ((List.range (bs.map Value.bool).toArray.size).all fun i => (bs[i]?).getD true) = bs.all id := by
   rw [sz];exact LSm.range_all bs
  rw [e];exact ⟨.bl _, H, I.kept (LSm.kept_iter hk), rfl, q⟩
theorem qX : ∀ {ds : List PyData} {bs : List Bool}, lL ds = some bs → ds = bs.map PyData.bool := by
 intro ds
 induction ds with
 | nil =>
  intro bs h;cases h;rfl
 | cons d r ih =>
  intro bs h;cases d with
  | bool b =>
   unfold lL at h;obtain ⟨cs, h1, rfl⟩ := Option.map_eq_some_iff.mp h;rw [ih h1];rfl
  | _ => cases h
theorem DD {K : PySem.W.Frag} {F : Hp} : ∀ {bs : List Bool} {vs : List V}, RepAll K F vs (bs.map PyData.bool) → vs = bs.map V.bl := by
 intro bs
 induction bs with
 | nil =>
  intro vs h;cases h;rfl
 | cons b r ih =>
  intro vs h;cases h with
  | cons q t =>
   cases q;rw [ih t];rfl
theorem yQ (hK : X.K = M.K) : OkC M (BR X.K) sU := by
 rw [hK];intro x dx F H fp Q s rx p;unfold sU at p;split at p
 ·rename_i ds
  split at p
  ·rename_i bs hb
   cases rx with
   | cons r t =>
    cases t;have e := qX hb;subst e;cases r with
    | lst h1 h2 =>
     have e2 := DD h2;subst e2;exact ⟨_, bs, rfl, h1.same s, OkE.val s p (.bl _)⟩
  ·exact p.elim
 ·exact p.elim
end
theorem uR : ∀ bs : List Bool, lL (bs.map PyData.bool) = some bs := by
 intro bs
 induction bs with
 | nil => rfl
 | cons b r ih =>
  rw [List.map_cons];unfold lL;rw [ih];rfl
theorem BE (bs : List Bool) : sU [.list (bs.map PyData.bool)] = .ok (.sh (.bool (bs.all id))) := by
 have e := uR bs;unfold sU;simp only [e];rfl
end L3
namespace L3
open PySem L2
noncomputable def oM (S : L3.Env → Prop) (T : Prop) (c : Str) : R Out → Prop
 | .ok (.nx ρ) => S ρ
 | .ok (.ct ρ) => S ρ
 | .ex e => e = c ∧ T
 | _ => False
theorem uF {S : L3.Env → Prop} {T : Prop} {c : Str} {ρ : L3.Env} : oM S T c (.ok (.nx ρ)) = S ρ := rfl
theorem qk {S : L3.Env → Prop} {T : Prop} {c : Str} : oM S T c (.ex c) = T := by
 show (c = c ∧ T) = T
 simp
theorem tU {P : Prop} {g : Fg} {b : Fs} {ds : List PyData} {ρ : L3.Env} {r : R Out} (hL : bA g b ds ρ = r) (S : Nat → L3.Env → Prop) (T : Prop) (c : Str) (h0 : S 0 ρ) (st : ∀ (i : Nat) (d : PyData) (ρ : L3.Env), ds[i]? = some d → S i ρ → oM (S (i + 1)) T c (unK b (g (.sh d) ρ)))
  (fin : ∀ ρ', r = .ok (.nx ρ') → S ds.length ρ' → P) (fin2 : r = .ex c → T → P) : P := by
 have go : ∀ (es : List PyData) (k : Nat) (ρ : L3.Env), S k ρ → (∀ (i : Nat) (d : PyData) (ρ : L3.Env), es[i]? = some d → S (k + i) ρ → oM (S (k + i + 1)) T c (unK b (g (.sh d) ρ))) → (∃ ρ', bA g b es ρ = .ok (.nx ρ') ∧ S (k + es.length) ρ') ∨ (bA g b es ρ = .ex c ∧ T) := by
  intro es
  induction es with
  | nil => exact fun k ρ h _ => .inl ⟨ρ, rfl, h⟩
  | cons d es ih =>
   intro k ρ h st;have h1 := st 0 d ρ rfl h;have nxt : ∀ ρ2, S (k + 0 + 1) ρ2 → (∃ ρ', bA g b es ρ2 = .ok (.nx ρ') ∧ S (k + (d :: es).length) ρ') ∨ (bA g b es ρ2 = .ex c ∧ T) := fun ρ2 h2 => by
    rcases ih (k + 1) ρ2 h2 (fun i d' ρ' hd hS => by
     have := st (i + 1) d' ρ' (by simpa using hd) (by rw [show k + (i + 1) = k + 1 + i by lia]; exact hS)
     rw [show k + (i + 1) + 1 = k + 1 + i + 1 by lia] at this
     exact this) with ⟨ρ', a, b⟩ | q
    ·exact .inl ⟨ρ', a, by rw [List.length_cons, show k + (es.length + 1) = k + 1 + es.length by lia]; exact b⟩
    ·exact .inr q
   rw [bA];cases hg : g (.sh d) ρ with
   | bad => rw [hg] at h1; exact h1.elim
   | ex e =>
    rw [hg] at h1;obtain ⟨rfl, hT⟩ := h1;exact .inr ⟨rfl, hT⟩
   | ok ρ1 =>
    rw [hg] at h1;rw [b_];have h2 : oM (S (k + 0 + 1)) T c (b ρ1) := h1;cases hb : b ρ1 with
    | bad => rw [hb] at h2; exact h2.elim
    | ex e =>
     rw [hb] at h2;obtain ⟨rfl, hT⟩ := h2;exact .inr ⟨rfl, hT⟩
    | ok o =>
     rw [hb] at h2;cases o with
     | nx ρ2 => exact nxt ρ2 h2
     | ct ρ2 => exact nxt ρ2 h2
     | bk ρ2 => exact h2.elim
     | rt x => exact h2.elim
 rcases go ds 0 ρ h0 (fun i d ρ hd hS => by rw [Nat.zero_add] at hS ⊢; exact st i d ρ hd hS) with ⟨ρ', a, b⟩ | ⟨a, hT⟩
 ·exact fin ρ' (hL.symm.trans a) (by rw [Nat.zero_add] at b; exact b)
 ·exact fin2 (hL.symm.trans a) hT
end L3
namespace L3
open PySem L2 PySem.Spec PyProof.Rows PySem.W
noncomputable def rTx (op : Str → Str → V) : V → List V → Hp → VK → Prop := fun x xs H Q => ∃ a b, x = .str a ∧ xs = [.str b] ∧ a.length ≤ sizeLine ∧ Q (op a b) H
noncomputable def gTx (op : Str → Str → PyData) : PyData → PyData → R OD
 | .str s, .str t => if s.length ≤ BIG then .ok (.sh (op s t)) else .bad
 | _, _ => .bad
noncomputable def eTx (op : Str → Str → PyData) (a b : Fe) : Fe := fun ρ => (a ρ).bind fun x => match x.er with
 | .str s => if s.length ≤ BIG then (b ρ).bind fun y => gTx op (.str s) y.er else .bad
 | _ => .bad
noncomputable def oLst (s t : Str) : PyData := .str (Txt.lstripChars s t)
noncomputable def sA (s t : Str) : PyData := .str (Txt.rstripChars s t)
section
variable {M : Mx} {X : Cx} {e a : Expr} {fa fb : Fe}
theorem mf : MtR X "str.lstrip" (rTx fun a b => .str (Txt.lstripChars a b)) := by
 intro pins s σ H x xs v us Q I rx rxs h;obtain ⟨a, b, rfl, rfl, hl, q⟩ := h;obtain ⟨t, rfl⟩ := rx;obtain ⟨u, rfl, t2, rfl⟩ := Vals.one rxs;exact SC.lstripChars (fun t' k => ⟨.str _, H, I.tok k, ⟨t', rfl⟩, q⟩) hl
theorem l4 : MtR X "str.rstrip" (rTx fun a b => .str (Txt.rstripChars a b)) := by
 intro pins s σ H x xs v us Q I rx rxs h;obtain ⟨a, b, rfl, rfl, hl, q⟩ := h;obtain ⟨t, rfl⟩ := rx;obtain ⟨u, rfl, t2, rfl⟩ := Vals.one rxs;exact SC.rstripChars (fun t' k => ⟨.str _, H, I.tok k, ⟨t', rfl⟩, q⟩) hl
theorem nu {op : Str → Str → PyData} {opV : Str → Str → V} {name : Str} {id : String} {ap cp : Pos} (slot : Slot "str" name id) (hty : typeOf (.builtin id) = pure (.type "method_descriptor")) (hm : MtR X id (rTx opV)) (hr : ∀ K F a b, Rep K F (opV a b) (op a b)) (ha : DE M X a fa) (h : DE M X e fb)
  (hbase : attributeBase a name X.env (eval a X.env) = eval a X.env := by rfl)
  (hfew : ((backTo cp (starEach [e] X.env)).all (fun x => !x.1) && (backToKw cp (keywordEach [] X.env)).all (fun x => x.1.isSome) && decide (([e] : List Expr).length + ([] : List Keyword).length + (if ([] : List Keyword).isEmpty then 0 else 1) < 30)) = true := by rfl)
  (hline : (ap.endLine == cp.line) = true := by rfl) (hs : starEach [e] X.env = (false, eval e X.env) :: starEach [] X.env := by rfl) (hplain : (backTo cp (starEach [] X.env)).any (·.1) = false := by rfl) :
  DE M X (.Call (.Attribute a name ap) [e] [] cp) (eTx op fa fb) := fun hK hM => by
 have q := xn (apos := ap) (cpos := cp) PySem.F.plainAttrs_str slot hty hm (ha hK hM) (de (h hK hM) fY hs) hbase hfew hline hs hplain;refine peI q fun σ H Q h => ?_
 obtain ⟨F, ρ, fp, S, p⟩ := h;refine ⟨F, ρ, fp, S, (ay.bind p).mono fun x px v F1 H1 fx e1 r1 w1 => ?_⟩
 obtain ⟨G1, d1, k1⟩ := r1.frz e1 w1;generalize x.er = d at px k1
 cases k1 with
 | str z =>
  have px' : ay M H fp (OkE M F H Q) (if z.length ≤ BIG then (fb ρ).bind fun y => gTx op (.str z) y.er else .bad) := px
  split at px'
  ·rename_i hz
   refine ⟨rfl, G1, ρ, fp, S.ext d1, ((ay.bind px').ext d1).mono fun y py w F2 H2 fy e2 r2 w2 => ?_⟩
   obtain ⟨G2, d2, k2⟩ := r2.frz e2 w2;generalize y.er = d' at py k2
   cases k2 with
   | str z2 =>
    have py' : ay M H fp (OkE M F H Q) (if z.length ≤ BIG then .ok (.sh (op z z2)) else .bad) := py
    rw [if_pos hz] at py';exact ⟨z, z2, rfl, rfl, gO hz, OkE.val d2.fh (OkE.pre (d1.trans d2) py') (hr _ _ _ _)⟩
   | non => exact py.elim
   | bl _ => exact py.elim
   | int _ => exact py.elim
   | dct _ _ _ => exact py.elim
   | lst _ _ => exact py.elim
   | tup _ _ => exact py.elim
  ·exact px'.elim
 | non => exact px.elim
 | bl _ => exact px.elim
 | int _ => exact px.elim
 | dct _ _ _ => exact px.elim
 | lst _ _ => exact px.elim
 | tup _ _ => exact px.elim
noncomputable def qm (f : Fs) : Fs := fun ρ => match f ρ with
 | .ok o => .ok o
 | _ => .bad
theorem vh {body : List Stmt} {h0 : ExceptHandler} {hs : List ExceptHandler} {pos : Pos} {f : Fs} (hb : ∀ xe, DSs M { X with xe := xe } body f) : DS M X (.Try body (h0 :: hs) [] [] pos) (qm f) := fun hK hM pins s σ H D I q => by
 obtain ⟨F, ρ, fp, S, p⟩ := q;have p' : ay M H fp (eA M X.N.length F H fp D) (f ρ) := by
  unfold qm at p;cases hf : f ρ with
  | ok o =>
   rw [hf] at p;exact p
  | ex c =>
   rw [hf] at p;exact p.elim
  | bad =>
   rw [hf] at p;exact p.elim
 refine wpAny_Try_except (wpAny_mono (hb (fun e s₁ => wpAny (model X.prog X.w) X.A (noteFrame e X.env) (fun _ s₂ => wpAny (model X.prog X.w) X.A (setFlight e none) (fun _ s₃ => wpAny (model X.prog X.w) X.A (handleBy e X.env (h0 :: hs)) (SP X pins D) X.xe s₃) X.xe s₂) X.xe s₁) hK hM pins s σ H D (sF I) ⟨F, ρ, fp, S, p'⟩) (fun fl s1 hz => ?_) fun _ _ z => z)
 cases fl with
 | next =>
  obtain ⟨σ', H', I', d⟩ := hz;exact wpAny_execs_nil ⟨σ', H', gB I', d⟩
 | brk =>
  obtain ⟨σ', H', I', d⟩ := hz;exact ⟨σ', H', gB I', d⟩
 | cont =>
  obtain ⟨σ', H', I', d⟩ := hz;exact ⟨σ', H', gB I', d⟩
 | ret u =>
  obtain ⟨v, σ', H', I', r, d⟩ := hz;exact ⟨v, σ', H', gB I', r, d⟩
end
section
variable {op : Str → Str → PyData} {fa fb : Fe} {ρ : L3.Env} {x y : OD} {s t : Str}
noncomputable def txK (op : Str → Str → PyData) (r1 r2 : R OD) : R OD := r1.bind fun x => match x.er with
 | .str s => if s.length ≤ BIG then r2.bind fun y => gTx op (.str s) y.er else .bad
 | _ => .bad
theorem k9 : eTx op fa fb ρ = txK op (fa ρ) (fb ρ) := rfl
theorem kC : txK op (.ok x) (.ok y) = gTx op x.er y.er := by
 show (match x.er with
  | .str s => if s.length ≤ BIG then gTx op (.str s) y.er else R.bad
  | _ => R.bad) = _
 generalize x.er = d
 cases d with
 | str s =>
  show (if s.length ≤ BIG then gTx op (.str s) y.er else R.bad) = _
  generalize y.er = d'
  cases d' with
  | str t =>
   show (if s.length ≤ BIG then (if s.length ≤ BIG then R.ok (OD.sh (op s t)) else R.bad) else R.bad) = (if s.length ≤ BIG then R.ok (OD.sh (op s t)) else R.bad)
   split <;> rfl
  | _ => split <;> rfl
 | _ => rfl
theorem kA : gTx op (.str s) (.str t) = if s.length ≤ BIG then .ok (.sh (op s t)) else .bad := rfl
theorem kB : oLst s t = .str (Txt.lstripChars s t) := rfl
theorem kW : sA s t = .str (Txt.rstripChars s t) := rfl
noncomputable def t0K : R Out → R Out
 | .ok o => .ok o
 | _ => .bad
theorem Aw {f : Fs} : qm f ρ = t0K (f ρ) := rfl
theorem zc {o : Out} : t0K (.ok o) = .ok o := rfl
end
end L3
namespace L3
open PySem L2
section
variable {K : PySem.W.Frag} {F H : Hp} {σ : St} {ρ : Env} {g fp : List Addr} {n : Nat}
end
section
variable {M : Mx} {X : Cx} {n : Nat} {H : Hp} {σ : St} {D : Ends} {x y : Str} {p p2 ap cp pos : Pos}
end
end L3
namespace L3
open PySem L2 PySem.Spec PyProof.Rows PySem.W
section
variable {M : Mx} {X : Cx}
end
end L3
namespace L3
open PySem L2 PySem.Spec PyProof.Rows PySem.W
section
variable {M : Mx} {X : Cx} {e a : Expr} {fa fb : Fe}
end
end L3
namespace L3
open PySem L2 PySem.Spec PyProof.Rows PySem.W
section
variable {M : Mx} {X : Cx}
theorem wV : MtR X "str.find" (rTx fun a b => .int (Txt.find a b)) := by
 intro pins s σ H x xs v us Q I rx rxs h;obtain ⟨a, b, rfl, rfl, hl, q⟩ := h;obtain ⟨t, rfl⟩ := rx;obtain ⟨u, rfl, t2, rfl⟩ := Vals.one rxs;exact SC.find ⟨.int _, H, I.tok _, ⟨_, rfl⟩, q⟩
noncomputable def yd (s t : Str) : PyData := .int (Txt.find s t)
end
end L3
namespace L3
open PySem L2 PySem.Spec PyProof.Rows
noncomputable def F2 (h : Heap) (e : Addr) : Prop := ∃ o v, h.get? e = some o ∧ o.data = .fields v ∧ v[2]? = some .none
section
variable {M : Model} {A : Around} {E : Value → Shared → Prop} {s : Shared} {B : Heap} {env : PySem.Env} {out : List PySem.Env} {L e : Addr} {cls a0 : Value}
theorem su {o : Obj} {v : Array Value} {hd : Value} {nx : Bool} {Q : Unit → Shared → Prop} (q1 : A.frames = some (env :: out)) (q2 : s.heap.FunFrames B (env :: out)) (q3 : env.frame = some L)
  (q4 : s.heap.get? e = some o) (q5 : B.StaysIn s.heap) (q6 : B.get? e = none) (q7 : o.data = .fields v) (q8 : 1 < v.size) (q9 : v[0]? = some a0) (q10 : v[2]? = some .none)
  (k : ∀ g, Heap.NotedW B (env :: out) e o.cls a0 (rawInt L) s.heap g → F2 g e → Q () { s with heap := g }) :
  wpAny M A (do
   let a ← frameOf env
   let pl ← entryPlaceOf L nx
   let b ← EntryCells.newEntry hd a .none (rawInt L) .none pl
   setField (.ref e) 1 b) Q E s := by
 have ne : e ∉ (env :: out).filterMap (·.frame) := fun m => by
  obtain ⟨_, u, hu, hn⟩ := q2.mem m;rw [q4] at hu;cases hu;exact hn v q7
 refine wpAny_bind (wpAny_frameOf_fun q1 q2 q3 fun g1 x1 => wpAny_bind (wpAny_entryPlaceOf fun pl hp => ?_))
 unfold EntryCells.newEntry newFields;refine wpAny_bind (wpAny_newObj_type ?_ (hp.sizeOk5 _ _ _ _ _));generalize hT : ({ cls := .type "traceback", dict := none, data := .fields ([hd, .ref L, .none, rawInt L, .none] ++ (if pl.isEmpty then List.replicate 6 Value.none else pl)).toArray } : Obj) = T
 have e1 : g1.get? e = some o := by rw [x1.2.1 e ne]; exact q4
 have b1 : B.StaysIn g1 := fun b u hb => by
  rw [x1.2.1 b fun m => by rw [(q2.mem m).1] at hb; cases hb]
  exact q5 b u hb
 have e2 := Heap.get?_push_of_some (h := g1) T e1;refine wpAny_setField e2 q7 q8 (k _ ?_ ?_)
 all_goals have te : g1.objs.size ≠ e := Nat.ne_of_gt (Heap.lt_size e1)
 all_goals have d3 := Obj.data_mapFields q7 fun w => w.setIfInBounds 1 (Value.ref g1.objs.size)
 all_goals have e3 := Heap.get?_update_self (Obj.mapFields fun w => w.setIfInBounds 1 (Value.ref g1.objs.size)) e2 (Obj.isFreed_of_fields d3)
 ·have t3 : ((g1.push T).update e (Obj.mapFields fun w => w.setIfInBounds 1 (Value.ref g1.objs.size))).get? g1.objs.size = some T := by
   rw [Heap.get?_update_other _ _ te.symm];exact Heap.get?_push_size g1 (by rw [← hT]; rfl)
  have kp : ∀ b u, b ≠ e → g1.get? b = some u → ((g1.push T).update e (Obj.mapFields fun w => w.setIfInBounds 1 (Value.ref g1.objs.size))).get? b = some u := fun b u hb hu => by
   rw [Heap.get?_update_other _ _ hb.symm];exact Heap.get?_push_of_some _ hu
  have nr : ∀ b u, s.heap.get? b = some u → (∀ w, u.data ≠ .fields w) → b ≠ e := fun b u hu hn z => by
   subst z;rw [q4] at hu;cases hu;exact hn v q7
  refine ⟨fun b u hb => kp b u (fun z => by subst z; rw [q6] at hb; cases hb) (b1 b u hb), q2.of_keeps fun b u hu hn => ?_, ?_, fun b u hu hn => ?_⟩
  ·obtain ⟨sl, y⟩ := x1.2.2 b u hu
   exact ⟨_, kp b _ (nr b u hu hn) y, rfl⟩
  ·refine ⟨_, _, g1.objs.size, T, _, e3, ⟨Obj.cls_mapFields _ _, ?_⟩, d3, by simp [q8], b1.fresh, te, t3, by rw [← hT], ?_⟩
   ·rw [Array.getElem?_setIfInBounds_ne (by decide)]
    exact q9
   ·simp
  ·obtain ⟨sl, y⟩ := x1.2.2 b u hu
   exact ⟨sl, kp b _ (nr b u hu hn) y⟩
 ·refine ⟨_, _, e3, d3, ?_⟩
  rw [Array.getElem?_setIfInBounds_ne (by decide)]
  exact q10
theorem F2.keep {h g : Heap} (x : F2 h e) (k : g.get? e = h.get? e) : F2 g e := by
 obtain ⟨o, v, y1, y2, y3⟩ := x;exact ⟨o, v, k.trans y1, y2, y3⟩
theorem yI {o : Obj} {v : Array Value} {Q : Unit → Shared → Prop} (q1 : A.frames = some (env :: out)) (q2 : s.heap.FunFrames B (env :: out)) (q3 : env.frame = some L)
  (q4 : s.heap.get? e = some o) (q5 : B.StaysIn s.heap) (q6 : B.get? e = none) (q7 : o.data = .fields v) (q8 : v[1]? = some .none) (q9 : v[0]? = some a0) (q10 : v[2]? = some .none)
  (k : ∀ g, Heap.NotedW B (env :: out) e o.cls a0 (rawInt L) s.heap g → F2 g e → Q () { s with heap := g }) : wpAny M A (noteFrame (.ref e) env) Q E s := by
 unfold noteFrame;simp only [q3];refine wpAny_bind (wpAny_field q4 q7 q8 ?_);rw [if_neg (by decide)]
 exact su q1 q2 q3 q4 q5 q6 q7 (Array.getElem?_eq_some_iff.mp q8).1 q9 q10 k
theorem tV {Q : Unit → Shared → Prop} (q1 : A.frames = some (env :: out)) (q2 : s.heap.FunFrames B (env :: out)) (q3 : env.frame = some L) (tr : s.heap.TracedW B e cls a0) (q5 : B.StaysIn s.heap) (q6 : B.get? e = none) (c : F2 s.heap e)
  (k : ∀ g, Heap.NotedW B (env :: out) e cls a0 (rawInt L) s.heap g → F2 g e → Q () { s with heap := g }) : wpAny M A (noteFrame (.ref e) env) Q E s := by
 obtain ⟨o, v, T, oT, w, x1, ⟨x2, x3⟩, x4, x5, x6, x7, x8, x9, x10⟩ := tr;subst x2;obtain ⟨o', v', y1, y2, y3⟩ := c;rw [x1] at y1;cases y1;rw [x4] at y2;cases y2;unfold noteFrame;simp only [q3];refine wpAny_bind (wpAny_field x1 x4 x5 ?_);rw [if_pos (by simp : (Value.ref T != Value.none) = true)]
 refine wpAny_bind (wpAny_field x8 x9 x10 ?_);rw [if_neg (by simp [rawInt] : ¬ ((Value.none == rawInt L) = true))]
 refine wpAny_bind (wpAny_setField x8 x9 (Array.getElem?_eq_some_iff.mp x10).1 ?_);have ot : ∀ b, b ≠ T → (s.heap.update T (Obj.mapFields fun z => z.setIfInBounds 3 Value.none)).get? b = s.heap.get? b := fun b hb => Heap.get?_update_other _ _ hb.symm
 have nr : ∀ b u, s.heap.get? b = some u → (∀ z, u.data ≠ .fields z) → b ≠ T := fun b u hu hn z => by
  subst z;rw [x8] at hu;cases hu;exact hn w x9
 refine su q1 (q2.of_keeps fun b u hu hn => ⟨u, by rw [ot b (nr b u hu hn)]; exact hu, rfl⟩) q3 (by rw [ot e x7.symm]; exact x1) (fun b u hb => by
  rw [ot b fun z => by subst z; rw [x6] at hb; cases hb]
  exact q5 b u hb) q6 x4 (Array.getElem?_eq_some_iff.mp x5).1 x3 y3 fun g hN f2 => ?_
 obtain ⟨z1, z2, z3, z4⟩ := hN;exact k g ⟨z1, z2, z3, fun b u hu hn => z4 b u (by rw [ot b (nr b u hu hn)]; exact hu) hn⟩ f2
theorem qt {l : List PySem.Env} {fl : Value} {Q : Unit → Shared → Prop} (q1 : B.StaysIn s.heap) (q2 : s.heap.FunFrames B l) (tr : s.heap.TracedAtW B e cls a0 fl) (c : F2 s.heap e)
  (k : ∀ g, B.StaysIn g → g.FunFrames B l → g.TracedW B e cls a0 → s.heap.UpToSlots g → F2 g e → Q () { s with heap := g }) : wpAny M A (setFlight (.ref e) none) Q E s := by
 obtain ⟨o, v, T, oT, w, x1, x2, x4, x5, x6, x7, x8, x9, x10⟩ := tr;have sz : 3 < w.size := (Array.getElem?_eq_some_iff.mp x10).1;have ot : ∀ b, b ≠ T → (s.heap.update T (Obj.mapFields fun z => z.setIfInBounds 3 ((none : Option Addr).elim Value.none fun f => rawInt f))).get? b = s.heap.get? b := fun b hb => Heap.get?_update_other _ _ hb.symm
 have nr : ∀ b u, s.heap.get? b = some u → (∀ z, u.data ≠ .fields z) → b ≠ T := fun b u hu hn z => by
  subst z;rw [x8] at hu;cases hu;exact hn w x9
 unfold setFlight;refine wpAny_bind (wpAny_field x1 x4 x5 ?_);rw [if_pos (by simp : (Value.ref T != Value.none) = true)]
 refine wpAny_setField x8 x9 sz (k _ (fun b u hb => ?_) (q2.of_keeps fun b u hu hn => ⟨u, by rw [ot b (nr b u hu hn)]; exact hu, rfl⟩) ?_ (fun b u hu hn => ⟨u.slots, by rw [ot b (nr b u hu hn)]; exact hu⟩) (c.keep (ot e x7.symm)))
 ·rw [ot b fun z => by subst z; rw [x6] at hb; cases hb]
  exact q1 b u hb
 ·exact ⟨o, v, T, _, _, by rw [ot e x7.symm]; exact x1, x2, x4, x5, x6, x7, Heap.get?_update_self _ x8 (Obj.isFreed_of_fields (Obj.data_mapFields x9 _)), Obj.data_mapFields x9 _, by simp [sz]⟩
noncomputable def vw (B : Heap) (l : List PySem.Env) (e : Addr) (cls a0 : Value) (h : Heap) : Prop := Heap.FlyingW B l e cls a0 h ∧ F2 h e
theorem Aj {Q : Unit → Shared → Prop} (q1 : A.frames = some (env :: out)) (q3 : env.frame = some L) (fl : vw B (env :: out) e cls a0 s.heap)
  (k : ∀ g, vw B out e cls a0 g → s.heap.UpToSlots g → Q () { s with heap := g }) : wpAny M A (leaving env (.ref e)) Q E s := by
 obtain ⟨⟨f1, f2, f3, f4⟩, c⟩ := fl;unfold leaving;refine wpAny_bind (tV q1 f3 q3 f4 f1 f2 c fun g hN c2 => ?_)
 obtain ⟨z1, z2, z3, z4⟩ := hN;refine qt (s := { s with heap := g }) z1 z2 z3 c2 fun g2 y1 y2 y3 y4 y5 => ?_
 obtain ⟨_, _, y6⟩ := y2;exact k g2 ⟨⟨y1, f2, y6, y3⟩, y5⟩ (Heap.UpToSlots.trans z4 y4)
theorem vp {h : Heap} {o : Obj} {v : Array Value} {Q : Unit → Shared → Prop} (q1 : A.frames = some (env :: out)) (q2 : s.heap.FunFrames B (env :: out)) (q3 : env.frame = some L)
  (q4 : s.heap.get? e = some o) (q5 : B.StaysIn s.heap) (q6 : B.get? e = none) (q7 : o.data = .fields v) (q8 : v[1]? = some .none) (q9 : v[0]? = some a0) (q10 : v[2]? = some .none)
  (k : ∀ g, vw B out e o.cls a0 g → s.heap.UpToSlots g → Q () { s with heap := g }) : wpAny M A (leaving env (.ref e)) Q E s := by
 unfold leaving;refine wpAny_bind (yI q1 q2 q3 q4 q5 q6 q7 q8 q9 q10 fun g hN c2 => ?_)
 obtain ⟨z1, z2, z3, z4⟩ := hN;refine qt (s := { s with heap := g }) z1 z2 z3 c2 fun g2 y1 y2 y3 y4 y5 => ?_
 obtain ⟨_, _, y6⟩ := y2;exact k g2 ⟨⟨y1, q6, y6, y3⟩, y5⟩ (Heap.UpToSlots.trans z4 y4)
end
end L3
namespace L3
open PySem L2 PySem.Spec PyProof.Rows
noncomputable def CXC (P : Program) (w : World) : CXT := fun outer H s E e s' => ∃ (ea : Addr) (cls a0 : Value) (B : Heap) (H' : Hp),
 e = .ref ea ∧ s'.os = s.os ∧ AllBare s'.gens ∧ Un (frs outer) [] H H' s.heap s'.heap ∧ HOk P w H' s'.heap ∧ vw B outer ea cls a0 s'.heap ∧
 (∀ b o, s'.heap.get? b = some o → b ∉ frs outer → (H' b ≠ none ∨ s.heap.get? b ≠ none) → B.get? b = some o) ∧ E cls none H'
noncomputable def LvC (X : Cx) (E : XK) : Prop := X.stack = X.env :: X.outer ∧ X.env.frame = some X.env.locals ∧ X.ex = [] ∧
 ∀ (e : Value) (s' : Shared), wpAny (model X.prog X.w) X.A (leaving X.env e) (fun _ s'' => CXC X.prog X.w X.outer X.H₀ X.s₀ E e s'') (fun e' s'' => CXC X.prog X.w X.outer X.H₀ X.s₀ E e' s'') s' → X.xe e s'
theorem LvC.of {P : Program} {w : World} {K : PySem.W.Frag} {mg : Str → Option Value} {base : Heap} {N : List Str} {qual : Str} {scope : Scope} {f : Addr} {cd : Value} {A : Around} {outer : List PySem.Env} {s : Shared} {H : Hp} {E : XK} :
  LvC (jZ (CXC P w) P w K mg base N qual scope f cd A outer s H E) E := ⟨rfl, rfl, rfl, fun _ _ h => h⟩
section
variable {M : Mx} {X : Cx} {E : XK} {pins : List (Addr × Obj)} {σ : St} {H : Hp} {s s' : Shared} {e : Value} {x t : Str} {j : Nat} {np cpos pos p2 : Pos}
theorem LvC.pass (L : LvC X E) : Passes (CXC X.prog X.w) X E := fun pins σ H s e s' I x => by
 obtain ⟨hst, hfr, hex, hxe⟩ := L;obtain ⟨ea, cls, a0, B, H', rfl, os, bare, un, hok, fl, cov, hE⟩ := x;have J : Inv X pins σ H' s' := I.call' os un hok bare fun b z => absurd z (by simp)
 refine hxe _ _ ?_;rw [hst] at fl;refine Aj (by rw [← hst]; exact I.ok.frames) hfr fl fun h'' fl' up => ?_
 have cov' : ∀ b o, s'.heap.get? b = some o → b ∉ frs X.stack → (H' b ≠ none ∨ X.s₀.heap.get? b ≠ none) → B.get? b = some o := fun b o q n hc => cov b o q n <| hc.imp_right fun z => by
  cases y : X.s₀.heap.get? b with
  | none => exact absurd y z
  | some u =>
   obtain ⟨o', q'⟩ := I.base.there b u y (by rw [hex]; simp)
   rw [q'];simp
 obtain ⟨u1, u2, u3⟩ := jj J hst hfr hex up fl'.1.1 cov';exact ⟨ea, cls, a0, B, H', rfl, J.os, bare, u1, u2, fl', u3, hE⟩
theorem LvC.made (L : LvC X E) (I : Inv X pins σ H s) {h' : Heap} {e C : Addr} {args : List Value} (hx : Heap.MadeExcOf s.heap h' e (.ref C) args) (hE : E (.ref C) none H) : X.xe (.ref e) { s with heap := h' } := by
 obtain ⟨hst, hfr, hex, hxe⟩ := L;refine hxe _ _ ?_;have hin : ∀ env ∈ (X.env :: X.outer), ∀ b, env.frame = some b → b ∈ frs (X.env :: X.outer) := fun env he b hb => List.mem_filterMap.mpr ⟨env, he, hb⟩
 have fr := I.stack;rw [hst] at fr;obtain ⟨tt, he, htn, ht⟩ := hx.there;have st0 : (PySem.W.hideAll s.heap (frs (X.env :: X.outer))).StaysIn s.heap := fun b o q => PySem.W.of_hideAll _ q
 have ff := PySem.W.funFrames_hide fr hin;refine vp (h := h') (s := { s with heap := h' }) (B := PySem.W.hideAll s.heap (frs (X.env :: X.outer))) (by rw [← hst]; exact I.ok.frames) (ff.of_keeps fun b o hb _ => ⟨o, hx.keeps b o hb, rfl⟩) hfr he
  (fun b o hb => hx.keeps b o (st0 b o hb)) ?_ rfl rfl rfl rfl fun h'' fl up => ?_
 ·cases hq : (PySem.W.hideAll s.heap (frs (X.env :: X.outer))).get? e with
  | none => rfl
  | some o' =>
   have := st0 e o' hq;rw [hx.new] at this;cases this
 ·have up' : s.heap.UpToSlots h'' := (Heap.UpToSlots.of_keeps hx.keeps).trans up
  obtain ⟨u1, u2, u3⟩ := jj I hst hfr hex up' fl.1.1 fun b o q n _ => PySem.W.hideAll_get _ q (by rw [← hst]; exact n)
  exact ⟨e, _, _, _, H, rfl, I.os, I.bare, u1, u2, fl, u3, hE⟩
theorem eV {C : Addr} (L : LvC X M.E) (hc : X.calm = true) (hg : Gl X x) (hm : M.mg x = some (.ref C)) (hk : PySem.W.excIn M.K C vE vN = true) (hd : (x == ("__debug__" : Str)) = false := by decide)
  (hs : starEach [.Constant (.str t) j p2] X.env = (false, eval (.Constant (.str t) j p2) X.env) :: starEach [] X.env := by rfl) :
  DS M X (.Raise (some (.Call (.Name x np) [.Constant (.str t) j p2] [] cpos)) none pos) (gc x) := fun hK hM pins s σ H D I q => by
 obtain ⟨F, ρ, fp, S, cv, e1, e2⟩ := q;rw [hm] at e1;cases e1;have hE := e2 none H fun _ _ z _ => z
 rw [← hK] at hk;obtain ⟨mr, N, y1, y2, y3, y4, y5, y6, y7, y8, y9, z0, z1, z2, z3, z5, mN, hC, hN, hni, T⟩ := gP I.mod.kin hk;refine wpAny_Raise_call_subU (C := C) (nm := y1) (q := y2) (N := N) (bs := y3) (bm := mr) (hdct := y4) (sn := y5) (sub := y6) (ab := y7) (col := y8) (dd := y9) (k0 := z0) (k1 := z1) (k2 := z2) (k3 := z3) (k5 := z5)
  PySem.F.excBase_ValueError (by decide) PySem.F.excBase_ValueError (mN := mN) (T.hasType PySem.F.excBase_ValueError.hasBase) (I.ok.hd hc) (by rw [hs]; rfl) hni (fC I hg (by rw [hM]; exact hm) ⟨rfl, ?_⟩ hd)
 have ha : PA X [.Constant (.str t) j p2] _ := de nq fY hs;have hw := ha cpos pins s σ H (fun vs H' => H' = H ∧ vs.length ≤ sizeLine) I ⟨rfl, show 1 ≤ sizeLine by decide⟩
 rw [hs] at hw ⊢;refine Calls.evalArgs_plain (wpAny_mono hw (fun us s2 hz => ?_) fun _ _ y => y)
 obtain ⟨vs, H2, I2, r2, rfl, hl⟩ := hz;exact ⟨rfl, by rw [← r2.length]; exact hl, I2.bk _ _ hC, hN.keeps I2.bk, T.keeps I2.bk, fun h' e hx => L.made I2 hx hE⟩
end
end L3
namespace L3
open PySem L2 PySem.Spec PyProof.Rows Builtin
theorem lD : entryFor table "proto.unchain" = some Builtin.«proto.unchain» := entryFor_of_tree (by kernel_rfl)
section
variable {prog : Program} {w : World} {A : Around} {E : Value → Shared → Prop} {s : Shared} {e ea : Addr}
theorem oY {R : Result → Shared → Prop} (c : F2 s.heap ea) (h : R (.ok (.ret .none)) s) : codeAny (model prog w) A (.builtin "proto.unchain" ⟨[.ref e, .ref ea, .ref ea, .bool false], []⟩) R s := by
 obtain ⟨o, v, y1, y2, y3⟩ := c;refine codeAny_builtin lD ?_;unfold Builtin.«proto.unchain»;refine wpAny_bind (wpAny_field y1 y2 y3 ?_);rw [if_pos (by rfl)]
 exact wpAny_pure h
theorem nH {α : Type} {o : Obj} {v : Array Value} {Q : α → Shared → Prop} (hh : A.handled = some (.ref ea)) (ne : ea ≠ e) (c : F2 s.heap ea) (he : s.heap.get? e = some o) (hd : o.data = .fields v) (h2 : 2 < v.size)
  (h : E (.ref e) { s with heap := s.heap.update e (Obj.mapFields (·.setIfInBounds 2 (.ref ea))) }) : wpAny (model prog w) A (raiseNew (.ref e) : Sem α) Q E s := by
 unfold raiseNew;refine wpAny_bind (wpAny_handled ?_);rw [hh];have n2 : (Value.ref ea != Value.ref e) = true := by
  rw [bne_iff_ne];exact fun z => ne (Value.ref.inj z)
 simp only [n2, if_true];refine wpAny_bind (wpAny_holding (wpAny_runValue (oY c ?_)));exact wpAny_bind (wpAny_setField (x := .ref ea) he hd h2 (wpAny_throw h))
end
end L3
namespace L3
open PySem L2 PySem.Spec PyProof.Rows Builtin
section
variable {prog : Program} {w : World} {A : Around} {E : Value → Shared → Prop} {s : Shared} {ea : Addr} {env : PySem.Env}
variable {nm q : Str} {C N : Addr} {bs bm : List Value} {hdct : Bool} {sn : List Str} {sub : List Value} {ab : Bool} {col : Option Bool} {dd : Option Addr} {k0 k1 k2 k3 k5 : Option Value} {newId : String}
theorem oW {x c : Sem Value} {Q : Flow → Shared → Prop} (hb : bm.contains (.type "BaseException") = true) (hh : A.handled = some (.ref ea)) (hc : ∀ s1 : Shared, wpAny (model prog w) A c (fun v s' => v = .none ∧ s' = s1) E s1)
  (h : wpAny (model prog w) A x (fun v s1 => ∃ e t, v = .ref e ∧ ea ≠ e ∧ s1.heap.get? C = some (excClassObj nm q C N bs bm hdct sn sub ab col dd k0 k1 k2 k3 k5 newId) ∧ C ≠ e ∧ F2 s1.heap ea ∧
   s1.heap.get? e = some { cls := .ref C, data := .fields #[.ref t, .none, .none, .none, .bool false, .none] } ∧
   ∀ g : Heap, (∀ b, b ≠ e → g.get? b = s1.heap.get? b) → g.get? e = some { cls := .ref C, data := .fields #[.ref t, .none, .ref ea, .none, .bool true, .none] } → E (.ref e) { s1 with heap := g }) E s) :
  wpAny (model prog w) A (raiseStmt env (some x) (some c)) Q E s := by
 have cB : (Value.ref C :: bm).contains (.type "BaseException") = true := by rw [List.contains_cons, hb, Bool.or_true]
 unfold raiseStmt;refine wpAny_bind (wpAny_mono h (fun v s1 h1 => ?_) fun _ _ y => y)
 obtain ⟨e, t, rfl, ne, hC, nC, f2, he, hE⟩ := h1;refine wpAny_bind (wpAny_holding (wpAny_mono (hc s1) (fun v2 s2 hz => ?_) fun _ _ y => y))
 obtain ⟨rfl, rfl⟩ := hz;refine wpAny_bind (wpAny_pure ?_);obtain ⟨hp, g, d, tk, os⟩ := s2;refine wpAny_bind (wpAny_holding (α := Value) ?_);unfold excFromValue
 repeat (first | with_reducible refine wpAny_loadPart_at he ?_ | with_reducible refine wpAny_loadPart_at hC ?_ | (with_reducible refine wpAny_isSubtype_exc hC ?_; rw [cB]) | wp_step)
 have z3 := Heap.get?_update_self (Obj.mapFields fun x => x.setIfInBounds 3 Value.none) he rfl
 have z4 := Heap.get?_update_self (Obj.mapFields fun x => x.setIfInBounds 4 (Value.bool true)) z3 rfl
 have z5 := Heap.get?_update_self (Obj.mapFields fun x => x.setIfInBounds 2 (Value.ref ea)) z4 rfl
 refine nH hh ne (f2.keep ?_) z4 rfl (by decide : 2 < 6) (hE _ (fun b nb => ?_) z5)
 ·rw [Heap.get?_update_other _ _ ne.symm, Heap.get?_update_other _ _ ne.symm]
 ·rw [Heap.get?_update_other _ _ nb.symm, Heap.get?_update_other _ _ nb.symm, Heap.get?_update_other _ _ nb.symm]
end
end L3
namespace L3
open PySem L2 PySem.Spec PyProof.Rows Builtin
section
variable {M : Model} {A : Around} {E : Value → Shared → Prop} {s : Shared} {B : Heap} {env : PySem.Env} {out : List PySem.Env} {L e : Addr} {cls a0 : Value}
theorem DQ {l : List PySem.Env} {fl : Value} {Q : Unit → Shared → Prop} (q1 : B.StaysIn s.heap) (q2 : s.heap.FunFrames B l) (tr : s.heap.TracedAtW B e cls a0 fl)
  (k : ∀ g, B.StaysIn g → g.FunFrames B l → g.TracedAtW B e cls a0 (rawInt L) → s.heap.UpToSlots g → Q () { s with heap := g }) : wpAny M A (setFlight (.ref e) (some L)) Q E s := by
 obtain ⟨o, v, T, oT, w, x1, x2, x4, x5, x6, x7, x8, x9, x10⟩ := tr;have sz : 3 < w.size := (Array.getElem?_eq_some_iff.mp x10).1;have ot : ∀ b, b ≠ T → (s.heap.update T (Obj.mapFields fun z => z.setIfInBounds 3 ((some L).elim Value.none fun f => rawInt f))).get? b = s.heap.get? b := fun b hb => Heap.get?_update_other _ _ hb.symm
 have nr : ∀ b u, s.heap.get? b = some u → (∀ z, u.data ≠ .fields z) → b ≠ T := fun b u hu hn z => by
  subst z;rw [x8] at hu;cases hu;exact hn w x9
 unfold setFlight;refine wpAny_bind (wpAny_field x1 x4 x5 ?_);rw [if_pos (by simp : (Value.ref T != Value.none) = true)]
 refine wpAny_setField x8 x9 sz (k _ (fun b u hb => ?_) (q2.of_keeps fun b u hu hn => ⟨u, by rw [ot b (nr b u hu hn)]; exact hu, rfl⟩) ?_ (fun b u hu hn => ⟨u.slots, by rw [ot b (nr b u hu hn)]; exact hu⟩))
 ·rw [ot b fun z => by subst z; rw [x6] at hb; cases hb]
  exact q1 b u hb
 ·exact ⟨o, v, T, _, _, by rw [ot e x7.symm]; exact x1, x2, x4, x5, x6, x7, Heap.get?_update_self _ x8 (Obj.isFreed_of_fields (Obj.data_mapFields x9 _)), Obj.data_mapFields x9 _, by simp [sz]⟩
theorem leaveH {Q : Unit → Shared → Prop} (q3 : env.frame = some L) (hh : Heap.HeldW B (env :: out) e cls a0 L s.heap)
  (k : ∀ g, Heap.FlyingW B out e cls a0 g → s.heap.UpToSlots g → Q () { s with heap := g }) : wpAny M A (leaving env (.ref e)) Q E s := by
 unfold leaving;refine wpAny_bind (wpAny_noteFrame_againW q3 hh.2.2.2 (wpAny_landsW hh fun g fl up => ?_))
 obtain ⟨k1, k2, ⟨_, _, k3⟩, k4⟩ := fl;exact k g ⟨k1, k2, k3, k4⟩ up
theorem CI {Q : Flow → Shared → Prop} (q3 : env.frame = some L) (fl : Heap.FlyingW B (env :: out) e cls a0 s.heap)
  (k : ∀ g, Heap.HeldW B (env :: out) e cls a0 L g → s.heap.UpToSlots g → E (.ref e) { s with heap := g }) : wpAny M A (PySem.passOn "try.no-clause-matches" (.ref e) env : Sem Flow) Q E s := by
 obtain ⟨f1, f2, f3, f4⟩ := fl;obtain ⟨o, v, T, oT, w, x1, x2, x4, x5, x6⟩ := id f4;unfold PySem.passOn;refine wpAny_bind (wpAny_field x1 x4 x5 ?_);rw [if_neg (by simp : ¬ ((Value.ref T == Value.none) = true)), q3]
 first
  | exact wpAny_bind (DQ f1 f3 f4.at fun g y1 y2 y3 y4 => wpAny_throw (k g ⟨y1, f2, y2, y3⟩ y4))
  | exact wpAny_bind (wpAny_pure (wpAny_bind (DQ f1 f3 f4.at fun g y1 y2 y3 y4 => wpAny_throw (k g ⟨y1, f2, y2, y3⟩ y4))))
end
section
variable {X : Cx} {E0 : XK} {pins : List (Addr × Obj)} {σ : St} {H : Hp} {s : Shared}
theorem Lv.madeX (L : Lv X E0) (I : Inv X pins σ H s) {h' : Heap} {e C t : Addr} {v2 v3 v4 : Value} (keep : ∀ b o, s.heap.get? b = some o → h'.get? b = some o) (new : s.heap.get? e = none) (he : h'.get? e = some { cls := .ref C, data := .fields #[.ref t, .none, v2, .none, v3, v4] }) (hE : E0 (.ref C) none H) :
  wpAny (model X.prog X.w) X.A (leaving X.env (.ref e)) (fun _ s'' => CXE X.prog X.w X.outer X.H₀ X.s₀ E0 (.ref e) s'') (fun e' s'' => CXE X.prog X.w X.outer X.H₀ X.s₀ E0 e' s'') { s with heap := h' } := by
 obtain ⟨hst, hfr, hex, hxe⟩ := L;have hin : ∀ env ∈ (X.env :: X.outer), ∀ b, env.frame = some b → b ∈ frs (X.env :: X.outer) := fun env he b hb => List.mem_filterMap.mpr ⟨env, he, hb⟩
 have fr := I.stack;rw [hst] at fr;have st0 : (PySem.W.hideAll s.heap (frs (X.env :: X.outer))).StaysIn s.heap := fun b o q => PySem.W.of_hideAll _ q
 have ff := PySem.W.funFrames_hide fr hin;refine wpAny_leaving_firstW (base := PySem.W.hideAll s.heap (frs (X.env :: X.outer))) (s := { s with heap := h' }) (a0 := .ref t) (by rw [← hst]; exact I.ok.frames) (ff.of_keeps fun b o hb _ => ⟨o, keep b o hb, rfl⟩) hfr he
  (fun b o hb => keep b o (st0 b o hb)) ?_ rfl rfl rfl fun h'' lw => ?_
 ·cases hq : (PySem.W.hideAll s.heap (frs (X.env :: X.outer))).get? e with
  | none => rfl
  | some o' =>
   have := st0 e o' hq;rw [new] at this;cases this
 ·obtain ⟨k1, ⟨_, _, k2⟩, k3, k4⟩ := lw
  have up' : s.heap.UpToSlots h'' := (Heap.UpToSlots.of_keeps keep).trans k4;obtain ⟨u1, u2, u3⟩ := jj I hst hfr hex up' k1 fun b o q n _ => PySem.W.hideAll_get _ q (by rw [← hst]; exact n)
  refine ⟨e, _, _, _, H, rfl, I.os, I.bare, u1, u2, ⟨k1, ?_, k2, k3⟩, u3, hE⟩;cases hq : (PySem.W.hideAll s.heap (frs (X.env :: X.outer))).get? e with
  | none => rfl
  | some o' =>
   have := st0 e o' hq;rw [new] at this;cases this
end
end L3
namespace L3
open PySem L2 PySem.Spec PyProof.Rows Builtin
section
variable {X : Cx} {pins : List (Addr × Obj)} {σ : St} {H : Hp} {s : Shared} {ea C : Addr} {oe : Obj} {v : Array Value} {x t : Str} {j : Nat} {np cpos pos p2 p5 : Pos} {j2 : Nat} {EE : Value → Shared → Prop} {Q : Flow → Shared → Prop}
theorem pinned (I : Inv (cxM X ea oe) pins σ H s) : s.heap.get? ea = some oe := (I.pin (ea, oe) List.mem_cons_self).1
theorem yf (I : Inv (cxM X ea oe) pins σ H s) (hv : oe.data = .fields v) (h2 : v[2]? = some .none) (hg : Gl X x) (hm : X.mg x = some (.ref C)) (hk : PySem.W.excIn X.K C vE vN = true) (hd : (x == ("__debug__" : Str)) = false)
  (hs : starEach [.Constant (.str t) j p2] X.env = (false, eval (.Constant (.str t) j p2) X.env) :: starEach [] X.env)
  (k : ∀ s7 : Shared, Inv (cxM X ea oe) pins σ H s7 → ∀ (e tt : Addr) (g : Heap), (∀ b o, s7.heap.get? b = some o → g.get? b = some o) → s7.heap.get? e = none → g.get? e = some { cls := .ref C, data := .fields #[.ref tt, .none, .ref ea, .none, .bool true, .none] } → EE (.ref e) { s7 with heap := g }) :
  wpAny (model X.prog X.w) (X.A.mark (some (.ref ea))) (exec (.Raise (some (.Call (.Name x np) [.Constant (.str t) j p2] [] cpos)) (some (.Constant .none j2 p5)) pos) X.env) Q EE s := by
 obtain ⟨mr, N, y1, y2, y3, y4, y5, y6, y7, y8, y9, z0, z1, z2, z3, z5, mN, hC, hN, hni, T⟩ := gP I.mod.kin hk;rw [arm_exec_Raise];simp only [evalOpt, Option.map];refine wpAny_bind (wpAny_standAt (oW (C := C) (nm := y1) (q := y2) (N := N) (bs := y3) (bm := mr) (hdct := y4) (sn := y5) (sub := y6) (ab := y7) (col := y8) (dd := y9) (k0 := z0) (k1 := z1) (k2 := z2) (k3 := z3) (k5 := z5) (newId := vN) (T.hasType PySem.F.excBase_ValueError.hasBase) rfl ?_ ?_))
 ·intro s1
  exact wpAny_bind (wpAny_pure (wpAny_bind (wpAny_standAt (wpAny_pure ⟨rfl, rfl⟩))))
 ·refine wpAny_bind (wpAny_mono (wpAny_Call_ofName (fC (X := cxM X ea oe) I hg hm ?_ hd)) (fun u s3 h3 => wpAny_bind (wpAny_standAt (wpAny_pure h3))) fun _ _ y => y)
  have ha : PA (cxM X ea oe) [.Constant (.str t) j p2] _ := de nq fY hs;have hw := ha cpos pins s σ H (fun vs H' => H' = H ∧ vs.length ≤ sizeLine) I ⟨rfl, show 1 ≤ sizeLine by decide⟩
  have pl : (backTo cpos (starEach [.Constant (.str t) j p2] X.env)).any (·.1) = false := by rw [hs]; rfl
  unfold callWith;have hw2 : wpAny (model X.prog X.w) (X.A.mark (some (.ref ea))) (evalArgs (.ref C) true (backTo cpos (starEach [.Constant (.str t) j p2] X.env)) []) (fun a s2 => ∃ vs H2, Inv (cxM X ea oe) pins σ H2 s2 ∧ Vals vs a.pos ∧ a.kw = [] ∧ H2 = H ∧ vs.length ≤ sizeLine) EE s := by
   have hw' : wpAny (model X.prog X.w) (X.A.mark (some (.ref ea))) _ _ _ s := hw;rw [hs];rw [show starEach [.Constant (.str t) j p2] (cxM X ea oe).env = (false, eval (.Constant (.str t) j p2) X.env) :: starEach [] X.env from hs] at hw'
   refine Calls.evalArgs_plain (wpAny_mono hw' (fun us s2 hz => ?_) fun _ _ y => y.elim)
   obtain ⟨vs, H2, I2, r2, h3, h4⟩ := hz;exact ⟨vs, H2, I2, r2, rfl, h3, h4⟩
  refine wpAny_bind (wpAny_holding (wpAny_mono hw2 (fun a s2 hz => wpAny_bind (wpAny_standAt ?_)) fun _ _ y => y))
  obtain ⟨vs, H2, I2, r2, hkw, rfl, hl⟩ := hz;obtain ⟨apos, akw⟩ := a;obtain rfl : akw = [] := hkw;have hC2 := I2.bk _ _ hC;have hN2 := hN.keeps I2.bk;have T2 := T.keeps I2.bk;have hlen : apos.length ≤ sizeLine := by rw [← r2.length]; exact hl
  have pn := pinned I2;obtain ⟨hp, g, d, tk, os⟩ := s2;simp only [pl];refine wpAny_bind (wpAny_keeperOf_exc hC2 ?_);refine wpAny_bind (wpAny_call_exc_subU (hrest := hlen) PySem.F.excBase_ValueError (by decide) PySem.F.excBase_ValueError T2 hC2 hN2 hni fun h' e hm => wpAny_bind (wpAny_holding (wpAny_point (wpAny_pure ?_))))
  obtain ⟨tt, ht, _, _⟩ := hm.there;have ne : ea ≠ e := fun z => by
   subst z;have := hm.new;rw [pn] at this;cases this
  have nC : C ≠ e := fun z => by
   subst z;have := hm.new;rw [hC2] at this;cases this
  refine ⟨e, tt, rfl, ne, hm.keeps _ _ hC2, nC, ⟨oe, v, hm.keeps _ _ pn, hv, h2⟩, ht, fun g2 k1 k2 => k _ I2 e tt g2 (fun b o hb => ?_) hm.new k2⟩
  rw [k1 b fun z => by subst z; have := hm.new; rw [hb] at this; cases this]
  exact hm.keeps b o hb
end
end L3
namespace L3
open PySem L2 PySem.Spec PyProof.Rows Builtin
section
variable {X : Cx} {E0 E' : XK} {pins : List (Addr × Obj)} {σ : St} {H1 : Hp} {s1 s' : Shared} {ev : Value} {C2 D : Addr} {x dx t : Str} {j : Nat} {np np2 cpos pos p2 p5 hpos : Pos} {j2 : Nat} {Q : Flow → Shared → Prop}
theorem vc {M : Model} {A A' : Around} {env : PySem.Env} {K K' : Value → Shared → Prop} {e : Value} {s : Shared} (h : notedBy M A' env (cameBackBy M A env K) e s) (k : ∀ e s, K e s → K' e s) : notedBy M A' env (cameBackBy M A env K') e s :=
 have cb : ∀ e s, cameBackBy M A env K e s → cameBackBy M A env K' e s := fun e s y => wpAny_mono y (fun _ s2 z => k _ s2 z) fun _ _ z => k _ _ z
 wpAny_mono h (fun _ s2 z => cb _ s2 z) fun _ _ z => cb _ _ z
theorem zS (L : Lv X E0) (I : Inv X pins σ H1 s1) (cx : CXC X.prog X.w X.stack H1 s1 E' ev s')
  (hD : PySem.W.excIn X.K D vE vN = true) (hgD : Gl X dx) (hmD : X.mg dx = some (.ref D)) (hd : (dx == ("__debug__" : Str)) = false)
  (hg : Gl X x) (hm : X.mg x = some (.ref C2)) (hk : PySem.W.excIn X.K C2 vE vN = true) (hdx : (x == ("__debug__" : Str)) = false)
  (hs : starEach [.Constant (.str t) j p2] X.env = (false, eval (.Constant (.str t) j p2) X.env) :: starEach [] X.env)
  (h : ∀ cls H', E' cls none H' → ∃ C b, cls = .ref C ∧ PySem.W.subIn X.K (.ref C) (.ref D) = some b ∧ (b = true → E0 (.ref C2) none H') ∧ (b = false → E0 (.ref C) none H')) :
  wpAny (model X.prog X.w) X.A (noteFrame ev X.env) (fun _ s₂ => wpAny (model X.prog X.w) X.A (setFlight ev none) (fun _ s₃ =>
   wpAny (model X.prog X.w) X.A (handleBy ev X.env [.ExceptHandler (some (.Name dx np)) none [.Raise (some (.Call (.Name x np2) [.Constant (.str t) j p2] [] cpos)) (some (.Constant .none j2 p5)) pos] hpos]) Q X.xe s₃) X.xe s₂) X.xe s' := by
 obtain ⟨hst, hfr, hex, hxe⟩ := id L;obtain ⟨ea, cls, a0, B, H', rfl, os, bare, un, hok, flc, cov, hE'⟩ := cx;obtain ⟨C, b, rfl, hsub, hT, hF⟩ := h cls H' hE';obtain ⟨fl, f2⟩ := flc;have J : Inv X pins σ H' s' := I.call' os un hok bare fun b z => absurd z (by simp)
 have nf : ∀ b ∈ frs X.stack, ∀ o, s'.heap.get? b = some o → ∀ vs, o.data ≠ .fields vs := fun b m o q vs => by
  obtain ⟨_, o', q', k⟩ := J.stack.mem m;rw [q] at q';cases q';exact k vs
 have later : ∀ h5, B.StaysIn h5 → s'.heap.UpToSlots h5 → Inv X pins σ H' { s' with heap := h5 } := fun h5 st up => by
  obtain ⟨u5, k5⟩ := uK un hok st up cov nf J.stkFree;exact I.call' (s' := { s' with heap := h5 }) os u5 k5 bare fun b z => absurd z (by simp)
 obtain ⟨oe, vs, hoe, hoc, hod, _⟩ := fl.first
 have eaF : ea ∉ frs X.stack := fun m => nf ea m oe hoe vs hod
 have eaN : H' ea = none := by
  cases z : H' ea with
  | none => rfl
  | some u =>
   have q := cov ea oe hoe eaF (.inl (by rw [z]; simp))
   rw [fl.2.1] at q;cases q
 have eaL : ea ≠ X.env.locals := fun z => eaF (by rw [hst, gE hfr, z]; exact List.mem_cons_self)
 have eaO : ea ∉ X.fs := fun m => eaF (by rw [hst, gE hfr]; exact List.mem_cons_of_mem _ m)
 have mk : ∀ h5 o v, h5.get? ea = some o → o.data = .fields v → Inv X pins σ H' { s' with heap := h5 } → Inv (cxM X ea o) pins σ H' { s' with heap := h5 } := fun h5 o v q1 q2 I5 =>
  pM I5 ⟨q1, eaN, eaL, eaO, fun z => by rw [q2]; intro y; cases y⟩
 have cov2 : ∀ b o, s'.heap.get? b = some o → b ∉ frs X.stack → (H' b ≠ none ∨ X.s₀.heap.get? b ≠ none) → B.get? b = some o := fun b o q n hc => cov b o q n <| hc.imp_right fun z => by
  cases y : X.s₀.heap.get? b with
  | none => exact absurd y z
  | some u =>
   obtain ⟨o', q'⟩ := I.base.there b u y (by rw [hex]; simp)
   rw [q'];simp
 rw [hst] at fl;obtain ⟨g1, g2, g3, g4⟩ := fl;refine tV (by rw [← hst]; exact I.ok.frames) g3 hfr g4 g1 g2 f2 fun h4 n4 c4 => ?_
 obtain ⟨z1, z2, z3, z4⟩ := n4;refine qt (s := { s' with heap := h4 }) z1 z2 z3 c4 fun h5 y1 y2 y3 y4 y5 => ?_
 have up5 : s'.heap.UpToSlots h5 := Heap.UpToSlots.trans z4 y4;have I5 := later h5 y1 up5;have fl5 : Heap.FlyingW B (X.env :: X.outer) ea (.ref C) a0 h5 := ⟨y1, g2, y2, y3⟩;obtain ⟨oe5, vs5, hoe5, hoc5, hod5, _⟩ := fl5.first
 have M5 := mk h5 oe5 vs5 hoe5 hod5 I5;refine wpAny_handleBy_cons (codeAny_handlers_test ?_) (by intro q; cases q)
 refine fC (X := cxM X ea oe5) M5 hgD hmD ?_ hd;refine uc (h := h5) (K := X.K) I5.kIn hD hsub hoe5 hoc5 ?_;cases b with
 | false =>
  show wpAny (model X.prog X.w) X.A (handleBy (.ref ea) X.env []) Q X.xe _
  refine wpAny_handleBy_nil (CI (s := { s' with heap := h5 }) hfr fl5 fun h6 held up6 => hxe _ _ ?_)
  refine leaveH (s := { s' with heap := h6 }) hfr held fun h7 fl7 up7 => ?_
  have up : s'.heap.UpToSlots h7 := (up5.trans up6).trans up7;obtain ⟨u1, u2, u3⟩ := jj J hst hfr hex up fl7.1 cov2;exact ⟨ea, _, _, B, H', rfl, J.os, bare, u1, u2, fl7, u3, hF rfl⟩
 | true =>
  refine codeAny_handlers_suite (qt (s := { s' with heap := h5 }) y1 y2 y3.at y5 fun h6 w1 w2 w3 w4 w5 => ?_)
  have I6 := later h6 w1 (up5.trans w4);obtain ⟨oe6, vs6, hoe6, hod6, hv6⟩ := w5;have M6 := mk h6 oe6 vs6 hoe6 hod6 I6;refine wpAny_execs_cons (yf M6 hod6 hv6 hg hm hk hdx hs fun s7 I7 e tt g k1 k2 k3 => ?_)
  have J7 := kS I.ok.hd I.ok.frames I7;exact vc (PassesOwnAt.leaving _ _ (L.madeX J7 k1 k2 k3 (hT rfl))) fun e s z => hxe e s z
end
end L3
namespace L3
open PySem L2 PySem.Spec PyProof.Rows Builtin
noncomputable def og (f : Fs) (dn ps : List Str) (en : Str) : Fs := fun ρ => match f ρ with
 | .ok o => .ok o
 | .ex c => if dn.contains c = true then .ex en else if ps.contains c = true then .ex c else .bad
 | .bad => .bad
section
variable {M : Mx} {X : Cx} {C2 D : Addr} {x dx t : Str} {j : Nat} {np np2 cpos pos rpos p2 p5 hpos : Pos} {j2 : Nat} {body : List Stmt} {f : Fs} {dn ps : List Str}
theorem wL (L : Lv X M.E) (hb : ∀ (xe : Value → Shared → Prop) (E' : XK), Passes (CXC X.prog X.w) { X with xe := xe } E' → DSs { M with E := E' } { X with xe := xe } body f)
  (hD : PySem.W.excIn M.K D vE vN = true) (hgD : Gl X dx) (hmD : M.mg dx = some (.ref D)) (hg : Gl X x) (hm : M.mg x = some (.ref C2)) (hk : PySem.W.excIn M.K C2 vE vN = true)
  (hdn : ∀ c, dn.contains c = true → ∃ C, M.mg c = some (.ref C) ∧ PySem.W.subIn M.K (.ref C) (.ref D) = some true) (hps : ∀ c, ps.contains c = true → ∃ C, M.mg c = some (.ref C) ∧ PySem.W.subIn M.K (.ref C) (.ref D) = some false)
  (hd : (dx == ("__debug__" : Str)) = false := by decide) (hdx : (x == ("__debug__" : Str)) = false := by decide)
  (hs : starEach [.Constant (.str t) j p2] X.env = (false, eval (.Constant (.str t) j p2) X.env) :: starEach [] X.env := by rfl) :
  DS M X (.Try body [.ExceptHandler (some (.Name dx np)) none [.Raise (some (.Call (.Name x np2) [.Constant (.str t) j p2] [] cpos)) (some (.Constant .none j2 p5)) rpos] hpos] [] [] pos) (og f dn ps x) := fun hK hM pins s σ H D' I q => by
 obtain ⟨F0, ρ, fp, S, pq⟩ := q;unfold og at pq;refine wpAny_Try_except ?_;have post : ∀ E' : XK, (∀ c, f ρ = .ex c → ∃ cv, M.mg c = some cv ∧ ∀ od H2, (∀ a o, H a = some o → a ∉ fp → H2 a = some o) → E' cv od H2) → tS { M with E := E' } X.N.length f D' σ H := fun E' hE => by
  refine ⟨F0, ρ, fp, S, ?_⟩;cases hf : f ρ with
  | ok o =>
   rw [hf] at pq;have pq' : eA M X.N.length F0 H fp D' o := pq;show eA { M with E := E' } X.N.length F0 H fp D' o
   cases o <;> exact pq'
  | ex c => exact hE c hf
  | bad =>
   rw [hf] at pq;exact pq.elim
 have ex1 : ∀ c, f ρ = .ex c → ∃ C b, M.mg c = some (.ref C) ∧ PySem.W.subIn M.K (.ref C) (.ref D) = some b ∧ ∀ H2, (∀ a o, H a = some o → a ∉ fp → H2 a = some o) → (b = true → M.E (.ref C2) none H2) ∧ (b = false → M.E (.ref C) none H2) := fun c hf => by
  rw [hf] at pq;by_cases h1 : dn.contains c = true
  ·obtain ⟨C, a1, a2⟩ := hdn c h1
   have pq' : ay M H fp (eA M X.N.length F0 H fp D') (if dn.contains c = true then .ex x else if ps.contains c = true then .ex c else .bad) := pq
   rw [if_pos h1] at pq';obtain ⟨cv, e1, e2⟩ := pq';rw [hm] at e1;cases e1;exact ⟨C, true, a1, a2, fun H2 k => ⟨fun _ => e2 none H2 k, fun z => by cases z⟩⟩
  ·by_cases h2 : ps.contains c = true
   ·obtain ⟨C, a1, a2⟩ := hps c h2
    have pq' : ay M H fp (eA M X.N.length F0 H fp D') (if dn.contains c = true then .ex x else if ps.contains c = true then .ex c else .bad) := pq
    rw [if_neg h1, if_pos h2] at pq';obtain ⟨cv, e1, e2⟩ := pq';rw [a1] at e1;cases e1;exact ⟨C, false, a1, a2, fun H2 k => ⟨fun z => (by cases z), fun _ => e2 none H2 k⟩⟩
   ·have pq' : ay M H fp (eA M X.N.length F0 H fp D') (if dn.contains c = true then .ex x else if ps.contains c = true then .ex c else .bad) := pq
    rw [if_neg h1, if_neg h2] at pq';exact pq'.elim
 refine wpAny_mono (hb (fun e s₁ => wpAny (model X.prog X.w) X.A (noteFrame e X.env) (fun _ s₂ => wpAny (model X.prog X.w) X.A (setFlight e none) (fun _ s₃ => wpAny (model X.prog X.w) X.A (handleBy e X.env [.ExceptHandler (some (.Name dx np)) none [.Raise (some (.Call (.Name x np2) [.Constant (.str t) j p2] [] cpos)) (some (.Constant .none j2 p5)) rpos] hpos]) (SP X pins D') X.xe s₃) X.xe s₂) X.xe s₁)
  (fun cls od H2 => ∃ c, f ρ = .ex c ∧ M.mg c = some cls ∧ ∀ a o, H a = some o → a ∉ fp → H2 a = some o) (fun pins2 σ2 H2 s2 e s3 I2 cx => ?_) hK hM pins s σ H D' (sF I) (post _ fun c hf => ?_)) (fun fl s1 z => ?_) fun _ _ z => z
 ·refine zS L (gB I2) cx (by rw [hK]; exact hD) hgD (by rw [hM]; exact hmD) hd hg (by rw [hM]; exact hm) (by rw [hK]; exact hk) hdx hs fun cls H' hz => ?_
  obtain ⟨c, hf, hc, kp⟩ := hz;obtain ⟨C, b, a1, a2, a3⟩ := ex1 c hf;rw [a1] at hc;cases hc;exact ⟨C, b, rfl, by rw [hK]; exact a2, (a3 H' kp).1, (a3 H' kp).2⟩
 ·obtain ⟨C, b, a1, _, _⟩ := ex1 c hf
  exact ⟨.ref C, a1, fun od H2 kp => ⟨c, hf, a1, kp⟩⟩
 ·cases fl with
  | next =>
   obtain ⟨σ', H', J, d⟩ := z;exact wpAny_execs_nil ⟨σ', H', gB J, d⟩
  | brk =>
   obtain ⟨σ', H', J, d⟩ := z;exact ⟨σ', H', gB J, d⟩
  | cont =>
   obtain ⟨σ', H', J, d⟩ := z;exact ⟨σ', H', gB J, d⟩
  | ret u =>
   obtain ⟨v, σ', H', J, r, d⟩ := z;exact ⟨v, σ', H', gB J, r, d⟩
end
end L3
namespace L3
open PySem L2 PySem.Spec PyProof.Rows
theorem uZ {P : Program} {w : World} {K : PySem.W.Frag} {mg : Str → Option Value} {base : Heap} {x qual : Str} {st : Stmt} {f : Addr} {fd : FuncData} {N ps : List Str} {k np n : Nat} {body : Fs} {fn : Fn} (hf : fn = cq np n body) (hp : ps.length = np) (hn : N.length = n) (F : Fun K x qual st f fd) (S : FnScope N ps (ar st))
  (h : ∀ (cdv : Value) (A : Around) (outer : List PySem.Env) (s : Shared) (H : Hp) (E : XK), Room k (A.deeper (envOfC qual (ar st) s.heap.objs.size f cdv)) → DSs ⟨K, mg, E⟩ (jZ (CXC P w) P w K mg base N qual (ar st) f cdv A outer s H E) (aR st) body) :
  FnOk P w K mg base (CXC P w) (k + 1) f fd ps (sp3 K mg fn) := by
 subst hf hp hn;have hpl : ps.length ≤ N.length := by
  have := congrArg List.length S.pre;rw [List.length_take] at this
  lia
 have hlen : ∀ vs H Q E, sp3 K mg (cq ps.length N.length body) vs H Q E → vs.length = ps.length := by
  rintro vs H Q E ⟨F, ds, sm, ra, p⟩;by_cases hl : ds.length = ps.length
  ·rw [RepAll.len ra]
   exact hl
  ·unfold cq at p
   rw [if_neg hl] at p;exact p.elim
 obtain ⟨oc, od, kV, doc, pm, an, cdv, ct, osl, rfl, lk, hcd⟩ := F.ex;refine uQ lk hcd S hlen fun A outer s H vs Q E hr hs => ?_
 have hvl := hlen _ _ _ _ hs;obtain ⟨F0, ds, sm, ra, p⟩ := hs;have hdl : ds.length = ps.length := by rw [← RepAll.len ra]; exact hvl
 unfold cq at p;rw [if_pos hdl] at p;refine ⟨_, h cdv A outer s H E hr rfl rfl, F0, iE N.length ds, [], ⟨sm, ?_, List.nodup_nil, (fun _ m => by cases m), ?_⟩, (ay.bind p).mono fun o po => ?_⟩
 ·unfold L2.start iE
  rw [hvl, hdl];exact iB _ ra
 ·unfold iE
  show _ = N.length
  rw [List.length_append, List.length_map, List.length_replicate, hdl]
  lia
 ·cases o with
  | nx ρ => exact fun σ' F' H' fp' S' st => po .non F' H' [] ⟨st.ff, fun a o q => st.keep a o q (by simp), S'.same, fun a q z => st.nw a q (by simp) z⟩ (Res.sh .non) fun _ m => by cases m
  | rt y => exact fun v F' H' fx sm' r st => po v F' H' fx ⟨st.ff, fun a o q => st.keep a o q (by simp), sm', fun a q z => st.nw a q (by simp) z⟩ r fun a m => (st.new a m).elim (fun z => by cases z) id
  | bk ρ => exact po.elim
  | ct ρ => exact po.elim
theorem dn1 {M : Mx} {D C : Addr} {a : Str} {b : Bool} (h : M.mg a = some (.ref C)) (k : PySem.W.subIn M.K (.ref C) (.ref D) = some b) : ∀ c, ([a] : List Str).contains c = true → ∃ C, M.mg c = some (.ref C) ∧ PySem.W.subIn M.K (.ref C) (.ref D) = some b := fun c hc => by
 rw [List.contains_cons, Bool.or_eq_true] at hc;rcases hc with z | z
 ·rw [beq_iff_eq.mp z]
  exact ⟨C, h, k⟩
 ·cases z
noncomputable def trK (dn ps : List Str) (en : Str) : R Out → R Out
 | .ok o => .ok o
 | .ex c => if dn.contains c = true then .ex en else if ps.contains c = true then .ex c else .bad
 | .bad => .bad
theorem oV {f : Fs} {dn ps : List Str} {en : Str} {ρ : L3.Env} : og f dn ps en ρ = trK dn ps en (f ρ) := by
 unfold og trK;cases f ρ <;> rfl
theorem yc {dn ps : List Str} {en : Str} {o : Out} : trK dn ps en (.ok o) = .ok o := rfl
theorem sY {dn ps : List Str} {en c : Str} : trK dn ps en (.ex c) = if dn.contains c = true then .ex en else if ps.contains c = true then .ex c else .bad := rfl
noncomputable def pS : PyData → PyData → R OD
 | .str x, .int n => if x.length ≤ 100 ∧ 0 ≤ n ∧ n ≤ 1000 then .ok (.sh (.str (Txt.mul x n))) else .bad
 | _, _ => .bad
theorem wz {x : Str} {n : Int} (h1 : x.length ≤ 100) (h2 : 0 ≤ n) (h3 : n ≤ 1000) : MulOk x n := by
 have pr : (x.length : Int) * n ≤ 100 * n := Int.mul_le_mul_of_nonneg_right (by lia) h2
 refine ⟨?_, fun hn _ => ?_, fun hn _ => ?_⟩
 ·rw [Bool.or_eq_false_iff]
  exact ⟨decide_eq_false (by lia), decide_eq_false (by lia)⟩
 ·have : (x.length : Int) ≤ (2 ^ 63 - 1) / n := by
   rw [Int.le_ediv_iff_mul_le (by lia)]
   lia
  lia
 ·unfold Builtin.Str.tooLong
  rw [sizeLine_eq];have : x.length * n.toNat ≤ 100 * n.toNat := Nat.mul_le_mul_right _ h1;exact decide_eq_false (by lia)
section
variable {X : Cx} {M : Mx}
theorem vo (_ : X.K = M.K) : Ok2 M sQ pS := by
 intro x y dx dy F H fp Q s rx ry p;unfold pS at p;split at p
 ·cases rx; cases ry
  split at p
  ·rename_i hc
   exact ⟨_, _, rfl, rfl, wz hc.1 hc.2.1 hc.2.2, OkE.val s p (.str _)⟩
  ·exact p.elim
 ·exact p.elim
theorem zA {x : Str} {n : Int} (h1 : x.length ≤ 100) (h2 : 0 ≤ n) (h3 : n ≤ 1000) : pS (.str x) (.int n) = .ok (.sh (.str (Txt.mul x n))) := by
 show (if x.length ≤ 100 ∧ 0 ≤ n ∧ n ≤ 1000 then R.ok (OD.sh (.str (Txt.mul x n))) else .bad) = _
 rw [if_pos ⟨h1, h2, h3⟩]
end
end L3
namespace B
inductive F where
 | nil
 | cons (k : Nat) (c r : F)
namespace F
noncomputable def pre : F → List Nat
 | nil => []
 | cons k c r => k :: (pre c ++ pre r)
noncomputable def roots : F → List Nat
 | nil => []
 | cons k _ r => k :: roots r
noncomputable def zL : F → List Nat
 | nil => []
 | cons k c r => zL r ++ (k :: zL c)
noncomputable def app : F → F → F
 | nil, g => g
 | cons k c r, g => cons k c (app r g)
noncomputable def mir : F → F
 | nil => nil
 | cons k c r => app (mir r) (cons k (mir c) nil)
noncomputable def map (h : Nat → Nat) : F → F
 | nil => nil
 | cons k c r => cons (h k) (map h c) (map h r)
noncomputable def Con (ch : Nat → List Nat) : F → Prop
 | nil => True
 | cons k c r => ch k = roots c ∧ Con ch c ∧ Con ch r
noncomputable def Eld (e : Nat → Int) : Int → F → Prop
 | _, nil => True
 | p, cons k c r => e k = p ∧ Eld e (k : Int) c ∧ Eld e p r
theorem snoc : ∀ f : F, f ≠ nil → ∃ g k c, f = app g (cons k c nil)
 | nil, h => absurd rfl h
 | cons k c nil, _ => ⟨nil, k, c, rfl⟩
 | cons k c (cons k' c' r'), _ => by
  obtain ⟨g, a, b, e⟩ := snoc (cons k' c' r') (fun z => nomatch z)
  exact ⟨cons k c g, a, b, by rw [app, e]⟩
end F
end B
namespace B
namespace F
structure Pf (n : Nat) (e : Nat → Int) (c : F) : Prop where
 pre : 0 :: pre c = List.range n
 root : e 0 = -1
 eld : Eld e 0 c
variable {n : Nat} {e : Nat → Int} {c : F}
noncomputable def full (c : F) : F := cons 0 c nil
noncomputable def R (c : F) : List Nat := zL (full c)
noncomputable def g (c : F) (k : Nat) : Nat := (R c).idxOf k
noncomputable def e1 (e : Nat → Int) (c : F) (i : Nat) : Int := match (R c)[i]? with
 | some k => if e k < 0 then -1 else (g c (e k).toNat : Int)
 | none => -1
noncomputable def c1 (c : F) : F := map (g c) (mir c)
end F
end B
namespace B
namespace F
end F
end B
namespace B
open PySem L2 L3
noncomputable def fN : Fs := (aI (sIf (aJ (eOp gLt (ag 1) (eB dA (aj (ag 0) ax)))) (c_ (eOp gIx (ag 0) (ag 1))) sNx)
 (aI (bx 2 (eOp a_ (eOp ie (eC (.int 7919)) (ag 1)) (eC (.int 5))))
 (aI (sIf (aJ (eOp gGt (eB dA (aj (ag 0) ax)) (eC (.int 0)))) (bx 2 (eOp fi (eOp a_ (eOp ie (eOp gIx (ag 0) (eOp fi (ag 1) (eB dA (aj (ag 0) ax)))) (eC (.int 48271))) (eOp ie (ag 1) (eC (.int 7919)))) (eC (.int 2147483647)))) sNx)
 (c_ (eOp fi (eOp ie (ag 2) (ag 2)) (eC (.int 2147483629)))))))
noncomputable def cL : Fn := cq 2 3 fN
noncomputable def eX : Fs := (c_ (nX (oz "int" (ag 0)) (rN (oz "bool" (ag 0)))))
noncomputable def du : Fn := cq 1 1 eX
noncomputable def e9 : Fs := (aI (bx 2 (eC (.str "abcdefghijklmnopqrstuvwxyz")))
 (aI (bx 3 (eC (.str "")))
 (aI (g_ (iR1 (eOp a_ (eC (.int 1)) (eOp fi (ag 0) (ag 1)))) (gNm 4) (bx 3 (eOp a_ (ag 3) (eOp gIx (ag 2) (eOp fi (eOp gI (ag 0) (eOp a_ (eC (.int 9)) (eOp ie (eOp ie (eC (.int 4)) (ag 4)) (ag 4)))) (eC (.int 26)))))))
 (c_ (ag 3)))))
noncomputable def dr : Fn := cq 2 5 e9
noncomputable def fP : Fs := (aI (bx 5 (dB ax))
 (aI (bx 6 (eSh (dB ax)))
 (aI (g_ (iR1 (ag 2)) (gNm 7) (aI (bx 8 (eOp fi (eOp ie (aV cL (aj (ag 0) (aj (eOp a_ (ag 1) (ag 7)) ax))) (eC (.int 69621))) (eC (.int 2147483629))))
 (aI (sIf (aJ (eOp gGt (ag 7) (eC (.int 0)))) (aI (bx 9 (eOp a_ (eC (.int 1)) (eOp fi (ag 8) (eB dA (aj (ag 6) ax)))))
 (aI (sIf (aJ (eOp gEq (eOp fi (eOp gI (ag 8) (eC (.int 16))) (eC (.int 3))) (eC (.int 0)))) (bx 9 (eB dA (aj (ag 6) ax))) sNx)
 (aI (bx 6 (eSh (eSl gC (ag 6) dz (dj (eB qq (aj (ag 9) (aj (ag 4) ax)))))))
 (jv 5 (eSh (lh (aj (eOp gIx (ag 6) (eUn hG (eC (.int 1)))) (aj (eSh (aV dr (aj (eOp gI (ag 8) (eC (.int 64))) (aj (ag 3) ax)))) (aj (eOp a_ (eC (.int 1)) (eOp fi (eOp gI (ag 8) (eC (.int 4096))) (eC (.int 9)))) ax))))))))) (jv 5 (eSh (lh (aj (eUn hG (eC (.int 1))) (aj (eSh (aV dr (aj (eOp gI (ag 8) (eC (.int 64))) (aj (ag 3) ax)))) (aj (eOp a_ (eC (.int 1)) (eOp fi (eOp gI (ag 8) (eC (.int 4096))) (eC (.int 9)))) ax)))))))
 (bx 6 (eSh (eOp a_ (ag 6) (dB (aj (ag 7) ax))))))))
 (gj 5))))
noncomputable def eF : Fn := cq 5 10 fP
local macro_rules
 | `(tactic| push_cast only [$a,*] $[$l:location]?) => do
  let e ← ("v_var v_c E7 EB xW yT AM zY v_and v_or v_not EG Ar wM BK A0 zu v_b EK v_bor zl Ao BB Dx Eg wK vW EO Ad Aa Fj Es Fm Fd AX Bu DN Bj AU ye DZ Fu EX ET CO Cm AO yE DK ym Ag Cj Bz zW Bp Br BD Bn BI CT B0 EV CA EF Bc Ah AB CQ AL wA wI Ai yB AH yt Bl Dc zV Cg zm Ak Am C0 By zQ EJ BW zI AQ yn Ab CM va DC CV Ck BZ EY EW EC Ci yA za Cy Bv Ac Cs Dn CD Bb CK Dg BM Dr DP Ee Bg Fp Fb Ey Ex E5 Fv zC Cf DH yx xV yM yy Az zk Dw An AZ Ay at0 at1 at2 Cp z_ AF yJ yC yz Ap zw yY zq yP zT ze Af zZ xQ yN EI Fc Ez EZ E9 Et g8 xh Dt flat List.map_cons List.map_nil List.length_cons List.length_nil List.getElem?_cons_zero List.getElem?_cons_succ List.getElem?_nil List.set_cons_zero List.set_cons_succ List.cons_append List.nil_append List.append_nil List.replicate_succ List.replicate_zero Nat.reduceAdd Nat.reduceSub Nat.reduceLeDiff Nat.reduceLT Nat.reduceEqDiff Nat.zero_add Bool.not_true Bool.not_false if_true if_false Bool.false_eq_true reduceIte decide_true decide_false reduceCtorEq v_ Fh Int.reduceLT Int.reduceLE Int.reduceNeg Int.reducePow Int.reduceToNat Int.reduceMul Int.reduceAdd Int.reduceSub Nat.reducePow and_true true_and and_self List.length_map B_ C3 v_sub Ct Ea CZ Cw Df Bk Cc Ba Int.cast_ofNat_Int Int.reduceEq Int.reduceNe CJ zO eN Bw Bx CS A_ DL".splitOn " ").toArray.mapM fun s => `(Lean.Parser.Tactic.simpLemma| $(Lean.mkIdent s.toName):ident)
  `(tactic| simp (maxSteps := 1000000) -implicitDefEqProofs only [$e,*, $a,*] $[$l]?)
theorem qZ (z : Int) : du [.int z] = .ok (.sh (.bool true)) := by
 unfold du eX;push_cast only [and_self]
theorem mW (ns : List Int) (k : Int) (h0 : 0 ≤ k) (h1 : k < 1000000) : ∃ z, cL [.list (ns.map PyData.int), .int k] = .ok (.sh (.int z)) := by
 unfold cL fN;by_cases hk : k < (ns.length : Int)
 ·obtain ⟨x, e1, e2⟩ := pk (ns.map PyData.int) k h0 (by simpa using hk)
  rw [List.getElem?_map] at e1;obtain ⟨z, _, rfl⟩ := Option.map_eq_some_iff.mp e1;exact ⟨z, by push_cast only [decide_eq_true hk, e2]⟩
 ·by_cases hl : (0 : Int) < ns.length
  ·have hm := df k hl
   obtain ⟨x, e1, e2⟩ := pk (ns.map PyData.int) (k % (ns.length : Int)) hm.1 (by simpa using hm.2)
   rw [List.getElem?_map] at e1;obtain ⟨z, _, rfl⟩ := Option.map_eq_some_iff.mp e1;have h2 := df (z * 48271 + k * 7919) (show (0 : Int) < 2147483647 by decide)
   have c2 : hZ ((z * 48271 + k * 7919) % 2147483647) ((z * 48271 + k * 7919) % 2147483647) = true := v_ (by lia) (by lia)
   refine ⟨(z * 48271 + k * 7919) % 2147483647 * ((z * 48271 + k * 7919) % 2147483647) % 2147483629, ?_⟩;push_cast only [decide_eq_false hk, decide_eq_true hl, hl, e2, c2]
  ·have c2 : hZ (7919 * k + 5) (7919 * k + 5) = true := v_ (by lia) (by lia)
   refine ⟨(7919 * k + 5) * (7919 * k + 5) % 2147483629, ?_⟩;push_cast only [decide_eq_false hk, decide_eq_false hl, c2]
structure Nd where
 e : Int
 l : Str
 t : Int
noncomputable def gD (l : Str) : Prop := 1 ≤ l.length ∧ l.length ≤ 9 ∧ ∀ c ∈ l.cps.toList, 97 ≤ c ∧ c ≤ 122
noncomputable def mj (n : Nd) : Prop := gD n.l ∧ 1 ≤ n.t ∧ n.t ≤ 9
noncomputable def ndD (n : Nd) : PyData := .tuple [.int n.e, .str n.l, .int n.t]
noncomputable def aB (ts : List Nd) : List PyData := ts.map ndD
inductive Grown (deep : Nat) : List Nd → List Int → Prop
 | root {n : Nd} : mj n → n.e = -1 → Grown deep [n] [0]
 | step {ns : List Nd} {way : List Int} {c : Nat} {n : Nd} : Grown deep ns way → 1 ≤ c → c ≤ way.length → c ≤ deep → mj n → way[c - 1]? = some n.e → Grown deep (ns ++ [n]) (way.take c ++ [(ns.length : Int)])
theorem Grown.pos {deep : Nat} {ns : List Nd} {way : List Int} (g : Grown deep ns way) : 0 < ns.length ∧ 0 < way.length := by
 cases g with
 | root => simp
 | step => simp
theorem Grown.way_lt {deep : Nat} {ns : List Nd} {way : List Int} (g : Grown deep ns way) : ∀ x ∈ way, 0 ≤ x ∧ x < ns.length := by
 induction g with
 | root => simp
 | @step ns way c n g h1 h2 h3 h4 h5 ih =>
  intro x hx;rw [List.mem_append] at hx;rw [List.length_append];rcases hx with hx | hx
  ·have := ih x (List.mem_of_mem_take hx)
   simp
   lia
  ·have : x = ns.length := by simpa using hx
   simp
   lia
theorem Grown.ok {deep : Nat} {ns : List Nd} {way : List Int} (g : Grown deep ns way) : ∀ n ∈ ns, mj n := by
 induction g with
 | root h => simpa using h
 | @step ns way c n g h1 h2 h3 h4 h5 ih =>
  intro x hx;rcases List.mem_append.mp hx with hx | hx
  ·exact ih x hx
  ·have : x = n := by simpa using hx
   rw [this];exact h4
theorem Grown.elder {deep : Nat} {ns : List Nd} {way : List Int} (g : Grown deep ns way) : ∀ (k : Nat) (n : Nd), ns[k]? = some n → (k = 0 → n.e = -1) ∧ (0 < k → 0 ≤ n.e) ∧ n.e < k := by
 induction g with
 | @root n h e =>
  intro k m hm;cases k with
  | zero =>
   have : n = m := by simpa using hm
   subst this;exact ⟨fun _ => e, fun h => absurd h (Nat.lt_irrefl _), by lia⟩
  | succ k => simp at hm
 | @step ns way c n g h1 h2 h3 h4 h5 ih =>
  intro k m hm;by_cases hk : k < ns.length
  ·rw [List.getElem?_append_left hk] at hm
   exact ih k m hm
  ·rw [List.getElem?_append_right (by lia)] at hm
   have hk' : k = ns.length := by
    have := (List.getElem?_eq_some_iff.mp hm).1;simp at this
    lia
   subst hk';have : n = m := by simpa using hm
   subst this;have hp := g.pos.1;have := g.way_lt n.e (List.mem_of_getElem? h5);exact ⟨fun h => by lia, fun _ => this.1, this.2⟩
theorem vy {k : Int} (h0 : 0 ≤ k) (h1 : k < 26) : ∃ c, atI (Str.ofString "abcdefghijklmnopqrstuvwxyz").cps.toList k = some c ∧ 97 ≤ c ∧ c ≤ 122 := by
 have e : (Str.ofString "abcdefghijklmnopqrstuvwxyz").cps.toList = List.range' 97 26 := by decide +kernel
 rw [e];obtain ⟨v, e1, e2⟩ := pk (List.range' 97 26) k h0 (by simpa using h1)
 refine ⟨v, e2, ?_⟩;have := List.mem_range'.mp (List.mem_of_getElem? e1)
 lia
theorem sZ (k : Int) (h0 : 0 ≤ k) (h1 : k < 26) : ∃ c, atI (Str.ofString "abcdefghijklmnopqrstuvwxyz").cps.toList k = some c ∧ (97 ≤ c ∧ c ≤ 122) := vy h0 h1
theorem aL (a b : Str) : (a ++ b).cps.toList = a.cps.toList ++ b.cps.toList := PyProof.Rows.cps_toList_append a b
theorem aT (a : Str) : a.length = a.cps.toList.length := by simp [Str.length]
theorem sk (a : Str) (c : Nat) : (a ++ ⟨#[c]⟩ : Str).length = a.length + 1 := by
 rw [aT, aL, aT, List.length_append];rfl
theorem tH (z m : Int) (m1 : 1 ≤ m) (m2 : m ≤ 9) : ∃ l, gD l ∧ dr [.int z, .int m] = .ok (.sh (.str l)) := by
 unfold dr e9;have hm := df z (show 0 < m by lia)
 have s1 : aZ (1 + z % m) = true := jQ (by lia) (by lia)
 have p0 : (0 : Int) < m := by lia
 obtain ⟨f, hf⟩ : ∃ f : Nat → Nat, ∀ i : Nat, atI (Str.ofString "abcdefghijklmnopqrstuvwxyz").cps.toList (z / (9 + 4 * (0 + (i : Int)) * (0 + (i : Int))) % 26) = some (f i) ∧ (97 ≤ f i ∧ f i ≤ 122) :=
  ⟨fun i => Classical.choose (sZ _ (df (z / (9 + 4 * (0 + (i : Int)) * (0 + (i : Int)))) (show (0 : Int) < 26 by decide)).1 (df _ (by decide)).2), fun i => Classical.choose_spec (sZ _ (df (z / (9 + 4 * (0 + (i : Int)) * (0 + (i : Int)))) (show (0 : Int) < 26 by decide)).1 (df _ (by decide)).2)⟩
 push_cast only [p0, s1];generalize hL : bA _ _ _ _ = r
 refine gx hL (fun i ρ => ∃ (l : Str) (v : Option OD), ρ = [some (.sh (.int z)), some (.sh (.int m)), some (.sh (.str (Str.ofString "abcdefghijklmnopqrstuvwxyz"))), some (.sh (.str l)), v] ∧ l.length = i ∧ ∀ c ∈ l.cps.toList, 97 ≤ c ∧ c ≤ 122) ⟨_, _, rfl, rfl, fun c hc => by cases hc⟩ ?_ ?_
 ·rintro i d ρ hd ⟨l, v, rfl, hl, hc⟩
  obtain ⟨hi, rfl⟩ := gf hd;have i9 : (i : Int) < 9 := by lia
  have ib : 0 ≤ 4 * (0 + (i : Int)) * (0 + (i : Int)) ∧ 4 * (0 + (i : Int)) * (0 + (i : Int)) ≤ 4 * 8 * 8 := by
   have a1 : 0 ≤ (0 + (i : Int)) := by lia
   have a2 : (0 + (i : Int)) ≤ 8 := by lia
   refine ⟨Int.mul_nonneg (by lia) a1, ?_⟩
   exact Int.mul_le_mul (by lia) a2 a1 (by lia)
  have ec := (hf i).1;have c1 := (hf i).2.1;have c2 := (hf i).2.2;generalize f i = c at ec c1 c2
  have k1 : hZ (4 * (0 + (i : Int))) (0 + (i : Int)) = true := v_ (by lia) (by lia)
  have k2 : (0 < 9 + 4 * (0 + (i : Int)) * (0 + (i : Int)) ∧ 9 + 4 * (0 + (i : Int)) * (0 + (i : Int)) < 1073741824) = True := eq_true ⟨by lia, by lia⟩
  have k3 : ((Str.ofString "abcdefghijklmnopqrstuvwxyz").length ≤ BIG) = True := by decide +kernel
  have k4 : (l.length + (⟨#[c]⟩ : Str).length ≤ BIG) = True := aE (by rw [hl]; show i + 1 ≤ 1000; lia)
  push_cast only [k1, k2, k3, k4, ec, Option.map_some];refine ⟨_, _, rfl, by rw [sk, hl], fun d hd => ?_⟩
  rw [aL, List.mem_append] at hd;rcases hd with hd | hd
  ·exact hc d hd
  ·have : d = c := by simpa using hd
   lia
 ·rintro ρ' rfl ⟨l, v, rfl, hl, hc⟩
  rw [gG] at hl;push_cast only [and_self];exact ⟨l, ⟨by lia, by lia, hc⟩, rfl⟩
theorem fm (xs : List PyData) (k : Nat) : cutD xs none (some (k : Int)) = xs.take k := by
 unfold cutD;rw [HT.nU, HT.pD, List.drop_zero, Nat.sub_zero];rcases Nat.le_total k xs.length with h | h
 ·rw [Nat.min_eq_left h]
 ·rw [Nat.min_eq_right h, List.take_of_length_le (Nat.le_refl _), List.take_of_length_le h]
theorem mh {way : List Int} {k : Nat} (h1 : 1 ≤ k) (h2 : k ≤ way.length) : ∃ e, way[k - 1]? = some e ∧ atI ((way.take k).map PyData.int) (-1) = some (.int e) := by
 have hk : k - 1 < way.length := by lia
 refine ⟨way[k - 1], by simp [hk], ?_⟩
 have h : way.take (k - 1 + 1) = way.take (k - 1) ++ [way[k - 1]] := by
  rw [List.take_add_one];simp [hk]
 rw [show k - 1 + 1 = k by lia] at h
 rw [h, List.map_append];exact sV _ _
theorem bj (ts : List Nd) : (aB ts).length = ts.length := by unfold aB; rw [List.length_map]
theorem iJ (ts : List Nd) (n : Nd) : aB (ts ++ [n]) = aB ts ++ [.tuple [.int n.e, .str n.l, .int n.t]] := by
 unfold aB;rw [List.map_append];rfl
theorem wd (ns : List Int) (st : Int) (many : Nat) (most deep : Int) (s0 : 0 ≤ st) (s1 : st ≤ 1000) (n0 : 1 ≤ many) (n1 : many ≤ 900) (m0 : 1 ≤ most) (m1 : most ≤ 9) (d0 : 1 ≤ deep) (d1 : deep ≤ 1000) :
  ∃ ts way, Grown deep.toNat ts way ∧ ts.length = many ∧ eF [.list (ns.map PyData.int), .int st, .int many, .int most, .int deep] = .ok (.ol ((aB ts).map OD.sh)) := by
 unfold eF fP;have s62 : aZ (many : Int) = true := jQ (by lia) (by lia)
 push_cast only [s62];generalize hL : bA _ _ _ _ = r
 refine gx hL (fun i ρ => ∃ (ts : List Nd) (way : List Int) (v7 v8 v9 : Option OD), ρ = [some (.sh (.list (ns.map PyData.int))), some (.sh (.int st)), some (.sh (.int many)), some (.sh (.int most)), some (.sh (.int deep)), some (.ol ((aB ts).map OD.sh)), some (.sh (.list (way.map PyData.int))), v7, v8, v9] ∧ ts.length = i ∧ way.length ≤ i ∧ ((i = 0 ∧ ts = [] ∧ way = []) ∨ (0 < i ∧ Grown deep.toNat ts way)))
  ⟨[], [], _, _, _, rfl, rfl, Nat.le_refl _, .inl ⟨rfl, rfl, rfl⟩⟩ ?_ ?_
 ·rintro i d ρ hd ⟨ts, way, v7, v8, v9, rfl, hti, hwi, hg⟩
  obtain ⟨hi, rfl⟩ := gf hd;rw [Int.toNat_natCast] at hi;obtain ⟨y, hy⟩ := mW ns (st + (0 + (i : Int))) (by lia) (by lia)
  obtain ⟨l, hl, el⟩ := tH (y * 69621 % 2147483629 / 64) most m0 m1;have hq := df (y * 69621 % 2147483629 / 4096) (show (0 : Int) < 9 by decide)
  have lb : ((aB ts).length < BIG) = True := by rw [bj]; exact hR (by lia)
  by_cases h0 : (0 : Int) < 0 + (i : Int)
  ·have hg' : Grown deep.toNat ts way := by
    rcases hg with hg | hg
    ·lia
    ·exact hg.2
   have wp := hg'.pos.2;have wl : (0 : Int) < way.length := by lia
   have hr := df (y * 69621 % 2147483629) wl;have fin : ∀ c : Nat, 1 ≤ c → c ≤ way.length → c ≤ deep.toNat → ∀ (e : Int), way[c - 1]? = some e → Grown deep.toNat (ts ++ [⟨e, l, 1 + y * 69621 % 2147483629 / 4096 % 9⟩]) (way.take c ++ [(ts.length : Int)]) := fun c c1 c2 c3 e he =>
    Grown.step hg' c1 c2 c3 ⟨hl, by show 1 ≤ 1 + _; lia, by show 1 + _ ≤ 9; lia⟩ he
   have lw : ∀ c : Nat, ((way.take c).length + 1 ≤ BIG) = True := fun c => aE (by rw [List.length_take]; lia)
   by_cases h3 : y * 69621 % 2147483629 / 16 % 3 = 0
   ·obtain ⟨c, hc⟩ : ∃ c : Nat, (if deep < (way.length : Int) then deep else (way.length : Int)) = (c : Int) := ⟨(if deep < (way.length : Int) then deep else (way.length : Int)).toNat, by split <;> lia⟩
    obtain ⟨c1, c2, c3⟩ : 1 ≤ c ∧ c ≤ way.length ∧ c ≤ deep.toNat := by split at hc <;> lia
    obtain ⟨e, he, hat⟩ := mh c1 c2;push_cast only [hy, el, wl, decide_eq_true h0, decide_eq_true h3, hc, fm, ← List.map_take, bW, hat, lb, lw];have t1 := iJ ts ⟨e, l, 1 + y * 69621 % 2147483629 / 4096 % 9⟩;have t2 : (aB ts).map OD.sh ++ [OD.sh (.tuple [.int e, .str l, .int (1 + y * 69621 % 2147483629 / 4096 % 9)])] = (aB (ts ++ [⟨e, l, 1 + y * 69621 % 2147483629 / 4096 % 9⟩])).map OD.sh := by rw [t1, List.map_append]; rfl
    have w1 : (way.take c).map PyData.int ++ [PyData.int (0 + (i : Int))] = (way.take c ++ [(ts.length : Int)]).map PyData.int := by rw [List.map_append, hti, Int.zero_add]; rfl
    rw [t2, w1];exact ⟨_, _, _, _, _, rfl, by rw [List.length_append, hti]; rfl, by rw [List.length_append, List.length_take, List.length_singleton]; lia, .inr ⟨Nat.succ_pos _, fin c c1 c2 c3 e he⟩⟩
   ·obtain ⟨c, hc⟩ : ∃ c : Nat, (if deep < 1 + y * 69621 % 2147483629 % (way.length : Int) then deep else 1 + y * 69621 % 2147483629 % (way.length : Int)) = (c : Int) := ⟨(if deep < 1 + y * 69621 % 2147483629 % (way.length : Int) then deep else 1 + y * 69621 % 2147483629 % (way.length : Int)).toNat, by split <;> lia⟩
    obtain ⟨c1, c2, c3⟩ : 1 ≤ c ∧ c ≤ way.length ∧ c ≤ deep.toNat := by split at hc <;> lia
    obtain ⟨e, he, hat⟩ := mh c1 c2;push_cast only [hy, el, wl, decide_eq_true h0, decide_eq_false h3, hc, fm, ← List.map_take, bW, hat, lb, lw];have t1 := iJ ts ⟨e, l, 1 + y * 69621 % 2147483629 / 4096 % 9⟩;have t2 : (aB ts).map OD.sh ++ [OD.sh (.tuple [.int e, .str l, .int (1 + y * 69621 % 2147483629 / 4096 % 9)])] = (aB (ts ++ [⟨e, l, 1 + y * 69621 % 2147483629 / 4096 % 9⟩])).map OD.sh := by rw [t1, List.map_append]; rfl
    have w1 : (way.take c).map PyData.int ++ [PyData.int (0 + (i : Int))] = (way.take c ++ [(ts.length : Int)]).map PyData.int := by rw [List.map_append, hti, Int.zero_add]; rfl
    rw [t2, w1];exact ⟨_, _, _, _, _, rfl, by rw [List.length_append, hti]; rfl, by rw [List.length_append, List.length_take, List.length_singleton]; lia, .inr ⟨Nat.succ_pos _, fin c c1 c2 c3 e he⟩⟩
  ·obtain ⟨i0, rfl, rfl⟩ : i = 0 ∧ ts = [] ∧ way = [] := by
    rcases hg with hg | hg
    ·exact hg
    ·lia
   push_cast only [hy, el, decide_eq_false h0, bW, lb];subst i0;exact ⟨[⟨-1, l, 1 + y * 69621 % 2147483629 / 4096 % 9⟩], [0], _, _, _, rfl, rfl, by decide, .inr ⟨Nat.succ_pos _, Grown.root ⟨hl, by show 1 ≤ 1 + _; lia, by show 1 + _ ≤ 9; lia⟩ rfl⟩⟩
 ·rintro ρ' rfl ⟨ts, way, v7, v8, v9, rfl, hti, hwi, hg⟩
  rw [gG, Int.toNat_natCast] at hti hg;rcases hg with hg | hg
  ·lia
  ·push_cast only [and_self]
   exact ⟨ts, way, hg.2, hti, rfl⟩
theorem eu {ts : List Nd} {k : Nat} {n : Nd} (h : ts[k]? = some n) : atI (aB ts) (k : Int) = some (.tuple [.int n.e, .str n.l, .int n.t]) := e_ (by unfold aB; rw [List.getElem?_map, h]; rfl)
instance : Inhabited Nd := ⟨⟨0, "", 0⟩⟩
noncomputable def eOf (ts : List Nd) (k : Nat) : Int := (ts[k]?.map (·.e)).getD 0
noncomputable def PT (ts : List Nd) (c : F) : Prop := F.Pf ts.length (eOf ts) c
theorem mC {ts : List Nd} {k : Nat} {n : Nd} (h : ts[k]? = some n) : eOf ts k = n.e := by unfold eOf; rw [h]; rfl
section
variable {ts : List Nd} {c : F}
end
noncomputable def eg : Fs := (aI (bx 1 (dB ax))
 (aI (g_ (sD (ag 0)) (gNm 2) (jv 1 (eSh (qL (eIf (aJ (eOp gEq (eOp gIx (ag 2) (eC (.int 0))) (eUn hG (eC (.int 1))))) (eC (.int 0)) (eOp a_ (eOp gIx (ag 1) (eOp gIx (ag 2) (eC (.int 0)))) (eC (.int 1))))))))
 (gj 1)))
noncomputable def cw : Fn := cq 1 3 eg
noncomputable def EL (ts : List Nd) : Prop := ∀ (k : Nat) (n : Nd), ts[k]? = some n → (k = 0 → n.e = -1) ∧ (0 < k → 0 ≤ n.e) ∧ n.e < k
noncomputable def eO (acc : List Nat) (n : Nd) : Nat := if n.e = -1 then 0 else (acc[n.e.toNat]?).getD 0 + 1
noncomputable def lvs (ts : List Nd) : List Nat := ts.foldl (fun acc n => acc ++ [eO acc n]) []
theorem h_ (ts : List Nd) (n : Nd) : lvs (ts ++ [n]) = lvs ts ++ [eO (lvs ts) n] := by
 unfold lvs;rw [List.foldl_append];rfl
theorem snoc_ind {α : Type} {P : List α → Prop} (h0 : P []) (hs : ∀ xs x, P xs → P (xs ++ [x])) (xs : List α) : P xs := by
 have : ∀ ys : List α, P ys.reverse := by
  intro ys
  induction ys with
  | nil => exact h0
  | cons y ys ih => rw [List.reverse_cons]; exact hs _ _ ih
 have h := this xs.reverse
 rwa [List.reverse_reverse] at h
theorem eW : ∀ ts : List Nd, (lvs ts).length = ts.length := by
 intro ts;refine snoc_ind (P := fun ts => (lvs ts).length = ts.length) rfl (fun ts n ih => ?_) ts
 rw [h_, List.length_append, List.length_append, ih];rfl
theorem take_snoc {α : Type} {xs : List α} {i : Nat} {x : α} (h : xs[i]? = some x) : xs.take (i + 1) = xs.take i ++ [x] := by rw [List.take_add_one, h]; rfl
theorem kh (ts : List Nd) : ∀ i : Nat, (lvs ts).take i = lvs (ts.take i) := by
 refine snoc_ind (P := fun ts => ∀ i : Nat, (lvs ts).take i = lvs (ts.take i)) (fun i => by simp [lvs]) (fun ts n ih => ?_) ts
 ·intro i
  rcases Nat.le_total i ts.length with h | h
  ·rw [h_, List.take_append_of_le_length (by rw [eW]; exact h), List.take_append_of_le_length h, ih]
  ·by_cases h2 : i = ts.length
   ·subst h2
    rw [h_, List.take_append_of_le_length (by rw [eW]; exact Nat.le_refl _), List.take_append_of_le_length (Nat.le_refl _), ih]
   ·rw [List.take_of_length_le (by rw [eW, List.length_append]; simp; lia), List.take_of_length_le (by rw [List.length_append]; simp; lia)]
theorem j_ {ts : List Nd} {i : Nat} {n : Nd} (h : ts[i]? = some n) : (lvs ts)[i]? = some (eO (lvs (ts.take i)) n) := by
 have hi := (List.getElem?_eq_some_iff.mp h).1;have e := kh ts (i + 1);rw [take_snoc h, h_] at e;have : ((lvs ts).take (i + 1))[i]? = some (eO (lvs (ts.take i)) n) := by
  rw [e, List.getElem?_append_right (by rw [eW, List.length_take]; lia), eW, List.length_take, Nat.min_eq_left (by lia), Nat.sub_self]
  rfl
 rw [List.getElem?_take_of_lt (by lia)] at this
 exact this
noncomputable def ja (ks : List Nat) : List PyData := ks.map fun k : Nat => PyData.int (k : Int)
theorem uz (ks : List Nat) : (ja ks).length = ks.length := by unfold ja; rw [List.length_map]
theorem vL {ks : List Nat} {k v : Nat} (h : ks[k]? = some v) : atI (ja ks) (k : Int) = some (.int v) := e_ (by unfold ja; rw [List.getElem?_map, h]; rfl)
theorem lS (ks : List Nat) (k : Nat) : (ja ks).map OD.sh ++ [OD.sh (.int (k : Int))] = (ja (ks ++ [k])).map OD.sh := by
 unfold ja;rw [List.map_append, List.map_append];rfl
theorem hV (ts : List Nd) (he : EL ts) (hl : ts.length ≤ 100) : cw [.list (aB ts)] = .ok (.ol ((ja (lvs ts)).map OD.sh)) := by
 unfold cw eg;push_cast only [and_self];generalize hL : bA _ _ _ _ = r'
 refine gx hL (fun i ρ => ∃ v2 : Option OD, ρ = [some (.sh (.list (aB ts))), some (.ol ((ja (lvs (ts.take i))).map OD.sh)), v2]) ⟨_, rfl⟩ ?_ ?_
 ·rintro i d ρ hd ⟨v2, rfl⟩
  unfold aB at hd;rw [List.getElem?_map] at hd;obtain ⟨n, hn, rfl⟩ := Option.map_eq_some_iff.mp hd;have hi := (List.getElem?_eq_some_iff.mp hn).1;have lb : ((ja (lvs (ts.take i))).length < BIG) = True := by rw [uz, eW, List.length_take]; exact hR (by lia)
  have e0 : (lvs (ts.take (i + 1))) = lvs (ts.take i) ++ [eO (lvs (ts.take i)) n] := by rw [take_snoc hn, h_]
  have el := he i n hn;by_cases h1 : n.e = -1
  ·have e1 : eO (lvs (ts.take i)) n = 0 := by unfold eO; rw [if_pos h1]
   rw [e1] at e0;have sn := lS (lvs (ts.take i)) 0;rw [← e0, Int.natCast_zero] at sn;push_cast only [ndD, decide_eq_true h1, lb, bW, sn];exact ⟨_, rfl⟩
  ·have h0 : 0 < i := by
    rcases Nat.eq_zero_or_pos i with h | h
    ·exact absurd (el.1 h) h1
    ·exact h
   obtain ⟨k, hk⟩ : ∃ k : Nat, n.e = (k : Int) := ⟨n.e.toNat, by have := el.2.1 h0; lia⟩
   have hki : k < i := by have := el.2.2; lia
   obtain ⟨v, hv⟩ : ∃ v, (lvs (ts.take i))[k]? = some v := ⟨(lvs (ts.take i))[k]'(by rw [eW, List.length_take]; lia), by simp⟩
   have e1 : eO (lvs (ts.take i)) n = v + 1 := by unfold eO; rw [if_neg h1, hk, Int.toNat_natCast, hv]; rfl
   rw [e1] at e0;have sn := lS (lvs (ts.take i)) (v + 1);rw [← e0, Int.natCast_add, Int.natCast_one] at sn;have ga := vL hv;have h1' : ¬ ((k : Int) = -1) := by lia
   push_cast only [ndD, hk, decide_eq_false h1', lb, bW, ga, sn];exact ⟨_, rfl⟩
 ·rintro ρ' rfl ⟨v2, rfl⟩
  push_cast only [and_self];rw [bj, List.take_of_length_le (Nat.le_refl _)]
structure NumOk (L : List Nat) (i : Nat) (nums : List (List Nat)) : Prop where
 row : ∀ (j : Nat) (r : List Nat), nums[j]? = some r → r ≠ [] ∧ r.Pairwise (· < ·) ∧ ∀ k, k ∈ r ↔ k < i ∧ L[k]? = some j
 lt : ∀ (k v : Nat), k < i → L[k]? = some v → v < nums.length
 sum : (nums.map List.length).sum = i
noncomputable def iL (rs : List Nat) : List Int := rs.map fun k : Nat => (k : Int)
noncomputable def d4 : Fs := (aI (bx 3 (ag 1))
 (aI (fS (md (aJ (eOp gNe (ag 3) (eUn hG (eC (.int 1))))) (aJ (eOp gNe (ag 3) (ag 2)))) (bx 3 (eOp gIx (eOp gIx (ag 0) (ag 3)) (eC (.int 0)))))
 (c_ (eOp gNe (ag 3) (eUn hG (eC (.int 1)))))))
noncomputable def bV : Fn := cq 3 4 d4
noncomputable def gp : Fs := (c_ (nX (eCh (eC (.int 1)) (eB dA (aj (ag 0) ax)) (eC (.int 9))) (eB sU (aj (jg (iTx (ag 0)) (gNm 0) jJ (eOp gIn (ag 0) (eC (.str "abcdefghijklmnopqrstuvwxyz"))) 1 []) ax))))
noncomputable def dC : Fn := cq 1 1 gp
noncomputable def e8 : Fs := (sIf (iF (aJ (eOp gLt (ag 0) (eC (.int 1)))) (aJ (eOp gGt (ag 0) (eC (.int 9))))) lz sNx)
noncomputable def dq : Fn := cq 1 1 e8
noncomputable def eZ : Fs := (sIf (iF (aJ (eOp gLt (ag 0) (eC (.int 1)))) (aJ (eOp gGt (ag 0) (eC (.int 9))))) (gc "NoTree") sNx)
noncomputable def dt : Fn := cq 1 1 eZ
noncomputable def dM : Fs := (aI (bx 1 eD0)
 (aI (g_ (iEn (ag 0)) (gTp 2 (d_ (gNm 2) (d_ (gNm 3) iX))) (sDP 1 (eOp gIx (ag 3) (eC (.int 0))) (ag 2)))
 (gj 1)))
noncomputable def cU : Fn := cq 1 4 dM
noncomputable def eh : Fs := (c_ (eOp a_ (eOp gIx (ag 0) (eC (.int 1))) (eOp jO (eC (.str ":")) (eOp fT (eOp gIx (ag 0) (eC (.int 2))) (eC (.int 1))))))
noncomputable def cY : Fn := cq 1 1 eh
noncomputable def eI : Fs := (aI (bx 1 (dB ax))
 (aI (bx 2 (eSh (dB ax)))
 (aI (g_ (iEn (ag 0)) (gTp 2 (d_ (gNm 3) (d_ (gNm 4) iX))) (aI (bx 5 (eTx oLst (ag 4) (eC (.str " |+'-"))))
 (aI (bx 6 (eOp gI (eOp fT (eB dA (aj (ag 4) ax)) (eB dA (aj (ag 5) ax))) (eC (.int 2))))
 (aI (sIf (aJ (eOp gGt (ag 6) (eB dA (aj (ag 2) ax)))) lz sNx)
 (aI (bx 7 (eTx sA (ag 5) (eC (.str ":"))))
 (aI (bx 2 (eSh (eOp a_ (eSl gC (ag 2) dz (dj (ag 6))) (dB (aj (ag 3) ax)))))
 (jv 1 (eSh (lh (aj (eIf (aJ (eOp gEq (ag 6) (eC (.int 0)))) (eUn hG (eC (.int 1))) (eOp gIx (ag 2) (eOp fT (ag 6) (eC (.int 1))))) (aj (ag 7) (aj (eOp a_ (eOp fT (eB dA (aj (ag 5) ax)) (eB dA (aj (ag 7) ax))) (eC (.int 1))) ax))))))))))))
 (gj 1))))
noncomputable def cX : Fn := cq 1 8 eI
noncomputable def eL : Fs := (aI (bx 1 (dB ax))
 (aI (bx 2 (eSh (dB ax)))
 (aI (g_ (iEn (ag 0)) (gTp 2 (d_ (gNm 3) (d_ (gNm 4) iX))) (aI (bx 5 (eTx oLst (ag 4) (eC (.str " |+'-"))))
 (aI (bx 6 (eOp gI (eOp fT (eB dA (aj (ag 4) ax)) (eB dA (aj (ag 5) ax))) (eC (.int 2))))
 (aI (sIf (aJ (eOp gGt (ag 6) (eB dA (aj (ag 2) ax)))) (gc "NoPicture") sNx)
 (aI (bx 7 (eTx sA (ag 5) (eC (.str ":"))))
 (aI (bx 2 (eSh (eOp a_ (eSl gC (ag 2) dz (dj (ag 6))) (dB (aj (ag 3) ax)))))
 (jv 1 (eSh (lh (aj (eIf (aJ (eOp gEq (ag 6) (eC (.int 0)))) (eUn hG (eC (.int 1))) (eOp gIx (ag 2) (eOp fT (ag 6) (eC (.int 1))))) (aj (ag 7) (aj (eOp a_ (eOp fT (eB dA (aj (ag 5) ax)) (eB dA (aj (ag 7) ax))) (eC (.int 1))) ax))))))))))))
 (gj 1))))
noncomputable def cy : Fn := cq 1 8 eL
noncomputable def fH : Fs := (aI (g_ (iR2 (eOp a_ (ag 1) (eC (.int 1))) (eB dA (aj (ag 0) ax))) (gNm 2) (sIf (aJ (eOp gEq (eOp gIx (eOp gIx (ag 0) (ag 2)) (eC (.int 0))) (eOp gIx (eOp gIx (ag 0) (ag 1)) (eC (.int 0))))) (c_ (eC (.bool false))) sNx))
 (c_ (eC (.bool true))))
noncomputable def dJ : Fn := cq 2 3 fH
noncomputable def d6 : Fs := (aI (g_ (iR1 (eB dA (aj (ag 0) ax))) (gNm 3) (aI (bx 4 (eOp fi (eOp a_ (ag 2) (ag 3)) (eB dA (aj (ag 0) ax))))
 (sIf (md (aJ (eOp gIn (eOp gIx (ag 0) (ag 4)) (ag 1))) (iF (aJ (eOp gNe (eOp gIx (ag 0) (ag 4)) (eC (.str " ")))) (aJ (eOp gEq (eOp fi (ag 4) (eC (.int 2))) (eC (.int 0)))))) (aI (bx 5 (eOp gIx (ag 1) (eOp fT (eC (.int 1)) (eTx yd (ag 1) (eOp gIx (ag 0) (ag 4))))))
 (c_ (eOp a_ (eOp a_ (eSl pe (ag 0) dz (dj (ag 4))) (ag 5)) (eSl pe (ag 0) (dj (eOp a_ (ag 4) (eC (.int 1)))) dz)))) sNx)))
 (c_ (eOp a_ (eC (.str " ")) (ag 0))))
noncomputable def cC : Fn := cq 3 6 d6
noncomputable def eK : Fs := (aI (bx 2 (eOp gIx (eOp gIx (ag 0) (ag 1)) (eC (.int 0))))
 (sIf (aJ (eOp gEq (ag 1) (eC (.int 0)))) (sIf (aJ (eOp gNe (ag 2) (eUn hG (eC (.int 1))))) lz sNx) (sIf (fw (aJ (aV bV (aj (ag 0) (aj (eOp fT (ag 1) (eC (.int 1))) (aj (ag 2) ax)))))) lz sNx)))
noncomputable def cT : Fn := cq 2 3 eK
noncomputable def ei : Fs := (aI (bx 2 (eOp gIx (eOp gIx (ag 0) (ag 1)) (eC (.int 0))))
 (sIf (aJ (eOp gEq (ag 1) (eC (.int 0)))) (sIf (aJ (eOp gNe (ag 2) (eUn hG (eC (.int 1))))) (gc "NoTree") sNx) (sIf (fw (aJ (aV bV (aj (ag 0) (aj (eOp fT (ag 1) (eC (.int 1))) (aj (ag 2) ax)))))) (gc "NoTree") sNx)))
noncomputable def cW : Fn := cq 2 3 ei
noncomputable def eE : Fs := (sIf (fw (aJ (aV dC (aj (ag 0) ax)))) lz sNx)
noncomputable def cZ : Fn := cq 1 1 eE
noncomputable def eJ : Fs := (sIf (fw (aJ (aV dC (aj (ag 0) ax)))) (gc "NoTree") sNx)
noncomputable def cV : Fn := cq 1 1 eJ
noncomputable def fQ : Fs := (aI (bx 1 (eSh (aV cU (aj (ag 0) ax))))
 (aI (bx 2 (dB (aj (eC (.str "")) ax)))
 (aI (bx 3 (dB (aj (eSh (aV cY (aj (eOp gIx (ag 0) (eC (.int 0))) ax))) ax)))
 (aI (g_ (iR2 (eC (.int 1)) (eB dA (aj (ag 0) ax))) (gNm 4) (aI (bx 5 (eOp gIx (eOp gIx (ag 0) (ag 4)) (eC (.int 0))))
 (aI (bx 6 (eOp gEq (eOp gDx (ag 1) (ag 5)) (ag 4)))
 (aI (jv 2 (qL (eOp a_ (eOp gIx (ag 2) (ag 5)) (eIf (aJ (ag 6)) (eC (.str "  ")) (eC (.str "| "))))))
 (jv 3 (qL (eOp a_ (eOp a_ (eOp gIx (ag 2) (ag 5)) (eIf (aJ (ag 6)) (eC (.str "'-")) (eC (.str "+-")))) (aV cY (aj (eOp gIx (ag 0) (ag 4)) ax)))))))))
 (gj 3)))))
noncomputable def cI : Fn := cq 1 7 fQ
noncomputable def fO : Fs := (aI (sIf (iF (fw (aJ (oz "list" (ag 0)))) (aJ (eOp gNe (eB dA (aj (ag 0) ax)) (eB dA (aj (ag 1) ax))))) (c_ (eC (.bool false))) sNx)
 (aI (g_ (iZp (ag 0) (ag 1)) (gTp 2 (d_ (gNm 2) (d_ (gNm 3) iX))) (aI (sIf (iF (fw (aJ (oz "tuple" (ag 2)))) (iF (aJ (eOp gNe (eB dA (aj (ag 2) ax)) (eC (.int 3)))) (fw (aJ (aV du (aj (eOp gIx (ag 2) (eC (.int 0))) ax)))))) (c_ (eC (.bool false))) sNx)
 (sIf (iF (fw (aJ (oz "str" (eOp gIx (ag 2) (eC (.int 1)))))) (iF (fw (aJ (aV du (aj (eOp gIx (ag 2) (eC (.int 2))) ax)))) (aJ (eOp gNe (ag 2) (ag 3))))) (c_ (eC (.bool false))) sNx)))
 (c_ (eC (.bool true)))))
noncomputable def bZ : Fn := cq 2 4 fO
noncomputable def fL : Fs := (aI (bx 1 (dB ax))
 (aI (g_ (iR1 (eB dA (aj (ag 0) ax))) (gNm 2) (aI (bx 3 (eOp gIx (eOp gIx (ag 0) (ag 2)) (eC (.int 1))))
 (aI (g_ (iR2 (eC (.int 1)) (eOp gIx (eOp gIx (ag 0) (ag 2)) (eC (.int 2)))) (gNm 4) (bx 3 (eOp a_ (ag 3) (eC (.str ":")))))
 (aI (sIf (aJ (eOp gGt (ag 2) (eC (.int 0)))) (aI (bx 3 (eOp a_ (eOp gIx (dB (aj (eC (.str "+-")) (aj (eC (.str "'-")) ax))) (eB qP (aj (aV dJ (aj (ag 0) (aj (ag 2) ax))) ax))) (ag 3)))
 (aI (bx 5 (eOp gIx (eOp gIx (ag 0) (ag 2)) (eC (.int 0))))
 (fS (aJ (eOp gGt (ag 5) (eC (.int 0)))) (aI (bx 3 (eOp a_ (eOp gIx (dB (aj (eC (.str "| ")) (aj (eC (.str "  ")) ax))) (eB qP (aj (aV dJ (aj (ag 0) (aj (ag 5) ax))) ax))) (ag 3)))
 (bx 5 (eOp gIx (eOp gIx (ag 0) (ag 5)) (eC (.int 0)))))))) sNx)
 (jv 1 (ag 3))))))
 (gj 1)))
noncomputable def bY : Fn := cq 1 6 fL
noncomputable def cS : Fs := (aI (bx 2 (eOp fi (ag 1) (eC (.int 6))))
 (aI (sIf (aJ (eOp gEq (ag 2) (eC (.int 0)))) (c_ (eOp a_ (ag 0) (eC (.str " ")))) sNx)
 (aI (sIf (aJ (eOp gEq (ag 2) (eC (.int 1)))) (c_ (eOp a_ (eOp jO (eC (.str " ")) (eOp a_ (eC (.int 1)) (eOp fi (eOp gI (ag 1) (eC (.int 6))) (eC (.int 2))))) (ag 0))) sNx)
 (aI (sIf (aJ (eOp gEq (ag 2) (eC (.int 2)))) (aI (bx 3 (eOp fi (eOp gI (ag 1) (eC (.int 6))) (eOp a_ (eB dA (aj (ag 0) ax)) (eC (.int 1)))))
 (c_ (eOp a_ (eOp a_ (eSl pe (ag 0) dz (dj (ag 3))) (eOp gIx (eC (.str "AZ019_.=~{")) (eOp fi (eOp gI (ag 1) (eC (.int 600))) (eC (.int 10))))) (eSl pe (ag 0) (dj (ag 3)) dz)))) sNx)
 (aI (sIf (aJ (eOp gEq (ag 2) (eC (.int 3)))) (c_ (aV cC (aj (ag 0) (aj (eC (.str "+'")) (aj (eOp gI (ag 1) (eC (.int 6))) ax))))) sNx)
 (aI (sIf (aJ (eOp gEq (ag 2) (eC (.int 4)))) (c_ (aV cC (aj (ag 0) (aj (eC (.str "| ")) (aj (eOp gI (ag 1) (eC (.int 6))) ax))))) sNx)
 (c_ (eOp a_ (ag 0) (eC (.str "abcdefghij"))))))))))
noncomputable def bX : Fn := cq 2 4 cS
noncomputable def fB : Fs := (aI (sIf (iF (aJ (eOp gLt (eB dA (aj (ag 0) ax)) (eC (.int 1)))) (aJ (eOp gGt (eB dA (aj (ag 0) ax)) (eC (.int 40))))) lz sNx)
 (aI (g_ (iEn (ag 0)) (gTp 2 (d_ (gNm 1) (d_ (gNm 2) iX))) (aI (iY (aV cT (aj (ag 0) (aj (ag 1) ax))))
 (aI (iY (aV cZ (aj (eOp gIx (ag 2) (eC (.int 1))) ax)))
 (iY (aV dq (aj (eOp gIx (ag 2) (eC (.int 2))) ax))))))
 (aI (sIf (aJ (eOp gGt (eB l7 (aj (aV cw (aj (ag 0) ax)) ax)) (eC (.int 8)))) lz sNx)
 (c_ (eB gM (aj (ag 0) ax))))))
noncomputable def dN : Fn := cq 1 3 fB
noncomputable def fJ : Fs := (aI (sIf (iF (aJ (eOp gLt (eB dA (aj (ag 0) ax)) (eC (.int 1)))) (aJ (eOp gGt (eB dA (aj (ag 0) ax)) (eC (.int 40))))) (gc "NoTree") sNx)
 (aI (g_ (iEn (ag 0)) (gTp 2 (d_ (gNm 1) (d_ (gNm 2) iX))) (aI (iY (aV cW (aj (ag 0) (aj (ag 1) ax))))
 (aI (iY (aV cV (aj (eOp gIx (ag 2) (eC (.int 1))) ax)))
 (iY (aV dt (aj (eOp gIx (ag 2) (eC (.int 2))) ax))))))
 (aI (sIf (aJ (eOp gGt (eB l7 (aj (aV cw (aj (ag 0) ax)) ax)) (eC (.int 8)))) (gc "NoTree") sNx)
 (c_ (eB gM (aj (ag 0) ax))))))
noncomputable def dg : Fn := cq 1 3 fJ
noncomputable def bb : Fs := (aI (bx 2 (eOp fi (ag 1) (eC (.int 12))))
 (aI (bx 3 (eOp fi (eOp fi (eOp gI (ag 1) (eC (.int 12))) (eC (.int 1009))) (eB dA (aj (ag 0) ax))))
 (aI (sIf (aJ (eOp gEq (ag 2) (eC (.int 6)))) (c_ (eSl gC (ag 0) (dj (eC (.int 1))) dz)) sNx)
 (aI (sIf (aJ (eOp gEq (ag 2) (eC (.int 7)))) (c_ (eOp a_ (eOp a_ (eSl gC (ag 0) dz (dj (eOp a_ (ag 3) (eC (.int 1))))) (dB (aj (eOp gIx (ag 0) (eC (.int 0))) ax))) (eSl gC (ag 0) (dj (eOp a_ (ag 3) (eC (.int 1)))) dz))) sNx)
 (aI (sIf (aJ (eOp gEq (ag 2) (eC (.int 8)))) (c_ (eOp a_ (ag 0) (jg (iR1 (eC (.int 9))) (gNm 0) jJ (eOp a_ (eOp pS (eC (.str "  ")) (ag 0)) (eC (.str "'-ab"))) 1 []))) sNx)
 (aI (sIf (aJ (eOp gEq (ag 2) (eC (.int 9)))) (c_ (eOp a_ (eOp a_ (dB (aj (eC (.str "ab")) ax)) (eOp ie (dB (aj (eC (.str "+-c")) ax)) (eOp a_ (eC (.int 38)) (eOp fi (eOp gI (ag 1) (eC (.int 12))) (eC (.int 9)))))) (dB (aj (eC (.str "+-d")) (aj (eC (.str "'-e")) ax))))) sNx)
 (aI (sIf (aJ (eOp gEq (ag 2) (eC (.int 10)))) (aI (bx 4 (eSh (dB (aj (eSh (dB ax)) (aj (eSh (dB (aj (eC (.str "")) ax))) (aj (eSh (dB (aj (eC (.str "")) (aj (eC (.str "ab")) ax)))) (aj (eSh (dB (aj (eC (.str "'-ab")) ax))) (aj (eSh (dB (aj (eC (.str " ab")) ax))) (aj (eSh (dB (aj (eC (.str "ab::::::::::")) ax))) (aj (eSh (eOp a_ (ag 0) (dB (aj (eC (.str "")) ax)))) ax))))))))))
 (c_ (eOp gIx (eOp a_ (ag 4) (dB (aj (eOp a_ (eOp a_ (eSl gC (ag 0) dz (dj (eOp a_ (ag 3) (eC (.int 1))))) (dB (aj (eC (.str "")) ax))) (eSl gC (ag 0) (dj (eOp a_ (ag 3) (eC (.int 1)))) dz)) ax))) (eOp fi (eOp gI (ag 1) (eC (.int 12))) (eC (.int 8)))))) sNx)
 (aI (sIf (aJ (eOp gEq (ag 2) (eC (.int 11)))) (c_ (eOp a_ (eOp a_ (eSl gC (ag 0) dz (dj (ag 3))) (dB (aj (eOp a_ (eOp gIx (ag 0) (ag 3)) (eC (.str "::::::::::"))) ax))) (eSl gC (ag 0) (dj (eOp a_ (ag 3) (eC (.int 1)))) dz))) sNx)
 (c_ (eOp a_ (eOp a_ (eSl gC (ag 0) dz (dj (ag 3))) (dB (aj (eSh (aV bX (aj (eOp gIx (ag 0) (ag 3)) (aj (eOp gI (ag 1) (eC (.int 12))) ax)))) ax))) (eSl gC (ag 0) (dj (eOp a_ (ag 3) (eC (.int 1)))) dz)))))))))))
noncomputable def aA : Fn := cq 2 5 bb
noncomputable def fK : Fs := (aI (qm (bx 1 (aV dN (aj (aV cX (aj (ag 0) ax)) ax))))
 (aI (sIf (sy (aJ (eOp gNe (aV cI (aj (ag 1) ax)) (ag 0)))) lz sNx)
 (gj 1)))
noncomputable def bF : Fn := cq 1 2 fK
noncomputable def fG : Fs := (aI (og (bx 1 (aV dg (aj (aV cy (aj (ag 0) ax)) ax))) ["NoTree"] ["NoPicture"] "NoPicture")
 (aI (sIf (sy (aJ (eOp gNe (aV cI (aj (ag 1) ax)) (ag 0)))) (gc "NoPicture") sNx)
 (gj 1)))
noncomputable def b9 : Fn := cq 1 2 fG
noncomputable def dZ : Fs := (aI (bx 1 (eC (.bool false)))
 (aI (bx 2 (eSh (eB gM (aj (ag 0) ax))))
 (aI (pK b9 (aj (ag 2) ax) (fun ρ => lx ρ 3) 1 [("NoPicture", true), ("NoTree", false)])
 (c_ (nX (ag 1) (eOp gEq (ag 2) (ag 0)))))))
noncomputable def cD : Fn := cq 1 4 dZ
noncomputable def dX : Fs := (aI (bx 1 (eC (.bool false)))
 (aI (pK b9 (aj (ag 0) ax) (fun _ => true) 1 [("NoPicture", true)])
 (c_ (ag 1))))
noncomputable def dm : Fn := cq 1 2 dX
noncomputable def e7 : Fs := (aI (bx 0 (eSh (jg (iR1 (eC (.int 9))) (gNm 0) jJ (lh (aj (eOp fT (ag 0) (eC (.int 1))) (aj (eC (.str "abcdefghi")) (aj (eC (.int 9)) ax)))) 1 [])))
 (aI (bx 1 (eSh (eOp a_ (dB (aj (lh (aj (eUn hG (eC (.int 1))) (aj (eC (.str "a")) (aj (eC (.int 1)) ax)))) ax)) (eOp ie (dB (aj (lh (aj (eC (.int 0)) (aj (eC (.str "bc")) (aj (eC (.int 2)) ax)))) ax)) (eC (.int 39))))))
 (c_ (nX (aV bZ (aj (aV bF (aj (aV bY (aj (ag 0) ax)) ax)) (aj (ag 0) ax))) (aV bZ (aj (aV bF (aj (aV bY (aj (ag 1) ax)) ax)) (aj (ag 1) ax)))))))
noncomputable def dW : Fn := cq 0 2 e7
noncomputable def mJ : Fs := (aI (bx 1 (eSh (aV eF (aj (ag 0) (aj (eC (.int 2)) (aj (eOp a_ (eC (.int 2)) (eOp fi (aV cL (aj (ag 0) (aj (eC (.int 0)) ax))) (eC (.int 11)))) (aj (eC (.int 9)) (aj (eC (.int 7)) ax))))))))
 (aI (bx 2 (eSh (aV bY (aj (ag 1) ax))))
 (aI (bx 3 (eSh (aV aA (aj (ag 2) (aj (eOp fi (eOp ie (aV cL (aj (ag 0) (aj (eC (.int 1)) ax))) (eC (.int 48271))) (eC (.int 2147483647))) ax)))))
 (aI (sIf (iF (fw (aJ (aV cD (aj (ag 3) ax)))) (fw (aJ (aV dm (aj (ag 3) ax))))) (c_ (eC (.bool false))) sNx)
 (aI (sIf (iF (fw (aJ (aV bZ (aj (aV bF (aj (eB gM (aj (ag 2) ax)) ax)) (aj (ag 1) ax))))) (fw (aJ (aV dW ax)))) (c_ (eC (.bool false))) sNx)
 (aI (sIf (aJ (eOp gEq (aV bY (aj (eSl gC (ag 1) dz (dj (eUn hG (eC (.int 1))))) ax)) (eSl gC (ag 2) dz (dj (eUn hG (eC (.int 1))))))) (c_ (aV bZ (aj (aV bF (aj (eSl gC (ag 2) dz (dj (eUn hG (eC (.int 1))))) ax)) (aj (eSl gC (ag 1) dz (dj (eUn hG (eC (.int 1))))) ax)))) sNx)
 (c_ (aV cD (aj (eSl gC (ag 2) dz (dj (eUn hG (eC (.int 1))))) ax)))))))))
noncomputable def kY : Fn := cq 1 4 mJ
noncomputable def top (i : Nat) : Stmt := PySem.Challenge.pw_boughdraw_k15_hung_refused.main.body.getD i (.Pass ⟨0, 0, 0, 0⟩)
noncomputable abbrev bE : Stmt := top 17
theorem ft : FnScope ["rows", "start", "wanted", "node"] ["rows", "start", "wanted"] (ar bE) := ⟨rfl, rfl, rfl, by decide +kernel, rfl, by decide +kernel, by decide +kernel⟩
noncomputable abbrev cP : Stmt := top 19
theorem nV : FnScope ["text"] ["text"] (ar cP) := ⟨rfl, rfl, rfl, by decide +kernel, rfl, by decide +kernel, by decide +kernel⟩
noncomputable abbrev bO : Stmt := top 20
theorem iI : FnScope ["tall"] ["tall"] (ar bO) := ⟨rfl, rfl, rfl, by decide +kernel, rfl, by decide +kernel, by decide +kernel⟩
noncomputable abbrev bL : Stmt := top 21
theorem f_ : FnScope ["tree", "levels", "row"] ["tree"] (ar bL) := ⟨rfl, rfl, rfl, by decide +kernel, rfl, by decide +kernel, by decide +kernel⟩
noncomputable abbrev bJ : Stmt := top 24
theorem dH : FnScope ["tree", "last", "node", "row"] ["tree"] (ar bJ) := ⟨rfl, rfl, rfl, by decide +kernel, rfl, by decide +kernel, by decide +kernel⟩
noncomputable abbrev cj : Stmt := top 25
theorem ku : FnScope ["row"] ["row"] (ar cj) := ⟨rfl, rfl, rfl, by decide +kernel, rfl, by decide +kernel, by decide +kernel⟩
noncomputable abbrev bD : Stmt := top 27
theorem aF : FnScope ["rows", "nodes", "way", "number", "row", "signs", "level", "label"] ["rows"] (ar bD) := ⟨rfl, rfl, rfl, by decide +kernel, rfl, by decide +kernel, by decide +kernel⟩
noncomputable abbrev cN : Stmt := top 29
theorem gS : FnScope ["_law_script", "_law_k", "_law_number"] ["_law_script", "_law_k"] (ar cN) := ⟨rfl, rfl, rfl, by decide +kernel, rfl, by decide +kernel, by decide +kernel⟩
noncomputable abbrev cJ : Stmt := top 30
theorem lC : FnScope ["_law_found"] ["_law_found"] (ar cJ) := ⟨rfl, rfl, rfl, by decide +kernel, rfl, by decide +kernel, by decide +kernel⟩
noncomputable abbrev cF : Stmt := top 31
theorem dS : FnScope ["_law_number", "_law_most", "_law_letters", "_law_label_here", "_law_k"] ["_law_number", "_law_most"] (ar cF) := ⟨rfl, rfl, rfl, by decide +kernel, rfl, by decide +kernel, by decide +kernel⟩
noncomputable abbrev da : Stmt := top 34
theorem jb : FnScope ["_law_tree_here", "_law_node", "_law_k"] ["_law_tree_here", "_law_node"] (ar da) := ⟨rfl, rfl, rfl, by decide +kernel, rfl, by decide +kernel, by decide +kernel⟩
noncomputable abbrev bR : Stmt := top 38
theorem dY : FnScope ["_law_text", "_law_signs", "_law_number", "_law_k", "_law_at", "_law_other"] ["_law_text", "_law_signs", "_law_number"] (ar bR) := ⟨rfl, rfl, rfl, by decide +kernel, rfl, by decide +kernel, by decide +kernel⟩
noncomputable abbrev bB : Stmt := top 16
theorem eM : FnScope ["rows", "number", "elder"] ["rows", "number"] (ar bB) := ⟨rfl, rfl, rfl, by decide +kernel, rfl, by decide +kernel, by decide +kernel⟩
noncomputable abbrev bC : Stmt := top 18
theorem iq : FnScope ["label"] ["label"] (ar bC) := ⟨rfl, rfl, rfl, by decide +kernel, rfl, by decide +kernel, by decide +kernel⟩
noncomputable abbrev cM : Stmt := top 23
theorem di : FnScope ["tree", "last", "ahead", "rows", "node", "elder", "is_last"] ["tree"] (ar cM) := ⟨rfl, rfl, rfl, by decide +kernel, rfl, by decide +kernel, by decide +kernel⟩
noncomputable abbrev dc : Stmt := top 32
theorem cf : FnScope ["_law_script", "_law_start", "_law_many", "_law_most", "_law_deep", "_law_tree_here", "_law_way", "_law_k", "_law_number", "_law_keep"] ["_law_script", "_law_start", "_law_many", "_law_most", "_law_deep"] (ar dc) := ⟨rfl, rfl, rfl, by decide +kernel, rfl, by decide +kernel, by decide +kernel⟩
noncomputable abbrev cG : Stmt := top 33
theorem gQ : FnScope ["_law_found", "_law_due", "_law_row", "_law_other"] ["_law_found", "_law_due"] (ar cG) := ⟨rfl, rfl, rfl, by decide +kernel, rfl, by decide +kernel, by decide +kernel⟩
noncomputable abbrev cO : Stmt := top 35
theorem bM : FnScope ["_law_tree_here", "_law_rows_here", "_law_node", "_law_text", "_law_k", "_law_up"] ["_law_tree_here"] (ar cO) := ⟨rfl, rfl, rfl, by decide +kernel, rfl, by decide +kernel, by decide +kernel⟩
noncomputable abbrev ba : Stmt := top 39
theorem dQ : FnScope ["_law_text", "_law_number", "_law_kind", "_law_at"] ["_law_text", "_law_number"] (ar ba) := ⟨rfl, rfl, rfl, by decide +kernel, rfl, by decide +kernel, by decide +kernel⟩
noncomputable abbrev cg : Stmt := top 15
theorem dO : FnScope ["rows", "number", "row"] ["rows"] (ar cg) := ⟨rfl, rfl, rfl, by decide +kernel, rfl, by decide +kernel, by decide +kernel⟩
noncomputable abbrev bG : Stmt := top 40
theorem d5 : FnScope ["_law_rows_here", "_law_number", "_law_kind", "_law_at", "_law_some"] ["_law_rows_here", "_law_number"] (ar bG) := ⟨rfl, rfl, rfl, by decide +kernel, rfl, by decide +kernel, by decide +kernel⟩
noncomputable abbrev bI : Stmt := top 26
theorem fM : FnScope ["rows", "tree"] ["rows"] (ar bI) := ⟨rfl, rfl, rfl, by decide +kernel, rfl, by decide +kernel, by decide +kernel⟩
noncomputable abbrev bS : Stmt := top 36
theorem a7 : FnScope ["_law_rows_here", "_law_ours", "_law_handed", "e"] ["_law_rows_here"] (ar bS) := ⟨rfl, rfl, rfl, by decide +kernel, rfl, by decide +kernel, by decide +kernel⟩
noncomputable abbrev bQ : Stmt := top 37
theorem fv : FnScope ["_law_rows_here", "_law_refused_here"] ["_law_rows_here"] (ar bQ) := ⟨rfl, rfl, rfl, by decide +kernel, rfl, by decide +kernel, by decide +kernel⟩
noncomputable abbrev b8 : Stmt := top 41
theorem gy : FnScope ["_law_line", "_law_star"] [] (ar b8) := ⟨rfl, rfl, rfl, by decide +kernel, rfl, by decide +kernel, by decide +kernel⟩
noncomputable abbrev iV : Stmt := top 42
theorem mI : FnScope ["_law_script", "_law_tree_here", "_law_rows_here", "_law_wrong"] ["_law_script"] (ar iV) := ⟨rfl, rfl, rfl, by decide +kernel, rfl, by decide +kernel, by decide +kernel⟩
theorem iT : bootBuiltins "list" = some (.type "list") := by decide +kernel
theorem si : bootBuiltins "tuple" = some (.type "tuple") := by decide +kernel
theorem o4 : bootBuiltins "int" = some (.type "int") := by decide +kernel
theorem vx : bootBuiltins "bool" = some (.type "bool") := by decide +kernel
theorem zF : bootBuiltins "str" = some (.type "str") := by decide +kernel
theorem iH : bootBuiltins "ValueError" = some (.type "ValueError") := by decide +kernel
structure Txt (K : PySem.W.Frag) (mg : Str → Option Value) : Prop where
 z_ValueError : mg "ValueError" = none
 z_all : mg "all" = none
 z_bool : mg "bool" = none
 z_enumerate : mg "enumerate" = none
 z_int : mg "int" = none
 z_isinstance : mg "isinstance" = none
 z_len : mg "len" = none
 z_list : mg "list" = none
 z_max : mg "max" = none
 z_min : mg "min" = none
 z_range : mg "range" = none
 z_str : mg "str" = none
 z_tuple : mg "tuple" = none
 z_zip : mg "zip" = none
 c_GREATEST_LEVEL : ∃ t, mg "GREATEST_LEVEL" = some (.int 8 t)
 c_GREATEST_TALL : ∃ t, mg "GREATEST_TALL" = some (.int 9 t)
 c_LETTERS : ∃ t, mg "LETTERS" = some (.str "abcdefghijklmnopqrstuvwxyz" t)
 c_LONGEST_LABEL : ∃ t, mg "LONGEST_LABEL" = some (.int 9 t)
 c_MOST_NODES : ∃ t, mg "MOST_NODES" = some (.int 40 t)
 xs : ∃ c_DrawError c_NoDeed c_NoNode c_NoPicture c_NoPlace c_NoText c_NoTree c_TooMany : Addr, mg "DrawError" = some (.ref c_DrawError) ∧ mg "NoDeed" = some (.ref c_NoDeed) ∧ mg "NoNode" = some (.ref c_NoNode) ∧ mg "NoPicture" = some (.ref c_NoPicture) ∧ mg "NoPlace" = some (.ref c_NoPlace) ∧ mg "NoText" = some (.ref c_NoText) ∧ mg "NoTree" = some (.ref c_NoTree) ∧ mg "TooMany" = some (.ref c_TooMany) ∧ ExcK K c_NoPicture ∧ ExcK K c_NoTree ∧ PySem.W.excIn K c_DrawError vE vN = true ∧ PySem.W.excIn K c_NoPicture vE vN = true ∧ PySem.W.excIn K c_NoTree vE vN = true ∧ PySem.W.subIn K (.ref c_NoPicture) (.ref c_DrawError) = some true ∧ PySem.W.subIn K (.ref c_NoPicture) (.ref c_NoPicture) = some true ∧ PySem.W.subIn K (.ref c_NoTree) (.ref c_DrawError) = some true ∧ PySem.W.subIn K (.ref c_NoTree) (.ref c_NoTree) = some true ∧ PySem.W.subIn K (.ref c_NoPicture) (.ref c_NoTree) = some false ∧ PySem.W.kitOne K (.ref c_NoPicture) (.ref c_NoPicture) = some true ∧ PySem.W.kitOne K (.ref c_NoTree) (.ref c_NoPicture) = some false ∧ PySem.W.kitOne K (.ref c_NoPicture) (.type "ValueError") = some true ∧ PySem.W.kitOne K (.ref c_NoTree) (.type "ValueError") = some true ∧ PySem.W.kitAny K (.ref c_NoPicture) [.ref c_NoNode, .ref c_NoText, .ref c_NoTree] = some false ∧ PySem.W.kitAny K (.ref c_NoPicture) [.ref c_TooMany, .ref c_NoDeed, .ref c_NoPlace] = some false ∧ PySem.W.kitAny K (.ref c_NoTree) [.ref c_NoNode, .ref c_NoText, .ref c_NoTree] = some true ∧ PySem.W.kitAny K (.ref c_NoTree) [.ref c_TooMany, .ref c_NoDeed, .ref c_NoPlace] = some false
section
variable {P : Program} {w : World} {K : PySem.W.Frag} {mg : Str → Option Value} {base : Heap}
theorem jU {f : Addr} {fd : FuncData} (F : Fun K "is_on_way_up" "is_on_way_up" bE f fd) (T : Txt K mg) : FnOk P w K mg base CX0 1 f fd ["rows", "start", "wanted"] (sp3 K mg bV) := by
 refine fj (N := ["rows", "start", "wanted", "node"]) (k := 0) (body := d4) rfl rfl rfl F ft fun cdv A outer s H E hr => ?_
 unfold d4;exact (af (aD (i := 3) ft.nd rfl (Or.inl rfl) (aa 1))
   (af (nv PassesOwn.never (jR (sW (aP (fU hr.units) ij (aa 3) (fX d7 (fun _ => d9) ai) (aK _)) (pB (aP (fU hr.units) ij (aa 3) (aa 2) (aK _))))) (aq (aD (i := 3) ft.nd rfl (Or.inl rfl) (aY aG aX (aY aG aX (aa 0) (aa 3) (fun _ _ => rfl)) ai (fun _ _ => rfl)))))
   (aq (a8 (nj (fU hr.units) ij (aa 3) (fX d7 (fun _ => d9) ai) (aK _))))))
theorem nZ {f : Addr} {fd : FuncData} (F : Fun K "is_label" "is_label" cP f fd) (T : Txt K mg) : FnOk P w K mg base CX0 1 f fd ["text"] (sp3 K mg dC) := by
 refine fj (N := ["text"]) (k := 0) (body := gp) rfl rfl rfl F nV fun cdv A outer s H E hr => ?_
 unfold gp;exact (aq (a8 (nk (DY ai (bU aH bz rfl T.z_len PySem.boot_len (ae (aa 0) ao)) (f9 rfl T.c_LONGEST_LABEL)) (mn (bU (se rfl) yQ rfl T.z_all PyProof.Rows.boot_all (ae (pY (sc := (ar cP)) (outs := []) (is := [0]) ["sign"] ⟨rfl, rfl, by decide +kernel, by decide +kernel, by decide +kernel, trivial⟩ rfl (by decide) (wb (aa 0)) (fun _ _ _ _ _ => (bH (i := 0) (show List.Nodup (["sign"] : List Str) by decide +kernel) rfl (Or.inl rfl))) (fun _ _ _ _ _ => ph) (fun _ _ _ _ _ => (nj uq xO (aa 0) (uU rfl T.c_LETTERS) rfl))) ao))))))
theorem lF {f : Addr} {fd : FuncData} (F : Fun K "check_tall" "check_tall" bO f fd) (T : Txt K mg) : FnOk P w K mg base CX0 1 f fd ["tall"] (sp3 K mg dq) := by
 refine fj (N := ["tall"]) (k := 0) (body := e8) rfl rfl rfl F iI fun cdv A outer s H E hr => ?_
 unfold e8;exact (aq (bq (jR (g6 (aP oq (fun _ => oJ) (aa 0) ai (aK _)) (gA (aP g7 (fun _ => g9) (aa 0) (f9 rfl T.c_GREATEST_TALL) (aK _))))) (aq fk) aM))
theorem lE {f : Addr} {fd : FuncData} (F : Fun K "check_tall" "check_tall" bO f fd) (T : Txt K mg) : FnOk P w K mg base (CXC P w) 1 f fd ["tall"] (sp3 K mg dt) := by
 refine uZ (N := ["tall"]) (k := 0) (body := eZ) rfl rfl rfl F iI fun cdv A outer s H E hr => ?_
 obtain ⟨c_DrawError, c_NoDeed, c_NoNode, c_NoPicture, c_NoPlace, c_NoText, c_NoTree, c_TooMany, m_DrawError, m_NoDeed, m_NoNode, m_NoPicture, m_NoPlace, m_NoText, m_NoTree, m_TooMany, x_NoPicture, x_NoTree, h_DrawError, h_NoPicture, h_NoTree, u_NoPicture_DrawError, u_NoPicture_NoPicture, u_NoTree_DrawError, u_NoTree_NoTree, w_NoPicture_NoTree, k_NoPicture_NoPicture, k_NoTree_NoPicture, v_NoPicture_ValueError, v_NoTree_ValueError, t_NoPicture_NoNode_NoText_NoTree, t_NoPicture_TooMany_NoDeed_NoPlace, t_NoTree_NoNode_NoText_NoTree, t_NoTree_TooMany_NoDeed_NoPlace⟩ := T.xs;unfold eZ;exact (aq (bq (jR (g6 (aP oq (fun _ => oJ) (aa 0) ai (aK _)) (gA (aP g7 (fun _ => g9) (aa 0) (f9 rfl T.c_GREATEST_TALL) (aK _))))) (aq (eV LvC.of rfl rfl m_NoTree x_NoTree.ex)) aM))
theorem kl {f : Addr} {fd : FuncData} (F : Fun K "node_levels" "node_levels" bL f fd) (T : Txt K mg) : FnOk P w K mg base CX0 1 f fd ["tree"] (sp3 K mg cw) := by
 refine fj (N := ["tree", "levels", "row"]) (k := 0) (body := eg) rfl rfl rfl F f_ fun cdv A outer s H E hr => ?_
 unfold eg;exact (af (aD (i := 1) f_.nd rfl (Or.inl rfl) (bo ao))
   (af (eG rfl PassesOwn.never (wZ (aa 0)) (bH (i := 2) f_.nd rfl (Or.inl rfl)) (aq (ig 1 (cz (o9 (oG (aP (cA hr.units) dP (aY aG aX (aa 2) ai (fun _ _ => rfl)) (fX d7 (fun _ => d9) ai) (aK _)) ai (au aw aC (aY aG aX (aa 1) (aY aG aX (aa 2) ai (fun _ _ => rfl)) (fun _ _ => rfl)) ai)))))))
   (aq (fF 1))))
theorem jm {f : Addr} {fd : FuncData} (F : Fun K "last_children" "last_children" bJ f fd) (T : Txt K mg) : FnOk P w K mg base CX0 1 f fd ["tree"] (sp3 K mg cU) := by
 refine fj (N := ["tree", "last", "node", "row"]) (k := 0) (body := dM) rfl rfl rfl F dH fun cdv A outer s H E hr => ?_
 unfold dM;exact (af (aD (i := 1) dH.nd rfl (Or.inl rfl) AY)
   (af (eG rfl PassesOwn.never (iZ rfl T.z_enumerate (aa 0)) (jC (n := 2) rfl (dk (bH (i := 2) dH.nd rfl (Or.inl rfl)) (dk (bH (i := 3) dH.nd rfl (Or.inl rfl)) ix))) (aq (wg 1 (rS hr) (aY aG aX (aa 3) ai (fun _ _ => rfl)) (aa 2))))
   (aq (fF 1))))
theorem ko {f : Addr} {fd : FuncData} (F : Fun K "label_signs" "label_signs" cj f fd) (T : Txt K mg) : FnOk P w K mg base CX0 1 f fd ["row"] (sp3 K mg cY) := by
 refine fj (N := ["row"]) (k := 0) (body := eh) rfl rfl rfl F ku fun cdv A outer s H E hr => ?_
 unfold eh;exact (aq (a8 (au aw aC (aY aG aX (aa 0) ai (fun _ _ => rfl)) (au mD qi aS (au fV (fun _ => gb) (aY aG aX (aa 0) ai (fun _ _ => rfl)) ai)))))
theorem k_ {f : Addr} {fd : FuncData} (F : Fun K "likely_rows" "likely_rows" bD f fd) (T : Txt K mg) : FnOk P w K mg base CX0 1 f fd ["rows"] (sp3 K mg cX) := by
 refine fj (N := ["rows", "nodes", "way", "number", "row", "signs", "level", "label"]) (k := 0) (body := eI) rfl rfl rfl F aF fun cdv A outer s H E hr => ?_
 unfold eI;exact (af (aD (i := 1) aF.nd rfl (Or.inl rfl) (bo ao))
   (af (aD (i := 2) aF.nd rfl (Or.inl rfl) (cz (bo ao)))
   (af (eG rfl PassesOwn.never (iZ rfl T.z_enumerate (aa 0)) (jC (n := 2) rfl (dk (bH (i := 3) aF.nd rfl (Or.inl rfl)) (dk (bH (i := 4) aF.nd rfl (Or.inl rfl)) ix))) (af (aD (i := 5) aF.nd rfl (Or.inl rfl) (nu (op := oLst) PySem.F.slot_str_lstrip PySem.F.type_str_lstrip mf (fun _ _ _ _ => .str _) (aa 4) aS))
   (af (aD (i := 6) aF.nd rfl (Or.inl rfl) (au cE (fun _ => dE) (au fV (fun _ => gb) (bU aH bz rfl T.z_len PySem.boot_len (ae (aa 4) ao)) (bU aH bz rfl T.z_len PySem.boot_len (ae (aa 5) ao))) ai))
   (af (bq (aP g7 (fun _ => g9) (aa 6) (bU aH bz rfl T.z_len PySem.boot_len (ae (aa 2) ao)) (aK _)) (aq fk) aM)
   (af (aD (i := 7) aF.nd rfl (Or.inl rfl) (nu (op := sA) PySem.F.slot_str_rstrip PySem.F.type_str_rstrip l4 (fun _ _ _ _ => .str _) (aa 5) aS))
   (af (aD (i := 2) aF.nd rfl (Or.inl rfl) (cz (au aw aC (dR cK dF (aa 2) bN (bP (aa 6))) (bo (ae (aa 3) ao)))))
   (aq (ig 1 (cz (iM (ae (oG (aP (cA hr.units) dP (aa 6) ai (aK _)) (fX d7 (fun _ => d9) ai) (aY aG aX (aa 2) (au fV (fun _ => gb) (aa 6) ai) (fun _ _ => rfl))) (ae (aa 7) (ae (au aw aC (au fV (fun _ => gb) (bU aH bz rfl T.z_len PySem.boot_len (ae (aa 5) ao)) (bU aH bz rfl T.z_len PySem.boot_len (ae (aa 7) ao))) ai) ao)))))))))))))
   (aq (fF 1)))))
theorem kM {f : Addr} {fd : FuncData} (F : Fun K "likely_rows" "likely_rows" bD f fd) (T : Txt K mg) : FnOk P w K mg base (CXC P w) 1 f fd ["rows"] (sp3 K mg cy) := by
 refine uZ (N := ["rows", "nodes", "way", "number", "row", "signs", "level", "label"]) (k := 0) (body := eL) rfl rfl rfl F aF fun cdv A outer s H E hr => ?_
 obtain ⟨c_DrawError, c_NoDeed, c_NoNode, c_NoPicture, c_NoPlace, c_NoText, c_NoTree, c_TooMany, m_DrawError, m_NoDeed, m_NoNode, m_NoPicture, m_NoPlace, m_NoText, m_NoTree, m_TooMany, x_NoPicture, x_NoTree, h_DrawError, h_NoPicture, h_NoTree, u_NoPicture_DrawError, u_NoPicture_NoPicture, u_NoTree_DrawError, u_NoTree_NoTree, w_NoPicture_NoTree, k_NoPicture_NoPicture, k_NoTree_NoPicture, v_NoPicture_ValueError, v_NoTree_ValueError, t_NoPicture_NoNode_NoText_NoTree, t_NoPicture_TooMany_NoDeed_NoPlace, t_NoTree_NoNode_NoText_NoTree, t_NoTree_TooMany_NoDeed_NoPlace⟩ := T.xs;unfold eL;exact (af (aD (i := 1) aF.nd rfl (Or.inl rfl) (bo ao))
   (af (aD (i := 2) aF.nd rfl (Or.inl rfl) (cz (bo ao)))
   (af (eG rfl PassesOwn.leaving (iZ rfl T.z_enumerate (aa 0)) (jC (n := 2) rfl (dk (bH (i := 3) aF.nd rfl (Or.inl rfl)) (dk (bH (i := 4) aF.nd rfl (Or.inl rfl)) ix))) (af (aD (i := 5) aF.nd rfl (Or.inl rfl) (nu (op := oLst) PySem.F.slot_str_lstrip PySem.F.type_str_lstrip mf (fun _ _ _ _ => .str _) (aa 4) aS))
   (af (aD (i := 6) aF.nd rfl (Or.inl rfl) (au cE (fun _ => dE) (au fV (fun _ => gb) (bU aH bz rfl T.z_len PySem.boot_len (ae (aa 4) ao)) (bU aH bz rfl T.z_len PySem.boot_len (ae (aa 5) ao))) ai))
   (af (bq (aP g7 (fun _ => g9) (aa 6) (bU aH bz rfl T.z_len PySem.boot_len (ae (aa 2) ao)) (aK _)) (aq (eV LvC.of rfl rfl m_NoPicture x_NoPicture.ex)) aM)
   (af (aD (i := 7) aF.nd rfl (Or.inl rfl) (nu (op := sA) PySem.F.slot_str_rstrip PySem.F.type_str_rstrip l4 (fun _ _ _ _ => .str _) (aa 5) aS))
   (af (aD (i := 2) aF.nd rfl (Or.inl rfl) (cz (au aw aC (dR cK dF (aa 2) bN (bP (aa 6))) (bo (ae (aa 3) ao)))))
   (aq (ig 1 (cz (iM (ae (oG (aP (cA hr.units) dP (aa 6) ai (aK _)) (fX d7 (fun _ => d9) ai) (aY aG aX (aa 2) (au fV (fun _ => gb) (aa 6) ai) (fun _ _ => rfl))) (ae (aa 7) (ae (au aw aC (au fV (fun _ => gb) (bU aH bz rfl T.z_len PySem.boot_len (ae (aa 5) ao)) (bU aH bz rfl T.z_len PySem.boot_len (ae (aa 7) ao))) ai) ao)))))))))))))
   (aq (fF 1)))))
theorem mG {f : Addr} {fd : FuncData} (F : Fun K "_law_cell" "_law_cell" cN f fd) (T : Txt K mg) : FnOk P w K mg base CX0 1 f fd ["_law_script", "_law_k"] (sp3 K mg cL) := by
 refine fj (N := ["_law_script", "_law_k", "_law_number"]) (k := 0) (body := fN) rfl rfl rfl F gS fun cdv A outer s H E hr => ?_
 unfold fN;exact (af (bq (aP oq (fun _ => oJ) (aa 1) (bU aH bz rfl T.z_len PySem.boot_len (ae (aa 0) ao)) (aK _)) (aq (a8 (aY aG aX (aa 0) (aa 1) (fun _ _ => rfl)))) aM)
   (af (aD (i := 2) gS.nd rfl (Or.inl rfl) (au aw aC (au e6 gz ai (aa 1)) ai))
   (af (bq (aP g7 (fun _ => g9) (bU aH bz rfl T.z_len PySem.boot_len (ae (aa 0) ao)) ai (aK _)) (aq (aD (i := 2) gS.nd rfl (Or.inl rfl) (au cu (fun _ => cn) (au aw aC (au e6 gz (aY aG aX (aa 0) (au cu (fun _ => cn) (aa 1) (bU aH bz rfl T.z_len PySem.boot_len (ae (aa 0) ao))) (fun _ _ => rfl)) ai) (au e6 gz (aa 1) ai)) ai))) aM)
   (aq (a8 (au cu (fun _ => cn) (au e6 gz (aa 2) (aa 2)) ai))))))
theorem lG {f : Addr} {fd : FuncData} (F : Fun K "_law_whole" "_law_whole" cJ f fd) (T : Txt K mg) : FnOk P w K mg base CX0 1 f fd ["_law_found"] (sp3 K mg du) := by
 refine fj (N := ["_law_found"]) (k := 0) (body := eX) rfl rfl rfl F lC fun cdv A outer s H E hr => ?_
 unfold eX;exact (aq (a8 (nk (kN rfl T.z_isinstance rfl T.z_int o4 (aa 0)) (mn (yL (kN rfl T.z_isinstance rfl T.z_bool vx (aa 0)))))))
theorem lr {f : Addr} {fd : FuncData} (F : Fun K "_law_label" "_law_label" cF f fd) (T : Txt K mg) : FnOk P w K mg base CX0 1 f fd ["_law_number", "_law_most"] (sp3 K mg dr) := by
 refine fj (N := ["_law_number", "_law_most", "_law_letters", "_law_label_here", "_law_k"]) (k := 0) (body := e9) rfl rfl rfl F dS fun cdv A outer s H E hr => ?_
 unfold e9;exact (af (aD (i := 2) dS.nd rfl (Or.inl rfl) aS)
   (af (aD (i := 3) dS.nd rfl (Or.inl rfl) aS)
   (af (eG rfl PassesOwn.never (lU rfl T.z_range (au aw aC ai (au cu (fun _ => cn) (aa 0) (aa 1)))) (bH (i := 4) dS.nd rfl (Or.inl rfl)) (aq (aD (i := 3) dS.nd rfl (Or.inl rfl) (au aw aC (aa 3) (aY aG aX (aa 2) (au cu (fun _ => cn) (au cE (fun _ => dE) (aa 0) (au aw aC ai (au e6 gz (au e6 gz ai (aa 4)) (aa 4)))) ai) (fun _ _ => rfl))))))
   (aq (a8 (aa 3))))))
theorem ni {f : Addr} {fd : FuncData} (F : Fun K "_law_last" "_law_last" da f fd) (T : Txt K mg) : FnOk P w K mg base CX0 1 f fd ["_law_tree_here", "_law_node"] (sp3 K mg dJ) := by
 refine fj (N := ["_law_tree_here", "_law_node", "_law_k"]) (k := 0) (body := fH) rfl rfl rfl F jb fun cdv A outer s H E hr => ?_
 unfold fH;exact (af (eG rfl PassesOwn.never (uV rfl T.z_range (au aw aC (aa 1) ai) (bU aH bz rfl T.z_len PySem.boot_len (ae (aa 0) ao))) (bH (i := 2) jb.nd rfl (Or.inl rfl)) (aq (bq (aP (cA hr.units) dP (aY aG aX (aY aG aX (aa 0) (aa 2) (fun _ _ => rfl)) ai (fun _ _ => rfl)) (aY aG aX (aY aG aX (aa 0) (aa 1) (fun _ _ => rfl)) ai (fun _ _ => rfl)) (aK _)) (aq (a8 iG)) aM)))
   (aq (a8 iG)))
theorem j0 {f : Addr} {fd : FuncData} (F : Fun K "_law_swapped" "_law_swapped" bR f fd) (T : Txt K mg) : FnOk P w K mg base CX0 1 f fd ["_law_text", "_law_signs", "_law_number"] (sp3 K mg cC) := by
 refine fj (N := ["_law_text", "_law_signs", "_law_number", "_law_k", "_law_at", "_law_other"]) (k := 0) (body := d6) rfl rfl rfl F dY fun cdv A outer s H E hr => ?_
 unfold d6;exact (af (eG rfl PassesOwn.never (lU rfl T.z_range (bU aH bz rfl T.z_len PySem.boot_len (ae (aa 0) ao))) (bH (i := 3) dY.nd rfl (Or.inl rfl)) (af (aD (i := 4) dY.nd rfl (Or.inl rfl) (au cu (fun _ => cn) (au aw aC (aa 2) (aa 3)) (bU aH bz rfl T.z_len PySem.boot_len (ae (aa 0) ao))))
   (aq (bq (jR (sW (aP uq xO (aY aG aX (aa 0) (aa 4) (fun _ _ => rfl)) (aa 1) rfl) (pB (jR (g6 (aP (fU hr.units) ij (aY aG aX (aa 0) (aa 4) (fun _ _ => rfl)) aS (aK _)) (gA (aP (cA hr.units) dP (au cu (fun _ => cn) (aa 4) ai) ai (aK _)))))))) (af (aD (i := 5) dY.nd rfl (Or.inl rfl) (aY aG aX (aa 1) (au fV (fun _ => gb) ai (nu (op := yd) PySem.F.slot_str_find PySem.F.type_str_find wV (fun _ _ _ _ => .int _) (aa 1) (aY aG aX (aa 0) (aa 4) (fun _ _ => rfl)))) (fun _ _ => rfl)))
   (aq (a8 (au aw aC (au aw aC (dR mV mq (aa 0) bN (bP (aa 4))) (aa 5)) (dR mV mq (aa 0) (bP (au aw aC (aa 4) ai)) bN))))) aM))))
   (aq (a8 (au aw aC aS (aa 0)))))
theorem kL {f : Addr} {fd : FuncData} (F : Fun K "check_elder" "check_elder" bB f fd) (T : Txt K mg) {A1 : Addr} {B1 : FuncData} (e_1 : Def K mg "is_on_way_up" bE ["rows", "start", "wanted"] A1 B1) (f_1 : FnOk P w K mg base CX0 1 A1 B1 ["rows", "start", "wanted"] (sp3 K mg bV)) : FnOk P w K mg base CX0 2 f fd ["rows", "number"] (sp3 K mg cT) := by
 refine fj (N := ["rows", "number", "elder"]) (k := 1) (body := eK) rfl rfl rfl F eM fun cdv A outer s H E hr => ?_
 unfold eK;exact (af (aD (i := 2) eM.nd rfl (Or.inl rfl) (aY aG aX (aY aG aX (aa 0) (aa 1) (fun _ _ => rfl)) ai (fun _ _ => rfl)))
   (aq (bq (aP (cA hr.units) dP (aa 1) ai (aK _)) (aq (bq (aP (fU hr.units) ij (aa 2) (fX d7 (fun _ => d9) ai) (aK _)) (aq fk) aM)) (aq (bq (eP (d8 (az f_1 (hr.mono (by decide)) rfl e_1.g e_1.F.kp e_1.b bh (ae (aa 0) (ae (au fV (fun _ => gb) (aa 1) ai) (ae (aa 2) ao)))))) (aq fk) aM)))))
theorem kr {f : Addr} {fd : FuncData} (F : Fun K "check_elder" "check_elder" bB f fd) (T : Txt K mg) {A1 : Addr} {B1 : FuncData} (e_1 : Def K mg "is_on_way_up" bE ["rows", "start", "wanted"] A1 B1) (f_1 : FnOk P w K mg base CX0 1 A1 B1 ["rows", "start", "wanted"] (sp3 K mg bV)) : FnOk P w K mg base (CXC P w) 2 f fd ["rows", "number"] (sp3 K mg cW) := by
 refine uZ (N := ["rows", "number", "elder"]) (k := 1) (body := ei) rfl rfl rfl F eM fun cdv A outer s H E hr => ?_
 obtain ⟨c_DrawError, c_NoDeed, c_NoNode, c_NoPicture, c_NoPlace, c_NoText, c_NoTree, c_TooMany, m_DrawError, m_NoDeed, m_NoNode, m_NoPicture, m_NoPlace, m_NoText, m_NoTree, m_TooMany, x_NoPicture, x_NoTree, h_DrawError, h_NoPicture, h_NoTree, u_NoPicture_DrawError, u_NoPicture_NoPicture, u_NoTree_DrawError, u_NoTree_NoTree, w_NoPicture_NoTree, k_NoPicture_NoPicture, k_NoTree_NoPicture, v_NoPicture_ValueError, v_NoTree_ValueError, t_NoPicture_NoNode_NoText_NoTree, t_NoPicture_TooMany_NoDeed_NoPlace, t_NoTree_NoNode_NoText_NoTree, t_NoTree_TooMany_NoDeed_NoPlace⟩ := T.xs;unfold ei;exact (af (aD (i := 2) eM.nd rfl (Or.inl rfl) (aY aG aX (aY aG aX (aa 0) (aa 1) (fun _ _ => rfl)) ai (fun _ _ => rfl)))
   (aq (bq (aP (cA hr.units) dP (aa 1) ai (aK _)) (aq (bq (aP (fU hr.units) ij (aa 2) (fX d7 (fun _ => d9) ai) (aK _)) (aq (eV LvC.of rfl rfl m_NoTree x_NoTree.ex)) aM)) (aq (bq (eP (d8 (az f_1 (hr.mono (by decide)) rfl e_1.g e_1.F.kp e_1.b bh (ae (aa 0) (ae (au fV (fun _ => gb) (aa 1) ai) (ae (aa 2) ao)))))) (aq (eV LvC.of rfl rfl m_NoTree x_NoTree.ex)) aM)))))
theorem kO {f : Addr} {fd : FuncData} (F : Fun K "check_label" "check_label" bC f fd) (T : Txt K mg) {A2 : Addr} {B2 : FuncData} (e_2 : Def K mg "is_label" cP ["text"] A2 B2) (f_2 : FnOk P w K mg base CX0 1 A2 B2 ["text"] (sp3 K mg dC)) : FnOk P w K mg base CX0 2 f fd ["label"] (sp3 K mg cZ) := by
 refine fj (N := ["label"]) (k := 1) (body := eE) rfl rfl rfl F iq fun cdv A outer s H E hr => ?_
 unfold eE;exact (aq (bq (eP (d8 (az f_2 (hr.mono (by decide)) rfl e_2.g e_2.F.kp e_2.b bh (ae (aa 0) ao)))) (aq fk) aM))
theorem kz {f : Addr} {fd : FuncData} (F : Fun K "check_label" "check_label" bC f fd) (T : Txt K mg) {A2 : Addr} {B2 : FuncData} (e_2 : Def K mg "is_label" cP ["text"] A2 B2) (f_2 : FnOk P w K mg base CX0 1 A2 B2 ["text"] (sp3 K mg dC)) : FnOk P w K mg base (CXC P w) 2 f fd ["label"] (sp3 K mg cV) := by
 refine uZ (N := ["label"]) (k := 1) (body := eJ) rfl rfl rfl F iq fun cdv A outer s H E hr => ?_
 obtain ⟨c_DrawError, c_NoDeed, c_NoNode, c_NoPicture, c_NoPlace, c_NoText, c_NoTree, c_TooMany, m_DrawError, m_NoDeed, m_NoNode, m_NoPicture, m_NoPlace, m_NoText, m_NoTree, m_TooMany, x_NoPicture, x_NoTree, h_DrawError, h_NoPicture, h_NoTree, u_NoPicture_DrawError, u_NoPicture_NoPicture, u_NoTree_DrawError, u_NoTree_NoTree, w_NoPicture_NoTree, k_NoPicture_NoPicture, k_NoTree_NoPicture, v_NoPicture_ValueError, v_NoTree_ValueError, t_NoPicture_NoNode_NoText_NoTree, t_NoPicture_TooMany_NoDeed_NoPlace, t_NoTree_NoNode_NoText_NoTree, t_NoTree_TooMany_NoDeed_NoPlace⟩ := T.xs;unfold eJ;exact (aq (bq (eP (d8 (az f_2 (hr.mono (by decide)) rfl e_2.g e_2.F.kp e_2.b bh (ae (aa 0) ao)))) (aq (eV LvC.of rfl rfl m_NoTree x_NoTree.ex)) aM))
theorem mP {f : Addr} {fd : FuncData} (F : Fun K "hung_rows" "hung_rows" cM f fd) (T : Txt K mg) {A5 : Addr} {B5 : FuncData} (e_5 : Def K mg "last_children" bJ ["tree"] A5 B5) (f_5 : FnOk P w K mg base CX0 1 A5 B5 ["tree"] (sp3 K mg cU)) {A6 : Addr} {B6 : FuncData} (e_6 : Def K mg "label_signs" cj ["row"] A6 B6) (f_6 : FnOk P w K mg base CX0 1 A6 B6 ["row"] (sp3 K mg cY)) : FnOk P w K mg base CX0 2 f fd ["tree"] (sp3 K mg cI) := by
 refine fj (N := ["tree", "last", "ahead", "rows", "node", "elder", "is_last"]) (k := 1) (body := fQ) rfl rfl rfl F di fun cdv A outer s H E hr => ?_
 unfold fQ;exact (af (aD (i := 1) di.nd rfl (Or.inl rfl) (cz (az f_5 (hr.mono (by decide)) rfl e_5.g e_5.F.kp e_5.b bh (ae (aa 0) ao))))
   (af (aD (i := 2) di.nd rfl (Or.inl rfl) (bo (ae aS ao)))
   (af (aD (i := 3) di.nd rfl (Or.inl rfl) (bo (ae (cz (az f_6 (hr.mono (by decide)) rfl e_6.g e_6.F.kp e_6.b bh (ae (aY aG aX (aa 0) ai (fun _ _ => rfl)) ao))) ao)))
   (af (eG rfl PassesOwn.never (uV rfl T.z_range ai (bU aH bz rfl T.z_len PySem.boot_len (ae (aa 0) ao))) (bH (i := 4) di.nd rfl (Or.inl rfl)) (af (aD (i := 5) di.nd rfl (Or.inl rfl) (aY aG aX (aY aG aX (aa 0) (aa 4) (fun _ _ => rfl)) ai (fun _ _ => rfl)))
   (af (aD (i := 6) di.nd rfl (Or.inl rfl) (nj (cA hr.units) dP (AN (rS hr) (aa 1) (aa 5) (fun _ _ => rfl)) (aa 4) (aK _)))
   (af (ig 2 (o9 (au aw aC (aY aG aX (aa 2) (aa 5) (fun _ _ => rfl)) (oG (d8 (aa 6)) aS aS))))
   (aq (ig 3 (o9 (au aw aC (au aw aC (aY aG aX (aa 2) (aa 5) (fun _ _ => rfl)) (oG (d8 (aa 6)) aS aS)) (az f_6 (hr.mono (by decide)) rfl e_6.g e_6.F.kp e_6.b bh (ae (aY aG aX (aa 0) (aa 4) (fun _ _ => rfl)) ao))))))))))
   (aq (fF 3))))))
theorem nh {f : Addr} {fd : FuncData} (F : Fun K "_law_tree" "_law_tree" dc f fd) (T : Txt K mg) {A8 : Addr} {B8 : FuncData} (e_8 : Def K mg "_law_cell" cN ["_law_script", "_law_k"] A8 B8) (f_8 : FnOk P w K mg base CX0 1 A8 B8 ["_law_script", "_law_k"] (sp3 K mg cL)) {A10 : Addr} {B10 : FuncData} (e_10 : Def K mg "_law_label" cF ["_law_number", "_law_most"] A10 B10) (f_10 : FnOk P w K mg base CX0 1 A10 B10 ["_law_number", "_law_most"] (sp3 K mg dr)) : FnOk P w K mg base CX0 2 f fd ["_law_script", "_law_start", "_law_many", "_law_most", "_law_deep"] (sp3 K mg eF) := by
 refine fj (N := ["_law_script", "_law_start", "_law_many", "_law_most", "_law_deep", "_law_tree_here", "_law_way", "_law_k", "_law_number", "_law_keep"]) (k := 1) (body := fP) rfl rfl rfl F cf fun cdv A outer s H E hr => ?_
 unfold fP;exact (af (aD (i := 5) cf.nd rfl (Or.inl rfl) (bo ao))
   (af (aD (i := 6) cf.nd rfl (Or.inl rfl) (cz (bo ao)))
   (af (eG rfl PassesOwn.never (lU rfl T.z_range (aa 2)) (bH (i := 7) cf.nd rfl (Or.inl rfl)) (af (aD (i := 8) cf.nd rfl (Or.inl rfl) (au cu (fun _ => cn) (au e6 gz (az f_8 (hr.mono (by decide)) rfl e_8.g e_8.F.kp e_8.b bh (ae (aa 0) (ae (au aw aC (aa 1) (aa 7)) ao))) ai) ai))
   (af (bq (aP g7 (fun _ => g9) (aa 7) ai (aK _)) (af (aD (i := 9) cf.nd rfl (Or.inl rfl) (au aw aC ai (au cu (fun _ => cn) (aa 8) (bU aH bz rfl T.z_len PySem.boot_len (ae (aa 6) ao)))))
   (af (bq (aP (cA hr.units) dP (au cu (fun _ => cn) (au cE (fun _ => dE) (aa 8) ai) ai) ai (aK _)) (aq (aD (i := 9) cf.nd rfl (Or.inl rfl) (bU aH bz rfl T.z_len PySem.boot_len (ae (aa 6) ao)))) aM)
   (af (aD (i := 6) cf.nd rfl (Or.inl rfl) (cz (dR cK dF (aa 6) bN (bP (bU (ri rfl) (fun _ => wW) rfl T.z_min PyProof.Rows.boot_min (ae (aa 9) (ae (aa 4) ao)))))))
   (aq (ig 5 (cz (iM (ae (aY aG aX (aa 6) (fX d7 (fun _ => d9) ai) (fun _ _ => rfl)) (ae (cz (az f_10 (hr.mono (by decide)) rfl e_10.g e_10.F.kp e_10.b bh (ae (au cE (fun _ => dE) (aa 8) ai) (ae (aa 3) ao)))) (ae (au aw aC ai (au cu (fun _ => cn) (au cE (fun _ => dE) (aa 8) ai) ai)) ao)))))))))) (aq (ig 5 (cz (iM (ae (fX d7 (fun _ => d9) ai) (ae (cz (az f_10 (hr.mono (by decide)) rfl e_10.g e_10.F.kp e_10.b bh (ae (au cE (fun _ => dE) (aa 8) ai) (ae (aa 3) ao)))) (ae (au aw aC ai (au cu (fun _ => cn) (au cE (fun _ => dE) (aa 8) ai) ai)) ao))))))))
   (aq (aD (i := 6) cf.nd rfl (Or.inl rfl) (cz (au aw aC (aa 6) (bo (ae (aa 7) ao)))))))))
   (aq (fF 5)))))
theorem mR {f : Addr} {fd : FuncData} (F : Fun K "_law_rows" "_law_rows" cG f fd) (T : Txt K mg) {A9 : Addr} {B9 : FuncData} (e_9 : Def K mg "_law_whole" cJ ["_law_found"] A9 B9) (f_9 : FnOk P w K mg base CX0 1 A9 B9 ["_law_found"] (sp3 K mg du)) : FnOk P w K mg base CX0 2 f fd ["_law_found", "_law_due"] (sp3 K mg bZ) := by
 refine fj (N := ["_law_found", "_law_due", "_law_row", "_law_other"]) (k := 1) (body := fO) rfl rfl rfl F gQ fun cdv A outer s H E hr => ?_
 unfold fO;exact (af (bq (jR (g6 (eP (d8 (kN rfl T.z_isinstance rfl T.z_list iT (aa 0)))) (gA (aP (fU hr.units) ij (bU aH bz rfl T.z_len PySem.boot_len (ae (aa 0) ao)) (bU aH bz rfl T.z_len PySem.boot_len (ae (aa 1) ao)) (aK _))))) (aq (a8 iG)) aM)
   (af (eG rfl PassesOwn.never (AG rfl T.z_zip (aa 0) (aa 1)) (jC (n := 2) rfl (dk (bH (i := 2) gQ.nd rfl (Or.inl rfl)) (dk (bH (i := 3) gQ.nd rfl (Or.inl rfl)) ix))) (af (bq (jR (g6 (eP (d8 (kN rfl T.z_isinstance rfl T.z_tuple si (aa 2)))) (g6 (aP (fU hr.units) ij (bU aH bz rfl T.z_len PySem.boot_len (ae (aa 2) ao)) ai (aK _)) (gA (eP (d8 (az f_9 (hr.mono (by decide)) rfl e_9.g e_9.F.kp e_9.b bh (ae (aY aG aX (aa 2) ai (fun _ _ => rfl)) ao)))))))) (aq (a8 iG)) aM)
   (aq (bq (jR (g6 (eP (d8 (kN rfl T.z_isinstance rfl T.z_str zF (aY aG aX (aa 2) ai (fun _ _ => rfl))))) (g6 (eP (d8 (az f_9 (hr.mono (by decide)) rfl e_9.g e_9.F.kp e_9.b bh (ae (aY aG aX (aa 2) ai (fun _ _ => rfl)) ao)))) (gA (aP (fU hr.units) ij (aa 2) (aa 3) (aK _)))))) (aq (a8 iG)) aM))))
   (aq (a8 iG))))
theorem mi {f : Addr} {fd : FuncData} (F : Fun K "_law_hung" "_law_hung" cO f fd) (T : Txt K mg) {A11 : Addr} {B11 : FuncData} (e_11 : Def K mg "_law_last" da ["_law_tree_here", "_law_node"] A11 B11) (f_11 : FnOk P w K mg base CX0 1 A11 B11 ["_law_tree_here", "_law_node"] (sp3 K mg dJ)) : FnOk P w K mg base CX0 2 f fd ["_law_tree_here"] (sp3 K mg bY) := by
 refine fj (N := ["_law_tree_here", "_law_rows_here", "_law_node", "_law_text", "_law_k", "_law_up"]) (k := 1) (body := fL) rfl rfl rfl F bM fun cdv A outer s H E hr => ?_
 unfold fL;exact (af (aD (i := 1) bM.nd rfl (Or.inl rfl) (bo ao))
   (af (eG rfl PassesOwn.never (lU rfl T.z_range (bU aH bz rfl T.z_len PySem.boot_len (ae (aa 0) ao))) (bH (i := 2) bM.nd rfl (Or.inl rfl)) (af (aD (i := 3) bM.nd rfl (Or.inl rfl) (aY aG aX (aY aG aX (aa 0) (aa 2) (fun _ _ => rfl)) ai (fun _ _ => rfl)))
   (af (eG rfl PassesOwn.never (uV rfl T.z_range ai (aY aG aX (aY aG aX (aa 0) (aa 2) (fun _ _ => rfl)) ai (fun _ _ => rfl))) (bH (i := 4) bM.nd rfl (Or.inl rfl)) (aq (aD (i := 3) bM.nd rfl (Or.inl rfl) (au aw aC (aa 3) aS))))
   (af (bq (aP g7 (fun _ => g9) (aa 2) ai (aK _)) (af (aD (i := 3) bM.nd rfl (Or.inl rfl) (au aw aC (aY aG aX (bo (ae aS (ae aS ao))) (lZ lT (fun _ => pL) rfl T.z_int o4 (ae (az f_11 (hr.mono (by decide)) rfl e_11.g e_11.F.kp e_11.b bh (ae (aa 0) (ae (aa 2) ao))) ao)) (fun _ _ => rfl)) (aa 3)))
   (af (aD (i := 5) bM.nd rfl (Or.inl rfl) (aY aG aX (aY aG aX (aa 0) (aa 2) (fun _ _ => rfl)) ai (fun _ _ => rfl)))
   (aq (nv PassesOwn.never (aP g7 (fun _ => g9) (aa 5) ai (aK _)) (af (aD (i := 3) bM.nd rfl (Or.inl rfl) (au aw aC (aY aG aX (bo (ae aS (ae aS ao))) (lZ lT (fun _ => pL) rfl T.z_int o4 (ae (az f_11 (hr.mono (by decide)) rfl e_11.g e_11.F.kp e_11.b bh (ae (aa 0) (ae (aa 5) ao))) ao)) (fun _ _ => rfl)) (aa 3)))
   (aq (aD (i := 5) bM.nd rfl (Or.inl rfl) (aY aG aX (aY aG aX (aa 0) (aa 5) (fun _ _ => rfl)) ai (fun _ _ => rfl))))))))) aM)
   (aq (ig 1 (aa 3)))))))
   (aq (fF 1))))
theorem iD {f : Addr} {fd : FuncData} (F : Fun K "_law_spoiled_row" "_law_spoiled_row" ba f fd) (T : Txt K mg) {A12 : Addr} {B12 : FuncData} (e_12 : Def K mg "_law_swapped" bR ["_law_text", "_law_signs", "_law_number"] A12 B12) (f_12 : FnOk P w K mg base CX0 1 A12 B12 ["_law_text", "_law_signs", "_law_number"] (sp3 K mg cC)) : FnOk P w K mg base CX0 2 f fd ["_law_text", "_law_number"] (sp3 K mg bX) := by
 refine fj (N := ["_law_text", "_law_number", "_law_kind", "_law_at"]) (k := 1) (body := cS) rfl rfl rfl F dQ fun cdv A outer s H E hr => ?_
 unfold cS;exact (af (aD (i := 2) dQ.nd rfl (Or.inl rfl) (au cu (fun _ => cn) (aa 1) ai))
   (af (bq (aP (cA hr.units) dP (aa 2) ai (aK _)) (aq (a8 (au aw aC (aa 0) aS))) aM)
   (af (bq (aP (cA hr.units) dP (aa 2) ai (aK _)) (aq (a8 (au aw aC (au mD qi aS (au aw aC ai (au cu (fun _ => cn) (au cE (fun _ => dE) (aa 1) ai) ai))) (aa 0)))) aM)
   (af (bq (aP (cA hr.units) dP (aa 2) ai (aK _)) (af (aD (i := 3) dQ.nd rfl (Or.inl rfl) (au cu (fun _ => cn) (au cE (fun _ => dE) (aa 1) ai) (au aw aC (bU aH bz rfl T.z_len PySem.boot_len (ae (aa 0) ao)) ai)))
   (aq (a8 (au aw aC (au aw aC (dR mV mq (aa 0) bN (bP (aa 3))) (aY aG aX aS (au cu (fun _ => cn) (au cE (fun _ => dE) (aa 1) ai) ai) (fun _ _ => rfl))) (dR mV mq (aa 0) (bP (aa 3)) bN))))) aM)
   (af (bq (aP (cA hr.units) dP (aa 2) ai (aK _)) (aq (a8 (az f_12 (hr.mono (by decide)) rfl e_12.g e_12.F.kp e_12.b bh (ae (aa 0) (ae aS (ae (au cE (fun _ => dE) (aa 1) ai) ao)))))) aM)
   (af (bq (aP (cA hr.units) dP (aa 2) ai (aK _)) (aq (a8 (az f_12 (hr.mono (by decide)) rfl e_12.g e_12.F.kp e_12.b bh (ae (aa 0) (ae aS (ae (au cE (fun _ => dE) (aa 1) ai) ao)))))) aM)
   (aq (a8 (au aw aC (aa 0) aS)))))))))
theorem mZ {f : Addr} {fd : FuncData} (F : Fun K "made_tree" "made_tree" cg f fd) (T : Txt K mg) {A13 : Addr} {B13 : FuncData} (e_13 : Def K mg "check_elder" bB ["rows", "number"] A13 B13) (f_13 : FnOk P w K mg base CX0 2 A13 B13 ["rows", "number"] (sp3 K mg cT)) (Gx_check_elder : FnOk P w K mg base (CXC P w) 2 A13 B13 ["rows", "number"] (sp3 K mg cW)) {A14 : Addr} {B14 : FuncData} (e_14 : Def K mg "check_label" bC ["label"] A14 B14) (f_14 : FnOk P w K mg base CX0 2 A14 B14 ["label"] (sp3 K mg cZ)) (Gx_check_label : FnOk P w K mg base (CXC P w) 2 A14 B14 ["label"] (sp3 K mg cV)) {A3 : Addr} {B3 : FuncData} (e_3 : Def K mg "check_tall" bO ["tall"] A3 B3) (f_3 : FnOk P w K mg base CX0 1 A3 B3 ["tall"] (sp3 K mg dq)) (Gx_check_tall : FnOk P w K mg base (CXC P w) 1 A3 B3 ["tall"] (sp3 K mg dt)) {A4 : Addr} {B4 : FuncData} (e_4 : Def K mg "node_levels" bL ["tree"] A4 B4) (f_4 : FnOk P w K mg base CX0 1 A4 B4 ["tree"] (sp3 K mg cw)) : FnOk P w K mg base CX0 3 f fd ["rows"] (sp3 K mg dN) := by
 refine fj (N := ["rows", "number", "row"]) (k := 2) (body := fB) rfl rfl rfl F dO fun cdv A outer s H E hr => ?_
 unfold fB;exact (af (bq (jR (g6 (aP oq (fun _ => oJ) (bU aH bz rfl T.z_len PySem.boot_len (ae (aa 0) ao)) ai (aK _)) (gA (aP g7 (fun _ => g9) (bU aH bz rfl T.z_len PySem.boot_len (ae (aa 0) ao)) (f9 rfl T.c_MOST_NODES) (aK _))))) (aq fk) aM)
   (af (eG rfl PassesOwn.never (iZ rfl T.z_enumerate (aa 0)) (jC (n := 2) rfl (dk (bH (i := 1) dO.nd rfl (Or.inl rfl)) (dk (bH (i := 2) dO.nd rfl (Or.inl rfl)) ix))) (af (iw (az f_13 (hr.mono (by decide)) rfl e_13.g e_13.F.kp e_13.b bh (ae (aa 0) (ae (aa 1) ao))))
   (af (iw (az f_14 (hr.mono (by decide)) rfl e_14.g e_14.F.kp e_14.b bh (ae (aY aG aX (aa 2) ai (fun _ _ => rfl)) ao)))
   (aq (iw (az f_3 (hr.mono (by decide)) rfl e_3.g e_3.F.kp e_3.b bh (ae (aY aG aX (aa 2) ai (fun _ _ => rfl)) ao)))))))
   (af (bq (aP g7 (fun _ => g9) (bU (l5 _ rfl rfl) qf rfl T.z_max PyProof.Rows.boot_max (ae (az f_4 (hr.mono (by decide)) rfl e_4.g e_4.F.kp e_4.b bh (ae (aa 0) ao)) ao)) (f9 rfl T.c_GREATEST_LEVEL) (aK _)) (aq fk) aM)
   (aq (a8 (lZ (iA _ rfl) mM rfl T.z_list iT (ae (aa 0) ao)))))))
theorem mU {f : Addr} {fd : FuncData} (F : Fun K "made_tree" "made_tree" cg f fd) (T : Txt K mg) {A13 : Addr} {B13 : FuncData} (e_13 : Def K mg "check_elder" bB ["rows", "number"] A13 B13) (f_13 : FnOk P w K mg base CX0 2 A13 B13 ["rows", "number"] (sp3 K mg cT)) (Gx_check_elder : FnOk P w K mg base (CXC P w) 2 A13 B13 ["rows", "number"] (sp3 K mg cW)) {A14 : Addr} {B14 : FuncData} (e_14 : Def K mg "check_label" bC ["label"] A14 B14) (f_14 : FnOk P w K mg base CX0 2 A14 B14 ["label"] (sp3 K mg cZ)) (Gx_check_label : FnOk P w K mg base (CXC P w) 2 A14 B14 ["label"] (sp3 K mg cV)) {A3 : Addr} {B3 : FuncData} (e_3 : Def K mg "check_tall" bO ["tall"] A3 B3) (f_3 : FnOk P w K mg base CX0 1 A3 B3 ["tall"] (sp3 K mg dq)) (Gx_check_tall : FnOk P w K mg base (CXC P w) 1 A3 B3 ["tall"] (sp3 K mg dt)) {A4 : Addr} {B4 : FuncData} (e_4 : Def K mg "node_levels" bL ["tree"] A4 B4) (f_4 : FnOk P w K mg base CX0 1 A4 B4 ["tree"] (sp3 K mg cw)) : FnOk P w K mg base (CXC P w) 3 f fd ["rows"] (sp3 K mg dg) := by
 refine uZ (N := ["rows", "number", "row"]) (k := 2) (body := fJ) rfl rfl rfl F dO fun cdv A outer s H E hr => ?_
 obtain ⟨c_DrawError, c_NoDeed, c_NoNode, c_NoPicture, c_NoPlace, c_NoText, c_NoTree, c_TooMany, m_DrawError, m_NoDeed, m_NoNode, m_NoPicture, m_NoPlace, m_NoText, m_NoTree, m_TooMany, x_NoPicture, x_NoTree, h_DrawError, h_NoPicture, h_NoTree, u_NoPicture_DrawError, u_NoPicture_NoPicture, u_NoTree_DrawError, u_NoTree_NoTree, w_NoPicture_NoTree, k_NoPicture_NoPicture, k_NoTree_NoPicture, v_NoPicture_ValueError, v_NoTree_ValueError, t_NoPicture_NoNode_NoText_NoTree, t_NoPicture_TooMany_NoDeed_NoPlace, t_NoTree_NoNode_NoText_NoTree, t_NoTree_TooMany_NoDeed_NoPlace⟩ := T.xs;unfold fJ;exact (af (bq (jR (g6 (aP oq (fun _ => oJ) (bU aH bz rfl T.z_len PySem.boot_len (ae (aa 0) ao)) ai (aK _)) (gA (aP g7 (fun _ => g9) (bU aH bz rfl T.z_len PySem.boot_len (ae (aa 0) ao)) (f9 rfl T.c_MOST_NODES) (aK _))))) (aq (eV LvC.of rfl rfl m_NoTree x_NoTree.ex)) aM)
   (af (eG rfl PassesOwn.leaving (iZ rfl T.z_enumerate (aa 0)) (jC (n := 2) rfl (dk (bH (i := 1) dO.nd rfl (Or.inl rfl)) (dk (bH (i := 2) dO.nd rfl (Or.inl rfl)) ix))) (af (iw (az Gx_check_elder (hr.mono (by decide)) rfl e_13.g e_13.F.kp e_13.b LvC.of.pass (ae (aa 0) (ae (aa 1) ao))))
   (af (iw (az Gx_check_label (hr.mono (by decide)) rfl e_14.g e_14.F.kp e_14.b LvC.of.pass (ae (aY aG aX (aa 2) ai (fun _ _ => rfl)) ao)))
   (aq (iw (az Gx_check_tall (hr.mono (by decide)) rfl e_3.g e_3.F.kp e_3.b LvC.of.pass (ae (aY aG aX (aa 2) ai (fun _ _ => rfl)) ao)))))))
   (af (bq (aP g7 (fun _ => g9) (bU (l5 _ rfl rfl) qf rfl T.z_max PyProof.Rows.boot_max (ae (az f_4 (hr.mono (by decide)) rfl e_4.g e_4.F.kp e_4.b bh (ae (aa 0) ao)) ao)) (f9 rfl T.c_GREATEST_LEVEL) (aK _)) (aq (eV LvC.of rfl rfl m_NoTree x_NoTree.ex)) aM)
   (aq (a8 (lZ (iA _ rfl) mM rfl T.z_list iT (ae (aa 0) ao)))))))
theorem jT {f : Addr} {fd : FuncData} (F : Fun K "_law_spoiled" "_law_spoiled" bG f fd) (T : Txt K mg) {A19 : Addr} {B19 : FuncData} (e_19 : Def K mg "_law_spoiled_row" ba ["_law_text", "_law_number"] A19 B19) (f_19 : FnOk P w K mg base CX0 2 A19 B19 ["_law_text", "_law_number"] (sp3 K mg bX)) : FnOk P w K mg base CX0 3 f fd ["_law_rows_here", "_law_number"] (sp3 K mg aA) := by
 refine fj (N := ["_law_rows_here", "_law_number", "_law_kind", "_law_at", "_law_some"]) (k := 2) (body := bb) rfl rfl rfl F d5 fun cdv A outer s H E hr => ?_
 unfold bb;exact (af (aD (i := 2) d5.nd rfl (Or.inl rfl) (au cu (fun _ => cn) (aa 1) ai))
   (af (aD (i := 3) d5.nd rfl (Or.inl rfl) (au cu (fun _ => cn) (au cu (fun _ => cn) (au cE (fun _ => dE) (aa 1) ai) ai) (bU aH bz rfl T.z_len PySem.boot_len (ae (aa 0) ao))))
   (af (bq (aP (cA hr.units) dP (aa 2) ai (aK _)) (aq (a8 (dR cK dF (aa 0) (bP ai) bN))) aM)
   (af (bq (aP (cA hr.units) dP (aa 2) ai (aK _)) (aq (a8 (au aw aC (au aw aC (dR cK dF (aa 0) bN (bP (au aw aC (aa 3) ai))) (bo (ae (aY aG aX (aa 0) ai (fun _ _ => rfl)) ao))) (dR cK dF (aa 0) (bP (au aw aC (aa 3) ai)) bN)))) aM)
   (af (bq (aP (cA hr.units) dP (aa 2) ai (aK _)) (aq (a8 (au aw aC (aa 0) (pY (sc := (ar bG)) (outs := []) (is := [0]) ["_law_k"] ⟨rfl, rfl, by decide +kernel, by decide +kernel, by decide +kernel, trivial⟩ rfl (by decide) (lU rfl T.z_range ai) (fun _ _ _ _ _ => (bH (i := 0) (show List.Nodup (["_law_k"] : List Str) by decide +kernel) rfl (Or.inl rfl))) (fun _ _ _ _ _ => ph) (fun _ _ _ _ _ => (au aw aC (au mD vo aS (aa 0)) aS)))))) aM)
   (af (bq (aP (cA hr.units) dP (aa 2) ai (aK _)) (aq (a8 (au aw aC (au aw aC (bo (ae aS ao)) (au e6 gz (bo (ae aS ao)) (au aw aC ai (au cu (fun _ => cn) (au cE (fun _ => dE) (aa 1) ai) ai)))) (bo (ae aS (ae aS ao)))))) aM)
   (af (bq (aP (cA hr.units) dP (aa 2) ai (aK _)) (by
    refine af ?_ ?_
    ·refine aD (i := 4) ?_ ?_ ?_ ?_ ?_ ?_
     ·exact d5.nd
     ·rfl
     ·exact Or.inl rfl
     ·refine cz ?_
      refine bo ?_;refine ae ?_ ?_ ?_
      ·refine cz ?_
       refine bo ?_;exact ao
      ·refine ae ?_ ?_ ?_
       ·refine cz ?_
        refine bo ?_;refine ae ?_ ?_ ?_
        ·exact aS
        ·exact ao
        ·rfl
       ·refine ae ?_ ?_ ?_
        ·refine cz ?_
         refine bo ?_;refine ae ?_ ?_ ?_
         ·exact aS
         ·refine ae ?_ ?_ ?_
          ·exact aS
          ·exact ao
          ·rfl
         ·rfl
        ·refine ae ?_ ?_ ?_
         ·refine cz ?_
          refine bo ?_;refine ae ?_ ?_ ?_
          ·exact aS
          ·exact ao
          ·rfl
         ·refine ae ?_ ?_ ?_
          ·refine cz ?_
           refine bo ?_;refine ae ?_ ?_ ?_
           ·exact aS
           ·exact ao
           ·rfl
          ·refine ae ?_ ?_ ?_
           ·refine cz ?_
            refine bo ?_;refine ae ?_ ?_ ?_
            ·exact aS
            ·exact ao
            ·rfl
           ·refine ae ?_ ?_ ?_
            ·refine cz ?_
             refine au aw aC (aa 0) ?_;refine bo ?_;refine ae ?_ ?_ ?_
             ·exact aS
             ·exact ao
             ·rfl
            ·exact ao
            ·rfl
           ·rfl
          ·rfl
         ·rfl
        ·rfl
       ·rfl
      ·rfl
     ·rfl
     ·exact .inl rfl
    ·exact (aq (a8 (aY aG aX (au aw aC (aa 4) (bo (ae (au aw aC (au aw aC (dR cK dF (aa 0) bN (bP (au aw aC (aa 3) ai))) (bo (ae aS ao))) (dR cK dF (aa 0) (bP (au aw aC (aa 3) ai)) bN)) ao))) (au cu (fun _ => cn) (au cE (fun _ => dE) (aa 1) ai) ai) (fun _ _ => rfl))))) aM)
   (af (bq (aP (cA hr.units) dP (aa 2) ai (aK _)) (aq (a8 (au aw aC (au aw aC (dR cK dF (aa 0) bN (bP (aa 3))) (bo (ae (au aw aC (aY aG aX (aa 0) (aa 3) (fun _ _ => rfl)) aS) ao))) (dR cK dF (aa 0) (bP (au aw aC (aa 3) ai)) bN)))) aM)
   (aq (a8 (au aw aC (au aw aC (dR cK dF (aa 0) bN (bP (aa 3))) (bo (ae (cz (az f_19 (hr.mono (by decide)) rfl e_19.g e_19.F.kp e_19.b bh (ae (aY aG aX (aa 0) (aa 3) (fun _ _ => rfl)) (ae (au cE (fun _ => dE) (aa 1) ai) ao)))) ao))) (dR cK dF (aa 0) (bP (au aw aC (aa 3) ai)) bN))))))))))))
theorem my {f : Addr} {fd : FuncData} (F : Fun K "read_hung" "read_hung" bI f fd) (T : Txt K mg) {A20 : Addr} {B20 : FuncData} (e_20 : Def K mg "made_tree" cg ["rows"] A20 B20) (f_20 : FnOk P w K mg base CX0 3 A20 B20 ["rows"] (sp3 K mg dN)) (Gx_made_tree : FnOk P w K mg base (CXC P w) 3 A20 B20 ["rows"] (sp3 K mg dg)) {A15 : Addr} {B15 : FuncData} (e_15 : Def K mg "hung_rows" cM ["tree"] A15 B15) (f_15 : FnOk P w K mg base CX0 2 A15 B15 ["tree"] (sp3 K mg cI)) {A7 : Addr} {B7 : FuncData} (e_7 : Def K mg "likely_rows" bD ["rows"] A7 B7) (f_7 : FnOk P w K mg base CX0 1 A7 B7 ["rows"] (sp3 K mg cX)) (Gx_likely_rows : FnOk P w K mg base (CXC P w) 1 A7 B7 ["rows"] (sp3 K mg cy)) : FnOk P w K mg base CX0 4 f fd ["rows"] (sp3 K mg bF) := by
 refine fj (N := ["rows", "tree"]) (k := 3) (body := fK) rfl rfl rfl F fM fun cdv A outer s H E hr => ?_
 unfold fK;exact (af (vh (fun _ => (aq (aD (i := 1) fM.nd rfl (Or.inl rfl) (az f_20 (hr.mono (by decide)) rfl e_20.g e_20.F.kp e_20.b bh (ae (az f_7 (hr.mono (by decide)) rfl e_7.g e_7.F.kp e_7.b bh (ae (aa 0) ao)) ao))))))
   (af (bq (rY (aP (fU hr.units) ij (az f_15 (hr.mono (by decide)) rfl e_15.g e_15.F.kp e_15.b bh (ae (aa 1) ao)) (aa 0) (aK _))) (aq fk) aM)
   (aq (fF 1))))
theorem m_ {f : Addr} {fd : FuncData} (F : Fun K "read_hung" "read_hung" bI f fd) (T : Txt K mg) {A20 : Addr} {B20 : FuncData} (e_20 : Def K mg "made_tree" cg ["rows"] A20 B20) (f_20 : FnOk P w K mg base CX0 3 A20 B20 ["rows"] (sp3 K mg dN)) (Gx_made_tree : FnOk P w K mg base (CXC P w) 3 A20 B20 ["rows"] (sp3 K mg dg)) {A15 : Addr} {B15 : FuncData} (e_15 : Def K mg "hung_rows" cM ["tree"] A15 B15) (f_15 : FnOk P w K mg base CX0 2 A15 B15 ["tree"] (sp3 K mg cI)) {A7 : Addr} {B7 : FuncData} (e_7 : Def K mg "likely_rows" bD ["rows"] A7 B7) (f_7 : FnOk P w K mg base CX0 1 A7 B7 ["rows"] (sp3 K mg cX)) (Gx_likely_rows : FnOk P w K mg base (CXC P w) 1 A7 B7 ["rows"] (sp3 K mg cy)) : FnOk P w K mg base (CXE P w) 4 f fd ["rows"] (sp3 K mg b9) := by
 refine Ff (N := ["rows", "tree"]) (k := 3) (body := fG) rfl rfl rfl F fM fun cdv A outer s H E hr => ?_
 obtain ⟨c_DrawError, c_NoDeed, c_NoNode, c_NoPicture, c_NoPlace, c_NoText, c_NoTree, c_TooMany, m_DrawError, m_NoDeed, m_NoNode, m_NoPicture, m_NoPlace, m_NoText, m_NoTree, m_TooMany, x_NoPicture, x_NoTree, h_DrawError, h_NoPicture, h_NoTree, u_NoPicture_DrawError, u_NoPicture_NoPicture, u_NoTree_DrawError, u_NoTree_NoTree, w_NoPicture_NoTree, k_NoPicture_NoPicture, k_NoTree_NoPicture, v_NoPicture_ValueError, v_NoTree_ValueError, t_NoPicture_NoNode_NoText_NoTree, t_NoPicture_TooMany_NoDeed_NoPlace, t_NoTree_NoNode_NoText_NoTree, t_NoTree_TooMany_NoDeed_NoPlace⟩ := T.xs;unfold fG;exact (af (wL Lv.of (fun xe E2 hP => (aq (aD (i := 1) fM.nd rfl (Or.inl rfl) (az Gx_made_tree (hr.mono (by decide)) rfl e_20.g e_20.F.kp e_20.b hP (ae (az Gx_likely_rows (hr.mono (by decide)) rfl e_7.g e_7.F.kp e_7.b hP (ae (aa 0) ao)) ao))))) h_NoTree rfl m_NoTree rfl m_NoPicture h_NoPicture (dn1 m_NoTree u_NoTree_NoTree) (dn1 m_NoPicture w_NoPicture_NoTree))
   (af (bq (rY (aP (fU hr.units) ij (az f_15 (hr.mono (by decide)) rfl e_15.g e_15.F.kp e_15.b bh (ae (aa 1) ao)) (aa 0) (aK _))) (aq (r_ Lv.of rfl rfl m_NoPicture x_NoPicture.ex)) aM)
   (aq (fF 1))))
theorem jV {f : Addr} {fd : FuncData} (F : Fun K "_law_refused" "_law_refused" bS f fd) (T : Txt K mg) {A22 : Addr} {B22 : FuncData} (e_22 : Def K mg "read_hung" bI ["rows"] A22 B22) (f_22 : FnOk P w K mg base CX0 4 A22 B22 ["rows"] (sp3 K mg bF)) (Gx_read_hung : FnOk P w K mg base (CXE P w) 4 A22 B22 ["rows"] (sp3 K mg b9)) : FnOk P w K mg base CX0 5 f fd ["_law_rows_here"] (sp3 K mg cD) := by
 refine fj (N := ["_law_rows_here", "_law_ours", "_law_handed", "e"]) (k := 4) (body := dZ) rfl rfl rfl F a7 fun cdv A outer s H E hr => ?_
 obtain ⟨c_DrawError, c_NoDeed, c_NoNode, c_NoPicture, c_NoPlace, c_NoText, c_NoTree, c_TooMany, m_DrawError, m_NoDeed, m_NoNode, m_NoPicture, m_NoPlace, m_NoText, m_NoTree, m_TooMany, x_NoPicture, x_NoTree, h_DrawError, h_NoPicture, h_NoTree, u_NoPicture_DrawError, u_NoPicture_NoPicture, u_NoTree_DrawError, u_NoTree_NoTree, w_NoPicture_NoTree, k_NoPicture_NoPicture, k_NoTree_NoPicture, v_NoPicture_ValueError, v_NoTree_ValueError, t_NoPicture_NoNode_NoText_NoTree, t_NoPicture_TooMany_NoDeed_NoPlace, t_NoTree_NoNode_NoText_NoTree, t_NoTree_TooMany_NoDeed_NoPlace⟩ := T.xs;unfold dZ;exact (af (aD (i := 1) a7.nd rfl (Or.inl rfl) iG)
   (af (aD (i := 2) a7.nd rfl (Or.inl rfl) (cz (lZ (iA _ rfl) mM rfl T.z_list iT (ae (aa 0) ao))))
   (af (sG (tbl := [("NoPicture", true), ("NoTree", false)]) Gx_read_hung (hr.mono (by decide)) rfl e_22.g e_22.F.kp e_22.b (fun _ => (ae (aa 2) ao)) rfl rfl h_DrawError rfl m_DrawError (jK (i := 1) rfl) (mY ⟨c_NoPicture, m_NoPicture, u_NoPicture_DrawError, fun pins σ H' ea Q E hca hfr hlen hq => qa (i := 3) (b := true) hca hfr a7.nd rfl rfl (by decide) (jK (i := 1) rfl) hlen (fun oe hoc => by exact (j5 (iS (c := true) a7.nd rfl (Or.inl rfl) (jl (pF ⟨x_NoPicture, List.mem_cons_self, hoc⟩ (fun _ h => h.1) rfl (Or.inl rfl) rfl T.z_isinstance rfl m_NoPicture k_NoPicture_NoPicture) (qv ⟨x_NoPicture, List.mem_cons_self, hoc⟩ (fun _ h => h.1) rfl (Or.inl rfl) rfl T.z_isinstance rfl T.z_ValueError iH v_NoPicture_ValueError))) (j5 (iS (c := true) a7.nd rfl (Or.inl rfl) (jl (mS (fun _ h => h.2) rfl (Or.inl rfl)) (mT (ka (Ds := [c_NoNode, c_NoText, c_NoTree]) ⟨x_NoPicture, List.mem_cons_self, hoc⟩ (fun _ h => h.1.1) rfl (Or.inl rfl) rfl T.z_isinstance (g5 rfl m_NoNode (g5 rfl m_NoText (g5 rfl m_NoTree pZ))) (show 3 ≤ 9 by decide) t_NoPicture_NoNode_NoText_NoTree)))) (oX (iS (c := true) a7.nd rfl (Or.inl rfl) (jl (mS (fun _ h => h.2) rfl (Or.inl rfl)) (mT (ka (Ds := [c_TooMany, c_NoDeed, c_NoPlace]) ⟨x_NoPicture, List.mem_cons_self, hoc⟩ (fun _ h => h.1.1) rfl (Or.inl rfl) rfl T.z_isinstance (g5 rfl m_TooMany (g5 rfl m_NoDeed (g5 rfl m_NoPlace pZ))) (show 3 ≤ 9 by decide) t_NoPicture_TooMany_NoDeed_NoPlace))))) (fun σ h => xA σ h)) (fun σ h => sM σ h))) (fun H2 s2 sm J => hq _ H2 s2 sm J (fun _ _ _ _ _ hok o => pN o hok))⟩ (mY ⟨c_NoTree, m_NoTree, u_NoTree_DrawError, fun pins σ H' ea Q E hca hfr hlen hq => qa (i := 3) (b := false) hca hfr a7.nd rfl rfl (by decide) (jK (i := 1) rfl) hlen (fun oe hoc => by exact (j5 (iS (c := false) a7.nd rfl (Or.inl rfl) (jl (pF ⟨x_NoTree, List.mem_cons_self, hoc⟩ (fun _ h => h.1) rfl (Or.inl rfl) rfl T.z_isinstance rfl m_NoPicture k_NoTree_NoPicture) (qv ⟨x_NoTree, List.mem_cons_self, hoc⟩ (fun _ h => h.1) rfl (Or.inl rfl) rfl T.z_isinstance rfl T.z_ValueError iH v_NoTree_ValueError))) (j5 (iS (c := false) a7.nd rfl (Or.inl rfl) (jl (mS (fun _ h => h.2) rfl (Or.inl rfl)) (mT (ka (Ds := [c_NoNode, c_NoText, c_NoTree]) ⟨x_NoTree, List.mem_cons_self, hoc⟩ (fun _ h => h.1.1) rfl (Or.inl rfl) rfl T.z_isinstance (g5 rfl m_NoNode (g5 rfl m_NoText (g5 rfl m_NoTree pZ))) (show 3 ≤ 9 by decide) t_NoTree_NoNode_NoText_NoTree)))) (oX (iS (c := false) a7.nd rfl (Or.inl rfl) (jl (mS (fun _ h => h.2) rfl (Or.inl rfl)) (mT (ka (Ds := [c_TooMany, c_NoDeed, c_NoPlace]) ⟨x_NoTree, List.mem_cons_self, hoc⟩ (fun _ h => h.1.1) rfl (Or.inl rfl) rfl T.z_isinstance (g5 rfl m_TooMany (g5 rfl m_NoDeed (g5 rfl m_NoPlace pZ))) (show 3 ≤ 9 by decide) t_NoTree_TooMany_NoDeed_NoPlace))))) (fun σ h => xA σ h)) (fun σ h => sM σ h))) (fun H2 s2 sm J => hq _ H2 s2 sm J (fun _ _ _ _ _ hok o => pN o hok))⟩ tJ)) (fun _ _ => uv (by decide)))
   (aq (a8 (nk (aa 1) (mn (nj (cA hr.units) dP (aa 2) (aa 0) (aK _)))))))))
theorem j1 {f : Addr} {fd : FuncData} (F : Fun K "_law_by_name" "_law_by_name" bQ f fd) (T : Txt K mg) {A22 : Addr} {B22 : FuncData} (e_22 : Def K mg "read_hung" bI ["rows"] A22 B22) (f_22 : FnOk P w K mg base CX0 4 A22 B22 ["rows"] (sp3 K mg bF)) (Gx_read_hung : FnOk P w K mg base (CXE P w) 4 A22 B22 ["rows"] (sp3 K mg b9)) : FnOk P w K mg base CX0 5 f fd ["_law_rows_here"] (sp3 K mg dm) := by
 refine fj (N := ["_law_rows_here", "_law_refused_here"]) (k := 4) (body := dX) rfl rfl rfl F fv fun cdv A outer s H E hr => ?_
 obtain ⟨c_DrawError, c_NoDeed, c_NoNode, c_NoPicture, c_NoPlace, c_NoText, c_NoTree, c_TooMany, m_DrawError, m_NoDeed, m_NoNode, m_NoPicture, m_NoPlace, m_NoText, m_NoTree, m_TooMany, x_NoPicture, x_NoTree, h_DrawError, h_NoPicture, h_NoTree, u_NoPicture_DrawError, u_NoPicture_NoPicture, u_NoTree_DrawError, u_NoTree_NoTree, w_NoPicture_NoTree, k_NoPicture_NoPicture, k_NoTree_NoPicture, v_NoPicture_ValueError, v_NoTree_ValueError, t_NoPicture_NoNode_NoText_NoTree, t_NoPicture_TooMany_NoDeed_NoPlace, t_NoTree_NoNode_NoText_NoTree, t_NoTree_TooMany_NoDeed_NoPlace⟩ := T.xs;unfold dX;exact (af (aD (i := 1) fv.nd rfl (Or.inl rfl) iG)
   (af (sG (tbl := [("NoPicture", true)]) Gx_read_hung (hr.mono (by decide)) rfl e_22.g e_22.F.kp e_22.b (fun _ => (ae (aa 0) ao)) rfl rfl h_NoPicture rfl m_NoPicture (jK (i := 1) rfl) (mY ⟨c_NoPicture, m_NoPicture, u_NoPicture_NoPicture, fun pins σ H' ea Q E hca hfr hlen hq => vF (b := true) hca hfr (fun oe hoc => by exact (oX (iS (c := true) fv.nd rfl (Or.inl rfl) vm))) (fun H2 s2 sm J => hq _ H2 s2 sm J (fun _ _ _ _ _ _ o => o))⟩ tJ) (fun _ _ => rfl))
   (aq (a8 (aa 1)))))
theorem lu {f : Addr} {fd : FuncData} (F : Fun K "_law_edges" "_law_edges" b8 f fd) (T : Txt K mg) {A22 : Addr} {B22 : FuncData} (e_22 : Def K mg "read_hung" bI ["rows"] A22 B22) (f_22 : FnOk P w K mg base CX0 4 A22 B22 ["rows"] (sp3 K mg bF)) (Gx_read_hung : FnOk P w K mg base (CXE P w) 4 A22 B22 ["rows"] (sp3 K mg b9)) {A17 : Addr} {B17 : FuncData} (e_17 : Def K mg "_law_rows" cG ["_law_found", "_law_due"] A17 B17) (f_17 : FnOk P w K mg base CX0 2 A17 B17 ["_law_found", "_law_due"] (sp3 K mg bZ)) {A18 : Addr} {B18 : FuncData} (e_18 : Def K mg "_law_hung" cO ["_law_tree_here"] A18 B18) (f_18 : FnOk P w K mg base CX0 2 A18 B18 ["_law_tree_here"] (sp3 K mg bY)) : FnOk P w K mg base CX0 5 f fd [] (sp3 K mg dW) := by
 refine fj (N := ["_law_line", "_law_star"]) (k := 4) (body := e7) rfl rfl rfl F gy fun cdv A outer s H E hr => ?_
 unfold e7;exact (af (wU (i := 0) (sc := (ar b8)) (outs := []) (is := [0]) ["_law_k"] (fun _ _ _ q => BC q) gy.nd rfl (Or.inl rfl) ⟨rfl, rfl, by decide +kernel, by decide +kernel, by decide +kernel, trivial⟩ rfl (by decide) (lU rfl T.z_range ai) (fun _ _ _ _ _ => (bH (i := 0) (show List.Nodup (["_law_k"] : List Str) by decide +kernel) rfl (Or.inl rfl))) (fun _ _ _ _ _ => ph) (fun _ _ _ _ _ => (iM (ae (au fV (fun _ => gb) (aa 0) ai) (ae aS (ae ai ao))))))
   (af (aD (i := 1) gy.nd rfl (Or.inl rfl) (cz (au aw aC (bo (ae (iM (ae (fX d7 (fun _ => d9) ai) (ae aS (ae ai ao)))) ao)) (au e6 gz (bo (ae (iM (ae ai (ae aS (ae ai ao)))) ao)) ai))))
   (aq (a8 (nk (az f_17 (hr.mono (by decide)) rfl e_17.g e_17.F.kp e_17.b bh (ae (az f_22 (hr.mono (by decide)) rfl e_22.g e_22.F.kp e_22.b bh (ae (az f_18 (hr.mono (by decide)) rfl e_18.g e_18.F.kp e_18.b bh (ae (aa 0) ao)) ao)) (ae (aa 0) ao))) (mn (az f_17 (hr.mono (by decide)) rfl e_17.g e_17.F.kp e_17.b bh (ae (az f_22 (hr.mono (by decide)) rfl e_22.g e_22.F.kp e_22.b bh (ae (az f_18 (hr.mono (by decide)) rfl e_18.g e_18.F.kp e_18.b bh (ae (aa 1) ao)) ao)) (ae (aa 1) ao)))))))))
theorem zt {f : Addr} {fd : FuncData} (F : Fun K "law" "law" iV f fd) (T : Txt K mg) {A22 : Addr} {B22 : FuncData} (e_22 : Def K mg "read_hung" bI ["rows"] A22 B22) (f_22 : FnOk P w K mg base CX0 4 A22 B22 ["rows"] (sp3 K mg bF)) (Gx_read_hung : FnOk P w K mg base (CXE P w) 4 A22 B22 ["rows"] (sp3 K mg b9)) {A8 : Addr} {B8 : FuncData} (e_8 : Def K mg "_law_cell" cN ["_law_script", "_law_k"] A8 B8) (f_8 : FnOk P w K mg base CX0 1 A8 B8 ["_law_script", "_law_k"] (sp3 K mg cL)) {A16 : Addr} {B16 : FuncData} (e_16 : Def K mg "_law_tree" dc ["_law_script", "_law_start", "_law_many", "_law_most", "_law_deep"] A16 B16) (f_16 : FnOk P w K mg base CX0 2 A16 B16 ["_law_script", "_law_start", "_law_many", "_law_most", "_law_deep"] (sp3 K mg eF)) {A17 : Addr} {B17 : FuncData} (e_17 : Def K mg "_law_rows" cG ["_law_found", "_law_due"] A17 B17) (f_17 : FnOk P w K mg base CX0 2 A17 B17 ["_law_found", "_law_due"] (sp3 K mg bZ)) {A18 : Addr} {B18 : FuncData} (e_18 : Def K mg "_law_hung" cO ["_law_tree_here"] A18 B18) (f_18 : FnOk P w K mg base CX0 2 A18 B18 ["_law_tree_here"] (sp3 K mg bY)) {A23 : Addr} {B23 : FuncData} (e_23 : Def K mg "_law_refused" bS ["_law_rows_here"] A23 B23) (f_23 : FnOk P w K mg base CX0 5 A23 B23 ["_law_rows_here"] (sp3 K mg cD)) {A24 : Addr} {B24 : FuncData} (e_24 : Def K mg "_law_by_name" bQ ["_law_rows_here"] A24 B24) (f_24 : FnOk P w K mg base CX0 5 A24 B24 ["_law_rows_here"] (sp3 K mg dm)) {A21 : Addr} {B21 : FuncData} (e_21 : Def K mg "_law_spoiled" bG ["_law_rows_here", "_law_number"] A21 B21) (f_21 : FnOk P w K mg base CX0 3 A21 B21 ["_law_rows_here", "_law_number"] (sp3 K mg aA)) {A25 : Addr} {B25 : FuncData} (e_25 : Def K mg "_law_edges" b8 [] A25 B25) (f_25 : FnOk P w K mg base CX0 5 A25 B25 [] (sp3 K mg dW)) : FnOk P w K mg base CX0 6 f fd ["_law_script"] (sp3 K mg kY) := by
 refine fj (N := ["_law_script", "_law_tree_here", "_law_rows_here", "_law_wrong"]) (k := 5) (body := mJ) rfl rfl rfl F mI fun cdv A outer s H E hr => ?_
 unfold mJ;exact (af (aD (i := 1) mI.nd rfl (Or.inl rfl) (cz (az f_16 (hr.mono (by decide)) rfl e_16.g e_16.F.kp e_16.b bh (ae (aa 0) (ae ai (ae (au aw aC ai (au cu (fun _ => cn) (az f_8 (hr.mono (by decide)) rfl e_8.g e_8.F.kp e_8.b bh (ae (aa 0) (ae ai ao))) ai)) (ae ai (ae ai ao))))))))
   (af (aD (i := 2) mI.nd rfl (Or.inl rfl) (cz (az f_18 (hr.mono (by decide)) rfl e_18.g e_18.F.kp e_18.b bh (ae (aa 1) ao))))
   (af (aD (i := 3) mI.nd rfl (Or.inl rfl) (cz (az f_21 (hr.mono (by decide)) rfl e_21.g e_21.F.kp e_21.b bh (ae (aa 2) (ae (au cu (fun _ => cn) (au e6 gz (az f_8 (hr.mono (by decide)) rfl e_8.g e_8.F.kp e_8.b bh (ae (aa 0) (ae ai ao))) ai) ai) ao)))))
   (af (bq (jR (g6 (eP (d8 (az f_23 (hr.mono (by decide)) rfl e_23.g e_23.F.kp e_23.b bh (ae (aa 3) ao)))) (gA (eP (d8 (az f_24 (hr.mono (by decide)) rfl e_24.g e_24.F.kp e_24.b bh (ae (aa 3) ao))))))) (aq (a8 iG)) aM)
   (af (bq (jR (g6 (eP (d8 (az f_17 (hr.mono (by decide)) rfl e_17.g e_17.F.kp e_17.b bh (ae (az f_22 (hr.mono (by decide)) rfl e_22.g e_22.F.kp e_22.b bh (ae (lZ (iA _ rfl) mM rfl T.z_list iT (ae (aa 2) ao)) ao)) (ae (aa 1) ao))))) (gA (eP (d8 (sS f_25 (hr.mono (by decide)) rfl e_25.g e_25.F.kp e_25.b bh)))))) (aq (a8 iG)) aM)
   (af (bq (aP (cA hr.units) dP (az f_18 (hr.mono (by decide)) rfl e_18.g e_18.F.kp e_18.b bh (ae (dR cK dF (aa 1) bN (bP (fX d7 (fun _ => d9) ai))) ao)) (dR cK dF (aa 2) bN (bP (fX d7 (fun _ => d9) ai))) (aK _)) (aq (a8 (az f_17 (hr.mono (by decide)) rfl e_17.g e_17.F.kp e_17.b bh (ae (az f_22 (hr.mono (by decide)) rfl e_22.g e_22.F.kp e_22.b bh (ae (dR cK dF (aa 2) bN (bP (fX d7 (fun _ => d9) ai))) ao)) (ae (dR cK dF (aa 1) bN (bP (fX d7 (fun _ => d9) ai))) ao))))) aM)
   (aq (a8 (az f_23 (hr.mono (by decide)) rfl e_23.g e_23.F.kp e_23.b bh (ae (dR cK dF (aa 2) bN (bP (fX d7 (fun _ => d9) ai))) ao))))))))))
end
theorem ez {p : Key × PyData} {r : List (Key × PyData)} {j : Key} (h : p.1 = j) : gh (p :: r) j = some p.2 := by
 unfold gh;rw [List.find?_cons, decide_eq_true h];rfl
theorem ef {p : Key × PyData} {r : List (Key × PyData)} {j : Key} (h : ¬ p.1 = j) : gh (p :: r) j = gh r j := by
 unfold gh;rw [List.find?_cons, decide_eq_false h]
theorem oA (k j : Key) (y : PyData) : ∀ kvs : List (Key × PyData), gh (kvs.map fun kv => if kv.1 = k then (kv.1, y) else kv) j = (gh kvs j).map fun x => if j = k then y else x
 | [] => rfl
 | p :: r => by
  have ih := oA k j y r;rw [List.map_cons];by_cases e : p.1 = j
  ·by_cases h : p.1 = k
   ·rw [if_pos h, ez (p := (p.1, y)) e, ez e, Option.map_some, if_pos (e.symm.trans h)]
   ·rw [if_neg h, ez e, ez e, Option.map_some, if_neg (fun z => h (e.trans z))]
  ·by_cases h : p.1 = k
   ·rw [if_pos h, ef (p := (p.1, y)) e, ef e, ih]
   ·rw [if_neg h, ef e, ef e, ih]
theorem kG (k : Key) : ∀ kvs : List (Key × PyData), (kvs.any fun kv => decide (kv.1 = k)) = (gh kvs k).isSome
 | [] => rfl
 | p :: r => by
  rw [List.any_cons];by_cases e : p.1 = k
  ·rw [decide_eq_true e, ez e]
   rfl
  ·rw [decide_eq_false e, ef e, Bool.false_or, kG k r]
theorem l6 (k j : Key) (y : PyData) : ∀ kvs : List (Key × PyData), gh kvs k = none → gh (kvs ++ [(k, y)]) j = if j = k then some y else gh kvs j
 | [], _ => by
  by_cases e : k = j
  ·rw [if_pos e.symm]; exact ez (p := (k, y)) e
  ·rw [if_neg (fun z => e z.symm)]; exact ef (p := (k, y)) e
 | p :: r, hn => by
  rw [List.cons_append];have hk : ¬ p.1 = k := fun z => by rw [ez z] at hn; cases hn
  rw [ef hk] at hn;have ih := l6 k j y r hn;by_cases e : p.1 = j
  ·rw [ez e, ez e, if_neg (fun z => hk (e.trans z))]
  ·rw [ef e, ef e, ih]
theorem nO (kvs : List (Key × PyData)) (k j : Key) (y : PyData) : gh (putD kvs k y) j = if j = k then some y else gh kvs j := by
 unfold putD;by_cases a : (kvs.any fun kv => decide (kv.1 = k)) = true
 ·rw [if_pos a, oA]
  rw [kG] at a;by_cases e : j = k
  ·obtain ⟨x, hx⟩ := Option.isSome_iff_exists.mp a
   rw [if_pos e, e, hx, Option.map_some, if_pos rfl]
  ·rw [if_neg e]
   cases gh kvs j with
   | none => rfl
   | some x => rw [Option.map_some, if_neg e]
 ·rw [if_neg a]
  refine l6 k j y kvs ?_;rw [kG] at a;cases q : gh kvs k with
  | none => rfl
  | some x => rw [q] at a; exact (a rfl).elim
theorem length_putD (kvs : List (Key × PyData)) (k : Key) (v : PyData) : (putD kvs k v).length ≤ kvs.length + 1 := by
 unfold putD;split
 ·rw [List.length_map]; lia
 ·rw [List.length_append, List.length_cons, List.length_nil]; lia
noncomputable def N3 (ts : List Nd) (k : Nat) : Nd := (ts[k]?).getD ⟨-1, Str.empty, 1⟩
theorem bK {ts : List Nd} {k : Nat} (h : k < ts.length) : ts[k]? = some (N3 ts k) := by
 unfold N3;rw [List.getElem?_eq_getElem h];rfl
noncomputable def E3 (ts : List Nd) : Prop := ∀ k, k < ts.length → (k = 0 → (N3 ts k).e = -1) ∧ (0 < k → 0 ≤ (N3 ts k).e) ∧ (N3 ts k).e < k
noncomputable def O3 (ts : List Nd) : Prop := ∀ k, k < ts.length → (N3 ts k).l.length ≤ 9 ∧ 1 ≤ (N3 ts k).t ∧ (N3 ts k).t ≤ 9
noncomputable def ck (ts : List Nd) (k : Nat) : Bool := (List.range ts.length).all fun j => decide (j ≤ k) || !decide ((N3 ts j).e = (N3 ts k).e)
theorem iQ {ts : List Nd} {k : Nat} : ck ts k = true ↔ ∀ j, k < j → j < ts.length → (N3 ts j).e ≠ (N3 ts k).e := by
 unfold ck;rw [List.all_eq_true];constructor
 ·intro h j h1 h2 e
  have := h j (List.mem_range.mpr h2);rw [decide_eq_false (by lia), Bool.false_or, decide_eq_true e] at this
  cases this
 ·intro h j hj
  rw [List.mem_range] at hj;by_cases q : j ≤ k
  ·rw [decide_eq_true q, Bool.true_or]
  ·rw [decide_eq_false (h j (by lia) hj)]
   simp
theorem il {ts : List Nd} {k : Nat} (h : ∃ j, k < j ∧ j < ts.length ∧ (N3 ts j).e = (N3 ts k).e) : ck ts k = false := by
 rw [← Bool.not_eq_true, iQ];obtain ⟨j, h1, h2, h3⟩ := h;exact fun z => z j h1 h2 h3
structure LastD (ts : List Nd) (i : Nat) (kvs : List (Key × PyData)) : Prop where
 len : kvs.length ≤ i
 at_ : ∀ j, j < i → ∃ m : Nat, gh kvs (.inl (N3 ts j).e) = some (.int (m : Int)) ∧ j ≤ m ∧ m < i ∧ (N3 ts m).e = (N3 ts j).e ∧ ∀ x, m < x → x < i → (N3 ts x).e ≠ (N3 ts j).e
theorem LastD.step {ts : List Nd} {i : Nat} {kvs : List (Key × PyData)} (h : LastD ts i kvs) : LastD ts (i + 1) (putD kvs (.inl (N3 ts i).e) (.int (i : Int))) := by
 refine ⟨Nat.le_trans (length_putD _ _ _) (by have := h.len; lia), fun j hj => ?_⟩
 by_cases e : (N3 ts j).e = (N3 ts i).e
 ·refine ⟨i, ?_, by lia, by lia, e.symm, fun x h1 h2 => by lia⟩
  rw [nO, if_pos (by rw [e])]
 ·have hji : j < i := by
   rcases Nat.lt_or_ge j i with z | z
   ·exact z
   ·have : j = i := by lia
    subst this;exact absurd rfl e
  obtain ⟨m, m1, m2, m3, m4, m5⟩ := h.at_ j hji;refine ⟨m, ?_, m2, by lia, m4, fun x h1 h2 => ?_⟩
  ·rw [nO, if_neg (fun z => e (Sum.inl.inj z)), m1]
  ·by_cases hx : x = i
   ·subst hx
    exact fun z => e z.symm
   ·exact m5 x h1 (by lia)
theorem pv (ts : List Nd) : ∀ i d, (gk (aB ts))[i]? = some d → i < ts.length ∧ d = .tuple [.int (i : Int), ndD (N3 ts i)] := by
 intro i d h;obtain ⟨e, he, rfl⟩ := fR h;unfold aB at he;rw [List.getElem?_map] at he;obtain ⟨n, hn, rfl⟩ := Option.map_eq_some_iff.mp he;have hi := (List.getElem?_eq_some_iff.mp hn).1;refine ⟨hi, ?_⟩;rw [bK hi] at hn;cases hn;rfl
theorem jw (ts : List Nd) (hl : ts.length ≤ 100) : ∃ kvs, LastD ts ts.length kvs ∧ cU [.list (aB ts)] = .ok (.od kvs) := by
 unfold cU dM;push_cast only [ES];generalize hL : bA _ _ _ _ = r'
 refine gx hL (fun i ρ => ∃ (kvs : List (Key × PyData)) (v2 v3 : Option OD), LastD ts i kvs ∧ ρ = [some (.sh (.list (aB ts))), some (.od kvs), v2, v3]) ⟨_, _, _, ⟨Nat.le_refl _, fun j hj => by lia⟩, rfl⟩ ?_ ?_
 ·rintro i d ρ hd ⟨kvs, v2, v3, hk, rfl⟩
  obtain ⟨hi, rfl⟩ := pv ts i d hd;have lb : (kvs.length < BIG) = True := hR (by have := hk.len; lia)
  push_cast only [ndD, zy, Au, lb];exact ⟨_, _, _, hk.step, rfl⟩
 ·rintro ρ' rfl ⟨kvs, v2, v3, hk, rfl⟩
  have el : (gk (aB ts)).length = ts.length := by rw [ju, bj]
  rw [el] at hk;push_cast only [and_self];exact ⟨kvs, hk, rfl⟩
noncomputable def cln : Str := Str.ofString ":"
theorem kI : cln = ⟨#[58]⟩ := by decide +kernel
theorem gY (n : Int) : (Txt.mul cln n).cps.toList = List.replicate n.toNat 58 := by
 rw [kI];exact PyProof.Rows.mul_one_list 58 n
theorem kf (n : Int) : (Txt.mul cln n).length = n.toNat := by
 rw [aT, gY, List.length_replicate]
theorem gR {a b : Str} (h : a.cps.toList = b.cps.toList) : a = b := Str.ext' (Array.toList_inj.mp h)
theorem t_ (i : Nat) : Txt.mul cln (i : Int) ++ cln = Txt.mul cln ((i + 1 : Nat) : Int) := by
 apply gR
 rw [aL, gY, gY, Int.toNat_natCast, Int.toNat_natCast, List.replicate_succ'];rw [kI]
noncomputable def cQ (n : Nd) : Str := n.l ++ Txt.mul cln (n.t - 1)
theorem j3 {ts : List Nd} (ok : O3 ts) {k : Nat} (h : k < ts.length) : (cQ (N3 ts k)).length ≤ 17 := by
 unfold cQ;rw [Str.length_append, kf];have := ok k h
 lia
theorem ia {ts : List Nd} (ok : O3 ts) {k : Nat} (h : k < ts.length) : cY [.tuple [.int (N3 ts k).e, .str (N3 ts k).l, .int (N3 ts k).t]] = .ok (.sh (.str (cQ (N3 ts k)))) := by
 unfold cY eh;have o := ok k h;have m := o6 (x := cln) (n := (N3 ts k).t - 1) (by rw [kI]; rfl) (by lia) (by lia)
 have lb : ((N3 ts k).l.length + (Txt.mul cln ((N3 ts k).t - 1)).length ≤ BIG) = True := aE (by rw [kf]; lia)
 have m' : jO (.str (Str.ofString ":")) (.int ((N3 ts k).t - 1)) = .ok (.sh (.str (Txt.mul cln ((N3 ts k).t - 1)))) := m;push_cast only [m', lb];rfl
noncomputable def sg (b : Bool) : Str := if b then Str.ofString "  " else Str.ofString "| "
noncomputable def sr (b : Bool) : Str := if b then Str.ofString "'-" else Str.ofString "+-"
noncomputable def ahL (ts : List Nd) : Nat → List Str
 | 0 => []
 | i + 1 => ahL ts i ++ [if i = 0 then Str.empty else ((ahL ts i)[(N3 ts i).e.toNat]?).getD Str.empty ++ sg (ck ts i)]
theorem eD (ts : List Nd) : ∀ i, (ahL ts i).length = i
 | 0 => rfl
 | i + 1 => by rw [ahL, List.length_append, eD ts i]; rfl
noncomputable def ah (ts : List Nd) (k : Nat) : Str := ((ahL ts (k + 1))[k]?).getD Str.empty
theorem ip (ts : List Nd) : ∀ (m k : Nat), k < m → (ahL ts m)[k]? = some (ah ts k)
 | 0, k, h => by lia
 | m + 1, k, h => by
  by_cases e : k = m
  ·subst e
   unfold ah;rw [List.getElem?_eq_getElem (by rw [eD]; lia)]
   rfl
  ·rw [ahL, List.getElem?_append_left (by rw [eD]; lia)]
   exact ip ts m k (by lia)
theorem mH (ts : List Nd) : ah ts 0 = Str.empty := rfl
theorem eY {ts : List Nd} {k j : Nat} (h : (N3 ts k).e = (j : Int)) (hj : j < k) : ah ts k = ah ts j ++ sg (ck ts k) := by
 have e : ah ts k = (if k = 0 then Str.empty else ((ahL ts k)[(N3 ts k).e.toNat]?).getD Str.empty ++ sg (ck ts k)) := by
  have := ip ts (k + 1) k (by lia)
  rw [ahL, List.getElem?_append_right (by rw [eD]; lia), eD, Nat.sub_self] at this
  exact (Option.some.inj this).symm
 rw [e, if_neg (by lia), h, Int.toNat_natCast, ip ts k j hj]
 rfl
theorem kH (b : Bool) : (sg b).length = 2 := by cases b <;> rfl
theorem jx (b : Bool) : (sr b).length = 2 := by cases b <;> rfl
theorem o_ {ts : List Nd} (he : E3 ts) : ∀ (m k : Nat), k < m → k < ts.length → (ah ts k).length ≤ 2 * k
 | 0, k, h, _ => by lia
 | m + 1, k, h, hk => by
  by_cases e : k = 0
  ·subst e
   rw [mH];exact Nat.le_refl _
  ·have el := he k hk
   obtain ⟨j, hj⟩ : ∃ j : Nat, (N3 ts k).e = (j : Int) := ⟨(N3 ts k).e.toNat, by have := el.2.1 (by lia); lia⟩
   have jk : j < k := by have := el.2.2; lia
   rw [eY hj jk, Str.length_append, kH];have := o_ he m j (by lia) (by lia)
   lia
noncomputable def br (ts : List Nd) (k : Nat) : Str := if k = 0 then cQ (N3 ts 0) else ah ts (N3 ts k).e.toNat ++ sr (ck ts k) ++ cQ (N3 ts k)
noncomputable def fE (L : List Str) : List OD := L.map fun x => OD.sh (.str x)
noncomputable def aO (L : List Str) : List PyData := L.map PyData.str
theorem gT (L : List Str) : (fE L).map OD.er = aO L := by
 unfold fE aO;rw [List.map_map];exact List.map_congr_left fun x _ => g8 _
theorem kQ (L : List Str) : (fE L).length = L.length := by unfold fE; rw [List.length_map]
theorem aU (L : List Str) : (aO L).length = L.length := by unfold aO; rw [List.length_map]
theorem jr (L : List Str) (x : Str) : fE L ++ [OD.sh (.str x)] = fE (L ++ [x]) := by unfold fE; rw [List.map_append]; rfl
theorem jh {L : List Str} {k : Nat} {x : Str} (h : L[k]? = some x) : atI (aO L) (k : Int) = some (.str x) := e_ (by unfold aO; rw [List.getElem?_map, h]; rfl)
noncomputable def av (ts : List Nd) (i : Nat) : List Str := (List.range i).map (br ts)
theorem iK (ts : List Nd) (i : Nat) : av ts (i + 1) = av ts i ++ [br ts i] := by unfold av; rw [List.range_succ, List.map_append]; rfl
theorem bp (ts : List Nd) (i : Nat) : (av ts i).length = i := by unfold av; rw [List.length_map, List.length_range]
theorem i8 (ts : List Nd) (he : E3 ts) (ok : O3 ts) (h0 : 1 ≤ ts.length) (hl : ts.length ≤ 40) : cI [.list (aB ts)] = .ok (.ol (fE (av ts ts.length))) := by
 unfold cI fQ;obtain ⟨kvs, hk, lc⟩ := jw ts (by lia)
 have g0 : atI (aB ts) (0 : Int) = some (.tuple [.int (N3 ts 0).e, .str (N3 ts 0).l, .int (N3 ts 0).t]) := eu (bK (k := 0) (by lia))
 have l0 := ia ok (k := 0) (by lia)
 have s1 : (aZ (1 : Int) && aZ (ts.length : Int)) = true := by
  rw [jQ (by lia) (by lia), jQ (by lia) (by lia)]
  rfl
 push_cast only [lc, Bq, g0, l0, bj, s1];generalize hL : bA _ _ _ _ = r'
 refine gx hL (fun i ρ => ∃ v4 v5 v6 : Option OD, ρ = [some (.sh (.list (aB ts))), some (.sh (dD kvs)), some (.ol (fE (ahL ts (i + 1)))), some (.ol (fE (av ts (i + 1)))), v4, v5, v6]) ⟨_, _, _, rfl⟩ ?_ ?_
 ·rintro i d ρ hd ⟨v4, v5, v6, rfl⟩
  obtain ⟨hi, rfl⟩ := gf hd;have hi' : i + 1 < ts.length := by lia
  have e1 : (1 : Int) + (i : Int) = ((i + 1 : Nat) : Int) := by lia
  rw [e1];have g1 := eu (bK hi');have ls := ia ok hi';have el := he (i + 1) hi';obtain ⟨j, hj⟩ : ∃ j : Nat, (N3 ts (i + 1)).e = (j : Int) := ⟨(N3 ts (i + 1)).e.toNat, by have := el.2.1 (by lia); lia⟩
  have jk : j < i + 1 := by have := el.2.2; lia
  obtain ⟨m, m1, m2, m3, m4, m5⟩ := hk.at_ (i + 1) hi';rw [hj] at m1;have lst : decide ((m : Int) = ((i + 1 : Nat) : Int)) = ck ts (i + 1) := by
   by_cases e : m = i + 1
   ·rw [decide_eq_true (by lia)]
    refine (iQ.mpr fun x h1 h2 => ?_).symm
    exact m5 x (by lia) h2
   ·rw [decide_eq_false (by lia)]
    exact (il ⟨m, by lia, m3, m4⟩).symm
  have ga := jh (ip ts (i + 1) j jk);have al := o_ he (j + 1) j (by lia) (by lia)
  have ll := j3 ok hi';have lb1 : ((fE (ahL ts (i + 1))).length < BIG) = True := by rw [kQ, eD]; exact hR (by lia)
  have lb2 : ((fE (av ts (i + 1))).length < BIG) = True := by rw [kQ, bp]; exact hR (by lia)
  have q1 : ah ts j ++ sg (ck ts (i + 1)) = ah ts (i + 1) := (eY hj jk).symm;have q2 : fE (ahL ts (i + 1)) ++ [OD.sh (.str (ah ts (i + 1)))] = fE (ahL ts (i + 1 + 1)) := by
   rw [jr];refine congrArg fE ?_;apply List.ext_getElem?
   intro x;by_cases hx : x < i + 1
   ·rw [List.getElem?_append_left (by rw [eD]; exact hx), ip ts _ x hx, ip ts _ x (by lia)]
   ·by_cases hx2 : x = i + 1
    ·subst hx2
     rw [List.getElem?_append_right (by rw [eD]; lia), eD, Nat.sub_self, ip ts _ _ (by lia)]
     rfl
    ·rw [List.getElem?_eq_none (by rw [List.length_append, eD]; show i + 1 + 1 ≤ x; lia), List.getElem?_eq_none (by rw [eD]; lia)]
  have ga2 : atI (aO (ahL ts (i + 1 + 1))) (j : Int) = some (.str (ah ts j)) := jh (ip ts _ j (by lia))
  have q3 : ah ts j ++ sr (ck ts (i + 1)) ++ cQ (N3 ts (i + 1)) = br ts (i + 1) := by
   unfold br;rw [if_neg (by lia), hj, Int.toNat_natCast]
  have q4 : fE (av ts (i + 1)) ++ [OD.sh (.str (br ts (i + 1)))] = fE (av ts (i + 1 + 1)) := by rw [jr, ← iK]
  have a1 : ((ah ts j).length + (Str.ofString "  ").length ≤ BIG) = True := aE (by rw [show (Str.ofString "  ").length = 2 from rfl]; lia)
  have a2 : ((ah ts j).length + (Str.ofString "| ").length ≤ BIG) = True := aE (by rw [show (Str.ofString "| ").length = 2 from rfl]; lia)
  have a3 : ((ah ts j).length + (Str.ofString "'-").length ≤ BIG) = True := aE (by rw [show (Str.ofString "'-").length = 2 from rfl]; lia)
  have a4 : ((ah ts j).length + (Str.ofString "+-").length ≤ BIG) = True := aE (by rw [show (Str.ofString "+-").length = 2 from rfl]; lia)
  have a5 : ((ah ts j ++ Str.ofString "'-").length + (cQ (N3 ts (i + 1))).length ≤ BIG) = True := aE (by rw [Str.length_append, show (Str.ofString "'-").length = 2 from rfl]; lia)
  have a6 : ((ah ts j ++ Str.ofString "+-").length + (cQ (N3 ts (i + 1))).length ≤ BIG) = True := aE (by rw [Str.length_append, show (Str.ofString "+-").length = 2 from rfl]; lia)
  rw [hj] at g1 ls;cases hb : ck ts (i + 1) with
  | true =>
   rw [hb] at q1 q3 lst;have q1 : ah ts j ++ Str.ofString "  " = ah ts (i + 1) := q1;have q3 : ah ts j ++ Str.ofString "'-" ++ cQ (N3 ts (i + 1)) = br ts (i + 1) := q3;push_cast only [g1, CW, m1, lst, gT, ga, a1, q1, lb1, q2, ga2, a3, ls, a5, q3, lb2, q4];exact ⟨_, _, _, rfl⟩
  | false =>
   rw [hb] at q1 q3 lst;have q1 : ah ts j ++ Str.ofString "| " = ah ts (i + 1) := q1
   have q3 : ah ts j ++ Str.ofString "+-" ++ cQ (N3 ts (i + 1)) = br ts (i + 1) := q3;push_cast only [g1, CW, m1, lst, gT, ga, a2, q1, lb1, q2, ga2, a4, ls, a6, q3, lb2, q4];exact ⟨_, _, _, rfl⟩
 ·rintro ρ' rfl ⟨v4, v5, v6, rfl⟩
  rw [gG];push_cast only [and_self];rw [show ((ts.length : Int) - 1).toNat + 1 = ts.length by lia]
noncomputable def uN : List Int → Int
 | [] => 0
 | a :: as => mm a as
theorem nA {xs : List Int} (h : xs ≠ []) : l7 [.list (xs.map PyData.int)] = .ok (.sh (.int (uN xs))) := by
 cases xs with
 | nil => exact absurd rfl h
 | cons a as => exact yq a as
theorem lO {xs : List Int} (h : xs ≠ []) : uN xs ∈ xs ∧ ∀ z ∈ xs, z ≤ uN xs := by
 cases xs with
 | nil => exact absurd rfl h
 | cons a as => exact jt as a
noncomputable def chB (c : Nat) : Bool := decide (97 ≤ c ∧ c ≤ 122)
theorem zB (k : Fin 128) : inS ⟨#[k.val]⟩ (Str.ofString "abcdefghijklmnopqrstuvwxyz") = chB k.val := by revert k; decide +kernel
theorem CL {c : Nat} (h : c < 128) : inS ⟨#[c]⟩ "abcdefghijklmnopqrstuvwxyz" = chB c := zB ⟨c, h⟩
noncomputable def Asc (l : Str) : Prop := (∀ c ∈ l.cps.toList, c < 128) ∧ l.length ≤ 1000
noncomputable def kP (l : Str) : Bool := decide (1 ≤ (l.length : Int) ∧ (l.length : Int) ≤ 9) && l.cps.toList.all chB
theorem vH {l : Str} (h : Asc l) : (l.cps.all (· < 128)) = true := by
 rw [← Array.all_toList, List.all_eq_true];exact fun c hc => decide_eq_true (h.1 c hc)
theorem jF {l : Str} (h : Asc l) : dC [.str l] = .ok (.sh (.bool (kP l))) := by
 unfold dC gp;have lb : (l.length ≤ BIG) = True := aE h.2;have e1 : eCh (eC (.int 1)) (eB dA (aj (ag 0) ax)) (eC (.int 9)) [some (.sh (.str l))] = .ok (.sh (.bool (decide (1 ≤ (l.length : Int) ∧ (l.length : Int) ≤ 9)))) :=
  E6 rfl (g8 _) (y := .sh (.int (l.length : Int))) (by push_cast only [lb]) (g8 _) rfl (g8 _)
 have tx : iTx (ag 0) [some (.sh (.str l))] = .ok (signs l) := by
  show (if l.cps.all (· < 128) = true then R.ok (signs l) else .bad) = _
  rw [if_pos (vH h)]
 unfold kP;cases hd : decide (1 ≤ (l.length : Int) ∧ (l.length : Int) ≤ 9) with
 | false =>
  rw [hd] at e1;push_cast only [e1];rfl
 | true =>
  rw [hd] at e1;push_cast only [e1, tx];generalize hC : fA _ _ _ _ _ _ = rc
  have e := pw hC (fun c : Nat => PyData.str ⟨#[c]⟩) (fun c : Nat => .sh (.bool (chB c))) l.cps.toList (by unfold signs; rfl) (by
   have : l.cps.toList.length = l.length := (aT l).symm;rw [this];exact of_eq_true lb) (by
   intro c hc;have := CL (h.1 c hc);push_cast only [t9, this])
  subst e;have e2 : (l.cps.toList.map fun c => OD.sh (.bool (chB c))).map OD.er = (l.cps.toList.map chB).map PyData.bool := by
   rw [List.map_map, List.map_map];exact List.map_congr_left fun c _ => g8 _
  have e3 : (l.cps.toList.map chB).all id = l.cps.toList.all chB := by
   rw [List.all_map];rfl
  push_cast only [e2, BE, e3, Bool.true_and]
noncomputable def fnd (ts : List Nd) (w : Int) (n : Nat) : Bool := if (n : Int) = w then true else if 0 ≤ eOf ts n ∧ eOf ts n < n then fnd ts w (eOf ts n).toNat else false
termination_by n
decreasing_by lia
theorem ik (ts : List Nd) (w : Int) (n : Nat) : fnd ts w n = if (n : Int) = w then true else if 0 ≤ eOf ts n ∧ eOf ts n < n then fnd ts w (eOf ts n).toNat else false := by rw [fnd]
theorem lM (ts : List Nd) (w : Int) : ∀ m n : Nat, n ≤ m → fnd ts w n = true → 0 ≤ w ∧ w ≤ n := by
 intro m
 induction m with
 | zero =>
  intro n hn h;have : n = 0 := by lia
  subst this;rw [ik] at h;split at h
  ·lia
  ·split at h
   ·rename_i h2
    lia
   ·cases h
 | succ m ih =>
  intro n hn h;rw [ik] at h;split at h
  ·lia
  ·split at h
   ·rename_i h2
    have := ih (eOf ts n).toNat (by lia) h
    lia
   ·cases h
noncomputable def Pre (ts : List Nd) (k : Nat) : Prop := ∀ i, i < k → -1 ≤ eOf ts i ∧ eOf ts i < i
theorem sN (ts : List Nd) (n : Nat) (hn : n < ts.length) (hp : Pre ts (n + 1)) (w : Int) : bV [.list (aB ts), .int (n : Int), .int w] = .ok (.sh (.bool (fnd ts w n))) := by
 unfold bV d4;push_cast only [and_self];generalize hL : fS _ _ _ = r
 refine pR hL (fun m ρ => ∃ z : Int, ρ = [some (.sh (.list (aB ts))), some (.sh (.int (n : Int))), some (.sh (.int w)), some (.sh (.int z))] ∧ -1 ≤ z ∧ z ≤ n ∧ m = (z + 1).toNat ∧ (z = -1 → fnd ts w n = false) ∧ (∀ q : Nat, z = q → fnd ts w n = fnd ts w q)) (n + 1)
  ⟨(n : Int), rfl, by lia, by lia, by lia, fun h => by lia, fun q h => by rw [show n = q by lia]⟩
  (fun ρ => ∃ z : Int, ρ = [some (.sh (.list (aB ts))), some (.sh (.int (n : Int))), some (.sh (.int w)), some (.sh (.int z))] ∧ decide (z = -1) = !(fnd ts w n)) ?_ ?_
 ·rintro m ρ ⟨z, rfl, z0, z1, rfl, h1, h2⟩
  by_cases hz : z = -1
  ·left
   refine ⟨by push_cast only [decide_eq_true hz], z, rfl, ?_⟩
   rw [h1 hz, decide_eq_true hz];rfl
  ·obtain ⟨q, hq⟩ : ∃ q : Nat, z = (q : Int) := ⟨z.toNat, by lia⟩
   have e1 := h2 q hq;by_cases hw : z = w
   ·left
    refine ⟨by push_cast only [decide_eq_false hz, decide_eq_true hw], z, rfl, ?_⟩
    rw [e1, ik, if_pos (by lia), decide_eq_false hz]
    rfl
   ·right
    obtain ⟨nd, hnd⟩ : ∃ x, ts[q]? = some x := ⟨ts[q]'(by lia), by simp⟩
    have g1 := eu hnd;have pq := hp q (by lia)
    have eo : eOf ts q = nd.e := by unfold eOf; rw [hnd]; rfl
    rw [eo] at pq;refine ⟨by push_cast only [decide_eq_false hz, decide_eq_false hw], ?_⟩
    subst hq;push_cast only [g1];refine ⟨_, ?_, nd.e, rfl, pq.1, by lia, rfl, fun h => ?_, fun q' h => ?_⟩
    ·lia
    ·rw [e1, ik, if_neg hw, if_neg (by lia)]
    ·rw [e1, ik, if_neg hw, eo, if_pos (by lia), h]
     rfl
 ·rintro ρ' rfl ⟨z, rfl, hz⟩
  push_cast only [hz];cases fnd ts w n <;> rfl
theorem zX {t : Int} (h : 1 ≤ t ∧ t ≤ 9) : dq [.int t] = .ok (.sh .none) := by
 unfold dq e8;push_cast only [decide_eq_false (show ¬ t < 1 by lia), decide_eq_false (show ¬ 9 < t by lia)]
theorem wo {l : Str} (h : Asc l) (hb : kP l = true) : cZ [.str l] = .ok (.sh .none) := by
 unfold cZ eE;have e := jF h;rw [hb] at e;push_cast only [e]
noncomputable def elB (ts : List Nd) (k : Nat) : Bool := if k = 0 then decide (eOf ts 0 = -1) else fnd ts (eOf ts k) (k - 1)
theorem vj {ts : List Nd} {k : Nat} (hk : k < ts.length) (hp : Pre ts k) (hb : elB ts k = true) : cT [.list (aB ts), .int (k : Int)] = .ok (.sh .none) := by
 unfold cT eK;obtain ⟨nd, hnd⟩ : ∃ x, ts[k]? = some x := ⟨ts[k]'(by lia), by simp⟩
 have g1 := eu hnd;have eo : eOf ts k = nd.e := by unfold eOf; rw [hnd]; rfl
 unfold elB at hb;by_cases h0 : k = 0
 ·subst h0
  rw [if_pos rfl, eo] at hb;rw [show ((0 : Nat) : Int) = 0 from rfl] at g1 ⊢
  push_cast only [g1, hb]
 ·have d0 : decide ((k : Int) = 0) = false := decide_eq_false (by lia)
  have ek : (k : Int) - 1 = ((k - 1 : Nat) : Int) := by lia
  have wy := sN ts (k - 1) (by lia) (fun i hi => hp i (by lia)) nd.e
  rw [if_neg h0, eo] at hb;rw [hb] at wy;push_cast only [g1, d0, ek, wy]
noncomputable def lA (ts : List Nd) (k : Nat) : Bool := elB ts k && (match ts[k]? with
 | some n => kP n.l && decide (1 ≤ n.t ∧ n.t ≤ 9)
 | none => false)
theorem j6 {ts : List Nd} {k : Nat} {n : Nd} (h : ts[k]? = some n) : lA ts k = (elB ts k && (kP n.l && decide (1 ≤ n.t ∧ n.t ≤ 9))) := by
 unfold lA;rw [h]
structure Valid (ts : List Nd) : Prop where
 l0 : 1 ≤ ts.length
 l1 : ts.length ≤ 40
 row : ∀ k, k < ts.length → lA ts k = true
 lv : ∀ k v : Nat, (lvs ts)[k]? = some v → v ≤ 8
theorem oQ {ts : List Nd} {k : Nat} (h : lA ts k = true) : elB ts k = true := by
 unfold lA at h;rw [Bool.and_eq_true] at h;exact h.1
theorem oN {ts : List Nd} {k : Nat} (h : elB ts k = true) : (k = 0 → eOf ts k = -1) ∧ (0 < k → 0 ≤ eOf ts k ∧ eOf ts k < k) := by
 unfold elB at h;by_cases h0 : k = 0
 ·subst h0
  rw [if_pos rfl] at h;exact ⟨fun _ => of_decide_eq_true h, fun z => absurd z (by lia)⟩
 ·rw [if_neg h0] at h
  have := lM ts (eOf ts k) (k - 1) (k - 1) (Nat.le_refl _) h;exact ⟨fun z => absurd z h0, fun _ => by lia⟩
theorem pre_of {ts : List Nd} {k : Nat} (h : ∀ i, i < k → lA ts i = true) : Pre ts k := fun i hi => by
 have := oN (oQ (h i hi));by_cases h0 : i = 0
 ·have := this.1 h0
  lia
 ·have := this.2 (by lia)
  lia
theorem zN {ts : List Nd} {k : Nat} {n : Nd} (h : ts[k]? = some n) : eOf ts k = n.e := by unfold eOf; rw [h]; rfl
theorem oZ {ts : List Nd} (h : ∀ k, k < ts.length → lA ts k = true) : EL ts := fun k n hn => by
 have hk := (List.getElem?_eq_some_iff.mp hn).1;have := oN (oQ (h k hk));rw [zN hn] at this;refine ⟨this.1, fun z => (this.2 z).1, ?_⟩
 by_cases h0 : k = 0
 ·have := this.1 h0
  lia
 ·exact (this.2 (by lia)).2
theorem zD (ts : List Nd) (ha : ∀ n ∈ ts, Asc n.l) (v : Valid ts) : dN [.list (aB ts)] = .ok (.ol ((aB ts).map OD.sh)) := by
 unfold dN fB;have h1 : ¬ (ts.length : Int) < 1 := by have := v.l0; lia
 have h2 : ¬ (40 : Int) < (ts.length : Int) := by have := v.l1; lia
 have hl : ts.length ≤ 100 := by lia
 push_cast only [bj, decide_eq_false h1, decide_eq_false h2];generalize hL : bA _ _ _ _ = r'
 refine gx hL (fun i ρ => ∃ v1 v2 : Option OD, ρ = [some (.sh (.list (aB ts))), v1, v2]) ⟨_, _, rfl⟩ ?_ ?_
 ·rintro i d ρ hd ⟨v1, v2, rfl⟩
  obtain ⟨x, hx, rfl⟩ := fR hd;unfold aB at hx;rw [List.getElem?_map] at hx;obtain ⟨n, hn, rfl⟩ := Option.map_eq_some_iff.mp hx;have hi := (List.getElem?_eq_some_iff.mp hn).1;have rb := v.row i hi;rw [j6 hn, Bool.and_eq_true, Bool.and_eq_true] at rb;have e1 := vj hi (pre_of fun k hk => v.row k (by lia)) rb.1
  have e2 := wo (ha n (List.mem_of_getElem? hn)) rb.2.1;have e3 := zX (of_decide_eq_true rb.2.2);push_cast only [ndD, e1, e2, e3];exact ⟨_, _, rfl⟩
 ·rintro ρ' rfl ⟨v1, v2, rfl⟩
  have nl := hV ts (oZ v.row) hl;have el : (ja (lvs ts)) = ((lvs ts).map fun k : Nat => (k : Int)).map PyData.int := by
   unfold ja;rw [List.map_map];rfl
  have ne : ((lvs ts).map fun k : Nat => (k : Int)) ≠ [] := fun z => by
   have := congrArg List.length z;rw [List.length_map, eW] at this;simp at this
   rw [this] at h1;simp at h1
  have mx := nA ne;rw [← el] at mx;obtain ⟨m1, m2⟩ := lO ne;have bg : (ts.length ≤ BIG) = True := aE (by lia)
  have h8 : ¬ (8 : Int) < uN ((lvs ts).map fun k : Nat => (k : Int)) := by
   obtain ⟨w, hw, hw2⟩ := List.mem_map.mp m1;obtain ⟨k, hk, hk2⟩ := List.mem_iff_getElem.mp hw;have := v.lv k w (by rw [List.getElem?_eq_getElem hk, hk2])
   lia
  push_cast only [nl, bW, mx, decide_eq_false h8, bj, bg]
noncomputable abbrev As (ts : List Nd) : Prop := ∀ n ∈ ts, Asc n.l
theorem uh {l : Str} (h : Asc l) : PyData.strOk l = true := by
 unfold PyData.strOk;rw [Array.all_eq_true'];intro c hc;have := h.1 c (by simpa using hc)
 simp
 lia
theorem w_ {n : Nd} (h : Asc n.l) : lay 1 (ndD n) := qy fun x hx => by
 simp only [List.mem_cons, List.not_mem_nil, or_false] at hx;rcases hx with rfl | rfl | rfl
 ·exact qp _
 ·exact pC (uh h)
 ·exact qp _
theorem j9 (ts : List Nd) (h : As ts) (hl : ts.length ≤ 100) : bZ [.list (aB ts), .list (aB ts)] = .ok (.sh (.bool true)) := by
 unfold bZ fO;have d1 : decide ((ts.length : Int) = (ts.length : Int)) = true := decide_eq_true rfl;push_cast only [bj, d1];generalize hL : bA _ _ _ _ = r'
 refine gx hL (fun i ρ => ∃ v2 v3 : Option OD, ρ = [some (.sh (.list (aB ts))), some (.sh (.list (aB ts))), v2, v3]) ⟨_, _, rfl⟩ ?_ ?_
 ·rintro i d ρ hd ⟨v2, v3, rfl⟩
  obtain ⟨x, y, hx, hy, rfl⟩ := nT hd;rw [hx] at hy;cases hy;unfold aB at hx;rw [List.getElem?_map] at hx;obtain ⟨n, hn, rfl⟩ := Option.map_eq_some_iff.mp hx;have hne : gNe (ndD n) (ndD n) = .ok (.sh (.bool false)) := rg (w_ (h n (List.mem_of_getElem? hn)));have e1 : ndD n = .tuple [.int n.e, .str n.l, .int n.t] := rfl;rw [e1] at hne ⊢;push_cast only [qZ, hne];exact ⟨_, _, rfl⟩
 ·rintro ρ' rfl ⟨v2, v3, rfl⟩
  push_cast only [and_self]
theorem xZ (a b : List Nd) : aB a ++ aB b = aB (a ++ b) := by unfold aB; rw [List.map_append]
theorem zM {t : Int} : dt [.int t] = if 1 ≤ t ∧ t ≤ 9 then .ok (.sh .none) else .ex "NoTree" := by
 unfold dt eZ;by_cases h1 : t < 1
 ·rw [if_neg (by lia)]
  push_cast only [decide_eq_true h1, fg, eQ]
 ·by_cases h2 : 9 < t
  ·rw [if_neg (by lia)]
   push_cast only [decide_eq_false h1, decide_eq_true h2, fg, eQ]
  ·rw [if_pos (by lia)]
   push_cast only [decide_eq_false h1, decide_eq_false h2]
theorem u_ {l : Str} (h : Asc l) : cV [.str l] = if kP l = true then .ok (.sh .none) else .ex "NoTree" := by
 unfold cV eJ;have e := jF h;cases hb : kP l with
 | true =>
  rw [hb] at e;push_cast only [e]
 | false =>
  rw [hb] at e;push_cast only [e, fg, eQ]
theorem vn {ts : List Nd} {k : Nat} (hk : k < ts.length) (hp : Pre ts k) : cW [.list (aB ts), .int (k : Int)] = if elB ts k = true then .ok (.sh .none) else .ex "NoTree" := by
 unfold cW ei;obtain ⟨nd, hnd⟩ : ∃ x, ts[k]? = some x := ⟨ts[k]'(by lia), by simp⟩
 have g1 := eu hnd;have eo : eOf ts k = nd.e := by unfold eOf; rw [hnd]; rfl
 by_cases h0 : k = 0
 ·subst h0
  unfold elB;rw [if_pos rfl, eo];rw [show ((0 : Nat) : Int) = 0 from rfl] at g1 ⊢
  by_cases he : nd.e = -1
  ·push_cast only [g1, decide_eq_true he]
  ·push_cast only [g1, decide_eq_false he, fg, eQ]
 ·have d0 : decide ((k : Int) = 0) = false := decide_eq_false (by lia)
  have ek : (k : Int) - 1 = ((k - 1 : Nat) : Int) := by lia
  have wy := sN ts (k - 1) (by lia) (fun i hi => hp i (by lia)) nd.e
  unfold elB;rw [if_neg h0, eo];cases hf : fnd ts nd.e (k - 1) with
  | true =>
   rw [hf] at wy;push_cast only [g1, d0, ek, wy]
  | false =>
   rw [hf] at wy;push_cast only [g1, d0, ek, wy, fg, eQ]
theorem zi (ts : List Nd) (ha : ∀ n ∈ ts, Asc n.l) (hl : ts.length ≤ 100) : (Valid ts ∧ dg [.list (aB ts)] = .ok (.ol ((aB ts).map OD.sh))) ∨ (¬ Valid ts ∧ dg [.list (aB ts)] = .ex "NoTree") := by
 unfold dg fJ;by_cases h1 : (ts.length : Int) < 1
 ·right
  refine ⟨fun v => by have := v.l0; lia, ?_⟩
  push_cast only [bj, decide_eq_true h1, fg, fu, eQ]
 ·by_cases h2 : (40 : Int) < (ts.length : Int)
  ·right
   refine ⟨fun v => by have := v.l1; lia, ?_⟩
   push_cast only [bj, decide_eq_false h1, decide_eq_true h2, fg, fu, eQ]
  ·push_cast only [bj, decide_eq_false h1, decide_eq_false h2]
   generalize hL : bA _ _ _ _ = r'
   refine tU hL (fun i ρ => (∀ k, k < i → lA ts k = true) ∧ ∃ v1 v2 : Option OD, ρ = [some (.sh (.list (aB ts))), v1, v2]) (¬ Valid ts) "NoTree" ⟨fun k hk => by lia, _, _, rfl⟩ ?_ ?_ ?_
   ·rintro i d ρ hd ⟨hr, v1, v2, rfl⟩
    obtain ⟨x, hx, rfl⟩ := fR hd;unfold aB at hx;rw [List.getElem?_map] at hx;obtain ⟨n, hn, rfl⟩ := Option.map_eq_some_iff.mp hx;have hi := (List.getElem?_eq_some_iff.mp hn).1;have rb := j6 hn;have e1 := vn hi (pre_of hr);have e2 := u_ (ha n (List.mem_of_getElem? hn));have e3 := zM (t := n.t);have no : lA ts i = false → ¬ Valid ts := fun h v => by rw [v.row i hi] at h; cases h
    cases b1 : elB ts i with
    | false =>
     rw [b1, if_neg (by simp)] at e1
     push_cast only [ndD, e1, fu, qk];exact no (by rw [rb, b1]; rfl)
    | true =>
     rw [b1, if_pos rfl] at e1;cases b2 : kP n.l with
     | false =>
      rw [b2, if_neg (by simp)] at e2
      push_cast only [ndD, e1, e2, fu, qk];exact no (by rw [rb, b1, b2]; rfl)
     | true =>
      rw [b2, if_pos rfl] at e2;by_cases b3 : 1 ≤ n.t ∧ n.t ≤ 9
      ·rw [if_pos b3] at e3
       push_cast only [ndD, e1, e2, e3, uF];refine ⟨fun k hk => ?_, _, _, rfl⟩
       by_cases hk' : k < i
       ·exact hr k hk'
       ·have : k = i := by lia
        rw [this, rb, b1, b2, decide_eq_true b3];rfl
      ·rw [if_neg b3] at e3
       push_cast only [ndD, e1, e2, e3, fu, qk];exact no (by rw [rb, b1, b2, decide_eq_false b3]; rfl)
   ·rintro ρ' rfl ⟨hr, v1, v2, rfl⟩
    have hr' : ∀ k, k < ts.length → lA ts k = true := fun k hk => hr k (by
     unfold gk;rw [List.length_map, List.length_zipIdx, bj];exact hk)
    have nl := hV ts (oZ hr') hl;have el : (ja (lvs ts)) = ((lvs ts).map fun k : Nat => (k : Int)).map PyData.int := by
     unfold ja;rw [List.map_map];rfl
    have ne : ((lvs ts).map fun k : Nat => (k : Int)) ≠ [] := fun z => by
     have := congrArg List.length z;rw [List.length_map, eW] at this;simp at this
     rw [this] at h1;simp at h1
    have mx := nA ne;rw [← el] at mx;obtain ⟨m1, m2⟩ := lO ne;have bg : (ts.length ≤ BIG) = True := aE (by lia)
    by_cases h8 : (8 : Int) < uN ((lvs ts).map fun k : Nat => (k : Int))
    ·right
     constructor
     ·intro v
      obtain ⟨w, hw, hw2⟩ := List.mem_map.mp m1;obtain ⟨k, hk, hk2⟩ := List.mem_iff_getElem.mp hw;have := v.lv k w (by rw [List.getElem?_eq_getElem hk, hk2])
      lia
     ·push_cast only [nl, bW, mx, decide_eq_true h8, fg, fu, eQ]
    ·left
     constructor
     ·refine ⟨by lia, by lia, hr', fun k v hv => ?_⟩
      have := m2 (v : Int) (List.mem_map.mpr ⟨v, List.mem_of_getElem? hv, rfl⟩)
      lia
     ·push_cast only [nl, bW, mx, decide_eq_false h8, bj, bg]
   ·rintro rfl hv
    right
    refine ⟨hv, ?_⟩;push_cast only [fu, eQ]
theorem kU {p q : List Nat} {g : Nat → Bool} (h1 : ∀ c ∈ p, g c = true) (h2 : ∀ c, q.head? = some c → g c = false) : (p ++ q).takeWhile g = p := by
 rw [List.takeWhile_append_of_pos h1];cases q with
 | nil => simp
 | cons c r =>
  rw [List.takeWhile_cons, h2 c rfl];simp
theorem wO {p q : Str} {g : Nat → Bool} (h1 : ∀ c ∈ p.cps.toList, g c = true) (h2 : ∀ c, q.cps.toList.head? = some c → g c = false) : Txt.stripBy g true false (p ++ q) = q := by
 have hx : (p ++ q).cps.toList = p.cps.toList ++ q.cps.toList := aL p q;have lo : stripLo g true (p ++ q) = p.length := by
  unfold stripLo;rw [if_pos rfl, hx, kU h1 h2, aT]
 have hi : stripHi g false (p ++ q) (stripLo g true (p ++ q)) = (p ++ q).length := rfl;have sub : stripped g true false (p ++ q) = q := by
  unfold stripped;rw [hi, lo];apply gR
  show ((p ++ q).cps.extract p.length (p ++ q).length).toList = _
  rw [Array.toList_extract, hx, List.extract_eq_drop_take, Str.length_append, aT p, aT q, List.drop_left, Nat.add_sub_cancel_left, List.take_length]
 unfold Txt.stripBy;split
 ·rename_i hs
  unfold stripSame at hs;rw [Bool.and_eq_true, lo, beq_iff_eq] at hs;have hp : p.cps.toList = [] := List.eq_nil_of_length_eq_zero (by rw [← aT]; exact hs.1)
  apply gR
  rw [hx, hp, List.nil_append]
 ·exact sub
theorem vf {p q : Str} {g : Nat → Bool} (h1 : ∀ c ∈ q.cps.toList, g c = true) (h2 : ∀ c, p.cps.toList.reverse.head? = some c → g c = false) : Txt.stripBy g false true (p ++ q) = p := by
 have hx : (p ++ q).cps.toList = p.cps.toList ++ q.cps.toList := aL p q;have lo : stripLo g false (p ++ q) = 0 := rfl;have hi : stripHi g true (p ++ q) 0 = p.length := by
  unfold stripHi;rw [if_pos rfl, List.drop_zero, hx, List.reverse_append, kU (fun c hc => h1 c (List.mem_reverse.mp hc)) h2, List.length_reverse, Str.length_append, aT p, aT q]
  lia
 have sub : stripped g false true (p ++ q) = p := by
  unfold stripped;rw [lo, hi];apply gR
  show ((p ++ q).cps.extract 0 p.length).toList = _
  rw [Array.toList_extract, hx, List.extract_eq_drop_take, List.drop_zero, Nat.sub_zero, aT p, List.take_left]
 unfold Txt.stripBy;split
 ·rename_i hs
  unfold stripSame at hs;rw [Bool.and_eq_true, lo, hi, beq_iff_eq, beq_iff_eq, Str.length_append] at hs;have hq : q.cps.toList = [] := List.eq_nil_of_length_eq_zero (by rw [← aT]; lia)
  apply gR
  rw [hx, hq, List.append_nil]
 ·exact sub
noncomputable def stS : Str := Str.ofString " |+'-"
theorem pX : stS.cps = #[32, 124, 43, 39, 45] := by decide +kernel
theorem yh {c : Nat} (h : c = 32 ∨ c = 124 ∨ c = 43 ∨ c = 39 ∨ c = 45) : stS.cps.contains c = true := by
 rw [pX];rcases h with rfl | rfl | rfl | rfl | rfl <;> decide +kernel
theorem vP {c : Nat} (h : 97 ≤ c) (h2 : c ≤ 122) : stS.cps.contains c = false := by
 rw [pX, ← Bool.not_eq_true, Array.contains_iff_mem];simp
 lia
theorem xS {c : Nat} (h : c = 58) : cln.cps.contains c = true := by
 rw [kI, h];decide +kernel
theorem wH {c : Nat} (h : 97 ≤ c) : cln.cps.contains c = false := by
 rw [kI, ← Bool.not_eq_true, Array.contains_iff_mem];simp
 lia
theorem rX (n : Int) {c : Nat} (h : c ∈ (Txt.mul cln n).cps.toList) : c = 58 := by
 rw [gY] at h;exact (List.mem_replicate.mp h).2
theorem iu {n : Nd} (h : gD n.l) {c : Nat} (hc : (cQ n).cps.toList.head? = some c) : 97 ≤ c ∧ c ≤ 122 := by
 unfold cQ at hc;rw [aL] at hc;have hne : n.l.cps.toList ≠ [] := fun z => by
  have := aT n.l;rw [z] at this;have := h.1;simp at *
  lia
 cases hl : n.l.cps.toList with
 | nil => exact absurd hl hne
 | cons a r =>
  rw [hl] at hc;simp at hc
  subst hc;exact h.2.2 a (by rw [hl]; simp)
theorem wa {n : Nd} (h : gD n.l) : Txt.rstripChars (cQ n) cln = n.l := by
 unfold cQ Txt.rstripChars;refine vf (fun c hc => xS (rX _ hc)) fun c hc => ?_
 have : c ∈ n.l.cps.toList := List.mem_reverse.mp (List.mem_of_mem_head? hc);exact wH (h.2.2 c this).1
theorem vO {p : Str} {n : Nd} (hp : ∀ c ∈ p.cps.toList, c = 32 ∨ c = 124 ∨ c = 43 ∨ c = 39 ∨ c = 45) (h : gD n.l) : Txt.lstripChars (p ++ cQ n) stS = cQ n := by
 unfold Txt.lstripChars;exact wO (fun c hc => yh (hp c hc)) fun c hc => let z := iu h hc; vP z.1 z.2
theorem uH {n : Nd} (h : mj n) : ((cQ n).length : Int) - (n.l.length : Int) + 1 = n.t := by
 unfold cQ;rw [Str.length_append, kf];have := h.2
 lia
theorem CB (b : Bool) : ∀ c ∈ (sg b).cps.toList, c = 32 ∨ c = 124 := by
 intro c hc;cases b
 ·rw [show (sg false).cps.toList = [124, 32] by decide +kernel] at hc
  simp at hc
  lia
 ·rw [show (sg true).cps.toList = [32, 32] by decide +kernel] at hc
  simp at hc
  lia
theorem xf (b : Bool) : ∀ c ∈ (sr b).cps.toList, c = 43 ∨ c = 39 ∨ c = 45 := by
 intro c hc;cases b
 ·rw [show (sr false).cps.toList = [43, 45] by decide +kernel] at hc
  simp at hc
  lia
 ·rw [show (sr true).cps.toList = [39, 45] by decide +kernel] at hc
  simp at hc
  lia
structure Ways (ts : List Nd) (ws : Nat → List Int) : Prop where
 one : ws 1 = [0]
 step : ∀ i, 1 ≤ i → i < ts.length → ∃ c : Nat, 1 ≤ c ∧ c ≤ (ws i).length ∧ c ≤ 8 ∧ (ws i)[c - 1]? = some (N3 ts i).e ∧ ws (i + 1) = (ws i).take c ++ [(i : Int)]
theorem yO {ts us : List Nd} {k : Nat} (h : k < ts.length) : N3 (ts ++ us) k = N3 ts k := by unfold N3; rw [List.getElem?_append_left h]
theorem wY (ts : List Nd) (n : Nd) : N3 (ts ++ [n]) ts.length = n := by
 unfold N3;rw [List.getElem?_append_right (Nat.le_refl _), Nat.sub_self];rfl
theorem gv {ts : List Nd} {way : List Int} (g : Grown 8 ts way) : ∃ ws, Ways ts ws ∧ ws ts.length = way := by
 induction g with
 | root h1 h2 => exact ⟨fun _ => [0], ⟨rfl, fun i h1 h2 => by simp at h2; lia⟩, rfl⟩
 | @step ns way c n g h1 h2 h3 h4 h5 ih =>
  obtain ⟨ws, W, hw⟩ := ih;have p := g.pos.1;have f1 : ∀ i, i ≤ ns.length → (if i = ns.length + 1 then way.take c ++ [(ns.length : Int)] else ws i) = ws i := fun i hi => if_neg (by lia)
  have f2 : (if ns.length + 1 = ns.length + 1 then way.take c ++ [(ns.length : Int)] else ws (ns.length + 1)) = way.take c ++ [(ns.length : Int)] := if_pos rfl
  refine ⟨fun i => if i = ns.length + 1 then way.take c ++ [(ns.length : Int)] else ws i, ⟨?_, fun i i1 i2 => ?_⟩, ?_⟩
  ·exact (f1 1 p).trans W.one
  ·rw [List.length_append, List.length_singleton] at i2
   rw [f1 i (by lia)]
   by_cases hi : i = ns.length
   ·subst hi
    rw [f2, hw, wY];exact ⟨c, h1, h2, h3, h5, rfl⟩
   ·rw [f1 (i + 1) (by lia), yO (by lia)]
    exact W.step i i1 (by lia)
  ·rw [List.length_append, List.length_singleton]
   exact f2
structure WayAt (ts : List Nd) (i : Nat) (w : List Int) : Prop where
 at_ : ∀ (j : Nat) (x : Int), w[j]? = some x → ∃ k : Nat, x = (k : Int) ∧ k < i ∧ (ah ts k).length = 2 * j ∧ (lvs ts)[k]? = some j
 len : w.length ≤ 9
 up : ∀ (j j' : Nat) (x x' : Int), j ≤ j' → w[j]? = some x → w[j']? = some x' → fnd ts x x'.toNat = true
 last : w[w.length - 1]? = some ((i - 1 : Nat) : Int)
 pos : 0 < w.length
theorem om (ts : List Nd) (n : Nat) : fnd ts (n : Int) n = true := by rw [ik, if_pos rfl]
theorem lg {ts : List Nd} {ws : Nat → List Int} (W : Ways ts ws) (he : EL ts) : ∀ m : Nat, m < ts.length → WayAt ts (m + 1) (ws (m + 1)) := by
 intro m
 induction m with
 | zero =>
  intro h;rw [W.one];have l0 : (lvs ts)[0]? = some 0 := by
   rw [j_ (bK h)];have := (he 0 _ (bK h)).1 rfl;unfold eO;rw [if_pos this]
  refine ⟨fun j x hx => ?_, by decide, fun j j' x x' hj hx hx' => ?_, rfl, by decide⟩
  ·cases j with
   | zero =>
    cases hx;exact ⟨0, rfl, by lia, rfl, l0⟩
   | succ j => cases hx
  ·cases j' with
   | zero =>
    have : j = 0 := by lia
    subst this;cases hx;cases hx';exact om ts 0
   | succ j' => cases hx'
 | succ m ih =>
  intro h;have I := ih (by lia)
  obtain ⟨c, c1, c2, c3, c4, c5⟩ := W.step (m + 1) (by lia) h
  rw [c5];have hl := he (m + 1) _ (bK h);obtain ⟨k0, k1, k2, k3, k4⟩ := I.at_ (c - 1) _ c4;have eo : eOf ts (m + 1) = (N3 ts (m + 1)).e := mC (bK h);have l1 : (lvs ts)[m + 1]? = some c := by
   rw [j_ (bK h), ← kh];unfold eO;rw [if_neg (by lia), k1, Int.toNat_natCast, List.getElem?_take_of_lt (by lia), k4]
   show some (c - 1 + 1) = some c
   congr 1
   lia
  have a1 : (ah ts (m + 1)).length = 2 * c := by
   rw [eY k1 (by lia), Str.length_append, kH, k3]
   lia
  have tl : ((ws (m + 1)).take c).length = c := by rw [List.length_take]; lia
  have lo : ∀ {j : Nat} {x : Int}, ((ws (m + 1)).take c ++ [((m + 1 : Nat) : Int)])[j]? = some x → (j < c ∧ (ws (m + 1))[j]? = some x) ∨ (j = c ∧ x = ((m + 1 : Nat) : Int)) := by
   intro j x hx;by_cases hj : j < c
   ·rw [List.getElem?_append_left (by rw [tl]; exact hj), List.getElem?_take_of_lt hj] at hx
    exact .inl ⟨hj, hx⟩
   ·rw [List.getElem?_append_right (by rw [tl]; lia), tl] at hx
    have hz : j - c = 0 := by
     have := (List.getElem?_eq_some_iff.mp hx).1;simp at this
     lia
    rw [hz] at hx;cases hx;exact .inr ⟨by lia, rfl⟩
  refine ⟨fun j x hx => ?_, by rw [List.length_append, tl]; show c + 1 ≤ 9; lia, fun j j' x x' hj hx hx' => ?_, ?_, by rw [List.length_append]; show 0 < _ + 1; lia⟩
  ·rcases lo hx with ⟨hj, hx'⟩ | ⟨hj, hx'⟩
   ·obtain ⟨k, q1, q2, q3, q4⟩ := I.at_ j x hx'
    exact ⟨k, q1, by lia, q3, q4⟩
   ·rw [hj]
    exact ⟨m + 1, hx', by lia, a1, l1⟩
  ·rcases lo hx' with ⟨hj', hx'⟩ | ⟨hj', hx'⟩
   ·rcases lo hx with ⟨_, hx⟩ | ⟨hj2, _⟩
    ·exact I.up j j' x x' hj hx hx'
    ·lia
   ·rcases lo hx with ⟨hj2, hx⟩ | ⟨hj2, hx⟩
    ·obtain ⟨k, q1, q2, _, _⟩ := I.at_ j x hx
     have := I.up j (c - 1) x _ (by lia) hx c4
     subst hx';rw [Int.toNat_natCast, ik, if_neg (by lia), eo, if_pos (by have := hl.2.1 (by lia); have := hl.2.2; lia)]
     exact this
    ·subst hx hx'
     rw [Int.toNat_natCast];exact om ts (m + 1)
  ·rw [List.length_append, tl]
   show ((ws (m + 1)).take c ++ [((m + 1 : Nat) : Int)])[c + 1 - 1]? = _
   rw [Nat.add_sub_cancel, List.getElem?_append_right (by rw [tl]; lia), tl, Nat.sub_self]
   rfl
theorem jG {ts : List Nd} (he : EL ts) : E3 ts := fun k hk => he k _ (bK hk)
theorem jI {ts : List Nd} (h : ∀ n ∈ ts, mj n) : O3 ts := fun k hk => by
 have := h _ (List.mem_of_getElem? (bK hk));exact ⟨this.1.2.1, this.2.1, this.2.2⟩
theorem u0 {l : Str} (h : gD l) : kP l = true := by
 unfold kP;rw [Bool.and_eq_true, List.all_eq_true];refine ⟨decide_eq_true ⟨by have := h.1; lia, by have := h.2.1; lia⟩, fun c hc => ?_⟩
 unfold chB;exact decide_eq_true (h.2.2 c hc)
theorem vq {l : Str} (h : gD l) : Asc l := ⟨fun c hc => by have := h.2.2 c hc; lia, by have := h.2.1; lia⟩
theorem uf {ts : List Nd} {way : List Int} (g : Grown 8 ts way) (hl : ts.length ≤ 40) : Valid ts := by
 obtain ⟨ws, W, _⟩ := gv g;have he : EL ts := g.elder;refine ⟨g.pos.1, hl, fun k hk => ?_, fun k v hv => ?_⟩
 ·have hn := bK hk
  have ok := g.ok _ (List.mem_of_getElem? hn);rw [j6 hn, Bool.and_eq_true, Bool.and_eq_true];refine ⟨?_, u0 ok.1, decide_eq_true ⟨ok.2.1, ok.2.2⟩⟩;unfold elB;by_cases h0 : k = 0
  ·subst h0
   rw [if_pos rfl];exact decide_eq_true ((mC hn).trans ((he 0 _ hn).1 rfl))
  ·rw [if_neg h0, mC hn]
   obtain ⟨c, c1, c2, c3, c4, c5⟩ := W.step k (by lia) hk
   have I := lg W he (k - 1) (by lia)
   rw [show k - 1 + 1 = k by lia] at I
   have := I.up (c - 1) ((ws k).length - 1) _ _ (by lia) c4 I.last
   rw [Int.toNat_natCast] at this;exact this
 ·have hk : k < ts.length := by
   have := (List.getElem?_eq_some_iff.mp hv).1;rw [eW] at this;exact this
  have I := lg W he k hk;obtain ⟨k', q1, q2, q3, q4⟩ := I.at_ _ _ I.last;have : k' = k := by
   have : ((k + 1 - 1 : Nat) : Int) = (k' : Int) := q1
   lia
  subst this;rw [q4] at hv;cases hv;have := I.len
  lia
theorem xc {ts : List Nd} (he : E3 ts) : ∀ m k : Nat, k < m → k < ts.length → ∀ c ∈ (ah ts k).cps.toList, c = 32 ∨ c = 124 := by
 intro m
 induction m with
 | zero =>
  intro k h
  lia
 | succ m ih =>
  intro k h hk c hc;by_cases e : k = 0
  ·subst e
   rw [mH] at hc;cases hc
  ·have el := he k hk
   obtain ⟨j, hj⟩ : ∃ j : Nat, (N3 ts k).e = (j : Int) := ⟨(N3 ts k).e.toNat, by have := el.2.1 (by lia); lia⟩
   have jk : j < k := by have := el.2.2; lia
   rw [eY hj jk, aL] at hc;rcases List.mem_append.mp hc with z | z
   ·exact ih j (by lia) (by lia) c z
   ·exact CB _ c z
noncomputable def wy (ws : Nat → List Int) (i : Nat) : List Int := if i = 0 then [] else ws i
theorem wc (x : Str) : Str.empty ++ x = x := by
 apply gR
 rw [aL];rfl
theorem eS {ts : List Nd} {ws : Nat → List Int} (W : Ways ts ws) (he : EL ts) {i : Nat} (hi : i < ts.length) : ∃ (p : Str) (c : Nat), br ts i = p ++ cQ (N3 ts i) ∧ p.length = 2 * c ∧ (∀ x ∈ p.cps.toList, x = 32 ∨ x = 124 ∨ x = 43 ∨ x = 39 ∨ x = 45) ∧ c ≤ (wy ws i).length ∧ wy ws (i + 1) = (wy ws i).take c ++ [(i : Int)] ∧ c ≤ 8 ∧
  ((c = 0 ∧ (N3 ts i).e = -1) ∨ (0 < c ∧ (wy ws (i + 1))[c - 1]? = some (N3 ts i).e)) := by
 have e3 := jG he;by_cases h0 : i = 0
 ·subst h0
  refine ⟨Str.empty, 0, ?_, rfl, (fun x hx => by cases hx), Nat.zero_le _, ?_, by decide, .inl ⟨rfl, (e3 0 hi).1 rfl⟩⟩
  ·unfold br
   rw [if_pos rfl, wc]
  ·exact W.one
 ·obtain ⟨c, c1, c2, c3, c4, c5⟩ := W.step i (by lia) hi
  have I := lg W he (i - 1) (by lia)
  rw [show i - 1 + 1 = i by lia] at I
  obtain ⟨k, q1, q2, q3, q4⟩ := I.at_ (c - 1) _ c4;have w0 : wy ws i = ws i := if_neg h0;have w1 : wy ws (i + 1) = (ws i).take c ++ [(i : Int)] := (if_neg (by lia)).trans c5
  refine ⟨ah ts k ++ sr (ck ts i), c, ?_, ?_, fun x hx => ?_, by rw [w0]; exact c2, by rw [w0]; exact w1, c3, .inr ⟨c1, ?_⟩⟩
  ·unfold br
   rw [if_neg h0, q1, Int.toNat_natCast]
  ·rw [Str.length_append, jx, q3]
   lia
  ·rw [aL] at hx
   rcases List.mem_append.mp hx with z | z
   ·rcases xc e3 (k + 1) k (by lia) (by lia) x z with z | z
    ·exact .inl z
    ·exact .inr (.inl z)
   ·rcases xf _ x z with z | z | z
    ·exact .inr (.inr (.inl z))
    ·exact .inr (.inr (.inr (.inl z)))
    ·exact .inr (.inr (.inr (.inr z)))
  ·rw [w1, List.getElem?_append_left (by rw [List.length_take]; lia), List.getElem?_take_of_lt (by lia)]
   exact c4
theorem nP {ts : List Nd} {n i : Nat} {x : Str} (h : (av ts n)[i]? = some x) : i < n ∧ x = br ts i := by
 unfold av at h;rw [List.getElem?_map] at h;obtain ⟨j, hj, rfl⟩ := Option.map_eq_some_iff.mp h;have hi := (List.getElem?_eq_some_iff.mp hj).1;rw [List.length_range] at hi;rw [List.getElem?_range hi] at hj;cases hj;exact ⟨hi, rfl⟩
theorem nK {L : List Str} {i : Nat} {d : PyData} (h : (aO L)[i]? = some d) : ∃ x, L[i]? = some x ∧ d = .str x := by
 unfold aO at h;rw [List.getElem?_map] at h;obtain ⟨x, hx, rfl⟩ := Option.map_eq_some_iff.mp h;exact ⟨x, hx, rfl⟩
theorem qz {ts : List Nd} {i : Nat} (hi : i < ts.length) : (aB (ts.take i)).map OD.sh ++ [OD.sh (.tuple [.int (N3 ts i).e, .str (N3 ts i).l, .int (N3 ts i).t])] = (aB (ts.take (i + 1))).map OD.sh := by
 have : ts.take (i + 1) = ts.take i ++ [N3 ts i] := by
  rw [List.take_add_one, bK hi];rfl
 rw [this];unfold aB;rw [List.map_append, List.map_append];rfl
theorem rk {ts : List Nd} {way : List Int} (g : Grown 8 ts way) (hl : ts.length ≤ 40) : cX [.list (aO (av ts ts.length))] = .ok (.ol ((aB ts).map OD.sh)) := by
 unfold cX eI;obtain ⟨ws, W, _⟩ := gv g;have he : EL ts := g.elder;push_cast only [and_self];generalize hL : bA _ _ _ _ = r'
 refine gx hL (fun i ρ => i ≤ ts.length ∧ ∃ v3 v4 v5 v6 v7 : Option OD, ρ = [some (.sh (.list (aO (av ts ts.length)))), some (.ol ((aB (ts.take i)).map OD.sh)), some (.sh (.list ((wy ws i).map PyData.int))), v3, v4, v5, v6, v7]) ⟨Nat.zero_le _, _, _, _, _, _, rfl⟩ ?_ ?_
 ·rintro i d ρ hd ⟨_, v3, v4, v5, v6, v7, rfl⟩
  obtain ⟨x, hx, rfl⟩ := fR hd;obtain ⟨y, hy, rfl⟩ := nK hx;obtain ⟨hi, rfl⟩ := nP hy;obtain ⟨p, c, p1, p2, p3, p4, p5, p6, p7⟩ := eS W he hi;have ok := g.ok _ (List.mem_of_getElem? (bK hi));have ll := j3 (jI g.ok) hi;have rl : (br ts i).length = 2 * c + (cQ (N3 ts i)).length := by rw [p1, Str.length_append, p2]
  have wl : (wy ws i).length ≤ 9 := by
   unfold wy;split
   ·exact Nat.zero_le _
   ·have I := lg W he (i - 1) (by lia)
    rw [show i - 1 + 1 = i by lia] at I
    exact I.len
  have b1 : ((br ts i).length ≤ BIG) = True := aE (by lia)
  have b2 : ((cQ (N3 ts i)).length ≤ BIG) = True := aE (by lia)
  have b3 : ((N3 ts i).l.length ≤ BIG) = True := aE (by have := ok.1.2.1; lia)
  have t1 : Txt.lstripChars (br ts i) " |+'-" = cQ (N3 ts i) := by rw [p1]; exact vO p3 ok.1
  have t2 : Txt.rstripChars (cQ (N3 ts i)) ":" = (N3 ts i).l := wa ok.1;have s1 : ((br ts i).length : Int) - ((cQ (N3 ts i)).length : Int) = 2 * (c : Int) := by lia
  have s2 : (2 * (c : Int)) / 2 = (c : Int) := by lia
  have s3 : decide (((wy ws i).length : Int) < (c : Int)) = false := decide_eq_false (by lia)
  have s4 := uH ok;have lb : ((aB (ts.take i)).length < BIG) = True := by rw [bj, List.length_take]; exact hR (by lia)
  have lw : (((wy ws i).take c).length + 1 ≤ BIG) = True := aE (by rw [List.length_take]; lia)
  have w1 : ((wy ws i).take c).map PyData.int ++ [PyData.int (i : Int)] = (wy ws (i + 1)).map PyData.int := by rw [p5, List.map_append]; rfl
  have ct : cutD ((wy ws i).map PyData.int) none (some (c : Int)) = ((wy ws i).take c).map PyData.int := by rw [fm, List.map_take]
  have tt := qz hi;rcases p7 with ⟨c0, e0⟩ | ⟨c0, e0⟩
  ·have d0 : decide ((c : Int) = 0) = true := decide_eq_true (by lia)
   rw [e0] at tt;push_cast only [k9, kC, kA, kB, kW, b1, t1, b2, s1, s2, s3, t2, b3, ct, bW, lw, w1, d0, s4, lb, tt];exact ⟨by lia, _, _, _, _, _, rfl⟩
  ·have d0 : decide ((c : Int) = 0) = false := decide_eq_false (by lia)
   have at1 : atI ((wy ws (i + 1)).map PyData.int) ((c : Int) - 1) = some (.int (N3 ts i).e) := by
    rw [show (c : Int) - 1 = ((c - 1 : Nat) : Int) by lia]
    exact e_ (by rw [List.getElem?_map, e0]; rfl)
   push_cast only [k9, kC, kA, kB, kW, b1, t1, b2, s1, s2, s3, t2, b3, ct, bW, lw, w1, d0, at1, s4, lb, tt];exact ⟨by lia, _, _, _, _, _, rfl⟩
 ·rintro ρ' rfl ⟨_, v3, v4, v5, v6, v7, rfl⟩
  rw [ju, aU, bp, List.take_length];push_cast only [and_self]
theorem kc {ts : List Nd} {way : List Int} (g : Grown 8 ts way) {i : Nat} (hi : i < ts.length) : Asc (br ts i) := by
 obtain ⟨ws, W, _⟩ := gv g;obtain ⟨p, c, p1, p2, p3, p4, p5, p6, p7⟩ := eS W g.elder hi;have ok := g.ok _ (List.mem_of_getElem? (bK hi));have ll := j3 (jI g.ok) hi;constructor
 ·intro x hx
  rw [p1, aL] at hx;rcases List.mem_append.mp hx with z | z
  ·have := p3 x z
   lia
  ·unfold cQ at z
   rw [aL] at z;rcases List.mem_append.mp z with z | z
   ·have := ok.1.2.2 x z
    lia
   ·have := rX _ z
    lia
 ·rw [p1, Str.length_append, p2]
  lia
theorem gH {L : List Str} (h : ∀ x ∈ L, Asc x) : lay 1 (.list (aO L)) := uB fun x hx => by
 unfold aO at hx;obtain ⟨s, hs, rfl⟩ := List.mem_map.mp hx;exact pC (uh (h s hs))
theorem dU {ts : List Nd} {way : List Int} (g : Grown 8 ts way) : ∀ x ∈ av ts ts.length, Asc x := fun x hx => by
 obtain ⟨i, hi⟩ := List.getElem?_of_mem hx;obtain ⟨h1, rfl⟩ := nP hi;exact kc g h1
theorem nL {ts : List Nd} (h : ∀ n ∈ ts, mj n) : As ts := fun n hn => vq (h n hn).1
theorem yu {ts : List Nd} {way : List Int} (g : Grown 8 ts way) (hl : ts.length ≤ 40) : cI [.list (aB ts)] = .ok (.ol (fE (av ts ts.length))) := i8 ts (jG g.elder) (jI g.ok) g.pos.1 hl
theorem j7 {ts : List Nd} {way : List Int} (g : Grown 8 ts way) (hl : ts.length ≤ 40) : bF [.list (aO (av ts ts.length))] = .ok (.ol ((aB ts).map OD.sh)) := by
 unfold bF fK;have lk := rk g hl;have nm := zD ts (nL g.ok) (uf g hl);have hr := yu g hl;have ne := sR (gH (dU g));push_cast only [Aw, zc, lk, bW, nm, hr, gT, ne]
theorem nF (a : List Str) : ∀ b : List Str, PyData.eqvAll (aO a) (aO b) = decide (a = b) := by
 induction a with
 | nil =>
  intro b;cases b with
  | nil => rfl
  | cons y b => rfl
 | cons x a ih =>
  intro b;cases b with
  | nil => rfl
  | cons y b =>
   have e : PyData.eqvAll (aO (x :: a)) (aO (y :: b)) = (PyData.eqv (.str x) (.str y) && PyData.eqvAll (aO a) (aO b)) := rfl;rw [e, ih, show PyData.eqv (.str x) (.str y) = (x == y) from rfl]
   by_cases h1 : x = y
   ·by_cases h2 : a = b
    ·simp [h1, h2]
    ·simp [h1, h2]
   ·simp [h1]
instance decNd : DecidableEq Nd := fun a b => decidable_of_iff (a.e = b.e ∧ a.l = b.l ∧ a.t = b.t) (by
 cases a;cases b;constructor
 ·rintro ⟨h1, h2, h3⟩
  simp only at h1 h2 h3;rw [h1, h2, h3]
 ·intro h
  injection h with h1 h2 h3
  exact ⟨h1, h2, h3⟩)
theorem qd {n : Nat} {a b : List PyData} (h : lay n (.list a)) (h2 : lay n (.list b)) (hn : n ≤ 64) : gEq (.list a) (.list b) = .ok (.sh (.bool (PyData.eqvAll a b))) := by
 unfold gEq;rw [kE];unfold iN;rw [gZ h hn, gZ h2 hn, Bool.and_self, if_pos rfl];rfl
theorem lQ (g : Nat → Bool) (a b : Bool) (x : Str) : (Txt.stripBy g a b x).length ≤ x.length ∧ ∀ c ∈ (Txt.stripBy g a b x).cps.toList, c ∈ x.cps.toList := by
 unfold Txt.stripBy;split
 ·exact ⟨Nat.le_refl _, fun c h => h⟩
 ·unfold stripped
  have e : ∀ i j : Nat, (⟨x.cps.extract i j⟩ : Str).cps.toList = (x.cps.toList.drop i).take (j - i) := fun i j => by
   show (x.cps.extract i j).toList = _
   rw [Array.toList_extract, List.extract_eq_drop_take]
  refine ⟨?_, fun c h => ?_⟩
  ·rw [aT, aT]
   show (⟨x.cps.extract _ _⟩ : Str).cps.toList.length ≤ _
   rw [e, List.length_take, List.length_drop]
   lia
  ·have h' : c ∈ (⟨x.cps.extract _ _⟩ : Str).cps.toList := h
   rw [e] at h';exact List.mem_of_mem_drop (List.mem_of_mem_take h')
theorem tf (S : List Str) (h : ∀ x ∈ S, Asc x) (hl : S.length ≤ 80) : (∃ us, us.length = S.length ∧ As us ∧ cy [.list (aO S)] = .ok (.ol ((aB us).map OD.sh))) ∨ cy [.list (aO S)] = .ex "NoPicture" := by
 unfold cy eL;push_cast only [and_self];generalize hL : bA _ _ _ _ = r'
 refine tU hL (fun i ρ => i ≤ S.length ∧ ∃ (us : List Nd) (w : List Int) (v3 v4 v5 v6 v7 : Option OD), us.length = i ∧ As us ∧ w.length ≤ i ∧ ρ = [some (.sh (.list (aO S))), some (.ol ((aB us).map OD.sh)), some (.sh (.list (w.map PyData.int))), v3, v4, v5, v6, v7]) True "NoPicture" ⟨Nat.zero_le _, [], [], _, _, _, _, _, rfl, (fun n hn => by cases hn), Nat.le_refl _, rfl⟩ ?_ ?_ ?_
 ·rintro i d ρ hd ⟨_, us, w, v3, v4, v5, v6, v7, ul, ua, wl, rfl⟩
  obtain ⟨x, hx, rfl⟩ := fR hd;obtain ⟨y, hy, rfl⟩ := nK hx;have hi := (List.getElem?_eq_some_iff.mp hy).1;have ya := h y (List.mem_of_getElem? hy);have yl := ya.2;have q1 : (Txt.lstripChars y " |+'-").length ≤ y.length ∧ ∀ c ∈ (Txt.lstripChars y " |+'-").cps.toList, c ∈ y.cps.toList := lQ _ _ _ _
  generalize hs : Txt.lstripChars y " |+'-" = sg at q1
  have q2 : (Txt.rstripChars sg ":").length ≤ sg.length ∧ ∀ c ∈ (Txt.rstripChars sg ":").cps.toList, c ∈ sg.cps.toList := lQ _ _ _ _;generalize hr : Txt.rstripChars sg ":" = lb at q2
  have b1 : (y.length ≤ BIG) = True := aE (by lia)
  have b2 : (sg.length ≤ BIG) = True := aE (by lia)
  have b3 : (lb.length ≤ BIG) = True := aE (by lia)
  obtain ⟨d, hdd⟩ : ∃ d : Nat, y.length = sg.length + d := ⟨y.length - sg.length, by lia⟩
  have s1 : (y.length : Int) - (sg.length : Int) = (d : Int) := by lia
  have s2 : (d : Int) / 2 = ((d / 2 : Nat) : Int) := by lia
  generalize d / 2 = c at s2
  by_cases hc : (w.length : Int) < (c : Int)
  ·push_cast only [k9, kC, kA, kB, kW, b1, hs, b2, s1, s2, decide_eq_true hc, fg, fu, qk]
  ·have ll : ((aB us).length < BIG) = True := by rw [bj]; exact hR (by lia)
   have lw : ((w.take c).length + 1 ≤ BIG) = True := aE (by rw [List.length_take]; lia)
   have w1 : (w.take c).map PyData.int ++ [PyData.int (i : Int)] = (w.take c ++ [(i : Int)]).map PyData.int := by rw [List.map_append]; rfl
   have ct : cutD (w.map PyData.int) none (some (c : Int)) = (w.take c).map PyData.int := by rw [fm, List.map_take]
   have wl2 : (w.take c ++ [(i : Int)]).length ≤ i + 1 := by rw [List.length_append, List.length_take, List.length_singleton]; lia
   have st : ∀ z : Int, (aB us).map OD.sh ++ [OD.sh (.tuple [.int z, .str lb, .int ((sg.length : Int) - (lb.length : Int) + 1)])] = (aB (us ++ [⟨z, lb, (sg.length : Int) - (lb.length : Int) + 1⟩])).map OD.sh := fun z => by
    rw [iJ, List.map_append];rfl
   have ua2 : ∀ z : Int, As (us ++ [⟨z, lb, (sg.length : Int) - (lb.length : Int) + 1⟩]) := fun z n hn => by
    rcases List.mem_append.mp hn with hn | hn
    ·exact ua n hn
    ·rw [List.mem_singleton] at hn
     subst hn;exact ⟨fun c hc => ya.1 c (q1.2 c (q2.2 c hc)), by show lb.length ≤ 1000; lia⟩
   by_cases h0 : (c : Int) = 0
   ·push_cast only [k9, kC, kA, kB, kW, b1, hs, b2, s1, s2, decide_eq_false hc, hr, b3, ct, bW, lw, w1, decide_eq_true h0, ll, st, uF]
    exact ⟨by lia, _, _, _, _, _, _, _, by rw [List.length_append, ul]; rfl, ua2 _, wl2, rfl⟩
   ·obtain ⟨z, hz⟩ : ∃ z, (w.take c ++ [(i : Int)])[c - 1]? = some z := by
     have : c - 1 < (w.take c ++ [(i : Int)]).length := by rw [List.length_append, List.length_take]; lia
     exact ⟨_, List.getElem?_eq_getElem this⟩
    have at1 : atI ((w.take c ++ [(i : Int)]).map PyData.int) ((c : Int) - 1) = some (.int z) := by
     rw [show (c : Int) - 1 = ((c - 1 : Nat) : Int) by lia]
     exact e_ (by rw [List.getElem?_map, hz]; rfl)
    push_cast only [k9, kC, kA, kB, kW, b1, hs, b2, s1, s2, decide_eq_false hc, hr, b3, ct, bW, lw, w1, decide_eq_false h0, at1, ll, st, uF];exact ⟨by lia, _, _, _, _, _, _, _, by rw [List.length_append, ul]; rfl, ua2 _, wl2, rfl⟩
 ·rintro ρ' rfl ⟨_, us, w, v3, v4, v5, v6, v7, ul, ua, wl, rfl⟩
  left
  refine ⟨us, ?_, ua, ?_⟩
  ·rw [ul, ju, aU]
  ·push_cast only [and_self]
 ·rintro rfl _
  right
  push_cast only [fu, eQ]
theorem nz {us : List Nd} (v : Valid us) : EL us ∧ ∀ n ∈ us, mj n := by
 refine ⟨oZ v.row, fun n hn => ?_⟩
 obtain ⟨k, hk⟩ := List.getElem?_of_mem hn;have hlt := (List.getElem?_eq_some_iff.mp hk).1;have := v.row k hlt;rw [j6 hk, Bool.and_eq_true, Bool.and_eq_true] at this;obtain ⟨_, h1, h2⟩ := this;unfold kP at h1;rw [Bool.and_eq_true, List.all_eq_true] at h1;have a := of_decide_eq_true h1.1;have b := of_decide_eq_true h2;exact ⟨⟨by lia, by lia, fun c hc => of_decide_eq_true (h1.2 c hc)⟩, b.1, b.2⟩
theorem nR {ts : List Nd} (v : Valid ts) : ∀ m : Nat, m < ts.length → ∃ way, Grown 8 (ts.take (m + 1)) way ∧ way[way.length - 1]? = some (m : Int) ∧ (∀ (j : Nat) (x : Int), way[j]? = some x → 0 ≤ x ∧ (lvs ts)[x.toNat]? = some j) ∧ ∀ (j : Nat) (x : Int), way[j]? = some x → ∀ w : Int, fnd ts w x.toNat = true → ∃ i, i ≤ j ∧ way[i]? = some w := by
 obtain ⟨he, ok⟩ := nz v;intro m
 induction m with
 | zero =>
  intro h;have hn := bK h;have e0 := (he 0 _ hn).1 rfl;have tk : ts.take 1 = [N3 ts 0] := by
   rw [List.take_one];cases ts with
   | nil => simp at h
   | cons a r => rfl
  refine ⟨[0], ?_, rfl, fun j x hx => ?_, fun j x hx w hw => ?_⟩
  ·rw [tk]
   exact Grown.root (ok _ (List.mem_of_getElem? hn)) e0
  ·cases j with
   | zero =>
    cases hx;refine ⟨Int.le_refl _, ?_⟩;rw [show (0 : Int).toNat = 0 from rfl, j_ hn]
    unfold eO;rw [if_pos e0]
   | succ j => cases hx
  ·cases j with
   | zero =>
    cases hx;have := lM ts w 0 0 (Nat.le_refl _) hw;exact ⟨0, Nat.le_refl _, by rw [show w = 0 by lia]; rfl⟩
   | succ j => cases hx
 | succ m ih =>
  intro h;obtain ⟨way, g, la, lv, ch⟩ := ih (by lia)
  have hn := bK h;have okn := ok _ (List.mem_of_getElem? hn);have el := oQ (v.row (m + 1) h);unfold elB at el;rw [if_neg (by lia), Nat.add_sub_cancel] at el
  have eo : eOf ts (m + 1) = (N3 ts (m + 1)).e := mC hn;rw [eo] at el;obtain ⟨c0, hc0, hw0⟩ := ch (way.length - 1) _ la (N3 ts (m + 1)).e (by rw [Int.toNat_natCast]; exact el)
  have hlt := (List.getElem?_eq_some_iff.mp hw0).1;obtain ⟨e0, elv⟩ := lv c0 _ hw0;have er := he (m + 1) _ hn;have nlv : (lvs ts)[m + 1]? = some (c0 + 1) := by
   rw [j_ hn, ← kh];unfold eO;rw [if_neg (by lia), List.getElem?_take_of_lt (by lia), elv]
   rfl
  have c8 := v.lv _ _ nlv;have tl : (ts.take (m + 1)).length = m + 1 := by rw [List.length_take]; lia
  have tk : ts.take (m + 1 + 1) = ts.take (m + 1) ++ [N3 ts (m + 1)] := take_snoc hn;have g2 := Grown.step (c := c0 + 1) (n := N3 ts (m + 1)) g (by lia) (by lia) (by lia) okn (by rw [Nat.add_sub_cancel]; exact hw0)
  rw [← tk, tl] at g2;have wl : (way.take (c0 + 1)).length = c0 + 1 := by rw [List.length_take]; lia
  have at1 : ∀ (j : Nat) (x : Int), (way.take (c0 + 1) ++ [((m + 1 : Nat) : Int)])[j]? = some x → (j ≤ c0 ∧ way[j]? = some x) ∨ (j = c0 + 1 ∧ x = ((m + 1 : Nat) : Int)) := fun j x hx => by
   by_cases hj : j < c0 + 1
   ·rw [List.getElem?_append_left (by lia), List.getElem?_take_of_lt hj] at hx
    exact .inl ⟨by lia, hx⟩
   ·rw [List.getElem?_append_right (by lia), wl] at hx
    have := (List.getElem?_eq_some_iff.mp hx).1;rw [List.length_singleton] at this;rw [show j - (c0 + 1) = 0 by lia] at hx
    cases hx;exact .inr ⟨by lia, rfl⟩
  have at2 : ∀ j, j ≤ c0 → (way.take (c0 + 1) ++ [((m + 1 : Nat) : Int)])[j]? = way[j]? := fun j hj => by
   rw [List.getElem?_append_left (by lia), List.getElem?_take_of_lt (by lia)]
  refine ⟨_, g2, ?_, fun j x hx => ?_, fun j x hx w hw => ?_⟩
  ·rw [List.length_append, wl, List.length_singleton, Nat.add_sub_cancel, List.getElem?_append_right (by lia), wl, Nat.sub_self]
   rfl
  ·rcases at1 j x hx with ⟨hj, hx⟩ | ⟨hj, hx⟩
   ·exact lv j x hx
   ·subst hx hj
    exact ⟨by lia, by rw [Int.toNat_natCast]; exact nlv⟩
  ·rcases at1 j x hx with ⟨hj, hx⟩ | ⟨hj, hx⟩
   ·obtain ⟨i, i1, i2⟩ := ch j x hx w hw
    exact ⟨i, i1, by rw [at2 i (by lia)]; exact i2⟩
   ·subst hx hj
    rw [Int.toNat_natCast, ik] at hw;by_cases hz : ((m + 1 : Nat) : Int) = w
    ·exact ⟨c0 + 1, Nat.le_refl _, by rw [← hz, List.getElem?_append_right (by lia), wl, Nat.sub_self]; rfl⟩
    ·rw [if_neg hz, eo, if_pos (by have := er.2.2; lia)] at hw
     obtain ⟨i, i1, i2⟩ := ch c0 _ hw0 w hw;exact ⟨i, by lia, by rw [at2 i i1]; exact i2⟩
theorem jP {ts : List Nd} (v : Valid ts) : ∃ way, Grown 8 ts way := by
 have := v.l0;obtain ⟨way, g, _⟩ := nR v (ts.length - 1) (by lia)
 rw [show ts.length - 1 + 1 = ts.length by lia, List.take_length] at g
 exact ⟨way, g⟩
theorem u4 {n : Nat} {a b : List PyData} (h : lay n (.list a)) (h2 : lay n (.list b)) (hn : n ≤ 64) : gNe (.list a) (.list b) = .ok (.sh (.bool (!PyData.eqvAll a b))) := by
 have e := qd h h2 hn;unfold gEq at e;unfold gNe;generalize eqD (.list a) (.list b) = r at e
 cases r with
 | ok x =>
  cases e;rfl
 | ex c => cases e
 | bad => cases e
theorem EN {c : Str} {r : R (List OD)} : sE (.ex c) r = .ex c := rfl
theorem uT (S : List Str) (h : ∀ x ∈ S, Asc x) (hl : S.length ≤ 80) (no : ∀ us, Valid us → av us us.length ≠ S) : b9 [.list (aO S)] = .ex "NoPicture" := by
 unfold b9 fG;have c1 : (["NoTree"] : List Str).contains "NoPicture" = false := by decide +kernel
 have c2 : (["NoPicture"] : List Str).contains "NoPicture" = true := by decide +kernel
 have c3 : (["NoTree"] : List Str).contains "NoTree" = true := by decide +kernel
 rcases tf S h hl with ⟨us, ul, ua, lk⟩ | lk
 ·rcases zi us ua (by lia) with ⟨v, mt⟩ | ⟨v, mt⟩
  ·obtain ⟨he, ok⟩ := nz v
   have hr := i8 us (jG he) (jI ok) v.l0 v.l1;obtain ⟨way, gw⟩ := jP v;have ra := dU gw;have ne : gNe (.list (aO (av us us.length))) (.list (aO S)) = .ok (.sh (.bool true)) := by
    rw [u4 (gH ra) (gH h) (by decide), nF, decide_eq_false (no us v)]
    rfl
   push_cast only [lk, bW, mt, oV, yc, hr, gT, ne, fg, fu, eQ]
  ·push_cast only [lk, bW, mt, oV, sY, c1, c2, c3, fu, eQ]
 ·push_cast only [lk, EN, oV, sY, c1, c2, c3, fu, eQ]
noncomputable def sgB (c : Nat) : Bool := decide (c = 32 ∨ c = 124 ∨ c = 43 ∨ c = 39 ∨ c = 45)
noncomputable def ltB (c : Nat) : Bool := decide (97 ≤ c ∧ c ≤ 122)
structure RowL (L : List Nat) (c : Nat) (P lab : List Nat) (k : Nat) : Prop where
 eq : L = P ++ (lab ++ List.replicate k 58)
 len : P.length = 2 * c
 sg : ∀ x ∈ P, sgB x = true
 lt : ∀ x ∈ lab, ltB x = true
 l1 : 1 ≤ lab.length
 l9 : lab.length ≤ 9
 k8 : k ≤ 8
theorem rZ {x : Nat} (h : ltB x = true) : sgB x = false := by
 have := of_decide_eq_true h;exact decide_eq_false (by lia)
theorem RowL.head {L P lab : List Nat} {c k : Nat} (h : RowL L c P lab k) : ∀ x, (lab ++ List.replicate k 58).head? = some x → sgB x = false := fun x hx => by
 have l1 := h.l1;cases hl : lab with
 | nil => rw [hl] at l1; simp at l1
 | cons a r =>
  rw [hl] at hx;have hax : a = x := Option.some.inj hx;rw [← hax];exact rZ (h.lt a (by rw [hl]; exact List.mem_cons_self))
theorem RowL.pre {L P lab : List Nat} {c k : Nat} (h : RowL L c P lab k) : L.takeWhile sgB = P := by
 rw [h.eq];exact kU h.sg h.head
theorem gJ {P Q P' Q' : List Nat} (e : P ++ Q = P' ++ Q') (h1 : ∀ x ∈ P, sgB x = true) (h2 : ∀ x, Q.head? = some x → sgB x = false) (h3 : ∀ x ∈ P', sgB x = true) (h4 : ∀ x, Q'.head? = some x → sgB x = false) : P = P' ∧ Q = Q' := by
 have a := kU h1 h2;have b := kU h3 h4;rw [e, b] at a;subst a;exact ⟨rfl, List.append_cancel_left e⟩
theorem RowL.two {L P lab P' lab' : List Nat} {c k c' k' : Nat} (h : RowL L c P lab k) (h' : RowL L c' P' lab' k') : c = c' ∧ P = P' ∧ lab ++ List.replicate k 58 = lab' ++ List.replicate k' 58 := by
 obtain ⟨a, b⟩ := gJ (h.eq.symm.trans h'.eq) h.sg h.head h'.sg h'.head;refine ⟨?_, a, b⟩;have := congrArg List.length a;rw [h.len, h'.len] at this
 lia
theorem RowL.mem {L P lab : List Nat} {c k : Nat} (h : RowL L c P lab k) : ∀ x ∈ L, sgB x = true ∨ ltB x = true ∨ x = 58 := fun x hx => by
 rw [h.eq] at hx;rcases List.mem_append.mp hx with hx | hx
 ·exact .inl (h.sg x hx)
 ·rcases List.mem_append.mp hx with hx | hx
  ·exact .inr (.inl (h.lt x hx))
  ·exact .inr (.inr (List.mem_replicate.mp hx).2)
theorem RowL.last {L P lab : List Nat} {c k : Nat} (h : RowL L c P lab k) : ∀ x, L.getLast? = some x → ltB x = true ∨ x = 58 := fun x hx => by
 rw [h.eq] at hx;have l1 := h.l1;have ne : lab ++ List.replicate k 58 ≠ [] := fun z => by
  have := congrArg List.length z;rw [List.length_append] at this;simp at this
  have := this.1;rw [this] at l1;simp at l1
 have hm0 : x ∈ lab ++ List.replicate k 58 := by
  rw [List.getLast?_append, List.getLast?_eq_some_getLast ne] at hx;have : (lab ++ List.replicate k 58).getLast ne = x := Option.some.inj hx;rw [← this];exact List.getLast_mem ne
 rcases List.mem_append.mp hm0 with hm | hm
 ·exact .inl (h.lt x hm)
 ·exact .inr (List.mem_replicate.mp hm).2
theorem RowL.cols {L P lab : List Nat} {c k : Nat} (h : RowL L c P lab k) : L.count 58 = k := by
 rw [h.eq, List.count_append, List.count_append, List.count_replicate_self];have a : P.count 58 = 0 := List.count_eq_zero.mpr fun m => by have := h.sg 58 m; cases this
 have b : lab.count 58 = 0 := List.count_eq_zero.mpr fun m => by have := h.lt 58 m; cases this
 lia
theorem shape {us : List Nd} {way : List Int} (g : Grown 8 us way) {i : Nat} (hi : i < us.length) : ∃ P c, RowL (br us i).cps.toList c P (N3 us i).l.cps.toList ((N3 us i).t - 1).toNat ∧ c ≤ 8 ∧ (c = 0 ↔ i = 0) := by
 obtain ⟨ws, W, _⟩ := gv g;have he : EL us := g.elder;obtain ⟨p, c, p1, p2, p3, p4, p5, p6, p7⟩ := eS W he hi;have ok := g.ok _ (List.mem_of_getElem? (bK hi));refine ⟨p.cps.toList, c, ⟨?_, ?_, fun x hx => decide_eq_true (p3 x hx), fun x hx => decide_eq_true (ok.1.2.2 x hx), ?_, ?_, ?_⟩, p6, ?_⟩
 ·rw [p1, aL]
  unfold cQ;rw [aL, gY]
 ·rw [← aT, p2]
 ·rw [← aT]; exact ok.1.1
 ·rw [← aT]; exact ok.1.2.1
 ·have := ok.2.2; lia
 ·have e := he i _ (bK hi)
  rcases p7 with ⟨c0, e0⟩ | ⟨c0, e0⟩
  ·refine ⟨fun _ => ?_, fun _ => c0⟩
   by_cases h0 : i = 0
   ·exact h0
   ·have := e.2.1 (by lia); lia
  ·refine ⟨fun z => by lia, fun z => ?_⟩
   subst z;have q : wy ws 0 = [] := rfl;rw [q] at p4;simp at p4
   lia
noncomputable def NoT (S : List Str) : Prop := ∀ us, Valid us → av us us.length ≠ S
theorem noT {S : List Str} (h : ∀ us way, Valid us → Grown 8 us way → us.length = S.length → (∀ i, i < us.length → S[i]? = some (br us i)) → False) : NoT S := fun us v e => by
 obtain ⟨way, g⟩ := jP v;refine h us way v g (by rw [← e, bp]) fun i hi => ?_
 rw [← e];unfold av;rw [List.getElem?_map, List.getElem?_range hi];rfl
theorem gN {S : List Str} {i : Nat} {x : Str} (hi : S[i]? = some x) (h : ∀ c P lab k, RowL x.cps.toList c P lab k → c ≤ 8 → (c = 0 ↔ i = 0) → False) : NoT S := noT fun us way v g hl hr => by
 have hlt : i < us.length := by rw [hl]; exact (List.getElem?_eq_some_iff.mp hi).1
 have := hr i hlt;rw [hi] at this;cases this;obtain ⟨P, c, r, c8, c0⟩ := shape g hlt;exact h c P _ _ r c8 c0
noncomputable def Bad (x : Str) : Prop := ∀ c P lab k, ¬ RowL x.cps.toList c P lab k
theorem fW {S : List Str} {i : Nat} {x : Str} (hi : S[i]? = some x) (h : Bad x) : NoT S := gN hi fun c P lab k r _ _ => h c P lab k r
theorem qG (x : Str) : Bad (x ++ Str.ofString " ") := fun c P lab k r => by
 have e : (Str.ofString " ").cps.toList = [32] := by decide +kernel
 have := r.last 32 (by rw [aL, e, List.getLast?_append]; rfl)
 rcases this with h | h <;> cases h
theorem qe {x : Str} {c : Nat} {P lab : List Nat} {k : Nat} (r : RowL x.cps.toList c P lab k) : Bad (Str.ofString " " ++ x) := fun c' P' lab' k' r' => by
 have e : (Str.ofString " ").cps.toList = [32] := by decide +kernel
 have q := r'.eq;rw [aL, e, r.eq, ← List.append_assoc] at q;obtain ⟨a, _⟩ := gJ q (fun y hy => by
  rcases List.mem_append.mp hy with hy | hy
  ·rw [List.mem_singleton] at hy
   rw [hy];rfl
  ·exact r.sg y hy) r.head r'.sg r'.head
 have := congrArg List.length a;rw [List.length_append, r.len, r'.len, List.length_singleton] at this
 lia
theorem sv {x : Str} {y : Nat} (h : y ∈ x.cps.toList) (h1 : sgB y = false) (h2 : ltB y = false) (h3 : y ≠ 58) : Bad x := fun c P lab k r => by
 rcases r.mem y h with z | z | z
 ·rw [h1] at z; cases z
 ·rw [h2] at z; cases z
 ·exact h3 z
theorem sX {x : Str} {c : Nat} {P lab : List Nat} {k : Nat} (r : RowL x.cps.toList c P lab k) : Bad (x ++ Str.ofString "abcdefghij") := fun c' P' lab' k' r' => by
 have e : (Str.ofString "abcdefghij").cps.toList = [97, 98, 99, 100, 101, 102, 103, 104, 105, 106] := by decide +kernel
 have q := r'.eq;rw [aL, e, r.eq, List.append_assoc] at q;obtain ⟨_, b⟩ := gJ q r.sg (fun y hy => by
  have l1 := r.l1;cases hl : lab with
  | nil => rw [hl] at l1; simp at l1
  | cons a s =>
   rw [hl] at hy;have : a = y := Option.some.inj hy;rw [← this];exact rZ (r.lt a (by rw [hl]; exact List.mem_cons_self))) r'.sg r'.head
 have hk : k' = 0 := by
  cases k' with
  | zero => rfl
  | succ k' =>
   have z1 : (lab ++ List.replicate k 58 ++ [97, 98, 99, 100, 101, 102, 103, 104, 105, 106]).getLast? = some 106 := by rw [List.getLast?_append]; rfl
   have z2 : (lab' ++ List.replicate (k' + 1) 58).getLast? = some 58 := by
    rw [List.replicate_succ', ← List.append_assoc, List.getLast?_append];rfl
   rw [b, z2] at z1;cases z1
 rw [hk, List.replicate_zero, List.append_nil] at b;have := congrArg List.length b;rw [List.length_append, List.length_append] at this;have l9 := r'.l9;have : lab'.length = lab.length + (List.replicate k 58).length + 10 := this.symm
 lia
theorem oF {x : Str} (h : 9 ≤ x.cps.toList.count 58) : Bad x := fun c P lab k r => by
 have a := r.cols;have b := r.k8
 lia
theorem iy {x : Str} (h : x.cps.toList = []) : Bad x := fun c P lab k r => by
 have := congrArg List.length r.eq;rw [h, List.length_append, List.length_append] at this;have l1 := r.l1;simp at this
 lia
theorem sfx {a b : List Nat} {k k' : Nat} (ha : ∀ x ∈ a, ltB x = true) (hb : ∀ x ∈ b, ltB x = true) (e : a ++ List.replicate k 58 = b ++ List.replicate k' 58) : a = b ∧ k = k' := by
 have c := congrArg (List.count 58) e;have z : ∀ {l : List Nat}, (∀ x ∈ l, ltB x = true) → l.count 58 = 0 := fun h => List.count_eq_zero.mpr fun m => by have := h 58 m; cases this
 rw [List.count_append, List.count_append, List.count_replicate_self, List.count_replicate_self, z ha, z hb] at c;have hk : k = k' := by lia
 subst hk;exact ⟨List.append_cancel_right e, rfl⟩
theorem Av {a b : Nd} (h1 : a.e = b.e) (h2 : a.l = b.l) (h3 : a.t = b.t) : a = b := by
 cases a;cases b;cases h1;cases h2;cases h3;rfl
structure Alike (x y : Str) : Prop where
 ex : ∃ p q s : List Nat, x.cps.toList = p ++ s ∧ y.cps.toList = q ++ s ∧ p.length = q.length ∧ (∀ c ∈ p, sgB c = true) ∧ (∀ c ∈ q, sgB c = true) ∧ ∀ c, s.head? = some c → sgB c = false
theorem l_ {us ts : List Nd} {wu wt : Nat → List Int} (Wu : Ways us wu) (Wt : Ways ts wt) (hu : EL us) (ht : EL ts) (ou : ∀ n ∈ us, mj n) (ot : ∀ n ∈ ts, mj n) (m : Nat) (mu : m ≤ us.length) (mt : m ≤ ts.length) (h : ∀ i, i < m → Alike (br us i) (br ts i)) :
  ∀ i, i ≤ m → wy wu i = wy wt i ∧ ∀ j, j < i → N3 us j = N3 ts j := by
 intro i
 induction i with
 | zero => intro _; exact ⟨rfl, fun j hj => by lia⟩
 | succ i ih =>
  intro hi;obtain ⟨i1, i2⟩ := ih (by lia)
  obtain ⟨p, c, p1, p2, p3, p4, p5, p6, p7⟩ := eS Wu hu (i := i) (by lia)
  obtain ⟨q, d, q1, q2, q3, q4, q5, q6, q7⟩ := eS Wt ht (i := i) (by lia)
  obtain ⟨P, Q, s, a1, a2, a3, a4, a5, a6⟩ := (h i (by lia)).ex
  have okU := ou _ (List.mem_of_getElem? (bK (show i < us.length by lia)))
  have okT := ot _ (List.mem_of_getElem? (bK (show i < ts.length by lia)))
  rw [p1, aL] at a1;rw [q1, aL] at a2;obtain ⟨b1, b2⟩ := gJ a1 (fun x hx => decide_eq_true (p3 x hx)) (fun x hx => by have := iu okU.1 hx; exact decide_eq_false (by lia)) a4 a6
  obtain ⟨b3, b4⟩ := gJ a2 (fun x hx => decide_eq_true (q3 x hx)) (fun x hx => by have := iu okT.1 hx; exact decide_eq_false (by lia)) a5 a6
  have hc : c = d := by
   have e1 := congrArg List.length b1;have e2 := congrArg List.length b3;rw [← aT, p2] at e1;rw [← aT, q2] at e2
   lia
  subst hc;have sf := b2.trans b4.symm;unfold cQ at sf;rw [aL, aL, gY, gY] at sf;obtain ⟨s1, s2⟩ := sfx (fun x hx => decide_eq_true (okU.1.2.2 x hx)) (fun x hx => decide_eq_true (okT.1.2.2 x hx)) sf
  have w : wy wu (i + 1) = wy wt (i + 1) := by rw [p5, q5, i1]
  refine ⟨w, fun j hj => ?_⟩
  by_cases hji : j < i
  ·exact i2 j hji
  ·have : j = i := by lia
   subst this;refine Av ?_ (gR s1) (by have := okU.2.1; have := okT.2.1; lia)
   rcases p7 with ⟨c0, e0⟩ | ⟨c0, e0⟩
   ·rcases q7 with ⟨d0, f0⟩ | ⟨d0, f0⟩
    ·rw [e0, f0]
    ·lia
   ·rcases q7 with ⟨d0, f0⟩ | ⟨d0, f0⟩
    ·lia
    ·rw [w, f0] at e0
     exact (Option.some.inj e0).symm
theorem tN {a b : List Nd} (hl : a.length = b.length) (h : ∀ j, j < a.length → N3 a j = N3 b j) : a = b := by
 apply List.ext_getElem?
 intro i;by_cases hi : i < a.length
 ·rw [bK hi, bK (by lia), h i hi]
 ·rw [List.getElem?_eq_none (by lia), List.getElem?_eq_none (by lia)]
theorem lI {ts : List Nd} {way : List Int} (g : Grown 8 ts way) {S : List Str} (hl : S.length = ts.length) (h : ∀ i, i < ts.length → ∀ x, S[i]? = some x → Alike x (br ts i)) (ne : S ≠ av ts ts.length) : NoT S := noT fun us wu v gu ul hr => by
 obtain ⟨w1, W1, _⟩ := gv gu;obtain ⟨w2, W2, _⟩ := gv g;have e : us = ts := tN (by lia) fun j hj => (l_ W1 W2 gu.elder g.elder gu.ok g.ok us.length (Nat.le_refl _) (by lia) (fun i hi => h i (by lia) _ (hr i hi)) us.length (Nat.le_refl _)).2 j hj
 subst e;refine ne (List.ext_getElem? fun i => ?_)
 by_cases hi : i < us.length
 ·rw [hr i hi]
  unfold av;rw [List.getElem?_map, List.getElem?_range hi];rfl
 ·rw [List.getElem?_eq_none (by lia), List.getElem?_eq_none (by rw [bp]; lia)]
theorem rB {ts : List Nd} {ws : Nat → List Int} (W : Ways ts ws) : ∀ i, 1 ≤ i → i ≤ ts.length → ∀ (j : Nat) (x y : Int), (ws i)[j]? = some x → (ws i)[j + 1]? = some y → 0 ≤ y ∧ (N3 ts y.toNat).e = x := by
 intro i
 induction i with
 | zero => intro h; lia
 | succ i ih =>
  intro _ hi j x y hx hy;by_cases h0 : i = 0
  ·subst h0
   rw [W.one] at hy;cases hy
  ·obtain ⟨c, c1, c2, c3, c4, c5⟩ := W.step i (by lia) (by lia)
   have tl : ((ws i).take c).length = c := by rw [List.length_take]; lia
   rw [c5] at hx hy;have hjc : j + 1 ≤ c := by
    have := (List.getElem?_eq_some_iff.mp hy).1;rw [List.length_append, tl, List.length_singleton] at this
    lia
   rw [List.getElem?_append_left (by lia), List.getElem?_take_of_lt (by lia)] at hx
   by_cases hj : j + 1 < c
   ·rw [List.getElem?_append_left (by lia), List.getElem?_take_of_lt hj] at hy
    exact ih (by lia) (by lia) j x y hx hy
   ·have e : j + 1 = c := by lia
    rw [e, List.getElem?_append_right (by lia), tl, Nat.sub_self] at hy
    cases hy;rw [show j = c - 1 by lia, c4] at hx
    exact ⟨by lia, by rw [Int.toNat_natCast]; exact Option.some.inj hx⟩
theorem yV {a b : Bool} {x : Str} (h : (sr a ++ x).cps.toList = (sr b ++ x).cps.toList) : a = b := by
 rw [aL, aL] at h;have h := List.append_cancel_right h
 revert h
 cases a <;> cases b <;> decide +kernel
theorem wR {us ts : List Nd} (hu : EL us) (m : Nat) (mu : m ≤ us.length) (mt : m ≤ ts.length) (hn : ∀ k, k < m → N3 us k = N3 ts k) (hr : ∀ k, k < m → br us k = br ts k) : ∀ k, k < m → ah us k = ah ts k := by
 intro k
 induction k using Nat.strongRecOn with
 | _ k ih =>
  intro hk;by_cases h0 : k = 0
  ·subst h0
   rfl
  ·have e := hu k _ (bK (show k < us.length by lia))
   obtain ⟨j, hj⟩ : ∃ j : Nat, (N3 us k).e = (j : Int) := ⟨(N3 us k).e.toNat, by have := e.2.1 (by lia); lia⟩
   have jk : j < k := by have := e.2.2; lia
   have hj2 : (N3 ts k).e = (j : Int) := by rw [← hn k hk]; exact hj
   have r := hr k hk;unfold br at r;rw [if_neg h0, if_neg h0, hj, hj2, Int.toNat_natCast, ih j jk (by lia), hn k hk] at r
   have r2 := congrArg (fun s : Str => s.cps.toList) r
   have r3 : (ah ts j).cps.toList ++ (sr (ck us k) ++ cQ (N3 ts k)).cps.toList = (ah ts j).cps.toList ++ (sr (ck ts k) ++ cQ (N3 ts k)).cps.toList := by
    have a1 : ∀ b, (ah ts j ++ sr b ++ cQ (N3 ts k)).cps.toList = (ah ts j).cps.toList ++ (sr b ++ cQ (N3 ts k)).cps.toList := fun b => by rw [aL, aL, aL, List.append_assoc]
    rw [← a1, ← a1];exact r2
   have lb := yV (List.append_cancel_left r3);rw [eY hj jk, eY hj2 jk, ih j jk (by lia), lb]
theorem iR {ts : List Nd} {way : List Int} (g : Grown 8 ts way) {i : Nat} (hi : i < ts.length) : Alike (br ts i) (br ts i) := by
 obtain ⟨P, c, r, _, _⟩ := shape g hi;exact ⟨⟨P, P, _, r.eq, r.eq, rfl, r.sg, r.sg, r.head⟩⟩
theorem j8 {ts : List Nd} {way : List Int} (g : Grown 8 ts way) {i j : Nat} (hi : i < ts.length) (h0 : 0 < i) (hj : (N3 ts i).e = (j : Int)) : (br ts i).cps.toList = ((ah ts j).cps.toList ++ (sr (ck ts i)).cps.toList) ++ (cQ (N3 ts i)).cps.toList ∧ (∀ x ∈ (ah ts j).cps.toList ++ (sr (ck ts i)).cps.toList, sgB x = true) ∧ ∀ x, (cQ (N3 ts i)).cps.toList.head? = some x → sgB x = false := by
 have he : EL ts := g.elder;have ok := g.ok _ (List.mem_of_getElem? (bK hi));have e := he i _ (bK hi);have jk : j < i := by have := e.2.2; lia
 refine ⟨?_, fun x hx => ?_, fun x hx => ?_⟩
 ·unfold br
  rw [if_neg (by lia), hj, Int.toNat_natCast, aL, aL]
 ·rcases List.mem_append.mp hx with hx | hx
  ·rcases xc (jG he) (j + 1) j (by lia) (by lia) x hx with z | z
   ·exact decide_eq_true (.inl z)
   ·exact decide_eq_true (.inr (.inl z))
  ·rcases xf _ x hx with z | z | z
   ·exact decide_eq_true (.inr (.inr (.inl z)))
   ·exact decide_eq_true (.inr (.inr (.inr (.inl z))))
   ·exact decide_eq_true (.inr (.inr (.inr (.inr z))))
 ·have := iu ok.1 hx
  exact decide_eq_false (by lia)
theorem vt {ts : List Nd} {way : List Int} (g : Grown 8 ts way) {S : List Str} {a : Nat} (h0 : 0 < a) (ha : a < ts.length) (hl : S.length = ts.length) (hS : ∀ i, i < ts.length → i ≠ a → S[i]? = some (br ts i)) (hA : S[a]? = some (Str.ofString "  " ++ br ts a)) : NoT S := noT fun us wu v gu ul hr => by
 obtain ⟨w1, W1, _⟩ := gv gu;obtain ⟨w2, W2, _⟩ := gv g;have eqr : ∀ k, k < a → br us k = br ts k := fun k hk => by
  have x1 := hr k (by lia)
  rw [hS k (by lia) (by lia)] at x1
  exact (Option.some.inj x1).symm
 obtain ⟨wE, nE⟩ := l_ W1 W2 gu.elder g.elder gu.ok g.ok a (by lia) (by lia) (fun i hi => by rw [eqr i hi]; exact iR g (by lia)) a (Nat.le_refl _)
 have ahE := wR gu.elder a (by lia) (by lia) nE eqr
 obtain ⟨p, c, p1, p2, p3, p4, p5, p6, p7⟩ := eS W1 gu.elder (i := a) (by lia)
 obtain ⟨q, d, q1, q2, q3, q4, q5, q6, q7⟩ := eS W2 g.elder (i := a) ha;have eU := gu.elder a _ (bK (show a < us.length by lia))
 have eT := g.elder a _ (bK ha);obtain ⟨bu, hbu⟩ : ∃ j : Nat, (N3 us a).e = (j : Int) := ⟨(N3 us a).e.toNat, by have := eU.2.1 h0; lia⟩
 obtain ⟨bt, hbt⟩ : ∃ j : Nat, (N3 ts a).e = (j : Int) := ⟨(N3 ts a).e.toNat, by have := eT.2.1 h0; lia⟩
 obtain ⟨u1, u2, u3⟩ := j8 gu (show a < us.length by lia) h0 hbu
 obtain ⟨t1, t2, t3⟩ := j8 g ha h0 hbt;have e32 : (Str.ofString "  ").cps.toList = [32, 32] := by decide +kernel
 have hA2 : br us a = Str.ofString "  " ++ br ts a := by
  have x1 := hr a (by lia)
  rw [hA] at x1;exact (Option.some.inj x1).symm
 have hA3 := congrArg (fun s : Str => s.cps.toList) hA2
 have hA4 : ((ah us bu).cps.toList ++ (sr (ck us a)).cps.toList) ++ (cQ (N3 us a)).cps.toList = ([32, 32] ++ ((ah ts bt).cps.toList ++ (sr (ck ts a)).cps.toList)) ++ (cQ (N3 ts a)).cps.toList := by
  rw [← u1, List.append_assoc, ← t1, ← e32, ← aL];exact hA3
 obtain ⟨z1, _⟩ := gJ hA4 u2 u3 (fun x hx => by
  rcases List.mem_append.mp hx with hx | hx
  ·have : x = 32 := by simpa using hx
   rw [this];rfl
  ·exact t2 x hx) t3
 rw [← List.append_assoc] at z1;have srl : ∀ b, (sr b).cps.toList.length = 2 := fun b => by rw [← aT]; exact jx b
 obtain ⟨z2, _⟩ := List.append_inj' z1 (by rw [srl, srl])
 have al : ∀ {k : Nat} {x : List Int} (j : Nat), True := fun _ => trivial
 have hw : wy w1 a = w2 a := by rw [wE]; exact if_neg (by lia)
 have I := lg W2 g.elder (a - 1) (by lia)
 rw [show a - 1 + 1 = a by lia] at I
 have cd : c = d + 1 := by
  have y1 : p.cps.toList = (ah us bu).cps.toList ++ (sr (ck us a)).cps.toList := by
   have := congrArg (fun s : Str => s.cps.toList) p1
   have this : (br us a).cps.toList = (p ++ cQ (N3 us a)).cps.toList := this;rw [aL, u1] at this;exact (List.append_cancel_right this).symm
  have y2 : q.cps.toList = (ah ts bt).cps.toList ++ (sr (ck ts a)).cps.toList := by
   have := congrArg (fun s : Str => s.cps.toList) q1
   have this : (br ts a).cps.toList = (q ++ cQ (N3 ts a)).cps.toList := this;rw [aL, t1] at this;exact (List.append_cancel_right this).symm
  have l1 := congrArg List.length y1;have l2 := congrArg List.length y2;have l3 := congrArg List.length z2;rw [← aT, p2, List.length_append, srl] at l1;rw [← aT, q2, List.length_append, srl] at l2;rw [List.length_append] at l3;have : [32, 32].length = 2 := rfl
  lia
 rcases q7 with ⟨d0, f0⟩ | ⟨d0, f0⟩
 ·lia
 ·rcases p7 with ⟨c0, e0⟩ | ⟨c0, e0⟩
  ·lia
  ·have wt : wy w2 a = w2 a := if_neg (by lia)
   rw [q5, wt, List.getElem?_append_left (by rw [List.length_take, ← wt]; lia), List.getElem?_take_of_lt (by lia), hbt] at f0
   rw [hw] at p4;rw [p5, hw, List.getElem?_append_left (by rw [List.length_take]; lia), List.getElem?_take_of_lt (by lia), cd, Nat.add_sub_cancel, hbu] at e0
   have el := rB W2 a (by lia) (by lia) (d - 1) _ _ f0 (by rw [show d - 1 + 1 = d by lia]; exact e0)
   rw [Int.toNat_natCast] at el;obtain ⟨k, k1, k2, _⟩ := I.at_ d _ e0;have hb : bu < a := by lia
   have elb := g.elder bu _ (bK (show bu < ts.length by lia))
   have lf := il (ts := ts) (k := bu) ⟨a, hb, ha, by rw [hbt, el.2]⟩
   rw [ahE bu hb, eY el.2 (by have := elb.2.2; rw [el.2] at this; lia), lf, aL] at z2
   have c1 := congrArg (List.count 124) z2;rw [List.count_append, List.count_append] at c1;have c2 : (sg false).cps.toList.count 124 = 1 := by decide +kernel
   have c3 : [32, 32].count 124 = 0 := by decide
   lia
theorem jH (ts : List Nd) {k : Nat} (hk : k < ts.length) (hl : ts.length ≤ 40) : dJ [.list (aB ts), .int (k : Int)] = .ok (.sh (.bool (ck ts k))) := by
 unfold dJ fH;have s1 : (aZ ((k : Int) + 1) && aZ (ts.length : Int)) = true := by
  rw [jQ (by lia) (by lia), jQ (by lia) (by lia)]
  rfl
 have g1 := eu (bK hk);push_cast only [bj, s1];generalize hL : bA _ _ _ _ = r'
 refine sT hL (fun i ρ => ∃ v2 : Option OD, (∀ j, k < j → j < k + 1 + i → (N3 ts j).e ≠ (N3 ts k).e) ∧ ρ = [some (.sh (.list (aB ts))), some (.sh (.int (k : Int))), v2]) (fun x => x = .sh (.bool false) ∧ ck ts k = false) ⟨_, fun j h1 h2 => by lia, rfl⟩ ?_ ?_ ?_
 ·rintro i d ρ hd ⟨v2, hj, rfl⟩
  obtain ⟨hi, rfl⟩ := gf hd;have hi' : k + 1 + i < ts.length := by lia
  have e1 : (k : Int) + 1 + (i : Int) = ((k + 1 + i : Nat) : Int) := by lia
  rw [e1];have g2 := eu (bK hi');by_cases e : (N3 ts (k + 1 + i)).e = (N3 ts k).e
  ·have d1 := decide_eq_true e
   push_cast only [g1, g2, d1];exact il ⟨k + 1 + i, by lia, hi', e⟩
  ·have d1 := decide_eq_false e
   push_cast only [g1, g2, d1];refine ⟨_, fun j h1 h2 => ?_, rfl⟩
   by_cases z : j = k + 1 + i
   ·rw [z]; exact e
   ·exact hj j h1 (by lia)
 ·rintro ρ' rfl ⟨v2, hj, rfl⟩
  rw [gG] at hj;have : ck ts k = true := iQ.mpr fun j h1 h2 => hj j h1 (by lia)
  push_cast only [this]
 ·rintro x rfl ⟨rfl, h⟩
  push_cast only [h]
theorem uX (a b : Str) (t : Bool) : atI [PyData.str a, .str b] (if t then 1 else 0) = some (.str (if t then b else a)) := by cases t <;> rfl
theorem gn (ts : List Nd) (he : E3 ts) (ok : O3 ts) (hl : ts.length ≤ 40) : bY [.list (aB ts)] = .ok (.ol (fE (av ts ts.length))) := by
 unfold bY fL;have s2 : aZ (ts.length : Int) = true := jQ (by lia) (by lia)
 push_cast only [bj, s2];generalize hL : bA _ _ _ _ = r'
 refine gx hL (fun i ρ => ∃ v2 v3 v4 v5 : Option OD, ρ = [some (.sh (.list (aB ts))), some (.ol (fE (av ts i))), v2, v3, v4, v5]) ⟨_, _, _, _, rfl⟩ ?_ ?_
 ·rintro i d ρ hd ⟨v2, v3, v4, v5, rfl⟩
  obtain ⟨hi, rfl⟩ := gf hd;rw [Int.toNat_natCast] at hi;rw [Int.zero_add];have g1 := eu (bK hi);have o := ok i hi;have s3 : (aZ (1 : Int) && aZ (N3 ts i).t) = true := by
   rw [jQ (by lia) (by lia), jQ (by lia) (by lia)]
   rfl
  have lb : ((fE (av ts i)).length < BIG) = True := by rw [kQ, bp]; exact hR (by lia)
  have sn := jr (av ts i) (br ts i);rw [← iK] at sn;push_cast only [g1, s3];generalize hT : bA _ _ _ _ = rt
  refine gx hT (fun m ρ => ∃ v4 : Option OD, ρ = [some (.sh (.list (aB ts))), some (.ol (fE (av ts i))), some (.sh (.int (i : Int))), some (.sh (.str ((N3 ts i).l ++ Txt.mul cln (m : Int)))), v4, v5]) ⟨_, by rw [show Txt.mul cln ((0 : Nat) : Int) = Str.empty from rfl, Str.append_empty]⟩ ?_ ?_
  ·rintro m d ρ hd ⟨v4, rfl⟩
   obtain ⟨hm, rfl⟩ := gf hd;have lb2 : (((N3 ts i).l ++ Txt.mul cln (m : Int)).length + (Str.ofString ":").length ≤ BIG) = True := aE (by
    rw [Str.length_append, kf, show (Str.ofString ":").length = 1 from rfl, Int.toNat_natCast]; lia)
   have st : (N3 ts i).l ++ Txt.mul cln (m : Int) ++ Str.ofString ":" = (N3 ts i).l ++ Txt.mul cln ((m + 1 : Nat) : Int) := by
    rw [Str.append_assoc];exact congrArg _ (t_ m)
   push_cast only [lb2, st];exact ⟨_, rfl⟩
  ·rintro ρ' rfl ⟨v4', rfl⟩
   rw [gG];have et : (((((N3 ts i).t - 1).toNat : Nat)) : Int) = (N3 ts i).t - 1 := by lia
   rw [et];have el : (N3 ts i).l ++ Txt.mul cln ((N3 ts i).t - 1) = cQ (N3 ts i) := rfl;rw [el];by_cases hi0 : i = 0
   ·subst hi0
    have r0 : br ts 0 = cQ (N3 ts 0) := rfl;rw [r0] at sn;push_cast only [lb, sn];exact ⟨_, _, _, _, rfl⟩
   ·have b1 : decide ((0 : Int) < (i : Int)) = true := decide_eq_true (by lia)
    have ll := j3 ok hi;have eld := he i hi;obtain ⟨j, hj⟩ : ∃ j : Nat, (N3 ts i).e = (j : Int) := ⟨(N3 ts i).e.toNat, by have := eld.2.1 (by lia); lia⟩
    have ji : j < i := by have := eld.2.2; lia
    have la := jH ts hi hl;have tw := uX (Str.ofString "+-") (Str.ofString "'-") (ck ts i);have sw : (if ck ts i then Str.ofString "'-" else Str.ofString "+-") = sr (ck ts i) := rfl
    rw [sw] at tw;have c1 : ((sr (ck ts i)).length + (cQ (N3 ts i)).length ≤ BIG) = True := aE (by rw [jx]; lia)
    have full : br ts i = ah ts j ++ (sr (ck ts i) ++ cQ (N3 ts i)) := by
     unfold br;rw [if_neg hi0, hj, Int.toNat_natCast, Str.append_assoc]
    have al := o_ he (j + 1) j (by lia) (by lia)
    have fl : (br ts i).length ≤ 200 := by
     rw [full, Str.length_append, Str.length_append, jx]
     lia
    push_cast only [b1, la, tw, c1, g1, hj];generalize hW : fS _ _ _ = rw'
    refine pR hW (fun m ρ => ∃ x : Str, m < ts.length ∧ br ts i = ah ts m ++ x ∧ ρ = [some (.sh (.list (aB ts))), some (.ol (fE (av ts i))), some (.sh (.int (i : Int))), some (.sh (.str x)), v4', some (.sh (.int (m : Int)))]) j ⟨_, by lia, full, rfl⟩
     (fun ρ => ∃ v5 : Option OD, ρ = [some (.sh (.list (aB ts))), some (.ol (fE (av ts i))), some (.sh (.int (i : Int))), some (.sh (.str (br ts i))), v4', v5]) ?_ ?_
    ·rintro m ρ ⟨x, hm, hx, rfl⟩
     by_cases m0 : m = 0
     ·left
      subst m0;rw [mH, Str.empty_append] at hx;constructor
      ·push_cast only [and_self]
      ·exact ⟨_, by rw [hx]⟩
     ·right
      have em := he m hm;obtain ⟨u, hu⟩ : ∃ u : Nat, (N3 ts m).e = (u : Int) := ⟨(N3 ts m).e.toNat, by have := em.2.1 (by lia); lia⟩
      have um : u < m := by have := em.2.2; lia
      have b2 : decide ((0 : Int) < (m : Int)) = true := decide_eq_true (by lia)
      have lm := jH ts hm hl;have tw2 := uX (Str.ofString "| ") (Str.ofString "  ") (ck ts m)
      have sw2 : (if ck ts m then Str.ofString "  " else Str.ofString "| ") = sg (ck ts m) := rfl
      rw [sw2] at tw2;have xl := congrArg Str.length hx;rw [Str.length_append] at xl;have c2 : ((sg (ck ts m)).length + x.length ≤ BIG) = True := aE (by rw [kH]; lia)
      have gm := eu (bK hm);constructor
      ·push_cast only [b2]
      ·push_cast only [lm, tw2, c2, gm, hu]
       exact ⟨u, um, _, by lia, by rw [hx, eY hu um, Str.append_assoc], rfl⟩
    ·rintro ρ' rfl ⟨v5', rfl⟩
     push_cast only [lb, sn];exact ⟨_, _, _, _, rfl⟩
 ·rintro ρ' rfl ⟨v2, v3, v4, v5, rfl⟩
  rw [gG, Int.toNat_natCast];push_cast only [and_self]
theorem oS {d d' : Nat} (h : d ≤ d') {ts : List Nd} {way : List Int} (g : Grown d ts way) : Grown d' ts way := by
 induction g with
 | root h1 h2 => exact Grown.root h1 h2
 | step g h1 h2 h3 h4 h5 ih => exact Grown.step ih h1 h2 (by lia) h4 h5
theorem kT {S : List Str} (h : ∀ x ∈ S, Asc x) (hl : S.length ≤ 80) (no : NoT S) : cD [.list (aO S)] = .ok (.sh (.bool true)) := by
 unfold cD dZ;have r := uT S h hl no;have e : gEq (.list (aO S)) (.list (aO S)) = .ok (.sh (.bool true)) := uj (gH h);push_cast only [bW, xE, r, E8, ER, tY, e]
theorem o3 {S : List Str} (h : ∀ x ∈ S, Asc x) (hl : S.length ≤ 80) (no : NoT S) : dm [.list (aO S)] = .ok (.sh (.bool true)) := by
 unfold dm dX;have r := uT S h hl no;push_cast only [xE, r, tY]
theorem xw (x : Str) (k : Nat) (h : k ≤ x.length) : (Txt.slice x none (some (k : Int))).cps.toList = x.cps.toList.take k := by
 rw [beq_iff_eq.mp (PyProof.Rows.slice_closes_to (x := x) (j := (k : Int)) (by rw [← aT]; lia))]
 show (List.toArray _).toList = _
 simp
theorem p9 (x : Str) (k : Nat) (h : k ≤ x.length) : (Txt.slice x (some (k : Int)) none).cps.toList = x.cps.toList.drop k := by
 rw [PyProof.Rows.slice_from_eq (x := x) (i := (k : Int)) (b := (x.length : Int)) (by lia) (by lia) rfl]
 show (List.toArray _).toList = _
 rw [show ((k : Int)).toNat = k by lia]
 simp
 rw [List.take_of_length_le (by rw [List.length_drop, ← aT]; lia)]
noncomputable def Sw (a b : Nat) (x y : Str) : Prop := y = Str.ofString " " ++ x ∨ ∃ k c, x.cps.toList[k]? = some c ∧ (c = a ∨ c = b) ∧ (c ≠ 32 ∨ k % 2 = 0) ∧ y.cps.toList = x.cps.toList.take k ++ ((if c = a then b else a) :: x.cps.toList.drop (k + 1))
theorem lj {x : Str} (hx : Asc x) (x9 : x.length ≤ 100) {sgn : Str} {a b : Nat} (hab : a ≠ b) (hc : sgn.cps.toList = [a, b]) (hi : ∀ c, c < 128 → inS ⟨#[c]⟩ sgn = decide (c = a ∨ c = b)) (fa : Txt.find sgn ⟨#[a]⟩ = 0) (fb : Txt.find sgn ⟨#[b]⟩ = 1) (z : Int) (hz : 0 ≤ z) :
  ∃ y, cC [.str x, .str sgn, .int z] = .ok (.sh (.str y)) ∧ Sw a b x y := by
 unfold cC d6;have xl := hx.2;have lb : (x.length ≤ BIG) = True := aE (by lia)
 have s4 : aZ (x.length : Int) = true := jQ (by lia) (by lia)
 have ls : sgn.length = 2 := by rw [aT, hc]; rfl
 have lb2 : (2 ≤ BIG) = True := aE (by lia)
 push_cast only [lb, s4];generalize hL : bA _ _ _ _ = r'
 refine sT hL (fun i ρ => ∃ v3 v4 v5 : Option OD, ρ = [some (.sh (.str x)), some (.sh (.str sgn)), some (.sh (.int z)), v3, v4, v5]) (fun o => ∃ y, o = .sh (.str y) ∧ Sw a b x y) ⟨_, _, _, rfl⟩ ?_ ?_ ?_
 ·rintro i d ρ hd ⟨v3, v4, v5, rfl⟩
  obtain ⟨hi2, rfl⟩ := gf hd;have hpos : (0 : Int) < (x.length : Int) := by lia
  have m0 := df (z + (0 + (i : Int))) hpos;obtain ⟨k, hk⟩ : ∃ k : Nat, (z + (0 + (i : Int))) % (x.length : Int) = (k : Int) := ⟨((z + (0 + (i : Int))) % (x.length : Int)).toNat, by lia⟩
  have hkx : k < x.length := by lia
  have p1 : ((x.length : Int) < 1073741824) = True := eq_true (by lia)
  have p0 : ((0 : Int) < (x.length : Int)) = True := eq_true hpos;obtain ⟨c, hcc⟩ : ∃ c, x.cps.toList[k]? = some c := ⟨_, List.getElem?_eq_getElem (by rw [← aT]; exact hkx)⟩
  have a1 := e_ hcc;have c128 := hx.1 c (List.mem_of_getElem? hcc);have i1 := hi c c128;have i3 : decide ((⟨#[c]⟩ : Str) = Str.ofString " ") = decide (c = 32) := by
   have e : Str.ofString " " = ⟨#[32]⟩ := by decide +kernel
   rw [e];by_cases h : c = 32
   ·subst h
    rfl
   ·rw [decide_eq_false h]
    exact decide_eq_false fun w => h (by have := congrArg (fun s : Str => s.cps.toList) w; simpa using this)
  have ek : (k : Int) + 1 = ((k + 1 : Nat) : Int) := by lia
  by_cases h1 : c = a ∨ c = b
  ·have go : (c ≠ 32 ∨ k % 2 = 0) → ∃ y, Sw a b x y ∧ y = Txt.slice x none (some (k : Int)) ++ ⟨#[if c = a then b else a]⟩ ++ Txt.slice x (some ((k + 1 : Nat) : Int)) none := fun h2 => by
    refine ⟨_, .inr ⟨k, c, hcc, h1, h2, ?_⟩, rfl⟩;rw [aL, aL, xw x k (by lia), p9 x (k + 1) (by lia), List.append_assoc]
    rfl
   obtain ⟨f, hf, hf2⟩ : ∃ f : Int, Txt.find sgn ⟨#[c]⟩ = f ∧ atI sgn.cps.toList (1 - f) = some (if c = a then b else a) := by
    rw [hc];rcases h1 with h1 | h1
    ·subst h1
     refine ⟨0, fa, ?_⟩;rw [if_pos rfl];rfl
    ·subst h1
     refine ⟨1, fb, ?_⟩;rw [if_neg (fun w => hab w.symm)]
     rfl
   have fo : yd sgn ⟨#[c]⟩ = .int f := congrArg PyData.int hf;have b5 : ((Txt.slice x none (some (k : Int))).length + (⟨#[if c = a then b else a]⟩ : Str).length ≤ BIG) = True := aE (by have := Txt.slice_le x none (some (k : Int)); have : (⟨#[if c = a then b else a]⟩ : Str).length = 1 := rfl; lia)
   have b6 : ((Txt.slice x none (some (k : Int)) ++ ⟨#[if c = a then b else a]⟩ : Str).length + (Txt.slice x (some ((k + 1 : Nat) : Int)) none).length ≤ BIG) = True := aE (by
    have := Txt.slice_le x none (some (k : Int));have := Txt.slice_le x (some ((k + 1 : Nat) : Int)) none;have : (⟨#[if c = a then b else a]⟩ : Str).length = 1 := rfl
    rw [Str.length_append]
    lia)
   by_cases h2 : c = 32
   ·by_cases h3 : (k : Int) % 2 = 0
    ·obtain ⟨y, y1, y2⟩ := go (.inr (by lia))
     push_cast only [p0, p1, lb, hk, a1, Option.map_some, t9, i1, decide_eq_true h1, i3, decide_eq_true h2, decide_eq_true h3, k9, kC, kA, ls, lb2, fo, hf2, uM, ek, b5, b6];exact ⟨_, rfl, y2 ▸ y1⟩
    ·push_cast only [p0, p1, lb, hk, a1, Option.map_some, t9, i1, decide_eq_true h1, i3, decide_eq_true h2, decide_eq_false h3]
     exact ⟨_, _, _, rfl⟩
   ·obtain ⟨y, y1, y2⟩ := go (.inl h2)
    push_cast only [p0, p1, lb, hk, a1, Option.map_some, t9, i1, decide_eq_true h1, i3, decide_eq_false h2, k9, kC, kA, ls, lb2, fo, hf2, uM, ek, b5, b6];exact ⟨_, rfl, y2 ▸ y1⟩
  ·push_cast only [p0, p1, lb, hk, a1, Option.map_some, t9, i1, decide_eq_false h1]
   exact ⟨_, _, _, rfl⟩
 ·rintro ρ' rfl ⟨v3, v4, v5, rfl⟩
  have l1 : (Str.ofString " ").length = 1 := by decide +kernel
  have b1 : ((Str.ofString " ").length + x.length ≤ BIG) = True := aE (by lia)
  push_cast only [b1];exact ⟨_, rfl, .inl rfl⟩
 ·rintro o rfl ⟨y, rfl, hy⟩
  push_cast only [and_self];exact ⟨y, rfl, hy⟩
noncomputable def DU (c : Nat) : Prop := sgB c = false ∧ ltB c = false ∧ c ≠ 58
noncomputable def SpR (x y : Str) : Prop := y = x ++ Str.ofString " " ∨ y = Str.ofString " " ++ x ∨ y = Str.ofString "  " ++ x ∨ (∃ c ∈ y.cps.toList, DU c) ∨ Sw 43 39 x y ∨ Sw 124 32 x y ∨ y = x ++ Str.ofString "abcdefghij"
theorem gU {a b : Str} (ha : ∀ c ∈ a.cps.toList, c < 128) (hb : ∀ c ∈ b.cps.toList, c < 128) (hl : a.length + b.length ≤ 1000) : Asc (a ++ b) := ⟨fun c hc => by
 rw [aL] at hc;rcases List.mem_append.mp hc with h | h
 ·exact ha c h
 ·exact hb c h, by rw [Str.length_append]; exact hl⟩
theorem uO {a b : Nat} (ha : a < 128) (hb : b < 128) {x y : Str} (hx : Asc x) (x9 : x.length ≤ 100) (h : Sw a b x y) : Asc y := by
 rcases h with rfl | ⟨k, c, h1, h2, h3, h4⟩
 ·exact gU (fun c hc => by
   have e : (Str.ofString " ").cps.toList = [32] := by decide +kernel
   rw [e, List.mem_singleton] at hc
   lia) hx.1 (by rw [show (Str.ofString " ").length = 1 by decide +kernel]; lia)
 ·have hk := (List.getElem?_eq_some_iff.mp h1).1
  refine ⟨fun d hd => ?_, ?_⟩
  ·rw [h4] at hd
   rcases List.mem_append.mp hd with hd | hd
   ·exact hx.1 d (List.mem_of_mem_take hd)
   ·rcases List.mem_cons.mp hd with hd | hd
    ·rw [hd]
     split <;> assumption
    ·exact hx.1 d (List.mem_of_mem_drop hd)
  ·rw [aT, h4, List.length_append, List.length_cons, List.length_take, List.length_drop]
   rw [← aT] at hk ⊢
   lia
theorem t4 {z : Int} (h0 : 0 ≤ z) (h1 : z < 10) : ∃ c, atI (Str.ofString "AZ019_.=~{").cps.toList z = some c ∧ DU c ∧ c < 128 := by
 have all : ∀ r : Fin 10, ∃ c, atI (Str.ofString "AZ019_.=~{").cps.toList (r.val : Int) = some c ∧ (sgB c = false ∧ ltB c = false ∧ c ≠ 58) ∧ c < 128 := by
  intro r;have : (Str.ofString "AZ019_.=~{").cps.toList = [65, 90, 48, 49, 57, 95, 46, 61, 126, 123] := by decide +kernel
  rw [this]
  revert r
  intro r
  match r with
  | ⟨0, _⟩ => exact ⟨65, rfl, by decide, by decide⟩
  | ⟨1, _⟩ => exact ⟨90, rfl, by decide, by decide⟩
  | ⟨2, _⟩ => exact ⟨48, rfl, by decide, by decide⟩
  | ⟨3, _⟩ => exact ⟨49, rfl, by decide, by decide⟩
  | ⟨4, _⟩ => exact ⟨57, rfl, by decide, by decide⟩
  | ⟨5, _⟩ => exact ⟨95, rfl, by decide, by decide⟩
  | ⟨6, _⟩ => exact ⟨46, rfl, by decide, by decide⟩
  | ⟨7, _⟩ => exact ⟨61, rfl, by decide, by decide⟩
  | ⟨8, _⟩ => exact ⟨126, rfl, by decide, by decide⟩
  | ⟨9, _⟩ => exact ⟨123, rfl, by decide, by decide⟩
 have := all ⟨z.toNat, by lia⟩
 rw [show ((z.toNat : Nat) : Int) = z by lia] at this
 exact this
theorem yi (k : Fin 128) : inS ⟨#[k.val]⟩ (Str.ofString "+'") = decide (k.val = 43 ∨ k.val = 39) := by revert k; decide +kernel
theorem AJ (k : Fin 128) : inS ⟨#[k.val]⟩ (Str.ofString "| ") = decide (k.val = 124 ∨ k.val = 32) := by revert k; decide +kernel
theorem ky {x : Str} (hx : Asc x) (x9 : x.length ≤ 100) {z : Int} (hz : 0 ≤ z) : ∃ y, bX [.str x, .int z] = .ok (.sh (.str y)) ∧ SpR x y ∧ Asc y := by
 unfold bX cS;have l1 : (Str.ofString " ").length = 1 := by decide +kernel
 have l2 : (Str.ofString "  ").length = 2 := by decide +kernel
 have l10 : (Str.ofString "abcdefghij").length = 10 := by decide +kernel
 have a1 : ∀ c ∈ (Str.ofString " ").cps.toList, c < 128 := by decide +kernel
 have a2 : ∀ c ∈ (Str.ofString "  ").cps.toList, c < 128 := by decide +kernel
 have a10 : ∀ c ∈ (Str.ofString "abcdefghij").cps.toList, c < 128 := by decide +kernel
 have b0 : (x.length + (Str.ofString " ").length ≤ BIG) = True := aE (by lia)
 have b1 : ((Str.ofString " ").length + x.length ≤ BIG) = True := aE (by lia)
 have b2 : ((Str.ofString "  ").length + x.length ≤ BIG) = True := aE (by lia)
 have b10 : (x.length + (Str.ofString "abcdefghij").length ≤ BIG) = True := aE (by lia)
 have lb : (x.length ≤ BIG) = True := aE (by lia)
 have m6 := df z (show (0 : Int) < 6 by decide)
 have z6 : 0 ≤ z / 6 := by lia
 have k6 : z % 6 = 0 ∨ z % 6 = 1 ∨ z % 6 = 2 ∨ z % 6 = 3 ∨ z % 6 = 4 ∨ z % 6 = 5 := by lia
 rcases k6 with h | h | h | h | h | h
 ·push_cast only [h, b0]
  exact ⟨_, rfl, .inl rfl, gU hx.1 a1 (by lia)⟩
 ·have k2 : z / 6 % 2 = 0 ∨ z / 6 % 2 = 1 := by lia
  rcases k2 with h2 | h2
  ·have m1 : jO (.str (Str.ofString " ")) (.int 1) = .ok (.sh (.str (Str.ofString " "))) := by
    rw [o6 l1 (by decide) (by decide), show Txt.mul (Str.ofString " ") 1 = Str.ofString " " by decide +kernel]
   push_cast only [h, h2, m1, b1];exact ⟨_, rfl, .inr (.inl rfl), gU a1 hx.1 (by lia)⟩
  ·have m1 : jO (.str (Str.ofString " ")) (.int 2) = .ok (.sh (.str (Str.ofString "  "))) := by
    rw [o6 l1 (by decide) (by decide), show Txt.mul (Str.ofString " ") 2 = Str.ofString "  " by decide +kernel]
   push_cast only [h, h2, m1, b2];exact ⟨_, rfl, .inr (.inr (.inl rfl)), gU a2 hx.1 (by lia)⟩
 ·have hp : (0 : Int) < (x.length : Int) + 1 := by lia
  have m0 := df (z / 6) hp;obtain ⟨k, hk⟩ : ∃ k : Nat, z / 6 % ((x.length : Int) + 1) = (k : Int) := ⟨(z / 6 % ((x.length : Int) + 1)).toNat, by lia⟩
  have kx : k ≤ x.length := by lia
  have p0 : ((0 : Int) < (x.length : Int) + 1) = True := eq_true hp;have p1 : ((x.length : Int) + 1 < 1073741824) = True := eq_true (by lia)
  have m10 := df (z / 600) (show (0 : Int) < 10 by decide)
  obtain ⟨c, c1, c2, c3⟩ := t4 m10.1 m10.2;have ls : (Str.ofString "AZ019_.=~{").length = 10 := by decide +kernel
  have lb9 : (10 ≤ BIG) = True := aE (by lia)
  have q1 := Txt.slice_le x none (some (k : Int));have q2 := Txt.slice_le x (some (k : Int)) none;have q3 : (⟨#[c]⟩ : Str).length = 1 := rfl;have b5 : ((Txt.slice x none (some (k : Int))).length + (⟨#[c]⟩ : Str).length ≤ BIG) = True := aE (by lia)
  have b6 : ((Txt.slice x none (some (k : Int)) ++ ⟨#[c]⟩ : Str).length + (Txt.slice x (some (k : Int)) none).length ≤ BIG) = True := aE (by rw [Str.length_append]; lia)
  push_cast only [h, lb, p0, p1, hk, ls, lb9, c1, Option.map_some, uM, b5, b6];have s1 := xw x k kx;have s2 := p9 x k kx;refine ⟨_, rfl, .inr (.inr (.inr (.inl ⟨c, ?_, c2⟩))), gU (fun d hd => ?_) (fun d hd => ?_) (by rw [Str.length_append]; lia)⟩
  ·rw [aL, aL]
   exact List.mem_append_left _ (List.mem_append_right _ (List.mem_singleton.mpr rfl))
  ·rw [aL] at hd
   rcases List.mem_append.mp hd with hd | hd
   ·rw [s1] at hd
    exact hx.1 d (List.mem_of_mem_take hd)
   ·have : d = c := by simpa using hd
    lia
  ·rw [s2] at hd
   exact hx.1 d (List.mem_of_mem_drop hd)
 ·obtain ⟨y, y1, y2⟩ := lj hx x9 (sgn := Str.ofString "+'") (a := 43) (b := 39) (by decide) (by decide +kernel) (fun c hc => yi ⟨c, hc⟩) (by decide +kernel) (by decide +kernel) (z / 6) z6
  push_cast only [h, y1];exact ⟨_, rfl, .inr (.inr (.inr (.inr (.inl y2)))), uO (by decide) (by decide) hx x9 y2⟩
 ·obtain ⟨y, y1, y2⟩ := lj hx x9 (sgn := Str.ofString "| ") (a := 124) (b := 32) (by decide) (by decide +kernel) (fun c hc => AJ ⟨c, hc⟩) (by decide +kernel) (by decide +kernel) (z / 6) z6
  push_cast only [h, y1];exact ⟨_, rfl, .inr (.inr (.inr (.inr (.inr (.inl y2))))), uO (by decide) (by decide) hx x9 y2⟩
 ·push_cast only [h, b10]
  exact ⟨_, rfl, .inr (.inr (.inr (.inr (.inr (.inr rfl))))), gU hx.1 a10 (by lia)⟩
theorem eR {ts : List Nd} {n i : Nat} (h : i < n) : (av ts n)[i]? = some (br ts i) := by
 unfold av;rw [List.getElem?_map, List.getElem?_range h];rfl
noncomputable def jX (R : List Str) (a : Nat) (y : Str) : List Str := R.take a ++ [y] ++ R.drop (a + 1)
theorem iU {R : List Str} {a : Nat} (h : a < R.length) (y : Str) : (jX R a y).length = R.length := by
 unfold jX;rw [List.length_append, List.length_append, List.length_take, List.length_drop, List.length_singleton]
 lia
theorem pI {R : List Str} {a : Nat} (h : a < R.length) (y : Str) : (jX R a y)[a]? = some y := by
 unfold jX;rw [List.append_assoc, List.getElem?_append_right (by rw [List.length_take]; lia), List.length_take, show a - min a R.length = 0 by lia]
 rfl
theorem qh {R : List Str} {a i : Nat} (h : a < R.length) (y : Str) (hi : i ≠ a) : (jX R a y)[i]? = R[i]? := by
 unfold jX;have tl : (R.take a).length = a := by rw [List.length_take]; lia
 rw [List.append_assoc];by_cases h1 : i < a
 ·rw [List.getElem?_append_left (by lia), List.getElem?_take_of_lt h1]
 ·rw [List.getElem?_append_right (by lia), tl]
  obtain ⟨j, hj⟩ : ∃ j, i - a = j + 1 := ⟨i - a - 1, by lia⟩
  rw [hj];show (R.drop (a + 1))[j]? = _
  rw [List.getElem?_drop];congr 1
  lia
theorem tq {x y : Str} {c : Nat} {P lab : List Nat} {k : Nat} (r : RowL x.cps.toList c P lab k) {a b : Nat} (hab : a ≠ b) (ha : sgB a = true) (hb : sgB b = true) (h : Sw a b x y) : y = Str.ofString " " ++ x ∨ (Alike y x ∧ y ≠ x) := by
 rcases h with h | ⟨j, d, h1, h2, h3, h4⟩
 ·exact .inl h
 ·right
  have hd : sgB d = true := by rcases h2 with h | h <;> rw [h] <;> assumption
  have hj : j < P.length := by
   by_cases hj : j < P.length
   ·exact hj
   ·rw [r.eq, List.getElem?_append_right (by lia)] at h1
    rcases List.mem_append.mp (List.mem_of_getElem? h1) with m | m
    ·have := rZ (r.lt d m)
     rw [hd] at this;cases this
    ·have := (List.mem_replicate.mp m).2
     rw [this] at hd;cases hd
  have ho : sgB (if d = a then b else a) = true := by split <;> assumption
  have hy : y.cps.toList = (P.take j ++ ((if d = a then b else a) :: P.drop (j + 1))) ++ (lab ++ List.replicate k 58) := by
   rw [h4, r.eq, List.take_append_of_le_length (by lia), List.drop_append_of_le_length (by lia), List.append_assoc]
   rfl
  refine ⟨⟨⟨_, P, _, hy, r.eq, ?_, fun q hq => ?_, r.sg, r.head⟩⟩, fun e => ?_⟩
  ·rw [List.length_append, List.length_cons, List.length_take, List.length_drop]
   lia
  ·rcases List.mem_append.mp hq with hq | hq
   ·exact r.sg q (List.mem_of_mem_take hq)
   ·rcases List.mem_cons.mp hq with hq | hq
    ·rw [hq]
     exact ho
    ·exact r.sg q (List.mem_of_mem_drop hq)
  ·rw [e] at h4
   have hx : j < x.cps.toList.length := (List.getElem?_eq_some_iff.mp h1).1;have z := congrArg (fun l : List Nat => l[j]?) h4
   have z : x.cps.toList[j]? = (x.cps.toList.take j ++ ((if d = a then b else a) :: x.cps.toList.drop (j + 1)))[j]? := z
   rw [h1, List.getElem?_append_right (by rw [List.length_take]; lia), List.length_take, show j - min j x.cps.toList.length = 0 by lia] at z
   have z : d = if d = a then b else a := Option.some.inj z
   rcases h2 with h | h
   ·rw [if_pos h] at z
    exact hab (h.symm.trans z)
   ·rw [if_neg (fun w => hab (w.symm.trans h))] at z
    exact hab (z.symm.trans h)
theorem zh {ts : List Nd} {way : List Int} (g : Grown 8 ts way) {a : Nat} (ha : a < ts.length) {y : Str} (h : SpR (br ts a) y) : NoT (jX (av ts ts.length) a y) := by
 have rl : (av ts ts.length).length = ts.length := bp _ _;have ha' : a < (av ts ts.length).length := by lia
 have at1 := pI ha' y;obtain ⟨P, c, r, c8, c0⟩ := shape g ha;have sw : ∀ {u v : Nat}, u ≠ v → sgB u = true → sgB v = true → Sw u v (br ts a) y → NoT (jX (av ts ts.length) a y) := fun huv hu hv hs => by
  rcases tq r huv hu hv hs with e | ⟨al, ne⟩
  ·rw [e] at at1 ⊢
   exact fW at1 (qe r)
  ·refine lI g (by rw [iU ha', rl]) (fun i hi x hx => ?_) fun z => ?_
   ·by_cases hia : i = a
    ·subst hia
     rw [at1] at hx;cases hx;exact al
    ·rw [qh ha' y hia, eR hi] at hx
     cases hx;exact iR g hi
   ·rw [z, eR ha] at at1
    exact ne (Option.some.inj at1).symm
 rcases h with e | e | e | ⟨q, q1, q2, q3, q4⟩ | e | e | e
 ·rw [e] at at1 ⊢
  exact fW at1 (qG _)
 ·rw [e] at at1 ⊢
  exact fW at1 (qe r)
 ·by_cases h0 : a = 0
  ·rw [e] at at1 ⊢
   refine gN at1 fun c' P' lab' k' r' _ c0' => ?_
   have e32 : (Str.ofString "  ").cps.toList = [32, 32] := by decide +kernel
   have q := r'.eq;rw [aL, e32, r.eq, ← List.append_assoc] at q;obtain ⟨w, _⟩ := gJ q (fun x hx => by
    rcases List.mem_append.mp hx with hx | hx
    ·have : x = 32 := by simpa using hx
     rw [this];rfl
    ·exact r.sg x hx) r.head r'.sg r'.head
   have l := congrArg List.length w;rw [List.length_append, r'.len] at l;have : [32, 32].length = 2 := rfl;have := c0'.mpr h0
   lia
  ·rw [e] at at1 ⊢
   exact vt g (by lia) ha (by rw [iU ha', rl]) (fun i hi hia => by rw [qh ha' _ hia, eR hi]) at1
 ·exact fW at1 (sv q1 q2 q3 q4)
 ·exact sw (by decide) rfl rfl e
 ·exact sw (by decide) rfl rfl e
 ·rw [e] at at1 ⊢
  exact fW at1 (sX r)
theorem kg (R : List Str) (k : Nat) : (aO R).take k = aO (R.take k) := by unfold aO; rw [List.map_take]
theorem jd (R : List Str) (k : Nat) : (aO R).drop k = aO (R.drop k) := by unfold aO; rw [List.map_drop]
theorem gL (a b : List Str) : aO a ++ aO b = aO (a ++ b) := by unfold aO; rw [List.map_append]
theorem kq (x : Str) : [PyData.str x] = aO [x] := rfl
structure SpL (o : OD) : Prop where
 ex : ∃ S, o.er = .list (aO S) ∧ (∀ x ∈ S, Asc x) ∧ S.length ≤ 80 ∧ NoT S
theorem SpL.ol {S : List Str} (h1 : ∀ x ∈ S, Asc x) (h2 : S.length ≤ 80) (h3 : NoT S) : SpL (.ol ((aO S).map OD.sh)) := ⟨⟨S, by rw [xh, bW], h1, h2, h3⟩⟩
theorem qb {ts : List Nd} {way : List Int} (g : Grown 8 ts way) {i : Nat} (hi : i < ts.length) : (br ts i).length ≤ 40 := by
 obtain ⟨P, c, r, c8, _⟩ := shape g hi;rw [aT, r.eq, List.length_append, List.length_append, r.len, List.length_replicate];have := r.l9;have := r.k8
 lia
theorem ql {R : List Str} (h : ∀ x ∈ R, Asc x) {a : Nat} {y : Str} (hy : Asc y) : ∀ x ∈ jX R a y, Asc x := fun x hx => by
 unfold jX at hx;rcases List.mem_append.mp hx with hx | hx
 ·rcases List.mem_append.mp hx with hx | hx
  ·exact h x (List.mem_of_mem_take hx)
  ·rw [List.mem_singleton] at hx
   rw [hx];exact hy
 ·exact h x (List.mem_of_mem_drop hx)
theorem qU {ts : List Nd} {way : List Int} (g : Grown 8 ts way) (h2 : 2 ≤ ts.length) : NoT ((av ts ts.length).drop 1) := by
 obtain ⟨P, c, r, _, c0⟩ := shape g (show 1 < ts.length by lia)
 refine gN (i := 0) (x := br ts 1) (by rw [List.getElem?_drop]; exact eR (by lia)) fun c' P' lab' k' r' _ c0' => ?_
 have e := (r.two r').1;have := c0'.mpr rfl;have := c0.mp (by lia)
 lia
theorem rA {ts : List Nd} {way : List Int} (g : Grown 8 ts way) {a : Nat} (ha : a < ts.length) : NoT ((av ts ts.length).take (a + 1) ++ [br ts 0] ++ (av ts ts.length).drop (a + 1)) := by
 obtain ⟨P, c, r, _, c0⟩ := shape g (show 0 < ts.length by lia)
 have tl : ((av ts ts.length).take (a + 1)).length = a + 1 := by rw [List.length_take, bp]; lia
 refine gN (i := a + 1) (x := br ts 0) (by rw [List.append_assoc, List.getElem?_append_right (by lia), tl, Nat.sub_self]; rfl) fun c' P' lab' k' r' _ c0' => ?_
 have e := (r.two r').1;have := c0.mpr rfl;have := c0'.mp (by lia)
 lia
theorem tZ {S : List Str} (h : 40 < S.length) : NoT S := noT fun us way v g hl _ => by
 have := v.l1
 lia
theorem uL : NoT [] := noT fun us way v g hl _ => by
 have := v.l0;rw [hl] at this;simp at this
section
variable {ts : List Nd} {way : List Int}
theorem pH {z : Int} (h2 : 2 ≤ ts.length) : ∃ a : Nat, z / 12 % 1009 % (ts.length : Int) = (a : Int) ∧ a < ts.length := by
 have m := df (z / 12 % 1009) (show (0 : Int) < (ts.length : Int) by lia)
 exact ⟨(z / 12 % 1009 % (ts.length : Int)).toNat, by lia, by lia⟩
theorem sp6 (g : Grown 8 ts way) (h2 : 2 ≤ ts.length) (h12 : ts.length ≤ 12) {z : Int} (hz : z % 12 = 6) : ∃ o, aA [.list (aO (av ts ts.length)), .int z] = .ok o ∧ SpL o := by
 unfold aA bb;have ra := dU g;have rl : (av ts ts.length).length = ts.length := bp _ _;have p0 : ((0 : Int) < (ts.length : Int)) = True := eq_true (by lia)
 have p1 : ((ts.length : Int) < 1073741824) = True := eq_true (by lia)
 have ct : cutD (aO (av ts ts.length)) (some 1) none = aO ((av ts ts.length).drop 1) := by
  rw [← jd];exact ir _ 1 (by rw [aU, rl]; lia)
 push_cast only [hz, aU, rl, p0, p1, ct];exact ⟨_, rfl, .ol (fun x hx => ra x (List.mem_of_mem_drop hx)) (by rw [List.length_drop, rl]; lia) (qU g h2)⟩
theorem sp7 (g : Grown 8 ts way) (h2 : 2 ≤ ts.length) (h12 : ts.length ≤ 12) {z : Int} (hz : z % 12 = 7) : ∃ o, aA [.list (aO (av ts ts.length)), .int z] = .ok o ∧ SpL o := by
 unfold aA bb;have ra := dU g;have rl : (av ts ts.length).length = ts.length := bp _ _;have p0 : ((0 : Int) < (ts.length : Int)) = True := eq_true (by lia)
 have p1 : ((ts.length : Int) < 1073741824) = True := eq_true (by lia)
 obtain ⟨a, ea, ha⟩ := pH (ts := ts) (z := z) h2;have ej : (a : Int) + 1 = ((a + 1 : Nat) : Int) := by lia
 have c1 : cutD (aO (av ts ts.length)) none (some ((a + 1 : Nat) : Int)) = aO ((av ts ts.length).take (a + 1)) := by rw [fm, kg]
 have c2 : cutD (aO (av ts ts.length)) (some ((a + 1 : Nat) : Int)) none = aO ((av ts ts.length).drop (a + 1)) := by
  rw [← jd];exact ir _ (a + 1) (by rw [aU, rl]; lia)
 have g0 : atI (aO (av ts ts.length)) 0 = some (.str (br ts 0)) := jh (k := 0) (eR (by lia))
 have l1 : (((av ts ts.length).take (a + 1)).length + 1 ≤ BIG) = True := aE (by rw [List.length_take, rl]; lia)
 have l2 : (((av ts ts.length).take (a + 1) ++ [br ts 0]).length + ((av ts ts.length).drop (a + 1)).length ≤ BIG) = True := aE (by rw [List.length_append, List.length_take, List.length_drop, rl, List.length_singleton]; lia)
 push_cast only [hz, aU, rl, p0, p1, ea, ej, c1, c2, g0, bW, kq, gL, l1, l2];refine ⟨_, rfl, .ol (fun x hx => ?_) (by rw [List.length_append, List.length_append, List.length_take, List.length_drop, rl, List.length_singleton]; lia) (rA g ha)⟩
 rcases List.mem_append.mp hx with hx | hx
 ·rcases List.mem_append.mp hx with hx | hx
  ·exact ra x (List.mem_of_mem_take hx)
  ·rw [List.mem_singleton] at hx
   rw [hx];exact kc g (by lia)
 ·exact ra x (List.mem_of_mem_drop hx)
theorem Ew (g : Grown 8 ts way) (h2 : 2 ≤ ts.length) (h12 : ts.length ≤ 12) {z : Int} (hz : z % 12 = 11) : ∃ o, aA [.list (aO (av ts ts.length)), .int z] = .ok o ∧ SpL o := by
 unfold aA bb;have ra := dU g;have rl : (av ts ts.length).length = ts.length := bp _ _;have p0 : ((0 : Int) < (ts.length : Int)) = True := eq_true (by lia)
 have p1 : ((ts.length : Int) < 1073741824) = True := eq_true (by lia)
 obtain ⟨a, ea, ha⟩ := pH (ts := ts) (z := z) h2;have ej : (a : Int) + 1 = ((a + 1 : Nat) : Int) := by lia
 have c1 : cutD (aO (av ts ts.length)) none (some (a : Int)) = aO ((av ts ts.length).take a) := by rw [fm, kg]
 have c2 : cutD (aO (av ts ts.length)) (some ((a + 1 : Nat) : Int)) none = aO ((av ts ts.length).drop (a + 1)) := by
  rw [← jd];exact ir _ (a + 1) (by rw [aU, rl]; lia)
 have g0 : atI (aO (av ts ts.length)) (a : Int) = some (.str (br ts a)) := jh (eR ha);have x9 := qb g ha;have lc : (Str.ofString "::::::::::").length = 10 := by decide +kernel
 have cc : (Str.ofString "::::::::::").cps.toList = List.replicate 10 58 := by decide +kernel
 have l0 : ((br ts a).length + (Str.ofString "::::::::::").length ≤ BIG) = True := aE (by lia)
 have l1 : (((av ts ts.length).take a).length + 1 ≤ BIG) = True := aE (by rw [List.length_take, rl]; lia)
 have l2 : (((av ts ts.length).take a ++ [br ts a ++ Str.ofString "::::::::::"]).length + ((av ts ts.length).drop (a + 1)).length ≤ BIG) = True := aE (by rw [List.length_append, List.length_take, List.length_drop, rl, List.length_singleton]; lia)
 push_cast only [hz, aU, rl, p0, p1, ea, ej, c1, c2, g0, bW, l0, kq, gL, l1, l2];have ha' : a < (av ts ts.length).length := by lia
 have ya : Asc (br ts a ++ Str.ofString "::::::::::") := gU (kc g ha).1 (fun c hc => by rw [cc] at hc; have := (List.mem_replicate.mp hc).2; lia) (by lia)
 exact ⟨_, rfl, .ol (ql ra ya) (by have := iU ha' (br ts a ++ Str.ofString "::::::::::"); unfold jX at this; lia) (fW (pI ha' _) (oF (by rw [aL, cc, List.count_append, List.count_replicate_self]; lia)))⟩
theorem BY (g : Grown 8 ts way) (h2 : 2 ≤ ts.length) (h12 : ts.length ≤ 12) {z : Int} (z0 : 0 ≤ z) (hz : z % 12 < 6) : ∃ o, aA [.list (aO (av ts ts.length)), .int z] = .ok o ∧ SpL o := by
 unfold aA bb;have ra := dU g;have rl : (av ts ts.length).length = ts.length := bp _ _;have p0 : ((0 : Int) < (ts.length : Int)) = True := eq_true (by lia)
 have p1 : ((ts.length : Int) < 1073741824) = True := eq_true (by lia)
 obtain ⟨a, ea, ha⟩ := pH (ts := ts) (z := z) h2;have ej : (a : Int) + 1 = ((a + 1 : Nat) : Int) := by lia
 have c1 : cutD (aO (av ts ts.length)) none (some (a : Int)) = aO ((av ts ts.length).take a) := by rw [fm, kg]
 have c2 : cutD (aO (av ts ts.length)) (some ((a + 1 : Nat) : Int)) none = aO ((av ts ts.length).drop (a + 1)) := by
  rw [← jd];exact ir _ (a + 1) (by rw [aU, rl]; lia)
 have g0 : atI (aO (av ts ts.length)) (a : Int) = some (.str (br ts a)) := jh (eR ha);have x9 := qb g ha;obtain ⟨y, y1, y2, y3⟩ := ky (kc g ha) (by lia) (z := z / 12) (by lia)
 have l1 : (((av ts ts.length).take a).length + 1 ≤ BIG) = True := aE (by rw [List.length_take, rl]; lia)
 have l2 : (((av ts ts.length).take a ++ [y]).length + ((av ts ts.length).drop (a + 1)).length ≤ BIG) = True := aE (by rw [List.length_append, List.length_take, List.length_drop, rl, List.length_singleton]; lia)
 have n6 : decide (z % 12 = 6) = false := decide_eq_false (by lia)
 have n7 : decide (z % 12 = 7) = false := decide_eq_false (by lia)
 have n8 : decide (z % 12 = 8) = false := decide_eq_false (by lia)
 have n9 : decide (z % 12 = 9) = false := decide_eq_false (by lia)
 have n10 : decide (z % 12 = 10) = false := decide_eq_false (by lia)
 have n11 : decide (z % 12 = 11) = false := decide_eq_false (by lia)
 push_cast only [n6, n7, n8, n9, n10, n11, aU, rl, p0, p1, ea, ej, c1, c2, g0, bW, y1, kq, gL, l1, l2];have ha' : a < (av ts ts.length).length := by lia
 exact ⟨_, rfl, .ol (ql ra y3) (by have := iU ha' y; unfold jX at this; lia) (zh g ha y2)⟩
end
section
variable {ts : List Nd} {way : List Int}
theorem sp9 (h2 : 2 ≤ ts.length) (h12 : ts.length ≤ 12) {z : Int} (hz : z % 12 = 9) : ∃ o, aA [.list (aO (av ts ts.length)), .int z] = .ok o ∧ SpL o := by
 unfold aA bb;have rl : (av ts ts.length).length = ts.length := bp _ _;have p0 : ((0 : Int) < (ts.length : Int)) = True := eq_true (by lia)
 have p1 : ((ts.length : Int) < 1073741824) = True := eq_true (by lia)
 have m9 := df (z / 12) (show (0 : Int) < 9 by decide)
 obtain ⟨m, hm⟩ : ∃ m : Nat, 38 + z / 12 % 9 = (m : Int) := ⟨(38 + z / 12 % 9).toNat, by lia⟩
 have rp : ie (.list [.str (Str.ofString "+-c")]) (.int (m : Int)) = .ok (.ol ((aO (List.replicate m (Str.ofString "+-c"))).map OD.sh)) := by
  rw [pJ _ _ (by lia)]
  unfold aO;rw [List.map_replicate, List.map_replicate, List.map_replicate]
 have e1 : [PyData.str (Str.ofString "ab")] = aO [Str.ofString "ab"] := rfl;have e2 : [PyData.str (Str.ofString "+-d"), .str (Str.ofString "'-e")] = aO [Str.ofString "+-d", Str.ofString "'-e"] := rfl;have a1 : a_ (.list [.str (Str.ofString "ab")]) (.list (aO (List.replicate m (Str.ofString "+-c")))) = .ok (.ol ((aO (Str.ofString "ab" :: List.replicate m (Str.ofString "+-c"))).map OD.sh)) := by
  rw [e1, eN, gL, if_pos (of_eq_true (aE (by rw [aU, aU, List.length_replicate, List.length_singleton]; lia)))]
  rfl
 have a2 : a_ (.list (aO (Str.ofString "ab" :: List.replicate m (Str.ofString "+-c")))) (.list [.str (Str.ofString "+-d"), .str (Str.ofString "'-e")]) = .ok (.ol ((aO (Str.ofString "ab" :: (List.replicate m (Str.ofString "+-c") ++ [Str.ofString "+-d", Str.ofString "'-e"]))).map OD.sh)) := by
  rw [e2, eN, gL, if_pos (of_eq_true (aE (by rw [aU, aU, List.length_cons, List.length_replicate]; show m + 1 + 2 ≤ 1000; lia)))]
  rfl
 push_cast only [hz, aU, rl, p0, p1, hm, rp, bW, a1, a2, -eN];have sl : (Str.ofString "ab" :: (List.replicate m (Str.ofString "+-c") ++ [Str.ofString "+-d", Str.ofString "'-e"])).length = m + 3 := by
  rw [List.length_cons, List.length_append, List.length_replicate];show m + 2 + 1 = m + 3
  lia
 have asc : ∀ s : Str, (s = Str.ofString "ab" ∨ s = Str.ofString "+-c" ∨ s = Str.ofString "+-d" ∨ s = Str.ofString "'-e") → Asc s := fun s hs => by
  rcases hs with rfl | rfl | rfl | rfl <;> exact ⟨by decide +kernel, by decide +kernel⟩
 refine ⟨_, rfl, SpL.ol (fun x hx => asc x ?_) (by rw [sl]; lia) (tZ (by rw [sl]; lia))⟩
 rcases List.mem_cons.mp hx with hx | hx
 ·exact .inl hx
 ·rcases List.mem_append.mp hx with hx | hx
  ·exact .inr (.inl (List.mem_replicate.mp hx).2)
  ·simp only [List.mem_cons, List.not_mem_nil, or_false] at hx
   exact .inr (.inr hx)
end
noncomputable def lB (k : Nat) : Str := Txt.mul (Str.ofString "  ") (k : Int) ++ Str.ofString "'-ab"
theorem nt : ∀ k : Fin 9, (∀ c ∈ (lB k.val).cps.toList, c < 128) ∧ (lB k.val).length ≤ 1000 ∧ (Txt.mul (Str.ofString "  ") (k.val : Int)).length + (Str.ofString "'-ab").length ≤ 100 := by decide +kernel
theorem rJ : (lB 8).cps.toList.takeWhile sgB = List.replicate 16 32 ++ [39, 45] := by decide +kernel
section
variable {ts : List Nd} {way : List Int}
theorem sp8 (g : Grown 8 ts way) (h2 : 2 ≤ ts.length) (h12 : ts.length ≤ 12) {z : Int} (hz : z % 12 = 8) : ∃ o, aA [.list (aO (av ts ts.length)), .int z] = .ok o ∧ SpL o := by
 unfold aA bb;have ra := dU g;have rl : (av ts ts.length).length = ts.length := bp _ _;have p0 : ((0 : Int) < (ts.length : Int)) = True := eq_true (by lia)
 have p1 : ((ts.length : Int) < 1073741824) = True := eq_true (by lia)
 have s9 : aZ 9 = true := jQ (by decide) (by decide)
 push_cast only [hz, aU, rl, p0, p1, s9];generalize hC : fA _ _ _ _ _ _ = rc
 have e := pw hC (fun k : Nat => PyData.int (0 + (k : Int))) (fun k => OD.sh (.str (lB k))) (List.range 9) rfl (by decide) (by
  intro k hk;rw [List.mem_range] at hk;have a := nt ⟨k, hk⟩;have m := zA (x := Str.ofString "  ") (n := (k : Int)) (by decide +kernel) (by lia) (by lia)
  have l : ((Txt.mul (Str.ofString "  ") (k : Int)).length + (Str.ofString "'-ab").length ≤ BIG) = True := aE (by have q : (Txt.mul (Str.ofString "  ") (k : Int)).length + (Str.ofString "'-ab").length ≤ 100 := a.2.2; lia)
  have z0 : (0 : Int) + (k : Int) = (k : Int) := by lia
  push_cast only [z0, m, l];rfl)
 subst e;have e2 : ((List.range 9).map fun k => OD.sh (.str (lB k))).map OD.er = aO ((List.range 9).map lB) := by
  unfold aO;rw [List.map_map, List.map_map];exact List.map_congr_left fun k _ => g8 _
 have ln : ((List.range 9).map lB).length = 9 := by rw [List.length_map, List.length_range]
 have lb : (ts.length + 9 ≤ BIG) = True := aE (by lia)
 have ad : a_ (.list (aO (av ts ts.length))) (.list (aO ((List.range 9).map lB))) = .ok (.ol ((aO (av ts ts.length ++ (List.range 9).map lB)).map OD.sh)) := by
  rw [eN, gL, if_pos (by rw [aU, aU, rl, ln]; exact of_eq_true lb)]
 push_cast only [e2, ad, -eN];refine ⟨_, rfl, SpL.ol (fun x hx => ?_) (by rw [List.length_append, rl, ln]; lia) ?_⟩
 ·rcases List.mem_append.mp hx with hx | hx
  ·exact ra x hx
  ·obtain ⟨k, hk, rfl⟩ := List.mem_map.mp hx
   rw [List.mem_range] at hk;have a := nt ⟨k, hk⟩;exact ⟨a.1, a.2.1⟩
 ·refine gN (i := ts.length + 8) (x := lB 8) (by rw [List.getElem?_append_right (by lia), rl, Nat.add_sub_cancel_left]; rfl) fun c P lab k r c8 _ => ?_
  have q := r.pre;rw [rJ] at q;have l := congrArg List.length q;rw [r.len] at l;have : (List.replicate 16 32 ++ [39, 45]).length = 18 := rfl
  lia
end
theorem ke : (Str.ofString "").cps.toList = [] := by decide +kernel
theorem SpL.sh {S : List Str} (h1 : ∀ x ∈ S, Asc x) (h2 : S.length ≤ 80) (h3 : NoT S) : SpL (.sh (.list (aO S))) := ⟨⟨S, g8 _, h1, h2, h3⟩⟩
theorem i_ {s : Str} (h : (∀ c ∈ s.cps.toList, c < 128) ∧ s.length ≤ 1000) : Asc s := h
theorem qH : NoT [Str.ofString "'-ab"] := gN (i := 0) rfl fun c P lab k r _ c0 => by
 have q := r.pre;have e : (Str.ofString "'-ab").cps.toList.takeWhile sgB = [39, 45] := by decide +kernel
 rw [e] at q;have l := congrArg List.length q;rw [r.len] at l;have : [39, 45].length = 2 := rfl;have := c0.mpr rfl
 lia
theorem ur : NoT [Str.ofString " ab"] := gN (i := 0) rfl fun c P lab k r _ c0 => by
 have q := r.pre;have e : (Str.ofString " ab").cps.toList.takeWhile sgB = [32] := by decide +kernel
 rw [e] at q;have l := congrArg List.length q;rw [r.len] at l;have : [32].length = 1 := rfl
 lia
section
variable {ts : List Nd} {way : List Int}
theorem E4 (g : Grown 8 ts way) (h2 : 2 ≤ ts.length) (h12 : ts.length ≤ 12) {z : Int} (hz : z % 12 = 10) : ∃ o, aA [.list (aO (av ts ts.length)), .int z] = .ok o ∧ SpL o := by
 unfold aA bb;have ra := dU g;have rl : (av ts ts.length).length = ts.length := bp _ _;have p0 : ((0 : Int) < (ts.length : Int)) = True := eq_true (by lia)
 have p1 : ((ts.length : Int) < 1073741824) = True := eq_true (by lia)
 obtain ⟨a, ea, ha⟩ := pH (ts := ts) (z := z) h2;have ej : (a : Int) + 1 = ((a + 1 : Nat) : Int) := by lia
 have c1 : cutD (aO (av ts ts.length)) none (some ((a + 1 : Nat) : Int)) = aO ((av ts ts.length).take (a + 1)) := by rw [fm, kg]
 have c2 : cutD (aO (av ts ts.length)) (some ((a + 1 : Nat) : Int)) none = aO ((av ts ts.length).drop (a + 1)) := by
  rw [← jd];exact ir _ (a + 1) (by rw [aU, rl]; lia)
 have tl : ((av ts ts.length).take (a + 1)).length = a + 1 := by rw [List.length_take, rl]; lia
 have dl : ((av ts ts.length).drop (a + 1)).length = ts.length - (a + 1) := by rw [List.length_drop, rl]
 have a1 : a_ (.list (aO (av ts ts.length))) (.list [.str (Str.ofString "")]) = .ok (.ol ((aO (av ts ts.length ++ [Str.ofString ""])).map OD.sh)) := by
  rw [kq, eN, gL, if_pos (of_eq_true (aE (by rw [aU, aU, rl, List.length_singleton]; lia)))]
 have a2 : a_ (.list (aO ((av ts ts.length).take (a + 1)))) (.list [.str (Str.ofString "")]) = .ok (.ol ((aO ((av ts ts.length).take (a + 1) ++ [Str.ofString ""])).map OD.sh)) := by
  rw [kq, eN, gL, if_pos (of_eq_true (aE (by rw [aU, aU, tl, List.length_singleton]; lia)))]
 have a3 : a_ (.list (aO ((av ts ts.length).take (a + 1) ++ [Str.ofString ""]))) (.list (aO ((av ts ts.length).drop (a + 1)))) = .ok (.ol ((aO ((av ts ts.length).take (a + 1) ++ [Str.ofString ""] ++ (av ts ts.length).drop (a + 1))).map OD.sh)) := by
  rw [eN, gL, if_pos (of_eq_true (aE (by rw [aU, aU, List.length_append, tl, dl, List.length_singleton]; lia)))]
 have a4 : ∀ x0 x1 x2 x3 x4 x5 x6 x7 : PyData, a_ (.list [x0, x1, x2, x3, x4, x5, x6]) (.list [x7]) = .ok (.ol ([x0, x1, x2, x3, x4, x5, x6, x7].map OD.sh)) := fun x0 x1 x2 x3 x4 x5 x6 x7 => by
  rw [eN];exact if_pos (of_eq_true (aE (n := 8) (by decide)))
 have b7 : (7 ≤ BIG) = True := aE (by decide)
 have m8 := df (z / 12) (show (0 : Int) < 8 by decide)
 push_cast only [hz, aU, rl, p0, p1, ea, ej, c1, c2, bW, a1, a2, a3, a4, b7, -eN];have k8 : z / 12 % 8 = 0 ∨ z / 12 % 8 = 1 ∨ z / 12 % 8 = 2 ∨ z / 12 % 8 = 3 ∨ z / 12 % 8 = 4 ∨ z / 12 % 8 = 5 ∨ z / 12 % 8 = 6 ∨ z / 12 % 8 = 7 := by lia
 have i3 : ∀ x0 x1 x2 x3 x4 x5 x6 x7 : PyData, atI [x0, x1, x2, x3, x4, x5, x6, x7] 3 = some x3 := fun _ _ _ _ _ _ _ _ => rfl
 have i4 : ∀ x0 x1 x2 x3 x4 x5 x6 x7 : PyData, atI [x0, x1, x2, x3, x4, x5, x6, x7] 4 = some x4 := fun _ _ _ _ _ _ _ _ => rfl
 have i5 : ∀ x0 x1 x2 x3 x4 x5 x6 x7 : PyData, atI [x0, x1, x2, x3, x4, x5, x6, x7] 5 = some x5 := fun _ _ _ _ _ _ _ _ => rfl
 have i6 : ∀ x0 x1 x2 x3 x4 x5 x6 x7 : PyData, atI [x0, x1, x2, x3, x4, x5, x6, x7] 6 = some x6 := fun _ _ _ _ _ _ _ _ => rfl
 have i7 : ∀ x0 x1 x2 x3 x4 x5 x6 x7 : PyData, atI [x0, x1, x2, x3, x4, x5, x6, x7] 7 = some x7 := fun _ _ _ _ _ _ _ _ => rfl
 have e0 : Asc (Str.ofString "") := i_ (by decide +kernel)
 rcases k8 with h | h | h | h | h | h | h | h
 ·push_cast only [h]
  exact ⟨_, rfl, SpL.sh (S := []) (fun x hx => by cases hx) (by decide) uL⟩
 ·push_cast only [h]
  exact ⟨_, rfl, SpL.sh (S := [Str.ofString ""]) (fun x hx => by rw [List.mem_singleton.mp hx]; exact e0) (by decide) (fW (i := 0) rfl (iy ke))⟩
 ·push_cast only [h]
  exact ⟨_, rfl, SpL.sh (S := [Str.ofString "", Str.ofString "ab"]) (fun x hx => by
   simp only [List.mem_cons, List.not_mem_nil, or_false] at hx;rcases hx with rfl | rfl
   ·exact e0
   ·exact i_ (by decide +kernel)) (by decide) (fW (i := 0) rfl (iy ke))⟩
 ·push_cast only [h, i3]
  exact ⟨_, rfl, SpL.sh (S := [Str.ofString "'-ab"]) (fun x hx => by rw [List.mem_singleton.mp hx]; exact i_ (by decide +kernel)) (by decide) qH⟩
 ·push_cast only [h, i4]
  exact ⟨_, rfl, SpL.sh (S := [Str.ofString " ab"]) (fun x hx => by rw [List.mem_singleton.mp hx]; exact i_ (by decide +kernel)) (by decide) ur⟩
 ·push_cast only [h, i5]
  exact ⟨_, rfl, SpL.sh (S := [Str.ofString "ab::::::::::"]) (fun x hx => by rw [List.mem_singleton.mp hx]; exact i_ (by decide +kernel)) (by decide) (fW (i := 0) rfl (oF (by decide +kernel)))⟩
 ·push_cast only [h, i6]
  refine ⟨_, rfl, SpL.sh (fun x hx => ?_) (by rw [List.length_append, rl, List.length_singleton]; lia) (fW (i := ts.length) (x := Str.ofString "") (by rw [List.getElem?_append_right (by lia), rl, Nat.sub_self]; rfl) (iy ke))⟩
  rcases List.mem_append.mp hx with hx | hx
  ·exact ra x hx
  ·rw [List.mem_singleton.mp hx]
   exact e0
 ·push_cast only [h, i7]
  refine ⟨_, rfl, SpL.sh (fun x hx => ?_) (by rw [List.length_append, List.length_append, tl, dl, List.length_singleton]; lia) (fW (i := a + 1) (x := Str.ofString "") (by rw [List.append_assoc, List.getElem?_append_right (by lia), tl, Nat.sub_self]; rfl) (iy ke))⟩
  rcases List.mem_append.mp hx with hx | hx
  ·rcases List.mem_append.mp hx with hx | hx
   ·exact ra x (List.mem_of_mem_take hx)
   ·rw [List.mem_singleton.mp hx]
    exact e0
  ·exact ra x (List.mem_of_mem_drop hx)
end
noncomputable def lnN (k : Nat) : Nd := ⟨(k : Int) - 1, Str.ofString "abcdefghi", 9⟩
noncomputable def jN : List Nd := (List.range 9).map lnN
theorem sP : gD (Str.ofString "abcdefghi") := by
 unfold gD;decide +kernel
theorem Ce : gD (Str.ofString "a") := by
 unfold gD;decide +kernel
theorem yw : gD (Str.ofString "bc") := by
 unfold gD;decide +kernel
theorem oP : ∀ m, m ≤ 8 → Grown 8 ((List.range (m + 1)).map lnN) ((List.range (m + 1)).map fun k : Nat => (k : Int)) := by
 intro m
 induction m with
 | zero => exact fun _ => Grown.root (n := lnN 0) ⟨sP, by decide, by decide⟩ rfl
 | succ m ih =>
  intro hm;have g := ih (by lia)
  have wl : ((List.range (m + 1)).map fun k : Nat => (k : Int)).length = m + 1 := by rw [List.length_map, List.length_range]
  have nl : ((List.range (m + 1)).map lnN).length = m + 1 := by rw [List.length_map, List.length_range]
  have q := Grown.step (c := m + 1) (n := lnN (m + 1)) g (by lia) (by lia) (by lia) ⟨sP, (show (1 : Int) ≤ 9 by decide), (show (9 : Int) ≤ 9 by decide)⟩ (by
   rw [Nat.add_sub_cancel, List.getElem?_map, List.getElem?_range (by lia)]
   show some (m : Int) = some (((m + 1 : Nat) : Int) - 1)
   congr 1
   lia)
  rw [List.take_of_length_le (by lia), nl] at q
  rw [List.range_succ, List.map_append, List.map_append];exact q
theorem wN : Grown 8 jN ((List.range 9).map fun k : Nat => (k : Int)) := oP 8 (Nat.le_refl _)
theorem sL : jN.length = 9 := rfl
noncomputable def stN : Nd := ⟨0, Str.ofString "bc", 2⟩
noncomputable def rtN : Nd := ⟨-1, Str.ofString "a", 1⟩
noncomputable def km : List Nd := List.replicate 39 stN
noncomputable def k7 : List Nd := rtN :: km
theorem o7 : ∀ m, ∃ w, Grown 8 (rtN :: List.replicate m stN) w ∧ w[0]? = some 0 := by
 intro m
 induction m with
 | zero => exact ⟨_, Grown.root (n := rtN) ⟨Ce, by decide, by decide⟩ rfl, rfl⟩
 | succ m ih =>
  obtain ⟨w, g, h0⟩ := ih;have hw := (List.getElem?_eq_some_iff.mp h0).1;have q := Grown.step (c := 1) (n := stN) g (by lia) (by lia) (by lia) ⟨yw, by decide, by decide⟩ h0
  rw [List.replicate_succ', ← List.cons_append];refine ⟨_, q, ?_⟩
  ·rw [List.getElem?_append_left (by rw [List.length_take]; lia), List.getElem?_take_of_lt (by lia)]
   exact h0
theorem sx : k7.length = 40 := by
 unfold k7 km;rw [List.length_cons, List.length_replicate]
theorem rL : dW [] = .ok (.sh (.bool true)) := by
 unfold dW e7;obtain ⟨w, gs, _⟩ := o7 39;have gs : Grown 8 k7 w := gs;have gl := wN;have l9 : jN.length ≤ 40 := by rw [sL]; decide
 have l40 : k7.length ≤ 40 := by rw [sx]; decide
 have h1 := gn jN (jG gl.elder) (jI gl.ok) l9;have h2 := gn k7 (jG gs.elder) (jI gs.ok) l40;have r1 := j7 gl l9;have r2 := j7 gs l40;have q1 := j9 jN (nL gl.ok) (by lia)
 have q2 := j9 k7 (nL gs.ok) (by lia)
 have c1 : jg (iR1 (eC (.int 9))) (gNm 0) jJ (lh (aj (eOp fT (ag 0) (eC (.int 1))) (aj (eC (.str "abcdefghi")) (aj (eC (.int 9)) ax)))) 1 [] [none, none] = .ok (.ol ((aB jN).map OD.sh)) := by
  have s9 : aZ 9 = true := jQ (by lia) (by lia)
  push_cast only [s9];generalize hC : fA _ _ _ _ _ _ = rc
  have e := pw hC (fun k : Nat => PyData.int (0 + (k : Int))) (fun k : Nat => OD.sh (ndD (lnN k))) (List.range 9) rfl (by rw [List.length_range]; exact of_eq_true (aE (by lia))) (by
   intro k hk;push_cast only [Int.zero_add];rfl)
  subst e;have e2 : (List.range 9).map (fun k : Nat => OD.sh (ndD (lnN k))) = (aB jN).map OD.sh := by
   unfold aB jN;rw [List.map_map, List.map_map];rfl
  rw [e2];push_cast only [and_self]
 have m1 : ie (.list [.tuple [.int 0, .str (Str.ofString "bc"), .int 2]]) (.int 39) = .ok (.ol ((aB km).map OD.sh)) := by
  have q := pJ (.tuple [.int 0, .str (Str.ofString "bc"), .int 2]) 39 (by decide)
  have e : (aB km) = List.replicate 39 (.tuple [.int 0, .str (Str.ofString "bc"), .int 2]) := by
   unfold aB km;rw [List.map_replicate];rfl
  rw [e];exact q
 have a1 : a_ (.list [.tuple [.int (-1), .str (Str.ofString "a"), .int 1]]) (.list (aB km)) = .ok (.ol ((aB k7).map OD.sh)) := by
  have e : [PyData.tuple [.int (-1), .str (Str.ofString "a"), .int 1]] = aB [rtN] := rfl;rw [e, eN, xZ, if_pos (of_eq_true (aE (by rw [bj, bj]; unfold km; rw [List.length_replicate]; decide)))]
  rfl
 push_cast only [↓c1, bW, m1, a1, h1, gT, r1, q1, h2, r2, q2, -eN]
theorem wF {us ts : List Nd} (hu : EL us) (hl : us.length ≤ ts.length) (hn : ∀ k, k < us.length → N3 us k = N3 ts k) : ∀ k, k < us.length → (ah us k).length = (ah ts k).length := by
 intro k
 induction k using Nat.strongRecOn with
 | _ k ih =>
  intro hk;by_cases h0 : k = 0
  ·subst h0
   rfl
  ·have e := hu k _ (bK hk)
   obtain ⟨j, hj⟩ : ∃ j : Nat, (N3 us k).e = (j : Int) := ⟨(N3 us k).e.toNat, by have := e.2.1 (by lia); lia⟩
   have jk : j < k := by have := e.2.2; lia
   have hj2 : (N3 ts k).e = (j : Int) := by rw [← hn k hk]; exact hj
   rw [eY hj jk, eY hj2 jk, Str.length_append, Str.length_append, kH, kH, ih j jk (by lia)]
theorem pf {us ts : List Nd} {wu wt : List Int} (gu : Grown 8 us wu) (gt : Grown 8 ts wt) (hl : us.length ≤ ts.length) (hn : ∀ k, k < us.length → N3 us k = N3 ts k) {i : Nat} (hi : i < us.length) : Alike (br ts i) (br us i) := by
 by_cases h0 : i = 0
 ·subst h0
  have e : br ts 0 = br us 0 := by
   show cQ (N3 ts 0) = cQ (N3 us 0)
   rw [hn 0 hi]
  rw [e];exact iR gu hi
 ·have e := gu.elder i _ (bK hi)
  obtain ⟨j, hj⟩ : ∃ j : Nat, (N3 us i).e = (j : Int) := ⟨(N3 us i).e.toNat, by have := e.2.1 (by lia); lia⟩
  have jk : j < i := by have := e.2.2; lia
  have hj2 : (N3 ts i).e = (j : Int) := by rw [← hn i hi]; exact hj
  obtain ⟨u1, u2, u3⟩ := j8 gu hi (by lia) hj
  obtain ⟨t1, t2, t3⟩ := j8 gt (show i < ts.length by lia) (by lia) hj2
  rw [← hn i hi] at t1;have al := wF gu.elder hl hn j (by lia)
  refine ⟨⟨_, _, _, t1, u1, ?_, t2, u2, u3⟩⟩;rw [List.length_append, List.length_append, ← aT, ← aT, ← aT, ← aT, jx, jx, al]
theorem iW {ts : List Nd} {way : List Int} (g : Grown 8 ts way) (h : 1 < ts.length) : ∃ w, Grown 8 ts.dropLast w := by
 cases g with
 | root h1 h2 => simp at h
 | step g h1 h2 h3 h4 h5 =>
  rw [List.dropLast_concat];exact ⟨_, g⟩
theorem BF (xs : List PyData) (h : 1 ≤ xs.length) : cutD xs none (some (-1)) = xs.dropLast := by
 have e : HT.sIx xs.length xs.length (some (-1)) = xs.length - 1 := by
  unfold HT.sIx;simp
  lia
 unfold cutD;rw [e, List.dropLast_eq_take];rfl
theorem ug (ts : List Nd) : (aB ts).dropLast = aB ts.dropLast := by unfold aB; rw [List.map_dropLast]
theorem vK {ts : List Nd} {k : Nat} (h : k < ts.dropLast.length) : N3 ts.dropLast k = N3 ts k := by
 have e := bK h;have d : ts.dropLast[k]? = ts[k]? := by rw [List.dropLast_eq_take, List.getElem?_take_of_lt (by rw [List.length_dropLast] at h; exact h)]
 rw [d, bK (by rw [List.length_dropLast] at h; lia)] at e
 exact (Option.some.inj e).symm
theorem rz (ts : List Nd) : (aO (av ts ts.length)).dropLast = aO (av ts ts.dropLast.length) := by
 unfold aO;rw [← List.map_dropLast];congr 1
 cases hn : ts.length with
 | zero => rw [List.length_dropLast, hn]; rfl
 | succ n => rw [iK, List.dropLast_concat, List.length_dropLast, hn]; rfl
theorem vQ {ts : List Nd} {n i : Nat} (h : i < n) : (av ts n)[i]? = some (br ts i) := by
 unfold av;rw [List.getElem?_map, List.getElem?_range h];rfl
theorem rO {ts : List Nd} {way : List Int} (g : Grown 8 ts way) (h : 1 < ts.length) (ne : av ts.dropLast ts.dropLast.length ≠ av ts ts.dropLast.length) : NoT (av ts ts.dropLast.length) := by
 obtain ⟨w, gu⟩ := iW g h;refine lI gu (bp _ _) (fun i hi x hx => ?_) ne.symm
 rw [vQ hi] at hx;cases hx;exact pf gu g (by rw [List.length_dropLast]; lia) (fun k hk => vK hk) hi
theorem nS {ts : List Nd} {way : List Int} (g : Grown 8 ts way) : ∀ x ∈ av ts ts.dropLast.length, Asc x := fun x hx => dU g x (by
 unfold av at hx ⊢;obtain ⟨k, hk, rfl⟩ := List.mem_map.mp hx;rw [List.mem_range, List.length_dropLast] at hk;exact List.mem_map.mpr ⟨k, List.mem_range.mpr (by lia), rfl⟩)
theorem o5 {ts : List Nd} {way : List Int} (g : Grown 8 ts way) (h2 : 2 ≤ ts.length) (h12 : ts.length ≤ 12) (z : Int) (hz : 0 ≤ z) : ∃ o, aA [.list (aO (av ts ts.length)), .int z] = .ok o ∧ SpL o := by
 have m := df z (show (0 : Int) < 12 by decide)
 by_cases h6 : z % 12 < 6
 ·exact BY g h2 h12 hz h6
 ·by_cases c6 : z % 12 = 6
  ·exact sp6 g h2 h12 c6
  ·by_cases c7 : z % 12 = 7
   ·exact sp7 g h2 h12 c7
   ·by_cases c8 : z % 12 = 8
    ·exact sp8 g h2 h12 c8
    ·by_cases c9 : z % 12 = 9
     ·exact sp9 h2 h12 c9
     ·by_cases c10 : z % 12 = 10
      ·exact E4 g h2 h12 c10
      ·exact Ew g h2 h12 (by lia)
theorem so (ns : List Int) (hn : ns.length ≤ 63) : kY [.list (ns.map PyData.int)] = .ok (.sh (.bool true)) := by
 unfold kY mJ;obtain ⟨z0, hz0⟩ := mW ns 0 (by decide) (by decide)
 obtain ⟨z1, hz1⟩ := mW ns 1 (by decide) (by decide)
 have m11 := df z0 (show (0 : Int) < 11 by decide)
 obtain ⟨many, hm⟩ : ∃ many : Nat, 2 + z0 % 11 = (many : Int) := ⟨(2 + z0 % 11).toNat, by lia⟩
 obtain ⟨ts, way, gr, tl, ht⟩ := wd ns 2 many 9 7 (by decide) (by decide) (by lia) (by lia) (by decide) (by decide) (by decide) (by decide)
 have g : Grown 8 ts way := oS (by decide) gr
 have hu := gn ts (jG g.elder) (jI g.ok) (by lia)
 have mz := df (z1 * 48271) (show (0 : Int) < 2147483647 by decide)
 obtain ⟨o, ho, ⟨S, oe, sa, sl, sn⟩⟩ := o5 g (by lia) (by lia) (z1 * 48271 % 2147483647) mz.1
 have rf := kT sa sl sn;have bn := o3 sa sl sn;have bg : ((aO (av ts ts.length)).length ≤ BIG) = True := aE (by rw [aU, bp]; lia)
 have rd := j7 g (by lia)
 have ro := j9 ts (nL g.ok) (by lia)
 have ed := rL;have cl := BF (aB ts) (by rw [bj]; lia)
 rw [ug] at cl;have cr := BF (aO (av ts ts.length)) (by rw [aU, bp]; lia)
 rw [rz] at cr;obtain ⟨w, gu⟩ := iW g (by lia)
 have ul : ts.dropLast.length ≤ 40 := by rw [List.length_dropLast]; lia
 have hu2 := gn ts.dropLast (jG gu.elder) (jI gu.ok) ul;have eq := qd (gH (dU gu)) (gH (nS g)) (by decide)
 rw [nF] at eq;by_cases hd : av ts.dropLast ts.dropLast.length = av ts ts.dropLast.length
 ·have rd2 := j7 gu ul
  have ro2 := j9 ts.dropLast (nL gu.ok) (by lia)
  rw [decide_eq_true hd] at eq;rw [hd] at rd2;push_cast only [hz0, hm, ht, bW, hu, gT, hz1, ho, oe, rf, bn, bg, rd, ro, ed, cl, cr, hu2, eq, rd2, ro2]
 ·have rf2 := kT (nS g) (by rw [bp]; lia) (rO g (by lia) hd)
  rw [decide_eq_false hd] at eq;push_cast only [hz0, hm, ht, bW, hu, gT, hz1, ho, oe, rf, bn, bg, rd, ro, ed, cl, cr, hu2, eq, rf2]
theorem all_mk {l : PySem.W.OpenLaw} {w : World} {K : PySem.W.Frag} {h : Heap} {mg : Str → Option Value} {fa : Addr} (X : K.In h) (G : h.Ns mainGlobals mg) (hfa : mg "law" = some (.ref fa))
  {A1 A2 A3 A4 A5 A6 A7 A8 A9 A10 A11 A12 A13 A14 A15 A16 A17 A18 A19 A20 A21 A22 A23 A24 A25 A26 : Addr}
  {D1 K1 D2 K2 D3 K3 D4 K4 D5 K5 D6 K6 D7 K7 D8 K8 D9 K9 D10 K10 D11 K11 D12 K12 D13 K13 D14 K14 D15 K15 D16 K16 D17 K17 D18 K18 D19 K19 D20 K20 D21 K21 D22 K22 D23 K23 D24 K24 D25 K25 D26 K26 : Option Addr}
  {P1 P2 P3 P4 P5 P6 P7 P8 P9 P10 P11 P12 P13 P14 P15 P16 P17 P18 P19 P20 P21 P22 P23 P24 P25 P26 : Array (Option Value)}
  {Q1 U1 V1 X1 Y1 Z1 Q2 U2 V2 X2 Y2 Z2 Q3 U3 V3 X3 Y3 Z3 Q4 U4 V4 X4 Y4 Z4 Q5 U5 V5 X5 Y5 Z5 Q6 U6 V6 X6 Y6 Z6 Q7 U7 V7 X7 Y7 Z7 Q8 U8 V8 X8 Y8 Z8 Q9 U9 V9 X9 Y9 Z9 Q10 U10 V10 X10 Y10 Z10 Q11 U11 V11 X11 Y11 Z11 Q12 U12 V12 X12 Y12 Z12 Q13 U13 V13 X13 Y13 Z13 Q14 U14 V14 X14 Y14 Z14 Q15 U15 V15 X15 Y15 Z15 Q16 U16 V16 X16 Y16 Z16 Q17 U17 V17 X17 Y17 Z17 Q18 U18 V18 X18 Y18 Z18 Q19 U19 V19 X19 Y19 Z19 Q20 U20 V20 X20 Y20 Z20 Q21 U21 V21 X21 Y21 Z21 Q22 U22 V22 X22 Y22 Z22 Q23 U23 V23 X23 Y23 Z23 Q24 U24 V24 X24 Y24 Z24 Q25 U25 V25 X25 Y25 Z25 Q26 U26 V26 X26 Y26 Z26 : Value}
  {tk_GREATEST_LEVEL : Tok}
  {tk_GREATEST_TALL : Tok}
  {tk_LETTERS : Tok}
  {tk_LONGEST_LABEL : Tok}
  {tk_MOST_NODES : Tok}
  {c_DrawError c_NoDeed c_NoNode c_NoPicture c_NoPlace c_NoText c_NoTree c_TooMany : Addr}
  (a_1 : PySem.W.nsIn K mainGlobals "is_on_way_up" = some (some (.ref A1)))(b_1 : K.lookup A1 = some ⟨Q1, D1, .func (PySem.W.fnOf "is_on_way_up" "is_on_way_up" (aW bE) (aR bE) (ar bE) .none U1 V1 X1 K1 Y1 Z1), P1⟩)(c_1 : PySem.W.codeIn K Y1 "is_on_way_up" = true)(d_1 : PySem.W.keepIn K (.ref A1) = true)
  (a_2 : PySem.W.nsIn K mainGlobals "is_label" = some (some (.ref A2)))(b_2 : K.lookup A2 = some ⟨Q2, D2, .func (PySem.W.fnOf "is_label" "is_label" (aW cP) (aR cP) (ar cP) .none U2 V2 X2 K2 Y2 Z2), P2⟩)(c_2 : PySem.W.codeIn K Y2 "is_label" = true)(d_2 : PySem.W.keepIn K (.ref A2) = true)
  (a_3 : PySem.W.nsIn K mainGlobals "check_tall" = some (some (.ref A3)))(b_3 : K.lookup A3 = some ⟨Q3, D3, .func (PySem.W.fnOf "check_tall" "check_tall" (aW bO) (aR bO) (ar bO) .none U3 V3 X3 K3 Y3 Z3), P3⟩)(c_3 : PySem.W.codeIn K Y3 "check_tall" = true)(d_3 : PySem.W.keepIn K (.ref A3) = true)
  (a_4 : PySem.W.nsIn K mainGlobals "node_levels" = some (some (.ref A4)))(b_4 : K.lookup A4 = some ⟨Q4, D4, .func (PySem.W.fnOf "node_levels" "node_levels" (aW bL) (aR bL) (ar bL) .none U4 V4 X4 K4 Y4 Z4), P4⟩)(c_4 : PySem.W.codeIn K Y4 "node_levels" = true)(d_4 : PySem.W.keepIn K (.ref A4) = true)
  (a_5 : PySem.W.nsIn K mainGlobals "last_children" = some (some (.ref A5)))(b_5 : K.lookup A5 = some ⟨Q5, D5, .func (PySem.W.fnOf "last_children" "last_children" (aW bJ) (aR bJ) (ar bJ) .none U5 V5 X5 K5 Y5 Z5), P5⟩)(c_5 : PySem.W.codeIn K Y5 "last_children" = true)(d_5 : PySem.W.keepIn K (.ref A5) = true)
  (a_6 : PySem.W.nsIn K mainGlobals "label_signs" = some (some (.ref A6)))(b_6 : K.lookup A6 = some ⟨Q6, D6, .func (PySem.W.fnOf "label_signs" "label_signs" (aW cj) (aR cj) (ar cj) .none U6 V6 X6 K6 Y6 Z6), P6⟩)(c_6 : PySem.W.codeIn K Y6 "label_signs" = true)(d_6 : PySem.W.keepIn K (.ref A6) = true)
  (a_7 : PySem.W.nsIn K mainGlobals "likely_rows" = some (some (.ref A7)))(b_7 : K.lookup A7 = some ⟨Q7, D7, .func (PySem.W.fnOf "likely_rows" "likely_rows" (aW bD) (aR bD) (ar bD) .none U7 V7 X7 K7 Y7 Z7), P7⟩)(c_7 : PySem.W.codeIn K Y7 "likely_rows" = true)(d_7 : PySem.W.keepIn K (.ref A7) = true)
  (a_8 : PySem.W.nsIn K mainGlobals "_law_cell" = some (some (.ref A8)))(b_8 : K.lookup A8 = some ⟨Q8, D8, .func (PySem.W.fnOf "_law_cell" "_law_cell" (aW cN) (aR cN) (ar cN) .none U8 V8 X8 K8 Y8 Z8), P8⟩)(c_8 : PySem.W.codeIn K Y8 "_law_cell" = true)(d_8 : PySem.W.keepIn K (.ref A8) = true)
  (a_9 : PySem.W.nsIn K mainGlobals "_law_whole" = some (some (.ref A9)))(b_9 : K.lookup A9 = some ⟨Q9, D9, .func (PySem.W.fnOf "_law_whole" "_law_whole" (aW cJ) (aR cJ) (ar cJ) .none U9 V9 X9 K9 Y9 Z9), P9⟩)(c_9 : PySem.W.codeIn K Y9 "_law_whole" = true)(d_9 : PySem.W.keepIn K (.ref A9) = true)
  (a_10 : PySem.W.nsIn K mainGlobals "_law_label" = some (some (.ref A10)))(b_10 : K.lookup A10 = some ⟨Q10, D10, .func (PySem.W.fnOf "_law_label" "_law_label" (aW cF) (aR cF) (ar cF) .none U10 V10 X10 K10 Y10 Z10), P10⟩)(c_10 : PySem.W.codeIn K Y10 "_law_label" = true)(d_10 : PySem.W.keepIn K (.ref A10) = true)
  (a_11 : PySem.W.nsIn K mainGlobals "_law_last" = some (some (.ref A11)))(b_11 : K.lookup A11 = some ⟨Q11, D11, .func (PySem.W.fnOf "_law_last" "_law_last" (aW da) (aR da) (ar da) .none U11 V11 X11 K11 Y11 Z11), P11⟩)(c_11 : PySem.W.codeIn K Y11 "_law_last" = true)(d_11 : PySem.W.keepIn K (.ref A11) = true)
  (a_12 : PySem.W.nsIn K mainGlobals "_law_swapped" = some (some (.ref A12)))(b_12 : K.lookup A12 = some ⟨Q12, D12, .func (PySem.W.fnOf "_law_swapped" "_law_swapped" (aW bR) (aR bR) (ar bR) .none U12 V12 X12 K12 Y12 Z12), P12⟩)(c_12 : PySem.W.codeIn K Y12 "_law_swapped" = true)(d_12 : PySem.W.keepIn K (.ref A12) = true)
  (a_13 : PySem.W.nsIn K mainGlobals "check_elder" = some (some (.ref A13)))(b_13 : K.lookup A13 = some ⟨Q13, D13, .func (PySem.W.fnOf "check_elder" "check_elder" (aW bB) (aR bB) (ar bB) .none U13 V13 X13 K13 Y13 Z13), P13⟩)(c_13 : PySem.W.codeIn K Y13 "check_elder" = true)(d_13 : PySem.W.keepIn K (.ref A13) = true)
  (a_14 : PySem.W.nsIn K mainGlobals "check_label" = some (some (.ref A14)))(b_14 : K.lookup A14 = some ⟨Q14, D14, .func (PySem.W.fnOf "check_label" "check_label" (aW bC) (aR bC) (ar bC) .none U14 V14 X14 K14 Y14 Z14), P14⟩)(c_14 : PySem.W.codeIn K Y14 "check_label" = true)(d_14 : PySem.W.keepIn K (.ref A14) = true)
  (a_15 : PySem.W.nsIn K mainGlobals "hung_rows" = some (some (.ref A15)))(b_15 : K.lookup A15 = some ⟨Q15, D15, .func (PySem.W.fnOf "hung_rows" "hung_rows" (aW cM) (aR cM) (ar cM) .none U15 V15 X15 K15 Y15 Z15), P15⟩)(c_15 : PySem.W.codeIn K Y15 "hung_rows" = true)(d_15 : PySem.W.keepIn K (.ref A15) = true)
  (a_16 : PySem.W.nsIn K mainGlobals "_law_tree" = some (some (.ref A16)))(b_16 : K.lookup A16 = some ⟨Q16, D16, .func (PySem.W.fnOf "_law_tree" "_law_tree" (aW dc) (aR dc) (ar dc) .none U16 V16 X16 K16 Y16 Z16), P16⟩)(c_16 : PySem.W.codeIn K Y16 "_law_tree" = true)(d_16 : PySem.W.keepIn K (.ref A16) = true)
  (a_17 : PySem.W.nsIn K mainGlobals "_law_rows" = some (some (.ref A17)))(b_17 : K.lookup A17 = some ⟨Q17, D17, .func (PySem.W.fnOf "_law_rows" "_law_rows" (aW cG) (aR cG) (ar cG) .none U17 V17 X17 K17 Y17 Z17), P17⟩)(c_17 : PySem.W.codeIn K Y17 "_law_rows" = true)(d_17 : PySem.W.keepIn K (.ref A17) = true)
  (a_18 : PySem.W.nsIn K mainGlobals "_law_hung" = some (some (.ref A18)))(b_18 : K.lookup A18 = some ⟨Q18, D18, .func (PySem.W.fnOf "_law_hung" "_law_hung" (aW cO) (aR cO) (ar cO) .none U18 V18 X18 K18 Y18 Z18), P18⟩)(c_18 : PySem.W.codeIn K Y18 "_law_hung" = true)(d_18 : PySem.W.keepIn K (.ref A18) = true)
  (a_19 : PySem.W.nsIn K mainGlobals "_law_spoiled_row" = some (some (.ref A19)))(b_19 : K.lookup A19 = some ⟨Q19, D19, .func (PySem.W.fnOf "_law_spoiled_row" "_law_spoiled_row" (aW ba) (aR ba) (ar ba) .none U19 V19 X19 K19 Y19 Z19), P19⟩)(c_19 : PySem.W.codeIn K Y19 "_law_spoiled_row" = true)(d_19 : PySem.W.keepIn K (.ref A19) = true)
  (a_20 : PySem.W.nsIn K mainGlobals "made_tree" = some (some (.ref A20)))(b_20 : K.lookup A20 = some ⟨Q20, D20, .func (PySem.W.fnOf "made_tree" "made_tree" (aW cg) (aR cg) (ar cg) .none U20 V20 X20 K20 Y20 Z20), P20⟩)(c_20 : PySem.W.codeIn K Y20 "made_tree" = true)(d_20 : PySem.W.keepIn K (.ref A20) = true)
  (a_21 : PySem.W.nsIn K mainGlobals "_law_spoiled" = some (some (.ref A21)))(b_21 : K.lookup A21 = some ⟨Q21, D21, .func (PySem.W.fnOf "_law_spoiled" "_law_spoiled" (aW bG) (aR bG) (ar bG) .none U21 V21 X21 K21 Y21 Z21), P21⟩)(c_21 : PySem.W.codeIn K Y21 "_law_spoiled" = true)(d_21 : PySem.W.keepIn K (.ref A21) = true)
  (a_22 : PySem.W.nsIn K mainGlobals "read_hung" = some (some (.ref A22)))(b_22 : K.lookup A22 = some ⟨Q22, D22, .func (PySem.W.fnOf "read_hung" "read_hung" (aW bI) (aR bI) (ar bI) .none U22 V22 X22 K22 Y22 Z22), P22⟩)(c_22 : PySem.W.codeIn K Y22 "read_hung" = true)(d_22 : PySem.W.keepIn K (.ref A22) = true)
  (a_23 : PySem.W.nsIn K mainGlobals "_law_refused" = some (some (.ref A23)))(b_23 : K.lookup A23 = some ⟨Q23, D23, .func (PySem.W.fnOf "_law_refused" "_law_refused" (aW bS) (aR bS) (ar bS) .none U23 V23 X23 K23 Y23 Z23), P23⟩)(c_23 : PySem.W.codeIn K Y23 "_law_refused" = true)(d_23 : PySem.W.keepIn K (.ref A23) = true)
  (a_24 : PySem.W.nsIn K mainGlobals "_law_by_name" = some (some (.ref A24)))(b_24 : K.lookup A24 = some ⟨Q24, D24, .func (PySem.W.fnOf "_law_by_name" "_law_by_name" (aW bQ) (aR bQ) (ar bQ) .none U24 V24 X24 K24 Y24 Z24), P24⟩)(c_24 : PySem.W.codeIn K Y24 "_law_by_name" = true)(d_24 : PySem.W.keepIn K (.ref A24) = true)
  (a_25 : PySem.W.nsIn K mainGlobals "_law_edges" = some (some (.ref A25)))(b_25 : K.lookup A25 = some ⟨Q25, D25, .func (PySem.W.fnOf "_law_edges" "_law_edges" (aW b8) (aR b8) (ar b8) .none U25 V25 X25 K25 Y25 Z25), P25⟩)(c_25 : PySem.W.codeIn K Y25 "_law_edges" = true)(d_25 : PySem.W.keepIn K (.ref A25) = true)
  (a_26 : PySem.W.nsIn K mainGlobals "law" = some (some (.ref A26)))(b_26 : K.lookup A26 = some ⟨Q26, D26, .func (PySem.W.fnOf "law" "law" (aW iV) (aR iV) (ar iV) .none U26 V26 X26 K26 Y26 Z26), P26⟩)(c_26 : PySem.W.codeIn K Y26 "law" = true)(d_26 : PySem.W.keepIn K (.ref A26) = true)
  (z_ValueError : PySem.W.nsIn K mainGlobals "ValueError" = some none)
  (z_all : PySem.W.nsIn K mainGlobals "all" = some none)
  (z_bool : PySem.W.nsIn K mainGlobals "bool" = some none)
  (z_enumerate : PySem.W.nsIn K mainGlobals "enumerate" = some none)
  (z_int : PySem.W.nsIn K mainGlobals "int" = some none)
  (z_isinstance : PySem.W.nsIn K mainGlobals "isinstance" = some none)
  (z_len : PySem.W.nsIn K mainGlobals "len" = some none)
  (z_list : PySem.W.nsIn K mainGlobals "list" = some none)
  (z_max : PySem.W.nsIn K mainGlobals "max" = some none)
  (z_min : PySem.W.nsIn K mainGlobals "min" = some none)
  (z_range : PySem.W.nsIn K mainGlobals "range" = some none)
  (z_str : PySem.W.nsIn K mainGlobals "str" = some none)
  (z_tuple : PySem.W.nsIn K mainGlobals "tuple" = some none)
  (z_zip : PySem.W.nsIn K mainGlobals "zip" = some none)
  (g_GREATEST_LEVEL : PySem.W.nsIn K mainGlobals "GREATEST_LEVEL" = some (some (.int 8 tk_GREATEST_LEVEL)))
  (g_GREATEST_TALL : PySem.W.nsIn K mainGlobals "GREATEST_TALL" = some (some (.int 9 tk_GREATEST_TALL)))
  (g_LETTERS : PySem.W.nsIn K mainGlobals "LETTERS" = some (some (.str "abcdefghijklmnopqrstuvwxyz" tk_LETTERS)))
  (g_LONGEST_LABEL : PySem.W.nsIn K mainGlobals "LONGEST_LABEL" = some (some (.int 9 tk_LONGEST_LABEL)))
  (g_MOST_NODES : PySem.W.nsIn K mainGlobals "MOST_NODES" = some (some (.int 40 tk_MOST_NODES)))
  (ca_DrawError : PySem.W.nsIn K mainGlobals "DrawError" = some (some (.ref c_DrawError)))
  (ca_NoDeed : PySem.W.nsIn K mainGlobals "NoDeed" = some (some (.ref c_NoDeed)))
  (ca_NoNode : PySem.W.nsIn K mainGlobals "NoNode" = some (some (.ref c_NoNode)))
  (ca_NoPicture : PySem.W.nsIn K mainGlobals "NoPicture" = some (some (.ref c_NoPicture)))
  (ca_NoPlace : PySem.W.nsIn K mainGlobals "NoPlace" = some (some (.ref c_NoPlace)))
  (ca_NoText : PySem.W.nsIn K mainGlobals "NoText" = some (some (.ref c_NoText)))
  (ca_NoTree : PySem.W.nsIn K mainGlobals "NoTree" = some (some (.ref c_NoTree)))
  (ca_TooMany : PySem.W.nsIn K mainGlobals "TooMany" = some (some (.ref c_TooMany)))
  (x_NoPicture1 : PySem.W.excIn K c_NoPicture [.type "ValueError", .type "Exception", .type "BaseException", .type "object"] "ValueError.__new__" = true)
  (x_NoPicture2 : PySem.W.findIn K (.ref c_NoPicture) "__getattribute__" = some (some (.builtin "BaseException.__getattribute__")))
  (x_NoPicture3 : PySem.W.findIn K (.ref c_NoPicture) "__class__" = some (some (.builtin "object.__class__")))
  (x_NoPicture4 : PySem.W.findIn K (.ref c_NoPicture) "__getattr__" = some none)
  (x_NoPicture5 : PySem.W.mroIn K c_NoPicture (.type "object") = some true)
  (x_NoTree1 : PySem.W.excIn K c_NoTree [.type "ValueError", .type "Exception", .type "BaseException", .type "object"] "ValueError.__new__" = true)
  (x_NoTree2 : PySem.W.findIn K (.ref c_NoTree) "__getattribute__" = some (some (.builtin "BaseException.__getattribute__")))
  (x_NoTree3 : PySem.W.findIn K (.ref c_NoTree) "__class__" = some (some (.builtin "object.__class__")))
  (x_NoTree4 : PySem.W.findIn K (.ref c_NoTree) "__getattr__" = some none)
  (x_NoTree5 : PySem.W.mroIn K c_NoTree (.type "object") = some true)
  (h_DrawError : PySem.W.excIn K c_DrawError [.type "ValueError", .type "Exception", .type "BaseException", .type "object"] "ValueError.__new__" = true)
  (h_NoPicture : PySem.W.excIn K c_NoPicture [.type "ValueError", .type "Exception", .type "BaseException", .type "object"] "ValueError.__new__" = true)
  (h_NoTree : PySem.W.excIn K c_NoTree [.type "ValueError", .type "Exception", .type "BaseException", .type "object"] "ValueError.__new__" = true)
  (u_NoPicture_DrawError : PySem.W.subIn K (.ref c_NoPicture) (.ref c_DrawError) = some true)
  (u_NoPicture_NoPicture : PySem.W.subIn K (.ref c_NoPicture) (.ref c_NoPicture) = some true)
  (u_NoTree_DrawError : PySem.W.subIn K (.ref c_NoTree) (.ref c_DrawError) = some true)
  (u_NoTree_NoTree : PySem.W.subIn K (.ref c_NoTree) (.ref c_NoTree) = some true)
  (w_NoPicture_NoTree : PySem.W.subIn K (.ref c_NoPicture) (.ref c_NoTree) = some false)
  (k_NoPicture_NoPicture : PySem.W.kitOne K (.ref c_NoPicture) (.ref c_NoPicture) = some true)
  (k_NoTree_NoPicture : PySem.W.kitOne K (.ref c_NoTree) (.ref c_NoPicture) = some false)
  (v_NoPicture_ValueError : PySem.W.kitOne K (.ref c_NoPicture) (.type "ValueError") = some true)
  (v_NoTree_ValueError : PySem.W.kitOne K (.ref c_NoTree) (.type "ValueError") = some true)
  (t_NoPicture_NoNode_NoText_NoTree : PySem.W.kitAny K (.ref c_NoPicture) [.ref c_NoNode, .ref c_NoText, .ref c_NoTree] = some false)
  (t_NoPicture_TooMany_NoDeed_NoPlace : PySem.W.kitAny K (.ref c_NoPicture) [.ref c_TooMany, .ref c_NoDeed, .ref c_NoPlace] = some false)
  (t_NoTree_NoNode_NoText_NoTree : PySem.W.kitAny K (.ref c_NoTree) [.ref c_NoNode, .ref c_NoText, .ref c_NoTree] = some true)
  (t_NoTree_TooMany_NoDeed_NoPlace : PySem.W.kitAny K (.ref c_NoTree) [.ref c_TooMany, .ref c_NoDeed, .ref c_NoPlace] = some false) :
  ∃ fd : FuncData, (∀ (s : Shared) (v : Value), BindsTo s fd ⟨[v], []⟩ [("_law_script", v)]) ∧ ∀ base : Heap, K.In base → base.Ns mainGlobals mg → FnOk l.prog w K mg base CX0 6 fa fd ["_law_script"] (sp3 K mg kY) := by
 have e := hfa.symm.trans (PySem.W.mg_of X G a_26);cases e;have T : Txt K mg := ⟨PySem.W.mg_none_of X G z_ValueError, PySem.W.mg_none_of X G z_all, PySem.W.mg_none_of X G z_bool, PySem.W.mg_none_of X G z_enumerate, PySem.W.mg_none_of X G z_int, PySem.W.mg_none_of X G z_isinstance, PySem.W.mg_none_of X G z_len, PySem.W.mg_none_of X G z_list, PySem.W.mg_none_of X G z_max, PySem.W.mg_none_of X G z_min, PySem.W.mg_none_of X G z_range, PySem.W.mg_none_of X G z_str, PySem.W.mg_none_of X G z_tuple, PySem.W.mg_none_of X G z_zip, ⟨_, PySem.W.mg_of X G g_GREATEST_LEVEL⟩, ⟨_, PySem.W.mg_of X G g_GREATEST_TALL⟩, ⟨_, PySem.W.mg_of X G g_LETTERS⟩, ⟨_, PySem.W.mg_of X G g_LONGEST_LABEL⟩, ⟨_, PySem.W.mg_of X G g_MOST_NODES⟩, ⟨c_DrawError, c_NoDeed, c_NoNode, c_NoPicture, c_NoPlace, c_NoText, c_NoTree, c_TooMany, PySem.W.mg_of X G ca_DrawError, PySem.W.mg_of X G ca_NoDeed, PySem.W.mg_of X G ca_NoNode, PySem.W.mg_of X G ca_NoPicture, PySem.W.mg_of X G ca_NoPlace, PySem.W.mg_of X G ca_NoText, PySem.W.mg_of X G ca_NoTree, PySem.W.mg_of X G ca_TooMany, ⟨x_NoPicture1, x_NoPicture2, x_NoPicture3, x_NoPicture4, x_NoPicture5⟩, ⟨x_NoTree1, x_NoTree2, x_NoTree3, x_NoTree4, x_NoTree5⟩, h_DrawError, h_NoPicture, h_NoTree, u_NoPicture_DrawError, u_NoPicture_NoPicture, u_NoTree_DrawError, u_NoTree_NoTree, w_NoPicture_NoTree, k_NoPicture_NoPicture, k_NoTree_NoPicture, v_NoPicture_ValueError, v_NoTree_ValueError, t_NoPicture_NoNode_NoText_NoTree, t_NoPicture_TooMany_NoDeed_NoPlace, t_NoTree_NoNode_NoText_NoTree, t_NoTree_TooMany_NoDeed_NoPlace⟩⟩;have g_1 := bT (st := bE) b_1 c_1 d_1;have e_1 : Def K mg "is_on_way_up" bE ["rows", "start", "wanted"] _ _ := ⟨g_1, PySem.W.mg_of X G a_1, g_1.binds (ps := ["rows", "start", "wanted"]) fun _ _ _ _ _ _ us hl => by obtain ⟨_, _, _, rfl⟩ := ex3 hl; rfl⟩
 have g_2 := bT (st := cP) b_2 c_2 d_2;have e_2 : Def K mg "is_label" cP ["text"] _ _ := ⟨g_2, PySem.W.mg_of X G a_2, g_2.binds (ps := ["text"]) fun _ _ _ _ _ _ us hl => by obtain ⟨_, rfl⟩ := ex1 hl; rfl⟩
 have g_3 := bT (st := bO) b_3 c_3 d_3;have e_3 : Def K mg "check_tall" bO ["tall"] _ _ := ⟨g_3, PySem.W.mg_of X G a_3, g_3.binds (ps := ["tall"]) fun _ _ _ _ _ _ us hl => by obtain ⟨_, rfl⟩ := ex1 hl; rfl⟩
 have g_4 := bT (st := bL) b_4 c_4 d_4;have e_4 : Def K mg "node_levels" bL ["tree"] _ _ := ⟨g_4, PySem.W.mg_of X G a_4, g_4.binds (ps := ["tree"]) fun _ _ _ _ _ _ us hl => by obtain ⟨_, rfl⟩ := ex1 hl; rfl⟩
 have g_5 := bT (st := bJ) b_5 c_5 d_5;have e_5 : Def K mg "last_children" bJ ["tree"] _ _ := ⟨g_5, PySem.W.mg_of X G a_5, g_5.binds (ps := ["tree"]) fun _ _ _ _ _ _ us hl => by obtain ⟨_, rfl⟩ := ex1 hl; rfl⟩
 have g_6 := bT (st := cj) b_6 c_6 d_6;have e_6 : Def K mg "label_signs" cj ["row"] _ _ := ⟨g_6, PySem.W.mg_of X G a_6, g_6.binds (ps := ["row"]) fun _ _ _ _ _ _ us hl => by obtain ⟨_, rfl⟩ := ex1 hl; rfl⟩
 have g_7 := bT (st := bD) b_7 c_7 d_7;have e_7 : Def K mg "likely_rows" bD ["rows"] _ _ := ⟨g_7, PySem.W.mg_of X G a_7, g_7.binds (ps := ["rows"]) fun _ _ _ _ _ _ us hl => by obtain ⟨_, rfl⟩ := ex1 hl; rfl⟩
 have g_8 := bT (st := cN) b_8 c_8 d_8;have e_8 : Def K mg "_law_cell" cN ["_law_script", "_law_k"] _ _ := ⟨g_8, PySem.W.mg_of X G a_8, g_8.binds (ps := ["_law_script", "_law_k"]) fun _ _ _ _ _ _ us hl => by obtain ⟨_, _, rfl⟩ := ex2 hl; rfl⟩
 have g_9 := bT (st := cJ) b_9 c_9 d_9;have e_9 : Def K mg "_law_whole" cJ ["_law_found"] _ _ := ⟨g_9, PySem.W.mg_of X G a_9, g_9.binds (ps := ["_law_found"]) fun _ _ _ _ _ _ us hl => by obtain ⟨_, rfl⟩ := ex1 hl; rfl⟩
 have g_10 := bT (st := cF) b_10 c_10 d_10;have e_10 : Def K mg "_law_label" cF ["_law_number", "_law_most"] _ _ := ⟨g_10, PySem.W.mg_of X G a_10, g_10.binds (ps := ["_law_number", "_law_most"]) fun _ _ _ _ _ _ us hl => by obtain ⟨_, _, rfl⟩ := ex2 hl; rfl⟩
 have g_11 := bT (st := da) b_11 c_11 d_11;have e_11 : Def K mg "_law_last" da ["_law_tree_here", "_law_node"] _ _ := ⟨g_11, PySem.W.mg_of X G a_11, g_11.binds (ps := ["_law_tree_here", "_law_node"]) fun _ _ _ _ _ _ us hl => by obtain ⟨_, _, rfl⟩ := ex2 hl; rfl⟩
 have g_12 := bT (st := bR) b_12 c_12 d_12;have e_12 : Def K mg "_law_swapped" bR ["_law_text", "_law_signs", "_law_number"] _ _ := ⟨g_12, PySem.W.mg_of X G a_12, g_12.binds (ps := ["_law_text", "_law_signs", "_law_number"]) fun _ _ _ _ _ _ us hl => by obtain ⟨_, _, _, rfl⟩ := ex3 hl; rfl⟩
 have g_13 := bT (st := bB) b_13 c_13 d_13;have e_13 : Def K mg "check_elder" bB ["rows", "number"] _ _ := ⟨g_13, PySem.W.mg_of X G a_13, g_13.binds (ps := ["rows", "number"]) fun _ _ _ _ _ _ us hl => by obtain ⟨_, _, rfl⟩ := ex2 hl; rfl⟩
 have g_14 := bT (st := bC) b_14 c_14 d_14;have e_14 : Def K mg "check_label" bC ["label"] _ _ := ⟨g_14, PySem.W.mg_of X G a_14, g_14.binds (ps := ["label"]) fun _ _ _ _ _ _ us hl => by obtain ⟨_, rfl⟩ := ex1 hl; rfl⟩
 have g_15 := bT (st := cM) b_15 c_15 d_15;have e_15 : Def K mg "hung_rows" cM ["tree"] _ _ := ⟨g_15, PySem.W.mg_of X G a_15, g_15.binds (ps := ["tree"]) fun _ _ _ _ _ _ us hl => by obtain ⟨_, rfl⟩ := ex1 hl; rfl⟩
 have g_16 := bT (st := dc) b_16 c_16 d_16;have e_16 : Def K mg "_law_tree" dc ["_law_script", "_law_start", "_law_many", "_law_most", "_law_deep"] _ _ := ⟨g_16, PySem.W.mg_of X G a_16, g_16.binds (ps := ["_law_script", "_law_start", "_law_many", "_law_most", "_law_deep"]) fun _ _ _ _ _ _ us hl => by obtain ⟨_, _, _, _, _, rfl⟩ := ex5 hl; rfl⟩
 have g_17 := bT (st := cG) b_17 c_17 d_17;have e_17 : Def K mg "_law_rows" cG ["_law_found", "_law_due"] _ _ := ⟨g_17, PySem.W.mg_of X G a_17, g_17.binds (ps := ["_law_found", "_law_due"]) fun _ _ _ _ _ _ us hl => by obtain ⟨_, _, rfl⟩ := ex2 hl; rfl⟩
 have g_18 := bT (st := cO) b_18 c_18 d_18;have e_18 : Def K mg "_law_hung" cO ["_law_tree_here"] _ _ := ⟨g_18, PySem.W.mg_of X G a_18, g_18.binds (ps := ["_law_tree_here"]) fun _ _ _ _ _ _ us hl => by obtain ⟨_, rfl⟩ := ex1 hl; rfl⟩
 have g_19 := bT (st := ba) b_19 c_19 d_19;have e_19 : Def K mg "_law_spoiled_row" ba ["_law_text", "_law_number"] _ _ := ⟨g_19, PySem.W.mg_of X G a_19, g_19.binds (ps := ["_law_text", "_law_number"]) fun _ _ _ _ _ _ us hl => by obtain ⟨_, _, rfl⟩ := ex2 hl; rfl⟩
 have g_20 := bT (st := cg) b_20 c_20 d_20;have e_20 : Def K mg "made_tree" cg ["rows"] _ _ := ⟨g_20, PySem.W.mg_of X G a_20, g_20.binds (ps := ["rows"]) fun _ _ _ _ _ _ us hl => by obtain ⟨_, rfl⟩ := ex1 hl; rfl⟩
 have g_21 := bT (st := bG) b_21 c_21 d_21;have e_21 : Def K mg "_law_spoiled" bG ["_law_rows_here", "_law_number"] _ _ := ⟨g_21, PySem.W.mg_of X G a_21, g_21.binds (ps := ["_law_rows_here", "_law_number"]) fun _ _ _ _ _ _ us hl => by obtain ⟨_, _, rfl⟩ := ex2 hl; rfl⟩
 have g_22 := bT (st := bI) b_22 c_22 d_22;have e_22 : Def K mg "read_hung" bI ["rows"] _ _ := ⟨g_22, PySem.W.mg_of X G a_22, g_22.binds (ps := ["rows"]) fun _ _ _ _ _ _ us hl => by obtain ⟨_, rfl⟩ := ex1 hl; rfl⟩
 have g_23 := bT (st := bS) b_23 c_23 d_23;have e_23 : Def K mg "_law_refused" bS ["_law_rows_here"] _ _ := ⟨g_23, PySem.W.mg_of X G a_23, g_23.binds (ps := ["_law_rows_here"]) fun _ _ _ _ _ _ us hl => by obtain ⟨_, rfl⟩ := ex1 hl; rfl⟩
 have g_24 := bT (st := bQ) b_24 c_24 d_24;have e_24 : Def K mg "_law_by_name" bQ ["_law_rows_here"] _ _ := ⟨g_24, PySem.W.mg_of X G a_24, g_24.binds (ps := ["_law_rows_here"]) fun _ _ _ _ _ _ us hl => by obtain ⟨_, rfl⟩ := ex1 hl; rfl⟩
 have g_25 := bT (st := b8) b_25 c_25 d_25;have e_25 : Def K mg "_law_edges" b8 [] _ _ := ⟨g_25, PySem.W.mg_of X G a_25, g_25.binds (ps := []) fun _ _ _ _ _ _ us hl => match us, hl with | [], _ => rfl⟩
 have g_26 := bT (st := iV) b_26 c_26 d_26;refine ⟨PySem.W.fnOf "law" "law" (aW iV) (aR iV) (ar iV) .none U26 V26 X26 K26 Y26 Z26, fun s v => .of_eq rfl, fun base _ _ => ?_⟩
 have f_1 : FnOk l.prog w K mg base CX0 1 _ _ _ _ := jU e_1.F T;have f_2 : FnOk l.prog w K mg base CX0 1 _ _ _ _ := nZ e_2.F T;have f_3 : FnOk l.prog w K mg base CX0 1 _ _ _ _ := lF e_3.F T;have Gx_check_tall : FnOk l.prog w K mg base (CXC l.prog w) 1 _ _ _ _ := lE e_3.F T;have f_4 : FnOk l.prog w K mg base CX0 1 _ _ _ _ := kl e_4.F T;have f_5 : FnOk l.prog w K mg base CX0 1 _ _ _ _ := jm e_5.F T;have f_6 : FnOk l.prog w K mg base CX0 1 _ _ _ _ := ko e_6.F T;have f_7 : FnOk l.prog w K mg base CX0 1 _ _ _ _ := k_ e_7.F T;have Gx_likely_rows : FnOk l.prog w K mg base (CXC l.prog w) 1 _ _ _ _ := kM e_7.F T;have f_8 : FnOk l.prog w K mg base CX0 1 _ _ _ _ := mG e_8.F T;have f_9 : FnOk l.prog w K mg base CX0 1 _ _ _ _ := lG e_9.F T;have f_10 : FnOk l.prog w K mg base CX0 1 _ _ _ _ := lr e_10.F T;have f_11 : FnOk l.prog w K mg base CX0 1 _ _ _ _ := ni e_11.F T;have f_12 : FnOk l.prog w K mg base CX0 1 _ _ _ _ := j0 e_12.F T;have f_13 : FnOk l.prog w K mg base CX0 2 _ _ _ _ := kL e_13.F T e_1 f_1;have Gx_check_elder : FnOk l.prog w K mg base (CXC l.prog w) 2 _ _ _ _ := kr e_13.F T e_1 f_1;have f_14 : FnOk l.prog w K mg base CX0 2 _ _ _ _ := kO e_14.F T e_2 f_2;have Gx_check_label : FnOk l.prog w K mg base (CXC l.prog w) 2 _ _ _ _ := kz e_14.F T e_2 f_2;have f_15 : FnOk l.prog w K mg base CX0 2 _ _ _ _ := mP e_15.F T e_5 f_5 e_6 f_6;have f_16 : FnOk l.prog w K mg base CX0 2 _ _ _ _ := nh e_16.F T e_8 f_8 e_10 f_10;have f_17 : FnOk l.prog w K mg base CX0 2 _ _ _ _ := mR e_17.F T e_9 f_9;have f_18 : FnOk l.prog w K mg base CX0 2 _ _ _ _ := mi e_18.F T e_11 f_11;have f_19 : FnOk l.prog w K mg base CX0 2 _ _ _ _ := iD e_19.F T e_12 f_12;have f_20 : FnOk l.prog w K mg base CX0 3 _ _ _ _ := mZ e_20.F T e_13 f_13 Gx_check_elder e_14 f_14 Gx_check_label e_3 f_3 Gx_check_tall e_4 f_4;have Gx_made_tree : FnOk l.prog w K mg base (CXC l.prog w) 3 _ _ _ _ := mU e_20.F T e_13 f_13 Gx_check_elder e_14 f_14 Gx_check_label e_3 f_3 Gx_check_tall e_4 f_4;have f_21 : FnOk l.prog w K mg base CX0 3 _ _ _ _ := jT e_21.F T e_19 f_19;have f_22 : FnOk l.prog w K mg base CX0 4 _ _ _ _ := my e_22.F T e_20 f_20 Gx_made_tree e_15 f_15 e_7 f_7 Gx_likely_rows;have Gx_read_hung : FnOk l.prog w K mg base (CXE l.prog w) 4 _ _ _ _ := m_ e_22.F T e_20 f_20 Gx_made_tree e_15 f_15 e_7 f_7 Gx_likely_rows;have f_23 : FnOk l.prog w K mg base CX0 5 _ _ _ _ := jV e_23.F T e_22 f_22 Gx_read_hung;have f_24 : FnOk l.prog w K mg base CX0 5 _ _ _ _ := j1 e_24.F T e_22 f_22 Gx_read_hung;have f_25 : FnOk l.prog w K mg base CX0 5 _ _ _ _ := lu e_25.F T e_22 f_22 Gx_read_hung e_17 f_17 e_18 f_18;exact zt g_26 T e_22 f_22 Gx_read_hung e_8 f_8 e_16 f_16 e_17 f_17 e_18 f_18 e_23 f_23 e_24 f_24 e_21 f_21 e_25 f_25
end B
def PySem.W.Fast.tw4919924475794298628:Nat:=0
def PySem.W.Fast.tw11428411110870851691:Nat:=0
def PySem.W.Fast.tw14961291462196991185:Nat:=0
def PySem.W.Fast.tw18344844547467293670:Nat:=0
def PySem.W.Fast.tw8715092997589685278:Nat:=0
def PySem.W.Fast.tw16949799827109881480:Nat:=0
open PySem PySem.W PyProof.Rows
set_option maxRecDepth 100000 in
set_option maxHeartbeats 0 in
theorem PySem.Challenge.cw_boughdraw_k15_hung_refused_holds : PySem.Challenge.rw_boughdraw_k15_hung_refused.Holds := by
 w_on; o_law; k_head; (case hw => w_witness2)
 k_fill
 refine L3.AV (l := PySem.Challenge.rw_boughdraw_k15_hung_refused) (x := "_law_script") (k := 6) (fn := B.kY) rfl rfl ⟨rfl, by decide, by decide⟩ (fun w h Y => PySem.W.kIn_of Y) B.so ?F
 case F =>
  intro w mg fa h KX G hmg;refine' B.all_mk KX G hmg ?a_1 ?b_1 ?c_1 ?d_1 ?a_2 ?b_2 ?c_2 ?d_2 ?a_3 ?b_3 ?c_3 ?d_3 ?a_4 ?b_4 ?c_4 ?d_4 ?a_5 ?b_5 ?c_5 ?d_5 ?a_6 ?b_6 ?c_6 ?d_6 ?a_7 ?b_7 ?c_7 ?d_7 ?a_8 ?b_8 ?c_8 ?d_8 ?a_9 ?b_9 ?c_9 ?d_9 ?a_10 ?b_10 ?c_10 ?d_10 ?a_11 ?b_11 ?c_11 ?d_11 ?a_12 ?b_12 ?c_12 ?d_12 ?a_13 ?b_13 ?c_13 ?d_13 ?a_14 ?b_14 ?c_14 ?d_14 ?a_15 ?b_15 ?c_15 ?d_15 ?a_16 ?b_16 ?c_16 ?d_16 ?a_17 ?b_17 ?c_17 ?d_17 ?a_18 ?b_18 ?c_18 ?d_18 ?a_19 ?b_19 ?c_19 ?d_19 ?a_20 ?b_20 ?c_20 ?d_20 ?a_21 ?b_21 ?c_21 ?d_21 ?a_22 ?b_22 ?c_22 ?d_22 ?a_23 ?b_23 ?c_23 ?d_23 ?a_24 ?b_24 ?c_24 ?d_24 ?a_25 ?b_25 ?c_25 ?d_25 ?a_26 ?b_26 ?c_26 ?d_26 ?z0 ?z1 ?z2 ?z3 ?z4 ?z5 ?z6 ?z7 ?z8 ?z9 ?z10 ?z11 ?z12 ?z13 ?g_GREATEST_LEVEL ?g_GREATEST_TALL ?g_LETTERS ?g_LONGEST_LABEL ?g_MOST_NODES ?ca_DrawError ?ca_NoDeed ?ca_NoNode ?ca_NoPicture ?ca_NoPlace ?ca_NoText ?ca_NoTree ?ca_TooMany ?x_NoPicture1 ?x_NoPicture2 ?x_NoPicture3 ?x_NoPicture4 ?x_NoPicture5 ?x_NoTree1 ?x_NoTree2 ?x_NoTree3 ?x_NoTree4 ?x_NoTree5 ?h_DrawError ?h_NoPicture ?h_NoTree ?u_NoPicture_DrawError ?u_NoPicture_NoPicture ?u_NoTree_DrawError ?u_NoTree_NoTree ?w_NoPicture_NoTree ?k_NoPicture_NoPicture ?k_NoTree_NoPicture ?v_NoPicture_ValueError ?v_NoTree_ValueError ?t_NoPicture_NoNode_NoText_NoTree ?t_NoPicture_TooMany_NoDeed_NoPlace ?t_NoTree_NoNode_NoText_NoTree ?t_NoTree_TooMany_NoDeed_NoPlace
  case a_1|b_1|c_1|d_1|a_2|b_2|c_2|d_2|a_3|b_3|c_3|d_3|a_4|b_4|c_4|d_4|a_5|b_5|c_5|d_5|a_6|b_6|c_6|d_6|a_7|b_7|c_7|d_7|a_8|b_8|c_8|d_8|a_9|b_9|c_9|d_9|a_10|b_10|c_10|d_10|a_11|b_11|c_11|d_11|a_12|b_12|c_12|d_12|a_13|b_13|c_13|d_13|a_14|b_14|c_14|d_14|a_15|b_15|c_15|d_15|a_16|b_16|c_16|d_16|a_17|b_17|c_17|d_17|a_18|b_18|c_18|d_18|a_19|b_19|c_19|d_19|a_20|b_20|c_20|d_20|a_21|b_21|c_21|d_21|a_22|b_22|c_22|d_22|a_23|b_23|c_23|d_23|a_24|b_24|c_24|d_24|a_25|b_25|c_25|d_25|a_26|b_26|c_26|d_26|z0|z1|z2|z3|z4|z5|z6|z7|z8|z9|z10|z11|z12|z13|g_GREATEST_LEVEL|g_GREATEST_TALL|g_LETTERS|g_LONGEST_LABEL|g_MOST_NODES|ca_DrawError|ca_NoDeed|ca_NoNode|ca_NoPicture|ca_NoPlace|ca_NoText|ca_NoTree|ca_TooMany => k_is
  (case x_NoPicture1 => k_exc)
  (case x_NoPicture2 => first | k_is | kernel_rfl)
  (case x_NoPicture3 => first | k_is | kernel_rfl)
  (case x_NoPicture4 => first | k_is | kernel_rfl)
  (case x_NoPicture5 => first | k_is | kernel_rfl)
  (case x_NoTree1 => k_exc)
  (case x_NoTree2 => first | k_is | kernel_rfl)
  (case x_NoTree3 => first | k_is | kernel_rfl)
  (case x_NoTree4 => first | k_is | kernel_rfl)
  (case x_NoTree5 => first | k_is | kernel_rfl)
  (case h_DrawError => k_exc)
  (case h_NoPicture => k_exc)
  (case h_NoTree => k_exc)
  (case u_NoPicture_DrawError => first | k_is | kernel_rfl)
  (case u_NoPicture_NoPicture => first | k_is | kernel_rfl)
  (case u_NoTree_DrawError => first | k_is | kernel_rfl)
  (case u_NoTree_NoTree => first | k_is | kernel_rfl)
  (case w_NoPicture_NoTree => first | k_is | kernel_rfl)
  (case k_NoPicture_NoPicture => first | k_is | kernel_rfl)
  (case k_NoTree_NoPicture => first | k_is | kernel_rfl)
  (case v_NoPicture_ValueError => first | k_is | kernel_rfl)
  (case v_NoTree_ValueError => first | k_is | kernel_rfl)
  (case t_NoPicture_NoNode_NoText_NoTree => first | k_is | kernel_rfl)
  (case t_NoPicture_TooMany_NoDeed_NoPlace => first | k_is | kernel_rfl)
  (case t_NoTree_NoNode_NoText_NoTree => first | k_is | kernel_rfl)
  (case t_NoTree_TooMany_NoDeed_NoPlace => first | k_is | kernel_rfl)

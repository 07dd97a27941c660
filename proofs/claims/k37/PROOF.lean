import PyProof.Rows.All
import Wide.All
import OpenK.AllK
import Wide.FinOn
import Lean
import PyProof.EqAt
import PyProof.EqKinds
import PyProof.TupleCall
import PySem.Challenge.RW_boughdraw_k37_outlines
set_option Elab.async false
set_option linter.all false
set_option compiler.extract_closed false
set_option maxRecDepth 100000
namespace L2
open PySem PySem.Spec PyProof.Rows
noncomputable abbrev Key := Sum Int Str
noncomputable def wX : Key → Value → Bool
 | .inl k, v => Value.isInt k v
 | .inr x, v => Value.isStrOf x v
noncomputable def Dv (w : World) : Key → Int
 | .inl k => hashInt k
 | .inr x => hashStr w x
theorem cM : ∀ {k : Key} {v : Value}, wX k v = true → (∃ i t, k = Sum.inl i ∧ v = Value.int i t) ∨ (∃ x t, k = Sum.inr x ∧ v = Value.str x t)
 | .inl i, v, h => by
  obtain ⟨t, e⟩ := Value.isInt_shape (k := i) (v := v) h;exact .inl ⟨i, t, rfl, e⟩
 | .inr x, v, h => by
  obtain ⟨t, e⟩ := Value.isStrOf_shape (x := x) (v := v) h;exact .inr ⟨x, t, rfl, e⟩
theorem xW (a b : Int) : decide ((Sum.inl a : Key) = Sum.inl b) = (a == b) := by
 by_cases e : a = b
 ·subst e; simp
 ·have h : ¬ (Sum.inl a : Key) = Sum.inl b := fun q => e (Sum.inl.inj q)
  rw [decide_eq_false h];exact (beq_eq_false_iff_ne.mpr e).symm
theorem yq (a b : Str) : decide ((Sum.inr a : Key) = Sum.inr b) = decide (a = b) := by
 by_cases e : a = b
 ·subst e; simp
 ·have h : ¬ (Sum.inr a : Key) = Sum.inr b := fun q => e (Sum.inr.inj q)
  rw [decide_eq_false h, decide_eq_false e]
theorem yT (a : Int) (b : Str) : decide ((Sum.inl a : Key) = Sum.inr b) = false := decide_eq_false (fun q => nomatch q)
theorem zU (a : Str) (b : Int) : decide ((Sum.inr a : Key) = Sum.inl b) = false := decide_eq_false (fun q => nomatch q)
noncomputable def qr (prog : Program) (w : World) : PySem.KeyKind prog w Key where
 is := wX
 hash := Dv w
 inj := fun v a b ha hb => by
  rcases cM ha with ⟨i, t, rfl, rfl⟩ | ⟨x, t, rfl, rfl⟩
  ·rcases cM hb with ⟨j, u, rfl, e⟩ | ⟨y, u, rfl, e⟩
   ·injection e with e1 _; rw [e1]
   ·exact nomatch e
  ·rcases cM hb with ⟨j, u, rfl, e⟩ | ⟨y, u, rfl, e⟩
   ·exact nomatch e
   ·injection e with e1 _; rw [e1]
 byValue := fun k v h => by
  rcases cM h with ⟨i, t, rfl, rfl⟩ | ⟨x, t, rfl, rfl⟩ <;> rfl
 pyHash := fun hv h => by
  rcases cM hv with ⟨i, t, rfl, rfl⟩ | ⟨x, t, rfl, rfl⟩
  ·exact wpAny_pyHash_int h
  ·exact wpAny_pyHash_str h
 eqBool := fun hu hv h => by
  rcases cM hu with ⟨i, t, rfl, rfl⟩ | ⟨x, t, rfl, rfl⟩
  ·rcases cM hv with ⟨j, u, rfl, rfl⟩ | ⟨y, u, rfl, rfl⟩
   ·rw [xW] at h; exact wpAny_eqBool_int h
   ·rw [yT] at h; exact SeqAt.EqAt.int_str i t y u _ _ _ _ h
  ·rcases cM hv with ⟨j, u, rfl, rfl⟩ | ⟨y, u, rfl, rfl⟩
   ·rw [zU] at h; exact SeqAt.EqAt.str_int x t j u _ _ _ _ h
   ·rw [yq] at h; exact wpAny_eqBool_str h
 «strs» := fun k x t v h => by
  rcases cM h with ⟨i, u, rfl, e⟩ | ⟨y, u, rfl, e⟩
  ·exact nomatch e
  ·injection e with e1 _
   subst e1;cases v <;> rfl
end L2
namespace L2
open PySem PySem.Spec PyProof.Rows
inductive V where
 | non | bl (b : Bool) | int (i : Int) | str (x : Str) | byt (b : Array UInt8) | flt (b : UInt64) | ref (a : Addr) | ty (n : String)
 deriving DecidableEq
noncomputable def RelV : V → Value → Prop
 | .non, u => u = Value.none
 | .bl b, u => u = Value.bool b
 | .int i, u => ∃ t, u = Value.int i t
 | .str x, u => ∃ t, u = Value.str x t
 | .byt b, u => ∃ t, u = Value.bytes b t
 | .flt b, u => ∃ t, u = Value.float b t
 | .ref a, u => u = Value.ref a
 | .ty n, u => u = Value.type n
noncomputable abbrev Vals : List V → List Value → Prop := Paired RelV
theorem Vals.length {xs : List V} {us : List Value} (r : Vals xs us) : xs.length = us.length := Paired.length r
theorem Vals.get : ∀ {xs : List V} {us : List Value} {i : Nat} {x : V}, Vals xs us → xs[i]? = some x → ∃ u, us[i]? = some u ∧ RelV x u
 | _, _, _, _, .nil, e => by simp at e
 | _, _, 0, _, .cons r _, e => by simp at e; subst e; exact ⟨_, rfl, r⟩
 | _, _, i + 1, x, .cons _ t, e => by
  obtain ⟨u, h1, h2⟩ := Vals.get (i := i) (x := x) t (by simpa using e)
  exact ⟨u, by simpa using h1, h2⟩
theorem Vals.set {x : V} {u : Value} (r : RelV x u) : ∀ {xs : List V} {us : List Value} (i : Nat), Vals xs us → Vals (xs.set i x) (us.set i u)
 | _, _, _, .nil => .nil
 | _, _, 0, .cons _ t => .cons r t
 | _, _, i + 1, .cons q t => .cons q (Vals.set r i t)
theorem Vals.append : ∀ {xs ys : List V} {us ws : List Value}, Vals xs us → Vals ys ws → Vals (xs ++ ys) (us ++ ws)
 | _, _, _, _, .nil, s => s
 | _, _, _, _, .cons r t, s => .cons r (Vals.append t s)
theorem Vals.take : ∀ {xs : List V} {us : List Value} (n : Nat), Vals xs us → Vals (xs.take n) (us.take n)
 | _, _, 0, _ => .nil
 | _, _, _ + 1, .nil => .nil
 | _, _, n + 1, .cons r t => .cons r (Vals.take n t)
theorem Vals.drop : ∀ {xs : List V} {us : List Value} (n : Nat), Vals xs us → Vals (xs.drop n) (us.drop n)
 | _, _, 0, r => r
 | _, _, _ + 1, .nil => .nil
 | _, _, n + 1, .cons _ t => Vals.drop n t
noncomputable def BA : Option V → Option Value → Prop
 | some v, some u => RelV v u
 | none, none => True
 | _, _ => False
noncomputable def KV {κ : Type} : List (κ × V) → List (κ × Value) → Prop := Paired fun (p : κ × V) (q : κ × Value) => p.1 = q.1 ∧ RelV p.2 q.2
noncomputable def kV : Key → V
 | .inl i => .int i
 | .inr x => .str x
inductive HO where
 | lst (xs : List V)
 | tup (xs : List V)
 | dK (kvs : List (Key × V)) | dT (kvs : List (List Key × V))
 | set (S : Int → Bool) (n : Nat)
 | ins (C dx : Addr) (fs : List (Str × V))
 | own (x : Addr)
 | xd (fs : List (Str × V))
 | met (f x : Addr)
 | rng (lo hi : Int)
 | frz (o : Obj) (u : HO)
 | tbl (ps : Array Value)
 | ext (φ : Heap → Prop)
noncomputable abbrev Hp := Addr → Option HO
noncomputable def upd (H : Hp) (a : Addr) (o : HO) : Hp := fun b => if b = a then some o else H b
theorem bL {H : Hp} {a : Addr} {o : HO} : upd H a o a = some o := by unfold upd; rw [if_pos rfl]
theorem aM {H : Hp} {a b : Addr} {o : HO} (h : b ≠ a) : upd H a o b = H b := by unfold upd; rw [if_neg h]
theorem aP {H : Hp} {a b : Addr} {o : HO} (h : H a = some o) (h' : H b = none) : a ≠ b := by
 intro e; subst e; rw [h] at h'; cases h'
section
variable (P : Program) (w : World)
noncomputable def eZ (H : Hp) (h : Heap) (a : Addr) : HO → Prop
 | .lst xs => xs.length ≤ sizeLine ∧ ∃ (its : List Value) (n : Nat), Vals xs its ∧ h.get? a = some { cls := .type "list", data := .seq its.toArray n }
 | .tup xs => xs.length ≤ sizeLine ∧ ∃ its : List Value, Vals xs its ∧ IsTup h a its.toArray
 | .dK kvs => kvs.length ≤ sizeLine ∧ (a == sysModules) = false ∧ ∃ vs, KV kvs vs ∧ h.DictOf (qr P w) a vs
 | .dT kvs => kvs.length ≤ sizeLine ∧ (a == sysModules) = false ∧ ∃ xs : List (List Key × Addr × Value),
   Paired (fun (p : List Key × V) (q : List Key × Addr × Value) => p.1 = q.1 ∧ H q.2.1 = some (.tup (p.1.map kV)) ∧ RelV p.2 q.2.2) kvs xs ∧
   ∃ o es ep, h.get? a = some o ∧ o.ExactDict ∧ o.data = .dict es ep ∧ es.toList = xs.map (entryOfKey (tupleKind (qr P w))) ∧ (xs.map (·.1)).Nodup
 | .set S n => h.SetOf (intKind P w) a S n
 | .ins C dx fs => H dx = some (.own a) ∧ fs.length ≤ 1000 ∧ dx ≠ a ∧ h.get? a = some (PySem.W.instObj C dx) ∧
   ∃ mA, h.Ns1 dx mA ∧ (∀ f, BA (fs.lookup f) (mA f)) ∧ PySem.Within mA (fs.map (·.1))
 | .own _ => ∃ o, h.get? a = some o
 | .xd fs => ∃ mA, h.Ns1 a mA ∧ ∀ f, BA (fs.lookup f) (mA f)
 | .rng lo hi => ∃ t u v, h.get? a = some { cls := .type "range", data := .fields #[.int lo t, .int hi u, .int 1 v] }
 | .frz o u => h.get? a = some o ∧ eZ H h a u
 | .tbl ps => h.get? a = some { cls := .none, data := .fields ps }
 | .met f x => h.get? a = some (PySem.W.methodObj (.ref f) (.ref x))
 | .ext φ => φ h ∧ (∃ o, h.get? a = some o) ∧ ∀ h1 h2 : Heap, φ h1 → (∀ o, h1.get? a = some o → h2.get? a = some o) → φ h2
noncomputable def HOk (H : Hp) (h : Heap) : Prop := ∀ a o, H a = some o → eZ P w H h a o
end
section
variable {P : Program} {w : World} {H H' : Hp} {h h' : Heap} {a : Addr} {o : HO}
theorem eZ.lt (x : eZ P w H h a o) : a < h.objs.size := by
 cases o with
 | lst xs => obtain ⟨_, _, _, _, e⟩ := x; exact Heap.lt_size e
 | tup xs => obtain ⟨_, _, _, p⟩ := x; exact p.lt
 | dK kvs => obtain ⟨_, _, _, _, o, _, _, e, _⟩ := x; exact Heap.lt_size e
 | dT kvs => obtain ⟨_, _, _, _, o, _, _, e, _⟩ := x; exact Heap.lt_size e
 | set S n => obtain ⟨o, _, _, _, e, _⟩ := x; exact Heap.lt_size e
 | ins C dx fs => obtain ⟨_, _, _, e, _⟩ := x; exact Heap.lt_size e
 | own y => obtain ⟨_, e⟩ := x; exact Heap.lt_size e
 | xd fs => obtain ⟨_, ⟨_, _, _, e, _⟩, _⟩ := x; exact Heap.lt_size e
 | rng lo hi => obtain ⟨_, _, _, e⟩ := x; exact Heap.lt_size e
 | frz ob u => obtain ⟨e, _⟩ := x; exact Heap.lt_size e
 | tbl ps => exact Heap.lt_size (show h.get? a = some _ from x)
 | met f y => exact Heap.lt_size (show h.get? a = some _ from x)
 | ext φ => obtain ⟨_, ⟨_, e⟩, _⟩ := x; exact Heap.lt_size e
theorem Paired.mapP {α β : Type} {F G : α → β → Prop} : ∀ {l₁ : List α} {l₂ : List β}, Paired F l₁ l₂ → (∀ a b, F a b → G a b) → Paired G l₁ l₂
 | _, _, .nil, _ => .nil
 | _, _, .cons r t, f => .cons (f _ _ r) (Paired.mapP t f)
theorem eZ.stay (x : eZ P w H h a o) (k : ∀ b u, (b = a ∨ H b = some (.own a)) → h.get? b = some u → h'.get? b = some u)
  (ho : ∀ b, H b = some (.own a) → H' b = some (.own a)) (ht : ∀ b xs, H b = some (.tup xs) → H' b = some (.tup xs)) : eZ P w H' h' a o := by
 induction o with
 | lst xs => obtain ⟨z, its, n, r, e⟩ := x; exact ⟨z, its, n, r, k _ _ (.inl rfl) e⟩
 | tup xs => obtain ⟨z, its, r, ob, e, c⟩ := x; exact ⟨z, its, r, ob, k _ _ (.inl rfl) e, c⟩
 | dK kvs => obtain ⟨z, y, vs, r, ob, es, ep, e, c⟩ := x; exact ⟨z, y, vs, r, ob, es, ep, k _ _ (.inl rfl) e, c⟩
 | dT kvs =>
  obtain ⟨z, y, xs, r, ob, es, ep, e, c⟩ := x;exact ⟨z, y, xs, Paired.mapP r fun p q z => ⟨z.1, ht _ _ z.2.1, z.2.2⟩, ob, es, ep, k _ _ (.inl rfl) e, c⟩
 | set S n => obtain ⟨ob, es, ep, t, e, c⟩ := x; exact ⟨ob, es, ep, t, k _ _ (.inl rfl) e, c⟩
 | ins C dx fs =>
  obtain ⟨d, z, ne, e, mA, ⟨od, es, ep, e2, c⟩, r⟩ := x;exact ⟨ho _ d, z, ne, k _ _ (.inl rfl) e, mA, ⟨od, es, ep, k _ _ (.inr d) e2, c⟩, r⟩
 | own y => obtain ⟨ob, e⟩ := x; exact ⟨ob, k _ _ (.inl rfl) e⟩
 | xd fs => obtain ⟨mA, ⟨od, es, ep, e, c⟩, r⟩ := x; exact ⟨mA, ⟨od, es, ep, k _ _ (.inl rfl) e, c⟩, r⟩
 | rng lo hi => obtain ⟨t, u, v, e⟩ := x; exact ⟨t, u, v, k _ _ (.inl rfl) e⟩
 | frz ob u ih => obtain ⟨e, q⟩ := x; exact ⟨k _ _ (.inl rfl) e, ih q⟩
 | tbl ps =>
  have e : h.get? a = some { cls := .none, data := .fields ps } := x;show h'.get? a = some { cls := .none, data := .fields ps }
  exact k a _ (.inl rfl) e
 | met f y =>
  have e : h.get? a = some (PySem.W.methodObj (.ref f) (.ref y)) := x;show h'.get? a = some (PySem.W.methodObj (.ref f) (.ref y))
  exact k a _ (.inl rfl) e
 | ext φ => obtain ⟨p, ⟨o, e⟩, st⟩ := x; exact ⟨st _ _ p fun o q => k _ _ (.inl rfl) q, ⟨o, k _ _ (.inl rfl) e⟩, st⟩
theorem HOk.lt (x : HOk P w H h) (e : H a = some o) : a < h.objs.size := (x a o e).lt
theorem HOk.fresh (x : HOk P w H h) (e : h.objs.size ≤ a) : H a = none := by
 cases q : H a with
 | none => rfl
 | some u => exact absurd (Nat.lt_of_lt_of_le (x.lt q) e) (Nat.lt_irrefl _)
theorem HOk.kept (x : HOk P w H h) (k : ∀ b u, h.get? b = some u → h'.get? b = some u) : HOk P w H h' := fun a o e =>
 (x a o e).stay (fun b u _ q => k b u q) (fun _ q => q) fun _ _ q => q
theorem HOk.laid (x : HOk P w H h) (k : ∀ b u, h.get? b = some u → h'.get? b = some u) (hp : h.objs.size ≤ a) (new : eZ P w (upd H a o) h' a o) : HOk P w (upd H a o) h' := fun b u e => by
 have hn := x.fresh hp;by_cases hb : b = a
 ·subst hb; rw [bL] at e; cases e; exact new
 ·rw [aM hb] at e
  exact (x b u e).stay (fun c v _ q => k c v q) (fun c q => by rw [aM (aP q hn)]; exact q) fun c xs q => by rw [aM (aP q hn)]; exact q
end
noncomputable def Rd (H : Hp) (a : Addr) (u : HO) : Prop := H a = some u ∨ ∃ o, H a = some (.frz o u)
theorem Rd.ok {P : Program} {w : World} {H : Hp} {h : Heap} {a : Addr} {u : HO} (r : Rd H a u) (x : HOk P w H h) : eZ P w H h a u := by
 rcases r with r | ⟨o, r⟩
 ·exact x a u r
 ·obtain ⟨_, q⟩ := x a _ r
  exact q
noncomputable def Mut : Option HO → Prop
 | some (.lst _) => True
 | some (.dK _) => True
 | some (.dT _) => True
 | some (.set _ _) => True
 | some (.ins _ _ _) => True
 | some (.ext _) => True
 | _ => False
section
variable {P : Program} {w : World} {H : Hp} {h h' : Heap} {x e : Addr} {o' : HO}
theorem HOk.write (ok : HOk P w H h) (mu : Mut (H x)) (he : e = x ∨ H e = some (.own x)) (k : ∀ b u, b ≠ e → h.get? b = some u → h'.get? b = some u) (heo : ∃ u, h'.get? e = some u)
  (new : eZ P w (upd H x o') h' x o') : HOk P w (upd H x o') h' := fun b u q => by
 have nown : ∀ c y, H c = some (.own y) → c ≠ x := fun c y r z => by subst z; rw [r] at mu; exact mu
 have ntup : ∀ c xs, H c = some (.tup xs) → c ≠ x := fun c xs r z => by subst z; rw [r] at mu; exact mu
 by_cases hb : b = x
 ·subst hb; rw [bL] at q; cases q; exact new
 ·rw [aM hb] at q
  by_cases hbe : b = e
  ·have q' : H b = some (.own x) := by
    rcases he with z | z
    ·exact absurd (hbe.trans z) hb
    ·rw [hbe]; exact z
   rw [q] at q'; cases q';obtain ⟨v, hv⟩ := heo;exact ⟨v, by rw [hbe]; exact hv⟩
  ·refine (ok b u q).stay (fun c v hc r => k c v ?_ r) (fun c r => by rw [aM (nown c b r)]; exact r) fun c xs r => by rw [aM (ntup c xs r)]; exact r
   rcases hc with rfl | hc
   ·exact hbe
   ·rintro rfl
    rcases he with z | z
    ·exact nown c b hc z
    ·rw [hc] at z; cases z; exact hb rfl
end
structure Un (fs ex : List Addr) (H H' : Hp) (h h' : Heap) : Prop where
 keep : ∀ b o, h.get? b = some o → H b = none → b ∉ fs → b ∉ ex → h'.get? b = some o
 slot : ∀ b o, h.get? b = some o → H b = none → b ∈ fs → b ∉ ex → ∃ sl, h'.get? b = some { o with slots := sl }
 free : ∀ b o, h.get? b = some o → H b = none → b ∉ ex → H' b = none
 there : ∀ b o, h.get? b = some o → b ∉ ex → ∃ o', h'.get? b = some o'
 tups : ∀ b xs, H b = some (.tup xs) → H' b = some (.tup xs)
 frzs : ∀ b o u, H b = some (.frz o u) → H' b = some (.frz o u)
 tbls : ∀ b ps, H b = some (.tbl ps) → ∃ more, H' b = some (.tbl (ps ++ more))
section
variable {fs fs' ex ex' : List Addr} {H H1 H2 : Hp} {h h1 h2 h' : Heap} {a x e : Addr} {o : HO}
theorem Un.any (u : Un fs ex H H1 h h1) {b : Addr} {ob : Obj} (q : h.get? b = some ob) (n : H b = none) (hx : b ∉ ex) : ∃ sl, h1.get? b = some { ob with slots := sl } := by
 by_cases hb : b ∈ fs
 ·exact u.slot b ob q n hb hx
 ·exact ⟨ob.slots, u.keep b ob q n hb hx⟩
theorem Un.kept (k : ∀ b u, h.get? b = some u → h'.get? b = some u) : Un fs ex H H h h' :=
 ⟨fun b ob q _ _ _ => k b ob q, fun b ob q _ _ _ => ⟨ob.slots, k b ob q⟩, fun _ _ _ n _ => n, fun b ob q _ => ⟨ob, k b ob q⟩, fun _ _ q => q, fun _ _ _ q => q, fun _ ps q => ⟨#[], by rw [q]; simp⟩⟩
theorem Un.refl : Un fs ex H H h h := Un.kept fun _ _ q => q
theorem Un.laid (k : ∀ b u, h.get? b = some u → h'.get? b = some u) (hp : h.objs.size ≤ a) (hn : H a = none) : Un fs ex H (upd H a o) h h' where
 keep := fun b u q _ _ _ => k b u q
 slot := fun b u q _ _ _ => ⟨u.slots, k b u q⟩
 free := fun b u q n _ => by rw [aM (Nat.ne_of_lt (Nat.lt_of_lt_of_le (Heap.lt_size q) hp))]; exact n
 there := fun b u q _ => ⟨u, k b u q⟩
 tups := fun b xs q => by rw [aM (aP q hn)]; exact q
 frzs := fun b u xs q => by rw [aM (aP q hn)]; exact q
 tbls := fun b ps q => ⟨#[], by rw [aM (aP q hn), q]; simp⟩
theorem Un.write (mu : Mut (H x)) (he : e = x ∨ H e = some (.own x)) (k : ∀ b u, b ≠ e → h.get? b = some u → h'.get? b = some u) (heo : ∃ u, h'.get? e = some u) : Un fs ex H (upd H x o) h h' := by
 have hx : ∀ b, H b = none → b ≠ x := fun b n z => by subst z; rw [n] at mu; exact mu
 have hb : ∀ b, H b = none → b ≠ e := fun b n z => by
  subst z;rcases he with r | r
  ·exact hx b n r
  ·rw [n] at r; cases r
 have hm : ∀ b u, H b = some u → ¬ Mut (some u) → b ≠ x := fun b u q nm z => by subst z; rw [q] at mu; exact nm mu
 refine ⟨fun b u q n _ _ => k b u (hb b n) q, fun b u q n _ _ => ⟨u.slots, k b u (hb b n) q⟩, fun b u q n _ => by rw [aM (hx b n)]; exact n, fun b u q _ => ?_,
  fun b xs q => by rw [aM (hm b _ q fun z => z)]; exact q, fun b u xs q => by rw [aM (hm b _ q fun z => z)]; exact q, fun b ps q => ⟨#[], by rw [aM (hm b _ q fun z => z), q]; simp⟩⟩
 by_cases hbe : b = e
 ·subst hbe; exact heo
 ·exact ⟨u, k b u hbe q⟩
end
noncomputable def trk (h : Heap) (H : Hp) : List Addr := (List.range h.objs.size).filter fun a => (H a).isSome
noncomputable def i4 (h : Heap) (H : Hp) : Heap := PySem.W.hideAll h (trk h H)
theorem lJ (h : Heap) (H : Hp) : (i4 h H).objs.size = h.objs.size := PySem.W.hideAll_size _ _
theorem oK {h : Heap} {H : Hp} {b : Addr} {o : Obj} (e : h.get? b = some o) (n : H b = none) : (i4 h H).get? b = some o :=
 PySem.W.hideAll_get _ e fun hm => by
  have q : (H b).isSome = true := (List.mem_filter.mp hm).2;rw [n] at q; simp at q
theorem p8 {h : Heap} {H : Hp} {b : Addr} {o : Obj} (e : (i4 h H).get? b = some o) : h.get? b = some o ∧ H b = none := by
 have e' : h.get? b = some o := PySem.W.of_hideAll (trk h H) e;refine ⟨e', ?_⟩;cases q : H b with
 | none => rfl
 | some x =>
  have hm : b ∈ trk h H := List.mem_filter.mpr ⟨List.mem_range.mpr (Heap.lt_size e'), by simp [q]⟩
  have z : (i4 h H).get? b = none := PySem.W.hideAll_none (trk h H) hm;rw [z] at e; cases e
noncomputable def vz (g h : Heap) (L : Addr) : List (Addr × Obj) := (List.range h.objs.size).filterMap fun a => if a = L ∨ (g.get? a).isSome = true then none else (h.get? a).map fun o => (a, o)
noncomputable def rest (g h : Heap) (L d : Addr) : List (Addr × Obj) := (vz g h L).filter fun p => decide (p.1 ≠ d)
end L2
namespace L2
open PySem PySem.Spec PyProof.Rows
structure Mod (K : PySem.W.Frag) (mg : Str → Option Value) (base : Heap) : Prop where
 kin : K.In base
 glob : base.Ns mainGlobals mg
 blt : ∃ mb, base.Ns builtinsNs mb ∧ ∀ x : Str, x ≠ "__name__" → mb x = bootBuiltins x
 nolimit : base.NoLimit
structure Cx where
 prog : Program
 w : World
 K : PySem.W.Frag
 mg : Str → Option Value
 base : Heap
 A : Around
 N : List Str
 s₀ : Shared
 H₀ : Hp
 env : Env
 outer : List Env
 stack : List Env
 ex : List Addr
 fn : Str → Bool
 calm : Bool
 pn : List (Addr × Obj)
 xe : Value → Shared → Prop
noncomputable def frs (l : List Env) : List Addr := l.filterMap (·.frame)
noncomputable abbrev Cx.fs (X : Cx) : List Addr := frs X.outer
noncomputable def Vis (sc : Scope) (x : Str) : Prop := sc.names.lookup x = some .local ∨ sc.names.lookup x = some .cell ∨ sc.names.lookup x = some .free
noncomputable def Loc (sc : Scope) (x : Str) : Prop := sc.names.lookup x = some .local ∨ sc.names.lookup x = some .cell
noncomputable def Look (env : Env) (h : Heap) (m : Str → Option Value) (x : Str) (u : Value) : Prop :=
 (env.kindOf x = some .local ∧ m x = some u) ∨ ((env.kindOf x = some .cell ∨ env.kindOf x = some .free) ∧ ∃ c, env.cells.lookup x = some c ∧ h.IsCell c (some u))
structure Cx.Ok (X : Cx) : Prop where
 mod : Mod X.K X.mg X.base
 kind : X.env.scope.kind = .function
 glob : X.env.globals = mainGlobals
 blt : X.env.builtins = builtinsNs
 above : X.s₀.heap.objs.size ≤ X.env.locals
 inj : ∀ x y c, X.env.cells.lookup x = some c → X.env.cells.lookup y = some c → x = y
 has : ∀ x, (X.env.kindOf x = some .cell ∨ X.env.kindOf x = some .free) → ∃ c, X.env.cells.lookup x = some c
 cab : ∀ x c, X.fn x = true → X.env.cells.lookup x = some c → X.s₀.heap.objs.size ≤ c
 hd : X.calm = true → X.A.handled = none
 frames : X.A.frames = some X.stack
 stk : X.stack = X.outer ∨ (X.stack = X.env :: X.outer ∧ X.env.frame = some X.env.locals)
 exf : ∀ b ∈ X.ex, b ≠ X.env.locals ∧ ∀ x c, X.env.cells.lookup x = some c → c ≠ b
 bs : ∀ b o, X.base.get? b = some o → X.s₀.heap.get? b = some o ∧ X.H₀ b = none
 bsz : X.base.objs.size ≤ X.s₀.heap.objs.size
 noex : ∀ b o, X.base.get? b = some o → b ∉ X.ex
 exfs : ∀ b ∈ X.ex, b ∉ X.fs
 funs : X.s₀.heap.FunFrames X.base X.outer
 frf : ∀ b ∈ X.fs, X.H₀ b = none
structure Inv (X : Cx) (pins : List (Addr × Obj)) (σ : List (Option V)) (H : Hp) (s : Shared) : Prop where
 ok : X.Ok
 os : s.os = X.s₀.os
 bare : AllBare s.gens
 base : Un X.fs X.ex X.H₀ H X.s₀.heap s.heap
 loc : ∃ m, s.heap.Ns X.env.locals m ∧ ∀ (i : Nat) (x : Str) (v : V), X.N[i]? = some x → σ[i]? = some (some v) → Vis X.env.scope x → ∃ u, RelV v u ∧ Look X.env s.heap m x u
 cell : ∀ x c, X.env.cells.lookup x = some c → ∃ v, s.heap.IsCell c v
 free : H X.env.locals = none
 freeC : ∀ x c, X.env.cells.lookup x = some c → H c = none
 pin : ∀ p ∈ X.pn ++ pins, s.heap.get? p.1 = some p.2 ∧ H p.1 = none ∧ p.1 ≠ X.env.locals ∧ p.1 ∉ X.fs ∧ ∀ v, p.2.data ≠ .cell v
 hok : HOk X.prog X.w H s.heap
 len : σ.length = X.N.length
section
variable {X : Cx} {pins : List (Addr × Obj)} {σ : List (Option V)} {H H' : Hp} {s : Shared} {h' : Heap}
theorem Cx.Ok.nofr (ok : X.Ok) {b : Addr} {o : Obj} (e : X.base.get? b = some o) : b ∉ X.fs := fun hb => by
 have := (ok.funs.mem hb).1;rw [e] at this; cases this
theorem Inv.bs (I : Inv X pins σ H s) : ∀ b o, X.base.get? b = some o → s.heap.get? b = some o ∧ H b = none := fun b o e =>
 ⟨I.base.keep b o (I.ok.bs b o e).1 (I.ok.bs b o e).2 (I.ok.nofr e) (I.ok.noex b o e), I.base.free b o (I.ok.bs b o e).1 (I.ok.bs b o e).2 (I.ok.noex b o e)⟩
theorem Inv.bk (I : Inv X pins σ H s) : ∀ b o, X.base.get? b = some o → s.heap.get? b = some o := fun b o e => (I.bs b o e).1
theorem Inv.mod (I : Inv X pins σ H s) : Mod X.K X.mg X.base := I.ok.mod
theorem Inv.kIn (I : Inv X pins σ H s) : X.K.In s.heap := I.ok.mod.kin.keeps I.bk
theorem Inv.fr (I : Inv X pins σ H s) : ∃ m, Fr X.base X.env.locals s.heap m :=
 let ⟨m, hn, _⟩ := I.loc
 ⟨m, hn, I.bk, Nat.le_trans I.ok.bsz I.ok.above⟩
theorem Inv.lt (I : Inv X pins σ H s) : X.env.locals < s.heap.objs.size := let ⟨_, hn, _⟩ := I.loc; hn.lt
theorem Inv.sz (I : Inv X pins σ H s) : X.s₀.heap.objs.size ≤ s.heap.objs.size := Nat.le_trans I.ok.above (Nat.le_of_lt I.lt)
theorem Inv.nofs (I : Inv X pins σ H s) {a : Addr} (h : s.heap.objs.size ≤ a) : a ∉ X.fs := fun hb => by
 obtain ⟨_, o, ho, _⟩ := I.ok.funs.mem hb;exact absurd (Nat.lt_of_lt_of_le (Heap.lt_size ho) (Nat.le_trans I.sz h)) (Nat.lt_irrefl _)
theorem Inv.cne (I : Inv X pins σ H s) : ∀ x c, X.env.cells.lookup x = some c → c ≠ X.env.locals := fun x c e z => by
 obtain ⟨v, o, ho, hd⟩ := I.cell x c e;obtain ⟨m, ⟨o', es, ep, ho', hd', _⟩, _⟩ := I.loc;rw [z, ho'] at ho; cases ho; rw [hd'] at hd; cases hd
theorem Inv.funs (I : Inv X pins σ H s) : s.heap.FunFrames X.base X.outer := by
 have all : ∀ (l : List Env), (∀ b ∈ frs l, b ∈ X.fs) → X.s₀.heap.FunFrames X.base l → s.heap.FunFrames X.base l := by
  intro l
  induction l with
  | nil => intro _ _; trivial
  | cons env r ih =>
   intro hs hl;obtain ⟨hk, ⟨L, o, hf, hn, ho, hd⟩, hr⟩ := hl;have hL : L ∈ X.fs := hs L (by unfold frs; rw [List.filterMap_cons, hf]; exact List.mem_cons_self)
   obtain ⟨sl, e⟩ := I.base.slot L o ho (I.ok.frf L hL) hL fun z => I.ok.exfs L z hL
   exact ⟨hk, ⟨L, _, hf, hn, e, hd⟩, ih (fun b hb => hs b (by unfold frs; rw [List.filterMap_cons, hf]; exact List.mem_cons_of_mem _ hb)) hr⟩
 exact all X.outer (fun _ hb => hb) I.ok.funs
theorem Inv.stack (I : Inv X pins σ H s) : s.heap.FunFrames X.base X.stack := by
 rcases I.ok.stk with e | ⟨e, hf⟩
 ·rw [e]; exact I.funs
 ·rw [e]
  obtain ⟨m, hn, _⟩ := I.loc;refine .cons (by rw [I.ok.kind]; decide) hf hn ?_ I.funs
  exact Heap.get?_none_of_le (Nat.le_trans I.ok.bsz I.ok.above)
theorem Inv.stkSub (I : Inv X pins σ H s) : ∀ b ∈ frs X.stack, b ∈ X.env.locals :: X.fs := fun b hb => by
 rcases I.ok.stk with e | ⟨e, hf⟩
 ·rw [e] at hb; exact List.mem_cons_of_mem _ hb
 ·rw [e] at hb
  unfold frs at hb;rw [List.filterMap_cons, hf] at hb;exact hb
theorem Inv.stkFree (I : Inv X pins σ H s) : ∀ b ∈ frs X.stack, H b = none := fun b hb => by
 rcases List.mem_cons.mp (I.stkSub b hb) with e | hb
 ·rw [e]; exact I.free
 ·obtain ⟨_, o, ho, _⟩ := I.ok.funs.mem hb
  exact I.base.free b o ho (I.ok.frf b hb) fun z => I.ok.exfs b z hb
theorem Inv.step {g' : Array GenState} {t' : Nat} {d' : Drawn} {ch : List Addr} (I : Inv X pins σ H s)
  (hch : ∀ b ∈ ch, (b ∈ X.ex ∨ X.s₀.heap.objs.size ≤ b) ∧ b ≠ X.env.locals ∧ (∀ x c, X.env.cells.lookup x = some c → c ≠ b) ∧ ∀ p ∈ X.pn ++ pins, p.1 ≠ b)
  (keep : ∀ b o, b ≠ X.env.locals → b ∉ X.fs → b ∉ ch → s.heap.get? b = some o → H b = none → h'.get? b = some o)
  (slot : ∀ b o, b ≠ X.env.locals → b ∈ X.fs → b ∉ ch → s.heap.get? b = some o → H b = none → ∃ sl, h'.get? b = some { o with slots := sl }) (free : ∀ b o, b ∉ ch → s.heap.get? b = some o → H b = none → H' b = none)
  (there : ∀ b o, b ∉ ch → s.heap.get? b = some o → ∃ o', h'.get? b = some o')
  (tups : ∀ b xs, H b = some (.tup xs) → H' b = some (.tup xs)) (frzs : ∀ b o u, H b = some (.frz o u) → H' b = some (.frz o u)) (tbls : ∀ b ps, H b = some (.tbl ps) → ∃ more, H' b = some (.tbl (ps ++ more)))
  (ns : ∀ m, s.heap.Ns X.env.locals m → h'.Ns X.env.locals m) (hok : HOk X.prog X.w H' h') (hg : AllBare g') :
  Inv X pins σ H' { s with heap := h', gens := g', drawn := d', toks := t' } := by
 have neL : ∀ b o, X.s₀.heap.get? b = some o → b ≠ X.env.locals := fun b o e => Nat.ne_of_lt (Nat.lt_of_lt_of_le (Heap.lt_size e) I.ok.above)
 have neC : ∀ b o, X.s₀.heap.get? b = some o → b ∉ X.ex → b ∉ ch := fun b o e hx hb => by
  rcases (hch b hb).1 with z | z
  ·exact hx z
  ·exact absurd (Nat.lt_of_lt_of_le (Heap.lt_size e) z) (Nat.lt_irrefl _)
 have cellK : ∀ x c, X.env.cells.lookup x = some c → ∀ v, s.heap.IsCell c v → h'.IsCell c v := fun x c e v ⟨o, ho, hd⟩ => by
  have nch : c ∉ ch := fun z => (hch c z).2.2.1 x c e rfl
  by_cases hc : c ∈ X.fs
  ·obtain ⟨sl, q⟩ := slot c o (I.cne x c e) hc nch ho (I.freeC x c e)
   exact ⟨_, q, hd⟩
  ·exact ⟨o, keep c o (I.cne x c e) hc nch ho (I.freeC x c e), hd⟩
 refine ⟨I.ok, I.os, hg, ⟨fun b o e n hb hx => ?_, fun b o e n hb hx => ?_, fun b o e n hx => ?_, fun b o e hx => ?_, fun b xs e => tups b xs (I.base.tups b xs e), fun b o xs e => frzs b o xs (I.base.frzs b o xs e), fun b ps e => ?_⟩, ?_, fun x c e => ?_, ?_, fun x c e => ?_, fun p hp => ?_, hok, I.len⟩
 ·exact keep b o (neL b o e) hb (neC b o e hx) (I.base.keep b o e n hb hx) (I.base.free b o e n hx)
 ·obtain ⟨sl, e1⟩ := I.base.slot b o e n hb hx
  obtain ⟨sl', e2⟩ := slot b _ (neL b o e) hb (neC b o e hx) e1 (I.base.free b o e n hx);exact ⟨sl', e2⟩
 ·obtain ⟨o', e1⟩ := I.base.there b o e hx
  exact free b o' (neC b o e hx) e1 (I.base.free b o e n hx)
 ·obtain ⟨o', e1⟩ := I.base.there b o e hx
  exact there b o' (neC b o e hx) e1
 ·obtain ⟨m1, e1⟩ := I.base.tbls b ps e
  obtain ⟨m2, e2⟩ := tbls b _ e1;exact ⟨m1 ++ m2, by rw [e2, Array.append_assoc]⟩
 ·obtain ⟨m, hn, hl⟩ := I.loc
  refine ⟨m, ns m hn, fun i x v e1 e2 e3 => ?_⟩
  obtain ⟨u, r, l⟩ := hl i x v e1 e2 e3;refine ⟨u, r, ?_⟩;rcases l with l | ⟨k, c, e, z⟩
  ·exact .inl l
  ·exact .inr ⟨k, c, e, cellK x c e _ z⟩
 ·obtain ⟨v, z⟩ := I.cell x c e
  exact ⟨v, cellK x c e v z⟩
 ·obtain ⟨m, ⟨o, _, _, ho, _⟩, _⟩ := I.loc
  exact free _ o (fun z => (hch _ z).2.1 rfl) ho I.free
 ·obtain ⟨v, o, ho, hd⟩ := I.cell x c e
  exact free c o (fun z => (hch c z).2.2.1 x c e rfl) ho (I.freeC x c e)
 ·obtain ⟨e, n, ne, nf, d⟩ := I.pin p hp
  have nch : p.1 ∉ ch := fun z => (hch p.1 z).2.2.2 p hp rfl
  exact ⟨keep p.1 p.2 ne nf nch e n, free p.1 p.2 nch e n, ne, nf, d⟩
theorem Inv.un {t' : Nat} (I : Inv X pins σ H s) (u : Un X.fs [] H H' s.heap h') (hok : HOk X.prog X.w H' h') : Inv X pins σ H' { s with heap := h', toks := t' } := by
 obtain ⟨m, ⟨o, es, ep, ho, r⟩, _⟩ := id I.loc;obtain ⟨sl, hL⟩ := u.any ho I.free (by simp)
 exact I.step (g' := s.gens) (d' := s.drawn) (ch := []) (fun _ z => nomatch z) (fun b o _ hb _ e n => u.keep b o e n hb (by simp)) (fun b o _ hb _ e n => u.slot b o e n hb (by simp)) (fun b o _ e n => u.free b o e n (by simp)) (fun b o _ e => u.there b o e (by simp)) u.tups u.frzs u.tbls (fun m' hm => by
  obtain ⟨o', es', ep', ho', r'⟩ := hm;rw [ho] at ho'; cases ho';exact ⟨_, es', ep', hL, r'⟩) hok I.bare
theorem Inv.call {g' : Array GenState} {t' : Nat} {d' : Drawn} {ch : List Addr} (I : Inv X pins σ H s) (u : Un (frs X.stack) ch H H' s.heap h') (hok : HOk X.prog X.w H' h') (hg : AllBare g')
  (hch : ∀ b ∈ ch, (b ∈ X.ex ∨ X.s₀.heap.objs.size ≤ b) ∧ b ≠ X.env.locals ∧ (∀ x c, X.env.cells.lookup x = some c → c ≠ b) ∧ ∀ p ∈ X.pn ++ pins, p.1 ≠ b) :
  Inv X pins σ H' { s with heap := h', gens := g', drawn := d', toks := t' } := by
 obtain ⟨m, ⟨o, es, ep, ho, r⟩, _⟩ := id I.loc;obtain ⟨sl, hL⟩ := u.any ho I.free fun z => (hch _ z).2.1 rfl
 exact I.step (ch := ch) hch (fun b o hL hb hc e n => u.keep b o e n (fun z => (List.mem_cons.mp (I.stkSub b z)).elim hL hb) hc) (fun b o _ _ hc e n => u.any e n hc) (fun b o hc e n => u.free b o e n hc) (fun b o hc e => u.there b o e hc) u.tups u.frzs u.tbls (fun m' hm => by
  obtain ⟨o', es', ep', ho', r'⟩ := hm;rw [ho] at ho'; cases ho';exact ⟨_, es', ep', hL, r'⟩) hok hg
theorem Inv.turned {t' : Nat} {it : Addr} (I : Inv X pins σ H s) (k : ∀ b o, b ≠ it → s.heap.get? b = some o → h'.get? b = some o) (hn : H it = none) (hL : it ≠ X.env.locals)
  (h1 : it ∈ X.ex ∨ X.s₀.heap.objs.size ≤ it) (h2 : ∀ x c, X.env.cells.lookup x = some c → c ≠ it) (h3 : ∀ p ∈ X.pn ++ pins, p.1 ≠ it) : Inv X pins σ H { s with heap := h', toks := t' } := by
 have nit : ∀ b u, H b = some u → b ≠ it := fun b u e z => by rw [z, hn] at e; cases e
 refine I.step (g' := s.gens) (d' := s.drawn) (ch := [it]) (fun b hb => ?_) (fun b o _ _ hc e _ => k b o (fun z => hc (by simp [z])) e) (fun b o _ _ hc e _ => ⟨o.slots, k b o (fun z => hc (by simp [z])) e⟩) (fun _ _ _ _ n => n)
  (fun b o hc e => ⟨o, k b o (fun z => hc (by simp [z])) e⟩) (fun _ _ e => e) (fun _ _ _ e => e) (fun b ps e => ⟨#[], by rw [e]; simp⟩) (fun m hm => ?_) (fun b u e => ?_) I.bare
 ·have e : b = it := by simpa using hb
  subst e;exact ⟨h1, hL, h2, h3⟩
 ·obtain ⟨o, es, ep, ho, r⟩ := hm
  exact ⟨o, es, ep, k _ o (Ne.symm hL) ho, r⟩
 ·refine (I.hok b u e).stay (fun c v hc q => k c v ?_ q) (fun _ q => q) fun _ _ q => q
  rcases hc with z | z
  ·rw [z]; exact nit b u e
  ·exact nit c _ z
theorem Inv.tok (I : Inv X pins σ H s) (t : Nat) : Inv X pins σ H { s with toks := t } := I.un (h' := s.heap) (t' := t) Un.refl I.hok
theorem Inv.kept {t' : Nat} (I : Inv X pins σ H s) (k : ∀ b u, s.heap.get? b = some u → h'.get? b = some u) : Inv X pins σ H { s with heap := h', toks := t' } := I.un (Un.kept k) (I.hok.kept k)
theorem Inv.laid {a : Addr} {o : HO} {t' : Nat} (I : Inv X pins σ H s) (k : ∀ b u, s.heap.get? b = some u → h'.get? b = some u) (hp : s.heap.objs.size ≤ a) (new : eZ X.prog X.w (upd H a o) h' a o) :
  Inv X pins σ (upd H a o) { s with heap := h', toks := t' } := I.un (Un.laid k hp (I.hok.fresh hp)) (I.hok.laid k hp new)
theorem Inv.write {x e : Addr} {o : HO} {t' : Nat} (I : Inv X pins σ H s) (mu : Mut (H x)) (he : e = x ∨ H e = some (.own x)) (k : ∀ b u, b ≠ e → s.heap.get? b = some u → h'.get? b = some u) (heo : ∃ u, h'.get? e = some u)
  (new : eZ X.prog X.w (upd H x o) h' x o) : Inv X pins σ (upd H x o) { s with heap := h', toks := t' } := I.un (Un.write mu he k heo) (I.hok.write mu he k heo new)
theorem Inv.weak {σ' : List (Option V)} (I : Inv X pins σ H s) (hl : σ'.length = σ.length) (w : ∀ (i : Nat) v, σ'[i]? = some (some v) → σ[i]? = some (some v)) : Inv X pins σ' H s :=
 ⟨I.ok, I.os, I.bare, I.base, let ⟨m, hn, hl'⟩ := I.loc; ⟨m, hn, fun i x v e1 e2 e3 => hl' i x v e1 (w i v e2) e3⟩, I.cell, I.free, I.freeC, I.pin, I.hok, hl.trans I.len⟩
theorem Inv.pins_of {pins' : List (Addr × Obj)} (I : Inv X pins σ H s) (h : ∀ p ∈ pins', s.heap.get? p.1 = some p.2 ∧ H p.1 = none ∧ p.1 ≠ X.env.locals ∧ p.1 ∉ X.fs ∧ ∀ v, p.2.data ≠ .cell v) : Inv X pins' σ H s :=
 ⟨I.ok, I.os, I.bare, I.base, I.loc, I.cell, I.free, I.freeC, fun p hp => (List.mem_append.mp hp).elim (fun z => I.pin p (List.mem_append_left _ z)) (h p), I.hok, I.len⟩
theorem kL {N : List Str} (hN : N.Nodup) {i j : Nat} {x : Str} (a : N[i]? = some x) (b : N[j]? = some x) : i = j := by
 obtain ⟨h1, e1⟩ := List.getElem?_eq_some_iff.mp a;obtain ⟨h2, e2⟩ := List.getElem?_eq_some_iff.mp b;exact (List.getElem_inj hN).mp (e1.trans e2.symm)
theorem qI {M : Model} {A : Around} {E : Value → Shared → Prop} {i : Nat} {x : Str} {v : V} {u : Value} {Q : Unit → Shared → Prop} (I : Inv X pins σ H s) (hN : X.N.Nodup) (hi : X.N[i]? = some x) (hx : Loc X.env.scope x) (r : RelV v u)
  (h : ∀ s', Inv X pins (σ.set i (some v)) H s' → (∃ a, Heap.SameBut a s.heap s'.heap ∧ (a = X.env.locals ∨ X.env.cells.lookup x = some a)) → Q () s') (hf : X.fn x = true ∨ X.env.scope.names.lookup x = some .local := by first | exact .inl rfl | exact .inr rfl | assumption) : wpAny M A (storeName X.env x u) Q E s := by
 obtain ⟨m, hn, hl⟩ := id I.loc;have hcls : (X.env.scope.kind == .class || (X.env.scope.kind == .module && X.env.locals != X.env.globals)) = false := by rw [I.ok.kind]; rfl
 have hiσ : i < σ.length := by rw [I.len]; exact (List.getElem?_eq_some_iff.mp hi).1
 have cne := I.cne;have tracked : ∀ {a : Addr} {h' : Heap}, (∃ o, s.heap.get? a = some o ∧ H a = none) → Heap.SameBut a s.heap h' → HOk X.prog X.w H h' := fun {a h'} ha hs b ob e => by
  obtain ⟨_, _, hfree⟩ := ha;refine (I.hok b ob e).stay (fun c w' hc q => (hs.2 c ?_).trans q) (fun _ q => q) fun _ _ q => q
  rintro rfl;rcases hc with rfl | hc
  ·rw [hfree] at e; cases e
  ·rw [hfree] at hc; cases hc
 rcases hx with hk | hk
 ·refine wpAny_storeName_local hk hn (fun h' hn' hs => ?_) hcls
  obtain ⟨oL, _, _, hoL, _⟩ := id hn;refine h _ ⟨I.ok, I.os, I.bare, ⟨fun b o e n hb hx => ?_, fun b o e n hb hx => ?_, I.base.free, fun b o e hx => ?_, I.base.tups, I.base.frzs, I.base.tbls⟩, ⟨_, hn', fun j y v' e1 e2 e3 => ?_⟩, fun y c e => ?_, I.free, I.freeC, fun p hp => ?_, tracked ⟨oL, hoL, I.free⟩ hs, by simpa using I.len⟩ ⟨_, hs, .inl rfl⟩
  ·exact (hs.2 b (Nat.ne_of_lt (Nat.lt_of_lt_of_le (Heap.lt_size e) I.ok.above))).trans (I.base.keep b o e n hb hx)
  ·obtain ⟨sl, e1⟩ := I.base.slot b o e n hb hx
   exact ⟨sl, (hs.2 b (Nat.ne_of_lt (Nat.lt_of_lt_of_le (Heap.lt_size e) I.ok.above))).trans e1⟩
  ·obtain ⟨o', e1⟩ := I.base.there b o e hx
   exact ⟨o', (hs.2 b (Nat.ne_of_lt (Nat.lt_of_lt_of_le (Heap.lt_size e) I.ok.above))).trans e1⟩
  ·by_cases hj : j = i
   ·subst hj
    rw [hi] at e1; cases e1;rw [List.getElem?_set_self hiσ] at e2;cases e2;exact ⟨u, r, .inl ⟨hk, by simp⟩⟩
   ·rw [List.getElem?_set_ne (Ne.symm hj)] at e2
    obtain ⟨u', r', q⟩ := hl j y v' e1 e2 e3;refine ⟨u', r', ?_⟩;rcases q with ⟨k, e⟩ | ⟨k, c, e, z⟩
    ·refine .inl ⟨k, ?_⟩
     have : y ≠ x := fun e => hj (kL hN e1 (e ▸ hi))
     simp [this, e]
    ·exact .inr ⟨k, c, e, z.sameBut hs (cne y c e)⟩
  ·obtain ⟨w', z⟩ := I.cell y c e
   exact ⟨w', z.sameBut hs (cne y c e)⟩
  ·obtain ⟨e, n, ne, nf, d⟩ := I.pin p hp
   exact ⟨(hs.2 p.1 ne).trans e, n, ne, nf, d⟩
 ·have hfn : X.fn x = true := by
   rcases hf with z | z
   ·exact z
   ·rw [z] at hk; cases hk
  obtain ⟨c, hc⟩ := I.ok.has x (.inl hk);obtain ⟨w', z⟩ := I.cell x c hc;refine wpAny_storeName_cell I.ok.kind hk hc z (fun h' hc' hs => ?_)
  obtain ⟨oc, hoc, hocd⟩ := id z;refine h { s with heap := h' } ⟨I.ok, I.os, I.bare, ⟨fun b o e n hb hx => ?_, fun b o e n hb hx => ?_, I.base.free, fun b o e hx => ?_, I.base.tups, I.base.frzs, I.base.tbls⟩, ⟨m, hn.sameBut hs (Ne.symm (cne x c hc)), fun j y v' e1 e2 e3 => ?_⟩, fun y c' e => ?_, I.free, I.freeC, fun p hp => ?_, tracked ⟨oc, hoc, I.freeC x c hc⟩ hs, by simpa using I.len⟩ ⟨c, hs, .inr hc⟩
  ·exact (hs.2 b (Nat.ne_of_lt (Nat.lt_of_lt_of_le (Heap.lt_size e) (I.ok.cab x c hfn hc)))).trans (I.base.keep b o e n hb hx)
  ·obtain ⟨sl, e1⟩ := I.base.slot b o e n hb hx
   exact ⟨sl, (hs.2 b (Nat.ne_of_lt (Nat.lt_of_lt_of_le (Heap.lt_size e) (I.ok.cab x c hfn hc)))).trans e1⟩
  ·obtain ⟨o', e1⟩ := I.base.there b o e hx
   exact ⟨o', (hs.2 b (Nat.ne_of_lt (Nat.lt_of_lt_of_le (Heap.lt_size e) (I.ok.cab x c hfn hc)))).trans e1⟩
  ·by_cases hj : j = i
   ·subst hj
    rw [hi] at e1; cases e1;rw [List.getElem?_set_self hiσ] at e2;cases e2;exact ⟨u, r, .inr ⟨.inl hk, c, hc, hc'⟩⟩
   ·rw [List.getElem?_set_ne (Ne.symm hj)] at e2
    obtain ⟨u', r', q⟩ := hl j y v' e1 e2 e3;refine ⟨u', r', ?_⟩;rcases q with q | ⟨k, c', e, z'⟩
    ·exact .inl q
    ·refine .inr ⟨k, c', e, z'.sameBut hs ?_⟩
     rintro rfl;exact hj (kL hN e1 (I.ok.inj _ _ _ e hc ▸ hi))
  ·by_cases hcc : c' = c
   ·subst hcc; exact ⟨_, hc'⟩
   ·obtain ⟨w2, z2⟩ := I.cell y c' e
    exact ⟨w2, z2.sameBut hs hcc⟩
  ·obtain ⟨e, n, ne, nf, d⟩ := I.pin p hp
   refine ⟨(hs.2 p.1 ?_).trans e, n, ne, nf, d⟩;intro q;rw [q, hoc] at e;have q' : oc = p.2 := Option.some.inj e;exact d w' (by rw [← q']; exact hocd)
theorem gx {M : Model} {A : Around} {E : Value → Shared → Prop} {i : Nat} {x : Str} {v : V} {u : Value} {Q : Unit → Shared → Prop} (I : Inv X pins σ H s) (hN : X.N.Nodup) (hi : X.N[i]? = some x) (hx : Loc X.env.scope x) (r : RelV v u)
  (h : ∀ s', Inv X pins (σ.set i (some v)) H s' → Q () s') (hf : X.fn x = true ∨ X.env.scope.names.lookup x = some .local := by first | exact .inl rfl | exact .inr rfl | assumption) : wpAny M A (storeName X.env x u) Q E s :=
 qI I hN hi hx r (fun s' I' _ => h s' I') hf
theorem Inv.call' {s' : Shared} {ch : List Addr} (I : Inv X pins σ H s) (ho : s'.os = s.os) (u : Un (frs X.stack) ch H H' s.heap s'.heap) (hok : HOk X.prog X.w H' s'.heap) (hg : AllBare s'.gens)
  (hch : ∀ b ∈ ch, (b ∈ X.ex ∨ X.s₀.heap.objs.size ≤ b) ∧ b ≠ X.env.locals ∧ (∀ x c, X.env.cells.lookup x = some c → c ≠ b) ∧ ∀ p ∈ X.pn ++ pins, p.1 ≠ b) : Inv X pins σ H' s' := by
 obtain ⟨h', g', d', t', o'⟩ := s';have e : o' = s.os := ho;subst e;exact I.call (g' := g') (t' := t') (d' := d') u hok hg hch
end
noncomputable abbrev XK := Value → Option Addr → Hp → Prop
noncomputable abbrev St := List (Option V)
noncomputable abbrev VK := V → Hp → Prop
noncomputable abbrev TE := St → Hp → VK → Prop
noncomputable abbrev TT := St → Hp → (Bool → Hp → Prop) → Prop
noncomputable abbrev TA := St → Hp → (List V → Hp → Prop) → Prop
structure Ends where
 nx : St → Hp → Prop
 rt : VK
 bk : St → Hp → Prop := fun _ _ => False
 ct : St → Hp → Prop := fun _ _ => False
noncomputable abbrev TS := Ends → St → Hp → Prop
noncomputable def EP (X : Cx) (pins : List (Addr × Obj)) (σ : St) (Q : VK) (u : Value) (s' : Shared) : Prop := ∃ v H', Inv X pins σ H' s' ∧ RelV v u ∧ Q v H'
noncomputable def TP (X : Cx) (pins : List (Addr × Obj)) (σ : St) (Q : Bool → Hp → Prop) (b : Bool) (s' : Shared) : Prop := ∃ H', Inv X pins σ H' s' ∧ Q b H'
noncomputable def AP (X : Cx) (pins : List (Addr × Obj)) (σ : St) (Q : List V → Hp → Prop) (us : List Value) (s' : Shared) : Prop := ∃ vs H', Inv X pins σ H' s' ∧ Vals vs us ∧ Q vs H'
noncomputable def SP (X : Cx) (pins : List (Addr × Obj)) (D : Ends) (f : Flow) (s' : Shared) : Prop :=
 match f with
 | .next => ∃ σ' H', Inv X pins σ' H' s' ∧ D.nx σ' H'
 | .brk => ∃ σ' H', Inv X pins σ' H' s' ∧ D.bk σ' H'
 | .cont => ∃ σ' H', Inv X pins σ' H' s' ∧ D.ct σ' H'
 | .ret u => ∃ v σ' H', Inv X pins σ' H' s' ∧ RelV v u ∧ D.rt v H'
noncomputable def PE (X : Cx) (e : Expr) (t : TE) : Prop :=
 ∀ (pins : List (Addr × Obj)) (s : Shared) (σ : St) (H : Hp) (Q : VK), Inv X pins σ H s → t σ H Q → wpAny (model X.prog X.w) X.A (eval e X.env) (EP X pins σ Q) X.xe s
noncomputable def PT (X : Cx) (e : Expr) (t : TT) : Prop :=
 ∀ (pins : List (Addr × Obj)) (s : Shared) (σ : St) (H : Hp) (Q : Bool → Hp → Prop), Inv X pins σ H s → t σ H Q → wpAny (model X.prog X.w) X.A (isTrue e X.env (eval e X.env)) (TP X pins σ Q) X.xe s
noncomputable def PW (X : Cx) (e : Expr) (t : TT) : Prop :=
 ∀ (whole : Sem Value) (pins : List (Addr × Obj)) (s : Shared) (σ : St) (H : Hp) (Q : Bool → Hp → Prop), Inv X pins σ H s → t σ H Q → wpAny (model X.prog X.w) X.A (isTrue e X.env whole) (TP X pins σ Q) X.xe s
theorem PW.pt {X : Cx} {e : Expr} {t : TT} (h : PW X e t) : PT X e t := h _
noncomputable def PA (X : Cx) (es : List Expr) (t : TA) : Prop :=
 ∀ (pos : Pos) (pins : List (Addr × Obj)) (s : Shared) (σ : St) (H : Hp) (Q : List V → Hp → Prop), Inv X pins σ H s → t σ H Q → wpAny (model X.prog X.w) X.A (spliced (backTo pos (starEach es X.env))) (AP X pins σ Q) X.xe s
noncomputable def PS (X : Cx) (st : Stmt) (t : TS) : Prop :=
 ∀ (pins : List (Addr × Obj)) (s : Shared) (σ : St) (H : Hp) (D : Ends), Inv X pins σ H s → t D σ H → wpAny (model X.prog X.w) X.A (exec st X.env) (SP X pins D) X.xe s
noncomputable def PSs (X : Cx) (st : List Stmt) (t : TS) : Prop :=
 ∀ (pins : List (Addr × Obj)) (s : Shared) (σ : St) (H : Hp) (D : Ends), Inv X pins σ H s → t D σ H → wpAny (model X.prog X.w) X.A (execs st X.env) (SP X pins D) X.xe s
theorem thn {α : Type} {t : Sem α} {Q Q' : α → Shared → Prop} {M : Model} {A : Around} {E : Value → Shared → Prop} {s : Shared} (h : wpAny M A t Q E s) (hQ : ∀ a s, Q a s → Q' a s) : wpAny M A t Q' E s := wpAny_mono h hQ fun _ _ x => x
end L2
namespace L2
open PySem PySem.Spec PyProof.Rows
section
variable {X : Cx}
theorem bin {a b : Expr} {ta tb : TE} (ha : PE X a ta) (hb : PE X b tb) {pins : List (Addr × Obj)} {s : Shared} {σ : St} {H : Hp} {R : V → V → Hp → Prop} (I : Inv X pins σ H s) (h : ta σ H fun x H1 => tb σ H1 fun y H2 => R x y H2)
  {α : Type} {Q : α → Shared → Prop} {f : Value → Value → Sem α}
  (hf : ∀ v u s2 x y H2, Inv X pins σ H2 s2 → RelV x v → RelV y u → R x y H2 → wpAny (model X.prog X.w) X.A (f v u) Q X.xe s2) :
  wpAny (model X.prog X.w) X.A (eval a X.env) (fun v s₁ => wpAny (model X.prog X.w) X.A (eval b X.env) (fun u s₂ => wpAny (model X.prog X.w) X.A (f v u) Q X.xe s₂) X.xe s₁) X.xe s := by
 refine thn (ha pins s σ H _ I h) fun v s1 ⟨x, H1, I1, r1, q1⟩ => ?_
 refine thn (hb pins s1 σ H1 _ I1 q1) fun u s2 ⟨y, H2, I2, r2, q2⟩ => ?_
 exact hf v u s2 x y H2 I2 r1 r2 q2
noncomputable def gU (i : Nat) : TE := fun σ H Q => ∃ v, σ[i]? = some (some v) ∧ Q v H
noncomputable def tC (v : V) : TE := fun _ H Q => Q v H
theorem d_ {i : Nat} {x : Str} {pos : Pos} (hN : X.N[i]? = some x) (hv : Vis X.env.scope x) (hd : (x == ("__debug__" : Str)) = false := by decide) (hcd : (x == ("__classdict__" : Str)) = false := by decide) : PE X (.Name x pos) (gU i) := by
 intro pins s σ H Q I h;obtain ⟨v, e, h⟩ := h;obtain ⟨m, hn, hl⟩ := I.loc;obtain ⟨u, r, l⟩ := hl i x v hN e hv;have fin : EP X pins σ Q u s := ⟨v, H, I, r, h⟩;rcases l with ⟨hk, hm⟩ | ⟨hk, c, hc, hcell⟩
 ·exact wpAny_Name (wpAny_loadName_local I.ok.kind hk hn hm fin) hd
 ·rcases hk with hk | hk
  ·exact wpAny_Name (wpAny_loadName_cell I.ok.kind hk hc hcell fin) hd
  ·exact wpAny_Name (wpAny_loadName_free I.ok.kind hk hc hcell fin hcd) hd
theorem sU {i j pos} : PE X (.Constant (.int i) j pos) (tC (.int i)) := fun _ _ _ H _ I h => wpAny_Constant_int ⟨.int i, H, I.tok _, ⟨_, rfl⟩, h⟩
theorem Am {b j pos} : PE X (.Constant (.bool b) j pos) (tC (.bl b)) := fun _ _ _ H _ I h => Constant_bool ⟨.bl b, H, I, rfl, h⟩
theorem sN {x j pos} : PE X (.Constant (.str x) j pos) (tC (.str x)) := fun _ _ _ H _ I h => Calls.Constant_str ⟨.str x, H, I.tok _, ⟨_, rfl⟩, h⟩
noncomputable def Gl (X : Cx) (x : Str) : Prop := X.env.kindOf x = some .globalImplicit
theorem i8 {E : Value → Shared → Prop} {pins : List (Addr × Obj)} {s : Shared} {σ : St} {H : Hp} {x : Str} {u : Value} {pos : Pos} {Q : Value → Shared → Prop} (I : Inv X pins σ H s) (hg : Gl X x) (hm : X.mg x = some u) (h : Q u s)
  (hd : (x == ("__debug__" : Str)) = false := by decide) : wpAny (model X.prog X.w) X.A (eval (.Name x pos) X.env) Q E s :=
 Calls.Name_function_global I.ok.kind hg (Calls.loadGlobal_global (by rw [I.ok.glob]; exact I.mod.glob.keeps I.bk) hm h) hd
theorem gZ {E : Value → Shared → Prop} {pins : List (Addr × Obj)} {s : Shared} {σ : St} {H : Hp} {x : Str} {u : Value} {pos : Pos} {Q : Value → Shared → Prop} (I : Inv X pins σ H s) (hg : Gl X x) (hm : X.mg x = none) (hv : bootBuiltins x = some u) (h : Q u s)
  (hn : x ≠ "__name__" := by decide) (hd : (x == ("__debug__" : Str)) = false := by decide) : wpAny (model X.prog X.w) X.A (eval (.Name x pos) X.env) Q E s := by
 obtain ⟨mb, h1, h2⟩ := I.mod.blt;exact Calls.Name_function_global I.ok.kind hg (Calls.loadGlobal_builtin (by rw [I.ok.glob]; exact I.mod.glob.keeps I.bk) hm (by rw [I.ok.blt]; exact h1.keeps I.bk) ((h2 x hn).trans hv) h) hd
theorem mZ {x : Str} {v : V} {u : Value} {pos : Pos} (hg : Gl X x) (hm : X.mg x = some u) (r : RelV v u) (hd : (x == ("__debug__" : Str)) = false := by decide) : PE X (.Name x pos) (tC v) :=
 fun _ _ _ H _ I h => i8 I hg hm ⟨v, H, I, r, h⟩ hd
theorem vj {x : Str} {v : V} {u : Value} {pos : Pos} (hg : Gl X x) (hm : X.mg x = none) (hv : bootBuiltins x = some u) (r : RelV v u) (hn : x ≠ "__name__" := by decide) (hd : (x == ("__debug__" : Str)) = false := by decide) : PE X (.Name x pos) (tC v) :=
 fun _ _ _ H _ I h => gZ I hg hm hv ⟨v, H, I, r, h⟩ hn hd
variable {a b : Expr} {ta tb : TE} {pos : Pos}
noncomputable def PC (X : Cx) (op : CmpOp) (a b : Expr) (t : TE) : Prop :=
 ∀ (pins : List (Addr × Obj)) (s : Shared) (σ : St) (H : Hp) (Q : VK), Inv X pins σ H s → t σ H Q →
  wpAny (model X.prog X.w) X.A (eval a X.env) (fun v s₁ => wpAny (model X.prog X.w) X.A (eval b X.env) (fun u s₂ => wpAny (model X.prog X.w) X.A (compareOp op v u) (EP X pins σ Q) X.xe s₂) X.xe s₁) X.xe s
theorem t5 (b : Expr) {op : CmpOp} (h : op ≠ .In) (h2 : op ≠ .NotIn) : behindInMarks op b = false := by
 have e1 : (op == CmpOp.In) = false := by cases op <;> first | rfl | exact absurd rfl h
 have e2 : (op == CmpOp.NotIn) = false := by cases op <;> first | rfl | exact absurd rfl h2
 cases b <;> simp [behindInMarks, e1, e2]
noncomputable def tB (t : TE) : TT := fun σ H Q => t σ H fun x H1 => ∃ c, x = .bl c ∧ Q c H1
theorem C7 {op : CmpOp} {t : TE} (h : PC X op a b t) (h1 : behindInMarks op b = false := by first | exact t5 _ (by decide) (by decide) | rfl) : PT X (.Compare a [op] [b] pos) (tB t) := by
 intro pins s σ H Q I hw;refine wpAny_isTrue_Compare1 (thn (h pins s σ H _ I hw) fun v s1 h1 => thn h1 fun u s2 h2 => thn h2 fun c s3 ⟨x, H1, I1, r1, q1⟩ => ?_) h1
 obtain ⟨d, rfl, q⟩ := q1;cases r1;exact wpAny_truthy_bool ⟨H1, I1, q⟩
theorem xH {e : Expr} {t : TE} (h : PE X e t) (he : ∀ whole, isTrue e X.env whole = (do let v ← whole; standAt e.pos; holding [v] (truthy v)) := by intro _; rfl) : PT X e (tB t) := by
 intro pins s σ H Q I hw;refine isTrue_plain (thn (h pins s σ H _ I hw) fun v s1 ⟨x, H1, I1, r1, q1⟩ => ?_) (he _)
 obtain ⟨d, rfl, q⟩ := q1;cases r1;exact wpAny_truthy_bool ⟨H1, I1, q⟩
variable {tA tB' : TT} {rest : List Expr}
noncomputable def BW (t u : TT) : TT := fun σ H Q => t σ H fun c H1 => if c = true then u σ H1 Q else Q false H1
noncomputable def tOr (t u : TT) : TT := fun σ H Q => t σ H fun c H1 => if c = true then Q true H1 else u σ H1 Q
noncomputable def Cu (t : TT) : TT := fun σ H Q => t σ H fun c H1 => Q (!c) H1
theorem vF (ha : PT X a tA) : PW X (.BoolOp .And [a] pos) tA := by
 intro wh pins s σ H Q I h;refine isTrue_and (thn (ha pins s σ H Q I h) fun c s1 e => ?_)
 cases c with
 | true => exact isTrue_and_nil e
 | false => exact e
theorem yi (ha : PT X a tA) : PW X (.BoolOp .Or [a] pos) tA := by
 intro wh pins s σ H Q I h;refine isTrue_or (thn (ha pins s σ H Q I h) fun c s1 e => ?_)
 cases c with
 | false => exact isTrue_or_nil e
 | true => exact e
theorem yZ (ha : PT X a tA) (hb : PW X (.BoolOp .And (b :: rest) pos) tB') : PW X (.BoolOp .And (a :: b :: rest) pos) (BW tA tB') := by
 intro wh pins s σ H Q I h;refine isTrue_and (thn (ha pins s σ H _ I h) fun c s1 ⟨H1, I1, q1⟩ => ?_)
 cases c with
 | true => exact hb wh pins s1 σ H1 Q I1 q1
 | false => exact ⟨H1, I1, q1⟩
theorem Cs (ha : PT X a tA) (hb : PW X (.BoolOp .Or (b :: rest) pos) tB') : PW X (.BoolOp .Or (a :: b :: rest) pos) (tOr tA tB') := by
 intro wh pins s σ H Q I h;refine isTrue_or (thn (ha pins s σ H _ I h) fun c s1 ⟨H1, I1, q1⟩ => ?_)
 cases c with
 | true => exact ⟨H1, I1, q1⟩
 | false => exact hb wh pins s1 σ H1 Q I1 q1
theorem yN (ha : PT X a tA) : PT X (.UnaryOp .Not a pos) (Cu tA) := by
 intro pins s σ H Q I h;exact isTrue_not (ha pins s σ H (fun c H1 => Q (!c) H1) I h)
noncomputable def wN (ta tb : TE) : TE := fun σ H Q => ta σ H fun x H1 => ∃ c, x = .bl c ∧ if c = true then tb σ H1 Q else Q (.bl false) H1
noncomputable def wA (ta : TE) : TE := fun σ H Q => ta σ H fun x H1 => ∃ c, x = .bl c ∧ Q (.bl (!c)) H1
theorem sf {op} {t : TE} (h : PE X a t) : PE X (.BoolOp op [a] pos) t := fun pins s σ H Q I hw => BoolOp_one (h pins s σ H Q I hw)
theorem tN (ha : PE X a ta) (hb : PE X (.BoolOp .And (b :: rest) pos) tb) : PE X (.BoolOp .And (a :: b :: rest) pos) (wN ta tb) := by
 intro pins s σ H Q I h;refine BoolOp_and (thn (ha pins s σ H _ I h) fun v s1 ⟨x, H1, I1, r1, q1⟩ => ?_)
 obtain ⟨c, rfl, q1⟩ := q1;cases r1;refine wpAny_truthy_bool ?_;cases c with
 | true => exact hb pins s1 σ H1 Q I1 q1
 | false => exact ⟨.bl false, H1, I1, rfl, q1⟩
theorem uc (ha : PE X a ta) : PE X (.UnaryOp .Not a pos) (wA ta) := by
 intro pins s σ H Q I h;refine UnaryOp_ (thn (ha pins s σ H _ I h) fun v s1 ⟨x, H1, I1, r1, q1⟩ => ?_)
 obtain ⟨c, rfl, q1⟩ := q1;cases r1;exact not_of (wpAny_truthy_bool ⟨.bl (!c), H1, I1, rfl, q1⟩)
end
end L2
namespace L2
open PySem PySem.Spec PyProof.Rows
noncomputable def SqL (K : PySem.W.Frag) (H : Hp) (a : Addr) (xs : List V) : Prop :=
 Rd H a (.lst xs) ∨
  ∃ (o : Obj) (its : Array Value) (n : Nat), K.lookup a = some o ∧ o.cls = .type "list" ∧ o.dict = none ∧ o.data = .seq its n ∧ its.size ≤ sizeLine ∧ Vals xs its.toList
noncomputable def SqT (K : PySem.W.Frag) (H : Hp) (a : Addr) (xs : List V) : Prop :=
 Rd H a (.tup xs) ∨
  ∃ (o : Obj) (its : Array Value) (n : Nat), K.lookup a = some o ∧ o.cls = .type "tuple" ∧ o.data = .seq its n ∧ its.size ≤ sizeLine ∧ Vals xs its.toList
noncomputable def Dw : Value → Option V
 | .none => some .non
 | .bool b => some (.bl b)
 | .int i _ => some (.int i)
 | .str x _ => some (.str x)
 | .bytes b _ => some (.byt b)
 | .float b _ => some (.flt b)
 | .ref a => some (.ref a)
 | .type n => some (.ty n)
 | _ => none
theorem RelV.abs {x : V} {u : Value} (r : RelV x u) : Dw u = some x := by
 cases x with
 | non => cases r; rfl
 | bl _ => cases r; rfl
 | int _ => obtain ⟨t, rfl⟩ := r; rfl
 | str _ => obtain ⟨t, rfl⟩ := r; rfl
 | byt _ => obtain ⟨t, rfl⟩ := r; rfl
 | flt _ => obtain ⟨t, rfl⟩ := r; rfl
 | ref _ => cases r; rfl
 | ty _ => cases r; rfl
theorem RelV.inj {x y : V} {u : Value} (r : RelV x u) (q : RelV y u) : x = y := Option.some.inj (r.abs.symm.trans q.abs)
theorem Vals.inj : ∀ {xs ys : List V} {us : List Value}, Vals xs us → Vals ys us → xs = ys
 | _, _, _, .nil, .nil => rfl
 | _, _, _, .cons r t, .cons r' t' => by rw [r.inj r', Vals.inj t t']
section
variable {X : Cx} {pins : List (Addr × Obj)} {σ : St} {H : Hp} {s : Shared} {a : Addr} {xs ys : List V}
theorem SqL.of {K : PySem.W.Frag} (h : H a = some (.lst xs)) : SqL K H a xs := .inl (.inl h)
theorem SqT.of {K : PySem.W.Frag} (h : H a = some (.tup xs)) : SqT K H a xs := .inl (.inl h)
theorem Inv.list (I : Inv X pins σ H s) (h : SqL X.K H a xs) : ∃ its : List Value, Vals xs its ∧ PlainL s.heap a its.toArray ∧ xs.length ≤ sizeLine := by
 rcases h with h | ⟨o, its, n, hk, hc, hd, hs, hz, r⟩
 ·obtain ⟨z, its, n, r, e⟩ := h.ok I.hok
  exact ⟨its, r, ⟨_, n, e, rfl, rfl, rfl⟩, z⟩
 ·refine ⟨its.toList, r, ⟨o, n, I.kIn a o hk, hc, hd, by simpa using hs⟩, ?_⟩
  have e := r.length;simp only [Array.length_toList] at e
  lia
theorem Inv.tuple (I : Inv X pins σ H s) (h : SqT X.K H a xs) : ∃ its : List Value, Vals xs its ∧ IsTup s.heap a its.toArray ∧ xs.length ≤ sizeLine := by
 rcases h with h | ⟨o, its, n, hk, hc, hs, hz, r⟩
 ·obtain ⟨z, its, r, p⟩ := h.ok I.hok
  exact ⟨its, r, p, z⟩
 ·refine ⟨its.toList, r, ⟨o, I.kIn a o hk, hc, n, by simpa using hs⟩, ?_⟩
  have e := r.length;simp only [Array.length_toList] at e
  lia
theorem Inv.list_inj (I : Inv X pins σ H s) (h : SqL X.K H a xs) (h' : SqL X.K H a ys) : xs = ys := by
 obtain ⟨its, r, ⟨o, n, e, _, _, d⟩, _⟩ := I.list h;obtain ⟨its', r', ⟨o', n', e', _, _, d'⟩, _⟩ := I.list h';rw [e] at e'; cases e';rw [d] at d';injection d' with d1 _
 have : its = its' := by simpa using congrArg Array.toList d1
 subst this;exact r.inj r'
end
noncomputable abbrev Cx.wish (X : Cx) (E : Value → Shared → Prop) : Cx := { X with xe := E }
noncomputable abbrev Cx.nox (X : Cx) : Cx := X.wish fun _ _ => False
theorem Cx.Ok.wish {X : Cx} (ok : X.Ok) (E : Value → Shared → Prop) : (X.wish E).Ok :=
 ⟨ok.mod, ok.kind, ok.glob, ok.blt, ok.above, ok.inj, ok.has, ok.cab, ok.hd, ok.frames, ok.stk, ok.exf, ok.bs, ok.bsz, ok.noex, ok.exfs, ok.funs, ok.frf⟩
theorem Cx.Ok.unwish {X : Cx} {E : Value → Shared → Prop} (ok : (X.wish E).Ok) : X.Ok :=
 ⟨ok.mod, ok.kind, ok.glob, ok.blt, ok.above, ok.inj, ok.has, ok.cab, ok.hd, ok.frames, ok.stk, ok.exf, ok.bs, ok.bsz, ok.noex, ok.exfs, ok.funs, ok.frf⟩
section
variable {X : Cx} {pins : List (Addr × Obj)} {σ : St} {H : Hp} {s : Shared} {E : Value → Shared → Prop}
theorem Inv.wish (I : Inv X pins σ H s) (E : Value → Shared → Prop) : Inv (X.wish E) pins σ H s := ⟨I.ok.wish E, I.os, I.bare, I.base, I.loc, I.cell, I.free, I.freeC, I.pin, I.hok, I.len⟩
theorem Inv.unwish (I : Inv (X.wish E) pins σ H s) : Inv X pins σ H s := ⟨I.ok.unwish, I.os, I.bare, I.base, I.loc, I.cell, I.free, I.freeC, I.pin, I.hok, I.len⟩
theorem SP.unwish {D : Ends} {f : Flow} {s' : Shared} (h : SP (X.wish E) pins D f s') : SP X pins D f s' := by
 cases f with
 | next => obtain ⟨σ', H', I, q⟩ := h; exact ⟨σ', H', I.unwish, q⟩
 | brk => obtain ⟨σ', H', I, q⟩ := h; exact ⟨σ', H', I.unwish, q⟩
 | cont => obtain ⟨σ', H', I, q⟩ := h; exact ⟨σ', H', I.unwish, q⟩
 | ret u => obtain ⟨v, σ', H', I, r, q⟩ := h; exact ⟨v, σ', H', I.unwish, r, q⟩
theorem PSs.nox {st : List Stmt} {t : TS} (h : PSs X.nox st t) : PSs X st t := fun pins s σ H D I hw =>
 wpAny_mono (h pins s σ H D (I.wish _) hw) (fun _ _ q => q.unwish) fun _ _ z => False.elim z
end
section
variable {X : Cx} {st : Stmt} {rest : List Stmt} {t u : TS} {e : Expr} {te : TE} {pos : Pos}
noncomputable def we : TS := fun D σ H => D.nx σ H
noncomputable def CG (t u : TS) : TS := fun D σ H => t { D with nx := u D } σ H
theorem uN : PSs X [] we := fun _ _ σ H _ I h => wpAny_execs_nil ⟨σ, H, I, h⟩
theorem su (h1 : PS X st t) (h2 : PSs X rest u) : PSs X (st :: rest) (CG t u) := by
 intro pins s σ H D I h;refine wpAny_execs_cons (thn (h1 pins s σ H { D with nx := u D } I h) fun f s1 q => ?_)
 cases f with
 | next =>
  obtain ⟨σ', H', I', q⟩ := q;exact h2 pins s1 σ' H' D I' q
 | ret v => exact q
 | brk => exact q
 | cont => exact q
theorem qq (h1 : PS X st t) : PSs X [st] t := by
 intro pins s σ H D I h;refine wpAny_execs_cons (thn (h1 pins s σ H D I h) fun f s1 q => ?_)
 cases f with
 | next => exact wpAny_execs_nil q
 | ret v => exact q
 | brk => exact q
 | cont => exact q
theorem Inv.quiet {pins : List (Addr × Obj)} {σ : St} {H : Hp} {s : Shared} (I : Inv X pins σ H s) : interactive X.env = false := by simp [interactive, I.ok.kind]
noncomputable def ou (te : TE) : TS := fun D σ H => te σ H fun _ H1 => D.nx σ H1
theorem qz (he : PE X e te) (hs : swapsWith e none pos.line X.env = pure false := by rfl) : PS X (.Expr e pos) (ou te) := by
 intro pins s σ H D I h;exact wpAny_Expr_any (thn (he pins s σ H _ I h) fun v s1 ⟨x, H1, I1, r1, q1⟩ => ⟨σ, H1, I1, q1⟩) I.quiet hs
noncomputable def t4 (te : TE) : TS := fun D σ H => te σ H D.rt
theorem o6 (he : PE X e te) : PS X (.Return (some e) pos) (t4 te) := by
 intro pins s σ H D I h;exact wpAny_Return_some (thn (he pins s σ H _ I h) fun v s1 ⟨x, H1, I1, r1, q1⟩ => ⟨x, σ, H1, I1, r1, q1⟩)
noncomputable def AM (c : TT) (t u : TS) : TS := fun D σ H => c σ H fun b H1 => if b = true then t D σ H1 else u D σ H1
theorem Ap {c : Expr} {a b : List Stmt} {tc : TT} (hc : PT X c tc) (ha : PSs X a t) (hb : PSs X b u) : PS X (.If c a b pos) (AM tc t u) := by
 intro pins s σ H D I h;refine wpAny_If (thn (hc pins s σ H _ I h) fun d s1 ⟨H1, I1, q1⟩ => ?_)
 cases d with
 | true => exact ha pins s1 σ H1 D I1 q1
 | false => exact hb pins s1 σ H1 D I1 q1
noncomputable def sJ : TS := fun _ _ _ => False
theorem uh : PS X st sJ := fun _ _ _ _ _ _ h => h.elim
end
noncomputable abbrev TG := V → St → Hp → (St → Hp → Prop) → Prop
noncomputable abbrev TGs := List V → St → Hp → (St → Hp → Prop) → Prop
noncomputable def PG (X : Cx) (target : Expr) (t : TG) : Prop :=
 ∀ (pins : List (Addr × Obj)) (s : Shared) (σ : St) (H : Hp) (v : V) (u : Value) (Q : St → Hp → Prop), Inv X pins σ H s → RelV v u → t v σ H Q →
  wpAny (model X.prog X.w) X.A (assign target X.env u) (fun _ s' => ∃ σ' H', Inv X pins σ' H' s' ∧ Q σ' H') X.xe s
noncomputable def PGs (X : Cx) (ts : List Expr) (t : TGs) : Prop :=
 ∀ (pins : List (Addr × Obj)) (s : Shared) (σ : St) (H : Hp) (vs : List V) (us : List Value) (Q : St → Hp → Prop), Inv X pins σ H s → Vals vs us → t vs σ H Q →
  wpAny (model X.prog X.w) X.A (assignInOrder ((assignEach ts X.env).map (·.2)) us) (fun _ s' => ∃ σ' H', Inv X pins σ' H' s' ∧ Q σ' H') X.xe s
noncomputable abbrev yC := V → V → V → Hp → (Hp → Prop) → Prop
noncomputable def CB (X : Cx) (t : yC) : Prop :=
 ∀ (pins : List (Addr × Obj)) (s : Shared) (σ : St) (H : Hp) (o i v : V) (ov iv u : Value) (Q : Hp → Prop), Inv X pins σ H s → RelV o ov → RelV i iv → RelV v u → t o i v H Q →
  wpAny (model X.prog X.w) X.A (setItem ov iv u) (fun _ s' => ∃ H', Inv X pins σ H' s' ∧ Q H') X.xe s
noncomputable abbrev TIp := V → V → Hp → VK → Prop
noncomputable def PIp (X : Cx) (op : Operator) (t : TIp) : Prop :=
 ∀ (pins : List (Addr × Obj)) (s : Shared) (σ : St) (H : Hp) (x y : V) (v u : Value) (Q : VK), Inv X pins σ H s → RelV x v → RelV y u → t x y H Q →
  wpAny (model X.prog X.w) X.A (inplaceOp op v u) (EP X pins σ Q) X.xe s
section
variable {X : Cx} {pos : Pos}
noncomputable def jN (i : Nat) : TG := fun v σ H Q => Q (σ.set i (some v)) H
theorem mi {i : Nat} {x : Str} (hN : X.N.Nodup) (hi : X.N[i]? = some x) (hx : Loc X.env.scope x) (hf : X.fn x = true ∨ X.env.scope.names.lookup x = some .local := by first | exact .inl rfl | exact .inr rfl | assumption) : PG X (.Name x pos) (jN i) := by
 intro pins s σ H v u Q I r h;exact wpAny_assign_Name (gx I hN hi hx r (fun s' I' => ⟨_, H, I', h⟩) hf)
noncomputable def AO : TGs := fun vs σ H Q => vs = [] ∧ Q σ H
noncomputable def w9 (t : TG) (u : TGs) : TGs := fun vs σ H Q => ∃ v r, vs = v :: r ∧ t v σ H fun σ' H' => u r σ' H' Q
theorem vY : PGs X [] AO := by
 intro pins s σ H vs us Q I r h;obtain ⟨e, h⟩ := h;subst e;cases r;exact assignInOrder_nil ⟨σ, H, I, h⟩
theorem uo {e : Expr} {es : List Expr} {t : TG} {u : TGs} (h1 : PG X e t) (h2 : PGs X es u)
  (hs : (assignEach (e :: es) X.env).map (·.2) = assign e X.env :: (assignEach es X.env).map (·.2) := by rfl) : PGs X (e :: es) (w9 t u) := by
 intro pins s σ H vs us Q I r h;obtain ⟨v, vr, e1, h⟩ := h;subst e1;cases r with
 | cons r rr =>
  rw [hs];refine assignInOrder_cons (thn (h1 pins s σ H _ _ _ I r h) fun _ s1 ⟨σ1, H1, I1, q1⟩ => ?_)
  exact h2 pins s1 σ1 H1 _ _ Q I1 rr q1
noncomputable def AB (K : PySem.W.Frag) (n : Nat) (t : TGs) : TG := fun v σ H Q => ∃ a xs, v = .ref a ∧ SqT K H a xs ∧ xs.length = n ∧ t xs σ H Q
theorem zt {es : List Expr} {k : Nat} {t : TGs} {n : Nat} (hc : X.calm = true) (h : PGs X es t)
  (hn : (assignEach es X.env).length = n := by rfl) (hst : (assignEach es X.env).findIdx? (·.1) = none := by rfl) : PG X (.Tuple es k pos) (AB X.K n t) := by
 intro pins s σ H v u Q I r hw;obtain ⟨a, xs, e1, hq, hl, hw⟩ := hw;subst e1;cases r;obtain ⟨its, rv, ht, hz⟩ := I.tuple hq;refine assign_Tuple_tuple (I.ok.hd hc) ht (by simp [hn, ← hl, rv.length]) hst fun h' hx => ?_
 have I1 : Inv X pins σ H { s with heap := h' } := I.kept (t' := s.toks) fun b o e => hx b o (Nat.ne_of_lt (Heap.lt_size e)) e
 exact h pins _ σ H xs _ Q I1 (by simpa using rv) hw
noncomputable def BD (to ti : TE) (t : yC) : TG := fun v σ H Q => to σ H fun o H1 => ti σ H1 fun i H2 => t o i v H2 fun H3 => Q σ H3
theorem zO {o i : Expr} {to ti : TE} {t : yC} (ho : PE X o to) (hi : PE X i ti) (hs : CB X t)
  (ha : ∀ v, assign (.Subscript o i pos) X.env v = (do
   let ov ← holding [v] (eval o X.env)
   let iv ← holding [v, ov] (eval i X.env)
   standAt pos
   holding [v, ov, iv] (setItem ov iv v)
   release [v, ov, iv] []) := by intro _; rfl) : PG X (.Subscript o i pos) (BD to ti t) := by
 intro pins s σ H v u Q I r h;rw [ha];refine wpAny_bind (wpAny_holding (thn (ho pins s σ H _ I h) fun ov s1 ⟨x, H1, I1, r1, q1⟩ => ?_))
 refine wpAny_bind (wpAny_holding (thn (hi pins s1 σ H1 _ I1 q1) fun iv s2 ⟨y, H2, I2, r2, q2⟩ => ?_))
 refine wpAny_bind (wpAny_standAt (wpAny_bind (wpAny_holding (thn (hs pins s2 σ H2 x y v ov iv u _ I2 r1 r2 r q2) fun _ s3 ⟨H3, I3, q3⟩ => ?_))))
 exact wpAny_release ⟨σ, H3, I3, q3⟩
noncomputable def o_ (te : TE) (g : TG) : TS := fun D σ H => te σ H fun x H1 => g x σ H1 D.nx
theorem oU {tg e : Expr} {te : TE} {g : TG} (he : PE X e te) (hg : PG X tg g) (hs : swapsWithSole [tg] e pos.line X.env = pure false := by rfl) (hw : swappedStores [tg] e X.env = pure none := by rfl)
  (h1 : (assignEach [tg] X.env).map (·.2) = [assign tg X.env] := by rfl) : PS X (.Assign [tg] e pos) (o_ te g) := by
 intro pins s σ H D I h;refine wpAny_Assign_stores (thn (he pins s σ H _ I h) fun v s1 ⟨x, H1, I1, r1, q1⟩ => ?_) hs hw
 rw [h1];exact thn (hg pins s1 σ H1 x v _ I1 r1 q1) fun _ s2 q => q
theorem ua {i : Nat} {x : Str} {e : Expr} {te : TE} {pos' : Pos} (hN : X.N.Nodup) (hi : X.N[i]? = some x) (hx : Loc X.env.scope x) (he : PE X e te) (hs : swapsWith e (some (.Name x pos')) pos.line X.env = pure false := by rfl) (hf : X.fn x = true ∨ X.env.scope.names.lookup x = some .local := by first | exact .inl rfl | exact .inr rfl | assumption) :
  PS X (.Assign [.Name x pos'] e pos) (o_ te (jN i)) := by
 intro pins s σ H D I h;refine wpAny_Assign_Name (thn (he pins s σ H _ I h) fun v s1 ⟨y, H1, I1, r1, q1⟩ => ?_) hs
 exact gx I1 hN hi hx r1 (fun s2 I2 => ⟨_, H1, I2, q1⟩) hf
noncomputable def AE (i : Nat) (te : TE) (ti : TIp) : TS := fun D σ H => ∃ x, σ[i]? = some (some x) ∧ te σ H fun y H1 => ti x y H1 fun z H2 => D.nx (σ.set i (some z)) H2
theorem xP {i : Nat} {x : Str} {e : Expr} {te : TE} {op : Operator} {ti : TIp} {pos' : Pos} (hN : X.N.Nodup) (hi : X.N[i]? = some x) (hx : Loc X.env.scope x) (he : PE X e te) (ho : PIp X op ti) (hf : X.fn x = true ∨ X.env.scope.names.lookup x = some .local := by first | exact .inl rfl | exact .inr rfl | assumption) :
  PS X (.AugAssign (.Name x pos') op e pos) (AE i te ti) := by
 intro pins s σ H D I h;obtain ⟨v, e1, h⟩ := h;obtain ⟨m, hn, hl⟩ := I.loc;have vis : Vis X.env.scope x := by rcases hx with k | k; exact .inl k; exact .inr (.inl k)
 obtain ⟨u, r, l⟩ := hl i x v hi e1 vis;refine wpAny_AugAssign_Name ?_;have go : wpAny (model X.prog X.w) X.A (eval e X.env) (fun w s₂ => wpAny (model X.prog X.w) X.A (inplaceOp op u w) (fun r s₃ => wpAny (model X.prog X.w) X.A (storeName X.env x r) (fun _ => SP X pins D .next) X.xe s₃) X.xe s₂) X.xe s := by
  refine thn (he pins s σ H _ I h) fun w s1 ⟨y, H1, I1, r1, q1⟩ => ?_
  refine thn (ho pins s1 σ H1 v y u w _ I1 r r1 q1) fun z s2 ⟨zv, H2, I2, r2, q2⟩ => ?_
  exact gx I2 hN hi hx r2 (fun s3 I3 => ⟨_, H2, I3, q2⟩) hf
 rcases l with ⟨hk, hm⟩ | ⟨hk, c, hc, hcell⟩
 ·exact wpAny_loadName_local I.ok.kind hk hn hm go
 ·rcases hk with hk | hk
  ·exact wpAny_loadName_cell I.ok.kind hk hc hcell go
  ·rcases hx with k | k
   ·have : X.env.scope.names.lookup x = some .free := hk
    rw [k] at this; cases this
   ·have : X.env.scope.names.lookup x = some .free := hk
    rw [k] at this; cases this
noncomputable def ipI (f : Int → Int → Int) : TIp := fun x y H Q => ∃ i j, x = .int i ∧ y = .int j ∧ Q (.int (f i j)) H
theorem zZ : PIp X .Add (ipI fun i j => i + j) := by
 intro pins s σ H x y v u Q I r1 r2 h;obtain ⟨i, j, e1, e2, q⟩ := h;subst e1; subst e2;obtain ⟨t, rfl⟩ := r1;obtain ⟨t', rfl⟩ := r2;exact iadd_int ⟨.int _, H, I.tok _, ⟨_, rfl⟩, q⟩
end
section
variable {X : Cx} {pos : Pos}
noncomputable def sQ (c : TT) (tb : TS) : TS := fun D σ H => ∃ W : Nat → St → Hp → Prop, (∃ m, W m σ H) ∧ ∀ m σ H, W m σ H →
 c σ H fun b H1 => if b = true then ∃ N : St → Hp → Prop, (∀ σ' H', N σ' H' → ∃ m', m' < m ∧ W m' σ' H') ∧ tb { D with nx := N, ct := N, bk := D.nx } σ H1 else D.nx σ H1
theorem tX {c : Expr} {body : List Stmt} {tc : TT} {tb : TS} (hp : PassesOwn (model X.prog X.w) X.A X.env X.xe) (hc : PT X c tc) (hb : PSs X body tb) : PS X (.While c body [] pos) (sQ tc tb) := by
 intro pins s σ H D I h;obtain ⟨W, ⟨m0, w0⟩, turn⟩ := h;refine wpAny_While (codeAny_whileLoop (fun n s' => ∃ σ' H', Inv X pins σ' H' s' ∧ W n σ' H') ?_ m0 ⟨σ, H, I, w0⟩)
 rintro n s1 ⟨σ1, H1, I1, w1⟩;refine wpAny_passesOwn hp (thn (hc pins s1 σ1 H1 _ I1 (turn n σ1 H1 w1)) fun b s2 ⟨H2, I2, q2⟩ => ?_)
 cases b with
 | true =>
  obtain ⟨N, hN, q2⟩ := q2;rw [if_pos rfl];refine wpAny_passesOwn hp (thn (hb pins s2 σ1 H2 _ I2 q2) fun f s3 q3 => ?_)
  cases f with
  | next =>
   obtain ⟨σ3, H3, I3, n3⟩ := q3;obtain ⟨m', hm, w3⟩ := hN σ3 H3 n3;exact ⟨m', hm, σ3, H3, I3, w3⟩
  | cont =>
   obtain ⟨σ3, H3, I3, n3⟩ := q3;obtain ⟨m', hm, w3⟩ := hN σ3 H3 n3;exact ⟨m', hm, σ3, H3, I3, w3⟩
  | brk => exact q3
  | ret v => exact q3
 | false =>
  rw [if_neg Bool.false_ne_true];exact wpAny_execs_nil ⟨σ1, H2, I2, q2⟩
end
structure It where
 go : Nat → Hp → Prop
 yld : Nat → Hp → V → Hp → Prop
 stop : Nat → Hp → Prop
noncomputable def j8 (X : Cx) (pins : List (Addr × Obj)) (H : Hp) (b : Addr) : Prop :=
 H b = none ∧ b ≠ X.env.locals ∧ b ∉ X.fs ∧ (b ∈ X.ex ∨ X.s₀.heap.objs.size ≤ b) ∧ (∀ x c, X.env.cells.lookup x = some c → c ≠ b) ∧ ∀ p ∈ X.pn ++ pins, p.1 ≠ b
theorem Inv.fpOk {X : Cx} {pins : List (Addr × Obj)} {σ : St} {H H' : Hp} {s : Shared} {b : Addr} (I : Inv X pins σ H s) (hb : s.heap.objs.size ≤ b) (hn : H' b = none) : j8 X pins H' b := by
 refine ⟨hn, Nat.ne_of_gt (Nat.lt_of_lt_of_le I.lt hb), I.nofs hb, .inr (Nat.le_trans I.sz hb), fun x c e z => ?_, fun p hp z => ?_⟩
 ·obtain ⟨v, q⟩ := I.cell x c e
  exact absurd (Nat.lt_of_lt_of_le q.lt (by rw [z]; exact hb)) (Nat.lt_irrefl _)
 ·exact absurd (Nat.lt_of_lt_of_le (Heap.lt_size (I.pin p hp).1) (by rw [z]; exact hb)) (Nat.lt_irrefl _)
structure Turn (P : Program) (w : World) (K : PySem.W.Frag) (tg : Expr) (J : It) (fp : List Addr) (it : Addr) (tn : Nat → Heap → Prop) : Prop where
 mem : it ∈ fp
 obj : ∀ i h, tn i h → ∀ b ∈ fp, ∃ o, h.get? b = some o ∧ ∀ v, o.data ≠ .cell v
 keep : ∀ i h h', tn i h → (∀ b ∈ fp, ∀ o, h.get? b = some o → h'.get? b = some o) → tn i h'
 item : ∀ (X : Cx), X.prog = P → X.w = w → X.K = K → X.calm = true → ∀ (i : Nat) (pins : List (Addr × Obj)) (s : Shared) (σ : St) (H : Hp) (E : Value → Shared → Prop), Inv X pins σ H s → (∀ b ∈ fp, j8 X pins H b) → tn i s.heap → J.go i H →
  wpAny (model P w) X.A (pyNext (.ref it)) (fun r s1 => ∃ u, r = some u ∧
   wpAny (model P w) X.A (letOwnedTupleGo tg (.ref it) u) (fun _ s2 => ∃ x H', Inv X pins σ H' s2 ∧ RelV x u ∧ J.yld i H x H' ∧ tn (i + 1) s2.heap ∧ ∀ b ∈ fp, H' b = none) E s1) E s
 done : ∀ (X : Cx), X.prog = P → X.w = w → X.K = K → X.calm = true → ∀ (i : Nat) (pins : List (Addr × Obj)) (s : Shared) (σ : St) (H : Hp) (E : Value → Shared → Prop), Inv X pins σ H s → (∀ b ∈ fp, j8 X pins H b) → tn i s.heap → J.stop i H →
  wpAny (model P w) X.A (pyNext (.ref it)) (fun r s1 => r = none ∧ Inv X pins σ H s1) E s
 self : ∀ (A : Around) (i : Nat) (s : Shared) (Q : Value → Shared → Prop) (E : Value → Shared → Prop), tn i s.heap → Q (.ref it) s → wpAny (model P w) A (pyIter (.ref it)) Q E s
noncomputable abbrev TI := St → Hp → (It → Hp → Prop) → Prop
noncomputable def PIE (X : Cx) (pins : List (Addr × Obj)) (σ : St) (tg : Expr) (R : It → Hp → Prop) (itv : Value) (s2 : Shared) : Prop :=
 ∃ (it : Addr) (fp : List Addr) (tn : Nat → Heap → Prop) (J : It) (H' : Hp), itv = .ref it ∧ Inv X pins σ H' s2 ∧ Turn X.prog X.w X.K tg J fp it tn ∧ tn 0 s2.heap ∧ (∀ b ∈ fp, j8 X pins H' b) ∧ R J H'
noncomputable def PI (X : Cx) (tg iter : Expr) (wi : TI) : Prop :=
 ∀ (pins : List (Addr × Obj)) (s : Shared) (σ : St) (H : Hp) (R : It → Hp → Prop), Inv X pins σ H s → wi σ H R →
  wpAny (model X.prog X.w) X.A (eval iter X.env) (fun v s1 => wpAny (model X.prog X.w) X.A (pyIter v) (PIE X pins σ tg R) X.xe s1) X.xe s
theorem rZ {M : Model} {A : Around} {E : Value → Shared → Prop} {s : Shared} {tg : Expr} {it : Addr} {u : Value} {o : Obj} {n : String} {vs : Array Value} {Q : Unit → Shared → Prop} (ho : s.heap.get? it = some o) (hc : o.cls = .type n) (hd : o.data = .fields vs)
    (hn : ["enumerate", "zip", "dict_itemiterator", "dict_reverseitemiterator", "odict_iterator", "itertools.zip_longest", "itertools.pairwise"].contains n = false) (hQ : Q () s) : wpAny M A (letOwnedTupleGo tg (.ref it) u) Q E s := by
  unfold letOwnedTupleGo;cases tg <;> first
    | exact wpAny_pure hQ
    | (cases u <;> first
        | exact wpAny_pure hQ
        | (refine wpAny_bind (wpAny_load ho ?_)
           rw [hc, hd];show wpAny M A (if (["enumerate", "zip", "dict_itemiterator", "dict_reverseitemiterator", "odict_iterator", "itertools.zip_longest", "itertools.pairwise"].contains n && vs[0]? == some (rawInt _)) = true then _ else _) Q E s
           rw [if_neg (by intro h; rw [hn, Bool.false_and] at h; cases h)]
           exact wpAny_pure hQ))
noncomputable def Itl (K : PySem.W.Frag) (a : Addr) : It :=
 ⟨fun i H => ∃ xs x, SqL K H a xs ∧ xs[i]? = some x, fun i H x H' => H' = H ∧ ∀ xs, SqL K H a xs → xs[i]? = some x, fun i H => ∃ xs, SqL K H a xs ∧ xs.length ≤ i⟩
noncomputable def Itr (lo : Int) (n : Nat) : It := ⟨fun i _ => i < n, fun i H x H' => H' = H ∧ x = .int (lo + i), fun i _ => n ≤ i⟩
theorem rY {P : Program} {w : World} {K : PySem.W.Frag} {tg : Expr} (a it : Addr) : Turn P w K tg (Itl K a) [it] it (fun i h => h.IsListIter it a i) where
 mem := by simp
 obj := fun i h st b hb => by
  have e : b = it := by simpa using hb
  subst e;obtain ⟨o, e, c, d⟩ := st;exact ⟨o, e, fun v z => by rw [d] at z; cases z⟩
 keep := fun i h h' st k => st.at fun o e => k it (by simp) o e
 item := by
  intro X hP hw hK hc i pins s σ H E I hf st hg;subst hP hw hK;obtain ⟨xs, x, hq, hx⟩ := hg;obtain ⟨its, rv, p, hz⟩ := I.list hq;obtain ⟨u, hu, ru⟩ := rv.get hx;obtain ⟨f0, f1, f2, f3, f4, f5⟩ := hf it (by simp)
  refine wpAny_pyNext_list_item st p.isList (x := u) (by simpa using hu) fun h' st' sb => ?_
  have I1 : Inv X pins σ H { s with heap := h' } := I.turned (t' := s.toks) (fun b o hb e => (sb.2 b hb).trans e) f0 f1 f3 f4 f5
  obtain ⟨o, e, c, d⟩ := id st';exact ⟨u, rfl, rZ (s := { s with heap := h' }) e c d (by decide) ⟨x, H, I1, ru, ⟨rfl, fun ys hy => by rw [I.list_inj hy hq]; exact hx⟩, st', fun b hb => (hf b hb).1⟩⟩
 done := by
  intro X hP hw hK hc i pins s σ H E I hf st hg;subst hP hw hK;obtain ⟨xs, hq, hx⟩ := hg;obtain ⟨its, rv, p, hz⟩ := I.list hq;obtain ⟨f0, f1, f2, f3, f4, f5⟩ := hf it (by simp)
  have hl := rv.length;exact wpAny_pyNext_list_end (I.ok.hd hc) st p.isList (by simp; lia) fun h' eb => ⟨rfl, I.turned (t' := s.toks) (fun b o hb e => eb b o hb e) f0 f1 f3 f4 f5⟩
 self := fun _ _ _ _ _ st h => wpAny_pyIter_listiter st h
theorem oY {P : Program} {w : World} {K : PySem.W.Frag} {tg : Expr} (it : Addr) (lo : Int) (n : Nat) : Turn P w K tg (Itr lo n) [it] it (fun i h => IsRangeIter h it (lo + (i : Nat) * 1) ((n : Int) - (i : Nat)) 1) where
 mem := by simp
 obj := fun i h st b hb => by
  have e : b = it := by simpa using hb
  subst e;exact ⟨_, st, fun v z => by
   have z' : Data.fields _ = Data.cell v := z;cases z'⟩
 keep := fun i h h' st k => k it (by simp) _ st
 item := by
  intro X hP hw hK hc i pins s σ H E I hf st hg;subst hP hw hK;obtain ⟨f0, f1, f2, f3, f4, f5⟩ := hf it (by simp)
  have W := Walks.range (prog := X.prog) (w := X.w) (I.ok.hd hc) it lo 1 n;refine W.item i s _ _ hg st fun v h' tk hv st' kk => ?_
  obtain ⟨t, rfl⟩ := hv;have I1 : Inv X pins σ H { s with heap := h', toks := tk } := I.turned (fun b o hb e => kk b o (by simpa using hb) e) f0 f1 f3 f4 f5
  refine ⟨_, rfl, rZ (s := { s with heap := h', toks := tk }) (n := "range_iterator") st' rfl rfl (by decide) ⟨.int (lo + i), H, I1, ⟨t, ?_⟩, ⟨rfl, rfl⟩, st', fun b hb => (hf b hb).1⟩⟩
  rw [Int.mul_one]
 done := by
  intro X hP hw hK hc i pins s σ H E I hf st hg;subst hP hw hK;obtain ⟨f0, f1, f2, f3, f4, f5⟩ := hf it (by simp)
  exact wpAny_pyNext_range_end (I.ok.hd hc) st (by have : n ≤ i := hg; lia) fun h' eb => ⟨rfl, I.turned (t' := s.toks) (fun b o hb e => eb b o hb e) f0 f1 f3 f4 f5⟩
 self := fun _ _ _ _ _ st h => wpAny_pyIter_rangeiter st h
end L2
namespace L2
open PySem PySem.Spec PyProof.Rows
section
variable {X : Cx} {tg : Expr}
noncomputable def nV (K : PySem.W.Frag) (tl : TE) : TI := fun σ H R => tl σ H fun x H1 => ∃ a, x = .ref a ∧ (∃ xs, SqL K H1 a xs) ∧ R (Itl K a) H1
theorem qu {l : Expr} {tl : TE} (hl : PE X l tl) : PI X tg l (nV X.K tl) := by
 intro pins s σ H R I h;refine thn (hl pins s σ H _ I h) fun v s1 ⟨x, H1, I1, r1, q1⟩ => ?_
 obtain ⟨a, e, ⟨xs, hq⟩, q⟩ := q1;subst e;cases r1;obtain ⟨its, rv, p, hz⟩ := I1.list hq;refine wpAny_pyIter_list p.isList ?_;refine ⟨s1.heap.objs.size, [s1.heap.objs.size], _, _, H1, rfl, I1.kept (t' := s1.toks) fun b o e => Heap.get?_push_of_some _ e, rY a _, ⟨_, Heap.get?_push_size _ rfl, rfl, rfl⟩, fun b hb => ?_, q⟩
 have e : b = s1.heap.objs.size := by simpa using hb
 subst e;exact I1.fpOk (Nat.le_refl _) (I1.hok.fresh (Nat.le_refl _))
theorem n6 {pins : List (Addr × Obj)} {σ : St} {H : Hp} {s : Shared} {R : It → Hp → Prop} {E : Value → Shared → Prop} {lo hi : Int} {t u v : Tok} {tk : Nat} (I : Inv X pins σ H s) (h1 : -(2 ^ 62) ≤ lo) (h2 : lo < 2 ^ 62) (h3 : -(2 ^ 62) ≤ hi) (h4 : hi < 2 ^ 62)
  (q : R (Itr lo (hi - lo).toNat) H) : wpAny (model X.prog X.w) X.A (pyIter (.ref s.heap.objs.size)) (PIE X pins σ tg R) E { s with heap := s.heap.push { cls := .type "range", data := .fields #[.int lo t, .int hi u, .int 1 v] }, toks := tk } := by
 refine wpAny_pyIter_range (IsRange.new ..) (small_one h1 h2 h3 h4) ?_;have I1 : Inv X pins σ H { s with heap := s.heap.push { cls := .type "range", data := .fields #[.int lo t, .int hi u, .int 1 v] }, toks := tk } := I.kept fun b o e => Heap.get?_push_of_some _ e
 refine ⟨(s.heap.push { cls := .type "range", data := .fields #[.int lo t, .int hi u, .int 1 v] }).objs.size, [(s.heap.push { cls := .type "range", data := .fields #[.int lo t, .int hi u, .int 1 v] }).objs.size], _, _, H, rfl,
  I1.kept (t' := tk) fun b o e => Heap.get?_push_of_some _ e, oY _ lo (hi - lo).toNat, ?_, fun b hb => ?_, q⟩
 ·have e1 : lo + ((0 : Nat) : Int) * 1 = lo := by simp
  have e2 : (((hi - lo).toNat : Nat) : Int) - ((0 : Nat) : Int) = Builtin.Range.rangeSize lo hi 1 := by rw [rangeSize_one]; split <;> lia
  show IsRangeIter _ _ (lo + ((0 : Nat) : Int) * 1) ((((hi - lo).toNat : Nat) : Int) - ((0 : Nat) : Int)) 1
  rw [e1, e2];exact Heap.get?_push_size _ rfl
 ·have e : b = (s.heap.push { cls := .type "range", data := .fields #[.int lo t, .int hi u, .int 1 v] }).objs.size := by simpa using hb
  subst e;exact I1.fpOk (Nat.le_refl _) (I1.hok.fresh (Nat.le_refl _))
noncomputable def w6 (ta : TA) : TI := fun σ H R => ta σ H fun vs H1 => ∃ j : Int, vs = [.int j] ∧ -(2 ^ 62) ≤ j ∧ j < 2 ^ 62 ∧ R (Itr 0 j.toNat) H1
noncomputable def w8 (ta : TA) : TI := fun σ H R => ta σ H fun vs H1 => ∃ i j : Int, vs = [.int i, .int j] ∧ (-(2 ^ 62) ≤ i ∧ i < 2 ^ 62 ∧ -(2 ^ 62) ≤ j ∧ j < 2 ^ 62) ∧ R (Itr i (j - i).toNat) H1
theorem qT {a : Expr} {ta : TA} {p pos : Pos} (hg : Gl X "range") (hm : X.mg "range" = none) (ha : PA X [a] ta) (hs : starEach [a] X.env = [(false, eval a X.env)] := by rfl) : PI X tg (.Call (.Name "range" p) [a] [] pos) (w6 ta) := by
 intro pins s σ H R I h;refine Call_ (gZ I hg hm boot_range (PyProof.Rows.callWith_type1 (thn (ha pos pins s σ H _ I h) fun us s1 ⟨vs, H1, I1, r1, q1⟩ => ?_) hs rfl))
 obtain ⟨j, e, q1, q2, q⟩ := q1;subst e;cases r1 with
 | cons r rr =>
  cases rr;obtain ⟨t, rfl⟩ := r;exact call_range_1 (n6 I1 (by lia) (by lia) q1 q2 (by simpa using q))
theorem rb {a b : Expr} {ta : TA} {p pos : Pos} (hg : Gl X "range") (hm : X.mg "range" = none) (ha : PA X [a, b] ta) (hs : starEach [a, b] X.env = [(false, eval a X.env), (false, eval b X.env)] := by rfl) (hs2 : starEach [b] X.env = [(false, eval b X.env)] := by rfl) :
  PI X tg (.Call (.Name "range" p) [a, b] [] pos) (w8 ta) := by
 intro pins s σ H R I h;refine Call_ (gZ I hg hm boot_range (PyProof.Rows.callWith_type1 (thn (ha pos pins s σ H _ I h) fun us s1 ⟨vs, H1, I1, r1, q1⟩ => ?_) (by rw [hs, hs2]) (by rw [hs2]; rfl)))
 obtain ⟨i, j, e, ⟨q1, q2, q3, q4⟩, q⟩ := q1;subst e;cases r1 with
 | cons r rr =>
  cases rr with
  | cons r' rr =>
   cases rr;obtain ⟨t, rfl⟩ := r;obtain ⟨t', rfl⟩ := r';exact call_range_2 (n6 I1 q1 q2 q3 q4 q)
noncomputable def BG (wi : TI) (g : TG) (tb : TS) : TS := fun D σ H => wi σ H fun J H1 => ∃ W : Nat → Nat → St → Hp → Prop, (∃ m, W 0 m σ H1) ∧ ∀ i m σ H, W i m σ H →
 (J.stop i H ∧ D.nx σ H) ∨ (J.go i H ∧ ∃ N : St → Hp → Prop, (∀ σ' H', N σ' H' → ∃ m', m' < m ∧ W (i + 1) m' σ' H') ∧ ∀ x H', J.yld i H x H' → g x σ H' fun σ2 H2 => tb { D with nx := N, ct := N, bk := D.nx } σ2 H2)
noncomputable def kv (fp : List Addr) (h : Heap) : List (Addr × Obj) := fp.filterMap fun b => (h.get? b).map fun o => (b, o)
theorem gF {fp : List Addr} {h : Heap} {b : Addr} {o : Obj} (hb : b ∈ fp) (e : h.get? b = some o) : (b, o) ∈ kv fp h := List.mem_filterMap.mpr ⟨b, hb, by rw [e]; rfl⟩
theorem rF {fp : List Addr} {h : Heap} {p : Addr × Obj} (hp : p ∈ kv fp h) : p.1 ∈ fp ∧ h.get? p.1 = some p.2 := by
 obtain ⟨b, hb, e⟩ := List.mem_filterMap.mp hp;cases q : h.get? b with
 | none => rw [q] at e; cases e
 | some o =>
  rw [q] at e;have e' : (b, o) = p := Option.some.inj e;subst e';exact ⟨hb, q⟩
theorem Inv.pinned {pins : List (Addr × Obj)} {σ : St} {H : Hp} {s : Shared} {fp : List Addr} (I : Inv X pins σ H s) (hf : ∀ b ∈ fp, j8 X pins H b) (ho : ∀ b ∈ fp, ∃ o, s.heap.get? b = some o ∧ ∀ v, o.data ≠ .cell v) : Inv X (pins ++ kv fp s.heap) σ H s :=
 I.pins_of fun p hp => (List.mem_append.mp hp).elim (fun z => I.pin p (List.mem_append_right _ z)) fun z => by
  obtain ⟨hb, e⟩ := rF z;obtain ⟨f0, f1, f2, _⟩ := hf p.1 hb;obtain ⟨o, e', d⟩ := ho p.1 hb;rw [e] at e'; cases e';exact ⟨e, f0, f1, f2, d⟩
theorem Inv.unpinned {pins pl : List (Addr × Obj)} {σ : St} {H : Hp} {s : Shared} (I : Inv X (pins ++ pl) σ H s) : Inv X pins σ H s := I.pins_of fun p hp => I.pin p (List.mem_append_right _ (List.mem_append_left _ hp))
theorem yA {iter : Expr} {body : List Stmt} {wi : TI} {g : TG} {tb : TS} {pos : Pos} (hp : PassesOwn (model X.prog X.w) X.A X.env X.xe) (hc : X.calm = true) (hi : PI X tg iter wi) (hg : PG X tg g) (hb : PSs X body tb)
  (hs : ∀ x, foldedSetIterable iter X.env x = pure x := by intro _; rfl) : PS X (.For tg iter body [] pos) (BG wi g tb) := by
 intro pins s σ H D I h;refine wpAny_For (thn (hi pins s σ H _ I h) fun v s1 h1 => thn h1 fun itv s2 h2 => ?_) hs
 obtain ⟨it, fp, tn, J, H2, e, I2, T, st2, f2, W, ⟨m0, w0⟩, turn⟩ := h2;subst e;have stat : ∀ {H' : Hp}, (∀ b ∈ fp, H' b = none) → ∀ b ∈ fp, j8 X pins H' b := fun hn b hb => ⟨hn b hb, (f2 b hb).2⟩
 refine codeAny_forLoop_any (fun n s' => ∃ i σ' H', Inv X pins σ' H' s' ∧ tn i s'.heap ∧ (∀ b ∈ fp, H' b = none) ∧ W i n σ' H') ?_ m0 ⟨0, σ, H2, I2, st2, fun b hb => (f2 b hb).1, w0⟩
 rintro n s3 ⟨i, σ3, H3, I3, st3, fr3, w3⟩;rcases turn i n σ3 H3 w3 with ⟨stop, qn⟩ | ⟨go, N, hN, step⟩
 ·refine wpAny_passesOwn hp (thn (T.done X rfl rfl rfl hc i pins s3 σ3 H3 X.xe I3 (stat fr3) st3 stop) fun r s4 ⟨hr, I4⟩ => ?_)
  subst hr;exact wpAny_execs_nil ⟨σ3, H3, I4, qn⟩
 ·refine wpAny_passesOwn hp (thn (T.item X rfl rfl rfl hc i pins s3 σ3 H3 X.xe I3 (stat fr3) st3 go) fun r s4 ⟨u, hr, h4⟩ => ?_)
  subst hr;refine wpAny_passesOwn hp (thn h4 fun _ s5 ⟨x, H5, I5, r5, y5, st5, fr5⟩ => ?_)
  have I5' := I5.pinned (stat fr5) (T.obj _ _ st5);refine wpAny_passesOwn hp (thn (hg _ s5 σ3 H5 x u _ I5' r5 (step x H5 y5)) fun _ s6 ⟨σ6, H6, I6, q6⟩ => ?_)
  refine wpAny_passesOwn hp (thn (hb _ s6 σ6 H6 _ I6 q6) fun f s7 q7 => ?_)
  have again : ∀ {σ7 : St} {H7 : Hp}, Inv X (pins ++ kv fp s5.heap) σ7 H7 s7 → N σ7 H7 → ∃ m, m < n ∧ ∃ i σ' H', Inv X pins σ' H' s7 ∧ tn i s7.heap ∧ (∀ b ∈ fp, H' b = none) ∧ W i m σ' H' := fun {σ7 H7} I7 n7 => by
   obtain ⟨m', hm, w7⟩ := hN σ7 H7 n7;refine ⟨m', hm, i + 1, σ7, H7, I7.unpinned, T.keep _ _ _ st5 fun b hb o e => (I7.pin (b, o) (List.mem_append_right _ (List.mem_append_right _ (gF hb e)))).1, fun b hb => ?_, w7⟩
   obtain ⟨o, e, d⟩ := T.obj _ _ st5 b hb;exact (I7.pin (b, o) (List.mem_append_right _ (List.mem_append_right _ (gF hb e)))).2.1
  cases f with
  | next => obtain ⟨σ7, H7, I7, n7⟩ := q7; exact again I7 n7
  | cont => obtain ⟨σ7, H7, I7, n7⟩ := q7; exact again I7 n7
  | brk => obtain ⟨σ7, H7, I7, q7⟩ := q7; exact ⟨σ7, H7, I7.unpinned, q7⟩
  | ret v => obtain ⟨x7, σ7, H7, I7, r7, q7⟩ := q7; exact ⟨x7, σ7, H7, I7.unpinned, r7, q7⟩
end
end L2
namespace L2
open PySem PySem.Spec PyProof.Rows
noncomputable abbrev R2 := V → V → Hp → VK → Prop
noncomputable def OpR (X : Cx) (f : Value → Value → Sem Value) (r : R2) : Prop :=
 ∀ (pins : List (Addr × Obj)) (s : Shared) (σ : St) (H : Hp) (x y : V) (v u : Value) (Q : VK), Inv X pins σ H s → RelV x v → RelV y u → r x y H Q →
  wpAny (model X.prog X.w) X.A (f v u) (EP X pins σ Q) X.xe s
noncomputable def UnR (X : Cx) (f : Value → Sem Value) (r : V → Hp → VK → Prop) : Prop :=
 ∀ (pins : List (Addr × Obj)) (s : Shared) (σ : St) (H : Hp) (x : V) (v : Value) (Q : VK), Inv X pins σ H s → RelV x v → r x H Q →
  wpAny (model X.prog X.w) X.A (f v) (EP X pins σ Q) X.xe s
noncomputable def dZ (X : Cx) (f : Value) (r : List V → Hp → VK → Prop) : Prop :=
 ∀ (pins : List (Addr × Obj)) (s : Shared) (σ : St) (H : Hp) (xs : List V) (us : List Value) (Q : VK), Inv X pins σ H s → Vals xs us → r xs H Q →
  wpAny (model X.prog X.w) X.A (call f us) (EP X pins σ Q) X.xe s
noncomputable def tOp (r : R2) (ta tb : TE) : TE := fun σ H Q => ta σ H fun x H1 => tb σ H1 fun y H2 => r x y H2 Q
noncomputable def tUn (r : V → Hp → VK → Prop) (ta : TE) : TE := fun σ H Q => ta σ H fun x H1 => r x H1 Q
noncomputable def rI (C : Int → Int → Prop) (g : Int → Int → V) : R2 := fun x y H Q => ∃ i j, x = .int i ∧ y = .int j ∧ C i j ∧ Q (g i j) H
noncomputable def rI0 (g : Int → Int → V) : R2 := fun x y H Q => ∃ i j, x = .int i ∧ y = .int j ∧ Q (g i j) H
noncomputable def rU (g : Int → V) : V → Hp → VK → Prop := fun x H Q => ∃ i, x = .int i ∧ Q (g i) H
section
variable {X : Cx} {a b c : Expr} {ta tb tc : TE} {pos : Pos}
theorem BY (ha : PE X a ta) (hb : PE X b tb) {pins : List (Addr × Obj)} {s : Shared} {σ : St} {H : Hp} {R : V → V → Hp → Prop} (I : Inv X pins σ H s)
  (h : ta σ H fun x H1 => tb σ H1 fun y H2 => R x y H2) {Q : Value → Shared → Prop} {f : Value → Value → Sem Value}
  (hf : ∀ v u s2 x y H2, Inv X pins σ H2 s2 → RelV x v → RelV y u → R x y H2 → wpAny (model X.prog X.w) X.A (f v u) Q X.xe s2) :
  wpAny (model X.prog X.w) X.A (eval a X.env) (fun v s₁ => wpAny (model X.prog X.w) X.A (eval b X.env) (fun u s₂ => wpAny (model X.prog X.w) X.A (f v u) Q X.xe s₂) X.xe s₁) X.xe s := by
 refine thn (ha pins s σ H _ I h) fun v s1 ⟨x, H1, I1, r1, q1⟩ => ?_
 refine thn (hb pins s1 σ H1 _ I1 q1) fun u s2 ⟨y, H2, I2, r2, q2⟩ => ?_
 exact hf v u s2 x y H2 I2 r1 r2 q2
theorem BI {op : Operator} {r : R2} (ho : OpR X (binaryOp op) r) (ha : PE X a ta) (hb : PE X b tb) : PE X (.BinOp a op b pos) (tOp r ta tb) := by
 intro pins s σ H Q I h;exact wpAny_BinOp (BY ha hb I h fun v u s2 x y H2 I2 rx ry q => ho pins s2 σ H2 x y v u Q I2 rx ry q)
theorem Bf {op : UnaryOp} {r : V → Hp → VK → Prop} (ho : UnR X (unaryOp op) r) (ha : PE X a ta) : PE X (.UnaryOp op a pos) (tUn r ta) := by
 intro pins s σ H Q I h;exact UnaryOp_ (thn (ha pins s σ H _ I h) fun v s1 ⟨x, H1, I1, r1, q1⟩ => ho pins s1 σ H1 x v Q I1 r1 q1)
theorem opI {f : Value → Value → Sem Value} {C : Int → Int → Prop} {g : Int → Int → Int}
  (rule : ∀ (i j : Int) (t u : Tok) (s : Shared) (Q : Value → Shared → Prop) (E : Value → Shared → Prop), C i j → Q (.int (g i j) s.toks) { s with toks := s.toks + 1 } → wpAny (model X.prog X.w) X.A (f (.int i t) (.int j u)) Q E s) :
  OpR X f (rI C fun i j => .int (g i j)) := by
 intro pins s σ H x y v u Q I rx ry h;obtain ⟨i, j, rfl, rfl, hc, q⟩ := h;obtain ⟨t, rfl⟩ := rx;obtain ⟨t', rfl⟩ := ry;exact rule i j t t' s _ _ hc ⟨.int (g i j), H, I.tok _, ⟨_, rfl⟩, q⟩
theorem A4 {f : Value → Value → Sem Value} {g : Int → Int → Int}
  (rule : ∀ (i j : Int) (t u : Tok) (s : Shared) (Q : Value → Shared → Prop) (E : Value → Shared → Prop), Q (.int (g i j) s.toks) { s with toks := s.toks + 1 } → wpAny (model X.prog X.w) X.A (f (.int i t) (.int j u)) Q E s) :
  OpR X f (rI0 fun i j => .int (g i j)) := by
 intro pins s σ H x y v u Q I rx ry h;obtain ⟨i, j, rfl, rfl, q⟩ := h;obtain ⟨t, rfl⟩ := rx;obtain ⟨t', rfl⟩ := ry;exact rule i j t t' s _ _ ⟨.int (g i j), H, I.tok _, ⟨_, rfl⟩, q⟩
theorem ze {f : Value → Value → Sem Value} {g : Int → Int → Bool}
  (rule : ∀ (i j : Int) (t u : Tok) (s : Shared) (Q : Value → Shared → Prop) (E : Value → Shared → Prop), Q (.bool (g i j)) s → wpAny (model X.prog X.w) X.A (f (.int i t) (.int j u)) Q E s) :
  OpR X f (rI0 fun i j => .bl (g i j)) := by
 intro pins s σ H x y v u Q I rx ry h;obtain ⟨i, j, rfl, rfl, q⟩ := h;obtain ⟨t, rfl⟩ := rx;obtain ⟨t', rfl⟩ := ry;exact rule i j t t' s _ _ ⟨.bl (g i j), H, I, rfl, q⟩
noncomputable def CJ (i j : Int) : Prop := 0 < j ∧ j < 1073741824
noncomputable def tq (i j : Int) : Prop := (-(2 ^ 64) < i ∧ i < 2 ^ 64) ∨ (-(2 ^ 64) < j ∧ j < 2 ^ 64)
theorem tq.ok {i j : Int} (h : tq i j) : IntMulOk i j := by
 rcases h with ⟨h1, h2⟩ | ⟨h1, h2⟩
 ·exact .of_left (intBits_le_64 h1 h2)
 ·exact .of_right (intBits_le_64 h1 h2)
theorem zk : OpR X (binaryOp .Add) (rI0 fun i j => .int (i + j)) := A4 fun _ _ _ _ _ _ _ q => add_int q
theorem d8 : OpR X (binaryOp .Sub) (rI0 fun i j => .int (i - j)) := A4 fun _ _ _ _ _ _ _ q => sub_int q
theorem yd : OpR X (binaryOp .Mult) (rI tq fun i j => .int (i * j)) := opI fun _ _ _ _ _ _ _ hc q => mul_int q hc.ok
theorem bB : OpR X (binaryOp .FloorDiv) (rI CJ fun i j => .int (i / j)) := opI fun i j _ _ _ _ _ hc q => by
 have h1 : (0 : Int) < j := hc.1;have h2 : j < 1073741824 := hc.2;exact floordiv_int (by lia) (by rw [Int.fdiv_eq_ediv_of_nonneg i (by lia)]; exact q) (.inl (PyProof.noPylong_small (by lia)))
theorem bH : OpR X (binaryOp .Mod) (rI (fun _ j => 0 < j) fun i j => .int (i % j)) := opI fun i j _ _ _ _ _ hc q => by
 have h1 : (0 : Int) < j := hc;exact mod_int' (by lia) (by rw [Int.fmod_eq_emod_of_nonneg i (by lia)]; exact q)
theorem unI {f : Value → Sem Value} {g : Int → Int}
  (rule : ∀ (i : Int) (t : Tok) (s : Shared) (Q : Value → Shared → Prop) (E : Value → Shared → Prop), Q (.int (g i) s.toks) { s with toks := s.toks + 1 } → wpAny (model X.prog X.w) X.A (f (.int i t)) Q E s) :
  UnR X f (rU fun i => .int (g i)) := by
 intro pins s σ H x v Q I rx h;obtain ⟨i, rfl, q⟩ := h;obtain ⟨t, rfl⟩ := rx;exact rule i t s _ _ ⟨.int (g i), H, I.tok _, ⟨_, rfl⟩, q⟩
theorem dI : UnR X (unaryOp .USub) (rU fun i => .int (-i)) := unI fun _ _ _ _ _ q => neg_int q
end
noncomputable def zY : V → V → Bool
 | .non, .non => true | .non, .int _ => true | .int _, .non => true | .non, .bl _ => true | .bl _, .non => true | .non, .str _ => true | .str _, .non => true
 | .int _, .int _ => true | .bl _, .bl _ => true | .str _, .str _ => true | .byt _, .byt _ => true
 | .int _, .str _ => true | .str _, .int _ => true | .bl _, .str _ => true | .str _, .bl _ => true
 | _, _ => false
noncomputable def rEq : R2 := fun x y H Q => zY x y = true ∧ Q (.bl (decide (x = y))) H
noncomputable def rNe : R2 := fun x y H Q => zY x y = true ∧ Q (.bl (!decide (x = y))) H
theorem qB {i j : Int} : decide (V.int i = V.int j) = (i == j) := by
 rw [Bool.eq_iff_iff];simp
theorem ue {i j : Bool} : decide (V.bl i = V.bl j) = (i == j) := by
 rw [Bool.eq_iff_iff];simp
theorem p7 {i j : Str} : decide (V.str i = V.str j) = (i == j) := by
 rw [Bool.eq_iff_iff];simp
theorem qc {i j : Array UInt8} : decide (V.byt i = V.byt j) = (i.toList == j.toList) := by
 rw [Bool.eq_iff_iff];cases i;cases j;simp
section
variable {X : Cx} {a b c : Expr} {ta tb tc : TE} {pos : Pos}
theorem bD {pins : List (Addr × Obj)} {σ : St} {H : Hp} {s : Shared} {Q : VK} {k k' : Bool} (I : Inv X pins σ H s) (q : Q (.bl k) H) (e : k = k') : EP X pins σ Q (.bool k') s := by
 subst e;exact ⟨.bl k, H, I, rfl, q⟩
theorem CH : OpR X (compareOp .Eq) rEq := by
 intro pins s σ H x y v u Q I rx ry h;obtain ⟨hs, q⟩ := h;cases x with
 | non =>
  cases rx;cases y with
  | non => cases ry; exact PySem.EqNone.eq_none_none (bD I q (by simp))
  | bl j => cases ry; exact PySem.EqNone.eq_none_bool (bD I q (by simp))
  | int j => obtain ⟨t', rfl⟩ := ry; exact PySem.EqNone.eq_none_int (bD I q (by simp))
  | str j => obtain ⟨t', rfl⟩ := ry; exact PySem.EqNone.eq_none_str (bD I q (by simp))
  | _ => exact absurd (show false = true from hs) Bool.false_ne_true
 | bl i =>
  cases rx;cases y with
  | non => cases ry; exact PySem.EqNone.eq_bool_none (bD I q (by simp))
  | bl j => cases ry; exact eq_bool (bD I q ue)
  | str j => obtain ⟨t', rfl⟩ := ry; exact PySem.EqMixed.eq_bool_str (bD I q (by simp))
  | _ => exact absurd (show false = true from hs) Bool.false_ne_true
 | int i =>
  obtain ⟨t, rfl⟩ := rx;cases y with
  | non => cases ry; exact PySem.EqNone.eq_int_none (bD I q (by simp))
  | int j => obtain ⟨t', rfl⟩ := ry; exact eq_int (bD I q qB)
  | str j => obtain ⟨t', rfl⟩ := ry; exact PySem.EqMixed.eq_int_str (bD I q (by simp))
  | _ => exact absurd (show false = true from hs) Bool.false_ne_true
 | str i =>
  obtain ⟨t, rfl⟩ := rx;cases y with
  | non => cases ry; exact PySem.EqNone.eq_str_none (bD I q (by simp))
  | bl j => cases ry; exact PySem.EqMixed.eq_str_bool (bD I q (by simp))
  | int j => obtain ⟨t', rfl⟩ := ry; exact PySem.EqMixed.eq_str_int (bD I q (by simp))
  | str j => obtain ⟨t', rfl⟩ := ry; exact eq_str (bD I q p7)
  | _ => exact absurd (show false = true from hs) Bool.false_ne_true
 | byt i =>
  obtain ⟨t, rfl⟩ := rx;cases y with
  | byt j => obtain ⟨t', rfl⟩ := ry; exact PySem.W.eq_bytes (bD I q qc)
  | _ => exact absurd (show false = true from hs) Bool.false_ne_true
 | _ => cases y <;> exact absurd (show false = true from hs) Bool.false_ne_true
theorem CA : OpR X (compareOp .NotEq) rNe := by
 intro pins s σ H x y v u Q I rx ry h;obtain ⟨hs, q⟩ := h;cases x with
 | non =>
  cases rx;cases y with
  | non => cases ry; exact PySem.EqNone.ne_none_none (bD I q (by simp))
  | bl j => cases ry; exact PySem.EqNone.ne_none_bool (bD I q (by simp))
  | int j => obtain ⟨t', rfl⟩ := ry; exact PySem.EqNone.ne_none_int (bD I q (by simp))
  | str j => obtain ⟨t', rfl⟩ := ry; exact PySem.EqNone.ne_none_str (bD I q (by simp))
  | _ => exact absurd (show false = true from hs) Bool.false_ne_true
 | bl i =>
  cases rx;cases y with
  | non => cases ry; exact PySem.EqNone.ne_bool_none (bD I q (by simp))
  | bl j => cases ry; exact ne_bool (bD I q (congrArg not ue))
  | str j => obtain ⟨t', rfl⟩ := ry; exact PySem.EqMixed.ne_bool_str (bD I q (by simp))
  | _ => exact absurd (show false = true from hs) Bool.false_ne_true
 | int i =>
  obtain ⟨t, rfl⟩ := rx;cases y with
  | non => cases ry; exact PySem.EqNone.ne_int_none (bD I q (by simp))
  | int j => obtain ⟨t', rfl⟩ := ry; exact ne_int (bD I q (congrArg not qB))
  | str j => obtain ⟨t', rfl⟩ := ry; exact PySem.EqMixed.ne_int_str (bD I q (by simp))
  | _ => exact absurd (show false = true from hs) Bool.false_ne_true
 | str i =>
  obtain ⟨t, rfl⟩ := rx;cases y with
  | non => cases ry; exact PySem.EqNone.ne_str_none (bD I q (by simp))
  | bl j => cases ry; exact PySem.EqMixed.ne_str_bool (bD I q (by simp))
  | int j => obtain ⟨t', rfl⟩ := ry; exact PySem.EqMixed.ne_str_int (bD I q (by simp))
  | str j => obtain ⟨t', rfl⟩ := ry; exact ne_str (bD I q (congrArg not p7))
  | _ => exact absurd (show false = true from hs) Bool.false_ne_true
 | byt i =>
  obtain ⟨t, rfl⟩ := rx;cases y with
  | byt j => obtain ⟨t', rfl⟩ := ry; exact PySem.W.ne_bytes (bD I q (congrArg not qc))
  | _ => exact absurd (show false = true from hs) Bool.false_ne_true
 | _ => cases y <;> exact absurd (show false = true from hs) Bool.false_ne_true
theorem lW : OpR X (compareOp .Lt) (rI0 fun i j => .bl (decide (i < j))) := ze fun _ _ _ _ _ _ _ q => lt_int q
theorem oo : OpR X (compareOp .Gt) (rI0 fun i j => .bl (decide (j < i))) := ze fun _ _ _ _ _ _ _ q => gt_int q
theorem oH : OpR X (compareOp .GtE) (rI0 fun i j => .bl (decide (j ≤ i))) := ze fun _ _ _ _ _ _ _ q => ge_int q
noncomputable def isObj : HO → Bool
 | .lst _ => true
 | .ins _ _ _ => true
 | _ => false
theorem lE {pins : List (Addr × Obj)} {s : Shared} {σ : St} {H : Hp} {a : Addr} {o : HO} (I : Inv X pins σ H s) (h : H a = some o) (p : isObj o = true) : ∃ ob, s.heap.get? a = some ob ∧ ob.cls ≠ .type "tuple" := by
 cases o with
 | lst xs =>
  obtain ⟨_, its, n, _, e⟩ : xs.length ≤ sizeLine ∧ ∃ (its : List Value) (n : Nat), Vals xs its ∧ s.heap.get? a = some { cls := .type "list", data := .seq its.toArray n } := I.hok a _ h;exact ⟨_, e, (by show Value.type "list" ≠ .type "tuple"; decide +kernel)⟩
 | ins C dx fs =>
  have x := I.hok a _ h;obtain ⟨_, _, _, e, _⟩ := x;exact ⟨_, e, (by show Value.ref C ≠ .type "tuple"; exact fun z => by cases z)⟩
 | _ => exact absurd (show false = true from p) Bool.false_ne_true
theorem OpR.or {f : Value → Value → Sem Value} {r r' : R2} (h : OpR X f r) (h' : OpR X f r') : OpR X f (fun x y H Q => r x y H Q ∨ r' x y H Q) := by
 intro pins s σ H x y v u Q I rx ry q;rcases q with q | q
 ·exact h pins s σ H x y v u Q I rx ry q
 ·exact h' pins s σ H x y v u Q I rx ry q
theorem bt (b : Expr) {op : CmpOp} (h : op ≠ .In := by decide) (h2 : op ≠ .NotIn := by decide) : behindInMarks op b = false := by
 have e1 : (op == CmpOp.In) = false := by cases op <;> first | rfl | exact absurd rfl h
 have e2 : (op == CmpOp.NotIn) = false := by cases op <;> first | rfl | exact absurd rfl h2
 cases b <;> simp [behindInMarks, e1, e2]
noncomputable def wH (t : TE) : TT := fun σ H Q => t σ H fun x H' => ∃ k, x = .bl k ∧ Q k H'
theorem wb {op : CmpOp} {r : R2} (ho : OpR X (compareOp op) r) (ha : PE X a ta) (hb : PE X b tb) (hm : behindInMarks op b = false) : PT X (.Compare a [op] [b] pos) (wH (tOp r ta tb)) := by
 intro pins s σ H Q I h;refine wpAny_isTrue_Compare1 (thn (ha pins s σ H _ I h) fun v s1 ⟨x, H1, I1, r1, q1⟩ => thn (hb pins s1 σ H1 _ I1 q1) fun u s2 ⟨y, H2, I2, r2, q2⟩ =>
  thn (ho pins s2 σ H2 x y v u _ I2 r1 r2 q2) fun c s3 ⟨z, H3, I3, r3, k, e, q3⟩ => ?_) hm
 subst e;cases r3;exact wpAny_truthy_bool ⟨H3, I3, q3⟩
theorem iH : (sizeLine : Nat) < 2 ^ 63 := by rw [sizeLine_eq]; decide
theorem oT : OpR X (binaryOp .Add) (fun x y H Q => ∃ i j, x = .str i ∧ y = .str j ∧ i.length + j.length ≤ sizeLine ∧ Q (.str (i ++ j)) H) := by
 intro pins s σ H x y v u Q I rx ry h;obtain ⟨i, j, rfl, rfl, hz, q⟩ := h;obtain ⟨t, rfl⟩ := rx;obtain ⟨t', rfl⟩ := ry;exact add_str (fun t' tk => ⟨.str (i ++ j), H, I.tok _, ⟨_, rfl⟩, q⟩) hz
theorem vals1 {x : V} {us : List Value} (r : Vals [x] us) : ∃ u, us = [u] ∧ RelV x u := by
 cases r with
 | cons r1 r2 => cases r2; exact ⟨_, rfl, r1⟩
theorem vals2 {x y : V} {us : List Value} (r : Vals [x, y] us) : ∃ u w', us = [u, w'] ∧ RelV x u ∧ RelV y w' := by
 cases r with
 | cons r1 r2 =>
  cases r2 with
  | cons r3 r4 => cases r4; exact ⟨_, _, rfl, r1, r3⟩
theorem lK (hc : X.calm = true) : dZ X (.builtin "max") (fun xs H Q => ∃ i j, xs = [.int i, .int j] ∧ Q (.int (if j > i then j else i)) H) := by
 intro pins s σ H xs us Q I r h;obtain ⟨i, j, rfl, q⟩ := h;obtain ⟨u, w', rfl, ⟨t, rfl⟩, ⟨t', rfl⟩⟩ := vals2 r;refine max_two_ints (I.ok.hd hc) fun h' tk k => ⟨_, H, I.kept k, ?_, q⟩
 by_cases hj : j > i
 ·rw [if_pos hj, if_pos hj]; exact ⟨_, rfl⟩
 ·rw [if_neg hj, if_neg hj]; exact ⟨_, rfl⟩
theorem jH (hc : X.calm = true) : dZ X (.builtin "min") (fun xs H Q => ∃ i j, xs = [.int i, .int j] ∧ Q (.int (if j < i then j else i)) H) := by
 intro pins s σ H xs us Q I r h;obtain ⟨i, j, rfl, q⟩ := h;obtain ⟨u, w', rfl, ⟨t, rfl⟩, ⟨t', rfl⟩⟩ := vals2 r;refine min_two_ints (I.ok.hd hc) fun h' tk k => ⟨_, H, I.kept k, ?_, q⟩
 by_cases hj : j < i
 ·rw [if_pos hj, if_pos hj]; exact ⟨_, rfl⟩
 ·rw [if_neg hj, if_neg hj]; exact ⟨_, rfl⟩
end
end L2
namespace L2
open PySem PySem.Spec PyProof.Rows
structure ObjM (h : Heap) (x dx C : Addr) (mA : Str → Option Value) : Prop where
 obj : h.get? x = some (PySem.W.instObj C dx)
 ns : h.Ns1 dx mA
 ne : dx ≠ x
section
variable {prog : Program} {w : World} {A : Around} {E : Value → Shared → Prop} {s : Shared} {K : PySem.W.Frag} {x dx C f : Addr} {mA : Str → Option Value} {name : Str} {v : Value}
end
section
variable {P : Program} {w : World} {H H' : Hp} {h h' : Heap} {a C dx : Addr} {fs fs' : List (Str × V)}
end
structure Cls (K : PySem.W.Frag) (C : Addr) : Prop where
 pg : PySem.W.plainGet K C Str.empty = true
 hd : PySem.W.hasDictIn K C = true
 po : PySem.W.plainOver K C = true
 sa : PySem.W.findIn K (.ref C) "__setattr__" = some (some (.builtin "object.__setattr__"))
structure Con (K : PySem.W.Frag) (C : Addr) (f : Str) (v : V) (u : Value) : Prop where
 at_ : PySem.W.findIn K (.ref C) f = some (some u)
 rel : RelV v u
 get : PySem.W.specialIn K u "__get__" = some none
 cp : PySem.W.copiedNames.contains f = false
structure Meth (K : PySem.W.Frag) (C : Addr) (m : Str) (f : Addr) : Prop where
 at_ : PySem.W.findIn K (.ref C) m = some (some (.ref f))
 fn : PySem.W.isFn K (.ref f) = true
 kp : PySem.W.keepIn K (.ref f) = true
section
variable {X : Cx} {pins : List (Addr × Obj)} {σ : St} {H : Hp} {s : Shared} {a C dx : Addr} {fs : List (Str × V)} {f : Str} {v : V} {A : Around} {E : Value → Shared → Prop}
end
section
variable {X : Cx} {o e value : Expr} {f : Str} {pos pos' tpos : Pos} {ta tv : TE}
end
section
variable {X : Cx} {pins : List (Addr × Obj)} {σ : St} {H : Hp} {s : Shared} {A : Around} {E : Value → Shared → Prop} {Q : Value → Shared → Prop} {c : Value} {b : Bool}
inductive TyOf (K : PySem.W.Frag) (H : Hp) : V → Value → Prop where
 | non : TyOf K H .non (.type "NoneType")
 | bl (x : Bool) : TyOf K H (.bl x) (.type "bool")
 | int (i : Int) : TyOf K H (.int i) (.type "int")
 | str (x : Str) : TyOf K H (.str x) (.type "str")
 | flt (x : UInt64) : TyOf K H (.flt x) (.type "float")
 | lst {a : Addr} {xs : List V} (e : H a = some (.lst xs)) : TyOf K H (.ref a) (.type "list")
 | frz {a : Addr} {o : Obj} {xs : List V} (e : H a = some (.frz o (.lst xs))) : TyOf K H (.ref a) (.type "list")
 | tup {a : Addr} {xs : List V} (e : H a = some (.tup xs)) : TyOf K H (.ref a) (.type "tuple")
 | dK {a : Addr} {kvs : List (Key × V)} (e : H a = some (.dK kvs)) : TyOf K H (.ref a) (.type "dict")
 | dT {a : Addr} {kvs : List (List Key × V)} (e : H a = some (.dT kvs)) : TyOf K H (.ref a) (.type "dict")
 | ins {a C dx : Addr} {fs : List (Str × V)} (e : H a = some (.ins C dx fs)) (cl : Cls K C) (ha : PySem.W.findIn K (.ref C) "__class__" = some (some (.builtin "object.__class__")))
   (hn : PySem.W.specialIn K (.builtin "object.__class__") "__get__" = some (some (.builtin "getset_descriptor.__get__"))) (htk : PySem.W.takesIn K (.builtin "object.__class__") = some true)
   (hm : PySem.W.mroIn K C (.type "object") = some true) : TyOf K H (.ref a) (.ref C)
end
end L2
namespace L2
open PySem PySem.Spec PyProof.Rows
structure Room (k : Nat) (A : Around) : Prop where
 hd : A.handled = none
 dp : A.depth + 3 * k + 5 < recursionLimit
 un : A.units + 16 * k + 200 < cLine
theorem Room.mono {j k : Nat} {A : Around} (r : Room k A) (h : j ≤ k) : Room j A := ⟨r.hd, by have := r.dp; lia, by have := r.un; lia⟩
theorem Room.deeper {k : Nat} {A : Around} (r : Room (k + 1) A) (env : Env) : Room k (A.deeper env) :=
 ⟨r.hd, by have := r.dp; show A.depth + 1 + 3 * k + 5 < _; lia, by have := r.un; show A.units + 3 + 16 * k + 200 < _; lia⟩
theorem Room.depth {k : Nat} {A : Around} (r : Room k A) : A.depth < recursionLimit := by have := r.dp; lia
theorem Room.units {k : Nat} {A : Around} (r : Room k A) : A.units + 64 < cLine := by have := r.un; lia
noncomputable def nS : TA := fun _ H Q => Q [] H
noncomputable def g9 (ta : TE) (tr : TA) : TA := fun σ H Q => ta σ H fun x H1 => tr σ H1 fun xs H2 => Q (x :: xs) H2
section
variable {X : Cx} {e : Expr} {es : List Expr} {te : TE} {t : TA} {pos : Pos}
theorem gO : PA X [] nS := fun _ _ _ _ H Q I h => Calls.spliced_nil ⟨[], H, I, .nil, h⟩
theorem dM (ha : PE X e te) (hr : PA X es t) (hs : starEach (e :: es) X.env = (false, eval e X.env) :: starEach es X.env := by rfl) : PA X (e :: es) (g9 te t) := by
 intro pos pins s σ H Q I h;rw [hs];show wpAny _ _ (spliced ((false, eval e X.env) :: backTo pos (starEach es X.env))) _ _ s
 refine Calls.spliced_cons (thn (ha pins s σ H _ I h) fun u s1 ⟨x, H1, I1, r1, q1⟩ => ?_)
 exact thn (hr pos pins s1 σ H1 _ I1 q1) fun us s2 ⟨xs, H2, I2, r2, q2⟩ => ⟨x :: xs, H2, I2, .cons r1 r2, q2⟩
noncomputable def uV (t : TA) : TE := fun σ H Q => t σ H fun xs H1 => xs.length ≤ sizeLine ∧ ∀ p, H1 p = none → Q (.ref p) (upd H1 p (.tup xs))
noncomputable def BX (t : TA) : TE := fun σ H Q => t σ H fun xs H1 => xs.length ≤ sizeLine ∧ ∀ p, H1 p = none → Q (.ref p) (upd H1 p (.lst xs))
theorem pO {x1} (h : PA X es t) : PE X (.Tuple es x1 pos) (uV t) := by
 intro pins s σ H Q I hq;refine wpAny_Tuple_spliced (thn (h pos pins s σ H _ I hq) fun us s1 ⟨xs, H1, I1, r, z, q⟩ => ⟨by rw [← r.length]; exact z, ?_⟩)
 have hf : H1 s1.heap.objs.size = none := I1.hok.fresh (Nat.le_refl _);refine ⟨.ref s1.heap.objs.size, upd H1 s1.heap.objs.size (.tup xs), I1.laid (t' := s1.toks) (fun b u e => Heap.get?_push_of_some _ e) (Nat.le_refl _) ?_, rfl, q _ hf⟩
 exact ⟨z, us, r, ⟨_, Heap.get?_push_size _ rfl, rfl, _, rfl⟩⟩
theorem yE (h : PA X es t) : PE X (.List es pos) (BX t) := by
 intro pins s σ H Q I hq;refine wpAny_List_spliced (thn (h pos pins s σ H _ I hq) fun us s1 ⟨xs, H1, I1, r, z, q⟩ => ⟨by rw [← r.length]; exact z, ?_⟩)
 have hf : H1 s1.heap.objs.size = none := I1.hok.fresh (Nat.le_refl _);refine ⟨.ref s1.heap.objs.size, upd H1 s1.heap.objs.size (.lst xs), I1.laid (t' := s1.toks) (fun b u e => Heap.get?_push_of_some _ e) (Nat.le_refl _) ?_, rfl, q _ hf⟩
 exact ⟨z, us, 0, r, Heap.get?_push_size _ rfl⟩
end
noncomputable abbrev Sp := List V → Hp → VK → XK → Prop
noncomputable abbrev CXT := List Env → Hp → Shared → XK → Value → Shared → Prop
structure Env0 (P : Program) (w : World) (K : PySem.W.Frag) (mg : Str → Option Value) (base : Heap) (A : Around) (outer : List Env) (s : Shared) (H : Hp) : Prop where
 frames : A.frames = some outer
 mod : Mod K mg base
 bs : ∀ b o, base.get? b = some o → s.heap.get? b = some o ∧ H b = none
 bsz : base.objs.size ≤ s.heap.objs.size
 funs : s.heap.FunFrames base outer
 frf : ∀ b ∈ frs outer, H b = none
 hok : HOk P w H s.heap
 bare : AllBare s.gens
noncomputable def CE (outer : List Env) (P : Program) (w : World) (H : Hp) (s : Shared) (Q : VK) (u : Value) (s' : Shared) : Prop :=
 ∃ v H', s'.os = s.os ∧ AllBare s'.gens ∧ Un (frs outer) [] H H' s.heap s'.heap ∧ HOk P w H' s'.heap ∧ RelV v u ∧ Q v H'
noncomputable def CR (CX : CXT) (outer : List Env) (P : Program) (w : World) (H : Hp) (s : Shared) (Q : VK) (E : XK) (r : Result) (s' : Shared) : Prop :=
 match r with
 | .ok (.ret u) => CE outer P w H s Q u s'
 | .ok _ => False
 | .error e => CX outer H s E e s'
structure FnOk (P : Program) (w : World) (K : PySem.W.Frag) (mg : Str → Option Value) (base : Heap) (CX : CXT) (k : Nat) (f : Addr) (fd : FuncData) (ps : List Str) (sp : Sp) : Prop where
 len : ∀ vs H Q E, sp vs H Q E → vs.length = ps.length
 run : ∀ (A : Around) (outer : List Env) (s : Shared) (H : Hp) (args : Args) (us : List Value) (vs : List V) (Q : VK) (E : XK), Room k A → Env0 P w K mg base A outer s H → BindsTo s fd args (ps.zip us) → Vals vs us → sp vs H Q E →
  codeAny (model P w) A (.call (.ref f) args) (CR CX outer P w H s Q E) s
theorem FnOk.imp {P : Program} {w : World} {K : PySem.W.Frag} {mg : Str → Option Value} {base : Heap} {CX : CXT} {k : Nat} {f : Addr} {fd : FuncData} {ps : List Str} {sp sp' : Sp} (F : FnOk P w K mg base CX k f fd ps sp)
  (h : ∀ vs H Q E, sp' vs H Q E → sp vs H Q E) : FnOk P w K mg base CX k f fd ps sp' :=
 ⟨fun vs H Q E q => F.len vs H Q E (h _ _ _ _ q), fun A outer s H args us vs Q E hr he hb hv hs => F.run A outer s H args us vs Q E hr he hb hv (h _ _ _ _ hs)⟩
section
variable {X : Cx} {pins : List (Addr × Obj)} {σ : St} {H : Hp} {s s' : Shared}
theorem Inv.jF (I : Inv X pins σ H s) : Env0 X.prog X.w X.K X.mg X.base X.A X.stack s H :=
 ⟨I.ok.frames, I.ok.mod, I.bs, Nat.le_trans I.ok.bsz I.sz, I.stack, I.stkFree, I.hok, I.bare⟩
theorem Inv.after {Q : VK} {u : Value} (I : Inv X pins σ H s) (h : CE X.stack X.prog X.w H s Q u s') : EP X pins σ Q u s' := by
 obtain ⟨v, H', os, bare, un, hok, r, q⟩ := h;obtain ⟨hh, g, d, t, os'⟩ := s';obtain rfl : os' = s.os := os;exact ⟨v, H', I.call (h' := hh) (g' := g) (d' := d) (t' := t) (ch := []) un hok bare (fun b z => absurd z (by simp)), r, q⟩
end
noncomputable def wV (sp : Sp) (dvs : List V) (E : XK) (t : TA) : TE := fun σ H Q => t σ H fun vs H1 => sp (vs ++ dvs) H1 Q E
noncomputable def Binds (K : PySem.W.Frag) (fd : FuncData) (ps : List Str) (ds : List Value) : Prop :=
 ∀ (s : Shared) (us : List Value), K.In s.heap → (us ++ ds).length = ps.length → BindsTo s fd ⟨us, []⟩ (ps.zip (us ++ ds))
theorem Binds.all {K : PySem.W.Frag} {fd : FuncData} {ps : List Str} (h : ∀ us : List Value, us.length = ps.length → bindArgs fd ⟨us, []⟩ = pure (ps.zip us)) : Binds K fd ps [] := fun s us _ hl => by
 rw [List.append_nil] at hl ⊢;exact .of_eq (h us hl)
noncomputable def Passes (CX : CXT) (X : Cx) (E : XK) : Prop := ∀ (pins : List (Addr × Obj)) (σ : St) (H : Hp) (s : Shared) (e : Value) (s' : Shared), Inv X pins σ H s → CX X.stack H s E e s' → X.xe e s'
section
variable {X : Cx} {CX : CXT} {k : Nat} {f C : Addr} {fd : FuncData} {ps : List Str} {sp : Sp} {dvs : List V} {ds : List Value} {E : XK} {x m : Str} {p pos apos : Pos} {e o : Expr} {es : List Expr} {ta : TE} {t : TA}
theorem xh {pins : List (Addr × Obj)} {σ : St} {H : Hp} {s : Shared} {Q : VK} {us : List Value} {vs : List V} (F : FnOk X.prog X.w X.K X.mg X.base CX k f fd ps sp) (hr : Room k X.A) (hb : Binds X.K fd ps ds) (hd : Vals dvs ds) (hx : Passes CX X E)
  (I : Inv X pins σ H s) (r : Vals vs us) (h : sp (vs ++ dvs) H Q E) : wpAny (model X.prog X.w) X.A (call (.ref f) us) (EP X pins σ Q) X.xe s := by
 have r2 : Vals (vs ++ dvs) (us ++ ds) := r.append hd;have hl : (us ++ ds).length = ps.length := by rw [← r2.length]; exact F.len _ _ _ _ h
 refine wpAny_call (codeAny_mono (F.run X.A X.stack s H ⟨us, []⟩ (us ++ ds) (vs ++ dvs) Q E hr I.jF (hb s us I.kIn hl) r2 h) fun r s' hq => ?_)
 cases r with
 | error e => exact hx pins σ H s e s' I hq
 | ok fl =>
  cases fl with
  | ret u => exact I.after hq
  | next => exact False.elim hq
  | brk => exact False.elim hq
  | cont => exact False.elim hq
theorem u_ (F : FnOk X.prog X.w X.K X.mg X.base CX k f fd ps sp) (hr : Room k X.A) (hg : Gl X x) (hm : X.mg x = some (.ref f)) (hk : PySem.W.keepIn X.K (.ref f) = true) (hb : Binds X.K fd ps ds) (hd : Vals dvs ds) (hx : Passes CX X E)
  (ha : PA X (e :: es) t) (hdb : (x == ("__debug__" : Str)) = false := by decide) (he : starEach (e :: es) X.env = (false, eval e X.env) :: starEach es X.env := by rfl) (hpl : (backTo pos (starEach es X.env)).any (·.1) = false := by rfl) :
  PE X (.Call (.Name x p) (e :: es) [] pos) (wV sp dvs E t) := by
 intro pins s σ H Q I h;refine wpAny_Call_Name_kw (i8 I hg hm ?_ hdb);refine PySem.W.callWith_K (h₀ := X.base) I.ok.mod.kin hk (thn (ha pos pins s σ H _ I h) fun us s1 ⟨vs, H1, I1, r, q⟩ => ⟨I1.kIn, ?_⟩) he hpl
 exact xh F hr hb hd hx I1 r q
structure Mk (K : PySem.W.Frag) (C f : Addr) : Prop where
 makes : PySem.W.makesIn K C = true
 init : PySem.W.findIn K (.ref C) "__init__" = some (some (.ref f))
 fn : PySem.W.isFn K (.ref f) = true
 kp : PySem.W.keepIn K (.ref C) = true
end
section
variable {X : Cx} {CX : CXT} {k : Nat} {f C : Addr} {fd : FuncData} {ps ks : List Str} {sp : Sp} {E : XK} {x m : Str} {p pos apos kpos : Pos} {e o : Expr} {es : List Expr} {kws : List Keyword} {te ta : TE} {t tk : TA} {nm : Option Str}
structure KBinds (K : PySem.W.Frag) (fd : FuncData) (ps ks : List Str) (g : List Value → List Value → List Value) (gV : List V → List V → List V) : Prop where
 to : ∀ (s : Shared) (us ws : List Value), K.In s.heap → (g us ws).length = ps.length → BindsTo s fd ⟨us, ks.zip ws⟩ (ps.zip (g us ws))
 rel : ∀ {vs : List V} {us : List Value} {zs : List V} {ws : List Value}, Vals vs us → Vals zs ws → Vals (gV vs zs) (g us ws)
variable {g : List Value → List Value → List Value} {gV : List V → List V → List V}
end
structure FnScope (N P : List Str) (sc : Scope) : Prop where
 kind : sc.kind = .function
 co : sc.isCoroutine = false
 gen : sc.isGenerator = false
 nd : N.Nodup
 pre : N.take P.length = P
 par : ∀ x ∈ P, sc.names.lookup x = some .local ∨ sc.names.lookup x = some .cell
 nofree : ∀ y ∈ sc.names, y.2 ≠ .free
theorem l3 {kindOf : Str → Option NameKind} {x : Str} {binds : List (Str × Value)} : ∀ {m : Str → Option Value}, (∀ v, (x, v) ∉ binds) → bindL kindOf binds m x = m x := by
 induction binds with
 | nil => intro m _; rfl
 | cons p r ih =>
  intro m h
  obtain ⟨n, v⟩ := p
  unfold bindL
  rw [ih fun w hw => h w (List.mem_cons_of_mem _ hw)]
  split
  ·have : x ≠ n := by rintro rfl; exact h v List.mem_cons_self
   simp [this]
  ·rfl
theorem lR {kindOf : Str → Option NameKind} {x : Str} : ∀ {binds : List (Str × Value)} {m : Str → Option Value}, (∀ v, (x, v) ∉ binds) → bindC kindOf binds m x = m x
 | [], _, _ => rfl
 | (n, v) :: r, m, h => by
  unfold bindC;rw [lR fun w hw => h w (List.mem_cons_of_mem _ hw)]
  split
  ·rfl
  ·have : x ≠ n := by rintro rfl; exact h v List.mem_cons_self
   simp [this]
theorem lV {kindOf : Str → Option NameKind} {x : Str} {v : Value} : ∀ {P : List Str} {vs : List Value} {i : Nat} {m : Str → Option Value}, P.Nodup → P[i]? = some x → vs[i]? = some v → kindOf x = some .local →
  bindL kindOf (P.zip vs) m x = some v
 | [], _, _, _, _, h, _, _ => by simp at h
 | _ :: _, [], _, _, _, _, h, _ => by simp at h
 | p :: P, w :: vs, 0, m, nd, h1, h2, hk => by
  simp at h1 h2; subst h1; subst h2
  show bindL kindOf ((p, w) :: P.zip vs) m p = _
  unfold bindL;rw [l3 fun v hv => (List.nodup_cons.mp nd).1 (List.of_mem_zip hv).1, if_pos hk]
  simp
 | p :: P, w :: vs, i + 1, m, nd, h1, h2, hk => by
  show bindL kindOf ((p, w) :: P.zip vs) m x = _
  unfold bindL;exact lV (i := i) (List.nodup_cons.mp nd).2 (by simpa using h1) (by simpa using h2) hk
theorem lO {kindOf : Str → Option NameKind} {x : Str} {v : Value} : ∀ {P : List Str} {vs : List Value} {i : Nat} {m : Str → Option Value}, P.Nodup → P[i]? = some x → vs[i]? = some v → kindOf x ≠ some .local →
  bindC kindOf (P.zip vs) m x = some v
 | [], _, _, _, _, h, _, _ => by simp at h
 | _ :: _, [], _, _, _, _, h, _ => by simp at h
 | p :: P, w :: vs, 0, m, nd, h1, h2, hk => by
  simp at h1 h2; subst h1; subst h2
  show bindC kindOf ((p, w) :: P.zip vs) m p = _
  unfold bindC;rw [lR fun v hv => (List.nodup_cons.mp nd).1 (List.of_mem_zip hv).1, if_neg hk]
  simp
 | p :: P, w :: vs, i + 1, m, nd, h1, h2, hk => by
  show bindC kindOf ((p, w) :: P.zip vs) m x = _
  unfold bindC;exact lO (i := i) (List.nodup_cons.mp nd).2 (by simpa using h1) (by simpa using h2) hk
noncomputable def start (N : List Str) (vs : List V) : St := vs.map some ++ List.replicate (N.length - vs.length) none
noncomputable def lC (CX : CXT) (P : Program) (w : World) (K : PySem.W.Frag) (mg : Str → Option Value) (base : Heap) (N : List Str) (qual : Str) (scope : Scope) (f : Addr) (cd : Value) (A : Around) (outer : List Env) (s : Shared) (H : Hp) (E : XK) : Cx where
 prog := P
 w := w
 K := K
 mg := mg
 base := base
 A := A.deeper (envOfC qual scope s.heap.objs.size f cd)
 N := N
 s₀ := s
 H₀ := H
 env := envOfC qual scope s.heap.objs.size f cd
 outer := outer
 stack := envOfC qual scope s.heap.objs.size f cd :: outer
 ex := []
 calm := true
 fn := fun _ => true
 pn := []
 xe := fun e s' => wpAny (model P w) (A.deeper (envOfC qual scope s.heap.objs.size f cd)) (leaving (envOfC qual scope s.heap.objs.size f cd) e) (fun _ s'' => CX outer H s E e s'') (fun e' s'' => CX outer H s E e' s'') s'
theorem oh {sc : Scope} {n : Nat} {x : Str} (h : sc.names.lookup x = some .cell) : ∃ c, (cellsFrom n sc.names []).lookup x = some c := by
 have q := PySem.W.cellsFrom_some sc.names n [] (.inl h);exact Option.isSome_iff_exists.mp q
theorem rM {CX : CXT} {P : Program} {w : World} {K : PySem.W.Frag} {mg : Str → Option Value} {base : Heap} {N ps : List Str} {qual : Str} {scope : Scope} {f : Addr} {cd : Value} {A : Around} {outer : List Env} {s s1 : Shared} {H : Hp} {E : XK} {us : List Value} {vs : List V}
  (S : FnScope N ps scope) (hd : A.handled = none) (e0 : Env0 P w K mg base A outer s H) (hl : vs.length = ps.length) (r : Vals vs us)
  (x : InCallC s s.heap.objs.size (bindL (envOfC qual scope s.heap.objs.size f cd).kindOf (ps.zip us) fun _ => none) (cellsFrom (s.heap.objs.size + 1) scope.names []) (bindC (envOfC qual scope s.heap.objs.size f cd).kindOf (ps.zip us) fun _ => none) s1) :
  Inv (lC CX P w K mg base N qual scope f cd A outer s H E) [] (start N vs) H s1 := by
 have hpl : ps.length ≤ N.length := by have := congrArg List.length S.pre; rw [List.length_take] at this; lia
 obtain ⟨h1, tk, rfl, hk⟩ := x.done;have noA : ∀ b : Addr, b ∉ (lC CX P w K mg base N qual scope f cd A outer s H E).ex := fun b z => absurd (show b ∈ ([] : List Addr) from z) (by simp)
 refine ⟨⟨e0.mod, S.kind, rfl, rfl, Nat.le_refl _, fun y z c h1 h2 => ?_, fun y hy => ?_, fun y c _ h => ?_, fun _ => hd, Around.frames_deeper e0.frames, .inr ⟨rfl, rfl⟩, fun b z => absurd z (noA b), e0.bs, e0.bsz, fun b _ _ => noA b, fun b z => absurd z (noA b), e0.funs, e0.frf⟩,
  rfl, e0.bare, Un.kept hk, ⟨_, x.toInCall.ns, fun i y v h1 h2 h3 => ?_⟩, fun y c h => ⟨_, x.cell y c h⟩, e0.hok.fresh (Nat.le_refl _), fun y c h => ?_, fun p hp => absurd (show p ∈ ([] : List (Addr × Obj)) from hp) (by simp), e0.hok.kept hk, ?_⟩
 ·exact name_of_addr x.apart (PySem.mem_of_lookup h1) (PySem.mem_of_lookup h2)
 ·have hy : scope.names.lookup y = some .cell ∨ scope.names.lookup y = some .free := hy
  rcases hy with hy | hy
  ·exact oh hy
  ·exact absurd rfl (S.nofree _ (PySem.mem_of_lookup hy))
 ·exact Nat.le_of_lt (x.above y c (PySem.mem_of_lookup h))
 ·have hi : i < vs.length := by
   unfold start at h2;by_cases hi : i < vs.length
   ·exact hi
   ·rw [List.getElem?_append_right (by simpa using hi)] at h2
    rw [List.getElem?_replicate] at h2;split at h2 <;> cases h2
  have ha : vs[i]? = some v := by
   unfold start at h2;rw [List.getElem?_append_left (by simpa using hi), List.getElem?_map] at h2
   cases e : vs[i]? with
   | none => rw [e] at h2; cases h2
   | some a => rw [e] at h2; cases h2; rfl
  obtain ⟨u, hu, rv⟩ := r.get ha;have hp : ps[i]? = some y := by
   rw [← S.pre, List.getElem?_take_of_lt (by lia)]; exact h1
  have ndP : ps.Nodup := by rw [← S.pre]; exact S.nd.sublist (List.take_sublist _ _)
  refine ⟨u, rv, ?_⟩;rcases S.par y (List.mem_of_getElem? hp) with k | k
  ·exact .inl ⟨k, lV ndP hp hu k⟩
  ·obtain ⟨c, e⟩ := oh (n := s.heap.objs.size + 1) k
   refine .inr ⟨.inl k, c, e, ?_⟩;have q := x.cell y c e;rw [lO ndP hp hu (by show scope.names.lookup y ≠ _; rw [k]; decide)] at q
   exact q
 ·exact e0.hok.fresh (Nat.le_of_lt (x.above y c (PySem.mem_of_lookup h)))
 ·unfold start
  show _ = N.length
  rw [List.length_append, List.length_map, List.length_replicate]
  lia
theorem w_ {CX : CXT} {P : Program} {w : World} {K : PySem.W.Frag} {mg : Str → Option Value} {base : Heap} {k : Nat} {f : Addr} {name qual : Str} {params : Arguments} {body : List Stmt} {scope : Scope} {dV kV doc pm cdv ct oc : Value} {an od : Option Addr}
  {osl : Array (Option Value)} {N ps : List Str} {sp : Sp} (lk : K.lookup f = some ⟨oc, od, .func (PySem.W.fnOf name qual params body scope dV kV doc pm an cdv ct), osl⟩) (hcd : PySem.W.codeIn K cdv qual = true) (S : FnScope N ps scope)
  (len : ∀ vs H Q E, sp vs H Q E → vs.length = ps.length)
  (hbody : ∀ (A : Around) (outer : List Env) (s : Shared) (H : Hp) (vs : List V) (Q : VK) (E : XK), Room k (A.deeper (envOfC qual scope s.heap.objs.size f cdv)) → sp vs H Q E →
   ∃ t, PSs (lC CX P w K mg base N qual scope f cdv A outer s H E) body t ∧ t { nx := fun _ H' => Q .non H', rt := Q } (start N vs) H) :
  FnOk P w K mg base CX (k + 1) f (PySem.W.fnOf name qual params body scope dV kV doc pm an cdv ct) ps sp := by
 refine ⟨len, fun A outer s H args us vs Q E hr e0 hb r hsp => ?_⟩
 have hl := len _ _ _ _ hsp;have KX : K.In s.heap := e0.mod.kin.keeps fun b o e => (e0.bs b o e).1
 have lim : s.heap.NoLimit := e0.mod.nolimit.keeps fun b o e => (e0.bs b o e).1
 have hkind : ∀ y ∈ ps.zip us, scope.names.lookup y.1 = some .local ∨ (scope.names.lookup y.1 = some .cell ∧ ((cellsFrom (s.heap.objs.size + 1) scope.names []).lookup y.1).isSome = true) := fun ⟨n, v⟩ hy => by
  rcases S.par n (List.of_mem_zip hy).1 with q | q
  ·exact .inl q
  ·exact .inr ⟨q, PySem.W.cellsFrom_some _ _ _ (.inl q)⟩
 refine codeAny_call_function hr.depth (KX _ _ lk) rfl S.co S.gen rfl (PySem.W.codeRec_of KX hcd) (hb _ _ _ _ ?_);refine wpAny_newFunctionEnv_cells S.kind hkind fun env he s1 x => ?_
 subst he;refine ⟨lim.keeps x.toInCall.keep, codeAny_func ?_⟩;obtain ⟨t, ht, hq⟩ := hbody A outer s H vs Q E (hr.deeper _) hsp;have I : Inv (lC CX P w K mg base N qual scope f cdv A outer s H E) [] (start N vs) H s1 := rM S hr.hd e0 hl r x;refine wpAny_mono (ht [] s1 (start N vs) H _ I hq) (fun fl s' hs => ?_) fun e s' hs => hs
 have fin : ∀ {σ' : St} {H' : Hp} {v : V} {u : Value}, Inv (lC CX P w K mg base N qual scope f cdv A outer s H E) [] σ' H' s' → RelV v u → Q v H' → CE outer P w H s Q u s' :=
  fun {σ' H' v u} J rv q => ⟨v, H', J.os, J.bare, J.base, J.hok, rv, q⟩
 cases fl with
 | ret u =>
  obtain ⟨v, σ', H', J, rv, q⟩ := hs;exact fin J rv q
 | next =>
  obtain ⟨σ', H', J, q⟩ := hs;exact fin (v := V.non) (u := Value.none) J rfl q
 | brk =>
  obtain ⟨_, _, _, q⟩ := hs;exact False.elim q
 | cont =>
  obtain ⟨_, _, _, q⟩ := hs;exact False.elim q
end L2
namespace L2
open PySem PySem.Spec PyProof.Rows
section
variable {X : Cx} {x : Str} {p pos : Pos} {e : Expr} {es : List Expr} {t : TA} {id T : String} {r : List V → Hp → VK → Prop}
noncomputable def tCB (r : List V → Hp → VK → Prop) (t : TA) : TE := fun σ H Q => t σ H fun vs H1 => r vs H1 Q
theorem jf (hc : dZ X (.builtin id) r) (hg : Gl X x) (hm : X.mg x = none) (hv : bootBuiltins x = some (.builtin id)) (ha : PA X (e :: es) t) (hn : x ≠ "__name__" := by decide) (hdb : (x == ("__debug__" : Str)) = false := by decide)
  (he : starEach (e :: es) X.env = (false, eval e X.env) :: starEach es X.env := by rfl) (hpl : (backTo pos (starEach es X.env)).any (·.1) = false := by rfl) : PE X (.Call (.Name x p) (e :: es) [] pos) (tCB r t) := by
 intro pins s σ H Q I h;refine wpAny_Call_Name_kw (gZ I hg hm hv ?_ hn hdb);exact PyProof.Rows.callWith_builtin1 (thn (ha pos pins s σ H _ I h) fun us s1 ⟨vs, H1, I1, r1, q1⟩ => hc pins s1 σ H1 vs us Q I1 r1 q1) he hpl
theorem rS (hc : dZ X (.type T) r) (hg : Gl X x) (hm : X.mg x = none) (hv : bootBuiltins x = some (.type T)) (ha : PA X (e :: es) t) (hn : x ≠ "__name__" := by decide) (hdb : (x == ("__debug__" : Str)) = false := by decide)
  (he : starEach (e :: es) X.env = (false, eval e X.env) :: starEach es X.env := by rfl) (hpl : (backTo pos (starEach es X.env)).any (·.1) = false := by rfl) : PE X (.Call (.Name x p) (e :: es) [] pos) (tCB r t) := by
 intro pins s σ H Q I h;refine wpAny_Call_Name_kw (gZ I hg hm hv ?_ hn hdb);exact PyProof.Rows.callWith_type1 (thn (ha pos pins s σ H _ I h) fun us s1 ⟨vs, H1, I1, r1, q1⟩ => hc pins s1 σ H1 vs us Q I1 r1 q1) he hpl
end
end L2
namespace HT
open PySem PyProof.Rows
section
open PySem.SeqAt
open PySem.AutoSeq1 (wpAny_loadPart')
open PySem.MeetsSeq PySem.MeetsSeq2 PySem.MeetsSeq3
end
section
variable {prog : Program} {w : World} {A : Around} {E : Value → Shared → Prop} {s : Shared}
noncomputable def sIx (n d : Nat) : Option Int → Nat
 | none => d
 | some v => if v < 0 then (v + (n : Int)).toNat else min v.toNat n
theorem n_ (n d : Nat) : sIx n d none = d := rfl
theorem kf (n d k : Nat) : sIx n d (some (k : Int)) = min k n := by
 show (if (k : Int) < 0 then ((k : Int) + (n : Int)).toNat else min (k : Int).toNat n) = min k n
 rw [if_neg (by lia), Int.toNat_natCast]
end
end HT
namespace L2
open PySem PySem.Spec PyProof.Rows
noncomputable abbrev TO := St → Hp → (Option Int → Hp → Prop) → Prop
noncomputable def PO (X : Cx) (e : Option Expr) (t : TO) : Prop :=
 ∀ (pins : List (Addr × Obj)) (s : Shared) (σ : St) (H : Hp) (Q : Option Int → Hp → Prop), Inv X pins σ H s → t σ H Q →
  wpAny (model X.prog X.w) X.A (evalPart e X.env) (fun u s' => ∃ o H', Inv X pins σ H' s' ∧ IsPart u o ∧ Q o H') X.xe s
noncomputable def p_ : TO := fun _ H Q => Q none H
noncomputable def wL (t : TE) : TO := fun σ H Q => t σ H fun x H1 => ∃ i, x = .int i ∧ Q (some i) H1
theorem intsAre_of {ns : List Int} : ∀ {us : List Value}, Vals (ns.map V.int) us → IntsAre us ns := by
 induction ns with
 | nil => intro us r; rw [List.map_nil] at r; cases r; exact .nil
 | cons n ns ih =>
  intro us r;rw [List.map_cons] at r;cases r with
  | cons r1 r2 =>
   obtain ⟨t, e⟩ := r1;subst e;exact .cons n t (ih r2)
section
variable {X : Cx} {e : Expr} {te : TE} {lo hi : Option Expr} {tl th : TO} {pos p2 : Pos}
theorem vn : PO X none p_ := by
 intro pins s σ H Q I h;rw [evalPart_none];exact wpAny_pure ⟨none, H, I, .none, h⟩
theorem uO (h : PE X e te) : PO X (some e) (wL te) := by
 intro pins s σ H Q I hw;rw [evalPart_some];refine thn (h pins s σ H _ I hw) fun u s1 ⟨x, H1, I1, r1, q1⟩ => ?_
 obtain ⟨i, rfl, q⟩ := q1;obtain ⟨t, rfl⟩ := r1;exact ⟨some i, H1, I1, .int i t, q⟩
noncomputable def SlR (X : Cx) (r : V → Option Int → Option Int → Hp → VK → Prop) : Prop :=
 ∀ (pins : List (Addr × Obj)) (s : Shared) (σ : St) (H : Hp) (x : V) (v vl vu : Value) (lo hi : Option Int) (sl : Addr) (Q : VK), Inv X pins σ H s → RelV x v → s.heap.IsSliceOf sl vl vu .none → IsPart vl lo → IsPart vu hi → r x lo hi H Q →
  ∃ T id, typeLookup (.type T) "__getitem__" = pure (some (.builtin id)) ∧ s.TypeIs v T ∧ wpAny (model X.prog X.w) X.A (getItem v (.ref sl)) (EP X pins σ Q) X.xe s
noncomputable def tSl (r : V → Option Int → Option Int → Hp → VK → Prop) (te : TE) (tl th : TO) : TE := fun σ H Q => te σ H fun x H1 => tl σ H1 fun l H2 => th σ H2 fun u H3 => r x l u H3 Q
theorem sE {r : V → Option Int → Option Int → Hp → VK → Prop} (hr : SlR X r) (he : PE X e te) (hl : PO X lo tl) (hu : PO X hi th) : PE X (.Subscript e (.Slice lo hi none p2) pos) (tSl r te tl th) := by
 intro pins s σ H Q I h;refine Subscript_ (thn (he pins s σ H _ I h) fun v s1 ⟨x, H1, I1, r1, q1⟩ => ?_)
 refine wpAny_Slice (thn (hl pins s1 σ H1 _ I1 q1) fun vl s2 ⟨l, H2, I2, pl, q2⟩ => thn (hu pins s2 σ H2 _ I2 q2) fun vu s3 ⟨u, H3, I3, pu, q3⟩ => ?_)
 rw [evalPart_none];refine wpAny_pure ?_;have I4 : Inv X pins σ H3 { s3 with heap := s3.heap.push { cls := .type "slice", data := .fields #[vl, vu, .none] } } := I3.kept (t' := s3.toks) fun b ob q => Heap.get?_push_of_some _ q
 obtain ⟨T, id, hT, ht, hg⟩ := hr pins { s3 with heap := s3.heap.push { cls := .type "slice", data := .fields #[vl, vu, .none] } } σ H3 x v vl vu l u s3.heap.objs.size Q I4 r1 (Heap.IsSliceOf.new ..) pl pu q3
 show wpAny (model X.prog X.w) X.A (subscriptTail e (.Slice lo hi none p2) v (.ref s3.heap.objs.size)) (EP X pins σ Q) X.xe { s3 with heap := s3.heap.push { cls := .type "slice", data := .fields #[vl, vu, .none] } }
 exact tail_any (ops := [.ref s3.heap.objs.size, v]) ht hT hg (by with_unfolding_all rfl)
noncomputable def sk (xs : List V) (lo hi : Option Int) : List V := (xs.drop (HT.sIx xs.length 0 lo)).take (HT.sIx xs.length xs.length hi - HT.sIx xs.length 0 lo)
theorem nN (xs : List V) (lo hi : Option Int) : (sk xs lo hi).length ≤ xs.length := by
 unfold sk;rw [List.length_take, List.length_drop]
 lia
end
end L2
namespace L2
open PySem PySem.Spec PyProof.Rows
noncomputable def ixN (n : Nat) (i : Int) : Option Nat := if 0 ≤ i then (if i < n then some i.toNat else none) else if -(n : Int) ≤ i then some (i + n).toNat else none
noncomputable def atI {α : Type} (xs : List α) (i : Int) : Option α := (ixN xs.length i).bind fun j => xs[j]?
theorem qh {n : Nat} {i : Int} {j : Nat} (h : ixN n i = some j) : seqIndex? i n = some j ∧ j < n ∧ -(n : Int) ≤ i ∧ i < n := by
 unfold ixN at h;by_cases h0 : 0 ≤ i
 ·rw [if_pos h0] at h
  by_cases h1 : i < n
  ·rw [if_pos h1] at h
   have e : i.toNat = j := Option.some.inj h;exact ⟨by rw [seqIndex_of h0 h1, e], by lia, by lia, h1⟩
  ·rw [if_neg h1] at h; cases h
 ·rw [if_neg h0] at h
  by_cases h1 : -(n : Int) ≤ i
  ·rw [if_pos h1] at h
   have e : (i + n).toNat = j := Option.some.inj h;exact ⟨by rw [seqIndex_neg (by lia) h1, e], by lia, h1, by lia⟩
  ·rw [if_neg h1] at h; cases h
theorem m3 {α : Type} {xs : List α} {i : Int} {v : α} (h : atI xs i = some v) : ∃ j, seqIndex? i xs.length = some j ∧ xs[j]? = some v ∧ j < xs.length ∧ -(xs.length : Int) ≤ i ∧ i < xs.length := by
 unfold atI at h;cases e : ixN xs.length i with
 | none => rw [e] at h; cases h
 | some j =>
  rw [e] at h;obtain ⟨h1, h2, h3, h4⟩ := qh e;exact ⟨j, h1, h, h2, h3, h4⟩
theorem eH {α : Type} {xs : List α} {j : Nat} {v : α} (h : xs[j]? = some v) : atI xs (j : Int) = some v := by
 have hj : j < xs.length := (List.getElem?_eq_some_iff.mp h).1;have e : ixN xs.length (j : Int) = some j := by
  unfold ixN;rw [if_pos (by lia), if_pos (by lia)]; simp
 unfold atI; rw [e]; exact h
theorem nU {α : Type} (xs : List α) (v : α) : atI (xs ++ [v]) (-1) = some v := by
 have hl : (xs ++ [v]).length = xs.length + 1 := by simp
 have e : ixN (xs ++ [v]).length (-1) = some xs.length := by
  unfold ixN;rw [hl, if_neg (by decide), if_pos (by lia)]
  congr 1
  lia
 unfold atI;rw [e];show (xs ++ [v])[xs.length]? = some v
 simp
noncomputable def j9 (b : Expr) : Prop := ∀ o i, subscripted b false o i = operate [o, i] (getItem o i)
noncomputable def IxR (X : Cx) (r : R2) : Prop :=
 ∀ (value slice : Expr) (pins : List (Addr × Obj)) (s : Shared) (σ : St) (H : Hp) (x y : V) (v u : Value) (Q : VK), Inv X pins σ H s → RelV x v → RelV y u → r x y H Q →
  subscripted slice false v u = operate [v, u] (getItem v u) → wpAny (model X.prog X.w) X.A (subscriptTail value slice v u) (EP X pins σ Q) X.xe s
noncomputable def MtR (X : Cx) (id : String) (r : V → List V → Hp → VK → Prop) : Prop :=
 ∀ (pins : List (Addr × Obj)) (s : Shared) (σ : St) (H : Hp) (x : V) (xs : List V) (v : Value) (us : List Value) (Q : VK), Inv X pins σ H s → RelV x v → Vals xs us → r x xs H Q →
  wpAny (model X.prog X.w) X.A (call (.builtin id) (v :: us)) (EP X pins σ Q) X.xe s
section
variable {X : Cx} {a b : Expr} {ta tb : TE} {pos : Pos}
theorem IxR.or {r r' : R2} (h : IxR X r) (h' : IxR X r') : IxR X (fun x y H Q => r x y H Q ∨ r' x y H Q) := by
 intro value slice pins s σ H x y v u Q I rx ry q hs;rcases q with q | q
 ·exact h value slice pins s σ H x y v u Q I rx ry q hs
 ·exact h' value slice pins s σ H x y v u Q I rx ry q hs
theorem nH {r : R2} (hr : IxR X r) (ha : PE X a ta) (hb : PE X b tb) (hs : j9 b) : PE X (.Subscript a b pos) (tOp r ta tb) := by
 intro pins s σ H Q I h;exact Subscript_ (BY ha hb I h fun v u s2 x y H2 I2 rx ry q => hr a b pins s2 σ H2 x y v u Q I2 rx ry q (hs _ _))
noncomputable def pP (K : PySem.W.Frag) : R2 := fun x y H Q => ∃ p xs i v, x = .ref p ∧ y = .int i ∧ SqL K H p xs ∧ atI xs i = some v ∧ Q v H
noncomputable def B6 (K : PySem.W.Frag) : R2 := fun x y H Q => ∃ p xs i v, x = .ref p ∧ y = .int i ∧ SqT K H p xs ∧ atI xs i = some v ∧ Q v H
noncomputable def BZ : R2 := fun x y H Q => ∃ z i c, x = .str z ∧ y = .int i ∧ z.length ≤ sizeLine ∧ atI z.cps.toList i = some c ∧ Q (.str ⟨#[c]⟩) H
theorem qi : IxR X (pP X.K) := by
 intro value slice pins s σ H x y v u Q I rx ry h hs;obtain ⟨p, xs, i, z, rfl, rfl, hq, he, q⟩ := h;cases rx;obtain ⟨t, rfl⟩ := ry;obtain ⟨its, r, pl, hz⟩ := I.list hq;obtain ⟨j, h1, h2, h3, h4, h5⟩ := m3 he;obtain ⟨w, ew, rw'⟩ := r.get h2;have hl := r.length;have hn := iH;have fin : EP X pins σ Q w s := ⟨z, H, I, rw', q⟩;by_cases h0 : 0 ≤ i
 ·have hj : i.toNat = j := by
   rw [seqIndex_of h0 h5] at h1;exact Option.some.inj h1
  exact item_listR pl.isList h0 (by lia) (by rw [hj]; simpa using ew) fin hs
 ·have hj : (i + (its.toArray.size : Int)).toNat = j := by
   rw [seqIndex_neg (by lia) h4] at h1
   rw [List.size_toArray, ← hl];exact Option.some.inj h1
  exact subscriptTail_builtinR (x := w) pl.isList.typeIs slot_list_getitem.lookup
   (wpAny_getItem_list_neg (Q := fun r s' => r = w ∧ EP X pins σ Q r s') pl.isList (by lia) (by rw [List.size_toArray] <;> lia) (by lia) (by rw [hj]; simpa using ew) ⟨rfl, fin⟩) hs
theorem xb : IxR X (B6 X.K) := by
 intro value slice pins s σ H x y v u Q I rx ry h hs;obtain ⟨p, xs, i, z, rfl, rfl, hq, he, q⟩ := h;cases rx;obtain ⟨t, rfl⟩ := ry;obtain ⟨its, r, pl, hz⟩ := I.tuple hq;obtain ⟨j, h1, h2, h3, h4, h5⟩ := m3 he;obtain ⟨w, ew, rw'⟩ := r.get h2;have hl := r.length;have hn := iH;have fin : EP X pins σ Q w s := ⟨z, H, I, rw', q⟩;exact subscriptTail_builtinR (x := w) pl.typeIs slot_tuple_getitem.lookup
  (getItem_tuple (j := j) (Q := fun r s' => r = w ∧ EP X pins σ Q r s') pl (by lia) (by lia) (by rw [List.size_toArray, ← hl]; exact h1) (by simpa using ew) ⟨rfl, fin⟩) hs
theorem xI : IxR X BZ := by
 intro value slice pins s σ H x y v u Q I rx ry h hs;obtain ⟨z, i, c, rfl, rfl, hz, he, q⟩ := h;obtain ⟨t, rfl⟩ := rx;obtain ⟨t', rfl⟩ := ry;obtain ⟨j, h1, h2, h3, h4, h5⟩ := m3 he;have hl : z.cps.toList.length = z.length := by simp [Str.length]
 rw [hl] at h1 h4 h5;have hn := iH;exact tail_any (typeIs_str s z t) slot_str_getitem.lookup (getItem_str (c := c) (by
  have e1 : decide (i < -(2 ^ 63 : Int)) = false := decide_eq_false (by lia)
  have e2 : decide (i ≥ 2 ^ 63) = false := decide_eq_false (by lia)
  rw [e1, e2, Bool.or_false]) (by rw [h1]; simpa using h2) ⟨.str ⟨#[c]⟩, H, I.tok _, ⟨_, rfl⟩, q⟩) hs
noncomputable def rIx (K : PySem.W.Frag) : R2 := fun x y H Q => pP K x y H Q ∨ B6 K x y H Q ∨ BZ x y H Q
theorem aw : IxR X (rIx X.K) := qi.or (xb.or xI)
theorem oR (its : List Value) (n j : Nat) (u : Value) : Obj.mapSeq (·.setIfInBounds j u) { cls := .type "list", data := .seq its.toArray n } = { cls := .type "list", data := .seq (its.set j u).toArray n } := by
 simp [Obj.mapSeq]
theorem Inv.lst {pins : List (Addr × Obj)} {σ : St} {H : Hp} {s : Shared} {p : Addr} {xs : List V} (I : Inv X pins σ H s) (h : H p = some (.lst xs)) :
  ∃ (its : List Value) (n : Nat), Vals xs its ∧ s.heap.get? p = some { cls := .type "list", data := .seq its.toArray n } ∧ xs.length ≤ sizeLine := by
 obtain ⟨z, its, n, r, e⟩ := I.hok p _ h;exact ⟨its, n, r, e, z⟩
theorem Inv.lstUpd {pins : List (Addr × Obj)} {σ : St} {H : Hp} {s : Shared} {p : Addr} {xs ys : List V} {its its' : List Value} {n n' : Nat} {f : Obj → Obj} (I : Inv X pins σ H s) (h : H p = some (.lst xs))
  (ho : s.heap.get? p = some { cls := .type "list", data := .seq its.toArray n }) (hf : f { cls := .type "list", data := .seq its.toArray n } = { cls := .type "list", data := .seq its'.toArray n' }) (r : Vals ys its') (hz : ys.length ≤ sizeLine) (t : Nat) :
  Inv X pins σ (upd H p (.lst ys)) { s with heap := s.heap.update p f, toks := t } := by
 have e : (s.heap.update p f).get? p = some { cls := .type "list", data := .seq its'.toArray n' } := by
  rw [Heap.get?_update_self f ho (by rw [hf] <;> rfl), hf]
 refine I.write (x := p) (e := p) (by rw [h]; trivial) (.inl rfl) (fun b u hb q => (Heap.get?_update_other _ _ (Ne.symm hb)).trans q) ⟨_, e⟩ ?_
 exact ⟨hz, its', n', r, e⟩
noncomputable def wm : V → V → V → Hp → (Hp → Prop) → Prop := fun o i v H Q => ∃ p xs k j, o = .ref p ∧ i = .int k ∧ H p = some (.lst xs) ∧ ixN xs.length k = some j ∧ Q (upd H p (.lst (xs.set j v)))
theorem set_list : CB X wm := by
 intro pins s σ H o i v ov iv u Q I ro ri rv h;obtain ⟨p, xs, k, j, rfl, rfl, hp, hj, q⟩ := h;cases ro;obtain ⟨t, rfl⟩ := ri;obtain ⟨its, n, r, ho, hz⟩ := I.lst hp;obtain ⟨h1, h2, h3, h4⟩ := qh hj;have hl := r.length;have hn := iH;have I' : Inv X pins σ (upd H p (.lst (xs.set j v))) { s with heap := s.heap.update p (Obj.mapSeq (·.setIfInBounds j u)) } :=
  I.lstUpd hp ho (oR its n j u) (r.set rv j) (by rw [List.length_set]; exact hz) s.toks
 by_cases h0 : 0 ≤ k
 ·have hk : k.toNat = j := by
   rw [seqIndex_of h0 h4] at h1;exact Option.some.inj h1
  exact PySem.W.ki_setAt ho h0 (by lia) (by rw [List.size_toArray, ← hl]; exact h4) (by rw [hk]; exact ⟨_, I', q⟩)
 ·have hk : (k + (its.toArray.size : Int)).toNat = j := by
   rw [seqIndex_neg (by lia) h3] at h1
   rw [List.size_toArray, ← hl];exact Option.some.inj h1
  exact PySem.W.ki_setBack ho (by lia) (by rw [List.size_toArray, ← hl]; exact h3) (by lia) (by rw [hk]; exact ⟨_, I', q⟩)
theorem mv (lo hi : Option Int) (n : Nat) : (sliceBounds lo hi none n).1 = ((HT.sIx n 0 lo : Nat) : Int) ∧ (sliceBounds lo hi none n).2.1 = ((HT.sIx n n hi : Nat) : Int) ∧ (sliceBounds lo hi none n).2.2 = 1 := by
 refine ⟨?_, ?_, rfl⟩
 ·cases lo with
  | none => simp [sliceBounds, HT.sIx]
  | some i =>
   simp only [sliceBounds, HT.sIx, Option.getD_none, show (1 : Int) > 0 by decide, if_true]
   by_cases h : i < 0
   ·simp only [h, if_true] <;> lia
   ·simp only [h, if_false] <;> lia
 ·cases hi with
  | none => simp [sliceBounds, HT.sIx]
  | some i =>
   simp only [sliceBounds, HT.sIx, Option.getD_none, show (1 : Int) > 0 by decide, if_true]
   by_cases h : i < 0
   ·simp only [h, if_true] <;> lia
   ·simp only [h, if_false] <;> lia
theorem k8 (its : List Value) (lo hi : Option Int) : slicePick its.toArray lo hi none = ((its.drop (HT.sIx its.length 0 lo)).take (HT.sIx its.length its.length hi - HT.sIx its.length 0 lo)).toArray := by
 obtain ⟨h1, h2, h3⟩ := mv lo hi its.toArray.size;unfold slicePick;rw [h1, h2, h3];simp only [sliceRange_one, pick_run, List.size_toArray] <;> rfl
noncomputable def Ca (K : PySem.W.Frag) : V → Option Int → Option Int → Hp → VK → Prop := fun x lo hi H Q => ∃ a xs, x = .ref a ∧ SqL K H a xs ∧ ∀ p, H p = none → Q (.ref p) (upd H p (.lst (sk xs lo hi)))
theorem ik : SlR X (Ca X.K) := by
 intro pins s σ H x v vl vu lo hi sl Q I rx hs pl pu h;obtain ⟨a, xs, rfl, hx, q⟩ := h;cases rx;obtain ⟨its, r, ht, hz⟩ := I.list hx;have hlen := r.length;refine ⟨"list", _, slot_list_getitem.lookup, ht.isList.typeIs, ?_⟩;refine wpAny_getItem_list_slice ht.isList hs pl pu .none (by simp) ?_ (by rw [List.size_toArray] <;> lia)
 rw [k8, ← hlen];refine ⟨.ref s.heap.objs.size, _, I.laid (t' := s.toks) (o := .lst (sk xs lo hi)) (fun b ob q => Heap.get?_push_of_some _ q) (Nat.le_refl _) ?_, rfl, q _ (I.hok.fresh (Nat.le_refl _))⟩
 exact ⟨Nat.le_trans (nN xs lo hi) hz, _, 0, (r.drop (HT.sIx xs.length 0 lo)).take (HT.sIx xs.length xs.length hi - HT.sIx xs.length 0 lo), Heap.get?_push_size _ rfl⟩
theorem nc : dZ X (.builtin "len") (fun xs H Q => ∃ p ys, xs = [.ref p] ∧ (SqL X.K H p ys ∨ SqT X.K H p ys) ∧ Q (.int ys.length) H) := by
 intro pins s σ H xs us Q I r h;obtain ⟨p, ys, rfl, hq, q⟩ := h;obtain ⟨u, rfl, rx⟩ := vals1 r;cases rx;have hn := iH;rcases hq with hq | hq
 ·obtain ⟨its, r', pl, hz⟩ := I.list hq
  have hlen := r'.length;exact Calls.call_len_list pl.isList (by simp only [List.size_toArray] <;> lia) ⟨.int ys.length, H, I.tok _, ⟨s.toks + 1, by rw [List.size_toArray, hlen]⟩, q⟩
 ·obtain ⟨its, r', pl, hz⟩ := I.tuple hq
  have hlen := r'.length;exact len_tuple pl (by simp only [List.size_toArray] <;> lia) ⟨.int ys.length, H, I.tok _, ⟨s.toks + 1, by rw [List.size_toArray, hlen]⟩, q⟩
theorem mQ : dZ X (.builtin "len") (fun xs H Q => ∃ z, xs = [.str z] ∧ z.length ≤ sizeLine ∧ Q (.int z.length) H) := by
 intro pins s σ H xs us Q I r h;obtain ⟨z, rfl, hz, q⟩ := h;obtain ⟨u, rfl, t, rfl⟩ := vals1 r;have hn := iH;exact len_str (by lia) ⟨.int z.length, H, I.tok _, ⟨_, rfl⟩, q⟩
theorem dZ.or {f : Value} {r r' : List V → Hp → VK → Prop} (h : dZ X f r) (h' : dZ X f r') : dZ X f (fun xs H Q => r xs H Q ∨ r' xs H Q) := by
 intro pins s σ H xs us Q I rs q;rcases q with q | q
 ·exact h pins s σ H xs us Q I rs q
 ·exact h' pins s σ H xs us Q I rs q
theorem mh : dZ X (.type "list") (fun xs H Q => ∃ p ys, xs = [.ref p] ∧ (SqL X.K H p ys ∨ SqT X.K H p ys) ∧ ∀ l, H l = none → Q (.ref l) (upd H l (.lst ys))) := by
 intro pins s σ H xs us Q I r h;obtain ⟨p, ys, rfl, hq, q⟩ := h;obtain ⟨u, rfl, rx⟩ := vals1 r;cases rx;have fin : ∀ (its : List Value), Vals ys its → ys.length ≤ sizeLine → ∀ (h' : Heap) (c' : Nat), (∀ b o', s.heap.get? b = some o' → h'.get? b = some o') →
   h'.get? s.heap.objs.size = some { cls := .type "list", dict := none, data := .seq its.toArray c', slots := #[] } → EP X pins σ Q (.ref s.heap.objs.size) { s with heap := h' } := fun its r' hz h' c' kp e =>
  ⟨.ref s.heap.objs.size, _, I.laid (t' := s.toks) kp (Nat.le_refl _) (show eZ X.prog X.w _ h' _ (.lst ys) from ⟨hz, its, c', r', e⟩), rfl, q _ (I.hok.fresh (Nat.le_refl _))⟩
 rcases hq with hq | hq
 ·obtain ⟨its, r', pl, hz⟩ := I.list hq
  have hlen := r'.length;obtain ⟨o, ho, hc, n, hd⟩ := pl.isList;exact call_list_seq p (.inl rfl) ho hc hd (fun h' c' kp e => fin its r' hz h' c' kp e) (by simp only [List.size_toArray] <;> lia)
 ·obtain ⟨its, r', pl, hz⟩ := I.tuple hq
  have hlen := r'.length;obtain ⟨o, ho, hc, n, hd⟩ := pl;exact call_list_seq p (.inr rfl) ho hc hd (fun h' c' kp e => fin its r' hz h' c' kp e) (by simp only [List.size_toArray] <;> lia)
noncomputable def tyV (K : PySem.W.Frag) (T : String) (x : V) (H : Hp) : Prop := match x with
 | .str _ => T = "str"
 | .int _ => T = "int"
 | .ref p => (T = "list" ∧ ∃ xs, SqL K H p xs) ∨ (T = "tuple" ∧ ∃ o, K.lookup p = some o ∧ o.cls = .type "tuple" ∧ o.dict = none) ∨
   (T = "dict" ∧ ((∃ kvs, H p = some (.dK kvs)) ∨ ∃ kvs, H p = some (.dT kvs))) ∨ (T = "set" ∧ ∃ S n, H p = some (.set S n))
 | _ => False
theorem sO {pins : List (Addr × Obj)} {σ : St} {H : Hp} {s : Shared} {T : String} {x : V} {v : Value} (I : Inv X pins σ H s) (r : RelV x v) (ty : tyV X.K T x H) :
  s.TypeIs v T ∧ ∀ a, v = .ref a → ∃ ob, s.heap.get? a = some ob ∧ ob.dict = none := by
 cases x with
 | str z =>
  obtain ⟨t, rfl⟩ := r;cases (show T = "str" from ty)
  exact ⟨typeIs_str s z t, fun _ e => nomatch e⟩
 | int i =>
  obtain ⟨t, rfl⟩ := r;cases (show T = "int" from ty)
  exact ⟨typeIs_int s i t, fun _ e => nomatch e⟩
 | ref p =>
  cases r;rcases ty with ⟨rfl, xs, hq⟩ | ⟨rfl, o, hk, hc, hd⟩ | ⟨rfl, hk⟩ | ⟨rfl, S, n, hk⟩
  ·obtain ⟨its, _, pl, _⟩ := I.list hq
   refine ⟨pl.isList.typeIs, fun a e => ?_⟩
   cases e;obtain ⟨o, n, e, c, hd, _⟩ := pl;exact ⟨o, e, hd⟩
  ·refine ⟨⟨o, I.kIn p o hk, hc⟩, fun a e => ?_⟩
   cases e;exact ⟨o, I.kIn _ o hk, hd⟩
  ·have z : ∃ o, s.heap.get? p = some o ∧ o.ExactDict := by
    rcases hk with ⟨kvs, hk⟩ | ⟨kvs, hk⟩
    ·obtain ⟨_, _, _, _, o, _, _, e, ex, _⟩ := I.hok p _ hk
     exact ⟨o, e, ex⟩
    ·obtain ⟨_, _, _, _, o, _, _, e, ex, _⟩ := I.hok p _ hk
     exact ⟨o, e, ex⟩
   obtain ⟨o, e, ex⟩ := z;refine ⟨⟨o, e, ex.1⟩, fun a e2 => ?_⟩
   cases e2;exact ⟨o, e, ex.2.1⟩
  ·obtain ⟨o, _, _, _, e, ex, _⟩ := I.hok p _ hk
   refine ⟨⟨o, e, ex.1⟩, fun a e2 => ?_⟩
   cases e2;exact ⟨o, e, ex.2.1⟩
 | _ => exact False.elim ty
noncomputable def CK (K : PySem.W.Frag) (T : String) (r : V → List V → Hp → VK → Prop) (to : TE) : TE := fun σ H Q => to σ H fun x H1 => tyV K T x H1 ∧ r x [] H1 Q
noncomputable def tBM (K : PySem.W.Frag) (T : String) (r : V → List V → Hp → VK → Prop) (to : TE) (t : TA) : TE := fun σ H Q => to σ H fun x H1 => tyV K T x H1 ∧ t σ H1 fun xs H2 => r x xs H2 Q
variable {o e : Expr} {es : List Expr} {to : TE} {t : TA} {name : Str} {apos cpos : Pos} {T id : String} {r : V → List V → Hp → VK → Prop}
theorem xU (pa : PlainAttrs T) (slot : Slot T name id) (hty : typeOf (.builtin id) = pure (.type "method_descriptor")) (hm : MtR X id r) (ho : PE X o to)
  (hbase : attributeBase o name X.env (eval o X.env) = eval o X.env := by rfl) (hline : (apos.endLine == cpos.line) = true := by rfl) : PE X (.Call (.Attribute o name apos) [] [] cpos) (CK X.K T r to) := by
 intro pins s σ H Q I h;refine wpAny_Call_method0_late hbase hline (thn (ho pins s σ H _ I h) fun v s1 ⟨x, H1, I1, r1, ty, q1⟩ => ?_)
 obtain ⟨h1, h2⟩ := sO I1 r1 ty;exact ⟨T, id, pa, slot, hty, h1, h2, Calls.callWith_builtin rfl (PySem.evalArgs_none (hm pins s1 σ H1 x [] v [] Q I1 r1 .nil q1))⟩
theorem xa (pa : PlainAttrs T) (slot : Slot T name id) (hty : typeOf (.builtin id) = pure (.type "method_descriptor")) (hm : MtR X id r) (ho : PE X o to) (ha : PA X (e :: es) t)
  (hbase : attributeBase o name X.env (eval o X.env) = eval o X.env := by rfl)
  (hfew : ((backTo cpos (starEach (e :: es) X.env)).all (fun x => !x.1) && (backToKw cpos (keywordEach [] X.env)).all (fun x => x.1.isSome)
   && decide ((e :: es).length + ([] : List Keyword).length + (if ([] : List Keyword).isEmpty then 0 else 1) < 30)) = true := by rfl)
  (hline : (apos.endLine == cpos.line) = true := by rfl) (hs : starEach (e :: es) X.env = (false, eval e X.env) :: starEach es X.env := by rfl) (hplain : (backTo cpos (starEach es X.env)).any (·.1) = false := by rfl) :
  PE X (.Call (.Attribute o name apos) (e :: es) [] cpos) (tBM X.K T r to t) := by
 intro pins s σ H Q I h;refine wpAny_Call_method_late hbase hfew hline rfl (thn (ho pins s σ H _ I h) fun v s1 ⟨x, H1, I1, r1, ty, q1⟩ => ?_)
 obtain ⟨h1, h2⟩ := sO I1 r1 ty;refine ⟨T, id, pa, slot, hty, h1, h2, ?_⟩;have hA := ha cpos pins s1 σ H1 _ I1 q1;rw [hs] at hA ⊢;refine Calls.callWith_builtin (by show (false || (backTo cpos (starEach es X.env)).any (·.1)) = false; rw [hplain] <;> rfl) (Calls.evalArgs_plain ?_)
 exact thn hA fun us s2 ⟨vs, H2, I2, r2, q2⟩ => hm pins s2 σ H2 x vs v us Q I2 r1 r2 q2
end
end L2
namespace L2
open PySem PySem.Spec PyProof.Rows
noncomputable def MtM (X : Cx) (id : String) (r : V → List V → Hp → VK → Prop) : Prop :=
 ∀ (pins : List (Addr × Obj)) (s : Shared) (σ : St) (H : Hp) (x : V) (xs : List V) (v : Value) (us : List Value) (Q : VK), Inv X pins σ H s → RelV x v → Vals xs us → r x xs H Q →
  wpAny (model X.prog X.w) X.A (call (.builtin id) (v :: us)) (EP X pins σ Q) X.xe s
theorem Vals.one {x : V} {us : List Value} (h : Vals [x] us) : ∃ u, us = [u] ∧ RelV x u := by
 cases h with
 | cons r t => cases t; exact ⟨_, rfl, r⟩
theorem Vals.two {x y : V} {us : List Value} (h : Vals [x, y] us) : ∃ u v, us = [u, v] ∧ RelV x u ∧ RelV y v := by
 cases h with
 | cons r t => obtain ⟨v, rfl, q⟩ := Vals.one t; exact ⟨_, v, rfl, r, q⟩
theorem Vals.zero : ∀ {us : List Value}, Vals [] us → us = []
 | _, .nil => rfl
theorem Vals.dropLast {xs : List V} {us : List Value} (h : Vals xs us) : Vals xs.dropLast us.dropLast := by
 induction h with
 | nil => exact .nil
 | cons r t ih =>
  cases t with
  | nil => exact .nil
  | cons q t' => exact .cons r ih
theorem Vals.rep {xs : List V} {us : List Value} (h : Vals xs us) : ∀ k : Nat, Vals (List.replicate k xs).flatten (List.replicate k us).flatten
 | 0 => .nil
 | k + 1 => by
  rw [List.replicate_succ, List.replicate_succ, List.flatten_cons, List.flatten_cons];exact Vals.append h (Vals.rep h k)
theorem pK {α : Type} (l : List α) : l.eraseIdx (l.length - 1) = l.dropLast := by
 induction l with
 | nil => rfl
 | cons a r ih =>
  cases r with
  | nil => rfl
  | cons b r =>
   have e : (a :: b :: r).length - 1 = ((b :: r).length - 1) + 1 := by
    have h1 : (a :: b :: r).length = r.length + 2 := rfl;have h2 : (b :: r).length = r.length + 1 := rfl
    lia
   rw [e, List.eraseIdx_cons_succ, ih]
   all_goals rfl
theorem foldl_rep (its : List Value) : ∀ (k : Nat) (acc : List Value),
  List.foldl (fun x1 x2 => x1 ++ x2) acc.toArray (List.replicate k its.toArray) = (acc ++ (List.replicate k its).flatten).toArray
 | 0, acc => by simp
 | k + 1, acc => by
  have e : acc.toArray ++ its.toArray = (acc ++ its).toArray := by simp
  have e2 : (acc ++ its) ++ (List.replicate k its).flatten = acc ++ (List.replicate (k + 1) its).flatten := by
   rw [List.replicate_succ, List.flatten_cons, List.append_assoc]
  rw [← e2, ← foldl_rep its k (acc ++ its), ← e, List.replicate_succ, List.foldl_cons]
section
variable {X : Cx} {pins : List (Addr × Obj)} {σ : St} {H : Hp} {s : Shared} {l b : Addr} {xs ys zs : List V}
theorem Inv.lset {its its' : List Value} {n : Nat} {f : Array Value → Array Value} {t' : Nat} (I : Inv X pins σ H s) (hH : H l = some (.lst xs))
  (e : s.heap.get? l = some { cls := .type "list", data := .seq its.toArray n }) (hf : f its.toArray = its'.toArray) (hv : Vals ys its') (hz : ys.length ≤ sizeLine) :
  Inv X pins σ (upd H l (.lst ys)) { s with heap := s.heap.update l (Obj.mapSeq f), toks := t' } := by
 have q := PySem.IsL.update e f;rw [hf] at q;refine I.write (x := l) (e := l) (by rw [hH]; exact trivial) (.inl rfl) (fun b' u hb hu => (Heap.get?_update_other s.heap (Obj.mapSeq f) (Ne.symm hb)).trans hu) ⟨_, q⟩ ?_
 exact ⟨hz, its', _, hv, q⟩
theorem Inv.lnew {its : List Value} {t' : Nat} (I : Inv X pins σ H s) (hv : Vals ys its) (hz : ys.length ≤ sizeLine) :
  Inv X pins σ (upd H s.heap.objs.size (.lst ys)) { s with heap := s.heap.push { cls := .type "list", data := .seq its.toArray }, toks := t' } :=
 I.laid (fun _ _ q => Heap.get?_push_of_some _ q) (Nat.le_refl _) ⟨hz, its, 0, hv, Heap.get?_push_size _ rfl⟩
theorem Inv.fresh (I : Inv X pins σ H s) : H s.heap.objs.size = none := I.hok.fresh (Nat.le_refl _)
theorem Inv.lstM (I : Inv X pins σ H s) (hH : H l = some (.lst xs)) : xs.length ≤ sizeLine ∧ ∃ (its : List Value) (n : Nat), Vals xs its ∧ xs.length = its.length ∧ s.heap.get? l = some { cls := .type "list", data := .seq its.toArray n } := by
 obtain ⟨z, its, n, r, e⟩ := I.hok l _ hH;exact ⟨z, its, n, r, r.length, e⟩
theorem oE {n : Nat} (h : n ≤ sizeLine) : Builtin.List.listTooLong n = false := by
 unfold Builtin.List.listTooLong;exact decide_eq_false (by lia)
end
section
variable {X : Cx}
noncomputable def pS : V → List V → Hp → VK → Prop := fun x vs H Q => ∃ l xs y, x = .ref l ∧ vs = [y] ∧ H l = some (.lst xs) ∧ xs.length < sizeLine ∧ Q .non (upd H l (.lst (xs ++ [y])))
theorem lU : MtM X "list.append" pS := by
 intro pins s σ H x vs v us Q I rx rv h;obtain ⟨l, xs, y, rfl, rfl, hH, hz, q⟩ := h;cases rx;obtain ⟨u, rfl, ru⟩ := rv.one;obtain ⟨z, its, n, r, hl, e⟩ := I.lstM hH;refine call_meets F.slot_list_append ⟨_, e, rfl⟩ F.entry_list_append (F.args_list_append_2 _ _) (PySem.list_append l its.toArray n u (by rw [List.size_toArray]; lia)) ⟨e, ?_⟩
 refine ⟨.non, _, I.lset (its' := its ++ [u]) hH e (by simp) (r.append (.cons ru .nil)) ?_, rfl, q⟩
 rw [List.length_append, List.length_singleton]
 lia
noncomputable def qt : V → List V → Hp → VK → Prop := fun x vs H Q => ∃ l b xs zs, x = .ref l ∧ vs = [.ref b] ∧ H l = some (.lst xs) ∧ H b = some (.lst zs) ∧ xs.length + zs.length ≤ sizeLine ∧ Q .non (upd H l (.lst (xs ++ zs)))
theorem rX : MtM X "list.extend" qt := by
 intro pins s σ H x vs v us Q I rx rv h;obtain ⟨l, b, xs, zs, rfl, rfl, hH, hB, hz, q⟩ := h;cases rx;obtain ⟨u, rfl, ru⟩ := rv.one;cases ru;obtain ⟨z, its, n, r, hl, e⟩ := I.lstM hH;obtain ⟨z2, its2, n2, r2, hl2, e2⟩ := I.lstM hB;have hsz : its.toArray.size + its2.toArray.size ≤ sizeLine := by rw [List.size_toArray, List.size_toArray]; lia
 have hlong : ¬ (!its.toArray.isEmpty && Builtin.List.listTooLong (its.toArray.size + its2.toArray.size)) = true := by
  rw [oE hsz, Bool.and_false];exact Bool.false_ne_true
 refine call_meets F.slot_list_extend ⟨_, e, rfl⟩ F.entry_list_extend (F.args_list_extend_2 _ _)
  (AutoSeq1.list_extend_list_list_0 l its.toArray n b its2.toArray n2 hlong (by rw [List.size_toArray]; lia) (by lia)) ⟨e, e2, ?_⟩
 refine ⟨.non, _, I.lset (its' := its ++ its2) hH e (by simp) (r.append r2) ?_, rfl, q⟩
 rw [List.length_append]
 lia
noncomputable def CM : V → List V → Hp → VK → Prop := fun x vs H Q => ∃ l xs y, x = .ref l ∧ vs = [] ∧ H l = some (.lst xs) ∧ xs[xs.length - 1]? = some y ∧ Q y (upd H l (.lst xs.dropLast))
theorem yS : MtM X "list.pop" CM := by
 intro pins s σ H x vs v us Q I rx rv h;obtain ⟨l, xs, y, rfl, rfl, hH, hy, q⟩ := h;cases rx;have hus := rv.zero;subst hus;obtain ⟨z, its, n, r, hl, e⟩ := I.lstM hH;obtain ⟨u, hu, ru⟩ := r.get hy;have hy' : its.toArray[its.toArray.size - 1]? = some u := by
  show its.toArray[its.length - 1]? = some u
  rw [← Array.getElem?_toList, ← hl];exact hu
 refine call_meets F.slot_list_pop ⟨_, e, rfl⟩ F.entry_list_pop (F.args_list_pop_1 _) (MeetsSeq.list_pop_last l its.toArray n u hy' (by rw [List.size_toArray]; lia)) ⟨e, ?_⟩
 refine ⟨y, _, I.lset (its' := its.dropLast) hH e ?_ r.dropLast ?_, ru, q⟩
 ·show its.toArray.eraseIdxIfInBounds (its.toArray.size - 1) = its.dropLast.toArray
  rw [List.size_toArray, List.eraseIdxIfInBounds_toArray, pK]
 ·rw [List.length_dropLast]
  lia
theorem len_rep {α : Type} (xs : List α) (k : Nat) : (List.replicate k xs).flatten.length = k * xs.length := by
 induction k with
 | zero => simp
 | succ k ih => rw [List.replicate_succ, List.flatten_cons, List.length_append, ih, Nat.succ_mul, Nat.add_comm]
end
section
variable {prog : Program} {w : World} {A : Around} {E : Value → Shared → Prop} {s : Shared}
set_option maxRecDepth 100000 in
end
section
variable {X : Cx}
end
end L2
namespace Att
open PySem PySem.W PySem.Calls PyProof.Rows
theorem jZ {P : Params} {h : Heap} : ∀ (ns : List Int) (vs : List Value), WellAll P h vs (ns.map WData.int) → IntsAre vs ns := by
 intro ns
 induction ns with
 | nil =>
  intro vs w;rw [List.map_nil] at w;cases w;exact .nil
 | cons n ns ih =>
  intro vs w;rw [List.map_cons] at w;cases w with
  | cons a b =>
   cases a;exact .cons _ _ (ih _ b)
theorem rz {l : OpenLaw} {n : Nat} (hn : l.most = some n) {P : Params} {h : Heap} {args : List WData} {vals : List Value}
  (hpre : l.row.toRowW.claim.pre args = true) (hwl : WellAll P h vals args) :
  ∃ a vs ns, vals = [Value.ref a] ∧ args = [WData.list (ns.map WData.int)] ∧ h.get? a = some { cls := .type "list", data := .seq vs.toArray } ∧ IntsAre vs ns ∧ ns.length ≤ n := by
 have hsh : WShape.hasAll [] args [.list .int] = true := (pre_splitW hpre).1;have hc : l.pre.holds [] { args := args } = true := (pre_splitW hpre).2;obtain ⟨d, r, rfl, h1, h2⟩ := hasAllW_cons hsh;obtain rfl := hasAllW_nil h2;obtain ⟨xs, rfl, h3⟩ := hasW_list h1;obtain ⟨ns, rfl⟩ := items_int h3;have hlen : ns.length ≤ n := by
  unfold OpenLaw.pre at hc;have h4 : (WTm.not (.lt (.lit (.int (n : Int))) (.len (.arg 0)))).holds [] { args := [.list (ns.map .int)] } = true := by
   have h4 := (holds_andW hc).1;rw [hn] at h4;exact h4
  have h5 := condW_of h4 (w_not (w_lt w_lit (w_len_list (w_arg rfl))));rw [List.length_map] at h5;refine Nat.le_of_not_lt fun q => ?_
  have q' : (n : Int) < ((ns.length : Nat) : Int) := by lia
  first
   | (rw [decide_eq_true q'] at h5; exact absurd h5 (by decide))
   | (simp at h5; lia)
 cases hwl with
 | cons w1 w2 =>
  cases w2;cases w1 with
  | list ho hall => exact ⟨_, _, ns, rfl, rfl, ho, jZ ns _ hall, hlen⟩
theorem rE (l : OpenLaw) (args : List WData) : l.row.toRowW.claim.post args (.bool true) args = true :=
 postW_of (r := l.row.toRowW) (X := (true == true))
  (show WShape.has [] (.bool true) .bool = true by first | rfl | decide | simp [WShape.has, WShape.arms, WShape.armsAll])
  (show (WTm.eq .res (.lit (.bool true))).value [] { args := args, res := some (.bool true), after := args } = some (.bool (true == true)) from w_eq_bool (w_res rfl) w_lit) rfl
theorem jQ {l : OpenLaw} {n : Nat} {q : Program} {loose : List Str} {XP : (Str → Option Value) → Heap → Prop} {YP : World → Heap → Prop} {d : DefRec}
  (hn : l.most = some n) (hdf : d.params.defaults = [])
  (call : ∀ (w : World) (s₀ s₁ : Shared) (mg mb : Str → Option Value) (fa : Addr) (o : Obj) (pm cd doc : Value) (a : Addr) (vs : List Value) (ns : List Int),
   Ground q loose [] XP w s₀ mg mb s₁.heap → YP w s₁.heap →
   s₁.heap.get? fa = some o → o.data = .func (docDef d.name d.params d.body d.scope pm cd doc) → s₁.heap.CodeRec cd d.name → mg d.name = some (.ref fa) →
   s₁.heap.get? a = some { cls := .type "list", data := .seq vs.toArray } → IntsAre vs ns → ns.length ≤ n → s₁.gens = #[] →
   codeAny (model l.prog w) callerA (.call (.ref fa) ⟨[.ref a], []⟩) (fun r s' => r = .ok (.ret (.bool true)) ∧ OldK s₁.heap s'.heap ∧ s'.os = s₁.os ∧ AllBare s'.gens) s₁) :
  WalkO q loose XP YP l.row.toRowW d [] (fun f vs => PySem.call f vs) := by
 intro w s₀ s₁ mg mb G Y fa o pm cd doc dV kV ho hd hcd hD hmg hg args vals as hpre hlay hrd hwl hlo;obtain rfl : dV = .none := Dflts.none hD hdf;obtain rfl : kV = .none := Dflts.noKw hD;obtain ⟨a, vs, ns, rfl, rfl, hobj, hints, hlen⟩ := rz hn hpre hwl;refine enter_call (codeAny_mono (call w s₀ s₁ mg mb fa o pm cd doc a vs ns G Y ho (fd_plain hd) hcd hmg hobj hints hlen hg) fun r s' hq => ?_)
 obtain ⟨rfl, h2, h3, h4⟩ := hq;exact ⟨.inl ⟨.bool true, .bool true, [], rfl, fun _ => rfl, .bool true, rE l _, fun _ => ⟨List.Pairwise.nil, fun _ hm => (nomatch hm)⟩⟩, h2, h3, h4⟩
section
variable {prog : Program} {w : World} {A : Around} {E : Value → Shared → Prop} {s : Shared} {K : Frag}
noncomputable def ledger (h : Heap) (L d : Addr) : List (Addr × Obj) := (List.range h.objs.size).filterMap fun a => if a = L ∨ a = d then none else (h.get? a).map fun o => (a, o)
end
end Att
namespace L2
open PySem PySem.Spec PyProof.Rows
theorem gp : ∀ {vs : List Value} {ns : List Int}, IntsAre vs ns → Vals (ns.map V.int) vs
 | _, _, .nil => .nil
 | _, _, .cons n t h => .cons ⟨t, rfl⟩ (gp h)
noncomputable def qR (H : Hp) : Prop := ∀ b, H b = none ∨ ∃ o xs, H b = some (.frz o (.lst xs))
theorem sV {P : Program} {w : World} {K : PySem.W.Frag} {mg mb : Str → Option Value} {CX : CXT} {k : Nat} {fa a : Addr} {fd : FuncData} {x : Str} {sp : Sp} {s₁ : Shared} {vs : List Value} {ns : List Int}
  (KX : K.In s₁.heap) (hns : s₁.heap.Ns mainGlobals mg) (hb : s₁.heap.Ns builtinsNs mb) (hbb : ∀ x : Str, x ≠ "__name__" → mb x = bootBuiltins x) (hlim : s₁.heap.NoLimit) (hg : s₁.gens = #[])
  (ha : s₁.heap.get? a = some { cls := .type "list", data := .seq vs.toArray }) (hi : IntsAre vs ns) (hl : ns.length ≤ sizeLine) (hr : Room k callerA)
  (F : ∀ base : Heap, K.In base → base.Ns mainGlobals mg → FnOk P w K mg base CX k fa fd [x] sp) (hbind : ∀ (s : Shared) (u : Value), BindsTo s fd ⟨[u], []⟩ [(x, u)])
  (hsp : ∀ H : Hp, qR H → SqL K H a (ns.map V.int) → sp [.ref a] H (fun v _ => v = .bl true) fun _ _ _ => False)
  (hCX : ∀ H e s', CX [] H s₁ (fun _ _ _ => False) e s' → False) :
  codeAny (model P w) callerA (.call (.ref fa) ⟨[.ref a], []⟩) (fun r s' => r = .ok (.ret (.bool true)) ∧ OldK s₁.heap s'.heap ∧ s'.os = s₁.os ∧ AllBare s'.gens) s₁ := by
 have rv := gp hi;have lenV := hi.length;have core : ∀ H : Hp, qR H → SqL K H a (ns.map V.int) → HOk P w H s₁.heap → (∀ b, H b ≠ none → b = a) → (H a ≠ none → K.lookup a = none) →
   codeAny (model P w) callerA (.call (.ref fa) ⟨[.ref a], []⟩) (fun r s' => r = .ok (.ret (.bool true)) ∧ OldK s₁.heap s'.heap ∧ s'.os = s₁.os ∧ AllBare s'.gens) s₁ := by
  intro H hO hS hok hA hK;have base_of : ∀ {b : Addr} {o : Obj}, s₁.heap.get? b = some o → H b = none → (i4 s₁.heap H).get? b = some o := fun e n => oK e n
  have noA : ∀ {b : Addr} {o : Obj} {es : Array DictEntry} {ep : Nat}, s₁.heap.get? b = some o → o.data = .dict es ep → H b = none := fun {b o es ep} e d => by
   cases q : H b with
   | none => rfl
   | some u =>
    have e' : b = a := hA b (by rw [q]; simp)
    subst e';rw [ha] at e; cases e;have d' : Data.seq vs.toArray _ = Data.dict es ep := d;cases d'
  have nsK : ∀ {b : Addr} {m : Str → Option Value}, s₁.heap.Ns b m → (i4 s₁.heap H).Ns b m := fun {b m} ⟨o, es, ep, e, d, r⟩ => ⟨o, es, ep, base_of e (noA e d), d, r⟩
  have hKb : K.In (i4 s₁.heap H) := fun b o e => base_of (KX b o e) (by
   cases q : H b with
   | none => rfl
   | some u =>
    have e' : b = a := hA b (by rw [q]; simp)
    subst e';rw [hK (by rw [q]; simp)] at e; cases e)
  have hM : Mod K mg (i4 s₁.heap H) := ⟨hKb, nsK hns, ⟨mb, nsK hb, hbb⟩, let ⟨mc, h1, h2⟩ := hlim; ⟨mc, nsK h1, h2⟩⟩;have e0 : Env0 P w K mg (i4 s₁.heap H) callerA [] s₁ H := ⟨rfl, hM, fun b o e => p8 e, Nat.le_of_eq (lJ _ _), trivial, fun b hb => absurd (show b ∈ ([] : List Addr) from hb) (by simp), hok, .of_eq hg⟩
  refine codeAny_mono ((F _ hKb (nsK hns)).run callerA [] s₁ H ⟨[.ref a], []⟩ [.ref a] [.ref a] _ _ hr e0 (hbind s₁ (.ref a)) (.cons rfl .nil) (hsp H hO hS)) fun r s' h => ?_
  cases r with
  | error e => exact (hCX H e s' h).elim
  | ok fl =>
   cases fl with
   | next => exact False.elim h
   | brk => exact False.elim h
   | cont => exact False.elim h
   | ret u =>
    obtain ⟨v, H', os, bare, un, hok', r', q⟩ := h;have q' : v = .bl true := q;subst q';obtain rfl : u = Value.bool true := r';refine ⟨rfl, OldK.of_keep fun b o e => ?_, os, bare⟩
    cases q : H b with
    | none => exact un.keep b o e q (by intro z; exact absurd (show b ∈ ([] : List Addr) from z) (by simp)) (by simp)
    | some u =>
     rcases hO b with z | ⟨ob, xs, z⟩
     ·rw [q] at z; cases z
     ·have z2 := un.frzs b ob _ z
      obtain ⟨e1, _⟩ := hok b _ z;obtain ⟨e2, _⟩ := hok' b _ z2;rw [e] at e1; cases e1;exact e2
 cases hk : K.lookup a with
 | some o =>
  have e := KX a o hk;rw [ha] at e;cases e;refine core (fun _ => none) (fun _ => .inl rfl) (.inr ⟨_, vs.toArray, _, hk, rfl, rfl, rfl, by rw [List.size_toArray, lenV]; exact hl, by simpa using rv⟩) (fun b u z => by have z' : (none : Option HO) = some u := z; cases z') (fun b z => absurd rfl z) fun z => absurd rfl z
 | none =>
  refine core (fun b => if b = a then some (.frz { cls := .type "list", data := .seq vs.toArray } (.lst (ns.map V.int))) else none) (fun b => ?_) (.inl (.inr ⟨{ cls := .type "list", data := .seq vs.toArray }, if_pos rfl⟩)) (fun b u z => ?_) (fun b z => ?_) fun _ => hk
  ·by_cases hb : b = a
   ·exact .inr ⟨_, _, if_pos hb⟩
   ·exact .inl (if_neg hb)
  ·by_cases hb : b = a
   ·have z' := (if_pos hb).symm.trans z
    cases z';subst hb;exact ⟨ha, by rw [List.length_map]; exact hl, vs, _, rv, ha⟩
   ·have z' := (if_neg hb).symm.trans z
    cases z'
  ·by_cases hb : b = a
   ·exact hb
   ·exact absurd (if_neg hb) z
end L2
namespace L2
open PySem PySem.Spec PyProof.Rows
noncomputable abbrev KOf {K : PySem.W.Frag} {h : Heap} (_ : K.In h) : PySem.W.Frag := K
theorem CP {l : PySem.W.OpenLaw} {n k : Nat} {q : Program} {loose : List Str} {XP : (Str → Option Value) → Heap → Prop} {YP : World → Heap → Prop} {d : DefRec} {K : Params → PySem.W.Frag} {CX : World → CXT} {sp : World → Sp} {x : Str}
  (hn : l.most = some n) (hn2 : n ≤ sizeLine) (hdf : d.params.defaults = []) (hr : Room k callerA)
  (hY : ∀ (w : World) (h : Heap), YP w h → (K w.params).In h)
  (F : ∀ (w : World) (mg : Str → Option Value) (fa : Addr) (h : Heap), (K w.params).In h → h.Ns mainGlobals mg → mg d.name = some (.ref fa) →
   ∃ fd : FuncData, (∀ (s : Shared) (u : Value), BindsTo s fd ⟨[u], []⟩ [(x, u)]) ∧
    ∀ base : Heap, (K w.params).In base → base.Ns mainGlobals mg → FnOk l.prog w (K w.params) mg base (CX w) k fa fd [x] (sp w))
  (hsp : ∀ (w : World) (H : Hp) (a : Addr) (ns : List Int), ns.length ≤ n → qR H → SqL (K w.params) H a (ns.map V.int) → sp w [.ref a] H (fun v _ => v = .bl true) fun _ _ _ => False)
  (hCX : ∀ (w : World) (H : Hp) (s : Shared) (e : Value) (s' : Shared), CX w [] H s (fun _ _ _ => False) e s' → False) :
  PySem.W.WalkO q loose XP YP l.row.toRowW d [] (fun f vs => PySem.call f vs) := by
 refine Att.jQ hn hdf fun w s₀ s₁ mg mb fa o pm cd doc a vs ns G Y ho hd hcd hmg hobj hints hlen hg => ?_
 have KX := hY w _ Y;obtain ⟨fd, hb, hF⟩ := F w mg fa _ KX G.T.g hmg;exact sV KX G.T.g G.T.b G.T.builtins G.T.nolimit hg hobj hints (Nat.le_trans hlen hn2) hr hF hb (fun H hO hS => hsp w H a ns hlen hO hS) fun H e s' => hCX w H s₁ e s'
end L2
namespace L2
open PySem PySem.Spec PyProof.Rows
noncomputable def aO (s : Stmt) : Arguments := match s with
 | .FunctionDef _ a _ _ _ _ _ _ _ _ => a
 | _ => { posonlyargs := [], args := [], vararg := none, kwonlyargs := [], kw_defaults := [], kwarg := none, defaults := [] }
noncomputable def aJ (s : Stmt) : List Stmt := match s with
 | .FunctionDef _ _ b _ _ _ _ _ _ _ => b
 | _ => []
noncomputable def ao (s : Stmt) : Scope := match s with
 | .FunctionDef _ _ _ _ _ _ sc _ _ _ => sc
 | _ => { kind := .function, names := [], isGenerator := false, isCoroutine := false }
noncomputable abbrev CX0 : CXT := fun _ _ _ _ _ _ => False
structure Fun (K : PySem.W.Frag) (x qual : Str) (st : Stmt) (f : Addr) (fd : FuncData) : Prop where
 ex : ∃ (oc : Value) (od : Option Addr) (kV doc pm : Value) (an : Option Addr) (cdv ct : Value) (osl : Array (Option Value)),
  fd = PySem.W.fnOf x qual (aO st) (aJ st) (ao st) .none kV doc pm an cdv ct ∧ K.lookup f = some ⟨oc, od, .func fd, osl⟩ ∧ PySem.W.codeIn K cdv qual = true
 kp : PySem.W.keepIn K (.ref f) = true
section
variable {P : Program} {w : World} {K : PySem.W.Frag} {mg : Str → Option Value} {base : Heap}
theorem Fun.ok {x qual : Str} {st : Stmt} {f : Addr} {fd : FuncData} {N ps : List Str} {k : Nat} {sp : Sp} (F : Fun K x qual st f fd) (S : FnScope N ps (ao st)) (len : ∀ vs H Q E, sp vs H Q E → vs.length = ps.length)
  (hbody : ∀ (cdv : Value) (A : Around) (outer : List Env) (s : Shared) (H : Hp) (vs : List V) (Q : VK) (E : XK), Room k (A.deeper (envOfC qual (ao st) s.heap.objs.size f cdv)) → sp vs H Q E →
   ∃ t, PSs (lC CX0 P w K mg base N qual (ao st) f cdv A outer s H E).nox (aJ st) t ∧ t { nx := fun _ H' => Q .non H', rt := Q } (start N vs) H) : FnOk P w K mg base CX0 (k + 1) f fd ps sp := by
 obtain ⟨oc, od, kV, doc, pm, an, cdv, ct, osl, rfl, lk, hcd⟩ := F.ex;refine w_ lk hcd S len fun A outer s H vs Q E hr hsp => ?_
 obtain ⟨t, h, q⟩ := hbody cdv A outer s H vs Q E hr hsp;exact ⟨t, h.nox, q⟩
theorem Fun.binds {x qual : Str} {st : Stmt} {f : Addr} {fd : FuncData} {ps : List Str} (F : Fun K x qual st f fd)
  (h : ∀ (kV doc pm : Value) (an : Option Addr) (cdv ct : Value) (us : List Value), us.length = ps.length → bindArgs (PySem.W.fnOf x qual (aO st) (aJ st) (ao st) .none kV doc pm an cdv ct) ⟨us, []⟩ = pure (ps.zip us)) : Binds K fd ps [] := by
 obtain ⟨oc, od, kV, doc, pm, an, cdv, ct, osl, rfl, lk, hcd⟩ := F.ex;exact .all (h kV doc pm an cdv ct)
theorem bE {x qual : Str} {st : Stmt} {f : Addr} {oc : Value} {od an : Option Addr} {osl : Array (Option Value)} {kV doc pm cdv ct : Value} (l : K.lookup f = some ⟨oc, od, .func (PySem.W.fnOf x qual (aO st) (aJ st) (ao st) .none kV doc pm an cdv ct), osl⟩)
  (c : PySem.W.codeIn K cdv qual = true) (k : PySem.W.keepIn K (.ref f) = true) : Fun K x qual st f (PySem.W.fnOf x qual (aO st) (aJ st) (ao st) .none kV doc pm an cdv ct) := ⟨⟨oc, od, kV, doc, pm, an, cdv, ct, osl, rfl, l, c⟩, k⟩
end
section
variable {X : Cx}
theorem pv (i : Nat) {x : Str} {pos : Pos} (hN : X.N[i]? = some x := by rfl) (hv : Vis X.env.scope x := by first | exact Or.inl rfl | exact Or.inr (Or.inl rfl) | exact Or.inr (Or.inr rfl)) (hd : (x == ("__debug__" : Str)) = false := by decide)
  (hcd : (x == ("__classdict__" : Str)) = false := by decide) : PE X (.Name x pos) (gU i) := d_ hN hv hd hcd
end
noncomputable def aI (H H' : Hp) : Prop := ∀ b o, H b = some o → H' b = some o
theorem aI.refl (H : Hp) : aI H H := fun _ _ h => h
theorem aI.trans {H H1 H2 : Hp} (a : aI H H1) (b : aI H1 H2) : aI H H2 := fun c o h => b c o (a c o h)
theorem aI.free {H H' : Hp} (e : aI H H') {l : Addr} (h : H' l = Option.none) : H l = Option.none := by
 cases q : H l with
 | none => rfl
 | some o =>
  rw [e l o q] at h;cases h
theorem aI.seq {K : PySem.W.Frag} {H H' : Hp} {a : Addr} {xs : List V} (e : aI H H') (h : SqL K H a xs) : SqL K H' a xs := by
 rcases h with (h | ⟨o, h⟩) | h
 ·exact .inl (.inl (e _ _ h))
 ·exact .inl (.inr ⟨o, e _ _ h⟩)
 ·exact .inr h
end L2
set_option maxHeartbeats 4000000
namespace L2
open PySem PySem.Spec PyProof.Rows
noncomputable def frees (env : Env) : List (Str × NameKind) → List (Str × Addr) → List (Str × Addr)
 | [], cs => cs
 | (n, k) :: r, cs => if (k == NameKind.free) = true then frees env r ((n, (env.cells.lookup n).getD 0) :: cs) else frees env r cs
theorem jG {env : Env} {x : Str} {c : Addr} : ∀ (l : List (Str × NameKind)) (cs : List (Str × Addr)), (∀ y ∈ l, y.2 = .free → ∃ c, env.cells.lookup y.1 = some c) →
  (∀ c, cs.lookup x = some c → env.cells.lookup x = some c) → (frees env l cs).lookup x = some c → env.cells.lookup x = some c
 | [], cs, _, hc, e => hc c e
 | (n, k) :: r, cs, hl, hc, e => by
  unfold frees at e;by_cases hk : (k == NameKind.free) = true
  ·rw [if_pos hk] at e
   obtain ⟨d, hd⟩ := hl (n, k) List.mem_cons_self (by simpa using hk)
   have hd' : env.cells.lookup n = some d := hd;refine jG r _ (fun y hy => hl y (List.mem_cons_of_mem _ hy)) (fun c' e' => ?_) e
   rw [List.lookup_cons] at e';cases hx : x == n with
   | true =>
    rw [hx] at e';have hxn : x = n := by simpa using hx
    rw [hd'] at e';rw [hxn, hd'];exact e'
   | false =>
    rw [hx] at e';exact hc c' e'
  ·rw [if_neg hk] at e
   exact jG r cs (fun y hy => hl y (List.mem_cons_of_mem _ hy)) hc e
theorem h9 {env : Env} {x : Str} : ∀ (l : List (Str × NameKind)) (cs : List (Str × Addr)), ((x, NameKind.free) ∈ l ∨ ∃ c, cs.lookup x = some c) → ∃ c, (frees env l cs).lookup x = some c
 | [], cs, h => by
  rcases h with h | h
  ·cases h
  ·exact h
 | (n, k) :: r, cs, h => by
  unfold frees;by_cases hk : (k == NameKind.free) = true
  ·rw [if_pos hk]
   refine h9 r _ ?_;rcases h with h | ⟨c, h⟩
   ·rcases List.mem_cons.mp h with e | e
    ·cases e
     exact .inr ⟨(env.cells.lookup x).getD 0, by rw [List.lookup_cons, beq_self_eq_true]⟩
    ·exact .inl e
   ·refine .inr ?_
    rw [List.lookup_cons];cases hx : x == n with
    | true => exact ⟨_, rfl⟩
    | false => exact ⟨c, h⟩
  ·rw [if_neg hk]
   refine h9 r _ ?_;rcases h with h | h
   ·rcases List.mem_cons.mp h with e | e
    ·cases e
     exact absurd rfl hk
    ·exact .inl e
   ·exact .inr h
theorem qC {env : Env} {x : Str} {k' : NameKind} : ∀ {names : List (Str × NameKind)}, ((names.map fun (n, k) => if (k == NameKind.free && env.scope.kind == .function && env.kindOf n == some .cell) then (n, NameKind.cell) else (n, k)).lookup x = some k') →
  ∃ k, names.lookup x = some k ∧ (k' = k ∨ (k = .free ∧ k' = .cell))
 | [], h => by simp at h
 | (n, k) :: r, h => by
  rw [List.map_cons] at h
  dsimp only at h
  rw [List.lookup_cons];by_cases hc : (k == NameKind.free && env.scope.kind == .function && env.kindOf n == some .cell) = true
  ·rw [if_pos hc, List.lookup_cons] at h
   cases hx : x == n with
   | true =>
    rw [hx] at h;cases h;have hk : k = .free := by
     rw [Bool.and_eq_true, Bool.and_eq_true] at hc
     simpa using hc.1.1
    exact ⟨k, rfl, .inr ⟨hk, rfl⟩⟩
   | false =>
    rw [hx] at h;exact qC h
  ·rw [if_neg hc, List.lookup_cons] at h
   cases hx : x == n with
   | true =>
    rw [hx] at h;cases h;exact ⟨_, rfl, .inl rfl⟩
   | false =>
    rw [hx] at h;exact qC h
theorem iD {env : Env} {x : Str} : ∀ {names : List (Str × NameKind)}, names.lookup x = some .free →
  (names.map fun (n, k) => if (k == NameKind.free && env.scope.kind == .function && env.kindOf n == some .cell) then (n, NameKind.cell) else (n, k)).lookup x = some .cell ∨
  (names.map fun (n, k) => if (k == NameKind.free && env.scope.kind == .function && env.kindOf n == some .cell) then (n, NameKind.cell) else (n, k)).lookup x = some .free
 | [], h => by simp at h
 | (n, k) :: r, h => by
  rw [List.map_cons]
  dsimp only
  rw [List.lookup_cons] at h;by_cases hc : (k == NameKind.free && env.scope.kind == .function && env.kindOf n == some .cell) = true
  ·rw [if_pos hc, List.lookup_cons]
   cases hx : x == n with
   | true => exact .inl rfl
   | false =>
    rw [hx] at h;exact iD h
  ·rw [if_neg hc, List.lookup_cons]
   cases hx : x == n with
   | true =>
    rw [hx] at h;cases h;exact .inr rfl
   | false =>
    rw [hx] at h;exact iD h
theorem fg {x : Str} {k : NameKind} : ∀ {l : List (Str × NameKind)}, l.lookup x = some k → (x, k) ∈ l
 | (n, j) :: r, h => by
  rw [List.lookup_cons] at h;cases hx : x == n with
  | true =>
   rw [hx] at h;cases h;have : x = n := by simpa using hx
   rw [this];exact List.mem_cons_self
  | false =>
   rw [hx] at h;exact List.mem_cons_of_mem _ (fg h)
theorem kC {scope : Scope} {env : Env} (h : ∀ x ∈ scope.names, x.2 = .free → ∃ c, env.cells.lookup x.1 = some c) : closureFor scope env = pure (frees env scope.names []) := by
 unfold closureFor;have key : ∀ (l : List (Str × NameKind)) (cs : List (Str × Addr)), (∀ x ∈ l, x.2 = .free → ∃ c, env.cells.lookup x.1 = some c) →
  (forIn l cs fun (x : Str × NameKind) (r : List (Str × Addr)) => if (x.2 == NameKind.free) = true then do let a ← cellOf env x.1; pure (ForInStep.yield ((x.1, a) :: r)) else pure (ForInStep.yield r) : Sem (List (Str × Addr))) = pure (frees env l cs) := by
  intro l
  induction l with
  | nil => intro cs _; rfl
  | cons x r ih =>
   intro cs hx;obtain ⟨n, k⟩ := x;rw [List.forIn_cons]
   dsimp only
   have hr := fun cs => ih cs fun y hy => hx y (List.mem_cons_of_mem _ hy)
   by_cases hk : (k == NameKind.free) = true
   ·obtain ⟨c, hc⟩ := hx (n, k) List.mem_cons_self (by simpa using hk)
    have hc' : env.cells.lookup n = some c := hc;rw [if_pos hk];unfold frees;rw [if_pos hk];have e1 : cellOf env n = pure c := by unfold cellOf; rw [hc']
    rw [e1, hc', ← hr];rfl
   ·rw [if_neg hk]
    unfold frees;rw [if_neg hk, ← hr];rfl
 have := key scope.names [] h;simp only [bind_pure];exact this
section
variable {prog : Program} {w : World} {A : Around} {R : Result → Shared → Prop} {s : Shared}
noncomputable def tm (ifs : List Expr) (env : Env) : Sem Bool := forIn ifs true fun c r => if r = true then do let ok ← isTrue c env (eval c env); pure (ForInStep.yield ok) else pure (ForInStep.yield r)
theorem ma {elt tg iter : Expr} {ifs : List Expr} {scope : Scope} {pos : Pos} {it acc : Value} {env : Env} (J : Nat → Shared → Prop)
  (turn : ∀ n s, J n s → wpAny (model prog w) A (pyNext it) (fun r s1 => match r with
   | none => R (.ok .next) s1
   | some v => wpAny (model prog w) A (letOwnedTupleGo tg it v) (fun _ s2 => wpAny (model prog w) A (assign tg env v) (fun _ s3 => wpAny (model prog w) A (tm ifs env) (fun ok s4 =>
     if ok = true then wpAny (model prog w) A (eval elt env) (fun x s5 => wpAny (model prog w) A (call (.builtin "list.append") [acc, x]) (fun _ s6 => ∃ m, m < n ∧ J m s6) (fun _ _ => False) s5) (fun _ _ => False) s4
     else ∃ m, m < n ∧ J m s4) (fun _ _ => False) s3) (fun _ _ => False) s2) (fun _ _ => False) s1) (fun _ _ => False) s)
  (n : Nat) (h : J n s) : codeAny (model prog w) A (.compLoop (.ListComp elt [⟨tg, iter, ifs, 0⟩] scope pos) 0 it acc env) R s := by
 refine codeAny_loop rfl J (fun n s hJ => ?_) n h
 have no : ∀ (P : Value → Shared → Prop) (e : Value) (s' : Shared), False → P e s' := fun _ _ _ f => f.elim
 show wpAny _ A ((compTurn (.ListComp elt [⟨tg, iter, ifs, 0⟩] scope pos) 0 it acc env).onRaise (fun x => do noteFrame x env; theTreesLotGoes x)) _ _ s
 refine wpAny_noted ?_;rw [compTurn_list];refine wpAny_bind (wpAny_standAt (wpAny_bind (wpAny_mono (turn n s hJ) (fun r s1 h1 => ?_) fun e s' f => f.elim)))
 cases r with
 | none => exact wpAny_pure h1
 | some v =>
  refine wpAny_bind (wpAny_mono h1 (fun _ s2 h2 => ?_) fun e s' f => f.elim)
  refine wpAny_bind (wpAny_mono h2 (fun _ s3 h3 => ?_) fun e s' f => f.elim)
  refine wpAny_bind (wpAny_mono h3 (fun ok s4 h4 => ?_) fun e s' f => f.elim)
  cases ok with
  | false => exact wpAny_pure ⟨rfl, h4⟩
  | true =>
   refine wpAny_bind (wpAny_bind (wpAny_mono h4 (fun x s5 h5 => ?_) fun e s' f => f.elim))
   exact wpAny_bind (wpAny_mono h5 (fun _ s6 h6 => wpAny_pure (wpAny_pure ⟨rfl, h6⟩)) fun e s' f => f.elim)
end
noncomputable def cxB (X : Cx) (N : List Str) (scope : Scope) (s : Shared) (H : Hp) (C : Addr) (ex : List Addr) (pins : List (Addr × Obj)) : Cx :=
 { X with N := N, s₀ := s, H₀ := H, env := compEnvC scope (frees X.env scope.names []) C X.env, outer := X.stack, ex := ex, fn := fun _ => false, pn := X.pn ++ pins, xe := fun _ _ => False }
noncomputable def ji (X : Cx) (scope : Scope) : List (Nat × Str) → Prop
 | [] => True
 | p :: r => (X.N[p.1]? = some p.2 ∧ scope.names.lookup p.2 = some .free) ∧ ji X scope r
theorem ji.get {X : Cx} {scope : Scope} : ∀ {outs : List (Nat × Str)} {j : Nat} {p : Nat × Str}, ji X scope outs → outs[j]? = some p → X.N[p.1]? = some p.2 ∧ scope.names.lookup p.2 = some .free
 | [], _, _, _, e => by simp at e
 | q :: r, 0, p, h, e => by
  simp at e
  subst e;exact h.1
 | q :: r, j + 1, p, h, e => ji.get (j := j) h.2 (by simpa using e)
structure Blk (X : Cx) (sc scope : Scope) (outs : List (Nat × Str)) : Prop where
 hsc : X.env.scope = sc
 kind : scope.kind = .function
 loc : ∀ x ∈ scope.names, x.2 = .local → scope.names.lookup x.1 = some .local
 nocell : ∀ x ∈ scope.names, x.2 ≠ .cell
 fr : ∀ x ∈ scope.names, x.2 = .free → sc.names.lookup x.1 = some .cell ∨ sc.names.lookup x.1 = some .free
 out : ji X scope outs
noncomputable def slots (k : Nat) (outs : List (Nat × Str)) (σ : St) : St := List.replicate k none ++ outs.map fun p => (σ[p.1]?).join
noncomputable def gb : St → St → Prop
 | [], [] => True
 | none :: r, _ :: r' => gb r r'
 | some v :: r, w :: r' => w = some v ∧ gb r r'
 | _, _ => False
theorem gb.len : ∀ {σ σ' : St}, gb σ σ' → σ.length = σ'.length
 | [], [], _ => rfl
 | none :: r, _ :: r', h => by
  have := gb.len (σ := r) (σ' := r') h;simp [this]
 | some v :: r, w :: r', h => by
  have := gb.len (σ := r) (σ' := r') h.2;simp [this]
theorem gb.get : ∀ {σ σ' : St} {i : Nat} {v : V}, gb σ σ' → σ[i]? = some (some v) → σ'[i]? = some (some v)
 | [], _, _, _, _, e => by simp at e
 | none :: r, w :: r', 0, v, _, e => by simp at e
 | none :: r, w :: r', i + 1, v, h, e => by
  have := gb.get (σ := r) (σ' := r') (i := i) (v := v) h (by simpa using e)
  simpa using this
 | some u :: r, w :: r', 0, v, h, e => by
  simp at e
  rw [h.1];simp [e]
 | some u :: r, w :: r', i + 1, v, h, e => by
  have := gb.get (σ := r) (σ' := r') (i := i) (v := v) h.2 (by simpa using e)
  simpa using this
noncomputable def PF (X : Cx) (ifs : List Expr) (t : TT) : Prop :=
 ∀ (pins : List (Addr × Obj)) (s : Shared) (σ : St) (H : Hp) (Q : Bool → Hp → Prop), Inv X pins σ H s → t σ H Q → wpAny (model X.prog X.w) X.A (tm ifs X.env) (TP X pins σ Q) X.xe s
noncomputable def vx : TT := fun _ H Q => Q true H
theorem tY {X : Cx} : PF X [] vx := fun _ _ _ H _ I h => wpAny_tests_nil ⟨H, I, h⟩
theorem ya {X : Cx} {c : Expr} {t : TT} (h : PT X c t) : PF X [c] t := fun pins s σ H Q I q => wpAny_tests_one (h pins s σ H Q I q)
noncomputable abbrev AU (tc : TT) (te : TE) (σ0 : St) (D : Addr) (acc : List V) (N : List V → Hp → Prop) : St → Hp → Prop := fun σ2 H3 => gb σ0 σ2 ∧ tc σ2 H3 fun b H4 =>
 if b = true then te σ2 H4 fun y H5 => H5 D = some (.lst acc) ∧ acc.length < sizeLine ∧ N (acc ++ [y]) (upd H5 D (.lst (acc ++ [y]))) else N acc H4
noncomputable def zH (J : It) (g : TG) (tc : TT) (te : TE) (σ0 : St) (D : Addr) (H1 : Hp) (Q : Hp → Prop) : Prop :=
 ∃ W : Nat → Nat → List V → Hp → Prop, (∃ m, W 0 m [] (upd H1 D (.lst []))) ∧ ∀ i m acc H', W i m acc H' →
  (J.stop i H' ∧ Q H') ∨ (J.go i H' ∧ ∃ N : List V → Hp → Prop, (∀ acc' H2, N acc' H2 → ∃ m', m' < m ∧ W (i + 1) m' acc' H2) ∧ ∀ x H2, J.yld i H' x H2 → g x σ0 H2 (AU tc te σ0 D acc N))
section
variable {X : Cx} {sc scope : Scope} {own : List Str} {outs : List (Nat × Str)} {elt tg iter : Expr} {ifs : List Expr} {pos : Pos} {g : TG} {tc : TT} {te : TE}
theorem k6 (B : Blk X sc scope outs) {pins : List (Addr × Obj)} {σ : St} {H : Hp} {s : Shared} (I : Inv X pins σ H s) : ∀ x ∈ scope.names, x.2 = .free → ∃ c, X.env.cells.lookup x.1 = some c := fun x hx hf => by
 refine I.ok.has x.1 ?_;show X.env.scope.names.lookup x.1 = _ ∨ X.env.scope.names.lookup x.1 = _
 rw [B.hsc];exact B.fr x hx hf
theorem vX (B : Blk X sc scope outs) {pins : List (Addr × Obj)} {σ : St} {H : Hp} {s : Shared} {fp : List Addr} (I : Inv X pins σ H s) (f2 : ∀ b ∈ fp, j8 X pins H b) (fo : ∀ b ∈ fp, ∃ o, s.heap.get? b = some o)
  {h1 : Heap} {m : Str → Option Value} {tk : Nat} (hn : h1.Ns (s.heap.objs.size + 1) m) (old : ∀ b o, s.heap.get? b = some o → h1.get? b = some o)
  (hD : h1.get? s.heap.objs.size = some { cls := .type "list", data := .seq #[] 0 }) :
  Inv (cxB X (own ++ outs.map (·.2)) scope s H (s.heap.objs.size + 1) fp pins) [] (slots own.length outs σ) (upd H s.heap.objs.size (.lst [])) { s with heap := h1, toks := tk } := by
 have bf := k6 B I;have sub : ∀ x c, (frees X.env scope.names []).lookup x = some c → X.env.cells.lookup x = some c := fun x c e => jG _ _ bf (fun c' e' => by simp at e') e
 have clt : ∀ x c, X.env.cells.lookup x = some c → c < s.heap.objs.size := fun x c e => (let ⟨v, q⟩ := I.cell x c e; q.lt)
 have flt : ∀ b ∈ fp, b < s.heap.objs.size := fun b hb => (let ⟨o, e⟩ := fo b hb; Heap.lt_size e)
 have un : Un (cxB X (own ++ outs.map (·.2)) scope s H (s.heap.objs.size + 1) fp pins).fs (cxB X (own ++ outs.map (·.2)) scope s H (s.heap.objs.size + 1) fp pins).ex H (upd H s.heap.objs.size (.lst [])) s.heap h1 := Un.laid old (Nat.le_refl _) I.fresh;have hok : HOk X.prog X.w (upd H s.heap.objs.size (.lst [])) h1 := I.hok.laid old (Nat.le_refl _) ⟨Nat.zero_le _, [], 0, .nil, hD⟩;refine ⟨⟨I.ok.mod, B.kind, I.ok.glob, I.ok.blt, Nat.le_succ _, fun x y c e1 e2 => I.ok.inj x y c (sub x c e1) (sub y c e2), fun x hx => ?_, fun x c hf => ?_, I.ok.hd, I.ok.frames, .inl rfl, fun b hb => ⟨?_, fun x c e => ?_⟩, I.bs, ?_, fun b o e hb => ?_, fun b hb z => ?_, I.stack, I.stkFree⟩,
  rfl, I.bare, un, ⟨m, hn, fun i x v e1 e2 e3 => ?_⟩, fun x c e => ?_, ?_, fun x c e => ?_, fun p hp => ?_, hok, ?_⟩
 ·obtain ⟨k, e, hk⟩ : ∃ k, scope.names.lookup x = some k ∧ k = .free := by
   rcases hx with hx | hx
   ·obtain ⟨k, e, hk⟩ := qC (show ((scope.names.map _).lookup x = some .cell) from hx)
    rcases hk with hk | hk
    ·exact absurd hk.symm (B.nocell _ (fg e))
    ·exact ⟨k, e, hk.1⟩
   ·obtain ⟨k, e, hk⟩ := qC (show ((scope.names.map _).lookup x = some .free) from hx)
    rcases hk with hk | hk
    ·exact ⟨k, e, hk.symm⟩
    ·exact ⟨k, e, hk.1⟩
  subst hk;exact h9 _ _ (.inl (fg e))
 ·cases hf
 ·exact Nat.ne_of_lt (Nat.lt_succ_of_lt (flt b hb))
 ·exact (f2 b hb).2.2.2.2.1 x c (sub x c e)
 ·exact Nat.le_trans I.ok.bsz I.sz
 ·rcases (f2 b hb).2.2.2.1 with z | z
  ·exact I.ok.noex b o e z
  ·exact absurd (Nat.lt_of_lt_of_le (Heap.lt_size e) (Nat.le_trans I.ok.bsz z)) (Nat.lt_irrefl _)
 ·rcases List.mem_cons.mp (I.stkSub b z) with q | q
  ·exact (f2 b hb).2.1 q
  ·exact (f2 b hb).2.2.1 q
 ·
  have hi : own.length ≤ i := by
   by_cases hi : own.length ≤ i
   ·exact hi
   ·have e2' : (slots own.length outs σ)[i]? = some (some v) := e2
    unfold slots at e2';rw [List.getElem?_append_left (by simpa using Nat.lt_of_not_le hi), List.getElem?_replicate] at e2'
    split at e2' <;> cases e2'
  have e1' : (own ++ outs.map (·.2))[i]? = some x := e1;have e2' : (slots own.length outs σ)[i]? = some (some v) := e2;unfold slots at e2';rw [List.getElem?_append_right hi, List.getElem?_map] at e1';rw [List.getElem?_append_right (by simpa using hi), List.length_replicate, List.getElem?_map] at e2'
  cases ep : outs[i - own.length]? with
  | none =>
   rw [ep] at e1';cases e1'
  | some p =>
   rw [ep] at e1' e2';have ex : p.2 = x := Option.some.inj e1';have ev : (σ[p.1]?).join = some v := Option.some.inj e2';obtain ⟨o1, o2⟩ := B.out.get ep;have es : σ[p.1]? = some (some v) := by
    cases q : σ[p.1]? with
    | none =>
     rw [q] at ev;cases ev
    | some w =>
     rw [q] at ev;have ew : w = some v := ev;rw [ew]
   rw [ex] at o1 o2;have hk : X.env.scope.names.lookup x = some .cell ∨ X.env.scope.names.lookup x = some .free := by
    rw [B.hsc];exact B.fr (x, .free) (fg o2) rfl
   obtain ⟨m0, hn0, hl0⟩ := I.loc;obtain ⟨u, r, l⟩ := hl0 p.1 x v o1 es (hk.elim (fun z => .inr (.inl z)) fun z => .inr (.inr z))
   refine ⟨u, r, .inr ?_⟩;rcases l with ⟨hl, _⟩ | ⟨_, c, ec, hc⟩
   ·have hl' : X.env.scope.names.lookup x = some .local := hl
    rcases hk with z | z <;> (rw [z] at hl'; cases hl')
   ·obtain ⟨c', ec'⟩ := h9 (env := X.env) (x := x) scope.names [] (.inl (fg o2))
    have e3 := sub x c' ec';rw [ec] at e3;cases e3;obtain ⟨oc, q1, q2⟩ := hc;exact ⟨iD o2, c, ec', ⟨oc, old _ _ q1, q2⟩⟩
 ·obtain ⟨v, oc, q1, q2⟩ := I.cell x c (sub x c e)
  exact ⟨v, oc, old _ _ q1, q2⟩
 ·show upd H s.heap.objs.size (.lst []) (s.heap.objs.size + 1) = none
  rw [aM (Nat.succ_ne_self _)];exact I.hok.fresh (Nat.le_succ _)
 ·rw [aM (Nat.ne_of_lt (clt x c (sub x c e)))]
  exact I.freeC x c (sub x c e)
 ·have hp' : p ∈ X.pn ++ pins := by
   have : p ∈ (X.pn ++ pins) ++ [] := hp
   simpa using this
  obtain ⟨q1, q2, q3, q4, q5⟩ := I.pin p hp';refine ⟨old _ _ q1, ?_, Nat.ne_of_lt (Nat.lt_succ_of_lt (Heap.lt_size q1)), fun z => ?_, q5⟩
  ·rw [aM (Nat.ne_of_lt (Heap.lt_size q1))]
   exact q2
  ·rcases List.mem_cons.mp (I.stkSub p.1 z) with q | q
   ·exact q3 q
   ·exact q4 q
 ·show (slots own.length outs σ).length = (own ++ outs.map (·.2)).length
  unfold slots;simp
theorem qg (B : Blk X sc scope outs) (hcalm : X.calm = true)
  (hg : ∀ s H C ex pins, PG (cxB X (own ++ outs.map (·.2)) scope s H C ex pins) tg g) (hc : ∀ s H C ex pins, PF (cxB X (own ++ outs.map (·.2)) scope s H C ex pins) ifs tc) (he : ∀ s H C ex pins, PE (cxB X (own ++ outs.map (·.2)) scope s H C ex pins) elt te)
  {pins : List (Addr × Obj)} {σ : St} {H : Hp} {s : Shared} {it : Addr} {fp : List Addr} {tn : Nat → Heap → Prop} {J : It} (I : Inv X pins σ H s) (T : Turn X.prog X.w X.K tg J fp it tn) (st : tn 0 s.heap) (f2 : ∀ b ∈ fp, j8 X pins H b)
  {R0 : Addr → Hp → Prop} (hW : ∀ D, H D = none → zH J g tc te (slots own.length outs σ) D H (R0 D)) {RR : Value → Addr → Result → Shared → Prop} {E : Value → Shared → Prop}
  (fin : ∀ D C H' s' m, Inv X pins σ H' s' → j8 X pins H' C → s'.heap.Ns C m → R0 D H' → RR (.ref D) C (.ok .next) s') :
  wpAny (model X.prog X.w) X.A (newList []) (fun acc s3 => wpAny (model X.prog X.w) X.A (newFunctionEnv scope X.env.globals (frees X.env scope.names []) [] X.env.qual none .none (some X.env)) (fun cenv s4 =>
   codeAny (model X.prog X.w) X.A (.compStart (.ListComp elt [⟨tg, iter, ifs, 0⟩] scope pos) 0 (.ref it) acc { cenv with scope := relabel scope X.env }) (RR acc cenv.locals) s4) E s3) E s := by
 refine wpAny_newObj_type (wpAny_newFunctionEnv B.nocell (by intro y hy; simp at hy) (fun h1 hn1 hs1 => ?_) B.kind)
 dsimp only at hn1 hs1 ⊢
 have hz : (s.heap.push { cls := .type "list", dict := none, data := .seq ([] : List Value).toArray }).objs.size = s.heap.objs.size + 1 := Heap.size_push ..;rw [hz] at hn1 hs1;simp only [hz];have fo : ∀ b ∈ fp, ∃ o, s.heap.get? b = some o := fun b hb => (let ⟨o, e, _⟩ := T.obj 0 _ st b hb; ⟨o, e⟩)
 have old : ∀ b o, s.heap.get? b = some o → h1.get? b = some o := fun b o e =>
  hs1.extBut b o (Nat.ne_of_lt (Nat.lt_succ_of_lt (Heap.lt_size e))) (Heap.get?_push_of_some _ (Heap.get?_push_of_some _ e))
 have hD : h1.get? s.heap.objs.size = some { cls := .type "list", data := .seq #[] 0 } := hs1.extBut _ _ (Nat.ne_of_lt (Nat.lt_succ_self _)) (Heap.get?_push_of_some _ (Heap.get?_push_size _ rfl));have I1 := vX (own := own) (tk := s.toks + ([] : List (Str × Value)).length) B I f2 fo hn1 old hD;have st1 : tn 0 h1 := T.keep _ _ _ st fun b _ o e => old b o e
 obtain ⟨W, ⟨m0, w0⟩, turn⟩ := hW _ I.fresh;have fpB : ∀ {H' : Hp}, (∀ b ∈ fp, H' b = none) → ∀ b ∈ fp, j8 (cxB X (own ++ outs.map (·.2)) scope s H (s.heap.objs.size + 1) fp pins) [] H' b := fun hn b hb => by
  obtain ⟨o, eo⟩ := fo b hb;refine ⟨hn b hb, Nat.ne_of_lt (Nat.lt_succ_of_lt (Heap.lt_size eo)), I1.ok.exfs b hb, .inl hb, fun x c e => (I1.ok.exf b hb).2 x c e, fun p hp => ?_⟩
  have hp' : p ∈ X.pn ++ pins := by
   have : p ∈ (X.pn ++ pins) ++ [] := hp
   simpa using this
  exact (f2 b hb).2.2.2.2.2 p hp'
 have loop : ∀ s0 : Shared, s0 = { s with heap := h1, toks := s.toks + ([] : List (Str × Value)).length } →
   codeAny (model X.prog X.w) X.A (.compLoop (.ListComp elt [⟨tg, iter, ifs, 0⟩] scope pos) 0 (.ref it) (.ref s.heap.objs.size) (compEnvC scope (frees X.env scope.names []) (s.heap.objs.size + 1) X.env)) (RR (.ref s.heap.objs.size) (s.heap.objs.size + 1)) s0 := by
  rintro s0 rfl;refine ma (fun n s' => ∃ i acc H', Inv (cxB X (own ++ outs.map (·.2)) scope s H (s.heap.objs.size + 1) fp pins) [] (slots own.length outs σ) H' s' ∧ tn i s'.heap ∧ (∀ b ∈ fp, H' b = none) ∧ W i n acc H') ?_ m0
   ⟨0, [], _, I1, st1, fun b hb => ?_, w0⟩
  ·rintro n s3 ⟨i, acc, H3, I3, st3, fr3, w3⟩
   rcases turn i n acc H3 w3 with ⟨stop, q⟩ | ⟨go, N, hN, step⟩
   ·refine thn (T.done (cxB X (own ++ outs.map (·.2)) scope s H (s.heap.objs.size + 1) fp pins) rfl rfl rfl hcalm i [] s3 _ H3 (fun _ _ => False) I3 (fpB fr3) st3 stop) fun r s4 ⟨hr, I4⟩ => ?_
    subst hr;have IX : Inv X pins σ H3 s4 := I.call' (ch := fp) I4.os I4.base I4.hok I4.bare fun b hb => ⟨(f2 b hb).2.2.2.1, (f2 b hb).2.1, (f2 b hb).2.2.2.2.1, (f2 b hb).2.2.2.2.2⟩
    obtain ⟨m4, hn4, _⟩ := I4.loc;exact fin _ _ H3 s4 m4 IX (I.fpOk (Nat.le_succ _) I4.free) hn4 q
   ·refine thn (T.item (cxB X (own ++ outs.map (·.2)) scope s H (s.heap.objs.size + 1) fp pins) rfl rfl rfl hcalm i [] s3 _ H3 (fun _ _ => False) I3 (fpB fr3) st3 go) fun r s4 ⟨u, hr, h4⟩ => ?_
    subst hr;refine thn h4 fun _ s5 ⟨x, H5, I5, r5, y5, st5, fr5⟩ => ?_
    have I5' := I5.pinned (fpB fr5) (T.obj _ _ st5);have back : ∀ {σ6 : St} {H6 : Hp} {s6 : Shared} {acc' : List V}, Inv (cxB X (own ++ outs.map (·.2)) scope s H (s.heap.objs.size + 1) fp pins) ([] ++ kv fp s5.heap) σ6 H6 s6 → gb (slots own.length outs σ) σ6 → N acc' H6 →
      ∃ m, m < n ∧ ∃ i acc H', Inv (cxB X (own ++ outs.map (·.2)) scope s H (s.heap.objs.size + 1) fp pins) [] (slots own.length outs σ) H' s6 ∧ tn i s6.heap ∧ (∀ b ∈ fp, H' b = none) ∧ W i m acc H' := fun {σ6 H6 s6 acc'} I6 hs hn6 => by
     obtain ⟨m', hm, hw⟩ := hN acc' H6 hn6;refine ⟨m', hm, i + 1, acc', H6, I6.unpinned.weak hs.len fun j v e => hs.get e, T.keep _ _ _ st5 fun b hb o e => (I6.pin (b, o) (List.mem_append_right _ (List.mem_append_right _ (gF hb e)))).1, fun b hb => ?_, hw⟩
     obtain ⟨o, e, _⟩ := T.obj _ _ st5 b hb;exact (I6.pin (b, o) (List.mem_append_right _ (List.mem_append_right _ (gF hb e)))).2.1
    refine thn (hg s H _ fp pins _ s5 _ H5 x u _ I5' r5 (step x H5 y5)) fun _ s6 ⟨σ6, H6, I6, hs6, q6⟩ => ?_
    refine thn (hc s H _ fp pins _ s6 σ6 H6 _ I6 q6) fun b s7 ⟨H7, I7, q7⟩ => ?_
    cases b with
    | false =>
     exact back I7 hs6 q7
    | true =>
     refine thn (he s H _ fp pins _ s7 σ6 H7 _ I7 q7) fun yv s8 ⟨y, H8, I8, r8, hd8, hl8, hw⟩ => ?_
     refine thn (lU _ s8 σ6 H8 (.ref s.heap.objs.size) [y] (.ref s.heap.objs.size) [yv] (fun _ H9 => H9 = upd H8 s.heap.objs.size (.lst (acc ++ [y]))) I8 rfl (.cons r8 .nil) ⟨_, acc, y, rfl, rfl, hd8, hl8, rfl⟩) fun z s9 ⟨zv, H9, I9, _, q9⟩ => ?_
     subst q9;exact back I9 hs6 hw
  ·obtain ⟨o, eo⟩ := fo b hb
   rw [aM (Nat.ne_of_lt (Heap.lt_size eo))];exact (f2 b hb).1
 exact codeAny_compStart_list (loop _ rfl) (T.self X.A 0 _ _ _ st1 (loop _ rfl))
noncomputable def qj (wi : TI) (g : TG) (tc : TT) (te : TE) (k : Nat) (outs : List (Nat × Str)) : TE := fun σ H Q => wi σ H fun J H1 => ∀ D, H1 D = none → zH J g tc te (slots k outs σ) D H1 fun H' => Q (.ref D) H'
theorem uR {wi : TI} (own : List Str) (B : Blk X sc scope outs) (hcalm : X.calm = true) (hi : PI X tg iter wi)
  (hg : ∀ s H C ex pins, PG (cxB X (own ++ outs.map (·.2)) scope s H C ex pins) tg g) (hc : ∀ s H C ex pins, PF (cxB X (own ++ outs.map (·.2)) scope s H C ex pins) ifs tc) (he : ∀ s H C ex pins, PE (cxB X (own ++ outs.map (·.2)) scope s H C ex pins) elt te)
  (hs : ∀ x, foldedSetIterable iter X.env x = pure x := by intro _; rfl) : PE X (.ListComp elt [⟨tg, iter, ifs, 0⟩] scope pos) (qj wi g tc te own.length outs) := by
 intro pins s σ H Q I h;rw [eval_ListComp];refine wpAny_comprehension_free (use := none) rfl hs (kC (k6 B I)) B.kind B.loc ?_;refine thn (hi pins s σ H _ I h) fun v s1 h1 => thn h1 fun itv s2 h2 => ?_
 obtain ⟨it, fp, tn, J, H2, e, I2, T, st2, f2, hW⟩ := h2;subst e;refine qg (RR := fun acc C => compPost (model X.prog X.w) X.A X.xe none (EP X pins σ Q) acc C) B hcalm hg hc he I2 T st2 f2 hW ?_
 intro D C H' s' m I' hC hn q;refine ⟨m, hn, fun h' hs' => ?_⟩
 obtain ⟨c0, c1, c2, c3, c4, c5⟩ := hC;exact ⟨.ref D, H', I'.turned (t' := s'.toks) (fun b o hb e => (hs'.2 b hb).trans e) c0 c1 c3 c4 c5, rfl, q⟩
theorem qp {wi : TI} {i : Nat} {x : Str} {pos' spos : Pos} (own : List Str) (hN : X.N.Nodup) (hix : X.N[i]? = some x) (hx : Loc X.env.scope x) (B : Blk X sc scope outs) (hcalm : X.calm = true) (hi : PI X tg iter wi)
  (hg : ∀ s H C ex pins, PG (cxB X (own ++ outs.map (·.2)) scope s H C ex pins) tg g) (hc : ∀ s H C ex pins, PF (cxB X (own ++ outs.map (·.2)) scope s H C ex pins) ifs tc) (he : ∀ s H C ex pins, PE (cxB X (own ++ outs.map (·.2)) scope s H C ex pins) elt te)
  (hsw : swapsWith (.ListComp elt [⟨tg, iter, ifs, 0⟩] scope pos) (some (.Name x pos')) spos.line X.env = pure true := by rfl)
  (hs : ∀ x, foldedSetIterable iter X.env x = pure x := by intro _; rfl) (hf : X.fn x = true ∨ X.env.scope.names.lookup x = some .local := by first | exact .inl rfl | exact .inr rfl | assumption) :
  PS X (.Assign [.Name x pos'] (.ListComp elt [⟨tg, iter, ifs, 0⟩] scope pos) spos) (o_ (qj wi g tc te own.length outs) (jN i)) := by
 intro pins s σ H D0 I h;rw [exec_Assign_Name_used _ _ _ _ hsw];refine wpAny_bind (wpAny_standAt (wpAny_bind ?_));show wpAny _ X.A (do let _ ← comprehension (.ListComp elt [⟨tg, iter, ifs, 0⟩] scope pos) scope X.env _ (newList []) false (eval iter X.env) (some (assign (.Name x pos') X.env))) _ _ s
 refine wpAny_bind (thn (wpAny_comprehension_free (use := some (assign (.Name x pos') X.env)) (Q := fun _ s' => SP X pins D0 .next s') rfl hs (kC (k6 B I)) B.kind B.loc ?_) fun _ s' hq => wpAny_pure (wpAny_pure hq))
 refine thn (hi pins s σ H _ I h) fun v s1 h1 => thn h1 fun itv s2 h2 => ?_
 obtain ⟨it, fp, tn, J, H2, e, I2, T, st2, f2, hW⟩ := h2;subst e;refine qg (RR := fun acc C => compPost (model X.prog X.w) X.A X.xe (some (assign (.Name x pos') X.env)) (fun _ s' => SP X pins D0 .next s') acc C) B hcalm hg hc he I2 T st2 f2 hW ?_
 intro D C H' s' m I' hC hn q;obtain ⟨c0, c1, c2, c3, c4, c5⟩ := hC;obtain ⟨oC, es, ep, hoC, hdC, hr⟩ := id hn;have IC : Inv X (pins ++ [(C, oC)]) σ H' s' := I'.pins_of fun p hp => (List.mem_append.mp hp).elim (fun z => I'.pin p (List.mem_append_right _ z)) fun z => by
  have ep : p = (C, oC) := by simpa using z
  subst ep;exact ⟨hoC, c0, c1, c2, fun v z => by rw [hdC] at z; cases z⟩
 show wpAny _ X.A (assign (.Name x pos') X.env (.ref D)) _ _ s'
 refine wpAny_assign_Name (gx (v := .ref D) IC hN hix hx rfl (fun s3 I3 => ?_) hf)
 have hC3 : s3.heap.get? C = some oC := (I3.pin (C, oC) (List.mem_append_right _ (List.mem_append_right _ (by simp)))).1
 refine ⟨m, ⟨oC, es, ep, hC3, hdC, hr⟩, fun h' hs' => ?_⟩
 exact ⟨_, H', I3.unpinned.turned (t' := s3.toks) (fun b o hb e => (hs'.2 b hb).trans e) c0 c1 c3 c4 c5, q⟩
end
end L2
namespace L2
open PySem PySem.Spec PyProof.Rows
theorem nz {X : Cx} {pins : List (Addr × Obj)} {σ : St} {H : Hp} {s : Shared} {ch : List Addr} {T : Addr} {o : HO} {h' : Heap} {t' : Nat} (I : Inv X pins σ H s) (hch : ∀ b ∈ ch, j8 X pins H b) (k : ∀ b u, b ∉ ch → s.heap.get? b = some u → h'.get? b = some u)
  (hT : s.heap.objs.size ≤ T) (new : eZ X.prog X.w (upd H T o) h' T o) : Inv X pins σ (upd H T o) { s with heap := h', toks := t' } := by
 have hn : H T = none := I.hok.fresh hT;have nch : ∀ b u, H b = some u → b ∉ ch := fun b u e z => by
  rw [(hch b z).1] at e;cases e
 have lt : ∀ b u, s.heap.get? b = some u → b ≠ T := fun b u e => Nat.ne_of_lt (Nat.lt_of_lt_of_le (Heap.lt_size e) hT)
 refine I.step (g' := s.gens) (d' := s.drawn) (ch := ch) (fun b hb => ?_) (fun b u _ _ hc e _ => k b u hc e) (fun b u _ _ hc e _ => ⟨u.slots, k b u hc e⟩) (fun b u _ e n => by rw [aM (lt b u e)]; exact n)
  (fun b u hc e => ⟨u, k b u hc e⟩) (fun b xs e => by rw [aM (aP e hn)]; exact e) (fun b u v e => by rw [aM (aP e hn)]; exact e) (fun b ps e => ⟨#[], by rw [aM (aP e hn), e]; simp⟩) (fun m hm => ?_) (fun b u e => ?_) I.bare
 ·obtain ⟨f0, f1, f2, f3, f4, f5⟩ := hch b hb
  exact ⟨f3, f1, f4, f5⟩
 ·obtain ⟨oL, es, ep, ho, r⟩ := hm
  exact ⟨oL, es, ep, k _ oL (fun z => (hch _ z).2.1 rfl) ho, r⟩
 ·by_cases hb : b = T
  ·subst hb
   rw [bL] at e;cases e;exact new
  ·rw [aM hb] at e
   refine (I.hok b u e).stay (fun c v hc q => k c v ?_ q) (fun c q => by rw [aM (aP q hn)]; exact q) fun c xs q => by rw [aM (aP q hn)]; exact q
   rcases hc with z | z
   ·rw [z]
    exact nch b u e
   ·exact nch c _ z
theorem pX {X : Cx} {pins : List (Addr × Obj)} {σ : St} {H : Hp} {s : Shared} {ch : List Addr} {h' : Heap} {t' : Nat} (I : Inv X pins σ H s) (hch : ∀ b ∈ ch, j8 X pins H b) (k : ∀ b u, b ∉ ch → s.heap.get? b = some u → h'.get? b = some u) :
  Inv X pins σ H { s with heap := h', toks := t' } := by
 have nch : ∀ b u, H b = some u → b ∉ ch := fun b u e z => by
  rw [(hch b z).1] at e;cases e
 refine I.step (g' := s.gens) (d' := s.drawn) (ch := ch) (fun b hb => ?_) (fun b u _ _ hc e _ => k b u hc e) (fun b u _ _ hc e _ => ⟨u.slots, k b u hc e⟩) (fun _ _ _ _ n => n)
  (fun b u hc e => ⟨u, k b u hc e⟩) (fun _ _ e => e) (fun _ _ _ e => e) (fun b ps e => ⟨#[], by rw [e]; simp⟩) (fun m hm => ?_) (fun b u e => ?_) I.bare
 ·obtain ⟨f0, f1, f2, f3, f4, f5⟩ := hch b hb
  exact ⟨f3, f1, f4, f5⟩
 ·obtain ⟨oL, es, ep, ho, r⟩ := hm
  exact ⟨oL, es, ep, k _ oL (fun z => (hch _ z).2.1 rfl) ho, r⟩
 ·refine (I.hok b u e).stay (fun c v hc q => k c v ?_ q) (fun _ q => q) fun _ _ q => q
  rcases hc with z | z
  ·rw [z]
   exact nch b u e
  ·exact nch c _ z
noncomputable def Ite (K : PySem.W.Frag) (a : Addr) : It :=
 ⟨fun i H => ∃ xs x, SqL K H a xs ∧ xs[i]? = some x, fun i H x H' => ∃ T y, H T = none ∧ x = .ref T ∧ H' = upd H T (.tup [.int i, y]) ∧ ∀ xs, SqL K H a xs → xs[i]? = some y, fun i H => ∃ xs, SqL K H a xs ∧ xs.length ≤ i⟩
theorem rO {P : Program} {w : World} {K : PySem.W.Frag} {es : List Expr} {k : Nat} {pos : Pos} (a e it : Addr) (hne : e ≠ it) :
  Turn P w K (.Tuple es k pos) (Ite K a) [e, it] e (fun i h => (∃ old, IsEnum h e it i old) ∧ h.IsListIter it a i) where
 mem := by simp
 obj := fun i h st b hb => by
  obtain ⟨⟨old, he⟩, o, eo, c, d⟩ := st;have hb' : b = e ∨ b = it := by simpa using hb
  rcases hb' with z | z
  ·subst z
   exact ⟨_, he, fun v z => by cases z⟩
  ·subst z
   exact ⟨o, eo, fun v z => by rw [d] at z; cases z⟩
 keep := fun i h h' st kp => ⟨(let ⟨old, he⟩ := st.1; ⟨old, kp e (by simp) _ he⟩), st.2.at fun o eo => kp it (by simp) o eo⟩
 item := by
  intro X hP hw hK hc i pins s σ H E I hf st hg;subst hP hw hK;obtain ⟨xs, x, hq, hx⟩ := hg;obtain ⟨⟨old, he⟩, hit⟩ := st;obtain ⟨its, rv, p, hz⟩ := I.list hq;obtain ⟨u, hu, ru⟩ := rv.get hx;have elt : e < s.heap.objs.size := Heap.lt_size he;refine wpAny_pyNext_enum_item he hit p.isList (x := u) (by simpa using hu) hne fun h1 ho hit1 hT hsz hk => ?_
  refine ⟨_, rfl, wpAny_letOwnedTupleGo_enum ho fun h2 he2 hs2 => ?_⟩
  have kk : ∀ b v, b ∉ [e, it] → s.heap.get? b = some v → h2.get? b = some v := fun b v hb q => by
   have h1' : b ≠ e := fun z => hb (by simp [z])
   have h2' : b ≠ it := fun z => hb (by simp [z])
   exact (hs2.2 b h1').trans (hk b v h1' h2' q)
  have hT2 : h2.get? s.heap.objs.size = some { cls := .type "tuple", data := .seq #[.int i s.toks, u] } := (hs2.2 _ (Nat.ne_of_gt elt)).trans hT;refine ⟨.ref s.heap.objs.size, upd H s.heap.objs.size (.tup [.int i, x]), nz (s := s) (h' := h2) (t' := s.toks + 1) I hf kk (Nat.le_refl _) ?_, rfl, ⟨_, x, I.fresh, rfl, rfl, fun ys hy => by rw [I.list_inj hy hq]; exact hx⟩, ⟨⟨_, he2⟩, ?_⟩, fun b hb => ?_⟩
  ·exact ⟨by show 2 ≤ sizeLine; decide, [.int i s.toks, u], .cons ⟨_, rfl⟩ (.cons ru .nil), _, hT2, rfl, _, rfl⟩
  ·exact hit1.at fun o eo => (hs2.2 it (Ne.symm hne)).trans eo
  ·obtain ⟨f0, f1, f2, f3, f4, f5⟩ := hf b hb
   have hb' : b = e ∨ b = it := by simpa using hb
   obtain ⟨oi, eoi, _⟩ := hit;have : b < s.heap.objs.size := by
    rcases hb' with z | z
    ·rw [z]; exact elt
    ·rw [z]; exact Heap.lt_size eoi
   rw [aM (Nat.ne_of_lt this)];exact f0
 done := by
  intro X hP hw hK hc i pins s σ H E I hf st hg;subst hP hw hK;obtain ⟨xs, hq, hx⟩ := hg;obtain ⟨⟨old, he⟩, hit⟩ := st;obtain ⟨its, rv, p, hz⟩ := I.list hq;have hl := rv.length;refine wpAny_pyNext_enum_end (I.ok.hd hc) he hit p.isList (by simp; lia) fun h1 eb => ⟨rfl, pX (t' := s.toks) I hf fun b v hb q => eb b v (fun z => hb (by simp [z])) q⟩
 self := fun _ _ _ _ _ st h => (let ⟨old, he⟩ := st.1; wpAny_pyIter_enum he h)
noncomputable def wU (K : PySem.W.Frag) (ta : TA) : TI := fun σ H R => ta σ H fun vs H1 => ∃ a, vs = [.ref a] ∧ (∃ xs, SqL K H1 a xs) ∧ R (Ite K a) H1
theorem j5 : bootBuiltins "enumerate" = some (.type "enumerate") := by decide +kernel
theorem rG : bootBuiltins "zip" = some (.type "zip") := by decide +kernel
theorem u9 {X : Cx} {es : List Expr} {k : Nat} {a : Expr} {ta : TA} {p pos tpos : Pos} (hg : Gl X "enumerate") (hm : X.mg "enumerate" = none) (ha : PA X [a] ta) (hs : starEach [a] X.env = [(false, eval a X.env)] := by rfl) :
  PI X (.Tuple es k tpos) (.Call (.Name "enumerate" p) [a] [] pos) (wU X.K ta) := by
 intro pins s σ H R I h;refine Call_ (gZ I hg hm j5 (PyProof.Rows.callWith_type1 (thn (ha pos pins s σ H _ I h) fun us s1 ⟨vs, H1, I1, r1, q1⟩ => ?_) hs rfl))
 obtain ⟨l, e, ⟨xs, hq⟩, q⟩ := q1;subst e;obtain ⟨u, rfl, ru⟩ := Vals.one r1;cases ru;obtain ⟨its, rv, pl, hz⟩ := I1.list hq;refine call_enumerate_list pl.isList fun h1 he hit hsz hk => ?_
 refine wpAny_pyIter_enum he ?_;have I2 : Inv X pins σ H1 { s1 with heap := h1 } := I1.kept (t' := s1.toks) hk
 refine ⟨s1.heap.objs.size + 1, [s1.heap.objs.size + 1, s1.heap.objs.size], _, Ite X.K l, H1, rfl, I2, rO l _ _ (Nat.succ_ne_self _), ⟨⟨_, he⟩, hit⟩, fun b hb => ?_, q⟩
 have hb' : b = s1.heap.objs.size + 1 ∨ b = s1.heap.objs.size := by simpa using hb
 rcases hb' with z | z
 ·subst z
  exact I1.fpOk (Nat.le_succ _) (I1.hok.fresh (Nat.le_succ _))
 ·subst z
  exact I1.fpOk (Nat.le_refl _) (I1.hok.fresh (Nat.le_refl _))
noncomputable def Itz (K : PySem.W.Frag) (a b : Addr) : It :=
 ⟨fun i H => ∃ xs x ys y, SqL K H a xs ∧ xs[i]? = some x ∧ SqL K H b ys ∧ ys[i]? = some y, fun i H v H' => ∃ T x y, H T = none ∧ v = .ref T ∧ H' = upd H T (.tup [x, y]) ∧ (∀ xs, SqL K H a xs → xs[i]? = some x) ∧ ∀ ys, SqL K H b ys → ys[i]? = some y,
  fun i H => ∃ xs ys, SqL K H a xs ∧ SqL K H b ys ∧ (xs.length ≤ i ∨ ys.length ≤ i)⟩
theorem sd {P : Program} {w : World} {K : PySem.W.Frag} {es : List Expr} {k : Nat} {pos : Pos} (a b z TI TO i1 i2 : Addr) (z1 : z ≠ TI ∧ z ≠ TO ∧ z ≠ i1 ∧ z ≠ i2) (z2 : TI ≠ TO ∧ TI ≠ i1 ∧ TI ≠ i2) (z3 : TO ≠ i1 ∧ TO ≠ i2) (z4 : i1 ≠ i2)
  (z5 : a ≠ z ∧ a ≠ TO ∧ a ≠ i1 ∧ a ≠ i2) (z6 : b ≠ z ∧ b ≠ TO ∧ b ≠ i1 ∧ b ≠ i2) :
  Turn P w K (.Tuple es k pos) (Itz K a b) [z, TI, TO, i1, i2] z (fun i h => IsZip h z TI TO .none ∧ IsPair h TI (.ref i1) (.ref i2) ∧ (∃ u v, IsPair h TO u v) ∧ h.IsListIter i1 a i ∧ h.IsListIter i2 b i) := by
 have D : ZipApart z TI TO i1 i2 a b := ⟨Ne.symm z1.1, Ne.symm z1.2.1, Ne.symm z1.2.2.1, Ne.symm z1.2.2.2, z2.1, z2.2.1, z2.2.2, z3.1, z3.2, z4, z5.1, z5.2.1, z5.2.2.1, z5.2.2.2, z6.1, z6.2.1, z6.2.2.1, z6.2.2.2⟩;have mem5 : ∀ c, c ∈ [z, TI, TO, i1, i2] → c = z ∨ c = TI ∨ c = TO ∨ c = i1 ∨ c = i2 := fun c hc => by simpa using hc
 constructor
 ·simp
 ·intro i h st c hc
  obtain ⟨hz, hTI, ⟨u, v, hTO⟩, ⟨o1, e1, c1, d1⟩, o2, e2, c2, d2⟩ := st;rcases mem5 c hc with rfl | rfl | rfl | rfl | rfl
  ·exact ⟨_, hz, fun v z => by cases z⟩
  ·exact ⟨_, hTI, fun v z => by cases z⟩
  ·exact ⟨_, hTO, fun v z => by cases z⟩
  ·exact ⟨o1, e1, fun v z => by rw [d1] at z; cases z⟩
  ·exact ⟨o2, e2, fun v z => by rw [d2] at z; cases z⟩
 ·intro i h h' st kp
  obtain ⟨hz, hTI, ⟨u, v, hTO⟩, h1, h2⟩ := st;exact ⟨kp z (by simp) _ hz, kp TI (by simp) _ hTI, ⟨u, v, kp TO (by simp) _ hTO⟩, h1.at fun o e => kp i1 (by simp) o e, h2.at fun o e => kp i2 (by simp) o e⟩
 ·intro X hP hw hK hc i pins s σ H E I hf st hg
  subst hP hw hK;obtain ⟨xs, x, ys, y, hq, hx, hr, hy⟩ := hg;obtain ⟨hz, hTI, ⟨u, v, hTO⟩, h1, h2⟩ := st;obtain ⟨its, rv, p, _⟩ := I.list hq;obtain ⟨its2, rv2, p2, _⟩ := I.list hr;obtain ⟨ux, hux, rux⟩ := rv.get hx;obtain ⟨uy, huy, ruy⟩ := rv2.get hy;refine wpAny_pyNext_zip_item D hz hTI hTO h1 h2 p.isList p2.isList (x := ux) (y := uy) (by simpa using hux) (by simpa using huy) fun h3 a1 a2 a3 a4 a5 a6 hk => ?_
  have zlt : z < s.heap.objs.size := Heap.lt_size hz;refine ⟨_, rfl, wpAny_letOwnedTupleGo_zip a1 fun h4 hz4 hs4 => ?_⟩
  have kk : ∀ c w', c ∉ [z, TI, TO, i1, i2] → s.heap.get? c = some w' → h4.get? c = some w' := fun c w' hc q => by
   have n1 : c ≠ z := fun e => hc (by simp [e])
   have n2 : c ≠ TO := fun e => hc (by simp [e])
   have n3 : c ≠ i1 := fun e => hc (by simp [e])
   have n4 : c ≠ i2 := fun e => hc (by simp [e])
   exact (hs4.2 c n1).trans (hk c w' n1 n2 n3 n4 q)
  have hT4 : IsPair h4 s.heap.objs.size ux uy := (hs4.2 _ (Nat.ne_of_gt zlt)).trans a5;have hTI4 : IsPair h4 TI (.ref i1) (.ref i2) := (hs4.2 _ (Ne.symm z1.1)).trans (hk _ _ (Ne.symm z1.1) z2.1 z2.2.1 z2.2.2 hTI);refine ⟨.ref s.heap.objs.size, upd H s.heap.objs.size (.tup [x, y]), nz (s := s) (h' := h4) (t' := s.toks) I hf kk (Nat.le_refl _) ?_, rfl, ⟨_, x, y, I.fresh, rfl, rfl, fun zs hzs => by rw [I.list_inj hzs hq]; exact hx, fun zs hzs => by rw [I.list_inj hzs hr]; exact hy⟩,
   ⟨hz4, hTI4, ⟨ux, uy, (hs4.2 _ (Ne.symm z1.2.1)).trans a2⟩, a3.at fun o e => (hs4.2 _ (Ne.symm z1.2.2.1)).trans e, a4.at fun o e => (hs4.2 _ (Ne.symm z1.2.2.2)).trans e⟩, fun c hc => ?_⟩
  ·exact ⟨by show 2 ≤ sizeLine; decide, [ux, uy], .cons rux (.cons ruy .nil), _, hT4, rfl, _, rfl⟩
  ·have clt : c < s.heap.objs.size := by
    obtain ⟨o1, e1, _⟩ := h1;obtain ⟨o2, e2, _⟩ := h2;rcases mem5 c hc with rfl | rfl | rfl | rfl | rfl
    ·exact zlt
    ·exact Heap.lt_size hTI
    ·exact Heap.lt_size hTO
    ·exact Heap.lt_size e1
    ·exact Heap.lt_size e2
   rw [aM (Nat.ne_of_lt clt)];exact (hf c hc).1
 ·intro X hP hw hK hc i pins s σ H E I hf st hg
  subst hP hw hK;obtain ⟨xs, ys, hq, hr, hx⟩ := hg;obtain ⟨hz, hTI, ⟨u, v, hTO⟩, h1, h2⟩ := st;obtain ⟨its, rv, p, _⟩ := I.list hq;obtain ⟨its2, rv2, p2, _⟩ := I.list hr;have l1 := rv.length;have l2 := rv2.length;refine wpAny_pyNext_zip_end (I.ok.hd hc) D hz hTI hTO h1 h2 p.isList p2.isList (by simp; lia) fun h3 hk => ⟨rfl, pX (t' := s.toks) I hf fun c w' hc q => hk c w' (fun e => hc (by simp [e])) (fun e => hc (by simp [e])) (fun e => hc (by simp [e])) (fun e => hc (by simp [e])) q⟩
 ·intro A i s Q E st h
  exact wpAny_pyIter_zip st.1 h
theorem neA {a b : Nat} (h : a ≠ b) : @Ne Addr a b := h
noncomputable def BR (K : PySem.W.Frag) (ta : TA) : TI := fun σ H R => ta σ H fun vs H1 => ∃ a b, vs = [.ref a, .ref b] ∧ (∃ xs, SqL K H1 a xs) ∧ (∃ ys, SqL K H1 b ys) ∧ R (Itz K a b) H1
theorem x4 {X : Cx} {es : List Expr} {k : Nat} {a b : Expr} {ta : TA} {p pos tpos : Pos} (hg : Gl X "zip") (hm : X.mg "zip" = none) (ha : PA X [a, b] ta) (hs : starEach [a, b] X.env = [(false, eval a X.env), (false, eval b X.env)] := by rfl) (hs2 : starEach [b] X.env = [(false, eval b X.env)] := by rfl) :
  PI X (.Tuple es k tpos) (.Call (.Name "zip" p) [a, b] [] pos) (BR X.K ta) := by
 intro pins s σ H R I h;refine Call_ (gZ I hg hm rG (PyProof.Rows.callWith_type1 (thn (ha pos pins s σ H _ I h) fun us s1 ⟨vs, H1, I1, r1, q1⟩ => ?_) (by rw [hs, hs2]) (by rw [hs2]; rfl)))
 obtain ⟨l, l', e, ⟨xs, hq⟩, ⟨ys, hr⟩, q⟩ := q1;subst e;obtain ⟨u, v, rfl, ru, rv'⟩ := Vals.two r1;cases ru;cases rv';obtain ⟨its, rv, pl, hz⟩ := I1.list hq;obtain ⟨its2, rv2, pl2, hz2⟩ := I1.list hr;have lt1 : @LT.lt Nat instLTNat l s1.heap.objs.size := (let ⟨o, e, _⟩ := pl.isList; Heap.lt_size e);have lt2 : @LT.lt Nat instLTNat l' s1.heap.objs.size := (let ⟨o, e, _⟩ := pl2.isList; Heap.lt_size e);refine call_zip_2 pl.isList pl2.isList fun h1 a1 a2 a3 a4 a5 a6 hk => ?_
 refine wpAny_pyIter_zip a1 ?_;have I2 : Inv X pins σ H1 { s1 with heap := h1 } := I1.kept (t' := s1.toks) hk
 refine ⟨s1.heap.objs.size + 4, [s1.heap.objs.size + 4, s1.heap.objs.size + 2, s1.heap.objs.size + 3, s1.heap.objs.size, s1.heap.objs.size + 1], _, Itz X.K l l', H1, rfl, I2,
  sd l l' (s1.heap.objs.size + 4) (s1.heap.objs.size + 2) (s1.heap.objs.size + 3) s1.heap.objs.size (s1.heap.objs.size + 1) ⟨neA (by lia), neA (by lia), neA (by lia), neA (by lia)⟩ ⟨neA (by lia), neA (by lia), neA (by lia)⟩ ⟨neA (by lia), neA (by lia)⟩ (neA (by lia)) ⟨neA (by lia), neA (by lia), neA (by lia), neA (by lia)⟩ ⟨neA (by lia), neA (by lia), neA (by lia), neA (by lia)⟩, ⟨a1, a2, ⟨_, _, a3⟩, a4, a5⟩, fun c hc => ?_, q⟩
 have hc' : @LE.le Nat instLENat s1.heap.objs.size c := by
  have hc2 : @Eq Nat c (s1.heap.objs.size + 4) ∨ @Eq Nat c (s1.heap.objs.size + 2) ∨ @Eq Nat c (s1.heap.objs.size + 3) ∨ @Eq Nat c s1.heap.objs.size ∨ @Eq Nat c (s1.heap.objs.size + 1) := by simpa using hc
  lia
 exact I1.fpOk hc' (I1.hok.fresh hc')
mutual
inductive Rep (K : PySem.W.Frag) (H : Hp) : V → PyData → Prop
 | non : Rep K H .non .none
 | bl (b : Bool) : Rep K H (.bl b) (.bool b)
 | int (i : Int) : Rep K H (.int i) (.int i)
 | str (x : Str) : Rep K H (.str x) (.str x)
 | lst {a : Addr} {xs : List V} {ds : List PyData} : SqL K H a xs → RepAll K H xs ds → Rep K H (.ref a) (.list ds)
 | tup {a : Addr} {xs : List V} {ds : List PyData} : SqT K H a xs → RepAll K H xs ds → Rep K H (.ref a) (.tuple ds)
inductive RepAll (K : PySem.W.Frag) (H : Hp) : List V → List PyData → Prop
 | nil : RepAll K H [] []
 | cons {v : V} {vs : List V} {d : PyData} {ds : List PyData} : Rep K H v d → RepAll K H vs ds → RepAll K H (v :: vs) (d :: ds)
end
theorem AY {K : PySem.W.Frag} {H H' : Hp} {a : Addr} {xs : List V} (e : aI H H') (h : SqT K H a xs) : SqT K H' a xs := by
 rcases h with (h | ⟨o, h⟩) | h
 ·exact .inl (.inl (e _ _ h))
 ·exact .inl (.inr ⟨o, e _ _ h⟩)
 ·exact .inr h
mutual
theorem Rep.same {K : PySem.W.Frag} {H H' : Hp} (e : aI H H') {v : V} {d : PyData} : Rep K H v d → Rep K H' v d
 | .non => .non
 | .bl b => .bl b
 | .int i => .int i
 | .str x => .str x
 | .lst h r => .lst (e.seq h) (RepAll.same e r)
 | .tup h r => .tup (AY e h) (RepAll.same e r)
theorem RepAll.same {K : PySem.W.Frag} {H H' : Hp} (e : aI H H') {vs : List V} {ds : List PyData} : RepAll K H vs ds → RepAll K H' vs ds
 | .nil => .nil
 | .cons h r => .cons (Rep.same e h) (RepAll.same e r)
end
mutual
theorem Rep.reads {X : Cx} {pins : List (Addr × Obj)} {σ : St} {H : Hp} {s : Shared} (I : Inv X pins σ H s) {v : V} {d : PyData} : ∀ {u : Value}, Rep X.K H v d → RelV v u → ∃ as, Reads s.heap u d as
 | _, .non, r => by
  cases r;exact ⟨_, .none⟩
 | _, .bl b, r => by
  cases r;exact ⟨_, .bool b⟩
 | _, .int i, r => by
  obtain ⟨t, rfl⟩ := r;exact ⟨_, .int i t⟩
 | _, .str x, r => by
  obtain ⟨t, rfl⟩ := r;exact ⟨_, .str x t⟩
 | _, .lst h ra, r => by
  cases r;obtain ⟨its, rv, pl, hz⟩ := I.list h;obtain ⟨as, ha⟩ := RepAll.reads I ra rv;obtain ⟨o, e, c, n, dd⟩ := pl.isList;exact ⟨_, .list e c dd (by simpa using ha)⟩
 | _, .tup h ra, r => by
  cases r;obtain ⟨its, rv, pl, hz⟩ := I.tuple h;obtain ⟨as, ha⟩ := RepAll.reads I ra rv;obtain ⟨o, e, c, n, dd⟩ := (show s.heap.IsTuple _ its.toArray from pl)
  exact ⟨_, .tuple e c dd (by simpa using ha)⟩
theorem RepAll.reads {X : Cx} {pins : List (Addr × Obj)} {σ : St} {H : Hp} {s : Shared} (I : Inv X pins σ H s) {vs : List V} {ds : List PyData} : ∀ {us : List Value}, RepAll X.K H vs ds → Vals vs us → ∃ as, ReadsAll s.heap us ds as
 | _, .nil, .nil => ⟨_, .nil⟩
 | _, .cons h r, .cons q t => by
  obtain ⟨as, ha⟩ := Rep.reads I h q;obtain ⟨bs, hb⟩ := RepAll.reads I r t;exact ⟨_, .cons ha hb⟩
end
noncomputable def Bt (K : PySem.W.Frag) : R2 := fun x y H Q => ∃ d e, Rep K H x d ∧ Rep K H y e ∧ SeqAt.shaped d = true ∧ SeqAt.shaped e = true ∧ Q (.bl (PyData.eqv d e)) H
noncomputable def Bp (K : PySem.W.Frag) : R2 := fun x y H Q => ∃ d e, Rep K H x d ∧ Rep K H y e ∧ SeqAt.shaped d = true ∧ SeqAt.shaped e = true ∧ Q (.bl (!PyData.eqv d e)) H
theorem xG {X : Cx} (hu : X.A.units + 64 < cLine) : OpR X (compareOp .Eq) (Bt X.K) := by
 intro pins s σ H x y v u Q I rx ry h;obtain ⟨d, e, h1, h2, s1, s2, q⟩ := h;obtain ⟨as, r1⟩ := h1.reads I rx;obtain ⟨bs, r2⟩ := h2.reads I ry;exact eq_dataH r1 r2 s1 s2 hu ⟨.bl _, H, I, rfl, q⟩
theorem zx {X : Cx} (hu : X.A.units + 64 < cLine) : OpR X (compareOp .NotEq) (Bp X.K) := by
 intro pins s σ H x y v u Q I rx ry h;obtain ⟨d, e, h1, h2, s1, s2, q⟩ := h;obtain ⟨as, r1⟩ := h1.reads I rx;obtain ⟨bs, r2⟩ := h2.reads I ry;exact ne_dataH r1 r2 s1 s2 hu ⟨.bl _, H, I, rfl, q⟩
theorem eO : bootBuiltins "isinstance" = some (.builtin "isinstance") := by decide +kernel
theorem qQ {X : Cx} (hc : X.calm = true) : dZ X (.builtin "max") (fun xs H Q => ∃ (a : Addr) (ns : List Int), xs = [.ref a] ∧ SqL X.K H a (ns.map V.int) ∧ 0 < ns.length ∧ ∀ M, M ∈ ns → (∀ z, z ∈ ns → z ≤ M) → Q (.int M) H) := by
 intro pins s σ H xs us Q I r h;obtain ⟨a, ns, rfl, hq, hl, q⟩ := h;obtain ⟨u, rfl, ru⟩ := Vals.one r;cases ru;obtain ⟨its, rv, pl, hz⟩ := I.list hq;have hi : IntsAre its ns := intsAre_of rv;obtain ⟨ys, e⟩ := hi.allInts.items;have hns : ns = ys.toList.map (·.1) := by
  rw [← hi.numsOf, ← nums_intItems, ← e]
 have hsz : 0 < ys.size := by
  have h3 := hl;rw [hns, List.length_map, Array.length_toList] at h3;exact h3
 have hL := pl.isList;rw [e] at hL;refine max_intList (I.ok.hd hc) hL hsz fun v h' tk hv hk => ?_
 obtain ⟨t, rfl⟩ := intItems_at hv;obtain ⟨h1, h2⟩ := argBest_gt (numAt ys) (ys.size - 1);refine ⟨.int _, H, I.kept hk, ⟨t, rfl⟩, q _ ?_ fun z hzz => ?_⟩
 ·rw [hns, numAt_eq]
  exact getD_mem (by rw [List.length_map, Array.length_toList]; lia)
 ·rw [hns] at hzz
  obtain ⟨j, hj, rfl⟩ := mem_getD hzz;rw [List.length_map, Array.length_toList] at hj;rw [← numAt_eq];exact h2 j (by lia)
theorem rN {X : Cx} (hc : X.calm = true) : dZ X (.builtin "min") (fun xs H Q => ∃ (a : Addr) (ns : List Int), xs = [.ref a] ∧ SqL X.K H a (ns.map V.int) ∧ 0 < ns.length ∧ ∀ M, M ∈ ns → (∀ z, z ∈ ns → M ≤ z) → Q (.int M) H) := by
 intro pins s σ H xs us Q I r h;obtain ⟨a, ns, rfl, hq, hl, q⟩ := h;obtain ⟨u, rfl, ru⟩ := Vals.one r;cases ru;obtain ⟨its, rv, pl, hz⟩ := I.list hq;have hi : IntsAre its ns := intsAre_of rv;obtain ⟨ys, e⟩ := hi.allInts.items;have hns : ns = ys.toList.map (·.1) := by
  rw [← hi.numsOf, ← nums_intItems, ← e]
 have hsz : 0 < ys.size := by
  have h3 := hl;rw [hns, List.length_map, Array.length_toList] at h3;exact h3
 have hL := pl.isList;rw [e] at hL;refine min_intList (I.ok.hd hc) hL hsz fun v h' tk hv hk => ?_
 obtain ⟨t, rfl⟩ := intItems_at hv;obtain ⟨h1, h2⟩ := argBest_lt (numAt ys) (ys.size - 1);refine ⟨.int _, H, I.kept hk, ⟨t, rfl⟩, q _ ?_ fun z hzz => ?_⟩
 ·rw [hns, numAt_eq]
  exact getD_mem (by rw [List.length_map, Array.length_toList]; lia)
 ·rw [hns] at hzz
  obtain ⟨j, hj, rfl⟩ := mem_getD hzz;rw [List.length_map, Array.length_toList] at hj;rw [← numAt_eq];exact h2 j (by lia)
theorem sW {X : Cx} : MtR X "list.index" (fun x vs H Q => ∃ (a : Addr) (ns : List Int) (z : Int), x = .ref a ∧ vs = [.int z] ∧ SqL X.K H a (ns.map V.int) ∧ z ∈ ns ∧ Q (.int (ns.idxOf z : Nat)) H) := by
 intro pins s σ H x vs v us Q I rx rv h;obtain ⟨a, ns, z, rfl, rfl, hq, hm, q⟩ := h;cases rx;obtain ⟨u, rfl, t, rfl⟩ := Vals.one rv;obtain ⟨its, rs, pl, hz⟩ := I.list hq;have hi : IntsAre its ns := intsAre_of rs;obtain ⟨⟨cls, dd, data, sl⟩, ho, hc, n, hd⟩ := pl.isList;simp only at hc hd;subst hc hd;have hlen := hi.length;have hj : ns.idxOf z < ns.length := List.idxOf_lt_length_iff.mpr hm;have hn := iH;have hb : ns.length ≤ sizeLine := by simpa using hz
 refine call_meets PySem.F.slot_list_index ⟨_, ho, rfl⟩ PySem.F.entry_list_index (PySem.F.args_list_index_2 _ _)
  (SeqAt.list_indexAt a its.toArray n dd sl (.int z t) (isInt z) (ns.idxOf z) (by simpa [hlen] using hj) (by lia) ?_ ?_) ⟨ho, fun y hy => (eq_isInt z t hi y (by simpa using hy)).at _ _, ⟨.int _, H, I.tok _, ⟨_, rfl⟩, q⟩⟩
 ·show isInt z its[ns.idxOf z] = true
  rw [isInt_at z hi _ (by lia) hj]
  simpa using List.getElem_idxOf hj
 ·intro j hjs hlt
  show isInt z its[j] = false
  rw [isInt_at z hi j (by simpa using hjs) (by lia)]
  exact ne_of_lt_idxOf hlt _
end L2
namespace L2
open PySem PySem.Spec PyProof.Rows
theorem Ce {K : PySem.W.Frag} {a : Addr} {xs : List V} {g : TG} {tb : TS} {D : Ends} {σ : St} {H : Hp} (Pv : Nat → St → Hp → Prop) (h0 : Pv 0 σ H) (hl : ∀ i σ H, i ≤ xs.length → Pv i σ H → SqL K H a xs)
  (hs : ∀ i x σ H T, xs[i]? = some x → Pv i σ H → H T = none → g (.ref T) σ (upd H T (.tup [.int i, x])) fun σ2 H2 => tb { D with nx := Pv (i + 1), ct := Pv (i + 1), bk := D.nx } σ2 H2) (hd : ∀ σ H, Pv xs.length σ H → D.nx σ H) :
  ∃ W : Nat → Nat → St → Hp → Prop, (∃ m, W 0 m σ H) ∧ ∀ i m σ H, W i m σ H →
   ((Ite K a).stop i H ∧ D.nx σ H) ∨ ((Ite K a).go i H ∧ ∃ N : St → Hp → Prop, (∀ σ' H', N σ' H' → ∃ m', m' < m ∧ W (i + 1) m' σ' H') ∧ ∀ x H', (Ite K a).yld i H x H' → g x σ H' fun σ2 H2 => tb { D with nx := N, ct := N, bk := D.nx } σ2 H2) := by
 refine ⟨fun i m σ H => m = xs.length - i ∧ i ≤ xs.length ∧ Pv i σ H, ⟨xs.length, by simp, Nat.zero_le _, h0⟩, ?_⟩
 rintro i m σ H ⟨rfl, hi, p⟩;have q := hl i σ H hi p;by_cases hlt : i < xs.length
 ·refine .inr ⟨⟨xs, xs[i], q, by simp [hlt]⟩, Pv (i + 1), fun σ' H' p' => ⟨xs.length - (i + 1), by lia, rfl, hlt, p'⟩, fun x H' y => ?_⟩
  obtain ⟨T, z, hT, rfl, rfl, e⟩ := y;exact hs i z σ H T (e xs q) p hT
 ·have e : i = xs.length := by lia
  subst e;exact .inl ⟨⟨xs, q, Nat.le_refl _⟩, hd σ H p⟩
section
variable {g : TG} {tc : TT} {te : TE} {σ0 : St} {D : Addr} {H1 : Hp} {Q : Hp → Prop}
theorem t8 {K : PySem.W.Frag} {a : Addr} {xs : List V} (Pv : Nat → List V → Hp → Prop) (h0 : Pv 0 [] (upd H1 D (.lst []))) (hl : ∀ i acc H, i ≤ xs.length → Pv i acc H → SqL K H a xs)
  (hs : ∀ i x acc H, xs[i]? = some x → Pv i acc H → g x σ0 H (AU tc te σ0 D acc (Pv (i + 1)))) (hd : ∀ acc H, Pv xs.length acc H → Q H) : zH (Itl K a) g tc te σ0 D H1 Q := by
 refine ⟨fun i m acc H => m = xs.length - i ∧ i ≤ xs.length ∧ Pv i acc H, ⟨xs.length, by simp, Nat.zero_le _, h0⟩, ?_⟩
 rintro i m acc H ⟨rfl, hi, p⟩;have q := hl i acc H hi p;by_cases hlt : i < xs.length
 ·refine .inr ⟨⟨xs, xs[i], q, by simp [hlt]⟩, Pv (i + 1), fun acc' H' p' => ⟨xs.length - (i + 1), by lia, rfl, hlt, p'⟩, fun x H' y => ?_⟩
  obtain ⟨e, y⟩ := y;subst e;exact hs i x acc _ (y xs q) p
 ·have e : i = xs.length := by lia
  subst e;exact .inl ⟨⟨xs, q, Nat.le_refl _⟩, hd acc H p⟩
end
noncomputable def PvM (H1 : Hp) (D : Addr) (r : Nat → List V) (i : Nat) (acc : List V) (H : Hp) : Prop := acc = r i ∧ aI H1 H ∧ H D = some (.lst acc)
theorem PvM.start {H1 : Hp} {D : Addr} {r : Nat → List V} (hD : H1 D = none) (h : r 0 = []) : PvM H1 D r 0 [] (upd H1 D (.lst [])) :=
 ⟨h.symm, fun b o e => by rw [aM (aP e hD)]; exact e, bL⟩
theorem PvM.yes {H1 H : Hp} {D : Addr} {r : Nat → List V} {i : Nat} {acc : List V} {y : V} (hD : H1 D = none) (p : PvM H1 D r i acc H) (e : r (i + 1) = r i ++ [y]) (hl : (r i).length < sizeLine) :
  H D = some (.lst acc) ∧ acc.length < sizeLine ∧ PvM H1 D r (i + 1) (acc ++ [y]) (upd H D (.lst (acc ++ [y]))) :=
 ⟨p.2.2, by rw [p.1]; exact hl, by rw [p.1, e], fun b u q => by rw [aM (aP q hD)]; exact p.2.1 b u q, bL⟩
structure Def (K : PySem.W.Frag) (mg : Str → Option Value) (x : Str) (st : Stmt) (ps : List Str) (f : Addr) (fd : FuncData) : Prop where
 F : Fun K x x st f fd
 g : mg x = some (.ref f)
 b : Binds K fd ps []
theorem aI.upd {H H' : Hp} {a : Addr} {o : HO} (e : aI H H') (h : H a = none) : aI H (L2.upd H' a o) := fun b u q => by
 rw [aM (aP q h)];exact e b u q
section
variable {X : Cx}
theorem kz (K : PySem.W.Frag) (h : X.K = K) : IxR X (pP K) := by
 subst h;exact qi
noncomputable def Cj (K : PySem.W.Frag) : List V → Hp → VK → Prop := fun xs H Q => ∃ p ys, xs = [.ref p] ∧ (SqL K H p ys ∨ SqT K H p ys) ∧ ∀ l, H l = none → Q (.ref l) (upd H l (.lst ys))
theorem rL (K : PySem.W.Frag) (h : X.K = K) : dZ X (.type "list") (Cj K) := by
 subst h;exact mh
theorem s_ (K : PySem.W.Frag) (h : X.K = K) {tg l : Expr} {tl : TE} (hl : PE X l tl) : PI X tg l (nV K tl) := by
 subst h;exact qu hl
noncomputable def wg (K : PySem.W.Frag) : List V → Hp → VK → Prop := fun xs H Q => ∃ (a : Addr) (ns : List Int), xs = [.ref a] ∧ SqL K H a (ns.map V.int) ∧ 0 < ns.length ∧ ∀ M, M ∈ ns → (∀ z, z ∈ ns → z ≤ M) → Q (.int M) H
theorem h8 (K : PySem.W.Frag) (h : X.K = K) (hc : X.calm = true) : dZ X (.builtin "max") (wg K) := by
 subst h;exact qQ hc
noncomputable def wJ (K : PySem.W.Frag) : List V → Hp → VK → Prop := fun xs H Q => ∃ (a : Addr) (ns : List Int), xs = [.ref a] ∧ SqL K H a (ns.map V.int) ∧ 0 < ns.length ∧ ∀ M, M ∈ ns → (∀ z, z ∈ ns → M ≤ z) → Q (.int M) H
theorem jD (K : PySem.W.Frag) (h : X.K = K) (hc : X.calm = true) : dZ X (.builtin "min") (wJ K) := by
 subst h;exact rN hc
end
end L2
namespace L2
open PySem PySem.Spec PyProof.Rows
end L2
namespace L2
open PySem PySem.Spec PyProof.Rows
section
variable {κ : Type} [DecidableEq κ]
end
section
variable {P : Program} {w : World} {H : Hp} {h : Heap} {a : Addr}
end
section
variable {X : Cx} {pins : List (Addr × Obj)} {σ : St} {H : Hp} {s : Shared} {a : Addr} {y v : V} {u r : Value} {o : Option V} {A : Around} {E : Value → Shared → Prop}
end
section
variable {X : Cx} {pins : List (Addr × Obj)} {σ : St} {H : Hp} {s : Shared} {a : Addr} {kvs : List (Key × V)} {k : Key} {u : Value} {A : Around} {E : Value → Shared → Prop}
end
section
variable {X : Cx} {o i e value : Expr} {pos pos' tpos : Pos} {td ty tv : TE}
end
section
variable {X : Cx} {pos : Pos}
end
end L2
namespace L3
open PySem L2 PySem.Spec PyProof.Rows
noncomputable abbrev St := L2.St
noncomputable def RdK (K : PySem.W.Frag) (H : Hp) (a : Addr) (xs : List V) : Prop :=
 Rd H a (.lst xs) ∨ ∃ (its : Array Value) (n : Nat), K.lookup a = some { cls := .type "list", data := .seq its n } ∧ its.size ≤ sizeLine ∧ Vals xs its.toList
theorem RdK.of {K : PySem.W.Frag} {H : Hp} {a : Addr} {xs : List V} (h : H a = some (.lst xs)) : RdK K H a xs := .inl (.inl h)
theorem RdK.sq {K : PySem.W.Frag} {H : Hp} {a : Addr} {xs : List V} (h : RdK K H a xs) : SqL K H a xs := by
 rcases h with h | ⟨its, n, hk, hz, r⟩
 ·exact .inl h
 ·exact .inr ⟨_, its, n, hk, rfl, rfl, rfl, hz, r⟩
theorem RdK.same {K : PySem.W.Frag} {H H' : Hp} (e : aI H H') {a : Addr} {xs : List V} (h : RdK K H a xs) : RdK K H' a xs := by
 rcases h with (h | ⟨o, h⟩) | h
 ·exact .inl (.inl (e _ _ h))
 ·exact .inl (.inr ⟨o, e _ _ h⟩)
 ·exact .inr h
theorem RdK.obj {X : Cx} {pins : List (Addr × Obj)} {σ : St} {H : Hp} {s : Shared} {a : Addr} {xs : List V} (I : Inv X pins σ H s) (h : RdK X.K H a xs) :
  xs.length ≤ sizeLine ∧ ∃ (its : List Value) (n : Nat), Vals xs its ∧ xs.length = its.length ∧ s.heap.get? a = some { cls := .type "list", data := .seq its.toArray n } := by
 rcases h with h | ⟨its, n, hk, hz, r⟩
 ·obtain ⟨z, its, n, r, e⟩ := h.ok I.hok
  exact ⟨z, its, n, r, r.length, e⟩
 ·have e := r.length
  have e' := e;simp only [Array.length_toList] at e';exact ⟨by lia, its.toList, n, r, e, by simpa using I.kIn a _ hk⟩
end L3
namespace L3
open PySem L2
inductive OD where
 | sh (d : PyData)
 | ol (xs : List OD)
 | ot (xs : List OD)
 | od (kvs : List (Key × PyData))
noncomputable def kD : Key → PyData
 | .inl i => .int i
 | .inr x => .str x
noncomputable def dD (kvs : List (Key × PyData)) : PyData := .dict (kvs.map fun p => (kD p.1, p.2))
mutual
noncomputable def OD.er : OD → PyData
 | .sh d => d
 | .ol xs => .list (OD.ers xs)
 | .ot xs => .tuple (OD.ers xs)
 | .od kvs => dD kvs
noncomputable def OD.ers : List OD → List PyData
 | [] => []
 | x :: xs => x.er :: OD.ers xs
end
theorem ka : ∀ xs : List OD, OD.ers xs = xs.map OD.er
 | [] => rfl
 | x :: xs => by rw [OD.ers, List.map_cons, ka xs]
theorem e7 (d : PyData) : (OD.sh d).er = d := by rw [OD.er]
theorem iU (xs : List OD) : (OD.ol xs).er = .list (xs.map OD.er) := by rw [OD.er, ka]
theorem wC (xs : List OD) : (OD.ot xs).er = .tuple (xs.map OD.er) := by rw [OD.er, ka]
theorem BO (kvs : List (Key × PyData)) : (OD.od kvs).er = dD kvs := by rw [OD.er]
theorem bK (ds : List PyData) : (ds.map OD.sh).map OD.er = ds := by
 rw [List.map_map];have : (OD.er ∘ OD.sh) = id := funext fun d => e7 d
 rw [this, List.map_id]
inductive R (α : Type) where
 | ok (a : α)
 | ex (c : Str)
 | bad
noncomputable def R.bind {α β : Type} (r : R α) (f : α → R β) : R β := match r with
 | .ok a => f a
 | .ex c => .ex c
 | .bad => .bad
theorem cE {α β : Type} (a : α) (f : α → R β) : (R.ok a).bind f = f a := rfl
noncomputable abbrev Env := List (Option OD)
noncomputable abbrev Fe := Env → R OD
noncomputable abbrev Fa := Env → R (List OD)
noncomputable abbrev Ft := Env → R Bool
noncomputable abbrev Fn := List PyData → R OD
inductive Out where
 | nx (ρ : Env)
 | rt (x : OD)
 | bk (ρ : Env)
 | ct (ρ : Env)
noncomputable abbrev Fs := Env → R Out
noncomputable abbrev Fi := Env → R (List PyData)
noncomputable abbrev Fg := OD → Env → R Env
noncomputable def BIG : Nat := 10000000
noncomputable def flat : PyData → Bool
 | .none => true
 | .bool _ => true
 | .int _ => true
 | .str _ => true
 | _ => false
noncomputable def ag (i : Nat) : Fe := fun ρ => match ρ[i]? with
 | some (some (.sh d)) => .ok (.sh d)
 | _ => .bad
noncomputable def eC (d : PyData) : Fe := fun _ => .ok (.sh d)
noncomputable def eOp (g : PyData → PyData → R OD) (a b : Fe) : Fe := fun ρ => (a ρ).bind fun x => (b ρ).bind fun y => g x.er y.er
noncomputable def eUn (g : PyData → R OD) (a : Fe) : Fe := fun ρ => (a ρ).bind fun x => g x.er
noncomputable def truth : PyData → R Bool
 | .bool b => .ok b
 | _ => .bad
noncomputable def ba (a : Fe) : Ft := fun ρ => (a ρ).bind fun x => truth x.er
noncomputable def kE (a b : Ft) : Ft := fun ρ => (a ρ).bind fun c => if c = true then b ρ else .ok false
noncomputable def j6 (a b : Ft) : Ft := fun ρ => (a ρ).bind fun c => if c = true then .ok true else b ρ
noncomputable def hG (a : Ft) : Ft := fun ρ => (a ρ).bind fun c => .ok (!c)
noncomputable def tM (a b : Fe) : Fe := fun ρ => (a ρ).bind fun x => (truth x.er).bind fun c => if c = true then b ρ else .ok (.sh (.bool false))
noncomputable def eOr (a b : Fe) : Fe := fun ρ => (a ρ).bind fun x => (truth x.er).bind fun c => if c = true then .ok (.sh (.bool true)) else b ρ
noncomputable def si (a : Fe) : Fe := fun ρ => (a ρ).bind fun x => (truth x.er).bind fun c => .ok (.sh (.bool (!c)))
noncomputable def eIf (t : Ft) (a b : Fe) : Fe := fun ρ => (t ρ).bind fun c => if c = true then a ρ else b ρ
noncomputable def av : Fa := fun _ => .ok []
noncomputable def af (a : Fe) (r : Fa) : Fa := fun ρ => (a ρ).bind fun x => (r ρ).bind fun xs => .ok (x :: xs)
noncomputable def shs : List OD → Option (List PyData)
 | [] => some []
 | .sh d :: r => match shs r with
  | some ds => some (d :: ds)
  | none => none
 | _ :: _ => none
noncomputable def mkT (xs : List OD) : OD := match shs xs with
 | some ds => .sh (.tuple ds)
 | none => .ot xs
noncomputable def fu (a : Fa) : Fe := fun ρ => (a ρ).bind fun xs => if xs.length ≤ BIG then .ok (mkT xs) else .bad
noncomputable def eSh (a : Fe) : Fe := fun ρ => (a ρ).bind fun x => .ok (.sh x.er)
noncomputable def eK (a : Fa) : Fe := fun ρ => (a ρ).bind fun xs => if xs.length ≤ BIG then .ok (.ol xs) else .bad
noncomputable def aK (f : Fn) (a : Fa) : Fe := fun ρ => (a ρ).bind fun xs => f (xs.map OD.er)
noncomputable def eB (g : List PyData → R OD) (a : Fa) : Fe := fun ρ => (a ρ).bind fun xs => g (xs.map OD.er)
noncomputable def erase (ρ : Env) : Env := ρ.map fun o => o.map fun x => OD.sh x.er
noncomputable def pC (a : Fe) : Fe := fun ρ => (a (erase ρ)).bind fun x => if flat x.er = true then .ok (.sh x.er) else .bad
noncomputable def nM (a : Fe) : Fe := fun ρ => (a (erase ρ)).bind fun x => match x with
 | .ol xs => if xs.all (fun y => flat y.er) = true then .ok (.ol (xs.map fun y => .sh y.er)) else .bad
 | _ => .bad
noncomputable def q8 (a : Ft) : Ft := fun ρ => a (erase ρ)
noncomputable abbrev Fo := Env → R (Option Int)
noncomputable def jU : Fo := fun _ => .ok none
noncomputable def gw (a : Fe) : Fo := fun ρ => (a ρ).bind fun x => match x.er with
 | .int i => .ok (some i)
 | _ => .bad
noncomputable def eSl (g : PyData → Option Int → Option Int → R OD) (a : Fe) (l h : Fo) : Fe := fun ρ => (a ρ).bind fun x => (l ρ).bind fun i => (h ρ).bind fun j => g x.er i j
noncomputable def gB (a : Fe) : Fi := fun ρ => (a ρ).bind fun x => match x.er with
 | .list ds => .ok ds
 | _ => .bad
noncomputable def iTp (a : Fe) : Fi := fun ρ => (a ρ).bind fun x => match x.er with
 | .tuple ds => .ok ds
 | _ => .bad
noncomputable def iq (lo : Int) (n : Nat) : List PyData := (List.range n).map fun k : Nat => PyData.int (lo + k)
noncomputable def aH (i : Int) : Bool := decide (-(2 ^ 62) ≤ i) && decide (i < 2 ^ 62)
noncomputable def iR1 (a : Fe) : Fi := fun ρ => (a ρ).bind fun x => match x.er with
 | .int j => if aH j = true then .ok (iq 0 j.toNat) else .bad
 | _ => .bad
noncomputable def iR2 (a b : Fe) : Fi := fun ρ => (a ρ).bind fun x => (b ρ).bind fun y => match x.er, y.er with
 | .int i, .int j => if (aH i && aH j) = true then .ok (iq i (j - i).toNat) else .bad
 | _, _ => .bad
noncomputable def fK (ds : List PyData) : List PyData := ds.zipIdx.map fun p => PyData.tuple [.int (p.2 : Nat), p.1]
noncomputable def jW (ds es : List PyData) : List PyData := (ds.zip es).map fun p => PyData.tuple [p.1, p.2]
noncomputable def iEn (a : Fe) : Fi := fun ρ => (a ρ).bind fun x => match x.er with
 | .list ds => .ok (fK ds)
 | _ => .bad
noncomputable def iZp (a b : Fe) : Fi := fun ρ => (a ρ).bind fun x => (b ρ).bind fun y => match x.er, y.er with
 | .list ds, .list es => .ok (jW ds es)
 | _, _ => .bad
noncomputable def gNm (i : Nat) : Fg := fun x ρ => .ok (ρ.set i (some x))
noncomputable abbrev Fgs := List OD → Env → R Env
noncomputable def fP : Fgs := fun xs ρ => match xs with
 | [] => .ok ρ
 | _ => .bad
noncomputable def bC (g : Fg) (r : Fgs) : Fgs := fun xs ρ => match xs with
 | x :: xs => (g x ρ).bind fun ρ' => r xs ρ'
 | [] => .bad
noncomputable def gTp (n : Nat) (r : Fgs) : Fg := fun x ρ => match x with
 | .ot xs => if xs.length = n then r xs ρ else .bad
 | .sh (.tuple ds) => if ds.length = n then r (ds.map OD.sh) ρ else .bad
 | _ => .bad
noncomputable def jq : Option (Option OD) → Option OD
 | some (some (.sh d)) => some (.sh d)
 | _ => none
noncomputable def sl3 (k : Nat) (outs : List Nat) (ρ : Env) : Env := List.replicate k none ++ outs.map fun i => jq ρ[i]?
noncomputable def l7 {α : Type} : R α → R α
 | .ok a => .ok a
 | _ => .bad
noncomputable def cw (g : Fg) (t : Ft) (el : Fe) (ρ0 : Env) : List PyData → List OD → R (List OD)
 | [], acc => .ok acc
 | d :: ds, acc => (l7 (g (.sh d) ρ0)).bind fun ρ => (l7 (t ρ)).bind fun b => if b = true then (l7 (el ρ)).bind fun y => if acc.length < BIG then cw g t el ρ0 ds (acc ++ [y]) else .bad else cw g t el ρ0 ds acc
noncomputable def dR (it : Fi) (g : Fg) (t : Ft) (el : Fe) (k : Nat) (outs : List Nat) : Fe := fun ρ => (it ρ).bind fun ds => (cw g t el (sl3 k outs ρ) ds []).bind fun xs => .ok (.ol xs)
noncomputable def e6 : Ft := fun _ => .ok true
noncomputable def sNx : Fs := fun ρ => .ok (.nx ρ)
noncomputable def aC (a b : Fs) : Fs := fun ρ => (a ρ).bind fun o => match o with
 | .nx ρ' => b ρ'
 | o => .ok o
noncomputable def rB (a : Fe) (g : Fg) : Fs := fun ρ => (a ρ).bind fun x => (g x ρ).bind fun ρ' => .ok (.nx ρ')
noncomputable def aQ (i : Nat) (a : Fe) : Fs := fun ρ => (a ρ).bind fun x => .ok (.nx (ρ.set i (some x)))
noncomputable def lY (a : Fe) : Fs := fun ρ => (a ρ).bind fun _ => .ok (.nx ρ)
noncomputable def dE (a : Fe) : Fs := fun ρ => (a ρ).bind fun x => .ok (.rt x)
noncomputable def Ag : Fs := fun _ => .ok (.rt (.sh .none))
noncomputable def fv (i : Nat) : Fs := fun ρ => match ρ[i]? with
 | some (some x) => .ok (.rt x)
 | _ => .bad
noncomputable def sIf (t : Ft) (a b : Fs) : Fs := fun ρ => (t ρ).bind fun c => if c = true then a ρ else b ρ
noncomputable def sBk : Fs := fun ρ => .ok (.bk ρ)
noncomputable def sCt : Fs := fun ρ => .ok (.ct ρ)
noncomputable def zh : Fs := fun _ => .bad
noncomputable def t7 (i : Nat) (ρ : Env) : Env := match ρ[i]? with
 | some (some x) => ρ.set i (some (.sh x.er))
 | _ => ρ
noncomputable def jx (i : Nat) (a : Fs) : Fs := fun ρ => a (t7 i ρ)
noncomputable def qS (i : Nat) (g : PyData → PyData → R OD) (a : Fe) : Fs := fun ρ => match ρ[i]? with
 | some (some (.sh d)) => (a ρ).bind fun y => (g d y.er).bind fun z => .ok (.nx (ρ.set i (some z)))
 | _ => .bad
noncomputable def gR (i : Nat) (a : Fe) : Fs := fun ρ => match ρ[i]? with
 | some (some (.ol xs)) => (a ρ).bind fun y => if xs.length < BIG then .ok (.nx (ρ.set i (some (.ol (xs ++ [y]))))) else .bad
 | _ => .bad
noncomputable def BH (i : Nat) : Fs := fun ρ => match ρ[i]? with
 | some (some (.ol xs)) => .ok (.nx (ρ.set i (some (.ol xs.reverse))))
 | _ => .bad
noncomputable def z_ (i : Nat) : Fs := fun ρ => match ρ[i]? with
 | some (some (.ol xs)) => .ok (.nx (ρ.set i (some (.ol []))))
 | _ => .bad
noncomputable def qO (i : Nat) (g : Fg) : Fs := fun ρ => match ρ[i]? with
 | some (some (.ol xs)) => match xs.getLast? with
  | some (.sh d) => (g (.sh d) (ρ.set i (some (.ol xs.dropLast)))).bind fun ρ' => .ok (.nx ρ')
  | _ => .bad
 | _ => .bad
noncomputable def CI (i : Nat) (a : Fe) : Fs := fun ρ => match ρ[i]? with
 | some (some (.ol xs)) => (a ρ).bind fun y => match y with
  | .ol ys => if xs.length + ys.length ≤ BIG then .ok (.nx (ρ.set i (some (.ol (xs ++ ys))))) else .bad
  | _ => .bad
 | _ => .bad
noncomputable def lz (i : Nat) (k : Fe) (a : Fe) : Fs := fun ρ => match ρ[i]? with
 | some (some (.ol xs)) => (a ρ).bind fun y => (k ρ).bind fun z => match z.er with
  | .int q => match ixN xs.length q with
   | some j => .ok (.nx (ρ.set i (some (.ol (xs.set j y)))))
   | none => .bad
  | _ => .bad
 | _ => .bad
noncomputable def comps : OD → Option (Bool × List OD)
 | .ol xs => some (true, xs)
 | .ot xs => some (false, xs)
 | _ => none
noncomputable def wrap (l : Bool) (xs : List OD) : OD := if l = true then .ol xs else .ot xs
noncomputable def b6 (g : Fg) (b : Fs) : List PyData → Env → R Out
 | [], ρ => .ok (.nx ρ)
 | d :: ds, ρ => (g (.sh d) ρ).bind fun ρ1 => (b ρ1).bind fun o => match o with
  | .nx ρ2 => b6 g b ds ρ2
  | .ct ρ2 => b6 g b ds ρ2
  | .bk ρ2 => .ok (.nx ρ2)
  | .rt x => .ok (.rt x)
noncomputable def eM (it : Fi) (g : Fg) (b : Fs) : Fs := fun ρ => (it ρ).bind fun ds => b6 g b ds ρ
noncomputable def dt (t : Ft) (b : Fs) : Nat → Env → R Out
 | 0, _ => .bad
 | n + 1, ρ => (t ρ).bind fun c => if c = true then (b ρ).bind fun o => match o with
  | .nx ρ2 => dt t b n ρ2
  | .ct ρ2 => dt t b n ρ2
  | .bk ρ2 => .ok (.nx ρ2)
  | .rt x => .ok (.rt x) else .ok (.nx ρ)
open Classical in
noncomputable def eR (t : Ft) (b : Fs) : Fs := fun ρ => if h : ∃ n, dt t b n ρ ≠ .bad then dt t b h.choose ρ else .bad
noncomputable def jF (n : Nat) (ds : List PyData) : Env := (ds.map fun d => some (OD.sh d)) ++ List.replicate (n - ds.length) none
noncomputable def cI (np n : Nat) (b : Fs) : Fn := fun ds => if ds.length = np then (b (jF n ds)).bind fun o => match o with
 | .rt x => .ok x
 | .nx _ => .ok (.sh .none)
 | _ => .bad else .bad
end L3
namespace L3
open PySem L2
mutual
inductive Rep (K : PySem.W.Frag) (H : Hp) : V → PyData → Prop
 | non : Rep K H .non .none
 | bl (b : Bool) : Rep K H (.bl b) (.bool b)
 | int (i : Int) : Rep K H (.int i) (.int i)
 | str (x : Str) : Rep K H (.str x) (.str x)
 | lst {a : Addr} {xs : List V} {ds : List PyData} : RdK K H a xs → RepAll K H xs ds → Rep K H (.ref a) (.list ds)
 | tup {a : Addr} {xs : List V} {ds : List PyData} : H a = some (.tup xs) → RepAll K H xs ds → Rep K H (.ref a) (.tuple ds)
 | dct {a : Addr} {kvs : List (Key × V)} {ds : List (Key × PyData)} : H a = some (.dK kvs) → kvs.map (·.1) = ds.map (·.1) → RepAll K H (kvs.map (·.2)) (ds.map (·.2)) → Rep K H (.ref a) (dD ds)
inductive RepAll (K : PySem.W.Frag) (H : Hp) : List V → List PyData → Prop
 | nil : RepAll K H [] []
 | cons {v : V} {vs : List V} {d : PyData} {ds : List PyData} : Rep K H v d → RepAll K H vs ds → RepAll K H (v :: vs) (d :: ds)
end
mutual
theorem Rep.same {K : PySem.W.Frag} {H H' : Hp} (e : aI H H') {v : V} {d : PyData} : Rep K H v d → Rep K H' v d
 | .non => .non
 | .bl b => .bl b
 | .int i => .int i
 | .str x => .str x
 | .lst h r => .lst (h.same e) (RepAll.same e r)
 | .tup h r => .tup (e _ _ h) (RepAll.same e r)
 | .dct h k r => .dct (e _ _ h) k (RepAll.same e r)
theorem RepAll.same {K : PySem.W.Frag} {H H' : Hp} (e : aI H H') {vs : List V} {ds : List PyData} : RepAll K H vs ds → RepAll K H' vs ds
 | .nil => .nil
 | .cons h r => .cons (Rep.same e h) (RepAll.same e r)
end
mutual
inductive Own (K : PySem.W.Frag) (F H : Hp) : V → OD → List Addr → Prop
 | sh {v : V} {d : PyData} : Rep K F v d → Own K F H v (.sh d) []
 | ol {a : Addr} {vs : List V} {xs : List OD} {f : List Addr} : H a = some (.lst vs) → OwnL K F H vs xs f → Own K F H (.ref a) (.ol xs) (a :: f)
 | ot {a : Addr} {vs : List V} {xs : List OD} {f : List Addr} : H a = some (.tup vs) → OwnL K F H vs xs f → Own K F H (.ref a) (.ot xs) (a :: f)
 | od {a : Addr} {kvs : List (Key × V)} {ds : List (Key × PyData)} : H a = some (.dK kvs) → kvs.map (·.1) = ds.map (·.1) → RepAll K F (kvs.map (·.2)) (ds.map (·.2)) → Own K F H (.ref a) (.od ds) [a]
inductive OwnL (K : PySem.W.Frag) (F H : Hp) : List V → List OD → List Addr → Prop
 | nil : OwnL K F H [] [] []
 | cons {v : V} {x : OD} {f : List Addr} {vs : List V} {xs : List OD} {g : List Addr} : Own K F H v x f → OwnL K F H vs xs g → OwnL K F H (v :: vs) (x :: xs) (f ++ g)
end
section
variable {K : PySem.W.Frag} {F H F' H' : Hp}
mutual
theorem Own.mono (e : aI F F') {v : V} {x : OD} {f : List Addr} : (∀ a ∈ f, ∀ o, H a = some o → H' a = some o) → Own K F H v x f → Own K F' H' v x f
 | _, .sh r => .sh (r.same e)
 | k, .ol h r => .ol (k _ List.mem_cons_self _ h) (OwnL.mono e (fun a m => k a (List.mem_cons_of_mem _ m)) r)
 | k, .ot h r => .ot (k _ List.mem_cons_self _ h) (OwnL.mono e (fun a m => k a (List.mem_cons_of_mem _ m)) r)
 | k, .od h q r => .od (k _ List.mem_cons_self _ h) q (RepAll.same e r)
theorem OwnL.mono (e : aI F F') {v : List V} {x : List OD} {f : List Addr} : (∀ a ∈ f, ∀ o, H a = some o → H' a = some o) → OwnL K F H v x f → OwnL K F' H' v x f
 | _, .nil => .nil
 | k, .cons h r => .cons (Own.mono e (fun a m => k a (List.mem_append_left _ m)) h) (OwnL.mono e (fun a m => k a (List.mem_append_right _ m)) r)
end
mutual
theorem Own.dom {v : V} {x : OD} {f : List Addr} : Own K F H v x f → ∀ a ∈ f, ∃ o, H a = some o
 | .sh _, a, m => by cases m
 | .ol h r, a, m => by
  rcases List.mem_cons.mp m with rfl | m
  ·exact ⟨_, h⟩
  ·exact OwnL.dom r a m
 | .ot h r, a, m => by
  rcases List.mem_cons.mp m with rfl | m
  ·exact ⟨_, h⟩
  ·exact OwnL.dom r a m
 | .od h q r, a, m => by
  rcases List.mem_cons.mp m with rfl | m
  ·exact ⟨_, h⟩
  ·cases m
theorem OwnL.dom {v : List V} {x : List OD} {f : List Addr} : OwnL K F H v x f → ∀ a ∈ f, ∃ o, H a = some o
 | .nil, a, m => by cases m
 | .cons h r, a, m => by
  rcases List.mem_append.mp m with m | m
  ·exact Own.dom h a m
  ·exact OwnL.dom r a m
end
mutual
theorem Own.frz (e : aI F F') {v : V} {x : OD} {f : List Addr} : (∀ a ∈ f, ∀ o, H a = some o → F' a = some o) → Own K F H v x f → Rep K F' v x.er
 | _, .sh r => by rw [e7]; exact r.same e
 | k, .ol h r => by rw [OD.er]; exact .lst (RdK.of (k _ List.mem_cons_self _ h)) (OwnL.frz e (fun a m => k a (List.mem_cons_of_mem _ m)) r)
 | k, .ot h r => by rw [OD.er]; exact .tup (k _ List.mem_cons_self _ h) (OwnL.frz e (fun a m => k a (List.mem_cons_of_mem _ m)) r)
 | k, .od h q r => by rw [OD.er]; exact .dct (k _ List.mem_cons_self _ h) q (r.same e)
theorem OwnL.frz (e : aI F F') {v : List V} {x : List OD} {f : List Addr} : (∀ a ∈ f, ∀ o, H a = some o → F' a = some o) → OwnL K F H v x f → RepAll K F' v (OD.ers x)
 | _, .nil => by rw [OD.ers]; exact .nil
 | k, .cons h r => by rw [OD.ers]; exact .cons (Own.frz e (fun a m => k a (List.mem_append_left _ m)) h) (OwnL.frz e (fun a m => k a (List.mem_append_right _ m)) r)
end
theorem OwnL.len {v : List V} {x : List OD} {f : List Addr} (o : OwnL K F H v x f) : v.length = x.length := by
 induction x generalizing v f with
 | nil => cases o; rfl
 | cons a r ih =>
  cases o with
  | cons h t => exact congrArg (· + 1) (ih t)
theorem OwnL.app {v w : List V} {x y : List OD} {f g : List Addr} (o : OwnL K F H v x f) (q : OwnL K F H w y g) : OwnL K F H (v ++ w) (x ++ y) (f ++ g) := by
 induction x generalizing v f with
 | nil => cases o; exact q
 | cons a r ih =>
  cases o with
  | cons h t =>
   rw [List.cons_append, List.cons_append, List.append_assoc];exact .cons h (ih t)
theorem OwnL.shs : ∀ {v : List V} {ds : List PyData}, RepAll K F v ds → OwnL K F H v (ds.map OD.sh) []
 | _, _, .nil => .nil
 | _, _, .cons h r => .cons (f := []) (.sh h) (OwnL.shs r)
theorem RepAll.len : ∀ {v : List V} {ds : List PyData}, RepAll K F v ds → v.length = ds.length
 | _, _, .nil => rfl
 | _, _, .cons _ r => by rw [List.length_cons, List.length_cons, RepAll.len r]
theorem RepAll.get : ∀ {v : List V} {ds : List PyData} {i : Nat} {d : PyData}, RepAll K F v ds → ds[i]? = some d → ∃ x, v[i]? = some x ∧ Rep K F x d
 | _, _, _, _, .nil, e => by simp at e
 | _, _, 0, _, .cons h _, e => by
  simp at e
  subst e;exact ⟨_, rfl, h⟩
 | _, _, i + 1, _, .cons _ r, e => by
  obtain ⟨x, h1, h2⟩ := RepAll.get (i := i) r (by simpa using e)
  exact ⟨x, by simpa using h1, h2⟩
theorem RepAll.app : ∀ {v w : List V} {ds es : List PyData}, RepAll K F v ds → RepAll K F w es → RepAll K F (v ++ w) (ds ++ es)
 | _, _, _, _, .nil, q => q
 | _, _, _, _, .cons h r, q => .cons h (RepAll.app r q)
theorem RepAll.take : ∀ {v : List V} {ds : List PyData} (n : Nat), RepAll K F v ds → RepAll K F (v.take n) (ds.take n)
 | _, _, 0, _ => by rw [List.take_zero, List.take_zero]; exact .nil
 | _, _, _ + 1, .nil => .nil
 | _, _, n + 1, .cons h r => .cons h (RepAll.take n r)
theorem RepAll.drop : ∀ {v : List V} {ds : List PyData} (n : Nat), RepAll K F v ds → RepAll K F (v.drop n) (ds.drop n)
 | _, _, 0, r => r
 | _, _, _ + 1, .nil => .nil
 | _, _, n + 1, .cons h r => RepAll.drop n r
theorem RepAll.toInts : ∀ {v : List V} {ns : List Int}, RepAll K F v (ns.map PyData.int) → v = ns.map V.int
 | _, [], .nil => rfl
 | _, n :: ns, .cons h r => by
  cases h;rw [RepAll.toInts r];rfl
theorem RepAll.ofInts : ∀ (ns : List Int), RepAll K F (ns.map V.int) (ns.map PyData.int)
 | [] => .nil
 | n :: ns => .cons (.int n) (RepAll.ofInts ns)
end
structure Ext (F H F' H' : Hp) : Prop where
 ff : aI F F'
 hh : aI H H'
 fh : aI F' H'
 nw : ∀ a, H a ≠ none → F a = none → F' a = none
theorem b7 {α : Type} {o : Option α} {x : α} (h : o = some x) : o ≠ none := by
 rw [h];exact Option.some_ne_none x
theorem _root_.L2.aI.dom {H H' : Hp} (e : aI H H') {a : Addr} (h : H a ≠ none) : H' a ≠ none := by
 cases q : H a with
 | none => exact absurd q h
 | some o => exact b7 (e a o q)
section
variable {F H F1 H1 F2 H2 : Hp}
theorem Ext.refl (h : aI F H) : Ext F H F H := ⟨aI.refl _, aI.refl _, h, fun _ _ z => z⟩
theorem Ext.trans (a : Ext F H F1 H1) (b : Ext F1 H1 F2 H2) : Ext F H F2 H2 := ⟨a.ff.trans b.ff, a.hh.trans b.hh, b.fh, fun x h n => b.nw x (a.hh.dom h) (a.nw x h n)⟩
theorem Ext.alloc {p : Addr} {o : HO} (h : aI F H) (hp : H p = none) : Ext F H F (upd H p o) :=
 ⟨aI.refl _, (aI.refl H).upd hp, (aI.upd h (h.free hp)), fun _ _ z => z⟩
theorem Ext.allocF {p : Addr} {o : HO} (h : aI F H) (hp : H p = none) : Ext F H (upd F p o) (upd H p o) := by
 refine ⟨(aI.refl F).upd (h.free hp), (aI.refl H).upd hp, fun b u q => ?_, fun a ha n => ?_⟩
 ·by_cases e : b = p
  ·subst e
   rw [bL] at q ⊢;exact q
  ·rw [aM e] at q ⊢
   exact h b u q
 ·have e : a ≠ p := by
   rintro rfl;exact ha hp
  rw [aM e];exact n
end
structure Res (K : PySem.W.Frag) (F H : Hp) (v : V) (x : OD) (f : List Addr) : Prop where
 own : Own K F H v x f
 nd : f.Nodup
 fr : ∀ a ∈ f, F a = none
structure ResL (K : PySem.W.Frag) (F H : Hp) (v : List V) (x : List OD) (f : List Addr) : Prop where
 own : OwnL K F H v x f
 nd : f.Nodup
 fr : ∀ a ∈ f, F a = none
open Classical in
noncomputable def iF (F H : Hp) (f : List Addr) : Hp := fun a => if a ∈ f then H a else F a
theorem jc {F H : Hp} {f : List Addr} {a : Addr} (h : a ∈ f) : iF F H f a = H a := by unfold iF; rw [if_pos h]
theorem fV {F H : Hp} {f : List Addr} {a : Addr} (h : a ∉ f) : iF F H f a = F a := by unfold iF; rw [if_neg h]
section
variable {K : PySem.W.Frag} {F H F' H' F1 H1 : Hp} {v : V} {x : OD} {f : List Addr} {vs : List V} {xs : List OD}
theorem fE (n : ∀ a ∈ f, F a = none) : aI F (iF F H f) := fun a o q => by
 rw [fV]
 ·exact q
 ·intro m
  rw [n a m] at q;cases q
theorem my (h : aI F H) : aI (iF F H f) H := fun a o q => by
 by_cases m : a ∈ f
 ·rw [jc m] at q
  exact q
 ·rw [fV m] at q
  exact h a o q
theorem Res.ext (r : Res K F H v x f) (e : Ext F H F' H') : Res K F' H' v x f :=
 ⟨r.own.mono e.ff fun a _ o q => e.hh a o q, r.nd, fun a m => e.nw a (let ⟨_, q⟩ := r.own.dom a m; b7 q) (r.fr a m)⟩
theorem ResL.ext (r : ResL K F H vs xs f) (e : Ext F H F' H') : ResL K F' H' vs xs f :=
 ⟨r.own.mono e.ff fun a _ o q => e.hh a o q, r.nd, fun a m => e.nw a (let ⟨_, q⟩ := r.own.dom a m; b7 q) (r.fr a m)⟩
theorem qo (e : Ext F H F1 H1) (n : ∀ a ∈ f, F1 a = none) (w : ∀ a ∈ f, H a = none) : Ext F H (iF F1 H1 f) H1 :=
 ⟨e.ff.trans (fE n), e.hh, my e.fh, fun a h z => by
  have m : a ∉ f := fun m => h (w a m)
  rw [fV m];exact e.nw a h z⟩
theorem Res.frz (e : Ext F H F1 H1) (r : Res K F1 H1 v x f) (w : ∀ a ∈ f, H a = none) : ∃ G, Ext F H G H1 ∧ Rep K G v x.er :=
 ⟨iF F1 H1 f, qo e r.fr w, r.own.frz (fE r.fr) fun a m o q => by rw [jc m]; exact q⟩
theorem ResL.frz (e : Ext F H F1 H1) (r : ResL K F1 H1 vs xs f) (w : ∀ a ∈ f, H a = none) : ∃ G, Ext F H G H1 ∧ RepAll K G vs (xs.map OD.er) :=
 ⟨iF F1 H1 f, qo e r.fr w, by rw [← ka]; exact r.own.frz (fE r.fr) fun a m o q => by rw [jc m]; exact q⟩
theorem Res.sh {d : PyData} (r : Rep K F v d) : Res K F H v (.sh d) [] := ⟨.sh r, List.nodup_nil, fun _ m => by cases m⟩
theorem ResL.nil : ResL K F H [] [] [] := ⟨.nil, List.nodup_nil, fun _ m => by cases m⟩
theorem ResL.cons {f1 : List Addr} (r : Res K F H v x f1) (q : ResL K F H vs xs f) (d : ∀ a ∈ f1, a ∉ f) : ResL K F H (v :: vs) (x :: xs) (f1 ++ f) :=
 ⟨.cons r.own q.own, List.nodup_append.mpr ⟨r.nd, q.nd, fun a m b n e => d a m (e ▸ n)⟩, fun a m => (List.mem_append.mp m).elim (r.fr a) (q.fr a)⟩
end
inductive OwnS (K : PySem.W.Frag) (F H : Hp) : St → Env → List Addr → Prop
 | nil : OwnS K F H [] [] []
 | no {v : Option V} {σ : St} {ρ : Env} {g : List Addr} : OwnS K F H σ ρ g → OwnS K F H (v :: σ) (none :: ρ) g
 | yes {v : V} {x : OD} {f : List Addr} {σ : St} {ρ : Env} {g : List Addr} : Own K F H v x f → OwnS K F H σ ρ g → OwnS K F H (some v :: σ) (some x :: ρ) (f ++ g)
section
variable {K : PySem.W.Frag} {F H F' H' : Hp}
theorem OwnS.mono (e : aI F F') {σ : St} {ρ : Env} {g : List Addr} (k : ∀ a ∈ g, ∀ o, H a = some o → H' a = some o) (S : OwnS K F H σ ρ g) : OwnS K F' H' σ ρ g := by
 induction S with
 | nil => exact .nil
 | no r ih => exact .no (ih k)
 | yes h r ih => exact .yes (h.mono e fun a m => k a (List.mem_append_left _ m)) (ih fun a m => k a (List.mem_append_right _ m))
theorem OwnS.dom {σ : St} {ρ : Env} {g : List Addr} (S : OwnS K F H σ ρ g) : ∀ a ∈ g, ∃ o, H a = some o := by
 induction S with
 | nil => exact fun a m => by cases m
 | no r ih => exact ih
 | yes h r ih => exact fun a m => (List.mem_append.mp m).elim (h.dom a) (ih a)
theorem OwnS.at {σ : St} {ρ : Env} {g : List Addr} (S : OwnS K F H σ ρ g) : ∀ {i : Nat} {x : OD}, ρ[i]? = some (some x) →
  ∃ v f g1 g2, σ[i]? = some (some v) ∧ Own K F H v x f ∧ g = g1 ++ (f ++ g2) ∧ ∀ (F' H' : Hp), aI F F' → (∀ a ∈ g1 ++ g2, ∀ o, H a = some o → H' a = some o) → ∀ v' x' f', Own K F' H' v' x' f' → OwnS K F' H' (σ.set i (some v')) (ρ.set i (some x')) (g1 ++ (f' ++ g2)) := by
 induction S with
 | nil => intro i x e; simp at e
 | no r ih =>
  intro i x e
  cases i with
  | zero => simp at e
  | succ i =>
   obtain ⟨v, f, g1, g2, h1, h2, h3, h4⟩ := ih (i := i) (by simpa using e)
   exact ⟨v, f, g1, g2, by simpa using h1, h2, h3, fun F' H' s k v' x' f' o => .no (h4 F' H' s k v' x' f' o)⟩
 | @yes v0 x0 f0 σ0 ρ0 g0 h r ih =>
  intro i x e
  cases i with
  | zero =>
   simp at e
   subst e
   exact ⟨_, f0, [], g0, rfl, h, rfl, fun F' H' s k v' x' f' o => OwnS.yes (f := f') (g := g0) o (r.mono s k)⟩
  | succ i =>
   obtain ⟨v, f, g1, g2, h1, h2, h3, h4⟩ := ih (i := i) (by simpa using e)
   refine ⟨v, f, f0 ++ g1, g2, by simpa using h1, h2, by rw [h3, List.append_assoc], fun F' H' s k v' x' f' o => ?_⟩
   rw [List.append_assoc]
   exact .yes (h.mono s fun a m => k a (List.mem_append_left _ (List.mem_append_left _ m))) (h4 F' H' s (fun a m => k a (by simp at m ⊢; rcases m with m | m <;> simp [m])) v' x' f' o)
theorem OwnS.put {σ : St} {ρ : Env} {g : List Addr} (S : OwnS K F H σ ρ g) : ∀ {i : Nat}, i < ρ.length →
  ∃ f g1 g2, g = g1 ++ (f ++ g2) ∧ ∀ (F' H' : Hp), aI F F' → (∀ a ∈ g1 ++ g2, ∀ o, H a = some o → H' a = some o) → ∀ v' x' f', Own K F' H' v' x' f' → OwnS K F' H' (σ.set i (some v')) (ρ.set i (some x')) (g1 ++ (f' ++ g2)) := by
 induction S with
 | nil => intro i e; simp at e
 | @no v0 σ0 ρ0 g0 r ih =>
  intro i e
  cases i with
  | zero => exact ⟨[], [], g0, rfl, fun F' H' s k v' x' f' o => OwnS.yes (f := f') (g := g0) o (r.mono s k)⟩
  | succ i =>
   obtain ⟨f, g1, g2, h3, h4⟩ := ih (i := i) (by simpa using e)
   exact ⟨f, g1, g2, h3, fun F' H' s k v' x' f' o => .no (h4 F' H' s k v' x' f' o)⟩
 | @yes v0 x0 f0 σ0 ρ0 g0 h r ih =>
  intro i e
  cases i with
  | zero => exact ⟨f0, [], g0, rfl, fun F' H' s k v' x' f' o => OwnS.yes (f := f') (g := g0) o (r.mono s k)⟩
  | succ i =>
   obtain ⟨f, g1, g2, h3, h4⟩ := ih (i := i) (by simpa using e)
   refine ⟨f, f0 ++ g1, g2, by rw [h3, List.append_assoc], fun F' H' s k v' x' f' o => ?_⟩
   rw [List.append_assoc]
   exact .yes (h.mono s fun a m => k a (List.mem_append_left _ (List.mem_append_left _ m))) (h4 F' H' s (fun a m => k a (by simp at m ⊢; rcases m with m | m <;> simp [m])) v' x' f' o)
theorem OwnS.erase (e : aI F H) {σ : St} {ρ : Env} {g : List Addr} (S : OwnS K F H σ ρ g) : OwnS K H H σ (L3.erase ρ) [] := by
 induction S with
 | nil => exact .nil
 | no r ih => exact .no ih
 | yes h r ih => exact .yes (f := []) (.sh (h.frz e fun _ _ _ q => q)) ih
theorem OwnS.len {σ : St} {ρ : Env} {g : List Addr} (S : OwnS K F H σ ρ g) : σ.length = ρ.length := by
 induction S with
 | nil => rfl
 | no r ih => exact congrArg (· + 1) ih
 | yes h r ih => exact congrArg (· + 1) ih
end
structure Stt (K : PySem.W.Frag) (n : Nat) (F H : Hp) (σ : St) (ρ : Env) (fp : List Addr) : Prop where
 same : aI F H
 own : OwnS K F H σ ρ fp
 nd : fp.Nodup
 fr : ∀ a ∈ fp, F a = none
 len : ρ.length = n
structure Stp (F H : Hp) (fp : List Addr) (F' H' : Hp) (fp' : List Addr) : Prop where
 ff : aI F F'
 keep : ∀ a o, H a = some o → a ∉ fp → H' a = some o
 new : ∀ a ∈ fp', a ∈ fp ∨ H a = none
 nw : ∀ a, H a ≠ none → a ∉ fp → F a = none → F' a = none
section
variable {K : PySem.W.Frag} {n : Nat} {F H F' H' F1 H1 F2 H2 : Hp} {σ : St} {ρ : Env} {fp fp1 fp2 : List Addr}
theorem Stt.ext (s : Stt K n F H σ ρ fp) (e : Ext F H F' H') : Stt K n F' H' σ ρ fp :=
 ⟨e.fh, s.own.mono e.ff fun a _ o q => e.hh a o q, s.nd, fun a m => e.nw a (let ⟨_, q⟩ := s.own.dom a m; b7 q) (s.fr a m), s.len⟩
theorem Stt.erase (s : Stt K n F H σ ρ fp) : Stt K n H H σ (L3.erase ρ) [] :=
 ⟨aI.refl _, s.own.erase s.same, List.nodup_nil, (fun _ m => by cases m), (by unfold L3.erase; rw [List.length_map]; exact s.len)⟩
theorem Stp.refl : Stp F H fp F H fp := ⟨aI.refl _, fun _ _ h _ => h, fun _ m => .inl m, fun _ _ _ z => z⟩
theorem Ext.stp (e : Ext F H F' H') : Stp F H fp F' H' fp := ⟨e.ff, fun a o h _ => e.hh a o h, fun _ m => .inl m, fun a h _ z => e.nw a h z⟩
theorem Stp.out (s : Stp F H fp F1 H1 fp1) {a : Addr} (h : H a ≠ none) (m : a ∉ fp) : a ∉ fp1 := fun q => (s.new a q).elim m h
theorem Stp.trans (s : Stp F H fp F1 H1 fp1) (t : Stp F1 H1 fp1 F2 H2 fp2) : Stp F H fp F2 H2 fp2 where
 ff := s.ff.trans t.ff
 keep a o h m := t.keep a o (s.keep a o h m) (s.out (b7 h) m)
 new a m := (t.new a m).elim (s.new a) fun z => by
  by_cases q : a ∈ fp
  ·exact .inl q
  ·refine .inr ?_
   cases w : H a with
   | none => rfl
   | some o =>
    rw [s.keep a o w q] at z;cases z
 nw a h m z := t.nw a (by
  cases w : H a with
  | none => exact absurd w h
  | some o => exact b7 (s.keep a o w m)) (s.out h m) (s.nw a h m z)
theorem Stt.set (s : Stt K n F H σ ρ fp) {i : Nat} (hi : i < n) {v : V} {x : OD} {fx : List Addr} (r : Res K F H v x fx) (d : ∀ a ∈ fx, a ∉ fp) :
  ∃ fp', Stt K n F H (σ.set i (some v)) (ρ.set i (some x)) fp' ∧ ∀ a ∈ fp', a ∈ fp ∨ a ∈ fx := by
 obtain ⟨f, g1, g2, e, k⟩ := s.own.put (i := i) (by rw [s.len]; exact hi)
 subst e;have nd := s.nd;have sub : ∀ a ∈ g1 ++ (fx ++ g2), a ∈ g1 ++ (f ++ g2) ∨ a ∈ fx := fun a m => by
  simp only [List.mem_append] at m ⊢;rcases m with m | m | m
  ·exact .inl (.inl m)
  ·exact .inr m
  ·exact .inl (.inr (.inr m))
 refine ⟨g1 ++ (fx ++ g2), ⟨s.same, k F H (aI.refl _) (fun _ _ _ q => q) v x fx r.own, ?_, fun a m => (sub a m).elim (s.fr a) (r.fr a), by rw [List.length_set]; exact s.len⟩, sub⟩
 simp only [List.nodup_append, List.mem_append] at nd d ⊢;obtain ⟨n1, ⟨n2, n3, n4⟩, n5⟩ := nd;refine ⟨n1, ⟨r.nd, n3, fun a ha b hb e => d a ha (.inr (.inr (e ▸ hb)))⟩, fun a ha b hb e => ?_⟩
 rcases hb with hb | hb
 ·exact d b hb (.inl (e ▸ ha))
 ·exact n5 a ha b (.inr hb) e
end
end L3
namespace L3
open PySem L2
structure Mx where
 K : PySem.W.Frag
 mg : Str → Option Value
 E : XK
noncomputable def XOk (M : Mx) (c : Str) (H : Hp) (fp : List Addr) : Prop := ∃ cv, M.mg c = some cv ∧ ∀ od H', (∀ a o, H a = some o → a ∉ fp → H' a = some o) → M.E cv od H'
noncomputable def az (M : Mx) (H : Hp) (fp : List Addr) {α : Type} (P : α → Prop) : R α → Prop
 | .ok a => P a
 | .ex c => XOk M c H fp
 | .bad => False
noncomputable def OkE (M : Mx) (F H : Hp) (Q : VK) (x : OD) : Prop := ∀ v F' H' fx, Ext F H F' H' → Res M.K F' H' v x fx → (∀ a ∈ fx, H a = none) → Q v H'
noncomputable def OkL (M : Mx) (F H : Hp) (Q : List V → Hp → Prop) (x : List OD) : Prop := ∀ v F' H' fx, Ext F H F' H' → ResL M.K F' H' v x fx → (∀ a ∈ fx, H a = none) → Q v H'
noncomputable def OkH (F H : Hp) {α : Type} (Q : α → Hp → Prop) (x : α) : Prop := ∀ F' H', Ext F H F' H' → Q x H'
section
variable {M : Mx} {F H F1 H1 F2 H2 : Hp} {fp fp1 : List Addr} {α β : Type} {P P' : α → Prop} {r : R α}
theorem az.bind {P : β → Prop} {g : α → R β} (h : az M H fp P (r.bind g)) : az M H fp (fun a => az M H fp P (g a)) r := by
 cases r with
 | ok a => exact h
 | ex c => exact h
 | bad => exact h
theorem az.mono (h : az M H fp P r) (k : ∀ a, P a → P' a) : az M H fp P' r := by
 cases r with
 | ok a => exact k a h
 | ex c => exact h
 | bad => exact h
theorem XOk.stp (s : Stp F H fp F1 H1 fp1) {c : Str} (h : XOk M c H fp) : XOk M c H1 fp1 :=
 let ⟨cv, e, k⟩ := h
 ⟨cv, e, fun od H' q => k od H' fun a o z m => q a o (s.keep a o z m) (s.out (b7 z) m)⟩
theorem az.stp (s : Stp F H fp F1 H1 fp1) (h : az M H fp P r) : az M H1 fp1 P r := by
 cases r with
 | ok a => exact h
 | ex c => exact XOk.stp s h
 | bad => exact h
theorem az.ext (e : Ext F H F1 H1) (h : az M H fp P r) : az M H1 fp P r := h.stp e.stp
theorem az.nofp (h : az M H fp P r) : az M H [] P r := by
 cases r with
 | ok a => exact h
 | ex c =>
  obtain ⟨cv, e, k⟩ := h;exact ⟨cv, e, fun od H' q => k od H' fun a o z _ => q a o z (by simp)⟩
 | bad => exact h
theorem OkE.pre {Q : VK} {x : OD} (e : Ext F H F1 H1) (h : OkE M F H Q x) : OkE M F1 H1 Q x := fun v F' H' fx e' r w => h v F' H' fx (e.trans e') r fun a m => e.hh.free (w a m)
theorem OkH.pre {Q : α → Hp → Prop} {x : α} (e : Ext F H F1 H1) (h : OkH F H Q x) : OkH F1 H1 Q x := fun F' H' e' => h F' H' (e.trans e')
theorem OkE.val {Q : VK} {d : PyData} {v : V} (s : aI F H) (h : OkE M F H Q (.sh d)) (r : Rep M.K F v d) : Q v H := h v F H [] (Ext.refl s) (Res.sh r) fun _ m => by cases m
theorem OkE.lst {Q : VK} {xs : List OD} {vs : List V} {f : List Addr} {p : Addr} (s : aI F H) (h : OkE M F1 H1 Q (.ol xs)) (e : Ext F1 H1 F H) (r : ResL M.K F H vs xs f) (w : ∀ a ∈ f, H1 a = none) (hp : H p = none) : Q (.ref p) (upd H p (.lst vs)) := by
 have np : p ∉ f := fun m => by
  obtain ⟨o, q⟩ := r.own.dom p m;rw [hp] at q;cases q
 refine h (.ref p) F _ (p :: f) (e.trans (Ext.alloc s hp)) ⟨.ol bL (r.own.mono (aI.refl _) fun a m o q => ?_), List.nodup_cons.mpr ⟨np, r.nd⟩, fun a m => ?_⟩ fun a m => ?_
 ·rw [aM (aP q hp)]
  exact q
 ·rcases List.mem_cons.mp m with rfl | m
  ·exact s.free hp
  ·exact r.fr a m
 ·rcases List.mem_cons.mp m with rfl | m
  ·exact e.hh.free hp
  ·exact w a m
theorem OkE.tup {Q : VK} {xs : List OD} {vs : List V} {f : List Addr} {p : Addr} (s : aI F H) (h : OkE M F1 H1 Q (.ot xs)) (e : Ext F1 H1 F H) (r : ResL M.K F H vs xs f) (w : ∀ a ∈ f, H1 a = none) (hp : H p = none) : Q (.ref p) (upd H p (.tup vs)) := by
 have np : p ∉ f := fun m => by
  obtain ⟨o, q⟩ := r.own.dom p m;rw [hp] at q;cases q
 refine h (.ref p) F _ (p :: f) (e.trans (Ext.alloc s hp)) ⟨.ot bL (r.own.mono (aI.refl _) fun a m o q => ?_), List.nodup_cons.mpr ⟨np, r.nd⟩, fun a m => ?_⟩ fun a m => ?_
 ·rw [aM (aP q hp)]
  exact q
 ·rcases List.mem_cons.mp m with rfl | m
  ·exact s.free hp
  ·exact r.fr a m
 ·rcases List.mem_cons.mp m with rfl | m
  ·exact e.hh.free hp
  ·exact w a m
theorem OkE.lstD {Q : VK} {ds : List PyData} {vs : List V} {p : Addr} (s : aI F H) (h : OkE M F H Q (.ol (ds.map OD.sh))) (r : RepAll M.K F vs ds) (hp : H p = none) : Q (.ref p) (upd H p (.lst vs)) :=
 OkE.lst s h (Ext.refl s) ⟨OwnL.shs r, List.nodup_nil, fun _ m => by cases m⟩ (fun _ m => by cases m) hp
theorem OkE.tupF {Q : VK} {ds : List PyData} {vs : List V} {p : Addr} (s : aI F H) (h : OkE M F1 H1 Q (.sh (.tuple ds))) (e : Ext F1 H1 F H) (r : RepAll M.K F vs ds) (hp : H p = none) : Q (.ref p) (upd H p (.tup vs)) :=
 h (.ref p) (upd F p (.tup vs)) _ [] (e.trans (Ext.allocF s hp)) (Res.sh (.tup bL (r.same ((aI.refl F).upd (s.free hp))))) fun _ m => by cases m
theorem OwnL.of_shs {K : PySem.W.Frag} {vs : List V} {xs : List OD} {f : List Addr} {ds : List PyData} (o : OwnL K F H vs xs f) (e : L3.shs xs = some ds) : f = [] ∧ RepAll K F vs ds := by
 induction xs generalizing vs f ds with
 | nil =>
  cases o;unfold L3.shs at e;cases e;exact ⟨rfl, .nil⟩
 | cons a0 r0 ih0 =>
 cases o with
 | cons h0 r =>
  have ih := fun ds => ih0 (ds := ds) r
  cases h0 with
  | sh h =>
   unfold L3.shs at e;split at e
   ·rename_i es q
    cases e;obtain ⟨rfl, k⟩ := ih _ q;exact ⟨rfl, .cons h k⟩
   ·cases e
  | ol _ _ =>
   unfold L3.shs at e;cases e
  | ot _ _ =>
   unfold L3.shs at e;cases e
  | od _ _ _ =>
   unfold L3.shs at e;cases e
end
noncomputable def tD (M : Mx) (n : Nat) (f : Fe) : TE := fun σ H Q => ∃ F ρ fp, Stt M.K n F H σ ρ fp ∧ az M H fp (OkE M F H Q) (f ρ)
noncomputable def tA (M : Mx) (n : Nat) (f : Fa) : TA := fun σ H Q => ∃ F ρ fp, Stt M.K n F H σ ρ fp ∧ az M H fp (OkL M F H Q) (f ρ)
noncomputable def tT (M : Mx) (n : Nat) (f : Ft) : TT := fun σ H Q => ∃ F ρ fp, Stt M.K n F H σ ρ fp ∧ az M H fp (OkH F H Q) (f ρ)
noncomputable def tO (M : Mx) (n : Nat) (f : Fo) : TO := fun σ H Q => ∃ F ρ fp, Stt M.K n F H σ ρ fp ∧ az M H fp (OkH F H Q) (f ρ)
noncomputable def Ok2 (M : Mx) (r : R2) (g : PyData → PyData → R OD) : Prop := ∀ (x y : V) (dx dy : PyData) (F H : Hp) (fp : List Addr) (Q : VK), aI F H → Rep M.K F x dx → Rep M.K F y dy → az M H fp (OkE M F H Q) (g dx dy) → r x y H Q
noncomputable def Ok1 (M : Mx) (r : V → Hp → VK → Prop) (g : PyData → R OD) : Prop := ∀ (x : V) (dx : PyData) (F H : Hp) (fp : List Addr) (Q : VK), aI F H → Rep M.K F x dx → az M H fp (OkE M F H Q) (g dx) → r x H Q
noncomputable def OkC (M : Mx) (r : List V → Hp → VK → Prop) (g : List PyData → R OD) : Prop := ∀ (x : List V) (dx : List PyData) (F H : Hp) (fp : List Addr) (Q : VK), aI F H → RepAll M.K F x dx → az M H fp (OkE M F H Q) (g dx) → r x H Q
noncomputable def OkS (M : Mx) (r : V → Option Int → Option Int → Hp → VK → Prop) (g : PyData → Option Int → Option Int → R OD) : Prop := ∀ (x : V) (i j : Option Int) (dx : PyData) (F H : Hp) (fp : List Addr) (Q : VK), aI F H → Rep M.K F x dx → az M H fp (OkE M F H Q) (g dx i j) → r x i j H Q
section
variable {M : Mx} {n : Nat} {σ : St} {H : Hp} {Q : VK} {QB : Bool → Hp → Prop} {fa fb : Fe} {ta tb : Ft}
theorem A6 {i : Nat} (h : tD M n (ag i) σ H Q) : gU i σ H Q := by
 obtain ⟨F, ρ, fp, S, p⟩ := h;unfold ag at p;split at p
 ·rename_i d e
  obtain ⟨v, f, g1, g2, h1, h2, h3, h4⟩ := S.own.at e;cases h2 with
  | sh r => exact ⟨v, h1, OkE.val S.same p r⟩
 ·exact p.elim
theorem d_c {v : V} {d : PyData} (hr : ∀ K F, Rep K F v d) (h : tD M n (eC d) σ H Q) : tC v σ H Q := by
 obtain ⟨F, ρ, fp, S, p⟩ := h;exact OkE.val S.same p (hr _ _)
theorem yP {r : R2} {g : PyData → PyData → R OD} (hg : Ok2 M r g) (h : tD M n (eOp g fa fb) σ H Q) : tOp r (tD M n fa) (tD M n fb) σ H Q := by
 obtain ⟨F, ρ, fp, S, p⟩ := h;refine ⟨F, ρ, fp, S, (az.bind p).mono fun x px v F1 H1 fx e1 r1 w1 => ?_⟩
 obtain ⟨G1, d1, k1⟩ := r1.frz e1 w1;refine ⟨G1, ρ, fp, S.ext d1, ((az.bind px).ext d1).mono fun y py v2 F2 H2 fy e2 r2 w2 => ?_⟩
 obtain ⟨G2, d2, k2⟩ := r2.frz e2 w2;exact hg v v2 x.er y.er G2 H2 fp Q d2.fh (k1.same d2.ff) k2 ((py.ext (d1.trans d2)).mono fun z hz => hz.pre (d1.trans d2))
theorem De {r : V → Hp → VK → Prop} {g : PyData → R OD} (hg : Ok1 M r g) (h : tD M n (eUn g fa) σ H Q) : tUn r (tD M n fa) σ H Q := by
 obtain ⟨F, ρ, fp, S, p⟩ := h;refine ⟨F, ρ, fp, S, (az.bind p).mono fun x px v F1 H1 fx e1 r1 w1 => ?_⟩
 obtain ⟨G1, d1, k1⟩ := r1.frz e1 w1;exact hg v x.er G1 H1 fp Q d1.fh k1 ((px.ext d1).mono fun z hz => hz.pre d1)
theorem kK {K : PySem.W.Frag} {F : Hp} {v : V} {d : PyData} {fp : List Addr} {P : Bool → Prop} (k : Rep K F v d) (p : az M H fp P (truth d)) : ∃ b, v = .bl b ∧ P b := by
 cases d with
 | bool b =>
  cases k;exact ⟨b, rfl, p⟩
 | none => exact p.elim
 | int _ => exact p.elim
 | str _ => exact p.elim
 | list _ => exact p.elim
 | tuple _ => exact p.elim
 | dict _ => exact p.elim
theorem sS (h : tT M n (ba fa) σ H QB) : wH (tD M n fa) σ H QB := by
 obtain ⟨F, ρ, fp, S, p⟩ := h;refine ⟨F, ρ, fp, S, (az.bind p).mono fun x px v F1 H1 fx e1 r1 w1 => ?_⟩
 obtain ⟨G1, d1, k1⟩ := r1.frz e1 w1;obtain ⟨b, rfl, q⟩ := kK k1 px;exact ⟨b, rfl, q G1 H1 d1⟩
theorem d_b (h : tT M n (ba fa) σ H QB) : tB (tD M n fa) σ H QB := sS h
theorem xj (h : tT M n (kE ta tb) σ H QB) : BW (tT M n ta) (tT M n tb) σ H QB := by
 obtain ⟨F, ρ, fp, S, p⟩ := h;refine ⟨F, ρ, fp, S, (az.bind p).mono fun c pc F1 H1 e1 => ?_⟩
 cases c with
 | true =>
  rw [if_pos rfl] at pc ⊢;exact ⟨F1, ρ, fp, S.ext e1, (pc.ext e1).mono fun b hb => hb.pre e1⟩
 | false =>
  rw [if_neg Bool.false_ne_true] at pc ⊢;exact pc F1 H1 e1
theorem AX (h : tT M n (j6 ta tb) σ H QB) : tOr (tT M n ta) (tT M n tb) σ H QB := by
 obtain ⟨F, ρ, fp, S, p⟩ := h;refine ⟨F, ρ, fp, S, (az.bind p).mono fun c pc F1 H1 e1 => ?_⟩
 cases c with
 | true =>
  rw [if_pos rfl] at pc ⊢;exact pc F1 H1 e1
 | false =>
  rw [if_neg Bool.false_ne_true] at pc ⊢;exact ⟨F1, ρ, fp, S.ext e1, (pc.ext e1).mono fun b hb => hb.pre e1⟩
theorem zT (h : tT M n (hG ta) σ H QB) : Cu (tT M n ta) σ H QB := by
 obtain ⟨F, ρ, fp, S, p⟩ := h;exact ⟨F, ρ, fp, S, (az.bind p).mono fun c pc F1 H1 e1 => pc F1 H1 e1⟩
theorem B5 (h : tD M n (tM fa fb) σ H Q) : wN (tD M n fa) (tD M n fb) σ H Q := by
 obtain ⟨F, ρ, fp, S, p⟩ := h;refine ⟨F, ρ, fp, S, (az.bind p).mono fun x px v F1 H1 fx e1 r1 w1 => ?_⟩
 obtain ⟨G1, d1, k1⟩ := r1.frz e1 w1;obtain ⟨b, rfl, q⟩ := kK k1 (az.bind px);refine ⟨b, rfl, ?_⟩;cases b with
 | true =>
  rw [if_pos rfl] at q ⊢;exact ⟨G1, ρ, fp, S.ext d1, (q.ext d1).mono fun z hz => hz.pre d1⟩
 | false =>
  rw [if_neg Bool.false_ne_true] at q ⊢;exact OkE.val d1.fh (OkE.pre d1 q) (.bl _)
theorem AJ (h : tD M n (si fa) σ H Q) : wA (tD M n fa) σ H Q := by
 obtain ⟨F, ρ, fp, S, p⟩ := h;refine ⟨F, ρ, fp, S, (az.bind p).mono fun x px v F1 H1 fx e1 r1 w1 => ?_⟩
 obtain ⟨G1, d1, k1⟩ := r1.frz e1 w1;obtain ⟨b, rfl, q⟩ := kK k1 (az.bind px);exact ⟨b, rfl, OkE.val d1.fh (OkE.pre d1 q) (.bl _)⟩
theorem qK (h : tD M n (eSh fa) σ H Q) : tD M n fa σ H Q := by
 obtain ⟨F, ρ, fp, S, p⟩ := h;refine ⟨F, ρ, fp, S, (az.bind p).mono fun x px v F1 H1 fx e1 r1 w1 => ?_⟩
 obtain ⟨G1, d1, k1⟩ := r1.frz e1 w1;exact OkE.val d1.fh (OkE.pre d1 px) k1
theorem nP {K : PySem.W.Frag} {F G : Hp} {v : V} {d : PyData} (h : flat d = true) (r : Rep K F v d) : Rep K G v d := by
 cases r with
 | non => exact .non
 | bl b => exact .bl b
 | int i => exact .int i
 | str x => exact .str x
 | lst _ _ => cases h
 | tup _ _ => cases h
 | dct _ _ _ => cases h
theorem CO (h : tD M n (pC fa) σ H Q) : tD M n fa σ H Q := by
 obtain ⟨F, ρ, fp, S, p⟩ := h;refine ⟨H, erase ρ, [], S.erase, (az.bind p).nofp.mono fun x px v F1 H1 fx e1 r1 w1 => ?_⟩
 by_cases hf : flat x.er = true
 ·rw [if_pos hf] at px
  obtain ⟨G1, d1, k1⟩ := r1.frz e1 w1;exact px v F H1 [] ⟨aI.refl _, d1.hh, S.same.trans d1.hh, fun _ _ z => z⟩ (Res.sh (nP hf k1)) fun _ m => by cases m
 ·rw [if_neg hf] at px
  exact px.elim
theorem yo (h : tT M n (q8 ta) σ H QB) : tT M n ta σ H QB := by
 obtain ⟨F, ρ, fp, S, p⟩ := h;refine ⟨H, erase ρ, [], S.erase, (show az M H fp _ (ta (erase ρ)) from p).nofp.mono fun b pb F1 H1 e1 => ?_⟩
 exact pb F H1 ⟨aI.refl _, e1.hh, S.same.trans e1.hh, fun _ _ z => z⟩
variable {QL : List V → Hp → Prop} {al : Fa}
theorem y_ (h : tA M n av σ H QL) : nS σ H QL := by
 obtain ⟨F, ρ, fp, S, p⟩ := h;exact p [] F H [] (Ext.refl S.same) ResL.nil fun _ m => by cases m
theorem vd (h : tA M n (af fa al) σ H QL) : g9 (tD M n fa) (tA M n al) σ H QL := by
 obtain ⟨F, ρ, fp, S, p⟩ := h;refine ⟨F, ρ, fp, S, (az.bind p).mono fun x px v F1 H1 fx e1 r1 w1 => ?_⟩
 refine ⟨F1, ρ, fp, S.ext e1, ((az.bind px).ext e1).mono fun xs pxs vs F2 H2 fxs e2 r2 w2 => ?_⟩
 refine pxs (v :: vs) F2 H2 (fx ++ fxs) (e1.trans e2) (ResL.cons (r1.ext e2) r2 fun a m q => ?_) fun a m => ?_
 ·obtain ⟨o, z⟩ := r1.own.dom a m
  rw [w2 a q] at z;cases z
 ·rcases List.mem_append.mp m with m | m
  ·exact w1 a m
  ·exact e1.hh.free (w2 a m)
theorem gN {k : Nat} (h : k ≤ BIG) : k ≤ sizeLine := Nat.le_trans h (by decide)
theorem oV {k : Nat} (h : k < BIG) : k < sizeLine := Nat.lt_of_lt_of_le h (by decide)
theorem Bw (h : tD M n (eK al) σ H Q) : BX (tA M n al) σ H Q := by
 obtain ⟨F, ρ, fp, S, p⟩ := h;refine ⟨F, ρ, fp, S, (az.bind p).mono fun xs px vs F1 H1 fx e1 r1 w1 => ?_⟩
 by_cases hl : xs.length ≤ BIG
 ·rw [if_pos hl] at px
  exact ⟨by rw [r1.own.len]; exact gN hl, fun a ha => OkE.lst e1.fh px e1 r1 w1 ha⟩
 ·rw [if_neg hl] at px
  exact px.elim
theorem Cz (h : tD M n (fu al) σ H Q) : uV (tA M n al) σ H Q := by
 obtain ⟨F, ρ, fp, S, p⟩ := h;refine ⟨F, ρ, fp, S, (az.bind p).mono fun xs px vs F1 H1 fx e1 r1 w1 => ?_⟩
 by_cases hl : xs.length ≤ BIG
 ·rw [if_pos hl] at px
  refine ⟨by rw [r1.own.len]; exact gN hl, fun a ha => ?_⟩
  unfold mkT at px;split at px
  ·rename_i ds q
   obtain ⟨_, k⟩ := OwnL.of_shs r1.own q;exact OkE.tupF e1.fh px e1 k ha
  ·exact OkE.tup e1.fh px e1 r1 w1 ha
 ·rw [if_neg hl] at px
  exact px.elim
noncomputable def sp3 (K : PySem.W.Frag) (mg : Str → Option Value) (f : Fn) : Sp := fun vs H Q E => ∃ F ds, aI F H ∧ RepAll K F vs ds ∧ az ⟨K, mg, E⟩ H [] (OkE ⟨K, mg, E⟩ F H Q) (f ds)
theorem yg {f : Fn} (h : tD M n (aK f al) σ H Q) : wV (sp3 M.K M.mg f) [] M.E (tA M n al) σ H Q := by
 obtain ⟨F, ρ, fp, S, p⟩ := h;refine ⟨F, ρ, fp, S, (az.bind p).mono fun xs px vs F1 H1 fx e1 r1 w1 => ?_⟩
 obtain ⟨G1, d1, k1⟩ := r1.frz e1 w1;rw [List.append_nil];exact ⟨G1, xs.map OD.er, d1.fh, k1, (px.ext d1).nofp.mono fun z hz => hz.pre d1⟩
theorem BP {r : List V → Hp → VK → Prop} {g : List PyData → R OD} (hg : OkC M r g) (h : tD M n (eB g al) σ H Q) : tCB r (tA M n al) σ H Q := by
 obtain ⟨F, ρ, fp, S, p⟩ := h;refine ⟨F, ρ, fp, S, (az.bind p).mono fun xs px vs F1 H1 fx e1 r1 w1 => ?_⟩
 obtain ⟨G1, d1, k1⟩ := r1.frz e1 w1;exact hg vs (xs.map OD.er) G1 H1 fp Q d1.fh k1 ((px.ext d1).mono fun z hz => hz.pre d1)
variable {QO : Option Int → Hp → Prop} {lo hi : Fo}
theorem vH (h : tO M n jU σ H QO) : p_ σ H QO := by
 obtain ⟨F, ρ, fp, S, p⟩ := h;exact p F H (Ext.refl S.same)
theorem uS (h : tO M n (gw fa) σ H QO) : wL (tD M n fa) σ H QO := by
 obtain ⟨F, ρ, fp, S, p⟩ := h;refine ⟨F, ρ, fp, S, (az.bind p).mono fun x px v F1 H1 fx e1 r1 w1 => ?_⟩
 obtain ⟨G1, d1, k1⟩ := r1.frz e1 w1;generalize x.er = d at px k1
 cases d with
 | int i =>
  cases k1;exact ⟨i, rfl, px G1 H1 d1⟩
 | none => exact px.elim
 | bool _ => exact px.elim
 | str _ => exact px.elim
 | list _ => exact px.elim
 | tuple _ => exact px.elim
 | dict _ => exact px.elim
theorem Dt {r : V → Option Int → Option Int → Hp → VK → Prop} {g : PyData → Option Int → Option Int → R OD} (hg : OkS M r g) (h : tD M n (eSl g fa lo hi) σ H Q) : tSl r (tD M n fa) (tO M n lo) (tO M n hi) σ H Q := by
 obtain ⟨F, ρ, fp, S, p⟩ := h;refine ⟨F, ρ, fp, S, (az.bind p).mono fun x px v F1 H1 fx e1 r1 w1 => ?_⟩
 obtain ⟨G1, d1, k1⟩ := r1.frz e1 w1;refine ⟨G1, ρ, fp, S.ext d1, ((az.bind px).ext d1).mono fun i pi F2 H2 e2 => ?_⟩
 refine ⟨F2, ρ, fp, (S.ext d1).ext e2, ((az.bind pi).ext (d1.trans e2)).mono fun j pj F3 H3 e3 => ?_⟩
 have e := (d1.trans e2).trans e3;exact hg v i j x.er F3 H3 fp Q e3.fh ((k1.same e2.ff).same e3.ff) ((pj.ext e).mono fun z hz => hz.pre e)
end
end L3
namespace L3
open PySem L2
noncomputable def fw (M : Mx) (n : Nat) (F H : Hp) (fp : List Addr) (D : Ends) : Out → Prop
 | .nx ρ => ∀ σ' F' H' fp', Stt M.K n F' H' σ' ρ fp' → Stp F H fp F' H' fp' → D.nx σ' H'
 | .bk ρ => ∀ σ' F' H' fp', Stt M.K n F' H' σ' ρ fp' → Stp F H fp F' H' fp' → D.bk σ' H'
 | .ct ρ => ∀ σ' F' H' fp', Stt M.K n F' H' σ' ρ fp' → Stp F H fp F' H' fp' → D.ct σ' H'
 | .rt x => ∀ v F' H' fx, aI F' H' → Res M.K F' H' v x fx → Stp F H fp F' H' fx → D.rt v H'
noncomputable def tS (M : Mx) (n : Nat) (f : Fs) : TS := fun D σ H => ∃ F ρ fp, Stt M.K n F H σ ρ fp ∧ az M H fp (fw M n F H fp D) (f ρ)
noncomputable def OkG (M : Mx) (n : Nat) (is : List Nat) (F H : Hp) (fp : List Addr) (σ : St) (Q : St → Hp → Prop) (ρ : Env) : Prop :=
 ∀ σ' F' H' fp', Stt M.K n F' H' σ' ρ fp' → Stp F H fp F' H' fp' → (∀ j, j ∉ is → σ'[j]? = σ[j]?) → Q σ' H'
noncomputable def tG (M : Mx) (n : Nat) (is : List Nat) (f : Fg) : TG := fun v σ H Q => ∃ F ρ fp x fx, Stt M.K n F H σ ρ fp ∧ Res M.K F H v x fx ∧ (∀ a ∈ fx, a ∉ fp) ∧ az M H (fp ++ fx) (OkG M n is F H (fp ++ fx) σ Q) (f x ρ)
noncomputable def tGs (M : Mx) (n : Nat) (is : List Nat) (f : Fgs) : TGs := fun vs σ H Q => ∃ F ρ fp xs fx, Stt M.K n F H σ ρ fp ∧ ResL M.K F H vs xs fx ∧ (∀ a ∈ fx, a ∉ fp) ∧ az M H (fp ++ fx) (OkG M n is F H (fp ++ fx) σ Q) (f xs ρ)
section
variable {M : Mx} {n : Nat} {F H F1 H1 F2 H2 : Hp} {fp fp1 fp2 : List Addr} {σ : St} {ρ : Env} {D : Ends}
theorem fw.stp (s : Stp F H fp F1 H1 fp1) {o : Out} (h : fw M n F H fp D o) : fw M n F1 H1 fp1 D o := by
 cases o with
 | nx ρ => exact fun σ' F' H' fp' a b => h σ' F' H' fp' a (s.trans b)
 | bk ρ => exact fun σ' F' H' fp' a b => h σ' F' H' fp' a (s.trans b)
 | ct ρ => exact fun σ' F' H' fp' a b => h σ' F' H' fp' a (s.trans b)
 | rt x => exact fun v F' H' fx a b c => h v F' H' fx a b (s.trans c)
theorem PostS.stp (s : Stp F H fp F1 H1 fp1) {r : R Out} (h : az M H fp (fw M n F H fp D) r) : az M H1 fp1 (fw M n F1 H1 fp1 D) r := (h.stp s).mono fun o ho => ho.stp s
theorem Ext.stpN {fx : List Addr} (e : Ext F H F1 H1) (w : ∀ a ∈ fx, H a = none) : Stp F H fp F1 H1 (fp ++ fx) :=
 ⟨e.ff, fun a o h _ => e.hh a o h, fun a m => (List.mem_append.mp m).elim .inl fun m => .inr (w a m), fun a h _ z => e.nw a h z⟩
theorem Stp.sub (s : Stp F H fp F1 H1 fp1) (h : ∀ a ∈ fp2, a ∈ fp1) : Stp F H fp F1 H1 fp2 := ⟨s.ff, s.keep, fun a m => s.new a (h a m), s.nw⟩
theorem zj (h : tS M n sNx D σ H) : we D σ H := by
 obtain ⟨F, ρ, fp, S, p⟩ := h;exact p σ F H fp S Stp.refl
theorem Cm {f g : Fs} (h : tS M n (aC f g) D σ H) : CG (tS M n f) (tS M n g) D σ H := by
 obtain ⟨F, ρ, fp, S, p⟩ := h;refine ⟨F, ρ, fp, S, (az.bind p).mono fun o po => ?_⟩
 cases o with
 | nx ρ1 => exact fun σ' F' H' fp' S' st => ⟨F', ρ1, fp', S', PostS.stp st po⟩
 | bk ρ => exact po
 | ct ρ => exact po
 | rt x => exact po
theorem Bg (h : tS M n zh D σ H) : sJ D σ H := by
 obtain ⟨F, ρ, fp, S, p⟩ := h;exact p
theorem C_ {t : Ft} {f g : Fs} (h : tS M n (sIf t f g) D σ H) : AM (tT M n t) (tS M n f) (tS M n g) D σ H := by
 obtain ⟨F, ρ, fp, S, p⟩ := h;refine ⟨F, ρ, fp, S, (az.bind p).mono fun c pc F1 H1 e1 => ?_⟩
 cases c with
 | true =>
  rw [if_pos rfl] at pc ⊢;exact ⟨F1, ρ, fp, S.ext e1, PostS.stp e1.stp pc⟩
 | false =>
  rw [if_neg Bool.false_ne_true] at pc ⊢;exact ⟨F1, ρ, fp, S.ext e1, PostS.stp e1.stp pc⟩
theorem zf {a : Fe} (h : tS M n (lY a) D σ H) : ou (tD M n a) D σ H := by
 obtain ⟨F, ρ, fp, S, p⟩ := h;exact ⟨F, ρ, fp, S, (az.bind p).mono fun x px v F1 H1 fx e1 r1 w1 => px σ F1 H1 fp (S.ext e1) e1.stp⟩
theorem AR {a : Fe} (h : tS M n (dE a) D σ H) : t4 (tD M n a) D σ H := by
 obtain ⟨F, ρ, fp, S, p⟩ := h;exact ⟨F, ρ, fp, S, (az.bind p).mono fun x px v F1 H1 fx e1 r1 w1 => px v F1 H1 fx e1.fh r1 ((e1.stpN w1).sub fun a m => List.mem_append_right _ m)⟩
theorem yh {i : Nat} (h : tS M n (fv i) D σ H) : t4 (gU i) D σ H := by
 obtain ⟨F, ρ, fp, S, p⟩ := h;unfold fv at p;split at p
 ·rename_i x e
  obtain ⟨v, f, g1, g2, h1, h2, rfl, h4⟩ := S.own.at e;have sub : ∀ a ∈ f, a ∈ g1 ++ (f ++ g2) := fun a m => List.mem_append_right _ (List.mem_append_left _ m)
  refine ⟨v, h1, p v F H f S.same ⟨h2, ?_, fun a m => S.fr a (sub a m)⟩ (Stp.refl.sub sub)⟩
  have nd := S.nd;simp only [List.nodup_append] at nd;exact nd.2.1.1
 ·exact p.elim
theorem wM {a : Fe} {is : List Nat} {g : Fg} (h : tS M n (rB a g) D σ H) : o_ (tD M n a) (tG M n is g) D σ H := by
 obtain ⟨F, ρ, fp, S, p⟩ := h;refine ⟨F, ρ, fp, S, (az.bind p).mono fun x px v F1 H1 fx e1 r1 w1 => ?_⟩
 have st := e1.stpN (fp := fp) w1;refine ⟨F1, ρ, fp, x, fx, S.ext e1, r1, fun a m q => ?_, ((az.bind px).stp st).mono fun ρ' hρ σ' F' H' fp' S' s' _ => hρ σ' F' H' fp' S' (st.trans s')⟩
 obtain ⟨o, z⟩ := S.own.dom a q;rw [w1 a m] at z;cases z
theorem tE {i : Nat} (hi : i < n) {v : V} {Q : St → Hp → Prop} (h : tG M n [i] (gNm i) v σ H Q) : jN i v σ H Q := by
 obtain ⟨F, ρ, fp, x, fx, S, r, d, p⟩ := h;obtain ⟨fp', S', sub⟩ := S.set hi r d;refine p _ F H fp' S' ⟨aI.refl _, fun _ _ h _ => h, fun a m => .inl (List.mem_append.mpr (sub a m)), fun _ _ _ z => z⟩ fun j hj => ?_
 have hne : i ≠ j := by
  rintro rfl;exact hj (by simp)
 rw [List.getElem?_set_ne hne]
theorem Bn {vs : List V} {Q : St → Hp → Prop} (h : tGs M n [] fP vs σ H Q) : AO vs σ H Q := by
 obtain ⟨F, ρ, fp, xs, fx, S, r, d, p⟩ := h;cases xs with
 | nil =>
  cases r.own with
  | nil => exact ⟨rfl, p σ F H fp S (Stp.refl.sub fun a m => List.mem_append_left _ m) fun _ _ => rfl⟩
 | cons x xs => exact p.elim
theorem xy {vs : List V} {is js : List Nat} {g : Fg} {gs : Fgs} {Q : St → Hp → Prop} (h : tGs M n (is ++ js) (bC g gs) vs σ H Q) : w9 (tG M n is g) (tGs M n js gs) vs σ H Q := by
 obtain ⟨F, ρ, fp, xs, fx, S, r, d, p⟩ := h;cases xs with
 | nil => exact p.elim
 | cons x xs =>
  obtain ⟨ro, rn, rf⟩ := r;cases ro with
  | @cons v _ f vs _ g' h1 h2 =>
   have nd := rn;simp only [List.nodup_append] at nd;refine ⟨v, vs, rfl, F, ρ, fp, x, f, S, ⟨h1, nd.1, fun a m => rf a (List.mem_append_left _ m)⟩, fun a m => d a (List.mem_append_left _ m), ?_⟩
   have p' : az M H (fp ++ (f ++ g')) _ ((g x ρ).bind fun ρ' => gs xs ρ') := p
   have s0 : Stp F H (fp ++ (f ++ g')) F H (fp ++ f) := Stp.refl.sub fun a m => by
    simp only [List.mem_append] at m ⊢;rcases m with m | m
    ·exact .inl m
    ·exact .inr (.inl m)
   refine ((az.bind p').stp s0).mono fun ρ1 p1 σ1 F1 H1 fp1 S1 s1 t1 => ?_
   have gd : ∀ a ∈ g', a ∉ fp ++ f := fun a m q => by
    rcases List.mem_append.mp q with q | q
    ·exact d a (List.mem_append_right _ m) q
    ·exact nd.2.2 a q a m rfl
   have hd : ∀ a ∈ g', H a ≠ none := fun a m => let ⟨_, q⟩ := h2.dom a m; b7 q
   have k1 : ∀ a ∈ g', ∀ o, H a = some o → H1 a = some o := fun a m o q => s1.keep a o q (gd a m)
   have out : ∀ a ∈ g', a ∉ fp1 := fun a m => s1.out (hd a m) (gd a m)
   have s2 : Stp F H (fp ++ (f ++ g')) F1 H1 (fp1 ++ g') := ⟨s1.ff, fun a o q m => s1.keep a o q (fun z => m (by simp only [List.mem_append] at z ⊢; rcases z with z | z <;> simp [z])), fun a m => by
    rcases List.mem_append.mp m with m | m
    ·rcases s1.new a m with z | z
     ·exact .inl (by simp only [List.mem_append] at z ⊢; rcases z with z | z <;> simp [z])
     ·exact .inr z
    ·exact .inl (by simp [m]), fun a q m z => s1.nw a q (fun w => m (by simp only [List.mem_append] at w ⊢; rcases w with w | w <;> simp [w])) z⟩
   refine ⟨F1, ρ1, fp1, xs, g', S1, ⟨h2.mono s1.ff k1, nd.2.1, fun a m => s1.nw a (hd a m) (gd a m) (rf a (List.mem_append_right _ m))⟩, out, (p1.stp s2).mono fun ρ' hρ σ' F' H' fp' S' s' t' => hρ σ' F' H' fp' S' (s2.trans s') fun j hj => ?_⟩
   have hj1 : j ∉ is := fun z => hj (List.mem_append_left _ z)
   have hj2 : j ∉ js := fun z => hj (List.mem_append_right _ z)
   rw [t' j hj2, t1 j hj1]
theorem Cn {k : Nat} {v : V} {is : List Nat} {gs : Fgs} {Q : St → Hp → Prop} (h : tG M n is (gTp k gs) v σ H Q) : AB M.K k (tGs M n is gs) v σ H Q := by
 obtain ⟨F, ρ, fp, x, fx, S, r, d, p⟩ := h;unfold gTp at p;split at p
 ·rename_i xs
  obtain ⟨ro, rn, rf⟩ := r;cases ro with
  | @ot a vs _ f h1 h2 =>
   by_cases hl : xs.length = k
   ·rw [if_pos hl] at p
    have nd := List.nodup_cons.mp rn;have s0 : Stp F H (fp ++ (a :: f)) F H (fp ++ f) := Stp.refl.sub fun b m => by
     simp only [List.mem_append, List.mem_cons] at m ⊢;rcases m with m | m <;> simp [m]
    exact ⟨a, vs, rfl, SqT.of h1, by rw [h2.len]; exact hl, F, ρ, fp, xs, f, S, ⟨h2, nd.2, fun b m => rf b (List.mem_cons_of_mem _ m)⟩, fun b m => d b (List.mem_cons_of_mem _ m), (p.stp s0).mono fun ρ' hρ σ' F' H' fp' S' s' t' => hρ σ' F' H' fp' S' (s0.trans s') t'⟩
   ·rw [if_neg hl] at p
    exact p.elim
 ·rename_i ds
  obtain ⟨ro, rn, rf⟩ := r;cases ro with
  | sh q =>
   by_cases hl : ds.length = k
   ·rw [if_pos hl] at p
    cases q with
    | @tup a vs _ h1 h2 =>
     exact ⟨a, vs, rfl, SqT.of (S.same _ _ h1), by rw [RepAll.len h2]; exact hl, F, ρ, fp, ds.map OD.sh, [], S, ⟨OwnL.shs h2, List.nodup_nil, fun _ m => by cases m⟩, (fun _ m => by cases m), p⟩
   ·rw [if_neg hl] at p
    exact p.elim
 ·exact p.elim
theorem sM {a : Fe} {i : Nat} (hi : i < n) (h : tS M n (aQ i a) D σ H) : o_ (tD M n a) (jN i) D σ H := by
 have h' : tS M n (rB a (gNm i)) D σ H := h;obtain ⟨F, ρ, fp, S, p⟩ := wM (is := [i]) h';exact ⟨F, ρ, fp, S, p.mono fun x px v F1 H1 fx e1 r1 w1 => tE hi (px v F1 H1 fx e1 r1 w1)⟩
theorem Bj {f : Fs} {i : Nat} (h : tS M n (jx i f) D σ H) : tS M n f D σ H := by
 obtain ⟨F, ρ, fp, S, p⟩ := h;unfold jx t7 at p;split at p
 ·rename_i x e
  obtain ⟨v, f, g1, g2, h1, h2, rfl, h4⟩ := S.own.at e;have ff : ∀ a ∈ f, F a = none := fun a m => S.fr a (List.mem_append_right _ (List.mem_append_left _ m))
  have o := h4 (iF F H f) H (fE ff) (fun _ _ _ q => q) v (.sh x.er) [] (.sh (h2.frz (fE ff) fun a m o q => by rw [jc m]; exact q))
  have hs : σ.set i (some v) = σ := by
   apply List.ext_getElem?
   intro j;by_cases hj : i = j
   ·subst hj
    rw [h1, List.getElem?_set_self (List.getElem?_eq_some_iff.mp h1).1]
   ·rw [List.getElem?_set_ne hj]
  rw [hs] at o;have nd := S.nd;simp only [List.nodup_append, List.mem_append] at nd;obtain ⟨n1, ⟨n2, n3, n4⟩, n5⟩ := nd;have sub : ∀ a ∈ g1 ++ ([] ++ g2), a ∈ g1 ++ (f ++ g2) ∧ a ∉ f := fun a m => by
   simp only [List.nil_append, List.mem_append] at m ⊢;rcases m with m | m
   ·exact ⟨.inl m, fun z => n5 a m a (.inl z) rfl⟩
   ·exact ⟨.inr (.inr m), fun z => n4 a z a m rfl⟩
  have st : Stp F H (g1 ++ (f ++ g2)) (iF F H f) H (g1 ++ ([] ++ g2)) := ⟨fE ff, fun _ _ h _ => h, fun a m => .inl (sub a m).1, fun a h m z => by
   rw [fV fun w => m (List.mem_append_right _ (List.mem_append_left _ w))]
   exact z⟩
  refine ⟨iF F H f, _, _, ⟨my S.same, o, ?_, fun a m => ?_, by rw [List.length_set]; exact S.len⟩, PostS.stp st p⟩
  ·simp only [List.nil_append, List.nodup_append]
   exact ⟨n1, n3, fun a ha b hb => n5 a ha b (.inr hb)⟩
  ·rw [fV (sub a m).2]
   exact S.fr a (sub a m).1
 ·exact ⟨F, ρ, fp, S, p⟩
end
noncomputable def Walks (K : PySem.W.Frag) (F : Hp) (J : It) (ds : List PyData) : Prop := ∀ i G H, aI F G → aI G H →
 (∀ d, ds[i]? = some d → J.go i H ∧ ∀ x H', J.yld i H x H' → ∃ G', Ext G H G' H' ∧ Rep K G' x d) ∧ (ds.length ≤ i → J.stop i H)
noncomputable def OkI (K : PySem.W.Frag) (F H : Hp) (R : It → Hp → Prop) (ds : List PyData) : Prop := ∀ J F' H', Ext F H F' H' → Walks K F' J ds → R J H'
noncomputable def tI (M : Mx) (n : Nat) (f : Fi) : TI := fun σ H R => ∃ F ρ fp, Stt M.K n F H σ ρ fp ∧ az M H fp (OkI M.K F H R) (f ρ)
section
variable {M : Mx} {n : Nat} {F H : Hp} {σ : St} {D : Ends} {R' : It → Hp → Prop}
theorem xV {a : Fe} (h : tI M n (gB a) σ H R') : nV M.K (tD M n a) σ H R' := by
 obtain ⟨F, ρ, fp, S, p⟩ := h;refine ⟨F, ρ, fp, S, (az.bind p).mono fun x px v F1 H1 fx e1 r1 w1 => ?_⟩
 obtain ⟨G1, d1, k1⟩ := r1.frz e1 w1;generalize x.er = d at px k1
 cases k1 with
 | @lst a vs ds h1 h2 =>
  refine ⟨a, rfl, ⟨vs, (h1.same d1.fh).sq⟩, px _ G1 H1 d1 fun i G H' s1 s2 => ?_⟩
  have hq := (h1.same (s1.trans s2)).sq;refine ⟨fun d hd => ?_, fun hl => ⟨vs, hq, by rw [RepAll.len h2]; exact hl⟩⟩
  obtain ⟨u, hu, ru⟩ := RepAll.get h2 hd;refine ⟨⟨vs, u, hq, hu⟩, fun x H2 y => ?_⟩
  obtain ⟨rfl, y⟩ := y;have hx := y vs hq;rw [hu] at hx;cases hx;exact ⟨G, Ext.refl s2, ru.same s1⟩
 | non => exact px.elim
 | bl _ => exact px.elim
 | int _ => exact px.elim
 | str _ => exact px.elim
 | dct _ _ _ => exact px.elim
 | tup _ _ => exact px.elim
theorem ko {K : PySem.W.Frag} (lo : Int) (k : Nat) : Walks K F (Itr lo k) (iq lo k) := by
 intro i G H s1 s2;unfold iq;refine ⟨fun d hd => ?_, fun hl => (show k ≤ i by simpa using hl)⟩
 rw [List.getElem?_map] at hd;obtain ⟨j, hj, rfl⟩ := Option.map_eq_some_iff.mp hd;obtain ⟨h1, h2⟩ := List.getElem?_eq_some_iff.mp hj;have h3 : i = j := by simpa using h2
 subst h3;refine ⟨(show i < k by simpa using h1), fun x H' y => ?_⟩
 obtain ⟨rfl, rfl⟩ := y;exact ⟨G, Ext.refl s2, .int _⟩
theorem eg {i : Int} : aH i = true ↔ -(2 ^ 62) ≤ i ∧ i < 2 ^ 62 := by
 unfold aH;rw [Bool.and_eq_true, decide_eq_true_eq, decide_eq_true_eq]
theorem CY {a : Fe} (h : tI M n (iR1 a) σ H R') : w6 (tA M n (af a av)) σ H R' := by
 obtain ⟨F, ρ, fp, S, p⟩ := h;refine ⟨F, ρ, fp, S, ?_⟩;have p1 := az.bind p;show az M H fp _ ((a ρ).bind fun x => R.ok [x])
 cases ha : a ρ with
 | bad => rw [ha] at p1; exact p1
 | ex c => rw [ha] at p1; exact p1
 | ok x =>
  rw [ha] at p1;intro vs F1 H1 fx e1 r1 w1;obtain ⟨G1, d1, k1⟩ := r1.frz e1 w1;cases k1 with
  | @cons v _ _ _ k1 k2 =>
   cases k2;have p2 : az M H fp (OkI M.K F H R') (match x.er with | .int j => if aH j = true then .ok (iq 0 j.toNat) else .bad | _ => .bad) := p1
   generalize x.er = d at p2 k1
   cases k1 with
   | int j =>
    by_cases hs : aH j = true
    ·have hs' := eg.mp hs
     have p3 : az M H fp (OkI M.K F H R') (if aH j = true then .ok (iq 0 j.toNat) else .bad) := p2
     rw [if_pos hs] at p3;exact ⟨j, rfl, hs'.1, hs'.2, p3 _ G1 H1 d1 (ko _ _)⟩
    ·have p3 : az M H fp (OkI M.K F H R') (if aH j = true then .ok (iq 0 j.toNat) else .bad) := p2
     rw [if_neg hs] at p3;exact p3.elim
   | non => exact p2.elim
   | bl _ => exact p2.elim
   | str _ => exact p2.elim
   | dct _ _ _ => exact p2.elim
   | lst _ _ => exact p2.elim
   | tup _ _ => exact p2.elim
theorem nv {a b : Fe} {g : PyData → PyData → R (List PyData)} {ρ : Env} {fp : List Addr} {QL : List V → Hp → Prop}
  (p : az M H fp (OkI M.K F H R') ((a ρ).bind fun x => (b ρ).bind fun y => g x.er y.er))
  (k : ∀ v w dx dy G H1, Ext F H G H1 → Rep M.K G v dx → Rep M.K G w dy → az M H fp (OkI M.K F H R') (g dx dy) → QL [v, w] H1) :
  az M H fp (OkL M F H QL) (af a (af b av) ρ) := by
 show az M H fp _ ((a ρ).bind fun x => ((b ρ).bind fun y => R.ok [y]).bind fun xs => R.ok (x :: xs))
 have p1 := az.bind p;cases ha : a ρ with
 | bad => rw [ha] at p1; exact p1
 | ex c => rw [ha] at p1; exact p1
 | ok x =>
  rw [ha] at p1;have p2 : az M H fp _ (b ρ) := az.bind p1;show az M H fp _ (((b ρ).bind fun y => R.ok [y]).bind fun xs => R.ok (x :: xs))
  cases hb : b ρ with
  | bad => rw [hb] at p2; exact p2
  | ex c => rw [hb] at p2; exact p2
  | ok y =>
   rw [hb] at p2;intro vs F1 H1 fx e1 r1 w1;obtain ⟨G1, d1, k1⟩ := r1.frz e1 w1;cases k1 with
   | @cons v _ _ _ k1 k2 =>
    cases k2 with
    | @cons w _ _ _ k2 k3 =>
     cases k3;exact k v w x.er y.er G1 H1 d1 k1 k2 p2
noncomputable def r2F (x y : PyData) : R (List PyData) := match x, y with
 | .int i, .int j => if (aH i && aH j) = true then .ok (iq i (j - i).toNat) else .bad
 | _, _ => .bad
theorem CW {a b : Fe} (h : tI M n (iR2 a b) σ H R') : w8 (tA M n (af a (af b av))) σ H R' := by
 obtain ⟨F, ρ, fp, S, p⟩ := h;refine ⟨F, ρ, fp, S, nv (g := r2F) (by unfold iR2 at p; exact p) fun v w dx dy G H1 e rv rw' q => ?_⟩
 unfold r2F at q;split at q
 ·rename_i i j
  cases rv;cases rw';by_cases hs : (aH i && aH j) = true
  ·rw [if_pos hs] at q
   rw [Bool.and_eq_true] at hs;have h1 := eg.mp hs.1;have h2 := eg.mp hs.2;exact ⟨i, j, rfl, ⟨h1.1, h1.2, h2.1, h2.2⟩, q _ G H1 e (ko _ _)⟩
  ·rw [if_neg hs] at q
   exact q.elim
 ·exact q.elim
theorem rh {ds : List PyData} {i : Nat} {d : PyData} (h : (fK ds)[i]? = some d) : ∃ e, ds[i]? = some e ∧ d = .tuple [.int i, e] := by
 unfold fK at h;rw [List.getElem?_map] at h;obtain ⟨p, hp, rfl⟩ := Option.map_eq_some_iff.mp h;rw [List.getElem?_zipIdx] at hp;obtain ⟨e, he, rfl⟩ := Option.map_eq_some_iff.mp hp;exact ⟨e, he, by simp⟩
theorem xF {a : Fe} (h : tI M n (iEn a) σ H R') : wU M.K (tA M n (af a av)) σ H R' := by
 obtain ⟨F, ρ, fp, S, p⟩ := h;refine ⟨F, ρ, fp, S, ?_⟩;have p1 := az.bind p;show az M H fp _ ((a ρ).bind fun x => R.ok [x])
 cases ha : a ρ with
 | bad => rw [ha] at p1; exact p1
 | ex c => rw [ha] at p1; exact p1
 | ok x =>
  rw [ha] at p1;intro vs F1 H1 fx e1 r1 w1;obtain ⟨G1, d1, k1⟩ := r1.frz e1 w1;cases k1 with
  | @cons v _ _ _ k1 k2 =>
   cases k2;have p2 : az M H fp (OkI M.K F H R') (match x.er with | .list ds => .ok (fK ds) | _ => .bad) := p1
   generalize x.er = d at p2 k1
   cases k1 with
   | @lst a vs ds h1 h2 =>
    have p3 : OkI M.K F H R' (fK ds) := p2;refine ⟨a, rfl, ⟨vs, (h1.same d1.fh).sq⟩, p3 _ G1 H1 d1 fun i G H' s1 s2 => ?_⟩
    have hq := (h1.same (s1.trans s2)).sq;refine ⟨fun d hd => ?_, fun hl => ⟨vs, hq, by rw [RepAll.len h2]; unfold fK at hl; simpa using hl⟩⟩
    obtain ⟨e, he, rfl⟩ := rh hd;obtain ⟨u, hu, ru⟩ := RepAll.get h2 he;refine ⟨⟨vs, u, hq, hu⟩, fun x H2 y => ?_⟩
    obtain ⟨T, z, hT, rfl, rfl, hz⟩ := y;have hx := hz vs hq;rw [hu] at hx;cases hx;exact ⟨upd G T _, Ext.allocF s2 hT, .tup bL (.cons (.int _) (.cons ((ru.same s1).same ((aI.refl G).upd (s2.free hT))) .nil))⟩
   | int j => exact p2.elim
   | non => exact p2.elim
   | bl _ => exact p2.elim
   | str _ => exact p2.elim
   | dct _ _ _ => exact p2.elim
   | tup _ _ => exact p2.elim
noncomputable def vP (x y : PyData) : R (List PyData) := match x, y with
 | .list ds, .list es => .ok (jW ds es)
 | _, _ => .bad
theorem kB {ds es : List PyData} {i : Nat} {d : PyData} (h : (jW ds es)[i]? = some d) : ∃ x y, ds[i]? = some x ∧ es[i]? = some y ∧ d = .tuple [x, y] := by
 unfold jW at h;rw [List.getElem?_map] at h;obtain ⟨p, hp, rfl⟩ := Option.map_eq_some_iff.mp h;rw [List.getElem?_zip_eq_some] at hp;exact ⟨p.1, p.2, hp.1, hp.2, rfl⟩
theorem A7 {a b : Fe} (h : tI M n (iZp a b) σ H R') : BR M.K (tA M n (af a (af b av))) σ H R' := by
 obtain ⟨F, ρ, fp, S, p⟩ := h;refine ⟨F, ρ, fp, S, nv (g := vP) (by unfold iZp at p; exact p) fun v w dx dy G1 H1 d1 rv rw' q => ?_⟩
 unfold vP at q;split at q
 ·rename_i ds es
  cases rv with
  | @lst a vs _ h1 h2 =>
   cases rw' with
   | @lst b ws _ h3 h4 =>
    refine ⟨a, b, rfl, ⟨vs, (h1.same d1.fh).sq⟩, ⟨ws, (h3.same d1.fh).sq⟩, q _ G1 H1 d1 fun i G H' s1 s2 => ?_⟩
    have hq := (h1.same (s1.trans s2)).sq;have hq' := (h3.same (s1.trans s2)).sq;refine ⟨fun d hd => ?_, fun hl => ⟨vs, ws, hq, hq', ?_⟩⟩
    ·obtain ⟨x, y, hx, hy, rfl⟩ := kB hd
     obtain ⟨u, hu, ru⟩ := RepAll.get h2 hx;obtain ⟨u', hu', ru'⟩ := RepAll.get h4 hy;refine ⟨⟨vs, u, ws, u', hq, hu, hq', hu'⟩, fun x H2 y => ?_⟩
     obtain ⟨T, z, z', hT, rfl, rfl, hz, hz'⟩ := y;have e1 := hz vs hq;have e2 := hz' ws hq';rw [hu] at e1;rw [hu'] at e2;cases e1;cases e2;have sg : aI G (upd G T (.tup [u, u'])) := (aI.refl G).upd (s2.free hT);exact ⟨upd G T _, Ext.allocF s2 hT, .tup bL (.cons ((ru.same s1).same sg) (.cons ((ru'.same s1).same sg) .nil))⟩
    ·rw [RepAll.len h2, RepAll.len h4]
     unfold jW at hl;rw [List.length_map, List.length_zip] at hl
     lia
 ·exact q.elim
theorem Ah {it : Fi} {is : List Nat} {g : Fg} {b : Fs} (h : tS M n (eM it g b) D σ H) : BG (tI M n it) (tG M n is g) (tS M n b) D σ H := by
 obtain ⟨F, ρ, fp, S, p⟩ := h;refine ⟨F, ρ, fp, S, (az.bind p).mono fun ds pd J F1 H1 e1 wk => ?_⟩
 refine ⟨fun i m σ' H' => m = ds.length - i ∧ i ≤ ds.length ∧ ∃ F' ρ' fp', Stt M.K n F' H' σ' ρ' fp' ∧ aI F1 F' ∧ az M H' fp' (fw M n F' H' fp' D) (b6 g b (ds.drop i) ρ'), ⟨ds.length, by simp, Nat.zero_le _, F1, ρ, fp, S.ext e1, aI.refl _, PostS.stp e1.stp pd⟩, ?_⟩
 rintro i m σ' H' ⟨rfl, hi, F', ρ', fp', S', s', p'⟩;obtain ⟨w1, w2⟩ := wk i F' H' s' S'.same;by_cases hlt : i < ds.length
 ·obtain ⟨d, hd⟩ : ∃ d, ds[i]? = some d := ⟨ds[i], by simp [hlt]⟩
  obtain ⟨g1, g2⟩ := w1 d hd;have e : ds.drop i = d :: ds.drop (i + 1) := by
   rw [List.drop_eq_getElem_cons hlt];congr 1
   have := (List.getElem?_eq_some_iff.mp hd).2;exact this
  rw [e] at p';refine .inr ⟨g1, fun σ2 H2 => ∃ F2 ρ2 fp2, Stt M.K n F2 H2 σ2 ρ2 fp2 ∧ aI F1 F2 ∧ az M H2 fp2 (fw M n F2 H2 fp2 D) (b6 g b (ds.drop (i + 1)) ρ2), fun σ2 H2 q => ⟨ds.length - (i + 1), by lia, rfl, hlt, q⟩, fun x H2 y => ?_⟩
  obtain ⟨G2, e2, rx⟩ := g2 x H2 y;have p2 : az M H' fp' _ ((g (.sh d) ρ').bind fun ρ1 => (b ρ1).bind fun o => match o with
   | .nx ρ2 => b6 g b (ds.drop (i + 1)) ρ2
   | .ct ρ2 => b6 g b (ds.drop (i + 1)) ρ2
   | .bk ρ2 => .ok (.nx ρ2)
   | .rt x => .ok (.rt x)) := p'
  have st : Stp F' H' fp' G2 H2 (fp' ++ []) := by
   rw [List.append_nil];exact e2.stp
  refine ⟨G2, ρ', fp', .sh d, [], S'.ext e2, Res.sh rx, (fun _ m => by cases m), ((az.bind p2).stp st).mono fun ρ1 p1 σ3 F3 H3 fp3 S3 s3 _ => ?_⟩
  have s4 := st.trans s3;refine ⟨F3, ρ1, fp3, S3, ((az.bind p1).stp s4).mono fun o po => ?_⟩
  cases o with
  | nx ρ2 => exact fun σ5 F5 H5 fp5 S5 s5 => ⟨F5, ρ2, fp5, S5, (s'.trans s4.ff).trans s5.ff, PostS.stp (s4.trans s5) po⟩
  | ct ρ2 => exact fun σ5 F5 H5 fp5 S5 s5 => ⟨F5, ρ2, fp5, S5, (s'.trans s4.ff).trans s5.ff, PostS.stp (s4.trans s5) po⟩
  | bk ρ2 => exact fun σ5 F5 H5 fp5 S5 s5 => po σ5 F5 H5 fp5 S5 (s4.trans s5)
  | rt x => exact fun v F5 H5 fx a r s5 => po v F5 H5 fx a r (s4.trans s5)
 ·have e : i = ds.length := by lia
  subst e;refine .inl ⟨w2 (Nat.le_refl _), ?_⟩;rw [List.drop_length] at p';exact p' σ' F' H' fp' S' Stp.refl
theorem vp {t : Ft} {b : Fs} (h : tS M n (eR t b) D σ H) : sQ (tT M n t) (tS M n b) D σ H := by
 obtain ⟨F, ρ, fp, S, p⟩ := h;unfold eR at p;split at p
 ·rename_i hn
  refine ⟨fun m σ' H' => ∃ F' ρ' fp', Stt M.K n F' H' σ' ρ' fp' ∧ az M H' fp' (fw M n F' H' fp' D) (dt t b m ρ'), ⟨_, F, ρ, fp, S, p⟩, ?_⟩
  rintro m σ' H' ⟨F', ρ', fp', S', p'⟩;cases m with
  | zero => exact p'.elim
  | succ m =>
   have p2 : az M H' fp' _ ((t ρ').bind fun c => if c = true then (b ρ').bind fun o => match o with
    | .nx ρ2 => dt t b m ρ2
    | .ct ρ2 => dt t b m ρ2
    | .bk ρ2 => .ok (.nx ρ2)
    | .rt x => .ok (.rt x) else .ok (.nx ρ')) := p'
   refine ⟨F', ρ', fp', S', (az.bind p2).mono fun c pc F1 H1 e1 => ?_⟩
   cases c with
   | true =>
    rw [if_pos rfl] at pc ⊢;refine ⟨fun σ2 H2 => ∃ F2 ρ2 fp2, Stt M.K n F2 H2 σ2 ρ2 fp2 ∧ az M H2 fp2 (fw M n F2 H2 fp2 D) (dt t b m ρ2), fun σ2 H2 q => ⟨m, Nat.lt_succ_self _, q⟩, F1, ρ', fp', S'.ext e1, ((az.bind pc).ext e1).mono fun o po => ?_⟩
    cases o with
    | nx ρ2 => exact fun σ5 F5 H5 fp5 S5 s5 => ⟨F5, ρ2, fp5, S5, PostS.stp (e1.stp.trans s5) po⟩
    | ct ρ2 => exact fun σ5 F5 H5 fp5 S5 s5 => ⟨F5, ρ2, fp5, S5, PostS.stp (e1.stp.trans s5) po⟩
    | bk ρ2 => exact fun σ5 F5 H5 fp5 S5 s5 => po σ5 F5 H5 fp5 S5 (e1.stp.trans s5)
    | rt x => exact fun v F5 H5 fx a r s5 => po v F5 H5 fx a r (e1.stp.trans s5)
   | false =>
    rw [if_neg Bool.false_ne_true] at pc ⊢;exact pc σ' F1 H1 fp' (S'.ext e1) e1.stp
 ·exact p.elim
end
end L3
namespace L3
open PySem L2
section
variable {M : Mx} {n : Nat} {F H F1 H1 : Hp} {σ : St} {ρ : Env} {fp : List Addr} {D : Ends} {K : PySem.W.Frag}
theorem OwnS.nones {K : PySem.W.Frag} : ∀ (k : Nat) {σ : St} {ρ : Env} {g : List Addr}, OwnS K F H σ ρ g → OwnS K F H (List.replicate k none ++ σ) (List.replicate k none ++ ρ) g
 | 0, _, _, _, h => h
 | k + 1, _, _, _, h => by
  rw [List.replicate_succ, List.replicate_succ];exact .no (OwnS.nones k h)
theorem OwnS.one (S : OwnS K F H σ ρ fp) (i : Nat) : ∃ f, (∀ a ∈ f, a ∈ fp) ∧ (fp.Nodup → f.Nodup) ∧ ∀ {σ' : St} {ρ' : Env} {g : List Addr}, OwnS K F H σ' ρ' g → OwnS K F H ((σ[i]?).join :: σ') ((ρ[i]?).join :: ρ') (f ++ g) := by
 cases e : ρ[i]? with
 | none => exact ⟨[], (fun _ m => by cases m), fun _ => List.nodup_nil, fun h => .no h⟩
 | some o =>
  cases o with
  | none => exact ⟨[], (fun _ m => by cases m), fun _ => List.nodup_nil, fun h => .no h⟩
  | some x =>
   obtain ⟨v, f, g1, g2, h1, h2, rfl, h4⟩ := S.at e;refine ⟨f, fun a m => List.mem_append_right _ (List.mem_append_left _ m), fun nd => ?_, fun h => ?_⟩
   ·simp only [List.nodup_append] at nd
    exact nd.2.1.1
   ·rw [h1]
    exact .yes h2 h
noncomputable def shE (ρ : Env) : Env := ρ.map fun o => match o with
 | some (.sh d) => some (.sh d)
 | _ => none
theorem OwnS.shE {σ : St} {ρ : Env} {g : List Addr} (S : OwnS K F H σ ρ g) : OwnS K F H σ (L3.shE ρ) [] := by
 induction S with
 | nil => exact .nil
 | no r ih => exact .no ih
 | yes h r ih =>
  cases h with
  | sh h => exact .yes (f := []) (.sh h) ih
  | ol _ _ => exact .no ih
  | ot _ _ => exact .no ih
  | od _ _ _ => exact .no ih
theorem OwnS.pick3 : ∀ (is : List Nat) {σ : St} {ρ : Env}, OwnS K F H σ ρ [] → OwnS K F H (is.map fun i => (σ[i]?).join) (is.map fun i => (ρ[i]?).join) []
 | [], _, _, _ => .nil
 | i :: is, _, _, S => by
  obtain ⟨f, h1, _, h3⟩ := S.one i;have hf : f = [] := by
   cases f with
   | nil => rfl
   | cons a f => exact absurd (h1 a List.mem_cons_self) (by simp)
  subst hf;exact h3 (OwnS.pick3 is S)
theorem nu : ∀ (k : Nat) {σ0 σ2 : St}, σ2.length = k + σ0.length → (∀ j, k ≤ j → σ2[j]? = (List.replicate k none ++ σ0)[j]?) → gb (List.replicate k none ++ σ0) σ2
 | 0, σ0, σ2, hl, h => by
  have e : σ2 = σ0 := List.ext_getElem? fun j => by simpa using h j (Nat.zero_le _)
  subst e;show gb σ2 σ2
  clear h hl
  induction σ2 with
  | nil => trivial
  | cons x r ih =>
   cases x with
   | none => exact ih
   | some v => exact ⟨rfl, ih⟩
 | k + 1, σ0, [], hl, h => by simp at hl; lia
 | k + 1, σ0, x :: σ2, hl, h => by
  rw [List.replicate_succ];refine nu k (by simp at hl; lia) fun j hj => ?_
  have := h (j + 1) (by lia)
  simpa [List.replicate_succ] using this
theorem pU (ρ : Env) : ∀ (is : List Nat), (is.map fun i => ((shE ρ)[i]?).join) = is.map fun i => jq ρ[i]?
 | [] => rfl
 | i :: is => by
  rw [List.map_cons, List.map_cons, pU ρ is];congr 1
  unfold shE;rw [List.getElem?_map];cases ρ[i]? with
  | none => rfl
  | some o =>
   cases o with
   | none => rfl
   | some x => cases x <;> rfl
theorem Stt.block (S : Stt K n F H σ ρ fp) (k : Nat) (outs : List (Nat × Str)) : Stt K (k + outs.length) F H (slots k outs σ) (sl3 k (outs.map (·.1)) ρ) [] := by
 refine ⟨S.same, ?_, List.nodup_nil, (fun _ m => by cases m), by unfold sl3; simp⟩
 have h := OwnS.nones k (OwnS.pick3 (outs.map (·.1)) S.own.shE);rw [pU, List.map_map] at h;exact h
theorem mC {α : Type} {r : R α} {P : α → Prop} {β : Type} {g : α → R β} {PP : β → Prop} (p : az M H fp PP ((l7 r).bind g)) : ∃ a, r = .ok a ∧ az M H fp PP (g a) := by
 cases r with
 | ok a => exact ⟨a, rfl, p⟩
 | ex c => exact p.elim
 | bad => exact p.elim
theorem ub {it : Fi} {g : Fg} {t : Ft} {el : Fe} {k : Nat} {is : List Nat} {outs : List (Nat × Str)} {Q : VK} (hk : ∀ j ∈ is, j < k) (h : tD M n (dR it g t el k (outs.map (·.1))) σ H Q) :
  qj (tI M n it) (tG M (k + outs.length) is g) (tT M (k + outs.length) t) (tD M (k + outs.length) el) k outs σ H Q := by
 obtain ⟨F, ρ, fp, S, p⟩ := h;refine ⟨F, ρ, fp, S, (az.bind p).mono fun ds pd J F1 H1 e1 wk D hD => ?_⟩
 have SB := (S.ext e1).block k outs;have fD : F1 D = none := e1.fh.free hD;refine ⟨fun i m acc H' => m = ds.length - i ∧ i ≤ ds.length ∧ ∃ F' xs fx, H' D = some (.lst acc) ∧ F' D = none ∧ Ext F1 H1 F' H' ∧ ResL M.K F' H' acc xs fx ∧ (∀ a ∈ fx, H1 a = none ∧ a ≠ D) ∧
  az M H fp (OkE M F H Q) ((cw g t el (sl3 k (outs.map (·.1)) ρ) (ds.drop i) xs).bind fun xs => .ok (.ol xs)), ⟨ds.length, by simp, Nat.zero_le _, F1, [], [], bL, fD, Ext.alloc e1.fh hD, ResL.nil, (fun _ m => by cases m), pd⟩, ?_⟩
 rintro i m acc H' ⟨rfl, hi, F', xs, fx, hacc, fD', e', rx, wx, p'⟩;have S' := SB.ext e';obtain ⟨w1, w2⟩ := wk i F' H' e'.ff e'.fh;by_cases hlt : i < ds.length
 ·obtain ⟨d, hd⟩ : ∃ d, ds[i]? = some d := ⟨ds[i], by simp [hlt]⟩
  obtain ⟨g1, g2⟩ := w1 d hd;have e : ds.drop i = d :: ds.drop (i + 1) := by
   rw [List.drop_eq_getElem_cons hlt];congr 1
   exact (List.getElem?_eq_some_iff.mp hd).2
  rw [e] at p';have p2 : az M H fp (OkE M F H Q) (((l7 (g (.sh d) (sl3 k (outs.map (·.1)) ρ))).bind fun ρ1 => (l7 (t ρ1)).bind fun b => if b = true then (l7 (el ρ1)).bind fun y => if xs.length < BIG then cw g t el (sl3 k (outs.map (·.1)) ρ) (ds.drop (i + 1)) (xs ++ [y]) else .bad else cw g t el (sl3 k (outs.map (·.1)) ρ) (ds.drop (i + 1)) xs).bind fun xs => .ok (.ol xs)) := p'
  have assoc : ∀ {α β γ : Type} (r : R α) (f : α → R β) (h : β → R γ), (r.bind f).bind h = r.bind fun a => (f a).bind h := fun r f h => by cases r <;> rfl
  rw [assoc] at p2;obtain ⟨ρ1, hρ1, p3⟩ := mC (P := fun _ => True) p2
  rw [assoc] at p3;obtain ⟨b, hb, p4⟩ := mC (P := fun _ => True) p3
  refine .inr ⟨g1, fun acc' H2 => ∃ F2 xs2 fx2, H2 D = some (.lst acc') ∧ F2 D = none ∧ Ext F1 H1 F2 H2 ∧ ResL M.K F2 H2 acc' xs2 fx2 ∧ (∀ a ∈ fx2, H1 a = none ∧ a ≠ D) ∧
   az M H fp (OkE M F H Q) ((cw g t el (sl3 k (outs.map (·.1)) ρ) (ds.drop (i + 1)) xs2).bind fun xs => .ok (.ol xs)), fun acc' H2 q => ⟨ds.length - (i + 1), by lia, rfl, hlt, q⟩, fun x H2 y => ?_⟩
  obtain ⟨G2, e2, rx2⟩ := g2 x H2 y;refine ⟨G2, sl3 k (outs.map (·.1)) ρ, [], .sh d, [], S'.ext e2, Res.sh rx2, (fun _ m => by cases m), ?_⟩
  rw [hρ1];intro σ3 F3 H3 fp3 S3 s3 t3;have e3 : Ext G2 H2 F3 H3 := ⟨s3.ff, fun a o q => s3.keep a o q (by simp), S3.same, fun a q z => s3.nw a q (by simp) z⟩
  refine ⟨nu k (by rw [S3.own.len, S3.len]; simp) fun j hj => t3 j fun z => by have := hk j z; lia, F3, ρ1, fp3, S3, ?_⟩
  rw [hb];intro F4 H4 e4;have e24 : Ext F' H' F4 H4 := (e2.trans e3).trans e4;cases b with
  | true =>
   rw [if_pos rfl] at p4 ⊢;rw [assoc] at p4;obtain ⟨y, hy, p5⟩ := mC (P := fun _ => True) p4
   refine ⟨F4, ρ1, fp3, S3.ext e4, ?_⟩;rw [hy];intro v F5 H5 fy e5 r5 w5;by_cases hl : xs.length < BIG
   ·rw [if_pos hl] at p5
    have e25 := e24.trans e5;have hD5 : H5 D = some (.lst acc) := e25.hh _ _ hacc;have fD5 : F5 D = none := e25.nw D (b7 hacc) fD';have yD : ∀ a ∈ fy, a ≠ D := fun a m => by
     rintro rfl;have := e24.hh _ _ hacc;rw [w5 _ m] at this;cases this
    have rx5 := rx.ext e25;refine ⟨hD5, by rw [rx.own.len]; exact oV hl, F5, xs ++ [y], fx ++ fy, bL, fD5, ⟨e'.ff.trans e25.ff, fun a o q => ?_, fun a o q => ?_, fun a q z => e25.nw a (e'.hh.dom q) (e'.nw a q z)⟩, ⟨?_, ?_, ?_⟩, ?_, p5⟩
    ·rw [aM (aP q hD)]
     exact e25.hh _ _ (e'.hh _ _ q)
    ·rw [aM (aP q fD5)]
     exact e5.fh _ _ q
    ·have q1 : OwnL M.K F5 (upd H5 D (.lst (acc ++ [v]))) acc xs fx := rx5.own.mono (aI.refl _) fun a m o q => by
      rw [aM (wx a m).2];exact q
     have q2 : Own M.K F5 (upd H5 D (.lst (acc ++ [v]))) v y fy := r5.own.mono (aI.refl _) fun a m o q => by
      rw [aM (yD a m)];exact q
     have q3 := OwnL.app q1 (OwnL.cons q2 .nil);rw [List.append_nil] at q3;exact q3
    ·refine List.nodup_append.mpr ⟨rx.nd, r5.nd, fun a m b m' z => ?_⟩
     subst z;obtain ⟨o, q⟩ := rx.own.dom a m;have := e24.hh _ _ q;rw [w5 a m'] at this;cases this
    ·intro a m
     rcases List.mem_append.mp m with m | m
     ·exact rx5.fr a m
     ·exact r5.fr a m
    ·intro a m
     rcases List.mem_append.mp m with m | m
     ·exact wx a m
     ·exact ⟨(e'.trans e24).hh.free (w5 a m), yD a m⟩
   ·rw [if_neg hl] at p5
    exact p5.elim
  | false =>
   rw [if_neg Bool.false_ne_true] at p4 ⊢;exact ⟨F4, xs, fx, e24.hh _ _ hacc, e24.nw D (b7 hacc) fD', e'.trans e24, rx.ext e24, wx, p4⟩
 ·have e : i = ds.length := by lia
  subst e;rw [List.drop_length] at p';have q : OkE M F H Q (.ol xs) := p';refine .inl ⟨w2 (Nat.le_refl _), q (.ref D) F' H' (D :: fx) (e1.trans e') ⟨.ol hacc rx.own, List.nodup_cons.mpr ⟨fun m => (wx D m).2 rfl, rx.nd⟩, fun a m => ?_⟩ fun a m => ?_⟩
  ·rcases List.mem_cons.mp m with rfl | m
   ·exact fD'
   ·exact rx.fr a m
  ·rcases List.mem_cons.mp m with rfl | m
   ·exact e1.hh.free hD
   ·exact e1.hh.free (wx a m).1
theorem tR {vs : List V} {xs : List OD} {f : List Addr} {G : Hp} (o : OwnL K F H vs xs f) (e : xs.all (fun y => flat y.er) = true) : OwnL K G H1 vs (xs.map fun y => .sh y.er) [] := by
 induction xs generalizing vs f with
 | nil => cases o; exact .nil
 | cons x r0 ih =>
 cases o with
 | cons h r =>
  rw [List.all_cons, Bool.and_eq_true] at e;rw [List.map_cons];refine .cons (f := []) (g := []) (.sh ?_) (ih r e.2);cases h with
  | sh q =>
   rw [e7] at e ⊢;exact nP e.1 q
  | ol _ _ =>
   rw [iU] at e;exact absurd e.1 (by simp [flat])
  | ot _ _ =>
   rw [wC] at e;exact absurd e.1 (by simp [flat])
  | od _ _ _ =>
   rw [BO] at e;exact absurd e.1 (by simp [flat, dD])
theorem tj {fa : Fe} {Q : VK} (h : tD M n (nM fa) σ H Q) : tD M n fa σ H Q := by
 obtain ⟨F, ρ, fp, S, p⟩ := h;refine ⟨H, erase ρ, [], S.erase, (az.bind p).nofp.mono fun x px v F1 H1 fx e1 r1 w1 => ?_⟩
 cases x with
 | sh d => exact px.elim
 | ot xs => exact px.elim
 | od xs => exact px.elim
 | ol xs =>
  have px' : az M H fp (OkE M F H Q) (if xs.all (fun y => flat y.er) = true then .ok (.ol (xs.map fun y => .sh y.er)) else .bad) := px
  by_cases hf : xs.all (fun y => flat y.er) = true
  ·rw [if_pos hf] at px'
   obtain ⟨ro, rn, rf⟩ := r1;cases ro with
   | @ol a vs _ f h1 h2 =>
    have na : H a = none := w1 a List.mem_cons_self;refine px' (.ref a) F H1 [a] ⟨aI.refl _, e1.hh, S.same.trans e1.hh, fun _ _ z => z⟩ ⟨.ol h1 (tR h2 hf), by simp, fun b m => ?_⟩ fun b m => ?_
    ·have : b = a := by simpa using m
     rw [this];exact S.same.free na
    ·have : b = a := by simpa using m
     rw [this];exact na
  ·rw [if_neg hf] at px'
   exact px'.elim
end
end L3
namespace L3
open PySem L2
section
variable {M : Mx} {n : Nat} {F H F1 H1 : Hp} {σ : St} {ρ : Env} {fp : List Addr} {D : Ends} {K : PySem.W.Frag}
theorem iC {p f q f' : List Addr} (h : (p ++ (f ++ q)).Nodup) (h' : f'.Nodup) (s : ∀ c ∈ f', c ∈ f ∨ c ∉ p ++ (f ++ q)) : (p ++ (f' ++ q)).Nodup := by
 simp only [List.nodup_append, List.mem_append] at h s ⊢;obtain ⟨n1, ⟨n2, n3, n4⟩, n5⟩ := h;refine ⟨n1, ⟨h', n3, fun a ha b hb e => ?_⟩, fun a ha b hb e => ?_⟩
 ·subst e
  rcases s a ha with z | z
  ·exact n4 a z a hb rfl
  ·exact z (.inr (.inr hb))
 ·subst e
  rcases hb with hb | hb
  ·rcases s a hb with z | z
   ·exact n5 a ha a (.inl z) rfl
   ·exact z (.inl ha)
  ·exact n5 a ha a (.inr hb) rfl
theorem OwnL.at : ∀ {vs : List V} {xs : List OD} {g : List Addr} {i : Nat} {x : OD}, OwnL K F H vs xs g → xs[i]? = some x →
  ∃ v f g1 g2, vs[i]? = some v ∧ Own K F H v x f ∧ g = g1 ++ (f ++ g2) ∧ ∀ (F' H' : Hp), aI F F' → (∀ a ∈ g1 ++ g2, ∀ o, H a = some o → H' a = some o) → ∀ v' x' f', Own K F' H' v' x' f' → OwnL K F' H' (vs.set i v') (xs.set i x') (g1 ++ (f' ++ g2))
 | _, _, _, _, _, .nil, e => by simp at e
 | _, _, _, 0, x, .cons (f := f) (g := g) h r, e => by
  simp at e
  subst e;exact ⟨_, f, [], g, rfl, h, rfl, fun F' H' s k v' x' f' o => OwnL.cons (f := f') (g := g) o (r.mono s k)⟩
 | _, _, _, i + 1, x, .cons (f := f0) h r, e => by
  obtain ⟨v, f, g1, g2, h1, h2, h3, h4⟩ := OwnL.at (i := i) r (by simpa using e)
  refine ⟨v, f, f0 ++ g1, g2, by simpa using h1, h2, by rw [h3, List.append_assoc], fun F' H' s k v' x' f' o => ?_⟩
  rw [List.append_assoc];exact .cons (h.mono s fun a m => k a (List.mem_append_left _ (List.mem_append_left _ m))) (h4 F' H' s (fun a m => k a (by simp at m ⊢; rcases m with m | m <;> simp [m])) v' x' f' o)
theorem ku {σ : St} {i : Nat} {v : V} (h1 : σ[i]? = some (some v)) : σ.set i (some v) = σ := by
 apply List.ext_getElem?
 intro j;by_cases hj : i = j
 ·subst hj
  rw [h1, List.getElem?_set_self (List.getElem?_eq_some_iff.mp h1).1]
 ·rw [List.getElem?_set_ne hj]
theorem Stt.write (S : Stt K n F H σ ρ fp) {i : Nat} {xs : List OD} (hx : ρ[i]? = some (some (.ol xs))) :
  ∃ a vs f, σ[i]? = some (some (.ref a)) ∧ H a = some (.lst vs) ∧ OwnL K F H vs xs f ∧ f.Nodup ∧ (∀ b ∈ f, F b = none) ∧
   ∀ F1 H1 vs' xs' f', Ext F H F1 H1 → OwnL K F1 H1 vs' xs' f' → f'.Nodup → (∀ b ∈ f', b ∈ f ∨ H b = none) → (∀ b ∈ f', F1 b = none) →
    ∃ fp', Stt K n F1 (upd H1 a (.lst vs')) σ (ρ.set i (some (.ol xs'))) fp' ∧ Stp F H fp F1 (upd H1 a (.lst vs')) fp' ∧ (∀ b ∈ fp', b ∈ fp ∨ b ∈ f') := by
 obtain ⟨v, f0, g1, g2, h1, h2, rfl, h4⟩ := S.own.at hx;cases h2 with
 | @ol a vs _ f ha hv =>
  have nd := S.nd;have nd' := nd;simp only [List.nodup_append, List.mem_append, List.cons_append, List.nodup_cons, List.mem_cons] at nd';obtain ⟨n1, ⟨na, n2, n3, n4⟩, n5⟩ := nd';refine ⟨a, vs, f, h1, ha, hv, n2, fun b m => S.fr b (by simp [m]), fun F1 H1 vs' xs' f' e o nf sub ff => ?_⟩
  have fa : F1 a = none := e.nw a (b7 ha) (S.fr a (by simp))
  have hne : ∀ b ∈ f', b ≠ a := fun b m => by
   rintro rfl;rcases sub b m with z | z
   ·exact na (.inl z)
   ·rw [ha] at z
    cases z
  have hs : ∀ c ∈ f', c ∈ f ∨ c ∉ (g1 ++ [a]) ++ (f ++ g2) := fun c m => by
   rcases sub c m with z | z
   ·exact .inl z
   ·refine .inr fun w => ?_
    obtain ⟨o, q⟩ := S.own.dom c (by simp at w ⊢; exact w)
    rw [z] at q;cases q
  have nd2 := iC (p := g1 ++ [a]) (f := f) (q := g2) (f' := f') (by simpa using nd) nf hs
  have own := h4 F1 (upd H1 a (.lst vs')) e.ff (fun b m o q => by
   have : b ≠ a := by
    rintro rfl;rcases List.mem_append.mp m with m | m
    ·exact n5 b m b (.inl rfl) rfl
    ·exact na (.inr m)
   rw [aM this];exact e.hh _ _ q) (.ref a) (.ol xs') (a :: f') (.ol bL (o.mono (aI.refl _) fun b m o q => by rw [aM (hne b m)]; exact q))
  rw [ku h1] at own;have frs : ∀ b ∈ g1 ++ (a :: f ++ g2), F1 b = none := fun b m => let ⟨_, q⟩ := S.own.dom b m; e.nw b (b7 q) (S.fr b m)
  refine ⟨g1 ++ (a :: f' ++ g2), ⟨?_, own, by simpa using nd2, fun b m => ?_, by rw [List.length_set]; exact S.len⟩, ⟨e.ff, fun b o q m => ?_, fun b m => ?_, fun b q m z => e.nw b q z⟩, fun b m => ?_⟩
  ·intro b o q
   rw [aM (aP q fa)];exact e.fh _ _ q
  ·simp only [List.mem_append, List.mem_cons] at m
   rcases m with m | (rfl | m) | m
   ·exact frs b (by simp [m])
   ·exact fa
   ·exact ff b m
   ·exact frs b (by simp [m])
  ·have : b ≠ a := by
    rintro rfl;exact m (by simp)
   rw [aM this];exact e.hh _ _ q
  ·simp only [List.mem_append, List.mem_cons] at m ⊢
   rcases m with m | (m | m) | m
   ·exact .inl (.inl m)
   ·exact .inl (.inr (.inl (.inl m)))
   ·rcases sub b m with z | z
    ·exact .inl (.inr (.inl (.inr z)))
    ·exact .inr z
   ·exact .inl (.inr (.inr m))
  ·simp only [List.mem_append, List.mem_cons] at m ⊢
   rcases m with m | (m | m) | m <;> simp [m]
theorem OwnL.snoc {vs : List V} {xs : List OD} {f g : List Addr} {v : V} {y : OD} (h : OwnL K F H vs xs f) (o : Own K F H v y g) : OwnL K F H (vs ++ [v]) (xs ++ [y]) (f ++ g) := by
 have := OwnL.app h (OwnL.cons o .nil);rw [List.append_nil] at this;exact this
theorem A2 {i : Nat} {a : Fe} (h : tS M n (gR i a) D σ H) : ou (tBM M.K "list" pS (gU i) (g9 (tD M n a) nS)) D σ H := by
 obtain ⟨F, ρ, fp, S, p⟩ := h;unfold gR at p;split at p
 ·rename_i xs e
  obtain ⟨l, vs, f, h1, h2, h3, nf, ff, wr⟩ := S.write e;refine ⟨_, h1, .inl ⟨rfl, vs, SqL.of h2⟩, F, ρ, fp, S, (az.bind p).mono fun y py v F1 H1 fy e1 r1 w1 => ?_⟩
  by_cases hl : xs.length < BIG
  ·rw [if_pos hl] at py
   refine ⟨l, vs, v, rfl, rfl, e1.hh _ _ h2, by rw [h3.len]; exact oV hl, ?_⟩
   have o : OwnL M.K F1 H1 (vs ++ [v]) (xs ++ [y]) (f ++ fy) := (h3.mono e1.ff fun b _ o q => e1.hh _ _ q).snoc r1.own
   obtain ⟨fp', S', st, _⟩ := wr F1 H1 _ _ _ e1 o (List.nodup_append.mpr ⟨nf, r1.nd, fun b m c m' z => by
    subst z;obtain ⟨o, q⟩ := h3.dom b m;rw [w1 b m'] at q;cases q⟩) (fun b m => (List.mem_append.mp m).elim .inl fun m => .inr (w1 b m)) (fun b m => (List.mem_append.mp m).elim (fun m => let ⟨_, q⟩ := h3.dom b m; e1.nw b (b7 q) (ff b m)) (r1.fr b))
   exact py σ F1 _ fp' S' st
  ·rw [if_neg hl] at py
   exact py.elim
 ·exact p.elim
theorem OwnL.last {d : PyData} {vs : List V} {xs : List OD} {f : List Addr} (o : OwnL K F H vs xs f) (e : xs.getLast? = some (.sh d)) : ∃ v, vs[vs.length - 1]? = some v ∧ Rep K F v d ∧ OwnL K F H vs.dropLast xs.dropLast f := by
 induction xs generalizing vs f with
 | nil => simp at e
 | cons a0 r0 ih0 =>
 cases o with
 | cons h r =>
  have ih := ih0 r;cases r with
  | nil =>
   cases h with
   | sh h =>
    simp at e
    subst e;exact ⟨_, rfl, h, .nil⟩
   | ol _ _ => simp at e
   | ot _ _ => simp at e
   | od _ _ _ => simp at e
  | cons h' r =>
   obtain ⟨v, h1, h2, h3⟩ := ih (by simpa using e)
   exact ⟨v, by simpa using h1, h2, .cons h h3⟩
theorem s_pop {i : Nat} {is : List Nat} {g : Fg} (h : tS M n (qO i g) D σ H) : o_ (CK M.K "list" CM (gU i)) (tG M n is g) D σ H := by
 obtain ⟨F, ρ, fp, S, p⟩ := h;unfold qO at p;split at p
 ·rename_i xs e
  split at p
  ·rename_i d hd
   obtain ⟨l, vs, f, h1, h2, h3, nf, ff, wr⟩ := S.write e;obtain ⟨v, v1, v2, v3⟩ := h3.last hd;obtain ⟨fp', S', st, _⟩ := wr F H _ _ f (Ext.refl S.same) v3 nf (fun b m => .inl m) ff
   have st' : Stp F H fp F (upd H l (.lst vs.dropLast)) (fp' ++ []) := by
    rw [List.append_nil];exact st
   exact ⟨_, h1, .inl ⟨rfl, vs, SqL.of h2⟩, l, vs, v, rfl, rfl, h2, v1, F, _, fp', .sh d, [], S', Res.sh v2, (fun _ m => by cases m), ((az.bind p).stp st').mono fun ρ' hρ σ' F' H' fp2 S2 s2 _ => hρ σ' F' H' fp2 S2 (st'.trans s2)⟩
  ·exact p.elim
 ·exact p.elim
theorem yM {k : Nat} {q : Int} {j : Nat} (h : ixN k q = some j) : j < k := by
 unfold ixN at h;split at h
 ·split at h
  ·cases h
   lia
  ·cases h
 ·split at h
  ·cases h
   lia
  ·cases h
theorem Aj {i : Nat} {a k : Fe} (h : tS M n (lz i k a) D σ H) : o_ (tD M n a) (BD (gU i) (tD M n k) wm) D σ H := by
 obtain ⟨F, ρ, fp, S, p⟩ := h;unfold lz at p;split at p
 ·rename_i xs e
  refine ⟨F, ρ, fp, S, (az.bind p).mono fun y py v F1 H1 fy e1 r1 w1 => ?_⟩
  obtain ⟨l, vs, f, h1, h2, h3, nf, ff, wr⟩ := S.write e;refine ⟨_, h1, F1, ρ, fp, S.ext e1, ((az.bind py).ext e1).mono fun z pz u F2 H2 fz e2 r2 w2 => ?_⟩
  obtain ⟨G2, d2, k2⟩ := r2.frz e2 w2;generalize z.er = dz at pz k2
  cases dz with
  | int q =>
   cases k2;have pz' : az M H fp (fw M n F H fp D) (match ixN xs.length q with | some j => .ok (.nx (ρ.set i (some (.ol (xs.set j y))))) | none => .bad) := pz
   cases hj : ixN xs.length q with
   | none =>
    rw [hj] at pz';exact pz'.elim
   | some j =>
    rw [hj] at pz';have e12 := e1.trans d2;have hjl := yM hj;refine ⟨l, vs, q, j, rfl, rfl, e12.hh _ _ h2, by rw [h3.len]; exact hj, ?_⟩
    obtain ⟨x, hx⟩ : ∃ x, xs[j]? = some x := ⟨xs[j], by simp [hjl]⟩
    obtain ⟨v0, f0, g1, g2, b1, b2, b3, b4⟩ := h3.at hx;subst b3;have o := b4 G2 H2 e12.ff (fun b m o q => e12.hh _ _ q) v y fy (r1.ext d2).own
    have sub : ∀ b ∈ g1 ++ (fy ++ g2), b ∈ g1 ++ (f0 ++ g2) ∨ H b = none := fun b m => by
     simp only [List.mem_append] at m ⊢;rcases m with m | m | m
     ·exact .inl (.inl m)
     ·exact .inr (w1 b m)
     ·exact .inl (.inr (.inr m))
    obtain ⟨fp', S', st, _⟩ := wr G2 H2 _ _ _ e12 o (iC nf r1.nd fun c m => .inr fun w => by
     obtain ⟨o, q⟩ := h3.dom c w;rw [w1 c m] at q;cases q) sub (fun b m => by
      simp only [List.mem_append] at m;rcases m with m | m | m
      ·exact let ⟨_, q⟩ := h3.dom b (by simp [m]); e12.nw b (b7 q) (ff b (by simp [m]))
      ·exact (r1.ext d2).fr b m
      ·exact let ⟨_, q⟩ := h3.dom b (by simp [m]); e12.nw b (b7 q) (ff b (by simp [m])))
    exact pz' σ G2 _ fp' S' st
  | none => exact pz.elim
  | bool _ => exact pz.elim
  | str _ => exact pz.elim
  | list _ => exact pz.elim
  | tuple _ => exact pz.elim
  | dict _ => exact pz.elim
 ·exact p.elim
theorem An {i : Nat} {g : PyData → PyData → R OD} {ti : TIp} {a : Fe} (hi : i < n) (hg : Ok2 M ti g) (h : tS M n (qS i g a) D σ H) : AE i (tD M n a) ti D σ H := by
 obtain ⟨F, ρ, fp, S, p⟩ := h;unfold qS at p;split at p
 ·rename_i d e
  obtain ⟨v, f, g1, g2, h1, h2, h3, h4⟩ := S.own.at e;cases h2 with
  | sh r =>
   refine ⟨v, h1, F, ρ, fp, S, (az.bind p).mono fun y py w F1 H1 fy e1 r1 w1 => ?_⟩
   obtain ⟨G1, d1, k1⟩ := r1.frz e1 w1;refine hg v w d y.er G1 H1 fp _ d1.fh (r.same d1.ff) k1 ((az.ext d1 (az.bind py)).mono fun z pz u F2 H2 fz e2 r2 w2 => ?_)
   have e12 := d1.trans e2;obtain ⟨fp', S', sub⟩ := (S.ext e12).set hi r2 fun b m q => by
    obtain ⟨o, z⟩ := S.own.dom b q;rw [d1.hh.free (w2 b m)] at z;cases z
   exact pz _ F2 H2 fp' S' ⟨e12.ff, fun b o q _ => e12.hh _ _ q, fun b m => (sub b m).elim .inl fun m => .inr (d1.hh.free (w2 b m)), fun b q _ z => e12.nw b q z⟩
 ·exact p.elim
theorem Stt.write2 (S : Stt K n F H σ ρ fp) {i : Nat} {o : OD} {l : Bool} {xs : List OD} {j : Nat} {ys : List OD} (hx : ρ[i]? = some (some o)) (hc : comps o = some (l, xs)) (hj : xs[j]? = some (.ol ys)) :
  ∃ a vs b ws f, σ[i]? = some (some (.ref a)) ∧ H a = some (if l = true then .lst vs else .tup vs) ∧ vs.length = xs.length ∧ vs[j]? = some (.ref b) ∧ H b = some (.lst ws) ∧ OwnL K F H ws ys f ∧ f.Nodup ∧ (∀ c ∈ f, F c = none) ∧
   ∀ F1 H1 ws' ys' f', Ext F H F1 H1 → OwnL K F1 H1 ws' ys' f' → f'.Nodup → (∀ c ∈ f', c ∈ f ∨ H c = none) → (∀ c ∈ f', F1 c = none) →
    ∃ fp', Stt K n F1 (upd H1 b (.lst ws')) σ (ρ.set i (some (wrap l (xs.set j (.ol ys'))))) fp' ∧ Stp F H fp F1 (upd H1 b (.lst ws')) fp' := by
 obtain ⟨v, f0, g1, g2, h1, h2, rfl, h4⟩ := S.own.at hx;obtain ⟨a, vs, g, ha, hv, rfl, rfl, mk⟩ : ∃ a vs g, H a = some (if l = true then .lst vs else .tup vs) ∧ OwnL K F H vs xs g ∧ v = .ref a ∧ f0 = a :: g ∧ ∀ F' H' vs' xs' g', H' a = some (if l = true then .lst vs' else .tup vs') → OwnL K F' H' vs' xs' g' → Own K F' H' (.ref a) (wrap l xs') (a :: g') := by
  cases h2 with
  | sh r =>
   cases hc
  | od _ _ _ =>
   cases hc
  | @ol a vs _ g ha hv =>
   cases hc;exact ⟨a, vs, g, ha, hv, rfl, rfl, fun F' H' vs' xs' g' q r => .ol q r⟩
  | @ot a vs _ g ha hv =>
   cases hc;exact ⟨a, vs, g, ha, hv, rfl, rfl, fun F' H' vs' xs' g' q r => .ot q r⟩
 obtain ⟨u, f1, k1, k2, b1, b2, b3, b4⟩ := hv.at hj;cases b2 with
 | @ol b ws _ f hb hw =>
  subst b3;have nd : ((g1 ++ (a :: (k1 ++ [b]))) ++ (f ++ (k2 ++ g2))).Nodup := by simpa using S.nd
  have nd' := nd;simp only [List.nodup_append, List.mem_append, List.cons_append, List.nodup_cons, List.mem_cons, List.append_assoc, List.nil_append, List.not_mem_nil, or_false] at nd';have inL : ∀ c, c ∈ (g1 ++ (a :: (k1 ++ [b]))) ++ (f ++ (k2 ++ g2)) ↔ c ∈ g1 ++ (a :: (k1 ++ (b :: f ++ k2)) ++ g2) := fun c => by simp
  refine ⟨a, vs, b, ws, f, h1, ha, hv.len, b1, hb, hw, ?_, fun c m => S.fr c (by simp [m]), fun F1 H1 ws' ys' f' e o nf sub ff => ?_⟩
  ·simp only [List.nodup_append] at nd
   exact nd.2.1.1
  have hs : ∀ c ∈ f', c ∈ f ∨ c ∉ (g1 ++ (a :: (k1 ++ [b]))) ++ (f ++ (k2 ++ g2)) := fun c m => by
   rcases sub c m with z | z
   ·exact .inl z
   ·refine .inr fun w => ?_
    obtain ⟨o, q⟩ := S.own.dom c ((inL c).mp w);rw [z] at q;cases q
  have nd2 := iC nd nf hs;have eq2 : (g1 ++ (a :: (k1 ++ [b]))) ++ (f' ++ (k2 ++ g2)) = g1 ++ (a :: (k1 ++ (b :: f' ++ k2)) ++ g2) := by simp
  have frs : ∀ c ∈ g1 ++ (a :: (k1 ++ (b :: f ++ k2)) ++ g2), F1 c = none := fun c m => let ⟨_, q⟩ := S.own.dom c m; e.nw c (b7 q) (S.fr c m)
  have fb : F1 b = none := frs b (by simp)
  have nb : ∀ c, c ∈ g1 ∨ c = a ∨ c ∈ k1 ∨ c ∈ f' ∨ c ∈ k2 ∨ c ∈ g2 → c ≠ b := fun c hc => by
   rintro rfl;have nd3 := nd2;simp only [List.append_assoc, List.cons_append, List.nil_append] at nd3;have q : (g1 ++ a :: (k1 ++ c :: (f' ++ (k2 ++ g2)))) = (g1 ++ a :: k1) ++ c :: (f' ++ (k2 ++ g2)) := by simp
   rw [q, List.nodup_append] at nd3;obtain ⟨_, y2, y3⟩ := nd3;rw [List.nodup_cons] at y2;have y4 : ∀ d, d ∈ g1 ++ a :: k1 → d ≠ c := fun d hd z => y3 d hd d (by rw [z]; exact List.mem_cons_self) rfl
   rcases hc with h | h | h | h | h | h
   ·exact y4 c (by simp [h]) rfl
   ·exact y4 a (by simp) h.symm
   ·exact y4 c (by simp [h]) rfl
   ·exact y2.1 (by simp [h])
   ·exact y2.1 (by simp [h])
   ·exact y2.1 (by simp [h])
  have hkeep : ∀ c o, c ≠ b → H c = some o → upd H1 b (.lst ws') c = some o := fun c o hc q => by
   rw [aM hc];exact e.hh _ _ q
  have o1 : Own K F1 (upd H1 b (.lst ws')) (.ref b) (.ol ys') (b :: f') := .ol bL (o.mono (aI.refl _) fun c m o q => by rw [aM (nb c (by simp [m]))]; exact q)
  have o2 := b4 F1 (upd H1 b (.lst ws')) e.ff (fun c m o q => hkeep c o (nb c (by simp only [List.mem_append] at m; rcases m with m | m <;> simp [m])) q) _ _ _ o1
  have vb : vs.set j (.ref b) = vs := by
   apply List.ext_getElem?
   intro t;by_cases ht : j = t
   ·subst ht
    rw [b1, List.getElem?_set_self (List.getElem?_eq_some_iff.mp b1).1]
   ·rw [List.getElem?_set_ne ht]
  rw [vb] at o2;have o3 := mk F1 (upd H1 b (.lst ws')) vs _ _ (hkeep a _ (nb a (by simp)) ha) o2
  have own := h4 F1 (upd H1 b (.lst ws')) e.ff (fun c m o q => hkeep c o (nb c (by simp only [List.mem_append] at m; rcases m with m | m <;> simp [m])) q) _ _ _ o3
  rw [ku h1] at own;refine ⟨_, ⟨?_, own, by rw [← eq2]; exact nd2, fun c m => ?_, by rw [List.length_set]; exact S.len⟩, ⟨e.ff, fun c o q m => ?_, fun c m => ?_, fun c q m z => e.nw c q z⟩⟩
  ·intro c o q
   rw [aM (aP q fb)];exact e.fh _ _ q
  ·simp only [List.mem_append, List.mem_cons] at m
   rcases m with m | (m | m | (m | m) | m) | m
   ·exact frs c (by simp [m])
   ·exact frs c (by simp [m])
   ·exact frs c (by simp [m])
   ·exact frs c (by simp [m])
   ·exact ff c m
   ·exact frs c (by simp [m])
   ·exact frs c (by simp [m])
  ·have : c ≠ b := by
    rintro rfl;exact m (by simp)
   exact hkeep c o this q
  ·simp only [List.mem_append, List.mem_cons] at m ⊢
   rcases m with m | (m | m | (m | m) | m) | m
   ·simp [m]
   ·simp [m]
   ·simp [m]
   ·simp [m]
   ·rcases sub c m with z | z
    ·simp [z]
    ·exact .inr z
   ·simp [m]
   ·simp [m]
end
end L3
namespace L3
open PySem L2 PySem.Spec PyProof.Rows
noncomputable def DE (M : Mx) (X : Cx) (e : Expr) (f : Fe) : Prop := X.K = M.K → X.mg = M.mg → PE X e (tD M X.N.length f)
noncomputable def DT (M : Mx) (X : Cx) (e : Expr) (f : Ft) : Prop := X.K = M.K → X.mg = M.mg → PT X e (tT M X.N.length f)
noncomputable def DW (M : Mx) (X : Cx) (e : Expr) (f : Ft) : Prop := X.K = M.K → X.mg = M.mg → PW X e (tT M X.N.length f)
noncomputable def DA (M : Mx) (X : Cx) (e : List Expr) (f : Fa) : Prop := X.K = M.K → X.mg = M.mg → PA X e (tA M X.N.length f)
noncomputable def DO (M : Mx) (X : Cx) (e : Option Expr) (f : Fo) : Prop := X.K = M.K → X.mg = M.mg → PO X e (tO M X.N.length f)
noncomputable def DI (M : Mx) (X : Cx) (tg e : Expr) (f : Fi) : Prop := X.K = M.K → X.mg = M.mg → PI X tg e (tI M X.N.length f)
noncomputable def DG (M : Mx) (X : Cx) (tg : Expr) (is : List Nat) (f : Fg) : Prop := X.K = M.K → X.mg = M.mg → PG X tg (tG M X.N.length is f)
noncomputable def DGs (M : Mx) (X : Cx) (tg : List Expr) (is : List Nat) (f : Fgs) : Prop := X.K = M.K → X.mg = M.mg → PGs X tg (tGs M X.N.length is f)
noncomputable def DF (M : Mx) (X : Cx) (e : List Expr) (f : Ft) : Prop := X.K = M.K → X.mg = M.mg → PF X e (tT M X.N.length f)
noncomputable def DS (M : Mx) (X : Cx) (st : Stmt) (f : Fs) : Prop := X.K = M.K → X.mg = M.mg → PS X st (tS M X.N.length f)
noncomputable def DSs (M : Mx) (X : Cx) (st : List Stmt) (f : Fs) : Prop := X.K = M.K → X.mg = M.mg → PSs X st (tS M X.N.length f)
section
variable {M : Mx} {X : Cx} {e a b c : Expr} {es : List Expr} {pos : Pos} {fa fb : Fe} {ta tb : Ft} {al : Fa}
theorem peI {t t' : TE} (h : PE X e t) (k : ∀ σ H Q, t' σ H Q → t σ H Q) : PE X e t' := fun pins s σ H Q I q => h pins s σ H Q I (k σ H Q q)
theorem ptI {t t' : TT} (h : PT X e t) (k : ∀ σ H Q, t' σ H Q → t σ H Q) : PT X e t' := fun pins s σ H Q I q => h pins s σ H Q I (k σ H Q q)
theorem pwI {t t' : TT} (h : PW X e t) (k : ∀ σ H Q, t' σ H Q → t σ H Q) : PW X e t' := fun w pins s σ H Q I q => h w pins s σ H Q I (k σ H Q q)
theorem paI {t t' : TA} (h : PA X es t) (k : ∀ σ H Q, t' σ H Q → t σ H Q) : PA X es t' := fun ps pins s σ H Q I q => h ps pins s σ H Q I (k σ H Q q)
theorem poI {o : Option Expr} {t t' : TO} (h : PO X o t) (k : ∀ σ H Q, t' σ H Q → t σ H Q) : PO X o t' := fun pins s σ H Q I q => h pins s σ H Q I (k σ H Q q)
theorem psI {st : Stmt} {t t' : TS} (h : PS X st t) (k : ∀ D σ H, t' D σ H → t D σ H) : PS X st t' := fun pins s σ H D I q => h pins s σ H D I (k D σ H q)
theorem Bd {st : List Stmt} {t t' : TS} (h : PSs X st t) (k : ∀ D σ H, t' D σ H → t D σ H) : PSs X st t' := fun pins s σ H D I q => h pins s σ H D I (k D σ H q)
theorem aa (i : Nat) {x : Str} (hN : X.N[i]? = some x := by rfl) (hv : Vis X.env.scope x := by first | exact Or.inl rfl | exact Or.inr (Or.inl rfl) | exact Or.inr (Or.inr rfl)) (hd : (x == ("__debug__" : Str)) = false := by decide)
  (hcd : (x == ("__classdict__" : Str)) = false := by decide) : DE M X (.Name x pos) (ag i) := fun _ _ => peI (d_ hN hv hd hcd) fun _ _ _ h => A6 h
theorem ah {i : Int} {j} : DE M X (.Constant (.int i) j pos) (eC (.int i)) := fun _ _ => peI sU fun _ _ _ h => d_c (fun _ _ => .int i) h
theorem iy {i : Bool} {j} : DE M X (.Constant (.bool i) j pos) (eC (.bool i)) := fun _ _ => peI Am fun _ _ _ h => d_c (fun _ _ => .bl i) h
theorem kZ {x : Str} {j} : DE M X (.Constant (.str x) j pos) (eC (.str x)) := fun _ _ => peI sN fun _ _ _ h => d_c (fun _ _ => .str x) h
theorem gr {x : Str} {i : Int} (hg : Gl X x) (hm : ∃ t, X.mg x = some (.int i t)) (hd : (x == ("__debug__" : Str)) = false := by decide) : DE M X (.Name x pos) (eC (.int i)) := fun _ _ =>
 let ⟨t, e⟩ := hm
 peI (mZ (v := .int i) hg e ⟨t, rfl⟩ hd) fun _ _ _ h => d_c (fun _ _ => .int i) h
theorem cn (h : DE M X e fa) : DE M X e (eSh fa) := fun hK hM => peI (h hK hM) fun _ _ _ q => qK q
theorem mm (h : DE M X e fa) : DE M X e (pC fa) := fun hK hM => peI (h hK hM) fun _ _ _ q => CO q
theorem pQ (h : DT M X e ta) : DT M X e (q8 ta) := fun hK hM => ptI (h hK hM) fun _ _ _ q => yo q
theorem aq {op : Operator} {r : R2} {g : PyData → PyData → R OD} (ho : OpR X (binaryOp op) r) (hg : X.K = M.K → Ok2 M r g) (ha : DE M X a fa) (hb : DE M X b fb) : DE M X (.BinOp a op b pos) (eOp g fa fb) := fun hK hM =>
 peI (BI ho (ha hK hM) (hb hK hM)) fun _ _ _ q => yP (hg hK) q
theorem fi {op : UnaryOp} {r : V → Hp → VK → Prop} {g : PyData → R OD} (ho : UnR X (unaryOp op) r) (hg : X.K = M.K → Ok1 M r g) (ha : DE M X a fa) : DE M X (.UnaryOp op a pos) (eUn g fa) := fun hK hM =>
 peI (Bf ho (ha hK hM)) fun _ _ _ q => De (hg hK) q
theorem bx {op : CmpOp} {r : R2} {g : PyData → PyData → R OD} (ho : OpR X (compareOp op) r) (hg : X.K = M.K → Ok2 M r g) (ha : DE M X a fa) (hb : DE M X b fb) (hm : behindInMarks op b = false) : DT M X (.Compare a [op] [b] pos) (ba (eOp g fa fb)) := fun hK hM =>
 ptI (wb ho (ha hK hM) (hb hK hM) hm) fun σ H Q q => by
  obtain ⟨F, ρ, fp, S, p⟩ := sS q;exact yP (hg hK) ⟨F, ρ, fp, S, p⟩
theorem gD (h : DE M X e fa) (he : ∀ whole, isTrue e X.env whole = (do let v ← whole; standAt e.pos; holding [v] (truthy v)) := by intro _; rfl) : DT M X e (ba fa) := fun hK hM => ptI (xH (h hK hM) he) fun _ _ _ q => d_b q
theorem gW (h : DT M X a ta) : DT M X (.UnaryOp .Not a pos) (hG ta) := fun hK hM => ptI (yN (h hK hM)) fun _ _ _ q => zT q
theorem m9 (h : DT M X a ta) : DW M X (.BoolOp .And [a] pos) ta := fun hK hM => vF (h hK hM)
theorem iJ (h : DT M X a ta) : DW M X (.BoolOp .Or [a] pos) ta := fun hK hM => yi (h hK hM)
theorem o5 {rest : List Expr} (h : DT M X a ta) (k : DW M X (.BoolOp .And (b :: rest) pos) tb) : DW M X (.BoolOp .And (a :: b :: rest) pos) (kE ta tb) := fun hK hM => pwI (yZ (h hK hM) (k hK hM)) fun _ _ _ q => xj q
theorem jK {rest : List Expr} (h : DT M X a ta) (k : DW M X (.BoolOp .Or (b :: rest) pos) tb) : DW M X (.BoolOp .Or (a :: b :: rest) pos) (j6 ta tb) := fun hK hM => pwI (Cs (h hK hM) (k hK hM)) fun _ _ _ q => AX q
theorem lh (h : DW M X e ta) : DT M X e ta := fun hK hM => (h hK hM).pt
theorem yu {op} (h : DE M X a fa) : DE M X (.BoolOp op [a] pos) fa := fun hK hM => sf (h hK hM)
theorem xv {rest : List Expr} (h : DE M X a fa) (k : DE M X (.BoolOp .And (b :: rest) pos) fb) : DE M X (.BoolOp .And (a :: b :: rest) pos) (tM fa fb) := fun hK hM => peI (tN (h hK hM) (k hK hM)) fun _ _ _ q => B5 q
theorem zu (h : DE M X a fa) : DE M X (.UnaryOp .Not a pos) (si fa) := fun hK hM => peI (uc (h hK hM)) fun _ _ _ q => AJ q
theorem aj : DA M X [] av := fun _ _ => paI gO fun _ _ _ q => y_ q
theorem ae (h : DE M X e fa) (r : DA M X es al) (hs : starEach (e :: es) X.env = (false, eval e X.env) :: starEach es X.env := by rfl) : DA M X (e :: es) (af fa al) := fun hK hM => paI (dM (h hK hM) (r hK hM) hs) fun _ _ _ q => vd q
theorem cZ {x1} (h : DA M X es al) : DE M X (.Tuple es x1 pos) (fu al) := fun hK hM => peI (pO (h hK hM)) fun _ _ _ q => Cz q
theorem b8 (h : DA M X es al) : DE M X (.List es pos) (eK al) := fun hK hM => peI (yE (h hK hM)) fun _ _ _ q => Bw q
theorem iW : DO M X none jU := fun _ _ => poI vn fun _ _ _ q => vH q
theorem fA (h : DE M X e fa) : DO M X (some e) (gw fa) := fun hK hM => poI (uO (h hK hM)) fun _ _ _ q => uS q
theorem ky {r : V → Option Int → Option Int → Hp → VK → Prop} {g : PyData → Option Int → Option Int → R OD} {lo hi : Option Expr} {fl fh : Fo} {p2 : Pos} (hr : SlR X r) (hg : X.K = M.K → OkS M r g) (h : DE M X e fa) (hl : DO M X lo fl) (hh : DO M X hi fh) :
  DE M X (.Subscript e (.Slice lo hi none p2) pos) (eSl g fa fl fh) := fun hK hM => peI (sE hr (h hK hM) (hl hK hM) (hh hK hM)) fun _ _ _ q => Dt (hg hK) q
theorem aD {r : R2} {g : PyData → PyData → R OD} (hr : IxR X r) (hg : X.K = M.K → Ok2 M r g) (ha : DE M X a fa) (hb : DE M X b fb) (hs : j9 b) : DE M X (.Subscript a b pos) (eOp g fa fb) := fun hK hM =>
 peI (nH hr (ha hK hM) (hb hK hM) hs) fun _ _ _ q => yP (hg hK) q
theorem aY {id : String} {x : Str} {p : Pos} {r : List V → Hp → VK → Prop} {g : List PyData → R OD} (hc : dZ X (.builtin id) r) (ho : X.K = M.K → OkC M r g) (hg : Gl X x) (hm : X.mg x = none) (hv : bootBuiltins x = some (.builtin id)) (ha : DA M X (e :: es) al)
  (hn : x ≠ "__name__" := by decide) (hdb : (x == ("__debug__" : Str)) = false := by decide) (he : starEach (e :: es) X.env = (false, eval e X.env) :: starEach es X.env := by rfl) (hpl : (backTo pos (starEach es X.env)).any (·.1) = false := by rfl) :
  DE M X (.Call (.Name x p) (e :: es) [] pos) (eB g al) := fun hK hM => peI (jf hc hg hm hv (ha hK hM) hn hdb he hpl) fun _ _ _ q => BP (ho hK) q
theorem Au {T : String} {x : Str} {p : Pos} {r : List V → Hp → VK → Prop} {g : List PyData → R OD} (hc : dZ X (.type T) r) (ho : X.K = M.K → OkC M r g) (hg : Gl X x) (hm : X.mg x = none) (hv : bootBuiltins x = some (.type T)) (ha : DA M X (e :: es) al)
  (hn : x ≠ "__name__" := by decide) (hdb : (x == ("__debug__" : Str)) = false := by decide) (he : starEach (e :: es) X.env = (false, eval e X.env) :: starEach es X.env := by rfl) (hpl : (backTo pos (starEach es X.env)).any (·.1) = false := by rfl) :
  DE M X (.Call (.Name x p) (e :: es) [] pos) (eB g al) := fun hK hM => peI (rS hc hg hm hv (ha hK hM) hn hdb he hpl) fun _ _ _ q => BP (ho hK) q
theorem ay {CX : CXT} {k : Nat} {f : Addr} {fd : FuncData} {ps : List Str} {x : Str} {p : Pos} {fn : Fn} (F : FnOk X.prog X.w M.K M.mg X.base CX k f fd ps (sp3 M.K M.mg fn)) (hr : Room k X.A) (hg : Gl X x) (hm : M.mg x = some (.ref f)) (hk : PySem.W.keepIn M.K (.ref f) = true)
  (hb : Binds M.K fd ps []) (hx : Passes CX X M.E) (ha : DA M X (e :: es) al)
  (hdb : (x == ("__debug__" : Str)) = false := by decide) (he : starEach (e :: es) X.env = (false, eval e X.env) :: starEach es X.env := by rfl) (hpl : (backTo pos (starEach es X.env)).any (·.1) = false := by rfl) :
  DE M X (.Call (.Name x p) (e :: es) [] pos) (aK fn al) := fun hK hM => by
 have F' : FnOk X.prog X.w X.K X.mg X.base CX k f fd ps (sp3 M.K M.mg fn) := by
  rw [hK, hM];exact F
 exact peI (u_ F' hr hg (by rw [hM]; exact hm) (by rw [hK]; exact hk) (by rw [hK]; exact hb) .nil hx (ha hK hM) hdb he hpl) fun _ _ _ q => yg q
theorem dv {tg : Expr} (h : DE M X e fa) : DI M X tg e (gB fa) := fun hK hM => by
 have q := qu (tg := tg) (h hK hM);rw [hK] at q;exact fun pins s σ H R' I z => q pins s σ H R' I (xV z)
theorem jS {tg : Expr} {p : Pos} (hg : Gl X "range") (hm : X.mg "range" = none) (h : DE M X a fa) (hs1 : starEach [a] X.env = (false, eval a X.env) :: starEach [] X.env := by rfl) (hs : starEach [a] X.env = [(false, eval a X.env)] := by rfl) : DI M X tg (.Call (.Name "range" p) [a] [] pos) (iR1 fa) := fun hK hM =>
 fun pins s σ H R' I z => qT hg hm ((ae h aj hs1) hK hM) hs pins s σ H R' I (CY z)
theorem nG {tg : Expr} {p : Pos} (hg : Gl X "range") (hm : X.mg "range" = none) (h : DE M X a fa) (k : DE M X b fb) (hs1 : starEach [a, b] X.env = (false, eval a X.env) :: starEach [b] X.env := by rfl) (hs0 : starEach [b] X.env = (false, eval b X.env) :: starEach [] X.env := by rfl)
  (hs : starEach [a, b] X.env = [(false, eval a X.env), (false, eval b X.env)] := by rfl) (hs2 : starEach [b] X.env = [(false, eval b X.env)] := by rfl) : DI M X tg (.Call (.Name "range" p) [a, b] [] pos) (iR2 fa fb) := fun hK hM =>
 fun pins s σ H R' I z => rb hg hm ((ae h (ae k aj hs0) hs1) hK hM) hs hs2 pins s σ H R' I (CW z)
theorem qy {ts : List Expr} {tk : Nat} {p tpos : Pos} (hg : Gl X "enumerate") (hm : X.mg "enumerate" = none) (h : DE M X a fa) (hs1 : starEach [a] X.env = (false, eval a X.env) :: starEach [] X.env := by rfl) (hs : starEach [a] X.env = [(false, eval a X.env)] := by rfl) :
  DI M X (.Tuple ts tk tpos) (.Call (.Name "enumerate" p) [a] [] pos) (iEn fa) := fun hK hM => by
 have q := u9 (es := ts) (k := tk) (tpos := tpos) (p := p) (pos := pos) hg hm ((ae h aj hs1) hK hM) hs;rw [hK] at q;exact fun pins s σ H R' I z => q pins s σ H R' I (xF z)
theorem jv {ts : List Expr} {tk : Nat} {p tpos : Pos} (hg : Gl X "zip") (hm : X.mg "zip" = none) (h : DE M X a fa) (k : DE M X b fb) (hs1 : starEach [a, b] X.env = (false, eval a X.env) :: starEach [b] X.env := by rfl) (hs0 : starEach [b] X.env = (false, eval b X.env) :: starEach [] X.env := by rfl)
  (hs : starEach [a, b] X.env = [(false, eval a X.env), (false, eval b X.env)] := by rfl) (hs2 : starEach [b] X.env = [(false, eval b X.env)] := by rfl) : DI M X (.Tuple ts tk tpos) (.Call (.Name "zip" p) [a, b] [] pos) (iZp fa fb) := fun hK hM => by
 have q := x4 (es := ts) (k := tk) (tpos := tpos) (p := p) (pos := pos) hg hm ((ae h (ae k aj hs0) hs1) hK hM) hs hs2;rw [hK] at q;exact fun pins s σ H R' I z => q pins s σ H R' I (A7 z)
theorem jJ {α : Type} {N : List α} {i : Nat} {x : α} (h : N[i]? = some x) : i < N.length := (List.getElem?_eq_some_iff.mp h).1
theorem pgI {tg : Expr} {t t' : TG} (h : PG X tg t) (k : ∀ v σ H Q, t' v σ H Q → t v σ H Q) : PG X tg t' := fun pins s σ H v u Q I r q => h pins s σ H v u Q I r (k _ _ _ _ q)
theorem Ad {tg : List Expr} {t t' : TGs} (h : PGs X tg t) (k : ∀ v σ H Q, t' v σ H Q → t v σ H Q) : PGs X tg t' := fun pins s σ H v u Q I r q => h pins s σ H v u Q I r (k _ _ _ _ q)
theorem aA {i : Nat} {x : Str} (hN : X.N.Nodup) (hi : X.N[i]? = some x) (hx : Loc X.env.scope x) (hf : X.fn x = true ∨ X.env.scope.names.lookup x = some .local := by first | exact .inl rfl | exact .inr rfl | assumption) : DG M X (.Name x pos) [i] (gNm i) := fun _ _ =>
 pgI (mi hN hi hx hf) fun _ _ _ _ q => tE (jJ hi) q
theorem eE : DGs M X [] [] fP := fun _ _ => Ad vY fun _ _ _ _ q => Bn q
theorem aW {is js : List Nat} {g : Fg} {gs : Fgs} (h : DG M X e is g) (k : DGs M X es js gs)
  (hs : (assignEach (e :: es) X.env).map (·.2) = assign e X.env :: (assignEach es X.env).map (·.2) := by rfl) : DGs M X (e :: es) (is ++ js) (bC g gs) := fun hK hM =>
 Ad (uo (h hK hM) (k hK hM) hs) fun _ _ _ _ q => xy q
theorem fU {is : List Nat} {gs : Fgs} {k n : Nat} (hc : X.calm = true) (h : DGs M X es is gs) (hn : (assignEach es X.env).length = n := by rfl) (hst : (assignEach es X.env).findIdx? (·.1) = none := by rfl) : DG M X (.Tuple es k pos) is (gTp n gs) := fun hK hM => by
 have q := zt (pos := pos) (k := k) hc (h hK hM) hn hst;rw [hK] at q;exact pgI q fun _ _ _ _ z => Cn z
variable {st : Stmt} {rest sa sb : List Stmt} {f g : Fs}
theorem bQ : DSs M X [] sNx := fun _ _ => Bd uN fun _ _ _ q => zj q
theorem ai (h : DS M X st f) (k : DSs M X rest g) : DSs M X (st :: rest) (aC f g) := fun hK hM => Bd (su (h hK hM) (k hK hM)) fun _ _ _ q => Cm q
theorem ar (h : DS M X st f) : DSs M X [st] f := fun hK hM => qq (h hK hM)
theorem uw : DS M X st zh := fun _ _ => psI uh fun _ _ _ q => Bg q
theorem mJ (h : DE M X e fa) (hs : swapsWith e none pos.line X.env = pure false := by rfl) : DS M X (.Expr e pos) (lY fa) := fun hK hM => psI (qz (h hK hM) hs) fun _ _ _ q => zf q
theorem bw (h : DE M X e fa) : DS M X (.Return (some e) pos) (dE fa) := fun hK hM => psI (o6 (h hK hM)) fun _ _ _ q => AR q
theorem eG (i : Nat) {x : Str} {p : Pos} (hN : X.N[i]? = some x := by rfl) (hv : Vis X.env.scope x := by first | exact Or.inl rfl | exact Or.inr (Or.inl rfl) | exact Or.inr (Or.inr rfl)) (hd : (x == ("__debug__" : Str)) = false := by decide)
  (hcd : (x == ("__classdict__" : Str)) = false := by decide) : DS M X (.Return (some (.Name x p)) pos) (fv i) := fun _ _ => psI (o6 (d_ hN hv hd hcd)) fun _ _ _ q => yh q
theorem dS (h : DT M X c ta) (ha : DSs M X sa f) (hb : DSs M X sb g) : DS M X (.If c sa sb pos) (sIf ta f g) := fun hK hM => psI (Ap (h hK hM) (ha hK hM) (hb hK hM)) fun _ _ _ q => C_ q
theorem jB (i : Nat) (h : DS M X st f) : DS M X st (jx i f) := fun hK hM => psI (h hK hM) fun _ _ _ q => Bj q
theorem ax {i : Nat} {x : Str} {p : Pos} (hN : X.N.Nodup) (hi : X.N[i]? = some x) (hx : Loc X.env.scope x) (h : DE M X e fa) (hs : swapsWith e (some (.Name x p)) pos.line X.env = pure false := by rfl)
  (hf : X.fn x = true ∨ X.env.scope.names.lookup x = some .local := by first | exact .inl rfl | exact .inr rfl | assumption) : DS M X (.Assign [.Name x p] e pos) (aQ i fa) := fun hK hM =>
 psI (ua hN hi hx (h hK hM) hs hf) fun _ _ _ q => sM (jJ hi) q
theorem zb {tg : Expr} {is : List Nat} {gg : Fg} (h : DE M X e fa) (hg : DG M X tg is gg) (hs : swapsWithSole [tg] e pos.line X.env = pure false := by rfl) (hw : swappedStores [tg] e X.env = pure none := by rfl) (h1 : (assignEach [tg] X.env).map (·.2) = [assign tg X.env] := by rfl) : DS M X (.Assign [tg] e pos) (rB fa gg) := fun hK hM =>
 psI (oU (h hK hM) (hg hK hM) hs hw h1) fun _ _ _ q => wM q
theorem xJ {i : Nat} {x : Str} {p : Pos} {op : Operator} {ti : TIp} {gd : PyData → PyData → R OD} (hN : X.N.Nodup) (hi : X.N[i]? = some x) (hx : Loc X.env.scope x) (h : DE M X e fa) (ho : PIp X op ti) (hg : X.K = M.K → Ok2 M ti gd)
  (hf : X.fn x = true ∨ X.env.scope.names.lookup x = some .local := by first | exact .inl rfl | exact .inr rfl | assumption) : DS M X (.AugAssign (.Name x p) op e pos) (qS i gd fa) := fun hK hM =>
 psI (xP hN hi hx (h hK hM) ho hf) fun _ _ _ q => An (jJ hi) (hg hK) q
theorem cH {tg iter : Expr} {it : Fi} {is : List Nat} {gg : Fg} {body : List Stmt} (hc : X.calm = true) (hp : PassesOwn (model X.prog X.w) X.A X.env X.xe) (hi : DI M X tg iter it) (hg : DG M X tg is gg) (hb : DSs M X body f) (hs : ∀ x, foldedSetIterable iter X.env x = pure x := by intro _; rfl) : DS M X (.For tg iter body [] pos) (eM it gg f) := fun hK hM =>
 psI (yA hp hc (hi hK hM) (hg hK hM) (hb hK hM) hs) fun _ _ _ q => Ah q
theorem kJ {body : List Stmt} (hp : PassesOwn (model X.prog X.w) X.A X.env X.xe) (h : DT M X c ta) (hb : DSs M X body f) : DS M X (.While c body [] pos) (eR ta f) := fun hK hM =>
 psI (tX hp (h hK hM) (hb hK hM)) fun _ _ _ q => vp q
variable {x : Str} {p ap cp : Pos}
theorem Av {o : Expr} {to : TE} {t : TA} {name : Str} {id : String} {r : V → List V → Hp → VK → Prop} (slot : Slot "list" name id) (hty : typeOf (.builtin id) = pure (.type "method_descriptor")) (hm : MtR X id r) (ho : PE X o to) (ha : PA X [e] t) (k : ∀ D σ H, tS M X.N.length f D σ H → ou (tBM M.K "list" r to t) D σ H)
  (hbase : attributeBase o name X.env (eval o X.env) = eval o X.env)
  (hfew : ((backTo cp (starEach [e] X.env)).all (fun x => !x.1) && (backToKw cp (keywordEach [] X.env)).all (fun x => x.1.isSome) && decide (([e] : List Expr).length + ([] : List Keyword).length + (if ([] : List Keyword).isEmpty then 0 else 1) < 30)) = true)
  (hline : (ap.endLine == cp.line) = true) (hs : starEach [e] X.env = (false, eval e X.env) :: starEach [] X.env) (hplain : (backTo cp (starEach [] X.env)).any (·.1) = false)
  (hsw : swapsWith (.Call (.Attribute o name ap) [e] [] cp) none pos.line X.env = pure false) (hK : X.K = M.K) : PS X (.Expr (.Call (.Attribute o name ap) [e] [] cp) pos) (tS M X.N.length f) := by
 have q := xa (apos := ap) (cpos := cp) PySem.F.plainAttrs_list slot hty hm ho ha hbase hfew hline hs hplain;rw [hK] at q;exact psI (qz q hsw) k
theorem AN (h : DE M X e fa) (hs : starEach [e] X.env = (false, eval e X.env) :: starEach [] X.env) (hK : X.K = M.K) (hM : X.mg = M.mg) : PA X [e] (g9 (tD M X.N.length fa) nS) := dM (h hK hM) gO hs
theorem eu (i : Nat) (h : DE M X e fa) (hN : X.N[i]? = some x := by rfl) (hv : Vis X.env.scope x := by first | exact Or.inl rfl | exact Or.inr (Or.inl rfl) | exact Or.inr (Or.inr rfl)) (hd : (x == ("__debug__" : Str)) = false := by decide) (hcd : (x == ("__classdict__" : Str)) = false := by decide)
  (hbase : attributeBase (.Name x p) "append" X.env (eval (.Name x p) X.env) = eval (.Name x p) X.env := by rfl)
  (hfew : ((backTo cp (starEach [e] X.env)).all (fun x => !x.1) && (backToKw cp (keywordEach [] X.env)).all (fun x => x.1.isSome) && decide (([e] : List Expr).length + ([] : List Keyword).length + (if ([] : List Keyword).isEmpty then 0 else 1) < 30)) = true := by rfl)
  (hline : (ap.endLine == cp.line) = true := by rfl) (hs : starEach [e] X.env = (false, eval e X.env) :: starEach [] X.env := by rfl) (hplain : (backTo cp (starEach [] X.env)).any (·.1) = false := by rfl)
  (hsw : swapsWith (.Call (.Attribute (.Name x p) "append" ap) [e] [] cp) none pos.line X.env = pure false := by rfl) : DS M X (.Expr (.Call (.Attribute (.Name x p) "append" ap) [e] [] cp) pos) (gR i fa) := fun hK hM =>
 Av PySem.F.slot_list_append PySem.F.type_list_append lU (d_ hN hv hd hcd) (AN h hs hK hM) (fun _ _ _ q => A2 q) hbase hfew hline hs hplain hsw hK
theorem yG {tg : Expr} {is : List Nat} {gg : Fg} (i : Nat) (hg : DG M X tg is gg) (hN : X.N[i]? = some x := by rfl) (hv : Vis X.env.scope x := by first | exact Or.inl rfl | exact Or.inr (Or.inl rfl) | exact Or.inr (Or.inr rfl)) (hd : (x == ("__debug__" : Str)) = false := by decide) (hcd : (x == ("__classdict__" : Str)) = false := by decide)
  (hbase : attributeBase (.Name x p) "pop" X.env (eval (.Name x p) X.env) = eval (.Name x p) X.env := by rfl) (hline : (ap.endLine == cp.line) = true := by rfl)
  (hs : swapsWithSole [tg] (.Call (.Attribute (.Name x p) "pop" ap) [] [] cp) pos.line X.env = pure false := by rfl) (hw : swappedStores [tg] (.Call (.Attribute (.Name x p) "pop" ap) [] [] cp) X.env = pure none := by rfl) (h1 : (assignEach [tg] X.env).map (·.2) = [assign tg X.env] := by rfl) :
  DS M X (.Assign [tg] (.Call (.Attribute (.Name x p) "pop" ap) [] [] cp) pos) (qO i gg) := fun hK hM => by
 have q := xU (apos := ap) (cpos := cp) PySem.F.plainAttrs_list PySem.F.slot_list_pop PySem.F.type_list_pop yS (d_ (pos := p) hN hv hd hcd) hbase hline;rw [hK] at q;exact psI (oU q (hg hK hM) hs hw h1) fun _ _ _ z => s_pop z
theorem l8 {p2 : Pos} (i : Nat) (hb : DE M X b fb) (h : DE M X e fa) (hN : X.N[i]? = some x := by rfl) (hv : Vis X.env.scope x := by first | exact Or.inl rfl | exact Or.inr (Or.inl rfl) | exact Or.inr (Or.inr rfl)) (hd : (x == ("__debug__" : Str)) = false := by decide) (hcd : (x == ("__classdict__" : Str)) = false := by decide)
  (hs : swapsWithSole [.Subscript (.Name x p) b p2] e pos.line X.env = pure false := by rfl) (hw : swappedStores [.Subscript (.Name x p) b p2] e X.env = pure none := by rfl)
  (ha : ∀ v, assign (.Subscript (.Name x p) b p2) X.env v = (do
   let ov ← holding [v] (eval (.Name x p) X.env)
   let iv ← holding [v, ov] (eval b X.env)
   standAt p2
   holding [v, ov, iv] (setItem ov iv v)
   release [v, ov, iv] []) := by intro _; rfl) (h1 : (assignEach [.Subscript (.Name x p) b p2] X.env).map (·.2) = [assign (.Subscript (.Name x p) b p2) X.env] := by rfl) : DS M X (.Assign [.Subscript (.Name x p) b p2] e pos) (lz i fb fa) := fun hK hM =>
 psI (oU (h hK hM) (zO (d_ hN hv hd hcd) (hb hK hM) set_list ha) hs hw h1) fun _ _ _ q => Aj q
variable {sc scope : Scope} {outs : List (Nat × Str)} {elt tg iter : Expr} {ifs : List Expr} {it : Fi} {gg : Fg} {is : List Nat} {el : Fe}
theorem fq : DF M X [] e6 := fun _ _ => fun pins s σ H Q I q => tY pins s σ H Q I (by
 obtain ⟨F, ρ, fp, S, p⟩ := q;exact p F H (Ext.refl S.same))
theorem m_ (h : DT M X c ta) : DF M X [c] ta := fun hK hM => ya (h hK hM)
theorem jr (own : List Str) (s : Shared) (H : Hp) (C : Addr) (ex : List Addr) (pins : List (Addr × Obj)) : (cxB X (own ++ outs.map (·.2)) scope s H C ex pins).N.length = own.length + outs.length := by
 show (own ++ outs.map (·.2)).length = _
 rw [List.length_append, List.length_map]
theorem d6 (own : List Str) (B : Blk X sc scope outs) (hcalm : X.calm = true) (hk : ∀ j ∈ is, j < own.length) (hi : DI M X tg iter it)
  (hg : ∀ s H C ex pins, DG M (cxB X (own ++ outs.map (·.2)) scope s H C ex pins) tg is gg) (hc : ∀ s H C ex pins, DF M (cxB X (own ++ outs.map (·.2)) scope s H C ex pins) ifs ta) (he : ∀ s H C ex pins, DE M (cxB X (own ++ outs.map (·.2)) scope s H C ex pins) elt el)
  (hs : ∀ x, foldedSetIterable iter X.env x = pure x := by intro _; rfl) : DE M X (.ListComp elt [⟨tg, iter, ifs, 0⟩] scope pos) (dR it gg ta el own.length (outs.map (·.1))) := fun hK hM =>
 peI (uR (wi := tI M X.N.length it) (g := tG M (own.length + outs.length) is gg) (tc := tT M (own.length + outs.length) ta) (te := tD M (own.length + outs.length) el) own B hcalm (hi hK hM)
  (fun s H C ex pins => by have q := hg s H C ex pins hK hM; rw [jr] at q; exact q) (fun s H C ex pins => by have q := hc s H C ex pins hK hM; rw [jr] at q; exact q) (fun s H C ex pins => by have q := he s H C ex pins hK hM; rw [jr] at q; exact q) hs) fun _ _ _ q => ub hk q
theorem kd {fe : Fe} {i : Nat} {spos : Pos} (own : List Str) (w : ∀ σ H Q, tD M X.N.length fe σ H Q → tD M X.N.length (dR it gg ta el own.length (outs.map (·.1))) σ H Q) (hN : X.N.Nodup) (hix : X.N[i]? = some x) (hx : Loc X.env.scope x) (B : Blk X sc scope outs) (hcalm : X.calm = true) (hk : ∀ j ∈ is, j < own.length) (hi : DI M X tg iter it)
  (hg : ∀ s H C ex pins, DG M (cxB X (own ++ outs.map (·.2)) scope s H C ex pins) tg is gg) (hc : ∀ s H C ex pins, DF M (cxB X (own ++ outs.map (·.2)) scope s H C ex pins) ifs ta) (he : ∀ s H C ex pins, DE M (cxB X (own ++ outs.map (·.2)) scope s H C ex pins) elt el)
  (hsw : swapsWith (.ListComp elt [⟨tg, iter, ifs, 0⟩] scope pos) (some (.Name x p)) spos.line X.env = pure true := by rfl)
  (hs : ∀ x, foldedSetIterable iter X.env x = pure x := by intro _; rfl) (hf : X.fn x = true ∨ X.env.scope.names.lookup x = some .local := by first | exact .inl rfl | exact .inr rfl | assumption) :
  DS M X (.Assign [.Name x p] (.ListComp elt [⟨tg, iter, ifs, 0⟩] scope pos) spos) (aQ i fe) := fun hK hM =>
 psI (qp (wi := tI M X.N.length it) (g := tG M (own.length + outs.length) is gg) (tc := tT M (own.length + outs.length) ta) (te := tD M (own.length + outs.length) el) own hN hix hx B hcalm (hi hK hM)
  (fun s H C ex pins => by have q := hg s H C ex pins hK hM; rw [jr] at q; exact q) (fun s H C ex pins => by have q := hc s H C ex pins hK hM; rw [jr] at q; exact q) (fun s H C ex pins => by have q := he s H C ex pins hK hM; rw [jr] at q; exact q) hsw hs hf) fun D σ H q => by
  have q' := sM (jJ hix) q;exact ub hk (w _ _ _ q')
end
end L3
namespace L3
open PySem L2 PySem.Spec PyProof.Rows
noncomputable def oI (i : Int) : R OD := .ok (.sh (.int i))
noncomputable def oB (b : Bool) : R OD := .ok (.sh (.bool b))
noncomputable def oD (d : PyData) : R OD := .ok (.sh d)
noncomputable def bX : PyData → PyData → R OD
 | .int i, .int j => oI (i + j)
 | .str x, .str y => if x.length + y.length ≤ BIG then oD (.str (x ++ y)) else .bad
 | .list xs, .list ys => if xs.length + ys.length ≤ BIG then .ok (.ol ((xs ++ ys).map OD.sh)) else .bad
 | _, _ => .bad
noncomputable def dB : PyData → PyData → R OD
 | .int i, .int j => oI (i - j)
 | _, _ => .bad
noncomputable def fT (i j : Int) : Bool := (decide (-(2 ^ 64) < i) && decide (i < 2 ^ 64)) || (decide (-(2 ^ 64) < j) && decide (j < 2 ^ 64))
noncomputable def dU : PyData → PyData → R OD
 | .int i, .int j => if fT i j = true then oI (i * j) else .bad
 | .list xs, .int k => if (decide (-(2 ^ 63) ≤ k) && decide (k < 2 ^ 63) && decide (xs.length * k.toNat ≤ BIG)) = true then .ok (.ol ((List.replicate k.toNat xs).flatten.map OD.sh)) else .bad
 | _, _ => .bad
noncomputable def dX : PyData → PyData → R OD
 | .int i, .int j => if 0 < j then oI (i % j) else .bad
 | _, _ => .bad
noncomputable def eN : PyData → PyData → R OD
 | .int i, .int j => if 0 < j ∧ j < 1073741824 then oI (i / j) else .bad
 | _, _ => .bad
noncomputable def Dz : PyData → PyData → R OD
 | .int i, .int j => if 0 ≤ j ∧ j ≤ 1000000 ∧ i.natAbs < 2 ^ 64 then oI (i ^ j.toNat) else .bad
 | _, _ => .bad
noncomputable def eQ : PyData → R OD
 | .int i => oI (-i)
 | _ => .bad
noncomputable def gLt : PyData → PyData → R OD
 | .int i, .int j => oB (decide (i < j))
 | _, _ => .bad
noncomputable def gLe : PyData → PyData → R OD
 | .int i, .int j => oB (decide (i ≤ j))
 | _, _ => .bad
noncomputable def gGt : PyData → PyData → R OD
 | .int i, .int j => oB (decide (j < i))
 | _, _ => .bad
noncomputable def gGe : PyData → PyData → R OD
 | .int i, .int j => oB (decide (j ≤ i))
 | _, _ => .bad
noncomputable def iG (x y : PyData) : R Bool := if (SeqAt.shaped x && SeqAt.shaped y) = true then .ok (PyData.eqv x y) else .bad
noncomputable def eqD : PyData → PyData → R Bool
 | .int i, .int j => .ok (decide (i = j))
 | .str x, .str y => .ok (decide (x = y))
 | .bool x, .bool y => .ok (decide (x = y))
 | x, y => iG x y
noncomputable def gEq (x y : PyData) : R OD := (eqD x y).bind fun b => oB b
noncomputable def gNe (x y : PyData) : R OD := (eqD x y).bind fun b => oB (!b)
noncomputable def iz (o : Option PyData) : R OD := match o with
 | some d => oD d
 | none => .bad
noncomputable def gIx : PyData → PyData → R OD
 | .list xs, .int i => iz (atI xs i)
 | .tuple xs, .int i => iz (atI xs i)
 | .str z, .int i => if z.length ≤ BIG then iz ((atI z.cps.toList i).map fun c => .str ⟨#[c]⟩) else .bad
 | _, _ => .bad
noncomputable def cutD (xs : List PyData) (lo hi : Option Int) : List PyData := (xs.drop (HT.sIx xs.length 0 lo)).take (HT.sIx xs.length xs.length hi - HT.sIx xs.length 0 lo)
noncomputable def mq (x : PyData) (lo hi : Option Int) : R OD := match x with
 | .list xs => .ok (.ol ((cutD xs lo hi).map OD.sh))
 | _ => .bad
noncomputable def cB : List PyData → R OD
 | [.list xs] => oI xs.length
 | [.tuple xs] => oI xs.length
 | [.str x] => if x.length ≤ BIG then oI x.length else .bad
 | _ => .bad
noncomputable def l5 : List PyData → R OD
 | [.int i, .int j] => oI (if j < i then j else i)
 | _ => .bad
noncomputable def lG : List PyData → R OD
 | [.int i, .int j] => oI (if i < j then j else i)
 | _ => .bad
noncomputable def dP : List PyData → Option (List Int)
 | [] => some []
 | .int i :: r => (dP r).map (i :: ·)
 | _ :: _ => none
theorem f_ : ∀ ns : List Int, dP (ns.map PyData.int) = some ns
 | [] => rfl
 | n :: ns => by rw [List.map_cons, dP, f_ ns]; rfl
theorem iI : ∀ {ds : List PyData} {ns : List Int}, dP ds = some ns → ds = ns.map PyData.int
 | [], ns, h => by cases h; rfl
 | .int i :: r, ns, h => by
  rw [dP] at h;obtain ⟨ms, h1, rfl⟩ := Option.map_eq_some_iff.mp h;rw [iI h1];rfl
 | .none :: _, _, h => by cases h
 | .bool _ :: _, _, h => by cases h
 | .str _ :: _, _, h => by cases h
 | .list _ :: _, _, h => by cases h
 | .tuple _ :: _, _, h => by cases h
 | .dict _ :: _, _, h => by cases h
noncomputable def iO : Int → List Int → Int
 | m, [] => m
 | m, n :: ns => iO (if m < n then n else m) ns
noncomputable def mK : Int → List Int → Int
 | m, [] => m
 | m, n :: ns => mK (if n < m then n else m) ns
noncomputable def jI : List PyData → R OD
 | [.list ds] => match dP ds with
  | some (n :: ns) => oI (iO n ns)
  | _ => .bad
 | _ => .bad
noncomputable def i_ : List PyData → R OD
 | [.list ds] => match dP ds with
  | some (n :: ns) => oI (mK n ns)
  | _ => .bad
 | _ => .bad
noncomputable def j_ : List PyData → R OD
 | [.list ds] => .ok (.ol (ds.map OD.sh))
 | [.tuple ds] => .ok (.ol (ds.map OD.sh))
 | _ => .bad
noncomputable def CF : List PyData → R OD
 | [.int i] => oI i
 | [.bool b] => oI (if b then 1 else 0)
 | _ => .bad
noncomputable def lB (ds : List PyData) (y : PyData) : R OD := match y with
 | .int z => match dP ds with
  | some ns => if z ∈ ns then oI (ns.idxOf z : Nat) else .bad
  | none => .bad
 | _ => .bad
noncomputable def wB : PyData → Option String
 | .int _ => some "int"
 | .bool _ => some "bool"
 | .str _ => some "str"
 | .list _ => some "list"
 | .tuple _ => some "tuple"
 | .none => some "NoneType"
 | .dict _ => none
noncomputable def uY (T : String) (d : PyData) : Option Bool := match wB d with
 | some U => if T = "int" ∨ T = "bool" ∨ T = "str" ∨ T = "list" ∨ T = "tuple" then some (decide (T = U ∨ (U = "bool" ∧ T = "int"))) else none
 | none => none
noncomputable def gQ (T : String) (x : PyData) : R OD := match uY T x with
 | some b => oB b
 | none => .bad
section
variable {M : Mx} {X : Cx}
theorem okI {F H : Hp} {fp : List Addr} {Q : VK} {i : Int} (s : aI F H) (p : az M H fp (OkE M F H Q) (oI i)) : Q (.int i) H := OkE.val s p (.int i)
theorem okB {F H : Hp} {fp : List Addr} {Q : VK} {i : Bool} (s : aI F H) (p : az M H fp (OkE M F H Q) (oB i)) : Q (.bl i) H := OkE.val s p (.bl i)
noncomputable def wD (K : PySem.W.Frag) : R2 := fun x y H Q => ∃ l b xs zs, x = .ref l ∧ y = .ref b ∧ RdK K H l xs ∧ RdK K H b zs ∧ xs.length + zs.length ≤ sizeLine ∧ ∀ p, H p = none → Q (.ref p) (upd H p (.lst (xs ++ zs)))
theorem vG : OpR X (binaryOp .Add) (wD X.K) := by
 intro pins s σ H x y v u Q I rx ry h;obtain ⟨l, b, xs, zs, rfl, rfl, hH, hB, hz, q⟩ := h;cases rx;cases ry;obtain ⟨z, its, n, r, hl, e⟩ := hH.obj I;obtain ⟨z2, its2, n2, r2, hl2, e2⟩ := hB.obj I;refine PySem.P.add_list e e2 ?_ (by rw [List.size_toArray, List.size_toArray]; lia)
 have ea : its.toArray ++ its2.toArray = (its ++ its2).toArray := by simp
 rw [ea];exact ⟨.ref _, _, I.lnew (t' := s.toks) (r.append r2) (by rw [List.length_append]; lia), rfl, q _ I.fresh⟩
noncomputable def wQ (K : PySem.W.Frag) : R2 := fun x y H Q => rI0 (fun i j => .int (i + j)) x y H Q ∨ (∃ i j, x = .str i ∧ y = .str j ∧ i.length + j.length ≤ sizeLine ∧ Q (.str (i ++ j)) H) ∨ wD K x y H Q
theorem aG : OpR X (binaryOp .Add) (wQ X.K) := zk.or (oT.or vG)
theorem aN (hK : X.K = M.K) : Ok2 M (wQ X.K) bX := by
 rw [hK];intro x y dx dy F H fp Q s rx ry p;unfold bX at p;split at p
 ·cases rx; cases ry
  exact .inl ⟨_, _, rfl, rfl, okI s p⟩
 ·cases rx; cases ry
  split at p
  ·rename_i hl
   exact .inr (.inl ⟨_, _, rfl, rfl, gN hl, OkE.val s p (.str _)⟩)
  ·exact p.elim
 ·split at p
  ·rename_i hl
   cases rx with
   | lst h1 h2 =>
    cases ry with
    | lst h3 h4 => exact .inr (.inr ⟨_, _, _, _, rfl, rfl, h1.same s, h3.same s, by rw [RepAll.len h2, RepAll.len h4]; exact gN hl, fun a ha => OkE.lstD s p (RepAll.app h2 h4) ha⟩)
  ·exact p.elim
 ·exact p.elim
theorem d9 : Ok2 M (rI0 fun i j => .int (i - j)) dB := by
 intro x y dx dy F H fp Q s rx ry p;unfold dB at p;split at p
 ·cases rx; cases ry
  exact ⟨_, _, rfl, rfl, okI s p⟩
 ·exact p.elim
theorem va {i j : Int} (h : fT i j = true) : tq i j := by
 unfold fT at h;rw [Bool.or_eq_true, Bool.and_eq_true, Bool.and_eq_true, decide_eq_true_eq, decide_eq_true_eq, decide_eq_true_eq, decide_eq_true_eq] at h;exact h
noncomputable def wF (K : PySem.W.Frag) : R2 := fun x y H Q => ∃ l k xs, x = .ref l ∧ y = .int k ∧ RdK K H l xs ∧ -(2 ^ 63) ≤ k ∧ k < 2 ^ 63 ∧ xs.length * k.toNat ≤ sizeLine ∧
 ∀ p, H p = none → Q (.ref p) (upd H p (.lst (List.replicate k.toNat xs).flatten))
theorem vg : OpR X (binaryOp .Mult) (wF X.K) := by
 intro pins s σ H x y v u Q I rx ry h;obtain ⟨l, k, xs, rfl, rfl, hH, h1, h2, hz, q⟩ := h;cases rx;obtain ⟨t, rfl⟩ := ry;obtain ⟨z, its, n, r, hl, e⟩ := hH.obj I;have hlen : its.toArray.size * k.toNat ≤ sizeLine := by rw [List.size_toArray, ← hl]; exact hz
 have hcap : ¬ its.toArray.size * k.toNat > (2 ^ 63 - 1) / 8 := by
  have : (sizeLine : Nat) ≤ (2 ^ 63 - 1) / 8 := by decide
  lia
 have hfit : ¬ (!Builtin.List.listFitsIndex k) = true := by
  rw [fitsIndex_both h1 h2];exact Bool.false_ne_true
 have hlong : ¬ Builtin.List.listTooLong (its.toArray.size * k.toNat) = true := by
  rw [oE hlen];exact Bool.false_ne_true
 have hnew : List.foldl (fun x1 x2 => x1 ++ x2) #[] (List.replicate (if its.toArray.isEmpty = true then 0 else k.toNat) its.toArray) = (List.replicate k.toNat its).flatten.toArray := by
  have f0 : ∀ m : Nat, List.foldl (fun x1 x2 => x1 ++ x2) #[] (List.replicate m its.toArray) = (List.replicate m its).flatten.toArray := fun m => by
   have := foldl_rep its m [];rw [List.nil_append] at this;exact this
  rw [f0];cases its with
  | nil => simp
  | cons a r' => rw [if_neg (by simp)]
 refine wpAny_binaryOp_repeat_ref (T := "list") (U := "int") (by decide) ⟨_, e, rfl⟩ (fun s' => typeIs_int s' k t) noFill_list_mul F.fills_int_mul F.slot_int_rmul repeat_list F.slot_int_index.lookup
  (call_meets F.slot_int_rmul (typeIs_int s k t) F.entry_int_rmul (F.args_int_rmul_2 _ _) (int___rmul___int_list k t l its.toArray n)
   ⟨e, rfl, ⟨_, e, rfl⟩, call_meets F.slot_list_mul ⟨_, e, rfl⟩ F.entry_list_mul (F.args_list_mul_2 _ _) (AutoListH.list___mul___list_int_3 l its.toArray n k t hfit hcap hlong) ⟨e, ?_⟩⟩)
 rw [hnew];exact ⟨.ref _, _, I.lnew (t' := s.toks) (r.rep k.toNat) (by rw [len_rep, Nat.mul_comm]; exact hz), rfl, q _ I.fresh⟩
noncomputable def wZ (K : PySem.W.Frag) : R2 := fun x y H Q => rI tq (fun i j => .int (i * j)) x y H Q ∨ wF K x y H Q
theorem bA : OpR X (binaryOp .Mult) (wZ X.K) := yd.or vg
theorem RepAll.rep {K : PySem.W.Frag} {F : Hp} {vs : List V} {ds : List PyData} (h : RepAll K F vs ds) : ∀ k : Nat, RepAll K F (List.replicate k vs).flatten (List.replicate k ds).flatten
 | 0 => .nil
 | k + 1 => by
  rw [List.replicate_succ, List.replicate_succ, List.flatten_cons, List.flatten_cons];exact RepAll.app h (RepAll.rep h k)
theorem cb (hK : X.K = M.K) : Ok2 M (wZ X.K) dU := by
 rw [hK];intro x y dx dy F H fp Q s rx ry p;unfold dU at p;split at p
 ·cases rx; cases ry
  split at p
  ·rename_i hc
   exact .inl ⟨_, _, rfl, rfl, va hc, okI s p⟩
  ·exact p.elim
 ·cases ry
  split at p
  ·rename_i hc
   rw [Bool.and_eq_true, Bool.and_eq_true, decide_eq_true_eq, decide_eq_true_eq, decide_eq_true_eq] at hc;cases rx with
   | lst h1 h2 => exact .inr ⟨_, _, _, rfl, rfl, h1.same s, hc.1.1, hc.1.2, by rw [RepAll.len h2]; exact gN hc.2, fun a ha => OkE.lstD s p (RepAll.rep h2 _) ha⟩
  ·exact p.elim
 ·exact p.elim
theorem bG : Ok2 M (rI (fun _ j => 0 < j) fun i j => .int (i % j)) dX := by
 intro x y dx dy F H fp Q s rx ry p;unfold dX at p;split at p
 ·cases rx; cases ry
  split at p
  ·rename_i hc
   exact ⟨_, _, rfl, rfl, hc, okI s p⟩
  ·exact p.elim
 ·exact p.elim
theorem cc : Ok2 M (rI CJ fun i j => .int (i / j)) eN := by
 intro x y dx dy F H fp Q s rx ry p;unfold eN at p;split at p
 ·cases rx; cases ry
  split at p
  ·rename_i hc
   exact ⟨_, _, rfl, rfl, hc, okI s p⟩
  ·exact p.elim
 ·exact p.elim
theorem dG : Ok1 M (rU fun i => .int (-i)) eQ := by
 intro x dx F H fp Q s rx p;unfold eQ at p;split at p
 ·cases rx
  exact ⟨_, rfl, okI s p⟩
 ·exact p.elim
theorem lL : Ok2 M (rI0 fun i j => .bl (decide (i < j))) gLt := by
 intro x y dx dy F H fp Q s rx ry p;unfold gLt at p;split at p
 ·cases rx; cases ry
  exact ⟨_, _, rfl, rfl, okB s p⟩
 ·exact p.elim
theorem nI : Ok2 M (rI0 fun i j => .bl (decide (j < i))) gGt := by
 intro x y dx dy F H fp Q s rx ry p;unfold gGt at p;split at p
 ·cases rx; cases ry
  exact ⟨_, _, rfl, rfl, okB s p⟩
 ·exact p.elim
theorem oP : Ok2 M (rI0 fun i j => .bl (decide (j ≤ i))) gGe := by
 intro x y dx dy F H fp Q s rx ry p;unfold gGe at p;split at p
 ·cases rx; cases ry
  exact ⟨_, _, rfl, rfl, okB s p⟩
 ·exact p.elim
mutual
theorem Rep.to2 {K : PySem.W.Frag} {H : Hp} {v : V} {d : PyData} : Rep K H v d → d.canLay0 = true → L2.Rep K H v d
 | .non, _ => .non
 | .bl b, _ => .bl b
 | .int i, _ => .int i
 | .str x, _ => .str x
 | .lst h r, c => .lst h.sq (RepAll.to2 r (by rw [PyData.canLay0] at c; exact c))
 | .tup h r, c => .tup (SqT.of h) (RepAll.to2 r (by rw [PyData.canLay0] at c; exact c))
 | .dct _ _ _, c => by
  unfold dD at c;rw [PyData.canLay0] at c;cases c
theorem RepAll.to2 {K : PySem.W.Frag} {H : Hp} {vs : List V} {ds : List PyData} : RepAll K H vs ds → PyData.canLayAll0 ds = true → L2.RepAll K H vs ds
 | .nil, _ => .nil
 | .cons h r, c => by
  rw [PyData.canLayAll0, Bool.and_eq_true] at c;exact .cons (Rep.to2 h c.1) (RepAll.to2 r c.2)
end
noncomputable def Ar (K : PySem.W.Frag) : R2 := fun x y H Q => rEq x y H Q ∨ Bt K x y H Q
noncomputable def AV (K : PySem.W.Frag) : R2 := fun x y H Q => rNe x y H Q ∨ Bp K x y H Q
theorem hZ (hu : X.A.units + 64 < cLine) : OpR X (compareOp .Eq) (Ar X.K) := CH.or (xG hu)
theorem iB (hu : X.A.units + 64 < cLine) : OpR X (compareOp .NotEq) (AV X.K) := CA.or (zx hu)
theorem sC {K : PySem.W.Frag} {F H : Hp} {fp : List Addr} {x y : V} {dx dy : PyData} {P : Bool → Prop} (rx : Rep K F x dx) (ry : Rep K F y dy) (p : az M H fp P (eqD dx dy)) :
  (zY x y = true ∧ P (decide (x = y))) ∨ (SeqAt.shaped dx = true ∧ SeqAt.shaped dy = true ∧ P (PyData.eqv dx dy)) := by
 unfold eqD at p;split at p
 ·cases rx; cases ry
  refine .inl ⟨rfl, ?_⟩;have e : ∀ i j : Int, decide (V.int i = V.int j) = decide (i = j) := fun i j => by
   by_cases h : i = j
   ·rw [h]; simp
   ·rw [decide_eq_false h, decide_eq_false fun z => h (V.int.inj z)]
  rw [e];exact p
 ·cases rx; cases ry
  refine .inl ⟨rfl, ?_⟩;have e : ∀ i j : Str, decide (V.str i = V.str j) = decide (i = j) := fun i j => by
   by_cases h : i = j
   ·rw [h]; simp
   ·rw [decide_eq_false h, decide_eq_false fun z => h (V.str.inj z)]
  rw [e];exact p
 ·cases rx; cases ry
  refine .inl ⟨rfl, ?_⟩;have e : ∀ i j : Bool, decide (V.bl i = V.bl j) = decide (i = j) := fun i j => by
   by_cases h : i = j
   ·rw [h]; simp
   ·rw [decide_eq_false h, decide_eq_false fun z => h (V.bl.inj z)]
  rw [e];exact p
 ·unfold iG at p
  split at p
  ·rename_i h
   rw [Bool.and_eq_true] at h;exact .inr ⟨h.1, h.2, p⟩
  ·exact p.elim
theorem jO (hK : X.K = M.K) : Ok2 M (Ar X.K) gEq := by
 rw [hK];intro x y dx dy F H fp Q s rx ry p;rcases sC rx ry (az.bind p) with ⟨h, q⟩ | ⟨h1, h2, q⟩
 ·exact .inl ⟨h, okB s q⟩
 ·exact .inr ⟨dx, dy, (rx.same s).to2 (SeqAt.canLay_of_shaped h1), (ry.same s).to2 (SeqAt.canLay_of_shaped h2), h1, h2, okB s q⟩
theorem kR (hK : X.K = M.K) : Ok2 M (AV X.K) gNe := by
 rw [hK];intro x y dx dy F H fp Q s rx ry p;rcases sC rx ry (az.bind p) with ⟨h, q⟩ | ⟨h1, h2, q⟩
 ·exact .inl ⟨h, okB s q⟩
 ·exact .inr ⟨dx, dy, (rx.same s).to2 (SeqAt.canLay_of_shaped h1), (ry.same s).to2 (SeqAt.canLay_of_shaped h2), h1, h2, okB s q⟩
theorem qd {K : PySem.W.Frag} {F : Hp} {vs : List V} {ds : List PyData} {i : Int} {d : PyData} (h : RepAll K F vs ds) (e : atI ds i = some d) : ∃ v, atI vs i = some v ∧ Rep K F v d := by
 unfold atI at e ⊢;rw [RepAll.len h];cases q : ixN ds.length i with
 | none => rw [q] at e; cases e
 | some j =>
  rw [q] at e;obtain ⟨v, h1, h2⟩ := RepAll.get h e;exact ⟨v, h1, h2⟩
theorem aE (hK : X.K = M.K) : Ok2 M (rIx X.K) gIx := by
 rw [hK];intro x y dx dy F H fp Q s rx ry p;unfold gIx at p;split at p
 ·cases ry
  unfold iz at p;split at p
  ·rename_i d hd
   cases rx with
   | lst h1 h2 =>
    obtain ⟨v, e, r⟩ := qd h2 hd;exact .inl ⟨_, _, _, v, rfl, rfl, (h1.same s).sq, e, OkE.val s p r⟩
  ·exact p.elim
 ·cases ry
  unfold iz at p;split at p
  ·rename_i d hd
   cases rx with
   | tup h1 h2 =>
    obtain ⟨v, e, r⟩ := qd h2 hd;exact .inr (.inl ⟨_, _, _, v, rfl, rfl, SqT.of (s _ _ h1), e, OkE.val s p r⟩)
  ·exact p.elim
 ·cases ry
  cases rx;split at p
  ·rename_i hl
   unfold iz at p;split at p
   ·rename_i d hd
    obtain ⟨c, hc, rfl⟩ := Option.map_eq_some_iff.mp hd;exact .inr (.inr ⟨_, _, c, rfl, rfl, gN hl, hc, OkE.val s p (.str _)⟩)
   ·exact p.elim
  ·exact p.elim
 ·exact p.elim
theorem jj (hK : X.K = M.K) : OkS M (Ca X.K) mq := by
 rw [hK];intro x lo hi dx F H fp Q s rx p;unfold mq at p;split at p
 ·cases rx with
  | @lst a vs ds h1 h2 =>
   refine ⟨a, vs, rfl, (h1.same s).sq, fun q hq => ?_⟩
   refine OkE.lstD s p ?_ hq;unfold sk cutD;rw [RepAll.len h2];exact RepAll.take _ (RepAll.drop _ h2)
 ·exact p.elim
noncomputable def wo (K : PySem.W.Frag) : List V → Hp → VK → Prop := fun xs H Q => (∃ p ys, xs = [.ref p] ∧ (SqL K H p ys ∨ SqT K H p ys) ∧ Q (.int ys.length) H) ∨ (∃ z, xs = [.str z] ∧ z.length ≤ sizeLine ∧ Q (.int z.length) H)
theorem aB : dZ X (.builtin "len") (wo X.K) := nc.or mQ
theorem aX (hK : X.K = M.K) : OkC M (wo X.K) cB := by
 rw [hK];intro x dx F H fp Q s rx p;unfold cB at p;split at p
 ·cases rx with
  | cons h r =>
   cases r;cases h with
   | lst h1 h2 => exact .inl ⟨_, _, rfl, .inl (h1.same s).sq, by rw [RepAll.len h2]; exact okI s p⟩
 ·cases rx with
  | cons h r =>
   cases r;cases h with
   | tup h1 h2 => exact .inl ⟨_, _, rfl, .inr (SqT.of (s _ _ h1)), by rw [RepAll.len h2]; exact okI s p⟩
 ·cases rx with
  | cons h r =>
   cases r;cases h;split at p
   ·rename_i hl
    exact .inr ⟨_, rfl, gN hl, okI s p⟩
   ·exact p.elim
 ·exact p.elim
theorem oy {K : PySem.W.Frag} {F : Hp} {x : List V} {i j : Int} (r : RepAll K F x [.int i, .int j]) : x = [.int i, .int j] := by
 cases r with
 | cons h r =>
  cases h;cases r with
  | cons h r =>
   cases h;cases r;rfl
theorem l6 : OkC M (fun xs H Q => ∃ i j, xs = [.int i, .int j] ∧ Q (.int (if j < i then j else i)) H) l5 := by
 intro x dx F H fp Q s rx p;unfold l5 at p;split at p
 ·exact ⟨_, _, oy rx, okI s p⟩
 ·exact p.elim
theorem ql : OkC M (fun xs H Q => ∃ i j, xs = [.int i, .int j] ∧ Q (.int (if j > i then j else i)) H) lG := by
 intro x dx F H fp Q s rx p;unfold lG at p;split at p
 ·exact ⟨_, _, oy rx, okI s p⟩
 ·exact p.elim
theorem gu : ∀ (ns : List Int) (m : Int), iO m ns ∈ m :: ns ∧ ∀ z ∈ m :: ns, z ≤ iO m ns
 | [], m => ⟨List.mem_cons_self, fun z h => by simp at h; rw [h]; exact Int.le_refl _⟩
 | n :: ns, m => by
  obtain ⟨h1, h2⟩ := gu ns (if m < n then n else m)
  rw [iO];have hm : m ≤ (if m < n then n else m) := by split <;> lia
  have hn : n ≤ (if m < n then n else m) := by split <;> lia
  have ht := h2 _ List.mem_cons_self;refine ⟨?_, fun z hz => ?_⟩
  ·rcases List.mem_cons.mp h1 with h | h
   ·rw [h]
    split <;> simp
   ·simp [h]
  ·rcases List.mem_cons.mp hz with rfl | hz
   ·lia
   ·rcases List.mem_cons.mp hz with rfl | hz
    ·lia
    ·exact h2 z (List.mem_cons_of_mem _ hz)
theorem ig : ∀ (ns : List Int) (m : Int), mK m ns ∈ m :: ns ∧ ∀ z ∈ m :: ns, mK m ns ≤ z
 | [], m => ⟨List.mem_cons_self, fun z h => by simp at h; rw [h]; exact Int.le_refl _⟩
 | n :: ns, m => by
  obtain ⟨h1, h2⟩ := ig ns (if n < m then n else m)
  rw [mK];have hm : (if n < m then n else m) ≤ m := by split <;> lia
  have hn : (if n < m then n else m) ≤ n := by split <;> lia
  have ht := h2 _ List.mem_cons_self;refine ⟨?_, fun z hz => ?_⟩
  ·rcases List.mem_cons.mp h1 with h | h
   ·rw [h]
    split <;> simp
   ·simp [h]
  ·rcases List.mem_cons.mp hz with rfl | hz
   ·lia
   ·rcases List.mem_cons.mp hz with rfl | hz
    ·lia
    ·exact h2 z (List.mem_cons_of_mem _ hz)
theorem nt {K : PySem.W.Frag} {F : Hp} {x : List V} {ds : List PyData} {ns : List Int} (s : aI F H') (r : RepAll K F x [.list ds]) (e : dP ds = some ns) : ∃ a, x = [.ref a] ∧ SqL K H' a (ns.map V.int) := by
 cases r with
 | cons h r =>
  cases r;cases h with
  | lst h1 h2 =>
   rw [iI e] at h2;rw [RepAll.toInts h2] at h1;exact ⟨_, rfl, (h1.same s).sq⟩
theorem kh (hK : X.K = M.K) : OkC M (wg X.K) jI := by
 rw [hK];intro x dx F H fp Q s rx p;unfold jI at p;split at p
 ·split at p
  ·rename_i n ns e
   obtain ⟨a, rfl, h⟩ := nt s rx e;refine ⟨a, n :: ns, rfl, h, by simp, fun m h1 h2 => ?_⟩
   obtain ⟨k1, k2⟩ := gu ns n;have e : iO n ns = m := Int.le_antisymm (h2 _ k1) (k2 _ h1);rw [← e];exact okI s p
  ·exact p.elim
 ·exact p.elim
theorem mM (hK : X.K = M.K) : OkC M (wJ X.K) i_ := by
 rw [hK];intro x dx F H fp Q s rx p;unfold i_ at p;split at p
 ·split at p
  ·rename_i n ns e
   obtain ⟨a, rfl, h⟩ := nt s rx e;refine ⟨a, n :: ns, rfl, h, by simp, fun m h1 h2 => ?_⟩
   obtain ⟨k1, k2⟩ := ig ns n;have e : mK n ns = m := Int.le_antisymm (k2 _ h1) (h2 _ k1);rw [← e];exact okI s p
  ·exact p.elim
 ·exact p.elim
theorem zi (hK : X.K = M.K) : OkC M (Cj X.K) j_ := by
 rw [hK];intro x dx F H fp Q s rx p;unfold j_ at p;split at p
 ·cases rx with
  | cons h r =>
   cases r;cases h with
   | lst h1 h2 => exact ⟨_, _, rfl, .inl (h1.same s).sq, fun l hl => OkE.lstD s p h2 hl⟩
 ·cases rx with
  | cons h r =>
   cases r;cases h with
   | tup h1 h2 => exact ⟨_, _, rfl, .inr (SqT.of (s _ _ h1)), fun l hl => OkE.lstD s p h2 hl⟩
 ·exact p.elim
noncomputable def nR (T : String) (a : Fe) : Fe := fun ρ => (a ρ).bind fun x => gQ T x.er
noncomputable def wY (K : PySem.W.Frag) (T : String) : List V → Hp → VK → Prop := fun xs H Q => ∃ x d b, xs = [x, .ty T] ∧ Rep K H x d ∧ uY T d = some b ∧ Q (.bl b) H
theorem xS {K : PySem.W.Frag} {T U : String} (hU : U = "int" ∨ U = "bool" ∨ U = "str" ∨ U = "list" ∨ U = "tuple" ∨ U = "NoneType") (hT : T = "int" ∨ T = "bool" ∨ T = "str" ∨ T = "list" ∨ T = "tuple") : PySem.W.kitOne K (.type U) (.type T) = some (decide (T = U ∨ (U = "bool" ∧ T = "int"))) := by
 rcases hU with rfl | rfl | rfl | rfl | rfl | rfl <;> rcases hT with rfl | rfl | rfl | rfl | rfl <;> rfl
theorem qN {K : PySem.W.Frag} {T U : String} {d : PyData} {b : Bool} (hk : wB d = some U) (hU : U = "int" ∨ U = "bool" ∨ U = "str" ∨ U = "list" ∨ U = "tuple" ∨ U = "NoneType") (e : uY T d = some b) : PySem.W.kitOne K (.type U) (.type T) = some b := by
 unfold uY at e;rw [hk] at e;have e' : (if T = "int" ∨ T = "bool" ∨ T = "str" ∨ T = "list" ∨ T = "tuple" then some (decide (T = U ∨ (U = "bool" ∧ T = "int"))) else none) = some b := e
 by_cases hT : T = "int" ∨ T = "bool" ∨ T = "str" ∨ T = "list" ∨ T = "tuple"
 ·rw [if_pos hT] at e'
  rw [← e'];exact xS hU hT
 ·rw [if_neg hT] at e'
  cases e'
end
end L3
namespace L3
open PySem L2 PySem.Spec PyProof.Rows
section
variable {M : Mx} {X : Cx} {e a b c : Expr} {es : List Expr} {pos : Pos} {fa fb : Fe} {ta tb : Ft} {al : Fa}
theorem qJ (T : String) : dZ X (.builtin "isinstance") (wY X.K T) := by
 intro pins s σ H xs us Q I r h;obtain ⟨x, d, b, rfl, rd, e, q⟩ := h;obtain ⟨u, v, rfl, ru, rv⟩ := Vals.two r;cases rv;have fin : ∀ tk, EP X pins σ Q (.bool b) { s with toks := tk } := fun tk => ⟨.bl b, H, I.tok tk, rfl, q⟩
 cases rd with
 | non =>
  cases (show u = Value.none from ru)
  exact PySem.W.kia_one PySem.W.kitx_none I.kIn True.intro (qN rfl (by simp) e) (fun z => nomatch z) fin
 | bl y =>
  cases (show u = Value.bool y from ru)
  exact PySem.W.kia_one PySem.W.kitx_bool I.kIn True.intro (qN rfl (by simp) e) (fun z => nomatch z) fin
 | int i =>
  obtain ⟨t, hq⟩ := (show ∃ t, u = Value.int i t from ru)
  cases hq;exact PySem.W.kia_one PySem.W.kitx_int I.kIn True.intro (qN rfl (by simp) e) (fun z => nomatch z) fin
 | str y =>
  obtain ⟨t, hq⟩ := (show ∃ t, u = Value.str y t from ru)
  cases hq;exact PySem.W.kia_one PySem.W.kitx_str I.kIn True.intro (qN rfl (by simp) e) (fun z => nomatch z) fin
 | @lst a xs ds h1 h2 =>
  cases (show u = Value.ref a from ru)
  obtain ⟨_, its, n, _, _, he⟩ := h1.obj I;exact PySem.W.kia_one PySem.W.kitx_list I.kIn ⟨_, he, rfl⟩ (qN (d := .list ds) rfl (by simp) e) (fun z => nomatch z) fin
 | @tup a xs ds h1 h2 =>
  cases (show u = Value.ref a from ru)
  obtain ⟨_, _, _, p⟩ := (show eZ X.prog X.w H s.heap a (.tup xs) from I.hok a _ h1)
  obtain ⟨o, k1, k2, _⟩ := p;exact PySem.W.kia_one PySem.W.kitx_tuple I.kIn ⟨o, k1, k2⟩ (qN (d := .tuple ds) rfl (by simp) e) (fun z => nomatch z) fin
 | dct _ _ _ =>
  have e' : (none : Option Bool) = some b := e;cases e'
theorem Ac {n : Nat} {σ : St} {H : Hp} {Q : VK} {T : String} (h : tD M n (nR T fa) σ H Q) : tCB (wY M.K T) (g9 (tD M n fa) (g9 (tC (.ty T)) nS)) σ H Q := by
 obtain ⟨F, ρ, fp, S, p⟩ := h;refine ⟨F, ρ, fp, S, (az.bind p).mono fun x px v F1 H1 fx e1 r1 w1 => ?_⟩
 obtain ⟨G1, d1, k1⟩ := r1.frz e1 w1;unfold gQ at px;split at px
 ·rename_i b hb
  exact ⟨v, x.er, b, rfl, k1.same d1.fh, hb, OkE.val d1.fh (OkE.pre d1 px) (.bl b)⟩
 ·exact px.elim
theorem kY {T : String} {x : Str} {p p2 : Pos} (hg : Gl X "isinstance") (hm : X.mg "isinstance" = none) (hgT : Gl X x) (hmT : X.mg x = none) (hT : bootBuiltins x = some (.type T)) (h : DE M X e fa) (hnT : x ≠ "__name__" := by decide) (hdT : (x == ("__debug__" : Str)) = false := by decide)
  (hs1 : starEach [e, .Name x p2] X.env = (false, eval e X.env) :: starEach [.Name x p2] X.env := by rfl) (hs2 : starEach [.Name x p2] X.env = (false, eval (.Name x p2) X.env) :: starEach [] X.env := by rfl) (hpl : (backTo pos (starEach [.Name x p2] X.env)).any (·.1) = false := by rfl) :
  DE M X (.Call (.Name "isinstance" p) [e, .Name x p2] [] pos) (nR T fa) := fun hK hM => by
 have q := jf (p := p) (pos := pos) (qJ T) hg hm eO (dM (h hK hM) (dM (vj (v := V.ty T) (pos := p2) hgT hmT hT rfl hnT hdT) gO hs2) hs1) (by decide) (by decide) hs1 hpl
 rw [hK] at q;exact peI q fun _ _ _ z => Ac z
noncomputable def uD (a b : Fe) : Fe := fun ρ => (a ρ).bind fun x => match x.er with
 | .list ds => (b ρ).bind fun y => lB ds y.er
 | _ => .bad
theorem om {ap cp : Pos} (ha : DE M X a fa) (h : DE M X e fb)
  (hbase : attributeBase a "index" X.env (eval a X.env) = eval a X.env := by rfl)
  (hfew : ((backTo cp (starEach [e] X.env)).all (fun x => !x.1) && (backToKw cp (keywordEach [] X.env)).all (fun x => x.1.isSome) && decide (([e] : List Expr).length + ([] : List Keyword).length + (if ([] : List Keyword).isEmpty then 0 else 1) < 30)) = true := by rfl)
  (hline : (ap.endLine == cp.line) = true := by rfl) (hs : starEach [e] X.env = (false, eval e X.env) :: starEach [] X.env := by rfl) (hplain : (backTo cp (starEach [] X.env)).any (·.1) = false := by rfl) :
  DE M X (.Call (.Attribute a "index" ap) [e] [] cp) (uD fa fb) := fun hK hM => by
 have q := xa (apos := ap) (cpos := cp) PySem.F.plainAttrs_list PySem.F.slot_list_index PySem.F.type_list_index sW (ha hK hM) (dM (h hK hM) gO hs) hbase hfew hline hs hplain;refine peI q fun σ H Q h => ?_
 obtain ⟨F, ρ, fp, S, p⟩ := h;refine ⟨F, ρ, fp, S, (az.bind p).mono fun x px v F1 H1 fx e1 r1 w1 => ?_⟩
 obtain ⟨G1, d1, k1⟩ := r1.frz e1 w1;generalize x.er = d at px k1
 cases k1 with
 | @lst a' vs ds h1 h2 =>
  have px' : az M H fp (OkE M F H Q) ((fb ρ).bind fun y => lB ds y.er) := px
  refine ⟨.inl ⟨rfl, vs, by rw [hK]; exact (h1.same d1.fh).sq⟩, G1, ρ, fp, S.ext d1, ((az.bind px').ext d1).mono fun y py w F2 H2 fy e2 r2 w2 => ?_⟩
  obtain ⟨G2, d2, k2⟩ := r2.frz e2 w2;unfold lB at py;generalize y.er = d' at py k2
  cases k2 with
  | int z =>
   have py' : az M H fp (OkE M F H Q) (match dP ds with | some ns => if z ∈ ns then oI (ns.idxOf z : Nat) else .bad | none => .bad) := py
   split at py'
   ·rename_i ns hn
    split at py'
    ·rename_i hz
     rw [iI hn] at h2;rw [RepAll.toInts h2] at h1;exact ⟨a', ns, z, rfl, rfl, by rw [hK]; exact ((h1.same d2.ff).same d2.fh).sq, hz, OkE.val d2.fh (OkE.pre (d1.trans d2) py') (.int _)⟩
    ·exact py'.elim
   ·exact py'.elim
  | non => exact py.elim
  | bl _ => exact py.elim
  | str _ => exact py.elim
  | dct _ _ _ => exact py.elim
  | lst _ _ => exact py.elim
  | tup _ _ => exact py.elim
 | non => exact px.elim
 | bl _ => exact px.elim
 | int _ => exact px.elim
 | str _ => exact px.elim
 | dct _ _ _ => exact px.elim
 | tup _ _ => exact px.elim
end
theorem jA {K : PySem.W.Frag} {F H : Hp} (m : Nat) : ∀ {vs : List V} {ds : List PyData}, RepAll K F vs ds → OwnS K F H (vs.map some ++ List.replicate m none) ((ds.map fun d => some (OD.sh d)) ++ List.replicate m none) []
 | _, _, .nil => by
  show OwnS K F H (List.replicate m none) (List.replicate m none) []
  have := OwnS.nones (K := K) (F := F) (H := H) m .nil;rw [List.append_nil, List.append_nil] at this;exact this
 | _, _, .cons h r => .yes (f := []) (.sh h) (jA m r)
theorem fn3 {P : Program} {w : World} {K : PySem.W.Frag} {mg : Str → Option Value} {base : Heap} {x qual : Str} {st : Stmt} {f : Addr} {fd : FuncData} {N ps : List Str} {k : Nat} {body : Fs} (F : Fun K x qual st f fd) (S : FnScope N ps (ao st))
  (h : ∀ (cdv : Value) (A : Around) (outer : List PySem.Env) (s : Shared) (H : Hp) (E : XK), Room k (A.deeper (envOfC qual (ao st) s.heap.objs.size f cdv)) → DSs ⟨K, mg, E⟩ (lC CX0 P w K mg base N qual (ao st) f cdv A outer s H E).nox (aJ st) body) :
  FnOk P w K mg base CX0 (k + 1) f fd ps (sp3 K mg (cI ps.length N.length body)) := by
 have hpl : ps.length ≤ N.length := by
  have := congrArg List.length S.pre;rw [List.length_take] at this
  lia
 have hlen : ∀ vs H Q E, sp3 K mg (cI ps.length N.length body) vs H Q E → vs.length = ps.length := by
  rintro vs H Q E ⟨F, ds, sm, ra, p⟩;by_cases hl : ds.length = ps.length
  ·rw [RepAll.len ra]
   exact hl
  ·unfold cI at p
   rw [if_neg hl] at p;exact p.elim
 refine F.ok S hlen fun cdv A outer s H vs Q E hr hs => ?_
 have hvl := hlen _ _ _ _ hs;obtain ⟨F0, ds, sm, ra, p⟩ := hs;have hdl : ds.length = ps.length := by rw [← RepAll.len ra]; exact hvl
 unfold cI at p;rw [if_pos hdl] at p;refine ⟨_, h cdv A outer s H E hr rfl rfl, F0, jF N.length ds, [], ⟨sm, ?_, List.nodup_nil, (fun _ m => by cases m), ?_⟩, (az.bind p).mono fun o po => ?_⟩
 ·unfold L2.start jF
  rw [hvl, hdl];exact jA _ ra
 ·unfold jF
  show _ = N.length
  rw [List.length_append, List.length_map, List.length_replicate, hdl]
  lia
 ·cases o with
  | nx ρ => exact fun σ' F' H' fp' S' st => po .non F' H' [] ⟨st.ff, fun a o q => st.keep a o q (by simp), S'.same, fun a q z => st.nw a q (by simp) z⟩ (Res.sh .non) fun _ m => by cases m
  | rt y => exact fun v F' H' fx sm' r st => po v F' H' fx ⟨st.ff, fun a o q => st.keep a o q (by simp), sm', fun a q z => st.nw a q (by simp) z⟩ r fun a m => (st.new a m).elim (fun z => by cases z) id
  | bk ρ => exact po.elim
  | ct ρ => exact po.elim
theorem rH {P : Program} {w : World} {K : PySem.W.Frag} {mg mb : Str → Option Value} {CX : CXT} {k : Nat} {fa a : Addr} {fd : FuncData} {x : Str} {sp : Sp} {s₁ : Shared} {vs : List Value} {ns : List Int}
  (KX : K.In s₁.heap) (hns : s₁.heap.Ns mainGlobals mg) (hb : s₁.heap.Ns builtinsNs mb) (hbb : ∀ x : Str, x ≠ "__name__" → mb x = bootBuiltins x) (hlim : s₁.heap.NoLimit) (hg : s₁.gens = #[])
  (ha : s₁.heap.get? a = some { cls := .type "list", data := .seq vs.toArray }) (hi : IntsAre vs ns) (hl : ns.length ≤ sizeLine) (hr : Room k callerA)
  (F : ∀ base : Heap, K.In base → base.Ns mainGlobals mg → FnOk P w K mg base CX k fa fd [x] sp) (hbind : ∀ (s : Shared) (u : Value), BindsTo s fd ⟨[u], []⟩ [(x, u)])
  (hsp : ∀ H : Hp, qR H → RdK K H a (ns.map V.int) → sp [.ref a] H (fun v _ => v = .bl true) fun _ _ _ => False)
  (hCX : ∀ H e s', CX [] H s₁ (fun _ _ _ => False) e s' → False) :
  codeAny (model P w) callerA (.call (.ref fa) ⟨[.ref a], []⟩) (fun r s' => r = .ok (.ret (.bool true)) ∧ OldK s₁.heap s'.heap ∧ s'.os = s₁.os ∧ AllBare s'.gens) s₁ := by
 have rv := gp hi;have lenV := hi.length;have core : ∀ H : Hp, qR H → RdK K H a (ns.map V.int) → HOk P w H s₁.heap → (∀ b, H b ≠ none → b = a) → (H a ≠ none → K.lookup a = none) →
   codeAny (model P w) callerA (.call (.ref fa) ⟨[.ref a], []⟩) (fun r s' => r = .ok (.ret (.bool true)) ∧ OldK s₁.heap s'.heap ∧ s'.os = s₁.os ∧ AllBare s'.gens) s₁ := by
  intro H hO hS hok hA hK;have base_of : ∀ {b : Addr} {o : Obj}, s₁.heap.get? b = some o → H b = none → (i4 s₁.heap H).get? b = some o := fun e n => oK e n
  have noA : ∀ {b : Addr} {o : Obj} {es : Array DictEntry} {ep : Nat}, s₁.heap.get? b = some o → o.data = .dict es ep → H b = none := fun {b o es ep} e d => by
   cases q : H b with
   | none => rfl
   | some u =>
    have e' : b = a := hA b (by rw [q]; simp)
    subst e';rw [ha] at e; cases e;have d' : Data.seq vs.toArray _ = Data.dict es ep := d;cases d'
  have nsK : ∀ {b : Addr} {m : Str → Option Value}, s₁.heap.Ns b m → (i4 s₁.heap H).Ns b m := fun {b m} ⟨o, es, ep, e, d, r⟩ => ⟨o, es, ep, base_of e (noA e d), d, r⟩
  have hKb : K.In (i4 s₁.heap H) := fun b o e => base_of (KX b o e) (by
   cases q : H b with
   | none => rfl
   | some u =>
    have e' : b = a := hA b (by rw [q]; simp)
    subst e';rw [hK (by rw [q]; simp)] at e; cases e)
  have hM : Mod K mg (i4 s₁.heap H) := ⟨hKb, nsK hns, ⟨mb, nsK hb, hbb⟩, let ⟨mc, h1, h2⟩ := hlim; ⟨mc, nsK h1, h2⟩⟩;have e0 : Env0 P w K mg (i4 s₁.heap H) callerA [] s₁ H := ⟨rfl, hM, fun b o e => p8 e, Nat.le_of_eq (lJ _ _), trivial, fun b hb => absurd (show b ∈ ([] : List Addr) from hb) (by simp), hok, .of_eq hg⟩
  refine codeAny_mono ((F _ hKb (nsK hns)).run callerA [] s₁ H ⟨[.ref a], []⟩ [.ref a] [.ref a] _ _ hr e0 (hbind s₁ (.ref a)) (.cons rfl .nil) (hsp H hO hS)) fun r s' h => ?_
  cases r with
  | error e => exact (hCX H e s' h).elim
  | ok fl =>
   cases fl with
   | next => exact False.elim h
   | brk => exact False.elim h
   | cont => exact False.elim h
   | ret u =>
    obtain ⟨v, H', os, bare, un, hok', r', q⟩ := h;have q' : v = .bl true := q;subst q';obtain rfl : u = Value.bool true := r';refine ⟨rfl, OldK.of_keep fun b o e => ?_, os, bare⟩
    cases q : H b with
    | none => exact un.keep b o e q (by intro z; exact absurd (show b ∈ ([] : List Addr) from z) (by simp)) (by simp)
    | some u =>
     rcases hO b with z | ⟨ob, xs, z⟩
     ·rw [q] at z; cases z
     ·have z2 := un.frzs b ob _ z
      obtain ⟨e1, _⟩ := hok b _ z;obtain ⟨e2, _⟩ := hok' b _ z2;rw [e] at e1; cases e1;exact e2
 cases hk : K.lookup a with
 | some o =>
  have e := KX a o hk;rw [ha] at e;cases e;refine core (fun _ => none) (fun _ => .inl rfl) (.inr ⟨vs.toArray, _, hk, by rw [List.size_toArray, lenV]; exact hl, by simpa using rv⟩) (fun b u z => by have z' : (none : Option HO) = some u := z; cases z') (fun b z => absurd rfl z) fun z => absurd rfl z
 | none =>
  refine core (fun b => if b = a then some (.frz { cls := .type "list", data := .seq vs.toArray } (.lst (ns.map V.int))) else none) (fun b => ?_) (.inl (.inr ⟨{ cls := .type "list", data := .seq vs.toArray }, if_pos rfl⟩)) (fun b u z => ?_) (fun b z => ?_) fun _ => hk
  ·by_cases hb : b = a
   ·exact .inr ⟨_, _, if_pos hb⟩
   ·exact .inl (if_neg hb)
  ·by_cases hb : b = a
   ·have z' := (if_pos hb).symm.trans z
    cases z';subst hb;exact ⟨ha, by rw [List.length_map]; exact hl, vs, _, rv, ha⟩
   ·have z' := (if_neg hb).symm.trans z
    cases z'
  ·by_cases hb : b = a
   ·exact hb
   ·exact absurd (if_neg hb) z
theorem tH {l : PySem.W.OpenLaw} {n k : Nat} {q : Program} {loose : List Str} {XP : (Str → Option Value) → Heap → Prop} {YP : World → Heap → Prop} {d : DefRec} {K : Params → PySem.W.Frag} {CX : World → CXT} {sp : World → Sp} {x : Str}
  (hn : l.most = some n) (hn2 : n ≤ sizeLine) (hdf : d.params.defaults = []) (hr : Room k callerA)
  (hY : ∀ (w : World) (h : Heap), YP w h → (K w.params).In h)
  (F : ∀ (w : World) (mg : Str → Option Value) (fa : Addr) (h : Heap), (K w.params).In h → h.Ns mainGlobals mg → mg d.name = some (.ref fa) →
   ∃ fd : FuncData, (∀ (s : Shared) (u : Value), BindsTo s fd ⟨[u], []⟩ [(x, u)]) ∧
    ∀ base : Heap, (K w.params).In base → base.Ns mainGlobals mg → FnOk l.prog w (K w.params) mg base (CX w) k fa fd [x] (sp w))
  (hsp : ∀ (w : World) (H : Hp) (a : Addr) (ns : List Int), ns.length ≤ n → qR H → RdK (K w.params) H a (ns.map V.int) → sp w [.ref a] H (fun v _ => v = .bl true) fun _ _ _ => False)
  (hCX : ∀ (w : World) (H : Hp) (s : Shared) (e : Value) (s' : Shared), CX w [] H s (fun _ _ _ => False) e s' → False) :
  PySem.W.WalkO q loose XP YP l.row.toRowW d [] (fun f vs => PySem.call f vs) := by
 refine Att.jQ hn hdf fun w s₀ s₁ mg mb fa o pm cd doc a vs ns G Y ho hd hcd hmg hobj hints hlen hg => ?_
 have KX := hY w _ Y;obtain ⟨fd, hb, hF⟩ := F w mg fa _ KX G.T.g hmg;exact rH KX G.T.g G.T.b G.T.builtins G.T.nolimit hg hobj hints (Nat.le_trans hlen hn2) hr hF hb (fun H hO hS => hsp w H a ns hlen hO hS) fun H e s' => hCX w H s₁ e s'
theorem AF {l : PySem.W.OpenLaw} {q : Program} {loose : List Str} {XP : (Str → Option Value) → Heap → Prop} {YP : World → Heap → Prop} {d : DefRec} {K : Params → PySem.W.Frag} {x : Str} {k : Nat} {fn : Fn} (hn : l.most = some 63) (hdf : d.params.defaults = []) (hr : Room k callerA)
  (hY : ∀ (w : World) (h : Heap), YP w h → (K w.params).In h) (hl : ∀ ns : List Int, ns.length ≤ 63 → fn [.list (ns.map PyData.int)] = .ok (.sh (.bool true)))
  (F : ∀ (w : World) (mg : Str → Option Value) (fa : Addr) (h : Heap), (K w.params).In h → h.Ns mainGlobals mg → mg d.name = some (.ref fa) →
   ∃ fd : FuncData, (∀ (s : Shared) (u : Value), BindsTo s fd ⟨[u], []⟩ [(x, u)]) ∧ ∀ base : Heap, (K w.params).In base → base.Ns mainGlobals mg → FnOk l.prog w (K w.params) mg base CX0 k fa fd [x] (sp3 (K w.params) mg fn)) :
  PySem.W.WalkO q loose XP YP l.row.toRowW d [] (fun f vs => PySem.call f vs) := by
 refine tH (n := 63) (k := k) (x := x) (CX := fun _ => CX0) (sp := fun w vs H Q E => ∃ F ds x, aI F H ∧ RepAll (K w.params) F vs ds ∧ fn ds = .ok x ∧ OkE ⟨K w.params, fun _ => none, E⟩ F H Q x) hn (by decide) hdf hr hY (fun w mg fa h a b c => ?_) (fun w H a ns hlen _ hS => ?_) fun _ _ _ _ _ z => z
 ·obtain ⟨fd, h1, h2⟩ := F w mg fa h a b c
  refine ⟨fd, h1, fun base kb nb => (h2 base kb nb).imp ?_⟩
  rintro vs H Q E ⟨F0, ds, y, sm, ra, e, p⟩;refine ⟨F0, ds, sm, ra, ?_⟩;rw [e];exact fun v F' H' fx => p v F' H' fx
 ·refine ⟨H, [.list (ns.map PyData.int)], _, aI.refl _, .cons (.lst hS (RepAll.ofInts ns)) .nil, hl ns hlen, ?_⟩
  intro v F' H' fx e r w;cases r.own with
  | sh q =>
   cases q;rfl
end L3
namespace L3
open PySem L2 PySem.Spec PyProof.Rows
theorem ed {P : Program} {w : World} {K : PySem.W.Frag} {mg : Str → Option Value} {base : Heap} {x qual : Str} {st : Stmt} {f : Addr} {fd : FuncData} {N ps : List Str} {k np n : Nat} {body : Fs} {fn : Fn} (hf : fn = cI np n body) (hp : ps.length = np) (hn : N.length = n) (F : Fun K x qual st f fd) (S : FnScope N ps (ao st))
  (h : ∀ (cdv : Value) (A : Around) (outer : List PySem.Env) (s : Shared) (H : Hp) (E : XK), Room k (A.deeper (envOfC qual (ao st) s.heap.objs.size f cdv)) → DSs ⟨K, mg, E⟩ (lC CX0 P w K mg base N qual (ao st) f cdv A outer s H E).nox (aJ st) body) :
  FnOk P w K mg base CX0 (k + 1) f fd ps (sp3 K mg fn) := by
 subst hf hp hn;exact fn3 F S h
theorem aU {X : Cx} {E : XK} : Passes CX0 X E := fun _ _ _ _ _ _ _ h => h.elim
noncomputable def pW : PyData → PyData → R OD
 | .int i, .int j => oI (i + j)
 | _, _ => .bad
section
variable {M : Mx} {X : Cx}
theorem sA : Ok2 M (ipI fun i j => i + j) pW := by
 intro x y dx dy F H fp Q s rx ry p;unfold pW at p;split at p
 ·cases rx; cases ry
  exact ⟨_, _, rfl, rfl, okI s p⟩
 ·exact p.elim
end
end L3
namespace L3
open PySem L2
theorem zL (i : Int) : gQ "int" (.int i) = oB true := rfl
theorem xM (i : Int) : gQ "bool" (.int i) = oB false := rfl
theorem xm (i : Int) : gQ "str" (.int i) = oB false := rfl
theorem yY (i : Int) : gQ "list" (.int i) = oB false := rfl
theorem zF (i : Int) : gQ "tuple" (.int i) = oB false := rfl
theorem x6 (i : Bool) : gQ "int" (.bool i) = oB true := rfl
theorem yy (i : Bool) : gQ "bool" (.bool i) = oB true := rfl
theorem xN (i : Str) : gQ "int" (.str i) = oB false := rfl
theorem zC (i : Str) : gQ "bool" (.str i) = oB false := rfl
theorem zo (i : Str) : gQ "str" (.str i) = oB true := rfl
theorem zN (i : List PyData) : gQ "list" (.list i) = oB true := rfl
theorem zW (i : List PyData) : gQ "tuple" (.list i) = oB false := rfl
theorem x9 (i : List PyData) : gQ "int" (.list i) = oB false := rfl
theorem xq (i : List PyData) : gQ "tuple" (.tuple i) = oB true := rfl
theorem xp (i : List PyData) : gQ "list" (.tuple i) = oB false := rfl
theorem zX (i : List PyData) : gQ "int" (.tuple i) = oB false := rfl
theorem CS : (0 ≤ BIG) = True := by decide
theorem Dy : (1 ≤ BIG) = True := by decide
theorem Dq : (2 ≤ BIG) = True := by decide
theorem Dh : (3 ≤ BIG) = True := by decide
theorem CT : (4 ≤ BIG) = True := by decide
theorem DH : (0 < BIG) = True := by decide
theorem nr {g : Fg} {b : Fs} (I : Nat → Env → Prop) : ∀ (ds : List PyData) (k : Nat) (ρ : Env), I k ρ → (∀ (i : Nat) (d : PyData) (ρ : Env), ds[i]? = some d → I (k + i) ρ → ∃ ρ1 ρ2, g (.sh d) ρ = .ok ρ1 ∧ (b ρ1 = .ok (.nx ρ2) ∨ b ρ1 = .ok (.ct ρ2)) ∧ I (k + i + 1) ρ2) →
  ∃ ρ', b6 g b ds ρ = .ok (.nx ρ') ∧ I (k + ds.length) ρ'
 | [], k, ρ, h, _ => ⟨ρ, rfl, h⟩
 | d :: ds, k, ρ, h, st => by
  obtain ⟨ρ1, ρ2, h1, h2, h3⟩ := st 0 d ρ rfl h;obtain ⟨ρ', e, h4⟩ := nr I ds (k + 1) ρ2 h3 fun i d' ρ hd hi => by
   have := st (i + 1) d' ρ (by simpa using hd) (by rw [show k + (i + 1) = k + 1 + i by lia]; exact hi)
   rw [show k + (i + 1) + 1 = k + 1 + i + 1 by lia] at this
   exact this
  refine ⟨ρ', ?_, by rw [List.length_cons, show k + (ds.length + 1) = k + 1 + ds.length by lia]; exact h4⟩
  rw [b6, h1, cE];rcases h2 with h2 | h2
  ·rw [h2, cE]
   exact e
  ·rw [h2, cE]
   exact e
theorem rR {g : Fg} {b : Fs} {ds : List PyData} {ρ : Env} (S : Nat → Env → Prop) (h0 : S 0 ρ) (st : ∀ (i : Nat) (d : PyData) (ρ : Env), ds[i]? = some d → S i ρ → ∃ ρ1 ρ2, g (.sh d) ρ = .ok ρ1 ∧ (b ρ1 = .ok (.nx ρ2) ∨ b ρ1 = .ok (.ct ρ2)) ∧ S (i + 1) ρ2) :
  ∃ ρ', b6 g b ds ρ = .ok (.nx ρ') ∧ S ds.length ρ' := by
 obtain ⟨ρ', e, h⟩ := nr S ds 0 ρ h0 fun i d ρ hd hi => by
  rw [Nat.zero_add] at hi ⊢;exact st i d ρ hd hi
 exact ⟨ρ', e, by rw [Nat.zero_add] at h; exact h⟩
theorem dW {lo : Int} {n i : Nat} {d : PyData} (h : (iq lo n)[i]? = some d) : i < n ∧ d = .int (lo + i) := by
 unfold iq at h;rw [List.getElem?_map] at h;obtain ⟨j, hj, rfl⟩ := Option.map_eq_some_iff.mp h;obtain ⟨h1, h2⟩ := List.getElem?_eq_some_iff.mp hj;have h3 : i = j := by simpa using h2
 subst h3;exact ⟨by simpa using h1, rfl⟩
theorem eI (lo : Int) (n : Nat) : (iq lo n).length = n := by unfold iq; simp
theorem rq {t : Ft} {b : Fs} {ρ : Env} {n : Nat} {o : Out} (h : dt t b n ρ = .ok o) : eR t b ρ = .ok o := by
 have mono : ∀ (n : Nat) (ρ : Env), dt t b n ρ ≠ .bad → ∀ m, n ≤ m → dt t b m ρ = dt t b n ρ := by
  intro n
  induction n with
  | zero => intro ρ hn; exact absurd rfl hn
  | succ n ih =>
   intro ρ hn m hm;obtain ⟨m, rfl⟩ : ∃ k, m = k + 1 := ⟨m - 1, by lia⟩
   rw [dt] at hn ⊢;rw [dt];cases ht : t ρ with
   | bad => rfl
   | ex c => rfl
   | ok c =>
    rw [ht, cE] at hn;rw [cE, cE];cases c with
    | false => rfl
    | true =>
     rw [if_pos rfl] at hn ⊢;rw [if_pos rfl];cases hb : b ρ with
     | bad => rfl
     | ex c => rfl
     | ok o =>
      rw [hb, cE] at hn;rw [cE, cE];cases o with
      | nx ρ2 => exact ih ρ2 hn m (by lia)
      | ct ρ2 => exact ih ρ2 hn m (by lia)
      | bk ρ2 => rfl
      | rt x => rfl
 unfold eR;have hx : ∃ n, dt t b n ρ ≠ .bad := ⟨n, by rw [h]; exact fun z => by cases z⟩
 rw [dif_pos hx];have e1 := mono n ρ (by rw [h]; exact fun z => by cases z) (n + hx.choose) (by lia)
 have e2 := mono hx.choose ρ hx.choose_spec (n + hx.choose) (by lia)
 rw [← e2, e1, h]
theorem rA {t : Ft} {b : Fs} (I : Nat → Env → Prop) (Q : Env → Prop) (st : ∀ m ρ, I m ρ → (t ρ = .ok false ∧ Q ρ) ∨ (t ρ = .ok true ∧ ∃ ρ2 m', (b ρ = .ok (.nx ρ2) ∨ b ρ = .ok (.ct ρ2)) ∧ m' < m ∧ I m' ρ2)) : ∀ (m : Nat) (ρ : Env), I m ρ → ∃ ρ', eR t b ρ = .ok (.nx ρ') ∧ Q ρ' := by
 have go : ∀ (m : Nat) (ρ : Env), I m ρ → ∃ n ρ', dt t b n ρ = .ok (.nx ρ') ∧ Q ρ' := by
  intro m
  induction m using Nat.strongRecOn with
  | ind m ih =>
   intro ρ h;rcases st m ρ h with ⟨h1, h2⟩ | ⟨h1, ρ2, m', h2, h3, h4⟩
   ·exact ⟨1, ρ, by rw [dt, h1]; rfl, h2⟩
   ·obtain ⟨n, ρ', e, q⟩ := ih m' h3 ρ2 h4
    refine ⟨n + 1, ρ', ?_, q⟩;rw [dt, h1, cE, if_pos rfl];rcases h2 with h2 | h2
    ·rw [h2, cE]
     exact e
    ·rw [h2, cE]
     exact e
 intro m ρ h;obtain ⟨n, ρ', e, q⟩ := go m ρ h;exact ⟨ρ', rq e, q⟩
end L3
namespace L3
open PySem L2
noncomputable def x_ : Option (Option OD) → R OD
 | some (some (.sh d)) => .ok (.sh d)
 | _ => .bad
noncomputable def opK (g : PyData → PyData → R OD) : R OD → R OD → R OD
 | .ok x, .ok y => g x.er y.er
 | .ok _, .ex c => .ex c
 | .ok _, .bad => .bad
 | .ex c, _ => .ex c
 | .bad, _ => .bad
noncomputable def unK {α β : Type} (g : α → R β) : R α → R β
 | .ok x => g x
 | .ex c => .ex c
 | .bad => .bad
noncomputable def y0 (r : R Bool) (b : Ft) (ρ : Env) : R Bool := match r with
 | .ok true => b ρ
 | .ok false => .ok false
 | .ex c => .ex c
 | .bad => .bad
noncomputable def orK (r : R Bool) (b : Ft) (ρ : Env) : R Bool := match r with
 | .ok true => .ok true
 | .ok false => b ρ
 | .ex c => .ex c
 | .bad => .bad
noncomputable def uW (r : R Bool) (b : Fe) (ρ : Env) : R OD := match r with
 | .ok true => b ρ
 | .ok false => .ok (.sh (.bool false))
 | .ex c => .ex c
 | .bad => .bad
noncomputable def orV (r : R Bool) (b : Fe) (ρ : Env) : R OD := match r with
 | .ok true => .ok (.sh (.bool true))
 | .ok false => b ρ
 | .ex c => .ex c
 | .bad => .bad
noncomputable def ifV (r : R Bool) (a b : Fe) (ρ : Env) : R OD := match r with
 | .ok true => a ρ
 | .ok false => b ρ
 | .ex c => .ex c
 | .bad => .bad
noncomputable def ifK (r : R Bool) (a b : Fs) (ρ : Env) : R Out := match r with
 | .ok true => a ρ
 | .ok false => b ρ
 | .ex c => .ex c
 | .bad => .bad
noncomputable def r9 : R OD → R (List OD) → R (List OD)
 | .ok x, .ok xs => .ok (x :: xs)
 | .ok _, .ex c => .ex c
 | .ok _, .bad => .bad
 | .ex c, _ => .ex c
 | .bad, _ => .bad
noncomputable def qG (r : R Out) (b : Fs) : R Out := match r with
 | .ok (.nx ρ) => b ρ
 | .ok o => .ok o
 | .ex c => .ex c
 | .bad => .bad
noncomputable def AD (r : R OD) (g : Fg) (ρ : Env) : R Out := match r with
 | .ok x => unK (fun ρ' => .ok (.nx ρ')) (g x ρ)
 | .ex c => .ex c
 | .bad => .bad
noncomputable def Bx (r : R (List PyData)) (g : Fg) (b : Fs) (ρ : Env) : R Out := match r with
 | .ok ds => b6 g b ds ρ
 | .ex c => .ex c
 | .bad => .bad
noncomputable def wW (r : R (List PyData)) (g : Fg) (t : Ft) (el : Fe) (ρ0 : Env) : R OD := match r with
 | .ok ds => unK (fun xs => .ok (.ol xs)) (cw g t el ρ0 ds [])
 | .ex c => .ex c
 | .bad => .bad
noncomputable def slK (g : PyData → Option Int → Option Int → R OD) (a : R OD) (l h : R (Option Int)) : R OD := match a, l, h with
 | .ok x, .ok i, .ok j => g x.er i j
 | .ok _, .ok _, .ex c => .ex c
 | .ok _, .ok _, .bad => .bad
 | .ok _, .ex c, _ => .ex c
 | .ok _, .bad, _ => .bad
 | .ex c, _, _ => .ex c
 | .bad, _, _ => .bad
noncomputable def Bu (a : R OD) (b : Fe) (ρ : Env) : R OD := match a with
 | .ok x => match x.er with
  | .list ds => unK (fun y => lB ds y.er) (b ρ)
  | _ => .bad
 | .ex c => .ex c
 | .bad => .bad
noncomputable def x5 (o : Option (Option OD)) (a : R OD) (i : Nat) (ρ : Env) : R Out := match o with
 | some (some (.ol xs)) => unK (fun y => if xs.length < BIG then .ok (.nx (ρ.set i (some (.ol (xs ++ [y]))))) else .bad) a
 | _ => .bad
noncomputable def uz : Option (Option OD) → R Out
 | some (some x) => .ok (.rt x)
 | _ => .bad
noncomputable def zQ (o : Option (Option OD)) (i : Nat) (ρ : Env) : Env := match o with
 | some (some x) => ρ.set i (some (.sh x.er))
 | _ => ρ
noncomputable def vy : R Out → R OD
 | .ok (.rt x) => .ok x
 | .ok (.nx _) => .ok (.sh .none)
 | .ok (.bk _) => .bad
 | .ok (.ct _) => .bad
 | .ex c => .ex c
 | .bad => .bad
noncomputable def yn (o : Option (Option OD)) (g : PyData → PyData → R OD) (a : R OD) (i : Nat) (ρ : Env) : R Out := match o with
 | some (some (.sh d)) => unK (fun y => unK (fun z => .ok (.nx (ρ.set i (some z)))) (g d y.er)) a
 | _ => .bad
section
variable {ρ : Env} {a b : Fe} {s t : Ft} {p q : Fs}
theorem v_var (i : Nat) : ag i ρ = x_ ρ[i]? := by
 unfold ag x_;rfl
theorem v_c (d : PyData) : eC d ρ = .ok (.sh d) := rfl
theorem Dl (g : PyData → PyData → R OD) : eOp g a b ρ = opK g (a ρ) (b ρ) := by
 unfold eOp;cases a ρ <;> cases b ρ <;> rfl
theorem cK {α β : Type} (r : R α) (g : α → R β) : r.bind g = unK g r := by cases r <;> rfl
theorem Dp (g : PyData → R OD) : eUn g a ρ = unK (fun x => g x.er) (a ρ) := cK _ _
theorem za : ba a ρ = unK (fun x => truth x.er) (a ρ) := cK _ _
theorem xi : kE s t ρ = y0 (s ρ) t ρ := by
 unfold kE;cases s ρ with
 | ok c => cases c <;> rfl
 | ex c => rfl
 | bad => rfl
theorem Be : j6 s t ρ = orK (s ρ) t ρ := by
 unfold j6;cases s ρ with
 | ok c => cases c <;> rfl
 | ex c => rfl
 | bad => rfl
theorem zr : hG s ρ = unK (fun c => .ok (!c)) (s ρ) := cK _ _
noncomputable def tru (r : R OD) : R Bool := unK (fun x => truth x.er) r
theorem v_and : tM a b ρ = uW (tru (a ρ)) b ρ := by
 unfold tM tru;cases a ρ with
 | ok x =>
  show (truth x.er).bind _ = uW (truth x.er) b ρ
  cases truth x.er with
  | ok c => cases c <;> rfl
  | ex c => rfl
  | bad => rfl
 | ex c => rfl
 | bad => rfl
theorem v_or : eOr a b ρ = orV (tru (a ρ)) b ρ := by
 unfold eOr tru;cases a ρ with
 | ok x =>
  show (truth x.er).bind _ = orV (truth x.er) b ρ
  cases truth x.er with
  | ok c => cases c <;> rfl
  | ex c => rfl
  | bad => rfl
 | ex c => rfl
 | bad => rfl
theorem v_not : si a ρ = unK (fun c => .ok (.sh (.bool (!c)))) (tru (a ρ)) := by
 unfold si tru;cases a ρ with
 | ok x =>
  show (truth x.er).bind _ = unK _ (truth x.er)
  exact cK _ _
 | ex c => rfl
 | bad => rfl
theorem C2 : eIf s a b ρ = ifV (s ρ) a b ρ := by
 unfold eIf;cases s ρ with
 | ok c => cases c <;> rfl
 | ex c => rfl
 | bad => rfl
theorem sZ : av ρ = .ok [] := rfl
theorem kg {r : Fa} : af a r ρ = r9 (a ρ) (r ρ) := by
 unfold af;cases a ρ <;> cases r ρ <;> rfl
theorem Bv {r : Fa} : fu r ρ = unK (fun xs => if xs.length ≤ BIG then .ok (mkT xs) else .bad) (r ρ) := cK _ _
theorem Bl {r : Fa} : eK r ρ = unK (fun xs => if xs.length ≤ BIG then .ok (.ol xs) else .bad) (r ρ) := cK _ _
theorem yO {f : Fn} {r : Fa} : aK f r ρ = unK (fun xs => f (xs.map OD.er)) (r ρ) := cK _ _
theorem v_b {f : List PyData → R OD} {r : Fa} : eB f r ρ = unK (fun xs => f (xs.map OD.er)) (r ρ) := cK _ _
theorem Di : eSh a ρ = unK (fun x => .ok (.sh x.er)) (a ρ) := cK _ _
theorem v_bor : pC a ρ = unK (fun x => if flat x.er = true then .ok (.sh x.er) else .bad) (a (erase ρ)) := cK _ _
theorem xE : q8 s ρ = s (erase ρ) := rfl
noncomputable def wq : OD → R OD
 | .ol xs => if xs.all (fun y => flat y.er) = true then .ok (.ol (xs.map fun y => .sh y.er)) else .bad
 | _ => .bad
theorem yU : nM a ρ = unK wq (a (erase ρ)) := by
 unfold nM;cases a (erase ρ) with
 | ok x => cases x <;> rfl
 | ex c => rfl
 | bad => rfl
theorem BM : erase [] = [] := rfl
theorem Cg (x : OD) : erase (some x :: ρ) = some (.sh x.er) :: erase ρ := rfl
theorem B1 : erase (none :: ρ) = none :: erase ρ := rfl
theorem vZ : jU ρ = .ok none := rfl
noncomputable def r_ : PyData → R (Option Int)
 | .int i => .ok (some i)
 | _ => .bad
theorem vf : gw a ρ = unK (fun x => r_ x.er) (a ρ) := by
 unfold gw;rw [cK];cases a ρ with
 | ok x =>
  show (match x.er with | .int i => R.ok (some i) | _ => .bad) = r_ x.er
  cases x.er <;> rfl
 | ex c => rfl
 | bad => rfl
theorem Dx {g : PyData → Option Int → Option Int → R OD} {l h : Fo} : eSl g a l h ρ = slK g (a ρ) (l ρ) (h ρ) := by
 unfold eSl;cases a ρ <;> cases l ρ <;> cases h ρ <;> rfl
noncomputable def lstK : PyData → R (List PyData)
 | .list ds => .ok ds
 | _ => .bad
noncomputable def tupK : PyData → R (List PyData)
 | .tuple ds => .ok ds
 | _ => .bad
noncomputable def r1K : PyData → R (List PyData)
 | .int j => if aH j = true then .ok (iq 0 j.toNat) else .bad
 | _ => .bad
noncomputable def enK : PyData → R (List PyData)
 | .list ds => .ok (fK ds)
 | _ => .bad
theorem zP : gB a ρ = unK (fun x => lstK x.er) (a ρ) := by
 unfold gB;rw [cK];cases a ρ with
 | ok x =>
  show (match x.er with | .list ds => R.ok ds | _ => .bad) = lstK x.er
  cases x.er <;> rfl
 | ex c => rfl
 | bad => rfl
theorem yB : iTp a ρ = unK (fun x => tupK x.er) (a ρ) := by
 unfold iTp;rw [cK];cases a ρ with
 | ok x =>
  show (match x.er with | .tuple ds => R.ok ds | _ => .bad) = tupK x.er
  cases x.er <;> rfl
 | ex c => rfl
 | bad => rfl
theorem DJ : iR1 a ρ = unK (fun x => r1K x.er) (a ρ) := by
 unfold iR1;rw [cK];cases a ρ with
 | ok x =>
  show (match x.er with | .int j => if aH j = true then R.ok (iq 0 j.toNat) else .bad | _ => .bad) = r1K x.er
  cases x.er <;> rfl
 | ex c => rfl
 | bad => rfl
theorem Dr : iEn a ρ = unK (fun x => enK x.er) (a ρ) := by
 unfold iEn;rw [cK];cases a ρ with
 | ok x =>
  show (match x.er with | .list ds => R.ok (fK ds) | _ => .bad) = enK x.er
  cases x.er <;> rfl
 | ex c => rfl
 | bad => rfl
noncomputable def ye (g : PyData → PyData → R (List PyData)) : R OD → R OD → R (List PyData)
 | .ok x, .ok y => g x.er y.er
 | .ok _, .ex c => .ex c
 | .ok _, .bad => .bad
 | .ex c, _ => .ex c
 | .bad, _ => .bad
theorem DC : iR2 a b ρ = ye r2F (a ρ) (b ρ) := by
 unfold iR2;cases a ρ <;> cases b ρ <;> rfl
theorem C0 : iZp a b ρ = ye vP (a ρ) (b ρ) := by
 unfold iZp;cases a ρ <;> cases b ρ <;> rfl
theorem Cw (i : Nat) (x : OD) : gNm i x ρ = .ok (ρ.set i (some x)) := rfl
theorem BE : fP [] ρ = .ok ρ := rfl
theorem BU {g : Fg} {r : Fgs} {x : OD} {xs : List OD} : bC g r (x :: xs) ρ = unK (fun ρ' => r xs ρ') (g x ρ) := cK _ _
theorem AQ {n : Nat} {r : Fgs} {ds : List PyData} : gTp n r (.sh (.tuple ds)) ρ = if ds.length = n then r (ds.map OD.sh) ρ else .bad := rfl
theorem AW {n : Nat} {r : Fgs} {xs : List OD} : gTp n r (.ot xs) ρ = if xs.length = n then r xs ρ else .bad := rfl
theorem yL {it : Fi} {g : Fg} {k : Nat} {outs : List Nat} : dR it g t a k outs ρ = wW (it ρ) g t a (sl3 k outs ρ) := by
 unfold dR;cases it ρ with
 | ok ds => exact cK _ _
 | ex c => rfl
 | bad => rfl
theorem Bs {k : Nat} {outs : List Nat} : sl3 k outs ρ = List.replicate k none ++ outs.map fun i => jq ρ[i]? := rfl
theorem DD : sNx ρ = .ok (.nx ρ) := rfl
theorem C8 : sBk ρ = .ok (.bk ρ) := rfl
theorem C4 : sCt ρ = .ok (.ct ρ) := rfl
theorem B0 : aC p q ρ = qG (p ρ) q := by
 unfold aC;cases p ρ with
 | ok o => cases o <;> rfl
 | ex c => rfl
 | bad => rfl
theorem Bh {g : Fg} : rB a g ρ = AD (a ρ) g ρ := by
 unfold rB;cases a ρ with
 | ok x => exact cK _ _
 | ex c => rfl
 | bad => rfl
theorem Bz (i : Nat) : aQ i a ρ = unK (fun x => .ok (.nx (ρ.set i (some x)))) (a ρ) := cK _ _
theorem xf : lY a ρ = unK (fun _ => .ok (.nx ρ)) (a ρ) := cK _ _
theorem B4 : dE a ρ = unK (fun x => .ok (.rt x)) (a ρ) := cK _ _
theorem xO : Ag ρ = .ok (.rt (.sh .none)) := rfl
theorem xR (i : Nat) : fv i ρ = uz ρ[i]? := by
 unfold fv uz;rfl
theorem Cb : sIf s p q ρ = ifK (s ρ) p q ρ := by
 unfold sIf;cases s ρ with
 | ok c => cases c <;> rfl
 | ex c => rfl
 | bad => rfl
theorem B7 (i : Nat) : jx i p ρ = p (t7 i ρ) := rfl
theorem yt (i : Nat) : t7 i ρ = zQ ρ[i]? i ρ := by
 unfold t7 zQ;rfl
theorem Cv (i : Nat) {g : PyData → PyData → R OD} : qS i g a ρ = yn ρ[i]? g (a ρ) i ρ := by
 unfold qS yn;generalize ρ[i]? = o
 cases o with
 | none => rfl
 | some o =>
  cases o with
  | none => rfl
  | some x =>
   cases x with
   | sh d =>
    show ((a ρ).bind fun y => (g d y.er).bind fun z => R.ok (Out.nx (ρ.set i (some z)))) = _
    rw [cK];show unK _ (a ρ) = unK _ (a ρ)
    first
     | done
     | (congr 1; funext y; exact cK _ _)
     | (congr 1)
   | ol xs => rfl
   | ot xs => rfl
   | od xs => rfl
theorem Aw (i : Nat) : gR i a ρ = x5 ρ[i]? (a ρ) i ρ := by
 unfold gR x5;generalize ρ[i]? = o
 cases o with
 | none => rfl
 | some o =>
  cases o with
  | none => rfl
  | some x =>
   cases x with
   | sh d => rfl
   | ol xs => exact cK _ _
   | ot xs => rfl
   | od xs => rfl
theorem BL {it : Fi} {g : Fg} : eM it g p ρ = Bx (it ρ) g p ρ := by
 unfold eM;cases it ρ <;> rfl
theorem Ct (T : String) : nR T a ρ = unK (fun x => gQ T x.er) (a ρ) := cK _ _
theorem Az : uD a b ρ = Bu (a ρ) b ρ := by
 unfold uD;cases a ρ with
 | ok x =>
  show (match x.er with | .list ds => (b ρ).bind fun y => lB ds y.er | _ => .bad) = (match x.er with | .list ds => unK (fun y => lB ds y.er) (b ρ) | _ => .bad)
  cases x.er with
  | list ds => exact cK _ _
  | _ => rfl
 | ex c => rfl
 | bad => rfl
theorem Ax {np n : Nat} {ds : List PyData} : cI np n p ds = if ds.length = np then vy (p (jF n ds)) else .bad := by
 unfold cI;congr 1
 cases p (jF n ds) with
 | ok o => cases o <;> rfl
 | ex c => rfl
 | bad => rfl
theorem Af (d : PyData) : x_ (some (some (.sh d))) = .ok (.sh d) := rfl
theorem Dg {g : PyData → PyData → R OD} {x y : OD} : opK g (.ok x) (.ok y) = g x.er y.er := rfl
theorem BK {g : PyData → PyData → R (List PyData)} {x y : OD} : ye g (.ok x) (.ok y) = g x.er y.er := rfl
theorem Ay {α β : Type} {g : α → R β} {x : α} : unK g (.ok x) = g x := rfl
theorem wR {α β : Type} {g : α → R β} {c : Str} : unK g (.ex c) = .ex c := rfl
theorem yx : y0 (.ok true) t ρ = t ρ := rfl
theorem yk : y0 (.ok false) t ρ = .ok false := rfl
theorem AS : orK (.ok true) t ρ = .ok true := rfl
theorem Ai : orK (.ok false) t ρ = t ρ := rfl
theorem wc : uW (.ok true) a ρ = a ρ := rfl
theorem vw : uW (.ok false) a ρ = .ok (.sh (.bool false)) := rfl
theorem zJ : orV (.ok true) a ρ = .ok (.sh (.bool true)) := rfl
theorem zM : orV (.ok false) a ρ = a ρ := rfl
theorem zw : ifV (.ok true) a b ρ = a ρ := rfl
theorem xu : ifV (.ok false) a b ρ = b ρ := rfl
theorem Cy : ifK (.ok true) p q ρ = p ρ := rfl
theorem A1 : ifK (.ok false) p q ρ = q ρ := rfl
theorem yb {x : OD} {xs : List OD} : r9 (.ok x) (.ok xs) = .ok (x :: xs) := rfl
theorem Ab : qG (.ok (.nx ρ)) p = p ρ := rfl
theorem xX {x : OD} : qG (.ok (.rt x)) p = .ok (.rt x) := rfl
theorem xD : qG (.ok (.ct ρ)) p = .ok (.ct ρ) := rfl
theorem ym : qG (.ok (.bk ρ)) p = .ok (.bk ρ) := rfl
theorem Ba {x : OD} {g : Fg} : AD (.ok x) g ρ = unK (fun ρ' => .ok (.nx ρ')) (g x ρ) := rfl
theorem AK {ds : List PyData} {g : Fg} : Bx (.ok ds) g p ρ = b6 g p ds ρ := rfl
theorem yQ {ds : List PyData} {g : Fg} : wW (.ok ds) g t a ρ = unK (fun xs => .ok (.ol xs)) (cw g t a ρ ds []) := rfl
theorem C9 {g : PyData → Option Int → Option Int → R OD} {x : OD} {i j : Option Int} : slK g (.ok x) (.ok i) (.ok j) = g x.er i j := rfl
theorem BF {xs : List OD} {y : OD} {i : Nat} : x5 (some (some (.ol xs))) (.ok y) i ρ = if xs.length < BIG then .ok (.nx (ρ.set i (some (.ol (xs ++ [y]))))) else .bad := rfl
theorem zm {x : OD} : uz (some (some x)) = .ok (.rt x) := rfl
theorem B_ {x : OD} {i : Nat} : zQ (some (some x)) i ρ = ρ.set i (some (.sh x.er)) := rfl
theorem xw {x : OD} : vy (.ok (.rt x)) = .ok x := rfl
theorem yV : vy (.ok (.nx ρ)) = .ok (.sh .none) := rfl
theorem Aq (x : OD) : tru (.ok x) = truth x.er := rfl
theorem vi (c : Bool) : truth (.bool c) = .ok c := rfl
theorem CC {ds : List PyData} : Bu (.ok (.sh (.list ds))) b ρ = unK (fun y => lB ds y.er) (b ρ) := rfl
theorem Cc {d : PyData} {g : PyData → PyData → R OD} {y : OD} {i : Nat} : yn (some (some (.sh d))) g (.ok y) i ρ = unK (fun z => .ok (.nx (ρ.set i (some z)))) (g d y.er) := rfl
theorem Aa (ds : List PyData) : lstK (.list ds) = .ok ds := rfl
theorem Ck (ds : List PyData) : tupK (.tuple ds) = .ok ds := rfl
theorem Dd (ds : List PyData) : enK (.list ds) = .ok (fK ds) := rfl
theorem C5 (j : Int) : r1K (.int j) = if aH j = true then .ok (iq 0 j.toNat) else .bad := rfl
theorem Dc (i j : Int) : r2F (.int i) (.int j) = if (aH i && aH j) = true then .ok (iq i (j - i).toNat) else .bad := rfl
theorem Co (ds es : List PyData) : vP (.list ds) (.list es) = .ok (jW ds es) := rfl
theorem zz (i : Int) : r_ (.int i) = .ok (some i) := rfl
theorem zK (n : Nat) (ds : List PyData) : jF n ds = (ds.map fun d => some (OD.sh d)) ++ List.replicate (n - ds.length) none := rfl
theorem BS (d : PyData) : jq (some (some (.sh d))) = some (.sh d) := rfl
theorem B3 : jq (some none) = none := rfl
theorem xA (xs : List OD) : jq (some (some (.ol xs))) = none := rfl
theorem A8 (d : PyData) : mkT [.sh d] = .sh (.tuple [d]) := rfl
theorem BQ (d e : PyData) : mkT [.sh d, .sh e] = .sh (.tuple [d, e]) := rfl
theorem Bi (d e f : PyData) : mkT [.sh d, .sh e, .sh f] = .sh (.tuple [d, e, f]) := rfl
theorem Bq (d e f g : PyData) : mkT [.sh d, .sh e, .sh f, .sh g] = .sh (.tuple [d, e, f, g]) := rfl
theorem Cq (i j : Int) : bX (.int i) (.int j) = .ok (.sh (.int (i + j))) := rfl
theorem AA (i j : Int) : dB (.int i) (.int j) = .ok (.sh (.int (i - j))) := rfl
theorem Cf (i j : Int) : dU (.int i) (.int j) = if fT i j = true then .ok (.sh (.int (i * j))) else .bad := rfl
theorem AH (i j : Int) : dX (.int i) (.int j) = if 0 < j then .ok (.sh (.int (i % j))) else .bad := rfl
theorem CN (i j : Int) : eN (.int i) (.int j) = if 0 < j ∧ j < 1073741824 then .ok (.sh (.int (i / j))) else .bad := rfl
theorem Ci (i j : Int) : Dz (.int i) (.int j) = if 0 ≤ j ∧ j ≤ 1000000 ∧ i.natAbs < 2 ^ 64 then .ok (.sh (.int (i ^ j.toNat))) else .bad := rfl
theorem Bc (i : Int) : eQ (.int i) = .ok (.sh (.int (-i))) := rfl
theorem Dj (i j : Int) : gLt (.int i) (.int j) = .ok (.sh (.bool (decide (i < j)))) := rfl
theorem Df (i j : Int) : gLe (.int i) (.int j) = .ok (.sh (.bool (decide (i ≤ j)))) := rfl
theorem DB (i j : Int) : gGt (.int i) (.int j) = .ok (.sh (.bool (decide (j < i)))) := rfl
theorem CV (i j : Int) : gGe (.int i) (.int j) = .ok (.sh (.bool (decide (j ≤ i)))) := rfl
theorem Du (i j : Int) : gEq (.int i) (.int j) = .ok (.sh (.bool (decide (i = j)))) := rfl
theorem Dm (i j : Int) : gNe (.int i) (.int j) = .ok (.sh (.bool (!decide (i = j)))) := rfl
theorem zc (i j : Int) : pW (.int i) (.int j) = .ok (.sh (.int (i + j))) := rfl
theorem Cp (xs : List PyData) (i : Int) : gIx (.list xs) (.int i) = iz (atI xs i) := rfl
theorem CD (xs : List PyData) (i : Int) : gIx (.tuple xs) (.int i) = iz (atI xs i) := rfl
theorem zS (xs : List PyData) : cB [.list xs] = .ok (.sh (.int xs.length)) := rfl
theorem zE (xs : List PyData) : cB [.tuple xs] = .ok (.sh (.int xs.length)) := rfl
theorem x8 (x : Str) : cB [.str x] = if x.length ≤ BIG then .ok (.sh (.int x.length)) else .bad := rfl
theorem xc (i j : Int) : l5 [.int i, .int j] = .ok (.sh (.int (if j < i then j else i))) := rfl
theorem uB (i j : Int) : lG [.int i, .int j] = .ok (.sh (.int (if i < j then j else i))) := rfl
theorem sx (n : Int) (ns : List Int) : jI [.list (PyData.int n :: ns.map PyData.int)] = .ok (.sh (.int (iO n ns))) := by
 show (match dP ((n :: ns).map PyData.int) with | some (n :: ns) => oI (iO n ns) | _ => .bad) = _
 rw [f_];rfl
theorem tL (n : Int) (ns : List Int) : i_ [.list (PyData.int n :: ns.map PyData.int)] = .ok (.sh (.int (mK n ns))) := by
 show (match dP ((n :: ns).map PyData.int) with | some (n :: ns) => oI (mK n ns) | _ => .bad) = _
 rw [f_];rfl
theorem xB (ds : List PyData) : j_ [.list ds] = .ok (.ol (ds.map OD.sh)) := rfl
theorem As (i : Int) : CF [.int i] = .ok (.sh (.int i)) := rfl
theorem xQ (c : Bool) : CF [.bool c] = .ok (.sh (.int (if c then 1 else 0))) := rfl
theorem wj (ns : List Int) (z : Int) (h : z ∈ ns) : lB (ns.map PyData.int) (.int z) = .ok (.sh (.int (ns.idxOf z : Nat))) := by
 show (match dP (ns.map PyData.int) with | some ns => if z ∈ ns then oI (ns.idxOf z : Nat) else .bad | none => .bad) = _
 rw [f_];show (if z ∈ ns then oI (ns.idxOf z : Nat) else .bad) = _
 rw [if_pos h];rfl
theorem BC (xs : List PyData) (i j : Option Int) : mq (.list xs) i j = .ok (.ol ((cutD xs i j).map OD.sh)) := rfl
theorem xx (d : PyData) : iz (some d) = .ok (.sh d) := rfl
theorem at0 {α : Type} (x : α) (xs : List α) : atI (x :: xs) 0 = some x := by
 have : atI (x :: xs) ((0 : Nat) : Int) = some x := eH rfl;exact this
theorem at1 {α : Type} (x y : α) (xs : List α) : atI (x :: y :: xs) 1 = some y := by
 have : atI (x :: y :: xs) ((1 : Nat) : Int) = some y := eH rfl;exact this
theorem at2 {α : Type} (x y z : α) (xs : List α) : atI (x :: y :: z :: xs) 2 = some z := by
 have : atI (x :: y :: z :: xs) ((2 : Nat) : Int) = some z := eH rfl;exact this
theorem Bb (c : Bool) : oB c = .ok (.sh (.bool c)) := rfl
end
end L3
namespace L3
open PySem L2
theorem pL {i j : Int} (h1 : -18446744073709551616 < i) (h2 : i < 18446744073709551616) : fT i j = true := by
 unfold fT;rw [Bool.or_eq_true, Bool.and_eq_true, decide_eq_true_eq, decide_eq_true_eq];exact .inl ⟨by lia, by lia⟩
theorem B2 {i j : Int} (h1 : -18446744073709551616 < j) (h2 : j < 18446744073709551616) : fT i j = true := by
 unfold fT;rw [Bool.or_eq_true, Bool.and_eq_true, Bool.and_eq_true, decide_eq_true_eq, decide_eq_true_eq, decide_eq_true_eq, decide_eq_true_eq];exact .inr ⟨by lia, by lia⟩
theorem fW {i : Int} (h1 : -4611686018427387904 ≤ i) (h2 : i < 4611686018427387904) : aH i = true := eg.mpr ⟨by lia, by lia⟩
theorem ft {n : Nat} (h : n < 1000) : (n < BIG) = True := eq_true (Nat.lt_of_lt_of_le h (by decide))
theorem bN {n : Nat} (h : n ≤ 1000) : (n ≤ BIG) = True := eq_true (Nat.le_trans h (by decide))
theorem cU (i : Int) {j : Int} (h : 0 < j) : 0 ≤ i % j ∧ i % j < j := ⟨Int.emod_nonneg _ (by lia), Int.emod_lt_of_pos _ h⟩
theorem pG {α : Type} (xs : List α) (i : Int) (h0 : 0 ≤ i) (h1 : i < xs.length) : ∃ x, xs[i.toNat]? = some x ∧ atI xs i = some x := by
 obtain ⟨j, rfl⟩ : ∃ j : Nat, i = j := ⟨i.toNat, by lia⟩
 have hj : j < xs.length := by lia
 exact ⟨xs[j], by simp [hj], eH (by simp [hj])⟩
end L3
namespace L3
open PySem L2
theorem uI {g : Fg} {b : Fs} {ds : List PyData} {ρ : Env} {r : R Out} (hL : b6 g b ds ρ = r) (S : Nat → Env → Prop) (h0 : S 0 ρ) (st : ∀ (i : Nat) (d : PyData) (ρ : Env), ds[i]? = some d → S i ρ → ∃ ρ1 ρ2, g (.sh d) ρ = .ok ρ1 ∧ (b ρ1 = .ok (.nx ρ2) ∨ b ρ1 = .ok (.ct ρ2)) ∧ S (i + 1) ρ2) :
  ∃ ρ', r = .ok (.nx ρ') ∧ S ds.length ρ' := by
 obtain ⟨ρ', e, h⟩ := rR S h0 st;exact ⟨ρ', by rw [← hL, e], h⟩
end L3
namespace L3
open PySem L2
noncomputable def jt (S : Env → Prop) : R Out → Prop
 | .ok (.nx ρ) => S ρ
 | .ok (.ct ρ) => S ρ
 | _ => False
theorem Ao {S : Env → Prop} {ρ : Env} : jt S (.ok (.nx ρ)) = S ρ := rfl
theorem Ae {S : Env → Prop} {ρ : Env} : jt S (.ok (.ct ρ)) = S ρ := rfl
theorem qe {S : Env → Prop} {b : Fs} {r : R Env} (h : jt S (unK b r)) : ∃ ρ1 ρ2, r = .ok ρ1 ∧ (b ρ1 = .ok (.nx ρ2) ∨ b ρ1 = .ok (.ct ρ2)) ∧ S ρ2 := by
 cases r with
 | ok ρ1 =>
  have h' : jt S (b ρ1) := h;cases hb : b ρ1 with
  | ok o =>
   rw [hb] at h';cases o with
   | nx ρ2 => exact ⟨ρ1, ρ2, rfl, .inl hb, h'⟩
   | ct ρ2 => exact ⟨ρ1, ρ2, rfl, .inr hb, h'⟩
   | bk _ => exact h'.elim
   | rt _ => exact h'.elim
  | ex _ => rw [hb] at h'; exact h'.elim
  | bad => rw [hb] at h'; exact h'.elim
 | ex c => exact h.elim
 | bad => exact h.elim
theorem dc {P : Prop} {g : Fg} {b : Fs} {ds : List PyData} {ρ : Env} {r : R Out} (hL : b6 g b ds ρ = r) (S : Nat → Env → Prop) (h0 : S 0 ρ) (st : ∀ (i : Nat) (d : PyData) (ρ : Env), ds[i]? = some d → S i ρ → jt (S (i + 1)) (unK b (g (.sh d) ρ)))
  (fin : ∀ ρ', r = .ok (.nx ρ') → S ds.length ρ' → P) : P := by
 obtain ⟨ρ', e, h⟩ := uI hL S h0 fun i d ρ hd hS => by
  obtain ⟨ρ1, ρ2, a, b, c⟩ := qe (st i d ρ hd hS);exact ⟨ρ1, ρ2, a, b, c⟩
 exact fin ρ' e h
theorem mU {P : Prop} {t : Ft} {b : Fs} {ρ : Env} {r : R Out} (hL : eR t b ρ = r) (I : Nat → Env → Prop) (m : Nat) (h0 : I m ρ) (Q : Env → Prop) (st : ∀ m ρ, I m ρ → (t ρ = .ok false ∧ Q ρ) ∨ (t ρ = .ok true ∧ jt (fun ρ2 => ∃ m', m' < m ∧ I m' ρ2) (b ρ)))
  (fin : ∀ ρ', r = .ok (.nx ρ') → Q ρ' → P) : P := by
 obtain ⟨ρ', e, h⟩ := rA I Q (fun m ρ hI => by
  rcases st m ρ hI with h | ⟨h1, h2⟩
  ·exact .inl h
  ·obtain ⟨ρ1, ρ2, a, b, m', c, d⟩ := qe (r := .ok ρ) h2
   cases a;exact .inr ⟨h1, ρ2, m', b, c, d⟩) m ρ h0
 exact fin ρ' (by rw [← hL, e]) h
end L3
namespace L3
open PySem L2
noncomputable def yJ (o : Option (Option OD)) (a k : R OD) (i : Nat) (ρ : Env) : R Out := match o with
 | some (some (.ol xs)) => unK (fun y => unK (fun z => match z.er with
  | .int q => match ixN xs.length q with
   | some j => .ok (.nx (ρ.set i (some (.ol (xs.set j y)))))
   | none => .bad
  | _ => .bad) k) a
 | _ => .bad
theorem pA {β : Type} (o : Option (Option OD)) : o = none ∨ o = some none ∨ (∃ d, o = some (some (.sh d))) ∨ (∃ xs, o = some (some (.ol xs))) ∨ (∃ xs, o = some (some (.ot xs))) ∨ ∃ xs, o = some (some (.od xs)) := by
 cases o with
 | none => exact .inl rfl
 | some o =>
  cases o with
  | none => exact .inr (.inl rfl)
  | some x =>
   cases x with
   | sh d => exact .inr (.inr (.inl ⟨d, rfl⟩))
   | ol xs => exact .inr (.inr (.inr (.inl ⟨xs, rfl⟩)))
   | ot xs => exact .inr (.inr (.inr (.inr (.inl ⟨xs, rfl⟩))))
   | od xs => exact .inr (.inr (.inr (.inr (.inr ⟨xs, rfl⟩))))
section
variable {ρ : Env} {a b k : Fe} {s t : Ft} {p q : Fs}
theorem v_sub (i : Nat) : lz i k a ρ = yJ ρ[i]? (a ρ) (k ρ) i ρ := by
 unfold lz yJ;generalize ρ[i]? = o
 rcases pA (β := Nat) o with rfl | rfl | ⟨d, rfl⟩ | ⟨xs, rfl⟩ | ⟨xs, rfl⟩ | ⟨xs, rfl⟩
 ·rfl
 ·rfl
 ·rfl
 ·cases a ρ <;> cases k ρ <;> rfl
 ·rfl
 ·rfl
theorem qv {xs : List OD} {y : OD} {z : Int} {i j : Nat} (h : ixN xs.length z = some j) : yJ (some (some (.ol xs))) (.ok y) (.ok (.sh (.int z))) i ρ = .ok (.nx (ρ.set i (some (.ol (xs.set j y))))) := by
 show (match (OD.sh (PyData.int z)).er with
  | .int q => match ixN xs.length q with
   | some j => R.ok (Out.nx (ρ.set i (some (.ol (xs.set j y)))))
   | none => .bad
  | _ => .bad) = _
 rw [e7];show (match ixN xs.length z with
   | some j => R.ok (Out.nx (ρ.set i (some (.ol (xs.set j y)))))
   | none => .bad) = _
 rw [h]
theorem ij {n j : Nat} (h : j < n) : ixN n (j : Int) = some j := by
 unfold ixN;rw [if_pos (by lia), if_pos (by lia)]
 simp
noncomputable def xZ (o : Option (Option OD)) (i : Nat) (ρ : Env) : R Out := match o with
 | some (some (.ol xs)) => .ok (.nx (ρ.set i (some (.ol xs.reverse))))
 | _ => .bad
noncomputable def zR (o : Option (Option OD)) (i : Nat) (ρ : Env) : R Out := match o with
 | some (some (.ol xs)) => .ok (.nx (ρ.set i (some (.ol []))))
 | _ => .bad
theorem A0 (i : Nat) : BH i ρ = xZ ρ[i]? i ρ := by unfold BH xZ; rfl
theorem AG (i : Nat) : z_ i ρ = zR ρ[i]? i ρ := by unfold z_ zR; rfl
theorem Cr {xs : List OD} {i : Nat} : xZ (some (some (.ol xs))) i ρ = .ok (.nx (ρ.set i (some (.ol xs.reverse)))) := rfl
theorem Bo {xs : List OD} {i : Nat} : zR (some (some (.ol xs))) i ρ = .ok (.nx (ρ.set i (some (.ol [])))) := rfl
noncomputable def vI (o : Option (Option OD)) (g : Fg) (i : Nat) (ρ : Env) : R Out := match o with
 | some (some (.ol xs)) => match xs.getLast? with
  | some (.sh d) => unK (fun ρ' => .ok (.nx ρ')) (g (.sh d) (ρ.set i (some (.ol xs.dropLast))))
  | _ => .bad
 | _ => .bad
theorem A5 (i : Nat) {g : Fg} : qO i g ρ = vI ρ[i]? g i ρ := by
 unfold qO vI;generalize ρ[i]? = o
 rcases pA (β := Nat) o with rfl | rfl | ⟨d, rfl⟩ | ⟨xs, rfl⟩ | ⟨xs, rfl⟩ | ⟨xs, rfl⟩
 ·rfl
 ·rfl
 ·rfl
 ·show (match xs.getLast? with
   | some (.sh d) => (g (.sh d) (ρ.set i (some (.ol xs.dropLast)))).bind fun ρ' => R.ok (Out.nx ρ')
   | _ => .bad) = (match xs.getLast? with
   | some (.sh d) => unK (fun ρ' => R.ok (Out.nx ρ')) (g (.sh d) (ρ.set i (some (.ol xs.dropLast))))
   | _ => R.bad)
  cases xs.getLast? with
  | none => rfl
  | some x =>
   cases x with
   | sh d => exact cK _ _
   | ol _ => rfl
   | ot _ => rfl
   | od _ => rfl
 ·rfl
 ·rfl
theorem wG {xs : List OD} {d : PyData} {i : Nat} {g : Fg} : vI (some (some (.ol (xs ++ [.sh d])))) g i ρ = unK (fun ρ' => R.ok (Out.nx ρ')) (g (.sh d) (ρ.set i (some (.ol xs)))) := by
 have h1 : (xs ++ [OD.sh d]).getLast? = some (.sh d) := by simp
 unfold vI;simp only [h1, List.dropLast_concat]
noncomputable def yl (o : Option (Option OD)) (a : R OD) (i : Nat) (ρ : Env) : R Out := match o with
 | some (some (.ol xs)) => unK (fun y => match y with
  | .ol ys => if xs.length + ys.length ≤ BIG then .ok (.nx (ρ.set i (some (.ol (xs ++ ys))))) else .bad
  | _ => .bad) a
 | _ => .bad
theorem Ak (i : Nat) : CI i a ρ = yl ρ[i]? (a ρ) i ρ := by
 unfold CI yl;generalize ρ[i]? = o
 rcases pA (β := Nat) o with rfl | rfl | ⟨d, rfl⟩ | ⟨xs, rfl⟩ | ⟨xs, rfl⟩ | ⟨xs, rfl⟩
 ·rfl
 ·rfl
 ·rfl
 ·cases a ρ with
  | ok y => cases y <;> rfl
  | ex c => rfl
  | bad => rfl
 ·rfl
 ·rfl
theorem A9 {xs ys : List OD} {i : Nat} : yl (some (some (.ol xs))) (.ok (.ol ys)) i ρ = if xs.length + ys.length ≤ BIG then .ok (.nx (ρ.set i (some (.ol (xs ++ ys))))) else .bad := rfl
end
theorem fO {α : Type} {g : Fg} {el : Fe} {ρ0 : Env} {ds : List PyData} {r : R (List OD)} (hL : cw g e6 el ρ0 ds [] = r) (emb : α → PyData) (y : α → OD) (L : List α) (e : ds = L.map emb) (hl : L.length ≤ BIG) (h : ∀ x ∈ L, unK el (g (.sh (emb x)) ρ0) = .ok (y x)) : r = .ok (L.map y) := by
 subst e;rw [← hL];have go : ∀ (L : List α) (acc : List OD), (∀ x ∈ L, unK el (g (.sh (emb x)) ρ0) = .ok (y x)) → acc.length + L.length ≤ BIG → cw g e6 el ρ0 (L.map emb) acc = .ok (acc ++ L.map y) := by
  intro L
  induction L with
  | nil => intro acc _ _; rw [List.map_nil, cw, List.map_nil, List.append_nil]
  | cons x L ih =>
   intro acc h hl;have hx := h x List.mem_cons_self;rw [List.length_cons] at hl;rw [List.map_cons, cw];cases hg : g (.sh (emb x)) ρ0 with
   | ok ρ =>
    rw [hg] at hx;have hx' : el ρ = .ok (y x) := hx;simp only [l7, cE, e6, if_true, hx'];rw [if_pos (by lia), ih (acc ++ [y x]) (fun z hz => h z (List.mem_cons_of_mem _ hz)) (by rw [List.length_append, List.length_singleton]; lia), List.map_cons, List.append_assoc]
    rfl
   | ex c => rw [hg] at hx; cases hx
   | bad => rw [hg] at hx; cases hx
 rw [go L [] h (by simpa using hl)]
 rfl
theorem kj {α : Type} {g : Fg} {t : Ft} {el : Fe} {ρ0 : Env} {ds : List PyData} {r : R (List OD)} (hL : cw g t el ρ0 ds [] = r) (emb : α → PyData) (p : α → Bool) (y : α → OD) (L : List α) (e : ds = L.map emb) (hl : L.length ≤ BIG) (h : ∀ x ∈ L, unK t (g (.sh (emb x)) ρ0) = .ok (p x) ∧ (p x = true → unK el (g (.sh (emb x)) ρ0) = .ok (y x))) : r = .ok ((L.filter p).map y) := by
 subst e;rw [← hL];have go : ∀ (L : List α) (acc : List OD), (∀ x ∈ L, unK t (g (.sh (emb x)) ρ0) = .ok (p x) ∧ (p x = true → unK el (g (.sh (emb x)) ρ0) = .ok (y x))) → acc.length + L.length ≤ BIG → cw g t el ρ0 (L.map emb) acc = .ok (acc ++ (L.filter p).map y) := by
  intro L
  induction L with
  | nil => intro acc _ _; rw [List.map_nil, cw, List.filter_nil, List.map_nil, List.append_nil]
  | cons x L ih =>
   intro acc h hl;obtain ⟨hx, hy⟩ := h x List.mem_cons_self;rw [List.length_cons] at hl;rw [List.map_cons, cw];cases hg : g (.sh (emb x)) ρ0 with
   | ok ρ =>
    rw [hg] at hx hy;have hx' : t ρ = .ok (p x) := hx;have hy' : p x = true → el ρ = .ok (y x) := hy;simp only [l7, cE, hx'];by_cases hp : p x = true
    ·rw [if_pos hp, hy' hp]
     simp only [cE];rw [if_pos (by lia), ih (acc ++ [y x]) (fun z hz => h z (List.mem_cons_of_mem _ hz)) (by rw [List.length_append, List.length_singleton]; lia), List.filter_cons_of_pos hp, List.map_cons, List.append_assoc]
     rfl
    ·rw [if_neg hp, ih acc (fun z hz => h z (List.mem_cons_of_mem _ hz)) (by lia), List.filter_cons_of_neg hp]
   | ex c => rw [hg] at hx; cases hx
   | bad => rw [hg] at hx; cases hx
 rw [go L [] h (by simpa using hl)]
 rfl
end L3
namespace L3
open PySem L2
noncomputable def lay (n : Nat) (d : PyData) : Prop := d.canLay0 = true ∧ d.depth ≤ n
theorem jh (i : Int) : lay 0 (.int i) := ⟨rfl, Nat.le_refl _⟩
theorem vc {x : Str} (h : PyData.strOk x = true) : lay 0 (.str x) := ⟨h, Nat.le_refl _⟩
theorem nh {n : Nat} : ∀ {xs : List PyData}, (∀ x ∈ xs, lay n x) → PyData.canLayAll0 xs = true ∧ PyData.depthAll xs ≤ n
 | [], _ => ⟨rfl, Nat.zero_le _⟩
 | x :: xs, h => by
  obtain ⟨a1, a2⟩ := h x List.mem_cons_self;obtain ⟨b1, b2⟩ := nh (xs := xs) fun y hy => h y (List.mem_cons_of_mem _ hy)
  unfold PyData.canLayAll0 PyData.depthAll;rw [a1, b1];exact ⟨rfl, by lia⟩
theorem nZ {n : Nat} {xs : List PyData} (h : ∀ x ∈ xs, lay n x) : lay (n + 1) (.list xs) := by
 obtain ⟨b1, b2⟩ := nh h;refine ⟨by unfold PyData.canLay0; exact b1, ?_⟩
 unfold PyData.depth
 lia
theorem lP {n : Nat} {xs : List PyData} (h : ∀ x ∈ xs, lay n x) : lay (n + 1) (.tuple xs) := by
 obtain ⟨b1, b2⟩ := nh h;refine ⟨by unfold PyData.canLay0; exact b1, ?_⟩
 unfold PyData.depth
 lia
theorem gS {n : Nat} {d : PyData} (h : lay n d) (hn : n ≤ 64) : SeqAt.shaped d = true := by
 unfold SeqAt.shaped;rw [Bool.and_eq_true];exact ⟨h.1, decide_eq_true (Nat.le_trans h.2 hn)⟩
theorem lay_ints (ns : List Int) : lay 1 (.list (ns.map PyData.int)) := nZ fun x hx => by
 obtain ⟨n, _, rfl⟩ := List.mem_map.mp hx;exact jh n
theorem oz (a b : List PyData) : eqD (.list a) (.list b) = iG (.list a) (.list b) := rfl
theorem qV (a b : List PyData) : eqD (.tuple a) (.tuple b) = iG (.tuple a) (.tuple b) := rfl
theorem lF {n : Nat} {d : PyData} (h : lay n d) (hn : n ≤ 64) : iG d d = .ok true := by
 unfold iG;rw [gS h hn, Bool.and_self, if_pos rfl, SeqAt.eqv_refl _ (SeqAt.canLay_of_shaped (gS h hn))]
theorem nE {n : Nat} {a : List PyData} (h : lay n (.list a)) (hn : n ≤ 64 := by decide) : gNe (.list a) (.list a) = .ok (.sh (.bool false)) := by
 unfold gNe;rw [oz, lF h hn];rfl
end L3
namespace L3
open PySem L2
theorem BV (z : Str) (i : Int) : gIx (.str z) (.int i) = if z.length ≤ BIG then iz ((atI z.cps.toList i).map fun c => .str ⟨#[c]⟩) else .bad := rfl
theorem xT (x y : Str) : bX (.str x) (.str y) = if x.length + y.length ≤ BIG then .ok (.sh (.str (x ++ y))) else .bad := rfl
theorem pH (x y : List PyData) : bX (.list x) (.list y) = if x.length + y.length ≤ BIG then .ok (.ol ((x ++ y).map OD.sh)) else .bad := rfl
theorem yF (xs : List PyData) (k : Int) : dU (.list xs) (.int k) = if (decide (-(2 ^ 63) ≤ k) && decide (k < 2 ^ 63) && decide (xs.length * k.toNat ≤ BIG)) = true then .ok (.ol ((List.replicate k.toNat xs).flatten.map OD.sh)) else .bad := rfl
theorem pV (x : PyData) (n : Nat) (h : n ≤ 1000) : dU (.list [x]) (.int n) = .ok (.ol ((List.replicate n x).map OD.sh)) := by
 rw [yF, if_pos]
 ·rw [Int.toNat_natCast]
  congr 2
  induction n with
  | zero => rfl
  | succ n ih => rw [List.replicate_succ, List.flatten_cons, List.map_append, ih (by lia), List.replicate_succ, List.map_cons]; rfl
 ·rw [Bool.and_eq_true, Bool.and_eq_true, decide_eq_true_eq, decide_eq_true_eq, decide_eq_true_eq]
  refine ⟨⟨by lia, by lia⟩, ?_⟩
  rw [Int.toNat_natCast, List.length_singleton, Nat.one_mul];exact of_eq_true (bN h)
theorem Al (x y : Str) : gEq (.str x) (.str y) = .ok (.sh (.bool (decide (x = y)))) := rfl
theorem By (x y : Str) : gNe (.str x) (.str y) = .ok (.sh (.bool (!decide (x = y)))) := rfl
end L3
namespace L3
open PySem L2
noncomputable def uG (S : Env → Prop) (T : OD → Prop) : R Out → Prop
 | .ok (.nx ρ) => S ρ
 | .ok (.ct ρ) => S ρ
 | .ok (.rt x) => T x
 | _ => False
theorem CL {S : Env → Prop} {T : OD → Prop} {ρ : Env} : uG S T (.ok (.nx ρ)) = S ρ := rfl
theorem AZ {S : Env → Prop} {T : OD → Prop} {ρ : Env} : uG S T (.ok (.ct ρ)) = S ρ := rfl
theorem BJ {S : Env → Prop} {T : OD → Prop} {x : OD} : uG S T (.ok (.rt x)) = T x := rfl
theorem fJ {α : Type} (p : α → Bool) : ∀ (L : List α) (i : Nat), (∀ k, k < i → ∀ x, L[k]? = some x → p x = true) → (∀ x, L[i]? = some x → p x = false) → i ≤ L.length → L.takeWhile p = L.take i
 | [], i, _, _, _ => by simp
 | x :: L, 0, _, h, _ => by rw [List.takeWhile_cons, h x rfl, List.take_zero]; rfl
 | x :: L, i + 1, h1, h2, h3 => by
  rw [List.takeWhile_cons, h1 0 (by lia) x rfl, List.take_succ_cons, fJ p L i (fun k hk y hy => h1 (k + 1) (by lia) y (by simpa using hy)) (fun y hy => h2 y (by simpa using hy)) (by simpa using h3)]
  rfl
theorem vo (xs : List PyData) (a b : Nat) (ha : a ≤ xs.length) (hb : b ≤ xs.length) : cutD xs (some (a : Int)) (some (b : Int)) = (xs.drop a).take (b - a) := by
 unfold cutD;rw [HT.kf, HT.kf, Nat.min_eq_left ha, Nat.min_eq_left hb]
theorem nj (xs : List PyData) (a : Nat) (ha : a ≤ xs.length) : cutD xs (some (a : Int)) none = xs.drop a := by
 unfold cutD;rw [HT.kf, HT.n_, Nat.min_eq_left ha, List.take_of_length_le (by rw [List.length_drop]; lia)]
theorem qM {n : Nat} {a : List PyData} (h : lay n (.tuple a)) (hn : n ≤ 64 := by decide) : gNe (.tuple a) (.tuple a) = .ok (.sh (.bool false)) := by
 unfold gNe;rw [qV, lF h hn];rfl
end L3
namespace L3
open PySem L2 PySem.Spec PyProof.Rows
noncomputable def Itd (lo : Int) (n : Nat) : It := ⟨fun i _ => i < n, fun i H x H' => H' = H ∧ x = .int (lo - i), fun i _ => n ≤ i⟩
theorem qF {P : Program} {w : World} {K : PySem.W.Frag} {tg : Expr} (it : Addr) (lo : Int) (n : Nat) : Turn P w K tg (Itd lo n) [it] it (fun i h => IsRangeIter h it (lo + (i : Nat) * (-1)) ((n : Int) - (i : Nat)) (-1)) where
 mem := by simp
 obj := fun i h st b hb => by
  have e : b = it := by simpa using hb
  subst e;exact ⟨_, st, fun v z => by
   have z' : Data.fields _ = Data.cell v := z;cases z'⟩
 keep := fun i h h' st k => k it (by simp) _ st
 item := by
  intro X hP hw hK hc i pins s σ H E I hf st hg;subst hP hw hK;obtain ⟨f0, f1, f2, f3, f4, f5⟩ := hf it (by simp)
  have W := PySem.Walks.range (prog := X.prog) (w := X.w) (I.ok.hd hc) it lo (-1) n;refine W.item i s _ _ hg st fun v h' tk hv st' kk => ?_
  obtain ⟨t, rfl⟩ := hv;have I1 : Inv X pins σ H { s with heap := h', toks := tk } := I.turned (fun b o hb e => kk b o (by simpa using hb) e) f0 f1 f3 f4 f5
  refine ⟨_, rfl, rZ (s := { s with heap := h', toks := tk }) (n := "range_iterator") st' rfl rfl (by decide) ⟨.int (lo - i), H, I1, ⟨t, ?_⟩, ⟨rfl, rfl⟩, st', fun b hb => (hf b hb).1⟩⟩
  congr 1
  lia
 done := by
  intro X hP hw hK hc i pins s σ H E I hf st hg;subst hP hw hK;obtain ⟨f0, f1, f2, f3, f4, f5⟩ := hf it (by simp)
  exact wpAny_pyNext_range_end (I.ok.hd hc) st (by have : n ≤ i := hg; lia) fun h' eb => ⟨rfl, I.turned (t' := s.toks) (fun b o hb e => eb b o hb e) f0 f1 f3 f4 f5⟩
 self := fun _ _ _ _ _ st h => wpAny_pyIter_rangeiter st h
theorem rangeSize_down (a b : Int) : Builtin.Range.rangeSize a b (-1) = if a > b then a - b else 0 := by
 unfold Builtin.Range.rangeSize;simp only [show ¬ ((-1 : Int) > 0) by decide, if_false]
 have : (-(-1 : Int)) = 1 := by decide
 rw [this, Int.ediv_one];split <;> lia
theorem small_down {a b : Int} (ha : -(2 ^ 62) ≤ a) (ha' : a < 2 ^ 62) (hb : -(2 ^ 62) ≤ b) (hb' : b < 2 ^ 62) : Builtin.Range.small a b (-1) = true := by
 unfold Builtin.Range.small;rw [rangeSize_down];simp only [Builtin.Range.rangeFitsLong, Bool.and_eq_true, Bool.or_eq_true, decide_eq_true_eq, beq_iff_eq, show ¬ ((-1 : Int) > 0) by decide, if_false]
 split <;> lia
section
variable {X : Cx} {tg : Expr}
theorem uJ {pins : List (Addr × Obj)} {σ : St} {H : Hp} {s : Shared} {R : It → Hp → Prop} {E : Value → Shared → Prop} {lo hi : Int} {t u v : Tok} {tk : Nat} (I : Inv X pins σ H s) (h1 : -(2 ^ 62) ≤ lo) (h2 : lo < 2 ^ 62) (h3 : -(2 ^ 62) ≤ hi) (h4 : hi < 2 ^ 62)
  (q : R (Itd lo (lo - hi).toNat) H) : wpAny (model X.prog X.w) X.A (pyIter (.ref s.heap.objs.size)) (PIE X pins σ tg R) E { s with heap := s.heap.push { cls := .type "range", data := .fields #[.int lo t, .int hi u, .int (-1) v] }, toks := tk } := by
 refine wpAny_pyIter_range (IsRange.new ..) (small_down h1 h2 h3 h4) ?_;have I1 : Inv X pins σ H { s with heap := s.heap.push { cls := .type "range", data := .fields #[.int lo t, .int hi u, .int (-1) v] }, toks := tk } := I.kept fun b o e => Heap.get?_push_of_some _ e
 refine ⟨(s.heap.push { cls := .type "range", data := .fields #[.int lo t, .int hi u, .int (-1) v] }).objs.size, [(s.heap.push { cls := .type "range", data := .fields #[.int lo t, .int hi u, .int (-1) v] }).objs.size], _, _, H, rfl,
  I1.kept (t' := tk) fun b o e => Heap.get?_push_of_some _ e, qF _ lo (lo - hi).toNat, ?_, fun b hb => ?_, q⟩
 ·have e1 : lo + ((0 : Nat) : Int) * (-1) = lo := by simp
  have e2 : (((lo - hi).toNat : Nat) : Int) - ((0 : Nat) : Int) = Builtin.Range.rangeSize lo hi (-1) := by rw [rangeSize_down]; split <;> lia
  show IsRangeIter _ _ (lo + ((0 : Nat) : Int) * (-1)) ((((lo - hi).toNat : Nat) : Int) - ((0 : Nat) : Int)) (-1)
  rw [e1, e2];exact Heap.get?_push_size _ rfl
 ·have e : b = (s.heap.push { cls := .type "range", data := .fields #[.int lo t, .int hi u, .int (-1) v] }).objs.size := by simpa using hb
  subst e;exact I1.fpOk (Nat.le_refl _) (I1.hok.fresh (Nat.le_refl _))
noncomputable def wt (ta : TA) : TI := fun σ H R => ta σ H fun vs H1 => ∃ i j : Int, vs = [.int i, .int j, .int (-1)] ∧ (-(2 ^ 62) ≤ i ∧ i < 2 ^ 62 ∧ -(2 ^ 62) ≤ j ∧ j < 2 ^ 62) ∧ R (Itd i (i - j).toNat) H1
theorem rJ {a b c : Expr} {ta : TA} {p pos : Pos} (hg : Gl X "range") (hm : X.mg "range" = none) (ha : PA X [a, b, c] ta) (hs : starEach [a, b, c] X.env = (false, eval a X.env) :: starEach [b, c] X.env) (hs2 : (backTo pos (starEach [b, c] X.env)).any (·.1) = false) :
  PI X tg (.Call (.Name "range" p) [a, b, c] [] pos) (wt ta) := by
 intro pins s σ H R I h;refine Call_ (gZ I hg hm boot_range (PyProof.Rows.callWith_type1 (thn (ha pos pins s σ H _ I h) fun us s1 ⟨vs, H1, I1, r1, q1⟩ => ?_) hs hs2))
 obtain ⟨i, j, e, ⟨q1, q2, q3, q4⟩, q⟩ := q1;subst e;cases r1 with
 | cons r rr =>
  cases rr with
  | cons r' rr =>
   cases rr with
   | cons r'' rr =>
    cases rr;obtain ⟨t, rfl⟩ := r;obtain ⟨t', rfl⟩ := r';obtain ⟨t'', rfl⟩ := r'';exact call_range_3 (by decide) (uJ I1 q1 q2 q3 q4 q) (.inl (PyProof.noPylong_small (by decide)))
end
noncomputable def kP (lo : Int) (n : Nat) : List PyData := (List.range n).map fun k : Nat => PyData.int (lo - k)
noncomputable def iR3 (a b c : Fe) : Fi := fun ρ => (a ρ).bind fun x => (b ρ).bind fun y => (c ρ).bind fun z => match x.er, y.er, z.er with
 | .int i, .int j, .int k => if (aH i && aH j && decide (k = -1)) = true then .ok (kP i (i - j).toNat) else .bad
 | _, _, _ => .bad
theorem oQ {K : PySem.W.Frag} {F : Hp} (lo : Int) (k : Nat) : Walks K F (Itd lo k) (kP lo k) := by
 intro i G H s1 s2;unfold kP;refine ⟨fun d hd => ?_, fun hl => (show k ≤ i by simpa using hl)⟩
 rw [List.getElem?_map] at hd;obtain ⟨j, hj, rfl⟩ := Option.map_eq_some_iff.mp hd;obtain ⟨h1, h2⟩ := List.getElem?_eq_some_iff.mp hj;have h3 : i = j := by simpa using h2
 subst h3;refine ⟨(show i < k by simpa using h1), fun x H' y => ?_⟩
 obtain ⟨rfl, rfl⟩ := y;exact ⟨G, Ext.refl s2, .int _⟩
section
variable {M : Mx} {n : Nat} {H : Hp} {σ : St} {R' : It → Hp → Prop} {X : Cx} {a b c e : Expr} {fa fb fc : Fe} {pos : Pos} {D : Ends}
theorem C3 (h : tI M n (iR3 fa fb fc) σ H R') : wt (tA M n (af fa (af fb (af fc av)))) σ H R' := by
 obtain ⟨F, ρ, fp, S, p⟩ := h;refine ⟨F, ρ, fp, S, ?_⟩;unfold iR3 at p;have p1 := az.bind p;show az M H fp _ (af fa (af fb (af fc av)) ρ)
 rw [kg, kg, kg, sZ];cases ha : fa ρ with
 | bad => rw [ha] at p1; exact p1
 | ex c => rw [ha] at p1; exact p1
 | ok x =>
  rw [ha] at p1;have p2 : az M H fp _ (fb ρ) := az.bind p1;cases hb : fb ρ with
  | bad => rw [hb] at p2; exact p2
  | ex c => rw [hb] at p2; exact p2
  | ok y =>
   rw [hb] at p2;have p3 : az M H fp _ (fc ρ) := az.bind p2;cases hc : fc ρ with
   | bad => rw [hc] at p3; exact p3
   | ex c => rw [hc] at p3; exact p3
   | ok z =>
    rw [hc] at p3;intro vs F1 H1 fx e1 r1 w1;obtain ⟨G1, d1, k1⟩ := r1.frz e1 w1;cases k1 with
    | @cons v _ _ _ k1 k2 =>
     cases k2 with
     | @cons w _ _ _ k2 k3 =>
      cases k3 with
      | @cons u _ _ _ k3 k4 =>
       cases k4;have p4 : az M H fp (OkI M.K F H R') (match x.er, y.er, z.er with
        | .int i, .int j, .int k => if (aH i && aH j && decide (k = -1)) = true then .ok (kP i (i - j).toNat) else .bad
        | _, _, _ => .bad) := p3
       generalize x.er = dx at p4 k1
       generalize y.er = dy at p4 k2
       generalize z.er = dz at p4 k3
       split at p4
       ·rename_i i j k
        cases k1;cases k2;cases k3;by_cases hs : (aH i && aH j && decide (k = -1)) = true
        ·rw [if_pos hs] at p4
         rw [Bool.and_eq_true, Bool.and_eq_true, decide_eq_true_eq] at hs;obtain ⟨⟨h1, h2⟩, rfl⟩ := hs;have h1 := eg.mp h1;have h2 := eg.mp h2;exact ⟨i, j, rfl, ⟨h1.1, h1.2, h2.1, h2.2⟩, p4 _ G1 H1 d1 (oQ _ _)⟩
        ·rw [if_neg hs] at p4
         exact p4.elim
       ·exact p4.elim
theorem t_ {tg : Expr} {p : Pos} (hg : Gl X "range") (hm : X.mg "range" = none) (h : DE M X a fa) (k : DE M X b fb) (l : DE M X c fc) (hs1 : starEach [a, b, c] X.env = (false, eval a X.env) :: starEach [b, c] X.env := by rfl) (hs0 : starEach [b, c] X.env = (false, eval b X.env) :: starEach [c] X.env := by rfl)
  (hs3 : starEach [c] X.env = (false, eval c X.env) :: starEach [] X.env := by rfl) (hs2 : (backTo pos (starEach [b, c] X.env)).any (·.1) = false := by rfl) : DI M X tg (.Call (.Name "range" p) [a, b, c] [] pos) (iR3 fa fb fc) := fun hK hM =>
 fun pins s σ H R' I z => rJ hg hm ((ae h (ae k (ae l aj hs3) hs0) hs1) hK hM) hs1 hs2 pins s σ H R' I (C3 z)
theorem B9 {ρ : Env} {x y z : Int} (h1 : fa ρ = .ok (.sh (.int x))) (h2 : fb ρ = .ok (.sh (.int y))) (h3 : fc ρ = .ok (.sh (.int z))) (hz : z = -1) (s1 : aH x = true) (s2 : aH y = true) : iR3 fa fb fc ρ = .ok (kP x (x - y).toNat) := by
 unfold iR3;rw [h1, h2, h3];subst hz;simp only [cE, e7, s1, s2, Bool.and_self, decide_true, if_true]
theorem ox {lo : Int} {n i : Nat} {d : PyData} (h : (kP lo n)[i]? = some d) : i < n ∧ d = .int (lo - i) := by
 unfold kP at h;rw [List.getElem?_map] at h;obtain ⟨j, hj, rfl⟩ := Option.map_eq_some_iff.mp h;obtain ⟨h1, h2⟩ := List.getElem?_eq_some_iff.mp hj;have h3 : i = j := by simpa using h2
 subst h3;exact ⟨by simpa using h1, rfl⟩
theorem sD (lo : Int) (n : Nat) : (kP lo n).length = n := by unfold kP; simp
noncomputable def uC (i : Nat) (a : Fe) : Fs := fun ρ => match ρ[i]? with
 | some (some x) => (a ρ).bind fun y => .ok (.rt (.ot [x, y]))
 | _ => .bad
noncomputable def jk (a : Fe) (i : Nat) : Fs := fun ρ => (a ρ).bind fun y => match ρ[i]? with
 | some (some x) => .ok (.rt (.ot [y, x]))
 | _ => .bad
theorem tu {f g : List Addr} {p : Addr} (hf : f.Nodup) (hg : g.Nodup) (d : ∀ a ∈ f, a ∉ g) (n1 : p ∉ f) (n2 : p ∉ g) : (p :: (f ++ (g ++ []))).Nodup := by
 rw [List.append_nil, List.nodup_cons, List.nodup_append];exact ⟨fun m => (List.mem_append.mp m).elim n1 n2, hf, hg, fun a ha b hb e => d a ha (e ▸ hb)⟩
theorem CQ {i : Nat} (h : tS M n (uC i fa) D σ H) : t4 (uV (g9 (gU i) (g9 (tD M n fa) nS))) D σ H := by
 obtain ⟨F, ρ, fp, S, p⟩ := h;unfold uC at p;split at p
 ·rename_i x e
  obtain ⟨v, f, g1, g2, h1, h2, rfl, h4⟩ := S.own.at e;have sub : ∀ a ∈ f, a ∈ g1 ++ (f ++ g2) := fun a m => List.mem_append_right _ (List.mem_append_left _ m)
  have fnd : f.Nodup := by
   have nd := S.nd;simp only [List.nodup_append] at nd;exact nd.2.1.1
  refine ⟨v, h1, F, ρ, _, S, (az.bind p).mono fun y py w F1 H1 fy e1 r1 w1 => ⟨by show 2 ≤ sizeLine; decide, fun q hq => ?_⟩⟩
  have x1 : Own M.K F1 H1 v x f := h2.mono e1.ff fun a _ o z => e1.hh _ _ z
  have q1 : q ∉ f := fun m => by
   obtain ⟨o, z⟩ := x1.dom q m;rw [hq] at z;cases z
  have q2 : q ∉ fy := fun m => by
   obtain ⟨o, z⟩ := r1.own.dom q m;rw [hq] at z;cases z
  have dd : ∀ a ∈ f, a ∉ fy := fun a m z => by
   obtain ⟨o, u⟩ := h2.dom a m;rw [w1 a z] at u;cases u
  have up : ∀ a o, H1 a = some o → upd H1 q (.tup [v, w]) a = some o := fun a o z => by
   rw [aM (aP z hq)];exact z
  refine py (.ref q) F1 (upd H1 q (.tup [v, w])) (q :: (f ++ (fy ++ []))) (Ext.alloc e1.fh hq).fh ⟨.ot bL (.cons (x1.mono (aI.refl _) fun a _ o z => up a o z) (.cons (r1.own.mono (aI.refl _) fun a _ o z => up a o z) .nil)), tu fnd r1.nd dd q1 q2, fun a m => ?_⟩ ⟨e1.ff, fun a o z _ => up a o (e1.hh _ _ z), fun a m => ?_, fun a z _ u => e1.nw a z u⟩
  ·rw [List.append_nil] at m
   rcases List.mem_cons.mp m with rfl | m
   ·exact e1.fh.free hq
   ·rcases List.mem_append.mp m with m | m
    ·exact let ⟨_, z⟩ := h2.dom a m; e1.nw a (b7 z) (S.fr a (sub a m))
    ·exact r1.fr a m
  ·rw [List.append_nil] at m
   rcases List.mem_cons.mp m with rfl | m
   ·exact .inr (e1.hh.free hq)
   ·rcases List.mem_append.mp m with m | m
    ·exact .inl (sub a m)
    ·exact .inr (w1 a m)
 ·exact p.elim
theorem uU {i : Nat} (h : tS M n (jk fa i) D σ H) : t4 (uV (g9 (tD M n fa) (g9 (gU i) nS))) D σ H := by
 obtain ⟨F, ρ, fp, S, p⟩ := h;refine ⟨F, ρ, fp, S, (az.bind p).mono fun y py w F1 H1 fy e1 r1 w1 => ?_⟩
 split at py
 ·rename_i x e
  obtain ⟨v, f, g1, g2, h1, h2, rfl, h4⟩ := S.own.at e;have sub : ∀ a ∈ f, a ∈ g1 ++ (f ++ g2) := fun a m => List.mem_append_right _ (List.mem_append_left _ m)
  have fnd : f.Nodup := by
   have nd := S.nd;simp only [List.nodup_append] at nd;exact nd.2.1.1
  refine ⟨v, h1, by show 2 ≤ sizeLine; decide, fun q hq => ?_⟩
  have x1 : Own M.K F1 H1 v x f := h2.mono e1.ff fun a _ o z => e1.hh _ _ z
  have q1 : q ∉ f := fun m => by
   obtain ⟨o, z⟩ := x1.dom q m;rw [hq] at z;cases z
  have q2 : q ∉ fy := fun m => by
   obtain ⟨o, z⟩ := r1.own.dom q m;rw [hq] at z;cases z
  have dd : ∀ a ∈ fy, a ∉ f := fun a z m => by
   obtain ⟨o, u⟩ := h2.dom a m;rw [w1 a z] at u;cases u
  have up : ∀ a o, H1 a = some o → upd H1 q (.tup [w, v]) a = some o := fun a o z => by
   rw [aM (aP z hq)];exact z
  refine py (.ref q) F1 (upd H1 q (.tup [w, v])) (q :: (fy ++ (f ++ []))) (Ext.alloc e1.fh hq).fh ⟨.ot bL (.cons (r1.own.mono (aI.refl _) fun a _ o z => up a o z) (.cons (x1.mono (aI.refl _) fun a _ o z => up a o z) .nil)), tu r1.nd fnd dd q2 q1, fun a m => ?_⟩ ⟨e1.ff, fun a o z _ => up a o (e1.hh _ _ z), fun a m => ?_, fun a z _ u => e1.nw a z u⟩
  ·rw [List.append_nil] at m
   rcases List.mem_cons.mp m with rfl | m
   ·exact e1.fh.free hq
   ·rcases List.mem_append.mp m with m | m
    ·exact r1.fr a m
    ·exact let ⟨_, z⟩ := h2.dom a m; e1.nw a (b7 z) (S.fr a (sub a m))
  ·rw [List.append_nil] at m
   rcases List.mem_cons.mp m with rfl | m
   ·exact .inr (e1.hh.free hq)
   ·rcases List.mem_append.mp m with m | m
    ·exact .inr (w1 a m)
    ·exact .inl (sub a m)
 ·exact py.elim
theorem tx (i : Nat) {x : Str} {p : Pos} {x1} {pt : Pos} (h : DE M X e fa) (hN : X.N[i]? = some x := by rfl) (hv : Vis X.env.scope x := by first | exact Or.inl rfl | exact Or.inr (Or.inl rfl) | exact Or.inr (Or.inr rfl)) (hd : (x == ("__debug__" : Str)) = false := by decide)
  (hcd : (x == ("__classdict__" : Str)) = false := by decide) (hs1 : starEach [e, .Name x p] X.env = (false, eval e X.env) :: starEach [.Name x p] X.env := by rfl) (hs2 : starEach [.Name x p] X.env = (false, eval (.Name x p) X.env) :: starEach [] X.env := by rfl) :
  DS M X (.Return (some (.Tuple [e, .Name x p] x1 pt)) pos) (jk fa i) := fun hK hM => psI (o6 (pO (dM (h hK hM) (dM (d_ hN hv hd hcd) gO hs2) hs1))) fun _ _ _ q => uU q
theorem uK {i : Nat} {ρ : Env} {x y : OD} (h1 : ρ[i]? = some (some x)) (h2 : fa ρ = .ok y) : jk fa i ρ = .ok (.rt (.ot [y, x])) := by
 unfold jk;rw [h2, cE, h1]
end
end L3
namespace L3
open PySem L2 PySem.Spec PyProof.Rows
end L3
namespace L3
open PySem L2 PySem.Spec PyProof.Rows
section
variable {M : Mx} {n : Nat} {σ : L3.St} {H : Hp} {D : Ends}
end
section
variable {M : Mx} {X : Cx} {e b : Expr} {fa : Fe} {x y : Str} {p p1 p2 p3 pos pos' : Pos}
end
end L3
namespace L3
open PySem L2 PySem.Spec PyProof.Rows
section
variable {K : PySem.W.Frag} {F H : Hp}
end
section
variable {M : Mx} {n : Nat} {σ : L3.St} {H : Hp} {D : Ends} {Q : VK} {fa fb : Fe}
end
section
variable {M : Mx} {X : Cx} {a b e : Expr} {fa fb : Fe} {x : Str} {p pos pos' : Pos}
end
section
variable {ρ : Env} {a b k : Fe}
end
end L3
namespace L3
open PySem L2 PySem.Spec PyProof.Rows
noncomputable def vL (x : PyData) (lo hi : Option Int) : R OD := match x with
 | .str y => if y.length ≤ BIG then .ok (.sh (.str (Txt.slice y lo hi))) else .bad
 | _ => .bad
noncomputable def BB : V → Option Int → Option Int → Hp → VK → Prop := fun x lo hi H Q => ∃ y, x = .str y ∧ y.length ≤ sizeLine ∧ Q (.str (Txt.slice y lo hi)) H
section
variable {X : Cx} {M : Mx}
theorem part_of {v : Value} {o : Option Int} (h : IsPart v o) : ∃ l : Option (Int × Tok), v = partValue l ∧ l.map (·.1) = o := by
 cases h with
 | none => exact ⟨none, rfl, rfl⟩
 | int i t => exact ⟨some (i, t), rfl, rfl⟩
theorem xg : SlR X BB := by
 intro pins s σ H x v vl vu lo hi sl Q I rx hs pl pu h;obtain ⟨y, rfl, hy, q⟩ := h;obtain ⟨t, rfl⟩ := rx;obtain ⟨l, rfl, rfl⟩ := part_of pl;obtain ⟨u, rfl, rfl⟩ := part_of pu;refine ⟨"str", _, PySem.F.slot_str_getitem.lookup, typeIs_str _ _ _, wpAny_getItem_str_slice (l := l) (u := u) (st := none) hs rfl (post_val_or_str ⟨Nat.le_trans (Txt.slice_le y _ _) hy, fun t' k => ?_⟩)⟩
 exact ⟨.str _, H, I.tok k, ⟨t', rfl⟩, q⟩
theorem zA (hK : X.K = M.K) : OkS M BB vL := by
 intro x lo hi dx F H fp Q s rx p;unfold vL at p;split at p
 ·cases rx
  split at p
  ·rename_i hl
   exact ⟨_, rfl, gN hl, OkE.val s p (.str _)⟩
  ·exact p.elim
 ·exact p.elim
theorem B8 (y : Str) (lo hi : Option Int) : vL (.str y) lo hi = if y.length ≤ BIG then .ok (.sh (.str (Txt.slice y lo hi))) else .bad := rfl
end
end L3
namespace L3
open PySem L2 PySem.Spec PyProof.Rows
section
variable {X : Cx} {M : Mx}
end
end L3
namespace L3
open PySem L2 PySem.Spec PyProof.Rows
noncomputable def signs (x : Str) : List PyData := x.cps.toList.map fun c => PyData.str ⟨#[c]⟩
end L3
namespace L3
open PySem L2 PySem.Spec PyProof.Rows
section
variable {M : Mx} {n : Nat} {σ : L2.St} {H : Hp} {Q : VK} {al ak : Fa}
noncomputable def gK {α : Type} (m j : Nat) (us ws : List α) : List α := if us.length = m ∧ ws.length = j then us ++ ws else []
end
section
variable {M : Mx} {X : Cx} {e : Expr} {es : List Expr} {pos kpos : Pos} {fa : Fe} {al ak : Fa} {kws : List Keyword} {nm : Option Str}
end
structure FunD (K : PySem.W.Frag) (x qual : Str) (st : Stmt) (f : Addr) (fd : FuncData) : Prop where
 ex : ∃ (oc : Value) (od : Option Addr) (dV kV doc pm : Value) (an : Option Addr) (cdv ct : Value) (osl : Array (Option Value)),
  fd = PySem.W.fnOf x qual (aO st) (aJ st) (ao st) dV kV doc pm an cdv ct ∧ K.lookup f = some ⟨oc, od, .func fd, osl⟩ ∧ PySem.W.codeIn K cdv qual = true
 kp : PySem.W.keepIn K (.ref f) = true
structure DefD (K : PySem.W.Frag) (mg : Str → Option Value) (x : Str) (st : Stmt) (ps ks : List Str) (m : Nat) (dvs : List V) (f : Addr) (fd : FuncData) : Prop where
 F : FunD K x x st f fd
 g : mg x = some (.ref f)
 b : Binds K fd ps []
 d : ∃ ds, Binds K fd ps ds ∧ Vals dvs ds
 k : KBinds K fd ps ks (gK m dvs.length) (gK m dvs.length)
end L3
namespace L3
open PySem L2 PySem.Spec PyProof.Rows
noncomputable def g6 (i : Nat) (k : Fe) (a : Fe) : Fs := fun ρ => match ρ[i]? with
 | some (some (.ol xs)) => (k ρ).bind fun z => match z.er with
  | .int q => match ixN xs.length q with
   | some j => match xs[j]? with
    | some (.ol ys) => (a ρ).bind fun y => match y with
     | .ol zs => if ys.length + zs.length ≤ BIG then .ok (.nx (ρ.set i (some (.ol (xs.set j (.ol (ys ++ zs))))))) else .bad
     | _ => .bad
    | _ => .bad
   | none => .bad
  | _ => .bad
 | _ => .bad
section
variable {M : Mx} {n : Nat} {σ : L2.St} {H : Hp} {D : Ends}
theorem v_ {i : Nat} {k a : Fe} (h : tS M n (g6 i k a) D σ H) : ou (tBM M.K "list" qt (tOp (pP M.K) (gU i) (tD M n k)) (g9 (tD M n a) nS)) D σ H := by
 obtain ⟨F, ρ, fp, S, p⟩ := h;unfold g6 at p;split at p
 ·rename_i xs e
  have hc : comps (.ol xs) = some (true, xs) := rfl;obtain ⟨v0, _, _, _, h0, own0, _, _⟩ := S.own.at e;refine ⟨v0, h0, F, ρ, fp, S, (az.bind p).mono fun z pz u F1 H1 fz e1 r1 w1 => ?_⟩
  obtain ⟨G1, d1, k1⟩ := r1.frz e1 w1;generalize z.er = dz at pz k1
  cases dz with
  | int q =>
   cases k1;have pz' : az M H fp (fw M n F H fp D) (match ixN xs.length q with
    | some j => match xs[j]? with
     | some (.ol ys) => (a ρ).bind fun y => match y with
      | .ol zs => if ys.length + zs.length ≤ BIG then .ok (.nx (ρ.set i (some (.ol (xs.set j (.ol (ys ++ zs))))))) else .bad
      | _ => .bad
     | _ => .bad
    | none => .bad) := pz
   cases hj : ixN xs.length q with
   | none =>
    rw [hj] at pz';exact pz'.elim
   | some j =>
    rw [hj] at pz';have pz2 : az M H fp (fw M n F H fp D) (match xs[j]? with
     | some (.ol ys) => (a ρ).bind fun y => match y with
      | .ol zs => if ys.length + zs.length ≤ BIG then .ok (.nx (ρ.set i (some (.ol (xs.set j (.ol (ys ++ zs))))))) else .bad
      | _ => .bad
     | _ => .bad) := pz'
    split at pz2
    ·rename_i ys hy
     obtain ⟨b0, vs, b, ws, f, h1, ha, hl, hb1, hb, hw, nf, ff, wr⟩ := (S.ext d1).write2 e hc hy;rw [h0] at h1;cases h1;have at1 : atI vs q = some (.ref b) := by
      unfold atI;rw [hl, hj];exact hb1
     refine ⟨b0, vs, q, .ref b, rfl, rfl, SqL.of ha, at1, .inl ⟨rfl, ws, SqL.of hb⟩, G1, ρ, fp, S.ext d1, ((az.bind pz2).ext d1).mono fun y py v F2 H2 fy e2 r2 w2 => ?_⟩
     cases y with
     | sh d => exact py.elim
     | ot ys => exact py.elim
     | od ys => exact py.elim
     | ol zs =>
      have py' : az M H fp (fw M n F H fp D) (if ys.length + zs.length ≤ BIG then .ok (.nx (ρ.set i (some (.ol (xs.set j (.ol (ys ++ zs))))))) else .bad) := py
      by_cases hlt : ys.length + zs.length ≤ BIG
      ·rw [if_pos hlt] at py'
       obtain ⟨ro, rn, rf⟩ := r2;cases ro with
       | @ol c us _ g hcc hu =>
        refine ⟨b, c, ws, us, rfl, rfl, e2.hh _ _ hb, hcc, by rw [hw.len, hu.len]; exact gN hlt, ?_⟩
        have o : OwnL M.K F2 H2 (ws ++ us) (ys ++ zs) (f ++ g) := (hw.mono e2.ff fun c _ o q => e2.hh _ _ q).app hu
        obtain ⟨fp', S', st⟩ := wr F2 H2 _ _ _ e2 o (List.nodup_append.mpr ⟨nf, (List.nodup_cons.mp rn).2, fun c m d m' z => by
         subst z;obtain ⟨o, q⟩ := hw.dom c m;rw [w2 c (List.mem_cons_of_mem _ m')] at q;cases q⟩) (fun c m => (List.mem_append.mp m).elim .inl fun m => .inr (w2 c (List.mem_cons_of_mem _ m))) (fun c m => (List.mem_append.mp m).elim (fun m => let ⟨_, q⟩ := hw.dom c m; e2.nw c (b7 q) (ff c m)) fun m => rf c (List.mem_cons_of_mem _ m))
        exact py' σ F2 _ fp' S' (d1.stp.trans st)
      ·rw [if_neg hlt] at py'
       exact py'.elim
    ·exact pz2.elim
  | none => exact pz.elim
  | bool _ => exact pz.elim
  | str _ => exact pz.elim
  | list _ => exact pz.elim
  | tuple _ => exact pz.elim
  | dict _ => exact pz.elim
 ·exact p.elim
end
section
variable {M : Mx} {X : Cx} {e b : Expr} {x : Str} {p ap cp pos : Pos} {fa fb : Fe}
theorem nX {p2 : Pos} (i : Nat) (hb : DE M X b fb) (h : DE M X e fa) (hix : j9 b) (hN : X.N[i]? = some x := by rfl) (hv : Vis X.env.scope x := by first | exact Or.inl rfl | exact Or.inr (Or.inl rfl) | exact Or.inr (Or.inr rfl)) (hd : (x == ("__debug__" : Str)) = false := by decide) (hcd : (x == ("__classdict__" : Str)) = false := by decide)
  (hbase : attributeBase (.Subscript (.Name x p) b p2) "extend" X.env (eval (.Subscript (.Name x p) b p2) X.env) = eval (.Subscript (.Name x p) b p2) X.env := by rfl)
  (hfew : ((backTo cp (starEach [e] X.env)).all (fun x => !x.1) && (backToKw cp (keywordEach [] X.env)).all (fun x => x.1.isSome) && decide (([e] : List Expr).length + ([] : List Keyword).length + (if ([] : List Keyword).isEmpty then 0 else 1) < 30)) = true := by rfl)
  (hline : (ap.endLine == cp.line) = true := by rfl) (hs : starEach [e] X.env = (false, eval e X.env) :: starEach [] X.env := by rfl) (hplain : (backTo cp (starEach [] X.env)).any (·.1) = false := by rfl)
  (hsw : swapsWith (.Call (.Attribute (.Subscript (.Name x p) b p2) "extend" ap) [e] [] cp) none pos.line X.env = pure false := by rfl) : DS M X (.Expr (.Call (.Attribute (.Subscript (.Name x p) b p2) "extend" ap) [e] [] cp) pos) (g6 i fb fa) := fun hK hM =>
 Av PySem.F.slot_list_extend PySem.F.type_list_extend rX (nH (kz M.K hK) (d_ hN hv hd hcd) (hb hK hM) hix) (AN h hs hK hM) (fun _ _ _ q => v_ q) hbase hfew hline hs hplain hsw hK
end
section
variable {ρ : Env} {k a : Fe}
theorem vT {i : Nat} {xs ys zs : List OD} {z : Int} {j : Nat} (h1 : ρ[i]? = some (some (.ol xs))) (h2 : k ρ = .ok (.sh (.int z))) (h3 : ixN xs.length z = some j) (h4 : xs[j]? = some (.ol ys)) (h5 : a ρ = .ok (.ol zs)) (h6 : ys.length + zs.length ≤ BIG) :
  g6 i k a ρ = .ok (.nx (ρ.set i (some (.ol (xs.set j (.ol (ys ++ zs))))))) := by
 unfold g6;rw [h1, h2];simp only [cE, e7, h3, h4, h5, h6, if_true]
end
noncomputable def mF (ks : List PyData) (j : Nat) : Bool := ks.any fun d => match d with
 | .int q => decide (q = (j : Int))
 | _ => false
noncomputable def eL (ks : List PyData) : Nat → List OD → List OD
 | _, [] => []
 | i, x :: xs => (if mF ks i = true then .sh x.er else x) :: eL ks (i + 1) xs
noncomputable def jR (i c : Nat) (f : Fs) : Fs := fun ρ => match ρ[i]?, ρ[c]? with
 | some (some (.ol xs)), some (some (.sh (.list ks))) => f (ρ.set i (some (.ol (eL ks 0 xs))))
 | _, _ => f ρ
theorem OwnL.frzS {K : PySem.W.Frag} {F H : Hp} (ks : List PyData) (i : Nat) {vs : List V} {xs : List OD} {f : List Addr} (o : OwnL K F H vs xs f) (nd : f.Nodup) :
  ∃ f0 f1 : List Addr, (∀ a, a ∈ f ↔ a ∈ f0 ∨ a ∈ f1) ∧ f1.Nodup ∧ (∀ a ∈ f0, a ∉ f1) ∧ ∀ G, aI F G → (∀ a ∈ f0, ∀ o, H a = some o → G a = some o) → OwnL K G H vs (eL ks i xs) f1 := by
 induction xs generalizing i vs f with
 | nil =>
  cases o;exact ⟨[], [], (fun a => by simp), List.nodup_nil, (fun a m => by cases m), fun G e k => OwnL.nil⟩
 | cons x r0 ih =>
 cases o with
 | @cons _ _ fh fr _ _ h r =>
  rw [List.nodup_append] at nd;obtain ⟨n1, n2, n3⟩ := nd;obtain ⟨f0, f1, a1, a2, a3, a4⟩ := ih (i + 1) r n2;by_cases hp : mF ks i = true
  ·refine ⟨fh ++ f0, f1, fun a => ?_, a2, fun a m m1 => ?_, fun G e k => ?_⟩
   ·rw [List.mem_append, List.mem_append, a1 a]
    constructor
    ·rintro (z | z | z)
     ·exact .inl (.inl z)
     ·exact .inl (.inr z)
     ·exact .inr z
    ·rintro ((z | z) | z)
     ·exact .inl z
     ·exact .inr (.inl z)
     ·exact .inr (.inr z)
   ·rcases List.mem_append.mp m with z | z
    ·exact n3 a z a ((a1 a).mpr (.inr m1)) rfl
    ·exact a3 a z m1
   ·unfold eL
    rw [if_pos hp];have := OwnL.cons (K := K) (F := G) (H := H) (f := []) (g := f1) (Own.sh (h.frz e fun a m o q => k a (List.mem_append_left _ m) o q)) (a4 G e fun a m => k a (List.mem_append_right _ m))
    exact this
  ·refine ⟨f0, fh ++ f1, fun a => ?_, ?_, fun a m m1 => ?_, fun G e k => ?_⟩
   ·rw [List.mem_append, List.mem_append, a1 a]
    constructor
    ·rintro (z | z | z)
     ·exact .inr (.inl z)
     ·exact .inl z
     ·exact .inr (.inr z)
    ·rintro (z | z | z)
     ·exact .inr (.inl z)
     ·exact .inl z
     ·exact .inr (.inr z)
   ·rw [List.nodup_append]
    exact ⟨n1, a2, fun a m b m2 => n3 a m b ((a1 b).mpr (.inr m2))⟩
   ·rcases List.mem_append.mp m1 with z | z
    ·exact n3 a z a ((a1 a).mpr (.inl m)) rfl
    ·exact a3 a m z
   ·unfold eL
    rw [if_neg hp];exact .cons (h.mono e fun a m o q => q) (a4 G e k)
section
variable {M : Mx} {n : Nat} {σ : L2.St} {H : Hp} {D : Ends}
theorem zD {f : Fs} {i c : Nat} (h : tS M n (jR i c f) D σ H) : tS M n f D σ H := by
 obtain ⟨F, ρ, fp, S, p⟩ := h;unfold jR at p;split at p
 ·rename_i xs ks e _
  obtain ⟨v, f, g1, g2, h1, h2, rfl, h4⟩ := S.own.at e;cases h2 with
  | @ol a vs _ fl ha hv =>
   have nd := S.nd;have nd' := nd;simp only [List.nodup_append, List.mem_append, List.cons_append, List.nodup_cons, List.mem_cons] at nd';obtain ⟨n1, ⟨na, n2, n3, n4⟩, n5⟩ := nd';obtain ⟨f0, f1, a1, a2, a3, a4⟩ := OwnL.frzS ks 0 hv n2;have ff : ∀ b ∈ f0, F b = none := fun b m => S.fr b (by simp [(a1 b).mpr (.inl m)])
   have o := h4 (iF F H f0) H (fE ff) (fun _ _ _ q => q) (.ref a) (.ol (eL ks 0 xs)) (a :: f1) (.ol ha (a4 _ (fE ff) fun b m o q => by rw [jc m]; exact q))
   rw [ku h1] at o;have sub : ∀ b ∈ g1 ++ ((a :: f1) ++ g2), b ∈ g1 ++ ((a :: fl) ++ g2) ∧ b ∉ f0 := fun b m => by
    simp only [List.mem_append, List.mem_cons, List.cons_append] at m ⊢;rcases m with m | (m | m | m)
    ·exact ⟨.inl m, fun z => n5 b m b (.inr (.inl ((a1 b).mpr (.inl z)))) rfl⟩
    ·exact ⟨.inr (.inl m), fun z => na (.inl (by rw [← m]; exact (a1 b).mpr (.inl z)))⟩
    ·exact ⟨.inr (.inr (.inl ((a1 b).mpr (.inr m)))), fun z => a3 b z m⟩
    ·exact ⟨.inr (.inr (.inr m)), fun z => n4 b ((a1 b).mpr (.inl z)) b m rfl⟩
   have st : Stp F H (g1 ++ ((a :: fl) ++ g2)) (iF F H f0) H (g1 ++ ((a :: f1) ++ g2)) := ⟨fE ff, fun _ _ h _ => h, fun b m => .inl (sub b m).1, fun b h m z => by
    rw [fV fun w => m (by simp [(a1 b).mpr (.inl w)])]
    exact z⟩
   refine ⟨iF F H f0, _, _, ⟨my S.same, o, ?_, fun b m => ?_, by rw [List.length_set]; exact S.len⟩, PostS.stp st p⟩
   ·simp only [List.nodup_append, List.mem_append, List.cons_append, List.nodup_cons, List.mem_cons]
    refine ⟨n1, ⟨fun z => ?_, a2, n3, fun b m c m2 => n4 b ((a1 b).mpr (.inr m)) c m2⟩, fun b m c m2 => ?_⟩
    ·rcases z with z | z
     ·exact na (.inl ((a1 a).mpr (.inr z)))
     ·exact na (.inr z)
    ·rcases m2 with z | z | z
     ·exact n5 b m c (.inl z)
     ·exact n5 b m c (.inr (.inl ((a1 c).mpr (.inr z))))
     ·exact n5 b m c (.inr (.inr z))
   ·rw [fV (sub b m).2]
    exact S.fr b (sub b m).1
 ·exact ⟨F, ρ, fp, S, p⟩
end
theorem qA {M : Mx} {X : Cx} {st : Stmt} {f : Fs} (i c : Nat) (h : DS M X st f) : DS M X st (jR i c f) := fun hK hM => psI (h hK hM) fun _ _ _ q => zD q
noncomputable def gJ (xs : List OD) : List PyData → Option (List PyData)
 | [] => some []
 | .int q :: r => match ixN xs.length q with
  | some j => match xs[j]? with
   | some (.sh d) => (gJ xs r).map fun ds => d :: ds
   | _ => none
  | none => none
 | _ :: _ => none
noncomputable def nT (i c : Nat) : Fe := fun ρ => match ρ[i]?, ρ[c]? with
 | some (some (.ol xs)), some (some (.sh (.list ks))) => match gJ xs ks with
  | some ds => if ds.length ≤ BIG then .ok (.ol (ds.map OD.sh)) else .bad
  | none => .bad
 | _, _ => .bad
noncomputable def jM (vs : List V) (w : V) : V := match w with
 | .int q => (atI vs q).getD .non
 | _ => .non
theorem qb {K : PySem.W.Frag} {F H : Hp} {vs : List V} {xs : List OD} {f : List Addr} (o : OwnL K F H vs xs f) : ∀ {ws : List V} {ks ds : List PyData}, RepAll K F ws ks → gJ xs ks = some ds → RepAll K F (ws.map (jM vs)) ds ∧ ∀ (i : Nat) (w : V), ws[i]? = some w → ∃ (q : Int) (y : V), w = V.int q ∧ atI vs q = some y
 | _, _, _, .nil, e => by
  unfold gJ at e;cases e;exact ⟨.nil, fun i w h => by simp at h⟩
 | _, _, ds, .cons (v := v) (d := d) h r, e => by
  cases h with
  | int q =>
   unfold gJ at e;split at e
   ·rename_i j hj
    split at e
    ·rename_i d' hd
     obtain ⟨es, he, rfl⟩ := Option.map_eq_some_iff.mp e;obtain ⟨r1, r2⟩ := qb o r he;obtain ⟨y, f', _, _, y1, y2, _, _⟩ := o.at hd;cases y2 with
     | sh yr =>
      have hat : atI vs q = some y := by
       unfold atI;rw [o.len, hj];exact y1
      refine ⟨.cons (by show Rep K F ((atI vs q).getD V.non) d'; rw [hat]; exact yr) r1, fun i w hw => ?_⟩
      cases i with
      | zero =>
       simp at hw
       subst hw;exact ⟨q, y, rfl, hat⟩
      | succ i => exact r2 i w (by simpa using hw)
    ·cases e
   ·cases e
  | non => unfold gJ at e; cases e
  | bl b => unfold gJ at e; cases e
  | str x => unfold gJ at e; cases e
  | lst _ _ => unfold gJ at e; cases e
  | tup _ _ => unfold gJ at e; cases e
  | dct _ _ _ => unfold gJ at e; cases e
theorem AI {M : Mx} {n : Nat} {σ : L2.St} {H : Hp} {Q : VK} {i c : Nat} {x : Str} (h : tD M n (nT i c) σ H Q) : qj (nV M.K (gU c)) (jN 0) vx (tOp (pP M.K) (gU 1) (gU 0)) 1 [(i, x)] σ H Q := by
 obtain ⟨F, ρ, fp, S, p⟩ := h;unfold nT at p;split at p
 ·rename_i xs ks e1 e2
  split at p
  ·rename_i ds hds
   split at p
   ·rename_i hbig
    obtain ⟨v, f, g1, g2, h1, h2, _, _⟩ := S.own.at e1;obtain ⟨w, f', _, _, k1, k2, _, _⟩ := S.own.at e2;cases h2 with
    | @ol l vs _ fl hl ov =>
     cases k2 with
     | sh kr =>
      cases kr with
      | @lst a ws _ rd rw' =>
       obtain ⟨r1, r2⟩ := qb ov rw' hds;have hsl : slots 1 [(i, x)] σ = [none, some (.ref l)] := by
        unfold slots;show [none] ++ [(σ[i]?).join] = _
        rw [h1];rfl
       refine ⟨.ref a, k1, a, rfl, ⟨ws, (rd.same S.same).sq⟩, fun D hD => ?_⟩
       rw [hsl];refine t8 (K := M.K) (xs := ws) (PvM H D fun i => (ws.take i).map (jM vs)) (PvM.start hD (by simp)) (fun i acc H' _ pv => ((rd.same S.same).same pv.2.1).sq) (fun i y acc H' hy pv => ?_) fun acc H' pv => ?_
       ·obtain ⟨q, z, rfl, hz⟩ := r2 i y hy
        have il := (List.getElem?_eq_some_iff.mp hy).1;have lw := r1.len;rw [List.length_map] at lw;refine ⟨⟨rfl, trivial⟩, ?_⟩;unfold vx;simp only [reduceIte];refine ⟨.ref l, rfl, .int q, rfl, l, vs, q, z, rfl, rfl, SqL.of (pv.2.1 _ _ hl), hz, ?_⟩;refine PvM.yes hD pv ?_ ?_
        ·show (ws.take (i + 1)).map (jM vs) = (ws.take i).map (jM vs) ++ [z]
         rw [List.take_add_one, hy, List.map_append];have ez : jM vs (.int q) = z := by show (atI vs q).getD V.non = z; rw [hz]; rfl
         show _ ++ [jM vs (.int q)] = _
         rw [ez]
        ·show ((ws.take i).map (jM vs)).length < sizeLine
         rw [List.length_map, List.length_take];exact oV (by lia)
       ·obtain ⟨pa, pb, pc⟩ := pv
        have pa' : acc = (ws.take ws.length).map (jM vs) := pa;rw [List.take_of_length_le (Nat.le_refl _)] at pa';subst pa';exact p (.ref D) F H' [D] ⟨aI.refl _, pb, S.same.trans pb, fun _ _ z => z⟩ ⟨.ol pc (OwnL.shs r1), by simp, fun a m => by
         have : a = D := by simpa using m
         rw [this];exact S.same.free hD⟩ fun a m => by
         have : a = D := by simpa using m
         rw [this];exact hD
   ·exact p.elim
  ·exact p.elim
 ·exact p.elim
section
variable {M : Mx} {X : Cx} {sc scope : Scope} {p p1 p2 p3 p4 p5 pos spos : Pos} {x y z b : Str}
theorem uv {i c bi : Nat} (B : Blk X sc scope [(i, x)]) (hN : X.N.Nodup) (hix : X.N[bi]? = some b) (hx : Loc X.env.scope b) (hcalm : X.calm = true) (hc : X.N[c]? = some z) (hv : Vis X.env.scope z)
  (hg : ∀ s H C ex pins, PG (cxB X ([y] ++ [(i, x)].map (·.2)) scope s H C ex pins) (.Name y p4) (jN 0))
  (he : ∀ s H C ex pins, (cxB X ([y] ++ [(i, x)].map (·.2)) scope s H C ex pins).K = M.K → PE (cxB X ([y] ++ [(i, x)].map (·.2)) scope s H C ex pins) (.Subscript (.Name x p1) (.Name y p2) p3) (tOp (pP M.K) (gU 1) (gU 0)))
  (hd : (z == ("__debug__" : Str)) = false := by decide) (hcd : (z == ("__classdict__" : Str)) = false := by decide)
  (hsw : swapsWith (.ListComp (.Subscript (.Name x p1) (.Name y p2) p3) [⟨.Name y p4, .Name z p5, [], 0⟩] scope pos) (some (.Name b p)) spos.line X.env = pure true := by rfl)
  (hs : ∀ v, foldedSetIterable (.Name z p5) X.env v = pure v := by intro _; rfl) (hf : X.fn b = true ∨ X.env.scope.names.lookup b = some .local := by first | exact .inl rfl | exact .inr rfl | assumption) :
  DS M X (.Assign [.Name b p] (.ListComp (.Subscript (.Name x p1) (.Name y p2) p3) [⟨.Name y p4, .Name z p5, [], 0⟩] scope pos) spos) (aQ bi (eSh (nT i c))) := fun hK hM =>
 psI (qp (wi := nV M.K (gU c)) (g := jN 0) (tc := vx) (te := tOp (pP M.K) (gU 1) (gU 0)) [y] hN hix hx B hcalm (s_ M.K hK (d_ hc hv hd hcd)) hg (fun _ _ _ _ _ => tY) (fun s H C ex pins => he s H C ex pins hK) hsw hs hf) fun D σ H q => by
  have q' := sM (jJ hix) q;exact AI (qK q')
end
end L3
namespace L3
open PySem L2
theorem yI {i c : Nat} {f : Fs} {ρ : Env} {xs : List OD} {ks : List PyData} (h1 : ρ[i]? = some (some (.ol xs))) (h2 : ρ[c]? = some (some (.sh (.list ks)))) : jR i c f ρ = f (ρ.set i (some (.ol (eL ks 0 xs)))) := by
 unfold jR;rw [h1, h2]
theorem Cd {i c : Nat} {ρ : Env} {xs : List OD} {ks ds : List PyData} (h1 : ρ[i]? = some (some (.ol xs))) (h2 : ρ[c]? = some (some (.sh (.list ks)))) (h3 : gJ xs ks = some ds) (h4 : ds.length ≤ BIG) : nT i c ρ = .ok (.ol (ds.map OD.sh)) := by
 unfold nT;rw [h1, h2];show (match gJ xs ks with | some ds => if ds.length ≤ BIG then R.ok (OD.ol (ds.map OD.sh)) else .bad | none => .bad) = _
 rw [h3];show (if ds.length ≤ BIG then _ else _) = _
 rw [if_pos h4]
theorem g_ (ks : List PyData) : ∀ (xs : List OD) (i j : Nat), (eL ks i xs)[j]? = (xs[j]?).map fun x => if mF ks (i + j) = true then OD.sh x.er else x
 | [], i, j => by simp [eL]
 | x :: xs, i, 0 => by simp [eL]
 | x :: xs, i, j + 1 => by
  rw [eL, List.getElem?_cons_succ, List.getElem?_cons_succ, g_ ks xs (i + 1) j, show i + 1 + j = i + (j + 1) by lia]
theorem iY (ks : List PyData) : ∀ (xs : List OD) (i : Nat), (eL ks i xs).length = xs.length
 | [], i => rfl
 | x :: xs, i => by rw [eL, List.length_cons, List.length_cons, iY ks xs (i + 1)]
theorem qf (ks : List PyData) : ∀ (xs : List OD) (i : Nat), (eL ks i xs).map OD.er = xs.map OD.er
 | [], i => rfl
 | x :: xs, i => by
  rw [eL, List.map_cons, List.map_cons, qf ks xs (i + 1)];congr 1
  split
  ·exact e7 _
  ·rfl
end L3
namespace L2
open PySem PySem.Spec PyProof.Rows
end L2
namespace L2
open PySem PySem.Spec PyProof.Rows
structure BlkK (X : Cx) (sc scope : Scope) (outs : List (Nat × Str)) : Prop where
 hsc : X.env.scope = sc
 kind : scope.kind = .function
 loc : ∀ x ∈ scope.names, x.2 = .local → scope.names.lookup x.1 = some .local
 own : ∀ x ∈ scope.names, x.2 = .cell → scope.names.lookup x.1 = some .cell
 ap : ∀ x ∈ scope.names, x.2 = .free → (x.1, NameKind.cell) ∉ scope.names
 fr : ∀ x ∈ scope.names, x.2 = .free → sc.names.lookup x.1 = some .cell ∨ sc.names.lookup x.1 = some .free
 out : ji X scope outs
section
variable {X : Cx} {sc scope : Scope} {own : List Str} {outs : List (Nat × Str)} {elt tg iter : Expr} {ifs : List Expr} {pos : Pos} {g : TG} {tc : TT} {te : TE}
end
end L2
namespace L3
open PySem L2 PySem.Spec PyProof.Rows
section
variable {M : Mx} {X : Cx} {e a b c : Expr} {es : List Expr} {pos : Pos} {fa fb : Fe} {ta tb : Ft} {al : Fa} {x : Str} {p ap cp : Pos}
variable {sc scope : Scope} {outs : List (Nat × Str)} {elt tg iter : Expr} {ifs : List Expr} {it : Fi} {gg : Fg} {is : List Nat} {el : Fe}
end
end L3
namespace L3
open PySem L2 PySem.Spec PyProof.Rows
theorem gp : ∀ {us : List Value} {ns : List Int}, IntsAre us ns → Vals (ns.map V.int) us
 | _, _, .nil => .nil
 | _, _, .cons n t r => .cons ⟨t, rfl⟩ (gp r)
section
variable {X : Cx} {M : Mx}
end
end L3
namespace L3
open PySem L2 PySem.Spec PyProof.Rows
section
variable {M : Mx} {n : Nat} {σ : L2.St} {H : Hp} {D : Ends} {Q Q' : VK}
end
noncomputable def LT (F : Hp) (b : Addr) : Prop := (∃ ws, F b = some (.lst ws)) ∨ ∃ r ws, F b = some (.tup (.ref r :: ws))
open Classical in
noncomputable def vK (F : Hp) (f : List Addr) : Hp := fun b => if b ∈ f then none else F b
theorem ur {F : Hp} {f : List Addr} {b : Addr} (h : b ∉ f) : vK F f b = F b := by unfold vK; rw [if_neg h]
section
variable {K : PySem.W.Frag} {F H : Hp} {f : List Addr}
end
section
variable {M : Mx} {n : Nat} {σ : L2.St} {H : Hp} {Q : VK}
end
section
variable {M : Mx} {X : Cx} {e : Expr} {fa fb : Fe}
end
theorem ex1 {α : Type} {us : List α} (h : us.length = 1) : ∃ a, us = [a] := by
 cases us with
 | nil => cases h
 | cons a r =>
  cases r with
  | nil => exact ⟨a, rfl⟩
  | cons b r => cases h
theorem ex2 {α : Type} {us : List α} (h : us.length = 2) : ∃ a b, us = [a, b] := by
 cases us with
 | nil => cases h
 | cons a r =>
  obtain ⟨b, e⟩ := ex1 (Nat.succ.inj h);exact ⟨a, b, by rw [e]⟩
theorem ex3 {α : Type} {us : List α} (h : us.length = 3) : ∃ a b c, us = [a, b, c] := by
 cases us with
 | nil => cases h
 | cons a r =>
  obtain ⟨b, c, e⟩ := ex2 (Nat.succ.inj h);exact ⟨a, b, c, by rw [e]⟩
theorem ex4 {α : Type} {us : List α} (h : us.length = 4) : ∃ a b c d, us = [a, b, c, d] := by
 cases us with
 | nil => cases h
 | cons a r =>
  obtain ⟨b, c, d, e⟩ := ex3 (Nat.succ.inj h);exact ⟨a, b, c, d, by rw [e]⟩
theorem ex5 {α : Type} {us : List α} (h : us.length = 5) : ∃ a b c d f, us = [a, b, c, d, f] := by
 cases us with
 | nil => cases h
 | cons a r =>
  obtain ⟨b, c, d, f, e⟩ := ex4 (Nat.succ.inj h);exact ⟨a, b, c, d, f, by rw [e]⟩
end L3
namespace L3
open PySem L2 PySem.Spec PyProof.Rows
section
variable {M : Mx} {n : Nat} {σ : L2.St} {H : Hp} {Q : VK}
end
section
variable {X : Cx} {M : Mx}
end
end L3
namespace L3
open PySem L2 PySem.Spec PyProof.Rows
end L3
namespace L3
open PySem L2 PySem.Spec PyProof.Rows PySem.W PySem.Calls
end L3
namespace L2
open PySem PySem.Spec PyProof.Rows
noncomputable def wI (n0 n : Nat) : List Value := (List.range n).map fun j => Value.ref (n0 + j)
structure ZS (h : Heap) (n0 n : Nat) (ls : Nat → Nat) (is : Nat → Nat) (f0 : Value) (arr : List Value) : Prop where
 zp : h.get? (n0 + n + 2) = some { cls := .type "zip", dict := none, data := .fields #[f0, .bool false, .bool false, .ref (n0 + n), .ref (n0 + n + 1)], slots := #[] }
 ti : h.get? (n0 + n) = some { cls := .type "tuple", data := .seq (wI n0 n).toArray }
 to : h.get? (n0 + n + 1) = some { cls := .type "tuple", data := .seq arr.toArray }
 it : ∀ j, j < n → h.IsListIter (n0 + j) (ls j) (is j)
section
variable {prog : Program} {w : World} {A : Around} {E : Value → Shared → Prop} {s : Shared}
end
end L2
namespace L2
open PySem PySem.Spec PyProof.Rows
end L2
namespace L3
open PySem L2 PySem.Spec PyProof.Rows
section
variable {M : Mx} {n : Nat} {F H : Hp} {σ : St} {D : Ends} {R' : It → Hp → Prop} {X : Cx}
end
section
variable {M : Mx} {n : Nat} {F H : Hp} {σ : St} {D : Ends} {R' : It → Hp → Prop} {X : Cx}
end
end L3
namespace L2
open PySem PySem.Spec PyProof.Rows
end L2
namespace L3
open PySem L2 PySem.Spec PyProof.Rows
section
variable {M : Mx} {n : Nat} {F H : Hp} {σ : St} {D : Ends} {X : Cx} {b e : Expr} {fa fb : Fe} {x : Str} {p pos : Pos}
end
end L3
namespace L2
open PySem PySem.Spec PyProof.Rows
section
variable {prog : Program} {w : World} {A : Around} {E : Value → Shared → Prop} {s : Shared}
end
structure ZT (h : Heap) (n0 n : Nat) (ls : Nat → Nat) (is : Nat → Nat) (f0 : Value) (arr : List Value) : Prop where
 zp : h.get? (n0 + n + 2) = some { cls := .type "zip", dict := none, data := .fields #[f0, .bool false, .bool false, .ref (n0 + n), .ref (n0 + n + 1)], slots := #[] }
 ti : h.get? (n0 + n) = some { cls := .type "tuple", data := .seq (wI n0 n).toArray }
 to : h.get? (n0 + n + 1) = some { cls := .type "tuple", data := .seq arr.toArray }
 it : ∀ j, j < n → h.IsTupleIter (n0 + j) (ls j) (is j)
section
variable {prog : Program} {w : World} {A : Around} {E : Value → Shared → Prop} {s : Shared}
end
end L2
namespace L2
open PySem PySem.Spec PyProof.Rows
end L2
namespace L3
open PySem L2 PySem.Spec PyProof.Rows
section
variable {M : Mx} {n : Nat} {F H : Hp} {σ : St} {D : Ends} {R' : It → Hp → Prop} {X : Cx} {a b : Expr} {fa fb : Fe} {pos : Pos}
end
end L3
namespace L3
open PySem L2 PySem.Spec PyProof.Rows
mutual
noncomputable def nol : PyData → Bool
 | .tuple ds => vD ds
 | .list _ => false
 | .dict _ => false
 | .none => true
 | .bool _ => true
 | .int _ => true
 | .str _ => true
noncomputable def vD : List PyData → Bool
 | [] => true
 | d :: ds => nol d && vD ds
end
section
variable {K : PySem.W.Frag} {F H : Hp} {f : List Addr}
mutual
theorem sP (hl : ∀ b ∈ f, ∃ ws, F b = some (.lst ws)) {v : V} {d : PyData} : Rep K F v d → nol d = true → Rep K (vK F f) v d
 | .non, _ => .non
 | .bl b, _ => .bl b
 | .int i, _ => .int i
 | .str x, _ => .str x
 | .lst _ _, e => by rw [nol] at e; cases e
 | .dct _ _ _, e => by unfold dD at e; rw [nol] at e; cases e
 | .tup (a := a) h1 h2, e => by
  rw [nol] at e;refine .tup ?_ (lN hl h2 e);rw [ur fun m => by
   obtain ⟨ws, q⟩ := hl a m;rw [h1] at q;cases q]
  exact h1
theorem lN (hl : ∀ b ∈ f, ∃ ws, F b = some (.lst ws)) {vs : List V} {ds : List PyData} : RepAll K F vs ds → vD ds = true → RepAll K (vK F f) vs ds
 | .nil, _ => .nil
 | .cons h r, e => by
  rw [vD, Bool.and_eq_true] at e;exact .cons (sP hl h e.1) (lN hl r e.2)
end
end
section
variable {M : Mx} {n : Nat} {σ : L2.St} {H : Hp} {Q : VK}
end
section
variable {M : Mx} {X : Cx} {e : Expr} {fa fb : Fe}
end
end L3
namespace L2
open PySem PySem.Spec PyProof.Rows
section
variable {prog : Program} {w : World} {A : Around} {E : Value → Shared → Prop} {s : Shared}
end
section
variable {prog : Program} {w : World} {A : Around} {E : Value → Shared → Prop} {s : Shared}
end
end L2
namespace L2
open PySem PySem.Spec PyProof.Rows
section
variable {prog : Program} {w : World} {A : Around} {E : Value → Shared → Prop} {s : Shared}
end
structure LZ (X : Cx) (H0 H : Hp) (xs ys : List V) (Ts : List Addr) : Prop where
 up : aI H0 H
 new : ∀ c o, H c = some o → H0 c = some o ∨ c ∈ Ts
 free : ∀ T ∈ Ts, H0 T = none
 tup : ∀ (j : Nat) (T : Addr), Ts[j]? = some T → ∃ x y, xs[j]? = some x ∧ ys[j]? = some y ∧ H T = some (.tup [x, y])
end L2
namespace L2
open PySem PySem.Spec PyProof.Rows
theorem jy : ∀ Ts : List Addr, Vals (Ts.map V.ref) (Ts.map Value.ref)
 | [] => .nil
 | _ :: Ts => .cons rfl (jy Ts)
end L2
namespace L3
open PySem L2 PySem.Spec PyProof.Rows
section
variable {M : Mx} {X : Cx}
open Classical in
end
end L3
namespace L3
open PySem L2 PySem.Spec PyProof.Rows
noncomputable def CXE (P : Program) (w : World) : CXT := fun outer H s E e s' => ∃ (ea : Addr) (cls a0 : Value) (B : Heap) (H' : Hp),
 e = .ref ea ∧ s'.os = s.os ∧ AllBare s'.gens ∧ Un (frs outer) [] H H' s.heap s'.heap ∧ HOk P w H' s'.heap ∧ Heap.FlyingW B outer ea cls a0 s'.heap ∧
 (∀ b o, s'.heap.get? b = some o → b ∉ frs outer → (H' b ≠ none ∨ s.heap.get? b ≠ none) → B.get? b = some o) ∧ E cls none H'
theorem iT {env : PySem.Env} {L : Addr} {outer : List PySem.Env} (h : env.frame = some L) : frs (env :: outer) = L :: frs outer := by
 unfold frs;rw [List.filterMap_cons, h]
theorem lE {P : Program} {w : World} {H : Hp} {h : Heap} {a : Addr} {o : HO} (x : eZ P w H h a o) : ∃ u, h.get? a = some u := by
 cases o with
 | lst xs => obtain ⟨_, _, _, _, e⟩ := x; exact ⟨_, e⟩
 | tup xs => obtain ⟨_, _, _, _, e, _⟩ := x; exact ⟨_, e⟩
 | dK kvs => obtain ⟨_, _, _, _, o, _, _, e, _⟩ := x; exact ⟨_, e⟩
 | dT kvs => obtain ⟨_, _, _, _, o, _, _, e, _⟩ := x; exact ⟨_, e⟩
 | set S n => obtain ⟨o, _, _, _, e, _⟩ := x; exact ⟨_, e⟩
 | ins C dx fs => obtain ⟨_, _, _, e, _⟩ := x; exact ⟨_, e⟩
 | own y => exact x
 | xd fs => obtain ⟨_, ⟨_, _, _, e, _⟩, _⟩ := x; exact ⟨_, e⟩
 | rng lo hi => obtain ⟨_, _, _, e⟩ := x; exact ⟨_, e⟩
 | frz ob u => exact ⟨_, x.1⟩
 | tbl ps => exact ⟨_, (show h.get? a = some _ from x)⟩
 | met f y => exact ⟨_, (show h.get? a = some _ from x)⟩
 | ext φ => exact x.2.1
section
variable {X : Cx} {pins : List (Addr × Obj)} {σ : St} {H' : Hp} {s' : Shared} {B h'' : Heap}
theorem qD (J : Inv X pins σ H' s') (hst : X.stack = X.env :: X.outer) (hfr : X.env.frame = some X.env.locals) (hex : X.ex = []) (up : s'.heap.UpToSlots h'') (stay : B.StaysIn h'')
  (cov : ∀ b o, s'.heap.get? b = some o → b ∉ frs X.stack → (H' b ≠ none ∨ X.s₀.heap.get? b ≠ none) → B.get? b = some o) :
  Un (frs X.outer) [] X.H₀ H' X.s₀.heap h'' ∧ HOk X.prog X.w H' h'' ∧ ∀ b o, h''.get? b = some o → b ∉ frs X.outer → (H' b ≠ none ∨ X.s₀.heap.get? b ≠ none) → B.get? b = some o := by
 have nb : ∀ b o, X.s₀.heap.get? b = some o → b ≠ X.env.locals := fun b o q => Nat.ne_of_lt (Nat.lt_of_lt_of_le (Heap.lt_size q) J.ok.above)
 have ns : ∀ b, b ∉ frs X.outer → b ≠ X.env.locals → b ∉ frs X.stack := fun b h1 h2 => by
  rw [hst, iT hfr];exact fun m => (List.mem_cons.mp m).elim h2 h1
 have nx : ∀ b, b ∉ X.ex := fun b => by rw [hex]; simp
 have tr : ∀ b, H' b ≠ none → b ∉ frs X.stack := fun b n m => n (J.stkFree b m)
 have old : ∀ b o, X.s₀.heap.get? b = some o → b ∉ frs X.outer → ∀ o', s'.heap.get? b = some o' → h''.get? b = some o' := fun b o q n o' q' =>
  stay b o' (cov b o' q' (ns b n (nb b o q)) (.inr (by rw [q]; simp)))
 have fr : ∀ b o, b ∈ frs X.outer → s'.heap.get? b = some o → ∃ sl, h''.get? b = some { o with slots := sl } := fun b o m q => by
  have m' : b ∈ frs X.stack := by rw [hst, iT hfr]; exact List.mem_cons_of_mem _ m
  obtain ⟨_, o', q', nf⟩ := J.stack.mem m';rw [q] at q';cases q';exact up b o q nf
 refine ⟨⟨fun b o q n hb _ => ?_, fun b o q n hb _ => ?_, fun b o q n _ => J.base.free b o q n (nx b), fun b o q _ => ?_, J.base.tups, J.base.frzs, J.base.tbls⟩, fun b u e => ?_, fun b o q n hc => ?_⟩
 ·exact old b o q hb o (J.base.keep b o q n hb (nx b))
 ·obtain ⟨sl, e1⟩ := J.base.slot b o q n hb (nx b)
  obtain ⟨sl', e2⟩ := fr b _ hb e1;exact ⟨sl', e2⟩
 ·obtain ⟨o', e1⟩ := J.base.there b o q (nx b)
  by_cases hb : b ∈ frs X.outer
  ·obtain ⟨sl', e2⟩ := fr b _ hb e1
   exact ⟨_, e2⟩
  ·exact ⟨o', old b o q hb o' e1⟩
 ·refine (J.hok b u e).stay (fun c v hc q => stay c v (cov c v q (tr c ?_) (.inl ?_))) (fun _ q => q) fun _ _ q => q
  ·rcases hc with rfl | hc
   ·rw [e]; simp
   ·rw [hc]; simp
  ·rcases hc with rfl | hc
   ·rw [e]; simp
   ·rw [hc]; simp
 ·have ex : ∃ o', s'.heap.get? b = some o' := by
   rcases hc with hc | hc
   ·cases z : H' b with
    | none => exact absurd z hc
    | some u => exact lE (J.hok b u z)
   ·cases z : X.s₀.heap.get? b with
    | none => exact absurd z hc
    | some u => exact J.base.there b u z (nx b)
  obtain ⟨o', e1⟩ := ex;have nl : b ≠ X.env.locals := by
   rcases hc with hc | hc
   ·exact fun z => hc (z ▸ J.free)
   ·cases z : X.s₀.heap.get? b with
    | none => exact absurd z hc
    | some u => exact nb b u z
  have e2 := cov b o' e1 (ns b n nl) hc;have e3 := stay b o' e2;rw [q] at e3;cases e3;exact e2
end
noncomputable def Lv (X : Cx) (E : XK) : Prop := X.stack = X.env :: X.outer ∧ X.env.frame = some X.env.locals ∧ X.ex = [] ∧
 ∀ (e : Value) (s' : Shared), wpAny (model X.prog X.w) X.A (leaving X.env e) (fun _ s'' => CXE X.prog X.w X.outer X.H₀ X.s₀ E e s'') (fun e' s'' => CXE X.prog X.w X.outer X.H₀ X.s₀ E e' s'') s' → X.xe e s'
theorem Lv.of {P : Program} {w : World} {K : PySem.W.Frag} {mg : Str → Option Value} {base : Heap} {N : List Str} {qual : Str} {scope : Scope} {f : Addr} {cd : Value} {A : Around} {outer : List PySem.Env} {s : Shared} {H : Hp} {E : XK} :
  Lv (lC (CXE P w) P w K mg base N qual scope f cd A outer s H E) E := ⟨rfl, rfl, rfl, fun _ _ h => h⟩
section
variable {X : Cx} {E : XK} {pins : List (Addr × Obj)} {σ : St} {H : Hp} {s s' : Shared} {e : Value}
theorem Lv.pass (L : Lv X E) : Passes (CXE X.prog X.w) X E := fun pins σ H s e s' I x => by
 obtain ⟨hst, hfr, hex, hxe⟩ := L;obtain ⟨ea, cls, a0, B, H', rfl, os, bare, un, hok, fl, cov, hE⟩ := x;have J : Inv X pins σ H' s' := I.call' os un hok bare fun b z => absurd z (by simp)
 refine hxe _ _ ?_;rw [hst] at fl;refine wpAny_leaves_onW (by rw [← hst]; exact I.ok.frames) hfr fl fun h'' fl' up => ?_
 have cov' : ∀ b o, s'.heap.get? b = some o → b ∉ frs X.stack → (H' b ≠ none ∨ X.s₀.heap.get? b ≠ none) → B.get? b = some o := fun b o q n hc => cov b o q n <| hc.imp_right fun z => by
  cases y : X.s₀.heap.get? b with
  | none => exact absurd y z
  | some u =>
   obtain ⟨o', q'⟩ := I.base.there b u y (by rw [hex]; simp)
   rw [q'];simp
 obtain ⟨u1, u2, u3⟩ := qD J hst hfr hex up fl'.1 cov';exact ⟨ea, cls, a0, B, H', rfl, J.os, bare, u1, u2, fl', u3, hE⟩
theorem Lv.made (L : Lv X E) (I : Inv X pins σ H s) {h' : Heap} {e C : Addr} {args : List Value} (hx : Heap.MadeExcOf s.heap h' e (.ref C) args) (hE : E (.ref C) none H) : X.xe (.ref e) { s with heap := h' } := by
 obtain ⟨hst, hfr, hex, hxe⟩ := L;refine hxe _ _ ?_;have hin : ∀ env ∈ (X.env :: X.outer), ∀ b, env.frame = some b → b ∈ frs (X.env :: X.outer) := fun env he b hb => List.mem_filterMap.mpr ⟨env, he, hb⟩
 have fr := I.stack;rw [hst] at fr;refine wpAny_leaves_madeW (base := PySem.W.hideAll s.heap (frs (X.env :: X.outer))) (by rw [← hst]; exact I.ok.frames) hfr (fun b o q => PySem.W.of_hideAll _ q) (PySem.W.funFrames_hide fr hin) hx fun h'' t fl _ _ up => ?_
 have up' : s.heap.UpToSlots h'' := (Heap.UpToSlots.of_keeps hx.keeps).trans up;obtain ⟨u1, u2, u3⟩ := qD I hst hfr hex up' fl.1 fun b o q n _ => PySem.W.hideAll_get _ q (by rw [← hst]; exact n)
 exact ⟨e, _, _, _, H, rfl, I.os, I.bare, u1, u2, fl, u3, hE⟩
end
end L3
namespace L3
open PySem L2 PySem.Spec PyProof.Rows
noncomputable abbrev vE : List Value := [.type "ValueError", .type "Exception", .type "BaseException", .type "object"]
noncomputable abbrev vN : String := "ValueError.__new__"
theorem ja {K : PySem.W.Frag} {h : Heap} {C : Addr} (X : K.In h) (q : PySem.W.excIn K C vE vN = true) :
  ∃ mr N y1 y2 y3 y4 y5 y6 y7 y8 y9 z0 z1 z2 z3 z5 mN, h.get? C = some (excClassObj y1 y2 C N y3 mr y4 y5 y6 y7 y8 y9 z0 z1 z2 z3 z5 vN) ∧ h.Ns N mN ∧ mN "__init__" = none ∧ OwnTail h vE mr := by
 unfold PySem.W.excIn at q;split at q
 case h_2 => cases q
 case h_1 y9 cd sl hl =>
  split at q
  case h_2 => cases q
  case h_1 C1 mr z0 z1 z2 z3 z4 z5 e1 e2 =>
   simp only [Bool.and_eq_true, beq_iff_eq, Bool.not_eq_true'] at q;obtain ⟨⟨⟨⟨⟨c1, c2⟩, c3⟩, c4⟩, c5⟩, c6⟩ := q;cases c1;cases c2;cases cd with
   | mk y1 y3 m0 N y2 y4 y5 y6 y7 y8 dl =>
    dsimp only at e1 c3 c5 c6
    cases e1;cases c3;cases sl with
    | mk ls =>
     dsimp only at e2
     cases e2;exact ⟨mr, N, y1, y2, y3, y4, y5, y6, y7, y8, y9, z0, z1, z2, z3, z5, _, X _ _ hl, .of_isNs (PySem.W.isNs_of_in X c5), PySem.W.nsMap_none_of_in X c5 c6, PySem.W.tail_of_in X c4⟩
noncomputable def pJ (c : Str) : Fs := fun _ => .ex c
section
variable {M : Mx} {X : Cx} {x t : Str} {j : Nat} {np cpos pos p2 : Pos}
theorem uE {C : Addr} (L : Lv X M.E) (hc : X.calm = true) (hg : Gl X x) (hm : M.mg x = some (.ref C)) (hk : PySem.W.excIn M.K C vE vN = true) (hd : (x == ("__debug__" : Str)) = false := by decide)
  (hs : starEach [.Constant (.str t) j p2] X.env = (false, eval (.Constant (.str t) j p2) X.env) :: starEach [] X.env := by rfl) :
  DS M X (.Raise (some (.Call (.Name x np) [.Constant (.str t) j p2] [] cpos)) none pos) (pJ x) := fun hK hM pins s σ H D I q => by
 obtain ⟨F, ρ, fp, S, cv, e1, e2⟩ := q;rw [hm] at e1;cases e1;have hE := e2 none H fun _ _ z _ => z
 rw [← hK] at hk;obtain ⟨mr, N, y1, y2, y3, y4, y5, y6, y7, y8, y9, z0, z1, z2, z3, z5, mN, hC, hN, hni, T⟩ := ja I.mod.kin hk;refine wpAny_Raise_call_subU (C := C) (nm := y1) (q := y2) (N := N) (bs := y3) (bm := mr) (hdct := y4) (sn := y5) (sub := y6) (ab := y7) (col := y8) (dd := y9) (k0 := z0) (k1 := z1) (k2 := z2) (k3 := z3) (k5 := z5)
  PySem.F.excBase_ValueError (by decide) PySem.F.excBase_ValueError (mN := mN) (T.hasType PySem.F.excBase_ValueError.hasBase) (I.ok.hd hc) (by rw [hs]; rfl) hni (i8 I hg (by rw [hM]; exact hm) ⟨rfl, ?_⟩ hd)
 have ha : PA X [.Constant (.str t) j p2] _ := dM sN gO hs;have hw := ha cpos pins s σ H (fun vs H' => H' = H ∧ vs.length ≤ sizeLine) I ⟨rfl, show 1 ≤ sizeLine by decide⟩
 rw [hs] at hw ⊢;refine Calls.evalArgs_plain (wpAny_mono hw (fun us s2 hz => ?_) fun _ _ y => y)
 obtain ⟨vs, H2, I2, r2, rfl, hl⟩ := hz;exact ⟨rfl, by rw [← r2.length]; exact hl, I2.bk _ _ hC, hN.keeps I2.bk, T.keeps I2.bk, fun h' e hx => L.made I2 hx hE⟩
end
end L3
namespace L3
open PySem L2 PySem.Spec PyProof.Rows Builtin Builtin.ObjectAttr Builtin.Getset_descriptor
structure ExcK (K : PySem.W.Frag) (C : Addr) : Prop where
 ex : PySem.W.excIn K C vE vN = true
 ga : PySem.W.findIn K (.ref C) "__getattribute__" = some (some (.builtin "BaseException.__getattribute__"))
 ca : PySem.W.findIn K (.ref C) "__class__" = some (some (.builtin "object.__class__"))
 ng : PySem.W.findIn K (.ref C) "__getattr__" = some none
 mo : PySem.W.mroIn K C (.type "object") = some true
section
variable {prog : Program} {w : World} {A : Around} {E : Value → Shared → Prop} {h : Heap} {g : Array GenState} {d : Drawn} {t : Nat} {os : OsState} {a C : Addr} {o : Obj} {K : PySem.W.Frag}
theorem z9 {tp : Value} {R : Result → Shared → Prop} (Z : ExcK K C) (X : K.In h) (hx : h.get? a = some o) (hc : o.cls = .ref C) (hq : R (.ok (.ret (.ref C))) ⟨h, g, d, t, os⟩) :
  codeAny (model prog w) A (.call (.builtin "getset_descriptor.__get__") ⟨[.builtin "object.__class__", .ref a, tp], []⟩) R ⟨h, g, d, t, os⟩ := by
 have L0 : PySem.W.Looks (model prog w) h (typeOf (.ref a)) (.ref C) := hc ▸ (PySem.W.Looks.ld hx).andThen .now;have L1 := PySem.W.looks_mroIn (M := model prog w) X Z.mo;refine codeAny_call_builtin PySem.W.KF.slot_gs.plain PySem.W.KF.entry_gs (PySem.W.KF.slot_gs.check _ _ _ _ _ _ _ _ PySem.W.KF.type_class (PySem.W.KF.args_gs _ _ _) ?_);unfold Builtin.«getset_descriptor.__get__» descrGet; rw [PySem.W.dga_obj];refine wpAny_bind (wpAny_pure ?_); unfold descrGetter descrCheckInstance descrNameAndClass isInstance; simp only [PySem.W.KF.owner_class]
 repeat lk
 refine ⟨Code.quiet_builtin _ (by decide +kernel), codeAny_builtin PySem.W.KF.entry_class ?_⟩; unfold Builtin.«object.__class__» shownTypeOf
 repeat lk
 exact hq
theorem ud {tk : Tok} {Q : Fin → Shared → Prop} (Z : ExcK K C) (X : K.In h) (hx : h.get? a = some o) (hc : o.cls = .ref C) (hq : Q (.done (.ret (.ref C))) ⟨h, g, d, t, os⟩) :
  wpAny (model prog w) A (Builtin.«object.__getattribute__» ⟨[.ref a, .str "__class__" tk], []⟩) Q E ⟨h, g, d, t, os⟩ := by
 have hT : (⟨h, g, d, t, os⟩ : Shared).TypeIs (.builtin "object.__class__") "getset_descriptor" := PySem.F.typeOf_object_class;have f5 := PySem.F.typeOf_object_class;have f6 := PySem.F.slot_gs_get.lookup;have f7 := PySem.F.slot_gs_set.lookup;have L2 := PySem.W.looks_findIn (M := model prog w) X Z.ca
 repeat (any_goals (first | assumption | (with_reducible refine wpAny_loadPart_at hx ?_; rw [hc]) | with_reducible refine L2.at ?_ | wp_step))
 refine z9 Z X hx hc ?_
 repeat (any_goals (first | assumption | wp_step))
theorem tZ {M : Model} {nameV : Value} {Q : Unit → Shared → Prop} (Z : ExcK K C) (X : K.In h) (hx : h.get? a = some o) (hc : o.cls = .ref C) (hq : Q () ⟨h, g, d, t, os⟩) :
  wpAny M A (checkBuiltinCall "BaseException.__getattribute__" ⟨[.ref a, nameV], []⟩) Q E ⟨h, g, d, t, os⟩ := by
 obtain ⟨mr, N, y1, y2, y3, y4, y5, y6, y7, y8, y9, z0, z1, z2, z3, z5, mN, hC, hN, hni, T⟩ := ja X Z.ex;have k1 : builtinKind "BaseException.__getattribute__" = some .slot := by decide +kernel
 have k2 : splitId "BaseException.__getattribute__" = some ("BaseException", "__getattribute__") := by decide +kernel
 have k3 : (Value.ref C :: mr).contains (.type "BaseException") = true := by
  rw [List.contains_cons, T.hasType PySem.F.excBase_ValueError.hasBase];rfl
 have k4 := PySem.F.args_bexc_ga (.ref a) nameV;simp only [checkBuiltinCall, k1, k2];refine wpAny_bind ?_;unfold isInstance
 repeat (first | (with_reducible refine wpAny_loadPart_at hx ?_; rw [hc]) | (with_reducible refine wpAny_isSubtype_exc hC ?_; rw [k3]) | wp_step)
 exact hq
theorem Bk {tk : Tok} {fill expr : Bool} {Q : Value → Shared → Prop} (Z : ExcK K C) (X : K.In h) (hx : h.get? a = some o) (hc : o.cls = .ref C) (hq : Q (.ref C) ⟨h, g, d, t, os⟩) :
  wpAny (model prog w) A (getAttrBy (.ref a) (.str "__class__" tk) fill expr) Q E ⟨h, g, d, t, os⟩ := by
 have FB := PySem.F.attrBase_ValueError;have f3 := FB.ga.bind (.ref a);have n1 : (expr && onTheHeap (Value.builtin "BaseException.__getattribute__")) = false := by cases expr <;> rfl
 have n2 : (Value.builtin "BaseException.__getattribute__" == Value.builtin "object.__getattribute__") = false := by decide +kernel
 have n3 : (onTheHeap (Value.ref C) && Value.builtin "BaseException.__getattribute__" == Value.builtin "object.__getattribute__") = false := by rw [n2]; rfl
 have L1 := PySem.W.looks_findIn (M := model prog w) X Z.ga;have L3 := PySem.W.looks_findIn (M := model prog w) X Z.ng
 repeat (any_goals (first | assumption | (with_reducible refine wpAny_loadPart_at hx ?_; rw [hc]) | with_reducible refine L1.at ?_ | with_reducible refine L3.at ?_ | wp_step))
 refine codeAny_call_builtin FB.ga.plain PySem.F.entry_bexc_ga (tZ Z X hx hc (ud Z X hx hc ?_))
 repeat (any_goals (first | assumption | wp_step))
theorem uQ {Q : Option Value → Shared → Prop} (Z : ExcK K C) (X : K.In h) (hx : h.get? a = some o) (hc : o.cls = .ref C) (hq : Q (some (.ref C)) ⟨h, g, d, t + 1, os⟩) :
  wpAny (model prog w) A (getAttr? (.ref a) "__class__") Q E ⟨h, g, d, t, os⟩ := by
 unfold getAttr? getAttrBy?
 repeat (any_goals (first | assumption | with_reducible apply Bk Z X hx hc | wp_step))
end
end L3
namespace L3
open PySem L2 PySem.Spec PyProof.Rows
noncomputable def A3 (a C : Addr) (h : Heap) : Prop := ∃ o, h.get? a = some o ∧ o.cls = .ref C
theorem nF {K : PySem.W.Frag} {a C : Addr} (Z : ExcK K C) : PySem.W.KitX K (.ref a) (.ref C) (A3 a C) where
 ty := fun M h _ p => by
  obtain ⟨o, h1, h2⟩ := p;exact h2 ▸ (PySem.W.Looks.ld h1).andThen .now
 it := fun M h X _ => by
  obtain ⟨mr, N, y1, y2, y3, y4, y5, y6, y7, y8, y9, z0, z1, z2, z3, z5, mN, hC, _⟩ := ja X Z.ex;intro A Q E s k q;unfold isType loadHead;exact wpAny_bind (wpAny_loadPart (k _ _ hC) (wpAny_pure q))
 ne := fun h tp dd its n sl X htp => by
  obtain ⟨mr, N, y1, y2, y3, y4, y5, y6, y7, y8, y9, z0, z1, z2, z3, z5, mN, hC, _⟩ := ja X Z.ex;refine Bool.eq_false_iff.mpr fun q => ?_
  have e : C = tp := Value.ref.inj (beq_iff_eq.mp q);rw [← e, hC] at htp;have y := congrArg Obj.data (Option.some.inj htp);cases y
 ca := fun {prog w A E Q s} X p k => by
  obtain ⟨o, h1, h2⟩ := p;obtain ⟨h, g, d, t, os⟩ := s;exact uQ Z X h1 h2 k
section
variable {M : Model} {A : Around} {E : Value → Shared → Prop} {h : Heap} {g : Array GenState} {d : Drawn} {t : Nat} {os : OsState} {e C D : Addr} {o : Obj} {K : PySem.W.Frag}
theorem yW {b : Bool} {Q : Bool → Shared → Prop} (X : K.In h) (hD : PySem.W.excIn K D vE vN = true) (hs : PySem.W.subIn K (.ref C) (.ref D) = some b) (he : h.get? e = some o) (hc : o.cls = .ref C) (hq : Q b ⟨h, g, d, t, os⟩) :
  wpAny M A (excMatches (.ref e) (.ref D)) Q E ⟨h, g, d, t, os⟩ := by
 obtain ⟨mr, N, y1, y2, y3, y4, y5, y6, y7, y8, y9, z0, z1, z2, z3, z5, mN, hd, hN, hni, T⟩ := ja X hD;have hB : (Value.ref D :: mr).contains (.type "BaseException") = true := by
  rw [List.contains_cons, T.hasType PySem.F.excBase_ValueError.hasBase, Bool.or_true]
 have f := tc_notTuple;have LS := PySem.W.looks_subIn (M := M) X hs;unfold excMatches
 repeat (first | (with_reducible refine wpAny_loadPart_at he ?_; rw [hc]) | with_reducible refine LS.at ?_ | with_reducible refine wpAny_loadPart_at hd ?_ | (with_reducible refine wpAny_isSubtype_exc hd ?_; rw [hB]) | wp_step)
 cases b <;> (wp_walk; exact hq)
end
noncomputable def cxM (X : Cx) (ea : Addr) (oe : Obj) : Cx := { X with A := X.A.mark (some (.ref ea)), calm := false, xe := fun _ _ => False, pn := (ea, oe) :: X.pn }
section
variable {X : Cx} {ea : Addr} {oe : Obj} {pins : List (Addr × Obj)} {σ : St} {H : Hp} {s : Shared}
theorem vh (I : Inv X pins σ H s) (hp : s.heap.get? ea = some oe ∧ H ea = none ∧ ea ≠ X.env.locals ∧ ea ∉ X.fs ∧ ∀ v, oe.data ≠ .cell v) : Inv (cxM X ea oe) pins σ H s :=
  ⟨⟨I.ok.mod, I.ok.kind, I.ok.glob, I.ok.blt, I.ok.above, I.ok.inj, I.ok.has, I.ok.cab, fun z => (by cases z), I.ok.frames, I.ok.stk, I.ok.exf, I.ok.bs, I.ok.bsz, I.ok.noex, I.ok.exfs, I.ok.funs, I.ok.frf⟩,
    I.os, I.bare, I.base, I.loc, I.cell, I.free, I.freeC, fun p m => by
      rcases List.mem_cons.mp (show p ∈ (ea, oe) :: (X.pn ++ pins) from m) with rfl | m
      · exact hp
      · exact I.pin p m, I.hok, I.len⟩
theorem sF (hc : X.calm = true → X.A.handled = none) (hf : X.A.frames = some X.stack) (I : Inv (cxM X ea oe) pins σ H s) : Inv X pins σ H s :=
  ⟨⟨I.ok.mod, I.ok.kind, I.ok.glob, I.ok.blt, I.ok.above, I.ok.inj, I.ok.has, I.ok.cab, hc, hf, I.ok.stk, I.ok.exf, I.ok.bs, I.ok.bsz, I.ok.noex, I.ok.exfs, I.ok.funs, I.ok.frf⟩,
    I.os, I.bare, I.base, I.loc, I.cell, I.free, I.freeC, fun p m => I.pin p (List.mem_cons_of_mem _ m), I.hok, I.len⟩
end
noncomputable def tB (P : St → Prop) (b : Bool) : TE := fun σ H Q => P σ ∧ ∀ H', aI H H' → Q (.bl b) H'
noncomputable def tBs (P : St → Prop) (j : Nat) (b : Bool) : TS := fun D σ H => P σ ∧ ∀ H', aI H H' → D.nx (σ.set j (some (.bl b))) H'
section
variable {X : Cx} {P : St → Prop} {a b e : Expr} {c d : Bool} {pos p p2 p3 : Pos} {i j : Nat} {x y : Str}
theorem zy {v : Bool} (ha : PE X a (tB P c)) (hb : PE X b (tB P d)) (hv : (c && d) = v := by rfl) : PE X (.BoolOp .And [a, b] pos) (tB P v) := hv ▸ peI (tN ha (sf hb)) fun σ H Q q => by
 refine ⟨q.1, fun H1 s1 => ⟨c, rfl, ?_⟩⟩
 cases c with
 | true => exact ⟨q.1, fun H2 s2 => q.2 H2 (s1.trans s2)⟩
 | false => exact q.2 H1 s1
theorem zd {v : Bool} (ha : PE X a (tB P c)) (hv : (!c) = v := by rfl) : PE X (.UnaryOp .Not a pos) (tB P v) := hv ▸ peI (uc ha) fun σ H Q q => ⟨q.1, fun H1 s1 => ⟨c, rfl, q.2 H1 s1⟩⟩
theorem yz (hN : X.N.Nodup) (hj : X.N[j]? = some x) (hx : Loc X.env.scope x) (he : PE X e (tB P c)) (hs : swapsWith e (some (.Name x p)) pos.line X.env = pure false := by rfl)
  (hf : X.fn x = true ∨ X.env.scope.names.lookup x = some .local := by first | exact .inl rfl | exact .inr rfl | assumption) : PS X (.Assign [.Name x p] e pos) (tBs P j c) :=
 psI (ua hN hj hx he hs hf) fun D σ H q => ⟨q.1, fun H1 s1 => q.2 H1 s1⟩
theorem z7 {st : Stmt} (h : PS X st (tBs P j c)) : PSs X [st] (tBs P j c) := qq h
noncomputable def Pe (i : Nat) (ea : Addr) (j : Nat) (σ : St) : Prop := σ[i]? = some (some (.ref ea)) ∧ j < σ.length ∧ i ≠ j
theorem qk {ea C : Addr} {oe : Obj} (Z : ExcK X.K C) (hp : (ea, oe) ∈ X.pn) (ho : oe.cls = .ref C) :
  dZ X (.builtin "isinstance") (fun xs H Q => ∃ v b, xs = [.ref ea, v] ∧ ((∃ u, RelV v u ∧ (∀ u', RelV v u' → u' = u) ∧ PySem.W.kitOne X.K (.ref C) u = some b) ∨
   ∃ p vs us, v = .ref p ∧ H p = some (.tup vs) ∧ (∀ us', Vals vs us' → us' = us) ∧ PySem.W.kitAny X.K (.ref C) us = some b) ∧ Q (.bl b) H) := by
 intro pins s σ H xs us Q I r h;obtain ⟨v, b, rfl, h1, q⟩ := h;obtain ⟨u1, u2, rfl, ru, rv⟩ := Vals.two r;cases (show u1 = Value.ref ea from ru)
 have fin : ∀ tk, EP X pins σ Q (.bool b) { s with toks := tk } := fun tk => ⟨.bl b, H, I.tok tk, rfl, q⟩
 have hx : A3 ea C s.heap := ⟨oe, (I.pin _ (List.mem_append_left _ hp)).1, ho⟩;rcases h1 with ⟨u, r1, r2, e⟩ | ⟨p, vs, ws, rfl, hv, r2, e⟩
 ·cases r2 _ rv
  exact PySem.W.kia_one (nF Z) I.kIn hx e (fun z => nomatch z) fin
 ·cases (show u2 = Value.ref p from rv)
  obtain ⟨_, its, k1, o, k2, k3, n, k4⟩ := (show eZ X.prog X.w H s.heap p (.tup vs) from I.hok p _ hv)
  cases r2 _ k1;obtain ⟨oc, od, odt, osl⟩ := o;cases k3;cases k4;exact PySem.W.kia_tup (nF Z) I.kIn hx k2 e (fun z => nomatch z) fin
end
end L3
namespace L3
open PySem L2 PySem.Spec PyProof.Rows
noncomputable def tCs (Ds : List Addr) : TA := fun _ H Q => Q (Ds.map V.ref) H
theorem jy : ∀ (Ds : List Addr) (us : List Value), Vals (Ds.map V.ref) us → us = Ds.map Value.ref := by
 intro Ds
 induction Ds with
 | nil => exact fun us h => Vals.zero h
 | cons D r ih =>
  intro us h;cases h with
  | cons q t =>
   rw [List.map_cons, ih _ t];exact congrArg (· :: _) (show _ = Value.ref D from q)
structure Xs (X : Cx) (C ea : Addr) (oe : Obj) : Prop where
 k : ExcK X.K C
 pin : (ea, oe) ∈ X.pn
 ob : oe.cls = .ref C
section
variable {X : Cx} {P : St → Prop} {es : List Expr} {c : Bool} {pos p p2 p3 : Pos} {i j x1 : Nat} {x y : Str} {C ea D : Addr} {oe : Obj} {Ds : List Addr}
theorem Bm : PA X [] (tCs []) := gO
theorem wK (hg : Gl X x) (hm : X.mg x = some (.ref D)) (h : PA X es (tCs Ds)) (hd : (x == ("__debug__" : Str)) = false := by decide) (hs : starEach (.Name x p :: es) X.env = (false, eval (.Name x p) X.env) :: starEach es X.env := by rfl) :
  PA X (.Name x p :: es) (tCs (D :: Ds)) := fun ps pins s σ H Q I q => dM (mZ (v := .ref D) hg hm rfl hd) h hs ps pins s σ H Q I q
theorem vO (Z : Xs X C ea oe) (hP : ∀ σ, P σ → σ[i]? = some (some (.ref ea))) (hN : X.N[i]? = some y) (hv : Vis X.env.scope y) (hgi : Gl X "isinstance") (hmi : X.mg "isinstance" = none) (hg : Gl X x) (hm : X.mg x = some (.ref D))
  (e : PySem.W.kitOne X.K (.ref C) (.ref D) = some c) (hd : (x == ("__debug__" : Str)) = false := by decide) (hdy : (y == ("__debug__" : Str)) = false := by decide) (hcd : (y == ("__classdict__" : Str)) = false := by decide)
  (hs1 : starEach [.Name y p2, .Name x p3] X.env = (false, eval (.Name y p2) X.env) :: starEach [.Name x p3] X.env := by rfl) (hs2 : starEach [.Name x p3] X.env = (false, eval (.Name x p3) X.env) :: starEach [] X.env := by rfl)
  (hpl : (backTo pos (starEach [.Name x p3] X.env)).any (·.1) = false := by rfl) :
  PE X (.Call (.Name "isinstance" p) [.Name y p2, .Name x p3] [] pos) (tB P c) :=
 peI (jf (qk Z.k Z.pin Z.ob) hgi hmi eO (dM (d_ hN hv hdy hcd) (dM (mZ (v := .ref D) hg hm rfl hd) gO hs2) hs1) (by decide) (by decide) hs1 hpl) fun σ H Q q =>
  ⟨_, hP σ q.1, _, c, rfl, .inl ⟨.ref D, rfl, fun _ h => h, e⟩, q.2 H (aI.refl _)⟩
theorem vk (Z : Xs X C ea oe) (hP : ∀ σ, P σ → σ[i]? = some (some (.ref ea))) (hN : X.N[i]? = some y) (hv : Vis X.env.scope y) (hgi : Gl X "isinstance") (hmi : X.mg "isinstance" = none) (ht : PA X es (tCs Ds)) (hl : Ds.length ≤ 9)
  (e : PySem.W.kitAny X.K (.ref C) (Ds.map Value.ref) = some c) (hdy : (y == ("__debug__" : Str)) = false := by decide) (hcd : (y == ("__classdict__" : Str)) = false := by decide)
  (hs1 : starEach [.Name y p2, .Tuple es x1 p3] X.env = (false, eval (.Name y p2) X.env) :: starEach [.Tuple es x1 p3] X.env := by rfl) (hs2 : starEach [.Tuple es x1 p3] X.env = (false, eval (.Tuple es x1 p3) X.env) :: starEach [] X.env := by rfl)
  (hpl : (backTo pos (starEach [.Tuple es x1 p3] X.env)).any (·.1) = false := by rfl) :
  PE X (.Call (.Name "isinstance" p) [.Name y p2, .Tuple es x1 p3] [] pos) (tB P c) :=
 peI (jf (qk Z.k Z.pin Z.ob) hgi hmi eO (dM (d_ hN hv hdy hcd) (dM (pO ht) gO hs2) hs1) (by decide) (by decide) hs1 hpl) fun σ H Q q =>
  ⟨_, hP σ q.1, by rw [List.length_map]; exact Nat.le_trans hl (by decide), fun p hp => ⟨_, c, rfl, .inr ⟨p, _, _, rfl, bL, jy Ds, e⟩, q.2 _ fun a o z => by rw [aM (aP z hp)]; exact z⟩⟩
end
section
variable {P : Program} {w : World} {fs : List Addr} {H1 H' : Hp} {h1 hs h5 B : Heap}
theorem xC (un : Un fs [] H1 H' h1 hs) (hok : HOk P w H' hs) (stay : B.StaysIn h5) (up : hs.UpToSlots h5) (cov : ∀ b o, hs.get? b = some o → b ∉ fs → (H' b ≠ none ∨ h1.get? b ≠ none) → B.get? b = some o)
  (hf : ∀ b ∈ fs, ∀ o, hs.get? b = some o → ∀ vs, o.data ≠ .fields vs) (hn : ∀ b ∈ fs, H' b = none) : Un fs [] H1 H' h1 h5 ∧ HOk P w H' h5 := by
 refine ⟨⟨fun b o q n hb hx => ?_, fun b o q n hb hx => ?_, un.free, fun b o q hx => ?_, un.tups, un.frzs, un.tbls⟩, fun b u e => ?_⟩
 ·exact stay b o (cov b o (un.keep b o q n hb hx) hb (.inr (by rw [q]; simp)))
 ·obtain ⟨sl, e1⟩ := un.slot b o q n hb hx
  obtain ⟨sl', e2⟩ := up b _ e1 (hf b hb _ e1);exact ⟨sl', e2⟩
 ·obtain ⟨o', e1⟩ := un.there b o q hx
  by_cases hb : b ∈ fs
  ·obtain ⟨sl', e2⟩ := up b _ e1 (hf b hb _ e1)
   exact ⟨_, e2⟩
  ·exact ⟨o', stay b o' (cov b o' e1 hb (.inr (by rw [q]; simp)))⟩
 ·have tr : ∀ c, H' c ≠ none → ∀ v, hs.get? c = some v → h5.get? c = some v := fun c hc v q => stay c v (cov c v q (fun m => hc (hn c m)) (.inl hc))
  refine (hok b u e).stay (fun c v hc q => tr c ?_ v q) (fun _ q => q) fun _ _ q => q
  rcases hc with rfl | hc
  ·rw [e]; simp
  ·rw [hc]; simp
end
end L3
namespace L3
open PySem L2 PySem.Spec PyProof.Rows
section
variable {X : Cx} {pins : List (Addr × Obj)} {σ : St} {H : Hp} {s : Shared} {i : Nat} {n : Str}
theorem qP {M : Model} {A : Around} {E : Value → Shared → Prop} {v : V} {Q : Unit → Shared → Prop} (I : Inv X pins σ H s) (hN : X.N.Nodup) (hi : X.N[i]? = some n) (hl : X.env.scope.names.lookup n = some .local) (hv : σ[i]? = some (some v))
  (h : ∀ s', Inv X pins (σ.set i none) H s' → Q () s') : wpAny M A (unbindName X.env n) Q E s := by
 obtain ⟨m, hn, hm⟩ := id I.loc;have cne := I.cne;have hp : (X.env.scope.kind == .class || (X.env.scope.kind == .module && X.env.locals != X.env.globals)) = false := by rw [I.ok.kind]; rfl
 obtain ⟨u, _, lk⟩ := hm i n v hi hv (.inl hl);have hu : m n = some u := by
  rcases lk with ⟨_, e⟩ | ⟨e, _⟩
  ·exact e
  ·rcases e with e | e
   ·rw [show X.env.kindOf n = some .local from hl] at e; cases e
   ·rw [show X.env.kindOf n = some .local from hl] at e; cases e
 obtain ⟨oL, _, _, hoL, _⟩ := id hn;refine wpAny_unbindName_local hl hn hu hp fun h' u' hn' hs => h _ ?_
 have old : ∀ b o, X.s₀.heap.get? b = some o → b ≠ X.env.locals := fun b o e => Nat.ne_of_lt (Nat.lt_of_lt_of_le (Heap.lt_size e) I.ok.above)
 refine ⟨I.ok, I.os, I.bare, ⟨?_, ?_, I.base.free, ?_, I.base.tups, I.base.frzs, I.base.tbls⟩, ⟨_, hn', ?_⟩, ?_, I.free, I.freeC, ?_, ?_, ?_⟩
 ·exact fun b o e n1 n2 n3 => (hs.2 b (old b o e)).trans (I.base.keep b o e n1 n2 n3)
 ·exact fun b o e n1 n2 n3 => (I.base.slot b o e n1 n2 n3).imp fun sl q => (hs.2 b (old b o e)).trans q
 ·exact fun b o e n1 => (I.base.there b o e n1).imp fun o' q => (hs.2 b (old b o e)).trans q
 ·intro j y v' e1 e2 e3
  by_cases hj : j = i
  ·subst hj
   rw [List.getElem?_set] at e2;split at e2
   ·split at e2 <;> cases e2
   ·rename_i z
    exact absurd rfl z
  ·rw [List.getElem?_set_ne (Ne.symm hj)] at e2
   obtain ⟨w', r', q⟩ := hm j y v' e1 e2 e3;refine ⟨w', r', q.imp (fun z => ⟨z.1, ?_⟩) fun z => ⟨z.1, ?_⟩⟩
   ·have ny : y ≠ n := fun e => hj (kL hN e1 (e ▸ hi))
    show (if y = n then u' else m y) = some w'
    rw [if_neg ny];exact z.2
   ·obtain ⟨_, c, e, z'⟩ := z
    exact ⟨c, e, z'.sameBut hs (cne y c e)⟩
 ·exact fun y c e => (I.cell y c e).imp fun w' z => z.sameBut hs (cne y c e)
 ·exact fun p m => let ⟨q1, q2, q3, q4, q5⟩ := I.pin p m; ⟨(hs.2 p.1 q3).trans q1, q2, q3, q4, q5⟩
 ·intro b ob e
  refine (I.hok b ob e).stay (fun c w' hc q => (hs.2 c ?_).trans q) (fun _ q => q) fun _ _ q => q
  intro z;subst z;rcases hc with z | hc
  ·rw [← z, I.free] at e; cases e
  ·rw [I.free] at hc; cases hc
 ·rw [List.length_set]
  exact I.len
end
section
variable {X : Cx} {pins : List (Addr × Obj)} {σ : St} {H1 : Hp} {s1 s' : Shared} {E' : XK} {ev : Value} {D : Addr} {dx n : Str} {b0 : Stmt} {suite : List Stmt} {hpos np : Pos} {Q : Flow → Shared → Prop} {E : Value → Shared → Prop} {i j : Nat}
theorem vm (I : Inv X pins σ H1 s1) (x : CXE X.prog X.w X.stack H1 s1 E' ev s') (hst : X.stack = X.env :: X.outer) (hfr : X.env.frame = some X.env.locals) {nm : Option Str}
  (hD : PySem.W.excIn X.K D vE vN = true) (hgD : Gl X dx) (hmD : X.mg dx = some (.ref D)) (hd : (dx == ("__debug__" : Str)) = false)
  (h : ∀ ea cls H' , ev = .ref ea → E' cls none H' → ∃ C, cls = .ref C ∧ PySem.W.subIn X.K (.ref C) (.ref D) = some true ∧
   ∀ s5, (∀ (Q' : Unit → Shared → Prop) (E'' : Value → Shared → Prop), (∀ oe s6, oe.cls = .ref C → Inv (cxM X ea oe) pins σ H' s6 → Q' () s6) → wpAny (model X.prog X.w) (X.A.mark (some (.ref ea))) (setFlight (.ref ea) none) Q' E'' s5) →
    codeAny (model X.prog X.w) (X.A.mark (some (.ref ea))) (.handlers (.ref ea) [.ExceptHandler none nm (b0 :: suite) hpos] X.env) (fun r s₂ => match r with
     | .ok f => (match nm with
      | none => Q f s₂
      | some n => wpAny (model X.prog X.w) X.A (do bindName X.env n .none; unbindBehindTheSuite X.env n hpos) (fun _ s₃ => Q f s₃) E s₂)
     | .error x => cameBackBy (model X.prog X.w) X.A X.env E x s₂) s5) :
  wpAny (model X.prog X.w) X.A (noteFrame ev X.env) (fun _ s₂ => wpAny (model X.prog X.w) X.A (setFlight ev none) (fun _ s₃ =>
   wpAny (model X.prog X.w) X.A (handleBy ev X.env [.ExceptHandler (some (.Name dx np)) nm (b0 :: suite) hpos]) Q E s₃) E s₂) E s' := by
 obtain ⟨ea, cls, a0, B, H', rfl, os, bare, un, hok, fl, cov, hE'⟩ := x;obtain ⟨C, rfl, hsub, hh⟩ := h ea cls H' rfl hE';have J : Inv X pins σ H' s' := I.call' os un hok bare fun b z => absurd z (by simp)
 have nf : ∀ b ∈ frs X.stack, ∀ o, s'.heap.get? b = some o → ∀ vs, o.data ≠ .fields vs := fun b m o q vs => by
  obtain ⟨_, o', q', k⟩ := J.stack.mem m;rw [q] at q';cases q';exact k vs
 have later : ∀ h5, B.StaysIn h5 → s'.heap.UpToSlots h5 → Inv X pins σ H' { s' with heap := h5 } := fun h5 st up => by
  obtain ⟨u5, k5⟩ := xC un hok st up cov nf J.stkFree;exact I.call' (s' := { s' with heap := h5 }) os u5 k5 bare fun b z => absurd z (by simp)
 obtain ⟨oe, vs, hoe, hoc, hod, _⟩ := fl.first
 have eaF : ea ∉ frs X.stack := fun m => nf ea m oe hoe vs hod
 have eaN : H' ea = none := by
  cases z : H' ea with
  | none => rfl
  | some u =>
   have q := cov ea oe hoe eaF (.inl (by rw [z]; simp))
   rw [fl.2.1] at q;cases q
 have eaL : ea ≠ X.env.locals := fun z => eaF (by rw [hst, iT hfr, z]; exact List.mem_cons_self)
 have eaO : ea ∉ X.fs := fun m => eaF (by rw [hst, iT hfr]; exact List.mem_cons_of_mem _ m)
 have mk : ∀ h5 o v, h5.get? ea = some o → o.data = .fields v → Inv X pins σ H' { s' with heap := h5 } → Inv (cxM X ea o) pins σ H' { s' with heap := h5 } := fun h5 o v q1 q2 I5 =>
  vh I5 ⟨q1, eaN, eaL, eaO, fun z => by rw [q2]; intro y; cases y⟩
 rw [hst] at fl;refine wpAny_looks_onW (by rw [← hst]; exact I.ok.frames) hfr fl fun h4 fl4 up4 => ?_
 refine wpAny_landsW fl4 fun h5 fl5 up5 => ?_
 have I5 := later h5 fl5.1 (up4.trans up5);obtain ⟨oe5, vs5, hoe5, hoc5, hod5, _⟩ := fl5.first
 have M5 := mk h5 oe5 vs5 hoe5 hod5 I5;refine wpAny_handleBy_cons (codeAny_handlers_test ?_) (by intro q; cases q)
 refine i8 (X := cxM X ea oe5) M5 hgD hmD ?_ hd;refine yW (h := h5) (K := X.K) I5.kIn hD hsub hoe5 hoc5 ?_;refine hh _ fun Q' E'' hq => ?_
 refine lands_againW fl5 fun h6 fl6 up6 => ?_
 obtain ⟨oe6, vs6, hoe6, hoc6, hod6, _⟩ := fl6.first
 exact hq oe6 _ hoc6 (mk h6 oe6 vs6 hoe6 hod6 (later h6 fl6.1 ((up4.trans up5).trans up6)))
end
end L3
namespace L3
open PySem L2 PySem.Spec PyProof.Rows
section
variable {X : Cx} {pins : List (Addr × Obj)} {σ : St} {H' : Hp} {C ea : Addr} {n : Str} {b0 : Stmt} {suite : List Stmt} {hpos : Pos} {Q : Flow → Shared → Prop} {E : Value → Shared → Prop} {i j : Nat} {b : Bool}
theorem ve (hca : X.calm = true → X.A.handled = none) (hfr : X.A.frames = some X.stack) (hN : X.N.Nodup) (hi : X.N[i]? = some n) (hl : X.env.scope.names.lookup n = some .local) (hij : i ≠ j) (hj : j < X.N.length) (hlen : σ.length = X.N.length)
  (hs : ∀ oe, oe.cls = .ref C → PSs (cxM X ea oe) (b0 :: suite) (tBs (Pe i ea j) j b)) (hq : ∀ H'' s'', aI H' H'' → Inv X pins ((σ.set j (some (.bl b))).set i none) H'' s'' → Q .next s'') :
  ∀ s5, (∀ (Q' : Unit → Shared → Prop) (E'' : Value → Shared → Prop), (∀ oe s6, oe.cls = .ref C → Inv (cxM X ea oe) pins σ H' s6 → Q' () s6) → wpAny (model X.prog X.w) (X.A.mark (some (.ref ea))) (setFlight (.ref ea) none) Q' E'' s5) →
    codeAny (model X.prog X.w) (X.A.mark (some (.ref ea))) (.handlers (.ref ea) [.ExceptHandler none (some n) (b0 :: suite) hpos] X.env) (fun r s₂ => match r with
     | .ok f => wpAny (model X.prog X.w) X.A (do bindName X.env n .none; unbindBehindTheSuite X.env n hpos) (fun _ s₃ => Q f s₃) E s₂
     | .error x => cameBackBy (model X.prog X.w) X.A X.env E x s₂) s5 := by
 intro s5 hset;have iL : i < σ.length := by rw [hlen]; exact jJ hi
 refine codeAny_handlers_suite_as (hset _ _ fun oe s6 hoc I6 => ?_)
 refine gx (X := cxM X ea oe) I6 hN hi (.inl hl) (v := .ref ea) (u := .ref ea) rfl (fun s7 I7 => ?_) (.inr hl)
 refine wpAny_mono (hs oe hoc pins s7 (σ.set i (some (.ref ea))) H' ⟨fun σ' H'' => aI H' H'' ∧ σ' = (σ.set i (some (.ref ea))).set j (some (.bl b)), fun _ _ => False, fun _ _ => False, fun _ _ => False⟩ I7
  ⟨⟨List.getElem?_set_self iL, by rw [List.length_set, hlen]; exact hj, hij⟩, fun H'' sm => ⟨sm, rfl⟩⟩) (fun fl s8 q => ?_) fun _ _ z => z.elim
 cases fl with
 | next =>
  obtain ⟨σ', H'', I8, sm, rfl⟩ := q;have I9 := sF hca hfr I8;show wpAny _ _ _ _ _ _
  refine wpAny_bind (wpAny_bindName (gx I9 hN hi (.inl hl) (v := .non) (u := .none) rfl (fun s10 I10 => ?_) (.inr hl)))
  unfold unbindBehindTheSuite;refine wpAny_onRaise (qP (v := .non) I10 hN hi hl (List.getElem?_set_self (by rw [List.length_set, List.length_set]; exact iL)) fun s11 I11 => hq H'' s11 sm ?_)
  rw [List.set_set, List.set_comm _ _ hij, List.set_set] at I11;exact I11
 | ret u =>
  obtain ⟨_, _, _, _, _, z⟩ := q;exact z.elim
 | brk =>
  obtain ⟨_, _, _, z⟩ := q;exact z.elim
 | cont =>
  obtain ⟨_, _, _, z⟩ := q;exact z.elim
end
theorem Br {X : Cx} {xe : Value → Shared → Prop} {pins : List (Addr × Obj)} {σ : St} {H : Hp} {s : Shared} (I : Inv X pins σ H s) : Inv { X with xe := xe } pins σ H s :=
  ⟨⟨I.ok.mod, I.ok.kind, I.ok.glob, I.ok.blt, I.ok.above, I.ok.inj, I.ok.has, I.ok.cab, I.ok.hd, I.ok.frames, I.ok.stk, I.ok.exf, I.ok.bs, I.ok.bsz, I.ok.noex, I.ok.exfs, I.ok.funs, I.ok.frf⟩,
    I.os, I.bare, I.base, I.loc, I.cell, I.free, I.freeC, I.pin, I.hok, I.len⟩
theorem yj {X : Cx} {xe : Value → Shared → Prop} {pins : List (Addr × Obj)} {σ : St} {H : Hp} {s : Shared} (I : Inv { X with xe := xe } pins σ H s) : Inv X pins σ H s :=
  ⟨⟨I.ok.mod, I.ok.kind, I.ok.glob, I.ok.blt, I.ok.above, I.ok.inj, I.ok.has, I.ok.cab, I.ok.hd, I.ok.frames, I.ok.stk, I.ok.exf, I.ok.bs, I.ok.bsz, I.ok.noex, I.ok.exfs, I.ok.funs, I.ok.frf⟩,
    I.os, I.bare, I.base, I.loc, I.cell, I.free, I.freeC, I.pin, I.hok, I.len⟩
noncomputable def lA (ρ : L3.Env) (i : Nat) : Bool := match ρ[i]? with
 | some none => true
 | _ => false
noncomputable def sL (fn : Fn) (al : Fa) (ok : L3.Env → Bool) (j : Nat) (tbl : List (Str × Bool)) : Fs := fun ρ => (al ρ).bind fun xs => match fn (xs.map OD.er) with
 | .ok _ => .ok (.nx ρ)
 | .ex c => (match tbl.lookup c with
  | some b => if ok ρ = true then .ok (.nx (ρ.set j (some (.sh (.bool b))))) else .bad
  | none => .bad)
 | .bad => .bad
theorem vR {K : PySem.W.Frag} {F H : Hp} {v : Option V} {σ : St} {ρ : L3.Env} {g : List Addr} (S : OwnS K F H σ ρ g) : ∀ {i : Nat}, lA ρ i = true → OwnS K F H (σ.set i v) ρ g := by
 induction S with
 | nil => exact fun {i} _ => .nil
 | no r ih =>
  intro i h;cases i with
  | zero => exact .no r
  | succ i => exact .no (ih (i := i) (by simpa [lA] using h))
 | yes o r ih =>
  intro i h;cases i with
  | zero => simp [lA] at h
  | succ i => exact .yes o (ih (i := i) (by simpa [lA] using h))
end L3
namespace L3
open PySem L2 PySem.Spec PyProof.Rows
section
variable {M : Mx} {X : Cx} {k : Nat} {f : Addr} {fd : FuncData} {ps : List Str} {x dx : Str} {p pos cpos epos hpos np : Pos} {fn : Fn} {al : Fa} {e : Expr} {es : List Expr} {D : Addr} {nm : Option Str} {b0 : Stmt} {suite : List Stmt} {ok : L3.Env → Bool} {j : Nat} {tbl : List (Str × Bool)}
theorem xt (F : FnOk X.prog X.w M.K M.mg X.base (CXE X.prog X.w) k f fd ps (sp3 M.K M.mg fn)) (hr : Room k X.A) (hg : Gl X x) (hm : M.mg x = some (.ref f)) (hk : PySem.W.keepIn M.K (.ref f) = true) (hb : Binds M.K fd ps [])
  (ha : ∀ xe, DA M { X with xe := xe } (e :: es) al) (hst : X.stack = X.env :: X.outer) (hfr : X.env.frame = some X.env.locals)
  (hD : PySem.W.excIn M.K D vE vN = true) (hgD : Gl X dx) (hmD : M.mg dx = some (.ref D)) (hj : j < X.N.length)
  (hT : ∀ c b, tbl.lookup c = some b → ∃ C, M.mg c = some (.ref C) ∧ PySem.W.subIn M.K (.ref C) (.ref D) = some true ∧
   ∀ (pins : List (Addr × Obj)) (σ : St) (H' : Hp) (ea : Addr) (Q : Flow → Shared → Prop) (E : Value → Shared → Prop), (X.calm = true → X.A.handled = none) → X.A.frames = some X.stack → σ.length = X.N.length →
    (∀ σ' H'' s'', aI H' H'' → Inv X pins σ' H'' s'' → (∀ K F H ρ g, ok ρ = true → OwnS K F H (σ.set j (some (.bl b))) ρ g → OwnS K F H σ' ρ g) → Q .next s'') →
    ∀ s5, (∀ (Q' : Unit → Shared → Prop) (E'' : Value → Shared → Prop), (∀ oe s6, oe.cls = .ref C → Inv (cxM X ea oe) pins σ H' s6 → Q' () s6) → wpAny (model X.prog X.w) (X.A.mark (some (.ref ea))) (setFlight (.ref ea) none) Q' E'' s5) →
    codeAny (model X.prog X.w) (X.A.mark (some (.ref ea))) (.handlers (.ref ea) [.ExceptHandler none nm (b0 :: suite) hpos] X.env) (fun r s₂ => match r with
     | .ok f => (match nm with
      | none => Q f s₂
      | some n => wpAny (model X.prog X.w) X.A (do bindName X.env n .none; unbindBehindTheSuite X.env n hpos) (fun _ s₃ => Q f s₃) E s₂)
     | .error x => cameBackBy (model X.prog X.w) X.A X.env E x s₂) s5)
  (hok : ∀ (ρ : L3.Env) v, ok (ρ.set j v) = ok ρ)
  (hd : (x == ("__debug__" : Str)) = false := by decide) (hdD : (dx == ("__debug__" : Str)) = false := by decide)
  (he : starEach (e :: es) X.env = (false, eval e X.env) :: starEach es X.env := by rfl) (hpl : (backTo cpos (starEach es X.env)).any (·.1) = false := by rfl)
  (hs : swapsWith (.Call (.Name x p) (e :: es) [] cpos) none epos.line X.env = pure false := by rfl) :
  DS M X (.Try [.Expr (.Call (.Name x p) (e :: es) [] cpos) epos] [.ExceptHandler (some (.Name dx np)) nm (b0 :: suite) hpos] [] [] pos) (sL fn al ok j tbl) := fun hK hM pins s σ H D' I q => by
 obtain ⟨F0, ρ, fp, S, pq⟩ := q;refine wpAny_Try_except (wpAny_execs_cons ?_);have F' : FnOk X.prog X.w X.K X.mg X.base (CXE X.prog X.w) k f fd ps (sp3 M.K M.mg fn) := by
  rw [hK, hM];exact F
 refine wpAny_Expr_any ?_ I.quiet hs;refine wpAny_Call_Name_kw (i8 I hg (by rw [hM]; exact hm) ?_ hd)
 refine PySem.W.callWith_K (h₀ := X.base) (K := X.K) I.ok.mod.kin (by rw [hK]; exact hk) ?_ he hpl
 have pa := ha (fun e s₁ => wpAny (model X.prog X.w) X.A (noteFrame e X.env) (fun _ s₂ => wpAny (model X.prog X.w) X.A (setFlight e none) (fun _ s₃ => wpAny (model X.prog X.w) X.A (handleBy e X.env [.ExceptHandler (some (.Name dx np)) nm (b0 :: suite) hpos]) (SP X pins D') X.xe s₃) X.xe s₂) X.xe s₁) hK hM
 refine thn (pa cpos pins s σ H (fun vs H1 => ∃ G1 ds, Ext F0 H G1 H1 ∧ RepAll M.K G1 vs ds ∧ az M H1 fp (fw M X.N.length G1 H1 fp D') (match fn ds with
   | .ok _ => .ok (.nx ρ)
   | .ex c => (match tbl.lookup c with
    | some b => if ok ρ = true then .ok (.nx (ρ.set j (some (.sh (.bool b))))) else .bad
    | none => .bad)
   | .bad => .bad)) (Br I) ⟨F0, ρ, fp, S, (az.bind pq).mono fun xs px vs F1 H1 fx e1 r1 w1 => ?_⟩) fun us s1 hz => ?_
 ·obtain ⟨G1, d1, k1⟩ := r1.frz e1 w1
  exact ⟨G1, xs.map OD.er, d1, k1, (px.ext d1).mono fun o ho => fw.stp d1.stp ho⟩
 ·obtain ⟨vs, H1, I1', r1, G1, ds, d1, k1, px⟩ := hz
  have I1 : Inv X pins σ H1 s1 := yj I1';have S1 := S.ext d1;refine ⟨I1.kIn, ?_⟩;have hsp : sp3 M.K M.mg fn vs H1 (fun _ H2 => (∃ z, fn ds = .ok z) ∧ ∃ G2, Ext G1 H1 G2 H2) (fun cls _ H2 => (∃ c b, fn ds = .ex c ∧ tbl.lookup c = some b ∧ M.mg c = some cls) ∧ aI H1 H2) := by
   refine ⟨G1, ds, d1.fh, k1, ?_⟩;cases hf : fn ds with
   | ok z => exact fun v F' H' fx e _ _ => ⟨⟨z, rfl⟩, F', e⟩
   | bad =>
    rw [hf] at px;exact px.elim
   | ex c =>
    rw [hf] at px;cases hc : tbl.lookup c with
    | none =>
     simp only [hc] at px;exact px.elim
    | some b =>
     obtain ⟨C, hC, _⟩ := hT c b hc;exact ⟨.ref C, hC, fun od H2 hk => ⟨⟨c, b, rfl, hc, hC⟩, fun a o z => hk a o z (by simp)⟩⟩
  have hl : (us ++ []).length = ps.length := by
   rw [List.append_nil, ← r1.length];exact F.len _ _ _ _ hsp
  have hbd := hb s1 us (hK ▸ I1.kIn) hl;rw [List.append_nil] at hbd;refine wpAny_call (codeAny_mono (F'.run X.A X.stack s1 H1 ⟨us, []⟩ us vs _ _ hr I1.jF hbd r1 hsp) fun r s2 hq => ?_)
  cases r with
  | error ev =>
   have hq' : CXE X.prog X.w X.stack H1 s1 (fun cls _ H2 => (∃ c b, fn ds = .ex c ∧ tbl.lookup c = some b ∧ M.mg c = some cls) ∧ aI H1 H2) ev s2 := hq
   refine vm I1 hq' hst hfr (by rw [hK]; exact hD) hgD (by rw [hM]; exact hmD) hdD fun ea cls H' _ hE => ?_
   obtain ⟨⟨c, b, hfn, hc, hmc⟩, same⟩ := hE;obtain ⟨C, hC, hsub, hh⟩ := hT c b hc;rw [hC] at hmc;cases hmc;refine ⟨C, rfl, by rw [hK]; exact hsub, fun s5 hset => hh pins σ H' ea _ _ I1.ok.hd I1.ok.frames I1.len (fun σ' H'' s'' sm J hown => ?_) s5 hset⟩
   rw [hfn] at px;simp only [hc] at px;split at px
   ·rename_i hO
    have e2 : Ext G1 H1 G1 H'' := ⟨aI.refl _, same.trans sm, d1.fh.trans (same.trans sm), fun _ _ z => z⟩
    obtain ⟨fp', S3, sub⟩ := (S1.ext e2).set hj (Res.sh (K := M.K) (F := G1) (H := H'') (.bl b)) fun _ m => by cases m
    exact ⟨σ', H'', J, px σ' G1 H'' fp' ⟨S3.same, hown _ _ _ _ _ (by rw [hok]; exact hO) S3.own, S3.nd, S3.fr, S3.len⟩ ⟨aI.refl _, fun a o z _ => same.trans sm a o z, fun a m => .inl ((sub a m).elim id fun z => by cases z), fun _ _ _ z => z⟩⟩
   ·exact px.elim
  | ok fl =>
   cases fl with
   | ret u =>
    obtain ⟨v, H2, J, _, ⟨z, hf⟩, G2, e2⟩ := I1.after hq;rw [hf] at px;exact wpAny_execs_nil (wpAny_execs_nil ⟨σ, H2, J, px σ G2 H2 fp (S1.ext e2) e2.stp⟩)
   | next => exact False.elim hq
   | brk => exact False.elim hq
   | cont => exact False.elim hq
end
end L3
namespace L3
open PySem L2 PySem.Spec PyProof.Rows
theorem yc {P : Program} {w : World} {K : PySem.W.Frag} {mg : Str → Option Value} {base : Heap} {x qual : Str} {st : Stmt} {f : Addr} {fd : FuncData} {N ps : List Str} {k np n : Nat} {body : Fs} {fn : Fn} (hf : fn = cI np n body) (hp : ps.length = np) (hn : N.length = n) (F : Fun K x qual st f fd) (S : FnScope N ps (ao st))
  (h : ∀ (cdv : Value) (A : Around) (outer : List PySem.Env) (s : Shared) (H : Hp) (E : XK), Room k (A.deeper (envOfC qual (ao st) s.heap.objs.size f cdv)) → DSs ⟨K, mg, E⟩ (lC (CXE P w) P w K mg base N qual (ao st) f cdv A outer s H E) (aJ st) body) :
  FnOk P w K mg base (CXE P w) (k + 1) f fd ps (sp3 K mg fn) := by
 subst hf hp hn;have hpl : ps.length ≤ N.length := by
  have := congrArg List.length S.pre;rw [List.length_take] at this
  lia
 have hlen : ∀ vs H Q E, sp3 K mg (cI ps.length N.length body) vs H Q E → vs.length = ps.length := by
  rintro vs H Q E ⟨F, ds, sm, ra, p⟩;by_cases hl : ds.length = ps.length
  ·rw [RepAll.len ra]
   exact hl
  ·unfold cI at p
   rw [if_neg hl] at p;exact p.elim
 obtain ⟨oc, od, kV, doc, pm, an, cdv, ct, osl, rfl, lk, hcd⟩ := F.ex;refine w_ lk hcd S hlen fun A outer s H vs Q E hr hs => ?_
 have hvl := hlen _ _ _ _ hs;obtain ⟨F0, ds, sm, ra, p⟩ := hs;have hdl : ds.length = ps.length := by rw [← RepAll.len ra]; exact hvl
 unfold cI at p;rw [if_pos hdl] at p;refine ⟨_, h cdv A outer s H E hr rfl rfl, F0, jF N.length ds, [], ⟨sm, ?_, List.nodup_nil, (fun _ m => by cases m), ?_⟩, (az.bind p).mono fun o po => ?_⟩
 ·unfold L2.start jF
  rw [hvl, hdl];exact jA _ ra
 ·unfold jF
  show _ = N.length
  rw [List.length_append, List.length_map, List.length_replicate, hdl]
  lia
 ·cases o with
  | nx ρ => exact fun σ' F' H' fp' S' st => po .non F' H' [] ⟨st.ff, fun a o q => st.keep a o q (by simp), S'.same, fun a q z => st.nw a q (by simp) z⟩ (Res.sh .non) fun _ m => by cases m
  | rt y => exact fun v F' H' fx sm' r st => po v F' H' fx ⟨st.ff, fun a o q => st.keep a o q (by simp), sm', fun a q z => st.nw a q (by simp) z⟩ r fun a m => (st.new a m).elim (fun z => by cases z) id
  | bk ρ => exact po.elim
  | ct ρ => exact po.elim
theorem yX {P : Str → Bool → Prop} : ∀ c b, ([] : List (Str × Bool)).lookup c = some b → P c b := fun c b h => by cases h
theorem uX {P : Str → Bool → Prop} {a : Str} {b0 : Bool} {l : List (Str × Bool)} (h : P a b0) (r : ∀ c b, l.lookup c = some b → P c b) : ∀ c b, ((a, b0) :: l).lookup c = some b → P c b := fun c b q => by
 rw [List.lookup_cons] at q;split at q
 ·rename_i e
  cases q;rw [beq_iff_eq.mp e];exact h
 ·exact r c b q
theorem um {ρ : L3.Env} {i j : Nat} {v : Option OD} (h : i ≠ j) : lA (ρ.set j v) i = lA ρ i := by
 unfold lA;rw [List.getElem?_set_ne (Ne.symm h)]
end L3
namespace L3
open PySem L2 PySem.Spec PyProof.Rows
section
variable {M : Mx} {X : Cx} {e : Expr} {pos : Pos} {fa : Fe}
end
end L3
namespace L3
open PySem L2
section
variable {c : Str} {ρ : L3.Env} {p : Fs}
theorem uk : qG (.ex c) p = .ex c := rfl
theorem vQ {r : R (List OD)} : r9 (.ex c) r = .ex c := rfl
theorem mX : vy (.ex c) = .ex c := rfl
theorem pT (c : Str) : pJ c ρ = .ex c := rfl
noncomputable def yR (r : R OD) (o : Bool) (j : Nat) (tbl : List (Str × Bool)) (ρ : L3.Env) : R Out := match r with
 | .ok _ => .ok (.nx ρ)
 | .ex c => (match tbl.lookup c with
  | some b => if o = true then .ok (.nx (ρ.set j (some (.sh (.bool b))))) else .bad
  | none => .bad)
 | .bad => .bad
theorem A_ {fn : Fn} {al : Fa} {ok : L3.Env → Bool} {j : Nat} {tbl : List (Str × Bool)} : sL fn al ok j tbl ρ = unK (fun xs => yR (fn (xs.map OD.er)) (ok ρ) j tbl ρ) (al ρ) := cK _ _
theorem zI {b : Bool} {j : Nat} {l : List (Str × Bool)} : yR (.ex c) true j ((c, b) :: l) ρ = .ok (.nx (ρ.set j (some (.sh (.bool b))))) := by
 unfold yR;simp [List.lookup]
noncomputable def noK : Option (Option OD) → Bool
 | some none => true
 | _ => false
theorem CU (i : Nat) : lA ρ i = noK ρ[i]? := by
 unfold lA noK;rfl
theorem C6 : noK (some none) = true := rfl
end
end L3
namespace L3
open PySem L2 PySem.Spec PyProof.Rows
noncomputable def nK (k : Nat) (a : Fe) : Fe := fun ρ => (a ρ).bind fun x => match comps x with
 | some (_, xs) => (match xs[k]? with
  | some y => .ok y
  | none => .bad)
 | none => .bad
section
variable {M : Mx} {X : Cx} {e : Expr} {pos p2 : Pos} {fa : Fe}
theorem BN {n : Nat} {σ : St} {H : Hp} {Q : VK} {k : Nat} (h : tD M n (nK k fa) σ H Q) : tOp (rIx M.K) (tD M n fa) (tC (.int (k : Int))) σ H Q := by
 obtain ⟨F, ρ, fp, S, p⟩ := h;refine ⟨F, ρ, fp, S, (az.bind p).mono fun x px v F1 H1 fx e1 r1 w1 => ?_⟩
 have key : ∀ (xs : List OD) (vs : List V) (a : Addr) (g : List Addr), OwnL M.K F1 H1 vs xs g → fx = a :: g → (az M H fp (OkE M F H Q) (match xs[k]? with | some y => .ok y | none => .bad)) → ∃ u, vs[k]? = some u ∧ Q u H1 := by
  intro xs vs a g hv hf px;cases hk : xs[k]? with
  | none =>
   rw [hk] at px;exact px.elim
  | some y =>
   rw [hk] at px;obtain ⟨u, f1, k1, k2, b1, b2, b3, _⟩ := hv.at hk;have nd := r1.nd;have sub : ∀ c ∈ f1, c ∈ fx := fun c m => by rw [hf, b3]; exact List.mem_cons_of_mem _ (List.mem_append_right _ (List.mem_append_left _ m))
   rw [hf, b3] at nd;simp only [List.nodup_cons, List.nodup_append] at nd;exact ⟨u, b1, px u F1 H1 f1 e1 ⟨b2, nd.2.2.1.1, fun c m => r1.fr c (sub c m)⟩ fun c m => w1 c (sub c m)⟩
 have ro := r1.own;cases ro with
 | sh _ => exact px.elim
 | od _ _ _ => exact px.elim
 | @ol a vs xs g ha hv =>
  obtain ⟨u, h1, h2⟩ := key xs vs a g hv rfl px;exact .inl ⟨a, vs, (k : Int), u, rfl, rfl, (RdK.of ha).sq, eH h1, h2⟩
 | @ot a vs xs g ha hv =>
  obtain ⟨u, h1, h2⟩ := key xs vs a g hv rfl px;exact .inr (.inl ⟨a, vs, (k : Int), u, rfl, rfl, .inl (.inl ha), eH h1, h2⟩)
theorem mB (k : Nat) {j : Nat} (h : DE M X e fa) (hs : j9 (.Constant (.int (k : Int)) j p2) := fun _ _ => rfl) : DE M X (.Subscript e (.Constant (.int (k : Int)) j p2) pos) (nK k fa) := fun hK hM => by
 have q := nH (pos := pos) aw (h hK hM) (sU (i := (k : Int)) (j := j) (pos := p2)) hs;rw [hK] at q;exact peI q fun _ _ _ z => BN z
end
theorem wu (k : Nat) {a : Fe} {ρ : L3.Env} : nK k a ρ = unK (fun x => match comps x with
 | some (_, xs) => (match xs[k]? with
  | some y => .ok y
  | none => .bad)
 | none => .bad) (a ρ) := cK _ _
theorem wz {k : Nat} {a : Fe} {ρ : L3.Env} {x y : OD} {l : Bool} {xs : List OD} (h1 : a ρ = .ok x) (h2 : comps x = some (l, xs)) (h3 : xs[k]? = some y) : nK k a ρ = .ok y := by
 rw [wu, h1, Ay];simp only [h2, h3]
end L3
namespace L3
open PySem L2 PySem.Spec PyProof.Rows
section
variable {M : Mx} {X : Cx} {a b c : Expr} {pos : Pos} {fa fb fc : Fe}
end
end L3
namespace L3
open PySem L2 PySem.Spec PyProof.Rows PySem.W
section
variable {M : Mx} {X : Cx}
end
end L3
namespace L3
open PySem L2
end L3
namespace L3
open PySem L2 PySem.Spec PyProof.Rows PySem.W
section
variable {M : Mx} {X : Cx} {e a : Expr} {fa fb : Fe}
end
section
variable {op : Str → Str → PyData} {fa fb : Fe} {ρ : L3.Env} {x y : OD} {s t : Str}
end
end L3
namespace L3
open PySem L2
section
variable {K : PySem.W.Frag} {F H : Hp} {σ : St} {ρ : Env} {g fp : List Addr} {n : Nat}
end
section
variable {M : Mx} {X : Cx} {n : Nat} {H : Hp} {σ : St} {D : Ends} {x y : Str} {p p2 ap cp pos : Pos}
end
end L3
namespace L3
open PySem L2 PySem.Spec PyProof.Rows PySem.W
section
variable {M : Mx} {X : Cx}
end
end L3
namespace B
noncomputable def IsE (n : Nat) (d : Nat → Nat → Int) (e : Nat → Int) : Prop := e 0 = 0 ∧ ∀ k, 0 < k → k < n → (∀ j, j < k → e j + d j k ≤ e k) ∧ ∃ j, j < k ∧ e k = e j + d j k
noncomputable def IsL (n : Nat) (d : Nat → Nat → Int) (T : Int) (l : Nat → Int) : Prop := l (n - 1) = T ∧ ∀ k, k + 1 < n → (∀ j, k < j → j < n → l k ≤ l j - d k j) ∧ ∃ j, k < j ∧ j < n ∧ l k = l j - d k j
end B
namespace B
inductive F where
 | nil
 | cons (k : Nat) (c r : F)
namespace F
noncomputable def pre : F → List Nat
 | nil => []
 | cons k c r => k :: (pre c ++ pre r)
noncomputable def roots : F → List Nat
 | nil => []
 | cons k _ r => k :: roots r
noncomputable def e8 : F → List Nat
 | nil => []
 | cons k c r => e8 r ++ (k :: e8 c)
noncomputable def app : F → F → F
 | nil, g => g
 | cons k c r, g => cons k c (app r g)
noncomputable def mir : F → F
 | nil => nil
 | cons k c r => app (mir r) (cons k (mir c) nil)
noncomputable def map (h : Nat → Nat) : F → F
 | nil => nil
 | cons k c r => cons (h k) (map h c) (map h r)
noncomputable def Con (ch : Nat → List Nat) : F → Prop
 | nil => True
 | cons k c r => ch k = roots c ∧ Con ch c ∧ Con ch r
noncomputable def Eld (e : Nat → Int) : Int → F → Prop
 | _, nil => True
 | p, cons k c r => e k = p ∧ Eld e (k : Int) c ∧ Eld e p r
theorem pre_app : ∀ f g : F, pre (app f g) = pre f ++ pre g
 | nil, g => rfl
 | cons k c r, g => by rw [app, pre, pre, pre_app r g, List.cons_append, List.append_assoc]
theorem kU : ∀ f g : F, e8 (app f g) = e8 g ++ e8 f
 | nil, g => by rw [app, e8, List.append_nil]
 | cons k c r, g => by rw [app, e8, e8, kU r g, List.append_assoc]
theorem ju : ∀ f g : F, roots (app f g) = roots f ++ roots g
 | nil, g => rfl
 | cons k c r, g => by rw [app, roots, roots, ju r g, List.cons_append]
theorem ke : ∀ f : F, pre (mir f) = e8 f
 | nil => rfl
 | cons k c r => by rw [mir, pre_app, ke r, e8, pre, ke c, pre, List.append_nil]
theorem mO {ch : Nat → List Nat} : ∀ f g : F, Con ch (app f g) ↔ Con ch f ∧ Con ch g
 | nil, g => by rw [app, Con]; simp
 | cons k c r, g => by rw [app, Con, Con, mO r g]; simp only [and_assoc]
theorem kl {e : Nat → Int} {p : Int} : ∀ f g : F, Eld e p (app f g) ↔ Eld e p f ∧ Eld e p g
 | nil, g => by rw [app, Eld]; simp
 | cons k c r, g => by rw [app, Eld, Eld, kl r g]; simp only [and_assoc]
theorem mT {e : Nat → Int} : ∀ (p : Int) (f : F), Eld e p f → Eld e p (mir f)
 | _, nil, _ => trivial
 | p, cons k c r, h => by
  obtain ⟨h1, h2, h3⟩ := h;rw [mir, kl];exact ⟨mT p r h3, h1, mT _ c h2, trivial⟩
theorem je (h : Nat → Nat) : ∀ f : F, pre (map h f) = (pre f).map h
 | nil => rfl
 | cons k c r => by rw [map, pre, je h c, je h r, pre, List.map_cons, List.map_append]
theorem snoc : ∀ f : F, f ≠ nil → ∃ g k c, f = app g (cons k c nil)
 | nil, h => absurd rfl h
 | cons k c nil, _ => ⟨nil, k, c, rfl⟩
 | cons k c (cons k' c' r'), _ => by
  obtain ⟨g, a, b, e⟩ := snoc (cons k' c' r') (fun z => nomatch z)
  exact ⟨cons k c g, a, b, by rw [app, e]⟩
theorem gy {e : Nat → Int} {q : Int} : ∀ (p : Int) (f : F), Eld e p f → q ≠ p → (∀ j ∈ pre f, (j : Int) ≠ q) → (pre f).filter (fun j => decide (e j = q)) = []
 | _, nil, _, _, _ => rfl
 | p, cons k c r, h, hp, hq => by
  obtain ⟨h1, h2, h3⟩ := h;rw [pre, List.filter_cons, if_neg (by rw [decide_eq_true_eq, h1]; exact fun z => hp z.symm), List.filter_append, gy _ c h2 (fun z => hq k (by rw [pre]; exact List.mem_cons_self) z.symm) (fun j hj => hq j (by rw [pre]; simp [hj])), gy p r h3 hp (fun j hj => hq j (by rw [pre]; simp [hj]))]
  rfl
theorem og {e : Nat → Int} : ∀ (p : Int) (f : F), Eld e p f → (∀ j ∈ pre f, (j : Int) ≠ p) → (pre f).filter (fun j => decide (e j = p)) = roots f
 | _, nil, _, _ => rfl
 | p, cons k c r, h, hq => by
  obtain ⟨h1, h2, h3⟩ := h;rw [pre, List.filter_cons, if_pos (by rw [decide_eq_true_eq, h1]), List.filter_append, gy _ c h2 (fun z => hq k (by rw [pre]; exact List.mem_cons_self) z.symm) (fun j hj => hq j (by rw [pre]; simp [hj])), og p r h3 (fun j hj => hq j (by rw [pre]; simp [hj])), roots]
  rfl
theorem ia {ch ch' : Nat → List Nat} : ∀ f : F, (∀ q ∈ pre f, ch q = ch' q) → Con ch' f → Con ch f
 | nil, _, _ => trivial
 | cons k c r, h, hc => by
  obtain ⟨h1, h2, h3⟩ := hc;exact ⟨(h k (by rw [pre]; exact List.mem_cons_self)).trans h1, ia c (fun q m => h q (by rw [pre]; simp [m])) h2, ia r (fun q m => h q (by rw [pre]; simp [m])) h3⟩
theorem mI {e : Nat → Int} : ∀ (p : Int) (f : F), Eld e p f → (pre f).Nodup → (∀ j ∈ pre f, (j : Int) ≠ p) → Con (fun q => (pre f).filter (fun j => decide (e j = (q : Int)))) f
 | _, nil, _, _, _ => trivial
 | p, cons k c r, h, nd, hp => by
  obtain ⟨h1, h2, h3⟩ := h;rw [pre, List.nodup_cons, List.nodup_append] at nd;obtain ⟨nk, n1, n2, n3⟩ := nd;have hpk : (k : Int) ≠ p := hp k (by rw [pre]; exact List.mem_cons_self)
  have kc : ∀ j ∈ pre c, (j : Int) ≠ (k : Int) := fun j m z => nk (by
   have : j = k := by lia
   rw [← this];simp [m])
  have kr : ∀ j ∈ pre r, (j : Int) ≠ (k : Int) := fun j m z => nk (by
   have : j = k := by lia
   rw [← this];simp [m])
  have pc : ∀ j ∈ pre c, (j : Int) ≠ p := fun j m => hp j (by rw [pre]; simp [m])
  have pr : ∀ j ∈ pre r, (j : Int) ≠ p := fun j m => hp j (by rw [pre]; simp [m])
  have split : ∀ q : Nat, (q : Int) ≠ p → (pre (cons k c r)).filter (fun j => decide (e j = (q : Int))) = (pre c).filter (fun j => decide (e j = (q : Int))) ++ (pre r).filter (fun j => decide (e j = (q : Int))) := fun q hq => by
   rw [pre, List.filter_cons, if_neg (by rw [decide_eq_true_eq, h1]; exact fun z => hq z.symm), List.filter_append]
  refine ⟨?_, ia c (fun q m => ?_) (mI _ c h2 n1 kc), ia r (fun q m => ?_) (mI p r h3 n2 pr)⟩
  ·show (pre (cons k c r)).filter (fun j => decide (e j = (k : Int))) = roots c
   rw [split k hpk, og _ c h2 kc, gy p r h3 hpk kr, List.append_nil]
  ·show (pre (cons k c r)).filter (fun j => decide (e j = (q : Int))) = (pre c).filter (fun j => decide (e j = (q : Int)))
   rw [split q (pc q m), gy p r h3 (pc q m) (fun j mj z => n3 q m j mj (by lia)), List.append_nil]
  ·show (pre (cons k c r)).filter (fun j => decide (e j = (q : Int))) = (pre r).filter (fun j => decide (e j = (q : Int)))
   rw [split q (pr q m), gy _ c h2 (fun z => kr q m z) (fun j mj z => n3 j mj q m (by lia)), List.nil_append]
end F
end B
namespace B
namespace F
theorem gk : ∀ f : F, (e8 f).Perm (pre f)
 | nil => List.Perm.refl _
 | cons k c r => by
  rw [e8, pre];have h1 := gk c;have h2 := gk r;have : (e8 r ++ k :: e8 c).Perm (k :: (e8 r ++ e8 c)) := List.perm_middle;refine this.trans (List.Perm.cons k ?_);exact (h2.append h1).trans List.perm_append_comm
structure Pf (n : Nat) (e : Nat → Int) (c : F) : Prop where
 pre : 0 :: pre c = List.range n
 root : e 0 = -1
 eld : Eld e 0 c
variable {n : Nat} {e : Nat → Int} {c : F}
noncomputable def full (c : F) : F := cons 0 c nil
theorem Pf.pos (h : Pf n e c) : 0 < n := by
 have := congrArg List.length h.pre;rw [List.length_cons, List.length_range] at this
 lia
theorem Pf.preF (h : Pf n e c) : F.pre (full c) = List.range n := by
 unfold full;rw [F.pre, F.pre, List.append_nil];exact h.pre
theorem Pf.eldF (h : Pf n e c) : Eld e (-1) (full c) := ⟨h.root, h.eld, trivial⟩
theorem Pf.con (h : Pf n e c) : Con (fun q => (List.range n).filter (fun j => decide (e j = (q : Int)))) (full c) := by
 have := mI (-1) (full c) h.eldF (by rw [h.preF]; exact List.nodup_range) (fun j _ => by lia)
 rw [h.preF] at this;exact this
noncomputable def R (c : F) : List Nat := e8 (full c)
theorem xY (c : F) : R c = 0 :: e8 c := by
 unfold R full;rw [e8, e8, List.nil_append]
theorem Pf.perm (h : Pf n e c) : (R c).Perm (List.range n) := by
 have := gk (full c);rw [h.preF] at this;exact this
theorem Pf.nodup (h : Pf n e c) : (R c).Nodup := h.perm.nodup_iff.mpr List.nodup_range
theorem Pf.mem (h : Pf n e c) {k : Nat} : k ∈ R c ↔ k < n := by rw [h.perm.mem_iff, List.mem_range]
theorem Pf.len (h : Pf n e c) : (R c).length = n := by rw [h.perm.length_eq, List.length_range]
noncomputable def g (c : F) (k : Nat) : Nat := (R c).idxOf k
theorem Pf.at_g (h : Pf n e c) {k : Nat} (hk : k < n) : (R c)[g c k]? = some k := by
 unfold g;rw [List.getElem?_eq_getElem (List.idxOf_lt_length_of_mem (h.mem.mpr hk)), List.getElem_idxOf]
theorem Pf.g_at (h : Pf n e c) {i k : Nat} (hk : (R c)[i]? = some k) : g c k = i := by
 unfold g;obtain ⟨h1, h2⟩ := List.getElem?_eq_some_iff.mp hk;rw [← h2];exact h.nodup.idxOf_getElem i h1
theorem pM (c : F) : g c 0 = 0 := by
 unfold g;rw [xY, List.idxOf_cons_self]
noncomputable def e1 (e : Nat → Int) (c : F) (i : Nat) : Int := match (R c)[i]? with
 | some k => if e k < 0 then -1 else (g c (e k).toNat : Int)
 | none => -1
noncomputable def gi (c : F) (p : Int) : Int := if p < 0 then -1 else (g c p.toNat : Int)
theorem Pf.e1_g (h : Pf n e c) {k : Nat} (hk : k < n) : e1 e c (g c k) = gi c (e k) := by
 unfold e1 gi;rw [h.at_g hk]
theorem mw {e e' : Nat → Int} {h : Nat → Nat} {hi : Int → Int} (hh : ∀ k : Nat, hi (k : Int) = (h k : Int)) : ∀ (p : Int) (f : F), (∀ k ∈ F.pre f, e' (h k) = hi (e k)) → Eld e p f → Eld e' (hi p) (map h f)
 | _, nil, _, _ => trivial
 | p, cons k c r, hp, he => by
  obtain ⟨h1, h2, h3⟩ := he;refine ⟨?_, ?_, mw hh p r (fun j m => hp j (by rw [F.pre]; simp [m])) h3⟩
  ·rw [hp k (by rw [F.pre]; exact List.mem_cons_self), h1]
  ·have := mw hh (k : Int) c (fun j m => hp j (by rw [F.pre]; simp [m])) h2
   rw [hh] at this;exact this
noncomputable def c1 (c : F) : F := map (g c) (mir c)
theorem u0 (c : F) : full (c1 c) = map (g c) (mir (full c)) := by
 unfold full c1;rw [mir, mir, app, map, map, pM]
theorem Pf.range_g (h : Pf n e c) : (R c).map (g c) = List.range n := by
 apply List.ext_getElem?
 intro i;rw [List.getElem?_map];by_cases hi : i < n
 ·obtain ⟨k, hk⟩ : ∃ k, (R c)[i]? = some k := ⟨(R c)[i]'(by rw [h.len]; exact hi), by simp⟩
  rw [hk, Option.map_some, h.g_at hk, List.getElem?_range hi]
 ·rw [List.getElem?_eq_none (by rw [h.len]; lia), List.getElem?_eq_none (by rw [List.length_range]; lia)]
  rfl
theorem Pf.mirrored (h : Pf n e c) : Pf n (e1 e c) (c1 c) := by
 have hp : F.pre (full (c1 c)) = List.range n := by
  rw [u0, je, ke];exact h.range_g
 refine ⟨?_, ?_, ?_⟩
 ·unfold full at hp
  rw [F.pre, F.pre, List.append_nil] at hp;exact hp
 ·have := h.e1_g h.pos
  rw [pM, h.root] at this;exact this
 ·have he : Eld (e1 e c) (gi c 0) (map (g c) (mir c)) := mw (e := e) (h := g c) (fun k => by unfold gi; rw [if_neg (by lia)]; rfl) 0 (mir c) (fun k hk => by
   refine h.e1_g ?_;rw [ke, (gk c).mem_iff] at hk;have : k ∈ (0 :: F.pre c) := List.mem_cons_of_mem _ hk;rw [h.pre, List.mem_range] at this;exact this) (mT 0 c h.eld)
  have z : gi c 0 = 0 := by
   unfold gi;rw [if_neg (by lia)]
   show ((g c 0 : Nat) : Int) = 0
   rw [pM];rfl
  rw [z] at he;exact he
theorem ki {e : Nat → Int} : ∀ (p : Int) (f : F), Eld e p f → ∀ k ∈ F.pre f, e k = p ∨ ∃ j : Nat, j ∈ F.pre f ∧ e k = (j : Int)
 | _, nil, _, _, m => by cases m
 | p, cons a c r, h, k, m => by
  obtain ⟨h1, h2, h3⟩ := h;rw [F.pre] at m;rcases List.mem_cons.mp m with rfl | m
  ·exact .inl h1
  ·rcases List.mem_append.mp m with m | m
   ·rcases ki _ c h2 k m with z | ⟨j, j1, j2⟩
    ·exact .inr ⟨a, by rw [F.pre]; exact List.mem_cons_self, z⟩
    ·exact .inr ⟨j, by rw [F.pre]; simp [j1], j2⟩
   ·rcases ki p r h3 k m with z | ⟨j, j1, j2⟩
    ·exact .inl z
    ·exact .inr ⟨j, by rw [F.pre]; simp [j1], j2⟩
theorem Pf.elder (h : Pf n e c) {k : Nat} (hk : k < n) : e k = -1 ∨ ∃ j : Nat, j < n ∧ e k = (j : Int) := by
 have := ki (-1) (full c) h.eldF k (by rw [h.preF, List.mem_range]; exact hk)
 rcases this with z | ⟨j, j1, j2⟩
 ·exact .inl z
 ·rw [h.preF, List.mem_range] at j1
  exact .inr ⟨j, j1, j2⟩
end F
end B
namespace B
namespace F
noncomputable def path : F → List Nat
 | nil => []
 | cons k c nil => k :: path c
 | cons _ _ (cons k c r) => path (cons k c r)
noncomputable def gT : F → Nat → Nat → F
 | f, 0, x => app f (cons x nil nil)
 | nil, _ + 1, _ => nil
 | cons k c nil, d + 1, x => cons k (gT c d x) nil
 | cons k c (cons k' c' r'), d + 1, x => cons k c (gT (cons k' c' r') (d + 1) x)
theorem lS : ∀ (f : F) (x : Nat), path (app f (cons x nil nil)) = [x]
 | nil, x => rfl
 | cons k c nil, x => rfl
 | cons k c (cons k' c' r'), x => by
  have := lS (cons k' c' r') x;rw [app] at this ⊢;rw [app];rw [path];exact this
theorem gm {e e' : Nat → Int} : ∀ (p : Int) (f : F), (∀ k ∈ F.pre f, e' k = e k) → Eld e p f → Eld e' p f
 | _, nil, _, _ => trivial
 | p, cons k c r, h, hc => by
  obtain ⟨h1, h2, h3⟩ := hc;exact ⟨(h k (by rw [F.pre]; exact List.mem_cons_self)).trans h1, gm _ c (fun q m => h q (by rw [F.pre]; simp [m])) h2, gm p r (fun q m => h q (by rw [F.pre]; simp [m])) h3⟩
theorem tP {k d x : Nat} {c r : F} : ∃ k' c' r', gT (cons k c r) (d + 1) x = cons k' c' r' := by
 cases r with
 | nil => exact ⟨_, _, _, by rw [gT]⟩
 | cons a b t => exact ⟨_, _, _, by rw [gT]⟩
theorem kn {e : Nat → Int} {x : Nat} : ∀ (f : F) (d : Nat) (p : Int), d ≤ (path f).length → Eld e p f → e x = (if d = 0 then p else ((path f)[d - 1]?.getD 0 : Int)) →
  F.pre (gT f d x) = F.pre f ++ [x] ∧ path (gT f d x) = (path f).take d ++ [x] ∧ Eld e p (gT f d x)
 | f, 0, p, _, h, hx => by
  rw [gT, pre_app, lS, kl];exact ⟨rfl, rfl, h, by simpa using hx, trivial, trivial⟩
 | nil, d + 1, p, hd, _, _ => by
  rw [path] at hd;simp at hd
 | cons k c nil, d + 1, p, hd, h, hx => by
  obtain ⟨h1, h2, h3⟩ := h;rw [path, List.length_cons] at hd;have ih := kn (e := e) (x := x) c d (k : Int) (by lia) h2 (by
   rw [hx, if_neg (by lia), path]
   by_cases d0 : d = 0
   ·subst d0
    rfl
   ·obtain ⟨m, rfl⟩ : ∃ m, d = m + 1 := ⟨d - 1, by lia⟩
    rw [if_neg (by lia)]
    rfl)
  rw [gT, F.pre, F.pre, ih.1, F.pre];refine ⟨by simp [F.pre], ?_, h1, ih.2.2, trivial⟩
  rw [path, path, ih.2.1, List.take_succ_cons, List.cons_append]
 | cons k c (cons k' c' r'), d + 1, p, hd, h, hx => by
  obtain ⟨h1, h2, h3⟩ := h;have hp : path (cons k c (cons k' c' r')) = path (cons k' c' r') := by rw [path]
  rw [hp] at hd hx;have ih := kn (e := e) (x := x) (cons k' c' r') (d + 1) p hd h3 hx;obtain ⟨a, b, t, hq⟩ := tP (k := k') (d := d) (x := x) (c := c') (r := r');rw [gT, F.pre, ih.1, hp];refine ⟨?_, ?_, h1, h2, ih.2.2⟩
  ·show k :: (F.pre c ++ (F.pre (cons k' c' r') ++ [x])) = (k :: (F.pre c ++ F.pre (cons k' c' r'))) ++ [x]
   rw [List.cons_append, List.append_assoc]
  rw [hq] at ih ⊢;rw [path];exact ih.2.1
noncomputable def eW : F → F
 | nil => nil
 | cons _ nil nil => nil
 | cons k (cons a b t) nil => cons k (eW (cons a b t)) nil
 | cons k c (cons a b t) => cons k c (eW (cons a b t))
theorem iN {e : Nat → Int} : ∀ (f : F) (p : Int), f ≠ nil → Eld e p f → F.pre (eW f) = (F.pre f).dropLast ∧ Eld e p (eW f)
 | nil, _, h, _ => absurd rfl h
 | cons k nil nil, p, _, _ => ⟨rfl, trivial⟩
 | cons k (cons a b t) nil, p, _, h => by
  obtain ⟨h1, h2, h3⟩ := h;obtain ⟨i1, i2⟩ := iN (e := e) (cons a b t) (k : Int) (fun z => nomatch z) h2
  rw [eW];refine ⟨?_, h1, i2, trivial⟩;show k :: (F.pre (eW (cons a b t)) ++ []) = (k :: (F.pre (cons a b t) ++ [])).dropLast
  rw [i1, List.append_nil, List.append_nil, List.dropLast_cons_of_ne_nil (by rw [F.pre]; simp)]
 | cons k c (cons a b t), p, _, h => by
  obtain ⟨h1, h2, h3⟩ := h;obtain ⟨i1, i2⟩ := iN (e := e) (cons a b t) p (fun z => nomatch z) h3
  have e1 : eW (cons k c (cons a b t)) = cons k c (eW (cons a b t)) := by
   cases c <;> rw [eW]
  rw [e1];refine ⟨?_, h1, h2, i2⟩;rw [F.pre, i1];show _ = (k :: (F.pre c ++ F.pre (cons a b t))).dropLast
  have hne : F.pre c ++ F.pre (cons a b t) ≠ [] := by rw [F.pre]; simp
  rw [List.dropLast_cons_of_ne_nil hne, List.dropLast_append_of_ne_nil (by rw [F.pre]; simp)]
theorem iZ {e e' : Nat → Int} {h : Nat → Nat} {hi : Int → Int} : ∀ (p : Int) (f : F), (∀ k ∈ F.pre f, e' (h k) = hi (e k) ∧ hi (k : Int) = (h k : Int)) → Eld e p f → Eld e' (hi p) (map h f)
 | _, nil, _, _ => trivial
 | p, cons k c r, hp, he => by
  obtain ⟨h1, h2, h3⟩ := he;have hk := hp k (by rw [F.pre]; exact List.mem_cons_self)
  refine ⟨?_, ?_, iZ p r (fun j m => hp j (by rw [F.pre]; simp [m])) h3⟩
  ·rw [hk.1, h1]
  ·have := iZ (k : Int) c (fun j m => hp j (by rw [F.pre]; simp [m])) h2
   rw [hk.2] at this;exact this
theorem pf {e : Nat → Int} : ∀ (f : F) (a m : Nat) (p : Int), F.pre f = List.range' a m → Eld e p f → p < (a : Int) → ∀ j, a ≤ j → j < a + m →
  ∃ cj s, F.pre cj = List.range' (j + 1) s ∧ Eld e (j : Int) cj ∧ j + 1 + s ≤ a + m ∧ (j + 1 + s < a + m → e (j + 1 + s) < (j : Int))
 | nil, a, m, p, hp, _, _, j, h1, h2 => by
  have := congrArg List.length hp;rw [F.pre, List.length_nil, List.length_range'] at this
  lia
 | cons k c r, a, m, p, hp, he, hpa, j, h1, h2 => by
  obtain ⟨e1, e2, e3⟩ := he;obtain ⟨m', rfl⟩ : ∃ m', m = m' + 1 := ⟨m - 1, by lia⟩
  rw [F.pre, List.range'_succ] at hp;obtain ⟨hk, hrest⟩ := List.cons.inj hp;subst hk;have hl := congrArg List.length hrest;rw [List.length_append, List.length_range'] at hl;have hm : m' = (F.pre c).length + (F.pre r).length := by lia
  rw [hm, ← List.range'_append_1] at hrest;obtain ⟨hc, hr⟩ := List.append_inj hrest (by rw [List.length_range'])
  have first : (F.pre r).length ≠ 0 → e (k + 1 + (F.pre c).length) = p := fun hne => by
   cases r with
   | nil => exact absurd rfl hne
   | cons b1 b2 b3 =>
    have hb : b1 = k + 1 + (F.pre c).length := by
     have := congrArg (fun l => l[0]?) hr
     rw [F.pre] at this;rw [List.length_cons, List.range'_succ] at this;exact Option.some.inj this
    rw [← hb];exact e3.1
  by_cases hj : j = k
  ·subst hj
   refine ⟨c, (F.pre c).length, hc, e2, by lia, fun h => ?_⟩
   rw [first (by lia)]
   lia
  ·by_cases hj2 : j < k + 1 + (F.pre c).length
   ·obtain ⟨cj, s, q1, q2, q3, q4⟩ := pf c (k + 1) (F.pre c).length (k : Int) hc e2 (by lia) j (by lia) hj2
    refine ⟨cj, s, q1, q2, by lia, fun h => ?_⟩
    by_cases hs : j + 1 + s < k + 1 + (F.pre c).length
    ·exact q4 hs
    ·have : j + 1 + s = k + 1 + (F.pre c).length := by lia
     rw [this, first (by lia)]
     lia
   ·obtain ⟨cj, s, q1, q2, q3, q4⟩ := pf r (k + 1 + (F.pre c).length) (F.pre r).length p hr e3 (by lia) j (by lia) (by lia)
    exact ⟨cj, s, q1, q2, by lia, fun h => q4 (by lia)⟩
theorem o9 {e : Nat → Int} : ∀ (f : F) (p : Int), Eld e p f → (∀ k ∈ F.pre f, p ≤ (k : Int)) → ∀ k ∈ F.pre f, p ≤ e k
 | nil, _, _, _, _, m => by cases m
 | cons a c r, p, h, hp, k, m => by
  obtain ⟨h1, h2, h3⟩ := h;rcases ki p (cons a c r) ⟨h1, h2, h3⟩ k m with z | ⟨j, j1, j2⟩
  ·lia
  ·rw [j2]
   exact hp j j1
end F
end B
namespace B
open PySem L2 L3
noncomputable def fF : Fs := (aC (sIf (ba (eOp gLt (ag 1) (eB cB (af (ag 0) av)))) (dE (eOp gIx (ag 0) (ag 1))) sNx)
 (aC (aQ 2 (eOp bX (eOp dU (eC (.int 7919)) (ag 1)) (eC (.int 5))))
 (aC (sIf (ba (eOp gGt (eB cB (af (ag 0) av)) (eC (.int 0)))) (aQ 2 (eOp dX (eOp bX (eOp dU (eOp gIx (ag 0) (eOp dX (ag 1) (eB cB (af (ag 0) av)))) (eC (.int 48271))) (eOp dU (ag 1) (eC (.int 7919)))) (eC (.int 2147483647)))) sNx)
 (dE (eOp dX (eOp dU (ag 2) (ag 2)) (eC (.int 2147483629)))))))
noncomputable def bc : Fn := cI 2 3 fF
noncomputable def eY : Fs := (dE (tM (nR "int" (ag 0)) (si (nR "bool" (ag 0)))))
noncomputable def cy : Fn := cI 1 1 eY
noncomputable def eS : Fs := (aC (aQ 2 (eC (.str "abcdefghijklmnopqrstuvwxyz")))
 (aC (aQ 3 (eC (.str "")))
 (aC (eM (iR1 (eOp bX (eC (.int 1)) (eOp dX (ag 0) (ag 1)))) (gNm 4) (aQ 3 (eOp bX (ag 3) (eOp gIx (ag 2) (eOp dX (eOp eN (ag 0) (eOp bX (eC (.int 9)) (eOp dU (eOp dU (eC (.int 4)) (ag 4)) (ag 4)))) (eC (.int 26)))))))
 (dE (ag 3)))))
noncomputable def dm : Fn := cI 2 5 eS
noncomputable def fC : Fs := (aC (aQ 5 (eK av))
 (aC (aQ 6 (eSh (eK av)))
 (aC (eM (iR1 (ag 2)) (gNm 7) (aC (aQ 8 (eOp dX (eOp dU (aK bc (af (ag 0) (af (eOp bX (ag 1) (ag 7)) av))) (eC (.int 69621))) (eC (.int 2147483629))))
 (aC (sIf (ba (eOp gGt (ag 7) (eC (.int 0)))) (aC (aQ 9 (eOp bX (eC (.int 1)) (eOp dX (ag 8) (eB cB (af (ag 6) av)))))
 (aC (sIf (ba (eOp gEq (eOp dX (eOp eN (ag 8) (eC (.int 16))) (eC (.int 3))) (eC (.int 0)))) (aQ 9 (eB cB (af (ag 6) av))) sNx)
 (aC (aQ 6 (eSh (eSl mq (ag 6) jU (gw (eB l5 (af (ag 9) (af (ag 4) av)))))))
 (gR 5 (eSh (fu (af (eOp gIx (ag 6) (eUn eQ (eC (.int 1)))) (af (eSh (aK dm (af (eOp eN (ag 8) (eC (.int 64))) (af (ag 3) av)))) (af (eOp bX (eC (.int 1)) (eOp dX (eOp eN (ag 8) (eC (.int 4096))) (eC (.int 9)))) av))))))))) (gR 5 (eSh (fu (af (eUn eQ (eC (.int 1))) (af (eSh (aK dm (af (eOp eN (ag 8) (eC (.int 64))) (af (ag 3) av)))) (af (eOp bX (eC (.int 1)) (eOp dX (eOp eN (ag 8) (eC (.int 4096))) (eC (.int 9)))) av)))))))
 (aQ 6 (eSh (eOp bX (ag 6) (eK (af (ag 7) av))))))))
 (fv 5))))
noncomputable def cJ : Fn := cI 5 10 fC
local macro_rules
 | `(tactic| push_cast only [$a,*] $[$l:location]?) => do
  let e ← ("v_var v_c Dl Dp za xi Be zr v_and v_or v_not C2 sZ kg Bv Bl yO v_b Di v_bor xE yU BM Cg B1 vZ vf Dx zP yB DJ Dr DC C0 Cw BE BU AQ AW yL Bs DD C8 C4 B0 Bh Bz xf B4 xO xR Cb B7 yt Cv Aw BL Ct Az Ax Af Dg BK Ay wR yx yk AS Ai wc vw zJ zM zw xu Cy A1 yb Ab xX xD ym Ba AK yQ C9 BF zm B_ xw yV Aq vi CC Cc Aa Ck Dd C5 Dc Co zz zK BS B3 xA A8 BQ Bi Bq Cq AA Cf AH CN Ci Bc Dj Df DB CV Du Dm zc Cp CD zS zE x8 xc uB xB As xQ BC xx at0 at1 at2 Bb zL xM xm yY zF x6 yy xN zC zo zN zW x9 xq xp zX CS Dy Dq Dh CT DH e7 iU wC flat List.map_cons List.map_nil List.length_cons List.length_nil List.getElem?_cons_zero List.getElem?_cons_succ List.getElem?_nil List.set_cons_zero List.set_cons_succ List.cons_append List.nil_append List.append_nil List.replicate_succ List.replicate_zero Nat.reduceAdd Nat.reduceSub Nat.reduceLeDiff Nat.reduceLT Nat.reduceEqDiff Nat.zero_add Bool.not_true Bool.not_false if_true if_false Bool.false_eq_true reduceIte decide_true decide_false reduceCtorEq pL B2 Int.reduceLT Int.reduceLE Int.reduceNeg Int.reducePow Int.reduceToNat Int.reduceMul Int.reduceAdd Int.reduceSub Nat.reducePow and_true true_and and_self List.length_map Ao Ae v_sub A0 AG Cr Bo A5 wG Ak A9 Int.cast_ofNat_Int Int.reduceEq Int.reduceNe BV xT pH Al By CL AZ BJ".splitOn " ").toArray.mapM fun s => `(Lean.Parser.Tactic.simpLemma| $(Lean.mkIdent s.toName):ident)
  `(tactic| simp (maxSteps := 1000000) -implicitDefEqProofs only [$e,*, $a,*] $[$l]?)
theorem lX (z : Int) : cy [.int z] = .ok (.sh (.bool true)) := by
 unfold cy eY;push_cast only [and_self]
theorem i5 (ns : List Int) (k : Int) (h0 : 0 ≤ k) (h1 : k < 1000000) : ∃ z, bc [.list (ns.map PyData.int), .int k] = .ok (.sh (.int z)) := by
 unfold bc fF;by_cases hk : k < (ns.length : Int)
 ·obtain ⟨x, e1, e2⟩ := pG (ns.map PyData.int) k h0 (by simpa using hk)
  rw [List.getElem?_map] at e1;obtain ⟨z, _, rfl⟩ := Option.map_eq_some_iff.mp e1;exact ⟨z, by push_cast only [decide_eq_true hk, e2]⟩
 ·by_cases hl : (0 : Int) < ns.length
  ·have hm := cU k hl
   obtain ⟨x, e1, e2⟩ := pG (ns.map PyData.int) (k % (ns.length : Int)) hm.1 (by simpa using hm.2)
   rw [List.getElem?_map] at e1;obtain ⟨z, _, rfl⟩ := Option.map_eq_some_iff.mp e1;have h2 := cU (z * 48271 + k * 7919) (show (0 : Int) < 2147483647 by decide)
   have c2 : fT ((z * 48271 + k * 7919) % 2147483647) ((z * 48271 + k * 7919) % 2147483647) = true := pL (by lia) (by lia)
   refine ⟨(z * 48271 + k * 7919) % 2147483647 * ((z * 48271 + k * 7919) % 2147483647) % 2147483629, ?_⟩;push_cast only [decide_eq_false hk, decide_eq_true hl, hl, e2, c2]
  ·have c2 : fT (7919 * k + 5) (7919 * k + 5) = true := pL (by lia) (by lia)
   refine ⟨(7919 * k + 5) * (7919 * k + 5) % 2147483629, ?_⟩;push_cast only [decide_eq_false hk, decide_eq_false hl, c2]
structure Nd where
 e : Int
 l : Str
 t : Int
noncomputable def g0 (l : Str) : Prop := 1 ≤ l.length ∧ l.length ≤ 9 ∧ ∀ c ∈ l.cps.toList, 97 ≤ c ∧ c ≤ 122
noncomputable def zB (n : Nd) : Prop := g0 n.l ∧ 1 ≤ n.t ∧ n.t ≤ 9
noncomputable def ndD (n : Nd) : PyData := .tuple [.int n.e, .str n.l, .int n.t]
noncomputable def au (ts : List Nd) : List PyData := ts.map ndD
inductive Grown (deep : Nat) : List Nd → List Int → Prop
 | root {n : Nd} : zB n → n.e = -1 → Grown deep [n] [0]
 | step {ns : List Nd} {way : List Int} {c : Nat} {n : Nd} : Grown deep ns way → 1 ≤ c → c ≤ way.length → c ≤ deep → zB n → way[c - 1]? = some n.e → Grown deep (ns ++ [n]) (way.take c ++ [(ns.length : Int)])
theorem Grown.pos {deep : Nat} {ns : List Nd} {way : List Int} (g : Grown deep ns way) : 0 < ns.length ∧ 0 < way.length := by
 cases g with
 | root => simp
 | step => simp
theorem Grown.ok {deep : Nat} {ns : List Nd} {way : List Int} (g : Grown deep ns way) : ∀ n ∈ ns, zB n := by
 induction g with
 | root h => simpa using h
 | @step ns way c n g h1 h2 h3 h4 h5 ih =>
  intro x hx;rcases List.mem_append.mp hx with hx | hx
  ·exact ih x hx
  ·have : x = n := by simpa using hx
   rw [this];exact h4
theorem vt {k : Int} (h0 : 0 ≤ k) (h1 : k < 26) : ∃ c, atI (Str.ofString "abcdefghijklmnopqrstuvwxyz").cps.toList k = some c ∧ 97 ≤ c ∧ c ≤ 122 := by
 have e : (Str.ofString "abcdefghijklmnopqrstuvwxyz").cps.toList = List.range' 97 26 := by decide +kernel
 rw [e];obtain ⟨v, e1, e2⟩ := pG (List.range' 97 26) k h0 (by simpa using h1)
 refine ⟨v, e2, ?_⟩;have := List.mem_range'.mp (List.mem_of_getElem? e1)
 lia
theorem mH (k : Int) (h0 : 0 ≤ k) (h1 : k < 26) : ∃ c, atI (Str.ofString "abcdefghijklmnopqrstuvwxyz").cps.toList k = some c ∧ (97 ≤ c ∧ c ≤ 122) := vt h0 h1
theorem mf (a b : Str) : (a ++ b).cps.toList = a.cps.toList ++ b.cps.toList := PyProof.Rows.cps_toList_append a b
theorem qs (a : Str) : a.length = a.cps.toList.length := by simp [Str.length]
theorem nB (a : Str) (c : Nat) : (a ++ ⟨#[c]⟩ : Str).length = a.length + 1 := by
 rw [qs, mf, qs, List.length_append];rfl
theorem tK (z m : Int) (m1 : 1 ≤ m) (m2 : m ≤ 9) : ∃ l, g0 l ∧ dm [.int z, .int m] = .ok (.sh (.str l)) := by
 unfold dm eS;have hm := cU z (show 0 < m by lia)
 have s1 : aH (1 + z % m) = true := fW (by lia) (by lia)
 have p0 : (0 : Int) < m := by lia
 obtain ⟨f, hf⟩ : ∃ f : Nat → Nat, ∀ i : Nat, atI (Str.ofString "abcdefghijklmnopqrstuvwxyz").cps.toList (z / (9 + 4 * (0 + (i : Int)) * (0 + (i : Int))) % 26) = some (f i) ∧ (97 ≤ f i ∧ f i ≤ 122) :=
  ⟨fun i => Classical.choose (mH _ (cU (z / (9 + 4 * (0 + (i : Int)) * (0 + (i : Int)))) (show (0 : Int) < 26 by decide)).1 (cU _ (by decide)).2), fun i => Classical.choose_spec (mH _ (cU (z / (9 + 4 * (0 + (i : Int)) * (0 + (i : Int)))) (show (0 : Int) < 26 by decide)).1 (cU _ (by decide)).2)⟩
 push_cast only [p0, s1];generalize hL : b6 _ _ _ _ = r
 refine dc hL (fun i ρ => ∃ (l : Str) (v : Option OD), ρ = [some (.sh (.int z)), some (.sh (.int m)), some (.sh (.str (Str.ofString "abcdefghijklmnopqrstuvwxyz"))), some (.sh (.str l)), v] ∧ l.length = i ∧ ∀ c ∈ l.cps.toList, 97 ≤ c ∧ c ≤ 122) ⟨_, _, rfl, rfl, fun c hc => by cases hc⟩ ?_ ?_
 ·rintro i d ρ hd ⟨l, v, rfl, hl, hc⟩
  obtain ⟨hi, rfl⟩ := dW hd;have i9 : (i : Int) < 9 := by lia
  have ib : 0 ≤ 4 * (0 + (i : Int)) * (0 + (i : Int)) ∧ 4 * (0 + (i : Int)) * (0 + (i : Int)) ≤ 4 * 8 * 8 := by
   have a1 : 0 ≤ (0 + (i : Int)) := by lia
   have a2 : (0 + (i : Int)) ≤ 8 := by lia
   refine ⟨Int.mul_nonneg (by lia) a1, ?_⟩
   exact Int.mul_le_mul (by lia) a2 a1 (by lia)
  have ec := (hf i).1;have c1 := (hf i).2.1;have c2 := (hf i).2.2;generalize f i = c at ec c1 c2
  have k1 : fT (4 * (0 + (i : Int))) (0 + (i : Int)) = true := pL (by lia) (by lia)
  have k2 : (0 < 9 + 4 * (0 + (i : Int)) * (0 + (i : Int)) ∧ 9 + 4 * (0 + (i : Int)) * (0 + (i : Int)) < 1073741824) = True := eq_true ⟨by lia, by lia⟩
  have k3 : ((Str.ofString "abcdefghijklmnopqrstuvwxyz").length ≤ BIG) = True := by decide +kernel
  have k4 : (l.length + (⟨#[c]⟩ : Str).length ≤ BIG) = True := bN (by rw [hl]; show i + 1 ≤ 1000; lia)
  push_cast only [k1, k2, k3, k4, ec, Option.map_some];refine ⟨_, _, rfl, by rw [nB, hl], fun d hd => ?_⟩
  rw [mf, List.mem_append] at hd;rcases hd with hd | hd
  ·exact hc d hd
  ·have : d = c := by simpa using hd
   lia
 ·rintro ρ' rfl ⟨l, v, rfl, hl, hc⟩
  rw [eI] at hl;push_cast only [and_self];exact ⟨l, ⟨by lia, by lia, hc⟩, rfl⟩
theorem oN (xs : List PyData) (k : Nat) : cutD xs none (some (k : Int)) = xs.take k := by
 unfold cutD;rw [HT.n_, HT.kf, List.drop_zero, Nat.sub_zero];rcases Nat.le_total k xs.length with h | h
 ·rw [Nat.min_eq_left h]
 ·rw [Nat.min_eq_right h, List.take_of_length_le (Nat.le_refl _), List.take_of_length_le h]
theorem l4 {way : List Int} {k : Nat} (h1 : 1 ≤ k) (h2 : k ≤ way.length) : ∃ e, way[k - 1]? = some e ∧ atI ((way.take k).map PyData.int) (-1) = some (.int e) := by
 have hk : k - 1 < way.length := by lia
 refine ⟨way[k - 1], by simp [hk], ?_⟩
 have h : way.take (k - 1 + 1) = way.take (k - 1) ++ [way[k - 1]] := by
  rw [List.take_add_one];simp [hk]
 rw [show k - 1 + 1 = k by lia] at h
 rw [h, List.map_append];exact nU _ _
theorem aF (ts : List Nd) : (au ts).length = ts.length := by unfold au; rw [List.length_map]
theorem iE (ts : List Nd) (n : Nd) : au (ts ++ [n]) = au ts ++ [.tuple [.int n.e, .str n.l, .int n.t]] := by
 unfold au;rw [List.map_append];rfl
theorem l_ (ns : List Int) (st : Int) (many : Nat) (most deep : Int) (s0 : 0 ≤ st) (s1 : st ≤ 1000) (n0 : 1 ≤ many) (n1 : many ≤ 900) (m0 : 1 ≤ most) (m1 : most ≤ 9) (d0 : 1 ≤ deep) (d1 : deep ≤ 1000) :
  ∃ ts way, Grown deep.toNat ts way ∧ ts.length = many ∧ cJ [.list (ns.map PyData.int), .int st, .int many, .int most, .int deep] = .ok (.ol ((au ts).map OD.sh)) := by
 unfold cJ fC;have s62 : aH (many : Int) = true := fW (by lia) (by lia)
 push_cast only [s62];generalize hL : b6 _ _ _ _ = r
 refine dc hL (fun i ρ => ∃ (ts : List Nd) (way : List Int) (v7 v8 v9 : Option OD), ρ = [some (.sh (.list (ns.map PyData.int))), some (.sh (.int st)), some (.sh (.int many)), some (.sh (.int most)), some (.sh (.int deep)), some (.ol ((au ts).map OD.sh)), some (.sh (.list (way.map PyData.int))), v7, v8, v9] ∧ ts.length = i ∧ way.length ≤ i ∧ ((i = 0 ∧ ts = [] ∧ way = []) ∨ (0 < i ∧ Grown deep.toNat ts way)))
  ⟨[], [], _, _, _, rfl, rfl, Nat.le_refl _, .inl ⟨rfl, rfl, rfl⟩⟩ ?_ ?_
 ·rintro i d ρ hd ⟨ts, way, v7, v8, v9, rfl, hti, hwi, hg⟩
  obtain ⟨hi, rfl⟩ := dW hd;rw [Int.toNat_natCast] at hi;obtain ⟨y, hy⟩ := i5 ns (st + (0 + (i : Int))) (by lia) (by lia)
  obtain ⟨l, hl, el⟩ := tK (y * 69621 % 2147483629 / 64) most m0 m1;have hq := cU (y * 69621 % 2147483629 / 4096) (show (0 : Int) < 9 by decide)
  have lb : ((au ts).length < BIG) = True := by rw [aF]; exact ft (by lia)
  by_cases h0 : (0 : Int) < 0 + (i : Int)
  ·have hg' : Grown deep.toNat ts way := by
    rcases hg with hg | hg
    ·lia
    ·exact hg.2
   have wp := hg'.pos.2;have wl : (0 : Int) < way.length := by lia
   have hr := cU (y * 69621 % 2147483629) wl;have fin : ∀ c : Nat, 1 ≤ c → c ≤ way.length → c ≤ deep.toNat → ∀ (e : Int), way[c - 1]? = some e → Grown deep.toNat (ts ++ [⟨e, l, 1 + y * 69621 % 2147483629 / 4096 % 9⟩]) (way.take c ++ [(ts.length : Int)]) := fun c c1 c2 c3 e he =>
    Grown.step hg' c1 c2 c3 ⟨hl, by show 1 ≤ 1 + _; lia, by show 1 + _ ≤ 9; lia⟩ he
   have lw : ∀ c : Nat, ((way.take c).length + 1 ≤ BIG) = True := fun c => bN (by rw [List.length_take]; lia)
   by_cases h3 : y * 69621 % 2147483629 / 16 % 3 = 0
   ·obtain ⟨c, hc⟩ : ∃ c : Nat, (if deep < (way.length : Int) then deep else (way.length : Int)) = (c : Int) := ⟨(if deep < (way.length : Int) then deep else (way.length : Int)).toNat, by split <;> lia⟩
    obtain ⟨c1, c2, c3⟩ : 1 ≤ c ∧ c ≤ way.length ∧ c ≤ deep.toNat := by split at hc <;> lia
    obtain ⟨e, he, hat⟩ := l4 c1 c2;push_cast only [hy, el, wl, decide_eq_true h0, decide_eq_true h3, hc, oN, ← List.map_take, bK, hat, lb, lw];have t1 := iE ts ⟨e, l, 1 + y * 69621 % 2147483629 / 4096 % 9⟩;have t2 : (au ts).map OD.sh ++ [OD.sh (.tuple [.int e, .str l, .int (1 + y * 69621 % 2147483629 / 4096 % 9)])] = (au (ts ++ [⟨e, l, 1 + y * 69621 % 2147483629 / 4096 % 9⟩])).map OD.sh := by rw [t1, List.map_append]; rfl
    have w1 : (way.take c).map PyData.int ++ [PyData.int (0 + (i : Int))] = (way.take c ++ [(ts.length : Int)]).map PyData.int := by rw [List.map_append, hti, Int.zero_add]; rfl
    rw [t2, w1];exact ⟨_, _, _, _, _, rfl, by rw [List.length_append, hti]; rfl, by rw [List.length_append, List.length_take, List.length_singleton]; lia, .inr ⟨Nat.succ_pos _, fin c c1 c2 c3 e he⟩⟩
   ·obtain ⟨c, hc⟩ : ∃ c : Nat, (if deep < 1 + y * 69621 % 2147483629 % (way.length : Int) then deep else 1 + y * 69621 % 2147483629 % (way.length : Int)) = (c : Int) := ⟨(if deep < 1 + y * 69621 % 2147483629 % (way.length : Int) then deep else 1 + y * 69621 % 2147483629 % (way.length : Int)).toNat, by split <;> lia⟩
    obtain ⟨c1, c2, c3⟩ : 1 ≤ c ∧ c ≤ way.length ∧ c ≤ deep.toNat := by split at hc <;> lia
    obtain ⟨e, he, hat⟩ := l4 c1 c2;push_cast only [hy, el, wl, decide_eq_true h0, decide_eq_false h3, hc, oN, ← List.map_take, bK, hat, lb, lw];have t1 := iE ts ⟨e, l, 1 + y * 69621 % 2147483629 / 4096 % 9⟩;have t2 : (au ts).map OD.sh ++ [OD.sh (.tuple [.int e, .str l, .int (1 + y * 69621 % 2147483629 / 4096 % 9)])] = (au (ts ++ [⟨e, l, 1 + y * 69621 % 2147483629 / 4096 % 9⟩])).map OD.sh := by rw [t1, List.map_append]; rfl
    have w1 : (way.take c).map PyData.int ++ [PyData.int (0 + (i : Int))] = (way.take c ++ [(ts.length : Int)]).map PyData.int := by rw [List.map_append, hti, Int.zero_add]; rfl
    rw [t2, w1];exact ⟨_, _, _, _, _, rfl, by rw [List.length_append, hti]; rfl, by rw [List.length_append, List.length_take, List.length_singleton]; lia, .inr ⟨Nat.succ_pos _, fin c c1 c2 c3 e he⟩⟩
  ·obtain ⟨i0, rfl, rfl⟩ : i = 0 ∧ ts = [] ∧ way = [] := by
    rcases hg with hg | hg
    ·exact hg
    ·lia
   push_cast only [hy, el, decide_eq_false h0, bK, lb];subst i0;exact ⟨[⟨-1, l, 1 + y * 69621 % 2147483629 / 4096 % 9⟩], [0], _, _, _, rfl, rfl, by decide, .inr ⟨Nat.succ_pos _, Grown.root ⟨hl, by show 1 ≤ 1 + _; lia, by show 1 + _ ≤ 9; lia⟩ rfl⟩⟩
 ·rintro ρ' rfl ⟨ts, way, v7, v8, v9, rfl, hti, hwi, hg⟩
  rw [eI, Int.toNat_natCast] at hti hg;rcases hg with hg | hg
  ·lia
  ·push_cast only [and_self]
   exact ⟨ts, way, hg.2, hti, rfl⟩
theorem z8 {l : Str} (h : g0 l) : PyData.strOk l = true := by
 unfold PyData.strOk;rw [Array.all_eq_true'];intro c hc;have := h.2.2 c (by simpa using hc)
 simp
 lia
theorem zV {n : Nd} (h : g0 n.l) : lay 1 (ndD n) := lP fun x hx => by
 simp only [List.mem_cons, List.not_mem_nil, or_false] at hx;rcases hx with rfl | rfl | rfl
 ·exact jh _
 ·exact vc (z8 h)
 ·exact jh _
theorem u7 {ts : List Nd} (h : ∀ n ∈ ts, g0 n.l) : lay 2 (.list (au ts)) := nZ fun x hx => by
 unfold au at hx;obtain ⟨n, hn, rfl⟩ := List.mem_map.mp hx;exact zV (h n hn)
theorem eA {ts : List Nd} {k : Nat} {n : Nd} (h : ts[k]? = some n) : atI (au ts) (k : Int) = some (.tuple [.int n.e, .str n.l, .int n.t]) := eH (by unfold au; rw [List.getElem?_map, h]; rfl)
instance : Inhabited Nd := ⟨⟨0, "", 0⟩⟩
noncomputable def eOf (ts : List Nd) (k : Nat) : Int := (ts[k]?.map (·.e)).getD 0
noncomputable def PT (ts : List Nd) (c : F) : Prop := F.Pf ts.length (eOf ts) c
theorem b_ {ts : List Nd} {k : Nat} {n : Nd} (h : ts[k]? = some n) : eOf ts k = n.e := by unfold eOf; rw [h]; rfl
theorem kN {deep : Nat} {ns : List Nd} {way : List Int} (g : Grown deep ns way) : ∃ c, PT ns c ∧ way = (0 :: F.path c).map (fun k : Nat => (k : Int)) := by
 induction g with
 | @root n h1 h2 => exact ⟨F.nil, ⟨rfl, by rw [b_ (n := n) rfl]; exact h2, trivial⟩, rfl⟩
 | @step ns way k n g h1 h2 h3 h4 h5 ih =>
  obtain ⟨c, p, hw⟩ := ih;subst hw;rw [List.length_map, List.length_cons] at h2;have same : ∀ j, j < ns.length → eOf (ns ++ [n]) j = eOf ns j := fun j hj => by
   unfold eOf;rw [List.getElem?_append_left hj]
  have new : eOf (ns ++ [n]) ns.length = n.e := b_ (by simp)
  have inR : ∀ j ∈ F.pre c, j < ns.length := fun j m => by
   have : j ∈ 0 :: F.pre c := List.mem_cons_of_mem _ m;rw [p.pre, List.mem_range] at this;exact this
  have he : F.Eld (eOf (ns ++ [n])) 0 c := F.gm 0 c (fun j m => same j (inR j m)) p.eld
  obtain ⟨q1, q2, q3⟩ := F.kn (x := ns.length) c (k - 1) 0 (by lia) he (by
   rw [new];rw [List.getElem?_map] at h5;by_cases k1 : k = 1
   ·subst k1
    have := Option.some.inj h5;rw [if_pos rfl];exact this.symm
   ·obtain ⟨m, rfl⟩ : ∃ m, k = m + 2 := ⟨k - 2, by lia⟩
    rw [if_neg (by lia)]
    have e : (0 :: F.path c)[m + 2 - 1]? = (F.path c)[m + 2 - 1 - 1]? := rfl;rw [e] at h5;obtain ⟨v, hv, hv2⟩ := Option.map_eq_some_iff.mp h5;rw [hv, ← hv2];rfl)
  refine ⟨F.gT c (k - 1) ns.length, ⟨?_, ?_, q3⟩, ?_⟩
  ·rw [q1, ← List.cons_append, p.pre, List.length_append, List.length_cons, List.length_nil, List.range_succ]
  ·rw [same 0 p.pos]
   exact p.root
  ·rw [q2]
   obtain ⟨m, rfl⟩ : ∃ m, k = m + 1 := ⟨k - 1, by lia⟩
   rw [List.map_cons, List.map_cons, List.take_succ_cons, List.map_append, Nat.add_sub_cancel, List.map_take];rfl
noncomputable def fj (ts : List Nd) (k : Nat) : Nd := ts[k]?.getD default
noncomputable def gY (ts : List Nd) (c : F) : List Nd := (F.R c).map fun k => ⟨F.gi c (fj ts k).e, (fj ts k).l, (fj ts k).t⟩
theorem m8 {ts : List Nd} {k : Nat} (h : k < ts.length) : (fj ts k).e = eOf ts k := by
 unfold fj eOf;rw [List.getElem?_eq_getElem h];rfl
section
variable {ts : List Nd} {c : F}
theorem km (p : PT ts c) : (gY ts c).length = ts.length := by unfold gY; rw [List.length_map, p.len]
theorem yK (p : PT ts c) {i : Nat} (hi : i < ts.length) : eOf (gY ts c) i = F.e1 (eOf ts) c i := by
 obtain ⟨k, hk⟩ : ∃ k, (F.R c)[i]? = some k := ⟨(F.R c)[i]'(by rw [p.len]; exact hi), by simp⟩
 have hkn : k < ts.length := p.mem.mp (List.mem_of_getElem? hk);unfold eOf gY F.e1;rw [List.getElem?_map, hk];show F.gi c (fj ts k).e = _
 rw [m8 hkn];rfl
theorem kx {n : Nat} {e e' : Nat → Int} {c : F} (h : ∀ k, k < n → e' k = e k) (p : F.Pf n e c) : F.Pf n e' c := by
 refine ⟨p.pre, by rw [h 0 p.pos]; exact p.root, F.gm 0 c (fun k m => h k ?_) p.eld⟩
 have : k ∈ 0 :: F.pre c := List.mem_cons_of_mem _ m;rw [p.pre, List.mem_range] at this;exact this
theorem vq (p : PT ts c) : PT (gY ts c) (F.c1 c) := by
 unfold PT;rw [km p];exact kx (fun k hk => yK p hk) p.mirrored
end
theorem vW {ts us : List Nd} {c : F} (p : PT ts c) (hl : us.length = ts.length) (h : ∀ k, k < ts.length → eOf us k = eOf ts k) : PT us c := by
 unfold PT;rw [hl];exact kx h p
theorem yp {ts : List Nd} {c : F} (p : PT ts c) (h : 1 < ts.length) : ∃ c', PT ts.dropLast c' := by
 have hc : c ≠ F.nil := by
  rintro rfl;have := congrArg List.length p.pre;rw [List.length_range] at this;simp [F.pre] at this
  lia
 obtain ⟨q1, q2⟩ := F.iN (e := eOf ts) c 0 hc p.eld;have hr : F.pre c ≠ [] := by
  cases c with
  | nil => exact absurd rfl hc
  | cons a b t => rw [F.pre]; simp
 have same : ∀ k, k < ts.dropLast.length → eOf ts.dropLast k = eOf ts k := fun k hk => by
  unfold eOf;rw [List.getElem?_dropLast, if_pos (by rw [List.length_dropLast] at hk; exact hk)]
 refine ⟨F.eW c, kx same ⟨?_, p.root, q2⟩⟩;rw [q1, ← List.dropLast_cons_of_ne_nil hr, p.pre, List.length_dropLast];obtain ⟨m, hm⟩ : ∃ m, ts.length = m + 1 := ⟨ts.length - 1, by lia⟩
 rw [hm, List.range_succ];simp
noncomputable def gn (s : Nat) (ts : List Nd) : List Nd := match ts with
 | [] => []
 | n :: r => ⟨0, n.l, n.t⟩ :: r.map fun m => ⟨m.e + s, m.l, m.t⟩
theorem uZ {ts us : List Nd} {c d : F} (p : PT ts c) (q : PT us d) : PT (ts ++ gn ts.length us) (F.app c (F.map (· + ts.length) (F.full d))) := by
 obtain ⟨n, r, rfl⟩ : ∃ n r, us = n :: r := by
  cases us with
  | nil => exact absurd q.pos (by simp)
  | cons n r => exact ⟨n, r, rfl⟩
 have e1 : ∀ k, k < ts.length → eOf (ts ++ gn ts.length (n :: r)) k = eOf ts k := fun k hk => by
  unfold eOf;rw [List.getElem?_append_left hk]
 have e2 : ∀ k, k < (n :: r).length → eOf (ts ++ gn ts.length (n :: r)) (k + ts.length) = if k = 0 then 0 else eOf (n :: r) k + ts.length := fun k hk => by
  unfold eOf;rw [List.getElem?_append_right (by lia), Nat.add_sub_cancel]
  cases k with
  | zero => rfl
  | succ k =>
   rw [if_neg (by lia)]
   show ((r.map fun m => (⟨m.e + ts.length, m.l, m.t⟩ : Nd))[k]?.map (·.e)).getD 0 = (r[k]?.map (·.e)).getD 0 + ts.length
   rw [List.length_cons] at hk;rw [List.getElem?_map, List.getElem?_eq_getElem (show k < r.length by lia)]
   rfl
 have hl : (ts ++ gn ts.length (n :: r)).length = ts.length + (n :: r).length := by
  rw [List.length_append];unfold gn;rw [List.length_cons, List.length_map, List.length_cons]
 refine ⟨?_, by rw [e1 0 p.pos]; exact p.root, ?_⟩
 ·rw [F.pre_app, F.je, q.preF, ← List.cons_append, p.pre, hl, List.range_add]
  congr 1
  exact List.map_congr_left fun k _ => Nat.add_comm _ _
 ·rw [F.kl]
  refine ⟨F.gm 0 c (fun k m => e1 k ?_) p.eld, ?_, ?_, trivial⟩
  ·have : k ∈ 0 :: F.pre c := List.mem_cons_of_mem _ m
   rw [p.pre, List.mem_range] at this;exact this
  ·have := e2 0 (by simp)
   exact this
  ·have := F.iZ (e := eOf (n :: r)) (e' := eOf (ts ++ gn ts.length (n :: r))) (h := (· + ts.length)) (hi := fun z => z + ts.length) 0 d (fun k m => by
    have hk : k ∈ 0 :: F.pre d := List.mem_cons_of_mem _ m;have nd : (0 :: F.pre d).Nodup := by rw [q.pre]; exact List.nodup_range
    rw [q.pre, List.mem_range] at hk;have k0 : k ≠ 0 := fun z => (List.nodup_cons.mp nd).1 (z ▸ m)
    refine ⟨?_, by lia⟩
    have := e2 k hk;rw [if_neg k0] at this;exact this) q.eld
   exact this
namespace F
theorem o7 {ch : Nat → List Nat} : ∀ (f : F), Con ch f → ∀ q ∈ F.pre f, ∀ b ∈ ch q, b ∈ F.pre f
 | nil, _, q, m, _, _ => by cases m
 | cons k c r, h, q, m, b, hb => by
  obtain ⟨h1, h2, h3⟩ := h;have rs : ∀ g : F, ∀ x ∈ roots g, x ∈ F.pre g := by
   intro g
   induction g with
   | nil => intro x hx; cases hx
   | cons a d t _ ih =>
    intro x hx;rw [roots] at hx;rw [F.pre];rcases List.mem_cons.mp hx with rfl | hx
    ·exact List.mem_cons_self
    ·exact List.mem_cons_of_mem _ (List.mem_append_right _ (ih x hx))
  rw [F.pre] at m ⊢;rcases List.mem_cons.mp m with rfl | m
  ·rw [h1] at hb
   exact List.mem_cons_of_mem _ (List.mem_append_left _ (rs c b hb))
  ·rcases List.mem_append.mp m with m | m
   ·exact List.mem_cons_of_mem _ (List.mem_append_left _ (o7 c h2 q m b hb))
   ·exact List.mem_cons_of_mem _ (List.mem_append_right _ (o7 r h3 q m b hb))
theorem mW {e : Nat → Int} {ch : Nat → List Nat} : ∀ (f : F) (a m : Nat) (p : Int), F.pre f = List.range' a m → Eld e p f → Con ch f → p < (a : Int) → ∀ j, a ≤ j → j < a + m →
  ∃ cj s, F.pre cj = List.range' (j + 1) s ∧ Eld e (j : Int) cj ∧ j + 1 + s ≤ a + m ∧ (j + 1 + s < a + m → e (j + 1 + s) < (j : Int)) ∧ Con ch cj ∧ ch j = roots cj
 | nil, a, m, p, hp, _, _, _, j, h1, h2 => by
  have := congrArg List.length hp;rw [F.pre, List.length_nil, List.length_range'] at this
  lia
 | cons k c r, a, m, p, hp, he, hcon, hpa, j, h1, h2 => by
  obtain ⟨e1, e2, e3⟩ := he;obtain ⟨o1, o2, o3⟩ := hcon;obtain ⟨m', rfl⟩ : ∃ m', m = m' + 1 := ⟨m - 1, by lia⟩
  rw [F.pre, List.range'_succ] at hp;obtain ⟨hk, hrest⟩ := List.cons.inj hp;subst hk;have hl := congrArg List.length hrest;rw [List.length_append, List.length_range'] at hl;have hm : m' = (F.pre c).length + (F.pre r).length := by lia
  rw [hm, ← List.range'_append_1] at hrest;obtain ⟨hc, hr⟩ := List.append_inj hrest (by rw [List.length_range'])
  have first : (F.pre r).length ≠ 0 → e (k + 1 + (F.pre c).length) = p := fun hne => by
   cases r with
   | nil => exact absurd rfl hne
   | cons b1 b2 b3 =>
    have hb : b1 = k + 1 + (F.pre c).length := by
     have := congrArg (fun l => l[0]?) hr
     rw [F.pre] at this;rw [List.length_cons, List.range'_succ] at this;exact Option.some.inj this
    rw [← hb];exact e3.1
  by_cases hj : j = k
  ·subst hj
   refine ⟨c, (F.pre c).length, hc, e2, by lia, fun h => ?_, o2, o1⟩
   rw [first (by lia)]
   lia
  ·by_cases hj2 : j < k + 1 + (F.pre c).length
   ·obtain ⟨cj, s, q1, q2, q3, q4, q5, q6⟩ := mW c (k + 1) (F.pre c).length (k : Int) hc e2 o2 (by lia) j (by lia) hj2
    refine ⟨cj, s, q1, q2, by lia, fun h => ?_, q5, q6⟩
    by_cases hs : j + 1 + s < k + 1 + (F.pre c).length
    ·exact q4 hs
    ·have : j + 1 + s = k + 1 + (F.pre c).length := by lia
     rw [this, first (by lia)]
     lia
   ·obtain ⟨cj, s, q1, q2, q3, q4, q5, q6⟩ := mW r (k + 1 + (F.pre c).length) (F.pre r).length p hr e3 o3 (by lia) j (by lia) (by lia)
    exact ⟨cj, s, q1, q2, by lia, fun h => q4 (by lia), q5, q6⟩
end F
theorem sy {ts : List Nd} {c : F} (p : PT ts c) {j : Nat} (hj : j < ts.length) : ∃ s, j + 1 + s ≤ ts.length ∧ (∀ k, j < k → k ≤ j + s → (j : Int) ≤ eOf ts k) ∧ (j + 1 + s < ts.length → eOf ts (j + 1 + s) < (j : Int)) ∧
  ∀ b, b < ts.length → (j : Int) ≤ eOf ts b → eOf ts b ≤ ((j + s : Nat) : Int) → j < b ∧ b ≤ j + s := by
 obtain ⟨cj, s, q1, q2, q3, q4, q5, q6⟩ := F.mW (e := eOf ts) (F.full c) 0 ts.length (-1) (by rw [p.preF, List.range_eq_range']) p.eldF p.con (by decide) j (by lia) (by lia)
 rw [Nat.zero_add] at q3 q4;have ge := F.o9 cj (j : Int) q2 (fun k m => by rw [q1, List.mem_range'_1] at m; lia)
 refine ⟨s, q3, fun k k1 k2 => ge k (by rw [q1, List.mem_range'_1]; lia), q4, fun b hb b1 b2 => ?_⟩
 have hm : b ∈ F.pre cj := by
  obtain ⟨q, hq⟩ : ∃ q : Nat, eOf ts b = (q : Int) := ⟨(eOf ts b).toNat, by lia⟩
  have hin : b ∈ (List.range ts.length).filter (fun x => decide (eOf ts x = (q : Int))) := List.mem_filter.mpr ⟨List.mem_range.mpr hb, decide_eq_true hq⟩
  by_cases hqj : q = j
  ·subst hqj
   have hin2 : b ∈ F.roots cj := by rw [← q6]; exact hin
   have rs : ∀ g : F, ∀ x ∈ F.roots g, x ∈ F.pre g := by
    intro g
    induction g with
    | nil => intro x hx; cases hx
    | cons a d t _ ih =>
     intro x hx;rw [F.roots] at hx;rw [F.pre];rcases List.mem_cons.mp hx with rfl | hx
     ·exact List.mem_cons_self
     ·exact List.mem_cons_of_mem _ (List.mem_append_right _ (ih x hx))
   exact rs cj b hin2
  ·exact F.o7 cj q5 q (by rw [q1, List.mem_range'_1]; lia) b hin
 rw [q1, List.mem_range'_1] at hm
 lia
noncomputable def eX : Fs := (sIf (j6 (ba (eOp gLt (ag 1) (eC (.int 0)))) (ba (eOp gGe (ag 1) (eB cB (af (ag 0) av))))) zh sNx)
noncomputable def cq : Fn := cI 2 2 eX
noncomputable def gM : Fs := (dE (dR (gB (ag 0)) (gNm 0) e6 (eOp eN (eB cB (af (eOp gIx (ag 0) (eC (.int 1))) av)) (eC (.int 2))) 1 []))
noncomputable def cS : Fn := cI 1 1 gM
noncomputable def eJ : Fs := (aC (lY (aK cq (af (ag 0) (af (ag 1) av))))
 (dE (dR (iEn (ag 0)) (gTp 2 (bC (gNm 0) (bC (gNm 1) fP))) (ba (eOp gEq (eOp gIx (ag 1) (eC (.int 0))) (ag 2))) (ag 0) 2 [1])))
noncomputable def bT : Fn := cI 2 2 eJ
noncomputable def EL (ts : List Nd) : Prop := ∀ (k : Nat) (n : Nd), ts[k]? = some n → (k = 0 → n.e = -1) ∧ (0 < k → 0 ≤ n.e) ∧ n.e < k
noncomputable def fL (acc : List Nat) (n : Nd) : Nat := if n.e = -1 then 0 else (acc[n.e.toNat]?).getD 0 + 1
noncomputable def lvs (ts : List Nd) : List Nat := ts.foldl (fun acc n => acc ++ [fL acc n]) []
theorem g8 (ts : List Nd) (n : Nd) : lvs (ts ++ [n]) = lvs ts ++ [fL (lvs ts) n] := by
 unfold lvs;rw [List.foldl_append];rfl
theorem snoc_ind {α : Type} {P : List α → Prop} (h0 : P []) (hs : ∀ xs x, P xs → P (xs ++ [x])) (xs : List α) : P xs := by
 have : ∀ ys : List α, P ys.reverse := by
  intro ys
  induction ys with
  | nil => exact h0
  | cons y ys ih => rw [List.reverse_cons]; exact hs _ _ ih
 have h := this xs.reverse
 rwa [List.reverse_reverse] at h
theorem fX : ∀ ts : List Nd, (lvs ts).length = ts.length := by
 intro ts;refine snoc_ind (P := fun ts => (lvs ts).length = ts.length) rfl (fun ts n ih => ?_) ts
 rw [g8, List.length_append, List.length_append, ih];rfl
theorem take_snoc {α : Type} {xs : List α} {i : Nat} {x : α} (h : xs[i]? = some x) : xs.take (i + 1) = xs.take i ++ [x] := by rw [List.take_add_one, h]; rfl
theorem oa (ts : List Nd) : ∀ i : Nat, (lvs ts).take i = lvs (ts.take i) := by
 refine snoc_ind (P := fun ts => ∀ i : Nat, (lvs ts).take i = lvs (ts.take i)) (fun i => by simp [lvs]) (fun ts n ih => ?_) ts
 ·intro i
  rcases Nat.le_total i ts.length with h | h
  ·rw [g8, List.take_append_of_le_length (by rw [fX]; exact h), List.take_append_of_le_length h, ih]
  ·by_cases h2 : i = ts.length
   ·subst h2
    rw [g8, List.take_append_of_le_length (by rw [fX]; exact Nat.le_refl _), List.take_append_of_le_length (Nat.le_refl _), ih]
   ·rw [List.take_of_length_le (by rw [fX, List.length_append]; simp; lia), List.take_of_length_le (by rw [List.length_append]; simp; lia)]
theorem vS {ts : List Nd} {i : Nat} {n : Nd} (h : ts[i]? = some n) : (lvs ts)[i]? = some (fL (lvs (ts.take i)) n) := by
 have hi := (List.getElem?_eq_some_iff.mp h).1;have e := oa ts (i + 1);rw [take_snoc h, g8] at e;have : ((lvs ts).take (i + 1))[i]? = some (fL (lvs (ts.take i)) n) := by
  rw [e, List.getElem?_append_right (by rw [fX, List.length_take]; lia), fX, List.length_take, Nat.min_eq_left (by lia), Nat.sub_self]
  rfl
 rw [List.getElem?_take_of_lt (by lia)] at this
 exact this
noncomputable def j7 (ks : List Nat) : List PyData := ks.map fun k : Nat => PyData.int (k : Int)
theorem ui (ks : List Nat) : (j7 ks).length = ks.length := by unfold j7; rw [List.length_map]
theorem mR {ks : List Nat} {k v : Nat} (h : ks[k]? = some v) : atI (j7 ks) (k : Int) = some (.int v) := eH (by unfold j7; rw [List.getElem?_map, h]; rfl)
theorem q_ (ks : List Nat) (k : Nat) : (j7 ks).map OD.sh ++ [OD.sh (.int (k : Int))] = (j7 (ks ++ [k])).map OD.sh := by
 unfold j7;rw [List.map_append, List.map_append];rfl
structure NumOk (L : List Nat) (i : Nat) (nums : List (List Nat)) : Prop where
 row : ∀ (j : Nat) (r : List Nat), nums[j]? = some r → r ≠ [] ∧ r.Pairwise (· < ·) ∧ ∀ k, k ∈ r ↔ k < i ∧ L[k]? = some j
 lt : ∀ (k v : Nat), k < i → L[k]? = some v → v < nums.length
 sum : (nums.map List.length).sum = i
noncomputable def bh (ts : List Nd) : List Int := ts.map fun n => (n.l.length : Int) / 2
theorem kG (ts : List Nd) (h : ∀ n ∈ ts, n.l.length ≤ 1000) (hl : ts.length ≤ 100) : cS [.list (au ts)] = .ok (.ol ((bh ts).map fun z => OD.sh (.int z))) := by
 unfold cS gM;push_cast only [and_self];generalize hL : cw _ _ _ _ _ _ = r
 have e := fO hL ndD (fun n : Nd => .sh (.int ((n.l.length : Int) / 2))) ts rfl (of_eq_true (bN (by lia))) (by
  intro n hn;have := bN (h n hn);push_cast only [ndD, this])
 subst e;push_cast only [and_self];unfold bh;rw [List.map_map];rfl
theorem ni (xs : List PyData) (j : Nat) (h : j < xs.length) : cq [.list xs, .int j] = .ok (.sh .none) := by
 unfold cq eX;have d1 : decide ((j : Int) < 0) = false := decide_eq_false (by lia)
 have d2 : decide ((xs.length : Int) ≤ (j : Int)) = false := decide_eq_false (by lia)
 push_cast only [d1, d2]
noncomputable def iL (rs : List Nat) : List Int := rs.map fun k : Nat => (k : Int)
noncomputable def nD (rs : List Nat) : List PyData := (iL rs).map PyData.int
noncomputable def nO (rs : List Nat) : List OD := (nD rs).map OD.sh
theorem kO (rs : List Nat) : (nO rs).map OD.er = nD rs := bK _
theorem gX (rs : List Nat) : (nD rs).length = rs.length := by unfold nD iL; rw [List.length_map, List.length_map]
theorem zq (rs : List Nat) : (nO rs).length = rs.length := by unfold nO; rw [List.length_map, gX]
theorem sI (a b : List Nat) : nO a ++ nO b = nO (a ++ b) := by unfold nO nD iL; rw [List.map_append, List.map_append, List.map_append]
theorem qw (a : List Nat) (k : Nat) : nO a ++ [OD.sh (.int (k : Int))] = nO (a ++ [k]) := by rw [← sI]; rfl
theorem AL {rs : List Nat} {i k : Nat} (h : rs[i]? = some k) : (nD rs)[i]? = some (.int (k : Int)) := by
 unfold nD iL;rw [List.getElem?_map, List.getElem?_map, h];rfl
noncomputable def chN (ts : List Nd) (q : Nat) : List Nat := (List.range ts.length).filter (fun j => decide (eOf ts j = (q : Int)))
theorem rV (ts : List Nd) : fK (au ts) = (List.range ts.length).map fun k : Nat => PyData.tuple [.int (k : Int), ndD (fj ts k)] := by
 apply List.ext_getElem?
 intro i;rw [List.getElem?_map];by_cases hi : i < ts.length
 ·rw [List.getElem?_range hi]
  unfold fK au;rw [List.getElem?_map, List.getElem?_zipIdx, List.getElem?_map, List.getElem?_eq_getElem hi];unfold fj;simp [List.getElem?_eq_getElem hi]
 ·rw [List.getElem?_eq_none (by unfold fK au; simp; lia), List.getElem?_eq_none (by rw [List.length_range]; lia)]
  rfl
theorem p6 (L : List Nat) : (L.map fun k : Nat => OD.sh (.int (k : Int))) = nO L := by
 unfold nO nD iL;rw [List.map_map, List.map_map];rfl
theorem nY (ts : List Nd) (q : Nat) (hq : q < ts.length) (hl : ts.length ≤ 100) : bT [.list (au ts), .int q] = .ok (.ol (nO (chN ts q))) := by
 unfold bT eJ;have ck := ni (au ts) q (by rw [aF]; exact hq)
 push_cast only [ck];generalize hC : cw _ _ _ _ _ _ = rc
 have e := kj hC (fun k : Nat => PyData.tuple [.int (k : Int), ndD (fj ts k)]) (fun k => decide (eOf ts k = (q : Int))) (fun k : Nat => .sh (.int (k : Int))) (List.range ts.length) (rV ts) (by rw [List.length_range]; exact of_eq_true (bN (by lia))) (by
  intro k hk;rw [List.mem_range] at hk;have he := m8 hk;refine ⟨?_, fun _ => ?_⟩
  ·push_cast only [ndD, he]
  ·push_cast only [ndD])
 subst e;rw [p6];push_cast only [and_self];rfl
noncomputable def cG (ns : List Int) : List OD := (ns.map PyData.int).map OD.sh
theorem cF (ns : List Int) : (cG ns).map OD.er = ns.map PyData.int := bK _
theorem i3 (ns : List Int) : (cG ns).length = ns.length := by unfold cG; rw [List.length_map, List.length_map]
theorem tJ : ∀ {a b : List Nat}, a.Pairwise (· < ·) → b.Pairwise (· < ·) → (∀ k, k ∈ a ↔ k ∈ b) → a = b
 | [], [], _, _, _ => rfl
 | [], y :: ys, _, _, h => absurd ((h y).mpr List.mem_cons_self) (by simp)
 | x :: xs, [], _, _, h => absurd ((h x).mp List.mem_cons_self) (by simp)
 | x :: xs, y :: ys, pa, pb, h => by
  obtain ⟨a1, a2⟩ := List.pairwise_cons.mp pa;obtain ⟨b1, b2⟩ := List.pairwise_cons.mp pb;have e : x = y := by
   have h1 := (h x).mp List.mem_cons_self;have h2 := (h y).mpr List.mem_cons_self;rcases List.mem_cons.mp h1 with z | z
   ·exact z
   ·rcases List.mem_cons.mp h2 with z2 | z2
    ·exact z2.symm
    ·have := b1 x z
     have := a1 y z2
     lia
  subst e;rw [tJ a2 b2 fun k => ⟨fun m => ?_, fun m => ?_⟩]
  ·have h1 := (h k).mp (List.mem_cons_of_mem _ m)
   rcases List.mem_cons.mp h1 with z | z
   ·have := a1 k m
    lia
   ·exact z
  ·have h1 := (h k).mpr (List.mem_cons_of_mem _ m)
   rcases List.mem_cons.mp h1 with z | z
   ·have := b1 k m
    lia
   ·exact z
noncomputable def inB (j : Nat) (n : Nd) : Bool := decide ((j : Int) ≤ n.e)
noncomputable def fI (j : Nat) (n : Nd) : Nd := ⟨n.e - j, n.l, n.t⟩
noncomputable def bI (ts : List Nd) (j : Nat) : List Nd := match ts[j]? with
 | some r => ⟨-1, r.l, r.t⟩ :: ((ts.drop (j + 1)).takeWhile (inB j)).map (fI j)
 | none => []
theorem qU {ts : List Nd} (h : ∀ n ∈ ts, g0 n.l) (j : Nat) : ∀ n ∈ bI ts j, g0 n.l := by
 unfold bI;split
 ·rename_i r hr
  intro n hn;rcases List.mem_cons.mp hn with rfl | hn
  ·exact h r (List.mem_of_getElem? hr)
  ·obtain ⟨m, hm, rfl⟩ := List.mem_map.mp hn
   exact h m (List.mem_of_mem_drop ((List.takeWhile_sublist (inB j)).subset hm))
 ·intro n hn
  cases hn
theorem qH {ts : List Nd} {j : Nat} (h : j < ts.length) : 1 ≤ (bI ts j).length ∧ j + (bI ts j).length ≤ ts.length := by
 obtain ⟨r, hr⟩ : ∃ n, ts[j]? = some n := ⟨ts[j]'(by lia), by simp⟩
 unfold bI;rw [hr];have := (List.takeWhile_prefix (inB j) (l := ts.drop (j + 1))).length_le;rw [List.length_drop] at this;simp
 lia
theorem m5 {α : Type} (p : α → Bool) : ∀ (L : List α) (s : Nat), s ≤ L.length → (∀ k, k < s → ∀ x, L[k]? = some x → p x = true) → (∀ x, L[s]? = some x → p x = false) → (L.takeWhile p).length = s
 | [], s, h, _, _ => by simp at h; subst h; rfl
 | a :: L, 0, _, _, h => by
  have := h a rfl;rw [List.takeWhile_cons, this];rfl
 | a :: L, s + 1, h, h1, h2 => by
  have := h1 0 (by lia) a rfl
  rw [List.takeWhile_cons, this, if_pos rfl, List.length_cons, m5 p L s (by simp at h; lia) (fun k hk x hx => h1 (k + 1) (by lia) x hx) (fun x hx => h2 x hx)]
theorem sR {ts : List Nd} {c : F} (p : PT ts c) {j : Nat} (hj : j < ts.length) : ∃ d, PT (bI ts j) d := by
 obtain ⟨r, hr⟩ : ∃ n, ts[j]? = some n := ⟨ts[j]'(by lia), by simp⟩
 obtain ⟨cj, s, q1, q2, q3, q4⟩ := F.pf (e := eOf ts) (F.full c) 0 ts.length (-1) (by rw [p.preF, List.range_eq_range']) p.eldF (by decide) j (by lia) (by lia)
 rw [Nat.zero_add] at q3 q4;have ge := F.o9 cj (j : Int) q2 (fun k m => by rw [q1, List.mem_range'_1] at m; lia)
 have at1 : ∀ k, (ts.drop (j + 1))[k]? = ts[j + 1 + k]? := fun k => List.getElem?_drop
 have hl : ((ts.drop (j + 1)).takeWhile (inB j)).length = s := m5 _ _ s (by rw [List.length_drop]; lia) (fun k hk x hx => by
  rw [at1] at hx;have := ge (j + 1 + k) (by rw [q1, List.mem_range'_1]; lia)
  rw [b_ hx] at this;exact decide_eq_true this) (fun x hx => by
  rw [at1] at hx;have hlt := (List.getElem?_eq_some_iff.mp hx).1;have := q4 hlt;rw [b_ hx] at this;exact decide_eq_false (by lia))
 have hb : bI ts j = ⟨-1, r.l, r.t⟩ :: ((ts.drop (j + 1)).takeWhile (inB j)).map (fI j) := by unfold bI; rw [hr]
 have bl : (bI ts j).length = s + 1 := by rw [hb, List.length_cons, List.length_map, hl]
 have tk : (ts.drop (j + 1)).takeWhile (inB j) = (ts.drop (j + 1)).take s := by
  have := List.takeWhile_prefix (inB j) (l := ts.drop (j + 1));rw [List.prefix_iff_eq_take.mp this, hl]
 have e2 : ∀ k, k < s → eOf (bI ts j) (k + 1) = eOf ts (j + 1 + k) - j := fun k hk => by
  obtain ⟨x, hx⟩ : ∃ n, ts[j + 1 + k]? = some n := ⟨ts[j + 1 + k]'(by lia), by simp⟩
  rw [b_ hx, hb, tk];have : (⟨-1, r.l, r.t⟩ :: ((ts.drop (j + 1)).take s).map (fI j))[k + 1]? = some (fI j x) := by
   rw [List.getElem?_cons_succ, List.getElem?_map, List.getElem?_take_of_lt hk, at1, hx];rfl
  rw [b_ this];rfl
 refine ⟨F.map (· - j) cj, ?_, ?_, ?_⟩
 ·rw [F.je, q1, bl, List.range_eq_range', List.range'_succ]
  congr 1
  apply List.ext_getElem?
  intro i;rw [List.getElem?_map];by_cases hi : i < s
  ·rw [List.getElem?_range' hi, List.getElem?_range' hi]
   simp
   lia
  ·rw [List.getElem?_eq_none (by rw [List.length_range']; lia), List.getElem?_eq_none (by rw [List.length_range']; lia)]
   rfl
 ·rw [hb]
  rfl
 ·have := F.iZ (e := eOf ts) (e' := eOf (bI ts j)) (h := (· - j)) (hi := fun z => z - j) (j : Int) cj (fun k m => by
   rw [q1, List.mem_range'_1] at m;refine ⟨?_, by lia⟩
   have := e2 (k - j - 1) (by lia)
   rw [show k - j - 1 + 1 = k - j by lia, show j + 1 + (k - j - 1) = k by lia] at this
   exact this) q2
  rw [Int.sub_self] at this;exact this
namespace F
theorem nA : ∀ f : F, (roots f).length ≤ (F.pre f).length
 | nil => Nat.le_refl _
 | cons a c r => by
  have := nA r;rw [roots, F.pre, List.length_cons, List.length_cons, List.length_append]
  lia
theorem o4 {e : Nat → Int} : ∀ (f : F) (a m : Nat) (p : Int), F.pre f = List.range' a m → Eld e p f → p < (a : Int) → ∀ k ∈ F.pre f, e k < (k : Int)
 | nil, a, m, p, hp, _, _, j, h1 => by cases h1
 | cons k c r, a, m, p, hp, he, hpa, j, hj => by
  obtain ⟨e1, e2, e3⟩ := he;obtain ⟨m', rfl⟩ : ∃ m', m = m' + 1 := ⟨m - 1, by
   have := congrArg List.length hp;rw [F.pre, List.length_cons, List.length_range'] at this
   lia⟩
  rw [F.pre, List.range'_succ] at hp;obtain ⟨hk, hrest⟩ := List.cons.inj hp;subst hk;have hl := congrArg List.length hrest;rw [List.length_append, List.length_range'] at hl;have hm : m' = (F.pre c).length + (F.pre r).length := by lia
  rw [hm, ← List.range'_append_1] at hrest;obtain ⟨hc, hr⟩ := List.append_inj hrest (by rw [List.length_range'])
  rw [F.pre] at hj;rcases List.mem_cons.mp hj with rfl | hj
  ·lia
  ·rcases List.mem_append.mp hj with hj | hj
   ·exact o4 c (k + 1) _ (k : Int) hc e2 (by lia) j hj
   ·exact o4 r (k + 1 + (F.pre c).length) _ p hr e3 (by lia) j hj
end F
theorem wy {ts : List Nd} {c : F} (p : PT ts c) {k : Nat} (hk : k < ts.length) : eOf ts k < (k : Int) := by
 refine F.o4 (F.full c) 0 ts.length (-1) (by rw [p.preF, List.range_eq_range']) p.eldF (by decide) k ?_
 rw [p.preF, List.mem_range];exact hk
theorem vv {ts : List Nd} {f : F} (hc : F.Con (chN ts) f) (hf : f ≠ F.nil) (hm : ∀ k ∈ F.pre f, k < ts.length) : ∃ g a b, F.roots f = F.roots g ++ [a] ∧ a < ts.length ∧ F.roots g ++ chN ts a = F.roots (F.app g b) ∧ F.Con (chN ts) (F.app g b) ∧ (F.pre f).length = (F.pre (F.app g b)).length + 1 ∧ (∀ k ∈ F.pre (F.app g b), k < ts.length) ∧ ∀ o : List Nat, (o ++ [a]) ++ F.e8 (F.app g b) = o ++ F.e8 f := by
 obtain ⟨g, a, b, rfl⟩ := F.snoc f hf;rw [F.mO] at hc;obtain ⟨h1, h2, h3, _⟩ := hc;refine ⟨g, a, b, by rw [F.ju]; rfl, hm a (by rw [F.pre_app]; simp [F.pre]), by rw [h2, F.ju], (F.mO _ _).mpr ⟨h1, h3⟩, ?_, fun k m => hm k ?_, fun o => ?_⟩
 ·rw [F.pre_app, F.pre_app, List.length_append, List.length_append, F.pre, F.pre, List.append_nil, List.length_cons]
  lia
 ·rw [F.pre_app] at m ⊢
  rcases List.mem_append.mp m with m | m
  ·simp [m]
  ·simp [F.pre, m]
 ·rw [F.kU, F.kU, F.e8, F.e8, List.nil_append]
  simp
theorem qX {f : F} (h : F.roots f = []) : f = F.nil := by
 cases f with
 | nil => rfl
 | cons k c r => cases h
theorem gA {ts : List Nd} {c : F} (p : PT ts c) : EL ts := by
 intro k n hn;have hk := (List.getElem?_eq_some_iff.mp hn).1;have lt := wy p hk;rw [b_ hn] at lt;have rt := p.eldF.1;refine ⟨fun z => ?_, fun z => ?_, lt⟩
 ·subst z
  rw [b_ hn] at rt;exact rt
 ·have pc : F.pre (F.full c) = List.range ts.length := p.preF
  have : F.pre c = List.range' 1 (ts.length - 1) := by
   unfold F.full at pc;rw [F.pre, List.range_eq_range', show ts.length = ts.length - 1 + 1 by lia, List.range'_succ] at pc
   have := (List.cons.inj pc).2;rw [F.pre, List.append_nil] at this;exact this
  have ge := F.o9 c 0 p.eldF.2.1 (fun k m => by rw [this, List.mem_range'_1] at m; lia) k (by rw [this, List.mem_range'_1]; lia)
  rw [b_ hn] at ge;exact ge
noncomputable abbrev Lb (ts : List Nd) : Prop := ∀ n ∈ ts, g0 n.l
theorem w4 {ts : List Nd} {k : Nat} (h : k < ts.length) : ts[k]? = some (fj ts k) := by
 unfold fj;rw [List.getElem?_eq_getElem h];rfl
theorem vC {ts : List Nd} {c : F} (p : PT ts c) (h : Lb ts) : Lb (gY ts c) := by
 intro n hn;unfold gY at hn;obtain ⟨k, hk, rfl⟩ := List.mem_map.mp hn;have hkn := p.mem.mp hk;exact h (fj ts k) (List.mem_of_getElem? (w4 hkn))
noncomputable def gH : Fs := (aC (aQ 3 (eOp dU (eC (.int 256)) (eOp bX (ag 2) (eC (.int 1)))))
 (aC (aQ 4 (eSh (dR (iZp (ag 0) (ag 1)) (gTp 2 (bC (gNm 0) (bC (gNm 1) fP))) e6 (eOp dB (eOp bX (eOp gIx (ag 0) (eC (.int 1))) (ag 2)) (eOp gIx (ag 1) (eC (.int 0)))) 2 [3])))
 (aC (aQ 5 (eB jI (af (ag 4) av)))
 (dE (fu (af (ag 5) (af (uD (ag 4) (ag 5)) av)))))))
noncomputable def dJ : Fn := cI 3 6 gH
noncomputable def dg : Fs := (aC (aQ 2 (eK (af (eC (.int 0)) av)))
 (aC (eM (iR2 (eC (.int 1)) (eB cB (af (ag 0) av))) (gNm 3) (aC (aQ 4 (eSh (nM (dR (iR1 (ag 3)) (gNm 0) e6 (eOp bX (eOp gIx (ag 1) (ag 0)) (eOp gIx (aK dJ (af (eOp gIx (ag 2) (ag 0)) (af (eOp gIx (ag 2) (ag 3)) (af (ag 4) av)))) (eC (.int 0)))) 1 [2, 0, 3, 1]))))
 (gR 2 (eB jI (af (ag 4) av)))))
 (fv 2)))
noncomputable def cD : Fn := cI 2 5 dg
noncomputable def dQ : Fs := (aC (aQ 3 (eB cB (af (ag 0) av)))
 (aC (aQ 4 (eOp dU (eK (af (ag 2) av)) (ag 3)))
 (aC (eM (iR3 (eOp dB (ag 3) (eC (.int 2))) (eUn eQ (eC (.int 1))) (eUn eQ (eC (.int 1)))) (gNm 5) (aC (aQ 6 (eOp gIx (ag 0) (ag 5)))
 (aC (aQ 7 (eSh (nM (dR (iR2 (eOp bX (ag 5) (eC (.int 1))) (ag 3)) (gNm 0) e6 (eOp dB (eOp gIx (ag 1) (ag 0)) (eOp gIx (aK dJ (af (ag 2) (af (eOp gIx (ag 3) (ag 0)) (af (ag 4) av)))) (eC (.int 0)))) 1 [4, 6, 0, 1]))))
 (lz 4 (ag 5) (eB i_ (af (ag 7) av))))))
 (fv 4))))
noncomputable def cY : Fn := cI 3 8 dQ
noncomputable def gP : Fs := (aC (aQ 2 (eSh (aK cD (af (ag 0) (af (ag 1) av)))))
 (dE (fu (af (ag 2) (af (eSh (aK cY (af (ag 0) (af (ag 1) (af (eOp gIx (ag 2) (eUn eQ (eC (.int 1)))) av))))) av)))))
noncomputable def fM : Fn := cI 2 3 gP
noncomputable def bM (os : List (Int × Int)) : List PyData := os.map fun p => .tuple [.int p.1, .int p.2]
noncomputable def ask (gap : Int) (os ps : List (Int × Int)) : List Int := (os.zip ps).map fun z => z.1.2 + 256 * (gap + 1) - z.2.1
theorem oO : ∀ (os ps : List (Int × Int)), jW (bM os) (bM ps) = (os.zip ps).map fun z => .tuple [.tuple [.int z.1.1, .int z.1.2], .tuple [.int z.2.1, .int z.2.2]]
 | [], _ => rfl
 | _ :: _, [] => rfl
 | p :: os, q :: ps => by
  have := oO os ps;unfold bM jW at this ⊢;simp only [List.map_cons, List.zip_cons_cons];rw [this]
theorem pN (os ps : List (Int × Int)) (gap : Int) (ho : 1 ≤ os.length) (hp : 1 ≤ ps.length) (hb : os.length ≤ 100) : ∃ (m : Int) (l : Nat), dJ [.list (bM os), .list (bM ps), .int gap] = .ok (.sh (.tuple [.int m, .int l])) ∧
  (∀ z ∈ ask gap os ps, z ≤ m) ∧ (ask gap os ps)[l]? = some m ∧ ∀ j, j < l → (ask gap os ps)[j]? ≠ some m := by
 unfold dJ gH;push_cast only [and_self];generalize hL : cw _ _ _ _ _ _ = r
 have e := fO hL (fun z : (Int × Int) × (Int × Int) => .tuple [.tuple [.int z.1.1, .int z.1.2], .tuple [.int z.2.1, .int z.2.2]]) (fun z => .sh (.int (z.1.2 + 256 * (gap + 1) - z.2.1))) (os.zip ps) (oO os ps) (by rw [List.length_zip]; exact of_eq_true (bN (by lia))) (by
  intro z _;push_cast only [and_self])
 subst e;have e2 : ((os.zip ps).map fun z : (Int × Int) × (Int × Int) => OD.sh (.int (z.1.2 + 256 * (gap + 1) - z.2.1))).map OD.er = (ask gap os ps).map PyData.int := by
  unfold ask;rw [List.map_map, List.map_map];exact List.map_congr_left fun z _ => e7 _
 obtain ⟨a, as, ha⟩ : ∃ a as, ask gap os ps = a :: as := by
  cases h : ask gap os ps with
  | nil =>
   have := congrArg List.length h;unfold ask at this;rw [List.length_map, List.length_zip, List.length_nil] at this
   lia
  | cons a as => exact ⟨a, as, rfl⟩
 obtain ⟨m1, m2⟩ := gu as a;have hi : lB (PyData.int a :: as.map PyData.int) (.int (iO a as)) = .ok (.sh (.int ((a :: as).idxOf (iO a as) : Nat))) := wj (a :: as) _ m1;refine ⟨iO a as, (a :: as).idxOf (iO a as), ?_, ?_, ?_, ?_⟩
 ·push_cast only [e2, ha, sx, hi]
 ·rw [ha]; exact m2
 ·rw [ha]
  have hj := List.idxOf_lt_length_iff.mpr m1;rw [List.getElem?_eq_getElem hj, List.getElem_idxOf hj]
 ·rw [ha]
  intro j hj e;obtain ⟨h1, h2⟩ := List.getElem?_eq_some_iff.mp e;have := List.not_of_lt_findIdx (p := (· == iO a as)) hj;rw [h2] at this;simp at this
theorem kH {os : List (Int × Int)} {k : Nat} {p : Int × Int} (h : os[k]? = some p) : atI (bM os) (k : Int) = some (.tuple [.int p.1, .int p.2]) := eH (by unfold bM; rw [List.getElem?_map, h]; rfl)
noncomputable abbrev Ol := List (Int × Int)
noncomputable def bZ (O : List Ol) : List PyData := O.map fun os => .list (bM os)
theorem h_ (O : List Ol) : (bZ O).length = O.length := by unfold bZ; rw [List.length_map]
theorem g7 {O : List Ol} {k : Nat} {os : Ol} (h : O[k]? = some os) : atI (bZ O) (k : Int) = some (.list (bM os)) := eH (by unfold bZ; rw [List.getElem?_map, h]; rfl)
noncomputable def okO (O : List Ol) : Prop := (∀ os ∈ O, 1 ≤ os.length ∧ os.length ≤ 100) ∧ 1 ≤ O.length ∧ O.length ≤ 100
noncomputable def dist (gap : Int) (os ps : Ol) : Int := match ask gap os ps with
 | a :: as => iO a as
 | [] => 0
theorem zg {gap : Int} {os ps : Ol} (h1 : 1 ≤ os.length) (h2 : 1 ≤ ps.length) : ∃ a as, ask gap os ps = a :: as := by
 cases h : ask gap os ps with
 | nil =>
  have := congrArg List.length h;unfold ask at this;rw [List.length_map, List.length_zip, List.length_nil] at this
  lia
 | cons a as => exact ⟨a, as, rfl⟩
theorem lH (os ps : Ol) (gap : Int) (ho : 1 ≤ os.length) (hp : 1 ≤ ps.length) (hb : os.length ≤ 100) : ∃ l : Nat, dJ [.list (bM os), .list (bM ps), .int gap] = .ok (.sh (.tuple [.int (dist gap os ps), .int l])) := by
 obtain ⟨m, l, e, h1, h2, _⟩ := pN os ps gap ho hp hb;obtain ⟨a, as, ha⟩ := zg (gap := gap) ho hp;have : dist gap os ps = m := by
  unfold dist;rw [ha] at h1 h2 ⊢;obtain ⟨k1, k2⟩ := gu as a;exact Int.le_antisymm (h1 _ k1) (k2 _ (List.mem_of_getElem? h2))
 rw [this];exact ⟨l, e⟩
noncomputable def j3 : List Int → Int
 | [] => 0
 | a :: as => iO a as
theorem kM {xs : List Int} (h : xs ≠ []) : jI [.list (xs.map PyData.int)] = .ok (.sh (.int (j3 xs))) := by
 cases xs with
 | nil => exact absurd rfl h
 | cons a as => exact sx a as
noncomputable def pR (gap : Int) (O : List Ol) (E : List Int) (k : Nat) : List Int := (List.range k).map fun j => E[j]?.getD 0 + dist gap (O[j]?.getD []) (O[k]?.getD [])
noncomputable def fk (gap : Int) (O : List Ol) : Nat → List Int
 | 0 => [0]
 | k + 1 => fk gap O k ++ [j3 (pR gap O (fk gap O k) (k + 1))]
theorem fR (gap : Int) (O : List Ol) : ∀ k, (fk gap O k).length = k + 1
 | 0 => rfl
 | k + 1 => by rw [fk, List.length_append, fR gap O k]; rfl
theorem lM (ns : List Int) (z : Int) : cG ns ++ [OD.sh (.int z)] = cG (ns ++ [z]) := by unfold cG; rw [List.map_append, List.map_append]; rfl
theorem int_at {ns : List Int} {k : Nat} {z : Int} (h : ns[k]? = some z) : atI (ns.map PyData.int) (k : Int) = some (.int z) := eH (by rw [List.getElem?_map, h]; rfl)
theorem rj (ns : List Int) : (cG ns).all (fun y => flat y.er) = true := by
 unfold cG;rw [List.all_eq_true];intro x hx;obtain ⟨d, hd, rfl⟩ := List.mem_map.mp hx;obtain ⟨n, _, rfl⟩ := List.mem_map.mp hd;rw [e7];rfl
theorem lZ (ns : List Int) : wq (.ol (cG ns)) = .ok (.ol (cG ns)) := by
 show (if (cG ns).all (fun y => flat y.er) = true then R.ok (OD.ol ((cG ns).map fun y => .sh y.er)) else .bad) = _
 rw [rj, if_pos rfl];congr 2
 unfold cG;rw [List.map_map];exact List.map_congr_left fun x _ => by show OD.sh (OD.sh x).er = _; rw [e7]
theorem ug {gap : Int} {O : List Ol} {E : List Int} {k j : Nat} {z : Int} {os ps : Ol} (hj : E[j]? = some z) (h1 : O[j]? = some os) (h2 : O[k]? = some ps) : E[j]?.getD 0 + dist gap (O[j]?.getD []) (O[k]?.getD []) = z + dist gap os ps := by rw [hj, h1, h2]; rfl
theorem qE {gap : Int} {O : List Ol} {E : List Int} {k : Nat} (h : 0 < k) : pR gap O E k ≠ [] := by
 intro z;have := congrArg List.length z;unfold pR at this;simp at this
 lia
theorem pD {α : Type} (L : List α) (f : α → Int) : (L.map fun x => OD.sh (.int (f x))) = cG (L.map f) := by
 unfold cG;rw [List.map_map, List.map_map];rfl
theorem oG (O : List Ol) (gap : Int) (hO : okO O) : cD [.list (bZ O), .int gap] = .ok (.ol (cG (fk gap O (O.length - 1)))) := by
 unfold cD dg;obtain ⟨ho, hl0, hl1⟩ := hO;have s1 : aH 1 = true := fW (by decide) (by decide)
 have s2 : aH (O.length : Int) = true := fW (by lia) (by lia)
 push_cast only [h_, s1, s2, Bool.and_self];generalize hL : b6 _ _ _ _ = r'
 refine dc hL (fun i ρ => ∃ v3 v4 : Option OD, ρ = [some (.sh (.list (bZ O))), some (.sh (.int gap)), some (.ol (cG (fk gap O i))), v3, v4]) ⟨_, _, rfl⟩ ?_ ?_
 ·rintro i d ρ hd ⟨v3, v4, rfl⟩
  obtain ⟨hi, rfl⟩ := dW hd;have ei : (1 : Int) + (i : Int) = ((i + 1 : Nat) : Int) := by lia
  rw [ei];have s3 : aH ((i + 1 : Nat) : Int) = true := fW (by lia) (by lia)
  push_cast only [cF, s3];generalize hC : cw _ _ _ _ _ _ = rc
  have e := fO hC (fun k : Nat => PyData.int (0 + (k : Int))) (fun j => .sh (.int ((fk gap O i)[j]?.getD 0 + dist gap (O[j]?.getD []) (O[i + 1]?.getD [])))) (List.range (i + 1)) (by rw [Int.toNat_natCast]; rfl) (by rw [List.length_range]; exact of_eq_true (bN (by lia))) (by
   intro k hk;rw [List.mem_range] at hk;obtain ⟨z, hz⟩ : ∃ z, (fk gap O i)[k]? = some z := ⟨(fk gap O i)[k]'(by rw [fR]; exact hk), by simp⟩
   obtain ⟨os, h1⟩ : ∃ p, O[k]? = some p := ⟨O[k]'(by lia), by simp⟩
   obtain ⟨ps, h2⟩ : ∃ p, O[i + 1]? = some p := ⟨O[i + 1]'(by lia), by simp⟩
   obtain ⟨l, hn⟩ := lH os ps gap (ho os (List.mem_of_getElem? h1)).1 (ho ps (List.mem_of_getElem? h2)).1 (by have := (ho os (List.mem_of_getElem? h1)).2; lia)
   have g1 := int_at hz;have g2 := g7 h1;have g3 := g7 h2;rw [Int.zero_add, ug hz h1 h2];push_cast only [g1, g2, g3, hn])
  subst e;rw [pD];have hg := kM (qE (gap := gap) (O := O) (E := fk gap O i) (k := i + 1) (by lia))
  have ea : (List.range (i + 1)).map (fun j => (fk gap O i)[j]?.getD 0 + dist gap (O[j]?.getD []) (O[i + 1]?.getD [])) = pR gap O (fk gap O i) (i + 1) := rfl
  rw [ea];have lb : ((cG (fk gap O i)).length < BIG) = True := by rw [i3, fR]; exact ft (by lia)
  push_cast only [lZ, cF, hg, lb, lM];exact ⟨_, _, rfl⟩
 ·rintro ρ' rfl ⟨v3, v4, rfl⟩
  rw [eI];push_cast only [and_self];rw [show ((O.length : Int) - 1).toNat = O.length - 1 by lia]
theorem oJ (ns : List Int) (j : Nat) (z : Int) : (cG ns).set j (.sh (.int z)) = cG (ns.set j z) := by
 unfold cG;rw [List.map_map, List.map_map, List.map_set];rfl
noncomputable def gv (ls : List Int) (k : Nat) : Int := ls[k]?.getD 0
noncomputable def dO (gap : Int) (O : List Ol) (i j : Nat) : Int := dist gap (O[i]?.getD []) (O[j]?.getD [])
theorem jw {xs : List Int} (h : xs ≠ []) : j3 xs ∈ xs ∧ ∀ z ∈ xs, z ≤ j3 xs := by
 cases xs with
 | nil => exact absurd rfl h
 | cons a as => exact gu as a
theorem uA {xs : List Int} (h : xs ≠ []) : ∃ m, i_ [.list (xs.map PyData.int)] = .ok (.sh (.int m)) ∧ m ∈ xs ∧ ∀ z ∈ xs, m ≤ z := by
 cases xs with
 | nil => exact absurd rfl h
 | cons a as => exact ⟨_, tL a as, ig as a⟩
theorem nQ (gap : Int) (O : List Ol) (m : Nat) : ∀ c j, j ≤ m → (fk gap O (m + c))[j]? = (fk gap O m)[j]?
 | 0, _, _ => rfl
 | c + 1, j, h => by
  rw [← nQ gap O m c j h, ← Nat.add_assoc];show (fk gap O (m + c) ++ _)[j]? = _
  rw [List.getElem?_append_left (by rw [fR]; lia)]
theorem tF (gap : Int) (O : List Ol) (n : Nat) (hn : 0 < n) : IsE n (dO gap O) (gv (fk gap O (n - 1))) := by
 have pre : ∀ m j, j ≤ m → m < n → gv (fk gap O (n - 1)) j = gv (fk gap O m) j := fun m j h h2 => by
  unfold gv;have := nQ gap O m (n - 1 - m) j h;rw [show m + (n - 1 - m) = n - 1 by lia] at this
  rw [this]
 refine ⟨?_, fun k h0 hk => ?_⟩
 ·rw [pre 0 0 (Nat.le_refl _) hn]
  rfl
 ·obtain ⟨m, rfl⟩ : ∃ m, k = m + 1 := ⟨k - 1, by lia⟩
  have ev : gv (fk gap O (n - 1)) (m + 1) = j3 (pR gap O (fk gap O m) (m + 1)) := by
   rw [pre (m + 1) (m + 1) (Nat.le_refl _) hk];unfold gv;show (fk gap O m ++ _)[m + 1]?.getD 0 = _
   rw [List.getElem?_append_right (by rw [fR]; lia), fR, Nat.sub_self]
   rfl
  obtain ⟨s1, s2⟩ := jw (qE (gap := gap) (O := O) (E := fk gap O m) (k := m + 1) (by lia))
  rw [ev];refine ⟨fun j hj => ?_, ?_⟩
  ·refine s2 _ ?_
   unfold pR;rw [List.mem_map];exact ⟨j, List.mem_range.mpr hj, by rw [pre m j (by lia) (by lia)]; rfl⟩
  ·unfold pR at s1
   rw [List.mem_map] at s1;obtain ⟨j, hj, e⟩ := s1;rw [List.mem_range] at hj;refine ⟨j, hj, ?_⟩;rw [pre m j (by lia) (by lia)]
   exact e.symm
noncomputable def LI (n : Nat) (d : Nat → Nat → Int) (last : Int) (m : Nat) (ls : List Int) : Prop := ls.length = n ∧ gv ls (n - 1) = last ∧ ∀ k, m ≤ k → k + 1 < n → (∀ j, k < j → j < n → gv ls k ≤ gv ls j - d k j) ∧ ∃ j, k < j ∧ j < n ∧ gv ls k = gv ls j - d k j
theorem yf {ls : List Int} {m : Nat} {v : Int} (h : m < ls.length) (k : Nat) : gv (ls.set m v) k = if k = m then v else gv ls k := by
 unfold gv;by_cases hk : k = m
 ·subst hk
  rw [if_pos rfl, List.getElem?_set_self h];rfl
 ·rw [if_neg hk, List.getElem?_set_ne (fun z => hk z.symm)]
theorem vM {n : Nat} {d : Nat → Nat → Int} {last : Int} {m : Nat} {ls : List Int} {v : Int} (h : LI n d last (m + 1) ls) (hm : m + 1 < n) (h1 : v ∈ (List.range (n - (m + 1))).map fun k => gv ls (m + 1 + k) - d m (m + 1 + k)) (h2 : ∀ z ∈ (List.range (n - (m + 1))).map fun k => gv ls (m + 1 + k) - d m (m + 1 + k), v ≤ z) : LI n d last m (ls.set m v) := by
 obtain ⟨a, b, c⟩ := h;have sv := yf (v := v) (show m < ls.length by lia)
 refine ⟨by rw [List.length_set]; exact a, ?_, fun k hk hk2 => ?_⟩
 ·rw [sv, if_neg (by lia)]
  exact b
 ·by_cases e : k = m
  ·subst e
   refine ⟨fun j j1 j2 => ?_, ?_⟩
   ·rw [sv, sv, if_pos rfl, if_neg (by lia)]
    refine h2 _ ?_;rw [List.mem_map];exact ⟨j - (k + 1), List.mem_range.mpr (by lia), by rw [show k + 1 + (j - (k + 1)) = j by lia]⟩
   ·rw [List.mem_map] at h1
    obtain ⟨q, hq, e⟩ := h1;rw [List.mem_range] at hq;refine ⟨k + 1 + q, by lia, by lia, ?_⟩
    rw [sv, sv, if_pos rfl, if_neg (by lia)]
    exact e.symm
  ·obtain ⟨c1, j, c2, c3, c4⟩ := c k (by lia) hk2
   refine ⟨fun j j1 j2 => ?_, j, c2, c3, ?_⟩
   ·rw [sv, sv, if_neg e, if_neg (by lia)]
    exact c1 j j1 j2
   ·rw [sv, sv, if_neg e, if_neg (by lia)]
    exact c4
theorem qY (O : List Ol) (gap last : Int) (hO : okO O) : ∃ ls : List Int, LI O.length (dO gap O) last 0 ls ∧ cY [.list (bZ O), .int gap, .int last] = .ok (.ol (cG ls)) := by
 unfold cY dQ;obtain ⟨ho, hl0, hl1⟩ := hO;have rp : dU (.list [.int last]) (.int (O.length : Int)) = .ok (.ol (cG (List.replicate O.length last))) := by
  rw [pV _ _ (by lia)]
  unfold cG;simp only [List.map_replicate]
 have r3 := fun (ρ : L3.Env) (h1 : (eOp dB (ag 3) (eC (.int 2))) ρ = .ok (.sh (.int ((O.length : Int) - 2)))) => B9 (fa := eOp dB (ag 3) (eC (.int 2))) (fb := eUn eQ (eC (.int 1))) (fc := eUn eQ (eC (.int 1))) (ρ := ρ) (x := (O.length : Int) - 2) (y := -1) (z := -1) h1 rfl rfl rfl (fW (by lia) (by lia)) (fW (by decide) (by decide))
 push_cast only [h_, rp];rw [r3 _ rfl];push_cast only [and_self];generalize hL : b6 _ _ _ _ = r'
 have st : LI O.length (dO gap O) last (O.length - 1 - 0) (List.replicate O.length last) := by
  refine ⟨by simp, ?_, fun k h1 h2 => by lia⟩
  unfold gv;rw [List.getElem?_replicate, if_pos (by lia)]
  rfl
 refine dc hL (fun i ρ => ∃ (ls : List Int) (v5 v6 v7 : Option OD), LI O.length (dO gap O) last (O.length - 1 - i) ls ∧ ρ = [some (.sh (.list (bZ O))), some (.sh (.int gap)), some (.sh (.int last)), some (.sh (.int O.length)), some (.ol (cG ls)), v5, v6, v7]) ⟨List.replicate O.length last, _, _, _, st, rfl⟩ ?_ ?_
 ·rintro i d ρ hd ⟨ls, v5, v6, v7, hli, rfl⟩
  have hls := hli.1;obtain ⟨hi, rfl⟩ := ox hd;obtain ⟨m, hm⟩ : ∃ m : Nat, (O.length : Int) - 2 - (i : Int) = (m : Int) := ⟨((O.length : Int) - 2 - (i : Int)).toNat, by lia⟩
  have hm2 : m + 1 < O.length := by lia
  rw [hm];obtain ⟨os, h1⟩ : ∃ p, O[m]? = some p := ⟨O[m]'(by lia), by simp⟩
  have g1 := g7 h1;have em : (m : Int) + 1 = ((m + 1 : Nat) : Int) := by lia
  have s3 : aH ((m + 1 : Nat) : Int) = true := fW (by lia) (by lia)
  have s4 : aH (O.length : Int) = true := fW (by lia) (by lia)
  push_cast only [g1, em, s3, s4, Bool.and_self, cF];generalize hC : cw _ _ _ _ _ _ = rc
  have hcnt : ((O.length : Int) - ((m + 1 : Nat) : Int)).toNat = O.length - (m + 1) := by lia
  have e := fO hC (fun k : Nat => PyData.int (((m + 1 : Nat) : Int) + (k : Int))) (fun k => .sh (.int (gv ls (m + 1 + k) - dO gap O m (m + 1 + k)))) (List.range (O.length - (m + 1))) (by rw [hcnt]; rfl) (by rw [List.length_range]; exact of_eq_true (bN (by lia))) (by
   intro k hk;rw [List.mem_range] at hk;have ek : ((m + 1 : Nat) : Int) + (k : Int) = ((m + 1 + k : Nat) : Int) := by lia
   rw [ek];obtain ⟨z, hz⟩ : ∃ z, ls[m + 1 + k]? = some z := ⟨ls[m + 1 + k]'(by lia), by simp⟩
   obtain ⟨ps, h2⟩ : ∃ p, O[m + 1 + k]? = some p := ⟨O[m + 1 + k]'(by lia), by simp⟩
   obtain ⟨l, hn⟩ := lH os ps gap (ho os (List.mem_of_getElem? h1)).1 (ho ps (List.mem_of_getElem? h2)).1 (by have := (ho os (List.mem_of_getElem? h1)).2; lia)
   have g1 := int_at hz;have g3 := g7 h2;have q1 : gv ls (m + 1 + k) = z := by unfold gv; rw [hz]; rfl
   have q2 : dO gap O m (m + 1 + k) = dist gap os ps := by unfold dO; rw [h1, h2]; rfl
   rw [q1, q2];push_cast only [g1, g3, hn])
  subst e;rw [pD];obtain ⟨mn, hmn, hmem, hle⟩ := uA (xs := (List.range (O.length - (m + 1))).map fun k => gv ls (m + 1 + k) - dO gap O m (m + 1 + k)) (by
   intro z;have := congrArg List.length z;simp at this
   lia)
  have ix : ixN (cG ls).length (m : Int) = some m := ij (by rw [i3]; lia)
  have nx := vM (by rw [show m + 1 = O.length - 1 - i by lia]; exact hli) hm2 hmem hle
  rw [show m = O.length - 1 - (i + 1) by lia] at nx
  push_cast only [lZ, cF, hmn, qv ix, oJ];rw [show m = O.length - 1 - (i + 1) by lia]
  exact ⟨_, _, _, _, nx, rfl⟩
 ·rintro ρ' rfl ⟨ls, v5, v6, v7, hli, rfl⟩
  push_cast only [and_self];refine ⟨ls, ?_, rfl⟩;have : O.length - 1 - (kP ((O.length : Int) - 2) ((O.length : Int) - 2 - -1).toNat).length = 0 := by
   unfold kP;rw [List.length_map, List.length_range]
   lia
  rw [this] at hli;exact hli
theorem nq {ls : List Int} {k : Nat} (h : k < ls.length) : ls[k]? = some (gv ls k) := by
 unfold gv;rw [List.getElem?_eq_getElem h];rfl
theorem p9 {ls : List Int} {n : Nat} (h : ls.length = n) (hn : 0 < n) : atI (ls.map PyData.int) (-1) = some (.int (gv ls (n - 1))) := by
 have hne : ls ≠ [] := fun z => by rw [z] at h; simp at h; lia
 have e : gv ls (n - 1) = ls.getLast hne := by
  have h1 := nq (ls := ls) (k := n - 1) (by lia)
  rw [List.getLast_eq_getElem];rw [List.getElem?_eq_getElem (by lia)] at h1
  have h2 := Option.some.inj h1;rw [← h2];congr 1
  lia
 rw [e]
 conv => lhs; rw [← List.dropLast_concat_getLast hne, List.map_append]
 exact nU _ _
theorem wd (O : List Ol) (gap : Int) (hO : okO O) : ∃ es ls : List Int, es.length = O.length ∧ ls.length = O.length ∧ IsE O.length (dO gap O) (gv es) ∧ IsL O.length (dO gap O) (gv es (O.length - 1)) (gv ls) ∧ fM [.list (bZ O), .int gap] = .ok (.sh (.tuple [.list (es.map PyData.int), .list (ls.map PyData.int)])) := by
 have h1 := hO.2.1;have le : (fk gap O (O.length - 1)).length = O.length := by rw [fR]; lia
 have hz := p9 le (by lia)
 obtain ⟨ls, hl, e⟩ := qY O gap (gv (fk gap O (O.length - 1)) (O.length - 1)) hO;refine ⟨_, ls, le, hl.1, tF gap O O.length (by lia), ⟨hl.2.1, fun k hk => hl.2.2 k (Nat.zero_le _) hk⟩, ?_⟩
 unfold fM gP;push_cast only [oG O gap hO, cF, hz, e]
noncomputable def du : Fs := (aC (aQ 2 (eK av))
 (aC (eM (iR1 (eB jI (af (dR (gB (ag 0)) (gNm 0) e6 (eB cB (af (ag 0) av)) 1 []) av))) (gNm 3) (aC (aQ 4 (eSh (dR (iEn (ag 0)) (gTp 2 (bC (gNm 0) (bC (gNm 1) fP))) (ba (eOp gLt (ag 2) (eB cB (af (ag 1) av)))) (ag 0) 2 [3])))
 (aC (aQ 5 (eB i_ (af (dR (gB (ag 4)) (gNm 0) e6 (eOp bX (eOp gIx (ag 1) (ag 0)) (eOp gIx (eOp gIx (eOp gIx (ag 2) (ag 0)) (ag 3)) (eC (.int 0)))) 1 [1, 0, 3]) av)))
 (aC (aQ 6 (eB jI (af (dR (gB (ag 4)) (gNm 0) e6 (eOp bX (eOp gIx (ag 1) (ag 0)) (eOp gIx (eOp gIx (eOp gIx (ag 2) (ag 0)) (ag 3)) (eC (.int 1)))) 1 [1, 0, 3]) av)))
 (gR 2 (fu (af (ag 5) (af (ag 6) av))))))))
 (fv 2)))
noncomputable def a7 : Fn := cI 2 7 du
noncomputable def d7 : Fs := (aC (aQ 2 (eSh (aK fM (af (ag 0) (af (ag 1) av)))))
 (aC (aQ 3 (eOp eN (eOp gIx (eOp gIx (ag 2) (eC (.int 0))) (eUn eQ (eC (.int 1)))) (eC (.int 2))))
 (dE (dR (iZp (eOp gIx (ag 2) (eC (.int 0))) (eOp gIx (ag 2) (eC (.int 1)))) (gTp 2 (bC (gNm 0) (bC (gNm 1) fP))) e6 (eOp dB (eOp eN (eOp bX (ag 0) (ag 1)) (eC (.int 2))) (ag 2)) 2 [3]))))
noncomputable def aT : Fn := cI 2 4 d7
noncomputable def ic : Fs := (aC (aQ 2 (eOp dU (eK (af (eC (.int 0)) av)) (eB cB (af (ag 0) av))))
 (aC (aQ 3 (dR (gB (aK cS (af (ag 0) av))) (gNm 0) e6 (eK (af (eSh (fu (af (eOp dU (eUn eQ (eC (.int 256))) (ag 0)) (af (eOp dU (eC (.int 256)) (ag 0)) av)))) av)) 1 []))
 (aC (eM (iR3 (eOp dB (eB cB (af (ag 0) av)) (eC (.int 1))) (eUn eQ (eC (.int 1))) (eUn eQ (eC (.int 1)))) (gNm 4) (aC (aQ 5 (eSh (aK bT (af (ag 0) (af (ag 4) av)))))
 (sIf (ba (eOp gGt (eB cB (af (ag 5) av)) (eC (.int 0)))) (aC (jR 3 5 (aQ 6 (eSh (nT 3 5))))
 (aC (aQ 7 (eSh (aK aT (af (ag 6) (af (ag 1) av)))))
 (aC (eM (iZp (ag 5) (ag 7)) (gTp 2 (bC (gNm 8) (bC (gNm 9) fP))) (lz 2 (ag 8) (ag 9)))
 (g6 3 (ag 4) (aK a7 (af (ag 6) (af (ag 7) av))))))) sNx)))
 (jx 3 (jx 2 (dE (fu (af (ag 2) (af (ag 3) av)))))))))
noncomputable def eP : Fn := cI 2 10 ic
noncomputable def dN : Fs := (aC (aQ 3 (eB i_ (af (dR (iZp (ag 1) (aK cS (af (ag 0) av))) (gTp 2 (bC (gNm 0) (bC (gNm 1) fP))) e6 (eOp dB (ag 0) (eOp dU (ag 2) (ag 1))) 2 [2]) av)))
 (dE (dR (gB (ag 1)) (gNm 0) e6 (eOp dB (ag 0) (ag 1)) 1 [3])))
noncomputable def c7 : Fn := cI 3 4 dN
noncomputable def iR : Fs := (aC (aQ 2 (eOp gIx (aK eP (af (ag 0) (af (ag 1) av))) (eC (.int 0))))
 (aC (aQ 3 (eK (af (eC (.int 0)) av)))
 (aC (eM (iR2 (eC (.int 1)) (eB cB (af (ag 0) av))) (gNm 4) (gR 3 (pC (eOp bX (eOp gIx (ag 3) (eOp gIx (eOp gIx (ag 0) (ag 4)) (eC (.int 0)))) (eOp gIx (ag 2) (ag 4))))))
 (jx 3 (dE (aK c7 (af (ag 0) (af (ag 3) (af (eC (.int 256)) av)))))))))
noncomputable def hR : Fn := cI 2 5 iR
noncomputable def n9 : List Int → Int
 | [] => 0
 | a :: as => mK a as
theorem oF {xs : List Int} (h : xs ≠ []) : i_ [.list (xs.map PyData.int)] = .ok (.sh (.int (n9 xs))) := by
 cases xs with
 | nil => exact absurd rfl h
 | cons a as => exact tL a as
theorem qL {xs : List Int} (h : xs ≠ []) : n9 xs ∈ xs ∧ ∀ z ∈ xs, n9 xs ≤ z := by
 cases xs with
 | nil => exact absurd rfl h
 | cons a as => exact ig as a
noncomputable def oA (O : List Ol) (j l : Nat) : Int × Int := ((O[j]?.getD [])[l]?).getD (0, 0)
noncomputable def ir (O : List Ol) (j : Nat) : Nat := (O[j]?.getD []).length
noncomputable def there (O : List Ol) (l : Nat) : List Nat := (List.range O.length).filter fun j => decide (l < ir O j)
noncomputable def jl (O : List Ol) (st : List Int) (l : Nat) : Int × Int := (n9 ((there O l).map fun j => gv st j + (oA O j l).1), j3 ((there O l).map fun j => gv st j + (oA O j l).2))
noncomputable def mxN (O : List Ol) : Nat := (j3 (O.map fun o => (o.length : Int))).toNat
noncomputable def jo (O : List Ol) (st : List Int) : Ol := (List.range (mxN O)).map (jl O st)
theorem dY (os : Ol) : (bM os).length = os.length := by unfold bM; rw [List.length_map]
theorem mY {O : List Ol} (h : O ≠ []) : j3 (O.map fun o => (o.length : Int)) = (mxN O : Int) ∧ (∃ j, j < O.length ∧ ir O j = mxN O) ∧ ∀ j, j < O.length → ir O j ≤ mxN O := by
 obtain ⟨s1, s2⟩ := jw (xs := O.map fun o => (o.length : Int)) (fun z => h (List.map_eq_nil_iff.mp z))
 obtain ⟨o, ho, eo⟩ := List.mem_map.mp s1;have e : j3 (O.map fun o => (o.length : Int)) = (mxN O : Int) := by
  unfold mxN;rw [← eo];rfl
 refine ⟨e, ?_, fun j hj => ?_⟩
 ·obtain ⟨j, hj, ej⟩ := List.getElem_of_mem ho
  refine ⟨j, hj, ?_⟩;unfold ir;rw [List.getElem?_eq_getElem hj, ej];show o.length = _
  have : (o.length : Int) = (mxN O : Int) := by rw [← e]; exact eo
  lia
 ·have := s2 (ir O j : Int) (List.mem_map.mpr ⟨O[j], List.getElem_mem hj, by unfold ir; rw [List.getElem?_eq_getElem hj]; rfl⟩)
  rw [e] at this
  lia
theorem iV {O : List Ol} {l : Nat} (h : O ≠ []) (hl : l < mxN O) : there O l ≠ [] := by
 obtain ⟨_, ⟨j, hj, ej⟩, _⟩ := mY h;intro z;have : j ∈ there O l := List.mem_filter.mpr ⟨List.mem_range.mpr hj, decide_eq_true (by lia)⟩
 rw [z] at this;cases this
theorem rD (O : List Ol) : fK (bZ O) = (List.range O.length).map fun j : Nat => PyData.tuple [.int (j : Int), .list (bM (O[j]?.getD []))] := by
 apply List.ext_getElem?
 intro i;rw [List.getElem?_map];by_cases hi : i < O.length
 ·rw [List.getElem?_range hi]
  unfold fK bZ;rw [List.getElem?_map, List.getElem?_zipIdx, List.getElem?_map, List.getElem?_eq_getElem hi];simp [List.getElem?_eq_getElem hi]
 ·rw [List.getElem?_eq_none (by unfold fK bZ; simp; lia), List.getElem?_eq_none (by rw [List.length_range]; lia)]
  rfl
theorem nJ (O : List Ol) {j : Nat} (h : j < O.length) : atI (bZ O) (j : Int) = some (.list (bM (O[j]?.getD []))) := by
 rw [List.getElem?_eq_getElem h];exact g7 (List.getElem?_eq_getElem h)
theorem pZ (os : Ol) {l : Nat} (h : l < os.length) : atI (bM os) (l : Int) = some (.tuple [.int ((os[l]?).getD (0, 0)).1, .int ((os[l]?).getD (0, 0)).2]) := by
 rw [List.getElem?_eq_getElem h];exact kH (List.getElem?_eq_getElem h)
theorem jE {st : List Int} {j : Nat} (h : j < st.length) : atI (st.map PyData.int) (j : Int) = some (.int (gv st j)) := int_at (nq h)
theorem CZ (L : List Nat) : (L.map fun k : Nat => OD.sh (.int (k : Int))).map OD.er = j7 L := by
 unfold j7;rw [List.map_map];exact List.map_congr_left fun k _ => e7 _
theorem lI (os : Ol) (p : Int × Int) : (bM os).map OD.sh ++ [OD.sh (.tuple [.int p.1, .int p.2])] = (bM (os ++ [p])).map OD.sh := by
 unfold bM;rw [List.map_append, List.map_append];rfl
theorem rm (O : List Ol) (st : List Int) (hO : okO O) (hs : st.length = O.length) : a7 [.list (bZ O), .list (st.map PyData.int)] = .ok (.ol ((bM (jo O st)).map OD.sh)) := by
 unfold a7 du;obtain ⟨ho, hl0, hl1⟩ := hO;have hne : O ≠ [] := fun z => by rw [z] at hl0; simp at hl0
 obtain ⟨mx1, mx2, mx3⟩ := mY hne;have mb : mxN O ≤ 100 := by
  obtain ⟨j, hj, ej⟩ := mx2;have := (ho O[j] (List.getElem_mem hj)).2;unfold ir at ej;rw [List.getElem?_eq_getElem hj] at ej;have ej' : O[j].length = mxN O := ej
  lia
 push_cast only [and_self];generalize hC : cw _ _ _ _ _ _ = rc
 have e := fO hC (fun o : Ol => .list (bM o)) (fun o : Ol => .sh (.int (o.length : Int))) O rfl (of_eq_true (bN (by lia))) (by
  intro o ho;push_cast only [dY])
 subst e;have e2 : (O.map fun o : Ol => OD.sh (.int (o.length : Int))).map OD.er = (O.map fun o : Ol => (o.length : Int)).map PyData.int := by
  rw [List.map_map, List.map_map];exact List.map_congr_left fun o _ => e7 _
 have hg := kM (xs := O.map fun o : Ol => (o.length : Int)) (fun z => hne (List.map_eq_nil_iff.mp z))
 rw [mx1] at hg;have s1 : aH (mxN O : Int) = true := fW (by lia) (by lia)
 push_cast only [e2, hg, s1];generalize hL : b6 _ _ _ _ = r'
 refine dc hL (fun i ρ => ∃ v3 v4 v5 v6 : Option OD, ρ = [some (.sh (.list (bZ O))), some (.sh (.list (st.map PyData.int))), some (.ol ((bM ((List.range i).map (jl O st))).map OD.sh)), v3, v4, v5, v6]) ⟨_, _, _, _, rfl⟩ ?_ ?_
 ·rintro i d ρ hd ⟨v3, v4, v5, v6, rfl⟩
  obtain ⟨hi, rfl⟩ := dW hd;rw [Int.toNat_natCast] at hi;rw [Int.zero_add];have tne := iV hne hi;have tin : ∀ j ∈ there O i, j < O.length ∧ i < ir O j := fun j hj => by
   have := List.mem_filter.mp hj;exact ⟨List.mem_range.mp this.1, of_decide_eq_true this.2⟩
  have tl : (there O i).length ≤ 100 := by
   have := List.length_filter_le (fun j => decide (i < ir O j)) (List.range O.length)
   rw [List.length_range] at this;unfold there
   lia
  push_cast only [and_self];generalize hC : cw _ _ _ _ _ _ = rc
  have e := kj hC (fun j : Nat => PyData.tuple [.int (j : Int), .list (bM (O[j]?.getD []))]) (fun j => decide (i < ir O j)) (fun j : Nat => .sh (.int (j : Int))) (List.range O.length) (rD O) (by rw [List.length_range]; exact of_eq_true (bN (by lia))) (by
   intro j hj;have dj : decide ((i : Int) < ((O[j]?.getD []).length : Int)) = decide (i < ir O j) := by
    unfold ir;by_cases h : i < (O[j]?.getD []).length
    ·rw [decide_eq_true h, decide_eq_true (by lia)]
    ·rw [decide_eq_false h, decide_eq_false (by lia)]
   refine ⟨?_, fun _ => ?_⟩
   ·push_cast only [dY, dj]
   ·push_cast only [and_self])
  subst e;clear hC;have e3 : ((List.range O.length).filter fun j => decide (i < ir O j)) = there O i := rfl
  rw [e3];push_cast only [CZ];generalize hC : cw _ _ _ _ _ _ = rc
  have e := fO hC (fun j : Nat => PyData.int (j : Int)) (fun j => .sh (.int (gv st j + (oA O j i).1))) (there O i) rfl (of_eq_true (bN (by lia))) (by
   intro j hj;obtain ⟨j1, j2⟩ := tin j hj;have g1 := jE (st := st) (j := j) (by lia)
   have g2 := nJ O j1;have g3 := pZ (O[j]?.getD []) (l := i) j2;push_cast only [g1, g2, g3];rfl)
  subst e;clear hC;have hm1 := oF (xs := (there O i).map fun j => gv st j + (oA O j i).1) (fun z => tne (List.map_eq_nil_iff.mp z))
  have hm2 := kM (xs := (there O i).map fun j => gv st j + (oA O j i).2) (fun z => tne (List.map_eq_nil_iff.mp z))
  rw [pD];push_cast only [cF, hm1];generalize hC : cw _ _ _ _ _ _ = rc
  have e := fO hC (fun j : Nat => PyData.int (j : Int)) (fun j => .sh (.int (gv st j + (oA O j i).2))) (there O i) rfl (of_eq_true (bN (by lia))) (by
   intro j hj;obtain ⟨j1, j2⟩ := tin j hj;have g1 := jE (st := st) (j := j) (by lia)
   have g2 := nJ O j1;have g3 := pZ (O[j]?.getD []) (l := i) j2;push_cast only [g1, g2, g3];rfl)
  subst e;clear hC;rw [pD];have lb : ((bM ((List.range i).map (jl O st))).length < BIG) = True := by rw [dY, List.length_map, List.length_range]; exact ft (by lia)
  push_cast only [cF, hm2, lb];have sn := lI ((List.range i).map (jl O st)) (jl O st i);rw [show (List.range i).map (jl O st) ++ [jl O st i] = (List.range (i + 1)).map (jl O st) by rw [List.range_succ, List.map_append]; rfl] at sn
  rw [← sn];exact ⟨_, _, _, _, rfl⟩
 ·rintro ρ' rfl ⟨v3, v4, v5, v6, rfl⟩
  rw [eI, Int.toNat_natCast];push_cast only [and_self];rfl
theorem sH (O : List Ol) (st : List Int) : (jo O st).length = mxN O := by unfold jo; rw [List.length_map, List.length_range]
theorem so {es ls : List Int} {n : Nat} (he : es.length = n) (hl : ls.length = n) : jW (es.map PyData.int) (ls.map PyData.int) = (List.range n).map fun k => PyData.tuple [.int (gv es k), .int (gv ls k)] := by
 apply List.ext_getElem?
 intro i;unfold jW;rw [List.getElem?_map, List.getElem?_map];by_cases hi : i < n
 ·rw [List.getElem?_range hi, (List.getElem?_zip_eq_some (z := (PyData.int (gv es i), PyData.int (gv ls i)))).mpr ⟨by rw [List.getElem?_map, nq (by lia)]; rfl, by rw [List.getElem?_map, nq (by lia)]; rfl⟩]
  rfl
 ·rw [List.getElem?_eq_none (by simp; lia), List.getElem?_eq_none (by simp; lia)]
  rfl
structure IsSt (gap : Int) (O : List Ol) (es ls st : List Int) : Prop where
 le : es.length = O.length
 ll : ls.length = O.length
 lst : st.length = O.length
 isE : IsE O.length (dO gap O) (gv es)
 isL : IsL O.length (dO gap O) (gv es (O.length - 1)) (gv ls)
 eq : ∀ k, k < O.length → gv st k = (gv es k + gv ls k) / 2 - gv es (O.length - 1) / 2
theorem rk (O : List Ol) (gap : Int) (hO : okO O) : ∃ es ls st : List Int, IsSt gap O es ls st ∧ aT [.list (bZ O), .int gap] = .ok (.ol (cG st)) := by
 obtain ⟨es, ls, h1, h2, h3, h4, h5⟩ := wd O gap hO;have hn := hO.2.1;refine ⟨es, ls, (List.range O.length).map fun k => (gv es k + gv ls k) / 2 - gv es (O.length - 1) / 2, ⟨h1, h2, by simp, h3, h4, fun k hk => by
  unfold gv;rw [List.getElem?_map, List.getElem?_range hk];rfl⟩, ?_⟩
 unfold aT d7;have la := p9 h1 (by lia)
 have lb := hO.2.2;push_cast only [h5, cF, la, so h1 h2];generalize hC : cw _ _ _ _ _ _ = rc
 have e := fO hC (fun k : Nat => PyData.tuple [.int (gv es k), .int (gv ls k)]) (fun k => .sh (.int ((gv es k + gv ls k) / 2 - gv es (O.length - 1) / 2))) (List.range O.length) rfl (by rw [List.length_range]; exact of_eq_true (bN (by lia))) (by
  intro k hk;push_cast only [and_self])
 subst e;rw [pD];push_cast only [and_self]
open Classical in
noncomputable def stF (gap : Int) (O : List Ol) : List Int := if h : ∃ st : List Int, aT [.list (bZ O), .int gap] = .ok (.ol (cG st)) then choose h else []
theorem tW {a b : List Int} (h : cG a = cG b) : a = b := by
 have := congrArg (List.map OD.er) h;rw [cF, cF] at this;have inj : ∀ x y : List Int, x.map PyData.int = y.map PyData.int → x = y := by
  intro x
  induction x with
  | nil => intro y hy; cases y with | nil => rfl | cons b y => simp at hy
  | cons a x ih =>
   intro y hy;cases y with
   | nil => simp at hy
   | cons b y =>
    simp at hy
    rw [hy.1, ih y (by simpa using hy.2)]
 exact inj a b this
theorem t6 {O : List Ol} {gap : Int} (hO : okO O) : (∃ es ls, IsSt gap O es ls (stF gap O)) ∧ aT [.list (bZ O), .int gap] = .ok (.ol (cG (stF gap O))) := by
 obtain ⟨es, ls, st, h1, h2⟩ := rk O gap hO;have hex : ∃ st : List Int, aT [.list (bZ O), .int gap] = .ok (.ol (cG st)) := ⟨st, h2⟩;have hs : aT [.list (bZ O), .int gap] = .ok (.ol (cG (stF gap O))) := by
  unfold stF;rw [dif_pos hex];exact Classical.choose_spec hex
 have : stF gap O = st := by
  rw [h2] at hs;exact (tW (OD.ol.inj (R.ok.inj hs))).symm
 exact ⟨⟨es, ls, by rw [this]; exact h1⟩, hs⟩
noncomputable def ini (ts : List Nd) (k : Nat) : Ol := [(-256 * gv (bh ts) k, 256 * gv (bh ts) k)]
noncomputable def gj (out : List Ol) (k : Nat) : Ol := (out[k]?).getD []
noncomputable def bb (ts : List Nd) (out : List Ol) (k : Nat) : List Ol := (chN ts k).map (gj out)
noncomputable def joB (ts : List Nd) (gap : Int) (out : List Ol) (k : Nat) : Ol := jo (bb ts out k) (stF gap (bb ts out k))
noncomputable def nL (ts : List Nd) (gap : Int) (k : Nat) (out : List Ol) : List Ol := if chN ts k = [] then out else out.set k (gj out k ++ joB ts gap out k)
noncomputable def cV : List Int → List Nat → List Int → List Int
 | o, c :: cs, s :: ss => cV (o.set c s) cs ss
 | o, _, _ => o
noncomputable def n8 (ts : List Nd) (gap : Int) (k : Nat) (out : List Ol) (off : List Int) : List Int := if chN ts k = [] then off else cV off (chN ts k) (stF gap (bb ts out k))
noncomputable def PO (ts : List Nd) (gap : Int) : Nat → List Ol × List Int
 | 0 => ((List.range ts.length).map (ini ts), List.replicate ts.length 0)
 | m + 1 => (nL ts gap (ts.length - 1 - m) (PO ts gap m).1, n8 ts gap (ts.length - 1 - m) (PO ts gap m).1 (PO ts gap m).2)
theorem jT : ∀ (o : List Int) (cs : List Nat) (ss : List Int) (c : Nat) (s : Int), cs.length = ss.length → cV o (cs ++ [c]) (ss ++ [s]) = (cV o cs ss).set c s
 | o, [], [], c, s, _ => rfl
 | o, [], s' :: ss, c, s, h => by simp at h
 | o, c' :: cs, [], c, s, h => by simp at h
 | o, c' :: cs, s' :: ss, c, s, h => by
  rw [List.cons_append, List.cons_append, cV, cV, jT _ cs ss c s (by simpa using h)]
theorem iK : ∀ (o : List Int) (cs : List Nat) (ss : List Int), (cV o cs ss).length = o.length
 | o, [], ss => by rw [cV]; intro c cs s ss h; cases h
 | o, c :: cs, [] => by rw [cV]; intro c cs s ss _ h; cases h
 | o, c :: cs, s :: ss => by rw [cV, iK _ cs ss, List.length_set]
theorem gG : ∀ (o : List Int) (cs : List Nat) (ss : List Int) (x : Nat), x ∉ cs → gv (cV o cs ss) x = gv o x
 | o, [], ss, x, _ => by rw [cV]; intro c cs s ss h; cases h
 | o, c :: cs, [], x, _ => by rw [cV]; intro c cs s ss _ h; cases h
 | o, c :: cs, s :: ss, x, h => by
  rw [cV, gG _ cs ss x (fun z => h (List.mem_cons_of_mem _ z))]
  unfold gv;rw [List.getElem?_set_ne (fun z => h (by rw [z]; exact List.mem_cons_self))]
theorem lQ : ∀ (o : List Int) (cs : List Nat) (ss : List Int) (i : Nat) (x : Nat), cs.Nodup → (∀ c ∈ cs, c < o.length) → cs.length = ss.length → cs[i]? = some x → gv (cV o cs ss) x = gv ss i
 | o, [], ss, i, x, _, _, _, h => by simp at h
 | o, c :: cs, [], i, x, _, _, h, _ => by simp at h
 | o, c :: cs, s :: ss, i, x, nd, hb, hl, h => by
  obtain ⟨n1, n2⟩ := List.nodup_cons.mp nd;rw [cV];cases i with
  | zero =>
   have hx : c = x := by simpa using h
   subst hx;rw [gG _ cs ss c n1];unfold gv;rw [List.getElem?_set_self (hb c List.mem_cons_self)];rfl
  | succ i =>
   rw [lQ _ cs ss i x n2 (fun d hd => by rw [List.length_set]; exact hb d (List.mem_cons_of_mem _ hd)) (by simpa using hl) (by simpa using h)]
   rfl
theorem fS {ts : List Nd} {k j : Nat} : j ∈ chN ts k ↔ j < ts.length ∧ eOf ts j = (k : Int) := by
 unfold chN;rw [List.mem_filter, List.mem_range, decide_eq_true_eq]
theorem e_ {ts : List Nd} (he : EL ts) {k j : Nat} (h : j ∈ chN ts k) : k < j ∧ j < ts.length := by
 obtain ⟨h1, h2⟩ := fS.mp h;obtain ⟨n, hn⟩ : ∃ n, ts[j]? = some n := ⟨ts[j], by simp [h1]⟩
 have := (he j n hn).2.2;rw [b_ hn] at h2;exact ⟨by lia, h1⟩
theorem sj (ts : List Nd) (k : Nat) : (chN ts k).Nodup := List.Pairwise.imp (fun h => Nat.ne_of_lt h) (show (chN ts k).Pairwise (· < ·) by unfold chN; exact List.Pairwise.filter _ List.pairwise_lt_range)
theorem wO (ts : List Nd) (k : Nat) : (chN ts k).Pairwise (· < ·) := by unfold chN; exact List.Pairwise.filter _ List.pairwise_lt_range
theorem sT (ts : List Nd) (k : Nat) : (chN ts k).length ≤ ts.length := by
 unfold chN;have := List.length_filter_le (fun j => decide (eOf ts j = (k : Int))) (List.range ts.length)
 rw [List.length_range] at this;exact this
theorem nC {out : List Ol} {k j : Nat} {o : Ol} (h : k ≠ j) : gj (out.set k o) j = gj out j := by unfold gj; rw [List.getElem?_set_ne h]
theorem rQ {out : List Ol} {k : Nat} {o : Ol} (h : k < out.length) : gj (out.set k o) k = o := by unfold gj; rw [List.getElem?_set_self h]; rfl
theorem rC {ts : List Nd} (he : EL ts) {out : List Ol} {k q : Nat} {o : Ol} (h : k ≤ q) : bb ts (out.set k o) q = bb ts out q := by
 unfold bb;exact List.map_congr_left fun j hj => nC (by have := (e_ he hj).1; lia)
structure PI (ts : List Nd) (gap : Int) (m : Nat) : Prop where
 l1 : (PO ts gap m).1.length = ts.length
 l2 : (PO ts gap m).2.length = ts.length
 lo : ∀ k, k < ts.length - m → gj (PO ts gap m).1 k = ini ts k
 hi : ∀ k, ts.length - m ≤ k → k < ts.length → gj (PO ts gap m).1 k = ini ts k ++ (if chN ts k = [] then [] else joB ts gap (PO ts gap m).1 k)
 ln : ∀ k, k < ts.length → 1 ≤ (gj (PO ts gap m).1 k).length ∧ (gj (PO ts gap m).1 k).length ≤ ts.length - k
 of : ∀ k, ts.length - m ≤ k → k < ts.length → ∀ i j, (chN ts k)[i]? = some j → gv (PO ts gap m).2 j = gv (stF gap (bb ts (PO ts gap m).1 k)) i
 z : gv (PO ts gap m).2 0 = 0
theorem kF {ts : List Nd} {gap : Int} {m k : Nat} (he : EL ts) (hl : ts.length ≤ 100) (h : PI ts gap m) (hk : chN ts k ≠ []) : okO (bb ts (PO ts gap m).1 k) := by
 refine ⟨fun os ho => ?_, ?_, ?_⟩
 ·unfold bb at ho
  obtain ⟨j, hj, rfl⟩ := List.mem_map.mp ho;have := h.ln j (e_ he hj).2
  lia
 ·unfold bb
  rw [List.length_map];exact List.length_pos_iff.mpr hk
 ·unfold bb
  rw [List.length_map];have := sT ts k
  lia
theorem qa {ts : List Nd} {gap : Int} {m k : Nat} (he : EL ts) (h : PI ts gap m) (hk : chN ts k ≠ []) : (joB ts gap (PO ts gap m).1 k).length ≤ ts.length - (k + 1) := by
 unfold joB;rw [sH];have hne : bb ts (PO ts gap m).1 k ≠ [] := by unfold bb; simp [hk]
 obtain ⟨_, ⟨j, hj, ej⟩, _⟩ := mY hne;rw [← ej];unfold ir bb;unfold bb at hj;rw [List.length_map] at hj;rw [List.getElem?_map, List.getElem?_eq_getElem hj];show (gj _ (chN ts k)[j]).length ≤ _
 have g := e_ he (List.getElem_mem hj);have := (h.ln _ g.2).2
 lia
theorem kI {ts : List Nd} (gap : Int) (he : EL ts) (h0 : 0 < ts.length) (hl : ts.length ≤ 100) : ∀ m, m ≤ ts.length → PI ts gap m
 | 0, _ => by
  have o : ∀ k, k < ts.length → gj (PO ts gap 0).1 k = ini ts k := fun k hk => by
   unfold PO gj;rw [List.getElem?_map, List.getElem?_range hk];rfl
  refine ⟨by unfold PO; simp, by unfold PO; simp, fun k hk => o k (by lia), fun k h1 h2 => by lia, fun k hk => ?_, fun k h1 h2 => by lia, ?_⟩
  ·rw [o k hk]
   unfold ini;simp
   lia
  ·unfold PO gv
   rw [List.getElem?_replicate, if_pos h0];rfl
 | m + 1, hm => by
  have ih := kI gap he h0 hl m (by lia)
  obtain ⟨k0, hk0⟩ : ∃ k0, k0 = ts.length - 1 - m := ⟨_, rfl⟩;have hk0l : k0 < ts.length := by lia
  by_cases hc : chN ts k0 = []
  ·have e1 : (PO ts gap (m + 1)).1 = (PO ts gap m).1 := by rw [PO, ← hk0, nL, if_pos hc]
   have e2 : (PO ts gap (m + 1)).2 = (PO ts gap m).2 := by rw [PO, ← hk0, n8, if_pos hc]
   refine ⟨by rw [e1]; exact ih.l1, by rw [e2]; exact ih.l2, fun k hk => by rw [e1]; exact ih.lo k (by lia), fun k h1 h2 => ?_, fun k hk => by rw [e1]; exact ih.ln k hk, fun k h1 h2 i j hj => ?_, by rw [e2]; exact ih.z⟩
   ·rw [e1]
    by_cases hk : k = k0
    ·subst hk
     rw [ih.lo k (by lia), if_pos hc, List.append_nil]
    ·exact ih.hi k (by lia) h2
   ·rw [e1, e2]
    by_cases hk : k = k0
    ·subst hk
     rw [hc] at hj;simp at hj
    ·exact ih.of k (by lia) h2 i j hj
  ·have e1 : (PO ts gap (m + 1)).1 = (PO ts gap m).1.set k0 (gj (PO ts gap m).1 k0 ++ joB ts gap (PO ts gap m).1 k0) := by rw [PO, ← hk0, nL, if_neg hc]
   have e2 : (PO ts gap (m + 1)).2 = cV (PO ts gap m).2 (chN ts k0) (stF gap (bb ts (PO ts gap m).1 k0)) := by rw [PO, ← hk0, n8, if_neg hc]
   have bl : ∀ q, k0 ≤ q → bb ts (PO ts gap (m + 1)).1 q = bb ts (PO ts gap m).1 q := fun q hq => by rw [e1]; exact rC he hq
   have jb : ∀ q, k0 ≤ q → joB ts gap (PO ts gap (m + 1)).1 q = joB ts gap (PO ts gap m).1 q := fun q hq => by unfold joB; rw [bl q hq]
   have self : gj (PO ts gap (m + 1)).1 k0 = ini ts k0 ++ joB ts gap (PO ts gap m).1 k0 := by rw [e1, rQ (by rw [ih.l1]; exact hk0l), ih.lo k0 (by lia)]
   have oth : ∀ k, k ≠ k0 → gj (PO ts gap (m + 1)).1 k = gj (PO ts gap m).1 k := fun k hk => by rw [e1, nC (Ne.symm hk)]
   obtain ⟨⟨es, ls, hst⟩, _⟩ := t6 (gap := gap) (kF he hl ih hc);have sl : (chN ts k0).length = (stF gap (bb ts (PO ts gap m).1 k0)).length := by rw [hst.lst]; unfold bb; rw [List.length_map]
   refine ⟨by rw [e1, List.length_set]; exact ih.l1, by rw [e2, iK]; exact ih.l2, fun k hk => by rw [oth k (by lia)]; exact ih.lo k (by lia), fun k h1 h2 => ?_, fun k hk => ?_, fun k h1 h2 i j hj => ?_, ?_⟩
   ·by_cases hk : k = k0
    ·subst hk
     rw [self, if_neg hc, jb k (Nat.le_refl _)]
    ·rw [oth k hk, jb k (by lia)]
     exact ih.hi k (by lia) h2
   ·by_cases hk' : k = k0
    ·subst hk'
     rw [self, List.length_append];have := qa (gap := gap) he ih hc;have : (ini ts k).length = 1 := rfl
     lia
    ·rw [oth k hk']
     exact ih.ln k hk
   ·by_cases hk : k = k0
    ·subst hk
     rw [e2, bl k (Nat.le_refl _)];exact lQ _ _ _ i j (sj ts k) (fun c hc' => by rw [ih.l2]; exact (e_ he hc').2) sl hj
    ·rw [e2, bl k (by lia), gG _ _ _ j (fun z => ?_)]
     ·exact ih.of k (by lia) h2 i j hj
     ·have a := (fS.mp (List.mem_of_getElem? hj)).2
      have b := (fS.mp z).2;rw [a] at b
      lia
   ·rw [e2, gG _ _ _ 0 (fun z => by have := (e_ he z).1; lia)]
    exact ih.z
theorem i6 {ch : List Nat} {j : Nat} : mF (nD ch) j = true ↔ j ∈ ch := by
 unfold mF nD iL;rw [List.any_eq_true];constructor
 ·rintro ⟨d, hd, e⟩
  rw [List.map_map] at hd;obtain ⟨k, hk, rfl⟩ := List.mem_map.mp hd;have e' : decide ((k : Int) = (j : Int)) = true := e;have := of_decide_eq_true e';rw [show j = k by lia]
  exact hk
 ·intro h
  exact ⟨.int (j : Int), by rw [List.map_map]; exact List.mem_map.mpr ⟨j, h, rfl⟩, decide_eq_true rfl⟩
theorem pY {ch : List Nat} {xs : List OD} : ∀ ch' : List Nat, (∀ j ∈ ch', j ∈ ch ∧ j < xs.length) → gJ (eL (nD ch) 0 xs) (nD ch') = some (ch'.map fun j => (xs[j]?.map OD.er).getD .none)
 | [], _ => rfl
 | j :: r, h => by
  have ih := pY r fun k hk => h k (List.mem_cons_of_mem _ hk)
  obtain ⟨h1, h2⟩ := h j List.mem_cons_self;show gJ (eL (nD ch) 0 xs) (.int (j : Int) :: nD r) = _
  unfold gJ;have ix : ixN (eL (nD ch) 0 xs).length (j : Int) = some j := ij (by rw [iY]; exact h2)
  have gt : (eL (nD ch) 0 xs)[j]? = some (.sh (xs[j]).er) := by
   rw [g_, List.getElem?_eq_getElem h2];show some (if mF (nD ch) (0 + j) = true then OD.sh (xs[j]).er else xs[j]) = _
   rw [Nat.zero_add, if_pos (i6.mpr h1)]
  rw [ix];show (match (eL (nD ch) 0 xs)[j]? with | some (.sh d) => (gJ (eL (nD ch) 0 xs) (nD r)).map fun ds => d :: ds | _ => none) = _
  rw [gt];show (gJ (eL (nD ch) 0 xs) (nD r)).map (fun ds => (xs[j]).er :: ds) = _
  rw [ih, List.map_cons, List.getElem?_eq_getElem h2];rfl
noncomputable def pcs (q : Fs) : Fs := (aC (aQ 2 (eOp dU (eK (af (eC (.int 0)) av)) (eB cB (af (ag 0) av))))
 (aC (aQ 3 (dR (gB (aK cS (af (ag 0) av))) (gNm 0) e6 (eK (af (eSh (fu (af (eOp dU (eUn eQ (eC (.int 256))) (ag 0)) (af (eOp dU (eC (.int 256)) (ag 0)) av)))) av)) 1 []))
 (aC (eM (iR3 (eOp dB (eB cB (af (ag 0) av)) (eC (.int 1))) (eUn eQ (eC (.int 1))) (eUn eQ (eC (.int 1)))) (gNm 4) (aC (aQ 5 (eSh (aK bT (af (ag 0) (af (ag 4) av)))))
 (sIf (ba (eOp gGt (eB cB (af (ag 5) av)) (eC (.int 0)))) (aC (jR 3 5 (aQ 6 (eSh (nT 3 5))))
 (aC (aQ 7 (eSh (aK aT (af (ag 6) (af (ag 1) av)))))
 (aC (eM (iZp (ag 5) (ag 7)) (gTp 2 (bC (gNm 8) (bC (gNm 9) fP))) (lz 2 (ag 8) (ag 9)))
 (g6 3 (ag 4) (aK a7 (af (ag 6) (af (ag 7) av))))))) sNx)))
 q)))
theorem jV (ts : List Nd) (gap : Int) (he : EL ts) (h0 : 0 < ts.length) (hl : ts.length ≤ 100) (hlab : ∀ n ∈ ts, n.l.length ≤ 1000) :
  ∃ (xs : List OD) (ys : List PyData) (v4 v5 v6 v7 v8 v9 : Option OD), (∀ q : Fs, pcs q [some (.sh (.list (au ts))), some (.sh (.int gap)), none, none, none, none, none, none, none, none] = q [some (.sh (.list (au ts))), some (.sh (.int gap)), some (.ol (cG (PO ts gap ts.length).2)), some (.ol xs), v4, v5, v6, v7, v8, v9]) ∧ xs.map OD.er = bZ (PO ts gap ts.length).1 ∧ xs[0]? = some (.ol (ys.map OD.sh)) := by
 unfold pcs;have rp := pV (.int 0) ts.length (by lia)
 have ri : (List.replicate ts.length (PyData.int 0)).map OD.sh = cG (List.replicate ts.length 0) := by unfold cG; simp only [List.map_replicate]
 have rs : ((bh ts).map fun z => OD.sh (.int z)).map OD.er = (bh ts).map PyData.int := by
  rw [List.map_map];exact List.map_congr_left fun z _ => e7 _
 have rl : (bh ts).length = ts.length := by unfold bh; rw [List.length_map]
 push_cast only [aF, rp, ri, kG ts hlab hl, rs];generalize hC : cw _ _ _ _ _ _ = rc
 have e := fO hC PyData.int (fun z : Int => .ol [.sh (.tuple [.int (-256 * z), .int (256 * z)])]) (bh ts) rfl (by rw [rl]; exact of_eq_true (bN (by lia))) (by
  intro z hz;push_cast only [and_self])
 subst e;clear hC;obtain ⟨xs0, hx0⟩ : ∃ xs0, xs0 = (bh ts).map fun z : Int => OD.ol [.sh (.tuple [.int (-256 * z), .int (256 * z)])] := ⟨_, rfl⟩
 have x0 : ∀ k, k < ts.length → xs0[k]? = some (.ol ((bM (ini ts k)).map OD.sh)) := fun k hk => by
  rw [hx0, List.getElem?_map, nq (by rw [rl]; exact hk)]
  rfl
 have xe0 : xs0.map OD.er = bZ (PO ts gap 0).1 := by
  apply List.ext_getElem?
  intro k;unfold bZ PO;rw [List.getElem?_map, List.map_map, List.getElem?_map];by_cases hk : k < ts.length
  ·rw [x0 k hk, List.getElem?_range hk]
   show some (OD.ol _).er = some _
   rw [iU, bK];rfl
  ·rw [List.getElem?_eq_none (by rw [hx0, List.length_map, rl]; lia), List.getElem?_eq_none (by rw [List.length_range]; lia)]
   rfl
 rw [← hx0];have r3 := fun (ρ : L3.Env) (h1 : (eOp dB (eB cB (af (ag 0) av)) (eC (.int 1))) ρ = .ok (.sh (.int ((ts.length : Int) - 1)))) => B9 (fa := eOp dB (eB cB (af (ag 0) av)) (eC (.int 1))) (fb := eUn eQ (eC (.int 1))) (fc := eUn eQ (eC (.int 1))) (ρ := ρ) (x := (ts.length : Int) - 1) (y := -1) (z := -1) h1 rfl rfl rfl (fW (by lia) (by lia)) (fW (by decide) (by decide))
 have r4 := r3 [some (.sh (.list (au ts))), some (.sh (.int gap)), some (.ol (cG (List.replicate ts.length 0))), some (.ol xs0), none, none, none, none, none, none] (by push_cast only [aF])
 push_cast only [r4];generalize hL : b6 _ _ _ _ = r'
 refine dc hL (fun m ρ => ∃ (xs : List OD) (v4 v5 v6 v7 v8 v9 : Option OD), xs.map OD.er = bZ (PO ts gap m).1 ∧ (∀ k, k < ts.length - m → xs[k]? = some (.ol ((bM (ini ts k)).map OD.sh))) ∧ (∃ ys : List PyData, xs[0]? = some (.ol (ys.map OD.sh))) ∧ ρ = [some (.sh (.list (au ts))), some (.sh (.int gap)), some (.ol (cG (PO ts gap m).2)), some (.ol xs), v4, v5, v6, v7, v8, v9])
  ⟨xs0, _, _, _, _, _, _, xe0, fun k hk => x0 k (by lia), ⟨_, x0 0 h0⟩, rfl⟩ ?_ ?_
 ·rintro m d ρ hd ⟨xs, v4, v5, v6, v7, v8, v9, xe, xo, ⟨ys, xz⟩, rfl⟩
  obtain ⟨hm, rfl⟩ := ox hd;have hm2 : m < ts.length := by lia
  obtain ⟨k, hk⟩ : ∃ k : Nat, k = ts.length - 1 - m := ⟨_, rfl⟩;have hkl : k < ts.length := by lia
  have ek : (ts.length : Int) - 1 - (m : Int) = (k : Int) := by lia
  rw [ek];have ih := kI gap he h0 hl m (by lia)
  have ck := nY ts k hkl hl;have xl : xs.length = ts.length := by
   have := congrArg List.length xe;rw [List.length_map, h_, ih.l1] at this;exact this
  by_cases hc : chN ts k = []
  ·have l0 : decide ((0 : Int) < ((nD (chN ts k)).length : Int)) = false := decide_eq_false (by rw [gX, hc]; decide)
   have e1 : (PO ts gap (m + 1)).1 = (PO ts gap m).1 := by rw [PO, ← hk, nL, if_pos hc]
   have e2 : (PO ts gap (m + 1)).2 = (PO ts gap m).2 := by rw [PO, ← hk, n8, if_pos hc]
   push_cast only [ck, kO, l0];rw [← e2];exact ⟨xs, _, _, _, _, _, _, by rw [e1]; exact xe, fun q hq => xo q (by lia), ⟨ys, xz⟩, rfl⟩
  ·have l0 : decide ((0 : Int) < ((nD (chN ts k)).length : Int)) = true := decide_eq_true (by
    rw [gX];have := List.length_pos_iff.mpr hc
    lia)
   have e1 : (PO ts gap (m + 1)).1 = (PO ts gap m).1.set k (gj (PO ts gap m).1 k ++ joB ts gap (PO ts gap m).1 k) := by rw [PO, ← hk, nL, if_neg hc]
   have e2 : (PO ts gap (m + 1)).2 = cV (PO ts gap m).2 (chN ts k) (stF gap (bb ts (PO ts gap m).1 k)) := by rw [PO, ← hk, n8, if_neg hc]
   have bok := kF he hl ih hc;obtain ⟨⟨es, ls, hst⟩, hsf⟩ := t6 (gap := gap) bok;have jn := rm (bb ts (PO ts gap m).1 k) (stF gap (bb ts (PO ts gap m).1 k)) bok hst.lst;have bl : (bb ts (PO ts gap m).1 k).length = (chN ts k).length := by unfold bb; rw [List.length_map]
   have cl := sT ts k;have gt : gJ (eL (nD (chN ts k)) 0 xs) (nD (chN ts k)) = some (bZ (bb ts (PO ts gap m).1 k)) := by
    rw [pY (chN ts k) fun j hj => ⟨hj, by rw [xl]; exact (e_ he hj).2⟩]
    refine congrArg some ?_;unfold bb bZ;rw [List.map_map];refine List.map_congr_left fun j hj => ?_
    have hjl := (e_ he hj).2;have := congrArg (fun l => l[j]?) xe
    simp only [List.getElem?_map] at this;have g : (PO ts gap m).1[j]? = some ((PO ts gap m).1[j]'(by rw [ih.l1]; exact hjl)) := List.getElem?_eq_getElem _
    rw [this];show ((bZ (PO ts gap m).1)[j]?).getD .none = PyData.list (bM (((PO ts gap m).1[j]?).getD []))
    unfold bZ;rw [List.getElem?_map, g];rfl
   have jl := qa (gap := gap) he ih hc;generalize hst' : stF gap (bb ts (PO ts gap m).1 k) = st at hst hsf jn e2
   have sl : (chN ts k).length = st.length := by rw [hst.lst, bl]
   push_cast only [ck, kO, l0];rw [yI (xs := xs) (ks := nD (chN ts k)) rfl rfl];push_cast only [and_self];rw [Cd (i := 3) (c := 5) (xs := eL (nD (chN ts k)) 0 xs) (ks := nD (chN ts k)) rfl rfl gt (by rw [h_, bl]; exact of_eq_true (bN (by lia)))]
   push_cast only [bK, hsf, cF];generalize hL2 : b6 _ _ _ _ = r2
   refine dc hL2 (fun i ρ => ∃ v8 v9 : Option OD, ρ = [some (.sh (.list (au ts))), some (.sh (.int gap)), some (.ol (cG (cV (PO ts gap m).2 ((chN ts k).take i) (st.take i)))), some (.ol (eL (nD (chN ts k)) 0 xs)), some (.sh (.int k)), some (.sh (.list (nD (chN ts k)))), some (.sh (.list (bZ (bb ts (PO ts gap m).1 k)))), some (.sh (.list (st.map PyData.int))), v8, v9]) ⟨_, _, by rw [List.take_zero, List.take_zero, cV]; intro _ _ _ _ h; cases h⟩ ?_ ?_
   ·rintro i d ρ hd ⟨v8, v9, rfl⟩
    obtain ⟨x, y, hx, hy, rfl⟩ := kB hd;unfold nD iL at hx;rw [List.map_map, List.getElem?_map] at hx;obtain ⟨j, hj, rfl⟩ := Option.map_eq_some_iff.mp hx;rw [List.getElem?_map] at hy;obtain ⟨s, hs, rfl⟩ := Option.map_eq_some_iff.mp hy;have jg := (e_ he (List.mem_of_getElem? hj)).2;have ix : ixN (cG (cV (PO ts gap m).2 ((chN ts k).take i) (st.take i))).length (j : Int) = some j := ij (by rw [i3, iK, ih.l2]; exact jg)
    push_cast only [Function.comp, qv ix, oJ];rw [take_snoc hj, take_snoc hs, jT _ _ _ _ _ (by rw [List.length_take, List.length_take, sl])]
    exact ⟨_, _, rfl⟩
   ·rintro ρ' rfl ⟨v8, v9, rfl⟩
    have zl : (jW (nD (chN ts k)) (st.map PyData.int)).length = (chN ts k).length := by
     unfold jW;rw [List.length_map, List.length_zip, gX, List.length_map, ← sl, Nat.min_self]
    rw [zl, List.take_of_length_le (Nat.le_refl _), List.take_of_length_le (by lia), ← e2]
    have xk : (eL (nD (chN ts k)) 0 xs)[k]? = some (.ol ((bM (ini ts k)).map OD.sh)) := by
     rw [g_, xo k (by lia)]
     show some (if mF (nD (chN ts k)) (0 + k) = true then _ else _) = _
     rw [if_neg (fun z => by have := (e_ he (i6.mp z)).1; lia)]
    have ex := vT (i := 3) (k := ag 4) (a := aK a7 (af (ag 6) (af (ag 7) av))) (ρ := [some (.sh (.list (au ts))), some (.sh (.int gap)), some (.ol (cG (PO ts gap (m + 1)).2)), some (.ol (eL (nD (chN ts k)) 0 xs)), some (.sh (.int k)), some (.sh (.list (nD (chN ts k)))), some (.sh (.list (bZ (bb ts (PO ts gap m).1 k)))), some (.sh (.list (st.map PyData.int))), v8, v9]) (xs := eL (nD (chN ts k)) 0 xs) (ys := (bM (ini ts k)).map OD.sh) (zs := (bM (jo (bb ts (PO ts gap m).1 k) st)).map OD.sh) (z := k) (j := k) rfl rfl (ij (by rw [iY, xl]; exact hkl)) xk (by push_cast only [jn]) (by
     rw [List.length_map, List.length_map, dY, dY];have jl2 : (jo (bb ts (PO ts gap m).1 k) st).length ≤ ts.length - (k + 1) := by
      unfold joB at jl;rw [hst'] at jl;exact jl
     have : (ini ts k).length = 1 := rfl;exact of_eq_true (bN (by lia)))
    push_cast only [and_self];rw [ex];push_cast only [and_self];have jb : joB ts gap (PO ts gap m).1 k = jo (bb ts (PO ts gap m).1 k) st := by unfold joB; rw [hst']
    refine ⟨_, _, _, _, _, _, _, ?_, fun q hq => ?_, ?_, rfl⟩
    ·rw [List.map_set, qf, xe, e1, ih.lo k (by lia), jb, iU]
     unfold bZ bM;rw [List.map_set, List.map_append, List.map_append, bK, bK]
    ·rw [List.getElem?_set_ne (by lia), g_, xo q (by lia)]
     show some (if mF (nD (chN ts k)) (0 + q) = true then _ else _) = _
     rw [if_neg (fun z => by have := (e_ he (i6.mp z)).1; lia)]
    ·by_cases hk0 : k = 0
     ·refine ⟨bM (ini ts k) ++ bM (jo (bb ts (PO ts gap m).1 k) st), ?_⟩
      rw [List.map_append, show (0 : Nat) = k from hk0.symm, List.getElem?_set_self (by rw [iY, xl]; exact hkl)]
     ·refine ⟨ys, ?_⟩
      rw [List.getElem?_set_ne hk0, g_, xz];show some (if mF (nD (chN ts k)) (0 + 0) = true then _ else _) = _
      rw [if_neg (fun z => by have := (e_ he (i6.mp z)).1; lia)]
 ·rintro ρ' rfl ⟨xs, v4, v5, v6, v7, v8, v9, xe, xo, ⟨ys, xz⟩, rfl⟩
  rw [sD, show ((ts.length : Int) - 1 - -1).toNat = ts.length by lia] at xe ⊢
  refine ⟨xs, ys, v4, v5, v6, v7, v8, v9, fun q => ?_, xe, xz⟩
  push_cast only [and_self]
theorem rW (ts : List Nd) (gap : Int) (he : EL ts) (h0 : 0 < ts.length) (hl : ts.length ≤ 100) (hlab : ∀ n ∈ ts, n.l.length ≤ 1000) :
  eP [.list (au ts), .int gap] = .ok (.sh (.tuple [.list ((PO ts gap ts.length).2.map PyData.int), .list (bZ (PO ts gap ts.length).1)])) := by
 obtain ⟨xs, ys, v4, v5, v6, v7, v8, v9, hq, xe, _⟩ := jV ts gap he h0 hl hlab;have e : ic = pcs (jx 3 (jx 2 (dE (fu (af (ag 2) (af (ag 3) av)))))) := rfl;unfold eP;rw [e];push_cast only [hq, iU, xe, cF]
noncomputable def hX (ts : List Nd) (off : List Int) : Nat → List Int
 | 0 => [0]
 | i + 1 => hX ts off i ++ [gv (hX ts off i) (eOf ts (i + 1)).toNat + gv off (i + 1)]
theorem fQ (ts : List Nd) (off : List Int) : ∀ i, (hX ts off i).length = i + 1
 | 0 => rfl
 | i + 1 => by rw [hX, List.length_append, fQ ts off i]; rfl
theorem kT (ts : List Nd) (off : List Int) (m j : Nat) (h : j ≤ m) : ∀ c, gv (hX ts off (m + c)) j = gv (hX ts off m) j
 | 0 => rfl
 | c + 1 => by
  rw [← kT ts off m j h c, ← Nat.add_assoc, hX];unfold gv;rw [List.getElem?_append_left (by rw [fQ]; lia)]
noncomputable def zG (ts : List Nd) (gap : Int) (k : Nat) : Int := gv (PO ts gap ts.length).2 k
noncomputable def outF (ts : List Nd) (gap : Int) (k : Nat) : Ol := gj (PO ts gap ts.length).1 k
noncomputable def ml (ts : List Nd) (gap : Int) : List Int := hX ts (PO ts gap ts.length).2 (ts.length - 1)
noncomputable def pos (ts : List Nd) (gap : Int) (k : Nat) : Int := gv (ml ts gap) k
noncomputable def kX (ts : List Nd) (gap : Int) : Int := n9 ((List.range ts.length).map fun k => pos ts gap k - 256 * gv (bh ts) k)
noncomputable def drw (ts : List Nd) (gap : Int) : List Int := (ml ts gap).map fun z => z - kX ts gap
theorem kq {ts : List Nd} {gap : Int} (h0 : 0 < ts.length) : (ml ts gap).length = ts.length := by unfold ml; rw [fQ]; lia
theorem qx {ts : List Nd} {gap : Int} (h0 : 0 < ts.length) : (drw ts gap).length = ts.length := by unfold drw; rw [List.length_map, kq h0]
theorem yH {ts : List Nd} {gap : Int} (h0 : 0 < ts.length) {k : Nat} (hk : k < ts.length) : gv (drw ts gap) k = pos ts gap k - kX ts gap := by
 unfold drw pos;unfold gv;rw [List.getElem?_map, List.getElem?_eq_getElem (by rw [kq h0]; exact hk)]
 rfl
theorem sY {ts : List Nd} {gap : Int} {k q : Nat} (he : EL ts) (h0 : 0 < k) (hk : k < ts.length) (hq : eOf ts k = (q : Int)) : pos ts gap k = pos ts gap q + zG ts gap k := by
 have hqk : q < k := by
  obtain ⟨n, hn⟩ : ∃ n, ts[k]? = some n := ⟨ts[k], by simp [hk]⟩
  have := (he k n hn).2.2;rw [b_ hn] at hq
  lia
 obtain ⟨m, rfl⟩ : ∃ m, k = m + 1 := ⟨k - 1, by lia⟩
 unfold pos ml zG;have a := kT ts (PO ts gap ts.length).2 (m + 1) (m + 1) (Nat.le_refl _) (ts.length - 1 - (m + 1));have b := kT ts (PO ts gap ts.length).2 m q (by lia) (ts.length - 1 - m)
 rw [show m + 1 + (ts.length - 1 - (m + 1)) = ts.length - 1 by lia] at a
 rw [show m + (ts.length - 1 - m) = ts.length - 1 by lia] at b
 rw [a, b, hX, hq, Int.toNat_natCast]
 conv => lhs; unfold gv
 rw [List.getElem?_append_right (by rw [fQ]; lia), fQ, Nat.sub_self]
 rfl
theorem uT (ts : List Nd) (gap : Int) (h0 : 0 < ts.length) (hl : ts.length ≤ 100) (hlab : ∀ n ∈ ts, n.l.length ≤ 1000) :
  c7 [.list (au ts), .list ((ml ts gap).map PyData.int), .int 256] = .ok (.ol (cG (drw ts gap))) := by
 unfold c7 dN;have rs : ((bh ts).map fun z => OD.sh (.int z)).map OD.er = (bh ts).map PyData.int := by
  rw [List.map_map];exact List.map_congr_left fun z _ => e7 _
 have rl : (bh ts).length = ts.length := by unfold bh; rw [List.length_map]
 have pl := kq (gap := gap) h0;push_cast only [cF, kG ts hlab hl, rs, so pl rl];generalize hC : cw _ _ _ _ _ _ = rc
 have e := fO hC (fun k : Nat => PyData.tuple [.int (gv (ml ts gap) k), .int (gv (bh ts) k)]) (fun k => .sh (.int (pos ts gap k - 256 * gv (bh ts) k))) (List.range ts.length) rfl (by rw [List.length_range]; exact of_eq_true (bN (by lia))) (by
  intro k hk;push_cast only [and_self];rfl)
 subst e;clear hC;rw [pD];have hm := oF (xs := (List.range ts.length).map fun k => pos ts gap k - 256 * gv (bh ts) k) (fun z => by
  have := congrArg List.length z;rw [List.length_map, List.length_range, List.length_nil] at this
  lia)
 have hm2 : i_ [.list (((List.range ts.length).map fun k => pos ts gap k - 256 * gv (bh ts) k).map PyData.int)] = .ok (.sh (.int (kX ts gap))) := hm
 push_cast only [cF, hm2];generalize hC : cw _ _ _ _ _ _ = rc
 have e := fO hC PyData.int (fun z : Int => .sh (.int (z - kX ts gap))) (ml ts gap) rfl (by rw [pl]; exact of_eq_true (bN (by lia))) (by
  intro z hz;push_cast only [and_self])
 subst e;rw [pD];push_cast only [and_self];rfl
theorem sG (ts : List Nd) (gap : Int) (he : EL ts) (h0 : 0 < ts.length) (hl : ts.length ≤ 100) (hlab : ∀ n ∈ ts, n.l.length ≤ 1000) :
  hR [.list (au ts), .int gap] = .ok (.ol (cG (drw ts gap))) := by
 unfold hR iR;have pk := rW ts gap he h0 hl hlab;have PI1 := kI gap he h0 hl ts.length (Nat.le_refl _);have rs : ((bh ts).map fun z => OD.sh (.int z)).map OD.er = (bh ts).map PyData.int := by
  rw [List.map_map];exact List.map_congr_left fun z _ => e7 _
 have rl : (bh ts).length = ts.length := by unfold bh; rw [List.length_map]
 have s1 : aH 1 = true := fW (by decide) (by decide)
 have s2 : aH (ts.length : Int) = true := fW (by lia) (by lia)
 push_cast only [pk, aF, s1, s2, Bool.and_self];generalize hL : b6 _ _ _ _ = r'
 refine dc hL (fun i ρ => ∃ v4 : Option OD, ρ = [some (.sh (.list (au ts))), some (.sh (.int gap)), some (.sh (.list ((PO ts gap ts.length).2.map PyData.int))), some (.ol (cG (hX ts (PO ts gap ts.length).2 i))), v4]) ⟨_, rfl⟩ ?_ ?_
 ·rintro i d ρ hd ⟨v4, rfl⟩
  obtain ⟨hi, rfl⟩ := dW hd;have hi2 : i + 1 < ts.length := by lia
  have ei : (1 : Int) + (i : Int) = ((i + 1 : Nat) : Int) := by lia
  rw [ei];obtain ⟨n, hn⟩ : ∃ n, ts[i + 1]? = some n := ⟨ts[i + 1], by simp [hi2]⟩
  have el := he (i + 1) n hn;obtain ⟨k, hk⟩ : ∃ k : Nat, n.e = (k : Int) := ⟨n.e.toNat, by have := el.2.1 (by lia); lia⟩
  have hki : k < i + 1 := by have := el.2.2; lia
  have g3 := eA hn;rw [hk] at g3;have g1 := jE (st := hX ts (PO ts gap ts.length).2 i) (j := k) (by rw [fQ]; lia)
  have g2 := jE (st := (PO ts gap ts.length).2) (j := i + 1) (by rw [PI1.l2]; lia)
  have lb : ((cG (hX ts (PO ts gap ts.length).2 i)).length < BIG) = True := by rw [i3, fQ]; exact ft (by lia)
  push_cast only [cF, g1, g2, g3, lb, lM];have e : hX ts (PO ts gap ts.length).2 (i + 1) = hX ts (PO ts gap ts.length).2 i ++ [gv (hX ts (PO ts gap ts.length).2 i) k + gv (PO ts gap ts.length).2 (i + 1)] := by rw [hX, b_ hn, hk, Int.toNat_natCast]
  rw [e];exact ⟨_, rfl⟩
 ·rintro ρ' rfl ⟨v4, rfl⟩
  rw [eI, show ((ts.length : Int) - 1).toNat = ts.length - 1 by lia]
  have pe : hX ts (PO ts gap ts.length).2 (ts.length - 1) = ml ts gap := rfl;rw [pe];push_cast only [cF, uT ts gap h0 hl hlab]
theorem iX {ts : List Nd} (gap : Int) (he : EL ts) (h0 : 0 < ts.length) (hl : ts.length ≤ 100) {k : Nat} (hk : k < ts.length) :
  outF ts gap k = ini ts k ++ (if chN ts k = [] then [] else jo ((chN ts k).map (outF ts gap)) (stF gap ((chN ts k).map (outF ts gap)))) :=
 (kI gap he h0 hl ts.length (Nat.le_refl _)).hi k (by lia) hk
theorem vJ {ts : List Nd} (gap : Int) (he : EL ts) (h0 : 0 < ts.length) (hl : ts.length ≤ 100) {k i j : Nat} (hk : k < ts.length) (hj : (chN ts k)[i]? = some j) :
  zG ts gap j = gv (stF gap ((chN ts k).map (outF ts gap))) i :=
 (kI gap he h0 hl ts.length (Nat.le_refl _)).of k (by lia) hk i j hj
theorem nW {ts : List Nd} (gap : Int) (he : EL ts) (h0 : 0 < ts.length) (hl : ts.length ≤ 100) {k : Nat} (hk : k < ts.length) : 1 ≤ (outF ts gap k).length ∧ (outF ts gap k).length ≤ ts.length - k :=
 (kI gap he h0 hl ts.length (Nat.le_refl _)).ln k hk
theorem uP {ts : List Nd} (gap : Int) (he : EL ts) (h0 : 0 < ts.length) (hl : ts.length ≤ 100) {k : Nat} (hc : chN ts k ≠ []) : okO ((chN ts k).map (outF ts gap)) :=
 kF he hl (kI gap he h0 hl ts.length (Nat.le_refl _)) hc
structure Part (ts us : List Nd) (j : Nat) : Prop where
 le : j + us.length ≤ ts.length
 ch : ∀ i, i < us.length → (chN us i).map (j + ·) = chN ts (j + i)
 e : ∀ i, 0 < i → i < us.length → eOf us i = eOf ts (j + i) - j
 r : ∀ i, i < us.length → gv (bh us) i = gv (bh ts) (j + i)
theorem tU {ts us : List Nd} {j : Nat} (gap : Int) (P : Part ts us j) (het : EL ts) (heu : EL us) (h0 : 0 < us.length) (hl : ts.length ≤ 100) : ∀ m i, i + m = us.length → i < us.length → outF us gap i = outF ts gap (j + i) := by
 have hu : us.length ≤ 100 := by have := P.le; lia
 have ht : 0 < ts.length := by have := P.le; lia
 intro m
 induction m using Nat.strongRecOn with
 | ind m ih =>
  intro i him hi;have hji : j + i < ts.length := by have := P.le; lia
  have hm : (chN us i).map (outF us gap) = (chN ts (j + i)).map (outF ts gap) := by
   rw [← P.ch i hi, List.map_map];refine List.map_congr_left fun a ha => ?_
   obtain ⟨a1, a2⟩ := e_ heu ha;exact ih (us.length - a) (by lia) a (by lia) a2
  have hc : (chN us i = []) = (chN ts (j + i) = []) := by
   rw [← P.ch i hi];simp
  rw [iX gap heu h0 hu hi, iX gap het ht hl hji, hm];have hi2 : ini us i = ini ts (j + i) := by unfold ini; rw [P.r i hi]
  rw [hi2];simp only [hc]
theorem pB {ts : List Nd} {c : F} (p : PT ts c) {j : Nat} (hj : j < ts.length) : Part ts (bI ts j) j := by
 obtain ⟨s, q1, q2, q3, q4⟩ := sy p hj;obtain ⟨r, hr⟩ : ∃ n, ts[j]? = some n := ⟨ts[j], by simp [hj]⟩
 have at1 : ∀ k, (ts.drop (j + 1))[k]? = ts[j + 1 + k]? := fun k => List.getElem?_drop
 have hlw : ((ts.drop (j + 1)).takeWhile (inB j)).length = s := m5 _ _ s (by rw [List.length_drop]; lia) (fun k hk x hx => by
  rw [at1] at hx;have := q2 (j + 1 + k) (by lia) (by lia)
  rw [b_ hx] at this;exact decide_eq_true this) (fun x hx => by
  rw [at1] at hx;have hlt := (List.getElem?_eq_some_iff.mp hx).1;have := q3 hlt;rw [b_ hx] at this;exact decide_eq_false (by lia))
 have hb : bI ts j = ⟨-1, r.l, r.t⟩ :: ((ts.drop (j + 1)).takeWhile (inB j)).map (fI j) := by unfold bI; rw [hr]
 have bl : (bI ts j).length = s + 1 := by rw [hb, List.length_cons, List.length_map, hlw]
 have tk : (ts.drop (j + 1)).takeWhile (inB j) = (ts.drop (j + 1)).take s := by
  have := List.takeWhile_prefix (inB j) (l := ts.drop (j + 1));rw [List.prefix_iff_eq_take.mp this, hlw]
 have gt : ∀ k, k < s → ∃ x, ts[j + 1 + k]? = some x ∧ (bI ts j)[k + 1]? = some (fI j x) := fun k hk => by
  obtain ⟨x, hx⟩ : ∃ n, ts[j + 1 + k]? = some n := ⟨ts[j + 1 + k]'(by lia), by simp⟩
  refine ⟨x, hx, ?_⟩;rw [hb, tk, List.getElem?_cons_succ, List.getElem?_map, List.getElem?_take_of_lt hk, at1, hx];rfl
 have ee : ∀ i, 0 < i → i < (bI ts j).length → eOf (bI ts j) i = eOf ts (j + i) - j := fun i h1 h2 => by
  obtain ⟨x, x1, x2⟩ := gt (i - 1) (by lia)
  rw [show i - 1 + 1 = i by lia] at x2
  rw [show j + 1 + (i - 1) = j + i by lia] at x1
  rw [b_ x1, b_ x2];rfl
 have e0 : eOf (bI ts j) 0 = -1 := by rw [hb]; rfl
 refine ⟨by lia, fun i hi => ?_, ee, fun i hi => ?_⟩
 ·refine tJ ?_ (wO ts (j + i)) fun b => ?_
  ·rw [List.pairwise_map]
   exact (wO (bI ts j) i).imp fun h => by lia
  ·rw [List.mem_map, fS]
   constructor
   ·rintro ⟨a, ha, rfl⟩
    obtain ⟨a1, a2⟩ := fS.mp ha;have a0 : 0 < a := by
     rcases Nat.eq_zero_or_pos a with z | z
     ·subst z
      rw [e0] at a2
      lia
     ·exact z
    have := ee a a0 a1;refine ⟨by lia, by lia⟩
   ·rintro ⟨b1, b2⟩
    obtain ⟨b3, b4⟩ := q4 b b1 (by lia) (by lia)
    refine ⟨b - j, fS.mpr ⟨by lia, ?_⟩, by lia⟩
    rw [ee (b - j) (by lia) (by lia), show j + (b - j) = b by lia, b2]
    lia
 ·have rg : ∀ (L : List Nd) (k : Nat) (x : Nd), L[k]? = some x → gv (bh L) k = (x.l.length : Int) / 2 := fun L k x hx => by
   unfold gv bh;rw [List.getElem?_map, hx];rfl
  by_cases h1 : i = 0
  ·subst h1
   rw [rg (bI ts j) 0 ⟨-1, r.l, r.t⟩ (by rw [hb]; rfl), Nat.add_zero, rg ts j r hr]
  ·obtain ⟨x, x1, x2⟩ := gt (i - 1) (by lia)
   rw [show i - 1 + 1 = i by lia] at x2
   rw [show j + 1 + (i - 1) = j + i by lia] at x1
   rw [rg _ _ _ x2, rg _ _ _ x1];rfl
noncomputable def cP : Fs := (aC (aQ 1 (eK av))
 (aC (aQ 2 (eK (af (eC (.int 0)) av)))
 (aC (eR (q8 (ba (eOp gNe (ag 2) (eK av)))) (aC (qO 2 (gNm 3))
 (aC (gR 1 (ag 3))
 (jx 2 (aQ 2 (eOp bX (ag 2) (dR (iR2 (eOp bX (ag 3) (eC (.int 1))) (eB cB (af (ag 0) av))) (gNm 0) (ba (eOp gEq (eOp gIx (eOp gIx (ag 1) (ag 0)) (eC (.int 0))) (ag 2))) (ag 0) 1 [0, 3])))))))
 (fv 1))))
noncomputable def bR : Fn := cI 1 4 cP
noncomputable def fG : Fs := (aC (aQ 2 (eK (af (fu (af (eC (.int 0)) (af (eOp gIx (eOp gIx (ag 0) (eC (.int 0))) (eC (.int 1))) (af (eOp gIx (eOp gIx (ag 0) (eC (.int 0))) (eC (.int 2))) av)))) av)))
 (aC (eM (gB (eSl mq (ag 0) (gw (eC (.int 1))) jU)) (gTp 3 (bC (gNm 3) (bC (gNm 4) (bC (gNm 5) fP)))) (gR 2 (eSh (fu (af (eOp bX (ag 3) (ag 1)) (af (ag 4) (af (ag 5) av)))))))
 (fv 2)))
noncomputable def et : Fn := cI 2 6 fG
noncomputable def f9 : Fs := (aC (aQ 2 (eOp bX (ag 1) (eC (.int 1))))
 (aC (eR (kE (ba (eOp gLt (ag 2) (eB cB (af (ag 0) av)))) (ba (eOp gGe (eOp gIx (eOp gIx (ag 0) (ag 2)) (eC (.int 0))) (ag 1)))) (aQ 2 (eOp bX (ag 2) (eC (.int 1)))))
 (dE (ag 2))))
noncomputable def e9 : Fn := cI 2 3 f9
noncomputable def cX : Fs := (aC (aQ 1 (eSh (aK bR (af (ag 0) av))))
 (aC (aQ 2 (eK av))
 (aC (eM (gB (ag 1)) (gNm 3) (aC (rB (eOp gIx (ag 0) (ag 3)) (gTp 3 (bC (gNm 4) (bC (gNm 5) (bC (gNm 6) fP)))))
 (aC (sIf (ba (eOp gGe (ag 4) (eC (.int 0)))) (aQ 4 (uD (ag 1) (ag 4))) sNx)
 (gR 2 (fu (af (ag 4) (af (ag 5) (af (ag 6) av))))))))
 (fv 2))))
noncomputable def b5 : Fn := cI 1 7 cX
noncomputable def dh : Fs := (aC (aQ 3 (eK av))
 (aC (eM (iR1 (eB cB (af (ag 0) av))) (gNm 4) (aC (aQ 5 (eOp dX (eOp dU (aK bc (af (ag 1) (af (eOp bX (ag 2) (ag 4)) av))) (eC (.int 39373))) (eC (.int 2147483629))))
 (aC (aQ 6 (eOp bX (eOp dU (eOp eN (eB cB (af (eOp gIx (eOp gIx (ag 0) (ag 4)) (eC (.int 1))) av)) (eC (.int 2))) (eC (.int 2))) (eOp dX (ag 5) (eC (.int 2)))))
 (aC (aQ 7 (eC (.str "abcdefghijklmnopqrstuvwxyz")))
 (aC (aQ 8 (eC (.str "")))
 (aC (eM (iR1 (eB lG (af (eC (.int 1)) (af (eB l5 (af (ag 6) (af (eC (.int 9)) av))) av)))) (gNm 9) (aQ 8 (eOp bX (ag 8) (eOp gIx (ag 7) (eOp dX (eOp eN (ag 5) (eOp bX (eC (.int 2)) (eOp dU (eOp dU (eC (.int 5)) (ag 9)) (ag 9)))) (eC (.int 26)))))))
 (gR 3 (eSh (fu (af (eOp gIx (eOp gIx (ag 0) (ag 4)) (eC (.int 0))) (af (ag 8) (af (eOp bX (eC (.int 1)) (eOp dX (eOp eN (ag 5) (eC (.int 1024))) (eC (.int 9)))) av))))))))))))
 (fv 3)))
noncomputable def bO : Fn := cI 3 10 dh
noncomputable def eD : Fs := (aC (aQ 4 (eSh (aK cJ (af (ag 0) (af (ag 1) (af (ag 2) (af (eC (.int 9)) (af (eC (.int 6)) av))))))))
 (aC (aQ 5 (eSh (eK (af (eSh (fu (af (eUn eQ (eC (.int 1))) (af (eSh (eSl vL (eC (.str "abcdefghi")) jU (gw (eOp bX (eC (.int 1)) (eOp dX (ag 3) (eC (.int 9))))))) (af (eOp bX (eC (.int 1)) (eOp dX (eOp eN (ag 3) (eC (.int 9))) (eC (.int 9)))) av))))) av))))
 (aC (eM (iR1 (eOp bX (eC (.int 1)) (eOp dX (eOp eN (ag 3) (eC (.int 81))) (eC (.int 3))))) (gNm 6) (aC (aQ 7 (eSh (aK bO (af (ag 4) (af (ag 0) (af (eOp bX (eOp bX (ag 1) (eC (.int 5))) (eOp dU (eC (.int 3)) (ag 6))) av))))))
 (aC (sIf (ba (eOp gEq (eOp dX (eOp eN (eOp eN (ag 3) (eC (.int 243))) (eOp bX (eOp dU (ag 6) (ag 6)) (eC (.int 1)))) (eC (.int 3))) (eC (.int 1)))) (aQ 7 (eSh (aK b5 (af (ag 7) av)))) sNx)
 (aC (sIf (kE (ba (eOp gEq (eOp dX (eOp eN (eOp eN (ag 3) (eC (.int 729))) (eOp bX (ag 6) (eC (.int 1)))) (eC (.int 5))) (eC (.int 1)))) (ba (eOp gGt (eB cB (af (ag 7) av)) (eC (.int 1))))) (aQ 7 (eSh (eSl mq (ag 7) jU (gw (eUn eQ (eC (.int 1))))))) sNx)
 (aQ 5 (eSh (eOp bX (ag 5) (aK et (af (ag 7) (af (eB cB (af (ag 5) av)) av))))))))))
 (dE (ag 5)))))
noncomputable def dH : Fn := cI 4 8 eD
noncomputable def dA : Fs := (aC (aQ 1 (eSh (aK bc (af (ag 0) (af (eC (.int 0)) av)))))
 (aC (sIf (ba (eOp gEq (eOp dX (ag 1) (eC (.int 3))) (eC (.int 1)))) (dE (aK dH (af (ag 0) (af (eC (.int 3)) (af (eOp bX (eC (.int 1)) (eOp dX (eOp eN (ag 1) (eC (.int 3))) (eC (.int 6)))) (af (eOp dX (aK bc (af (ag 0) (af (eC (.int 1)) av))) (eC (.int 2147483647))) av)))))) sNx)
 (aC (sIf (ba (eOp gEq (eOp dX (ag 1) (eC (.int 12))) (eC (.int 2)))) (dE (aK cJ (af (ag 0) (af (eC (.int 3)) (af (eOp bX (eC (.int 1)) (eOp dX (eOp eN (ag 1) (eC (.int 12))) (eC (.int 36)))) (af (eC (.int 9)) (af (eC (.int 8)) av))))))) sNx)
 (dE (aK cJ (af (ag 0) (af (eC (.int 3)) (af (eOp bX (eC (.int 1)) (eOp dX (eOp eN (ag 1) (eC (.int 3))) (eC (.int 18)))) (af (eOp gIx (eK (af (eC (.int 3)) (af (eC (.int 9)) av))) (eOp dX (eOp eN (ag 1) (eC (.int 54))) (eC (.int 2)))) (af (eC (.int 8)) av))))))))))
noncomputable def cR : Fn := cI 1 2 dA
theorem qW {ts : List Nd} {c : F} (p : PT ts c) {a : Nat} (ha : a < ts.length) : ((List.range (ts.length - (a + 1))).filter fun j => decide (eOf ts (a + 1 + j) = (a : Int))).map (fun j => a + 1 + j) = chN ts a := by
 unfold chN;have e : List.range ts.length = List.range (a + 1) ++ (List.range (ts.length - (a + 1))).map fun j => a + 1 + j := by
  rw [← List.range_add, show a + 1 + (ts.length - (a + 1)) = ts.length by lia]
 rw [e, List.filter_append, List.filter_map];have z : (List.range (a + 1)).filter (fun j => decide (eOf ts j = (a : Int))) = [] := by
  rw [List.filter_eq_nil_iff];intro j hj;rw [List.mem_range] at hj;have := wy p (k := j) (by lia)
  rw [decide_eq_true_eq]
  lia
 rw [z, List.nil_append];rfl
theorem vB {ns : List Int} (h : ns ≠ []) : gNe (.list (ns.map PyData.int)) (.list []) = .ok (.sh (.bool true)) := by
 cases ns with
 | nil => exact absurd rfl h
 | cons a as =>
  unfold gNe;rw [oz];unfold iG;rw [gS (lay_ints (a :: as)) (by decide), show SeqAt.shaped (.list []) = true from gS (lay_ints []) (by decide), Bool.and_self, if_pos rfl]
  rfl
theorem mL (ts : List Nd) (c : F) (p : PT ts c) (hl : ts.length ≤ 100) : bR [.list (au ts)] = .ok (.ol (nO (F.R c))) := by
 unfold bR cP;push_cast only [and_self];generalize hL : eR _ _ _ = r
 refine mU hL (fun m ρ => ∃ (f : F) (o : List Nat) (v3 : Option OD), F.Con (chN ts) f ∧ (F.pre f).length = m ∧ (∀ k ∈ F.pre f, k < ts.length) ∧ o ++ F.e8 f = F.R c ∧ ρ = [some (.sh (.list (au ts))), some (.ol (nO o)), some (.ol (nO (F.roots f))), v3])
  ts.length ⟨F.full c, [], _, p.con, by rw [p.preF, List.length_range], (fun k m => by rw [p.preF, List.mem_range] at m; exact m), rfl, rfl⟩
  (fun ρ => ∃ v2 v3 : Option OD, ρ = [some (.sh (.list (au ts))), some (.ol (nO (F.R c))), v2, v3]) ?_ ?_
 ·rintro m ρ ⟨f, o, v3, hc, hm, hk, ho, rfl⟩
  by_cases hf : F.roots f = []
  ·left
   have := qX hf;subst this;rw [F.e8, List.append_nil] at ho;subst ho;have ge : gNe (.list (nD [])) (.list []) = .ok (.sh (.bool false)) := nE (lay_ints []);constructor
   ·push_cast only [kO, F.roots, ge]
   ·exact ⟨_, _, rfl⟩
  ·right
   obtain ⟨g, a, b, r1, r2, r3, r4, r5, r6, r7⟩ := vv hc (fun z => hf (by rw [z]; rfl)) hk
   have ge : gNe (.list (nD (F.roots g ++ [a]))) (.list []) = .ok (.sh (.bool true)) := vB (ns := iL (F.roots g ++ [a])) (by unfold iL; simp)
   have ol : o.length ≤ 100 := by
    have := congrArg List.length ho;rw [List.length_append, p.len] at this
    lia
   have lb1 : ((nO o).length < BIG) = True := by rw [zq]; exact ft (by lia)
   have lb2 : ((nD (F.roots g)).length + (nD (chN ts a)).length ≤ BIG) = True := by
    rw [gX, gX, ← List.length_append, r3];have := F.nA (F.app g b);have q : (F.pre (F.app g b)).length ≤ ts.length := by
     have := congrArg List.length ho;rw [List.length_append, p.len, (F.gk f).length_eq] at this
     lia
    exact bN (by lia)
   rw [r1];constructor
   ·push_cast only [kO, ge]
   ·rw [← qw]
    have em : (a : Int) + 1 = ((a + 1 : Nat) : Int) := by lia
    have s1 : aH ((a + 1 : Nat) : Int) = true := fW (by lia) (by lia)
    have s2 : aH (ts.length : Int) = true := fW (by lia) (by lia)
    push_cast only [wG, lb1, aF, em, s1, s2, Bool.and_self, kO];generalize hC : cw _ _ _ _ _ _ = rc
    have hcnt : ((ts.length : Int) - ((a + 1 : Nat) : Int)).toNat = ts.length - (a + 1) := by lia
    have e := kj hC (fun j : Nat => PyData.int (((a + 1 : Nat) : Int) + (j : Int))) (fun j => decide (eOf ts (a + 1 + j) = (a : Int))) (fun j => .sh (.int ((a + 1 + j : Nat) : Int))) (List.range (ts.length - (a + 1))) (by rw [hcnt]; rfl) (by rw [List.length_range]; exact of_eq_true (bN (by lia))) (by
     intro j hj;rw [List.mem_range] at hj;rw [show ((a + 1 : Nat) : Int) + (j : Int) = ((a + 1 + j : Nat) : Int) by lia]
     obtain ⟨n, hn⟩ : ∃ n, ts[a + 1 + j]? = some n := ⟨ts[a + 1 + j]'(by lia), by simp⟩
     have g1 := eA hn;have g2 := b_ hn;rw [g2];refine ⟨?_, fun _ => ?_⟩
     ·push_cast only [g1]
     ·push_cast only [and_self])
    subst e;clear hC;have e3 : (((List.range (ts.length - (a + 1))).filter fun j => decide (eOf ts (a + 1 + j) = (a : Int))).map fun j => OD.sh (.int ((a + 1 + j : Nat) : Int))) = nO (chN ts a) := by
     rw [← qW p r2, ← p6, List.map_map];rfl
    rw [e3];have e4 : (nD (F.roots g) ++ nD (chN ts a)).map OD.sh = nO (F.roots (F.app g b)) := by
     rw [← r3, ← sI, List.map_append];rfl
    push_cast only [kO, pH, lb2];rw [e4, qw];exact ⟨_, by lia, F.app g b, o ++ [a], _, r4, rfl, r6, by rw [r7]; exact ho, rfl⟩
 ·rintro ρ' rfl ⟨v2, v3, rfl⟩
  push_cast only [and_self]
theorem vV (R : List Nat) (k : Nat) : (iL R).idxOf (k : Int) = R.idxOf k := by
 unfold iL
 induction R with
 | nil => rfl
 | cons a r ih =>
  rw [List.map_cons, List.idxOf_cons, List.idxOf_cons, ih];by_cases h : a = k
  ·subst h
   simp
  ·have h1 : ((a : Int) == (k : Int)) = false := by simp; lia
   have h2 : (a == k) = false := by simp; exact h
   rw [h1, h2]
theorem lg (ts : List Nd) (c : F) (p : PT ts c) (hl : ts.length ≤ 100) : b5 [.list (au ts)] = .ok (.ol ((au (gY ts c)).map OD.sh)) := by
 unfold b5 cX;have len := p.len;push_cast only [mL ts c p hl, kO];generalize hL : b6 _ _ _ _ = r'
 refine dc hL (fun i ρ => ∃ v3 v4 v5 v6 : Option OD, ρ = [some (.sh (.list (au ts))), some (.sh (.list (nD (F.R c)))), some (.ol ((au ((gY ts c).take i)).map OD.sh)), v3, v4, v5, v6]) ⟨_, _, _, _, rfl⟩ ?_ ?_
 ·rintro i d ρ hd ⟨v3, v4, v5, v6, rfl⟩
  have hi : i < (F.R c).length := by
   have := (List.getElem?_eq_some_iff.mp hd).1;rw [gX] at this;exact this
  obtain ⟨k, hk⟩ : ∃ k, (F.R c)[i]? = some k := ⟨(F.R c)[i], by simp⟩
  rw [AL hk] at hd;cases hd;have hkn := p.mem.mp (List.mem_of_getElem? hk);have g1 := eA (w4 hkn);have lb : ((au ((gY ts c).take i)).length < BIG) = True := by rw [aF, List.length_take]; exact ft (by lia)
  have e2 : (au ((gY ts c).take (i + 1))).map OD.sh = (au ((gY ts c).take i)).map OD.sh ++ [OD.sh (.tuple [.int (F.gi c (fj ts k).e), .str (fj ts k).l, .int (fj ts k).t])] := by
   have : (gY ts c)[i]? = some ⟨F.gi c (fj ts k).e, (fj ts k).l, (fj ts k).t⟩ := by
    unfold gY;rw [List.getElem?_map, hk];rfl
   rw [List.take_add_one, this];unfold au;rw [List.map_append, List.map_append];rfl
  rcases p.elder hkn with z | ⟨j, j1, j2⟩
  ·have he : (fj ts k).e = -1 := by rw [m8 hkn, z]
   have d1 : decide ((0 : Int) ≤ (fj ts k).e) = false := decide_eq_false (by lia)
   have gi : F.gi c (fj ts k).e = (fj ts k).e := by rw [he]; rfl
   rw [gi] at e2;push_cast only [g1, d1, lb];rw [← e2];exact ⟨_, _, _, _, rfl⟩
  ·have he : (fj ts k).e = (j : Int) := by rw [m8 hkn, j2]
   have d1 : decide ((0 : Int) ≤ (fj ts k).e) = true := decide_eq_true (by lia)
   have mj : (j : Int) ∈ iL (F.R c) := by unfold iL; exact List.mem_map.mpr ⟨j, p.mem.mpr j1, rfl⟩
   have ix : lB (nD (F.R c)) (.int (fj ts k).e) = .ok (.sh (.int (F.gi c (fj ts k).e))) := by
    rw [he];have := wj (iL (F.R c)) (j : Int) mj;rw [vV] at this;have gi : F.gi c (j : Int) = (((F.R c).idxOf j : Nat) : Int) := by
     unfold F.gi;rw [if_neg (by lia)]
     rfl
    rw [gi];exact this
   push_cast only [g1, d1, lb, ix];rw [← e2];exact ⟨_, _, _, _, rfl⟩
 ·rintro ρ' rfl ⟨v3, v4, v5, v6, rfl⟩
  have e : (gY ts c).take (nD (F.R c)).length = gY ts c := List.take_of_length_le (by rw [km p, gX, len]; exact Nat.le_refl _)
  rw [e];push_cast only [and_self]
theorem uF (ts : List Nd) (hlab : Lb ts) (hl : ts.length ≤ 100) (ns : List Int) (st : Int) (h0 : 0 ≤ st) (h1 : st ≤ 1000) : ∃ us : List Nd, us.length = ts.length ∧ (∀ k, k < ts.length → eOf us k = eOf ts k) ∧ Lb us ∧ bO [.list (au ts), .list (ns.map PyData.int), .int st] = .ok (.ol ((au us).map OD.sh)) := by
 unfold bO dh;have s0 : aH (ts.length : Int) = true := fW (by lia) (by lia)
 push_cast only [aF, s0];rw [Int.toNat_natCast];generalize hL : b6 _ _ _ _ = r
 refine dc hL (fun i ρ => ∃ (us : List Nd) (v4 v5 v6 v7 v8 v9 : Option OD), us.length = i ∧ (∀ k, k < i → eOf us k = eOf ts k) ∧ Lb us ∧ ρ = [some (.sh (.list (au ts))), some (.sh (.list (ns.map PyData.int))), some (.sh (.int st)), some (.ol ((au us).map OD.sh)), v4, v5, v6, v7, v8, v9])
  ⟨[], _, _, _, _, _, _, rfl, (fun k hk => by lia), (fun n hn => by cases hn), rfl⟩ ?_ ?_
 ·rintro i d ρ hd ⟨us, v4, v5, v6, v7, v8, v9, hu, he, hlb, rfl⟩
  obtain ⟨hi, rfl⟩ := dW hd;rw [Int.zero_add];obtain ⟨y, hy⟩ := i5 ns (st + (i : Int)) (by lia) (by lia)
  obtain ⟨n, hn⟩ : ∃ n, ts[i]? = some n := ⟨ts[i]'(by lia), by simp⟩
  have g1 := eA hn;have nl := hlab n (List.mem_of_getElem? hn);have lbn := bN (show n.l.length ≤ 1000 by have := nl.2.1; lia)
  generalize hz : y * 39373 % 2147483629 = z
  have hz2 := cU z (show (0 : Int) < 2 by decide)
  generalize hsz : (n.l.length : Int) / 2 * 2 + z % 2 = sz
  have hcm : fT ((n.l.length : Int) / 2) 2 = true := B2 (by decide) (by decide)
  obtain ⟨cnt, hcnt, c1, c2⟩ : ∃ cnt : Int, lG [.int 1, .int (if 9 < sz then 9 else sz)] = .ok (.sh (.int cnt)) ∧ 1 ≤ cnt ∧ cnt ≤ 9 := by
   rw [uB];refine ⟨_, rfl, ?_, ?_⟩
   ·split <;> (try split) <;> lia
   ·split <;> (try split) <;> lia
  have sc : aH cnt = true := fW (by lia) (by lia)
  obtain ⟨f, hf⟩ : ∃ f : Nat → Nat, ∀ i : Nat, atI (Str.ofString "abcdefghijklmnopqrstuvwxyz").cps.toList (z / (2 + 5 * (0 + (i : Int)) * (0 + (i : Int))) % 26) = some (f i) ∧ (97 ≤ f i ∧ f i ≤ 122) :=
   ⟨fun i => Classical.choose (mH _ (cU (z / (2 + 5 * (0 + (i : Int)) * (0 + (i : Int)))) (show (0 : Int) < 26 by decide)).1 (cU _ (by decide)).2), fun i => Classical.choose_spec (mH _ (cU (z / (2 + 5 * (0 + (i : Int)) * (0 + (i : Int)))) (show (0 : Int) < 26 by decide)).1 (cU _ (by decide)).2)⟩
  push_cast only [hy, hz, g1, lbn, hcm, hsz, hcnt, sc];generalize hL2 : b6 _ _ _ _ = r2
  refine dc hL2 (fun j ρ => ∃ (l : Str) (v : Option OD), ρ = [some (.sh (.list (au ts))), some (.sh (.list (ns.map PyData.int))), some (.sh (.int st)), some (.ol ((au us).map OD.sh)), some (.sh (.int i)), some (.sh (.int z)), some (.sh (.int sz)), some (.sh (.str (Str.ofString "abcdefghijklmnopqrstuvwxyz"))), some (.sh (.str l)), v] ∧ l.length = j ∧ ∀ c ∈ l.cps.toList, 97 ≤ c ∧ c ≤ 122) ⟨_, _, rfl, rfl, fun c hc => by cases hc⟩ ?_ ?_
  ·rintro i d ρ hd ⟨l, v, rfl, hl, hc⟩
   obtain ⟨hi, rfl⟩ := dW hd;have i9 : (i : Int) < 9 := by lia
   have ib : 0 ≤ 5 * (0 + (i : Int)) * (0 + (i : Int)) ∧ 5 * (0 + (i : Int)) * (0 + (i : Int)) ≤ 5 * 8 * 8 := by
    have a1 : 0 ≤ (0 + (i : Int)) := by lia
    have a2 : (0 + (i : Int)) ≤ 8 := by lia
    refine ⟨Int.mul_nonneg (by lia) a1, ?_⟩
    exact Int.mul_le_mul (by lia) a2 a1 (by lia)
   have ec := (hf i).1;have c1 := (hf i).2.1;have c2 := (hf i).2.2;generalize f i = c at ec c1 c2
   have k1 : fT (5 * (0 + (i : Int))) (0 + (i : Int)) = true := pL (by lia) (by lia)
   have k2 : (0 < 2 + 5 * (0 + (i : Int)) * (0 + (i : Int)) ∧ 2 + 5 * (0 + (i : Int)) * (0 + (i : Int)) < 1073741824) = True := eq_true ⟨by lia, by lia⟩
   have k3 : ((Str.ofString "abcdefghijklmnopqrstuvwxyz").length ≤ BIG) = True := by decide +kernel
   have k4 : (l.length + (⟨#[c]⟩ : Str).length ≤ BIG) = True := bN (by rw [hl]; show i + 1 ≤ 1000; lia)
   push_cast only [k1, k2, k3, k4, ec, Option.map_some];refine ⟨_, _, rfl, by rw [nB, hl], fun d hd => ?_⟩
   rw [mf, List.mem_append] at hd;rcases hd with hd | hd
   ·exact hc d hd
   ·have : d = c := by simpa using hd
    lia
  ·rintro ρ' rfl ⟨l, v, rfl, hll, hc⟩
   rw [eI] at hll;have lb : ((au us).length < BIG) = True := by rw [aF]; exact ft (by lia)
   push_cast only [g1, lb];refine ⟨us ++ [⟨n.e, l, 1 + z / 1024 % 9⟩], _, _, _, _, _, _, by rw [List.length_append, hu]; rfl, fun k hk => ?_, fun x hx => ?_, by rw [iE, List.map_append]; rfl⟩
   ·by_cases hk' : k < i
    ·rw [← he k hk']
     unfold eOf;rw [List.getElem?_append_left (by lia)]
    ·have : k = us.length := by lia
     rw [show k = i by lia, b_ hn]
     exact b_ (n := ⟨n.e, l, 1 + z / 1024 % 9⟩) (by rw [← hu]; simp)
   ·rcases List.mem_append.mp hx with hx | hx
    ·exact hlb x hx
    ·rw [List.mem_singleton] at hx
     subst hx;exact ⟨show 1 ≤ l.length by lia, show l.length ≤ 9 by lia, hc⟩
 ·rintro ρ' rfl ⟨us, v4, v5, v6, v7, v8, v9, hu, he, hlb, rfl⟩
  rw [eI] at hu he;exact ⟨us, hu, he, hlb, by push_cast only [and_self]⟩
theorem wa (n : Nd) (r : List Nd) (s : Nat) (hl : r.length ≤ 100) : et [.list (au (n :: r)), .int s] = .ok (.ol ((au (gn s (n :: r))).map OD.sh)) := by
 unfold et fG;have g1 := eA (ts := n :: r) (k := 0) (n := n) rfl;rw [Int.natCast_zero] at g1;have cf : cutD (au (n :: r)) (some 1) none = au r := by
  have := nj (au (n :: r)) 1 (by rw [aF]; simp)
  exact this
 push_cast only [g1, cf, bK];generalize hL : b6 _ _ _ _ = r'
 refine dc hL (fun i ρ => ∃ v3 v4 v5 : Option OD, ρ = [some (.sh (.list (au (n :: r)))), some (.sh (.int s)), some (.ol ((au (⟨0, n.l, n.t⟩ :: (r.take i).map fun m => ⟨m.e + s, m.l, m.t⟩)).map OD.sh)), v3, v4, v5]) ⟨_, _, _, rfl⟩ ?_ ?_
 ·rintro i d ρ hd ⟨v3, v4, v5, rfl⟩
  unfold au at hd;rw [List.getElem?_map] at hd;obtain ⟨m, hm, rfl⟩ := Option.map_eq_some_iff.mp hd;have hi := (List.getElem?_eq_some_iff.mp hm).1;have lb : ((au (⟨0, n.l, n.t⟩ :: (r.take i).map fun m => ⟨m.e + s, m.l, m.t⟩)).length < BIG) = True := by
   rw [aF];exact ft (by simp; lia)
  have t1 : (au (⟨0, n.l, n.t⟩ :: (r.take (i + 1)).map fun m => ⟨m.e + s, m.l, m.t⟩)).map OD.sh = (au (⟨0, n.l, n.t⟩ :: (r.take i).map fun m => ⟨m.e + s, m.l, m.t⟩)).map OD.sh ++ [OD.sh (.tuple [.int (m.e + s), .str m.l, .int m.t])] := by
   rw [List.take_add_one, hm];unfold au;simp [ndD]
  push_cast only [ndD, lb];rw [← t1];exact ⟨_, _, _, rfl⟩
 ·rintro ρ' rfl ⟨v3, v4, v5, rfl⟩
  have e : r.take (au r).length = r := List.take_of_length_le (by rw [aF]; exact Nat.le_refl _)
  rw [e];push_cast only [and_self];rfl
theorem Dk (r : Int) (h0 : 0 ≤ r) (h1 : r < 9) : g0 (Txt.slice (Str.ofString "abcdefghi") none (some (1 + r))) := by
 have all : ∀ r : Fin 9, g0 (Txt.slice (Str.ofString "abcdefghi") none (some (1 + (r.val : Int)))) := by
  unfold g0;decide +kernel
 have := all ⟨r.toNat, by lia⟩
 rw [show ((⟨r.toNat, by lia⟩ : Fin 9).val : Int) = r by show (r.toNat : Int) = r; lia] at this
 exact this
theorem sX (xs : List PyData) (h : 1 ≤ xs.length) : cutD xs none (some (-1)) = xs.dropLast := by
 have e : HT.sIx xs.length xs.length (some (-1)) = xs.length - 1 := by
  unfold HT.sIx;simp
  lia
 unfold cutD;rw [e, List.dropLast_eq_take];rfl
theorem pE (ts : List Nd) : (au ts).dropLast = au ts.dropLast := by unfold au; rw [List.map_dropLast]
theorem qZ (ns : List Int) (st0 many kinds : Int) (q0 : 0 ≤ st0) (q1 : st0 ≤ 20) (m0 : 1 ≤ many) (m1 : many ≤ 8) : ∃ (ts : List Nd) (c : F), PT ts c ∧ Lb ts ∧ ts.length ≤ 30 ∧ dH [.list (ns.map PyData.int), .int st0, .int many, .int kinds] = .ok (.sh (.list (au ts))) := by
 unfold dH eD;obtain ⟨ps, way, hg, hlen, ht⟩ := l_ ns st0 many.toNat 9 6 (by lia) (by lia) (by lia) (by lia) (by decide) (by decide) (by decide) (by decide)
 rw [show ((many.toNat : Nat) : Int) = many by lia] at ht
 obtain ⟨cp, pp, _⟩ := kN hg;have plab : Lb ps := fun n h => (hg.ok n h).1
 have hq : ∀ i : Nat, ∃ us : List Nd, i < 3 → us.length = ps.length ∧ (∀ k, k < ps.length → eOf us k = eOf ps k) ∧ Lb us ∧ bO [.list (au ps), .list (ns.map PyData.int), .int (st0 + 5 + 3 * (i : Int))] = .ok (.ol ((au us).map OD.sh)) := by
  intro i;by_cases hi : i < 3
  ·obtain ⟨us, a⟩ := uF ps plab (by lia) ns (st0 + 5 + 3 * (i : Int)) (by lia) (by lia)
   exact ⟨us, fun _ => a⟩
  ·exact ⟨[], fun h => absurd h hi⟩
 obtain ⟨uf, huf⟩ := Classical.skolem.mp hq;have k9 := cU kinds (show (0 : Int) < 9 by decide)
 have k81 := cU (kinds / 81) (show (0 : Int) < 3 by decide)
 have l9 := Dk (kinds % 9) k9.1 k9.2;generalize hlab : Txt.slice (Str.ofString "abcdefghi") none (some (1 + kinds % 9)) = lab at l9
 have k3 : ((Str.ofString "abcdefghi").length ≤ BIG) = True := by decide +kernel
 have sc : aH (1 + kinds / 81 % 3) = true := fW (by lia) (by lia)
 push_cast only [ht, bK, B8, k3, hlab, sc];generalize hL : b6 _ _ _ _ = r
 refine dc hL (fun i ρ => ∃ (ts : List Nd) (c : F) (v6 v7 : Option OD), PT ts c ∧ Lb ts ∧ ts.length ≤ 1 + 8 * i ∧ ρ = [some (.sh (.list (ns.map PyData.int))), some (.sh (.int st0)), some (.sh (.int many)), some (.sh (.int kinds)), some (.sh (.list (au ps))), some (.sh (.list (au ts))), v6, v7])
  ⟨[⟨-1, lab, 1 + kinds / 9 % 9⟩], F.nil, _, _, ⟨rfl, rfl, trivial⟩, (fun n hn => by rw [List.mem_singleton] at hn; subst hn; exact l9), by simp, rfl⟩ ?_ ?_
 ·rintro i d ρ hd ⟨ts, c, v6, v7, p, tlab, tlen, rfl⟩
  obtain ⟨hi, rfl⟩ := dW hd;rw [Int.zero_add];have hi3 : i < 3 := by lia
  have uu := huf i hi3;have u1 := uu.1;have u2 := uu.2.1;have u3 := uu.2.2.1;have u4 := uu.2.2.2;clear uu;generalize uf i = us at u1 u2 u3 u4
  have pu : PT us cp := vW pp u1 u2;have ib : 0 ≤ (i : Int) * (i : Int) ∧ (i : Int) * (i : Int) ≤ 2 * 2 := ⟨Int.mul_nonneg (by lia) (by lia), Int.mul_le_mul (by lia) (by lia) (by lia) (by lia)⟩
  have c1 : fT (i : Int) (i : Int) = true := pL (by lia) (by lia)
  have c2 : (0 < (i : Int) * (i : Int) + 1 ∧ (i : Int) * (i : Int) + 1 < 1073741824) = True := eq_true ⟨by lia, by lia⟩
  have c3 : (0 < (i : Int) + 1 ∧ (i : Int) + 1 < 1073741824) = True := eq_true ⟨by lia, by lia⟩
  have plen : us.length ≤ 8 := by lia
  push_cast only [u4, bK, c1, c2];generalize hI : ifK _ _ _ _ = r1
  have hr1 : ∃ (ws : List Nd) (d : F), PT ws d ∧ Lb ws ∧ ws.length ≤ 8 ∧ r1 = .ok (.nx [some (.sh (.list (ns.map PyData.int))), some (.sh (.int st0)), some (.sh (.int many)), some (.sh (.int kinds)), some (.sh (.list (au ps))), some (.sh (.list (au ts))), some (.sh (.int i)), some (.sh (.list (au ws)))]) := by
   by_cases hc : kinds / 243 / ((i : Int) * (i : Int) + 1) % 3 = 1
   ·rw [decide_eq_true hc] at hI
    have lm := lg us cp pu (by lia)
    push_cast only [lm, bK] at hI;exact ⟨gY us cp, F.c1 cp, vq pu, vC pu u3, by rw [km pu]; exact plen, hI.symm⟩
   ·rw [decide_eq_false hc] at hI
    push_cast only [and_self] at hI;exact ⟨us, cp, pu, u3, plen, hI.symm⟩
  clear hI;obtain ⟨ws, dw, pw, wlab, wlen, rfl⟩ := hr1;push_cast only [c3, aF];generalize hI : ifK _ _ _ _ = r1
  have hr1 : ∃ (ws : List Nd) (d : F), PT ws d ∧ Lb ws ∧ ws.length ≤ 8 ∧ r1 = .ok (.nx [some (.sh (.list (ns.map PyData.int))), some (.sh (.int st0)), some (.sh (.int many)), some (.sh (.int kinds)), some (.sh (.list (au ps))), some (.sh (.list (au ts))), some (.sh (.int i)), some (.sh (.list (au ws)))]) := by
   by_cases hc : kinds / 729 / ((i : Int) + 1) % 5 = 1
   ·by_cases h1 : 1 < ws.length
    ·have d1 : decide ((1 : Int) < (ws.length : Int)) = true := decide_eq_true (by lia)
     have cl := sX (au ws) (by rw [aF]; lia)
     rw [pE] at cl;rw [decide_eq_true hc] at hI;push_cast only [aF, d1, cl, bK] at hI;obtain ⟨d', pd⟩ := yp pw h1;exact ⟨ws.dropLast, d', pd, fun n hn => wlab n (List.dropLast_subset _ hn), by rw [List.length_dropLast]; lia, hI.symm⟩
    ·have d1 : decide ((1 : Int) < (ws.length : Int)) = false := decide_eq_false (by lia)
     rw [decide_eq_true hc] at hI;push_cast only [aF, d1] at hI;exact ⟨ws, dw, pw, wlab, wlen, hI.symm⟩
   ·rw [decide_eq_false hc] at hI
    push_cast only [and_self] at hI;exact ⟨ws, dw, pw, wlab, wlen, hI.symm⟩
  clear hI;obtain ⟨ws, dw, pw, wlab, wlen, rfl⟩ := hr1;have ph := uZ p pw;obtain ⟨n, rr, rfl⟩ : ∃ n rr, ws = n :: rr := by
   cases ws with
   | nil => exact absurd pw.pos (by simp)
   | cons n rr => exact ⟨n, rr, rfl⟩
  rw [List.length_cons] at wlen;have hh := wa n rr ts.length (by lia)
  have hlen2 : (gn ts.length (n :: rr)).length = rr.length + 1 := by unfold gn; rw [List.length_cons, List.length_map]
  have lb : (ts.length + (gn ts.length (n :: rr)).length ≤ BIG) = True := bN (by rw [hlen2]; lia)
  have ea : au ts ++ au (gn ts.length (n :: rr)) = au (ts ++ gn ts.length (n :: rr)) := by unfold au; rw [List.map_append]
  push_cast only [aF, hh, bK, pH, lb, ea];refine ⟨_, _, _, _, ph, fun x hx => ?_, ?_, rfl⟩
  ·rcases List.mem_append.mp hx with hx | hx
   ·exact tlab x hx
   ·unfold gn at hx
    rcases List.mem_cons.mp hx with rfl | hx
    ·exact wlab n List.mem_cons_self
    ·obtain ⟨m, hm, rfl⟩ := List.mem_map.mp hx
     exact wlab m (List.mem_cons_of_mem _ hm)
  ·rw [List.length_append, hlen2]
   lia
 ·rintro ρ' rfl ⟨ts, c, v6, v7, p, tlab, tlen, rfl⟩
  rw [eI] at tlen;exact ⟨ts, c, p, tlab, by lia, by push_cast only [and_self]⟩
theorem vA (ts : List Nd) (j : Nat) (h : j < ts.length) : e9 [.list (au ts), .int j] = .ok (.sh (.int ((j + 1 + ((ts.drop (j + 1)).takeWhile (inB j)).length : Nat) : Int))) := by
 unfold e9 f9;push_cast only [and_self];generalize hL : eR _ _ _ = r
 refine mU hL (fun m ρ => ∃ i : Nat, m = ts.length - (j + 1 + i) ∧ j + 1 + i ≤ ts.length ∧ ρ = [some (.sh (.list (au ts))), some (.sh (.int j)), some (.sh (.int ((j + 1 + i : Nat) : Int)))] ∧ ∀ k, k < i → ∀ n, (ts.drop (j + 1))[k]? = some n → inB j n = true) (ts.length - (j + 1)) ⟨0, rfl, by lia, by rfl, fun k hk => by lia⟩
  (fun ρ => ρ = [some (.sh (.list (au ts))), some (.sh (.int j)), some (.sh (.int ((j + 1 + ((ts.drop (j + 1)).takeWhile (inB j)).length : Nat) : Int)))]) ?_ ?_
 ·rintro m ρ ⟨i, rfl, hi, rfl, ha⟩
  have fin : (∀ x, (ts.drop (j + 1))[i]? = some x → inB j x = false) → ((ts.drop (j + 1)).takeWhile (inB j)).length = i := fun hx => by
   rw [fJ _ _ i ha hx (by rw [List.length_drop]; lia), List.length_take, List.length_drop]
   lia
  by_cases h1 : ((j + 1 + i : Nat) : Int) < (ts.length : Int)
  ·obtain ⟨n, hn⟩ : ∃ n, ts[j + 1 + i]? = some n := ⟨ts[j + 1 + i]'(by lia), by simp⟩
   have hd : (ts.drop (j + 1))[i]? = some n := by rw [List.getElem?_drop]; exact hn
   have g1 := eA hn;by_cases h2 : (j : Int) ≤ n.e
   ·right
    constructor
    ·push_cast only [aF, decide_eq_true h1, g1, decide_eq_true h2]
    ·push_cast only [and_self]
     refine ⟨_, ?_, i + 1, rfl, by lia, ?_, fun k hk x hx => ?_⟩
     ·lia
     ·have e : ((j + 1 + i : Nat) : Int) + 1 = ((j + 1 + (i + 1) : Nat) : Int) := by lia
      rw [e]
     ·by_cases hk' : k < i
      ·exact ha k hk' x hx
      ·have : k = i := by lia
       subst this;rw [hd] at hx;cases hx;exact decide_eq_true h2
   ·left
    constructor
    ·push_cast only [aF, decide_eq_true h1, g1, decide_eq_false h2]
    ·rw [fin fun x hx => by rw [hd] at hx; cases hx; exact decide_eq_false h2]
  ·left
   constructor
   ·push_cast only [aF, decide_eq_false h1]
   ·rw [fin fun x hx => by
     have := (List.getElem?_eq_some_iff.mp hx).1;rw [List.length_drop] at this
     lia]
 ·rintro ρ' rfl rfl
  push_cast only [and_self]
theorem md (ns : List Int) : ∃ (ts : List Nd) (c : F) (x : OD), PT ts c ∧ Lb ts ∧ ts.length ≤ 40 ∧ x.er = .list (au ts) ∧ cR [.list (ns.map PyData.int)] = .ok x := by
 unfold cR dA;obtain ⟨z, hz⟩ := i5 ns 0 (by decide) (by decide)
 obtain ⟨y, hy⟩ := i5 ns 1 (by decide) (by decide)
 by_cases h1 : z % 3 = 1
 ·have m6 := cU (z / 3) (show (0 : Int) < 6 by decide)
  obtain ⟨ts, c, p, lb, hl, hf⟩ := qZ ns 3 (1 + z / 3 % 6) (y % 2147483647) (by decide) (by decide) (by lia) (by lia)
  exact ⟨ts, c, .sh (.list (au ts)), p, lb, by lia, e7 _, by push_cast only [hz, decide_eq_true h1, hy, hf]⟩
 ·by_cases h2 : z % 12 = 2
  ·have m := cU (z / 12) (show (0 : Int) < 36 by decide)
   obtain ⟨ts, way, hg, hlen, ht⟩ := l_ ns 3 (1 + z / 12 % 36).toNat 9 8 (by decide) (by decide) (by lia) (by lia) (by decide) (by decide) (by decide) (by decide)
   rw [show (((1 + z / 12 % 36).toNat : Nat) : Int) = 1 + z / 12 % 36 by lia] at ht
   obtain ⟨c, p, _⟩ := kN hg;exact ⟨ts, c, _, p, fun n h => (hg.ok n h).1, by lia, by rw [iU, bK], by push_cast only [hz, decide_eq_false h1, decide_eq_true h2, ht]⟩
  ·have m := cU (z / 3) (show (0 : Int) < 18 by decide)
   obtain ⟨most, hm, m1, m2⟩ : ∃ most : Int, atI [PyData.int 3, PyData.int 9] (z / 54 % 2) = some (.int most) ∧ 1 ≤ most ∧ most ≤ 9 := by
    have : z / 54 % 2 = 0 ∨ z / 54 % 2 = 1 := by lia
    rcases this with h | h
    ·exact ⟨3, by rw [h]; exact at0 _ _, by decide, by decide⟩
    ·exact ⟨9, by rw [h]; exact at1 _ _ _, by decide, by decide⟩
   obtain ⟨ts, way, hg, hlen, ht⟩ := l_ ns 3 (1 + z / 3 % 18).toNat most 8 (by decide) (by decide) (by lia) (by lia) m1 m2 (by decide) (by decide)
   rw [show (((1 + z / 3 % 18).toNat : Nat) : Int) = 1 + z / 3 % 18 by lia] at ht
   obtain ⟨c, p, _⟩ := kN hg;exact ⟨ts, c, _, p, fun n h => (hg.ok n h).1, by lia, by rw [iU, bK], by push_cast only [hz, decide_eq_false h1, decide_eq_false h2, hm, ht]⟩
noncomputable def Dn (ts : List Nd) : Nat → Nat → Nat → Prop
 | j, 0, k => k = j
 | j, l + 1, k => ∃ c, c ∈ chN ts j ∧ Dn ts c l k
theorem Dn.snoc {ts : List Nd} {q k : Nat} (hk : k ∈ chN ts q) : ∀ {l j : Nat}, Dn ts j l q → Dn ts j (l + 1) k
 | 0, j, h => by
  have h : q = j := h;subst h;exact ⟨k, hk, rfl⟩
 | l + 1, j, ⟨c, hc, h⟩ => ⟨c, hc, Dn.snoc hk h⟩
structure IsOut (ts : List Nd) (f : Nat → Int) (j : Nat) (o : Ol) : Prop where
 len : ∀ l, l < o.length ↔ ∃ k, Dn ts j l k
 lo : ∀ l p, o[l]? = some p → (∃ k, Dn ts j l k ∧ p.1 = f k - 256 * gv (bh ts) k - f j) ∧ ∀ k, Dn ts j l k → p.1 ≤ f k - 256 * gv (bh ts) k - f j
 hi : ∀ l p, o[l]? = some p → (∃ k, Dn ts j l k ∧ p.2 = f k + 256 * gv (bh ts) k - f j) ∧ ∀ k, Dn ts j l k → f k + 256 * gv (bh ts) k - f j ≤ p.2
theorem IsOut.uniq {ts : List Nd} {f : Nat → Int} {j : Nat} {a b : Ol} (ha : IsOut ts f j a) (hb : IsOut ts f j b) : a = b := by
 have hl : a.length = b.length := by
  have h1 : ∀ l, l < a.length ↔ l < b.length := fun l => by rw [ha.len l, hb.len l]
  have := h1 b.length;have := h1 a.length
  lia
 apply List.ext_getElem?
 intro l;by_cases h : l < a.length
 ·rw [List.getElem?_eq_getElem h, List.getElem?_eq_getElem (by lia)]
  have a1 := ha.lo l _ (List.getElem?_eq_getElem h);have b1 := hb.lo l _ (List.getElem?_eq_getElem (show l < b.length by lia))
  have a2 := ha.hi l _ (List.getElem?_eq_getElem h);have b2 := hb.hi l _ (List.getElem?_eq_getElem (show l < b.length by lia))
  obtain ⟨⟨x, x1, x2⟩, x3⟩ := a1;obtain ⟨⟨y, y1, y2⟩, y3⟩ := b1;obtain ⟨⟨u, u1, u2⟩, u3⟩ := a2;obtain ⟨⟨v, v1, v2⟩, v3⟩ := b2;have q1 := x3 y y1;have q2 := y3 x x1;have q3 := u3 v v1;have q4 := v3 u u1;congr 1
  exact Prod.ext (by lia) (by lia)
 ·rw [List.getElem?_eq_none (by lia), List.getElem?_eq_none (by lia)]
theorem IsOut.shift {ts : List Nd} {f : Nat → Int} {j : Nat} {a : Ol} (ha : IsOut ts f j a) {g : Nat → Int} (z : Int) (h : ∀ l k, Dn ts j l k → g k = f k - z) : IsOut ts g j a := by
 have h0 := h 0 j rfl;refine ⟨ha.len, fun l p hp => ?_, fun l p hp => ?_⟩
 ·obtain ⟨⟨x, x1, x2⟩, x3⟩ := ha.lo l p hp
  exact ⟨⟨x, x1, by rw [h l x x1, h0]; lia⟩, fun k hk => by have := x3 k hk; rw [h l k hk, h0]; lia⟩
 ·obtain ⟨⟨x, x1, x2⟩, x3⟩ := ha.hi l p hp
  exact ⟨⟨x, x1, by rw [h l x x1, h0]; lia⟩, fun k hk => by have := x3 k hk; rw [h l k hk, h0]; lia⟩
theorem rP {ts : List Nd} (gap : Int) (he : EL ts) (h0 : 0 < ts.length) (hl : ts.length ≤ 100) {j i c : Nat} (hj : j < ts.length) (hc : (chN ts j)[i]? = some c) : pos ts gap c = pos ts gap j + gv (stF gap ((chN ts j).map (outF ts gap))) i := by
 have hm := List.mem_of_getElem? hc;obtain ⟨c1, c2⟩ := fS.mp hm;have := (e_ he hm).1;rw [sY he (by lia) c1 c2, vJ gap he h0 hl hj hc]
theorem u6 {ts : List Nd} (gap : Int) (he : EL ts) (h0 : 0 < ts.length) (hl : ts.length ≤ 100) : ∀ m j, j + m = ts.length → j < ts.length → IsOut ts (pos ts gap) j (outF ts gap j) := by
 intro m
 induction m using Nat.strongRecOn with
 | ind m ih =>
  intro j hjm hj;have ihc : ∀ c ∈ chN ts j, IsOut ts (pos ts gap) c (outF ts gap c) := fun c hc => by
   obtain ⟨c1, c2⟩ := e_ he hc;exact ih (ts.length - c) (by lia) c (by lia) c2
  have zero : ∀ p, (outF ts gap j)[0]? = some p → p = (-256 * gv (bh ts) j, 256 * gv (bh ts) j) := fun p hp => by
   rw [iX gap he h0 hl hj] at hp;unfold ini at hp;simp at hp
   exact hp.symm
  by_cases hc : chN ts j = []
  ·have e : outF ts gap j = ini ts j := by rw [iX gap he h0 hl hj, if_pos hc, List.append_nil]
   have no : ∀ l k, ¬ Dn ts j (l + 1) k := fun l k h => by
    obtain ⟨c, c1, _⟩ := h;rw [hc] at c1;cases c1
   have l1 : (outF ts gap j).length = 1 := by rw [e]; rfl
   have lt : ∀ l p, (outF ts gap j)[l]? = some p → l = 0 := fun l p hp => by
    have := (List.getElem?_eq_some_iff.mp hp).1
    lia
   refine ⟨fun l => ?_, fun l p hp => ?_, fun l p hp => ?_⟩
   ·rw [l1]
    constructor
    ·intro h
     have : l = 0 := by lia
     subst this;exact ⟨j, rfl⟩
    ·rintro ⟨k, hk⟩
     cases l with
     | zero => lia
     | succ l => exact absurd hk (no l k)
   ·have := lt l p hp
    subst this;rw [zero p hp];exact ⟨⟨j, rfl, by show _ = _; lia⟩, fun k hk => by have hk : k = j := hk; subst hk; show -256 * _ ≤ _; lia⟩
   ·have := lt l p hp
    subst this;rw [zero p hp];exact ⟨⟨j, rfl, by show _ = _; lia⟩, fun k hk => by have hk : k = j := hk; subst hk; show _ ≤ 256 * _; lia⟩
  ·have hO := uP gap he h0 hl hc
   have e : outF ts gap j = ini ts j ++ jo ((chN ts j).map (outF ts gap)) (stF gap ((chN ts j).map (outF ts gap))) := by rw [iX gap he h0 hl hj, if_neg hc]
   have pc := fun i c (h : (chN ts j)[i]? = some c) => rP gap he h0 hl hj h
   generalize hst : stF gap ((chN ts j).map (outF ts gap)) = st at e pc
   have hne : (chN ts j).map (outF ts gap) ≠ [] := by simp [hc]
   obtain ⟨_, ⟨jm, jm1, jm2⟩, mx⟩ := mY hne;have len1 : (outF ts gap j).length = 1 + mxN ((chN ts j).map (outF ts gap)) := by rw [e, List.length_append, sH]; rfl
   have lenO_at : ∀ i c, (chN ts j)[i]? = some c → ir ((chN ts j).map (outF ts gap)) i = (outF ts gap c).length := fun i c h => by unfold ir; rw [List.getElem?_map, h]; rfl
   have oA_at : ∀ i c l, (chN ts j)[i]? = some c → oA ((chN ts j).map (outF ts gap)) i l = ((outF ts gap c)[l]?).getD (0, 0) := fun i c l h => by unfold oA; rw [List.getElem?_map, h]; rfl
   have th : ∀ l i, i ∈ there ((chN ts j).map (outF ts gap)) l ↔ ∃ c, (chN ts j)[i]? = some c ∧ l < (outF ts gap c).length := fun l i => by
    unfold there;rw [List.mem_filter, List.mem_range, decide_eq_true_eq, List.length_map];constructor
    ·rintro ⟨a, b⟩
     have g : (chN ts j)[i]? = some (chN ts j)[i] := List.getElem?_eq_getElem a;exact ⟨_, g, by rw [← lenO_at i _ g]; exact b⟩
    ·rintro ⟨c, c1, c2⟩
     exact ⟨(List.getElem?_eq_some_iff.mp c1).1, by rw [lenO_at i c c1]; exact c2⟩
   have succ : ∀ l p, (outF ts gap j)[l + 1]? = some p → l < mxN ((chN ts j).map (outF ts gap)) ∧ p = jl ((chN ts j).map (outF ts gap)) st l := fun l p hp => by
    have hlt := (List.getElem?_eq_some_iff.mp hp).1;rw [len1] at hlt;have h2 : l < mxN ((chN ts j).map (outF ts gap)) := by lia
    refine ⟨h2, ?_⟩;rw [e] at hp;unfold ini jo at hp;rw [List.cons_append, List.nil_append, List.getElem?_cons_succ, List.getElem?_map, List.getElem?_range h2] at hp;exact (Option.some.inj hp).symm
   refine ⟨fun l => ?_, fun l p hp => ?_, fun l p hp => ?_⟩
   ·cases l with
    | zero => exact ⟨fun _ => ⟨j, rfl⟩, fun _ => by lia⟩
    | succ l =>
     rw [len1];constructor
     ·intro h
      have tn := iV hne (show l < mxN ((chN ts j).map (outF ts gap)) by lia)
      obtain ⟨i, hi⟩ := List.exists_mem_of_ne_nil _ tn;obtain ⟨c, c1, c2⟩ := (th l i).mp hi;have cm := List.mem_of_getElem? c1;obtain ⟨k, hk⟩ := ((ihc c cm).len l).mp c2;exact ⟨k, c, cm, hk⟩
     ·rintro ⟨k, c, cm, hk⟩
      have c2 := ((ihc c cm).len l).mpr ⟨k, hk⟩;obtain ⟨i, il, ie⟩ := List.getElem_of_mem cm;have := mx i (by rw [List.length_map]; exact il)
      rw [lenO_at i c (by rw [List.getElem?_eq_getElem il, ie])] at this
      lia
   ·cases l with
    | zero =>
     rw [zero p hp];exact ⟨⟨j, rfl, by show _ = _; lia⟩, fun k hk => by have hk : k = j := hk; subst hk; show -256 * _ ≤ _; lia⟩
    | succ l =>
     obtain ⟨h2, rfl⟩ := succ l p hp;have tn := iV hne h2;obtain ⟨s1, s2⟩ := qL (xs := (there ((chN ts j).map (outF ts gap)) l).map fun i => gv st i + (oA ((chN ts j).map (outF ts gap)) i l).1) (fun z => tn (List.map_eq_nil_iff.mp z))
     refine ⟨?_, ?_⟩
     ·obtain ⟨i, hi, ei⟩ := List.mem_map.mp s1
      obtain ⟨c, c1, c2⟩ := (th l i).mp hi;have cm := List.mem_of_getElem? c1;obtain ⟨⟨k, k1, k2⟩, _⟩ := (ihc c cm).lo l _ (List.getElem?_eq_getElem c2);refine ⟨k, ⟨c, cm, k1⟩, ?_⟩;show n9 _ = _
      rw [← ei, oA_at i c l c1, List.getElem?_eq_getElem c2];show gv st i + (outF ts gap c)[l].1 = _
      rw [k2, pc i c c1]
      lia
     ·rintro k ⟨c, cm, hk⟩
      obtain ⟨i, il, ie⟩ := List.getElem_of_mem cm;have c1 : (chN ts j)[i]? = some c := by rw [List.getElem?_eq_getElem il, ie]
      have c2 := ((ihc c cm).len l).mpr ⟨k, hk⟩;have q := s2 _ (List.mem_map.mpr ⟨i, (th l i).mpr ⟨c, c1, c2⟩, rfl⟩);rw [oA_at i c l c1, List.getElem?_eq_getElem c2] at q;have q : n9 _ ≤ gv st i + (outF ts gap c)[l].1 := q;have := ((ihc c cm).lo l _ (List.getElem?_eq_getElem c2)).2 k hk;have pcc := pc i c c1;show n9 _ ≤ _
      lia
   ·cases l with
    | zero =>
     rw [zero p hp];exact ⟨⟨j, rfl, by show _ = _; lia⟩, fun k hk => by have hk : k = j := hk; subst hk; show _ ≤ 256 * _; lia⟩
    | succ l =>
     obtain ⟨h2, rfl⟩ := succ l p hp;have tn := iV hne h2;obtain ⟨s1, s2⟩ := jw (xs := (there ((chN ts j).map (outF ts gap)) l).map fun i => gv st i + (oA ((chN ts j).map (outF ts gap)) i l).2) (fun z => tn (List.map_eq_nil_iff.mp z))
     refine ⟨?_, ?_⟩
     ·obtain ⟨i, hi, ei⟩ := List.mem_map.mp s1
      obtain ⟨c, c1, c2⟩ := (th l i).mp hi;have cm := List.mem_of_getElem? c1;obtain ⟨⟨k, k1, k2⟩, _⟩ := (ihc c cm).hi l _ (List.getElem?_eq_getElem c2);refine ⟨k, ⟨c, cm, k1⟩, ?_⟩;show j3 _ = _
      rw [← ei, oA_at i c l c1, List.getElem?_eq_getElem c2];show gv st i + (outF ts gap c)[l].2 = _
      rw [k2, pc i c c1]
      lia
     ·rintro k ⟨c, cm, hk⟩
      obtain ⟨i, il, ie⟩ := List.getElem_of_mem cm;have c1 : (chN ts j)[i]? = some c := by rw [List.getElem?_eq_getElem il, ie]
      have c2 := ((ihc c cm).len l).mpr ⟨k, hk⟩;have q := s2 _ (List.mem_map.mpr ⟨i, (th l i).mpr ⟨c, c1, c2⟩, rfl⟩);rw [oA_at i c l c1, List.getElem?_eq_getElem c2] at q;have q : gv st i + (outF ts gap c)[l].2 ≤ j3 _ := q;have := ((ihc c cm).hi l _ (List.getElem?_eq_getElem c2)).2 k hk;have pcc := pc i c c1;show _ ≤ j3 _
      lia
noncomputable def di : Fs := (aC (aQ 3 (eK (af (eC (.int 0)) av)))
 (aC (eM (gB (eSl mq (ag 0) (gw (eC (.int 1))) jU)) (gTp 3 (bC (gNm 4) (bC (gNm 5) (bC (gNm 6) fP)))) (gR 3 (pC (eOp bX (eOp gIx (ag 3) (ag 4)) (eC (.int 1))))))
 (aC (aQ 7 (eK av))
 (aC (jx 3 (eM (iR2 (ag 2) (aK e9 (af (ag 0) (af (ag 2) av)))) (gNm 8) (aC (aQ 9 (eOp dU (eC (.int 256)) (eOp eN (eB cB (af (eOp gIx (eOp gIx (ag 0) (ag 8)) (eC (.int 1))) av)) (eC (.int 2)))))
 (aC (aQ 10 (fu (af (eOp dB (eOp dB (eOp gIx (ag 1) (ag 8)) (ag 9)) (eOp gIx (ag 1) (ag 2))) (af (eOp dB (eOp bX (eOp gIx (ag 1) (ag 8)) (ag 9)) (eOp gIx (ag 1) (ag 2))) av))))
 (aC (aQ 11 (eOp dB (eOp gIx (ag 3) (ag 8)) (eOp gIx (ag 3) (ag 2))))
 (aC (sIf (q8 (ba (eOp gEq (ag 11) (eB cB (af (ag 7) av))))) (gR 7 (ag 10)) sNx)
 (lz 7 (ag 11) (fu (af (pC (eB l5 (af (eOp gIx (eOp gIx (ag 7) (ag 11)) (eC (.int 0))) (af (eOp gIx (ag 10) (eC (.int 0))) av)))) (af (pC (eB lG (af (eOp gIx (eOp gIx (ag 7) (ag 11)) (eC (.int 1))) (af (eOp gIx (ag 10) (eC (.int 1))) av)))) av))))))))))
 (fv 7)))))
noncomputable def bu : Fn := cI 3 12 di
noncomputable def lvN (ts : List Nd) (k : Nat) : Nat := ((lvs ts)[k]?).getD 0
theorem lT {ts : List Nd} (he : EL ts) {j c : Nat} (h : c ∈ chN ts j) : lvN ts c = lvN ts j + 1 := by
 obtain ⟨c1, c2⟩ := fS.mp h;have hg := (e_ he h).1;obtain ⟨n, hn⟩ : ∃ n, ts[c]? = some n := ⟨ts[c], by simp [c1]⟩
 rw [b_ hn] at c2;unfold lvN;rw [vS hn];show fL _ n = _
 unfold fL;rw [if_neg (by lia), c2, Int.toNat_natCast, ← oa, List.getElem?_take_of_lt hg]
theorem jL {ts : List Nd} (he : EL ts) : ∀ {l j k : Nat}, j < ts.length → Dn ts j l k → lvN ts k = lvN ts j + l ∧ j ≤ k ∧ k < ts.length
 | 0, j, k, hj, h => by
  have h : k = j := h;subst h;exact ⟨rfl, Nat.le_refl _, hj⟩
 | l + 1, j, k, hj, ⟨c, hc, h⟩ => by
  have g := e_ he hc;obtain ⟨a, b, d⟩ := jL he g.2 h;rw [lT he hc] at a;exact ⟨by lia, by lia, d⟩
theorem uL {ts : List Nd} {c : F} (p : PT ts c) {j : Nat} (hj : j < ts.length) : ∃ s, ((ts.drop (j + 1)).takeWhile (inB j)).length = s ∧ j + 1 + s ≤ ts.length ∧ (∀ k, j < k → k ≤ j + s → (j : Int) ≤ eOf ts k) ∧
  ∀ b, b < ts.length → (j : Int) ≤ eOf ts b → eOf ts b ≤ ((j + s : Nat) : Int) → j < b ∧ b ≤ j + s := by
 obtain ⟨s, q1, q2, q3, q4⟩ := sy p hj;have at1 : ∀ k, (ts.drop (j + 1))[k]? = ts[j + 1 + k]? := fun k => List.getElem?_drop
 refine ⟨s, m5 _ _ s (by rw [List.length_drop]; lia) (fun k hk x hx => ?_) (fun x hx => ?_), q1, q2, q4⟩
 ·rw [at1] at hx
  have := q2 (j + 1 + k) (by lia) (by lia)
  rw [b_ hx] at this;exact decide_eq_true this
 ·rw [at1] at hx
  have hlt := (List.getElem?_eq_some_iff.mp hx).1;have := q3 hlt;rw [b_ hx] at this;exact decide_eq_false (by lia)
theorem me {ts : List Nd} (he : EL ts) {j s : Nat} (q : ∀ b, b < ts.length → (j : Int) ≤ eOf ts b → eOf ts b ≤ ((j + s : Nat) : Int) → j < b ∧ b ≤ j + s) : ∀ {l i k : Nat}, j ≤ i → i ≤ j + s → Dn ts i l k → k ≤ j + s
 | 0, i, k, _, h, hd => by
  have hd : k = i := hd
  lia
 | l + 1, i, k, h1, h2, ⟨c, hc, hd⟩ => by
  obtain ⟨c1, c2⟩ := fS.mp hc;have := q c c1 (by lia) (by lia)
  exact me he q (by lia) this.2 hd
theorem sr {ts : List Nd} (he : EL ts) {j s : Nat} (hj : j + s < ts.length) (q : ∀ k, j < k → k ≤ j + s → (j : Int) ≤ eOf ts k) (k : Nat) (h1 : j ≤ k) (h2 : k ≤ j + s) : ∃ l, Dn ts j l k := by
 induction k using Nat.strongRecOn with
 | ind k ih =>
  by_cases hk : k = j
  ·exact ⟨0, hk⟩
  ·have e1 := q k (by lia) h2
   obtain ⟨n, hn⟩ : ∃ n, ts[k]? = some n := ⟨ts[k]'(by lia), by simp⟩
   have lt := (he k n hn).2.2;rw [← b_ hn] at lt;obtain ⟨x, hx⟩ : ∃ x : Nat, eOf ts k = (x : Int) := ⟨(eOf ts k).toNat, by lia⟩
   obtain ⟨l, hl⟩ := ih x (by lia) (by lia) (by lia)
   exact ⟨l + 1, Dn.snoc (fS.mpr ⟨by lia, hx⟩) hl⟩
structure IsUp (ts : List Nd) (f : Nat → Int) (j i : Nat) (o : Ol) : Prop where
 len : ∀ l, l < o.length ↔ ∃ k, k < i ∧ Dn ts j l k
 lo : ∀ l p, o[l]? = some p → (∃ k, k < i ∧ Dn ts j l k ∧ p.1 = f k - 256 * gv (bh ts) k - f j) ∧ ∀ k, k < i → Dn ts j l k → p.1 ≤ f k - 256 * gv (bh ts) k - f j
 hi : ∀ l p, o[l]? = some p → (∃ k, k < i ∧ Dn ts j l k ∧ p.2 = f k + 256 * gv (bh ts) k - f j) ∧ ∀ k, k < i → Dn ts j l k → f k + 256 * gv (bh ts) k - f j ≤ p.2
noncomputable def j4 (a b : Int) : Int := if b < a then b else a
noncomputable def j0 (a b : Int) : Int := if a < b then b else a
theorem IsUp.step {ts : List Nd} (he : EL ts) {f : Nat → Int} {j i l : Nat} {o : Ol} (hj : j < ts.length) (h : IsUp ts f j i o) (hd : Dn ts j l i) (hl : l ≤ o.length) (o2 : Ol) (h2 : o2 = if l = o.length then o ++ [(f i - 256 * gv (bh ts) i - f j, f i + 256 * gv (bh ts) i - f j)] else o) :
  ∃ q, o2[l]? = some q ∧ IsUp ts f j (i + 1) (o2.set l (j4 q.1 (f i - 256 * gv (bh ts) i - f j), j0 q.2 (f i + 256 * gv (bh ts) i - f j))) := by
 have uniq : ∀ l', Dn ts j l' i → l' = l := fun l' h' => by
  have a := (jL he hj h').1;have b := (jL he hj hd).1
  lia
 by_cases e : l = o.length
 ·rw [if_pos e] at h2
  have gq : o2[l]? = some (f i - 256 * gv (bh ts) i - f j, f i + 256 * gv (bh ts) i - f j) := by rw [h2, e]; simp
  refine ⟨_, gq, ?_⟩;have mz : ∀ z : Int, j4 z z = z := fun z => by unfold j4; rw [if_neg (by lia)]
  have xz : ∀ z : Int, j0 z z = z := fun z => by unfold j0; rw [if_neg (by lia)]
  have se : o2.set l (j4 (f i - 256 * gv (bh ts) i - f j) (f i - 256 * gv (bh ts) i - f j), j0 (f i + 256 * gv (bh ts) i - f j) (f i + 256 * gv (bh ts) i - f j)) = o2 := by
   rw [mz, xz];apply List.ext_getElem?
   intro t;by_cases ht : l = t
   ·subst ht
    rw [List.getElem?_set_self (List.getElem?_eq_some_iff.mp gq).1, gq]
   ·rw [List.getElem?_set_ne ht]
  show IsUp ts f j (i + 1) (o2.set l (j4 (f i - 256 * gv (bh ts) i - f j) (f i - 256 * gv (bh ts) i - f j), j0 (f i + 256 * gv (bh ts) i - f j) (f i + 256 * gv (bh ts) i - f j)))
  rw [se];have none' : ∀ k, k < i → ¬ Dn ts j l k := fun k hk hd' => by
   have := (h.len l).mpr ⟨k, hk, hd'⟩
   lia
  have old : ∀ t p, t ≠ l → o2[t]? = some p → o[t]? = some p := fun t p ht hp => by
   rw [h2] at hp;by_cases htl : t < o.length
   ·rw [List.getElem?_append_left htl] at hp
    exact hp
   ·have := (List.getElem?_eq_some_iff.mp hp).1
    rw [List.length_append, List.length_singleton] at this
    lia
  refine ⟨fun t => ?_, fun t p hp => ?_, fun t p hp => ?_⟩
  ·rw [h2, List.length_append, List.length_singleton]
   constructor
   ·intro ht
    by_cases htl : t < o.length
    ·obtain ⟨k, k1, k2⟩ := (h.len t).mp htl
     exact ⟨k, by lia, k2⟩
    ·have : t = l := by lia
     subst this;exact ⟨i, by lia, hd⟩
   ·rintro ⟨k, k1, k2⟩
    by_cases hk : k = i
    ·subst hk
     have := uniq t k2
     lia
    ·have := (h.len t).mpr ⟨k, by lia, k2⟩
     lia
  ·by_cases ht : t = l
   ·subst ht
    rw [gq] at hp;have hp := (Option.some.inj hp).symm;subst hp;exact ⟨⟨i, by lia, hd, rfl⟩, fun k k1 k2 => by
     by_cases hk : k = i
     ·subst hk; exact Int.le_refl _
     ·exact absurd k2 (none' k (by lia))⟩
   ·obtain ⟨⟨k, k1, k2, k3⟩, k4⟩ := h.lo t p (old t p ht hp)
    exact ⟨⟨k, by lia, k2, k3⟩, fun x x1 x2 => by
     by_cases hx : x = i
     ·subst hx; exact absurd (uniq t x2) ht
     ·exact k4 x (by lia) x2⟩
  ·by_cases ht : t = l
   ·subst ht
    rw [gq] at hp;have hp := (Option.some.inj hp).symm;subst hp;exact ⟨⟨i, by lia, hd, rfl⟩, fun k k1 k2 => by
     by_cases hk : k = i
     ·subst hk; exact Int.le_refl _
     ·exact absurd k2 (none' k (by lia))⟩
   ·obtain ⟨⟨k, k1, k2, k3⟩, k4⟩ := h.hi t p (old t p ht hp)
    exact ⟨⟨k, by lia, k2, k3⟩, fun x x1 x2 => by
     by_cases hx : x = i
     ·subst hx; exact absurd (uniq t x2) ht
     ·exact k4 x (by lia) x2⟩
 ·rw [if_neg e] at h2
  have h2' := h2.symm;subst h2';have hlt : l < o.length := by lia
  have gq : o[l]? = some o[l] := List.getElem?_eq_getElem hlt;refine ⟨_, gq, fun t => ?_, fun t p hp => ?_, fun t p hp => ?_⟩
  ·rw [List.length_set]
   constructor
   ·intro ht
    obtain ⟨k, k1, k2⟩ := (h.len t).mp ht;exact ⟨k, by lia, k2⟩
   ·rintro ⟨k, k1, k2⟩
    by_cases hk : k = i
    ·subst hk
     have := uniq t k2
     lia
    ·exact (h.len t).mpr ⟨k, by lia, k2⟩
  ·by_cases ht : l = t
   ·subst ht
    rw [List.getElem?_set_self hlt] at hp;have hp := (Option.some.inj hp).symm;subst hp;obtain ⟨⟨k, k1, k2, k3⟩, k4⟩ := h.lo l _ gq;show (∃ k, k < i + 1 ∧ Dn ts j l k ∧ j4 o[l].1 (f i - 256 * gv (bh ts) i - f j) = _) ∧ ∀ k, k < i + 1 → Dn ts j l k → j4 o[l].1 (f i - 256 * gv (bh ts) i - f j) ≤ _
    unfold j4;split
    ·exact ⟨⟨i, by lia, hd, rfl⟩, fun x x1 x2 => by
      by_cases hx : x = i
      ·subst hx; exact Int.le_refl _
      ·have := k4 x (by lia) x2; lia⟩
    ·exact ⟨⟨k, by lia, k2, k3⟩, fun x x1 x2 => by
      by_cases hx : x = i
      ·subst hx; lia
      ·exact k4 x (by lia) x2⟩
   ·rw [List.getElem?_set_ne ht] at hp
    obtain ⟨⟨k, k1, k2, k3⟩, k4⟩ := h.lo t p hp;exact ⟨⟨k, by lia, k2, k3⟩, fun x x1 x2 => by
     by_cases hx : x = i
     ·subst hx; exact absurd (uniq t x2).symm ht
     ·exact k4 x (by lia) x2⟩
  ·by_cases ht : l = t
   ·subst ht
    rw [List.getElem?_set_self hlt] at hp;have hp := (Option.some.inj hp).symm;subst hp;obtain ⟨⟨k, k1, k2, k3⟩, k4⟩ := h.hi l _ gq;show (∃ k, k < i + 1 ∧ Dn ts j l k ∧ j0 o[l].2 (f i + 256 * gv (bh ts) i - f j) = _) ∧ ∀ k, k < i + 1 → Dn ts j l k → _ ≤ j0 o[l].2 (f i + 256 * gv (bh ts) i - f j)
    unfold j0;split
    ·exact ⟨⟨i, by lia, hd, rfl⟩, fun x x1 x2 => by
      by_cases hx : x = i
      ·subst hx; exact Int.le_refl _
      ·have := k4 x (by lia) x2; lia⟩
    ·exact ⟨⟨k, by lia, k2, k3⟩, fun x x1 x2 => by
      by_cases hx : x = i
      ·subst hx; lia
      ·exact k4 x (by lia) x2⟩
   ·rw [List.getElem?_set_ne ht] at hp
    obtain ⟨⟨k, k1, k2, k3⟩, k4⟩ := h.hi t p hp;exact ⟨⟨k, by lia, k2, k3⟩, fun x x1 x2 => by
     by_cases hx : x = i
     ·subst hx; exact absurd (uniq t x2).symm ht
     ·exact k4 x (by lia) x2⟩
theorem oM (os : Ol) (k : Nat) (p : Int × Int) : ((bM os).map OD.sh).set k (.sh (.tuple [.int p.1, .int p.2])) = (bM (os.set k p)).map OD.sh := by unfold bM; rw [List.map_set, List.map_set]
theorem vU {ts : List Nd} {k : Nat} {n : Nd} (h : ts[k]? = some n) : gv (bh ts) k = (n.l.length : Int) / 2 := by
 unfold gv bh;rw [List.getElem?_map, h];rfl
theorem t9 {ts : List Nd} {k : Nat} (h : k < ts.length) : (lvs ts)[k]? = some (lvN ts k) := by
 unfold lvN;rw [List.getElem?_eq_getElem (by rw [fX]; exact h)]
 rfl
theorem lx (ts : List Nd) (c : F) (p : PT ts c) (hlab : ∀ n ∈ ts, n.l.length ≤ 1000) (hl : ts.length ≤ 100) (pl : List Int) (hpl : pl.length = ts.length) (j : Nat) (hj : j < ts.length) :
  ∃ o : Ol, IsOut ts (gv pl) j o ∧ bu [.list (au ts), .list (pl.map PyData.int), .int j] = .ok (.ol ((bM o).map OD.sh)) := by
 unfold bu di;have he := gA p;have h0 : 0 < ts.length := by lia
 have c1 : cutD (au ts) (some 1) none = (au ts).drop 1 := nj (au ts) 1 (by rw [aF]; lia)
 obtain ⟨n0, hn0⟩ : ∃ n, ts[0]? = some n := ⟨ts[0], by simp [h0]⟩
 have l0 : lvs (ts.take 1) = [0] := by
  rw [take_snoc (i := 0) hn0, List.take_zero];show [fL [] n0] = [0]
  unfold fL;rw [if_pos ((he 0 n0 hn0).1 rfl)]
 push_cast only [c1, bK];generalize hL : b6 _ _ _ _ = r'
 refine dc hL (fun i ρ => ∃ v4 v5 v6 : Option OD, ρ = [some (.sh (.list (au ts))), some (.sh (.list (pl.map PyData.int))), some (.sh (.int j)), some (.ol ((j7 (lvs (ts.take (i + 1)))).map OD.sh)), v4, v5, v6, none, none, none, none, none]) ⟨_, _, _, by rw [l0]; rfl⟩ ?_ ?_
 ·rintro i d ρ hd ⟨v4, v5, v6, rfl⟩
  rw [List.getElem?_drop] at hd;unfold au at hd;rw [List.getElem?_map] at hd;obtain ⟨n, hn, rfl⟩ := Option.map_eq_some_iff.mp hd;rw [Nat.add_comm] at hn;have hi := (List.getElem?_eq_some_iff.mp hn).1;have lb : ((j7 (lvs (ts.take (i + 1)))).length < BIG) = True := by rw [ui, fX, List.length_take]; exact ft (by lia)
  have e0 : (lvs (ts.take (i + 1 + 1))) = lvs (ts.take (i + 1)) ++ [fL (lvs (ts.take (i + 1))) n] := by rw [take_snoc hn, g8]
  have el := he (i + 1) n hn;obtain ⟨k, hk⟩ : ∃ k : Nat, n.e = (k : Int) := ⟨n.e.toNat, by have := el.2.1 (by lia); lia⟩
  have hki : k < i + 1 := by have := el.2.2; lia
  obtain ⟨v, hv⟩ : ∃ v, (lvs (ts.take (i + 1)))[k]? = some v := ⟨(lvs (ts.take (i + 1)))[k]'(by rw [fX, List.length_take]; lia), by simp⟩
  have e1 : fL (lvs (ts.take (i + 1))) n = v + 1 := by unfold fL; rw [if_neg (by lia), hk, Int.toNat_natCast, hv]; rfl
  rw [e1] at e0;have sn := q_ (lvs (ts.take (i + 1))) (v + 1);rw [← e0, Int.natCast_add, Int.natCast_one] at sn;have ga := mR hv;push_cast only [ndD, hk, lb, bK, ga, sn];exact ⟨_, _, _, rfl⟩
 ·rintro ρ' rfl ⟨v4, v5, v6, rfl⟩
  rw [List.length_drop, aF, show ts.length - 1 + 1 = ts.length by lia, List.take_of_length_le (Nat.le_refl _)]
  obtain ⟨s, q0, q1, q2, q4⟩ := uL p hj;have le := vA ts j hj;rw [q0] at le;have s1 : aH (j : Int) = true := fW (by lia) (by lia)
  have s2 : aH ((j + 1 + s : Nat) : Int) = true := fW (by lia) (by lia)
  push_cast only [bK, le, s1, s2, Bool.and_self];generalize hL2 : b6 _ _ _ _ = r2
  refine dc hL2 (fun i ρ => ∃ (o : Ol) (v8 v9 v10 v11 : Option OD), IsUp ts (gv pl) j (j + i) o ∧ ρ = [some (.sh (.list (au ts))), some (.sh (.list (pl.map PyData.int))), some (.sh (.int j)), some (.sh (.list (j7 (lvs ts)))), v4, v5, v6, some (.ol ((bM o).map OD.sh)), v8, v9, v10, v11])
   ⟨[], _, _, _, _, ⟨fun l => ⟨fun h => by simp at h, fun ⟨k, k1, k2⟩ => by have := (jL he hj k2).2.1; lia⟩, fun l p h => by simp at h, fun l p h => by simp at h⟩, rfl⟩ ?_ ?_
  ·rintro i d ρ hd ⟨o, v8, v9, v10, v11, up, rfl⟩
   obtain ⟨hi, rfl⟩ := dW hd;have his : i ≤ s := by lia
   have ek : (j : Int) + (i : Int) = ((j + i : Nat) : Int) := by lia
   rw [ek];have hkl : j + i < ts.length := by lia
   obtain ⟨n, hn⟩ : ∃ n, ts[j + i]? = some n := ⟨ts[j + i], by simp [hkl]⟩
   have g1 := eA hn;have nl := bN (hlab n (List.mem_of_getElem? hn));have rc := vU hn;have g2 := jE (st := pl) (j := j + i) (by lia)
   have g3 := jE (st := pl) (j := j) (by lia)
   have g4 := mR (t9 hkl);have g5 := mR (t9 hj);obtain ⟨l, hd⟩ := sr he (by lia) q2 (j + i) (by lia) (by lia)
   have lv := (jL he hj hd).1;have el : (lvN ts (j + i) : Int) - (lvN ts j : Int) = (l : Int) := by lia
   have hlo : l ≤ o.length := by
    by_cases h1 : i = 0
    ·subst h1
     have lv' : lvN ts j = lvN ts j + l := lv
     lia
    ·have e1 := q2 (j + i) (by lia) (by lia)
     have lt := (he (j + i) n hn).2.2;rw [← b_ hn] at lt;obtain ⟨x, hx⟩ : ∃ x : Nat, eOf ts (j + i) = (x : Int) := ⟨(eOf ts (j + i)).toNat, by lia⟩
     obtain ⟨l', hl'⟩ := sr he (by lia) q2 x (by lia) (by lia)
     have a := (jL he hj hl').1;have b := lT he (fS.mpr ⟨hkl, hx⟩);have := (up.len l').mpr ⟨x, by lia, hl'⟩
     lia
   have olen : o.length ≤ i + 1 := by
    have : ∀ t, t < o.length → t ≤ i := fun t ht => by
     obtain ⟨k, k1, k2⟩ := (up.len t).mp ht;have a := jL he hj k2;have c : ∀ l j k, Dn ts j l k → j + l ≤ k := by
      intro l
      induction l with
      | zero => intro j k h; have h : k = j := h; lia
      | succ l ih =>
       rintro j k ⟨c, hc, h⟩;have := ih c k h;have := (e_ he hc).1
       lia
     have := c t j k k2
     lia
    by_cases h0 : o.length = 0
    ·lia
    ·have := this (o.length - 1) (by lia)
     lia
   have hfun : gv pl (j + i) - 256 * ((n.l.length : Int) / 2) - gv pl j = gv pl (j + i) - 256 * gv (bh ts) (j + i) - gv pl j := by rw [rc]
   have hfun2 : gv pl (j + i) + 256 * ((n.l.length : Int) / 2) - gv pl j = gv pl (j + i) + 256 * gv (bh ts) (j + i) - gv pl j := by rw [rc]
   have erv : ∀ (v : Option OD) (ρ : L3.Env), erase (v :: ρ) = (v.map fun x => OD.sh x.er) :: erase ρ := fun _ _ => rfl
   by_cases hc : l = o.length
   ·obtain ⟨q, hq, up2⟩ := IsUp.step he hj up hd hlo (o ++ [(gv pl (j + i) - 256 * gv (bh ts) (j + i) - gv pl j, gv pl (j + i) + 256 * gv (bh ts) (j + i) - gv pl j)]) (by rw [if_pos hc])
    have d1 : decide ((l : Int) = ((bM o).length : Int)) = true := decide_eq_true (by rw [dY]; lia)
    have lb : ((bM o).length < BIG) = True := by rw [dY]; exact ft (by lia)
    have sn := lI o (gv pl (j + i) - 256 * gv (bh ts) (j + i) - gv pl j, gv pl (j + i) + 256 * gv (bh ts) (j + i) - gv pl j);generalize o ++ [(gv pl (j + i) - 256 * gv (bh ts) (j + i) - gv pl j, gv pl (j + i) + 256 * gv (bh ts) (j + i) - gv pl j)] = o2 at hq up2 sn
    have ga := kH hq;have ol2 := (List.getElem?_eq_some_iff.mp hq).1;have ix : ixN ((bM o2).map OD.sh).length (l : Int) = some l := ij (by rw [List.length_map, dY]; exact ol2)
    have st := oM o2 l (j4 q.1 (gv pl (j + i) - 256 * gv (bh ts) (j + i) - gv pl j), j0 q.2 (gv pl (j + i) + 256 * gv (bh ts) (j + i) - gv pl j));push_cast only [g1, nl, g2, g3, hfun, hfun2, g4, g5, el, bK, d1, lb, sn, ga, qv ix, erv, Option.map_some];unfold j4 j0 at st up2;rw [st];exact ⟨_, _, _, _, _, up2, rfl⟩
   ·obtain ⟨q, hq, up2⟩ := IsUp.step he hj up hd hlo o (by rw [if_neg hc])
    have d1 : decide ((l : Int) = ((bM o).length : Int)) = false := decide_eq_false (by rw [dY]; lia)
    have ga := kH hq;have ol2 := (List.getElem?_eq_some_iff.mp hq).1;have ix : ixN ((bM o).map OD.sh).length (l : Int) = some l := ij (by rw [List.length_map, dY]; exact ol2)
    have st := oM o l (j4 q.1 (gv pl (j + i) - 256 * gv (bh ts) (j + i) - gv pl j), j0 q.2 (gv pl (j + i) + 256 * gv (bh ts) (j + i) - gv pl j));push_cast only [g1, nl, g2, g3, hfun, hfun2, g4, g5, el, bK, d1, ga, qv ix, erv, Option.map_some];unfold j4 j0 at st up2;rw [st];exact ⟨_, _, _, _, _, up2, rfl⟩
  ·rintro ρ' rfl ⟨o, v8, v9, v10, v11, up, rfl⟩
   rw [eI, show (((j + 1 + s : Nat) : Int) - (j : Int)).toNat = s + 1 by lia] at up
   push_cast only [and_self];refine ⟨o, ⟨fun l => ?_, fun l p hp => ?_, fun l p hp => ?_⟩, rfl⟩
   ·rw [up.len l]
    exact ⟨fun ⟨k, _, h⟩ => ⟨k, h⟩, fun ⟨k, h⟩ => ⟨k, by have := me he q4 (Nat.le_refl _) (by lia) h; lia, h⟩⟩
   ·obtain ⟨⟨k, _, k2, k3⟩, k4⟩ := up.lo l p hp
    exact ⟨⟨k, k2, k3⟩, fun x hx => k4 x (by have := me he q4 (Nat.le_refl _) (by lia) hx; lia) hx⟩
   ·obtain ⟨⟨k, _, k2, k3⟩, k4⟩ := up.hi l p hp
    exact ⟨⟨k, k2, k3⟩, fun x hx => k4 x (by have := me he q4 (Nat.le_refl _) (by lia) hx; lia) hx⟩
theorem jP (ts : List Nd) (c : F) (p : PT ts c) (gap : Int) (hlab : ∀ n ∈ ts, n.l.length ≤ 1000) (hl : ts.length ≤ 100) (j : Nat) (hj : j < ts.length) :
  bu [.list (au ts), .list ((drw ts gap).map PyData.int), .int j] = .ok (.ol ((bM (outF ts gap j)).map OD.sh)) := by
 have he := gA p;have h0 : 0 < ts.length := by lia
 obtain ⟨o, ho, e⟩ := lx ts c p hlab hl (drw ts gap) (qx h0) j hj;have := (u6 gap he h0 hl (ts.length - j) j (by lia) hj).shift (g := gv (drw ts gap)) (kX ts gap) fun l k hk => yH h0 (jL he hj hk).2.2
 rw [ho.uniq this] at e;exact e
noncomputable def eU : Fs := (sIf (j6 (ba (eOp gLt (ag 1) (eC (.int 0)))) (ba (eOp gGe (ag 1) (eB cB (af (ag 0) av))))) (pJ "NoNode") sNx)
noncomputable def cT : Fn := cI 2 2 eU
noncomputable def fH : Fs := (aC (aQ 2 (eOp bX (ag 1) (eC (.int 1))))
 (aC (eR (kE (ba (eOp gLt (ag 2) (eB cB (af (ag 0) av)))) (ba (eOp gGe (eOp gIx (eOp gIx (ag 0) (ag 2)) (eC (.int 0))) (ag 1)))) (qS 2 pW (eC (.int 1))))
 (dE (ag 2))))
noncomputable def de : Fn := cI 2 3 fH
noncomputable def gc : Fs := (aC (lY (aK cq (af (ag 0) (af (ag 1) av))))
 (aC (aQ 2 (eK (af (fu (af (eUn eQ (eC (.int 1))) (af (eOp gIx (eOp gIx (ag 0) (ag 1)) (eC (.int 1))) (af (eOp gIx (eOp gIx (ag 0) (ag 1)) (eC (.int 2))) av)))) av)))
 (aC (eM (gB (eSl mq (ag 0) (gw (eOp bX (ag 1) (eC (.int 1)))) (gw (aK de (af (ag 0) (af (ag 1) av)))))) (gNm 3) (gR 2 (fu (af (eOp dB (eOp gIx (ag 3) (eC (.int 0))) (ag 1)) (af (eOp gIx (ag 3) (eC (.int 1))) (af (eOp gIx (ag 3) (eC (.int 2))) av))))))
 (fv 2))))
noncomputable def dC : Fn := cI 2 4 gc
noncomputable def fZ : Fs := (aC (lY (aK cT (af (ag 0) (af (ag 1) av))))
 (aC (aQ 2 (eK (af (fu (af (eUn eQ (eC (.int 1))) (af (eOp gIx (eOp gIx (ag 0) (ag 1)) (eC (.int 1))) (af (eOp gIx (eOp gIx (ag 0) (ag 1)) (eC (.int 2))) av)))) av)))
 (aC (eM (gB (eSl mq (ag 0) (gw (eOp bX (ag 1) (eC (.int 1)))) (gw (aK de (af (ag 0) (af (ag 1) av)))))) (gNm 3) (gR 2 (fu (af (eOp dB (eOp gIx (ag 3) (eC (.int 0))) (ag 1)) (af (eOp gIx (ag 3) (eC (.int 1))) (af (eOp gIx (ag 3) (eC (.int 2))) av))))))
 (fv 2))))
noncomputable def en : Fn := cI 2 4 fZ
noncomputable def fB : Fs := (aC (sIf (j6 (hG (ba (nR "list" (ag 0)))) (ba (eOp gNe (eB cB (af (ag 0) av)) (eB cB (af (ag 1) av))))) (dE (eC (.bool false))) sNx)
 (aC (eM (iZp (ag 0) (ag 1)) (gTp 2 (bC (gNm 2) (bC (gNm 3) fP))) (aC (sIf (j6 (hG (ba (nR "tuple" (ag 2)))) (j6 (ba (eOp gNe (eB cB (af (ag 2) av)) (eC (.int 2)))) (ba (eOp gNe (ag 2) (ag 3))))) (dE (eC (.bool false))) sNx)
 (sIf (j6 (hG (ba (aK cy (af (eOp gIx (ag 2) (eC (.int 0))) av)))) (hG (ba (aK cy (af (eOp gIx (ag 2) (eC (.int 1))) av))))) (dE (eC (.bool false))) sNx)))
 (dE (eC (.bool true)))))
noncomputable def da : Fn := cI 2 4 fB
noncomputable def gf : Fs := (aC (aQ 2 (eOp dU (eK (af (eC (.int 0)) av)) (eB cB (af (ag 0) av))))
 (aC (aQ 3 (dR (gB (aK cS (af (ag 0) av))) (gNm 0) e6 (eK (af (eSh (fu (af (eOp dU (eUn eQ (eC (.int 256))) (ag 0)) (af (eOp dU (eC (.int 256)) (ag 0)) av)))) av)) 1 []))
 (aC (eM (iR3 (eOp dB (eB cB (af (ag 0) av)) (eC (.int 1))) (eUn eQ (eC (.int 1))) (eUn eQ (eC (.int 1)))) (gNm 4) (aC (aQ 5 (eSh (aK bT (af (ag 0) (af (ag 4) av)))))
 (sIf (ba (eOp gGt (eB cB (af (ag 5) av)) (eC (.int 0)))) (aC (jR 3 5 (aQ 6 (eSh (nT 3 5))))
 (aC (aQ 7 (eSh (aK aT (af (ag 6) (af (ag 1) av)))))
 (aC (eM (iZp (ag 5) (ag 7)) (gTp 2 (bC (gNm 8) (bC (gNm 9) fP))) (lz 2 (ag 8) (ag 9)))
 (g6 3 (ag 4) (aK a7 (af (ag 6) (af (ag 7) av))))))) sNx)))
 (jx 2 (jk (ag 2) 3)))))
noncomputable def cL : Fn := cI 2 10 gf
noncomputable def eV : Fs := (dE (nK 0 (nK 1 (aK cL (af (aK dC (af (ag 0) (af (ag 1) av))) (af (ag 2) av))))))
noncomputable def cz : Fn := cI 3 3 eV
noncomputable def eT : Fs := (dE (nK 0 (nK 1 (aK cL (af (aK en (af (ag 0) (af (ag 1) av))) (af (ag 2) av))))))
noncomputable def dn : Fn := cI 3 3 eT
noncomputable def d5 : Fs := (aC (aQ 3 (eC (.bool false)))
 (aC (sL dn (af (ag 0) (af (ag 1) (af (ag 2) av))) (fun ρ => lA ρ 4) 3 [("NoNode", true)])
 (dE (ag 3))))
noncomputable def dk : Fn := cI 3 5 d5
noncomputable def mD : Fs := (aC (aQ 1 (eSh (aK cR (af (ag 0) av))))
 (aC (aQ 2 (eOp bX (eC (.int 1)) (eOp dX (aK bc (af (ag 0) (af (eC (.int 2)) av))) (eC (.int 20)))))
 (aC (aQ 3 (eSh (aK hR (af (ag 1) (af (ag 2) av)))))
 (aC (sIf (j6 (hG (ba (nR "list" (ag 3)))) (ba (eOp gNe (eB cB (af (ag 3) av)) (eB cB (af (ag 1) av))))) (dE (eC (.bool false))) sNx)
 (aC (sIf (ba (eOp gNe (eB cB (af (dR (gB (ag 3)) (gNm 0) (ba (aK cy (af (ag 0) av))) (ag 0) 1 []) av)) (eB cB (af (ag 1) av)))) (dE (eC (.bool false))) sNx)
 (aC (aQ 4 (eOp dX (eOp eN (aK bc (af (ag 0) (af (eC (.int 2)) av))) (eC (.int 20))) (eC (.int 1000003))))
 (aC (aQ 5 (eSh (eB j_ (af (ag 1) av))))
 (aC (eM (gB (eK (af (eOp dB (eUn eQ (eC (.int 1))) (ag 4)) (af (eOp bX (eB cB (af (ag 1) av)) (ag 4)) (af (eB cB (af (ag 1) av)) av))))) (gNm 6) (sIf (hG (ba (aK dk (af (ag 5) (af (ag 6) (af (ag 2) av)))))) (dE (eC (.bool false))) sNx))
 (aC (eM (iR1 (eC (.int 3))) (gNm 7) (aC (aQ 8 (eOp dX (eOp bX (ag 4) (eOp dU (ag 7) (ag 7))) (eB cB (af (ag 1) av))))
 (aC (aQ 9 (eSh (aK bu (af (ag 1) (af (ag 3) (af (ag 8) av))))))
 (aC (aQ 10 (aK cz (af (ag 5) (af (ag 8) (af (ag 2) av)))))
 (aC (sIf (q8 (j6 (hG (ba (aK da (af (ag 10) (af (ag 9) av))))) (ba (eOp gNe (ag 5) (ag 1))))) (dE (eC (.bool false))) sNx)
 (aC (gR 10 (fu (af (eC (.int 0)) (af (eC (.int 0)) av))))
 (sIf (hG (ba (aK da (af (aK cz (af (ag 1) (af (ag 8) (af (ag 2) av)))) (af (ag 9) av))))) (dE (eC (.bool false))) sNx)))))))
 (dE (aK da (af (aK cz (af (ag 1) (af (eC (.int 0)) (af (ag 2) av)))) (af (aK bu (af (ag 1) (af (ag 3) (af (eC (.int 0)) av)))) av)))))))))))))
noncomputable def k7 : Fn := cI 1 11 mD
noncomputable def top (i : Nat) : Stmt := PySem.Challenge.pw_boughdraw_k37_outlines.main.body.getD i (.Pass ⟨0, 0, 0, 0⟩)
noncomputable abbrev bJ : Stmt := top 6
theorem iA : FnScope ["tree", "node"] ["tree", "node"] (ao bJ) := ⟨rfl, rfl, rfl, by decide +kernel, rfl, by decide +kernel, by decide +kernel⟩
noncomputable abbrev c8 : Stmt := top 8
theorem pF : FnScope ["tree"] ["tree"] (ao c8) := ⟨rfl, rfl, rfl, by decide +kernel, rfl, by decide +kernel, by decide +kernel⟩
noncomputable abbrev cO : Stmt := top 11
theorem gI : FnScope ["tree", "node", "end"] ["tree", "node"] (ao cO) := ⟨rfl, rfl, rfl, by decide +kernel, rfl, by decide +kernel, by decide +kernel⟩
noncomputable abbrev dq : Stmt := top 14
theorem gC : FnScope ["one", "other", "gap", "apart", "asked", "distance"] ["one", "other", "gap"] (ao dq) := ⟨rfl, rfl, rfl, by decide +kernel, rfl, by decide +kernel, by decide +kernel⟩
noncomputable abbrev aL : Stmt := top 24
theorem bY : FnScope ["outlines", "stands", "joined", "level", "there", "left", "right"] ["outlines", "stands"] (ao aL) := ⟨rfl, rfl, rfl, by decide +kernel, rfl, by decide +kernel, by decide +kernel⟩
noncomputable abbrev bW : Stmt := top 26
theorem gL : FnScope ["_law_script", "_law_k", "_law_number"] ["_law_script", "_law_k"] (ao bW) := ⟨rfl, rfl, rfl, by decide +kernel, rfl, by decide +kernel, by decide +kernel⟩
noncomputable abbrev cg : Stmt := top 27
theorem lr : FnScope ["_law_found"] ["_law_found"] (ao cg) := ⟨rfl, rfl, rfl, by decide +kernel, rfl, by decide +kernel, by decide +kernel⟩
noncomputable abbrev cN : Stmt := top 28
theorem d3 : FnScope ["_law_number", "_law_most", "_law_letters", "_law_label_here", "_law_k"] ["_law_number", "_law_most"] (ao cN) := ⟨rfl, rfl, rfl, by decide +kernel, rfl, by decide +kernel, by decide +kernel⟩
noncomputable abbrev aS : Stmt := top 30
theorem bV : FnScope ["_law_tree_here", "_law_order", "_law_left", "_law_node"] ["_law_tree_here"] (ao aS) := ⟨rfl, rfl, rfl, by decide +kernel, rfl, by decide +kernel, by decide +kernel⟩
noncomputable abbrev c9 : Stmt := top 33
theorem eF : FnScope ["_law_tree_here", "_law_shift", "_law_found", "_law_elder", "_law_label_here", "_law_tall"] ["_law_tree_here", "_law_shift"] (ao c9) := ⟨rfl, rfl, rfl, by decide +kernel, rfl, by decide +kernel, by decide +kernel⟩
noncomputable abbrev dF : Stmt := top 36
theorem h7 : FnScope ["_law_tree_here", "_law_node", "_law_end_here"] ["_law_tree_here", "_law_node"] (ao dF) := ⟨rfl, rfl, rfl, by decide +kernel, rfl, by decide +kernel, by decide +kernel⟩
noncomputable abbrev bF : Stmt := top 7
theorem kW : FnScope ["tree", "node"] ["tree", "node"] (ao bF) := ⟨rfl, rfl, rfl, by decide +kernel, rfl, by decide +kernel, by decide +kernel⟩
noncomputable abbrev cW : Stmt := top 10
theorem ef : FnScope ["tree", "node", "bough", "row"] ["tree", "node"] (ao cW) := ⟨rfl, rfl, rfl, by decide +kernel, rfl, by decide +kernel, by decide +kernel⟩
noncomputable abbrev a8 : Stmt := top 16
theorem df : FnScope ["outlines", "gap", "places", "number", "asked"] ["outlines", "gap"] (ao a8) := ⟨rfl, rfl, rfl, by decide +kernel, rfl, by decide +kernel, by decide +kernel⟩
noncomputable abbrev br : Stmt := top 17
theorem cA : FnScope ["outlines", "gap", "last", "count", "places", "number", "one", "asked"] ["outlines", "gap", "last"] (ao br) := ⟨rfl, rfl, rfl, by decide +kernel, rfl, by decide +kernel, by decide +kernel⟩
noncomputable abbrev a_ : Stmt := top 20
theorem gz : FnScope ["tree", "places", "unit", "least"] ["tree", "places", "unit"] (ao a_) := ⟨rfl, rfl, rfl, by decide +kernel, rfl, by decide +kernel, by decide +kernel⟩
noncomputable abbrev cQ : Stmt := top 29
theorem b9 : FnScope ["_law_script", "_law_start", "_law_many", "_law_most", "_law_deep", "_law_tree_here", "_law_way", "_law_k", "_law_number", "_law_keep"] ["_law_script", "_law_start", "_law_many", "_law_most", "_law_deep"] (ao cQ) := ⟨rfl, rfl, rfl, by decide +kernel, rfl, by decide +kernel, by decide +kernel⟩
noncomputable abbrev a9 : Stmt := top 31
theorem aZ : FnScope ["_law_tree_here", "_law_order", "_law_found", "_law_node", "_law_elder", "_law_label_here", "_law_tall"] ["_law_tree_here"] (ao a9) := ⟨rfl, rfl, rfl, by decide +kernel, rfl, by decide +kernel, by decide +kernel⟩
noncomputable abbrev bj : Stmt := top 32
theorem aV : FnScope ["_law_tree_here", "_law_script", "_law_start", "_law_found", "_law_k", "_law_number", "_law_size", "_law_letters", "_law_label_here", "_law_j"] ["_law_tree_here", "_law_script", "_law_start"] (ao bj) := ⟨rfl, rfl, rfl, by decide +kernel, rfl, by decide +kernel, by decide +kernel⟩
noncomputable abbrev bo : Stmt := top 37
theorem aR : FnScope ["_law_tree_here", "_law_places", "_law_node", "_law_level", "_law_elder", "_law_label_here", "_law_tall", "_law_found", "_law_k", "_law_reach", "_law_here", "_law_at"] ["_law_tree_here", "_law_places", "_law_node"] (ao bo) := ⟨rfl, rfl, rfl, by decide +kernel, rfl, by decide +kernel, by decide +kernel⟩
noncomputable abbrev c_ : Stmt := top 38
theorem gE : FnScope ["_law_found", "_law_due", "_law_ends", "_law_other"] ["_law_found", "_law_due"] (ao c_) := ⟨rfl, rfl, rfl, by decide +kernel, rfl, by decide +kernel, by decide +kernel⟩
noncomputable abbrev eh : Stmt := top 15
theorem kA : FnScope ["outlines", "gap", "earliest"] ["outlines", "gap"] (ao eh) := ⟨rfl, rfl, rfl, by decide +kernel, rfl, by decide +kernel, by decide +kernel⟩
noncomputable abbrev cx : Stmt := top 34
theorem bU : FnScope ["_law_script", "_law_start", "_law_many", "_law_kinds", "_law_part", "_law_tree_here", "_law_k", "_law_bough"] ["_law_script", "_law_start", "_law_many", "_law_kinds"] (ao cx) := ⟨rfl, rfl, rfl, by decide +kernel, rfl, by decide +kernel, by decide +kernel⟩
noncomputable abbrev bq : Stmt := top 23
theorem fm : FnScope ["outlines", "gap", "room", "elder"] ["outlines", "gap"] (ao bq) := ⟨rfl, rfl, rfl, by decide +kernel, rfl, by decide +kernel, by decide +kernel⟩
noncomputable abbrev bz : Stmt := top 35
theorem fY : FnScope ["_law_script", "_law_cell_here"] ["_law_script"] (ao bz) := ⟨rfl, rfl, rfl, by decide +kernel, rfl, by decide +kernel, by decide +kernel⟩
noncomputable abbrev cC : Stmt := top 22
theorem bp : FnScope ["tree", "gap", "offsets", "outlines", "node", "children", "below", "stands", "child", "stand"] ["tree", "gap"] (ao cC) := ⟨rfl, rfl, rfl, by decide +kernel, rfl, by decide +kernel, by decide +kernel⟩
noncomputable abbrev gh : Stmt := top 19
theorem jd : FnScope ["tree", "gap", "offsets", "places", "node"] ["tree", "gap"] (ao gh) := ⟨rfl, rfl, rfl, by decide +kernel, rfl, by decide +kernel, by decide +kernel⟩
noncomputable abbrev bP : Stmt := top 21
theorem iu : FnScope ["tree", "node", "gap"] ["tree", "node", "gap"] (ao bP) := ⟨rfl, rfl, rfl, by decide +kernel, rfl, by decide +kernel, by decide +kernel⟩
noncomputable abbrev bS : Stmt := top 39
theorem d4 : FnScope ["_law_tree_here", "_law_node", "_law_gap", "_law_ours", "e"] ["_law_tree_here", "_law_node", "_law_gap"] (ao bS) := ⟨rfl, rfl, rfl, by decide +kernel, rfl, by decide +kernel, by decide +kernel⟩
noncomputable abbrev iw : Stmt := top 40
theorem fN : FnScope ["_law_script", "_law_tree_here", "_law_gap", "_law_places", "_law_number", "_law_handed", "_law_wrong", "_law_k", "_law_node", "_law_due", "_law_found"] ["_law_script"] (ao iw) := ⟨rfl, rfl, rfl, by decide +kernel, rfl, by decide +kernel, by decide +kernel⟩
theorem mP : bootBuiltins "list" = some (.type "list") := by decide +kernel
theorem uH : bootBuiltins "tuple" = some (.type "tuple") := by decide +kernel
theorem yw : bootBuiltins "int" = some (.type "int") := by decide +kernel
theorem uM : bootBuiltins "bool" = some (.type "bool") := by decide +kernel
structure Txt (K : PySem.W.Frag) (mg : Str → Option Value) : Prop where
 z_bool : mg "bool" = none
 z_enumerate : mg "enumerate" = none
 z_int : mg "int" = none
 z_isinstance : mg "isinstance" = none
 z_len : mg "len" = none
 z_list : mg "list" = none
 z_max : mg "max" = none
 z_min : mg "min" = none
 z_range : mg "range" = none
 z_tuple : mg "tuple" = none
 z_zip : mg "zip" = none
 c_SHREDS : ∃ t, mg "SHREDS" = some (.int 256 t)
 xs : ∃ c_DrawError c_NoNode c_NoPlace c_NoTree : Addr, mg "DrawError" = some (.ref c_DrawError) ∧ mg "NoNode" = some (.ref c_NoNode) ∧ mg "NoPlace" = some (.ref c_NoPlace) ∧ mg "NoTree" = some (.ref c_NoTree) ∧ ExcK K c_NoNode ∧ PySem.W.excIn K c_DrawError vE vN = true ∧ PySem.W.subIn K (.ref c_NoNode) (.ref c_DrawError) = some true ∧ PySem.W.kitOne K (.ref c_NoNode) (.ref c_NoNode) = some true ∧ PySem.W.kitAny K (.ref c_NoNode) [.ref c_NoPlace, .ref c_NoTree] = some false
section
variable {P : Program} {w : World} {K : PySem.W.Frag} {mg : Str → Option Value} {base : Heap}
theorem lp {f : Addr} {fd : FuncData} (F : Fun K "check_node" "check_node" bJ f fd) (T : Txt K mg) : FnOk P w K mg base CX0 1 f fd ["tree", "node"] (sp3 K mg cq) := by
 refine ed (N := ["tree", "node"]) (k := 0) (body := eX) rfl rfl rfl F iA fun cdv A outer s H E hr => ?_
 unfold eX;exact (ar (dS (lh (jK (bx lW (fun _ => lL) (aa 1) ah (bt _)) (iJ (bx oH (fun _ => oP) (aa 1) (aY aB aX rfl T.z_len PySem.boot_len (ae (aa 0) aj)) (bt _))))) (ar uw) bQ))
theorem lq {f : Addr} {fd : FuncData} (F : Fun K "check_node" "check_node" bJ f fd) (T : Txt K mg) : FnOk P w K mg base (CXE P w) 1 f fd ["tree", "node"] (sp3 K mg cT) := by
 refine yc (N := ["tree", "node"]) (k := 0) (body := eU) rfl rfl rfl F iA fun cdv A outer s H E hr => ?_
 obtain ⟨c_DrawError, c_NoNode, c_NoPlace, c_NoTree, m_DrawError, m_NoNode, m_NoPlace, m_NoTree, x_NoNode, h_DrawError, u_NoNode_DrawError, k_NoNode_NoNode, t_NoNode_NoPlace_NoTree⟩ := T.xs;unfold eU;exact (ar (dS (lh (jK (bx lW (fun _ => lL) (aa 1) ah (bt _)) (iJ (bx oH (fun _ => oP) (aa 1) (aY aB aX rfl T.z_len PySem.boot_len (ae (aa 0) aj)) (bt _))))) (ar (uE Lv.of rfl rfl m_NoNode x_NoNode.ex)) bQ))
theorem oS {f : Addr} {fd : FuncData} (F : Fun K "reaches" "reaches" c8 f fd) (T : Txt K mg) : FnOk P w K mg base CX0 1 f fd ["tree"] (sp3 K mg cS) := by
 refine ed (N := ["tree"]) (k := 0) (body := gM) rfl rfl rfl F pF fun cdv A outer s H E hr => ?_
 unfold gM;exact (ar (bw (d6 (sc := (ao c8)) (outs := []) (is := [0]) ["row"] ⟨rfl, rfl, by decide +kernel, by decide +kernel, by decide +kernel, trivial⟩ rfl (by decide) (dv (aa 0)) (fun _ _ _ _ _ => (aA (i := 0) (show List.Nodup (["row"] : List Str) by decide +kernel) rfl (Or.inl rfl))) (fun _ _ _ _ _ => fq) (fun _ _ _ _ _ => (aq bB (fun _ => cc) (aY aB aX rfl T.z_len PySem.boot_len (ae (aD aw aE (aa 0) ah (fun _ _ => rfl)) aj)) ah)))))
theorem m7 {f : Addr} {fd : FuncData} (F : Fun K "bough_end" "bough_end" cO f fd) (T : Txt K mg) : FnOk P w K mg base CX0 1 f fd ["tree", "node"] (sp3 K mg de) := by
 refine ed (N := ["tree", "node", "end"]) (k := 0) (body := fH) rfl rfl rfl F gI fun cdv A outer s H E hr => ?_
 unfold fH;exact (ai (ax (i := 2) gI.nd rfl (Or.inl rfl) (aq aG aN (aa 1) ah))
   (ai (kJ PassesOwn.never (lh (o5 (bx lW (fun _ => lL) (aa 2) (aY aB aX rfl T.z_len PySem.boot_len (ae (aa 0) aj)) (bt _)) (m9 (bx oH (fun _ => oP) (aD aw aE (aD aw aE (aa 0) (aa 2) (fun _ _ => rfl)) ah (fun _ _ => rfl)) (aa 1) (bt _))))) (ar (xJ (i := 2) gI.nd rfl (Or.inl rfl) ah zZ (fun _ => sA))))
   (ar (bw (aa 2)))))
theorem oX {f : Addr} {fd : FuncData} (F : Fun K "nearest" "nearest" dq f fd) (T : Txt K mg) : FnOk P w K mg base CX0 1 f fd ["one", "other", "gap"] (sp3 K mg dJ) := by
 refine ed (N := ["one", "other", "gap", "apart", "asked", "distance"]) (k := 0) (body := gH) rfl rfl rfl F gC fun cdv A outer s H E hr => ?_
 unfold gH;exact (ai (ax (i := 3) gC.nd rfl (Or.inr rfl) (aq bA cb (gr rfl T.c_SHREDS) (aq aG aN (aa 2) ah)))
   (ai (kd (i := 4) (sc := (ao dq)) (outs := [(3, "apart")]) (is := [0, 1]) ["ahead", "behind"] (fun _ _ _ q => qK q) gC.nd rfl (Or.inl rfl) ⟨rfl, rfl, by decide +kernel, by decide +kernel, by decide +kernel, ⟨⟨rfl, rfl⟩, trivial⟩⟩ rfl (by decide) (jv rfl T.z_zip (aa 0) (aa 1)) (fun _ _ _ _ _ => (fU (n := 2) rfl (aW (aA (i := 0) (show List.Nodup (["ahead", "behind", "apart"] : List Str) by decide +kernel) rfl (Or.inl rfl)) (aW (aA (i := 1) (show List.Nodup (["ahead", "behind", "apart"] : List Str) by decide +kernel) rfl (Or.inl rfl)) eE)))) (fun _ _ _ _ _ => fq) (fun _ _ _ _ _ => (aq d8 (fun _ => d9) (aq aG aN (aD aw aE (aa 0) ah (fun _ _ => rfl)) (aa 2)) (aD aw aE (aa 1) ah (fun _ _ => rfl)))))
   (ai (ax (i := 5) gC.nd rfl (Or.inl rfl) (aY (h8 _ rfl rfl) kh rfl T.z_max PyProof.Rows.boot_max (ae (aa 4) aj)))
   (ar (bw (cZ (ae (aa 5) (ae (om (aa 4) (aa 5)) aj))))))))
theorem iS {f : Addr} {fd : FuncData} (F : Fun K "joined_outline" "joined_outline" aL f fd) (T : Txt K mg) : FnOk P w K mg base CX0 1 f fd ["outlines", "stands"] (sp3 K mg a7) := by
 refine ed (N := ["outlines", "stands", "joined", "level", "there", "left", "right"]) (k := 0) (body := du) rfl rfl rfl F bY fun cdv A outer s H E hr => ?_
 unfold du;exact (ai (ax (i := 2) bY.nd rfl (Or.inl rfl) (b8 aj))
   (ai (cH rfl PassesOwn.never (jS rfl T.z_range (aY (h8 _ rfl rfl) kh rfl T.z_max PyProof.Rows.boot_max (ae (d6 (sc := (ao aL)) (outs := []) (is := [0]) ["outline"] ⟨rfl, rfl, by decide +kernel, by decide +kernel, by decide +kernel, trivial⟩ rfl (by decide) (dv (aa 0)) (fun _ _ _ _ _ => (aA (i := 0) (show List.Nodup (["outline"] : List Str) by decide +kernel) rfl (Or.inl rfl))) (fun _ _ _ _ _ => fq) (fun _ _ _ _ _ => (aY aB aX rfl T.z_len PySem.boot_len (ae (aa 0) aj)))) aj))) (aA (i := 3) bY.nd rfl (Or.inr rfl)) (ai (kd (i := 4) (sc := (ao aL)) (outs := [(3, "level")]) (is := [0, 1]) ["number", "outline"] (fun _ _ _ q => qK q) bY.nd rfl (Or.inl rfl) ⟨rfl, rfl, by decide +kernel, by decide +kernel, by decide +kernel, ⟨⟨rfl, rfl⟩, trivial⟩⟩ rfl (by decide) (qy rfl T.z_enumerate (aa 0)) (fun _ _ _ _ _ => (fU (n := 2) rfl (aW (aA (i := 0) (show List.Nodup (["number", "outline", "level"] : List Str) by decide +kernel) rfl (Or.inl rfl)) (aW (aA (i := 1) (show List.Nodup (["number", "outline", "level"] : List Str) by decide +kernel) rfl (Or.inl rfl)) eE)))) (fun _ _ _ _ _ => (m_ (bx lW (fun _ => lL) (aa 2) (aY aB aX rfl T.z_len PySem.boot_len (ae (aa 1) aj)) (bt _)))) (fun _ _ _ _ _ => (aa 0)))
   (ai (ax (i := 5) bY.nd rfl (Or.inl rfl) (aY (jD _ rfl rfl) mM rfl T.z_min PyProof.Rows.boot_min (ae (d6 (sc := (ao aL)) (outs := [(1, "stands"), (0, "outlines"), (3, "level")]) (is := [0]) ["number"] ⟨rfl, rfl, by decide +kernel, by decide +kernel, by decide +kernel, ⟨⟨rfl, rfl⟩, ⟨rfl, rfl⟩, ⟨rfl, rfl⟩, trivial⟩⟩ rfl (by decide) (dv (aa 4)) (fun _ _ _ _ _ => (aA (i := 0) (show List.Nodup (["number", "stands", "outlines", "level"] : List Str) by decide +kernel) rfl (Or.inl rfl))) (fun _ _ _ _ _ => fq) (fun _ _ _ _ _ => (aq aG aN (aD aw aE (aa 1) (aa 0) (fun _ _ => rfl)) (aD aw aE (aD aw aE (aD aw aE (aa 2) (aa 0) (fun _ _ => rfl)) (aa 3) (fun _ _ => rfl)) ah (fun _ _ => rfl))))) aj)))
   (ai (ax (i := 6) bY.nd rfl (Or.inl rfl) (aY (h8 _ rfl rfl) kh rfl T.z_max PyProof.Rows.boot_max (ae (d6 (sc := (ao aL)) (outs := [(1, "stands"), (0, "outlines"), (3, "level")]) (is := [0]) ["number"] ⟨rfl, rfl, by decide +kernel, by decide +kernel, by decide +kernel, ⟨⟨rfl, rfl⟩, ⟨rfl, rfl⟩, ⟨rfl, rfl⟩, trivial⟩⟩ rfl (by decide) (dv (aa 4)) (fun _ _ _ _ _ => (aA (i := 0) (show List.Nodup (["number", "stands", "outlines", "level"] : List Str) by decide +kernel) rfl (Or.inl rfl))) (fun _ _ _ _ _ => fq) (fun _ _ _ _ _ => (aq aG aN (aD aw aE (aa 1) (aa 0) (fun _ _ => rfl)) (aD aw aE (aD aw aE (aD aw aE (aa 2) (aa 0) (fun _ _ => rfl)) (aa 3) (fun _ _ => rfl)) ah (fun _ _ => rfl))))) aj)))
   (ar (eu 2 (cZ (ae (aa 5) (ae (aa 6) aj)))))))))
   (ar (eG 2))))
theorem mG {f : Addr} {fd : FuncData} (F : Fun K "_law_cell" "_law_cell" bW f fd) (T : Txt K mg) : FnOk P w K mg base CX0 1 f fd ["_law_script", "_law_k"] (sp3 K mg bc) := by
 refine ed (N := ["_law_script", "_law_k", "_law_number"]) (k := 0) (body := fF) rfl rfl rfl F gL fun cdv A outer s H E hr => ?_
 unfold fF;exact (ai (dS (bx lW (fun _ => lL) (aa 1) (aY aB aX rfl T.z_len PySem.boot_len (ae (aa 0) aj)) (bt _)) (ar (bw (aD aw aE (aa 0) (aa 1) (fun _ _ => rfl)))) bQ)
   (ai (ax (i := 2) gL.nd rfl (Or.inl rfl) (aq aG aN (aq bA cb ah (aa 1)) ah))
   (ai (dS (bx oo (fun _ => nI) (aY aB aX rfl T.z_len PySem.boot_len (ae (aa 0) aj)) ah (bt _)) (ar (ax (i := 2) gL.nd rfl (Or.inl rfl) (aq bH (fun _ => bG) (aq aG aN (aq bA cb (aD aw aE (aa 0) (aq bH (fun _ => bG) (aa 1) (aY aB aX rfl T.z_len PySem.boot_len (ae (aa 0) aj))) (fun _ _ => rfl)) ah) (aq bA cb (aa 1) ah)) ah))) bQ)
   (ar (bw (aq bH (fun _ => bG) (aq bA cb (aa 2) (aa 2)) ah))))))
theorem lj {f : Addr} {fd : FuncData} (F : Fun K "_law_whole" "_law_whole" cg f fd) (T : Txt K mg) : FnOk P w K mg base CX0 1 f fd ["_law_found"] (sp3 K mg cy) := by
 refine ed (N := ["_law_found"]) (k := 0) (body := eY) rfl rfl rfl F lr fun cdv A outer s H E hr => ?_
 unfold eY;exact (ar (bw (xv (kY rfl T.z_isinstance rfl T.z_int yw (aa 0)) (yu (zu (kY rfl T.z_isinstance rfl T.z_bool uM (aa 0)))))))
theorem lD {f : Addr} {fd : FuncData} (F : Fun K "_law_label" "_law_label" cN f fd) (T : Txt K mg) : FnOk P w K mg base CX0 1 f fd ["_law_number", "_law_most"] (sp3 K mg dm) := by
 refine ed (N := ["_law_number", "_law_most", "_law_letters", "_law_label_here", "_law_k"]) (k := 0) (body := eS) rfl rfl rfl F d3 fun cdv A outer s H E hr => ?_
 unfold eS;exact (ai (ax (i := 2) d3.nd rfl (Or.inl rfl) kZ)
   (ai (ax (i := 3) d3.nd rfl (Or.inl rfl) kZ)
   (ai (cH rfl PassesOwn.never (jS rfl T.z_range (aq aG aN ah (aq bH (fun _ => bG) (aa 0) (aa 1)))) (aA (i := 4) d3.nd rfl (Or.inl rfl)) (ar (ax (i := 3) d3.nd rfl (Or.inl rfl) (aq aG aN (aa 3) (aD aw aE (aa 2) (aq bH (fun _ => bG) (aq bB (fun _ => cc) (aa 0) (aq aG aN ah (aq bA cb (aq bA cb ah (aa 4)) (aa 4)))) ah) (fun _ _ => rfl))))))
   (ar (bw (aa 3))))))
theorem hV {f : Addr} {fd : FuncData} (F : Fun K "_law_mirror_order" "_law_mirror_order" aS f fd) (T : Txt K mg) : FnOk P w K mg base CX0 1 f fd ["_law_tree_here"] (sp3 K mg bR) := by
 refine ed (N := ["_law_tree_here", "_law_order", "_law_left", "_law_node"]) (k := 0) (body := cP) rfl rfl rfl F bV fun cdv A outer s H E hr => ?_
 unfold cP;exact (ai (ax (i := 1) bV.nd rfl (Or.inl rfl) (b8 aj))
   (ai (ax (i := 2) bV.nd rfl (Or.inl rfl) (b8 (ae ah aj)))
   (ai (kJ PassesOwn.never (pQ (bx (iB hr.units) kR (aa 2) (b8 aj) (bt _))) (ai (yG 2 (aA (i := 3) bV.nd rfl (Or.inr rfl)))
   (ai (eu 1 (aa 3))
   (ar (jB 2 (ax (i := 2) bV.nd rfl (Or.inl rfl) (aq aG aN (aa 2) (d6 (sc := (ao aS)) (outs := [(0, "_law_tree_here"), (3, "_law_node")]) (is := [0]) ["_law_k"] ⟨rfl, rfl, by decide +kernel, by decide +kernel, by decide +kernel, ⟨⟨rfl, rfl⟩, ⟨rfl, rfl⟩, trivial⟩⟩ rfl (by decide) (nG rfl T.z_range (aq aG aN (aa 3) ah) (aY aB aX rfl T.z_len PySem.boot_len (ae (aa 0) aj))) (fun _ _ _ _ _ => (aA (i := 0) (show List.Nodup (["_law_k", "_law_tree_here", "_law_node"] : List Str) by decide +kernel) rfl (Or.inl rfl))) (fun _ _ _ _ _ => (m_ (bx (hZ hr.units) jO (aD aw aE (aD aw aE (aa 1) (aa 0) (fun _ _ => rfl)) ah (fun _ _ => rfl)) (aa 2) (bt _)))) (fun _ _ _ _ _ => (aa 0))))))))))
   (ar (eG 1)))))
theorem mV {f : Addr} {fd : FuncData} (F : Fun K "_law_hung" "_law_hung" c9 f fd) (T : Txt K mg) : FnOk P w K mg base CX0 1 f fd ["_law_tree_here", "_law_shift"] (sp3 K mg et) := by
 refine ed (N := ["_law_tree_here", "_law_shift", "_law_found", "_law_elder", "_law_label_here", "_law_tall"]) (k := 0) (body := fG) rfl rfl rfl F eF fun cdv A outer s H E hr => ?_
 unfold fG;exact (ai (ax (i := 2) eF.nd rfl (Or.inl rfl) (b8 (ae (cZ (ae ah (ae (aD aw aE (aD aw aE (aa 0) ah (fun _ _ => rfl)) ah (fun _ _ => rfl)) (ae (aD aw aE (aD aw aE (aa 0) ah (fun _ _ => rfl)) ah (fun _ _ => rfl)) aj)))) aj)))
   (ai (cH rfl PassesOwn.never (dv (ky ik jj (aa 0) (fA ah) iW)) (fU (n := 3) rfl (aW (aA (i := 3) eF.nd rfl (Or.inl rfl)) (aW (aA (i := 4) eF.nd rfl (Or.inl rfl)) (aW (aA (i := 5) eF.nd rfl (Or.inl rfl)) eE)))) (ar (eu 2 (cn (cZ (ae (aq aG aN (aa 3) (aa 1)) (ae (aa 4) (ae (aa 5) aj))))))))
   (ar (eG 2))))
theorem oq {f : Addr} {fd : FuncData} (F : Fun K "_law_end" "_law_end" dF f fd) (T : Txt K mg) : FnOk P w K mg base CX0 1 f fd ["_law_tree_here", "_law_node"] (sp3 K mg e9) := by
 refine ed (N := ["_law_tree_here", "_law_node", "_law_end_here"]) (k := 0) (body := f9) rfl rfl rfl F h7 fun cdv A outer s H E hr => ?_
 unfold f9;exact (ai (ax (i := 2) h7.nd rfl (Or.inl rfl) (aq aG aN (aa 1) ah))
   (ai (kJ PassesOwn.never (lh (o5 (bx lW (fun _ => lL) (aa 2) (aY aB aX rfl T.z_len PySem.boot_len (ae (aa 0) aj)) (bt _)) (m9 (bx oH (fun _ => oP) (aD aw aE (aD aw aE (aa 0) (aa 2) (fun _ _ => rfl)) ah (fun _ _ => rfl)) (aa 1) (bt _))))) (ar (ax (i := 2) h7.nd rfl (Or.inl rfl) (aq aG aN (aa 2) ah))))
   (ar (bw (aa 2)))))
theorem kS {f : Addr} {fd : FuncData} (F : Fun K "children_of" "children_of" bF f fd) (T : Txt K mg) {f_check_node : Addr} {fd_check_node : FuncData} (D_check_node : Def K mg "check_node" bJ ["tree", "node"] f_check_node fd_check_node) (G_check_node : FnOk P w K mg base CX0 1 f_check_node fd_check_node ["tree", "node"] (sp3 K mg cq)) (Gx_check_node : FnOk P w K mg base (CXE P w) 1 f_check_node fd_check_node ["tree", "node"] (sp3 K mg cT)) : FnOk P w K mg base CX0 2 f fd ["tree", "node"] (sp3 K mg bT) := by
 refine ed (N := ["tree", "node"]) (k := 1) (body := eJ) rfl rfl rfl F kW fun cdv A outer s H E hr => ?_
 unfold eJ;exact (ai (mJ (ay G_check_node (hr.mono (by decide)) rfl D_check_node.g D_check_node.F.kp D_check_node.b aU (ae (aa 0) (ae (aa 1) aj))))
   (ar (bw (d6 (sc := (ao bF)) (outs := [(1, "node")]) (is := [0, 1]) ["number", "row"] ⟨rfl, rfl, by decide +kernel, by decide +kernel, by decide +kernel, ⟨⟨rfl, rfl⟩, trivial⟩⟩ rfl (by decide) (qy rfl T.z_enumerate (aa 0)) (fun _ _ _ _ _ => (fU (n := 2) rfl (aW (aA (i := 0) (show List.Nodup (["number", "row", "node"] : List Str) by decide +kernel) rfl (Or.inl rfl)) (aW (aA (i := 1) (show List.Nodup (["number", "row", "node"] : List Str) by decide +kernel) rfl (Or.inl rfl)) eE)))) (fun _ _ _ _ _ => (m_ (bx (hZ hr.units) jO (aD aw aE (aa 1) ah (fun _ _ => rfl)) (aa 2) (bt _)))) (fun _ _ _ _ _ => (aa 0))))))
theorem oj {f : Addr} {fd : FuncData} (F : Fun K "bough_of" "bough_of" cW f fd) (T : Txt K mg) {f_check_node : Addr} {fd_check_node : FuncData} (D_check_node : Def K mg "check_node" bJ ["tree", "node"] f_check_node fd_check_node) (G_check_node : FnOk P w K mg base CX0 1 f_check_node fd_check_node ["tree", "node"] (sp3 K mg cq)) (Gx_check_node : FnOk P w K mg base (CXE P w) 1 f_check_node fd_check_node ["tree", "node"] (sp3 K mg cT)) {f_bough_end : Addr} {fd_bough_end : FuncData} (D_bough_end : Def K mg "bough_end" cO ["tree", "node"] f_bough_end fd_bough_end) (G_bough_end : FnOk P w K mg base CX0 1 f_bough_end fd_bough_end ["tree", "node"] (sp3 K mg de)) : FnOk P w K mg base CX0 2 f fd ["tree", "node"] (sp3 K mg dC) := by
 refine ed (N := ["tree", "node", "bough", "row"]) (k := 1) (body := gc) rfl rfl rfl F ef fun cdv A outer s H E hr => ?_
 unfold gc;exact (ai (mJ (ay G_check_node (hr.mono (by decide)) rfl D_check_node.g D_check_node.F.kp D_check_node.b aU (ae (aa 0) (ae (aa 1) aj))))
   (ai (ax (i := 2) ef.nd rfl (Or.inl rfl) (b8 (ae (cZ (ae (fi dI (fun _ => dG) ah) (ae (aD aw aE (aD aw aE (aa 0) (aa 1) (fun _ _ => rfl)) ah (fun _ _ => rfl)) (ae (aD aw aE (aD aw aE (aa 0) (aa 1) (fun _ _ => rfl)) ah (fun _ _ => rfl)) aj)))) aj)))
   (ai (cH rfl PassesOwn.never (dv (ky ik jj (aa 0) (fA (aq aG aN (aa 1) ah)) (fA (ay G_bough_end (hr.mono (by decide)) rfl D_bough_end.g D_bough_end.F.kp D_bough_end.b aU (ae (aa 0) (ae (aa 1) aj)))))) (aA (i := 3) ef.nd rfl (Or.inl rfl)) (ar (eu 2 (cZ (ae (aq d8 (fun _ => d9) (aD aw aE (aa 3) ah (fun _ _ => rfl)) (aa 1)) (ae (aD aw aE (aa 3) ah (fun _ _ => rfl)) (ae (aD aw aE (aa 3) ah (fun _ _ => rfl)) aj)))))))
   (ar (eG 2)))))
theorem ow {f : Addr} {fd : FuncData} (F : Fun K "bough_of" "bough_of" cW f fd) (T : Txt K mg) {f_check_node : Addr} {fd_check_node : FuncData} (D_check_node : Def K mg "check_node" bJ ["tree", "node"] f_check_node fd_check_node) (G_check_node : FnOk P w K mg base CX0 1 f_check_node fd_check_node ["tree", "node"] (sp3 K mg cq)) (Gx_check_node : FnOk P w K mg base (CXE P w) 1 f_check_node fd_check_node ["tree", "node"] (sp3 K mg cT)) {f_bough_end : Addr} {fd_bough_end : FuncData} (D_bough_end : Def K mg "bough_end" cO ["tree", "node"] f_bough_end fd_bough_end) (G_bough_end : FnOk P w K mg base CX0 1 f_bough_end fd_bough_end ["tree", "node"] (sp3 K mg de)) : FnOk P w K mg base (CXE P w) 2 f fd ["tree", "node"] (sp3 K mg en) := by
 refine yc (N := ["tree", "node", "bough", "row"]) (k := 1) (body := fZ) rfl rfl rfl F ef fun cdv A outer s H E hr => ?_
 unfold fZ;exact (ai (mJ (ay Gx_check_node (hr.mono (by decide)) rfl D_check_node.g D_check_node.F.kp D_check_node.b Lv.of.pass (ae (aa 0) (ae (aa 1) aj))))
   (ai (ax (i := 2) ef.nd rfl (Or.inl rfl) (b8 (ae (cZ (ae (fi dI (fun _ => dG) ah) (ae (aD aw aE (aD aw aE (aa 0) (aa 1) (fun _ _ => rfl)) ah (fun _ _ => rfl)) (ae (aD aw aE (aD aw aE (aa 0) (aa 1) (fun _ _ => rfl)) ah (fun _ _ => rfl)) aj)))) aj)))
   (ai (cH rfl PassesOwn.leaving (dv (ky ik jj (aa 0) (fA (aq aG aN (aa 1) ah)) (fA (ay G_bough_end (hr.mono (by decide)) rfl D_bough_end.g D_bough_end.F.kp D_bough_end.b aU (ae (aa 0) (ae (aa 1) aj)))))) (aA (i := 3) ef.nd rfl (Or.inl rfl)) (ar (eu 2 (cZ (ae (aq d8 (fun _ => d9) (aD aw aE (aa 3) ah (fun _ _ => rfl)) (aa 1)) (ae (aD aw aE (aa 3) ah (fun _ _ => rfl)) (ae (aD aw aE (aa 3) ah (fun _ _ => rfl)) aj)))))))
   (ar (eG 2)))))
theorem iQ {f : Addr} {fd : FuncData} (F : Fun K "earliest_places" "earliest_places" a8 f fd) (T : Txt K mg) {f_nearest : Addr} {fd_nearest : FuncData} (D_nearest : Def K mg "nearest" dq ["one", "other", "gap"] f_nearest fd_nearest) (G_nearest : FnOk P w K mg base CX0 1 f_nearest fd_nearest ["one", "other", "gap"] (sp3 K mg dJ)) : FnOk P w K mg base CX0 2 f fd ["outlines", "gap"] (sp3 K mg cD) := by
 refine ed (N := ["outlines", "gap", "places", "number", "asked"]) (k := 1) (body := dg) rfl rfl rfl F df fun cdv A outer s H E hr => ?_
 unfold dg;exact (ai (ax (i := 2) df.nd rfl (Or.inr rfl) (b8 (ae ah aj)))
   (ai (cH rfl PassesOwn.never (nG rfl T.z_range ah (aY aB aX rfl T.z_len PySem.boot_len (ae (aa 0) aj))) (aA (i := 3) df.nd rfl (Or.inr rfl)) (ai (kd (i := 4) (sc := (ao a8)) (outs := [(2, "places"), (0, "outlines"), (3, "number"), (1, "gap")]) (is := [0]) ["ahead"] (fun _ _ _ q => tj (qK q)) df.nd rfl (Or.inl rfl) ⟨rfl, rfl, by decide +kernel, by decide +kernel, by decide +kernel, ⟨⟨rfl, rfl⟩, ⟨rfl, rfl⟩, ⟨rfl, rfl⟩, ⟨rfl, rfl⟩, trivial⟩⟩ rfl (by decide) (jS rfl T.z_range (aa 3)) (fun _ _ _ _ _ => (aA (i := 0) (show List.Nodup (["ahead", "places", "outlines", "number", "gap"] : List Str) by decide +kernel) rfl (Or.inl rfl))) (fun _ _ _ _ _ => fq) (fun _ _ _ _ _ => (aq aG aN (aD aw aE (aa 1) (aa 0) (fun _ _ => rfl)) (aD aw aE (ay G_nearest (hr.mono (by decide)) rfl D_nearest.g D_nearest.F.kp D_nearest.b aU (ae (aD aw aE (aa 2) (aa 0) (fun _ _ => rfl)) (ae (aD aw aE (aa 2) (aa 3) (fun _ _ => rfl)) (ae (aa 4) aj)))) ah (fun _ _ => rfl)))))
   (ar (eu 2 (aY (h8 _ rfl rfl) kh rfl T.z_max PyProof.Rows.boot_max (ae (aa 4) aj))))))
   (ar (eG 2))))
theorem jC {f : Addr} {fd : FuncData} (F : Fun K "latest_places" "latest_places" br f fd) (T : Txt K mg) {f_nearest : Addr} {fd_nearest : FuncData} (D_nearest : Def K mg "nearest" dq ["one", "other", "gap"] f_nearest fd_nearest) (G_nearest : FnOk P w K mg base CX0 1 f_nearest fd_nearest ["one", "other", "gap"] (sp3 K mg dJ)) : FnOk P w K mg base CX0 2 f fd ["outlines", "gap", "last"] (sp3 K mg cY) := by
 refine ed (N := ["outlines", "gap", "last", "count", "places", "number", "one", "asked"]) (k := 1) (body := dQ) rfl rfl rfl F cA fun cdv A outer s H E hr => ?_
 unfold dQ;exact (ai (ax (i := 3) cA.nd rfl (Or.inl rfl) (aY aB aX rfl T.z_len PySem.boot_len (ae (aa 0) aj)))
   (ai (ax (i := 4) cA.nd rfl (Or.inr rfl) (aq bA cb (b8 (ae (aa 2) aj)) (aa 3)))
   (ai (cH rfl PassesOwn.never (t_ rfl T.z_range (aq d8 (fun _ => d9) (aa 3) ah) (fi dI (fun _ => dG) ah) (fi dI (fun _ => dG) ah)) (aA (i := 5) cA.nd rfl (Or.inl rfl)) (ai (ax (i := 6) cA.nd rfl (Or.inr rfl) (aD aw aE (aa 0) (aa 5) (fun _ _ => rfl)))
   (ai (kd (i := 7) (sc := (ao br)) (outs := [(4, "places"), (6, "one"), (0, "outlines"), (1, "gap")]) (is := [0]) ["behind"] (fun _ _ _ q => tj (qK q)) cA.nd rfl (Or.inl rfl) ⟨rfl, rfl, by decide +kernel, by decide +kernel, by decide +kernel, ⟨⟨rfl, rfl⟩, ⟨rfl, rfl⟩, ⟨rfl, rfl⟩, ⟨rfl, rfl⟩, trivial⟩⟩ rfl (by decide) (nG rfl T.z_range (aq aG aN (aa 5) ah) (aa 3)) (fun _ _ _ _ _ => (aA (i := 0) (show List.Nodup (["behind", "places", "one", "outlines", "gap"] : List Str) by decide +kernel) rfl (Or.inl rfl))) (fun _ _ _ _ _ => fq) (fun _ _ _ _ _ => (aq d8 (fun _ => d9) (aD aw aE (aa 1) (aa 0) (fun _ _ => rfl)) (aD aw aE (ay G_nearest (hr.mono (by decide)) rfl D_nearest.g D_nearest.F.kp D_nearest.b aU (ae (aa 2) (ae (aD aw aE (aa 3) (aa 0) (fun _ _ => rfl)) (ae (aa 4) aj)))) ah (fun _ _ => rfl)))))
   (ar (l8 4 (aa 5) (aY (jD _ rfl rfl) mM rfl T.z_min PyProof.Rows.boot_min (ae (aa 7) aj)))))))
   (ar (eG 4)))))
theorem jz {f : Addr} {fd : FuncData} (F : Fun K "moved_to_side" "moved_to_side" a_ f fd) (T : Txt K mg) {f_reaches : Addr} {fd_reaches : FuncData} (D_reaches : Def K mg "reaches" c8 ["tree"] f_reaches fd_reaches) (G_reaches : FnOk P w K mg base CX0 1 f_reaches fd_reaches ["tree"] (sp3 K mg cS)) : FnOk P w K mg base CX0 2 f fd ["tree", "places", "unit"] (sp3 K mg c7) := by
 refine ed (N := ["tree", "places", "unit", "least"]) (k := 1) (body := dN) rfl rfl rfl F gz fun cdv A outer s H E hr => ?_
 unfold dN;exact (ai (ax (i := 3) gz.nd rfl (Or.inr rfl) (aY (jD _ rfl rfl) mM rfl T.z_min PyProof.Rows.boot_min (ae (d6 (sc := (ao a_)) (outs := [(2, "unit")]) (is := [0, 1]) ["place", "reach"] ⟨rfl, rfl, by decide +kernel, by decide +kernel, by decide +kernel, ⟨⟨rfl, rfl⟩, trivial⟩⟩ rfl (by decide) (jv rfl T.z_zip (aa 1) (ay G_reaches (hr.mono (by decide)) rfl D_reaches.g D_reaches.F.kp D_reaches.b aU (ae (aa 0) aj))) (fun _ _ _ _ _ => (fU (n := 2) rfl (aW (aA (i := 0) (show List.Nodup (["place", "reach", "unit"] : List Str) by decide +kernel) rfl (Or.inl rfl)) (aW (aA (i := 1) (show List.Nodup (["place", "reach", "unit"] : List Str) by decide +kernel) rfl (Or.inl rfl)) eE)))) (fun _ _ _ _ _ => fq) (fun _ _ _ _ _ => (aq d8 (fun _ => d9) (aa 0) (aq bA cb (aa 2) (aa 1))))) aj)))
   (ar (bw (d6 (sc := (ao a_)) (outs := [(3, "least")]) (is := [0]) ["place"] ⟨rfl, rfl, by decide +kernel, by decide +kernel, by decide +kernel, ⟨⟨rfl, rfl⟩, trivial⟩⟩ rfl (by decide) (dv (aa 1)) (fun _ _ _ _ _ => (aA (i := 0) (show List.Nodup (["place", "least"] : List Str) by decide +kernel) rfl (Or.inl rfl))) (fun _ _ _ _ _ => fq) (fun _ _ _ _ _ => (aq d8 (fun _ => d9) (aa 0) (aa 1)))))))
theorem mE {f : Addr} {fd : FuncData} (F : Fun K "_law_tree" "_law_tree" cQ f fd) (T : Txt K mg) {f__law_cell : Addr} {fd__law_cell : FuncData} (D__law_cell : Def K mg "_law_cell" bW ["_law_script", "_law_k"] f__law_cell fd__law_cell) (G__law_cell : FnOk P w K mg base CX0 1 f__law_cell fd__law_cell ["_law_script", "_law_k"] (sp3 K mg bc)) {f__law_label : Addr} {fd__law_label : FuncData} (D__law_label : Def K mg "_law_label" cN ["_law_number", "_law_most"] f__law_label fd__law_label) (G__law_label : FnOk P w K mg base CX0 1 f__law_label fd__law_label ["_law_number", "_law_most"] (sp3 K mg dm)) : FnOk P w K mg base CX0 2 f fd ["_law_script", "_law_start", "_law_many", "_law_most", "_law_deep"] (sp3 K mg cJ) := by
 refine ed (N := ["_law_script", "_law_start", "_law_many", "_law_most", "_law_deep", "_law_tree_here", "_law_way", "_law_k", "_law_number", "_law_keep"]) (k := 1) (body := fC) rfl rfl rfl F b9 fun cdv A outer s H E hr => ?_
 unfold fC;exact (ai (ax (i := 5) b9.nd rfl (Or.inl rfl) (b8 aj))
   (ai (ax (i := 6) b9.nd rfl (Or.inl rfl) (cn (b8 aj)))
   (ai (cH rfl PassesOwn.never (jS rfl T.z_range (aa 2)) (aA (i := 7) b9.nd rfl (Or.inl rfl)) (ai (ax (i := 8) b9.nd rfl (Or.inl rfl) (aq bH (fun _ => bG) (aq bA cb (ay G__law_cell (hr.mono (by decide)) rfl D__law_cell.g D__law_cell.F.kp D__law_cell.b aU (ae (aa 0) (ae (aq aG aN (aa 1) (aa 7)) aj))) ah) ah))
   (ai (dS (bx oo (fun _ => nI) (aa 7) ah (bt _)) (ai (ax (i := 9) b9.nd rfl (Or.inl rfl) (aq aG aN ah (aq bH (fun _ => bG) (aa 8) (aY aB aX rfl T.z_len PySem.boot_len (ae (aa 6) aj)))))
   (ai (dS (bx (hZ hr.units) jO (aq bH (fun _ => bG) (aq bB (fun _ => cc) (aa 8) ah) ah) ah (bt _)) (ar (ax (i := 9) b9.nd rfl (Or.inl rfl) (aY aB aX rfl T.z_len PySem.boot_len (ae (aa 6) aj)))) bQ)
   (ai (ax (i := 6) b9.nd rfl (Or.inl rfl) (cn (ky ik jj (aa 6) iW (fA (aY (jH rfl) (fun _ => l6) rfl T.z_min PyProof.Rows.boot_min (ae (aa 9) (ae (aa 4) aj)))))))
   (ar (eu 5 (cn (cZ (ae (aD aw aE (aa 6) (fi dI (fun _ => dG) ah) (fun _ _ => rfl)) (ae (cn (ay G__law_label (hr.mono (by decide)) rfl D__law_label.g D__law_label.F.kp D__law_label.b aU (ae (aq bB (fun _ => cc) (aa 8) ah) (ae (aa 3) aj)))) (ae (aq aG aN ah (aq bH (fun _ => bG) (aq bB (fun _ => cc) (aa 8) ah) ah)) aj)))))))))) (ar (eu 5 (cn (cZ (ae (fi dI (fun _ => dG) ah) (ae (cn (ay G__law_label (hr.mono (by decide)) rfl D__law_label.g D__law_label.F.kp D__law_label.b aU (ae (aq bB (fun _ => cc) (aa 8) ah) (ae (aa 3) aj)))) (ae (aq aG aN ah (aq bH (fun _ => bG) (aq bB (fun _ => cc) (aa 8) ah) ah)) aj))))))))
   (ar (ax (i := 6) b9.nd rfl (Or.inl rfl) (cn (aq aG aN (aa 6) (b8 (ae (aa 7) aj)))))))))
   (ar (eG 5)))))
theorem ip {f : Addr} {fd : FuncData} (F : Fun K "_law_mirror_tree" "_law_mirror_tree" a9 f fd) (T : Txt K mg) {f__law_mirror_order : Addr} {fd__law_mirror_order : FuncData} (D__law_mirror_order : Def K mg "_law_mirror_order" aS ["_law_tree_here"] f__law_mirror_order fd__law_mirror_order) (G__law_mirror_order : FnOk P w K mg base CX0 1 f__law_mirror_order fd__law_mirror_order ["_law_tree_here"] (sp3 K mg bR)) : FnOk P w K mg base CX0 2 f fd ["_law_tree_here"] (sp3 K mg b5) := by
 refine ed (N := ["_law_tree_here", "_law_order", "_law_found", "_law_node", "_law_elder", "_law_label_here", "_law_tall"]) (k := 1) (body := cX) rfl rfl rfl F aZ fun cdv A outer s H E hr => ?_
 unfold cX;exact (ai (ax (i := 1) aZ.nd rfl (Or.inl rfl) (cn (ay G__law_mirror_order (hr.mono (by decide)) rfl D__law_mirror_order.g D__law_mirror_order.F.kp D__law_mirror_order.b aU (ae (aa 0) aj))))
   (ai (ax (i := 2) aZ.nd rfl (Or.inl rfl) (b8 aj))
   (ai (cH rfl PassesOwn.never (dv (aa 1)) (aA (i := 3) aZ.nd rfl (Or.inl rfl)) (ai (zb (aD aw aE (aa 0) (aa 3) (fun _ _ => rfl)) (fU (n := 3) rfl (aW (aA (i := 4) aZ.nd rfl (Or.inl rfl)) (aW (aA (i := 5) aZ.nd rfl (Or.inl rfl)) (aW (aA (i := 6) aZ.nd rfl (Or.inl rfl)) eE)))))
   (ai (dS (bx oH (fun _ => oP) (aa 4) ah (bt _)) (ar (ax (i := 4) aZ.nd rfl (Or.inl rfl) (om (aa 1) (aa 4)))) bQ)
   (ar (eu 2 (cZ (ae (aa 4) (ae (aa 5) (ae (aa 6) aj)))))))))
   (ar (eG 2)))))
theorem iM {f : Addr} {fd : FuncData} (F : Fun K "_law_relabelled" "_law_relabelled" bj f fd) (T : Txt K mg) {f__law_cell : Addr} {fd__law_cell : FuncData} (D__law_cell : Def K mg "_law_cell" bW ["_law_script", "_law_k"] f__law_cell fd__law_cell) (G__law_cell : FnOk P w K mg base CX0 1 f__law_cell fd__law_cell ["_law_script", "_law_k"] (sp3 K mg bc)) : FnOk P w K mg base CX0 2 f fd ["_law_tree_here", "_law_script", "_law_start"] (sp3 K mg bO) := by
 refine ed (N := ["_law_tree_here", "_law_script", "_law_start", "_law_found", "_law_k", "_law_number", "_law_size", "_law_letters", "_law_label_here", "_law_j"]) (k := 1) (body := dh) rfl rfl rfl F aV fun cdv A outer s H E hr => ?_
 unfold dh;exact (ai (ax (i := 3) aV.nd rfl (Or.inl rfl) (b8 aj))
   (ai (cH rfl PassesOwn.never (jS rfl T.z_range (aY aB aX rfl T.z_len PySem.boot_len (ae (aa 0) aj))) (aA (i := 4) aV.nd rfl (Or.inl rfl)) (ai (ax (i := 5) aV.nd rfl (Or.inl rfl) (aq bH (fun _ => bG) (aq bA cb (ay G__law_cell (hr.mono (by decide)) rfl D__law_cell.g D__law_cell.F.kp D__law_cell.b aU (ae (aa 1) (ae (aq aG aN (aa 2) (aa 4)) aj))) ah) ah))
   (ai (ax (i := 6) aV.nd rfl (Or.inl rfl) (aq aG aN (aq bA cb (aq bB (fun _ => cc) (aY aB aX rfl T.z_len PySem.boot_len (ae (aD aw aE (aD aw aE (aa 0) (aa 4) (fun _ _ => rfl)) ah (fun _ _ => rfl)) aj)) ah) ah) (aq bH (fun _ => bG) (aa 5) ah)))
   (ai (ax (i := 7) aV.nd rfl (Or.inl rfl) kZ)
   (ai (ax (i := 8) aV.nd rfl (Or.inl rfl) kZ)
   (ai (cH rfl PassesOwn.never (jS rfl T.z_range (aY (lK rfl) (fun _ => ql) rfl T.z_max PyProof.Rows.boot_max (ae ah (ae (aY (jH rfl) (fun _ => l6) rfl T.z_min PyProof.Rows.boot_min (ae (aa 6) (ae ah aj))) aj)))) (aA (i := 9) aV.nd rfl (Or.inl rfl)) (ar (ax (i := 8) aV.nd rfl (Or.inl rfl) (aq aG aN (aa 8) (aD aw aE (aa 7) (aq bH (fun _ => bG) (aq bB (fun _ => cc) (aa 5) (aq aG aN ah (aq bA cb (aq bA cb ah (aa 9)) (aa 9)))) ah) (fun _ _ => rfl))))))
   (ar (eu 3 (cn (cZ (ae (aD aw aE (aD aw aE (aa 0) (aa 4) (fun _ _ => rfl)) ah (fun _ _ => rfl)) (ae (aa 8) (ae (aq aG aN ah (aq bH (fun _ => bG) (aq bB (fun _ => cc) (aa 5) ah) ah)) aj)))))))))))))
   (ar (eG 3))))
theorem iP {f : Addr} {fd : FuncData} (F : Fun K "_law_outline_by" "_law_outline_by" bo f fd) (T : Txt K mg) {f__law_end : Addr} {fd__law_end : FuncData} (D__law_end : Def K mg "_law_end" dF ["_law_tree_here", "_law_node"] f__law_end fd__law_end) (G__law_end : FnOk P w K mg base CX0 1 f__law_end fd__law_end ["_law_tree_here", "_law_node"] (sp3 K mg e9)) : FnOk P w K mg base CX0 2 f fd ["_law_tree_here", "_law_places", "_law_node"] (sp3 K mg bu) := by
 refine ed (N := ["_law_tree_here", "_law_places", "_law_node", "_law_level", "_law_elder", "_law_label_here", "_law_tall", "_law_found", "_law_k", "_law_reach", "_law_here", "_law_at"]) (k := 1) (body := di) rfl rfl rfl F aR fun cdv A outer s H E hr => ?_
 unfold di;exact (ai (ax (i := 3) aR.nd rfl (Or.inl rfl) (b8 (ae ah aj)))
   (ai (cH rfl PassesOwn.never (dv (ky ik jj (aa 0) (fA ah) iW)) (fU (n := 3) rfl (aW (aA (i := 4) aR.nd rfl (Or.inl rfl)) (aW (aA (i := 5) aR.nd rfl (Or.inl rfl)) (aW (aA (i := 6) aR.nd rfl (Or.inl rfl)) eE)))) (ar (eu 3 (mm (aq aG aN (aD aw aE (aa 3) (aa 4) (fun _ _ => rfl)) ah)))))
   (ai (ax (i := 7) aR.nd rfl (Or.inl rfl) (b8 aj))
   (ai (jB 3 (cH rfl PassesOwn.never (nG rfl T.z_range (aa 2) (ay G__law_end (hr.mono (by decide)) rfl D__law_end.g D__law_end.F.kp D__law_end.b aU (ae (aa 0) (ae (aa 2) aj)))) (aA (i := 8) aR.nd rfl (Or.inl rfl)) (ai (ax (i := 9) aR.nd rfl (Or.inl rfl) (aq bA cb ah (aq bB (fun _ => cc) (aY aB aX rfl T.z_len PySem.boot_len (ae (aD aw aE (aD aw aE (aa 0) (aa 8) (fun _ _ => rfl)) ah (fun _ _ => rfl)) aj)) ah)))
   (ai (ax (i := 10) aR.nd rfl (Or.inl rfl) (cZ (ae (aq d8 (fun _ => d9) (aq d8 (fun _ => d9) (aD aw aE (aa 1) (aa 8) (fun _ _ => rfl)) (aa 9)) (aD aw aE (aa 1) (aa 2) (fun _ _ => rfl))) (ae (aq d8 (fun _ => d9) (aq aG aN (aD aw aE (aa 1) (aa 8) (fun _ _ => rfl)) (aa 9)) (aD aw aE (aa 1) (aa 2) (fun _ _ => rfl))) aj))))
   (ai (ax (i := 11) aR.nd rfl (Or.inl rfl) (aq d8 (fun _ => d9) (aD aw aE (aa 3) (aa 8) (fun _ _ => rfl)) (aD aw aE (aa 3) (aa 2) (fun _ _ => rfl))))
   (ai (dS (pQ (bx (hZ hr.units) jO (aa 11) (aY aB aX rfl T.z_len PySem.boot_len (ae (aa 7) aj)) (bt _))) (ar (eu 7 (aa 10))) bQ)
   (ar (l8 7 (aa 11) (cZ (ae (mm (aY (jH rfl) (fun _ => l6) rfl T.z_min PyProof.Rows.boot_min (ae (aD aw aE (aD aw aE (aa 7) (aa 11) (fun _ _ => rfl)) ah (fun _ _ => rfl)) (ae (aD aw aE (aa 10) ah (fun _ _ => rfl)) aj)))) (ae (mm (aY (lK rfl) (fun _ => ql) rfl T.z_max PyProof.Rows.boot_max (ae (aD aw aE (aD aw aE (aa 7) (aa 11) (fun _ _ => rfl)) ah (fun _ _ => rfl)) (ae (aD aw aE (aa 10) ah (fun _ _ => rfl)) aj)))) aj)))))))))))
   (ar (eG 7))))))
theorem mS {f : Addr} {fd : FuncData} (F : Fun K "_law_good" "_law_good" c_ f fd) (T : Txt K mg) {f__law_whole : Addr} {fd__law_whole : FuncData} (D__law_whole : Def K mg "_law_whole" cg ["_law_found"] f__law_whole fd__law_whole) (G__law_whole : FnOk P w K mg base CX0 1 f__law_whole fd__law_whole ["_law_found"] (sp3 K mg cy)) : FnOk P w K mg base CX0 2 f fd ["_law_found", "_law_due"] (sp3 K mg da) := by
 refine ed (N := ["_law_found", "_law_due", "_law_ends", "_law_other"]) (k := 1) (body := fB) rfl rfl rfl F gE fun cdv A outer s H E hr => ?_
 unfold fB;exact (ai (dS (lh (jK (gW (gD (kY rfl T.z_isinstance rfl T.z_list mP (aa 0)))) (iJ (bx (iB hr.units) kR (aY aB aX rfl T.z_len PySem.boot_len (ae (aa 0) aj)) (aY aB aX rfl T.z_len PySem.boot_len (ae (aa 1) aj)) (bt _))))) (ar (bw iy)) bQ)
   (ai (cH rfl PassesOwn.never (jv rfl T.z_zip (aa 0) (aa 1)) (fU (n := 2) rfl (aW (aA (i := 2) gE.nd rfl (Or.inl rfl)) (aW (aA (i := 3) gE.nd rfl (Or.inl rfl)) eE))) (ai (dS (lh (jK (gW (gD (kY rfl T.z_isinstance rfl T.z_tuple uH (aa 2)))) (jK (bx (iB hr.units) kR (aY aB aX rfl T.z_len PySem.boot_len (ae (aa 2) aj)) ah (bt _)) (iJ (bx (iB hr.units) kR (aa 2) (aa 3) (bt _)))))) (ar (bw iy)) bQ)
   (ar (dS (lh (jK (gW (gD (ay G__law_whole (hr.mono (by decide)) rfl D__law_whole.g D__law_whole.F.kp D__law_whole.b aU (ae (aD aw aE (aa 2) ah (fun _ _ => rfl)) aj)))) (iJ (gW (gD (ay G__law_whole (hr.mono (by decide)) rfl D__law_whole.g D__law_whole.F.kp D__law_whole.b aU (ae (aD aw aE (aa 2) ah (fun _ _ => rfl)) aj))))))) (ar (bw iy)) bQ))))
   (ar (bw iy))))
theorem pI {f : Addr} {fd : FuncData} (F : Fun K "room_of" "room_of" eh f fd) (T : Txt K mg) {f_earliest_places : Addr} {fd_earliest_places : FuncData} (D_earliest_places : Def K mg "earliest_places" a8 ["outlines", "gap"] f_earliest_places fd_earliest_places) (G_earliest_places : FnOk P w K mg base CX0 2 f_earliest_places fd_earliest_places ["outlines", "gap"] (sp3 K mg cD)) {f_latest_places : Addr} {fd_latest_places : FuncData} (D_latest_places : Def K mg "latest_places" br ["outlines", "gap", "last"] f_latest_places fd_latest_places) (G_latest_places : FnOk P w K mg base CX0 2 f_latest_places fd_latest_places ["outlines", "gap", "last"] (sp3 K mg cY)) : FnOk P w K mg base CX0 3 f fd ["outlines", "gap"] (sp3 K mg fM) := by
 refine ed (N := ["outlines", "gap", "earliest"]) (k := 2) (body := gP) rfl rfl rfl F kA fun cdv A outer s H E hr => ?_
 unfold gP;exact (ai (ax (i := 2) kA.nd rfl (Or.inl rfl) (cn (ay G_earliest_places (hr.mono (by decide)) rfl D_earliest_places.g D_earliest_places.F.kp D_earliest_places.b aU (ae (aa 0) (ae (aa 1) aj)))))
   (ar (bw (cZ (ae (aa 2) (ae (cn (ay G_latest_places (hr.mono (by decide)) rfl D_latest_places.g D_latest_places.F.kp D_latest_places.b aU (ae (aa 0) (ae (aa 1) (ae (aD aw aE (aa 2) (fi dI (fun _ => dG) ah) (fun _ _ => rfl)) aj))))) aj))))))
theorem kQ {f : Addr} {fd : FuncData} (F : Fun K "_law_family" "_law_family" cx f fd) (T : Txt K mg) {f__law_tree : Addr} {fd__law_tree : FuncData} (D__law_tree : Def K mg "_law_tree" cQ ["_law_script", "_law_start", "_law_many", "_law_most", "_law_deep"] f__law_tree fd__law_tree) (G__law_tree : FnOk P w K mg base CX0 2 f__law_tree fd__law_tree ["_law_script", "_law_start", "_law_many", "_law_most", "_law_deep"] (sp3 K mg cJ)) {f__law_mirror_tree : Addr} {fd__law_mirror_tree : FuncData} (D__law_mirror_tree : Def K mg "_law_mirror_tree" a9 ["_law_tree_here"] f__law_mirror_tree fd__law_mirror_tree) (G__law_mirror_tree : FnOk P w K mg base CX0 2 f__law_mirror_tree fd__law_mirror_tree ["_law_tree_here"] (sp3 K mg b5)) {f__law_relabelled : Addr} {fd__law_relabelled : FuncData} (D__law_relabelled : Def K mg "_law_relabelled" bj ["_law_tree_here", "_law_script", "_law_start"] f__law_relabelled fd__law_relabelled) (G__law_relabelled : FnOk P w K mg base CX0 2 f__law_relabelled fd__law_relabelled ["_law_tree_here", "_law_script", "_law_start"] (sp3 K mg bO)) {f__law_hung : Addr} {fd__law_hung : FuncData} (D__law_hung : Def K mg "_law_hung" c9 ["_law_tree_here", "_law_shift"] f__law_hung fd__law_hung) (G__law_hung : FnOk P w K mg base CX0 1 f__law_hung fd__law_hung ["_law_tree_here", "_law_shift"] (sp3 K mg et)) : FnOk P w K mg base CX0 3 f fd ["_law_script", "_law_start", "_law_many", "_law_kinds"] (sp3 K mg dH) := by
 refine ed (N := ["_law_script", "_law_start", "_law_many", "_law_kinds", "_law_part", "_law_tree_here", "_law_k", "_law_bough"]) (k := 2) (body := eD) rfl rfl rfl F bU fun cdv A outer s H E hr => ?_
 unfold eD;exact (ai (ax (i := 4) bU.nd rfl (Or.inl rfl) (cn (ay G__law_tree (hr.mono (by decide)) rfl D__law_tree.g D__law_tree.F.kp D__law_tree.b aU (ae (aa 0) (ae (aa 1) (ae (aa 2) (ae ah (ae ah aj))))))))
   (ai (ax (i := 5) bU.nd rfl (Or.inl rfl) (cn (b8 (ae (cn (cZ (ae (fi dI (fun _ => dG) ah) (ae (cn (ky xg zA kZ iW (fA (aq aG aN ah (aq bH (fun _ => bG) (aa 3) ah))))) (ae (aq aG aN ah (aq bH (fun _ => bG) (aq bB (fun _ => cc) (aa 3) ah) ah)) aj))))) aj))))
   (ai (cH rfl PassesOwn.never (jS rfl T.z_range (aq aG aN ah (aq bH (fun _ => bG) (aq bB (fun _ => cc) (aa 3) ah) ah))) (aA (i := 6) bU.nd rfl (Or.inl rfl)) (ai (ax (i := 7) bU.nd rfl (Or.inl rfl) (cn (ay G__law_relabelled (hr.mono (by decide)) rfl D__law_relabelled.g D__law_relabelled.F.kp D__law_relabelled.b aU (ae (aa 4) (ae (aa 0) (ae (aq aG aN (aq aG aN (aa 1) ah) (aq bA cb ah (aa 6))) aj))))))
   (ai (dS (bx (hZ hr.units) jO (aq bH (fun _ => bG) (aq bB (fun _ => cc) (aq bB (fun _ => cc) (aa 3) ah) (aq aG aN (aq bA cb (aa 6) (aa 6)) ah)) ah) ah (bt _)) (ar (ax (i := 7) bU.nd rfl (Or.inl rfl) (cn (ay G__law_mirror_tree (hr.mono (by decide)) rfl D__law_mirror_tree.g D__law_mirror_tree.F.kp D__law_mirror_tree.b aU (ae (aa 7) aj))))) bQ)
   (ai (dS (lh (o5 (bx (hZ hr.units) jO (aq bH (fun _ => bG) (aq bB (fun _ => cc) (aq bB (fun _ => cc) (aa 3) ah) (aq aG aN (aa 6) ah)) ah) ah (bt _)) (m9 (bx oo (fun _ => nI) (aY aB aX rfl T.z_len PySem.boot_len (ae (aa 7) aj)) ah (bt _))))) (ar (ax (i := 7) bU.nd rfl (Or.inl rfl) (cn (ky ik jj (aa 7) iW (fA (fi dI (fun _ => dG) ah)))))) bQ)
   (ar (ax (i := 5) bU.nd rfl (Or.inl rfl) (cn (aq aG aN (aa 5) (ay G__law_hung (hr.mono (by decide)) rfl D__law_hung.g D__law_hung.F.kp D__law_hung.b aU (ae (aa 7) (ae (aY aB aX rfl T.z_len PySem.boot_len (ae (aa 5) aj)) aj)))))))))))
   (ar (bw (aa 5))))))
theorem jY {f : Addr} {fd : FuncData} (F : Fun K "stands_below" "stands_below" bq f fd) (T : Txt K mg) {f_room_of : Addr} {fd_room_of : FuncData} (D_room_of : Def K mg "room_of" eh ["outlines", "gap"] f_room_of fd_room_of) (G_room_of : FnOk P w K mg base CX0 3 f_room_of fd_room_of ["outlines", "gap"] (sp3 K mg fM)) : FnOk P w K mg base CX0 4 f fd ["outlines", "gap"] (sp3 K mg aT) := by
 refine ed (N := ["outlines", "gap", "room", "elder"]) (k := 3) (body := d7) rfl rfl rfl F fm fun cdv A outer s H E hr => ?_
 unfold d7;exact (ai (ax (i := 2) fm.nd rfl (Or.inl rfl) (cn (ay G_room_of (hr.mono (by decide)) rfl D_room_of.g D_room_of.F.kp D_room_of.b aU (ae (aa 0) (ae (aa 1) aj)))))
   (ai (ax (i := 3) fm.nd rfl (Or.inr rfl) (aq bB (fun _ => cc) (aD aw aE (aD aw aE (aa 2) ah (fun _ _ => rfl)) (fi dI (fun _ => dG) ah) (fun _ _ => rfl)) ah))
   (ar (bw (d6 (sc := (ao bq)) (outs := [(3, "elder")]) (is := [0, 1]) ["earliest", "latest"] ⟨rfl, rfl, by decide +kernel, by decide +kernel, by decide +kernel, ⟨⟨rfl, rfl⟩, trivial⟩⟩ rfl (by decide) (jv rfl T.z_zip (aD aw aE (aa 2) ah (fun _ _ => rfl)) (aD aw aE (aa 2) ah (fun _ _ => rfl))) (fun _ _ _ _ _ => (fU (n := 2) rfl (aW (aA (i := 0) (show List.Nodup (["earliest", "latest", "elder"] : List Str) by decide +kernel) rfl (Or.inl rfl)) (aW (aA (i := 1) (show List.Nodup (["earliest", "latest", "elder"] : List Str) by decide +kernel) rfl (Or.inl rfl)) eE)))) (fun _ _ _ _ _ => fq) (fun _ _ _ _ _ => (aq d8 (fun _ => d9) (aq bB (fun _ => cc) (aq aG aN (aa 0) (aa 1)) ah) (aa 2))))))))
theorem i7 {f : Addr} {fd : FuncData} (F : Fun K "_law_some_tree" "_law_some_tree" bz f fd) (T : Txt K mg) {f__law_cell : Addr} {fd__law_cell : FuncData} (D__law_cell : Def K mg "_law_cell" bW ["_law_script", "_law_k"] f__law_cell fd__law_cell) (G__law_cell : FnOk P w K mg base CX0 1 f__law_cell fd__law_cell ["_law_script", "_law_k"] (sp3 K mg bc)) {f__law_tree : Addr} {fd__law_tree : FuncData} (D__law_tree : Def K mg "_law_tree" cQ ["_law_script", "_law_start", "_law_many", "_law_most", "_law_deep"] f__law_tree fd__law_tree) (G__law_tree : FnOk P w K mg base CX0 2 f__law_tree fd__law_tree ["_law_script", "_law_start", "_law_many", "_law_most", "_law_deep"] (sp3 K mg cJ)) {f__law_family : Addr} {fd__law_family : FuncData} (D__law_family : Def K mg "_law_family" cx ["_law_script", "_law_start", "_law_many", "_law_kinds"] f__law_family fd__law_family) (G__law_family : FnOk P w K mg base CX0 3 f__law_family fd__law_family ["_law_script", "_law_start", "_law_many", "_law_kinds"] (sp3 K mg dH)) : FnOk P w K mg base CX0 4 f fd ["_law_script"] (sp3 K mg cR) := by
 refine ed (N := ["_law_script", "_law_cell_here"]) (k := 3) (body := dA) rfl rfl rfl F fY fun cdv A outer s H E hr => ?_
 unfold dA;exact (ai (ax (i := 1) fY.nd rfl (Or.inl rfl) (cn (ay G__law_cell (hr.mono (by decide)) rfl D__law_cell.g D__law_cell.F.kp D__law_cell.b aU (ae (aa 0) (ae ah aj)))))
   (ai (dS (bx (hZ hr.units) jO (aq bH (fun _ => bG) (aa 1) ah) ah (bt _)) (ar (bw (ay G__law_family (hr.mono (by decide)) rfl D__law_family.g D__law_family.F.kp D__law_family.b aU (ae (aa 0) (ae ah (ae (aq aG aN ah (aq bH (fun _ => bG) (aq bB (fun _ => cc) (aa 1) ah) ah)) (ae (aq bH (fun _ => bG) (ay G__law_cell (hr.mono (by decide)) rfl D__law_cell.g D__law_cell.F.kp D__law_cell.b aU (ae (aa 0) (ae ah aj))) ah) aj))))))) bQ)
   (ai (dS (bx (hZ hr.units) jO (aq bH (fun _ => bG) (aa 1) ah) ah (bt _)) (ar (bw (ay G__law_tree (hr.mono (by decide)) rfl D__law_tree.g D__law_tree.F.kp D__law_tree.b aU (ae (aa 0) (ae ah (ae (aq aG aN ah (aq bH (fun _ => bG) (aq bB (fun _ => cc) (aa 1) ah) ah)) (ae ah (ae ah aj)))))))) bQ)
   (ar (bw (ay G__law_tree (hr.mono (by decide)) rfl D__law_tree.g D__law_tree.F.kp D__law_tree.b aU (ae (aa 0) (ae ah (ae (aq aG aN ah (aq bH (fun _ => bG) (aq bB (fun _ => cc) (aa 1) ah) ah)) (ae (aD aw aE (b8 (ae ah (ae ah aj))) (aq bH (fun _ => bG) (aq bB (fun _ => cc) (aa 1) ah) ah) (fun _ _ => rfl)) (ae ah aj)))))))))))
theorem rK {f : Addr} {fd : FuncData} (F : Fun K "pieces" "pieces" cC f fd) (T : Txt K mg) {f_children_of : Addr} {fd_children_of : FuncData} (D_children_of : Def K mg "children_of" bF ["tree", "node"] f_children_of fd_children_of) (G_children_of : FnOk P w K mg base CX0 2 f_children_of fd_children_of ["tree", "node"] (sp3 K mg bT)) {f_reaches : Addr} {fd_reaches : FuncData} (D_reaches : Def K mg "reaches" c8 ["tree"] f_reaches fd_reaches) (G_reaches : FnOk P w K mg base CX0 1 f_reaches fd_reaches ["tree"] (sp3 K mg cS)) {f_stands_below : Addr} {fd_stands_below : FuncData} (D_stands_below : Def K mg "stands_below" bq ["outlines", "gap"] f_stands_below fd_stands_below) (G_stands_below : FnOk P w K mg base CX0 4 f_stands_below fd_stands_below ["outlines", "gap"] (sp3 K mg aT)) {f_joined_outline : Addr} {fd_joined_outline : FuncData} (D_joined_outline : Def K mg "joined_outline" aL ["outlines", "stands"] f_joined_outline fd_joined_outline) (G_joined_outline : FnOk P w K mg base CX0 1 f_joined_outline fd_joined_outline ["outlines", "stands"] (sp3 K mg a7)) : FnOk P w K mg base CX0 5 f fd ["tree", "gap"] (sp3 K mg eP) := by
 refine ed (N := ["tree", "gap", "offsets", "outlines", "node", "children", "below", "stands", "child", "stand"]) (k := 4) (body := ic) rfl rfl rfl F bp fun cdv A outer s H E hr => ?_
 unfold ic;exact (ai (ax (i := 2) bp.nd rfl (Or.inl rfl) (aq bA cb (b8 (ae ah aj)) (aY aB aX rfl T.z_len PySem.boot_len (ae (aa 0) aj))))
   (ai (ax (i := 3) bp.nd rfl (Or.inr rfl) (d6 (sc := (ao cC)) (outs := []) (is := [0]) ["reach"] ⟨rfl, rfl, by decide +kernel, by decide +kernel, by decide +kernel, trivial⟩ rfl (by decide) (dv (ay G_reaches (hr.mono (by decide)) rfl D_reaches.g D_reaches.F.kp D_reaches.b aU (ae (aa 0) aj))) (fun _ _ _ _ _ => (aA (i := 0) (show List.Nodup (["reach"] : List Str) by decide +kernel) rfl (Or.inl rfl))) (fun _ _ _ _ _ => fq) (fun _ _ _ _ _ => (b8 (ae (cn (cZ (ae (aq bA cb (fi dI (fun _ => dG) (gr rfl T.c_SHREDS)) (aa 0)) (ae (aq bA cb (gr rfl T.c_SHREDS) (aa 0)) aj)))) aj)))))
   (ai (cH rfl PassesOwn.never (t_ rfl T.z_range (aq d8 (fun _ => d9) (aY aB aX rfl T.z_len PySem.boot_len (ae (aa 0) aj)) ah) (fi dI (fun _ => dG) ah) (fi dI (fun _ => dG) ah)) (aA (i := 4) bp.nd rfl (Or.inl rfl)) (ai (ax (i := 5) bp.nd rfl (Or.inl rfl) (cn (ay G_children_of (hr.mono (by decide)) rfl D_children_of.g D_children_of.F.kp D_children_of.b aU (ae (aa 0) (ae (aa 4) aj)))))
   (ar (dS (bx oo (fun _ => nI) (aY aB aX rfl T.z_len PySem.boot_len (ae (aa 5) aj)) ah (bt _)) (ai (qA 3 5 (uv (sc := (ao cC)) (i := 3) (c := 5) (bi := 6) ⟨rfl, rfl, by decide +kernel, by decide +kernel, by decide +kernel, ⟨⟨rfl, rfl⟩, trivial⟩⟩ bp.nd rfl (Or.inl rfl) rfl rfl (by first | exact Or.inl rfl | exact Or.inr (Or.inl rfl) | exact Or.inr (Or.inr rfl)) (fun _ _ _ _ _ => mi (show List.Nodup (["child", "outlines"] : List Str) by decide +kernel) rfl (Or.inl rfl)) (fun _ _ _ _ _ hK => nH (kz _ hK) (d_ rfl (by first | exact Or.inl rfl | exact Or.inr (Or.inl rfl) | exact Or.inr (Or.inr rfl))) (d_ rfl (by first | exact Or.inl rfl | exact Or.inr (Or.inl rfl) | exact Or.inr (Or.inr rfl))) (fun _ _ => rfl))))
   (ai (ax (i := 7) bp.nd rfl (Or.inl rfl) (cn (ay G_stands_below (hr.mono (by decide)) rfl D_stands_below.g D_stands_below.F.kp D_stands_below.b aU (ae (aa 6) (ae (aa 1) aj)))))
   (ai (cH rfl PassesOwn.never (jv rfl T.z_zip (aa 5) (aa 7)) (fU (n := 2) rfl (aW (aA (i := 8) bp.nd rfl (Or.inl rfl)) (aW (aA (i := 9) bp.nd rfl (Or.inl rfl)) eE))) (ar (l8 2 (aa 8) (aa 9))))
   (ar (nX 3 (aa 4) (ay G_joined_outline (hr.mono (by decide)) rfl D_joined_outline.g D_joined_outline.F.kp D_joined_outline.b aU (ae (aa 6) (ae (aa 7) aj))) (fun _ _ => rfl)))))) bQ))))
   (ar (jB 3 (jB 2 (bw (cZ (ae (aa 2) (ae (aa 3) aj))))))))))
theorem rT {f : Addr} {fd : FuncData} (F : Fun K "pieces" "pieces" cC f fd) (T : Txt K mg) {f_children_of : Addr} {fd_children_of : FuncData} (D_children_of : Def K mg "children_of" bF ["tree", "node"] f_children_of fd_children_of) (G_children_of : FnOk P w K mg base CX0 2 f_children_of fd_children_of ["tree", "node"] (sp3 K mg bT)) {f_reaches : Addr} {fd_reaches : FuncData} (D_reaches : Def K mg "reaches" c8 ["tree"] f_reaches fd_reaches) (G_reaches : FnOk P w K mg base CX0 1 f_reaches fd_reaches ["tree"] (sp3 K mg cS)) {f_stands_below : Addr} {fd_stands_below : FuncData} (D_stands_below : Def K mg "stands_below" bq ["outlines", "gap"] f_stands_below fd_stands_below) (G_stands_below : FnOk P w K mg base CX0 4 f_stands_below fd_stands_below ["outlines", "gap"] (sp3 K mg aT)) {f_joined_outline : Addr} {fd_joined_outline : FuncData} (D_joined_outline : Def K mg "joined_outline" aL ["outlines", "stands"] f_joined_outline fd_joined_outline) (G_joined_outline : FnOk P w K mg base CX0 1 f_joined_outline fd_joined_outline ["outlines", "stands"] (sp3 K mg a7)) : FnOk P w K mg base CX0 5 f fd ["tree", "gap"] (sp3 K mg cL) := by
 refine ed (N := ["tree", "gap", "offsets", "outlines", "node", "children", "below", "stands", "child", "stand"]) (k := 4) (body := gf) rfl rfl rfl F bp fun cdv A outer s H E hr => ?_
 unfold gf;exact (ai (ax (i := 2) bp.nd rfl (Or.inl rfl) (aq bA cb (b8 (ae ah aj)) (aY aB aX rfl T.z_len PySem.boot_len (ae (aa 0) aj))))
   (ai (ax (i := 3) bp.nd rfl (Or.inr rfl) (d6 (sc := (ao cC)) (outs := []) (is := [0]) ["reach"] ⟨rfl, rfl, by decide +kernel, by decide +kernel, by decide +kernel, trivial⟩ rfl (by decide) (dv (ay G_reaches (hr.mono (by decide)) rfl D_reaches.g D_reaches.F.kp D_reaches.b aU (ae (aa 0) aj))) (fun _ _ _ _ _ => (aA (i := 0) (show List.Nodup (["reach"] : List Str) by decide +kernel) rfl (Or.inl rfl))) (fun _ _ _ _ _ => fq) (fun _ _ _ _ _ => (b8 (ae (cn (cZ (ae (aq bA cb (fi dI (fun _ => dG) (gr rfl T.c_SHREDS)) (aa 0)) (ae (aq bA cb (gr rfl T.c_SHREDS) (aa 0)) aj)))) aj)))))
   (ai (cH rfl PassesOwn.never (t_ rfl T.z_range (aq d8 (fun _ => d9) (aY aB aX rfl T.z_len PySem.boot_len (ae (aa 0) aj)) ah) (fi dI (fun _ => dG) ah) (fi dI (fun _ => dG) ah)) (aA (i := 4) bp.nd rfl (Or.inl rfl)) (ai (ax (i := 5) bp.nd rfl (Or.inl rfl) (cn (ay G_children_of (hr.mono (by decide)) rfl D_children_of.g D_children_of.F.kp D_children_of.b aU (ae (aa 0) (ae (aa 4) aj)))))
   (ar (dS (bx oo (fun _ => nI) (aY aB aX rfl T.z_len PySem.boot_len (ae (aa 5) aj)) ah (bt _)) (ai (qA 3 5 (uv (sc := (ao cC)) (i := 3) (c := 5) (bi := 6) ⟨rfl, rfl, by decide +kernel, by decide +kernel, by decide +kernel, ⟨⟨rfl, rfl⟩, trivial⟩⟩ bp.nd rfl (Or.inl rfl) rfl rfl (by first | exact Or.inl rfl | exact Or.inr (Or.inl rfl) | exact Or.inr (Or.inr rfl)) (fun _ _ _ _ _ => mi (show List.Nodup (["child", "outlines"] : List Str) by decide +kernel) rfl (Or.inl rfl)) (fun _ _ _ _ _ hK => nH (kz _ hK) (d_ rfl (by first | exact Or.inl rfl | exact Or.inr (Or.inl rfl) | exact Or.inr (Or.inr rfl))) (d_ rfl (by first | exact Or.inl rfl | exact Or.inr (Or.inl rfl) | exact Or.inr (Or.inr rfl))) (fun _ _ => rfl))))
   (ai (ax (i := 7) bp.nd rfl (Or.inl rfl) (cn (ay G_stands_below (hr.mono (by decide)) rfl D_stands_below.g D_stands_below.F.kp D_stands_below.b aU (ae (aa 6) (ae (aa 1) aj)))))
   (ai (cH rfl PassesOwn.never (jv rfl T.z_zip (aa 5) (aa 7)) (fU (n := 2) rfl (aW (aA (i := 8) bp.nd rfl (Or.inl rfl)) (aW (aA (i := 9) bp.nd rfl (Or.inl rfl)) eE))) (ar (l8 2 (aa 8) (aa 9))))
   (ar (nX 3 (aa 4) (ay G_joined_outline (hr.mono (by decide)) rfl D_joined_outline.g D_joined_outline.F.kp D_joined_outline.b aU (ae (aa 6) (ae (aa 7) aj))) (fun _ _ => rfl)))))) bQ))))
   (ar (jB 2 (tx 3 (aa 2)))))))
theorem uq {f : Addr} {fd : FuncData} (F : Fun K "drawn" "drawn" gh f fd) (T : Txt K mg) {f_moved_to_side : Addr} {fd_moved_to_side : FuncData} (D_moved_to_side : Def K mg "moved_to_side" a_ ["tree", "places", "unit"] f_moved_to_side fd_moved_to_side) (G_moved_to_side : FnOk P w K mg base CX0 2 f_moved_to_side fd_moved_to_side ["tree", "places", "unit"] (sp3 K mg c7)) {f_pieces : Addr} {fd_pieces : FuncData} (D_pieces : Def K mg "pieces" cC ["tree", "gap"] f_pieces fd_pieces) (G_pieces : FnOk P w K mg base CX0 5 f_pieces fd_pieces ["tree", "gap"] (sp3 K mg eP)) (Ga_pieces : FnOk P w K mg base CX0 5 f_pieces fd_pieces ["tree", "gap"] (sp3 K mg cL)) : FnOk P w K mg base CX0 6 f fd ["tree", "gap"] (sp3 K mg hR) := by
 refine ed (N := ["tree", "gap", "offsets", "places", "node"]) (k := 5) (body := iR) rfl rfl rfl F jd fun cdv A outer s H E hr => ?_
 unfold iR;exact (ai (ax (i := 2) jd.nd rfl (Or.inl rfl) (aD aw aE (ay G_pieces (hr.mono (by decide)) rfl D_pieces.g D_pieces.F.kp D_pieces.b aU (ae (aa 0) (ae (aa 1) aj))) ah (fun _ _ => rfl)))
   (ai (ax (i := 3) jd.nd rfl (Or.inl rfl) (b8 (ae ah aj)))
   (ai (cH rfl PassesOwn.never (nG rfl T.z_range ah (aY aB aX rfl T.z_len PySem.boot_len (ae (aa 0) aj))) (aA (i := 4) jd.nd rfl (Or.inl rfl)) (ar (eu 3 (mm (aq aG aN (aD aw aE (aa 3) (aD aw aE (aD aw aE (aa 0) (aa 4) (fun _ _ => rfl)) ah (fun _ _ => rfl)) (fun _ _ => rfl)) (aD aw aE (aa 2) (aa 4) (fun _ _ => rfl)))))))
   (ar (jB 3 (bw (ay G_moved_to_side (hr.mono (by decide)) rfl D_moved_to_side.g D_moved_to_side.F.kp D_moved_to_side.b aU (ae (aa 0) (ae (aa 3) (ae (gr rfl T.c_SHREDS) aj))))))))))
theorem lu {f : Addr} {fd : FuncData} (F : Fun K "outline_of" "outline_of" bP f fd) (T : Txt K mg) {f_bough_of : Addr} {fd_bough_of : FuncData} (D_bough_of : Def K mg "bough_of" cW ["tree", "node"] f_bough_of fd_bough_of) (G_bough_of : FnOk P w K mg base CX0 2 f_bough_of fd_bough_of ["tree", "node"] (sp3 K mg dC)) (Gx_bough_of : FnOk P w K mg base (CXE P w) 2 f_bough_of fd_bough_of ["tree", "node"] (sp3 K mg en)) {f_pieces : Addr} {fd_pieces : FuncData} (D_pieces : Def K mg "pieces" cC ["tree", "gap"] f_pieces fd_pieces) (G_pieces : FnOk P w K mg base CX0 5 f_pieces fd_pieces ["tree", "gap"] (sp3 K mg eP)) (Ga_pieces : FnOk P w K mg base CX0 5 f_pieces fd_pieces ["tree", "gap"] (sp3 K mg cL)) : FnOk P w K mg base CX0 6 f fd ["tree", "node", "gap"] (sp3 K mg cz) := by
 refine ed (N := ["tree", "node", "gap"]) (k := 5) (body := eV) rfl rfl rfl F iu fun cdv A outer s H E hr => ?_
 unfold eV;exact (ar (bw (mB 0 (mB 1 (ay Ga_pieces (hr.mono (by decide)) rfl D_pieces.g D_pieces.F.kp D_pieces.b aU (ae (ay G_bough_of (hr.mono (by decide)) rfl D_bough_of.g D_bough_of.F.kp D_bough_of.b aU (ae (aa 0) (ae (aa 1) aj))) (ae (aa 2) aj)))))))
theorem k_ {f : Addr} {fd : FuncData} (F : Fun K "outline_of" "outline_of" bP f fd) (T : Txt K mg) {f_bough_of : Addr} {fd_bough_of : FuncData} (D_bough_of : Def K mg "bough_of" cW ["tree", "node"] f_bough_of fd_bough_of) (G_bough_of : FnOk P w K mg base CX0 2 f_bough_of fd_bough_of ["tree", "node"] (sp3 K mg dC)) (Gx_bough_of : FnOk P w K mg base (CXE P w) 2 f_bough_of fd_bough_of ["tree", "node"] (sp3 K mg en)) {f_pieces : Addr} {fd_pieces : FuncData} (D_pieces : Def K mg "pieces" cC ["tree", "gap"] f_pieces fd_pieces) (G_pieces : FnOk P w K mg base CX0 5 f_pieces fd_pieces ["tree", "gap"] (sp3 K mg eP)) (Ga_pieces : FnOk P w K mg base CX0 5 f_pieces fd_pieces ["tree", "gap"] (sp3 K mg cL)) : FnOk P w K mg base (CXE P w) 6 f fd ["tree", "node", "gap"] (sp3 K mg dn) := by
 refine yc (N := ["tree", "node", "gap"]) (k := 5) (body := eT) rfl rfl rfl F iu fun cdv A outer s H E hr => ?_
 unfold eT;exact (ar (bw (mB 0 (mB 1 (ay Ga_pieces (hr.mono (by decide)) rfl D_pieces.g D_pieces.F.kp D_pieces.b aU (ae (ay Gx_bough_of (hr.mono (by decide)) rfl D_bough_of.g D_bough_of.F.kp D_bough_of.b Lv.of.pass (ae (aa 0) (ae (aa 1) aj))) (ae (aa 2) aj)))))))
theorem jX {f : Addr} {fd : FuncData} (F : Fun K "_law_refused" "_law_refused" bS f fd) (T : Txt K mg) {f_outline_of : Addr} {fd_outline_of : FuncData} (D_outline_of : Def K mg "outline_of" bP ["tree", "node", "gap"] f_outline_of fd_outline_of) (G_outline_of : FnOk P w K mg base CX0 6 f_outline_of fd_outline_of ["tree", "node", "gap"] (sp3 K mg cz)) (Gx_outline_of : FnOk P w K mg base (CXE P w) 6 f_outline_of fd_outline_of ["tree", "node", "gap"] (sp3 K mg dn)) : FnOk P w K mg base CX0 7 f fd ["_law_tree_here", "_law_node", "_law_gap"] (sp3 K mg dk) := by
 refine ed (N := ["_law_tree_here", "_law_node", "_law_gap", "_law_ours", "e"]) (k := 6) (body := d5) rfl rfl rfl F d4 fun cdv A outer s H E hr => ?_
 obtain ⟨c_DrawError, c_NoNode, c_NoPlace, c_NoTree, m_DrawError, m_NoNode, m_NoPlace, m_NoTree, x_NoNode, h_DrawError, u_NoNode_DrawError, k_NoNode_NoNode, t_NoNode_NoPlace_NoTree⟩ := T.xs;unfold d5;exact (ai (ax (i := 3) d4.nd rfl (Or.inl rfl) iy)
   (ai (xt (tbl := [("NoNode", true)]) Gx_outline_of (hr.mono (by decide)) rfl D_outline_of.g D_outline_of.F.kp D_outline_of.b (fun _ => (ae (aa 0) (ae (aa 1) (ae (aa 2) aj)))) rfl rfl h_DrawError rfl m_DrawError (jJ (i := 3) rfl) (uX ⟨c_NoNode, m_NoNode, u_NoNode_DrawError, fun pins σ H' ea Q E hca hfr hlen hq => ve (i := 4) (b := true) hca hfr d4.nd rfl rfl (by decide) (jJ (i := 3) rfl) hlen (fun oe hoc => by exact (z7 (yz (c := true) d4.nd rfl (Or.inl rfl) (zy (vO ⟨x_NoNode, List.mem_cons_self, hoc⟩ (fun _ h => h.1) rfl (Or.inl rfl) rfl T.z_isinstance rfl m_NoNode k_NoNode_NoNode) (zd (vk (Ds := [c_NoPlace, c_NoTree]) ⟨x_NoNode, List.mem_cons_self, hoc⟩ (fun _ h => h.1) rfl (Or.inl rfl) rfl T.z_isinstance (wK rfl m_NoPlace (wK rfl m_NoTree Bm)) (show 2 ≤ 9 by decide) t_NoNode_NoPlace_NoTree)))))) (fun H2 s2 sm J => hq _ H2 s2 sm J (fun _ _ _ _ _ hok o => vR o hok))⟩ yX) (fun _ _ => um (by decide)))
   (ar (bw (aa 3)))))
theorem xr {f : Addr} {fd : FuncData} (F : Fun K "law" "law" iw f fd) (T : Txt K mg) {f_drawn : Addr} {fd_drawn : FuncData} (D_drawn : Def K mg "drawn" gh ["tree", "gap"] f_drawn fd_drawn) (G_drawn : FnOk P w K mg base CX0 6 f_drawn fd_drawn ["tree", "gap"] (sp3 K mg hR)) {f_outline_of : Addr} {fd_outline_of : FuncData} (D_outline_of : Def K mg "outline_of" bP ["tree", "node", "gap"] f_outline_of fd_outline_of) (G_outline_of : FnOk P w K mg base CX0 6 f_outline_of fd_outline_of ["tree", "node", "gap"] (sp3 K mg cz)) (Gx_outline_of : FnOk P w K mg base (CXE P w) 6 f_outline_of fd_outline_of ["tree", "node", "gap"] (sp3 K mg dn)) {f__law_cell : Addr} {fd__law_cell : FuncData} (D__law_cell : Def K mg "_law_cell" bW ["_law_script", "_law_k"] f__law_cell fd__law_cell) (G__law_cell : FnOk P w K mg base CX0 1 f__law_cell fd__law_cell ["_law_script", "_law_k"] (sp3 K mg bc)) {f__law_whole : Addr} {fd__law_whole : FuncData} (D__law_whole : Def K mg "_law_whole" cg ["_law_found"] f__law_whole fd__law_whole) (G__law_whole : FnOk P w K mg base CX0 1 f__law_whole fd__law_whole ["_law_found"] (sp3 K mg cy)) {f__law_some_tree : Addr} {fd__law_some_tree : FuncData} (D__law_some_tree : Def K mg "_law_some_tree" bz ["_law_script"] f__law_some_tree fd__law_some_tree) (G__law_some_tree : FnOk P w K mg base CX0 4 f__law_some_tree fd__law_some_tree ["_law_script"] (sp3 K mg cR)) {f__law_outline_by : Addr} {fd__law_outline_by : FuncData} (D__law_outline_by : Def K mg "_law_outline_by" bo ["_law_tree_here", "_law_places", "_law_node"] f__law_outline_by fd__law_outline_by) (G__law_outline_by : FnOk P w K mg base CX0 2 f__law_outline_by fd__law_outline_by ["_law_tree_here", "_law_places", "_law_node"] (sp3 K mg bu)) {f__law_good : Addr} {fd__law_good : FuncData} (D__law_good : Def K mg "_law_good" c_ ["_law_found", "_law_due"] f__law_good fd__law_good) (G__law_good : FnOk P w K mg base CX0 2 f__law_good fd__law_good ["_law_found", "_law_due"] (sp3 K mg da)) {f__law_refused : Addr} {fd__law_refused : FuncData} (D__law_refused : Def K mg "_law_refused" bS ["_law_tree_here", "_law_node", "_law_gap"] f__law_refused fd__law_refused) (G__law_refused : FnOk P w K mg base CX0 7 f__law_refused fd__law_refused ["_law_tree_here", "_law_node", "_law_gap"] (sp3 K mg dk)) : FnOk P w K mg base CX0 8 f fd ["_law_script"] (sp3 K mg k7) := by
 refine ed (N := ["_law_script", "_law_tree_here", "_law_gap", "_law_places", "_law_number", "_law_handed", "_law_wrong", "_law_k", "_law_node", "_law_due", "_law_found"]) (k := 7) (body := mD) rfl rfl rfl F fN fun cdv A outer s H E hr => ?_
 unfold mD;exact (ai (ax (i := 1) fN.nd rfl (Or.inl rfl) (cn (ay G__law_some_tree (hr.mono (by decide)) rfl D__law_some_tree.g D__law_some_tree.F.kp D__law_some_tree.b aU (ae (aa 0) aj))))
   (ai (ax (i := 2) fN.nd rfl (Or.inl rfl) (aq aG aN ah (aq bH (fun _ => bG) (ay G__law_cell (hr.mono (by decide)) rfl D__law_cell.g D__law_cell.F.kp D__law_cell.b aU (ae (aa 0) (ae ah aj))) ah)))
   (ai (ax (i := 3) fN.nd rfl (Or.inl rfl) (cn (ay G_drawn (hr.mono (by decide)) rfl D_drawn.g D_drawn.F.kp D_drawn.b aU (ae (aa 1) (ae (aa 2) aj)))))
   (ai (dS (lh (jK (gW (gD (kY rfl T.z_isinstance rfl T.z_list mP (aa 3)))) (iJ (bx (iB hr.units) kR (aY aB aX rfl T.z_len PySem.boot_len (ae (aa 3) aj)) (aY aB aX rfl T.z_len PySem.boot_len (ae (aa 1) aj)) (bt _))))) (ar (bw iy)) bQ)
   (ai (dS (bx (iB hr.units) kR (aY aB aX rfl T.z_len PySem.boot_len (ae (d6 (sc := (ao iw)) (outs := []) (is := [0]) ["_law_place"] ⟨rfl, rfl, by decide +kernel, by decide +kernel, by decide +kernel, trivial⟩ rfl (by decide) (dv (aa 3)) (fun _ _ _ _ _ => (aA (i := 0) (show List.Nodup (["_law_place"] : List Str) by decide +kernel) rfl (Or.inl rfl))) (fun _ _ _ _ _ => (m_ (gD (ay G__law_whole (hr.mono (by decide)) rfl D__law_whole.g D__law_whole.F.kp D__law_whole.b aU (ae (aa 0) aj))))) (fun _ _ _ _ _ => (aa 0))) aj)) (aY aB aX rfl T.z_len PySem.boot_len (ae (aa 1) aj)) (bt _)) (ar (bw iy)) bQ)
   (ai (ax (i := 4) fN.nd rfl (Or.inl rfl) (aq bH (fun _ => bG) (aq bB (fun _ => cc) (ay G__law_cell (hr.mono (by decide)) rfl D__law_cell.g D__law_cell.F.kp D__law_cell.b aU (ae (aa 0) (ae ah aj))) ah) ah))
   (ai (ax (i := 5) fN.nd rfl (Or.inl rfl) (cn (Au (rL _ rfl) zi rfl T.z_list mP (ae (aa 1) aj))))
   (ai (cH rfl PassesOwn.never (dv (b8 (ae (aq d8 (fun _ => d9) (fi dI (fun _ => dG) ah) (aa 4)) (ae (aq aG aN (aY aB aX rfl T.z_len PySem.boot_len (ae (aa 1) aj)) (aa 4)) (ae (aY aB aX rfl T.z_len PySem.boot_len (ae (aa 1) aj)) aj))))) (aA (i := 6) fN.nd rfl (Or.inl rfl)) (ar (dS (gW (gD (ay G__law_refused (hr.mono (by decide)) rfl D__law_refused.g D__law_refused.F.kp D__law_refused.b aU (ae (aa 5) (ae (aa 6) (ae (aa 2) aj)))))) (ar (bw iy)) bQ)))
   (ai (cH rfl PassesOwn.never (jS rfl T.z_range ah) (aA (i := 7) fN.nd rfl (Or.inl rfl)) (ai (ax (i := 8) fN.nd rfl (Or.inl rfl) (aq bH (fun _ => bG) (aq aG aN (aa 4) (aq bA cb (aa 7) (aa 7))) (aY aB aX rfl T.z_len PySem.boot_len (ae (aa 1) aj))))
   (ai (ax (i := 9) fN.nd rfl (Or.inl rfl) (cn (ay G__law_outline_by (hr.mono (by decide)) rfl D__law_outline_by.g D__law_outline_by.F.kp D__law_outline_by.b aU (ae (aa 1) (ae (aa 3) (ae (aa 8) aj))))))
   (ai (ax (i := 10) fN.nd rfl (Or.inl rfl) (ay G_outline_of (hr.mono (by decide)) rfl D_outline_of.g D_outline_of.F.kp D_outline_of.b aU (ae (aa 5) (ae (aa 8) (ae (aa 2) aj)))))
   (ai (dS (pQ (lh (jK (gW (gD (ay G__law_good (hr.mono (by decide)) rfl D__law_good.g D__law_good.F.kp D__law_good.b aU (ae (aa 10) (ae (aa 9) aj))))) (iJ (bx (iB hr.units) kR (aa 5) (aa 1) (bt _)))))) (ar (bw iy)) bQ)
   (ai (eu 10 (cZ (ae ah (ae ah aj))))
   (ar (dS (gW (gD (ay G__law_good (hr.mono (by decide)) rfl D__law_good.g D__law_good.F.kp D__law_good.b aU (ae (ay G_outline_of (hr.mono (by decide)) rfl D_outline_of.g D_outline_of.F.kp D_outline_of.b aU (ae (aa 1) (ae (aa 8) (ae (aa 2) aj)))) (ae (aa 9) aj))))) (ar (bw iy)) bQ))))))))
   (ar (bw (ay G__law_good (hr.mono (by decide)) rfl D__law_good.g D__law_good.F.kp D__law_good.b aU (ae (ay G_outline_of (hr.mono (by decide)) rfl D_outline_of.g D_outline_of.F.kp D_outline_of.b aU (ae (aa 1) (ae ah (ae (aa 2) aj)))) (ae (ay G__law_outline_by (hr.mono (by decide)) rfl D__law_outline_by.g D__law_outline_by.F.kp D__law_outline_by.b aU (ae (aa 1) (ae (aa 3) (ae ah aj)))) aj))))))))))))))
end
theorem xK (ts : List Nd) (j : Nat) (h : j < ts.length) : de [.list (au ts), .int j] = .ok (.sh (.int ((j + 1 + ((ts.drop (j + 1)).takeWhile (inB j)).length : Nat) : Int))) := by
 unfold de fH;push_cast only [and_self];generalize hL : eR _ _ _ = r
 refine mU hL (fun m ρ => ∃ i : Nat, m = ts.length - (j + 1 + i) ∧ j + 1 + i ≤ ts.length ∧ ρ = [some (.sh (.list (au ts))), some (.sh (.int j)), some (.sh (.int ((j + 1 + i : Nat) : Int)))] ∧ ∀ k, k < i → ∀ n, (ts.drop (j + 1))[k]? = some n → inB j n = true) (ts.length - (j + 1)) ⟨0, rfl, by lia, by rfl, fun k hk => by lia⟩
  (fun ρ => ρ = [some (.sh (.list (au ts))), some (.sh (.int j)), some (.sh (.int ((j + 1 + ((ts.drop (j + 1)).takeWhile (inB j)).length : Nat) : Int)))]) ?_ ?_
 ·rintro m ρ ⟨i, rfl, hi, rfl, ha⟩
  have fin : (∀ x, (ts.drop (j + 1))[i]? = some x → inB j x = false) → ((ts.drop (j + 1)).takeWhile (inB j)).length = i := fun hx => by
   rw [fJ _ _ i ha hx (by rw [List.length_drop]; lia), List.length_take, List.length_drop]
   lia
  by_cases h1 : ((j + 1 + i : Nat) : Int) < (ts.length : Int)
  ·obtain ⟨n, hn⟩ : ∃ n, ts[j + 1 + i]? = some n := ⟨ts[j + 1 + i]'(by lia), by simp⟩
   have hd : (ts.drop (j + 1))[i]? = some n := by rw [List.getElem?_drop]; exact hn
   have g1 := eA hn;by_cases h2 : (j : Int) ≤ n.e
   ·right
    constructor
    ·push_cast only [aF, decide_eq_true h1, g1, decide_eq_true h2]
    ·push_cast only [and_self]
     refine ⟨_, ?_, i + 1, rfl, by lia, ?_, fun k hk x hx => ?_⟩
     ·lia
     ·have e : ((j + 1 + i : Nat) : Int) + 1 = ((j + 1 + (i + 1) : Nat) : Int) := by lia
      rw [e]
     ·by_cases hk' : k < i
      ·exact ha k hk' x hx
      ·have : k = i := by lia
       subst this;rw [hd] at hx;cases hx;exact decide_eq_true h2
   ·left
    constructor
    ·push_cast only [aF, decide_eq_true h1, g1, decide_eq_false h2]
    ·rw [fin fun x hx => by rw [hd] at hx; cases hx; exact decide_eq_false h2]
  ·left
   constructor
   ·push_cast only [aF, decide_eq_false h1]
   ·rw [fin fun x hx => by
     have := (List.getElem?_eq_some_iff.mp hx).1;rw [List.length_drop] at this
     lia]
 ·rintro ρ' rfl rfl
  push_cast only [and_self]
theorem uj (ts : List Nd) (j : Nat) (h : j < ts.length) (hl : ts.length ≤ 100) : dC [.list (au ts), .int j] = .ok (.ol ((au (bI ts j)).map OD.sh)) := by
 unfold dC gc;obtain ⟨r, hr⟩ : ∃ n, ts[j]? = some n := ⟨ts[j]'(by lia), by simp⟩
 have g1 := eA hr;have c1 := ni (au ts) j (by rw [aF]; exact h)
 have e1 := xK ts j h;have w1 : ((ts.drop (j + 1)).takeWhile (inB j)).length ≤ ts.length - (j + 1) := by
  have := (List.takeWhile_prefix (inB j) (l := ts.drop (j + 1))).length_le;rw [List.length_drop] at this;exact this
 have ej : (j : Int) + 1 = ((j + 1 : Nat) : Int) := by lia
 have cu := vo (au ts) (j + 1) (j + 1 + ((ts.drop (j + 1)).takeWhile (inB j)).length) (by rw [aF]; lia) (by rw [aF]; lia)
 have cu2 : ((au ts).drop (j + 1)).take (j + 1 + ((ts.drop (j + 1)).takeWhile (inB j)).length - (j + 1)) = au ((ts.drop (j + 1)).takeWhile (inB j)) := by
  unfold au;rw [← List.map_drop, ← List.map_take, Nat.add_sub_cancel_left];congr 1
  have hp := List.takeWhile_prefix (inB j) (l := ts.drop (j + 1));exact (List.prefix_iff_eq_take.mp hp).symm
 rw [cu2] at cu;push_cast only [c1, g1, e1, ej, cu, bK];generalize hL : b6 _ _ _ _ = r'
 refine dc hL (fun i ρ => ∃ v3 : Option OD, ρ = [some (.sh (.list (au ts))), some (.sh (.int j)), some (.ol ((au (⟨-1, r.l, r.t⟩ :: (((ts.drop (j + 1)).takeWhile (inB j)).take i).map (fI j))).map OD.sh)), v3]) ⟨_, rfl⟩ ?_ ?_
 ·rintro i d ρ hd ⟨v3, rfl⟩
  unfold au at hd;rw [List.getElem?_map] at hd;obtain ⟨n, hn, rfl⟩ := Option.map_eq_some_iff.mp hd;have hi := (List.getElem?_eq_some_iff.mp hn).1;have lb : ((au (⟨-1, r.l, r.t⟩ :: (((ts.drop (j + 1)).takeWhile (inB j)).take i).map (fI j))).length < BIG) = True := by
   rw [aF];exact ft (by simp; lia)
  have t1 : (au (⟨-1, r.l, r.t⟩ :: (((ts.drop (j + 1)).takeWhile (inB j)).take i).map (fI j))).map OD.sh ++ [OD.sh (.tuple [.int (n.e - j), .str n.l, .int n.t])] = (au (⟨-1, r.l, r.t⟩ :: (((ts.drop (j + 1)).takeWhile (inB j)).take (i + 1)).map (fI j))).map OD.sh := by
   rw [List.take_add_one, hn];unfold au;simp [fI, ndD]
  push_cast only [ndD, lb, t1];exact ⟨_, rfl⟩
 ·rintro ρ' rfl ⟨v3, rfl⟩
  push_cast only [and_self];unfold bI;rw [hr, aF, List.take_of_length_le (Nat.le_refl _)]
theorem tV (ts : List Nd) (gap : Int) (he : EL ts) (h0 : 0 < ts.length) (hl : ts.length ≤ 100) (hlab : ∀ n ∈ ts, n.l.length ≤ 1000) :
  ∃ (xs : List OD) (ys : List PyData), cL [.list (au ts), .int gap] = .ok (.ot [.sh (.list ((PO ts gap ts.length).2.map PyData.int)), .ol xs]) ∧ xs.map OD.er = bZ (PO ts gap ts.length).1 ∧ xs[0]? = some (.ol (ys.map OD.sh)) := by
 obtain ⟨xs, ys, v4, v5, v6, v7, v8, v9, hq, xe, xz⟩ := jV ts gap he h0 hl hlab;refine ⟨xs, ys, ?_, xe, xz⟩;have e : gf = pcs (jx 2 (jk (ag 2) 3)) := rfl;have rt := uK (i := 3) (fa := ag 2) (ρ := [some (.sh (.list (au ts))), some (.sh (.int gap)), some (.sh (.list ((PO ts gap ts.length).2.map PyData.int))), some (.ol xs), v4, v5, v6, v7, v8, v9]) (x := .ol xs) (y := .sh (.list ((PO ts gap ts.length).2.map PyData.int))) rfl rfl;unfold cL;rw [e];push_cast only [hq, iU, cF, rt]
theorem oZ (xs : List PyData) (z : Int) (h : z < 0 ∨ (xs.length : Int) ≤ z) : cT [.list xs, .int z] = .ex "NoNode" := by
 unfold cT eU;by_cases h1 : z < 0
 ·push_cast only [decide_eq_true h1, pT, mX]
 ·have d2 : decide ((xs.length : Int) ≤ z) = true := decide_eq_true (by lia)
  push_cast only [decide_eq_false h1, d2, pT, mX]
theorem o8 (xs : List PyData) (z : Int) (h : z < 0 ∨ (xs.length : Int) ≤ z) : en [.list xs, .int z] = .ex "NoNode" := by
 unfold en fZ;push_cast only [oZ xs z h, uk, mX]
theorem tw (xs : List PyData) (z : Int) (h : z < 0 ∨ (xs.length : Int) ≤ z) (w : PyData) : dn [.list xs, .int z, w] = .ex "NoNode" := by
 unfold dn eT;push_cast only [o8 xs z h, wu, vQ, wR, uk, mX]
theorem oW (xs : List PyData) (z : Int) (h : z < 0 ∨ (xs.length : Int) ≤ z) (w : PyData) : dk [.list xs, .int z, w] = .ok (.sh (.bool true)) := by
 unfold dk d5;push_cast only [A_, tw xs z h w, CU, C6, zI]
theorem tf (ts : List Nd) (c : F) (p : PT ts c) (gap : Int) (hlab : Lb ts) (hl : ts.length ≤ 100) (j : Nat) (hj : j < ts.length) : cz [.list (au ts), .int j, .int gap] = .ok (.ol ((bM (outF ts gap j)).map OD.sh)) := by
 unfold cz eV;have b1 := qH hj;obtain ⟨d, pd⟩ := sR p hj;have hb := uj ts j hj hl;obtain ⟨xs, ys, h1, h2, h3⟩ := tV (bI ts j) gap (gA pd) (by lia) (by lia) fun n h => by have := (qU hlab j n h).2.1; lia
 have po := tU gap (pB p hj) (gA p) (gA pd) (by lia) hl (bI ts j).length 0 (by lia) (by lia)
 have ey : ys = bM (outF ts gap j) := by
  have := congrArg (fun l => l[0]?) h2
  simp only [List.getElem?_map, h3] at this;rw [Nat.add_zero] at po;rw [← po];unfold outF;unfold gj;unfold bZ at this;rw [List.getElem?_map] at this;cases hz : (PO (bI ts j) gap (bI ts j).length).1[0]? with
  | none => rw [hz] at this; cases this
  | some q =>
   rw [hz] at this;simp only [Option.map_some, iU, bK, Option.some.injEq, PyData.list.injEq] at this;exact this
 have e1 : ∀ ρ : L3.Env, ρ = [some (.sh (.list (au ts))), some (.sh (.int j)), some (.sh (.int gap))] → aK cL (af (aK dC (af (ag 0) (af (ag 1) av))) (af (ag 2) av)) ρ = .ok (.ot [.sh (.list ((PO (bI ts j) gap (bI ts j).length).2.map PyData.int)), .ol xs]) := fun ρ hρ => by
  subst hρ;push_cast only [hb, bK, h1]
 have e2 := wz (k := 1) (e1 _ rfl) rfl rfl;have e3 := wz (k := 0) e2 rfl h3;rw [ey] at e3;push_cast only [e3]
theorem qm (os : Ol) (hl : os.length ≤ 100) : da [.list (bM os), .list (bM os)] = .ok (.sh (.bool true)) := by
 unfold da fB;have lo : (bM os).length = os.length := by unfold bM; rw [List.length_map]
 have d1 : decide ((os.length : Int) = (os.length : Int)) = true := decide_eq_true rfl;push_cast only [lo, d1];generalize hL : b6 _ _ _ _ = r'
 refine dc hL (fun i ρ => ∃ v2 v3 : Option OD, ρ = [some (.sh (.list (bM os))), some (.sh (.list (bM os))), v2, v3]) ⟨_, _, rfl⟩ ?_ ?_
 ·rintro k d ρ hd ⟨v2, v3, rfl⟩
  obtain ⟨x, y, hx, hy, rfl⟩ := kB hd;rw [hx] at hy;cases hy;unfold bM at hx;rw [List.getElem?_map] at hx;obtain ⟨q, _, rfl⟩ := Option.map_eq_some_iff.mp hx;have ly : lay 1 (.tuple [.int q.1, .int q.2]) := lP fun z hz => by
   simp only [List.mem_cons, List.not_mem_nil, or_false] at hz;rcases hz with rfl | rfl
   ·exact jh _
   ·exact jh _
  have ne := qM ly;push_cast only [ne, lX];exact ⟨_, _, rfl⟩
 ·rintro ρ' rfl ⟨v2, v3, rfl⟩
  push_cast only [and_self]
theorem xn (v : Option OD) (ρ : L3.Env) : erase (v :: ρ) = (v.map fun x => OD.sh x.er) :: erase ρ := rfl
theorem tQ (ns : List Int) (hn : ns.length ≤ 63) : k7 [.list (ns.map PyData.int)] = .ok (.sh (.bool true)) := by
 unfold k7 mD;obtain ⟨ts, c, x, p, lb, hl40, hx, hst⟩ := md ns;obtain ⟨y, hy⟩ := i5 ns 2 (by decide) (by decide)
 have he := gA p;have h0 := p.pos;have hl : ts.length ≤ 100 := by lia
 have lab : ∀ n ∈ ts, n.l.length ≤ 1000 := fun n hn => by have := (lb n hn).2.1; lia
 obtain ⟨gap, hgap⟩ : ∃ gap, gap = 1 + y % 20 := ⟨_, rfl⟩;have dr := sG ts gap he h0 hl lab;have dl := qx (gap := gap) h0;have d1 : decide ((ts.length : Int) = (ts.length : Int)) = true := decide_eq_true rfl;have hw := cU (y / 20) (show (0 : Int) < 1000003 by decide)
 have bg : (ts.length ≤ BIG) = True := bN (by lia)
 have s3 : aH 3 = true := fW (by decide) (by decide)
 have e4 := nE (u7 lb);have hL0 : (0 : Int) < (ts.length : Int) := by lia
 push_cast only [hst, hx, hy, ← hgap, dr, cF, aF, dl, d1];generalize hC : cw _ _ _ _ _ _ = rc
 have e := kj hC PyData.int (fun _ : Int => true) (fun q : Int => .sh (.int q)) (drw ts gap) rfl (of_eq_true (bN (by lia))) (by
  intro q hq;refine ⟨?_, fun _ => ?_⟩
  ·push_cast only [lX]
  ·push_cast only [and_self])
 rw [List.filter_eq_self.mpr (fun _ _ => rfl)] at e
 subst e;clear hC;generalize hw' : y / 20 % 1000003 = w at hw
 push_cast only [hy, aF, dl, d1, hw', bg, bK];generalize hL : b6 _ _ _ _ = r'
 refine dc hL (fun i ρ => ∃ v6 : Option OD, ρ = [some (.sh (.list (ns.map PyData.int))), some (.sh (.list (au ts))), some (.sh (.int gap)), some (.sh (.list ((drw ts gap).map PyData.int))), some (.sh (.int w)), some (.sh (.list (au ts))), v6, none, none, none, none]) ⟨_, rfl⟩ ?_ ?_
 ·rintro k d ρ hd ⟨v6, rfl⟩
  have hz : ∃ z : Int, d = .int z ∧ (z < 0 ∨ (ts.length : Int) ≤ z) := by
   match k, hd with
   | 0, h => cases h; exact ⟨_, rfl, by lia⟩
   | 1, h => cases h; exact ⟨_, rfl, by lia⟩
   | 2, h => cases h; exact ⟨_, rfl, by lia⟩
   | k + 3, h => simp at h
  obtain ⟨z, rfl, hz⟩ := hz;have rf := oW (au ts) z (by rw [aF]; exact hz) (.int gap)
  push_cast only [rf];exact ⟨_, rfl⟩
 ·rintro ρ' rfl ⟨v6, rfl⟩
  push_cast only [s3];generalize hL2 : b6 _ _ _ _ = r2
  refine dc hL2 (fun i ρ => ∃ v7 v8 v9 v10 : Option OD, ρ = [some (.sh (.list (ns.map PyData.int))), some (.sh (.list (au ts))), some (.sh (.int gap)), some (.sh (.list ((drw ts gap).map PyData.int))), some (.sh (.int w)), some (.sh (.list (au ts))), v6, v7, v8, v9, v10]) ⟨_, _, _, _, rfl⟩ ?_ ?_
  ·rintro k d ρ hd ⟨v7, v8, v9, v10, rfl⟩
   obtain ⟨hk, rfl⟩ := dW hd;have hk3 : k < 3 := by lia
   rw [Int.zero_add];have kk : 0 ≤ (k : Int) * (k : Int) ∧ (k : Int) * (k : Int) ≤ 2 * 2 := ⟨Int.mul_nonneg (by lia) (by lia), Int.mul_le_mul (by lia) (by lia) (by lia) (by lia)⟩
   have c1 : fT (k : Int) (k : Int) = true := pL (by lia) (by lia)
   generalize hq : (k : Int) * (k : Int) = q at kk
   have hm := cU (w + q) hL0;generalize hr : (w + q) % (ts.length : Int) = u at hm
   have hj' : u = ((u.toNat : Nat) : Int) := (Int.toNat_of_nonneg hm.1).symm;generalize u.toNat = j at hj'
   have hj : j < ts.length := by
    have z := hm.2;rw [hj'] at z;exact Int.ofNat_lt.mp z
   have o1 := jP ts c p gap lab hl j hj;have o2 := tf ts c p gap lb hl j hj;have ol := nW gap he h0 hl hj;have g1 := qm (outF ts gap j) (by lia)
   have lo : ((bM (outF ts gap j)).length < BIG) = True := by
    unfold bM;rw [List.length_map];exact ft (by lia)
   push_cast only [c1, hq, hr, aF, hL0, hj', o1, o2, bK, g1, e4, lo, xn v6];exact ⟨_, _, _, _, rfl⟩
  ·rintro ρ2 rfl ⟨v7, v8, v9, v10, rfl⟩
   have o1 := jP ts c p gap lab hl 0 h0;have o2 := tf ts c p gap lb hl 0 h0;have ol := nW gap he h0 hl h0;have g1 := qm (outF ts gap 0) (by lia)
   rw [show ((0 : Nat) : Int) = 0 from rfl] at o1 o2
   push_cast only [o1, o2, bK, g1]
theorem all_mk {l : PySem.W.OpenLaw} {w : World} {K : PySem.W.Frag} {h : Heap} {mg : Str → Option Value} {fa : Addr} (X : K.In h) (G : h.Ns mainGlobals mg) (hfa : mg "law" = some (.ref fa))
  {f_check_node f_reaches f_bough_end f_nearest f_joined_outline f__law_cell f__law_whole f__law_label f__law_mirror_order f__law_hung f__law_end f_children_of f_bough_of f_earliest_places f_latest_places f_moved_to_side f__law_tree f__law_mirror_tree f__law_relabelled f__law_outline_by f__law_good f_room_of f__law_family f_stands_below f__law_some_tree f_pieces f_drawn f_outline_of f__law_refused f_law : Addr}
  {od_check_node an_check_node od_reaches an_reaches od_bough_end an_bough_end od_nearest an_nearest od_joined_outline an_joined_outline od__law_cell an__law_cell od__law_whole an__law_whole od__law_label an__law_label od__law_mirror_order an__law_mirror_order od__law_hung an__law_hung od__law_end an__law_end od_children_of an_children_of od_bough_of an_bough_of od_earliest_places an_earliest_places od_latest_places an_latest_places od_moved_to_side an_moved_to_side od__law_tree an__law_tree od__law_mirror_tree an__law_mirror_tree od__law_relabelled an__law_relabelled od__law_outline_by an__law_outline_by od__law_good an__law_good od_room_of an_room_of od__law_family an__law_family od_stands_below an_stands_below od__law_some_tree an__law_some_tree od_pieces an_pieces od_drawn an_drawn od_outline_of an_outline_of od__law_refused an__law_refused od_law an_law : Option Addr}
  {sl_check_node sl_reaches sl_bough_end sl_nearest sl_joined_outline sl__law_cell sl__law_whole sl__law_label sl__law_mirror_order sl__law_hung sl__law_end sl_children_of sl_bough_of sl_earliest_places sl_latest_places sl_moved_to_side sl__law_tree sl__law_mirror_tree sl__law_relabelled sl__law_outline_by sl__law_good sl_room_of sl__law_family sl_stands_below sl__law_some_tree sl_pieces sl_drawn sl_outline_of sl__law_refused sl_law : Array (Option Value)}
  {oc_check_node kV_check_node dc_check_node pm_check_node cd_check_node ct_check_node oc_reaches kV_reaches dc_reaches pm_reaches cd_reaches ct_reaches oc_bough_end kV_bough_end dc_bough_end pm_bough_end cd_bough_end ct_bough_end oc_nearest kV_nearest dc_nearest pm_nearest cd_nearest ct_nearest oc_joined_outline kV_joined_outline dc_joined_outline pm_joined_outline cd_joined_outline ct_joined_outline oc__law_cell kV__law_cell dc__law_cell pm__law_cell cd__law_cell ct__law_cell oc__law_whole kV__law_whole dc__law_whole pm__law_whole cd__law_whole ct__law_whole oc__law_label kV__law_label dc__law_label pm__law_label cd__law_label ct__law_label oc__law_mirror_order kV__law_mirror_order dc__law_mirror_order pm__law_mirror_order cd__law_mirror_order ct__law_mirror_order oc__law_hung kV__law_hung dc__law_hung pm__law_hung cd__law_hung ct__law_hung oc__law_end kV__law_end dc__law_end pm__law_end cd__law_end ct__law_end oc_children_of kV_children_of dc_children_of pm_children_of cd_children_of ct_children_of oc_bough_of kV_bough_of dc_bough_of pm_bough_of cd_bough_of ct_bough_of oc_earliest_places kV_earliest_places dc_earliest_places pm_earliest_places cd_earliest_places ct_earliest_places oc_latest_places kV_latest_places dc_latest_places pm_latest_places cd_latest_places ct_latest_places oc_moved_to_side kV_moved_to_side dc_moved_to_side pm_moved_to_side cd_moved_to_side ct_moved_to_side oc__law_tree kV__law_tree dc__law_tree pm__law_tree cd__law_tree ct__law_tree oc__law_mirror_tree kV__law_mirror_tree dc__law_mirror_tree pm__law_mirror_tree cd__law_mirror_tree ct__law_mirror_tree oc__law_relabelled kV__law_relabelled dc__law_relabelled pm__law_relabelled cd__law_relabelled ct__law_relabelled oc__law_outline_by kV__law_outline_by dc__law_outline_by pm__law_outline_by cd__law_outline_by ct__law_outline_by oc__law_good kV__law_good dc__law_good pm__law_good cd__law_good ct__law_good oc_room_of kV_room_of dc_room_of pm_room_of cd_room_of ct_room_of oc__law_family kV__law_family dc__law_family pm__law_family cd__law_family ct__law_family oc_stands_below kV_stands_below dc_stands_below pm_stands_below cd_stands_below ct_stands_below oc__law_some_tree kV__law_some_tree dc__law_some_tree pm__law_some_tree cd__law_some_tree ct__law_some_tree oc_pieces kV_pieces dc_pieces pm_pieces cd_pieces ct_pieces oc_drawn kV_drawn dc_drawn pm_drawn cd_drawn ct_drawn oc_outline_of kV_outline_of dc_outline_of pm_outline_of cd_outline_of ct_outline_of oc__law_refused kV__law_refused dc__law_refused pm__law_refused cd__law_refused ct__law_refused oc_law kV_law dc_law pm_law cd_law ct_law : Value}
  {tk_SHREDS : Tok}
  {c_DrawError c_NoNode c_NoPlace c_NoTree : Addr}
  (a_check_node : PySem.W.nsIn K mainGlobals "check_node" = some (some (.ref f_check_node))) (l_check_node : K.lookup f_check_node = some ⟨oc_check_node, od_check_node, .func (PySem.W.fnOf "check_node" "check_node" (aO bJ) (aJ bJ) (ao bJ) .none kV_check_node dc_check_node pm_check_node an_check_node cd_check_node ct_check_node), sl_check_node⟩) (c_check_node : PySem.W.codeIn K cd_check_node "check_node" = true) (k_check_node : PySem.W.keepIn K (.ref f_check_node) = true)
  (a_reaches : PySem.W.nsIn K mainGlobals "reaches" = some (some (.ref f_reaches))) (l_reaches : K.lookup f_reaches = some ⟨oc_reaches, od_reaches, .func (PySem.W.fnOf "reaches" "reaches" (aO c8) (aJ c8) (ao c8) .none kV_reaches dc_reaches pm_reaches an_reaches cd_reaches ct_reaches), sl_reaches⟩) (c_reaches : PySem.W.codeIn K cd_reaches "reaches" = true) (k_reaches : PySem.W.keepIn K (.ref f_reaches) = true)
  (a_bough_end : PySem.W.nsIn K mainGlobals "bough_end" = some (some (.ref f_bough_end))) (l_bough_end : K.lookup f_bough_end = some ⟨oc_bough_end, od_bough_end, .func (PySem.W.fnOf "bough_end" "bough_end" (aO cO) (aJ cO) (ao cO) .none kV_bough_end dc_bough_end pm_bough_end an_bough_end cd_bough_end ct_bough_end), sl_bough_end⟩) (c_bough_end : PySem.W.codeIn K cd_bough_end "bough_end" = true) (k_bough_end : PySem.W.keepIn K (.ref f_bough_end) = true)
  (a_nearest : PySem.W.nsIn K mainGlobals "nearest" = some (some (.ref f_nearest))) (l_nearest : K.lookup f_nearest = some ⟨oc_nearest, od_nearest, .func (PySem.W.fnOf "nearest" "nearest" (aO dq) (aJ dq) (ao dq) .none kV_nearest dc_nearest pm_nearest an_nearest cd_nearest ct_nearest), sl_nearest⟩) (c_nearest : PySem.W.codeIn K cd_nearest "nearest" = true) (k_nearest : PySem.W.keepIn K (.ref f_nearest) = true)
  (a_joined_outline : PySem.W.nsIn K mainGlobals "joined_outline" = some (some (.ref f_joined_outline))) (l_joined_outline : K.lookup f_joined_outline = some ⟨oc_joined_outline, od_joined_outline, .func (PySem.W.fnOf "joined_outline" "joined_outline" (aO aL) (aJ aL) (ao aL) .none kV_joined_outline dc_joined_outline pm_joined_outline an_joined_outline cd_joined_outline ct_joined_outline), sl_joined_outline⟩) (c_joined_outline : PySem.W.codeIn K cd_joined_outline "joined_outline" = true) (k_joined_outline : PySem.W.keepIn K (.ref f_joined_outline) = true)
  (a__law_cell : PySem.W.nsIn K mainGlobals "_law_cell" = some (some (.ref f__law_cell))) (l__law_cell : K.lookup f__law_cell = some ⟨oc__law_cell, od__law_cell, .func (PySem.W.fnOf "_law_cell" "_law_cell" (aO bW) (aJ bW) (ao bW) .none kV__law_cell dc__law_cell pm__law_cell an__law_cell cd__law_cell ct__law_cell), sl__law_cell⟩) (c__law_cell : PySem.W.codeIn K cd__law_cell "_law_cell" = true) (k__law_cell : PySem.W.keepIn K (.ref f__law_cell) = true)
  (a__law_whole : PySem.W.nsIn K mainGlobals "_law_whole" = some (some (.ref f__law_whole))) (l__law_whole : K.lookup f__law_whole = some ⟨oc__law_whole, od__law_whole, .func (PySem.W.fnOf "_law_whole" "_law_whole" (aO cg) (aJ cg) (ao cg) .none kV__law_whole dc__law_whole pm__law_whole an__law_whole cd__law_whole ct__law_whole), sl__law_whole⟩) (c__law_whole : PySem.W.codeIn K cd__law_whole "_law_whole" = true) (k__law_whole : PySem.W.keepIn K (.ref f__law_whole) = true)
  (a__law_label : PySem.W.nsIn K mainGlobals "_law_label" = some (some (.ref f__law_label))) (l__law_label : K.lookup f__law_label = some ⟨oc__law_label, od__law_label, .func (PySem.W.fnOf "_law_label" "_law_label" (aO cN) (aJ cN) (ao cN) .none kV__law_label dc__law_label pm__law_label an__law_label cd__law_label ct__law_label), sl__law_label⟩) (c__law_label : PySem.W.codeIn K cd__law_label "_law_label" = true) (k__law_label : PySem.W.keepIn K (.ref f__law_label) = true)
  (a__law_mirror_order : PySem.W.nsIn K mainGlobals "_law_mirror_order" = some (some (.ref f__law_mirror_order))) (l__law_mirror_order : K.lookup f__law_mirror_order = some ⟨oc__law_mirror_order, od__law_mirror_order, .func (PySem.W.fnOf "_law_mirror_order" "_law_mirror_order" (aO aS) (aJ aS) (ao aS) .none kV__law_mirror_order dc__law_mirror_order pm__law_mirror_order an__law_mirror_order cd__law_mirror_order ct__law_mirror_order), sl__law_mirror_order⟩) (c__law_mirror_order : PySem.W.codeIn K cd__law_mirror_order "_law_mirror_order" = true) (k__law_mirror_order : PySem.W.keepIn K (.ref f__law_mirror_order) = true)
  (a__law_hung : PySem.W.nsIn K mainGlobals "_law_hung" = some (some (.ref f__law_hung))) (l__law_hung : K.lookup f__law_hung = some ⟨oc__law_hung, od__law_hung, .func (PySem.W.fnOf "_law_hung" "_law_hung" (aO c9) (aJ c9) (ao c9) .none kV__law_hung dc__law_hung pm__law_hung an__law_hung cd__law_hung ct__law_hung), sl__law_hung⟩) (c__law_hung : PySem.W.codeIn K cd__law_hung "_law_hung" = true) (k__law_hung : PySem.W.keepIn K (.ref f__law_hung) = true)
  (a__law_end : PySem.W.nsIn K mainGlobals "_law_end" = some (some (.ref f__law_end))) (l__law_end : K.lookup f__law_end = some ⟨oc__law_end, od__law_end, .func (PySem.W.fnOf "_law_end" "_law_end" (aO dF) (aJ dF) (ao dF) .none kV__law_end dc__law_end pm__law_end an__law_end cd__law_end ct__law_end), sl__law_end⟩) (c__law_end : PySem.W.codeIn K cd__law_end "_law_end" = true) (k__law_end : PySem.W.keepIn K (.ref f__law_end) = true)
  (a_children_of : PySem.W.nsIn K mainGlobals "children_of" = some (some (.ref f_children_of))) (l_children_of : K.lookup f_children_of = some ⟨oc_children_of, od_children_of, .func (PySem.W.fnOf "children_of" "children_of" (aO bF) (aJ bF) (ao bF) .none kV_children_of dc_children_of pm_children_of an_children_of cd_children_of ct_children_of), sl_children_of⟩) (c_children_of : PySem.W.codeIn K cd_children_of "children_of" = true) (k_children_of : PySem.W.keepIn K (.ref f_children_of) = true)
  (a_bough_of : PySem.W.nsIn K mainGlobals "bough_of" = some (some (.ref f_bough_of))) (l_bough_of : K.lookup f_bough_of = some ⟨oc_bough_of, od_bough_of, .func (PySem.W.fnOf "bough_of" "bough_of" (aO cW) (aJ cW) (ao cW) .none kV_bough_of dc_bough_of pm_bough_of an_bough_of cd_bough_of ct_bough_of), sl_bough_of⟩) (c_bough_of : PySem.W.codeIn K cd_bough_of "bough_of" = true) (k_bough_of : PySem.W.keepIn K (.ref f_bough_of) = true)
  (a_earliest_places : PySem.W.nsIn K mainGlobals "earliest_places" = some (some (.ref f_earliest_places))) (l_earliest_places : K.lookup f_earliest_places = some ⟨oc_earliest_places, od_earliest_places, .func (PySem.W.fnOf "earliest_places" "earliest_places" (aO a8) (aJ a8) (ao a8) .none kV_earliest_places dc_earliest_places pm_earliest_places an_earliest_places cd_earliest_places ct_earliest_places), sl_earliest_places⟩) (c_earliest_places : PySem.W.codeIn K cd_earliest_places "earliest_places" = true) (k_earliest_places : PySem.W.keepIn K (.ref f_earliest_places) = true)
  (a_latest_places : PySem.W.nsIn K mainGlobals "latest_places" = some (some (.ref f_latest_places))) (l_latest_places : K.lookup f_latest_places = some ⟨oc_latest_places, od_latest_places, .func (PySem.W.fnOf "latest_places" "latest_places" (aO br) (aJ br) (ao br) .none kV_latest_places dc_latest_places pm_latest_places an_latest_places cd_latest_places ct_latest_places), sl_latest_places⟩) (c_latest_places : PySem.W.codeIn K cd_latest_places "latest_places" = true) (k_latest_places : PySem.W.keepIn K (.ref f_latest_places) = true)
  (a_moved_to_side : PySem.W.nsIn K mainGlobals "moved_to_side" = some (some (.ref f_moved_to_side))) (l_moved_to_side : K.lookup f_moved_to_side = some ⟨oc_moved_to_side, od_moved_to_side, .func (PySem.W.fnOf "moved_to_side" "moved_to_side" (aO a_) (aJ a_) (ao a_) .none kV_moved_to_side dc_moved_to_side pm_moved_to_side an_moved_to_side cd_moved_to_side ct_moved_to_side), sl_moved_to_side⟩) (c_moved_to_side : PySem.W.codeIn K cd_moved_to_side "moved_to_side" = true) (k_moved_to_side : PySem.W.keepIn K (.ref f_moved_to_side) = true)
  (a__law_tree : PySem.W.nsIn K mainGlobals "_law_tree" = some (some (.ref f__law_tree))) (l__law_tree : K.lookup f__law_tree = some ⟨oc__law_tree, od__law_tree, .func (PySem.W.fnOf "_law_tree" "_law_tree" (aO cQ) (aJ cQ) (ao cQ) .none kV__law_tree dc__law_tree pm__law_tree an__law_tree cd__law_tree ct__law_tree), sl__law_tree⟩) (c__law_tree : PySem.W.codeIn K cd__law_tree "_law_tree" = true) (k__law_tree : PySem.W.keepIn K (.ref f__law_tree) = true)
  (a__law_mirror_tree : PySem.W.nsIn K mainGlobals "_law_mirror_tree" = some (some (.ref f__law_mirror_tree))) (l__law_mirror_tree : K.lookup f__law_mirror_tree = some ⟨oc__law_mirror_tree, od__law_mirror_tree, .func (PySem.W.fnOf "_law_mirror_tree" "_law_mirror_tree" (aO a9) (aJ a9) (ao a9) .none kV__law_mirror_tree dc__law_mirror_tree pm__law_mirror_tree an__law_mirror_tree cd__law_mirror_tree ct__law_mirror_tree), sl__law_mirror_tree⟩) (c__law_mirror_tree : PySem.W.codeIn K cd__law_mirror_tree "_law_mirror_tree" = true) (k__law_mirror_tree : PySem.W.keepIn K (.ref f__law_mirror_tree) = true)
  (a__law_relabelled : PySem.W.nsIn K mainGlobals "_law_relabelled" = some (some (.ref f__law_relabelled))) (l__law_relabelled : K.lookup f__law_relabelled = some ⟨oc__law_relabelled, od__law_relabelled, .func (PySem.W.fnOf "_law_relabelled" "_law_relabelled" (aO bj) (aJ bj) (ao bj) .none kV__law_relabelled dc__law_relabelled pm__law_relabelled an__law_relabelled cd__law_relabelled ct__law_relabelled), sl__law_relabelled⟩) (c__law_relabelled : PySem.W.codeIn K cd__law_relabelled "_law_relabelled" = true) (k__law_relabelled : PySem.W.keepIn K (.ref f__law_relabelled) = true)
  (a__law_outline_by : PySem.W.nsIn K mainGlobals "_law_outline_by" = some (some (.ref f__law_outline_by))) (l__law_outline_by : K.lookup f__law_outline_by = some ⟨oc__law_outline_by, od__law_outline_by, .func (PySem.W.fnOf "_law_outline_by" "_law_outline_by" (aO bo) (aJ bo) (ao bo) .none kV__law_outline_by dc__law_outline_by pm__law_outline_by an__law_outline_by cd__law_outline_by ct__law_outline_by), sl__law_outline_by⟩) (c__law_outline_by : PySem.W.codeIn K cd__law_outline_by "_law_outline_by" = true) (k__law_outline_by : PySem.W.keepIn K (.ref f__law_outline_by) = true)
  (a__law_good : PySem.W.nsIn K mainGlobals "_law_good" = some (some (.ref f__law_good))) (l__law_good : K.lookup f__law_good = some ⟨oc__law_good, od__law_good, .func (PySem.W.fnOf "_law_good" "_law_good" (aO c_) (aJ c_) (ao c_) .none kV__law_good dc__law_good pm__law_good an__law_good cd__law_good ct__law_good), sl__law_good⟩) (c__law_good : PySem.W.codeIn K cd__law_good "_law_good" = true) (k__law_good : PySem.W.keepIn K (.ref f__law_good) = true)
  (a_room_of : PySem.W.nsIn K mainGlobals "room_of" = some (some (.ref f_room_of))) (l_room_of : K.lookup f_room_of = some ⟨oc_room_of, od_room_of, .func (PySem.W.fnOf "room_of" "room_of" (aO eh) (aJ eh) (ao eh) .none kV_room_of dc_room_of pm_room_of an_room_of cd_room_of ct_room_of), sl_room_of⟩) (c_room_of : PySem.W.codeIn K cd_room_of "room_of" = true) (k_room_of : PySem.W.keepIn K (.ref f_room_of) = true)
  (a__law_family : PySem.W.nsIn K mainGlobals "_law_family" = some (some (.ref f__law_family))) (l__law_family : K.lookup f__law_family = some ⟨oc__law_family, od__law_family, .func (PySem.W.fnOf "_law_family" "_law_family" (aO cx) (aJ cx) (ao cx) .none kV__law_family dc__law_family pm__law_family an__law_family cd__law_family ct__law_family), sl__law_family⟩) (c__law_family : PySem.W.codeIn K cd__law_family "_law_family" = true) (k__law_family : PySem.W.keepIn K (.ref f__law_family) = true)
  (a_stands_below : PySem.W.nsIn K mainGlobals "stands_below" = some (some (.ref f_stands_below))) (l_stands_below : K.lookup f_stands_below = some ⟨oc_stands_below, od_stands_below, .func (PySem.W.fnOf "stands_below" "stands_below" (aO bq) (aJ bq) (ao bq) .none kV_stands_below dc_stands_below pm_stands_below an_stands_below cd_stands_below ct_stands_below), sl_stands_below⟩) (c_stands_below : PySem.W.codeIn K cd_stands_below "stands_below" = true) (k_stands_below : PySem.W.keepIn K (.ref f_stands_below) = true)
  (a__law_some_tree : PySem.W.nsIn K mainGlobals "_law_some_tree" = some (some (.ref f__law_some_tree))) (l__law_some_tree : K.lookup f__law_some_tree = some ⟨oc__law_some_tree, od__law_some_tree, .func (PySem.W.fnOf "_law_some_tree" "_law_some_tree" (aO bz) (aJ bz) (ao bz) .none kV__law_some_tree dc__law_some_tree pm__law_some_tree an__law_some_tree cd__law_some_tree ct__law_some_tree), sl__law_some_tree⟩) (c__law_some_tree : PySem.W.codeIn K cd__law_some_tree "_law_some_tree" = true) (k__law_some_tree : PySem.W.keepIn K (.ref f__law_some_tree) = true)
  (a_pieces : PySem.W.nsIn K mainGlobals "pieces" = some (some (.ref f_pieces))) (l_pieces : K.lookup f_pieces = some ⟨oc_pieces, od_pieces, .func (PySem.W.fnOf "pieces" "pieces" (aO cC) (aJ cC) (ao cC) .none kV_pieces dc_pieces pm_pieces an_pieces cd_pieces ct_pieces), sl_pieces⟩) (c_pieces : PySem.W.codeIn K cd_pieces "pieces" = true) (k_pieces : PySem.W.keepIn K (.ref f_pieces) = true)
  (a_drawn : PySem.W.nsIn K mainGlobals "drawn" = some (some (.ref f_drawn))) (l_drawn : K.lookup f_drawn = some ⟨oc_drawn, od_drawn, .func (PySem.W.fnOf "drawn" "drawn" (aO gh) (aJ gh) (ao gh) .none kV_drawn dc_drawn pm_drawn an_drawn cd_drawn ct_drawn), sl_drawn⟩) (c_drawn : PySem.W.codeIn K cd_drawn "drawn" = true) (k_drawn : PySem.W.keepIn K (.ref f_drawn) = true)
  (a_outline_of : PySem.W.nsIn K mainGlobals "outline_of" = some (some (.ref f_outline_of))) (l_outline_of : K.lookup f_outline_of = some ⟨oc_outline_of, od_outline_of, .func (PySem.W.fnOf "outline_of" "outline_of" (aO bP) (aJ bP) (ao bP) .none kV_outline_of dc_outline_of pm_outline_of an_outline_of cd_outline_of ct_outline_of), sl_outline_of⟩) (c_outline_of : PySem.W.codeIn K cd_outline_of "outline_of" = true) (k_outline_of : PySem.W.keepIn K (.ref f_outline_of) = true)
  (a__law_refused : PySem.W.nsIn K mainGlobals "_law_refused" = some (some (.ref f__law_refused))) (l__law_refused : K.lookup f__law_refused = some ⟨oc__law_refused, od__law_refused, .func (PySem.W.fnOf "_law_refused" "_law_refused" (aO bS) (aJ bS) (ao bS) .none kV__law_refused dc__law_refused pm__law_refused an__law_refused cd__law_refused ct__law_refused), sl__law_refused⟩) (c__law_refused : PySem.W.codeIn K cd__law_refused "_law_refused" = true) (k__law_refused : PySem.W.keepIn K (.ref f__law_refused) = true)
  (a_law : PySem.W.nsIn K mainGlobals "law" = some (some (.ref f_law))) (l_law : K.lookup f_law = some ⟨oc_law, od_law, .func (PySem.W.fnOf "law" "law" (aO iw) (aJ iw) (ao iw) .none kV_law dc_law pm_law an_law cd_law ct_law), sl_law⟩) (c_law : PySem.W.codeIn K cd_law "law" = true) (k_law : PySem.W.keepIn K (.ref f_law) = true)
  (z_bool : PySem.W.nsIn K mainGlobals "bool" = some none)
  (z_enumerate : PySem.W.nsIn K mainGlobals "enumerate" = some none)
  (z_int : PySem.W.nsIn K mainGlobals "int" = some none)
  (z_isinstance : PySem.W.nsIn K mainGlobals "isinstance" = some none)
  (z_len : PySem.W.nsIn K mainGlobals "len" = some none)
  (z_list : PySem.W.nsIn K mainGlobals "list" = some none)
  (z_max : PySem.W.nsIn K mainGlobals "max" = some none)
  (z_min : PySem.W.nsIn K mainGlobals "min" = some none)
  (z_range : PySem.W.nsIn K mainGlobals "range" = some none)
  (z_tuple : PySem.W.nsIn K mainGlobals "tuple" = some none)
  (z_zip : PySem.W.nsIn K mainGlobals "zip" = some none)
  (g_SHREDS : PySem.W.nsIn K mainGlobals "SHREDS" = some (some (.int 256 tk_SHREDS)))
  (ca_DrawError : PySem.W.nsIn K mainGlobals "DrawError" = some (some (.ref c_DrawError)))
  (ca_NoNode : PySem.W.nsIn K mainGlobals "NoNode" = some (some (.ref c_NoNode)))
  (ca_NoPlace : PySem.W.nsIn K mainGlobals "NoPlace" = some (some (.ref c_NoPlace)))
  (ca_NoTree : PySem.W.nsIn K mainGlobals "NoTree" = some (some (.ref c_NoTree)))
  (x_NoNode1 : PySem.W.excIn K c_NoNode [.type "ValueError", .type "Exception", .type "BaseException", .type "object"] "ValueError.__new__" = true)
  (x_NoNode2 : PySem.W.findIn K (.ref c_NoNode) "__getattribute__" = some (some (.builtin "BaseException.__getattribute__")))
  (x_NoNode3 : PySem.W.findIn K (.ref c_NoNode) "__class__" = some (some (.builtin "object.__class__")))
  (x_NoNode4 : PySem.W.findIn K (.ref c_NoNode) "__getattr__" = some none)
  (x_NoNode5 : PySem.W.mroIn K c_NoNode (.type "object") = some true)
  (h_DrawError : PySem.W.excIn K c_DrawError [.type "ValueError", .type "Exception", .type "BaseException", .type "object"] "ValueError.__new__" = true)
  (u_NoNode_DrawError : PySem.W.subIn K (.ref c_NoNode) (.ref c_DrawError) = some true)
  (k_NoNode_NoNode : PySem.W.kitOne K (.ref c_NoNode) (.ref c_NoNode) = some true)
  (t_NoNode_NoPlace_NoTree : PySem.W.kitAny K (.ref c_NoNode) [.ref c_NoPlace, .ref c_NoTree] = some false) :
  ∃ fd : FuncData, (∀ (s : Shared) (v : Value), BindsTo s fd ⟨[v], []⟩ [("_law_script", v)]) ∧ ∀ base : Heap, K.In base → base.Ns mainGlobals mg → FnOk l.prog w K mg base CX0 8 fa fd ["_law_script"] (sp3 K mg k7) := by
 have e := hfa.symm.trans (PySem.W.mg_of X G a_law);cases e;have T : Txt K mg := ⟨PySem.W.mg_none_of X G z_bool, PySem.W.mg_none_of X G z_enumerate, PySem.W.mg_none_of X G z_int, PySem.W.mg_none_of X G z_isinstance, PySem.W.mg_none_of X G z_len, PySem.W.mg_none_of X G z_list, PySem.W.mg_none_of X G z_max, PySem.W.mg_none_of X G z_min, PySem.W.mg_none_of X G z_range, PySem.W.mg_none_of X G z_tuple, PySem.W.mg_none_of X G z_zip, ⟨_, PySem.W.mg_of X G g_SHREDS⟩, ⟨c_DrawError, c_NoNode, c_NoPlace, c_NoTree, PySem.W.mg_of X G ca_DrawError, PySem.W.mg_of X G ca_NoNode, PySem.W.mg_of X G ca_NoPlace, PySem.W.mg_of X G ca_NoTree, ⟨x_NoNode1, x_NoNode2, x_NoNode3, x_NoNode4, x_NoNode5⟩, h_DrawError, u_NoNode_DrawError, k_NoNode_NoNode, t_NoNode_NoPlace_NoTree⟩⟩;have F_check_node := bE (st := bJ) l_check_node c_check_node k_check_node;have D_check_node : Def K mg "check_node" bJ ["tree", "node"] _ _ := ⟨F_check_node, PySem.W.mg_of X G a_check_node, F_check_node.binds (ps := ["tree", "node"]) fun _ _ _ _ _ _ us hl => by obtain ⟨_, _, rfl⟩ := ex2 hl; rfl⟩
 have F_reaches := bE (st := c8) l_reaches c_reaches k_reaches;have D_reaches : Def K mg "reaches" c8 ["tree"] _ _ := ⟨F_reaches, PySem.W.mg_of X G a_reaches, F_reaches.binds (ps := ["tree"]) fun _ _ _ _ _ _ us hl => by obtain ⟨_, rfl⟩ := ex1 hl; rfl⟩
 have F_bough_end := bE (st := cO) l_bough_end c_bough_end k_bough_end;have D_bough_end : Def K mg "bough_end" cO ["tree", "node"] _ _ := ⟨F_bough_end, PySem.W.mg_of X G a_bough_end, F_bough_end.binds (ps := ["tree", "node"]) fun _ _ _ _ _ _ us hl => by obtain ⟨_, _, rfl⟩ := ex2 hl; rfl⟩
 have F_nearest := bE (st := dq) l_nearest c_nearest k_nearest;have D_nearest : Def K mg "nearest" dq ["one", "other", "gap"] _ _ := ⟨F_nearest, PySem.W.mg_of X G a_nearest, F_nearest.binds (ps := ["one", "other", "gap"]) fun _ _ _ _ _ _ us hl => by obtain ⟨_, _, _, rfl⟩ := ex3 hl; rfl⟩
 have F_joined_outline := bE (st := aL) l_joined_outline c_joined_outline k_joined_outline;have D_joined_outline : Def K mg "joined_outline" aL ["outlines", "stands"] _ _ := ⟨F_joined_outline, PySem.W.mg_of X G a_joined_outline, F_joined_outline.binds (ps := ["outlines", "stands"]) fun _ _ _ _ _ _ us hl => by obtain ⟨_, _, rfl⟩ := ex2 hl; rfl⟩
 have F__law_cell := bE (st := bW) l__law_cell c__law_cell k__law_cell;have D__law_cell : Def K mg "_law_cell" bW ["_law_script", "_law_k"] _ _ := ⟨F__law_cell, PySem.W.mg_of X G a__law_cell, F__law_cell.binds (ps := ["_law_script", "_law_k"]) fun _ _ _ _ _ _ us hl => by obtain ⟨_, _, rfl⟩ := ex2 hl; rfl⟩
 have F__law_whole := bE (st := cg) l__law_whole c__law_whole k__law_whole;have D__law_whole : Def K mg "_law_whole" cg ["_law_found"] _ _ := ⟨F__law_whole, PySem.W.mg_of X G a__law_whole, F__law_whole.binds (ps := ["_law_found"]) fun _ _ _ _ _ _ us hl => by obtain ⟨_, rfl⟩ := ex1 hl; rfl⟩
 have F__law_label := bE (st := cN) l__law_label c__law_label k__law_label;have D__law_label : Def K mg "_law_label" cN ["_law_number", "_law_most"] _ _ := ⟨F__law_label, PySem.W.mg_of X G a__law_label, F__law_label.binds (ps := ["_law_number", "_law_most"]) fun _ _ _ _ _ _ us hl => by obtain ⟨_, _, rfl⟩ := ex2 hl; rfl⟩
 have F__law_mirror_order := bE (st := aS) l__law_mirror_order c__law_mirror_order k__law_mirror_order;have D__law_mirror_order : Def K mg "_law_mirror_order" aS ["_law_tree_here"] _ _ := ⟨F__law_mirror_order, PySem.W.mg_of X G a__law_mirror_order, F__law_mirror_order.binds (ps := ["_law_tree_here"]) fun _ _ _ _ _ _ us hl => by obtain ⟨_, rfl⟩ := ex1 hl; rfl⟩
 have F__law_hung := bE (st := c9) l__law_hung c__law_hung k__law_hung;have D__law_hung : Def K mg "_law_hung" c9 ["_law_tree_here", "_law_shift"] _ _ := ⟨F__law_hung, PySem.W.mg_of X G a__law_hung, F__law_hung.binds (ps := ["_law_tree_here", "_law_shift"]) fun _ _ _ _ _ _ us hl => by obtain ⟨_, _, rfl⟩ := ex2 hl; rfl⟩
 have F__law_end := bE (st := dF) l__law_end c__law_end k__law_end;have D__law_end : Def K mg "_law_end" dF ["_law_tree_here", "_law_node"] _ _ := ⟨F__law_end, PySem.W.mg_of X G a__law_end, F__law_end.binds (ps := ["_law_tree_here", "_law_node"]) fun _ _ _ _ _ _ us hl => by obtain ⟨_, _, rfl⟩ := ex2 hl; rfl⟩
 have F_children_of := bE (st := bF) l_children_of c_children_of k_children_of;have D_children_of : Def K mg "children_of" bF ["tree", "node"] _ _ := ⟨F_children_of, PySem.W.mg_of X G a_children_of, F_children_of.binds (ps := ["tree", "node"]) fun _ _ _ _ _ _ us hl => by obtain ⟨_, _, rfl⟩ := ex2 hl; rfl⟩
 have F_bough_of := bE (st := cW) l_bough_of c_bough_of k_bough_of;have D_bough_of : Def K mg "bough_of" cW ["tree", "node"] _ _ := ⟨F_bough_of, PySem.W.mg_of X G a_bough_of, F_bough_of.binds (ps := ["tree", "node"]) fun _ _ _ _ _ _ us hl => by obtain ⟨_, _, rfl⟩ := ex2 hl; rfl⟩
 have F_earliest_places := bE (st := a8) l_earliest_places c_earliest_places k_earliest_places;have D_earliest_places : Def K mg "earliest_places" a8 ["outlines", "gap"] _ _ := ⟨F_earliest_places, PySem.W.mg_of X G a_earliest_places, F_earliest_places.binds (ps := ["outlines", "gap"]) fun _ _ _ _ _ _ us hl => by obtain ⟨_, _, rfl⟩ := ex2 hl; rfl⟩
 have F_latest_places := bE (st := br) l_latest_places c_latest_places k_latest_places;have D_latest_places : Def K mg "latest_places" br ["outlines", "gap", "last"] _ _ := ⟨F_latest_places, PySem.W.mg_of X G a_latest_places, F_latest_places.binds (ps := ["outlines", "gap", "last"]) fun _ _ _ _ _ _ us hl => by obtain ⟨_, _, _, rfl⟩ := ex3 hl; rfl⟩
 have F_moved_to_side := bE (st := a_) l_moved_to_side c_moved_to_side k_moved_to_side;have D_moved_to_side : Def K mg "moved_to_side" a_ ["tree", "places", "unit"] _ _ := ⟨F_moved_to_side, PySem.W.mg_of X G a_moved_to_side, F_moved_to_side.binds (ps := ["tree", "places", "unit"]) fun _ _ _ _ _ _ us hl => by obtain ⟨_, _, _, rfl⟩ := ex3 hl; rfl⟩
 have F__law_tree := bE (st := cQ) l__law_tree c__law_tree k__law_tree;have D__law_tree : Def K mg "_law_tree" cQ ["_law_script", "_law_start", "_law_many", "_law_most", "_law_deep"] _ _ := ⟨F__law_tree, PySem.W.mg_of X G a__law_tree, F__law_tree.binds (ps := ["_law_script", "_law_start", "_law_many", "_law_most", "_law_deep"]) fun _ _ _ _ _ _ us hl => by obtain ⟨_, _, _, _, _, rfl⟩ := ex5 hl; rfl⟩
 have F__law_mirror_tree := bE (st := a9) l__law_mirror_tree c__law_mirror_tree k__law_mirror_tree;have D__law_mirror_tree : Def K mg "_law_mirror_tree" a9 ["_law_tree_here"] _ _ := ⟨F__law_mirror_tree, PySem.W.mg_of X G a__law_mirror_tree, F__law_mirror_tree.binds (ps := ["_law_tree_here"]) fun _ _ _ _ _ _ us hl => by obtain ⟨_, rfl⟩ := ex1 hl; rfl⟩
 have F__law_relabelled := bE (st := bj) l__law_relabelled c__law_relabelled k__law_relabelled;have D__law_relabelled : Def K mg "_law_relabelled" bj ["_law_tree_here", "_law_script", "_law_start"] _ _ := ⟨F__law_relabelled, PySem.W.mg_of X G a__law_relabelled, F__law_relabelled.binds (ps := ["_law_tree_here", "_law_script", "_law_start"]) fun _ _ _ _ _ _ us hl => by obtain ⟨_, _, _, rfl⟩ := ex3 hl; rfl⟩
 have F__law_outline_by := bE (st := bo) l__law_outline_by c__law_outline_by k__law_outline_by;have D__law_outline_by : Def K mg "_law_outline_by" bo ["_law_tree_here", "_law_places", "_law_node"] _ _ := ⟨F__law_outline_by, PySem.W.mg_of X G a__law_outline_by, F__law_outline_by.binds (ps := ["_law_tree_here", "_law_places", "_law_node"]) fun _ _ _ _ _ _ us hl => by obtain ⟨_, _, _, rfl⟩ := ex3 hl; rfl⟩
 have F__law_good := bE (st := c_) l__law_good c__law_good k__law_good;have D__law_good : Def K mg "_law_good" c_ ["_law_found", "_law_due"] _ _ := ⟨F__law_good, PySem.W.mg_of X G a__law_good, F__law_good.binds (ps := ["_law_found", "_law_due"]) fun _ _ _ _ _ _ us hl => by obtain ⟨_, _, rfl⟩ := ex2 hl; rfl⟩
 have F_room_of := bE (st := eh) l_room_of c_room_of k_room_of;have D_room_of : Def K mg "room_of" eh ["outlines", "gap"] _ _ := ⟨F_room_of, PySem.W.mg_of X G a_room_of, F_room_of.binds (ps := ["outlines", "gap"]) fun _ _ _ _ _ _ us hl => by obtain ⟨_, _, rfl⟩ := ex2 hl; rfl⟩
 have F__law_family := bE (st := cx) l__law_family c__law_family k__law_family;have D__law_family : Def K mg "_law_family" cx ["_law_script", "_law_start", "_law_many", "_law_kinds"] _ _ := ⟨F__law_family, PySem.W.mg_of X G a__law_family, F__law_family.binds (ps := ["_law_script", "_law_start", "_law_many", "_law_kinds"]) fun _ _ _ _ _ _ us hl => by obtain ⟨_, _, _, _, rfl⟩ := ex4 hl; rfl⟩
 have F_stands_below := bE (st := bq) l_stands_below c_stands_below k_stands_below;have D_stands_below : Def K mg "stands_below" bq ["outlines", "gap"] _ _ := ⟨F_stands_below, PySem.W.mg_of X G a_stands_below, F_stands_below.binds (ps := ["outlines", "gap"]) fun _ _ _ _ _ _ us hl => by obtain ⟨_, _, rfl⟩ := ex2 hl; rfl⟩
 have F__law_some_tree := bE (st := bz) l__law_some_tree c__law_some_tree k__law_some_tree;have D__law_some_tree : Def K mg "_law_some_tree" bz ["_law_script"] _ _ := ⟨F__law_some_tree, PySem.W.mg_of X G a__law_some_tree, F__law_some_tree.binds (ps := ["_law_script"]) fun _ _ _ _ _ _ us hl => by obtain ⟨_, rfl⟩ := ex1 hl; rfl⟩
 have F_pieces := bE (st := cC) l_pieces c_pieces k_pieces;have D_pieces : Def K mg "pieces" cC ["tree", "gap"] _ _ := ⟨F_pieces, PySem.W.mg_of X G a_pieces, F_pieces.binds (ps := ["tree", "gap"]) fun _ _ _ _ _ _ us hl => by obtain ⟨_, _, rfl⟩ := ex2 hl; rfl⟩
 have F_drawn := bE (st := gh) l_drawn c_drawn k_drawn;have D_drawn : Def K mg "drawn" gh ["tree", "gap"] _ _ := ⟨F_drawn, PySem.W.mg_of X G a_drawn, F_drawn.binds (ps := ["tree", "gap"]) fun _ _ _ _ _ _ us hl => by obtain ⟨_, _, rfl⟩ := ex2 hl; rfl⟩
 have F_outline_of := bE (st := bP) l_outline_of c_outline_of k_outline_of;have D_outline_of : Def K mg "outline_of" bP ["tree", "node", "gap"] _ _ := ⟨F_outline_of, PySem.W.mg_of X G a_outline_of, F_outline_of.binds (ps := ["tree", "node", "gap"]) fun _ _ _ _ _ _ us hl => by obtain ⟨_, _, _, rfl⟩ := ex3 hl; rfl⟩
 have F__law_refused := bE (st := bS) l__law_refused c__law_refused k__law_refused;have D__law_refused : Def K mg "_law_refused" bS ["_law_tree_here", "_law_node", "_law_gap"] _ _ := ⟨F__law_refused, PySem.W.mg_of X G a__law_refused, F__law_refused.binds (ps := ["_law_tree_here", "_law_node", "_law_gap"]) fun _ _ _ _ _ _ us hl => by obtain ⟨_, _, _, rfl⟩ := ex3 hl; rfl⟩
 have F_law := bE (st := iw) l_law c_law k_law;refine ⟨PySem.W.fnOf "law" "law" (aO iw) (aJ iw) (ao iw) .none kV_law dc_law pm_law an_law cd_law ct_law, fun s v => .of_eq rfl, fun base _ _ => ?_⟩
 have G_check_node : FnOk l.prog w K mg base CX0 1 _ _ _ _ := lp D_check_node.F T;have Gx_check_node : FnOk l.prog w K mg base (CXE l.prog w) 1 _ _ _ _ := lq D_check_node.F T;have G_reaches : FnOk l.prog w K mg base CX0 1 _ _ _ _ := oS D_reaches.F T;have G_bough_end : FnOk l.prog w K mg base CX0 1 _ _ _ _ := m7 D_bough_end.F T;have G_nearest : FnOk l.prog w K mg base CX0 1 _ _ _ _ := oX D_nearest.F T;have G_joined_outline : FnOk l.prog w K mg base CX0 1 _ _ _ _ := iS D_joined_outline.F T;have G__law_cell : FnOk l.prog w K mg base CX0 1 _ _ _ _ := mG D__law_cell.F T;have G__law_whole : FnOk l.prog w K mg base CX0 1 _ _ _ _ := lj D__law_whole.F T;have G__law_label : FnOk l.prog w K mg base CX0 1 _ _ _ _ := lD D__law_label.F T;have G__law_mirror_order : FnOk l.prog w K mg base CX0 1 _ _ _ _ := hV D__law_mirror_order.F T;have G__law_hung : FnOk l.prog w K mg base CX0 1 _ _ _ _ := mV D__law_hung.F T;have G__law_end : FnOk l.prog w K mg base CX0 1 _ _ _ _ := oq D__law_end.F T;have G_children_of : FnOk l.prog w K mg base CX0 2 _ _ _ _ := kS D_children_of.F T D_check_node G_check_node Gx_check_node;have G_bough_of : FnOk l.prog w K mg base CX0 2 _ _ _ _ := oj D_bough_of.F T D_check_node G_check_node Gx_check_node D_bough_end G_bough_end;have Gx_bough_of : FnOk l.prog w K mg base (CXE l.prog w) 2 _ _ _ _ := ow D_bough_of.F T D_check_node G_check_node Gx_check_node D_bough_end G_bough_end;have G_earliest_places : FnOk l.prog w K mg base CX0 2 _ _ _ _ := iQ D_earliest_places.F T D_nearest G_nearest;have G_latest_places : FnOk l.prog w K mg base CX0 2 _ _ _ _ := jC D_latest_places.F T D_nearest G_nearest;have G_moved_to_side : FnOk l.prog w K mg base CX0 2 _ _ _ _ := jz D_moved_to_side.F T D_reaches G_reaches;have G__law_tree : FnOk l.prog w K mg base CX0 2 _ _ _ _ := mE D__law_tree.F T D__law_cell G__law_cell D__law_label G__law_label;have G__law_mirror_tree : FnOk l.prog w K mg base CX0 2 _ _ _ _ := ip D__law_mirror_tree.F T D__law_mirror_order G__law_mirror_order;have G__law_relabelled : FnOk l.prog w K mg base CX0 2 _ _ _ _ := iM D__law_relabelled.F T D__law_cell G__law_cell;have G__law_outline_by : FnOk l.prog w K mg base CX0 2 _ _ _ _ := iP D__law_outline_by.F T D__law_end G__law_end;have G__law_good : FnOk l.prog w K mg base CX0 2 _ _ _ _ := mS D__law_good.F T D__law_whole G__law_whole;have G_room_of : FnOk l.prog w K mg base CX0 3 _ _ _ _ := pI D_room_of.F T D_earliest_places G_earliest_places D_latest_places G_latest_places;have G__law_family : FnOk l.prog w K mg base CX0 3 _ _ _ _ := kQ D__law_family.F T D__law_tree G__law_tree D__law_mirror_tree G__law_mirror_tree D__law_relabelled G__law_relabelled D__law_hung G__law_hung;have G_stands_below : FnOk l.prog w K mg base CX0 4 _ _ _ _ := jY D_stands_below.F T D_room_of G_room_of;have G__law_some_tree : FnOk l.prog w K mg base CX0 4 _ _ _ _ := i7 D__law_some_tree.F T D__law_cell G__law_cell D__law_tree G__law_tree D__law_family G__law_family;have G_pieces : FnOk l.prog w K mg base CX0 5 _ _ _ _ := rK D_pieces.F T D_children_of G_children_of D_reaches G_reaches D_stands_below G_stands_below D_joined_outline G_joined_outline;have Ga_pieces : FnOk l.prog w K mg base CX0 5 _ _ _ _ := rT D_pieces.F T D_children_of G_children_of D_reaches G_reaches D_stands_below G_stands_below D_joined_outline G_joined_outline;have G_drawn : FnOk l.prog w K mg base CX0 6 _ _ _ _ := uq D_drawn.F T D_moved_to_side G_moved_to_side D_pieces G_pieces Ga_pieces;have G_outline_of : FnOk l.prog w K mg base CX0 6 _ _ _ _ := lu D_outline_of.F T D_bough_of G_bough_of Gx_bough_of D_pieces G_pieces Ga_pieces;have Gx_outline_of : FnOk l.prog w K mg base (CXE l.prog w) 6 _ _ _ _ := k_ D_outline_of.F T D_bough_of G_bough_of Gx_bough_of D_pieces G_pieces Ga_pieces;have G__law_refused : FnOk l.prog w K mg base CX0 7 _ _ _ _ := jX D__law_refused.F T D_outline_of G_outline_of Gx_outline_of;exact xr F_law T D_drawn G_drawn D_outline_of G_outline_of Gx_outline_of D__law_cell G__law_cell D__law_whole G__law_whole D__law_some_tree G__law_some_tree D__law_outline_by G__law_outline_by D__law_good G__law_good D__law_refused G__law_refused
end B
open PySem PySem.W PyProof.Rows
set_option maxRecDepth 100000 in
set_option maxHeartbeats 0 in
theorem PySem.Challenge.cw_boughdraw_k37_outlines_holds : PySem.Challenge.rw_boughdraw_k37_outlines.Holds := by
 w_on; o_law; k_head; (case hw => w_witness2)
 k_fill
 refine L3.AF (l := PySem.Challenge.rw_boughdraw_k37_outlines) (x := "_law_script") (k := 8) (fn := B.k7) rfl rfl ⟨rfl, by decide, by decide⟩ (fun w h Y => PySem.W.kIn_of Y) B.tQ ?F
 case F =>
  intro w mg fa h KX G hmg;refine' B.all_mk KX G hmg ?a_check_node ?l_check_node ?c_check_node ?k_check_node ?a_reaches ?l_reaches ?c_reaches ?k_reaches ?a_bough_end ?l_bough_end ?c_bough_end ?k_bough_end ?a_nearest ?l_nearest ?c_nearest ?k_nearest ?a_joined_outline ?l_joined_outline ?c_joined_outline ?k_joined_outline ?a__law_cell ?l__law_cell ?c__law_cell ?k__law_cell ?a__law_whole ?l__law_whole ?c__law_whole ?k__law_whole ?a__law_label ?l__law_label ?c__law_label ?k__law_label ?a__law_mirror_order ?l__law_mirror_order ?c__law_mirror_order ?k__law_mirror_order ?a__law_hung ?l__law_hung ?c__law_hung ?k__law_hung ?a__law_end ?l__law_end ?c__law_end ?k__law_end ?a_children_of ?l_children_of ?c_children_of ?k_children_of ?a_bough_of ?l_bough_of ?c_bough_of ?k_bough_of ?a_earliest_places ?l_earliest_places ?c_earliest_places ?k_earliest_places ?a_latest_places ?l_latest_places ?c_latest_places ?k_latest_places ?a_moved_to_side ?l_moved_to_side ?c_moved_to_side ?k_moved_to_side ?a__law_tree ?l__law_tree ?c__law_tree ?k__law_tree ?a__law_mirror_tree ?l__law_mirror_tree ?c__law_mirror_tree ?k__law_mirror_tree ?a__law_relabelled ?l__law_relabelled ?c__law_relabelled ?k__law_relabelled ?a__law_outline_by ?l__law_outline_by ?c__law_outline_by ?k__law_outline_by ?a__law_good ?l__law_good ?c__law_good ?k__law_good ?a_room_of ?l_room_of ?c_room_of ?k_room_of ?a__law_family ?l__law_family ?c__law_family ?k__law_family ?a_stands_below ?l_stands_below ?c_stands_below ?k_stands_below ?a__law_some_tree ?l__law_some_tree ?c__law_some_tree ?k__law_some_tree ?a_pieces ?l_pieces ?c_pieces ?k_pieces ?a_drawn ?l_drawn ?c_drawn ?k_drawn ?a_outline_of ?l_outline_of ?c_outline_of ?k_outline_of ?a__law_refused ?l__law_refused ?c__law_refused ?k__law_refused ?a_law ?l_law ?c_law ?k_law ?z_bool ?z_enumerate ?z_int ?z_isinstance ?z_len ?z_list ?z_max ?z_min ?z_range ?z_tuple ?z_zip ?g_SHREDS ?ca_DrawError ?ca_NoNode ?ca_NoPlace ?ca_NoTree ?x_NoNode1 ?x_NoNode2 ?x_NoNode3 ?x_NoNode4 ?x_NoNode5 ?h_DrawError ?u_NoNode_DrawError ?k_NoNode_NoNode ?t_NoNode_NoPlace_NoTree
  (case a_check_node => k_is)
  (case l_check_node => k_is)
  (case c_check_node => k_is)
  (case k_check_node => k_is)
  (case a_reaches => k_is)
  (case l_reaches => k_is)
  (case c_reaches => k_is)
  (case k_reaches => k_is)
  (case a_bough_end => k_is)
  (case l_bough_end => k_is)
  (case c_bough_end => k_is)
  (case k_bough_end => k_is)
  (case a_nearest => k_is)
  (case l_nearest => k_is)
  (case c_nearest => k_is)
  (case k_nearest => k_is)
  (case a_joined_outline => k_is)
  (case l_joined_outline => k_is)
  (case c_joined_outline => k_is)
  (case k_joined_outline => k_is)
  (case a__law_cell => k_is)
  (case l__law_cell => k_is)
  (case c__law_cell => k_is)
  (case k__law_cell => k_is)
  (case a__law_whole => k_is)
  (case l__law_whole => k_is)
  (case c__law_whole => k_is)
  (case k__law_whole => k_is)
  (case a__law_label => k_is)
  (case l__law_label => k_is)
  (case c__law_label => k_is)
  (case k__law_label => k_is)
  (case a__law_mirror_order => k_is)
  (case l__law_mirror_order => k_is)
  (case c__law_mirror_order => k_is)
  (case k__law_mirror_order => k_is)
  (case a__law_hung => k_is)
  (case l__law_hung => k_is)
  (case c__law_hung => k_is)
  (case k__law_hung => k_is)
  (case a__law_end => k_is)
  (case l__law_end => k_is)
  (case c__law_end => k_is)
  (case k__law_end => k_is)
  (case a_children_of => k_is)
  (case l_children_of => k_is)
  (case c_children_of => k_is)
  (case k_children_of => k_is)
  (case a_bough_of => k_is)
  (case l_bough_of => k_is)
  (case c_bough_of => k_is)
  (case k_bough_of => k_is)
  (case a_earliest_places => k_is)
  (case l_earliest_places => k_is)
  (case c_earliest_places => k_is)
  (case k_earliest_places => k_is)
  (case a_latest_places => k_is)
  (case l_latest_places => k_is)
  (case c_latest_places => k_is)
  (case k_latest_places => k_is)
  (case a_moved_to_side => k_is)
  (case l_moved_to_side => k_is)
  (case c_moved_to_side => k_is)
  (case k_moved_to_side => k_is)
  (case a__law_tree => k_is)
  (case l__law_tree => k_is)
  (case c__law_tree => k_is)
  (case k__law_tree => k_is)
  (case a__law_mirror_tree => k_is)
  (case l__law_mirror_tree => k_is)
  (case c__law_mirror_tree => k_is)
  (case k__law_mirror_tree => k_is)
  (case a__law_relabelled => k_is)
  (case l__law_relabelled => k_is)
  (case c__law_relabelled => k_is)
  (case k__law_relabelled => k_is)
  (case a__law_outline_by => k_is)
  (case l__law_outline_by => k_is)
  (case c__law_outline_by => k_is)
  (case k__law_outline_by => k_is)
  (case a__law_good => k_is)
  (case l__law_good => k_is)
  (case c__law_good => k_is)
  (case k__law_good => k_is)
  (case a_room_of => k_is)
  (case l_room_of => k_is)
  (case c_room_of => k_is)
  (case k_room_of => k_is)
  (case a__law_family => k_is)
  (case l__law_family => k_is)
  (case c__law_family => k_is)
  (case k__law_family => k_is)
  (case a_stands_below => k_is)
  (case l_stands_below => k_is)
  (case c_stands_below => k_is)
  (case k_stands_below => k_is)
  (case a__law_some_tree => k_is)
  (case l__law_some_tree => k_is)
  (case c__law_some_tree => k_is)
  (case k__law_some_tree => k_is)
  (case a_pieces => k_is)
  (case l_pieces => k_is)
  (case c_pieces => k_is)
  (case k_pieces => k_is)
  (case a_drawn => k_is)
  (case l_drawn => k_is)
  (case c_drawn => k_is)
  (case k_drawn => k_is)
  (case a_outline_of => k_is)
  (case l_outline_of => k_is)
  (case c_outline_of => k_is)
  (case k_outline_of => k_is)
  (case a__law_refused => k_is)
  (case l__law_refused => k_is)
  (case c__law_refused => k_is)
  (case k__law_refused => k_is)
  (case a_law => k_is)
  (case l_law => k_is)
  (case c_law => k_is)
  (case k_law => k_is)
  (case z_bool => k_is)
  (case z_enumerate => k_is)
  (case z_int => k_is)
  (case z_isinstance => k_is)
  (case z_len => k_is)
  (case z_list => k_is)
  (case z_max => k_is)
  (case z_min => k_is)
  (case z_range => k_is)
  (case z_tuple => k_is)
  (case z_zip => k_is)
  (case g_SHREDS => k_is)
  (case ca_DrawError => k_is)
  (case ca_NoNode => k_is)
  (case ca_NoPlace => k_is)
  (case ca_NoTree => k_is)
  (case x_NoNode1 => k_exc)
  (case x_NoNode2 => first | k_is | kernel_rfl)
  (case x_NoNode3 => first | k_is | kernel_rfl)
  (case x_NoNode4 => first | k_is | kernel_rfl)
  (case x_NoNode5 => first | k_is | kernel_rfl)
  (case h_DrawError => k_exc)
  (case u_NoNode_DrawError => first | k_is | kernel_rfl)
  (case k_NoNode_NoNode => first | k_is | kernel_rfl)
  (case t_NoNode_NoPlace_NoTree => first | k_is | kernel_rfl)

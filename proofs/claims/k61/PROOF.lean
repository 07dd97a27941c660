import PyProof.Rows.All
import Wide.All
import OpenK.AllK
import Wide.FinOn
import Lean
import PyProof.EqAt
import PyProof.EqKinds
import PyProof.TupleCall
import PySem.Challenge.RW_boughdraw_k61_picture_rows
set_option Elab.async false
set_option linter.all false
set_option compiler.extract_closed false
set_option maxRecDepth 100000
namespace L2
open PySem PySem.Spec PyProof.Rows
noncomputable abbrev Key := Sum Int Str
noncomputable def yp : Key → Value → Bool
 | .inl k, v => Value.isInt k v
 | .inr x, v => Value.isStrOf x v
noncomputable def FK (w : World) : Key → Int
 | .inl k => hashInt k
 | .inr x => hashStr w x
theorem cy : ∀ {k : Key} {v : Value}, yp k v = true → (∃ i t, k = Sum.inl i ∧ v = Value.int i t) ∨ (∃ x t, k = Sum.inr x ∧ v = Value.str x t)
 | .inl i, v, h => by
  obtain ⟨t, e⟩ := Value.isInt_shape (k := i) (v := v) h;exact .inl ⟨i, t, rfl, e⟩
 | .inr x, v, h => by
  obtain ⟨t, e⟩ := Value.isStrOf_shape (x := x) (v := v) h;exact .inr ⟨x, t, rfl, e⟩
theorem yT (a b : Int) : decide ((Sum.inl a : Key) = Sum.inl b) = (a == b) := by
 by_cases e : a = b
 ·subst e; simp
 ·have h : ¬ (Sum.inl a : Key) = Sum.inl b := fun q => e (Sum.inl.inj q)
  rw [decide_eq_false h];exact (beq_eq_false_iff_ne.mpr e).symm
theorem zq (a b : Str) : decide ((Sum.inr a : Key) = Sum.inr b) = decide (a = b) := by
 by_cases e : a = b
 ·subst e; simp
 ·have h : ¬ (Sum.inr a : Key) = Sum.inr b := fun q => e (Sum.inr.inj q)
  rw [decide_eq_false h, decide_eq_false e]
theorem AQ (a : Int) (b : Str) : decide ((Sum.inl a : Key) = Sum.inr b) = false := decide_eq_false (fun q => nomatch q)
theorem zA (a : Str) (b : Int) : decide ((Sum.inr a : Key) = Sum.inl b) = false := decide_eq_false (fun q => nomatch q)
noncomputable def rg (prog : Program) (w : World) : PySem.KeyKind prog w Key where
 is := yp
 hash := FK w
 inj := fun v a b ha hb => by
  rcases cy ha with ⟨i, t, rfl, rfl⟩ | ⟨x, t, rfl, rfl⟩
  ·rcases cy hb with ⟨j, u, rfl, e⟩ | ⟨y, u, rfl, e⟩
   ·injection e with e1 _; rw [e1]
   ·exact nomatch e
  ·rcases cy hb with ⟨j, u, rfl, e⟩ | ⟨y, u, rfl, e⟩
   ·exact nomatch e
   ·injection e with e1 _; rw [e1]
 byValue := fun k v h => by
  rcases cy h with ⟨i, t, rfl, rfl⟩ | ⟨x, t, rfl, rfl⟩ <;> rfl
 pyHash := fun hv h => by
  rcases cy hv with ⟨i, t, rfl, rfl⟩ | ⟨x, t, rfl, rfl⟩
  ·exact wpAny_pyHash_int h
  ·exact wpAny_pyHash_str h
 eqBool := fun hu hv h => by
  rcases cy hu with ⟨i, t, rfl, rfl⟩ | ⟨x, t, rfl, rfl⟩
  ·rcases cy hv with ⟨j, u, rfl, rfl⟩ | ⟨y, u, rfl, rfl⟩
   ·rw [yT] at h; exact wpAny_eqBool_int h
   ·rw [AQ] at h; exact SeqAt.EqAt.int_str i t y u _ _ _ _ h
  ·rcases cy hv with ⟨j, u, rfl, rfl⟩ | ⟨y, u, rfl, rfl⟩
   ·rw [zA] at h; exact SeqAt.EqAt.str_int x t j u _ _ _ _ h
   ·rw [zq] at h; exact wpAny_eqBool_str h
 «strs» := fun k x t v h => by
  rcases cy h with ⟨i, u, rfl, e⟩ | ⟨y, u, rfl, e⟩
  ·exact nomatch e
  ·injection e with e1 _
   subst e1;cases v <;> rfl
end L2
namespace L2
open PySem PySem.Spec PyProof.Rows
inductive V where
 | non | bl (b : Bool) | int (i : Int) | str (x : Str) | byt (b : Array UInt8) | flt (b : UInt64) | ref (a : Addr) | ty (n : String)
 deriving DecidableEq
noncomputable def RelV : V → Value → Prop
 | .non, u => u = Value.none
 | .bl b, u => u = Value.bool b
 | .int i, u => ∃ t, u = Value.int i t
 | .str x, u => ∃ t, u = Value.str x t
 | .byt b, u => ∃ t, u = Value.bytes b t
 | .flt b, u => ∃ t, u = Value.float b t
 | .ref a, u => u = Value.ref a
 | .ty n, u => u = Value.type n
noncomputable abbrev Vals : List V → List Value → Prop := Paired RelV
theorem Vals.length {xs : List V} {us : List Value} (r : Vals xs us) : xs.length = us.length := Paired.length r
theorem Vals.get : ∀ {xs : List V} {us : List Value} {i : Nat} {x : V}, Vals xs us → xs[i]? = some x → ∃ u, us[i]? = some u ∧ RelV x u
 | _, _, _, _, .nil, e => by simp at e
 | _, _, 0, _, .cons r _, e => by simp at e; subst e; exact ⟨_, rfl, r⟩
 | _, _, i + 1, x, .cons _ t, e => by
  obtain ⟨u, h1, h2⟩ := Vals.get (i := i) (x := x) t (by simpa using e)
  exact ⟨u, by simpa using h1, h2⟩
theorem Vals.set {x : V} {u : Value} (r : RelV x u) : ∀ {xs : List V} {us : List Value} (i : Nat), Vals xs us → Vals (xs.set i x) (us.set i u)
 | _, _, _, .nil => .nil
 | _, _, 0, .cons _ t => .cons r t
 | _, _, i + 1, .cons q t => .cons q (Vals.set r i t)
theorem Vals.append : ∀ {xs ys : List V} {us ws : List Value}, Vals xs us → Vals ys ws → Vals (xs ++ ys) (us ++ ws)
 | _, _, _, _, .nil, s => s
 | _, _, _, _, .cons r t, s => .cons r (Vals.append t s)
theorem Vals.take : ∀ {xs : List V} {us : List Value} (n : Nat), Vals xs us → Vals (xs.take n) (us.take n)
 | _, _, 0, _ => .nil
 | _, _, _ + 1, .nil => .nil
 | _, _, n + 1, .cons r t => .cons r (Vals.take n t)
theorem Vals.drop : ∀ {xs : List V} {us : List Value} (n : Nat), Vals xs us → Vals (xs.drop n) (us.drop n)
 | _, _, 0, r => r
 | _, _, _ + 1, .nil => .nil
 | _, _, n + 1, .cons _ t => Vals.drop n t
noncomputable def Ct : Option V → Option Value → Prop
 | some v, some u => RelV v u
 | none, none => True
 | _, _ => False
noncomputable def KV {κ : Type} : List (κ × V) → List (κ × Value) → Prop := Paired fun (p : κ × V) (q : κ × Value) => p.1 = q.1 ∧ RelV p.2 q.2
noncomputable def kV : Key → V
 | .inl i => .int i
 | .inr x => .str x
inductive HO where
 | lst (xs : List V)
 | tup (xs : List V)
 | dK (kvs : List (Key × V)) | dT (kvs : List (List Key × V))
 | set (S : Int → Bool) (n : Nat)
 | ins (C dx : Addr) (fs : List (Str × V))
 | own (x : Addr)
 | xd (fs : List (Str × V))
 | met (f x : Addr)
 | rng (lo hi : Int)
 | frz (o : Obj) (u : HO)
 | tbl (ps : Array Value)
 | ext (φ : Heap → Prop)
noncomputable abbrev Hp := Addr → Option HO
noncomputable def upd (H : Hp) (a : Addr) (o : HO) : Hp := fun b => if b = a then some o else H b
theorem bZ {H : Hp} {a : Addr} {o : HO} : upd H a o a = some o := by unfold upd; rw [if_pos rfl]
theorem aG {H : Hp} {a b : Addr} {o : HO} (h : b ≠ a) : upd H a o b = H b := by unfold upd; rw [if_neg h]
theorem aP {H : Hp} {a b : Addr} {o : HO} (h : H a = some o) (h' : H b = none) : a ≠ b := by
 intro e; subst e; rw [h] at h'; cases h'
section
variable (P : Program) (w : World)
noncomputable def gy (H : Hp) (h : Heap) (a : Addr) : HO → Prop
 | .lst xs => xs.length ≤ sizeLine ∧ ∃ (its : List Value) (n : Nat), Vals xs its ∧ h.get? a = some { cls := .type "list", data := .seq its.toArray n }
 | .tup xs => xs.length ≤ sizeLine ∧ ∃ its : List Value, Vals xs its ∧ IsTup h a its.toArray
 | .dK kvs => kvs.length ≤ sizeLine ∧ (a == sysModules) = false ∧ ∃ vs, KV kvs vs ∧ h.DictOf (rg P w) a vs
 | .dT kvs => kvs.length ≤ sizeLine ∧ (a == sysModules) = false ∧ ∃ xs : List (List Key × Addr × Value),
   Paired (fun (p : List Key × V) (q : List Key × Addr × Value) => p.1 = q.1 ∧ H q.2.1 = some (.tup (p.1.map kV)) ∧ RelV p.2 q.2.2) kvs xs ∧
   ∃ o es ep, h.get? a = some o ∧ o.ExactDict ∧ o.data = .dict es ep ∧ es.toList = xs.map (entryOfKey (tupleKind (rg P w))) ∧ (xs.map (·.1)).Nodup
 | .set S n => h.SetOf (intKind P w) a S n
 | .ins C dx fs => H dx = some (.own a) ∧ fs.length ≤ 1000 ∧ dx ≠ a ∧ h.get? a = some (PySem.W.instObj C dx) ∧
   ∃ mA, h.Ns1 dx mA ∧ (∀ f, Ct (fs.lookup f) (mA f)) ∧ PySem.Within mA (fs.map (·.1))
 | .own _ => ∃ o, h.get? a = some o
 | .xd fs => ∃ mA, h.Ns1 a mA ∧ ∀ f, Ct (fs.lookup f) (mA f)
 | .rng lo hi => ∃ t u v, h.get? a = some { cls := .type "range", data := .fields #[.int lo t, .int hi u, .int 1 v] }
 | .frz o u => h.get? a = some o ∧ gy H h a u
 | .tbl ps => h.get? a = some { cls := .none, data := .fields ps }
 | .met f x => h.get? a = some (PySem.W.methodObj (.ref f) (.ref x))
 | .ext φ => φ h ∧ (∃ o, h.get? a = some o) ∧ ∀ h1 h2 : Heap, φ h1 → (∀ o, h1.get? a = some o → h2.get? a = some o) → φ h2
noncomputable def HOk (H : Hp) (h : Heap) : Prop := ∀ a o, H a = some o → gy P w H h a o
end
section
variable {P : Program} {w : World} {H H' : Hp} {h h' : Heap} {a : Addr} {o : HO}
theorem gy.lt (x : gy P w H h a o) : a < h.objs.size := by
 cases o with
 | lst xs => obtain ⟨_, _, _, _, e⟩ := x; exact Heap.lt_size e
 | tup xs => obtain ⟨_, _, _, p⟩ := x; exact p.lt
 | dK kvs => obtain ⟨_, _, _, _, o, _, _, e, _⟩ := x; exact Heap.lt_size e
 | dT kvs => obtain ⟨_, _, _, _, o, _, _, e, _⟩ := x; exact Heap.lt_size e
 | set S n => obtain ⟨o, _, _, _, e, _⟩ := x; exact Heap.lt_size e
 | ins C dx fs => obtain ⟨_, _, _, e, _⟩ := x; exact Heap.lt_size e
 | own y => obtain ⟨_, e⟩ := x; exact Heap.lt_size e
 | xd fs => obtain ⟨_, ⟨_, _, _, e, _⟩, _⟩ := x; exact Heap.lt_size e
 | rng lo hi => obtain ⟨_, _, _, e⟩ := x; exact Heap.lt_size e
 | frz ob u => obtain ⟨e, _⟩ := x; exact Heap.lt_size e
 | tbl ps => exact Heap.lt_size (show h.get? a = some _ from x)
 | met f y => exact Heap.lt_size (show h.get? a = some _ from x)
 | ext φ => obtain ⟨_, ⟨_, e⟩, _⟩ := x; exact Heap.lt_size e
theorem Paired.mapP {α β : Type} {F G : α → β → Prop} : ∀ {l₁ : List α} {l₂ : List β}, Paired F l₁ l₂ → (∀ a b, F a b → G a b) → Paired G l₁ l₂
 | _, _, .nil, _ => .nil
 | _, _, .cons r t, f => .cons (f _ _ r) (Paired.mapP t f)
theorem gy.stay (x : gy P w H h a o) (k : ∀ b u, (b = a ∨ H b = some (.own a)) → h.get? b = some u → h'.get? b = some u)
  (ho : ∀ b, H b = some (.own a) → H' b = some (.own a)) (ht : ∀ b xs, H b = some (.tup xs) → H' b = some (.tup xs)) : gy P w H' h' a o := by
 induction o with
 | lst xs => obtain ⟨z, its, n, r, e⟩ := x; exact ⟨z, its, n, r, k _ _ (.inl rfl) e⟩
 | tup xs => obtain ⟨z, its, r, ob, e, c⟩ := x; exact ⟨z, its, r, ob, k _ _ (.inl rfl) e, c⟩
 | dK kvs => obtain ⟨z, y, vs, r, ob, es, ep, e, c⟩ := x; exact ⟨z, y, vs, r, ob, es, ep, k _ _ (.inl rfl) e, c⟩
 | dT kvs =>
  obtain ⟨z, y, xs, r, ob, es, ep, e, c⟩ := x;exact ⟨z, y, xs, Paired.mapP r fun p q z => ⟨z.1, ht _ _ z.2.1, z.2.2⟩, ob, es, ep, k _ _ (.inl rfl) e, c⟩
 | set S n => obtain ⟨ob, es, ep, t, e, c⟩ := x; exact ⟨ob, es, ep, t, k _ _ (.inl rfl) e, c⟩
 | ins C dx fs =>
  obtain ⟨d, z, ne, e, mA, ⟨od, es, ep, e2, c⟩, r⟩ := x;exact ⟨ho _ d, z, ne, k _ _ (.inl rfl) e, mA, ⟨od, es, ep, k _ _ (.inr d) e2, c⟩, r⟩
 | own y => obtain ⟨ob, e⟩ := x; exact ⟨ob, k _ _ (.inl rfl) e⟩
 | xd fs => obtain ⟨mA, ⟨od, es, ep, e, c⟩, r⟩ := x; exact ⟨mA, ⟨od, es, ep, k _ _ (.inl rfl) e, c⟩, r⟩
 | rng lo hi => obtain ⟨t, u, v, e⟩ := x; exact ⟨t, u, v, k _ _ (.inl rfl) e⟩
 | frz ob u ih => obtain ⟨e, q⟩ := x; exact ⟨k _ _ (.inl rfl) e, ih q⟩
 | tbl ps =>
  have e : h.get? a = some { cls := .none, data := .fields ps } := x;show h'.get? a = some { cls := .none, data := .fields ps }
  exact k a _ (.inl rfl) e
 | met f y =>
  have e : h.get? a = some (PySem.W.methodObj (.ref f) (.ref y)) := x;show h'.get? a = some (PySem.W.methodObj (.ref f) (.ref y))
  exact k a _ (.inl rfl) e
 | ext φ => obtain ⟨p, ⟨o, e⟩, st⟩ := x; exact ⟨st _ _ p fun o q => k _ _ (.inl rfl) q, ⟨o, k _ _ (.inl rfl) e⟩, st⟩
theorem HOk.lt (x : HOk P w H h) (e : H a = some o) : a < h.objs.size := (x a o e).lt
theorem HOk.fresh (x : HOk P w H h) (e : h.objs.size ≤ a) : H a = none := by
 cases q : H a with
 | none => rfl
 | some u => exact absurd (Nat.lt_of_lt_of_le (x.lt q) e) (Nat.lt_irrefl _)
theorem HOk.kept (x : HOk P w H h) (k : ∀ b u, h.get? b = some u → h'.get? b = some u) : HOk P w H h' := fun a o e =>
 (x a o e).stay (fun b u _ q => k b u q) (fun _ q => q) fun _ _ q => q
theorem HOk.laid (x : HOk P w H h) (k : ∀ b u, h.get? b = some u → h'.get? b = some u) (hp : h.objs.size ≤ a) (new : gy P w (upd H a o) h' a o) : HOk P w (upd H a o) h' := fun b u e => by
 have hn := x.fresh hp;by_cases hb : b = a
 ·subst hb; rw [bZ] at e; cases e; exact new
 ·rw [aG hb] at e
  exact (x b u e).stay (fun c v _ q => k c v q) (fun c q => by rw [aG (aP q hn)]; exact q) fun c xs q => by rw [aG (aP q hn)]; exact q
end
noncomputable def Rd (H : Hp) (a : Addr) (u : HO) : Prop := H a = some u ∨ ∃ o, H a = some (.frz o u)
theorem Rd.ok {P : Program} {w : World} {H : Hp} {h : Heap} {a : Addr} {u : HO} (r : Rd H a u) (x : HOk P w H h) : gy P w H h a u := by
 rcases r with r | ⟨o, r⟩
 ·exact x a u r
 ·obtain ⟨_, q⟩ := x a _ r
  exact q
noncomputable def Mut : Option HO → Prop
 | some (.lst _) => True
 | some (.dK _) => True
 | some (.dT _) => True
 | some (.set _ _) => True
 | some (.ins _ _ _) => True
 | some (.ext _) => True
 | _ => False
section
variable {P : Program} {w : World} {H : Hp} {h h' : Heap} {x e : Addr} {o' : HO}
theorem HOk.write (ok : HOk P w H h) (mu : Mut (H x)) (he : e = x ∨ H e = some (.own x)) (k : ∀ b u, b ≠ e → h.get? b = some u → h'.get? b = some u) (heo : ∃ u, h'.get? e = some u)
  (new : gy P w (upd H x o') h' x o') : HOk P w (upd H x o') h' := fun b u q => by
 have nown : ∀ c y, H c = some (.own y) → c ≠ x := fun c y r z => by subst z; rw [r] at mu; exact mu
 have ntup : ∀ c xs, H c = some (.tup xs) → c ≠ x := fun c xs r z => by subst z; rw [r] at mu; exact mu
 by_cases hb : b = x
 ·subst hb; rw [bZ] at q; cases q; exact new
 ·rw [aG hb] at q
  by_cases hbe : b = e
  ·have q' : H b = some (.own x) := by
    rcases he with z | z
    ·exact absurd (hbe.trans z) hb
    ·rw [hbe]; exact z
   rw [q] at q'; cases q';obtain ⟨v, hv⟩ := heo;exact ⟨v, by rw [hbe]; exact hv⟩
  ·refine (ok b u q).stay (fun c v hc r => k c v ?_ r) (fun c r => by rw [aG (nown c b r)]; exact r) fun c xs r => by rw [aG (ntup c xs r)]; exact r
   rcases hc with rfl | hc
   ·exact hbe
   ·rintro rfl
    rcases he with z | z
    ·exact nown c b hc z
    ·rw [hc] at z; cases z; exact hb rfl
end
structure Un (fs ex : List Addr) (H H' : Hp) (h h' : Heap) : Prop where
 keep : ∀ b o, h.get? b = some o → H b = none → b ∉ fs → b ∉ ex → h'.get? b = some o
 slot : ∀ b o, h.get? b = some o → H b = none → b ∈ fs → b ∉ ex → ∃ sl, h'.get? b = some { o with slots := sl }
 free : ∀ b o, h.get? b = some o → H b = none → b ∉ ex → H' b = none
 there : ∀ b o, h.get? b = some o → b ∉ ex → ∃ o', h'.get? b = some o'
 tups : ∀ b xs, H b = some (.tup xs) → H' b = some (.tup xs)
 frzs : ∀ b o u, H b = some (.frz o u) → H' b = some (.frz o u)
 tbls : ∀ b ps, H b = some (.tbl ps) → ∃ more, H' b = some (.tbl (ps ++ more))
section
variable {fs fs' ex ex' : List Addr} {H H1 H2 : Hp} {h h1 h2 h' : Heap} {a x e : Addr} {o : HO}
theorem Un.any (u : Un fs ex H H1 h h1) {b : Addr} {ob : Obj} (q : h.get? b = some ob) (n : H b = none) (hx : b ∉ ex) : ∃ sl, h1.get? b = some { ob with slots := sl } := by
 by_cases hb : b ∈ fs
 ·exact u.slot b ob q n hb hx
 ·exact ⟨ob.slots, u.keep b ob q n hb hx⟩
theorem Un.kept (k : ∀ b u, h.get? b = some u → h'.get? b = some u) : Un fs ex H H h h' :=
 ⟨fun b ob q _ _ _ => k b ob q, fun b ob q _ _ _ => ⟨ob.slots, k b ob q⟩, fun _ _ _ n _ => n, fun b ob q _ => ⟨ob, k b ob q⟩, fun _ _ q => q, fun _ _ _ q => q, fun _ ps q => ⟨#[], by rw [q]; simp⟩⟩
theorem Un.refl : Un fs ex H H h h := Un.kept fun _ _ q => q
theorem Un.laid (k : ∀ b u, h.get? b = some u → h'.get? b = some u) (hp : h.objs.size ≤ a) (hn : H a = none) : Un fs ex H (upd H a o) h h' where
 keep := fun b u q _ _ _ => k b u q
 slot := fun b u q _ _ _ => ⟨u.slots, k b u q⟩
 free := fun b u q n _ => by rw [aG (Nat.ne_of_lt (Nat.lt_of_lt_of_le (Heap.lt_size q) hp))]; exact n
 there := fun b u q _ => ⟨u, k b u q⟩
 tups := fun b xs q => by rw [aG (aP q hn)]; exact q
 frzs := fun b u xs q => by rw [aG (aP q hn)]; exact q
 tbls := fun b ps q => ⟨#[], by rw [aG (aP q hn), q]; simp⟩
theorem Un.write (mu : Mut (H x)) (he : e = x ∨ H e = some (.own x)) (k : ∀ b u, b ≠ e → h.get? b = some u → h'.get? b = some u) (heo : ∃ u, h'.get? e = some u) : Un fs ex H (upd H x o) h h' := by
 have hx : ∀ b, H b = none → b ≠ x := fun b n z => by subst z; rw [n] at mu; exact mu
 have hb : ∀ b, H b = none → b ≠ e := fun b n z => by
  subst z;rcases he with r | r
  ·exact hx b n r
  ·rw [n] at r; cases r
 have hm : ∀ b u, H b = some u → ¬ Mut (some u) → b ≠ x := fun b u q nm z => by subst z; rw [q] at mu; exact nm mu
 refine ⟨fun b u q n _ _ => k b u (hb b n) q, fun b u q n _ _ => ⟨u.slots, k b u (hb b n) q⟩, fun b u q n _ => by rw [aG (hx b n)]; exact n, fun b u q _ => ?_,
  fun b xs q => by rw [aG (hm b _ q fun z => z)]; exact q, fun b u xs q => by rw [aG (hm b _ q fun z => z)]; exact q, fun b ps q => ⟨#[], by rw [aG (hm b _ q fun z => z), q]; simp⟩⟩
 by_cases hbe : b = e
 ·subst hbe; exact heo
 ·exact ⟨u, k b u hbe q⟩
end
noncomputable def trk (h : Heap) (H : Hp) : List Addr := (List.range h.objs.size).filter fun a => (H a).isSome
noncomputable def jB (h : Heap) (H : Hp) : Heap := PySem.W.hideAll h (trk h H)
theorem mm (h : Heap) (H : Hp) : (jB h H).objs.size = h.objs.size := PySem.W.hideAll_size _ _
theorem oO {h : Heap} {H : Hp} {b : Addr} {o : Obj} (e : h.get? b = some o) (n : H b = none) : (jB h H).get? b = some o :=
 PySem.W.hideAll_get _ e fun hm => by
  have q : (H b).isSome = true := (List.mem_filter.mp hm).2;rw [n] at q; simp at q
theorem rF {h : Heap} {H : Hp} {b : Addr} {o : Obj} (e : (jB h H).get? b = some o) : h.get? b = some o ∧ H b = none := by
 have e' : h.get? b = some o := PySem.W.of_hideAll (trk h H) e;refine ⟨e', ?_⟩;cases q : H b with
 | none => rfl
 | some x =>
  have hm : b ∈ trk h H := List.mem_filter.mpr ⟨List.mem_range.mpr (Heap.lt_size e'), by simp [q]⟩
  have z : (jB h H).get? b = none := PySem.W.hideAll_none (trk h H) hm;rw [z] at e; cases e
noncomputable def xE (g h : Heap) (L : Addr) : List (Addr × Obj) := (List.range h.objs.size).filterMap fun a => if a = L ∨ (g.get? a).isSome = true then none else (h.get? a).map fun o => (a, o)
noncomputable def rest (g h : Heap) (L d : Addr) : List (Addr × Obj) := (xE g h L).filter fun p => decide (p.1 ≠ d)
end L2
namespace L2
open PySem PySem.Spec PyProof.Rows
structure Mod (K : PySem.W.Frag) (mg : Str → Option Value) (base : Heap) : Prop where
 kin : K.In base
 glob : base.Ns mainGlobals mg
 blt : ∃ mb, base.Ns builtinsNs mb ∧ ∀ x : Str, x ≠ "__name__" → mb x = bootBuiltins x
 nolimit : base.NoLimit
structure Cx where
 prog : Program
 w : World
 K : PySem.W.Frag
 mg : Str → Option Value
 base : Heap
 A : Around
 N : List Str
 s₀ : Shared
 H₀ : Hp
 env : Env
 outer : List Env
 stack : List Env
 ex : List Addr
 fn : Str → Bool
 calm : Bool
 pn : List (Addr × Obj)
 xe : Value → Shared → Prop
noncomputable def frs (l : List Env) : List Addr := l.filterMap (·.frame)
noncomputable abbrev Cx.fs (X : Cx) : List Addr := frs X.outer
noncomputable def Vis (sc : Scope) (x : Str) : Prop := sc.names.lookup x = some .local ∨ sc.names.lookup x = some .cell ∨ sc.names.lookup x = some .free
noncomputable def Loc (sc : Scope) (x : Str) : Prop := sc.names.lookup x = some .local ∨ sc.names.lookup x = some .cell
noncomputable def Look (env : Env) (h : Heap) (m : Str → Option Value) (x : Str) (u : Value) : Prop :=
 (env.kindOf x = some .local ∧ m x = some u) ∨ ((env.kindOf x = some .cell ∨ env.kindOf x = some .free) ∧ ∃ c, env.cells.lookup x = some c ∧ h.IsCell c (some u))
structure Cx.Ok (X : Cx) : Prop where
 mod : Mod X.K X.mg X.base
 kind : X.env.scope.kind = .function
 glob : X.env.globals = mainGlobals
 blt : X.env.builtins = builtinsNs
 above : X.s₀.heap.objs.size ≤ X.env.locals
 inj : ∀ x y c, X.env.cells.lookup x = some c → X.env.cells.lookup y = some c → x = y
 has : ∀ x, (X.env.kindOf x = some .cell ∨ X.env.kindOf x = some .free) → ∃ c, X.env.cells.lookup x = some c
 cab : ∀ x c, X.fn x = true → X.env.cells.lookup x = some c → X.s₀.heap.objs.size ≤ c
 hd : X.calm = true → X.A.handled = none
 frames : X.A.frames = some X.stack
 stk : X.stack = X.outer ∨ (X.stack = X.env :: X.outer ∧ X.env.frame = some X.env.locals)
 exf : ∀ b ∈ X.ex, b ≠ X.env.locals ∧ ∀ x c, X.env.cells.lookup x = some c → c ≠ b
 bs : ∀ b o, X.base.get? b = some o → X.s₀.heap.get? b = some o ∧ X.H₀ b = none
 bsz : X.base.objs.size ≤ X.s₀.heap.objs.size
 noex : ∀ b o, X.base.get? b = some o → b ∉ X.ex
 exfs : ∀ b ∈ X.ex, b ∉ X.fs
 funs : X.s₀.heap.FunFrames X.base X.outer
 frf : ∀ b ∈ X.fs, X.H₀ b = none
structure Inv (X : Cx) (pins : List (Addr × Obj)) (σ : List (Option V)) (H : Hp) (s : Shared) : Prop where
 ok : X.Ok
 os : s.os = X.s₀.os
 bare : AllBare s.gens
 base : Un X.fs X.ex X.H₀ H X.s₀.heap s.heap
 loc : ∃ m, s.heap.Ns X.env.locals m ∧ ∀ (i : Nat) (x : Str) (v : V), X.N[i]? = some x → σ[i]? = some (some v) → Vis X.env.scope x → ∃ u, RelV v u ∧ Look X.env s.heap m x u
 cell : ∀ x c, X.env.cells.lookup x = some c → ∃ v, s.heap.IsCell c v
 free : H X.env.locals = none
 freeC : ∀ x c, X.env.cells.lookup x = some c → H c = none
 pin : ∀ p ∈ X.pn ++ pins, s.heap.get? p.1 = some p.2 ∧ H p.1 = none ∧ p.1 ≠ X.env.locals ∧ p.1 ∉ X.fs ∧ ∀ v, p.2.data ≠ .cell v
 hok : HOk X.prog X.w H s.heap
 len : σ.length = X.N.length
section
variable {X : Cx} {pins : List (Addr × Obj)} {σ : List (Option V)} {H H' : Hp} {s : Shared} {h' : Heap}
theorem Cx.Ok.nofr (ok : X.Ok) {b : Addr} {o : Obj} (e : X.base.get? b = some o) : b ∉ X.fs := fun hb => by
 have := (ok.funs.mem hb).1;rw [e] at this; cases this
theorem Inv.bs (I : Inv X pins σ H s) : ∀ b o, X.base.get? b = some o → s.heap.get? b = some o ∧ H b = none := fun b o e =>
 ⟨I.base.keep b o (I.ok.bs b o e).1 (I.ok.bs b o e).2 (I.ok.nofr e) (I.ok.noex b o e), I.base.free b o (I.ok.bs b o e).1 (I.ok.bs b o e).2 (I.ok.noex b o e)⟩
theorem Inv.bk (I : Inv X pins σ H s) : ∀ b o, X.base.get? b = some o → s.heap.get? b = some o := fun b o e => (I.bs b o e).1
theorem Inv.mod (I : Inv X pins σ H s) : Mod X.K X.mg X.base := I.ok.mod
theorem Inv.kIn (I : Inv X pins σ H s) : X.K.In s.heap := I.ok.mod.kin.keeps I.bk
theorem Inv.fr (I : Inv X pins σ H s) : ∃ m, Fr X.base X.env.locals s.heap m :=
 let ⟨m, hn, _⟩ := I.loc
 ⟨m, hn, I.bk, Nat.le_trans I.ok.bsz I.ok.above⟩
theorem Inv.lt (I : Inv X pins σ H s) : X.env.locals < s.heap.objs.size := let ⟨_, hn, _⟩ := I.loc; hn.lt
theorem Inv.sz (I : Inv X pins σ H s) : X.s₀.heap.objs.size ≤ s.heap.objs.size := Nat.le_trans I.ok.above (Nat.le_of_lt I.lt)
theorem Inv.nofs (I : Inv X pins σ H s) {a : Addr} (h : s.heap.objs.size ≤ a) : a ∉ X.fs := fun hb => by
 obtain ⟨_, o, ho, _⟩ := I.ok.funs.mem hb;exact absurd (Nat.lt_of_lt_of_le (Heap.lt_size ho) (Nat.le_trans I.sz h)) (Nat.lt_irrefl _)
theorem Inv.cne (I : Inv X pins σ H s) : ∀ x c, X.env.cells.lookup x = some c → c ≠ X.env.locals := fun x c e z => by
 obtain ⟨v, o, ho, hd⟩ := I.cell x c e;obtain ⟨m, ⟨o', es, ep, ho', hd', _⟩, _⟩ := I.loc;rw [z, ho'] at ho; cases ho; rw [hd'] at hd; cases hd
theorem Inv.funs (I : Inv X pins σ H s) : s.heap.FunFrames X.base X.outer := by
 have all : ∀ (l : List Env), (∀ b ∈ frs l, b ∈ X.fs) → X.s₀.heap.FunFrames X.base l → s.heap.FunFrames X.base l := by
  intro l
  induction l with
  | nil => intro _ _; trivial
  | cons env r ih =>
   intro hs hl;obtain ⟨hk, ⟨L, o, hf, hn, ho, hd⟩, hr⟩ := hl;have hL : L ∈ X.fs := hs L (by unfold frs; rw [List.filterMap_cons, hf]; exact List.mem_cons_self)
   obtain ⟨sl, e⟩ := I.base.slot L o ho (I.ok.frf L hL) hL fun z => I.ok.exfs L z hL
   exact ⟨hk, ⟨L, _, hf, hn, e, hd⟩, ih (fun b hb => hs b (by unfold frs; rw [List.filterMap_cons, hf]; exact List.mem_cons_of_mem _ hb)) hr⟩
 exact all X.outer (fun _ hb => hb) I.ok.funs
theorem Inv.stack (I : Inv X pins σ H s) : s.heap.FunFrames X.base X.stack := by
 rcases I.ok.stk with e | ⟨e, hf⟩
 ·rw [e]; exact I.funs
 ·rw [e]
  obtain ⟨m, hn, _⟩ := I.loc;refine .cons (by rw [I.ok.kind]; decide) hf hn ?_ I.funs
  exact Heap.get?_none_of_le (Nat.le_trans I.ok.bsz I.ok.above)
theorem Inv.stkSub (I : Inv X pins σ H s) : ∀ b ∈ frs X.stack, b ∈ X.env.locals :: X.fs := fun b hb => by
 rcases I.ok.stk with e | ⟨e, hf⟩
 ·rw [e] at hb; exact List.mem_cons_of_mem _ hb
 ·rw [e] at hb
  unfold frs at hb;rw [List.filterMap_cons, hf] at hb;exact hb
theorem Inv.stkFree (I : Inv X pins σ H s) : ∀ b ∈ frs X.stack, H b = none := fun b hb => by
 rcases List.mem_cons.mp (I.stkSub b hb) with e | hb
 ·rw [e]; exact I.free
 ·obtain ⟨_, o, ho, _⟩ := I.ok.funs.mem hb
  exact I.base.free b o ho (I.ok.frf b hb) fun z => I.ok.exfs b z hb
theorem Inv.step {g' : Array GenState} {t' : Nat} {d' : Drawn} {ch : List Addr} (I : Inv X pins σ H s)
  (hch : ∀ b ∈ ch, (b ∈ X.ex ∨ X.s₀.heap.objs.size ≤ b) ∧ b ≠ X.env.locals ∧ (∀ x c, X.env.cells.lookup x = some c → c ≠ b) ∧ ∀ p ∈ X.pn ++ pins, p.1 ≠ b)
  (keep : ∀ b o, b ≠ X.env.locals → b ∉ X.fs → b ∉ ch → s.heap.get? b = some o → H b = none → h'.get? b = some o)
  (slot : ∀ b o, b ≠ X.env.locals → b ∈ X.fs → b ∉ ch → s.heap.get? b = some o → H b = none → ∃ sl, h'.get? b = some { o with slots := sl }) (free : ∀ b o, b ∉ ch → s.heap.get? b = some o → H b = none → H' b = none)
  (there : ∀ b o, b ∉ ch → s.heap.get? b = some o → ∃ o', h'.get? b = some o')
  (tups : ∀ b xs, H b = some (.tup xs) → H' b = some (.tup xs)) (frzs : ∀ b o u, H b = some (.frz o u) → H' b = some (.frz o u)) (tbls : ∀ b ps, H b = some (.tbl ps) → ∃ more, H' b = some (.tbl (ps ++ more)))
  (ns : ∀ m, s.heap.Ns X.env.locals m → h'.Ns X.env.locals m) (hok : HOk X.prog X.w H' h') (hg : AllBare g') :
  Inv X pins σ H' { s with heap := h', gens := g', drawn := d', toks := t' } := by
 have neL : ∀ b o, X.s₀.heap.get? b = some o → b ≠ X.env.locals := fun b o e => Nat.ne_of_lt (Nat.lt_of_lt_of_le (Heap.lt_size e) I.ok.above)
 have neC : ∀ b o, X.s₀.heap.get? b = some o → b ∉ X.ex → b ∉ ch := fun b o e hx hb => by
  rcases (hch b hb).1 with z | z
  ·exact hx z
  ·exact absurd (Nat.lt_of_lt_of_le (Heap.lt_size e) z) (Nat.lt_irrefl _)
 have cellK : ∀ x c, X.env.cells.lookup x = some c → ∀ v, s.heap.IsCell c v → h'.IsCell c v := fun x c e v ⟨o, ho, hd⟩ => by
  have nch : c ∉ ch := fun z => (hch c z).2.2.1 x c e rfl
  by_cases hc : c ∈ X.fs
  ·obtain ⟨sl, q⟩ := slot c o (I.cne x c e) hc nch ho (I.freeC x c e)
   exact ⟨_, q, hd⟩
  ·exact ⟨o, keep c o (I.cne x c e) hc nch ho (I.freeC x c e), hd⟩
 refine ⟨I.ok, I.os, hg, ⟨fun b o e n hb hx => ?_, fun b o e n hb hx => ?_, fun b o e n hx => ?_, fun b o e hx => ?_, fun b xs e => tups b xs (I.base.tups b xs e), fun b o xs e => frzs b o xs (I.base.frzs b o xs e), fun b ps e => ?_⟩, ?_, fun x c e => ?_, ?_, fun x c e => ?_, fun p hp => ?_, hok, I.len⟩
 ·exact keep b o (neL b o e) hb (neC b o e hx) (I.base.keep b o e n hb hx) (I.base.free b o e n hx)
 ·obtain ⟨sl, e1⟩ := I.base.slot b o e n hb hx
  obtain ⟨sl', e2⟩ := slot b _ (neL b o e) hb (neC b o e hx) e1 (I.base.free b o e n hx);exact ⟨sl', e2⟩
 ·obtain ⟨o', e1⟩ := I.base.there b o e hx
  exact free b o' (neC b o e hx) e1 (I.base.free b o e n hx)
 ·obtain ⟨o', e1⟩ := I.base.there b o e hx
  exact there b o' (neC b o e hx) e1
 ·obtain ⟨m1, e1⟩ := I.base.tbls b ps e
  obtain ⟨m2, e2⟩ := tbls b _ e1;exact ⟨m1 ++ m2, by rw [e2, Array.append_assoc]⟩
 ·obtain ⟨m, hn, hl⟩ := I.loc
  refine ⟨m, ns m hn, fun i x v e1 e2 e3 => ?_⟩
  obtain ⟨u, r, l⟩ := hl i x v e1 e2 e3;refine ⟨u, r, ?_⟩;rcases l with l | ⟨k, c, e, z⟩
  ·exact .inl l
  ·exact .inr ⟨k, c, e, cellK x c e _ z⟩
 ·obtain ⟨v, z⟩ := I.cell x c e
  exact ⟨v, cellK x c e v z⟩
 ·obtain ⟨m, ⟨o, _, _, ho, _⟩, _⟩ := I.loc
  exact free _ o (fun z => (hch _ z).2.1 rfl) ho I.free
 ·obtain ⟨v, o, ho, hd⟩ := I.cell x c e
  exact free c o (fun z => (hch c z).2.2.1 x c e rfl) ho (I.freeC x c e)
 ·obtain ⟨e, n, ne, nf, d⟩ := I.pin p hp
  have nch : p.1 ∉ ch := fun z => (hch p.1 z).2.2.2 p hp rfl
  exact ⟨keep p.1 p.2 ne nf nch e n, free p.1 p.2 nch e n, ne, nf, d⟩
theorem Inv.un {t' : Nat} (I : Inv X pins σ H s) (u : Un X.fs [] H H' s.heap h') (hok : HOk X.prog X.w H' h') : Inv X pins σ H' { s with heap := h', toks := t' } := by
 obtain ⟨m, ⟨o, es, ep, ho, r⟩, _⟩ := id I.loc;obtain ⟨sl, hL⟩ := u.any ho I.free (by simp)
 exact I.step (g' := s.gens) (d' := s.drawn) (ch := []) (fun _ z => nomatch z) (fun b o _ hb _ e n => u.keep b o e n hb (by simp)) (fun b o _ hb _ e n => u.slot b o e n hb (by simp)) (fun b o _ e n => u.free b o e n (by simp)) (fun b o _ e => u.there b o e (by simp)) u.tups u.frzs u.tbls (fun m' hm => by
  obtain ⟨o', es', ep', ho', r'⟩ := hm;rw [ho] at ho'; cases ho';exact ⟨_, es', ep', hL, r'⟩) hok I.bare
theorem Inv.call {g' : Array GenState} {t' : Nat} {d' : Drawn} {ch : List Addr} (I : Inv X pins σ H s) (u : Un (frs X.stack) ch H H' s.heap h') (hok : HOk X.prog X.w H' h') (hg : AllBare g')
  (hch : ∀ b ∈ ch, (b ∈ X.ex ∨ X.s₀.heap.objs.size ≤ b) ∧ b ≠ X.env.locals ∧ (∀ x c, X.env.cells.lookup x = some c → c ≠ b) ∧ ∀ p ∈ X.pn ++ pins, p.1 ≠ b) :
  Inv X pins σ H' { s with heap := h', gens := g', drawn := d', toks := t' } := by
 obtain ⟨m, ⟨o, es, ep, ho, r⟩, _⟩ := id I.loc;obtain ⟨sl, hL⟩ := u.any ho I.free fun z => (hch _ z).2.1 rfl
 exact I.step (ch := ch) hch (fun b o hL hb hc e n => u.keep b o e n (fun z => (List.mem_cons.mp (I.stkSub b z)).elim hL hb) hc) (fun b o _ _ hc e n => u.any e n hc) (fun b o hc e n => u.free b o e n hc) (fun b o hc e => u.there b o e hc) u.tups u.frzs u.tbls (fun m' hm => by
  obtain ⟨o', es', ep', ho', r'⟩ := hm;rw [ho] at ho'; cases ho';exact ⟨_, es', ep', hL, r'⟩) hok hg
theorem Inv.turned {t' : Nat} {it : Addr} (I : Inv X pins σ H s) (k : ∀ b o, b ≠ it → s.heap.get? b = some o → h'.get? b = some o) (hn : H it = none) (hL : it ≠ X.env.locals)
  (h1 : it ∈ X.ex ∨ X.s₀.heap.objs.size ≤ it) (h2 : ∀ x c, X.env.cells.lookup x = some c → c ≠ it) (h3 : ∀ p ∈ X.pn ++ pins, p.1 ≠ it) : Inv X pins σ H { s with heap := h', toks := t' } := by
 have nit : ∀ b u, H b = some u → b ≠ it := fun b u e z => by rw [z, hn] at e; cases e
 refine I.step (g' := s.gens) (d' := s.drawn) (ch := [it]) (fun b hb => ?_) (fun b o _ _ hc e _ => k b o (fun z => hc (by simp [z])) e) (fun b o _ _ hc e _ => ⟨o.slots, k b o (fun z => hc (by simp [z])) e⟩) (fun _ _ _ _ n => n)
  (fun b o hc e => ⟨o, k b o (fun z => hc (by simp [z])) e⟩) (fun _ _ e => e) (fun _ _ _ e => e) (fun b ps e => ⟨#[], by rw [e]; simp⟩) (fun m hm => ?_) (fun b u e => ?_) I.bare
 ·have e : b = it := by simpa using hb
  subst e;exact ⟨h1, hL, h2, h3⟩
 ·obtain ⟨o, es, ep, ho, r⟩ := hm
  exact ⟨o, es, ep, k _ o (Ne.symm hL) ho, r⟩
 ·refine (I.hok b u e).stay (fun c v hc q => k c v ?_ q) (fun _ q => q) fun _ _ q => q
  rcases hc with z | z
  ·rw [z]; exact nit b u e
  ·exact nit c _ z
theorem Inv.tok (I : Inv X pins σ H s) (t : Nat) : Inv X pins σ H { s with toks := t } := I.un (h' := s.heap) (t' := t) Un.refl I.hok
theorem Inv.kept {t' : Nat} (I : Inv X pins σ H s) (k : ∀ b u, s.heap.get? b = some u → h'.get? b = some u) : Inv X pins σ H { s with heap := h', toks := t' } := I.un (Un.kept k) (I.hok.kept k)
theorem Inv.laid {a : Addr} {o : HO} {t' : Nat} (I : Inv X pins σ H s) (k : ∀ b u, s.heap.get? b = some u → h'.get? b = some u) (hp : s.heap.objs.size ≤ a) (new : gy X.prog X.w (upd H a o) h' a o) :
  Inv X pins σ (upd H a o) { s with heap := h', toks := t' } := I.un (Un.laid k hp (I.hok.fresh hp)) (I.hok.laid k hp new)
theorem Inv.write {x e : Addr} {o : HO} {t' : Nat} (I : Inv X pins σ H s) (mu : Mut (H x)) (he : e = x ∨ H e = some (.own x)) (k : ∀ b u, b ≠ e → s.heap.get? b = some u → h'.get? b = some u) (heo : ∃ u, h'.get? e = some u)
  (new : gy X.prog X.w (upd H x o) h' x o) : Inv X pins σ (upd H x o) { s with heap := h', toks := t' } := I.un (Un.write mu he k heo) (I.hok.write mu he k heo new)
theorem Inv.weak {σ' : List (Option V)} (I : Inv X pins σ H s) (hl : σ'.length = σ.length) (w : ∀ (i : Nat) v, σ'[i]? = some (some v) → σ[i]? = some (some v)) : Inv X pins σ' H s :=
 ⟨I.ok, I.os, I.bare, I.base, let ⟨m, hn, hl'⟩ := I.loc; ⟨m, hn, fun i x v e1 e2 e3 => hl' i x v e1 (w i v e2) e3⟩, I.cell, I.free, I.freeC, I.pin, I.hok, hl.trans I.len⟩
theorem Inv.pins_of {pins' : List (Addr × Obj)} (I : Inv X pins σ H s) (h : ∀ p ∈ pins', s.heap.get? p.1 = some p.2 ∧ H p.1 = none ∧ p.1 ≠ X.env.locals ∧ p.1 ∉ X.fs ∧ ∀ v, p.2.data ≠ .cell v) : Inv X pins' σ H s :=
 ⟨I.ok, I.os, I.bare, I.base, I.loc, I.cell, I.free, I.freeC, fun p hp => (List.mem_append.mp hp).elim (fun z => I.pin p (List.mem_append_left _ z)) (h p), I.hok, I.len⟩
theorem om {N : List Str} (hN : N.Nodup) {i j : Nat} {x : Str} (a : N[i]? = some x) (b : N[j]? = some x) : i = j := by
 obtain ⟨h1, e1⟩ := List.getElem?_eq_some_iff.mp a;obtain ⟨h2, e2⟩ := List.getElem?_eq_some_iff.mp b;exact (List.getElem_inj hN).mp (e1.trans e2.symm)
theorem su {M : Model} {A : Around} {E : Value → Shared → Prop} {i : Nat} {x : Str} {v : V} {u : Value} {Q : Unit → Shared → Prop} (I : Inv X pins σ H s) (hN : X.N.Nodup) (hi : X.N[i]? = some x) (hx : Loc X.env.scope x) (r : RelV v u)
  (h : ∀ s', Inv X pins (σ.set i (some v)) H s' → (∃ a, Heap.SameBut a s.heap s'.heap ∧ (a = X.env.locals ∨ X.env.cells.lookup x = some a)) → Q () s') (hf : X.fn x = true ∨ X.env.scope.names.lookup x = some .local := by first | exact .inl rfl | exact .inr rfl | assumption) : wpAny M A (storeName X.env x u) Q E s := by
 obtain ⟨m, hn, hl⟩ := id I.loc;have hcls : (X.env.scope.kind == .class || (X.env.scope.kind == .module && X.env.locals != X.env.globals)) = false := by rw [I.ok.kind]; rfl
 have hiσ : i < σ.length := by rw [I.len]; exact (List.getElem?_eq_some_iff.mp hi).1
 have cne := I.cne;have tracked : ∀ {a : Addr} {h' : Heap}, (∃ o, s.heap.get? a = some o ∧ H a = none) → Heap.SameBut a s.heap h' → HOk X.prog X.w H h' := fun {a h'} ha hs b ob e => by
  obtain ⟨_, _, hfree⟩ := ha;refine (I.hok b ob e).stay (fun c w' hc q => (hs.2 c ?_).trans q) (fun _ q => q) fun _ _ q => q
  rintro rfl;rcases hc with rfl | hc
  ·rw [hfree] at e; cases e
  ·rw [hfree] at hc; cases hc
 rcases hx with hk | hk
 ·refine wpAny_storeName_local hk hn (fun h' hn' hs => ?_) hcls
  obtain ⟨oL, _, _, hoL, _⟩ := id hn;refine h _ ⟨I.ok, I.os, I.bare, ⟨fun b o e n hb hx => ?_, fun b o e n hb hx => ?_, I.base.free, fun b o e hx => ?_, I.base.tups, I.base.frzs, I.base.tbls⟩, ⟨_, hn', fun j y v' e1 e2 e3 => ?_⟩, fun y c e => ?_, I.free, I.freeC, fun p hp => ?_, tracked ⟨oL, hoL, I.free⟩ hs, by simpa using I.len⟩ ⟨_, hs, .inl rfl⟩
  ·exact (hs.2 b (Nat.ne_of_lt (Nat.lt_of_lt_of_le (Heap.lt_size e) I.ok.above))).trans (I.base.keep b o e n hb hx)
  ·obtain ⟨sl, e1⟩ := I.base.slot b o e n hb hx
   exact ⟨sl, (hs.2 b (Nat.ne_of_lt (Nat.lt_of_lt_of_le (Heap.lt_size e) I.ok.above))).trans e1⟩
  ·obtain ⟨o', e1⟩ := I.base.there b o e hx
   exact ⟨o', (hs.2 b (Nat.ne_of_lt (Nat.lt_of_lt_of_le (Heap.lt_size e) I.ok.above))).trans e1⟩
  ·by_cases hj : j = i
   ·subst hj
    rw [hi] at e1; cases e1;rw [List.getElem?_set_self hiσ] at e2;cases e2;exact ⟨u, r, .inl ⟨hk, by simp⟩⟩
   ·rw [List.getElem?_set_ne (Ne.symm hj)] at e2
    obtain ⟨u', r', q⟩ := hl j y v' e1 e2 e3;refine ⟨u', r', ?_⟩;rcases q with ⟨k, e⟩ | ⟨k, c, e, z⟩
    ·refine .inl ⟨k, ?_⟩
     have : y ≠ x := fun e => hj (om hN e1 (e ▸ hi))
     simp [this, e]
    ·exact .inr ⟨k, c, e, z.sameBut hs (cne y c e)⟩
  ·obtain ⟨w', z⟩ := I.cell y c e
   exact ⟨w', z.sameBut hs (cne y c e)⟩
  ·obtain ⟨e, n, ne, nf, d⟩ := I.pin p hp
   exact ⟨(hs.2 p.1 ne).trans e, n, ne, nf, d⟩
 ·have hfn : X.fn x = true := by
   rcases hf with z | z
   ·exact z
   ·rw [z] at hk; cases hk
  obtain ⟨c, hc⟩ := I.ok.has x (.inl hk);obtain ⟨w', z⟩ := I.cell x c hc;refine wpAny_storeName_cell I.ok.kind hk hc z (fun h' hc' hs => ?_)
  obtain ⟨oc, hoc, hocd⟩ := id z;refine h { s with heap := h' } ⟨I.ok, I.os, I.bare, ⟨fun b o e n hb hx => ?_, fun b o e n hb hx => ?_, I.base.free, fun b o e hx => ?_, I.base.tups, I.base.frzs, I.base.tbls⟩, ⟨m, hn.sameBut hs (Ne.symm (cne x c hc)), fun j y v' e1 e2 e3 => ?_⟩, fun y c' e => ?_, I.free, I.freeC, fun p hp => ?_, tracked ⟨oc, hoc, I.freeC x c hc⟩ hs, by simpa using I.len⟩ ⟨c, hs, .inr hc⟩
  ·exact (hs.2 b (Nat.ne_of_lt (Nat.lt_of_lt_of_le (Heap.lt_size e) (I.ok.cab x c hfn hc)))).trans (I.base.keep b o e n hb hx)
  ·obtain ⟨sl, e1⟩ := I.base.slot b o e n hb hx
   exact ⟨sl, (hs.2 b (Nat.ne_of_lt (Nat.lt_of_lt_of_le (Heap.lt_size e) (I.ok.cab x c hfn hc)))).trans e1⟩
  ·obtain ⟨o', e1⟩ := I.base.there b o e hx
   exact ⟨o', (hs.2 b (Nat.ne_of_lt (Nat.lt_of_lt_of_le (Heap.lt_size e) (I.ok.cab x c hfn hc)))).trans e1⟩
  ·by_cases hj : j = i
   ·subst hj
    rw [hi] at e1; cases e1;rw [List.getElem?_set_self hiσ] at e2;cases e2;exact ⟨u, r, .inr ⟨.inl hk, c, hc, hc'⟩⟩
   ·rw [List.getElem?_set_ne (Ne.symm hj)] at e2
    obtain ⟨u', r', q⟩ := hl j y v' e1 e2 e3;refine ⟨u', r', ?_⟩;rcases q with q | ⟨k, c', e, z'⟩
    ·exact .inl q
    ·refine .inr ⟨k, c', e, z'.sameBut hs ?_⟩
     rintro rfl;exact hj (om hN e1 (I.ok.inj _ _ _ e hc ▸ hi))
  ·by_cases hcc : c' = c
   ·subst hcc; exact ⟨_, hc'⟩
   ·obtain ⟨w2, z2⟩ := I.cell y c' e
    exact ⟨w2, z2.sameBut hs hcc⟩
  ·obtain ⟨e, n, ne, nf, d⟩ := I.pin p hp
   refine ⟨(hs.2 p.1 ?_).trans e, n, ne, nf, d⟩;intro q;rw [q, hoc] at e;have q' : oc = p.2 := Option.some.inj e;exact d w' (by rw [← q']; exact hocd)
theorem jH {M : Model} {A : Around} {E : Value → Shared → Prop} {i : Nat} {x : Str} {v : V} {u : Value} {Q : Unit → Shared → Prop} (I : Inv X pins σ H s) (hN : X.N.Nodup) (hi : X.N[i]? = some x) (hx : Loc X.env.scope x) (r : RelV v u)
  (h : ∀ s', Inv X pins (σ.set i (some v)) H s' → Q () s') (hf : X.fn x = true ∨ X.env.scope.names.lookup x = some .local := by first | exact .inl rfl | exact .inr rfl | assumption) : wpAny M A (storeName X.env x u) Q E s :=
 su I hN hi hx r (fun s' I' _ => h s' I') hf
theorem Inv.call' {s' : Shared} {ch : List Addr} (I : Inv X pins σ H s) (ho : s'.os = s.os) (u : Un (frs X.stack) ch H H' s.heap s'.heap) (hok : HOk X.prog X.w H' s'.heap) (hg : AllBare s'.gens)
  (hch : ∀ b ∈ ch, (b ∈ X.ex ∨ X.s₀.heap.objs.size ≤ b) ∧ b ≠ X.env.locals ∧ (∀ x c, X.env.cells.lookup x = some c → c ≠ b) ∧ ∀ p ∈ X.pn ++ pins, p.1 ≠ b) : Inv X pins σ H' s' := by
 obtain ⟨h', g', d', t', o'⟩ := s';have e : o' = s.os := ho;subst e;exact I.call (g' := g') (t' := t') (d' := d') u hok hg hch
end
noncomputable abbrev XK := Value → Option Addr → Hp → Prop
noncomputable abbrev St := List (Option V)
noncomputable abbrev VK := V → Hp → Prop
noncomputable abbrev TE := St → Hp → VK → Prop
noncomputable abbrev TT := St → Hp → (Bool → Hp → Prop) → Prop
noncomputable abbrev TA := St → Hp → (List V → Hp → Prop) → Prop
structure Ends where
 nx : St → Hp → Prop
 rt : VK
 bk : St → Hp → Prop := fun _ _ => False
 ct : St → Hp → Prop := fun _ _ => False
noncomputable abbrev TS := Ends → St → Hp → Prop
noncomputable def EP (X : Cx) (pins : List (Addr × Obj)) (σ : St) (Q : VK) (u : Value) (s' : Shared) : Prop := ∃ v H', Inv X pins σ H' s' ∧ RelV v u ∧ Q v H'
noncomputable def TP (X : Cx) (pins : List (Addr × Obj)) (σ : St) (Q : Bool → Hp → Prop) (b : Bool) (s' : Shared) : Prop := ∃ H', Inv X pins σ H' s' ∧ Q b H'
noncomputable def AP (X : Cx) (pins : List (Addr × Obj)) (σ : St) (Q : List V → Hp → Prop) (us : List Value) (s' : Shared) : Prop := ∃ vs H', Inv X pins σ H' s' ∧ Vals vs us ∧ Q vs H'
noncomputable def SP (X : Cx) (pins : List (Addr × Obj)) (D : Ends) (f : Flow) (s' : Shared) : Prop :=
 match f with
 | .next => ∃ σ' H', Inv X pins σ' H' s' ∧ D.nx σ' H'
 | .brk => ∃ σ' H', Inv X pins σ' H' s' ∧ D.bk σ' H'
 | .cont => ∃ σ' H', Inv X pins σ' H' s' ∧ D.ct σ' H'
 | .ret u => ∃ v σ' H', Inv X pins σ' H' s' ∧ RelV v u ∧ D.rt v H'
noncomputable def PE (X : Cx) (e : Expr) (t : TE) : Prop :=
 ∀ (pins : List (Addr × Obj)) (s : Shared) (σ : St) (H : Hp) (Q : VK), Inv X pins σ H s → t σ H Q → wpAny (model X.prog X.w) X.A (eval e X.env) (EP X pins σ Q) X.xe s
noncomputable def PT (X : Cx) (e : Expr) (t : TT) : Prop :=
 ∀ (pins : List (Addr × Obj)) (s : Shared) (σ : St) (H : Hp) (Q : Bool → Hp → Prop), Inv X pins σ H s → t σ H Q → wpAny (model X.prog X.w) X.A (isTrue e X.env (eval e X.env)) (TP X pins σ Q) X.xe s
noncomputable def PW (X : Cx) (e : Expr) (t : TT) : Prop :=
 ∀ (whole : Sem Value) (pins : List (Addr × Obj)) (s : Shared) (σ : St) (H : Hp) (Q : Bool → Hp → Prop), Inv X pins σ H s → t σ H Q → wpAny (model X.prog X.w) X.A (isTrue e X.env whole) (TP X pins σ Q) X.xe s
theorem PW.pt {X : Cx} {e : Expr} {t : TT} (h : PW X e t) : PT X e t := h _
noncomputable def PA (X : Cx) (es : List Expr) (t : TA) : Prop :=
 ∀ (pos : Pos) (pins : List (Addr × Obj)) (s : Shared) (σ : St) (H : Hp) (Q : List V → Hp → Prop), Inv X pins σ H s → t σ H Q → wpAny (model X.prog X.w) X.A (spliced (backTo pos (starEach es X.env))) (AP X pins σ Q) X.xe s
noncomputable def PS (X : Cx) (st : Stmt) (t : TS) : Prop :=
 ∀ (pins : List (Addr × Obj)) (s : Shared) (σ : St) (H : Hp) (D : Ends), Inv X pins σ H s → t D σ H → wpAny (model X.prog X.w) X.A (exec st X.env) (SP X pins D) X.xe s
noncomputable def PSs (X : Cx) (st : List Stmt) (t : TS) : Prop :=
 ∀ (pins : List (Addr × Obj)) (s : Shared) (σ : St) (H : Hp) (D : Ends), Inv X pins σ H s → t D σ H → wpAny (model X.prog X.w) X.A (execs st X.env) (SP X pins D) X.xe s
theorem thn {α : Type} {t : Sem α} {Q Q' : α → Shared → Prop} {M : Model} {A : Around} {E : Value → Shared → Prop} {s : Shared} (h : wpAny M A t Q E s) (hQ : ∀ a s, Q a s → Q' a s) : wpAny M A t Q' E s := wpAny_mono h hQ fun _ _ x => x
end L2
namespace L2
open PySem PySem.Spec PyProof.Rows
section
variable {X : Cx}
theorem bin {a b : Expr} {ta tb : TE} (ha : PE X a ta) (hb : PE X b tb) {pins : List (Addr × Obj)} {s : Shared} {σ : St} {H : Hp} {R : V → V → Hp → Prop} (I : Inv X pins σ H s) (h : ta σ H fun x H1 => tb σ H1 fun y H2 => R x y H2)
  {α : Type} {Q : α → Shared → Prop} {f : Value → Value → Sem α}
  (hf : ∀ v u s2 x y H2, Inv X pins σ H2 s2 → RelV x v → RelV y u → R x y H2 → wpAny (model X.prog X.w) X.A (f v u) Q X.xe s2) :
  wpAny (model X.prog X.w) X.A (eval a X.env) (fun v s₁ => wpAny (model X.prog X.w) X.A (eval b X.env) (fun u s₂ => wpAny (model X.prog X.w) X.A (f v u) Q X.xe s₂) X.xe s₁) X.xe s := by
 refine thn (ha pins s σ H _ I h) fun v s1 ⟨x, H1, I1, r1, q1⟩ => ?_
 refine thn (hb pins s1 σ H1 _ I1 q1) fun u s2 ⟨y, H2, I2, r2, q2⟩ => ?_
 exact hf v u s2 x y H2 I2 r1 r2 q2
noncomputable def iB (i : Nat) : TE := fun σ H Q => ∃ v, σ[i]? = some (some v) ∧ Q v H
noncomputable def tC (v : V) : TE := fun _ H Q => Q v H
theorem fJ {i : Nat} {x : Str} {pos : Pos} (hN : X.N[i]? = some x) (hv : Vis X.env.scope x) (hd : (x == ("__debug__" : Str)) = false := by decide) (hcd : (x == ("__classdict__" : Str)) = false := by decide) : PE X (.Name x pos) (iB i) := by
 intro pins s σ H Q I h;obtain ⟨v, e, h⟩ := h;obtain ⟨m, hn, hl⟩ := I.loc;obtain ⟨u, r, l⟩ := hl i x v hN e hv;have fin : EP X pins σ Q u s := ⟨v, H, I, r, h⟩;rcases l with ⟨hk, hm⟩ | ⟨hk, c, hc, hcell⟩
 ·exact wpAny_Name (wpAny_loadName_local I.ok.kind hk hn hm fin) hd
 ·rcases hk with hk | hk
  ·exact wpAny_Name (wpAny_loadName_cell I.ok.kind hk hc hcell fin) hd
  ·exact wpAny_Name (wpAny_loadName_free I.ok.kind hk hc hcell fin hcd) hd
theorem Al {i j pos} : PE X (.Constant (.int i) j pos) (tC (.int i)) := fun _ _ _ H _ I h => wpAny_Constant_int ⟨.int i, H, I.tok _, ⟨_, rfl⟩, h⟩
theorem CZ {b j pos} : PE X (.Constant (.bool b) j pos) (tC (.bl b)) := fun _ _ _ H _ I h => Constant_bool ⟨.bl b, H, I, rfl, h⟩
theorem zk {x j pos} : PE X (.Constant (.str x) j pos) (tC (.str x)) := fun _ _ _ H _ I h => Calls.Constant_str ⟨.str x, H, I.tok _, ⟨_, rfl⟩, h⟩
noncomputable def Gl (X : Cx) (x : Str) : Prop := X.env.kindOf x = some .globalImplicit
theorem rB {E : Value → Shared → Prop} {pins : List (Addr × Obj)} {s : Shared} {σ : St} {H : Hp} {x : Str} {u : Value} {pos : Pos} {Q : Value → Shared → Prop} (I : Inv X pins σ H s) (hg : Gl X x) (hm : X.mg x = some u) (h : Q u s)
  (hd : (x == ("__debug__" : Str)) = false := by decide) : wpAny (model X.prog X.w) X.A (eval (.Name x pos) X.env) Q E s :=
 Calls.Name_function_global I.ok.kind hg (Calls.loadGlobal_global (by rw [I.ok.glob]; exact I.mod.glob.keeps I.bk) hm h) hd
theorem iI {E : Value → Shared → Prop} {pins : List (Addr × Obj)} {s : Shared} {σ : St} {H : Hp} {x : Str} {u : Value} {pos : Pos} {Q : Value → Shared → Prop} (I : Inv X pins σ H s) (hg : Gl X x) (hm : X.mg x = none) (hv : bootBuiltins x = some u) (h : Q u s)
  (hn : x ≠ "__name__" := by decide) (hd : (x == ("__debug__" : Str)) = false := by decide) : wpAny (model X.prog X.w) X.A (eval (.Name x pos) X.env) Q E s := by
 obtain ⟨mb, h1, h2⟩ := I.mod.blt;exact Calls.Name_function_global I.ok.kind hg (Calls.loadGlobal_builtin (by rw [I.ok.glob]; exact I.mod.glob.keeps I.bk) hm (by rw [I.ok.blt]; exact h1.keeps I.bk) ((h2 x hn).trans hv) h) hd
theorem xy {x : Str} {v : V} {u : Value} {pos : Pos} (hg : Gl X x) (hm : X.mg x = some u) (r : RelV v u) (hd : (x == ("__debug__" : Str)) = false := by decide) : PE X (.Name x pos) (tC v) :=
 fun _ _ _ H _ I h => rB I hg hm ⟨v, H, I, r, h⟩ hd
theorem xA {x : Str} {v : V} {u : Value} {pos : Pos} (hg : Gl X x) (hm : X.mg x = none) (hv : bootBuiltins x = some u) (r : RelV v u) (hn : x ≠ "__name__" := by decide) (hd : (x == ("__debug__" : Str)) = false := by decide) : PE X (.Name x pos) (tC v) :=
 fun _ _ _ H _ I h => iI I hg hm hv ⟨v, H, I, r, h⟩ hn hd
variable {a b : Expr} {ta tb : TE} {pos : Pos}
noncomputable def PC (X : Cx) (op : CmpOp) (a b : Expr) (t : TE) : Prop :=
 ∀ (pins : List (Addr × Obj)) (s : Shared) (σ : St) (H : Hp) (Q : VK), Inv X pins σ H s → t σ H Q →
  wpAny (model X.prog X.w) X.A (eval a X.env) (fun v s₁ => wpAny (model X.prog X.w) X.A (eval b X.env) (fun u s₂ => wpAny (model X.prog X.w) X.A (compareOp op v u) (EP X pins σ Q) X.xe s₂) X.xe s₁) X.xe s
theorem vy (b : Expr) {op : CmpOp} (h : op ≠ .In) (h2 : op ≠ .NotIn) : behindInMarks op b = false := by
 have e1 : (op == CmpOp.In) = false := by cases op <;> first | rfl | exact absurd rfl h
 have e2 : (op == CmpOp.NotIn) = false := by cases op <;> first | rfl | exact absurd rfl h2
 cases b <;> simp [behindInMarks, e1, e2]
noncomputable def tB (t : TE) : TT := fun σ H Q => t σ H fun x H1 => ∃ c, x = .bl c ∧ Q c H1
theorem F7 {op : CmpOp} {t : TE} (h : PC X op a b t) (h1 : behindInMarks op b = false := by first | exact vy _ (by decide) (by decide) | rfl) : PT X (.Compare a [op] [b] pos) (tB t) := by
 intro pins s σ H Q I hw;refine wpAny_isTrue_Compare1 (thn (h pins s σ H _ I hw) fun v s1 h1 => thn h1 fun u s2 h2 => thn h2 fun c s3 ⟨x, H1, I1, r1, q1⟩ => ?_) h1
 obtain ⟨d, rfl, q⟩ := q1;cases r1;exact wpAny_truthy_bool ⟨H1, I1, q⟩
theorem AN {e : Expr} {t : TE} (h : PE X e t) (he : ∀ whole, isTrue e X.env whole = (do let v ← whole; standAt e.pos; holding [v] (truthy v)) := by intro _; rfl) : PT X e (tB t) := by
 intro pins s σ H Q I hw;refine isTrue_plain (thn (h pins s σ H _ I hw) fun v s1 ⟨x, H1, I1, r1, q1⟩ => ?_) (he _)
 obtain ⟨d, rfl, q⟩ := q1;cases r1;exact wpAny_truthy_bool ⟨H1, I1, q⟩
variable {tA tB' : TT} {rest : List Expr}
noncomputable def tOr (t u : TT) : TT := fun σ H Q => t σ H fun c H1 => if c = true then Q true H1 else u σ H1 Q
noncomputable def DC (t : TT) : TT := fun σ H Q => t σ H fun c H1 => Q (!c) H1
theorem y0 (ha : PT X a tA) : PW X (.BoolOp .Or [a] pos) tA := by
 intro wh pins s σ H Q I h;refine isTrue_or (thn (ha pins s σ H Q I h) fun c s1 e => ?_)
 cases c with
 | false => exact isTrue_or_nil e
 | true => exact e
theorem Dt (ha : PT X a tA) (hb : PW X (.BoolOp .Or (b :: rest) pos) tB') : PW X (.BoolOp .Or (a :: b :: rest) pos) (tOr tA tB') := by
 intro wh pins s σ H Q I h;refine isTrue_or (thn (ha pins s σ H _ I h) fun c s1 ⟨H1, I1, q1⟩ => ?_)
 cases c with
 | true => exact ⟨H1, I1, q1⟩
 | false => exact hb wh pins s1 σ H1 Q I1 q1
theorem AR (ha : PT X a tA) : PT X (.UnaryOp .Not a pos) (DC tA) := by
 intro pins s σ H Q I h;exact isTrue_not (ha pins s σ H (fun c H1 => Q (!c) H1) I h)
noncomputable def tIf (t : TT) (ta tb : TE) : TE := fun σ H Q => t σ H fun c H1 => if c = true then ta σ H1 Q else tb σ H1 Q
theorem tJ {c : Expr} (hc : PT X c tA) (ha : PE X a ta) (hb : PE X b tb) : PE X (.IfExp c a b pos) (tIf tA ta tb) := by
 intro pins s σ H Q I h;refine wpAny_IfExp (thn (hc pins s σ H _ I h) fun d s1 ⟨H1, I1, q1⟩ => ?_)
 cases d with
 | true => exact ha pins s1 σ H1 Q I1 q1
 | false => exact hb pins s1 σ H1 Q I1 q1
end
end L2
namespace L2
open PySem PySem.Spec PyProof.Rows
noncomputable def SqL (K : PySem.W.Frag) (H : Hp) (a : Addr) (xs : List V) : Prop :=
 Rd H a (.lst xs) ∨
  ∃ (o : Obj) (its : Array Value) (n : Nat), K.lookup a = some o ∧ o.cls = .type "list" ∧ o.dict = none ∧ o.data = .seq its n ∧ its.size ≤ sizeLine ∧ Vals xs its.toList
noncomputable def SqT (K : PySem.W.Frag) (H : Hp) (a : Addr) (xs : List V) : Prop :=
 Rd H a (.tup xs) ∨
  ∃ (o : Obj) (its : Array Value) (n : Nat), K.lookup a = some o ∧ o.cls = .type "tuple" ∧ o.data = .seq its n ∧ its.size ≤ sizeLine ∧ Vals xs its.toList
noncomputable def Fb : Value → Option V
 | .none => some .non
 | .bool b => some (.bl b)
 | .int i _ => some (.int i)
 | .str x _ => some (.str x)
 | .bytes b _ => some (.byt b)
 | .float b _ => some (.flt b)
 | .ref a => some (.ref a)
 | .type n => some (.ty n)
 | _ => none
theorem RelV.abs {x : V} {u : Value} (r : RelV x u) : Fb u = some x := by
 cases x with
 | non => cases r; rfl
 | bl _ => cases r; rfl
 | int _ => obtain ⟨t, rfl⟩ := r; rfl
 | str _ => obtain ⟨t, rfl⟩ := r; rfl
 | byt _ => obtain ⟨t, rfl⟩ := r; rfl
 | flt _ => obtain ⟨t, rfl⟩ := r; rfl
 | ref _ => cases r; rfl
 | ty _ => cases r; rfl
theorem RelV.inj {x y : V} {u : Value} (r : RelV x u) (q : RelV y u) : x = y := Option.some.inj (r.abs.symm.trans q.abs)
theorem Vals.inj : ∀ {xs ys : List V} {us : List Value}, Vals xs us → Vals ys us → xs = ys
 | _, _, _, .nil, .nil => rfl
 | _, _, _, .cons r t, .cons r' t' => by rw [r.inj r', Vals.inj t t']
section
variable {X : Cx} {pins : List (Addr × Obj)} {σ : St} {H : Hp} {s : Shared} {a : Addr} {xs ys : List V}
theorem SqL.of {K : PySem.W.Frag} (h : H a = some (.lst xs)) : SqL K H a xs := .inl (.inl h)
theorem SqT.of {K : PySem.W.Frag} (h : H a = some (.tup xs)) : SqT K H a xs := .inl (.inl h)
theorem Inv.list (I : Inv X pins σ H s) (h : SqL X.K H a xs) : ∃ its : List Value, Vals xs its ∧ PlainL s.heap a its.toArray ∧ xs.length ≤ sizeLine := by
 rcases h with h | ⟨o, its, n, hk, hc, hd, hs, hz, r⟩
 ·obtain ⟨z, its, n, r, e⟩ := h.ok I.hok
  exact ⟨its, r, ⟨_, n, e, rfl, rfl, rfl⟩, z⟩
 ·refine ⟨its.toList, r, ⟨o, n, I.kIn a o hk, hc, hd, by simpa using hs⟩, ?_⟩
  have e := r.length;simp only [Array.length_toList] at e
  lia
theorem Inv.tuple (I : Inv X pins σ H s) (h : SqT X.K H a xs) : ∃ its : List Value, Vals xs its ∧ IsTup s.heap a its.toArray ∧ xs.length ≤ sizeLine := by
 rcases h with h | ⟨o, its, n, hk, hc, hs, hz, r⟩
 ·obtain ⟨z, its, r, p⟩ := h.ok I.hok
  exact ⟨its, r, p, z⟩
 ·refine ⟨its.toList, r, ⟨o, I.kIn a o hk, hc, n, by simpa using hs⟩, ?_⟩
  have e := r.length;simp only [Array.length_toList] at e
  lia
theorem Inv.list_inj (I : Inv X pins σ H s) (h : SqL X.K H a xs) (h' : SqL X.K H a ys) : xs = ys := by
 obtain ⟨its, r, ⟨o, n, e, _, _, d⟩, _⟩ := I.list h;obtain ⟨its', r', ⟨o', n', e', _, _, d'⟩, _⟩ := I.list h';rw [e] at e'; cases e';rw [d] at d';injection d' with d1 _
 have : its = its' := by simpa using congrArg Array.toList d1
 subst this;exact r.inj r'
end
noncomputable abbrev Cx.wish (X : Cx) (E : Value → Shared → Prop) : Cx := { X with xe := E }
noncomputable abbrev Cx.nox (X : Cx) : Cx := X.wish fun _ _ => False
theorem Cx.Ok.wish {X : Cx} (ok : X.Ok) (E : Value → Shared → Prop) : (X.wish E).Ok :=
 ⟨ok.mod, ok.kind, ok.glob, ok.blt, ok.above, ok.inj, ok.has, ok.cab, ok.hd, ok.frames, ok.stk, ok.exf, ok.bs, ok.bsz, ok.noex, ok.exfs, ok.funs, ok.frf⟩
theorem Cx.Ok.unwish {X : Cx} {E : Value → Shared → Prop} (ok : (X.wish E).Ok) : X.Ok :=
 ⟨ok.mod, ok.kind, ok.glob, ok.blt, ok.above, ok.inj, ok.has, ok.cab, ok.hd, ok.frames, ok.stk, ok.exf, ok.bs, ok.bsz, ok.noex, ok.exfs, ok.funs, ok.frf⟩
section
variable {X : Cx} {pins : List (Addr × Obj)} {σ : St} {H : Hp} {s : Shared} {E : Value → Shared → Prop}
theorem Inv.wish (I : Inv X pins σ H s) (E : Value → Shared → Prop) : Inv (X.wish E) pins σ H s := ⟨I.ok.wish E, I.os, I.bare, I.base, I.loc, I.cell, I.free, I.freeC, I.pin, I.hok, I.len⟩
theorem Inv.unwish (I : Inv (X.wish E) pins σ H s) : Inv X pins σ H s := ⟨I.ok.unwish, I.os, I.bare, I.base, I.loc, I.cell, I.free, I.freeC, I.pin, I.hok, I.len⟩
theorem SP.unwish {D : Ends} {f : Flow} {s' : Shared} (h : SP (X.wish E) pins D f s') : SP X pins D f s' := by
 cases f with
 | next => obtain ⟨σ', H', I, q⟩ := h; exact ⟨σ', H', I.unwish, q⟩
 | brk => obtain ⟨σ', H', I, q⟩ := h; exact ⟨σ', H', I.unwish, q⟩
 | cont => obtain ⟨σ', H', I, q⟩ := h; exact ⟨σ', H', I.unwish, q⟩
 | ret u => obtain ⟨v, σ', H', I, r, q⟩ := h; exact ⟨v, σ', H', I.unwish, r, q⟩
theorem PSs.nox {st : List Stmt} {t : TS} (h : PSs X.nox st t) : PSs X st t := fun pins s σ H D I hw =>
 wpAny_mono (h pins s σ H D (I.wish _) hw) (fun _ _ q => q.unwish) fun _ _ z => False.elim z
end
section
variable {X : Cx} {st : Stmt} {rest : List Stmt} {t u : TS} {e : Expr} {te : TE} {pos : Pos}
noncomputable def yq : TS := fun D σ H => D.nx σ H
noncomputable def CB (t u : TS) : TS := fun D σ H => t { D with nx := u D } σ H
theorem xI : PSs X [] yq := fun _ _ σ H _ I h => wpAny_execs_nil ⟨σ, H, I, h⟩
theorem ud (h1 : PS X st t) (h2 : PSs X rest u) : PSs X (st :: rest) (CB t u) := by
 intro pins s σ H D I h;refine wpAny_execs_cons (thn (h1 pins s σ H { D with nx := u D } I h) fun f s1 q => ?_)
 cases f with
 | next =>
  obtain ⟨σ', H', I', q⟩ := q;exact h2 pins s1 σ' H' D I' q
 | ret v => exact q
 | brk => exact q
 | cont => exact q
theorem wt (h1 : PS X st t) : PSs X [st] t := by
 intro pins s σ H D I h;refine wpAny_execs_cons (thn (h1 pins s σ H D I h) fun f s1 q => ?_)
 cases f with
 | next => exact wpAny_execs_nil q
 | ret v => exact q
 | brk => exact q
 | cont => exact q
theorem Inv.quiet {pins : List (Addr × Obj)} {σ : St} {H : Hp} {s : Shared} (I : Inv X pins σ H s) : interactive X.env = false := by simp [interactive, I.ok.kind]
noncomputable def jW (te : TE) : TS := fun D σ H => te σ H fun _ H1 => D.nx σ H1
theorem n_ (he : PE X e te) (hs : swapsWith e none pos.line X.env = pure false := by rfl) : PS X (.Expr e pos) (jW te) := by
 intro pins s σ H D I h;exact wpAny_Expr_any (thn (he pins s σ H _ I h) fun v s1 ⟨x, H1, I1, r1, q1⟩ => ⟨σ, H1, I1, q1⟩) I.quiet hs
noncomputable def zH (te : TE) : TS := fun D σ H => te σ H D.rt
theorem vO (he : PE X e te) : PS X (.Return (some e) pos) (zH te) := by
 intro pins s σ H D I h;exact wpAny_Return_some (thn (he pins s σ H _ I h) fun v s1 ⟨x, H1, I1, r1, q1⟩ => ⟨x, σ, H1, I1, r1, q1⟩)
noncomputable def EI (c : TT) (t u : TS) : TS := fun D σ H => c σ H fun b H1 => if b = true then t D σ H1 else u D σ H1
theorem C0 {c : Expr} {a b : List Stmt} {tc : TT} (hc : PT X c tc) (ha : PSs X a t) (hb : PSs X b u) : PS X (.If c a b pos) (EI tc t u) := by
 intro pins s σ H D I h;refine wpAny_If (thn (hc pins s σ H _ I h) fun d s1 ⟨H1, I1, q1⟩ => ?_)
 cases d with
 | true => exact ha pins s1 σ H1 D I1 q1
 | false => exact hb pins s1 σ H1 D I1 q1
noncomputable def vJ : TS := fun _ _ _ => False
theorem uD : PS X st vJ := fun _ _ _ _ _ _ h => h.elim
end
noncomputable abbrev TG := V → St → Hp → (St → Hp → Prop) → Prop
noncomputable abbrev TGs := List V → St → Hp → (St → Hp → Prop) → Prop
noncomputable def PG (X : Cx) (target : Expr) (t : TG) : Prop :=
 ∀ (pins : List (Addr × Obj)) (s : Shared) (σ : St) (H : Hp) (v : V) (u : Value) (Q : St → Hp → Prop), Inv X pins σ H s → RelV v u → t v σ H Q →
  wpAny (model X.prog X.w) X.A (assign target X.env u) (fun _ s' => ∃ σ' H', Inv X pins σ' H' s' ∧ Q σ' H') X.xe s
noncomputable def PGs (X : Cx) (ts : List Expr) (t : TGs) : Prop :=
 ∀ (pins : List (Addr × Obj)) (s : Shared) (σ : St) (H : Hp) (vs : List V) (us : List Value) (Q : St → Hp → Prop), Inv X pins σ H s → Vals vs us → t vs σ H Q →
  wpAny (model X.prog X.w) X.A (assignInOrder ((assignEach ts X.env).map (·.2)) us) (fun _ s' => ∃ σ' H', Inv X pins σ' H' s' ∧ Q σ' H') X.xe s
noncomputable abbrev An := V → V → V → Hp → (Hp → Prop) → Prop
noncomputable def Es (X : Cx) (t : An) : Prop :=
 ∀ (pins : List (Addr × Obj)) (s : Shared) (σ : St) (H : Hp) (o i v : V) (ov iv u : Value) (Q : Hp → Prop), Inv X pins σ H s → RelV o ov → RelV i iv → RelV v u → t o i v H Q →
  wpAny (model X.prog X.w) X.A (setItem ov iv u) (fun _ s' => ∃ H', Inv X pins σ H' s' ∧ Q H') X.xe s
noncomputable abbrev TIp := V → V → Hp → VK → Prop
noncomputable def PIp (X : Cx) (op : Operator) (t : TIp) : Prop :=
 ∀ (pins : List (Addr × Obj)) (s : Shared) (σ : St) (H : Hp) (x y : V) (v u : Value) (Q : VK), Inv X pins σ H s → RelV x v → RelV y u → t x y H Q →
  wpAny (model X.prog X.w) X.A (inplaceOp op v u) (EP X pins σ Q) X.xe s
section
variable {X : Cx} {pos : Pos}
noncomputable def kl (i : Nat) : TG := fun v σ H Q => Q (σ.set i (some v)) H
theorem qM {i : Nat} {x : Str} (hN : X.N.Nodup) (hi : X.N[i]? = some x) (hx : Loc X.env.scope x) (hf : X.fn x = true ∨ X.env.scope.names.lookup x = some .local := by first | exact .inl rfl | exact .inr rfl | assumption) : PG X (.Name x pos) (kl i) := by
 intro pins s σ H v u Q I r h;exact wpAny_assign_Name (jH I hN hi hx r (fun s' I' => ⟨_, H, I', h⟩) hf)
noncomputable def CI : TGs := fun vs σ H Q => vs = [] ∧ Q σ H
noncomputable def yA (t : TG) (u : TGs) : TGs := fun vs σ H Q => ∃ v r, vs = v :: r ∧ t v σ H fun σ' H' => u r σ' H' Q
theorem xm : PGs X [] CI := by
 intro pins s σ H vs us Q I r h;obtain ⟨e, h⟩ := h;subst e;cases r;exact assignInOrder_nil ⟨σ, H, I, h⟩
theorem uN {e : Expr} {es : List Expr} {t : TG} {u : TGs} (h1 : PG X e t) (h2 : PGs X es u)
  (hs : (assignEach (e :: es) X.env).map (·.2) = assign e X.env :: (assignEach es X.env).map (·.2) := by rfl) : PGs X (e :: es) (yA t u) := by
 intro pins s σ H vs us Q I r h;obtain ⟨v, vr, e1, h⟩ := h;subst e1;cases r with
 | cons r rr =>
  rw [hs];refine assignInOrder_cons (thn (h1 pins s σ H _ _ _ I r h) fun _ s1 ⟨σ1, H1, I1, q1⟩ => ?_)
  exact h2 pins s1 σ1 H1 _ _ Q I1 rr q1
noncomputable def CO (K : PySem.W.Frag) (n : Nat) (t : TGs) : TG := fun v σ H Q => ∃ a xs, v = .ref a ∧ SqT K H a xs ∧ xs.length = n ∧ t xs σ H Q
theorem AI {es : List Expr} {k : Nat} {t : TGs} {n : Nat} (hc : X.calm = true) (h : PGs X es t)
  (hn : (assignEach es X.env).length = n := by rfl) (hst : (assignEach es X.env).findIdx? (·.1) = none := by rfl) : PG X (.Tuple es k pos) (CO X.K n t) := by
 intro pins s σ H v u Q I r hw;obtain ⟨a, xs, e1, hq, hl, hw⟩ := hw;subst e1;cases r;obtain ⟨its, rv, ht, hz⟩ := I.tuple hq;refine assign_Tuple_tuple (I.ok.hd hc) ht (by simp [hn, ← hl, rv.length]) hst fun h' hx => ?_
 have I1 : Inv X pins σ H { s with heap := h' } := I.kept (t' := s.toks) fun b o e => hx b o (Nat.ne_of_lt (Heap.lt_size e)) e
 exact h pins _ σ H xs _ Q I1 (by simpa using rv) hw
noncomputable def D5 (to ti : TE) (t : An) : TG := fun v σ H Q => to σ H fun o H1 => ti σ H1 fun i H2 => t o i v H2 fun H3 => Q σ H3
theorem zm {o i : Expr} {to ti : TE} {t : An} (ho : PE X o to) (hi : PE X i ti) (hs : Es X t)
  (ha : ∀ v, assign (.Subscript o i pos) X.env v = (do
   let ov ← holding [v] (eval o X.env)
   let iv ← holding [v, ov] (eval i X.env)
   standAt pos
   holding [v, ov, iv] (setItem ov iv v)
   release [v, ov, iv] []) := by intro _; rfl) : PG X (.Subscript o i pos) (D5 to ti t) := by
 intro pins s σ H v u Q I r h;rw [ha];refine wpAny_bind (wpAny_holding (thn (ho pins s σ H _ I h) fun ov s1 ⟨x, H1, I1, r1, q1⟩ => ?_))
 refine wpAny_bind (wpAny_holding (thn (hi pins s1 σ H1 _ I1 q1) fun iv s2 ⟨y, H2, I2, r2, q2⟩ => ?_))
 refine wpAny_bind (wpAny_standAt (wpAny_bind (wpAny_holding (thn (hs pins s2 σ H2 x y v ov iv u _ I2 r1 r2 r q2) fun _ s3 ⟨H3, I3, q3⟩ => ?_))))
 exact wpAny_release ⟨σ, H3, I3, q3⟩
noncomputable def sd (te : TE) (g : TG) : TS := fun D σ H => te σ H fun x H1 => g x σ H1 D.nx
theorem AD {tg e : Expr} {te : TE} {g : TG} (he : PE X e te) (hg : PG X tg g) (hs : swapsWithSole [tg] e pos.line X.env = pure false := by rfl) (hw : swappedStores [tg] e X.env = pure none := by rfl)
  (h1 : (assignEach [tg] X.env).map (·.2) = [assign tg X.env] := by rfl) : PS X (.Assign [tg] e pos) (sd te g) := by
 intro pins s σ H D I h;refine wpAny_Assign_stores (thn (he pins s σ H _ I h) fun v s1 ⟨x, H1, I1, r1, q1⟩ => ?_) hs hw
 rw [h1];exact thn (hg pins s1 σ H1 x v _ I1 r1 q1) fun _ s2 q => q
theorem AX {i : Nat} {x : Str} {e : Expr} {te : TE} {pos' : Pos} (hN : X.N.Nodup) (hi : X.N[i]? = some x) (hx : Loc X.env.scope x) (he : PE X e te) (hs : swapsWith e (some (.Name x pos')) pos.line X.env = pure false := by rfl) (hf : X.fn x = true ∨ X.env.scope.names.lookup x = some .local := by first | exact .inl rfl | exact .inr rfl | assumption) :
  PS X (.Assign [.Name x pos'] e pos) (sd te (kl i)) := by
 intro pins s σ H D I h;refine wpAny_Assign_Name (thn (he pins s σ H _ I h) fun v s1 ⟨y, H1, I1, r1, q1⟩ => ?_) hs
 exact jH I1 hN hi hx r1 (fun s2 I2 => ⟨_, H1, I2, q1⟩) hf
noncomputable def BV (i : Nat) (te : TE) (ti : TIp) : TS := fun D σ H => ∃ x, σ[i]? = some (some x) ∧ te σ H fun y H1 => ti x y H1 fun z H2 => D.nx (σ.set i (some z)) H2
theorem Ac {i : Nat} {x : Str} {e : Expr} {te : TE} {op : Operator} {ti : TIp} {pos' : Pos} (hN : X.N.Nodup) (hi : X.N[i]? = some x) (hx : Loc X.env.scope x) (he : PE X e te) (ho : PIp X op ti) (hf : X.fn x = true ∨ X.env.scope.names.lookup x = some .local := by first | exact .inl rfl | exact .inr rfl | assumption) :
  PS X (.AugAssign (.Name x pos') op e pos) (BV i te ti) := by
 intro pins s σ H D I h;obtain ⟨v, e1, h⟩ := h;obtain ⟨m, hn, hl⟩ := I.loc;have vis : Vis X.env.scope x := by rcases hx with k | k; exact .inl k; exact .inr (.inl k)
 obtain ⟨u, r, l⟩ := hl i x v hi e1 vis;refine wpAny_AugAssign_Name ?_;have go : wpAny (model X.prog X.w) X.A (eval e X.env) (fun w s₂ => wpAny (model X.prog X.w) X.A (inplaceOp op u w) (fun r s₃ => wpAny (model X.prog X.w) X.A (storeName X.env x r) (fun _ => SP X pins D .next) X.xe s₃) X.xe s₂) X.xe s := by
  refine thn (he pins s σ H _ I h) fun w s1 ⟨y, H1, I1, r1, q1⟩ => ?_
  refine thn (ho pins s1 σ H1 v y u w _ I1 r r1 q1) fun z s2 ⟨zv, H2, I2, r2, q2⟩ => ?_
  exact jH I2 hN hi hx r2 (fun s3 I3 => ⟨_, H2, I3, q2⟩) hf
 rcases l with ⟨hk, hm⟩ | ⟨hk, c, hc, hcell⟩
 ·exact wpAny_loadName_local I.ok.kind hk hn hm go
 ·rcases hk with hk | hk
  ·exact wpAny_loadName_cell I.ok.kind hk hc hcell go
  ·rcases hx with k | k
   ·have : X.env.scope.names.lookup x = some .free := hk
    rw [k] at this; cases this
   ·have : X.env.scope.names.lookup x = some .free := hk
    rw [k] at this; cases this
end
section
variable {X : Cx} {pos : Pos}
end
structure It where
 go : Nat → Hp → Prop
 yld : Nat → Hp → V → Hp → Prop
 stop : Nat → Hp → Prop
noncomputable def i7 (X : Cx) (pins : List (Addr × Obj)) (H : Hp) (b : Addr) : Prop :=
 H b = none ∧ b ≠ X.env.locals ∧ b ∉ X.fs ∧ (b ∈ X.ex ∨ X.s₀.heap.objs.size ≤ b) ∧ (∀ x c, X.env.cells.lookup x = some c → c ≠ b) ∧ ∀ p ∈ X.pn ++ pins, p.1 ≠ b
theorem Inv.fpOk {X : Cx} {pins : List (Addr × Obj)} {σ : St} {H H' : Hp} {s : Shared} {b : Addr} (I : Inv X pins σ H s) (hb : s.heap.objs.size ≤ b) (hn : H' b = none) : i7 X pins H' b := by
 refine ⟨hn, Nat.ne_of_gt (Nat.lt_of_lt_of_le I.lt hb), I.nofs hb, .inr (Nat.le_trans I.sz hb), fun x c e z => ?_, fun p hp z => ?_⟩
 ·obtain ⟨v, q⟩ := I.cell x c e
  exact absurd (Nat.lt_of_lt_of_le q.lt (by rw [z]; exact hb)) (Nat.lt_irrefl _)
 ·exact absurd (Nat.lt_of_lt_of_le (Heap.lt_size (I.pin p hp).1) (by rw [z]; exact hb)) (Nat.lt_irrefl _)
structure Turn (P : Program) (w : World) (K : PySem.W.Frag) (tg : Expr) (J : It) (fp : List Addr) (it : Addr) (tn : Nat → Heap → Prop) : Prop where
 mem : it ∈ fp
 obj : ∀ i h, tn i h → ∀ b ∈ fp, ∃ o, h.get? b = some o ∧ ∀ v, o.data ≠ .cell v
 keep : ∀ i h h', tn i h → (∀ b ∈ fp, ∀ o, h.get? b = some o → h'.get? b = some o) → tn i h'
 item : ∀ (X : Cx), X.prog = P → X.w = w → X.K = K → X.calm = true → ∀ (i : Nat) (pins : List (Addr × Obj)) (s : Shared) (σ : St) (H : Hp) (E : Value → Shared → Prop), Inv X pins σ H s → (∀ b ∈ fp, i7 X pins H b) → tn i s.heap → J.go i H →
  wpAny (model P w) X.A (pyNext (.ref it)) (fun r s1 => ∃ u, r = some u ∧
   wpAny (model P w) X.A (letOwnedTupleGo tg (.ref it) u) (fun _ s2 => ∃ x H', Inv X pins σ H' s2 ∧ RelV x u ∧ J.yld i H x H' ∧ tn (i + 1) s2.heap ∧ ∀ b ∈ fp, H' b = none) E s1) E s
 done : ∀ (X : Cx), X.prog = P → X.w = w → X.K = K → X.calm = true → ∀ (i : Nat) (pins : List (Addr × Obj)) (s : Shared) (σ : St) (H : Hp) (E : Value → Shared → Prop), Inv X pins σ H s → (∀ b ∈ fp, i7 X pins H b) → tn i s.heap → J.stop i H →
  wpAny (model P w) X.A (pyNext (.ref it)) (fun r s1 => r = none ∧ Inv X pins σ H s1) E s
 self : ∀ (A : Around) (i : Nat) (s : Shared) (Q : Value → Shared → Prop) (E : Value → Shared → Prop), tn i s.heap → Q (.ref it) s → wpAny (model P w) A (pyIter (.ref it)) Q E s
noncomputable abbrev TI := St → Hp → (It → Hp → Prop) → Prop
noncomputable def PIE (X : Cx) (pins : List (Addr × Obj)) (σ : St) (tg : Expr) (R : It → Hp → Prop) (itv : Value) (s2 : Shared) : Prop :=
 ∃ (it : Addr) (fp : List Addr) (tn : Nat → Heap → Prop) (J : It) (H' : Hp), itv = .ref it ∧ Inv X pins σ H' s2 ∧ Turn X.prog X.w X.K tg J fp it tn ∧ tn 0 s2.heap ∧ (∀ b ∈ fp, i7 X pins H' b) ∧ R J H'
noncomputable def PI (X : Cx) (tg iter : Expr) (wi : TI) : Prop :=
 ∀ (pins : List (Addr × Obj)) (s : Shared) (σ : St) (H : Hp) (R : It → Hp → Prop), Inv X pins σ H s → wi σ H R →
  wpAny (model X.prog X.w) X.A (eval iter X.env) (fun v s1 => wpAny (model X.prog X.w) X.A (pyIter v) (PIE X pins σ tg R) X.xe s1) X.xe s
theorem tx {M : Model} {A : Around} {E : Value → Shared → Prop} {s : Shared} {tg : Expr} {it : Addr} {u : Value} {o : Obj} {n : String} {vs : Array Value} {Q : Unit → Shared → Prop} (ho : s.heap.get? it = some o) (hc : o.cls = .type n) (hd : o.data = .fields vs)
    (hn : ["enumerate", "zip", "dict_itemiterator", "dict_reverseitemiterator", "odict_iterator", "itertools.zip_longest", "itertools.pairwise"].contains n = false) (hQ : Q () s) : wpAny M A (letOwnedTupleGo tg (.ref it) u) Q E s := by
  unfold letOwnedTupleGo;cases tg <;> first
    | exact wpAny_pure hQ
    | (cases u <;> first
        | exact wpAny_pure hQ
        | (refine wpAny_bind (wpAny_load ho ?_)
           rw [hc, hd];show wpAny M A (if (["enumerate", "zip", "dict_itemiterator", "dict_reverseitemiterator", "odict_iterator", "itertools.zip_longest", "itertools.pairwise"].contains n && vs[0]? == some (rawInt _)) = true then _ else _) Q E s
           rw [if_neg (by intro h; rw [hn, Bool.false_and] at h; cases h)]
           exact wpAny_pure hQ))
noncomputable def Itl (K : PySem.W.Frag) (a : Addr) : It :=
 ⟨fun i H => ∃ xs x, SqL K H a xs ∧ xs[i]? = some x, fun i H x H' => H' = H ∧ ∀ xs, SqL K H a xs → xs[i]? = some x, fun i H => ∃ xs, SqL K H a xs ∧ xs.length ≤ i⟩
noncomputable def Itr (lo : Int) (n : Nat) : It := ⟨fun i _ => i < n, fun i H x H' => H' = H ∧ x = .int (lo + i), fun i _ => n ≤ i⟩
theorem rZ {P : Program} {w : World} {K : PySem.W.Frag} {tg : Expr} (a it : Addr) : Turn P w K tg (Itl K a) [it] it (fun i h => h.IsListIter it a i) where
 mem := by simp
 obj := fun i h st b hb => by
  have e : b = it := by simpa using hb
  subst e;obtain ⟨o, e, c, d⟩ := st;exact ⟨o, e, fun v z => by rw [d] at z; cases z⟩
 keep := fun i h h' st k => st.at fun o e => k it (by simp) o e
 item := by
  intro X hP hw hK hc i pins s σ H E I hf st hg;subst hP hw hK;obtain ⟨xs, x, hq, hx⟩ := hg;obtain ⟨its, rv, p, hz⟩ := I.list hq;obtain ⟨u, hu, ru⟩ := rv.get hx;obtain ⟨f0, f1, f2, f3, f4, f5⟩ := hf it (by simp)
  refine wpAny_pyNext_list_item st p.isList (x := u) (by simpa using hu) fun h' st' sb => ?_
  have I1 : Inv X pins σ H { s with heap := h' } := I.turned (t' := s.toks) (fun b o hb e => (sb.2 b hb).trans e) f0 f1 f3 f4 f5
  obtain ⟨o, e, c, d⟩ := id st';exact ⟨u, rfl, tx (s := { s with heap := h' }) e c d (by decide) ⟨x, H, I1, ru, ⟨rfl, fun ys hy => by rw [I.list_inj hy hq]; exact hx⟩, st', fun b hb => (hf b hb).1⟩⟩
 done := by
  intro X hP hw hK hc i pins s σ H E I hf st hg;subst hP hw hK;obtain ⟨xs, hq, hx⟩ := hg;obtain ⟨its, rv, p, hz⟩ := I.list hq;obtain ⟨f0, f1, f2, f3, f4, f5⟩ := hf it (by simp)
  have hl := rv.length;exact wpAny_pyNext_list_end (I.ok.hd hc) st p.isList (by simp; lia) fun h' eb => ⟨rfl, I.turned (t' := s.toks) (fun b o hb e => eb b o hb e) f0 f1 f3 f4 f5⟩
 self := fun _ _ _ _ _ st h => wpAny_pyIter_listiter st h
theorem p7 {P : Program} {w : World} {K : PySem.W.Frag} {tg : Expr} (it : Addr) (lo : Int) (n : Nat) : Turn P w K tg (Itr lo n) [it] it (fun i h => IsRangeIter h it (lo + (i : Nat) * 1) ((n : Int) - (i : Nat)) 1) where
 mem := by simp
 obj := fun i h st b hb => by
  have e : b = it := by simpa using hb
  subst e;exact ⟨_, st, fun v z => by
   have z' : Data.fields _ = Data.cell v := z;cases z'⟩
 keep := fun i h h' st k => k it (by simp) _ st
 item := by
  intro X hP hw hK hc i pins s σ H E I hf st hg;subst hP hw hK;obtain ⟨f0, f1, f2, f3, f4, f5⟩ := hf it (by simp)
  have W := Walks.range (prog := X.prog) (w := X.w) (I.ok.hd hc) it lo 1 n;refine W.item i s _ _ hg st fun v h' tk hv st' kk => ?_
  obtain ⟨t, rfl⟩ := hv;have I1 : Inv X pins σ H { s with heap := h', toks := tk } := I.turned (fun b o hb e => kk b o (by simpa using hb) e) f0 f1 f3 f4 f5
  refine ⟨_, rfl, tx (s := { s with heap := h', toks := tk }) (n := "range_iterator") st' rfl rfl (by decide) ⟨.int (lo + i), H, I1, ⟨t, ?_⟩, ⟨rfl, rfl⟩, st', fun b hb => (hf b hb).1⟩⟩
  rw [Int.mul_one]
 done := by
  intro X hP hw hK hc i pins s σ H E I hf st hg;subst hP hw hK;obtain ⟨f0, f1, f2, f3, f4, f5⟩ := hf it (by simp)
  exact wpAny_pyNext_range_end (I.ok.hd hc) st (by have : n ≤ i := hg; lia) fun h' eb => ⟨rfl, I.turned (t' := s.toks) (fun b o hb e => eb b o hb e) f0 f1 f3 f4 f5⟩
 self := fun _ _ _ _ _ st h => wpAny_pyIter_rangeiter st h
end L2
namespace L2
open PySem PySem.Spec PyProof.Rows
section
variable {X : Cx} {tg : Expr}
noncomputable def pP (K : PySem.W.Frag) (tl : TE) : TI := fun σ H R => tl σ H fun x H1 => ∃ a, x = .ref a ∧ (∃ xs, SqL K H1 a xs) ∧ R (Itl K a) H1
theorem rM {l : Expr} {tl : TE} (hl : PE X l tl) : PI X tg l (pP X.K tl) := by
 intro pins s σ H R I h;refine thn (hl pins s σ H _ I h) fun v s1 ⟨x, H1, I1, r1, q1⟩ => ?_
 obtain ⟨a, e, ⟨xs, hq⟩, q⟩ := q1;subst e;cases r1;obtain ⟨its, rv, p, hz⟩ := I1.list hq;refine wpAny_pyIter_list p.isList ?_;refine ⟨s1.heap.objs.size, [s1.heap.objs.size], _, _, H1, rfl, I1.kept (t' := s1.toks) fun b o e => Heap.get?_push_of_some _ e, rZ a _, ⟨_, Heap.get?_push_size _ rfl, rfl, rfl⟩, fun b hb => ?_, q⟩
 have e : b = s1.heap.objs.size := by simpa using hb
 subst e;exact I1.fpOk (Nat.le_refl _) (I1.hok.fresh (Nat.le_refl _))
theorem pR {pins : List (Addr × Obj)} {σ : St} {H : Hp} {s : Shared} {R : It → Hp → Prop} {E : Value → Shared → Prop} {lo hi : Int} {t u v : Tok} {tk : Nat} (I : Inv X pins σ H s) (h1 : -(2 ^ 62) ≤ lo) (h2 : lo < 2 ^ 62) (h3 : -(2 ^ 62) ≤ hi) (h4 : hi < 2 ^ 62)
  (q : R (Itr lo (hi - lo).toNat) H) : wpAny (model X.prog X.w) X.A (pyIter (.ref s.heap.objs.size)) (PIE X pins σ tg R) E { s with heap := s.heap.push { cls := .type "range", data := .fields #[.int lo t, .int hi u, .int 1 v] }, toks := tk } := by
 refine wpAny_pyIter_range (IsRange.new ..) (small_one h1 h2 h3 h4) ?_;have I1 : Inv X pins σ H { s with heap := s.heap.push { cls := .type "range", data := .fields #[.int lo t, .int hi u, .int 1 v] }, toks := tk } := I.kept fun b o e => Heap.get?_push_of_some _ e
 refine ⟨(s.heap.push { cls := .type "range", data := .fields #[.int lo t, .int hi u, .int 1 v] }).objs.size, [(s.heap.push { cls := .type "range", data := .fields #[.int lo t, .int hi u, .int 1 v] }).objs.size], _, _, H, rfl,
  I1.kept (t' := tk) fun b o e => Heap.get?_push_of_some _ e, p7 _ lo (hi - lo).toNat, ?_, fun b hb => ?_, q⟩
 ·have e1 : lo + ((0 : Nat) : Int) * 1 = lo := by simp
  have e2 : (((hi - lo).toNat : Nat) : Int) - ((0 : Nat) : Int) = Builtin.Range.rangeSize lo hi 1 := by rw [rangeSize_one]; split <;> lia
  show IsRangeIter _ _ (lo + ((0 : Nat) : Int) * 1) ((((hi - lo).toNat : Nat) : Int) - ((0 : Nat) : Int)) 1
  rw [e1, e2];exact Heap.get?_push_size _ rfl
 ·have e : b = (s.heap.push { cls := .type "range", data := .fields #[.int lo t, .int hi u, .int 1 v] }).objs.size := by simpa using hb
  subst e;exact I1.fpOk (Nat.le_refl _) (I1.hok.fresh (Nat.le_refl _))
noncomputable def yB (ta : TA) : TI := fun σ H R => ta σ H fun vs H1 => ∃ j : Int, vs = [.int j] ∧ -(2 ^ 62) ≤ j ∧ j < 2 ^ 62 ∧ R (Itr 0 j.toNat) H1
noncomputable def xY (ta : TA) : TI := fun σ H R => ta σ H fun vs H1 => ∃ i j : Int, vs = [.int i, .int j] ∧ (-(2 ^ 62) ≤ i ∧ i < 2 ^ 62 ∧ -(2 ^ 62) ≤ j ∧ j < 2 ^ 62) ∧ R (Itr i (j - i).toNat) H1
theorem rT {a : Expr} {ta : TA} {p pos : Pos} (hg : Gl X "range") (hm : X.mg "range" = none) (ha : PA X [a] ta) (hs : starEach [a] X.env = [(false, eval a X.env)] := by rfl) : PI X tg (.Call (.Name "range" p) [a] [] pos) (yB ta) := by
 intro pins s σ H R I h;refine Call_ (iI I hg hm boot_range (PyProof.Rows.callWith_type1 (thn (ha pos pins s σ H _ I h) fun us s1 ⟨vs, H1, I1, r1, q1⟩ => ?_) hs rfl))
 obtain ⟨j, e, q1, q2, q⟩ := q1;subst e;cases r1 with
 | cons r rr =>
  cases rr;obtain ⟨t, rfl⟩ := r;exact call_range_1 (pR I1 (by lia) (by lia) q1 q2 (by simpa using q))
theorem rV {a b : Expr} {ta : TA} {p pos : Pos} (hg : Gl X "range") (hm : X.mg "range" = none) (ha : PA X [a, b] ta) (hs : starEach [a, b] X.env = [(false, eval a X.env), (false, eval b X.env)] := by rfl) (hs2 : starEach [b] X.env = [(false, eval b X.env)] := by rfl) :
  PI X tg (.Call (.Name "range" p) [a, b] [] pos) (xY ta) := by
 intro pins s σ H R I h;refine Call_ (iI I hg hm boot_range (PyProof.Rows.callWith_type1 (thn (ha pos pins s σ H _ I h) fun us s1 ⟨vs, H1, I1, r1, q1⟩ => ?_) (by rw [hs, hs2]) (by rw [hs2]; rfl)))
 obtain ⟨i, j, e, ⟨q1, q2, q3, q4⟩, q⟩ := q1;subst e;cases r1 with
 | cons r rr =>
  cases rr with
  | cons r' rr =>
   cases rr;obtain ⟨t, rfl⟩ := r;obtain ⟨t', rfl⟩ := r';exact call_range_2 (pR I1 q1 q2 q3 q4 q)
noncomputable def BY (wi : TI) (g : TG) (tb : TS) : TS := fun D σ H => wi σ H fun J H1 => ∃ W : Nat → Nat → St → Hp → Prop, (∃ m, W 0 m σ H1) ∧ ∀ i m σ H, W i m σ H →
 (J.stop i H ∧ D.nx σ H) ∨ (J.go i H ∧ ∃ N : St → Hp → Prop, (∀ σ' H', N σ' H' → ∃ m', m' < m ∧ W (i + 1) m' σ' H') ∧ ∀ x H', J.yld i H x H' → g x σ H' fun σ2 H2 => tb { D with nx := N, ct := N, bk := D.nx } σ2 H2)
noncomputable def kd (fp : List Addr) (h : Heap) : List (Addr × Obj) := fp.filterMap fun b => (h.get? b).map fun o => (b, o)
theorem e8 {fp : List Addr} {h : Heap} {b : Addr} {o : Obj} (hb : b ∈ fp) (e : h.get? b = some o) : (b, o) ∈ kd fp h := List.mem_filterMap.mpr ⟨b, hb, by rw [e]; rfl⟩
theorem r6 {fp : List Addr} {h : Heap} {p : Addr × Obj} (hp : p ∈ kd fp h) : p.1 ∈ fp ∧ h.get? p.1 = some p.2 := by
 obtain ⟨b, hb, e⟩ := List.mem_filterMap.mp hp;cases q : h.get? b with
 | none => rw [q] at e; cases e
 | some o =>
  rw [q] at e;have e' : (b, o) = p := Option.some.inj e;subst e';exact ⟨hb, q⟩
theorem Inv.pinned {pins : List (Addr × Obj)} {σ : St} {H : Hp} {s : Shared} {fp : List Addr} (I : Inv X pins σ H s) (hf : ∀ b ∈ fp, i7 X pins H b) (ho : ∀ b ∈ fp, ∃ o, s.heap.get? b = some o ∧ ∀ v, o.data ≠ .cell v) : Inv X (pins ++ kd fp s.heap) σ H s :=
 I.pins_of fun p hp => (List.mem_append.mp hp).elim (fun z => I.pin p (List.mem_append_right _ z)) fun z => by
  obtain ⟨hb, e⟩ := r6 z;obtain ⟨f0, f1, f2, _⟩ := hf p.1 hb;obtain ⟨o, e', d⟩ := ho p.1 hb;rw [e] at e'; cases e';exact ⟨e, f0, f1, f2, d⟩
theorem Inv.unpinned {pins pl : List (Addr × Obj)} {σ : St} {H : Hp} {s : Shared} (I : Inv X (pins ++ pl) σ H s) : Inv X pins σ H s := I.pins_of fun p hp => I.pin p (List.mem_append_right _ (List.mem_append_left _ hp))
theorem zh {iter : Expr} {body : List Stmt} {wi : TI} {g : TG} {tb : TS} {pos : Pos} (hp : PassesOwn (model X.prog X.w) X.A X.env X.xe) (hc : X.calm = true) (hi : PI X tg iter wi) (hg : PG X tg g) (hb : PSs X body tb)
  (hs : ∀ x, foldedSetIterable iter X.env x = pure x := by intro _; rfl) : PS X (.For tg iter body [] pos) (BY wi g tb) := by
 intro pins s σ H D I h;refine wpAny_For (thn (hi pins s σ H _ I h) fun v s1 h1 => thn h1 fun itv s2 h2 => ?_) hs
 obtain ⟨it, fp, tn, J, H2, e, I2, T, st2, f2, W, ⟨m0, w0⟩, turn⟩ := h2;subst e;have stat : ∀ {H' : Hp}, (∀ b ∈ fp, H' b = none) → ∀ b ∈ fp, i7 X pins H' b := fun hn b hb => ⟨hn b hb, (f2 b hb).2⟩
 refine codeAny_forLoop_any (fun n s' => ∃ i σ' H', Inv X pins σ' H' s' ∧ tn i s'.heap ∧ (∀ b ∈ fp, H' b = none) ∧ W i n σ' H') ?_ m0 ⟨0, σ, H2, I2, st2, fun b hb => (f2 b hb).1, w0⟩
 rintro n s3 ⟨i, σ3, H3, I3, st3, fr3, w3⟩;rcases turn i n σ3 H3 w3 with ⟨stop, qn⟩ | ⟨go, N, hN, step⟩
 ·refine wpAny_passesOwn hp (thn (T.done X rfl rfl rfl hc i pins s3 σ3 H3 X.xe I3 (stat fr3) st3 stop) fun r s4 ⟨hr, I4⟩ => ?_)
  subst hr;exact wpAny_execs_nil ⟨σ3, H3, I4, qn⟩
 ·refine wpAny_passesOwn hp (thn (T.item X rfl rfl rfl hc i pins s3 σ3 H3 X.xe I3 (stat fr3) st3 go) fun r s4 ⟨u, hr, h4⟩ => ?_)
  subst hr;refine wpAny_passesOwn hp (thn h4 fun _ s5 ⟨x, H5, I5, r5, y5, st5, fr5⟩ => ?_)
  have I5' := I5.pinned (stat fr5) (T.obj _ _ st5);refine wpAny_passesOwn hp (thn (hg _ s5 σ3 H5 x u _ I5' r5 (step x H5 y5)) fun _ s6 ⟨σ6, H6, I6, q6⟩ => ?_)
  refine wpAny_passesOwn hp (thn (hb _ s6 σ6 H6 _ I6 q6) fun f s7 q7 => ?_)
  have again : ∀ {σ7 : St} {H7 : Hp}, Inv X (pins ++ kd fp s5.heap) σ7 H7 s7 → N σ7 H7 → ∃ m, m < n ∧ ∃ i σ' H', Inv X pins σ' H' s7 ∧ tn i s7.heap ∧ (∀ b ∈ fp, H' b = none) ∧ W i m σ' H' := fun {σ7 H7} I7 n7 => by
   obtain ⟨m', hm, w7⟩ := hN σ7 H7 n7;refine ⟨m', hm, i + 1, σ7, H7, I7.unpinned, T.keep _ _ _ st5 fun b hb o e => (I7.pin (b, o) (List.mem_append_right _ (List.mem_append_right _ (e8 hb e)))).1, fun b hb => ?_, w7⟩
   obtain ⟨o, e, d⟩ := T.obj _ _ st5 b hb;exact (I7.pin (b, o) (List.mem_append_right _ (List.mem_append_right _ (e8 hb e)))).2.1
  cases f with
  | next => obtain ⟨σ7, H7, I7, n7⟩ := q7; exact again I7 n7
  | cont => obtain ⟨σ7, H7, I7, n7⟩ := q7; exact again I7 n7
  | brk => obtain ⟨σ7, H7, I7, q7⟩ := q7; exact ⟨σ7, H7, I7.unpinned, q7⟩
  | ret v => obtain ⟨x7, σ7, H7, I7, r7, q7⟩ := q7; exact ⟨x7, σ7, H7, I7.unpinned, r7, q7⟩
end
end L2
namespace L2
open PySem PySem.Spec PyProof.Rows
noncomputable abbrev R2 := V → V → Hp → VK → Prop
noncomputable def OpR (X : Cx) (f : Value → Value → Sem Value) (r : R2) : Prop :=
 ∀ (pins : List (Addr × Obj)) (s : Shared) (σ : St) (H : Hp) (x y : V) (v u : Value) (Q : VK), Inv X pins σ H s → RelV x v → RelV y u → r x y H Q →
  wpAny (model X.prog X.w) X.A (f v u) (EP X pins σ Q) X.xe s
noncomputable def UnR (X : Cx) (f : Value → Sem Value) (r : V → Hp → VK → Prop) : Prop :=
 ∀ (pins : List (Addr × Obj)) (s : Shared) (σ : St) (H : Hp) (x : V) (v : Value) (Q : VK), Inv X pins σ H s → RelV x v → r x H Q →
  wpAny (model X.prog X.w) X.A (f v) (EP X pins σ Q) X.xe s
noncomputable def eh (X : Cx) (f : Value) (r : List V → Hp → VK → Prop) : Prop :=
 ∀ (pins : List (Addr × Obj)) (s : Shared) (σ : St) (H : Hp) (xs : List V) (us : List Value) (Q : VK), Inv X pins σ H s → Vals xs us → r xs H Q →
  wpAny (model X.prog X.w) X.A (call f us) (EP X pins σ Q) X.xe s
noncomputable def tOp (r : R2) (ta tb : TE) : TE := fun σ H Q => ta σ H fun x H1 => tb σ H1 fun y H2 => r x y H2 Q
noncomputable def tUn (r : V → Hp → VK → Prop) (ta : TE) : TE := fun σ H Q => ta σ H fun x H1 => r x H1 Q
noncomputable def rI (C : Int → Int → Prop) (g : Int → Int → V) : R2 := fun x y H Q => ∃ i j, x = .int i ∧ y = .int j ∧ C i j ∧ Q (g i j) H
noncomputable def rI0 (g : Int → Int → V) : R2 := fun x y H Q => ∃ i j, x = .int i ∧ y = .int j ∧ Q (g i j) H
noncomputable def rU (g : Int → V) : V → Hp → VK → Prop := fun x H Q => ∃ i, x = .int i ∧ Q (g i) H
section
variable {X : Cx} {a b c : Expr} {ta tb tc : TE} {pos : Pos}
theorem A_ (ha : PE X a ta) (hb : PE X b tb) {pins : List (Addr × Obj)} {s : Shared} {σ : St} {H : Hp} {R : V → V → Hp → Prop} (I : Inv X pins σ H s)
  (h : ta σ H fun x H1 => tb σ H1 fun y H2 => R x y H2) {Q : Value → Shared → Prop} {f : Value → Value → Sem Value}
  (hf : ∀ v u s2 x y H2, Inv X pins σ H2 s2 → RelV x v → RelV y u → R x y H2 → wpAny (model X.prog X.w) X.A (f v u) Q X.xe s2) :
  wpAny (model X.prog X.w) X.A (eval a X.env) (fun v s₁ => wpAny (model X.prog X.w) X.A (eval b X.env) (fun u s₂ => wpAny (model X.prog X.w) X.A (f v u) Q X.xe s₂) X.xe s₁) X.xe s := by
 refine thn (ha pins s σ H _ I h) fun v s1 ⟨x, H1, I1, r1, q1⟩ => ?_
 refine thn (hb pins s1 σ H1 _ I1 q1) fun u s2 ⟨y, H2, I2, r2, q2⟩ => ?_
 exact hf v u s2 x y H2 I2 r1 r2 q2
theorem BJ {op : Operator} {r : R2} (ho : OpR X (binaryOp op) r) (ha : PE X a ta) (hb : PE X b tb) : PE X (.BinOp a op b pos) (tOp r ta tb) := by
 intro pins s σ H Q I h;exact wpAny_BinOp (A_ ha hb I h fun v u s2 x y H2 I2 rx ry q => ho pins s2 σ H2 x y v u Q I2 rx ry q)
theorem De {op : UnaryOp} {r : V → Hp → VK → Prop} (ho : UnR X (unaryOp op) r) (ha : PE X a ta) : PE X (.UnaryOp op a pos) (tUn r ta) := by
 intro pins s σ H Q I h;exact UnaryOp_ (thn (ha pins s σ H _ I h) fun v s1 ⟨x, H1, I1, r1, q1⟩ => ho pins s1 σ H1 x v Q I1 r1 q1)
theorem opI {f : Value → Value → Sem Value} {C : Int → Int → Prop} {g : Int → Int → Int}
  (rule : ∀ (i j : Int) (t u : Tok) (s : Shared) (Q : Value → Shared → Prop) (E : Value → Shared → Prop), C i j → Q (.int (g i j) s.toks) { s with toks := s.toks + 1 } → wpAny (model X.prog X.w) X.A (f (.int i t) (.int j u)) Q E s) :
  OpR X f (rI C fun i j => .int (g i j)) := by
 intro pins s σ H x y v u Q I rx ry h;obtain ⟨i, j, rfl, rfl, hc, q⟩ := h;obtain ⟨t, rfl⟩ := rx;obtain ⟨t', rfl⟩ := ry;exact rule i j t t' s _ _ hc ⟨.int (g i j), H, I.tok _, ⟨_, rfl⟩, q⟩
theorem CP {f : Value → Value → Sem Value} {g : Int → Int → Int}
  (rule : ∀ (i j : Int) (t u : Tok) (s : Shared) (Q : Value → Shared → Prop) (E : Value → Shared → Prop), Q (.int (g i j) s.toks) { s with toks := s.toks + 1 } → wpAny (model X.prog X.w) X.A (f (.int i t) (.int j u)) Q E s) :
  OpR X f (rI0 fun i j => .int (g i j)) := by
 intro pins s σ H x y v u Q I rx ry h;obtain ⟨i, j, rfl, rfl, q⟩ := h;obtain ⟨t, rfl⟩ := rx;obtain ⟨t', rfl⟩ := ry;exact rule i j t t' s _ _ ⟨.int (g i j), H, I.tok _, ⟨_, rfl⟩, q⟩
theorem Be {f : Value → Value → Sem Value} {g : Int → Int → Bool}
  (rule : ∀ (i j : Int) (t u : Tok) (s : Shared) (Q : Value → Shared → Prop) (E : Value → Shared → Prop), Q (.bool (g i j)) s → wpAny (model X.prog X.w) X.A (f (.int i t) (.int j u)) Q E s) :
  OpR X f (rI0 fun i j => .bl (g i j)) := by
 intro pins s σ H x y v u Q I rx ry h;obtain ⟨i, j, rfl, rfl, q⟩ := h;obtain ⟨t, rfl⟩ := rx;obtain ⟨t', rfl⟩ := ry;exact rule i j t t' s _ _ ⟨.bl (g i j), H, I, rfl, q⟩
noncomputable def Ci (i j : Int) : Prop := 0 < j ∧ j < 1073741824
noncomputable def ui (i j : Int) : Prop := (-(2 ^ 64) < i ∧ i < 2 ^ 64) ∨ (-(2 ^ 64) < j ∧ j < 2 ^ 64)
theorem ui.ok {i j : Int} (h : ui i j) : IntMulOk i j := by
 rcases h with ⟨h1, h2⟩ | ⟨h1, h2⟩
 ·exact .of_left (intBits_le_64 h1 h2)
 ·exact .of_right (intBits_le_64 h1 h2)
theorem Bi : OpR X (binaryOp .Add) (rI0 fun i j => .int (i + j)) := CP fun _ _ _ _ _ _ _ q => add_int q
theorem iu : OpR X (binaryOp .Sub) (rI0 fun i j => .int (i - j)) := CP fun _ _ _ _ _ _ _ q => sub_int q
theorem zt : OpR X (binaryOp .Mult) (rI ui fun i j => .int (i * j)) := opI fun _ _ _ _ _ _ _ hc q => mul_int q hc.ok
theorem cI : OpR X (binaryOp .FloorDiv) (rI Ci fun i j => .int (i / j)) := opI fun i j _ _ _ _ _ hc q => by
 have h1 : (0 : Int) < j := hc.1;have h2 : j < 1073741824 := hc.2;exact floordiv_int (by lia) (by rw [Int.fdiv_eq_ediv_of_nonneg i (by lia)]; exact q) (.inl (PyProof.noPylong_small (by lia)))
theorem dq : OpR X (binaryOp .Mod) (rI (fun _ j => 0 < j) fun i j => .int (i % j)) := opI fun i j _ _ _ _ _ hc q => by
 have h1 : (0 : Int) < j := hc;exact mod_int' (by lia) (by rw [Int.fmod_eq_emod_of_nonneg i (by lia)]; exact q)
theorem unI {f : Value → Sem Value} {g : Int → Int}
  (rule : ∀ (i : Int) (t : Tok) (s : Shared) (Q : Value → Shared → Prop) (E : Value → Shared → Prop), Q (.int (g i) s.toks) { s with toks := s.toks + 1 } → wpAny (model X.prog X.w) X.A (f (.int i t)) Q E s) :
  UnR X f (rU fun i => .int (g i)) := by
 intro pins s σ H x v Q I rx h;obtain ⟨i, rfl, q⟩ := h;obtain ⟨t, rfl⟩ := rx;exact rule i t s _ _ ⟨.int (g i), H, I.tok _, ⟨_, rfl⟩, q⟩
theorem e7 : UnR X (unaryOp .USub) (rU fun i => .int (-i)) := unI fun _ _ _ _ _ q => neg_int q
end
noncomputable def zN : V → V → Bool
 | .non, .non => true | .non, .int _ => true | .int _, .non => true | .non, .bl _ => true | .bl _, .non => true | .non, .str _ => true | .str _, .non => true
 | .int _, .int _ => true | .bl _, .bl _ => true | .str _, .str _ => true | .byt _, .byt _ => true
 | .int _, .str _ => true | .str _, .int _ => true | .bl _, .str _ => true | .str _, .bl _ => true
 | _, _ => false
noncomputable def rEq : R2 := fun x y H Q => zN x y = true ∧ Q (.bl (decide (x = y))) H
noncomputable def rNe : R2 := fun x y H Q => zN x y = true ∧ Q (.bl (!decide (x = y))) H
theorem qR {i j : Int} : decide (V.int i = V.int j) = (i == j) := by
 rw [Bool.eq_iff_iff];simp
theorem ub {i j : Bool} : decide (V.bl i = V.bl j) = (i == j) := by
 rw [Bool.eq_iff_iff];simp
theorem qE {i j : Str} : decide (V.str i = V.str j) = (i == j) := by
 rw [Bool.eq_iff_iff];simp
theorem rC {i j : Array UInt8} : decide (V.byt i = V.byt j) = (i.toList == j.toList) := by
 rw [Bool.eq_iff_iff];cases i;cases j;simp
section
variable {X : Cx} {a b c : Expr} {ta tb tc : TE} {pos : Pos}
theorem bp {pins : List (Addr × Obj)} {σ : St} {H : Hp} {s : Shared} {Q : VK} {k k' : Bool} (I : Inv X pins σ H s) (q : Q (.bl k) H) (e : k = k') : EP X pins σ Q (.bool k') s := by
 subst e;exact ⟨.bl k, H, I, rfl, q⟩
theorem D9 : OpR X (compareOp .Eq) rEq := by
 intro pins s σ H x y v u Q I rx ry h;obtain ⟨hs, q⟩ := h;cases x with
 | non =>
  cases rx;cases y with
  | non => cases ry; exact PySem.EqNone.eq_none_none (bp I q (by simp))
  | bl j => cases ry; exact PySem.EqNone.eq_none_bool (bp I q (by simp))
  | int j => obtain ⟨t', rfl⟩ := ry; exact PySem.EqNone.eq_none_int (bp I q (by simp))
  | str j => obtain ⟨t', rfl⟩ := ry; exact PySem.EqNone.eq_none_str (bp I q (by simp))
  | _ => exact absurd (show false = true from hs) Bool.false_ne_true
 | bl i =>
  cases rx;cases y with
  | non => cases ry; exact PySem.EqNone.eq_bool_none (bp I q (by simp))
  | bl j => cases ry; exact eq_bool (bp I q ub)
  | str j => obtain ⟨t', rfl⟩ := ry; exact PySem.EqMixed.eq_bool_str (bp I q (by simp))
  | _ => exact absurd (show false = true from hs) Bool.false_ne_true
 | int i =>
  obtain ⟨t, rfl⟩ := rx;cases y with
  | non => cases ry; exact PySem.EqNone.eq_int_none (bp I q (by simp))
  | int j => obtain ⟨t', rfl⟩ := ry; exact eq_int (bp I q qR)
  | str j => obtain ⟨t', rfl⟩ := ry; exact PySem.EqMixed.eq_int_str (bp I q (by simp))
  | _ => exact absurd (show false = true from hs) Bool.false_ne_true
 | str i =>
  obtain ⟨t, rfl⟩ := rx;cases y with
  | non => cases ry; exact PySem.EqNone.eq_str_none (bp I q (by simp))
  | bl j => cases ry; exact PySem.EqMixed.eq_str_bool (bp I q (by simp))
  | int j => obtain ⟨t', rfl⟩ := ry; exact PySem.EqMixed.eq_str_int (bp I q (by simp))
  | str j => obtain ⟨t', rfl⟩ := ry; exact eq_str (bp I q qE)
  | _ => exact absurd (show false = true from hs) Bool.false_ne_true
 | byt i =>
  obtain ⟨t, rfl⟩ := rx;cases y with
  | byt j => obtain ⟨t', rfl⟩ := ry; exact PySem.W.eq_bytes (bp I q rC)
  | _ => exact absurd (show false = true from hs) Bool.false_ne_true
 | _ => cases y <;> exact absurd (show false = true from hs) Bool.false_ne_true
theorem EF : OpR X (compareOp .NotEq) rNe := by
 intro pins s σ H x y v u Q I rx ry h;obtain ⟨hs, q⟩ := h;cases x with
 | non =>
  cases rx;cases y with
  | non => cases ry; exact PySem.EqNone.ne_none_none (bp I q (by simp))
  | bl j => cases ry; exact PySem.EqNone.ne_none_bool (bp I q (by simp))
  | int j => obtain ⟨t', rfl⟩ := ry; exact PySem.EqNone.ne_none_int (bp I q (by simp))
  | str j => obtain ⟨t', rfl⟩ := ry; exact PySem.EqNone.ne_none_str (bp I q (by simp))
  | _ => exact absurd (show false = true from hs) Bool.false_ne_true
 | bl i =>
  cases rx;cases y with
  | non => cases ry; exact PySem.EqNone.ne_bool_none (bp I q (by simp))
  | bl j => cases ry; exact ne_bool (bp I q (congrArg not ub))
  | str j => obtain ⟨t', rfl⟩ := ry; exact PySem.EqMixed.ne_bool_str (bp I q (by simp))
  | _ => exact absurd (show false = true from hs) Bool.false_ne_true
 | int i =>
  obtain ⟨t, rfl⟩ := rx;cases y with
  | non => cases ry; exact PySem.EqNone.ne_int_none (bp I q (by simp))
  | int j => obtain ⟨t', rfl⟩ := ry; exact ne_int (bp I q (congrArg not qR))
  | str j => obtain ⟨t', rfl⟩ := ry; exact PySem.EqMixed.ne_int_str (bp I q (by simp))
  | _ => exact absurd (show false = true from hs) Bool.false_ne_true
 | str i =>
  obtain ⟨t, rfl⟩ := rx;cases y with
  | non => cases ry; exact PySem.EqNone.ne_str_none (bp I q (by simp))
  | bl j => cases ry; exact PySem.EqMixed.ne_str_bool (bp I q (by simp))
  | int j => obtain ⟨t', rfl⟩ := ry; exact PySem.EqMixed.ne_str_int (bp I q (by simp))
  | str j => obtain ⟨t', rfl⟩ := ry; exact ne_str (bp I q (congrArg not qE))
  | _ => exact absurd (show false = true from hs) Bool.false_ne_true
 | byt i =>
  obtain ⟨t, rfl⟩ := rx;cases y with
  | byt j => obtain ⟨t', rfl⟩ := ry; exact PySem.W.ne_bytes (bp I q (congrArg not rC))
  | _ => exact absurd (show false = true from hs) Bool.false_ne_true
 | _ => cases y <;> exact absurd (show false = true from hs) Bool.false_ne_true
theorem ph : OpR X (compareOp .Lt) (rI0 fun i j => .bl (decide (i < j))) := Be fun _ _ _ _ _ _ _ q => lt_int q
theorem kS : OpR X (compareOp .Gt) (rI0 fun i j => .bl (decide (j < i))) := Be fun _ _ _ _ _ _ _ q => gt_int q
theorem BX : OpR X (compareOp .GtE) (rI0 fun i j => .bl (decide (j ≤ i))) := Be fun _ _ _ _ _ _ _ q => ge_int q
theorem OpR.or {f : Value → Value → Sem Value} {r r' : R2} (h : OpR X f r) (h' : OpR X f r') : OpR X f (fun x y H Q => r x y H Q ∨ r' x y H Q) := by
 intro pins s σ H x y v u Q I rx ry q;rcases q with q | q
 ·exact h pins s σ H x y v u Q I rx ry q
 ·exact h' pins s σ H x y v u Q I rx ry q
theorem a9 (b : Expr) {op : CmpOp} (h : op ≠ .In := by decide) (h2 : op ≠ .NotIn := by decide) : behindInMarks op b = false := by
 have e1 : (op == CmpOp.In) = false := by cases op <;> first | rfl | exact absurd rfl h
 have e2 : (op == CmpOp.NotIn) = false := by cases op <;> first | rfl | exact absurd rfl h2
 cases b <;> simp [behindInMarks, e1, e2]
theorem xU {op : CmpOp} {r : R2} (ho : OpR X (compareOp op) r) (ha : PE X a ta) (hb : PE X b tb) (hm : behindInMarks op b = false) : PE X (.Compare a [op] [b] pos) (tOp r ta tb) := by
 intro pins s σ H Q I h;exact wpAny_Compare1 (A_ ha hb I h fun v u s2 x y H2 I2 rx ry q => ho pins s2 σ H2 x y v u Q I2 rx ry q) hm
noncomputable def xV (t : TE) : TT := fun σ H Q => t σ H fun x H' => ∃ k, x = .bl k ∧ Q k H'
theorem wg {op : CmpOp} {r : R2} (ho : OpR X (compareOp op) r) (ha : PE X a ta) (hb : PE X b tb) (hm : behindInMarks op b = false) : PT X (.Compare a [op] [b] pos) (xV (tOp r ta tb)) := by
 intro pins s σ H Q I h;refine wpAny_isTrue_Compare1 (thn (ha pins s σ H _ I h) fun v s1 ⟨x, H1, I1, r1, q1⟩ => thn (hb pins s1 σ H1 _ I1 q1) fun u s2 ⟨y, H2, I2, r2, q2⟩ =>
  thn (ho pins s2 σ H2 x y v u _ I2 r1 r2 q2) fun c s3 ⟨z, H3, I3, r3, k, e, q3⟩ => ?_) hm
 subst e;cases r3;exact wpAny_truthy_bool ⟨H3, I3, q3⟩
theorem ju : (sizeLine : Nat) < 2 ^ 63 := by rw [sizeLine_eq]; decide
theorem qb : OpR X (binaryOp .Add) (fun x y H Q => ∃ i j, x = .str i ∧ y = .str j ∧ i.length + j.length ≤ sizeLine ∧ Q (.str (i ++ j)) H) := by
 intro pins s σ H x y v u Q I rx ry h;obtain ⟨i, j, rfl, rfl, hz, q⟩ := h;obtain ⟨t, rfl⟩ := rx;obtain ⟨t', rfl⟩ := ry;exact add_str (fun t' tk => ⟨.str (i ++ j), H, I.tok _, ⟨_, rfl⟩, q⟩) hz
theorem ou : OpR X (inplaceOp .Add) (fun x y H Q => ∃ i j, x = .str i ∧ y = .str j ∧ i.length + j.length ≤ sizeLine ∧ Q (.str (i ++ j)) H) := by
 intro pins s σ H x y v u Q I rx ry h;obtain ⟨i, j, rfl, rfl, hz, q⟩ := h;obtain ⟨t, rfl⟩ := rx;obtain ⟨t', rfl⟩ := ry;exact iadd_str (fun t' tk => ⟨.str (i ++ j), H, I.tok _, ⟨_, rfl⟩, q⟩) hz
theorem vals1 {x : V} {us : List Value} (r : Vals [x] us) : ∃ u, us = [u] ∧ RelV x u := by
 cases r with
 | cons r1 r2 => cases r2; exact ⟨_, rfl, r1⟩
theorem vals2 {x y : V} {us : List Value} (r : Vals [x, y] us) : ∃ u w', us = [u, w'] ∧ RelV x u ∧ RelV y w' := by
 cases r with
 | cons r1 r2 =>
  cases r2 with
  | cons r3 r4 => cases r4; exact ⟨_, _, rfl, r1, r3⟩
theorem sE (hc : X.calm = true) : eh X (.builtin "min") (fun xs H Q => ∃ i j, xs = [.int i, .int j] ∧ Q (.int (if j < i then j else i)) H) := by
 intro pins s σ H xs us Q I r h;obtain ⟨i, j, rfl, q⟩ := h;obtain ⟨u, w', rfl, ⟨t, rfl⟩, ⟨t', rfl⟩⟩ := vals2 r;refine min_two_ints (I.ok.hd hc) fun h' tk k => ⟨_, H, I.kept k, ?_, q⟩
 by_cases hj : j < i
 ·rw [if_pos hj, if_pos hj]; exact ⟨_, rfl⟩
 ·rw [if_neg hj, if_neg hj]; exact ⟨_, rfl⟩
theorem j7 : eh X (.type "int") (fun xs H Q => (∃ i, xs = [.int i] ∧ Q (.int i) H) ∨ ∃ k, xs = [.bl k] ∧ Q (.int (if k then 1 else 0)) H) := by
 intro pins s σ H xs us Q I r h;rcases h with ⟨i, rfl, q⟩ | ⟨k, rfl, q⟩
 ·obtain ⟨u, rfl, t, rfl⟩ := vals1 r
  exact call_int_int ⟨.int i, H, I, ⟨_, rfl⟩, q⟩
 ·obtain ⟨u, rfl, r1⟩ := vals1 r
  cases r1;exact call_int_bool ⟨.int (if k then 1 else 0), H, I.tok _, ⟨_, rfl⟩, q⟩
end
end L2
namespace L2
open PySem PySem.Spec PyProof.Rows
structure ObjM (h : Heap) (x dx C : Addr) (mA : Str → Option Value) : Prop where
 obj : h.get? x = some (PySem.W.instObj C dx)
 ns : h.Ns1 dx mA
 ne : dx ≠ x
section
variable {prog : Program} {w : World} {A : Around} {E : Value → Shared → Prop} {s : Shared} {K : PySem.W.Frag} {x dx C f : Addr} {mA : Str → Option Value} {name : Str} {v : Value}
end
section
variable {P : Program} {w : World} {H H' : Hp} {h h' : Heap} {a C dx : Addr} {fs fs' : List (Str × V)}
end
structure Cls (K : PySem.W.Frag) (C : Addr) : Prop where
 pg : PySem.W.plainGet K C Str.empty = true
 hd : PySem.W.hasDictIn K C = true
 po : PySem.W.plainOver K C = true
 sa : PySem.W.findIn K (.ref C) "__setattr__" = some (some (.builtin "object.__setattr__"))
structure Con (K : PySem.W.Frag) (C : Addr) (f : Str) (v : V) (u : Value) : Prop where
 at_ : PySem.W.findIn K (.ref C) f = some (some u)
 rel : RelV v u
 get : PySem.W.specialIn K u "__get__" = some none
 cp : PySem.W.copiedNames.contains f = false
structure Meth (K : PySem.W.Frag) (C : Addr) (m : Str) (f : Addr) : Prop where
 at_ : PySem.W.findIn K (.ref C) m = some (some (.ref f))
 fn : PySem.W.isFn K (.ref f) = true
 kp : PySem.W.keepIn K (.ref f) = true
section
variable {X : Cx} {pins : List (Addr × Obj)} {σ : St} {H : Hp} {s : Shared} {a C dx : Addr} {fs : List (Str × V)} {f : Str} {v : V} {A : Around} {E : Value → Shared → Prop}
end
section
variable {X : Cx} {o e value : Expr} {f : Str} {pos pos' tpos : Pos} {ta tv : TE}
end
section
variable {X : Cx} {pins : List (Addr × Obj)} {σ : St} {H : Hp} {s : Shared} {A : Around} {E : Value → Shared → Prop} {Q : Value → Shared → Prop} {c : Value} {b : Bool}
inductive TyOf (K : PySem.W.Frag) (H : Hp) : V → Value → Prop where
 | non : TyOf K H .non (.type "NoneType")
 | bl (x : Bool) : TyOf K H (.bl x) (.type "bool")
 | int (i : Int) : TyOf K H (.int i) (.type "int")
 | str (x : Str) : TyOf K H (.str x) (.type "str")
 | flt (x : UInt64) : TyOf K H (.flt x) (.type "float")
 | lst {a : Addr} {xs : List V} (e : H a = some (.lst xs)) : TyOf K H (.ref a) (.type "list")
 | frz {a : Addr} {o : Obj} {xs : List V} (e : H a = some (.frz o (.lst xs))) : TyOf K H (.ref a) (.type "list")
 | tup {a : Addr} {xs : List V} (e : H a = some (.tup xs)) : TyOf K H (.ref a) (.type "tuple")
 | dK {a : Addr} {kvs : List (Key × V)} (e : H a = some (.dK kvs)) : TyOf K H (.ref a) (.type "dict")
 | dT {a : Addr} {kvs : List (List Key × V)} (e : H a = some (.dT kvs)) : TyOf K H (.ref a) (.type "dict")
 | ins {a C dx : Addr} {fs : List (Str × V)} (e : H a = some (.ins C dx fs)) (cl : Cls K C) (ha : PySem.W.findIn K (.ref C) "__class__" = some (some (.builtin "object.__class__")))
   (hn : PySem.W.specialIn K (.builtin "object.__class__") "__get__" = some (some (.builtin "getset_descriptor.__get__"))) (htk : PySem.W.takesIn K (.builtin "object.__class__") = some true)
   (hm : PySem.W.mroIn K C (.type "object") = some true) : TyOf K H (.ref a) (.ref C)
end
end L2
namespace L2
open PySem PySem.Spec PyProof.Rows
structure Room (k : Nat) (A : Around) : Prop where
 hd : A.handled = none
 dp : A.depth + 3 * k + 5 < recursionLimit
 un : A.units + 16 * k + 200 < cLine
theorem Room.mono {j k : Nat} {A : Around} (r : Room k A) (h : j ≤ k) : Room j A := ⟨r.hd, by have := r.dp; lia, by have := r.un; lia⟩
theorem Room.deeper {k : Nat} {A : Around} (r : Room (k + 1) A) (env : Env) : Room k (A.deeper env) :=
 ⟨r.hd, by have := r.dp; show A.depth + 1 + 3 * k + 5 < _; lia, by have := r.un; show A.units + 3 + 16 * k + 200 < _; lia⟩
theorem Room.depth {k : Nat} {A : Around} (r : Room k A) : A.depth < recursionLimit := by have := r.dp; lia
theorem Room.units {k : Nat} {A : Around} (r : Room k A) : A.units + 64 < cLine := by have := r.un; lia
noncomputable def pN : TA := fun _ H Q => Q [] H
noncomputable def jI (ta : TE) (tr : TA) : TA := fun σ H Q => ta σ H fun x H1 => tr σ H1 fun xs H2 => Q (x :: xs) H2
section
variable {X : Cx} {e : Expr} {es : List Expr} {te : TE} {t : TA} {pos : Pos}
theorem jr : PA X [] pN := fun _ _ _ _ H Q I h => Calls.spliced_nil ⟨[], H, I, .nil, h⟩
theorem gP (ha : PE X e te) (hr : PA X es t) (hs : starEach (e :: es) X.env = (false, eval e X.env) :: starEach es X.env := by rfl) : PA X (e :: es) (jI te t) := by
 intro pos pins s σ H Q I h;rw [hs];show wpAny _ _ (spliced ((false, eval e X.env) :: backTo pos (starEach es X.env))) _ _ s
 refine Calls.spliced_cons (thn (ha pins s σ H _ I h) fun u s1 ⟨x, H1, I1, r1, q1⟩ => ?_)
 exact thn (hr pos pins s1 σ H1 _ I1 q1) fun us s2 ⟨xs, H2, I2, r2, q2⟩ => ⟨x :: xs, H2, I2, .cons r1 r2, q2⟩
noncomputable def EB (t : TA) : TE := fun σ H Q => t σ H fun xs H1 => xs.length ≤ sizeLine ∧ ∀ p, H1 p = none → Q (.ref p) (upd H1 p (.tup xs))
noncomputable def DD (t : TA) : TE := fun σ H Q => t σ H fun xs H1 => xs.length ≤ sizeLine ∧ ∀ p, H1 p = none → Q (.ref p) (upd H1 p (.lst xs))
theorem Bm {x1} (h : PA X es t) : PE X (.Tuple es x1 pos) (EB t) := by
 intro pins s σ H Q I hq;refine wpAny_Tuple_spliced (thn (h pos pins s σ H _ I hq) fun us s1 ⟨xs, H1, I1, r, z, q⟩ => ⟨by rw [← r.length]; exact z, ?_⟩)
 have hf : H1 s1.heap.objs.size = none := I1.hok.fresh (Nat.le_refl _);refine ⟨.ref s1.heap.objs.size, upd H1 s1.heap.objs.size (.tup xs), I1.laid (t' := s1.toks) (fun b u e => Heap.get?_push_of_some _ e) (Nat.le_refl _) ?_, rfl, q _ hf⟩
 exact ⟨z, us, r, ⟨_, Heap.get?_push_size _ rfl, rfl, _, rfl⟩⟩
theorem zC (h : PA X es t) : PE X (.List es pos) (DD t) := by
 intro pins s σ H Q I hq;refine wpAny_List_spliced (thn (h pos pins s σ H _ I hq) fun us s1 ⟨xs, H1, I1, r, z, q⟩ => ⟨by rw [← r.length]; exact z, ?_⟩)
 have hf : H1 s1.heap.objs.size = none := I1.hok.fresh (Nat.le_refl _);refine ⟨.ref s1.heap.objs.size, upd H1 s1.heap.objs.size (.lst xs), I1.laid (t' := s1.toks) (fun b u e => Heap.get?_push_of_some _ e) (Nat.le_refl _) ?_, rfl, q _ hf⟩
 exact ⟨z, us, 0, r, Heap.get?_push_size _ rfl⟩
end
noncomputable abbrev Sp := List V → Hp → VK → XK → Prop
noncomputable abbrev CXT := List Env → Hp → Shared → XK → Value → Shared → Prop
structure Env0 (P : Program) (w : World) (K : PySem.W.Frag) (mg : Str → Option Value) (base : Heap) (A : Around) (outer : List Env) (s : Shared) (H : Hp) : Prop where
 frames : A.frames = some outer
 mod : Mod K mg base
 bs : ∀ b o, base.get? b = some o → s.heap.get? b = some o ∧ H b = none
 bsz : base.objs.size ≤ s.heap.objs.size
 funs : s.heap.FunFrames base outer
 frf : ∀ b ∈ frs outer, H b = none
 hok : HOk P w H s.heap
 bare : AllBare s.gens
noncomputable def CE (outer : List Env) (P : Program) (w : World) (H : Hp) (s : Shared) (Q : VK) (u : Value) (s' : Shared) : Prop :=
 ∃ v H', s'.os = s.os ∧ AllBare s'.gens ∧ Un (frs outer) [] H H' s.heap s'.heap ∧ HOk P w H' s'.heap ∧ RelV v u ∧ Q v H'
noncomputable def CR (CX : CXT) (outer : List Env) (P : Program) (w : World) (H : Hp) (s : Shared) (Q : VK) (E : XK) (r : Result) (s' : Shared) : Prop :=
 match r with
 | .ok (.ret u) => CE outer P w H s Q u s'
 | .ok _ => False
 | .error e => CX outer H s E e s'
structure FnOk (P : Program) (w : World) (K : PySem.W.Frag) (mg : Str → Option Value) (base : Heap) (CX : CXT) (k : Nat) (f : Addr) (fd : FuncData) (ps : List Str) (sp : Sp) : Prop where
 len : ∀ vs H Q E, sp vs H Q E → vs.length = ps.length
 run : ∀ (A : Around) (outer : List Env) (s : Shared) (H : Hp) (args : Args) (us : List Value) (vs : List V) (Q : VK) (E : XK), Room k A → Env0 P w K mg base A outer s H → BindsTo s fd args (ps.zip us) → Vals vs us → sp vs H Q E →
  codeAny (model P w) A (.call (.ref f) args) (CR CX outer P w H s Q E) s
theorem FnOk.imp {P : Program} {w : World} {K : PySem.W.Frag} {mg : Str → Option Value} {base : Heap} {CX : CXT} {k : Nat} {f : Addr} {fd : FuncData} {ps : List Str} {sp sp' : Sp} (F : FnOk P w K mg base CX k f fd ps sp)
  (h : ∀ vs H Q E, sp' vs H Q E → sp vs H Q E) : FnOk P w K mg base CX k f fd ps sp' :=
 ⟨fun vs H Q E q => F.len vs H Q E (h _ _ _ _ q), fun A outer s H args us vs Q E hr he hb hv hs => F.run A outer s H args us vs Q E hr he hb hv (h _ _ _ _ hs)⟩
section
variable {X : Cx} {pins : List (Addr × Obj)} {σ : St} {H : Hp} {s s' : Shared}
theorem Inv.nj (I : Inv X pins σ H s) : Env0 X.prog X.w X.K X.mg X.base X.A X.stack s H :=
 ⟨I.ok.frames, I.ok.mod, I.bs, Nat.le_trans I.ok.bsz I.sz, I.stack, I.stkFree, I.hok, I.bare⟩
theorem Inv.after {Q : VK} {u : Value} (I : Inv X pins σ H s) (h : CE X.stack X.prog X.w H s Q u s') : EP X pins σ Q u s' := by
 obtain ⟨v, H', os, bare, un, hok, r, q⟩ := h;obtain ⟨hh, g, d, t, os'⟩ := s';obtain rfl : os' = s.os := os;exact ⟨v, H', I.call (h' := hh) (g' := g) (d' := d) (t' := t) (ch := []) un hok bare (fun b z => absurd z (by simp)), r, q⟩
end
noncomputable def yu (sp : Sp) (dvs : List V) (E : XK) (t : TA) : TE := fun σ H Q => t σ H fun vs H1 => sp (vs ++ dvs) H1 Q E
noncomputable def Binds (K : PySem.W.Frag) (fd : FuncData) (ps : List Str) (ds : List Value) : Prop :=
 ∀ (s : Shared) (us : List Value), K.In s.heap → (us ++ ds).length = ps.length → BindsTo s fd ⟨us, []⟩ (ps.zip (us ++ ds))
theorem Binds.all {K : PySem.W.Frag} {fd : FuncData} {ps : List Str} (h : ∀ us : List Value, us.length = ps.length → bindArgs fd ⟨us, []⟩ = pure (ps.zip us)) : Binds K fd ps [] := fun s us _ hl => by
 rw [List.append_nil] at hl ⊢;exact .of_eq (h us hl)
noncomputable def Passes (CX : CXT) (X : Cx) (E : XK) : Prop := ∀ (pins : List (Addr × Obj)) (σ : St) (H : Hp) (s : Shared) (e : Value) (s' : Shared), Inv X pins σ H s → CX X.stack H s E e s' → X.xe e s'
section
variable {X : Cx} {CX : CXT} {k : Nat} {f C : Addr} {fd : FuncData} {ps : List Str} {sp : Sp} {dvs : List V} {ds : List Value} {E : XK} {x m : Str} {p pos apos : Pos} {e o : Expr} {es : List Expr} {ta : TE} {t : TA}
theorem Bl {pins : List (Addr × Obj)} {σ : St} {H : Hp} {s : Shared} {Q : VK} {us : List Value} {vs : List V} (F : FnOk X.prog X.w X.K X.mg X.base CX k f fd ps sp) (hr : Room k X.A) (hb : Binds X.K fd ps ds) (hd : Vals dvs ds) (hx : Passes CX X E)
  (I : Inv X pins σ H s) (r : Vals vs us) (h : sp (vs ++ dvs) H Q E) : wpAny (model X.prog X.w) X.A (call (.ref f) us) (EP X pins σ Q) X.xe s := by
 have r2 : Vals (vs ++ dvs) (us ++ ds) := r.append hd;have hl : (us ++ ds).length = ps.length := by rw [← r2.length]; exact F.len _ _ _ _ h
 refine wpAny_call (codeAny_mono (F.run X.A X.stack s H ⟨us, []⟩ (us ++ ds) (vs ++ dvs) Q E hr I.nj (hb s us I.kIn hl) r2 h) fun r s' hq => ?_)
 cases r with
 | error e => exact hx pins σ H s e s' I hq
 | ok fl =>
  cases fl with
  | ret u => exact I.after hq
  | next => exact False.elim hq
  | brk => exact False.elim hq
  | cont => exact False.elim hq
theorem xi (F : FnOk X.prog X.w X.K X.mg X.base CX k f fd ps sp) (hr : Room k X.A) (hg : Gl X x) (hm : X.mg x = some (.ref f)) (hk : PySem.W.keepIn X.K (.ref f) = true) (hb : Binds X.K fd ps ds) (hd : Vals dvs ds) (hx : Passes CX X E)
  (ha : PA X (e :: es) t) (hdb : (x == ("__debug__" : Str)) = false := by decide) (he : starEach (e :: es) X.env = (false, eval e X.env) :: starEach es X.env := by rfl) (hpl : (backTo pos (starEach es X.env)).any (·.1) = false := by rfl) :
  PE X (.Call (.Name x p) (e :: es) [] pos) (yu sp dvs E t) := by
 intro pins s σ H Q I h;refine wpAny_Call_Name_kw (rB I hg hm ?_ hdb);refine PySem.W.callWith_K (h₀ := X.base) I.ok.mod.kin hk (thn (ha pos pins s σ H _ I h) fun us s1 ⟨vs, H1, I1, r, q⟩ => ⟨I1.kIn, ?_⟩) he hpl
 exact Bl F hr hb hd hx I1 r q
structure Mk (K : PySem.W.Frag) (C f : Addr) : Prop where
 makes : PySem.W.makesIn K C = true
 init : PySem.W.findIn K (.ref C) "__init__" = some (some (.ref f))
 fn : PySem.W.isFn K (.ref f) = true
 kp : PySem.W.keepIn K (.ref C) = true
end
section
variable {X : Cx} {CX : CXT} {k : Nat} {f C : Addr} {fd : FuncData} {ps ks : List Str} {sp : Sp} {E : XK} {x m : Str} {p pos apos kpos : Pos} {e o : Expr} {es : List Expr} {kws : List Keyword} {te ta : TE} {t tk : TA} {nm : Option Str}
structure KBinds (K : PySem.W.Frag) (fd : FuncData) (ps ks : List Str) (g : List Value → List Value → List Value) (gV : List V → List V → List V) : Prop where
 to : ∀ (s : Shared) (us ws : List Value), K.In s.heap → (g us ws).length = ps.length → BindsTo s fd ⟨us, ks.zip ws⟩ (ps.zip (g us ws))
 rel : ∀ {vs : List V} {us : List Value} {zs : List V} {ws : List Value}, Vals vs us → Vals zs ws → Vals (gV vs zs) (g us ws)
variable {g : List Value → List Value → List Value} {gV : List V → List V → List V}
end
structure FnScope (N P : List Str) (sc : Scope) : Prop where
 kind : sc.kind = .function
 co : sc.isCoroutine = false
 gen : sc.isGenerator = false
 nd : N.Nodup
 pre : N.take P.length = P
 par : ∀ x ∈ P, sc.names.lookup x = some .local ∨ sc.names.lookup x = some .cell
 nofree : ∀ y ∈ sc.names, y.2 ≠ .free
theorem mE {kindOf : Str → Option NameKind} {x : Str} : ∀ {binds : List (Str × Value)} {m : Str → Option Value}, (∀ v, (x, v) ∉ binds) → bindL kindOf binds m x = m x
 | [], _, _ => rfl
 | (n, v) :: r, m, h => by
  unfold bindL;rw [mE fun w hw => h w (List.mem_cons_of_mem _ hw)]
  split
  ·have : x ≠ n := by rintro rfl; exact h v List.mem_cons_self
   simp [this]
  ·rfl
theorem l7 {kindOf : Str → Option NameKind} {x : Str} : ∀ {binds : List (Str × Value)} {m : Str → Option Value}, (∀ v, (x, v) ∉ binds) → bindC kindOf binds m x = m x
 | [], _, _ => rfl
 | (n, v) :: r, m, h => by
  unfold bindC;rw [l7 fun w hw => h w (List.mem_cons_of_mem _ hw)]
  split
  ·rfl
  ·have : x ≠ n := by rintro rfl; exact h v List.mem_cons_self
   simp [this]
theorem mB {kindOf : Str → Option NameKind} {x : Str} {v : Value} : ∀ {P : List Str} {vs : List Value} {i : Nat} {m : Str → Option Value}, P.Nodup → P[i]? = some x → vs[i]? = some v → kindOf x = some .local →
  bindL kindOf (P.zip vs) m x = some v
 | [], _, _, _, _, h, _, _ => by simp at h
 | _ :: _, [], _, _, _, _, h, _ => by simp at h
 | p :: P, w :: vs, 0, m, nd, h1, h2, hk => by
  simp at h1 h2; subst h1; subst h2
  show bindL kindOf ((p, w) :: P.zip vs) m p = _
  unfold bindL;rw [mE fun v hv => (List.nodup_cons.mp nd).1 (List.of_mem_zip hv).1, if_pos hk]
  simp
 | p :: P, w :: vs, i + 1, m, nd, h1, h2, hk => by
  show bindL kindOf ((p, w) :: P.zip vs) m x = _
  unfold bindL;exact mB (i := i) (List.nodup_cons.mp nd).2 (by simpa using h1) (by simpa using h2) hk
theorem mG {kindOf : Str → Option NameKind} {x : Str} {v : Value} : ∀ {P : List Str} {vs : List Value} {i : Nat} {m : Str → Option Value}, P.Nodup → P[i]? = some x → vs[i]? = some v → kindOf x ≠ some .local →
  bindC kindOf (P.zip vs) m x = some v
 | [], _, _, _, _, h, _, _ => by simp at h
 | _ :: _, [], _, _, _, _, h, _ => by simp at h
 | p :: P, w :: vs, 0, m, nd, h1, h2, hk => by
  simp at h1 h2; subst h1; subst h2
  show bindC kindOf ((p, w) :: P.zip vs) m p = _
  unfold bindC;rw [l7 fun v hv => (List.nodup_cons.mp nd).1 (List.of_mem_zip hv).1, if_neg hk]
  simp
 | p :: P, w :: vs, i + 1, m, nd, h1, h2, hk => by
  show bindC kindOf ((p, w) :: P.zip vs) m x = _
  unfold bindC;exact mG (i := i) (List.nodup_cons.mp nd).2 (by simpa using h1) (by simpa using h2) hk
noncomputable def start (N : List Str) (vs : List V) : St := vs.map some ++ List.replicate (N.length - vs.length) none
noncomputable def oG (CX : CXT) (P : Program) (w : World) (K : PySem.W.Frag) (mg : Str → Option Value) (base : Heap) (N : List Str) (qual : Str) (scope : Scope) (f : Addr) (cd : Value) (A : Around) (outer : List Env) (s : Shared) (H : Hp) (E : XK) : Cx where
 prog := P
 w := w
 K := K
 mg := mg
 base := base
 A := A.deeper (envOfC qual scope s.heap.objs.size f cd)
 N := N
 s₀ := s
 H₀ := H
 env := envOfC qual scope s.heap.objs.size f cd
 outer := outer
 stack := envOfC qual scope s.heap.objs.size f cd :: outer
 ex := []
 calm := true
 fn := fun _ => true
 pn := []
 xe := fun e s' => wpAny (model P w) (A.deeper (envOfC qual scope s.heap.objs.size f cd)) (leaving (envOfC qual scope s.heap.objs.size f cd) e) (fun _ s'' => CX outer H s E e s'') (fun e' s'' => CX outer H s E e' s'') s'
theorem oS {sc : Scope} {n : Nat} {x : Str} (h : sc.names.lookup x = some .cell) : ∃ c, (cellsFrom n sc.names []).lookup x = some c := by
 have q := PySem.W.cellsFrom_some sc.names n [] (.inl h);exact Option.isSome_iff_exists.mp q
theorem sM {CX : CXT} {P : Program} {w : World} {K : PySem.W.Frag} {mg : Str → Option Value} {base : Heap} {N ps : List Str} {qual : Str} {scope : Scope} {f : Addr} {cd : Value} {A : Around} {outer : List Env} {s s1 : Shared} {H : Hp} {E : XK} {us : List Value} {vs : List V}
  (S : FnScope N ps scope) (hd : A.handled = none) (e0 : Env0 P w K mg base A outer s H) (hl : vs.length = ps.length) (r : Vals vs us)
  (x : InCallC s s.heap.objs.size (bindL (envOfC qual scope s.heap.objs.size f cd).kindOf (ps.zip us) fun _ => none) (cellsFrom (s.heap.objs.size + 1) scope.names []) (bindC (envOfC qual scope s.heap.objs.size f cd).kindOf (ps.zip us) fun _ => none) s1) :
  Inv (oG CX P w K mg base N qual scope f cd A outer s H E) [] (start N vs) H s1 := by
 have hpl : ps.length ≤ N.length := by have := congrArg List.length S.pre; rw [List.length_take] at this; lia
 obtain ⟨h1, tk, rfl, hk⟩ := x.done;have noA : ∀ b : Addr, b ∉ (oG CX P w K mg base N qual scope f cd A outer s H E).ex := fun b z => absurd (show b ∈ ([] : List Addr) from z) (by simp)
 refine ⟨⟨e0.mod, S.kind, rfl, rfl, Nat.le_refl _, fun y z c h1 h2 => ?_, fun y hy => ?_, fun y c _ h => ?_, fun _ => hd, Around.frames_deeper e0.frames, .inr ⟨rfl, rfl⟩, fun b z => absurd z (noA b), e0.bs, e0.bsz, fun b _ _ => noA b, fun b z => absurd z (noA b), e0.funs, e0.frf⟩,
  rfl, e0.bare, Un.kept hk, ⟨_, x.toInCall.ns, fun i y v h1 h2 h3 => ?_⟩, fun y c h => ⟨_, x.cell y c h⟩, e0.hok.fresh (Nat.le_refl _), fun y c h => ?_, fun p hp => absurd (show p ∈ ([] : List (Addr × Obj)) from hp) (by simp), e0.hok.kept hk, ?_⟩
 ·exact name_of_addr x.apart (PySem.mem_of_lookup h1) (PySem.mem_of_lookup h2)
 ·have hy : scope.names.lookup y = some .cell ∨ scope.names.lookup y = some .free := hy
  rcases hy with hy | hy
  ·exact oS hy
  ·exact absurd rfl (S.nofree _ (PySem.mem_of_lookup hy))
 ·exact Nat.le_of_lt (x.above y c (PySem.mem_of_lookup h))
 ·have hi : i < vs.length := by
   unfold start at h2;by_cases hi : i < vs.length
   ·exact hi
   ·rw [List.getElem?_append_right (by simpa using hi)] at h2
    rw [List.getElem?_replicate] at h2;split at h2 <;> cases h2
  have ha : vs[i]? = some v := by
   unfold start at h2;rw [List.getElem?_append_left (by simpa using hi), List.getElem?_map] at h2
   cases e : vs[i]? with
   | none => rw [e] at h2; cases h2
   | some a => rw [e] at h2; cases h2; rfl
  obtain ⟨u, hu, rv⟩ := r.get ha;have hp : ps[i]? = some y := by
   rw [← S.pre, List.getElem?_take_of_lt (by lia)]; exact h1
  have ndP : ps.Nodup := by rw [← S.pre]; exact S.nd.sublist (List.take_sublist _ _)
  refine ⟨u, rv, ?_⟩;rcases S.par y (List.mem_of_getElem? hp) with k | k
  ·exact .inl ⟨k, mB ndP hp hu k⟩
  ·obtain ⟨c, e⟩ := oS (n := s.heap.objs.size + 1) k
   refine .inr ⟨.inl k, c, e, ?_⟩;have q := x.cell y c e;rw [mG ndP hp hu (by show scope.names.lookup y ≠ _; rw [k]; decide)] at q
   exact q
 ·exact e0.hok.fresh (Nat.le_of_lt (x.above y c (PySem.mem_of_lookup h)))
 ·unfold start
  show _ = N.length
  rw [List.length_append, List.length_map, List.length_replicate]
  lia
theorem Cf {CX : CXT} {P : Program} {w : World} {K : PySem.W.Frag} {mg : Str → Option Value} {base : Heap} {k : Nat} {f : Addr} {name qual : Str} {params : Arguments} {body : List Stmt} {scope : Scope} {dV kV doc pm cdv ct oc : Value} {an od : Option Addr}
  {osl : Array (Option Value)} {N ps : List Str} {sp : Sp} (lk : K.lookup f = some ⟨oc, od, .func (PySem.W.fnOf name qual params body scope dV kV doc pm an cdv ct), osl⟩) (hcd : PySem.W.codeIn K cdv qual = true) (S : FnScope N ps scope)
  (len : ∀ vs H Q E, sp vs H Q E → vs.length = ps.length)
  (hbody : ∀ (A : Around) (outer : List Env) (s : Shared) (H : Hp) (vs : List V) (Q : VK) (E : XK), Room k (A.deeper (envOfC qual scope s.heap.objs.size f cdv)) → sp vs H Q E →
   ∃ t, PSs (oG CX P w K mg base N qual scope f cdv A outer s H E) body t ∧ t { nx := fun _ H' => Q .non H', rt := Q } (start N vs) H) :
  FnOk P w K mg base CX (k + 1) f (PySem.W.fnOf name qual params body scope dV kV doc pm an cdv ct) ps sp := by
 refine ⟨len, fun A outer s H args us vs Q E hr e0 hb r hsp => ?_⟩
 have hl := len _ _ _ _ hsp;have KX : K.In s.heap := e0.mod.kin.keeps fun b o e => (e0.bs b o e).1
 have lim : s.heap.NoLimit := e0.mod.nolimit.keeps fun b o e => (e0.bs b o e).1
 have hkind : ∀ y ∈ ps.zip us, scope.names.lookup y.1 = some .local ∨ (scope.names.lookup y.1 = some .cell ∧ ((cellsFrom (s.heap.objs.size + 1) scope.names []).lookup y.1).isSome = true) := fun ⟨n, v⟩ hy => by
  rcases S.par n (List.of_mem_zip hy).1 with q | q
  ·exact .inl q
  ·exact .inr ⟨q, PySem.W.cellsFrom_some _ _ _ (.inl q)⟩
 refine codeAny_call_function hr.depth (KX _ _ lk) rfl S.co S.gen rfl (PySem.W.codeRec_of KX hcd) (hb _ _ _ _ ?_);refine wpAny_newFunctionEnv_cells S.kind hkind fun env he s1 x => ?_
 subst he;refine ⟨lim.keeps x.toInCall.keep, codeAny_func ?_⟩;obtain ⟨t, ht, hq⟩ := hbody A outer s H vs Q E (hr.deeper _) hsp;have I : Inv (oG CX P w K mg base N qual scope f cdv A outer s H E) [] (start N vs) H s1 := sM S hr.hd e0 hl r x;refine wpAny_mono (ht [] s1 (start N vs) H _ I hq) (fun fl s' hs => ?_) fun e s' hs => hs
 have fin : ∀ {σ' : St} {H' : Hp} {v : V} {u : Value}, Inv (oG CX P w K mg base N qual scope f cdv A outer s H E) [] σ' H' s' → RelV v u → Q v H' → CE outer P w H s Q u s' :=
  fun {σ' H' v u} J rv q => ⟨v, H', J.os, J.bare, J.base, J.hok, rv, q⟩
 cases fl with
 | ret u =>
  obtain ⟨v, σ', H', J, rv, q⟩ := hs;exact fin J rv q
 | next =>
  obtain ⟨σ', H', J, q⟩ := hs;exact fin (v := V.non) (u := Value.none) J rfl q
 | brk =>
  obtain ⟨_, _, _, q⟩ := hs;exact False.elim q
 | cont =>
  obtain ⟨_, _, _, q⟩ := hs;exact False.elim q
end L2
namespace L2
open PySem PySem.Spec PyProof.Rows
section
variable {X : Cx} {x : Str} {p pos : Pos} {e : Expr} {es : List Expr} {t : TA} {id T : String} {r : List V → Hp → VK → Prop}
noncomputable def tCB (r : List V → Hp → VK → Prop) (t : TA) : TE := fun σ H Q => t σ H fun vs H1 => r vs H1 Q
theorem oH (hc : eh X (.builtin id) r) (hg : Gl X x) (hm : X.mg x = none) (hv : bootBuiltins x = some (.builtin id)) (ha : PA X (e :: es) t) (hn : x ≠ "__name__" := by decide) (hdb : (x == ("__debug__" : Str)) = false := by decide)
  (he : starEach (e :: es) X.env = (false, eval e X.env) :: starEach es X.env := by rfl) (hpl : (backTo pos (starEach es X.env)).any (·.1) = false := by rfl) : PE X (.Call (.Name x p) (e :: es) [] pos) (tCB r t) := by
 intro pins s σ H Q I h;refine wpAny_Call_Name_kw (iI I hg hm hv ?_ hn hdb);exact PyProof.Rows.callWith_builtin1 (thn (ha pos pins s σ H _ I h) fun us s1 ⟨vs, H1, I1, r1, q1⟩ => hc pins s1 σ H1 vs us Q I1 r1 q1) he hpl
theorem sJ (hc : eh X (.type T) r) (hg : Gl X x) (hm : X.mg x = none) (hv : bootBuiltins x = some (.type T)) (ha : PA X (e :: es) t) (hn : x ≠ "__name__" := by decide) (hdb : (x == ("__debug__" : Str)) = false := by decide)
  (he : starEach (e :: es) X.env = (false, eval e X.env) :: starEach es X.env := by rfl) (hpl : (backTo pos (starEach es X.env)).any (·.1) = false := by rfl) : PE X (.Call (.Name x p) (e :: es) [] pos) (tCB r t) := by
 intro pins s σ H Q I h;refine wpAny_Call_Name_kw (iI I hg hm hv ?_ hn hdb);exact PyProof.Rows.callWith_type1 (thn (ha pos pins s σ H _ I h) fun us s1 ⟨vs, H1, I1, r1, q1⟩ => hc pins s1 σ H1 vs us Q I1 r1 q1) he hpl
end
end L2
namespace HT
open PySem PyProof.Rows
section
open PySem.SeqAt
open PySem.AutoSeq1 (wpAny_loadPart')
open PySem.MeetsSeq PySem.MeetsSeq2 PySem.MeetsSeq3
end
section
variable {prog : Program} {w : World} {A : Around} {E : Value → Shared → Prop} {s : Shared}
noncomputable def sIx (n d : Nat) : Option Int → Nat
 | none => d
 | some v => if v < 0 then (v + (n : Int)).toNat else min v.toNat n
theorem uK (n d : Nat) : sIx n d none = d := rfl
theorem xS (n d k : Nat) : sIx n d (some (k : Int)) = min k n := by
 show (if (k : Int) < 0 then ((k : Int) + (n : Int)).toNat else min (k : Int).toNat n) = min k n
 rw [if_neg (by lia), Int.toNat_natCast]
end
end HT
namespace L2
open PySem PySem.Spec PyProof.Rows
noncomputable abbrev TO := St → Hp → (Option Int → Hp → Prop) → Prop
noncomputable def PO (X : Cx) (e : Option Expr) (t : TO) : Prop :=
 ∀ (pins : List (Addr × Obj)) (s : Shared) (σ : St) (H : Hp) (Q : Option Int → Hp → Prop), Inv X pins σ H s → t σ H Q →
  wpAny (model X.prog X.w) X.A (evalPart e X.env) (fun u s' => ∃ o H', Inv X pins σ H' s' ∧ IsPart u o ∧ Q o H') X.xe s
noncomputable def rN : TO := fun _ H Q => Q none H
noncomputable def yt (t : TE) : TO := fun σ H Q => t σ H fun x H1 => ∃ i, x = .int i ∧ Q (some i) H1
theorem intsAre_of {ns : List Int} : ∀ {us : List Value}, Vals (ns.map V.int) us → IntsAre us ns := by
 induction ns with
 | nil => intro us r; rw [List.map_nil] at r; cases r; exact .nil
 | cons n ns ih =>
  intro us r;rw [List.map_cons] at r;cases r with
  | cons r1 r2 =>
   obtain ⟨t, e⟩ := r1;subst e;exact .cons n t (ih r2)
section
variable {X : Cx} {e : Expr} {te : TE} {lo hi : Option Expr} {tl th : TO} {pos p2 : Pos}
theorem wX : PO X none rN := by
 intro pins s σ H Q I h;rw [evalPart_none];exact wpAny_pure ⟨none, H, I, .none, h⟩
theorem wY (h : PE X e te) : PO X (some e) (yt te) := by
 intro pins s σ H Q I hw;rw [evalPart_some];refine thn (h pins s σ H _ I hw) fun u s1 ⟨x, H1, I1, r1, q1⟩ => ?_
 obtain ⟨i, rfl, q⟩ := q1;obtain ⟨t, rfl⟩ := r1;exact ⟨some i, H1, I1, .int i t, q⟩
noncomputable def SlR (X : Cx) (r : V → Option Int → Option Int → Hp → VK → Prop) : Prop :=
 ∀ (pins : List (Addr × Obj)) (s : Shared) (σ : St) (H : Hp) (x : V) (v vl vu : Value) (lo hi : Option Int) (sl : Addr) (Q : VK), Inv X pins σ H s → RelV x v → s.heap.IsSliceOf sl vl vu .none → IsPart vl lo → IsPart vu hi → r x lo hi H Q →
  ∃ T id, typeLookup (.type T) "__getitem__" = pure (some (.builtin id)) ∧ s.TypeIs v T ∧ wpAny (model X.prog X.w) X.A (getItem v (.ref sl)) (EP X pins σ Q) X.xe s
noncomputable def tSl (r : V → Option Int → Option Int → Hp → VK → Prop) (te : TE) (tl th : TO) : TE := fun σ H Q => te σ H fun x H1 => tl σ H1 fun l H2 => th σ H2 fun u H3 => r x l u H3 Q
theorem uf {r : V → Option Int → Option Int → Hp → VK → Prop} (hr : SlR X r) (he : PE X e te) (hl : PO X lo tl) (hu : PO X hi th) : PE X (.Subscript e (.Slice lo hi none p2) pos) (tSl r te tl th) := by
 intro pins s σ H Q I h;refine Subscript_ (thn (he pins s σ H _ I h) fun v s1 ⟨x, H1, I1, r1, q1⟩ => ?_)
 refine wpAny_Slice (thn (hl pins s1 σ H1 _ I1 q1) fun vl s2 ⟨l, H2, I2, pl, q2⟩ => thn (hu pins s2 σ H2 _ I2 q2) fun vu s3 ⟨u, H3, I3, pu, q3⟩ => ?_)
 rw [evalPart_none];refine wpAny_pure ?_;have I4 : Inv X pins σ H3 { s3 with heap := s3.heap.push { cls := .type "slice", data := .fields #[vl, vu, .none] } } := I3.kept (t' := s3.toks) fun b ob q => Heap.get?_push_of_some _ q
 obtain ⟨T, id, hT, ht, hg⟩ := hr pins { s3 with heap := s3.heap.push { cls := .type "slice", data := .fields #[vl, vu, .none] } } σ H3 x v vl vu l u s3.heap.objs.size Q I4 r1 (Heap.IsSliceOf.new ..) pl pu q3
 show wpAny (model X.prog X.w) X.A (subscriptTail e (.Slice lo hi none p2) v (.ref s3.heap.objs.size)) (EP X pins σ Q) X.xe { s3 with heap := s3.heap.push { cls := .type "slice", data := .fields #[vl, vu, .none] } }
 exact tail_any (ops := [.ref s3.heap.objs.size, v]) ht hT hg (by with_unfolding_all rfl)
noncomputable def t7 (xs : List V) (lo hi : Option Int) : List V := (xs.drop (HT.sIx xs.length 0 lo)).take (HT.sIx xs.length xs.length hi - HT.sIx xs.length 0 lo)
theorem pI (xs : List V) (lo hi : Option Int) : (t7 xs lo hi).length ≤ xs.length := by
 unfold t7;rw [List.length_take, List.length_drop]
 lia
end
end L2
namespace L2
open PySem PySem.Spec PyProof.Rows
noncomputable def ixN (n : Nat) (i : Int) : Option Nat := if 0 ≤ i then (if i < n then some i.toNat else none) else if -(n : Int) ≤ i then some (i + n).toNat else none
noncomputable def atI {α : Type} (xs : List α) (i : Int) : Option α := (ixN xs.length i).bind fun j => xs[j]?
theorem rz {n : Nat} {i : Int} {j : Nat} (h : ixN n i = some j) : seqIndex? i n = some j ∧ j < n ∧ -(n : Int) ≤ i ∧ i < n := by
 unfold ixN at h;by_cases h0 : 0 ≤ i
 ·rw [if_pos h0] at h
  by_cases h1 : i < n
  ·rw [if_pos h1] at h
   have e : i.toNat = j := Option.some.inj h;exact ⟨by rw [seqIndex_of h0 h1, e], by lia, by lia, h1⟩
  ·rw [if_neg h1] at h; cases h
 ·rw [if_neg h0] at h
  by_cases h1 : -(n : Int) ≤ i
  ·rw [if_pos h1] at h
   have e : (i + n).toNat = j := Option.some.inj h;exact ⟨by rw [seqIndex_neg (by lia) h1, e], by lia, h1, by lia⟩
  ·rw [if_neg h1] at h; cases h
theorem m3 {α : Type} {xs : List α} {i : Int} {v : α} (h : atI xs i = some v) : ∃ j, seqIndex? i xs.length = some j ∧ xs[j]? = some v ∧ j < xs.length ∧ -(xs.length : Int) ≤ i ∧ i < xs.length := by
 unfold atI at h;cases e : ixN xs.length i with
 | none => rw [e] at h; cases h
 | some j =>
  rw [e] at h;obtain ⟨h1, h2, h3, h4⟩ := rz e;exact ⟨j, h1, h, h2, h3, h4⟩
theorem eJ {α : Type} {xs : List α} {j : Nat} {v : α} (h : xs[j]? = some v) : atI xs (j : Int) = some v := by
 have hj : j < xs.length := (List.getElem?_eq_some_iff.mp h).1;have e : ixN xs.length (j : Int) = some j := by
  unfold ixN;rw [if_pos (by lia), if_pos (by lia)]; simp
 unfold atI; rw [e]; exact h
theorem oU {α : Type} (xs : List α) (v : α) : atI (xs ++ [v]) (-1) = some v := by
 have hl : (xs ++ [v]).length = xs.length + 1 := by simp
 have e : ixN (xs ++ [v]).length (-1) = some xs.length := by
  unfold ixN;rw [hl, if_neg (by decide), if_pos (by lia)]
  congr 1
  lia
 unfold atI;rw [e];show (xs ++ [v])[xs.length]? = some v
 simp
noncomputable def kF (b : Expr) : Prop := ∀ o i, subscripted b false o i = operate [o, i] (getItem o i)
noncomputable def IxR (X : Cx) (r : R2) : Prop :=
 ∀ (value slice : Expr) (pins : List (Addr × Obj)) (s : Shared) (σ : St) (H : Hp) (x y : V) (v u : Value) (Q : VK), Inv X pins σ H s → RelV x v → RelV y u → r x y H Q →
  subscripted slice false v u = operate [v, u] (getItem v u) → wpAny (model X.prog X.w) X.A (subscriptTail value slice v u) (EP X pins σ Q) X.xe s
noncomputable def MtR (X : Cx) (id : String) (r : V → List V → Hp → VK → Prop) : Prop :=
 ∀ (pins : List (Addr × Obj)) (s : Shared) (σ : St) (H : Hp) (x : V) (xs : List V) (v : Value) (us : List Value) (Q : VK), Inv X pins σ H s → RelV x v → Vals xs us → r x xs H Q →
  wpAny (model X.prog X.w) X.A (call (.builtin id) (v :: us)) (EP X pins σ Q) X.xe s
section
variable {X : Cx} {a b : Expr} {ta tb : TE} {pos : Pos}
theorem IxR.or {r r' : R2} (h : IxR X r) (h' : IxR X r') : IxR X (fun x y H Q => r x y H Q ∨ r' x y H Q) := by
 intro value slice pins s σ H x y v u Q I rx ry q hs;rcases q with q | q
 ·exact h value slice pins s σ H x y v u Q I rx ry q hs
 ·exact h' value slice pins s σ H x y v u Q I rx ry q hs
theorem qX {r : R2} (hr : IxR X r) (ha : PE X a ta) (hb : PE X b tb) (hs : kF b) : PE X (.Subscript a b pos) (tOp r ta tb) := by
 intro pins s σ H Q I h;exact Subscript_ (A_ ha hb I h fun v u s2 x y H2 I2 rx ry q => hr a b pins s2 σ H2 x y v u Q I2 rx ry q (hs _ _))
noncomputable def ow (K : PySem.W.Frag) : R2 := fun x y H Q => ∃ p xs i v, x = .ref p ∧ y = .int i ∧ SqL K H p xs ∧ atI xs i = some v ∧ Q v H
noncomputable def CJ (K : PySem.W.Frag) : R2 := fun x y H Q => ∃ p xs i v, x = .ref p ∧ y = .int i ∧ SqT K H p xs ∧ atI xs i = some v ∧ Q v H
noncomputable def DZ : R2 := fun x y H Q => ∃ z i c, x = .str z ∧ y = .int i ∧ z.length ≤ sizeLine ∧ atI z.cps.toList i = some c ∧ Q (.str ⟨#[c]⟩) H
theorem qQ : IxR X (ow X.K) := by
 intro value slice pins s σ H x y v u Q I rx ry h hs;obtain ⟨p, xs, i, z, rfl, rfl, hq, he, q⟩ := h;cases rx;obtain ⟨t, rfl⟩ := ry;obtain ⟨its, r, pl, hz⟩ := I.list hq;obtain ⟨j, h1, h2, h3, h4, h5⟩ := m3 he;obtain ⟨w, ew, rw'⟩ := r.get h2;have hl := r.length;have hn := ju;have fin : EP X pins σ Q w s := ⟨z, H, I, rw', q⟩;by_cases h0 : 0 ≤ i
 ·have hj : i.toNat = j := by
   rw [seqIndex_of h0 h5] at h1;exact Option.some.inj h1
  exact item_listR pl.isList h0 (by lia) (by rw [hj]; simpa using ew) fin hs
 ·have hj : (i + (its.toArray.size : Int)).toNat = j := by
   rw [seqIndex_neg (by lia) h4] at h1
   rw [List.size_toArray, ← hl];exact Option.some.inj h1
  exact subscriptTail_builtinR (x := w) pl.isList.typeIs slot_list_getitem.lookup
   (wpAny_getItem_list_neg (Q := fun r s' => r = w ∧ EP X pins σ Q r s') pl.isList (by lia) (by rw [List.size_toArray] <;> lia) (by lia) (by rw [hj]; simpa using ew) ⟨rfl, fin⟩) hs
theorem zQ : IxR X (CJ X.K) := by
 intro value slice pins s σ H x y v u Q I rx ry h hs;obtain ⟨p, xs, i, z, rfl, rfl, hq, he, q⟩ := h;cases rx;obtain ⟨t, rfl⟩ := ry;obtain ⟨its, r, pl, hz⟩ := I.tuple hq;obtain ⟨j, h1, h2, h3, h4, h5⟩ := m3 he;obtain ⟨w, ew, rw'⟩ := r.get h2;have hl := r.length;have hn := ju;have fin : EP X pins σ Q w s := ⟨z, H, I, rw', q⟩;exact subscriptTail_builtinR (x := w) pl.typeIs slot_tuple_getitem.lookup
  (getItem_tuple (j := j) (Q := fun r s' => r = w ∧ EP X pins σ Q r s') pl (by lia) (by lia) (by rw [List.size_toArray, ← hl]; exact h1) (by simpa using ew) ⟨rfl, fin⟩) hs
theorem Af : IxR X DZ := by
 intro value slice pins s σ H x y v u Q I rx ry h hs;obtain ⟨z, i, c, rfl, rfl, hz, he, q⟩ := h;obtain ⟨t, rfl⟩ := rx;obtain ⟨t', rfl⟩ := ry;obtain ⟨j, h1, h2, h3, h4, h5⟩ := m3 he;have hl : z.cps.toList.length = z.length := by simp [Str.length]
 rw [hl] at h1 h4 h5;have hn := ju;exact tail_any (typeIs_str s z t) slot_str_getitem.lookup (getItem_str (c := c) (by
  have e1 : decide (i < -(2 ^ 63 : Int)) = false := decide_eq_false (by lia)
  have e2 : decide (i ≥ 2 ^ 63) = false := decide_eq_false (by lia)
  rw [e1, e2, Bool.or_false]) (by rw [h1]; simpa using h2) ⟨.str ⟨#[c]⟩, H, I.tok _, ⟨_, rfl⟩, q⟩) hs
noncomputable def rIx (K : PySem.W.Frag) : R2 := fun x y H Q => ow K x y H Q ∨ CJ K x y H Q ∨ DZ x y H Q
theorem av : IxR X (rIx X.K) := qQ.or (zQ.or Af)
theorem qr (its : List Value) (n j : Nat) (u : Value) : Obj.mapSeq (·.setIfInBounds j u) { cls := .type "list", data := .seq its.toArray n } = { cls := .type "list", data := .seq (its.set j u).toArray n } := by
 simp [Obj.mapSeq]
theorem Inv.lst {pins : List (Addr × Obj)} {σ : St} {H : Hp} {s : Shared} {p : Addr} {xs : List V} (I : Inv X pins σ H s) (h : H p = some (.lst xs)) :
  ∃ (its : List Value) (n : Nat), Vals xs its ∧ s.heap.get? p = some { cls := .type "list", data := .seq its.toArray n } ∧ xs.length ≤ sizeLine := by
 obtain ⟨z, its, n, r, e⟩ := I.hok p _ h;exact ⟨its, n, r, e, z⟩
theorem Inv.lstUpd {pins : List (Addr × Obj)} {σ : St} {H : Hp} {s : Shared} {p : Addr} {xs ys : List V} {its its' : List Value} {n n' : Nat} {f : Obj → Obj} (I : Inv X pins σ H s) (h : H p = some (.lst xs))
  (ho : s.heap.get? p = some { cls := .type "list", data := .seq its.toArray n }) (hf : f { cls := .type "list", data := .seq its.toArray n } = { cls := .type "list", data := .seq its'.toArray n' }) (r : Vals ys its') (hz : ys.length ≤ sizeLine) (t : Nat) :
  Inv X pins σ (upd H p (.lst ys)) { s with heap := s.heap.update p f, toks := t } := by
 have e : (s.heap.update p f).get? p = some { cls := .type "list", data := .seq its'.toArray n' } := by
  rw [Heap.get?_update_self f ho (by rw [hf] <;> rfl), hf]
 refine I.write (x := p) (e := p) (by rw [h]; trivial) (.inl rfl) (fun b u hb q => (Heap.get?_update_other _ _ (Ne.symm hb)).trans q) ⟨_, e⟩ ?_
 exact ⟨hz, its', n', r, e⟩
noncomputable def yo : V → V → V → Hp → (Hp → Prop) → Prop := fun o i v H Q => ∃ p xs k j, o = .ref p ∧ i = .int k ∧ H p = some (.lst xs) ∧ ixN xs.length k = some j ∧ Q (upd H p (.lst (xs.set j v)))
theorem set_list : Es X yo := by
 intro pins s σ H o i v ov iv u Q I ro ri rv h;obtain ⟨p, xs, k, j, rfl, rfl, hp, hj, q⟩ := h;cases ro;obtain ⟨t, rfl⟩ := ri;obtain ⟨its, n, r, ho, hz⟩ := I.lst hp;obtain ⟨h1, h2, h3, h4⟩ := rz hj;have hl := r.length;have hn := ju;have I' : Inv X pins σ (upd H p (.lst (xs.set j v))) { s with heap := s.heap.update p (Obj.mapSeq (·.setIfInBounds j u)) } :=
  I.lstUpd hp ho (qr its n j u) (r.set rv j) (by rw [List.length_set]; exact hz) s.toks
 by_cases h0 : 0 ≤ k
 ·have hk : k.toNat = j := by
   rw [seqIndex_of h0 h4] at h1;exact Option.some.inj h1
  exact PySem.W.ki_setAt ho h0 (by lia) (by rw [List.size_toArray, ← hl]; exact h4) (by rw [hk]; exact ⟨_, I', q⟩)
 ·have hk : (k + (its.toArray.size : Int)).toNat = j := by
   rw [seqIndex_neg (by lia) h3] at h1
   rw [List.size_toArray, ← hl];exact Option.some.inj h1
  exact PySem.W.ki_setBack ho (by lia) (by rw [List.size_toArray, ← hl]; exact h3) (by lia) (by rw [hk]; exact ⟨_, I', q⟩)
theorem nK (lo hi : Option Int) (n : Nat) : (sliceBounds lo hi none n).1 = ((HT.sIx n 0 lo : Nat) : Int) ∧ (sliceBounds lo hi none n).2.1 = ((HT.sIx n n hi : Nat) : Int) ∧ (sliceBounds lo hi none n).2.2 = 1 := by
 refine ⟨?_, ?_, rfl⟩
 ·cases lo with
  | none => simp [sliceBounds, HT.sIx]
  | some i =>
   simp only [sliceBounds, HT.sIx, Option.getD_none, show (1 : Int) > 0 by decide, if_true]
   by_cases h : i < 0
   ·simp only [h, if_true] <;> lia
   ·simp only [h, if_false] <;> lia
 ·cases hi with
  | none => simp [sliceBounds, HT.sIx]
  | some i =>
   simp only [sliceBounds, HT.sIx, Option.getD_none, show (1 : Int) > 0 by decide, if_true]
   by_cases h : i < 0
   ·simp only [h, if_true] <;> lia
   ·simp only [h, if_false] <;> lia
theorem lK (its : List Value) (lo hi : Option Int) : slicePick its.toArray lo hi none = ((its.drop (HT.sIx its.length 0 lo)).take (HT.sIx its.length its.length hi - HT.sIx its.length 0 lo)).toArray := by
 obtain ⟨h1, h2, h3⟩ := nK lo hi its.toArray.size;unfold slicePick;rw [h1, h2, h3];simp only [sliceRange_one, pick_run, List.size_toArray] <;> rfl
noncomputable def Eg (K : PySem.W.Frag) : V → Option Int → Option Int → Hp → VK → Prop := fun x lo hi H Q => ∃ a xs, x = .ref a ∧ SqL K H a xs ∧ ∀ p, H p = none → Q (.ref p) (upd H p (.lst (t7 xs lo hi)))
theorem wz : SlR X (Eg X.K) := by
 intro pins s σ H x v vl vu lo hi sl Q I rx hs pl pu h;obtain ⟨a, xs, rfl, hx, q⟩ := h;cases rx;obtain ⟨its, r, ht, hz⟩ := I.list hx;have hlen := r.length;refine ⟨"list", _, slot_list_getitem.lookup, ht.isList.typeIs, ?_⟩;refine wpAny_getItem_list_slice ht.isList hs pl pu .none (by simp) ?_ (by rw [List.size_toArray] <;> lia)
 rw [lK, ← hlen];refine ⟨.ref s.heap.objs.size, _, I.laid (t' := s.toks) (o := .lst (t7 xs lo hi)) (fun b ob q => Heap.get?_push_of_some _ q) (Nat.le_refl _) ?_, rfl, q _ (I.hok.fresh (Nat.le_refl _))⟩
 exact ⟨Nat.le_trans (pI xs lo hi) hz, _, 0, (r.drop (HT.sIx xs.length 0 lo)).take (HT.sIx xs.length xs.length hi - HT.sIx xs.length 0 lo), Heap.get?_push_size _ rfl⟩
noncomputable def jL : V → Bool
 | .non => true
 | .bl _ => true
 | .int _ => true
 | .str _ => true
 | _ => false
noncomputable def eqV : V → V → Bool
 | .non, .non => true
 | .bl a, .bl b => a == b
 | .bl a, .int b => (if a then 1 else 0) == b
 | .int a, .bl b => a == (if b then 1 else 0)
 | .int a, .int b => a == b
 | .str a, .str b => a == b
 | _, _ => false
theorem Ag {A : Around} {s : Shared} {y x : V} {u v : Value} (ry : RelV y u) (rx : RelV x v) (fy : jL y = true) (fx : jL x = true) : SeqAt.EqAt A s u v (eqV y x) := by
 cases y with
 | non =>
  cases ry;cases x with
  | non => cases rx; exact SeqAt.EqAt.same _
  | bl b => cases rx; exact SeqAt.EqAt.none_bool b
  | int b => obtain ⟨t, rfl⟩ := rx; exact SeqAt.EqAt.none_int b t
  | str b => obtain ⟨t, rfl⟩ := rx; exact SeqAt.EqAt.none_str b t
  | _ => exact absurd (show false = true from fx) Bool.false_ne_true
 | bl a =>
  cases ry;cases x with
  | non => cases rx; exact SeqAt.EqAt.bool_none a
  | bl b => cases rx; exact SeqAt.EqAt.bool_bool a b
  | int b => obtain ⟨t, rfl⟩ := rx; exact SeqAt.EqAt.bool_int a b t
  | str b => obtain ⟨t, rfl⟩ := rx; exact SeqAt.EqAt.bool_str a b t
  | _ => exact absurd (show false = true from fx) Bool.false_ne_true
 | int a =>
  obtain ⟨t', rfl⟩ := ry;cases x with
  | non => cases rx; exact SeqAt.EqAt.int_none a t'
  | bl b => cases rx; exact SeqAt.EqAt.int_bool a t' b
  | int b => obtain ⟨t, rfl⟩ := rx; exact SeqAt.EqAt.int_int a t' b t
  | str b => obtain ⟨t, rfl⟩ := rx; exact SeqAt.EqAt.int_str a t' b t
  | _ => exact absurd (show false = true from fx) Bool.false_ne_true
 | str a =>
  obtain ⟨t', rfl⟩ := ry;cases x with
  | non => cases rx; exact SeqAt.EqAt.str_none a t'
  | bl b => cases rx; exact SeqAt.EqAt.str_bool a t' b
  | int b => obtain ⟨t, rfl⟩ := rx; exact SeqAt.EqAt.str_int a t' b t
  | str b => obtain ⟨t, rfl⟩ := rx; exact SeqAt.EqAt.str_str a t' b t
  | _ => exact absurd (show false = true from fx) Bool.false_ne_true
 | _ => exact absurd (show false = true from fy) Bool.false_ne_true
noncomputable def eqU (x : V) (u : Value) : Bool := match u with
 | .none => eqV .non x
 | .bool b => eqV (.bl b) x
 | .int i _ => eqV (.int i) x
 | .str z _ => eqV (.str z) x
 | _ => false
theorem uk {x y : V} {u : Value} (r : RelV y u) (f : jL y = true) : eqU x u = eqV y x := by
 cases y with
 | non => cases r; rfl
 | bl b => cases r; rfl
 | int i => obtain ⟨t, rfl⟩ := r; rfl
 | str z => obtain ⟨t, rfl⟩ := r; rfl
 | _ => exact absurd (show false = true from f) Bool.false_ne_true
theorem nh {x : V} : ∀ {xs : List V} {us : List Value}, Vals xs us → xs.all jL = true → us.any (eqU x) = xs.any fun y => eqV y x
 | _, _, .nil, _ => rfl
 | y :: xs, u :: us, .cons r t, f => by
  rw [List.all_cons, Bool.and_eq_true] at f;rw [List.any_cons, List.any_cons, uk r f.1, nh t f.2]
theorem lE {A : Around} {s : Shared} {x : V} {v : Value} (rx : RelV x v) (fx : jL x = true) : ∀ {xs : List V} {us : List Value}, Vals xs us → xs.all jL = true → ∀ u ∈ us, SeqAt.EqAt A s u v (eqU x u)
 | _, _, .nil, _ => fun u hu => by cases hu
 | y :: xs, u :: us, .cons r t, f => fun u' hu => by
  rw [List.all_cons, Bool.and_eq_true] at f;rcases List.mem_cons.mp hu with rfl | hu
  ·rw [uk r f.1]; exact Ag r rx f.1 fx
  ·exact lE rx fx t f.2 u' hu
noncomputable def inV (x : V) (xs : List V) : Bool := xs.any fun y => eqV y x
noncomputable def rIn (K : PySem.W.Frag) (neg : Bool) : R2 := fun x y H Q => ∃ p xs, y = .ref p ∧ (SqL K H p xs ∨ SqT K H p xs) ∧ jL x = true ∧ xs.all jL = true ∧ Q (.bl (if neg then !inV x xs else inV x xs)) H
theorem iX : OpR X (compareOp .In) (rIn X.K false) := by
 intro pins s σ H x y v u Q I rx ry h;obtain ⟨p, xs, rfl, hq, fx, fs, q⟩ := h;cases ry;rcases hq with hq | hq
 ·obtain ⟨its, r, pl, hz⟩ := I.list hq
  refine SeqAt.in_listAt (eqU x) pl.isList (fun w hw => lE rx fx r fs w (by simpa using hw)) ⟨.bl _, H, I, rfl, ?_⟩
  rw [show its.toArray.any (eqU x) = its.any (eqU x) by simp, nh r fs]
  exact q
 ·obtain ⟨its, r, pl, hz⟩ := I.tuple hq
  refine SeqAt.in_tupleAt (eqU x) pl (fun w hw => lE rx fx r fs w (by simpa using hw)) ⟨.bl _, H, I, rfl, ?_⟩
  rw [show its.toArray.any (eqU x) = its.any (eqU x) by simp, nh r fs]
  exact q
theorem ny : eh X (.builtin "len") (fun xs H Q => ∃ p ys, xs = [.ref p] ∧ (SqL X.K H p ys ∨ SqT X.K H p ys) ∧ Q (.int ys.length) H) := by
 intro pins s σ H xs us Q I r h;obtain ⟨p, ys, rfl, hq, q⟩ := h;obtain ⟨u, rfl, rx⟩ := vals1 r;cases rx;have hn := ju;rcases hq with hq | hq
 ·obtain ⟨its, r', pl, hz⟩ := I.list hq
  have hlen := r'.length;exact Calls.call_len_list pl.isList (by simp only [List.size_toArray] <;> lia) ⟨.int ys.length, H, I.tok _, ⟨s.toks + 1, by rw [List.size_toArray, hlen]⟩, q⟩
 ·obtain ⟨its, r', pl, hz⟩ := I.tuple hq
  have hlen := r'.length;exact len_tuple pl (by simp only [List.size_toArray] <;> lia) ⟨.int ys.length, H, I.tok _, ⟨s.toks + 1, by rw [List.size_toArray, hlen]⟩, q⟩
theorem mM : eh X (.builtin "len") (fun xs H Q => ∃ z, xs = [.str z] ∧ z.length ≤ sizeLine ∧ Q (.int z.length) H) := by
 intro pins s σ H xs us Q I r h;obtain ⟨z, rfl, hz, q⟩ := h;obtain ⟨u, rfl, t, rfl⟩ := vals1 r;have hn := ju;exact len_str (by lia) ⟨.int z.length, H, I.tok _, ⟨_, rfl⟩, q⟩
theorem eh.or {f : Value} {r r' : List V → Hp → VK → Prop} (h : eh X f r) (h' : eh X f r') : eh X f (fun xs H Q => r xs H Q ∨ r' xs H Q) := by
 intro pins s σ H xs us Q I rs q;rcases q with q | q
 ·exact h pins s σ H xs us Q I rs q
 ·exact h' pins s σ H xs us Q I rs q
theorem mL : eh X (.type "list") (fun xs H Q => ∃ p ys, xs = [.ref p] ∧ (SqL X.K H p ys ∨ SqT X.K H p ys) ∧ ∀ l, H l = none → Q (.ref l) (upd H l (.lst ys))) := by
 intro pins s σ H xs us Q I r h;obtain ⟨p, ys, rfl, hq, q⟩ := h;obtain ⟨u, rfl, rx⟩ := vals1 r;cases rx;have fin : ∀ (its : List Value), Vals ys its → ys.length ≤ sizeLine → ∀ (h' : Heap) (c' : Nat), (∀ b o', s.heap.get? b = some o' → h'.get? b = some o') →
   h'.get? s.heap.objs.size = some { cls := .type "list", dict := none, data := .seq its.toArray c', slots := #[] } → EP X pins σ Q (.ref s.heap.objs.size) { s with heap := h' } := fun its r' hz h' c' kp e =>
  ⟨.ref s.heap.objs.size, _, I.laid (t' := s.toks) kp (Nat.le_refl _) (show gy X.prog X.w _ h' _ (.lst ys) from ⟨hz, its, c', r', e⟩), rfl, q _ (I.hok.fresh (Nat.le_refl _))⟩
 rcases hq with hq | hq
 ·obtain ⟨its, r', pl, hz⟩ := I.list hq
  have hlen := r'.length;obtain ⟨o, ho, hc, n, hd⟩ := pl.isList;exact call_list_seq p (.inl rfl) ho hc hd (fun h' c' kp e => fin its r' hz h' c' kp e) (by simp only [List.size_toArray] <;> lia)
 ·obtain ⟨its, r', pl, hz⟩ := I.tuple hq
  have hlen := r'.length;obtain ⟨o, ho, hc, n, hd⟩ := pl;exact call_list_seq p (.inr rfl) ho hc hd (fun h' c' kp e => fin its r' hz h' c' kp e) (by simp only [List.size_toArray] <;> lia)
noncomputable def tyV (K : PySem.W.Frag) (T : String) (x : V) (H : Hp) : Prop := match x with
 | .str _ => T = "str"
 | .int _ => T = "int"
 | .ref p => (T = "list" ∧ ∃ xs, SqL K H p xs) ∨ (T = "tuple" ∧ ∃ o, K.lookup p = some o ∧ o.cls = .type "tuple" ∧ o.dict = none) ∨
   (T = "dict" ∧ ((∃ kvs, H p = some (.dK kvs)) ∨ ∃ kvs, H p = some (.dT kvs))) ∨ (T = "set" ∧ ∃ S n, H p = some (.set S n))
 | _ => False
theorem uW {pins : List (Addr × Obj)} {σ : St} {H : Hp} {s : Shared} {T : String} {x : V} {v : Value} (I : Inv X pins σ H s) (r : RelV x v) (ty : tyV X.K T x H) :
  s.TypeIs v T ∧ ∀ a, v = .ref a → ∃ ob, s.heap.get? a = some ob ∧ ob.dict = none := by
 cases x with
 | str z =>
  obtain ⟨t, rfl⟩ := r;cases (show T = "str" from ty)
  exact ⟨typeIs_str s z t, fun _ e => nomatch e⟩
 | int i =>
  obtain ⟨t, rfl⟩ := r;cases (show T = "int" from ty)
  exact ⟨typeIs_int s i t, fun _ e => nomatch e⟩
 | ref p =>
  cases r;rcases ty with ⟨rfl, xs, hq⟩ | ⟨rfl, o, hk, hc, hd⟩ | ⟨rfl, hk⟩ | ⟨rfl, S, n, hk⟩
  ·obtain ⟨its, _, pl, _⟩ := I.list hq
   refine ⟨pl.isList.typeIs, fun a e => ?_⟩
   cases e;obtain ⟨o, n, e, c, hd, _⟩ := pl;exact ⟨o, e, hd⟩
  ·refine ⟨⟨o, I.kIn p o hk, hc⟩, fun a e => ?_⟩
   cases e;exact ⟨o, I.kIn _ o hk, hd⟩
  ·have z : ∃ o, s.heap.get? p = some o ∧ o.ExactDict := by
    rcases hk with ⟨kvs, hk⟩ | ⟨kvs, hk⟩
    ·obtain ⟨_, _, _, _, o, _, _, e, ex, _⟩ := I.hok p _ hk
     exact ⟨o, e, ex⟩
    ·obtain ⟨_, _, _, _, o, _, _, e, ex, _⟩ := I.hok p _ hk
     exact ⟨o, e, ex⟩
   obtain ⟨o, e, ex⟩ := z;refine ⟨⟨o, e, ex.1⟩, fun a e2 => ?_⟩
   cases e2;exact ⟨o, e, ex.2.1⟩
  ·obtain ⟨o, _, _, _, e, ex, _⟩ := I.hok p _ hk
   refine ⟨⟨o, e, ex.1⟩, fun a e2 => ?_⟩
   cases e2;exact ⟨o, e, ex.2.1⟩
 | _ => exact False.elim ty
noncomputable def zb (K : PySem.W.Frag) (T : String) (r : V → List V → Hp → VK → Prop) (to : TE) : TE := fun σ H Q => to σ H fun x H1 => tyV K T x H1 ∧ r x [] H1 Q
noncomputable def tBM (K : PySem.W.Frag) (T : String) (r : V → List V → Hp → VK → Prop) (to : TE) (t : TA) : TE := fun σ H Q => to σ H fun x H1 => tyV K T x H1 ∧ t σ H1 fun xs H2 => r x xs H2 Q
variable {o e : Expr} {es : List Expr} {to : TE} {t : TA} {name : Str} {apos cpos : Pos} {T id : String} {r : V → List V → Hp → VK → Prop}
theorem ze (pa : PlainAttrs T) (slot : Slot T name id) (hty : typeOf (.builtin id) = pure (.type "method_descriptor")) (hm : MtR X id r) (ho : PE X o to)
  (hbase : attributeBase o name X.env (eval o X.env) = eval o X.env := by rfl) (hline : (apos.endLine == cpos.line) = true := by rfl) : PE X (.Call (.Attribute o name apos) [] [] cpos) (zb X.K T r to) := by
 intro pins s σ H Q I h;refine wpAny_Call_method0_late hbase hline (thn (ho pins s σ H _ I h) fun v s1 ⟨x, H1, I1, r1, ty, q1⟩ => ?_)
 obtain ⟨h1, h2⟩ := uW I1 r1 ty;exact ⟨T, id, pa, slot, hty, h1, h2, Calls.callWith_builtin rfl (PySem.evalArgs_none (hm pins s1 σ H1 x [] v [] Q I1 r1 .nil q1))⟩
theorem oq (pa : PlainAttrs T) (slot : Slot T name id) (hty : typeOf (.builtin id) = pure (.type "method_descriptor")) (hm : MtR X id r) (ho : PE X o to) (ha : PA X (e :: es) t)
  (hbase : attributeBase o name X.env (eval o X.env) = eval o X.env := by rfl)
  (hfew : ((backTo cpos (starEach (e :: es) X.env)).all (fun x => !x.1) && (backToKw cpos (keywordEach [] X.env)).all (fun x => x.1.isSome)
   && decide ((e :: es).length + ([] : List Keyword).length + (if ([] : List Keyword).isEmpty then 0 else 1) < 30)) = true := by rfl)
  (hline : (apos.endLine == cpos.line) = true := by rfl) (hs : starEach (e :: es) X.env = (false, eval e X.env) :: starEach es X.env := by rfl) (hplain : (backTo cpos (starEach es X.env)).any (·.1) = false := by rfl) :
  PE X (.Call (.Attribute o name apos) (e :: es) [] cpos) (tBM X.K T r to t) := by
 intro pins s σ H Q I h;refine wpAny_Call_method_late hbase hfew hline rfl (thn (ho pins s σ H _ I h) fun v s1 ⟨x, H1, I1, r1, ty, q1⟩ => ?_)
 obtain ⟨h1, h2⟩ := uW I1 r1 ty;refine ⟨T, id, pa, slot, hty, h1, h2, ?_⟩;have hA := ha cpos pins s1 σ H1 _ I1 q1;rw [hs] at hA ⊢;refine Calls.callWith_builtin (by show (false || (backTo cpos (starEach es X.env)).any (·.1)) = false; rw [hplain] <;> rfl) (Calls.evalArgs_plain ?_)
 exact thn hA fun us s2 ⟨vs, H2, I2, r2, q2⟩ => hm pins s2 σ H2 x vs v us Q I2 r1 r2 q2
end
end L2
namespace L2
open PySem PySem.Spec PyProof.Rows
noncomputable def MtM (X : Cx) (id : String) (r : V → List V → Hp → VK → Prop) : Prop :=
 ∀ (pins : List (Addr × Obj)) (s : Shared) (σ : St) (H : Hp) (x : V) (xs : List V) (v : Value) (us : List Value) (Q : VK), Inv X pins σ H s → RelV x v → Vals xs us → r x xs H Q →
  wpAny (model X.prog X.w) X.A (call (.builtin id) (v :: us)) (EP X pins σ Q) X.xe s
theorem Vals.one {x : V} {us : List Value} (h : Vals [x] us) : ∃ u, us = [u] ∧ RelV x u := by
 cases h with
 | cons r t => cases t; exact ⟨_, rfl, r⟩
theorem Vals.two {x y : V} {us : List Value} (h : Vals [x, y] us) : ∃ u v, us = [u, v] ∧ RelV x u ∧ RelV y v := by
 cases h with
 | cons r t => obtain ⟨v, rfl, q⟩ := Vals.one t; exact ⟨_, v, rfl, r, q⟩
theorem Vals.zero : ∀ {us : List Value}, Vals [] us → us = []
 | _, .nil => rfl
theorem Vals.dropLast {xs : List V} {us : List Value} (h : Vals xs us) : Vals xs.dropLast us.dropLast := by
 induction h with
 | nil => exact .nil
 | cons r t ih =>
  cases t with
  | nil => exact .nil
  | cons q t' => exact .cons r ih
theorem Vals.rep {xs : List V} {us : List Value} (h : Vals xs us) : ∀ k : Nat, Vals (List.replicate k xs).flatten (List.replicate k us).flatten
 | 0 => .nil
 | k + 1 => by
  rw [List.replicate_succ, List.replicate_succ, List.flatten_cons, List.flatten_cons];exact Vals.append h (Vals.rep h k)
theorem p8 {α : Type} (l : List α) : l.eraseIdx (l.length - 1) = l.dropLast := by
 induction l with
 | nil => rfl
 | cons a r ih =>
  cases r with
  | nil => rfl
  | cons b r =>
   have e : (a :: b :: r).length - 1 = ((b :: r).length - 1) + 1 := by
    have h1 : (a :: b :: r).length = r.length + 2 := rfl;have h2 : (b :: r).length = r.length + 1 := rfl
    lia
   rw [e, List.eraseIdx_cons_succ, ih]
   all_goals rfl
theorem foldl_rep (its : List Value) : ∀ (k : Nat) (acc : List Value),
  List.foldl (fun x1 x2 => x1 ++ x2) acc.toArray (List.replicate k its.toArray) = (acc ++ (List.replicate k its).flatten).toArray
 | 0, acc => by simp
 | k + 1, acc => by
  have e : acc.toArray ++ its.toArray = (acc ++ its).toArray := by simp
  have e2 : (acc ++ its) ++ (List.replicate k its).flatten = acc ++ (List.replicate (k + 1) its).flatten := by
   rw [List.replicate_succ, List.flatten_cons, List.append_assoc]
  rw [← e2, ← foldl_rep its k (acc ++ its), ← e, List.replicate_succ, List.foldl_cons]
section
variable {X : Cx} {pins : List (Addr × Obj)} {σ : St} {H : Hp} {s : Shared} {l b : Addr} {xs ys zs : List V}
theorem Inv.lset {its its' : List Value} {n : Nat} {f : Array Value → Array Value} {t' : Nat} (I : Inv X pins σ H s) (hH : H l = some (.lst xs))
  (e : s.heap.get? l = some { cls := .type "list", data := .seq its.toArray n }) (hf : f its.toArray = its'.toArray) (hv : Vals ys its') (hz : ys.length ≤ sizeLine) :
  Inv X pins σ (upd H l (.lst ys)) { s with heap := s.heap.update l (Obj.mapSeq f), toks := t' } := by
 have q := PySem.IsL.update e f;rw [hf] at q;refine I.write (x := l) (e := l) (by rw [hH]; exact trivial) (.inl rfl) (fun b' u hb hu => (Heap.get?_update_other s.heap (Obj.mapSeq f) (Ne.symm hb)).trans hu) ⟨_, q⟩ ?_
 exact ⟨hz, its', _, hv, q⟩
theorem Inv.lnew {its : List Value} {t' : Nat} (I : Inv X pins σ H s) (hv : Vals ys its) (hz : ys.length ≤ sizeLine) :
  Inv X pins σ (upd H s.heap.objs.size (.lst ys)) { s with heap := s.heap.push { cls := .type "list", data := .seq its.toArray }, toks := t' } :=
 I.laid (fun _ _ q => Heap.get?_push_of_some _ q) (Nat.le_refl _) ⟨hz, its, 0, hv, Heap.get?_push_size _ rfl⟩
theorem Inv.fresh (I : Inv X pins σ H s) : H s.heap.objs.size = none := I.hok.fresh (Nat.le_refl _)
theorem Inv.lstM (I : Inv X pins σ H s) (hH : H l = some (.lst xs)) : xs.length ≤ sizeLine ∧ ∃ (its : List Value) (n : Nat), Vals xs its ∧ xs.length = its.length ∧ s.heap.get? l = some { cls := .type "list", data := .seq its.toArray n } := by
 obtain ⟨z, its, n, r, e⟩ := I.hok l _ hH;exact ⟨z, its, n, r, r.length, e⟩
theorem pL {n : Nat} (h : n ≤ sizeLine) : Builtin.List.listTooLong n = false := by
 unfold Builtin.List.listTooLong;exact decide_eq_false (by lia)
end
section
variable {X : Cx}
noncomputable def m7 : V → List V → Hp → VK → Prop := fun x vs H Q => ∃ l xs y, x = .ref l ∧ vs = [y] ∧ H l = some (.lst xs) ∧ xs.length < sizeLine ∧ Q .non (upd H l (.lst (xs ++ [y])))
theorem iQ : MtM X "list.append" m7 := by
 intro pins s σ H x vs v us Q I rx rv h;obtain ⟨l, xs, y, rfl, rfl, hH, hz, q⟩ := h;cases rx;obtain ⟨u, rfl, ru⟩ := rv.one;obtain ⟨z, its, n, r, hl, e⟩ := I.lstM hH;refine call_meets F.slot_list_append ⟨_, e, rfl⟩ F.entry_list_append (F.args_list_append_2 _ _) (PySem.list_append l its.toArray n u (by rw [List.size_toArray]; lia)) ⟨e, ?_⟩
 refine ⟨.non, _, I.lset (its' := its ++ [u]) hH e (by simp) (r.append (.cons ru .nil)) ?_, rfl, q⟩
 rw [List.length_append, List.length_singleton]
 lia
noncomputable def og : V → List V → Hp → VK → Prop := fun x vs H Q => ∃ l b xs zs, x = .ref l ∧ vs = [.ref b] ∧ H l = some (.lst xs) ∧ H b = some (.lst zs) ∧ xs.length + zs.length ≤ sizeLine ∧ Q .non (upd H l (.lst (xs ++ zs)))
theorem mq : MtM X "list.extend" og := by
 intro pins s σ H x vs v us Q I rx rv h;obtain ⟨l, b, xs, zs, rfl, rfl, hH, hB, hz, q⟩ := h;cases rx;obtain ⟨u, rfl, ru⟩ := rv.one;cases ru;obtain ⟨z, its, n, r, hl, e⟩ := I.lstM hH;obtain ⟨z2, its2, n2, r2, hl2, e2⟩ := I.lstM hB;have hsz : its.toArray.size + its2.toArray.size ≤ sizeLine := by rw [List.size_toArray, List.size_toArray]; lia
 have hlong : ¬ (!its.toArray.isEmpty && Builtin.List.listTooLong (its.toArray.size + its2.toArray.size)) = true := by
  rw [pL hsz, Bool.and_false];exact Bool.false_ne_true
 refine call_meets F.slot_list_extend ⟨_, e, rfl⟩ F.entry_list_extend (F.args_list_extend_2 _ _)
  (AutoSeq1.list_extend_list_list_0 l its.toArray n b its2.toArray n2 hlong (by rw [List.size_toArray]; lia) (by lia)) ⟨e, e2, ?_⟩
 refine ⟨.non, _, I.lset (its' := its ++ its2) hH e (by simp) (r.append r2) ?_, rfl, q⟩
 rw [List.length_append]
 lia
noncomputable def EW : V → List V → Hp → VK → Prop := fun x vs H Q => ∃ l xs y, x = .ref l ∧ vs = [] ∧ H l = some (.lst xs) ∧ xs[xs.length - 1]? = some y ∧ Q y (upd H l (.lst xs.dropLast))
theorem EU : MtM X "list.pop" EW := by
 intro pins s σ H x vs v us Q I rx rv h;obtain ⟨l, xs, y, rfl, rfl, hH, hy, q⟩ := h;cases rx;have hus := rv.zero;subst hus;obtain ⟨z, its, n, r, hl, e⟩ := I.lstM hH;obtain ⟨u, hu, ru⟩ := r.get hy;have hy' : its.toArray[its.toArray.size - 1]? = some u := by
  show its.toArray[its.length - 1]? = some u
  rw [← Array.getElem?_toList, ← hl];exact hu
 refine call_meets F.slot_list_pop ⟨_, e, rfl⟩ F.entry_list_pop (F.args_list_pop_1 _) (MeetsSeq.list_pop_last l its.toArray n u hy' (by rw [List.size_toArray]; lia)) ⟨e, ?_⟩
 refine ⟨y, _, I.lset (its' := its.dropLast) hH e ?_ r.dropLast ?_, ru, q⟩
 ·show its.toArray.eraseIdxIfInBounds (its.toArray.size - 1) = its.dropLast.toArray
  rw [List.size_toArray, List.eraseIdxIfInBounds_toArray, p8]
 ·rw [List.length_dropLast]
  lia
noncomputable def tN : V → List V → Hp → VK → Prop := fun x vs H Q => ∃ l xs, x = .ref l ∧ vs = [] ∧ H l = some (.lst xs) ∧ Q .non (upd H l (.lst []))
theorem vT : MtM X "list.clear" tN := by
 intro pins s σ H x vs v us Q I rx rv h;obtain ⟨l, xs, rfl, rfl, hH, q⟩ := h;cases rx;have hus := rv.zero;subst hus;obtain ⟨z, its, n, r, hl, e⟩ := I.lstM hH;refine call_meets F.slot_list_clear ⟨_, e, rfl⟩ F.entry_list_clear (F.args_list_clear_1 _) (AutoSeq1.list_clear_list_0 l its.toArray n (by rw [List.size_toArray]; lia)) ⟨e, ?_⟩
 exact ⟨.non, _, I.lset (its' := []) (ys := []) hH e rfl .nil (Nat.zero_le _), rfl, q⟩
theorem len_rep {α : Type} (xs : List α) (k : Nat) : (List.replicate k xs).flatten.length = k * xs.length := by
 induction k with
 | zero => simp
 | succ k ih => rw [List.replicate_succ, List.flatten_cons, List.length_append, ih, Nat.succ_mul, Nat.add_comm]
end
section
variable {prog : Program} {w : World} {A : Around} {E : Value → Shared → Prop} {s : Shared}
set_option maxRecDepth 100000 in
end
section
variable {X : Cx}
end
end L2
namespace Att
open PySem PySem.W PySem.Calls PyProof.Rows
theorem kx {P : Params} {h : Heap} : ∀ (ns : List Int) (vs : List Value), WellAll P h vs (ns.map WData.int) → IntsAre vs ns := by
 intro ns
 induction ns with
 | nil =>
  intro vs w;rw [List.map_nil] at w;cases w;exact .nil
 | cons n ns ih =>
  intro vs w;rw [List.map_cons] at w;cases w with
  | cons a b =>
   cases a;exact .cons _ _ (ih _ b)
theorem sC {l : OpenLaw} {n : Nat} (hn : l.most = some n) {P : Params} {h : Heap} {args : List WData} {vals : List Value}
  (hpre : l.row.toRowW.claim.pre args = true) (hwl : WellAll P h vals args) :
  ∃ a vs ns, vals = [Value.ref a] ∧ args = [WData.list (ns.map WData.int)] ∧ h.get? a = some { cls := .type "list", data := .seq vs.toArray } ∧ IntsAre vs ns ∧ ns.length ≤ n := by
 have hsh : WShape.hasAll [] args [.list .int] = true := (pre_splitW hpre).1;have hc : l.pre.holds [] { args := args } = true := (pre_splitW hpre).2;obtain ⟨d, r, rfl, h1, h2⟩ := hasAllW_cons hsh;obtain rfl := hasAllW_nil h2;obtain ⟨xs, rfl, h3⟩ := hasW_list h1;obtain ⟨ns, rfl⟩ := items_int h3;have hlen : ns.length ≤ n := by
  unfold OpenLaw.pre at hc;have h4 : (WTm.not (.lt (.lit (.int (n : Int))) (.len (.arg 0)))).holds [] { args := [.list (ns.map .int)] } = true := by
   have h4 := (holds_andW hc).1;rw [hn] at h4;exact h4
  have h5 := condW_of h4 (w_not (w_lt w_lit (w_len_list (w_arg rfl))));rw [List.length_map] at h5;refine Nat.le_of_not_lt fun q => ?_
  have q' : (n : Int) < ((ns.length : Nat) : Int) := by lia
  first
   | (rw [decide_eq_true q'] at h5; exact absurd h5 (by decide))
   | (simp at h5; lia)
 cases hwl with
 | cons w1 w2 =>
  cases w2;cases w1 with
  | list ho hall => exact ⟨_, _, ns, rfl, rfl, ho, kx ns _ hall, hlen⟩
theorem sY (l : OpenLaw) (args : List WData) : l.row.toRowW.claim.post args (.bool true) args = true :=
 postW_of (r := l.row.toRowW) (X := (true == true))
  (show WShape.has [] (.bool true) .bool = true by first | rfl | decide | simp [WShape.has, WShape.arms, WShape.armsAll])
  (show (WTm.eq .res (.lit (.bool true))).value [] { args := args, res := some (.bool true), after := args } = some (.bool (true == true)) from w_eq_bool (w_res rfl) w_lit) rfl
theorem km {l : OpenLaw} {n : Nat} {q : Program} {loose : List Str} {XP : (Str → Option Value) → Heap → Prop} {YP : World → Heap → Prop} {d : DefRec}
  (hn : l.most = some n) (hdf : d.params.defaults = [])
  (call : ∀ (w : World) (s₀ s₁ : Shared) (mg mb : Str → Option Value) (fa : Addr) (o : Obj) (pm cd doc : Value) (a : Addr) (vs : List Value) (ns : List Int),
   Ground q loose [] XP w s₀ mg mb s₁.heap → YP w s₁.heap →
   s₁.heap.get? fa = some o → o.data = .func (docDef d.name d.params d.body d.scope pm cd doc) → s₁.heap.CodeRec cd d.name → mg d.name = some (.ref fa) →
   s₁.heap.get? a = some { cls := .type "list", data := .seq vs.toArray } → IntsAre vs ns → ns.length ≤ n → s₁.gens = #[] →
   codeAny (model l.prog w) callerA (.call (.ref fa) ⟨[.ref a], []⟩) (fun r s' => r = .ok (.ret (.bool true)) ∧ OldK s₁.heap s'.heap ∧ s'.os = s₁.os ∧ AllBare s'.gens) s₁) :
  WalkO q loose XP YP l.row.toRowW d [] (fun f vs => PySem.call f vs) := by
 intro w s₀ s₁ mg mb G Y fa o pm cd doc dV kV ho hd hcd hD hmg hg args vals as hpre hlay hrd hwl hlo;obtain rfl : dV = .none := Dflts.none hD hdf;obtain rfl : kV = .none := Dflts.noKw hD;obtain ⟨a, vs, ns, rfl, rfl, hobj, hints, hlen⟩ := sC hn hpre hwl;refine enter_call (codeAny_mono (call w s₀ s₁ mg mb fa o pm cd doc a vs ns G Y ho (fd_plain hd) hcd hmg hobj hints hlen hg) fun r s' hq => ?_)
 obtain ⟨rfl, h2, h3, h4⟩ := hq;exact ⟨.inl ⟨.bool true, .bool true, [], rfl, fun _ => rfl, .bool true, sY l _, fun _ => ⟨List.Pairwise.nil, fun _ hm => (nomatch hm)⟩⟩, h2, h3, h4⟩
section
variable {prog : Program} {w : World} {A : Around} {E : Value → Shared → Prop} {s : Shared} {K : Frag}
noncomputable def ledger (h : Heap) (L d : Addr) : List (Addr × Obj) := (List.range h.objs.size).filterMap fun a => if a = L ∨ a = d then none else (h.get? a).map fun o => (a, o)
end
end Att
namespace L2
open PySem PySem.Spec PyProof.Rows
theorem gZ : ∀ {vs : List Value} {ns : List Int}, IntsAre vs ns → Vals (ns.map V.int) vs
 | _, _, .nil => .nil
 | _, _, .cons n t h => .cons ⟨t, rfl⟩ (gZ h)
noncomputable def r9 (H : Hp) : Prop := ∀ b, H b = none ∨ ∃ o xs, H b = some (.frz o (.lst xs))
theorem tF {P : Program} {w : World} {K : PySem.W.Frag} {mg mb : Str → Option Value} {CX : CXT} {k : Nat} {fa a : Addr} {fd : FuncData} {x : Str} {sp : Sp} {s₁ : Shared} {vs : List Value} {ns : List Int}
  (KX : K.In s₁.heap) (hns : s₁.heap.Ns mainGlobals mg) (hb : s₁.heap.Ns builtinsNs mb) (hbb : ∀ x : Str, x ≠ "__name__" → mb x = bootBuiltins x) (hlim : s₁.heap.NoLimit) (hg : s₁.gens = #[])
  (ha : s₁.heap.get? a = some { cls := .type "list", data := .seq vs.toArray }) (hi : IntsAre vs ns) (hl : ns.length ≤ sizeLine) (hr : Room k callerA)
  (F : ∀ base : Heap, K.In base → base.Ns mainGlobals mg → FnOk P w K mg base CX k fa fd [x] sp) (hbind : ∀ (s : Shared) (u : Value), BindsTo s fd ⟨[u], []⟩ [(x, u)])
  (hsp : ∀ H : Hp, r9 H → SqL K H a (ns.map V.int) → sp [.ref a] H (fun v _ => v = .bl true) fun _ _ _ => False)
  (hCX : ∀ H e s', CX [] H s₁ (fun _ _ _ => False) e s' → False) :
  codeAny (model P w) callerA (.call (.ref fa) ⟨[.ref a], []⟩) (fun r s' => r = .ok (.ret (.bool true)) ∧ OldK s₁.heap s'.heap ∧ s'.os = s₁.os ∧ AllBare s'.gens) s₁ := by
 have rv := gZ hi;have lenV := hi.length;have core : ∀ H : Hp, r9 H → SqL K H a (ns.map V.int) → HOk P w H s₁.heap → (∀ b, H b ≠ none → b = a) → (H a ≠ none → K.lookup a = none) →
   codeAny (model P w) callerA (.call (.ref fa) ⟨[.ref a], []⟩) (fun r s' => r = .ok (.ret (.bool true)) ∧ OldK s₁.heap s'.heap ∧ s'.os = s₁.os ∧ AllBare s'.gens) s₁ := by
  intro H hO hS hok hA hK;have base_of : ∀ {b : Addr} {o : Obj}, s₁.heap.get? b = some o → H b = none → (jB s₁.heap H).get? b = some o := fun e n => oO e n
  have noA : ∀ {b : Addr} {o : Obj} {es : Array DictEntry} {ep : Nat}, s₁.heap.get? b = some o → o.data = .dict es ep → H b = none := fun {b o es ep} e d => by
   cases q : H b with
   | none => rfl
   | some u =>
    have e' : b = a := hA b (by rw [q]; simp)
    subst e';rw [ha] at e; cases e;have d' : Data.seq vs.toArray _ = Data.dict es ep := d;cases d'
  have nsK : ∀ {b : Addr} {m : Str → Option Value}, s₁.heap.Ns b m → (jB s₁.heap H).Ns b m := fun {b m} ⟨o, es, ep, e, d, r⟩ => ⟨o, es, ep, base_of e (noA e d), d, r⟩
  have hKb : K.In (jB s₁.heap H) := fun b o e => base_of (KX b o e) (by
   cases q : H b with
   | none => rfl
   | some u =>
    have e' : b = a := hA b (by rw [q]; simp)
    subst e';rw [hK (by rw [q]; simp)] at e; cases e)
  have hM : Mod K mg (jB s₁.heap H) := ⟨hKb, nsK hns, ⟨mb, nsK hb, hbb⟩, let ⟨mc, h1, h2⟩ := hlim; ⟨mc, nsK h1, h2⟩⟩;have e0 : Env0 P w K mg (jB s₁.heap H) callerA [] s₁ H := ⟨rfl, hM, fun b o e => rF e, Nat.le_of_eq (mm _ _), trivial, fun b hb => absurd (show b ∈ ([] : List Addr) from hb) (by simp), hok, .of_eq hg⟩
  refine codeAny_mono ((F _ hKb (nsK hns)).run callerA [] s₁ H ⟨[.ref a], []⟩ [.ref a] [.ref a] _ _ hr e0 (hbind s₁ (.ref a)) (.cons rfl .nil) (hsp H hO hS)) fun r s' h => ?_
  cases r with
  | error e => exact (hCX H e s' h).elim
  | ok fl =>
   cases fl with
   | next => exact False.elim h
   | brk => exact False.elim h
   | cont => exact False.elim h
   | ret u =>
    obtain ⟨v, H', os, bare, un, hok', r', q⟩ := h;have q' : v = .bl true := q;subst q';obtain rfl : u = Value.bool true := r';refine ⟨rfl, OldK.of_keep fun b o e => ?_, os, bare⟩
    cases q : H b with
    | none => exact un.keep b o e q (by intro z; exact absurd (show b ∈ ([] : List Addr) from z) (by simp)) (by simp)
    | some u =>
     rcases hO b with z | ⟨ob, xs, z⟩
     ·rw [q] at z; cases z
     ·have z2 := un.frzs b ob _ z
      obtain ⟨e1, _⟩ := hok b _ z;obtain ⟨e2, _⟩ := hok' b _ z2;rw [e] at e1; cases e1;exact e2
 cases hk : K.lookup a with
 | some o =>
  have e := KX a o hk;rw [ha] at e;cases e;refine core (fun _ => none) (fun _ => .inl rfl) (.inr ⟨_, vs.toArray, _, hk, rfl, rfl, rfl, by rw [List.size_toArray, lenV]; exact hl, by simpa using rv⟩) (fun b u z => by have z' : (none : Option HO) = some u := z; cases z') (fun b z => absurd rfl z) fun z => absurd rfl z
 | none =>
  refine core (fun b => if b = a then some (.frz { cls := .type "list", data := .seq vs.toArray } (.lst (ns.map V.int))) else none) (fun b => ?_) (.inl (.inr ⟨{ cls := .type "list", data := .seq vs.toArray }, if_pos rfl⟩)) (fun b u z => ?_) (fun b z => ?_) fun _ => hk
  ·by_cases hb : b = a
   ·exact .inr ⟨_, _, if_pos hb⟩
   ·exact .inl (if_neg hb)
  ·by_cases hb : b = a
   ·have z' := (if_pos hb).symm.trans z
    cases z';subst hb;exact ⟨ha, by rw [List.length_map]; exact hl, vs, _, rv, ha⟩
   ·have z' := (if_neg hb).symm.trans z
    cases z'
  ·by_cases hb : b = a
   ·exact hb
   ·exact absurd (if_neg hb) z
end L2
namespace L2
open PySem PySem.Spec PyProof.Rows
noncomputable abbrev KOf {K : PySem.W.Frag} {h : Heap} (_ : K.In h) : PySem.W.Frag := K
theorem ET {l : PySem.W.OpenLaw} {n k : Nat} {q : Program} {loose : List Str} {XP : (Str → Option Value) → Heap → Prop} {YP : World → Heap → Prop} {d : DefRec} {K : Params → PySem.W.Frag} {CX : World → CXT} {sp : World → Sp} {x : Str}
  (hn : l.most = some n) (hn2 : n ≤ sizeLine) (hdf : d.params.defaults = []) (hr : Room k callerA)
  (hY : ∀ (w : World) (h : Heap), YP w h → (K w.params).In h)
  (F : ∀ (w : World) (mg : Str → Option Value) (fa : Addr) (h : Heap), (K w.params).In h → h.Ns mainGlobals mg → mg d.name = some (.ref fa) →
   ∃ fd : FuncData, (∀ (s : Shared) (u : Value), BindsTo s fd ⟨[u], []⟩ [(x, u)]) ∧
    ∀ base : Heap, (K w.params).In base → base.Ns mainGlobals mg → FnOk l.prog w (K w.params) mg base (CX w) k fa fd [x] (sp w))
  (hsp : ∀ (w : World) (H : Hp) (a : Addr) (ns : List Int), ns.length ≤ n → r9 H → SqL (K w.params) H a (ns.map V.int) → sp w [.ref a] H (fun v _ => v = .bl true) fun _ _ _ => False)
  (hCX : ∀ (w : World) (H : Hp) (s : Shared) (e : Value) (s' : Shared), CX w [] H s (fun _ _ _ => False) e s' → False) :
  PySem.W.WalkO q loose XP YP l.row.toRowW d [] (fun f vs => PySem.call f vs) := by
 refine Att.km hn hdf fun w s₀ s₁ mg mb fa o pm cd doc a vs ns G Y ho hd hcd hmg hobj hints hlen hg => ?_
 have KX := hY w _ Y;obtain ⟨fd, hb, hF⟩ := F w mg fa _ KX G.T.g hmg;exact tF KX G.T.g G.T.b G.T.builtins G.T.nolimit hg hobj hints (Nat.le_trans hlen hn2) hr hF hb (fun H hO hS => hsp w H a ns hlen hO hS) fun H e s' => hCX w H s₁ e s'
end L2
namespace L2
open PySem PySem.Spec PyProof.Rows
noncomputable def aH (s : Stmt) : Arguments := match s with
 | .FunctionDef _ a _ _ _ _ _ _ _ _ => a
 | _ => { posonlyargs := [], args := [], vararg := none, kwonlyargs := [], kw_defaults := [], kwarg := none, defaults := [] }
noncomputable def aF (s : Stmt) : List Stmt := match s with
 | .FunctionDef _ _ b _ _ _ _ _ _ _ => b
 | _ => []
noncomputable def ag (s : Stmt) : Scope := match s with
 | .FunctionDef _ _ _ _ _ _ sc _ _ _ => sc
 | _ => { kind := .function, names := [], isGenerator := false, isCoroutine := false }
noncomputable abbrev CX0 : CXT := fun _ _ _ _ _ _ => False
noncomputable abbrev E0 : XK := fun _ _ _ => False
structure Fun (K : PySem.W.Frag) (x qual : Str) (st : Stmt) (f : Addr) (fd : FuncData) : Prop where
 ex : ∃ (oc : Value) (od : Option Addr) (kV doc pm : Value) (an : Option Addr) (cdv ct : Value) (osl : Array (Option Value)),
  fd = PySem.W.fnOf x qual (aH st) (aF st) (ag st) .none kV doc pm an cdv ct ∧ K.lookup f = some ⟨oc, od, .func fd, osl⟩ ∧ PySem.W.codeIn K cdv qual = true
 kp : PySem.W.keepIn K (.ref f) = true
section
variable {P : Program} {w : World} {K : PySem.W.Frag} {mg : Str → Option Value} {base : Heap}
theorem Fun.ok {x qual : Str} {st : Stmt} {f : Addr} {fd : FuncData} {N ps : List Str} {k : Nat} {sp : Sp} (F : Fun K x qual st f fd) (S : FnScope N ps (ag st)) (len : ∀ vs H Q E, sp vs H Q E → vs.length = ps.length)
  (hbody : ∀ (cdv : Value) (A : Around) (outer : List Env) (s : Shared) (H : Hp) (vs : List V) (Q : VK) (E : XK), Room k (A.deeper (envOfC qual (ag st) s.heap.objs.size f cdv)) → sp vs H Q E →
   ∃ t, PSs (oG CX0 P w K mg base N qual (ag st) f cdv A outer s H E).nox (aF st) t ∧ t { nx := fun _ H' => Q .non H', rt := Q } (start N vs) H) : FnOk P w K mg base CX0 (k + 1) f fd ps sp := by
 obtain ⟨oc, od, kV, doc, pm, an, cdv, ct, osl, rfl, lk, hcd⟩ := F.ex;refine Cf lk hcd S len fun A outer s H vs Q E hr hsp => ?_
 obtain ⟨t, h, q⟩ := hbody cdv A outer s H vs Q E hr hsp;exact ⟨t, h.nox, q⟩
theorem Fun.binds {x qual : Str} {st : Stmt} {f : Addr} {fd : FuncData} {ps : List Str} (F : Fun K x qual st f fd)
  (h : ∀ (kV doc pm : Value) (an : Option Addr) (cdv ct : Value) (us : List Value), us.length = ps.length → bindArgs (PySem.W.fnOf x qual (aH st) (aF st) (ag st) .none kV doc pm an cdv ct) ⟨us, []⟩ = pure (ps.zip us)) : Binds K fd ps [] := by
 obtain ⟨oc, od, kV, doc, pm, an, cdv, ct, osl, rfl, lk, hcd⟩ := F.ex;exact .all (h kV doc pm an cdv ct)
theorem ba {x qual : Str} {st : Stmt} {f : Addr} {oc : Value} {od an : Option Addr} {osl : Array (Option Value)} {kV doc pm cdv ct : Value} (l : K.lookup f = some ⟨oc, od, .func (PySem.W.fnOf x qual (aH st) (aF st) (ag st) .none kV doc pm an cdv ct), osl⟩)
  (c : PySem.W.codeIn K cdv qual = true) (k : PySem.W.keepIn K (.ref f) = true) : Fun K x qual st f (PySem.W.fnOf x qual (aH st) (aF st) (ag st) .none kV doc pm an cdv ct) := ⟨⟨oc, od, kV, doc, pm, an, cdv, ct, osl, rfl, l, c⟩, k⟩
end
section
variable {X : Cx}
theorem pv (i : Nat) {x : Str} {pos : Pos} (hN : X.N[i]? = some x := by rfl) (hv : Vis X.env.scope x := by first | exact Or.inl rfl | exact Or.inr (Or.inl rfl) | exact Or.inr (Or.inr rfl)) (hd : (x == ("__debug__" : Str)) = false := by decide)
  (hcd : (x == ("__classdict__" : Str)) = false := by decide) : PE X (.Name x pos) (iB i) := fJ hN hv hd hcd
end
noncomputable def aK (H H' : Hp) : Prop := ∀ b o, H b = some o → H' b = some o
theorem aK.refl (H : Hp) : aK H H := fun _ _ h => h
theorem aK.trans {H H1 H2 : Hp} (a : aK H H1) (b : aK H1 H2) : aK H H2 := fun c o h => b c o (a c o h)
theorem aK.free {H H' : Hp} (e : aK H H') {l : Addr} (h : H' l = Option.none) : H l = Option.none := by
 cases q : H l with
 | none => rfl
 | some o =>
  rw [e l o q] at h;cases h
theorem aK.seq {K : PySem.W.Frag} {H H' : Hp} {a : Addr} {xs : List V} (e : aK H H') (h : SqL K H a xs) : SqL K H' a xs := by
 rcases h with (h | ⟨o, h⟩) | h
 ·exact .inl (.inl (e _ _ h))
 ·exact .inl (.inr ⟨o, e _ _ h⟩)
 ·exact .inr h
end L2
set_option maxHeartbeats 4000000
namespace L2
open PySem PySem.Spec PyProof.Rows
noncomputable def frees (env : Env) : List (Str × NameKind) → List (Str × Addr) → List (Str × Addr)
 | [], cs => cs
 | (n, k) :: r, cs => if (k == NameKind.free) = true then frees env r ((n, (env.cells.lookup n).getD 0) :: cs) else frees env r cs
theorem iP {env : Env} {x : Str} {c : Addr} : ∀ (l : List (Str × NameKind)) (cs : List (Str × Addr)), (∀ y ∈ l, y.2 = .free → ∃ c, env.cells.lookup y.1 = some c) →
  (∀ c, cs.lookup x = some c → env.cells.lookup x = some c) → (frees env l cs).lookup x = some c → env.cells.lookup x = some c
 | [], cs, _, hc, e => hc c e
 | (n, k) :: r, cs, hl, hc, e => by
  unfold frees at e;by_cases hk : (k == NameKind.free) = true
  ·rw [if_pos hk] at e
   obtain ⟨d, hd⟩ := hl (n, k) List.mem_cons_self (by simpa using hk)
   have hd' : env.cells.lookup n = some d := hd;refine iP r _ (fun y hy => hl y (List.mem_cons_of_mem _ hy)) (fun c' e' => ?_) e
   rw [List.lookup_cons] at e';cases hx : x == n with
   | true =>
    rw [hx] at e';have hxn : x = n := by simpa using hx
    rw [hd'] at e';rw [hxn, hd'];exact e'
   | false =>
    rw [hx] at e';exact hc c' e'
  ·rw [if_neg hk] at e
   exact iP r cs (fun y hy => hl y (List.mem_cons_of_mem _ hy)) hc e
theorem f9 {env : Env} {x : Str} : ∀ (l : List (Str × NameKind)) (cs : List (Str × Addr)), ((x, NameKind.free) ∈ l ∨ ∃ c, cs.lookup x = some c) → ∃ c, (frees env l cs).lookup x = some c
 | [], cs, h => by
  rcases h with h | h
  ·cases h
  ·exact h
 | (n, k) :: r, cs, h => by
  unfold frees;by_cases hk : (k == NameKind.free) = true
  ·rw [if_pos hk]
   refine f9 r _ ?_;rcases h with h | ⟨c, h⟩
   ·rcases List.mem_cons.mp h with e | e
    ·cases e
     exact .inr ⟨(env.cells.lookup x).getD 0, by rw [List.lookup_cons, beq_self_eq_true]⟩
    ·exact .inl e
   ·refine .inr ?_
    rw [List.lookup_cons];cases hx : x == n with
    | true => exact ⟨_, rfl⟩
    | false => exact ⟨c, h⟩
  ·rw [if_neg hk]
   refine f9 r _ ?_;rcases h with h | h
   ·rcases List.mem_cons.mp h with e | e
    ·cases e
     exact absurd rfl hk
    ·exact .inl e
   ·exact .inr h
theorem mH {env : Env} {x : Str} {k' : NameKind} : ∀ {names : List (Str × NameKind)}, ((names.map fun (n, k) => if (k == NameKind.free && env.scope.kind == .function && env.kindOf n == some .cell) then (n, NameKind.cell) else (n, k)).lookup x = some k') →
  ∃ k, names.lookup x = some k ∧ (k' = k ∨ (k = .free ∧ k' = .cell))
 | [], h => by simp at h
 | (n, k) :: r, h => by
  rw [List.map_cons] at h
  dsimp only at h
  rw [List.lookup_cons];by_cases hc : (k == NameKind.free && env.scope.kind == .function && env.kindOf n == some .cell) = true
  ·rw [if_pos hc, List.lookup_cons] at h
   cases hx : x == n with
   | true =>
    rw [hx] at h;cases h;have hk : k = .free := by
     rw [Bool.and_eq_true, Bool.and_eq_true] at hc
     simpa using hc.1.1
    exact ⟨k, rfl, .inr ⟨hk, rfl⟩⟩
   | false =>
    rw [hx] at h;exact mH h
  ·rw [if_neg hc, List.lookup_cons] at h
   cases hx : x == n with
   | true =>
    rw [hx] at h;cases h;exact ⟨_, rfl, .inl rfl⟩
   | false =>
    rw [hx] at h;exact mH h
theorem gp {env : Env} {x : Str} : ∀ {names : List (Str × NameKind)}, names.lookup x = some .free →
  (names.map fun (n, k) => if (k == NameKind.free && env.scope.kind == .function && env.kindOf n == some .cell) then (n, NameKind.cell) else (n, k)).lookup x = some .cell ∨
  (names.map fun (n, k) => if (k == NameKind.free && env.scope.kind == .function && env.kindOf n == some .cell) then (n, NameKind.cell) else (n, k)).lookup x = some .free
 | [], h => by simp at h
 | (n, k) :: r, h => by
  rw [List.map_cons]
  dsimp only
  rw [List.lookup_cons] at h;by_cases hc : (k == NameKind.free && env.scope.kind == .function && env.kindOf n == some .cell) = true
  ·rw [if_pos hc, List.lookup_cons]
   cases hx : x == n with
   | true => exact .inl rfl
   | false =>
    rw [hx] at h;exact gp h
  ·rw [if_neg hc, List.lookup_cons]
   cases hx : x == n with
   | true =>
    rw [hx] at h;cases h;exact .inr rfl
   | false =>
    rw [hx] at h;exact gp h
theorem cS {x : Str} {k : NameKind} : ∀ {l : List (Str × NameKind)}, l.lookup x = some k → (x, k) ∈ l
 | (n, j) :: r, h => by
  rw [List.lookup_cons] at h;cases hx : x == n with
  | true =>
   rw [hx] at h;cases h;have : x = n := by simpa using hx
   rw [this];exact List.mem_cons_self
  | false =>
   rw [hx] at h;exact List.mem_cons_of_mem _ (cS h)
theorem jw {scope : Scope} {env : Env} (h : ∀ x ∈ scope.names, x.2 = .free → ∃ c, env.cells.lookup x.1 = some c) : closureFor scope env = pure (frees env scope.names []) := by
 unfold closureFor;have key : ∀ (l : List (Str × NameKind)) (cs : List (Str × Addr)), (∀ x ∈ l, x.2 = .free → ∃ c, env.cells.lookup x.1 = some c) →
  (forIn l cs fun (x : Str × NameKind) (r : List (Str × Addr)) => if (x.2 == NameKind.free) = true then do let a ← cellOf env x.1; pure (ForInStep.yield ((x.1, a) :: r)) else pure (ForInStep.yield r) : Sem (List (Str × Addr))) = pure (frees env l cs) := by
  intro l
  induction l with
  | nil => intro cs _; rfl
  | cons x r ih =>
   intro cs hx;obtain ⟨n, k⟩ := x;rw [List.forIn_cons]
   dsimp only
   have hr := fun cs => ih cs fun y hy => hx y (List.mem_cons_of_mem _ hy)
   by_cases hk : (k == NameKind.free) = true
   ·obtain ⟨c, hc⟩ := hx (n, k) List.mem_cons_self (by simpa using hk)
    have hc' : env.cells.lookup n = some c := hc;rw [if_pos hk];unfold frees;rw [if_pos hk];have e1 : cellOf env n = pure c := by unfold cellOf; rw [hc']
    rw [e1, hc', ← hr];rfl
   ·rw [if_neg hk]
    unfold frees;rw [if_neg hk, ← hr];rfl
 have := key scope.names [] h;simp only [bind_pure];exact this
section
variable {prog : Program} {w : World} {A : Around} {R : Result → Shared → Prop} {s : Shared}
noncomputable def vq (ifs : List Expr) (env : Env) : Sem Bool := forIn ifs true fun c r => if r = true then do let ok ← isTrue c env (eval c env); pure (ForInStep.yield ok) else pure (ForInStep.yield r)
theorem jT {elt tg iter : Expr} {ifs : List Expr} {scope : Scope} {pos : Pos} {it acc : Value} {env : Env} (J : Nat → Shared → Prop)
  (turn : ∀ n s, J n s → wpAny (model prog w) A (pyNext it) (fun r s1 => match r with
   | none => R (.ok .next) s1
   | some v => wpAny (model prog w) A (letOwnedTupleGo tg it v) (fun _ s2 => wpAny (model prog w) A (assign tg env v) (fun _ s3 => wpAny (model prog w) A (vq ifs env) (fun ok s4 =>
     if ok = true then wpAny (model prog w) A (eval elt env) (fun x s5 => wpAny (model prog w) A (call (.builtin "list.append") [acc, x]) (fun _ s6 => ∃ m, m < n ∧ J m s6) (fun _ _ => False) s5) (fun _ _ => False) s4
     else ∃ m, m < n ∧ J m s4) (fun _ _ => False) s3) (fun _ _ => False) s2) (fun _ _ => False) s1) (fun _ _ => False) s)
  (n : Nat) (h : J n s) : codeAny (model prog w) A (.compLoop (.ListComp elt [⟨tg, iter, ifs, 0⟩] scope pos) 0 it acc env) R s := by
 refine codeAny_loop rfl J (fun n s hJ => ?_) n h
 have no : ∀ (P : Value → Shared → Prop) (e : Value) (s' : Shared), False → P e s' := fun _ _ _ f => f.elim
 show wpAny _ A ((compTurn (.ListComp elt [⟨tg, iter, ifs, 0⟩] scope pos) 0 it acc env).onRaise (fun x => do noteFrame x env; theTreesLotGoes x)) _ _ s
 refine wpAny_noted ?_;rw [compTurn_list];refine wpAny_bind (wpAny_standAt (wpAny_bind (wpAny_mono (turn n s hJ) (fun r s1 h1 => ?_) fun e s' f => f.elim)))
 cases r with
 | none => exact wpAny_pure h1
 | some v =>
  refine wpAny_bind (wpAny_mono h1 (fun _ s2 h2 => ?_) fun e s' f => f.elim)
  refine wpAny_bind (wpAny_mono h2 (fun _ s3 h3 => ?_) fun e s' f => f.elim)
  refine wpAny_bind (wpAny_mono h3 (fun ok s4 h4 => ?_) fun e s' f => f.elim)
  cases ok with
  | false => exact wpAny_pure ⟨rfl, h4⟩
  | true =>
   refine wpAny_bind (wpAny_bind (wpAny_mono h4 (fun x s5 h5 => ?_) fun e s' f => f.elim))
   exact wpAny_bind (wpAny_mono h5 (fun _ s6 h6 => wpAny_pure (wpAny_pure ⟨rfl, h6⟩)) fun e s' f => f.elim)
end
noncomputable def cxB (X : Cx) (N : List Str) (scope : Scope) (s : Shared) (H : Hp) (C : Addr) (ex : List Addr) (pins : List (Addr × Obj)) : Cx :=
 { X with N := N, s₀ := s, H₀ := H, env := compEnvC scope (frees X.env scope.names []) C X.env, outer := X.stack, ex := ex, fn := fun _ => false, pn := X.pn ++ pins, xe := fun _ _ => False }
noncomputable def iq (X : Cx) (scope : Scope) : List (Nat × Str) → Prop
 | [] => True
 | p :: r => (X.N[p.1]? = some p.2 ∧ scope.names.lookup p.2 = some .free) ∧ iq X scope r
theorem iq.get {X : Cx} {scope : Scope} : ∀ {outs : List (Nat × Str)} {j : Nat} {p : Nat × Str}, iq X scope outs → outs[j]? = some p → X.N[p.1]? = some p.2 ∧ scope.names.lookup p.2 = some .free
 | [], _, _, _, e => by simp at e
 | q :: r, 0, p, h, e => by
  simp at e
  subst e;exact h.1
 | q :: r, j + 1, p, h, e => iq.get (j := j) h.2 (by simpa using e)
structure Blk (X : Cx) (sc scope : Scope) (outs : List (Nat × Str)) : Prop where
 hsc : X.env.scope = sc
 kind : scope.kind = .function
 loc : ∀ x ∈ scope.names, x.2 = .local → scope.names.lookup x.1 = some .local
 nocell : ∀ x ∈ scope.names, x.2 ≠ .cell
 fr : ∀ x ∈ scope.names, x.2 = .free → sc.names.lookup x.1 = some .cell ∨ sc.names.lookup x.1 = some .free
 out : iq X scope outs
noncomputable def slots (k : Nat) (outs : List (Nat × Str)) (σ : St) : St := List.replicate k none ++ outs.map fun p => (σ[p.1]?).join
noncomputable def gm : St → St → Prop
 | [], [] => True
 | none :: r, _ :: r' => gm r r'
 | some v :: r, w :: r' => w = some v ∧ gm r r'
 | _, _ => False
theorem gm.len : ∀ {σ σ' : St}, gm σ σ' → σ.length = σ'.length
 | [], [], _ => rfl
 | none :: r, _ :: r', h => by
  have := gm.len (σ := r) (σ' := r') h;simp [this]
 | some v :: r, w :: r', h => by
  have := gm.len (σ := r) (σ' := r') h.2;simp [this]
theorem gm.get : ∀ {σ σ' : St} {i : Nat} {v : V}, gm σ σ' → σ[i]? = some (some v) → σ'[i]? = some (some v)
 | [], _, _, _, _, e => by simp at e
 | none :: r, w :: r', 0, v, _, e => by simp at e
 | none :: r, w :: r', i + 1, v, h, e => by
  have := gm.get (σ := r) (σ' := r') (i := i) (v := v) h (by simpa using e)
  simpa using this
 | some u :: r, w :: r', 0, v, h, e => by
  simp at e
  rw [h.1];simp [e]
 | some u :: r, w :: r', i + 1, v, h, e => by
  have := gm.get (σ := r) (σ' := r') (i := i) (v := v) h.2 (by simpa using e)
  simpa using this
noncomputable def PF (X : Cx) (ifs : List Expr) (t : TT) : Prop :=
 ∀ (pins : List (Addr × Obj)) (s : Shared) (σ : St) (H : Hp) (Q : Bool → Hp → Prop), Inv X pins σ H s → t σ H Q → wpAny (model X.prog X.w) X.A (vq ifs X.env) (TP X pins σ Q) X.xe s
noncomputable def wo : TT := fun _ H Q => Q true H
theorem ve {X : Cx} : PF X [] wo := fun _ _ _ H _ I h => wpAny_tests_nil ⟨H, I, h⟩
theorem Bq {X : Cx} {c : Expr} {t : TT} (h : PT X c t) : PF X [c] t := fun pins s σ H Q I q => wpAny_tests_one (h pins s σ H Q I q)
noncomputable abbrev Cm (tc : TT) (te : TE) (σ0 : St) (D : Addr) (acc : List V) (N : List V → Hp → Prop) : St → Hp → Prop := fun σ2 H3 => gm σ0 σ2 ∧ tc σ2 H3 fun b H4 =>
 if b = true then te σ2 H4 fun y H5 => H5 D = some (.lst acc) ∧ acc.length < sizeLine ∧ N (acc ++ [y]) (upd H5 D (.lst (acc ++ [y]))) else N acc H4
noncomputable def xN (J : It) (g : TG) (tc : TT) (te : TE) (σ0 : St) (D : Addr) (H1 : Hp) (Q : Hp → Prop) : Prop :=
 ∃ W : Nat → Nat → List V → Hp → Prop, (∃ m, W 0 m [] (upd H1 D (.lst []))) ∧ ∀ i m acc H', W i m acc H' →
  (J.stop i H' ∧ Q H') ∨ (J.go i H' ∧ ∃ N : List V → Hp → Prop, (∀ acc' H2, N acc' H2 → ∃ m', m' < m ∧ W (i + 1) m' acc' H2) ∧ ∀ x H2, J.yld i H' x H2 → g x σ0 H2 (Cm tc te σ0 D acc N))
section
variable {X : Cx} {sc scope : Scope} {own : List Str} {outs : List (Nat × Str)} {elt tg iter : Expr} {ifs : List Expr} {pos : Pos} {g : TG} {tc : TT} {te : TE}
theorem kZ (B : Blk X sc scope outs) {pins : List (Addr × Obj)} {σ : St} {H : Hp} {s : Shared} (I : Inv X pins σ H s) : ∀ x ∈ scope.names, x.2 = .free → ∃ c, X.env.cells.lookup x.1 = some c := fun x hx hf => by
 refine I.ok.has x.1 ?_;show X.env.scope.names.lookup x.1 = _ ∨ X.env.scope.names.lookup x.1 = _
 rw [B.hsc];exact B.fr x hx hf
theorem wB (B : Blk X sc scope outs) {pins : List (Addr × Obj)} {σ : St} {H : Hp} {s : Shared} {fp : List Addr} (I : Inv X pins σ H s) (f2 : ∀ b ∈ fp, i7 X pins H b) (fo : ∀ b ∈ fp, ∃ o, s.heap.get? b = some o)
  {h1 : Heap} {m : Str → Option Value} {tk : Nat} (hn : h1.Ns (s.heap.objs.size + 1) m) (old : ∀ b o, s.heap.get? b = some o → h1.get? b = some o)
  (hD : h1.get? s.heap.objs.size = some { cls := .type "list", data := .seq #[] 0 }) :
  Inv (cxB X (own ++ outs.map (·.2)) scope s H (s.heap.objs.size + 1) fp pins) [] (slots own.length outs σ) (upd H s.heap.objs.size (.lst [])) { s with heap := h1, toks := tk } := by
 have bf := kZ B I;have sub : ∀ x c, (frees X.env scope.names []).lookup x = some c → X.env.cells.lookup x = some c := fun x c e => iP _ _ bf (fun c' e' => by simp at e') e
 have clt : ∀ x c, X.env.cells.lookup x = some c → c < s.heap.objs.size := fun x c e => (let ⟨v, q⟩ := I.cell x c e; q.lt)
 have flt : ∀ b ∈ fp, b < s.heap.objs.size := fun b hb => (let ⟨o, e⟩ := fo b hb; Heap.lt_size e)
 have un : Un (cxB X (own ++ outs.map (·.2)) scope s H (s.heap.objs.size + 1) fp pins).fs (cxB X (own ++ outs.map (·.2)) scope s H (s.heap.objs.size + 1) fp pins).ex H (upd H s.heap.objs.size (.lst [])) s.heap h1 := Un.laid old (Nat.le_refl _) I.fresh;have hok : HOk X.prog X.w (upd H s.heap.objs.size (.lst [])) h1 := I.hok.laid old (Nat.le_refl _) ⟨Nat.zero_le _, [], 0, .nil, hD⟩;refine ⟨⟨I.ok.mod, B.kind, I.ok.glob, I.ok.blt, Nat.le_succ _, fun x y c e1 e2 => I.ok.inj x y c (sub x c e1) (sub y c e2), fun x hx => ?_, fun x c hf => ?_, I.ok.hd, I.ok.frames, .inl rfl, fun b hb => ⟨?_, fun x c e => ?_⟩, I.bs, ?_, fun b o e hb => ?_, fun b hb z => ?_, I.stack, I.stkFree⟩,
  rfl, I.bare, un, ⟨m, hn, fun i x v e1 e2 e3 => ?_⟩, fun x c e => ?_, ?_, fun x c e => ?_, fun p hp => ?_, hok, ?_⟩
 ·obtain ⟨k, e, hk⟩ : ∃ k, scope.names.lookup x = some k ∧ k = .free := by
   rcases hx with hx | hx
   ·obtain ⟨k, e, hk⟩ := mH (show ((scope.names.map _).lookup x = some .cell) from hx)
    rcases hk with hk | hk
    ·exact absurd hk.symm (B.nocell _ (cS e))
    ·exact ⟨k, e, hk.1⟩
   ·obtain ⟨k, e, hk⟩ := mH (show ((scope.names.map _).lookup x = some .free) from hx)
    rcases hk with hk | hk
    ·exact ⟨k, e, hk.symm⟩
    ·exact ⟨k, e, hk.1⟩
  subst hk;exact f9 _ _ (.inl (cS e))
 ·cases hf
 ·exact Nat.ne_of_lt (Nat.lt_succ_of_lt (flt b hb))
 ·exact (f2 b hb).2.2.2.2.1 x c (sub x c e)
 ·exact Nat.le_trans I.ok.bsz I.sz
 ·rcases (f2 b hb).2.2.2.1 with z | z
  ·exact I.ok.noex b o e z
  ·exact absurd (Nat.lt_of_lt_of_le (Heap.lt_size e) (Nat.le_trans I.ok.bsz z)) (Nat.lt_irrefl _)
 ·rcases List.mem_cons.mp (I.stkSub b z) with q | q
  ·exact (f2 b hb).2.1 q
  ·exact (f2 b hb).2.2.1 q
 ·
  have hi : own.length ≤ i := by
   by_cases hi : own.length ≤ i
   ·exact hi
   ·have e2' : (slots own.length outs σ)[i]? = some (some v) := e2
    unfold slots at e2';rw [List.getElem?_append_left (by simpa using Nat.lt_of_not_le hi), List.getElem?_replicate] at e2'
    split at e2' <;> cases e2'
  have e1' : (own ++ outs.map (·.2))[i]? = some x := e1;have e2' : (slots own.length outs σ)[i]? = some (some v) := e2;unfold slots at e2';rw [List.getElem?_append_right hi, List.getElem?_map] at e1';rw [List.getElem?_append_right (by simpa using hi), List.length_replicate, List.getElem?_map] at e2'
  cases ep : outs[i - own.length]? with
  | none =>
   rw [ep] at e1';cases e1'
  | some p =>
   rw [ep] at e1' e2';have ex : p.2 = x := Option.some.inj e1';have ev : (σ[p.1]?).join = some v := Option.some.inj e2';obtain ⟨o1, o2⟩ := B.out.get ep;have es : σ[p.1]? = some (some v) := by
    cases q : σ[p.1]? with
    | none =>
     rw [q] at ev;cases ev
    | some w =>
     rw [q] at ev;have ew : w = some v := ev;rw [ew]
   rw [ex] at o1 o2;have hk : X.env.scope.names.lookup x = some .cell ∨ X.env.scope.names.lookup x = some .free := by
    rw [B.hsc];exact B.fr (x, .free) (cS o2) rfl
   obtain ⟨m0, hn0, hl0⟩ := I.loc;obtain ⟨u, r, l⟩ := hl0 p.1 x v o1 es (hk.elim (fun z => .inr (.inl z)) fun z => .inr (.inr z))
   refine ⟨u, r, .inr ?_⟩;rcases l with ⟨hl, _⟩ | ⟨_, c, ec, hc⟩
   ·have hl' : X.env.scope.names.lookup x = some .local := hl
    rcases hk with z | z <;> (rw [z] at hl'; cases hl')
   ·obtain ⟨c', ec'⟩ := f9 (env := X.env) (x := x) scope.names [] (.inl (cS o2))
    have e3 := sub x c' ec';rw [ec] at e3;cases e3;obtain ⟨oc, q1, q2⟩ := hc;exact ⟨gp o2, c, ec', ⟨oc, old _ _ q1, q2⟩⟩
 ·obtain ⟨v, oc, q1, q2⟩ := I.cell x c (sub x c e)
  exact ⟨v, oc, old _ _ q1, q2⟩
 ·show upd H s.heap.objs.size (.lst []) (s.heap.objs.size + 1) = none
  rw [aG (Nat.succ_ne_self _)];exact I.hok.fresh (Nat.le_succ _)
 ·rw [aG (Nat.ne_of_lt (clt x c (sub x c e)))]
  exact I.freeC x c (sub x c e)
 ·have hp' : p ∈ X.pn ++ pins := by
   have : p ∈ (X.pn ++ pins) ++ [] := hp
   simpa using this
  obtain ⟨q1, q2, q3, q4, q5⟩ := I.pin p hp';refine ⟨old _ _ q1, ?_, Nat.ne_of_lt (Nat.lt_succ_of_lt (Heap.lt_size q1)), fun z => ?_, q5⟩
  ·rw [aG (Nat.ne_of_lt (Heap.lt_size q1))]
   exact q2
  ·rcases List.mem_cons.mp (I.stkSub p.1 z) with q | q
   ·exact q3 q
   ·exact q4 q
 ·show (slots own.length outs σ).length = (own ++ outs.map (·.2)).length
  unfold slots;simp
theorem rQ (B : Blk X sc scope outs) (hcalm : X.calm = true)
  (hg : ∀ s H C ex pins, PG (cxB X (own ++ outs.map (·.2)) scope s H C ex pins) tg g) (hc : ∀ s H C ex pins, PF (cxB X (own ++ outs.map (·.2)) scope s H C ex pins) ifs tc) (he : ∀ s H C ex pins, PE (cxB X (own ++ outs.map (·.2)) scope s H C ex pins) elt te)
  {pins : List (Addr × Obj)} {σ : St} {H : Hp} {s : Shared} {it : Addr} {fp : List Addr} {tn : Nat → Heap → Prop} {J : It} (I : Inv X pins σ H s) (T : Turn X.prog X.w X.K tg J fp it tn) (st : tn 0 s.heap) (f2 : ∀ b ∈ fp, i7 X pins H b)
  {R0 : Addr → Hp → Prop} (hW : ∀ D, H D = none → xN J g tc te (slots own.length outs σ) D H (R0 D)) {RR : Value → Addr → Result → Shared → Prop} {E : Value → Shared → Prop}
  (fin : ∀ D C H' s' m, Inv X pins σ H' s' → i7 X pins H' C → s'.heap.Ns C m → R0 D H' → RR (.ref D) C (.ok .next) s') :
  wpAny (model X.prog X.w) X.A (newList []) (fun acc s3 => wpAny (model X.prog X.w) X.A (newFunctionEnv scope X.env.globals (frees X.env scope.names []) [] X.env.qual none .none (some X.env)) (fun cenv s4 =>
   codeAny (model X.prog X.w) X.A (.compStart (.ListComp elt [⟨tg, iter, ifs, 0⟩] scope pos) 0 (.ref it) acc { cenv with scope := relabel scope X.env }) (RR acc cenv.locals) s4) E s3) E s := by
 refine wpAny_newObj_type (wpAny_newFunctionEnv B.nocell (by intro y hy; simp at hy) (fun h1 hn1 hs1 => ?_) B.kind)
 dsimp only at hn1 hs1 ⊢
 have hz : (s.heap.push { cls := .type "list", dict := none, data := .seq ([] : List Value).toArray }).objs.size = s.heap.objs.size + 1 := Heap.size_push ..;rw [hz] at hn1 hs1;simp only [hz];have fo : ∀ b ∈ fp, ∃ o, s.heap.get? b = some o := fun b hb => (let ⟨o, e, _⟩ := T.obj 0 _ st b hb; ⟨o, e⟩)
 have old : ∀ b o, s.heap.get? b = some o → h1.get? b = some o := fun b o e =>
  hs1.extBut b o (Nat.ne_of_lt (Nat.lt_succ_of_lt (Heap.lt_size e))) (Heap.get?_push_of_some _ (Heap.get?_push_of_some _ e))
 have hD : h1.get? s.heap.objs.size = some { cls := .type "list", data := .seq #[] 0 } := hs1.extBut _ _ (Nat.ne_of_lt (Nat.lt_succ_self _)) (Heap.get?_push_of_some _ (Heap.get?_push_size _ rfl));have I1 := wB (own := own) (tk := s.toks + ([] : List (Str × Value)).length) B I f2 fo hn1 old hD;have st1 : tn 0 h1 := T.keep _ _ _ st fun b _ o e => old b o e
 obtain ⟨W, ⟨m0, w0⟩, turn⟩ := hW _ I.fresh;have fpB : ∀ {H' : Hp}, (∀ b ∈ fp, H' b = none) → ∀ b ∈ fp, i7 (cxB X (own ++ outs.map (·.2)) scope s H (s.heap.objs.size + 1) fp pins) [] H' b := fun hn b hb => by
  obtain ⟨o, eo⟩ := fo b hb;refine ⟨hn b hb, Nat.ne_of_lt (Nat.lt_succ_of_lt (Heap.lt_size eo)), I1.ok.exfs b hb, .inl hb, fun x c e => (I1.ok.exf b hb).2 x c e, fun p hp => ?_⟩
  have hp' : p ∈ X.pn ++ pins := by
   have : p ∈ (X.pn ++ pins) ++ [] := hp
   simpa using this
  exact (f2 b hb).2.2.2.2.2 p hp'
 have loop : ∀ s0 : Shared, s0 = { s with heap := h1, toks := s.toks + ([] : List (Str × Value)).length } →
   codeAny (model X.prog X.w) X.A (.compLoop (.ListComp elt [⟨tg, iter, ifs, 0⟩] scope pos) 0 (.ref it) (.ref s.heap.objs.size) (compEnvC scope (frees X.env scope.names []) (s.heap.objs.size + 1) X.env)) (RR (.ref s.heap.objs.size) (s.heap.objs.size + 1)) s0 := by
  rintro s0 rfl;refine jT (fun n s' => ∃ i acc H', Inv (cxB X (own ++ outs.map (·.2)) scope s H (s.heap.objs.size + 1) fp pins) [] (slots own.length outs σ) H' s' ∧ tn i s'.heap ∧ (∀ b ∈ fp, H' b = none) ∧ W i n acc H') ?_ m0
   ⟨0, [], _, I1, st1, fun b hb => ?_, w0⟩
  ·rintro n s3 ⟨i, acc, H3, I3, st3, fr3, w3⟩
   rcases turn i n acc H3 w3 with ⟨stop, q⟩ | ⟨go, N, hN, step⟩
   ·refine thn (T.done (cxB X (own ++ outs.map (·.2)) scope s H (s.heap.objs.size + 1) fp pins) rfl rfl rfl hcalm i [] s3 _ H3 (fun _ _ => False) I3 (fpB fr3) st3 stop) fun r s4 ⟨hr, I4⟩ => ?_
    subst hr;have IX : Inv X pins σ H3 s4 := I.call' (ch := fp) I4.os I4.base I4.hok I4.bare fun b hb => ⟨(f2 b hb).2.2.2.1, (f2 b hb).2.1, (f2 b hb).2.2.2.2.1, (f2 b hb).2.2.2.2.2⟩
    obtain ⟨m4, hn4, _⟩ := I4.loc;exact fin _ _ H3 s4 m4 IX (I.fpOk (Nat.le_succ _) I4.free) hn4 q
   ·refine thn (T.item (cxB X (own ++ outs.map (·.2)) scope s H (s.heap.objs.size + 1) fp pins) rfl rfl rfl hcalm i [] s3 _ H3 (fun _ _ => False) I3 (fpB fr3) st3 go) fun r s4 ⟨u, hr, h4⟩ => ?_
    subst hr;refine thn h4 fun _ s5 ⟨x, H5, I5, r5, y5, st5, fr5⟩ => ?_
    have I5' := I5.pinned (fpB fr5) (T.obj _ _ st5);have back : ∀ {σ6 : St} {H6 : Hp} {s6 : Shared} {acc' : List V}, Inv (cxB X (own ++ outs.map (·.2)) scope s H (s.heap.objs.size + 1) fp pins) ([] ++ kd fp s5.heap) σ6 H6 s6 → gm (slots own.length outs σ) σ6 → N acc' H6 →
      ∃ m, m < n ∧ ∃ i acc H', Inv (cxB X (own ++ outs.map (·.2)) scope s H (s.heap.objs.size + 1) fp pins) [] (slots own.length outs σ) H' s6 ∧ tn i s6.heap ∧ (∀ b ∈ fp, H' b = none) ∧ W i m acc H' := fun {σ6 H6 s6 acc'} I6 hs hn6 => by
     obtain ⟨m', hm, hw⟩ := hN acc' H6 hn6;refine ⟨m', hm, i + 1, acc', H6, I6.unpinned.weak hs.len fun j v e => hs.get e, T.keep _ _ _ st5 fun b hb o e => (I6.pin (b, o) (List.mem_append_right _ (List.mem_append_right _ (e8 hb e)))).1, fun b hb => ?_, hw⟩
     obtain ⟨o, e, _⟩ := T.obj _ _ st5 b hb;exact (I6.pin (b, o) (List.mem_append_right _ (List.mem_append_right _ (e8 hb e)))).2.1
    refine thn (hg s H _ fp pins _ s5 _ H5 x u _ I5' r5 (step x H5 y5)) fun _ s6 ⟨σ6, H6, I6, hs6, q6⟩ => ?_
    refine thn (hc s H _ fp pins _ s6 σ6 H6 _ I6 q6) fun b s7 ⟨H7, I7, q7⟩ => ?_
    cases b with
    | false =>
     exact back I7 hs6 q7
    | true =>
     refine thn (he s H _ fp pins _ s7 σ6 H7 _ I7 q7) fun yv s8 ⟨y, H8, I8, r8, hd8, hl8, hw⟩ => ?_
     refine thn (iQ _ s8 σ6 H8 (.ref s.heap.objs.size) [y] (.ref s.heap.objs.size) [yv] (fun _ H9 => H9 = upd H8 s.heap.objs.size (.lst (acc ++ [y]))) I8 rfl (.cons r8 .nil) ⟨_, acc, y, rfl, rfl, hd8, hl8, rfl⟩) fun z s9 ⟨zv, H9, I9, _, q9⟩ => ?_
     subst q9;exact back I9 hs6 hw
  ·obtain ⟨o, eo⟩ := fo b hb
   rw [aG (Nat.ne_of_lt (Heap.lt_size eo))];exact (f2 b hb).1
 exact codeAny_compStart_list (loop _ rfl) (T.self X.A 0 _ _ _ st1 (loop _ rfl))
noncomputable def pq (wi : TI) (g : TG) (tc : TT) (te : TE) (k : Nat) (outs : List (Nat × Str)) : TE := fun σ H Q => wi σ H fun J H1 => ∀ D, H1 D = none → xN J g tc te (slots k outs σ) D H1 fun H' => Q (.ref D) H'
theorem vW {wi : TI} (own : List Str) (B : Blk X sc scope outs) (hcalm : X.calm = true) (hi : PI X tg iter wi)
  (hg : ∀ s H C ex pins, PG (cxB X (own ++ outs.map (·.2)) scope s H C ex pins) tg g) (hc : ∀ s H C ex pins, PF (cxB X (own ++ outs.map (·.2)) scope s H C ex pins) ifs tc) (he : ∀ s H C ex pins, PE (cxB X (own ++ outs.map (·.2)) scope s H C ex pins) elt te)
  (hs : ∀ x, foldedSetIterable iter X.env x = pure x := by intro _; rfl) : PE X (.ListComp elt [⟨tg, iter, ifs, 0⟩] scope pos) (pq wi g tc te own.length outs) := by
 intro pins s σ H Q I h;rw [eval_ListComp];refine wpAny_comprehension_free (use := none) rfl hs (jw (kZ B I)) B.kind B.loc ?_;refine thn (hi pins s σ H _ I h) fun v s1 h1 => thn h1 fun itv s2 h2 => ?_
 obtain ⟨it, fp, tn, J, H2, e, I2, T, st2, f2, hW⟩ := h2;subst e;refine rQ (RR := fun acc C => compPost (model X.prog X.w) X.A X.xe none (EP X pins σ Q) acc C) B hcalm hg hc he I2 T st2 f2 hW ?_
 intro D C H' s' m I' hC hn q;refine ⟨m, hn, fun h' hs' => ?_⟩
 obtain ⟨c0, c1, c2, c3, c4, c5⟩ := hC;exact ⟨.ref D, H', I'.turned (t' := s'.toks) (fun b o hb e => (hs'.2 b hb).trans e) c0 c1 c3 c4 c5, rfl, q⟩
theorem rR {wi : TI} {i : Nat} {x : Str} {pos' spos : Pos} (own : List Str) (hN : X.N.Nodup) (hix : X.N[i]? = some x) (hx : Loc X.env.scope x) (B : Blk X sc scope outs) (hcalm : X.calm = true) (hi : PI X tg iter wi)
  (hg : ∀ s H C ex pins, PG (cxB X (own ++ outs.map (·.2)) scope s H C ex pins) tg g) (hc : ∀ s H C ex pins, PF (cxB X (own ++ outs.map (·.2)) scope s H C ex pins) ifs tc) (he : ∀ s H C ex pins, PE (cxB X (own ++ outs.map (·.2)) scope s H C ex pins) elt te)
  (hsw : swapsWith (.ListComp elt [⟨tg, iter, ifs, 0⟩] scope pos) (some (.Name x pos')) spos.line X.env = pure true := by rfl)
  (hs : ∀ x, foldedSetIterable iter X.env x = pure x := by intro _; rfl) (hf : X.fn x = true ∨ X.env.scope.names.lookup x = some .local := by first | exact .inl rfl | exact .inr rfl | assumption) :
  PS X (.Assign [.Name x pos'] (.ListComp elt [⟨tg, iter, ifs, 0⟩] scope pos) spos) (sd (pq wi g tc te own.length outs) (kl i)) := by
 intro pins s σ H D0 I h;rw [exec_Assign_Name_used _ _ _ _ hsw];refine wpAny_bind (wpAny_standAt (wpAny_bind ?_));show wpAny _ X.A (do let _ ← comprehension (.ListComp elt [⟨tg, iter, ifs, 0⟩] scope pos) scope X.env _ (newList []) false (eval iter X.env) (some (assign (.Name x pos') X.env))) _ _ s
 refine wpAny_bind (thn (wpAny_comprehension_free (use := some (assign (.Name x pos') X.env)) (Q := fun _ s' => SP X pins D0 .next s') rfl hs (jw (kZ B I)) B.kind B.loc ?_) fun _ s' hq => wpAny_pure (wpAny_pure hq))
 refine thn (hi pins s σ H _ I h) fun v s1 h1 => thn h1 fun itv s2 h2 => ?_
 obtain ⟨it, fp, tn, J, H2, e, I2, T, st2, f2, hW⟩ := h2;subst e;refine rQ (RR := fun acc C => compPost (model X.prog X.w) X.A X.xe (some (assign (.Name x pos') X.env)) (fun _ s' => SP X pins D0 .next s') acc C) B hcalm hg hc he I2 T st2 f2 hW ?_
 intro D C H' s' m I' hC hn q;obtain ⟨c0, c1, c2, c3, c4, c5⟩ := hC;obtain ⟨oC, es, ep, hoC, hdC, hr⟩ := id hn;have IC : Inv X (pins ++ [(C, oC)]) σ H' s' := I'.pins_of fun p hp => (List.mem_append.mp hp).elim (fun z => I'.pin p (List.mem_append_right _ z)) fun z => by
  have ep : p = (C, oC) := by simpa using z
  subst ep;exact ⟨hoC, c0, c1, c2, fun v z => by rw [hdC] at z; cases z⟩
 show wpAny _ X.A (assign (.Name x pos') X.env (.ref D)) _ _ s'
 refine wpAny_assign_Name (jH (v := .ref D) IC hN hix hx rfl (fun s3 I3 => ?_) hf)
 have hC3 : s3.heap.get? C = some oC := (I3.pin (C, oC) (List.mem_append_right _ (List.mem_append_right _ (by simp)))).1
 refine ⟨m, ⟨oC, es, ep, hC3, hdC, hr⟩, fun h' hs' => ?_⟩
 exact ⟨_, H', I3.unpinned.turned (t' := s3.toks) (fun b o hb e => (hs'.2 b hb).trans e) c0 c1 c3 c4 c5, q⟩
end
end L2
namespace L2
open PySem PySem.Spec PyProof.Rows
theorem oo {X : Cx} {pins : List (Addr × Obj)} {σ : St} {H : Hp} {s : Shared} {ch : List Addr} {T : Addr} {o : HO} {h' : Heap} {t' : Nat} (I : Inv X pins σ H s) (hch : ∀ b ∈ ch, i7 X pins H b) (k : ∀ b u, b ∉ ch → s.heap.get? b = some u → h'.get? b = some u)
  (hT : s.heap.objs.size ≤ T) (new : gy X.prog X.w (upd H T o) h' T o) : Inv X pins σ (upd H T o) { s with heap := h', toks := t' } := by
 have hn : H T = none := I.hok.fresh hT;have nch : ∀ b u, H b = some u → b ∉ ch := fun b u e z => by
  rw [(hch b z).1] at e;cases e
 have lt : ∀ b u, s.heap.get? b = some u → b ≠ T := fun b u e => Nat.ne_of_lt (Nat.lt_of_lt_of_le (Heap.lt_size e) hT)
 refine I.step (g' := s.gens) (d' := s.drawn) (ch := ch) (fun b hb => ?_) (fun b u _ _ hc e _ => k b u hc e) (fun b u _ _ hc e _ => ⟨u.slots, k b u hc e⟩) (fun b u _ e n => by rw [aG (lt b u e)]; exact n)
  (fun b u hc e => ⟨u, k b u hc e⟩) (fun b xs e => by rw [aG (aP e hn)]; exact e) (fun b u v e => by rw [aG (aP e hn)]; exact e) (fun b ps e => ⟨#[], by rw [aG (aP e hn), e]; simp⟩) (fun m hm => ?_) (fun b u e => ?_) I.bare
 ·obtain ⟨f0, f1, f2, f3, f4, f5⟩ := hch b hb
  exact ⟨f3, f1, f4, f5⟩
 ·obtain ⟨oL, es, ep, ho, r⟩ := hm
  exact ⟨oL, es, ep, k _ oL (fun z => (hch _ z).2.1 rfl) ho, r⟩
 ·by_cases hb : b = T
  ·subst hb
   rw [bZ] at e;cases e;exact new
  ·rw [aG hb] at e
   refine (I.hok b u e).stay (fun c v hc q => k c v ?_ q) (fun c q => by rw [aG (aP q hn)]; exact q) fun c xs q => by rw [aG (aP q hn)]; exact q
   rcases hc with z | z
   ·rw [z]
    exact nch b u e
   ·exact nch c _ z
theorem qK {X : Cx} {pins : List (Addr × Obj)} {σ : St} {H : Hp} {s : Shared} {ch : List Addr} {h' : Heap} {t' : Nat} (I : Inv X pins σ H s) (hch : ∀ b ∈ ch, i7 X pins H b) (k : ∀ b u, b ∉ ch → s.heap.get? b = some u → h'.get? b = some u) :
  Inv X pins σ H { s with heap := h', toks := t' } := by
 have nch : ∀ b u, H b = some u → b ∉ ch := fun b u e z => by
  rw [(hch b z).1] at e;cases e
 refine I.step (g' := s.gens) (d' := s.drawn) (ch := ch) (fun b hb => ?_) (fun b u _ _ hc e _ => k b u hc e) (fun b u _ _ hc e _ => ⟨u.slots, k b u hc e⟩) (fun _ _ _ _ n => n)
  (fun b u hc e => ⟨u, k b u hc e⟩) (fun _ _ e => e) (fun _ _ _ e => e) (fun b ps e => ⟨#[], by rw [e]; simp⟩) (fun m hm => ?_) (fun b u e => ?_) I.bare
 ·obtain ⟨f0, f1, f2, f3, f4, f5⟩ := hch b hb
  exact ⟨f3, f1, f4, f5⟩
 ·obtain ⟨oL, es, ep, ho, r⟩ := hm
  exact ⟨oL, es, ep, k _ oL (fun z => (hch _ z).2.1 rfl) ho, r⟩
 ·refine (I.hok b u e).stay (fun c v hc q => k c v ?_ q) (fun _ q => q) fun _ _ q => q
  rcases hc with z | z
  ·rw [z]
   exact nch b u e
  ·exact nch c _ z
noncomputable def Ite (K : PySem.W.Frag) (a : Addr) : It :=
 ⟨fun i H => ∃ xs x, SqL K H a xs ∧ xs[i]? = some x, fun i H x H' => ∃ T y, H T = none ∧ x = .ref T ∧ H' = upd H T (.tup [.int i, y]) ∧ ∀ xs, SqL K H a xs → xs[i]? = some y, fun i H => ∃ xs, SqL K H a xs ∧ xs.length ≤ i⟩
theorem sR {P : Program} {w : World} {K : PySem.W.Frag} {es : List Expr} {k : Nat} {pos : Pos} (a e it : Addr) (hne : e ≠ it) :
  Turn P w K (.Tuple es k pos) (Ite K a) [e, it] e (fun i h => (∃ old, IsEnum h e it i old) ∧ h.IsListIter it a i) where
 mem := by simp
 obj := fun i h st b hb => by
  obtain ⟨⟨old, he⟩, o, eo, c, d⟩ := st;have hb' : b = e ∨ b = it := by simpa using hb
  rcases hb' with z | z
  ·subst z
   exact ⟨_, he, fun v z => by cases z⟩
  ·subst z
   exact ⟨o, eo, fun v z => by rw [d] at z; cases z⟩
 keep := fun i h h' st kp => ⟨(let ⟨old, he⟩ := st.1; ⟨old, kp e (by simp) _ he⟩), st.2.at fun o eo => kp it (by simp) o eo⟩
 item := by
  intro X hP hw hK hc i pins s σ H E I hf st hg;subst hP hw hK;obtain ⟨xs, x, hq, hx⟩ := hg;obtain ⟨⟨old, he⟩, hit⟩ := st;obtain ⟨its, rv, p, hz⟩ := I.list hq;obtain ⟨u, hu, ru⟩ := rv.get hx;have elt : e < s.heap.objs.size := Heap.lt_size he;refine wpAny_pyNext_enum_item he hit p.isList (x := u) (by simpa using hu) hne fun h1 ho hit1 hT hsz hk => ?_
  refine ⟨_, rfl, wpAny_letOwnedTupleGo_enum ho fun h2 he2 hs2 => ?_⟩
  have kk : ∀ b v, b ∉ [e, it] → s.heap.get? b = some v → h2.get? b = some v := fun b v hb q => by
   have h1' : b ≠ e := fun z => hb (by simp [z])
   have h2' : b ≠ it := fun z => hb (by simp [z])
   exact (hs2.2 b h1').trans (hk b v h1' h2' q)
  have hT2 : h2.get? s.heap.objs.size = some { cls := .type "tuple", data := .seq #[.int i s.toks, u] } := (hs2.2 _ (Nat.ne_of_gt elt)).trans hT;refine ⟨.ref s.heap.objs.size, upd H s.heap.objs.size (.tup [.int i, x]), oo (s := s) (h' := h2) (t' := s.toks + 1) I hf kk (Nat.le_refl _) ?_, rfl, ⟨_, x, I.fresh, rfl, rfl, fun ys hy => by rw [I.list_inj hy hq]; exact hx⟩, ⟨⟨_, he2⟩, ?_⟩, fun b hb => ?_⟩
  ·exact ⟨by show 2 ≤ sizeLine; decide, [.int i s.toks, u], .cons ⟨_, rfl⟩ (.cons ru .nil), _, hT2, rfl, _, rfl⟩
  ·exact hit1.at fun o eo => (hs2.2 it (Ne.symm hne)).trans eo
  ·obtain ⟨f0, f1, f2, f3, f4, f5⟩ := hf b hb
   have hb' : b = e ∨ b = it := by simpa using hb
   obtain ⟨oi, eoi, _⟩ := hit;have : b < s.heap.objs.size := by
    rcases hb' with z | z
    ·rw [z]; exact elt
    ·rw [z]; exact Heap.lt_size eoi
   rw [aG (Nat.ne_of_lt this)];exact f0
 done := by
  intro X hP hw hK hc i pins s σ H E I hf st hg;subst hP hw hK;obtain ⟨xs, hq, hx⟩ := hg;obtain ⟨⟨old, he⟩, hit⟩ := st;obtain ⟨its, rv, p, hz⟩ := I.list hq;have hl := rv.length;refine wpAny_pyNext_enum_end (I.ok.hd hc) he hit p.isList (by simp; lia) fun h1 eb => ⟨rfl, qK (t' := s.toks) I hf fun b v hb q => eb b v (fun z => hb (by simp [z])) q⟩
 self := fun _ _ _ _ _ st h => (let ⟨old, he⟩ := st.1; wpAny_pyIter_enum he h)
noncomputable def x_ (K : PySem.W.Frag) (ta : TA) : TI := fun σ H R => ta σ H fun vs H1 => ∃ a, vs = [.ref a] ∧ (∃ xs, SqL K H1 a xs) ∧ R (Ite K a) H1
theorem kq : bootBuiltins "enumerate" = some (.type "enumerate") := by decide +kernel
theorem sA : bootBuiltins "zip" = some (.type "zip") := by decide +kernel
theorem xH {X : Cx} {es : List Expr} {k : Nat} {a : Expr} {ta : TA} {p pos tpos : Pos} (hg : Gl X "enumerate") (hm : X.mg "enumerate" = none) (ha : PA X [a] ta) (hs : starEach [a] X.env = [(false, eval a X.env)] := by rfl) :
  PI X (.Tuple es k tpos) (.Call (.Name "enumerate" p) [a] [] pos) (x_ X.K ta) := by
 intro pins s σ H R I h;refine Call_ (iI I hg hm kq (PyProof.Rows.callWith_type1 (thn (ha pos pins s σ H _ I h) fun us s1 ⟨vs, H1, I1, r1, q1⟩ => ?_) hs rfl))
 obtain ⟨l, e, ⟨xs, hq⟩, q⟩ := q1;subst e;obtain ⟨u, rfl, ru⟩ := Vals.one r1;cases ru;obtain ⟨its, rv, pl, hz⟩ := I1.list hq;refine call_enumerate_list pl.isList fun h1 he hit hsz hk => ?_
 refine wpAny_pyIter_enum he ?_;have I2 : Inv X pins σ H1 { s1 with heap := h1 } := I1.kept (t' := s1.toks) hk
 refine ⟨s1.heap.objs.size + 1, [s1.heap.objs.size + 1, s1.heap.objs.size], _, Ite X.K l, H1, rfl, I2, sR l _ _ (Nat.succ_ne_self _), ⟨⟨_, he⟩, hit⟩, fun b hb => ?_, q⟩
 have hb' : b = s1.heap.objs.size + 1 ∨ b = s1.heap.objs.size := by simpa using hb
 rcases hb' with z | z
 ·subst z
  exact I1.fpOk (Nat.le_succ _) (I1.hok.fresh (Nat.le_succ _))
 ·subst z
  exact I1.fpOk (Nat.le_refl _) (I1.hok.fresh (Nat.le_refl _))
noncomputable def Itz (K : PySem.W.Frag) (a b : Addr) : It :=
 ⟨fun i H => ∃ xs x ys y, SqL K H a xs ∧ xs[i]? = some x ∧ SqL K H b ys ∧ ys[i]? = some y, fun i H v H' => ∃ T x y, H T = none ∧ v = .ref T ∧ H' = upd H T (.tup [x, y]) ∧ (∀ xs, SqL K H a xs → xs[i]? = some x) ∧ ∀ ys, SqL K H b ys → ys[i]? = some y,
  fun i H => ∃ xs ys, SqL K H a xs ∧ SqL K H b ys ∧ (xs.length ≤ i ∨ ys.length ≤ i)⟩
theorem vA {P : Program} {w : World} {K : PySem.W.Frag} {es : List Expr} {k : Nat} {pos : Pos} (a b z TI TO i1 i2 : Addr) (z1 : z ≠ TI ∧ z ≠ TO ∧ z ≠ i1 ∧ z ≠ i2) (z2 : TI ≠ TO ∧ TI ≠ i1 ∧ TI ≠ i2) (z3 : TO ≠ i1 ∧ TO ≠ i2) (z4 : i1 ≠ i2)
  (z5 : a ≠ z ∧ a ≠ TO ∧ a ≠ i1 ∧ a ≠ i2) (z6 : b ≠ z ∧ b ≠ TO ∧ b ≠ i1 ∧ b ≠ i2) :
  Turn P w K (.Tuple es k pos) (Itz K a b) [z, TI, TO, i1, i2] z (fun i h => IsZip h z TI TO .none ∧ IsPair h TI (.ref i1) (.ref i2) ∧ (∃ u v, IsPair h TO u v) ∧ h.IsListIter i1 a i ∧ h.IsListIter i2 b i) := by
 have D : ZipApart z TI TO i1 i2 a b := ⟨Ne.symm z1.1, Ne.symm z1.2.1, Ne.symm z1.2.2.1, Ne.symm z1.2.2.2, z2.1, z2.2.1, z2.2.2, z3.1, z3.2, z4, z5.1, z5.2.1, z5.2.2.1, z5.2.2.2, z6.1, z6.2.1, z6.2.2.1, z6.2.2.2⟩;have mem5 : ∀ c, c ∈ [z, TI, TO, i1, i2] → c = z ∨ c = TI ∨ c = TO ∨ c = i1 ∨ c = i2 := fun c hc => by simpa using hc
 constructor
 ·simp
 ·intro i h st c hc
  obtain ⟨hz, hTI, ⟨u, v, hTO⟩, ⟨o1, e1, c1, d1⟩, o2, e2, c2, d2⟩ := st;rcases mem5 c hc with rfl | rfl | rfl | rfl | rfl
  ·exact ⟨_, hz, fun v z => by cases z⟩
  ·exact ⟨_, hTI, fun v z => by cases z⟩
  ·exact ⟨_, hTO, fun v z => by cases z⟩
  ·exact ⟨o1, e1, fun v z => by rw [d1] at z; cases z⟩
  ·exact ⟨o2, e2, fun v z => by rw [d2] at z; cases z⟩
 ·intro i h h' st kp
  obtain ⟨hz, hTI, ⟨u, v, hTO⟩, h1, h2⟩ := st;exact ⟨kp z (by simp) _ hz, kp TI (by simp) _ hTI, ⟨u, v, kp TO (by simp) _ hTO⟩, h1.at fun o e => kp i1 (by simp) o e, h2.at fun o e => kp i2 (by simp) o e⟩
 ·intro X hP hw hK hc i pins s σ H E I hf st hg
  subst hP hw hK;obtain ⟨xs, x, ys, y, hq, hx, hr, hy⟩ := hg;obtain ⟨hz, hTI, ⟨u, v, hTO⟩, h1, h2⟩ := st;obtain ⟨its, rv, p, _⟩ := I.list hq;obtain ⟨its2, rv2, p2, _⟩ := I.list hr;obtain ⟨ux, hux, rux⟩ := rv.get hx;obtain ⟨uy, huy, ruy⟩ := rv2.get hy;refine wpAny_pyNext_zip_item D hz hTI hTO h1 h2 p.isList p2.isList (x := ux) (y := uy) (by simpa using hux) (by simpa using huy) fun h3 a1 a2 a3 a4 a5 a6 hk => ?_
  have zlt : z < s.heap.objs.size := Heap.lt_size hz;refine ⟨_, rfl, wpAny_letOwnedTupleGo_zip a1 fun h4 hz4 hs4 => ?_⟩
  have kk : ∀ c w', c ∉ [z, TI, TO, i1, i2] → s.heap.get? c = some w' → h4.get? c = some w' := fun c w' hc q => by
   have n1 : c ≠ z := fun e => hc (by simp [e])
   have n2 : c ≠ TO := fun e => hc (by simp [e])
   have n3 : c ≠ i1 := fun e => hc (by simp [e])
   have n4 : c ≠ i2 := fun e => hc (by simp [e])
   exact (hs4.2 c n1).trans (hk c w' n1 n2 n3 n4 q)
  have hT4 : IsPair h4 s.heap.objs.size ux uy := (hs4.2 _ (Nat.ne_of_gt zlt)).trans a5;have hTI4 : IsPair h4 TI (.ref i1) (.ref i2) := (hs4.2 _ (Ne.symm z1.1)).trans (hk _ _ (Ne.symm z1.1) z2.1 z2.2.1 z2.2.2 hTI);refine ⟨.ref s.heap.objs.size, upd H s.heap.objs.size (.tup [x, y]), oo (s := s) (h' := h4) (t' := s.toks) I hf kk (Nat.le_refl _) ?_, rfl, ⟨_, x, y, I.fresh, rfl, rfl, fun zs hzs => by rw [I.list_inj hzs hq]; exact hx, fun zs hzs => by rw [I.list_inj hzs hr]; exact hy⟩,
   ⟨hz4, hTI4, ⟨ux, uy, (hs4.2 _ (Ne.symm z1.2.1)).trans a2⟩, a3.at fun o e => (hs4.2 _ (Ne.symm z1.2.2.1)).trans e, a4.at fun o e => (hs4.2 _ (Ne.symm z1.2.2.2)).trans e⟩, fun c hc => ?_⟩
  ·exact ⟨by show 2 ≤ sizeLine; decide, [ux, uy], .cons rux (.cons ruy .nil), _, hT4, rfl, _, rfl⟩
  ·have clt : c < s.heap.objs.size := by
    obtain ⟨o1, e1, _⟩ := h1;obtain ⟨o2, e2, _⟩ := h2;rcases mem5 c hc with rfl | rfl | rfl | rfl | rfl
    ·exact zlt
    ·exact Heap.lt_size hTI
    ·exact Heap.lt_size hTO
    ·exact Heap.lt_size e1
    ·exact Heap.lt_size e2
   rw [aG (Nat.ne_of_lt clt)];exact (hf c hc).1
 ·intro X hP hw hK hc i pins s σ H E I hf st hg
  subst hP hw hK;obtain ⟨xs, ys, hq, hr, hx⟩ := hg;obtain ⟨hz, hTI, ⟨u, v, hTO⟩, h1, h2⟩ := st;obtain ⟨its, rv, p, _⟩ := I.list hq;obtain ⟨its2, rv2, p2, _⟩ := I.list hr;have l1 := rv.length;have l2 := rv2.length;refine wpAny_pyNext_zip_end (I.ok.hd hc) D hz hTI hTO h1 h2 p.isList p2.isList (by simp; lia) fun h3 hk => ⟨rfl, qK (t' := s.toks) I hf fun c w' hc q => hk c w' (fun e => hc (by simp [e])) (fun e => hc (by simp [e])) (fun e => hc (by simp [e])) (fun e => hc (by simp [e])) q⟩
 ·intro A i s Q E st h
  exact wpAny_pyIter_zip st.1 h
theorem neA {a b : Nat} (h : a ≠ b) : @Ne Addr a b := h
noncomputable def ER (K : PySem.W.Frag) (ta : TA) : TI := fun σ H R => ta σ H fun vs H1 => ∃ a b, vs = [.ref a, .ref b] ∧ (∃ xs, SqL K H1 a xs) ∧ (∃ ys, SqL K H1 b ys) ∧ R (Itz K a b) H1
theorem yZ {X : Cx} {es : List Expr} {k : Nat} {a b : Expr} {ta : TA} {p pos tpos : Pos} (hg : Gl X "zip") (hm : X.mg "zip" = none) (ha : PA X [a, b] ta) (hs : starEach [a, b] X.env = [(false, eval a X.env), (false, eval b X.env)] := by rfl) (hs2 : starEach [b] X.env = [(false, eval b X.env)] := by rfl) :
  PI X (.Tuple es k tpos) (.Call (.Name "zip" p) [a, b] [] pos) (ER X.K ta) := by
 intro pins s σ H R I h;refine Call_ (iI I hg hm sA (PyProof.Rows.callWith_type1 (thn (ha pos pins s σ H _ I h) fun us s1 ⟨vs, H1, I1, r1, q1⟩ => ?_) (by rw [hs, hs2]) (by rw [hs2]; rfl)))
 obtain ⟨l, l', e, ⟨xs, hq⟩, ⟨ys, hr⟩, q⟩ := q1;subst e;obtain ⟨u, v, rfl, ru, rv'⟩ := Vals.two r1;cases ru;cases rv';obtain ⟨its, rv, pl, hz⟩ := I1.list hq;obtain ⟨its2, rv2, pl2, hz2⟩ := I1.list hr;have lt1 : @LT.lt Nat instLTNat l s1.heap.objs.size := (let ⟨o, e, _⟩ := pl.isList; Heap.lt_size e);have lt2 : @LT.lt Nat instLTNat l' s1.heap.objs.size := (let ⟨o, e, _⟩ := pl2.isList; Heap.lt_size e);refine call_zip_2 pl.isList pl2.isList fun h1 a1 a2 a3 a4 a5 a6 hk => ?_
 refine wpAny_pyIter_zip a1 ?_;have I2 : Inv X pins σ H1 { s1 with heap := h1 } := I1.kept (t' := s1.toks) hk
 refine ⟨s1.heap.objs.size + 4, [s1.heap.objs.size + 4, s1.heap.objs.size + 2, s1.heap.objs.size + 3, s1.heap.objs.size, s1.heap.objs.size + 1], _, Itz X.K l l', H1, rfl, I2,
  vA l l' (s1.heap.objs.size + 4) (s1.heap.objs.size + 2) (s1.heap.objs.size + 3) s1.heap.objs.size (s1.heap.objs.size + 1) ⟨neA (by lia), neA (by lia), neA (by lia), neA (by lia)⟩ ⟨neA (by lia), neA (by lia), neA (by lia)⟩ ⟨neA (by lia), neA (by lia)⟩ (neA (by lia)) ⟨neA (by lia), neA (by lia), neA (by lia), neA (by lia)⟩ ⟨neA (by lia), neA (by lia), neA (by lia), neA (by lia)⟩, ⟨a1, a2, ⟨_, _, a3⟩, a4, a5⟩, fun c hc => ?_, q⟩
 have hc' : @LE.le Nat instLENat s1.heap.objs.size c := by
  have hc2 : @Eq Nat c (s1.heap.objs.size + 4) ∨ @Eq Nat c (s1.heap.objs.size + 2) ∨ @Eq Nat c (s1.heap.objs.size + 3) ∨ @Eq Nat c s1.heap.objs.size ∨ @Eq Nat c (s1.heap.objs.size + 1) := by simpa using hc
  lia
 exact I1.fpOk hc' (I1.hok.fresh hc')
mutual
inductive Rep (K : PySem.W.Frag) (H : Hp) : V → PyData → Prop
 | non : Rep K H .non .none
 | bl (b : Bool) : Rep K H (.bl b) (.bool b)
 | int (i : Int) : Rep K H (.int i) (.int i)
 | str (x : Str) : Rep K H (.str x) (.str x)
 | lst {a : Addr} {xs : List V} {ds : List PyData} : SqL K H a xs → RepAll K H xs ds → Rep K H (.ref a) (.list ds)
 | tup {a : Addr} {xs : List V} {ds : List PyData} : SqT K H a xs → RepAll K H xs ds → Rep K H (.ref a) (.tuple ds)
inductive RepAll (K : PySem.W.Frag) (H : Hp) : List V → List PyData → Prop
 | nil : RepAll K H [] []
 | cons {v : V} {vs : List V} {d : PyData} {ds : List PyData} : Rep K H v d → RepAll K H vs ds → RepAll K H (v :: vs) (d :: ds)
end
theorem CW {K : PySem.W.Frag} {H H' : Hp} {a : Addr} {xs : List V} (e : aK H H') (h : SqT K H a xs) : SqT K H' a xs := by
 rcases h with (h | ⟨o, h⟩) | h
 ·exact .inl (.inl (e _ _ h))
 ·exact .inl (.inr ⟨o, e _ _ h⟩)
 ·exact .inr h
mutual
theorem Rep.same {K : PySem.W.Frag} {H H' : Hp} (e : aK H H') {v : V} {d : PyData} : Rep K H v d → Rep K H' v d
 | .non => .non
 | .bl b => .bl b
 | .int i => .int i
 | .str x => .str x
 | .lst h r => .lst (e.seq h) (RepAll.same e r)
 | .tup h r => .tup (CW e h) (RepAll.same e r)
theorem RepAll.same {K : PySem.W.Frag} {H H' : Hp} (e : aK H H') {vs : List V} {ds : List PyData} : RepAll K H vs ds → RepAll K H' vs ds
 | .nil => .nil
 | .cons h r => .cons (Rep.same e h) (RepAll.same e r)
end
mutual
theorem Rep.reads {X : Cx} {pins : List (Addr × Obj)} {σ : St} {H : Hp} {s : Shared} (I : Inv X pins σ H s) {v : V} {d : PyData} : ∀ {u : Value}, Rep X.K H v d → RelV v u → ∃ as, Reads s.heap u d as
 | _, .non, r => by
  cases r;exact ⟨_, .none⟩
 | _, .bl b, r => by
  cases r;exact ⟨_, .bool b⟩
 | _, .int i, r => by
  obtain ⟨t, rfl⟩ := r;exact ⟨_, .int i t⟩
 | _, .str x, r => by
  obtain ⟨t, rfl⟩ := r;exact ⟨_, .str x t⟩
 | _, .lst h ra, r => by
  cases r;obtain ⟨its, rv, pl, hz⟩ := I.list h;obtain ⟨as, ha⟩ := RepAll.reads I ra rv;obtain ⟨o, e, c, n, dd⟩ := pl.isList;exact ⟨_, .list e c dd (by simpa using ha)⟩
 | _, .tup h ra, r => by
  cases r;obtain ⟨its, rv, pl, hz⟩ := I.tuple h;obtain ⟨as, ha⟩ := RepAll.reads I ra rv;obtain ⟨o, e, c, n, dd⟩ := (show s.heap.IsTuple _ its.toArray from pl)
  exact ⟨_, .tuple e c dd (by simpa using ha)⟩
theorem RepAll.reads {X : Cx} {pins : List (Addr × Obj)} {σ : St} {H : Hp} {s : Shared} (I : Inv X pins σ H s) {vs : List V} {ds : List PyData} : ∀ {us : List Value}, RepAll X.K H vs ds → Vals vs us → ∃ as, ReadsAll s.heap us ds as
 | _, .nil, .nil => ⟨_, .nil⟩
 | _, .cons h r, .cons q t => by
  obtain ⟨as, ha⟩ := Rep.reads I h q;obtain ⟨bs, hb⟩ := RepAll.reads I r t;exact ⟨_, .cons ha hb⟩
end
noncomputable def BW (K : PySem.W.Frag) : R2 := fun x y H Q => ∃ d e, Rep K H x d ∧ Rep K H y e ∧ SeqAt.shaped d = true ∧ SeqAt.shaped e = true ∧ Q (.bl (PyData.eqv d e)) H
noncomputable def Bx (K : PySem.W.Frag) : R2 := fun x y H Q => ∃ d e, Rep K H x d ∧ Rep K H y e ∧ SeqAt.shaped d = true ∧ SeqAt.shaped e = true ∧ Q (.bl (!PyData.eqv d e)) H
theorem zd {X : Cx} (hu : X.A.units + 64 < cLine) : OpR X (compareOp .Eq) (BW X.K) := by
 intro pins s σ H x y v u Q I rx ry h;obtain ⟨d, e, h1, h2, s1, s2, q⟩ := h;obtain ⟨as, r1⟩ := h1.reads I rx;obtain ⟨bs, r2⟩ := h2.reads I ry;exact eq_dataH r1 r2 s1 s2 hu ⟨.bl _, H, I, rfl, q⟩
theorem Bh {X : Cx} (hu : X.A.units + 64 < cLine) : OpR X (compareOp .NotEq) (Bx X.K) := by
 intro pins s σ H x y v u Q I rx ry h;obtain ⟨d, e, h1, h2, s1, s2, q⟩ := h;obtain ⟨as, r1⟩ := h1.reads I rx;obtain ⟨bs, r2⟩ := h2.reads I ry;exact ne_dataH r1 r2 s1 s2 hu ⟨.bl _, H, I, rfl, q⟩
theorem j_ : bootBuiltins "isinstance" = some (.builtin "isinstance") := by decide +kernel
theorem r_ {X : Cx} (hc : X.calm = true) : eh X (.builtin "max") (fun xs H Q => ∃ (a : Addr) (ns : List Int), xs = [.ref a] ∧ SqL X.K H a (ns.map V.int) ∧ 0 < ns.length ∧ ∀ M, M ∈ ns → (∀ z, z ∈ ns → z ≤ M) → Q (.int M) H) := by
 intro pins s σ H xs us Q I r h;obtain ⟨a, ns, rfl, hq, hl, q⟩ := h;obtain ⟨u, rfl, ru⟩ := Vals.one r;cases ru;obtain ⟨its, rv, pl, hz⟩ := I.list hq;have hi : IntsAre its ns := intsAre_of rv;obtain ⟨ys, e⟩ := hi.allInts.items;have hns : ns = ys.toList.map (·.1) := by
  rw [← hi.numsOf, ← nums_intItems, ← e]
 have hsz : 0 < ys.size := by
  have h3 := hl;rw [hns, List.length_map, Array.length_toList] at h3;exact h3
 have hL := pl.isList;rw [e] at hL;refine max_intList (I.ok.hd hc) hL hsz fun v h' tk hv hk => ?_
 obtain ⟨t, rfl⟩ := intItems_at hv;obtain ⟨h1, h2⟩ := argBest_gt (numAt ys) (ys.size - 1);refine ⟨.int _, H, I.kept hk, ⟨t, rfl⟩, q _ ?_ fun z hzz => ?_⟩
 ·rw [hns, numAt_eq]
  exact getD_mem (by rw [List.length_map, Array.length_toList]; lia)
 ·rw [hns] at hzz
  obtain ⟨j, hj, rfl⟩ := mem_getD hzz;rw [List.length_map, Array.length_toList] at hj;rw [← numAt_eq];exact h2 j (by lia)
theorem sy {X : Cx} (hc : X.calm = true) : eh X (.builtin "min") (fun xs H Q => ∃ (a : Addr) (ns : List Int), xs = [.ref a] ∧ SqL X.K H a (ns.map V.int) ∧ 0 < ns.length ∧ ∀ M, M ∈ ns → (∀ z, z ∈ ns → M ≤ z) → Q (.int M) H) := by
 intro pins s σ H xs us Q I r h;obtain ⟨a, ns, rfl, hq, hl, q⟩ := h;obtain ⟨u, rfl, ru⟩ := Vals.one r;cases ru;obtain ⟨its, rv, pl, hz⟩ := I.list hq;have hi : IntsAre its ns := intsAre_of rv;obtain ⟨ys, e⟩ := hi.allInts.items;have hns : ns = ys.toList.map (·.1) := by
  rw [← hi.numsOf, ← nums_intItems, ← e]
 have hsz : 0 < ys.size := by
  have h3 := hl;rw [hns, List.length_map, Array.length_toList] at h3;exact h3
 have hL := pl.isList;rw [e] at hL;refine min_intList (I.ok.hd hc) hL hsz fun v h' tk hv hk => ?_
 obtain ⟨t, rfl⟩ := intItems_at hv;obtain ⟨h1, h2⟩ := argBest_lt (numAt ys) (ys.size - 1);refine ⟨.int _, H, I.kept hk, ⟨t, rfl⟩, q _ ?_ fun z hzz => ?_⟩
 ·rw [hns, numAt_eq]
  exact getD_mem (by rw [List.length_map, Array.length_toList]; lia)
 ·rw [hns] at hzz
  obtain ⟨j, hj, rfl⟩ := mem_getD hzz;rw [List.length_map, Array.length_toList] at hj;rw [← numAt_eq];exact h2 j (by lia)
theorem tq {X : Cx} : MtR X "list.index" (fun x vs H Q => ∃ (a : Addr) (ns : List Int) (z : Int), x = .ref a ∧ vs = [.int z] ∧ SqL X.K H a (ns.map V.int) ∧ z ∈ ns ∧ Q (.int (ns.idxOf z : Nat)) H) := by
 intro pins s σ H x vs v us Q I rx rv h;obtain ⟨a, ns, z, rfl, rfl, hq, hm, q⟩ := h;cases rx;obtain ⟨u, rfl, t, rfl⟩ := Vals.one rv;obtain ⟨its, rs, pl, hz⟩ := I.list hq;have hi : IntsAre its ns := intsAre_of rs;obtain ⟨⟨cls, dd, data, sl⟩, ho, hc, n, hd⟩ := pl.isList;simp only at hc hd;subst hc hd;have hlen := hi.length;have hj : ns.idxOf z < ns.length := List.idxOf_lt_length_iff.mpr hm;have hn := ju;have hb : ns.length ≤ sizeLine := by simpa using hz
 refine call_meets PySem.F.slot_list_index ⟨_, ho, rfl⟩ PySem.F.entry_list_index (PySem.F.args_list_index_2 _ _)
  (SeqAt.list_indexAt a its.toArray n dd sl (.int z t) (isInt z) (ns.idxOf z) (by simpa [hlen] using hj) (by lia) ?_ ?_) ⟨ho, fun y hy => (eq_isInt z t hi y (by simpa using hy)).at _ _, ⟨.int _, H, I.tok _, ⟨_, rfl⟩, q⟩⟩
 ·show isInt z its[ns.idxOf z] = true
  rw [isInt_at z hi _ (by lia) hj]
  simpa using List.getElem_idxOf hj
 ·intro j hjs hlt
  show isInt z its[j] = false
  rw [isInt_at z hi j (by simpa using hjs) (by lia)]
  exact ne_of_lt_idxOf hlt _
end L2
namespace L2
open PySem PySem.Spec PyProof.Rows
theorem BZ {K : PySem.W.Frag} {a : Addr} {xs : List V} {g : TG} {tb : TS} {D : Ends} {σ : St} {H : Hp} (Pv : Nat → St → Hp → Prop) (h0 : Pv 0 σ H) (hl : ∀ i σ H, i ≤ xs.length → Pv i σ H → SqL K H a xs)
  (hs : ∀ i x σ H T, xs[i]? = some x → Pv i σ H → H T = none → g (.ref T) σ (upd H T (.tup [.int i, x])) fun σ2 H2 => tb { D with nx := Pv (i + 1), ct := Pv (i + 1), bk := D.nx } σ2 H2) (hd : ∀ σ H, Pv xs.length σ H → D.nx σ H) :
  ∃ W : Nat → Nat → St → Hp → Prop, (∃ m, W 0 m σ H) ∧ ∀ i m σ H, W i m σ H →
   ((Ite K a).stop i H ∧ D.nx σ H) ∨ ((Ite K a).go i H ∧ ∃ N : St → Hp → Prop, (∀ σ' H', N σ' H' → ∃ m', m' < m ∧ W (i + 1) m' σ' H') ∧ ∀ x H', (Ite K a).yld i H x H' → g x σ H' fun σ2 H2 => tb { D with nx := N, ct := N, bk := D.nx } σ2 H2) := by
 refine ⟨fun i m σ H => m = xs.length - i ∧ i ≤ xs.length ∧ Pv i σ H, ⟨xs.length, by simp, Nat.zero_le _, h0⟩, ?_⟩
 rintro i m σ H ⟨rfl, hi, p⟩;have q := hl i σ H hi p;by_cases hlt : i < xs.length
 ·refine .inr ⟨⟨xs, xs[i], q, by simp [hlt]⟩, Pv (i + 1), fun σ' H' p' => ⟨xs.length - (i + 1), by lia, rfl, hlt, p'⟩, fun x H' y => ?_⟩
  obtain ⟨T, z, hT, rfl, rfl, e⟩ := y;exact hs i z σ H T (e xs q) p hT
 ·have e : i = xs.length := by lia
  subst e;exact .inl ⟨⟨xs, q, Nat.le_refl _⟩, hd σ H p⟩
section
variable {g : TG} {tc : TT} {te : TE} {σ0 : St} {D : Addr} {H1 : Hp} {Q : Hp → Prop}
theorem uQ {K : PySem.W.Frag} {a : Addr} {xs : List V} (Pv : Nat → List V → Hp → Prop) (h0 : Pv 0 [] (upd H1 D (.lst []))) (hl : ∀ i acc H, i ≤ xs.length → Pv i acc H → SqL K H a xs)
  (hs : ∀ i x acc H, xs[i]? = some x → Pv i acc H → g x σ0 H (Cm tc te σ0 D acc (Pv (i + 1)))) (hd : ∀ acc H, Pv xs.length acc H → Q H) : xN (Itl K a) g tc te σ0 D H1 Q := by
 refine ⟨fun i m acc H => m = xs.length - i ∧ i ≤ xs.length ∧ Pv i acc H, ⟨xs.length, by simp, Nat.zero_le _, h0⟩, ?_⟩
 rintro i m acc H ⟨rfl, hi, p⟩;have q := hl i acc H hi p;by_cases hlt : i < xs.length
 ·refine .inr ⟨⟨xs, xs[i], q, by simp [hlt]⟩, Pv (i + 1), fun acc' H' p' => ⟨xs.length - (i + 1), by lia, rfl, hlt, p'⟩, fun x H' y => ?_⟩
  obtain ⟨e, y⟩ := y;subst e;exact hs i x acc _ (y xs q) p
 ·have e : i = xs.length := by lia
  subst e;exact .inl ⟨⟨xs, q, Nat.le_refl _⟩, hd acc H p⟩
end
noncomputable def PvM (H1 : Hp) (D : Addr) (r : Nat → List V) (i : Nat) (acc : List V) (H : Hp) : Prop := acc = r i ∧ aK H1 H ∧ H D = some (.lst acc)
theorem PvM.start {H1 : Hp} {D : Addr} {r : Nat → List V} (hD : H1 D = none) (h : r 0 = []) : PvM H1 D r 0 [] (upd H1 D (.lst [])) :=
 ⟨h.symm, fun b o e => by rw [aG (aP e hD)]; exact e, bZ⟩
theorem PvM.yes {H1 H : Hp} {D : Addr} {r : Nat → List V} {i : Nat} {acc : List V} {y : V} (hD : H1 D = none) (p : PvM H1 D r i acc H) (e : r (i + 1) = r i ++ [y]) (hl : (r i).length < sizeLine) :
  H D = some (.lst acc) ∧ acc.length < sizeLine ∧ PvM H1 D r (i + 1) (acc ++ [y]) (upd H D (.lst (acc ++ [y]))) :=
 ⟨p.2.2, by rw [p.1]; exact hl, by rw [p.1, e], fun b u q => by rw [aG (aP q hD)]; exact p.2.1 b u q, bZ⟩
structure Def (K : PySem.W.Frag) (mg : Str → Option Value) (x : Str) (st : Stmt) (ps : List Str) (f : Addr) (fd : FuncData) : Prop where
 F : Fun K x x st f fd
 g : mg x = some (.ref f)
 b : Binds K fd ps []
theorem aK.upd {H H' : Hp} {a : Addr} {o : HO} (e : aK H H') (h : H a = none) : aK H (L2.upd H' a o) := fun b u q => by
 rw [aG (aP q h)];exact e b u q
section
variable {X : Cx}
theorem lh (K : PySem.W.Frag) (h : X.K = K) : IxR X (ow K) := by
 subst h;exact qQ
noncomputable def En (K : PySem.W.Frag) : List V → Hp → VK → Prop := fun xs H Q => ∃ p ys, xs = [.ref p] ∧ (SqL K H p ys ∨ SqT K H p ys) ∧ ∀ l, H l = none → Q (.ref l) (upd H l (.lst ys))
theorem md (K : PySem.W.Frag) (h : X.K = K) : eh X (.type "list") (En K) := by
 subst h;exact mL
theorem tM (K : PySem.W.Frag) (h : X.K = K) {tg l : Expr} {tl : TE} (hl : PE X l tl) : PI X tg l (pP K tl) := by
 subst h;exact rM hl
noncomputable def yx (K : PySem.W.Frag) : List V → Hp → VK → Prop := fun xs H Q => ∃ (a : Addr) (ns : List Int), xs = [.ref a] ∧ SqL K H a (ns.map V.int) ∧ 0 < ns.length ∧ ∀ M, M ∈ ns → (∀ z, z ∈ ns → z ≤ M) → Q (.int M) H
theorem eZ (K : PySem.W.Frag) (h : X.K = K) (hc : X.calm = true) : eh X (.builtin "max") (yx K) := by
 subst h;exact r_ hc
noncomputable def yg (K : PySem.W.Frag) : List V → Hp → VK → Prop := fun xs H Q => ∃ (a : Addr) (ns : List Int), xs = [.ref a] ∧ SqL K H a (ns.map V.int) ∧ 0 < ns.length ∧ ∀ M, M ∈ ns → (∀ z, z ∈ ns → M ≤ z) → Q (.int M) H
theorem j6 (K : PySem.W.Frag) (h : X.K = K) (hc : X.calm = true) : eh X (.builtin "min") (yg K) := by
 subst h;exact sy hc
end
end L2
namespace L2
open PySem PySem.Spec PyProof.Rows
end L2
namespace L2
open PySem PySem.Spec PyProof.Rows
section
variable {κ : Type} [DecidableEq κ]
end
section
variable {P : Program} {w : World} {H : Hp} {h : Heap} {a : Addr}
end
section
variable {X : Cx} {pins : List (Addr × Obj)} {σ : St} {H : Hp} {s : Shared} {a : Addr} {y v : V} {u r : Value} {o : Option V} {A : Around} {E : Value → Shared → Prop}
end
section
variable {X : Cx} {pins : List (Addr × Obj)} {σ : St} {H : Hp} {s : Shared} {a : Addr} {kvs : List (Key × V)} {k : Key} {u : Value} {A : Around} {E : Value → Shared → Prop}
end
section
variable {X : Cx} {o i e value : Expr} {pos pos' tpos : Pos} {td ty tv : TE}
end
section
variable {X : Cx} {pos : Pos}
end
end L2
namespace L3
open PySem L2 PySem.Spec PyProof.Rows
noncomputable abbrev St := L2.St
noncomputable def RdK (K : PySem.W.Frag) (H : Hp) (a : Addr) (xs : List V) : Prop :=
 Rd H a (.lst xs) ∨ ∃ (its : Array Value) (n : Nat), K.lookup a = some { cls := .type "list", data := .seq its n } ∧ its.size ≤ sizeLine ∧ Vals xs its.toList
theorem RdK.of {K : PySem.W.Frag} {H : Hp} {a : Addr} {xs : List V} (h : H a = some (.lst xs)) : RdK K H a xs := .inl (.inl h)
theorem RdK.sq {K : PySem.W.Frag} {H : Hp} {a : Addr} {xs : List V} (h : RdK K H a xs) : SqL K H a xs := by
 rcases h with h | ⟨its, n, hk, hz, r⟩
 ·exact .inl h
 ·exact .inr ⟨_, its, n, hk, rfl, rfl, rfl, hz, r⟩
theorem RdK.same {K : PySem.W.Frag} {H H' : Hp} (e : aK H H') {a : Addr} {xs : List V} (h : RdK K H a xs) : RdK K H' a xs := by
 rcases h with (h | ⟨o, h⟩) | h
 ·exact .inl (.inl (e _ _ h))
 ·exact .inl (.inr ⟨o, e _ _ h⟩)
 ·exact .inr h
theorem RdK.obj {X : Cx} {pins : List (Addr × Obj)} {σ : St} {H : Hp} {s : Shared} {a : Addr} {xs : List V} (I : Inv X pins σ H s) (h : RdK X.K H a xs) :
  xs.length ≤ sizeLine ∧ ∃ (its : List Value) (n : Nat), Vals xs its ∧ xs.length = its.length ∧ s.heap.get? a = some { cls := .type "list", data := .seq its.toArray n } := by
 rcases h with h | ⟨its, n, hk, hz, r⟩
 ·obtain ⟨z, its, n, r, e⟩ := h.ok I.hok
  exact ⟨z, its, n, r, r.length, e⟩
 ·have e := r.length
  have e' := e;simp only [Array.length_toList] at e';exact ⟨by lia, its.toList, n, r, e, by simpa using I.kIn a _ hk⟩
end L3
namespace L3
open PySem L2
inductive OD where
 | sh (d : PyData)
 | ol (xs : List OD)
 | ot (xs : List OD)
 | od (kvs : List (Key × PyData))
noncomputable def kD : Key → PyData
 | .inl i => .int i
 | .inr x => .str x
noncomputable def dD (kvs : List (Key × PyData)) : PyData := .dict (kvs.map fun p => (kD p.1, p.2))
mutual
noncomputable def OD.er : OD → PyData
 | .sh d => d
 | .ol xs => .list (OD.ers xs)
 | .ot xs => .tuple (OD.ers xs)
 | .od kvs => dD kvs
noncomputable def OD.ers : List OD → List PyData
 | [] => []
 | x :: xs => x.er :: OD.ers xs
end
theorem kC : ∀ xs : List OD, OD.ers xs = xs.map OD.er
 | [] => rfl
 | x :: xs => by rw [OD.ers, List.map_cons, kC xs]
theorem bN (d : PyData) : (OD.sh d).er = d := by rw [OD.er]
theorem lX (xs : List OD) : (OD.ol xs).er = .list (xs.map OD.er) := by rw [OD.er, kC]
theorem yh (xs : List OD) : (OD.ot xs).er = .tuple (xs.map OD.er) := by rw [OD.er, kC]
theorem CU (kvs : List (Key × PyData)) : (OD.od kvs).er = dD kvs := by rw [OD.er]
theorem c6 (ds : List PyData) : (ds.map OD.sh).map OD.er = ds := by
 rw [List.map_map];have : (OD.er ∘ OD.sh) = id := funext fun d => bN d
 rw [this, List.map_id]
inductive R (α : Type) where
 | ok (a : α)
 | ex (c : Str)
 | bad
noncomputable def R.bind {α β : Type} (r : R α) (f : α → R β) : R β := match r with
 | .ok a => f a
 | .ex c => .ex c
 | .bad => .bad
theorem fO {α β : Type} (a : α) (f : α → R β) : (R.ok a).bind f = f a := rfl
noncomputable abbrev Env := List (Option OD)
noncomputable abbrev Fe := Env → R OD
noncomputable abbrev Fa := Env → R (List OD)
noncomputable abbrev Ft := Env → R Bool
noncomputable abbrev Fn := List PyData → R OD
inductive Out where
 | nx (ρ : Env)
 | rt (x : OD)
 | bk (ρ : Env)
 | ct (ρ : Env)
noncomputable abbrev Fs := Env → R Out
noncomputable abbrev Fi := Env → R (List PyData)
noncomputable abbrev Fg := OD → Env → R Env
noncomputable def BIG : Nat := 10000000
noncomputable def flat : PyData → Bool
 | .none => true
 | .bool _ => true
 | .int _ => true
 | .str _ => true
 | _ => false
noncomputable def ae (i : Nat) : Fe := fun ρ => match ρ[i]? with
 | some (some (.sh d)) => .ok (.sh d)
 | _ => .bad
noncomputable def eC (d : PyData) : Fe := fun _ => .ok (.sh d)
noncomputable def eOp (g : PyData → PyData → R OD) (a b : Fe) : Fe := fun ρ => (a ρ).bind fun x => (b ρ).bind fun y => g x.er y.er
noncomputable def eUn (g : PyData → R OD) (a : Fe) : Fe := fun ρ => (a ρ).bind fun x => g x.er
noncomputable def truth : PyData → R Bool
 | .bool b => .ok b
 | _ => .bad
noncomputable def aT (a : Fe) : Ft := fun ρ => (a ρ).bind fun x => truth x.er
noncomputable def yy (a b : Ft) : Ft := fun ρ => (a ρ).bind fun c => if c = true then b ρ else .ok false
noncomputable def lT (a b : Ft) : Ft := fun ρ => (a ρ).bind fun c => if c = true then .ok true else b ρ
noncomputable def k5 (a : Ft) : Ft := fun ρ => (a ρ).bind fun c => .ok (!c)
noncomputable def CK (a b : Fe) : Fe := fun ρ => (a ρ).bind fun x => (truth x.er).bind fun c => if c = true then b ρ else .ok (.sh (.bool false))
noncomputable def eOr (a b : Fe) : Fe := fun ρ => (a ρ).bind fun x => (truth x.er).bind fun c => if c = true then .ok (.sh (.bool true)) else b ρ
noncomputable def BM (a : Fe) : Fe := fun ρ => (a ρ).bind fun x => (truth x.er).bind fun c => .ok (.sh (.bool (!c)))
noncomputable def eIf (t : Ft) (a b : Fe) : Fe := fun ρ => (t ρ).bind fun c => if c = true then a ρ else b ρ
noncomputable def aq : Fa := fun _ => .ok []
noncomputable def af (a : Fe) (r : Fa) : Fa := fun ρ => (a ρ).bind fun x => (r ρ).bind fun xs => .ok (x :: xs)
noncomputable def shs : List OD → Option (List PyData)
 | [] => some []
 | .sh d :: r => match shs r with
  | some ds => some (d :: ds)
  | none => none
 | _ :: _ => none
noncomputable def mkT (xs : List OD) : OD := match shs xs with
 | some ds => .sh (.tuple ds)
 | none => .ot xs
noncomputable def gG (a : Fa) : Fe := fun ρ => (a ρ).bind fun xs => if xs.length ≤ BIG then .ok (mkT xs) else .bad
noncomputable def eSh (a : Fe) : Fe := fun ρ => (a ρ).bind fun x => .ok (.sh x.er)
noncomputable def eE (a : Fa) : Fe := fun ρ => (a ρ).bind fun xs => if xs.length ≤ BIG then .ok (.ol xs) else .bad
noncomputable def aJ (f : Fn) (a : Fa) : Fe := fun ρ => (a ρ).bind fun xs => f (xs.map OD.er)
noncomputable def eB (g : List PyData → R OD) (a : Fa) : Fe := fun ρ => (a ρ).bind fun xs => g (xs.map OD.er)
noncomputable def erase (ρ : Env) : Env := ρ.map fun o => o.map fun x => OD.sh x.er
noncomputable def si (a : Fe) : Fe := fun ρ => (a (erase ρ)).bind fun x => if flat x.er = true then .ok (.sh x.er) else .bad
noncomputable def kJ (a : Fe) : Fe := fun ρ => (a (erase ρ)).bind fun x => match x with
 | .ol xs => if xs.all (fun y => flat y.er) = true then .ok (.ol (xs.map fun y => .sh y.er)) else .bad
 | _ => .bad
noncomputable def vK (a : Ft) : Ft := fun ρ => a (erase ρ)
noncomputable abbrev Fo := Env → R (Option Int)
noncomputable def oE : Fo := fun _ => .ok none
noncomputable def lW (a : Fe) : Fo := fun ρ => (a ρ).bind fun x => match x.er with
 | .int i => .ok (some i)
 | _ => .bad
noncomputable def eSl (g : PyData → Option Int → Option Int → R OD) (a : Fe) (l h : Fo) : Fe := fun ρ => (a ρ).bind fun x => (l ρ).bind fun i => (h ρ).bind fun j => g x.er i j
noncomputable def c9 (a : Fe) : Fi := fun ρ => (a ρ).bind fun x => match x.er with
 | .list ds => .ok ds
 | _ => .bad
noncomputable def iTp (a : Fe) : Fi := fun ρ => (a ρ).bind fun x => match x.er with
 | .tuple ds => .ok ds
 | _ => .bad
noncomputable def iM (lo : Int) (n : Nat) : List PyData := (List.range n).map fun k : Nat => PyData.int (lo + k)
noncomputable def ay (i : Int) : Bool := decide (-(2 ^ 62) ≤ i) && decide (i < 2 ^ 62)
noncomputable def iR1 (a : Fe) : Fi := fun ρ => (a ρ).bind fun x => match x.er with
 | .int j => if ay j = true then .ok (iM 0 j.toNat) else .bad
 | _ => .bad
noncomputable def iR2 (a b : Fe) : Fi := fun ρ => (a ρ).bind fun x => (b ρ).bind fun y => match x.er, y.er with
 | .int i, .int j => if (ay i && ay j) = true then .ok (iM i (j - i).toNat) else .bad
 | _, _ => .bad
noncomputable def fE (ds : List PyData) : List PyData := ds.zipIdx.map fun p => PyData.tuple [.int (p.2 : Nat), p.1]
noncomputable def ku (ds es : List PyData) : List PyData := (ds.zip es).map fun p => PyData.tuple [p.1, p.2]
noncomputable def iEn (a : Fe) : Fi := fun ρ => (a ρ).bind fun x => match x.er with
 | .list ds => .ok (fE ds)
 | _ => .bad
noncomputable def iZp (a b : Fe) : Fi := fun ρ => (a ρ).bind fun x => (b ρ).bind fun y => match x.er, y.er with
 | .list ds, .list es => .ok (ku ds es)
 | _, _ => .bad
noncomputable def gNm (i : Nat) : Fg := fun x ρ => .ok (ρ.set i (some x))
noncomputable abbrev Fgs := List OD → Env → R Env
noncomputable def gf : Fgs := fun xs ρ => match xs with
 | [] => .ok ρ
 | _ => .bad
noncomputable def bA (g : Fg) (r : Fgs) : Fgs := fun xs ρ => match xs with
 | x :: xs => (g x ρ).bind fun ρ' => r xs ρ'
 | [] => .bad
noncomputable def gTp (n : Nat) (r : Fgs) : Fg := fun x ρ => match x with
 | .ot xs => if xs.length = n then r xs ρ else .bad
 | .sh (.tuple ds) => if ds.length = n then r (ds.map OD.sh) ρ else .bad
 | _ => .bad
noncomputable def j4 : Option (Option OD) → Option OD
 | some (some (.sh d)) => some (.sh d)
 | _ => none
noncomputable def sl3 (k : Nat) (outs : List Nat) (ρ : Env) : Env := List.replicate k none ++ outs.map fun i => j4 ρ[i]?
noncomputable def nr {α : Type} : R α → R α
 | .ok a => .ok a
 | _ => .bad
noncomputable def a7 (g : Fg) (t : Ft) (el : Fe) (ρ0 : Env) : List PyData → List OD → R (List OD)
 | [], acc => .ok acc
 | d :: ds, acc => (nr (g (.sh d) ρ0)).bind fun ρ => (nr (t ρ)).bind fun b => if b = true then (nr (el ρ)).bind fun y => if acc.length < BIG then a7 g t el ρ0 ds (acc ++ [y]) else .bad else a7 g t el ρ0 ds acc
noncomputable def aZ (it : Fi) (g : Fg) (t : Ft) (el : Fe) (k : Nat) (outs : List Nat) : Fe := fun ρ => (it ρ).bind fun ds => (a7 g t el (sl3 k outs ρ) ds []).bind fun xs => .ok (.ol xs)
noncomputable def bH : Ft := fun _ => .ok true
noncomputable def sNx : Fs := fun ρ => .ok (.nx ρ)
noncomputable def aE (a b : Fs) : Fs := fun ρ => (a ρ).bind fun o => match o with
 | .nx ρ' => b ρ'
 | o => .ok o
noncomputable def xB (a : Fe) (g : Fg) : Fs := fun ρ => (a ρ).bind fun x => (g x ρ).bind fun ρ' => .ok (.nx ρ')
noncomputable def aN (i : Nat) (a : Fe) : Fs := fun ρ => (a ρ).bind fun x => .ok (.nx (ρ.set i (some x)))
noncomputable def rA (a : Fe) : Fs := fun ρ => (a ρ).bind fun _ => .ok (.nx ρ)
noncomputable def d6 (a : Fe) : Fs := fun ρ => (a ρ).bind fun x => .ok (.rt x)
noncomputable def BF : Fs := fun _ => .ok (.rt (.sh .none))
noncomputable def gC (i : Nat) : Fs := fun ρ => match ρ[i]? with
 | some (some x) => .ok (.rt x)
 | _ => .bad
noncomputable def sIf (t : Ft) (a b : Fs) : Fs := fun ρ => (t ρ).bind fun c => if c = true then a ρ else b ρ
noncomputable def sBk : Fs := fun ρ => .ok (.bk ρ)
noncomputable def sCt : Fs := fun ρ => .ok (.ct ρ)
noncomputable def Bn : Fs := fun _ => .bad
noncomputable def uj (i : Nat) (ρ : Env) : Env := match ρ[i]? with
 | some (some x) => ρ.set i (some (.sh x.er))
 | _ => ρ
noncomputable def lx (i : Nat) (a : Fs) : Fs := fun ρ => a (uj i ρ)
noncomputable def qj (i : Nat) (g : PyData → PyData → R OD) (a : Fe) : Fs := fun ρ => match ρ[i]? with
 | some (some (.sh d)) => (a ρ).bind fun y => (g d y.er).bind fun z => .ok (.nx (ρ.set i (some z)))
 | _ => .bad
noncomputable def gU (i : Nat) (a : Fe) : Fs := fun ρ => match ρ[i]? with
 | some (some (.ol xs)) => (a ρ).bind fun y => if xs.length < BIG then .ok (.nx (ρ.set i (some (.ol (xs ++ [y]))))) else .bad
 | _ => .bad
noncomputable def Ek (i : Nat) : Fs := fun ρ => match ρ[i]? with
 | some (some (.ol xs)) => .ok (.nx (ρ.set i (some (.ol xs.reverse))))
 | _ => .bad
noncomputable def sW (i : Nat) : Fs := fun ρ => match ρ[i]? with
 | some (some (.ol xs)) => .ok (.nx (ρ.set i (some (.ol []))))
 | _ => .bad
noncomputable def DX (i : Nat) (g : Fg) : Fs := fun ρ => match ρ[i]? with
 | some (some (.ol xs)) => match xs.getLast? with
  | some (.sh d) => (g (.sh d) (ρ.set i (some (.ol xs.dropLast)))).bind fun ρ' => .ok (.nx ρ')
  | _ => .bad
 | _ => .bad
noncomputable def sO (i : Nat) (a : Fe) : Fs := fun ρ => match ρ[i]? with
 | some (some (.ol xs)) => (a ρ).bind fun y => match y with
  | .ol ys => if xs.length + ys.length ≤ BIG then .ok (.nx (ρ.set i (some (.ol (xs ++ ys))))) else .bad
  | _ => .bad
 | _ => .bad
noncomputable def mQ (i : Nat) (k : Fe) (a : Fe) : Fs := fun ρ => match ρ[i]? with
 | some (some (.ol xs)) => (a ρ).bind fun y => (k ρ).bind fun z => match z.er with
  | .int q => match ixN xs.length q with
   | some j => .ok (.nx (ρ.set i (some (.ol (xs.set j y)))))
   | none => .bad
  | _ => .bad
 | _ => .bad
noncomputable def comps : OD → Option (Bool × List OD)
 | .ol xs => some (true, xs)
 | .ot xs => some (false, xs)
 | _ => none
noncomputable def wrap (l : Bool) (xs : List OD) : OD := if l = true then .ol xs else .ot xs
noncomputable def j0 (i : Nat) (k : Fe) (a : Fe) : Fs := fun ρ => match ρ[i]? with
 | some (some (.ol xs)) => (k ρ).bind fun z => match z.er with
  | .int q => match ixN xs.length q with
   | some j => match xs[j]? with
    | some (.ol ys) => (a ρ).bind fun y => if ys.length < BIG then .ok (.nx (ρ.set i (some (.ol (xs.set j (.ol (ys ++ [y]))))))) else .bad
    | _ => .bad
   | none => .bad
  | _ => .bad
 | _ => .bad
noncomputable def bI (g : Fg) (b : Fs) : List PyData → Env → R Out
 | [], ρ => .ok (.nx ρ)
 | d :: ds, ρ => (g (.sh d) ρ).bind fun ρ1 => (b ρ1).bind fun o => match o with
  | .nx ρ2 => bI g b ds ρ2
  | .ct ρ2 => bI g b ds ρ2
  | .bk ρ2 => .ok (.nx ρ2)
  | .rt x => .ok (.rt x)
noncomputable def e6 (it : Fi) (g : Fg) (b : Fs) : Fs := fun ρ => (it ρ).bind fun ds => bI g b ds ρ
open Classical in
noncomputable def nj (n : Nat) (ds : List PyData) : Env := (ds.map fun d => some (OD.sh d)) ++ List.replicate (n - ds.length) none
noncomputable def cQ (np n : Nat) (b : Fs) : Fn := fun ds => if ds.length = np then (b (nj n ds)).bind fun o => match o with
 | .rt x => .ok x
 | .nx _ => .ok (.sh .none)
 | _ => .bad else .bad
end L3
namespace L3
open PySem L2
mutual
inductive Rep (K : PySem.W.Frag) (H : Hp) : V → PyData → Prop
 | non : Rep K H .non .none
 | bl (b : Bool) : Rep K H (.bl b) (.bool b)
 | int (i : Int) : Rep K H (.int i) (.int i)
 | str (x : Str) : Rep K H (.str x) (.str x)
 | lst {a : Addr} {xs : List V} {ds : List PyData} : RdK K H a xs → RepAll K H xs ds → Rep K H (.ref a) (.list ds)
 | tup {a : Addr} {xs : List V} {ds : List PyData} : H a = some (.tup xs) → RepAll K H xs ds → Rep K H (.ref a) (.tuple ds)
 | dct {a : Addr} {kvs : List (Key × V)} {ds : List (Key × PyData)} : H a = some (.dK kvs) → kvs.map (·.1) = ds.map (·.1) → RepAll K H (kvs.map (·.2)) (ds.map (·.2)) → Rep K H (.ref a) (dD ds)
inductive RepAll (K : PySem.W.Frag) (H : Hp) : List V → List PyData → Prop
 | nil : RepAll K H [] []
 | cons {v : V} {vs : List V} {d : PyData} {ds : List PyData} : Rep K H v d → RepAll K H vs ds → RepAll K H (v :: vs) (d :: ds)
end
mutual
theorem Rep.same {K : PySem.W.Frag} {H H' : Hp} (e : aK H H') {v : V} {d : PyData} : Rep K H v d → Rep K H' v d
 | .non => .non
 | .bl b => .bl b
 | .int i => .int i
 | .str x => .str x
 | .lst h r => .lst (h.same e) (RepAll.same e r)
 | .tup h r => .tup (e _ _ h) (RepAll.same e r)
 | .dct h k r => .dct (e _ _ h) k (RepAll.same e r)
theorem RepAll.same {K : PySem.W.Frag} {H H' : Hp} (e : aK H H') {vs : List V} {ds : List PyData} : RepAll K H vs ds → RepAll K H' vs ds
 | .nil => .nil
 | .cons h r => .cons (Rep.same e h) (RepAll.same e r)
end
mutual
inductive Own (K : PySem.W.Frag) (F H : Hp) : V → OD → List Addr → Prop
 | sh {v : V} {d : PyData} : Rep K F v d → Own K F H v (.sh d) []
 | ol {a : Addr} {vs : List V} {xs : List OD} {f : List Addr} : H a = some (.lst vs) → OwnL K F H vs xs f → Own K F H (.ref a) (.ol xs) (a :: f)
 | ot {a : Addr} {vs : List V} {xs : List OD} {f : List Addr} : H a = some (.tup vs) → OwnL K F H vs xs f → Own K F H (.ref a) (.ot xs) (a :: f)
 | od {a : Addr} {kvs : List (Key × V)} {ds : List (Key × PyData)} : H a = some (.dK kvs) → kvs.map (·.1) = ds.map (·.1) → RepAll K F (kvs.map (·.2)) (ds.map (·.2)) → Own K F H (.ref a) (.od ds) [a]
inductive OwnL (K : PySem.W.Frag) (F H : Hp) : List V → List OD → List Addr → Prop
 | nil : OwnL K F H [] [] []
 | cons {v : V} {x : OD} {f : List Addr} {vs : List V} {xs : List OD} {g : List Addr} : Own K F H v x f → OwnL K F H vs xs g → OwnL K F H (v :: vs) (x :: xs) (f ++ g)
end
section
variable {K : PySem.W.Frag} {F H F' H' : Hp}
mutual
theorem Own.mono (e : aK F F') {v : V} {x : OD} {f : List Addr} : (∀ a ∈ f, ∀ o, H a = some o → H' a = some o) → Own K F H v x f → Own K F' H' v x f
 | _, .sh r => .sh (r.same e)
 | k, .ol h r => .ol (k _ List.mem_cons_self _ h) (OwnL.mono e (fun a m => k a (List.mem_cons_of_mem _ m)) r)
 | k, .ot h r => .ot (k _ List.mem_cons_self _ h) (OwnL.mono e (fun a m => k a (List.mem_cons_of_mem _ m)) r)
 | k, .od h q r => .od (k _ List.mem_cons_self _ h) q (RepAll.same e r)
theorem OwnL.mono (e : aK F F') {v : List V} {x : List OD} {f : List Addr} : (∀ a ∈ f, ∀ o, H a = some o → H' a = some o) → OwnL K F H v x f → OwnL K F' H' v x f
 | _, .nil => .nil
 | k, .cons h r => .cons (Own.mono e (fun a m => k a (List.mem_append_left _ m)) h) (OwnL.mono e (fun a m => k a (List.mem_append_right _ m)) r)
end
mutual
theorem Own.dom {v : V} {x : OD} {f : List Addr} : Own K F H v x f → ∀ a ∈ f, ∃ o, H a = some o
 | .sh _, a, m => by cases m
 | .ol h r, a, m => by
  rcases List.mem_cons.mp m with rfl | m
  ·exact ⟨_, h⟩
  ·exact OwnL.dom r a m
 | .ot h r, a, m => by
  rcases List.mem_cons.mp m with rfl | m
  ·exact ⟨_, h⟩
  ·exact OwnL.dom r a m
 | .od h q r, a, m => by
  rcases List.mem_cons.mp m with rfl | m
  ·exact ⟨_, h⟩
  ·cases m
theorem OwnL.dom {v : List V} {x : List OD} {f : List Addr} : OwnL K F H v x f → ∀ a ∈ f, ∃ o, H a = some o
 | .nil, a, m => by cases m
 | .cons h r, a, m => by
  rcases List.mem_append.mp m with m | m
  ·exact Own.dom h a m
  ·exact OwnL.dom r a m
end
mutual
theorem Own.frz (e : aK F F') {v : V} {x : OD} {f : List Addr} : (∀ a ∈ f, ∀ o, H a = some o → F' a = some o) → Own K F H v x f → Rep K F' v x.er
 | _, .sh r => by rw [bN]; exact r.same e
 | k, .ol h r => by rw [OD.er]; exact .lst (RdK.of (k _ List.mem_cons_self _ h)) (OwnL.frz e (fun a m => k a (List.mem_cons_of_mem _ m)) r)
 | k, .ot h r => by rw [OD.er]; exact .tup (k _ List.mem_cons_self _ h) (OwnL.frz e (fun a m => k a (List.mem_cons_of_mem _ m)) r)
 | k, .od h q r => by rw [OD.er]; exact .dct (k _ List.mem_cons_self _ h) q (r.same e)
theorem OwnL.frz (e : aK F F') {v : List V} {x : List OD} {f : List Addr} : (∀ a ∈ f, ∀ o, H a = some o → F' a = some o) → OwnL K F H v x f → RepAll K F' v (OD.ers x)
 | _, .nil => by rw [OD.ers]; exact .nil
 | k, .cons h r => by rw [OD.ers]; exact .cons (Own.frz e (fun a m => k a (List.mem_append_left _ m)) h) (OwnL.frz e (fun a m => k a (List.mem_append_right _ m)) r)
end
theorem OwnL.len {v : List V} {x : List OD} {f : List Addr} (o : OwnL K F H v x f) : v.length = x.length := by
 induction x generalizing v f with
 | nil => cases o; rfl
 | cons a r ih =>
  cases o with
  | cons h t => exact congrArg (· + 1) (ih t)
theorem OwnL.app {v w : List V} {x y : List OD} {f g : List Addr} (o : OwnL K F H v x f) (q : OwnL K F H w y g) : OwnL K F H (v ++ w) (x ++ y) (f ++ g) := by
 induction x generalizing v f with
 | nil => cases o; exact q
 | cons a r ih =>
  cases o with
  | cons h t =>
   rw [List.cons_append, List.cons_append, List.append_assoc];exact .cons h (ih t)
theorem OwnL.shs : ∀ {v : List V} {ds : List PyData}, RepAll K F v ds → OwnL K F H v (ds.map OD.sh) []
 | _, _, .nil => .nil
 | _, _, .cons h r => .cons (f := []) (.sh h) (OwnL.shs r)
theorem RepAll.len : ∀ {v : List V} {ds : List PyData}, RepAll K F v ds → v.length = ds.length
 | _, _, .nil => rfl
 | _, _, .cons _ r => by rw [List.length_cons, List.length_cons, RepAll.len r]
theorem RepAll.get : ∀ {v : List V} {ds : List PyData} {i : Nat} {d : PyData}, RepAll K F v ds → ds[i]? = some d → ∃ x, v[i]? = some x ∧ Rep K F x d
 | _, _, _, _, .nil, e => by simp at e
 | _, _, 0, _, .cons h _, e => by
  simp at e
  subst e;exact ⟨_, rfl, h⟩
 | _, _, i + 1, _, .cons _ r, e => by
  obtain ⟨x, h1, h2⟩ := RepAll.get (i := i) r (by simpa using e)
  exact ⟨x, by simpa using h1, h2⟩
theorem RepAll.app : ∀ {v w : List V} {ds es : List PyData}, RepAll K F v ds → RepAll K F w es → RepAll K F (v ++ w) (ds ++ es)
 | _, _, _, _, .nil, q => q
 | _, _, _, _, .cons h r, q => .cons h (RepAll.app r q)
theorem RepAll.take : ∀ {v : List V} {ds : List PyData} (n : Nat), RepAll K F v ds → RepAll K F (v.take n) (ds.take n)
 | _, _, 0, _ => by rw [List.take_zero, List.take_zero]; exact .nil
 | _, _, _ + 1, .nil => .nil
 | _, _, n + 1, .cons h r => .cons h (RepAll.take n r)
theorem RepAll.drop : ∀ {v : List V} {ds : List PyData} (n : Nat), RepAll K F v ds → RepAll K F (v.drop n) (ds.drop n)
 | _, _, 0, r => r
 | _, _, _ + 1, .nil => .nil
 | _, _, n + 1, .cons h r => RepAll.drop n r
theorem RepAll.toInts : ∀ {v : List V} {ns : List Int}, RepAll K F v (ns.map PyData.int) → v = ns.map V.int
 | _, [], .nil => rfl
 | _, n :: ns, .cons h r => by
  cases h;rw [RepAll.toInts r];rfl
theorem RepAll.ofInts : ∀ (ns : List Int), RepAll K F (ns.map V.int) (ns.map PyData.int)
 | [] => .nil
 | n :: ns => .cons (.int n) (RepAll.ofInts ns)
end
structure Ext (F H F' H' : Hp) : Prop where
 ff : aK F F'
 hh : aK H H'
 fh : aK F' H'
 nw : ∀ a, H a ≠ none → F a = none → F' a = none
theorem bS {α : Type} {o : Option α} {x : α} (h : o = some x) : o ≠ none := by
 rw [h];exact Option.some_ne_none x
theorem _root_.L2.aK.dom {H H' : Hp} (e : aK H H') {a : Addr} (h : H a ≠ none) : H' a ≠ none := by
 cases q : H a with
 | none => exact absurd q h
 | some o => exact bS (e a o q)
section
variable {F H F1 H1 F2 H2 : Hp}
theorem Ext.refl (h : aK F H) : Ext F H F H := ⟨aK.refl _, aK.refl _, h, fun _ _ z => z⟩
theorem Ext.trans (a : Ext F H F1 H1) (b : Ext F1 H1 F2 H2) : Ext F H F2 H2 := ⟨a.ff.trans b.ff, a.hh.trans b.hh, b.fh, fun x h n => b.nw x (a.hh.dom h) (a.nw x h n)⟩
theorem Ext.alloc {p : Addr} {o : HO} (h : aK F H) (hp : H p = none) : Ext F H F (upd H p o) :=
 ⟨aK.refl _, (aK.refl H).upd hp, (aK.upd h (h.free hp)), fun _ _ z => z⟩
theorem Ext.allocF {p : Addr} {o : HO} (h : aK F H) (hp : H p = none) : Ext F H (upd F p o) (upd H p o) := by
 refine ⟨(aK.refl F).upd (h.free hp), (aK.refl H).upd hp, fun b u q => ?_, fun a ha n => ?_⟩
 ·by_cases e : b = p
  ·subst e
   rw [bZ] at q ⊢;exact q
  ·rw [aG e] at q ⊢
   exact h b u q
 ·have e : a ≠ p := by
   rintro rfl;exact ha hp
  rw [aG e];exact n
end
structure Res (K : PySem.W.Frag) (F H : Hp) (v : V) (x : OD) (f : List Addr) : Prop where
 own : Own K F H v x f
 nd : f.Nodup
 fr : ∀ a ∈ f, F a = none
structure ResL (K : PySem.W.Frag) (F H : Hp) (v : List V) (x : List OD) (f : List Addr) : Prop where
 own : OwnL K F H v x f
 nd : f.Nodup
 fr : ∀ a ∈ f, F a = none
open Classical in
noncomputable def jh (F H : Hp) (f : List Addr) : Hp := fun a => if a ∈ f then H a else F a
theorem jR {F H : Hp} {f : List Addr} {a : Addr} (h : a ∈ f) : jh F H f a = H a := by unfold jh; rw [if_pos h]
theorem gk {F H : Hp} {f : List Addr} {a : Addr} (h : a ∉ f) : jh F H f a = F a := by unfold jh; rw [if_neg h]
section
variable {K : PySem.W.Frag} {F H F' H' F1 H1 : Hp} {v : V} {x : OD} {f : List Addr} {vs : List V} {xs : List OD}
theorem fR (n : ∀ a ∈ f, F a = none) : aK F (jh F H f) := fun a o q => by
 rw [gk]
 ·exact q
 ·intro m
  rw [n a m] at q;cases q
theorem nL (h : aK F H) : aK (jh F H f) H := fun a o q => by
 by_cases m : a ∈ f
 ·rw [jR m] at q
  exact q
 ·rw [gk m] at q
  exact h a o q
theorem Res.ext (r : Res K F H v x f) (e : Ext F H F' H') : Res K F' H' v x f :=
 ⟨r.own.mono e.ff fun a _ o q => e.hh a o q, r.nd, fun a m => e.nw a (let ⟨_, q⟩ := r.own.dom a m; bS q) (r.fr a m)⟩
theorem ResL.ext (r : ResL K F H vs xs f) (e : Ext F H F' H') : ResL K F' H' vs xs f :=
 ⟨r.own.mono e.ff fun a _ o q => e.hh a o q, r.nd, fun a m => e.nw a (let ⟨_, q⟩ := r.own.dom a m; bS q) (r.fr a m)⟩
theorem qV (e : Ext F H F1 H1) (n : ∀ a ∈ f, F1 a = none) (w : ∀ a ∈ f, H a = none) : Ext F H (jh F1 H1 f) H1 :=
 ⟨e.ff.trans (fR n), e.hh, nL e.fh, fun a h z => by
  have m : a ∉ f := fun m => h (w a m)
  rw [gk m];exact e.nw a h z⟩
theorem Res.frz (e : Ext F H F1 H1) (r : Res K F1 H1 v x f) (w : ∀ a ∈ f, H a = none) : ∃ G, Ext F H G H1 ∧ Rep K G v x.er :=
 ⟨jh F1 H1 f, qV e r.fr w, r.own.frz (fR r.fr) fun a m o q => by rw [jR m]; exact q⟩
theorem ResL.frz (e : Ext F H F1 H1) (r : ResL K F1 H1 vs xs f) (w : ∀ a ∈ f, H a = none) : ∃ G, Ext F H G H1 ∧ RepAll K G vs (xs.map OD.er) :=
 ⟨jh F1 H1 f, qV e r.fr w, by rw [← kC]; exact r.own.frz (fR r.fr) fun a m o q => by rw [jR m]; exact q⟩
theorem Res.sh {d : PyData} (r : Rep K F v d) : Res K F H v (.sh d) [] := ⟨.sh r, List.nodup_nil, fun _ m => by cases m⟩
theorem ResL.nil : ResL K F H [] [] [] := ⟨.nil, List.nodup_nil, fun _ m => by cases m⟩
theorem ResL.cons {f1 : List Addr} (r : Res K F H v x f1) (q : ResL K F H vs xs f) (d : ∀ a ∈ f1, a ∉ f) : ResL K F H (v :: vs) (x :: xs) (f1 ++ f) :=
 ⟨.cons r.own q.own, List.nodup_append.mpr ⟨r.nd, q.nd, fun a m b n e => d a m (e ▸ n)⟩, fun a m => (List.mem_append.mp m).elim (r.fr a) (q.fr a)⟩
end
inductive OwnS (K : PySem.W.Frag) (F H : Hp) : St → Env → List Addr → Prop
 | nil : OwnS K F H [] [] []
 | no {v : Option V} {σ : St} {ρ : Env} {g : List Addr} : OwnS K F H σ ρ g → OwnS K F H (v :: σ) (none :: ρ) g
 | yes {v : V} {x : OD} {f : List Addr} {σ : St} {ρ : Env} {g : List Addr} : Own K F H v x f → OwnS K F H σ ρ g → OwnS K F H (some v :: σ) (some x :: ρ) (f ++ g)
section
variable {K : PySem.W.Frag} {F H F' H' : Hp}
theorem OwnS.mono (e : aK F F') {σ : St} {ρ : Env} {g : List Addr} (k : ∀ a ∈ g, ∀ o, H a = some o → H' a = some o) (S : OwnS K F H σ ρ g) : OwnS K F' H' σ ρ g := by
 induction S with
 | nil => exact .nil
 | no r ih => exact .no (ih k)
 | yes h r ih => exact .yes (h.mono e fun a m => k a (List.mem_append_left _ m)) (ih fun a m => k a (List.mem_append_right _ m))
theorem OwnS.dom {σ : St} {ρ : Env} {g : List Addr} (S : OwnS K F H σ ρ g) : ∀ a ∈ g, ∃ o, H a = some o := by
 induction S with
 | nil => exact fun a m => by cases m
 | no r ih => exact ih
 | yes h r ih => exact fun a m => (List.mem_append.mp m).elim (h.dom a) (ih a)
theorem OwnS.at {σ : St} {ρ : Env} {g : List Addr} (S : OwnS K F H σ ρ g) : ∀ {i : Nat} {x : OD}, ρ[i]? = some (some x) →
  ∃ v f g1 g2, σ[i]? = some (some v) ∧ Own K F H v x f ∧ g = g1 ++ (f ++ g2) ∧ ∀ (F' H' : Hp), aK F F' → (∀ a ∈ g1 ++ g2, ∀ o, H a = some o → H' a = some o) → ∀ v' x' f', Own K F' H' v' x' f' → OwnS K F' H' (σ.set i (some v')) (ρ.set i (some x')) (g1 ++ (f' ++ g2)) := by
 induction S with
 | nil => intro i x e; simp at e
 | no r ih =>
  intro i x e;cases i with
  | zero => simp at e
  | succ i =>
   obtain ⟨v, f, g1, g2, h1, h2, h3, h4⟩ := ih (i := i) (by simpa using e)
   exact ⟨v, f, g1, g2, by simpa using h1, h2, h3, fun F' H' s k v' x' f' o => .no (h4 F' H' s k v' x' f' o)⟩
 | @yes v0 x0 f0 σ0 ρ0 g0 h r ih =>
  intro i x e;cases i with
  | zero =>
   simp at e
   subst e;exact ⟨_, f0, [], g0, rfl, h, rfl, fun F' H' s k v' x' f' o => OwnS.yes (f := f') (g := g0) o (r.mono s k)⟩
  | succ i =>
   obtain ⟨v, f, g1, g2, h1, h2, h3, h4⟩ := ih (i := i) (by simpa using e)
   refine ⟨v, f, f0 ++ g1, g2, by simpa using h1, h2, by rw [h3, List.append_assoc], fun F' H' s k v' x' f' o => ?_⟩
   rw [List.append_assoc];exact .yes (h.mono s fun a m => k a (List.mem_append_left _ (List.mem_append_left _ m))) (h4 F' H' s (fun a m => k a (by simp at m ⊢; rcases m with m | m <;> simp [m])) v' x' f' o)
theorem OwnS.put {σ : St} {ρ : Env} {g : List Addr} (S : OwnS K F H σ ρ g) : ∀ {i : Nat}, i < ρ.length →
  ∃ f g1 g2, g = g1 ++ (f ++ g2) ∧ ∀ (F' H' : Hp), aK F F' → (∀ a ∈ g1 ++ g2, ∀ o, H a = some o → H' a = some o) → ∀ v' x' f', Own K F' H' v' x' f' → OwnS K F' H' (σ.set i (some v')) (ρ.set i (some x')) (g1 ++ (f' ++ g2)) := by
 induction S with
 | nil => intro i e; simp at e
 | @no v0 σ0 ρ0 g0 r ih =>
  intro i e;cases i with
  | zero => exact ⟨[], [], g0, rfl, fun F' H' s k v' x' f' o => OwnS.yes (f := f') (g := g0) o (r.mono s k)⟩
  | succ i =>
   obtain ⟨f, g1, g2, h3, h4⟩ := ih (i := i) (by simpa using e)
   exact ⟨f, g1, g2, h3, fun F' H' s k v' x' f' o => .no (h4 F' H' s k v' x' f' o)⟩
 | @yes v0 x0 f0 σ0 ρ0 g0 h r ih =>
  intro i e;cases i with
  | zero => exact ⟨f0, [], g0, rfl, fun F' H' s k v' x' f' o => OwnS.yes (f := f') (g := g0) o (r.mono s k)⟩
  | succ i =>
   obtain ⟨f, g1, g2, h3, h4⟩ := ih (i := i) (by simpa using e)
   refine ⟨f, f0 ++ g1, g2, by rw [h3, List.append_assoc], fun F' H' s k v' x' f' o => ?_⟩
   rw [List.append_assoc];exact .yes (h.mono s fun a m => k a (List.mem_append_left _ (List.mem_append_left _ m))) (h4 F' H' s (fun a m => k a (by simp at m ⊢; rcases m with m | m <;> simp [m])) v' x' f' o)
theorem OwnS.erase (e : aK F H) {σ : St} {ρ : Env} {g : List Addr} (S : OwnS K F H σ ρ g) : OwnS K H H σ (L3.erase ρ) [] := by
 induction S with
 | nil => exact .nil
 | no r ih => exact .no ih
 | yes h r ih => exact .yes (f := []) (.sh (h.frz e fun _ _ _ q => q)) ih
theorem OwnS.len {σ : St} {ρ : Env} {g : List Addr} (S : OwnS K F H σ ρ g) : σ.length = ρ.length := by
 induction S with
 | nil => rfl
 | no r ih => exact congrArg (· + 1) ih
 | yes h r ih => exact congrArg (· + 1) ih
end
structure Stt (K : PySem.W.Frag) (n : Nat) (F H : Hp) (σ : St) (ρ : Env) (fp : List Addr) : Prop where
 same : aK F H
 own : OwnS K F H σ ρ fp
 nd : fp.Nodup
 fr : ∀ a ∈ fp, F a = none
 len : ρ.length = n
structure Stp (F H : Hp) (fp : List Addr) (F' H' : Hp) (fp' : List Addr) : Prop where
 ff : aK F F'
 keep : ∀ a o, H a = some o → a ∉ fp → H' a = some o
 new : ∀ a ∈ fp', a ∈ fp ∨ H a = none
 nw : ∀ a, H a ≠ none → a ∉ fp → F a = none → F' a = none
section
variable {K : PySem.W.Frag} {n : Nat} {F H F' H' F1 H1 F2 H2 : Hp} {σ : St} {ρ : Env} {fp fp1 fp2 : List Addr}
theorem Stt.ext (s : Stt K n F H σ ρ fp) (e : Ext F H F' H') : Stt K n F' H' σ ρ fp :=
 ⟨e.fh, s.own.mono e.ff fun a _ o q => e.hh a o q, s.nd, fun a m => e.nw a (let ⟨_, q⟩ := s.own.dom a m; bS q) (s.fr a m), s.len⟩
theorem Stt.erase (s : Stt K n F H σ ρ fp) : Stt K n H H σ (L3.erase ρ) [] :=
 ⟨aK.refl _, s.own.erase s.same, List.nodup_nil, (fun _ m => by cases m), (by unfold L3.erase; rw [List.length_map]; exact s.len)⟩
theorem Stp.refl : Stp F H fp F H fp := ⟨aK.refl _, fun _ _ h _ => h, fun _ m => .inl m, fun _ _ _ z => z⟩
theorem Ext.stp (e : Ext F H F' H') : Stp F H fp F' H' fp := ⟨e.ff, fun a o h _ => e.hh a o h, fun _ m => .inl m, fun a h _ z => e.nw a h z⟩
theorem Stp.out (s : Stp F H fp F1 H1 fp1) {a : Addr} (h : H a ≠ none) (m : a ∉ fp) : a ∉ fp1 := fun q => (s.new a q).elim m h
theorem Stp.trans (s : Stp F H fp F1 H1 fp1) (t : Stp F1 H1 fp1 F2 H2 fp2) : Stp F H fp F2 H2 fp2 where
 ff := s.ff.trans t.ff
 keep a o h m := t.keep a o (s.keep a o h m) (s.out (bS h) m)
 new a m := (t.new a m).elim (s.new a) fun z => by
  by_cases q : a ∈ fp
  ·exact .inl q
  ·refine .inr ?_
   cases w : H a with
   | none => rfl
   | some o =>
    rw [s.keep a o w q] at z;cases z
 nw a h m z := t.nw a (by
  cases w : H a with
  | none => exact absurd w h
  | some o => exact bS (s.keep a o w m)) (s.out h m) (s.nw a h m z)
theorem Stt.set (s : Stt K n F H σ ρ fp) {i : Nat} (hi : i < n) {v : V} {x : OD} {fx : List Addr} (r : Res K F H v x fx) (d : ∀ a ∈ fx, a ∉ fp) :
  ∃ fp', Stt K n F H (σ.set i (some v)) (ρ.set i (some x)) fp' ∧ ∀ a ∈ fp', a ∈ fp ∨ a ∈ fx := by
 obtain ⟨f, g1, g2, e, k⟩ := s.own.put (i := i) (by rw [s.len]; exact hi)
 subst e;have nd := s.nd;have sub : ∀ a ∈ g1 ++ (fx ++ g2), a ∈ g1 ++ (f ++ g2) ∨ a ∈ fx := fun a m => by
  simp only [List.mem_append] at m ⊢;rcases m with m | m | m
  ·exact .inl (.inl m)
  ·exact .inr m
  ·exact .inl (.inr (.inr m))
 refine ⟨g1 ++ (fx ++ g2), ⟨s.same, k F H (aK.refl _) (fun _ _ _ q => q) v x fx r.own, ?_, fun a m => (sub a m).elim (s.fr a) (r.fr a), by rw [List.length_set]; exact s.len⟩, sub⟩
 simp only [List.nodup_append, List.mem_append] at nd d ⊢;obtain ⟨n1, ⟨n2, n3, n4⟩, n5⟩ := nd;refine ⟨n1, ⟨r.nd, n3, fun a ha b hb e => d a ha (.inr (.inr (e ▸ hb)))⟩, fun a ha b hb e => ?_⟩
 rcases hb with hb | hb
 ·exact d b hb (.inl (e ▸ ha))
 ·exact n5 a ha b (.inr hb) e
end
end L3
namespace L3
open PySem L2
structure Mx where
 K : PySem.W.Frag
 mg : Str → Option Value
 E : XK
noncomputable def XOk (M : Mx) (c : Str) (H : Hp) (fp : List Addr) : Prop := ∃ cv, M.mg c = some cv ∧ ∀ od H', (∀ a o, H a = some o → a ∉ fp → H' a = some o) → M.E cv od H'
noncomputable def aw (M : Mx) (H : Hp) (fp : List Addr) {α : Type} (P : α → Prop) : R α → Prop
 | .ok a => P a
 | .ex c => XOk M c H fp
 | .bad => False
noncomputable def OkE (M : Mx) (F H : Hp) (Q : VK) (x : OD) : Prop := ∀ v F' H' fx, Ext F H F' H' → Res M.K F' H' v x fx → (∀ a ∈ fx, H a = none) → Q v H'
noncomputable def OkL (M : Mx) (F H : Hp) (Q : List V → Hp → Prop) (x : List OD) : Prop := ∀ v F' H' fx, Ext F H F' H' → ResL M.K F' H' v x fx → (∀ a ∈ fx, H a = none) → Q v H'
noncomputable def OkH (F H : Hp) {α : Type} (Q : α → Hp → Prop) (x : α) : Prop := ∀ F' H', Ext F H F' H' → Q x H'
section
variable {M : Mx} {F H F1 H1 F2 H2 : Hp} {fp fp1 : List Addr} {α β : Type} {P P' : α → Prop} {r : R α}
theorem aw.bind {P : β → Prop} {g : α → R β} (h : aw M H fp P (r.bind g)) : aw M H fp (fun a => aw M H fp P (g a)) r := by
 cases r with
 | ok a => exact h
 | ex c => exact h
 | bad => exact h
theorem aw.mono (h : aw M H fp P r) (k : ∀ a, P a → P' a) : aw M H fp P' r := by
 cases r with
 | ok a => exact k a h
 | ex c => exact h
 | bad => exact h
theorem XOk.stp (s : Stp F H fp F1 H1 fp1) {c : Str} (h : XOk M c H fp) : XOk M c H1 fp1 :=
 let ⟨cv, e, k⟩ := h
 ⟨cv, e, fun od H' q => k od H' fun a o z m => q a o (s.keep a o z m) (s.out (bS z) m)⟩
theorem aw.stp (s : Stp F H fp F1 H1 fp1) (h : aw M H fp P r) : aw M H1 fp1 P r := by
 cases r with
 | ok a => exact h
 | ex c => exact XOk.stp s h
 | bad => exact h
theorem aw.ext (e : Ext F H F1 H1) (h : aw M H fp P r) : aw M H1 fp P r := h.stp e.stp
theorem aw.nofp (h : aw M H fp P r) : aw M H [] P r := by
 cases r with
 | ok a => exact h
 | ex c =>
  obtain ⟨cv, e, k⟩ := h;exact ⟨cv, e, fun od H' q => k od H' fun a o z _ => q a o z (by simp)⟩
 | bad => exact h
theorem OkE.pre {Q : VK} {x : OD} (e : Ext F H F1 H1) (h : OkE M F H Q x) : OkE M F1 H1 Q x := fun v F' H' fx e' r w => h v F' H' fx (e.trans e') r fun a m => e.hh.free (w a m)
theorem OkH.pre {Q : α → Hp → Prop} {x : α} (e : Ext F H F1 H1) (h : OkH F H Q x) : OkH F1 H1 Q x := fun F' H' e' => h F' H' (e.trans e')
theorem OkE.val {Q : VK} {d : PyData} {v : V} (s : aK F H) (h : OkE M F H Q (.sh d)) (r : Rep M.K F v d) : Q v H := h v F H [] (Ext.refl s) (Res.sh r) fun _ m => by cases m
theorem OkE.lst {Q : VK} {xs : List OD} {vs : List V} {f : List Addr} {p : Addr} (s : aK F H) (h : OkE M F1 H1 Q (.ol xs)) (e : Ext F1 H1 F H) (r : ResL M.K F H vs xs f) (w : ∀ a ∈ f, H1 a = none) (hp : H p = none) : Q (.ref p) (upd H p (.lst vs)) := by
 have np : p ∉ f := fun m => by
  obtain ⟨o, q⟩ := r.own.dom p m;rw [hp] at q;cases q
 refine h (.ref p) F _ (p :: f) (e.trans (Ext.alloc s hp)) ⟨.ol bZ (r.own.mono (aK.refl _) fun a m o q => ?_), List.nodup_cons.mpr ⟨np, r.nd⟩, fun a m => ?_⟩ fun a m => ?_
 ·rw [aG (aP q hp)]
  exact q
 ·rcases List.mem_cons.mp m with rfl | m
  ·exact s.free hp
  ·exact r.fr a m
 ·rcases List.mem_cons.mp m with rfl | m
  ·exact e.hh.free hp
  ·exact w a m
theorem OkE.tup {Q : VK} {xs : List OD} {vs : List V} {f : List Addr} {p : Addr} (s : aK F H) (h : OkE M F1 H1 Q (.ot xs)) (e : Ext F1 H1 F H) (r : ResL M.K F H vs xs f) (w : ∀ a ∈ f, H1 a = none) (hp : H p = none) : Q (.ref p) (upd H p (.tup vs)) := by
 have np : p ∉ f := fun m => by
  obtain ⟨o, q⟩ := r.own.dom p m;rw [hp] at q;cases q
 refine h (.ref p) F _ (p :: f) (e.trans (Ext.alloc s hp)) ⟨.ot bZ (r.own.mono (aK.refl _) fun a m o q => ?_), List.nodup_cons.mpr ⟨np, r.nd⟩, fun a m => ?_⟩ fun a m => ?_
 ·rw [aG (aP q hp)]
  exact q
 ·rcases List.mem_cons.mp m with rfl | m
  ·exact s.free hp
  ·exact r.fr a m
 ·rcases List.mem_cons.mp m with rfl | m
  ·exact e.hh.free hp
  ·exact w a m
theorem OkE.lstD {Q : VK} {ds : List PyData} {vs : List V} {p : Addr} (s : aK F H) (h : OkE M F H Q (.ol (ds.map OD.sh))) (r : RepAll M.K F vs ds) (hp : H p = none) : Q (.ref p) (upd H p (.lst vs)) :=
 OkE.lst s h (Ext.refl s) ⟨OwnL.shs r, List.nodup_nil, fun _ m => by cases m⟩ (fun _ m => by cases m) hp
theorem OkE.tupF {Q : VK} {ds : List PyData} {vs : List V} {p : Addr} (s : aK F H) (h : OkE M F1 H1 Q (.sh (.tuple ds))) (e : Ext F1 H1 F H) (r : RepAll M.K F vs ds) (hp : H p = none) : Q (.ref p) (upd H p (.tup vs)) :=
 h (.ref p) (upd F p (.tup vs)) _ [] (e.trans (Ext.allocF s hp)) (Res.sh (.tup bZ (r.same ((aK.refl F).upd (s.free hp))))) fun _ m => by cases m
theorem OwnL.of_shs {K : PySem.W.Frag} {vs : List V} {xs : List OD} {f : List Addr} {ds : List PyData} (o : OwnL K F H vs xs f) (e : L3.shs xs = some ds) : f = [] ∧ RepAll K F vs ds := by
 induction xs generalizing vs f ds with
 | nil =>
  cases o;unfold L3.shs at e;cases e;exact ⟨rfl, .nil⟩
 | cons a0 r0 ih0 =>
 cases o with
 | cons h0 r =>
  have ih := fun ds => ih0 (ds := ds) r
  cases h0 with
  | sh h =>
   unfold L3.shs at e;split at e
   ·rename_i es q
    cases e;obtain ⟨rfl, k⟩ := ih _ q;exact ⟨rfl, .cons h k⟩
   ·cases e
  | ol _ _ =>
   unfold L3.shs at e;cases e
  | ot _ _ =>
   unfold L3.shs at e;cases e
  | od _ _ _ =>
   unfold L3.shs at e;cases e
end
noncomputable def tD (M : Mx) (n : Nat) (f : Fe) : TE := fun σ H Q => ∃ F ρ fp, Stt M.K n F H σ ρ fp ∧ aw M H fp (OkE M F H Q) (f ρ)
noncomputable def tA (M : Mx) (n : Nat) (f : Fa) : TA := fun σ H Q => ∃ F ρ fp, Stt M.K n F H σ ρ fp ∧ aw M H fp (OkL M F H Q) (f ρ)
noncomputable def tT (M : Mx) (n : Nat) (f : Ft) : TT := fun σ H Q => ∃ F ρ fp, Stt M.K n F H σ ρ fp ∧ aw M H fp (OkH F H Q) (f ρ)
noncomputable def tO (M : Mx) (n : Nat) (f : Fo) : TO := fun σ H Q => ∃ F ρ fp, Stt M.K n F H σ ρ fp ∧ aw M H fp (OkH F H Q) (f ρ)
noncomputable def Ok2 (M : Mx) (r : R2) (g : PyData → PyData → R OD) : Prop := ∀ (x y : V) (dx dy : PyData) (F H : Hp) (fp : List Addr) (Q : VK), aK F H → Rep M.K F x dx → Rep M.K F y dy → aw M H fp (OkE M F H Q) (g dx dy) → r x y H Q
noncomputable def Ok1 (M : Mx) (r : V → Hp → VK → Prop) (g : PyData → R OD) : Prop := ∀ (x : V) (dx : PyData) (F H : Hp) (fp : List Addr) (Q : VK), aK F H → Rep M.K F x dx → aw M H fp (OkE M F H Q) (g dx) → r x H Q
noncomputable def OkC (M : Mx) (r : List V → Hp → VK → Prop) (g : List PyData → R OD) : Prop := ∀ (x : List V) (dx : List PyData) (F H : Hp) (fp : List Addr) (Q : VK), aK F H → RepAll M.K F x dx → aw M H fp (OkE M F H Q) (g dx) → r x H Q
noncomputable def OkS (M : Mx) (r : V → Option Int → Option Int → Hp → VK → Prop) (g : PyData → Option Int → Option Int → R OD) : Prop := ∀ (x : V) (i j : Option Int) (dx : PyData) (F H : Hp) (fp : List Addr) (Q : VK), aK F H → Rep M.K F x dx → aw M H fp (OkE M F H Q) (g dx i j) → r x i j H Q
section
variable {M : Mx} {n : Nat} {σ : St} {H : Hp} {Q : VK} {QB : Bool → Hp → Prop} {fa fb : Fe} {ta tb : Ft}
theorem Dc {i : Nat} (h : tD M n (ae i) σ H Q) : iB i σ H Q := by
 obtain ⟨F, ρ, fp, S, p⟩ := h;unfold ae at p;split at p
 ·rename_i d e
  obtain ⟨v, f, g1, g2, h1, h2, h3, h4⟩ := S.own.at e;cases h2 with
  | sh r => exact ⟨v, h1, OkE.val S.same p r⟩
 ·exact p.elim
theorem d_c {v : V} {d : PyData} (hr : ∀ K F, Rep K F v d) (h : tD M n (eC d) σ H Q) : tC v σ H Q := by
 obtain ⟨F, ρ, fp, S, p⟩ := h;exact OkE.val S.same p (hr _ _)
theorem xb {r : R2} {g : PyData → PyData → R OD} (hg : Ok2 M r g) (h : tD M n (eOp g fa fb) σ H Q) : tOp r (tD M n fa) (tD M n fb) σ H Q := by
 obtain ⟨F, ρ, fp, S, p⟩ := h;refine ⟨F, ρ, fp, S, (aw.bind p).mono fun x px v F1 H1 fx e1 r1 w1 => ?_⟩
 obtain ⟨G1, d1, k1⟩ := r1.frz e1 w1;refine ⟨G1, ρ, fp, S.ext d1, ((aw.bind px).ext d1).mono fun y py v2 F2 H2 fy e2 r2 w2 => ?_⟩
 obtain ⟨G2, d2, k2⟩ := r2.frz e2 w2;exact hg v v2 x.er y.er G2 H2 fp Q d2.fh (k1.same d2.ff) k2 ((py.ext (d1.trans d2)).mono fun z hz => hz.pre (d1.trans d2))
theorem Fl {r : V → Hp → VK → Prop} {g : PyData → R OD} (hg : Ok1 M r g) (h : tD M n (eUn g fa) σ H Q) : tUn r (tD M n fa) σ H Q := by
 obtain ⟨F, ρ, fp, S, p⟩ := h;refine ⟨F, ρ, fp, S, (aw.bind p).mono fun x px v F1 H1 fx e1 r1 w1 => ?_⟩
 obtain ⟨G1, d1, k1⟩ := r1.frz e1 w1;exact hg v x.er G1 H1 fp Q d1.fh k1 ((px.ext d1).mono fun z hz => hz.pre d1)
theorem uL {K : PySem.W.Frag} {F : Hp} {v : V} {d : PyData} {fp : List Addr} {P : Bool → Prop} (k : Rep K F v d) (p : aw M H fp P (truth d)) : ∃ b, v = .bl b ∧ P b := by
 cases d with
 | bool b =>
  cases k;exact ⟨b, rfl, p⟩
 | none => exact p.elim
 | int _ => exact p.elim
 | str _ => exact p.elim
 | list _ => exact p.elim
 | tuple _ => exact p.elim
 | dict _ => exact p.elim
theorem uZ (h : tT M n (aT fa) σ H QB) : xV (tD M n fa) σ H QB := by
 obtain ⟨F, ρ, fp, S, p⟩ := h;refine ⟨F, ρ, fp, S, (aw.bind p).mono fun x px v F1 H1 fx e1 r1 w1 => ?_⟩
 obtain ⟨G1, d1, k1⟩ := r1.frz e1 w1;obtain ⟨b, rfl, q⟩ := uL k1 px;exact ⟨b, rfl, q G1 H1 d1⟩
theorem d_b (h : tT M n (aT fa) σ H QB) : tB (tD M n fa) σ H QB := uZ h
theorem Eo (h : tT M n (lT ta tb) σ H QB) : tOr (tT M n ta) (tT M n tb) σ H QB := by
 obtain ⟨F, ρ, fp, S, p⟩ := h;refine ⟨F, ρ, fp, S, (aw.bind p).mono fun c pc F1 H1 e1 => ?_⟩
 cases c with
 | true =>
  rw [if_pos rfl] at pc ⊢;exact pc F1 H1 e1
 | false =>
  rw [if_neg Bool.false_ne_true] at pc ⊢;exact ⟨F1, ρ, fp, S.ext e1, (pc.ext e1).mono fun b hb => hb.pre e1⟩
theorem zE (h : tT M n (k5 ta) σ H QB) : DC (tT M n ta) σ H QB := by
 obtain ⟨F, ρ, fp, S, p⟩ := h;exact ⟨F, ρ, fp, S, (aw.bind p).mono fun c pc F1 H1 e1 => pc F1 H1 e1⟩
theorem Fc (h : tD M n (eIf ta fa fb) σ H Q) : tIf (tT M n ta) (tD M n fa) (tD M n fb) σ H Q := by
 obtain ⟨F, ρ, fp, S, p⟩ := h;refine ⟨F, ρ, fp, S, (aw.bind p).mono fun c pc F1 H1 e1 => ?_⟩
 cases c with
 | true =>
  rw [if_pos rfl] at pc ⊢;exact ⟨F1, ρ, fp, S.ext e1, (pc.ext e1).mono fun b hb => hb.pre e1⟩
 | false =>
  rw [if_neg Bool.false_ne_true] at pc ⊢;exact ⟨F1, ρ, fp, S.ext e1, (pc.ext e1).mono fun b hb => hb.pre e1⟩
theorem lj (h : tD M n (eSh fa) σ H Q) : tD M n fa σ H Q := by
 obtain ⟨F, ρ, fp, S, p⟩ := h;refine ⟨F, ρ, fp, S, (aw.bind p).mono fun x px v F1 H1 fx e1 r1 w1 => ?_⟩
 obtain ⟨G1, d1, k1⟩ := r1.frz e1 w1;exact OkE.val d1.fh (OkE.pre d1 px) k1
theorem oY {K : PySem.W.Frag} {F G : Hp} {v : V} {d : PyData} (h : flat d = true) (r : Rep K F v d) : Rep K G v d := by
 cases r with
 | non => exact .non
 | bl b => exact .bl b
 | int i => exact .int i
 | str x => exact .str x
 | lst _ _ => cases h
 | tup _ _ => cases h
 | dct _ _ _ => cases h
theorem CC (h : tD M n (si fa) σ H Q) : tD M n fa σ H Q := by
 obtain ⟨F, ρ, fp, S, p⟩ := h;refine ⟨H, erase ρ, [], S.erase, (aw.bind p).nofp.mono fun x px v F1 H1 fx e1 r1 w1 => ?_⟩
 by_cases hf : flat x.er = true
 ·rw [if_pos hf] at px
  obtain ⟨G1, d1, k1⟩ := r1.frz e1 w1;exact px v F H1 [] ⟨aK.refl _, d1.hh, S.same.trans d1.hh, fun _ _ z => z⟩ (Res.sh (oY hf k1)) fun _ m => by cases m
 ·rw [if_neg hf] at px
  exact px.elim
theorem yV (h : tT M n (vK ta) σ H QB) : tT M n ta σ H QB := by
 obtain ⟨F, ρ, fp, S, p⟩ := h;refine ⟨H, erase ρ, [], S.erase, (show aw M H fp _ (ta (erase ρ)) from p).nofp.mono fun b pb F1 H1 e1 => ?_⟩
 exact pb F H1 ⟨aK.refl _, e1.hh, S.same.trans e1.hh, fun _ _ z => z⟩
variable {QL : List V → Hp → Prop} {al : Fa}
theorem AJ (h : tA M n aq σ H QL) : pN σ H QL := by
 obtain ⟨F, ρ, fp, S, p⟩ := h;exact p [] F H [] (Ext.refl S.same) ResL.nil fun _ m => by cases m
theorem wW (h : tA M n (af fa al) σ H QL) : jI (tD M n fa) (tA M n al) σ H QL := by
 obtain ⟨F, ρ, fp, S, p⟩ := h;refine ⟨F, ρ, fp, S, (aw.bind p).mono fun x px v F1 H1 fx e1 r1 w1 => ?_⟩
 refine ⟨F1, ρ, fp, S.ext e1, ((aw.bind px).ext e1).mono fun xs pxs vs F2 H2 fxs e2 r2 w2 => ?_⟩
 refine pxs (v :: vs) F2 H2 (fx ++ fxs) (e1.trans e2) (ResL.cons (r1.ext e2) r2 fun a m q => ?_) fun a m => ?_
 ·obtain ⟨o, z⟩ := r1.own.dom a m
  rw [w2 a q] at z;cases z
 ·rcases List.mem_append.mp m with m | m
  ·exact w1 a m
  ·exact e1.hh.free (w2 a m)
theorem fK {k : Nat} (h : k ≤ BIG) : k ≤ sizeLine := Nat.le_trans h (by decide)
theorem oj {k : Nat} (h : k < BIG) : k < sizeLine := Nat.lt_of_lt_of_le h (by decide)
theorem Dh (h : tD M n (eE al) σ H Q) : DD (tA M n al) σ H Q := by
 obtain ⟨F, ρ, fp, S, p⟩ := h;refine ⟨F, ρ, fp, S, (aw.bind p).mono fun xs px vs F1 H1 fx e1 r1 w1 => ?_⟩
 by_cases hl : xs.length ≤ BIG
 ·rw [if_pos hl] at px
  exact ⟨by rw [r1.own.len]; exact fK hl, fun a ha => OkE.lst e1.fh px e1 r1 w1 ha⟩
 ·rw [if_neg hl] at px
  exact px.elim
theorem BI (h : tD M n (gG al) σ H Q) : EB (tA M n al) σ H Q := by
 obtain ⟨F, ρ, fp, S, p⟩ := h;refine ⟨F, ρ, fp, S, (aw.bind p).mono fun xs px vs F1 H1 fx e1 r1 w1 => ?_⟩
 by_cases hl : xs.length ≤ BIG
 ·rw [if_pos hl] at px
  refine ⟨by rw [r1.own.len]; exact fK hl, fun a ha => ?_⟩
  unfold mkT at px;split at px
  ·rename_i ds q
   obtain ⟨_, k⟩ := OwnL.of_shs r1.own q;exact OkE.tupF e1.fh px e1 k ha
  ·exact OkE.tup e1.fh px e1 r1 w1 ha
 ·rw [if_neg hl] at px
  exact px.elim
noncomputable def sp3 (K : PySem.W.Frag) (mg : Str → Option Value) (f : Fn) : Sp := fun vs H Q E => ∃ F ds, aK F H ∧ RepAll K F vs ds ∧ aw ⟨K, mg, E⟩ H [] (OkE ⟨K, mg, E⟩ F H Q) (f ds)
theorem yX {f : Fn} (h : tD M n (aJ f al) σ H Q) : yu (sp3 M.K M.mg f) [] M.E (tA M n al) σ H Q := by
 obtain ⟨F, ρ, fp, S, p⟩ := h;refine ⟨F, ρ, fp, S, (aw.bind p).mono fun xs px vs F1 H1 fx e1 r1 w1 => ?_⟩
 obtain ⟨G1, d1, k1⟩ := r1.frz e1 w1;rw [List.append_nil];exact ⟨G1, xs.map OD.er, d1.fh, k1, (px.ext d1).nofp.mono fun z hz => hz.pre d1⟩
theorem DM {r : List V → Hp → VK → Prop} {g : List PyData → R OD} (hg : OkC M r g) (h : tD M n (eB g al) σ H Q) : tCB r (tA M n al) σ H Q := by
 obtain ⟨F, ρ, fp, S, p⟩ := h;refine ⟨F, ρ, fp, S, (aw.bind p).mono fun xs px vs F1 H1 fx e1 r1 w1 => ?_⟩
 obtain ⟨G1, d1, k1⟩ := r1.frz e1 w1;exact hg vs (xs.map OD.er) G1 H1 fp Q d1.fh k1 ((px.ext d1).mono fun z hz => hz.pre d1)
variable {QO : Option Int → Hp → Prop} {lo hi : Fo}
theorem xx (h : tO M n oE σ H QO) : rN σ H QO := by
 obtain ⟨F, ρ, fp, S, p⟩ := h;exact p F H (Ext.refl S.same)
theorem xt (h : tO M n (lW fa) σ H QO) : yt (tD M n fa) σ H QO := by
 obtain ⟨F, ρ, fp, S, p⟩ := h;refine ⟨F, ρ, fp, S, (aw.bind p).mono fun x px v F1 H1 fx e1 r1 w1 => ?_⟩
 obtain ⟨G1, d1, k1⟩ := r1.frz e1 w1;generalize x.er = d at px k1
 cases d with
 | int i =>
  cases k1;exact ⟨i, rfl, px G1 H1 d1⟩
 | none => exact px.elim
 | bool _ => exact px.elim
 | str _ => exact px.elim
 | list _ => exact px.elim
 | tuple _ => exact px.elim
 | dict _ => exact px.elim
theorem FP {r : V → Option Int → Option Int → Hp → VK → Prop} {g : PyData → Option Int → Option Int → R OD} (hg : OkS M r g) (h : tD M n (eSl g fa lo hi) σ H Q) : tSl r (tD M n fa) (tO M n lo) (tO M n hi) σ H Q := by
 obtain ⟨F, ρ, fp, S, p⟩ := h;refine ⟨F, ρ, fp, S, (aw.bind p).mono fun x px v F1 H1 fx e1 r1 w1 => ?_⟩
 obtain ⟨G1, d1, k1⟩ := r1.frz e1 w1;refine ⟨G1, ρ, fp, S.ext d1, ((aw.bind px).ext d1).mono fun i pi F2 H2 e2 => ?_⟩
 refine ⟨F2, ρ, fp, (S.ext d1).ext e2, ((aw.bind pi).ext (d1.trans e2)).mono fun j pj F3 H3 e3 => ?_⟩
 have e := (d1.trans e2).trans e3;exact hg v i j x.er F3 H3 fp Q e3.fh ((k1.same e2.ff).same e3.ff) ((pj.ext e).mono fun z hz => hz.pre e)
end
end L3
namespace L3
open PySem L2
noncomputable def gJ (M : Mx) (n : Nat) (F H : Hp) (fp : List Addr) (D : Ends) : Out → Prop
 | .nx ρ => ∀ σ' F' H' fp', Stt M.K n F' H' σ' ρ fp' → Stp F H fp F' H' fp' → D.nx σ' H'
 | .bk ρ => ∀ σ' F' H' fp', Stt M.K n F' H' σ' ρ fp' → Stp F H fp F' H' fp' → D.bk σ' H'
 | .ct ρ => ∀ σ' F' H' fp', Stt M.K n F' H' σ' ρ fp' → Stp F H fp F' H' fp' → D.ct σ' H'
 | .rt x => ∀ v F' H' fx, aK F' H' → Res M.K F' H' v x fx → Stp F H fp F' H' fx → D.rt v H'
noncomputable def tS (M : Mx) (n : Nat) (f : Fs) : TS := fun D σ H => ∃ F ρ fp, Stt M.K n F H σ ρ fp ∧ aw M H fp (gJ M n F H fp D) (f ρ)
noncomputable def OkG (M : Mx) (n : Nat) (is : List Nat) (F H : Hp) (fp : List Addr) (σ : St) (Q : St → Hp → Prop) (ρ : Env) : Prop :=
 ∀ σ' F' H' fp', Stt M.K n F' H' σ' ρ fp' → Stp F H fp F' H' fp' → (∀ j, j ∉ is → σ'[j]? = σ[j]?) → Q σ' H'
noncomputable def tG (M : Mx) (n : Nat) (is : List Nat) (f : Fg) : TG := fun v σ H Q => ∃ F ρ fp x fx, Stt M.K n F H σ ρ fp ∧ Res M.K F H v x fx ∧ (∀ a ∈ fx, a ∉ fp) ∧ aw M H (fp ++ fx) (OkG M n is F H (fp ++ fx) σ Q) (f x ρ)
noncomputable def tGs (M : Mx) (n : Nat) (is : List Nat) (f : Fgs) : TGs := fun vs σ H Q => ∃ F ρ fp xs fx, Stt M.K n F H σ ρ fp ∧ ResL M.K F H vs xs fx ∧ (∀ a ∈ fx, a ∉ fp) ∧ aw M H (fp ++ fx) (OkG M n is F H (fp ++ fx) σ Q) (f xs ρ)
section
variable {M : Mx} {n : Nat} {F H F1 H1 F2 H2 : Hp} {fp fp1 fp2 : List Addr} {σ : St} {ρ : Env} {D : Ends}
theorem gJ.stp (s : Stp F H fp F1 H1 fp1) {o : Out} (h : gJ M n F H fp D o) : gJ M n F1 H1 fp1 D o := by
 cases o with
 | nx ρ => exact fun σ' F' H' fp' a b => h σ' F' H' fp' a (s.trans b)
 | bk ρ => exact fun σ' F' H' fp' a b => h σ' F' H' fp' a (s.trans b)
 | ct ρ => exact fun σ' F' H' fp' a b => h σ' F' H' fp' a (s.trans b)
 | rt x => exact fun v F' H' fx a b c => h v F' H' fx a b (s.trans c)
theorem PostS.stp (s : Stp F H fp F1 H1 fp1) {r : R Out} (h : aw M H fp (gJ M n F H fp D) r) : aw M H1 fp1 (gJ M n F1 H1 fp1 D) r := (h.stp s).mono fun o ho => ho.stp s
theorem Ext.stpN {fx : List Addr} (e : Ext F H F1 H1) (w : ∀ a ∈ fx, H a = none) : Stp F H fp F1 H1 (fp ++ fx) :=
 ⟨e.ff, fun a o h _ => e.hh a o h, fun a m => (List.mem_append.mp m).elim .inl fun m => .inr (w a m), fun a h _ z => e.nw a h z⟩
theorem Stp.sub (s : Stp F H fp F1 H1 fp1) (h : ∀ a ∈ fp2, a ∈ fp1) : Stp F H fp F1 H1 fp2 := ⟨s.ff, s.keep, fun a m => s.new a (h a m), s.nw⟩
theorem Ah (h : tS M n sNx D σ H) : yq D σ H := by
 obtain ⟨F, ρ, fp, S, p⟩ := h;exact p σ F H fp S Stp.refl
theorem Dr {f g : Fs} (h : tS M n (aE f g) D σ H) : CB (tS M n f) (tS M n g) D σ H := by
 obtain ⟨F, ρ, fp, S, p⟩ := h;refine ⟨F, ρ, fp, S, (aw.bind p).mono fun o po => ?_⟩
 cases o with
 | nx ρ1 => exact fun σ' F' H' fp' S' st => ⟨F', ρ1, fp', S', PostS.stp st po⟩
 | bk ρ => exact po
 | ct ρ => exact po
 | rt x => exact po
theorem Co (h : tS M n Bn D σ H) : vJ D σ H := by
 obtain ⟨F, ρ, fp, S, p⟩ := h;exact p
theorem FU {t : Ft} {f g : Fs} (h : tS M n (sIf t f g) D σ H) : EI (tT M n t) (tS M n f) (tS M n g) D σ H := by
 obtain ⟨F, ρ, fp, S, p⟩ := h;refine ⟨F, ρ, fp, S, (aw.bind p).mono fun c pc F1 H1 e1 => ?_⟩
 cases c with
 | true =>
  rw [if_pos rfl] at pc ⊢;exact ⟨F1, ρ, fp, S.ext e1, PostS.stp e1.stp pc⟩
 | false =>
  rw [if_neg Bool.false_ne_true] at pc ⊢;exact ⟨F1, ρ, fp, S.ext e1, PostS.stp e1.stp pc⟩
theorem AA {a : Fe} (h : tS M n (rA a) D σ H) : jW (tD M n a) D σ H := by
 obtain ⟨F, ρ, fp, S, p⟩ := h;exact ⟨F, ρ, fp, S, (aw.bind p).mono fun x px v F1 H1 fx e1 r1 w1 => px σ F1 H1 fp (S.ext e1) e1.stp⟩
theorem Ej {a : Fe} (h : tS M n (d6 a) D σ H) : zH (tD M n a) D σ H := by
 obtain ⟨F, ρ, fp, S, p⟩ := h;exact ⟨F, ρ, fp, S, (aw.bind p).mono fun x px v F1 H1 fx e1 r1 w1 => px v F1 H1 fx e1.fh r1 ((e1.stpN w1).sub fun a m => List.mem_append_right _ m)⟩
theorem zf {i : Nat} (h : tS M n (gC i) D σ H) : zH (iB i) D σ H := by
 obtain ⟨F, ρ, fp, S, p⟩ := h;unfold gC at p;split at p
 ·rename_i x e
  obtain ⟨v, f, g1, g2, h1, h2, rfl, h4⟩ := S.own.at e;have sub : ∀ a ∈ f, a ∈ g1 ++ (f ++ g2) := fun a m => List.mem_append_right _ (List.mem_append_left _ m)
  refine ⟨v, h1, p v F H f S.same ⟨h2, ?_, fun a m => S.fr a (sub a m)⟩ (Stp.refl.sub sub)⟩
  have nd := S.nd;simp only [List.nodup_append] at nd;exact nd.2.1.1
 ·exact p.elim
theorem EN {a : Fe} {is : List Nat} {g : Fg} (h : tS M n (xB a g) D σ H) : sd (tD M n a) (tG M n is g) D σ H := by
 obtain ⟨F, ρ, fp, S, p⟩ := h;refine ⟨F, ρ, fp, S, (aw.bind p).mono fun x px v F1 H1 fx e1 r1 w1 => ?_⟩
 have st := e1.stpN (fp := fp) w1;refine ⟨F1, ρ, fp, x, fx, S.ext e1, r1, fun a m q => ?_, ((aw.bind px).stp st).mono fun ρ' hρ σ' F' H' fp' S' s' _ => hρ σ' F' H' fp' S' (st.trans s')⟩
 obtain ⟨o, z⟩ := S.own.dom a q;rw [w1 a m] at z;cases z
theorem u_ {i : Nat} (hi : i < n) {v : V} {Q : St → Hp → Prop} (h : tG M n [i] (gNm i) v σ H Q) : kl i v σ H Q := by
 obtain ⟨F, ρ, fp, x, fx, S, r, d, p⟩ := h;obtain ⟨fp', S', sub⟩ := S.set hi r d;refine p _ F H fp' S' ⟨aK.refl _, fun _ _ h _ => h, fun a m => .inl (List.mem_append.mpr (sub a m)), fun _ _ _ z => z⟩ fun j hj => ?_
 have hne : i ≠ j := by
  rintro rfl;exact hj (by simp)
 rw [List.getElem?_set_ne hne]
theorem DB {vs : List V} {Q : St → Hp → Prop} (h : tGs M n [] gf vs σ H Q) : CI vs σ H Q := by
 obtain ⟨F, ρ, fp, xs, fx, S, r, d, p⟩ := h;cases xs with
 | nil =>
  cases r.own with
  | nil => exact ⟨rfl, p σ F H fp S (Stp.refl.sub fun a m => List.mem_append_left _ m) fun _ _ => rfl⟩
 | cons x xs => exact p.elim
theorem Bf {vs : List V} {is js : List Nat} {g : Fg} {gs : Fgs} {Q : St → Hp → Prop} (h : tGs M n (is ++ js) (bA g gs) vs σ H Q) : yA (tG M n is g) (tGs M n js gs) vs σ H Q := by
 obtain ⟨F, ρ, fp, xs, fx, S, r, d, p⟩ := h;cases xs with
 | nil => exact p.elim
 | cons x xs =>
  obtain ⟨ro, rn, rf⟩ := r;cases ro with
  | @cons v _ f vs _ g' h1 h2 =>
   have nd := rn;simp only [List.nodup_append] at nd;refine ⟨v, vs, rfl, F, ρ, fp, x, f, S, ⟨h1, nd.1, fun a m => rf a (List.mem_append_left _ m)⟩, fun a m => d a (List.mem_append_left _ m), ?_⟩
   have p' : aw M H (fp ++ (f ++ g')) _ ((g x ρ).bind fun ρ' => gs xs ρ') := p
   have s0 : Stp F H (fp ++ (f ++ g')) F H (fp ++ f) := Stp.refl.sub fun a m => by
    simp only [List.mem_append] at m ⊢;rcases m with m | m
    ·exact .inl m
    ·exact .inr (.inl m)
   refine ((aw.bind p').stp s0).mono fun ρ1 p1 σ1 F1 H1 fp1 S1 s1 t1 => ?_
   have gd : ∀ a ∈ g', a ∉ fp ++ f := fun a m q => by
    rcases List.mem_append.mp q with q | q
    ·exact d a (List.mem_append_right _ m) q
    ·exact nd.2.2 a q a m rfl
   have hd : ∀ a ∈ g', H a ≠ none := fun a m => let ⟨_, q⟩ := h2.dom a m; bS q
   have k1 : ∀ a ∈ g', ∀ o, H a = some o → H1 a = some o := fun a m o q => s1.keep a o q (gd a m)
   have out : ∀ a ∈ g', a ∉ fp1 := fun a m => s1.out (hd a m) (gd a m)
   have s2 : Stp F H (fp ++ (f ++ g')) F1 H1 (fp1 ++ g') := ⟨s1.ff, fun a o q m => s1.keep a o q (fun z => m (by simp only [List.mem_append] at z ⊢; rcases z with z | z <;> simp [z])), fun a m => by
    rcases List.mem_append.mp m with m | m
    ·rcases s1.new a m with z | z
     ·exact .inl (by simp only [List.mem_append] at z ⊢; rcases z with z | z <;> simp [z])
     ·exact .inr z
    ·exact .inl (by simp [m]), fun a q m z => s1.nw a q (fun w => m (by simp only [List.mem_append] at w ⊢; rcases w with w | w <;> simp [w])) z⟩
   refine ⟨F1, ρ1, fp1, xs, g', S1, ⟨h2.mono s1.ff k1, nd.2.1, fun a m => s1.nw a (hd a m) (gd a m) (rf a (List.mem_append_right _ m))⟩, out, (p1.stp s2).mono fun ρ' hρ σ' F' H' fp' S' s' t' => hρ σ' F' H' fp' S' (s2.trans s') fun j hj => ?_⟩
   have hj1 : j ∉ is := fun z => hj (List.mem_append_left _ z)
   have hj2 : j ∉ js := fun z => hj (List.mem_append_right _ z)
   rw [t' j hj2, t1 j hj1]
theorem Dj {k : Nat} {v : V} {is : List Nat} {gs : Fgs} {Q : St → Hp → Prop} (h : tG M n is (gTp k gs) v σ H Q) : CO M.K k (tGs M n is gs) v σ H Q := by
 obtain ⟨F, ρ, fp, x, fx, S, r, d, p⟩ := h;unfold gTp at p;split at p
 ·rename_i xs
  obtain ⟨ro, rn, rf⟩ := r;cases ro with
  | @ot a vs _ f h1 h2 =>
   by_cases hl : xs.length = k
   ·rw [if_pos hl] at p
    have nd := List.nodup_cons.mp rn;have s0 : Stp F H (fp ++ (a :: f)) F H (fp ++ f) := Stp.refl.sub fun b m => by
     simp only [List.mem_append, List.mem_cons] at m ⊢;rcases m with m | m <;> simp [m]
    exact ⟨a, vs, rfl, SqT.of h1, by rw [h2.len]; exact hl, F, ρ, fp, xs, f, S, ⟨h2, nd.2, fun b m => rf b (List.mem_cons_of_mem _ m)⟩, fun b m => d b (List.mem_cons_of_mem _ m), (p.stp s0).mono fun ρ' hρ σ' F' H' fp' S' s' t' => hρ σ' F' H' fp' S' (s0.trans s') t'⟩
   ·rw [if_neg hl] at p
    exact p.elim
 ·rename_i ds
  obtain ⟨ro, rn, rf⟩ := r;cases ro with
  | sh q =>
   by_cases hl : ds.length = k
   ·rw [if_pos hl] at p
    cases q with
    | @tup a vs _ h1 h2 =>
     exact ⟨a, vs, rfl, SqT.of (S.same _ _ h1), by rw [RepAll.len h2]; exact hl, F, ρ, fp, ds.map OD.sh, [], S, ⟨OwnL.shs h2, List.nodup_nil, fun _ m => by cases m⟩, (fun _ m => by cases m), p⟩
   ·rw [if_neg hl] at p
    exact p.elim
 ·exact p.elim
theorem vD {a : Fe} {i : Nat} (hi : i < n) (h : tS M n (aN i a) D σ H) : sd (tD M n a) (kl i) D σ H := by
 have h' : tS M n (xB a (gNm i)) D σ H := h;obtain ⟨F, ρ, fp, S, p⟩ := EN (is := [i]) h';exact ⟨F, ρ, fp, S, p.mono fun x px v F1 H1 fx e1 r1 w1 => u_ hi (px v F1 H1 fx e1 r1 w1)⟩
theorem Cz {f : Fs} {i : Nat} (h : tS M n (lx i f) D σ H) : tS M n f D σ H := by
 obtain ⟨F, ρ, fp, S, p⟩ := h;unfold lx uj at p;split at p
 ·rename_i x e
  obtain ⟨v, f, g1, g2, h1, h2, rfl, h4⟩ := S.own.at e;have ff : ∀ a ∈ f, F a = none := fun a m => S.fr a (List.mem_append_right _ (List.mem_append_left _ m))
  have o := h4 (jh F H f) H (fR ff) (fun _ _ _ q => q) v (.sh x.er) [] (.sh (h2.frz (fR ff) fun a m o q => by rw [jR m]; exact q))
  have hs : σ.set i (some v) = σ := by
   apply List.ext_getElem?
   intro j;by_cases hj : i = j
   ·subst hj
    rw [h1, List.getElem?_set_self (List.getElem?_eq_some_iff.mp h1).1]
   ·rw [List.getElem?_set_ne hj]
  rw [hs] at o;have nd := S.nd;simp only [List.nodup_append, List.mem_append] at nd;obtain ⟨n1, ⟨n2, n3, n4⟩, n5⟩ := nd;have sub : ∀ a ∈ g1 ++ ([] ++ g2), a ∈ g1 ++ (f ++ g2) ∧ a ∉ f := fun a m => by
   simp only [List.nil_append, List.mem_append] at m ⊢;rcases m with m | m
   ·exact ⟨.inl m, fun z => n5 a m a (.inl z) rfl⟩
   ·exact ⟨.inr (.inr m), fun z => n4 a z a m rfl⟩
  have st : Stp F H (g1 ++ (f ++ g2)) (jh F H f) H (g1 ++ ([] ++ g2)) := ⟨fR ff, fun _ _ h _ => h, fun a m => .inl (sub a m).1, fun a h m z => by
   rw [gk fun w => m (List.mem_append_right _ (List.mem_append_left _ w))]
   exact z⟩
  refine ⟨jh F H f, _, _, ⟨nL S.same, o, ?_, fun a m => ?_, by rw [List.length_set]; exact S.len⟩, PostS.stp st p⟩
  ·simp only [List.nil_append, List.nodup_append]
   exact ⟨n1, n3, fun a ha b hb => n5 a ha b (.inr hb)⟩
  ·rw [gk (sub a m).2]
   exact S.fr a (sub a m).1
 ·exact ⟨F, ρ, fp, S, p⟩
end
noncomputable def Walks (K : PySem.W.Frag) (F : Hp) (J : It) (ds : List PyData) : Prop := ∀ i G H, aK F G → aK G H →
 (∀ d, ds[i]? = some d → J.go i H ∧ ∀ x H', J.yld i H x H' → ∃ G', Ext G H G' H' ∧ Rep K G' x d) ∧ (ds.length ≤ i → J.stop i H)
noncomputable def OkI (K : PySem.W.Frag) (F H : Hp) (R : It → Hp → Prop) (ds : List PyData) : Prop := ∀ J F' H', Ext F H F' H' → Walks K F' J ds → R J H'
noncomputable def tI (M : Mx) (n : Nat) (f : Fi) : TI := fun σ H R => ∃ F ρ fp, Stt M.K n F H σ ρ fp ∧ aw M H fp (OkI M.K F H R) (f ρ)
section
variable {M : Mx} {n : Nat} {F H : Hp} {σ : St} {D : Ends} {R' : It → Hp → Prop}
theorem Bo {a : Fe} (h : tI M n (c9 a) σ H R') : pP M.K (tD M n a) σ H R' := by
 obtain ⟨F, ρ, fp, S, p⟩ := h;refine ⟨F, ρ, fp, S, (aw.bind p).mono fun x px v F1 H1 fx e1 r1 w1 => ?_⟩
 obtain ⟨G1, d1, k1⟩ := r1.frz e1 w1;generalize x.er = d at px k1
 cases k1 with
 | @lst a vs ds h1 h2 =>
  refine ⟨a, rfl, ⟨vs, (h1.same d1.fh).sq⟩, px _ G1 H1 d1 fun i G H' s1 s2 => ?_⟩
  have hq := (h1.same (s1.trans s2)).sq;refine ⟨fun d hd => ?_, fun hl => ⟨vs, hq, by rw [RepAll.len h2]; exact hl⟩⟩
  obtain ⟨u, hu, ru⟩ := RepAll.get h2 hd;refine ⟨⟨vs, u, hq, hu⟩, fun x H2 y => ?_⟩
  obtain ⟨rfl, y⟩ := y;have hx := y vs hq;rw [hu] at hx;cases hx;exact ⟨G, Ext.refl s2, ru.same s1⟩
 | non => exact px.elim
 | bl _ => exact px.elim
 | int _ => exact px.elim
 | str _ => exact px.elim
 | dct _ _ _ => exact px.elim
 | tup _ _ => exact px.elim
theorem k8 {K : PySem.W.Frag} (lo : Int) (k : Nat) : Walks K F (Itr lo k) (iM lo k) := by
 intro i G H s1 s2;unfold iM;refine ⟨fun d hd => ?_, fun hl => (show k ≤ i by simpa using hl)⟩
 rw [List.getElem?_map] at hd;obtain ⟨j, hj, rfl⟩ := Option.map_eq_some_iff.mp hd;obtain ⟨h1, h2⟩ := List.getElem?_eq_some_iff.mp hj;have h3 : i = j := by simpa using h2
 subst h3;refine ⟨(show i < k by simpa using h1), fun x H' y => ?_⟩
 obtain ⟨rfl, rfl⟩ := y;exact ⟨G, Ext.refl s2, .int _⟩
theorem et {i : Int} : ay i = true ↔ -(2 ^ 62) ≤ i ∧ i < 2 ^ 62 := by
 unfold ay;rw [Bool.and_eq_true, decide_eq_true_eq, decide_eq_true_eq]
theorem FE {a : Fe} (h : tI M n (iR1 a) σ H R') : yB (tA M n (af a aq)) σ H R' := by
 obtain ⟨F, ρ, fp, S, p⟩ := h;refine ⟨F, ρ, fp, S, ?_⟩;have p1 := aw.bind p;show aw M H fp _ ((a ρ).bind fun x => R.ok [x])
 cases ha : a ρ with
 | bad => rw [ha] at p1; exact p1
 | ex c => rw [ha] at p1; exact p1
 | ok x =>
  rw [ha] at p1;intro vs F1 H1 fx e1 r1 w1;obtain ⟨G1, d1, k1⟩ := r1.frz e1 w1;cases k1 with
  | @cons v _ _ _ k1 k2 =>
   cases k2;have p2 : aw M H fp (OkI M.K F H R') (match x.er with | .int j => if ay j = true then .ok (iM 0 j.toNat) else .bad | _ => .bad) := p1
   generalize x.er = d at p2 k1
   cases k1 with
   | int j =>
    by_cases hs : ay j = true
    ·have hs' := et.mp hs
     have p3 : aw M H fp (OkI M.K F H R') (if ay j = true then .ok (iM 0 j.toNat) else .bad) := p2
     rw [if_pos hs] at p3;exact ⟨j, rfl, hs'.1, hs'.2, p3 _ G1 H1 d1 (k8 _ _)⟩
    ·have p3 : aw M H fp (OkI M.K F H R') (if ay j = true then .ok (iM 0 j.toNat) else .bad) := p2
     rw [if_neg hs] at p3;exact p3.elim
   | non => exact p2.elim
   | bl _ => exact p2.elim
   | str _ => exact p2.elim
   | dct _ _ _ => exact p2.elim
   | lst _ _ => exact p2.elim
   | tup _ _ => exact p2.elim
theorem o5 {a b : Fe} {g : PyData → PyData → R (List PyData)} {ρ : Env} {fp : List Addr} {QL : List V → Hp → Prop}
  (p : aw M H fp (OkI M.K F H R') ((a ρ).bind fun x => (b ρ).bind fun y => g x.er y.er))
  (k : ∀ v w dx dy G H1, Ext F H G H1 → Rep M.K G v dx → Rep M.K G w dy → aw M H fp (OkI M.K F H R') (g dx dy) → QL [v, w] H1) :
  aw M H fp (OkL M F H QL) (af a (af b aq) ρ) := by
 show aw M H fp _ ((a ρ).bind fun x => ((b ρ).bind fun y => R.ok [y]).bind fun xs => R.ok (x :: xs))
 have p1 := aw.bind p;cases ha : a ρ with
 | bad => rw [ha] at p1; exact p1
 | ex c => rw [ha] at p1; exact p1
 | ok x =>
  rw [ha] at p1;have p2 : aw M H fp _ (b ρ) := aw.bind p1;show aw M H fp _ (((b ρ).bind fun y => R.ok [y]).bind fun xs => R.ok (x :: xs))
  cases hb : b ρ with
  | bad => rw [hb] at p2; exact p2
  | ex c => rw [hb] at p2; exact p2
  | ok y =>
   rw [hb] at p2;intro vs F1 H1 fx e1 r1 w1;obtain ⟨G1, d1, k1⟩ := r1.frz e1 w1;cases k1 with
   | @cons v _ _ _ k1 k2 =>
    cases k2 with
    | @cons w _ _ _ k2 k3 =>
     cases k3;exact k v w x.er y.er G1 H1 d1 k1 k2 p2
noncomputable def r2F (x y : PyData) : R (List PyData) := match x, y with
 | .int i, .int j => if (ay i && ay j) = true then .ok (iM i (j - i).toNat) else .bad
 | _, _ => .bad
theorem FL {a b : Fe} (h : tI M n (iR2 a b) σ H R') : xY (tA M n (af a (af b aq))) σ H R' := by
 obtain ⟨F, ρ, fp, S, p⟩ := h;refine ⟨F, ρ, fp, S, o5 (g := r2F) (by unfold iR2 at p; exact p) fun v w dx dy G H1 e rv rw' q => ?_⟩
 unfold r2F at q;split at q
 ·rename_i i j
  cases rv;cases rw';by_cases hs : (ay i && ay j) = true
  ·rw [if_pos hs] at q
   rw [Bool.and_eq_true] at hs;have h1 := et.mp hs.1;have h2 := et.mp hs.2;exact ⟨i, j, rfl, ⟨h1.1, h1.2, h2.1, h2.2⟩, q _ G H1 e (k8 _ _)⟩
  ·rw [if_neg hs] at q
   exact q.elim
 ·exact q.elim
theorem me {ds : List PyData} {i : Nat} {d : PyData} (h : (fE ds)[i]? = some d) : ∃ e, ds[i]? = some e ∧ d = .tuple [.int i, e] := by
 unfold fE at h;rw [List.getElem?_map] at h;obtain ⟨p, hp, rfl⟩ := Option.map_eq_some_iff.mp h;rw [List.getElem?_zipIdx] at hp;obtain ⟨e, he, rfl⟩ := Option.map_eq_some_iff.mp hp;exact ⟨e, he, by simp⟩
theorem yE {a : Fe} (h : tI M n (iEn a) σ H R') : x_ M.K (tA M n (af a aq)) σ H R' := by
 obtain ⟨F, ρ, fp, S, p⟩ := h;refine ⟨F, ρ, fp, S, ?_⟩;have p1 := aw.bind p;show aw M H fp _ ((a ρ).bind fun x => R.ok [x])
 cases ha : a ρ with
 | bad => rw [ha] at p1; exact p1
 | ex c => rw [ha] at p1; exact p1
 | ok x =>
  rw [ha] at p1;intro vs F1 H1 fx e1 r1 w1;obtain ⟨G1, d1, k1⟩ := r1.frz e1 w1;cases k1 with
  | @cons v _ _ _ k1 k2 =>
   cases k2;have p2 : aw M H fp (OkI M.K F H R') (match x.er with | .list ds => .ok (fE ds) | _ => .bad) := p1
   generalize x.er = d at p2 k1
   cases k1 with
   | @lst a vs ds h1 h2 =>
    have p3 : OkI M.K F H R' (fE ds) := p2;refine ⟨a, rfl, ⟨vs, (h1.same d1.fh).sq⟩, p3 _ G1 H1 d1 fun i G H' s1 s2 => ?_⟩
    have hq := (h1.same (s1.trans s2)).sq;refine ⟨fun d hd => ?_, fun hl => ⟨vs, hq, by rw [RepAll.len h2]; unfold fE at hl; simpa using hl⟩⟩
    obtain ⟨e, he, rfl⟩ := me hd;obtain ⟨u, hu, ru⟩ := RepAll.get h2 he;refine ⟨⟨vs, u, hq, hu⟩, fun x H2 y => ?_⟩
    obtain ⟨T, z, hT, rfl, rfl, hz⟩ := y;have hx := hz vs hq;rw [hu] at hx;cases hx;exact ⟨upd G T _, Ext.allocF s2 hT, .tup bZ (.cons (.int _) (.cons ((ru.same s1).same ((aK.refl G).upd (s2.free hT))) .nil))⟩
   | int j => exact p2.elim
   | non => exact p2.elim
   | bl _ => exact p2.elim
   | str _ => exact p2.elim
   | dct _ _ _ => exact p2.elim
   | tup _ _ => exact p2.elim
noncomputable def wJ (x y : PyData) : R (List PyData) := match x, y with
 | .list ds, .list es => .ok (ku ds es)
 | _, _ => .bad
theorem lB {ds es : List PyData} {i : Nat} {d : PyData} (h : (ku ds es)[i]? = some d) : ∃ x y, ds[i]? = some x ∧ es[i]? = some y ∧ d = .tuple [x, y] := by
 unfold ku at h;rw [List.getElem?_map] at h;obtain ⟨p, hp, rfl⟩ := Option.map_eq_some_iff.mp h;rw [List.getElem?_zip_eq_some] at hp;exact ⟨p.1, p.2, hp.1, hp.2, rfl⟩
theorem Df {a b : Fe} (h : tI M n (iZp a b) σ H R') : ER M.K (tA M n (af a (af b aq))) σ H R' := by
 obtain ⟨F, ρ, fp, S, p⟩ := h;refine ⟨F, ρ, fp, S, o5 (g := wJ) (by unfold iZp at p; exact p) fun v w dx dy G1 H1 d1 rv rw' q => ?_⟩
 unfold wJ at q;split at q
 ·rename_i ds es
  cases rv with
  | @lst a vs _ h1 h2 =>
   cases rw' with
   | @lst b ws _ h3 h4 =>
    refine ⟨a, b, rfl, ⟨vs, (h1.same d1.fh).sq⟩, ⟨ws, (h3.same d1.fh).sq⟩, q _ G1 H1 d1 fun i G H' s1 s2 => ?_⟩
    have hq := (h1.same (s1.trans s2)).sq;have hq' := (h3.same (s1.trans s2)).sq;refine ⟨fun d hd => ?_, fun hl => ⟨vs, ws, hq, hq', ?_⟩⟩
    ·obtain ⟨x, y, hx, hy, rfl⟩ := lB hd
     obtain ⟨u, hu, ru⟩ := RepAll.get h2 hx;obtain ⟨u', hu', ru'⟩ := RepAll.get h4 hy;refine ⟨⟨vs, u, ws, u', hq, hu, hq', hu'⟩, fun x H2 y => ?_⟩
     obtain ⟨T, z, z', hT, rfl, rfl, hz, hz'⟩ := y;have e1 := hz vs hq;have e2 := hz' ws hq';rw [hu] at e1;rw [hu'] at e2;cases e1;cases e2;have sg : aK G (upd G T (.tup [u, u'])) := (aK.refl G).upd (s2.free hT);exact ⟨upd G T _, Ext.allocF s2 hT, .tup bZ (.cons ((ru.same s1).same sg) (.cons ((ru'.same s1).same sg) .nil))⟩
    ·rw [RepAll.len h2, RepAll.len h4]
     unfold ku at hl;rw [List.length_map, List.length_zip] at hl
     lia
 ·exact q.elim
theorem EE {it : Fi} {is : List Nat} {g : Fg} {b : Fs} (h : tS M n (e6 it g b) D σ H) : BY (tI M n it) (tG M n is g) (tS M n b) D σ H := by
 obtain ⟨F, ρ, fp, S, p⟩ := h;refine ⟨F, ρ, fp, S, (aw.bind p).mono fun ds pd J F1 H1 e1 wk => ?_⟩
 refine ⟨fun i m σ' H' => m = ds.length - i ∧ i ≤ ds.length ∧ ∃ F' ρ' fp', Stt M.K n F' H' σ' ρ' fp' ∧ aK F1 F' ∧ aw M H' fp' (gJ M n F' H' fp' D) (bI g b (ds.drop i) ρ'), ⟨ds.length, by simp, Nat.zero_le _, F1, ρ, fp, S.ext e1, aK.refl _, PostS.stp e1.stp pd⟩, ?_⟩
 rintro i m σ' H' ⟨rfl, hi, F', ρ', fp', S', s', p'⟩;obtain ⟨w1, w2⟩ := wk i F' H' s' S'.same;by_cases hlt : i < ds.length
 ·obtain ⟨d, hd⟩ : ∃ d, ds[i]? = some d := ⟨ds[i], by simp [hlt]⟩
  obtain ⟨g1, g2⟩ := w1 d hd;have e : ds.drop i = d :: ds.drop (i + 1) := by
   rw [List.drop_eq_getElem_cons hlt];congr 1
   have := (List.getElem?_eq_some_iff.mp hd).2;exact this
  rw [e] at p';refine .inr ⟨g1, fun σ2 H2 => ∃ F2 ρ2 fp2, Stt M.K n F2 H2 σ2 ρ2 fp2 ∧ aK F1 F2 ∧ aw M H2 fp2 (gJ M n F2 H2 fp2 D) (bI g b (ds.drop (i + 1)) ρ2), fun σ2 H2 q => ⟨ds.length - (i + 1), by lia, rfl, hlt, q⟩, fun x H2 y => ?_⟩
  obtain ⟨G2, e2, rx⟩ := g2 x H2 y;have p2 : aw M H' fp' _ ((g (.sh d) ρ').bind fun ρ1 => (b ρ1).bind fun o => match o with
   | .nx ρ2 => bI g b (ds.drop (i + 1)) ρ2
   | .ct ρ2 => bI g b (ds.drop (i + 1)) ρ2
   | .bk ρ2 => .ok (.nx ρ2)
   | .rt x => .ok (.rt x)) := p'
  have st : Stp F' H' fp' G2 H2 (fp' ++ []) := by
   rw [List.append_nil];exact e2.stp
  refine ⟨G2, ρ', fp', .sh d, [], S'.ext e2, Res.sh rx, (fun _ m => by cases m), ((aw.bind p2).stp st).mono fun ρ1 p1 σ3 F3 H3 fp3 S3 s3 _ => ?_⟩
  have s4 := st.trans s3;refine ⟨F3, ρ1, fp3, S3, ((aw.bind p1).stp s4).mono fun o po => ?_⟩
  cases o with
  | nx ρ2 => exact fun σ5 F5 H5 fp5 S5 s5 => ⟨F5, ρ2, fp5, S5, (s'.trans s4.ff).trans s5.ff, PostS.stp (s4.trans s5) po⟩
  | ct ρ2 => exact fun σ5 F5 H5 fp5 S5 s5 => ⟨F5, ρ2, fp5, S5, (s'.trans s4.ff).trans s5.ff, PostS.stp (s4.trans s5) po⟩
  | bk ρ2 => exact fun σ5 F5 H5 fp5 S5 s5 => po σ5 F5 H5 fp5 S5 (s4.trans s5)
  | rt x => exact fun v F5 H5 fx a r s5 => po v F5 H5 fx a r (s4.trans s5)
 ·have e : i = ds.length := by lia
  subst e;refine .inl ⟨w2 (Nat.le_refl _), ?_⟩;rw [List.drop_length] at p';exact p' σ' F' H' fp' S' Stp.refl
end
end L3
namespace L3
open PySem L2
section
variable {M : Mx} {n : Nat} {F H F1 H1 : Hp} {σ : St} {ρ : Env} {fp : List Addr} {D : Ends} {K : PySem.W.Frag}
theorem OwnS.nones {K : PySem.W.Frag} : ∀ (k : Nat) {σ : St} {ρ : Env} {g : List Addr}, OwnS K F H σ ρ g → OwnS K F H (List.replicate k none ++ σ) (List.replicate k none ++ ρ) g
 | 0, _, _, _, h => h
 | k + 1, _, _, _, h => by
  rw [List.replicate_succ, List.replicate_succ];exact .no (OwnS.nones k h)
theorem OwnS.one (S : OwnS K F H σ ρ fp) (i : Nat) : ∃ f, (∀ a ∈ f, a ∈ fp) ∧ (fp.Nodup → f.Nodup) ∧ ∀ {σ' : St} {ρ' : Env} {g : List Addr}, OwnS K F H σ' ρ' g → OwnS K F H ((σ[i]?).join :: σ') ((ρ[i]?).join :: ρ') (f ++ g) := by
 cases e : ρ[i]? with
 | none => exact ⟨[], (fun _ m => by cases m), fun _ => List.nodup_nil, fun h => .no h⟩
 | some o =>
  cases o with
  | none => exact ⟨[], (fun _ m => by cases m), fun _ => List.nodup_nil, fun h => .no h⟩
  | some x =>
   obtain ⟨v, f, g1, g2, h1, h2, rfl, h4⟩ := S.at e;refine ⟨f, fun a m => List.mem_append_right _ (List.mem_append_left _ m), fun nd => ?_, fun h => ?_⟩
   ·simp only [List.nodup_append] at nd
    exact nd.2.1.1
   ·rw [h1]
    exact .yes h2 h
noncomputable def shE (ρ : Env) : Env := ρ.map fun o => match o with
 | some (.sh d) => some (.sh d)
 | _ => none
theorem OwnS.shE {σ : St} {ρ : Env} {g : List Addr} (S : OwnS K F H σ ρ g) : OwnS K F H σ (L3.shE ρ) [] := by
 induction S with
 | nil => exact .nil
 | no r ih => exact .no ih
 | yes h r ih =>
  cases h with
  | sh h => exact .yes (f := []) (.sh h) ih
  | ol _ _ => exact .no ih
  | ot _ _ => exact .no ih
  | od _ _ _ => exact .no ih
theorem OwnS.pick3 : ∀ (is : List Nat) {σ : St} {ρ : Env}, OwnS K F H σ ρ [] → OwnS K F H (is.map fun i => (σ[i]?).join) (is.map fun i => (ρ[i]?).join) []
 | [], _, _, _ => .nil
 | i :: is, _, _, S => by
  obtain ⟨f, h1, _, h3⟩ := S.one i;have hf : f = [] := by
   cases f with
   | nil => rfl
   | cons a f => exact absurd (h1 a List.mem_cons_self) (by simp)
  subst hf;exact h3 (OwnS.pick3 is S)
theorem pS : ∀ (k : Nat) {σ0 σ2 : St}, σ2.length = k + σ0.length → (∀ j, k ≤ j → σ2[j]? = (List.replicate k none ++ σ0)[j]?) → gm (List.replicate k none ++ σ0) σ2
 | 0, σ0, σ2, hl, h => by
  have e : σ2 = σ0 := List.ext_getElem? fun j => by simpa using h j (Nat.zero_le _)
  subst e;show gm σ2 σ2
  clear h hl
  induction σ2 with
  | nil => trivial
  | cons x r ih =>
   cases x with
   | none => exact ih
   | some v => exact ⟨rfl, ih⟩
 | k + 1, σ0, [], hl, h => by simp at hl; lia
 | k + 1, σ0, x :: σ2, hl, h => by
  rw [List.replicate_succ];refine pS k (by simp at hl; lia) fun j hj => ?_
  have := h (j + 1) (by lia)
  simpa [List.replicate_succ] using this
theorem qG (ρ : Env) : ∀ (is : List Nat), (is.map fun i => ((shE ρ)[i]?).join) = is.map fun i => j4 ρ[i]?
 | [] => rfl
 | i :: is => by
  rw [List.map_cons, List.map_cons, qG ρ is];congr 1
  unfold shE;rw [List.getElem?_map];cases ρ[i]? with
  | none => rfl
  | some o =>
   cases o with
   | none => rfl
   | some x => cases x <;> rfl
theorem Stt.block (S : Stt K n F H σ ρ fp) (k : Nat) (outs : List (Nat × Str)) : Stt K (k + outs.length) F H (slots k outs σ) (sl3 k (outs.map (·.1)) ρ) [] := by
 refine ⟨S.same, ?_, List.nodup_nil, (fun _ m => by cases m), by unfold sl3; simp⟩
 have h := OwnS.nones k (OwnS.pick3 (outs.map (·.1)) S.own.shE);rw [qG, List.map_map] at h;exact h
theorem nX {α : Type} {r : R α} {P : α → Prop} {β : Type} {g : α → R β} {PP : β → Prop} (p : aw M H fp PP ((nr r).bind g)) : ∃ a, r = .ok a ∧ aw M H fp PP (g a) := by
 cases r with
 | ok a => exact ⟨a, rfl, p⟩
 | ex c => exact p.elim
 | bad => exact p.elim
theorem qv {it : Fi} {g : Fg} {t : Ft} {el : Fe} {k : Nat} {is : List Nat} {outs : List (Nat × Str)} {Q : VK} (hk : ∀ j ∈ is, j < k) (h : tD M n (aZ it g t el k (outs.map (·.1))) σ H Q) :
  pq (tI M n it) (tG M (k + outs.length) is g) (tT M (k + outs.length) t) (tD M (k + outs.length) el) k outs σ H Q := by
 obtain ⟨F, ρ, fp, S, p⟩ := h;refine ⟨F, ρ, fp, S, (aw.bind p).mono fun ds pd J F1 H1 e1 wk D hD => ?_⟩
 have SB := (S.ext e1).block k outs;have fD : F1 D = none := e1.fh.free hD;refine ⟨fun i m acc H' => m = ds.length - i ∧ i ≤ ds.length ∧ ∃ F' xs fx, H' D = some (.lst acc) ∧ F' D = none ∧ Ext F1 H1 F' H' ∧ ResL M.K F' H' acc xs fx ∧ (∀ a ∈ fx, H1 a = none ∧ a ≠ D) ∧
  aw M H fp (OkE M F H Q) ((a7 g t el (sl3 k (outs.map (·.1)) ρ) (ds.drop i) xs).bind fun xs => .ok (.ol xs)), ⟨ds.length, by simp, Nat.zero_le _, F1, [], [], bZ, fD, Ext.alloc e1.fh hD, ResL.nil, (fun _ m => by cases m), pd⟩, ?_⟩
 rintro i m acc H' ⟨rfl, hi, F', xs, fx, hacc, fD', e', rx, wx, p'⟩;have S' := SB.ext e';obtain ⟨w1, w2⟩ := wk i F' H' e'.ff e'.fh;by_cases hlt : i < ds.length
 ·obtain ⟨d, hd⟩ : ∃ d, ds[i]? = some d := ⟨ds[i], by simp [hlt]⟩
  obtain ⟨g1, g2⟩ := w1 d hd;have e : ds.drop i = d :: ds.drop (i + 1) := by
   rw [List.drop_eq_getElem_cons hlt];congr 1
   exact (List.getElem?_eq_some_iff.mp hd).2
  rw [e] at p';have p2 : aw M H fp (OkE M F H Q) (((nr (g (.sh d) (sl3 k (outs.map (·.1)) ρ))).bind fun ρ1 => (nr (t ρ1)).bind fun b => if b = true then (nr (el ρ1)).bind fun y => if xs.length < BIG then a7 g t el (sl3 k (outs.map (·.1)) ρ) (ds.drop (i + 1)) (xs ++ [y]) else .bad else a7 g t el (sl3 k (outs.map (·.1)) ρ) (ds.drop (i + 1)) xs).bind fun xs => .ok (.ol xs)) := p'
  have assoc : ∀ {α β γ : Type} (r : R α) (f : α → R β) (h : β → R γ), (r.bind f).bind h = r.bind fun a => (f a).bind h := fun r f h => by cases r <;> rfl
  rw [assoc] at p2;obtain ⟨ρ1, hρ1, p3⟩ := nX (P := fun _ => True) p2
  rw [assoc] at p3;obtain ⟨b, hb, p4⟩ := nX (P := fun _ => True) p3
  refine .inr ⟨g1, fun acc' H2 => ∃ F2 xs2 fx2, H2 D = some (.lst acc') ∧ F2 D = none ∧ Ext F1 H1 F2 H2 ∧ ResL M.K F2 H2 acc' xs2 fx2 ∧ (∀ a ∈ fx2, H1 a = none ∧ a ≠ D) ∧
   aw M H fp (OkE M F H Q) ((a7 g t el (sl3 k (outs.map (·.1)) ρ) (ds.drop (i + 1)) xs2).bind fun xs => .ok (.ol xs)), fun acc' H2 q => ⟨ds.length - (i + 1), by lia, rfl, hlt, q⟩, fun x H2 y => ?_⟩
  obtain ⟨G2, e2, rx2⟩ := g2 x H2 y;refine ⟨G2, sl3 k (outs.map (·.1)) ρ, [], .sh d, [], S'.ext e2, Res.sh rx2, (fun _ m => by cases m), ?_⟩
  rw [hρ1];intro σ3 F3 H3 fp3 S3 s3 t3;have e3 : Ext G2 H2 F3 H3 := ⟨s3.ff, fun a o q => s3.keep a o q (by simp), S3.same, fun a q z => s3.nw a q (by simp) z⟩
  refine ⟨pS k (by rw [S3.own.len, S3.len]; simp) fun j hj => t3 j fun z => by have := hk j z; lia, F3, ρ1, fp3, S3, ?_⟩
  rw [hb];intro F4 H4 e4;have e24 : Ext F' H' F4 H4 := (e2.trans e3).trans e4;cases b with
  | true =>
   rw [if_pos rfl] at p4 ⊢;rw [assoc] at p4;obtain ⟨y, hy, p5⟩ := nX (P := fun _ => True) p4
   refine ⟨F4, ρ1, fp3, S3.ext e4, ?_⟩;rw [hy];intro v F5 H5 fy e5 r5 w5;by_cases hl : xs.length < BIG
   ·rw [if_pos hl] at p5
    have e25 := e24.trans e5;have hD5 : H5 D = some (.lst acc) := e25.hh _ _ hacc;have fD5 : F5 D = none := e25.nw D (bS hacc) fD';have yD : ∀ a ∈ fy, a ≠ D := fun a m => by
     rintro rfl;have := e24.hh _ _ hacc;rw [w5 _ m] at this;cases this
    have rx5 := rx.ext e25;refine ⟨hD5, by rw [rx.own.len]; exact oj hl, F5, xs ++ [y], fx ++ fy, bZ, fD5, ⟨e'.ff.trans e25.ff, fun a o q => ?_, fun a o q => ?_, fun a q z => e25.nw a (e'.hh.dom q) (e'.nw a q z)⟩, ⟨?_, ?_, ?_⟩, ?_, p5⟩
    ·rw [aG (aP q hD)]
     exact e25.hh _ _ (e'.hh _ _ q)
    ·rw [aG (aP q fD5)]
     exact e5.fh _ _ q
    ·have q1 : OwnL M.K F5 (upd H5 D (.lst (acc ++ [v]))) acc xs fx := rx5.own.mono (aK.refl _) fun a m o q => by
      rw [aG (wx a m).2];exact q
     have q2 : Own M.K F5 (upd H5 D (.lst (acc ++ [v]))) v y fy := r5.own.mono (aK.refl _) fun a m o q => by
      rw [aG (yD a m)];exact q
     have q3 := OwnL.app q1 (OwnL.cons q2 .nil);rw [List.append_nil] at q3;exact q3
    ·refine List.nodup_append.mpr ⟨rx.nd, r5.nd, fun a m b m' z => ?_⟩
     subst z;obtain ⟨o, q⟩ := rx.own.dom a m;have := e24.hh _ _ q;rw [w5 a m'] at this;cases this
    ·intro a m
     rcases List.mem_append.mp m with m | m
     ·exact rx5.fr a m
     ·exact r5.fr a m
    ·intro a m
     rcases List.mem_append.mp m with m | m
     ·exact wx a m
     ·exact ⟨(e'.trans e24).hh.free (w5 a m), yD a m⟩
   ·rw [if_neg hl] at p5
    exact p5.elim
  | false =>
   rw [if_neg Bool.false_ne_true] at p4 ⊢;exact ⟨F4, xs, fx, e24.hh _ _ hacc, e24.nw D (bS hacc) fD', e'.trans e24, rx.ext e24, wx, p4⟩
 ·have e : i = ds.length := by lia
  subst e;rw [List.drop_length] at p';have q : OkE M F H Q (.ol xs) := p';refine .inl ⟨w2 (Nat.le_refl _), q (.ref D) F' H' (D :: fx) (e1.trans e') ⟨.ol hacc rx.own, List.nodup_cons.mpr ⟨fun m => (wx D m).2 rfl, rx.nd⟩, fun a m => ?_⟩ fun a m => ?_⟩
  ·rcases List.mem_cons.mp m with rfl | m
   ·exact fD'
   ·exact rx.fr a m
  ·rcases List.mem_cons.mp m with rfl | m
   ·exact e1.hh.free hD
   ·exact e1.hh.free (wx a m).1
theorem u6 {vs : List V} {xs : List OD} {f : List Addr} {G : Hp} (o : OwnL K F H vs xs f) (e : xs.all (fun y => flat y.er) = true) : OwnL K G H1 vs (xs.map fun y => .sh y.er) [] := by
 induction xs generalizing vs f with
 | nil => cases o; exact .nil
 | cons x r0 ih =>
 cases o with
 | cons h r =>
  rw [List.all_cons, Bool.and_eq_true] at e;rw [List.map_cons];refine .cons (f := []) (g := []) (.sh ?_) (ih r e.2);cases h with
  | sh q =>
   rw [bN] at e ⊢;exact oY e.1 q
  | ol _ _ =>
   rw [lX] at e;exact absurd e.1 (by simp [flat])
  | ot _ _ =>
   rw [yh] at e;exact absurd e.1 (by simp [flat])
  | od _ _ _ =>
   rw [CU] at e;exact absurd e.1 (by simp [flat, dD])
theorem qt {fa : Fe} {Q : VK} (h : tD M n (kJ fa) σ H Q) : tD M n fa σ H Q := by
 obtain ⟨F, ρ, fp, S, p⟩ := h;refine ⟨H, erase ρ, [], S.erase, (aw.bind p).nofp.mono fun x px v F1 H1 fx e1 r1 w1 => ?_⟩
 cases x with
 | sh d => exact px.elim
 | ot xs => exact px.elim
 | od xs => exact px.elim
 | ol xs =>
  have px' : aw M H fp (OkE M F H Q) (if xs.all (fun y => flat y.er) = true then .ok (.ol (xs.map fun y => .sh y.er)) else .bad) := px
  by_cases hf : xs.all (fun y => flat y.er) = true
  ·rw [if_pos hf] at px'
   obtain ⟨ro, rn, rf⟩ := r1;cases ro with
   | @ol a vs _ f h1 h2 =>
    have na : H a = none := w1 a List.mem_cons_self;refine px' (.ref a) F H1 [a] ⟨aK.refl _, e1.hh, S.same.trans e1.hh, fun _ _ z => z⟩ ⟨.ol h1 (u6 h2 hf), by simp, fun b m => ?_⟩ fun b m => ?_
    ·have : b = a := by simpa using m
     rw [this];exact S.same.free na
    ·have : b = a := by simpa using m
     rw [this];exact na
  ·rw [if_neg hf] at px'
   exact px'.elim
end
end L3
namespace L3
open PySem L2
section
variable {M : Mx} {n : Nat} {F H F1 H1 : Hp} {σ : St} {ρ : Env} {fp : List Addr} {D : Ends} {K : PySem.W.Frag}
theorem jf {p f q f' : List Addr} (h : (p ++ (f ++ q)).Nodup) (h' : f'.Nodup) (s : ∀ c ∈ f', c ∈ f ∨ c ∉ p ++ (f ++ q)) : (p ++ (f' ++ q)).Nodup := by
 simp only [List.nodup_append, List.mem_append] at h s ⊢;obtain ⟨n1, ⟨n2, n3, n4⟩, n5⟩ := h;refine ⟨n1, ⟨h', n3, fun a ha b hb e => ?_⟩, fun a ha b hb e => ?_⟩
 ·subst e
  rcases s a ha with z | z
  ·exact n4 a z a hb rfl
  ·exact z (.inr (.inr hb))
 ·subst e
  rcases hb with hb | hb
  ·rcases s a hb with z | z
   ·exact n5 a ha a (.inl z) rfl
   ·exact z (.inl ha)
  ·exact n5 a ha a (.inr hb) rfl
theorem OwnL.at : ∀ {vs : List V} {xs : List OD} {g : List Addr} {i : Nat} {x : OD}, OwnL K F H vs xs g → xs[i]? = some x →
  ∃ v f g1 g2, vs[i]? = some v ∧ Own K F H v x f ∧ g = g1 ++ (f ++ g2) ∧ ∀ (F' H' : Hp), aK F F' → (∀ a ∈ g1 ++ g2, ∀ o, H a = some o → H' a = some o) → ∀ v' x' f', Own K F' H' v' x' f' → OwnL K F' H' (vs.set i v') (xs.set i x') (g1 ++ (f' ++ g2))
 | _, _, _, _, _, .nil, e => by simp at e
 | _, _, _, 0, x, .cons (f := f) (g := g) h r, e => by
  simp at e
  subst e;exact ⟨_, f, [], g, rfl, h, rfl, fun F' H' s k v' x' f' o => OwnL.cons (f := f') (g := g) o (r.mono s k)⟩
 | _, _, _, i + 1, x, .cons (f := f0) h r, e => by
  obtain ⟨v, f, g1, g2, h1, h2, h3, h4⟩ := OwnL.at (i := i) r (by simpa using e)
  refine ⟨v, f, f0 ++ g1, g2, by simpa using h1, h2, by rw [h3, List.append_assoc], fun F' H' s k v' x' f' o => ?_⟩
  rw [List.append_assoc];exact .cons (h.mono s fun a m => k a (List.mem_append_left _ (List.mem_append_left _ m))) (h4 F' H' s (fun a m => k a (by simp at m ⊢; rcases m with m | m <;> simp [m])) v' x' f' o)
theorem kK {σ : St} {i : Nat} {v : V} (h1 : σ[i]? = some (some v)) : σ.set i (some v) = σ := by
 apply List.ext_getElem?
 intro j;by_cases hj : i = j
 ·subst hj
  rw [h1, List.getElem?_set_self (List.getElem?_eq_some_iff.mp h1).1]
 ·rw [List.getElem?_set_ne hj]
theorem Stt.write (S : Stt K n F H σ ρ fp) {i : Nat} {xs : List OD} (hx : ρ[i]? = some (some (.ol xs))) :
  ∃ a vs f, σ[i]? = some (some (.ref a)) ∧ H a = some (.lst vs) ∧ OwnL K F H vs xs f ∧ f.Nodup ∧ (∀ b ∈ f, F b = none) ∧
   ∀ F1 H1 vs' xs' f', Ext F H F1 H1 → OwnL K F1 H1 vs' xs' f' → f'.Nodup → (∀ b ∈ f', b ∈ f ∨ H b = none) → (∀ b ∈ f', F1 b = none) →
    ∃ fp', Stt K n F1 (upd H1 a (.lst vs')) σ (ρ.set i (some (.ol xs'))) fp' ∧ Stp F H fp F1 (upd H1 a (.lst vs')) fp' ∧ (∀ b ∈ fp', b ∈ fp ∨ b ∈ f') := by
 obtain ⟨v, f0, g1, g2, h1, h2, rfl, h4⟩ := S.own.at hx;cases h2 with
 | @ol a vs _ f ha hv =>
  have nd := S.nd;have nd' := nd;simp only [List.nodup_append, List.mem_append, List.cons_append, List.nodup_cons, List.mem_cons] at nd';obtain ⟨n1, ⟨na, n2, n3, n4⟩, n5⟩ := nd';refine ⟨a, vs, f, h1, ha, hv, n2, fun b m => S.fr b (by simp [m]), fun F1 H1 vs' xs' f' e o nf sub ff => ?_⟩
  have fa : F1 a = none := e.nw a (bS ha) (S.fr a (by simp))
  have hne : ∀ b ∈ f', b ≠ a := fun b m => by
   rintro rfl;rcases sub b m with z | z
   ·exact na (.inl z)
   ·rw [ha] at z
    cases z
  have hs : ∀ c ∈ f', c ∈ f ∨ c ∉ (g1 ++ [a]) ++ (f ++ g2) := fun c m => by
   rcases sub c m with z | z
   ·exact .inl z
   ·refine .inr fun w => ?_
    obtain ⟨o, q⟩ := S.own.dom c (by simp at w ⊢; exact w)
    rw [z] at q;cases q
  have nd2 := jf (p := g1 ++ [a]) (f := f) (q := g2) (f' := f') (by simpa using nd) nf hs
  have own := h4 F1 (upd H1 a (.lst vs')) e.ff (fun b m o q => by
   have : b ≠ a := by
    rintro rfl;rcases List.mem_append.mp m with m | m
    ·exact n5 b m b (.inl rfl) rfl
    ·exact na (.inr m)
   rw [aG this];exact e.hh _ _ q) (.ref a) (.ol xs') (a :: f') (.ol bZ (o.mono (aK.refl _) fun b m o q => by rw [aG (hne b m)]; exact q))
  rw [kK h1] at own;have frs : ∀ b ∈ g1 ++ (a :: f ++ g2), F1 b = none := fun b m => let ⟨_, q⟩ := S.own.dom b m; e.nw b (bS q) (S.fr b m)
  refine ⟨g1 ++ (a :: f' ++ g2), ⟨?_, own, by simpa using nd2, fun b m => ?_, by rw [List.length_set]; exact S.len⟩, ⟨e.ff, fun b o q m => ?_, fun b m => ?_, fun b q m z => e.nw b q z⟩, fun b m => ?_⟩
  ·intro b o q
   rw [aG (aP q fa)];exact e.fh _ _ q
  ·simp only [List.mem_append, List.mem_cons] at m
   rcases m with m | (rfl | m) | m
   ·exact frs b (by simp [m])
   ·exact fa
   ·exact ff b m
   ·exact frs b (by simp [m])
  ·have : b ≠ a := by
    rintro rfl;exact m (by simp)
   rw [aG this];exact e.hh _ _ q
  ·simp only [List.mem_append, List.mem_cons] at m ⊢
   rcases m with m | (m | m) | m
   ·exact .inl (.inl m)
   ·exact .inl (.inr (.inl (.inl m)))
   ·rcases sub b m with z | z
    ·exact .inl (.inr (.inl (.inr z)))
    ·exact .inr z
   ·exact .inl (.inr (.inr m))
  ·simp only [List.mem_append, List.mem_cons] at m ⊢
   rcases m with m | (m | m) | m <;> simp [m]
theorem OwnL.snoc {vs : List V} {xs : List OD} {f g : List Addr} {v : V} {y : OD} (h : OwnL K F H vs xs f) (o : Own K F H v y g) : OwnL K F H (vs ++ [v]) (xs ++ [y]) (f ++ g) := by
 have := OwnL.app h (OwnL.cons o .nil);rw [List.append_nil] at this;exact this
theorem Ei {i : Nat} {a : Fe} (h : tS M n (gU i a) D σ H) : jW (tBM M.K "list" m7 (iB i) (jI (tD M n a) pN)) D σ H := by
 obtain ⟨F, ρ, fp, S, p⟩ := h;unfold gU at p;split at p
 ·rename_i xs e
  obtain ⟨l, vs, f, h1, h2, h3, nf, ff, wr⟩ := S.write e;refine ⟨_, h1, .inl ⟨rfl, vs, SqL.of h2⟩, F, ρ, fp, S, (aw.bind p).mono fun y py v F1 H1 fy e1 r1 w1 => ?_⟩
  by_cases hl : xs.length < BIG
  ·rw [if_pos hl] at py
   refine ⟨l, vs, v, rfl, rfl, e1.hh _ _ h2, by rw [h3.len]; exact oj hl, ?_⟩
   have o : OwnL M.K F1 H1 (vs ++ [v]) (xs ++ [y]) (f ++ fy) := (h3.mono e1.ff fun b _ o q => e1.hh _ _ q).snoc r1.own
   obtain ⟨fp', S', st, _⟩ := wr F1 H1 _ _ _ e1 o (List.nodup_append.mpr ⟨nf, r1.nd, fun b m c m' z => by
    subst z;obtain ⟨o, q⟩ := h3.dom b m;rw [w1 b m'] at q;cases q⟩) (fun b m => (List.mem_append.mp m).elim .inl fun m => .inr (w1 b m)) (fun b m => (List.mem_append.mp m).elim (fun m => let ⟨_, q⟩ := h3.dom b m; e1.nw b (bS q) (ff b m)) (r1.fr b))
   exact py σ F1 _ fp' S' st
  ·rw [if_neg hl] at py
   exact py.elim
 ·exact p.elim
theorem DJ {i : Nat} (h : tS M n (sW i) D σ H) : jW (zb M.K "list" tN (iB i)) D σ H := by
 obtain ⟨F, ρ, fp, S, p⟩ := h;unfold sW at p;split at p
 ·rename_i xs e
  obtain ⟨l, vs, f, h1, h2, h3, nf, ff, wr⟩ := S.write e;obtain ⟨fp', S', st, _⟩ := wr F H [] [] [] (Ext.refl S.same) .nil List.nodup_nil (fun b m => by cases m) fun b m => by cases m
  exact ⟨_, h1, .inl ⟨rfl, vs, SqL.of h2⟩, l, vs, rfl, rfl, h2, p σ F _ fp' S' st⟩
 ·exact p.elim
theorem DR {i : Nat} {a : Fe} (h : tS M n (sO i a) D σ H) : jW (tBM M.K "list" og (iB i) (jI (tD M n a) pN)) D σ H := by
 obtain ⟨F, ρ, fp, S, p⟩ := h;unfold sO at p;split at p
 ·rename_i xs e
  obtain ⟨l, vs, f, h1, h2, h3, nf, ff, wr⟩ := S.write e;refine ⟨_, h1, .inl ⟨rfl, vs, SqL.of h2⟩, F, ρ, fp, S, (aw.bind p).mono fun y py v F1 H1 fy e1 r1 w1 => ?_⟩
  cases y with
  | sh d => exact py.elim
  | ot ys => exact py.elim
  | od ys => exact py.elim
  | ol ys =>
   have py' : aw M H fp (gJ M n F H fp D) (if xs.length + ys.length ≤ BIG then .ok (.nx (ρ.set i (some (.ol (xs ++ ys))))) else .bad) := py
   by_cases hl : xs.length + ys.length ≤ BIG
   ·rw [if_pos hl] at py'
    obtain ⟨ro, rn, rf⟩ := r1;cases ro with
    | @ol b ws _ g hb hw =>
     refine ⟨l, b, vs, ws, rfl, rfl, e1.hh _ _ h2, hb, by rw [h3.len, hw.len]; exact fK hl, ?_⟩
     have o : OwnL M.K F1 H1 (vs ++ ws) (xs ++ ys) (f ++ g) := (h3.mono e1.ff fun b _ o q => e1.hh _ _ q).app hw
     obtain ⟨fp', S', st, _⟩ := wr F1 H1 _ _ _ e1 o (List.nodup_append.mpr ⟨nf, (List.nodup_cons.mp rn).2, fun b m c m' z => by
      subst z;obtain ⟨o, q⟩ := h3.dom b m;rw [w1 b (List.mem_cons_of_mem _ m')] at q;cases q⟩) (fun b m => (List.mem_append.mp m).elim .inl fun m => .inr (w1 b (List.mem_cons_of_mem _ m))) (fun b m => (List.mem_append.mp m).elim (fun m => let ⟨_, q⟩ := h3.dom b m; e1.nw b (bS q) (ff b m)) fun m => rf b (List.mem_cons_of_mem _ m))
     exact py' σ F1 _ fp' S' st
   ·rw [if_neg hl] at py'
    exact py'.elim
 ·exact p.elim
theorem zS {k : Nat} {q : Int} {j : Nat} (h : ixN k q = some j) : j < k := by
 unfold ixN at h;split at h
 ·split at h
  ·cases h
   lia
  ·cases h
 ·split at h
  ·cases h
   lia
  ·cases h
theorem Cy {i : Nat} {a k : Fe} (h : tS M n (mQ i k a) D σ H) : sd (tD M n a) (D5 (iB i) (tD M n k) yo) D σ H := by
 obtain ⟨F, ρ, fp, S, p⟩ := h;unfold mQ at p;split at p
 ·rename_i xs e
  refine ⟨F, ρ, fp, S, (aw.bind p).mono fun y py v F1 H1 fy e1 r1 w1 => ?_⟩
  obtain ⟨l, vs, f, h1, h2, h3, nf, ff, wr⟩ := S.write e;refine ⟨_, h1, F1, ρ, fp, S.ext e1, ((aw.bind py).ext e1).mono fun z pz u F2 H2 fz e2 r2 w2 => ?_⟩
  obtain ⟨G2, d2, k2⟩ := r2.frz e2 w2;generalize z.er = dz at pz k2
  cases dz with
  | int q =>
   cases k2;have pz' : aw M H fp (gJ M n F H fp D) (match ixN xs.length q with | some j => .ok (.nx (ρ.set i (some (.ol (xs.set j y))))) | none => .bad) := pz
   cases hj : ixN xs.length q with
   | none =>
    rw [hj] at pz';exact pz'.elim
   | some j =>
    rw [hj] at pz';have e12 := e1.trans d2;have hjl := zS hj;refine ⟨l, vs, q, j, rfl, rfl, e12.hh _ _ h2, by rw [h3.len]; exact hj, ?_⟩
    obtain ⟨x, hx⟩ : ∃ x, xs[j]? = some x := ⟨xs[j], by simp [hjl]⟩
    obtain ⟨v0, f0, g1, g2, b1, b2, b3, b4⟩ := h3.at hx;subst b3;have o := b4 G2 H2 e12.ff (fun b m o q => e12.hh _ _ q) v y fy (r1.ext d2).own
    have sub : ∀ b ∈ g1 ++ (fy ++ g2), b ∈ g1 ++ (f0 ++ g2) ∨ H b = none := fun b m => by
     simp only [List.mem_append] at m ⊢;rcases m with m | m | m
     ·exact .inl (.inl m)
     ·exact .inr (w1 b m)
     ·exact .inl (.inr (.inr m))
    obtain ⟨fp', S', st, _⟩ := wr G2 H2 _ _ _ e12 o (jf nf r1.nd fun c m => .inr fun w => by
     obtain ⟨o, q⟩ := h3.dom c w;rw [w1 c m] at q;cases q) sub (fun b m => by
      simp only [List.mem_append] at m;rcases m with m | m | m
      ·exact let ⟨_, q⟩ := h3.dom b (by simp [m]); e12.nw b (bS q) (ff b (by simp [m]))
      ·exact (r1.ext d2).fr b m
      ·exact let ⟨_, q⟩ := h3.dom b (by simp [m]); e12.nw b (bS q) (ff b (by simp [m])))
    exact pz' σ G2 _ fp' S' st
  | none => exact pz.elim
  | bool _ => exact pz.elim
  | str _ => exact pz.elim
  | list _ => exact pz.elim
  | tuple _ => exact pz.elim
  | dict _ => exact pz.elim
 ·exact p.elim
theorem Ef {i : Nat} {g : PyData → PyData → R OD} {ti : TIp} {a : Fe} (hi : i < n) (hg : Ok2 M ti g) (h : tS M n (qj i g a) D σ H) : BV i (tD M n a) ti D σ H := by
 obtain ⟨F, ρ, fp, S, p⟩ := h;unfold qj at p;split at p
 ·rename_i d e
  obtain ⟨v, f, g1, g2, h1, h2, h3, h4⟩ := S.own.at e;cases h2 with
  | sh r =>
   refine ⟨v, h1, F, ρ, fp, S, (aw.bind p).mono fun y py w F1 H1 fy e1 r1 w1 => ?_⟩
   obtain ⟨G1, d1, k1⟩ := r1.frz e1 w1;refine hg v w d y.er G1 H1 fp _ d1.fh (r.same d1.ff) k1 ((aw.ext d1 (aw.bind py)).mono fun z pz u F2 H2 fz e2 r2 w2 => ?_)
   have e12 := d1.trans e2;obtain ⟨fp', S', sub⟩ := (S.ext e12).set hi r2 fun b m q => by
    obtain ⟨o, z⟩ := S.own.dom b q;rw [d1.hh.free (w2 b m)] at z;cases z
   exact pz _ F2 H2 fp' S' ⟨e12.ff, fun b o q _ => e12.hh _ _ q, fun b m => (sub b m).elim .inl fun m => .inr (d1.hh.free (w2 b m)), fun b q _ z => e12.nw b q z⟩
 ·exact p.elim
theorem Stt.write2 (S : Stt K n F H σ ρ fp) {i : Nat} {o : OD} {l : Bool} {xs : List OD} {j : Nat} {ys : List OD} (hx : ρ[i]? = some (some o)) (hc : comps o = some (l, xs)) (hj : xs[j]? = some (.ol ys)) :
  ∃ a vs b ws f, σ[i]? = some (some (.ref a)) ∧ H a = some (if l = true then .lst vs else .tup vs) ∧ vs.length = xs.length ∧ vs[j]? = some (.ref b) ∧ H b = some (.lst ws) ∧ OwnL K F H ws ys f ∧ f.Nodup ∧ (∀ c ∈ f, F c = none) ∧
   ∀ F1 H1 ws' ys' f', Ext F H F1 H1 → OwnL K F1 H1 ws' ys' f' → f'.Nodup → (∀ c ∈ f', c ∈ f ∨ H c = none) → (∀ c ∈ f', F1 c = none) →
    ∃ fp', Stt K n F1 (upd H1 b (.lst ws')) σ (ρ.set i (some (wrap l (xs.set j (.ol ys'))))) fp' ∧ Stp F H fp F1 (upd H1 b (.lst ws')) fp' := by
 obtain ⟨v, f0, g1, g2, h1, h2, rfl, h4⟩ := S.own.at hx;obtain ⟨a, vs, g, ha, hv, rfl, rfl, mk⟩ : ∃ a vs g, H a = some (if l = true then .lst vs else .tup vs) ∧ OwnL K F H vs xs g ∧ v = .ref a ∧ f0 = a :: g ∧ ∀ F' H' vs' xs' g', H' a = some (if l = true then .lst vs' else .tup vs') → OwnL K F' H' vs' xs' g' → Own K F' H' (.ref a) (wrap l xs') (a :: g') := by
  cases h2 with
  | sh r =>
   cases hc
  | od _ _ _ =>
   cases hc
  | @ol a vs _ g ha hv =>
   cases hc;exact ⟨a, vs, g, ha, hv, rfl, rfl, fun F' H' vs' xs' g' q r => .ol q r⟩
  | @ot a vs _ g ha hv =>
   cases hc;exact ⟨a, vs, g, ha, hv, rfl, rfl, fun F' H' vs' xs' g' q r => .ot q r⟩
 obtain ⟨u, f1, k1, k2, b1, b2, b3, b4⟩ := hv.at hj;cases b2 with
 | @ol b ws _ f hb hw =>
  subst b3;have nd : ((g1 ++ (a :: (k1 ++ [b]))) ++ (f ++ (k2 ++ g2))).Nodup := by simpa using S.nd
  have nd' := nd;simp only [List.nodup_append, List.mem_append, List.cons_append, List.nodup_cons, List.mem_cons, List.append_assoc, List.nil_append, List.not_mem_nil, or_false] at nd';have inL : ∀ c, c ∈ (g1 ++ (a :: (k1 ++ [b]))) ++ (f ++ (k2 ++ g2)) ↔ c ∈ g1 ++ (a :: (k1 ++ (b :: f ++ k2)) ++ g2) := fun c => by simp
  refine ⟨a, vs, b, ws, f, h1, ha, hv.len, b1, hb, hw, ?_, fun c m => S.fr c (by simp [m]), fun F1 H1 ws' ys' f' e o nf sub ff => ?_⟩
  ·simp only [List.nodup_append] at nd
   exact nd.2.1.1
  have hs : ∀ c ∈ f', c ∈ f ∨ c ∉ (g1 ++ (a :: (k1 ++ [b]))) ++ (f ++ (k2 ++ g2)) := fun c m => by
   rcases sub c m with z | z
   ·exact .inl z
   ·refine .inr fun w => ?_
    obtain ⟨o, q⟩ := S.own.dom c ((inL c).mp w);rw [z] at q;cases q
  have nd2 := jf nd nf hs;have eq2 : (g1 ++ (a :: (k1 ++ [b]))) ++ (f' ++ (k2 ++ g2)) = g1 ++ (a :: (k1 ++ (b :: f' ++ k2)) ++ g2) := by simp
  have frs : ∀ c ∈ g1 ++ (a :: (k1 ++ (b :: f ++ k2)) ++ g2), F1 c = none := fun c m => let ⟨_, q⟩ := S.own.dom c m; e.nw c (bS q) (S.fr c m)
  have fb : F1 b = none := frs b (by simp)
  have nb : ∀ c, c ∈ g1 ∨ c = a ∨ c ∈ k1 ∨ c ∈ f' ∨ c ∈ k2 ∨ c ∈ g2 → c ≠ b := fun c hc => by
   rintro rfl;have nd3 := nd2;simp only [List.append_assoc, List.cons_append, List.nil_append] at nd3;have q : (g1 ++ a :: (k1 ++ c :: (f' ++ (k2 ++ g2)))) = (g1 ++ a :: k1) ++ c :: (f' ++ (k2 ++ g2)) := by simp
   rw [q, List.nodup_append] at nd3;obtain ⟨_, y2, y3⟩ := nd3;rw [List.nodup_cons] at y2;have y4 : ∀ d, d ∈ g1 ++ a :: k1 → d ≠ c := fun d hd z => y3 d hd d (by rw [z]; exact List.mem_cons_self) rfl
   rcases hc with h | h | h | h | h | h
   ·exact y4 c (by simp [h]) rfl
   ·exact y4 a (by simp) h.symm
   ·exact y4 c (by simp [h]) rfl
   ·exact y2.1 (by simp [h])
   ·exact y2.1 (by simp [h])
   ·exact y2.1 (by simp [h])
  have hkeep : ∀ c o, c ≠ b → H c = some o → upd H1 b (.lst ws') c = some o := fun c o hc q => by
   rw [aG hc];exact e.hh _ _ q
  have o1 : Own K F1 (upd H1 b (.lst ws')) (.ref b) (.ol ys') (b :: f') := .ol bZ (o.mono (aK.refl _) fun c m o q => by rw [aG (nb c (by simp [m]))]; exact q)
  have o2 := b4 F1 (upd H1 b (.lst ws')) e.ff (fun c m o q => hkeep c o (nb c (by simp only [List.mem_append] at m; rcases m with m | m <;> simp [m])) q) _ _ _ o1
  have vb : vs.set j (.ref b) = vs := by
   apply List.ext_getElem?
   intro t;by_cases ht : j = t
   ·subst ht
    rw [b1, List.getElem?_set_self (List.getElem?_eq_some_iff.mp b1).1]
   ·rw [List.getElem?_set_ne ht]
  rw [vb] at o2;have o3 := mk F1 (upd H1 b (.lst ws')) vs _ _ (hkeep a _ (nb a (by simp)) ha) o2
  have own := h4 F1 (upd H1 b (.lst ws')) e.ff (fun c m o q => hkeep c o (nb c (by simp only [List.mem_append] at m; rcases m with m | m <;> simp [m])) q) _ _ _ o3
  rw [kK h1] at own;refine ⟨_, ⟨?_, own, by rw [← eq2]; exact nd2, fun c m => ?_, by rw [List.length_set]; exact S.len⟩, ⟨e.ff, fun c o q m => ?_, fun c m => ?_, fun c q m z => e.nw c q z⟩⟩
  ·intro c o q
   rw [aG (aP q fb)];exact e.fh _ _ q
  ·simp only [List.mem_append, List.mem_cons] at m
   rcases m with m | (m | m | (m | m) | m) | m
   ·exact frs c (by simp [m])
   ·exact frs c (by simp [m])
   ·exact frs c (by simp [m])
   ·exact frs c (by simp [m])
   ·exact ff c m
   ·exact frs c (by simp [m])
   ·exact frs c (by simp [m])
  ·have : c ≠ b := by
    rintro rfl;exact m (by simp)
   exact hkeep c o this q
  ·simp only [List.mem_append, List.mem_cons] at m ⊢
   rcases m with m | (m | m | (m | m) | m) | m
   ·simp [m]
   ·simp [m]
   ·simp [m]
   ·simp [m]
   ·rcases sub c m with z | z
    ·simp [z]
    ·exact .inr z
   ·simp [m]
   ·simp [m]
theorem xJ {i : Nat} {k a : Fe} (h : tS M n (j0 i k a) D σ H) : jW (tBM M.K "list" m7 (tOp (ow M.K) (iB i) (tD M n k)) (jI (tD M n a) pN)) D σ H := by
 obtain ⟨F, ρ, fp, S, p⟩ := h;unfold j0 at p;split at p
 ·rename_i xs e
  have hc : comps (.ol xs) = some (true, xs) := rfl;obtain ⟨v0, _, _, _, h0, own0, _, _⟩ := S.own.at e;refine ⟨v0, h0, F, ρ, fp, S, (aw.bind p).mono fun z pz u F1 H1 fz e1 r1 w1 => ?_⟩
  obtain ⟨G1, d1, k1⟩ := r1.frz e1 w1;generalize z.er = dz at pz k1
  cases dz with
  | int q =>
   cases k1;have pz' : aw M H fp (gJ M n F H fp D) (match ixN xs.length q with
    | some j => match xs[j]? with
     | some (.ol ys) => (a ρ).bind fun y => if ys.length < BIG then .ok (.nx (ρ.set i (some (.ol (xs.set j (.ol (ys ++ [y]))))))) else .bad
     | _ => .bad
    | none => .bad) := pz
   cases hj : ixN xs.length q with
   | none =>
    rw [hj] at pz';exact pz'.elim
   | some j =>
    rw [hj] at pz';have pz2 : aw M H fp (gJ M n F H fp D) (match xs[j]? with
     | some (.ol ys) => (a ρ).bind fun y => if ys.length < BIG then .ok (.nx (ρ.set i (some (.ol (xs.set j (.ol (ys ++ [y]))))))) else .bad
     | _ => .bad) := pz'
    split at pz2
    ·rename_i ys hy
     obtain ⟨b0, vs, b, ws, f, h1, ha, hl, hb1, hb, hw, nf, ff, wr⟩ := (S.ext d1).write2 e hc hy;rw [h0] at h1;cases h1;have at1 : atI vs q = some (.ref b) := by
      unfold atI;rw [hl, hj];exact hb1
     refine ⟨b0, vs, q, .ref b, rfl, rfl, SqL.of ha, at1, .inl ⟨rfl, ws, SqL.of hb⟩, G1, ρ, fp, S.ext d1, ((aw.bind pz2).ext d1).mono fun y py v F2 H2 fy e2 r2 w2 => ?_⟩
     by_cases hlt : ys.length < BIG
     ·rw [if_pos hlt] at py
      refine ⟨b, ws, v, rfl, rfl, e2.hh _ _ hb, by rw [hw.len]; exact oj hlt, ?_⟩
      have o : OwnL M.K F2 H2 (ws ++ [v]) (ys ++ [y]) (f ++ fy) := (hw.mono e2.ff fun c _ o q => e2.hh _ _ q).snoc r2.own
      obtain ⟨fp', S', st⟩ := wr F2 H2 _ _ _ e2 o (List.nodup_append.mpr ⟨nf, r2.nd, fun c m d m' z => by
       subst z;obtain ⟨o, q⟩ := hw.dom c m;rw [w2 c m'] at q;cases q⟩) (fun c m => (List.mem_append.mp m).elim .inl fun m => .inr (w2 c m)) (fun c m => (List.mem_append.mp m).elim (fun m => let ⟨_, q⟩ := hw.dom c m; e2.nw c (bS q) (ff c m)) (r2.fr c))
      exact py σ F2 _ fp' S' (d1.stp.trans st)
     ·rw [if_neg hlt] at py
      exact py.elim
    ·exact pz2.elim
  | none => exact pz.elim
  | bool _ => exact pz.elim
  | str _ => exact pz.elim
  | list _ => exact pz.elim
  | tuple _ => exact pz.elim
  | dict _ => exact pz.elim
 ·exact p.elim
end
end L3
namespace L3
open PySem L2 PySem.Spec PyProof.Rows
noncomputable def DE (M : Mx) (X : Cx) (e : Expr) (f : Fe) : Prop := X.K = M.K → X.mg = M.mg → PE X e (tD M X.N.length f)
noncomputable def DT (M : Mx) (X : Cx) (e : Expr) (f : Ft) : Prop := X.K = M.K → X.mg = M.mg → PT X e (tT M X.N.length f)
noncomputable def DW (M : Mx) (X : Cx) (e : Expr) (f : Ft) : Prop := X.K = M.K → X.mg = M.mg → PW X e (tT M X.N.length f)
noncomputable def DA (M : Mx) (X : Cx) (e : List Expr) (f : Fa) : Prop := X.K = M.K → X.mg = M.mg → PA X e (tA M X.N.length f)
noncomputable def DO (M : Mx) (X : Cx) (e : Option Expr) (f : Fo) : Prop := X.K = M.K → X.mg = M.mg → PO X e (tO M X.N.length f)
noncomputable def DI (M : Mx) (X : Cx) (tg e : Expr) (f : Fi) : Prop := X.K = M.K → X.mg = M.mg → PI X tg e (tI M X.N.length f)
noncomputable def DG (M : Mx) (X : Cx) (tg : Expr) (is : List Nat) (f : Fg) : Prop := X.K = M.K → X.mg = M.mg → PG X tg (tG M X.N.length is f)
noncomputable def DGs (M : Mx) (X : Cx) (tg : List Expr) (is : List Nat) (f : Fgs) : Prop := X.K = M.K → X.mg = M.mg → PGs X tg (tGs M X.N.length is f)
noncomputable def DF (M : Mx) (X : Cx) (e : List Expr) (f : Ft) : Prop := X.K = M.K → X.mg = M.mg → PF X e (tT M X.N.length f)
noncomputable def DS (M : Mx) (X : Cx) (st : Stmt) (f : Fs) : Prop := X.K = M.K → X.mg = M.mg → PS X st (tS M X.N.length f)
noncomputable def DSs (M : Mx) (X : Cx) (st : List Stmt) (f : Fs) : Prop := X.K = M.K → X.mg = M.mg → PSs X st (tS M X.N.length f)
section
variable {M : Mx} {X : Cx} {e a b c : Expr} {es : List Expr} {pos : Pos} {fa fb : Fe} {ta tb : Ft} {al : Fa}
theorem peI {t t' : TE} (h : PE X e t) (k : ∀ σ H Q, t' σ H Q → t σ H Q) : PE X e t' := fun pins s σ H Q I q => h pins s σ H Q I (k σ H Q q)
theorem ptI {t t' : TT} (h : PT X e t) (k : ∀ σ H Q, t' σ H Q → t σ H Q) : PT X e t' := fun pins s σ H Q I q => h pins s σ H Q I (k σ H Q q)
theorem pwI {t t' : TT} (h : PW X e t) (k : ∀ σ H Q, t' σ H Q → t σ H Q) : PW X e t' := fun w pins s σ H Q I q => h w pins s σ H Q I (k σ H Q q)
theorem paI {t t' : TA} (h : PA X es t) (k : ∀ σ H Q, t' σ H Q → t σ H Q) : PA X es t' := fun ps pins s σ H Q I q => h ps pins s σ H Q I (k σ H Q q)
theorem poI {o : Option Expr} {t t' : TO} (h : PO X o t) (k : ∀ σ H Q, t' σ H Q → t σ H Q) : PO X o t' := fun pins s σ H Q I q => h pins s σ H Q I (k σ H Q q)
theorem psI {st : Stmt} {t t' : TS} (h : PS X st t) (k : ∀ D σ H, t' D σ H → t D σ H) : PS X st t' := fun pins s σ H D I q => h pins s σ H D I (k D σ H q)
theorem BS {st : List Stmt} {t t' : TS} (h : PSs X st t) (k : ∀ D σ H, t' D σ H → t D σ H) : PSs X st t' := fun pins s σ H D I q => h pins s σ H D I (k D σ H q)
theorem aa (i : Nat) {x : Str} (hN : X.N[i]? = some x := by rfl) (hv : Vis X.env.scope x := by first | exact Or.inl rfl | exact Or.inr (Or.inl rfl) | exact Or.inr (Or.inr rfl)) (hd : (x == ("__debug__" : Str)) = false := by decide)
  (hcd : (x == ("__classdict__" : Str)) = false := by decide) : DE M X (.Name x pos) (ae i) := fun _ _ => peI (fJ hN hv hd hcd) fun _ _ _ h => Dc h
theorem aj {i : Int} {j} : DE M X (.Constant (.int i) j pos) (eC (.int i)) := fun _ _ => peI Al fun _ _ _ h => d_c (fun _ _ => .int i) h
theorem pC {i : Bool} {j} : DE M X (.Constant (.bool i) j pos) (eC (.bool i)) := fun _ _ => peI CZ fun _ _ _ h => d_c (fun _ _ => .bl i) h
theorem b9 {x : Str} {j} : DE M X (.Constant (.str x) j pos) (eC (.str x)) := fun _ _ => peI zk fun _ _ _ h => d_c (fun _ _ => .str x) h
theorem iF {x : Str} {i : Int} (hg : Gl X x) (hm : ∃ t, X.mg x = some (.int i t)) (hd : (x == ("__debug__" : Str)) = false := by decide) : DE M X (.Name x pos) (eC (.int i)) := fun _ _ =>
 let ⟨t, e⟩ := hm
 peI (xy (v := .int i) hg e ⟨t, rfl⟩ hd) fun _ _ _ h => d_c (fun _ _ => .int i) h
theorem bM (h : DE M X e fa) : DE M X e (eSh fa) := fun hK hM => peI (h hK hM) fun _ _ _ q => lj q
theorem qd (h : DE M X e fa) : DE M X e (si fa) := fun hK hM => peI (h hK hM) fun _ _ _ q => CC q
theorem wO (h : DE M X e fa) : DE M X e (kJ fa) := fun hK hM => peI (h hK hM) fun _ _ _ q => qt q
theorem u9 (h : DT M X e ta) : DT M X e (vK ta) := fun hK hM => ptI (h hK hM) fun _ _ _ q => yV q
theorem ax {op : Operator} {r : R2} {g : PyData → PyData → R OD} (ho : OpR X (binaryOp op) r) (hg : X.K = M.K → Ok2 M r g) (ha : DE M X a fa) (hb : DE M X b fb) : DE M X (.BinOp a op b pos) (eOp g fa fb) := fun hK hM =>
 peI (BJ ho (ha hK hM) (hb hK hM)) fun _ _ _ q => xb (hg hK) q
theorem g8 {op : UnaryOp} {r : V → Hp → VK → Prop} {g : PyData → R OD} (ho : UnR X (unaryOp op) r) (hg : X.K = M.K → Ok1 M r g) (ha : DE M X a fa) : DE M X (.UnaryOp op a pos) (eUn g fa) := fun hK hM =>
 peI (De ho (ha hK hM)) fun _ _ _ q => Fl (hg hK) q
theorem nS {op : CmpOp} {r : R2} {g : PyData → PyData → R OD} (ho : OpR X (compareOp op) r) (hg : X.K = M.K → Ok2 M r g) (ha : DE M X a fa) (hb : DE M X b fb) (hm : behindInMarks op b = false) : DE M X (.Compare a [op] [b] pos) (eOp g fa fb) := fun hK hM =>
 peI (xU ho (ha hK hM) (hb hK hM) hm) fun _ _ _ q => xb (hg hK) q
theorem a_ {op : CmpOp} {r : R2} {g : PyData → PyData → R OD} (ho : OpR X (compareOp op) r) (hg : X.K = M.K → Ok2 M r g) (ha : DE M X a fa) (hb : DE M X b fb) (hm : behindInMarks op b = false) : DT M X (.Compare a [op] [b] pos) (aT (eOp g fa fb)) := fun hK hM =>
 ptI (wg ho (ha hK hM) (hb hK hM) hm) fun σ H Q q => by
  obtain ⟨F, ρ, fp, S, p⟩ := uZ q;exact xb (hg hK) ⟨F, ρ, fp, S, p⟩
theorem ni (h : DE M X e fa) (he : ∀ whole, isTrue e X.env whole = (do let v ← whole; standAt e.pos; holding [v] (truthy v)) := by intro _; rfl) : DT M X e (aT fa) := fun hK hM => ptI (AN (h hK hM) he) fun _ _ _ q => d_b q
theorem nz (h : DT M X a ta) : DT M X (.UnaryOp .Not a pos) (k5 ta) := fun hK hM => ptI (AR (h hK hM)) fun _ _ _ q => zE q
theorem nH (h : DT M X a ta) : DW M X (.BoolOp .Or [a] pos) ta := fun hK hM => y0 (h hK hM)
theorem l5 {rest : List Expr} (h : DT M X a ta) (k : DW M X (.BoolOp .Or (b :: rest) pos) tb) : DW M X (.BoolOp .Or (a :: b :: rest) pos) (lT ta tb) := fun hK hM => pwI (Dt (h hK hM) (k hK hM)) fun _ _ _ q => Eo q
theorem xh (h : DW M X e ta) : DT M X e ta := fun hK hM => (h hK hM).pt
theorem qJ (h : DT M X c ta) (ha : DE M X a fa) (hb : DE M X b fb) : DE M X (.IfExp c a b pos) (eIf ta fa fb) := fun hK hM => peI (tJ (h hK hM) (ha hK hM) (hb hK hM)) fun _ _ _ q => Fc q
theorem ai : DA M X [] aq := fun _ _ => paI jr fun _ _ _ q => AJ q
theorem ab (h : DE M X e fa) (r : DA M X es al) (hs : starEach (e :: es) X.env = (false, eval e X.env) :: starEach es X.env := by rfl) : DA M X (e :: es) (af fa al) := fun hK hM => paI (gP (h hK hM) (r hK hM) hs) fun _ _ _ q => wW q
theorem dN {x1} (h : DA M X es al) : DE M X (.Tuple es x1 pos) (gG al) := fun hK hM => peI (Bm (h hK hM)) fun _ _ _ q => BI q
theorem bQ (h : DA M X es al) : DE M X (.List es pos) (eE al) := fun hK hM => peI (zC (h hK hM)) fun _ _ _ q => Dh q
theorem rD : DO M X none oE := fun _ _ => poI wX fun _ _ _ q => xx q
theorem qU (h : DE M X e fa) : DO M X (some e) (lW fa) := fun hK hM => poI (wY (h hK hM)) fun _ _ _ q => xt q
theorem x9 {r : V → Option Int → Option Int → Hp → VK → Prop} {g : PyData → Option Int → Option Int → R OD} {lo hi : Option Expr} {fl fh : Fo} {p2 : Pos} (hr : SlR X r) (hg : X.K = M.K → OkS M r g) (h : DE M X e fa) (hl : DO M X lo fl) (hh : DO M X hi fh) :
  DE M X (.Subscript e (.Slice lo hi none p2) pos) (eSl g fa fl fh) := fun hK hM => peI (uf hr (h hK hM) (hl hK hM) (hh hK hM)) fun _ _ _ q => FP (hg hK) q
theorem aD {r : R2} {g : PyData → PyData → R OD} (hr : IxR X r) (hg : X.K = M.K → Ok2 M r g) (ha : DE M X a fa) (hb : DE M X b fb) (hs : kF b) : DE M X (.Subscript a b pos) (eOp g fa fb) := fun hK hM =>
 peI (qX hr (ha hK hM) (hb hK hM) hs) fun _ _ _ q => xb (hg hK) q
theorem bC {id : String} {x : Str} {p : Pos} {r : List V → Hp → VK → Prop} {g : List PyData → R OD} (hc : eh X (.builtin id) r) (ho : X.K = M.K → OkC M r g) (hg : Gl X x) (hm : X.mg x = none) (hv : bootBuiltins x = some (.builtin id)) (ha : DA M X (e :: es) al)
  (hn : x ≠ "__name__" := by decide) (hdb : (x == ("__debug__" : Str)) = false := by decide) (he : starEach (e :: es) X.env = (false, eval e X.env) :: starEach es X.env := by rfl) (hpl : (backTo pos (starEach es X.env)).any (·.1) = false := by rfl) :
  DE M X (.Call (.Name x p) (e :: es) [] pos) (eB g al) := fun hK hM => peI (oH hc hg hm hv (ha hK hM) hn hdb he hpl) fun _ _ _ q => DM (ho hK) q
theorem oK {T : String} {x : Str} {p : Pos} {r : List V → Hp → VK → Prop} {g : List PyData → R OD} (hc : eh X (.type T) r) (ho : X.K = M.K → OkC M r g) (hg : Gl X x) (hm : X.mg x = none) (hv : bootBuiltins x = some (.type T)) (ha : DA M X (e :: es) al)
  (hn : x ≠ "__name__" := by decide) (hdb : (x == ("__debug__" : Str)) = false := by decide) (he : starEach (e :: es) X.env = (false, eval e X.env) :: starEach es X.env := by rfl) (hpl : (backTo pos (starEach es X.env)).any (·.1) = false := by rfl) :
  DE M X (.Call (.Name x p) (e :: es) [] pos) (eB g al) := fun hK hM => peI (sJ hc hg hm hv (ha hK hM) hn hdb he hpl) fun _ _ _ q => DM (ho hK) q
theorem aA {CX : CXT} {k : Nat} {f : Addr} {fd : FuncData} {ps : List Str} {x : Str} {p : Pos} {fn : Fn} (F : FnOk X.prog X.w M.K M.mg X.base CX k f fd ps (sp3 M.K M.mg fn)) (hr : Room k X.A) (hg : Gl X x) (hm : M.mg x = some (.ref f)) (hk : PySem.W.keepIn M.K (.ref f) = true)
  (hb : Binds M.K fd ps []) (hx : Passes CX X M.E) (ha : DA M X (e :: es) al)
  (hdb : (x == ("__debug__" : Str)) = false := by decide) (he : starEach (e :: es) X.env = (false, eval e X.env) :: starEach es X.env := by rfl) (hpl : (backTo pos (starEach es X.env)).any (·.1) = false := by rfl) :
  DE M X (.Call (.Name x p) (e :: es) [] pos) (aJ fn al) := fun hK hM => by
 have F' : FnOk X.prog X.w X.K X.mg X.base CX k f fd ps (sp3 M.K M.mg fn) := by
  rw [hK, hM];exact F
 exact peI (xi F' hr hg (by rw [hM]; exact hm) (by rw [hK]; exact hk) (by rw [hK]; exact hb) .nil hx (ha hK hM) hdb he hpl) fun _ _ _ q => yX q
theorem bo {tg : Expr} (h : DE M X e fa) : DI M X tg e (c9 fa) := fun hK hM => by
 have q := rM (tg := tg) (h hK hM);rw [hK] at q;exact fun pins s σ H R' I z => q pins s σ H R' I (Bo z)
theorem mw {tg : Expr} {p : Pos} (hg : Gl X "range") (hm : X.mg "range" = none) (h : DE M X a fa) (hs1 : starEach [a] X.env = (false, eval a X.env) :: starEach [] X.env := by rfl) (hs : starEach [a] X.env = [(false, eval a X.env)] := by rfl) : DI M X tg (.Call (.Name "range" p) [a] [] pos) (iR1 fa) := fun hK hM =>
 fun pins s σ H R' I z => rT hg hm ((ab h ai hs1) hK hM) hs pins s σ H R' I (FE z)
theorem jN {tg : Expr} {p : Pos} (hg : Gl X "range") (hm : X.mg "range" = none) (h : DE M X a fa) (k : DE M X b fb) (hs1 : starEach [a, b] X.env = (false, eval a X.env) :: starEach [b] X.env := by rfl) (hs0 : starEach [b] X.env = (false, eval b X.env) :: starEach [] X.env := by rfl)
  (hs : starEach [a, b] X.env = [(false, eval a X.env), (false, eval b X.env)] := by rfl) (hs2 : starEach [b] X.env = [(false, eval b X.env)] := by rfl) : DI M X tg (.Call (.Name "range" p) [a, b] [] pos) (iR2 fa fb) := fun hK hM =>
 fun pins s σ H R' I z => rV hg hm ((ab h (ab k ai hs0) hs1) hK hM) hs hs2 pins s σ H R' I (FL z)
theorem nR {ts : List Expr} {tk : Nat} {p tpos : Pos} (hg : Gl X "enumerate") (hm : X.mg "enumerate" = none) (h : DE M X a fa) (hs1 : starEach [a] X.env = (false, eval a X.env) :: starEach [] X.env := by rfl) (hs : starEach [a] X.env = [(false, eval a X.env)] := by rfl) :
  DI M X (.Tuple ts tk tpos) (.Call (.Name "enumerate" p) [a] [] pos) (iEn fa) := fun hK hM => by
 have q := xH (es := ts) (k := tk) (tpos := tpos) (p := p) (pos := pos) hg hm ((ab h ai hs1) hK hM) hs;rw [hK] at q;exact fun pins s σ H R' I z => q pins s σ H R' I (yE z)
theorem kR {ts : List Expr} {tk : Nat} {p tpos : Pos} (hg : Gl X "zip") (hm : X.mg "zip" = none) (h : DE M X a fa) (k : DE M X b fb) (hs1 : starEach [a, b] X.env = (false, eval a X.env) :: starEach [b] X.env := by rfl) (hs0 : starEach [b] X.env = (false, eval b X.env) :: starEach [] X.env := by rfl)
  (hs : starEach [a, b] X.env = [(false, eval a X.env), (false, eval b X.env)] := by rfl) (hs2 : starEach [b] X.env = [(false, eval b X.env)] := by rfl) : DI M X (.Tuple ts tk tpos) (.Call (.Name "zip" p) [a, b] [] pos) (iZp fa fb) := fun hK hM => by
 have q := yZ (es := ts) (k := tk) (tpos := tpos) (p := p) (pos := pos) hg hm ((ab h (ab k ai hs0) hs1) hK hM) hs hs2;rw [hK] at q;exact fun pins s σ H R' I z => q pins s σ H R' I (Df z)
theorem oM {α : Type} {N : List α} {i : Nat} {x : α} (h : N[i]? = some x) : i < N.length := (List.getElem?_eq_some_iff.mp h).1
theorem pgI {tg : Expr} {t t' : TG} (h : PG X tg t) (k : ∀ v σ H Q, t' v σ H Q → t v σ H Q) : PG X tg t' := fun pins s σ H v u Q I r q => h pins s σ H v u Q I r (k _ _ _ _ q)
theorem DQ {tg : List Expr} {t t' : TGs} (h : PGs X tg t) (k : ∀ v σ H Q, t' v σ H Q → t v σ H Q) : PGs X tg t' := fun pins s σ H v u Q I r q => h pins s σ H v u Q I r (k _ _ _ _ q)
theorem au {i : Nat} {x : Str} (hN : X.N.Nodup) (hi : X.N[i]? = some x) (hx : Loc X.env.scope x) (hf : X.fn x = true ∨ X.env.scope.names.lookup x = some .local := by first | exact .inl rfl | exact .inr rfl | assumption) : DG M X (.Name x pos) [i] (gNm i) := fun _ _ =>
 pgI (qM hN hi hx hf) fun _ _ _ _ q => u_ (oM hi) q
theorem fj : DGs M X [] [] gf := fun _ _ => DQ xm fun _ _ _ _ q => DB q
theorem bc {is js : List Nat} {g : Fg} {gs : Fgs} (h : DG M X e is g) (k : DGs M X es js gs)
  (hs : (assignEach (e :: es) X.env).map (·.2) = assign e X.env :: (assignEach es X.env).map (·.2) := by rfl) : DGs M X (e :: es) (is ++ js) (bA g gs) := fun hK hM =>
 DQ (uN (h hK hM) (k hK hM) hs) fun _ _ _ _ q => Bf q
theorem gT {is : List Nat} {gs : Fgs} {k n : Nat} (hc : X.calm = true) (h : DGs M X es is gs) (hn : (assignEach es X.env).length = n := by rfl) (hst : (assignEach es X.env).findIdx? (·.1) = none := by rfl) : DG M X (.Tuple es k pos) is (gTp n gs) := fun hK hM => by
 have q := AI (pos := pos) (k := k) hc (h hK hM) hn hst;rw [hK] at q;exact pgI q fun _ _ _ _ z => Dj z
variable {st : Stmt} {rest sa sb : List Stmt} {f g : Fs}
theorem b6 : DSs M X [] sNx := fun _ _ => BS xI fun _ _ _ q => Ah q
theorem ah (h : DS M X st f) (k : DSs M X rest g) : DSs M X (st :: rest) (aE f g) := fun hK hM => BS (ud (h hK hM) (k hK hM)) fun _ _ _ q => Dr q
theorem ao (h : DS M X st f) : DSs M X [st] f := fun hK hM => wt (h hK hM)
theorem vB : DS M X st Bn := fun _ _ => psI uD fun _ _ _ q => Co q
theorem vZ (h : DE M X e fa) (hs : swapsWith e none pos.line X.env = pure false := by rfl) : DS M X (.Expr e pos) (rA fa) := fun hK hM => psI (n_ (h hK hM) hs) fun _ _ _ q => AA q
theorem bD (h : DE M X e fa) : DS M X (.Return (some e) pos) (d6 fa) := fun hK hM => psI (vO (h hK hM)) fun _ _ _ q => Ej q
theorem e9 (i : Nat) {x : Str} {p : Pos} (hN : X.N[i]? = some x := by rfl) (hv : Vis X.env.scope x := by first | exact Or.inl rfl | exact Or.inr (Or.inl rfl) | exact Or.inr (Or.inr rfl)) (hd : (x == ("__debug__" : Str)) = false := by decide)
  (hcd : (x == ("__classdict__" : Str)) = false := by decide) : DS M X (.Return (some (.Name x p)) pos) (gC i) := fun _ _ => psI (vO (fJ hN hv hd hcd)) fun _ _ _ q => zf q
theorem dY (h : DT M X c ta) (ha : DSs M X sa f) (hb : DSs M X sb g) : DS M X (.If c sa sb pos) (sIf ta f g) := fun hK hM => psI (C0 (h hK hM) (ha hK hM) (hb hK hM)) fun _ _ _ q => FU q
theorem lg (i : Nat) (h : DS M X st f) : DS M X st (lx i f) := fun hK hM => psI (h hK hM) fun _ _ _ q => Cz q
theorem az {i : Nat} {x : Str} {p : Pos} (hN : X.N.Nodup) (hi : X.N[i]? = some x) (hx : Loc X.env.scope x) (h : DE M X e fa) (hs : swapsWith e (some (.Name x p)) pos.line X.env = pure false := by rfl)
  (hf : X.fn x = true ∨ X.env.scope.names.lookup x = some .local := by first | exact .inl rfl | exact .inr rfl | assumption) : DS M X (.Assign [.Name x p] e pos) (aN i fa) := fun hK hM =>
 psI (AX hN hi hx (h hK hM) hs hf) fun _ _ _ q => vD (oM hi) q
theorem uV {i : Nat} {x : Str} {p : Pos} {op : Operator} {ti : TIp} {gd : PyData → PyData → R OD} (hN : X.N.Nodup) (hi : X.N[i]? = some x) (hx : Loc X.env.scope x) (h : DE M X e fa) (ho : PIp X op ti) (hg : X.K = M.K → Ok2 M ti gd)
  (hf : X.fn x = true ∨ X.env.scope.names.lookup x = some .local := by first | exact .inl rfl | exact .inr rfl | assumption) : DS M X (.AugAssign (.Name x p) op e pos) (qj i gd fa) := fun hK hM =>
 psI (Ac hN hi hx (h hK hM) ho hf) fun _ _ _ q => Ef (oM hi) (hg hK) q
theorem cF {tg iter : Expr} {it : Fi} {is : List Nat} {gg : Fg} {body : List Stmt} (hc : X.calm = true) (hp : PassesOwn (model X.prog X.w) X.A X.env X.xe) (hi : DI M X tg iter it) (hg : DG M X tg is gg) (hb : DSs M X body f) (hs : ∀ x, foldedSetIterable iter X.env x = pure x := by intro _; rfl) : DS M X (.For tg iter body [] pos) (e6 it gg f) := fun hK hM =>
 psI (zh hp hc (hi hK hM) (hg hK hM) (hb hK hM) hs) fun _ _ _ q => EE q
variable {x : Str} {p ap cp : Pos}
theorem vX {o : Expr} {to : TE} {t : TA} {name : Str} {id : String} {r : V → List V → Hp → VK → Prop} (slot : Slot "list" name id) (hty : typeOf (.builtin id) = pure (.type "method_descriptor")) (hm : MtR X id r) (ho : PE X o to) (ha : PA X [e] t) (k : ∀ D σ H, tS M X.N.length f D σ H → jW (tBM M.K "list" r to t) D σ H)
  (hbase : attributeBase o name X.env (eval o X.env) = eval o X.env)
  (hfew : ((backTo cp (starEach [e] X.env)).all (fun x => !x.1) && (backToKw cp (keywordEach [] X.env)).all (fun x => x.1.isSome) && decide (([e] : List Expr).length + ([] : List Keyword).length + (if ([] : List Keyword).isEmpty then 0 else 1) < 30)) = true)
  (hline : (ap.endLine == cp.line) = true) (hs : starEach [e] X.env = (false, eval e X.env) :: starEach [] X.env) (hplain : (backTo cp (starEach [] X.env)).any (·.1) = false)
  (hsw : swapsWith (.Call (.Attribute o name ap) [e] [] cp) none pos.line X.env = pure false) (hK : X.K = M.K) : PS X (.Expr (.Call (.Attribute o name ap) [e] [] cp) pos) (tS M X.N.length f) := by
 have q := oq (apos := ap) (cpos := cp) PySem.F.plainAttrs_list slot hty hm ho ha hbase hfew hline hs hplain;rw [hK] at q;exact psI (n_ q hsw) k
theorem FW {o : Expr} {to : TE} {name : Str} {id : String} {r : V → List V → Hp → VK → Prop} (slot : Slot "list" name id) (hty : typeOf (.builtin id) = pure (.type "method_descriptor")) (hm : MtR X id r) (ho : PE X o to) (k : ∀ D σ H, tS M X.N.length f D σ H → jW (zb M.K "list" r to) D σ H)
  (hbase : attributeBase o name X.env (eval o X.env) = eval o X.env) (hline : (ap.endLine == cp.line) = true)
  (hsw : swapsWith (.Call (.Attribute o name ap) [] [] cp) none pos.line X.env = pure false) (hK : X.K = M.K) : PS X (.Expr (.Call (.Attribute o name ap) [] [] cp) pos) (tS M X.N.length f) := by
 have q := ze (apos := ap) (cpos := cp) PySem.F.plainAttrs_list slot hty hm ho hbase hline;rw [hK] at q;exact psI (n_ q hsw) k
theorem xG (h : DE M X e fa) (hs : starEach [e] X.env = (false, eval e X.env) :: starEach [] X.env) (hK : X.K = M.K) (hM : X.mg = M.mg) : PA X [e] (jI (tD M X.N.length fa) pN) := gP (h hK hM) jr hs
theorem dQ (i : Nat) (h : DE M X e fa) (hN : X.N[i]? = some x := by rfl) (hv : Vis X.env.scope x := by first | exact Or.inl rfl | exact Or.inr (Or.inl rfl) | exact Or.inr (Or.inr rfl)) (hd : (x == ("__debug__" : Str)) = false := by decide) (hcd : (x == ("__classdict__" : Str)) = false := by decide)
  (hbase : attributeBase (.Name x p) "append" X.env (eval (.Name x p) X.env) = eval (.Name x p) X.env := by rfl)
  (hfew : ((backTo cp (starEach [e] X.env)).all (fun x => !x.1) && (backToKw cp (keywordEach [] X.env)).all (fun x => x.1.isSome) && decide (([e] : List Expr).length + ([] : List Keyword).length + (if ([] : List Keyword).isEmpty then 0 else 1) < 30)) = true := by rfl)
  (hline : (ap.endLine == cp.line) = true := by rfl) (hs : starEach [e] X.env = (false, eval e X.env) :: starEach [] X.env := by rfl) (hplain : (backTo cp (starEach [] X.env)).any (·.1) = false := by rfl)
  (hsw : swapsWith (.Call (.Attribute (.Name x p) "append" ap) [e] [] cp) none pos.line X.env = pure false := by rfl) : DS M X (.Expr (.Call (.Attribute (.Name x p) "append" ap) [e] [] cp) pos) (gU i fa) := fun hK hM =>
 vX PySem.F.slot_list_append PySem.F.type_list_append iQ (fJ hN hv hd hcd) (xG h hs hK hM) (fun _ _ _ q => Ei q) hbase hfew hline hs hplain hsw hK
theorem Br (i : Nat) (h : DE M X e fa) (hN : X.N[i]? = some x := by rfl) (hv : Vis X.env.scope x := by first | exact Or.inl rfl | exact Or.inr (Or.inl rfl) | exact Or.inr (Or.inr rfl)) (hd : (x == ("__debug__" : Str)) = false := by decide) (hcd : (x == ("__classdict__" : Str)) = false := by decide)
  (hbase : attributeBase (.Name x p) "extend" X.env (eval (.Name x p) X.env) = eval (.Name x p) X.env := by rfl)
  (hfew : ((backTo cp (starEach [e] X.env)).all (fun x => !x.1) && (backToKw cp (keywordEach [] X.env)).all (fun x => x.1.isSome) && decide (([e] : List Expr).length + ([] : List Keyword).length + (if ([] : List Keyword).isEmpty then 0 else 1) < 30)) = true := by rfl)
  (hline : (ap.endLine == cp.line) = true := by rfl) (hs : starEach [e] X.env = (false, eval e X.env) :: starEach [] X.env := by rfl) (hplain : (backTo cp (starEach [] X.env)).any (·.1) = false := by rfl)
  (hsw : swapsWith (.Call (.Attribute (.Name x p) "extend" ap) [e] [] cp) none pos.line X.env = pure false := by rfl) : DS M X (.Expr (.Call (.Attribute (.Name x p) "extend" ap) [e] [] cp) pos) (sO i fa) := fun hK hM =>
 vX PySem.F.slot_list_extend PySem.F.type_list_extend mq (fJ hN hv hd hcd) (xG h hs hK hM) (fun _ _ _ q => DR q) hbase hfew hline hs hplain hsw hK
theorem AY (i : Nat) (hN : X.N[i]? = some x := by rfl) (hv : Vis X.env.scope x := by first | exact Or.inl rfl | exact Or.inr (Or.inl rfl) | exact Or.inr (Or.inr rfl)) (hd : (x == ("__debug__" : Str)) = false := by decide) (hcd : (x == ("__classdict__" : Str)) = false := by decide)
  (hbase : attributeBase (.Name x p) "clear" X.env (eval (.Name x p) X.env) = eval (.Name x p) X.env := by rfl) (hline : (ap.endLine == cp.line) = true := by rfl)
  (hsw : swapsWith (.Call (.Attribute (.Name x p) "clear" ap) [] [] cp) none pos.line X.env = pure false := by rfl) : DS M X (.Expr (.Call (.Attribute (.Name x p) "clear" ap) [] [] cp) pos) (sW i) := fun hK hM =>
 FW PySem.F.slot_list_clear PySem.F.type_list_clear vT (fJ hN hv hd hcd) (fun _ _ _ q => DJ q) hbase hline hsw hK
theorem t9 {p2 : Pos} (i : Nat) (hb : DE M X b fb) (h : DE M X e fa) (hix : kF b) (hN : X.N[i]? = some x := by rfl) (hv : Vis X.env.scope x := by first | exact Or.inl rfl | exact Or.inr (Or.inl rfl) | exact Or.inr (Or.inr rfl)) (hd : (x == ("__debug__" : Str)) = false := by decide) (hcd : (x == ("__classdict__" : Str)) = false := by decide)
  (hbase : attributeBase (.Subscript (.Name x p) b p2) "append" X.env (eval (.Subscript (.Name x p) b p2) X.env) = eval (.Subscript (.Name x p) b p2) X.env := by rfl)
  (hfew : ((backTo cp (starEach [e] X.env)).all (fun x => !x.1) && (backToKw cp (keywordEach [] X.env)).all (fun x => x.1.isSome) && decide (([e] : List Expr).length + ([] : List Keyword).length + (if ([] : List Keyword).isEmpty then 0 else 1) < 30)) = true := by rfl)
  (hline : (ap.endLine == cp.line) = true := by rfl) (hs : starEach [e] X.env = (false, eval e X.env) :: starEach [] X.env := by rfl) (hplain : (backTo cp (starEach [] X.env)).any (·.1) = false := by rfl)
  (hsw : swapsWith (.Call (.Attribute (.Subscript (.Name x p) b p2) "append" ap) [e] [] cp) none pos.line X.env = pure false := by rfl) : DS M X (.Expr (.Call (.Attribute (.Subscript (.Name x p) b p2) "append" ap) [e] [] cp) pos) (j0 i fb fa) := fun hK hM =>
 vX PySem.F.slot_list_append PySem.F.type_list_append iQ (qX (lh M.K hK) (fJ hN hv hd hcd) (hb hK hM) hix) (xG h hs hK hM) (fun _ _ _ q => xJ q) hbase hfew hline hs hplain hsw hK
theorem qs {p2 : Pos} (i : Nat) (hb : DE M X b fb) (h : DE M X e fa) (hN : X.N[i]? = some x := by rfl) (hv : Vis X.env.scope x := by first | exact Or.inl rfl | exact Or.inr (Or.inl rfl) | exact Or.inr (Or.inr rfl)) (hd : (x == ("__debug__" : Str)) = false := by decide) (hcd : (x == ("__classdict__" : Str)) = false := by decide)
  (hs : swapsWithSole [.Subscript (.Name x p) b p2] e pos.line X.env = pure false := by rfl) (hw : swappedStores [.Subscript (.Name x p) b p2] e X.env = pure none := by rfl)
  (ha : ∀ v, assign (.Subscript (.Name x p) b p2) X.env v = (do
   let ov ← holding [v] (eval (.Name x p) X.env)
   let iv ← holding [v, ov] (eval b X.env)
   standAt p2
   holding [v, ov, iv] (setItem ov iv v)
   release [v, ov, iv] []) := by intro _; rfl) (h1 : (assignEach [.Subscript (.Name x p) b p2] X.env).map (·.2) = [assign (.Subscript (.Name x p) b p2) X.env] := by rfl) : DS M X (.Assign [.Subscript (.Name x p) b p2] e pos) (mQ i fb fa) := fun hK hM =>
 psI (AD (h hK hM) (zm (fJ hN hv hd hcd) (hb hK hM) set_list ha) hs hw h1) fun _ _ _ q => Cy q
variable {sc scope : Scope} {outs : List (Nat × Str)} {elt tg iter : Expr} {ifs : List Expr} {it : Fi} {gg : Fg} {is : List Nat} {el : Fe}
theorem bW : DF M X [] bH := fun _ _ => fun pins s σ H Q I q => ve pins s σ H Q I (by
 obtain ⟨F, ρ, fp, S, p⟩ := q;exact p F H (Ext.refl S.same))
theorem j3 (h : DT M X c ta) : DF M X [c] ta := fun hK hM => Bq (h hK hM)
theorem j9 (own : List Str) (s : Shared) (H : Hp) (C : Addr) (ex : List Addr) (pins : List (Addr × Obj)) : (cxB X (own ++ outs.map (·.2)) scope s H C ex pins).N.length = own.length + outs.length := by
 show (own ++ outs.map (·.2)).length = _
 rw [List.length_append, List.length_map]
theorem b7 (own : List Str) (B : Blk X sc scope outs) (hcalm : X.calm = true) (hk : ∀ j ∈ is, j < own.length) (hi : DI M X tg iter it)
  (hg : ∀ s H C ex pins, DG M (cxB X (own ++ outs.map (·.2)) scope s H C ex pins) tg is gg) (hc : ∀ s H C ex pins, DF M (cxB X (own ++ outs.map (·.2)) scope s H C ex pins) ifs ta) (he : ∀ s H C ex pins, DE M (cxB X (own ++ outs.map (·.2)) scope s H C ex pins) elt el)
  (hs : ∀ x, foldedSetIterable iter X.env x = pure x := by intro _; rfl) : DE M X (.ListComp elt [⟨tg, iter, ifs, 0⟩] scope pos) (aZ it gg ta el own.length (outs.map (·.1))) := fun hK hM =>
 peI (vW (wi := tI M X.N.length it) (g := tG M (own.length + outs.length) is gg) (tc := tT M (own.length + outs.length) ta) (te := tD M (own.length + outs.length) el) own B hcalm (hi hK hM)
  (fun s H C ex pins => by have q := hg s H C ex pins hK hM; rw [j9] at q; exact q) (fun s H C ex pins => by have q := hc s H C ex pins hK hM; rw [j9] at q; exact q) (fun s H C ex pins => by have q := he s H C ex pins hK hM; rw [j9] at q; exact q) hs) fun _ _ _ q => qv hk q
theorem f6 {fe : Fe} {i : Nat} {spos : Pos} (own : List Str) (w : ∀ σ H Q, tD M X.N.length fe σ H Q → tD M X.N.length (aZ it gg ta el own.length (outs.map (·.1))) σ H Q) (hN : X.N.Nodup) (hix : X.N[i]? = some x) (hx : Loc X.env.scope x) (B : Blk X sc scope outs) (hcalm : X.calm = true) (hk : ∀ j ∈ is, j < own.length) (hi : DI M X tg iter it)
  (hg : ∀ s H C ex pins, DG M (cxB X (own ++ outs.map (·.2)) scope s H C ex pins) tg is gg) (hc : ∀ s H C ex pins, DF M (cxB X (own ++ outs.map (·.2)) scope s H C ex pins) ifs ta) (he : ∀ s H C ex pins, DE M (cxB X (own ++ outs.map (·.2)) scope s H C ex pins) elt el)
  (hsw : swapsWith (.ListComp elt [⟨tg, iter, ifs, 0⟩] scope pos) (some (.Name x p)) spos.line X.env = pure true := by rfl)
  (hs : ∀ x, foldedSetIterable iter X.env x = pure x := by intro _; rfl) (hf : X.fn x = true ∨ X.env.scope.names.lookup x = some .local := by first | exact .inl rfl | exact .inr rfl | assumption) :
  DS M X (.Assign [.Name x p] (.ListComp elt [⟨tg, iter, ifs, 0⟩] scope pos) spos) (aN i fe) := fun hK hM =>
 psI (rR (wi := tI M X.N.length it) (g := tG M (own.length + outs.length) is gg) (tc := tT M (own.length + outs.length) ta) (te := tD M (own.length + outs.length) el) own hN hix hx B hcalm (hi hK hM)
  (fun s H C ex pins => by have q := hg s H C ex pins hK hM; rw [j9] at q; exact q) (fun s H C ex pins => by have q := hc s H C ex pins hK hM; rw [j9] at q; exact q) (fun s H C ex pins => by have q := he s H C ex pins hK hM; rw [j9] at q; exact q) hsw hs hf) fun D σ H q => by
  have q' := vD (oM hix) q;exact qv hk (w _ _ _ q')
end
end L3
namespace L3
open PySem L2 PySem.Spec PyProof.Rows
noncomputable def oI (i : Int) : R OD := .ok (.sh (.int i))
noncomputable def oB (b : Bool) : R OD := .ok (.sh (.bool b))
noncomputable def oD (d : PyData) : R OD := .ok (.sh d)
noncomputable def cR : PyData → PyData → R OD
 | .int i, .int j => oI (i + j)
 | .str x, .str y => if x.length + y.length ≤ BIG then oD (.str (x ++ y)) else .bad
 | .list xs, .list ys => if xs.length + ys.length ≤ BIG then .ok (.ol ((xs ++ ys).map OD.sh)) else .bad
 | _, _ => .bad
noncomputable def eU : PyData → PyData → R OD
 | .int i, .int j => oI (i - j)
 | _, _ => .bad
noncomputable def iK (i j : Int) : Bool := (decide (-(2 ^ 64) < i) && decide (i < 2 ^ 64)) || (decide (-(2 ^ 64) < j) && decide (j < 2 ^ 64))
noncomputable def fZ : PyData → PyData → R OD
 | .int i, .int j => if iK i j = true then oI (i * j) else .bad
 | .list xs, .int k => if (decide (-(2 ^ 63) ≤ k) && decide (k < 2 ^ 63) && decide (xs.length * k.toNat ≤ BIG)) = true then .ok (.ol ((List.replicate k.toNat xs).flatten.map OD.sh)) else .bad
 | _, _ => .bad
noncomputable def fF : PyData → PyData → R OD
 | .int i, .int j => if 0 < j then oI (i % j) else .bad
 | _, _ => .bad
noncomputable def fM : PyData → PyData → R OD
 | .int i, .int j => if 0 < j ∧ j < 1073741824 then oI (i / j) else .bad
 | _, _ => .bad
noncomputable def FC : PyData → PyData → R OD
 | .int i, .int j => if 0 ≤ j ∧ j ≤ 1000000 ∧ i.natAbs < 2 ^ 64 then oI (i ^ j.toNat) else .bad
 | _, _ => .bad
noncomputable def gz : PyData → R OD
 | .int i => oI (-i)
 | _ => .bad
noncomputable def gLt : PyData → PyData → R OD
 | .int i, .int j => oB (decide (i < j))
 | _, _ => .bad
noncomputable def gLe : PyData → PyData → R OD
 | .int i, .int j => oB (decide (i ≤ j))
 | _, _ => .bad
noncomputable def gGt : PyData → PyData → R OD
 | .int i, .int j => oB (decide (j < i))
 | _, _ => .bad
noncomputable def gGe : PyData → PyData → R OD
 | .int i, .int j => oB (decide (j ≤ i))
 | _, _ => .bad
noncomputable def ji (x y : PyData) : R Bool := if (SeqAt.shaped x && SeqAt.shaped y) = true then .ok (PyData.eqv x y) else .bad
noncomputable def eqD : PyData → PyData → R Bool
 | .int i, .int j => .ok (decide (i = j))
 | .str x, .str y => .ok (decide (x = y))
 | .bool x, .bool y => .ok (decide (x = y))
 | x, y => ji x y
noncomputable def gEq (x y : PyData) : R OD := (eqD x y).bind fun b => oB b
noncomputable def gNe (x y : PyData) : R OD := (eqD x y).bind fun b => oB (!b)
noncomputable def i8 (o : Option PyData) : R OD := match o with
 | some d => oD d
 | none => .bad
noncomputable def gIx : PyData → PyData → R OD
 | .list xs, .int i => i8 (atI xs i)
 | .tuple xs, .int i => i8 (atI xs i)
 | .str z, .int i => if z.length ≤ BIG then i8 ((atI z.cps.toList i).map fun c => .str ⟨#[c]⟩) else .bad
 | _, _ => .bad
noncomputable def cutD (xs : List PyData) (lo hi : Option Int) : List PyData := (xs.drop (HT.sIx xs.length 0 lo)).take (HT.sIx xs.length xs.length hi - HT.sIx xs.length 0 lo)
noncomputable def we (x : PyData) (lo hi : Option Int) : R OD := match x with
 | .list xs => .ok (.ol ((cutD xs lo hi).map OD.sh))
 | _ => .bad
noncomputable def c_ : List PyData → R OD
 | [.list xs] => oI xs.length
 | [.tuple xs] => oI xs.length
 | [.str x] => if x.length ≤ BIG then oI x.length else .bad
 | _ => .bad
noncomputable def rS : List PyData → R OD
 | [.int i, .int j] => oI (if j < i then j else i)
 | _ => .bad
noncomputable def D2 : List PyData → R OD
 | [.int i, .int j] => oI (if i < j then j else i)
 | _ => .bad
noncomputable def cZ : List PyData → Option (List Int)
 | [] => some []
 | .int i :: r => (cZ r).map (i :: ·)
 | _ :: _ => none
theorem fA : ∀ ns : List Int, cZ (ns.map PyData.int) = some ns
 | [] => rfl
 | n :: ns => by rw [List.map_cons, cZ, fA ns]; rfl
theorem h8 : ∀ {ds : List PyData} {ns : List Int}, cZ ds = some ns → ds = ns.map PyData.int
 | [], ns, h => by cases h; rfl
 | .int i :: r, ns, h => by
  rw [cZ] at h;obtain ⟨ms, h1, rfl⟩ := Option.map_eq_some_iff.mp h;rw [h8 h1];rfl
 | .none :: _, _, h => by cases h
 | .bool _ :: _, _, h => by cases h
 | .str _ :: _, _, h => by cases h
 | .list _ :: _, _, h => by cases h
 | .tuple _ :: _, _, h => by cases h
 | .dict _ :: _, _, h => by cases h
noncomputable def iA : Int → List Int → Int
 | m, [] => m
 | m, n :: ns => iA (if m < n then n else m) ns
noncomputable def nB : Int → List Int → Int
 | m, [] => m
 | m, n :: ns => nB (if n < m then n else m) ns
noncomputable def gD : List PyData → R OD
 | [.list ds] => match cZ ds with
  | some (n :: ns) => oI (iA n ns)
  | _ => .bad
 | _ => .bad
noncomputable def jV : List PyData → R OD
 | [.list ds] => match cZ ds with
  | some (n :: ns) => oI (nB n ns)
  | _ => .bad
 | _ => .bad
noncomputable def jX : List PyData → R OD
 | [.list ds] => .ok (.ol (ds.map OD.sh))
 | [.tuple ds] => .ok (.ol (ds.map OD.sh))
 | _ => .bad
noncomputable def qq : List PyData → R OD
 | [.int i] => oI i
 | [.bool b] => oI (if b then 1 else 0)
 | _ => .bad
noncomputable def nP (ds : List PyData) (y : PyData) : R OD := match y with
 | .int z => match cZ ds with
  | some ns => if z ∈ ns then oI (ns.idxOf z : Nat) else .bad
  | none => .bad
 | _ => .bad
noncomputable def ya : PyData → Option String
 | .int _ => some "int"
 | .bool _ => some "bool"
 | .str _ => some "str"
 | .list _ => some "list"
 | .tuple _ => some "tuple"
 | .none => some "NoneType"
 | .dict _ => none
noncomputable def wK (T : String) (d : PyData) : Option Bool := match ya d with
 | some U => if T = "int" ∨ T = "bool" ∨ T = "str" ∨ T = "list" ∨ T = "tuple" then some (decide (T = U ∨ (U = "bool" ∧ T = "int"))) else none
 | none => none
noncomputable def hG (T : String) (x : PyData) : R OD := match wK T x with
 | some b => oB b
 | none => .bad
section
variable {M : Mx} {X : Cx}
theorem okI {F H : Hp} {fp : List Addr} {Q : VK} {i : Int} (s : aK F H) (p : aw M H fp (OkE M F H Q) (oI i)) : Q (.int i) H := OkE.val s p (.int i)
theorem okB {F H : Hp} {fp : List Addr} {Q : VK} {i : Bool} (s : aK F H) (p : aw M H fp (OkE M F H Q) (oB i)) : Q (.bl i) H := OkE.val s p (.bl i)
noncomputable def yf (K : PySem.W.Frag) : R2 := fun x y H Q => ∃ l b xs zs, x = .ref l ∧ y = .ref b ∧ RdK K H l xs ∧ RdK K H b zs ∧ xs.length + zs.length ≤ sizeLine ∧ ∀ p, H p = none → Q (.ref p) (upd H p (.lst (xs ++ zs)))
theorem wy : OpR X (binaryOp .Add) (yf X.K) := by
 intro pins s σ H x y v u Q I rx ry h;obtain ⟨l, b, xs, zs, rfl, rfl, hH, hB, hz, q⟩ := h;cases rx;cases ry;obtain ⟨z, its, n, r, hl, e⟩ := hH.obj I;obtain ⟨z2, its2, n2, r2, hl2, e2⟩ := hB.obj I;refine PySem.P.add_list e e2 ?_ (by rw [List.size_toArray, List.size_toArray]; lia)
 have ea : its.toArray ++ its2.toArray = (its ++ its2).toArray := by simp
 rw [ea];exact ⟨.ref _, _, I.lnew (t' := s.toks) (r.append r2) (by rw [List.length_append]; lia), rfl, q _ I.fresh⟩
noncomputable def xW (K : PySem.W.Frag) : R2 := fun x y H Q => rI0 (fun i j => .int (i + j)) x y H Q ∨ (∃ i j, x = .str i ∧ y = .str j ∧ i.length + j.length ≤ sizeLine ∧ Q (.str (i ++ j)) H) ∨ yf K x y H Q
theorem aO : OpR X (binaryOp .Add) (xW X.K) := Bi.or (qb.or wy)
theorem a8 (hK : X.K = M.K) : Ok2 M (xW X.K) cR := by
 rw [hK];intro x y dx dy F H fp Q s rx ry p;unfold cR at p;split at p
 ·cases rx; cases ry
  exact .inl ⟨_, _, rfl, rfl, okI s p⟩
 ·cases rx; cases ry
  split at p
  ·rename_i hl
   exact .inr (.inl ⟨_, _, rfl, rfl, fK hl, OkE.val s p (.str _)⟩)
  ·exact p.elim
 ·split at p
  ·rename_i hl
   cases rx with
   | lst h1 h2 =>
    cases ry with
    | lst h3 h4 => exact .inr (.inr ⟨_, _, _, _, rfl, rfl, h1.same s, h3.same s, by rw [RepAll.len h2, RepAll.len h4]; exact fK hl, fun a ha => OkE.lstD s p (RepAll.app h2 h4) ha⟩)
  ·exact p.elim
 ·exact p.elim
theorem ic : Ok2 M (rI0 fun i j => .int (i - j)) eU := by
 intro x y dx dy F H fp Q s rx ry p;unfold eU at p;split at p
 ·cases rx; cases ry
  exact ⟨_, _, rfl, rfl, okI s p⟩
 ·exact p.elim
theorem wu {i j : Int} (h : iK i j = true) : ui i j := by
 unfold iK at h;rw [Bool.or_eq_true, Bool.and_eq_true, Bool.and_eq_true, decide_eq_true_eq, decide_eq_true_eq, decide_eq_true_eq, decide_eq_true_eq] at h;exact h
noncomputable def yd (K : PySem.W.Frag) : R2 := fun x y H Q => ∃ l k xs, x = .ref l ∧ y = .int k ∧ RdK K H l xs ∧ -(2 ^ 63) ≤ k ∧ k < 2 ^ 63 ∧ xs.length * k.toNat ≤ sizeLine ∧
 ∀ p, H p = none → Q (.ref p) (upd H p (.lst (List.replicate k.toNat xs).flatten))
theorem wG : OpR X (binaryOp .Mult) (yd X.K) := by
 intro pins s σ H x y v u Q I rx ry h;obtain ⟨l, k, xs, rfl, rfl, hH, h1, h2, hz, q⟩ := h;cases rx;obtain ⟨t, rfl⟩ := ry;obtain ⟨z, its, n, r, hl, e⟩ := hH.obj I;have hlen : its.toArray.size * k.toNat ≤ sizeLine := by rw [List.size_toArray, ← hl]; exact hz
 have hcap : ¬ its.toArray.size * k.toNat > (2 ^ 63 - 1) / 8 := by
  have : (sizeLine : Nat) ≤ (2 ^ 63 - 1) / 8 := by decide
  lia
 have hfit : ¬ (!Builtin.List.listFitsIndex k) = true := by
  rw [fitsIndex_both h1 h2];exact Bool.false_ne_true
 have hlong : ¬ Builtin.List.listTooLong (its.toArray.size * k.toNat) = true := by
  rw [pL hlen];exact Bool.false_ne_true
 have hnew : List.foldl (fun x1 x2 => x1 ++ x2) #[] (List.replicate (if its.toArray.isEmpty = true then 0 else k.toNat) its.toArray) = (List.replicate k.toNat its).flatten.toArray := by
  have f0 : ∀ m : Nat, List.foldl (fun x1 x2 => x1 ++ x2) #[] (List.replicate m its.toArray) = (List.replicate m its).flatten.toArray := fun m => by
   have := foldl_rep its m [];rw [List.nil_append] at this;exact this
  rw [f0];cases its with
  | nil => simp
  | cons a r' => rw [if_neg (by simp)]
 refine wpAny_binaryOp_repeat_ref (T := "list") (U := "int") (by decide) ⟨_, e, rfl⟩ (fun s' => typeIs_int s' k t) noFill_list_mul F.fills_int_mul F.slot_int_rmul repeat_list F.slot_int_index.lookup
  (call_meets F.slot_int_rmul (typeIs_int s k t) F.entry_int_rmul (F.args_int_rmul_2 _ _) (int___rmul___int_list k t l its.toArray n)
   ⟨e, rfl, ⟨_, e, rfl⟩, call_meets F.slot_list_mul ⟨_, e, rfl⟩ F.entry_list_mul (F.args_list_mul_2 _ _) (AutoListH.list___mul___list_int_3 l its.toArray n k t hfit hcap hlong) ⟨e, ?_⟩⟩)
 rw [hnew];exact ⟨.ref _, _, I.lnew (t' := s.toks) (r.rep k.toNat) (by rw [len_rep, Nat.mul_comm]; exact hz), rfl, q _ I.fresh⟩
noncomputable def yi (K : PySem.W.Frag) : R2 := fun x y H Q => rI ui (fun i j => .int (i * j)) x y H Q ∨ yd K x y H Q
theorem cY : OpR X (binaryOp .Mult) (yi X.K) := zt.or wG
theorem RepAll.rep {K : PySem.W.Frag} {F : Hp} {vs : List V} {ds : List PyData} (h : RepAll K F vs ds) : ∀ k : Nat, RepAll K F (List.replicate k vs).flatten (List.replicate k ds).flatten
 | 0 => .nil
 | k + 1 => by
  rw [List.replicate_succ, List.replicate_succ, List.flatten_cons, List.flatten_cons];exact RepAll.app h (RepAll.rep h k)
theorem ed (hK : X.K = M.K) : Ok2 M (yi X.K) fZ := by
 rw [hK];intro x y dx dy F H fp Q s rx ry p;unfold fZ at p;split at p
 ·cases rx; cases ry
  split at p
  ·rename_i hc
   exact .inl ⟨_, _, rfl, rfl, wu hc, okI s p⟩
  ·exact p.elim
 ·cases ry
  split at p
  ·rename_i hc
   rw [Bool.and_eq_true, Bool.and_eq_true, decide_eq_true_eq, decide_eq_true_eq, decide_eq_true_eq] at hc;cases rx with
   | lst h1 h2 => exact .inr ⟨_, _, _, rfl, rfl, h1.same s, hc.1.1, hc.1.2, by rw [RepAll.len h2]; exact fK hc.2, fun a ha => OkE.lstD s p (RepAll.rep h2 _) ha⟩
  ·exact p.elim
 ·exact p.elim
theorem di : Ok2 M (rI (fun _ j => 0 < j) fun i j => .int (i % j)) fF := by
 intro x y dx dy F H fp Q s rx ry p;unfold fF at p;split at p
 ·cases rx; cases ry
  split at p
  ·rename_i hc
   exact ⟨_, _, rfl, rfl, hc, okI s p⟩
  ·exact p.elim
 ·exact p.elim
theorem dP : Ok2 M (rI Ci fun i j => .int (i / j)) fM := by
 intro x y dx dy F H fp Q s rx ry p;unfold fM at p;split at p
 ·cases rx; cases ry
  split at p
  ·rename_i hc
   exact ⟨_, _, rfl, rfl, hc, okI s p⟩
  ·exact p.elim
 ·exact p.elim
theorem eW : Ok1 M (rU fun i => .int (-i)) gz := by
 intro x dx F H fp Q s rx p;unfold gz at p;split at p
 ·cases rx
  exact ⟨_, rfl, okI s p⟩
 ·exact p.elim
theorem oJ : Ok2 M (rI0 fun i j => .bl (decide (i < j))) gLt := by
 intro x y dx dy F H fp Q s rx ry p;unfold gLt at p;split at p
 ·cases rx; cases ry
  exact ⟨_, _, rfl, rfl, okB s p⟩
 ·exact p.elim
theorem lD : Ok2 M (rI0 fun i j => .bl (decide (j < i))) gGt := by
 intro x y dx dy F H fp Q s rx ry p;unfold gGt at p;split at p
 ·cases rx; cases ry
  exact ⟨_, _, rfl, rfl, okB s p⟩
 ·exact p.elim
theorem Ew : Ok2 M (rI0 fun i j => .bl (decide (j ≤ i))) gGe := by
 intro x y dx dy F H fp Q s rx ry p;unfold gGe at p;split at p
 ·cases rx; cases ry
  exact ⟨_, _, rfl, rfl, okB s p⟩
 ·exact p.elim
mutual
theorem Rep.to2 {K : PySem.W.Frag} {H : Hp} {v : V} {d : PyData} : Rep K H v d → d.canLay0 = true → L2.Rep K H v d
 | .non, _ => .non
 | .bl b, _ => .bl b
 | .int i, _ => .int i
 | .str x, _ => .str x
 | .lst h r, c => .lst h.sq (RepAll.to2 r (by rw [PyData.canLay0] at c; exact c))
 | .tup h r, c => .tup (SqT.of h) (RepAll.to2 r (by rw [PyData.canLay0] at c; exact c))
 | .dct _ _ _, c => by
  unfold dD at c;rw [PyData.canLay0] at c;cases c
theorem RepAll.to2 {K : PySem.W.Frag} {H : Hp} {vs : List V} {ds : List PyData} : RepAll K H vs ds → PyData.canLayAll0 ds = true → L2.RepAll K H vs ds
 | .nil, _ => .nil
 | .cons h r, c => by
  rw [PyData.canLayAll0, Bool.and_eq_true] at c;exact .cons (Rep.to2 h c.1) (RepAll.to2 r c.2)
end
noncomputable def C_ (K : PySem.W.Frag) : R2 := fun x y H Q => rEq x y H Q ∨ BW K x y H Q
noncomputable def ES (K : PySem.W.Frag) : R2 := fun x y H Q => rNe x y H Q ∨ Bx K x y H Q
theorem fG (hu : X.A.units + 64 < cLine) : OpR X (compareOp .Eq) (C_ X.K) := D9.or (zd hu)
theorem iD (hu : X.A.units + 64 < cLine) : OpR X (compareOp .NotEq) (ES X.K) := EF.or (Bh hu)
theorem uF {K : PySem.W.Frag} {F H : Hp} {fp : List Addr} {x y : V} {dx dy : PyData} {P : Bool → Prop} (rx : Rep K F x dx) (ry : Rep K F y dy) (p : aw M H fp P (eqD dx dy)) :
  (zN x y = true ∧ P (decide (x = y))) ∨ (SeqAt.shaped dx = true ∧ SeqAt.shaped dy = true ∧ P (PyData.eqv dx dy)) := by
 unfold eqD at p;split at p
 ·cases rx; cases ry
  refine .inl ⟨rfl, ?_⟩;have e : ∀ i j : Int, decide (V.int i = V.int j) = decide (i = j) := fun i j => by
   by_cases h : i = j
   ·rw [h]; simp
   ·rw [decide_eq_false h, decide_eq_false fun z => h (V.int.inj z)]
  rw [e];exact p
 ·cases rx; cases ry
  refine .inl ⟨rfl, ?_⟩;have e : ∀ i j : Str, decide (V.str i = V.str j) = decide (i = j) := fun i j => by
   by_cases h : i = j
   ·rw [h]; simp
   ·rw [decide_eq_false h, decide_eq_false fun z => h (V.str.inj z)]
  rw [e];exact p
 ·cases rx; cases ry
  refine .inl ⟨rfl, ?_⟩;have e : ∀ i j : Bool, decide (V.bl i = V.bl j) = decide (i = j) := fun i j => by
   by_cases h : i = j
   ·rw [h]; simp
   ·rw [decide_eq_false h, decide_eq_false fun z => h (V.bl.inj z)]
  rw [e];exact p
 ·unfold ji at p
  split at p
  ·rename_i h
   rw [Bool.and_eq_true] at h;exact .inr ⟨h.1, h.2, p⟩
  ·exact p.elim
theorem iw (hK : X.K = M.K) : Ok2 M (C_ X.K) gEq := by
 rw [hK];intro x y dx dy F H fp Q s rx ry p;rcases uF rx ry (aw.bind p) with ⟨h, q⟩ | ⟨h1, h2, q⟩
 ·exact .inl ⟨h, okB s q⟩
 ·exact .inr ⟨dx, dy, (rx.same s).to2 (SeqAt.canLay_of_shaped h1), (ry.same s).to2 (SeqAt.canLay_of_shaped h2), h1, h2, okB s q⟩
theorem kj (hK : X.K = M.K) : Ok2 M (ES X.K) gNe := by
 rw [hK];intro x y dx dy F H fp Q s rx ry p;rcases uF rx ry (aw.bind p) with ⟨h, q⟩ | ⟨h1, h2, q⟩
 ·exact .inl ⟨h, okB s q⟩
 ·exact .inr ⟨dx, dy, (rx.same s).to2 (SeqAt.canLay_of_shaped h1), (ry.same s).to2 (SeqAt.canLay_of_shaped h2), h1, h2, okB s q⟩
theorem rJ {K : PySem.W.Frag} {F : Hp} {vs : List V} {ds : List PyData} {i : Int} {d : PyData} (h : RepAll K F vs ds) (e : atI ds i = some d) : ∃ v, atI vs i = some v ∧ Rep K F v d := by
 unfold atI at e ⊢;rw [RepAll.len h];cases q : ixN ds.length i with
 | none => rw [q] at e; cases e
 | some j =>
  rw [q] at e;obtain ⟨v, h1, h2⟩ := RepAll.get h e;exact ⟨v, h1, h2⟩
theorem aC (hK : X.K = M.K) : Ok2 M (rIx X.K) gIx := by
 rw [hK];intro x y dx dy F H fp Q s rx ry p;unfold gIx at p;split at p
 ·cases ry
  unfold i8 at p;split at p
  ·rename_i d hd
   cases rx with
   | lst h1 h2 =>
    obtain ⟨v, e, r⟩ := rJ h2 hd;exact .inl ⟨_, _, _, v, rfl, rfl, (h1.same s).sq, e, OkE.val s p r⟩
  ·exact p.elim
 ·cases ry
  unfold i8 at p;split at p
  ·rename_i d hd
   cases rx with
   | tup h1 h2 =>
    obtain ⟨v, e, r⟩ := rJ h2 hd;exact .inr (.inl ⟨_, _, _, v, rfl, rfl, SqT.of (s _ _ h1), e, OkE.val s p r⟩)
  ·exact p.elim
 ·cases ry
  cases rx;split at p
  ·rename_i hl
   unfold i8 at p;split at p
   ·rename_i d hd
    obtain ⟨c, hc, rfl⟩ := Option.map_eq_some_iff.mp hd;exact .inr (.inr ⟨_, _, c, rfl, rfl, fK hl, hc, OkE.val s p (.str _)⟩)
   ·exact p.elim
  ·exact p.elim
 ·exact p.elim
theorem zR (hK : X.K = M.K) : OkS M (Eg X.K) we := by
 rw [hK];intro x lo hi dx F H fp Q s rx p;unfold we at p;split at p
 ·cases rx with
  | @lst a vs ds h1 h2 =>
   refine ⟨a, vs, rfl, (h1.same s).sq, fun q hq => ?_⟩
   refine OkE.lstD s p ?_ hq;unfold t7 cutD;rw [RepAll.len h2];exact RepAll.take _ (RepAll.drop _ h2)
 ·exact p.elim
noncomputable def yn (K : PySem.W.Frag) : List V → Hp → VK → Prop := fun xs H Q => (∃ p ys, xs = [.ref p] ∧ (SqL K H p ys ∨ SqT K H p ys) ∧ Q (.int ys.length) H) ∨ (∃ z, xs = [.str z] ∧ z.length ≤ sizeLine ∧ Q (.int z.length) H)
theorem aI : eh X (.builtin "len") (yn X.K) := ny.or mM
theorem bE (hK : X.K = M.K) : OkC M (yn X.K) c_ := by
 rw [hK];intro x dx F H fp Q s rx p;unfold c_ at p;split at p
 ·cases rx with
  | cons h r =>
   cases r;cases h with
   | lst h1 h2 => exact .inl ⟨_, _, rfl, .inl (h1.same s).sq, by rw [RepAll.len h2]; exact okI s p⟩
 ·cases rx with
  | cons h r =>
   cases r;cases h with
   | tup h1 h2 => exact .inl ⟨_, _, rfl, .inr (SqT.of (s _ _ h1)), by rw [RepAll.len h2]; exact okI s p⟩
 ·cases rx with
  | cons h r =>
   cases r;cases h;split at p
   ·rename_i hl
    exact .inr ⟨_, rfl, fK hl, okI s p⟩
   ·exact p.elim
 ·exact p.elim
theorem vp {K : PySem.W.Frag} {F : Hp} {x : List V} {i j : Int} (r : RepAll K F x [.int i, .int j]) : x = [.int i, .int j] := by
 cases r with
 | cons h r =>
  cases h;cases r with
  | cons h r =>
   cases h;cases r;rfl
theorem xT : OkC M (fun xs H Q => ∃ i j, xs = [.int i, .int j] ∧ Q (.int (if j < i then j else i)) H) rS := by
 intro x dx F H fp Q s rx p;unfold rS at p;split at p
 ·exact ⟨_, _, vp rx, okI s p⟩
 ·exact p.elim
theorem f7 : ∀ (ns : List Int) (m : Int), iA m ns ∈ m :: ns ∧ ∀ z ∈ m :: ns, z ≤ iA m ns
 | [], m => ⟨List.mem_cons_self, fun z h => by simp at h; rw [h]; exact Int.le_refl _⟩
 | n :: ns, m => by
  obtain ⟨h1, h2⟩ := f7 ns (if m < n then n else m)
  rw [iA];have hm : m ≤ (if m < n then n else m) := by split <;> lia
  have hn : n ≤ (if m < n then n else m) := by split <;> lia
  have ht := h2 _ List.mem_cons_self;refine ⟨?_, fun z hz => ?_⟩
  ·rcases List.mem_cons.mp h1 with h | h
   ·rw [h]
    split <;> simp
   ·simp [h]
  ·rcases List.mem_cons.mp hz with rfl | hz
   ·lia
   ·rcases List.mem_cons.mp hz with rfl | hz
    ·lia
    ·exact h2 z (List.mem_cons_of_mem _ hz)
theorem iU : ∀ (ns : List Int) (m : Int), nB m ns ∈ m :: ns ∧ ∀ z ∈ m :: ns, nB m ns ≤ z
 | [], m => ⟨List.mem_cons_self, fun z h => by simp at h; rw [h]; exact Int.le_refl _⟩
 | n :: ns, m => by
  obtain ⟨h1, h2⟩ := iU ns (if n < m then n else m)
  rw [nB];have hm : (if n < m then n else m) ≤ m := by split <;> lia
  have hn : (if n < m then n else m) ≤ n := by split <;> lia
  have ht := h2 _ List.mem_cons_self;refine ⟨?_, fun z hz => ?_⟩
  ·rcases List.mem_cons.mp h1 with h | h
   ·rw [h]
    split <;> simp
   ·simp [h]
  ·rcases List.mem_cons.mp hz with rfl | hz
   ·lia
   ·rcases List.mem_cons.mp hz with rfl | hz
    ·lia
    ·exact h2 z (List.mem_cons_of_mem _ hz)
theorem o9 {K : PySem.W.Frag} {F : Hp} {x : List V} {ds : List PyData} {ns : List Int} (s : aK F H') (r : RepAll K F x [.list ds]) (e : cZ ds = some ns) : ∃ a, x = [.ref a] ∧ SqL K H' a (ns.map V.int) := by
 cases r with
 | cons h r =>
  cases r;cases h with
  | lst h1 h2 =>
   rw [h8 e] at h2;rw [RepAll.toInts h2] at h1;exact ⟨_, rfl, (h1.same s).sq⟩
theorem h_ (hK : X.K = M.K) : OkC M (yx X.K) gD := by
 rw [hK];intro x dx F H fp Q s rx p;unfold gD at p;split at p
 ·split at p
  ·rename_i n ns e
   obtain ⟨a, rfl, h⟩ := o9 s rx e;refine ⟨a, n :: ns, rfl, h, by simp, fun m h1 h2 => ?_⟩
   obtain ⟨k1, k2⟩ := f7 ns n;have e : iA n ns = m := Int.le_antisymm (h2 _ k1) (k2 _ h1);rw [← e];exact okI s p
  ·exact p.elim
 ·exact p.elim
theorem nI (hK : X.K = M.K) : OkC M (yg X.K) jV := by
 rw [hK];intro x dx F H fp Q s rx p;unfold jV at p;split at p
 ·split at p
  ·rename_i n ns e
   obtain ⟨a, rfl, h⟩ := o9 s rx e;refine ⟨a, n :: ns, rfl, h, by simp, fun m h1 h2 => ?_⟩
   obtain ⟨k1, k2⟩ := iU ns n;have e : nB n ns = m := Int.le_antisymm (k2 _ h1) (h2 _ k1);rw [← e];exact okI s p
  ·exact p.elim
 ·exact p.elim
theorem u0 (hK : X.K = M.K) : OkC M (En X.K) jX := by
 rw [hK];intro x dx F H fp Q s rx p;unfold jX at p;split at p
 ·cases rx with
  | cons h r =>
   cases r;cases h with
   | lst h1 h2 => exact ⟨_, _, rfl, .inl (h1.same s).sq, fun l hl => OkE.lstD s p h2 hl⟩
 ·cases rx with
  | cons h r =>
   cases r;cases h with
   | tup h1 h2 => exact ⟨_, _, rfl, .inr (SqT.of (s _ _ h1)), fun l hl => OkE.lstD s p h2 hl⟩
 ·exact p.elim
theorem nJ : OkC M (fun xs H Q => (∃ i, xs = [.int i] ∧ Q (.int i) H) ∨ ∃ k, xs = [.bl k] ∧ Q (.int (if k then 1 else 0)) H) qq := by
 intro x dx F H fp Q s rx p;unfold qq at p;split at p
 ·cases rx with
  | cons h r =>
   cases r;cases h;exact .inl ⟨_, rfl, okI s p⟩
 ·cases rx with
  | cons h r =>
   cases r;cases h;exact .inr ⟨_, rfl, okI s p⟩
 ·exact p.elim
noncomputable def vP (T : String) (a : Fe) : Fe := fun ρ => (a ρ).bind fun x => hG T x.er
noncomputable def x4 (K : PySem.W.Frag) (T : String) : List V → Hp → VK → Prop := fun xs H Q => ∃ x d b, xs = [x, .ty T] ∧ Rep K H x d ∧ wK T d = some b ∧ Q (.bl b) H
theorem Bt {K : PySem.W.Frag} {T U : String} (hU : U = "int" ∨ U = "bool" ∨ U = "str" ∨ U = "list" ∨ U = "tuple" ∨ U = "NoneType") (hT : T = "int" ∨ T = "bool" ∨ T = "str" ∨ T = "list" ∨ T = "tuple") : PySem.W.kitOne K (.type U) (.type T) = some (decide (T = U ∨ (U = "bool" ∧ T = "int"))) := by
 rcases hU with rfl | rfl | rfl | rfl | rfl | rfl <;> rcases hT with rfl | rfl | rfl | rfl | rfl <;> rfl
theorem sH {K : PySem.W.Frag} {T U : String} {d : PyData} {b : Bool} (hk : ya d = some U) (hU : U = "int" ∨ U = "bool" ∨ U = "str" ∨ U = "list" ∨ U = "tuple" ∨ U = "NoneType") (e : wK T d = some b) : PySem.W.kitOne K (.type U) (.type T) = some b := by
 unfold wK at e;rw [hk] at e;have e' : (if T = "int" ∨ T = "bool" ∨ T = "str" ∨ T = "list" ∨ T = "tuple" then some (decide (T = U ∨ (U = "bool" ∧ T = "int"))) else none) = some b := e
 by_cases hT : T = "int" ∨ T = "bool" ∨ T = "str" ∨ T = "list" ∨ T = "tuple"
 ·rw [if_pos hT] at e'
  rw [← e'];exact Bt hU hT
 ·rw [if_neg hT] at e'
  cases e'
end
end L3
namespace L3
open PySem L2 PySem.Spec PyProof.Rows
section
variable {M : Mx} {X : Cx} {e a b c : Expr} {es : List Expr} {pos : Pos} {fa fb : Fe} {ta tb : Ft} {al : Fa}
theorem sD (T : String) : eh X (.builtin "isinstance") (x4 X.K T) := by
 intro pins s σ H xs us Q I r h;obtain ⟨x, d, b, rfl, rd, e, q⟩ := h;obtain ⟨u, v, rfl, ru, rv⟩ := Vals.two r;cases rv;have fin : ∀ tk, EP X pins σ Q (.bool b) { s with toks := tk } := fun tk => ⟨.bl b, H, I.tok tk, rfl, q⟩
 cases rd with
 | non =>
  cases (show u = Value.none from ru)
  exact PySem.W.kia_one PySem.W.kitx_none I.kIn True.intro (sH rfl (by simp) e) (fun z => nomatch z) fin
 | bl y =>
  cases (show u = Value.bool y from ru)
  exact PySem.W.kia_one PySem.W.kitx_bool I.kIn True.intro (sH rfl (by simp) e) (fun z => nomatch z) fin
 | int i =>
  obtain ⟨t, hq⟩ := (show ∃ t, u = Value.int i t from ru)
  cases hq;exact PySem.W.kia_one PySem.W.kitx_int I.kIn True.intro (sH rfl (by simp) e) (fun z => nomatch z) fin
 | str y =>
  obtain ⟨t, hq⟩ := (show ∃ t, u = Value.str y t from ru)
  cases hq;exact PySem.W.kia_one PySem.W.kitx_str I.kIn True.intro (sH rfl (by simp) e) (fun z => nomatch z) fin
 | @lst a xs ds h1 h2 =>
  cases (show u = Value.ref a from ru)
  obtain ⟨_, its, n, _, _, he⟩ := h1.obj I;exact PySem.W.kia_one PySem.W.kitx_list I.kIn ⟨_, he, rfl⟩ (sH (d := .list ds) rfl (by simp) e) (fun z => nomatch z) fin
 | @tup a xs ds h1 h2 =>
  cases (show u = Value.ref a from ru)
  obtain ⟨_, _, _, p⟩ := (show gy X.prog X.w H s.heap a (.tup xs) from I.hok a _ h1)
  obtain ⟨o, k1, k2, _⟩ := p;exact PySem.W.kia_one PySem.W.kitx_tuple I.kIn ⟨o, k1, k2⟩ (sH (d := .tuple ds) rfl (by simp) e) (fun z => nomatch z) fin
 | dct _ _ _ =>
  have e' : (none : Option Bool) = some b := e;cases e'
theorem BE {n : Nat} {σ : St} {H : Hp} {Q : VK} {T : String} (h : tD M n (vP T fa) σ H Q) : tCB (x4 M.K T) (jI (tD M n fa) (jI (tC (.ty T)) pN)) σ H Q := by
 obtain ⟨F, ρ, fp, S, p⟩ := h;refine ⟨F, ρ, fp, S, (aw.bind p).mono fun x px v F1 H1 fx e1 r1 w1 => ?_⟩
 obtain ⟨G1, d1, k1⟩ := r1.frz e1 w1;unfold hG at px;split at px
 ·rename_i b hb
  exact ⟨v, x.er, b, rfl, k1.same d1.fh, hb, OkE.val d1.fh (OkE.pre d1 px) (.bl b)⟩
 ·exact px.elim
theorem uY {T : String} {x : Str} {p p2 : Pos} (hg : Gl X "isinstance") (hm : X.mg "isinstance" = none) (hgT : Gl X x) (hmT : X.mg x = none) (hT : bootBuiltins x = some (.type T)) (h : DE M X e fa) (hnT : x ≠ "__name__" := by decide) (hdT : (x == ("__debug__" : Str)) = false := by decide)
  (hs1 : starEach [e, .Name x p2] X.env = (false, eval e X.env) :: starEach [.Name x p2] X.env := by rfl) (hs2 : starEach [.Name x p2] X.env = (false, eval (.Name x p2) X.env) :: starEach [] X.env := by rfl) (hpl : (backTo pos (starEach [.Name x p2] X.env)).any (·.1) = false := by rfl) :
  DE M X (.Call (.Name "isinstance" p) [e, .Name x p2] [] pos) (vP T fa) := fun hK hM => by
 have q := oH (p := p) (pos := pos) (sD T) hg hm j_ (gP (h hK hM) (gP (xA (v := V.ty T) (pos := p2) hgT hmT hT rfl hnT hdT) jr hs2) hs1) (by decide) (by decide) hs1 hpl
 rw [hK] at q;exact peI q fun _ _ _ z => BE z
noncomputable def xg (a b : Fe) : Fe := fun ρ => (a ρ).bind fun x => match x.er with
 | .list ds => (b ρ).bind fun y => nP ds y.er
 | _ => .bad
theorem tK {ap cp : Pos} (ha : DE M X a fa) (h : DE M X e fb)
  (hbase : attributeBase a "index" X.env (eval a X.env) = eval a X.env := by rfl)
  (hfew : ((backTo cp (starEach [e] X.env)).all (fun x => !x.1) && (backToKw cp (keywordEach [] X.env)).all (fun x => x.1.isSome) && decide (([e] : List Expr).length + ([] : List Keyword).length + (if ([] : List Keyword).isEmpty then 0 else 1) < 30)) = true := by rfl)
  (hline : (ap.endLine == cp.line) = true := by rfl) (hs : starEach [e] X.env = (false, eval e X.env) :: starEach [] X.env := by rfl) (hplain : (backTo cp (starEach [] X.env)).any (·.1) = false := by rfl) :
  DE M X (.Call (.Attribute a "index" ap) [e] [] cp) (xg fa fb) := fun hK hM => by
 have q := oq (apos := ap) (cpos := cp) PySem.F.plainAttrs_list PySem.F.slot_list_index PySem.F.type_list_index tq (ha hK hM) (gP (h hK hM) jr hs) hbase hfew hline hs hplain;refine peI q fun σ H Q h => ?_
 obtain ⟨F, ρ, fp, S, p⟩ := h;refine ⟨F, ρ, fp, S, (aw.bind p).mono fun x px v F1 H1 fx e1 r1 w1 => ?_⟩
 obtain ⟨G1, d1, k1⟩ := r1.frz e1 w1;generalize x.er = d at px k1
 cases k1 with
 | @lst a' vs ds h1 h2 =>
  have px' : aw M H fp (OkE M F H Q) ((fb ρ).bind fun y => nP ds y.er) := px
  refine ⟨.inl ⟨rfl, vs, by rw [hK]; exact (h1.same d1.fh).sq⟩, G1, ρ, fp, S.ext d1, ((aw.bind px').ext d1).mono fun y py w F2 H2 fy e2 r2 w2 => ?_⟩
  obtain ⟨G2, d2, k2⟩ := r2.frz e2 w2;unfold nP at py;generalize y.er = d' at py k2
  cases k2 with
  | int z =>
   have py' : aw M H fp (OkE M F H Q) (match cZ ds with | some ns => if z ∈ ns then oI (ns.idxOf z : Nat) else .bad | none => .bad) := py
   split at py'
   ·rename_i ns hn
    split at py'
    ·rename_i hz
     rw [h8 hn] at h2;rw [RepAll.toInts h2] at h1;exact ⟨a', ns, z, rfl, rfl, by rw [hK]; exact ((h1.same d2.ff).same d2.fh).sq, hz, OkE.val d2.fh (OkE.pre (d1.trans d2) py') (.int _)⟩
    ·exact py'.elim
   ·exact py'.elim
  | non => exact py.elim
  | bl _ => exact py.elim
  | str _ => exact py.elim
  | dct _ _ _ => exact py.elim
  | lst _ _ => exact py.elim
  | tup _ _ => exact py.elim
 | non => exact px.elim
 | bl _ => exact px.elim
 | int _ => exact px.elim
 | str _ => exact px.elim
 | dct _ _ _ => exact px.elim
 | tup _ _ => exact px.elim
end
theorem l4 {K : PySem.W.Frag} {F H : Hp} (m : Nat) : ∀ {vs : List V} {ds : List PyData}, RepAll K F vs ds → OwnS K F H (vs.map some ++ List.replicate m none) ((ds.map fun d => some (OD.sh d)) ++ List.replicate m none) []
 | _, _, .nil => by
  show OwnS K F H (List.replicate m none) (List.replicate m none) []
  have := OwnS.nones (K := K) (F := F) (H := H) m .nil;rw [List.append_nil, List.append_nil] at this;exact this
 | _, _, .cons h r => .yes (f := []) (.sh h) (l4 m r)
theorem fn3 {P : Program} {w : World} {K : PySem.W.Frag} {mg : Str → Option Value} {base : Heap} {x qual : Str} {st : Stmt} {f : Addr} {fd : FuncData} {N ps : List Str} {k : Nat} {body : Fs} (F : Fun K x qual st f fd) (S : FnScope N ps (ag st))
  (h : ∀ (cdv : Value) (A : Around) (outer : List PySem.Env) (s : Shared) (H : Hp) (E : XK), Room k (A.deeper (envOfC qual (ag st) s.heap.objs.size f cdv)) → DSs ⟨K, mg, E⟩ (oG CX0 P w K mg base N qual (ag st) f cdv A outer s H E).nox (aF st) body) :
  FnOk P w K mg base CX0 (k + 1) f fd ps (sp3 K mg (cQ ps.length N.length body)) := by
 have hpl : ps.length ≤ N.length := by
  have := congrArg List.length S.pre;rw [List.length_take] at this
  lia
 have hlen : ∀ vs H Q E, sp3 K mg (cQ ps.length N.length body) vs H Q E → vs.length = ps.length := by
  rintro vs H Q E ⟨F, ds, sm, ra, p⟩;by_cases hl : ds.length = ps.length
  ·rw [RepAll.len ra]
   exact hl
  ·unfold cQ at p
   rw [if_neg hl] at p;exact p.elim
 refine F.ok S hlen fun cdv A outer s H vs Q E hr hs => ?_
 have hvl := hlen _ _ _ _ hs;obtain ⟨F0, ds, sm, ra, p⟩ := hs;have hdl : ds.length = ps.length := by rw [← RepAll.len ra]; exact hvl
 unfold cQ at p;rw [if_pos hdl] at p;refine ⟨_, h cdv A outer s H E hr rfl rfl, F0, nj N.length ds, [], ⟨sm, ?_, List.nodup_nil, (fun _ m => by cases m), ?_⟩, (aw.bind p).mono fun o po => ?_⟩
 ·unfold L2.start nj
  rw [hvl, hdl];exact l4 _ ra
 ·unfold nj
  show _ = N.length
  rw [List.length_append, List.length_map, List.length_replicate, hdl]
  lia
 ·cases o with
  | nx ρ => exact fun σ' F' H' fp' S' st => po .non F' H' [] ⟨st.ff, fun a o q => st.keep a o q (by simp), S'.same, fun a q z => st.nw a q (by simp) z⟩ (Res.sh .non) fun _ m => by cases m
  | rt y => exact fun v F' H' fx sm' r st => po v F' H' fx ⟨st.ff, fun a o q => st.keep a o q (by simp), sm', fun a q z => st.nw a q (by simp) z⟩ r fun a m => (st.new a m).elim (fun z => by cases z) id
  | bk ρ => exact po.elim
  | ct ρ => exact po.elim
theorem sZ {P : Program} {w : World} {K : PySem.W.Frag} {mg mb : Str → Option Value} {CX : CXT} {k : Nat} {fa a : Addr} {fd : FuncData} {x : Str} {sp : Sp} {s₁ : Shared} {vs : List Value} {ns : List Int}
  (KX : K.In s₁.heap) (hns : s₁.heap.Ns mainGlobals mg) (hb : s₁.heap.Ns builtinsNs mb) (hbb : ∀ x : Str, x ≠ "__name__" → mb x = bootBuiltins x) (hlim : s₁.heap.NoLimit) (hg : s₁.gens = #[])
  (ha : s₁.heap.get? a = some { cls := .type "list", data := .seq vs.toArray }) (hi : IntsAre vs ns) (hl : ns.length ≤ sizeLine) (hr : Room k callerA)
  (F : ∀ base : Heap, K.In base → base.Ns mainGlobals mg → FnOk P w K mg base CX k fa fd [x] sp) (hbind : ∀ (s : Shared) (u : Value), BindsTo s fd ⟨[u], []⟩ [(x, u)])
  (hsp : ∀ H : Hp, r9 H → RdK K H a (ns.map V.int) → sp [.ref a] H (fun v _ => v = .bl true) fun _ _ _ => False)
  (hCX : ∀ H e s', CX [] H s₁ (fun _ _ _ => False) e s' → False) :
  codeAny (model P w) callerA (.call (.ref fa) ⟨[.ref a], []⟩) (fun r s' => r = .ok (.ret (.bool true)) ∧ OldK s₁.heap s'.heap ∧ s'.os = s₁.os ∧ AllBare s'.gens) s₁ := by
 have rv := gZ hi;have lenV := hi.length;have core : ∀ H : Hp, r9 H → RdK K H a (ns.map V.int) → HOk P w H s₁.heap → (∀ b, H b ≠ none → b = a) → (H a ≠ none → K.lookup a = none) →
   codeAny (model P w) callerA (.call (.ref fa) ⟨[.ref a], []⟩) (fun r s' => r = .ok (.ret (.bool true)) ∧ OldK s₁.heap s'.heap ∧ s'.os = s₁.os ∧ AllBare s'.gens) s₁ := by
  intro H hO hS hok hA hK;have base_of : ∀ {b : Addr} {o : Obj}, s₁.heap.get? b = some o → H b = none → (jB s₁.heap H).get? b = some o := fun e n => oO e n
  have noA : ∀ {b : Addr} {o : Obj} {es : Array DictEntry} {ep : Nat}, s₁.heap.get? b = some o → o.data = .dict es ep → H b = none := fun {b o es ep} e d => by
   cases q : H b with
   | none => rfl
   | some u =>
    have e' : b = a := hA b (by rw [q]; simp)
    subst e';rw [ha] at e; cases e;have d' : Data.seq vs.toArray _ = Data.dict es ep := d;cases d'
  have nsK : ∀ {b : Addr} {m : Str → Option Value}, s₁.heap.Ns b m → (jB s₁.heap H).Ns b m := fun {b m} ⟨o, es, ep, e, d, r⟩ => ⟨o, es, ep, base_of e (noA e d), d, r⟩
  have hKb : K.In (jB s₁.heap H) := fun b o e => base_of (KX b o e) (by
   cases q : H b with
   | none => rfl
   | some u =>
    have e' : b = a := hA b (by rw [q]; simp)
    subst e';rw [hK (by rw [q]; simp)] at e; cases e)
  have hM : Mod K mg (jB s₁.heap H) := ⟨hKb, nsK hns, ⟨mb, nsK hb, hbb⟩, let ⟨mc, h1, h2⟩ := hlim; ⟨mc, nsK h1, h2⟩⟩;have e0 : Env0 P w K mg (jB s₁.heap H) callerA [] s₁ H := ⟨rfl, hM, fun b o e => rF e, Nat.le_of_eq (mm _ _), trivial, fun b hb => absurd (show b ∈ ([] : List Addr) from hb) (by simp), hok, .of_eq hg⟩
  refine codeAny_mono ((F _ hKb (nsK hns)).run callerA [] s₁ H ⟨[.ref a], []⟩ [.ref a] [.ref a] _ _ hr e0 (hbind s₁ (.ref a)) (.cons rfl .nil) (hsp H hO hS)) fun r s' h => ?_
  cases r with
  | error e => exact (hCX H e s' h).elim
  | ok fl =>
   cases fl with
   | next => exact False.elim h
   | brk => exact False.elim h
   | cont => exact False.elim h
   | ret u =>
    obtain ⟨v, H', os, bare, un, hok', r', q⟩ := h;have q' : v = .bl true := q;subst q';obtain rfl : u = Value.bool true := r';refine ⟨rfl, OldK.of_keep fun b o e => ?_, os, bare⟩
    cases q : H b with
    | none => exact un.keep b o e q (by intro z; exact absurd (show b ∈ ([] : List Addr) from z) (by simp)) (by simp)
    | some u =>
     rcases hO b with z | ⟨ob, xs, z⟩
     ·rw [q] at z; cases z
     ·have z2 := un.frzs b ob _ z
      obtain ⟨e1, _⟩ := hok b _ z;obtain ⟨e2, _⟩ := hok' b _ z2;rw [e] at e1; cases e1;exact e2
 cases hk : K.lookup a with
 | some o =>
  have e := KX a o hk;rw [ha] at e;cases e;refine core (fun _ => none) (fun _ => .inl rfl) (.inr ⟨vs.toArray, _, hk, by rw [List.size_toArray, lenV]; exact hl, by simpa using rv⟩) (fun b u z => by have z' : (none : Option HO) = some u := z; cases z') (fun b z => absurd rfl z) fun z => absurd rfl z
 | none =>
  refine core (fun b => if b = a then some (.frz { cls := .type "list", data := .seq vs.toArray } (.lst (ns.map V.int))) else none) (fun b => ?_) (.inl (.inr ⟨{ cls := .type "list", data := .seq vs.toArray }, if_pos rfl⟩)) (fun b u z => ?_) (fun b z => ?_) fun _ => hk
  ·by_cases hb : b = a
   ·exact .inr ⟨_, _, if_pos hb⟩
   ·exact .inl (if_neg hb)
  ·by_cases hb : b = a
   ·have z' := (if_pos hb).symm.trans z
    cases z';subst hb;exact ⟨ha, by rw [List.length_map]; exact hl, vs, _, rv, ha⟩
   ·have z' := (if_neg hb).symm.trans z
    cases z'
  ·by_cases hb : b = a
   ·exact hb
   ·exact absurd (if_neg hb) z
theorem tW {l : PySem.W.OpenLaw} {n k : Nat} {q : Program} {loose : List Str} {XP : (Str → Option Value) → Heap → Prop} {YP : World → Heap → Prop} {d : DefRec} {K : Params → PySem.W.Frag} {CX : World → CXT} {sp : World → Sp} {x : Str}
  (hn : l.most = some n) (hn2 : n ≤ sizeLine) (hdf : d.params.defaults = []) (hr : Room k callerA)
  (hY : ∀ (w : World) (h : Heap), YP w h → (K w.params).In h)
  (F : ∀ (w : World) (mg : Str → Option Value) (fa : Addr) (h : Heap), (K w.params).In h → h.Ns mainGlobals mg → mg d.name = some (.ref fa) →
   ∃ fd : FuncData, (∀ (s : Shared) (u : Value), BindsTo s fd ⟨[u], []⟩ [(x, u)]) ∧
    ∀ base : Heap, (K w.params).In base → base.Ns mainGlobals mg → FnOk l.prog w (K w.params) mg base (CX w) k fa fd [x] (sp w))
  (hsp : ∀ (w : World) (H : Hp) (a : Addr) (ns : List Int), ns.length ≤ n → r9 H → RdK (K w.params) H a (ns.map V.int) → sp w [.ref a] H (fun v _ => v = .bl true) fun _ _ _ => False)
  (hCX : ∀ (w : World) (H : Hp) (s : Shared) (e : Value) (s' : Shared), CX w [] H s (fun _ _ _ => False) e s' → False) :
  PySem.W.WalkO q loose XP YP l.row.toRowW d [] (fun f vs => PySem.call f vs) := by
 refine Att.km hn hdf fun w s₀ s₁ mg mb fa o pm cd doc a vs ns G Y ho hd hcd hmg hobj hints hlen hg => ?_
 have KX := hY w _ Y;obtain ⟨fd, hb, hF⟩ := F w mg fa _ KX G.T.g hmg;exact sZ KX G.T.g G.T.b G.T.builtins G.T.nolimit hg hobj hints (Nat.le_trans hlen hn2) hr hF hb (fun H hO hS => hsp w H a ns hlen hO hS) fun H e s' => hCX w H s₁ e s'
theorem Dz {l : PySem.W.OpenLaw} {q : Program} {loose : List Str} {XP : (Str → Option Value) → Heap → Prop} {YP : World → Heap → Prop} {d : DefRec} {K : Params → PySem.W.Frag} {x : Str} {k : Nat} {fn : Fn} (hn : l.most = some 63) (hdf : d.params.defaults = []) (hr : Room k callerA)
  (hY : ∀ (w : World) (h : Heap), YP w h → (K w.params).In h) (hl : ∀ ns : List Int, ns.length ≤ 63 → fn [.list (ns.map PyData.int)] = .ok (.sh (.bool true)))
  (F : ∀ (w : World) (mg : Str → Option Value) (fa : Addr) (h : Heap), (K w.params).In h → h.Ns mainGlobals mg → mg d.name = some (.ref fa) →
   ∃ fd : FuncData, (∀ (s : Shared) (u : Value), BindsTo s fd ⟨[u], []⟩ [(x, u)]) ∧ ∀ base : Heap, (K w.params).In base → base.Ns mainGlobals mg → FnOk l.prog w (K w.params) mg base CX0 k fa fd [x] (sp3 (K w.params) mg fn)) :
  PySem.W.WalkO q loose XP YP l.row.toRowW d [] (fun f vs => PySem.call f vs) := by
 refine tW (n := 63) (k := k) (x := x) (CX := fun _ => CX0) (sp := fun w vs H Q E => ∃ F ds x, aK F H ∧ RepAll (K w.params) F vs ds ∧ fn ds = .ok x ∧ OkE ⟨K w.params, fun _ => none, E⟩ F H Q x) hn (by decide) hdf hr hY (fun w mg fa h a b c => ?_) (fun w H a ns hlen _ hS => ?_) fun _ _ _ _ _ z => z
 ·obtain ⟨fd, h1, h2⟩ := F w mg fa h a b c
  refine ⟨fd, h1, fun base kb nb => (h2 base kb nb).imp ?_⟩
  rintro vs H Q E ⟨F0, ds, y, sm, ra, e, p⟩;refine ⟨F0, ds, sm, ra, ?_⟩;rw [e];exact fun v F' H' fx => p v F' H' fx
 ·refine ⟨H, [.list (ns.map PyData.int)], _, aK.refl _, .cons (.lst hS (RepAll.ofInts ns)) .nil, hl ns hlen, ?_⟩
  intro v F' H' fx e r w;cases r.own with
  | sh q =>
   cases q;rfl
end L3
namespace L3
open PySem L2 PySem.Spec PyProof.Rows
theorem dM {P : Program} {w : World} {K : PySem.W.Frag} {mg : Str → Option Value} {base : Heap} {x qual : Str} {st : Stmt} {f : Addr} {fd : FuncData} {N ps : List Str} {k np n : Nat} {body : Fs} {fn : Fn} (hf : fn = cQ np n body) (hp : ps.length = np) (hn : N.length = n) (F : Fun K x qual st f fd) (S : FnScope N ps (ag st))
  (h : ∀ (cdv : Value) (A : Around) (outer : List PySem.Env) (s : Shared) (H : Hp) (E : XK), Room k (A.deeper (envOfC qual (ag st) s.heap.objs.size f cdv)) → DSs ⟨K, mg, E⟩ (oG CX0 P w K mg base N qual (ag st) f cdv A outer s H E).nox (aF st) body) :
  FnOk P w K mg base CX0 (k + 1) f fd ps (sp3 K mg fn) := by
 subst hf hp hn;exact fn3 F S h
theorem aR {X : Cx} {E : XK} : Passes CX0 X E := fun _ _ _ _ _ _ _ h => h.elim
noncomputable def CG : PyData → PyData → R OD
 | .int i, .int j => oI (i + j)
 | _, _ => .bad
section
variable {M : Mx} {X : Cx}
end
end L3
namespace L3
open PySem L2
theorem yL (i : Int) : hG "int" (.int i) = oB true := rfl
theorem Ae (i : Int) : hG "bool" (.int i) = oB false := rfl
theorem AL (i : Int) : hG "str" (.int i) = oB false := rfl
theorem zj (i : Int) : hG "list" (.int i) = oB false := rfl
theorem yS (i : Int) : hG "tuple" (.int i) = oB false := rfl
theorem zz (i : Bool) : hG "int" (.bool i) = oB true := rfl
theorem yJ (i : Bool) : hG "bool" (.bool i) = oB true := rfl
theorem AK (i : Str) : hG "int" (.str i) = oB false := rfl
theorem AU (i : Str) : hG "bool" (.str i) = oB false := rfl
theorem Aq (i : Str) : hG "str" (.str i) = oB true := rfl
theorem za (i : List PyData) : hG "list" (.list i) = oB true := rfl
theorem yO (i : List PyData) : hG "tuple" (.list i) = oB false := rfl
theorem zx (i : List PyData) : hG "int" (.list i) = oB false := rfl
theorem Ar (i : List PyData) : hG "tuple" (.tuple i) = oB true := rfl
theorem Ab (i : List PyData) : hG "list" (.tuple i) = oB false := rfl
theorem yK (i : List PyData) : hG "int" (.tuple i) = oB false := rfl
theorem Fu : (0 ≤ BIG) = True := by decide
theorem FX : (1 ≤ BIG) = True := by decide
theorem FQ : (2 ≤ BIG) = True := by decide
theorem Fz : (3 ≤ BIG) = True := by decide
theorem F9 : (4 ≤ BIG) = True := by decide
theorem Fx : (0 < BIG) = True := by decide
theorem pH {g : Fg} {b : Fs} (I : Nat → Env → Prop) : ∀ (ds : List PyData) (k : Nat) (ρ : Env), I k ρ → (∀ (i : Nat) (d : PyData) (ρ : Env), ds[i]? = some d → I (k + i) ρ → ∃ ρ1 ρ2, g (.sh d) ρ = .ok ρ1 ∧ (b ρ1 = .ok (.nx ρ2) ∨ b ρ1 = .ok (.ct ρ2)) ∧ I (k + i + 1) ρ2) →
  ∃ ρ', bI g b ds ρ = .ok (.nx ρ') ∧ I (k + ds.length) ρ'
 | [], k, ρ, h, _ => ⟨ρ, rfl, h⟩
 | d :: ds, k, ρ, h, st => by
  obtain ⟨ρ1, ρ2, h1, h2, h3⟩ := st 0 d ρ rfl h;obtain ⟨ρ', e, h4⟩ := pH I ds (k + 1) ρ2 h3 fun i d' ρ hd hi => by
   have := st (i + 1) d' ρ (by simpa using hd) (by rw [show k + (i + 1) = k + 1 + i by lia]; exact hi)
   rw [show k + (i + 1) + 1 = k + 1 + i + 1 by lia] at this
   exact this
  refine ⟨ρ', ?_, by rw [List.length_cons, show k + (ds.length + 1) = k + 1 + ds.length by lia]; exact h4⟩
  rw [bI, h1, fO];rcases h2 with h2 | h2
  ·rw [h2, fO]
   exact e
  ·rw [h2, fO]
   exact e
theorem sN {g : Fg} {b : Fs} {ds : List PyData} {ρ : Env} (S : Nat → Env → Prop) (h0 : S 0 ρ) (st : ∀ (i : Nat) (d : PyData) (ρ : Env), ds[i]? = some d → S i ρ → ∃ ρ1 ρ2, g (.sh d) ρ = .ok ρ1 ∧ (b ρ1 = .ok (.nx ρ2) ∨ b ρ1 = .ok (.ct ρ2)) ∧ S (i + 1) ρ2) :
  ∃ ρ', bI g b ds ρ = .ok (.nx ρ') ∧ S ds.length ρ' := by
 obtain ⟨ρ', e, h⟩ := pH S ds 0 ρ h0 fun i d ρ hd hi => by
  rw [Nat.zero_add] at hi ⊢;exact st i d ρ hd hi
 exact ⟨ρ', e, by rw [Nat.zero_add] at h; exact h⟩
theorem eQ {lo : Int} {n i : Nat} {d : PyData} (h : (iM lo n)[i]? = some d) : i < n ∧ d = .int (lo + i) := by
 unfold iM at h;rw [List.getElem?_map] at h;obtain ⟨j, hj, rfl⟩ := Option.map_eq_some_iff.mp h;obtain ⟨h1, h2⟩ := List.getElem?_eq_some_iff.mp hj;have h3 : i = j := by simpa using h2
 subst h3;exact ⟨by simpa using h1, rfl⟩
theorem eI (lo : Int) (n : Nat) : (iM lo n).length = n := by unfold iM; simp
end L3
namespace L3
open PySem L2
noncomputable def Am : Option (Option OD) → R OD
 | some (some (.sh d)) => .ok (.sh d)
 | _ => .bad
noncomputable def opK (g : PyData → PyData → R OD) : R OD → R OD → R OD
 | .ok x, .ok y => g x.er y.er
 | .ok _, .ex c => .ex c
 | .ok _, .bad => .bad
 | .ex c, _ => .ex c
 | .bad, _ => .bad
noncomputable def unK {α β : Type} (g : α → R β) : R α → R β
 | .ok x => g x
 | .ex c => .ex c
 | .bad => .bad
noncomputable def AH (r : R Bool) (b : Ft) (ρ : Env) : R Bool := match r with
 | .ok true => b ρ
 | .ok false => .ok false
 | .ex c => .ex c
 | .bad => .bad
noncomputable def orK (r : R Bool) (b : Ft) (ρ : Env) : R Bool := match r with
 | .ok true => .ok true
 | .ok false => b ρ
 | .ex c => .ex c
 | .bad => .bad
noncomputable def wN (r : R Bool) (b : Fe) (ρ : Env) : R OD := match r with
 | .ok true => b ρ
 | .ok false => .ok (.sh (.bool false))
 | .ex c => .ex c
 | .bad => .bad
noncomputable def orV (r : R Bool) (b : Fe) (ρ : Env) : R OD := match r with
 | .ok true => .ok (.sh (.bool true))
 | .ok false => b ρ
 | .ex c => .ex c
 | .bad => .bad
noncomputable def ifV (r : R Bool) (a b : Fe) (ρ : Env) : R OD := match r with
 | .ok true => a ρ
 | .ok false => b ρ
 | .ex c => .ex c
 | .bad => .bad
noncomputable def ifK (r : R Bool) (a b : Fs) (ρ : Env) : R Out := match r with
 | .ok true => a ρ
 | .ok false => b ρ
 | .ex c => .ex c
 | .bad => .bad
noncomputable def ym : R OD → R (List OD) → R (List OD)
 | .ok x, .ok xs => .ok (x :: xs)
 | .ok _, .ex c => .ex c
 | .ok _, .bad => .bad
 | .ex c, _ => .ex c
 | .bad, _ => .bad
noncomputable def tY (r : R Out) (b : Fs) : R Out := match r with
 | .ok (.nx ρ) => b ρ
 | .ok o => .ok o
 | .ex c => .ex c
 | .bad => .bad
noncomputable def BL (r : R OD) (g : Fg) (ρ : Env) : R Out := match r with
 | .ok x => unK (fun ρ' => .ok (.nx ρ')) (g x ρ)
 | .ex c => .ex c
 | .bad => .bad
noncomputable def EJ (r : R (List PyData)) (g : Fg) (b : Fs) (ρ : Env) : R Out := match r with
 | .ok ds => bI g b ds ρ
 | .ex c => .ex c
 | .bad => .bad
noncomputable def xZ (r : R (List PyData)) (g : Fg) (t : Ft) (el : Fe) (ρ0 : Env) : R OD := match r with
 | .ok ds => unK (fun xs => .ok (.ol xs)) (a7 g t el ρ0 ds [])
 | .ex c => .ex c
 | .bad => .bad
noncomputable def slK (g : PyData → Option Int → Option Int → R OD) (a : R OD) (l h : R (Option Int)) : R OD := match a, l, h with
 | .ok x, .ok i, .ok j => g x.er i j
 | .ok _, .ok _, .ex c => .ex c
 | .ok _, .ok _, .bad => .bad
 | .ok _, .ex c, _ => .ex c
 | .ok _, .bad, _ => .bad
 | .ex c, _, _ => .ex c
 | .bad, _, _ => .bad
noncomputable def CA (a : R OD) (b : Fe) (ρ : Env) : R OD := match a with
 | .ok x => match x.er with
  | .list ds => unK (fun y => nP ds y.er) (b ρ)
  | _ => .bad
 | .ex c => .ex c
 | .bad => .bad
noncomputable def Ax (o : Option (Option OD)) (a : R OD) (i : Nat) (ρ : Env) : R Out := match o with
 | some (some (.ol xs)) => unK (fun y => if xs.length < BIG then .ok (.nx (ρ.set i (some (.ol (xs ++ [y]))))) else .bad) a
 | _ => .bad
noncomputable def vh : Option (Option OD) → R Out
 | some (some x) => .ok (.rt x)
 | _ => .bad
noncomputable def y_ (o : Option (Option OD)) (i : Nat) (ρ : Env) : Env := match o with
 | some (some x) => ρ.set i (some (.sh x.er))
 | _ => ρ
noncomputable def zu : R Out → R OD
 | .ok (.rt x) => .ok x
 | .ok (.nx _) => .ok (.sh .none)
 | .ok (.bk _) => .bad
 | .ok (.ct _) => .bad
 | .ex c => .ex c
 | .bad => .bad
noncomputable def AV (o : Option (Option OD)) (g : PyData → PyData → R OD) (a : R OD) (i : Nat) (ρ : Env) : R Out := match o with
 | some (some (.sh d)) => unK (fun y => unK (fun z => .ok (.nx (ρ.set i (some z)))) (g d y.er)) a
 | _ => .bad
section
variable {ρ : Env} {a b : Fe} {s t : Ft} {p q : Fs}
theorem v_var (i : Nat) : ae i ρ = Am ρ[i]? := by
 unfold ae Am;rfl
theorem v_c (d : PyData) : eC d ρ = .ok (.sh d) := rfl
theorem Fh (g : PyData → PyData → R OD) : eOp g a b ρ = opK g (a ρ) (b ρ) := by
 unfold eOp;cases a ρ <;> cases b ρ <;> rfl
theorem cP {α β : Type} (r : R α) (g : α → R β) : r.bind g = unK g r := by cases r <;> rfl
theorem FF (g : PyData → R OD) : eUn g a ρ = unK (fun x => g x.er) (a ρ) := cP _ _
theorem AB : aT a ρ = unK (fun x => truth x.er) (a ρ) := cP _ _
theorem Bg : yy s t ρ = AH (s ρ) t ρ := by
 unfold yy;cases s ρ with
 | ok c => cases c <;> rfl
 | ex c => rfl
 | bad => rfl
theorem Eu : lT s t ρ = orK (s ρ) t ρ := by
 unfold lT;cases s ρ with
 | ok c => cases c <;> rfl
 | ex c => rfl
 | bad => rfl
theorem zP : k5 s ρ = unK (fun c => .ok (!c)) (s ρ) := cP _ _
noncomputable def tru (r : R OD) : R Bool := unK (fun x => truth x.er) r
theorem v_and : CK a b ρ = wN (tru (a ρ)) b ρ := by
 unfold CK tru;cases a ρ with
 | ok x =>
  show (truth x.er).bind _ = wN (truth x.er) b ρ
  cases truth x.er with
  | ok c => cases c <;> rfl
  | ex c => rfl
  | bad => rfl
 | ex c => rfl
 | bad => rfl
theorem v_or : eOr a b ρ = orV (tru (a ρ)) b ρ := by
 unfold eOr tru;cases a ρ with
 | ok x =>
  show (truth x.er).bind _ = orV (truth x.er) b ρ
  cases truth x.er with
  | ok c => cases c <;> rfl
  | ex c => rfl
  | bad => rfl
 | ex c => rfl
 | bad => rfl
theorem v_not : BM a ρ = unK (fun c => .ok (.sh (.bool (!c)))) (tru (a ρ)) := by
 unfold BM tru;cases a ρ with
 | ok x =>
  show (truth x.er).bind _ = unK _ (truth x.er)
  exact cP _ _
 | ex c => rfl
 | bad => rfl
theorem E_ : eIf s a b ρ = ifV (s ρ) a b ρ := by
 unfold eIf;cases s ρ with
 | ok c => cases c <;> rfl
 | ex c => rfl
 | bad => rfl
theorem t8 : aq ρ = .ok [] := rfl
theorem kE {r : Fa} : af a r ρ = ym (a ρ) (r ρ) := by
 unfold af;cases a ρ <;> cases r ρ <;> rfl
theorem BP {r : Fa} : gG r ρ = unK (fun xs => if xs.length ≤ BIG then .ok (mkT xs) else .bad) (r ρ) := cP _ _
theorem CQ {r : Fa} : eE r ρ = unK (fun xs => if xs.length ≤ BIG then .ok (.ol xs) else .bad) (r ρ) := cP _ _
theorem Ba {f : Fn} {r : Fa} : aJ f r ρ = unK (fun xs => f (xs.map OD.er)) (r ρ) := cP _ _
theorem v_b {f : List PyData → R OD} {r : Fa} : eB f r ρ = unK (fun xs => f (xs.map OD.er)) (r ρ) := cP _ _
theorem FG : eSh a ρ = unK (fun x => .ok (.sh x.er)) (a ρ) := cP _ _
theorem v_bor : si a ρ = unK (fun x => if flat x.er = true then .ok (.sh x.er) else .bad) (a (erase ρ)) := cP _ _
theorem Au : vK s ρ = s (erase ρ) := rfl
noncomputable def q_ : OD → R OD
 | .ol xs => if xs.all (fun y => flat y.er) = true then .ok (.ol (xs.map fun y => .sh y.er)) else .bad
 | _ => .bad
theorem Bp : kJ a ρ = unK q_ (a (erase ρ)) := by
 unfold kJ;cases a (erase ρ) with
 | ok x => cases x <;> rfl
 | ex c => rfl
 | bad => rfl
theorem EO : erase [] = [] := rfl
theorem EA (x : OD) : erase (some x :: ρ) = some (.sh x.er) :: erase ρ := rfl
theorem CL : erase (none :: ρ) = none :: erase ρ := rfl
theorem xC : oE ρ = .ok none := rfl
noncomputable def uP : PyData → R (Option Int)
 | .int i => .ok (some i)
 | _ => .bad
theorem w6 : lW a ρ = unK (fun x => uP x.er) (a ρ) := by
 unfold lW;rw [cP];cases a ρ with
 | ok x =>
  show (match x.er with | .int i => R.ok (some i) | _ => .bad) = uP x.er
  cases x.er <;> rfl
 | ex c => rfl
 | bad => rfl
theorem Ff {g : PyData → Option Int → Option Int → R OD} {l h : Fo} : eSl g a l h ρ = slK g (a ρ) (l ρ) (h ρ) := by
 unfold eSl;cases a ρ <;> cases l ρ <;> cases h ρ <;> rfl
noncomputable def lstK : PyData → R (List PyData)
 | .list ds => .ok ds
 | _ => .bad
noncomputable def tupK : PyData → R (List PyData)
 | .tuple ds => .ok ds
 | _ => .bad
noncomputable def r1K : PyData → R (List PyData)
 | .int j => if ay j = true then .ok (iM 0 j.toNat) else .bad
 | _ => .bad
noncomputable def enK : PyData → R (List PyData)
 | .list ds => .ok (fE ds)
 | _ => .bad
theorem zT : c9 a ρ = unK (fun x => lstK x.er) (a ρ) := by
 unfold c9;rw [cP];cases a ρ with
 | ok x =>
  show (match x.er with | .list ds => R.ok ds | _ => .bad) = lstK x.er
  cases x.er <;> rfl
 | ex c => rfl
 | bad => rfl
theorem Aw : iTp a ρ = unK (fun x => tupK x.er) (a ρ) := by
 unfold iTp;rw [cP];cases a ρ with
 | ok x =>
  show (match x.er with | .tuple ds => R.ok ds | _ => .bad) = tupK x.er
  cases x.er <;> rfl
 | ex c => rfl
 | bad => rfl
theorem EZ : iR1 a ρ = unK (fun x => r1K x.er) (a ρ) := by
 unfold iR1;rw [cP];cases a ρ with
 | ok x =>
  show (match x.er with | .int j => if ay j = true then R.ok (iM 0 j.toNat) else .bad | _ => .bad) = r1K x.er
  cases x.er <;> rfl
 | ex c => rfl
 | bad => rfl
theorem Fj : iEn a ρ = unK (fun x => enK x.er) (a ρ) := by
 unfold iEn;rw [cP];cases a ρ with
 | ok x =>
  show (match x.er with | .list ds => R.ok (fE ds) | _ => .bad) = enK x.er
  cases x.er <;> rfl
 | ex c => rfl
 | bad => rfl
noncomputable def zO (g : PyData → PyData → R (List PyData)) : R OD → R OD → R (List PyData)
 | .ok x, .ok y => g x.er y.er
 | .ok _, .ex c => .ex c
 | .ok _, .bad => .bad
 | .ex c, _ => .ex c
 | .bad, _ => .bad
theorem FD : iR2 a b ρ = zO r2F (a ρ) (b ρ) := by
 unfold iR2;cases a ρ <;> cases b ρ <;> rfl
theorem Fm : iZp a b ρ = zO wJ (a ρ) (b ρ) := by
 unfold iZp;cases a ρ <;> cases b ρ <;> rfl
theorem ED (i : Nat) (x : OD) : gNm i x ρ = .ok (ρ.set i (some x)) := rfl
theorem BQ : gf [] ρ = .ok ρ := rfl
theorem DP {g : Fg} {r : Fgs} {x : OD} {xs : List OD} : bA g r (x :: xs) ρ = unK (fun ρ' => r xs ρ') (g x ρ) := cP _ _
theorem CD {n : Nat} {r : Fgs} {ds : List PyData} : gTp n r (.sh (.tuple ds)) ρ = if ds.length = n then r (ds.map OD.sh) ρ else .bad := rfl
theorem DU {n : Nat} {r : Fgs} {xs : List OD} : gTp n r (.ot xs) ρ = if xs.length = n then r xs ρ else .bad := rfl
theorem Bb {it : Fi} {g : Fg} {k : Nat} {outs : List Nat} : aZ it g t a k outs ρ = xZ (it ρ) g t a (sl3 k outs ρ) := by
 unfold aZ;cases it ρ with
 | ok ds => exact cP _ _
 | ex c => rfl
 | bad => rfl
theorem CM {k : Nat} {outs : List Nat} : sl3 k outs ρ = List.replicate k none ++ outs.map fun i => j4 ρ[i]? := rfl
theorem EY : sNx ρ = .ok (.nx ρ) := rfl
theorem F8 : sBk ρ = .ok (.bk ρ) := rfl
theorem Fq : sCt ρ = .ok (.ct ρ) := rfl
theorem Cw : aE p q ρ = tY (p ρ) q := by
 unfold aE;cases p ρ with
 | ok o => cases o <;> rfl
 | ex c => rfl
 | bad => rfl
theorem Dd {g : Fg} : xB a g ρ = BL (a ρ) g ρ := by
 unfold xB;cases a ρ with
 | ok x => exact cP _ _
 | ex c => rfl
 | bad => rfl
theorem EK (i : Nat) : aN i a ρ = unK (fun x => .ok (.nx (ρ.set i (some x)))) (a ρ) := cP _ _
theorem z_ : rA a ρ = unK (fun _ => .ok (.nx ρ)) (a ρ) := cP _ _
theorem Cd : d6 a ρ = unK (fun x => .ok (.rt x)) (a ρ) := cP _ _
theorem Az : BF ρ = .ok (.rt (.sh .none)) := rfl
theorem Ad (i : Nat) : gC i ρ = vh ρ[i]? := by
 unfold gC vh;rfl
theorem Ck : sIf s p q ρ = ifK (s ρ) p q ρ := by
 unfold sIf;cases s ρ with
 | ok c => cases c <;> rfl
 | ex c => rfl
 | bad => rfl
theorem Ep (i : Nat) : lx i p ρ = p (uj i ρ) := rfl
theorem yN (i : Nat) : uj i ρ = y_ ρ[i]? i ρ := by
 unfold uj y_;rfl
theorem Bw (i : Nat) {g : PyData → PyData → R OD} : qj i g a ρ = AV ρ[i]? g (a ρ) i ρ := by
 unfold qj AV;generalize ρ[i]? = o
 cases o with
 | none => rfl
 | some o =>
  cases o with
  | none => rfl
  | some x =>
   cases x with
   | sh d =>
    show ((a ρ).bind fun y => (g d y.er).bind fun z => R.ok (Out.nx (ρ.set i (some z)))) = _
    rw [cP];show unK _ (a ρ) = unK _ (a ρ)
    first
     | done
     | (congr 1; funext y; exact cP _ _)
     | (congr 1)
   | ol xs => rfl
   | ot xs => rfl
   | od xs => rfl
theorem BD (i : Nat) : gU i a ρ = Ax ρ[i]? (a ρ) i ρ := by
 unfold gU Ax;generalize ρ[i]? = o
 cases o with
 | none => rfl
 | some o =>
  cases o with
  | none => rfl
  | some x =>
   cases x with
   | sh d => rfl
   | ol xs => exact cP _ _
   | ot xs => rfl
   | od xs => rfl
theorem Dg {it : Fi} {g : Fg} : e6 it g p ρ = EJ (it ρ) g p ρ := by
 unfold e6;cases it ρ <;> rfl
theorem Dl (T : String) : vP T a ρ = unK (fun x => hG T x.er) (a ρ) := cP _ _
theorem B_ : xg a b ρ = CA (a ρ) b ρ := by
 unfold xg;cases a ρ with
 | ok x =>
  show (match x.er with | .list ds => (b ρ).bind fun y => nP ds y.er | _ => .bad) = (match x.er with | .list ds => unK (fun y => nP ds y.er) (b ρ) | _ => .bad)
  cases x.er with
  | list ds => exact cP _ _
  | _ => rfl
 | ex c => rfl
 | bad => rfl
theorem EM {np n : Nat} {ds : List PyData} : cQ np n p ds = if ds.length = np then zu (p (nj n ds)) else .bad := by
 unfold cQ;congr 1
 cases p (nj n ds) with
 | ok o => cases o <;> rfl
 | ex c => rfl
 | bad => rfl
theorem BK (d : PyData) : Am (some (some (.sh d))) = .ok (.sh d) := rfl
theorem EV {g : PyData → PyData → R OD} {x y : OD} : opK g (.ok x) (.ok y) = g x.er y.er := rfl
theorem D8 {g : PyData → PyData → R (List PyData)} {x y : OD} : zO g (.ok x) (.ok y) = g x.er y.er := rfl
theorem F6 {α β : Type} {g : α → R β} {x : α} : unK g (.ok x) = g x := rfl
theorem Cn {α β : Type} {g : α → R β} {c : Str} : unK g (.ex c) = .ex c := rfl
theorem y9 : AH (.ok true) t ρ = t ρ := rfl
theorem Ai : AH (.ok false) t ρ = .ok false := rfl
theorem D4 : orK (.ok true) t ρ = .ok true := rfl
theorem BN : orK (.ok false) t ρ = t ρ := rfl
theorem w_ : wN (.ok true) a ρ = a ρ := rfl
theorem wj : wN (.ok false) a ρ = .ok (.sh (.bool false)) := rfl
theorem yG : orV (.ok true) a ρ = .ok (.sh (.bool true)) := rfl
theorem yC : orV (.ok false) a ρ = a ρ := rfl
theorem As : ifV (.ok true) a b ρ = a ρ := rfl
theorem zU : ifV (.ok false) a b ρ = b ρ := rfl
theorem BU : ifK (.ok true) p q ρ = p ρ := rfl
theorem BC : ifK (.ok false) p q ρ = q ρ := rfl
theorem zX {x : OD} {xs : List OD} : ym (.ok x) (.ok xs) = .ok (x :: xs) := rfl
theorem BG : tY (.ok (.nx ρ)) p = p ρ := rfl
theorem zy {x : OD} : tY (.ok (.rt x)) p = .ok (.rt x) := rfl
theorem Ak : tY (.ok (.ct ρ)) p = .ok (.ct ρ) := rfl
theorem zG : tY (.ok (.bk ρ)) p = .ok (.bk ρ) := rfl
theorem BH {x : OD} {g : Fg} : BL (.ok x) g ρ = unK (fun ρ' => .ok (.nx ρ')) (g x ρ) := rfl
theorem BR {ds : List PyData} {g : Fg} : EJ (.ok ds) g p ρ = bI g p ds ρ := rfl
theorem Bu {ds : List PyData} {g : Fg} : xZ (.ok ds) g t a ρ = unK (fun xs => .ok (.ol xs)) (a7 g t a ρ ds []) := rfl
theorem Fp {g : PyData → Option Int → Option Int → R OD} {x : OD} {i j : Option Int} : slK g (.ok x) (.ok i) (.ok j) = g x.er i j := rfl
theorem D_ {xs : List OD} {y : OD} {i : Nat} : Ax (some (some (.ol xs))) (.ok y) i ρ = if xs.length < BIG then .ok (.nx (ρ.set i (some (.ol (xs ++ [y]))))) else .bad := rfl
theorem Bs {x : OD} : vh (some (some x)) = .ok (.rt x) := rfl
theorem BO {x : OD} {i : Nat} : y_ (some (some x)) i ρ = ρ.set i (some (.sh x.er)) := rfl
theorem zL {x : OD} : zu (.ok (.rt x)) = .ok x := rfl
theorem y7 : zu (.ok (.nx ρ)) = .ok (.sh .none) := rfl
theorem Cs (x : OD) : tru (.ok x) = truth x.er := rfl
theorem wA (c : Bool) : truth (.bool c) = .ok c := rfl
theorem CT {ds : List PyData} : CA (.ok (.sh (.list ds))) b ρ = unK (fun y => nP ds y.er) (b ρ) := rfl
theorem Dy {d : PyData} {g : PyData → PyData → R OD} {y : OD} {i : Nat} : AV (some (some (.sh d))) g (.ok y) i ρ = unK (fun z => .ok (.nx (ρ.set i (some z)))) (g d y.er) := rfl
theorem DV (ds : List PyData) : lstK (.list ds) = .ok ds := rfl
theorem D7 (ds : List PyData) : tupK (.tuple ds) = .ok ds := rfl
theorem FI (ds : List PyData) : enK (.list ds) = .ok (fE ds) := rfl
theorem FV (j : Int) : r1K (.int j) = if ay j = true then .ok (iM 0 j.toNat) else .bad := rfl
theorem F_ (i j : Int) : r2F (.int i) (.int j) = if (ay i && ay j) = true then .ok (iM i (j - i).toNat) else .bad := rfl
theorem B0 (ds es : List PyData) : wJ (.list ds) (.list es) = .ok (ku ds es) := rfl
theorem yR (i : Int) : uP (.int i) = .ok (some i) := rfl
theorem yP (n : Nat) (ds : List PyData) : nj n ds = (ds.map fun d => some (OD.sh d)) ++ List.replicate (n - ds.length) none := rfl
theorem Et (d : PyData) : j4 (some (some (.sh d))) = some (.sh d) := rfl
theorem D6 : j4 (some none) = none := rfl
theorem AZ (xs : List OD) : j4 (some (some (.ol xs))) = none := rfl
theorem Ex (d : PyData) : mkT [.sh d] = .sh (.tuple [d]) := rfl
theorem Ec (d e : PyData) : mkT [.sh d, .sh e] = .sh (.tuple [d, e]) := rfl
theorem Dq (d e f : PyData) : mkT [.sh d, .sh e, .sh f] = .sh (.tuple [d, e, f]) := rfl
theorem Cu (d e f g : PyData) : mkT [.sh d, .sh e, .sh f, .sh g] = .sh (.tuple [d, e, f, g]) := rfl
theorem Di (i j : Int) : cR (.int i) (.int j) = .ok (.sh (.int (i + j))) := rfl
theorem Cv (i j : Int) : eU (.int i) (.int j) = .ok (.sh (.int (i - j))) := rfl
theorem Ez (i j : Int) : fZ (.int i) (.int j) = if iK i j = true then .ok (.sh (.int (i * j))) else .bad := rfl
theorem DN (i j : Int) : fF (.int i) (.int j) = if 0 < j then .ok (.sh (.int (i % j))) else .bad := rfl
theorem CN (i j : Int) : fM (.int i) (.int j) = if 0 < j ∧ j < 1073741824 then .ok (.sh (.int (i / j))) else .bad := rfl
theorem Cr (i j : Int) : FC (.int i) (.int j) = if 0 ≤ j ∧ j ≤ 1000000 ∧ i.natAbs < 2 ^ 64 then .ok (.sh (.int (i ^ j.toNat))) else .bad := rfl
theorem Cp (i : Int) : gz (.int i) = .ok (.sh (.int (-i))) := rfl
theorem FJ (i j : Int) : gLt (.int i) (.int j) = .ok (.sh (.bool (decide (i < j)))) := rfl
theorem FN (i j : Int) : gLe (.int i) (.int j) = .ok (.sh (.bool (decide (i ≤ j)))) := rfl
theorem EX (i j : Int) : gGt (.int i) (.int j) = .ok (.sh (.bool (decide (j < i)))) := rfl
theorem FH (i j : Int) : gGe (.int i) (.int j) = .ok (.sh (.bool (decide (j ≤ i)))) := rfl
theorem Fd (i j : Int) : gEq (.int i) (.int j) = .ok (.sh (.bool (decide (i = j)))) := rfl
theorem FO (i j : Int) : gNe (.int i) (.int j) = .ok (.sh (.bool (!decide (i = j)))) := rfl
theorem AM (i j : Int) : CG (.int i) (.int j) = .ok (.sh (.int (i + j))) := rfl
theorem Cc (xs : List PyData) (i : Int) : gIx (.list xs) (.int i) = i8 (atI xs i) := rfl
theorem Dx (xs : List PyData) (i : Int) : gIx (.tuple xs) (.int i) = i8 (atI xs i) := rfl
theorem Aj (xs : List PyData) : c_ [.list xs] = .ok (.sh (.int xs.length)) := rfl
theorem zB (xs : List PyData) : c_ [.tuple xs] = .ok (.sh (.int xs.length)) := rfl
theorem AO (x : Str) : c_ [.str x] = if x.length ≤ BIG then .ok (.sh (.int x.length)) else .bad := rfl
theorem Aa (i j : Int) : rS [.int i, .int j] = .ok (.sh (.int (if j < i then j else i))) := rfl
theorem Bc (i j : Int) : D2 [.int i, .int j] = .ok (.sh (.int (if i < j then j else i))) := rfl
theorem qw (n : Int) (ns : List Int) : gD [.list (PyData.int n :: ns.map PyData.int)] = .ok (.sh (.int (iA n ns))) := by
 show (match cZ ((n :: ns).map PyData.int) with | some (n :: ns) => oI (iA n ns) | _ => .bad) = _
 rw [fA];rfl
theorem vn (n : Int) (ns : List Int) : jV [.list (PyData.int n :: ns.map PyData.int)] = .ok (.sh (.int (nB n ns))) := by
 show (match cZ ((n :: ns).map PyData.int) with | some (n :: ns) => oI (nB n ns) | _ => .bad) = _
 rw [fA];rfl
theorem Ay (ds : List PyData) : jX [.list ds] = .ok (.ol (ds.map OD.sh)) := rfl
theorem DK (i : Int) : qq [.int i] = .ok (.sh (.int i)) := rfl
theorem vx (c : Bool) : qq [.bool c] = .ok (.sh (.int (if c then 1 else 0))) := rfl
theorem Ey (ns : List Int) (z : Int) (h : z ∈ ns) : nP (ns.map PyData.int) (.int z) = .ok (.sh (.int (ns.idxOf z : Nat))) := by
 show (match cZ (ns.map PyData.int) with | some ns => if z ∈ ns then oI (ns.idxOf z : Nat) else .bad | none => .bad) = _
 rw [fA];show (if z ∈ ns then oI (ns.idxOf z : Nat) else .bad) = _
 rw [if_pos h];rfl
theorem Bz (xs : List PyData) (i j : Option Int) : we (.list xs) i j = .ok (.ol ((cutD xs i j).map OD.sh)) := rfl
theorem y6 (d : PyData) : i8 (some d) = .ok (.sh d) := rfl
theorem at0 {α : Type} (x : α) (xs : List α) : atI (x :: xs) 0 = some x := by
 have : atI (x :: xs) ((0 : Nat) : Int) = some x := eJ rfl;exact this
theorem at1 {α : Type} (x y : α) (xs : List α) : atI (x :: y :: xs) 1 = some y := by
 have : atI (x :: y :: xs) ((1 : Nat) : Int) = some y := eJ rfl;exact this
theorem at2 {α : Type} (x y z : α) (xs : List α) : atI (x :: y :: z :: xs) 2 = some z := by
 have : atI (x :: y :: z :: xs) ((2 : Nat) : Int) = some z := eJ rfl;exact this
theorem DH (c : Bool) : oB c = .ok (.sh (.bool c)) := rfl
end
end L3
namespace L3
open PySem L2
theorem xK {i j : Int} (h1 : -18446744073709551616 < i) (h2 : i < 18446744073709551616) : iK i j = true := by
 unfold iK;rw [Bool.or_eq_true, Bool.and_eq_true, decide_eq_true_eq, decide_eq_true_eq];exact .inl ⟨by lia, by lia⟩
theorem FA {i j : Int} (h1 : -18446744073709551616 < j) (h2 : j < 18446744073709551616) : iK i j = true := by
 unfold iK;rw [Bool.or_eq_true, Bool.and_eq_true, Bool.and_eq_true, decide_eq_true_eq, decide_eq_true_eq, decide_eq_true_eq, decide_eq_true_eq];exact .inr ⟨by lia, by lia⟩
theorem eT {i : Int} (h1 : -4611686018427387904 ≤ i) (h2 : i < 4611686018427387904) : ay i = true := et.mpr ⟨by lia, by lia⟩
theorem d_ {n : Nat} (h : n < 1000) : (n < BIG) = True := eq_true (Nat.lt_of_lt_of_le h (by decide))
theorem aS {n : Nat} (h : n ≤ 1000) : (n ≤ BIG) = True := eq_true (Nat.le_trans h (by decide))
theorem d9 (i : Int) {j : Int} (h : 0 < j) : 0 ≤ i % j ∧ i % j < j := ⟨Int.emod_nonneg _ (by lia), Int.emod_lt_of_pos _ h⟩
theorem qa {α : Type} (xs : List α) (i : Int) (h0 : 0 ≤ i) (h1 : i < xs.length) : ∃ x, xs[i.toNat]? = some x ∧ atI xs i = some x := by
 obtain ⟨j, rfl⟩ : ∃ j : Nat, i = j := ⟨i.toNat, by lia⟩
 have hj : j < xs.length := by lia
 exact ⟨xs[j], by simp [hj], eJ (by simp [hj])⟩
end L3
namespace L3
open PySem L2
theorem ue {g : Fg} {b : Fs} {ds : List PyData} {ρ : Env} {r : R Out} (hL : bI g b ds ρ = r) (S : Nat → Env → Prop) (h0 : S 0 ρ) (st : ∀ (i : Nat) (d : PyData) (ρ : Env), ds[i]? = some d → S i ρ → ∃ ρ1 ρ2, g (.sh d) ρ = .ok ρ1 ∧ (b ρ1 = .ok (.nx ρ2) ∨ b ρ1 = .ok (.ct ρ2)) ∧ S (i + 1) ρ2) :
  ∃ ρ', r = .ok (.nx ρ') ∧ S ds.length ρ' := by
 obtain ⟨ρ', e, h⟩ := sN S h0 st;exact ⟨ρ', by rw [← hL, e], h⟩
end L3
namespace L3
open PySem L2
noncomputable def kW (S : Env → Prop) : R Out → Prop
 | .ok (.nx ρ) => S ρ
 | .ok (.ct ρ) => S ρ
 | _ => False
theorem Ed {S : Env → Prop} {ρ : Env} : kW S (.ok (.nx ρ)) = S ρ := rfl
theorem DY {S : Env → Prop} {ρ : Env} : kW S (.ok (.ct ρ)) = S ρ := rfl
theorem xM {S : Env → Prop} {b : Fs} {r : R Env} (h : kW S (unK b r)) : ∃ ρ1 ρ2, r = .ok ρ1 ∧ (b ρ1 = .ok (.nx ρ2) ∨ b ρ1 = .ok (.ct ρ2)) ∧ S ρ2 := by
 cases r with
 | ok ρ1 =>
  have h' : kW S (b ρ1) := h;cases hb : b ρ1 with
  | ok o =>
   rw [hb] at h';cases o with
   | nx ρ2 => exact ⟨ρ1, ρ2, rfl, .inl hb, h'⟩
   | ct ρ2 => exact ⟨ρ1, ρ2, rfl, .inr hb, h'⟩
   | bk _ => exact h'.elim
   | rt _ => exact h'.elim
  | ex _ => rw [hb] at h'; exact h'.elim
  | bad => rw [hb] at h'; exact h'.elim
 | ex c => exact h.elim
 | bad => exact h.elim
theorem cC {P : Prop} {g : Fg} {b : Fs} {ds : List PyData} {ρ : Env} {r : R Out} (hL : bI g b ds ρ = r) (S : Nat → Env → Prop) (h0 : S 0 ρ) (st : ∀ (i : Nat) (d : PyData) (ρ : Env), ds[i]? = some d → S i ρ → kW (S (i + 1)) (unK b (g (.sh d) ρ)))
  (fin : ∀ ρ', r = .ok (.nx ρ') → S ds.length ρ' → P) : P := by
 obtain ⟨ρ', e, h⟩ := ue hL S h0 fun i d ρ hd hS => by
  obtain ⟨ρ1, ρ2, a, b, c⟩ := xM (st i d ρ hd hS);exact ⟨ρ1, ρ2, a, b, c⟩
 exact fin ρ' e h
end L3
namespace L3
open PySem L2
noncomputable def yY (o : Option (Option OD)) (a k : R OD) (i : Nat) (ρ : Env) : R Out := match o with
 | some (some (.ol xs)) => unK (fun y => unK (fun z => match z.er with
  | .int q => match ixN xs.length q with
   | some j => .ok (.nx (ρ.set i (some (.ol (xs.set j y)))))
   | none => .bad
  | _ => .bad) k) a
 | _ => .bad
theorem qp {β : Type} (o : Option (Option OD)) : o = none ∨ o = some none ∨ (∃ d, o = some (some (.sh d))) ∨ (∃ xs, o = some (some (.ol xs))) ∨ (∃ xs, o = some (some (.ot xs))) ∨ ∃ xs, o = some (some (.od xs)) := by
 cases o with
 | none => exact .inl rfl
 | some o =>
  cases o with
  | none => exact .inr (.inl rfl)
  | some x =>
   cases x with
   | sh d => exact .inr (.inr (.inl ⟨d, rfl⟩))
   | ol xs => exact .inr (.inr (.inr (.inl ⟨xs, rfl⟩)))
   | ot xs => exact .inr (.inr (.inr (.inr (.inl ⟨xs, rfl⟩))))
   | od xs => exact .inr (.inr (.inr (.inr (.inr ⟨xs, rfl⟩))))
section
variable {ρ : Env} {a b k : Fe} {s t : Ft} {p q : Fs}
theorem v_sub (i : Nat) : mQ i k a ρ = yY ρ[i]? (a ρ) (k ρ) i ρ := by
 unfold mQ yY;generalize ρ[i]? = o
 rcases qp (β := Nat) o with rfl | rfl | ⟨d, rfl⟩ | ⟨xs, rfl⟩ | ⟨xs, rfl⟩ | ⟨xs, rfl⟩
 ·rfl
 ·rfl
 ·rfl
 ·cases a ρ <;> cases k ρ <;> rfl
 ·rfl
 ·rfl
theorem uq {xs : List OD} {y : OD} {z : Int} {i j : Nat} (h : ixN xs.length z = some j) : yY (some (some (.ol xs))) (.ok y) (.ok (.sh (.int z))) i ρ = .ok (.nx (ρ.set i (some (.ol (xs.set j y))))) := by
 show (match (OD.sh (PyData.int z)).er with
  | .int q => match ixN xs.length q with
   | some j => R.ok (Out.nx (ρ.set i (some (.ol (xs.set j y)))))
   | none => .bad
  | _ => .bad) = _
 rw [bN];show (match ixN xs.length z with
   | some j => R.ok (Out.nx (ρ.set i (some (.ol (xs.set j y)))))
   | none => .bad) = _
 rw [h]
theorem ij {n j : Nat} (h : j < n) : ixN n (j : Int) = some j := by
 unfold ixN;rw [if_pos (by lia), if_pos (by lia)]
 simp
noncomputable def AE (o : Option (Option OD)) (i : Nat) (ρ : Env) : R Out := match o with
 | some (some (.ol xs)) => .ok (.nx (ρ.set i (some (.ol xs.reverse))))
 | _ => .bad
noncomputable def yF (o : Option (Option OD)) (i : Nat) (ρ : Env) : R Out := match o with
 | some (some (.ol xs)) => .ok (.nx (ρ.set i (some (.ol []))))
 | _ => .bad
theorem D3 (i : Nat) : Ek i ρ = AE ρ[i]? i ρ := by unfold Ek AE; rfl
theorem Eb (i : Nat) : sW i ρ = yF ρ[i]? i ρ := by unfold sW yF; rfl
theorem Cj {xs : List OD} {i : Nat} : AE (some (some (.ol xs))) i ρ = .ok (.nx (ρ.set i (some (.ol xs.reverse)))) := rfl
theorem Ce {xs : List OD} {i : Nat} : yF (some (some (.ol xs))) i ρ = .ok (.nx (ρ.set i (some (.ol [])))) := rfl
noncomputable def xf (o : Option (Option OD)) (g : Fg) (i : Nat) (ρ : Env) : R Out := match o with
 | some (some (.ol xs)) => match xs.getLast? with
  | some (.sh d) => unK (fun ρ' => .ok (.nx ρ')) (g (.sh d) (ρ.set i (some (.ol xs.dropLast))))
  | _ => .bad
 | _ => .bad
theorem Du (i : Nat) {g : Fg} : DX i g ρ = xf ρ[i]? g i ρ := by
 unfold DX xf;generalize ρ[i]? = o
 rcases qp (β := Nat) o with rfl | rfl | ⟨d, rfl⟩ | ⟨xs, rfl⟩ | ⟨xs, rfl⟩ | ⟨xs, rfl⟩
 ·rfl
 ·rfl
 ·rfl
 ·show (match xs.getLast? with
   | some (.sh d) => (g (.sh d) (ρ.set i (some (.ol xs.dropLast)))).bind fun ρ' => R.ok (Out.nx ρ')
   | _ => .bad) = (match xs.getLast? with
   | some (.sh d) => unK (fun ρ' => R.ok (Out.nx ρ')) (g (.sh d) (ρ.set i (some (.ol xs.dropLast))))
   | _ => R.bad)
  cases xs.getLast? with
  | none => rfl
  | some x =>
   cases x with
   | sh d => exact cP _ _
   | ol _ => rfl
   | ot _ => rfl
   | od _ => rfl
 ·rfl
 ·rfl
theorem DL {xs : List OD} {d : PyData} {i : Nat} {g : Fg} : xf (some (some (.ol (xs ++ [.sh d])))) g i ρ = unK (fun ρ' => R.ok (Out.nx ρ')) (g (.sh d) (ρ.set i (some (.ol xs)))) := by
 have h1 : (xs ++ [OD.sh d]).getLast? = some (.sh d) := by simp
 unfold xf;simp only [h1, List.dropLast_concat]
noncomputable def zc (o : Option (Option OD)) (a : R OD) (i : Nat) (ρ : Env) : R Out := match o with
 | some (some (.ol xs)) => unK (fun y => match y with
  | .ol ys => if xs.length + ys.length ≤ BIG then .ok (.nx (ρ.set i (some (.ol (xs ++ ys))))) else .bad
  | _ => .bad) a
 | _ => .bad
theorem Dm (i : Nat) : sO i a ρ = zc ρ[i]? (a ρ) i ρ := by
 unfold sO zc;generalize ρ[i]? = o
 rcases qp (β := Nat) o with rfl | rfl | ⟨d, rfl⟩ | ⟨xs, rfl⟩ | ⟨xs, rfl⟩ | ⟨xs, rfl⟩
 ·rfl
 ·rfl
 ·rfl
 ·cases a ρ with
  | ok y => cases y <;> rfl
  | ex c => rfl
  | bad => rfl
 ·rfl
 ·rfl
theorem EC {xs ys : List OD} {i : Nat} : zc (some (some (.ol xs))) (.ok (.ol ys)) i ρ = if xs.length + ys.length ≤ BIG then .ok (.nx (ρ.set i (some (.ol (xs ++ ys))))) else .bad := rfl
theorem qH {i : Nat} {xs ys : List OD} {z : Int} {j : Nat} {y : OD} (h1 : ρ[i]? = some (some (.ol xs))) (h2 : k ρ = .ok (.sh (.int z))) (h3 : ixN xs.length z = some j) (h4 : xs[j]? = some (.ol ys)) (h5 : a ρ = .ok y) (h6 : ys.length < BIG) :
  j0 i k a ρ = .ok (.nx (ρ.set i (some (.ol (xs.set j (.ol (ys ++ [y]))))))) := by
 unfold j0;rw [h1, h2];simp only [fO, bN, h3, h4, h5, h6, if_true]
end
theorem b_ {α : Type} {g : Fg} {el : Fe} {ρ0 : Env} {ds : List PyData} {r : R (List OD)} (hL : a7 g bH el ρ0 ds [] = r) (emb : α → PyData) (y : α → OD) (L : List α) (e : ds = L.map emb) (hl : L.length ≤ BIG) (h : ∀ x ∈ L, unK el (g (.sh (emb x)) ρ0) = .ok (y x)) : r = .ok (L.map y) := by
 subst e;rw [← hL];have go : ∀ (L : List α) (acc : List OD), (∀ x ∈ L, unK el (g (.sh (emb x)) ρ0) = .ok (y x)) → acc.length + L.length ≤ BIG → a7 g bH el ρ0 (L.map emb) acc = .ok (acc ++ L.map y) := by
  intro L
  induction L with
  | nil => intro acc _ _; rw [List.map_nil, a7, List.map_nil, List.append_nil]
  | cons x L ih =>
   intro acc h hl;have hx := h x List.mem_cons_self;rw [List.length_cons] at hl;rw [List.map_cons, a7];cases hg : g (.sh (emb x)) ρ0 with
   | ok ρ =>
    rw [hg] at hx;have hx' : el ρ = .ok (y x) := hx;simp only [nr, fO, bH, if_true, hx'];rw [if_pos (by lia), ih (acc ++ [y x]) (fun z hz => h z (List.mem_cons_of_mem _ hz)) (by rw [List.length_append, List.length_singleton]; lia), List.map_cons, List.append_assoc]
    rfl
   | ex c => rw [hg] at hx; cases hx
   | bad => rw [hg] at hx; cases hx
 rw [go L [] h (by simpa using hl)]
 rfl
theorem iR {α : Type} {g : Fg} {t : Ft} {el : Fe} {ρ0 : Env} {ds : List PyData} {r : R (List OD)} (hL : a7 g t el ρ0 ds [] = r) (emb : α → PyData) (p : α → Bool) (y : α → OD) (L : List α) (e : ds = L.map emb) (hl : L.length ≤ BIG) (h : ∀ x ∈ L, unK t (g (.sh (emb x)) ρ0) = .ok (p x) ∧ (p x = true → unK el (g (.sh (emb x)) ρ0) = .ok (y x))) : r = .ok ((L.filter p).map y) := by
 subst e;rw [← hL];have go : ∀ (L : List α) (acc : List OD), (∀ x ∈ L, unK t (g (.sh (emb x)) ρ0) = .ok (p x) ∧ (p x = true → unK el (g (.sh (emb x)) ρ0) = .ok (y x))) → acc.length + L.length ≤ BIG → a7 g t el ρ0 (L.map emb) acc = .ok (acc ++ (L.filter p).map y) := by
  intro L
  induction L with
  | nil => intro acc _ _; rw [List.map_nil, a7, List.filter_nil, List.map_nil, List.append_nil]
  | cons x L ih =>
   intro acc h hl;obtain ⟨hx, hy⟩ := h x List.mem_cons_self;rw [List.length_cons] at hl;rw [List.map_cons, a7];cases hg : g (.sh (emb x)) ρ0 with
   | ok ρ =>
    rw [hg] at hx hy;have hx' : t ρ = .ok (p x) := hx;have hy' : p x = true → el ρ = .ok (y x) := hy;simp only [nr, fO, hx'];by_cases hp : p x = true
    ·rw [if_pos hp, hy' hp]
     simp only [fO];rw [if_pos (by lia), ih (acc ++ [y x]) (fun z hz => h z (List.mem_cons_of_mem _ hz)) (by rw [List.length_append, List.length_singleton]; lia), List.filter_cons_of_pos hp, List.map_cons, List.append_assoc]
     rfl
    ·rw [if_neg hp, ih acc (fun z hz => h z (List.mem_cons_of_mem _ hz)) (by lia), List.filter_cons_of_neg hp]
   | ex c => rw [hg] at hx; cases hx
   | bad => rw [hg] at hx; cases hx
 rw [go L [] h (by simpa using hl)]
 rfl
end L3
namespace L3
open PySem L2
noncomputable def lay (n : Nat) (d : PyData) : Prop := d.canLay0 = true ∧ d.depth ≤ n
theorem kA (i : Int) : lay 0 (.int i) := ⟨rfl, Nat.le_refl _⟩
theorem mT {x : Str} (h : PyData.strOk x = true) : lay 0 (.str x) := ⟨h, Nat.le_refl _⟩
theorem nQ {n : Nat} : ∀ {xs : List PyData}, (∀ x ∈ xs, lay n x) → PyData.canLayAll0 xs = true ∧ PyData.depthAll xs ≤ n
 | [], _ => ⟨rfl, Nat.zero_le _⟩
 | x :: xs, h => by
  obtain ⟨a1, a2⟩ := h x List.mem_cons_self;obtain ⟨b1, b2⟩ := nQ (xs := xs) fun y hy => h y (List.mem_cons_of_mem _ hy)
  unfold PyData.canLayAll0 PyData.depthAll;rw [a1, b1];exact ⟨rfl, by lia⟩
theorem jJ {n : Nat} {xs : List PyData} (h : ∀ x ∈ xs, lay n x) : lay (n + 1) (.list xs) := by
 obtain ⟨b1, b2⟩ := nQ h;refine ⟨by unfold PyData.canLay0; exact b1, ?_⟩
 unfold PyData.depth
 lia
theorem mr {n : Nat} {xs : List PyData} (h : ∀ x ∈ xs, lay n x) : lay (n + 1) (.tuple xs) := by
 obtain ⟨b1, b2⟩ := nQ h;refine ⟨by unfold PyData.canLay0; exact b1, ?_⟩
 unfold PyData.depth
 lia
theorem eV {n : Nat} {d : PyData} (h : lay n d) (hn : n ≤ 64) : SeqAt.shaped d = true := by
 unfold SeqAt.shaped;rw [Bool.and_eq_true];exact ⟨h.1, decide_eq_true (Nat.le_trans h.2 hn)⟩
theorem lay_ints (ns : List Int) : lay 1 (.list (ns.map PyData.int)) := jJ fun x hx => by
 obtain ⟨n, _, rfl⟩ := List.mem_map.mp hx;exact kA n
theorem jG (a b : List PyData) : eqD (.list a) (.list b) = ji (.list a) (.list b) := rfl
theorem mi {n : Nat} {d : PyData} (h : lay n d) (hn : n ≤ 64) : ji d d = .ok true := by
 unfold ji;rw [eV h hn, Bool.and_self, if_pos rfl, SeqAt.eqv_refl _ (SeqAt.canLay_of_shaped (eV h hn))]
theorem vS {n : Nat} {a : List PyData} (h : lay n (.list a)) (hn : n ≤ 64 := by decide) : gEq (.list a) (.list a) = .ok (.sh (.bool true)) := by
 unfold gEq;rw [jG, mi h hn];rfl
theorem iC {n : Nat} {a : List PyData} (h : lay n (.list a)) (hn : n ≤ 64 := by decide) : gNe (.list a) (.list a) = .ok (.sh (.bool false)) := by
 unfold gNe;rw [jG, mi h hn];rfl
end L3
namespace L3
open PySem L2
theorem Cb (z : Str) (i : Int) : gIx (.str z) (.int i) = if z.length ≤ BIG then i8 ((atI z.cps.toList i).map fun c => .str ⟨#[c]⟩) else .bad := rfl
theorem kh (x y : Str) : cR (.str x) (.str y) = if x.length + y.length ≤ BIG then .ok (.sh (.str (x ++ y))) else .bad := rfl
theorem zo (x y : List PyData) : cR (.list x) (.list y) = if x.length + y.length ≤ BIG then .ok (.ol ((x ++ y).map OD.sh)) else .bad := rfl
theorem AF (xs : List PyData) (k : Int) : fZ (.list xs) (.int k) = if (decide (-(2 ^ 63) ≤ k) && decide (k < 2 ^ 63) && decide (xs.length * k.toNat ≤ BIG)) = true then .ok (.ol ((List.replicate k.toNat xs).flatten.map OD.sh)) else .bad := rfl
theorem m9 (x : PyData) (n : Nat) (h : n ≤ 1000) : fZ (.list [x]) (.int n) = .ok (.ol ((List.replicate n x).map OD.sh)) := by
 rw [AF, if_pos]
 ·rw [Int.toNat_natCast]
  congr 2
  induction n with
  | zero => rfl
  | succ n ih => rw [List.replicate_succ, List.flatten_cons, List.map_append, ih (by lia), List.replicate_succ, List.map_cons]; rfl
 ·rw [Bool.and_eq_true, Bool.and_eq_true, decide_eq_true_eq, decide_eq_true_eq, decide_eq_true_eq]
  refine ⟨⟨by lia, by lia⟩, ?_⟩
  rw [Int.toNat_natCast, List.length_singleton, Nat.one_mul];exact of_eq_true (aS h)
theorem CY (x y : Str) : gEq (.str x) (.str y) = .ok (.sh (.bool (decide (x = y)))) := rfl
theorem By (x y : Str) : gNe (.str x) (.str y) = .ok (.sh (.bool (!decide (x = y)))) := rfl
end L3
namespace L3
open PySem L2
noncomputable def uh (S : Env → Prop) (T : OD → Prop) : R Out → Prop
 | .ok (.nx ρ) => S ρ
 | .ok (.ct ρ) => S ρ
 | .ok (.rt x) => T x
 | _ => False
theorem EH {S : Env → Prop} {T : OD → Prop} {ρ : Env} : uh S T (.ok (.nx ρ)) = S ρ := rfl
theorem Dv {S : Env → Prop} {T : OD → Prop} {ρ : Env} : uh S T (.ok (.ct ρ)) = S ρ := rfl
theorem CH {S : Env → Prop} {T : OD → Prop} {x : OD} : uh S T (.ok (.rt x)) = T x := rfl
end L3
namespace L3
open PySem L2 PySem.Spec PyProof.Rows
noncomputable def Itd (lo : Int) (n : Nat) : It := ⟨fun i _ => i < n, fun i H x H' => H' = H ∧ x = .int (lo - i), fun i _ => n ≤ i⟩
theorem sk {P : Program} {w : World} {K : PySem.W.Frag} {tg : Expr} (it : Addr) (lo : Int) (n : Nat) : Turn P w K tg (Itd lo n) [it] it (fun i h => IsRangeIter h it (lo + (i : Nat) * (-1)) ((n : Int) - (i : Nat)) (-1)) where
 mem := by simp
 obj := fun i h st b hb => by
  have e : b = it := by simpa using hb
  subst e;exact ⟨_, st, fun v z => by
   have z' : Data.fields _ = Data.cell v := z;cases z'⟩
 keep := fun i h h' st k => k it (by simp) _ st
 item := by
  intro X hP hw hK hc i pins s σ H E I hf st hg;subst hP hw hK;obtain ⟨f0, f1, f2, f3, f4, f5⟩ := hf it (by simp)
  have W := PySem.Walks.range (prog := X.prog) (w := X.w) (I.ok.hd hc) it lo (-1) n;refine W.item i s _ _ hg st fun v h' tk hv st' kk => ?_
  obtain ⟨t, rfl⟩ := hv;have I1 : Inv X pins σ H { s with heap := h', toks := tk } := I.turned (fun b o hb e => kk b o (by simpa using hb) e) f0 f1 f3 f4 f5
  refine ⟨_, rfl, tx (s := { s with heap := h', toks := tk }) (n := "range_iterator") st' rfl rfl (by decide) ⟨.int (lo - i), H, I1, ⟨t, ?_⟩, ⟨rfl, rfl⟩, st', fun b hb => (hf b hb).1⟩⟩
  congr 1
  lia
 done := by
  intro X hP hw hK hc i pins s σ H E I hf st hg;subst hP hw hK;obtain ⟨f0, f1, f2, f3, f4, f5⟩ := hf it (by simp)
  exact wpAny_pyNext_range_end (I.ok.hd hc) st (by have : n ≤ i := hg; lia) fun h' eb => ⟨rfl, I.turned (t' := s.toks) (fun b o hb e => eb b o hb e) f0 f1 f3 f4 f5⟩
 self := fun _ _ _ _ _ st h => wpAny_pyIter_rangeiter st h
theorem rangeSize_down (a b : Int) : Builtin.Range.rangeSize a b (-1) = if a > b then a - b else 0 := by
 unfold Builtin.Range.rangeSize;simp only [show ¬ ((-1 : Int) > 0) by decide, if_false]
 have : (-(-1 : Int)) = 1 := by decide
 rw [this, Int.ediv_one];split <;> lia
theorem small_down {a b : Int} (ha : -(2 ^ 62) ≤ a) (ha' : a < 2 ^ 62) (hb : -(2 ^ 62) ≤ b) (hb' : b < 2 ^ 62) : Builtin.Range.small a b (-1) = true := by
 unfold Builtin.Range.small;rw [rangeSize_down];simp only [Builtin.Range.rangeFitsLong, Bool.and_eq_true, Bool.or_eq_true, decide_eq_true_eq, beq_iff_eq, show ¬ ((-1 : Int) > 0) by decide, if_false]
 split <;> lia
section
variable {X : Cx} {tg : Expr}
theorem xQ {pins : List (Addr × Obj)} {σ : St} {H : Hp} {s : Shared} {R : It → Hp → Prop} {E : Value → Shared → Prop} {lo hi : Int} {t u v : Tok} {tk : Nat} (I : Inv X pins σ H s) (h1 : -(2 ^ 62) ≤ lo) (h2 : lo < 2 ^ 62) (h3 : -(2 ^ 62) ≤ hi) (h4 : hi < 2 ^ 62)
  (q : R (Itd lo (lo - hi).toNat) H) : wpAny (model X.prog X.w) X.A (pyIter (.ref s.heap.objs.size)) (PIE X pins σ tg R) E { s with heap := s.heap.push { cls := .type "range", data := .fields #[.int lo t, .int hi u, .int (-1) v] }, toks := tk } := by
 refine wpAny_pyIter_range (IsRange.new ..) (small_down h1 h2 h3 h4) ?_;have I1 : Inv X pins σ H { s with heap := s.heap.push { cls := .type "range", data := .fields #[.int lo t, .int hi u, .int (-1) v] }, toks := tk } := I.kept fun b o e => Heap.get?_push_of_some _ e
 refine ⟨(s.heap.push { cls := .type "range", data := .fields #[.int lo t, .int hi u, .int (-1) v] }).objs.size, [(s.heap.push { cls := .type "range", data := .fields #[.int lo t, .int hi u, .int (-1) v] }).objs.size], _, _, H, rfl,
  I1.kept (t' := tk) fun b o e => Heap.get?_push_of_some _ e, sk _ lo (lo - hi).toNat, ?_, fun b hb => ?_, q⟩
 ·have e1 : lo + ((0 : Nat) : Int) * (-1) = lo := by simp
  have e2 : (((lo - hi).toNat : Nat) : Int) - ((0 : Nat) : Int) = Builtin.Range.rangeSize lo hi (-1) := by rw [rangeSize_down]; split <;> lia
  show IsRangeIter _ _ (lo + ((0 : Nat) : Int) * (-1)) ((((lo - hi).toNat : Nat) : Int) - ((0 : Nat) : Int)) (-1)
  rw [e1, e2];exact Heap.get?_push_size _ rfl
 ·have e : b = (s.heap.push { cls := .type "range", data := .fields #[.int lo t, .int hi u, .int (-1) v] }).objs.size := by simpa using hb
  subst e;exact I1.fpOk (Nat.le_refl _) (I1.hok.fresh (Nat.le_refl _))
noncomputable def yw (ta : TA) : TI := fun σ H R => ta σ H fun vs H1 => ∃ i j : Int, vs = [.int i, .int j, .int (-1)] ∧ (-(2 ^ 62) ≤ i ∧ i < 2 ^ 62 ∧ -(2 ^ 62) ≤ j ∧ j < 2 ^ 62) ∧ R (Itd i (i - j).toNat) H1
theorem s_ {a b c : Expr} {ta : TA} {p pos : Pos} (hg : Gl X "range") (hm : X.mg "range" = none) (ha : PA X [a, b, c] ta) (hs : starEach [a, b, c] X.env = (false, eval a X.env) :: starEach [b, c] X.env) (hs2 : (backTo pos (starEach [b, c] X.env)).any (·.1) = false) :
  PI X tg (.Call (.Name "range" p) [a, b, c] [] pos) (yw ta) := by
 intro pins s σ H R I h;refine Call_ (iI I hg hm boot_range (PyProof.Rows.callWith_type1 (thn (ha pos pins s σ H _ I h) fun us s1 ⟨vs, H1, I1, r1, q1⟩ => ?_) hs hs2))
 obtain ⟨i, j, e, ⟨q1, q2, q3, q4⟩, q⟩ := q1;subst e;cases r1 with
 | cons r rr =>
  cases rr with
  | cons r' rr =>
   cases rr with
   | cons r'' rr =>
    cases rr;obtain ⟨t, rfl⟩ := r;obtain ⟨t', rfl⟩ := r';obtain ⟨t'', rfl⟩ := r'';exact call_range_3 (by decide) (xQ I1 q1 q2 q3 q4 q) (.inl (PyProof.noPylong_small (by decide)))
end
noncomputable def kP (lo : Int) (n : Nat) : List PyData := (List.range n).map fun k : Nat => PyData.int (lo - k)
noncomputable def iR3 (a b c : Fe) : Fi := fun ρ => (a ρ).bind fun x => (b ρ).bind fun y => (c ρ).bind fun z => match x.er, y.er, z.er with
 | .int i, .int j, .int k => if (ay i && ay j && decide (k = -1)) = true then .ok (kP i (i - j).toNat) else .bad
 | _, _, _ => .bad
theorem qm {K : PySem.W.Frag} {F : Hp} (lo : Int) (k : Nat) : Walks K F (Itd lo k) (kP lo k) := by
 intro i G H s1 s2;unfold kP;refine ⟨fun d hd => ?_, fun hl => (show k ≤ i by simpa using hl)⟩
 rw [List.getElem?_map] at hd;obtain ⟨j, hj, rfl⟩ := Option.map_eq_some_iff.mp hd;obtain ⟨h1, h2⟩ := List.getElem?_eq_some_iff.mp hj;have h3 : i = j := by simpa using h2
 subst h3;refine ⟨(show i < k by simpa using h1), fun x H' y => ?_⟩
 obtain ⟨rfl, rfl⟩ := y;exact ⟨G, Ext.refl s2, .int _⟩
section
variable {M : Mx} {n : Nat} {H : Hp} {σ : St} {R' : It → Hp → Prop} {X : Cx} {a b c e : Expr} {fa fb fc : Fe} {pos : Pos} {D : Ends}
theorem FZ (h : tI M n (iR3 fa fb fc) σ H R') : yw (tA M n (af fa (af fb (af fc aq)))) σ H R' := by
 obtain ⟨F, ρ, fp, S, p⟩ := h;refine ⟨F, ρ, fp, S, ?_⟩;unfold iR3 at p;have p1 := aw.bind p;show aw M H fp _ (af fa (af fb (af fc aq)) ρ)
 rw [kE, kE, kE, t8];cases ha : fa ρ with
 | bad => rw [ha] at p1; exact p1
 | ex c => rw [ha] at p1; exact p1
 | ok x =>
  rw [ha] at p1;have p2 : aw M H fp _ (fb ρ) := aw.bind p1;cases hb : fb ρ with
  | bad => rw [hb] at p2; exact p2
  | ex c => rw [hb] at p2; exact p2
  | ok y =>
   rw [hb] at p2;have p3 : aw M H fp _ (fc ρ) := aw.bind p2;cases hc : fc ρ with
   | bad => rw [hc] at p3; exact p3
   | ex c => rw [hc] at p3; exact p3
   | ok z =>
    rw [hc] at p3;intro vs F1 H1 fx e1 r1 w1;obtain ⟨G1, d1, k1⟩ := r1.frz e1 w1;cases k1 with
    | @cons v _ _ _ k1 k2 =>
     cases k2 with
     | @cons w _ _ _ k2 k3 =>
      cases k3 with
      | @cons u _ _ _ k3 k4 =>
       cases k4;have p4 : aw M H fp (OkI M.K F H R') (match x.er, y.er, z.er with
        | .int i, .int j, .int k => if (ay i && ay j && decide (k = -1)) = true then .ok (kP i (i - j).toNat) else .bad
        | _, _, _ => .bad) := p3
       generalize x.er = dx at p4 k1
       generalize y.er = dy at p4 k2
       generalize z.er = dz at p4 k3
       split at p4
       ·rename_i i j k
        cases k1;cases k2;cases k3;by_cases hs : (ay i && ay j && decide (k = -1)) = true
        ·rw [if_pos hs] at p4
         rw [Bool.and_eq_true, Bool.and_eq_true, decide_eq_true_eq] at hs;obtain ⟨⟨h1, h2⟩, rfl⟩ := hs;have h1 := et.mp h1;have h2 := et.mp h2;exact ⟨i, j, rfl, ⟨h1.1, h1.2, h2.1, h2.2⟩, p4 _ G1 H1 d1 (qm _ _)⟩
        ·rw [if_neg hs] at p4
         exact p4.elim
       ·exact p4.elim
theorem x5 {tg : Expr} {p : Pos} (hg : Gl X "range") (hm : X.mg "range" = none) (h : DE M X a fa) (k : DE M X b fb) (l : DE M X c fc) (hs1 : starEach [a, b, c] X.env = (false, eval a X.env) :: starEach [b, c] X.env := by rfl) (hs0 : starEach [b, c] X.env = (false, eval b X.env) :: starEach [c] X.env := by rfl)
  (hs3 : starEach [c] X.env = (false, eval c X.env) :: starEach [] X.env := by rfl) (hs2 : (backTo pos (starEach [b, c] X.env)).any (·.1) = false := by rfl) : DI M X tg (.Call (.Name "range" p) [a, b, c] [] pos) (iR3 fa fb fc) := fun hK hM =>
 fun pins s σ H R' I z => s_ hg hm ((ab h (ab k (ab l ai hs3) hs0) hs1) hK hM) hs1 hs2 pins s σ H R' I (FZ z)
theorem Ee {ρ : Env} {x y z : Int} (h1 : fa ρ = .ok (.sh (.int x))) (h2 : fb ρ = .ok (.sh (.int y))) (h3 : fc ρ = .ok (.sh (.int z))) (hz : z = -1) (s1 : ay x = true) (s2 : ay y = true) : iR3 fa fb fc ρ = .ok (kP x (x - y).toNat) := by
 unfold iR3;rw [h1, h2, h3];subst hz;simp only [fO, bN, s1, s2, Bool.and_self, decide_true, if_true]
theorem pO {lo : Int} {n i : Nat} {d : PyData} (h : (kP lo n)[i]? = some d) : i < n ∧ d = .int (lo - i) := by
 unfold kP at h;rw [List.getElem?_map] at h;obtain ⟨j, hj, rfl⟩ := Option.map_eq_some_iff.mp h;obtain ⟨h1, h2⟩ := List.getElem?_eq_some_iff.mp hj;have h3 : i = j := by simpa using h2
 subst h3;exact ⟨by simpa using h1, rfl⟩
theorem ur (lo : Int) (n : Nat) : (kP lo n).length = n := by unfold kP; simp
end
end L3
namespace L3
open PySem L2 PySem.Spec PyProof.Rows
end L3
namespace L3
open PySem L2 PySem.Spec PyProof.Rows
section
variable {M : Mx} {n : Nat} {σ : L3.St} {H : Hp} {D : Ends}
end
section
variable {M : Mx} {X : Cx} {e b : Expr} {fa : Fe} {x y : Str} {p p1 p2 p3 pos pos' : Pos}
end
end L3
namespace L3
open PySem L2 PySem.Spec PyProof.Rows
section
variable {K : PySem.W.Frag} {F H : Hp}
end
section
variable {M : Mx} {n : Nat} {σ : L3.St} {H : Hp} {D : Ends} {Q : VK} {fa fb : Fe}
end
section
variable {M : Mx} {X : Cx} {a b e : Expr} {fa fb : Fe} {x : Str} {p pos pos' : Pos}
end
section
variable {ρ : Env} {a b k : Fe}
end
end L3
namespace L3
open PySem L2 PySem.Spec PyProof.Rows
noncomputable def xD (x : PyData) (lo hi : Option Int) : R OD := match x with
 | .str y => if y.length ≤ BIG then .ok (.sh (.str (Txt.slice y lo hi))) else .bad
 | _ => .bad
noncomputable def Dw : V → Option Int → Option Int → Hp → VK → Prop := fun x lo hi H Q => ∃ y, x = .str y ∧ y.length ≤ sizeLine ∧ Q (.str (Txt.slice y lo hi)) H
section
variable {X : Cx} {M : Mx}
theorem part_of {v : Value} {o : Option Int} (h : IsPart v o) : ∃ l : Option (Int × Tok), v = partValue l ∧ l.map (·.1) = o := by
 cases h with
 | none => exact ⟨none, rfl, rfl⟩
 | int i t => exact ⟨some (i, t), rfl, rfl⟩
theorem zJ : SlR X Dw := by
 intro pins s σ H x v vl vu lo hi sl Q I rx hs pl pu h;obtain ⟨y, rfl, hy, q⟩ := h;obtain ⟨t, rfl⟩ := rx;obtain ⟨l, rfl, rfl⟩ := part_of pl;obtain ⟨u, rfl, rfl⟩ := part_of pu;refine ⟨"str", _, PySem.F.slot_str_getitem.lookup, typeIs_str _ _ _, wpAny_getItem_str_slice (l := l) (u := u) (st := none) hs rfl (post_val_or_str ⟨Nat.le_trans (Txt.slice_le y _ _) hy, fun t' k => ?_⟩)⟩
 exact ⟨.str _, H, I.tok k, ⟨t', rfl⟩, q⟩
theorem zK (hK : X.K = M.K) : OkS M Dw xD := by
 intro x lo hi dx F H fp Q s rx p;unfold xD at p;split at p
 ·cases rx
  split at p
  ·rename_i hl
   exact ⟨_, rfl, fK hl, OkE.val s p (.str _)⟩
  ·exact p.elim
 ·exact p.elim
theorem BA (y : Str) (lo hi : Option Int) : xD (.str y) lo hi = if y.length ≤ BIG then .ok (.sh (.str (Txt.slice y lo hi))) else .bad := rfl
end
end L3
namespace L3
open PySem L2 PySem.Spec PyProof.Rows
section
variable {X : Cx} {M : Mx}
end
end L3
namespace L3
open PySem L2 PySem.Spec PyProof.Rows
noncomputable def signs (x : Str) : List PyData := x.cps.toList.map fun c => PyData.str ⟨#[c]⟩
end L3
namespace L3
open PySem L2 PySem.Spec PyProof.Rows
section
variable {M : Mx} {n : Nat} {σ : L2.St} {H : Hp} {Q : VK} {al ak : Fa}
noncomputable def gK {α : Type} (m j : Nat) (us ws : List α) : List α := if us.length = m ∧ ws.length = j then us ++ ws else []
end
section
variable {M : Mx} {X : Cx} {e : Expr} {es : List Expr} {pos kpos : Pos} {fa : Fe} {al ak : Fa} {kws : List Keyword} {nm : Option Str}
end
structure FunD (K : PySem.W.Frag) (x qual : Str) (st : Stmt) (f : Addr) (fd : FuncData) : Prop where
 ex : ∃ (oc : Value) (od : Option Addr) (dV kV doc pm : Value) (an : Option Addr) (cdv ct : Value) (osl : Array (Option Value)),
  fd = PySem.W.fnOf x qual (aH st) (aF st) (ag st) dV kV doc pm an cdv ct ∧ K.lookup f = some ⟨oc, od, .func fd, osl⟩ ∧ PySem.W.codeIn K cdv qual = true
 kp : PySem.W.keepIn K (.ref f) = true
structure DefD (K : PySem.W.Frag) (mg : Str → Option Value) (x : Str) (st : Stmt) (ps ks : List Str) (m : Nat) (dvs : List V) (f : Addr) (fd : FuncData) : Prop where
 F : FunD K x x st f fd
 g : mg x = some (.ref f)
 b : Binds K fd ps []
 d : ∃ ds, Binds K fd ps ds ∧ Vals dvs ds
 k : KBinds K fd ps ks (gK m dvs.length) (gK m dvs.length)
end L3
namespace L3
open PySem L2 PySem.Spec PyProof.Rows
noncomputable def je (i : Nat) (k : Fe) (a : Fe) : Fs := fun ρ => match ρ[i]? with
 | some (some (.ol xs)) => (k ρ).bind fun z => match z.er with
  | .int q => match ixN xs.length q with
   | some j => match xs[j]? with
    | some (.ol ys) => (a ρ).bind fun y => match y with
     | .ol zs => if ys.length + zs.length ≤ BIG then .ok (.nx (ρ.set i (some (.ol (xs.set j (.ol (ys ++ zs))))))) else .bad
     | _ => .bad
    | _ => .bad
   | none => .bad
  | _ => .bad
 | _ => .bad
section
variable {M : Mx} {n : Nat} {σ : L2.St} {H : Hp} {D : Ends}
theorem wI {i : Nat} {k a : Fe} (h : tS M n (je i k a) D σ H) : jW (tBM M.K "list" og (tOp (ow M.K) (iB i) (tD M n k)) (jI (tD M n a) pN)) D σ H := by
 obtain ⟨F, ρ, fp, S, p⟩ := h;unfold je at p;split at p
 ·rename_i xs e
  have hc : comps (.ol xs) = some (true, xs) := rfl;obtain ⟨v0, _, _, _, h0, own0, _, _⟩ := S.own.at e;refine ⟨v0, h0, F, ρ, fp, S, (aw.bind p).mono fun z pz u F1 H1 fz e1 r1 w1 => ?_⟩
  obtain ⟨G1, d1, k1⟩ := r1.frz e1 w1;generalize z.er = dz at pz k1
  cases dz with
  | int q =>
   cases k1;have pz' : aw M H fp (gJ M n F H fp D) (match ixN xs.length q with
    | some j => match xs[j]? with
     | some (.ol ys) => (a ρ).bind fun y => match y with
      | .ol zs => if ys.length + zs.length ≤ BIG then .ok (.nx (ρ.set i (some (.ol (xs.set j (.ol (ys ++ zs))))))) else .bad
      | _ => .bad
     | _ => .bad
    | none => .bad) := pz
   cases hj : ixN xs.length q with
   | none =>
    rw [hj] at pz';exact pz'.elim
   | some j =>
    rw [hj] at pz';have pz2 : aw M H fp (gJ M n F H fp D) (match xs[j]? with
     | some (.ol ys) => (a ρ).bind fun y => match y with
      | .ol zs => if ys.length + zs.length ≤ BIG then .ok (.nx (ρ.set i (some (.ol (xs.set j (.ol (ys ++ zs))))))) else .bad
      | _ => .bad
     | _ => .bad) := pz'
    split at pz2
    ·rename_i ys hy
     obtain ⟨b0, vs, b, ws, f, h1, ha, hl, hb1, hb, hw, nf, ff, wr⟩ := (S.ext d1).write2 e hc hy;rw [h0] at h1;cases h1;have at1 : atI vs q = some (.ref b) := by
      unfold atI;rw [hl, hj];exact hb1
     refine ⟨b0, vs, q, .ref b, rfl, rfl, SqL.of ha, at1, .inl ⟨rfl, ws, SqL.of hb⟩, G1, ρ, fp, S.ext d1, ((aw.bind pz2).ext d1).mono fun y py v F2 H2 fy e2 r2 w2 => ?_⟩
     cases y with
     | sh d => exact py.elim
     | ot ys => exact py.elim
     | od ys => exact py.elim
     | ol zs =>
      have py' : aw M H fp (gJ M n F H fp D) (if ys.length + zs.length ≤ BIG then .ok (.nx (ρ.set i (some (.ol (xs.set j (.ol (ys ++ zs))))))) else .bad) := py
      by_cases hlt : ys.length + zs.length ≤ BIG
      ·rw [if_pos hlt] at py'
       obtain ⟨ro, rn, rf⟩ := r2;cases ro with
       | @ol c us _ g hcc hu =>
        refine ⟨b, c, ws, us, rfl, rfl, e2.hh _ _ hb, hcc, by rw [hw.len, hu.len]; exact fK hlt, ?_⟩
        have o : OwnL M.K F2 H2 (ws ++ us) (ys ++ zs) (f ++ g) := (hw.mono e2.ff fun c _ o q => e2.hh _ _ q).app hu
        obtain ⟨fp', S', st⟩ := wr F2 H2 _ _ _ e2 o (List.nodup_append.mpr ⟨nf, (List.nodup_cons.mp rn).2, fun c m d m' z => by
         subst z;obtain ⟨o, q⟩ := hw.dom c m;rw [w2 c (List.mem_cons_of_mem _ m')] at q;cases q⟩) (fun c m => (List.mem_append.mp m).elim .inl fun m => .inr (w2 c (List.mem_cons_of_mem _ m))) (fun c m => (List.mem_append.mp m).elim (fun m => let ⟨_, q⟩ := hw.dom c m; e2.nw c (bS q) (ff c m)) fun m => rf c (List.mem_cons_of_mem _ m))
        exact py' σ F2 _ fp' S' (d1.stp.trans st)
      ·rw [if_neg hlt] at py'
       exact py'.elim
    ·exact pz2.elim
  | none => exact pz.elim
  | bool _ => exact pz.elim
  | str _ => exact pz.elim
  | list _ => exact pz.elim
  | tuple _ => exact pz.elim
  | dict _ => exact pz.elim
 ·exact p.elim
end
section
variable {M : Mx} {X : Cx} {e b : Expr} {x : Str} {p ap cp pos : Pos} {fa fb : Fe}
theorem uA {p2 : Pos} (i : Nat) (hb : DE M X b fb) (h : DE M X e fa) (hix : kF b) (hN : X.N[i]? = some x := by rfl) (hv : Vis X.env.scope x := by first | exact Or.inl rfl | exact Or.inr (Or.inl rfl) | exact Or.inr (Or.inr rfl)) (hd : (x == ("__debug__" : Str)) = false := by decide) (hcd : (x == ("__classdict__" : Str)) = false := by decide)
  (hbase : attributeBase (.Subscript (.Name x p) b p2) "extend" X.env (eval (.Subscript (.Name x p) b p2) X.env) = eval (.Subscript (.Name x p) b p2) X.env := by rfl)
  (hfew : ((backTo cp (starEach [e] X.env)).all (fun x => !x.1) && (backToKw cp (keywordEach [] X.env)).all (fun x => x.1.isSome) && decide (([e] : List Expr).length + ([] : List Keyword).length + (if ([] : List Keyword).isEmpty then 0 else 1) < 30)) = true := by rfl)
  (hline : (ap.endLine == cp.line) = true := by rfl) (hs : starEach [e] X.env = (false, eval e X.env) :: starEach [] X.env := by rfl) (hplain : (backTo cp (starEach [] X.env)).any (·.1) = false := by rfl)
  (hsw : swapsWith (.Call (.Attribute (.Subscript (.Name x p) b p2) "extend" ap) [e] [] cp) none pos.line X.env = pure false := by rfl) : DS M X (.Expr (.Call (.Attribute (.Subscript (.Name x p) b p2) "extend" ap) [e] [] cp) pos) (je i fb fa) := fun hK hM =>
 vX PySem.F.slot_list_extend PySem.F.type_list_extend mq (qX (lh M.K hK) (fJ hN hv hd hcd) (hb hK hM) hix) (xG h hs hK hM) (fun _ _ _ q => wI q) hbase hfew hline hs hplain hsw hK
end
section
variable {ρ : Env} {k a : Fe}
theorem xa {i : Nat} {xs ys zs : List OD} {z : Int} {j : Nat} (h1 : ρ[i]? = some (some (.ol xs))) (h2 : k ρ = .ok (.sh (.int z))) (h3 : ixN xs.length z = some j) (h4 : xs[j]? = some (.ol ys)) (h5 : a ρ = .ok (.ol zs)) (h6 : ys.length + zs.length ≤ BIG) :
  je i k a ρ = .ok (.nx (ρ.set i (some (.ol (xs.set j (.ol (ys ++ zs))))))) := by
 unfold je;rw [h1, h2];simp only [fO, bN, h3, h4, h5, h6, if_true]
end
noncomputable def nT (ks : List PyData) (j : Nat) : Bool := ks.any fun d => match d with
 | .int q => decide (q = (j : Int))
 | _ => false
noncomputable def eS (ks : List PyData) : Nat → List OD → List OD
 | _, [] => []
 | i, x :: xs => (if nT ks i = true then .sh x.er else x) :: eS ks (i + 1) xs
noncomputable def kY (i c : Nat) (f : Fs) : Fs := fun ρ => match ρ[i]?, ρ[c]? with
 | some (some (.ol xs)), some (some (.sh (.list ks))) => f (ρ.set i (some (.ol (eS ks 0 xs))))
 | _, _ => f ρ
theorem OwnL.frzS {K : PySem.W.Frag} {F H : Hp} (ks : List PyData) (i : Nat) {vs : List V} {xs : List OD} {f : List Addr} (o : OwnL K F H vs xs f) (nd : f.Nodup) :
  ∃ f0 f1 : List Addr, (∀ a, a ∈ f ↔ a ∈ f0 ∨ a ∈ f1) ∧ f1.Nodup ∧ (∀ a ∈ f0, a ∉ f1) ∧ ∀ G, aK F G → (∀ a ∈ f0, ∀ o, H a = some o → G a = some o) → OwnL K G H vs (eS ks i xs) f1 := by
 induction xs generalizing i vs f with
 | nil =>
  cases o;exact ⟨[], [], (fun a => by simp), List.nodup_nil, (fun a m => by cases m), fun G e k => OwnL.nil⟩
 | cons x r0 ih =>
 cases o with
 | @cons _ _ fh fr _ _ h r =>
  rw [List.nodup_append] at nd;obtain ⟨n1, n2, n3⟩ := nd;obtain ⟨f0, f1, a1, a2, a3, a4⟩ := ih (i + 1) r n2;by_cases hp : nT ks i = true
  ·refine ⟨fh ++ f0, f1, fun a => ?_, a2, fun a m m1 => ?_, fun G e k => ?_⟩
   ·rw [List.mem_append, List.mem_append, a1 a]
    constructor
    ·rintro (z | z | z)
     ·exact .inl (.inl z)
     ·exact .inl (.inr z)
     ·exact .inr z
    ·rintro ((z | z) | z)
     ·exact .inl z
     ·exact .inr (.inl z)
     ·exact .inr (.inr z)
   ·rcases List.mem_append.mp m with z | z
    ·exact n3 a z a ((a1 a).mpr (.inr m1)) rfl
    ·exact a3 a z m1
   ·unfold eS
    rw [if_pos hp];have := OwnL.cons (K := K) (F := G) (H := H) (f := []) (g := f1) (Own.sh (h.frz e fun a m o q => k a (List.mem_append_left _ m) o q)) (a4 G e fun a m => k a (List.mem_append_right _ m))
    exact this
  ·refine ⟨f0, fh ++ f1, fun a => ?_, ?_, fun a m m1 => ?_, fun G e k => ?_⟩
   ·rw [List.mem_append, List.mem_append, a1 a]
    constructor
    ·rintro (z | z | z)
     ·exact .inr (.inl z)
     ·exact .inl z
     ·exact .inr (.inr z)
    ·rintro (z | z | z)
     ·exact .inr (.inl z)
     ·exact .inl z
     ·exact .inr (.inr z)
   ·rw [List.nodup_append]
    exact ⟨n1, a2, fun a m b m2 => n3 a m b ((a1 b).mpr (.inr m2))⟩
   ·rcases List.mem_append.mp m1 with z | z
    ·exact n3 a z a ((a1 a).mpr (.inl m)) rfl
    ·exact a3 a m z
   ·unfold eS
    rw [if_neg hp];exact .cons (h.mono e fun a m o q => q) (a4 G e k)
section
variable {M : Mx} {n : Nat} {σ : L2.St} {H : Hp} {D : Ends}
theorem yU {f : Fs} {i c : Nat} (h : tS M n (kY i c f) D σ H) : tS M n f D σ H := by
 obtain ⟨F, ρ, fp, S, p⟩ := h;unfold kY at p;split at p
 ·rename_i xs ks e _
  obtain ⟨v, f, g1, g2, h1, h2, rfl, h4⟩ := S.own.at e;cases h2 with
  | @ol a vs _ fl ha hv =>
   have nd := S.nd;have nd' := nd;simp only [List.nodup_append, List.mem_append, List.cons_append, List.nodup_cons, List.mem_cons] at nd';obtain ⟨n1, ⟨na, n2, n3, n4⟩, n5⟩ := nd';obtain ⟨f0, f1, a1, a2, a3, a4⟩ := OwnL.frzS ks 0 hv n2;have ff : ∀ b ∈ f0, F b = none := fun b m => S.fr b (by simp [(a1 b).mpr (.inl m)])
   have o := h4 (jh F H f0) H (fR ff) (fun _ _ _ q => q) (.ref a) (.ol (eS ks 0 xs)) (a :: f1) (.ol ha (a4 _ (fR ff) fun b m o q => by rw [jR m]; exact q))
   rw [kK h1] at o;have sub : ∀ b ∈ g1 ++ ((a :: f1) ++ g2), b ∈ g1 ++ ((a :: fl) ++ g2) ∧ b ∉ f0 := fun b m => by
    simp only [List.mem_append, List.mem_cons, List.cons_append] at m ⊢;rcases m with m | (m | m | m)
    ·exact ⟨.inl m, fun z => n5 b m b (.inr (.inl ((a1 b).mpr (.inl z)))) rfl⟩
    ·exact ⟨.inr (.inl m), fun z => na (.inl (by rw [← m]; exact (a1 b).mpr (.inl z)))⟩
    ·exact ⟨.inr (.inr (.inl ((a1 b).mpr (.inr m)))), fun z => a3 b z m⟩
    ·exact ⟨.inr (.inr (.inr m)), fun z => n4 b ((a1 b).mpr (.inl z)) b m rfl⟩
   have st : Stp F H (g1 ++ ((a :: fl) ++ g2)) (jh F H f0) H (g1 ++ ((a :: f1) ++ g2)) := ⟨fR ff, fun _ _ h _ => h, fun b m => .inl (sub b m).1, fun b h m z => by
    rw [gk fun w => m (by simp [(a1 b).mpr (.inl w)])]
    exact z⟩
   refine ⟨jh F H f0, _, _, ⟨nL S.same, o, ?_, fun b m => ?_, by rw [List.length_set]; exact S.len⟩, PostS.stp st p⟩
   ·simp only [List.nodup_append, List.mem_append, List.cons_append, List.nodup_cons, List.mem_cons]
    refine ⟨n1, ⟨fun z => ?_, a2, n3, fun b m c m2 => n4 b ((a1 b).mpr (.inr m)) c m2⟩, fun b m c m2 => ?_⟩
    ·rcases z with z | z
     ·exact na (.inl ((a1 a).mpr (.inr z)))
     ·exact na (.inr z)
    ·rcases m2 with z | z | z
     ·exact n5 b m c (.inl z)
     ·exact n5 b m c (.inr (.inl ((a1 c).mpr (.inr z))))
     ·exact n5 b m c (.inr (.inr z))
   ·rw [gk (sub b m).2]
    exact S.fr b (sub b m).1
 ·exact ⟨F, ρ, fp, S, p⟩
end
theorem xp {M : Mx} {X : Cx} {st : Stmt} {f : Fs} (i c : Nat) (h : DS M X st f) : DS M X st (kY i c f) := fun hK hM => psI (h hK hM) fun _ _ _ q => yU q
noncomputable def hV (xs : List OD) : List PyData → Option (List PyData)
 | [] => some []
 | .int q :: r => match ixN xs.length q with
  | some j => match xs[j]? with
   | some (.sh d) => (hV xs r).map fun ds => d :: ds
   | _ => none
  | none => none
 | _ :: _ => none
noncomputable def pW (i c : Nat) : Fe := fun ρ => match ρ[i]?, ρ[c]? with
 | some (some (.ol xs)), some (some (.sh (.list ks))) => match hV xs ks with
  | some ds => if ds.length ≤ BIG then .ok (.ol (ds.map OD.sh)) else .bad
  | none => .bad
 | _, _ => .bad
noncomputable def ko (vs : List V) (w : V) : V := match w with
 | .int q => (atI vs q).getD .non
 | _ => .non
theorem qO {K : PySem.W.Frag} {F H : Hp} {vs : List V} {xs : List OD} {f : List Addr} (o : OwnL K F H vs xs f) : ∀ {ws : List V} {ks ds : List PyData}, RepAll K F ws ks → hV xs ks = some ds → RepAll K F (ws.map (ko vs)) ds ∧ ∀ (i : Nat) (w : V), ws[i]? = some w → ∃ (q : Int) (y : V), w = V.int q ∧ atI vs q = some y
 | _, _, _, .nil, e => by
  unfold hV at e;cases e;exact ⟨.nil, fun i w h => by simp at h⟩
 | _, _, ds, .cons (v := v) (d := d) h r, e => by
  cases h with
  | int q =>
   unfold hV at e;split at e
   ·rename_i j hj
    split at e
    ·rename_i d' hd
     obtain ⟨es, he, rfl⟩ := Option.map_eq_some_iff.mp e;obtain ⟨r1, r2⟩ := qO o r he;obtain ⟨y, f', _, _, y1, y2, _, _⟩ := o.at hd;cases y2 with
     | sh yr =>
      have hat : atI vs q = some y := by
       unfold atI;rw [o.len, hj];exact y1
      refine ⟨.cons (by show Rep K F ((atI vs q).getD V.non) d'; rw [hat]; exact yr) r1, fun i w hw => ?_⟩
      cases i with
      | zero =>
       simp at hw
       subst hw;exact ⟨q, y, rfl, hat⟩
      | succ i => exact r2 i w (by simpa using hw)
    ·cases e
   ·cases e
  | non => unfold hV at e; cases e
  | bl b => unfold hV at e; cases e
  | str x => unfold hV at e; cases e
  | lst _ _ => unfold hV at e; cases e
  | tup _ _ => unfold hV at e; cases e
  | dct _ _ _ => unfold hV at e; cases e
theorem Eh {M : Mx} {n : Nat} {σ : L2.St} {H : Hp} {Q : VK} {i c : Nat} {x : Str} (h : tD M n (pW i c) σ H Q) : pq (pP M.K (iB c)) (kl 0) wo (tOp (ow M.K) (iB 1) (iB 0)) 1 [(i, x)] σ H Q := by
 obtain ⟨F, ρ, fp, S, p⟩ := h;unfold pW at p;split at p
 ·rename_i xs ks e1 e2
  split at p
  ·rename_i ds hds
   split at p
   ·rename_i hbig
    obtain ⟨v, f, g1, g2, h1, h2, _, _⟩ := S.own.at e1;obtain ⟨w, f', _, _, k1, k2, _, _⟩ := S.own.at e2;cases h2 with
    | @ol l vs _ fl hl ov =>
     cases k2 with
     | sh kr =>
      cases kr with
      | @lst a ws _ rd rw' =>
       obtain ⟨r1, r2⟩ := qO ov rw' hds;have hsl : slots 1 [(i, x)] σ = [none, some (.ref l)] := by
        unfold slots;show [none] ++ [(σ[i]?).join] = _
        rw [h1];rfl
       refine ⟨.ref a, k1, a, rfl, ⟨ws, (rd.same S.same).sq⟩, fun D hD => ?_⟩
       rw [hsl];refine uQ (K := M.K) (xs := ws) (PvM H D fun i => (ws.take i).map (ko vs)) (PvM.start hD (by simp)) (fun i acc H' _ pv => ((rd.same S.same).same pv.2.1).sq) (fun i y acc H' hy pv => ?_) fun acc H' pv => ?_
       ·obtain ⟨q, z, rfl, hz⟩ := r2 i y hy
        have il := (List.getElem?_eq_some_iff.mp hy).1;have lw := r1.len;rw [List.length_map] at lw;refine ⟨⟨rfl, trivial⟩, ?_⟩;unfold wo;simp only [reduceIte];refine ⟨.ref l, rfl, .int q, rfl, l, vs, q, z, rfl, rfl, SqL.of (pv.2.1 _ _ hl), hz, ?_⟩;refine PvM.yes hD pv ?_ ?_
        ·show (ws.take (i + 1)).map (ko vs) = (ws.take i).map (ko vs) ++ [z]
         rw [List.take_add_one, hy, List.map_append];have ez : ko vs (.int q) = z := by show (atI vs q).getD V.non = z; rw [hz]; rfl
         show _ ++ [ko vs (.int q)] = _
         rw [ez]
        ·show ((ws.take i).map (ko vs)).length < sizeLine
         rw [List.length_map, List.length_take];exact oj (by lia)
       ·obtain ⟨pa, pb, pc⟩ := pv
        have pa' : acc = (ws.take ws.length).map (ko vs) := pa;rw [List.take_of_length_le (Nat.le_refl _)] at pa';subst pa';exact p (.ref D) F H' [D] ⟨aK.refl _, pb, S.same.trans pb, fun _ _ z => z⟩ ⟨.ol pc (OwnL.shs r1), by simp, fun a m => by
         have : a = D := by simpa using m
         rw [this];exact S.same.free hD⟩ fun a m => by
         have : a = D := by simpa using m
         rw [this];exact hD
   ·exact p.elim
  ·exact p.elim
 ·exact p.elim
section
variable {M : Mx} {X : Cx} {sc scope : Scope} {p p1 p2 p3 p4 p5 pos spos : Pos} {x y z b : Str}
theorem Bj {i c bi : Nat} (B : Blk X sc scope [(i, x)]) (hN : X.N.Nodup) (hix : X.N[bi]? = some b) (hx : Loc X.env.scope b) (hcalm : X.calm = true) (hc : X.N[c]? = some z) (hv : Vis X.env.scope z)
  (hg : ∀ s H C ex pins, PG (cxB X ([y] ++ [(i, x)].map (·.2)) scope s H C ex pins) (.Name y p4) (kl 0))
  (he : ∀ s H C ex pins, (cxB X ([y] ++ [(i, x)].map (·.2)) scope s H C ex pins).K = M.K → PE (cxB X ([y] ++ [(i, x)].map (·.2)) scope s H C ex pins) (.Subscript (.Name x p1) (.Name y p2) p3) (tOp (ow M.K) (iB 1) (iB 0)))
  (hd : (z == ("__debug__" : Str)) = false := by decide) (hcd : (z == ("__classdict__" : Str)) = false := by decide)
  (hsw : swapsWith (.ListComp (.Subscript (.Name x p1) (.Name y p2) p3) [⟨.Name y p4, .Name z p5, [], 0⟩] scope pos) (some (.Name b p)) spos.line X.env = pure true := by rfl)
  (hs : ∀ v, foldedSetIterable (.Name z p5) X.env v = pure v := by intro _; rfl) (hf : X.fn b = true ∨ X.env.scope.names.lookup b = some .local := by first | exact .inl rfl | exact .inr rfl | assumption) :
  DS M X (.Assign [.Name b p] (.ListComp (.Subscript (.Name x p1) (.Name y p2) p3) [⟨.Name y p4, .Name z p5, [], 0⟩] scope pos) spos) (aN bi (eSh (pW i c))) := fun hK hM =>
 psI (rR (wi := pP M.K (iB c)) (g := kl 0) (tc := wo) (te := tOp (ow M.K) (iB 1) (iB 0)) [y] hN hix hx B hcalm (tM M.K hK (fJ hc hv hd hcd)) hg (fun _ _ _ _ _ => ve) (fun s H C ex pins => he s H C ex pins hK) hsw hs hf) fun D σ H q => by
  have q' := vD (oM hix) q;exact Eh (lj q')
end
end L3
namespace L3
open PySem L2
theorem zF {i c : Nat} {f : Fs} {ρ : Env} {xs : List OD} {ks : List PyData} (h1 : ρ[i]? = some (some (.ol xs))) (h2 : ρ[c]? = some (some (.sh (.list ks)))) : kY i c f ρ = f (ρ.set i (some (.ol (eS ks 0 xs)))) := by
 unfold kY;rw [h1, h2]
theorem Er {i c : Nat} {ρ : Env} {xs : List OD} {ks ds : List PyData} (h1 : ρ[i]? = some (some (.ol xs))) (h2 : ρ[c]? = some (some (.sh (.list ks)))) (h3 : hV xs ks = some ds) (h4 : ds.length ≤ BIG) : pW i c ρ = .ok (.ol (ds.map OD.sh)) := by
 unfold pW;rw [h1, h2];show (match hV xs ks with | some ds => if ds.length ≤ BIG then R.ok (OD.ol (ds.map OD.sh)) else .bad | none => .bad) = _
 rw [h3];show (if ds.length ≤ BIG then _ else _) = _
 rw [if_pos h4]
theorem iE (ks : List PyData) : ∀ (xs : List OD) (i j : Nat), (eS ks i xs)[j]? = (xs[j]?).map fun x => if nT ks (i + j) = true then OD.sh x.er else x
 | [], i, j => by simp [eS]
 | x :: xs, i, 0 => by simp [eS]
 | x :: xs, i, j + 1 => by
  rw [eS, List.getElem?_cons_succ, List.getElem?_cons_succ, iE ks xs (i + 1) j, show i + 1 + j = i + (j + 1) by lia]
theorem jC (ks : List PyData) : ∀ (xs : List OD) (i : Nat), (eS ks i xs).length = xs.length
 | [], i => rfl
 | x :: xs, i => by rw [eS, List.length_cons, List.length_cons, jC ks xs (i + 1)]
theorem qI (ks : List PyData) : ∀ (xs : List OD) (i : Nat), (eS ks i xs).map OD.er = xs.map OD.er
 | [], i => rfl
 | x :: xs, i => by
  rw [eS, List.map_cons, List.map_cons, qI ks xs (i + 1)];congr 1
  split
  ·exact bN _
  ·rfl
end L3
namespace L2
open PySem PySem.Spec PyProof.Rows
noncomputable def pA (scope : Scope) (cl : List (Str × Addr)) (C : Addr) (env : Env) : Env := compEnvC scope (cellsFrom (C + 1) scope.names cl) C env
theorem jc : ∀ (names : List (Str × NameKind)) (n : Nat) (acc : List (Str × Addr)) {x : Str} {c : Addr}, (x, c) ∈ cellsFrom n names acc → (x, c) ∈ acc ∨ (n ≤ c ∧ (x, NameKind.cell) ∈ names)
 | [], n, acc, x, c, h => .inl h
 | (y, k) :: r, n, acc, x, c, h => by
  unfold cellsFrom at h;split at h
  ·rename_i hk
   have hk' : k = .cell := by simpa using hk
   rcases jc r (n + 1) _ h with h | ⟨h1, h2⟩
   ·rcases List.mem_cons.mp h with e | h
    ·cases e
     exact .inr ⟨Nat.le_refl _, by rw [← hk']; exact List.mem_cons_self⟩
    ·exact .inl h
   ·exact .inr ⟨by lia, List.mem_cons_of_mem _ h2⟩
  ·rcases jc r n _ h with h | ⟨h1, h2⟩
   ·exact .inl h
   ·exact .inr ⟨h1, List.mem_cons_of_mem _ h2⟩
theorem eG : ∀ (names : List (Str × NameKind)) (n : Nat) (acc : List (Str × Addr)) {x : Str} {c : Addr}, (cellsFrom n names acc).lookup x = some c → acc.lookup x = some c ∨ (n ≤ c ∧ (x, NameKind.cell) ∈ names)
 | [], n, acc, x, c, h => .inl h
 | (y, k) :: r, n, acc, x, c, h => by
  unfold cellsFrom at h;split at h
  ·rename_i hk
   have hk' : k = .cell := by simpa using hk
   rcases eG r (n + 1) _ h with h | ⟨h1, h2⟩
   ·rw [List.lookup_cons] at h
    cases hx : x == y with
    | true =>
     rw [hx] at h;cases h;have : x = y := by simpa using hx
     exact .inr ⟨Nat.le_refl _, by rw [← hk', this]; exact List.mem_cons_self⟩
    | false =>
     rw [hx] at h;exact .inl h
   ·exact .inr ⟨by lia, List.mem_cons_of_mem _ h2⟩
  ·rcases eG r n _ h with h | ⟨h1, h2⟩
   ·exact .inl h
   ·exact .inr ⟨h1, List.mem_cons_of_mem _ h2⟩
theorem gY : ∀ (names : List (Str × NameKind)) (n : Nat) (acc : List (Str × Addr)) {x : Str}, (x, NameKind.cell) ∉ names → (cellsFrom n names acc).lookup x = acc.lookup x
 | [], n, acc, x, h => rfl
 | (y, k) :: r, n, acc, x, h => by
  unfold cellsFrom;split
  ·rename_i hk
   have hk' : k = .cell := by simpa using hk
   rw [gY r (n + 1) _ fun z => h (List.mem_cons_of_mem _ z), List.lookup_cons]
   have : (x == y) = false := by
    cases hx : x == y with
    | false => rfl
    | true =>
     have e : x = y := by simpa using hx
     exact absurd (by rw [e, ← hk']; exact List.mem_cons_self) h
   rw [this]
  ·exact gY r n _ fun z => h (List.mem_cons_of_mem _ z)
theorem gX : ∀ (names : List (Str × NameKind)) (h : Heap) (acc : List (Str × Addr)) {x : Str} {c : Addr}, (cellsFrom h.objs.size names acc).lookup x = some c → acc.lookup x = some c ∨ (pushCells h names).IsCell c none
 | [], h, acc, x, c, e => .inl e
 | (y, k) :: r, h, acc, x, c, e => by
  unfold cellsFrom at e;unfold pushCells;split at e
  ·rename_i hk
   rw [if_pos hk];have sz : (h.push { cls := .type "cell", data := .cell none }).objs.size = h.objs.size + 1 := Heap.size_push ..;rw [← sz] at e;rcases gX r (h.push { cls := .type "cell", data := .cell none }) _ e with q | q
   ·rw [List.lookup_cons] at q
    cases hx : x == y with
    | true =>
     rw [hx] at q;cases q;exact .inr ⟨_, pushCells_keeps _ _ _ _ (Heap.get?_push_size _ rfl), rfl⟩
    | false =>
     rw [hx] at q;exact .inl q
   ·exact .inr q
  ·rename_i hk
   rw [if_neg hk];exact gX r h _ e
theorem oP {M : Model} {A : Around} {E : Value → Shared → Prop} {s : Shared} {scope : Scope} {globals : Addr} {closure : List (Str × Addr)} {qual : Str} {outer : Env} {Q : Env → Shared → Prop}
  (h : ∀ h1 : Heap, (∀ b o, s.heap.get? b = some o → h1.get? b = some o) → h1.Ns s.heap.objs.size (fun _ => none) → h1 = pushCells (s.heap.push { cls := .type "dict", data := .dict #[] }) scope.names →
   Q { scope := scope, locals := s.heap.objs.size, globals := globals, cells := cellsFrom (s.heap.objs.size + 1) scope.names closure, qual := qual, func := none, code := outer.code, frame := outer.frame, builtins := outer.builtins } { s with heap := h1 }) :
  wpAny M A (newFunctionEnv scope globals closure [] qual none .none (some outer)) Q E s := by
 simp only [newFunctionEnv, Option.isSome_some, if_true];refine wpAny_bind (wpAny_alloc ?_);refine wpAny_bind (wpAny_layCells _ (fun name kind cells => by cases hkc : kind == NameKind.cell <;> simp [hkc]) _ _ _ _ ?_)
 rw [show ({ s with heap := s.heap.push { cls := .type "dict", data := .dict #[] } } : Shared).heap.objs.size = s.heap.objs.size + 1 from Heap.size_push ..]
 refine wpAny_bind ?_;rw [List.forIn_nil];refine wpAny_pure (wpAny_pure (h _ (fun b o e => pushCells_keeps _ _ b o (Heap.get?_push_of_some _ e)) ((Heap.Ns.new s.heap (.type "dict")).keeps (pushCells_keeps _ _)) rfl))
end L2
namespace L2
open PySem PySem.Spec PyProof.Rows
theorem gS : ∀ (names : List (Str × NameKind)) (n : Nat) (acc : List (Str × Addr)), (∀ x c, acc.lookup x = some c → @LT.lt Nat instLTNat c n) → (∀ x y c, acc.lookup x = some c → acc.lookup y = some c → x = y) → ∀ x y c, (cellsFrom n names acc).lookup x = some c → (cellsFrom n names acc).lookup y = some c → x = y
 | [], n, acc, _, hi, x, y, c, h1, h2 => hi x y c h1 h2
 | (z, k) :: r, n, acc, hb, hi, x, y, c, h1, h2 => by
  unfold cellsFrom at h1 h2;split at h1
  ·rename_i hk
   rw [if_pos hk] at h2;have look : ∀ x c, ((z, n) :: acc).lookup x = some c → (x = z ∧ c = n) ∨ acc.lookup x = some c := fun x c h => by
    rw [List.lookup_cons] at h;cases hx : x == z with
    | true =>
     rw [hx] at h;exact .inl ⟨by simpa using hx, (Option.some.inj h).symm⟩
    | false =>
     rw [hx] at h;exact .inr h
   refine gS r (n + 1) ((z, n) :: acc) (fun x c h => ?_) (fun x y c h1 h2 => ?_) x y c h1 h2
   ·rcases look x c h with ⟨_, e⟩ | h
    ·rw [e]
     exact Nat.lt_succ_self n
    ·exact Nat.lt_succ_of_lt (hb x c h)
   ·rcases look x c h1 with ⟨e1, f1⟩ | h1
    ·rcases look y c h2 with ⟨e2, f2⟩ | h2
     ·rw [e1, e2]
     ·rw [f1] at h2
      exact absurd (hb y n h2) (Nat.lt_irrefl _)
    ·rcases look y c h2 with ⟨e2, f2⟩ | h2
     ·rw [f2] at h1
      exact absurd (hb x n h1) (Nat.lt_irrefl _)
     ·exact hi x y c h1 h2
  ·rename_i hk
   rw [if_neg hk] at h2;exact gS r n acc hb hi x y c h1 h2
theorem j8 {env : Env} {x : Str} {c : Addr} : ∀ (l : List (Str × NameKind)) (cs : List (Str × Addr)), (frees env l cs).lookup x = some c → cs.lookup x = some c ∨ (x, NameKind.free) ∈ l
 | [], cs, h => .inl h
 | (n, k) :: r, cs, h => by
  unfold frees at h;split at h
  ·rename_i hk
   have hk' : k = .free := by simpa using hk
   rcases j8 r _ h with h | h
   ·rw [List.lookup_cons] at h
    cases hx : x == n with
    | true =>
     have : x = n := by simpa using hx
     exact .inr (by rw [this, ← hk']; exact List.mem_cons_self)
    | false =>
     rw [hx] at h;exact .inl h
   ·exact .inr (List.mem_cons_of_mem _ h)
  ·rcases j8 r _ h with h | h
   ·exact .inl h
   ·exact .inr (List.mem_cons_of_mem _ h)
noncomputable def nt (scope : Scope) (x : Str) : Bool := scope.names.any fun p => p.1 == x && p.2 == NameKind.cell
theorem o7 {scope : Scope} {x : Str} (h : nt scope x = true) : (x, NameKind.cell) ∈ scope.names := by
 unfold nt at h;rw [List.any_eq_true] at h;obtain ⟨⟨y, k⟩, hm, e⟩ := h;rw [Bool.and_eq_true] at e;have e1 : y = x := by simpa using e.1
 have e2 : k = .cell := by simpa using e.2
 rw [e1, e2] at hm;exact hm
noncomputable def cxK (X : Cx) (N : List Str) (scope : Scope) (s : Shared) (H : Hp) (C : Addr) (ex : List Addr) (pins : List (Addr × Obj)) : Cx :=
 { X with N := N, s₀ := s, H₀ := H, env := pA scope (frees X.env scope.names []) C X.env, outer := X.stack, ex := ex, fn := nt scope, pn := X.pn ++ pins, xe := fun _ _ => False }
structure BlkK (X : Cx) (sc scope : Scope) (outs : List (Nat × Str)) : Prop where
 hsc : X.env.scope = sc
 kind : scope.kind = .function
 loc : ∀ x ∈ scope.names, x.2 = .local → scope.names.lookup x.1 = some .local
 own : ∀ x ∈ scope.names, x.2 = .cell → scope.names.lookup x.1 = some .cell
 ap : ∀ x ∈ scope.names, x.2 = .free → (x.1, NameKind.cell) ∉ scope.names
 fr : ∀ x ∈ scope.names, x.2 = .free → sc.names.lookup x.1 = some .cell ∨ sc.names.lookup x.1 = some .free
 out : iq X scope outs
section
variable {X : Cx} {sc scope : Scope} {own : List Str} {outs : List (Nat × Str)} {elt tg iter : Expr} {ifs : List Expr} {pos : Pos} {g : TG} {tc : TT} {te : TE}
theorem mF (B : BlkK X sc scope outs) {pins : List (Addr × Obj)} {σ : St} {H : Hp} {s : Shared} (I : Inv X pins σ H s) : ∀ x ∈ scope.names, x.2 = .free → ∃ c, X.env.cells.lookup x.1 = some c := fun x hx hf => by
 refine I.ok.has x.1 ?_;show X.env.scope.names.lookup x.1 = _ ∨ X.env.scope.names.lookup x.1 = _
 rw [B.hsc];exact B.fr x hx hf
theorem uU (B : BlkK X sc scope outs) {pins : List (Addr × Obj)} {σ : St} {H : Hp} {s : Shared} {fp : List Addr} (I : Inv X pins σ H s) (f2 : ∀ b ∈ fp, i7 X pins H b) (fo : ∀ b ∈ fp, ∃ o, s.heap.get? b = some o)
  {h1 : Heap} {m : Str → Option Value} {tk : Nat} (hn : h1.Ns (s.heap.objs.size + 1) m) (old : ∀ b o, s.heap.get? b = some o → h1.get? b = some o)
  (hD : h1.get? s.heap.objs.size = some { cls := .type "list", data := .seq #[] 0 })
  (hcl : ∀ x c, (cellsFrom (s.heap.objs.size + 1 + 1) scope.names (frees X.env scope.names [])).lookup x = some c → (frees X.env scope.names []).lookup x = some c ∨ h1.IsCell c none) :
  Inv (cxK X (own ++ outs.map (·.2)) scope s H (s.heap.objs.size + 1) fp pins) [] (slots own.length outs σ) (upd H s.heap.objs.size (.lst [])) { s with heap := h1, toks := tk } := by
 have bf := mF B I;have sub : ∀ x c, (frees X.env scope.names []).lookup x = some c → X.env.cells.lookup x = some c := fun x c e => iP _ _ bf (fun c' e' => by simp at e') e
 have clt : ∀ x c, X.env.cells.lookup x = some c → c < s.heap.objs.size := fun x c e => (let ⟨v, q⟩ := I.cell x c e; q.lt)
 have flo : ∀ x c, (frees X.env scope.names []).lookup x = some c → (x, NameKind.cell) ∉ scope.names := fun x c e => by
  rcases j8 _ _ e with q | q
  ·simp at q
  ·exact B.ap _ q rfl
 have K1 : ∀ x c, (cellsFrom (s.heap.objs.size + 1 + 1) scope.names (frees X.env scope.names [])).lookup x = some c → X.env.cells.lookup x = some c ∨ (s.heap.objs.size + 2 ≤ c ∧ h1.IsCell c none) := fun x c e => by
  rcases eG _ _ _ e with q | ⟨q1, q2⟩
  ·exact .inl (sub x c q)
  ·rcases hcl x c e with z | z
   ·exact absurd q2 (flo x c z)
   ·exact .inr ⟨q1, z⟩
 have K2 : ∀ x c, (frees X.env scope.names []).lookup x = some c → (cellsFrom (s.heap.objs.size + 1 + 1) scope.names (frees X.env scope.names [])).lookup x = some c := fun x c e => by rw [gY _ _ _ (flo x c e)]; exact e
 have flt : ∀ b ∈ fp, b < s.heap.objs.size := fun b hb => (let ⟨o, e⟩ := fo b hb; Heap.lt_size e)
 have un : Un (cxK X (own ++ outs.map (·.2)) scope s H (s.heap.objs.size + 1) fp pins).fs (cxK X (own ++ outs.map (·.2)) scope s H (s.heap.objs.size + 1) fp pins).ex H (upd H s.heap.objs.size (.lst [])) s.heap h1 := Un.laid old (Nat.le_refl _) I.fresh;have hok : HOk X.prog X.w (upd H s.heap.objs.size (.lst [])) h1 := I.hok.laid old (Nat.le_refl _) ⟨Nat.zero_le _, [], 0, .nil, hD⟩;refine ⟨⟨I.ok.mod, B.kind, I.ok.glob, I.ok.blt, Nat.le_succ _, fun x y c e1 e2 => gS _ _ _ (fun x c e => Nat.lt_of_lt_of_le (clt x c (sub x c e)) (Nat.le_trans (Nat.le_succ _) (Nat.le_succ _))) (fun x y c e1 e2 => I.ok.inj x y c (sub x c e1) (sub y c e2)) x y c e1 e2, fun x hx => ?_, fun x c hf hq => ?_, I.ok.hd, I.ok.frames, .inl rfl, fun b hb => ⟨?_, fun x c e => ?_⟩, I.bs, ?_, fun b o e hb => ?_, fun b hb z => ?_, I.stack, I.stkFree⟩,
  rfl, I.bare, un, ⟨m, hn, fun i x v e1 e2 e3 => ?_⟩, fun x c e => ?_, ?_, fun x c e => ?_, fun p hp => ?_, hok, ?_⟩
 ·have go : ∃ k, scope.names.lookup x = some k ∧ (k = .free ∨ k = .cell) := by
   rcases hx with hx | hx
   ·obtain ⟨k, e, hk⟩ := mH (show ((scope.names.map _).lookup x = some .cell) from hx)
    rcases hk with hk | hk
    ·exact ⟨k, e, .inr hk.symm⟩
    ·exact ⟨k, e, .inl hk.1⟩
   ·obtain ⟨k, e, hk⟩ := mH (show ((scope.names.map _).lookup x = some .free) from hx)
    rcases hk with hk | hk
    ·exact ⟨k, e, .inl hk.symm⟩
    ·exact ⟨k, e, .inl hk.1⟩
  obtain ⟨k, e, hk⟩ := go;rcases hk with rfl | rfl
  ·obtain ⟨c, hc⟩ := f9 (env := X.env) (x := x) scope.names [] (.inl (cS e))
   exact ⟨c, K2 x c hc⟩
  ·exact Option.isSome_iff_exists.mp (PySem.W.cellsFrom_some scope.names _ _ (.inl e))
 ·rcases eG _ _ _ hq with q | ⟨q1, _⟩
  ·exact absurd (o7 hf) (flo x c q)
  ·exact Nat.le_trans (Nat.le_trans (Nat.le_succ _) (Nat.le_succ _)) q1
 ·exact Nat.ne_of_lt (Nat.lt_succ_of_lt (flt b hb))
 ·rcases K1 x c e with q | ⟨q1, _⟩
  ·exact (f2 b hb).2.2.2.2.1 x c q
  ·exact fun z => absurd (flt b hb) (Nat.not_lt.mpr (by rw [← z]; exact Nat.le_trans (Nat.le_trans (Nat.le_succ _) (Nat.le_succ _)) q1))
 ·exact Nat.le_trans I.ok.bsz I.sz
 ·rcases (f2 b hb).2.2.2.1 with z | z
  ·exact I.ok.noex b o e z
  ·exact absurd (Nat.lt_of_lt_of_le (Heap.lt_size e) (Nat.le_trans I.ok.bsz z)) (Nat.lt_irrefl _)
 ·rcases List.mem_cons.mp (I.stkSub b z) with q | q
  ·exact (f2 b hb).2.1 q
  ·exact (f2 b hb).2.2.1 q
 ·
  have hi : own.length ≤ i := by
   by_cases hi : own.length ≤ i
   ·exact hi
   ·have e2' : (slots own.length outs σ)[i]? = some (some v) := e2
    unfold slots at e2';rw [List.getElem?_append_left (by simpa using Nat.lt_of_not_le hi), List.getElem?_replicate] at e2'
    split at e2' <;> cases e2'
  have e1' : (own ++ outs.map (·.2))[i]? = some x := e1;have e2' : (slots own.length outs σ)[i]? = some (some v) := e2;unfold slots at e2';rw [List.getElem?_append_right hi, List.getElem?_map] at e1';rw [List.getElem?_append_right (by simpa using hi), List.length_replicate, List.getElem?_map] at e2'
  cases ep : outs[i - own.length]? with
  | none =>
   rw [ep] at e1';cases e1'
  | some p =>
   rw [ep] at e1' e2';have ex : p.2 = x := Option.some.inj e1';have ev : (σ[p.1]?).join = some v := Option.some.inj e2';obtain ⟨o1, o2⟩ := B.out.get ep;have es : σ[p.1]? = some (some v) := by
    cases q : σ[p.1]? with
    | none =>
     rw [q] at ev;cases ev
    | some w =>
     rw [q] at ev;have ew : w = some v := ev;rw [ew]
   rw [ex] at o1 o2;have hk : X.env.scope.names.lookup x = some .cell ∨ X.env.scope.names.lookup x = some .free := by
    rw [B.hsc];exact B.fr (x, .free) (cS o2) rfl
   obtain ⟨m0, hn0, hl0⟩ := I.loc;obtain ⟨u, r, l⟩ := hl0 p.1 x v o1 es (hk.elim (fun z => .inr (.inl z)) fun z => .inr (.inr z))
   refine ⟨u, r, .inr ?_⟩;rcases l with ⟨hl, _⟩ | ⟨_, c, ec, hc⟩
   ·have hl' : X.env.scope.names.lookup x = some .local := hl
    rcases hk with z | z <;> (rw [z] at hl'; cases hl')
   ·obtain ⟨c', ec'⟩ := f9 (env := X.env) (x := x) scope.names [] (.inl (cS o2))
    have e3 := sub x c' ec';rw [ec] at e3;cases e3;obtain ⟨oc, q1, q2⟩ := hc;exact ⟨gp o2, c, K2 x c ec', ⟨oc, old _ _ q1, q2⟩⟩
 ·rcases K1 x c e with q | ⟨_, q⟩
  ·obtain ⟨v, oc, q1, q2⟩ := I.cell x c q
   exact ⟨v, oc, old _ _ q1, q2⟩
  ·exact ⟨_, q⟩
 ·show upd H s.heap.objs.size (.lst []) (s.heap.objs.size + 1) = none
  rw [aG (Nat.succ_ne_self _)];exact I.hok.fresh (Nat.le_succ _)
 ·rcases K1 x c e with q | ⟨q1, _⟩
  ·rw [aG (Nat.ne_of_lt (clt x c q))]
   exact I.freeC x c q
  ·have hge : @LE.le Nat instLENat s.heap.objs.size c := Nat.le_trans (Nat.le_trans (Nat.le_succ _) (Nat.le_succ _)) q1
   rw [aG (fun z => by rw [z] at q1; exact absurd q1 (Nat.not_le.mpr (Nat.lt_trans (Nat.lt_succ_self _) (Nat.lt_succ_self _))))]
   exact I.hok.fresh hge
 ·have hp' : p ∈ X.pn ++ pins := by
   have : p ∈ (X.pn ++ pins) ++ [] := hp
   simpa using this
  obtain ⟨q1, q2, q3, q4, q5⟩ := I.pin p hp';refine ⟨old _ _ q1, ?_, Nat.ne_of_lt (Nat.lt_succ_of_lt (Heap.lt_size q1)), fun z => ?_, q5⟩
  ·rw [aG (Nat.ne_of_lt (Heap.lt_size q1))]
   exact q2
  ·rcases List.mem_cons.mp (I.stkSub p.1 z) with q | q
   ·exact q3 q
   ·exact q4 q
 ·show (slots own.length outs σ).length = (own ++ outs.map (·.2)).length
  unfold slots;simp
theorem vw (B : BlkK X sc scope outs) (hcalm : X.calm = true)
  (hg : ∀ s H C ex pins, PG (cxK X (own ++ outs.map (·.2)) scope s H C ex pins) tg g) (hc : ∀ s H C ex pins, PF (cxK X (own ++ outs.map (·.2)) scope s H C ex pins) ifs tc) (he : ∀ s H C ex pins, PE (cxK X (own ++ outs.map (·.2)) scope s H C ex pins) elt te)
  {pins : List (Addr × Obj)} {σ : St} {H : Hp} {s : Shared} {it : Addr} {fp : List Addr} {tn : Nat → Heap → Prop} {J : It} (I : Inv X pins σ H s) (T : Turn X.prog X.w X.K tg J fp it tn) (st : tn 0 s.heap) (f2 : ∀ b ∈ fp, i7 X pins H b)
  {R0 : Addr → Hp → Prop} (hW : ∀ D, H D = none → xN J g tc te (slots own.length outs σ) D H (R0 D)) {RR : Value → Addr → Result → Shared → Prop} {E : Value → Shared → Prop}
  (fin : ∀ D C H' s' m, Inv X pins σ H' s' → i7 X pins H' C → s'.heap.Ns C m → R0 D H' → RR (.ref D) C (.ok .next) s') :
  wpAny (model X.prog X.w) X.A (newList []) (fun acc s3 => wpAny (model X.prog X.w) X.A (newFunctionEnv scope X.env.globals (frees X.env scope.names []) [] X.env.qual none .none (some X.env)) (fun cenv s4 =>
   codeAny (model X.prog X.w) X.A (.compStart (.ListComp elt [⟨tg, iter, ifs, 0⟩] scope pos) 0 (.ref it) acc { cenv with scope := relabel scope X.env }) (RR acc cenv.locals) s4) E s3) E s := by
 refine wpAny_newObj_type (oP fun h1 hs1 hn1 hp1 => ?_)
 dsimp only at hn1 hs1 hp1 ⊢
 have hz : (s.heap.push { cls := .type "list", dict := none, data := .seq ([] : List Value).toArray }).objs.size = s.heap.objs.size + 1 := Heap.size_push ..;rw [hz] at hn1;simp only [hz];have fo : ∀ b ∈ fp, ∃ o, s.heap.get? b = some o := fun b hb => (let ⟨o, e, _⟩ := T.obj 0 _ st b hb; ⟨o, e⟩)
 have old : ∀ b o, s.heap.get? b = some o → h1.get? b = some o := fun b o e => hs1 b o (Heap.get?_push_of_some _ e)
 have hD : h1.get? s.heap.objs.size = some { cls := .type "list", data := .seq #[] 0 } := hs1 _ _ (Heap.get?_push_size _ rfl);have hz2 : ((s.heap.push { cls := .type "list", dict := none, data := .seq ([] : List Value).toArray }).push { cls := .type "dict", data := .dict #[] }).objs.size = s.heap.objs.size + 1 + 1 := by rw [Heap.size_push, hz]
 have hcl : ∀ x c, (cellsFrom (s.heap.objs.size + 1 + 1) scope.names (frees X.env scope.names [])).lookup x = some c → (frees X.env scope.names []).lookup x = some c ∨ h1.IsCell c none := fun x c e => by
  rw [hp1];rw [← hz2] at e;exact gX _ _ _ e
 have I1 := uU (own := own) (tk := s.toks) B I f2 fo hn1 old hD hcl;have st1 : tn 0 h1 := T.keep _ _ _ st fun b _ o e => old b o e
 obtain ⟨W, ⟨m0, w0⟩, turn⟩ := hW _ I.fresh;have fpB : ∀ {H' : Hp}, (∀ b ∈ fp, H' b = none) → ∀ b ∈ fp, i7 (cxK X (own ++ outs.map (·.2)) scope s H (s.heap.objs.size + 1) fp pins) [] H' b := fun hn b hb => by
  obtain ⟨o, eo⟩ := fo b hb;refine ⟨hn b hb, Nat.ne_of_lt (Nat.lt_succ_of_lt (Heap.lt_size eo)), I1.ok.exfs b hb, .inl hb, fun x c e => (I1.ok.exf b hb).2 x c e, fun p hp => ?_⟩
  have hp' : p ∈ X.pn ++ pins := by
   have : p ∈ (X.pn ++ pins) ++ [] := hp
   simpa using this
  exact (f2 b hb).2.2.2.2.2 p hp'
 have loop : ∀ s0 : Shared, s0 = { s with heap := h1, toks := s.toks } →
   codeAny (model X.prog X.w) X.A (.compLoop (.ListComp elt [⟨tg, iter, ifs, 0⟩] scope pos) 0 (.ref it) (.ref s.heap.objs.size) (pA scope (frees X.env scope.names []) (s.heap.objs.size + 1) X.env)) (RR (.ref s.heap.objs.size) (s.heap.objs.size + 1)) s0 := by
  rintro s0 rfl;refine jT (fun n s' => ∃ i acc H', Inv (cxK X (own ++ outs.map (·.2)) scope s H (s.heap.objs.size + 1) fp pins) [] (slots own.length outs σ) H' s' ∧ tn i s'.heap ∧ (∀ b ∈ fp, H' b = none) ∧ W i n acc H') ?_ m0
   ⟨0, [], _, I1, st1, fun b hb => ?_, w0⟩
  ·rintro n s3 ⟨i, acc, H3, I3, st3, fr3, w3⟩
   rcases turn i n acc H3 w3 with ⟨stop, q⟩ | ⟨go, N, hN, step⟩
   ·refine thn (T.done (cxK X (own ++ outs.map (·.2)) scope s H (s.heap.objs.size + 1) fp pins) rfl rfl rfl hcalm i [] s3 _ H3 (fun _ _ => False) I3 (fpB fr3) st3 stop) fun r s4 ⟨hr, I4⟩ => ?_
    subst hr;have IX : Inv X pins σ H3 s4 := I.call' (ch := fp) I4.os I4.base I4.hok I4.bare fun b hb => ⟨(f2 b hb).2.2.2.1, (f2 b hb).2.1, (f2 b hb).2.2.2.2.1, (f2 b hb).2.2.2.2.2⟩
    obtain ⟨m4, hn4, _⟩ := I4.loc;exact fin _ _ H3 s4 m4 IX (I.fpOk (Nat.le_succ _) I4.free) hn4 q
   ·refine thn (T.item (cxK X (own ++ outs.map (·.2)) scope s H (s.heap.objs.size + 1) fp pins) rfl rfl rfl hcalm i [] s3 _ H3 (fun _ _ => False) I3 (fpB fr3) st3 go) fun r s4 ⟨u, hr, h4⟩ => ?_
    subst hr;refine thn h4 fun _ s5 ⟨x, H5, I5, r5, y5, st5, fr5⟩ => ?_
    have I5' := I5.pinned (fpB fr5) (T.obj _ _ st5);have back : ∀ {σ6 : St} {H6 : Hp} {s6 : Shared} {acc' : List V}, Inv (cxK X (own ++ outs.map (·.2)) scope s H (s.heap.objs.size + 1) fp pins) ([] ++ kd fp s5.heap) σ6 H6 s6 → gm (slots own.length outs σ) σ6 → N acc' H6 →
      ∃ m, m < n ∧ ∃ i acc H', Inv (cxK X (own ++ outs.map (·.2)) scope s H (s.heap.objs.size + 1) fp pins) [] (slots own.length outs σ) H' s6 ∧ tn i s6.heap ∧ (∀ b ∈ fp, H' b = none) ∧ W i m acc H' := fun {σ6 H6 s6 acc'} I6 hs hn6 => by
     obtain ⟨m', hm, hw⟩ := hN acc' H6 hn6;refine ⟨m', hm, i + 1, acc', H6, I6.unpinned.weak hs.len fun j v e => hs.get e, T.keep _ _ _ st5 fun b hb o e => (I6.pin (b, o) (List.mem_append_right _ (List.mem_append_right _ (e8 hb e)))).1, fun b hb => ?_, hw⟩
     obtain ⟨o, e, _⟩ := T.obj _ _ st5 b hb;exact (I6.pin (b, o) (List.mem_append_right _ (List.mem_append_right _ (e8 hb e)))).2.1
    refine thn (hg s H _ fp pins _ s5 _ H5 x u _ I5' r5 (step x H5 y5)) fun _ s6 ⟨σ6, H6, I6, hs6, q6⟩ => ?_
    refine thn (hc s H _ fp pins _ s6 σ6 H6 _ I6 q6) fun b s7 ⟨H7, I7, q7⟩ => ?_
    cases b with
    | false =>
     exact back I7 hs6 q7
    | true =>
     refine thn (he s H _ fp pins _ s7 σ6 H7 _ I7 q7) fun yv s8 ⟨y, H8, I8, r8, hd8, hl8, hw⟩ => ?_
     refine thn (iQ _ s8 σ6 H8 (.ref s.heap.objs.size) [y] (.ref s.heap.objs.size) [yv] (fun _ H9 => H9 = upd H8 s.heap.objs.size (.lst (acc ++ [y]))) I8 rfl (.cons r8 .nil) ⟨_, acc, y, rfl, rfl, hd8, hl8, rfl⟩) fun z s9 ⟨zv, H9, I9, _, q9⟩ => ?_
     subst q9;exact back I9 hs6 hw
  ·obtain ⟨o, eo⟩ := fo b hb
   rw [aG (Nat.ne_of_lt (Heap.lt_size eo))];exact (f2 b hb).1
 exact codeAny_compStart_list (loop _ rfl) (T.self X.A 0 _ _ _ st1 (loop _ rfl))
theorem vm {wi : TI} (own : List Str) (B : BlkK X sc scope outs) (hcalm : X.calm = true) (hi : PI X tg iter wi)
  (hg : ∀ s H C ex pins, PG (cxK X (own ++ outs.map (·.2)) scope s H C ex pins) tg g) (hc : ∀ s H C ex pins, PF (cxK X (own ++ outs.map (·.2)) scope s H C ex pins) ifs tc) (he : ∀ s H C ex pins, PE (cxK X (own ++ outs.map (·.2)) scope s H C ex pins) elt te)
  (hs : ∀ x, foldedSetIterable iter X.env x = pure x := by intro _; rfl) : PE X (.ListComp elt [⟨tg, iter, ifs, 0⟩] scope pos) (pq wi g tc te own.length outs) := by
 intro pins s σ H Q I h;rw [eval_ListComp];refine wpAny_comprehension_free (use := none) rfl hs (jw (mF B I)) B.kind B.loc ?_;refine thn (hi pins s σ H _ I h) fun v s1 h1 => thn h1 fun itv s2 h2 => ?_
 obtain ⟨it, fp, tn, J, H2, e, I2, T, st2, f2, hW⟩ := h2;subst e;refine vw (RR := fun acc C => compPost (model X.prog X.w) X.A X.xe none (EP X pins σ Q) acc C) B hcalm hg hc he I2 T st2 f2 hW ?_
 intro D C H' s' m I' hC hn q;refine ⟨m, hn, fun h' hs' => ?_⟩
 obtain ⟨c0, c1, c2, c3, c4, c5⟩ := hC;exact ⟨.ref D, H', I'.turned (t' := s'.toks) (fun b o hb e => (hs'.2 b hb).trans e) c0 c1 c3 c4 c5, rfl, q⟩
end
theorem ua {X : Cx} {N : List Str} {scope0 scope : Scope} {s : Shared} {H : Hp} {C : Addr} {ex : List Addr} {pins : List (Addr × Obj)} {outs : List (Nat × Str)} (kind : scope.kind = .function) (loc : ∀ x ∈ scope.names, x.2 = .local → scope.names.lookup x.1 = some .local) (nocell : ∀ x ∈ scope.names, x.2 ≠ .cell)
  (fr : ∀ x ∈ scope.names, x.2 = .free → scope0.names.lookup x.1 = some .cell ∨ scope0.names.lookup x.1 = some .free) (out : iq (cxK X N scope0 s H C ex pins) scope outs) : Blk (cxK X N scope0 s H C ex pins) (relabel scope0 X.env) scope outs := by
 refine ⟨rfl, kind, loc, nocell, fun x hx hf => ?_, out⟩
 rcases fr x hx hf with h | h
 ·left
  show (scope0.names.map _).lookup x.1 = some NameKind.cell
  have : ∀ names : List (Str × NameKind), names.lookup x.1 = some .cell → (names.map fun (n, k) => if (k == NameKind.free && X.env.scope.kind == .function && X.env.kindOf n == some .cell) then (n, NameKind.cell) else (n, k)).lookup x.1 = some .cell := by
   intro names
   induction names with
   | nil => intro h; simp at h
   | cons y r ih =>
    obtain ⟨n, k⟩ := y;intro h;rw [List.lookup_cons] at h;rw [List.map_cons]
    dsimp only
    by_cases hc : (k == NameKind.free && X.env.scope.kind == .function && X.env.kindOf n == some .cell) = true
    ·rw [if_pos hc, List.lookup_cons]
     cases hx : x.1 == n with
     | true => rfl
     | false =>
      rw [hx] at h;exact ih h
    ·rw [if_neg hc, List.lookup_cons]
     cases hx : x.1 == n with
     | true =>
      rw [hx] at h;exact h
     | false =>
      rw [hx] at h;exact ih h
  exact this _ h
 ·exact gp h
end L2
namespace L3
open PySem L2 PySem.Spec PyProof.Rows
section
variable {M : Mx} {X : Cx} {e a b c : Expr} {es : List Expr} {pos : Pos} {fa fb : Fe} {ta tb : Ft} {al : Fa} {x : Str} {p ap cp : Pos}
variable {sc scope : Scope} {outs : List (Nat × Str)} {elt tg iter : Expr} {ifs : List Expr} {it : Fi} {gg : Fg} {is : List Nat} {el : Fe}
theorem mN (own : List Str) (s : Shared) (H : Hp) (C : Addr) (ex : List Addr) (pins : List (Addr × Obj)) : (cxK X (own ++ outs.map (·.2)) scope s H C ex pins).N.length = own.length + outs.length := by
 show (own ++ outs.map (·.2)).length = _
 rw [List.length_append, List.length_map]
theorem pQ (own : List Str) (B : BlkK X sc scope outs) (hcalm : X.calm = true) (hk : ∀ j ∈ is, j < own.length) (hi : DI M X tg iter it)
  (hg : ∀ s H C ex pins, DG M (cxK X (own ++ outs.map (·.2)) scope s H C ex pins) tg is gg) (hc : ∀ s H C ex pins, DF M (cxK X (own ++ outs.map (·.2)) scope s H C ex pins) ifs ta) (he : ∀ s H C ex pins, DE M (cxK X (own ++ outs.map (·.2)) scope s H C ex pins) elt el)
  (hs : ∀ x, foldedSetIterable iter X.env x = pure x := by intro _; rfl) : DE M X (.ListComp elt [⟨tg, iter, ifs, 0⟩] scope pos) (aZ it gg ta el own.length (outs.map (·.1))) := fun hK hM =>
 peI (vm (wi := tI M X.N.length it) (g := tG M (own.length + outs.length) is gg) (tc := tT M (own.length + outs.length) ta) (te := tD M (own.length + outs.length) el) own B hcalm (hi hK hM)
  (fun s H C ex pins => by have q := hg s H C ex pins hK hM; rw [mN] at q; exact q) (fun s H C ex pins => by have q := hc s H C ex pins hK hM; rw [mN] at q; exact q) (fun s H C ex pins => by have q := he s H C ex pins hK hM; rw [mN] at q; exact q) hs) fun _ _ _ q => qv hk q
end
end L3
namespace L3
open PySem L2 PySem.Spec PyProof.Rows
theorem gZ : ∀ {us : List Value} {ns : List Int}, IntsAre us ns → Vals (ns.map V.int) us
 | _, _, .nil => .nil
 | _, _, .cons n t r => .cons ⟨t, rfl⟩ (gZ r)
section
variable {X : Cx} {M : Mx}
end
end L3
namespace L3
open PySem L2 PySem.Spec PyProof.Rows
section
variable {M : Mx} {n : Nat} {σ : L2.St} {H : Hp} {D : Ends} {Q Q' : VK}
end
noncomputable def LT (F : Hp) (b : Addr) : Prop := (∃ ws, F b = some (.lst ws)) ∨ ∃ r ws, F b = some (.tup (.ref r :: ws))
open Classical in
noncomputable def wa (F : Hp) (f : List Addr) : Hp := fun b => if b ∈ f then none else F b
theorem vV {F : Hp} {f : List Addr} {b : Addr} (h : b ∉ f) : wa F f b = F b := by unfold wa; rw [if_neg h]
section
variable {K : PySem.W.Frag} {F H : Hp} {f : List Addr}
end
section
variable {M : Mx} {n : Nat} {σ : L2.St} {H : Hp} {Q : VK}
end
section
variable {M : Mx} {X : Cx} {e : Expr} {fa fb : Fe}
end
theorem ex1 {α : Type} {us : List α} (h : us.length = 1) : ∃ a, us = [a] := by
 cases us with
 | nil => cases h
 | cons a r =>
  cases r with
  | nil => exact ⟨a, rfl⟩
  | cons b r => cases h
theorem ex2 {α : Type} {us : List α} (h : us.length = 2) : ∃ a b, us = [a, b] := by
 cases us with
 | nil => cases h
 | cons a r =>
  obtain ⟨b, e⟩ := ex1 (Nat.succ.inj h);exact ⟨a, b, by rw [e]⟩
theorem ex3 {α : Type} {us : List α} (h : us.length = 3) : ∃ a b c, us = [a, b, c] := by
 cases us with
 | nil => cases h
 | cons a r =>
  obtain ⟨b, c, e⟩ := ex2 (Nat.succ.inj h);exact ⟨a, b, c, by rw [e]⟩
theorem ex4 {α : Type} {us : List α} (h : us.length = 4) : ∃ a b c d, us = [a, b, c, d] := by
 cases us with
 | nil => cases h
 | cons a r =>
  obtain ⟨b, c, d, e⟩ := ex3 (Nat.succ.inj h);exact ⟨a, b, c, d, by rw [e]⟩
theorem ex5 {α : Type} {us : List α} (h : us.length = 5) : ∃ a b c d f, us = [a, b, c, d, f] := by
 cases us with
 | nil => cases h
 | cons a r =>
  obtain ⟨b, c, d, f, e⟩ := ex4 (Nat.succ.inj h);exact ⟨a, b, c, d, f, by rw [e]⟩
end L3
namespace L3
open PySem L2 PySem.Spec PyProof.Rows
section
variable {M : Mx} {n : Nat} {σ : L2.St} {H : Hp} {Q : VK}
end
section
variable {X : Cx} {M : Mx}
end
end L3
namespace L3
open PySem L2 PySem.Spec PyProof.Rows
end L3
namespace L3
open PySem L2 PySem.Spec PyProof.Rows PySem.W PySem.Calls
end L3
namespace L2
open PySem PySem.Spec PyProof.Rows
noncomputable def ye (n0 n : Nat) : List Value := (List.range n).map fun j => Value.ref (n0 + j)
structure ZS (h : Heap) (n0 n : Nat) (ls : Nat → Nat) (is : Nat → Nat) (f0 : Value) (arr : List Value) : Prop where
 zp : h.get? (n0 + n + 2) = some { cls := .type "zip", dict := none, data := .fields #[f0, .bool false, .bool false, .ref (n0 + n), .ref (n0 + n + 1)], slots := #[] }
 ti : h.get? (n0 + n) = some { cls := .type "tuple", data := .seq (ye n0 n).toArray }
 to : h.get? (n0 + n + 1) = some { cls := .type "tuple", data := .seq arr.toArray }
 it : ∀ j, j < n → h.IsListIter (n0 + j) (ls j) (is j)
section
variable {prog : Program} {w : World} {A : Around} {E : Value → Shared → Prop} {s : Shared}
end
end L2
namespace L2
open PySem PySem.Spec PyProof.Rows
end L2
namespace L3
open PySem L2 PySem.Spec PyProof.Rows
section
variable {M : Mx} {n : Nat} {F H : Hp} {σ : St} {D : Ends} {R' : It → Hp → Prop} {X : Cx}
end
section
variable {M : Mx} {n : Nat} {F H : Hp} {σ : St} {D : Ends} {R' : It → Hp → Prop} {X : Cx}
end
end L3
namespace L2
open PySem PySem.Spec PyProof.Rows
end L2
namespace L3
open PySem L2 PySem.Spec PyProof.Rows
section
variable {M : Mx} {n : Nat} {F H : Hp} {σ : St} {D : Ends} {X : Cx} {b e : Expr} {fa fb : Fe} {x : Str} {p pos : Pos}
end
end L3
namespace L2
open PySem PySem.Spec PyProof.Rows
section
variable {prog : Program} {w : World} {A : Around} {E : Value → Shared → Prop} {s : Shared}
end
structure ZT (h : Heap) (n0 n : Nat) (ls : Nat → Nat) (is : Nat → Nat) (f0 : Value) (arr : List Value) : Prop where
 zp : h.get? (n0 + n + 2) = some { cls := .type "zip", dict := none, data := .fields #[f0, .bool false, .bool false, .ref (n0 + n), .ref (n0 + n + 1)], slots := #[] }
 ti : h.get? (n0 + n) = some { cls := .type "tuple", data := .seq (ye n0 n).toArray }
 to : h.get? (n0 + n + 1) = some { cls := .type "tuple", data := .seq arr.toArray }
 it : ∀ j, j < n → h.IsTupleIter (n0 + j) (ls j) (is j)
section
variable {prog : Program} {w : World} {A : Around} {E : Value → Shared → Prop} {s : Shared}
end
end L2
namespace L2
open PySem PySem.Spec PyProof.Rows
end L2
namespace L3
open PySem L2 PySem.Spec PyProof.Rows
section
variable {M : Mx} {n : Nat} {F H : Hp} {σ : St} {D : Ends} {R' : It → Hp → Prop} {X : Cx} {a b : Expr} {fa fb : Fe} {pos : Pos}
end
end L3
namespace L3
open PySem L2 PySem.Spec PyProof.Rows
mutual
noncomputable def nol : PyData → Bool
 | .tuple ds => wc ds
 | .list _ => false
 | .dict _ => false
 | .none => true
 | .bool _ => true
 | .int _ => true
 | .str _ => true
noncomputable def wc : List PyData → Bool
 | [] => true
 | d :: ds => nol d && wc ds
end
section
variable {K : PySem.W.Frag} {F H : Hp} {f : List Addr}
mutual
theorem vc (hl : ∀ b ∈ f, ∃ ws, F b = some (.lst ws)) {v : V} {d : PyData} : Rep K F v d → nol d = true → Rep K (wa F f) v d
 | .non, _ => .non
 | .bl b, _ => .bl b
 | .int i, _ => .int i
 | .str x, _ => .str x
 | .lst _ _, e => by rw [nol] at e; cases e
 | .dct _ _ _, e => by unfold dD at e; rw [nol] at e; cases e
 | .tup (a := a) h1 h2, e => by
  rw [nol] at e;refine .tup ?_ (l_ hl h2 e);rw [vV fun m => by
   obtain ⟨ws, q⟩ := hl a m;rw [h1] at q;cases q]
  exact h1
theorem l_ (hl : ∀ b ∈ f, ∃ ws, F b = some (.lst ws)) {vs : List V} {ds : List PyData} : RepAll K F vs ds → wc ds = true → RepAll K (wa F f) vs ds
 | .nil, _ => .nil
 | .cons h r, e => by
  rw [wc, Bool.and_eq_true] at e;exact .cons (vc hl h e.1) (l_ hl r e.2)
end
end
section
variable {M : Mx} {n : Nat} {σ : L2.St} {H : Hp} {Q : VK}
end
section
variable {M : Mx} {X : Cx} {e : Expr} {fa fb : Fe}
end
end L3
namespace L2
open PySem PySem.Spec PyProof.Rows
section
variable {prog : Program} {w : World} {A : Around} {E : Value → Shared → Prop} {s : Shared}
end
section
variable {prog : Program} {w : World} {A : Around} {E : Value → Shared → Prop} {s : Shared}
end
end L2
namespace L2
open PySem PySem.Spec PyProof.Rows
section
variable {prog : Program} {w : World} {A : Around} {E : Value → Shared → Prop} {s : Shared}
end
structure LZ (X : Cx) (H0 H : Hp) (xs ys : List V) (Ts : List Addr) : Prop where
 up : aK H0 H
 new : ∀ c o, H c = some o → H0 c = some o ∨ c ∈ Ts
 free : ∀ T ∈ Ts, H0 T = none
 tup : ∀ (j : Nat) (T : Addr), Ts[j]? = some T → ∃ x y, xs[j]? = some x ∧ ys[j]? = some y ∧ H T = some (.tup [x, y])
end L2
namespace L2
open PySem PySem.Spec PyProof.Rows
end L2
namespace L3
open PySem L2 PySem.Spec PyProof.Rows
section
variable {M : Mx} {X : Cx}
open Classical in
end
end L3
namespace L3
open PySem L2 PySem.Spec PyProof.Rows
noncomputable def CXE (P : Program) (w : World) : CXT := fun outer H s E e s' => ∃ (ea : Addr) (cls a0 : Value) (B : Heap) (H' : Hp),
 e = .ref ea ∧ s'.os = s.os ∧ AllBare s'.gens ∧ Un (frs outer) [] H H' s.heap s'.heap ∧ HOk P w H' s'.heap ∧ Heap.FlyingW B outer ea cls a0 s'.heap ∧
 (∀ b o, s'.heap.get? b = some o → b ∉ frs outer → (H' b ≠ none ∨ s.heap.get? b ≠ none) → B.get? b = some o) ∧ E cls none H'
section
variable {X : Cx} {pins : List (Addr × Obj)} {σ : St} {H' : Hp} {s' : Shared} {B h'' : Heap}
end
noncomputable def Lv (X : Cx) (E : XK) : Prop := X.stack = X.env :: X.outer ∧ X.env.frame = some X.env.locals ∧ X.ex = [] ∧
 ∀ (e : Value) (s' : Shared), wpAny (model X.prog X.w) X.A (leaving X.env e) (fun _ s'' => CXE X.prog X.w X.outer X.H₀ X.s₀ E e s'') (fun e' s'' => CXE X.prog X.w X.outer X.H₀ X.s₀ E e' s'') s' → X.xe e s'
section
variable {X : Cx} {E : XK} {pins : List (Addr × Obj)} {σ : St} {H : Hp} {s s' : Shared} {e : Value}
end
end L3
namespace L3
open PySem L2 PySem.Spec PyProof.Rows
noncomputable abbrev vE : List Value := [.type "ValueError", .type "Exception", .type "BaseException", .type "object"]
noncomputable abbrev vN : String := "ValueError.__new__"
section
variable {M : Mx} {X : Cx} {x t : Str} {j : Nat} {np cpos pos p2 : Pos}
end
end L3
namespace L3
open PySem L2 PySem.Spec PyProof.Rows Builtin Builtin.ObjectAttr Builtin.Getset_descriptor
structure ExcK (K : PySem.W.Frag) (C : Addr) : Prop where
 ex : PySem.W.excIn K C vE vN = true
 ga : PySem.W.findIn K (.ref C) "__getattribute__" = some (some (.builtin "BaseException.__getattribute__"))
 ca : PySem.W.findIn K (.ref C) "__class__" = some (some (.builtin "object.__class__"))
 ng : PySem.W.findIn K (.ref C) "__getattr__" = some none
 mo : PySem.W.mroIn K C (.type "object") = some true
section
variable {prog : Program} {w : World} {A : Around} {E : Value → Shared → Prop} {h : Heap} {g : Array GenState} {d : Drawn} {t : Nat} {os : OsState} {a C : Addr} {o : Obj} {K : PySem.W.Frag}
end
end L3
namespace L3
open PySem L2 PySem.Spec PyProof.Rows
section
variable {M : Model} {A : Around} {E : Value → Shared → Prop} {h : Heap} {g : Array GenState} {d : Drawn} {t : Nat} {os : OsState} {e C D : Addr} {o : Obj} {K : PySem.W.Frag}
end
section
variable {X : Cx} {ea : Addr} {oe : Obj} {pins : List (Addr × Obj)} {σ : St} {H : Hp} {s : Shared}
end
noncomputable def tB (P : St → Prop) (b : Bool) : TE := fun σ H Q => P σ ∧ ∀ H', aK H H' → Q (.bl b) H'
section
variable {X : Cx} {P : St → Prop} {a b e : Expr} {c d : Bool} {pos p p2 p3 : Pos} {i j : Nat} {x y : Str}
end
end L3
namespace L3
open PySem L2 PySem.Spec PyProof.Rows
structure Xs (X : Cx) (C ea : Addr) (oe : Obj) : Prop where
 k : ExcK X.K C
 pin : (ea, oe) ∈ X.pn
 ob : oe.cls = .ref C
section
variable {X : Cx} {P : St → Prop} {es : List Expr} {c : Bool} {pos p p2 p3 : Pos} {i j x1 : Nat} {x y : Str} {C ea D : Addr} {oe : Obj} {Ds : List Addr}
end
section
variable {P : Program} {w : World} {fs : List Addr} {H1 H' : Hp} {h1 hs h5 B : Heap}
end
end L3
namespace L3
open PySem L2 PySem.Spec PyProof.Rows
section
variable {X : Cx} {pins : List (Addr × Obj)} {σ : St} {H : Hp} {s : Shared} {i : Nat} {n : Str}
end
section
variable {X : Cx} {pins : List (Addr × Obj)} {σ : St} {H1 : Hp} {s1 s' : Shared} {E' : XK} {ev : Value} {D : Addr} {dx n : Str} {b0 : Stmt} {suite : List Stmt} {hpos np : Pos} {Q : Flow → Shared → Prop} {E : Value → Shared → Prop} {i j : Nat}
end
end L3
namespace L3
open PySem L2 PySem.Spec PyProof.Rows
section
variable {X : Cx} {pins : List (Addr × Obj)} {σ : St} {H' : Hp} {C ea : Addr} {n : Str} {b0 : Stmt} {suite : List Stmt} {hpos : Pos} {Q : Flow → Shared → Prop} {E : Value → Shared → Prop} {i j : Nat} {b : Bool}
end
end L3
namespace L3
open PySem L2 PySem.Spec PyProof.Rows
section
variable {M : Mx} {X : Cx} {k : Nat} {f : Addr} {fd : FuncData} {ps : List Str} {x dx : Str} {p pos cpos epos hpos np : Pos} {fn : Fn} {al : Fa} {e : Expr} {es : List Expr} {D : Addr} {nm : Option Str} {b0 : Stmt} {suite : List Stmt} {ok : L3.Env → Bool} {j : Nat} {tbl : List (Str × Bool)}
end
end L3
namespace L3
open PySem L2 PySem.Spec PyProof.Rows
end L3
namespace L3
open PySem L2 PySem.Spec PyProof.Rows
section
variable {M : Mx} {X : Cx} {e : Expr} {pos : Pos} {fa : Fe}
end
end L3
namespace L3
open PySem L2
section
variable {c : Str} {ρ : L3.Env} {p : Fs}
end
end L3
namespace L3
open PySem L2 PySem.Spec PyProof.Rows
section
variable {M : Mx} {X : Cx} {e : Expr} {pos p2 : Pos} {fa : Fe}
end
end L3
namespace L3
open PySem L2 PySem.Spec PyProof.Rows
section
variable {M : Mx} {X : Cx} {a b c : Expr} {pos : Pos} {fa fb fc : Fe}
end
end L3
namespace L3
open PySem L2 PySem.Spec PyProof.Rows PySem.W
section
variable {M : Mx} {X : Cx}
end
end L3
namespace L3
open PySem L2
end L3
namespace L3
open PySem L2 PySem.Spec PyProof.Rows PySem.W
noncomputable def rTx (op : Str → Str → V) : V → List V → Hp → VK → Prop := fun x xs H Q => ∃ a b, x = .str a ∧ xs = [.str b] ∧ a.length ≤ sizeLine ∧ Q (op a b) H
noncomputable def gTx (op : Str → Str → PyData) : PyData → PyData → R OD
 | .str s, .str t => if s.length ≤ BIG then .ok (.sh (op s t)) else .bad
 | _, _ => .bad
noncomputable def eTx (op : Str → Str → PyData) (a b : Fe) : Fe := fun ρ => (a ρ).bind fun x => match x.er with
 | .str s => if s.length ≤ BIG then (b ρ).bind fun y => gTx op (.str s) y.er else .bad
 | _ => .bad
noncomputable def yQ (s t : Str) : PyData := .str (Txt.rstripChars s t)
section
variable {M : Mx} {X : Cx} {e a : Expr} {fa fb : Fe}
theorem sx : MtR X "str.rstrip" (rTx fun a b => .str (Txt.rstripChars a b)) := by
 intro pins s σ H x xs v us Q I rx rxs h;obtain ⟨a, b, rfl, rfl, hl, q⟩ := h;obtain ⟨t, rfl⟩ := rx;obtain ⟨u, rfl, t2, rfl⟩ := Vals.one rxs;exact SC.rstripChars (fun t' k => ⟨.str _, H, I.tok k, ⟨t', rfl⟩, q⟩) hl
theorem Ca {op : Str → Str → PyData} {opV : Str → Str → V} {name : Str} {id : String} {ap cp : Pos} (slot : Slot "str" name id) (hty : typeOf (.builtin id) = pure (.type "method_descriptor")) (hm : MtR X id (rTx opV)) (hr : ∀ K F a b, Rep K F (opV a b) (op a b)) (ha : DE M X a fa) (h : DE M X e fb)
  (hbase : attributeBase a name X.env (eval a X.env) = eval a X.env := by rfl)
  (hfew : ((backTo cp (starEach [e] X.env)).all (fun x => !x.1) && (backToKw cp (keywordEach [] X.env)).all (fun x => x.1.isSome) && decide (([e] : List Expr).length + ([] : List Keyword).length + (if ([] : List Keyword).isEmpty then 0 else 1) < 30)) = true := by rfl)
  (hline : (ap.endLine == cp.line) = true := by rfl) (hs : starEach [e] X.env = (false, eval e X.env) :: starEach [] X.env := by rfl) (hplain : (backTo cp (starEach [] X.env)).any (·.1) = false := by rfl) :
  DE M X (.Call (.Attribute a name ap) [e] [] cp) (eTx op fa fb) := fun hK hM => by
 have q := oq (apos := ap) (cpos := cp) PySem.F.plainAttrs_str slot hty hm (ha hK hM) (gP (h hK hM) jr hs) hbase hfew hline hs hplain;refine peI q fun σ H Q h => ?_
 obtain ⟨F, ρ, fp, S, p⟩ := h;refine ⟨F, ρ, fp, S, (aw.bind p).mono fun x px v F1 H1 fx e1 r1 w1 => ?_⟩
 obtain ⟨G1, d1, k1⟩ := r1.frz e1 w1;generalize x.er = d at px k1
 cases k1 with
 | str z =>
  have px' : aw M H fp (OkE M F H Q) (if z.length ≤ BIG then (fb ρ).bind fun y => gTx op (.str z) y.er else .bad) := px
  split at px'
  ·rename_i hz
   refine ⟨rfl, G1, ρ, fp, S.ext d1, ((aw.bind px').ext d1).mono fun y py w F2 H2 fy e2 r2 w2 => ?_⟩
   obtain ⟨G2, d2, k2⟩ := r2.frz e2 w2;generalize y.er = d' at py k2
   cases k2 with
   | str z2 =>
    have py' : aw M H fp (OkE M F H Q) (if z.length ≤ BIG then .ok (.sh (op z z2)) else .bad) := py
    rw [if_pos hz] at py';exact ⟨z, z2, rfl, rfl, fK hz, OkE.val d2.fh (OkE.pre (d1.trans d2) py') (hr _ _ _ _)⟩
   | non => exact py.elim
   | bl _ => exact py.elim
   | int _ => exact py.elim
   | dct _ _ _ => exact py.elim
   | lst _ _ => exact py.elim
   | tup _ _ => exact py.elim
  ·exact px'.elim
 | non => exact px.elim
 | bl _ => exact px.elim
 | int _ => exact px.elim
 | dct _ _ _ => exact px.elim
 | lst _ _ => exact px.elim
 | tup _ _ => exact px.elim
end
section
variable {op : Str → Str → PyData} {fa fb : Fe} {ρ : L3.Env} {x y : OD} {s t : Str}
noncomputable def txK (op : Str → Str → PyData) (r1 r2 : R OD) : R OD := r1.bind fun x => match x.er with
 | .str s => if s.length ≤ BIG then r2.bind fun y => gTx op (.str s) y.er else .bad
 | _ => .bad
theorem Cq : eTx op fa fb ρ = txK op (fa ρ) (fb ρ) := rfl
theorem Em : txK op (.ok x) (.ok y) = gTx op x.er y.er := by
 show (match x.er with
  | .str s => if s.length ≤ BIG then gTx op (.str s) y.er else R.bad
  | _ => R.bad) = _
 generalize x.er = d
 cases d with
 | str s =>
  show (if s.length ≤ BIG then gTx op (.str s) y.er else R.bad) = _
  generalize y.er = d'
  cases d' with
  | str t =>
   show (if s.length ≤ BIG then (if s.length ≤ BIG then R.ok (OD.sh (op s t)) else R.bad) else R.bad) = (if s.length ≤ BIG then R.ok (OD.sh (op s t)) else R.bad)
   split <;> rfl
  | _ => split <;> rfl
 | _ => rfl
theorem EG : gTx op (.str s) (.str t) = if s.length ≤ BIG then .ok (.sh (op s t)) else .bad := rfl
theorem AG : yQ s t = .str (Txt.rstripChars s t) := rfl
end
end L3
namespace L3
open PySem L2
section
variable {K : PySem.W.Frag} {F H : Hp} {σ : St} {ρ : Env} {g fp : List Addr} {n : Nat}
end
section
variable {M : Mx} {X : Cx} {n : Nat} {H : Hp} {σ : St} {D : Ends} {x y : Str} {p p2 ap cp pos : Pos}
end
end L3
namespace L3
open PySem L2 PySem.Spec PyProof.Rows PySem.W
noncomputable def FR : PyData → Option Bool
 | .bool b => some b
 | .int i => some (i != 0)
 | _ => none
noncomputable def x8 : List PyData → Option (List Bool)
 | [] => some []
 | d :: r => match FR d, x8 r with
  | some b, some bs => some (b :: bs)
  | _, _ => none
noncomputable def Ga : List PyData → R OD
 | [.list ds] => (match x8 ds with
  | some bs => oB (bs.any id)
  | none => .bad)
 | _ => .bad
section
variable {M : Mx} {X : Cx}
noncomputable def mY (neg : Bool) : PyData → PyData → R OD
 | .int i, .list ds => (match cZ ds with
  | some ns => .ok (.sh (.bool (if neg then !decide (i ∈ ns) else decide (i ∈ ns))))
  | none => .bad)
 | _, _ => .bad
theorem tH (i : Int) (ns : List Int) : inV (.int i) (ns.map V.int) = decide (i ∈ ns) := by
 unfold inV;rw [Bool.eq_iff_iff, List.any_map, List.any_eq_true, decide_eq_true_eq];constructor
 ·rintro ⟨n, hn, h⟩
  have h : (decide (n = i)) = true := by simpa [eqV] using h
  rw [← of_decide_eq_true h];exact hn
 ·intro h
  exact ⟨i, h, by simp [eqV]⟩
theorem tj (ns : List Int) : (ns.map V.int).all jL = true := by
 rw [List.all_map, List.all_eq_true];intro x _;rfl
theorem n6 {neg : Bool} (hK : X.K = M.K) : Ok2 M (rIn X.K neg) (mY neg) := by
 rw [hK];intro x y dx dy F H fp Q s rx ry p;unfold mY at p;split at p
 ·split at p
  ·rename_i ns hn
   cases rx;cases ry with
   | lst h1 h2 =>
    rw [h8 hn] at h2;have e := RepAll.toInts h2;subst e;refine ⟨_, _, rfl, .inl (h1.same s).sq, rfl, tj ns, ?_⟩;rw [tH];exact OkE.val s p (.bl _)
  ·exact p.elim
 ·exact p.elim
theorem Ea (neg : Bool) (i : Int) (ns : List Int) : mY neg (.int i) (.list (ns.map PyData.int)) = .ok (.sh (.bool (if neg then !decide (i ∈ ns) else decide (i ∈ ns)))) := by
 have e : cZ (ns.map PyData.int) = some ns := fA ns;unfold mY;simp only [e]
end
end L3
namespace L3
open PySem L2 PySem.Spec PyProof.Rows PySem.W
noncomputable def gLj (s : Str) : PyData → R OD
 | .int i => if PadOk i = true then .ok (.sh (.str (Txt.ljust s i))) else .bad
 | _ => .bad
noncomputable def eLj (a b : Fe) : Fe := fun ρ => (a ρ).bind fun x => match x.er with
 | .str s => (b ρ).bind fun y => gLj s y.er
 | _ => .bad
noncomputable def uM (s : Str) : PyData → R OD
 | .str t => if (t.length == 0) = false then .ok (.ol (((Txt.split s t).map PyData.str).map OD.sh)) else .bad
 | _ => .bad
noncomputable def yM (a b : Fe) : Fe := fun ρ => (a ρ).bind fun x => match x.er with
 | .str s => if s.length ≤ BIG then (b ρ).bind fun y => uM s y.er else .bad
 | _ => .bad
noncomputable def rLj : V → List V → Hp → VK → Prop := fun x xs H Q => ∃ a i, x = .str a ∧ xs = [.int i] ∧ PadOk i = true ∧ Q (.str (Txt.ljust a i)) H
noncomputable def FY : V → List V → Hp → VK → Prop := fun x xs H Q => ∃ a b, x = .str a ∧ xs = [.str b] ∧ (b.length == 0) = false ∧ a.length ≤ BIG ∧ ∀ p, H p = none → Q (.ref p) (upd H p (.lst ((Txt.split a b).map V.str)))
theorem mI : ∀ (l : List (Str × Tok)), Vals ((l.map (·.1)).map V.str) (strValues l)
 | [] => .nil
 | (x, t) :: l => .cons ⟨t, rfl⟩ (mI l)
section
variable {M : Mx} {X : Cx} {e a : Expr} {fa fb : Fe}
theorem va : MtR X "str.ljust" rLj := by
 intro pins s σ H x xs v us Q I rx rxs h;obtain ⟨a, i, rfl, rfl, hp, q⟩ := h;obtain ⟨t, rfl⟩ := rx;obtain ⟨u, rfl, t2, rfl⟩ := Vals.one rxs;exact SC.ljust hp (fun t' k => ⟨.str _, H, I.tok k, ⟨t', rfl⟩, q⟩)
theorem uo : MtR X "str.split" FY := by
 intro pins s σ H x xs v us Q I rx rxs h;obtain ⟨a, b, rfl, rfl, hb, hl, q⟩ := h;obtain ⟨t, rfl⟩ := rx;obtain ⟨u, rfl, t2, rfl⟩ := Vals.one rxs;have hq := q s.heap.objs.size (I.hok.fresh (Nat.le_refl _));have hsl := split_le a b;have hbig : a.length + 2 ≤ sizeLine := Nat.le_trans (Nat.add_le_add_right hl 2) (by decide)
 have fin : ∀ (l : List (Str × Tok)) (k : Nat), l.map (·.1) = Txt.split a b → EP X pins σ Q (.ref s.heap.objs.size) { s with toks := k, heap := s.heap.push { cls := .type "list", data := .seq (strValues l).toArray } } := fun l k e => by
  have hv := mI l;rw [e] at hv;exact ⟨.ref s.heap.objs.size, upd H s.heap.objs.size (.lst ((Txt.split a b).map V.str)), I.laid (t' := k) (o := .lst ((Txt.split a b).map V.str)) (fun b u e => Heap.get?_push_of_some _ e) (Nat.le_refl _) ⟨by rw [List.length_map]; lia, _, _, hv, Heap.get?_push_size _ rfl⟩, rfl, hq⟩
 cases h1 : (decide (a.length < b.length) || decide (Builtin.Str.strKind a < Builtin.Str.strKind b))
 ·cases hf : (Builtin.Str.occurrences a b 0 a.length (a.length + 1)).isEmpty
  ·have e0 : Txt.split a b = Builtin.Str.partsBetween a (Builtin.Str.occurrences a b 0 a.length (a.length + 1)) b.length := by
    unfold Txt.split;rw [if_neg (ne_true_of_eq_false h1), if_neg (ne_true_of_eq_false hf)]
   refine call_meets PySem.F.slot_str_split (typeIs_str _ _ _) PySem.F.entry_str_split (PySem.F.args_str_split_2 _ _) (meets_str_split_sep a b t t2 h1 hb hf (by lia) (by rw [← e0]; lia)) ?_
   show wants _ _ _ { s with toks := _, heap := s.heap.push { cls := .type "list", data := .seq (strsFrom s.toks (Builtin.Str.partsBetween a (Builtin.Str.occurrences a b 0 a.length (a.length + 1)) b.length)).toArray } }
   rw [strsFrom_eq];exact fin (numbered s.toks _) _ ((numbered_texts _ _).trans e0.symm)
  ·refine call_meets PySem.F.slot_str_split (typeIs_str _ _ _) PySem.F.entry_str_split (PySem.F.args_str_split_2 _ _) (meets_str_split_not_found a b t t2 h1 hb hf) ?_
   exact fin [(a, t)] s.toks (by unfold Txt.split; rw [if_neg (ne_true_of_eq_false h1), if_pos hf]; rfl)
 ·refine call_meets PySem.F.slot_str_split (typeIs_str _ _ _) PySem.F.entry_str_split (PySem.F.args_str_split_2 _ _) (meets_str_split_cannot_occur a b t t2 h1) ?_
  exact fin [(a, t)] s.toks (by unfold Txt.split; rw [if_pos h1]; rfl)
theorem El {ap cp : Pos} (ha : DE M X a fa) (h : DE M X e fb)
  (hbase : attributeBase a "ljust" X.env (eval a X.env) = eval a X.env := by rfl)
  (hfew : ((backTo cp (starEach [e] X.env)).all (fun x => !x.1) && (backToKw cp (keywordEach [] X.env)).all (fun x => x.1.isSome) && decide (([e] : List Expr).length + ([] : List Keyword).length + (if ([] : List Keyword).isEmpty then 0 else 1) < 30)) = true := by rfl)
  (hline : (ap.endLine == cp.line) = true := by rfl) (hs : starEach [e] X.env = (false, eval e X.env) :: starEach [] X.env := by rfl) (hplain : (backTo cp (starEach [] X.env)).any (·.1) = false := by rfl) :
  DE M X (.Call (.Attribute a "ljust" ap) [e] [] cp) (eLj fa fb) := fun hK hM => by
 have q := oq (apos := ap) (cpos := cp) PySem.F.plainAttrs_str PySem.F.slot_str_ljust PySem.F.type_str_ljust va (ha hK hM) (gP (h hK hM) jr hs) hbase hfew hline hs hplain;refine peI q fun σ H Q h => ?_
 obtain ⟨F, ρ, fp, S, p⟩ := h;refine ⟨F, ρ, fp, S, (aw.bind p).mono fun x px v F1 H1 fx e1 r1 w1 => ?_⟩
 obtain ⟨G1, d1, k1⟩ := r1.frz e1 w1;generalize x.er = d at px k1
 cases k1 with
 | str z =>
  have px' : aw M H fp (OkE M F H Q) ((fb ρ).bind fun y => gLj z y.er) := px
  refine ⟨rfl, G1, ρ, fp, S.ext d1, ((aw.bind px').ext d1).mono fun y py w F2 H2 fy e2 r2 w2 => ?_⟩
  obtain ⟨G2, d2, k2⟩ := r2.frz e2 w2;generalize y.er = d' at py k2
  cases k2 with
  | int i =>
   have py' : aw M H fp (OkE M F H Q) (if PadOk i = true then .ok (.sh (.str (Txt.ljust z i))) else .bad) := py
   split at py'
   ·rename_i h0
    exact ⟨z, i, rfl, rfl, h0, OkE.val d2.fh (OkE.pre (d1.trans d2) py') (.str _)⟩
   ·exact py'.elim
  | non => exact py.elim
  | bl _ => exact py.elim
  | str _ => exact py.elim
  | dct _ _ _ => exact py.elim
  | lst _ _ => exact py.elim
  | tup _ _ => exact py.elim
 | non => exact px.elim
 | bl _ => exact px.elim
 | int _ => exact px.elim
 | dct _ _ _ => exact px.elim
 | lst _ _ => exact px.elim
 | tup _ _ => exact px.elim
theorem o8 {K : PySem.W.Frag} {F : Hp} : ∀ ts : List Str, RepAll K F (ts.map V.str) (ts.map PyData.str)
 | [] => .nil
 | t :: ts => .cons (.str t) (o8 ts)
theorem zi {ap cp : Pos} (ha : DE M X a fa) (h : DE M X e fb)
  (hbase : attributeBase a "split" X.env (eval a X.env) = eval a X.env := by rfl)
  (hfew : ((backTo cp (starEach [e] X.env)).all (fun x => !x.1) && (backToKw cp (keywordEach [] X.env)).all (fun x => x.1.isSome) && decide (([e] : List Expr).length + ([] : List Keyword).length + (if ([] : List Keyword).isEmpty then 0 else 1) < 30)) = true := by rfl)
  (hline : (ap.endLine == cp.line) = true := by rfl) (hs : starEach [e] X.env = (false, eval e X.env) :: starEach [] X.env := by rfl) (hplain : (backTo cp (starEach [] X.env)).any (·.1) = false := by rfl) :
  DE M X (.Call (.Attribute a "split" ap) [e] [] cp) (yM fa fb) := fun hK hM => by
 have q := oq (apos := ap) (cpos := cp) PySem.F.plainAttrs_str PySem.F.slot_str_split PySem.F.type_str_split uo (ha hK hM) (gP (h hK hM) jr hs) hbase hfew hline hs hplain;refine peI q fun σ H Q h => ?_
 obtain ⟨F, ρ, fp, S, p⟩ := h;refine ⟨F, ρ, fp, S, (aw.bind p).mono fun x px v F1 H1 fx e1 r1 w1 => ?_⟩
 obtain ⟨G1, d1, k1⟩ := r1.frz e1 w1;generalize x.er = d at px k1
 cases k1 with
 | str z =>
  have px' : aw M H fp (OkE M F H Q) (if z.length ≤ BIG then (fb ρ).bind fun y => uM z y.er else .bad) := px
  split at px'
  ·rename_i hz
   refine ⟨rfl, G1, ρ, fp, S.ext d1, ((aw.bind px').ext d1).mono fun y py w F2 H2 fy e2 r2 w2 => ?_⟩
   obtain ⟨G2, d2, k2⟩ := r2.frz e2 w2;generalize y.er = d' at py k2
   cases k2 with
   | str z2 =>
    have py' : aw M H fp (OkE M F H Q) (if (z2.length == 0) = false then .ok (.ol (((Txt.split z z2).map PyData.str).map OD.sh)) else .bad) := py
    split at py'
    ·rename_i h0
     exact ⟨z, z2, rfl, rfl, h0, hz, fun p hp => OkE.lstD d2.fh (OkE.pre (d1.trans d2) py') (o8 _) hp⟩
    ·exact py'.elim
   | non => exact py.elim
   | bl _ => exact py.elim
   | int _ => exact py.elim
   | dct _ _ _ => exact py.elim
   | lst _ _ => exact py.elim
   | tup _ _ => exact py.elim
  ·exact px'.elim
 | non => exact px.elim
 | bl _ => exact px.elim
 | int _ => exact px.elim
 | dct _ _ _ => exact px.elim
 | lst _ _ => exact px.elim
 | tup _ _ => exact px.elim
end
noncomputable def oR : PyData → PyData → R OD
 | .str a, .str b => if a.length + b.length ≤ BIG then .ok (.sh (.str (a ++ b))) else .bad
 | _, _ => .bad
noncomputable def x3 : R2 := fun x y H Q => ∃ i j, x = .str i ∧ y = .str j ∧ i.length + j.length ≤ sizeLine ∧ Q (.str (i ++ j)) H
section
variable {M : Mx} {X : Cx}
theorem rj : PIp X .Add x3 := ou
theorem rb : Ok2 M x3 oR := by
 intro x y dx dy F H fp Q s rx ry p;unfold oR at p;split at p
 ·cases rx
  cases ry;split at p
  ·rename_i h
   exact ⟨_, _, rfl, rfl, fK h, OkE.val s p (.str _)⟩
  ·exact p.elim
 ·exact p.elim
end
theorem nV (a b : Str) : oR (.str a) (.str b) = if a.length + b.length ≤ BIG then .ok (.sh (.str (a ++ b))) else .bad := rfl
noncomputable def ljK (r t : R OD) : R OD := r.bind fun x => match x.er with
 | .str s => t.bind fun y => gLj s y.er
 | _ => .bad
noncomputable def AW (r t : R OD) : R OD := r.bind fun x => match x.er with
 | .str s => if s.length ≤ BIG then t.bind fun y => uM s y.er else .bad
 | _ => .bad
theorem Fw {fa fb : Fe} {ρ : L3.Env} : eLj fa fb ρ = ljK (fa ρ) (fb ρ) := rfl
theorem CV {fa fb : Fe} {ρ : L3.Env} : yM fa fb ρ = AW (fa ρ) (fb ρ) := rfl
theorem Fy {s : Str} {i : Int} (h : PadOk i = true) : ljK (.ok (.sh (.str s))) (.ok (.sh (.int i))) = .ok (.sh (.str (Txt.ljust s i))) := by
 show gLj s (.int i) = _
 unfold gLj
 dsimp only
 rw [if_pos h]
theorem Dk {s t : Str} (h : s.length ≤ BIG) (h2 : (t.length == 0) = false) : AW (.ok (.sh (.str s))) (.ok (.sh (.str t))) = .ok (.ol (((Txt.split s t).map PyData.str).map OD.sh)) := by
 show (if s.length ≤ BIG then uM s (.str t) else .bad) = _
 rw [if_pos h];unfold uM
 dsimp only
 rw [if_pos h2]
end L3
namespace B
noncomputable def IsE (n : Nat) (d : Nat → Nat → Int) (e : Nat → Int) : Prop := e 0 = 0 ∧ ∀ k, 0 < k → k < n → (∀ j, j < k → e j + d j k ≤ e k) ∧ ∃ j, j < k ∧ e k = e j + d j k
noncomputable def IsL (n : Nat) (d : Nat → Nat → Int) (T : Int) (l : Nat → Int) : Prop := l (n - 1) = T ∧ ∀ k, k + 1 < n → (∀ j, k < j → j < n → l k ≤ l j - d k j) ∧ ∃ j, k < j ∧ j < n ∧ l k = l j - d k j
theorem Ap {n : Nat} {d : Nat → Nat → Int} {T : Int} {e l : Nat → Int} (he : IsE n d e) (hl : IsL n d T l) (hT : T = e (n - 1)) : ∀ m k, k + m + 1 = n → e k ≤ l k := by
 intro m
 induction m using Nat.strongRecOn with
 | ind m ih =>
  intro k hk;by_cases h0 : m = 0
  ·subst h0
   have : k = n - 1 := by lia
   rw [this, hl.1, hT]
   lia
  ·obtain ⟨a1, j1, b1, b2, c1⟩ := hl.2 k (by lia)
   have := ih (n - 1 - j1) (by lia) j1 (by lia)
   have := (he.2 j1 (by lia) b2).1 k b1
   lia
theorem vC {n : Nat} {d : Nat → Nat → Int} {T : Int} {e l : Nat → Int} (hn : 0 < n) (he : IsE n d e) (hl : IsL n d T l) (hT : T = e (n - 1)) : l 0 = 0 := by
 have le := Ap he hl hT;have key : ∀ k, k < n → l k = e k → l 0 = e 0 := by
  intro k
  induction k using Nat.strongRecOn with
  | ind k ih =>
   intro hk hek;by_cases h0 : k = 0
   ·subst h0
    exact hek
   ·obtain ⟨a1, j1, b1, c1⟩ := he.2 k (by lia) hk
    have h1 := (hl.2 j1 (by lia)).1 k b1 hk
    have h2 := le (n - 1 - j1) j1 (by lia)
    exact ih j1 b1 (by lia) (by lia)
 have := key (n - 1) (by lia) (by rw [hl.1, hT])
 rw [this, he.1]
end B
namespace B
inductive F where
 | nil
 | cons (k : Nat) (c r : F)
namespace F
noncomputable def pre : F → List Nat
 | nil => []
 | cons k c r => k :: (pre c ++ pre r)
noncomputable def roots : F → List Nat
 | nil => []
 | cons k _ r => k :: roots r
noncomputable def zr : F → List Nat
 | nil => []
 | cons k c r => zr r ++ (k :: zr c)
noncomputable def app : F → F → F
 | nil, g => g
 | cons k c r, g => cons k c (app r g)
noncomputable def mir : F → F
 | nil => nil
 | cons k c r => app (mir r) (cons k (mir c) nil)
noncomputable def map (h : Nat → Nat) : F → F
 | nil => nil
 | cons k c r => cons (h k) (map h c) (map h r)
noncomputable def Con (ch : Nat → List Nat) : F → Prop
 | nil => True
 | cons k c r => ch k = roots c ∧ Con ch c ∧ Con ch r
noncomputable def Eld (e : Nat → Int) : Int → F → Prop
 | _, nil => True
 | p, cons k c r => e k = p ∧ Eld e (k : Int) c ∧ Eld e p r
theorem pre_app : ∀ f g : F, pre (app f g) = pre f ++ pre g
 | nil, g => rfl
 | cons k c r, g => by rw [app, pre, pre, pre_app r g, List.cons_append, List.append_assoc]
theorem qT {e : Nat → Int} {p : Int} : ∀ f g : F, Eld e p (app f g) ↔ Eld e p f ∧ Eld e p g
 | nil, g => by rw [app, Eld]; simp
 | cons k c r, g => by rw [app, Eld, Eld, qT r g]; simp only [and_assoc]
theorem snoc : ∀ f : F, f ≠ nil → ∃ g k c, f = app g (cons k c nil)
 | nil, h => absurd rfl h
 | cons k c nil, _ => ⟨nil, k, c, rfl⟩
 | cons k c (cons k' c' r'), _ => by
  obtain ⟨g, a, b, e⟩ := snoc (cons k' c' r') (fun z => nomatch z)
  exact ⟨cons k c g, a, b, by rw [app, e]⟩
theorem g4 {e : Nat → Int} {q : Int} : ∀ (p : Int) (f : F), Eld e p f → q ≠ p → (∀ j ∈ pre f, (j : Int) ≠ q) → (pre f).filter (fun j => decide (e j = q)) = []
 | _, nil, _, _, _ => rfl
 | p, cons k c r, h, hp, hq => by
  obtain ⟨h1, h2, h3⟩ := h;rw [pre, List.filter_cons, if_neg (by rw [decide_eq_true_eq, h1]; exact fun z => hp z.symm), List.filter_append, g4 _ c h2 (fun z => hq k (by rw [pre]; exact List.mem_cons_self) z.symm) (fun j hj => hq j (by rw [pre]; simp [hj])), g4 p r h3 hp (fun j hj => hq j (by rw [pre]; simp [hj]))]
  rfl
theorem oz {e : Nat → Int} : ∀ (p : Int) (f : F), Eld e p f → (∀ j ∈ pre f, (j : Int) ≠ p) → (pre f).filter (fun j => decide (e j = p)) = roots f
 | _, nil, _, _ => rfl
 | p, cons k c r, h, hq => by
  obtain ⟨h1, h2, h3⟩ := h;rw [pre, List.filter_cons, if_pos (by rw [decide_eq_true_eq, h1]), List.filter_append, g4 _ c h2 (fun z => hq k (by rw [pre]; exact List.mem_cons_self) z.symm) (fun j hj => hq j (by rw [pre]; simp [hj])), oz p r h3 (fun j hj => hq j (by rw [pre]; simp [hj])), roots]
  rfl
theorem iS {ch ch' : Nat → List Nat} : ∀ f : F, (∀ q ∈ pre f, ch q = ch' q) → Con ch' f → Con ch f
 | nil, _, _ => trivial
 | cons k c r, h, hc => by
  obtain ⟨h1, h2, h3⟩ := hc;exact ⟨(h k (by rw [pre]; exact List.mem_cons_self)).trans h1, iS c (fun q m => h q (by rw [pre]; simp [m])) h2, iS r (fun q m => h q (by rw [pre]; simp [m])) h3⟩
theorem m6 {e : Nat → Int} : ∀ (p : Int) (f : F), Eld e p f → (pre f).Nodup → (∀ j ∈ pre f, (j : Int) ≠ p) → Con (fun q => (pre f).filter (fun j => decide (e j = (q : Int)))) f
 | _, nil, _, _, _ => trivial
 | p, cons k c r, h, nd, hp => by
  obtain ⟨h1, h2, h3⟩ := h;rw [pre, List.nodup_cons, List.nodup_append] at nd;obtain ⟨nk, n1, n2, n3⟩ := nd;have hpk : (k : Int) ≠ p := hp k (by rw [pre]; exact List.mem_cons_self)
  have kc : ∀ j ∈ pre c, (j : Int) ≠ (k : Int) := fun j m z => nk (by
   have : j = k := by lia
   rw [← this];simp [m])
  have kr : ∀ j ∈ pre r, (j : Int) ≠ (k : Int) := fun j m z => nk (by
   have : j = k := by lia
   rw [← this];simp [m])
  have pc : ∀ j ∈ pre c, (j : Int) ≠ p := fun j m => hp j (by rw [pre]; simp [m])
  have pr : ∀ j ∈ pre r, (j : Int) ≠ p := fun j m => hp j (by rw [pre]; simp [m])
  have split : ∀ q : Nat, (q : Int) ≠ p → (pre (cons k c r)).filter (fun j => decide (e j = (q : Int))) = (pre c).filter (fun j => decide (e j = (q : Int))) ++ (pre r).filter (fun j => decide (e j = (q : Int))) := fun q hq => by
   rw [pre, List.filter_cons, if_neg (by rw [decide_eq_true_eq, h1]; exact fun z => hq z.symm), List.filter_append]
  refine ⟨?_, iS c (fun q m => ?_) (m6 _ c h2 n1 kc), iS r (fun q m => ?_) (m6 p r h3 n2 pr)⟩
  ·show (pre (cons k c r)).filter (fun j => decide (e j = (k : Int))) = roots c
   rw [split k hpk, oz _ c h2 kc, g4 p r h3 hpk kr, List.append_nil]
  ·show (pre (cons k c r)).filter (fun j => decide (e j = (q : Int))) = (pre c).filter (fun j => decide (e j = (q : Int)))
   rw [split q (pc q m), g4 p r h3 (pc q m) (fun j mj z => n3 q m j mj (by lia)), List.append_nil]
  ·show (pre (cons k c r)).filter (fun j => decide (e j = (q : Int))) = (pre r).filter (fun j => decide (e j = (q : Int)))
   rw [split q (pr q m), g4 _ c h2 (fun z => kr q m z) (fun j mj z => n3 j mj q m (by lia)), List.nil_append]
end F
end B
namespace B
namespace F
structure Pf (n : Nat) (e : Nat → Int) (c : F) : Prop where
 pre : 0 :: pre c = List.range n
 root : e 0 = -1
 eld : Eld e 0 c
variable {n : Nat} {e : Nat → Int} {c : F}
noncomputable def full (c : F) : F := cons 0 c nil
theorem Pf.pos (h : Pf n e c) : 0 < n := by
 have := congrArg List.length h.pre;rw [List.length_cons, List.length_range] at this
 lia
theorem Pf.preF (h : Pf n e c) : F.pre (full c) = List.range n := by
 unfold full;rw [F.pre, F.pre, List.append_nil];exact h.pre
theorem Pf.eldF (h : Pf n e c) : Eld e (-1) (full c) := ⟨h.root, h.eld, trivial⟩
theorem Pf.con (h : Pf n e c) : Con (fun q => (List.range n).filter (fun j => decide (e j = (q : Int)))) (full c) := by
 have := m6 (-1) (full c) h.eldF (by rw [h.preF]; exact List.nodup_range) (fun j _ => by lia)
 rw [h.preF] at this;exact this
noncomputable def R (c : F) : List Nat := zr (full c)
noncomputable def g (c : F) (k : Nat) : Nat := (R c).idxOf k
noncomputable def e1 (e : Nat → Int) (c : F) (i : Nat) : Int := match (R c)[i]? with
 | some k => if e k < 0 then -1 else (g c (e k).toNat : Int)
 | none => -1
noncomputable def gi (c : F) (p : Int) : Int := if p < 0 then -1 else (g c p.toNat : Int)
noncomputable def c1 (c : F) : F := map (g c) (mir c)
theorem nM {e : Nat → Int} : ∀ (p : Int) (f : F), Eld e p f → ∀ k ∈ F.pre f, e k = p ∨ ∃ j : Nat, j ∈ F.pre f ∧ e k = (j : Int)
 | _, nil, _, _, m => by cases m
 | p, cons a c r, h, k, m => by
  obtain ⟨h1, h2, h3⟩ := h;rw [F.pre] at m;rcases List.mem_cons.mp m with rfl | m
  ·exact .inl h1
  ·rcases List.mem_append.mp m with m | m
   ·rcases nM _ c h2 k m with z | ⟨j, j1, j2⟩
    ·exact .inr ⟨a, by rw [F.pre]; exact List.mem_cons_self, z⟩
    ·exact .inr ⟨j, by rw [F.pre]; simp [j1], j2⟩
   ·rcases nM p r h3 k m with z | ⟨j, j1, j2⟩
    ·exact .inl z
    ·exact .inr ⟨j, by rw [F.pre]; simp [j1], j2⟩
end F
end B
namespace B
namespace F
noncomputable def path : F → List Nat
 | nil => []
 | cons k c nil => k :: path c
 | cons _ _ (cons k c r) => path (cons k c r)
noncomputable def iy : F → Nat → Nat → F
 | f, 0, x => app f (cons x nil nil)
 | nil, _ + 1, _ => nil
 | cons k c nil, d + 1, x => cons k (iy c d x) nil
 | cons k c (cons k' c' r'), d + 1, x => cons k c (iy (cons k' c' r') (d + 1) x)
theorem lV : ∀ (f : F) (x : Nat), path (app f (cons x nil nil)) = [x]
 | nil, x => rfl
 | cons k c nil, x => rfl
 | cons k c (cons k' c' r'), x => by
  have := lV (cons k' c' r') x;rw [app] at this ⊢;rw [app];rw [path];exact this
theorem iV {e e' : Nat → Int} : ∀ (p : Int) (f : F), (∀ k ∈ F.pre f, e' k = e k) → Eld e p f → Eld e' p f
 | _, nil, _, _ => trivial
 | p, cons k c r, h, hc => by
  obtain ⟨h1, h2, h3⟩ := hc;exact ⟨(h k (by rw [F.pre]; exact List.mem_cons_self)).trans h1, iV _ c (fun q m => h q (by rw [F.pre]; simp [m])) h2, iV p r (fun q m => h q (by rw [F.pre]; simp [m])) h3⟩
theorem t6 {k d x : Nat} {c r : F} : ∃ k' c' r', iy (cons k c r) (d + 1) x = cons k' c' r' := by
 cases r with
 | nil => exact ⟨_, _, _, by rw [iy]⟩
 | cons a b t => exact ⟨_, _, _, by rw [iy]⟩
theorem kU {e : Nat → Int} {x : Nat} : ∀ (f : F) (d : Nat) (p : Int), d ≤ (path f).length → Eld e p f → e x = (if d = 0 then p else ((path f)[d - 1]?.getD 0 : Int)) →
  F.pre (iy f d x) = F.pre f ++ [x] ∧ path (iy f d x) = (path f).take d ++ [x] ∧ Eld e p (iy f d x)
 | f, 0, p, _, h, hx => by
  rw [iy, pre_app, lV, qT];exact ⟨rfl, rfl, h, by simpa using hx, trivial, trivial⟩
 | nil, d + 1, p, hd, _, _ => by
  rw [path] at hd;simp at hd
 | cons k c nil, d + 1, p, hd, h, hx => by
  obtain ⟨h1, h2, h3⟩ := h;rw [path, List.length_cons] at hd;have ih := kU (e := e) (x := x) c d (k : Int) (by lia) h2 (by
   rw [hx, if_neg (by lia), path]
   by_cases d0 : d = 0
   ·subst d0
    rfl
   ·obtain ⟨m, rfl⟩ : ∃ m, d = m + 1 := ⟨d - 1, by lia⟩
    rw [if_neg (by lia)]
    rfl)
  rw [iy, F.pre, F.pre, ih.1, F.pre];refine ⟨by simp [F.pre], ?_, h1, ih.2.2, trivial⟩
  rw [path, path, ih.2.1, List.take_succ_cons, List.cons_append]
 | cons k c (cons k' c' r'), d + 1, p, hd, h, hx => by
  obtain ⟨h1, h2, h3⟩ := h;have hp : path (cons k c (cons k' c' r')) = path (cons k' c' r') := by rw [path]
  rw [hp] at hd hx;have ih := kU (e := e) (x := x) (cons k' c' r') (d + 1) p hd h3 hx;obtain ⟨a, b, t, hq⟩ := t6 (k := k') (d := d) (x := x) (c := c') (r := r');rw [iy, F.pre, ih.1, hp];refine ⟨?_, ?_, h1, h2, ih.2.2⟩
  ·show k :: (F.pre c ++ (F.pre (cons k' c' r') ++ [x])) = (k :: (F.pre c ++ F.pre (cons k' c' r'))) ++ [x]
   rw [List.cons_append, List.append_assoc]
  rw [hq] at ih ⊢;rw [path];exact ih.2.1
theorem ql {e : Nat → Int} : ∀ (f : F) (p : Int), Eld e p f → (∀ k ∈ F.pre f, p ≤ (k : Int)) → ∀ k ∈ F.pre f, p ≤ e k
 | nil, _, _, _, _, m => by cases m
 | cons a c r, p, h, hp, k, m => by
  obtain ⟨h1, h2, h3⟩ := h;rcases nM p (cons a c r) ⟨h1, h2, h3⟩ k m with z | ⟨j, j1, j2⟩
  ·lia
  ·rw [j2]
   exact hp j j1
end F
end B
namespace B
open PySem L2 L3
noncomputable def fV : Fs := (aE (sIf (aT (eOp gLt (ae 1) (eB c_ (af (ae 0) aq)))) (d6 (eOp gIx (ae 0) (ae 1))) sNx)
 (aE (aN 2 (eOp cR (eOp fZ (eC (.int 7919)) (ae 1)) (eC (.int 5))))
 (aE (sIf (aT (eOp gGt (eB c_ (af (ae 0) aq)) (eC (.int 0)))) (aN 2 (eOp fF (eOp cR (eOp fZ (eOp gIx (ae 0) (eOp fF (ae 1) (eB c_ (af (ae 0) aq)))) (eC (.int 48271))) (eOp fZ (ae 1) (eC (.int 7919)))) (eC (.int 2147483647)))) sNx)
 (d6 (eOp fF (eOp fZ (ae 2) (ae 2)) (eC (.int 2147483629)))))))
noncomputable def cB : Fn := cQ 2 3 fV
noncomputable def fm : Fs := (aE (aN 2 (eC (.str "abcdefghijklmnopqrstuvwxyz")))
 (aE (aN 3 (eC (.str "")))
 (aE (e6 (iR1 (eOp cR (eC (.int 1)) (eOp fF (ae 0) (ae 1)))) (gNm 4) (aN 3 (eOp cR (ae 3) (eOp gIx (ae 2) (eOp fF (eOp fM (ae 0) (eOp cR (eC (.int 9)) (eOp fZ (eOp fZ (eC (.int 4)) (ae 4)) (ae 4)))) (eC (.int 26)))))))
 (d6 (ae 3)))))
noncomputable def dh : Fn := cQ 2 5 fm
noncomputable def fN : Fs := (aE (aN 5 (eE aq))
 (aE (aN 6 (eSh (eE aq)))
 (aE (e6 (iR1 (ae 2)) (gNm 7) (aE (aN 8 (eOp fF (eOp fZ (aJ cB (af (ae 0) (af (eOp cR (ae 1) (ae 7)) aq))) (eC (.int 69621))) (eC (.int 2147483629))))
 (aE (sIf (aT (eOp gGt (ae 7) (eC (.int 0)))) (aE (aN 9 (eOp cR (eC (.int 1)) (eOp fF (ae 8) (eB c_ (af (ae 6) aq)))))
 (aE (sIf (aT (eOp gEq (eOp fF (eOp fM (ae 8) (eC (.int 16))) (eC (.int 3))) (eC (.int 0)))) (aN 9 (eB c_ (af (ae 6) aq))) sNx)
 (aE (aN 6 (eSh (eSl we (ae 6) oE (lW (eB rS (af (ae 9) (af (ae 4) aq)))))))
 (gU 5 (eSh (gG (af (eOp gIx (ae 6) (eUn gz (eC (.int 1)))) (af (eSh (aJ dh (af (eOp fM (ae 8) (eC (.int 64))) (af (ae 3) aq)))) (af (eOp cR (eC (.int 1)) (eOp fF (eOp fM (ae 8) (eC (.int 4096))) (eC (.int 9)))) aq))))))))) (gU 5 (eSh (gG (af (eUn gz (eC (.int 1))) (af (eSh (aJ dh (af (eOp fM (ae 8) (eC (.int 64))) (af (ae 3) aq)))) (af (eOp cR (eC (.int 1)) (eOp fF (eOp fM (ae 8) (eC (.int 4096))) (eC (.int 9)))) aq)))))))
 (aN 6 (eSh (eOp cR (ae 6) (eE (af (ae 7) aq))))))))
 (gC 5))))
noncomputable def eR : Fn := cQ 5 10 fN
local macro_rules
 | `(tactic| push_cast only [$a,*] $[$l:location]?) => do
  let e ← ("v_var v_c Fh FF AB Bg Eu zP v_and v_or v_not E_ t8 kE BP CQ Ba v_b FG v_bor Au Bp EO EA CL xC w6 Ff zT Aw EZ Fj FD Fm ED BQ DP CD DU Bb CM EY F8 Fq Cw Dd EK z_ Cd Az Ad Ck Ep yN Bw BD Dg Dl B_ EM BK EV D8 F6 Cn y9 Ai D4 BN w_ wj yG yC As zU BU BC zX BG zy Ak zG BH BR Bu Fp D_ Bs BO zL y7 Cs wA CT Dy DV D7 FI FV F_ B0 yR yP Et D6 AZ Ex Ec Dq Cu Di Cv Ez DN CN Cr Cp FJ FN EX FH Fd FO AM Cc Dx Aj zB AO Aa Bc Ay DK vx Bz y6 at0 at1 at2 DH yL Ae AL zj yS zz yJ AK AU Aq za yO zx Ar Ab yK Fu FX FQ Fz F9 Fx bN lX yh flat List.map_cons List.map_nil List.length_cons List.length_nil List.getElem?_cons_zero List.getElem?_cons_succ List.getElem?_nil List.set_cons_zero List.set_cons_succ List.cons_append List.nil_append List.append_nil List.replicate_succ List.replicate_zero Nat.reduceAdd Nat.reduceSub Nat.reduceLeDiff Nat.reduceLT Nat.reduceEqDiff Nat.zero_add Bool.not_true Bool.not_false if_true if_false Bool.false_eq_true reduceIte decide_true decide_false reduceCtorEq xK FA Int.reduceLT Int.reduceLE Int.reduceNeg Int.reducePow Int.reduceToNat Int.reduceMul Int.reduceAdd Int.reduceSub Nat.reducePow and_true true_and and_self List.length_map Ed DY v_sub D3 Eb Cj Ce Du DL Dm EC Int.cast_ofNat_Int Int.reduceEq Int.reduceNe Cb kh zo CY By EH Dv CH".splitOn " ").toArray.mapM fun s => `(Lean.Parser.Tactic.simpLemma| $(Lean.mkIdent s.toName):ident)
  `(tactic| simp (maxSteps := 1000000) -implicitDefEqProofs only [$e,*, $a,*] $[$l]?)
theorem mK (ns : List Int) (k : Int) (h0 : 0 ≤ k) (h1 : k < 1000000) : ∃ z, cB [.list (ns.map PyData.int), .int k] = .ok (.sh (.int z)) := by
 unfold cB fV;by_cases hk : k < (ns.length : Int)
 ·obtain ⟨x, e1, e2⟩ := qa (ns.map PyData.int) k h0 (by simpa using hk)
  rw [List.getElem?_map] at e1;obtain ⟨z, _, rfl⟩ := Option.map_eq_some_iff.mp e1;exact ⟨z, by push_cast only [decide_eq_true hk, e2]⟩
 ·by_cases hl : (0 : Int) < ns.length
  ·have hm := d9 k hl
   obtain ⟨x, e1, e2⟩ := qa (ns.map PyData.int) (k % (ns.length : Int)) hm.1 (by simpa using hm.2)
   rw [List.getElem?_map] at e1;obtain ⟨z, _, rfl⟩ := Option.map_eq_some_iff.mp e1;have h2 := d9 (z * 48271 + k * 7919) (show (0 : Int) < 2147483647 by decide)
   have c2 : iK ((z * 48271 + k * 7919) % 2147483647) ((z * 48271 + k * 7919) % 2147483647) = true := xK (by lia) (by lia)
   refine ⟨(z * 48271 + k * 7919) % 2147483647 * ((z * 48271 + k * 7919) % 2147483647) % 2147483629, ?_⟩;push_cast only [decide_eq_false hk, decide_eq_true hl, hl, e2, c2]
  ·have c2 : iK (7919 * k + 5) (7919 * k + 5) = true := xK (by lia) (by lia)
   refine ⟨(7919 * k + 5) * (7919 * k + 5) % 2147483629, ?_⟩;push_cast only [decide_eq_false hk, decide_eq_false hl, c2]
structure Nd where
 e : Int
 l : Str
 t : Int
noncomputable def l9 (l : Str) : Prop := 1 ≤ l.length ∧ l.length ≤ 9 ∧ ∀ c ∈ l.cps.toList, 97 ≤ c ∧ c ≤ 122
noncomputable def zD (n : Nd) : Prop := l9 n.l ∧ 1 ≤ n.t ∧ n.t ≤ 9
noncomputable def ndD (n : Nd) : PyData := .tuple [.int n.e, .str n.l, .int n.t]
noncomputable def aB (ts : List Nd) : List PyData := ts.map ndD
inductive Grown (deep : Nat) : List Nd → List Int → Prop
 | root {n : Nd} : zD n → n.e = -1 → Grown deep [n] [0]
 | step {ns : List Nd} {way : List Int} {c : Nat} {n : Nd} : Grown deep ns way → 1 ≤ c → c ≤ way.length → c ≤ deep → zD n → way[c - 1]? = some n.e → Grown deep (ns ++ [n]) (way.take c ++ [(ns.length : Int)])
theorem Grown.pos {deep : Nat} {ns : List Nd} {way : List Int} (g : Grown deep ns way) : 0 < ns.length ∧ 0 < way.length := by
 cases g with
 | root => simp
 | step => simp
theorem Grown.way_lt {deep : Nat} {ns : List Nd} {way : List Int} (g : Grown deep ns way) : ∀ x ∈ way, 0 ≤ x ∧ x < ns.length := by
 induction g with
 | root => simp
 | @step ns way c n g h1 h2 h3 h4 h5 ih =>
  intro x hx;rw [List.mem_append] at hx;rw [List.length_append];rcases hx with hx | hx
  ·have := ih x (List.mem_of_mem_take hx)
   simp
   lia
  ·have : x = ns.length := by simpa using hx
   simp
   lia
theorem Grown.ok {deep : Nat} {ns : List Nd} {way : List Int} (g : Grown deep ns way) : ∀ n ∈ ns, zD n := by
 induction g with
 | root h => simpa using h
 | @step ns way c n g h1 h2 h3 h4 h5 ih =>
  intro x hx;rcases List.mem_append.mp hx with hx | hx
  ·exact ih x hx
  ·have : x = n := by simpa using hx
   rw [this];exact h4
theorem v_ {k : Int} (h0 : 0 ≤ k) (h1 : k < 26) : ∃ c, atI (Str.ofString "abcdefghijklmnopqrstuvwxyz").cps.toList k = some c ∧ 97 ≤ c ∧ c ≤ 122 := by
 have e : (Str.ofString "abcdefghijklmnopqrstuvwxyz").cps.toList = List.range' 97 26 := by decide +kernel
 rw [e];obtain ⟨v, e1, e2⟩ := qa (List.range' 97 26) k h0 (by simpa using h1)
 refine ⟨v, e2, ?_⟩;have := List.mem_range'.mp (List.mem_of_getElem? e1)
 lia
theorem vH (k : Int) (h0 : 0 ≤ k) (h1 : k < 26) : ∃ c, atI (Str.ofString "abcdefghijklmnopqrstuvwxyz").cps.toList k = some c ∧ (97 ≤ c ∧ c ≤ 122) := v_ h0 h1
theorem gO (a b : Str) : (a ++ b).cps.toList = a.cps.toList ++ b.cps.toList := PyProof.Rows.cps_toList_append a b
theorem bP (a : Str) : a.length = a.cps.toList.length := by simp [Str.length]
theorem vM (a : Str) (c : Nat) : (a ++ ⟨#[c]⟩ : Str).length = a.length + 1 := by
 rw [bP, gO, bP, List.length_append];rfl
theorem uG (z m : Int) (m1 : 1 ≤ m) (m2 : m ≤ 9) : ∃ l, l9 l ∧ dh [.int z, .int m] = .ok (.sh (.str l)) := by
 unfold dh fm;have hm := d9 z (show 0 < m by lia)
 have s1 : ay (1 + z % m) = true := eT (by lia) (by lia)
 have p0 : (0 : Int) < m := by lia
 obtain ⟨f, hf⟩ : ∃ f : Nat → Nat, ∀ i : Nat, atI (Str.ofString "abcdefghijklmnopqrstuvwxyz").cps.toList (z / (9 + 4 * (0 + (i : Int)) * (0 + (i : Int))) % 26) = some (f i) ∧ (97 ≤ f i ∧ f i ≤ 122) :=
  ⟨fun i => Classical.choose (vH _ (d9 (z / (9 + 4 * (0 + (i : Int)) * (0 + (i : Int)))) (show (0 : Int) < 26 by decide)).1 (d9 _ (by decide)).2), fun i => Classical.choose_spec (vH _ (d9 (z / (9 + 4 * (0 + (i : Int)) * (0 + (i : Int)))) (show (0 : Int) < 26 by decide)).1 (d9 _ (by decide)).2)⟩
 push_cast only [p0, s1];generalize hL : bI _ _ _ _ = r
 refine cC hL (fun i ρ => ∃ (l : Str) (v : Option OD), ρ = [some (.sh (.int z)), some (.sh (.int m)), some (.sh (.str (Str.ofString "abcdefghijklmnopqrstuvwxyz"))), some (.sh (.str l)), v] ∧ l.length = i ∧ ∀ c ∈ l.cps.toList, 97 ≤ c ∧ c ≤ 122) ⟨_, _, rfl, rfl, fun c hc => by cases hc⟩ ?_ ?_
 ·rintro i d ρ hd ⟨l, v, rfl, hl, hc⟩
  obtain ⟨hi, rfl⟩ := eQ hd;have i9 : (i : Int) < 9 := by lia
  have ib : 0 ≤ 4 * (0 + (i : Int)) * (0 + (i : Int)) ∧ 4 * (0 + (i : Int)) * (0 + (i : Int)) ≤ 4 * 8 * 8 := by
   have a1 : 0 ≤ (0 + (i : Int)) := by lia
   have a2 : (0 + (i : Int)) ≤ 8 := by lia
   refine ⟨Int.mul_nonneg (by lia) a1, ?_⟩
   exact Int.mul_le_mul (by lia) a2 a1 (by lia)
  have ec := (hf i).1;have c1 := (hf i).2.1;have c2 := (hf i).2.2;generalize f i = c at ec c1 c2
  have k1 : iK (4 * (0 + (i : Int))) (0 + (i : Int)) = true := xK (by lia) (by lia)
  have k2 : (0 < 9 + 4 * (0 + (i : Int)) * (0 + (i : Int)) ∧ 9 + 4 * (0 + (i : Int)) * (0 + (i : Int)) < 1073741824) = True := eq_true ⟨by lia, by lia⟩
  have k3 : ((Str.ofString "abcdefghijklmnopqrstuvwxyz").length ≤ BIG) = True := by decide +kernel
  have k4 : (l.length + (⟨#[c]⟩ : Str).length ≤ BIG) = True := aS (by rw [hl]; show i + 1 ≤ 1000; lia)
  push_cast only [k1, k2, k3, k4, ec, Option.map_some];refine ⟨_, _, rfl, by rw [vM, hl], fun d hd => ?_⟩
  rw [gO, List.mem_append] at hd;rcases hd with hd | hd
  ·exact hc d hd
  ·have : d = c := by simpa using hd
   lia
 ·rintro ρ' rfl ⟨l, v, rfl, hl, hc⟩
  rw [eI] at hl;push_cast only [and_self];exact ⟨l, ⟨by lia, by lia, hc⟩, rfl⟩
theorem pE (xs : List PyData) (k : Nat) : cutD xs none (some (k : Int)) = xs.take k := by
 unfold cutD;rw [HT.uK, HT.xS, List.drop_zero, Nat.sub_zero];rcases Nat.le_total k xs.length with h | h
 ·rw [Nat.min_eq_left h]
 ·rw [Nat.min_eq_right h, List.take_of_length_le (Nat.le_refl _), List.take_of_length_le h]
theorem mC {way : List Int} {k : Nat} (h1 : 1 ≤ k) (h2 : k ≤ way.length) : ∃ e, way[k - 1]? = some e ∧ atI ((way.take k).map PyData.int) (-1) = some (.int e) := by
 have hk : k - 1 < way.length := by lia
 refine ⟨way[k - 1], by simp [hk], ?_⟩
 have h : way.take (k - 1 + 1) = way.take (k - 1) ++ [way[k - 1]] := by
  rw [List.take_add_one];simp [hk]
 rw [show k - 1 + 1 = k by lia] at h
 rw [h, List.map_append];exact oU _ _
theorem dG (ts : List Nd) : (aB ts).length = ts.length := by unfold aB; rw [List.length_map]
theorem kH (ts : List Nd) (n : Nd) : aB (ts ++ [n]) = aB ts ++ [.tuple [.int n.e, .str n.l, .int n.t]] := by
 unfold aB;rw [List.map_append];rfl
theorem wZ (ns : List Int) (st : Int) (many : Nat) (most deep : Int) (s0 : 0 ≤ st) (s1 : st ≤ 1000) (n0 : 1 ≤ many) (n1 : many ≤ 900) (m0 : 1 ≤ most) (m1 : most ≤ 9) (d0 : 1 ≤ deep) (d1 : deep ≤ 1000) :
  ∃ ts way, Grown deep.toNat ts way ∧ ts.length = many ∧ eR [.list (ns.map PyData.int), .int st, .int many, .int most, .int deep] = .ok (.ol ((aB ts).map OD.sh)) := by
 unfold eR fN;have s62 : ay (many : Int) = true := eT (by lia) (by lia)
 push_cast only [s62];generalize hL : bI _ _ _ _ = r
 refine cC hL (fun i ρ => ∃ (ts : List Nd) (way : List Int) (v7 v8 v9 : Option OD), ρ = [some (.sh (.list (ns.map PyData.int))), some (.sh (.int st)), some (.sh (.int many)), some (.sh (.int most)), some (.sh (.int deep)), some (.ol ((aB ts).map OD.sh)), some (.sh (.list (way.map PyData.int))), v7, v8, v9] ∧ ts.length = i ∧ way.length ≤ i ∧ ((i = 0 ∧ ts = [] ∧ way = []) ∨ (0 < i ∧ Grown deep.toNat ts way)))
  ⟨[], [], _, _, _, rfl, rfl, Nat.le_refl _, .inl ⟨rfl, rfl, rfl⟩⟩ ?_ ?_
 ·rintro i d ρ hd ⟨ts, way, v7, v8, v9, rfl, hti, hwi, hg⟩
  obtain ⟨hi, rfl⟩ := eQ hd;rw [Int.toNat_natCast] at hi;obtain ⟨y, hy⟩ := mK ns (st + (0 + (i : Int))) (by lia) (by lia)
  obtain ⟨l, hl, el⟩ := uG (y * 69621 % 2147483629 / 64) most m0 m1;have hq := d9 (y * 69621 % 2147483629 / 4096) (show (0 : Int) < 9 by decide)
  have lb : ((aB ts).length < BIG) = True := by rw [dG]; exact d_ (by lia)
  by_cases h0 : (0 : Int) < 0 + (i : Int)
  ·have hg' : Grown deep.toNat ts way := by
    rcases hg with hg | hg
    ·lia
    ·exact hg.2
   have wp := hg'.pos.2;have wl : (0 : Int) < way.length := by lia
   have hr := d9 (y * 69621 % 2147483629) wl;have fin : ∀ c : Nat, 1 ≤ c → c ≤ way.length → c ≤ deep.toNat → ∀ (e : Int), way[c - 1]? = some e → Grown deep.toNat (ts ++ [⟨e, l, 1 + y * 69621 % 2147483629 / 4096 % 9⟩]) (way.take c ++ [(ts.length : Int)]) := fun c c1 c2 c3 e he =>
    Grown.step hg' c1 c2 c3 ⟨hl, by show 1 ≤ 1 + _; lia, by show 1 + _ ≤ 9; lia⟩ he
   have lw : ∀ c : Nat, ((way.take c).length + 1 ≤ BIG) = True := fun c => aS (by rw [List.length_take]; lia)
   by_cases h3 : y * 69621 % 2147483629 / 16 % 3 = 0
   ·obtain ⟨c, hc⟩ : ∃ c : Nat, (if deep < (way.length : Int) then deep else (way.length : Int)) = (c : Int) := ⟨(if deep < (way.length : Int) then deep else (way.length : Int)).toNat, by split <;> lia⟩
    obtain ⟨c1, c2, c3⟩ : 1 ≤ c ∧ c ≤ way.length ∧ c ≤ deep.toNat := by split at hc <;> lia
    obtain ⟨e, he, hat⟩ := mC c1 c2;push_cast only [hy, el, wl, decide_eq_true h0, decide_eq_true h3, hc, pE, ← List.map_take, c6, hat, lb, lw];have t1 := kH ts ⟨e, l, 1 + y * 69621 % 2147483629 / 4096 % 9⟩;have t2 : (aB ts).map OD.sh ++ [OD.sh (.tuple [.int e, .str l, .int (1 + y * 69621 % 2147483629 / 4096 % 9)])] = (aB (ts ++ [⟨e, l, 1 + y * 69621 % 2147483629 / 4096 % 9⟩])).map OD.sh := by rw [t1, List.map_append]; rfl
    have w1 : (way.take c).map PyData.int ++ [PyData.int (0 + (i : Int))] = (way.take c ++ [(ts.length : Int)]).map PyData.int := by rw [List.map_append, hti, Int.zero_add]; rfl
    rw [t2, w1];exact ⟨_, _, _, _, _, rfl, by rw [List.length_append, hti]; rfl, by rw [List.length_append, List.length_take, List.length_singleton]; lia, .inr ⟨Nat.succ_pos _, fin c c1 c2 c3 e he⟩⟩
   ·obtain ⟨c, hc⟩ : ∃ c : Nat, (if deep < 1 + y * 69621 % 2147483629 % (way.length : Int) then deep else 1 + y * 69621 % 2147483629 % (way.length : Int)) = (c : Int) := ⟨(if deep < 1 + y * 69621 % 2147483629 % (way.length : Int) then deep else 1 + y * 69621 % 2147483629 % (way.length : Int)).toNat, by split <;> lia⟩
    obtain ⟨c1, c2, c3⟩ : 1 ≤ c ∧ c ≤ way.length ∧ c ≤ deep.toNat := by split at hc <;> lia
    obtain ⟨e, he, hat⟩ := mC c1 c2;push_cast only [hy, el, wl, decide_eq_true h0, decide_eq_false h3, hc, pE, ← List.map_take, c6, hat, lb, lw];have t1 := kH ts ⟨e, l, 1 + y * 69621 % 2147483629 / 4096 % 9⟩;have t2 : (aB ts).map OD.sh ++ [OD.sh (.tuple [.int e, .str l, .int (1 + y * 69621 % 2147483629 / 4096 % 9)])] = (aB (ts ++ [⟨e, l, 1 + y * 69621 % 2147483629 / 4096 % 9⟩])).map OD.sh := by rw [t1, List.map_append]; rfl
    have w1 : (way.take c).map PyData.int ++ [PyData.int (0 + (i : Int))] = (way.take c ++ [(ts.length : Int)]).map PyData.int := by rw [List.map_append, hti, Int.zero_add]; rfl
    rw [t2, w1];exact ⟨_, _, _, _, _, rfl, by rw [List.length_append, hti]; rfl, by rw [List.length_append, List.length_take, List.length_singleton]; lia, .inr ⟨Nat.succ_pos _, fin c c1 c2 c3 e he⟩⟩
  ·obtain ⟨i0, rfl, rfl⟩ : i = 0 ∧ ts = [] ∧ way = [] := by
    rcases hg with hg | hg
    ·exact hg
    ·lia
   push_cast only [hy, el, decide_eq_false h0, c6, lb];subst i0;exact ⟨[⟨-1, l, 1 + y * 69621 % 2147483629 / 4096 % 9⟩], [0], _, _, _, rfl, rfl, by decide, .inr ⟨Nat.succ_pos _, Grown.root ⟨hl, by show 1 ≤ 1 + _; lia, by show 1 + _ ≤ 9; lia⟩ rfl⟩⟩
 ·rintro ρ' rfl ⟨ts, way, v7, v8, v9, rfl, hti, hwi, hg⟩
  rw [eI, Int.toNat_natCast] at hti hg;rcases hg with hg | hg
  ·lia
  ·push_cast only [and_self]
   exact ⟨ts, way, hg.2, hti, rfl⟩
theorem A0 {l : Str} (h : l9 l) : PyData.strOk l = true := by
 unfold PyData.strOk;rw [Array.all_eq_true'];intro c hc;have := h.2.2 c (by simpa using hc)
 simp
 lia
theorem Bd {n : Nd} (h : l9 n.l) : lay 1 (ndD n) := mr fun x hx => by
 simp only [List.mem_cons, List.not_mem_nil, or_false] at hx;rcases hx with rfl | rfl | rfl
 ·exact kA _
 ·exact mT (A0 h)
 ·exact kA _
theorem xw {ts : List Nd} (h : ∀ n ∈ ts, l9 n.l) : lay 2 (.list (aB ts)) := jJ fun x hx => by
 unfold aB at hx;obtain ⟨n, hn, rfl⟩ := List.mem_map.mp hx;exact Bd (h n hn)
theorem k_ {ts : List Nd} {k : Nat} {n : Nd} (h : ts[k]? = some n) : atI (aB ts) (k : Int) = some (.tuple [.int n.e, .str n.l, .int n.t]) := eJ (by unfold aB; rw [List.getElem?_map, h]; rfl)
instance : Inhabited Nd := ⟨⟨0, "", 0⟩⟩
noncomputable def eOf (ts : List Nd) (k : Nat) : Int := (ts[k]?.map (·.e)).getD 0
noncomputable def PT (ts : List Nd) (c : F) : Prop := F.Pf ts.length (eOf ts) c
theorem dn {ts : List Nd} {k : Nat} {n : Nd} (h : ts[k]? = some n) : eOf ts k = n.e := by unfold eOf; rw [h]; rfl
theorem vt {deep : Nat} {ns : List Nd} {way : List Int} (g : Grown deep ns way) : ∃ c, PT ns c ∧ way = (0 :: F.path c).map (fun k : Nat => (k : Int)) := by
 induction g with
 | @root n h1 h2 => exact ⟨F.nil, ⟨rfl, by rw [dn (n := n) rfl]; exact h2, trivial⟩, rfl⟩
 | @step ns way k n g h1 h2 h3 h4 h5 ih =>
  obtain ⟨c, p, hw⟩ := ih;subst hw;rw [List.length_map, List.length_cons] at h2;have same : ∀ j, j < ns.length → eOf (ns ++ [n]) j = eOf ns j := fun j hj => by
   unfold eOf;rw [List.getElem?_append_left hj]
  have new : eOf (ns ++ [n]) ns.length = n.e := dn (by simp)
  have inR : ∀ j ∈ F.pre c, j < ns.length := fun j m => by
   have : j ∈ 0 :: F.pre c := List.mem_cons_of_mem _ m;rw [p.pre, List.mem_range] at this;exact this
  have he : F.Eld (eOf (ns ++ [n])) 0 c := F.iV 0 c (fun j m => same j (inR j m)) p.eld
  obtain ⟨q1, q2, q3⟩ := F.kU (x := ns.length) c (k - 1) 0 (by lia) he (by
   rw [new];rw [List.getElem?_map] at h5;by_cases k1 : k = 1
   ·subst k1
    have := Option.some.inj h5;rw [if_pos rfl];exact this.symm
   ·obtain ⟨m, rfl⟩ : ∃ m, k = m + 2 := ⟨k - 2, by lia⟩
    rw [if_neg (by lia)]
    have e : (0 :: F.path c)[m + 2 - 1]? = (F.path c)[m + 2 - 1 - 1]? := rfl;rw [e] at h5;obtain ⟨v, hv, hv2⟩ := Option.map_eq_some_iff.mp h5;rw [hv, ← hv2];rfl)
  refine ⟨F.iy c (k - 1) ns.length, ⟨?_, ?_, q3⟩, ?_⟩
  ·rw [q1, ← List.cons_append, p.pre, List.length_append, List.length_cons, List.length_nil, List.range_succ]
  ·rw [same 0 p.pos]
   exact p.root
  ·rw [q2]
   obtain ⟨m, rfl⟩ : ∃ m, k = m + 1 := ⟨k - 1, by lia⟩
   rw [List.map_cons, List.map_cons, List.take_succ_cons, List.map_append, Nat.add_sub_cancel, List.map_take];rfl
noncomputable def aY (ts : List Nd) (k : Nat) : Nd := ts[k]?.getD default
theorem uz {ts : List Nd} {k : Nat} (h : k < ts.length) : (aY ts k).e = eOf ts k := by
 unfold aY eOf;rw [List.getElem?_eq_getElem h];rfl
section
variable {ts : List Nd} {c : F}
theorem uC {n : Nat} {e e' : Nat → Int} {c : F} (h : ∀ k, k < n → e' k = e k) (p : F.Pf n e c) : F.Pf n e' c := by
 refine ⟨p.pre, by rw [h 0 p.pos]; exact p.root, F.iV 0 c (fun k m => h k ?_) p.eld⟩
 have : k ∈ 0 :: F.pre c := List.mem_cons_of_mem _ m;rw [p.pre, List.mem_range] at this;exact this
end
theorem xP {ts us : List Nd} {c : F} (p : PT ts c) (hl : us.length = ts.length) (h : ∀ k, k < ts.length → eOf us k = eOf ts k) : PT us c := by
 unfold PT;rw [hl];exact uC h p
namespace F
theorem qi {ch : Nat → List Nat} : ∀ (f : F), Con ch f → ∀ q ∈ F.pre f, ∀ b ∈ ch q, b ∈ F.pre f
 | nil, _, q, m, _, _ => by cases m
 | cons k c r, h, q, m, b, hb => by
  obtain ⟨h1, h2, h3⟩ := h;have rs : ∀ g : F, ∀ x ∈ roots g, x ∈ F.pre g := by
   intro g
   induction g with
   | nil => intro x hx; cases hx
   | cons a d t _ ih =>
    intro x hx;rw [roots] at hx;rw [F.pre];rcases List.mem_cons.mp hx with rfl | hx
    ·exact List.mem_cons_self
    ·exact List.mem_cons_of_mem _ (List.mem_append_right _ (ih x hx))
  rw [F.pre] at m ⊢;rcases List.mem_cons.mp m with rfl | m
  ·rw [h1] at hb
   exact List.mem_cons_of_mem _ (List.mem_append_left _ (rs c b hb))
  ·rcases List.mem_append.mp m with m | m
   ·exact List.mem_cons_of_mem _ (List.mem_append_left _ (qi c h2 q m b hb))
   ·exact List.mem_cons_of_mem _ (List.mem_append_right _ (qi r h3 q m b hb))
theorem jK {e : Nat → Int} {ch : Nat → List Nat} : ∀ (f : F) (a m : Nat) (p : Int), F.pre f = List.range' a m → Eld e p f → Con ch f → p < (a : Int) → ∀ j, a ≤ j → j < a + m →
  ∃ cj s, F.pre cj = List.range' (j + 1) s ∧ Eld e (j : Int) cj ∧ j + 1 + s ≤ a + m ∧ (j + 1 + s < a + m → e (j + 1 + s) < (j : Int)) ∧ Con ch cj ∧ ch j = roots cj
 | nil, a, m, p, hp, _, _, _, j, h1, h2 => by
  have := congrArg List.length hp;rw [F.pre, List.length_nil, List.length_range'] at this
  lia
 | cons k c r, a, m, p, hp, he, hcon, hpa, j, h1, h2 => by
  obtain ⟨e1, e2, e3⟩ := he;obtain ⟨o1, o2, o3⟩ := hcon;obtain ⟨m', rfl⟩ : ∃ m', m = m' + 1 := ⟨m - 1, by lia⟩
  rw [F.pre, List.range'_succ] at hp;obtain ⟨hk, hrest⟩ := List.cons.inj hp;subst hk;have hl := congrArg List.length hrest;rw [List.length_append, List.length_range'] at hl;have hm : m' = (F.pre c).length + (F.pre r).length := by lia
  rw [hm, ← List.range'_append_1] at hrest;obtain ⟨hc, hr⟩ := List.append_inj hrest (by rw [List.length_range'])
  have first : (F.pre r).length ≠ 0 → e (k + 1 + (F.pre c).length) = p := fun hne => by
   cases r with
   | nil => exact absurd rfl hne
   | cons b1 b2 b3 =>
    have hb : b1 = k + 1 + (F.pre c).length := by
     have := congrArg (fun l => l[0]?) hr
     rw [F.pre] at this;rw [List.length_cons, List.range'_succ] at this;exact Option.some.inj this
    rw [← hb];exact e3.1
  by_cases hj : j = k
  ·subst hj
   refine ⟨c, (F.pre c).length, hc, e2, by lia, fun h => ?_, o2, o1⟩
   rw [first (by lia)]
   lia
  ·by_cases hj2 : j < k + 1 + (F.pre c).length
   ·obtain ⟨cj, s, q1, q2, q3, q4, q5, q6⟩ := jK c (k + 1) (F.pre c).length (k : Int) hc e2 o2 (by lia) j (by lia) hj2
    refine ⟨cj, s, q1, q2, by lia, fun h => ?_, q5, q6⟩
    by_cases hs : j + 1 + s < k + 1 + (F.pre c).length
    ·exact q4 hs
    ·have : j + 1 + s = k + 1 + (F.pre c).length := by lia
     rw [this, first (by lia)]
     lia
   ·obtain ⟨cj, s, q1, q2, q3, q4, q5, q6⟩ := jK r (k + 1 + (F.pre c).length) (F.pre r).length p hr e3 o3 (by lia) j (by lia) (by lia)
    exact ⟨cj, s, q1, q2, by lia, fun h => q4 (by lia), q5, q6⟩
end F
theorem uw {ts : List Nd} {c : F} (p : PT ts c) {j : Nat} (hj : j < ts.length) : ∃ s, j + 1 + s ≤ ts.length ∧ (∀ k, j < k → k ≤ j + s → (j : Int) ≤ eOf ts k) ∧ (j + 1 + s < ts.length → eOf ts (j + 1 + s) < (j : Int)) ∧
  ∀ b, b < ts.length → (j : Int) ≤ eOf ts b → eOf ts b ≤ ((j + s : Nat) : Int) → j < b ∧ b ≤ j + s := by
 obtain ⟨cj, s, q1, q2, q3, q4, q5, q6⟩ := F.jK (e := eOf ts) (F.full c) 0 ts.length (-1) (by rw [p.preF, List.range_eq_range']) p.eldF p.con (by decide) j (by lia) (by lia)
 rw [Nat.zero_add] at q3 q4;have ge := F.ql cj (j : Int) q2 (fun k m => by rw [q1, List.mem_range'_1] at m; lia)
 refine ⟨s, q3, fun k k1 k2 => ge k (by rw [q1, List.mem_range'_1]; lia), q4, fun b hb b1 b2 => ?_⟩
 have hm : b ∈ F.pre cj := by
  obtain ⟨q, hq⟩ : ∃ q : Nat, eOf ts b = (q : Int) := ⟨(eOf ts b).toNat, by lia⟩
  have hin : b ∈ (List.range ts.length).filter (fun x => decide (eOf ts x = (q : Int))) := List.mem_filter.mpr ⟨List.mem_range.mpr hb, decide_eq_true hq⟩
  by_cases hqj : q = j
  ·subst hqj
   have hin2 : b ∈ F.roots cj := by rw [← q6]; exact hin
   have rs : ∀ g : F, ∀ x ∈ F.roots g, x ∈ F.pre g := by
    intro g
    induction g with
    | nil => intro x hx; cases hx
    | cons a d t _ ih =>
     intro x hx;rw [F.roots] at hx;rw [F.pre];rcases List.mem_cons.mp hx with rfl | hx
     ·exact List.mem_cons_self
     ·exact List.mem_cons_of_mem _ (List.mem_append_right _ (ih x hx))
   exact rs cj b hin2
  ·exact F.qi cj q5 q (by rw [q1, List.mem_range'_1]; lia) b hin
 rw [q1, List.mem_range'_1] at hm
 lia
noncomputable def e_ : Fs := (sIf (lT (aT (eOp gLt (ae 1) (eC (.int 0)))) (aT (eOp gGe (ae 1) (eB c_ (af (ae 0) aq))))) Bn sNx)
noncomputable def d3 : Fn := cQ 2 2 e_
noncomputable def eL : Fs := (aE (aN 1 (eE aq))
 (aE (e6 (c9 (ae 0)) (gNm 2) (gU 1 (eSh (si (eIf (aT (eOp gEq (eOp gIx (ae 2) (eC (.int 0))) (eUn gz (eC (.int 1))))) (eC (.int 0)) (eOp cR (eOp gIx (ae 1) (eOp gIx (ae 2) (eC (.int 0)))) (eC (.int 1))))))))
 (gC 1)))
noncomputable def dv : Fn := cQ 1 3 eL
noncomputable def g_ : Fs := (d6 (aZ (c9 (ae 0)) (gNm 0) bH (eOp fM (eB c_ (af (eOp gIx (ae 0) (eC (.int 1))) aq)) (eC (.int 2))) 1 []))
noncomputable def cG : Fn := cQ 1 1 g_
noncomputable def eM : Fs := (aE (rA (aJ d3 (af (ae 0) (af (ae 1) aq))))
 (d6 (aZ (iEn (ae 0)) (gTp 2 (bA (gNm 0) (bA (gNm 1) gf))) (aT (eOp gEq (eOp gIx (ae 1) (eC (.int 0))) (ae 2))) (ae 0) 2 [1])))
noncomputable def aM : Fn := cQ 2 2 eM
noncomputable def fT : Fs := (aE (aN 1 (eE aq))
 (aE (e6 (iEn (aJ dv (af (ae 0) aq))) (gTp 2 (bA (gNm 2) (bA (gNm 3) gf))) (aE (sIf (vK (aT (eOp gEq (ae 3) (eB c_ (af (ae 1) aq))))) (gU 1 (eE aq)) sNx)
 (j0 1 (ae 3) (ae 2))))
 (gC 1)))
noncomputable def eH : Fn := cQ 1 4 fT
noncomputable def EL (ts : List Nd) : Prop := ∀ (k : Nat) (n : Nd), ts[k]? = some n → (k = 0 → n.e = -1) ∧ (0 < k → 0 ≤ n.e) ∧ n.e < k
noncomputable def cE (acc : List Nat) (n : Nd) : Nat := if n.e = -1 then 0 else (acc[n.e.toNat]?).getD 0 + 1
noncomputable def lvs (ts : List Nd) : List Nat := ts.foldl (fun acc n => acc ++ [cE acc n]) []
theorem fw (ts : List Nd) (n : Nd) : lvs (ts ++ [n]) = lvs ts ++ [cE (lvs ts) n] := by
 unfold lvs;rw [List.foldl_append];rfl
theorem snoc_ind {α : Type} {P : List α → Prop} (h0 : P []) (hs : ∀ xs x, P xs → P (xs ++ [x])) (xs : List α) : P xs := by
 have : ∀ ys : List α, P ys.reverse := by
  intro ys
  induction ys with
  | nil => exact h0
  | cons y ys ih => rw [List.reverse_cons]; exact hs _ _ ih
 have h := this xs.reverse
 rwa [List.reverse_reverse] at h
theorem bL : ∀ ts : List Nd, (lvs ts).length = ts.length := by
 intro ts;refine snoc_ind (P := fun ts => (lvs ts).length = ts.length) rfl (fun ts n ih => ?_) ts
 rw [fw, List.length_append, List.length_append, ih];rfl
theorem take_snoc {α : Type} {xs : List α} {i : Nat} {x : α} (h : xs[i]? = some x) : xs.take (i + 1) = xs.take i ++ [x] := by rw [List.take_add_one, h]; rfl
theorem jM (ts : List Nd) : ∀ i : Nat, (lvs ts).take i = lvs (ts.take i) := by
 refine snoc_ind (P := fun ts => ∀ i : Nat, (lvs ts).take i = lvs (ts.take i)) (fun i => by simp [lvs]) (fun ts n ih => ?_) ts
 ·intro i
  rcases Nat.le_total i ts.length with h | h
  ·rw [fw, List.take_append_of_le_length (by rw [bL]; exact h), List.take_append_of_le_length h, ih]
  ·by_cases h2 : i = ts.length
   ·subst h2
    rw [fw, List.take_append_of_le_length (by rw [bL]; exact Nat.le_refl _), List.take_append_of_le_length (Nat.le_refl _), ih]
   ·rw [List.take_of_length_le (by rw [bL, List.length_append]; simp; lia), List.take_of_length_le (by rw [List.length_append]; simp; lia)]
theorem g9 {ts : List Nd} {i : Nat} {n : Nd} (h : ts[i]? = some n) : (lvs ts)[i]? = some (cE (lvs (ts.take i)) n) := by
 have hi := (List.getElem?_eq_some_iff.mp h).1;have e := jM ts (i + 1);rw [take_snoc h, fw] at e;have : ((lvs ts).take (i + 1))[i]? = some (cE (lvs (ts.take i)) n) := by
  rw [e, List.getElem?_append_right (by rw [bL, List.length_take]; lia), bL, List.length_take, Nat.min_eq_left (by lia), Nat.sub_self]
  rfl
 rw [List.getElem?_take_of_lt (by lia)] at this
 exact this
noncomputable def dc (ks : List Nat) : List PyData := ks.map fun k : Nat => PyData.int (k : Int)
theorem jx (ks : List Nat) : (dc ks).length = ks.length := by unfold dc; rw [List.length_map]
theorem n8 {ks : List Nat} {k v : Nat} (h : ks[k]? = some v) : atI (dc ks) (k : Int) = some (.int v) := eJ (by unfold dc; rw [List.getElem?_map, h]; rfl)
theorem j5 (ks : List Nat) (k : Nat) : (dc ks).map OD.sh ++ [OD.sh (.int (k : Int))] = (dc (ks ++ [k])).map OD.sh := by
 unfold dc;rw [List.map_append, List.map_append];rfl
theorem k6 (ts : List Nd) (he : EL ts) (hl : ts.length ≤ 100) : dv [.list (aB ts)] = .ok (.ol ((dc (lvs ts)).map OD.sh)) := by
 unfold dv eL;push_cast only [and_self];generalize hL : bI _ _ _ _ = r'
 refine cC hL (fun i ρ => ∃ v2 : Option OD, ρ = [some (.sh (.list (aB ts))), some (.ol ((dc (lvs (ts.take i))).map OD.sh)), v2]) ⟨_, rfl⟩ ?_ ?_
 ·rintro i d ρ hd ⟨v2, rfl⟩
  unfold aB at hd;rw [List.getElem?_map] at hd;obtain ⟨n, hn, rfl⟩ := Option.map_eq_some_iff.mp hd;have hi := (List.getElem?_eq_some_iff.mp hn).1;have lb : ((dc (lvs (ts.take i))).length < BIG) = True := by rw [jx, bL, List.length_take]; exact d_ (by lia)
  have e0 : (lvs (ts.take (i + 1))) = lvs (ts.take i) ++ [cE (lvs (ts.take i)) n] := by rw [take_snoc hn, fw]
  have el := he i n hn;by_cases h1 : n.e = -1
  ·have e1 : cE (lvs (ts.take i)) n = 0 := by unfold cE; rw [if_pos h1]
   rw [e1] at e0;have sn := j5 (lvs (ts.take i)) 0;rw [← e0, Int.natCast_zero] at sn;push_cast only [ndD, decide_eq_true h1, lb, c6, sn];exact ⟨_, rfl⟩
  ·have h0 : 0 < i := by
    rcases Nat.eq_zero_or_pos i with h | h
    ·exact absurd (el.1 h) h1
    ·exact h
   obtain ⟨k, hk⟩ : ∃ k : Nat, n.e = (k : Int) := ⟨n.e.toNat, by have := el.2.1 h0; lia⟩
   have hki : k < i := by have := el.2.2; lia
   obtain ⟨v, hv⟩ : ∃ v, (lvs (ts.take i))[k]? = some v := ⟨(lvs (ts.take i))[k]'(by rw [bL, List.length_take]; lia), by simp⟩
   have e1 : cE (lvs (ts.take i)) n = v + 1 := by unfold cE; rw [if_neg h1, hk, Int.toNat_natCast, hv]; rfl
   rw [e1] at e0;have sn := j5 (lvs (ts.take i)) (v + 1);rw [← e0, Int.natCast_add, Int.natCast_one] at sn;have ga := n8 hv;have h1' : ¬ ((k : Int) = -1) := by lia
   push_cast only [ndD, hk, decide_eq_false h1', lb, c6, ga, sn];exact ⟨_, rfl⟩
 ·rintro ρ' rfl ⟨v2, rfl⟩
  push_cast only [and_self];rw [dG, List.take_of_length_le (Nat.le_refl _)]
noncomputable def sQ (nums : List (List Nat)) (k lv : Nat) : List (List Nat) := if lv = nums.length then nums ++ [[k]] else nums.set lv ((nums[lv]?).getD [] ++ [k])
noncomputable def bt (L : List Nat) : Nat → List (List Nat)
 | 0 => []
 | i + 1 => sQ (bt L i) i ((L[i]?).getD 0)
structure NumOk (L : List Nat) (i : Nat) (nums : List (List Nat)) : Prop where
 row : ∀ (j : Nat) (r : List Nat), nums[j]? = some r → r ≠ [] ∧ r.Pairwise (· < ·) ∧ ∀ k, k ∈ r ↔ k < i ∧ L[k]? = some j
 lt : ∀ (k v : Nat), k < i → L[k]? = some v → v < nums.length
 sum : (nums.map List.length).sum = i
theorem sum_set (f : List Nat → Nat) : ∀ (nums : List (List Nat)) (j : Nat) (r r' : List Nat), nums[j]? = some r → f r' = f r + 1 → ((nums.set j r').map f).sum = (nums.map f).sum + 1
 | [], j, _, _, h, _ => by simp at h
 | x :: xs, 0, r, r', h, e => by
  simp at h
  subst h;simp
  lia
 | x :: xs, j + 1, r, r', h, e => by
  have := sum_set f xs j r r' (by simpa using h) e
  simp at this ⊢
  lia
theorem vi : ∀ (nums : List (List Nat)) (j : Nat) (r : List Nat), nums[j]? = some r → r.length ≤ (nums.map List.length).sum
 | [], j, r, h => by simp at h
 | x :: xs, 0, r, h => by
  simp at h
  subst h;simp
 | x :: xs, j + 1, r, h => by
  have := vi xs j r (by simpa using h)
  simp
  lia
theorem NumOk.step {L : List Nat} {i : Nat} {nums : List (List Nat)} (h : NumOk L i nums) {v : Nat} (hv : L[i]? = some v) (hle : v ≤ nums.length) : NumOk L (i + 1) (sQ nums i v) := by
 unfold sQ;by_cases h1 : v = nums.length
 ·rw [if_pos h1]
  refine ⟨fun j r hr => ?_, fun k w hk hw => ?_, by rw [List.map_append, List.sum_append, h.sum]; simp⟩
  ·by_cases hj : j < nums.length
   ·rw [List.getElem?_append_left hj] at hr
    obtain ⟨a, b, c⟩ := h.row j r hr;refine ⟨a, b, fun k => ?_⟩
    rw [c k];constructor
    ·exact fun z => ⟨by lia, z.2⟩
    ·rintro ⟨z1, z2⟩
     refine ⟨?_, z2⟩;by_cases hki : k = i
     ·subst hki
      rw [hv] at z2;have := Option.some.inj z2
      lia
     ·lia
   ·rw [List.getElem?_append_right (by lia)] at hr
    have hj' : j = nums.length := by
     have := (List.getElem?_eq_some_iff.mp hr).1;simp at this
     lia
    subst hj';have : [i] = r := by simpa using hr
    subst this;refine ⟨by simp, by simp, fun k => ?_⟩
    rw [List.mem_singleton];constructor
    ·rintro rfl
     exact ⟨by lia, by rw [hv, h1]⟩
    ·rintro ⟨z1, z2⟩
     by_cases hki : k = i
     ·exact hki
     ·have := h.lt k _ (by lia) z2
      lia
  ·rw [List.length_append, List.length_singleton]
   by_cases hki : k = i
   ·subst hki
    rw [hv] at hw;have := Option.some.inj hw
    lia
   ·have := h.lt k w (by lia) hw
    lia
 ·rw [if_neg h1]
  have hlt : v < nums.length := by lia
  obtain ⟨r0, hr0⟩ : ∃ r, nums[v]? = some r := ⟨nums[v], by simp [hlt]⟩
  rw [hr0, Option.getD_some];obtain ⟨a, b, c⟩ := h.row v r0 hr0;refine ⟨fun j r hr => ?_, fun k w hk hw => ?_, ?_⟩
  ·by_cases hj : v = j
   ·subst hj
    rw [List.getElem?_set_self hlt] at hr;cases hr;refine ⟨by simp, ?_, fun k => ?_⟩
    ·rw [List.pairwise_append]
     refine ⟨b, by simp, fun x hx y hy => ?_⟩
     have hy' : y = i := by simpa using hy
     rw [hy'];exact ((c x).mp hx).1
    ·rw [List.mem_append, List.mem_singleton, c k]
     constructor
     ·rintro (⟨z1, z2⟩ | rfl)
      ·exact ⟨by lia, z2⟩
      ·exact ⟨by lia, hv⟩
     ·rintro ⟨z1, z2⟩
      by_cases hki : k = i
      ·exact .inr hki
      ·exact .inl ⟨by lia, z2⟩
   ·rw [List.getElem?_set_ne hj] at hr
    obtain ⟨a', b', c'⟩ := h.row j r hr;refine ⟨a', b', fun k => ?_⟩
    rw [c' k];constructor
    ·exact fun z => ⟨by lia, z.2⟩
    ·rintro ⟨z1, z2⟩
     refine ⟨?_, z2⟩;by_cases hki : k = i
     ·subst hki
      rw [hv] at z2;exact absurd (Option.some.inj z2) hj
     ·lia
  ·rw [List.length_set]
   by_cases hki : k = i
   ·subst hki
    rw [hv] at hw;have := Option.some.inj hw
    lia
   ·exact h.lt k w (by lia) hw
  ·rw [sum_set List.length nums v r0 _ hr0 (by simp), h.sum]
theorem vG {ts : List Nd} (he : EL ts) {i : Nat} {nums : List (List Nat)} (h : NumOk (lvs ts) i nums) {n : Nd} (hn : ts[i]? = some n) : cE (lvs (ts.take i)) n ≤ nums.length := by
 unfold cE;split
 ·exact Nat.zero_le _
 ·rename_i h1
  have el := he i n hn;have h0 : 0 < i := by
   rcases Nat.eq_zero_or_pos i with h | h
   ·exact absurd (el.1 h) h1
   ·exact h
  have hi := (List.getElem?_eq_some_iff.mp hn).1;have hk : n.e.toNat < i := by have := el.2.1 h0; have := el.2.2; lia
  obtain ⟨v, hv⟩ : ∃ v, (lvs ts)[n.e.toNat]? = some v := ⟨(lvs ts)[n.e.toNat]'(by rw [bL]; lia), by simp⟩
  have : (lvs (ts.take i))[n.e.toNat]? = some v := by rw [← jM, List.getElem?_take_of_lt hk]; exact hv
  rw [this, Option.getD_some];exact h.lt _ v hk hv
theorem iO {ts : List Nd} (he : EL ts) : ∀ i, i ≤ ts.length → NumOk (lvs ts) i (bt (lvs ts) i)
 | 0, _ => ⟨fun j r h => by simp [bt] at h, fun k v h => by lia, rfl⟩
 | i + 1, hi => by
  have ih := iO he i (by lia)
  obtain ⟨n, hn⟩ : ∃ n, ts[i]? = some n := ⟨ts[i]'(by lia), by simp⟩
  have hv := g9 hn;rw [bt, hv, Option.getD_some];exact ih.step hv (vG he ih hn)
noncomputable def zW (r : List Nat) : OD := .ol ((dc r).map OD.sh)
noncomputable def iJ (nums : List (List Nat)) : List OD := nums.map zW
noncomputable def lC (nums : List (List Nat)) : List PyData := nums.map fun r => .list (dc r)
theorem oh (nums : List (List Nat)) : (iJ nums).map OD.er = lC nums := by
 unfold iJ lC;rw [List.map_map];refine List.map_congr_left fun r _ => ?_
 show (zW r).er = _
 unfold zW;rw [lX, c6]
theorem fC (nums : List (List Nat)) : (iJ nums).length = nums.length := by unfold iJ; rw [List.length_map]
theorem sI (ts : List Nd) (he : EL ts) (hl : ts.length ≤ 100) : eH [.list (aB ts)] = .ok (.ol (iJ (bt (lvs ts) ts.length))) := by
 unfold eH fT;push_cast only [k6 ts he hl, c6];generalize hL : bI _ _ _ _ = r'
 refine cC hL (fun i ρ => ∃ v2 v3 : Option OD, ρ = [some (.sh (.list (aB ts))), some (.ol (iJ (bt (lvs ts) i))), v2, v3]) ⟨_, _, rfl⟩ ?_ ?_
 ·rintro i d ρ hd ⟨v2, v3, rfl⟩
  obtain ⟨e, he', rfl⟩ := me hd;unfold dc at he';rw [List.getElem?_map] at he';obtain ⟨v, hv, rfl⟩ := Option.map_eq_some_iff.mp he';have hi := (List.getElem?_eq_some_iff.mp hv).1;rw [bL] at hi;have ok := iO he i (by lia)
  obtain ⟨n, hn⟩ : ∃ n, ts[i]? = some n := ⟨ts[i]'(by lia), by simp⟩
  have hle := vG he ok hn;rw [g9 hn] at hv;rw [Option.some.inj hv] at hle;have hv' : (lvs ts)[i]? = some v := by rw [g9 hn]; exact hv
  have e0 : bt (lvs ts) (i + 1) = sQ (bt (lvs ts) i) i v := by rw [bt, hv']; rfl
  have hnl : (bt (lvs ts) i).length ≤ i := by
   have hs := ok.sum;have : ∀ nums : List (List Nat), (∀ (j : Nat) (r : List Nat), nums[j]? = some r → r ≠ []) → nums.length ≤ (nums.map List.length).sum := by
    intro nums
    induction nums with
    | nil => intro _; simp
    | cons x xs ih =>
     intro h;have h1 := h 0 x rfl;have h2 := ih fun j r hr => h (j + 1) r (by simpa using hr)
     have : 1 ≤ x.length := by
      cases x with
      | nil => exact absurd rfl h1
      | cons a b => simp
     simp
     lia
   have := this _ fun j r hr => (ok.row j r hr).1
   lia
  by_cases h1 : v = (bt (lvs ts) i).length
  ·have d1 : decide ((v : Int) = ((bt (lvs ts) i).length : Int)) = true := decide_eq_true (by lia)
   have lb : ((bt (lvs ts) i).length < BIG) = True := d_ (by lia)
   push_cast only [oh, fC, d1, lC, lb];have ap := qH (i := 1) (ρ := [some (OD.sh (PyData.list (aB ts))), some (OD.ol (iJ (bt (lvs ts) i) ++ [OD.ol []])), some (OD.sh (PyData.int i)), some (OD.sh (PyData.int v))]) (k := ae 3) (a := ae 2) (xs := iJ (bt (lvs ts) i) ++ [OD.ol []]) (ys := []) (z := v) (j := v) (y := .sh (.int i)) rfl rfl (ij (by rw [List.length_append, fC, List.length_singleton]; lia)) (by rw [List.getElem?_append_right (by rw [fC]; lia), fC, h1, Nat.sub_self]; rfl) rfl (by decide)
   rw [ap];push_cast only [and_self];have e1 : (iJ (bt (lvs ts) i) ++ [OD.ol []]).set v (OD.ol [OD.sh (.int i)]) = iJ (bt (lvs ts) (i + 1)) := by
    rw [e0];unfold sQ;rw [if_pos h1, List.set_append_right _ _ (by rw [fC]; lia), fC, h1, Nat.sub_self]
    unfold iJ;rw [List.map_append];rfl
   rw [e1];exact ⟨_, _, rfl⟩
  ·have d1 : decide ((v : Int) = ((bt (lvs ts) i).length : Int)) = false := decide_eq_false (by lia)
   have hlt : v < (bt (lvs ts) i).length := by lia
   obtain ⟨r0, hr0⟩ : ∃ r, (bt (lvs ts) i)[v]? = some r := ⟨(bt (lvs ts) i)[v], by simp [hlt]⟩
   have hr0l : r0.length ≤ i := by
    have := vi _ _ _ hr0;rw [ok.sum] at this;exact this
   push_cast only [oh, fC, d1, lC];have ap := qH (i := 1) (ρ := [some (OD.sh (PyData.list (aB ts))), some (OD.ol (iJ (bt (lvs ts) i))), some (OD.sh (PyData.int i)), some (OD.sh (PyData.int v))]) (k := ae 3) (a := ae 2) (xs := iJ (bt (lvs ts) i)) (ys := (dc r0).map OD.sh) (z := v) (j := v) (y := .sh (.int i)) rfl rfl (ij (by rw [fC]; lia)) (by unfold iJ; rw [List.getElem?_map, hr0]; rfl) rfl (by rw [List.length_map, jx]; exact of_eq_true (d_ (by lia)))
   rw [ap];push_cast only [and_self];have e1 : (iJ (bt (lvs ts) i)).set v (OD.ol ((dc r0).map OD.sh ++ [OD.sh (.int i)])) = iJ (bt (lvs ts) (i + 1)) := by
    rw [e0];unfold sQ;rw [if_neg h1, hr0, j5];unfold iJ;rw [List.map_set];rfl
   rw [e1];exact ⟨_, _, rfl⟩
 ·rintro ρ' rfl ⟨v2, v3, rfl⟩
  have : (fE (dc (lvs ts))).length = ts.length := by
   unfold fE;rw [List.length_map, List.length_zipIdx, jx, bL]
  rw [this];push_cast only [and_self]
noncomputable def bJ (ts : List Nd) : List Int := ts.map fun n => (n.l.length : Int) / 2
theorem jk (ts : List Nd) (h : ∀ n ∈ ts, n.l.length ≤ 1000) (hl : ts.length ≤ 100) : cG [.list (aB ts)] = .ok (.ol ((bJ ts).map fun z => OD.sh (.int z))) := by
 unfold cG g_;push_cast only [and_self];generalize hL : a7 _ _ _ _ _ _ = r
 have e := b_ hL ndD (fun n : Nd => .sh (.int ((n.l.length : Int) / 2))) ts rfl (of_eq_true (aS (by lia))) (by
  intro n hn;have := aS (h n hn);push_cast only [ndD, this])
 subst e;push_cast only [and_self];unfold bJ;rw [List.map_map];rfl
theorem oT (nums : List (List Nat)) : (lC nums).length = nums.length := by unfold lC; rw [List.length_map]
theorem vj (xs : List PyData) (j : Nat) (h : j < xs.length) : d3 [.list xs, .int j] = .ok (.sh .none) := by
 unfold d3 e_;have d1 : decide ((j : Int) < 0) = false := decide_eq_false (by lia)
 have d2 : decide ((xs.length : Int) ≤ (j : Int)) = false := decide_eq_false (by lia)
 push_cast only [d1, d2]
noncomputable def iL (rs : List Nat) : List Int := rs.map fun k : Nat => (k : Int)
noncomputable def nD (rs : List Nat) : List PyData := (iL rs).map PyData.int
noncomputable def nO (rs : List Nat) : List OD := (nD rs).map OD.sh
theorem gj (rs : List Nat) : (nO rs).map OD.er = nD rs := c6 _
theorem gW (rs : List Nat) : (nD rs).length = rs.length := by unfold nD iL; rw [List.length_map, List.length_map]
theorem yj {rs : List Nat} {i k : Nat} (h : rs[i]? = some k) : (nD rs)[i]? = some (.int (k : Int)) := by
 unfold nD iL;rw [List.getElem?_map, List.getElem?_map, h];rfl
noncomputable def chN (ts : List Nd) (q : Nat) : List Nat := (List.range ts.length).filter (fun j => decide (eOf ts j = (q : Int)))
theorem sX (ts : List Nd) : fE (aB ts) = (List.range ts.length).map fun k : Nat => PyData.tuple [.int (k : Int), ndD (aY ts k)] := by
 apply List.ext_getElem?
 intro i;rw [List.getElem?_map];by_cases hi : i < ts.length
 ·rw [List.getElem?_range hi]
  unfold fE aB;rw [List.getElem?_map, List.getElem?_zipIdx, List.getElem?_map, List.getElem?_eq_getElem hi];unfold aY;simp [List.getElem?_eq_getElem hi]
 ·rw [List.getElem?_eq_none (by unfold fE aB; simp; lia), List.getElem?_eq_none (by rw [List.length_range]; lia)]
  rfl
theorem rK (L : List Nat) : (L.map fun k : Nat => OD.sh (.int (k : Int))) = nO L := by
 unfold nO nD iL;rw [List.map_map, List.map_map];rfl
theorem gL (ts : List Nd) (q : Nat) (hq : q < ts.length) (hl : ts.length ≤ 100) : aM [.list (aB ts), .int q] = .ok (.ol (nO (chN ts q))) := by
 unfold aM eM;have ck := vj (aB ts) q (by rw [dG]; exact hq)
 push_cast only [ck];generalize hC : a7 _ _ _ _ _ _ = rc
 have e := iR hC (fun k : Nat => PyData.tuple [.int (k : Int), ndD (aY ts k)]) (fun k => decide (eOf ts k = (q : Int))) (fun k : Nat => .sh (.int (k : Int))) (List.range ts.length) (sX ts) (by rw [List.length_range]; exact of_eq_true (aS (by lia))) (by
  intro k hk;rw [List.mem_range] at hk;have he := uz hk;refine ⟨?_, fun _ => ?_⟩
  ·push_cast only [ndD, he]
  ·push_cast only [ndD])
 subst e;rw [rK];push_cast only [and_self];rfl
noncomputable def b8 (ns : List Int) : List OD := (ns.map PyData.int).map OD.sh
theorem cq (ns : List Int) : (b8 ns).map OD.er = ns.map PyData.int := c6 _
theorem jz (ns : List Int) : (b8 ns).length = ns.length := by unfold b8; rw [List.length_map, List.length_map]
theorem uB (rs : List Nat) : nD rs = dc rs := by
 unfold nD iL dc;rw [List.map_map];rfl
theorem tE : ∀ {a b : List Nat}, a.Pairwise (· < ·) → b.Pairwise (· < ·) → (∀ k, k ∈ a ↔ k ∈ b) → a = b
 | [], [], _, _, _ => rfl
 | [], y :: ys, _, _, h => absurd ((h y).mpr List.mem_cons_self) (by simp)
 | x :: xs, [], _, _, h => absurd ((h x).mp List.mem_cons_self) (by simp)
 | x :: xs, y :: ys, pa, pb, h => by
  obtain ⟨a1, a2⟩ := List.pairwise_cons.mp pa;obtain ⟨b1, b2⟩ := List.pairwise_cons.mp pb;have e : x = y := by
   have h1 := (h x).mp List.mem_cons_self;have h2 := (h y).mpr List.mem_cons_self;rcases List.mem_cons.mp h1 with z | z
   ·exact z
   ·rcases List.mem_cons.mp h2 with z2 | z2
    ·exact z2.symm
    ·have := b1 x z
     have := a1 y z2
     lia
  subst e;rw [tE a2 b2 fun k => ⟨fun m => ?_, fun m => ?_⟩]
  ·have h1 := (h k).mp (List.mem_cons_of_mem _ m)
   rcases List.mem_cons.mp h1 with z | z
   ·have := a1 k m
    lia
   ·exact z
  ·have h1 := (h k).mpr (List.mem_cons_of_mem _ m)
   rcases List.mem_cons.mp h1 with z | z
   ·have := b1 k m
    lia
   ·exact z
theorem o4 {ts : List Nd} (he : EL ts) : bt (lvs ts) ts.length = (List.range (bt (lvs ts) ts.length).length).map fun j => (List.range ts.length).filter fun k => decide ((((lvs ts)[k]?).getD 0) = j) := by
 have ok := iO he ts.length (Nat.le_refl _);apply List.ext_getElem?
 intro j;rw [List.getElem?_map];by_cases hj : j < (bt (lvs ts) ts.length).length
 ·rw [List.getElem?_range hj, List.getElem?_eq_getElem hj]
  show some _ = some _
  congr 1
  obtain ⟨r1, r2, r3⟩ := ok.row j _ (List.getElem?_eq_getElem hj);refine tE r2 (List.Pairwise.filter _ List.pairwise_lt_range) fun k => ?_
  rw [r3 k, List.mem_filter, List.mem_range, decide_eq_true_eq];constructor
  ·rintro ⟨a, b⟩
   exact ⟨a, by rw [b]; rfl⟩
  ·rintro ⟨a, b⟩
   refine ⟨a, ?_⟩;obtain ⟨v, hv⟩ : ∃ v, (lvs ts)[k]? = some v := ⟨(lvs ts)[k]'(by rw [bL]; exact a), by simp⟩
   rw [hv] at b ⊢;rw [← b];rfl
 ·rw [List.getElem?_eq_none (by lia), List.getElem?_eq_none (by rw [List.length_range]; lia)]
  rfl
theorem jU {ts : List Nd} (he : EL ts) (h0 : 0 < ts.length) : 0 < (bt (lvs ts) ts.length).length ∧ (bt (lvs ts) ts.length).length ≤ ts.length := by
 have ok := iO he ts.length (Nat.le_refl _);constructor
 ·obtain ⟨v, hv⟩ : ∃ v, (lvs ts)[0]? = some v := ⟨(lvs ts)[0]'(by rw [bL]; exact h0), by simp⟩
  have := ok.lt 0 v h0 hv
  lia
 ·have : ∀ nums : List (List Nat), (∀ (j : Nat) (r : List Nat), nums[j]? = some r → r ≠ []) → nums.length ≤ (nums.map List.length).sum := by
   intro nums
   induction nums with
   | nil => intro _; simp
   | cons x xs ih =>
    intro h;have h1 := h 0 x rfl;have h2 := ih fun j r hr => h (j + 1) r (by simpa using hr)
    have : 1 ≤ x.length := by
     cases x with
     | nil => exact absurd rfl h1
     | cons a b => simp
    simp
    lia
  have := this _ fun j r hr => (ok.row j r hr).1
  rw [ok.sum] at this;exact this
theorem xv {ts : List Nd} (he : EL ts) (h0 : 0 < ts.length) : ∃ (a : Nat) (as : List Nat), lvs ts = a :: as ∧ iA (a : Int) (as.map fun k : Nat => (k : Int)) + 1 = ((bt (lvs ts) ts.length).length : Int) := by
 have ok := iO he ts.length (Nat.le_refl _);have nl := (jU he h0).1;cases hL : lvs ts with
 | nil =>
  have := bL ts;rw [hL] at this;simp at this
  lia
 | cons a as =>
  refine ⟨a, as, rfl, ?_⟩;rw [hL] at ok nl;obtain ⟨m1, m2⟩ := f7 (as.map fun k : Nat => (k : Int)) (a : Int)
  have hmap : ((a : Int) :: as.map fun k : Nat => (k : Int)) = (a :: as).map fun k : Nat => (k : Int) := rfl
  rw [hmap] at m1 m2;obtain ⟨v, hv, ev⟩ := List.mem_map.mp m1;obtain ⟨i, hi, ei⟩ := List.getElem_of_mem hv;have il : i < ts.length := by
   have := bL ts;rw [hL] at this
   lia
  have l1 := ok.lt i v il (by rw [List.getElem?_eq_getElem hi, ei])
  obtain ⟨r, hr⟩ : ∃ r, (bt (a :: as) ts.length)[(bt (a :: as) ts.length).length - 1]? = some r := ⟨(bt (a :: as) ts.length)[(bt (a :: as) ts.length).length - 1]'(by lia), by simp⟩
  obtain ⟨r1, r2, r3⟩ := ok.row _ r hr;obtain ⟨k, hk⟩ := List.exists_mem_of_ne_nil r r1;have k2 := ((r3 k).mp hk).2;have := m2 (((bt (a :: as) ts.length).length - 1 : Nat) : Int) (List.mem_map.mpr ⟨_, List.mem_of_getElem? k2, rfl⟩);rw [← ev] at this ⊢
  lia
noncomputable def inB (j : Nat) (n : Nd) : Bool := decide ((j : Int) ≤ n.e)
noncomputable def vk (j : Nat) (n : Nd) : Nd := ⟨n.e - j, n.l, n.t⟩
noncomputable def jq (ts : List Nd) (j : Nat) : List Nd := match ts[j]? with
 | some r => ⟨-1, r.l, r.t⟩ :: ((ts.drop (j + 1)).takeWhile (inB j)).map (vk j)
 | none => []
theorem my {ts : List Nd} {j : Nat} (h : j < ts.length) : 1 ≤ (jq ts j).length ∧ j + (jq ts j).length ≤ ts.length := by
 obtain ⟨r, hr⟩ : ∃ n, ts[j]? = some n := ⟨ts[j]'(by lia), by simp⟩
 unfold jq;rw [hr];have := (List.takeWhile_prefix (inB j) (l := ts.drop (j + 1))).length_le;rw [List.length_drop] at this;simp
 lia
theorem qo {α : Type} (p : α → Bool) : ∀ (L : List α) (s : Nat), s ≤ L.length → (∀ k, k < s → ∀ x, L[k]? = some x → p x = true) → (∀ x, L[s]? = some x → p x = false) → (L.takeWhile p).length = s
 | [], s, h, _, _ => by simp at h; subst h; rfl
 | a :: L, 0, _, _, h => by
  have := h a rfl;rw [List.takeWhile_cons, this];rfl
 | a :: L, s + 1, h, h1, h2 => by
  have := h1 0 (by lia) a rfl
  rw [List.takeWhile_cons, this, if_pos rfl, List.length_cons, qo p L s (by simp at h; lia) (fun k hk x hx => h1 (k + 1) (by lia) x hx) (fun x hx => h2 x hx)]
namespace F
theorem qz {e : Nat → Int} : ∀ (f : F) (a m : Nat) (p : Int), F.pre f = List.range' a m → Eld e p f → p < (a : Int) → ∀ k ∈ F.pre f, e k < (k : Int)
 | nil, a, m, p, hp, _, _, j, h1 => by cases h1
 | cons k c r, a, m, p, hp, he, hpa, j, hj => by
  obtain ⟨e1, e2, e3⟩ := he;obtain ⟨m', rfl⟩ : ∃ m', m = m' + 1 := ⟨m - 1, by
   have := congrArg List.length hp;rw [F.pre, List.length_cons, List.length_range'] at this
   lia⟩
  rw [F.pre, List.range'_succ] at hp;obtain ⟨hk, hrest⟩ := List.cons.inj hp;subst hk;have hl := congrArg List.length hrest;rw [List.length_append, List.length_range'] at hl;have hm : m' = (F.pre c).length + (F.pre r).length := by lia
  rw [hm, ← List.range'_append_1] at hrest;obtain ⟨hc, hr⟩ := List.append_inj hrest (by rw [List.length_range'])
  rw [F.pre] at hj;rcases List.mem_cons.mp hj with rfl | hj
  ·lia
  ·rcases List.mem_append.mp hj with hj | hj
   ·exact qz c (k + 1) _ (k : Int) hc e2 (by lia) j hj
   ·exact qz r (k + 1 + (F.pre c).length) _ p hr e3 (by lia) j hj
end F
theorem x6 {ts : List Nd} {c : F} (p : PT ts c) {k : Nat} (hk : k < ts.length) : eOf ts k < (k : Int) := by
 refine F.qz (F.full c) 0 ts.length (-1) (by rw [p.preF, List.range_eq_range']) p.eldF (by decide) k ?_
 rw [p.preF, List.mem_range];exact hk
theorem cJ {ts : List Nd} {c : F} (p : PT ts c) : EL ts := by
 intro k n hn;have hk := (List.getElem?_eq_some_iff.mp hn).1;have lt := x6 p hk;rw [dn hn] at lt;have rt := p.eldF.1;refine ⟨fun z => ?_, fun z => ?_, lt⟩
 ·subst z
  rw [dn hn] at rt;exact rt
 ·have pc : F.pre (F.full c) = List.range ts.length := p.preF
  have : F.pre c = List.range' 1 (ts.length - 1) := by
   unfold F.full at pc;rw [F.pre, List.range_eq_range', show ts.length = ts.length - 1 + 1 by lia, List.range'_succ] at pc
   have := (List.cons.inj pc).2;rw [F.pre, List.append_nil] at this;exact this
  have ge := F.ql c 0 p.eldF.2.1 (fun k m => by rw [this, List.mem_range'_1] at m; lia) k (by rw [this, List.mem_range'_1]; lia)
  rw [dn hn] at ge;exact ge
noncomputable abbrev Lb (ts : List Nd) : Prop := ∀ n ∈ ts, l9 n.l
theorem qF {ts : List Nd} {k : Nat} (h : k < ts.length) : ts[k]? = some (aY ts k) := by
 unfold aY;rw [List.getElem?_eq_getElem h];rfl
noncomputable def h7 : Fs := (aE (aN 3 (eOp fZ (eC (.int 256)) (eOp cR (ae 2) (eC (.int 1)))))
 (aE (aN 4 (eSh (aZ (iZp (ae 0) (ae 1)) (gTp 2 (bA (gNm 0) (bA (gNm 1) gf))) bH (eOp eU (eOp cR (eOp gIx (ae 0) (eC (.int 1))) (ae 2)) (eOp gIx (ae 1) (eC (.int 0)))) 2 [3])))
 (aE (aN 5 (eB gD (af (ae 4) aq)))
 (d6 (gG (af (ae 5) (af (xg (ae 4) (ae 5)) aq)))))))
noncomputable def dB : Fn := cQ 3 6 h7
noncomputable def da : Fs := (aE (aN 2 (eE (af (eC (.int 0)) aq)))
 (aE (e6 (iR2 (eC (.int 1)) (eB c_ (af (ae 0) aq))) (gNm 3) (aE (aN 4 (eSh (kJ (aZ (iR1 (ae 3)) (gNm 0) bH (eOp cR (eOp gIx (ae 1) (ae 0)) (eOp gIx (aJ dB (af (eOp gIx (ae 2) (ae 0)) (af (eOp gIx (ae 2) (ae 3)) (af (ae 4) aq)))) (eC (.int 0)))) 1 [2, 0, 3, 1]))))
 (gU 2 (eB gD (af (ae 4) aq)))))
 (gC 2)))
noncomputable def bY : Fn := cQ 2 5 da
noncomputable def dC : Fs := (aE (aN 3 (eB c_ (af (ae 0) aq)))
 (aE (aN 4 (eOp fZ (eE (af (ae 2) aq)) (ae 3)))
 (aE (e6 (iR3 (eOp eU (ae 3) (eC (.int 2))) (eUn gz (eC (.int 1))) (eUn gz (eC (.int 1)))) (gNm 5) (aE (aN 6 (eOp gIx (ae 0) (ae 5)))
 (aE (aN 7 (eSh (kJ (aZ (iR2 (eOp cR (ae 5) (eC (.int 1))) (ae 3)) (gNm 0) bH (eOp eU (eOp gIx (ae 1) (ae 0)) (eOp gIx (aJ dB (af (ae 2) (af (eOp gIx (ae 3) (ae 0)) (af (ae 4) aq)))) (eC (.int 0)))) 1 [4, 6, 0, 1]))))
 (mQ 4 (ae 5) (eB jV (af (ae 7) aq))))))
 (gC 4))))
noncomputable def cO : Fn := cQ 3 8 dC
noncomputable def ik : Fs := (aE (aN 2 (eSh (aJ bY (af (ae 0) (af (ae 1) aq)))))
 (d6 (gG (af (ae 2) (af (eSh (aJ cO (af (ae 0) (af (ae 1) (af (eOp gIx (ae 2) (eUn gz (eC (.int 1)))) aq))))) aq)))))
noncomputable def gr : Fn := cQ 2 3 ik
noncomputable def dR (os : List (Int × Int)) : List PyData := os.map fun p => .tuple [.int p.1, .int p.2]
noncomputable def ask (gap : Int) (os ps : List (Int × Int)) : List Int := (os.zip ps).map fun z => z.1.2 + 256 * (gap + 1) - z.2.1
theorem ox : ∀ (os ps : List (Int × Int)), ku (dR os) (dR ps) = (os.zip ps).map fun z => .tuple [.tuple [.int z.1.1, .int z.1.2], .tuple [.int z.2.1, .int z.2.2]]
 | [], _ => rfl
 | _ :: _, [] => rfl
 | p :: os, q :: ps => by
  have := ox os ps;unfold dR ku at this ⊢;simp only [List.map_cons, List.zip_cons_cons];rw [this]
theorem qB (os ps : List (Int × Int)) (gap : Int) (ho : 1 ≤ os.length) (hp : 1 ≤ ps.length) (hb : os.length ≤ 100) : ∃ (m : Int) (l : Nat), dB [.list (dR os), .list (dR ps), .int gap] = .ok (.sh (.tuple [.int m, .int l])) ∧
  (∀ z ∈ ask gap os ps, z ≤ m) ∧ (ask gap os ps)[l]? = some m ∧ ∀ j, j < l → (ask gap os ps)[j]? ≠ some m := by
 unfold dB h7;push_cast only [and_self];generalize hL : a7 _ _ _ _ _ _ = r
 have e := b_ hL (fun z : (Int × Int) × (Int × Int) => .tuple [.tuple [.int z.1.1, .int z.1.2], .tuple [.int z.2.1, .int z.2.2]]) (fun z => .sh (.int (z.1.2 + 256 * (gap + 1) - z.2.1))) (os.zip ps) (ox os ps) (by rw [List.length_zip]; exact of_eq_true (aS (by lia))) (by
  intro z _;push_cast only [and_self])
 subst e;have e2 : ((os.zip ps).map fun z : (Int × Int) × (Int × Int) => OD.sh (.int (z.1.2 + 256 * (gap + 1) - z.2.1))).map OD.er = (ask gap os ps).map PyData.int := by
  unfold ask;rw [List.map_map, List.map_map];exact List.map_congr_left fun z _ => bN _
 obtain ⟨a, as, ha⟩ : ∃ a as, ask gap os ps = a :: as := by
  cases h : ask gap os ps with
  | nil =>
   have := congrArg List.length h;unfold ask at this;rw [List.length_map, List.length_zip, List.length_nil] at this
   lia
  | cons a as => exact ⟨a, as, rfl⟩
 obtain ⟨m1, m2⟩ := f7 as a;have hi : nP (PyData.int a :: as.map PyData.int) (.int (iA a as)) = .ok (.sh (.int ((a :: as).idxOf (iA a as) : Nat))) := Ey (a :: as) _ m1;refine ⟨iA a as, (a :: as).idxOf (iA a as), ?_, ?_, ?_, ?_⟩
 ·push_cast only [e2, ha, qw, hi]
 ·rw [ha]; exact m2
 ·rw [ha]
  have hj := List.idxOf_lt_length_iff.mpr m1;rw [List.getElem?_eq_getElem hj, List.getElem_idxOf hj]
 ·rw [ha]
  intro j hj e;obtain ⟨h1, h2⟩ := List.getElem?_eq_some_iff.mp e;have := List.not_of_lt_findIdx (p := (· == iA a as)) hj;rw [h2] at this;simp at this
theorem uO {os : List (Int × Int)} {k : Nat} {p : Int × Int} (h : os[k]? = some p) : atI (dR os) (k : Int) = some (.tuple [.int p.1, .int p.2]) := eJ (by unfold dR; rw [List.getElem?_map, h]; rfl)
theorem w9 {gap : Int} {os ps : List (Int × Int)} {k : Nat} {p q : Int × Int} (h1 : os[k]? = some p) (h2 : ps[k]? = some q) : (ask gap os ps)[k]? = some (p.2 + 256 * (gap + 1) - q.1) := by
 unfold ask;rw [List.getElem?_map, List.getElem?_zip_eq_some (z := (p, q)) |>.mpr ⟨h1, h2⟩]
 rfl
noncomputable abbrev Ol := List (Int × Int)
noncomputable def bU (O : List Ol) : List PyData := O.map fun os => .list (dR os)
theorem iZ (O : List Ol) : (bU O).length = O.length := by unfold bU; rw [List.length_map]
theorem iH {O : List Ol} {k : Nat} {os : Ol} (h : O[k]? = some os) : atI (bU O) (k : Int) = some (.list (dR os)) := eJ (by unfold bU; rw [List.getElem?_map, h]; rfl)
noncomputable def okO (O : List Ol) : Prop := (∀ os ∈ O, 1 ≤ os.length ∧ os.length ≤ 100) ∧ 1 ≤ O.length ∧ O.length ≤ 100
noncomputable def dist (gap : Int) (os ps : Ol) : Int := match ask gap os ps with
 | a :: as => iA a as
 | [] => 0
theorem vo {gap : Int} {os ps : Ol} (h1 : 1 ≤ os.length) (h2 : 1 ≤ ps.length) : ∃ a as, ask gap os ps = a :: as := by
 cases h : ask gap os ps with
 | nil =>
  have := congrArg List.length h;unfold ask at this;rw [List.length_map, List.length_zip, List.length_nil] at this
  lia
 | cons a as => exact ⟨a, as, rfl⟩
theorem lY (os ps : Ol) (gap : Int) (ho : 1 ≤ os.length) (hp : 1 ≤ ps.length) (hb : os.length ≤ 100) : ∃ l : Nat, dB [.list (dR os), .list (dR ps), .int gap] = .ok (.sh (.tuple [.int (dist gap os ps), .int l])) := by
 obtain ⟨m, l, e, h1, h2, _⟩ := qB os ps gap ho hp hb;obtain ⟨a, as, ha⟩ := vo (gap := gap) ho hp;have : dist gap os ps = m := by
  unfold dist;rw [ha] at h1 h2 ⊢;obtain ⟨k1, k2⟩ := f7 as a;exact Int.le_antisymm (h1 _ k1) (k2 _ (List.mem_of_getElem? h2))
 rw [this];exact ⟨l, e⟩
noncomputable def i6 : List Int → Int
 | [] => 0
 | a :: as => iA a as
theorem jA {xs : List Int} (h : xs ≠ []) : gD [.list (xs.map PyData.int)] = .ok (.sh (.int (i6 xs))) := by
 cases xs with
 | nil => exact absurd rfl h
 | cons a as => exact qw a as
theorem rH (gap : Int) (os ps : Ol) : dist gap os ps = i6 (ask gap os ps) := by
 unfold dist i6;cases ask gap os ps <;> rfl
noncomputable def pV (gap : Int) (O : List Ol) (E : List Int) (k : Nat) : List Int := (List.range k).map fun j => E[j]?.getD 0 + dist gap (O[j]?.getD []) (O[k]?.getD [])
noncomputable def fH (gap : Int) (O : List Ol) : Nat → List Int
 | 0 => [0]
 | k + 1 => fH gap O k ++ [i6 (pV gap O (fH gap O k) (k + 1))]
theorem gh (gap : Int) (O : List Ol) : ∀ k, (fH gap O k).length = k + 1
 | 0 => rfl
 | k + 1 => by rw [fH, List.length_append, gh gap O k]; rfl
theorem mf (ns : List Int) (z : Int) : b8 ns ++ [OD.sh (.int z)] = b8 (ns ++ [z]) := by unfold b8; rw [List.map_append, List.map_append]; rfl
theorem int_at {ns : List Int} {k : Nat} {z : Int} (h : ns[k]? = some z) : atI (ns.map PyData.int) (k : Int) = some (.int z) := eJ (by rw [List.getElem?_map, h]; rfl)
theorem sr (ns : List Int) : (b8 ns).all (fun y => flat y.er) = true := by
 unfold b8;rw [List.all_eq_true];intro x hx;obtain ⟨d, hd, rfl⟩ := List.mem_map.mp hx;obtain ⟨n, _, rfl⟩ := List.mem_map.mp hd;rw [bN];rfl
theorem mz (ns : List Int) : q_ (.ol (b8 ns)) = .ok (.ol (b8 ns)) := by
 show (if (b8 ns).all (fun y => flat y.er) = true then R.ok (OD.ol ((b8 ns).map fun y => .sh y.er)) else .bad) = _
 rw [sr, if_pos rfl];congr 2
 unfold b8;rw [List.map_map];exact List.map_congr_left fun x _ => by show OD.sh (OD.sh x).er = _; rw [bN]
theorem t4 {gap : Int} {O : List Ol} {E : List Int} {k j : Nat} {z : Int} {os ps : Ol} (hj : E[j]? = some z) (h1 : O[j]? = some os) (h2 : O[k]? = some ps) : E[j]?.getD 0 + dist gap (O[j]?.getD []) (O[k]?.getD []) = z + dist gap os ps := by rw [hj, h1, h2]; rfl
theorem q8 {gap : Int} {O : List Ol} {E : List Int} {k : Nat} (h : 0 < k) : pV gap O E k ≠ [] := by
 intro z;have := congrArg List.length z;unfold pV at this;simp at this
 lia
theorem qh {α : Type} (L : List α) (f : α → Int) : (L.map fun x => OD.sh (.int (f x))) = b8 (L.map f) := by
 unfold b8;rw [List.map_map, List.map_map];rfl
theorem oX (O : List Ol) (gap : Int) (hO : okO O) : bY [.list (bU O), .int gap] = .ok (.ol (b8 (fH gap O (O.length - 1)))) := by
 unfold bY da;obtain ⟨ho, hl0, hl1⟩ := hO;have s1 : ay 1 = true := eT (by decide) (by decide)
 have s2 : ay (O.length : Int) = true := eT (by lia) (by lia)
 push_cast only [iZ, s1, s2, Bool.and_self];generalize hL : bI _ _ _ _ = r'
 refine cC hL (fun i ρ => ∃ v3 v4 : Option OD, ρ = [some (.sh (.list (bU O))), some (.sh (.int gap)), some (.ol (b8 (fH gap O i))), v3, v4]) ⟨_, _, rfl⟩ ?_ ?_
 ·rintro i d ρ hd ⟨v3, v4, rfl⟩
  obtain ⟨hi, rfl⟩ := eQ hd;have ei : (1 : Int) + (i : Int) = ((i + 1 : Nat) : Int) := by lia
  rw [ei];have s3 : ay ((i + 1 : Nat) : Int) = true := eT (by lia) (by lia)
  push_cast only [cq, s3];generalize hC : a7 _ _ _ _ _ _ = rc
  have e := b_ hC (fun k : Nat => PyData.int (0 + (k : Int))) (fun j => .sh (.int ((fH gap O i)[j]?.getD 0 + dist gap (O[j]?.getD []) (O[i + 1]?.getD [])))) (List.range (i + 1)) (by rw [Int.toNat_natCast]; rfl) (by rw [List.length_range]; exact of_eq_true (aS (by lia))) (by
   intro k hk;rw [List.mem_range] at hk;obtain ⟨z, hz⟩ : ∃ z, (fH gap O i)[k]? = some z := ⟨(fH gap O i)[k]'(by rw [gh]; exact hk), by simp⟩
   obtain ⟨os, h1⟩ : ∃ p, O[k]? = some p := ⟨O[k]'(by lia), by simp⟩
   obtain ⟨ps, h2⟩ : ∃ p, O[i + 1]? = some p := ⟨O[i + 1]'(by lia), by simp⟩
   obtain ⟨l, hn⟩ := lY os ps gap (ho os (List.mem_of_getElem? h1)).1 (ho ps (List.mem_of_getElem? h2)).1 (by have := (ho os (List.mem_of_getElem? h1)).2; lia)
   have g1 := int_at hz;have g2 := iH h1;have g3 := iH h2;rw [Int.zero_add, t4 hz h1 h2];push_cast only [g1, g2, g3, hn])
  subst e;rw [qh];have hg := jA (q8 (gap := gap) (O := O) (E := fH gap O i) (k := i + 1) (by lia))
  have ea : (List.range (i + 1)).map (fun j => (fH gap O i)[j]?.getD 0 + dist gap (O[j]?.getD []) (O[i + 1]?.getD [])) = pV gap O (fH gap O i) (i + 1) := rfl
  rw [ea];have lb : ((b8 (fH gap O i)).length < BIG) = True := by rw [jz, gh]; exact d_ (by lia)
  push_cast only [mz, cq, hg, lb, mf];exact ⟨_, _, rfl⟩
 ·rintro ρ' rfl ⟨v3, v4, rfl⟩
  rw [eI];push_cast only [and_self];rw [show ((O.length : Int) - 1).toNat = O.length - 1 by lia]
theorem pM (ns : List Int) (j : Nat) (z : Int) : (b8 ns).set j (.sh (.int z)) = b8 (ns.set j z) := by
 unfold b8;rw [List.map_map, List.map_map, List.map_set];rfl
noncomputable def gv (ls : List Int) (k : Nat) : Int := ls[k]?.getD 0
noncomputable def dO (gap : Int) (O : List Ol) (i j : Nat) : Int := dist gap (O[i]?.getD []) (O[j]?.getD [])
theorem f_ {xs : List Int} (h : xs ≠ []) : i6 xs ∈ xs ∧ ∀ z ∈ xs, z ≤ i6 xs := by
 cases xs with
 | nil => exact absurd rfl h
 | cons a as => exact f7 as a
theorem vQ {xs : List Int} (h : xs ≠ []) : ∃ m, jV [.list (xs.map PyData.int)] = .ok (.sh (.int m)) ∧ m ∈ xs ∧ ∀ z ∈ xs, m ≤ z := by
 cases xs with
 | nil => exact absurd rfl h
 | cons a as => exact ⟨_, vn a as, iU as a⟩
theorem oN (gap : Int) (O : List Ol) (m : Nat) : ∀ c j, j ≤ m → (fH gap O (m + c))[j]? = (fH gap O m)[j]?
 | 0, _, _ => rfl
 | c + 1, j, h => by
  rw [← oN gap O m c j h, ← Nat.add_assoc];show (fH gap O (m + c) ++ _)[j]? = _
  rw [List.getElem?_append_left (by rw [gh]; lia)]
theorem uS (gap : Int) (O : List Ol) (n : Nat) (hn : 0 < n) : IsE n (dO gap O) (gv (fH gap O (n - 1))) := by
 have pre : ∀ m j, j ≤ m → m < n → gv (fH gap O (n - 1)) j = gv (fH gap O m) j := fun m j h h2 => by
  unfold gv;have := oN gap O m (n - 1 - m) j h;rw [show m + (n - 1 - m) = n - 1 by lia] at this
  rw [this]
 refine ⟨?_, fun k h0 hk => ?_⟩
 ·rw [pre 0 0 (Nat.le_refl _) hn]
  rfl
 ·obtain ⟨m, rfl⟩ : ∃ m, k = m + 1 := ⟨k - 1, by lia⟩
  have ev : gv (fH gap O (n - 1)) (m + 1) = i6 (pV gap O (fH gap O m) (m + 1)) := by
   rw [pre (m + 1) (m + 1) (Nat.le_refl _) hk];unfold gv;show (fH gap O m ++ _)[m + 1]?.getD 0 = _
   rw [List.getElem?_append_right (by rw [gh]; lia), gh, Nat.sub_self]
   rfl
  obtain ⟨s1, s2⟩ := f_ (q8 (gap := gap) (O := O) (E := fH gap O m) (k := m + 1) (by lia))
  rw [ev];refine ⟨fun j hj => ?_, ?_⟩
  ·refine s2 _ ?_
   unfold pV;rw [List.mem_map];exact ⟨j, List.mem_range.mpr hj, by rw [pre m j (by lia) (by lia)]; rfl⟩
  ·unfold pV at s1
   rw [List.mem_map] at s1;obtain ⟨j, hj, e⟩ := s1;rw [List.mem_range] at hj;refine ⟨j, hj, ?_⟩;rw [pre m j (by lia) (by lia)]
   exact e.symm
noncomputable def LI (n : Nat) (d : Nat → Nat → Int) (last : Int) (m : Nat) (ls : List Int) : Prop := ls.length = n ∧ gv ls (n - 1) = last ∧ ∀ k, m ≤ k → k + 1 < n → (∀ j, k < j → j < n → gv ls k ≤ gv ls j - d k j) ∧ ∃ j, k < j ∧ j < n ∧ gv ls k = gv ls j - d k j
theorem yI {ls : List Int} {m : Nat} {v : Int} (h : m < ls.length) (k : Nat) : gv (ls.set m v) k = if k = m then v else gv ls k := by
 unfold gv;by_cases hk : k = m
 ·subst hk
  rw [if_pos rfl, List.getElem?_set_self h];rfl
 ·rw [if_neg hk, List.getElem?_set_ne (fun z => hk z.symm)]
theorem wQ {n : Nat} {d : Nat → Nat → Int} {last : Int} {m : Nat} {ls : List Int} {v : Int} (h : LI n d last (m + 1) ls) (hm : m + 1 < n) (h1 : v ∈ (List.range (n - (m + 1))).map fun k => gv ls (m + 1 + k) - d m (m + 1 + k)) (h2 : ∀ z ∈ (List.range (n - (m + 1))).map fun k => gv ls (m + 1 + k) - d m (m + 1 + k), v ≤ z) : LI n d last m (ls.set m v) := by
 obtain ⟨a, b, c⟩ := h;have sv := yI (v := v) (show m < ls.length by lia)
 refine ⟨by rw [List.length_set]; exact a, ?_, fun k hk hk2 => ?_⟩
 ·rw [sv, if_neg (by lia)]
  exact b
 ·by_cases e : k = m
  ·subst e
   refine ⟨fun j j1 j2 => ?_, ?_⟩
   ·rw [sv, sv, if_pos rfl, if_neg (by lia)]
    refine h2 _ ?_;rw [List.mem_map];exact ⟨j - (k + 1), List.mem_range.mpr (by lia), by rw [show k + 1 + (j - (k + 1)) = j by lia]⟩
   ·rw [List.mem_map] at h1
    obtain ⟨q, hq, e⟩ := h1;rw [List.mem_range] at hq;refine ⟨k + 1 + q, by lia, by lia, ?_⟩
    rw [sv, sv, if_pos rfl, if_neg (by lia)]
    exact e.symm
  ·obtain ⟨c1, j, c2, c3, c4⟩ := c k (by lia) hk2
   refine ⟨fun j j1 j2 => ?_, j, c2, c3, ?_⟩
   ·rw [sv, sv, if_neg e, if_neg (by lia)]
    exact c1 j j1 j2
   ·rw [sv, sv, if_neg e, if_neg (by lia)]
    exact c4
theorem sT (O : List Ol) (gap last : Int) (hO : okO O) : ∃ ls : List Int, LI O.length (dO gap O) last 0 ls ∧ cO [.list (bU O), .int gap, .int last] = .ok (.ol (b8 ls)) := by
 unfold cO dC;obtain ⟨ho, hl0, hl1⟩ := hO;have rp : fZ (.list [.int last]) (.int (O.length : Int)) = .ok (.ol (b8 (List.replicate O.length last))) := by
  rw [m9 _ _ (by lia)]
  unfold b8;simp only [List.map_replicate]
 have r3 := fun (ρ : L3.Env) (h1 : (eOp eU (ae 3) (eC (.int 2))) ρ = .ok (.sh (.int ((O.length : Int) - 2)))) => Ee (fa := eOp eU (ae 3) (eC (.int 2))) (fb := eUn gz (eC (.int 1))) (fc := eUn gz (eC (.int 1))) (ρ := ρ) (x := (O.length : Int) - 2) (y := -1) (z := -1) h1 rfl rfl rfl (eT (by lia) (by lia)) (eT (by decide) (by decide))
 push_cast only [iZ, rp];rw [r3 _ rfl];push_cast only [and_self];generalize hL : bI _ _ _ _ = r'
 have st : LI O.length (dO gap O) last (O.length - 1 - 0) (List.replicate O.length last) := by
  refine ⟨by simp, ?_, fun k h1 h2 => by lia⟩
  unfold gv;rw [List.getElem?_replicate, if_pos (by lia)]
  rfl
 refine cC hL (fun i ρ => ∃ (ls : List Int) (v5 v6 v7 : Option OD), LI O.length (dO gap O) last (O.length - 1 - i) ls ∧ ρ = [some (.sh (.list (bU O))), some (.sh (.int gap)), some (.sh (.int last)), some (.sh (.int O.length)), some (.ol (b8 ls)), v5, v6, v7]) ⟨List.replicate O.length last, _, _, _, st, rfl⟩ ?_ ?_
 ·rintro i d ρ hd ⟨ls, v5, v6, v7, hli, rfl⟩
  have hls := hli.1;obtain ⟨hi, rfl⟩ := pO hd;obtain ⟨m, hm⟩ : ∃ m : Nat, (O.length : Int) - 2 - (i : Int) = (m : Int) := ⟨((O.length : Int) - 2 - (i : Int)).toNat, by lia⟩
  have hm2 : m + 1 < O.length := by lia
  rw [hm];obtain ⟨os, h1⟩ : ∃ p, O[m]? = some p := ⟨O[m]'(by lia), by simp⟩
  have g1 := iH h1;have em : (m : Int) + 1 = ((m + 1 : Nat) : Int) := by lia
  have s3 : ay ((m + 1 : Nat) : Int) = true := eT (by lia) (by lia)
  have s4 : ay (O.length : Int) = true := eT (by lia) (by lia)
  push_cast only [g1, em, s3, s4, Bool.and_self, cq];generalize hC : a7 _ _ _ _ _ _ = rc
  have hcnt : ((O.length : Int) - ((m + 1 : Nat) : Int)).toNat = O.length - (m + 1) := by lia
  have e := b_ hC (fun k : Nat => PyData.int (((m + 1 : Nat) : Int) + (k : Int))) (fun k => .sh (.int (gv ls (m + 1 + k) - dO gap O m (m + 1 + k)))) (List.range (O.length - (m + 1))) (by rw [hcnt]; rfl) (by rw [List.length_range]; exact of_eq_true (aS (by lia))) (by
   intro k hk;rw [List.mem_range] at hk;have ek : ((m + 1 : Nat) : Int) + (k : Int) = ((m + 1 + k : Nat) : Int) := by lia
   rw [ek];obtain ⟨z, hz⟩ : ∃ z, ls[m + 1 + k]? = some z := ⟨ls[m + 1 + k]'(by lia), by simp⟩
   obtain ⟨ps, h2⟩ : ∃ p, O[m + 1 + k]? = some p := ⟨O[m + 1 + k]'(by lia), by simp⟩
   obtain ⟨l, hn⟩ := lY os ps gap (ho os (List.mem_of_getElem? h1)).1 (ho ps (List.mem_of_getElem? h2)).1 (by have := (ho os (List.mem_of_getElem? h1)).2; lia)
   have g1 := int_at hz;have g3 := iH h2;have q1 : gv ls (m + 1 + k) = z := by unfold gv; rw [hz]; rfl
   have q2 : dO gap O m (m + 1 + k) = dist gap os ps := by unfold dO; rw [h1, h2]; rfl
   rw [q1, q2];push_cast only [g1, g3, hn])
  subst e;rw [qh];obtain ⟨mn, hmn, hmem, hle⟩ := vQ (xs := (List.range (O.length - (m + 1))).map fun k => gv ls (m + 1 + k) - dO gap O m (m + 1 + k)) (by
   intro z;have := congrArg List.length z;simp at this
   lia)
  have ix : ixN (b8 ls).length (m : Int) = some m := ij (by rw [jz]; lia)
  have nx := wQ (by rw [show m + 1 = O.length - 1 - i by lia]; exact hli) hm2 hmem hle
  rw [show m = O.length - 1 - (i + 1) by lia] at nx
  push_cast only [mz, cq, hmn, uq ix, pM];rw [show m = O.length - 1 - (i + 1) by lia]
  exact ⟨_, _, _, _, nx, rfl⟩
 ·rintro ρ' rfl ⟨ls, v5, v6, v7, hli, rfl⟩
  push_cast only [and_self];refine ⟨ls, ?_, rfl⟩;have : O.length - 1 - (kP ((O.length : Int) - 2) ((O.length : Int) - 2 - -1).toNat).length = 0 := by
   unfold kP;rw [List.length_map, List.length_range]
   lia
  rw [this] at hli;exact hli
theorem mD {ls : List Int} {k : Nat} (h : k < ls.length) : ls[k]? = some (gv ls k) := by
 unfold gv;rw [List.getElem?_eq_getElem h];rfl
theorem nF {ls : List Int} {n : Nat} (h : ls.length = n) (hn : 0 < n) : atI (ls.map PyData.int) (-1) = some (.int (gv ls (n - 1))) := by
 have hne : ls ≠ [] := fun z => by rw [z] at h; simp at h; lia
 have e : gv ls (n - 1) = ls.getLast hne := by
  have h1 := mD (ls := ls) (k := n - 1) (by lia)
  rw [List.getLast_eq_getElem];rw [List.getElem?_eq_getElem (by lia)] at h1
  have h2 := Option.some.inj h1;rw [← h2];congr 1
  lia
 rw [e]
 conv => lhs; rw [← List.dropLast_concat_getLast hne, List.map_append]
 exact oU _ _
theorem wM (O : List Ol) (gap : Int) (hO : okO O) : ∃ es ls : List Int, es.length = O.length ∧ ls.length = O.length ∧ IsE O.length (dO gap O) (gv es) ∧ IsL O.length (dO gap O) (gv es (O.length - 1)) (gv ls) ∧ gr [.list (bU O), .int gap] = .ok (.sh (.tuple [.list (es.map PyData.int), .list (ls.map PyData.int)])) := by
 have h1 := hO.2.1;have le : (fH gap O (O.length - 1)).length = O.length := by rw [gh]; lia
 have hz := nF le (by lia)
 obtain ⟨ls, hl, e⟩ := sT O gap (gv (fH gap O (O.length - 1)) (O.length - 1)) hO;refine ⟨_, ls, le, hl.1, uS gap O O.length (by lia), ⟨hl.2.1, fun k hk => hl.2.2 k (Nat.zero_le _) hk⟩, ?_⟩
 unfold gr ik;push_cast only [oX O gap hO, cq, hz, e]
noncomputable def dt : Fs := (aE (aN 2 (eE aq))
 (aE (e6 (iR1 (eB gD (af (aZ (c9 (ae 0)) (gNm 0) bH (eB c_ (af (ae 0) aq)) 1 []) aq))) (gNm 3) (aE (aN 4 (eSh (aZ (iEn (ae 0)) (gTp 2 (bA (gNm 0) (bA (gNm 1) gf))) (aT (eOp gLt (ae 2) (eB c_ (af (ae 1) aq)))) (ae 0) 2 [3])))
 (aE (aN 5 (eB jV (af (aZ (c9 (ae 4)) (gNm 0) bH (eOp cR (eOp gIx (ae 1) (ae 0)) (eOp gIx (eOp gIx (eOp gIx (ae 2) (ae 0)) (ae 3)) (eC (.int 0)))) 1 [1, 0, 3]) aq)))
 (aE (aN 6 (eB gD (af (aZ (c9 (ae 4)) (gNm 0) bH (eOp cR (eOp gIx (ae 1) (ae 0)) (eOp gIx (eOp gIx (eOp gIx (ae 2) (ae 0)) (ae 3)) (eC (.int 1)))) 1 [1, 0, 3]) aq)))
 (gU 2 (gG (af (ae 5) (af (ae 6) aq))))))))
 (gC 2)))
noncomputable def bz : Fn := cQ 2 7 dt
noncomputable def d8 : Fs := (aE (aN 2 (eSh (aJ gr (af (ae 0) (af (ae 1) aq)))))
 (aE (aN 3 (eOp fM (eOp gIx (eOp gIx (ae 2) (eC (.int 0))) (eUn gz (eC (.int 1)))) (eC (.int 2))))
 (d6 (aZ (iZp (eOp gIx (ae 2) (eC (.int 0))) (eOp gIx (ae 2) (eC (.int 1)))) (gTp 2 (bA (gNm 0) (bA (gNm 1) gf))) bH (eOp eU (eOp fM (eOp cR (ae 0) (ae 1)) (eC (.int 2))) (ae 2)) 2 [3]))))
noncomputable def aW : Fn := cQ 2 4 d8
noncomputable def iY : Fs := (aE (aN 2 (eOp fZ (eE (af (eC (.int 0)) aq)) (eB c_ (af (ae 0) aq))))
 (aE (aN 3 (aZ (c9 (aJ cG (af (ae 0) aq))) (gNm 0) bH (eE (af (eSh (gG (af (eOp fZ (eUn gz (eC (.int 256))) (ae 0)) (af (eOp fZ (eC (.int 256)) (ae 0)) aq)))) aq)) 1 []))
 (aE (e6 (iR3 (eOp eU (eB c_ (af (ae 0) aq)) (eC (.int 1))) (eUn gz (eC (.int 1))) (eUn gz (eC (.int 1)))) (gNm 4) (aE (aN 5 (eSh (aJ aM (af (ae 0) (af (ae 4) aq)))))
 (sIf (aT (eOp gGt (eB c_ (af (ae 5) aq)) (eC (.int 0)))) (aE (kY 3 5 (aN 6 (eSh (pW 3 5))))
 (aE (aN 7 (eSh (aJ aW (af (ae 6) (af (ae 1) aq)))))
 (aE (e6 (iZp (ae 5) (ae 7)) (gTp 2 (bA (gNm 8) (bA (gNm 9) gf))) (mQ 2 (ae 8) (ae 9)))
 (je 3 (ae 4) (aJ bz (af (ae 6) (af (ae 7) aq))))))) sNx)))
 (lx 3 (lx 2 (d6 (gG (af (ae 2) (af (ae 3) aq)))))))))
noncomputable def g5 : Fn := cQ 2 10 iY
noncomputable def dF : Fs := (aE (aN 3 (eB jV (af (aZ (iZp (ae 1) (aJ cG (af (ae 0) aq))) (gTp 2 (bA (gNm 0) (bA (gNm 1) gf))) bH (eOp eU (ae 0) (eOp fZ (ae 2) (ae 1))) 2 [2]) aq)))
 (d6 (aZ (c9 (ae 1)) (gNm 0) bH (eOp eU (ae 0) (ae 1)) 1 [3])))
noncomputable def cK : Fn := cQ 3 4 dF
noncomputable def jE : Fs := (aE (aN 2 (eOp gIx (aJ g5 (af (ae 0) (af (ae 1) aq))) (eC (.int 0))))
 (aE (aN 3 (eE (af (eC (.int 0)) aq)))
 (aE (e6 (iR2 (eC (.int 1)) (eB c_ (af (ae 0) aq))) (gNm 4) (gU 3 (si (eOp cR (eOp gIx (ae 3) (eOp gIx (eOp gIx (ae 0) (ae 4)) (eC (.int 0)))) (eOp gIx (ae 2) (ae 4))))))
 (lx 3 (d6 (aJ cK (af (ae 0) (af (ae 3) (af (eC (.int 256)) aq)))))))))
noncomputable def eN : Fn := cQ 2 5 jE
noncomputable def oW : List Int → Int
 | [] => 0
 | a :: as => nB a as
theorem o_ {xs : List Int} (h : xs ≠ []) : jV [.list (xs.map PyData.int)] = .ok (.sh (.int (oW xs))) := by
 cases xs with
 | nil => exact absurd rfl h
 | cons a as => exact vn a as
theorem l6 {xs : List Int} (h : xs ≠ []) : oW xs ∈ xs ∧ ∀ z ∈ xs, oW xs ≤ z := by
 cases xs with
 | nil => exact absurd rfl h
 | cons a as => exact iU as a
noncomputable def oA (O : List Ol) (j l : Nat) : Int × Int := ((O[j]?.getD [])[l]?).getD (0, 0)
noncomputable def i5 (O : List Ol) (j : Nat) : Nat := (O[j]?.getD []).length
noncomputable def there (O : List Ol) (l : Nat) : List Nat := (List.range O.length).filter fun j => decide (l < i5 O j)
noncomputable def jl (O : List Ol) (st : List Int) (l : Nat) : Int × Int := (oW ((there O l).map fun j => gv st j + (oA O j l).1), i6 ((there O l).map fun j => gv st j + (oA O j l).2))
noncomputable def mxN (O : List Ol) : Nat := (i6 (O.map fun o => (o.length : Int))).toNat
noncomputable def jo (O : List Ol) (st : List Int) : Ol := (List.range (mxN O)).map (jl O st)
theorem iN (os : Ol) : (dR os).length = os.length := by unfold dR; rw [List.length_map]
theorem mP {O : List Ol} (h : O ≠ []) : i6 (O.map fun o => (o.length : Int)) = (mxN O : Int) ∧ (∃ j, j < O.length ∧ i5 O j = mxN O) ∧ ∀ j, j < O.length → i5 O j ≤ mxN O := by
 obtain ⟨s1, s2⟩ := f_ (xs := O.map fun o => (o.length : Int)) (fun z => h (List.map_eq_nil_iff.mp z))
 obtain ⟨o, ho, eo⟩ := List.mem_map.mp s1;have e : i6 (O.map fun o => (o.length : Int)) = (mxN O : Int) := by
  unfold mxN;rw [← eo];rfl
 refine ⟨e, ?_, fun j hj => ?_⟩
 ·obtain ⟨j, hj, ej⟩ := List.getElem_of_mem ho
  refine ⟨j, hj, ?_⟩;unfold i5;rw [List.getElem?_eq_getElem hj, ej];show o.length = _
  have : (o.length : Int) = (mxN O : Int) := by rw [← e]; exact eo
  lia
 ·have := s2 (i5 O j : Int) (List.mem_map.mpr ⟨O[j], List.getElem_mem hj, by unfold i5; rw [List.getElem?_eq_getElem hj]; rfl⟩)
  rw [e] at this
  lia
theorem jF {O : List Ol} {l : Nat} (h : O ≠ []) (hl : l < mxN O) : there O l ≠ [] := by
 obtain ⟨_, ⟨j, hj, ej⟩, _⟩ := mP h;intro z;have : j ∈ there O l := List.mem_filter.mpr ⟨List.mem_range.mpr hj, decide_eq_true (by lia)⟩
 rw [z] at this;cases this
theorem sP (O : List Ol) : fE (bU O) = (List.range O.length).map fun j : Nat => PyData.tuple [.int (j : Int), .list (dR (O[j]?.getD []))] := by
 apply List.ext_getElem?
 intro i;rw [List.getElem?_map];by_cases hi : i < O.length
 ·rw [List.getElem?_range hi]
  unfold fE bU;rw [List.getElem?_map, List.getElem?_zipIdx, List.getElem?_map, List.getElem?_eq_getElem hi];simp [List.getElem?_eq_getElem hi]
 ·rw [List.getElem?_eq_none (by unfold fE bU; simp; lia), List.getElem?_eq_none (by rw [List.length_range]; lia)]
  rfl
theorem pD (O : List Ol) {j : Nat} (h : j < O.length) : atI (bU O) (j : Int) = some (.list (dR (O[j]?.getD []))) := by
 rw [List.getElem?_eq_getElem h];exact iH (List.getElem?_eq_getElem h)
theorem qD (os : Ol) {l : Nat} (h : l < os.length) : atI (dR os) (l : Int) = some (.tuple [.int ((os[l]?).getD (0, 0)).1, .int ((os[l]?).getD (0, 0)).2]) := by
 rw [List.getElem?_eq_getElem h];exact uO (List.getElem?_eq_getElem h)
theorem kL {st : List Int} {j : Nat} (h : j < st.length) : atI (st.map PyData.int) (j : Int) = some (.int (gv st j)) := int_at (mD h)
theorem FT (L : List Nat) : (L.map fun k : Nat => OD.sh (.int (k : Int))).map OD.er = dc L := by
 unfold dc;rw [List.map_map];exact List.map_congr_left fun k _ => bN _
theorem sG (os : Ol) (p : Int × Int) : (dR os).map OD.sh ++ [OD.sh (.tuple [.int p.1, .int p.2])] = (dR (os ++ [p])).map OD.sh := by
 unfold dR;rw [List.map_append, List.map_append];rfl
theorem rX (O : List Ol) (st : List Int) (hO : okO O) (hs : st.length = O.length) : bz [.list (bU O), .list (st.map PyData.int)] = .ok (.ol ((dR (jo O st)).map OD.sh)) := by
 unfold bz dt;obtain ⟨ho, hl0, hl1⟩ := hO;have hne : O ≠ [] := fun z => by rw [z] at hl0; simp at hl0
 obtain ⟨mx1, mx2, mx3⟩ := mP hne;have mb : mxN O ≤ 100 := by
  obtain ⟨j, hj, ej⟩ := mx2;have := (ho O[j] (List.getElem_mem hj)).2;unfold i5 at ej;rw [List.getElem?_eq_getElem hj] at ej;have ej' : O[j].length = mxN O := ej
  lia
 push_cast only [and_self];generalize hC : a7 _ _ _ _ _ _ = rc
 have e := b_ hC (fun o : Ol => .list (dR o)) (fun o : Ol => .sh (.int (o.length : Int))) O rfl (of_eq_true (aS (by lia))) (by
  intro o ho;push_cast only [iN])
 subst e;have e2 : (O.map fun o : Ol => OD.sh (.int (o.length : Int))).map OD.er = (O.map fun o : Ol => (o.length : Int)).map PyData.int := by
  rw [List.map_map, List.map_map];exact List.map_congr_left fun o _ => bN _
 have hg := jA (xs := O.map fun o : Ol => (o.length : Int)) (fun z => hne (List.map_eq_nil_iff.mp z))
 rw [mx1] at hg;have s1 : ay (mxN O : Int) = true := eT (by lia) (by lia)
 push_cast only [e2, hg, s1];generalize hL : bI _ _ _ _ = r'
 refine cC hL (fun i ρ => ∃ v3 v4 v5 v6 : Option OD, ρ = [some (.sh (.list (bU O))), some (.sh (.list (st.map PyData.int))), some (.ol ((dR ((List.range i).map (jl O st))).map OD.sh)), v3, v4, v5, v6]) ⟨_, _, _, _, rfl⟩ ?_ ?_
 ·rintro i d ρ hd ⟨v3, v4, v5, v6, rfl⟩
  obtain ⟨hi, rfl⟩ := eQ hd;rw [Int.toNat_natCast] at hi;rw [Int.zero_add];have tne := jF hne hi;have tin : ∀ j ∈ there O i, j < O.length ∧ i < i5 O j := fun j hj => by
   have := List.mem_filter.mp hj;exact ⟨List.mem_range.mp this.1, of_decide_eq_true this.2⟩
  have tl : (there O i).length ≤ 100 := by
   have := List.length_filter_le (fun j => decide (i < i5 O j)) (List.range O.length)
   rw [List.length_range] at this;unfold there
   lia
  push_cast only [and_self];generalize hC : a7 _ _ _ _ _ _ = rc
  have e := iR hC (fun j : Nat => PyData.tuple [.int (j : Int), .list (dR (O[j]?.getD []))]) (fun j => decide (i < i5 O j)) (fun j : Nat => .sh (.int (j : Int))) (List.range O.length) (sP O) (by rw [List.length_range]; exact of_eq_true (aS (by lia))) (by
   intro j hj;have dj : decide ((i : Int) < ((O[j]?.getD []).length : Int)) = decide (i < i5 O j) := by
    unfold i5;by_cases h : i < (O[j]?.getD []).length
    ·rw [decide_eq_true h, decide_eq_true (by lia)]
    ·rw [decide_eq_false h, decide_eq_false (by lia)]
   refine ⟨?_, fun _ => ?_⟩
   ·push_cast only [iN, dj]
   ·push_cast only [and_self])
  subst e;clear hC;have e3 : ((List.range O.length).filter fun j => decide (i < i5 O j)) = there O i := rfl
  rw [e3];push_cast only [FT];generalize hC : a7 _ _ _ _ _ _ = rc
  have e := b_ hC (fun j : Nat => PyData.int (j : Int)) (fun j => .sh (.int (gv st j + (oA O j i).1))) (there O i) rfl (of_eq_true (aS (by lia))) (by
   intro j hj;obtain ⟨j1, j2⟩ := tin j hj;have g1 := kL (st := st) (j := j) (by lia)
   have g2 := pD O j1;have g3 := qD (O[j]?.getD []) (l := i) j2;push_cast only [g1, g2, g3];rfl)
  subst e;clear hC;have hm1 := o_ (xs := (there O i).map fun j => gv st j + (oA O j i).1) (fun z => tne (List.map_eq_nil_iff.mp z))
  have hm2 := jA (xs := (there O i).map fun j => gv st j + (oA O j i).2) (fun z => tne (List.map_eq_nil_iff.mp z))
  rw [qh];push_cast only [cq, hm1];generalize hC : a7 _ _ _ _ _ _ = rc
  have e := b_ hC (fun j : Nat => PyData.int (j : Int)) (fun j => .sh (.int (gv st j + (oA O j i).2))) (there O i) rfl (of_eq_true (aS (by lia))) (by
   intro j hj;obtain ⟨j1, j2⟩ := tin j hj;have g1 := kL (st := st) (j := j) (by lia)
   have g2 := pD O j1;have g3 := qD (O[j]?.getD []) (l := i) j2;push_cast only [g1, g2, g3];rfl)
  subst e;clear hC;rw [qh];have lb : ((dR ((List.range i).map (jl O st))).length < BIG) = True := by rw [iN, List.length_map, List.length_range]; exact d_ (by lia)
  push_cast only [cq, hm2, lb];have sn := sG ((List.range i).map (jl O st)) (jl O st i);rw [show (List.range i).map (jl O st) ++ [jl O st i] = (List.range (i + 1)).map (jl O st) by rw [List.range_succ, List.map_append]; rfl] at sn
  rw [← sn];exact ⟨_, _, _, _, rfl⟩
 ·rintro ρ' rfl ⟨v3, v4, v5, v6, rfl⟩
  rw [eI, Int.toNat_natCast];push_cast only [and_self];rfl
theorem vU (O : List Ol) (st : List Int) : (jo O st).length = mxN O := by unfold jo; rw [List.length_map, List.length_range]
theorem vf {es ls : List Int} {n : Nat} (he : es.length = n) (hl : ls.length = n) : ku (es.map PyData.int) (ls.map PyData.int) = (List.range n).map fun k => PyData.tuple [.int (gv es k), .int (gv ls k)] := by
 apply List.ext_getElem?
 intro i;unfold ku;rw [List.getElem?_map, List.getElem?_map];by_cases hi : i < n
 ·rw [List.getElem?_range hi, (List.getElem?_zip_eq_some (z := (PyData.int (gv es i), PyData.int (gv ls i)))).mpr ⟨by rw [List.getElem?_map, mD (by lia)]; rfl, by rw [List.getElem?_map, mD (by lia)]; rfl⟩]
  rfl
 ·rw [List.getElem?_eq_none (by simp; lia), List.getElem?_eq_none (by simp; lia)]
  rfl
structure IsSt (gap : Int) (O : List Ol) (es ls st : List Int) : Prop where
 le : es.length = O.length
 ll : ls.length = O.length
 lst : st.length = O.length
 isE : IsE O.length (dO gap O) (gv es)
 isL : IsL O.length (dO gap O) (gv es (O.length - 1)) (gv ls)
 eq : ∀ k, k < O.length → gv st k = (gv es k + gv ls k) / 2 - gv es (O.length - 1) / 2
theorem sF (O : List Ol) (gap : Int) (hO : okO O) : ∃ es ls st : List Int, IsSt gap O es ls st ∧ aW [.list (bU O), .int gap] = .ok (.ol (b8 st)) := by
 obtain ⟨es, ls, h1, h2, h3, h4, h5⟩ := wM O gap hO;have hn := hO.2.1;refine ⟨es, ls, (List.range O.length).map fun k => (gv es k + gv ls k) / 2 - gv es (O.length - 1) / 2, ⟨h1, h2, by simp, h3, h4, fun k hk => by
  unfold gv;rw [List.getElem?_map, List.getElem?_range hk];rfl⟩, ?_⟩
 unfold aW d8;have la := nF h1 (by lia)
 have lb := hO.2.2;push_cast only [h5, cq, la, vf h1 h2];generalize hC : a7 _ _ _ _ _ _ = rc
 have e := b_ hC (fun k : Nat => PyData.tuple [.int (gv es k), .int (gv ls k)]) (fun k => .sh (.int ((gv es k + gv ls k) / 2 - gv es (O.length - 1) / 2))) (List.range O.length) rfl (by rw [List.length_range]; exact of_eq_true (aS (by lia))) (by
  intro k hk;push_cast only [and_self])
 subst e;rw [qh];push_cast only [and_self]
open Classical in
noncomputable def stF (gap : Int) (O : List Ol) : List Int := if h : ∃ st : List Int, aW [.list (bU O), .int gap] = .ok (.ol (b8 st)) then choose h else []
theorem tQ {a b : List Int} (h : b8 a = b8 b) : a = b := by
 have := congrArg (List.map OD.er) h;rw [cq, cq] at this;have inj : ∀ x y : List Int, x.map PyData.int = y.map PyData.int → x = y := by
  intro x
  induction x with
  | nil => intro y hy; cases y with | nil => rfl | cons b y => simp at hy
  | cons a x ih =>
   intro y hy;cases y with
   | nil => simp at hy
   | cons b y =>
    simp at hy
    rw [hy.1, ih y (by simpa using hy.2)]
 exact inj a b this
theorem nC {O : List Ol} {gap : Int} (hO : okO O) : (∃ es ls, IsSt gap O es ls (stF gap O)) ∧ aW [.list (bU O), .int gap] = .ok (.ol (b8 (stF gap O))) := by
 obtain ⟨es, ls, st, h1, h2⟩ := sF O gap hO;have hex : ∃ st : List Int, aW [.list (bU O), .int gap] = .ok (.ol (b8 st)) := ⟨st, h2⟩;have hs : aW [.list (bU O), .int gap] = .ok (.ol (b8 (stF gap O))) := by
  unfold stF;rw [dif_pos hex];exact Classical.choose_spec hex
 have : stF gap O = st := by
  rw [h2] at hs;exact (tQ (OD.ol.inj (R.ok.inj hs))).symm
 exact ⟨⟨es, ls, by rw [this]; exact h1⟩, hs⟩
noncomputable def ini (ts : List Nd) (k : Nat) : Ol := [(-256 * gv (bJ ts) k, 256 * gv (bJ ts) k)]
noncomputable def g6 (out : List Ol) (k : Nat) : Ol := (out[k]?).getD []
noncomputable def aX (ts : List Nd) (out : List Ol) (k : Nat) : List Ol := (chN ts k).map (g6 out)
noncomputable def joB (ts : List Nd) (gap : Int) (out : List Ol) (k : Nat) : Ol := jo (aX ts out k) (stF gap (aX ts out k))
noncomputable def pJ (ts : List Nd) (gap : Int) (k : Nat) (out : List Ol) : List Ol := if chN ts k = [] then out else out.set k (g6 out k ++ joB ts gap out k)
noncomputable def cD : List Int → List Nat → List Int → List Int
 | o, c :: cs, s :: ss => cD (o.set c s) cs ss
 | o, _, _ => o
noncomputable def pF (ts : List Nd) (gap : Int) (k : Nat) (out : List Ol) (off : List Int) : List Int := if chN ts k = [] then off else cD off (chN ts k) (stF gap (aX ts out k))
noncomputable def PO (ts : List Nd) (gap : Int) : Nat → List Ol × List Int
 | 0 => ((List.range ts.length).map (ini ts), List.replicate ts.length 0)
 | m + 1 => (pJ ts gap (ts.length - 1 - m) (PO ts gap m).1, pF ts gap (ts.length - 1 - m) (PO ts gap m).1 (PO ts gap m).2)
theorem kn : ∀ (o : List Int) (cs : List Nat) (ss : List Int) (c : Nat) (s : Int), cs.length = ss.length → cD o (cs ++ [c]) (ss ++ [s]) = (cD o cs ss).set c s
 | o, [], [], c, s, _ => rfl
 | o, [], s' :: ss, c, s, h => by simp at h
 | o, c' :: cs, [], c, s, h => by simp at h
 | o, c' :: cs, s' :: ss, c, s, h => by
  rw [List.cons_append, List.cons_append, cD, cD, kn _ cs ss c s (by simpa using h)]
theorem jj : ∀ (o : List Int) (cs : List Nat) (ss : List Int), (cD o cs ss).length = o.length
 | o, [], ss => by rw [cD]; intro c cs s ss h; cases h
 | o, c :: cs, [] => by rw [cD]; intro c cs s ss _ h; cases h
 | o, c :: cs, s :: ss => by rw [cD, jj _ cs ss, List.length_set]
theorem ir : ∀ (o : List Int) (cs : List Nat) (ss : List Int) (x : Nat), x ∉ cs → gv (cD o cs ss) x = gv o x
 | o, [], ss, x, _ => by rw [cD]; intro c cs s ss h; cases h
 | o, c :: cs, [], x, _ => by rw [cD]; intro c cs s ss _ h; cases h
 | o, c :: cs, s :: ss, x, h => by
  rw [cD, ir _ cs ss x (fun z => h (List.mem_cons_of_mem _ z))]
  unfold gv;rw [List.getElem?_set_ne (fun z => h (by rw [z]; exact List.mem_cons_self))]
theorem l8 : ∀ (o : List Int) (cs : List Nat) (ss : List Int) (i : Nat) (x : Nat), cs.Nodup → (∀ c ∈ cs, c < o.length) → cs.length = ss.length → cs[i]? = some x → gv (cD o cs ss) x = gv ss i
 | o, [], ss, i, x, _, _, _, h => by simp at h
 | o, c :: cs, [], i, x, _, _, h, _ => by simp at h
 | o, c :: cs, s :: ss, i, x, nd, hb, hl, h => by
  obtain ⟨n1, n2⟩ := List.nodup_cons.mp nd;rw [cD];cases i with
  | zero =>
   have hx : c = x := by simpa using h
   subst hx;rw [ir _ cs ss c n1];unfold gv;rw [List.getElem?_set_self (hb c List.mem_cons_self)];rfl
  | succ i =>
   rw [l8 _ cs ss i x n2 (fun d hd => by rw [List.length_set]; exact hb d (List.mem_cons_of_mem _ hd)) (by simpa using hl) (by simpa using h)]
   rfl
theorem bq {ts : List Nd} {k j : Nat} : j ∈ chN ts k ↔ j < ts.length ∧ eOf ts j = (k : Int) := by
 unfold chN;rw [List.mem_filter, List.mem_range, decide_eq_true_eq]
theorem fu {ts : List Nd} (he : EL ts) {k j : Nat} (h : j ∈ chN ts k) : k < j ∧ j < ts.length := by
 obtain ⟨h1, h2⟩ := bq.mp h;obtain ⟨n, hn⟩ : ∃ n, ts[j]? = some n := ⟨ts[j], by simp [h1]⟩
 have := (he j n hn).2.2;rw [dn hn] at h2;exact ⟨by lia, h1⟩
theorem vI (ts : List Nd) (k : Nat) : (chN ts k).Nodup := List.Pairwise.imp (fun h => Nat.ne_of_lt h) (show (chN ts k).Pairwise (· < ·) by unfold chN; exact List.Pairwise.filter _ List.pairwise_lt_range)
theorem vF (ts : List Nd) (k : Nat) : (chN ts k).Pairwise (· < ·) := by unfold chN; exact List.Pairwise.filter _ List.pairwise_lt_range
theorem mO (ts : List Nd) (k : Nat) : (chN ts k).length ≤ ts.length := by
 unfold chN;have := List.length_filter_le (fun j => decide (eOf ts j = (k : Int))) (List.range ts.length)
 rw [List.length_range] at this;exact this
theorem oQ {out : List Ol} {k j : Nat} {o : Ol} (h : k ≠ j) : g6 (out.set k o) j = g6 out j := by unfold g6; rw [List.getElem?_set_ne h]
theorem sj {out : List Ol} {k : Nat} {o : Ol} (h : k < out.length) : g6 (out.set k o) k = o := by unfold g6; rw [List.getElem?_set_self h]; rfl
theorem sL {ts : List Nd} (he : EL ts) {out : List Ol} {k q : Nat} {o : Ol} (h : k ≤ q) : aX ts (out.set k o) q = aX ts out q := by
 unfold aX;exact List.map_congr_left fun j hj => oQ (by have := (fu he hj).1; lia)
structure PI (ts : List Nd) (gap : Int) (m : Nat) : Prop where
 l1 : (PO ts gap m).1.length = ts.length
 l2 : (PO ts gap m).2.length = ts.length
 lo : ∀ k, k < ts.length - m → g6 (PO ts gap m).1 k = ini ts k
 hi : ∀ k, ts.length - m ≤ k → k < ts.length → g6 (PO ts gap m).1 k = ini ts k ++ (if chN ts k = [] then [] else joB ts gap (PO ts gap m).1 k)
 ln : ∀ k, k < ts.length → 1 ≤ (g6 (PO ts gap m).1 k).length ∧ (g6 (PO ts gap m).1 k).length ≤ ts.length - k
 of : ∀ k, ts.length - m ≤ k → k < ts.length → ∀ i j, (chN ts k)[i]? = some j → gv (PO ts gap m).2 j = gv (stF gap (aX ts (PO ts gap m).1 k)) i
 z : gv (PO ts gap m).2 0 = 0
theorem k9 {ts : List Nd} {gap : Int} {m k : Nat} (he : EL ts) (hl : ts.length ≤ 100) (h : PI ts gap m) (hk : chN ts k ≠ []) : okO (aX ts (PO ts gap m).1 k) := by
 refine ⟨fun os ho => ?_, ?_, ?_⟩
 ·unfold aX at ho
  obtain ⟨j, hj, rfl⟩ := List.mem_map.mp ho;have := h.ln j (fu he hj).2
  lia
 ·unfold aX
  rw [List.length_map];exact List.length_pos_iff.mpr hk
 ·unfold aX
  rw [List.length_map];have := mO ts k
  lia
theorem qN {ts : List Nd} {gap : Int} {m k : Nat} (he : EL ts) (h : PI ts gap m) (hk : chN ts k ≠ []) : (joB ts gap (PO ts gap m).1 k).length ≤ ts.length - (k + 1) := by
 unfold joB;rw [vU];have hne : aX ts (PO ts gap m).1 k ≠ [] := by unfold aX; simp [hk]
 obtain ⟨_, ⟨j, hj, ej⟩, _⟩ := mP hne;rw [← ej];unfold i5 aX;unfold aX at hj;rw [List.length_map] at hj;rw [List.getElem?_map, List.getElem?_eq_getElem hj];show (g6 _ (chN ts k)[j]).length ≤ _
 have g := fu he (List.getElem_mem hj);have := (h.ln _ g.2).2
 lia
theorem lA {ts : List Nd} (gap : Int) (he : EL ts) (h0 : 0 < ts.length) (hl : ts.length ≤ 100) : ∀ m, m ≤ ts.length → PI ts gap m
 | 0, _ => by
  have o : ∀ k, k < ts.length → g6 (PO ts gap 0).1 k = ini ts k := fun k hk => by
   unfold PO g6;rw [List.getElem?_map, List.getElem?_range hk];rfl
  refine ⟨by unfold PO; simp, by unfold PO; simp, fun k hk => o k (by lia), fun k h1 h2 => by lia, fun k hk => ?_, fun k h1 h2 => by lia, ?_⟩
  ·rw [o k hk]
   unfold ini;simp
   lia
  ·unfold PO gv
   rw [List.getElem?_replicate, if_pos h0];rfl
 | m + 1, hm => by
  have ih := lA gap he h0 hl m (by lia)
  obtain ⟨k0, hk0⟩ : ∃ k0, k0 = ts.length - 1 - m := ⟨_, rfl⟩;have hk0l : k0 < ts.length := by lia
  by_cases hc : chN ts k0 = []
  ·have e1 : (PO ts gap (m + 1)).1 = (PO ts gap m).1 := by rw [PO, ← hk0, pJ, if_pos hc]
   have e2 : (PO ts gap (m + 1)).2 = (PO ts gap m).2 := by rw [PO, ← hk0, pF, if_pos hc]
   refine ⟨by rw [e1]; exact ih.l1, by rw [e2]; exact ih.l2, fun k hk => by rw [e1]; exact ih.lo k (by lia), fun k h1 h2 => ?_, fun k hk => by rw [e1]; exact ih.ln k hk, fun k h1 h2 i j hj => ?_, by rw [e2]; exact ih.z⟩
   ·rw [e1]
    by_cases hk : k = k0
    ·subst hk
     rw [ih.lo k (by lia), if_pos hc, List.append_nil]
    ·exact ih.hi k (by lia) h2
   ·rw [e1, e2]
    by_cases hk : k = k0
    ·subst hk
     rw [hc] at hj;simp at hj
    ·exact ih.of k (by lia) h2 i j hj
  ·have e1 : (PO ts gap (m + 1)).1 = (PO ts gap m).1.set k0 (g6 (PO ts gap m).1 k0 ++ joB ts gap (PO ts gap m).1 k0) := by rw [PO, ← hk0, pJ, if_neg hc]
   have e2 : (PO ts gap (m + 1)).2 = cD (PO ts gap m).2 (chN ts k0) (stF gap (aX ts (PO ts gap m).1 k0)) := by rw [PO, ← hk0, pF, if_neg hc]
   have bl : ∀ q, k0 ≤ q → aX ts (PO ts gap (m + 1)).1 q = aX ts (PO ts gap m).1 q := fun q hq => by rw [e1]; exact sL he hq
   have jb : ∀ q, k0 ≤ q → joB ts gap (PO ts gap (m + 1)).1 q = joB ts gap (PO ts gap m).1 q := fun q hq => by unfold joB; rw [bl q hq]
   have self : g6 (PO ts gap (m + 1)).1 k0 = ini ts k0 ++ joB ts gap (PO ts gap m).1 k0 := by rw [e1, sj (by rw [ih.l1]; exact hk0l), ih.lo k0 (by lia)]
   have oth : ∀ k, k ≠ k0 → g6 (PO ts gap (m + 1)).1 k = g6 (PO ts gap m).1 k := fun k hk => by rw [e1, oQ (Ne.symm hk)]
   obtain ⟨⟨es, ls, hst⟩, _⟩ := nC (gap := gap) (k9 he hl ih hc);have sl : (chN ts k0).length = (stF gap (aX ts (PO ts gap m).1 k0)).length := by rw [hst.lst]; unfold aX; rw [List.length_map]
   refine ⟨by rw [e1, List.length_set]; exact ih.l1, by rw [e2, jj]; exact ih.l2, fun k hk => by rw [oth k (by lia)]; exact ih.lo k (by lia), fun k h1 h2 => ?_, fun k hk => ?_, fun k h1 h2 i j hj => ?_, ?_⟩
   ·by_cases hk : k = k0
    ·subst hk
     rw [self, if_neg hc, jb k (Nat.le_refl _)]
    ·rw [oth k hk, jb k (by lia)]
     exact ih.hi k (by lia) h2
   ·by_cases hk' : k = k0
    ·subst hk'
     rw [self, List.length_append];have := qN (gap := gap) he ih hc;have : (ini ts k).length = 1 := rfl
     lia
    ·rw [oth k hk']
     exact ih.ln k hk
   ·by_cases hk : k = k0
    ·subst hk
     rw [e2, bl k (Nat.le_refl _)];exact l8 _ _ _ i j (vI ts k) (fun c hc' => by rw [ih.l2]; exact (fu he hc').2) sl hj
    ·rw [e2, bl k (by lia), ir _ _ _ j (fun z => ?_)]
     ·exact ih.of k (by lia) h2 i j hj
     ·have a := (bq.mp (List.mem_of_getElem? hj)).2
      have b := (bq.mp z).2;rw [a] at b
      lia
   ·rw [e2, ir _ _ _ 0 (fun z => by have := (fu he z).1; lia)]
    exact ih.z
theorem jY {ch : List Nat} {j : Nat} : nT (nD ch) j = true ↔ j ∈ ch := by
 unfold nT nD iL;rw [List.any_eq_true];constructor
 ·rintro ⟨d, hd, e⟩
  rw [List.map_map] at hd;obtain ⟨k, hk, rfl⟩ := List.mem_map.mp hd;have e' : decide ((k : Int) = (j : Int)) = true := e;have := of_decide_eq_true e';rw [show j = k by lia]
  exact hk
 ·intro h
  exact ⟨.int (j : Int), by rw [List.map_map]; exact List.mem_map.mpr ⟨j, h, rfl⟩, decide_eq_true rfl⟩
theorem rE {ch : List Nat} {xs : List OD} : ∀ ch' : List Nat, (∀ j ∈ ch', j ∈ ch ∧ j < xs.length) → hV (eS (nD ch) 0 xs) (nD ch') = some (ch'.map fun j => (xs[j]?.map OD.er).getD .none)
 | [], _ => rfl
 | j :: r, h => by
  have ih := rE r fun k hk => h k (List.mem_cons_of_mem _ hk)
  obtain ⟨h1, h2⟩ := h j List.mem_cons_self;show hV (eS (nD ch) 0 xs) (.int (j : Int) :: nD r) = _
  unfold hV;have ix : ixN (eS (nD ch) 0 xs).length (j : Int) = some j := ij (by rw [jC]; exact h2)
  have gt : (eS (nD ch) 0 xs)[j]? = some (.sh (xs[j]).er) := by
   rw [iE, List.getElem?_eq_getElem h2];show some (if nT (nD ch) (0 + j) = true then OD.sh (xs[j]).er else xs[j]) = _
   rw [Nat.zero_add, if_pos (jY.mpr h1)]
  rw [ix];show (match (eS (nD ch) 0 xs)[j]? with | some (.sh d) => (hV (eS (nD ch) 0 xs) (nD r)).map fun ds => d :: ds | _ => none) = _
  rw [gt];show (hV (eS (nD ch) 0 xs) (nD r)).map (fun ds => (xs[j]).er :: ds) = _
  rw [ih, List.map_cons, List.getElem?_eq_getElem h2];rfl
noncomputable def pcs (q : Fs) : Fs := (aE (aN 2 (eOp fZ (eE (af (eC (.int 0)) aq)) (eB c_ (af (ae 0) aq))))
 (aE (aN 3 (aZ (c9 (aJ cG (af (ae 0) aq))) (gNm 0) bH (eE (af (eSh (gG (af (eOp fZ (eUn gz (eC (.int 256))) (ae 0)) (af (eOp fZ (eC (.int 256)) (ae 0)) aq)))) aq)) 1 []))
 (aE (e6 (iR3 (eOp eU (eB c_ (af (ae 0) aq)) (eC (.int 1))) (eUn gz (eC (.int 1))) (eUn gz (eC (.int 1)))) (gNm 4) (aE (aN 5 (eSh (aJ aM (af (ae 0) (af (ae 4) aq)))))
 (sIf (aT (eOp gGt (eB c_ (af (ae 5) aq)) (eC (.int 0)))) (aE (kY 3 5 (aN 6 (eSh (pW 3 5))))
 (aE (aN 7 (eSh (aJ aW (af (ae 6) (af (ae 1) aq)))))
 (aE (e6 (iZp (ae 5) (ae 7)) (gTp 2 (bA (gNm 8) (bA (gNm 9) gf))) (mQ 2 (ae 8) (ae 9)))
 (je 3 (ae 4) (aJ bz (af (ae 6) (af (ae 7) aq))))))) sNx)))
 q)))
theorem oV (ts : List Nd) (gap : Int) (he : EL ts) (h0 : 0 < ts.length) (hl : ts.length ≤ 100) (hlab : ∀ n ∈ ts, n.l.length ≤ 1000) :
  ∃ (xs : List OD) (ys : List PyData) (v4 v5 v6 v7 v8 v9 : Option OD), (∀ q : Fs, pcs q [some (.sh (.list (aB ts))), some (.sh (.int gap)), none, none, none, none, none, none, none, none] = q [some (.sh (.list (aB ts))), some (.sh (.int gap)), some (.ol (b8 (PO ts gap ts.length).2)), some (.ol xs), v4, v5, v6, v7, v8, v9]) ∧ xs.map OD.er = bU (PO ts gap ts.length).1 ∧ xs[0]? = some (.ol (ys.map OD.sh)) := by
 unfold pcs;have rp := m9 (.int 0) ts.length (by lia)
 have ri : (List.replicate ts.length (PyData.int 0)).map OD.sh = b8 (List.replicate ts.length 0) := by unfold b8; simp only [List.map_replicate]
 have rs : ((bJ ts).map fun z => OD.sh (.int z)).map OD.er = (bJ ts).map PyData.int := by
  rw [List.map_map];exact List.map_congr_left fun z _ => bN _
 have rl : (bJ ts).length = ts.length := by unfold bJ; rw [List.length_map]
 push_cast only [dG, rp, ri, jk ts hlab hl, rs];generalize hC : a7 _ _ _ _ _ _ = rc
 have e := b_ hC PyData.int (fun z : Int => .ol [.sh (.tuple [.int (-256 * z), .int (256 * z)])]) (bJ ts) rfl (by rw [rl]; exact of_eq_true (aS (by lia))) (by
  intro z hz;push_cast only [and_self])
 subst e;clear hC;obtain ⟨xs0, hx0⟩ : ∃ xs0, xs0 = (bJ ts).map fun z : Int => OD.ol [.sh (.tuple [.int (-256 * z), .int (256 * z)])] := ⟨_, rfl⟩
 have x0 : ∀ k, k < ts.length → xs0[k]? = some (.ol ((dR (ini ts k)).map OD.sh)) := fun k hk => by
  rw [hx0, List.getElem?_map, mD (by rw [rl]; exact hk)]
  rfl
 have xe0 : xs0.map OD.er = bU (PO ts gap 0).1 := by
  apply List.ext_getElem?
  intro k;unfold bU PO;rw [List.getElem?_map, List.map_map, List.getElem?_map];by_cases hk : k < ts.length
  ·rw [x0 k hk, List.getElem?_range hk]
   show some (OD.ol _).er = some _
   rw [lX, c6];rfl
  ·rw [List.getElem?_eq_none (by rw [hx0, List.length_map, rl]; lia), List.getElem?_eq_none (by rw [List.length_range]; lia)]
   rfl
 rw [← hx0];have r3 := fun (ρ : L3.Env) (h1 : (eOp eU (eB c_ (af (ae 0) aq)) (eC (.int 1))) ρ = .ok (.sh (.int ((ts.length : Int) - 1)))) => Ee (fa := eOp eU (eB c_ (af (ae 0) aq)) (eC (.int 1))) (fb := eUn gz (eC (.int 1))) (fc := eUn gz (eC (.int 1))) (ρ := ρ) (x := (ts.length : Int) - 1) (y := -1) (z := -1) h1 rfl rfl rfl (eT (by lia) (by lia)) (eT (by decide) (by decide))
 have r4 := r3 [some (.sh (.list (aB ts))), some (.sh (.int gap)), some (.ol (b8 (List.replicate ts.length 0))), some (.ol xs0), none, none, none, none, none, none] (by push_cast only [dG])
 push_cast only [r4];generalize hL : bI _ _ _ _ = r'
 refine cC hL (fun m ρ => ∃ (xs : List OD) (v4 v5 v6 v7 v8 v9 : Option OD), xs.map OD.er = bU (PO ts gap m).1 ∧ (∀ k, k < ts.length - m → xs[k]? = some (.ol ((dR (ini ts k)).map OD.sh))) ∧ (∃ ys : List PyData, xs[0]? = some (.ol (ys.map OD.sh))) ∧ ρ = [some (.sh (.list (aB ts))), some (.sh (.int gap)), some (.ol (b8 (PO ts gap m).2)), some (.ol xs), v4, v5, v6, v7, v8, v9])
  ⟨xs0, _, _, _, _, _, _, xe0, fun k hk => x0 k (by lia), ⟨_, x0 0 h0⟩, rfl⟩ ?_ ?_
 ·rintro m d ρ hd ⟨xs, v4, v5, v6, v7, v8, v9, xe, xo, ⟨ys, xz⟩, rfl⟩
  obtain ⟨hm, rfl⟩ := pO hd;have hm2 : m < ts.length := by lia
  obtain ⟨k, hk⟩ : ∃ k : Nat, k = ts.length - 1 - m := ⟨_, rfl⟩;have hkl : k < ts.length := by lia
  have ek : (ts.length : Int) - 1 - (m : Int) = (k : Int) := by lia
  rw [ek];have ih := lA gap he h0 hl m (by lia)
  have ck := gL ts k hkl hl;have xl : xs.length = ts.length := by
   have := congrArg List.length xe;rw [List.length_map, iZ, ih.l1] at this;exact this
  by_cases hc : chN ts k = []
  ·have l0 : decide ((0 : Int) < ((nD (chN ts k)).length : Int)) = false := decide_eq_false (by rw [gW, hc]; decide)
   have e1 : (PO ts gap (m + 1)).1 = (PO ts gap m).1 := by rw [PO, ← hk, pJ, if_pos hc]
   have e2 : (PO ts gap (m + 1)).2 = (PO ts gap m).2 := by rw [PO, ← hk, pF, if_pos hc]
   push_cast only [ck, gj, l0];rw [← e2];exact ⟨xs, _, _, _, _, _, _, by rw [e1]; exact xe, fun q hq => xo q (by lia), ⟨ys, xz⟩, rfl⟩
  ·have l0 : decide ((0 : Int) < ((nD (chN ts k)).length : Int)) = true := decide_eq_true (by
    rw [gW];have := List.length_pos_iff.mpr hc
    lia)
   have e1 : (PO ts gap (m + 1)).1 = (PO ts gap m).1.set k (g6 (PO ts gap m).1 k ++ joB ts gap (PO ts gap m).1 k) := by rw [PO, ← hk, pJ, if_neg hc]
   have e2 : (PO ts gap (m + 1)).2 = cD (PO ts gap m).2 (chN ts k) (stF gap (aX ts (PO ts gap m).1 k)) := by rw [PO, ← hk, pF, if_neg hc]
   have bok := k9 he hl ih hc;obtain ⟨⟨es, ls, hst⟩, hsf⟩ := nC (gap := gap) bok;have jn := rX (aX ts (PO ts gap m).1 k) (stF gap (aX ts (PO ts gap m).1 k)) bok hst.lst;have bl : (aX ts (PO ts gap m).1 k).length = (chN ts k).length := by unfold aX; rw [List.length_map]
   have cl := mO ts k;have gt : hV (eS (nD (chN ts k)) 0 xs) (nD (chN ts k)) = some (bU (aX ts (PO ts gap m).1 k)) := by
    rw [rE (chN ts k) fun j hj => ⟨hj, by rw [xl]; exact (fu he hj).2⟩]
    refine congrArg some ?_;unfold aX bU;rw [List.map_map];refine List.map_congr_left fun j hj => ?_
    have hjl := (fu he hj).2;have := congrArg (fun l => l[j]?) xe
    simp only [List.getElem?_map] at this;have g : (PO ts gap m).1[j]? = some ((PO ts gap m).1[j]'(by rw [ih.l1]; exact hjl)) := List.getElem?_eq_getElem _
    rw [this];show ((bU (PO ts gap m).1)[j]?).getD .none = PyData.list (dR (((PO ts gap m).1[j]?).getD []))
    unfold bU;rw [List.getElem?_map, g];rfl
   have jl := qN (gap := gap) he ih hc;generalize hst' : stF gap (aX ts (PO ts gap m).1 k) = st at hst hsf jn e2
   have sl : (chN ts k).length = st.length := by rw [hst.lst, bl]
   push_cast only [ck, gj, l0];rw [zF (xs := xs) (ks := nD (chN ts k)) rfl rfl];push_cast only [and_self];rw [Er (i := 3) (c := 5) (xs := eS (nD (chN ts k)) 0 xs) (ks := nD (chN ts k)) rfl rfl gt (by rw [iZ, bl]; exact of_eq_true (aS (by lia)))]
   push_cast only [c6, hsf, cq];generalize hL2 : bI _ _ _ _ = r2
   refine cC hL2 (fun i ρ => ∃ v8 v9 : Option OD, ρ = [some (.sh (.list (aB ts))), some (.sh (.int gap)), some (.ol (b8 (cD (PO ts gap m).2 ((chN ts k).take i) (st.take i)))), some (.ol (eS (nD (chN ts k)) 0 xs)), some (.sh (.int k)), some (.sh (.list (nD (chN ts k)))), some (.sh (.list (bU (aX ts (PO ts gap m).1 k)))), some (.sh (.list (st.map PyData.int))), v8, v9]) ⟨_, _, by rw [List.take_zero, List.take_zero, cD]; intro _ _ _ _ h; cases h⟩ ?_ ?_
   ·rintro i d ρ hd ⟨v8, v9, rfl⟩
    obtain ⟨x, y, hx, hy, rfl⟩ := lB hd;unfold nD iL at hx;rw [List.map_map, List.getElem?_map] at hx;obtain ⟨j, hj, rfl⟩ := Option.map_eq_some_iff.mp hx;rw [List.getElem?_map] at hy;obtain ⟨s, hs, rfl⟩ := Option.map_eq_some_iff.mp hy;have jg := (fu he (List.mem_of_getElem? hj)).2;have ix : ixN (b8 (cD (PO ts gap m).2 ((chN ts k).take i) (st.take i))).length (j : Int) = some j := ij (by rw [jz, jj, ih.l2]; exact jg)
    push_cast only [Function.comp, uq ix, pM];rw [take_snoc hj, take_snoc hs, kn _ _ _ _ _ (by rw [List.length_take, List.length_take, sl])]
    exact ⟨_, _, rfl⟩
   ·rintro ρ' rfl ⟨v8, v9, rfl⟩
    have zl : (ku (nD (chN ts k)) (st.map PyData.int)).length = (chN ts k).length := by
     unfold ku;rw [List.length_map, List.length_zip, gW, List.length_map, ← sl, Nat.min_self]
    rw [zl, List.take_of_length_le (Nat.le_refl _), List.take_of_length_le (by lia), ← e2]
    have xk : (eS (nD (chN ts k)) 0 xs)[k]? = some (.ol ((dR (ini ts k)).map OD.sh)) := by
     rw [iE, xo k (by lia)]
     show some (if nT (nD (chN ts k)) (0 + k) = true then _ else _) = _
     rw [if_neg (fun z => by have := (fu he (jY.mp z)).1; lia)]
    have ex := xa (i := 3) (k := ae 4) (a := aJ bz (af (ae 6) (af (ae 7) aq))) (ρ := [some (.sh (.list (aB ts))), some (.sh (.int gap)), some (.ol (b8 (PO ts gap (m + 1)).2)), some (.ol (eS (nD (chN ts k)) 0 xs)), some (.sh (.int k)), some (.sh (.list (nD (chN ts k)))), some (.sh (.list (bU (aX ts (PO ts gap m).1 k)))), some (.sh (.list (st.map PyData.int))), v8, v9]) (xs := eS (nD (chN ts k)) 0 xs) (ys := (dR (ini ts k)).map OD.sh) (zs := (dR (jo (aX ts (PO ts gap m).1 k) st)).map OD.sh) (z := k) (j := k) rfl rfl (ij (by rw [jC, xl]; exact hkl)) xk (by push_cast only [jn]) (by
     rw [List.length_map, List.length_map, iN, iN];have jl2 : (jo (aX ts (PO ts gap m).1 k) st).length ≤ ts.length - (k + 1) := by
      unfold joB at jl;rw [hst'] at jl;exact jl
     have : (ini ts k).length = 1 := rfl;exact of_eq_true (aS (by lia)))
    push_cast only [and_self];rw [ex];push_cast only [and_self];have jb : joB ts gap (PO ts gap m).1 k = jo (aX ts (PO ts gap m).1 k) st := by unfold joB; rw [hst']
    refine ⟨_, _, _, _, _, _, _, ?_, fun q hq => ?_, ?_, rfl⟩
    ·rw [List.map_set, qI, xe, e1, ih.lo k (by lia), jb, lX]
     unfold bU dR;rw [List.map_set, List.map_append, List.map_append, c6, c6]
    ·rw [List.getElem?_set_ne (by lia), iE, xo q (by lia)]
     show some (if nT (nD (chN ts k)) (0 + q) = true then _ else _) = _
     rw [if_neg (fun z => by have := (fu he (jY.mp z)).1; lia)]
    ·by_cases hk0 : k = 0
     ·refine ⟨dR (ini ts k) ++ dR (jo (aX ts (PO ts gap m).1 k) st), ?_⟩
      rw [List.map_append, show (0 : Nat) = k from hk0.symm, List.getElem?_set_self (by rw [jC, xl]; exact hkl)]
     ·refine ⟨ys, ?_⟩
      rw [List.getElem?_set_ne hk0, iE, xz];show some (if nT (nD (chN ts k)) (0 + 0) = true then _ else _) = _
      rw [if_neg (fun z => by have := (fu he (jY.mp z)).1; lia)]
 ·rintro ρ' rfl ⟨xs, v4, v5, v6, v7, v8, v9, xe, xo, ⟨ys, xz⟩, rfl⟩
  rw [ur, show ((ts.length : Int) - 1 - -1).toNat = ts.length by lia] at xe ⊢
  refine ⟨xs, ys, v4, v5, v6, v7, v8, v9, fun q => ?_, xe, xz⟩
  push_cast only [and_self]
theorem so (ts : List Nd) (gap : Int) (he : EL ts) (h0 : 0 < ts.length) (hl : ts.length ≤ 100) (hlab : ∀ n ∈ ts, n.l.length ≤ 1000) :
  g5 [.list (aB ts), .int gap] = .ok (.sh (.tuple [.list ((PO ts gap ts.length).2.map PyData.int), .list (bU (PO ts gap ts.length).1)])) := by
 obtain ⟨xs, ys, v4, v5, v6, v7, v8, v9, hq, xe, _⟩ := oV ts gap he h0 hl hlab;have e : iY = pcs (lx 3 (lx 2 (d6 (gG (af (ae 2) (af (ae 3) aq)))))) := rfl;unfold g5;rw [e];push_cast only [hq, lX, xe, cq]
noncomputable def iG (ts : List Nd) (off : List Int) : Nat → List Int
 | 0 => [0]
 | i + 1 => iG ts off i ++ [gv (iG ts off i) (eOf ts (i + 1)).toNat + gv off (i + 1)]
theorem gE (ts : List Nd) (off : List Int) : ∀ i, (iG ts off i).length = i + 1
 | 0 => rfl
 | i + 1 => by rw [iG, List.length_append, gE ts off i]; rfl
theorem jS (ts : List Nd) (off : List Int) (m j : Nat) (h : j ≤ m) : ∀ c, gv (iG ts off (m + c)) j = gv (iG ts off m) j
 | 0 => rfl
 | c + 1 => by
  rw [← jS ts off m j h c, ← Nat.add_assoc, iG];unfold gv;rw [List.getElem?_append_left (by rw [gE]; lia)]
noncomputable def yH (ts : List Nd) (gap : Int) (k : Nat) : Int := gv (PO ts gap ts.length).2 k
noncomputable def outF (ts : List Nd) (gap : Int) (k : Nat) : Ol := g6 (PO ts gap ts.length).1 k
noncomputable def lS (ts : List Nd) (gap : Int) : List Int := iG ts (PO ts gap ts.length).2 (ts.length - 1)
noncomputable def pos (ts : List Nd) (gap : Int) (k : Nat) : Int := gv (lS ts gap) k
noncomputable def jv (ts : List Nd) (gap : Int) : Int := oW ((List.range ts.length).map fun k => pos ts gap k - 256 * gv (bJ ts) k)
noncomputable def drw (ts : List Nd) (gap : Int) : List Int := (lS ts gap).map fun z => z - jv ts gap
theorem lF {ts : List Nd} {gap : Int} (h0 : 0 < ts.length) : (lS ts gap).length = ts.length := by unfold lS; rw [gE]; lia
theorem wm {ts : List Nd} {gap : Int} (h0 : 0 < ts.length) : (drw ts gap).length = ts.length := by unfold drw; rw [List.length_map, lF h0]
theorem zM {ts : List Nd} {gap : Int} (h0 : 0 < ts.length) {k : Nat} (hk : k < ts.length) : gv (drw ts gap) k = pos ts gap k - jv ts gap := by
 unfold drw pos;unfold gv;rw [List.getElem?_map, List.getElem?_eq_getElem (by rw [lF h0]; exact hk)]
 rfl
theorem uc {ts : List Nd} {gap : Int} : pos ts gap 0 = 0 := by
 unfold pos lS;have := jS ts (PO ts gap ts.length).2 0 0 (Nat.le_refl _) (ts.length - 1);rw [Nat.zero_add] at this;rw [this];rfl
theorem vR {ts : List Nd} {gap : Int} {k q : Nat} (he : EL ts) (h0 : 0 < k) (hk : k < ts.length) (hq : eOf ts k = (q : Int)) : pos ts gap k = pos ts gap q + yH ts gap k := by
 have hqk : q < k := by
  obtain ⟨n, hn⟩ : ∃ n, ts[k]? = some n := ⟨ts[k], by simp [hk]⟩
  have := (he k n hn).2.2;rw [dn hn] at hq
  lia
 obtain ⟨m, rfl⟩ : ∃ m, k = m + 1 := ⟨k - 1, by lia⟩
 unfold pos lS yH;have a := jS ts (PO ts gap ts.length).2 (m + 1) (m + 1) (Nat.le_refl _) (ts.length - 1 - (m + 1));have b := jS ts (PO ts gap ts.length).2 m q (by lia) (ts.length - 1 - m)
 rw [show m + 1 + (ts.length - 1 - (m + 1)) = ts.length - 1 by lia] at a
 rw [show m + (ts.length - 1 - m) = ts.length - 1 by lia] at b
 rw [a, b, iG, hq, Int.toNat_natCast]
 conv => lhs; unfold gv
 rw [List.getElem?_append_right (by rw [gE]; lia), gE, Nat.sub_self]
 rfl
theorem wL (ts : List Nd) (gap : Int) (h0 : 0 < ts.length) (hl : ts.length ≤ 100) (hlab : ∀ n ∈ ts, n.l.length ≤ 1000) :
  cK [.list (aB ts), .list ((lS ts gap).map PyData.int), .int 256] = .ok (.ol (b8 (drw ts gap))) := by
 unfold cK dF;have rs : ((bJ ts).map fun z => OD.sh (.int z)).map OD.er = (bJ ts).map PyData.int := by
  rw [List.map_map];exact List.map_congr_left fun z _ => bN _
 have rl : (bJ ts).length = ts.length := by unfold bJ; rw [List.length_map]
 have pl := lF (gap := gap) h0;push_cast only [cq, jk ts hlab hl, rs, vf pl rl];generalize hC : a7 _ _ _ _ _ _ = rc
 have e := b_ hC (fun k : Nat => PyData.tuple [.int (gv (lS ts gap) k), .int (gv (bJ ts) k)]) (fun k => .sh (.int (pos ts gap k - 256 * gv (bJ ts) k))) (List.range ts.length) rfl (by rw [List.length_range]; exact of_eq_true (aS (by lia))) (by
  intro k hk;push_cast only [and_self];rfl)
 subst e;clear hC;rw [qh];have hm := o_ (xs := (List.range ts.length).map fun k => pos ts gap k - 256 * gv (bJ ts) k) (fun z => by
  have := congrArg List.length z;rw [List.length_map, List.length_range, List.length_nil] at this
  lia)
 have hm2 : jV [.list (((List.range ts.length).map fun k => pos ts gap k - 256 * gv (bJ ts) k).map PyData.int)] = .ok (.sh (.int (jv ts gap))) := hm
 push_cast only [cq, hm2];generalize hC : a7 _ _ _ _ _ _ = rc
 have e := b_ hC PyData.int (fun z : Int => .sh (.int (z - jv ts gap))) (lS ts gap) rfl (by rw [pl]; exact of_eq_true (aS (by lia))) (by
  intro z hz;push_cast only [and_self])
 subst e;rw [qh];push_cast only [and_self];rfl
theorem oy (ts : List Nd) (gap : Int) (he : EL ts) (h0 : 0 < ts.length) (hl : ts.length ≤ 100) (hlab : ∀ n ∈ ts, n.l.length ≤ 1000) :
  eN [.list (aB ts), .int gap] = .ok (.ol (b8 (drw ts gap))) := by
 unfold eN jE;have pk := so ts gap he h0 hl hlab;have PI1 := lA gap he h0 hl ts.length (Nat.le_refl _);have rs : ((bJ ts).map fun z => OD.sh (.int z)).map OD.er = (bJ ts).map PyData.int := by
  rw [List.map_map];exact List.map_congr_left fun z _ => bN _
 have rl : (bJ ts).length = ts.length := by unfold bJ; rw [List.length_map]
 have s1 : ay 1 = true := eT (by decide) (by decide)
 have s2 : ay (ts.length : Int) = true := eT (by lia) (by lia)
 push_cast only [pk, dG, s1, s2, Bool.and_self];generalize hL : bI _ _ _ _ = r'
 refine cC hL (fun i ρ => ∃ v4 : Option OD, ρ = [some (.sh (.list (aB ts))), some (.sh (.int gap)), some (.sh (.list ((PO ts gap ts.length).2.map PyData.int))), some (.ol (b8 (iG ts (PO ts gap ts.length).2 i))), v4]) ⟨_, rfl⟩ ?_ ?_
 ·rintro i d ρ hd ⟨v4, rfl⟩
  obtain ⟨hi, rfl⟩ := eQ hd;have hi2 : i + 1 < ts.length := by lia
  have ei : (1 : Int) + (i : Int) = ((i + 1 : Nat) : Int) := by lia
  rw [ei];obtain ⟨n, hn⟩ : ∃ n, ts[i + 1]? = some n := ⟨ts[i + 1], by simp [hi2]⟩
  have el := he (i + 1) n hn;obtain ⟨k, hk⟩ : ∃ k : Nat, n.e = (k : Int) := ⟨n.e.toNat, by have := el.2.1 (by lia); lia⟩
  have hki : k < i + 1 := by have := el.2.2; lia
  have g3 := k_ hn;rw [hk] at g3;have g1 := kL (st := iG ts (PO ts gap ts.length).2 i) (j := k) (by rw [gE]; lia)
  have g2 := kL (st := (PO ts gap ts.length).2) (j := i + 1) (by rw [PI1.l2]; lia)
  have lb : ((b8 (iG ts (PO ts gap ts.length).2 i)).length < BIG) = True := by rw [jz, gE]; exact d_ (by lia)
  push_cast only [cq, g1, g2, g3, lb, mf];have e : iG ts (PO ts gap ts.length).2 (i + 1) = iG ts (PO ts gap ts.length).2 i ++ [gv (iG ts (PO ts gap ts.length).2 i) k + gv (PO ts gap ts.length).2 (i + 1)] := by rw [iG, dn hn, hk, Int.toNat_natCast]
  rw [e];exact ⟨_, rfl⟩
 ·rintro ρ' rfl ⟨v4, rfl⟩
  rw [eI, show ((ts.length : Int) - 1).toNat = ts.length - 1 by lia]
  have pe : iG ts (PO ts gap ts.length).2 (ts.length - 1) = lS ts gap := rfl;rw [pe];push_cast only [cq, wL ts gap h0 hl hlab]
theorem mJ {ts : List Nd} (gap : Int) (he : EL ts) (h0 : 0 < ts.length) (hl : ts.length ≤ 100) {k : Nat} (hk : k < ts.length) :
  outF ts gap k = ini ts k ++ (if chN ts k = [] then [] else jo ((chN ts k).map (outF ts gap)) (stF gap ((chN ts k).map (outF ts gap)))) :=
 (lA gap he h0 hl ts.length (Nat.le_refl _)).hi k (by lia) hk
theorem w8 {ts : List Nd} (gap : Int) (he : EL ts) (h0 : 0 < ts.length) (hl : ts.length ≤ 100) {k i j : Nat} (hk : k < ts.length) (hj : (chN ts k)[i]? = some j) :
  yH ts gap j = gv (stF gap ((chN ts k).map (outF ts gap))) i :=
 (lA gap he h0 hl ts.length (Nat.le_refl _)).of k (by lia) hk i j hj
theorem pB {ts : List Nd} (gap : Int) (he : EL ts) (h0 : 0 < ts.length) (hl : ts.length ≤ 100) {k : Nat} (hk : k < ts.length) : 1 ≤ (outF ts gap k).length ∧ (outF ts gap k).length ≤ ts.length - k :=
 (lA gap he h0 hl ts.length (Nat.le_refl _)).ln k hk
theorem nc {ts : List Nd} (gap : Int) (he : EL ts) (h0 : 0 < ts.length) (hl : ts.length ≤ 100) {k : Nat} (hc : chN ts k ≠ []) : okO ((chN ts k).map (outF ts gap)) :=
 k9 he hl (lA gap he h0 hl ts.length (Nat.le_refl _)) hc
structure Part (ts us : List Nd) (j : Nat) : Prop where
 le : j + us.length ≤ ts.length
 ch : ∀ i, i < us.length → (chN us i).map (j + ·) = chN ts (j + i)
 e : ∀ i, 0 < i → i < us.length → eOf us i = eOf ts (j + i) - j
 r : ∀ i, i < us.length → gv (bJ us) i = gv (bJ ts) (j + i)
theorem rW {ts : List Nd} {c : F} (p : PT ts c) {a : Nat} (ha : a < ts.length) : ((List.range (ts.length - (a + 1))).filter fun j => decide (eOf ts (a + 1 + j) = (a : Int))).map (fun j => a + 1 + j) = chN ts a := by
 unfold chN;have e : List.range ts.length = List.range (a + 1) ++ (List.range (ts.length - (a + 1))).map fun j => a + 1 + j := by
  rw [← List.range_add, show a + 1 + (ts.length - (a + 1)) = ts.length by lia]
 rw [e, List.filter_append, List.filter_map];have z : (List.range (a + 1)).filter (fun j => decide (eOf ts j = (a : Int))) = [] := by
  rw [List.filter_eq_nil_iff];intro j hj;rw [List.mem_range] at hj;have := x6 p (k := j) (by lia)
  rw [decide_eq_true_eq]
  lia
 rw [z, List.nil_append];rfl
theorem wD {ns : List Int} (h : ns ≠ []) : gNe (.list (ns.map PyData.int)) (.list []) = .ok (.sh (.bool true)) := by
 cases ns with
 | nil => exact absurd rfl h
 | cons a as =>
  unfold gNe;rw [jG];unfold ji;rw [eV (lay_ints (a :: as)) (by decide), show SeqAt.shaped (.list []) = true from eV (lay_ints []) (by decide), Bool.and_self, if_pos rfl]
  rfl
noncomputable def Dn (ts : List Nd) : Nat → Nat → Nat → Prop
 | j, 0, k => k = j
 | j, l + 1, k => ∃ c, c ∈ chN ts j ∧ Dn ts c l k
theorem Dn.snoc {ts : List Nd} {q k : Nat} (hk : k ∈ chN ts q) : ∀ {l j : Nat}, Dn ts j l q → Dn ts j (l + 1) k
 | 0, j, h => by
  have h : q = j := h;subst h;exact ⟨k, hk, rfl⟩
 | l + 1, j, ⟨c, hc, h⟩ => ⟨c, hc, Dn.snoc hk h⟩
structure IsOut (ts : List Nd) (f : Nat → Int) (j : Nat) (o : Ol) : Prop where
 len : ∀ l, l < o.length ↔ ∃ k, Dn ts j l k
 lo : ∀ l p, o[l]? = some p → (∃ k, Dn ts j l k ∧ p.1 = f k - 256 * gv (bJ ts) k - f j) ∧ ∀ k, Dn ts j l k → p.1 ≤ f k - 256 * gv (bJ ts) k - f j
 hi : ∀ l p, o[l]? = some p → (∃ k, Dn ts j l k ∧ p.2 = f k + 256 * gv (bJ ts) k - f j) ∧ ∀ k, Dn ts j l k → f k + 256 * gv (bJ ts) k - f j ≤ p.2
theorem gc {ts : List Nd} (gap : Int) (he : EL ts) (h0 : 0 < ts.length) (hl : ts.length ≤ 100) {j i c : Nat} (hj : j < ts.length) (hc : (chN ts j)[i]? = some c) : pos ts gap c = pos ts gap j + gv (stF gap ((chN ts j).map (outF ts gap))) i := by
 have hm := List.mem_of_getElem? hc;obtain ⟨c1, c2⟩ := bq.mp hm;have := (fu he hm).1;rw [vR he (by lia) c1 c2, w8 gap he h0 hl hj hc]
theorem kB {ts : List Nd} (gap : Int) (he : EL ts) (h0 : 0 < ts.length) (hl : ts.length ≤ 100) : ∀ m j, j + m = ts.length → j < ts.length → IsOut ts (pos ts gap) j (outF ts gap j) := by
 intro m
 induction m using Nat.strongRecOn with
 | ind m ih =>
  intro j hjm hj;have ihc : ∀ c ∈ chN ts j, IsOut ts (pos ts gap) c (outF ts gap c) := fun c hc => by
   obtain ⟨c1, c2⟩ := fu he hc;exact ih (ts.length - c) (by lia) c (by lia) c2
  have zero : ∀ p, (outF ts gap j)[0]? = some p → p = (-256 * gv (bJ ts) j, 256 * gv (bJ ts) j) := fun p hp => by
   rw [mJ gap he h0 hl hj] at hp;unfold ini at hp;simp at hp
   exact hp.symm
  by_cases hc : chN ts j = []
  ·have e : outF ts gap j = ini ts j := by rw [mJ gap he h0 hl hj, if_pos hc, List.append_nil]
   have no : ∀ l k, ¬ Dn ts j (l + 1) k := fun l k h => by
    obtain ⟨c, c1, _⟩ := h;rw [hc] at c1;cases c1
   have l1 : (outF ts gap j).length = 1 := by rw [e]; rfl
   have lt : ∀ l p, (outF ts gap j)[l]? = some p → l = 0 := fun l p hp => by
    have := (List.getElem?_eq_some_iff.mp hp).1
    lia
   refine ⟨fun l => ?_, fun l p hp => ?_, fun l p hp => ?_⟩
   ·rw [l1]
    constructor
    ·intro h
     have : l = 0 := by lia
     subst this;exact ⟨j, rfl⟩
    ·rintro ⟨k, hk⟩
     cases l with
     | zero => lia
     | succ l => exact absurd hk (no l k)
   ·have := lt l p hp
    subst this;rw [zero p hp];exact ⟨⟨j, rfl, by show _ = _; lia⟩, fun k hk => by have hk : k = j := hk; subst hk; show -256 * _ ≤ _; lia⟩
   ·have := lt l p hp
    subst this;rw [zero p hp];exact ⟨⟨j, rfl, by show _ = _; lia⟩, fun k hk => by have hk : k = j := hk; subst hk; show _ ≤ 256 * _; lia⟩
  ·have hO := nc gap he h0 hl hc
   have e : outF ts gap j = ini ts j ++ jo ((chN ts j).map (outF ts gap)) (stF gap ((chN ts j).map (outF ts gap))) := by rw [mJ gap he h0 hl hj, if_neg hc]
   have pc := fun i c (h : (chN ts j)[i]? = some c) => gc gap he h0 hl hj h
   generalize hst : stF gap ((chN ts j).map (outF ts gap)) = st at e pc
   have hne : (chN ts j).map (outF ts gap) ≠ [] := by simp [hc]
   obtain ⟨_, ⟨jm, jm1, jm2⟩, mx⟩ := mP hne;have len1 : (outF ts gap j).length = 1 + mxN ((chN ts j).map (outF ts gap)) := by rw [e, List.length_append, vU]; rfl
   have lenO_at : ∀ i c, (chN ts j)[i]? = some c → i5 ((chN ts j).map (outF ts gap)) i = (outF ts gap c).length := fun i c h => by unfold i5; rw [List.getElem?_map, h]; rfl
   have oA_at : ∀ i c l, (chN ts j)[i]? = some c → oA ((chN ts j).map (outF ts gap)) i l = ((outF ts gap c)[l]?).getD (0, 0) := fun i c l h => by unfold oA; rw [List.getElem?_map, h]; rfl
   have th : ∀ l i, i ∈ there ((chN ts j).map (outF ts gap)) l ↔ ∃ c, (chN ts j)[i]? = some c ∧ l < (outF ts gap c).length := fun l i => by
    unfold there;rw [List.mem_filter, List.mem_range, decide_eq_true_eq, List.length_map];constructor
    ·rintro ⟨a, b⟩
     have g : (chN ts j)[i]? = some (chN ts j)[i] := List.getElem?_eq_getElem a;exact ⟨_, g, by rw [← lenO_at i _ g]; exact b⟩
    ·rintro ⟨c, c1, c2⟩
     exact ⟨(List.getElem?_eq_some_iff.mp c1).1, by rw [lenO_at i c c1]; exact c2⟩
   have succ : ∀ l p, (outF ts gap j)[l + 1]? = some p → l < mxN ((chN ts j).map (outF ts gap)) ∧ p = jl ((chN ts j).map (outF ts gap)) st l := fun l p hp => by
    have hlt := (List.getElem?_eq_some_iff.mp hp).1;rw [len1] at hlt;have h2 : l < mxN ((chN ts j).map (outF ts gap)) := by lia
    refine ⟨h2, ?_⟩;rw [e] at hp;unfold ini jo at hp;rw [List.cons_append, List.nil_append, List.getElem?_cons_succ, List.getElem?_map, List.getElem?_range h2] at hp;exact (Option.some.inj hp).symm
   refine ⟨fun l => ?_, fun l p hp => ?_, fun l p hp => ?_⟩
   ·cases l with
    | zero => exact ⟨fun _ => ⟨j, rfl⟩, fun _ => by lia⟩
    | succ l =>
     rw [len1];constructor
     ·intro h
      have tn := jF hne (show l < mxN ((chN ts j).map (outF ts gap)) by lia)
      obtain ⟨i, hi⟩ := List.exists_mem_of_ne_nil _ tn;obtain ⟨c, c1, c2⟩ := (th l i).mp hi;have cm := List.mem_of_getElem? c1;obtain ⟨k, hk⟩ := ((ihc c cm).len l).mp c2;exact ⟨k, c, cm, hk⟩
     ·rintro ⟨k, c, cm, hk⟩
      have c2 := ((ihc c cm).len l).mpr ⟨k, hk⟩;obtain ⟨i, il, ie⟩ := List.getElem_of_mem cm;have := mx i (by rw [List.length_map]; exact il)
      rw [lenO_at i c (by rw [List.getElem?_eq_getElem il, ie])] at this
      lia
   ·cases l with
    | zero =>
     rw [zero p hp];exact ⟨⟨j, rfl, by show _ = _; lia⟩, fun k hk => by have hk : k = j := hk; subst hk; show -256 * _ ≤ _; lia⟩
    | succ l =>
     obtain ⟨h2, rfl⟩ := succ l p hp;have tn := jF hne h2;obtain ⟨s1, s2⟩ := l6 (xs := (there ((chN ts j).map (outF ts gap)) l).map fun i => gv st i + (oA ((chN ts j).map (outF ts gap)) i l).1) (fun z => tn (List.map_eq_nil_iff.mp z))
     refine ⟨?_, ?_⟩
     ·obtain ⟨i, hi, ei⟩ := List.mem_map.mp s1
      obtain ⟨c, c1, c2⟩ := (th l i).mp hi;have cm := List.mem_of_getElem? c1;obtain ⟨⟨k, k1, k2⟩, _⟩ := (ihc c cm).lo l _ (List.getElem?_eq_getElem c2);refine ⟨k, ⟨c, cm, k1⟩, ?_⟩;show oW _ = _
      rw [← ei, oA_at i c l c1, List.getElem?_eq_getElem c2];show gv st i + (outF ts gap c)[l].1 = _
      rw [k2, pc i c c1]
      lia
     ·rintro k ⟨c, cm, hk⟩
      obtain ⟨i, il, ie⟩ := List.getElem_of_mem cm;have c1 : (chN ts j)[i]? = some c := by rw [List.getElem?_eq_getElem il, ie]
      have c2 := ((ihc c cm).len l).mpr ⟨k, hk⟩;have q := s2 _ (List.mem_map.mpr ⟨i, (th l i).mpr ⟨c, c1, c2⟩, rfl⟩);rw [oA_at i c l c1, List.getElem?_eq_getElem c2] at q;have q : oW _ ≤ gv st i + (outF ts gap c)[l].1 := q;have := ((ihc c cm).lo l _ (List.getElem?_eq_getElem c2)).2 k hk;have pcc := pc i c c1;show oW _ ≤ _
      lia
   ·cases l with
    | zero =>
     rw [zero p hp];exact ⟨⟨j, rfl, by show _ = _; lia⟩, fun k hk => by have hk : k = j := hk; subst hk; show _ ≤ 256 * _; lia⟩
    | succ l =>
     obtain ⟨h2, rfl⟩ := succ l p hp;have tn := jF hne h2;obtain ⟨s1, s2⟩ := f_ (xs := (there ((chN ts j).map (outF ts gap)) l).map fun i => gv st i + (oA ((chN ts j).map (outF ts gap)) i l).2) (fun z => tn (List.map_eq_nil_iff.mp z))
     refine ⟨?_, ?_⟩
     ·obtain ⟨i, hi, ei⟩ := List.mem_map.mp s1
      obtain ⟨c, c1, c2⟩ := (th l i).mp hi;have cm := List.mem_of_getElem? c1;obtain ⟨⟨k, k1, k2⟩, _⟩ := (ihc c cm).hi l _ (List.getElem?_eq_getElem c2);refine ⟨k, ⟨c, cm, k1⟩, ?_⟩;show i6 _ = _
      rw [← ei, oA_at i c l c1, List.getElem?_eq_getElem c2];show gv st i + (outF ts gap c)[l].2 = _
      rw [k2, pc i c c1]
      lia
     ·rintro k ⟨c, cm, hk⟩
      obtain ⟨i, il, ie⟩ := List.getElem_of_mem cm;have c1 : (chN ts j)[i]? = some c := by rw [List.getElem?_eq_getElem il, ie]
      have c2 := ((ihc c cm).len l).mpr ⟨k, hk⟩;have q := s2 _ (List.mem_map.mpr ⟨i, (th l i).mpr ⟨c, c1, c2⟩, rfl⟩);rw [oA_at i c l c1, List.getElem?_eq_getElem c2] at q;have q : gv st i + (outF ts gap c)[l].2 ≤ i6 _ := q;have := ((ihc c cm).hi l _ (List.getElem?_eq_getElem c2)).2 k hk;have pcc := pc i c c1;show _ ≤ i6 _
      lia
noncomputable def lvN (ts : List Nd) (k : Nat) : Nat := ((lvs ts)[k]?).getD 0
theorem cf {ts : List Nd} (he : EL ts) {j c : Nat} (h : c ∈ chN ts j) : lvN ts c = lvN ts j + 1 := by
 obtain ⟨c1, c2⟩ := bq.mp h;have hg := (fu he h).1;obtain ⟨n, hn⟩ : ∃ n, ts[c]? = some n := ⟨ts[c], by simp [c1]⟩
 rw [dn hn] at c2;unfold lvN;rw [g9 hn];show cE _ n = _
 unfold cE;rw [if_neg (by lia), c2, Int.toNat_natCast, ← jM, List.getElem?_take_of_lt hg]
theorem mh {ts : List Nd} (he : EL ts) : ∀ {l j k : Nat}, j < ts.length → Dn ts j l k → lvN ts k = lvN ts j + l ∧ j ≤ k ∧ k < ts.length
 | 0, j, k, hj, h => by
  have h : k = j := h;subst h;exact ⟨rfl, Nat.le_refl _, hj⟩
 | l + 1, j, k, hj, ⟨c, hc, h⟩ => by
  have g := fu he hc;obtain ⟨a, b, d⟩ := mh he g.2 h;rw [cf he hc] at a;exact ⟨by lia, by lia, d⟩
theorem xn {ts : List Nd} {c : F} (p : PT ts c) {j : Nat} (hj : j < ts.length) : ∃ s, ((ts.drop (j + 1)).takeWhile (inB j)).length = s ∧ j + 1 + s ≤ ts.length ∧ (∀ k, j < k → k ≤ j + s → (j : Int) ≤ eOf ts k) ∧
  ∀ b, b < ts.length → (j : Int) ≤ eOf ts b → eOf ts b ≤ ((j + s : Nat) : Int) → j < b ∧ b ≤ j + s := by
 obtain ⟨s, q1, q2, q3, q4⟩ := uw p hj;have at1 : ∀ k, (ts.drop (j + 1))[k]? = ts[j + 1 + k]? := fun k => List.getElem?_drop
 refine ⟨s, qo _ _ s (by rw [List.length_drop]; lia) (fun k hk x hx => ?_) (fun x hx => ?_), q1, q2, q4⟩
 ·rw [at1] at hx
  have := q2 (j + 1 + k) (by lia) (by lia)
  rw [dn hx] at this;exact decide_eq_true this
 ·rw [at1] at hx
  have hlt := (List.getElem?_eq_some_iff.mp hx).1;have := q3 hlt;rw [dn hx] at this;exact decide_eq_false (by lia)
theorem vg {ts : List Nd} (he : EL ts) {j s : Nat} (q : ∀ b, b < ts.length → (j : Int) ≤ eOf ts b → eOf ts b ≤ ((j + s : Nat) : Int) → j < b ∧ b ≤ j + s) : ∀ {l i k : Nat}, j ≤ i → i ≤ j + s → Dn ts i l k → k ≤ j + s
 | 0, i, k, _, h, hd => by
  have hd : k = i := hd
  lia
 | l + 1, i, k, h1, h2, ⟨c, hc, hd⟩ => by
  obtain ⟨c1, c2⟩ := bq.mp hc;have := q c c1 (by lia) (by lia)
  exact vg he q (by lia) this.2 hd
theorem vL {ts : List Nd} (he : EL ts) {j s : Nat} (hj : j + s < ts.length) (q : ∀ k, j < k → k ≤ j + s → (j : Int) ≤ eOf ts k) (k : Nat) (h1 : j ≤ k) (h2 : k ≤ j + s) : ∃ l, Dn ts j l k := by
 induction k using Nat.strongRecOn with
 | ind k ih =>
  by_cases hk : k = j
  ·exact ⟨0, hk⟩
  ·have e1 := q k (by lia) h2
   obtain ⟨n, hn⟩ : ∃ n, ts[k]? = some n := ⟨ts[k]'(by lia), by simp⟩
   have lt := (he k n hn).2.2;rw [← dn hn] at lt;obtain ⟨x, hx⟩ : ∃ x : Nat, eOf ts k = (x : Int) := ⟨(eOf ts k).toNat, by lia⟩
   obtain ⟨l, hl⟩ := ih x (by lia) (by lia) (by lia)
   exact ⟨l + 1, Dn.snoc (bq.mpr ⟨by lia, hx⟩) hl⟩
structure IsUp (ts : List Nd) (f : Nat → Int) (j i : Nat) (o : Ol) : Prop where
 len : ∀ l, l < o.length ↔ ∃ k, k < i ∧ Dn ts j l k
 lo : ∀ l p, o[l]? = some p → (∃ k, k < i ∧ Dn ts j l k ∧ p.1 = f k - 256 * gv (bJ ts) k - f j) ∧ ∀ k, k < i → Dn ts j l k → p.1 ≤ f k - 256 * gv (bJ ts) k - f j
 hi : ∀ l p, o[l]? = some p → (∃ k, k < i ∧ Dn ts j l k ∧ p.2 = f k + 256 * gv (bJ ts) k - f j) ∧ ∀ k, k < i → Dn ts j l k → f k + 256 * gv (bJ ts) k - f j ≤ p.2
theorem qS {ts : List Nd} {k : Nat} {n : Nd} (h : ts[k]? = some n) : gv (bJ ts) k = (n.l.length : Int) / 2 := by
 unfold gv bJ;rw [List.getElem?_map, h];rfl
noncomputable def Dp (ts : List Nd) (d : Nat) : Prop := ∀ k, k < ts.length → lvN ts k ≤ d
theorem sV : ∀ (ts us : List Nd), us.length = ts.length → (∀ k, k < ts.length → eOf us k = eOf ts k) → lvs us = lvs ts := by
 intro ts;refine snoc_ind (P := fun ts => ∀ us : List Nd, us.length = ts.length → (∀ k, k < ts.length → eOf us k = eOf ts k) → lvs us = lvs ts) (fun us h _ => ?_) (fun ts n ih us h he => ?_) ts
 ·have : us = [] := List.length_eq_zero_iff.mp h
  rw [this]
 ·rw [List.length_append, List.length_singleton] at h
  have hne : us ≠ [] := fun z => by rw [z] at h; simp at h
  have e := List.dropLast_concat_getLast hne;generalize us.dropLast = vs at e
  generalize us.getLast hne = m at e
  subst e;rw [List.length_append, List.length_singleton] at h;have hv : vs.length = ts.length := by lia
  have e1 : lvs vs = lvs ts := ih vs hv fun k hk => by
   have := he k (by rw [List.length_append]; lia)
   unfold eOf at this ⊢;rw [List.getElem?_append_left (by lia), List.getElem?_append_left hk] at this
   exact this
  have e2 : m.e = n.e := by
   have := he ts.length (by rw [List.length_append, List.length_singleton]; lia)
   have g1 : (ts ++ [n])[ts.length]? = some n := by simp
   have g2 : (vs ++ [m])[ts.length]? = some m := by rw [← hv]; simp
   rw [dn g1, dn g2] at this;exact this
  rw [fw, fw, e1];unfold cE;rw [e2]
theorem rP {ts us : List Nd} {k : Nat} (h : k < ts.length) : lvN (ts ++ us) k = lvN ts k := by
 unfold lvN;have := jM (ts ++ us) ts.length;rw [List.take_left] at this;rw [← this, List.getElem?_take_of_lt h]
theorem vv {ts : List Nd} (he : EL ts) (h0 : 0 < ts.length) : lvN ts 0 = 0 := by
 obtain ⟨n, hn⟩ : ∃ n, ts[0]? = some n := ⟨ts[0], by simp [h0]⟩
 unfold lvN;rw [g9 hn];show cE _ n = 0
 unfold cE;rw [if_pos ((he 0 n hn).1 rfl)]
theorem vz {deep : Nat} {ts : List Nd} {way : List Int} (g : Grown deep ts way) : (∀ (i : Nat) (x : Int), way[i]? = some x → lvN ts x.toNat = i) ∧ Dp ts deep := by
 induction g with
 | @root n h e =>
  have z : lvN [n] 0 = 0 := by
   unfold lvN;rw [g9 (ts := [n]) (i := 0) rfl];show cE _ n = 0
   unfold cE;rw [if_pos e]
  refine ⟨fun i x hx => ?_, fun k hk => ?_⟩
  ·have : i = 0 := by
    have := (List.getElem?_eq_some_iff.mp hx).1;simp at this
    lia
   subst this;have hx : (0 : Int) = x := by simpa using hx
   subst hx;exact z
  ·have : k = 0 := by simp at hk; lia
   subst this;rw [z];exact Nat.zero_le _
 | @step ns way c n g h1 h2 h3 h4 h5 ih =>
  obtain ⟨i1, i2⟩ := ih;have ew := g.way_lt n.e (List.mem_of_getElem? h5);have el := i1 (c - 1) n.e h5;have last : lvN (ns ++ [n]) ns.length = c := by
   unfold lvN;rw [fw, List.getElem?_append_right (by rw [bL]; exact Nat.le_refl _), bL, Nat.sub_self]
   show cE _ n = c
   unfold cE;rw [if_neg (by lia)]
   unfold lvN at el;rw [el]
   lia
  refine ⟨fun i x hx => ?_, fun k hk => ?_⟩
  ·by_cases hi : i < (way.take c).length
   ·rw [List.getElem?_append_left hi] at hx
    rw [List.length_take] at hi;rw [List.getElem?_take_of_lt (by lia)] at hx
    have xl := g.way_lt x (List.mem_of_getElem? hx);rw [rP (by lia)]
    exact i1 i x hx
   ·rw [List.getElem?_append_right (by lia)] at hx
    have hl := (List.getElem?_eq_some_iff.mp hx).1;rw [List.length_singleton] at hl;rw [List.length_take] at hi hl;have hi2 : i = c := by lia
    have hx : (ns.length : Int) = x := by
     rw [List.length_take, show i - min c way.length = 0 by lia] at hx
     simpa using hx
    subst hx;rw [Int.toNat_natCast, last, hi2]
  ·rw [List.length_append, List.length_singleton] at hk
   by_cases hkl : k < ns.length
   ·rw [rP hkl]
    exact i2 k hkl
   ·rw [show k = ns.length by lia, last]
    exact h3
theorem Fv {ts us : List Nd} {d : Nat} (h : Dp ts d) (hl : us.length = ts.length) (he : ∀ k, k < ts.length → eOf us k = eOf ts k) : Dp us d := fun k hk => by
 have := h k (by lia)
 unfold lvN at this ⊢;rw [sV ts us hl he];exact this
noncomputable def kG : Fs := (aE (aN 1 (eC (.str "")))
 (aE (e6 (c9 (ae 0)) (gTp 2 (bA (gNm 2) (bA (gNm 3) gf))) (aN 1 (eOp cR (eLj (ae 1) (ae 2)) (ae 3))))
 (d6 (eTx yQ (ae 1) (eC (.str " "))))))
noncomputable def fS : Fn := cQ 1 4 kG
noncomputable def fU : Fs := (aE (aN 2 (eC (.str "")))
 (aE (e6 (iR2 (eOp gIx (ae 1) (eC (.int 0))) (eOp cR (eOp gIx (ae 1) (eUn gz (eC (.int 1)))) (eC (.int 1)))) (gNm 3) (sIf (aT (eOp gEq (ae 3) (ae 0))) (qj 2 oR (eIf (aT (eOp (mY false) (ae 3) (ae 1))) (eC (.str "#")) (eC (.str "^")))) (qj 2 oR (eIf (aT (eOp (mY false) (ae 3) (ae 1))) (eC (.str "+")) (eC (.str "-"))))))
 (d6 (ae 2))))
noncomputable def eK : Fn := cQ 2 4 fU
noncomputable def fg : Fs := (aE (aN 1 (eE aq))
 (aE (aN 2 (eC (.int 0)))
 (aE (e6 (c9 (yM (ae 0) (eC (.str " ")))) (gNm 3) (aE (sIf (aT (eOp gNe (ae 3) (eC (.str "")))) (gU 1 (gG (af (ae 2) (af (ae 3) aq)))) sNx)
 (aN 2 (eOp cR (eOp cR (ae 2) (eB c_ (af (ae 3) aq))) (eC (.int 1))))))
 (gC 1))))
noncomputable def dW : Fn := cQ 1 4 fg
noncomputable def c7 : Fs := (aE (aN 1 (eOp fZ (eE (af (eC (.int 0)) aq)) (eB c_ (af (ae 0) aq))))
 (aE (e6 (iR2 (eC (.int 1)) (eB c_ (af (ae 0) aq))) (gNm 2) (mQ 1 (ae 2) (si (eOp cR (eOp gIx (ae 1) (eOp gIx (eOp gIx (ae 0) (ae 2)) (eC (.int 0)))) (eC (.int 1))))))
 (lx 1 (d6 (aZ (iR1 (eOp cR (eB gD (af (ae 1) aq)) (eC (.int 1)))) (gNm 0) bH (eSh (aZ (iR1 (eB c_ (af (ae 1) aq))) (gNm 0) (aT (eOp gEq (eOp gIx (ae 1) (ae 0)) (ae 2))) (ae 0) 1 [2, 0])) 1 [0, 1])))))
noncomputable def b5 : Fn := cQ 1 3 c7
noncomputable def fi : Fs := (d6 (aZ (iR2 (eOp cR (ae 1) (eC (.int 1))) (eB c_ (af (ae 0) aq))) (gNm 0) (aT (eOp gEq (eOp gIx (eOp gIx (ae 1) (ae 0)) (eC (.int 0))) (ae 2))) (ae 0) 1 [0, 1]))
noncomputable def bh : Fn := cQ 2 2 fi
noncomputable def fL : Fs := (aE (aN 3 (eSh (aJ cG (af (ae 0) aq))))
 (d6 (aJ fS (af (aZ (c9 (ae 2)) (gNm 0) bH (gG (af (eOp eU (eOp gIx (ae 1) (ae 0)) (eOp gIx (ae 2) (ae 0))) (af (eOp gIx (eOp gIx (ae 3) (ae 0)) (eC (.int 1))) aq))) 1 [1, 3, 0]) aq))))
noncomputable def eO : Fn := cQ 3 4 fL
noncomputable def gM : Fs := (aE (aN 3 (eSh (aZ (c9 (aJ bh (af (ae 0) (af (ae 1) aq)))) (gNm 0) bH (eOp gIx (ae 1) (ae 0)) 1 [2])))
 (aE (aN 4 (eC (.str "")))
 (aE (e6 (iR2 (eOp gIx (ae 3) (eC (.int 0))) (eOp cR (eOp gIx (ae 3) (eUn gz (eC (.int 1)))) (eC (.int 1)))) (gNm 5) (aE (aN 6 (eOp gIx (eE (af (eC (.str "-")) (af (eC (.str "+")) aq))) (eB qq (af (eOp (mY false) (ae 5) (ae 3)) aq))))
 (aE (sIf (aT (eOp gEq (ae 5) (eOp gIx (ae 2) (ae 1)))) (aN 6 (eOp gIx (eE (af (eC (.str "^")) (af (eC (.str "#")) aq))) (eB qq (af (eOp (mY false) (ae 5) (ae 3)) aq)))) sNx)
 (aN 4 (eOp cR (ae 4) (ae 6))))))
 (d6 (gG (af (eOp gIx (ae 3) (eC (.int 0))) (af (ae 4) aq)))))))
noncomputable def eg : Fn := cQ 3 7 gM
noncomputable def fQ : Fs := (aE (aN 4 (eE aq))
 (aE (e6 (c9 (ae 1)) (gNm 5) (sIf (aT (eOp gLt (ae 3) (eOp gIx (eOp gIx (ae 0) (ae 5)) (eC (.int 2))))) (gU 4 (gG (af (eOp gIx (ae 2) (ae 5)) (af (eC (.str ":")) aq)))) (sIf (aT (eOp gNe (aJ bh (af (ae 0) (af (ae 5) aq))) (eE aq))) (gU 4 (gG (af (eOp gIx (ae 2) (ae 5)) (af (eC (.str "|")) aq)))) sNx)))
 (gC 4)))
noncomputable def eF : Fn := cQ 4 6 fQ
noncomputable def fk : Fs := (aE (sIf (aT (eOp gLt (ae 2) (eOp gIx (eOp gIx (ae 0) (ae 1)) (eC (.int 2))))) (d6 (eC (.str ":"))) sNx)
 (d6 (eIf (aT (eOp gGt (eB c_ (af (aJ aM (af (ae 0) (af (ae 1) aq))) aq)) (eC (.int 0)))) (eC (.str "|")) (eC (.str " ")))))
noncomputable def d5 : Fn := cQ 3 3 fk
noncomputable def hR : Fs := (aE (aN 3 (eE aq))
 (aE (e6 (c9 (ae 2)) (gNm 4) (aE (aN 5 (eSh (aZ (c9 (aJ aM (af (ae 0) (af (ae 4) aq)))) (gNm 0) bH (eOp gIx (ae 1) (ae 0)) 1 [1])))
 (gU 3 (eSh (gG (af (eOp gIx (ae 5) (eC (.int 0))) (af (eSh (aJ eK (af (eOp gIx (ae 1) (ae 4)) (af (ae 5) aq)))) aq)))))))
 (lx 3 (d6 (aJ fS (af (ae 3) aq))))))
noncomputable def gq : Fn := cQ 3 6 hR
noncomputable def gQ : Fs := (aE (aN 2 (eE aq))
 (aE (e6 (c9 (aJ b5 (af (ae 0) aq))) (gNm 3) (aE (gU 2 (eSh (aZ (c9 (ae 3)) (gNm 0) bH (gG (af (eOp eU (eOp gIx (ae 1) (ae 0)) (eOp fM (eB c_ (af (eOp gIx (eOp gIx (ae 2) (ae 0)) (eC (.int 1))) aq)) (eC (.int 2)))) (af (eOp gIx (eOp gIx (ae 2) (ae 0)) (eC (.int 1))) aq))) 1 [1, 0])))
 (aE (e6 (iR2 (eC (.int 1)) (eB gD (af (aZ (c9 (ae 3)) (gNm 0) bH (eOp gIx (eOp gIx (ae 1) (ae 0)) (eC (.int 2))) 1 [0]) aq))) (gNm 4) (gU 2 (eSh (aJ eF (af (ae 0) (af (ae 3) (af (ae 1) (af (ae 4) aq))))))))
 (aE (aN 5 (eSh (aZ (c9 (ae 3)) (gNm 0) (aT (eOp gNe (aJ bh (af (ae 1) (af (ae 0) aq))) (eE aq))) (eSh (aJ eg (af (ae 1) (af (ae 0) (af (ae 2) aq))))) 1 [0, 1])))
 (sIf (aT (eOp gNe (ae 5) (eE aq))) (gU 2 (ae 5)) sNx)))))
 (gC 2)))
noncomputable def fB : Fn := cQ 2 6 gQ
noncomputable def ft : Fs := (aE (aN 3 (eB gD (af (aZ (c9 (ae 2)) (gNm 0) bH (eOp gIx (eOp gIx (ae 1) (ae 0)) (eC (.int 2))) 1 [0]) aq)))
 (d6 (aZ (iR2 (eC (.int 1)) (ae 3)) (gNm 0) bH (eSh (aJ fS (af (aZ (c9 (ae 1)) (gNm 0) bH (eSh (gG (af (eOp gIx (ae 1) (ae 0)) (af (eSh (aJ d5 (af (ae 2) (af (ae 0) (af (ae 3) aq))))) aq)))) 1 [2, 3, 0]) aq))) 1 [2, 1, 0])))
noncomputable def d7 : Fn := cQ 3 4 ft
noncomputable def fq : Fs := (d6 (aZ (c9 (aJ eN (af (ae 0) (af (ae 1) aq)))) (gNm 0) bH (eOp fM (ae 0) (eC (.int 256))) 1 []))
noncomputable def dZ : Fn := cQ 2 2 fq
noncomputable def ig : Fs := (aE (aN 2 (eSh (aJ dZ (af (ae 0) (af (ae 1) aq)))))
 (aE (aN 3 (eE aq))
 (aE (e6 (c9 (aJ eH (af (ae 0) aq))) (gNm 4) (aE (gU 3 (eSh (aJ eO (af (ae 0) (af (ae 2) (af (ae 4) aq))))))
 (aE (sO 3 (aJ d7 (af (ae 0) (af (ae 2) (af (ae 4) aq)))))
 (aE (aN 5 (eSh (aZ (c9 (ae 4)) (gNm 0) (aT (eOp gGt (eB c_ (af (aJ aM (af (ae 1) (af (ae 0) aq))) aq)) (eC (.int 0)))) (ae 0) 1 [0])))
 (sIf (aT (eOp gGt (eB c_ (af (ae 5) aq)) (eC (.int 0)))) (gU 3 (eSh (aJ gq (af (ae 0) (af (ae 2) (af (ae 5) aq)))))) sNx)))))
 (gC 3))))
noncomputable def dw : Fn := cQ 2 6 ig
noncomputable def fP : Fs := (aE (aN 2 (eSh (eB jX (af (ae 0) aq))))
 (aE (aN 3 (eSh (aJ dw (af (ae 2) (af (ae 1) aq)))))
 (aE (aN 4 (eSh (aJ fB (af (ae 0) (af (aZ (c9 (aJ eN (af (ae 0) (af (ae 1) aq)))) (gNm 0) bH (eOp fM (ae 0) (eC (.int 256))) 1 []) aq)))))
 (aE (sIf (lT (k5 (aT (vP "list" (ae 3)))) (lT (aT (eOp gNe (eB c_ (af (ae 3) aq)) (eB c_ (af (ae 4) aq)))) (aT (eOp gNe (ae 2) (ae 0))))) (d6 (eC (.bool false))) sNx)
 (aE (e6 (iZp (ae 3) (ae 4)) (gTp 2 (bA (gNm 5) (bA (gNm 6) gf))) (sIf (lT (k5 (aT (vP "str" (ae 5)))) (lT (aT (eOp gEq (eSl xD (ae 5) (lW (eUn gz (eC (.int 1)))) oE) (eC (.str " ")))) (aT (eOp gNe (aJ dW (af (ae 5) aq)) (ae 6))))) (d6 (eC (.bool false))) sNx))
 (d6 (eC (.bool true))))))))
noncomputable def dI : Fn := cQ 2 7 fP
noncomputable def mS : Fs := (aE (aN 1 (eSh (aJ cB (af (ae 0) (af (eC (.int 0)) aq)))))
 (aE (aN 2 (eOp cR (eC (.int 1)) (eOp fF (ae 1) (eC (.int 16)))))
 (aE (sIf (aT (eOp gEq (eOp fF (eOp fM (ae 1) (eC (.int 16))) (eC (.int 16))) (eC (.int 5)))) (aN 2 (eOp cR (eC (.int 17)) (eOp fF (eOp fM (ae 1) (eC (.int 256))) (eC (.int 24))))) sNx)
 (aE (aN 3 (eSh (aJ eR (af (ae 0) (af (eC (.int 2)) (af (ae 2) (af (eC (.int 9)) (af (eC (.int 8)) aq))))))))
 (aE (aN 4 (eOp fF (eOp fZ (aJ cB (af (ae 0) (af (eC (.int 1)) aq))) (eC (.int 48271))) (eC (.int 2147483647))))
 (aE (sIf (aT (eOp gEq (eOp fF (eOp fM (ae 4) (eC (.int 20))) (eC (.int 2))) (eC (.int 1)))) (aN 3 (eSh (aZ (c9 (ae 3)) (gTp 3 (bA (gNm 0) (bA (gNm 1) (bA (gNm 2) gf)))) bH (eSh (gG (af (ae 0) (af (ae 1) (af (eOp cR (eC (.int 1)) (eOp fF (ae 2) (eC (.int 3)))) aq))))) 3 []))) sNx)
 (aE (aN 5 (eOp gIx (eE (af (eC (.int 20)) (af (eC (.int 3)) aq))) (eB qq (af (eOp gGt (ae 2) (eC (.int 16))) aq))))
 (aE (aN 6 (eOp cR (eC (.int 1)) (eOp fF (ae 4) (ae 5))))
 (aE (sIf (k5 (aT (aJ dI (af (ae 3) (af (ae 6) aq))))) (d6 (eC (.bool false))) sNx)
 (aE (aN 7 (aJ dw (af (ae 3) (af (ae 6) aq))))
 (aE (aN 8 (eSh (kJ (eB jX (af (ae 7) aq)))))
 (aE (sIf (vK (lT (k5 (aT (aJ dI (af (ae 3) (af (eOp cR (eC (.int 1)) (eOp fF (eOp fM (ae 4) (eC (.int 40))) (ae 5))) aq))))) (aT (eOp gNe (ae 7) (ae 8))))) (d6 (eC (.bool false))) sNx)
 (aE (sW 7)
 (d6 (eOp gEq (aJ dw (af (ae 3) (af (ae 6) aq))) (ae 8))))))))))))))))
noncomputable def lr : Fn := cQ 1 9 mS
noncomputable def top (i : Nat) : Stmt := PySem.Challenge.pw_boughdraw_k61_picture_rows.main.body.getD i (.Pass ⟨0, 0, 0, 0⟩)
noncomputable abbrev cA : Stmt := top 4
theorem lN : FnScope ["tree", "node"] ["tree", "node"] (ag cA) := ⟨rfl, rfl, rfl, by decide +kernel, rfl, by decide +kernel, by decide +kernel⟩
noncomputable abbrev bT : Stmt := top 6
theorem gH : FnScope ["tree", "levels", "row"] ["tree"] (ag bT) := ⟨rfl, rfl, rfl, by decide +kernel, rfl, by decide +kernel, by decide +kernel⟩
noncomputable abbrev cM : Stmt := top 8
theorem pU : FnScope ["tree"] ["tree"] (ag cM) := ⟨rfl, rfl, rfl, by decide +kernel, rfl, by decide +kernel, by decide +kernel⟩
noncomputable abbrev de : Stmt := top 11
theorem ip : FnScope ["one", "other", "gap", "apart", "asked", "distance"] ["one", "other", "gap"] (ag de) := ⟨rfl, rfl, rfl, by decide +kernel, rfl, by decide +kernel, by decide +kernel⟩
noncomputable abbrev aL : Stmt := top 20
theorem bK : FnScope ["outlines", "stands", "joined", "level", "there", "left", "right"] ["outlines", "stands"] (ag aL) := ⟨rfl, rfl, rfl, by decide +kernel, rfl, by decide +kernel, by decide +kernel⟩
noncomputable abbrev gR : Stmt := top 24
theorem jP : FnScope ["parts", "row", "column", "signs"] ["parts"] (ag gR) := ⟨rfl, rfl, rfl, by decide +kernel, rfl, by decide +kernel, by decide +kernel⟩
noncomputable abbrev cT : Stmt := top 29
theorem eP : FnScope ["own", "below", "signs", "column"] ["own", "below"] (ag cT) := ⟨rfl, rfl, rfl, by decide +kernel, rfl, by decide +kernel, by decide +kernel⟩
noncomputable abbrev cn : Stmt := top 31
theorem hX : FnScope ["_law_script", "_law_k", "_law_number"] ["_law_script", "_law_k"] (ag cn) := ⟨rfl, rfl, rfl, by decide +kernel, rfl, by decide +kernel, by decide +kernel⟩
noncomputable abbrev cu : Stmt := top 33
theorem dS : FnScope ["_law_number", "_law_most", "_law_letters", "_law_label_here", "_law_k"] ["_law_number", "_law_most"] (ag cu) := ⟨rfl, rfl, rfl, by decide +kernel, rfl, by decide +kernel, by decide +kernel⟩
noncomputable abbrev cw : Stmt := top 35
theorem dU : FnScope ["_law_text", "_law_parts_here", "_law_begin", "_law_word"] ["_law_text"] (ag cw) := ⟨rfl, rfl, rfl, by decide +kernel, rfl, by decide +kernel, by decide +kernel⟩
noncomputable abbrev bG : Stmt := top 36
theorem gI : FnScope ["_law_tree_here", "_law_level", "_law_node"] ["_law_tree_here"] (ag bG) := ⟨rfl, rfl, rfl, by decide +kernel, rfl, by decide +kernel, by decide +kernel⟩
noncomputable abbrev bB : Stmt := top 37
theorem lJ : FnScope ["_law_tree_here", "_law_node"] ["_law_tree_here", "_law_node"] (ag bB) := ⟨rfl, rfl, rfl, by decide +kernel, rfl, by decide +kernel, by decide +kernel⟩
noncomputable abbrev aU : Stmt := top 5
theorem lq : FnScope ["tree", "node"] ["tree", "node"] (ag aU) := ⟨rfl, rfl, rfl, by decide +kernel, rfl, by decide +kernel, by decide +kernel⟩
noncomputable abbrev cU : Stmt := top 7
theorem fY : FnScope ["tree", "numbers", "node", "level"] ["tree"] (ag cU) := ⟨rfl, rfl, rfl, by decide +kernel, rfl, by decide +kernel, by decide +kernel⟩
noncomputable abbrev aQ : Stmt := top 13
theorem cX : FnScope ["outlines", "gap", "places", "number", "asked"] ["outlines", "gap"] (ag aQ) := ⟨rfl, rfl, rfl, by decide +kernel, rfl, by decide +kernel, by decide +kernel⟩
noncomputable abbrev bj : Stmt := top 14
theorem bV : FnScope ["outlines", "gap", "last", "count", "places", "number", "one", "asked"] ["outlines", "gap", "last"] (ag bj) := ⟨rfl, rfl, rfl, by decide +kernel, rfl, by decide +kernel, by decide +kernel⟩
noncomputable abbrev aV : Stmt := top 17
theorem g7 : FnScope ["tree", "places", "unit", "least"] ["tree", "places", "unit"] (ag aV) := ⟨rfl, rfl, rfl, by decide +kernel, rfl, by decide +kernel, by decide +kernel⟩
noncomputable abbrev cg : Stmt := top 25
theorem jQ : FnScope ["tree", "columns", "level", "reach"] ["tree", "columns", "level"] (ag cg) := ⟨rfl, rfl, rfl, by decide +kernel, rfl, by decide +kernel, by decide +kernel⟩
noncomputable abbrev cV : Stmt := top 34
theorem bR : FnScope ["_law_script", "_law_start", "_law_many", "_law_most", "_law_deep", "_law_tree_here", "_law_way", "_law_k", "_law_number", "_law_keep"] ["_law_script", "_law_start", "_law_many", "_law_most", "_law_deep"] (ag cV) := ⟨rfl, rfl, rfl, by decide +kernel, rfl, by decide +kernel, by decide +kernel⟩
noncomputable abbrev c8 : Stmt := top 38
theorem dA : FnScope ["_law_tree_here", "_law_node", "_law_columns", "_law_below_here", "_law_bar_here", "_law_at", "_law_sign"] ["_law_tree_here", "_law_node", "_law_columns"] (ag c8) := ⟨rfl, rfl, rfl, by decide +kernel, rfl, by decide +kernel, by decide +kernel⟩
noncomputable abbrev cW : Stmt := top 39
theorem hZ : FnScope ["_law_tree_here", "_law_level", "_law_columns", "_law_step", "_law_parts_here", "_law_node"] ["_law_tree_here", "_law_level", "_law_columns", "_law_step"] (ag cW) := ⟨rfl, rfl, rfl, by decide +kernel, rfl, by decide +kernel, by decide +kernel⟩
noncomputable abbrev eA : Stmt := top 12
theorem kO : FnScope ["outlines", "gap", "earliest"] ["outlines", "gap"] (ag eA) := ⟨rfl, rfl, rfl, by decide +kernel, rfl, by decide +kernel, by decide +kernel⟩
noncomputable abbrev cz : Stmt := top 27
theorem lU : FnScope ["tree", "node", "number"] ["tree", "node", "number"] (ag cz) := ⟨rfl, rfl, rfl, by decide +kernel, rfl, by decide +kernel, by decide +kernel⟩
noncomputable abbrev dJ : Stmt := top 28
theorem ia : FnScope ["tree", "columns", "elders", "parts", "elder", "below"] ["tree", "columns", "elders"] (ag dJ) := ⟨rfl, rfl, rfl, by decide +kernel, rfl, by decide +kernel, by decide +kernel⟩
noncomputable abbrev bX : Stmt := top 40
theorem fv : FnScope ["_law_tree_here", "_law_columns", "_law_rows", "_law_level", "_law_step", "_law_bars"] ["_law_tree_here", "_law_columns"] (ag bX) := ⟨rfl, rfl, rfl, by decide +kernel, rfl, by decide +kernel, by decide +kernel⟩
noncomputable abbrev bw : Stmt := top 19
theorem fI : FnScope ["outlines", "gap", "room", "elder"] ["outlines", "gap"] (ag bw) := ⟨rfl, rfl, rfl, by decide +kernel, rfl, by decide +kernel, by decide +kernel⟩
noncomputable abbrev bF : Stmt := top 26
theorem jd : FnScope ["tree", "columns", "level", "tallest"] ["tree", "columns", "level"] (ag bF) := ⟨rfl, rfl, rfl, by decide +kernel, rfl, by decide +kernel, by decide +kernel⟩
noncomputable abbrev dX : Stmt := top 18
theorem dE : FnScope ["tree", "gap", "offsets", "outlines", "node", "children", "below", "stands", "child", "stand"] ["tree", "gap"] (ag dX) := ⟨rfl, rfl, rfl, by decide +kernel, rfl, by decide +kernel, by decide +kernel⟩
noncomputable abbrev fW : Stmt := top 16
theorem jO : FnScope ["tree", "gap", "offsets", "places", "node"] ["tree", "gap"] (ag fW) := ⟨rfl, rfl, rfl, by decide +kernel, rfl, by decide +kernel, by decide +kernel⟩
noncomputable abbrev bO : Stmt := top 23
theorem lL : FnScope ["tree", "gap"] ["tree", "gap"] (ag bO) := ⟨rfl, rfl, rfl, by decide +kernel, rfl, by decide +kernel, by decide +kernel⟩
noncomputable abbrev df : Stmt := top 22
theorem gx : FnScope ["tree", "gap", "columns", "rows", "level", "elders"] ["tree", "gap"] (ag df) := ⟨rfl, rfl, rfl, by decide +kernel, rfl, by decide +kernel, by decide +kernel⟩
noncomputable abbrev cx : Stmt := top 41
theorem dH : FnScope ["_law_tree_here", "_law_gap", "_law_handed", "_law_found", "_law_due_here", "_law_text", "_law_parts_here"] ["_law_tree_here", "_law_gap"] (ag cx) := ⟨rfl, rfl, rfl, by decide +kernel, rfl, by decide +kernel, by decide +kernel⟩
noncomputable abbrev i_ : Stmt := top 42
theorem gF : FnScope ["_law_script", "_law_cell_here", "_law_many", "_law_tree_here", "_law_number", "_law_most", "_law_gap", "_law_held", "_law_kept"] ["_law_script"] (ag i_) := ⟨rfl, rfl, rfl, by decide +kernel, rfl, by decide +kernel, by decide +kernel⟩
theorem n9 : bootBuiltins "list" = some (.type "list") := by decide +kernel
theorem qe : bootBuiltins "int" = some (.type "int") := by decide +kernel
theorem Av : bootBuiltins "str" = some (.type "str") := by decide +kernel
structure Txt (K : PySem.W.Frag) (mg : Str → Option Value) : Prop where
 z_enumerate : mg "enumerate" = none
 z_int : mg "int" = none
 z_isinstance : mg "isinstance" = none
 z_len : mg "len" = none
 z_list : mg "list" = none
 z_max : mg "max" = none
 z_min : mg "min" = none
 z_range : mg "range" = none
 z_str : mg "str" = none
 z_zip : mg "zip" = none
 c_SHREDS : ∃ t, mg "SHREDS" = some (.int 256 t)
section
variable {P : Program} {w : World} {K : PySem.W.Frag} {mg : Str → Option Value} {base : Heap}
theorem lR {f : Addr} {fd : FuncData} (F : Fun K "check_node" "check_node" cA f fd) (T : Txt K mg) : FnOk P w K mg base CX0 1 f fd ["tree", "node"] (sp3 K mg d3) := by
 refine dM (N := ["tree", "node"]) (k := 0) (body := e_) rfl rfl rfl F lN fun cdv A outer s H E hr => ?_
 unfold e_;exact (ao (dY (xh (l5 (a_ ph (fun _ => oJ) (aa 1) aj (a9 _)) (nH (a_ BX (fun _ => Ew) (aa 1) (bC aI bE rfl T.z_len PySem.boot_len (ab (aa 0) ai)) (a9 _))))) (ao vB) b6))
theorem kQ {f : Addr} {fd : FuncData} (F : Fun K "node_levels" "node_levels" bT f fd) (T : Txt K mg) : FnOk P w K mg base CX0 1 f fd ["tree"] (sp3 K mg dv) := by
 refine dM (N := ["tree", "levels", "row"]) (k := 0) (body := eL) rfl rfl rfl F gH fun cdv A outer s H E hr => ?_
 unfold eL;exact (ah (az (i := 1) gH.nd rfl (Or.inl rfl) (bQ ai))
   (ah (cF rfl PassesOwn.never (bo (aa 0)) (au (i := 2) gH.nd rfl (Or.inl rfl)) (ao (dQ 1 (bM (qd (qJ (a_ (fG hr.units) iw (aD av aC (aa 2) aj (fun _ _ => rfl)) (g8 e7 (fun _ => eW) aj) (a9 _)) aj (ax aO a8 (aD av aC (aa 1) (aD av aC (aa 2) aj (fun _ _ => rfl)) (fun _ _ => rfl)) aj)))))))
   (ao (e9 1))))
theorem qx {f : Addr} {fd : FuncData} (F : Fun K "reaches" "reaches" cM f fd) (T : Txt K mg) : FnOk P w K mg base CX0 1 f fd ["tree"] (sp3 K mg cG) := by
 refine dM (N := ["tree"]) (k := 0) (body := g_) rfl rfl rfl F pU fun cdv A outer s H E hr => ?_
 unfold g_;exact (ao (bD (b7 (sc := (ag cM)) (outs := []) (is := [0]) ["row"] ⟨rfl, rfl, by decide +kernel, by decide +kernel, by decide +kernel, trivial⟩ rfl (by decide) (bo (aa 0)) (fun _ _ _ _ _ => (au (i := 0) (show List.Nodup (["row"] : List Str) by decide +kernel) rfl (Or.inl rfl))) (fun _ _ _ _ _ => bW) (fun _ _ _ _ _ => (ax cI (fun _ => dP) (bC aI bE rfl T.z_len PySem.boot_len (ab (aD av aC (aa 0) aj (fun _ _ => rfl)) ai)) aj)))))
theorem qA {f : Addr} {fd : FuncData} (F : Fun K "nearest" "nearest" de f fd) (T : Txt K mg) : FnOk P w K mg base CX0 1 f fd ["one", "other", "gap"] (sp3 K mg dB) := by
 refine dM (N := ["one", "other", "gap", "apart", "asked", "distance"]) (k := 0) (body := h7) rfl rfl rfl F ip fun cdv A outer s H E hr => ?_
 unfold h7;exact (ah (az (i := 3) ip.nd rfl (Or.inr rfl) (ax cY ed (iF rfl T.c_SHREDS) (ax aO a8 (aa 2) aj)))
   (ah (f6 (i := 4) (sc := (ag de)) (outs := [(3, "apart")]) (is := [0, 1]) ["ahead", "behind"] (fun _ _ _ q => lj q) ip.nd rfl (Or.inl rfl) ⟨rfl, rfl, by decide +kernel, by decide +kernel, by decide +kernel, ⟨⟨rfl, rfl⟩, trivial⟩⟩ rfl (by decide) (kR rfl T.z_zip (aa 0) (aa 1)) (fun _ _ _ _ _ => (gT (n := 2) rfl (bc (au (i := 0) (show List.Nodup (["ahead", "behind", "apart"] : List Str) by decide +kernel) rfl (Or.inl rfl)) (bc (au (i := 1) (show List.Nodup (["ahead", "behind", "apart"] : List Str) by decide +kernel) rfl (Or.inl rfl)) fj)))) (fun _ _ _ _ _ => bW) (fun _ _ _ _ _ => (ax iu (fun _ => ic) (ax aO a8 (aD av aC (aa 0) aj (fun _ _ => rfl)) (aa 2)) (aD av aC (aa 1) aj (fun _ _ => rfl)))))
   (ah (az (i := 5) ip.nd rfl (Or.inl rfl) (bC (eZ _ rfl rfl) h_ rfl T.z_max PyProof.Rows.boot_max (ab (aa 4) ai)))
   (ao (bD (dN (ab (aa 5) (ab (tK (aa 4) (aa 5)) ai))))))))
theorem jD {f : Addr} {fd : FuncData} (F : Fun K "joined_outline" "joined_outline" aL f fd) (T : Txt K mg) : FnOk P w K mg base CX0 1 f fd ["outlines", "stands"] (sp3 K mg bz) := by
 refine dM (N := ["outlines", "stands", "joined", "level", "there", "left", "right"]) (k := 0) (body := dt) rfl rfl rfl F bK fun cdv A outer s H E hr => ?_
 unfold dt;exact (ah (az (i := 2) bK.nd rfl (Or.inl rfl) (bQ ai))
   (ah (cF rfl PassesOwn.never (mw rfl T.z_range (bC (eZ _ rfl rfl) h_ rfl T.z_max PyProof.Rows.boot_max (ab (b7 (sc := (ag aL)) (outs := []) (is := [0]) ["outline"] ⟨rfl, rfl, by decide +kernel, by decide +kernel, by decide +kernel, trivial⟩ rfl (by decide) (bo (aa 0)) (fun _ _ _ _ _ => (au (i := 0) (show List.Nodup (["outline"] : List Str) by decide +kernel) rfl (Or.inl rfl))) (fun _ _ _ _ _ => bW) (fun _ _ _ _ _ => (bC aI bE rfl T.z_len PySem.boot_len (ab (aa 0) ai)))) ai))) (au (i := 3) bK.nd rfl (Or.inr rfl)) (ah (f6 (i := 4) (sc := (ag aL)) (outs := [(3, "level")]) (is := [0, 1]) ["number", "outline"] (fun _ _ _ q => lj q) bK.nd rfl (Or.inl rfl) ⟨rfl, rfl, by decide +kernel, by decide +kernel, by decide +kernel, ⟨⟨rfl, rfl⟩, trivial⟩⟩ rfl (by decide) (nR rfl T.z_enumerate (aa 0)) (fun _ _ _ _ _ => (gT (n := 2) rfl (bc (au (i := 0) (show List.Nodup (["number", "outline", "level"] : List Str) by decide +kernel) rfl (Or.inl rfl)) (bc (au (i := 1) (show List.Nodup (["number", "outline", "level"] : List Str) by decide +kernel) rfl (Or.inl rfl)) fj)))) (fun _ _ _ _ _ => (j3 (a_ ph (fun _ => oJ) (aa 2) (bC aI bE rfl T.z_len PySem.boot_len (ab (aa 1) ai)) (a9 _)))) (fun _ _ _ _ _ => (aa 0)))
   (ah (az (i := 5) bK.nd rfl (Or.inl rfl) (bC (j6 _ rfl rfl) nI rfl T.z_min PyProof.Rows.boot_min (ab (b7 (sc := (ag aL)) (outs := [(1, "stands"), (0, "outlines"), (3, "level")]) (is := [0]) ["number"] ⟨rfl, rfl, by decide +kernel, by decide +kernel, by decide +kernel, ⟨⟨rfl, rfl⟩, ⟨rfl, rfl⟩, ⟨rfl, rfl⟩, trivial⟩⟩ rfl (by decide) (bo (aa 4)) (fun _ _ _ _ _ => (au (i := 0) (show List.Nodup (["number", "stands", "outlines", "level"] : List Str) by decide +kernel) rfl (Or.inl rfl))) (fun _ _ _ _ _ => bW) (fun _ _ _ _ _ => (ax aO a8 (aD av aC (aa 1) (aa 0) (fun _ _ => rfl)) (aD av aC (aD av aC (aD av aC (aa 2) (aa 0) (fun _ _ => rfl)) (aa 3) (fun _ _ => rfl)) aj (fun _ _ => rfl))))) ai)))
   (ah (az (i := 6) bK.nd rfl (Or.inl rfl) (bC (eZ _ rfl rfl) h_ rfl T.z_max PyProof.Rows.boot_max (ab (b7 (sc := (ag aL)) (outs := [(1, "stands"), (0, "outlines"), (3, "level")]) (is := [0]) ["number"] ⟨rfl, rfl, by decide +kernel, by decide +kernel, by decide +kernel, ⟨⟨rfl, rfl⟩, ⟨rfl, rfl⟩, ⟨rfl, rfl⟩, trivial⟩⟩ rfl (by decide) (bo (aa 4)) (fun _ _ _ _ _ => (au (i := 0) (show List.Nodup (["number", "stands", "outlines", "level"] : List Str) by decide +kernel) rfl (Or.inl rfl))) (fun _ _ _ _ _ => bW) (fun _ _ _ _ _ => (ax aO a8 (aD av aC (aa 1) (aa 0) (fun _ _ => rfl)) (aD av aC (aD av aC (aD av aC (aa 2) (aa 0) (fun _ _ => rfl)) (aa 3) (fun _ _ => rfl)) aj (fun _ _ => rfl))))) ai)))
   (ao (dQ 2 (dN (ab (aa 5) (ab (aa 6) ai)))))))))
   (ao (e9 2))))
theorem wq {f : Addr} {fd : FuncData} (F : Fun K "laid" "laid" gR f fd) (T : Txt K mg) : FnOk P w K mg base CX0 1 f fd ["parts"] (sp3 K mg fS) := by
 refine dM (N := ["parts", "row", "column", "signs"]) (k := 0) (body := kG) rfl rfl rfl F jP fun cdv A outer s H E hr => ?_
 unfold kG;exact (ah (az (i := 1) jP.nd rfl (Or.inl rfl) b9)
   (ah (cF rfl PassesOwn.never (bo (aa 0)) (gT (n := 2) rfl (bc (au (i := 2) jP.nd rfl (Or.inl rfl)) (bc (au (i := 3) jP.nd rfl (Or.inl rfl)) fj))) (ao (az (i := 1) jP.nd rfl (Or.inl rfl) (ax aO a8 (El (aa 1) (aa 2)) (aa 3)))))
   (ao (bD (Ca (op := yQ) PySem.F.slot_str_rstrip PySem.F.type_str_rstrip sx (fun _ _ _ _ => .str _) (aa 1) b9)))))
theorem mW {f : Addr} {fd : FuncData} (F : Fun K "bar_signs" "bar_signs" cT f fd) (T : Txt K mg) : FnOk P w K mg base CX0 1 f fd ["own", "below"] (sp3 K mg eK) := by
 refine dM (N := ["own", "below", "signs", "column"]) (k := 0) (body := fU) rfl rfl rfl F eP fun cdv A outer s H E hr => ?_
 unfold fU;exact (ah (az (i := 2) eP.nd rfl (Or.inl rfl) b9)
   (ah (cF rfl PassesOwn.never (jN rfl T.z_range (aD av aC (aa 1) aj (fun _ _ => rfl)) (ax aO a8 (aD av aC (aa 1) (g8 e7 (fun _ => eW) aj) (fun _ _ => rfl)) aj)) (au (i := 3) eP.nd rfl (Or.inl rfl)) (ao (dY (a_ (fG hr.units) iw (aa 3) (aa 0) (a9 _)) (ao (uV (i := 2) eP.nd rfl (Or.inl rfl) (qJ (a_ iX n6 (aa 3) (aa 1) rfl) b9 b9) rj (fun _ => rb))) (ao (uV (i := 2) eP.nd rfl (Or.inl rfl) (qJ (a_ iX n6 (aa 3) (aa 1) rfl) b9 b9) rj (fun _ => rb))))))
   (ao (bD (aa 2)))))
theorem m_ {f : Addr} {fd : FuncData} (F : Fun K "_law_cell" "_law_cell" cn f fd) (T : Txt K mg) : FnOk P w K mg base CX0 1 f fd ["_law_script", "_law_k"] (sp3 K mg cB) := by
 refine dM (N := ["_law_script", "_law_k", "_law_number"]) (k := 0) (body := fV) rfl rfl rfl F hX fun cdv A outer s H E hr => ?_
 unfold fV;exact (ah (dY (a_ ph (fun _ => oJ) (aa 1) (bC aI bE rfl T.z_len PySem.boot_len (ab (aa 0) ai)) (a9 _)) (ao (bD (aD av aC (aa 0) (aa 1) (fun _ _ => rfl)))) b6)
   (ah (az (i := 2) hX.nd rfl (Or.inl rfl) (ax aO a8 (ax cY ed aj (aa 1)) aj))
   (ah (dY (a_ kS (fun _ => lD) (bC aI bE rfl T.z_len PySem.boot_len (ab (aa 0) ai)) aj (a9 _)) (ao (az (i := 2) hX.nd rfl (Or.inl rfl) (ax dq (fun _ => di) (ax aO a8 (ax cY ed (aD av aC (aa 0) (ax dq (fun _ => di) (aa 1) (bC aI bE rfl T.z_len PySem.boot_len (ab (aa 0) ai))) (fun _ _ => rfl)) aj) (ax cY ed (aa 1) aj)) aj))) b6)
   (ao (bD (ax dq (fun _ => di) (ax cY ed (aa 2) (aa 2)) aj))))))
theorem lG {f : Addr} {fd : FuncData} (F : Fun K "_law_label" "_law_label" cu f fd) (T : Txt K mg) : FnOk P w K mg base CX0 1 f fd ["_law_number", "_law_most"] (sp3 K mg dh) := by
 refine dM (N := ["_law_number", "_law_most", "_law_letters", "_law_label_here", "_law_k"]) (k := 0) (body := fm) rfl rfl rfl F dS fun cdv A outer s H E hr => ?_
 unfold fm;exact (ah (az (i := 2) dS.nd rfl (Or.inl rfl) b9)
   (ah (az (i := 3) dS.nd rfl (Or.inl rfl) b9)
   (ah (cF rfl PassesOwn.never (mw rfl T.z_range (ax aO a8 aj (ax dq (fun _ => di) (aa 0) (aa 1)))) (au (i := 4) dS.nd rfl (Or.inl rfl)) (ao (az (i := 3) dS.nd rfl (Or.inl rfl) (ax aO a8 (aa 3) (aD av aC (aa 2) (ax dq (fun _ => di) (ax cI (fun _ => dP) (aa 0) (ax aO a8 aj (ax cY ed (ax cY ed aj (aa 4)) (aa 4)))) aj) (fun _ _ => rfl))))))
   (ao (bD (aa 3))))))
theorem lH {f : Addr} {fd : FuncData} (F : Fun K "_law_parts" "_law_parts" cw f fd) (T : Txt K mg) : FnOk P w K mg base CX0 1 f fd ["_law_text"] (sp3 K mg dW) := by
 refine dM (N := ["_law_text", "_law_parts_here", "_law_begin", "_law_word"]) (k := 0) (body := fg) rfl rfl rfl F dU fun cdv A outer s H E hr => ?_
 unfold fg;exact (ah (az (i := 1) dU.nd rfl (Or.inl rfl) (bQ ai))
   (ah (az (i := 2) dU.nd rfl (Or.inl rfl) aj)
   (ah (cF rfl PassesOwn.never (bo (zi (aa 0) b9)) (au (i := 3) dU.nd rfl (Or.inl rfl)) (ah (dY (a_ (iD hr.units) kj (aa 3) b9 (a9 _)) (ao (dQ 1 (dN (ab (aa 2) (ab (aa 3) ai))))) b6)
   (ao (az (i := 2) dU.nd rfl (Or.inl rfl) (ax aO a8 (ax aO a8 (aa 2) (bC aI bE rfl T.z_len PySem.boot_len (ab (aa 3) ai))) aj)))))
   (ao (e9 1)))))
theorem lp {f : Addr} {fd : FuncData} (F : Fun K "_law_levels" "_law_levels" bG f fd) (T : Txt K mg) : FnOk P w K mg base CX0 1 f fd ["_law_tree_here"] (sp3 K mg b5) := by
 refine dM (N := ["_law_tree_here", "_law_level", "_law_node"]) (k := 0) (body := c7) rfl rfl rfl F gI fun cdv A outer s H E hr => ?_
 unfold c7;exact (ah (az (i := 1) gI.nd rfl (Or.inr rfl) (ax cY ed (bQ (ab aj ai)) (bC aI bE rfl T.z_len PySem.boot_len (ab (aa 0) ai))))
   (ah (cF rfl PassesOwn.never (jN rfl T.z_range aj (bC aI bE rfl T.z_len PySem.boot_len (ab (aa 0) ai))) (au (i := 2) gI.nd rfl (Or.inl rfl)) (ao (qs 1 (aa 2) (qd (ax aO a8 (aD av aC (aa 1) (aD av aC (aD av aC (aa 0) (aa 2) (fun _ _ => rfl)) aj (fun _ _ => rfl)) (fun _ _ => rfl)) aj)))))
   (ao (lg 1 (bD (pQ (sc := (ag bG)) (outs := [(0, "_law_tree_here"), (1, "_law_level")]) (is := [0]) ["_law_k"] ⟨rfl, rfl, by decide +kernel, by decide +kernel, by decide +kernel, by decide +kernel, ⟨⟨rfl, rfl⟩, ⟨rfl, rfl⟩, trivial⟩⟩ rfl (by decide) (mw rfl T.z_range (ax aO a8 (bC (eZ _ rfl rfl) h_ rfl T.z_max PyProof.Rows.boot_max (ab (aa 1) ai)) aj)) (fun _ _ _ _ _ => (au (i := 0) (show List.Nodup (["_law_k", "_law_tree_here", "_law_level"] : List Str) by decide +kernel) rfl (Or.inr rfl))) (fun _ _ _ _ _ => bW) (fun _ _ _ _ _ => (bM (b7 (sc := _) (outs := [(2, "_law_level"), (0, "_law_k")]) (is := [0]) ["_law_node"] (ua rfl (by decide +kernel) (by decide +kernel) (by decide +kernel) (show iq _ _ [(2, "_law_level"), (0, "_law_k")] from ⟨⟨rfl, rfl⟩, ⟨rfl, rfl⟩, trivial⟩)) rfl (by decide) (mw rfl T.z_range (bC aI bE rfl T.z_len PySem.boot_len (ab (aa 1) ai))) (fun _ _ _ _ _ => (au (i := 0) (show List.Nodup (["_law_node", "_law_level", "_law_k"] : List Str) by decide +kernel) rfl (Or.inl rfl))) (fun _ _ _ _ _ => (j3 (a_ (fG hr.units) iw (aD av aC (aa 1) (aa 0) (fun _ _ => rfl)) (aa 2) (a9 _)))) (fun _ _ _ _ _ => (aa 0)))))))))))
theorem lM {f : Addr} {fd : FuncData} (F : Fun K "_law_below" "_law_below" bB f fd) (T : Txt K mg) : FnOk P w K mg base CX0 1 f fd ["_law_tree_here", "_law_node"] (sp3 K mg bh) := by
 refine dM (N := ["_law_tree_here", "_law_node"]) (k := 0) (body := fi) rfl rfl rfl F lJ fun cdv A outer s H E hr => ?_
 unfold fi;exact (ao (bD (b7 (sc := (ag bB)) (outs := [(0, "_law_tree_here"), (1, "_law_node")]) (is := [0]) ["_law_k"] ⟨rfl, rfl, by decide +kernel, by decide +kernel, by decide +kernel, ⟨⟨rfl, rfl⟩, ⟨rfl, rfl⟩, trivial⟩⟩ rfl (by decide) (jN rfl T.z_range (ax aO a8 (aa 1) aj) (bC aI bE rfl T.z_len PySem.boot_len (ab (aa 0) ai))) (fun _ _ _ _ _ => (au (i := 0) (show List.Nodup (["_law_k", "_law_tree_here", "_law_node"] : List Str) by decide +kernel) rfl (Or.inl rfl))) (fun _ _ _ _ _ => (j3 (a_ (fG hr.units) iw (aD av aC (aD av aC (aa 1) (aa 0) (fun _ _ => rfl)) aj (fun _ _ => rfl)) (aa 2) (a9 _)))) (fun _ _ _ _ _ => (aa 0)))))
theorem kN {f : Addr} {fd : FuncData} (F : Fun K "children_of" "children_of" aU f fd) (T : Txt K mg) {A1 : Addr} {B1 : FuncData} (Y1 : Def K mg "check_node" cA ["tree", "node"] A1 B1) (Z1 : FnOk P w K mg base CX0 1 A1 B1 ["tree", "node"] (sp3 K mg d3)) : FnOk P w K mg base CX0 2 f fd ["tree", "node"] (sp3 K mg aM) := by
 refine dM (N := ["tree", "node"]) (k := 1) (body := eM) rfl rfl rfl F lq fun cdv A outer s H E hr => ?_
 unfold eM;exact (ah (vZ (aA Z1 (hr.mono (by decide)) rfl Y1.g Y1.F.kp Y1.b aR (ab (aa 0) (ab (aa 1) ai))))
   (ao (bD (b7 (sc := (ag aU)) (outs := [(1, "node")]) (is := [0, 1]) ["number", "row"] ⟨rfl, rfl, by decide +kernel, by decide +kernel, by decide +kernel, ⟨⟨rfl, rfl⟩, trivial⟩⟩ rfl (by decide) (nR rfl T.z_enumerate (aa 0)) (fun _ _ _ _ _ => (gT (n := 2) rfl (bc (au (i := 0) (show List.Nodup (["number", "row", "node"] : List Str) by decide +kernel) rfl (Or.inl rfl)) (bc (au (i := 1) (show List.Nodup (["number", "row", "node"] : List Str) by decide +kernel) rfl (Or.inl rfl)) fj)))) (fun _ _ _ _ _ => (j3 (a_ (fG hr.units) iw (aD av aC (aa 1) aj (fun _ _ => rfl)) (aa 2) (a9 _)))) (fun _ _ _ _ _ => (aa 0))))))
theorem nW {f : Addr} {fd : FuncData} (F : Fun K "levels_of" "levels_of" cU f fd) (T : Txt K mg) {A2 : Addr} {B2 : FuncData} (Y2 : Def K mg "node_levels" bT ["tree"] A2 B2) (Z2 : FnOk P w K mg base CX0 1 A2 B2 ["tree"] (sp3 K mg dv)) : FnOk P w K mg base CX0 2 f fd ["tree"] (sp3 K mg eH) := by
 refine dM (N := ["tree", "numbers", "node", "level"]) (k := 1) (body := fT) rfl rfl rfl F fY fun cdv A outer s H E hr => ?_
 unfold fT;exact (ah (az (i := 1) fY.nd rfl (Or.inl rfl) (bQ ai))
   (ah (cF rfl PassesOwn.never (nR rfl T.z_enumerate (aA Z2 (hr.mono (by decide)) rfl Y2.g Y2.F.kp Y2.b aR (ab (aa 0) ai))) (gT (n := 2) rfl (bc (au (i := 2) fY.nd rfl (Or.inl rfl)) (bc (au (i := 3) fY.nd rfl (Or.inl rfl)) fj))) (ah (dY (u9 (a_ (fG hr.units) iw (aa 3) (bC aI bE rfl T.z_len PySem.boot_len (ab (aa 1) ai)) (a9 _))) (ao (dQ 1 (bQ ai))) b6)
   (ao (t9 1 (aa 3) (aa 2) (fun _ _ => rfl)))))
   (ao (e9 1))))
theorem jt {f : Addr} {fd : FuncData} (F : Fun K "earliest_places" "earliest_places" aQ f fd) (T : Txt K mg) {A4 : Addr} {B4 : FuncData} (Y4 : Def K mg "nearest" de ["one", "other", "gap"] A4 B4) (Z4 : FnOk P w K mg base CX0 1 A4 B4 ["one", "other", "gap"] (sp3 K mg dB)) : FnOk P w K mg base CX0 2 f fd ["outlines", "gap"] (sp3 K mg bY) := by
 refine dM (N := ["outlines", "gap", "places", "number", "asked"]) (k := 1) (body := da) rfl rfl rfl F cX fun cdv A outer s H E hr => ?_
 unfold da;exact (ah (az (i := 2) cX.nd rfl (Or.inr rfl) (bQ (ab aj ai)))
   (ah (cF rfl PassesOwn.never (jN rfl T.z_range aj (bC aI bE rfl T.z_len PySem.boot_len (ab (aa 0) ai))) (au (i := 3) cX.nd rfl (Or.inr rfl)) (ah (f6 (i := 4) (sc := (ag aQ)) (outs := [(2, "places"), (0, "outlines"), (3, "number"), (1, "gap")]) (is := [0]) ["ahead"] (fun _ _ _ q => qt (lj q)) cX.nd rfl (Or.inl rfl) ⟨rfl, rfl, by decide +kernel, by decide +kernel, by decide +kernel, ⟨⟨rfl, rfl⟩, ⟨rfl, rfl⟩, ⟨rfl, rfl⟩, ⟨rfl, rfl⟩, trivial⟩⟩ rfl (by decide) (mw rfl T.z_range (aa 3)) (fun _ _ _ _ _ => (au (i := 0) (show List.Nodup (["ahead", "places", "outlines", "number", "gap"] : List Str) by decide +kernel) rfl (Or.inl rfl))) (fun _ _ _ _ _ => bW) (fun _ _ _ _ _ => (ax aO a8 (aD av aC (aa 1) (aa 0) (fun _ _ => rfl)) (aD av aC (aA Z4 (hr.mono (by decide)) rfl Y4.g Y4.F.kp Y4.b aR (ab (aD av aC (aa 2) (aa 0) (fun _ _ => rfl)) (ab (aD av aC (aa 2) (aa 3) (fun _ _ => rfl)) (ab (aa 4) ai)))) aj (fun _ _ => rfl)))))
   (ao (dQ 2 (bC (eZ _ rfl rfl) h_ rfl T.z_max PyProof.Rows.boot_max (ab (aa 4) ai))))))
   (ao (e9 2))))
theorem ka {f : Addr} {fd : FuncData} (F : Fun K "latest_places" "latest_places" bj f fd) (T : Txt K mg) {A4 : Addr} {B4 : FuncData} (Y4 : Def K mg "nearest" de ["one", "other", "gap"] A4 B4) (Z4 : FnOk P w K mg base CX0 1 A4 B4 ["one", "other", "gap"] (sp3 K mg dB)) : FnOk P w K mg base CX0 2 f fd ["outlines", "gap", "last"] (sp3 K mg cO) := by
 refine dM (N := ["outlines", "gap", "last", "count", "places", "number", "one", "asked"]) (k := 1) (body := dC) rfl rfl rfl F bV fun cdv A outer s H E hr => ?_
 unfold dC;exact (ah (az (i := 3) bV.nd rfl (Or.inl rfl) (bC aI bE rfl T.z_len PySem.boot_len (ab (aa 0) ai)))
   (ah (az (i := 4) bV.nd rfl (Or.inr rfl) (ax cY ed (bQ (ab (aa 2) ai)) (aa 3)))
   (ah (cF rfl PassesOwn.never (x5 rfl T.z_range (ax iu (fun _ => ic) (aa 3) aj) (g8 e7 (fun _ => eW) aj) (g8 e7 (fun _ => eW) aj)) (au (i := 5) bV.nd rfl (Or.inl rfl)) (ah (az (i := 6) bV.nd rfl (Or.inr rfl) (aD av aC (aa 0) (aa 5) (fun _ _ => rfl)))
   (ah (f6 (i := 7) (sc := (ag bj)) (outs := [(4, "places"), (6, "one"), (0, "outlines"), (1, "gap")]) (is := [0]) ["behind"] (fun _ _ _ q => qt (lj q)) bV.nd rfl (Or.inl rfl) ⟨rfl, rfl, by decide +kernel, by decide +kernel, by decide +kernel, ⟨⟨rfl, rfl⟩, ⟨rfl, rfl⟩, ⟨rfl, rfl⟩, ⟨rfl, rfl⟩, trivial⟩⟩ rfl (by decide) (jN rfl T.z_range (ax aO a8 (aa 5) aj) (aa 3)) (fun _ _ _ _ _ => (au (i := 0) (show List.Nodup (["behind", "places", "one", "outlines", "gap"] : List Str) by decide +kernel) rfl (Or.inl rfl))) (fun _ _ _ _ _ => bW) (fun _ _ _ _ _ => (ax iu (fun _ => ic) (aD av aC (aa 1) (aa 0) (fun _ _ => rfl)) (aD av aC (aA Z4 (hr.mono (by decide)) rfl Y4.g Y4.F.kp Y4.b aR (ab (aa 2) (ab (aD av aC (aa 3) (aa 0) (fun _ _ => rfl)) (ab (aa 4) ai)))) aj (fun _ _ => rfl)))))
   (ao (qs 4 (aa 5) (bC (j6 _ rfl rfl) nI rfl T.z_min PyProof.Rows.boot_min (ab (aa 7) ai)))))))
   (ao (e9 4)))))
theorem kg {f : Addr} {fd : FuncData} (F : Fun K "moved_to_side" "moved_to_side" aV f fd) (T : Txt K mg) {A3 : Addr} {B3 : FuncData} (Y3 : Def K mg "reaches" cM ["tree"] A3 B3) (Z3 : FnOk P w K mg base CX0 1 A3 B3 ["tree"] (sp3 K mg cG)) : FnOk P w K mg base CX0 2 f fd ["tree", "places", "unit"] (sp3 K mg cK) := by
 refine dM (N := ["tree", "places", "unit", "least"]) (k := 1) (body := dF) rfl rfl rfl F g7 fun cdv A outer s H E hr => ?_
 unfold dF;exact (ah (az (i := 3) g7.nd rfl (Or.inr rfl) (bC (j6 _ rfl rfl) nI rfl T.z_min PyProof.Rows.boot_min (ab (b7 (sc := (ag aV)) (outs := [(2, "unit")]) (is := [0, 1]) ["place", "reach"] ⟨rfl, rfl, by decide +kernel, by decide +kernel, by decide +kernel, ⟨⟨rfl, rfl⟩, trivial⟩⟩ rfl (by decide) (kR rfl T.z_zip (aa 1) (aA Z3 (hr.mono (by decide)) rfl Y3.g Y3.F.kp Y3.b aR (ab (aa 0) ai))) (fun _ _ _ _ _ => (gT (n := 2) rfl (bc (au (i := 0) (show List.Nodup (["place", "reach", "unit"] : List Str) by decide +kernel) rfl (Or.inl rfl)) (bc (au (i := 1) (show List.Nodup (["place", "reach", "unit"] : List Str) by decide +kernel) rfl (Or.inl rfl)) fj)))) (fun _ _ _ _ _ => bW) (fun _ _ _ _ _ => (ax iu (fun _ => ic) (aa 0) (ax cY ed (aa 2) (aa 1))))) ai)))
   (ao (bD (b7 (sc := (ag aV)) (outs := [(3, "least")]) (is := [0]) ["place"] ⟨rfl, rfl, by decide +kernel, by decide +kernel, by decide +kernel, ⟨⟨rfl, rfl⟩, trivial⟩⟩ rfl (by decide) (bo (aa 1)) (fun _ _ _ _ _ => (au (i := 0) (show List.Nodup (["place", "least"] : List Str) by decide +kernel) rfl (Or.inl rfl))) (fun _ _ _ _ _ => bW) (fun _ _ _ _ _ => (ax iu (fun _ => ic) (aa 0) (aa 1)))))))
theorem nU {f : Addr} {fd : FuncData} (F : Fun K "label_row" "label_row" cg f fd) (T : Txt K mg) {A3 : Addr} {B3 : FuncData} (Y3 : Def K mg "reaches" cM ["tree"] A3 B3) (Z3 : FnOk P w K mg base CX0 1 A3 B3 ["tree"] (sp3 K mg cG)) {A6 : Addr} {B6 : FuncData} (Y6 : Def K mg "laid" gR ["parts"] A6 B6) (Z6 : FnOk P w K mg base CX0 1 A6 B6 ["parts"] (sp3 K mg fS)) : FnOk P w K mg base CX0 2 f fd ["tree", "columns", "level"] (sp3 K mg eO) := by
 refine dM (N := ["tree", "columns", "level", "reach"]) (k := 1) (body := fL) rfl rfl rfl F jQ fun cdv A outer s H E hr => ?_
 unfold fL;exact (ah (az (i := 3) jQ.nd rfl (Or.inr rfl) (bM (aA Z3 (hr.mono (by decide)) rfl Y3.g Y3.F.kp Y3.b aR (ab (aa 0) ai))))
   (ao (bD (aA Z6 (hr.mono (by decide)) rfl Y6.g Y6.F.kp Y6.b aR (ab (b7 (sc := (ag cg)) (outs := [(1, "columns"), (3, "reach"), (0, "tree")]) (is := [0]) ["node"] ⟨rfl, rfl, by decide +kernel, by decide +kernel, by decide +kernel, ⟨⟨rfl, rfl⟩, ⟨rfl, rfl⟩, ⟨rfl, rfl⟩, trivial⟩⟩ rfl (by decide) (bo (aa 2)) (fun _ _ _ _ _ => (au (i := 0) (show List.Nodup (["node", "columns", "reach", "tree"] : List Str) by decide +kernel) rfl (Or.inl rfl))) (fun _ _ _ _ _ => bW) (fun _ _ _ _ _ => (dN (ab (ax iu (fun _ => ic) (aD av aC (aa 1) (aa 0) (fun _ _ => rfl)) (aD av aC (aa 2) (aa 0) (fun _ _ => rfl))) (ab (aD av aC (aD av aC (aa 3) (aa 0) (fun _ _ => rfl)) aj (fun _ _ => rfl)) ai))))) ai)))))
theorem nY {f : Addr} {fd : FuncData} (F : Fun K "_law_tree" "_law_tree" cV f fd) (T : Txt K mg) {A8 : Addr} {B8 : FuncData} (Y8 : Def K mg "_law_cell" cn ["_law_script", "_law_k"] A8 B8) (Z8 : FnOk P w K mg base CX0 1 A8 B8 ["_law_script", "_law_k"] (sp3 K mg cB)) {A9 : Addr} {B9 : FuncData} (Y9 : Def K mg "_law_label" cu ["_law_number", "_law_most"] A9 B9) (Z9 : FnOk P w K mg base CX0 1 A9 B9 ["_law_number", "_law_most"] (sp3 K mg dh)) : FnOk P w K mg base CX0 2 f fd ["_law_script", "_law_start", "_law_many", "_law_most", "_law_deep"] (sp3 K mg eR) := by
 refine dM (N := ["_law_script", "_law_start", "_law_many", "_law_most", "_law_deep", "_law_tree_here", "_law_way", "_law_k", "_law_number", "_law_keep"]) (k := 1) (body := fN) rfl rfl rfl F bR fun cdv A outer s H E hr => ?_
 unfold fN;exact (ah (az (i := 5) bR.nd rfl (Or.inl rfl) (bQ ai))
   (ah (az (i := 6) bR.nd rfl (Or.inl rfl) (bM (bQ ai)))
   (ah (cF rfl PassesOwn.never (mw rfl T.z_range (aa 2)) (au (i := 7) bR.nd rfl (Or.inl rfl)) (ah (az (i := 8) bR.nd rfl (Or.inl rfl) (ax dq (fun _ => di) (ax cY ed (aA Z8 (hr.mono (by decide)) rfl Y8.g Y8.F.kp Y8.b aR (ab (aa 0) (ab (ax aO a8 (aa 1) (aa 7)) ai))) aj) aj))
   (ah (dY (a_ kS (fun _ => lD) (aa 7) aj (a9 _)) (ah (az (i := 9) bR.nd rfl (Or.inl rfl) (ax aO a8 aj (ax dq (fun _ => di) (aa 8) (bC aI bE rfl T.z_len PySem.boot_len (ab (aa 6) ai)))))
   (ah (dY (a_ (fG hr.units) iw (ax dq (fun _ => di) (ax cI (fun _ => dP) (aa 8) aj) aj) aj (a9 _)) (ao (az (i := 9) bR.nd rfl (Or.inl rfl) (bC aI bE rfl T.z_len PySem.boot_len (ab (aa 6) ai)))) b6)
   (ah (az (i := 6) bR.nd rfl (Or.inl rfl) (bM (x9 wz zR (aa 6) rD (qU (bC (sE rfl) (fun _ => xT) rfl T.z_min PyProof.Rows.boot_min (ab (aa 9) (ab (aa 4) ai)))))))
   (ao (dQ 5 (bM (dN (ab (aD av aC (aa 6) (g8 e7 (fun _ => eW) aj) (fun _ _ => rfl)) (ab (bM (aA Z9 (hr.mono (by decide)) rfl Y9.g Y9.F.kp Y9.b aR (ab (ax cI (fun _ => dP) (aa 8) aj) (ab (aa 3) ai)))) (ab (ax aO a8 aj (ax dq (fun _ => di) (ax cI (fun _ => dP) (aa 8) aj) aj)) ai)))))))))) (ao (dQ 5 (bM (dN (ab (g8 e7 (fun _ => eW) aj) (ab (bM (aA Z9 (hr.mono (by decide)) rfl Y9.g Y9.F.kp Y9.b aR (ab (ax cI (fun _ => dP) (aa 8) aj) (ab (aa 3) ai)))) (ab (ax aO a8 aj (ax dq (fun _ => di) (ax cI (fun _ => dP) (aa 8) aj) aj)) ai))))))))
   (ao (az (i := 6) bR.nd rfl (Or.inl rfl) (bM (ax aO a8 (aa 6) (bQ (ab (aa 7) ai)))))))))
   (ao (e9 5)))))
theorem pf {f : Addr} {fd : FuncData} (F : Fun K "_law_bar" "_law_bar" c8 f fd) (T : Txt K mg) {A12 : Addr} {B12 : FuncData} (Y12 : Def K mg "_law_below" bB ["_law_tree_here", "_law_node"] A12 B12) (Z12 : FnOk P w K mg base CX0 1 A12 B12 ["_law_tree_here", "_law_node"] (sp3 K mg bh)) : FnOk P w K mg base CX0 2 f fd ["_law_tree_here", "_law_node", "_law_columns"] (sp3 K mg eg) := by
 refine dM (N := ["_law_tree_here", "_law_node", "_law_columns", "_law_below_here", "_law_bar_here", "_law_at", "_law_sign"]) (k := 1) (body := gM) rfl rfl rfl F dA fun cdv A outer s H E hr => ?_
 unfold gM;exact (ah (f6 (i := 3) (sc := (ag c8)) (outs := [(2, "_law_columns")]) (is := [0]) ["_law_k"] (fun _ _ _ q => lj q) dA.nd rfl (Or.inl rfl) ⟨rfl, rfl, by decide +kernel, by decide +kernel, by decide +kernel, ⟨⟨rfl, rfl⟩, trivial⟩⟩ rfl (by decide) (bo (aA Z12 (hr.mono (by decide)) rfl Y12.g Y12.F.kp Y12.b aR (ab (aa 0) (ab (aa 1) ai)))) (fun _ _ _ _ _ => (au (i := 0) (show List.Nodup (["_law_k", "_law_columns"] : List Str) by decide +kernel) rfl (Or.inl rfl))) (fun _ _ _ _ _ => bW) (fun _ _ _ _ _ => (aD av aC (aa 1) (aa 0) (fun _ _ => rfl))))
   (ah (az (i := 4) dA.nd rfl (Or.inl rfl) b9)
   (ah (cF rfl PassesOwn.never (jN rfl T.z_range (aD av aC (aa 3) aj (fun _ _ => rfl)) (ax aO a8 (aD av aC (aa 3) (g8 e7 (fun _ => eW) aj) (fun _ _ => rfl)) aj)) (au (i := 5) dA.nd rfl (Or.inl rfl)) (ah (az (i := 6) dA.nd rfl (Or.inl rfl) (aD av aC (bQ (ab b9 (ab b9 ai))) (oK j7 (fun _ => nJ) rfl T.z_int qe (ab (nS iX n6 (aa 5) (aa 3) rfl) ai)) (fun _ _ => rfl)))
   (ah (dY (a_ (fG hr.units) iw (aa 5) (aD av aC (aa 2) (aa 1) (fun _ _ => rfl)) (a9 _)) (ao (az (i := 6) dA.nd rfl (Or.inl rfl) (aD av aC (bQ (ab b9 (ab b9 ai))) (oK j7 (fun _ => nJ) rfl T.z_int qe (ab (nS iX n6 (aa 5) (aa 3) rfl) ai)) (fun _ _ => rfl)))) b6)
   (ao (az (i := 4) dA.nd rfl (Or.inl rfl) (ax aO a8 (aa 4) (aa 6)))))))
   (ao (bD (dN (ab (aD av aC (aa 3) aj (fun _ _ => rfl)) (ab (aa 4) ai))))))))
theorem nG {f : Addr} {fd : FuncData} (F : Fun K "_law_tall" "_law_tall" cW f fd) (T : Txt K mg) {A12 : Addr} {B12 : FuncData} (Y12 : Def K mg "_law_below" bB ["_law_tree_here", "_law_node"] A12 B12) (Z12 : FnOk P w K mg base CX0 1 A12 B12 ["_law_tree_here", "_law_node"] (sp3 K mg bh)) : FnOk P w K mg base CX0 2 f fd ["_law_tree_here", "_law_level", "_law_columns", "_law_step"] (sp3 K mg eF) := by
 refine dM (N := ["_law_tree_here", "_law_level", "_law_columns", "_law_step", "_law_parts_here", "_law_node"]) (k := 1) (body := fQ) rfl rfl rfl F hZ fun cdv A outer s H E hr => ?_
 unfold fQ;exact (ah (az (i := 4) hZ.nd rfl (Or.inl rfl) (bQ ai))
   (ah (cF rfl PassesOwn.never (bo (aa 1)) (au (i := 5) hZ.nd rfl (Or.inl rfl)) (ao (dY (a_ ph (fun _ => oJ) (aa 3) (aD av aC (aD av aC (aa 0) (aa 5) (fun _ _ => rfl)) aj (fun _ _ => rfl)) (a9 _)) (ao (dQ 4 (dN (ab (aD av aC (aa 2) (aa 5) (fun _ _ => rfl)) (ab b9 ai))))) (ao (dY (a_ (iD hr.units) kj (aA Z12 (hr.mono (by decide)) rfl Y12.g Y12.F.kp Y12.b aR (ab (aa 0) (ab (aa 5) ai))) (bQ ai) (a9 _)) (ao (dQ 4 (dN (ab (aD av aC (aa 2) (aa 5) (fun _ _ => rfl)) (ab b9 ai))))) b6)))))
   (ao (e9 4))))
theorem qf {f : Addr} {fd : FuncData} (F : Fun K "room_of" "room_of" eA f fd) (T : Txt K mg) {A15 : Addr} {B15 : FuncData} (Y15 : Def K mg "earliest_places" aQ ["outlines", "gap"] A15 B15) (Z15 : FnOk P w K mg base CX0 2 A15 B15 ["outlines", "gap"] (sp3 K mg bY)) {A16 : Addr} {B16 : FuncData} (Y16 : Def K mg "latest_places" bj ["outlines", "gap", "last"] A16 B16) (Z16 : FnOk P w K mg base CX0 2 A16 B16 ["outlines", "gap", "last"] (sp3 K mg cO)) : FnOk P w K mg base CX0 3 f fd ["outlines", "gap"] (sp3 K mg gr) := by
 refine dM (N := ["outlines", "gap", "earliest"]) (k := 2) (body := ik) rfl rfl rfl F kO fun cdv A outer s H E hr => ?_
 unfold ik;exact (ah (az (i := 2) kO.nd rfl (Or.inl rfl) (bM (aA Z15 (hr.mono (by decide)) rfl Y15.g Y15.F.kp Y15.b aR (ab (aa 0) (ab (aa 1) ai)))))
   (ao (bD (dN (ab (aa 2) (ab (bM (aA Z16 (hr.mono (by decide)) rfl Y16.g Y16.F.kp Y16.b aR (ab (aa 0) (ab (aa 1) (ab (aD av aC (aa 2) (g8 e7 (fun _ => eW) aj) (fun _ _ => rfl)) ai))))) ai))))))
theorem lO {f : Addr} {fd : FuncData} (F : Fun K "sign_below" "sign_below" cz f fd) (T : Txt K mg) {A13 : Addr} {B13 : FuncData} (Y13 : Def K mg "children_of" aU ["tree", "node"] A13 B13) (Z13 : FnOk P w K mg base CX0 2 A13 B13 ["tree", "node"] (sp3 K mg aM)) : FnOk P w K mg base CX0 3 f fd ["tree", "node", "number"] (sp3 K mg d5) := by
 refine dM (N := ["tree", "node", "number"]) (k := 2) (body := fk) rfl rfl rfl F lU fun cdv A outer s H E hr => ?_
 unfold fk;exact (ah (dY (a_ ph (fun _ => oJ) (aa 2) (aD av aC (aD av aC (aa 0) (aa 1) (fun _ _ => rfl)) aj (fun _ _ => rfl)) (a9 _)) (ao (bD b9)) b6)
   (ao (bD (qJ (a_ kS (fun _ => lD) (bC aI bE rfl T.z_len PySem.boot_len (ab (aA Z13 (hr.mono (by decide)) rfl Y13.g Y13.F.kp Y13.b aR (ab (aa 0) (ab (aa 1) ai))) ai)) aj (a9 _)) b9 b9))))
theorem qg {f : Addr} {fd : FuncData} (F : Fun K "bar_row" "bar_row" dJ f fd) (T : Txt K mg) {A13 : Addr} {B13 : FuncData} (Y13 : Def K mg "children_of" aU ["tree", "node"] A13 B13) (Z13 : FnOk P w K mg base CX0 2 A13 B13 ["tree", "node"] (sp3 K mg aM)) {A6 : Addr} {B6 : FuncData} (Y6 : Def K mg "laid" gR ["parts"] A6 B6) (Z6 : FnOk P w K mg base CX0 1 A6 B6 ["parts"] (sp3 K mg fS)) {A7 : Addr} {B7 : FuncData} (Y7 : Def K mg "bar_signs" cT ["own", "below"] A7 B7) (Z7 : FnOk P w K mg base CX0 1 A7 B7 ["own", "below"] (sp3 K mg eK)) : FnOk P w K mg base CX0 3 f fd ["tree", "columns", "elders"] (sp3 K mg gq) := by
 refine dM (N := ["tree", "columns", "elders", "parts", "elder", "below"]) (k := 2) (body := hR) rfl rfl rfl F ia fun cdv A outer s H E hr => ?_
 unfold hR;exact (ah (az (i := 3) ia.nd rfl (Or.inl rfl) (bQ ai))
   (ah (cF rfl PassesOwn.never (bo (aa 2)) (au (i := 4) ia.nd rfl (Or.inl rfl)) (ah (f6 (i := 5) (sc := (ag dJ)) (outs := [(1, "columns")]) (is := [0]) ["child"] (fun _ _ _ q => lj q) ia.nd rfl (Or.inl rfl) ⟨rfl, rfl, by decide +kernel, by decide +kernel, by decide +kernel, ⟨⟨rfl, rfl⟩, trivial⟩⟩ rfl (by decide) (bo (aA Z13 (hr.mono (by decide)) rfl Y13.g Y13.F.kp Y13.b aR (ab (aa 0) (ab (aa 4) ai)))) (fun _ _ _ _ _ => (au (i := 0) (show List.Nodup (["child", "columns"] : List Str) by decide +kernel) rfl (Or.inl rfl))) (fun _ _ _ _ _ => bW) (fun _ _ _ _ _ => (aD av aC (aa 1) (aa 0) (fun _ _ => rfl))))
   (ao (dQ 3 (bM (dN (ab (aD av aC (aa 5) aj (fun _ _ => rfl)) (ab (bM (aA Z7 (hr.mono (by decide)) rfl Y7.g Y7.F.kp Y7.b aR (ab (aD av aC (aa 1) (aa 4) (fun _ _ => rfl)) (ab (aa 5) ai)))) ai))))))))
   (ao (lg 3 (bD (aA Z6 (hr.mono (by decide)) rfl Y6.g Y6.F.kp Y6.b aR (ab (aa 3) ai)))))))
theorem pG {f : Addr} {fd : FuncData} (F : Fun K "_law_due" "_law_due" bX f fd) (T : Txt K mg) {A11 : Addr} {B11 : FuncData} (Y11 : Def K mg "_law_levels" bG ["_law_tree_here"] A11 B11) (Z11 : FnOk P w K mg base CX0 1 A11 B11 ["_law_tree_here"] (sp3 K mg b5)) {A12 : Addr} {B12 : FuncData} (Y12 : Def K mg "_law_below" bB ["_law_tree_here", "_law_node"] A12 B12) (Z12 : FnOk P w K mg base CX0 1 A12 B12 ["_law_tree_here", "_law_node"] (sp3 K mg bh)) {A20 : Addr} {B20 : FuncData} (Y20 : Def K mg "_law_bar" c8 ["_law_tree_here", "_law_node", "_law_columns"] A20 B20) (Z20 : FnOk P w K mg base CX0 2 A20 B20 ["_law_tree_here", "_law_node", "_law_columns"] (sp3 K mg eg)) {A21 : Addr} {B21 : FuncData} (Y21 : Def K mg "_law_tall" cW ["_law_tree_here", "_law_level", "_law_columns", "_law_step"] A21 B21) (Z21 : FnOk P w K mg base CX0 2 A21 B21 ["_law_tree_here", "_law_level", "_law_columns", "_law_step"] (sp3 K mg eF)) : FnOk P w K mg base CX0 3 f fd ["_law_tree_here", "_law_columns"] (sp3 K mg fB) := by
 refine dM (N := ["_law_tree_here", "_law_columns", "_law_rows", "_law_level", "_law_step", "_law_bars"]) (k := 2) (body := gQ) rfl rfl rfl F fv fun cdv A outer s H E hr => ?_
 unfold gQ;exact (ah (az (i := 2) fv.nd rfl (Or.inl rfl) (bQ ai))
   (ah (cF rfl PassesOwn.never (bo (aA Z11 (hr.mono (by decide)) rfl Y11.g Y11.F.kp Y11.b aR (ab (aa 0) ai))) (au (i := 3) fv.nd rfl (Or.inl rfl)) (ah (dQ 2 (bM (b7 (sc := (ag bX)) (outs := [(1, "_law_columns"), (0, "_law_tree_here")]) (is := [0]) ["_law_node"] ⟨rfl, rfl, by decide +kernel, by decide +kernel, by decide +kernel, ⟨⟨rfl, rfl⟩, ⟨rfl, rfl⟩, trivial⟩⟩ rfl (by decide) (bo (aa 3)) (fun _ _ _ _ _ => (au (i := 0) (show List.Nodup (["_law_node", "_law_columns", "_law_tree_here"] : List Str) by decide +kernel) rfl (Or.inl rfl))) (fun _ _ _ _ _ => bW) (fun _ _ _ _ _ => (dN (ab (ax iu (fun _ => ic) (aD av aC (aa 1) (aa 0) (fun _ _ => rfl)) (ax cI (fun _ => dP) (bC aI bE rfl T.z_len PySem.boot_len (ab (aD av aC (aD av aC (aa 2) (aa 0) (fun _ _ => rfl)) aj (fun _ _ => rfl)) ai)) aj)) (ab (aD av aC (aD av aC (aa 2) (aa 0) (fun _ _ => rfl)) aj (fun _ _ => rfl)) ai)))))))
   (ah (cF rfl PassesOwn.never (jN rfl T.z_range aj (bC (eZ _ rfl rfl) h_ rfl T.z_max PyProof.Rows.boot_max (ab (b7 (sc := (ag bX)) (outs := [(0, "_law_tree_here")]) (is := [0]) ["_law_node"] ⟨rfl, rfl, by decide +kernel, by decide +kernel, by decide +kernel, ⟨⟨rfl, rfl⟩, trivial⟩⟩ rfl (by decide) (bo (aa 3)) (fun _ _ _ _ _ => (au (i := 0) (show List.Nodup (["_law_node", "_law_tree_here"] : List Str) by decide +kernel) rfl (Or.inl rfl))) (fun _ _ _ _ _ => bW) (fun _ _ _ _ _ => (aD av aC (aD av aC (aa 1) (aa 0) (fun _ _ => rfl)) aj (fun _ _ => rfl)))) ai))) (au (i := 4) fv.nd rfl (Or.inl rfl)) (ao (dQ 2 (bM (aA Z21 (hr.mono (by decide)) rfl Y21.g Y21.F.kp Y21.b aR (ab (aa 0) (ab (aa 3) (ab (aa 1) (ab (aa 4) ai)))))))))
   (ah (f6 (i := 5) (sc := (ag bX)) (outs := [(0, "_law_tree_here"), (1, "_law_columns")]) (is := [0]) ["_law_node"] (fun _ _ _ q => lj q) fv.nd rfl (Or.inl rfl) ⟨rfl, rfl, by decide +kernel, by decide +kernel, by decide +kernel, ⟨⟨rfl, rfl⟩, ⟨rfl, rfl⟩, trivial⟩⟩ rfl (by decide) (bo (aa 3)) (fun _ _ _ _ _ => (au (i := 0) (show List.Nodup (["_law_node", "_law_tree_here", "_law_columns"] : List Str) by decide +kernel) rfl (Or.inl rfl))) (fun _ _ _ _ _ => (j3 (a_ (iD hr.units) kj (aA Z12 (hr.mono (by decide)) rfl Y12.g Y12.F.kp Y12.b aR (ab (aa 1) (ab (aa 0) ai))) (bQ ai) (a9 _)))) (fun _ _ _ _ _ => (bM (aA Z20 (hr.mono (by decide)) rfl Y20.g Y20.F.kp Y20.b aR (ab (aa 1) (ab (aa 0) (ab (aa 2) ai)))))))
   (ao (dY (a_ (iD hr.units) kj (aa 5) (bQ ai) (a9 _)) (ao (dQ 2 (aa 5))) b6))))))
   (ao (e9 2))))
theorem kv {f : Addr} {fd : FuncData} (F : Fun K "stands_below" "stands_below" bw f fd) (T : Txt K mg) {A22 : Addr} {B22 : FuncData} (Y22 : Def K mg "room_of" eA ["outlines", "gap"] A22 B22) (Z22 : FnOk P w K mg base CX0 3 A22 B22 ["outlines", "gap"] (sp3 K mg gr)) : FnOk P w K mg base CX0 4 f fd ["outlines", "gap"] (sp3 K mg aW) := by
 refine dM (N := ["outlines", "gap", "room", "elder"]) (k := 3) (body := d8) rfl rfl rfl F fI fun cdv A outer s H E hr => ?_
 unfold d8;exact (ah (az (i := 2) fI.nd rfl (Or.inl rfl) (bM (aA Z22 (hr.mono (by decide)) rfl Y22.g Y22.F.kp Y22.b aR (ab (aa 0) (ab (aa 1) ai)))))
   (ah (az (i := 3) fI.nd rfl (Or.inr rfl) (ax cI (fun _ => dP) (aD av aC (aD av aC (aa 2) aj (fun _ _ => rfl)) (g8 e7 (fun _ => eW) aj) (fun _ _ => rfl)) aj))
   (ao (bD (b7 (sc := (ag bw)) (outs := [(3, "elder")]) (is := [0, 1]) ["earliest", "latest"] ⟨rfl, rfl, by decide +kernel, by decide +kernel, by decide +kernel, ⟨⟨rfl, rfl⟩, trivial⟩⟩ rfl (by decide) (kR rfl T.z_zip (aD av aC (aa 2) aj (fun _ _ => rfl)) (aD av aC (aa 2) aj (fun _ _ => rfl))) (fun _ _ _ _ _ => (gT (n := 2) rfl (bc (au (i := 0) (show List.Nodup (["earliest", "latest", "elder"] : List Str) by decide +kernel) rfl (Or.inl rfl)) (bc (au (i := 1) (show List.Nodup (["earliest", "latest", "elder"] : List Str) by decide +kernel) rfl (Or.inl rfl)) fj)))) (fun _ _ _ _ _ => bW) (fun _ _ _ _ _ => (ax iu (fun _ => ic) (ax cI (fun _ => dP) (ax aO a8 (aa 0) (aa 1)) aj) (aa 2))))))))
theorem lI {f : Addr} {fd : FuncData} (F : Fun K "rows_below" "rows_below" bF f fd) (T : Txt K mg) {A6 : Addr} {B6 : FuncData} (Y6 : Def K mg "laid" gR ["parts"] A6 B6) (Z6 : FnOk P w K mg base CX0 1 A6 B6 ["parts"] (sp3 K mg fS)) {A23 : Addr} {B23 : FuncData} (Y23 : Def K mg "sign_below" cz ["tree", "node", "number"] A23 B23) (Z23 : FnOk P w K mg base CX0 3 A23 B23 ["tree", "node", "number"] (sp3 K mg d5)) : FnOk P w K mg base CX0 4 f fd ["tree", "columns", "level"] (sp3 K mg d7) := by
 refine dM (N := ["tree", "columns", "level", "tallest"]) (k := 3) (body := ft) rfl rfl rfl F jd fun cdv A outer s H E hr => ?_
 unfold ft;exact (ah (az (i := 3) jd.nd rfl (Or.inl rfl) (bC (eZ _ rfl rfl) h_ rfl T.z_max PyProof.Rows.boot_max (ab (b7 (sc := (ag bF)) (outs := [(0, "tree")]) (is := [0]) ["node"] ⟨rfl, rfl, by decide +kernel, by decide +kernel, by decide +kernel, ⟨⟨rfl, rfl⟩, trivial⟩⟩ rfl (by decide) (bo (aa 2)) (fun _ _ _ _ _ => (au (i := 0) (show List.Nodup (["node", "tree"] : List Str) by decide +kernel) rfl (Or.inl rfl))) (fun _ _ _ _ _ => bW) (fun _ _ _ _ _ => (aD av aC (aD av aC (aa 1) (aa 0) (fun _ _ => rfl)) aj (fun _ _ => rfl)))) ai)))
   (ao (bD (pQ (sc := (ag bF)) (outs := [(2, "level"), (1, "columns"), (0, "tree")]) (is := [0]) ["number"] ⟨rfl, rfl, by decide +kernel, by decide +kernel, by decide +kernel, by decide +kernel, ⟨⟨rfl, rfl⟩, ⟨rfl, rfl⟩, ⟨rfl, rfl⟩, trivial⟩⟩ rfl (by decide) (jN rfl T.z_range aj (aa 3)) (fun _ _ _ _ _ => (au (i := 0) (show List.Nodup (["number", "level", "columns", "tree"] : List Str) by decide +kernel) rfl (Or.inr rfl))) (fun _ _ _ _ _ => bW) (fun _ _ _ _ _ => (bM (aA Z6 (hr.mono (by decide)) rfl Y6.g Y6.F.kp Y6.b aR (ab (b7 (sc := _) (outs := [(2, "columns"), (3, "tree"), (0, "number")]) (is := [0]) ["node"] (ua rfl (by decide +kernel) (by decide +kernel) (by decide +kernel) (show iq _ _ [(2, "columns"), (3, "tree"), (0, "number")] from ⟨⟨rfl, rfl⟩, ⟨rfl, rfl⟩, ⟨rfl, rfl⟩, trivial⟩)) rfl (by decide) (bo (aa 1)) (fun _ _ _ _ _ => (au (i := 0) (show List.Nodup (["node", "columns", "tree", "number"] : List Str) by decide +kernel) rfl (Or.inl rfl))) (fun _ _ _ _ _ => bW) (fun _ _ _ _ _ => (bM (dN (ab (aD av aC (aa 1) (aa 0) (fun _ _ => rfl)) (ab (bM (aA Z23 (hr.mono (by decide)) rfl Y23.g Y23.F.kp Y23.b aR (ab (aa 2) (ab (aa 0) (ab (aa 3) ai))))) ai)))))) ai))))))))
theorem rY {f : Addr} {fd : FuncData} (F : Fun K "pieces" "pieces" dX f fd) (T : Txt K mg) {A13 : Addr} {B13 : FuncData} (Y13 : Def K mg "children_of" aU ["tree", "node"] A13 B13) (Z13 : FnOk P w K mg base CX0 2 A13 B13 ["tree", "node"] (sp3 K mg aM)) {A3 : Addr} {B3 : FuncData} (Y3 : Def K mg "reaches" cM ["tree"] A3 B3) (Z3 : FnOk P w K mg base CX0 1 A3 B3 ["tree"] (sp3 K mg cG)) {A26 : Addr} {B26 : FuncData} (Y26 : Def K mg "stands_below" bw ["outlines", "gap"] A26 B26) (Z26 : FnOk P w K mg base CX0 4 A26 B26 ["outlines", "gap"] (sp3 K mg aW)) {A5 : Addr} {B5 : FuncData} (Y5 : Def K mg "joined_outline" aL ["outlines", "stands"] A5 B5) (Z5 : FnOk P w K mg base CX0 1 A5 B5 ["outlines", "stands"] (sp3 K mg bz)) : FnOk P w K mg base CX0 5 f fd ["tree", "gap"] (sp3 K mg g5) := by
 refine dM (N := ["tree", "gap", "offsets", "outlines", "node", "children", "below", "stands", "child", "stand"]) (k := 4) (body := iY) rfl rfl rfl F dE fun cdv A outer s H E hr => ?_
 unfold iY;exact (ah (az (i := 2) dE.nd rfl (Or.inl rfl) (ax cY ed (bQ (ab aj ai)) (bC aI bE rfl T.z_len PySem.boot_len (ab (aa 0) ai))))
   (ah (az (i := 3) dE.nd rfl (Or.inr rfl) (b7 (sc := (ag dX)) (outs := []) (is := [0]) ["reach"] ⟨rfl, rfl, by decide +kernel, by decide +kernel, by decide +kernel, trivial⟩ rfl (by decide) (bo (aA Z3 (hr.mono (by decide)) rfl Y3.g Y3.F.kp Y3.b aR (ab (aa 0) ai))) (fun _ _ _ _ _ => (au (i := 0) (show List.Nodup (["reach"] : List Str) by decide +kernel) rfl (Or.inl rfl))) (fun _ _ _ _ _ => bW) (fun _ _ _ _ _ => (bQ (ab (bM (dN (ab (ax cY ed (g8 e7 (fun _ => eW) (iF rfl T.c_SHREDS)) (aa 0)) (ab (ax cY ed (iF rfl T.c_SHREDS) (aa 0)) ai)))) ai)))))
   (ah (cF rfl PassesOwn.never (x5 rfl T.z_range (ax iu (fun _ => ic) (bC aI bE rfl T.z_len PySem.boot_len (ab (aa 0) ai)) aj) (g8 e7 (fun _ => eW) aj) (g8 e7 (fun _ => eW) aj)) (au (i := 4) dE.nd rfl (Or.inl rfl)) (ah (az (i := 5) dE.nd rfl (Or.inl rfl) (bM (aA Z13 (hr.mono (by decide)) rfl Y13.g Y13.F.kp Y13.b aR (ab (aa 0) (ab (aa 4) ai)))))
   (ao (dY (a_ kS (fun _ => lD) (bC aI bE rfl T.z_len PySem.boot_len (ab (aa 5) ai)) aj (a9 _)) (ah (xp 3 5 (Bj (sc := (ag dX)) (i := 3) (c := 5) (bi := 6) ⟨rfl, rfl, by decide +kernel, by decide +kernel, by decide +kernel, ⟨⟨rfl, rfl⟩, trivial⟩⟩ dE.nd rfl (Or.inl rfl) rfl rfl (by first | exact Or.inl rfl | exact Or.inr (Or.inl rfl) | exact Or.inr (Or.inr rfl)) (fun _ _ _ _ _ => qM (show List.Nodup (["child", "outlines"] : List Str) by decide +kernel) rfl (Or.inl rfl)) (fun _ _ _ _ _ hK => qX (lh _ hK) (fJ rfl (by first | exact Or.inl rfl | exact Or.inr (Or.inl rfl) | exact Or.inr (Or.inr rfl))) (fJ rfl (by first | exact Or.inl rfl | exact Or.inr (Or.inl rfl) | exact Or.inr (Or.inr rfl))) (fun _ _ => rfl))))
   (ah (az (i := 7) dE.nd rfl (Or.inl rfl) (bM (aA Z26 (hr.mono (by decide)) rfl Y26.g Y26.F.kp Y26.b aR (ab (aa 6) (ab (aa 1) ai)))))
   (ah (cF rfl PassesOwn.never (kR rfl T.z_zip (aa 5) (aa 7)) (gT (n := 2) rfl (bc (au (i := 8) dE.nd rfl (Or.inl rfl)) (bc (au (i := 9) dE.nd rfl (Or.inl rfl)) fj))) (ao (qs 2 (aa 8) (aa 9))))
   (ao (uA 3 (aa 4) (aA Z5 (hr.mono (by decide)) rfl Y5.g Y5.F.kp Y5.b aR (ab (aa 6) (ab (aa 7) ai))) (fun _ _ => rfl)))))) b6))))
   (ao (lg 3 (lg 2 (bD (dN (ab (aa 2) (ab (aa 3) ai))))))))))
theorem tX {f : Addr} {fd : FuncData} (F : Fun K "drawn" "drawn" fW f fd) (T : Txt K mg) {A17 : Addr} {B17 : FuncData} (Y17 : Def K mg "moved_to_side" aV ["tree", "places", "unit"] A17 B17) (Z17 : FnOk P w K mg base CX0 2 A17 B17 ["tree", "places", "unit"] (sp3 K mg cK)) {A28 : Addr} {B28 : FuncData} (Y28 : Def K mg "pieces" dX ["tree", "gap"] A28 B28) (Z28 : FnOk P w K mg base CX0 5 A28 B28 ["tree", "gap"] (sp3 K mg g5)) : FnOk P w K mg base CX0 6 f fd ["tree", "gap"] (sp3 K mg eN) := by
 refine dM (N := ["tree", "gap", "offsets", "places", "node"]) (k := 5) (body := jE) rfl rfl rfl F jO fun cdv A outer s H E hr => ?_
 unfold jE;exact (ah (az (i := 2) jO.nd rfl (Or.inl rfl) (aD av aC (aA Z28 (hr.mono (by decide)) rfl Y28.g Y28.F.kp Y28.b aR (ab (aa 0) (ab (aa 1) ai))) aj (fun _ _ => rfl)))
   (ah (az (i := 3) jO.nd rfl (Or.inl rfl) (bQ (ab aj ai)))
   (ah (cF rfl PassesOwn.never (jN rfl T.z_range aj (bC aI bE rfl T.z_len PySem.boot_len (ab (aa 0) ai))) (au (i := 4) jO.nd rfl (Or.inl rfl)) (ao (dQ 3 (qd (ax aO a8 (aD av aC (aa 3) (aD av aC (aD av aC (aa 0) (aa 4) (fun _ _ => rfl)) aj (fun _ _ => rfl)) (fun _ _ => rfl)) (aD av aC (aa 2) (aa 4) (fun _ _ => rfl)))))))
   (ao (lg 3 (bD (aA Z17 (hr.mono (by decide)) rfl Y17.g Y17.F.kp Y17.b aR (ab (aa 0) (ab (aa 3) (ab (iF rfl T.c_SHREDS) ai))))))))))
theorem lQ {f : Addr} {fd : FuncData} (F : Fun K "columns_of" "columns_of" bO f fd) (T : Txt K mg) {A29 : Addr} {B29 : FuncData} (Y29 : Def K mg "drawn" fW ["tree", "gap"] A29 B29) (Z29 : FnOk P w K mg base CX0 6 A29 B29 ["tree", "gap"] (sp3 K mg eN)) : FnOk P w K mg base CX0 7 f fd ["tree", "gap"] (sp3 K mg dZ) := by
 refine dM (N := ["tree", "gap"]) (k := 6) (body := fq) rfl rfl rfl F lL fun cdv A outer s H E hr => ?_
 unfold fq;exact (ao (bD (b7 (sc := (ag bO)) (outs := []) (is := [0]) ["place"] ⟨rfl, rfl, by decide +kernel, by decide +kernel, by decide +kernel, trivial⟩ rfl (by decide) (bo (aA Z29 (hr.mono (by decide)) rfl Y29.g Y29.F.kp Y29.b aR (ab (aa 0) (ab (aa 1) ai)))) (fun _ _ _ _ _ => (au (i := 0) (show List.Nodup (["place"] : List Str) by decide +kernel) rfl (Or.inl rfl))) (fun _ _ _ _ _ => bW) (fun _ _ _ _ _ => (ax cI (fun _ => dP) (aa 0) (iF rfl T.c_SHREDS))))))
theorem p9 {f : Addr} {fd : FuncData} (F : Fun K "picture" "picture" df f fd) (T : Txt K mg) {A13 : Addr} {B13 : FuncData} (Y13 : Def K mg "children_of" aU ["tree", "node"] A13 B13) (Z13 : FnOk P w K mg base CX0 2 A13 B13 ["tree", "node"] (sp3 K mg aM)) {A14 : Addr} {B14 : FuncData} (Y14 : Def K mg "levels_of" cU ["tree"] A14 B14) (Z14 : FnOk P w K mg base CX0 2 A14 B14 ["tree"] (sp3 K mg eH)) {A30 : Addr} {B30 : FuncData} (Y30 : Def K mg "columns_of" bO ["tree", "gap"] A30 B30) (Z30 : FnOk P w K mg base CX0 7 A30 B30 ["tree", "gap"] (sp3 K mg dZ)) {A18 : Addr} {B18 : FuncData} (Y18 : Def K mg "label_row" cg ["tree", "columns", "level"] A18 B18) (Z18 : FnOk P w K mg base CX0 2 A18 B18 ["tree", "columns", "level"] (sp3 K mg eO)) {A27 : Addr} {B27 : FuncData} (Y27 : Def K mg "rows_below" bF ["tree", "columns", "level"] A27 B27) (Z27 : FnOk P w K mg base CX0 4 A27 B27 ["tree", "columns", "level"] (sp3 K mg d7)) {A24 : Addr} {B24 : FuncData} (Y24 : Def K mg "bar_row" dJ ["tree", "columns", "elders"] A24 B24) (Z24 : FnOk P w K mg base CX0 3 A24 B24 ["tree", "columns", "elders"] (sp3 K mg gq)) : FnOk P w K mg base CX0 8 f fd ["tree", "gap"] (sp3 K mg dw) := by
 refine dM (N := ["tree", "gap", "columns", "rows", "level", "elders"]) (k := 7) (body := ig) rfl rfl rfl F gx fun cdv A outer s H E hr => ?_
 unfold ig;exact (ah (az (i := 2) gx.nd rfl (Or.inl rfl) (bM (aA Z30 (hr.mono (by decide)) rfl Y30.g Y30.F.kp Y30.b aR (ab (aa 0) (ab (aa 1) ai)))))
   (ah (az (i := 3) gx.nd rfl (Or.inl rfl) (bQ ai))
   (ah (cF rfl PassesOwn.never (bo (aA Z14 (hr.mono (by decide)) rfl Y14.g Y14.F.kp Y14.b aR (ab (aa 0) ai))) (au (i := 4) gx.nd rfl (Or.inl rfl)) (ah (dQ 3 (bM (aA Z18 (hr.mono (by decide)) rfl Y18.g Y18.F.kp Y18.b aR (ab (aa 0) (ab (aa 2) (ab (aa 4) ai))))))
   (ah (Br 3 (aA Z27 (hr.mono (by decide)) rfl Y27.g Y27.F.kp Y27.b aR (ab (aa 0) (ab (aa 2) (ab (aa 4) ai)))))
   (ah (f6 (i := 5) (sc := (ag df)) (outs := [(0, "tree")]) (is := [0]) ["node"] (fun _ _ _ q => lj q) gx.nd rfl (Or.inl rfl) ⟨rfl, rfl, by decide +kernel, by decide +kernel, by decide +kernel, ⟨⟨rfl, rfl⟩, trivial⟩⟩ rfl (by decide) (bo (aa 4)) (fun _ _ _ _ _ => (au (i := 0) (show List.Nodup (["node", "tree"] : List Str) by decide +kernel) rfl (Or.inl rfl))) (fun _ _ _ _ _ => (j3 (a_ kS (fun _ => lD) (bC aI bE rfl T.z_len PySem.boot_len (ab (aA Z13 (hr.mono (by decide)) rfl Y13.g Y13.F.kp Y13.b aR (ab (aa 1) (ab (aa 0) ai))) ai)) aj (a9 _)))) (fun _ _ _ _ _ => (aa 0)))
   (ao (dY (a_ kS (fun _ => lD) (bC aI bE rfl T.z_len PySem.boot_len (ab (aa 5) ai)) aj (a9 _)) (ao (dQ 3 (bM (aA Z24 (hr.mono (by decide)) rfl Y24.g Y24.F.kp Y24.b aR (ab (aa 0) (ab (aa 2) (ab (aa 5) ai))))))) b6))))))
   (ao (e9 3)))))
theorem mR {f : Addr} {fd : FuncData} (F : Fun K "_law_good" "_law_good" cx f fd) (T : Txt K mg) {A29 : Addr} {B29 : FuncData} (Y29 : Def K mg "drawn" fW ["tree", "gap"] A29 B29) (Z29 : FnOk P w K mg base CX0 6 A29 B29 ["tree", "gap"] (sp3 K mg eN)) {A31 : Addr} {B31 : FuncData} (Y31 : Def K mg "picture" df ["tree", "gap"] A31 B31) (Z31 : FnOk P w K mg base CX0 8 A31 B31 ["tree", "gap"] (sp3 K mg dw)) {A10 : Addr} {B10 : FuncData} (Y10 : Def K mg "_law_parts" cw ["_law_text"] A10 B10) (Z10 : FnOk P w K mg base CX0 1 A10 B10 ["_law_text"] (sp3 K mg dW)) {A25 : Addr} {B25 : FuncData} (Y25 : Def K mg "_law_due" bX ["_law_tree_here", "_law_columns"] A25 B25) (Z25 : FnOk P w K mg base CX0 3 A25 B25 ["_law_tree_here", "_law_columns"] (sp3 K mg fB)) : FnOk P w K mg base CX0 9 f fd ["_law_tree_here", "_law_gap"] (sp3 K mg dI) := by
 refine dM (N := ["_law_tree_here", "_law_gap", "_law_handed", "_law_found", "_law_due_here", "_law_text", "_law_parts_here"]) (k := 8) (body := fP) rfl rfl rfl F dH fun cdv A outer s H E hr => ?_
 unfold fP;exact (ah (az (i := 2) dH.nd rfl (Or.inl rfl) (bM (oK (md _ rfl) u0 rfl T.z_list n9 (ab (aa 0) ai))))
   (ah (az (i := 3) dH.nd rfl (Or.inl rfl) (bM (aA Z31 (hr.mono (by decide)) rfl Y31.g Y31.F.kp Y31.b aR (ab (aa 2) (ab (aa 1) ai)))))
   (ah (az (i := 4) dH.nd rfl (Or.inl rfl) (bM (aA Z25 (hr.mono (by decide)) rfl Y25.g Y25.F.kp Y25.b aR (ab (aa 0) (ab (b7 (sc := (ag cx)) (outs := []) (is := [0]) ["_law_place"] ⟨rfl, rfl, by decide +kernel, by decide +kernel, by decide +kernel, trivial⟩ rfl (by decide) (bo (aA Z29 (hr.mono (by decide)) rfl Y29.g Y29.F.kp Y29.b aR (ab (aa 0) (ab (aa 1) ai)))) (fun _ _ _ _ _ => (au (i := 0) (show List.Nodup (["_law_place"] : List Str) by decide +kernel) rfl (Or.inl rfl))) (fun _ _ _ _ _ => bW) (fun _ _ _ _ _ => (ax cI (fun _ => dP) (aa 0) aj))) ai)))))
   (ah (dY (xh (l5 (nz (ni (uY rfl T.z_isinstance rfl T.z_list n9 (aa 3)))) (l5 (a_ (iD hr.units) kj (bC aI bE rfl T.z_len PySem.boot_len (ab (aa 3) ai)) (bC aI bE rfl T.z_len PySem.boot_len (ab (aa 4) ai)) (a9 _)) (nH (a_ (iD hr.units) kj (aa 2) (aa 0) (a9 _)))))) (ao (bD pC)) b6)
   (ah (cF rfl PassesOwn.never (kR rfl T.z_zip (aa 3) (aa 4)) (gT (n := 2) rfl (bc (au (i := 5) dH.nd rfl (Or.inl rfl)) (bc (au (i := 6) dH.nd rfl (Or.inl rfl)) fj))) (ao (dY (xh (l5 (nz (ni (uY rfl T.z_isinstance rfl T.z_str Av (aa 5)))) (l5 (a_ (fG hr.units) iw (x9 zJ zK (aa 5) (qU (g8 e7 (fun _ => eW) aj)) rD) b9 (a9 _)) (nH (a_ (iD hr.units) kj (aA Z10 (hr.mono (by decide)) rfl Y10.g Y10.F.kp Y10.b aR (ab (aa 5) ai)) (aa 6) (a9 _)))))) (ao (bD pC)) b6)))
   (ao (bD pC)))))))
theorem Ao {f : Addr} {fd : FuncData} (F : Fun K "law" "law" i_ f fd) (T : Txt K mg) {A31 : Addr} {B31 : FuncData} (Y31 : Def K mg "picture" df ["tree", "gap"] A31 B31) (Z31 : FnOk P w K mg base CX0 8 A31 B31 ["tree", "gap"] (sp3 K mg dw)) {A8 : Addr} {B8 : FuncData} (Y8 : Def K mg "_law_cell" cn ["_law_script", "_law_k"] A8 B8) (Z8 : FnOk P w K mg base CX0 1 A8 B8 ["_law_script", "_law_k"] (sp3 K mg cB)) {A19 : Addr} {B19 : FuncData} (Y19 : Def K mg "_law_tree" cV ["_law_script", "_law_start", "_law_many", "_law_most", "_law_deep"] A19 B19) (Z19 : FnOk P w K mg base CX0 2 A19 B19 ["_law_script", "_law_start", "_law_many", "_law_most", "_law_deep"] (sp3 K mg eR)) {A32 : Addr} {B32 : FuncData} (Y32 : Def K mg "_law_good" cx ["_law_tree_here", "_law_gap"] A32 B32) (Z32 : FnOk P w K mg base CX0 9 A32 B32 ["_law_tree_here", "_law_gap"] (sp3 K mg dI)) : FnOk P w K mg base CX0 10 f fd ["_law_script"] (sp3 K mg lr) := by
 refine dM (N := ["_law_script", "_law_cell_here", "_law_many", "_law_tree_here", "_law_number", "_law_most", "_law_gap", "_law_held", "_law_kept"]) (k := 9) (body := mS) rfl rfl rfl F gF fun cdv A outer s H E hr => ?_
 unfold mS;exact (ah (az (i := 1) gF.nd rfl (Or.inl rfl) (bM (aA Z8 (hr.mono (by decide)) rfl Y8.g Y8.F.kp Y8.b aR (ab (aa 0) (ab aj ai)))))
   (ah (az (i := 2) gF.nd rfl (Or.inl rfl) (ax aO a8 aj (ax dq (fun _ => di) (aa 1) aj)))
   (ah (dY (a_ (fG hr.units) iw (ax dq (fun _ => di) (ax cI (fun _ => dP) (aa 1) aj) aj) aj (a9 _)) (ao (az (i := 2) gF.nd rfl (Or.inl rfl) (ax aO a8 aj (ax dq (fun _ => di) (ax cI (fun _ => dP) (aa 1) aj) aj)))) b6)
   (ah (az (i := 3) gF.nd rfl (Or.inl rfl) (bM (aA Z19 (hr.mono (by decide)) rfl Y19.g Y19.F.kp Y19.b aR (ab (aa 0) (ab aj (ab (aa 2) (ab aj (ab aj ai))))))))
   (ah (az (i := 4) gF.nd rfl (Or.inl rfl) (ax dq (fun _ => di) (ax cY ed (aA Z8 (hr.mono (by decide)) rfl Y8.g Y8.F.kp Y8.b aR (ab (aa 0) (ab aj ai))) aj) aj))
   (ah (dY (a_ (fG hr.units) iw (ax dq (fun _ => di) (ax cI (fun _ => dP) (aa 4) aj) aj) aj (a9 _)) (ao (f6 (i := 3) (sc := (ag i_)) (outs := []) (is := [0, 1, 2]) ["_law_elder", "_law_label_here", "_law_tall_here"] (fun _ _ _ q => lj q) gF.nd rfl (Or.inl rfl) ⟨rfl, rfl, by decide +kernel, by decide +kernel, by decide +kernel, trivial⟩ rfl (by decide) (bo (aa 3)) (fun _ _ _ _ _ => (gT (n := 3) rfl (bc (au (i := 0) (show List.Nodup (["_law_elder", "_law_label_here", "_law_tall_here"] : List Str) by decide +kernel) rfl (Or.inl rfl)) (bc (au (i := 1) (show List.Nodup (["_law_elder", "_law_label_here", "_law_tall_here"] : List Str) by decide +kernel) rfl (Or.inl rfl)) (bc (au (i := 2) (show List.Nodup (["_law_elder", "_law_label_here", "_law_tall_here"] : List Str) by decide +kernel) rfl (Or.inl rfl)) fj))))) (fun _ _ _ _ _ => bW) (fun _ _ _ _ _ => (bM (dN (ab (aa 0) (ab (aa 1) (ab (ax aO a8 aj (ax dq (fun _ => di) (aa 2) aj)) ai)))))))) b6)
   (ah (az (i := 5) gF.nd rfl (Or.inl rfl) (aD av aC (bQ (ab aj (ab aj ai))) (oK j7 (fun _ => nJ) rfl T.z_int qe (ab (nS kS (fun _ => lD) (aa 2) aj (a9 _)) ai)) (fun _ _ => rfl)))
   (ah (az (i := 6) gF.nd rfl (Or.inl rfl) (ax aO a8 aj (ax dq (fun _ => di) (aa 4) (aa 5))))
   (ah (dY (nz (ni (aA Z32 (hr.mono (by decide)) rfl Y32.g Y32.F.kp Y32.b aR (ab (aa 3) (ab (aa 6) ai))))) (ao (bD pC)) b6)
   (ah (az (i := 7) gF.nd rfl (Or.inl rfl) (aA Z31 (hr.mono (by decide)) rfl Y31.g Y31.F.kp Y31.b aR (ab (aa 3) (ab (aa 6) ai))))
   (ah (az (i := 8) gF.nd rfl (Or.inl rfl) (bM (wO (oK (md _ rfl) u0 rfl T.z_list n9 (ab (aa 7) ai)))))
   (ah (dY (u9 (xh (l5 (nz (ni (aA Z32 (hr.mono (by decide)) rfl Y32.g Y32.F.kp Y32.b aR (ab (aa 3) (ab (ax aO a8 aj (ax dq (fun _ => di) (ax cI (fun _ => dP) (aa 4) aj) (aa 5))) ai))))) (nH (a_ (iD hr.units) kj (aa 7) (aa 8) (a9 _)))))) (ao (bD pC)) b6)
   (ah (AY 7)
   (ao (bD (nS (fG hr.units) iw (aA Z31 (hr.mono (by decide)) rfl Y31.g Y31.F.kp Y31.b aR (ab (aa 3) (ab (aa 6) ai))) (aa 8) (a9 _)))))))))))))))))
end
theorem hI {a b : Str} (h : a.cps.toList = b.cps.toList) : a = b := by
 cases a with | mk x => cases b with | mk y => exact congrArg Str.mk (Array.toList_inj.mp h)
theorem AS {p q : List Nat} {g : Nat → Bool} (h1 : ∀ c ∈ p, g c = true) (h2 : ∀ c, q.head? = some c → g c = false) : (p ++ q).takeWhile g = p := by
 rw [List.takeWhile_append_of_pos h1];cases q with
 | nil => simp
 | cons c r =>
  rw [List.takeWhile_cons, h2 c rfl];simp
theorem wH {p q : Str} {g : Nat → Bool} (h1 : ∀ c ∈ q.cps.toList, g c = true) (h2 : ∀ c, p.cps.toList.reverse.head? = some c → g c = false) : Txt.stripBy g false true (p ++ q) = p := by
 have hx : (p ++ q).cps.toList = p.cps.toList ++ q.cps.toList := gO p q;have lo : stripLo g false (p ++ q) = 0 := rfl;have hi : stripHi g true (p ++ q) 0 = p.length := by
  unfold stripHi;rw [if_pos rfl, List.drop_zero, hx, List.reverse_append, AS (fun c hc => h1 c (List.mem_reverse.mp hc)) h2, List.length_reverse, Str.length_append, bP p, bP q]
  lia
 have sub : stripped g false true (p ++ q) = p := by
  unfold stripped;rw [lo, hi];apply hI
  show ((p ++ q).cps.extract 0 p.length).toList = _
  rw [Array.toList_extract, hx, List.extract_eq_drop_take, List.drop_zero, Nat.sub_zero, bP p, List.take_left]
 unfold Txt.stripBy;split
 ·rename_i hs
  unfold stripSame at hs;rw [Bool.and_eq_true, lo, hi, beq_iff_eq, beq_iff_eq, Str.length_append] at hs;have hq : q.cps.toList = [] := List.eq_nil_of_length_eq_zero (by rw [← bP]; lia)
  apply hI
  rw [hx, hq, List.append_nil]
 ·exact sub
noncomputable def spL : List Nat → List (List Nat)
 | [] => [[]]
 | x :: r => if x = 32 then [] :: spL r else match spL r with
  | w :: ws => (x :: w) :: ws
  | [] => [[x]]
theorem vd (t : List Nat) : spL t ≠ [] := by
 cases t with
 | nil => intro h; cases h
 | cons x r =>
  unfold spL;split
  ·intro h; cases h
  ·split
   ·intro h; cases h
   ·intro h; cases h
theorem kI : ∀ w : List Nat, 32 ∉ w → spL w = [w] := by
 intro w
 induction w with
 | nil => intro _; rfl
 | cons x r ih =>
  intro h;unfold spL;rw [if_neg fun e => h (by rw [e]; exact List.mem_cons_self), ih fun m => h (List.mem_cons_of_mem _ m)]
theorem iT (t : List Nat) : spL (32 :: t) = [] :: spL t := by
 show (if 32 = 32 then [] :: spL t else _) = _
 rw [if_pos rfl]
theorem oZ {x : Nat} (h : ¬ x = 32) (r : List Nat) : spL (x :: r) = (match spL r with
  | w :: ws => (x :: w) :: ws
  | [] => [[x]]) := by
 show (if x = 32 then [] :: spL r else _) = _
 rw [if_neg h]
theorem nu : ∀ u v : List Nat, spL (u ++ 32 :: v) = spL u ++ spL v := by
 intro u
 induction u with
 | nil => intro v; exact iT v
 | cons x r ih =>
  intro v;show spL (x :: (r ++ 32 :: v)) = _
  by_cases hx : x = 32
  ·subst hx
   rw [iT, iT, ih v];rfl
  ·rw [oZ hx, oZ hx, ih v]
   cases e : spL r with
   | nil => exact absurd e (vd r)
   | cons w ws => rfl
theorem qy (k : Nat) (t : List Nat) : spL (List.replicate k 32 ++ t) = List.replicate k [] ++ spL t := by
 induction k with
 | zero => rfl
 | succ k ih => rw [List.replicate_succ, List.cons_append, iT, ih, List.replicate_succ, List.cons_append]
theorem qu (t : List Nat) (k : Nat) : spL (t ++ List.replicate k 32) = spL t ++ List.replicate k [] := by
 induction k generalizing t with
 | zero => rw [List.replicate_zero, List.append_nil, List.replicate_zero, List.append_nil]
 | succ k ih =>
  rw [List.replicate_succ, nu];congr 1
  have := ih [];rw [List.nil_append] at this;rw [this, List.replicate_succ];rfl
theorem vY : ∀ L : List Str, L ≠ [] → (∀ p ∈ L, 32 ∉ p.cps.toList) → spL (Str.join ⟨#[32]⟩ L).cps.toList = L.map fun p => p.cps.toList := by
 intro L
 induction L with
 | nil => intro h; exact absurd rfl h
 | cons a L ih =>
  intro _ h;cases L with
  | nil =>
   show spL a.cps.toList = [a.cps.toList]
   exact kI _ (h a List.mem_cons_self)
  | cons b L =>
   have e : Str.join ⟨#[32]⟩ (a :: b :: L) = a ++ ⟨#[32]⟩ ++ Str.join ⟨#[32]⟩ (b :: L) := rfl;rw [e, gO, gO, List.append_assoc];show spL (a.cps.toList ++ 32 :: (Str.join ⟨#[32]⟩ (b :: L)).cps.toList) = _
   rw [nu, kI _ (h a List.mem_cons_self), ih (List.cons_ne_nil _ _) fun p hp => h p (List.mem_cons_of_mem _ hp)]
   rfl
theorem tL (x : Str) : (Txt.split x ⟨#[32]⟩).map (fun p => p.cps.toList) = spL x.cps.toList := by
 have h := vY (Txt.split x ⟨#[32]⟩) (fun z => by
  have := PyProof.Rows.split_pos x ⟨#[32]⟩;rw [z] at this;exact absurd this (by decide)) (StrLaws.split_free x 32)
 rw [StrLaws.join_split] at h;exact h.symm
noncomputable abbrev Pt := Nat × Str
noncomputable def ptD (x : Pt) : PyData := .tuple [.int (x.1 : Int), .str x.2]
noncomputable def cs (s : Str) : List Nat := s.cps.toList
noncomputable def paL : List (List Nat) → Nat → List (Nat × List Nat)
 | [], _ => []
 | w :: ws, b => (if w = [] then [] else [(b, w)]) ++ paL ws (b + w.length + 1)
noncomputable def paS : List Str → Nat → List Pt
 | [], _ => []
 | w :: ws, b => (if w.length = 0 then [] else [(b, w)]) ++ paS ws (b + w.length + 1)
theorem BB : ∀ (ws : List Str) (b : Nat), (paS ws b).map (fun x => (x.1, cs x.2)) = paL (ws.map cs) b := by
 intro ws
 induction ws with
 | nil => intro b; rfl
 | cons w ws ih =>
  intro b;rw [paS, List.map_cons, paL, List.map_append, ih];have hl : w.length = (cs w).length := bP w;rw [hl];congr 1
  by_cases h : cs w = []
  ·rw [if_pos h, if_pos (by rw [h]; rfl)]
   rfl
  ·rw [if_neg h, if_neg fun z => h (List.eq_nil_of_length_eq_zero z)]
   rfl
theorem pK (k b : Nat) : paL (List.replicate k []) b = [] := by
 induction k generalizing b with
 | zero => rfl
 | succ k ih => rw [List.replicate_succ, paL, ih]; rfl
theorem nq : ∀ (X Y : List (List Nat)) (b : Nat), paL (X ++ Y) b = paL X b ++ paL Y (b + (X.map fun w => w.length + 1).sum) := by
 intro X
 induction X with
 | nil => intro Y b; rfl
 | cons w X ih =>
  intro Y b;rw [List.cons_append, paL, paL, ih, List.map_cons, List.sum_cons, List.append_assoc];congr 3
  lia
theorem p_ (k b : Nat) (Y : List (List Nat)) : paL (List.replicate k [] ++ Y) b = paL Y (b + k) := by
 rw [nq, pK, List.nil_append, List.map_replicate, List.sum_replicate_nat];congr 1
 simp
noncomputable def laL : Nat → List Pt → List Nat
 | _, [] => []
 | n, (c, w) :: r => List.replicate (c - n) 32 ++ (cs w ++ laL (c + (cs w).length) r)
noncomputable def okW (w : Str) : Prop := (cs w ≠ [] ∧ 32 ∉ cs w) ∨ cs w = [32]
noncomputable def goP : Nat → List Pt → Prop
 | _, [] => True
 | n, (c, w) :: r => n ≤ c ∧ okW w ∧ goP (c + (cs w).length + 1) r
noncomputable def nbP (x : Pt) : Bool := !decide (cs x.2 = [32])
theorem tR {m : Nat} : ∀ {r : List Pt}, r ≠ [] → goP (m + 1) r → laL m r = 32 :: laL (m + 1) r := by
 intro r hr h;cases r with
 | nil => exact absurd rfl hr
 | cons x r =>
  obtain ⟨c, w⟩ := x;have h1 := h.1;rw [laL, laL, show c - m = (c - (m + 1)) + 1 by lia, List.replicate_succ]
  rfl
theorem tP : ∀ (r : List Pt) (n : Nat), goP n r → paL (spL (laL n r)) n = (r.filter nbP).map fun x => (x.1, cs x.2) := by
 intro r
 induction r with
 | nil => intro n _; rfl
 | cons x r ih =>
  intro n h;obtain ⟨c, w⟩ := x;obtain ⟨h1, h2, h3⟩ := h;rw [laL, qy, p_, show n + (c - n) = c by lia]
  have tail : ∀ v : List Nat, (v = cs w) → paL (spL (v ++ laL (c + (cs w).length) r)) c = paL (spL v) c ++ (r.filter nbP).map fun x => (x.1, cs x.2) := fun v hv => by
   cases r with
   | nil =>
    rw [laL, List.append_nil];simp
   | cons y r =>
    rw [tR (List.cons_ne_nil _ _) h3, nu, nq, ← ih (c + (cs w).length + 1) h3];congr 2
    have sl : ∀ t : List Nat, ((spL t).map fun w => w.length + 1).sum = t.length + 1 := by
     intro t
     induction t with
     | nil => rfl
     | cons x t iht =>
      unfold spL;split
      ·rw [List.map_cons, List.sum_cons, iht, List.length_cons, List.length_nil]
       lia
      ·cases e : spL t with
       | nil => exact absurd e (vd t)
       | cons w ws =>
        rw [e, List.map_cons, List.sum_cons] at iht
        dsimp only
        rw [List.map_cons, List.sum_cons, List.length_cons, List.length_cons]
        lia
    rw [sl, hv]
    lia
  rw [tail (cs w) rfl];rcases h2 with ⟨w1, w2⟩ | w1
  ·rw [kI _ w2, List.filter_cons]
   have : nbP (c, w) = true := by
    unfold nbP;rw [Bool.not_eq_true', decide_eq_false_iff_not];exact fun e => w2 (by rw [e]; exact List.mem_cons_self)
   rw [if_pos this, List.map_cons, paL, if_neg w1];rfl
  ·rw [w1, List.filter_cons]
   have : nbP (c, w) = false := by
    unfold nbP;rw [Bool.not_eq_false', decide_eq_true_eq];exact w1
   rw [if_neg (by rw [this]; exact Bool.false_ne_true)]
   rfl
theorem p6 (t : List Nat) : ∃ u k, t = u ++ List.replicate k 32 ∧ ∀ c, u.reverse.head? = some c → c ≠ 32 := by
 have go : ∀ r : List Nat, ∃ u k, r.reverse = u ++ List.replicate k 32 ∧ ∀ c, u.reverse.head? = some c → c ≠ 32 := by
  intro r
  induction r with
  | nil => exact ⟨[], 0, rfl, fun c h => by cases h⟩
  | cons x r ih =>
   by_cases hx : x = 32
   ·obtain ⟨u, k, e, h⟩ := ih
    refine ⟨u, k + 1, ?_, h⟩;rw [List.reverse_cons, e, hx, List.append_assoc, List.replicate_succ']
   ·refine ⟨(x :: r).reverse, 0, by rw [List.replicate_zero, List.append_nil], fun c h => ?_⟩
    rw [List.reverse_reverse] at h;cases h;exact hx
 have := go t.reverse;rw [List.reverse_reverse] at this;exact this
noncomputable def sS (t : List Nat) : Str := ⟨t.toArray⟩
theorem eD (t : List Nat) : cs (sS t) = t := by simp [cs, sS]
noncomputable def blk : Str := Str.ofString " "
theorem qC : blk = ⟨#[32]⟩ := by decide +kernel
theorem sU (t : List Nat) : ∃ u : List Nat, Txt.rstripChars (sS t) blk = sS u ∧ (∀ c, u.reverse.head? = some c → c ≠ 32) ∧ (∀ b, paL (spL u) b = paL (spL t) b) ∧ u.length ≤ t.length ∧ ∀ c ∈ u, c ∈ t := by
 obtain ⟨u, k, e, h⟩ := p6 t;refine ⟨u, ?_, h, fun b => ?_, by rw [e, List.length_append]; lia, fun c hc => by rw [e]; exact List.mem_append_left _ hc⟩
 ·have es : sS t = sS u ++ sS (List.replicate k 32) := by
   apply hI
   rw [gO];show cs (sS t) = cs (sS u) ++ cs (sS (List.replicate k 32))
   rw [eD, eD, eD, e]
  rw [es];unfold Txt.rstripChars;refine wH (fun c hc => ?_) fun c hc => ?_
  ·have hc : c ∈ cs (sS (List.replicate k 32)) := hc
   rw [eD] at hc;have := (List.mem_replicate.mp hc).2;rw [qC, this];decide +kernel
  ·have hc : (cs (sS u)).reverse.head? = some c := hc
   rw [eD] at hc;have := h c hc;rw [qC, ← Bool.not_eq_true, Array.contains_iff_mem];simp
   exact this
 ·rw [e, qu, nq, pK, List.append_nil]
theorem wU {gap : Int} {O : List Ol} {es ls st : List Int} (h : IsSt gap O es ls st) {p q : Nat} (hpq : p < q) (hq : q < O.length) : gv st p + dO gap O p q ≤ gv st q := by
 have e := (h.isE.2 q (by lia) hq).1 p hpq
 have l := (h.isL.2 p (by lia)).1 q hpq hq
 rw [h.eq p (by lia), h.eq q hq]
 lia
theorem wd {gap : Int} {a b : Ol} {l : Nat} {p q : Int × Int} (h1 : a[l]? = some p) (h2 : b[l]? = some q) : p.2 + 256 * (gap + 1) - q.1 ≤ dist gap a b := by
 rw [rH];have hg := w9 (gap := gap) h1 h2;have hm := List.mem_of_getElem? hg;exact (f_ (fun z => by rw [z] at hm; cases hm)).2 _ hm
theorem sub_lt {ts : List Nd} {c : F} (p : PT ts c) {j a b x y l m : Nat} (ha : a ∈ chN ts j) (hb : b ∈ chN ts j) (hab : a < b) (hx : Dn ts a l x) (hy : Dn ts b m y) : x < y := by
 have he := cJ p;obtain ⟨a1, a2⟩ := bq.mp ha;obtain ⟨b1, b2⟩ := bq.mp hb;have ja := (fu he ha).1;obtain ⟨s, q0, q1, q2, q4⟩ := xn p a1;have hx' := vg he q4 (Nat.le_refl a) (by lia) hx
 have hy' := (mh he b1 hy).2.1;have : ¬ b ≤ a + s := fun z => by
  have := q2 b hab z;rw [b2] at this
  lia
 lia
theorem tZ {ts : List Nd} {c : F} (p : PT ts c) (gap : Int) (hl : ts.length ≤ 100) : ∀ (L j x y : Nat), j < ts.length → Dn ts j L x → Dn ts j L y → x < y → pos ts gap x + 256 * (gv (bJ ts) x + gv (bJ ts) y + gap + 1) ≤ pos ts gap y
 | 0, j, x, y, _, hx, hy, hxy => by
  have hx : x = j := hx;have hy : y = j := hy
  lia
 | L + 1, j, x, y, hj, ⟨a, ha, hx⟩, ⟨b, hb, hy⟩, hxy => by
  have he := cJ p;have h0 := F.Pf.pos p;by_cases hab : a = b
  ·subst hab
   exact tZ p gap hl L a x y (bq.mp ha).1 hx hy hxy
  ·have lt : a < b := by
    rcases Nat.lt_or_ge a b with z | z
    ·exact z
    ·have := sub_lt p hb ha (by lia) hy hx
     lia
   obtain ⟨u, hu, eu⟩ := List.getElem_of_mem ha;obtain ⟨v, hv, ev⟩ := List.getElem_of_mem hb;have gu : (chN ts j)[u]? = some a := by rw [List.getElem?_eq_getElem hu, eu]
   have gw : (chN ts j)[v]? = some b := by rw [List.getElem?_eq_getElem hv, ev]
   have uv : u < v := by
    rcases Nat.lt_trichotomy u v with z | z | z
    ·exact z
    ·subst z
     rw [eu] at ev;exact absurd ev hab
    ·have := List.pairwise_iff_getElem.mp (vF ts j) v u hv hu z
     rw [eu, ev] at this
     lia
   have hc : chN ts j ≠ [] := fun z => by rw [z] at ha; cases ha
   have hO := nc gap he h0 hl hc;obtain ⟨⟨es, ls, hst⟩, _⟩ := nC (gap := gap) hO;have ol : ((chN ts j).map (outF ts gap)).length = (chN ts j).length := List.length_map _;have k1 := wU hst uv (by lia)
   have a1 := (bq.mp ha).1;have b1 := (bq.mp hb).1;have oa := kB gap he h0 hl (ts.length - a) a (by lia) a1
   have ob := kB gap he h0 hl (ts.length - b) b (by lia) b1
   have la : L < (outF ts gap a).length := (oa.len L).mpr ⟨x, hx⟩;have lb : L < (outF ts gap b).length := (ob.len L).mpr ⟨y, hy⟩;have ga : (outF ts gap a)[L]? = some (outF ts gap a)[L] := List.getElem?_eq_getElem la;have gb : (outF ts gap b)[L]? = some (outF ts gap b)[L] := List.getElem?_eq_getElem lb;have ha2 := (oa.hi L _ ga).2 x hx;have hb2 := (ob.lo L _ gb).2 y hy;have dd : dO gap ((chN ts j).map (outF ts gap)) u v = dist gap (outF ts gap a) (outF ts gap b) := by
    unfold dO;rw [List.getElem?_map, List.getElem?_map, gu, gw];rfl
   have dg := wd (gap := gap) ga gb;rw [dd] at k1;have pa := gc gap he h0 hl hj gu;have pb := gc gap he h0 hl hj gw
   lia
theorem nN {ts : List Nd} (he : EL ts) (h0 : 0 < ts.length) {k : Nat} (hk : k < ts.length) : Dn ts 0 (lvN ts k) k := by
 obtain ⟨l, hd⟩ := vL he (j := 0) (s := ts.length - 1) (by lia) (fun q h1 h2 => by
  obtain ⟨n, hn⟩ : ∃ n, ts[q]? = some n := ⟨ts[q]'(by lia), by simp⟩
  rw [dn hn];exact (he q n hn).2.1 h1) k (by lia) (by lia)
 have := (mh he h0 hd).1;rw [vv he h0, Nat.zero_add] at this;rw [this];exact hd
theorem lZ {ts : List Nd} {c : F} (p : PT ts c) (gap : Int) (hl : ts.length ≤ 100) {x y : Nat} (hx : x < ts.length) (hy : y < ts.length) (hxy : x < y) (e : lvN ts x = lvN ts y) : pos ts gap x + 256 * (gv (bJ ts) x + gv (bJ ts) y + gap + 1) ≤ pos ts gap y := by
 have he := cJ p;have h0 := F.Pf.pos p;have dx := nN he h0 hx;have dy := nN he h0 hy;rw [← e] at dy;exact tZ p gap hl _ 0 x y h0 dx dy hxy
theorem Bv {ts : List Nd} {j a : Nat} (h : a ∈ chN ts j) : ∃ i, i < (chN ts j).length ∧ (chN ts j)[i]? = some a := by
 obtain ⟨u, hu, eu⟩ := List.getElem_of_mem h;exact ⟨u, hu, by rw [List.getElem?_eq_getElem hu, eu]⟩
theorem wC {ts : List Nd} {c : F} (p : PT ts c) (gap : Int) (hg : 0 ≤ gap) (hl : ts.length ≤ 100) {j : Nat} (hj : j < ts.length) (hc : chN ts j ≠ []) :
  ∃ es ls, IsSt gap ((chN ts j).map (outF ts gap)) es ls (stF gap ((chN ts j).map (outF ts gap))) ∧ 0 ≤ gv es ((chN ts j).length - 1) ∧
   ∀ i, i < (chN ts j).length → -gv es ((chN ts j).length - 1) ≤ gv (stF gap ((chN ts j).map (outF ts gap))) i ∧ gv (stF gap ((chN ts j).map (outF ts gap))) i ≤ gv es ((chN ts j).length - 1) := by
 have he := cJ p;have h0 := F.Pf.pos p;have hO := nc gap he h0 hl hc;obtain ⟨⟨es, ls, hst⟩, _⟩ := nC (gap := gap) hO;have ol : ((chN ts j).map (outF ts gap)).length = (chN ts j).length := List.length_map _;have n0 : 0 < (chN ts j).length := List.length_pos_iff.mpr hc;have z1 : gv es 0 = 0 := hst.isE.1;have z2 : gv ls 0 = 0 := vC (by lia) hst.isE hst.isL rfl
 have z3 : gv ls ((chN ts j).length - 1) = gv es ((chN ts j).length - 1) := by
  have := hst.isL.1;rw [ol] at this;exact this
 have e0 := hst.eq 0 (by lia)
 have e1 := hst.eq ((chN ts j).length - 1) (by lia)
 rw [ol] at e0 e1;rw [z1, z2] at e0;rw [z3] at e1;have rise : ∀ u v, u < v → v < (chN ts j).length → gv (stF gap ((chN ts j).map (outF ts gap))) u ≤ gv (stF gap ((chN ts j).map (outF ts gap))) v := by
  intro u v huv hv;have gu : (chN ts j)[u]? = some (chN ts j)[u] := List.getElem?_eq_getElem (by lia)
  have gw : (chN ts j)[v]? = some (chN ts j)[v] := List.getElem?_eq_getElem hv;have mu : (chN ts j)[u] ∈ chN ts j := List.getElem_mem _;have mv : (chN ts j)[v] ∈ chN ts j := List.getElem_mem _;have lt := List.pairwise_iff_getElem.mp (vF ts j) u v (by lia) hv huv
  have g := lZ p gap hl (bq.mp mu).1 (bq.mp mv).1 lt (by rw [cf he mu, cf he mv])
  have pa := gc gap he h0 hl hj gu;have pb := gc gap he h0 hl hj gw;have r1 : 0 ≤ gv (bJ ts) (chN ts j)[u] := by
   rw [qS (qF (bq.mp mu).1)]
   lia
  have r2 : 0 ≤ gv (bJ ts) (chN ts j)[v] := by
   rw [qS (qF (bq.mp mv).1)]
   lia
  lia
 have E0 : 0 ≤ gv es ((chN ts j).length - 1) := by
  rcases Nat.lt_or_ge 1 (chN ts j).length with z | z
  ·have := rise 0 ((chN ts j).length - 1) (by lia) (by lia)
   lia
  ·have e : (chN ts j).length - 1 = 0 := by lia
   rw [e, z1]
   lia
 refine ⟨es, ls, hst, E0, fun i hi => ?_⟩
 have a1 : gv (stF gap ((chN ts j).map (outF ts gap))) 0 ≤ gv (stF gap ((chN ts j).map (outF ts gap))) i := by
  rcases Nat.eq_zero_or_pos i with z | z
  ·rw [z]
   lia
  ·exact rise 0 i z hi
 have a2 : gv (stF gap ((chN ts j).map (outF ts gap))) i ≤ gv (stF gap ((chN ts j).map (outF ts gap))) ((chN ts j).length - 1) := by
  rcases Nat.lt_or_ge i ((chN ts j).length - 1) with z | z
  ·exact rise i _ z (by lia)
  ·have e : i = (chN ts j).length - 1 := by lia
   rw [e]
   lia
 lia
theorem xF {ch : Nat → List Nat} : ∀ f g : F, F.Con ch f → F.Con ch g → F.roots f = F.roots g → f = g := by
 intro f
 induction f with
 | nil =>
  intro g _ _ h;cases g with
  | nil => rfl
  | cons k c r => cases h
 | cons k c r ih1 ih2 =>
  intro g hf hg h;cases g with
  | nil => cases h
  | cons k' c' r' =>
   have h' : k :: F.roots r = k' :: F.roots r' := h;obtain ⟨e1, e2⟩ := List.cons.inj h';subst e1;obtain ⟨a1, a2, a3⟩ := hf;obtain ⟨b1, b2, b3⟩ := hg;rw [ih1 c' a2 b2 (a1.symm.trans b1), ih2 r' a3 b3 e2]
theorem kM {ts : List Nd} {c : F} (p : PT ts c) {j : Nat} (hj : j < ts.length) {f : F} (hc : F.Con (chN ts) f) (hr : chN ts j = F.roots f) : (jq ts j).length = (F.pre f).length + 1 := by
 obtain ⟨r, hrr⟩ : ∃ n, ts[j]? = some n := ⟨ts[j]'(by lia), by simp⟩
 obtain ⟨cj, s, q1, q2, q3, q4, q5, q6⟩ := F.jK (e := eOf ts) (F.full c) 0 ts.length (-1) (by rw [p.preF, List.range_eq_range']) p.eldF p.con (by decide) j (by lia) (by lia)
 rw [Nat.zero_add] at q3 q4;have ge := F.ql cj (j : Int) q2 (fun k m => by rw [q1, List.mem_range'_1] at m; lia)
 have at1 : ∀ k, (ts.drop (j + 1))[k]? = ts[j + 1 + k]? := fun k => List.getElem?_drop
 have hl : ((ts.drop (j + 1)).takeWhile (inB j)).length = s := qo _ _ s (by rw [List.length_drop]; lia) (fun k hk x hx => by
  rw [at1] at hx;have := ge (j + 1 + k) (by rw [q1, List.mem_range'_1]; lia)
  rw [dn hx] at this;exact decide_eq_true this) (fun x hx => by
  rw [at1] at hx;have hlt := (List.getElem?_eq_some_iff.mp hx).1;have := q4 hlt;rw [dn hx] at this;exact decide_eq_false (by lia))
 have hb : jq ts j = ⟨-1, r.l, r.t⟩ :: ((ts.drop (j + 1)).takeWhile (inB j)).map (vk j) := by unfold jq; rw [hrr]
 have e : f = cj := xF f cj hc q5 (hr.symm.trans q6);rw [hb, List.length_cons, List.length_map, hl, e, q1, List.length_range']
noncomputable def szB (ts : List Nd) (a : Nat) : Nat := (jq ts a).length
theorem tf {ts : List Nd} {c0 : F} (p : PT ts c0) : ∀ f : F, F.Con (chN ts) f → (∀ k ∈ F.pre f, k < ts.length) → ((F.roots f).map (szB ts)).sum = (F.pre f).length := by
 intro f
 induction f with
 | nil => intro _ _; rfl
 | cons k c r _ ih2 =>
  intro h hk;obtain ⟨h1, h2, h3⟩ := h;rw [F.pre] at hk;rw [F.roots, F.pre, List.map_cons, List.sum_cons, List.length_cons, List.length_append, ih2 h3 fun q m => hk q (List.mem_cons_of_mem _ (List.mem_append_right _ m))]
  have := kM p (hk k List.mem_cons_self) h2 h1;unfold szB
  lia
theorem yW {ts : List Nd} {c : F} (p : PT ts c) {j : Nat} (hj : j < ts.length) : ((chN ts j).map (szB ts)).sum + 1 = szB ts j := by
 obtain ⟨cj, s, q1, q2, q3, q4, q5, q6⟩ := F.jK (e := eOf ts) (F.full c) 0 ts.length (-1) (by rw [p.preF, List.range_eq_range']) p.eldF p.con (by decide) j (by lia) (by lia)
 rw [Nat.zero_add] at q3;have hb := kM p hj q5 q6;have q6' : chN ts j = F.roots cj := q6;rw [q6', tf p cj q5 fun k m => by rw [q1, List.mem_range'_1] at m; lia]
 exact hb.symm
noncomputable def ke (D : Nat → Int) : Nat → Int
 | 0 => 0
 | n + 1 => ke D n + D n
theorem se {D : Nat → Int} (hD : ∀ i, 0 ≤ D i) : ∀ {a b : Nat}, a ≤ b → ke D a ≤ ke D b := by
 intro a b h
 induction b with
 | zero =>
  have : a = 0 := by lia
  subst this;exact Int.le_refl _
 | succ b ih =>
  by_cases e : a = b + 1
  ·subst e; exact Int.le_refl _
  ·have := ih (by lia)
   have := hD b;show ke D a ≤ ke D b + D b
   lia
theorem uJ {n : Nat} {d : Nat → Nat → Int} {e : Nat → Int} {D : Nat → Int} (h : IsE n d e) (hD : ∀ i, 0 ≤ D i) (hd : ∀ j k, j < k → k < n → d j k ≤ D j + D k) : ∀ k, k < n → e k ≤ 2 * ke D k + D k := by
 intro k
 induction k using Nat.strongRecOn with
 | ind k ih =>
  intro hk;rcases Nat.eq_zero_or_pos k with z | z
  ·subst z
   rw [h.1];have := hD 0;show 0 ≤ 2 * 0 + D 0
   lia
  ·obtain ⟨j, hj, ej⟩ := (h.2 k z hk).2
   have i1 := ih j hj (by lia)
   have i2 := hd j k hj hk;have i3 := se hD (show j + 1 ≤ k by lia)
   have i4 : ke D (j + 1) = ke D j + D j := rfl
   lia
noncomputable def Mq : Nat → Int
 | 0 => 0
 | n + 1 => 3 * Mq n + 7424
theorem pZ : ∀ n, 0 ≤ Mq n
 | 0 => by decide
 | n + 1 => by
  have := pZ n;show 0 ≤ 3 * Mq n + 7424
  lia
theorem sum_list {B : Int} (f : Nat → Nat) (L : List Nat) : ke (fun i => B * ((f (L[i]?.getD 0) : Nat) : Int) + 3712) L.length = B * (((L.map f).sum : Nat) : Int) + 3712 * (L.length : Int) := by
 have go : ∀ m, m ≤ L.length → ke (fun i => B * ((f (L[i]?.getD 0) : Nat) : Int) + 3712) m = B * ((((L.take m).map f).sum : Nat) : Int) + 3712 * (m : Int) := by
  intro m
  induction m with
  | zero => intro _; rw [List.take_zero]; show (0 : Int) = B * 0 + 3712 * 0; lia
  | succ m ih =>
   intro hm;have e : L[m]? = some (L[m]'(by lia)) := List.getElem?_eq_getElem _
   show ke _ m + (B * ((f (L[m]?.getD 0) : Nat) : Int) + 3712) = _
   rw [ih (by lia), take_snoc e, List.map_append, List.sum_append, e]
   show B * ((((L.take m).map f).sum : Nat) : Int) + 3712 * (m : Int) + (B * ((f L[m] : Nat) : Int) + 3712) = B * ((((L.take m).map f).sum + (f L[m] + 0) : Nat) : Int) + 3712 * ((m + 1 : Nat) : Int)
   rw [Int.natCast_add, Int.mul_add, Nat.add_zero]
   lia
 have := go L.length (Nat.le_refl _);rw [List.take_length] at this;exact this
theorem wV {f : Nat → Nat} : ∀ {L : List Nat} {a : Nat}, a ∈ L → f a ≤ (L.map f).sum := by
 intro L
 induction L with
 | nil => intro a h; cases h
 | cons b L ih =>
  intro a h;rw [List.map_cons, List.sum_cons];rcases List.mem_cons.mp h with rfl | h
  ·lia
  ·have := ih h; lia
theorem xq {f : Nat → Nat} : ∀ {L : List Nat}, (∀ a ∈ L, 1 ≤ f a) → L.length ≤ (L.map f).sum := by
 intro L
 induction L with
 | nil => intro _; exact Nat.le_refl _
 | cons b L ih =>
  intro h;rw [List.map_cons, List.sum_cons, List.length_cons];have := h b List.mem_cons_self;have := ih fun a m => h a (List.mem_cons_of_mem _ m)
  lia
theorem CS {ts : List Nd} {c : F} (p : PT ts c) (gap : Int) (hg : 0 ≤ gap) (hg2 : gap ≤ 20) (hl' : ts.length ≤ 100) (hr : ∀ k, k < ts.length → gv (bJ ts) k ≤ 4) : ∀ n L j x, lvN ts j + n = 8 → j < ts.length → Dp ts 8 → Dn ts j L x → -(Mq n * (szB ts j : Int)) ≤ pos ts gap x - pos ts gap j ∧ pos ts gap x - pos ts gap j ≤ Mq n * (szB ts j : Int) := by
 have he := cJ p;have h0 := F.Pf.pos p;intro n
 induction n with
 | zero =>
  intro L j x hn hj hd hx;cases L with
  | zero =>
   have hx : x = j := hx;rw [hx];show -(0 * _) ≤ _ ∧ _ ≤ (0 : Int) * _
   rw [Int.zero_mul]
   lia
  | succ L =>
   obtain ⟨a, ha, _⟩ := hx;have := cf he ha;have := hd a (bq.mp ha).1
   lia
 | succ n ih =>
  intro L j x hn hj hd hx;have mp := pZ n;have mp1 := pZ (n + 1);have cs := yW p hj;have pz : ∀ q, 0 ≤ Mq n * ((szB ts q : Nat) : Int) := fun q => Int.mul_nonneg mp (by lia)
  have pz1 : 0 ≤ Mq (n + 1) * ((szB ts j : Nat) : Int) := Int.mul_nonneg mp1 (by lia)
  cases L with
  | zero =>
   have hx : x = j := hx;rw [hx]
   lia
  | succ L =>
   obtain ⟨a, ha, hx⟩ := hx;have hc : chN ts j ≠ [] := fun z => by rw [z] at ha; cases ha
   obtain ⟨es, ls, hst, E0, hs⟩ := wC p gap hg hl' hj hc;have ol : ((chN ts j).map (outF ts gap)).length = (chN ts j).length := List.length_map _;obtain ⟨i, hi, gi⟩ := Bv ha;have la := cf he ha;have i1 := ih L a x (by lia) (bq.mp ha).1 hd hx
   have pa := gc gap he h0 hl' hj gi;have D0 : ∀ i, (0 : Int) ≤ (fun i : Nat => Mq n * ((szB ts ((chN ts j)[i]?.getD 0) : Nat) : Int) + 3712) i := fun i => by
    have := pz ((chN ts j)[i]?.getD 0);show 0 ≤ Mq n * ((szB ts ((chN ts j)[i]?.getD 0) : Nat) : Int) + 3712
    lia
   have dl : ∀ u v, u < v → v < ((chN ts j).map (outF ts gap)).length → dO gap ((chN ts j).map (outF ts gap)) u v ≤ (fun i : Nat => Mq n * ((szB ts ((chN ts j)[i]?.getD 0) : Nat) : Int) + 3712) u + (fun i : Nat => Mq n * ((szB ts ((chN ts j)[i]?.getD 0) : Nat) : Int) + 3712) v := by
    intro u v huv hv;rw [ol] at hv;have gu : (chN ts j)[u]? = some (chN ts j)[u] := List.getElem?_eq_getElem (by lia)
    have gw : (chN ts j)[v]? = some (chN ts j)[v] := List.getElem?_eq_getElem hv;have mu : (chN ts j)[u] ∈ chN ts j := List.getElem_mem _;have mv : (chN ts j)[v] ∈ chN ts j := List.getElem_mem _;have a1 := (bq.mp mu).1;have b1 := (bq.mp mv).1;have oa := kB gap he h0 hl' (ts.length - (chN ts j)[u]) (chN ts j)[u] (by lia) a1
    have ob := kB gap he h0 hl' (ts.length - (chN ts j)[v]) (chN ts j)[v] (by lia) b1
    have dd : dO gap ((chN ts j).map (outF ts gap)) u v = dist gap (outF ts gap (chN ts j)[u]) (outF ts gap (chN ts j)[v]) := by
     unfold dO;rw [List.getElem?_map, List.getElem?_map, gu, gw];rfl
    rw [dd, rH];have l1 := (pB gap he h0 hl' a1).1;have l2 := (pB gap he h0 hl' b1).1;obtain ⟨y, ys, ey⟩ := vo (gap := gap) l1 l2;have hm := (f_ (xs := ask gap (outF ts gap (chN ts j)[u]) (outF ts gap (chN ts j)[v])) (by rw [ey]; exact List.cons_ne_nil _ _)).1
    generalize i6 (ask gap (outF ts gap (chN ts j)[u]) (outF ts gap (chN ts j)[v])) = M at hm
    unfold ask at hm;obtain ⟨z, hz, rfl⟩ := List.mem_map.mp hm;obtain ⟨q, hq, eq⟩ := List.getElem_of_mem hz;rw [List.length_zip] at hq;rw [List.getElem_zip] at eq;have g1 : (outF ts gap (chN ts j)[u])[q]? = some z.1 := by
     rw [List.getElem?_eq_getElem (by lia), ← eq]
    have g2 : (outF ts gap (chN ts j)[v])[q]? = some z.2 := by
     rw [List.getElem?_eq_getElem (by lia), ← eq]
    obtain ⟨x1, dx1, ex1⟩ := (oa.hi q _ g1).1;obtain ⟨x2, dx2, ex2⟩ := (ob.lo q _ g2).1;have k1 := ih q _ x1 (by rw [cf he mu]; lia) a1 hd dx1
    have k2 := ih q _ x2 (by rw [cf he mv]; lia) b1 hd dx2
    have r1 := hr x1 (mh he a1 dx1).2.2;have r2 := hr x2 (mh he b1 dx2).2.2;show _ ≤ (Mq n * ((szB ts ((chN ts j)[u]?.getD 0) : Nat) : Int) + 3712) + (Mq n * ((szB ts ((chN ts j)[v]?.getD 0) : Nat) : Int) + 3712)
    rw [gu, gw];show _ ≤ (Mq n * ((szB ts (chN ts j)[u] : Nat) : Int) + 3712) + (Mq n * ((szB ts (chN ts j)[v] : Nat) : Int) + 3712)
    lia
   have hE := uJ hst.isE D0 dl ((chN ts j).length - 1) (by rw [ol]; lia)
   have hS := sum_list (B := Mq n) (szB ts) (chN ts j);have hS2 : ke (fun i : Nat => Mq n * ((szB ts ((chN ts j)[i]?.getD 0) : Nat) : Int) + 3712) (chN ts j).length = ke (fun i : Nat => Mq n * ((szB ts ((chN ts j)[i]?.getD 0) : Nat) : Int) + 3712) ((chN ts j).length - 1) + (fun i : Nat => Mq n * ((szB ts ((chN ts j)[i]?.getD 0) : Nat) : Int) + 3712) ((chN ts j).length - 1) := by
    obtain ⟨m, hm⟩ : ∃ m, (chN ts j).length = m + 1 := ⟨(chN ts j).length - 1, by lia⟩
    rw [hm, Nat.add_sub_cancel];rfl
   have D1 := D0 ((chN ts j).length - 1);have s1 := hs i hi;have ml : (chN ts j).length ≤ ((chN ts j).map (szB ts)).sum := xq fun b hb => (my (bq.mp hb).1).1
   have ma : szB ts a ≤ ((chN ts j).map (szB ts)).sum := wV ha;have q1 : Mq n * ((szB ts a : Nat) : Int) ≤ Mq n * ((((chN ts j).map (szB ts)).sum : Nat) : Int) := Int.mul_le_mul_of_nonneg_left (by lia) mp
   have q2 : Mq (n + 1) * ((szB ts j : Nat) : Int) = 3 * (Mq n * ((((chN ts j).map (szB ts)).sum : Nat) : Int)) + 7424 * ((((chN ts j).map (szB ts)).sum : Nat) : Int) + Mq (n + 1) := by
    rw [← cs, Int.natCast_add, Int.mul_add];show (3 * Mq n + 7424) * _ + _ * 1 = _
    rw [Int.add_mul, Int.mul_assoc];show _ + _ + Mq (n + 1) * 1 = _
    lia
   dsimp only at hE hS2 D1
   lia
noncomputable def cN (ts : List Nd) (gap : Int) (k : Nat) : Nat := (gv (drw ts gap) k / 256).toNat
noncomputable def rL (ts : List Nd) (k : Nat) : Nat := (aY ts k).l.length / 2
theorem iW {ts : List Nd} {k : Nat} (h : k < ts.length) : gv (bJ ts) k = ((rL ts k : Nat) : Int) := by
 unfold gv bJ rL aY;rw [List.getElem?_map, List.getElem?_eq_getElem h];show ((ts[k].l.length : Int) / 2) = _
 rfl
theorem k7 {ts : List Nd} {k : Nat} (h : k < ts.length) : aY ts k ∈ ts := by
 unfold aY;rw [List.getElem?_eq_getElem h];exact List.getElem_mem h
structure CF (ts : List Nd) (gap : Int) : Prop where
 at_ : ∀ k, k < ts.length → gv (drw ts gap) k / 256 = ((cN ts gap k : Nat) : Int)
 lo : ∀ k, k < ts.length → rL ts k ≤ cN ts gap k
 ap : ∀ x y, x < ts.length → y < ts.length → x < y → lvN ts x = lvN ts y → cN ts gap x + rL ts x + rL ts y + 2 ≤ cN ts gap y
 hi : ∀ k, k < ts.length → cN ts gap k ≤ 8000000
theorem lz {ts : List Nd} (he : EL ts) (h0 : 0 < ts.length) : lvN ts 0 = 0 := by
 obtain ⟨n, hn⟩ : ∃ n, ts[0]? = some n := ⟨_, List.getElem?_eq_getElem h0⟩;unfold lvN;rw [g9 hn];unfold cE;rw [if_pos ((he 0 n hn).1 rfl)];rfl
theorem qZ {ts : List Nd} {c : F} (p : PT ts c) (hb : Lb ts) (dp : Dp ts 8) (hl : ts.length ≤ 40) (gap : Int) (g1 : 1 ≤ gap) (g2 : gap ≤ 20) : CF ts gap := by
 have he := cJ p;have h0 := F.Pf.pos p;have r4 : ∀ k, k < ts.length → rL ts k ≤ 4 := fun k hk => by
  have := (hb _ (k7 hk)).2.1;unfold rL
  lia
 have le : (List.range ts.length).map (fun k => pos ts gap k - 256 * gv (bJ ts) k) ≠ [] := fun z => by
  have := congrArg List.length z;rw [List.length_map, List.length_range, List.length_nil] at this
  lia
 have ms := l6 le;have lst : ∀ k, k < ts.length → jv ts gap ≤ pos ts gap k - 256 * gv (bJ ts) k := fun k hk => ms.2 _ (List.mem_map.mpr ⟨k, List.mem_range.mpr hk, rfl⟩)
 obtain ⟨k0, hk0, e0⟩ : ∃ k, k < ts.length ∧ jv ts gap = pos ts gap k - 256 * gv (bJ ts) k := by
  obtain ⟨k, hk, e⟩ := List.mem_map.mp ms.1;exact ⟨k, List.mem_range.mp hk, e.symm⟩
 have far : ∀ k, k < ts.length → -974028800 ≤ pos ts gap k ∧ pos ts gap k ≤ 974028800 := fun k hk => by
  have f := CS p gap (by lia) g2 (by lia) (fun q hq => by rw [iW hq]; have := r4 q hq; lia) 8 (lvN ts k) 0 k (by rw [lz he h0]) h0 dp (nN he h0 hk)
  have sz : szB ts 0 ≤ 40 := by
   have := (my h0).2;unfold szB
   lia
  have m8 : Mq 8 = 24350720 := by decide +kernel
  rw [m8, uc] at f;have : (24350720 : Int) * ((szB ts 0 : Nat) : Int) ≤ 24350720 * 40 := Int.mul_le_mul_of_nonneg_left (by lia) (by decide)
  lia
 have dk : ∀ k, k < ts.length → gv (drw ts gap) k = pos ts gap k - jv ts gap := fun k hk => zM h0 hk
 have nn : ∀ k, k < ts.length → 256 * ((rL ts k : Nat) : Int) ≤ gv (drw ts gap) k := fun k hk => by
  have := lst k hk;rw [iW hk] at this;rw [dk k hk]
  lia
 have ca : ∀ k, k < ts.length → gv (drw ts gap) k / 256 = ((cN ts gap k : Nat) : Int) := fun k hk => by
  have := nn k hk;unfold cN
  lia
 refine ⟨ca, fun k hk => ?_, fun x y hx hy hxy hlv => ?_, fun k hk => ?_⟩
 ·have h1 := nn k hk
  have h2 := ca k hk
  lia
 ·have h1 := lZ p gap (by lia) hx hy hxy hlv
  rw [iW hx, iW hy] at h1;have h2 := ca x hx;have h3 := ca y hy;rw [dk x hx] at h2;rw [dk y hy] at h3
  lia
 ·have h1 := far k hk
  have h2 := far k0 hk0;have h3 := ca k hk;rw [dk k hk] at h3;rw [iW hk0] at e0;have := r4 k0 hk0
  lia
theorem zY {c : Nat} (h : c ≤ 9000000) : PadOk (c : Int) = true := by
 unfold PadOk fitsSsize;rw [Bool.and_eq_true];refine ⟨?_, ?_⟩
 ·simp
  lia
 ·rw [Int.toNat_natCast, Bool.not_eq_true']
  unfold Builtin.Str.tooLong;exact decide_eq_false (by
   have : (9000000 : Nat) ≤ sizeLine := by decide +kernel
   lia)
theorem xX (x : Str) (c : Nat) : cs (Txt.ljust x (c : Int)) = cs x ++ List.replicate (c - (cs x).length) 32 := by
 unfold Txt.ljust;have hl : x.length = (cs x).length := bP x;split
 ·rename_i h
  rw [show c - (cs x).length = 0 by lia, List.replicate_zero, List.append_nil]
 ·unfold cs
  show ((Array.replicate 0 32 ++ x.cps ++ Array.replicate ((c : Int).toNat - x.length) 32).toList) = _
  rw [Int.toNat_natCast, hl];simp [cs]
theorem ug : ∀ (r : List Pt) (n c : Nat) (w : Str), goP n (r ++ [(c, w)]) → laL n (r ++ [(c, w)]) = laL n r ++ (List.replicate (c - (n + (laL n r).length)) 32 ++ cs w) ∧ n + (laL n r).length ≤ c := by
 intro r
 induction r with
 | nil =>
  intro n c w h;have h1 : n ≤ c := h.1;refine ⟨?_, h1⟩;show List.replicate (c - n) 32 ++ (cs w ++ []) = _
  rw [List.append_nil];rfl
 | cons x r ih =>
  intro n c w h;obtain ⟨c1, w1⟩ := x;have h1 : n ≤ c1 := h.1;have h3 : goP (c1 + (cs w1).length + 1) (r ++ [(c, w)]) := h.2.2;have h4 : goP (c1 + (cs w1).length) (r ++ [(c, w)]) := by
   cases r with
   | nil => exact ⟨by have := h3.1; lia, h3.2⟩
   | cons y r => exact ⟨by have := h3.1; lia, h3.2⟩
  obtain ⟨e1, e2⟩ := ih _ c w h4;have ln : (laL n ((c1, w1) :: r)).length = (c1 - n) + ((cs w1).length + (laL (c1 + (cs w1).length) r).length) := by
   rw [laL, List.length_append, List.length_replicate, List.length_append]
  refine ⟨?_, by rw [ln]; lia⟩
  rw [List.cons_append, laL, e1, ln, laL, show n + (c1 - n + ((cs w1).length + (laL (c1 + (cs w1).length) r).length)) = c1 + (cs w1).length + (laL (c1 + (cs w1).length) r).length by lia]
  simp only [List.append_assoc]
theorem tV : ∀ (r : List Pt) (n i : Nat), goP n r → goP n (r.take i) := by
 intro r
 induction r with
 | nil => intro n i h; rw [List.take_nil]; exact h
 | cons x r ih =>
  intro n i h;cases i with
  | zero => exact trivial
  | succ i => exact ⟨h.1, h.2.1, ih _ i h.2.2⟩
noncomputable def laT (ps : List Pt) : Str := Txt.rstripChars (sS (laL 0 ps)) blk
theorem nA (ps : List Pt) (h : goP 0 ps) (hb : ∀ x ∈ ps, x.1 + (cs x.2).length ≤ 8990000) (hl : (laL 0 ps).length ≤ 9000000) : fS [.list (ps.map ptD)] = .ok (.sh (.str (laT ps))) := by
 unfold fS kG;push_cast only [and_self];generalize hL : bI _ _ _ _ = r
 refine cC hL (fun i ρ => ∃ v2 v3 : Option OD, ρ = [some (.sh (.list (ps.map ptD))), some (.sh (.str (sS (laL 0 (ps.take i))))), v2, v3]) ⟨_, _, rfl⟩ ?_ ?_
 ·rintro i d ρ hd ⟨v2, v3, rfl⟩
  rw [List.getElem?_map] at hd;obtain ⟨⟨c, w⟩, hx, rfl⟩ := Option.map_eq_some_iff.mp hd;have tk : ps.take (i + 1) = ps.take i ++ [(c, w)] := take_snoc hx;have g1 := tV ps 0 (i + 1) h;rw [tk] at g1;obtain ⟨e1, e2⟩ := ug _ 0 c w g1;rw [Nat.zero_add] at e1 e2;have bx := hb (c, w) (List.mem_of_getElem? hx);have pk := zY (c := c) (by have := bx; dsimp only at this; lia)
  have en : Txt.ljust (sS (laL 0 (ps.take i))) (c : Int) ++ w = sS (laL 0 (ps.take (i + 1))) := by
   apply hI
   rw [gO];show cs (Txt.ljust (sS (laL 0 (ps.take i))) (c : Int)) ++ cs w = cs (sS (laL 0 (ps.take (i + 1))))
   rw [xX, eD, eD, tk, e1, List.append_assoc]
  have ll : (Txt.ljust (sS (laL 0 (ps.take i))) (c : Int)).length = c := by
   rw [bP];show (cs (Txt.ljust (sS (laL 0 (ps.take i))) (c : Int))).length = c
   rw [xX, eD, List.length_append, List.length_replicate]
   lia
  have bg : ((Txt.ljust (sS (laL 0 (ps.take i))) (c : Int)).length + w.length ≤ BIG) = True := eq_true (by
   rw [ll, bP w];have b1 := bx
   dsimp only at b1
   have : (8990000 : Nat) ≤ BIG := by decide +kernel
   show c + (cs w).length ≤ BIG
   lia)
  unfold ptD;push_cast only [Fw, Fy pk, kh, bg, en];exact ⟨_, _, rfl⟩
 ·rintro ρ' rfl ⟨v2, v3, rfl⟩
  rw [List.length_map, List.take_of_length_le (Nat.le_refl _)];have bg : ((sS (laL 0 ps)).length ≤ BIG) = True := eq_true (by
   rw [bP];show (cs (sS (laL 0 ps))).length ≤ BIG
   rw [eD];have : (9000000 : Nat) ≤ BIG := by decide +kernel
   lia)
  push_cast only [Cq, Em, EG, bg, AG];rfl
theorem uu (t : Str) (hl : t.length ≤ 9000000) : dW [.str t] = .ok (.ol ((paS (Txt.split t blk) 0).map fun x => OD.sh (ptD x))) := by
 unfold dW fg;have b1 : t.length ≤ BIG := Nat.le_trans hl (by decide +kernel)
 have b2 : (blk.length == 0) = false := by decide +kernel
 have ks := Dk (s := t) (t := blk) b1 b2;have sb := PyProof.Rows.split_le t blk;have ps := fun p (hp : p ∈ Txt.split t blk) => PyProof.Rows.part_short hp
 have ks' : AW (.ok (.sh (.str t))) (.ok (.sh (.str (Str.ofString " ")))) = .ok (.ol (((Txt.split t blk).map PyData.str).map OD.sh)) := ks;push_cast only [CV, ks', c6];generalize Txt.split t blk = W at sb ps
 generalize hL : bI _ _ _ _ = r
 have bgB : (9000000 : Nat) + 3 ≤ BIG := by decide +kernel
 have pl : ∀ (X : List Str) (b : Nat), (paS X b).length ≤ X.length := by
  intro X
  induction X with
  | nil => intro b; exact Nat.le_refl _
  | cons x X ih =>
   intro b;rw [paS, List.length_append, List.length_cons];have := ih (b + x.length + 1);split
   ·rw [List.length_nil]; lia
   ·rw [List.length_singleton]; lia
 have sn : ∀ (X : List Str) (w : Str) (b : Nat), paS (X ++ [w]) b = paS X b ++ (if w.length = 0 then [] else [(b + (X.map fun w => w.length + 1).sum, w)]) := by
  intro X
  induction X with
  | nil =>
   intro w b;show (if w.length = 0 then [] else [(b, w)]) ++ [] = _
   rw [List.append_nil];rfl
  | cons x X ih =>
   intro w b;rw [List.cons_append, paS, paS, ih, List.map_cons, List.sum_cons, List.append_assoc];rw [Nat.add_assoc b, ← Nat.add_assoc b x.length 1];rw [show b + x.length + 1 + (X.map fun w => w.length + 1).sum = b + (x.length + 1 + (X.map fun w => w.length + 1).sum) by lia]
 refine cC hL (fun i ρ => ∃ v3 : Option OD, ρ = [some (.sh (.str t)), some (.ol ((paS (W.take i) 0).map fun x => OD.sh (ptD x))), some (.sh (.int ((((W.take i).map fun w => w.length + 1).sum : Nat) : Int))), v3]) ⟨_, rfl⟩ ?_ ?_
 ·rintro i d ρ hd ⟨v3, rfl⟩
  rw [List.getElem?_map] at hd;obtain ⟨w, hx, rfl⟩ := Option.map_eq_some_iff.mp hd;have tk : W.take (i + 1) = W.take i ++ [w] := take_snoc hx;have wl := ps w (List.mem_of_getElem? hx);have wb : (w.length ≤ BIG) = True := eq_true (by lia)
  have nx : ((((W.take i).map fun w => w.length + 1).sum : Nat) : Int) + (w.length : Int) + 1 = ((((W.take (i + 1)).map fun w => w.length + 1).sum : Nat) : Int) := by
   rw [tk, List.map_append, List.sum_append];show _ = (((_ : Nat) + ((w.length + 1) + 0) : Nat) : Int)
   lia
  have n2 := sn (W.take i) w 0;rw [← tk, Nat.zero_add] at n2;rw [n2];have il := pl (W.take i) 0;rw [List.length_take] at il;by_cases h0 : w.length = 0
  ·have e0 : decide (w = Str.ofString "") = true := decide_eq_true (hI (by
    have : w.cps.toList = [] := List.eq_nil_of_length_eq_zero (by rw [← bP]; exact h0)
    rw [this];decide +kernel))
   rw [if_pos h0, List.append_nil];push_cast only [e0, wb, nx];exact ⟨_, rfl⟩
  ·have e0 : decide (w = Str.ofString "") = false := decide_eq_false fun z => h0 (by rw [z]; decide +kernel)
   have lb : (((paS (W.take i) 0).map fun x => OD.sh (ptD x)).length < BIG) = True := eq_true (by rw [List.length_map]; lia)
   have ap : ((paS (W.take i) 0).map fun x => OD.sh (ptD x)) ++ [OD.sh (.tuple [.int ((((W.take i).map fun w => w.length + 1).sum : Nat) : Int), .str w])] = (paS (W.take i) 0 ++ [(((W.take i).map fun w : Str => w.length + 1).sum, w)]).map fun x => OD.sh (ptD x) := by
    rw [List.map_append];rfl
   rw [if_neg h0];have lb2 : ((paS (W.take i) 0).length < BIG) = True := eq_true (by lia)
   push_cast only [e0, wb, lb2, ap, nx];exact ⟨_, rfl⟩
 ·rintro ρ' rfl ⟨v3, rfl⟩
  rw [List.length_map, List.take_of_length_le (Nat.le_refl _)];push_cast only [and_self]
theorem wR {n : Nat} (h : 1 ≤ n) : Builtin.Str.strSliceIndices (some (-1)) none 1 n = Builtin.Str.strSliceIndices (some ((n : Int) - 1)) none 1 n := by
 unfold Builtin.Str.strSliceIndices
 dsimp only
 rw [if_pos (show (-1 : Int) < 0 by decide), if_neg (show ¬ ((n : Int) - 1 < 0) by lia), show (-1 : Int) + (n : Int) = (n : Int) - 1 by lia]
theorem qk (u : List Nat) (h : ∀ c, u.reverse.head? = some c → c ≠ 32) : decide (Txt.slice (sS u) (some (-1)) none = Str.ofString " ") = false := by
 refine decide_eq_false fun z => ?_
 have hn : (sS u).length = u.length := by rw [bP]; exact congrArg List.length (eD u)
 by_cases h0 : u = []
 ·subst h0
  exact absurd z (by decide +kernel)
 ·have hp : 1 ≤ u.length := List.length_pos_iff.mpr h0
  have e : Txt.slice (sS u) (some (-1)) none = Txt.slice (sS u) (some ((u.length : Int) - 1)) none := by
   unfold Txt.slice;rw [hn, wR hp]
  rw [e, PyProof.Rows.slice_from_eq (b := (u.length : Int)) (by lia) (by rw [hn]; lia) (by rw [hn])] at z
  have z2 := congrArg cs z;have b1 : cs (Str.ofString " ") = [32] := by decide +kernel
  rw [b1] at z2;have z3 : ((cs (sS u)).drop ((u.length : Int) - 1).toNat).take ((u.length : Int) - ((u.length : Int) - 1)).toNat = [32] := by
   have := z2;unfold cs at this ⊢
   simpa using this
  rw [eD, show ((u.length : Int) - 1).toNat = u.length - 1 by lia, show ((u.length : Int) - ((u.length : Int) - 1)).toNat = 1 by lia] at z3
  have hl : u.reverse.head? = some (u[u.length - 1]'(by lia)) := by
   rw [List.head?_reverse, List.getLast?_eq_getElem?, List.getElem?_eq_getElem (by lia)]
  refine h _ hl ?_;have : (u.drop (u.length - 1)).take 1 = [u[u.length - 1]'(by lia)] := by
   rw [List.drop_eq_getElem_cons (by lia)]
   rfl
  rw [this] at z3;exact List.cons.inj z3 |>.1
theorem zV : ∀ {a b : List Pt}, a.map (fun x => (x.1, cs x.2)) = b.map (fun x => (x.1, cs x.2)) → a = b := by
 intro a
 induction a with
 | nil =>
  intro b h;cases b with
  | nil => rfl
  | cons y b => cases h
 | cons x a ih =>
  intro b h;cases b with
  | nil => cases h
  | cons y b =>
   obtain ⟨h1, h2⟩ := List.cons.inj h;obtain ⟨c, w⟩ := x;obtain ⟨c', w'⟩ := y;injection h1 with e1 e2
   have e2 : w = w' := hI e2;rw [show c = c' from e1, e2, ih h2]
structure RowOk (ps : List Pt) : Prop where
 go : goP 0 ps
 bd : ∀ x ∈ ps, x.1 + (cs x.2).length ≤ 8990000
 ln : (laL 0 ps).length ≤ 9000000
 asc : ∀ x ∈ ps, ∀ c ∈ cs x.2, c < 128
theorem u7 {ps : List Pt} (h : RowOk ps) : ∃ u, laT ps = sS u ∧ (∀ c, u.reverse.head? = some c → c ≠ 32) ∧ paS (Txt.split (laT ps) blk) 0 = ps.filter nbP ∧ u.length ≤ 9000000 ∧ ∀ c ∈ u, c < 128 := by
 obtain ⟨u, e, h1, h2, h3, h4⟩ := sU (laL 0 ps);have asc : ∀ (r : List Pt) (n : Nat), (∀ x ∈ r, ∀ c ∈ cs x.2, c < 128) → ∀ c ∈ laL n r, c < 128 := by
  intro r
  induction r with
  | nil => intro n _ c hc; cases hc
  | cons x r ih =>
   intro n hx c hc;obtain ⟨c1, w⟩ := x;rw [laL] at hc;rcases List.mem_append.mp hc with hc | hc
   ·rw [(List.mem_replicate.mp hc).2]
    decide
   ·rcases List.mem_append.mp hc with hc | hc
    ·exact hx (c1, w) List.mem_cons_self c hc
    ·exact ih _ (fun y m => hx y (List.mem_cons_of_mem _ m)) c hc
 refine ⟨u, e, h1, ?_, by have := h.ln; lia, fun c hc => asc ps 0 h.asc c (h4 c hc)⟩
 apply zV
 rw [BB];have e2 : (Txt.split (laT ps) blk).map cs = spL u := by
  have := tL (laT ps);rw [qC];show (Txt.split (laT ps) ⟨#[32]⟩).map (fun p => p.cps.toList) = _
  rw [this];show spL (cs (laT ps)) = _
  have e' : laT ps = sS u := e;rw [e', eD]
 rw [e2, h2, tP _ _ h.go]
noncomputable def d4 (own : Nat) (bs : List Nat) (c : Nat) : Nat := if c = own then (if c ∈ bs then 35 else 94) else (if c ∈ bs then 43 else 45)
noncomputable def bu (bs : List Nat) : Nat := (bs[0]?).getD 0
noncomputable def iz (bs : List Nat) : Nat := (bs[bs.length - 1]?).getD 0
noncomputable def lP (own : Nat) (bs : List Nat) : List Nat := (List.range (iz bs + 1 - bu bs)).map fun i => d4 own bs (bu bs + i)
noncomputable def chS (c : Nat) : Str := ⟨#[c]⟩
theorem gN (t : List Nat) (c : Nat) : sS t ++ chS c = sS (t ++ [c]) := by
 apply hI
 rw [gO];show cs (sS t) ++ [c] = cs (sS (t ++ [c]))
 rw [eD, eD]
theorem pX {bs : List Nat} (h : bs ≠ []) : atI (nD bs) (0 : Int) = some (.int ((bu bs : Nat) : Int)) := by
 have hp := List.length_pos_iff.mpr h;exact eJ (j := 0) (yj (i := 0) (k := bu bs) (by unfold bu; rw [List.getElem?_eq_getElem hp]; rfl))
theorem uT {bs : List Nat} (h : bs ≠ []) : atI (nD bs) (-1) = some (.int ((iz bs : Nat) : Int)) := by
 have hp := List.length_pos_iff.mpr h;have := nF (ls := iL bs) (n := bs.length) (by unfold iL; rw [List.length_map]) hp
 unfold nD;rw [this];unfold gv iL iz;rw [List.getElem?_map, List.getElem?_eq_getElem (show bs.length - 1 < bs.length by lia)]
 rfl
theorem y8 {bs : List Nat} {c : Nat} : decide ((c : Int) ∈ iL bs) = decide (c ∈ bs) := by
 have : (c : Int) ∈ iL bs ↔ c ∈ bs := by
  unfold iL;constructor
  ·intro h
   obtain ⟨a, h1, h2⟩ := List.mem_map.mp h;have : a = c := by lia
   rw [← this];exact h1
  ·intro h
   exact List.mem_map.mpr ⟨c, h, rfl⟩
 simp only [this]
theorem yz (bs : List Nat) (c : Nat) : mY false (.int (c : Int)) (.list (nD bs)) = .ok (.sh (.bool (decide (c ∈ bs)))) := by
 unfold nD;rw [Ea, ← y8];rfl
theorem nv (own : Nat) (bs : List Nat) (h : bs ≠ []) (hl : iz bs ≤ 8000000) (hf8 : bu bs ≤ 8000000) : eK [.int (own : Int), .list (nD bs)] = .ok (.sh (.str (sS (lP own bs)))) := by
 unfold eK fU;have f1 := pX h;have l1 := uT h
 ·have s1 : (ay ((bu bs : Nat) : Int) && ay ((iz bs : Nat) + 1 : Int)) = true := by
   rw [eT (by lia) (by lia), eT (by lia) (by lia)]
   rfl
  have hN : ((iz bs : Int) + 1 - (bu bs : Int)).toNat = iz bs + 1 - bu bs := by lia
  push_cast only [f1, l1, s1];generalize hL : bI _ _ _ _ = r
  refine cC hL (fun i ρ => ∃ v3 : Option OD, ρ = [some (.sh (.int (own : Int))), some (.sh (.list (nD bs))), some (.sh (.str (sS ((List.range i).map fun i => d4 own bs (bu bs + i))))), v3]) ⟨_, rfl⟩ ?_ ?_
  ·rintro i d ρ hd ⟨v3, rfl⟩
   obtain ⟨hi, rfl⟩ := eQ hd;rw [hN] at hi;have x1 : ((bu bs : Nat) : Int) + (i : Int) = ((bu bs + i : Nat) : Int) := by lia
   rw [x1];have inn := yz bs (bu bs + i);have nx : (List.range (i + 1)).map (fun i => d4 own bs (bu bs + i)) = (List.range i).map (fun i => d4 own bs (bu bs + i)) ++ [d4 own bs (bu bs + i)] := by rw [List.range_succ, List.map_append]; rfl
   rw [nx];have lb : ∀ c : Nat, ((sS ((List.range i).map fun i => d4 own bs (bu bs + i))).length + (chS c).length ≤ BIG) = True := fun c => eq_true (by
    rw [bP, bP];show (cs (sS _)).length + 1 ≤ BIG
    rw [eD, List.length_map, List.length_range];have : (8000003 : Nat) ≤ BIG := by decide +kernel
    lia)
   have c1 : Str.ofString "#" = chS 35 := by decide +kernel
   have c2 : Str.ofString "^" = chS 94 := by decide +kernel
   have c3 : Str.ofString "+" = chS 43 := by decide +kernel
   have c4 : Str.ofString "-" = chS 45 := by decide +kernel
   by_cases ho : bu bs + i = own
   ·have d1 : decide (((bu bs + i : Nat) : Int) = (own : Int)) = true := decide_eq_true (by lia)
    by_cases hm : bu bs + i ∈ bs
    ·have e : d4 own bs (bu bs + i) = 35 := by unfold d4; rw [if_pos ho, if_pos hm]
     rw [e];push_cast only [d1, inn, decide_eq_true hm, c1, nV, lb, gN];exact ⟨_, rfl⟩
    ·have e : d4 own bs (bu bs + i) = 94 := by unfold d4; rw [if_pos ho, if_neg hm]
     rw [e];push_cast only [d1, inn, decide_eq_false hm, c2, nV, lb, gN];exact ⟨_, rfl⟩
   ·have d1 : decide (((bu bs + i : Nat) : Int) = (own : Int)) = false := decide_eq_false (by lia)
    by_cases hm : bu bs + i ∈ bs
    ·have e : d4 own bs (bu bs + i) = 43 := by unfold d4; rw [if_neg ho, if_pos hm]
     rw [e];push_cast only [d1, inn, decide_eq_true hm, c3, nV, lb, gN];exact ⟨_, rfl⟩
    ·have e : d4 own bs (bu bs + i) = 45 := by unfold d4; rw [if_neg ho, if_neg hm]
     rw [e];push_cast only [d1, inn, decide_eq_false hm, c4, nV, lb, gN];exact ⟨_, rfl⟩
  ·rintro ρ' rfl ⟨v3, rfl⟩
   rw [eI, hN];push_cast only [and_self];rfl
noncomputable def cL (ts : List Nd) (gap : Int) : List Nat := (List.range ts.length).map (cN ts gap)
theorem ki {ts : List Nd} {gap : Int} {k : Nat} (h : k < ts.length) : atI (nD (cL ts gap)) (k : Int) = some (.int ((cN ts gap k : Nat) : Int)) := eJ (yj (by
 unfold cL;rw [List.getElem?_map, List.getElem?_range h];rfl))
theorem h9 {ts : List Nd} {k : Nat} (h : k < ts.length) : atI (aB ts) (k : Int) = some (.tuple [.int (aY ts k).e, .str (aY ts k).l, .int (aY ts k).t]) := k_ (qF h)
noncomputable def dm (ts : List Nd) (gap : Int) (r : List Nat) : List Pt := r.map fun k => (cN ts gap k - rL ts k, (aY ts k).l)
noncomputable def sgS (ts : List Nd) (k i : Nat) : Str := if (i : Int) < (aY ts k).t then chS 58 else if chN ts k = [] then chS 32 else chS 124
noncomputable def cH (ts : List Nd) (gap : Int) (r : List Nat) (i : Nat) : List Pt := r.map fun k => (cN ts gap k, sgS ts k i)
noncomputable def dr (ts : List Nd) (gap : Int) (k : Nat) : List Nat := (chN ts k).map (cN ts gap)
noncomputable def jZ (ts : List Nd) (gap : Int) (k : Nat) : Pt := (bu (dr ts gap k), sS (lP (cN ts gap k) (dr ts gap k)))
noncomputable def eX (ts : List Nd) (r : List Nat) : List Nat := r.filter fun k => decide ((0 : Int) < ((chN ts k).length : Int))
noncomputable def eY (ts : List Nd) (gap : Int) (r : List Nat) : List Pt := (eX ts r).map (jZ ts gap)
noncomputable def tlM (ts : List Nd) (r : List Nat) : Int := i6 (r.map fun k => (aY ts k).t)
theorem gn (r : List Nat) : nD r = r.map fun k : Nat => PyData.int (k : Int) := by unfold nD iL; rw [List.map_map]; rfl
section
variable {ts : List Nd} {gap : Int} {r : List Nat}
theorem xu (C : CF ts gap) (hb : Lb ts) (hl : ts.length ≤ 100) (hr : ∀ k ∈ r, k < ts.length) (hrl : r.length ≤ 100) (ok : RowOk (dm ts gap r)) : eO [.list (aB ts), .list (nD (cL ts gap)), .list (nD r)] = .ok (.sh (.str (laT (dm ts gap r)))) := by
 unfold eO fL;have re := jk ts (fun n hn => by have := (hb n hn).2.1; lia) hl
 have rsh : ((bJ ts).map fun z => OD.sh (.int z)).map OD.er = (bJ ts).map PyData.int := by
  rw [List.map_map];exact List.map_congr_left fun z _ => bN _
 push_cast only [re, rsh];generalize hC : a7 _ _ _ _ _ _ = rc
 have e := b_ hC (fun k : Nat => PyData.int (k : Int)) (fun k => .sh (ptD (cN ts gap k - rL ts k, (aY ts k).l))) r (gn r) (of_eq_true (aS (by lia))) (by
  intro k hk;have hk := hr k hk;have a1 := ki (gap := gap) hk;have a2 : atI ((bJ ts).map PyData.int) (k : Int) = some (.int ((rL ts k : Nat) : Int)) := by
   rw [← iW hk];exact kL (by unfold bJ; rw [List.length_map]; exact hk)
  have a3 := h9 hk;have lo := C.lo k hk;have sb : ((cN ts gap k : Nat) : Int) - ((rL ts k : Nat) : Int) = ((cN ts gap k - rL ts k : Nat) : Int) := by lia
  unfold ptD;push_cast only [a1, a2, a3, sb])
 subst e;have em : (r.map fun k => OD.sh (ptD (cN ts gap k - rL ts k, (aY ts k).l))).map OD.er = (dm ts gap r).map ptD := by
  unfold dm;rw [List.map_map, List.map_map];exact List.map_congr_left fun z _ => bN _
 have lo := nA _ ok.go ok.bd ok.ln;push_cast only [em, lo]
theorem wF (hl : ts.length ≤ 100) {k i : Nat} (hk : k < ts.length) : d5 [.list (aB ts), .int (k : Int), .int (i : Int)] = .ok (.sh (.str (sgS ts k i))) := by
 unfold d5 fk;have a3 := h9 hk;have ck := gL ts k hk hl;unfold sgS;have c1 : Str.ofString ":" = chS 58 := by decide +kernel
 have c2 : Str.ofString "|" = chS 124 := by decide +kernel
 have c3 : Str.ofString " " = chS 32 := by decide +kernel
 by_cases h1 : (i : Int) < (aY ts k).t
 ·rw [if_pos h1]
  push_cast only [a3, decide_eq_true h1, c1]
 ·rw [if_neg h1]
  by_cases h2 : chN ts k = []
  ·have d2 : decide ((0 : Int) < ((chN ts k).length : Int)) = false := decide_eq_false (by rw [h2]; decide)
   rw [if_pos h2];push_cast only [a3, decide_eq_false h1, ck, gj, gW, d2, c3]
  ·have d2 : decide ((0 : Int) < ((chN ts k).length : Int)) = true := decide_eq_true (by have := List.length_pos_iff.mpr h2; lia)
   rw [if_neg h2];push_cast only [a3, decide_eq_false h1, ck, gj, gW, d2, c2]
theorem qL (hr : ∀ k ∈ r, k < ts.length) (hrl : r.length ≤ 100) (hn : r ≠ []) : ∀ (g : Fe) (ρ : L3.Env), g ρ = .ok (.ol (r.map fun k => OD.sh (.int (aY ts k).t))) → eB gD (af g aq) ρ = .ok (.sh (.int (tlM ts r))) := fun g ρ hg => by
 have em : (r.map fun k => OD.sh (.int (aY ts k).t)).map OD.er = (r.map fun k => (aY ts k).t).map PyData.int := by
  rw [List.map_map, List.map_map];exact List.map_congr_left fun z _ => bN _
 have mx := jA (xs := r.map fun k => (aY ts k).t) (by intro z; exact hn (List.map_eq_nil_iff.mp z))
 push_cast only [hg, em, mx];rfl
theorem nE (ht : ∀ k, k < ts.length → 1 ≤ (aY ts k).t ∧ (aY ts k).t ≤ 9) (hr : ∀ k ∈ r, k < ts.length) (hn : r ≠ []) : 1 ≤ tlM ts r ∧ tlM ts r ≤ 9 := by
 have := (f_ (xs := r.map fun k => (aY ts k).t) (by intro z; exact hn (List.map_eq_nil_iff.mp z))).1
 obtain ⟨k, hk, e⟩ := List.mem_map.mp this;unfold tlM;rw [← e];exact ht k (hr k hk)
theorem pT (C : CF ts gap) (hl : ts.length ≤ 100) (ht : ∀ k, k < ts.length → 1 ≤ (aY ts k).t ∧ (aY ts k).t ≤ 9) (hr : ∀ k ∈ r, k < ts.length) (hrl : r.length ≤ 100) (hn : r ≠ []) (ok : ∀ i, i ≤ 9 → RowOk (cH ts gap r i)) :
  d7 [.list (aB ts), .list (nD (cL ts gap)), .list (nD r)] = .ok (.ol ((List.range (tlM ts r - 1).toNat).map fun i => OD.sh (.str (laT (cH ts gap r (i + 1)))))) := by
 unfold d7 ft;have tm := nE ht hr hn;have c0 : eB gD (af (aZ (c9 (ae 2)) (gNm 0) bH (eOp gIx (eOp gIx (ae 1) (ae 0)) (eC (.int 2))) 1 [0]) aq) [some (.sh (.list (aB ts))), some (.sh (.list (nD (cL ts gap)))), some (.sh (.list (nD r))), none] = .ok (.sh (.int (tlM ts r))) := by
  refine qL hr hrl hn _ _ ?_;push_cast only [and_self];generalize hC : a7 _ _ _ _ _ _ = rc
  have e := b_ hC (fun k : Nat => PyData.int (k : Int)) (fun k => .sh (.int (aY ts k).t)) r (gn r) (of_eq_true (aS (by lia))) (by
   intro k hk;have a3 := h9 (hr k hk);push_cast only [a3])
  subst e;push_cast only [and_self]
 have s1 : (ay (1 : Int) && ay (tlM ts r)) = true := by
  rw [eT (by lia) (by lia), eT (by lia) (by lia)]
  rfl
 push_cast only [↓c0, s1];generalize hC : a7 _ _ _ _ _ _ = rc
 have e := b_ hC (fun i : Nat => PyData.int (1 + (i : Int))) (fun i => OD.sh (.str (laT (cH ts gap r (i + 1))))) (List.range (tlM ts r - 1).toNat) rfl (by rw [List.length_range]; exact of_eq_true (aS (by lia))) (by
  intro i hi;rw [List.mem_range] at hi;rw [show (1 : Int) + (i : Int) = ((i + 1 : Nat) : Int) by lia]
  have rk := ok (i + 1) (by lia)
  have lo := nA _ rk.go rk.bd rk.ln;push_cast only [and_self];generalize hC2 : a7 _ _ _ _ _ _ = rc2
  have e2 := b_ hC2 (fun k : Nat => PyData.int (k : Int)) (fun k => .sh (ptD (cN ts gap k, sgS ts k (i + 1)))) r (gn r) (of_eq_true (aS (by lia))) (by
   intro k hk;have a1 := ki (gap := gap) (hr k hk);have sg := wF (i := i + 1) hl (hr k hk);unfold ptD;push_cast only [a1, sg])
  subst e2;have em : (r.map fun k => OD.sh (ptD (cN ts gap k, sgS ts k (i + 1)))).map OD.er = (cH ts gap r (i + 1)).map ptD := by
   unfold cH;rw [List.map_map, List.map_map];exact List.map_congr_left fun z _ => bN _
  push_cast only [em, lo])
 subst e;push_cast only [and_self]
theorem uX (C : CF ts gap) (hl : ts.length ≤ 100) {k : Nat} (hk : k < ts.length) (hc : chN ts k ≠ []) : bu (dr ts gap k) ≤ 8000000 ∧ iz (dr ts gap k) ≤ 8000000 := by
 have hp := List.length_pos_iff.mpr hc;have le : ∀ i, i < (chN ts k).length → ((dr ts gap k)[i]?).getD 0 ≤ 8000000 := fun i hi => by
  unfold dr;rw [List.getElem?_map, List.getElem?_eq_getElem hi];exact C.hi _ (bq.mp (List.getElem_mem hi)).1
 have ll : (dr ts gap k).length = (chN ts k).length := by unfold dr; rw [List.length_map]
 exact ⟨le 0 hp, by unfold iz; rw [ll]; exact le _ (by lia)⟩
theorem qc {k : Nat} (hc : chN ts k ≠ []) : dr ts gap k ≠ [] := fun z => hc (List.map_eq_nil_iff.mp z)
theorem t_ (k : Nat) : ((chN ts k).map fun j => OD.sh (.int ((cN ts gap j : Nat) : Int))).map OD.er = nD (dr ts gap k) := by
 unfold dr nD iL;rw [List.map_map, List.map_map, List.map_map];exact List.map_congr_left fun z _ => bN _
theorem zI (C : CF ts gap) (hl : ts.length ≤ 100) (hr : ∀ k ∈ r, k < ts.length) (hrl : r.length ≤ 100) (ok : RowOk (eY ts gap r)) :
  gq [.list (aB ts), .list (nD (cL ts gap)), .list (nD (eX ts r))] = .ok (.sh (.str (laT (eY ts gap r)))) := by
 unfold gq hR;have el : (eX ts r).length ≤ 100 := Nat.le_trans (List.length_filter_le _ _) hrl;have em : ∀ k ∈ eX ts r, k < ts.length ∧ chN ts k ≠ [] := fun k hk => by
  obtain ⟨h1, h2⟩ := List.mem_filter.mp hk;exact ⟨hr k h1, fun z => by rw [z] at h2; exact absurd h2 (by decide)⟩
 push_cast only [and_self];generalize hL : bI _ _ _ _ = rr
 refine cC hL (fun i ρ => ∃ v4 v5 : Option OD, ρ = [some (.sh (.list (aB ts))), some (.sh (.list (nD (cL ts gap)))), some (.sh (.list (nD (eX ts r)))), some (.ol (((eX ts r).take i).map fun k => OD.sh (ptD (jZ ts gap k)))), v4, v5]) ⟨_, _, rfl⟩ ?_ ?_
 ·rintro i d ρ hd ⟨v4, v5, rfl⟩
  rw [gn, List.getElem?_map] at hd;obtain ⟨k, hx, rfl⟩ := Option.map_eq_some_iff.mp hd;obtain ⟨hk, hc⟩ := em k (List.mem_of_getElem? hx);have ck := gL ts k hk hl;have cl := mO ts k;have c1 : aZ (c9 (aJ aM (af (ae 0) (af (ae 4) aq)))) (gNm 0) bH (eOp gIx (ae 1) (ae 0)) 1 [1] [some (.sh (.list (aB ts))), some (.sh (.list (nD (cL ts gap)))), some (.sh (.list (nD (eX ts r)))), some (.ol (((eX ts r).take i).map fun k => OD.sh (ptD (jZ ts gap k)))), some (.sh (.int (k : Int))), v5] = .ok (.ol ((chN ts k).map fun j => OD.sh (.int ((cN ts gap j : Nat) : Int)))) := by
   push_cast only [ck, gj];generalize hC : a7 _ _ _ _ _ _ = rc
   have e := b_ hC (fun k : Nat => PyData.int (k : Int)) (fun j => .sh (.int ((cN ts gap j : Nat) : Int))) (chN ts k) (gn _) (of_eq_true (aS (by lia))) (by
    intro j hj;have a1 := ki (gap := gap) (bq.mp hj).1;push_cast only [a1])
   subst e;push_cast only [and_self]
  have be := t_ (ts := ts) (gap := gap) k;have bf := pX (qc (gap := gap) hc);have a0 := ki (gap := gap) hk;obtain ⟨x1, x2⟩ := uX C hl hk hc;have bs := nv (cN ts gap k) (dr ts gap k) (qc hc) x2 x1;have il : ((eX ts r).take i).length ≤ 100 := by rw [List.length_take]; lia
  have lb : ((((eX ts r).take i).map fun k => OD.sh (ptD (jZ ts gap k))).length < BIG) = True := by rw [List.length_map]; exact d_ (by lia)
  have lb2 : (((eX ts r).take i).length < BIG) = True := d_ (by lia)
  have tk : (eX ts r).take (i + 1) = (eX ts r).take i ++ [k] := take_snoc hx;have ap : (((eX ts r).take i).map fun k => OD.sh (ptD (jZ ts gap k))) ++ [OD.sh (.tuple [.int ((bu (dr ts gap k) : Nat) : Int), .str (sS (lP (cN ts gap k) (dr ts gap k)))])] = ((eX ts r).take i ++ [k]).map fun k => OD.sh (ptD (jZ ts gap k)) := by
   rw [List.map_append];rfl
  rw [tk];push_cast only [↓c1, be, bf, a0, bs, lb2, ap];exact ⟨_, _, rfl⟩
 ·rintro ρ' rfl ⟨v4, v5, rfl⟩
  rw [gW, List.take_of_length_le (Nat.le_refl _)];have e2 : ((eX ts r).map fun k => OD.sh (ptD (jZ ts gap k))).map OD.er = (eY ts gap r).map ptD := by
   unfold eY;rw [List.map_map, List.map_map];exact List.map_congr_left fun z _ => bN _
  have lo := nA _ ok.go ok.bd ok.ln;push_cast only [e2, lo]
end
theorem zg : ∀ (L : List Pt) (n : Nat), (∀ x ∈ L, n ≤ x.1 ∧ okW x.2) → L.Pairwise (fun x y => x.1 + (cs x.2).length + 1 ≤ y.1) → goP n L := by
 intro L
 induction L with
 | nil => intro n _ _; exact trivial
 | cons x L ih =>
  intro n h hp;obtain ⟨c, w⟩ := x;obtain ⟨p1, p2⟩ := List.pairwise_cons.mp hp;have h1 := h (c, w) List.mem_cons_self;exact ⟨h1.1, h1.2, ih _ (fun y hy => ⟨p1 y hy, (h y (List.mem_cons_of_mem _ hy)).2⟩) p2⟩
theorem xO : ∀ (L : List Pt) (n M : Nat), n ≤ M → L.Pairwise (fun x y => x.1 + (cs x.2).length + 1 ≤ y.1) → (∀ x ∈ L, n ≤ x.1 ∧ x.1 + (cs x.2).length ≤ M) → n + (laL n L).length ≤ M := by
 intro L
 induction L with
 | nil => intro n M h _ _; exact h
 | cons x L ih =>
  intro n M h hp hx;obtain ⟨c, w⟩ := x;obtain ⟨p1, p2⟩ := List.pairwise_cons.mp hp;have h1 := hx (c, w) List.mem_cons_self
  dsimp only at h1 p1
  have := ih (c + (cs w).length) M h1.2 p2 fun y hy => ⟨by have := p1 y hy; lia, (hx y (List.mem_cons_of_mem _ hy)).2⟩
  rw [laL, List.length_append, List.length_replicate, List.length_append]
  lia
theorem pY {L : List Pt} (h1 : ∀ x ∈ L, okW x.2 ∧ x.1 + (cs x.2).length ≤ 8000100 ∧ ∀ c ∈ cs x.2, c < 128) (h2 : L.Pairwise (fun x y => x.1 + (cs x.2).length + 1 ≤ y.1)) : RowOk L := by
 refine ⟨zg L 0 (fun x hx => ⟨Nat.zero_le _, (h1 x hx).1⟩) h2, fun x hx => by have := (h1 x hx).2.1; lia, ?_, fun x hx => (h1 x hx).2.2⟩
 have := xO L 0 8000100 (Nat.zero_le _) h2 fun x hx => ⟨Nat.zero_le _, (h1 x hx).2.1⟩
 lia
structure Lv (ts : List Nd) (r : List Nat) : Prop where
 lt : ∀ k ∈ r, k < ts.length
 pw : r.Pairwise (· < ·)
 lv : ∃ j, ∀ k ∈ r, lvN ts k = j
section
variable {ts : List Nd} {gap : Int} {r : List Nat}
theorem rO (C : CF ts gap) (hb : Lb ts) (h : Lv ts r) : RowOk (dm ts gap r) := by
 obtain ⟨j, hj⟩ := h.lv;have ll : ∀ k, k < ts.length → (cs (aY ts k).l).length = (aY ts k).l.length := fun k _ => (bP _).symm
 refine pY (fun x hx => ?_) ?_
 ·obtain ⟨k, hk, rfl⟩ := List.mem_map.mp hx
  have lb := hb _ (k7 (h.lt k hk));have c1 := C.hi k (h.lt k hk);refine ⟨.inl ⟨fun z => ?_, fun m => ?_⟩, ?_, fun c hc => ?_⟩
  ·have := ll k (h.lt k hk)
   rw [z] at this;have := lb.1;simp at *
   lia
  ·have := lb.2.2 32 m
   lia
  ·show cN ts gap k - rL ts k + (cs (aY ts k).l).length ≤ 8000100
   rw [ll k (h.lt k hk)];have := lb.2.1
   lia
  ·have := lb.2.2 c hc
   lia
 ·unfold dm
  rw [List.pairwise_map];refine List.Pairwise.imp_of_mem (fun {x y} hx hy hxy => ?_) h.pw
  have hx' := h.lt x hx;have hy' := h.lt y hy;have a := C.ap x y hx' hy' hxy ((hj x hx).trans (hj y hy).symm);have l1 := C.lo x hx';show cN ts gap x - rL ts x + (cs (aY ts x).l).length + 1 ≤ cN ts gap y - rL ts y
  rw [ll x hx'];have : (aY ts x).l.length ≤ 2 * rL ts x + 1 := by unfold rL; lia
  lia
theorem yk (k i : Nat) : cs (sgS ts k i) = [58] ∨ cs (sgS ts k i) = [32] ∨ cs (sgS ts k i) = [124] := by
 unfold sgS;split
 ·exact .inl rfl
 ·split
  ·exact .inr (.inl rfl)
  ·exact .inr (.inr rfl)
theorem rh (C : CF ts gap) (h : Lv ts r) (i : Nat) : RowOk (cH ts gap r i) := by
 obtain ⟨j, hj⟩ := h.lv;refine pY (fun x hx => ?_) ?_
 ·obtain ⟨k, hk, rfl⟩ := List.mem_map.mp hx
  have c1 := C.hi k (h.lt k hk);have s := yk (ts := ts) k i;refine ⟨?_, ?_, ?_⟩
  ·rcases s with s | s | s
   ·exact .inl ⟨by rw [s]; exact List.cons_ne_nil _ _, by rw [s]; decide⟩
   ·exact .inr s
   ·exact .inl ⟨by rw [s]; exact List.cons_ne_nil _ _, by rw [s]; decide⟩
  ·show cN ts gap k + (cs (sgS ts k i)).length ≤ 8000100
   rcases s with s | s | s <;> (rw [s]; show cN ts gap k + 1 ≤ 8000100; lia)
  ·intro c hc
   have hc : c ∈ cs (sgS ts k i) := hc;rcases s with s | s | s <;> (rw [s, List.mem_singleton] at hc; subst hc; decide)
 ·unfold cH
  rw [List.pairwise_map];refine List.Pairwise.imp_of_mem (fun {x y} hx hy hxy => ?_) h.pw
  have a := C.ap x y (h.lt x hx) (h.lt y hy) hxy ((hj x hx).trans (hj y hy).symm);have s := yk (ts := ts) x i;show cN ts gap x + (cs (sgS ts x i)).length + 1 ≤ cN ts gap y
  rcases s with s | s | s <;> (rw [s]; show cN ts gap x + 1 + 1 ≤ cN ts gap y; lia)
theorem w4 {c : F} (p : PT ts c) {a b x y : Nat} (ha : a < ts.length) (hb : b < ts.length) (hab : a < b) (e : lvN ts a = lvN ts b) (hx : x ∈ chN ts a) (hy : y ∈ chN ts b) : x < y := by
 have he := cJ p;obtain ⟨s, h1, h2, h3, h4⟩ := uw p ha;obtain ⟨x1, x2⟩ := bq.mp hx;have xr := h4 x x1 (by lia) (by lia)
 have yb := (fu he hy).1;by_cases hbs : b ≤ a + s
 ·obtain ⟨l, hd⟩ := vL he (j := a) (s := s) (by lia) h2 b (by lia) hbs
  have := (mh he ha hd).1;have l0 : l = 0 := by lia
  subst l0;have hd : b = a := hd
  lia
 ·lia
theorem uI (C : CF ts gap) {c : F} (p : PT ts c) {k : Nat} (hk : k < ts.length) (hc : chN ts k ≠ []) : bu (dr ts gap k) ≤ iz (dr ts gap k) := by
 have he := cJ p;have hp := List.length_pos_iff.mpr hc;have ll : (dr ts gap k).length = (chN ts k).length := by unfold dr; rw [List.length_map]
 have at_ : ∀ i (hi : i < (chN ts k).length), ((dr ts gap k)[i]?).getD 0 = cN ts gap ((chN ts k)[i]) := fun i hi => by
  unfold dr;rw [List.getElem?_map, List.getElem?_eq_getElem hi];rfl
 unfold bu iz;rw [ll, at_ 0 hp, at_ _ (by lia)]
 by_cases h1 : (chN ts k).length = 1
 ·have : (chN ts k).length - 1 = 0 := by lia
  simp only [this];exact Nat.le_refl _
 ·have lt := List.pairwise_iff_getElem.mp (vF ts k) 0 ((chN ts k).length - 1) hp (by lia) (by lia)
  have m0 : (chN ts k)[0] ∈ chN ts k := List.getElem_mem _;have m1 : (chN ts k)[(chN ts k).length - 1] ∈ chN ts k := List.getElem_mem _;have := C.ap _ _ (bq.mp m0).1 (bq.mp m1).1 lt (by rw [cf he m0, cf he m1])
  lia
theorem nZ (own : Nat) (bs : List Nat) : (lP own bs).length = iz bs + 1 - bu bs := by unfold lP; rw [List.length_map, List.length_range]
theorem rq (own : Nat) (bs : List Nat) (c : Nat) : d4 own bs c = 35 ∨ d4 own bs c = 94 ∨ d4 own bs c = 43 ∨ d4 own bs c = 45 := by
 unfold d4;split
 ·split
  ·exact .inl rfl
  ·exact .inr (.inl rfl)
 ·split
  ·exact .inr (.inr (.inl rfl))
  ·exact .inr (.inr (.inr rfl))
theorem kf (C : CF ts gap) (hl : ts.length ≤ 100) {c : F} (p : PT ts c) (h : Lv ts r) : RowOk (eY ts gap r) := by
 obtain ⟨j, hj⟩ := h.lv;have he := cJ p;have em : ∀ k ∈ eX ts r, k ∈ r ∧ chN ts k ≠ [] := fun k hk => by
  obtain ⟨h1, h2⟩ := List.mem_filter.mp hk;exact ⟨h1, fun z => by rw [z] at h2; exact absurd h2 (by decide)⟩
 have ln : ∀ k, cs (jZ ts gap k).2 = lP (cN ts gap k) (dr ts gap k) := fun k => eD _
 refine pY (fun x hx => ?_) ?_
 ·obtain ⟨k, hk, rfl⟩ := List.mem_map.mp hx
  obtain ⟨kr, hc⟩ := em k hk;have le := uI C p (h.lt k kr) hc;have bx := uX C hl (h.lt k kr) hc;have inn : ∀ c ∈ cs (jZ ts gap k).2, c = 35 ∨ c = 94 ∨ c = 43 ∨ c = 45 := fun c hc => by
   rw [ln] at hc;obtain ⟨i, _, rfl⟩ := List.mem_map.mp hc;exact rq _ _ _
  refine ⟨.inl ⟨fun z => ?_, fun m => ?_⟩, ?_, fun c hc => ?_⟩
  ·have := congrArg List.length z
   rw [ln, nZ, List.length_nil] at this
   lia
  ·have := inn 32 m
   lia
  ·rw [ln, nZ]
   show bu (dr ts gap k) + _ ≤ _
   lia
  ·have := inn c hc
   lia
 ·unfold eY
  rw [List.pairwise_map];refine List.Pairwise.imp_of_mem (fun {x y} hx hy hxy => ?_) (h.pw.sublist List.filter_sublist)
  obtain ⟨xr, xc⟩ := em x hx;obtain ⟨yr, yc⟩ := em y hy;have hx' := h.lt x xr;have hy' := h.lt y yr;have le := uI C p hx' xc;rw [ln, nZ];show bu (dr ts gap x) + (iz (dr ts gap x) + 1 - bu (dr ts gap x)) + 1 ≤ bu (dr ts gap y)
  have px := List.length_pos_iff.mpr xc;have py := List.length_pos_iff.mpr yc;have m0 : (chN ts x)[(chN ts x).length - 1] ∈ chN ts x := List.getElem_mem _;have m1 : (chN ts y)[0] ∈ chN ts y := List.getElem_mem _;have lt := w4 p hx' hy' hxy ((hj x xr).trans (hj y yr).symm) m0 m1;have ap := C.ap _ _ (bq.mp m0).1 (bq.mp m1).1 lt (by rw [cf he m0, cf he m1, hj x xr, hj y yr])
  have l1 : iz (dr ts gap x) = cN ts gap ((chN ts x)[(chN ts x).length - 1]) := by
   unfold iz dr;rw [List.length_map, List.getElem?_map, List.getElem?_eq_getElem (by lia)]
   rfl
  have f1 : bu (dr ts gap y) = cN ts gap ((chN ts y)[0]) := by
   unfold bu dr;rw [List.getElem?_map, List.getElem?_eq_getElem py];rfl
  lia
end
noncomputable abbrev nms (ts : List Nd) : List (List Nat) := bt (lvs ts) ts.length
theorem uE {ts : List Nd} (he : EL ts) {k q : Nat} (hk : k < ts.length) (h0 : 0 < k) (hq : eOf ts k = (q : Int)) : lvN ts k = lvN ts q + 1 := cf he (bq.mpr ⟨hk, hq⟩)
theorem mX (ts : List Nd) (he : EL ts) (h0 : 0 < ts.length) (hl : ts.length ≤ 100) : b5 [.list (aB ts)] = .ok (.ol ((lC (nms ts)).map OD.sh)) := by
 unfold b5 c7;have r1 := m9 (.int 0) ts.length (by lia)
 have r2 : (List.replicate ts.length (PyData.int 0)).map OD.sh = (dc ((List.range ts.length).map fun k => if k ≤ 0 then lvN ts k else 0)).map OD.sh := by
  refine congrArg (List.map OD.sh) ?_;unfold dc;apply List.ext_getElem?
  intro i;rw [List.map_map, List.getElem?_map];by_cases hi : i < ts.length
  ·rw [List.getElem?_range hi, List.getElem?_replicate, if_pos hi]
   show some (PyData.int 0) = some (PyData.int (((if i ≤ 0 then lvN ts i else 0 : Nat)) : Int))
   by_cases h : i ≤ 0
   ·have : i = 0 := by lia
    subst this;rw [if_pos h, lz he h0];rfl
   ·rw [if_neg h]
    rfl
  ·rw [List.getElem?_replicate, if_neg hi, List.getElem?_eq_none (by rw [List.length_range]; lia)]
   rfl
 have s1 : (ay (1 : Int) && ay (ts.length : Int)) = true := by
  rw [eT (by lia) (by lia), eT (by lia) (by lia)]
  rfl
 push_cast only [dG, r1, r2, s1];generalize hL : bI _ _ _ _ = r'
 refine cC hL (fun i ρ => ∃ v2 : Option OD, ρ = [some (.sh (.list (aB ts))), some (.ol ((dc ((List.range ts.length).map fun k => if k ≤ i then lvN ts k else 0)).map OD.sh)), v2]) ⟨_, rfl⟩ ?_ ?_
 ·rintro i d ρ hd ⟨v2, rfl⟩
  obtain ⟨hi, rfl⟩ := eQ hd;have hi : i + 1 < ts.length := by lia
  rw [show (1 : Int) + (i : Int) = ((i + 1 : Nat) : Int) by lia]
  have a3 := h9 hi;have el := he (i + 1) _ (qF hi);have ee : eOf ts (i + 1) = (aY ts (i + 1)).e := (uz hi).symm;have hq : (aY ts (i + 1)).e = (((aY ts (i + 1)).e.toNat : Nat) : Int) := by have := el.2.1 (by lia); lia
  generalize hqd : (aY ts (i + 1)).e.toNat = q at hq
  have hqi : q ≤ i := by have := el.2.2; lia
  have lv := uE he hi (by lia) (q := q) (by rw [ee]; exact hq)
  have g1 : atI (dc ((List.range ts.length).map fun k => if k ≤ i then lvN ts k else 0)) (q : Int) = some (.int ((lvN ts q : Nat) : Int)) := n8 (by
   rw [List.getElem?_map, List.getElem?_range (by lia)]
   show some (if q ≤ i then lvN ts q else 0) = _
   rw [if_pos hqi])
  have ix : ixN ((dc ((List.range ts.length).map fun k => if k ≤ i then lvN ts k else 0)).map OD.sh).length ((i + 1 : Nat) : Int) = some (i + 1) := ij (by rw [List.length_map, jx, List.length_map, List.length_range]; exact hi)
  have st : ((dc ((List.range ts.length).map fun k => if k ≤ i then lvN ts k else 0)).map OD.sh).set (i + 1) (.sh (.int (((lvN ts q : Nat) : Int) + 1))) = (dc ((List.range ts.length).map fun k => if k ≤ i + 1 then lvN ts k else 0)).map OD.sh := by
   apply List.ext_getElem?
   intro m;rw [List.getElem?_set];unfold dc;rw [List.map_map, List.map_map, List.map_map, List.map_map, List.length_map, List.length_range];by_cases hm : m < ts.length
   ·rw [List.getElem?_map, List.getElem?_map, List.getElem?_range hm]
    by_cases e : i + 1 = m
    ·subst e
     rw [if_pos rfl, if_pos hm];show some (OD.sh (.int _)) = some (OD.sh (.int (((if i + 1 ≤ i + 1 then lvN ts (i + 1) else 0 : Nat)) : Int)))
     rw [if_pos (Nat.le_refl _), lv];congr 3
    ·rw [if_neg e]
     show some (OD.sh (.int (((if m ≤ i then lvN ts m else 0 : Nat)) : Int))) = some (OD.sh (.int (((if m ≤ i + 1 then lvN ts m else 0 : Nat)) : Int)))
     by_cases h2 : m ≤ i
     ·rw [if_pos h2, if_pos (by lia)]
     ·rw [if_neg h2, if_neg (by lia)]
   ·rw [List.getElem?_map, List.getElem?_map, List.getElem?_eq_none (l := List.range ts.length) (by rw [List.length_range]; lia), if_neg (by lia)]
    rfl
  push_cast only [a3, hq, c6, g1, v_sub, uq ix, st];exact ⟨_, rfl⟩
 ·rintro ρ' rfl ⟨v2, rfl⟩
  have ef : dc ((List.range ts.length).map fun k => if k ≤ (iM 1 ((ts.length : Int) - 1).toNat).length then lvN ts k else 0) = dc (lvs ts) := by
   refine congrArg dc ?_;apply List.ext_getElem?
   intro m;rw [List.getElem?_map, eI];by_cases hm : m < ts.length
   ·rw [List.getElem?_range hm, List.getElem?_eq_getElem (by rw [bL]; exact hm)]
    show some (if m ≤ ((ts.length : Int) - 1).toNat then lvN ts m else 0) = _
    rw [if_pos (by lia)]
    unfold lvN;rw [List.getElem?_eq_getElem (by rw [bL]; exact hm)]
    rfl
   ·rw [List.getElem?_eq_none (by rw [List.length_range]; lia), List.getElem?_eq_none (by rw [bL]; lia)]
    rfl
  rw [ef];obtain ⟨a, as, hL, hM⟩ := xv he h0;have nl := jU he h0;have mx : gD [.list (dc (lvs ts))] = .ok (.sh (.int (iA (a : Int) (as.map fun k : Nat => (k : Int))))) := by
   have : dc (lvs ts) = PyData.int (a : Int) :: (as.map fun k : Nat => (k : Int)).map PyData.int := by
    rw [hL];unfold dc;rw [List.map_cons, List.map_map];rfl
   rw [this];exact qw _ _
  have s1 : ay (iA (a : Int) (as.map fun k : Nat => (k : Int)) + 1) = true := by rw [hM]; exact eT (by lia) (by lia)
  push_cast only [c6, mx, s1];generalize hC : a7 _ _ _ _ _ _ = rc
  have e := b_ hC (fun j : Nat => PyData.int (0 + (j : Int))) (fun j : Nat => .sh (.list (dc ((List.range ts.length).filter fun k => decide ((((lvs ts)[k]?).getD 0) = j))))) (List.range (bt (lvs ts) ts.length).length) (by rw [hM, Int.toNat_natCast]; rfl) (by rw [List.length_range]; exact of_eq_true (aS (by lia))) (by
   intro j hj;have s2 : ay (ts.length : Int) = true := eT (by lia) (by lia)
   push_cast only [dG, s2];generalize hC2 : a7 _ _ _ _ _ _ = rc2
   have e2 := iR hC2 (fun k : Nat => PyData.int (0 + (k : Int))) (fun k => decide ((((lvs ts)[k]?).getD 0) = j)) (fun k : Nat => .sh (.int (k : Int))) (List.range ts.length) (by rw [Int.toNat_natCast]; rfl) (by rw [List.length_range]; exact of_eq_true (aS (by lia))) (by
    intro k hk;rw [List.mem_range] at hk;obtain ⟨v, hv⟩ : ∃ v, (lvs ts)[k]? = some v := ⟨(lvs ts)[k]'(by rw [bL]; exact hk), by simp⟩
    have ga := n8 hv;have dj : decide ((v : Int) = (0 : Int) + (j : Int)) = decide ((((lvs ts)[k]?).getD 0) = j) := by
     rw [hv];show _ = decide (v = j)
     by_cases h : v = j
     ·rw [decide_eq_true h, decide_eq_true (by lia)]
     ·rw [decide_eq_false h, decide_eq_false (by lia)]
    refine ⟨?_, fun _ => ?_⟩
    ·push_cast only [Int.zero_add, ga]
     rw [← dj, Int.zero_add]
    ·push_cast only [Int.zero_add])
   subst e2;have en : (((List.range ts.length).filter fun k => decide ((((lvs ts)[k]?).getD 0) = j)).map fun k : Nat => OD.sh (.int (k : Int))).map OD.er = dc ((List.range ts.length).filter fun k => decide ((((lvs ts)[k]?).getD 0) = j)) := by
    unfold dc;rw [List.map_map];exact List.map_congr_left fun k _ => bN _
   push_cast only [en])
  subst e;have en : (List.range (bt (lvs ts) ts.length).length).map (fun j : Nat => OD.sh (.list (dc ((List.range ts.length).filter fun k => decide ((((lvs ts)[k]?).getD 0) = j))))) = (lC (bt (lvs ts) ts.length)).map OD.sh := by
   conv => rhs; rw [o4 he]
   unfold lC;rw [List.map_map, List.map_map];rfl
  rw [en];push_cast only [and_self]
noncomputable def jy (ts : List Nd) (gap : Int) (r : List Nat) : List (List Pt) := dm ts gap r :: (((List.range (tlM ts r - 1).toNat).map fun i => cH ts gap r (i + 1)) ++ (if eX ts r = [] then [] else [eY ts gap r]))
noncomputable def fX (ts : List Nd) (gap : Int) (L : List (List Nat)) : List (List Pt) := L.flatMap (jy ts gap)
noncomputable def txO (X : List (List Pt)) : List OD := X.map fun ps => OD.sh (.str (laT ps))
theorem kz (X Y : List (List Pt)) : txO X ++ txO Y = txO (X ++ Y) := by unfold txO; rw [List.map_append]
theorem ky (X : List (List Pt)) : (txO X).length = X.length := by unfold txO; rw [List.length_map]
section
variable {ts : List Nd} {gap : Int}
theorem tp (ht : ∀ k, k < ts.length → 1 ≤ (aY ts k).t ∧ (aY ts k).t ≤ 9) {r : List Nat} (hr : ∀ k ∈ r, k < ts.length) (hn : r ≠ []) : (jy ts gap r).length ≤ 10 := by
 have := nE ht hr hn;unfold jy;rw [List.length_cons, List.length_append, List.length_map, List.length_range];split
 ·rw [List.length_nil]; lia
 ·rw [List.length_singleton]; lia
theorem qW (ht : ∀ k, k < ts.length → 1 ≤ (aY ts k).t ∧ (aY ts k).t ≤ 9) {L : List (List Nat)} (h : ∀ r ∈ L, (∀ k ∈ r, k < ts.length) ∧ r ≠ []) : (fX ts gap L).length ≤ 10 * L.length := by
 unfold fX
 induction L with
 | nil => exact Nat.le_refl _
 | cons r L ih =>
  rw [List.flatMap_cons, List.length_append, List.length_cons];have h1 := h r List.mem_cons_self;have := tp (gap := gap) ht h1.1 h1.2;have := ih fun q m => h q (List.mem_cons_of_mem _ m)
  lia
theorem o6 (he : EL ts) {r : List Nat} (hr : r ∈ nms ts) : Lv ts r ∧ r ≠ [] ∧ r.length ≤ ts.length := by
 have ok := iO he ts.length (Nat.le_refl _);obtain ⟨j, hj⟩ := List.getElem?_of_mem hr;obtain ⟨r1, r2, r3⟩ := ok.row j r hj;have e := o4 he;have hj' := hj;have jl := (List.getElem?_eq_some_iff.mp hj).1;have er : r = (List.range ts.length).filter fun k => decide ((((lvs ts)[k]?).getD 0) = j) := by
  have e2 := congrArg (fun l => l[j]?) e
  rw [hj] at e2;rw [List.getElem?_map, List.getElem?_range jl] at e2;exact Option.some.inj e2
 refine ⟨⟨fun k hk => ((r3 k).mp hk).1, ?_, j, fun k hk => ?_⟩, r1, ?_⟩
 ·rw [er]
  exact List.Pairwise.filter _ List.pairwise_lt_range
 ·rw [er] at hk
  exact of_decide_eq_true (List.mem_filter.mp hk).2
 ·rw [er]
  have := List.length_filter_le (fun k => decide ((((lvs ts)[k]?).getD 0) = j)) (List.range ts.length)
  rw [List.length_range] at this;exact this
theorem lu (C : CF ts gap) (he : EL ts) (h0 : 0 < ts.length) (hl : ts.length ≤ 100) (hlab : ∀ n ∈ ts, n.l.length ≤ 1000) : ∀ (g : Fe) (ρ : L3.Env), g ρ = .ok (.ol (b8 (drw ts gap))) → aZ (c9 g) (gNm 0) bH (eOp fM (ae 0) (eC (.int 256))) 1 [] ρ = .ok (.ol (nO (cL ts gap))) := fun g ρ hg => by
 have dl := wm (ts := ts) (gap := gap) h0;push_cast only [hg, cq];generalize hC : a7 _ _ _ _ _ _ = rc
 have e := b_ hC PyData.int (fun z => .sh (.int (z / 256))) (drw ts gap) rfl (by rw [dl]; exact of_eq_true (aS (by lia))) (by
  intro z _;push_cast only [and_self])
 subst e;push_cast only [and_self];congr 2
 unfold nO nD iL cL;rw [List.map_map, List.map_map, List.map_map];apply List.ext_getElem?
 intro k;rw [List.getElem?_map, List.getElem?_map];by_cases hk : k < ts.length
 ·rw [List.getElem?_range hk, mD (by rw [dl]; exact hk)]
  show some (OD.sh (.int (gv (drw ts gap) k / 256))) = some (OD.sh (.int ((cN ts gap k : Nat) : Int)))
  rw [C.at_ k hk]
 ·rw [List.getElem?_eq_none (by rw [dl]; lia), List.getElem?_eq_none (by rw [List.length_range]; lia)]
  rfl
theorem kT {c : F} (p : PT ts c) (C : CF ts gap) (hb : Lb ts) (hl : ts.length ≤ 40) (ht : ∀ k, k < ts.length → 1 ≤ (aY ts k).t ∧ (aY ts k).t ≤ 9) : dw [.list (aB ts), .int gap] = .ok (.ol (txO (fX ts gap (nms ts)))) := by
 have he := cJ p;have h0 := F.Pf.pos p;have hlab : ∀ n ∈ ts, n.l.length ≤ 1000 := fun n hn => by have := (hb n hn).2.1; lia
 have dk := oy ts gap he h0 (by lia) hlab
 have cc : dZ [.list (aB ts), .int gap] = .ok (.ol (nO (cL ts gap))) := by
  unfold dZ fq;have := lu C he h0 (by lia) hlab (aJ eN (af (ae 0) (af (ae 1) aq))) [some (.sh (.list (aB ts))), some (.sh (.int gap))] (by push_cast only [dk])
  push_cast only [↓this]
 have lv := sI ts he (by lia)
 have nl : (nms ts).length ≤ ts.length := (jU he h0).2;unfold dw ig;push_cast only [cc, gj, lv, oh];have bd : ∀ i, ((fX ts gap ((nms ts).take i)).length : Nat) ≤ 10 * ts.length := fun i => by
  have := qW (gap := gap) ht (L := (nms ts).take i) fun r hr => by
   have := o6 he (List.mem_of_mem_take hr);exact ⟨this.1.lt, this.2.1⟩
  rw [List.length_take] at this
  lia
 generalize hL : bI _ _ _ _ = rr
 refine cC hL (fun i ρ => ∃ v4 v5 : Option OD, ρ = [some (.sh (.list (aB ts))), some (.sh (.int gap)), some (.sh (.list (nD (cL ts gap)))), some (.ol (txO (fX ts gap ((nms ts).take i)))), v4, v5]) ⟨_, _, rfl⟩ ?_ ?_
 ·rintro i d ρ hd ⟨v4, v5, rfl⟩
  unfold lC at hd;rw [List.getElem?_map] at hd;obtain ⟨r, hx, rfl⟩ := Option.map_eq_some_iff.mp hd;have rm : r ∈ nms ts := List.mem_of_getElem? hx;obtain ⟨L, rn, rl⟩ := o6 he rm;have tk : (nms ts).take (i + 1) = (nms ts).take i ++ [r] := take_snoc hx;have nx : fX ts gap ((nms ts).take (i + 1)) = fX ts gap ((nms ts).take i) ++ jy ts gap r := by
   unfold fX;rw [tk, List.flatMap_append, List.flatMap_singleton]
  have b1 := bd i;have l1 := xu C hb (by lia) L.lt (by lia) (rO C hb L)
  have l2 := pT C (by lia) ht L.lt (by lia) rn fun i _ => rh C L i
  have l3 := zI C (by lia) L.lt (by lia) (kf C (by lia) p L)
  have tm := nE ht L.lt rn;rw [← uB, nx];generalize fX ts gap ((nms ts).take i) = Z at b1
  have z1 : ((txO Z).length < BIG) = True := by rw [ky]; exact d_ (by lia)
  have t1 : txO Z ++ [OD.sh (.str (laT (dm ts gap r)))] = txO (Z ++ [dm ts gap r]) := by rw [← kz]; rfl
  have t2 : ((List.range (tlM ts r - 1).toNat).map fun i => OD.sh (.str (laT (cH ts gap r (i + 1))))) = txO ((List.range (tlM ts r - 1).toNat).map fun i => cH ts gap r (i + 1)) := by unfold txO; rw [List.map_map]; rfl
  have z2 : ((txO (Z ++ [dm ts gap r])).length + (txO ((List.range (tlM ts r - 1).toNat).map fun i => cH ts gap r (i + 1))).length ≤ BIG) = True := by
   rw [ky, ky, List.length_append, List.length_map, List.length_range, List.length_singleton];exact aS (by lia)
  have z3 : ((txO (Z ++ [dm ts gap r] ++ (List.range (tlM ts r - 1).toNat).map fun i => cH ts gap r (i + 1))).length < BIG) = True := by
   rw [ky, List.length_append, List.length_append, List.length_map, List.length_range, List.length_singleton];exact d_ (by lia)
  have t3 : txO (Z ++ [dm ts gap r] ++ (List.range (tlM ts r - 1).toNat).map fun i => cH ts gap r (i + 1)) ++ [OD.sh (.str (laT (eY ts gap r)))] = txO (Z ++ [dm ts gap r] ++ ((List.range (tlM ts r - 1).toNat).map fun i => cH ts gap r (i + 1)) ++ [eY ts gap r]) := by rw [← kz (Z ++ [dm ts gap r] ++ _)]; rfl
  have c5 : aZ (c9 (ae 4)) (gNm 0) (aT (eOp gGt (eB c_ (af (aJ aM (af (ae 1) (af (ae 0) aq))) aq)) (eC (.int 0)))) (ae 0) 1 [0] [some (.sh (.list (aB ts))), some (.sh (.int gap)), some (.sh (.list (nD (cL ts gap)))), some (.ol (txO (Z ++ [dm ts gap r] ++ (List.range (tlM ts r - 1).toNat).map fun i => cH ts gap r (i + 1)))), some (.sh (.list (nD r))), v5] = .ok (.ol (nO (eX ts r))) := by
   push_cast only [and_self];generalize hC : a7 _ _ _ _ _ _ = rc
   have e := iR hC (fun k : Nat => PyData.int (k : Int)) (fun k => decide ((0 : Int) < ((chN ts k).length : Int))) (fun k : Nat => .sh (.int (k : Int))) r (gn r) (of_eq_true (aS (by lia))) (by
    intro k hk;have ck := gL ts k (L.lt k hk) (by lia)
    refine ⟨?_, fun _ => ?_⟩
    ·push_cast only [ck, gj, gW]
    ·push_cast only [and_self])
   subst e;push_cast only [and_self];rw [rK];rfl
  have er : jy ts gap r = dm ts gap r :: (((List.range (tlM ts r - 1).toNat).map fun i => cH ts gap r (i + 1)) ++ (if eX ts r = [] then [] else [eY ts gap r])) := rfl
  rw [er];by_cases hc : eX ts r = []
  ·have d2 : decide ((0 : Int) < ((eX ts r).length : Int)) = false := decide_eq_false (by rw [hc]; decide)
   have fin : Z ++ dm ts gap r :: (((List.range (tlM ts r - 1).toNat).map fun i => cH ts gap r (i + 1)) ++ []) = Z ++ [dm ts gap r] ++ (List.range (tlM ts r - 1).toNat).map fun i => cH ts gap r (i + 1) := by simp
   rw [if_pos hc, fin];push_cast only [l1, z1, t1, l2, t2, z2, kz, ↓c5, gj, gW, d2];exact ⟨_, _, rfl⟩
  ·have d2 : decide ((0 : Int) < ((eX ts r).length : Int)) = true := decide_eq_true (by have := List.length_pos_iff.mpr hc; lia)
   have fin : Z ++ dm ts gap r :: (((List.range (tlM ts r - 1).toNat).map fun i => cH ts gap r (i + 1)) ++ [eY ts gap r]) = Z ++ [dm ts gap r] ++ ((List.range (tlM ts r - 1).toNat).map fun i => cH ts gap r (i + 1)) ++ [eY ts gap r] := by simp
   rw [if_neg hc, fin];push_cast only [l1, z1, t1, l2, t2, z2, kz, ↓c5, gj, gW, d2, l3, z3, t3];exact ⟨_, _, rfl⟩
 ·rintro ρ' rfl ⟨v4, v5, rfl⟩
  rw [oT, List.take_of_length_le (Nat.le_refl _)];push_cast only [and_self]
end
theorem mU (ts : List Nd) (c : F) (p : PT ts c) (hl : ts.length ≤ 100) (a : Nat) (ha : a < ts.length) : bh [.list (aB ts), .int (a : Int)] = .ok (.ol (nO (chN ts a))) := by
 unfold bh fi;have s1 : (ay ((a : Int) + 1) && ay (ts.length : Int)) = true := by
  rw [eT (by lia) (by lia), eT (by lia) (by lia)]
  rfl
 push_cast only [dG, s1];generalize hC : a7 _ _ _ _ _ _ = rc
 have e := iR hC (fun j : Nat => PyData.int ((a : Int) + 1 + (j : Int))) (fun j => decide (eOf ts (a + 1 + j) = (a : Int))) (fun j : Nat => .sh (.int ((a + 1 + j : Nat) : Int))) (List.range (ts.length - (a + 1))) (by
  rw [show ((ts.length : Int) - ((a : Int) + 1)).toNat = ts.length - (a + 1) by lia]
  rfl) (by rw [List.length_range]; exact of_eq_true (aS (by lia))) (by
  intro j hj;rw [List.mem_range] at hj;obtain ⟨n, hn⟩ : ∃ n, ts[a + 1 + j]? = some n := ⟨ts[a + 1 + j]'(by lia), by simp⟩
  have g1 := k_ hn;have ee := dn hn;have x1 : (a : Int) + 1 + (j : Int) = ((a + 1 + j : Nat) : Int) := by lia
  rw [x1, ee];refine ⟨?_, fun _ => ?_⟩
  ·push_cast only [g1]
  ·push_cast only [and_self])
 subst e;have cb := rW p ha;have em : (List.filter (fun j => decide (eOf ts (a + 1 + j) = (a : Int))) (List.range (ts.length - (a + 1)))).map (fun j : Nat => OD.sh (.int ((a + 1 + j : Nat) : Int))) = nO (chN ts a) := by
  rw [← cb];unfold nO nD iL;rw [List.map_map, List.map_map, List.map_map];rfl
 push_cast only [and_self];rw [em]
theorem tU (L : List Nat) : gNe (.list (nD L)) (.list []) = .ok (.sh (.bool (decide (L ≠ [])))) := by
 cases L with
 | nil =>
  have := iC (a := ([] : List PyData)) (lay_ints []);rw [decide_eq_false (by simp)]
  exact this
 | cons a L =>
  rw [decide_eq_true (by simp)]
  exact wD (ns := iL (a :: L)) (by unfold iL; rw [List.map_cons]; exact List.cons_ne_nil _ _)
section
variable {ts : List Nd} {gap : Int} {r : List Nat}
theorem xR {c : F} (p : PT ts c) (C : CF ts gap) (hl : ts.length ≤ 100) {k : Nat} (hk : k < ts.length) (hc : chN ts k ≠ []) : eg [.list (aB ts), .int (k : Int), .list (nD (cL ts gap))] = .ok (.sh (ptD (jZ ts gap k))) := by
 unfold eg gM;have lb := mU ts c p hl k hk;have cl := mO ts k;have c1 : aZ (c9 (aJ bh (af (ae 0) (af (ae 1) aq)))) (gNm 0) bH (eOp gIx (ae 1) (ae 0)) 1 [2] [some (.sh (.list (aB ts))), some (.sh (.int (k : Int))), some (.sh (.list (nD (cL ts gap)))), none, none, none, none] = .ok (.ol ((chN ts k).map fun j => OD.sh (.int ((cN ts gap j : Nat) : Int)))) := by
  push_cast only [lb, gj];generalize hC : a7 _ _ _ _ _ _ = rc
  have e := b_ hC (fun k : Nat => PyData.int (k : Int)) (fun j => .sh (.int ((cN ts gap j : Nat) : Int))) (chN ts k) (gn _) (of_eq_true (aS (by lia))) (by
   intro j hj;have a1 := ki (gap := gap) (bq.mp hj).1;push_cast only [a1])
  subst e;push_cast only [and_self]
 have be := t_ (ts := ts) (gap := gap) k;have hn := qc (gap := gap) hc;have f1 := pX hn;have l1 := uT hn;have a0 := ki (gap := gap) hk;obtain ⟨x1, x2⟩ := uX C hl hk hc;have e0 : ptD (jZ ts gap k) = .tuple [.int ((bu (dr ts gap k) : Nat) : Int), .str (sS (lP (cN ts gap k) (dr ts gap k)))] := rfl;rw [e0];unfold lP;generalize dr ts gap k = bs at be hn f1 l1 x1 x2
 generalize cN ts gap k = own at a0
 have s1 : (ay ((bu bs : Nat) : Int) && ay ((iz bs : Nat) + 1 : Int)) = true := by
  rw [eT (by lia) (by lia), eT (by lia) (by lia)]
  rfl
 have hN : ((iz bs : Int) + 1 - (bu bs : Int)).toNat = iz bs + 1 - bu bs := by lia
 push_cast only [↓c1, be, f1, l1, s1];generalize hL : bI _ _ _ _ = r
 refine cC hL (fun i ρ => ∃ v5 v6 : Option OD, ρ = [some (.sh (.list (aB ts))), some (.sh (.int (k : Int))), some (.sh (.list (nD (cL ts gap)))), some (.sh (.list (nD bs))), some (.sh (.str (sS ((List.range i).map fun i => d4 own bs (bu bs + i))))), v5, v6]) ⟨_, _, rfl⟩ ?_ ?_
 ·rintro i d ρ hd ⟨v5, v6, rfl⟩
  obtain ⟨hi, rfl⟩ := eQ hd;rw [hN] at hi;have x1' : ((bu bs : Nat) : Int) + (i : Int) = ((bu bs + i : Nat) : Int) := by lia
  rw [x1'];have inn := yz bs (bu bs + i);have nx : (List.range (i + 1)).map (fun i => d4 own bs (bu bs + i)) = (List.range i).map (fun i => d4 own bs (bu bs + i)) ++ [d4 own bs (bu bs + i)] := by rw [List.range_succ, List.map_append]; rfl
  rw [nx];have lb : ∀ c : Nat, ((sS ((List.range i).map fun i => d4 own bs (bu bs + i))).length + (chS c).length ≤ BIG) = True := fun c => eq_true (by
   rw [bP, bP];show (cs (sS _)).length + 1 ≤ BIG
   rw [eD, List.length_map, List.length_range];have : (8000003 : Nat) ≤ BIG := by decide +kernel
   lia)
  have c1 : Str.ofString "#" = chS 35 := by decide +kernel
  have c2 : Str.ofString "^" = chS 94 := by decide +kernel
  have c3 : Str.ofString "+" = chS 43 := by decide +kernel
  have c4 : Str.ofString "-" = chS 45 := by decide +kernel
  by_cases ho : bu bs + i = own
  ·have d1 : decide (((bu bs + i : Nat) : Int) = (own : Int)) = true := decide_eq_true (by lia)
   by_cases hm : bu bs + i ∈ bs
   ·have e : d4 own bs (bu bs + i) = 35 := by unfold d4; rw [if_pos ho, if_pos hm]
    rw [e];push_cast only [inn, decide_eq_true hm, a0, d1, c1, c2, c3, c4, kh, lb, gN];exact ⟨_, _, rfl⟩
   ·have e : d4 own bs (bu bs + i) = 94 := by unfold d4; rw [if_pos ho, if_neg hm]
    rw [e];push_cast only [inn, decide_eq_false hm, a0, d1, c1, c2, c3, c4, kh, lb, gN];exact ⟨_, _, rfl⟩
  ·have d1 : decide (((bu bs + i : Nat) : Int) = (own : Int)) = false := decide_eq_false (by lia)
   by_cases hm : bu bs + i ∈ bs
   ·have e : d4 own bs (bu bs + i) = 43 := by unfold d4; rw [if_neg ho, if_pos hm]
    rw [e];push_cast only [inn, decide_eq_true hm, a0, d1, c1, c2, c3, c4, kh, lb, gN];exact ⟨_, _, rfl⟩
   ·have e : d4 own bs (bu bs + i) = 45 := by unfold d4; rw [if_neg ho, if_neg hm]
    rw [e];push_cast only [inn, decide_eq_false hm, a0, d1, c1, c2, c3, c4, kh, lb, gN];exact ⟨_, _, rfl⟩
 ·rintro ρ' rfl ⟨v5, v6, rfl⟩
  rw [eI, hN];push_cast only [f1]
theorem Cg (k i : Nat) : nbP (cN ts gap k, sgS ts k i) = (decide ((i : Int) < (aY ts k).t) || decide (chN ts k ≠ [])) := by
 unfold nbP sgS
 dsimp only
 by_cases h1 : (i : Int) < (aY ts k).t
 ·rw [if_pos h1, decide_eq_true h1]
  rfl
 ·rw [if_neg h1, decide_eq_false h1]
  by_cases h2 : chN ts k = []
  ·rw [if_pos h2, decide_eq_false (p := chN ts k ≠ []) (fun z => z h2)]
   rfl
  ·rw [if_neg h2, decide_eq_true (p := chN ts k ≠ []) h2]
   rfl
theorem tw {c : F} (p : PT ts c) (hl : ts.length ≤ 100) (hr : ∀ k ∈ r, k < ts.length) (hrl : r.length ≤ 100) (i : Nat) : eF [.list (aB ts), .list (nD r), .list (nD (cL ts gap)), .int (i : Int)] = .ok (.ol (((cH ts gap r i).filter nbP).map fun x => OD.sh (ptD x))) := by
 unfold eF fQ;push_cast only [and_self];generalize hL : bI _ _ _ _ = rr
 refine cC hL (fun m ρ => ∃ v5 : Option OD, ρ = [some (.sh (.list (aB ts))), some (.sh (.list (nD r))), some (.sh (.list (nD (cL ts gap)))), some (.sh (.int (i : Int))), some (.ol (((cH ts gap (r.take m) i).filter nbP).map fun x => OD.sh (ptD x))), v5]) ⟨_, rfl⟩ ?_ ?_
 ·rintro m d ρ hd ⟨v5, rfl⟩
  rw [gn, List.getElem?_map] at hd;obtain ⟨k, hx, rfl⟩ := Option.map_eq_some_iff.mp hd;have hk := hr k (List.mem_of_getElem? hx);have a0 := ki (gap := gap) hk;have a3 := h9 hk;have lb := mU ts c p hl k hk;have ne := tU (chN ts k);have tk : r.take (m + 1) = r.take m ++ [k] := take_snoc hx;have nx : cH ts gap (r.take (m + 1)) i = cH ts gap (r.take m) i ++ [(cN ts gap k, sgS ts k i)] := by unfold cH; rw [tk, List.map_append]; rfl
  have nb := Cg (ts := ts) (gap := gap) k i;have tl : ((cH ts gap (r.take m) i).filter nbP).length ≤ 100 := Nat.le_trans (List.length_filter_le _ _) (by unfold cH; rw [List.length_map, List.length_take]; lia)
  rw [nx, List.filter_append];generalize (cH ts gap (r.take m) i).filter nbP = Z at tl
  have z1 : (Z.length < BIG) = True := d_ (by lia)
  have c1 : Str.ofString ":" = chS 58 := by decide +kernel
  have c2 : Str.ofString "|" = chS 124 := by decide +kernel
  have ap : ∀ s : Str, (Z.map fun x => OD.sh (ptD x)) ++ [OD.sh (.tuple [.int ((cN ts gap k : Nat) : Int), .str s])] = (Z ++ [(cN ts gap k, s)]).map fun x => OD.sh (ptD x) := fun s => by rw [List.map_append]; rfl
  by_cases h1 : (i : Int) < (aY ts k).t
  ·have e : sgS ts k i = chS 58 := by unfold sgS; rw [if_pos h1]
   rw [decide_eq_true h1, Bool.true_or] at nb;rw [List.filter_cons, if_pos nb, List.filter_nil, e];push_cast only [a3, decide_eq_true h1, a0, c1, z1, ap];exact ⟨_, rfl⟩
  ·by_cases h2 : chN ts k = []
   ·rw [decide_eq_false h1, decide_eq_false (p := chN ts k ≠ []) (fun z => z h2), Bool.false_or] at nb
    rw [List.filter_cons, if_neg (by rw [nb]; exact Bool.false_ne_true), List.filter_nil, List.append_nil]
    rw [decide_eq_false (p := chN ts k ≠ []) (fun z => z h2)] at ne
    push_cast only [a3, decide_eq_false h1, lb, gj, ne];exact ⟨_, rfl⟩
   ·have e : sgS ts k i = chS 124 := by unfold sgS; rw [if_neg h1, if_neg h2]
    rw [decide_eq_true (p := chN ts k ≠ []) h2, Bool.or_true] at nb;rw [List.filter_cons, if_pos nb, List.filter_nil, e];rw [decide_eq_true (p := chN ts k ≠ []) h2] at ne;push_cast only [a3, decide_eq_false h1, lb, gj, ne, a0, c2, z1, ap];exact ⟨_, rfl⟩
 ·rintro ρ' rfl ⟨v5, rfl⟩
  rw [gW, List.take_of_length_le (Nat.le_refl _)];push_cast only [and_self]
end
noncomputable def mZ (ps : List Pt) : PyData := .list ((ps.filter nbP).map ptD)
noncomputable def duO (X : List (List Pt)) : List OD := X.map fun ps => OD.sh (mZ ps)
theorem xj (X Y : List (List Pt)) : duO X ++ duO Y = duO (X ++ Y) := by unfold duO; rw [List.map_append]
theorem mV (X : List (List Pt)) : (duO X).length = X.length := by unfold duO; rw [List.length_map]
theorem um {a : PyData} {as : List PyData} {n : Nat} (h : lay n (.list (a :: as))) (hn : n ≤ 64) : gNe (.list (a :: as)) (.list []) = .ok (.sh (.bool true)) := by
 unfold gNe;rw [jG];unfold ji;rw [eV h hn, show SeqAt.shaped (.list []) = true from eV (lay_ints []) (by decide), Bool.and_self, if_pos rfl]
 have : PyData.eqv (.list (a :: as)) (.list []) = false := by unfold PyData.eqv PyData.eqvAll; rfl
 rw [this];rfl
theorem kX (Z : List (List Pt)) (ps : List Pt) : duO Z ++ [OD.sh (mZ ps)] = duO (Z ++ [ps]) := by rw [← xj]; rfl
theorem oF {w : Str} (h : ∀ c ∈ cs w, c < 128) : PyData.strOk w = true := by
 unfold PyData.strOk;rw [Array.all_eq_true'];intro c hc;have := h c (by unfold cs; simpa using hc)
 simp
 lia
theorem qY {ps : List Pt} (h : ∀ x ∈ ps, ∀ c ∈ cs x.2, c < 128) : lay 2 (.list (ps.map ptD)) := jJ fun d hd => by
 obtain ⟨x, hx, rfl⟩ := List.mem_map.mp hd;exact mr fun y hy => by
  simp only [List.mem_cons, List.not_mem_nil, or_false] at hy;rcases hy with rfl | rfl
  ·exact kA _
  ·exact mT (oF (h x hx))
section
variable {ts : List Nd} {gap : Int} {r : List Nat}
theorem zw (hb : Lb ts) (hr : ∀ k ∈ r, k < ts.length) : (dm ts gap r).filter nbP = dm ts gap r := by
 rw [List.filter_eq_self];intro x hx;obtain ⟨k, hk, rfl⟩ := List.mem_map.mp hx;have lb := hb _ (k7 (hr k hk));unfold nbP;rw [Bool.not_eq_true', decide_eq_false_iff_not];intro z;have : (32 : Nat) ∈ cs (aY ts k).l := by
  have z : cs (aY ts k).l = [32] := z;rw [z];exact List.mem_cons_self
 have := lb.2.2 32 this
 lia
theorem zZ : (eY ts gap r).filter nbP = eY ts gap r := by
 rw [List.filter_eq_self];intro x hx;obtain ⟨k, hk, rfl⟩ := List.mem_map.mp hx;unfold nbP;rw [Bool.not_eq_true', decide_eq_false_iff_not];intro z;have z : cs (sS (lP (cN ts gap k) (dr ts gap k))) = [32] := z;rw [eD] at z;have : (32 : Nat) ∈ lP (cN ts gap k) (dr ts gap k) := by rw [z]; exact List.mem_cons_self
 obtain ⟨i, _, e⟩ := List.mem_map.mp this;have := rq (cN ts gap k) (dr ts gap k) (bu (dr ts gap k) + i)
 lia
theorem uH {c : F} (p : PT ts c) (C : CF ts gap) (hb : Lb ts) (hl : ts.length ≤ 40) (ht : ∀ k, k < ts.length → 1 ≤ (aY ts k).t ∧ (aY ts k).t ≤ 9) : fB [.list (aB ts), .list (nD (cL ts gap))] = .ok (.ol (duO (fX ts gap (nms ts)))) := by
 have he := cJ p;have h0 := F.Pf.pos p;unfold fB gQ;have lv := mX ts he h0 (by lia)
 have nl : (nms ts).length ≤ ts.length := (jU he h0).2;push_cast only [lv, c6];have bd : ∀ i, ((fX ts gap ((nms ts).take i)).length : Nat) ≤ 10 * ts.length := fun i => by
  have := qW (gap := gap) ht (L := (nms ts).take i) fun r hr => by
   have := o6 he (List.mem_of_mem_take hr);exact ⟨this.1.lt, this.2.1⟩
  rw [List.length_take] at this
  lia
 generalize hL : bI _ _ _ _ = rr
 refine cC hL (fun i ρ => ∃ v3 v4 v5 : Option OD, ρ = [some (.sh (.list (aB ts))), some (.sh (.list (nD (cL ts gap)))), some (.ol (duO (fX ts gap ((nms ts).take i)))), v3, v4, v5]) ⟨_, _, _, rfl⟩ ?_ ?_
 ·rintro i d ρ hd ⟨v3, v4, v5, rfl⟩
  unfold lC at hd;rw [List.getElem?_map] at hd;obtain ⟨r, hx, rfl⟩ := Option.map_eq_some_iff.mp hd;have rm : r ∈ nms ts := List.mem_of_getElem? hx;obtain ⟨L, rn, rl⟩ := o6 he rm;have tk : (nms ts).take (i + 1) = (nms ts).take i ++ [r] := take_snoc hx;have nx : fX ts gap ((nms ts).take (i + 1)) = fX ts gap ((nms ts).take i) ++ jy ts gap r := by
   unfold fX;rw [tk, List.flatMap_append, List.flatMap_singleton]
  have b1 := bd i;have tm := nE ht L.lt rn;rw [← uB, nx];generalize fX ts gap ((nms ts).take i) = Z at b1
  have z1 : ((duO Z).length < BIG) = True := by rw [mV]; exact d_ (by lia)
  have c1 : aZ (c9 (ae 3)) (gNm 0) bH (gG (af (eOp eU (eOp gIx (ae 1) (ae 0)) (eOp fM (eB c_ (af (eOp gIx (eOp gIx (ae 2) (ae 0)) (eC (.int 1))) aq)) (eC (.int 2)))) (af (eOp gIx (eOp gIx (ae 2) (ae 0)) (eC (.int 1))) aq))) 1 [1, 0] [some (.sh (.list (aB ts))), some (.sh (.list (nD (cL ts gap)))), some (.ol (duO Z)), some (.sh (.list (nD r))), v4, v5] = .ok (.ol (r.map fun k => OD.sh (ptD (cN ts gap k - rL ts k, (aY ts k).l)))) := by
   push_cast only [and_self];generalize hC : a7 _ _ _ _ _ _ = rc
   have e := b_ hC (fun k : Nat => PyData.int (k : Int)) (fun k => .sh (ptD (cN ts gap k - rL ts k, (aY ts k).l))) r (gn r) (of_eq_true (aS (by lia))) (by
    intro k hk;have hk := L.lt k hk;have a1 := ki (gap := gap) hk;have a3 := h9 hk;have lo := C.lo k hk;have lb := (hb _ (k7 hk)).2.1;have bb : ((aY ts k).l.length ≤ BIG) = True := aS (by lia)
    have sb : ((cN ts gap k : Nat) : Int) - ((aY ts k).l.length : Int) / 2 = ((cN ts gap k - rL ts k : Nat) : Int) := by unfold rL at *; lia
    unfold ptD;push_cast only [a1, a3, bb, sb])
   subst e;push_cast only [and_self]
  have m1 : (r.map fun k => OD.sh (ptD (cN ts gap k - rL ts k, (aY ts k).l))).map OD.er = (dm ts gap r).map ptD := by
   unfold dm;rw [List.map_map, List.map_map];exact List.map_congr_left fun z _ => bN _
  have t1 : duO Z ++ [OD.sh (.list ((dm ts gap r).map ptD))] = duO (Z ++ [dm ts gap r]) := by
   have q : PyData.list ((dm ts gap r).map ptD) = mZ (dm ts gap r) := by
    unfold mZ;rw [zw hb L.lt]
   rw [q, kX]
  have c2 : eB gD (af (aZ (c9 (ae 3)) (gNm 0) bH (eOp gIx (eOp gIx (ae 1) (ae 0)) (eC (.int 2))) 1 [0]) aq) [some (.sh (.list (aB ts))), some (.sh (.list (nD (cL ts gap)))), some (.ol (duO (Z ++ [dm ts gap r]))), some (.sh (.list (nD r))), v4, v5] = .ok (.sh (.int (tlM ts r))) := by
   refine qL L.lt (by lia) rn _ _ ?_
   push_cast only [and_self];generalize hC : a7 _ _ _ _ _ _ = rc
   have e := b_ hC (fun k : Nat => PyData.int (k : Int)) (fun k => .sh (.int (aY ts k).t)) r (gn r) (of_eq_true (aS (by lia))) (by
    intro k hk;have a3 := h9 (L.lt k hk);push_cast only [a3])
   subst e;push_cast only [and_self]
  have s1 : (ay (1 : Int) && ay (tlM ts r)) = true := by
   rw [eT (by lia) (by lia), eT (by lia) (by lia)]
   rfl
  push_cast only [↓c1, m1, z1, t1, ↓c2, s1];generalize hL2 : bI _ _ _ _ = rr2
  refine cC hL2 (fun m ρ => ∃ v4 : Option OD, ρ = [some (.sh (.list (aB ts))), some (.sh (.list (nD (cL ts gap)))), some (.ol (duO (Z ++ [dm ts gap r] ++ (List.range m).map fun i => cH ts gap r (i + 1)))), some (.sh (.list (nD r))), v4, v5]) ⟨_, by rw [List.range_zero, List.map_nil, List.append_nil]⟩ ?_ ?_
  ·rintro m d ρ hd2 ⟨v4, rfl⟩
   obtain ⟨hm, rfl⟩ := eQ hd2;rw [show (1 : Int) + (m : Int) = ((m + 1 : Nat) : Int) by lia]
   have lt := tw (gap := gap) p (by lia) L.lt (by lia) (m + 1)
   have m2 : (((cH ts gap r (m + 1)).filter nbP).map fun x => OD.sh (ptD x)).map OD.er = ((cH ts gap r (m + 1)).filter nbP).map ptD := by
    rw [List.map_map];exact List.map_congr_left fun z _ => bN _
   have nx2 : Z ++ [dm ts gap r] ++ (List.range (m + 1)).map (fun i => cH ts gap r (i + 1)) = (Z ++ [dm ts gap r] ++ (List.range m).map fun i => cH ts gap r (i + 1)) ++ [cH ts gap r (m + 1)] := by
    rw [List.range_succ, List.map_append, ← List.append_assoc];rfl
   rw [nx2];have zl : (Z ++ [dm ts gap r] ++ (List.range m).map fun i => cH ts gap r (i + 1)).length ≤ 500 := by
    rw [List.length_append, List.length_append, List.length_map, List.length_range, List.length_singleton]
    lia
   generalize (Z ++ [dm ts gap r] ++ (List.range m).map fun i => cH ts gap r (i + 1)) = Y at zl
   have z2 : ((duO Y).length < BIG) = True := by rw [mV]; exact d_ (by lia)
   have t2 : duO Y ++ [OD.sh (.list (((cH ts gap r (m + 1)).filter nbP).map ptD))] = duO (Y ++ [cH ts gap r (m + 1)]) := kX Y (cH ts gap r (m + 1));push_cast only [lt, m2, z2, t2];exact ⟨_, rfl⟩
  ·rintro ρ' rfl ⟨v4, rfl⟩
   rw [eI];have yl : (Z ++ [dm ts gap r] ++ (List.range (tlM ts r - 1).toNat).map fun i => cH ts gap r (i + 1)).length ≤ 500 := by
    rw [List.length_append, List.length_append, List.length_map, List.length_range, List.length_singleton]
    lia
   have er : Z ++ jy ts gap r = (Z ++ [dm ts gap r] ++ (List.range (tlM ts r - 1).toNat).map fun i => cH ts gap r (i + 1)) ++ (if eX ts r = [] then [] else [eY ts gap r]) := by
    unfold jy;simp
   rw [er];generalize (Z ++ [dm ts gap r] ++ (List.range (tlM ts r - 1).toNat).map fun i => cH ts gap r (i + 1)) = Y at yl
   have c5 : aZ (c9 (ae 3)) (gNm 0) (aT (eOp gNe (aJ bh (af (ae 1) (af (ae 0) aq))) (eE aq))) (eSh (aJ eg (af (ae 1) (af (ae 0) (af (ae 2) aq))))) 1 [0, 1] [some (.sh (.list (aB ts))), some (.sh (.list (nD (cL ts gap)))), some (.ol (duO Y)), some (.sh (.list (nD r))), v4, v5] = .ok (.ol ((eX ts r).map fun k => OD.sh (ptD (jZ ts gap k)))) := by
    push_cast only [and_self];generalize hC : a7 _ _ _ _ _ _ = rc
    have e := iR hC (fun k : Nat => PyData.int (k : Int)) (fun k => decide ((0 : Int) < ((chN ts k).length : Int))) (fun k : Nat => .sh (ptD (jZ ts gap k))) r (gn r) (of_eq_true (aS (by lia))) (by
     intro k hk;have lb := mU ts c p (by lia) k (L.lt k hk)
     have ne := tU (chN ts k);by_cases hc : chN ts k = []
     ·rw [decide_eq_false (p := chN ts k ≠ []) (fun z => z hc)] at ne
      have d0 : decide ((0 : Int) < ((chN ts k).length : Int)) = false := decide_eq_false (by rw [hc]; decide)
      rw [d0];refine ⟨?_, fun h => by cases h⟩
      push_cast only [lb, gj, ne]
     ·rw [decide_eq_true (p := chN ts k ≠ []) hc] at ne
      have d0 : decide ((0 : Int) < ((chN ts k).length : Int)) = true := decide_eq_true (by have := List.length_pos_iff.mpr hc; lia)
      rw [d0];have br := xR p C (by lia) (L.lt k hk) hc
      refine ⟨?_, fun _ => ?_⟩
      ·push_cast only [lb, gj, ne]
      ·push_cast only [br])
    subst e;push_cast only [and_self];rfl
   have m5 : ((eX ts r).map fun k => OD.sh (ptD (jZ ts gap k))).map OD.er = (eY ts gap r).map ptD := by
    unfold eY;rw [List.map_map, List.map_map];exact List.map_congr_left fun z _ => bN _
   have z5 : ((duO Y).length < BIG) = True := by rw [mV]; exact d_ (by lia)
   have t5 : duO Y ++ [OD.sh (.list ((eY ts gap r).map ptD))] = duO (Y ++ [eY ts gap r]) := by
    have q : PyData.list ((eY ts gap r).map ptD) = mZ (eY ts gap r) := by
     unfold mZ;rw [zZ]
    rw [q, kX]
   by_cases hc : eX ts r = []
   ·have ne : gNe (.list ((eY ts gap r).map ptD)) (.list []) = .ok (.sh (.bool false)) := by
     unfold eY;rw [hc];exact iC (a := []) (lay_ints [])
    rw [if_pos hc, List.append_nil];push_cast only [↓c5, m5, ne];exact ⟨_, _, _, rfl⟩
   ·have ne : gNe (.list ((eY ts gap r).map ptD)) (.list []) = .ok (.sh (.bool true)) := by
     have ly := qY (kf C (by lia) p L).asc
     have hne : (eY ts gap r).map ptD ≠ [] := fun z => hc (by
      unfold eY at z;rw [List.map_eq_nil_iff, List.map_eq_nil_iff] at z;exact z)
     generalize (eY ts gap r).map ptD = ds at ly hne
     cases ds with
     | nil => exact absurd rfl hne
     | cons a as => exact um ly (by decide)
    rw [if_neg hc];push_cast only [↓c5, m5, ne, z5, t5];exact ⟨_, _, _, rfl⟩
 ·rintro ρ' rfl ⟨v3, v4, v5, rfl⟩
  rw [oT, List.take_of_length_le (Nat.le_refl _)];push_cast only [and_self]
end
structure Good (ts : List Nd) (c : F) : Prop where
 p : PT ts c
 lb : Lb ts
 dp : Dp ts 8
 len : ts.length ≤ 40
 tall : ∀ k, k < ts.length → 1 ≤ (aY ts k).t ∧ (aY ts k).t ≤ 9
theorem rG {ts : List Nd} {c : F} (G : Good ts c) {gap : Int} (C : CF ts gap) : ∀ ps ∈ fX ts gap (nms ts), RowOk ps := by
 intro ps hps;have he := cJ G.p;obtain ⟨r, hr, hx⟩ := List.mem_flatMap.mp hps;obtain ⟨L, rn, rl⟩ := o6 he hr;unfold jy at hx;rcases List.mem_cons.mp hx with rfl | hx
 ·exact rO C G.lb L
 ·rcases List.mem_append.mp hx with hx | hx
  ·obtain ⟨i, _, rfl⟩ := List.mem_map.mp hx
   exact rh C L _
  ·split at hx
   ·cases hx
   ·rw [List.mem_singleton] at hx
    subst hx;exact kf C (by have := G.len; lia) G.p L
theorem uR (X : List (List Pt)) : (txO X).map OD.er = X.map fun ps => PyData.str (laT ps) := by
 unfold txO;rw [List.map_map];exact List.map_congr_left fun z _ => bN _
theorem Bk (X : List (List Pt)) : (duO X).map OD.er = X.map mZ := by
 unfold duO;rw [List.map_map];exact List.map_congr_left fun z _ => bN _
theorem qP {ts : List Nd} {c : F} (G : Good ts c) (gap : Int) (g1 : 1 ≤ gap) (g2 : gap ≤ 20) : dI [.list (aB ts), .int gap] = .ok (.sh (.bool true)) := by
 have p := G.p;have he := cJ p;have h0 := F.Pf.pos p;have hl := G.len;have hlab : ∀ n ∈ ts, n.l.length ≤ 1000 := fun n hn => by have := (G.lb n hn).2.1; lia
 have C := qZ p G.lb G.dp G.len gap g1 g2;have dk := oy ts gap he h0 (by lia) hlab
 have pk := kT p C G.lb G.len G.tall;have du := uH p C G.lb G.len G.tall;have ne1 : gNe (.list (aB ts)) (.list (aB ts)) = .ok (.sh (.bool false)) := iC (xw G.lb);have ar := rG G C;unfold dI fP;have cc := lu C he h0 (by lia) hlab (aJ eN (af (ae 0) (af (ae 1) aq))) [some (.sh (.list (aB ts))), some (.sh (.int gap)), some (.sh (.list (aB ts))), some (.sh (.list ((fX ts gap (nms ts)).map fun ps => PyData.str (laT ps)))), none, none, none] (by push_cast only [dk])
 generalize fX ts gap (nms ts) = A at pk du ar cc
 have d1 : decide (((A.length : Nat) : Int) = ((A.length : Nat) : Int)) = true := decide_eq_true rfl;push_cast only [c6, pk, uR, ↓cc, gj, du, Bk, d1, ne1];generalize hL : bI _ _ _ _ = rr
 refine cC hL (fun i ρ => ∃ v5 v6 : Option OD, ρ = [some (.sh (.list (aB ts))), some (.sh (.int gap)), some (.sh (.list (aB ts))), some (.sh (.list (A.map fun ps => PyData.str (laT ps)))), some (.sh (.list (A.map mZ))), v5, v6]) ⟨_, _, rfl⟩ ?_ ?_
 ·rintro i d ρ hd ⟨v5, v6, rfl⟩
  obtain ⟨x, y, hx, hy, rfl⟩ := lB hd;rw [List.getElem?_map] at hx hy;obtain ⟨ps, h1, rfl⟩ := Option.map_eq_some_iff.mp hx;rw [h1] at hy;cases hy;have rk := ar ps (List.mem_of_getElem? h1);have lk := u7 rk;have hu1 := Classical.choose_spec lk;generalize Classical.choose lk = u at hu1
  have u1 := hu1.1;have u2 := hu1.2.1;have u3 := hu1.2.2.1;have u4 := hu1.2.2.2.1;have ul : (laT ps).length ≤ 9000000 := by
   rw [u1, bP];show (cs (sS u)).length ≤ _
   rw [eD];exact u4
  have sl := qk u u2;rw [← u1] at sl;have pt := uu (laT ps) ul;rw [u3] at pt;have m1 : ((ps.filter nbP).map fun x => OD.sh (ptD x)).map OD.er = (ps.filter nbP).map ptD := by
   rw [List.map_map];exact List.map_congr_left fun z _ => bN _
  have ne : gNe (.list ((ps.filter nbP).map ptD)) (.list ((ps.filter nbP).map ptD)) = .ok (.sh (.bool false)) := iC (qY fun x hx => rk.asc x (List.mem_filter.mp hx).1)
  have bg : ((laT ps).length ≤ BIG) = True := eq_true (Nat.le_trans ul (by decide +kernel))
  unfold mZ;push_cast only [BA, bg, sl, pt, m1, ne];exact ⟨_, _, rfl⟩
 ·rintro ρ' rfl ⟨v5, v6, rfl⟩
  push_cast only [and_self]
theorem sf {L : List PyData} (h : ∀ d ∈ L, flat d = true) : q_ (.ol (L.map OD.sh)) = .ok (.ol (L.map OD.sh)) := by
 have f : ((L.map OD.sh).all fun y => flat y.er) = true := by
  rw [List.all_map, List.all_eq_true];intro x hx;show flat (OD.sh x).er = true
  rw [bN];exact h x hx
 show (if ((L.map OD.sh).all fun y => flat y.er) = true then R.ok (OD.ol ((L.map OD.sh).map fun y => .sh y.er)) else .bad) = _
 rw [if_pos f, List.map_map];have : (fun d => OD.sh d) = ((fun y : OD => OD.sh y.er) ∘ OD.sh) := funext fun d => by
  show OD.sh d = OD.sh (OD.sh d).er
  rw [bN]
 rw [← this]
noncomputable def thr (ts : List Nd) : List Nd := ts.map fun n => ⟨n.e, n.l, 1 + n.t % 3⟩
theorem tu (ns : List Int) (hn : ns.length ≤ 63) : lr [.list (ns.map PyData.int)] = .ok (.sh (.bool true)) := by
 unfold lr mS;obtain ⟨z, hz⟩ := mK ns 0 (by decide) (by decide)
 obtain ⟨z1, hz1⟩ := mK ns 1 (by decide) (by decide)
 have hm := d9 z (show (0 : Int) < 16 by decide)
 have hm2 := d9 (z / 256) (show (0 : Int) < 24 by decide)
 obtain ⟨many, hmany, e1⟩ : ∃ many : Nat, (1 ≤ many ∧ many ≤ 40) ∧ sIf (aT (eOp gEq (eOp fF (eOp fM (ae 1) (eC (.int 16))) (eC (.int 16))) (eC (.int 5)))) (aN 2 (eOp cR (eC (.int 17)) (eOp fF (eOp fM (ae 1) (eC (.int 256))) (eC (.int 24))))) sNx [some (.sh (.list (ns.map PyData.int))), some (.sh (.int z)), some (.sh (.int (1 + z % 16))), none, none, none, none, none, none] = .ok (.nx [some (.sh (.list (ns.map PyData.int))), some (.sh (.int z)), some (.sh (.int (many : Int))), none, none, none, none, none, none]) := by
  by_cases h : z / 16 % 16 = 5
  ·refine ⟨(17 + z / 256 % 24).toNat, ⟨by lia, by lia⟩, ?_⟩
   rw [show (((17 + z / 256 % 24).toNat : Nat) : Int) = 17 + z / 256 % 24 by lia]
   push_cast only [decide_eq_true h]
  ·refine ⟨(1 + z % 16).toNat, ⟨by lia, by lia⟩, ?_⟩
   rw [show (((1 + z % 16).toNat : Nat) : Int) = 1 + z % 16 by lia]
   push_cast only [decide_eq_false h]
 obtain ⟨ts, way, hg, hlen, ht⟩ := wZ ns 2 many 9 8 (by decide) (by decide) (by lia) (by lia) (by decide) (by decide) (by decide) (by decide)
 obtain ⟨c, p, _⟩ := vt hg;have dp := (vz hg).2;have lab : Lb ts := fun n h => (hg.ok n h).1
 have G1 : Good ts c := ⟨p, lab, dp, by lia, fun k hk => (hg.ok _ (k7 hk)).2⟩
 have tl : (thr ts).length = ts.length := by unfold thr; rw [List.length_map]
 have te : ∀ k, k < ts.length → eOf (thr ts) k = eOf ts k := fun k hk => by
  unfold eOf thr;rw [List.getElem?_map, List.getElem?_eq_getElem hk];rfl
 have G2 : Good (thr ts) c := ⟨xP p tl te, fun n hn => by
   obtain ⟨m, hm, rfl⟩ := List.mem_map.mp hn;exact lab m hm, Fv dp tl te, by lia, fun k hk => by
   rw [tl] at hk;have : aY (thr ts) k = ⟨(aY ts k).e, (aY ts k).l, 1 + (aY ts k).t % 3⟩ := by
    unfold aY thr;rw [List.getElem?_map, List.getElem?_eq_getElem hk];rfl
   rw [this];have := d9 (aY ts k).t (show (0 : Int) < 3 by decide)
   show 1 ≤ 1 + (aY ts k).t % 3 ∧ 1 + (aY ts k).t % 3 ≤ 9
   lia⟩
 have hw := d9 (z1 * 48271) (show (0 : Int) < 2147483647 by decide)
 generalize hw' : z1 * 48271 % 2147483647 = w at hw
 obtain ⟨us, G, e2⟩ : ∃ us : List Nd, Good us c ∧ sIf (aT (eOp gEq (eOp fF (eOp fM (ae 4) (eC (.int 20))) (eC (.int 2))) (eC (.int 1)))) (aN 3 (eSh (aZ (c9 (ae 3)) (gTp 3 (bA (gNm 0) (bA (gNm 1) (bA (gNm 2) gf)))) bH (eSh (gG (af (ae 0) (af (ae 1) (af (eOp cR (eC (.int 1)) (eOp fF (ae 2) (eC (.int 3)))) aq))))) 3 []))) sNx [some (.sh (.list (ns.map PyData.int))), some (.sh (.int z)), some (.sh (.int (many : Int))), some (.sh (.list (aB ts))), some (.sh (.int w)), none, none, none, none] = .ok (.nx [some (.sh (.list (ns.map PyData.int))), some (.sh (.int z)), some (.sh (.int (many : Int))), some (.sh (.list (aB us))), some (.sh (.int w)), none, none, none, none]) := by
  by_cases h : w / 20 % 2 = 1
  ·refine ⟨thr ts, G2, ?_⟩
   push_cast only [decide_eq_true h];generalize hC : a7 _ _ _ _ _ _ = rc
   have e := b_ hC ndD (fun n : Nd => .sh (ndD ⟨n.e, n.l, 1 + n.t % 3⟩)) ts rfl (of_eq_true (aS (by lia))) (by
    intro n hn;unfold ndD;push_cast only [and_self])
   subst e;have em : (ts.map fun n : Nd => OD.sh (ndD ⟨n.e, n.l, 1 + n.t % 3⟩)).map OD.er = aB (thr ts) := by
    unfold aB thr;rw [List.map_map, List.map_map];exact List.map_congr_left fun n _ => bN _
   push_cast only [em]
  ·refine ⟨ts, G1, ?_⟩
   push_cast only [decide_eq_false h]
 obtain ⟨most, m1, m2⟩ : ∃ most : Int, (0 < most ∧ most ≤ 20) ∧ atI [PyData.int 20, PyData.int 3] (if decide ((16 : Int) < (many : Int)) = true then 1 else 0) = some (.int most) := by
  by_cases h : (16 : Int) < (many : Int)
  ·exact ⟨3, by decide, by rw [if_pos (decide_eq_true h)]; exact at1 _ _ _⟩
  ·exact ⟨20, by decide, by rw [if_neg (by rw [decide_eq_true_eq]; exact h)]; exact at0 _ _⟩
 have gA := d9 w (show (0 : Int) < most from m1.1)
 have gB := d9 (w / 40) (show (0 : Int) < most from m1.1)
 have o1 := qP G (1 + w % most) (by lia) (by lia)
 have o2 := qP G (1 + w / 40 % most) (by lia) (by lia)
 have C := qZ G.p G.lb G.dp G.len (1 + w % most) (by lia) (by lia)
 have pk := kT G.p C G.lb G.len G.tall;have ar := rG G C;have te2 := uR (fX us (1 + w % most) (nms us));have fl : ((txO (fX us (1 + w % most) (nms us))).all fun y => flat y.er) = true := by
  rw [List.all_eq_true];intro y hy;obtain ⟨ps, _, rfl⟩ := List.mem_map.mp hy;rfl
 have ly : lay 1 (.list ((fX us (1 + w % most) (nms us)).map fun ps => PyData.str (laT ps))) := jJ fun d hd => by
  obtain ⟨ps, hps, rfl⟩ := List.mem_map.mp hd;obtain ⟨u, u1, _, _, _, u5⟩ := u7 (ar ps hps);refine mT (oF fun c hc => u5 c ?_)
  rw [u1, eD] at hc;exact hc
 have ne := iC ly;have eq := vS ly;have mp : (0 < most) = True := eq_true m1.1;have bl : q_ (.ol (((fX us (1 + w % most) (nms us)).map fun ps => PyData.str (laT ps)).map OD.sh)) = .ok (.ol (((fX us (1 + w % most) (nms us)).map fun ps => PyData.str (laT ps)).map OD.sh)) := sf fun d hd => by
  obtain ⟨ps, _, rfl⟩ := List.mem_map.mp hd;rfl
 push_cast only [hz, hz1, ↓e1, ht, c6, hw', ↓e2, vx, m2, mp, o1, o2, pk, te2, bl, ne, eq]
theorem all_mk {l : PySem.W.OpenLaw} {w : World} {K : PySem.W.Frag} {h : Heap} {mg : Str → Option Value} {fa : Addr} (X : K.In h) (G : h.Ns mainGlobals mg) (hfa : mg "law" = some (.ref fa))
  {A1 A2 A3 A4 A5 A6 A7 A8 A9 A10 A11 A12 A13 A14 A15 A16 A17 A18 A19 A20 A21 A22 A23 A24 A25 A26 A27 A28 A29 A30 A31 A32 A33 : Addr}
  {C1 E1 C2 E2 C3 E3 C4 E4 C5 E5 C6 E6 C7 E7 C8 E8 C9 E9 C10 E10 C11 E11 C12 E12 C13 E13 C14 E14 C15 E15 C16 E16 C17 E17 C18 E18 C19 E19 C20 E20 C21 E21 C22 E22 C23 E23 C24 E24 C25 E25 C26 E26 C27 E27 C28 E28 C29 E29 C30 E30 C31 E31 C32 E32 C33 E33 : Option Addr}
  {J1 J2 J3 J4 J5 J6 J7 J8 J9 J10 J11 J12 J13 J14 J15 J16 J17 J18 J19 J20 J21 J22 J23 J24 J25 J26 J27 J28 J29 J30 J31 J32 J33 : Array (Option Value)}
  {M1 N1 O1 P1 Q1 T1 M2 N2 O2 P2 Q2 T2 M3 N3 O3 P3 Q3 T3 M4 N4 O4 P4 Q4 T4 M5 N5 O5 P5 Q5 T5 M6 N6 O6 P6 Q6 T6 M7 N7 O7 P7 Q7 T7 M8 N8 O8 P8 Q8 T8 M9 N9 O9 P9 Q9 T9 M10 N10 O10 P10 Q10 T10 M11 N11 O11 P11 Q11 T11 M12 N12 O12 P12 Q12 T12 M13 N13 O13 P13 Q13 T13 M14 N14 O14 P14 Q14 T14 M15 N15 O15 P15 Q15 T15 M16 N16 O16 P16 Q16 T16 M17 N17 O17 P17 Q17 T17 M18 N18 O18 P18 Q18 T18 M19 N19 O19 P19 Q19 T19 M20 N20 O20 P20 Q20 T20 M21 N21 O21 P21 Q21 T21 M22 N22 O22 P22 Q22 T22 M23 N23 O23 P23 Q23 T23 M24 N24 O24 P24 Q24 T24 M25 N25 O25 P25 Q25 T25 M26 N26 O26 P26 Q26 T26 M27 N27 O27 P27 Q27 T27 M28 N28 O28 P28 Q28 T28 M29 N29 O29 P29 Q29 T29 M30 N30 O30 P30 Q30 T30 M31 N31 O31 P31 Q31 T31 M32 N32 O32 P32 Q32 T32 M33 N33 O33 P33 Q33 T33 : Value}
  {tk_SHREDS : Tok}
  (U1 : PySem.W.nsIn K mainGlobals "check_node" = some (some (.ref A1)))(V1 : K.lookup A1 = some ⟨M1, C1, .func (PySem.W.fnOf "check_node" "check_node" (aH cA) (aF cA) (ag cA) .none N1 O1 P1 E1 Q1 T1), J1⟩)(W1 : PySem.W.codeIn K Q1 "check_node" = true)(X1 : PySem.W.keepIn K (.ref A1) = true)
  (U2 : PySem.W.nsIn K mainGlobals "node_levels" = some (some (.ref A2)))(V2 : K.lookup A2 = some ⟨M2, C2, .func (PySem.W.fnOf "node_levels" "node_levels" (aH bT) (aF bT) (ag bT) .none N2 O2 P2 E2 Q2 T2), J2⟩)(W2 : PySem.W.codeIn K Q2 "node_levels" = true)(X2 : PySem.W.keepIn K (.ref A2) = true)
  (U3 : PySem.W.nsIn K mainGlobals "reaches" = some (some (.ref A3)))(V3 : K.lookup A3 = some ⟨M3, C3, .func (PySem.W.fnOf "reaches" "reaches" (aH cM) (aF cM) (ag cM) .none N3 O3 P3 E3 Q3 T3), J3⟩)(W3 : PySem.W.codeIn K Q3 "reaches" = true)(X3 : PySem.W.keepIn K (.ref A3) = true)
  (U4 : PySem.W.nsIn K mainGlobals "nearest" = some (some (.ref A4)))(V4 : K.lookup A4 = some ⟨M4, C4, .func (PySem.W.fnOf "nearest" "nearest" (aH de) (aF de) (ag de) .none N4 O4 P4 E4 Q4 T4), J4⟩)(W4 : PySem.W.codeIn K Q4 "nearest" = true)(X4 : PySem.W.keepIn K (.ref A4) = true)
  (U5 : PySem.W.nsIn K mainGlobals "joined_outline" = some (some (.ref A5)))(V5 : K.lookup A5 = some ⟨M5, C5, .func (PySem.W.fnOf "joined_outline" "joined_outline" (aH aL) (aF aL) (ag aL) .none N5 O5 P5 E5 Q5 T5), J5⟩)(W5 : PySem.W.codeIn K Q5 "joined_outline" = true)(X5 : PySem.W.keepIn K (.ref A5) = true)
  (U6 : PySem.W.nsIn K mainGlobals "laid" = some (some (.ref A6)))(V6 : K.lookup A6 = some ⟨M6, C6, .func (PySem.W.fnOf "laid" "laid" (aH gR) (aF gR) (ag gR) .none N6 O6 P6 E6 Q6 T6), J6⟩)(W6 : PySem.W.codeIn K Q6 "laid" = true)(X6 : PySem.W.keepIn K (.ref A6) = true)
  (U7 : PySem.W.nsIn K mainGlobals "bar_signs" = some (some (.ref A7)))(V7 : K.lookup A7 = some ⟨M7, C7, .func (PySem.W.fnOf "bar_signs" "bar_signs" (aH cT) (aF cT) (ag cT) .none N7 O7 P7 E7 Q7 T7), J7⟩)(W7 : PySem.W.codeIn K Q7 "bar_signs" = true)(X7 : PySem.W.keepIn K (.ref A7) = true)
  (U8 : PySem.W.nsIn K mainGlobals "_law_cell" = some (some (.ref A8)))(V8 : K.lookup A8 = some ⟨M8, C8, .func (PySem.W.fnOf "_law_cell" "_law_cell" (aH cn) (aF cn) (ag cn) .none N8 O8 P8 E8 Q8 T8), J8⟩)(W8 : PySem.W.codeIn K Q8 "_law_cell" = true)(X8 : PySem.W.keepIn K (.ref A8) = true)
  (U9 : PySem.W.nsIn K mainGlobals "_law_label" = some (some (.ref A9)))(V9 : K.lookup A9 = some ⟨M9, C9, .func (PySem.W.fnOf "_law_label" "_law_label" (aH cu) (aF cu) (ag cu) .none N9 O9 P9 E9 Q9 T9), J9⟩)(W9 : PySem.W.codeIn K Q9 "_law_label" = true)(X9 : PySem.W.keepIn K (.ref A9) = true)
  (U10 : PySem.W.nsIn K mainGlobals "_law_parts" = some (some (.ref A10)))(V10 : K.lookup A10 = some ⟨M10, C10, .func (PySem.W.fnOf "_law_parts" "_law_parts" (aH cw) (aF cw) (ag cw) .none N10 O10 P10 E10 Q10 T10), J10⟩)(W10 : PySem.W.codeIn K Q10 "_law_parts" = true)(X10 : PySem.W.keepIn K (.ref A10) = true)
  (U11 : PySem.W.nsIn K mainGlobals "_law_levels" = some (some (.ref A11)))(V11 : K.lookup A11 = some ⟨M11, C11, .func (PySem.W.fnOf "_law_levels" "_law_levels" (aH bG) (aF bG) (ag bG) .none N11 O11 P11 E11 Q11 T11), J11⟩)(W11 : PySem.W.codeIn K Q11 "_law_levels" = true)(X11 : PySem.W.keepIn K (.ref A11) = true)
  (U12 : PySem.W.nsIn K mainGlobals "_law_below" = some (some (.ref A12)))(V12 : K.lookup A12 = some ⟨M12, C12, .func (PySem.W.fnOf "_law_below" "_law_below" (aH bB) (aF bB) (ag bB) .none N12 O12 P12 E12 Q12 T12), J12⟩)(W12 : PySem.W.codeIn K Q12 "_law_below" = true)(X12 : PySem.W.keepIn K (.ref A12) = true)
  (U13 : PySem.W.nsIn K mainGlobals "children_of" = some (some (.ref A13)))(V13 : K.lookup A13 = some ⟨M13, C13, .func (PySem.W.fnOf "children_of" "children_of" (aH aU) (aF aU) (ag aU) .none N13 O13 P13 E13 Q13 T13), J13⟩)(W13 : PySem.W.codeIn K Q13 "children_of" = true)(X13 : PySem.W.keepIn K (.ref A13) = true)
  (U14 : PySem.W.nsIn K mainGlobals "levels_of" = some (some (.ref A14)))(V14 : K.lookup A14 = some ⟨M14, C14, .func (PySem.W.fnOf "levels_of" "levels_of" (aH cU) (aF cU) (ag cU) .none N14 O14 P14 E14 Q14 T14), J14⟩)(W14 : PySem.W.codeIn K Q14 "levels_of" = true)(X14 : PySem.W.keepIn K (.ref A14) = true)
  (U15 : PySem.W.nsIn K mainGlobals "earliest_places" = some (some (.ref A15)))(V15 : K.lookup A15 = some ⟨M15, C15, .func (PySem.W.fnOf "earliest_places" "earliest_places" (aH aQ) (aF aQ) (ag aQ) .none N15 O15 P15 E15 Q15 T15), J15⟩)(W15 : PySem.W.codeIn K Q15 "earliest_places" = true)(X15 : PySem.W.keepIn K (.ref A15) = true)
  (U16 : PySem.W.nsIn K mainGlobals "latest_places" = some (some (.ref A16)))(V16 : K.lookup A16 = some ⟨M16, C16, .func (PySem.W.fnOf "latest_places" "latest_places" (aH bj) (aF bj) (ag bj) .none N16 O16 P16 E16 Q16 T16), J16⟩)(W16 : PySem.W.codeIn K Q16 "latest_places" = true)(X16 : PySem.W.keepIn K (.ref A16) = true)
  (U17 : PySem.W.nsIn K mainGlobals "moved_to_side" = some (some (.ref A17)))(V17 : K.lookup A17 = some ⟨M17, C17, .func (PySem.W.fnOf "moved_to_side" "moved_to_side" (aH aV) (aF aV) (ag aV) .none N17 O17 P17 E17 Q17 T17), J17⟩)(W17 : PySem.W.codeIn K Q17 "moved_to_side" = true)(X17 : PySem.W.keepIn K (.ref A17) = true)
  (U18 : PySem.W.nsIn K mainGlobals "label_row" = some (some (.ref A18)))(V18 : K.lookup A18 = some ⟨M18, C18, .func (PySem.W.fnOf "label_row" "label_row" (aH cg) (aF cg) (ag cg) .none N18 O18 P18 E18 Q18 T18), J18⟩)(W18 : PySem.W.codeIn K Q18 "label_row" = true)(X18 : PySem.W.keepIn K (.ref A18) = true)
  (U19 : PySem.W.nsIn K mainGlobals "_law_tree" = some (some (.ref A19)))(V19 : K.lookup A19 = some ⟨M19, C19, .func (PySem.W.fnOf "_law_tree" "_law_tree" (aH cV) (aF cV) (ag cV) .none N19 O19 P19 E19 Q19 T19), J19⟩)(W19 : PySem.W.codeIn K Q19 "_law_tree" = true)(X19 : PySem.W.keepIn K (.ref A19) = true)
  (U20 : PySem.W.nsIn K mainGlobals "_law_bar" = some (some (.ref A20)))(V20 : K.lookup A20 = some ⟨M20, C20, .func (PySem.W.fnOf "_law_bar" "_law_bar" (aH c8) (aF c8) (ag c8) .none N20 O20 P20 E20 Q20 T20), J20⟩)(W20 : PySem.W.codeIn K Q20 "_law_bar" = true)(X20 : PySem.W.keepIn K (.ref A20) = true)
  (U21 : PySem.W.nsIn K mainGlobals "_law_tall" = some (some (.ref A21)))(V21 : K.lookup A21 = some ⟨M21, C21, .func (PySem.W.fnOf "_law_tall" "_law_tall" (aH cW) (aF cW) (ag cW) .none N21 O21 P21 E21 Q21 T21), J21⟩)(W21 : PySem.W.codeIn K Q21 "_law_tall" = true)(X21 : PySem.W.keepIn K (.ref A21) = true)
  (U22 : PySem.W.nsIn K mainGlobals "room_of" = some (some (.ref A22)))(V22 : K.lookup A22 = some ⟨M22, C22, .func (PySem.W.fnOf "room_of" "room_of" (aH eA) (aF eA) (ag eA) .none N22 O22 P22 E22 Q22 T22), J22⟩)(W22 : PySem.W.codeIn K Q22 "room_of" = true)(X22 : PySem.W.keepIn K (.ref A22) = true)
  (U23 : PySem.W.nsIn K mainGlobals "sign_below" = some (some (.ref A23)))(V23 : K.lookup A23 = some ⟨M23, C23, .func (PySem.W.fnOf "sign_below" "sign_below" (aH cz) (aF cz) (ag cz) .none N23 O23 P23 E23 Q23 T23), J23⟩)(W23 : PySem.W.codeIn K Q23 "sign_below" = true)(X23 : PySem.W.keepIn K (.ref A23) = true)
  (U24 : PySem.W.nsIn K mainGlobals "bar_row" = some (some (.ref A24)))(V24 : K.lookup A24 = some ⟨M24, C24, .func (PySem.W.fnOf "bar_row" "bar_row" (aH dJ) (aF dJ) (ag dJ) .none N24 O24 P24 E24 Q24 T24), J24⟩)(W24 : PySem.W.codeIn K Q24 "bar_row" = true)(X24 : PySem.W.keepIn K (.ref A24) = true)
  (U25 : PySem.W.nsIn K mainGlobals "_law_due" = some (some (.ref A25)))(V25 : K.lookup A25 = some ⟨M25, C25, .func (PySem.W.fnOf "_law_due" "_law_due" (aH bX) (aF bX) (ag bX) .none N25 O25 P25 E25 Q25 T25), J25⟩)(W25 : PySem.W.codeIn K Q25 "_law_due" = true)(X25 : PySem.W.keepIn K (.ref A25) = true)
  (U26 : PySem.W.nsIn K mainGlobals "stands_below" = some (some (.ref A26)))(V26 : K.lookup A26 = some ⟨M26, C26, .func (PySem.W.fnOf "stands_below" "stands_below" (aH bw) (aF bw) (ag bw) .none N26 O26 P26 E26 Q26 T26), J26⟩)(W26 : PySem.W.codeIn K Q26 "stands_below" = true)(X26 : PySem.W.keepIn K (.ref A26) = true)
  (U27 : PySem.W.nsIn K mainGlobals "rows_below" = some (some (.ref A27)))(V27 : K.lookup A27 = some ⟨M27, C27, .func (PySem.W.fnOf "rows_below" "rows_below" (aH bF) (aF bF) (ag bF) .none N27 O27 P27 E27 Q27 T27), J27⟩)(W27 : PySem.W.codeIn K Q27 "rows_below" = true)(X27 : PySem.W.keepIn K (.ref A27) = true)
  (U28 : PySem.W.nsIn K mainGlobals "pieces" = some (some (.ref A28)))(V28 : K.lookup A28 = some ⟨M28, C28, .func (PySem.W.fnOf "pieces" "pieces" (aH dX) (aF dX) (ag dX) .none N28 O28 P28 E28 Q28 T28), J28⟩)(W28 : PySem.W.codeIn K Q28 "pieces" = true)(X28 : PySem.W.keepIn K (.ref A28) = true)
  (U29 : PySem.W.nsIn K mainGlobals "drawn" = some (some (.ref A29)))(V29 : K.lookup A29 = some ⟨M29, C29, .func (PySem.W.fnOf "drawn" "drawn" (aH fW) (aF fW) (ag fW) .none N29 O29 P29 E29 Q29 T29), J29⟩)(W29 : PySem.W.codeIn K Q29 "drawn" = true)(X29 : PySem.W.keepIn K (.ref A29) = true)
  (U30 : PySem.W.nsIn K mainGlobals "columns_of" = some (some (.ref A30)))(V30 : K.lookup A30 = some ⟨M30, C30, .func (PySem.W.fnOf "columns_of" "columns_of" (aH bO) (aF bO) (ag bO) .none N30 O30 P30 E30 Q30 T30), J30⟩)(W30 : PySem.W.codeIn K Q30 "columns_of" = true)(X30 : PySem.W.keepIn K (.ref A30) = true)
  (U31 : PySem.W.nsIn K mainGlobals "picture" = some (some (.ref A31)))(V31 : K.lookup A31 = some ⟨M31, C31, .func (PySem.W.fnOf "picture" "picture" (aH df) (aF df) (ag df) .none N31 O31 P31 E31 Q31 T31), J31⟩)(W31 : PySem.W.codeIn K Q31 "picture" = true)(X31 : PySem.W.keepIn K (.ref A31) = true)
  (U32 : PySem.W.nsIn K mainGlobals "_law_good" = some (some (.ref A32)))(V32 : K.lookup A32 = some ⟨M32, C32, .func (PySem.W.fnOf "_law_good" "_law_good" (aH cx) (aF cx) (ag cx) .none N32 O32 P32 E32 Q32 T32), J32⟩)(W32 : PySem.W.codeIn K Q32 "_law_good" = true)(X32 : PySem.W.keepIn K (.ref A32) = true)
  (U33 : PySem.W.nsIn K mainGlobals "law" = some (some (.ref A33)))(V33 : K.lookup A33 = some ⟨M33, C33, .func (PySem.W.fnOf "law" "law" (aH i_) (aF i_) (ag i_) .none N33 O33 P33 E33 Q33 T33), J33⟩)(W33 : PySem.W.codeIn K Q33 "law" = true)(X33 : PySem.W.keepIn K (.ref A33) = true)
  (z_enumerate : PySem.W.nsIn K mainGlobals "enumerate" = some none)
  (z_int : PySem.W.nsIn K mainGlobals "int" = some none)
  (z_isinstance : PySem.W.nsIn K mainGlobals "isinstance" = some none)
  (z_len : PySem.W.nsIn K mainGlobals "len" = some none)
  (z_list : PySem.W.nsIn K mainGlobals "list" = some none)
  (z_max : PySem.W.nsIn K mainGlobals "max" = some none)
  (z_min : PySem.W.nsIn K mainGlobals "min" = some none)
  (z_range : PySem.W.nsIn K mainGlobals "range" = some none)
  (z_str : PySem.W.nsIn K mainGlobals "str" = some none)
  (z_zip : PySem.W.nsIn K mainGlobals "zip" = some none)
  (g_SHREDS : PySem.W.nsIn K mainGlobals "SHREDS" = some (some (.int 256 tk_SHREDS))) :
  ∃ fd : FuncData, (∀ (s : Shared) (v : Value), BindsTo s fd ⟨[v], []⟩ [("_law_script", v)]) ∧ ∀ base : Heap, K.In base → base.Ns mainGlobals mg → FnOk l.prog w K mg base CX0 10 fa fd ["_law_script"] (sp3 K mg lr) := by
 have e := hfa.symm.trans (PySem.W.mg_of X G U33);cases e;have T : Txt K mg := ⟨PySem.W.mg_none_of X G z_enumerate, PySem.W.mg_none_of X G z_int, PySem.W.mg_none_of X G z_isinstance, PySem.W.mg_none_of X G z_len, PySem.W.mg_none_of X G z_list, PySem.W.mg_none_of X G z_max, PySem.W.mg_none_of X G z_min, PySem.W.mg_none_of X G z_range, PySem.W.mg_none_of X G z_str, PySem.W.mg_none_of X G z_zip, ⟨_, PySem.W.mg_of X G g_SHREDS⟩⟩;have a_1 := ba (st := cA) V1 W1 X1;have Y1 : Def K mg "check_node" cA ["tree", "node"] _ _ := ⟨a_1, PySem.W.mg_of X G U1, a_1.binds (ps := ["tree", "node"]) fun _ _ _ _ _ _ us hl => by obtain ⟨_, _, rfl⟩ := ex2 hl; rfl⟩
 have a_2 := ba (st := bT) V2 W2 X2;have Y2 : Def K mg "node_levels" bT ["tree"] _ _ := ⟨a_2, PySem.W.mg_of X G U2, a_2.binds (ps := ["tree"]) fun _ _ _ _ _ _ us hl => by obtain ⟨_, rfl⟩ := ex1 hl; rfl⟩
 have a_3 := ba (st := cM) V3 W3 X3;have Y3 : Def K mg "reaches" cM ["tree"] _ _ := ⟨a_3, PySem.W.mg_of X G U3, a_3.binds (ps := ["tree"]) fun _ _ _ _ _ _ us hl => by obtain ⟨_, rfl⟩ := ex1 hl; rfl⟩
 have a_4 := ba (st := de) V4 W4 X4;have Y4 : Def K mg "nearest" de ["one", "other", "gap"] _ _ := ⟨a_4, PySem.W.mg_of X G U4, a_4.binds (ps := ["one", "other", "gap"]) fun _ _ _ _ _ _ us hl => by obtain ⟨_, _, _, rfl⟩ := ex3 hl; rfl⟩
 have a_5 := ba (st := aL) V5 W5 X5;have Y5 : Def K mg "joined_outline" aL ["outlines", "stands"] _ _ := ⟨a_5, PySem.W.mg_of X G U5, a_5.binds (ps := ["outlines", "stands"]) fun _ _ _ _ _ _ us hl => by obtain ⟨_, _, rfl⟩ := ex2 hl; rfl⟩
 have a_6 := ba (st := gR) V6 W6 X6;have Y6 : Def K mg "laid" gR ["parts"] _ _ := ⟨a_6, PySem.W.mg_of X G U6, a_6.binds (ps := ["parts"]) fun _ _ _ _ _ _ us hl => by obtain ⟨_, rfl⟩ := ex1 hl; rfl⟩
 have a_7 := ba (st := cT) V7 W7 X7;have Y7 : Def K mg "bar_signs" cT ["own", "below"] _ _ := ⟨a_7, PySem.W.mg_of X G U7, a_7.binds (ps := ["own", "below"]) fun _ _ _ _ _ _ us hl => by obtain ⟨_, _, rfl⟩ := ex2 hl; rfl⟩
 have a_8 := ba (st := cn) V8 W8 X8;have Y8 : Def K mg "_law_cell" cn ["_law_script", "_law_k"] _ _ := ⟨a_8, PySem.W.mg_of X G U8, a_8.binds (ps := ["_law_script", "_law_k"]) fun _ _ _ _ _ _ us hl => by obtain ⟨_, _, rfl⟩ := ex2 hl; rfl⟩
 have a_9 := ba (st := cu) V9 W9 X9;have Y9 : Def K mg "_law_label" cu ["_law_number", "_law_most"] _ _ := ⟨a_9, PySem.W.mg_of X G U9, a_9.binds (ps := ["_law_number", "_law_most"]) fun _ _ _ _ _ _ us hl => by obtain ⟨_, _, rfl⟩ := ex2 hl; rfl⟩
 have a_10 := ba (st := cw) V10 W10 X10;have Y10 : Def K mg "_law_parts" cw ["_law_text"] _ _ := ⟨a_10, PySem.W.mg_of X G U10, a_10.binds (ps := ["_law_text"]) fun _ _ _ _ _ _ us hl => by obtain ⟨_, rfl⟩ := ex1 hl; rfl⟩
 have a_11 := ba (st := bG) V11 W11 X11;have Y11 : Def K mg "_law_levels" bG ["_law_tree_here"] _ _ := ⟨a_11, PySem.W.mg_of X G U11, a_11.binds (ps := ["_law_tree_here"]) fun _ _ _ _ _ _ us hl => by obtain ⟨_, rfl⟩ := ex1 hl; rfl⟩
 have a_12 := ba (st := bB) V12 W12 X12;have Y12 : Def K mg "_law_below" bB ["_law_tree_here", "_law_node"] _ _ := ⟨a_12, PySem.W.mg_of X G U12, a_12.binds (ps := ["_law_tree_here", "_law_node"]) fun _ _ _ _ _ _ us hl => by obtain ⟨_, _, rfl⟩ := ex2 hl; rfl⟩
 have a_13 := ba (st := aU) V13 W13 X13;have Y13 : Def K mg "children_of" aU ["tree", "node"] _ _ := ⟨a_13, PySem.W.mg_of X G U13, a_13.binds (ps := ["tree", "node"]) fun _ _ _ _ _ _ us hl => by obtain ⟨_, _, rfl⟩ := ex2 hl; rfl⟩
 have a_14 := ba (st := cU) V14 W14 X14;have Y14 : Def K mg "levels_of" cU ["tree"] _ _ := ⟨a_14, PySem.W.mg_of X G U14, a_14.binds (ps := ["tree"]) fun _ _ _ _ _ _ us hl => by obtain ⟨_, rfl⟩ := ex1 hl; rfl⟩
 have a_15 := ba (st := aQ) V15 W15 X15;have Y15 : Def K mg "earliest_places" aQ ["outlines", "gap"] _ _ := ⟨a_15, PySem.W.mg_of X G U15, a_15.binds (ps := ["outlines", "gap"]) fun _ _ _ _ _ _ us hl => by obtain ⟨_, _, rfl⟩ := ex2 hl; rfl⟩
 have a_16 := ba (st := bj) V16 W16 X16;have Y16 : Def K mg "latest_places" bj ["outlines", "gap", "last"] _ _ := ⟨a_16, PySem.W.mg_of X G U16, a_16.binds (ps := ["outlines", "gap", "last"]) fun _ _ _ _ _ _ us hl => by obtain ⟨_, _, _, rfl⟩ := ex3 hl; rfl⟩
 have a_17 := ba (st := aV) V17 W17 X17;have Y17 : Def K mg "moved_to_side" aV ["tree", "places", "unit"] _ _ := ⟨a_17, PySem.W.mg_of X G U17, a_17.binds (ps := ["tree", "places", "unit"]) fun _ _ _ _ _ _ us hl => by obtain ⟨_, _, _, rfl⟩ := ex3 hl; rfl⟩
 have a_18 := ba (st := cg) V18 W18 X18;have Y18 : Def K mg "label_row" cg ["tree", "columns", "level"] _ _ := ⟨a_18, PySem.W.mg_of X G U18, a_18.binds (ps := ["tree", "columns", "level"]) fun _ _ _ _ _ _ us hl => by obtain ⟨_, _, _, rfl⟩ := ex3 hl; rfl⟩
 have a_19 := ba (st := cV) V19 W19 X19;have Y19 : Def K mg "_law_tree" cV ["_law_script", "_law_start", "_law_many", "_law_most", "_law_deep"] _ _ := ⟨a_19, PySem.W.mg_of X G U19, a_19.binds (ps := ["_law_script", "_law_start", "_law_many", "_law_most", "_law_deep"]) fun _ _ _ _ _ _ us hl => by obtain ⟨_, _, _, _, _, rfl⟩ := ex5 hl; rfl⟩
 have a_20 := ba (st := c8) V20 W20 X20;have Y20 : Def K mg "_law_bar" c8 ["_law_tree_here", "_law_node", "_law_columns"] _ _ := ⟨a_20, PySem.W.mg_of X G U20, a_20.binds (ps := ["_law_tree_here", "_law_node", "_law_columns"]) fun _ _ _ _ _ _ us hl => by obtain ⟨_, _, _, rfl⟩ := ex3 hl; rfl⟩
 have a_21 := ba (st := cW) V21 W21 X21;have Y21 : Def K mg "_law_tall" cW ["_law_tree_here", "_law_level", "_law_columns", "_law_step"] _ _ := ⟨a_21, PySem.W.mg_of X G U21, a_21.binds (ps := ["_law_tree_here", "_law_level", "_law_columns", "_law_step"]) fun _ _ _ _ _ _ us hl => by obtain ⟨_, _, _, _, rfl⟩ := ex4 hl; rfl⟩
 have a_22 := ba (st := eA) V22 W22 X22;have Y22 : Def K mg "room_of" eA ["outlines", "gap"] _ _ := ⟨a_22, PySem.W.mg_of X G U22, a_22.binds (ps := ["outlines", "gap"]) fun _ _ _ _ _ _ us hl => by obtain ⟨_, _, rfl⟩ := ex2 hl; rfl⟩
 have a_23 := ba (st := cz) V23 W23 X23;have Y23 : Def K mg "sign_below" cz ["tree", "node", "number"] _ _ := ⟨a_23, PySem.W.mg_of X G U23, a_23.binds (ps := ["tree", "node", "number"]) fun _ _ _ _ _ _ us hl => by obtain ⟨_, _, _, rfl⟩ := ex3 hl; rfl⟩
 have a_24 := ba (st := dJ) V24 W24 X24;have Y24 : Def K mg "bar_row" dJ ["tree", "columns", "elders"] _ _ := ⟨a_24, PySem.W.mg_of X G U24, a_24.binds (ps := ["tree", "columns", "elders"]) fun _ _ _ _ _ _ us hl => by obtain ⟨_, _, _, rfl⟩ := ex3 hl; rfl⟩
 have a_25 := ba (st := bX) V25 W25 X25;have Y25 : Def K mg "_law_due" bX ["_law_tree_here", "_law_columns"] _ _ := ⟨a_25, PySem.W.mg_of X G U25, a_25.binds (ps := ["_law_tree_here", "_law_columns"]) fun _ _ _ _ _ _ us hl => by obtain ⟨_, _, rfl⟩ := ex2 hl; rfl⟩
 have a_26 := ba (st := bw) V26 W26 X26;have Y26 : Def K mg "stands_below" bw ["outlines", "gap"] _ _ := ⟨a_26, PySem.W.mg_of X G U26, a_26.binds (ps := ["outlines", "gap"]) fun _ _ _ _ _ _ us hl => by obtain ⟨_, _, rfl⟩ := ex2 hl; rfl⟩
 have a_27 := ba (st := bF) V27 W27 X27;have Y27 : Def K mg "rows_below" bF ["tree", "columns", "level"] _ _ := ⟨a_27, PySem.W.mg_of X G U27, a_27.binds (ps := ["tree", "columns", "level"]) fun _ _ _ _ _ _ us hl => by obtain ⟨_, _, _, rfl⟩ := ex3 hl; rfl⟩
 have a_28 := ba (st := dX) V28 W28 X28;have Y28 : Def K mg "pieces" dX ["tree", "gap"] _ _ := ⟨a_28, PySem.W.mg_of X G U28, a_28.binds (ps := ["tree", "gap"]) fun _ _ _ _ _ _ us hl => by obtain ⟨_, _, rfl⟩ := ex2 hl; rfl⟩
 have a_29 := ba (st := fW) V29 W29 X29;have Y29 : Def K mg "drawn" fW ["tree", "gap"] _ _ := ⟨a_29, PySem.W.mg_of X G U29, a_29.binds (ps := ["tree", "gap"]) fun _ _ _ _ _ _ us hl => by obtain ⟨_, _, rfl⟩ := ex2 hl; rfl⟩
 have a_30 := ba (st := bO) V30 W30 X30;have Y30 : Def K mg "columns_of" bO ["tree", "gap"] _ _ := ⟨a_30, PySem.W.mg_of X G U30, a_30.binds (ps := ["tree", "gap"]) fun _ _ _ _ _ _ us hl => by obtain ⟨_, _, rfl⟩ := ex2 hl; rfl⟩
 have a_31 := ba (st := df) V31 W31 X31;have Y31 : Def K mg "picture" df ["tree", "gap"] _ _ := ⟨a_31, PySem.W.mg_of X G U31, a_31.binds (ps := ["tree", "gap"]) fun _ _ _ _ _ _ us hl => by obtain ⟨_, _, rfl⟩ := ex2 hl; rfl⟩
 have a_32 := ba (st := cx) V32 W32 X32;have Y32 : Def K mg "_law_good" cx ["_law_tree_here", "_law_gap"] _ _ := ⟨a_32, PySem.W.mg_of X G U32, a_32.binds (ps := ["_law_tree_here", "_law_gap"]) fun _ _ _ _ _ _ us hl => by obtain ⟨_, _, rfl⟩ := ex2 hl; rfl⟩
 have a_33 := ba (st := i_) V33 W33 X33;refine ⟨PySem.W.fnOf "law" "law" (aH i_) (aF i_) (ag i_) .none N33 O33 P33 E33 Q33 T33, fun s v => .of_eq rfl, fun base _ _ => ?_⟩
 have Z1 : FnOk l.prog w K mg base CX0 1 _ _ _ _ := lR Y1.F T;have Z2 : FnOk l.prog w K mg base CX0 1 _ _ _ _ := kQ Y2.F T;have Z3 : FnOk l.prog w K mg base CX0 1 _ _ _ _ := qx Y3.F T;have Z4 : FnOk l.prog w K mg base CX0 1 _ _ _ _ := qA Y4.F T;have Z5 : FnOk l.prog w K mg base CX0 1 _ _ _ _ := jD Y5.F T;have Z6 : FnOk l.prog w K mg base CX0 1 _ _ _ _ := wq Y6.F T;have Z7 : FnOk l.prog w K mg base CX0 1 _ _ _ _ := mW Y7.F T;have Z8 : FnOk l.prog w K mg base CX0 1 _ _ _ _ := m_ Y8.F T;have Z9 : FnOk l.prog w K mg base CX0 1 _ _ _ _ := lG Y9.F T;have Z10 : FnOk l.prog w K mg base CX0 1 _ _ _ _ := lH Y10.F T;have Z11 : FnOk l.prog w K mg base CX0 1 _ _ _ _ := lp Y11.F T;have Z12 : FnOk l.prog w K mg base CX0 1 _ _ _ _ := lM Y12.F T;have Z13 : FnOk l.prog w K mg base CX0 2 _ _ _ _ := kN Y13.F T Y1 Z1;have Z14 : FnOk l.prog w K mg base CX0 2 _ _ _ _ := nW Y14.F T Y2 Z2;have Z15 : FnOk l.prog w K mg base CX0 2 _ _ _ _ := jt Y15.F T Y4 Z4;have Z16 : FnOk l.prog w K mg base CX0 2 _ _ _ _ := ka Y16.F T Y4 Z4;have Z17 : FnOk l.prog w K mg base CX0 2 _ _ _ _ := kg Y17.F T Y3 Z3;have Z18 : FnOk l.prog w K mg base CX0 2 _ _ _ _ := nU Y18.F T Y3 Z3 Y6 Z6;have Z19 : FnOk l.prog w K mg base CX0 2 _ _ _ _ := nY Y19.F T Y8 Z8 Y9 Z9;have Z20 : FnOk l.prog w K mg base CX0 2 _ _ _ _ := pf Y20.F T Y12 Z12;have Z21 : FnOk l.prog w K mg base CX0 2 _ _ _ _ := nG Y21.F T Y12 Z12;have Z22 : FnOk l.prog w K mg base CX0 3 _ _ _ _ := qf Y22.F T Y15 Z15 Y16 Z16;have Z23 : FnOk l.prog w K mg base CX0 3 _ _ _ _ := lO Y23.F T Y13 Z13;have Z24 : FnOk l.prog w K mg base CX0 3 _ _ _ _ := qg Y24.F T Y13 Z13 Y6 Z6 Y7 Z7;have Z25 : FnOk l.prog w K mg base CX0 3 _ _ _ _ := pG Y25.F T Y11 Z11 Y12 Z12 Y20 Z20 Y21 Z21;have Z26 : FnOk l.prog w K mg base CX0 4 _ _ _ _ := kv Y26.F T Y22 Z22;have Z27 : FnOk l.prog w K mg base CX0 4 _ _ _ _ := lI Y27.F T Y6 Z6 Y23 Z23;have Z28 : FnOk l.prog w K mg base CX0 5 _ _ _ _ := rY Y28.F T Y13 Z13 Y3 Z3 Y26 Z26 Y5 Z5;have Z29 : FnOk l.prog w K mg base CX0 6 _ _ _ _ := tX Y29.F T Y17 Z17 Y28 Z28;have Z30 : FnOk l.prog w K mg base CX0 7 _ _ _ _ := lQ Y30.F T Y29 Z29;have Z31 : FnOk l.prog w K mg base CX0 8 _ _ _ _ := p9 Y31.F T Y13 Z13 Y14 Z14 Y30 Z30 Y18 Z18 Y27 Z27 Y24 Z24;have Z32 : FnOk l.prog w K mg base CX0 9 _ _ _ _ := mR Y32.F T Y29 Z29 Y31 Z31 Y10 Z10 Y25 Z25;exact Ao a_33 T Y31 Z31 Y8 Z8 Y19 Z19 Y32 Z32
end B
def PySem.W.Fast.tw1190001692301907650:Nat:=0
open PySem PySem.W PyProof.Rows
set_option maxRecDepth 100000 in
set_option maxHeartbeats 0 in
theorem PySem.Challenge.cw_boughdraw_k61_picture_rows_holds : PySem.Challenge.rw_boughdraw_k61_picture_rows.Holds := by
 w_on; o_law; k_head; (case hw => w_witness2)
 k_fill
 refine L3.Dz (l := PySem.Challenge.rw_boughdraw_k61_picture_rows) (x := "_law_script") (k := 10) (fn := B.lr) rfl rfl ⟨rfl, by decide, by decide⟩ (fun w h Y => PySem.W.kIn_of Y) B.tu ?F
 case F =>
  intro w mg fa h KX G hmg;refine' B.all_mk KX G hmg ?U1 ?V1 ?W1 ?X1 ?U2 ?V2 ?W2 ?X2 ?U3 ?V3 ?W3 ?X3 ?U4 ?V4 ?W4 ?X4 ?U5 ?V5 ?W5 ?X5 ?U6 ?V6 ?W6 ?X6 ?U7 ?V7 ?W7 ?X7 ?U8 ?V8 ?W8 ?X8 ?U9 ?V9 ?W9 ?X9 ?U10 ?V10 ?W10 ?X10 ?U11 ?V11 ?W11 ?X11 ?U12 ?V12 ?W12 ?X12 ?U13 ?V13 ?W13 ?X13 ?U14 ?V14 ?W14 ?X14 ?U15 ?V15 ?W15 ?X15 ?U16 ?V16 ?W16 ?X16 ?U17 ?V17 ?W17 ?X17 ?U18 ?V18 ?W18 ?X18 ?U19 ?V19 ?W19 ?X19 ?U20 ?V20 ?W20 ?X20 ?U21 ?V21 ?W21 ?X21 ?U22 ?V22 ?W22 ?X22 ?U23 ?V23 ?W23 ?X23 ?U24 ?V24 ?W24 ?X24 ?U25 ?V25 ?W25 ?X25 ?U26 ?V26 ?W26 ?X26 ?U27 ?V27 ?W27 ?X27 ?U28 ?V28 ?W28 ?X28 ?U29 ?V29 ?W29 ?X29 ?U30 ?V30 ?W30 ?X30 ?U31 ?V31 ?W31 ?X31 ?U32 ?V32 ?W32 ?X32 ?U33 ?V33 ?W33 ?X33 ?z0 ?z1 ?z2 ?z3 ?z4 ?z5 ?z6 ?z7 ?z8 ?z9 ?g_SHREDS
  case U1|V1|W1|X1|U2|V2|W2|X2|U3|V3|W3|X3|U4|V4|W4|X4|U5|V5|W5|X5|U6|V6|W6|X6|U7|V7|W7|X7|U8|V8|W8|X8|U9|V9|W9|X9|U10|V10|W10|X10|U11|V11|W11|X11|U12|V12|W12|X12|U13|V13|W13|X13|U14|V14|W14|X14|U15|V15|W15|X15|U16|V16|W16|X16|U17|V17|W17|X17|U18|V18|W18|X18|U19|V19|W19|X19|U20|V20|W20|X20|U21|V21|W21|X21|U22|V22|W22|X22|U23|V23|W23|X23|U24|V24|W24|X24|U25|V25|W25|X25|U26|V26|W26|X26|U27|V27|W27|X27|U28|V28|W28|X28|U29|V29|W29|X29|U30|V30|W30|X30|U31|V31|W31|X31|U32|V32|W32|X32|U33|V33|W33|X33|z0|z1|z2|z3|z4|z5|z6|z7|z8|z9|g_SHREDS => k_is

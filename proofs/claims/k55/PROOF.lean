import PyProof.Rows.All
import Wide.All
import OpenK.AllK
import Wide.FinOn
import Lean
import PyProof.EqAt
import PyProof.EqKinds
import PyProof.TupleCall
import PySem.Challenge.RW_boughdraw_k55_lays
set_option Elab.async false
set_option linter.all false
set_option compiler.extract_closed false
set_option maxRecDepth 100000
namespace L2
open PySem PySem.Spec PyProof.Rows
noncomputable abbrev Key := Sum Int Str
noncomputable def keyIs : Key → Value → Bool
 | .inl k, v => Value.isInt k v
 | .inr x, v => Value.isStrOf x v
noncomputable def keyH (w : World) : Key → Int
 | .inl k => hashInt k
 | .inr x => hashStr w x
theorem keyIs_shape : ∀ {k : Key} {v : Value}, keyIs k v = true → (∃ i t, k = Sum.inl i ∧ v = Value.int i t) ∨ (∃ x t, k = Sum.inr x ∧ v = Value.str x t)
 | .inl i, v, h => by
  obtain ⟨t, e⟩ := Value.isInt_shape (k := i) (v := v) h
  exact .inl ⟨i, t, rfl, e⟩
 | .inr x, v, h => by
  obtain ⟨t, e⟩ := Value.isStrOf_shape (x := x) (v := v) h
  exact .inr ⟨x, t, rfl, e⟩
theorem key_ll (a b : Int) : decide ((Sum.inl a : Key) = Sum.inl b) = (a == b) := by
 by_cases e : a = b
 ·subst e; simp
 ·have h : ¬ (Sum.inl a : Key) = Sum.inl b := fun q => e (Sum.inl.inj q)
  rw [decide_eq_false h]
  exact (beq_eq_false_iff_ne.mpr e).symm
theorem key_rr (a b : Str) : decide ((Sum.inr a : Key) = Sum.inr b) = decide (a = b) := by
 by_cases e : a = b
 ·subst e; simp
 ·have h : ¬ (Sum.inr a : Key) = Sum.inr b := fun q => e (Sum.inr.inj q)
  rw [decide_eq_false h, decide_eq_false e]
theorem key_lr (a : Int) (b : Str) : decide ((Sum.inl a : Key) = Sum.inr b) = false := decide_eq_false (fun q => nomatch q)
theorem key_rl (a : Str) (b : Int) : decide ((Sum.inr a : Key) = Sum.inl b) = false := decide_eq_false (fun q => nomatch q)
noncomputable def mixKind (prog : Program) (w : World) : PySem.KeyKind prog w Key where
 is := keyIs
 hash := keyH w
 inj := fun v a b ha hb => by
  rcases keyIs_shape ha with ⟨i, t, rfl, rfl⟩ | ⟨x, t, rfl, rfl⟩
  ·rcases keyIs_shape hb with ⟨j, u, rfl, e⟩ | ⟨y, u, rfl, e⟩
   ·injection e with e1 _; rw [e1]
   ·exact nomatch e
  ·rcases keyIs_shape hb with ⟨j, u, rfl, e⟩ | ⟨y, u, rfl, e⟩
   ·exact nomatch e
   ·injection e with e1 _; rw [e1]
 byValue := fun k v h => by
  rcases keyIs_shape h with ⟨i, t, rfl, rfl⟩ | ⟨x, t, rfl, rfl⟩ <;> rfl
 pyHash := fun hv h => by
  rcases keyIs_shape hv with ⟨i, t, rfl, rfl⟩ | ⟨x, t, rfl, rfl⟩
  ·exact wpAny_pyHash_int h
  ·exact wpAny_pyHash_str h
 eqBool := fun hu hv h => by
  rcases keyIs_shape hu with ⟨i, t, rfl, rfl⟩ | ⟨x, t, rfl, rfl⟩
  ·rcases keyIs_shape hv with ⟨j, u, rfl, rfl⟩ | ⟨y, u, rfl, rfl⟩
   ·rw [key_ll] at h; exact wpAny_eqBool_int h
   ·rw [key_lr] at h; exact SeqAt.EqAt.int_str i t y u _ _ _ _ h
  ·rcases keyIs_shape hv with ⟨j, u, rfl, rfl⟩ | ⟨y, u, rfl, rfl⟩
   ·rw [key_rl] at h; exact SeqAt.EqAt.str_int x t j u _ _ _ _ h
   ·rw [key_rr] at h; exact wpAny_eqBool_str h
 «strs» := fun k x t v h => by
  rcases keyIs_shape h with ⟨i, u, rfl, e⟩ | ⟨y, u, rfl, e⟩
  ·exact nomatch e
  ·injection e with e1 _
   subst e1
   cases v <;> rfl
end L2
namespace L2
open PySem PySem.Spec PyProof.Rows
inductive V where
 | non | bl (b : Bool) | int (i : Int) | str (x : Str) | byt (b : Array UInt8) | flt (b : UInt64) | ref (a : Addr) | ty (n : String)
 deriving DecidableEq
noncomputable def RelV : V → Value → Prop
 | .non, u => u = Value.none
 | .bl b, u => u = Value.bool b
 | .int i, u => ∃ t, u = Value.int i t
 | .str x, u => ∃ t, u = Value.str x t
 | .byt b, u => ∃ t, u = Value.bytes b t
 | .flt b, u => ∃ t, u = Value.float b t
 | .ref a, u => u = Value.ref a
 | .ty n, u => u = Value.type n
noncomputable abbrev Vals : List V → List Value → Prop := Paired RelV
theorem Vals.length {xs : List V} {us : List Value} (r : Vals xs us) : xs.length = us.length := Paired.length r
theorem Vals.get : ∀ {xs : List V} {us : List Value} {i : Nat} {x : V}, Vals xs us → xs[i]? = some x → ∃ u, us[i]? = some u ∧ RelV x u
 | _, _, _, _, .nil, e => by simp at e
 | _, _, 0, _, .cons r _, e => by simp at e; subst e; exact ⟨_, rfl, r⟩
 | _, _, i + 1, x, .cons _ t, e => by
  obtain ⟨u, h1, h2⟩ := Vals.get (i := i) (x := x) t (by simpa using e)
  exact ⟨u, by simpa using h1, h2⟩
theorem Vals.set {x : V} {u : Value} (r : RelV x u) : ∀ {xs : List V} {us : List Value} (i : Nat), Vals xs us → Vals (xs.set i x) (us.set i u)
 | _, _, _, .nil => .nil
 | _, _, 0, .cons _ t => .cons r t
 | _, _, i + 1, .cons q t => .cons q (Vals.set r i t)
theorem Vals.append : ∀ {xs ys : List V} {us ws : List Value}, Vals xs us → Vals ys ws → Vals (xs ++ ys) (us ++ ws)
 | _, _, _, _, .nil, s => s
 | _, _, _, _, .cons r t, s => .cons r (Vals.append t s)
theorem Vals.take : ∀ {xs : List V} {us : List Value} (n : Nat), Vals xs us → Vals (xs.take n) (us.take n)
 | _, _, 0, _ => .nil
 | _, _, _ + 1, .nil => .nil
 | _, _, n + 1, .cons r t => .cons r (Vals.take n t)
theorem Vals.drop : ∀ {xs : List V} {us : List Value} (n : Nat), Vals xs us → Vals (xs.drop n) (us.drop n)
 | _, _, 0, r => r
 | _, _, _ + 1, .nil => .nil
 | _, _, n + 1, .cons _ t => Vals.drop n t
theorem Vals.none_of : ∀ {xs : List V} {us : List Value} {i : Nat}, Vals xs us → xs[i]? = none → us[i]? = none := fun {xs us i} r e => by
 have h1 := r.length
 have h2 : xs.length ≤ i := List.getElem?_eq_none_iff.mp e
 exact List.getElem?_eq_none_iff.mpr (by lia)
noncomputable def RelO : Option V → Option Value → Prop
 | some v, some u => RelV v u
 | none, none => True
 | _, _ => False
noncomputable def KV {κ : Type} : List (κ × V) → List (κ × Value) → Prop := Paired fun (p : κ × V) (q : κ × Value) => p.1 = q.1 ∧ RelV p.2 q.2
noncomputable def kV : Key → V
 | .inl i => .int i
 | .inr x => .str x
inductive HO where
 | lst (xs : List V)
 | tup (xs : List V)
 | dK (kvs : List (Key × V)) | dT (kvs : List (List Key × V))
 | set (S : Int → Bool) (n : Nat)
 | ins (C dx : Addr) (fs : List (Str × V))
 | own (x : Addr)
 | xd (fs : List (Str × V))
 | met (f x : Addr)
 | rng (lo hi : Int)
 | frz (o : Obj) (u : HO)
 | tbl (ps : Array Value)
 | ext (φ : Heap → Prop)
noncomputable abbrev Hp := Addr → Option HO
noncomputable def upd (H : Hp) (a : Addr) (o : HO) : Hp := fun b => if b = a then some o else H b
theorem upd_same {H : Hp} {a : Addr} {o : HO} : upd H a o a = some o := by unfold upd; rw [if_pos rfl]
theorem upd_ne {H : Hp} {a b : Addr} {o : HO} (h : b ≠ a) : upd H a o b = H b := by unfold upd; rw [if_neg h]
theorem upd_upd {H : Hp} {a : Addr} {o u : HO} : upd (upd H a o) a u = upd H a u := by
 funext b; unfold upd; split <;> rfl
theorem ne_of {H : Hp} {a b : Addr} {o u : HO} (h : H a = some o) (h' : H b = some u) (d : o ≠ u) : a ≠ b := by
 intro e; subst e; rw [h] at h'; exact d (Option.some.inj h')
theorem ne_of_none {H : Hp} {a b : Addr} {o : HO} (h : H a = some o) (h' : H b = none) : a ≠ b := by
 intro e; subst e; rw [h] at h'; cases h'
section
variable (P : Program) (w : World)
noncomputable def ObjOk (H : Hp) (h : Heap) (a : Addr) : HO → Prop
 | .lst xs => xs.length ≤ sizeLine ∧ ∃ (its : List Value) (n : Nat), Vals xs its ∧ h.get? a = some { cls := .type "list", data := .seq its.toArray n }
 | .tup xs => xs.length ≤ sizeLine ∧ ∃ its : List Value, Vals xs its ∧ IsTup h a its.toArray
 | .dK kvs => kvs.length ≤ sizeLine ∧ (a == sysModules) = false ∧ ∃ vs, KV kvs vs ∧ h.DictOf (mixKind P w) a vs
 | .dT kvs => kvs.length ≤ sizeLine ∧ (a == sysModules) = false ∧ ∃ xs : List (List Key × Addr × Value),
   Paired (fun (p : List Key × V) (q : List Key × Addr × Value) => p.1 = q.1 ∧ H q.2.1 = some (.tup (p.1.map kV)) ∧ RelV p.2 q.2.2) kvs xs ∧
   ∃ o es ep, h.get? a = some o ∧ o.ExactDict ∧ o.data = .dict es ep ∧ es.toList = xs.map (entryOfKey (tupleKind (mixKind P w))) ∧ (xs.map (·.1)).Nodup
 | .set S n => h.SetOf (intKind P w) a S n
 | .ins C dx fs => H dx = some (.own a) ∧ fs.length ≤ 1000 ∧ dx ≠ a ∧ h.get? a = some (PySem.W.instObj C dx) ∧
   ∃ mA, h.Ns1 dx mA ∧ (∀ f, RelO (fs.lookup f) (mA f)) ∧ PySem.Within mA (fs.map (·.1))
 | .own _ => ∃ o, h.get? a = some o
 | .xd fs => ∃ mA, h.Ns1 a mA ∧ ∀ f, RelO (fs.lookup f) (mA f)
 | .rng lo hi => ∃ t u v, h.get? a = some { cls := .type "range", data := .fields #[.int lo t, .int hi u, .int 1 v] }
 | .frz o u => h.get? a = some o ∧ ObjOk H h a u
 | .tbl ps => h.get? a = some { cls := .none, data := .fields ps }
 | .met f x => h.get? a = some (PySem.W.methodObj (.ref f) (.ref x))
 | .ext φ => φ h ∧ (∃ o, h.get? a = some o) ∧ ∀ h1 h2 : Heap, φ h1 → (∀ o, h1.get? a = some o → h2.get? a = some o) → φ h2
noncomputable def HOk (H : Hp) (h : Heap) : Prop := ∀ a o, H a = some o → ObjOk P w H h a o
end
section
variable {P : Program} {w : World} {H H' : Hp} {h h' : Heap} {a : Addr} {o : HO}
theorem ObjOk.lt (x : ObjOk P w H h a o) : a < h.objs.size := by
 cases o with
 | lst xs => obtain ⟨_, _, _, _, e⟩ := x; exact Heap.lt_size e
 | tup xs => obtain ⟨_, _, _, p⟩ := x; exact p.lt
 | dK kvs => obtain ⟨_, _, _, _, o, _, _, e, _⟩ := x; exact Heap.lt_size e
 | dT kvs => obtain ⟨_, _, _, _, o, _, _, e, _⟩ := x; exact Heap.lt_size e
 | set S n => obtain ⟨o, _, _, _, e, _⟩ := x; exact Heap.lt_size e
 | ins C dx fs => obtain ⟨_, _, _, e, _⟩ := x; exact Heap.lt_size e
 | own y => obtain ⟨_, e⟩ := x; exact Heap.lt_size e
 | xd fs => obtain ⟨_, ⟨_, _, _, e, _⟩, _⟩ := x; exact Heap.lt_size e
 | rng lo hi => obtain ⟨_, _, _, e⟩ := x; exact Heap.lt_size e
 | frz ob u => obtain ⟨e, _⟩ := x; exact Heap.lt_size e
 | tbl ps => exact Heap.lt_size (show h.get? a = some _ from x)
 | met f y => exact Heap.lt_size (show h.get? a = some _ from x)
 | ext φ => obtain ⟨_, ⟨_, e⟩, _⟩ := x; exact Heap.lt_size e
theorem Paired.mapP {α β : Type} {F G : α → β → Prop} : ∀ {l₁ : List α} {l₂ : List β}, Paired F l₁ l₂ → (∀ a b, F a b → G a b) → Paired G l₁ l₂
 | _, _, .nil, _ => .nil
 | _, _, .cons r t, f => .cons (f _ _ r) (Paired.mapP t f)
theorem ObjOk.stay (x : ObjOk P w H h a o) (k : ∀ b u, (b = a ∨ H b = some (.own a)) → h.get? b = some u → h'.get? b = some u)
  (ho : ∀ b, H b = some (.own a) → H' b = some (.own a)) (ht : ∀ b xs, H b = some (.tup xs) → H' b = some (.tup xs)) : ObjOk P w H' h' a o := by
 induction o with
 | lst xs => obtain ⟨z, its, n, r, e⟩ := x; exact ⟨z, its, n, r, k _ _ (.inl rfl) e⟩
 | tup xs => obtain ⟨z, its, r, ob, e, c⟩ := x; exact ⟨z, its, r, ob, k _ _ (.inl rfl) e, c⟩
 | dK kvs => obtain ⟨z, y, vs, r, ob, es, ep, e, c⟩ := x; exact ⟨z, y, vs, r, ob, es, ep, k _ _ (.inl rfl) e, c⟩
 | dT kvs =>
  obtain ⟨z, y, xs, r, ob, es, ep, e, c⟩ := x
  exact ⟨z, y, xs, Paired.mapP r fun p q z => ⟨z.1, ht _ _ z.2.1, z.2.2⟩, ob, es, ep, k _ _ (.inl rfl) e, c⟩
 | set S n => obtain ⟨ob, es, ep, t, e, c⟩ := x; exact ⟨ob, es, ep, t, k _ _ (.inl rfl) e, c⟩
 | ins C dx fs =>
  obtain ⟨d, z, ne, e, mA, ⟨od, es, ep, e2, c⟩, r⟩ := x
  exact ⟨ho _ d, z, ne, k _ _ (.inl rfl) e, mA, ⟨od, es, ep, k _ _ (.inr d) e2, c⟩, r⟩
 | own y => obtain ⟨ob, e⟩ := x; exact ⟨ob, k _ _ (.inl rfl) e⟩
 | xd fs => obtain ⟨mA, ⟨od, es, ep, e, c⟩, r⟩ := x; exact ⟨mA, ⟨od, es, ep, k _ _ (.inl rfl) e, c⟩, r⟩
 | rng lo hi => obtain ⟨t, u, v, e⟩ := x; exact ⟨t, u, v, k _ _ (.inl rfl) e⟩
 | frz ob u ih => obtain ⟨e, q⟩ := x; exact ⟨k _ _ (.inl rfl) e, ih q⟩
 | tbl ps =>
  have e : h.get? a = some { cls := .none, data := .fields ps } := x
  show h'.get? a = some { cls := .none, data := .fields ps }
  exact k a _ (.inl rfl) e
 | met f y =>
  have e : h.get? a = some (PySem.W.methodObj (.ref f) (.ref y)) := x
  show h'.get? a = some (PySem.W.methodObj (.ref f) (.ref y))
  exact k a _ (.inl rfl) e
 | ext φ => obtain ⟨p, ⟨o, e⟩, st⟩ := x; exact ⟨st _ _ p fun o q => k _ _ (.inl rfl) q, ⟨o, k _ _ (.inl rfl) e⟩, st⟩
theorem HOk.lt (x : HOk P w H h) (e : H a = some o) : a < h.objs.size := (x a o e).lt
theorem HOk.fresh (x : HOk P w H h) (e : h.objs.size ≤ a) : H a = none := by
 cases q : H a with
 | none => rfl
 | some u => exact absurd (Nat.lt_of_lt_of_le (x.lt q) e) (Nat.lt_irrefl _)
theorem HOk.kept (x : HOk P w H h) (k : ∀ b u, h.get? b = some u → h'.get? b = some u) : HOk P w H h' := fun a o e =>
 (x a o e).stay (fun b u _ q => k b u q) (fun _ q => q) fun _ _ q => q
theorem HOk.laid (x : HOk P w H h) (k : ∀ b u, h.get? b = some u → h'.get? b = some u) (hp : h.objs.size ≤ a) (new : ObjOk P w (upd H a o) h' a o) : HOk P w (upd H a o) h' := fun b u e => by
 have hn := x.fresh hp
 by_cases hb : b = a
 ·subst hb; rw [upd_same] at e; cases e; exact new
 ·rw [upd_ne hb] at e
  exact (x b u e).stay (fun c v _ q => k c v q) (fun c q => by rw [upd_ne (ne_of_none q hn)]; exact q) fun c xs q => by rw [upd_ne (ne_of_none q hn)]; exact q
end
noncomputable def Rd (H : Hp) (a : Addr) (u : HO) : Prop := H a = some u ∨ ∃ o, H a = some (.frz o u)
theorem Rd.of {H : Hp} {a : Addr} {u : HO} (h : H a = some u) : Rd H a u := .inl h
theorem Rd.ok {P : Program} {w : World} {H : Hp} {h : Heap} {a : Addr} {u : HO} (r : Rd H a u) (x : HOk P w H h) : ObjOk P w H h a u := by
 rcases r with r | ⟨o, r⟩
 ·exact x a u r
 ·obtain ⟨_, q⟩ := x a _ r
  exact q
noncomputable def Mut : Option HO → Prop
 | some (.lst _) => True
 | some (.dK _) => True
 | some (.dT _) => True
 | some (.set _ _) => True
 | some (.ins _ _ _) => True
 | some (.ext _) => True
 | _ => False
section
variable {P : Program} {w : World} {H : Hp} {h h' : Heap} {x e : Addr} {o' : HO}
theorem HOk.write (ok : HOk P w H h) (mu : Mut (H x)) (he : e = x ∨ H e = some (.own x)) (k : ∀ b u, b ≠ e → h.get? b = some u → h'.get? b = some u) (heo : ∃ u, h'.get? e = some u)
  (new : ObjOk P w (upd H x o') h' x o') : HOk P w (upd H x o') h' := fun b u q => by
 have nown : ∀ c y, H c = some (.own y) → c ≠ x := fun c y r z => by subst z; rw [r] at mu; exact mu
 have ntup : ∀ c xs, H c = some (.tup xs) → c ≠ x := fun c xs r z => by subst z; rw [r] at mu; exact mu
 by_cases hb : b = x
 ·subst hb; rw [upd_same] at q; cases q; exact new
 ·rw [upd_ne hb] at q
  by_cases hbe : b = e
  ·have q' : H b = some (.own x) := by
    rcases he with z | z
    ·exact absurd (hbe.trans z) hb
    ·rw [hbe]; exact z
   rw [q] at q'; cases q'
   obtain ⟨v, hv⟩ := heo
   exact ⟨v, by rw [hbe]; exact hv⟩
  ·refine (ok b u q).stay (fun c v hc r => k c v ?_ r) (fun c r => by rw [upd_ne (nown c b r)]; exact r) fun c xs r => by rw [upd_ne (ntup c xs r)]; exact r
   rcases hc with rfl | hc
   ·exact hbe
   ·rintro rfl
    rcases he with z | z
    ·exact nown c b hc z
    ·rw [hc] at z; cases z; exact hb rfl
end
structure Un (fs ex : List Addr) (H H' : Hp) (h h' : Heap) : Prop where
 keep : ∀ b o, h.get? b = some o → H b = none → b ∉ fs → b ∉ ex → h'.get? b = some o
 slot : ∀ b o, h.get? b = some o → H b = none → b ∈ fs → b ∉ ex → ∃ sl, h'.get? b = some { o with slots := sl }
 free : ∀ b o, h.get? b = some o → H b = none → b ∉ ex → H' b = none
 there : ∀ b o, h.get? b = some o → b ∉ ex → ∃ o', h'.get? b = some o'
 tups : ∀ b xs, H b = some (.tup xs) → H' b = some (.tup xs)
 frzs : ∀ b o u, H b = some (.frz o u) → H' b = some (.frz o u)
 tbls : ∀ b ps, H b = some (.tbl ps) → ∃ more, H' b = some (.tbl (ps ++ more))
section
variable {fs fs' ex ex' : List Addr} {H H1 H2 : Hp} {h h1 h2 h' : Heap} {a x e : Addr} {o : HO}
theorem Un.any (u : Un fs ex H H1 h h1) {b : Addr} {ob : Obj} (q : h.get? b = some ob) (n : H b = none) (hx : b ∉ ex) : ∃ sl, h1.get? b = some { ob with slots := sl } := by
 by_cases hb : b ∈ fs
 ·exact u.slot b ob q n hb hx
 ·exact ⟨ob.slots, u.keep b ob q n hb hx⟩
theorem Un.trans (a : Un fs ex H H1 h h1) (b : Un fs ex H1 H2 h1 h2) : Un fs ex H H2 h h2 where
 keep := fun c ob q n hc hx => b.keep c ob (a.keep c ob q n hc hx) (a.free c ob q n hx) hc hx
 slot := fun c ob q n hc hx => by
  obtain ⟨sl, e1⟩ := a.slot c ob q n hc hx
  obtain ⟨sl', e2⟩ := b.slot c _ e1 (a.free c ob q n hx) hc hx
  exact ⟨sl', e2⟩
 free := fun c ob q n hx => by
  obtain ⟨o', e1⟩ := a.there c ob q hx
  exact b.free c o' e1 (a.free c ob q n hx) hx
 there := fun c ob q hx => by
  obtain ⟨o', e1⟩ := a.there c ob q hx
  exact b.there c o' e1 hx
 tups := fun c xs q => b.tups c xs (a.tups c xs q)
 frzs := fun c ob xs q => b.frzs c ob xs (a.frzs c ob xs q)
 tbls := fun c ps q => by
  obtain ⟨m1, e1⟩ := a.tbls c ps q
  obtain ⟨m2, e2⟩ := b.tbls c _ e1
  exact ⟨m1 ++ m2, by rw [e2, Array.append_assoc]⟩
theorem Un.kept (k : ∀ b u, h.get? b = some u → h'.get? b = some u) : Un fs ex H H h h' :=
 ⟨fun b ob q _ _ _ => k b ob q, fun b ob q _ _ _ => ⟨ob.slots, k b ob q⟩, fun _ _ _ n _ => n, fun b ob q _ => ⟨ob, k b ob q⟩, fun _ _ q => q, fun _ _ _ q => q, fun _ ps q => ⟨#[], by rw [q]; simp⟩⟩
theorem Un.refl : Un fs ex H H h h := Un.kept fun _ _ q => q
theorem Un.laid (k : ∀ b u, h.get? b = some u → h'.get? b = some u) (hp : h.objs.size ≤ a) (hn : H a = none) : Un fs ex H (upd H a o) h h' where
 keep := fun b u q _ _ _ => k b u q
 slot := fun b u q _ _ _ => ⟨u.slots, k b u q⟩
 free := fun b u q n _ => by rw [upd_ne (Nat.ne_of_lt (Nat.lt_of_lt_of_le (Heap.lt_size q) hp))]; exact n
 there := fun b u q _ => ⟨u, k b u q⟩
 tups := fun b xs q => by rw [upd_ne (ne_of_none q hn)]; exact q
 frzs := fun b u xs q => by rw [upd_ne (ne_of_none q hn)]; exact q
 tbls := fun b ps q => ⟨#[], by rw [upd_ne (ne_of_none q hn), q]; simp⟩
theorem Un.write (mu : Mut (H x)) (he : e = x ∨ H e = some (.own x)) (k : ∀ b u, b ≠ e → h.get? b = some u → h'.get? b = some u) (heo : ∃ u, h'.get? e = some u) : Un fs ex H (upd H x o) h h' := by
 have hx : ∀ b, H b = none → b ≠ x := fun b n z => by subst z; rw [n] at mu; exact mu
 have hb : ∀ b, H b = none → b ≠ e := fun b n z => by
  subst z
  rcases he with r | r
  ·exact hx b n r
  ·rw [n] at r; cases r
 have hm : ∀ b u, H b = some u → ¬ Mut (some u) → b ≠ x := fun b u q nm z => by subst z; rw [q] at mu; exact nm mu
 refine ⟨fun b u q n _ _ => k b u (hb b n) q, fun b u q n _ _ => ⟨u.slots, k b u (hb b n) q⟩, fun b u q n _ => by rw [upd_ne (hx b n)]; exact n, fun b u q _ => ?_,
  fun b xs q => by rw [upd_ne (hm b _ q fun z => z)]; exact q, fun b u xs q => by rw [upd_ne (hm b _ q fun z => z)]; exact q, fun b ps q => ⟨#[], by rw [upd_ne (hm b _ q fun z => z), q]; simp⟩⟩
 by_cases hbe : b = e
 ·subst hbe; exact heo
 ·exact ⟨u, k b u hbe q⟩
theorem Un.mono (u : Un fs ex H H1 h h1) (hs : ∀ b ∈ fs, b ∈ fs') (hx : ∀ b ∈ ex, b ∈ ex') : Un fs' ex' H H1 h h1 :=
 ⟨fun b ob q n hb he => u.keep b ob q n (fun z => hb (hs b z)) fun z => he (hx b z), fun _ _ q n _ he => u.any q n fun z => he (hx _ z), fun b ob q n he => u.free b ob q n fun z => he (hx b z), fun b ob q he => u.there b ob q fun z => he (hx b z), u.tups, u.frzs, u.tbls⟩
end
noncomputable def trk (h : Heap) (H : Hp) : List Addr := (List.range h.objs.size).filter fun a => (H a).isSome
noncomputable def hidT (h : Heap) (H : Hp) : Heap := PySem.W.hideAll h (trk h H)
theorem hidT_size (h : Heap) (H : Hp) : (hidT h H).objs.size = h.objs.size := PySem.W.hideAll_size _ _
theorem hidT_get {h : Heap} {H : Hp} {b : Addr} {o : Obj} (e : h.get? b = some o) (n : H b = none) : (hidT h H).get? b = some o :=
 PySem.W.hideAll_get _ e fun hm => by
  have q : (H b).isSome = true := (List.mem_filter.mp hm).2
  rw [n] at q; simp at q
theorem of_hidT {h : Heap} {H : Hp} {b : Addr} {o : Obj} (e : (hidT h H).get? b = some o) : h.get? b = some o ∧ H b = none := by
 have e' : h.get? b = some o := PySem.W.of_hideAll (trk h H) e
 refine ⟨e', ?_⟩
 cases q : H b with
 | none => rfl
 | some x =>
  have hm : b ∈ trk h H := List.mem_filter.mpr ⟨List.mem_range.mpr (Heap.lt_size e'), by simp [q]⟩
  have z : (hidT h H).get? b = none := PySem.W.hideAll_none (trk h H) hm
  rw [z] at e; cases e
noncomputable def allNews (g h : Heap) (L : Addr) : List (Addr × Obj) := (List.range h.objs.size).filterMap fun a => if a = L ∨ (g.get? a).isSome = true then none else (h.get? a).map fun o => (a, o)
noncomputable def rest (g h : Heap) (L d : Addr) : List (Addr × Obj) := (allNews g h L).filter fun p => decide (p.1 ≠ d)
end L2
namespace L2
open PySem PySem.Spec PyProof.Rows
structure Mod (K : PySem.W.Frag) (mg : Str → Option Value) (base : Heap) : Prop where
 kin : K.In base
 glob : base.Ns mainGlobals mg
 blt : ∃ mb, base.Ns builtinsNs mb ∧ ∀ x : Str, x ≠ "__name__" → mb x = bootBuiltins x
 nolimit : base.NoLimit
structure Cx where
 prog : Program
 w : World
 K : PySem.W.Frag
 mg : Str → Option Value
 base : Heap
 A : Around
 N : List Str
 s₀ : Shared
 H₀ : Hp
 env : Env
 outer : List Env
 stack : List Env
 ex : List Addr
 fn : Str → Bool
 calm : Bool
 pn : List (Addr × Obj)
 xe : Value → Shared → Prop
noncomputable def frs (l : List Env) : List Addr := l.filterMap (·.frame)
noncomputable abbrev Cx.fs (X : Cx) : List Addr := frs X.outer
noncomputable def Vis (sc : Scope) (x : Str) : Prop := sc.names.lookup x = some .local ∨ sc.names.lookup x = some .cell ∨ sc.names.lookup x = some .free
noncomputable def Loc (sc : Scope) (x : Str) : Prop := sc.names.lookup x = some .local ∨ sc.names.lookup x = some .cell
noncomputable def Look (env : Env) (h : Heap) (m : Str → Option Value) (x : Str) (u : Value) : Prop :=
 (env.kindOf x = some .local ∧ m x = some u) ∨ ((env.kindOf x = some .cell ∨ env.kindOf x = some .free) ∧ ∃ c, env.cells.lookup x = some c ∧ h.IsCell c (some u))
structure Cx.Ok (X : Cx) : Prop where
 mod : Mod X.K X.mg X.base
 kind : X.env.scope.kind = .function
 glob : X.env.globals = mainGlobals
 blt : X.env.builtins = builtinsNs
 above : X.s₀.heap.objs.size ≤ X.env.locals
 inj : ∀ x y c, X.env.cells.lookup x = some c → X.env.cells.lookup y = some c → x = y
 has : ∀ x, (X.env.kindOf x = some .cell ∨ X.env.kindOf x = some .free) → ∃ c, X.env.cells.lookup x = some c
 cab : ∀ x c, X.fn x = true → X.env.cells.lookup x = some c → X.s₀.heap.objs.size ≤ c
 hd : X.calm = true → X.A.handled = none
 frames : X.A.frames = some X.stack
 stk : X.stack = X.outer ∨ (X.stack = X.env :: X.outer ∧ X.env.frame = some X.env.locals)
 exf : ∀ b ∈ X.ex, b ≠ X.env.locals ∧ ∀ x c, X.env.cells.lookup x = some c → c ≠ b
 bs : ∀ b o, X.base.get? b = some o → X.s₀.heap.get? b = some o ∧ X.H₀ b = none
 bsz : X.base.objs.size ≤ X.s₀.heap.objs.size
 noex : ∀ b o, X.base.get? b = some o → b ∉ X.ex
 exfs : ∀ b ∈ X.ex, b ∉ X.fs
 funs : X.s₀.heap.FunFrames X.base X.outer
 frf : ∀ b ∈ X.fs, X.H₀ b = none
structure Inv (X : Cx) (pins : List (Addr × Obj)) (σ : List (Option V)) (H : Hp) (s : Shared) : Prop where
 ok : X.Ok
 os : s.os = X.s₀.os
 bare : AllBare s.gens
 base : Un X.fs X.ex X.H₀ H X.s₀.heap s.heap
 loc : ∃ m, s.heap.Ns X.env.locals m ∧ ∀ (i : Nat) (x : Str) (v : V), X.N[i]? = some x → σ[i]? = some (some v) → Vis X.env.scope x → ∃ u, RelV v u ∧ Look X.env s.heap m x u
 cell : ∀ x c, X.env.cells.lookup x = some c → ∃ v, s.heap.IsCell c v
 free : H X.env.locals = none
 freeC : ∀ x c, X.env.cells.lookup x = some c → H c = none
 pin : ∀ p ∈ X.pn ++ pins, s.heap.get? p.1 = some p.2 ∧ H p.1 = none ∧ p.1 ≠ X.env.locals ∧ p.1 ∉ X.fs ∧ ∀ v, p.2.data ≠ .cell v
 hok : HOk X.prog X.w H s.heap
 len : σ.length = X.N.length
section
variable {X : Cx} {pins : List (Addr × Obj)} {σ : List (Option V)} {H H' : Hp} {s : Shared} {h' : Heap}
theorem Cx.Ok.nofr (ok : X.Ok) {b : Addr} {o : Obj} (e : X.base.get? b = some o) : b ∉ X.fs := fun hb => by
 have := (ok.funs.mem hb).1
 rw [e] at this; cases this
theorem Inv.bs (I : Inv X pins σ H s) : ∀ b o, X.base.get? b = some o → s.heap.get? b = some o ∧ H b = none := fun b o e =>
 ⟨I.base.keep b o (I.ok.bs b o e).1 (I.ok.bs b o e).2 (I.ok.nofr e) (I.ok.noex b o e), I.base.free b o (I.ok.bs b o e).1 (I.ok.bs b o e).2 (I.ok.noex b o e)⟩
theorem Inv.bk (I : Inv X pins σ H s) : ∀ b o, X.base.get? b = some o → s.heap.get? b = some o := fun b o e => (I.bs b o e).1
theorem Inv.mod (I : Inv X pins σ H s) : Mod X.K X.mg X.base := I.ok.mod
theorem Inv.kIn (I : Inv X pins σ H s) : X.K.In s.heap := I.ok.mod.kin.keeps I.bk
theorem Inv.nolimit (I : Inv X pins σ H s) : s.heap.NoLimit := I.ok.mod.nolimit.keeps I.bk
theorem Inv.fr (I : Inv X pins σ H s) : ∃ m, Fr X.base X.env.locals s.heap m :=
 let ⟨m, hn, _⟩ := I.loc
 ⟨m, hn, I.bk, Nat.le_trans I.ok.bsz I.ok.above⟩
theorem Inv.lt (I : Inv X pins σ H s) : X.env.locals < s.heap.objs.size := let ⟨_, hn, _⟩ := I.loc; hn.lt
theorem Inv.sz (I : Inv X pins σ H s) : X.s₀.heap.objs.size ≤ s.heap.objs.size := Nat.le_trans I.ok.above (Nat.le_of_lt I.lt)
theorem Inv.nofs (I : Inv X pins σ H s) {a : Addr} (h : s.heap.objs.size ≤ a) : a ∉ X.fs := fun hb => by
 obtain ⟨_, o, ho, _⟩ := I.ok.funs.mem hb
 exact absurd (Nat.lt_of_lt_of_le (Heap.lt_size ho) (Nat.le_trans I.sz h)) (Nat.lt_irrefl _)
theorem Inv.cne (I : Inv X pins σ H s) : ∀ x c, X.env.cells.lookup x = some c → c ≠ X.env.locals := fun x c e z => by
 obtain ⟨v, o, ho, hd⟩ := I.cell x c e
 obtain ⟨m, ⟨o', es, ep, ho', hd', _⟩, _⟩ := I.loc
 rw [z, ho'] at ho; cases ho; rw [hd'] at hd; cases hd
theorem Inv.funs (I : Inv X pins σ H s) : s.heap.FunFrames X.base X.outer := by
 have all : ∀ (l : List Env), (∀ b ∈ frs l, b ∈ X.fs) → X.s₀.heap.FunFrames X.base l → s.heap.FunFrames X.base l := by
  intro l
  induction l with
  | nil => intro _ _; trivial
  | cons env r ih =>
   intro hs hl
   obtain ⟨hk, ⟨L, o, hf, hn, ho, hd⟩, hr⟩ := hl
   have hL : L ∈ X.fs := hs L (by unfold frs; rw [List.filterMap_cons, hf]; exact List.mem_cons_self)
   obtain ⟨sl, e⟩ := I.base.slot L o ho (I.ok.frf L hL) hL fun z => I.ok.exfs L z hL
   exact ⟨hk, ⟨L, _, hf, hn, e, hd⟩, ih (fun b hb => hs b (by unfold frs; rw [List.filterMap_cons, hf]; exact List.mem_cons_of_mem _ hb)) hr⟩
 exact all X.outer (fun _ hb => hb) I.ok.funs
theorem Inv.stack (I : Inv X pins σ H s) : s.heap.FunFrames X.base X.stack := by
 rcases I.ok.stk with e | ⟨e, hf⟩
 ·rw [e]; exact I.funs
 ·rw [e]
  obtain ⟨m, hn, _⟩ := I.loc
  refine .cons (by rw [I.ok.kind]; decide) hf hn ?_ I.funs
  exact Heap.get?_none_of_le (Nat.le_trans I.ok.bsz I.ok.above)
theorem Inv.stkSub (I : Inv X pins σ H s) : ∀ b ∈ frs X.stack, b ∈ X.env.locals :: X.fs := fun b hb => by
 rcases I.ok.stk with e | ⟨e, hf⟩
 ·rw [e] at hb; exact List.mem_cons_of_mem _ hb
 ·rw [e] at hb
  unfold frs at hb
  rw [List.filterMap_cons, hf] at hb
  exact hb
theorem Inv.stkFree (I : Inv X pins σ H s) : ∀ b ∈ frs X.stack, H b = none := fun b hb => by
 rcases List.mem_cons.mp (I.stkSub b hb) with e | hb
 ·rw [e]; exact I.free
 ·obtain ⟨_, o, ho, _⟩ := I.ok.funs.mem hb
  exact I.base.free b o ho (I.ok.frf b hb) fun z => I.ok.exfs b z hb
theorem Inv.step {g' : Array GenState} {t' : Nat} {d' : Drawn} {ch : List Addr} (I : Inv X pins σ H s)
  (hch : ∀ b ∈ ch, (b ∈ X.ex ∨ X.s₀.heap.objs.size ≤ b) ∧ b ≠ X.env.locals ∧ (∀ x c, X.env.cells.lookup x = some c → c ≠ b) ∧ ∀ p ∈ X.pn ++ pins, p.1 ≠ b)
  (keep : ∀ b o, b ≠ X.env.locals → b ∉ X.fs → b ∉ ch → s.heap.get? b = some o → H b = none → h'.get? b = some o)
  (slot : ∀ b o, b ≠ X.env.locals → b ∈ X.fs → b ∉ ch → s.heap.get? b = some o → H b = none → ∃ sl, h'.get? b = some { o with slots := sl }) (free : ∀ b o, b ∉ ch → s.heap.get? b = some o → H b = none → H' b = none)
  (there : ∀ b o, b ∉ ch → s.heap.get? b = some o → ∃ o', h'.get? b = some o')
  (tups : ∀ b xs, H b = some (.tup xs) → H' b = some (.tup xs)) (frzs : ∀ b o u, H b = some (.frz o u) → H' b = some (.frz o u)) (tbls : ∀ b ps, H b = some (.tbl ps) → ∃ more, H' b = some (.tbl (ps ++ more)))
  (ns : ∀ m, s.heap.Ns X.env.locals m → h'.Ns X.env.locals m) (hok : HOk X.prog X.w H' h') (hg : AllBare g') :
  Inv X pins σ H' { s with heap := h', gens := g', drawn := d', toks := t' } := by
 have neL : ∀ b o, X.s₀.heap.get? b = some o → b ≠ X.env.locals := fun b o e => Nat.ne_of_lt (Nat.lt_of_lt_of_le (Heap.lt_size e) I.ok.above)
 have neC : ∀ b o, X.s₀.heap.get? b = some o → b ∉ X.ex → b ∉ ch := fun b o e hx hb => by
  rcases (hch b hb).1 with z | z
  ·exact hx z
  ·exact absurd (Nat.lt_of_lt_of_le (Heap.lt_size e) z) (Nat.lt_irrefl _)
 have cellK : ∀ x c, X.env.cells.lookup x = some c → ∀ v, s.heap.IsCell c v → h'.IsCell c v := fun x c e v ⟨o, ho, hd⟩ => by
  have nch : c ∉ ch := fun z => (hch c z).2.2.1 x c e rfl
  by_cases hc : c ∈ X.fs
  ·obtain ⟨sl, q⟩ := slot c o (I.cne x c e) hc nch ho (I.freeC x c e)
   exact ⟨_, q, hd⟩
  ·exact ⟨o, keep c o (I.cne x c e) hc nch ho (I.freeC x c e), hd⟩
 refine ⟨I.ok, I.os, hg, ⟨fun b o e n hb hx => ?_, fun b o e n hb hx => ?_, fun b o e n hx => ?_, fun b o e hx => ?_, fun b xs e => tups b xs (I.base.tups b xs e), fun b o xs e => frzs b o xs (I.base.frzs b o xs e), fun b ps e => ?_⟩, ?_, fun x c e => ?_, ?_, fun x c e => ?_, fun p hp => ?_, hok, I.len⟩
 ·exact keep b o (neL b o e) hb (neC b o e hx) (I.base.keep b o e n hb hx) (I.base.free b o e n hx)
 ·obtain ⟨sl, e1⟩ := I.base.slot b o e n hb hx
  obtain ⟨sl', e2⟩ := slot b _ (neL b o e) hb (neC b o e hx) e1 (I.base.free b o e n hx)
  exact ⟨sl', e2⟩
 ·obtain ⟨o', e1⟩ := I.base.there b o e hx
  exact free b o' (neC b o e hx) e1 (I.base.free b o e n hx)
 ·obtain ⟨o', e1⟩ := I.base.there b o e hx
  exact there b o' (neC b o e hx) e1
 ·obtain ⟨m1, e1⟩ := I.base.tbls b ps e
  obtain ⟨m2, e2⟩ := tbls b _ e1
  exact ⟨m1 ++ m2, by rw [e2, Array.append_assoc]⟩
 ·obtain ⟨m, hn, hl⟩ := I.loc
  refine ⟨m, ns m hn, fun i x v e1 e2 e3 => ?_⟩
  obtain ⟨u, r, l⟩ := hl i x v e1 e2 e3
  refine ⟨u, r, ?_⟩
  rcases l with l | ⟨k, c, e, z⟩
  ·exact .inl l
  ·exact .inr ⟨k, c, e, cellK x c e _ z⟩
 ·obtain ⟨v, z⟩ := I.cell x c e
  exact ⟨v, cellK x c e v z⟩
 ·obtain ⟨m, ⟨o, _, _, ho, _⟩, _⟩ := I.loc
  exact free _ o (fun z => (hch _ z).2.1 rfl) ho I.free
 ·obtain ⟨v, o, ho, hd⟩ := I.cell x c e
  exact free c o (fun z => (hch c z).2.2.1 x c e rfl) ho (I.freeC x c e)
 ·obtain ⟨e, n, ne, nf, d⟩ := I.pin p hp
  have nch : p.1 ∉ ch := fun z => (hch p.1 z).2.2.2 p hp rfl
  exact ⟨keep p.1 p.2 ne nf nch e n, free p.1 p.2 nch e n, ne, nf, d⟩
theorem Inv.un {t' : Nat} (I : Inv X pins σ H s) (u : Un X.fs [] H H' s.heap h') (hok : HOk X.prog X.w H' h') : Inv X pins σ H' { s with heap := h', toks := t' } := by
 obtain ⟨m, ⟨o, es, ep, ho, r⟩, _⟩ := id I.loc
 obtain ⟨sl, hL⟩ := u.any ho I.free (by simp)
 exact I.step (g' := s.gens) (d' := s.drawn) (ch := []) (fun _ z => nomatch z) (fun b o _ hb _ e n => u.keep b o e n hb (by simp)) (fun b o _ hb _ e n => u.slot b o e n hb (by simp)) (fun b o _ e n => u.free b o e n (by simp)) (fun b o _ e => u.there b o e (by simp)) u.tups u.frzs u.tbls (fun m' hm => by
  obtain ⟨o', es', ep', ho', r'⟩ := hm
  rw [ho] at ho'; cases ho'
  exact ⟨_, es', ep', hL, r'⟩) hok I.bare
theorem Inv.call {g' : Array GenState} {t' : Nat} {d' : Drawn} {ch : List Addr} (I : Inv X pins σ H s) (u : Un (frs X.stack) ch H H' s.heap h') (hok : HOk X.prog X.w H' h') (hg : AllBare g')
  (hch : ∀ b ∈ ch, (b ∈ X.ex ∨ X.s₀.heap.objs.size ≤ b) ∧ b ≠ X.env.locals ∧ (∀ x c, X.env.cells.lookup x = some c → c ≠ b) ∧ ∀ p ∈ X.pn ++ pins, p.1 ≠ b) :
  Inv X pins σ H' { s with heap := h', gens := g', drawn := d', toks := t' } := by
 obtain ⟨m, ⟨o, es, ep, ho, r⟩, _⟩ := id I.loc
 obtain ⟨sl, hL⟩ := u.any ho I.free fun z => (hch _ z).2.1 rfl
 exact I.step (ch := ch) hch (fun b o hL hb hc e n => u.keep b o e n (fun z => (List.mem_cons.mp (I.stkSub b z)).elim hL hb) hc) (fun b o _ _ hc e n => u.any e n hc) (fun b o hc e n => u.free b o e n hc) (fun b o hc e => u.there b o e hc) u.tups u.frzs u.tbls (fun m' hm => by
  obtain ⟨o', es', ep', ho', r'⟩ := hm
  rw [ho] at ho'; cases ho'
  exact ⟨_, es', ep', hL, r'⟩) hok hg
theorem Inv.turned {t' : Nat} {it : Addr} (I : Inv X pins σ H s) (k : ∀ b o, b ≠ it → s.heap.get? b = some o → h'.get? b = some o) (hn : H it = none) (hL : it ≠ X.env.locals)
  (h1 : it ∈ X.ex ∨ X.s₀.heap.objs.size ≤ it) (h2 : ∀ x c, X.env.cells.lookup x = some c → c ≠ it) (h3 : ∀ p ∈ X.pn ++ pins, p.1 ≠ it) : Inv X pins σ H { s with heap := h', toks := t' } := by
 have nit : ∀ b u, H b = some u → b ≠ it := fun b u e z => by rw [z, hn] at e; cases e
 refine I.step (g' := s.gens) (d' := s.drawn) (ch := [it]) (fun b hb => ?_) (fun b o _ _ hc e _ => k b o (fun z => hc (by simp [z])) e) (fun b o _ _ hc e _ => ⟨o.slots, k b o (fun z => hc (by simp [z])) e⟩) (fun _ _ _ _ n => n)
  (fun b o hc e => ⟨o, k b o (fun z => hc (by simp [z])) e⟩) (fun _ _ e => e) (fun _ _ _ e => e) (fun b ps e => ⟨#[], by rw [e]; simp⟩) (fun m hm => ?_) (fun b u e => ?_) I.bare
 ·have e : b = it := by simpa using hb
  subst e
  exact ⟨h1, hL, h2, h3⟩
 ·obtain ⟨o, es, ep, ho, r⟩ := hm
  exact ⟨o, es, ep, k _ o (Ne.symm hL) ho, r⟩
 ·refine (I.hok b u e).stay (fun c v hc q => k c v ?_ q) (fun _ q => q) fun _ _ q => q
  rcases hc with z | z
  ·rw [z]; exact nit b u e
  ·exact nit c _ z
theorem Inv.tok (I : Inv X pins σ H s) (t : Nat) : Inv X pins σ H { s with toks := t } := I.un (h' := s.heap) (t' := t) Un.refl I.hok
theorem Inv.kept {t' : Nat} (I : Inv X pins σ H s) (k : ∀ b u, s.heap.get? b = some u → h'.get? b = some u) : Inv X pins σ H { s with heap := h', toks := t' } := I.un (Un.kept k) (I.hok.kept k)
theorem Inv.laid {a : Addr} {o : HO} {t' : Nat} (I : Inv X pins σ H s) (k : ∀ b u, s.heap.get? b = some u → h'.get? b = some u) (hp : s.heap.objs.size ≤ a) (new : ObjOk X.prog X.w (upd H a o) h' a o) :
  Inv X pins σ (upd H a o) { s with heap := h', toks := t' } := I.un (Un.laid k hp (I.hok.fresh hp)) (I.hok.laid k hp new)
theorem Inv.write {x e : Addr} {o : HO} {t' : Nat} (I : Inv X pins σ H s) (mu : Mut (H x)) (he : e = x ∨ H e = some (.own x)) (k : ∀ b u, b ≠ e → s.heap.get? b = some u → h'.get? b = some u) (heo : ∃ u, h'.get? e = some u)
  (new : ObjOk X.prog X.w (upd H x o) h' x o) : Inv X pins σ (upd H x o) { s with heap := h', toks := t' } := I.un (Un.write mu he k heo) (I.hok.write mu he k heo new)
theorem Inv.weak {σ' : List (Option V)} (I : Inv X pins σ H s) (hl : σ'.length = σ.length) (w : ∀ (i : Nat) v, σ'[i]? = some (some v) → σ[i]? = some (some v)) : Inv X pins σ' H s :=
 ⟨I.ok, I.os, I.bare, I.base, let ⟨m, hn, hl'⟩ := I.loc; ⟨m, hn, fun i x v e1 e2 e3 => hl' i x v e1 (w i v e2) e3⟩, I.cell, I.free, I.freeC, I.pin, I.hok, hl.trans I.len⟩
theorem Inv.pins_of {pins' : List (Addr × Obj)} (I : Inv X pins σ H s) (h : ∀ p ∈ pins', s.heap.get? p.1 = some p.2 ∧ H p.1 = none ∧ p.1 ≠ X.env.locals ∧ p.1 ∉ X.fs ∧ ∀ v, p.2.data ≠ .cell v) : Inv X pins' σ H s :=
 ⟨I.ok, I.os, I.bare, I.base, I.loc, I.cell, I.free, I.freeC, fun p hp => (List.mem_append.mp hp).elim (fun z => I.pin p (List.mem_append_left _ z)) (h p), I.hok, I.len⟩
theorem nodup_ix {N : List Str} (hN : N.Nodup) {i j : Nat} {x : Str} (a : N[i]? = some x) (b : N[j]? = some x) : i = j := by
 obtain ⟨h1, e1⟩ := List.getElem?_eq_some_iff.mp a
 obtain ⟨h2, e2⟩ := List.getElem?_eq_some_iff.mp b
 exact (List.getElem_inj hN).mp (e1.trans e2.symm)
theorem store_ok2 {M : Model} {A : Around} {E : Value → Shared → Prop} {i : Nat} {x : Str} {v : V} {u : Value} {Q : Unit → Shared → Prop} (I : Inv X pins σ H s) (hN : X.N.Nodup) (hi : X.N[i]? = some x) (hx : Loc X.env.scope x) (r : RelV v u)
  (h : ∀ s', Inv X pins (σ.set i (some v)) H s' → (∃ a, Heap.SameBut a s.heap s'.heap ∧ (a = X.env.locals ∨ X.env.cells.lookup x = some a)) → Q () s') (hf : X.fn x = true ∨ X.env.scope.names.lookup x = some .local := by first | exact .inl rfl | exact .inr rfl | assumption) : wpAny M A (storeName X.env x u) Q E s := by
 obtain ⟨m, hn, hl⟩ := id I.loc
 have hcls : (X.env.scope.kind == .class || (X.env.scope.kind == .module && X.env.locals != X.env.globals)) = false := by rw [I.ok.kind]; rfl
 have hiσ : i < σ.length := by rw [I.len]; exact (List.getElem?_eq_some_iff.mp hi).1
 have cne := I.cne
 have tracked : ∀ {a : Addr} {h' : Heap}, (∃ o, s.heap.get? a = some o ∧ H a = none) → Heap.SameBut a s.heap h' → HOk X.prog X.w H h' := fun {a h'} ha hs b ob e => by
  obtain ⟨_, _, hfree⟩ := ha
  refine (I.hok b ob e).stay (fun c w' hc q => (hs.2 c ?_).trans q) (fun _ q => q) fun _ _ q => q
  rintro rfl
  rcases hc with rfl | hc
  ·rw [hfree] at e; cases e
  ·rw [hfree] at hc; cases hc
 rcases hx with hk | hk
 ·refine wpAny_storeName_local hk hn (fun h' hn' hs => ?_) hcls
  obtain ⟨oL, _, _, hoL, _⟩ := id hn
  refine h _ ⟨I.ok, I.os, I.bare, ⟨fun b o e n hb hx => ?_, fun b o e n hb hx => ?_, I.base.free, fun b o e hx => ?_, I.base.tups, I.base.frzs, I.base.tbls⟩, ⟨_, hn', fun j y v' e1 e2 e3 => ?_⟩, fun y c e => ?_, I.free, I.freeC, fun p hp => ?_, tracked ⟨oL, hoL, I.free⟩ hs, by simpa using I.len⟩ ⟨_, hs, .inl rfl⟩
  ·exact (hs.2 b (Nat.ne_of_lt (Nat.lt_of_lt_of_le (Heap.lt_size e) I.ok.above))).trans (I.base.keep b o e n hb hx)
  ·obtain ⟨sl, e1⟩ := I.base.slot b o e n hb hx
   exact ⟨sl, (hs.2 b (Nat.ne_of_lt (Nat.lt_of_lt_of_le (Heap.lt_size e) I.ok.above))).trans e1⟩
  ·obtain ⟨o', e1⟩ := I.base.there b o e hx
   exact ⟨o', (hs.2 b (Nat.ne_of_lt (Nat.lt_of_lt_of_le (Heap.lt_size e) I.ok.above))).trans e1⟩
  ·by_cases hj : j = i
   ·subst hj
    rw [hi] at e1; cases e1
    rw [List.getElem?_set_self hiσ] at e2
    cases e2
    exact ⟨u, r, .inl ⟨hk, by simp⟩⟩
   ·rw [List.getElem?_set_ne (Ne.symm hj)] at e2
    obtain ⟨u', r', q⟩ := hl j y v' e1 e2 e3
    refine ⟨u', r', ?_⟩
    rcases q with ⟨k, e⟩ | ⟨k, c, e, z⟩
    ·refine .inl ⟨k, ?_⟩
     have : y ≠ x := fun e => hj (nodup_ix hN e1 (e ▸ hi))
     simp [this, e]
    ·exact .inr ⟨k, c, e, z.sameBut hs (cne y c e)⟩
  ·obtain ⟨w', z⟩ := I.cell y c e
   exact ⟨w', z.sameBut hs (cne y c e)⟩
  ·obtain ⟨e, n, ne, nf, d⟩ := I.pin p hp
   exact ⟨(hs.2 p.1 ne).trans e, n, ne, nf, d⟩
 ·have hfn : X.fn x = true := by
   rcases hf with z | z
   ·exact z
   ·rw [z] at hk; cases hk
  obtain ⟨c, hc⟩ := I.ok.has x (.inl hk)
  obtain ⟨w', z⟩ := I.cell x c hc
  refine wpAny_storeName_cell I.ok.kind hk hc z (fun h' hc' hs => ?_)
  obtain ⟨oc, hoc, hocd⟩ := id z
  refine h { s with heap := h' } ⟨I.ok, I.os, I.bare, ⟨fun b o e n hb hx => ?_, fun b o e n hb hx => ?_, I.base.free, fun b o e hx => ?_, I.base.tups, I.base.frzs, I.base.tbls⟩, ⟨m, hn.sameBut hs (Ne.symm (cne x c hc)), fun j y v' e1 e2 e3 => ?_⟩, fun y c' e => ?_, I.free, I.freeC, fun p hp => ?_, tracked ⟨oc, hoc, I.freeC x c hc⟩ hs, by simpa using I.len⟩ ⟨c, hs, .inr hc⟩
  ·exact (hs.2 b (Nat.ne_of_lt (Nat.lt_of_lt_of_le (Heap.lt_size e) (I.ok.cab x c hfn hc)))).trans (I.base.keep b o e n hb hx)
  ·obtain ⟨sl, e1⟩ := I.base.slot b o e n hb hx
   exact ⟨sl, (hs.2 b (Nat.ne_of_lt (Nat.lt_of_lt_of_le (Heap.lt_size e) (I.ok.cab x c hfn hc)))).trans e1⟩
  ·obtain ⟨o', e1⟩ := I.base.there b o e hx
   exact ⟨o', (hs.2 b (Nat.ne_of_lt (Nat.lt_of_lt_of_le (Heap.lt_size e) (I.ok.cab x c hfn hc)))).trans e1⟩
  ·by_cases hj : j = i
   ·subst hj
    rw [hi] at e1; cases e1
    rw [List.getElem?_set_self hiσ] at e2
    cases e2
    exact ⟨u, r, .inr ⟨.inl hk, c, hc, hc'⟩⟩
   ·rw [List.getElem?_set_ne (Ne.symm hj)] at e2
    obtain ⟨u', r', q⟩ := hl j y v' e1 e2 e3
    refine ⟨u', r', ?_⟩
    rcases q with q | ⟨k, c', e, z'⟩
    ·exact .inl q
    ·refine .inr ⟨k, c', e, z'.sameBut hs ?_⟩
     rintro rfl
     exact hj (nodup_ix hN e1 (I.ok.inj _ _ _ e hc ▸ hi))
  ·by_cases hcc : c' = c
   ·subst hcc; exact ⟨_, hc'⟩
   ·obtain ⟨w2, z2⟩ := I.cell y c' e
    exact ⟨w2, z2.sameBut hs hcc⟩
  ·obtain ⟨e, n, ne, nf, d⟩ := I.pin p hp
   refine ⟨(hs.2 p.1 ?_).trans e, n, ne, nf, d⟩
   intro q
   rw [q, hoc] at e
   have q' : oc = p.2 := Option.some.inj e
   exact d w' (by rw [← q']; exact hocd)
theorem store_ok {M : Model} {A : Around} {E : Value → Shared → Prop} {i : Nat} {x : Str} {v : V} {u : Value} {Q : Unit → Shared → Prop} (I : Inv X pins σ H s) (hN : X.N.Nodup) (hi : X.N[i]? = some x) (hx : Loc X.env.scope x) (r : RelV v u)
  (h : ∀ s', Inv X pins (σ.set i (some v)) H s' → Q () s') (hf : X.fn x = true ∨ X.env.scope.names.lookup x = some .local := by first | exact .inl rfl | exact .inr rfl | assumption) : wpAny M A (storeName X.env x u) Q E s :=
 store_ok2 I hN hi hx r (fun s' I' _ => h s' I') hf
theorem Inv.call' {s' : Shared} {ch : List Addr} (I : Inv X pins σ H s) (ho : s'.os = s.os) (u : Un (frs X.stack) ch H H' s.heap s'.heap) (hok : HOk X.prog X.w H' s'.heap) (hg : AllBare s'.gens)
  (hch : ∀ b ∈ ch, (b ∈ X.ex ∨ X.s₀.heap.objs.size ≤ b) ∧ b ≠ X.env.locals ∧ (∀ x c, X.env.cells.lookup x = some c → c ≠ b) ∧ ∀ p ∈ X.pn ++ pins, p.1 ≠ b) : Inv X pins σ H' s' := by
 obtain ⟨h', g', d', t', o'⟩ := s'
 have e : o' = s.os := ho
 subst e
 exact I.call (g' := g') (t' := t') (d' := d') u hok hg hch
end
noncomputable abbrev XK := Value → Option Addr → Hp → Prop
noncomputable abbrev St := List (Option V)
noncomputable abbrev VK := V → Hp → Prop
noncomputable abbrev TE := St → Hp → VK → Prop
noncomputable abbrev TT := St → Hp → (Bool → Hp → Prop) → Prop
noncomputable abbrev TA := St → Hp → (List V → Hp → Prop) → Prop
structure Ends where
 nx : St → Hp → Prop
 rt : VK
 bk : St → Hp → Prop := fun _ _ => False
 ct : St → Hp → Prop := fun _ _ => False
noncomputable abbrev TS := Ends → St → Hp → Prop
noncomputable def EP (X : Cx) (pins : List (Addr × Obj)) (σ : St) (Q : VK) (u : Value) (s' : Shared) : Prop := ∃ v H', Inv X pins σ H' s' ∧ RelV v u ∧ Q v H'
noncomputable def TP (X : Cx) (pins : List (Addr × Obj)) (σ : St) (Q : Bool → Hp → Prop) (b : Bool) (s' : Shared) : Prop := ∃ H', Inv X pins σ H' s' ∧ Q b H'
noncomputable def AP (X : Cx) (pins : List (Addr × Obj)) (σ : St) (Q : List V → Hp → Prop) (us : List Value) (s' : Shared) : Prop := ∃ vs H', Inv X pins σ H' s' ∧ Vals vs us ∧ Q vs H'
noncomputable def SP (X : Cx) (pins : List (Addr × Obj)) (D : Ends) (f : Flow) (s' : Shared) : Prop :=
 match f with
 | .next => ∃ σ' H', Inv X pins σ' H' s' ∧ D.nx σ' H'
 | .brk => ∃ σ' H', Inv X pins σ' H' s' ∧ D.bk σ' H'
 | .cont => ∃ σ' H', Inv X pins σ' H' s' ∧ D.ct σ' H'
 | .ret u => ∃ v σ' H', Inv X pins σ' H' s' ∧ RelV v u ∧ D.rt v H'
noncomputable def PE (X : Cx) (e : Expr) (t : TE) : Prop :=
 ∀ (pins : List (Addr × Obj)) (s : Shared) (σ : St) (H : Hp) (Q : VK), Inv X pins σ H s → t σ H Q → wpAny (model X.prog X.w) X.A (eval e X.env) (EP X pins σ Q) X.xe s
noncomputable def PT (X : Cx) (e : Expr) (t : TT) : Prop :=
 ∀ (pins : List (Addr × Obj)) (s : Shared) (σ : St) (H : Hp) (Q : Bool → Hp → Prop), Inv X pins σ H s → t σ H Q → wpAny (model X.prog X.w) X.A (isTrue e X.env (eval e X.env)) (TP X pins σ Q) X.xe s
noncomputable def PW (X : Cx) (e : Expr) (t : TT) : Prop :=
 ∀ (whole : Sem Value) (pins : List (Addr × Obj)) (s : Shared) (σ : St) (H : Hp) (Q : Bool → Hp → Prop), Inv X pins σ H s → t σ H Q → wpAny (model X.prog X.w) X.A (isTrue e X.env whole) (TP X pins σ Q) X.xe s
theorem PW.pt {X : Cx} {e : Expr} {t : TT} (h : PW X e t) : PT X e t := h _
noncomputable def PA (X : Cx) (es : List Expr) (t : TA) : Prop :=
 ∀ (pos : Pos) (pins : List (Addr × Obj)) (s : Shared) (σ : St) (H : Hp) (Q : List V → Hp → Prop), Inv X pins σ H s → t σ H Q → wpAny (model X.prog X.w) X.A (spliced (backTo pos (starEach es X.env))) (AP X pins σ Q) X.xe s
noncomputable def PS (X : Cx) (st : Stmt) (t : TS) : Prop :=
 ∀ (pins : List (Addr × Obj)) (s : Shared) (σ : St) (H : Hp) (D : Ends), Inv X pins σ H s → t D σ H → wpAny (model X.prog X.w) X.A (exec st X.env) (SP X pins D) X.xe s
noncomputable def PSs (X : Cx) (st : List Stmt) (t : TS) : Prop :=
 ∀ (pins : List (Addr × Obj)) (s : Shared) (σ : St) (H : Hp) (D : Ends), Inv X pins σ H s → t D σ H → wpAny (model X.prog X.w) X.A (execs st X.env) (SP X pins D) X.xe s
theorem thn {α : Type} {t : Sem α} {Q Q' : α → Shared → Prop} {M : Model} {A : Around} {E : Value → Shared → Prop} {s : Shared} (h : wpAny M A t Q E s) (hQ : ∀ a s, Q a s → Q' a s) : wpAny M A t Q' E s := wpAny_mono h hQ fun _ _ x => x
end L2
namespace L2
open PySem PySem.Spec PyProof.Rows
section
variable {X : Cx}
noncomputable def tVar (i : Nat) : TE := fun σ H Q => ∃ v, σ[i]? = some (some v) ∧ Q v H
noncomputable def tC (v : V) : TE := fun _ H Q => Q v H
theorem pe_var {i : Nat} {x : Str} {pos : Pos} (hN : X.N[i]? = some x) (hv : Vis X.env.scope x) (hd : (x == ("__debug__" : Str)) = false := by decide) (hcd : (x == ("__classdict__" : Str)) = false := by decide) : PE X (.Name x pos) (tVar i) := by
 intro pins s σ H Q I h
 obtain ⟨v, e, h⟩ := h
 obtain ⟨m, hn, hl⟩ := I.loc
 obtain ⟨u, r, l⟩ := hl i x v hN e hv
 have fin : EP X pins σ Q u s := ⟨v, H, I, r, h⟩
 rcases l with ⟨hk, hm⟩ | ⟨hk, c, hc, hcell⟩
 ·exact wpAny_Name (wpAny_loadName_local I.ok.kind hk hn hm fin) hd
 ·rcases hk with hk | hk
  ·exact wpAny_Name (wpAny_loadName_cell I.ok.kind hk hc hcell fin) hd
  ·exact wpAny_Name (wpAny_loadName_free I.ok.kind hk hc hcell fin hcd) hd
theorem pe_int {i j pos} : PE X (.Constant (.int i) j pos) (tC (.int i)) := fun _ _ _ H _ I h => wpAny_Constant_int ⟨.int i, H, I.tok _, ⟨_, rfl⟩, h⟩
theorem pe_bl {b j pos} : PE X (.Constant (.bool b) j pos) (tC (.bl b)) := fun _ _ _ H _ I h => Constant_bool ⟨.bl b, H, I, rfl, h⟩
noncomputable def Gl (X : Cx) (x : Str) : Prop := X.env.kindOf x = some .globalImplicit
theorem ld_glob {E : Value → Shared → Prop} {pins : List (Addr × Obj)} {s : Shared} {σ : St} {H : Hp} {x : Str} {u : Value} {pos : Pos} {Q : Value → Shared → Prop} (I : Inv X pins σ H s) (hg : Gl X x) (hm : X.mg x = some u) (h : Q u s)
  (hd : (x == ("__debug__" : Str)) = false := by decide) : wpAny (model X.prog X.w) X.A (eval (.Name x pos) X.env) Q E s :=
 Calls.Name_function_global I.ok.kind hg (Calls.loadGlobal_global (by rw [I.ok.glob]; exact I.mod.glob.keeps I.bk) hm h) hd
theorem ld_blt {E : Value → Shared → Prop} {pins : List (Addr × Obj)} {s : Shared} {σ : St} {H : Hp} {x : Str} {u : Value} {pos : Pos} {Q : Value → Shared → Prop} (I : Inv X pins σ H s) (hg : Gl X x) (hm : X.mg x = none) (hv : bootBuiltins x = some u) (h : Q u s)
  (hn : x ≠ "__name__" := by decide) (hd : (x == ("__debug__" : Str)) = false := by decide) : wpAny (model X.prog X.w) X.A (eval (.Name x pos) X.env) Q E s := by
 obtain ⟨mb, h1, h2⟩ := I.mod.blt
 exact Calls.Name_function_global I.ok.kind hg (Calls.loadGlobal_builtin (by rw [I.ok.glob]; exact I.mod.glob.keeps I.bk) hm (by rw [I.ok.blt]; exact h1.keeps I.bk) ((h2 x hn).trans hv) h) hd
theorem pe_glob {x : Str} {v : V} {u : Value} {pos : Pos} (hg : Gl X x) (hm : X.mg x = some u) (r : RelV v u) (hd : (x == ("__debug__" : Str)) = false := by decide) : PE X (.Name x pos) (tC v) :=
 fun _ _ _ H _ I h => ld_glob I hg hm ⟨v, H, I, r, h⟩ hd
theorem pe_bltn {x : Str} {v : V} {u : Value} {pos : Pos} (hg : Gl X x) (hm : X.mg x = none) (hv : bootBuiltins x = some u) (r : RelV v u) (hn : x ≠ "__name__" := by decide) (hd : (x == ("__debug__" : Str)) = false := by decide) : PE X (.Name x pos) (tC v) :=
 fun _ _ _ H _ I h => ld_blt I hg hm hv ⟨v, H, I, r, h⟩ hn hd
variable {a b : Expr} {ta tb : TE} {pos : Pos}
noncomputable def tB (t : TE) : TT := fun σ H Q => t σ H fun x H1 => ∃ c, x = .bl c ∧ Q c H1
theorem pt_val {e : Expr} {t : TE} (h : PE X e t) (he : ∀ whole, isTrue e X.env whole = (do let v ← whole; standAt e.pos; holding [v] (truthy v)) := by intro _; rfl) : PT X e (tB t) := by
 intro pins s σ H Q I hw
 refine isTrue_plain (thn (h pins s σ H _ I hw) fun v s1 ⟨x, H1, I1, r1, q1⟩ => ?_) (he _)
 obtain ⟨d, rfl, q⟩ := q1
 cases r1
 exact wpAny_truthy_bool ⟨H1, I1, q⟩
variable {tA tB' : TT} {rest : List Expr}
noncomputable def tOr (t u : TT) : TT := fun σ H Q => t σ H fun c H1 => if c = true then Q true H1 else u σ H1 Q
noncomputable def tNot (t : TT) : TT := fun σ H Q => t σ H fun c H1 => Q (!c) H1
theorem pw_or1 (ha : PT X a tA) : PW X (.BoolOp .Or [a] pos) tA := by
 intro wh pins s σ H Q I h
 refine isTrue_or (thn (ha pins s σ H Q I h) fun c s1 e => ?_)
 cases c with
 | false => exact isTrue_or_nil e
 | true => exact e
theorem pw_or (ha : PT X a tA) (hb : PW X (.BoolOp .Or (b :: rest) pos) tB') : PW X (.BoolOp .Or (a :: b :: rest) pos) (tOr tA tB') := by
 intro wh pins s σ H Q I h
 refine isTrue_or (thn (ha pins s σ H _ I h) fun c s1 ⟨H1, I1, q1⟩ => ?_)
 cases c with
 | true => exact ⟨H1, I1, q1⟩
 | false => exact hb wh pins s1 σ H1 Q I1 q1
theorem pt_not (ha : PT X a tA) : PT X (.UnaryOp .Not a pos) (tNot tA) := by
 intro pins s σ H Q I h
 exact isTrue_not (ha pins s σ H (fun c H1 => Q (!c) H1) I h)
noncomputable def tAndV (ta tb : TE) : TE := fun σ H Q => ta σ H fun x H1 => ∃ c, x = .bl c ∧ if c = true then tb σ H1 Q else Q (.bl false) H1
noncomputable def tNotV (ta : TE) : TE := fun σ H Q => ta σ H fun x H1 => ∃ c, x = .bl c ∧ Q (.bl (!c)) H1
theorem pe_one {op} {t : TE} (h : PE X a t) : PE X (.BoolOp op [a] pos) t := fun pins s σ H Q I hw => BoolOp_one (h pins s σ H Q I hw)
theorem pe_and (ha : PE X a ta) (hb : PE X (.BoolOp .And (b :: rest) pos) tb) : PE X (.BoolOp .And (a :: b :: rest) pos) (tAndV ta tb) := by
 intro pins s σ H Q I h
 refine BoolOp_and (thn (ha pins s σ H _ I h) fun v s1 ⟨x, H1, I1, r1, q1⟩ => ?_)
 obtain ⟨c, rfl, q1⟩ := q1
 cases r1
 refine wpAny_truthy_bool ?_
 cases c with
 | true => exact hb pins s1 σ H1 Q I1 q1
 | false => exact ⟨.bl false, H1, I1, rfl, q1⟩
theorem pe_not (ha : PE X a ta) : PE X (.UnaryOp .Not a pos) (tNotV ta) := by
 intro pins s σ H Q I h
 refine UnaryOp_ (thn (ha pins s σ H _ I h) fun v s1 ⟨x, H1, I1, r1, q1⟩ => ?_)
 obtain ⟨c, rfl, q1⟩ := q1
 cases r1
 exact not_of (wpAny_truthy_bool ⟨.bl (!c), H1, I1, rfl, q1⟩)
noncomputable def tIf (t : TT) (ta tb : TE) : TE := fun σ H Q => t σ H fun c H1 => if c = true then ta σ H1 Q else tb σ H1 Q
theorem pe_ifExp {c : Expr} (hc : PT X c tA) (ha : PE X a ta) (hb : PE X b tb) : PE X (.IfExp c a b pos) (tIf tA ta tb) := by
 intro pins s σ H Q I h
 refine wpAny_IfExp (thn (hc pins s σ H _ I h) fun d s1 ⟨H1, I1, q1⟩ => ?_)
 cases d with
 | true => exact ha pins s1 σ H1 Q I1 q1
 | false => exact hb pins s1 σ H1 Q I1 q1
end
end L2
namespace L2
open PySem PySem.Spec PyProof.Rows
noncomputable def SqL (K : PySem.W.Frag) (H : Hp) (a : Addr) (xs : List V) : Prop :=
 Rd H a (.lst xs) ∨
  ∃ (o : Obj) (its : Array Value) (n : Nat), K.lookup a = some o ∧ o.cls = .type "list" ∧ o.dict = none ∧ o.data = .seq its n ∧ its.size ≤ sizeLine ∧ Vals xs its.toList
noncomputable def SqT (K : PySem.W.Frag) (H : Hp) (a : Addr) (xs : List V) : Prop :=
 Rd H a (.tup xs) ∨
  ∃ (o : Obj) (its : Array Value) (n : Nat), K.lookup a = some o ∧ o.cls = .type "tuple" ∧ o.data = .seq its n ∧ its.size ≤ sizeLine ∧ Vals xs its.toList
noncomputable def absV : Value → Option V
 | .none => some .non
 | .bool b => some (.bl b)
 | .int i _ => some (.int i)
 | .str x _ => some (.str x)
 | .bytes b _ => some (.byt b)
 | .float b _ => some (.flt b)
 | .ref a => some (.ref a)
 | .type n => some (.ty n)
 | _ => none
theorem RelV.abs {x : V} {u : Value} (r : RelV x u) : absV u = some x := by
 cases x with
 | non => cases r; rfl
 | bl _ => cases r; rfl
 | int _ => obtain ⟨t, rfl⟩ := r; rfl
 | str _ => obtain ⟨t, rfl⟩ := r; rfl
 | byt _ => obtain ⟨t, rfl⟩ := r; rfl
 | flt _ => obtain ⟨t, rfl⟩ := r; rfl
 | ref _ => cases r; rfl
 | ty _ => cases r; rfl
theorem RelV.inj {x y : V} {u : Value} (r : RelV x u) (q : RelV y u) : x = y := Option.some.inj (r.abs.symm.trans q.abs)
theorem Vals.inj : ∀ {xs ys : List V} {us : List Value}, Vals xs us → Vals ys us → xs = ys
 | _, _, _, .nil, .nil => rfl
 | _, _, _, .cons r t, .cons r' t' => by rw [r.inj r', Vals.inj t t']
section
variable {X : Cx} {pins : List (Addr × Obj)} {σ : St} {H : Hp} {s : Shared} {a : Addr} {xs ys : List V}
theorem SqL.of {K : PySem.W.Frag} (h : H a = some (.lst xs)) : SqL K H a xs := .inl (.inl h)
theorem SqT.of {K : PySem.W.Frag} (h : H a = some (.tup xs)) : SqT K H a xs := .inl (.inl h)
theorem Inv.list (I : Inv X pins σ H s) (h : SqL X.K H a xs) : ∃ its : List Value, Vals xs its ∧ PlainL s.heap a its.toArray ∧ xs.length ≤ sizeLine := by
 rcases h with h | ⟨o, its, n, hk, hc, hd, hs, hz, r⟩
 ·obtain ⟨z, its, n, r, e⟩ := h.ok I.hok
  exact ⟨its, r, ⟨_, n, e, rfl, rfl, rfl⟩, z⟩
 ·refine ⟨its.toList, r, ⟨o, n, I.kIn a o hk, hc, hd, by simpa using hs⟩, ?_⟩
  have e := r.length
  simp only [Array.length_toList] at e
  lia
theorem Inv.tuple (I : Inv X pins σ H s) (h : SqT X.K H a xs) : ∃ its : List Value, Vals xs its ∧ IsTup s.heap a its.toArray ∧ xs.length ≤ sizeLine := by
 rcases h with h | ⟨o, its, n, hk, hc, hs, hz, r⟩
 ·obtain ⟨z, its, r, p⟩ := h.ok I.hok
  exact ⟨its, r, p, z⟩
 ·refine ⟨its.toList, r, ⟨o, I.kIn a o hk, hc, n, by simpa using hs⟩, ?_⟩
  have e := r.length
  simp only [Array.length_toList] at e
  lia
theorem Inv.list_inj (I : Inv X pins σ H s) (h : SqL X.K H a xs) (h' : SqL X.K H a ys) : xs = ys := by
 obtain ⟨its, r, ⟨o, n, e, _, _, d⟩, _⟩ := I.list h
 obtain ⟨its', r', ⟨o', n', e', _, _, d'⟩, _⟩ := I.list h'
 rw [e] at e'; cases e'
 rw [d] at d'
 injection d' with d1 _
 have : its = its' := by simpa using congrArg Array.toList d1
 subst this
 exact r.inj r'
theorem Inv.tuple_inj (I : Inv X pins σ H s) (h : SqT X.K H a xs) (h' : SqT X.K H a ys) : xs = ys := by
 obtain ⟨its, r, ⟨o, e, _, n, d⟩, _⟩ := I.tuple h
 obtain ⟨its', r', ⟨o', e', _, n', d'⟩, _⟩ := I.tuple h'
 rw [e] at e'; cases e'
 rw [d] at d'
 injection d' with d1 _
 have : its = its' := by simpa using congrArg Array.toList d1
 subst this
 exact r.inj r'
end
noncomputable abbrev Cx.wish (X : Cx) (E : Value → Shared → Prop) : Cx := { X with xe := E }
noncomputable abbrev Cx.nox (X : Cx) : Cx := X.wish fun _ _ => False
theorem Cx.Ok.wish {X : Cx} (ok : X.Ok) (E : Value → Shared → Prop) : (X.wish E).Ok :=
 ⟨ok.mod, ok.kind, ok.glob, ok.blt, ok.above, ok.inj, ok.has, ok.cab, ok.hd, ok.frames, ok.stk, ok.exf, ok.bs, ok.bsz, ok.noex, ok.exfs, ok.funs, ok.frf⟩
theorem Cx.Ok.unwish {X : Cx} {E : Value → Shared → Prop} (ok : (X.wish E).Ok) : X.Ok :=
 ⟨ok.mod, ok.kind, ok.glob, ok.blt, ok.above, ok.inj, ok.has, ok.cab, ok.hd, ok.frames, ok.stk, ok.exf, ok.bs, ok.bsz, ok.noex, ok.exfs, ok.funs, ok.frf⟩
section
variable {X : Cx} {pins : List (Addr × Obj)} {σ : St} {H : Hp} {s : Shared} {E : Value → Shared → Prop}
theorem Inv.wish (I : Inv X pins σ H s) (E : Value → Shared → Prop) : Inv (X.wish E) pins σ H s := ⟨I.ok.wish E, I.os, I.bare, I.base, I.loc, I.cell, I.free, I.freeC, I.pin, I.hok, I.len⟩
theorem Inv.unwish (I : Inv (X.wish E) pins σ H s) : Inv X pins σ H s := ⟨I.ok.unwish, I.os, I.bare, I.base, I.loc, I.cell, I.free, I.freeC, I.pin, I.hok, I.len⟩
theorem SP.unwish {D : Ends} {f : Flow} {s' : Shared} (h : SP (X.wish E) pins D f s') : SP X pins D f s' := by
 cases f with
 | next => obtain ⟨σ', H', I, q⟩ := h; exact ⟨σ', H', I.unwish, q⟩
 | brk => obtain ⟨σ', H', I, q⟩ := h; exact ⟨σ', H', I.unwish, q⟩
 | cont => obtain ⟨σ', H', I, q⟩ := h; exact ⟨σ', H', I.unwish, q⟩
 | ret u => obtain ⟨v, σ', H', I, r, q⟩ := h; exact ⟨v, σ', H', I.unwish, r, q⟩
theorem PE.nox {e : Expr} {t : TE} (h : PE X.nox e t) : PE X e t := fun pins s σ H Q I hw =>
 wpAny_mono (h pins s σ H Q (I.wish _) hw) (fun _ _ ⟨v, H', I', r, q⟩ => ⟨v, H', I'.unwish, r, q⟩) fun _ _ z => False.elim z
theorem PT.nox {e : Expr} {t : TT} (h : PT X.nox e t) : PT X e t := fun pins s σ H Q I hw =>
 wpAny_mono (h pins s σ H Q (I.wish _) hw) (fun _ _ ⟨H', I', q⟩ => ⟨H', I'.unwish, q⟩) fun _ _ z => False.elim z
theorem PSs.nox {st : List Stmt} {t : TS} (h : PSs X.nox st t) : PSs X st t := fun pins s σ H D I hw =>
 wpAny_mono (h pins s σ H D (I.wish _) hw) (fun _ _ q => q.unwish) fun _ _ z => False.elim z
end
section
variable {X : Cx} {st : Stmt} {rest : List Stmt} {t u : TS} {e : Expr} {te : TE} {pos : Pos}
noncomputable def tNext : TS := fun D σ H => D.nx σ H
noncomputable def tSeq (t u : TS) : TS := fun D σ H => t { D with nx := u D } σ H
theorem pss_nil : PSs X [] tNext := fun _ _ σ H _ I h => wpAny_execs_nil ⟨σ, H, I, h⟩
theorem pss_cons (h1 : PS X st t) (h2 : PSs X rest u) : PSs X (st :: rest) (tSeq t u) := by
 intro pins s σ H D I h
 refine wpAny_execs_cons (thn (h1 pins s σ H { D with nx := u D } I h) fun f s1 q => ?_)
 cases f with
 | next =>
  obtain ⟨σ', H', I', q⟩ := q
  exact h2 pins s1 σ' H' D I' q
 | ret v => exact q
 | brk => exact q
 | cont => exact q
theorem pss_one (h1 : PS X st t) : PSs X [st] t := by
 intro pins s σ H D I h
 refine wpAny_execs_cons (thn (h1 pins s σ H D I h) fun f s1 q => ?_)
 cases f with
 | next => exact wpAny_execs_nil q
 | ret v => exact q
 | brk => exact q
 | cont => exact q
theorem Inv.quiet {pins : List (Addr × Obj)} {σ : St} {H : Hp} {s : Shared} (I : Inv X pins σ H s) : interactive X.env = false := by simp [interactive, I.ok.kind]
noncomputable def tDrop (te : TE) : TS := fun D σ H => te σ H fun _ H1 => D.nx σ H1
theorem ps_expr (he : PE X e te) (hs : swapsWith e none pos.line X.env = pure false := by rfl) : PS X (.Expr e pos) (tDrop te) := by
 intro pins s σ H D I h
 exact wpAny_Expr_any (thn (he pins s σ H _ I h) fun v s1 ⟨x, H1, I1, r1, q1⟩ => ⟨σ, H1, I1, q1⟩) I.quiet hs
noncomputable def tRet (te : TE) : TS := fun D σ H => te σ H D.rt
theorem ps_ret (he : PE X e te) : PS X (.Return (some e) pos) (tRet te) := by
 intro pins s σ H D I h
 exact wpAny_Return_some (thn (he pins s σ H _ I h) fun v s1 ⟨x, H1, I1, r1, q1⟩ => ⟨x, σ, H1, I1, r1, q1⟩)
noncomputable def tIfS (c : TT) (t u : TS) : TS := fun D σ H => c σ H fun b H1 => if b = true then t D σ H1 else u D σ H1
theorem ps_if {c : Expr} {a b : List Stmt} {tc : TT} (hc : PT X c tc) (ha : PSs X a t) (hb : PSs X b u) : PS X (.If c a b pos) (tIfS tc t u) := by
 intro pins s σ H D I h
 refine wpAny_If (thn (hc pins s σ H _ I h) fun d s1 ⟨H1, I1, q1⟩ => ?_)
 cases d with
 | true => exact ha pins s1 σ H1 D I1 q1
 | false => exact hb pins s1 σ H1 D I1 q1
end
noncomputable abbrev TG := V → St → Hp → (St → Hp → Prop) → Prop
noncomputable def PG (X : Cx) (target : Expr) (t : TG) : Prop :=
 ∀ (pins : List (Addr × Obj)) (s : Shared) (σ : St) (H : Hp) (v : V) (u : Value) (Q : St → Hp → Prop), Inv X pins σ H s → RelV v u → t v σ H Q →
  wpAny (model X.prog X.w) X.A (assign target X.env u) (fun _ s' => ∃ σ' H', Inv X pins σ' H' s' ∧ Q σ' H') X.xe s
section
variable {X : Cx} {pos : Pos}
noncomputable def gName (i : Nat) : TG := fun v σ H Q => Q (σ.set i (some v)) H
theorem pg_name {i : Nat} {x : Str} (hN : X.N.Nodup) (hi : X.N[i]? = some x) (hx : Loc X.env.scope x) (hf : X.fn x = true ∨ X.env.scope.names.lookup x = some .local := by first | exact .inl rfl | exact .inr rfl | assumption) : PG X (.Name x pos) (gName i) := by
 intro pins s σ H v u Q I r h
 exact wpAny_assign_Name (store_ok I hN hi hx r (fun s' I' => ⟨_, H, I', h⟩) hf)
noncomputable def tAsg (te : TE) (g : TG) : TS := fun D σ H => te σ H fun x H1 => g x σ H1 D.nx
theorem ps_set {i : Nat} {x : Str} {e : Expr} {te : TE} {pos' : Pos} (hN : X.N.Nodup) (hi : X.N[i]? = some x) (hx : Loc X.env.scope x) (he : PE X e te) (hs : swapsWith e (some (.Name x pos')) pos.line X.env = pure false := by rfl) (hf : X.fn x = true ∨ X.env.scope.names.lookup x = some .local := by first | exact .inl rfl | exact .inr rfl | assumption) :
  PS X (.Assign [.Name x pos'] e pos) (tAsg te (gName i)) := by
 intro pins s σ H D I h
 refine wpAny_Assign_Name (thn (he pins s σ H _ I h) fun v s1 ⟨y, H1, I1, r1, q1⟩ => ?_) hs
 exact store_ok I1 hN hi hx r1 (fun s2 I2 => ⟨_, H1, I2, q1⟩) hf
end
section
variable {X : Cx} {pos : Pos}
end
structure It where
 go : Nat → Hp → Prop
 yld : Nat → Hp → V → Hp → Prop
 stop : Nat → Hp → Prop
noncomputable def FpOk (X : Cx) (pins : List (Addr × Obj)) (H : Hp) (b : Addr) : Prop :=
 H b = none ∧ b ≠ X.env.locals ∧ b ∉ X.fs ∧ (b ∈ X.ex ∨ X.s₀.heap.objs.size ≤ b) ∧ (∀ x c, X.env.cells.lookup x = some c → c ≠ b) ∧ ∀ p ∈ X.pn ++ pins, p.1 ≠ b
theorem Inv.fpOk {X : Cx} {pins : List (Addr × Obj)} {σ : St} {H H' : Hp} {s : Shared} {b : Addr} (I : Inv X pins σ H s) (hb : s.heap.objs.size ≤ b) (hn : H' b = none) : FpOk X pins H' b := by
 refine ⟨hn, Nat.ne_of_gt (Nat.lt_of_lt_of_le I.lt hb), I.nofs hb, .inr (Nat.le_trans I.sz hb), fun x c e z => ?_, fun p hp z => ?_⟩
 ·obtain ⟨v, q⟩ := I.cell x c e
  exact absurd (Nat.lt_of_lt_of_le q.lt (by rw [z]; exact hb)) (Nat.lt_irrefl _)
 ·exact absurd (Nat.lt_of_lt_of_le (Heap.lt_size (I.pin p hp).1) (by rw [z]; exact hb)) (Nat.lt_irrefl _)
structure Turn (P : Program) (w : World) (K : PySem.W.Frag) (tg : Expr) (J : It) (fp : List Addr) (it : Addr) (tn : Nat → Heap → Prop) : Prop where
 mem : it ∈ fp
 obj : ∀ i h, tn i h → ∀ b ∈ fp, ∃ o, h.get? b = some o ∧ ∀ v, o.data ≠ .cell v
 keep : ∀ i h h', tn i h → (∀ b ∈ fp, ∀ o, h.get? b = some o → h'.get? b = some o) → tn i h'
 item : ∀ (X : Cx), X.prog = P → X.w = w → X.K = K → X.calm = true → ∀ (i : Nat) (pins : List (Addr × Obj)) (s : Shared) (σ : St) (H : Hp) (E : Value → Shared → Prop), Inv X pins σ H s → (∀ b ∈ fp, FpOk X pins H b) → tn i s.heap → J.go i H →
  wpAny (model P w) X.A (pyNext (.ref it)) (fun r s1 => ∃ u, r = some u ∧
   wpAny (model P w) X.A (letOwnedTupleGo tg (.ref it) u) (fun _ s2 => ∃ x H', Inv X pins σ H' s2 ∧ RelV x u ∧ J.yld i H x H' ∧ tn (i + 1) s2.heap ∧ ∀ b ∈ fp, H' b = none) E s1) E s
 done : ∀ (X : Cx), X.prog = P → X.w = w → X.K = K → X.calm = true → ∀ (i : Nat) (pins : List (Addr × Obj)) (s : Shared) (σ : St) (H : Hp) (E : Value → Shared → Prop), Inv X pins σ H s → (∀ b ∈ fp, FpOk X pins H b) → tn i s.heap → J.stop i H →
  wpAny (model P w) X.A (pyNext (.ref it)) (fun r s1 => r = none ∧ Inv X pins σ H s1) E s
 self : ∀ (A : Around) (i : Nat) (s : Shared) (Q : Value → Shared → Prop) (E : Value → Shared → Prop), tn i s.heap → Q (.ref it) s → wpAny (model P w) A (pyIter (.ref it)) Q E s
noncomputable abbrev TI := St → Hp → (It → Hp → Prop) → Prop
noncomputable def PIE (X : Cx) (pins : List (Addr × Obj)) (σ : St) (tg : Expr) (R : It → Hp → Prop) (itv : Value) (s2 : Shared) : Prop :=
 ∃ (it : Addr) (fp : List Addr) (tn : Nat → Heap → Prop) (J : It) (H' : Hp), itv = .ref it ∧ Inv X pins σ H' s2 ∧ Turn X.prog X.w X.K tg J fp it tn ∧ tn 0 s2.heap ∧ (∀ b ∈ fp, FpOk X pins H' b) ∧ R J H'
noncomputable def PI (X : Cx) (tg iter : Expr) (wi : TI) : Prop :=
 ∀ (pins : List (Addr × Obj)) (s : Shared) (σ : St) (H : Hp) (R : It → Hp → Prop), Inv X pins σ H s → wi σ H R →
  wpAny (model X.prog X.w) X.A (eval iter X.env) (fun v s1 => wpAny (model X.prog X.w) X.A (pyIter v) (PIE X pins σ tg R) X.xe s1) X.xe s
theorem go_of {M : Model} {A : Around} {E : Value → Shared → Prop} {s : Shared} {tg : Expr} {it : Addr} {u : Value} {o : Obj} {n : String} {vs : Array Value} {Q : Unit → Shared → Prop} (ho : s.heap.get? it = some o) (hc : o.cls = .type n) (hd : o.data = .fields vs)
    (hn : ["enumerate", "zip", "dict_itemiterator", "dict_reverseitemiterator", "odict_iterator", "itertools.zip_longest", "itertools.pairwise"].contains n = false) (hQ : Q () s) : wpAny M A (letOwnedTupleGo tg (.ref it) u) Q E s := by
  unfold letOwnedTupleGo
  cases tg <;> first
    | exact wpAny_pure hQ
    | (cases u <;> first
        | exact wpAny_pure hQ
        | (refine wpAny_bind (wpAny_load ho ?_)
           rw [hc, hd]
           show wpAny M A (if (["enumerate", "zip", "dict_itemiterator", "dict_reverseitemiterator", "odict_iterator", "itertools.zip_longest", "itertools.pairwise"].contains n && vs[0]? == some (rawInt _)) = true then _ else _) Q E s
           rw [if_neg (by intro h; rw [hn, Bool.false_and] at h; cases h)]
           exact wpAny_pure hQ))
noncomputable def Itl (K : PySem.W.Frag) (a : Addr) : It :=
 ⟨fun i H => ∃ xs x, SqL K H a xs ∧ xs[i]? = some x, fun i H x H' => H' = H ∧ ∀ xs, SqL K H a xs → xs[i]? = some x, fun i H => ∃ xs, SqL K H a xs ∧ xs.length ≤ i⟩
noncomputable def Itt (K : PySem.W.Frag) (a : Addr) : It :=
 ⟨fun i H => ∃ xs x, SqT K H a xs ∧ xs[i]? = some x, fun i H x H' => H' = H ∧ ∀ xs, SqT K H a xs → xs[i]? = some x, fun i H => ∃ xs, SqT K H a xs ∧ xs.length ≤ i⟩
noncomputable def Itr (lo : Int) (n : Nat) : It := ⟨fun i _ => i < n, fun i H x H' => H' = H ∧ x = .int (lo + i), fun i _ => n ≤ i⟩
theorem turn_list {P : Program} {w : World} {K : PySem.W.Frag} {tg : Expr} (a it : Addr) : Turn P w K tg (Itl K a) [it] it (fun i h => h.IsListIter it a i) where
 mem := by simp
 obj := fun i h st b hb => by
  have e : b = it := by simpa using hb
  subst e
  obtain ⟨o, e, c, d⟩ := st
  exact ⟨o, e, fun v z => by rw [d] at z; cases z⟩
 keep := fun i h h' st k => st.at fun o e => k it (by simp) o e
 item := by
  intro X hP hw hK hc i pins s σ H E I hf st hg
  subst hP hw hK
  obtain ⟨xs, x, hq, hx⟩ := hg
  obtain ⟨its, rv, p, hz⟩ := I.list hq
  obtain ⟨u, hu, ru⟩ := rv.get hx
  obtain ⟨f0, f1, f2, f3, f4, f5⟩ := hf it (by simp)
  refine wpAny_pyNext_list_item st p.isList (x := u) (by simpa using hu) fun h' st' sb => ?_
  have I1 : Inv X pins σ H { s with heap := h' } := I.turned (t' := s.toks) (fun b o hb e => (sb.2 b hb).trans e) f0 f1 f3 f4 f5
  obtain ⟨o, e, c, d⟩ := id st'
  exact ⟨u, rfl, go_of (s := { s with heap := h' }) e c d (by decide) ⟨x, H, I1, ru, ⟨rfl, fun ys hy => by rw [I.list_inj hy hq]; exact hx⟩, st', fun b hb => (hf b hb).1⟩⟩
 done := by
  intro X hP hw hK hc i pins s σ H E I hf st hg
  subst hP hw hK
  obtain ⟨xs, hq, hx⟩ := hg
  obtain ⟨its, rv, p, hz⟩ := I.list hq
  obtain ⟨f0, f1, f2, f3, f4, f5⟩ := hf it (by simp)
  have hl := rv.length
  exact wpAny_pyNext_list_end (I.ok.hd hc) st p.isList (by simp; lia) fun h' eb => ⟨rfl, I.turned (t' := s.toks) (fun b o hb e => eb b o hb e) f0 f1 f3 f4 f5⟩
 self := fun _ _ _ _ _ st h => wpAny_pyIter_listiter st h
theorem turn_tuple {P : Program} {w : World} {K : PySem.W.Frag} {tg : Expr} (a it : Addr) : Turn P w K tg (Itt K a) [it] it (fun i h => h.IsTupleIter it a i) where
 mem := by simp
 obj := fun i h st b hb => by
  have e : b = it := by simpa using hb
  subst e
  obtain ⟨o, e, c, d⟩ := st
  exact ⟨o, e, fun v z => by rw [d] at z; cases z⟩
 keep := fun i h h' st k => st.at fun o e => k it (by simp) o e
 item := by
  intro X hP hw hK hc i pins s σ H E I hf st hg
  subst hP hw hK
  obtain ⟨xs, x, hq, hx⟩ := hg
  obtain ⟨its, rv, p, hz⟩ := I.tuple hq
  obtain ⟨u, hu, ru⟩ := rv.get hx
  obtain ⟨f0, f1, f2, f3, f4, f5⟩ := hf it (by simp)
  refine wpAny_pyNext_tuple_item st (show s.heap.IsTuple a its.toArray from p) (x := u) (by simpa using hu) fun h' st' sb => ?_
  have I1 : Inv X pins σ H { s with heap := h' } := I.turned (t' := s.toks) (fun b o hb e => (sb.2 b hb).trans e) f0 f1 f3 f4 f5
  obtain ⟨o, e, c, d⟩ := id st'
  exact ⟨u, rfl, go_of (s := { s with heap := h' }) e c d (by decide) ⟨x, H, I1, ru, ⟨rfl, fun ys hy => by rw [I.tuple_inj hy hq]; exact hx⟩, st', fun b hb => (hf b hb).1⟩⟩
 done := by
  intro X hP hw hK hc i pins s σ H E I hf st hg
  subst hP hw hK
  obtain ⟨xs, hq, hx⟩ := hg
  obtain ⟨its, rv, p, hz⟩ := I.tuple hq
  obtain ⟨f0, f1, f2, f3, f4, f5⟩ := hf it (by simp)
  have hl := rv.length
  exact wpAny_pyNext_tuple_end (I.ok.hd hc) st (show s.heap.IsTuple a its.toArray from p) (by simp; lia) fun h' eb => ⟨rfl, I.turned (t' := s.toks) (fun b o hb e => eb b o hb e) f0 f1 f3 f4 f5⟩
 self := fun _ _ _ _ _ st h => wpAny_pyIter_tupleiter st h
theorem turn_range {P : Program} {w : World} {K : PySem.W.Frag} {tg : Expr} (it : Addr) (lo : Int) (n : Nat) : Turn P w K tg (Itr lo n) [it] it (fun i h => IsRangeIter h it (lo + (i : Nat) * 1) ((n : Int) - (i : Nat)) 1) where
 mem := by simp
 obj := fun i h st b hb => by
  have e : b = it := by simpa using hb
  subst e
  exact ⟨_, st, fun v z => by
   have z' : Data.fields _ = Data.cell v := z
   cases z'⟩
 keep := fun i h h' st k => k it (by simp) _ st
 item := by
  intro X hP hw hK hc i pins s σ H E I hf st hg
  subst hP hw hK
  obtain ⟨f0, f1, f2, f3, f4, f5⟩ := hf it (by simp)
  have W := Walks.range (prog := X.prog) (w := X.w) (I.ok.hd hc) it lo 1 n
  refine W.item i s _ _ hg st fun v h' tk hv st' kk => ?_
  obtain ⟨t, rfl⟩ := hv
  have I1 : Inv X pins σ H { s with heap := h', toks := tk } := I.turned (fun b o hb e => kk b o (by simpa using hb) e) f0 f1 f3 f4 f5
  refine ⟨_, rfl, go_of (s := { s with heap := h', toks := tk }) (n := "range_iterator") st' rfl rfl (by decide) ⟨.int (lo + i), H, I1, ⟨t, ?_⟩, ⟨rfl, rfl⟩, st', fun b hb => (hf b hb).1⟩⟩
  rw [Int.mul_one]
 done := by
  intro X hP hw hK hc i pins s σ H E I hf st hg
  subst hP hw hK
  obtain ⟨f0, f1, f2, f3, f4, f5⟩ := hf it (by simp)
  exact wpAny_pyNext_range_end (I.ok.hd hc) st (by have : n ≤ i := hg; lia) fun h' eb => ⟨rfl, I.turned (t' := s.toks) (fun b o hb e => eb b o hb e) f0 f1 f3 f4 f5⟩
 self := fun _ _ _ _ _ st h => wpAny_pyIter_rangeiter st h
end L2
namespace L2
open PySem PySem.Spec PyProof.Rows
section
variable {X : Cx} {tg : Expr}
noncomputable def iList (K : PySem.W.Frag) (tl : TE) : TI := fun σ H R => tl σ H fun x H1 => ∃ a, x = .ref a ∧ (∃ xs, SqL K H1 a xs) ∧ R (Itl K a) H1
noncomputable def iTup (K : PySem.W.Frag) (tl : TE) : TI := fun σ H R => tl σ H fun x H1 => ∃ a, x = .ref a ∧ (∃ xs, SqT K H1 a xs) ∧ R (Itt K a) H1
theorem pi_list {l : Expr} {tl : TE} (hl : PE X l tl) : PI X tg l (iList X.K tl) := by
 intro pins s σ H R I h
 refine thn (hl pins s σ H _ I h) fun v s1 ⟨x, H1, I1, r1, q1⟩ => ?_
 obtain ⟨a, e, ⟨xs, hq⟩, q⟩ := q1
 subst e
 cases r1
 obtain ⟨its, rv, p, hz⟩ := I1.list hq
 refine wpAny_pyIter_list p.isList ?_
 refine ⟨s1.heap.objs.size, [s1.heap.objs.size], _, _, H1, rfl, I1.kept (t' := s1.toks) fun b o e => Heap.get?_push_of_some _ e, turn_list a _, ⟨_, Heap.get?_push_size _ rfl, rfl, rfl⟩, fun b hb => ?_, q⟩
 have e : b = s1.heap.objs.size := by simpa using hb
 subst e
 exact I1.fpOk (Nat.le_refl _) (I1.hok.fresh (Nat.le_refl _))
theorem pi_tup {l : Expr} {tl : TE} (hl : PE X l tl) : PI X tg l (iTup X.K tl) := by
 intro pins s σ H R I h
 refine thn (hl pins s σ H _ I h) fun v s1 ⟨x, H1, I1, r1, q1⟩ => ?_
 obtain ⟨a, e, ⟨xs, hq⟩, q⟩ := q1
 subst e
 cases r1
 obtain ⟨its, rv, p, hz⟩ := I1.tuple hq
 refine wpAny_pyIter_tuple (show s1.heap.IsTuple a its.toArray from p) ?_
 refine ⟨s1.heap.objs.size, [s1.heap.objs.size], _, _, H1, rfl, I1.kept (t' := s1.toks) fun b o e => Heap.get?_push_of_some _ e, turn_tuple a _, ⟨_, Heap.get?_push_size _ rfl, rfl, rfl⟩, fun b hb => ?_, q⟩
 have e : b = s1.heap.objs.size := by simpa using hb
 subst e
 exact I1.fpOk (Nat.le_refl _) (I1.hok.fresh (Nat.le_refl _))
theorem range_it {pins : List (Addr × Obj)} {σ : St} {H : Hp} {s : Shared} {R : It → Hp → Prop} {E : Value → Shared → Prop} {lo hi : Int} {t u v : Tok} {tk : Nat} (I : Inv X pins σ H s) (h1 : -(2 ^ 62) ≤ lo) (h2 : lo < 2 ^ 62) (h3 : -(2 ^ 62) ≤ hi) (h4 : hi < 2 ^ 62)
  (q : R (Itr lo (hi - lo).toNat) H) : wpAny (model X.prog X.w) X.A (pyIter (.ref s.heap.objs.size)) (PIE X pins σ tg R) E { s with heap := s.heap.push { cls := .type "range", data := .fields #[.int lo t, .int hi u, .int 1 v] }, toks := tk } := by
 refine wpAny_pyIter_range (IsRange.new ..) (small_one h1 h2 h3 h4) ?_
 have I1 : Inv X pins σ H { s with heap := s.heap.push { cls := .type "range", data := .fields #[.int lo t, .int hi u, .int 1 v] }, toks := tk } := I.kept fun b o e => Heap.get?_push_of_some _ e
 refine ⟨(s.heap.push { cls := .type "range", data := .fields #[.int lo t, .int hi u, .int 1 v] }).objs.size, [(s.heap.push { cls := .type "range", data := .fields #[.int lo t, .int hi u, .int 1 v] }).objs.size], _, _, H, rfl,
  I1.kept (t' := tk) fun b o e => Heap.get?_push_of_some _ e, turn_range _ lo (hi - lo).toNat, ?_, fun b hb => ?_, q⟩
 ·have e1 : lo + ((0 : Nat) : Int) * 1 = lo := by simp
  have e2 : (((hi - lo).toNat : Nat) : Int) - ((0 : Nat) : Int) = Builtin.Range.rangeSize lo hi 1 := by rw [rangeSize_one]; split <;> lia
  show IsRangeIter _ _ (lo + ((0 : Nat) : Int) * 1) ((((hi - lo).toNat : Nat) : Int) - ((0 : Nat) : Int)) 1
  rw [e1, e2]
  exact Heap.get?_push_size _ rfl
 ·have e : b = (s.heap.push { cls := .type "range", data := .fields #[.int lo t, .int hi u, .int 1 v] }).objs.size := by simpa using hb
  subst e
  exact I1.fpOk (Nat.le_refl _) (I1.hok.fresh (Nat.le_refl _))
noncomputable def iRng1 (ta : TA) : TI := fun σ H R => ta σ H fun vs H1 => ∃ j : Int, vs = [.int j] ∧ -(2 ^ 62) ≤ j ∧ j < 2 ^ 62 ∧ R (Itr 0 j.toNat) H1
theorem pi_range1 {a : Expr} {ta : TA} {p pos : Pos} (hg : Gl X "range") (hm : X.mg "range" = none) (ha : PA X [a] ta) (hs : starEach [a] X.env = [(false, eval a X.env)] := by rfl) : PI X tg (.Call (.Name "range" p) [a] [] pos) (iRng1 ta) := by
 intro pins s σ H R I h
 refine Call_ (ld_blt I hg hm boot_range (PyProof.Rows.callWith_type1 (thn (ha pos pins s σ H _ I h) fun us s1 ⟨vs, H1, I1, r1, q1⟩ => ?_) hs rfl))
 obtain ⟨j, e, q1, q2, q⟩ := q1
 subst e
 cases r1 with
 | cons r rr =>
  cases rr
  obtain ⟨t, rfl⟩ := r
  exact call_range_1 (range_it I1 (by lia) (by lia) q1 q2 (by simpa using q))
noncomputable def tFor (wi : TI) (g : TG) (tb : TS) : TS := fun D σ H => wi σ H fun J H1 => ∃ W : Nat → Nat → St → Hp → Prop, (∃ m, W 0 m σ H1) ∧ ∀ i m σ H, W i m σ H →
 (J.stop i H ∧ D.nx σ H) ∨ (J.go i H ∧ ∃ N : St → Hp → Prop, (∀ σ' H', N σ' H' → ∃ m', m' < m ∧ W (i + 1) m' σ' H') ∧ ∀ x H', J.yld i H x H' → g x σ H' fun σ2 H2 => tb { D with nx := N, ct := N, bk := D.nx } σ2 H2)
noncomputable def pinsAt (fp : List Addr) (h : Heap) : List (Addr × Obj) := fp.filterMap fun b => (h.get? b).map fun o => (b, o)
theorem mem_pinsAt {fp : List Addr} {h : Heap} {b : Addr} {o : Obj} (hb : b ∈ fp) (e : h.get? b = some o) : (b, o) ∈ pinsAt fp h := List.mem_filterMap.mpr ⟨b, hb, by rw [e]; rfl⟩
theorem of_pinsAt {fp : List Addr} {h : Heap} {p : Addr × Obj} (hp : p ∈ pinsAt fp h) : p.1 ∈ fp ∧ h.get? p.1 = some p.2 := by
 obtain ⟨b, hb, e⟩ := List.mem_filterMap.mp hp
 cases q : h.get? b with
 | none => rw [q] at e; cases e
 | some o =>
  rw [q] at e
  have e' : (b, o) = p := Option.some.inj e
  subst e'
  exact ⟨hb, q⟩
theorem Inv.pinned {pins : List (Addr × Obj)} {σ : St} {H : Hp} {s : Shared} {fp : List Addr} (I : Inv X pins σ H s) (hf : ∀ b ∈ fp, FpOk X pins H b) (ho : ∀ b ∈ fp, ∃ o, s.heap.get? b = some o ∧ ∀ v, o.data ≠ .cell v) : Inv X (pins ++ pinsAt fp s.heap) σ H s :=
 I.pins_of fun p hp => (List.mem_append.mp hp).elim (fun z => I.pin p (List.mem_append_right _ z)) fun z => by
  obtain ⟨hb, e⟩ := of_pinsAt z
  obtain ⟨f0, f1, f2, _⟩ := hf p.1 hb
  obtain ⟨o, e', d⟩ := ho p.1 hb
  rw [e] at e'; cases e'
  exact ⟨e, f0, f1, f2, d⟩
theorem Inv.unpinned {pins pl : List (Addr × Obj)} {σ : St} {H : Hp} {s : Shared} (I : Inv X (pins ++ pl) σ H s) : Inv X pins σ H s := I.pins_of fun p hp => I.pin p (List.mem_append_right _ (List.mem_append_left _ hp))
theorem ps_for {iter : Expr} {body : List Stmt} {wi : TI} {g : TG} {tb : TS} {pos : Pos} (hp : PassesOwn (model X.prog X.w) X.A X.env X.xe) (hc : X.calm = true) (hi : PI X tg iter wi) (hg : PG X tg g) (hb : PSs X body tb)
  (hs : ∀ x, foldedSetIterable iter X.env x = pure x := by intro _; rfl) : PS X (.For tg iter body [] pos) (tFor wi g tb) := by
 intro pins s σ H D I h
 refine wpAny_For (thn (hi pins s σ H _ I h) fun v s1 h1 => thn h1 fun itv s2 h2 => ?_) hs
 obtain ⟨it, fp, tn, J, H2, e, I2, T, st2, f2, W, ⟨m0, w0⟩, turn⟩ := h2
 subst e
 have stat : ∀ {H' : Hp}, (∀ b ∈ fp, H' b = none) → ∀ b ∈ fp, FpOk X pins H' b := fun hn b hb => ⟨hn b hb, (f2 b hb).2⟩
 refine codeAny_forLoop_any (fun n s' => ∃ i σ' H', Inv X pins σ' H' s' ∧ tn i s'.heap ∧ (∀ b ∈ fp, H' b = none) ∧ W i n σ' H') ?_ m0 ⟨0, σ, H2, I2, st2, fun b hb => (f2 b hb).1, w0⟩
 rintro n s3 ⟨i, σ3, H3, I3, st3, fr3, w3⟩
 rcases turn i n σ3 H3 w3 with ⟨stop, qn⟩ | ⟨go, N, hN, step⟩
 ·refine wpAny_passesOwn hp (thn (T.done X rfl rfl rfl hc i pins s3 σ3 H3 X.xe I3 (stat fr3) st3 stop) fun r s4 ⟨hr, I4⟩ => ?_)
  subst hr
  exact wpAny_execs_nil ⟨σ3, H3, I4, qn⟩
 ·refine wpAny_passesOwn hp (thn (T.item X rfl rfl rfl hc i pins s3 σ3 H3 X.xe I3 (stat fr3) st3 go) fun r s4 ⟨u, hr, h4⟩ => ?_)
  subst hr
  refine wpAny_passesOwn hp (thn h4 fun _ s5 ⟨x, H5, I5, r5, y5, st5, fr5⟩ => ?_)
  have I5' := I5.pinned (stat fr5) (T.obj _ _ st5)
  refine wpAny_passesOwn hp (thn (hg _ s5 σ3 H5 x u _ I5' r5 (step x H5 y5)) fun _ s6 ⟨σ6, H6, I6, q6⟩ => ?_)
  refine wpAny_passesOwn hp (thn (hb _ s6 σ6 H6 _ I6 q6) fun f s7 q7 => ?_)
  have again : ∀ {σ7 : St} {H7 : Hp}, Inv X (pins ++ pinsAt fp s5.heap) σ7 H7 s7 → N σ7 H7 → ∃ m, m < n ∧ ∃ i σ' H', Inv X pins σ' H' s7 ∧ tn i s7.heap ∧ (∀ b ∈ fp, H' b = none) ∧ W i m σ' H' := fun {σ7 H7} I7 n7 => by
   obtain ⟨m', hm, w7⟩ := hN σ7 H7 n7
   refine ⟨m', hm, i + 1, σ7, H7, I7.unpinned, T.keep _ _ _ st5 fun b hb o e => (I7.pin (b, o) (List.mem_append_right _ (List.mem_append_right _ (mem_pinsAt hb e)))).1, fun b hb => ?_, w7⟩
   obtain ⟨o, e, d⟩ := T.obj _ _ st5 b hb
   exact (I7.pin (b, o) (List.mem_append_right _ (List.mem_append_right _ (mem_pinsAt hb e)))).2.1
  cases f with
  | next => obtain ⟨σ7, H7, I7, n7⟩ := q7; exact again I7 n7
  | cont => obtain ⟨σ7, H7, I7, n7⟩ := q7; exact again I7 n7
  | brk => obtain ⟨σ7, H7, I7, q7⟩ := q7; exact ⟨σ7, H7, I7.unpinned, q7⟩
  | ret v => obtain ⟨x7, σ7, H7, I7, r7, q7⟩ := q7; exact ⟨x7, σ7, H7, I7.unpinned, r7, q7⟩
end
end L2
namespace L2
open PySem PySem.Spec PyProof.Rows
noncomputable abbrev R2 := V → V → Hp → VK → Prop
noncomputable def OpR (X : Cx) (f : Value → Value → Sem Value) (r : R2) : Prop :=
 ∀ (pins : List (Addr × Obj)) (s : Shared) (σ : St) (H : Hp) (x y : V) (v u : Value) (Q : VK), Inv X pins σ H s → RelV x v → RelV y u → r x y H Q →
  wpAny (model X.prog X.w) X.A (f v u) (EP X pins σ Q) X.xe s
noncomputable def UnR (X : Cx) (f : Value → Sem Value) (r : V → Hp → VK → Prop) : Prop :=
 ∀ (pins : List (Addr × Obj)) (s : Shared) (σ : St) (H : Hp) (x : V) (v : Value) (Q : VK), Inv X pins σ H s → RelV x v → r x H Q →
  wpAny (model X.prog X.w) X.A (f v) (EP X pins σ Q) X.xe s
noncomputable def CallR (X : Cx) (f : Value) (r : List V → Hp → VK → Prop) : Prop :=
 ∀ (pins : List (Addr × Obj)) (s : Shared) (σ : St) (H : Hp) (xs : List V) (us : List Value) (Q : VK), Inv X pins σ H s → Vals xs us → r xs H Q →
  wpAny (model X.prog X.w) X.A (call f us) (EP X pins σ Q) X.xe s
noncomputable def tOp (r : R2) (ta tb : TE) : TE := fun σ H Q => ta σ H fun x H1 => tb σ H1 fun y H2 => r x y H2 Q
noncomputable def tUn (r : V → Hp → VK → Prop) (ta : TE) : TE := fun σ H Q => ta σ H fun x H1 => r x H1 Q
noncomputable def rI (C : Int → Int → Prop) (g : Int → Int → V) : R2 := fun x y H Q => ∃ i j, x = .int i ∧ y = .int j ∧ C i j ∧ Q (g i j) H
noncomputable def rI0 (g : Int → Int → V) : R2 := fun x y H Q => ∃ i j, x = .int i ∧ y = .int j ∧ Q (g i j) H
noncomputable def rU (g : Int → V) : V → Hp → VK → Prop := fun x H Q => ∃ i, x = .int i ∧ Q (g i) H
section
variable {X : Cx} {a b c : Expr} {ta tb tc : TE} {pos : Pos}
theorem binT (ha : PE X a ta) (hb : PE X b tb) {pins : List (Addr × Obj)} {s : Shared} {σ : St} {H : Hp} {R : V → V → Hp → Prop} (I : Inv X pins σ H s)
  (h : ta σ H fun x H1 => tb σ H1 fun y H2 => R x y H2) {Q : Value → Shared → Prop} {f : Value → Value → Sem Value}
  (hf : ∀ v u s2 x y H2, Inv X pins σ H2 s2 → RelV x v → RelV y u → R x y H2 → wpAny (model X.prog X.w) X.A (f v u) Q X.xe s2) :
  wpAny (model X.prog X.w) X.A (eval a X.env) (fun v s₁ => wpAny (model X.prog X.w) X.A (eval b X.env) (fun u s₂ => wpAny (model X.prog X.w) X.A (f v u) Q X.xe s₂) X.xe s₁) X.xe s := by
 refine thn (ha pins s σ H _ I h) fun v s1 ⟨x, H1, I1, r1, q1⟩ => ?_
 refine thn (hb pins s1 σ H1 _ I1 q1) fun u s2 ⟨y, H2, I2, r2, q2⟩ => ?_
 exact hf v u s2 x y H2 I2 r1 r2 q2
theorem pe_op {op : Operator} {r : R2} (ho : OpR X (binaryOp op) r) (ha : PE X a ta) (hb : PE X b tb) : PE X (.BinOp a op b pos) (tOp r ta tb) := by
 intro pins s σ H Q I h
 exact wpAny_BinOp (binT ha hb I h fun v u s2 x y H2 I2 rx ry q => ho pins s2 σ H2 x y v u Q I2 rx ry q)
theorem pe_un {op : UnaryOp} {r : V → Hp → VK → Prop} (ho : UnR X (unaryOp op) r) (ha : PE X a ta) : PE X (.UnaryOp op a pos) (tUn r ta) := by
 intro pins s σ H Q I h
 exact UnaryOp_ (thn (ha pins s σ H _ I h) fun v s1 ⟨x, H1, I1, r1, q1⟩ => ho pins s1 σ H1 x v Q I1 r1 q1)
theorem opI {f : Value → Value → Sem Value} {C : Int → Int → Prop} {g : Int → Int → Int}
  (rule : ∀ (i j : Int) (t u : Tok) (s : Shared) (Q : Value → Shared → Prop) (E : Value → Shared → Prop), C i j → Q (.int (g i j) s.toks) { s with toks := s.toks + 1 } → wpAny (model X.prog X.w) X.A (f (.int i t) (.int j u)) Q E s) :
  OpR X f (rI C fun i j => .int (g i j)) := by
 intro pins s σ H x y v u Q I rx ry h
 obtain ⟨i, j, rfl, rfl, hc, q⟩ := h
 obtain ⟨t, rfl⟩ := rx
 obtain ⟨t', rfl⟩ := ry
 exact rule i j t t' s _ _ hc ⟨.int (g i j), H, I.tok _, ⟨_, rfl⟩, q⟩
theorem opI0 {f : Value → Value → Sem Value} {g : Int → Int → Int}
  (rule : ∀ (i j : Int) (t u : Tok) (s : Shared) (Q : Value → Shared → Prop) (E : Value → Shared → Prop), Q (.int (g i j) s.toks) { s with toks := s.toks + 1 } → wpAny (model X.prog X.w) X.A (f (.int i t) (.int j u)) Q E s) :
  OpR X f (rI0 fun i j => .int (g i j)) := by
 intro pins s σ H x y v u Q I rx ry h
 obtain ⟨i, j, rfl, rfl, q⟩ := h
 obtain ⟨t, rfl⟩ := rx
 obtain ⟨t', rfl⟩ := ry
 exact rule i j t t' s _ _ ⟨.int (g i j), H, I.tok _, ⟨_, rfl⟩, q⟩
theorem opB0 {f : Value → Value → Sem Value} {g : Int → Int → Bool}
  (rule : ∀ (i j : Int) (t u : Tok) (s : Shared) (Q : Value → Shared → Prop) (E : Value → Shared → Prop), Q (.bool (g i j)) s → wpAny (model X.prog X.w) X.A (f (.int i t) (.int j u)) Q E s) :
  OpR X f (rI0 fun i j => .bl (g i j)) := by
 intro pins s σ H x y v u Q I rx ry h
 obtain ⟨i, j, rfl, rfl, q⟩ := h
 obtain ⟨t, rfl⟩ := rx
 obtain ⟨t', rfl⟩ := ry
 exact rule i j t t' s _ _ ⟨.bl (g i j), H, I, rfl, q⟩
noncomputable def CDiv (i j : Int) : Prop := 0 < j ∧ j < 1073741824
noncomputable def CPow (i j : Int) : Prop := 0 ≤ j ∧ j ≤ 1000000 ∧ i.natAbs < 2 ^ 64
noncomputable def CMul (i j : Int) : Prop := (-(2 ^ 64) < i ∧ i < 2 ^ 64) ∨ (-(2 ^ 64) < j ∧ j < 2 ^ 64)
theorem CMul.ok {i j : Int} (h : CMul i j) : IntMulOk i j := by
 rcases h with ⟨h1, h2⟩ | ⟨h1, h2⟩
 ·exact .of_left (intBits_le_64 h1 h2)
 ·exact .of_right (intBits_le_64 h1 h2)
theorem op_add : OpR X (binaryOp .Add) (rI0 fun i j => .int (i + j)) := opI0 fun _ _ _ _ _ _ _ q => add_int q
theorem op_sub : OpR X (binaryOp .Sub) (rI0 fun i j => .int (i - j)) := opI0 fun _ _ _ _ _ _ _ q => sub_int q
theorem op_mul : OpR X (binaryOp .Mult) (rI CMul fun i j => .int (i * j)) := opI fun _ _ _ _ _ _ _ hc q => mul_int q hc.ok
theorem op_fdiv : OpR X (binaryOp .FloorDiv) (rI CDiv fun i j => .int (i / j)) := opI fun i j _ _ _ _ _ hc q => by
 have h1 : (0 : Int) < j := hc.1
 have h2 : j < 1073741824 := hc.2
 exact floordiv_int (by lia) (by rw [Int.fdiv_eq_ediv_of_nonneg i (by lia)]; exact q) (.inl (PyProof.noPylong_small (by lia)))
theorem op_mod : OpR X (binaryOp .Mod) (rI (fun _ j => 0 < j) fun i j => .int (i % j)) := opI fun i j _ _ _ _ _ hc q => by
 have h1 : (0 : Int) < j := hc
 exact mod_int' (by lia) (by rw [Int.fmod_eq_emod_of_nonneg i (by lia)]; exact q)
theorem op_pow : OpR X (binaryOp .Pow) (rI CPow fun i j => .int (i ^ j.toNat)) := opI fun _ _ _ _ _ _ _ hc q => pow_int_small hc.1 hc.2.1 hc.2.2 q
theorem unI {f : Value → Sem Value} {g : Int → Int}
  (rule : ∀ (i : Int) (t : Tok) (s : Shared) (Q : Value → Shared → Prop) (E : Value → Shared → Prop), Q (.int (g i) s.toks) { s with toks := s.toks + 1 } → wpAny (model X.prog X.w) X.A (f (.int i t)) Q E s) :
  UnR X f (rU fun i => .int (g i)) := by
 intro pins s σ H x v Q I rx h
 obtain ⟨i, rfl, q⟩ := h
 obtain ⟨t, rfl⟩ := rx
 exact rule i t s _ _ ⟨.int (g i), H, I.tok _, ⟨_, rfl⟩, q⟩
theorem un_neg : UnR X (unaryOp .USub) (rU fun i => .int (-i)) := unI fun _ _ _ _ _ q => neg_int q
end
noncomputable def scal : V → V → Bool
 | .non, .non => true | .non, .int _ => true | .int _, .non => true | .non, .bl _ => true | .bl _, .non => true | .non, .str _ => true | .str _, .non => true
 | .int _, .int _ => true | .bl _, .bl _ => true | .str _, .str _ => true | .byt _, .byt _ => true
 | .int _, .str _ => true | .str _, .int _ => true | .bl _, .str _ => true | .str _, .bl _ => true
 | _, _ => false
noncomputable def rEq : R2 := fun x y H Q => scal x y = true ∧ Q (.bl (decide (x = y))) H
noncomputable def rNe : R2 := fun x y H Q => scal x y = true ∧ Q (.bl (!decide (x = y))) H
theorem dec_int {i j : Int} : decide (V.int i = V.int j) = (i == j) := by
 rw [Bool.eq_iff_iff]
 simp
theorem dec_bl {i j : Bool} : decide (V.bl i = V.bl j) = (i == j) := by
 rw [Bool.eq_iff_iff]
 simp
theorem dec_str {i j : Str} : decide (V.str i = V.str j) = (i == j) := by
 rw [Bool.eq_iff_iff]
 simp
theorem dec_byt {i j : Array UInt8} : decide (V.byt i = V.byt j) = (i.toList == j.toList) := by
 rw [Bool.eq_iff_iff]
 cases i
 cases j
 simp
section
variable {X : Cx} {a b c : Expr} {ta tb tc : TE} {pos : Pos}
theorem fin_bl {pins : List (Addr × Obj)} {σ : St} {H : Hp} {s : Shared} {Q : VK} {k k' : Bool} (I : Inv X pins σ H s) (q : Q (.bl k) H) (e : k = k') : EP X pins σ Q (.bool k') s := by
 subst e
 exact ⟨.bl k, H, I, rfl, q⟩
theorem op_eq : OpR X (compareOp .Eq) rEq := by
 intro pins s σ H x y v u Q I rx ry h
 obtain ⟨hs, q⟩ := h
 cases x with
 | non =>
  cases rx
  cases y with
  | non => cases ry; exact PySem.EqNone.eq_none_none (fin_bl I q (by simp))
  | bl j => cases ry; exact PySem.EqNone.eq_none_bool (fin_bl I q (by simp))
  | int j => obtain ⟨t', rfl⟩ := ry; exact PySem.EqNone.eq_none_int (fin_bl I q (by simp))
  | str j => obtain ⟨t', rfl⟩ := ry; exact PySem.EqNone.eq_none_str (fin_bl I q (by simp))
  | _ => exact absurd (show false = true from hs) Bool.false_ne_true
 | bl i =>
  cases rx
  cases y with
  | non => cases ry; exact PySem.EqNone.eq_bool_none (fin_bl I q (by simp))
  | bl j => cases ry; exact eq_bool (fin_bl I q dec_bl)
  | str j => obtain ⟨t', rfl⟩ := ry; exact PySem.EqMixed.eq_bool_str (fin_bl I q (by simp))
  | _ => exact absurd (show false = true from hs) Bool.false_ne_true
 | int i =>
  obtain ⟨t, rfl⟩ := rx
  cases y with
  | non => cases ry; exact PySem.EqNone.eq_int_none (fin_bl I q (by simp))
  | int j => obtain ⟨t', rfl⟩ := ry; exact eq_int (fin_bl I q dec_int)
  | str j => obtain ⟨t', rfl⟩ := ry; exact PySem.EqMixed.eq_int_str (fin_bl I q (by simp))
  | _ => exact absurd (show false = true from hs) Bool.false_ne_true
 | str i =>
  obtain ⟨t, rfl⟩ := rx
  cases y with
  | non => cases ry; exact PySem.EqNone.eq_str_none (fin_bl I q (by simp))
  | bl j => cases ry; exact PySem.EqMixed.eq_str_bool (fin_bl I q (by simp))
  | int j => obtain ⟨t', rfl⟩ := ry; exact PySem.EqMixed.eq_str_int (fin_bl I q (by simp))
  | str j => obtain ⟨t', rfl⟩ := ry; exact eq_str (fin_bl I q dec_str)
  | _ => exact absurd (show false = true from hs) Bool.false_ne_true
 | byt i =>
  obtain ⟨t, rfl⟩ := rx
  cases y with
  | byt j => obtain ⟨t', rfl⟩ := ry; exact PySem.W.eq_bytes (fin_bl I q dec_byt)
  | _ => exact absurd (show false = true from hs) Bool.false_ne_true
 | _ => cases y <;> exact absurd (show false = true from hs) Bool.false_ne_true
theorem op_ne : OpR X (compareOp .NotEq) rNe := by
 intro pins s σ H x y v u Q I rx ry h
 obtain ⟨hs, q⟩ := h
 cases x with
 | non =>
  cases rx
  cases y with
  | non => cases ry; exact PySem.EqNone.ne_none_none (fin_bl I q (by simp))
  | bl j => cases ry; exact PySem.EqNone.ne_none_bool (fin_bl I q (by simp))
  | int j => obtain ⟨t', rfl⟩ := ry; exact PySem.EqNone.ne_none_int (fin_bl I q (by simp))
  | str j => obtain ⟨t', rfl⟩ := ry; exact PySem.EqNone.ne_none_str (fin_bl I q (by simp))
  | _ => exact absurd (show false = true from hs) Bool.false_ne_true
 | bl i =>
  cases rx
  cases y with
  | non => cases ry; exact PySem.EqNone.ne_bool_none (fin_bl I q (by simp))
  | bl j => cases ry; exact ne_bool (fin_bl I q (congrArg not dec_bl))
  | str j => obtain ⟨t', rfl⟩ := ry; exact PySem.EqMixed.ne_bool_str (fin_bl I q (by simp))
  | _ => exact absurd (show false = true from hs) Bool.false_ne_true
 | int i =>
  obtain ⟨t, rfl⟩ := rx
  cases y with
  | non => cases ry; exact PySem.EqNone.ne_int_none (fin_bl I q (by simp))
  | int j => obtain ⟨t', rfl⟩ := ry; exact ne_int (fin_bl I q (congrArg not dec_int))
  | str j => obtain ⟨t', rfl⟩ := ry; exact PySem.EqMixed.ne_int_str (fin_bl I q (by simp))
  | _ => exact absurd (show false = true from hs) Bool.false_ne_true
 | str i =>
  obtain ⟨t, rfl⟩ := rx
  cases y with
  | non => cases ry; exact PySem.EqNone.ne_str_none (fin_bl I q (by simp))
  | bl j => cases ry; exact PySem.EqMixed.ne_str_bool (fin_bl I q (by simp))
  | int j => obtain ⟨t', rfl⟩ := ry; exact PySem.EqMixed.ne_str_int (fin_bl I q (by simp))
  | str j => obtain ⟨t', rfl⟩ := ry; exact ne_str (fin_bl I q (congrArg not dec_str))
  | _ => exact absurd (show false = true from hs) Bool.false_ne_true
 | byt i =>
  obtain ⟨t, rfl⟩ := rx
  cases y with
  | byt j => obtain ⟨t', rfl⟩ := ry; exact PySem.W.ne_bytes (fin_bl I q (congrArg not dec_byt))
  | _ => exact absurd (show false = true from hs) Bool.false_ne_true
 | _ => cases y <;> exact absurd (show false = true from hs) Bool.false_ne_true
theorem op_lt : OpR X (compareOp .Lt) (rI0 fun i j => .bl (decide (i < j))) := opB0 fun _ _ _ _ _ _ _ q => lt_int q
theorem op_gt : OpR X (compareOp .Gt) (rI0 fun i j => .bl (decide (j < i))) := opB0 fun _ _ _ _ _ _ _ q => gt_int q
theorem op_ge : OpR X (compareOp .GtE) (rI0 fun i j => .bl (decide (j ≤ i))) := opB0 fun _ _ _ _ _ _ _ q => ge_int q
theorem OpR.or {f : Value → Value → Sem Value} {r r' : R2} (h : OpR X f r) (h' : OpR X f r') : OpR X f (fun x y H Q => r x y H Q ∨ r' x y H Q) := by
 intro pins s σ H x y v u Q I rx ry q
 rcases q with q | q
 ·exact h pins s σ H x y v u Q I rx ry q
 ·exact h' pins s σ H x y v u Q I rx ry q
theorem nomark (b : Expr) {op : CmpOp} (h : op ≠ .In := by decide) (h2 : op ≠ .NotIn := by decide) : behindInMarks op b = false := by
 have e1 : (op == CmpOp.In) = false := by cases op <;> first | rfl | exact absurd rfl h
 have e2 : (op == CmpOp.NotIn) = false := by cases op <;> first | rfl | exact absurd rfl h2
 cases b <;> simp [behindInMarks, e1, e2]
theorem pe_cmpR {op : CmpOp} {r : R2} (ho : OpR X (compareOp op) r) (ha : PE X a ta) (hb : PE X b tb) (hm : behindInMarks op b = false) : PE X (.Compare a [op] [b] pos) (tOp r ta tb) := by
 intro pins s σ H Q I h
 exact wpAny_Compare1 (binT ha hb I h fun v u s2 x y H2 I2 rx ry q => ho pins s2 σ H2 x y v u Q I2 rx ry q) hm
noncomputable def tTest (t : TE) : TT := fun σ H Q => t σ H fun x H' => ∃ k, x = .bl k ∧ Q k H'
theorem pt_cmpR {op : CmpOp} {r : R2} (ho : OpR X (compareOp op) r) (ha : PE X a ta) (hb : PE X b tb) (hm : behindInMarks op b = false) : PT X (.Compare a [op] [b] pos) (tTest (tOp r ta tb)) := by
 intro pins s σ H Q I h
 refine wpAny_isTrue_Compare1 (thn (ha pins s σ H _ I h) fun v s1 ⟨x, H1, I1, r1, q1⟩ => thn (hb pins s1 σ H1 _ I1 q1) fun u s2 ⟨y, H2, I2, r2, q2⟩ =>
  thn (ho pins s2 σ H2 x y v u _ I2 r1 r2 q2) fun c s3 ⟨z, H3, I3, r3, k, e, q3⟩ => ?_) hm
 subst e
 cases r3
 exact wpAny_truthy_bool ⟨H3, I3, q3⟩
theorem line63 : (sizeLine : Nat) < 2 ^ 63 := by rw [sizeLine_eq]; decide
theorem op_add_str : OpR X (binaryOp .Add) (fun x y H Q => ∃ i j, x = .str i ∧ y = .str j ∧ i.length + j.length ≤ sizeLine ∧ Q (.str (i ++ j)) H) := by
 intro pins s σ H x y v u Q I rx ry h
 obtain ⟨i, j, rfl, rfl, hz, q⟩ := h
 obtain ⟨t, rfl⟩ := rx
 obtain ⟨t', rfl⟩ := ry
 exact add_str (fun t' tk => ⟨.str (i ++ j), H, I.tok _, ⟨_, rfl⟩, q⟩) hz
theorem vals1 {x : V} {us : List Value} (r : Vals [x] us) : ∃ u, us = [u] ∧ RelV x u := by
 cases r with
 | cons r1 r2 => cases r2; exact ⟨_, rfl, r1⟩
theorem vals2 {x y : V} {us : List Value} (r : Vals [x, y] us) : ∃ u w', us = [u, w'] ∧ RelV x u ∧ RelV y w' := by
 cases r with
 | cons r1 r2 =>
  cases r2 with
  | cons r3 r4 => cases r4; exact ⟨_, _, rfl, r1, r3⟩
theorem call_max2 (hc : X.calm = true) : CallR X (.builtin "max") (fun xs H Q => ∃ i j, xs = [.int i, .int j] ∧ Q (.int (if j > i then j else i)) H) := by
 intro pins s σ H xs us Q I r h
 obtain ⟨i, j, rfl, q⟩ := h
 obtain ⟨u, w', rfl, ⟨t, rfl⟩, ⟨t', rfl⟩⟩ := vals2 r
 refine max_two_ints (I.ok.hd hc) fun h' tk k => ⟨_, H, I.kept k, ?_, q⟩
 by_cases hj : j > i
 ·rw [if_pos hj, if_pos hj]; exact ⟨_, rfl⟩
 ·rw [if_neg hj, if_neg hj]; exact ⟨_, rfl⟩
theorem call_min2 (hc : X.calm = true) : CallR X (.builtin "min") (fun xs H Q => ∃ i j, xs = [.int i, .int j] ∧ Q (.int (if j < i then j else i)) H) := by
 intro pins s σ H xs us Q I r h
 obtain ⟨i, j, rfl, q⟩ := h
 obtain ⟨u, w', rfl, ⟨t, rfl⟩, ⟨t', rfl⟩⟩ := vals2 r
 refine min_two_ints (I.ok.hd hc) fun h' tk k => ⟨_, H, I.kept k, ?_, q⟩
 by_cases hj : j < i
 ·rw [if_pos hj, if_pos hj]; exact ⟨_, rfl⟩
 ·rw [if_neg hj, if_neg hj]; exact ⟨_, rfl⟩
end
end L2
namespace L2
open PySem PySem.Spec PyProof.Rows
structure ObjM (h : Heap) (x dx C : Addr) (mA : Str → Option Value) : Prop where
 obj : h.get? x = some (PySem.W.instObj C dx)
 ns : h.Ns1 dx mA
 ne : dx ≠ x
theorem lookIn_ns {h : Heap} {dx : Addr} {mA : Str → Option Value} (n : h.Ns1 dx mA) : ∃ od, h.get? dx = some od ∧ ∀ name, PySem.W.lookIn name od = some (mA name) := by
 obtain ⟨o, es, ep, ho, hd, hk, _, hm⟩ := n
 refine ⟨o, ho, fun name => ?_⟩
 have e := hm name
 unfold nsFind findBy at e
 rw [← Array.find?_toList] at e
 unfold PySem.W.lookIn
 rw [hd]
 dsimp only
 split
 ·rename_i y q
  rw [q] at e
  exact congrArg some e
 ·rename_i q
  rw [q] at e
  have a : es.toList.any (·.refKey) = false := by
   rw [List.any_eq_false]
   intro y hy
   obtain ⟨z, t, hkey⟩ := hk y (Array.mem_toList_iff.mp hy)
   simp [DictEntry.refKey, hkey]
  have a' : ¬ es.toList.any (·.refKey) = true := by rw [a]; exact Bool.false_ne_true
  rw [if_neg a']
  exact congrArg some e
theorem ObjM.look {h : Heap} {x dx C : Addr} {mA : Str → Option Value} (I : ObjM h x dx C mA) : ∃ od, PySem.W.InstAt h x (PySem.W.instObj C dx) C (some od) ∧ ∀ name, PySem.W.lookIn name od = some (mA name) :=
 let ⟨od, ho, hl⟩ := lookIn_ns I.ns
 ⟨od, ⟨I.obj, rfl, rfl, ho⟩, hl⟩
section
variable {prog : Program} {w : World} {A : Around} {E : Value → Shared → Prop} {s : Shared} {K : PySem.W.Frag} {x dx C f : Addr} {mA : Str → Option Value} {name : Str} {v : Value}
theorem get_map {expr : Bool} {Q : Value → Shared → Prop} (X : K.In s.heap) (I : ObjM s.heap x dx C mA) (hg : PySem.W.plainGet K C name = true) (hh : PySem.W.hasDictIn K C = true)
  (ha : PySem.W.findIn K (.ref C) name = some none) (hv : mA name = some v) (hv' : PySem.W.handedIn v = true) (h : Q v { s with toks := s.toks + 1 }) :
  wpAny (model prog w) A (getAttr (.ref x) name expr) Q E s := by
 obtain ⟨od, J, hl⟩ := I.look
 exact PySem.W.get_value X J (PySem.W.plainGet_of hg).1 (PySem.W.findObj_own hh ha rfl (by rw [hl, hv])) hv' h
theorem get_meth {pl : Sem Bool} {Q : Value × List Value → Shared → Prop} (X : K.In s.heap) (I : ObjM s.heap x dx C mA) (hg : PySem.W.plainGet K C name = true)
  (hf : PySem.W.findIn K (.ref C) name = some (some (.ref f))) (ht : PySem.W.isFn K (.ref f) = true) (hv : mA name = none) (h : Q (.ref f, [.ref x]) s) :
  wpAny (model prog w) A (getMethod (.ref x) name pl) Q E s := by
 obtain ⟨od, J, hl⟩ := I.look
 exact PySem.W.method_fn X J (PySem.W.plainGet_of hg).1 (PySem.W.plainGet_of hg).2 hf (beq_iff_eq.mp ht) (by show (PySem.W.lookIn name od).map (·.isSome) = some false; rw [hl, hv]; rfl) h
theorem set_map {ns : List Str} {Q : Unit → Shared → Prop} (X : K.In s.heap) (I : ObjM s.heap x dx C mA)
  (hs : PySem.W.findIn K (.ref C) "__setattr__" = some (some (.builtin "object.__setattr__"))) (hp : PySem.W.plainOver K C = true) (ht : PySem.W.takerIn K C name = some none) (hh : PySem.W.hasDictIn K C = true)
  (hw : PySem.Within mA ns) (hsz : ns.length ≤ sizeLine)
  (h : ∀ h', ObjM h' x dx C (fun y => if y = name then some v else mA y) → Heap.SameBut dx s.heap h' → Q () { s with heap := h', toks := s.toks + 2 }) :
  wpAny (model prog w) A (setAttr (.ref x) name v) Q E s := by
 obtain ⟨od, J, hl⟩ := I.look
 refine PySem.W.set_plain X J hs (PySem.W.osa_open (s := { s with toks := s.toks + 1 }) (r := none) X J hp ht fun b => ?_)
 obtain ⟨cd, hc, hd'⟩ := PySem.W.any_some hh
 have hx : s.heap.get? x = some ⟨.ref C, some dx, .plain, #[]⟩ := I.obj
 refine wpAny_bind (wpAny_pure (wpAny_bind (wpAny_bind (wpAny_loadPart hx (wpAny_bind (PySem.W.Looks.here (s := { s with toks := s.toks + 1 }) (PySem.W.looks_clsIn X hc) ?_))))))
 rw [hd']
 refine wpAny_pure (a := some dx) (wpAny_bind (wpAny_pure (wpAny_bind ?_)))
 refine wpAny_nsSet1 (s := { s with toks := s.toks + 1 }) I.ns fun h' hn2 hs2 => ?_
 obtain ⟨oD, esD, epD, hoD, hdD, hcD⟩ := hn2.count (PySem.Within.cons name v hw)
 refine wpAny_bind (wpAny_lookBehind hoD (by rw [hdD]; exact pastItsLine_dict (Nat.le_trans hcD (by rw [List.length_cons]; lia))) ?_)
 exact wpAny_pure (h _ ⟨(hs2.2 _ (Ne.symm I.ne)).trans I.obj, hn2, I.ne⟩ hs2)
theorem make_map {R : Result → Shared → Prop} {vs : List Value} {kw : List (Str × Value)} (X : K.In s.heap) (hm : PySem.W.makesIn K C = true)
  (hi : PySem.W.findIn K (.ref C) "__init__" = some (some (.ref f))) (hf : PySem.W.typeIn K (.ref f) = some (.type "function"))
  (h : codeAny (model prog w) (A.under (.builtin "type.__call__" ⟨.ref C :: vs, kw⟩)) (.call (.ref f) ⟨.ref (s.heap.objs.size + 1) :: vs, kw⟩) (PySem.W.InitBack (s.heap.objs.size + 1) R)
   { s with heap := (s.heap.push PySem.W.emptyDict).push (PySem.W.instObj C s.heap.objs.size) }) :
  codeAny (model prog w) A (.call (.ref C) ⟨vs, kw⟩) R s := by
 obtain ⟨hh, g, d, t, os⟩ := s
 exact PySem.W.make_core (PySem.W.makes_of X hm) (PySem.W.looks_findIn X hi) (fun self => PySem.W.bind_fn X self hf) (.inl rfl) h
theorem make_map0 {R : Result → Shared → Prop} (X : K.In s.heap) (hm : PySem.W.makesIn K C = true)
  (hi : PySem.W.findIn K (.ref C) "__init__" = some (some (.builtin "object.__init__")))
  (hb : ∀ self, PySem.W.Looks (model prog w) s.heap (bindSpecial (.builtin "object.__init__") self) (.builtin "object.__init__", [self]))
  (h : codeAny (model prog w) (A.under (.builtin "type.__call__" ⟨[.ref C], []⟩)) (.call (.builtin "object.__init__") ⟨[.ref (s.heap.objs.size + 1)], []⟩) (PySem.W.InitBack (s.heap.objs.size + 1) R)
   { s with heap := (s.heap.push PySem.W.emptyDict).push (PySem.W.instObj C s.heap.objs.size) }) :
  codeAny (model prog w) A (.call (.ref C) ⟨[], []⟩) R s := by
 obtain ⟨hh, g, d, t, os⟩ := s
 exact PySem.W.make_core (PySem.W.makes_of X hm) (PySem.W.looks_findIn X hi) hb (.inr ⟨rfl, rfl⟩) h
end
noncomputable def putF (f : Str) (v : V) : List (Str × V) → List (Str × V)
 | [] => [(f, v)]
 | (g, x) :: r => if g = f then (g, v) :: r else (g, x) :: putF f v r
theorem lookup_putF (f g : Str) (v : V) : ∀ fs : List (Str × V), (putF f v fs).lookup g = if g = f then some v else fs.lookup g
 | [] => by
  show List.lookup g [(f, v)] = _
  by_cases h : g = f
  ·have hb : (g == f) = true := beq_iff_eq.mpr h
   simp only [List.lookup, hb, if_pos h]
  ·have hb : (g == f) = false := beq_eq_false_iff_ne.mpr h
   simp only [List.lookup, hb, if_neg h]
 | (k, x) :: r => by
  have ih := lookup_putF f g v r
  rw [show putF f v ((k, x) :: r) = (if k = f then (k, v) :: r else (k, x) :: putF f v r) from rfl]
  by_cases hk : k = f
  ·rw [if_pos hk]
   by_cases h : g = k
   ·have hb : (g == k) = true := beq_iff_eq.mpr h
    simp only [List.lookup, hb, if_pos (h.trans hk)]
   ·have hb : (g == k) = false := beq_eq_false_iff_ne.mpr h
    simp only [List.lookup, hb, if_neg (fun e : g = f => h (e.trans hk.symm))]
  ·rw [if_neg hk]
   by_cases h : g = k
   ·have hb : (g == k) = true := beq_iff_eq.mpr h
    simp only [List.lookup, hb, if_neg (fun e : g = f => hk (h.symm.trans e))]
   ·have hb : (g == k) = false := beq_eq_false_iff_ne.mpr h
    simp only [List.lookup, hb]
    exact ih
theorem keys_putF (f : Str) (v : V) : ∀ fs : List (Str × V), f ∈ (putF f v fs).map (·.1) ∧ ∀ g, g ∈ fs.map (·.1) → g ∈ (putF f v fs).map (·.1)
 | [] => ⟨by simp [putF], fun g h => by simp at h⟩
 | (k, x) :: r => by
  obtain ⟨i1, i2⟩ := keys_putF f v r
  rw [show putF f v ((k, x) :: r) = (if k = f then (k, v) :: r else (k, x) :: putF f v r) from rfl]
  by_cases hk : k = f
  ·rw [if_pos hk]
   subst hk
   exact ⟨by simp, fun g h => by simpa using h⟩
  ·rw [if_neg hk]
   refine ⟨?_, fun g h => ?_⟩
   ·rw [List.map_cons]
    exact List.mem_cons_of_mem _ i1
   ·rw [List.map_cons] at h ⊢
    rcases List.mem_cons.mp h with e | e
    ·exact List.mem_cons.mpr (.inl e)
    ·exact List.mem_cons_of_mem _ (i2 g e)
theorem length_putF (f : Str) (v : V) : ∀ fs : List (Str × V), (putF f v fs).length ≤ fs.length + 1
 | [] => by simp [putF]
 | (k, x) :: r => by
  have ih := length_putF f v r
  rw [show putF f v ((k, x) :: r) = (if k = f then (k, v) :: r else (k, x) :: putF f v r) from rfl]
  by_cases hk : k = f
  ·rw [if_pos hk, List.length_cons, List.length_cons]; lia
  ·rw [if_neg hk, List.length_cons, List.length_cons]; lia
theorem RelO.some_of {v : V} {o : Option Value} (r : RelO (some v) o) : ∃ u, o = some u ∧ RelV v u := by
 cases o with
 | none => exact (show False from r).elim
 | some u => exact ⟨u, rfl, r⟩
theorem RelO.none_of {o : Option Value} (r : RelO none o) : o = none := by
 cases o with
 | none => rfl
 | some u => exact (show False from r).elim
theorem handed_of {v : V} {u : Value} (r : RelV v u) : PySem.W.handedIn u = true := by
 cases v with
 | non => cases (show u = Value.none from r); rfl
 | bl b => cases (show u = Value.bool b from r); rfl
 | int i => obtain ⟨t, e⟩ := (show ∃ t, u = Value.int i t from r); cases e; rfl
 | str x => obtain ⟨t, e⟩ := (show ∃ t, u = Value.str x t from r); cases e; rfl
 | byt b => obtain ⟨t, e⟩ := (show ∃ t, u = Value.bytes b t from r); cases e; rfl
 | flt b => obtain ⟨t, e⟩ := (show ∃ t, u = Value.float b t from r); cases e; rfl
 | ref a => cases (show u = Value.ref a from r); rfl
 | ty n => cases (show u = Value.type n from r); rfl
section
variable {P : Program} {w : World} {H H' : Hp} {h h' : Heap} {a C dx : Addr} {fs fs' : List (Str × V)}
theorem ins_get (hok : HOk P w H h) (e : H a = some (.ins C dx fs)) : ∃ mA, ObjM h a dx C mA ∧ (∀ f, RelO (fs.lookup f) (mA f)) ∧ PySem.Within mA (fs.map (·.1)) ∧ fs.length ≤ 1000 ∧ H dx = some (.own a) := by
 obtain ⟨d, z, ne, ob, mA, n, r, q⟩ := (show ObjOk P w H h a (.ins C dx fs) from hok a _ e)
 exact ⟨mA, ⟨ob, n, ne⟩, r, q, z, d⟩
end
structure Cls (K : PySem.W.Frag) (C : Addr) : Prop where
 pg : PySem.W.plainGet K C Str.empty = true
 hd : PySem.W.hasDictIn K C = true
 po : PySem.W.plainOver K C = true
 sa : PySem.W.findIn K (.ref C) "__setattr__" = some (some (.builtin "object.__setattr__"))
theorem Cls.get {K : PySem.W.Frag} {C : Addr} (c : Cls K C) (f : Str) : PySem.W.plainGet K C f = true := c.pg
noncomputable def NoAttr (K : PySem.W.Frag) (C : Addr) (f : Str) : Prop := PySem.W.findIn K (.ref C) f = some none
theorem NoAttr.taker {K : PySem.W.Frag} {C : Addr} {f : Str} (n : NoAttr K C f) : PySem.W.takerIn K C f = some none := by
 unfold PySem.W.takerIn
 rw [show PySem.W.findIn K (.ref C) f = some none from n]
 rfl
structure Con (K : PySem.W.Frag) (C : Addr) (f : Str) (v : V) (u : Value) : Prop where
 at_ : PySem.W.findIn K (.ref C) f = some (some u)
 rel : RelV v u
 get : PySem.W.specialIn K u "__get__" = some none
 cp : PySem.W.copiedNames.contains f = false
structure Meth (K : PySem.W.Frag) (C : Addr) (m : Str) (f : Addr) : Prop where
 at_ : PySem.W.findIn K (.ref C) m = some (some (.ref f))
 fn : PySem.W.isFn K (.ref f) = true
 kp : PySem.W.keepIn K (.ref f) = true
section
variable {X : Cx} {pins : List (Addr × Obj)} {σ : St} {H : Hp} {s : Shared} {a C dx : Addr} {fs : List (Str × V)} {f : Str} {v : V} {A : Around} {E : Value → Shared → Prop}
theorem getattr_ok {b : Bool} {Q : Value → Shared → Prop} (I : Inv X pins σ H s) (e : H a = some (.ins C dx fs)) (c : Cls X.K C) (n : NoAttr X.K C f) (l : fs.lookup f = some v)
  (h : ∀ u s', Inv X pins σ H s' → RelV v u → Q u s') : wpAny (model X.prog X.w) A (getAttr (.ref a) f b) Q E s := by
 obtain ⟨mA, O, r, _, _, _⟩ := ins_get I.hok e
 obtain ⟨u, hu, ru⟩ := RelO.some_of (v := v) (o := mA f) (by rw [← l]; exact r f)
 exact get_map I.kIn O (c.get f) c.hd n hu (handed_of ru) (h u _ (I.tok _) ru)
theorem getmeth_ok {m : Str} {g : Addr} {pl : Sem Bool} {Q : Value × List Value → Shared → Prop} (I : Inv X pins σ H s) (e : H a = some (.ins C dx fs)) (c : Cls X.K C) (k : Meth X.K C m g) (l : fs.lookup m = none)
  (h : Q (.ref g, [.ref a]) s) : wpAny (model X.prog X.w) A (getMethod (.ref a) m pl) Q E s := by
 obtain ⟨mA, O, r, _, _, _⟩ := ins_get I.hok e
 have hn : mA m = none := RelO.none_of (by rw [← l]; exact r m)
 exact get_meth I.kIn O (c.get m) k.at_ k.fn hn h
theorem setattr_ok {y : V} {u : Value} {Q : Unit → Shared → Prop} (I : Inv X pins σ H s) (e : H a = some (.ins C dx fs)) (c : Cls X.K C) (n : NoAttr X.K C f) (hl : fs.length < 1000) (ry : RelV y u)
  (h : ∀ s', Inv X pins σ (upd H a (.ins C dx (putF f y fs))) s' → Q () s') : wpAny (model X.prog X.w) A (setAttr (.ref a) f u) Q E s := by
 obtain ⟨mA, O, r, wi, _, ho⟩ := ins_get I.hok e
 have hz : (fs.map (·.1)).length ≤ sizeLine := by rw [List.length_map, sizeLine_eq]; lia
 refine set_map I.kIn O c.sa c.po n.taker c.hd wi hz fun h' O' sb => h _ ?_
 have hd : ∃ o, h'.get? dx = some o := let ⟨o, _, _, e', _⟩ := O'.ns; ⟨o, e'⟩
 refine I.write (x := a) (e := dx) (by rw [e]; exact True.intro) (.inr ho) (fun b q hb z => (sb.2 b hb).trans z) hd ?_
 refine ⟨by rw [upd_ne O.ne]; exact ho, ?_, O.ne, O'.obj, _, O'.ns, fun g => ?_, fun g hg => ?_⟩
 ·have := length_putF f y fs; lia
 ·show RelO ((putF f y fs).lookup g) (if g = f then some u else mA g)
  rw [lookup_putF]
  by_cases q : g = f
  ·rw [if_pos q, if_pos q]; exact ry
  ·rw [if_neg q, if_neg q]; exact r g
 ·by_cases q : g = f
  ·rw [q]; exact (keys_putF f y fs).1
  ·refine (keys_putF f y fs).2 g (wi g fun z => hg ?_)
   show (if g = f then some u else mA g) = none
   rw [if_neg q]; exact z
theorem Inv.made (I : Inv X pins σ H s) : Inv X pins σ (upd (upd H s.heap.objs.size (.own (s.heap.objs.size + 1))) (s.heap.objs.size + 1) (.ins C s.heap.objs.size []))
  { s with heap := (s.heap.push PySem.W.emptyDict).push (PySem.W.instObj C s.heap.objs.size) } := by
 have e1 : (s.heap.push PySem.W.emptyDict).get? s.heap.objs.size = some PySem.W.emptyDict := Heap.get?_push_size s.heap rfl
 have e2 : ((s.heap.push PySem.W.emptyDict).push (PySem.W.instObj C s.heap.objs.size)).get? (s.heap.objs.size + 1) = some (PySem.W.instObj C s.heap.objs.size) := by
  have := Heap.get?_push_size (s.heap.push PySem.W.emptyDict) (o := PySem.W.instObj C s.heap.objs.size) rfl
  rwa [Heap.size_push] at this
 have e3 : (s.heap.push PySem.W.emptyDict).Ns s.heap.objs.size (fun _ => none) := ⟨PySem.W.emptyDict, #[], _, e1, rfl, (fun e he => absurd he (by simp)), fun _ => rfl⟩
 have I1 := I.laid (a := s.heap.objs.size) (o := .own (s.heap.objs.size + 1)) (h' := s.heap.push PySem.W.emptyDict) (t' := s.toks) (fun b u q => Heap.get?_push_of_some _ q) (Nat.le_refl _) ⟨_, e1⟩
 refine I1.laid (a := s.heap.objs.size + 1) (o := .ins C s.heap.objs.size []) (t' := s.toks) (fun b u q => Heap.get?_push_of_some _ q) (Nat.le_of_eq (Heap.size_push _ _)) ?_
 have ne : s.heap.objs.size ≠ s.heap.objs.size + 1 := Nat.ne_of_lt (Nat.lt_succ_self _)
 refine ⟨by rw [upd_ne ne, upd_same], Nat.zero_le _, ne, e2, fun _ => none, (Heap.Ns1.of_empty e3).at fun o q => Heap.get?_push_of_some _ q, fun _ => True.intro, fun y hy => absurd rfl hy⟩
theorem attr_of {prog : Program} {w : World} {env : Env} {e : Expr} {f : Str} {pos : Pos} {s : Shared} {Q : Value → Shared → Prop} (hb : attributeBase e f env (eval e env) = eval e env)
  (h : wpAny (model prog w) A (eval e env) (fun o s₁ => wpAny (model prog w) A (getAttr o f true) Q E s₁) E s) : wpAny (model prog w) A (eval (.Attribute e f pos) env) Q E s :=
 Attribute_any_ h (by rw [arm_eval_Attribute, hb])
end
noncomputable def tFld (K : PySem.W.Frag) (ta : TE) (f : Str) : TE := fun σ H Q => ta σ H fun x H1 => ∃ a C dx fs v, x = .ref a ∧ H1 a = some (.ins C dx fs) ∧ Cls K C ∧ NoAttr K C f ∧ fs.lookup f = some v ∧ Q v H1
noncomputable def sFld (K : PySem.W.Frag) (ta tv : TE) (f : Str) : TS := fun D σ H => tv σ H fun y H1 => ta σ H1 fun x H2 => ∃ a C dx fs, x = .ref a ∧ H2 a = some (.ins C dx fs) ∧ Cls K C ∧ NoAttr K C f ∧ fs.length < 1000 ∧
 D.nx σ (upd H2 a (.ins C dx (putF f y fs)))
section
variable {X : Cx} {o e value : Expr} {f : Str} {pos pos' tpos : Pos} {ta tv : TE}
theorem pe_fld (he : PE X e ta) (hb : attributeBase e f X.env (eval e X.env) = eval e X.env) : PE X (.Attribute e f pos) (tFld X.K ta f) := by
 intro pins s σ H Q I h
 refine attr_of hb (thn (he pins s σ H _ I h) fun u s1 ⟨x, H1, I1, rx, a, C, dx, fs, v, ex, ea, c, n, l, q⟩ => ?_)
 subst ex
 obtain rfl : u = Value.ref a := rx
 exact getattr_ok I1 ea c n l fun u' s2 I2 ru => ⟨v, H1, I2, ru, q⟩
theorem ps_fld (ha : PE X o ta) (hv : PE X value tv) (hs : swapsWith value (some (.Attribute o f pos')) pos.line X.env = pure false) : PS X (.Assign [.Attribute o f pos'] value pos) (sFld X.K ta tv f) := by
 intro pins s σ H D I h
 refine plainObj_wpAny_Assign_Attribute (thn (hv pins s σ H _ I h) fun u s1 ⟨y, H1, I1, ry, q⟩ => thn (ha pins s1 σ H1 _ I1 q) fun ov s2 ⟨x, H2, I2, rx, a, C, dx, fs, ex, ea, c, n, l, q2⟩ => ?_) hs
 subst ex
 obtain rfl : ov = Value.ref a := rx
 exact setattr_ok I2 ea c n l ry fun s3 I3 => ⟨σ, _, I3, q2⟩
end
section
variable {X : Cx} {pins : List (Addr × Obj)} {σ : St} {H : Hp} {s : Shared} {A : Around} {E : Value → Shared → Prop} {Q : Value → Shared → Prop} {c : Value} {b : Bool}
inductive TyOf (K : PySem.W.Frag) (H : Hp) : V → Value → Prop where
 | non : TyOf K H .non (.type "NoneType")
 | bl (x : Bool) : TyOf K H (.bl x) (.type "bool")
 | int (i : Int) : TyOf K H (.int i) (.type "int")
 | str (x : Str) : TyOf K H (.str x) (.type "str")
 | flt (x : UInt64) : TyOf K H (.flt x) (.type "float")
 | lst {a : Addr} {xs : List V} (e : H a = some (.lst xs)) : TyOf K H (.ref a) (.type "list")
 | frz {a : Addr} {o : Obj} {xs : List V} (e : H a = some (.frz o (.lst xs))) : TyOf K H (.ref a) (.type "list")
 | tup {a : Addr} {xs : List V} (e : H a = some (.tup xs)) : TyOf K H (.ref a) (.type "tuple")
 | dK {a : Addr} {kvs : List (Key × V)} (e : H a = some (.dK kvs)) : TyOf K H (.ref a) (.type "dict")
 | dT {a : Addr} {kvs : List (List Key × V)} (e : H a = some (.dT kvs)) : TyOf K H (.ref a) (.type "dict")
 | ins {a C dx : Addr} {fs : List (Str × V)} (e : H a = some (.ins C dx fs)) (cl : Cls K C) (ha : PySem.W.findIn K (.ref C) "__class__" = some (some (.builtin "object.__class__")))
   (hn : PySem.W.specialIn K (.builtin "object.__class__") "__get__" = some (some (.builtin "getset_descriptor.__get__"))) (htk : PySem.W.takesIn K (.builtin "object.__class__") = some true)
   (hm : PySem.W.mroIn K C (.type "object") = some true) : TyOf K H (.ref a) (.ref C)
theorem isinst_ok {x : V} {u t : Value} (I : Inv X pins σ H s) (rx : RelV x u) (ty : TyOf X.K H x t) (e : PySem.W.kitOne X.K t c = some b) (h : ∀ tk, Q (.bool b) { s with toks := tk }) :
  wpAny (model X.prog X.w) A (call (.builtin "isinstance") [u, c]) Q E s := by
 cases ty with
 | non => cases (show u = Value.none from rx); exact PySem.W.kia_one PySem.W.kitx_none I.kIn True.intro e (fun z => nomatch z) h
 | bl y => cases (show u = Value.bool y from rx); exact PySem.W.kia_one PySem.W.kitx_bool I.kIn True.intro e (fun z => nomatch z) h
 | int i => obtain ⟨t, q⟩ := (show ∃ t, u = Value.int i t from rx); cases q; exact PySem.W.kia_one PySem.W.kitx_int I.kIn True.intro e (fun z => nomatch z) h
 | str y => obtain ⟨t, q⟩ := (show ∃ t, u = Value.str y t from rx); cases q; exact PySem.W.kia_one PySem.W.kitx_str I.kIn True.intro e (fun z => nomatch z) h
 | flt y => obtain ⟨t, q⟩ := (show ∃ t, u = Value.float y t from rx); cases q; exact PySem.W.kia_one PySem.W.kitx_float I.kIn True.intro e (fun z => nomatch z) h
 | @lst a xs ea =>
  cases (show u = Value.ref a from rx)
  obtain ⟨_, _, n, _, h1⟩ := (show ObjOk X.prog X.w H s.heap a (.lst xs) from I.hok a _ ea)
  exact PySem.W.kia_one PySem.W.kitx_list I.kIn ⟨_, h1, rfl⟩ e (fun z => nomatch z) h
 | @frz a ob xs ea =>
  cases (show u = Value.ref a from rx)
  obtain ⟨_, _, _, n, _, h1⟩ := (show ObjOk X.prog X.w H s.heap a (.frz ob (.lst xs)) from I.hok a _ ea)
  exact PySem.W.kia_one PySem.W.kitx_list I.kIn ⟨_, h1, rfl⟩ e (fun z => nomatch z) h
 | @tup a xs ea =>
  cases (show u = Value.ref a from rx)
  obtain ⟨_, _, _, p⟩ := (show ObjOk X.prog X.w H s.heap a (.tup xs) from I.hok a _ ea)
  obtain ⟨o, h1, h2, _⟩ := p
  exact PySem.W.kia_one PySem.W.kitx_tuple I.kIn ⟨o, h1, h2⟩ e (fun z => nomatch z) h
 | @dK a kvs ea =>
  cases (show u = Value.ref a from rx)
  obtain ⟨_, _, vs, _, p⟩ := (show ObjOk X.prog X.w H s.heap a (.dK kvs) from I.hok a _ ea)
  obtain ⟨o, es, ep, h1, h2, _⟩ := p
  exact PySem.W.kia_one PySem.W.kitx_dict I.kIn ⟨o, h1, h2.1⟩ e (fun z => nomatch z) h
 | @dT a kvs ea =>
  cases (show u = Value.ref a from rx)
  obtain ⟨_, _, xs, _, o, es, ep, h1, h2, _⟩ := (show ObjOk X.prog X.w H s.heap a (.dT kvs) from I.hok a _ ea)
  exact PySem.W.kia_one PySem.W.kitx_dict I.kIn ⟨o, h1, h2.1⟩ e (fun z => nomatch z) h
 | @ins a C dx fs ea cl ha hn htk hm =>
  cases (show u = Value.ref a from rx)
  obtain ⟨mA, O, _⟩ := ins_get I.hok ea
  obtain ⟨od, J, _⟩ := O.look
  exact PySem.W.kia_one (PySem.W.kitx_own (cl.get _) cl.hd ha hn htk hm) I.kIn J e (fun z => nomatch z) h
end
end L2
namespace L2
open PySem PySem.Spec PyProof.Rows
structure Room (k : Nat) (A : Around) : Prop where
 hd : A.handled = none
 dp : A.depth + 3 * k + 5 < recursionLimit
 un : A.units + 16 * k + 200 < cLine
theorem Room.mono {j k : Nat} {A : Around} (r : Room k A) (h : j ≤ k) : Room j A := ⟨r.hd, by have := r.dp; lia, by have := r.un; lia⟩
theorem Room.deeper {k : Nat} {A : Around} (r : Room (k + 1) A) (env : Env) : Room k (A.deeper env) :=
 ⟨r.hd, by have := r.dp; show A.depth + 1 + 3 * k + 5 < _; lia, by have := r.un; show A.units + 3 + 16 * k + 200 < _; lia⟩
theorem make_depth {A : Around} {C : Addr} {us : List Value} {kw : List (Str × Value)} : (A.under (.builtin "type.__call__" ⟨.ref C :: us, kw⟩)).depth = A.depth + 1 := by
 first | rfl | simp [Around.under, Code.weight, Code.isCreation, Code.isGuard, Code.isCaller, Code.frames, Code.isFrame, guardIds]
theorem make_units {A : Around} {C : Addr} {us : List Value} {kw : List (Str × Value)} : (A.under (.builtin "type.__call__" ⟨.ref C :: us, kw⟩)).units = A.units + 1 := by
 first | rfl | simp [Around.under, Code.cUnits, Code.frames, Code.isFrame]
theorem Room.make {k : Nat} {A : Around} (r : Room (k + 1) A) (C : Addr) (us : List Value) (kw : List (Str × Value)) : Room k (A.under (.builtin "type.__call__" ⟨.ref C :: us, kw⟩)) :=
 ⟨r.hd, by have := r.dp; rw [make_depth]; lia, by have := r.un; rw [make_units]; lia⟩
theorem Room.depth {k : Nat} {A : Around} (r : Room k A) : A.depth < recursionLimit := by have := r.dp; lia
theorem Room.units {k : Nat} {A : Around} (r : Room k A) : A.units + 64 < cLine := by have := r.un; lia
noncomputable def tNil : TA := fun _ H Q => Q [] H
noncomputable def tCons (ta : TE) (tr : TA) : TA := fun σ H Q => ta σ H fun x H1 => tr σ H1 fun xs H2 => Q (x :: xs) H2
section
variable {X : Cx} {e : Expr} {es : List Expr} {te : TE} {t : TA} {pos : Pos}
theorem pa_nil : PA X [] tNil := fun _ _ _ _ H Q I h => Calls.spliced_nil ⟨[], H, I, .nil, h⟩
theorem pa_cons (ha : PE X e te) (hr : PA X es t) (hs : starEach (e :: es) X.env = (false, eval e X.env) :: starEach es X.env := by rfl) : PA X (e :: es) (tCons te t) := by
 intro pos pins s σ H Q I h
 rw [hs]
 show wpAny _ _ (spliced ((false, eval e X.env) :: backTo pos (starEach es X.env))) _ _ s
 refine Calls.spliced_cons (thn (ha pins s σ H _ I h) fun u s1 ⟨x, H1, I1, r1, q1⟩ => ?_)
 exact thn (hr pos pins s1 σ H1 _ I1 q1) fun us s2 ⟨xs, H2, I2, r2, q2⟩ => ⟨x :: xs, H2, I2, .cons r1 r2, q2⟩
noncomputable def tTup (t : TA) : TE := fun σ H Q => t σ H fun xs H1 => xs.length ≤ sizeLine ∧ ∀ p, H1 p = none → Q (.ref p) (upd H1 p (.tup xs))
noncomputable def tLst (t : TA) : TE := fun σ H Q => t σ H fun xs H1 => xs.length ≤ sizeLine ∧ ∀ p, H1 p = none → Q (.ref p) (upd H1 p (.lst xs))
theorem pe_tup {x1} (h : PA X es t) : PE X (.Tuple es x1 pos) (tTup t) := by
 intro pins s σ H Q I hq
 refine wpAny_Tuple_spliced (thn (h pos pins s σ H _ I hq) fun us s1 ⟨xs, H1, I1, r, z, q⟩ => ⟨by rw [← r.length]; exact z, ?_⟩)
 have hf : H1 s1.heap.objs.size = none := I1.hok.fresh (Nat.le_refl _)
 refine ⟨.ref s1.heap.objs.size, upd H1 s1.heap.objs.size (.tup xs), I1.laid (t' := s1.toks) (fun b u e => Heap.get?_push_of_some _ e) (Nat.le_refl _) ?_, rfl, q _ hf⟩
 exact ⟨z, us, r, ⟨_, Heap.get?_push_size _ rfl, rfl, _, rfl⟩⟩
theorem pe_lst (h : PA X es t) : PE X (.List es pos) (tLst t) := by
 intro pins s σ H Q I hq
 refine wpAny_List_spliced (thn (h pos pins s σ H _ I hq) fun us s1 ⟨xs, H1, I1, r, z, q⟩ => ⟨by rw [← r.length]; exact z, ?_⟩)
 have hf : H1 s1.heap.objs.size = none := I1.hok.fresh (Nat.le_refl _)
 refine ⟨.ref s1.heap.objs.size, upd H1 s1.heap.objs.size (.lst xs), I1.laid (t' := s1.toks) (fun b u e => Heap.get?_push_of_some _ e) (Nat.le_refl _) ?_, rfl, q _ hf⟩
 exact ⟨z, us, 0, r, Heap.get?_push_size _ rfl⟩
end
noncomputable abbrev Sp := List V → Hp → VK → XK → Prop
noncomputable abbrev CXT := List Env → Hp → Shared → XK → Value → Shared → Prop
structure Env0 (P : Program) (w : World) (K : PySem.W.Frag) (mg : Str → Option Value) (base : Heap) (A : Around) (outer : List Env) (s : Shared) (H : Hp) : Prop where
 frames : A.frames = some outer
 mod : Mod K mg base
 bs : ∀ b o, base.get? b = some o → s.heap.get? b = some o ∧ H b = none
 bsz : base.objs.size ≤ s.heap.objs.size
 funs : s.heap.FunFrames base outer
 frf : ∀ b ∈ frs outer, H b = none
 hok : HOk P w H s.heap
 bare : AllBare s.gens
noncomputable def CE (outer : List Env) (P : Program) (w : World) (H : Hp) (s : Shared) (Q : VK) (u : Value) (s' : Shared) : Prop :=
 ∃ v H', s'.os = s.os ∧ AllBare s'.gens ∧ Un (frs outer) [] H H' s.heap s'.heap ∧ HOk P w H' s'.heap ∧ RelV v u ∧ Q v H'
noncomputable def CR (CX : CXT) (outer : List Env) (P : Program) (w : World) (H : Hp) (s : Shared) (Q : VK) (E : XK) (r : Result) (s' : Shared) : Prop :=
 match r with
 | .ok (.ret u) => CE outer P w H s Q u s'
 | .ok _ => False
 | .error e => CX outer H s E e s'
structure FnOk (P : Program) (w : World) (K : PySem.W.Frag) (mg : Str → Option Value) (base : Heap) (CX : CXT) (k : Nat) (f : Addr) (fd : FuncData) (ps : List Str) (sp : Sp) : Prop where
 len : ∀ vs H Q E, sp vs H Q E → vs.length = ps.length
 run : ∀ (A : Around) (outer : List Env) (s : Shared) (H : Hp) (args : Args) (us : List Value) (vs : List V) (Q : VK) (E : XK), Room k A → Env0 P w K mg base A outer s H → BindsTo s fd args (ps.zip us) → Vals vs us → sp vs H Q E →
  codeAny (model P w) A (.call (.ref f) args) (CR CX outer P w H s Q E) s
theorem FnOk.mono {P : Program} {w : World} {K : PySem.W.Frag} {mg : Str → Option Value} {base : Heap} {CX : CXT} {j k : Nat} {f : Addr} {fd : FuncData} {ps : List Str} {sp : Sp} (F : FnOk P w K mg base CX j f fd ps sp) (h : j ≤ k) :
  FnOk P w K mg base CX k f fd ps sp := ⟨F.len, fun A outer s H args us vs Q E hr => F.run A outer s H args us vs Q E (hr.mono h)⟩
theorem FnOk.imp {P : Program} {w : World} {K : PySem.W.Frag} {mg : Str → Option Value} {base : Heap} {CX : CXT} {k : Nat} {f : Addr} {fd : FuncData} {ps : List Str} {sp sp' : Sp} (F : FnOk P w K mg base CX k f fd ps sp)
  (h : ∀ vs H Q E, sp' vs H Q E → sp vs H Q E) : FnOk P w K mg base CX k f fd ps sp' :=
 ⟨fun vs H Q E q => F.len vs H Q E (h _ _ _ _ q), fun A outer s H args us vs Q E hr he hb hv hs => F.run A outer s H args us vs Q E hr he hb hv (h _ _ _ _ hs)⟩
theorem Env0.make {P : Program} {w : World} {K : PySem.W.Frag} {mg : Str → Option Value} {base : Heap} {A : Around} {outer : List Env} {s : Shared} {H : Hp} (e : Env0 P w K mg base A outer s H) (C : Addr) (us : List Value) (kw : List (Str × Value)) :
  Env0 P w K mg base (A.under (.builtin "type.__call__" ⟨.ref C :: us, kw⟩)) outer s H := ⟨by first | exact e.frames | (simpa [Around.under, Code.envs, Code.isFrame, pushEnvs] using e.frames), e.mod, e.bs, e.bsz, e.funs, e.frf, e.hok, e.bare⟩
section
variable {X : Cx} {pins : List (Addr × Obj)} {σ : St} {H : Hp} {s s' : Shared}
theorem Inv.env0 (I : Inv X pins σ H s) : Env0 X.prog X.w X.K X.mg X.base X.A X.stack s H :=
 ⟨I.ok.frames, I.ok.mod, I.bs, Nat.le_trans I.ok.bsz I.sz, I.stack, I.stkFree, I.hok, I.bare⟩
theorem Inv.after {Q : VK} {u : Value} (I : Inv X pins σ H s) (h : CE X.stack X.prog X.w H s Q u s') : EP X pins σ Q u s' := by
 obtain ⟨v, H', os, bare, un, hok, r, q⟩ := h
 obtain ⟨hh, g, d, t, os'⟩ := s'
 obtain rfl : os' = s.os := os
 exact ⟨v, H', I.call (h' := hh) (g' := g) (d' := d) (t' := t) (ch := []) un hok bare (fun b z => absurd z (by simp)), r, q⟩
end
noncomputable def tCall (sp : Sp) (dvs : List V) (E : XK) (t : TA) : TE := fun σ H Q => t σ H fun vs H1 => sp (vs ++ dvs) H1 Q E
noncomputable def tMake (C : Addr) (sp : Sp) (dvs : List V) (E : XK) (t : TA) : TE := fun σ H Q => t σ H fun vs H1 => ∀ x dx, H1 x = none → H1 dx = none → dx ≠ x →
 sp (.ref x :: (vs ++ dvs)) (upd (upd H1 dx (.own x)) x (.ins C dx [])) (fun v H2 => v = .non ∧ Q (.ref x) H2) E
noncomputable def Binds (K : PySem.W.Frag) (fd : FuncData) (ps : List Str) (ds : List Value) : Prop :=
 ∀ (s : Shared) (us : List Value), K.In s.heap → (us ++ ds).length = ps.length → BindsTo s fd ⟨us, []⟩ (ps.zip (us ++ ds))
theorem Binds.all {K : PySem.W.Frag} {fd : FuncData} {ps : List Str} (h : ∀ us : List Value, us.length = ps.length → bindArgs fd ⟨us, []⟩ = pure (ps.zip us)) : Binds K fd ps [] := fun s us _ hl => by
 rw [List.append_nil] at hl ⊢
 exact .of_eq (h us hl)
noncomputable def Passes (CX : CXT) (X : Cx) (E : XK) : Prop := ∀ (pins : List (Addr × Obj)) (σ : St) (H : Hp) (s : Shared) (e : Value) (s' : Shared), Inv X pins σ H s → CX X.stack H s E e s' → X.xe e s'
section
variable {X : Cx} {CX : CXT} {k : Nat} {f C : Addr} {fd : FuncData} {ps : List Str} {sp : Sp} {dvs : List V} {ds : List Value} {E : XK} {x m : Str} {p pos apos : Pos} {e o : Expr} {es : List Expr} {ta : TE} {t : TA}
theorem run_fn {pins : List (Addr × Obj)} {σ : St} {H : Hp} {s : Shared} {Q : VK} {us : List Value} {vs : List V} (F : FnOk X.prog X.w X.K X.mg X.base CX k f fd ps sp) (hr : Room k X.A) (hb : Binds X.K fd ps ds) (hd : Vals dvs ds) (hx : Passes CX X E)
  (I : Inv X pins σ H s) (r : Vals vs us) (h : sp (vs ++ dvs) H Q E) : wpAny (model X.prog X.w) X.A (call (.ref f) us) (EP X pins σ Q) X.xe s := by
 have r2 : Vals (vs ++ dvs) (us ++ ds) := r.append hd
 have hl : (us ++ ds).length = ps.length := by rw [← r2.length]; exact F.len _ _ _ _ h
 refine wpAny_call (codeAny_mono (F.run X.A X.stack s H ⟨us, []⟩ (us ++ ds) (vs ++ dvs) Q E hr I.env0 (hb s us I.kIn hl) r2 h) fun r s' hq => ?_)
 cases r with
 | error e => exact hx pins σ H s e s' I hq
 | ok fl =>
  cases fl with
  | ret u => exact I.after hq
  | next => exact False.elim hq
  | brk => exact False.elim hq
  | cont => exact False.elim hq
theorem pe_call (F : FnOk X.prog X.w X.K X.mg X.base CX k f fd ps sp) (hr : Room k X.A) (hg : Gl X x) (hm : X.mg x = some (.ref f)) (hk : PySem.W.keepIn X.K (.ref f) = true) (hb : Binds X.K fd ps ds) (hd : Vals dvs ds) (hx : Passes CX X E)
  (ha : PA X (e :: es) t) (hdb : (x == ("__debug__" : Str)) = false := by decide) (he : starEach (e :: es) X.env = (false, eval e X.env) :: starEach es X.env := by rfl) (hpl : (backTo pos (starEach es X.env)).any (·.1) = false := by rfl) :
  PE X (.Call (.Name x p) (e :: es) [] pos) (tCall sp dvs E t) := by
 intro pins s σ H Q I h
 refine wpAny_Call_Name_kw (ld_glob I hg hm ?_ hdb)
 refine PySem.W.callWith_K (h₀ := X.base) I.ok.mod.kin hk (thn (ha pos pins s σ H _ I h) fun us s1 ⟨vs, H1, I1, r, q⟩ => ⟨I1.kIn, ?_⟩) he hpl
 exact run_fn F hr hb hd hx I1 r q
structure Mk (K : PySem.W.Frag) (C f : Addr) : Prop where
 makes : PySem.W.makesIn K C = true
 init : PySem.W.findIn K (.ref C) "__init__" = some (some (.ref f))
 fn : PySem.W.isFn K (.ref f) = true
 kp : PySem.W.keepIn K (.ref C) = true
theorem run_make {pins : List (Addr × Obj)} {σ : St} {H : Hp} {s : Shared} {Q : VK} {us : List Value} {vs : List V} (M : Mk X.K C f) (F : FnOk X.prog X.w X.K X.mg X.base CX k f fd ps sp) (hr : Room (k + 1) X.A) (hb : Binds X.K fd ps ds) (hd : Vals dvs ds)
  (hx : Passes CX X E) (I : Inv X pins σ H s) (r : Vals vs us)
  (h : ∀ x dx, H x = none → H dx = none → dx ≠ x → sp (.ref x :: (vs ++ dvs)) (upd (upd H dx (.own x)) x (.ins C dx [])) (fun v H2 => v = .non ∧ Q (.ref x) H2) E) :
  wpAny (model X.prog X.w) X.A (call (.ref C) us) (EP X pins σ Q) X.xe s := by
 have hq := h (s.heap.objs.size + 1) s.heap.objs.size (I.hok.fresh (Nat.le_succ _)) (I.hok.fresh (Nat.le_refl _)) (Nat.ne_of_lt (Nat.lt_succ_self _))
 have I2 := Inv.made (C := C) I
 have r2 : Vals (V.ref (s.heap.objs.size + 1) :: (vs ++ dvs)) (Value.ref (s.heap.objs.size + 1) :: (us ++ ds)) := .cons rfl (r.append hd)
 have hl : (Value.ref (s.heap.objs.size + 1) :: us ++ ds).length = ps.length := by
  have e := r2.length
  rw [F.len _ _ _ _ hq] at e
  exact e.symm
 refine wpAny_call (make_map (f := f) I.kIn M.makes M.init (beq_iff_eq.mp M.fn) (codeAny_mono (F.run _ X.stack _ _ ⟨Value.ref (s.heap.objs.size + 1) :: us, []⟩ (Value.ref (s.heap.objs.size + 1) :: (us ++ ds)) _ _ E (hr.make C us [])
  (I2.env0.make C us []) (hb _ (Value.ref (s.heap.objs.size + 1) :: us) I2.kIn hl) r2 hq) fun r s' hq' => ?_))
 cases r with
 | error e => exact hx pins σ _ _ e s' I2 hq'
 | ok fl =>
  cases fl with
  | ret u =>
   obtain ⟨v, H', I3, rv, ev, q3⟩ := I2.after hq'
   subst ev
   exact ⟨rv, ⟨V.ref (s.heap.objs.size + 1), H', I3, rfl, q3⟩⟩
  | next => exact False.elim hq'
  | brk => exact False.elim hq'
  | cont => exact False.elim hq'
theorem pe_make (M : Mk X.K C f) (F : FnOk X.prog X.w X.K X.mg X.base CX k f fd ps sp) (hr : Room (k + 1) X.A) (hg : Gl X x) (hm : X.mg x = some (.ref C)) (hb : Binds X.K fd ps ds) (hd : Vals dvs ds) (hx : Passes CX X E)
  (ha : PA X (e :: es) t) (hdb : (x == ("__debug__" : Str)) = false := by decide) (he : starEach (e :: es) X.env = (false, eval e X.env) :: starEach es X.env := by rfl) (hpl : (backTo pos (starEach es X.env)).any (·.1) = false := by rfl) :
  PE X (.Call (.Name x p) (e :: es) [] pos) (tMake C sp dvs E t) := by
 intro pins s σ H Q I h
 refine wpAny_Call_Name_kw (ld_glob I hg hm ?_ hdb)
 refine PySem.W.callWith_K (h₀ := X.base) I.ok.mod.kin M.kp (thn (ha pos pins s σ H _ I h) fun us s1 ⟨vs, H1, I1, r, q⟩ => ⟨I1.kIn, ?_⟩) he hpl
 exact run_make M F hr hb hd hx I1 r q
end
section
variable {X : Cx} {CX : CXT} {k : Nat} {f C : Addr} {fd : FuncData} {ps ks : List Str} {sp : Sp} {E : XK} {x m : Str} {p pos apos kpos : Pos} {e o : Expr} {es : List Expr} {kws : List Keyword} {te ta : TE} {t tk : TA} {nm : Option Str}
structure KBinds (K : PySem.W.Frag) (fd : FuncData) (ps ks : List Str) (g : List Value → List Value → List Value) (gV : List V → List V → List V) : Prop where
 to : ∀ (s : Shared) (us ws : List Value), K.In s.heap → (g us ws).length = ps.length → BindsTo s fd ⟨us, ks.zip ws⟩ (ps.zip (g us ws))
 rel : ∀ {vs : List V} {us : List Value} {zs : List V} {ws : List Value}, Vals vs us → Vals zs ws → Vals (gV vs zs) (g us ws)
variable {g : List Value → List Value → List Value} {gV : List V → List V → List V}
end
structure FnScope (N P : List Str) (sc : Scope) : Prop where
 kind : sc.kind = .function
 co : sc.isCoroutine = false
 gen : sc.isGenerator = false
 nd : N.Nodup
 pre : N.take P.length = P
 par : ∀ x ∈ P, sc.names.lookup x = some .local ∨ sc.names.lookup x = some .cell
 nofree : ∀ y ∈ sc.names, y.2 ≠ .free
theorem bindL_out {kindOf : Str → Option NameKind} {x : Str} : ∀ {binds : List (Str × Value)} {m : Str → Option Value}, (∀ v, (x, v) ∉ binds) → bindL kindOf binds m x = m x
 | [], _, _ => rfl
 | (n, v) :: r, m, h => by
  unfold bindL
  rw [bindL_out fun w hw => h w (List.mem_cons_of_mem _ hw)]
  split
  ·have : x ≠ n := by rintro rfl; exact h v List.mem_cons_self
   simp [this]
  ·rfl
theorem bindC_out {kindOf : Str → Option NameKind} {x : Str} : ∀ {binds : List (Str × Value)} {m : Str → Option Value}, (∀ v, (x, v) ∉ binds) → bindC kindOf binds m x = m x
 | [], _, _ => rfl
 | (n, v) :: r, m, h => by
  unfold bindC
  rw [bindC_out fun w hw => h w (List.mem_cons_of_mem _ hw)]
  split
  ·rfl
  ·have : x ≠ n := by rintro rfl; exact h v List.mem_cons_self
   simp [this]
theorem bindL_get {kindOf : Str → Option NameKind} {x : Str} {v : Value} : ∀ {P : List Str} {vs : List Value} {i : Nat} {m : Str → Option Value}, P.Nodup → P[i]? = some x → vs[i]? = some v → kindOf x = some .local →
  bindL kindOf (P.zip vs) m x = some v
 | [], _, _, _, _, h, _, _ => by simp at h
 | _ :: _, [], _, _, _, _, h, _ => by simp at h
 | p :: P, w :: vs, 0, m, nd, h1, h2, hk => by
  simp at h1 h2; subst h1; subst h2
  show bindL kindOf ((p, w) :: P.zip vs) m p = _
  unfold bindL
  rw [bindL_out fun v hv => (List.nodup_cons.mp nd).1 (List.of_mem_zip hv).1, if_pos hk]
  simp
 | p :: P, w :: vs, i + 1, m, nd, h1, h2, hk => by
  show bindL kindOf ((p, w) :: P.zip vs) m x = _
  unfold bindL
  exact bindL_get (i := i) (List.nodup_cons.mp nd).2 (by simpa using h1) (by simpa using h2) hk
theorem bindC_get {kindOf : Str → Option NameKind} {x : Str} {v : Value} : ∀ {P : List Str} {vs : List Value} {i : Nat} {m : Str → Option Value}, P.Nodup → P[i]? = some x → vs[i]? = some v → kindOf x ≠ some .local →
  bindC kindOf (P.zip vs) m x = some v
 | [], _, _, _, _, h, _, _ => by simp at h
 | _ :: _, [], _, _, _, _, h, _ => by simp at h
 | p :: P, w :: vs, 0, m, nd, h1, h2, hk => by
  simp at h1 h2; subst h1; subst h2
  show bindC kindOf ((p, w) :: P.zip vs) m p = _
  unfold bindC
  rw [bindC_out fun v hv => (List.nodup_cons.mp nd).1 (List.of_mem_zip hv).1, if_neg hk]
  simp
 | p :: P, w :: vs, i + 1, m, nd, h1, h2, hk => by
  show bindC kindOf ((p, w) :: P.zip vs) m x = _
  unfold bindC
  exact bindC_get (i := i) (List.nodup_cons.mp nd).2 (by simpa using h1) (by simpa using h2) hk
noncomputable def start (N : List Str) (vs : List V) : St := vs.map some ++ List.replicate (N.length - vs.length) none
noncomputable def cxOf (CX : CXT) (P : Program) (w : World) (K : PySem.W.Frag) (mg : Str → Option Value) (base : Heap) (N : List Str) (qual : Str) (scope : Scope) (f : Addr) (cd : Value) (A : Around) (outer : List Env) (s : Shared) (H : Hp) (E : XK) : Cx where
 prog := P
 w := w
 K := K
 mg := mg
 base := base
 A := A.deeper (envOfC qual scope s.heap.objs.size f cd)
 N := N
 s₀ := s
 H₀ := H
 env := envOfC qual scope s.heap.objs.size f cd
 outer := outer
 stack := envOfC qual scope s.heap.objs.size f cd :: outer
 ex := []
 calm := true
 fn := fun _ => true
 pn := []
 xe := fun e s' => wpAny (model P w) (A.deeper (envOfC qual scope s.heap.objs.size f cd)) (leaving (envOfC qual scope s.heap.objs.size f cd) e) (fun _ s'' => CX outer H s E e s'') (fun e' s'' => CX outer H s E e' s'') s'
theorem cell_has {sc : Scope} {n : Nat} {x : Str} (h : sc.names.lookup x = some .cell) : ∃ c, (cellsFrom n sc.names []).lookup x = some c := by
 have q := PySem.W.cellsFrom_some sc.names n [] (.inl h)
 exact Option.isSome_iff_exists.mp q
theorem inv_start {CX : CXT} {P : Program} {w : World} {K : PySem.W.Frag} {mg : Str → Option Value} {base : Heap} {N ps : List Str} {qual : Str} {scope : Scope} {f : Addr} {cd : Value} {A : Around} {outer : List Env} {s s1 : Shared} {H : Hp} {E : XK} {us : List Value} {vs : List V}
  (S : FnScope N ps scope) (hd : A.handled = none) (e0 : Env0 P w K mg base A outer s H) (hl : vs.length = ps.length) (r : Vals vs us)
  (x : InCallC s s.heap.objs.size (bindL (envOfC qual scope s.heap.objs.size f cd).kindOf (ps.zip us) fun _ => none) (cellsFrom (s.heap.objs.size + 1) scope.names []) (bindC (envOfC qual scope s.heap.objs.size f cd).kindOf (ps.zip us) fun _ => none) s1) :
  Inv (cxOf CX P w K mg base N qual scope f cd A outer s H E) [] (start N vs) H s1 := by
 have hpl : ps.length ≤ N.length := by have := congrArg List.length S.pre; rw [List.length_take] at this; lia
 obtain ⟨h1, tk, rfl, hk⟩ := x.done
 have noA : ∀ b : Addr, b ∉ (cxOf CX P w K mg base N qual scope f cd A outer s H E).ex := fun b z => absurd (show b ∈ ([] : List Addr) from z) (by simp)
 refine ⟨⟨e0.mod, S.kind, rfl, rfl, Nat.le_refl _, fun y z c h1 h2 => ?_, fun y hy => ?_, fun y c _ h => ?_, fun _ => hd, Around.frames_deeper e0.frames, .inr ⟨rfl, rfl⟩, fun b z => absurd z (noA b), e0.bs, e0.bsz, fun b _ _ => noA b, fun b z => absurd z (noA b), e0.funs, e0.frf⟩,
  rfl, e0.bare, Un.kept hk, ⟨_, x.toInCall.ns, fun i y v h1 h2 h3 => ?_⟩, fun y c h => ⟨_, x.cell y c h⟩, e0.hok.fresh (Nat.le_refl _), fun y c h => ?_, fun p hp => absurd (show p ∈ ([] : List (Addr × Obj)) from hp) (by simp), e0.hok.kept hk, ?_⟩
 ·exact name_of_addr x.apart (PySem.mem_of_lookup h1) (PySem.mem_of_lookup h2)
 ·have hy : scope.names.lookup y = some .cell ∨ scope.names.lookup y = some .free := hy
  rcases hy with hy | hy
  ·exact cell_has hy
  ·exact absurd rfl (S.nofree _ (PySem.mem_of_lookup hy))
 ·exact Nat.le_of_lt (x.above y c (PySem.mem_of_lookup h))
 ·have hi : i < vs.length := by
   unfold start at h2
   by_cases hi : i < vs.length
   ·exact hi
   ·rw [List.getElem?_append_right (by simpa using hi)] at h2
    rw [List.getElem?_replicate] at h2
    split at h2 <;> cases h2
  have ha : vs[i]? = some v := by
   unfold start at h2
   rw [List.getElem?_append_left (by simpa using hi), List.getElem?_map] at h2
   cases e : vs[i]? with
   | none => rw [e] at h2; cases h2
   | some a => rw [e] at h2; cases h2; rfl
  obtain ⟨u, hu, rv⟩ := r.get ha
  have hp : ps[i]? = some y := by
   rw [← S.pre, List.getElem?_take_of_lt (by lia)]; exact h1
  have ndP : ps.Nodup := by rw [← S.pre]; exact S.nd.sublist (List.take_sublist _ _)
  refine ⟨u, rv, ?_⟩
  rcases S.par y (List.mem_of_getElem? hp) with k | k
  ·exact .inl ⟨k, bindL_get ndP hp hu k⟩
  ·obtain ⟨c, e⟩ := cell_has (n := s.heap.objs.size + 1) k
   refine .inr ⟨.inl k, c, e, ?_⟩
   have q := x.cell y c e
   rw [bindC_get ndP hp hu (by show scope.names.lookup y ≠ _; rw [k]; decide)] at q
   exact q
 ·exact e0.hok.fresh (Nat.le_of_lt (x.above y c (PySem.mem_of_lookup h)))
 ·unfold start
  show _ = N.length
  rw [List.length_append, List.length_map, List.length_replicate]
  lia
theorem fn_of {CX : CXT} {P : Program} {w : World} {K : PySem.W.Frag} {mg : Str → Option Value} {base : Heap} {k : Nat} {f : Addr} {name qual : Str} {params : Arguments} {body : List Stmt} {scope : Scope} {dV kV doc pm cdv ct oc : Value} {an od : Option Addr}
  {osl : Array (Option Value)} {N ps : List Str} {sp : Sp} (lk : K.lookup f = some ⟨oc, od, .func (PySem.W.fnOf name qual params body scope dV kV doc pm an cdv ct), osl⟩) (hcd : PySem.W.codeIn K cdv qual = true) (S : FnScope N ps scope)
  (len : ∀ vs H Q E, sp vs H Q E → vs.length = ps.length)
  (hbody : ∀ (A : Around) (outer : List Env) (s : Shared) (H : Hp) (vs : List V) (Q : VK) (E : XK), Room k (A.deeper (envOfC qual scope s.heap.objs.size f cdv)) → sp vs H Q E →
   ∃ t, PSs (cxOf CX P w K mg base N qual scope f cdv A outer s H E) body t ∧ t { nx := fun _ H' => Q .non H', rt := Q } (start N vs) H) :
  FnOk P w K mg base CX (k + 1) f (PySem.W.fnOf name qual params body scope dV kV doc pm an cdv ct) ps sp := by
 refine ⟨len, fun A outer s H args us vs Q E hr e0 hb r hsp => ?_⟩
 have hl := len _ _ _ _ hsp
 have KX : K.In s.heap := e0.mod.kin.keeps fun b o e => (e0.bs b o e).1
 have lim : s.heap.NoLimit := e0.mod.nolimit.keeps fun b o e => (e0.bs b o e).1
 have hkind : ∀ y ∈ ps.zip us, scope.names.lookup y.1 = some .local ∨ (scope.names.lookup y.1 = some .cell ∧ ((cellsFrom (s.heap.objs.size + 1) scope.names []).lookup y.1).isSome = true) := fun ⟨n, v⟩ hy => by
  rcases S.par n (List.of_mem_zip hy).1 with q | q
  ·exact .inl q
  ·exact .inr ⟨q, PySem.W.cellsFrom_some _ _ _ (.inl q)⟩
 refine codeAny_call_function hr.depth (KX _ _ lk) rfl S.co S.gen rfl (PySem.W.codeRec_of KX hcd) (hb _ _ _ _ ?_)
 refine wpAny_newFunctionEnv_cells S.kind hkind fun env he s1 x => ?_
 subst he
 refine ⟨lim.keeps x.toInCall.keep, codeAny_func ?_⟩
 obtain ⟨t, ht, hq⟩ := hbody A outer s H vs Q E (hr.deeper _) hsp
 have I : Inv (cxOf CX P w K mg base N qual scope f cdv A outer s H E) [] (start N vs) H s1 := inv_start S hr.hd e0 hl r x
 refine wpAny_mono (ht [] s1 (start N vs) H _ I hq) (fun fl s' hs => ?_) fun e s' hs => hs
 have fin : ∀ {σ' : St} {H' : Hp} {v : V} {u : Value}, Inv (cxOf CX P w K mg base N qual scope f cdv A outer s H E) [] σ' H' s' → RelV v u → Q v H' → CE outer P w H s Q u s' :=
  fun {σ' H' v u} J rv q => ⟨v, H', J.os, J.bare, J.base, J.hok, rv, q⟩
 cases fl with
 | ret u =>
  obtain ⟨v, σ', H', J, rv, q⟩ := hs
  exact fin J rv q
 | next =>
  obtain ⟨σ', H', J, q⟩ := hs
  exact fin (v := V.non) (u := Value.none) J rfl q
 | brk =>
  obtain ⟨_, _, _, q⟩ := hs
  exact False.elim q
 | cont =>
  obtain ⟨_, _, _, q⟩ := hs
  exact False.elim q
end L2
namespace L2
open PySem PySem.Spec PyProof.Rows
section
variable {X : Cx} {x : Str} {p pos : Pos} {e : Expr} {es : List Expr} {t : TA} {id T : String} {r : List V → Hp → VK → Prop}
noncomputable def tCB (r : List V → Hp → VK → Prop) (t : TA) : TE := fun σ H Q => t σ H fun vs H1 => r vs H1 Q
theorem pe_callB (hc : CallR X (.builtin id) r) (hg : Gl X x) (hm : X.mg x = none) (hv : bootBuiltins x = some (.builtin id)) (ha : PA X (e :: es) t) (hn : x ≠ "__name__" := by decide) (hdb : (x == ("__debug__" : Str)) = false := by decide)
  (he : starEach (e :: es) X.env = (false, eval e X.env) :: starEach es X.env := by rfl) (hpl : (backTo pos (starEach es X.env)).any (·.1) = false := by rfl) : PE X (.Call (.Name x p) (e :: es) [] pos) (tCB r t) := by
 intro pins s σ H Q I h
 refine wpAny_Call_Name_kw (ld_blt I hg hm hv ?_ hn hdb)
 exact PyProof.Rows.callWith_builtin1 (thn (ha pos pins s σ H _ I h) fun us s1 ⟨vs, H1, I1, r1, q1⟩ => hc pins s1 σ H1 vs us Q I1 r1 q1) he hpl
end
end L2
namespace HT
open PySem PyProof.Rows
section
open PySem.SeqAt
open PySem.AutoSeq1 (wpAny_loadPart')
open PySem.MeetsSeq PySem.MeetsSeq2 PySem.MeetsSeq3
end
section
variable {prog : Program} {w : World} {A : Around} {E : Value → Shared → Prop} {s : Shared}
noncomputable def sIx (n d : Nat) : Option Int → Nat
 | none => d
 | some v => if v < 0 then (v + (n : Int)).toNat else min v.toNat n
end
end HT
namespace L2
open PySem PySem.Spec PyProof.Rows
noncomputable abbrev TO := St → Hp → (Option Int → Hp → Prop) → Prop
noncomputable def PO (X : Cx) (e : Option Expr) (t : TO) : Prop :=
 ∀ (pins : List (Addr × Obj)) (s : Shared) (σ : St) (H : Hp) (Q : Option Int → Hp → Prop), Inv X pins σ H s → t σ H Q →
  wpAny (model X.prog X.w) X.A (evalPart e X.env) (fun u s' => ∃ o H', Inv X pins σ H' s' ∧ IsPart u o ∧ Q o H') X.xe s
noncomputable def tNoPart : TO := fun _ H Q => Q none H
noncomputable def tPart (t : TE) : TO := fun σ H Q => t σ H fun x H1 => ∃ i, x = .int i ∧ Q (some i) H1
theorem intsAre_of {ns : List Int} : ∀ {us : List Value}, Vals (ns.map V.int) us → IntsAre us ns := by
 induction ns with
 | nil => intro us r; rw [List.map_nil] at r; cases r; exact .nil
 | cons n ns ih =>
  intro us r
  rw [List.map_cons] at r
  cases r with
  | cons r1 r2 =>
   obtain ⟨t, e⟩ := r1
   subst e
   exact .cons n t (ih r2)
section
variable {X : Cx} {e : Expr} {te : TE} {lo hi : Option Expr} {tl th : TO} {pos p2 : Pos}
theorem po_none : PO X none tNoPart := by
 intro pins s σ H Q I h
 rw [evalPart_none]
 exact wpAny_pure ⟨none, H, I, .none, h⟩
theorem po_some (h : PE X e te) : PO X (some e) (tPart te) := by
 intro pins s σ H Q I hw
 rw [evalPart_some]
 refine thn (h pins s σ H _ I hw) fun u s1 ⟨x, H1, I1, r1, q1⟩ => ?_
 obtain ⟨i, rfl, q⟩ := q1
 obtain ⟨t, rfl⟩ := r1
 exact ⟨some i, H1, I1, .int i t, q⟩
noncomputable def SlR (X : Cx) (r : V → Option Int → Option Int → Hp → VK → Prop) : Prop :=
 ∀ (pins : List (Addr × Obj)) (s : Shared) (σ : St) (H : Hp) (x : V) (v vl vu : Value) (lo hi : Option Int) (sl : Addr) (Q : VK), Inv X pins σ H s → RelV x v → s.heap.IsSliceOf sl vl vu .none → IsPart vl lo → IsPart vu hi → r x lo hi H Q →
  ∃ T id, typeLookup (.type T) "__getitem__" = pure (some (.builtin id)) ∧ s.TypeIs v T ∧ wpAny (model X.prog X.w) X.A (getItem v (.ref sl)) (EP X pins σ Q) X.xe s
theorem SlR.or {r r' : V → Option Int → Option Int → Hp → VK → Prop} (h : SlR X r) (h' : SlR X r') : SlR X (fun x lo hi H Q => r x lo hi H Q ∨ r' x lo hi H Q) := by
 intro pins s σ H x v vl vu lo hi sl Q I rx hs pl pu q
 rcases q with q | q
 ·exact h pins s σ H x v vl vu lo hi sl Q I rx hs pl pu q
 ·exact h' pins s σ H x v vl vu lo hi sl Q I rx hs pl pu q
noncomputable def tSl (r : V → Option Int → Option Int → Hp → VK → Prop) (te : TE) (tl th : TO) : TE := fun σ H Q => te σ H fun x H1 => tl σ H1 fun l H2 => th σ H2 fun u H3 => r x l u H3 Q
theorem pe_slice {r : V → Option Int → Option Int → Hp → VK → Prop} (hr : SlR X r) (he : PE X e te) (hl : PO X lo tl) (hu : PO X hi th) : PE X (.Subscript e (.Slice lo hi none p2) pos) (tSl r te tl th) := by
 intro pins s σ H Q I h
 refine Subscript_ (thn (he pins s σ H _ I h) fun v s1 ⟨x, H1, I1, r1, q1⟩ => ?_)
 refine wpAny_Slice (thn (hl pins s1 σ H1 _ I1 q1) fun vl s2 ⟨l, H2, I2, pl, q2⟩ => thn (hu pins s2 σ H2 _ I2 q2) fun vu s3 ⟨u, H3, I3, pu, q3⟩ => ?_)
 rw [evalPart_none]
 refine wpAny_pure ?_
 have I4 : Inv X pins σ H3 { s3 with heap := s3.heap.push { cls := .type "slice", data := .fields #[vl, vu, .none] } } := I3.kept (t' := s3.toks) fun b ob q => Heap.get?_push_of_some _ q
 obtain ⟨T, id, hT, ht, hg⟩ := hr pins { s3 with heap := s3.heap.push { cls := .type "slice", data := .fields #[vl, vu, .none] } } σ H3 x v vl vu l u s3.heap.objs.size Q I4 r1 (Heap.IsSliceOf.new ..) pl pu q3
 show wpAny (model X.prog X.w) X.A (subscriptTail e (.Slice lo hi none p2) v (.ref s3.heap.objs.size)) (EP X pins σ Q) X.xe { s3 with heap := s3.heap.push { cls := .type "slice", data := .fields #[vl, vu, .none] } }
 exact tail_any (ops := [.ref s3.heap.objs.size, v]) ht hT hg (by with_unfolding_all rfl)
noncomputable def cutV (xs : List V) (lo hi : Option Int) : List V := (xs.drop (HT.sIx xs.length 0 lo)).take (HT.sIx xs.length xs.length hi - HT.sIx xs.length 0 lo)
theorem cutV_length (xs : List V) (lo hi : Option Int) : (cutV xs lo hi).length ≤ xs.length := by
 unfold cutV
 rw [List.length_take, List.length_drop]
 lia
end
end L2
namespace L2
open PySem PySem.Spec PyProof.Rows
noncomputable def ixN (n : Nat) (i : Int) : Option Nat := if 0 ≤ i then (if i < n then some i.toNat else none) else if -(n : Int) ≤ i then some (i + n).toNat else none
noncomputable def atI {α : Type} (xs : List α) (i : Int) : Option α := (ixN xs.length i).bind fun j => xs[j]?
theorem ixN_seq {n : Nat} {i : Int} {j : Nat} (h : ixN n i = some j) : seqIndex? i n = some j ∧ j < n ∧ -(n : Int) ≤ i ∧ i < n := by
 unfold ixN at h
 by_cases h0 : 0 ≤ i
 ·rw [if_pos h0] at h
  by_cases h1 : i < n
  ·rw [if_pos h1] at h
   have e : i.toNat = j := Option.some.inj h
   exact ⟨by rw [seqIndex_of h0 h1, e], by lia, by lia, h1⟩
  ·rw [if_neg h1] at h; cases h
 ·rw [if_neg h0] at h
  by_cases h1 : -(n : Int) ≤ i
  ·rw [if_pos h1] at h
   have e : (i + n).toNat = j := Option.some.inj h
   exact ⟨by rw [seqIndex_neg (by lia) h1, e], by lia, h1, by lia⟩
  ·rw [if_neg h1] at h; cases h
theorem atI_get {α : Type} {xs : List α} {i : Int} {v : α} (h : atI xs i = some v) : ∃ j, seqIndex? i xs.length = some j ∧ xs[j]? = some v ∧ j < xs.length ∧ -(xs.length : Int) ≤ i ∧ i < xs.length := by
 unfold atI at h
 cases e : ixN xs.length i with
 | none => rw [e] at h; cases h
 | some j =>
  rw [e] at h
  obtain ⟨h1, h2, h3, h4⟩ := ixN_seq e
  exact ⟨j, h1, h, h2, h3, h4⟩
theorem atI_nat {α : Type} {xs : List α} {j : Nat} {v : α} (h : xs[j]? = some v) : atI xs (j : Int) = some v := by
 have hj : j < xs.length := (List.getElem?_eq_some_iff.mp h).1
 have e : ixN xs.length (j : Int) = some j := by
  unfold ixN
  rw [if_pos (by lia), if_pos (by lia)]; simp
 unfold atI; rw [e]; exact h
noncomputable def PlainIx (b : Expr) : Prop := ∀ o i, subscripted b false o i = operate [o, i] (getItem o i)
noncomputable def IxR (X : Cx) (r : R2) : Prop :=
 ∀ (value slice : Expr) (pins : List (Addr × Obj)) (s : Shared) (σ : St) (H : Hp) (x y : V) (v u : Value) (Q : VK), Inv X pins σ H s → RelV x v → RelV y u → r x y H Q →
  subscripted slice false v u = operate [v, u] (getItem v u) → wpAny (model X.prog X.w) X.A (subscriptTail value slice v u) (EP X pins σ Q) X.xe s
noncomputable def MtR (X : Cx) (id : String) (r : V → List V → Hp → VK → Prop) : Prop :=
 ∀ (pins : List (Addr × Obj)) (s : Shared) (σ : St) (H : Hp) (x : V) (xs : List V) (v : Value) (us : List Value) (Q : VK), Inv X pins σ H s → RelV x v → Vals xs us → r x xs H Q →
  wpAny (model X.prog X.w) X.A (call (.builtin id) (v :: us)) (EP X pins σ Q) X.xe s
section
variable {X : Cx} {a b : Expr} {ta tb : TE} {pos : Pos}
theorem IxR.or {r r' : R2} (h : IxR X r) (h' : IxR X r') : IxR X (fun x y H Q => r x y H Q ∨ r' x y H Q) := by
 intro value slice pins s σ H x y v u Q I rx ry q hs
 rcases q with q | q
 ·exact h value slice pins s σ H x y v u Q I rx ry q hs
 ·exact h' value slice pins s σ H x y v u Q I rx ry q hs
theorem MtR.or {id : String} {r r' : V → List V → Hp → VK → Prop} (h : MtR X id r) (h' : MtR X id r') : MtR X id (fun x xs H Q => r x xs H Q ∨ r' x xs H Q) := by
 intro pins s σ H x xs v us Q I rx rs q
 rcases q with q | q
 ·exact h pins s σ H x xs v us Q I rx rs q
 ·exact h' pins s σ H x xs v us Q I rx rs q
theorem pe_ix {r : R2} (hr : IxR X r) (ha : PE X a ta) (hb : PE X b tb) (hs : PlainIx b) : PE X (.Subscript a b pos) (tOp r ta tb) := by
 intro pins s σ H Q I h
 exact Subscript_ (binT ha hb I h fun v u s2 x y H2 I2 rx ry q => hr a b pins s2 σ H2 x y v u Q I2 rx ry q (hs _ _))
noncomputable def rIxL (K : PySem.W.Frag) : R2 := fun x y H Q => ∃ p xs i v, x = .ref p ∧ y = .int i ∧ SqL K H p xs ∧ atI xs i = some v ∧ Q v H
noncomputable def rIxT (K : PySem.W.Frag) : R2 := fun x y H Q => ∃ p xs i v, x = .ref p ∧ y = .int i ∧ SqT K H p xs ∧ atI xs i = some v ∧ Q v H
noncomputable def rIxS : R2 := fun x y H Q => ∃ z i c, x = .str z ∧ y = .int i ∧ z.length ≤ sizeLine ∧ atI z.cps.toList i = some c ∧ Q (.str ⟨#[c]⟩) H
theorem ix_list : IxR X (rIxL X.K) := by
 intro value slice pins s σ H x y v u Q I rx ry h hs
 obtain ⟨p, xs, i, z, rfl, rfl, hq, he, q⟩ := h
 cases rx
 obtain ⟨t, rfl⟩ := ry
 obtain ⟨its, r, pl, hz⟩ := I.list hq
 obtain ⟨j, h1, h2, h3, h4, h5⟩ := atI_get he
 obtain ⟨w, ew, rw'⟩ := r.get h2
 have hl := r.length
 have hn := line63
 have fin : EP X pins σ Q w s := ⟨z, H, I, rw', q⟩
 by_cases h0 : 0 ≤ i
 ·have hj : i.toNat = j := by
   rw [seqIndex_of h0 h5] at h1
   exact Option.some.inj h1
  exact item_listR pl.isList h0 (by lia) (by rw [hj]; simpa using ew) fin hs
 ·have hj : (i + (its.toArray.size : Int)).toNat = j := by
   rw [seqIndex_neg (by lia) h4] at h1
   rw [List.size_toArray, ← hl]
   exact Option.some.inj h1
  exact subscriptTail_builtinR (x := w) pl.isList.typeIs slot_list_getitem.lookup
   (wpAny_getItem_list_neg (Q := fun r s' => r = w ∧ EP X pins σ Q r s') pl.isList (by lia) (by rw [List.size_toArray] <;> lia) (by lia) (by rw [hj]; simpa using ew) ⟨rfl, fin⟩) hs
theorem ix_tup : IxR X (rIxT X.K) := by
 intro value slice pins s σ H x y v u Q I rx ry h hs
 obtain ⟨p, xs, i, z, rfl, rfl, hq, he, q⟩ := h
 cases rx
 obtain ⟨t, rfl⟩ := ry
 obtain ⟨its, r, pl, hz⟩ := I.tuple hq
 obtain ⟨j, h1, h2, h3, h4, h5⟩ := atI_get he
 obtain ⟨w, ew, rw'⟩ := r.get h2
 have hl := r.length
 have hn := line63
 have fin : EP X pins σ Q w s := ⟨z, H, I, rw', q⟩
 exact subscriptTail_builtinR (x := w) pl.typeIs slot_tuple_getitem.lookup
  (getItem_tuple (j := j) (Q := fun r s' => r = w ∧ EP X pins σ Q r s') pl (by lia) (by lia) (by rw [List.size_toArray, ← hl]; exact h1) (by simpa using ew) ⟨rfl, fin⟩) hs
theorem ix_str : IxR X rIxS := by
 intro value slice pins s σ H x y v u Q I rx ry h hs
 obtain ⟨z, i, c, rfl, rfl, hz, he, q⟩ := h
 obtain ⟨t, rfl⟩ := rx
 obtain ⟨t', rfl⟩ := ry
 obtain ⟨j, h1, h2, h3, h4, h5⟩ := atI_get he
 have hl : z.cps.toList.length = z.length := by simp [Str.length]
 rw [hl] at h1 h4 h5
 have hn := line63
 exact tail_any (typeIs_str s z t) slot_str_getitem.lookup (getItem_str (c := c) (by
  have e1 : decide (i < -(2 ^ 63 : Int)) = false := decide_eq_false (by lia)
  have e2 : decide (i ≥ 2 ^ 63) = false := decide_eq_false (by lia)
  rw [e1, e2, Bool.or_false]) (by rw [h1]; simpa using h2) ⟨.str ⟨#[c]⟩, H, I.tok _, ⟨_, rfl⟩, q⟩) hs
noncomputable def rIx (K : PySem.W.Frag) : R2 := fun x y H Q => rIxL K x y H Q ∨ rIxT K x y H Q ∨ rIxS x y H Q
theorem ix_seq : IxR X (rIx X.K) := ix_list.or (ix_tup.or ix_str)
theorem Inv.lst {pins : List (Addr × Obj)} {σ : St} {H : Hp} {s : Shared} {p : Addr} {xs : List V} (I : Inv X pins σ H s) (h : H p = some (.lst xs)) :
  ∃ (its : List Value) (n : Nat), Vals xs its ∧ s.heap.get? p = some { cls := .type "list", data := .seq its.toArray n } ∧ xs.length ≤ sizeLine := by
 obtain ⟨z, its, n, r, e⟩ := I.hok p _ h
 exact ⟨its, n, r, e, z⟩
theorem slice_bounds (lo hi : Option Int) (n : Nat) : (sliceBounds lo hi none n).1 = ((HT.sIx n 0 lo : Nat) : Int) ∧ (sliceBounds lo hi none n).2.1 = ((HT.sIx n n hi : Nat) : Int) ∧ (sliceBounds lo hi none n).2.2 = 1 := by
 refine ⟨?_, ?_, rfl⟩
 ·cases lo with
  | none => simp [sliceBounds, HT.sIx]
  | some i =>
   simp only [sliceBounds, HT.sIx, Option.getD_none, show (1 : Int) > 0 by decide, if_true]
   by_cases h : i < 0
   ·simp only [h, if_true] <;> lia
   ·simp only [h, if_false] <;> lia
 ·cases hi with
  | none => simp [sliceBounds, HT.sIx]
  | some i =>
   simp only [sliceBounds, HT.sIx, Option.getD_none, show (1 : Int) > 0 by decide, if_true]
   by_cases h : i < 0
   ·simp only [h, if_true] <;> lia
   ·simp only [h, if_false] <;> lia
theorem slicePick_cut (its : List Value) (lo hi : Option Int) : slicePick its.toArray lo hi none = ((its.drop (HT.sIx its.length 0 lo)).take (HT.sIx its.length its.length hi - HT.sIx its.length 0 lo)).toArray := by
 obtain ⟨h1, h2, h3⟩ := slice_bounds lo hi its.toArray.size
 unfold slicePick
 rw [h1, h2, h3]
 simp only [sliceRange_one, pick_run, List.size_toArray] <;> rfl
noncomputable def rSlL (K : PySem.W.Frag) : V → Option Int → Option Int → Hp → VK → Prop := fun x lo hi H Q => ∃ a xs, x = .ref a ∧ SqL K H a xs ∧ ∀ p, H p = none → Q (.ref p) (upd H p (.lst (cutV xs lo hi)))
theorem sl_list : SlR X (rSlL X.K) := by
 intro pins s σ H x v vl vu lo hi sl Q I rx hs pl pu h
 obtain ⟨a, xs, rfl, hx, q⟩ := h
 cases rx
 obtain ⟨its, r, ht, hz⟩ := I.list hx
 have hlen := r.length
 refine ⟨"list", _, slot_list_getitem.lookup, ht.isList.typeIs, ?_⟩
 refine wpAny_getItem_list_slice ht.isList hs pl pu .none (by simp) ?_ (by rw [List.size_toArray] <;> lia)
 rw [slicePick_cut, ← hlen]
 refine ⟨.ref s.heap.objs.size, _, I.laid (t' := s.toks) (o := .lst (cutV xs lo hi)) (fun b ob q => Heap.get?_push_of_some _ q) (Nat.le_refl _) ?_, rfl, q _ (I.hok.fresh (Nat.le_refl _))⟩
 exact ⟨Nat.le_trans (cutV_length xs lo hi) hz, _, 0, (r.drop (HT.sIx xs.length 0 lo)).take (HT.sIx xs.length xs.length hi - HT.sIx xs.length 0 lo), Heap.get?_push_size _ rfl⟩
theorem call_len_seq : CallR X (.builtin "len") (fun xs H Q => ∃ p ys, xs = [.ref p] ∧ (SqL X.K H p ys ∨ SqT X.K H p ys) ∧ Q (.int ys.length) H) := by
 intro pins s σ H xs us Q I r h
 obtain ⟨p, ys, rfl, hq, q⟩ := h
 obtain ⟨u, rfl, rx⟩ := vals1 r
 cases rx
 have hn := line63
 rcases hq with hq | hq
 ·obtain ⟨its, r', pl, hz⟩ := I.list hq
  have hlen := r'.length
  exact Calls.call_len_list pl.isList (by simp only [List.size_toArray] <;> lia) ⟨.int ys.length, H, I.tok _, ⟨s.toks + 1, by rw [List.size_toArray, hlen]⟩, q⟩
 ·obtain ⟨its, r', pl, hz⟩ := I.tuple hq
  have hlen := r'.length
  exact len_tuple pl (by simp only [List.size_toArray] <;> lia) ⟨.int ys.length, H, I.tok _, ⟨s.toks + 1, by rw [List.size_toArray, hlen]⟩, q⟩
theorem call_len_str : CallR X (.builtin "len") (fun xs H Q => ∃ z, xs = [.str z] ∧ z.length ≤ sizeLine ∧ Q (.int z.length) H) := by
 intro pins s σ H xs us Q I r h
 obtain ⟨z, rfl, hz, q⟩ := h
 obtain ⟨u, rfl, t, rfl⟩ := vals1 r
 have hn := line63
 exact len_str (by lia) ⟨.int z.length, H, I.tok _, ⟨_, rfl⟩, q⟩
theorem CallR.or {f : Value} {r r' : List V → Hp → VK → Prop} (h : CallR X f r) (h' : CallR X f r') : CallR X f (fun xs H Q => r xs H Q ∨ r' xs H Q) := by
 intro pins s σ H xs us Q I rs q
 rcases q with q | q
 ·exact h pins s σ H xs us Q I rs q
 ·exact h' pins s σ H xs us Q I rs q
noncomputable def tyV (K : PySem.W.Frag) (T : String) (x : V) (H : Hp) : Prop := match x with
 | .str _ => T = "str"
 | .int _ => T = "int"
 | .ref p => (T = "list" ∧ ∃ xs, SqL K H p xs) ∨ (T = "tuple" ∧ ∃ o, K.lookup p = some o ∧ o.cls = .type "tuple" ∧ o.dict = none) ∨
   (T = "dict" ∧ ((∃ kvs, H p = some (.dK kvs)) ∨ ∃ kvs, H p = some (.dT kvs))) ∨ (T = "set" ∧ ∃ S n, H p = some (.set S n))
 | _ => False
theorem tyV_is {pins : List (Addr × Obj)} {σ : St} {H : Hp} {s : Shared} {T : String} {x : V} {v : Value} (I : Inv X pins σ H s) (r : RelV x v) (ty : tyV X.K T x H) :
  s.TypeIs v T ∧ ∀ a, v = .ref a → ∃ ob, s.heap.get? a = some ob ∧ ob.dict = none := by
 cases x with
 | str z =>
  obtain ⟨t, rfl⟩ := r
  cases (show T = "str" from ty)
  exact ⟨typeIs_str s z t, fun _ e => nomatch e⟩
 | int i =>
  obtain ⟨t, rfl⟩ := r
  cases (show T = "int" from ty)
  exact ⟨typeIs_int s i t, fun _ e => nomatch e⟩
 | ref p =>
  cases r
  rcases ty with ⟨rfl, xs, hq⟩ | ⟨rfl, o, hk, hc, hd⟩ | ⟨rfl, hk⟩ | ⟨rfl, S, n, hk⟩
  ·obtain ⟨its, _, pl, _⟩ := I.list hq
   refine ⟨pl.isList.typeIs, fun a e => ?_⟩
   cases e
   obtain ⟨o, n, e, c, hd, _⟩ := pl
   exact ⟨o, e, hd⟩
  ·refine ⟨⟨o, I.kIn p o hk, hc⟩, fun a e => ?_⟩
   cases e
   exact ⟨o, I.kIn _ o hk, hd⟩
  ·have z : ∃ o, s.heap.get? p = some o ∧ o.ExactDict := by
    rcases hk with ⟨kvs, hk⟩ | ⟨kvs, hk⟩
    ·obtain ⟨_, _, _, _, o, _, _, e, ex, _⟩ := I.hok p _ hk
     exact ⟨o, e, ex⟩
    ·obtain ⟨_, _, _, _, o, _, _, e, ex, _⟩ := I.hok p _ hk
     exact ⟨o, e, ex⟩
   obtain ⟨o, e, ex⟩ := z
   refine ⟨⟨o, e, ex.1⟩, fun a e2 => ?_⟩
   cases e2
   exact ⟨o, e, ex.2.1⟩
  ·obtain ⟨o, _, _, _, e, ex, _⟩ := I.hok p _ hk
   refine ⟨⟨o, e, ex.1⟩, fun a e2 => ?_⟩
   cases e2
   exact ⟨o, e, ex.2.1⟩
 | _ => exact False.elim ty
noncomputable def tBM (K : PySem.W.Frag) (T : String) (r : V → List V → Hp → VK → Prop) (to : TE) (t : TA) : TE := fun σ H Q => to σ H fun x H1 => tyV K T x H1 ∧ t σ H1 fun xs H2 => r x xs H2 Q
variable {o e : Expr} {es : List Expr} {to : TE} {t : TA} {name : Str} {apos cpos : Pos} {T id : String} {r : V → List V → Hp → VK → Prop}
theorem pe_bm (pa : PlainAttrs T) (slot : Slot T name id) (hty : typeOf (.builtin id) = pure (.type "method_descriptor")) (hm : MtR X id r) (ho : PE X o to) (ha : PA X (e :: es) t)
  (hbase : attributeBase o name X.env (eval o X.env) = eval o X.env := by rfl)
  (hfew : ((backTo cpos (starEach (e :: es) X.env)).all (fun x => !x.1) && (backToKw cpos (keywordEach [] X.env)).all (fun x => x.1.isSome)
   && decide ((e :: es).length + ([] : List Keyword).length + (if ([] : List Keyword).isEmpty then 0 else 1) < 30)) = true := by rfl)
  (hline : (apos.endLine == cpos.line) = true := by rfl) (hs : starEach (e :: es) X.env = (false, eval e X.env) :: starEach es X.env := by rfl) (hplain : (backTo cpos (starEach es X.env)).any (·.1) = false := by rfl) :
  PE X (.Call (.Attribute o name apos) (e :: es) [] cpos) (tBM X.K T r to t) := by
 intro pins s σ H Q I h
 refine wpAny_Call_method_late hbase hfew hline rfl (thn (ho pins s σ H _ I h) fun v s1 ⟨x, H1, I1, r1, ty, q1⟩ => ?_)
 obtain ⟨h1, h2⟩ := tyV_is I1 r1 ty
 refine ⟨T, id, pa, slot, hty, h1, h2, ?_⟩
 have hA := ha cpos pins s1 σ H1 _ I1 q1
 rw [hs] at hA ⊢
 refine Calls.callWith_builtin (by show (false || (backTo cpos (starEach es X.env)).any (·.1)) = false; rw [hplain] <;> rfl) (Calls.evalArgs_plain ?_)
 exact thn hA fun us s2 ⟨vs, H2, I2, r2, q2⟩ => hm pins s2 σ H2 x vs v us Q I2 r1 r2 q2
end
end L2
namespace L2
open PySem PySem.Spec PyProof.Rows
noncomputable def MtM (X : Cx) (id : String) (r : V → List V → Hp → VK → Prop) : Prop :=
 ∀ (pins : List (Addr × Obj)) (s : Shared) (σ : St) (H : Hp) (x : V) (xs : List V) (v : Value) (us : List Value) (Q : VK), Inv X pins σ H s → RelV x v → Vals xs us → r x xs H Q →
  wpAny (model X.prog X.w) X.A (call (.builtin id) (v :: us)) (EP X pins σ Q) X.xe s
theorem Vals.one {x : V} {us : List Value} (h : Vals [x] us) : ∃ u, us = [u] ∧ RelV x u := by
 cases h with
 | cons r t => cases t; exact ⟨_, rfl, r⟩
theorem Vals.two {x y : V} {us : List Value} (h : Vals [x, y] us) : ∃ u v, us = [u, v] ∧ RelV x u ∧ RelV y v := by
 cases h with
 | cons r t => obtain ⟨v, rfl, q⟩ := Vals.one t; exact ⟨_, v, rfl, r, q⟩
theorem Vals.zero : ∀ {us : List Value}, Vals [] us → us = []
 | _, .nil => rfl
theorem Vals.dropLast {xs : List V} {us : List Value} (h : Vals xs us) : Vals xs.dropLast us.dropLast := by
 induction h with
 | nil => exact .nil
 | cons r t ih =>
  cases t with
  | nil => exact .nil
  | cons q t' => exact .cons r ih
theorem Vals.reverse {xs : List V} {us : List Value} (h : Vals xs us) : Vals xs.reverse us.reverse := by
 induction h with
 | nil => exact .nil
 | cons r t ih => rw [List.reverse_cons, List.reverse_cons]; exact Vals.append ih (.cons r .nil)
theorem Vals.rep {xs : List V} {us : List Value} (h : Vals xs us) : ∀ k : Nat, Vals (List.replicate k xs).flatten (List.replicate k us).flatten
 | 0 => .nil
 | k + 1 => by
  rw [List.replicate_succ, List.replicate_succ, List.flatten_cons, List.flatten_cons]
  exact Vals.append h (Vals.rep h k)
theorem foldl_rep (its : List Value) : ∀ (k : Nat) (acc : List Value),
  List.foldl (fun x1 x2 => x1 ++ x2) acc.toArray (List.replicate k its.toArray) = (acc ++ (List.replicate k its).flatten).toArray
 | 0, acc => by simp
 | k + 1, acc => by
  have e : acc.toArray ++ its.toArray = (acc ++ its).toArray := by simp
  have e2 : (acc ++ its) ++ (List.replicate k its).flatten = acc ++ (List.replicate (k + 1) its).flatten := by
   rw [List.replicate_succ, List.flatten_cons, List.append_assoc]
  rw [← e2, ← foldl_rep its k (acc ++ its), ← e, List.replicate_succ, List.foldl_cons]
section
variable {X : Cx} {pins : List (Addr × Obj)} {σ : St} {H : Hp} {s : Shared} {l b : Addr} {xs ys zs : List V}
theorem Inv.lset {its its' : List Value} {n : Nat} {f : Array Value → Array Value} {t' : Nat} (I : Inv X pins σ H s) (hH : H l = some (.lst xs))
  (e : s.heap.get? l = some { cls := .type "list", data := .seq its.toArray n }) (hf : f its.toArray = its'.toArray) (hv : Vals ys its') (hz : ys.length ≤ sizeLine) :
  Inv X pins σ (upd H l (.lst ys)) { s with heap := s.heap.update l (Obj.mapSeq f), toks := t' } := by
 have q := PySem.IsL.update e f
 rw [hf] at q
 refine I.write (x := l) (e := l) (by rw [hH]; exact trivial) (.inl rfl) (fun b' u hb hu => (Heap.get?_update_other s.heap (Obj.mapSeq f) (Ne.symm hb)).trans hu) ⟨_, q⟩ ?_
 exact ⟨hz, its', _, hv, q⟩
theorem Inv.lnew {its : List Value} {t' : Nat} (I : Inv X pins σ H s) (hv : Vals ys its) (hz : ys.length ≤ sizeLine) :
  Inv X pins σ (upd H s.heap.objs.size (.lst ys)) { s with heap := s.heap.push { cls := .type "list", data := .seq its.toArray }, toks := t' } :=
 I.laid (fun _ _ q => Heap.get?_push_of_some _ q) (Nat.le_refl _) ⟨hz, its, 0, hv, Heap.get?_push_size _ rfl⟩
theorem Inv.fresh (I : Inv X pins σ H s) : H s.heap.objs.size = none := I.hok.fresh (Nat.le_refl _)
theorem Inv.lstM (I : Inv X pins σ H s) (hH : H l = some (.lst xs)) : xs.length ≤ sizeLine ∧ ∃ (its : List Value) (n : Nat), Vals xs its ∧ xs.length = its.length ∧ s.heap.get? l = some { cls := .type "list", data := .seq its.toArray n } := by
 obtain ⟨z, its, n, r, e⟩ := I.hok l _ hH
 exact ⟨z, its, n, r, r.length, e⟩
theorem notLongL {n : Nat} (h : n ≤ sizeLine) : Builtin.List.listTooLong n = false := by
 unfold Builtin.List.listTooLong
 exact decide_eq_false (by lia)
end
section
variable {X : Cx}
noncomputable def rAppend : V → List V → Hp → VK → Prop := fun x vs H Q => ∃ l xs y, x = .ref l ∧ vs = [y] ∧ H l = some (.lst xs) ∧ xs.length < sizeLine ∧ Q .non (upd H l (.lst (xs ++ [y])))
theorem mt_append : MtM X "list.append" rAppend := by
 intro pins s σ H x vs v us Q I rx rv h
 obtain ⟨l, xs, y, rfl, rfl, hH, hz, q⟩ := h
 cases rx
 obtain ⟨u, rfl, ru⟩ := rv.one
 obtain ⟨z, its, n, r, hl, e⟩ := I.lstM hH
 refine call_meets F.slot_list_append ⟨_, e, rfl⟩ F.entry_list_append (F.args_list_append_2 _ _) (PySem.list_append l its.toArray n u (by rw [List.size_toArray]; lia)) ⟨e, ?_⟩
 refine ⟨.non, _, I.lset (its' := its ++ [u]) hH e (by simp) (r.append (.cons ru .nil)) ?_, rfl, q⟩
 rw [List.length_append, List.length_singleton]
 lia
theorem len_rep {α : Type} (xs : List α) (k : Nat) : (List.replicate k xs).flatten.length = k * xs.length := by
 induction k with
 | zero => simp
 | succ k ih => rw [List.replicate_succ, List.flatten_cons, List.length_append, ih, Nat.succ_mul, Nat.add_comm]
end
section
variable {prog : Program} {w : World} {A : Around} {E : Value → Shared → Prop} {s : Shared}
set_option maxRecDepth 100000 in
end
section
variable {X : Cx}
end
end L2
namespace Att
open PySem PySem.W PySem.Calls PyProof.Rows
theorem ints_of_wellAll {P : Params} {h : Heap} : ∀ (ns : List Int) (vs : List Value), WellAll P h vs (ns.map WData.int) → IntsAre vs ns := by
 intro ns
 induction ns with
 | nil =>
  intro vs w
  rw [List.map_nil] at w
  cases w
  exact .nil
 | cons n ns ih =>
  intro vs w
  rw [List.map_cons] at w
  cases w with
  | cons a b =>
   cases a
   exact .cons _ _ (ih _ b)
theorem script_of {l : OpenLaw} {n : Nat} (hn : l.most = some n) {P : Params} {h : Heap} {args : List WData} {vals : List Value}
  (hpre : l.row.toRowW.claim.pre args = true) (hwl : WellAll P h vals args) :
  ∃ a vs ns, vals = [Value.ref a] ∧ args = [WData.list (ns.map WData.int)] ∧ h.get? a = some { cls := .type "list", data := .seq vs.toArray } ∧ IntsAre vs ns ∧ ns.length ≤ n := by
 have hsh : WShape.hasAll [] args [.list .int] = true := (pre_splitW hpre).1
 have hc : l.pre.holds [] { args := args } = true := (pre_splitW hpre).2
 obtain ⟨d, r, rfl, h1, h2⟩ := hasAllW_cons hsh
 obtain rfl := hasAllW_nil h2
 obtain ⟨xs, rfl, h3⟩ := hasW_list h1
 obtain ⟨ns, rfl⟩ := items_int h3
 have hlen : ns.length ≤ n := by
  unfold OpenLaw.pre at hc
  have h4 : (WTm.not (.lt (.lit (.int (n : Int))) (.len (.arg 0)))).holds [] { args := [.list (ns.map .int)] } = true := by
   have h4 := (holds_andW hc).1
   rw [hn] at h4
   exact h4
  have h5 := condW_of h4 (w_not (w_lt w_lit (w_len_list (w_arg rfl))))
  rw [List.length_map] at h5
  refine Nat.le_of_not_lt fun q => ?_
  have q' : (n : Int) < ((ns.length : Nat) : Int) := by lia
  first
   | (rw [decide_eq_true q'] at h5; exact absurd h5 (by decide))
   | (simp at h5; lia)
 cases hwl with
 | cons w1 w2 =>
  cases w2
  cases w1 with
  | list ho hall => exact ⟨_, _, ns, rfl, rfl, ho, ints_of_wellAll ns _ hall, hlen⟩
theorem post_true (l : OpenLaw) (args : List WData) : l.row.toRowW.claim.post args (.bool true) args = true :=
 postW_of (r := l.row.toRowW) (X := (true == true))
  (show WShape.has [] (.bool true) .bool = true by first | rfl | decide | simp [WShape.has, WShape.arms, WShape.armsAll])
  (show (WTm.eq .res (.lit (.bool true))).value [] { args := args, res := some (.bool true), after := args } = some (.bool (true == true)) from w_eq_bool (w_res rfl) w_lit) rfl
theorem attach_call {l : OpenLaw} {n : Nat} {q : Program} {loose : List Str} {XP : (Str → Option Value) → Heap → Prop} {YP : World → Heap → Prop} {d : DefRec}
  (hn : l.most = some n) (hdf : d.params.defaults = [])
  (call : ∀ (w : World) (s₀ s₁ : Shared) (mg mb : Str → Option Value) (fa : Addr) (o : Obj) (pm cd doc : Value) (a : Addr) (vs : List Value) (ns : List Int),
   Ground q loose [] XP w s₀ mg mb s₁.heap → YP w s₁.heap →
   s₁.heap.get? fa = some o → o.data = .func (docDef d.name d.params d.body d.scope pm cd doc) → s₁.heap.CodeRec cd d.name → mg d.name = some (.ref fa) →
   s₁.heap.get? a = some { cls := .type "list", data := .seq vs.toArray } → IntsAre vs ns → ns.length ≤ n → s₁.gens = #[] →
   codeAny (model l.prog w) callerA (.call (.ref fa) ⟨[.ref a], []⟩) (fun r s' => r = .ok (.ret (.bool true)) ∧ OldK s₁.heap s'.heap ∧ s'.os = s₁.os ∧ AllBare s'.gens) s₁) :
  WalkO q loose XP YP l.row.toRowW d [] (fun f vs => PySem.call f vs) := by
 intro w s₀ s₁ mg mb G Y fa o pm cd doc dV kV ho hd hcd hD hmg hg args vals as hpre hlay hrd hwl hlo
 obtain rfl : dV = .none := Dflts.none hD hdf
 obtain rfl : kV = .none := Dflts.noKw hD
 obtain ⟨a, vs, ns, rfl, rfl, hobj, hints, hlen⟩ := script_of hn hpre hwl
 refine enter_call (codeAny_mono (call w s₀ s₁ mg mb fa o pm cd doc a vs ns G Y ho (fd_plain hd) hcd hmg hobj hints hlen hg) fun r s' hq => ?_)
 obtain ⟨rfl, h2, h3, h4⟩ := hq
 exact ⟨.inl ⟨.bool true, .bool true, [], rfl, fun _ => rfl, .bool true, post_true l _, fun _ => ⟨List.Pairwise.nil, fun _ hm => (nomatch hm)⟩⟩, h2, h3, h4⟩
section
variable {prog : Program} {w : World} {A : Around} {E : Value → Shared → Prop} {s : Shared} {K : Frag}
noncomputable def ledger (h : Heap) (L d : Addr) : List (Addr × Obj) := (List.range h.objs.size).filterMap fun a => if a = L ∨ a = d then none else (h.get? a).map fun o => (a, o)
end
end Att
namespace L2
open PySem PySem.Spec PyProof.Rows
theorem vals_ints : ∀ {vs : List Value} {ns : List Int}, IntsAre vs ns → Vals (ns.map V.int) vs
 | _, _, .nil => .nil
 | _, _, .cons n t h => .cons ⟨t, rfl⟩ (vals_ints h)
noncomputable def Only (H : Hp) : Prop := ∀ b, H b = none ∨ ∃ o xs, H b = some (.frz o (.lst xs))
theorem law_call {P : Program} {w : World} {K : PySem.W.Frag} {mg mb : Str → Option Value} {CX : CXT} {k : Nat} {fa a : Addr} {fd : FuncData} {x : Str} {sp : Sp} {s₁ : Shared} {vs : List Value} {ns : List Int}
  (KX : K.In s₁.heap) (hns : s₁.heap.Ns mainGlobals mg) (hb : s₁.heap.Ns builtinsNs mb) (hbb : ∀ x : Str, x ≠ "__name__" → mb x = bootBuiltins x) (hlim : s₁.heap.NoLimit) (hg : s₁.gens = #[])
  (ha : s₁.heap.get? a = some { cls := .type "list", data := .seq vs.toArray }) (hi : IntsAre vs ns) (hl : ns.length ≤ sizeLine) (hr : Room k callerA)
  (F : ∀ base : Heap, K.In base → base.Ns mainGlobals mg → FnOk P w K mg base CX k fa fd [x] sp) (hbind : ∀ (s : Shared) (u : Value), BindsTo s fd ⟨[u], []⟩ [(x, u)])
  (hsp : ∀ H : Hp, Only H → SqL K H a (ns.map V.int) → sp [.ref a] H (fun v _ => v = .bl true) fun _ _ _ => False)
  (hCX : ∀ H e s', CX [] H s₁ (fun _ _ _ => False) e s' → False) :
  codeAny (model P w) callerA (.call (.ref fa) ⟨[.ref a], []⟩) (fun r s' => r = .ok (.ret (.bool true)) ∧ OldK s₁.heap s'.heap ∧ s'.os = s₁.os ∧ AllBare s'.gens) s₁ := by
 have rv := vals_ints hi
 have lenV := hi.length
 have core : ∀ H : Hp, Only H → SqL K H a (ns.map V.int) → HOk P w H s₁.heap → (∀ b, H b ≠ none → b = a) → (H a ≠ none → K.lookup a = none) →
   codeAny (model P w) callerA (.call (.ref fa) ⟨[.ref a], []⟩) (fun r s' => r = .ok (.ret (.bool true)) ∧ OldK s₁.heap s'.heap ∧ s'.os = s₁.os ∧ AllBare s'.gens) s₁ := by
  intro H hO hS hok hA hK
  have base_of : ∀ {b : Addr} {o : Obj}, s₁.heap.get? b = some o → H b = none → (hidT s₁.heap H).get? b = some o := fun e n => hidT_get e n
  have noA : ∀ {b : Addr} {o : Obj} {es : Array DictEntry} {ep : Nat}, s₁.heap.get? b = some o → o.data = .dict es ep → H b = none := fun {b o es ep} e d => by
   cases q : H b with
   | none => rfl
   | some u =>
    have e' : b = a := hA b (by rw [q]; simp)
    subst e'
    rw [ha] at e; cases e
    have d' : Data.seq vs.toArray _ = Data.dict es ep := d
    cases d'
  have nsK : ∀ {b : Addr} {m : Str → Option Value}, s₁.heap.Ns b m → (hidT s₁.heap H).Ns b m := fun {b m} ⟨o, es, ep, e, d, r⟩ => ⟨o, es, ep, base_of e (noA e d), d, r⟩
  have hKb : K.In (hidT s₁.heap H) := fun b o e => base_of (KX b o e) (by
   cases q : H b with
   | none => rfl
   | some u =>
    have e' : b = a := hA b (by rw [q]; simp)
    subst e'
    rw [hK (by rw [q]; simp)] at e; cases e)
  have hM : Mod K mg (hidT s₁.heap H) := ⟨hKb, nsK hns, ⟨mb, nsK hb, hbb⟩, let ⟨mc, h1, h2⟩ := hlim; ⟨mc, nsK h1, h2⟩⟩
  have e0 : Env0 P w K mg (hidT s₁.heap H) callerA [] s₁ H := ⟨rfl, hM, fun b o e => of_hidT e, Nat.le_of_eq (hidT_size _ _), trivial, fun b hb => absurd (show b ∈ ([] : List Addr) from hb) (by simp), hok, .of_eq hg⟩
  refine codeAny_mono ((F _ hKb (nsK hns)).run callerA [] s₁ H ⟨[.ref a], []⟩ [.ref a] [.ref a] _ _ hr e0 (hbind s₁ (.ref a)) (.cons rfl .nil) (hsp H hO hS)) fun r s' h => ?_
  cases r with
  | error e => exact (hCX H e s' h).elim
  | ok fl =>
   cases fl with
   | next => exact False.elim h
   | brk => exact False.elim h
   | cont => exact False.elim h
   | ret u =>
    obtain ⟨v, H', os, bare, un, hok', r', q⟩ := h
    have q' : v = .bl true := q
    subst q'
    obtain rfl : u = Value.bool true := r'
    refine ⟨rfl, OldK.of_keep fun b o e => ?_, os, bare⟩
    cases q : H b with
    | none => exact un.keep b o e q (by intro z; exact absurd (show b ∈ ([] : List Addr) from z) (by simp)) (by simp)
    | some u =>
     rcases hO b with z | ⟨ob, xs, z⟩
     ·rw [q] at z; cases z
     ·have z2 := un.frzs b ob _ z
      obtain ⟨e1, _⟩ := hok b _ z
      obtain ⟨e2, _⟩ := hok' b _ z2
      rw [e] at e1; cases e1
      exact e2
 cases hk : K.lookup a with
 | some o =>
  have e := KX a o hk
  rw [ha] at e
  cases e
  refine core (fun _ => none) (fun _ => .inl rfl) (.inr ⟨_, vs.toArray, _, hk, rfl, rfl, rfl, by rw [List.size_toArray, lenV]; exact hl, by simpa using rv⟩) (fun b u z => by have z' : (none : Option HO) = some u := z; cases z') (fun b z => absurd rfl z) fun z => absurd rfl z
 | none =>
  refine core (fun b => if b = a then some (.frz { cls := .type "list", data := .seq vs.toArray } (.lst (ns.map V.int))) else none) (fun b => ?_) (.inl (.inr ⟨{ cls := .type "list", data := .seq vs.toArray }, if_pos rfl⟩)) (fun b u z => ?_) (fun b z => ?_) fun _ => hk
  ·by_cases hb : b = a
   ·exact .inr ⟨_, _, if_pos hb⟩
   ·exact .inl (if_neg hb)
  ·by_cases hb : b = a
   ·have z' := (if_pos hb).symm.trans z
    cases z'
    subst hb
    exact ⟨ha, by rw [List.length_map]; exact hl, vs, _, rv, ha⟩
   ·have z' := (if_neg hb).symm.trans z
    cases z'
  ·by_cases hb : b = a
   ·exact hb
   ·exact absurd (if_neg hb) z
end L2
namespace L2
open PySem PySem.Spec PyProof.Rows
noncomputable abbrev KOf {K : PySem.W.Frag} {h : Heap} (_ : K.In h) : PySem.W.Frag := K
theorem walk_of {l : PySem.W.OpenLaw} {n k : Nat} {q : Program} {loose : List Str} {XP : (Str → Option Value) → Heap → Prop} {YP : World → Heap → Prop} {d : DefRec} {K : Params → PySem.W.Frag} {CX : World → CXT} {sp : World → Sp} {x : Str}
  (hn : l.most = some n) (hn2 : n ≤ sizeLine) (hdf : d.params.defaults = []) (hr : Room k callerA)
  (hY : ∀ (w : World) (h : Heap), YP w h → (K w.params).In h)
  (F : ∀ (w : World) (mg : Str → Option Value) (fa : Addr) (h : Heap), (K w.params).In h → h.Ns mainGlobals mg → mg d.name = some (.ref fa) →
   ∃ fd : FuncData, (∀ (s : Shared) (u : Value), BindsTo s fd ⟨[u], []⟩ [(x, u)]) ∧
    ∀ base : Heap, (K w.params).In base → base.Ns mainGlobals mg → FnOk l.prog w (K w.params) mg base (CX w) k fa fd [x] (sp w))
  (hsp : ∀ (w : World) (H : Hp) (a : Addr) (ns : List Int), ns.length ≤ n → Only H → SqL (K w.params) H a (ns.map V.int) → sp w [.ref a] H (fun v _ => v = .bl true) fun _ _ _ => False)
  (hCX : ∀ (w : World) (H : Hp) (s : Shared) (e : Value) (s' : Shared), CX w [] H s (fun _ _ _ => False) e s' → False) :
  PySem.W.WalkO q loose XP YP l.row.toRowW d [] (fun f vs => PySem.call f vs) := by
 refine Att.attach_call hn hdf fun w s₀ s₁ mg mb fa o pm cd doc a vs ns G Y ho hd hcd hmg hobj hints hlen hg => ?_
 have KX := hY w _ Y
 obtain ⟨fd, hb, hF⟩ := F w mg fa _ KX G.T.g hmg
 exact law_call KX G.T.g G.T.b G.T.builtins G.T.nolimit hg hobj hints (Nat.le_trans hlen hn2) hr hF hb (fun H hO hS => hsp w H a ns hlen hO hS) fun H e s' => hCX w H s₁ e s'
end L2
namespace L2
open PySem PySem.Spec PyProof.Rows
noncomputable def defArgs (s : Stmt) : Arguments := match s with
 | .FunctionDef _ a _ _ _ _ _ _ _ _ => a
 | _ => { posonlyargs := [], args := [], vararg := none, kwonlyargs := [], kw_defaults := [], kwarg := none, defaults := [] }
noncomputable def defBody (s : Stmt) : List Stmt := match s with
 | .FunctionDef _ _ b _ _ _ _ _ _ _ => b
 | _ => []
noncomputable def defScope (s : Stmt) : Scope := match s with
 | .FunctionDef _ _ _ _ _ _ sc _ _ _ => sc
 | _ => { kind := .function, names := [], isGenerator := false, isCoroutine := false }
noncomputable abbrev CX0 : CXT := fun _ _ _ _ _ _ => False
structure Fun (K : PySem.W.Frag) (x qual : Str) (st : Stmt) (f : Addr) (fd : FuncData) : Prop where
 ex : ∃ (oc : Value) (od : Option Addr) (kV doc pm : Value) (an : Option Addr) (cdv ct : Value) (osl : Array (Option Value)),
  fd = PySem.W.fnOf x qual (defArgs st) (defBody st) (defScope st) .none kV doc pm an cdv ct ∧ K.lookup f = some ⟨oc, od, .func fd, osl⟩ ∧ PySem.W.codeIn K cdv qual = true
 kp : PySem.W.keepIn K (.ref f) = true
section
variable {P : Program} {w : World} {K : PySem.W.Frag} {mg : Str → Option Value} {base : Heap}
theorem Fun.ok {x qual : Str} {st : Stmt} {f : Addr} {fd : FuncData} {N ps : List Str} {k : Nat} {sp : Sp} (F : Fun K x qual st f fd) (S : FnScope N ps (defScope st)) (len : ∀ vs H Q E, sp vs H Q E → vs.length = ps.length)
  (hbody : ∀ (cdv : Value) (A : Around) (outer : List Env) (s : Shared) (H : Hp) (vs : List V) (Q : VK) (E : XK), Room k (A.deeper (envOfC qual (defScope st) s.heap.objs.size f cdv)) → sp vs H Q E →
   ∃ t, PSs (cxOf CX0 P w K mg base N qual (defScope st) f cdv A outer s H E).nox (defBody st) t ∧ t { nx := fun _ H' => Q .non H', rt := Q } (start N vs) H) : FnOk P w K mg base CX0 (k + 1) f fd ps sp := by
 obtain ⟨oc, od, kV, doc, pm, an, cdv, ct, osl, rfl, lk, hcd⟩ := F.ex
 refine fn_of lk hcd S len fun A outer s H vs Q E hr hsp => ?_
 obtain ⟨t, h, q⟩ := hbody cdv A outer s H vs Q E hr hsp
 exact ⟨t, h.nox, q⟩
theorem Fun.binds {x qual : Str} {st : Stmt} {f : Addr} {fd : FuncData} {ps : List Str} (F : Fun K x qual st f fd)
  (h : ∀ (kV doc pm : Value) (an : Option Addr) (cdv ct : Value) (us : List Value), us.length = ps.length → bindArgs (PySem.W.fnOf x qual (defArgs st) (defBody st) (defScope st) .none kV doc pm an cdv ct) ⟨us, []⟩ = pure (ps.zip us)) : Binds K fd ps [] := by
 obtain ⟨oc, od, kV, doc, pm, an, cdv, ct, osl, rfl, lk, hcd⟩ := F.ex
 exact .all (h kV doc pm an cdv ct)
theorem fun_mk {x qual : Str} {st : Stmt} {f : Addr} {oc : Value} {od an : Option Addr} {osl : Array (Option Value)} {kV doc pm cdv ct : Value} (l : K.lookup f = some ⟨oc, od, .func (PySem.W.fnOf x qual (defArgs st) (defBody st) (defScope st) .none kV doc pm an cdv ct), osl⟩)
  (c : PySem.W.codeIn K cdv qual = true) (k : PySem.W.keepIn K (.ref f) = true) : Fun K x qual st f (PySem.W.fnOf x qual (defArgs st) (defBody st) (defScope st) .none kV doc pm an cdv ct) := ⟨⟨oc, od, kV, doc, pm, an, cdv, ct, osl, rfl, l, c⟩, k⟩
end
section
variable {X : Cx}
end
noncomputable def Same (H H' : Hp) : Prop := ∀ b o, H b = some o → H' b = some o
theorem Same.refl (H : Hp) : Same H H := fun _ _ h => h
theorem Same.trans {H H1 H2 : Hp} (a : Same H H1) (b : Same H1 H2) : Same H H2 := fun c o h => b c o (a c o h)
theorem Same.free {H H' : Hp} (e : Same H H') {l : Addr} (h : H' l = Option.none) : H l = Option.none := by
 cases q : H l with
 | none => rfl
 | some o =>
  rw [e l o q] at h
  cases h
theorem Same.seq {K : PySem.W.Frag} {H H' : Hp} {a : Addr} {xs : List V} (e : Same H H') (h : SqL K H a xs) : SqL K H' a xs := by
 rcases h with (h | ⟨o, h⟩) | h
 ·exact .inl (.inl (e _ _ h))
 ·exact .inl (.inr ⟨o, e _ _ h⟩)
 ·exact .inr h
end L2
set_option maxHeartbeats 4000000
namespace L2
open PySem PySem.Spec PyProof.Rows
noncomputable def frees (env : Env) : List (Str × NameKind) → List (Str × Addr) → List (Str × Addr)
 | [], cs => cs
 | (n, k) :: r, cs => if (k == NameKind.free) = true then frees env r ((n, (env.cells.lookup n).getD 0) :: cs) else frees env r cs
theorem frees_sub {env : Env} {x : Str} {c : Addr} : ∀ (l : List (Str × NameKind)) (cs : List (Str × Addr)), (∀ y ∈ l, y.2 = .free → ∃ c, env.cells.lookup y.1 = some c) →
  (∀ c, cs.lookup x = some c → env.cells.lookup x = some c) → (frees env l cs).lookup x = some c → env.cells.lookup x = some c
 | [], cs, _, hc, e => hc c e
 | (n, k) :: r, cs, hl, hc, e => by
  unfold frees at e
  by_cases hk : (k == NameKind.free) = true
  ·rw [if_pos hk] at e
   obtain ⟨d, hd⟩ := hl (n, k) List.mem_cons_self (by simpa using hk)
   have hd' : env.cells.lookup n = some d := hd
   refine frees_sub r _ (fun y hy => hl y (List.mem_cons_of_mem _ hy)) (fun c' e' => ?_) e
   rw [List.lookup_cons] at e'
   cases hx : x == n with
   | true =>
    rw [hx] at e'
    have hxn : x = n := by simpa using hx
    rw [hd'] at e'
    rw [hxn, hd']
    exact e'
   | false =>
    rw [hx] at e'
    exact hc c' e'
  ·rw [if_neg hk] at e
   exact frees_sub r cs (fun y hy => hl y (List.mem_cons_of_mem _ hy)) hc e
theorem frees_has {env : Env} {x : Str} : ∀ (l : List (Str × NameKind)) (cs : List (Str × Addr)), ((x, NameKind.free) ∈ l ∨ ∃ c, cs.lookup x = some c) → ∃ c, (frees env l cs).lookup x = some c
 | [], cs, h => by
  rcases h with h | h
  ·cases h
  ·exact h
 | (n, k) :: r, cs, h => by
  unfold frees
  by_cases hk : (k == NameKind.free) = true
  ·rw [if_pos hk]
   refine frees_has r _ ?_
   rcases h with h | ⟨c, h⟩
   ·rcases List.mem_cons.mp h with e | e
    ·cases e
     exact .inr ⟨(env.cells.lookup x).getD 0, by rw [List.lookup_cons, beq_self_eq_true]⟩
    ·exact .inl e
   ·refine .inr ?_
    rw [List.lookup_cons]
    cases hx : x == n with
    | true => exact ⟨_, rfl⟩
    | false => exact ⟨c, h⟩
  ·rw [if_neg hk]
   refine frees_has r _ ?_
   rcases h with h | h
   ·rcases List.mem_cons.mp h with e | e
    ·cases e
     exact absurd rfl hk
    ·exact .inl e
   ·exact .inr h
theorem relab {env : Env} {x : Str} {k' : NameKind} : ∀ {names : List (Str × NameKind)}, ((names.map fun (n, k) => if (k == NameKind.free && env.scope.kind == .function && env.kindOf n == some .cell) then (n, NameKind.cell) else (n, k)).lookup x = some k') →
  ∃ k, names.lookup x = some k ∧ (k' = k ∨ (k = .free ∧ k' = .cell))
 | [], h => by simp at h
 | (n, k) :: r, h => by
  rw [List.map_cons] at h
  dsimp only at h
  rw [List.lookup_cons]
  by_cases hc : (k == NameKind.free && env.scope.kind == .function && env.kindOf n == some .cell) = true
  ·rw [if_pos hc, List.lookup_cons] at h
   cases hx : x == n with
   | true =>
    rw [hx] at h
    cases h
    have hk : k = .free := by
     rw [Bool.and_eq_true, Bool.and_eq_true] at hc
     simpa using hc.1.1
    exact ⟨k, rfl, .inr ⟨hk, rfl⟩⟩
   | false =>
    rw [hx] at h
    exact relab h
  ·rw [if_neg hc, List.lookup_cons] at h
   cases hx : x == n with
   | true =>
    rw [hx] at h
    cases h
    exact ⟨_, rfl, .inl rfl⟩
   | false =>
    rw [hx] at h
    exact relab h
theorem relab_free {env : Env} {x : Str} : ∀ {names : List (Str × NameKind)}, names.lookup x = some .free →
  (names.map fun (n, k) => if (k == NameKind.free && env.scope.kind == .function && env.kindOf n == some .cell) then (n, NameKind.cell) else (n, k)).lookup x = some .cell ∨
  (names.map fun (n, k) => if (k == NameKind.free && env.scope.kind == .function && env.kindOf n == some .cell) then (n, NameKind.cell) else (n, k)).lookup x = some .free
 | [], h => by simp at h
 | (n, k) :: r, h => by
  rw [List.map_cons]
  dsimp only
  rw [List.lookup_cons] at h
  by_cases hc : (k == NameKind.free && env.scope.kind == .function && env.kindOf n == some .cell) = true
  ·rw [if_pos hc, List.lookup_cons]
   cases hx : x == n with
   | true => exact .inl rfl
   | false =>
    rw [hx] at h
    exact relab_free h
  ·rw [if_neg hc, List.lookup_cons]
   cases hx : x == n with
   | true =>
    rw [hx] at h
    cases h
    exact .inr rfl
   | false =>
    rw [hx] at h
    exact relab_free h
theorem mem_of_look {x : Str} {k : NameKind} : ∀ {l : List (Str × NameKind)}, l.lookup x = some k → (x, k) ∈ l
 | (n, j) :: r, h => by
  rw [List.lookup_cons] at h
  cases hx : x == n with
  | true =>
   rw [hx] at h
   cases h
   have : x = n := by simpa using hx
   rw [this]
   exact List.mem_cons_self
  | false =>
   rw [hx] at h
   exact List.mem_cons_of_mem _ (mem_of_look h)
theorem closure_is {scope : Scope} {env : Env} (h : ∀ x ∈ scope.names, x.2 = .free → ∃ c, env.cells.lookup x.1 = some c) : closureFor scope env = pure (frees env scope.names []) := by
 unfold closureFor
 have key : ∀ (l : List (Str × NameKind)) (cs : List (Str × Addr)), (∀ x ∈ l, x.2 = .free → ∃ c, env.cells.lookup x.1 = some c) →
  (forIn l cs fun (x : Str × NameKind) (r : List (Str × Addr)) => if (x.2 == NameKind.free) = true then do let a ← cellOf env x.1; pure (ForInStep.yield ((x.1, a) :: r)) else pure (ForInStep.yield r) : Sem (List (Str × Addr))) = pure (frees env l cs) := by
  intro l
  induction l with
  | nil => intro cs _; rfl
  | cons x r ih =>
   intro cs hx
   obtain ⟨n, k⟩ := x
   rw [List.forIn_cons]
   dsimp only
   have hr := fun cs => ih cs fun y hy => hx y (List.mem_cons_of_mem _ hy)
   by_cases hk : (k == NameKind.free) = true
   ·obtain ⟨c, hc⟩ := hx (n, k) List.mem_cons_self (by simpa using hk)
    have hc' : env.cells.lookup n = some c := hc
    rw [if_pos hk]
    unfold frees
    rw [if_pos hk]
    have e1 : cellOf env n = pure c := by unfold cellOf; rw [hc']
    rw [e1, hc', ← hr]
    rfl
   ·rw [if_neg hk]
    unfold frees
    rw [if_neg hk, ← hr]
    rfl
 have := key scope.names [] h
 simp only [bind_pure]
 exact this
section
variable {prog : Program} {w : World} {A : Around} {R : Result → Shared → Prop} {s : Shared}
noncomputable def tstAll (ifs : List Expr) (env : Env) : Sem Bool := forIn ifs true fun c r => if r = true then do let ok ← isTrue c env (eval c env); pure (ForInStep.yield ok) else pure (ForInStep.yield r)
theorem compLoop_any {elt tg iter : Expr} {ifs : List Expr} {scope : Scope} {pos : Pos} {it acc : Value} {env : Env} (J : Nat → Shared → Prop)
  (turn : ∀ n s, J n s → wpAny (model prog w) A (pyNext it) (fun r s1 => match r with
   | none => R (.ok .next) s1
   | some v => wpAny (model prog w) A (letOwnedTupleGo tg it v) (fun _ s2 => wpAny (model prog w) A (assign tg env v) (fun _ s3 => wpAny (model prog w) A (tstAll ifs env) (fun ok s4 =>
     if ok = true then wpAny (model prog w) A (eval elt env) (fun x s5 => wpAny (model prog w) A (call (.builtin "list.append") [acc, x]) (fun _ s6 => ∃ m, m < n ∧ J m s6) (fun _ _ => False) s5) (fun _ _ => False) s4
     else ∃ m, m < n ∧ J m s4) (fun _ _ => False) s3) (fun _ _ => False) s2) (fun _ _ => False) s1) (fun _ _ => False) s)
  (n : Nat) (h : J n s) : codeAny (model prog w) A (.compLoop (.ListComp elt [⟨tg, iter, ifs, 0⟩] scope pos) 0 it acc env) R s := by
 refine codeAny_loop rfl J (fun n s hJ => ?_) n h
 have no : ∀ (P : Value → Shared → Prop) (e : Value) (s' : Shared), False → P e s' := fun _ _ _ f => f.elim
 show wpAny _ A ((compTurn (.ListComp elt [⟨tg, iter, ifs, 0⟩] scope pos) 0 it acc env).onRaise (fun x => do noteFrame x env; theTreesLotGoes x)) _ _ s
 refine wpAny_noted ?_
 rw [compTurn_list]
 refine wpAny_bind (wpAny_standAt (wpAny_bind (wpAny_mono (turn n s hJ) (fun r s1 h1 => ?_) fun e s' f => f.elim)))
 cases r with
 | none => exact wpAny_pure h1
 | some v =>
  refine wpAny_bind (wpAny_mono h1 (fun _ s2 h2 => ?_) fun e s' f => f.elim)
  refine wpAny_bind (wpAny_mono h2 (fun _ s3 h3 => ?_) fun e s' f => f.elim)
  refine wpAny_bind (wpAny_mono h3 (fun ok s4 h4 => ?_) fun e s' f => f.elim)
  cases ok with
  | false => exact wpAny_pure ⟨rfl, h4⟩
  | true =>
   refine wpAny_bind (wpAny_bind (wpAny_mono h4 (fun x s5 h5 => ?_) fun e s' f => f.elim))
   exact wpAny_bind (wpAny_mono h5 (fun _ s6 h6 => wpAny_pure (wpAny_pure ⟨rfl, h6⟩)) fun e s' f => f.elim)
end
noncomputable def cxB (X : Cx) (N : List Str) (scope : Scope) (s : Shared) (H : Hp) (C : Addr) (ex : List Addr) (pins : List (Addr × Obj)) : Cx :=
 { X with N := N, s₀ := s, H₀ := H, env := compEnvC scope (frees X.env scope.names []) C X.env, outer := X.stack, ex := ex, fn := fun _ => false, pn := X.pn ++ pins, xe := fun _ _ => False }
noncomputable def OutsOk (X : Cx) (scope : Scope) : List (Nat × Str) → Prop
 | [] => True
 | p :: r => (X.N[p.1]? = some p.2 ∧ scope.names.lookup p.2 = some .free) ∧ OutsOk X scope r
theorem OutsOk.get {X : Cx} {scope : Scope} : ∀ {outs : List (Nat × Str)} {j : Nat} {p : Nat × Str}, OutsOk X scope outs → outs[j]? = some p → X.N[p.1]? = some p.2 ∧ scope.names.lookup p.2 = some .free
 | [], _, _, _, e => by simp at e
 | q :: r, 0, p, h, e => by
  simp at e
  subst e
  exact h.1
 | q :: r, j + 1, p, h, e => OutsOk.get (j := j) h.2 (by simpa using e)
structure Blk (X : Cx) (sc scope : Scope) (outs : List (Nat × Str)) : Prop where
 hsc : X.env.scope = sc
 kind : scope.kind = .function
 loc : ∀ x ∈ scope.names, x.2 = .local → scope.names.lookup x.1 = some .local
 nocell : ∀ x ∈ scope.names, x.2 ≠ .cell
 fr : ∀ x ∈ scope.names, x.2 = .free → sc.names.lookup x.1 = some .cell ∨ sc.names.lookup x.1 = some .free
 out : OutsOk X scope outs
noncomputable def slots (k : Nat) (outs : List (Nat × Str)) (σ : St) : St := List.replicate k none ++ outs.map fun p => (σ[p.1]?).join
noncomputable def Knows : St → St → Prop
 | [], [] => True
 | none :: r, _ :: r' => Knows r r'
 | some v :: r, w :: r' => w = some v ∧ Knows r r'
 | _, _ => False
theorem Knows.len : ∀ {σ σ' : St}, Knows σ σ' → σ.length = σ'.length
 | [], [], _ => rfl
 | none :: r, _ :: r', h => by
  have := Knows.len (σ := r) (σ' := r') h
  simp [this]
 | some v :: r, w :: r', h => by
  have := Knows.len (σ := r) (σ' := r') h.2
  simp [this]
theorem Knows.get : ∀ {σ σ' : St} {i : Nat} {v : V}, Knows σ σ' → σ[i]? = some (some v) → σ'[i]? = some (some v)
 | [], _, _, _, _, e => by simp at e
 | none :: r, w :: r', 0, v, _, e => by simp at e
 | none :: r, w :: r', i + 1, v, h, e => by
  have := Knows.get (σ := r) (σ' := r') (i := i) (v := v) h (by simpa using e)
  simpa using this
 | some u :: r, w :: r', 0, v, h, e => by
  simp at e
  rw [h.1]
  simp [e]
 | some u :: r, w :: r', i + 1, v, h, e => by
  have := Knows.get (σ := r) (σ' := r') (i := i) (v := v) h.2 (by simpa using e)
  simpa using this
noncomputable def PF (X : Cx) (ifs : List Expr) (t : TT) : Prop :=
 ∀ (pins : List (Addr × Obj)) (s : Shared) (σ : St) (H : Hp) (Q : Bool → Hp → Prop), Inv X pins σ H s → t σ H Q → wpAny (model X.prog X.w) X.A (tstAll ifs X.env) (TP X pins σ Q) X.xe s
theorem pf_one {X : Cx} {c : Expr} {t : TT} (h : PT X c t) : PF X [c] t := fun pins s σ H Q I q => wpAny_tests_one (h pins s σ H Q I q)
noncomputable abbrev BlkN (tc : TT) (te : TE) (σ0 : St) (D : Addr) (acc : List V) (N : List V → Hp → Prop) : St → Hp → Prop := fun σ2 H3 => Knows σ0 σ2 ∧ tc σ2 H3 fun b H4 =>
 if b = true then te σ2 H4 fun y H5 => H5 D = some (.lst acc) ∧ acc.length < sizeLine ∧ N (acc ++ [y]) (upd H5 D (.lst (acc ++ [y]))) else N acc H4
noncomputable def BlkW (J : It) (g : TG) (tc : TT) (te : TE) (σ0 : St) (D : Addr) (H1 : Hp) (Q : Hp → Prop) : Prop :=
 ∃ W : Nat → Nat → List V → Hp → Prop, (∃ m, W 0 m [] (upd H1 D (.lst []))) ∧ ∀ i m acc H', W i m acc H' →
  (J.stop i H' ∧ Q H') ∨ (J.go i H' ∧ ∃ N : List V → Hp → Prop, (∀ acc' H2, N acc' H2 → ∃ m', m' < m ∧ W (i + 1) m' acc' H2) ∧ ∀ x H2, J.yld i H' x H2 → g x σ0 H2 (BlkN tc te σ0 D acc N))
section
variable {X : Cx} {sc scope : Scope} {own : List Str} {outs : List (Nat × Str)} {elt tg iter : Expr} {ifs : List Expr} {pos : Pos} {g : TG} {tc : TT} {te : TE}
theorem blk_free (B : Blk X sc scope outs) {pins : List (Addr × Obj)} {σ : St} {H : Hp} {s : Shared} (I : Inv X pins σ H s) : ∀ x ∈ scope.names, x.2 = .free → ∃ c, X.env.cells.lookup x.1 = some c := fun x hx hf => by
 refine I.ok.has x.1 ?_
 show X.env.scope.names.lookup x.1 = _ ∨ X.env.scope.names.lookup x.1 = _
 rw [B.hsc]
 exact B.fr x hx hf
theorem blk_inv (B : Blk X sc scope outs) {pins : List (Addr × Obj)} {σ : St} {H : Hp} {s : Shared} {fp : List Addr} (I : Inv X pins σ H s) (f2 : ∀ b ∈ fp, FpOk X pins H b) (fo : ∀ b ∈ fp, ∃ o, s.heap.get? b = some o)
  {h1 : Heap} {m : Str → Option Value} {tk : Nat} (hn : h1.Ns (s.heap.objs.size + 1) m) (old : ∀ b o, s.heap.get? b = some o → h1.get? b = some o)
  (hD : h1.get? s.heap.objs.size = some { cls := .type "list", data := .seq #[] 0 }) :
  Inv (cxB X (own ++ outs.map (·.2)) scope s H (s.heap.objs.size + 1) fp pins) [] (slots own.length outs σ) (upd H s.heap.objs.size (.lst [])) { s with heap := h1, toks := tk } := by
 have bf := blk_free B I
 have sub : ∀ x c, (frees X.env scope.names []).lookup x = some c → X.env.cells.lookup x = some c := fun x c e => frees_sub _ _ bf (fun c' e' => by simp at e') e
 have clt : ∀ x c, X.env.cells.lookup x = some c → c < s.heap.objs.size := fun x c e => (let ⟨v, q⟩ := I.cell x c e; q.lt)
 have flt : ∀ b ∈ fp, b < s.heap.objs.size := fun b hb => (let ⟨o, e⟩ := fo b hb; Heap.lt_size e)
 have un : Un (cxB X (own ++ outs.map (·.2)) scope s H (s.heap.objs.size + 1) fp pins).fs (cxB X (own ++ outs.map (·.2)) scope s H (s.heap.objs.size + 1) fp pins).ex H (upd H s.heap.objs.size (.lst [])) s.heap h1 := Un.laid old (Nat.le_refl _) I.fresh
 have hok : HOk X.prog X.w (upd H s.heap.objs.size (.lst [])) h1 := I.hok.laid old (Nat.le_refl _) ⟨Nat.zero_le _, [], 0, .nil, hD⟩
 refine ⟨⟨I.ok.mod, B.kind, I.ok.glob, I.ok.blt, Nat.le_succ _, fun x y c e1 e2 => I.ok.inj x y c (sub x c e1) (sub y c e2), fun x hx => ?_, fun x c hf => ?_, I.ok.hd, I.ok.frames, .inl rfl, fun b hb => ⟨?_, fun x c e => ?_⟩, I.bs, ?_, fun b o e hb => ?_, fun b hb z => ?_, I.stack, I.stkFree⟩,
  rfl, I.bare, un, ⟨m, hn, fun i x v e1 e2 e3 => ?_⟩, fun x c e => ?_, ?_, fun x c e => ?_, fun p hp => ?_, hok, ?_⟩
 ·obtain ⟨k, e, hk⟩ : ∃ k, scope.names.lookup x = some k ∧ k = .free := by
   rcases hx with hx | hx
   ·obtain ⟨k, e, hk⟩ := relab (show ((scope.names.map _).lookup x = some .cell) from hx)
    rcases hk with hk | hk
    ·exact absurd hk.symm (B.nocell _ (mem_of_look e))
    ·exact ⟨k, e, hk.1⟩
   ·obtain ⟨k, e, hk⟩ := relab (show ((scope.names.map _).lookup x = some .free) from hx)
    rcases hk with hk | hk
    ·exact ⟨k, e, hk.symm⟩
    ·exact ⟨k, e, hk.1⟩
  subst hk
  exact frees_has _ _ (.inl (mem_of_look e))
 ·cases hf
 ·exact Nat.ne_of_lt (Nat.lt_succ_of_lt (flt b hb))
 ·exact (f2 b hb).2.2.2.2.1 x c (sub x c e)
 ·exact Nat.le_trans I.ok.bsz I.sz
 ·rcases (f2 b hb).2.2.2.1 with z | z
  ·exact I.ok.noex b o e z
  ·exact absurd (Nat.lt_of_lt_of_le (Heap.lt_size e) (Nat.le_trans I.ok.bsz z)) (Nat.lt_irrefl _)
 ·rcases List.mem_cons.mp (I.stkSub b z) with q | q
  ·exact (f2 b hb).2.1 q
  ·exact (f2 b hb).2.2.1 q
 ·
  have hi : own.length ≤ i := by
   by_cases hi : own.length ≤ i
   ·exact hi
   ·have e2' : (slots own.length outs σ)[i]? = some (some v) := e2
    unfold slots at e2'
    rw [List.getElem?_append_left (by simpa using Nat.lt_of_not_le hi), List.getElem?_replicate] at e2'
    split at e2' <;> cases e2'
  have e1' : (own ++ outs.map (·.2))[i]? = some x := e1
  have e2' : (slots own.length outs σ)[i]? = some (some v) := e2
  unfold slots at e2'
  rw [List.getElem?_append_right hi, List.getElem?_map] at e1'
  rw [List.getElem?_append_right (by simpa using hi), List.length_replicate, List.getElem?_map] at e2'
  cases ep : outs[i - own.length]? with
  | none =>
   rw [ep] at e1'
   cases e1'
  | some p =>
   rw [ep] at e1' e2'
   have ex : p.2 = x := Option.some.inj e1'
   have ev : (σ[p.1]?).join = some v := Option.some.inj e2'
   obtain ⟨o1, o2⟩ := B.out.get ep
   have es : σ[p.1]? = some (some v) := by
    cases q : σ[p.1]? with
    | none =>
     rw [q] at ev
     cases ev
    | some w =>
     rw [q] at ev
     have ew : w = some v := ev
     rw [ew]
   rw [ex] at o1 o2
   have hk : X.env.scope.names.lookup x = some .cell ∨ X.env.scope.names.lookup x = some .free := by
    rw [B.hsc]
    exact B.fr (x, .free) (mem_of_look o2) rfl
   obtain ⟨m0, hn0, hl0⟩ := I.loc
   obtain ⟨u, r, l⟩ := hl0 p.1 x v o1 es (hk.elim (fun z => .inr (.inl z)) fun z => .inr (.inr z))
   refine ⟨u, r, .inr ?_⟩
   rcases l with ⟨hl, _⟩ | ⟨_, c, ec, hc⟩
   ·have hl' : X.env.scope.names.lookup x = some .local := hl
    rcases hk with z | z <;> (rw [z] at hl'; cases hl')
   ·obtain ⟨c', ec'⟩ := frees_has (env := X.env) (x := x) scope.names [] (.inl (mem_of_look o2))
    have e3 := sub x c' ec'
    rw [ec] at e3
    cases e3
    obtain ⟨oc, q1, q2⟩ := hc
    exact ⟨relab_free o2, c, ec', ⟨oc, old _ _ q1, q2⟩⟩
 ·obtain ⟨v, oc, q1, q2⟩ := I.cell x c (sub x c e)
  exact ⟨v, oc, old _ _ q1, q2⟩
 ·show upd H s.heap.objs.size (.lst []) (s.heap.objs.size + 1) = none
  rw [upd_ne (Nat.succ_ne_self _)]
  exact I.hok.fresh (Nat.le_succ _)
 ·rw [upd_ne (Nat.ne_of_lt (clt x c (sub x c e)))]
  exact I.freeC x c (sub x c e)
 ·have hp' : p ∈ X.pn ++ pins := by
   have : p ∈ (X.pn ++ pins) ++ [] := hp
   simpa using this
  obtain ⟨q1, q2, q3, q4, q5⟩ := I.pin p hp'
  refine ⟨old _ _ q1, ?_, Nat.ne_of_lt (Nat.lt_succ_of_lt (Heap.lt_size q1)), fun z => ?_, q5⟩
  ·rw [upd_ne (Nat.ne_of_lt (Heap.lt_size q1))]
   exact q2
  ·rcases List.mem_cons.mp (I.stkSub p.1 z) with q | q
   ·exact q3 q
   ·exact q4 q
 ·show (slots own.length outs σ).length = (own ++ outs.map (·.2)).length
  unfold slots
  simp
theorem blk_run (B : Blk X sc scope outs) (hcalm : X.calm = true)
  (hg : ∀ s H C ex pins, PG (cxB X (own ++ outs.map (·.2)) scope s H C ex pins) tg g) (hc : ∀ s H C ex pins, PF (cxB X (own ++ outs.map (·.2)) scope s H C ex pins) ifs tc) (he : ∀ s H C ex pins, PE (cxB X (own ++ outs.map (·.2)) scope s H C ex pins) elt te)
  {pins : List (Addr × Obj)} {σ : St} {H : Hp} {s : Shared} {it : Addr} {fp : List Addr} {tn : Nat → Heap → Prop} {J : It} (I : Inv X pins σ H s) (T : Turn X.prog X.w X.K tg J fp it tn) (st : tn 0 s.heap) (f2 : ∀ b ∈ fp, FpOk X pins H b)
  {R0 : Addr → Hp → Prop} (hW : ∀ D, H D = none → BlkW J g tc te (slots own.length outs σ) D H (R0 D)) {RR : Value → Addr → Result → Shared → Prop} {E : Value → Shared → Prop}
  (fin : ∀ D C H' s' m, Inv X pins σ H' s' → FpOk X pins H' C → s'.heap.Ns C m → R0 D H' → RR (.ref D) C (.ok .next) s') :
  wpAny (model X.prog X.w) X.A (newList []) (fun acc s3 => wpAny (model X.prog X.w) X.A (newFunctionEnv scope X.env.globals (frees X.env scope.names []) [] X.env.qual none .none (some X.env)) (fun cenv s4 =>
   codeAny (model X.prog X.w) X.A (.compStart (.ListComp elt [⟨tg, iter, ifs, 0⟩] scope pos) 0 (.ref it) acc { cenv with scope := relabel scope X.env }) (RR acc cenv.locals) s4) E s3) E s := by
 refine wpAny_newObj_type (wpAny_newFunctionEnv B.nocell (by intro y hy; simp at hy) (fun h1 hn1 hs1 => ?_) B.kind)
 dsimp only at hn1 hs1 ⊢
 have hz : (s.heap.push { cls := .type "list", dict := none, data := .seq ([] : List Value).toArray }).objs.size = s.heap.objs.size + 1 := Heap.size_push ..
 rw [hz] at hn1 hs1
 simp only [hz]
 have fo : ∀ b ∈ fp, ∃ o, s.heap.get? b = some o := fun b hb => (let ⟨o, e, _⟩ := T.obj 0 _ st b hb; ⟨o, e⟩)
 have old : ∀ b o, s.heap.get? b = some o → h1.get? b = some o := fun b o e =>
  hs1.extBut b o (Nat.ne_of_lt (Nat.lt_succ_of_lt (Heap.lt_size e))) (Heap.get?_push_of_some _ (Heap.get?_push_of_some _ e))
 have hD : h1.get? s.heap.objs.size = some { cls := .type "list", data := .seq #[] 0 } := hs1.extBut _ _ (Nat.ne_of_lt (Nat.lt_succ_self _)) (Heap.get?_push_of_some _ (Heap.get?_push_size _ rfl))
 have I1 := blk_inv (own := own) (tk := s.toks + ([] : List (Str × Value)).length) B I f2 fo hn1 old hD
 have st1 : tn 0 h1 := T.keep _ _ _ st fun b _ o e => old b o e
 obtain ⟨W, ⟨m0, w0⟩, turn⟩ := hW _ I.fresh
 have fpB : ∀ {H' : Hp}, (∀ b ∈ fp, H' b = none) → ∀ b ∈ fp, FpOk (cxB X (own ++ outs.map (·.2)) scope s H (s.heap.objs.size + 1) fp pins) [] H' b := fun hn b hb => by
  obtain ⟨o, eo⟩ := fo b hb
  refine ⟨hn b hb, Nat.ne_of_lt (Nat.lt_succ_of_lt (Heap.lt_size eo)), I1.ok.exfs b hb, .inl hb, fun x c e => (I1.ok.exf b hb).2 x c e, fun p hp => ?_⟩
  have hp' : p ∈ X.pn ++ pins := by
   have : p ∈ (X.pn ++ pins) ++ [] := hp
   simpa using this
  exact (f2 b hb).2.2.2.2.2 p hp'
 have loop : ∀ s0 : Shared, s0 = { s with heap := h1, toks := s.toks + ([] : List (Str × Value)).length } →
   codeAny (model X.prog X.w) X.A (.compLoop (.ListComp elt [⟨tg, iter, ifs, 0⟩] scope pos) 0 (.ref it) (.ref s.heap.objs.size) (compEnvC scope (frees X.env scope.names []) (s.heap.objs.size + 1) X.env)) (RR (.ref s.heap.objs.size) (s.heap.objs.size + 1)) s0 := by
  rintro s0 rfl
  refine compLoop_any (fun n s' => ∃ i acc H', Inv (cxB X (own ++ outs.map (·.2)) scope s H (s.heap.objs.size + 1) fp pins) [] (slots own.length outs σ) H' s' ∧ tn i s'.heap ∧ (∀ b ∈ fp, H' b = none) ∧ W i n acc H') ?_ m0
   ⟨0, [], _, I1, st1, fun b hb => ?_, w0⟩
  ·rintro n s3 ⟨i, acc, H3, I3, st3, fr3, w3⟩
   rcases turn i n acc H3 w3 with ⟨stop, q⟩ | ⟨go, N, hN, step⟩
   ·refine thn (T.done (cxB X (own ++ outs.map (·.2)) scope s H (s.heap.objs.size + 1) fp pins) rfl rfl rfl hcalm i [] s3 _ H3 (fun _ _ => False) I3 (fpB fr3) st3 stop) fun r s4 ⟨hr, I4⟩ => ?_
    subst hr
    have IX : Inv X pins σ H3 s4 := I.call' (ch := fp) I4.os I4.base I4.hok I4.bare fun b hb => ⟨(f2 b hb).2.2.2.1, (f2 b hb).2.1, (f2 b hb).2.2.2.2.1, (f2 b hb).2.2.2.2.2⟩
    obtain ⟨m4, hn4, _⟩ := I4.loc
    exact fin _ _ H3 s4 m4 IX (I.fpOk (Nat.le_succ _) I4.free) hn4 q
   ·refine thn (T.item (cxB X (own ++ outs.map (·.2)) scope s H (s.heap.objs.size + 1) fp pins) rfl rfl rfl hcalm i [] s3 _ H3 (fun _ _ => False) I3 (fpB fr3) st3 go) fun r s4 ⟨u, hr, h4⟩ => ?_
    subst hr
    refine thn h4 fun _ s5 ⟨x, H5, I5, r5, y5, st5, fr5⟩ => ?_
    have I5' := I5.pinned (fpB fr5) (T.obj _ _ st5)
    have back : ∀ {σ6 : St} {H6 : Hp} {s6 : Shared} {acc' : List V}, Inv (cxB X (own ++ outs.map (·.2)) scope s H (s.heap.objs.size + 1) fp pins) ([] ++ pinsAt fp s5.heap) σ6 H6 s6 → Knows (slots own.length outs σ) σ6 → N acc' H6 →
      ∃ m, m < n ∧ ∃ i acc H', Inv (cxB X (own ++ outs.map (·.2)) scope s H (s.heap.objs.size + 1) fp pins) [] (slots own.length outs σ) H' s6 ∧ tn i s6.heap ∧ (∀ b ∈ fp, H' b = none) ∧ W i m acc H' := fun {σ6 H6 s6 acc'} I6 hs hn6 => by
     obtain ⟨m', hm, hw⟩ := hN acc' H6 hn6
     refine ⟨m', hm, i + 1, acc', H6, I6.unpinned.weak hs.len fun j v e => hs.get e, T.keep _ _ _ st5 fun b hb o e => (I6.pin (b, o) (List.mem_append_right _ (List.mem_append_right _ (mem_pinsAt hb e)))).1, fun b hb => ?_, hw⟩
     obtain ⟨o, e, _⟩ := T.obj _ _ st5 b hb
     exact (I6.pin (b, o) (List.mem_append_right _ (List.mem_append_right _ (mem_pinsAt hb e)))).2.1
    refine thn (hg s H _ fp pins _ s5 _ H5 x u _ I5' r5 (step x H5 y5)) fun _ s6 ⟨σ6, H6, I6, hs6, q6⟩ => ?_
    refine thn (hc s H _ fp pins _ s6 σ6 H6 _ I6 q6) fun b s7 ⟨H7, I7, q7⟩ => ?_
    cases b with
    | false =>
     exact back I7 hs6 q7
    | true =>
     refine thn (he s H _ fp pins _ s7 σ6 H7 _ I7 q7) fun yv s8 ⟨y, H8, I8, r8, hd8, hl8, hw⟩ => ?_
     refine thn (mt_append _ s8 σ6 H8 (.ref s.heap.objs.size) [y] (.ref s.heap.objs.size) [yv] (fun _ H9 => H9 = upd H8 s.heap.objs.size (.lst (acc ++ [y]))) I8 rfl (.cons r8 .nil) ⟨_, acc, y, rfl, rfl, hd8, hl8, rfl⟩) fun z s9 ⟨zv, H9, I9, _, q9⟩ => ?_
     subst q9
     exact back I9 hs6 hw
  ·obtain ⟨o, eo⟩ := fo b hb
   rw [upd_ne (Nat.ne_of_lt (Heap.lt_size eo))]
   exact (f2 b hb).1
 exact codeAny_compStart_list (loop _ rfl) (T.self X.A 0 _ _ _ st1 (loop _ rfl))
noncomputable def tComp (wi : TI) (g : TG) (tc : TT) (te : TE) (k : Nat) (outs : List (Nat × Str)) : TE := fun σ H Q => wi σ H fun J H1 => ∀ D, H1 D = none → BlkW J g tc te (slots k outs σ) D H1 fun H' => Q (.ref D) H'
theorem ps_setC {wi : TI} {i : Nat} {x : Str} {pos' spos : Pos} (own : List Str) (hN : X.N.Nodup) (hix : X.N[i]? = some x) (hx : Loc X.env.scope x) (B : Blk X sc scope outs) (hcalm : X.calm = true) (hi : PI X tg iter wi)
  (hg : ∀ s H C ex pins, PG (cxB X (own ++ outs.map (·.2)) scope s H C ex pins) tg g) (hc : ∀ s H C ex pins, PF (cxB X (own ++ outs.map (·.2)) scope s H C ex pins) ifs tc) (he : ∀ s H C ex pins, PE (cxB X (own ++ outs.map (·.2)) scope s H C ex pins) elt te)
  (hsw : swapsWith (.ListComp elt [⟨tg, iter, ifs, 0⟩] scope pos) (some (.Name x pos')) spos.line X.env = pure true := by rfl)
  (hs : ∀ x, foldedSetIterable iter X.env x = pure x := by intro _; rfl) (hf : X.fn x = true ∨ X.env.scope.names.lookup x = some .local := by first | exact .inl rfl | exact .inr rfl | assumption) :
  PS X (.Assign [.Name x pos'] (.ListComp elt [⟨tg, iter, ifs, 0⟩] scope pos) spos) (tAsg (tComp wi g tc te own.length outs) (gName i)) := by
 intro pins s σ H D0 I h
 rw [exec_Assign_Name_used _ _ _ _ hsw]
 refine wpAny_bind (wpAny_standAt (wpAny_bind ?_))
 show wpAny _ X.A (do let _ ← comprehension (.ListComp elt [⟨tg, iter, ifs, 0⟩] scope pos) scope X.env _ (newList []) false (eval iter X.env) (some (assign (.Name x pos') X.env))) _ _ s
 refine wpAny_bind (thn (wpAny_comprehension_free (use := some (assign (.Name x pos') X.env)) (Q := fun _ s' => SP X pins D0 .next s') rfl hs (closure_is (blk_free B I)) B.kind B.loc ?_) fun _ s' hq => wpAny_pure (wpAny_pure hq))
 refine thn (hi pins s σ H _ I h) fun v s1 h1 => thn h1 fun itv s2 h2 => ?_
 obtain ⟨it, fp, tn, J, H2, e, I2, T, st2, f2, hW⟩ := h2
 subst e
 refine blk_run (RR := fun acc C => compPost (model X.prog X.w) X.A X.xe (some (assign (.Name x pos') X.env)) (fun _ s' => SP X pins D0 .next s') acc C) B hcalm hg hc he I2 T st2 f2 hW ?_
 intro D C H' s' m I' hC hn q
 obtain ⟨c0, c1, c2, c3, c4, c5⟩ := hC
 obtain ⟨oC, es, ep, hoC, hdC, hr⟩ := id hn
 have IC : Inv X (pins ++ [(C, oC)]) σ H' s' := I'.pins_of fun p hp => (List.mem_append.mp hp).elim (fun z => I'.pin p (List.mem_append_right _ z)) fun z => by
  have ep : p = (C, oC) := by simpa using z
  subst ep
  exact ⟨hoC, c0, c1, c2, fun v z => by rw [hdC] at z; cases z⟩
 show wpAny _ X.A (assign (.Name x pos') X.env (.ref D)) _ _ s'
 refine wpAny_assign_Name (store_ok (v := .ref D) IC hN hix hx rfl (fun s3 I3 => ?_) hf)
 have hC3 : s3.heap.get? C = some oC := (I3.pin (C, oC) (List.mem_append_right _ (List.mem_append_right _ (by simp)))).1
 refine ⟨m, ⟨oC, es, ep, hC3, hdC, hr⟩, fun h' hs' => ?_⟩
 exact ⟨_, H', I3.unpinned.turned (t' := s3.toks) (fun b o hb e => (hs'.2 b hb).trans e) c0 c1 c3 c4 c5, q⟩
end
end L2
namespace L2
open PySem PySem.Spec PyProof.Rows
mutual
inductive Rep (K : PySem.W.Frag) (H : Hp) : V → PyData → Prop
 | non : Rep K H .non .none
 | bl (b : Bool) : Rep K H (.bl b) (.bool b)
 | int (i : Int) : Rep K H (.int i) (.int i)
 | str (x : Str) : Rep K H (.str x) (.str x)
 | lst {a : Addr} {xs : List V} {ds : List PyData} : SqL K H a xs → RepAll K H xs ds → Rep K H (.ref a) (.list ds)
 | tup {a : Addr} {xs : List V} {ds : List PyData} : SqT K H a xs → RepAll K H xs ds → Rep K H (.ref a) (.tuple ds)
inductive RepAll (K : PySem.W.Frag) (H : Hp) : List V → List PyData → Prop
 | nil : RepAll K H [] []
 | cons {v : V} {vs : List V} {d : PyData} {ds : List PyData} : Rep K H v d → RepAll K H vs ds → RepAll K H (v :: vs) (d :: ds)
end
theorem sameT {K : PySem.W.Frag} {H H' : Hp} {a : Addr} {xs : List V} (e : Same H H') (h : SqT K H a xs) : SqT K H' a xs := by
 rcases h with (h | ⟨o, h⟩) | h
 ·exact .inl (.inl (e _ _ h))
 ·exact .inl (.inr ⟨o, e _ _ h⟩)
 ·exact .inr h
mutual
theorem Rep.same {K : PySem.W.Frag} {H H' : Hp} (e : Same H H') {v : V} {d : PyData} : Rep K H v d → Rep K H' v d
 | .non => .non
 | .bl b => .bl b
 | .int i => .int i
 | .str x => .str x
 | .lst h r => .lst (e.seq h) (RepAll.same e r)
 | .tup h r => .tup (sameT e h) (RepAll.same e r)
theorem RepAll.same {K : PySem.W.Frag} {H H' : Hp} (e : Same H H') {vs : List V} {ds : List PyData} : RepAll K H vs ds → RepAll K H' vs ds
 | .nil => .nil
 | .cons h r => .cons (Rep.same e h) (RepAll.same e r)
end
mutual
theorem Rep.reads {X : Cx} {pins : List (Addr × Obj)} {σ : St} {H : Hp} {s : Shared} (I : Inv X pins σ H s) {v : V} {d : PyData} : ∀ {u : Value}, Rep X.K H v d → RelV v u → ∃ as, Reads s.heap u d as
 | _, .non, r => by
  cases r
  exact ⟨_, .none⟩
 | _, .bl b, r => by
  cases r
  exact ⟨_, .bool b⟩
 | _, .int i, r => by
  obtain ⟨t, rfl⟩ := r
  exact ⟨_, .int i t⟩
 | _, .str x, r => by
  obtain ⟨t, rfl⟩ := r
  exact ⟨_, .str x t⟩
 | _, .lst h ra, r => by
  cases r
  obtain ⟨its, rv, pl, hz⟩ := I.list h
  obtain ⟨as, ha⟩ := RepAll.reads I ra rv
  obtain ⟨o, e, c, n, dd⟩ := pl.isList
  exact ⟨_, .list e c dd (by simpa using ha)⟩
 | _, .tup h ra, r => by
  cases r
  obtain ⟨its, rv, pl, hz⟩ := I.tuple h
  obtain ⟨as, ha⟩ := RepAll.reads I ra rv
  obtain ⟨o, e, c, n, dd⟩ := (show s.heap.IsTuple _ its.toArray from pl)
  exact ⟨_, .tuple e c dd (by simpa using ha)⟩
theorem RepAll.reads {X : Cx} {pins : List (Addr × Obj)} {σ : St} {H : Hp} {s : Shared} (I : Inv X pins σ H s) {vs : List V} {ds : List PyData} : ∀ {us : List Value}, RepAll X.K H vs ds → Vals vs us → ∃ as, ReadsAll s.heap us ds as
 | _, .nil, .nil => ⟨_, .nil⟩
 | _, .cons h r, .cons q t => by
  obtain ⟨as, ha⟩ := Rep.reads I h q
  obtain ⟨bs, hb⟩ := RepAll.reads I r t
  exact ⟨_, .cons ha hb⟩
end
noncomputable def rEqD (K : PySem.W.Frag) : R2 := fun x y H Q => ∃ d e, Rep K H x d ∧ Rep K H y e ∧ SeqAt.shaped d = true ∧ SeqAt.shaped e = true ∧ Q (.bl (PyData.eqv d e)) H
noncomputable def rNeD (K : PySem.W.Frag) : R2 := fun x y H Q => ∃ d e, Rep K H x d ∧ Rep K H y e ∧ SeqAt.shaped d = true ∧ SeqAt.shaped e = true ∧ Q (.bl (!PyData.eqv d e)) H
theorem op_eqD {X : Cx} (hu : X.A.units + 64 < cLine) : OpR X (compareOp .Eq) (rEqD X.K) := by
 intro pins s σ H x y v u Q I rx ry h
 obtain ⟨d, e, h1, h2, s1, s2, q⟩ := h
 obtain ⟨as, r1⟩ := h1.reads I rx
 obtain ⟨bs, r2⟩ := h2.reads I ry
 exact eq_dataH r1 r2 s1 s2 hu ⟨.bl _, H, I, rfl, q⟩
theorem op_neD {X : Cx} (hu : X.A.units + 64 < cLine) : OpR X (compareOp .NotEq) (rNeD X.K) := by
 intro pins s σ H x y v u Q I rx ry h
 obtain ⟨d, e, h1, h2, s1, s2, q⟩ := h
 obtain ⟨as, r1⟩ := h1.reads I rx
 obtain ⟨bs, r2⟩ := h2.reads I ry
 exact ne_dataH r1 r2 s1 s2 hu ⟨.bl _, H, I, rfl, q⟩
theorem boot_isinstance' : bootBuiltins "isinstance" = some (.builtin "isinstance") := by decide +kernel
theorem call_maxL {X : Cx} (hc : X.calm = true) : CallR X (.builtin "max") (fun xs H Q => ∃ (a : Addr) (ns : List Int), xs = [.ref a] ∧ SqL X.K H a (ns.map V.int) ∧ 0 < ns.length ∧ ∀ M, M ∈ ns → (∀ z, z ∈ ns → z ≤ M) → Q (.int M) H) := by
 intro pins s σ H xs us Q I r h
 obtain ⟨a, ns, rfl, hq, hl, q⟩ := h
 obtain ⟨u, rfl, ru⟩ := Vals.one r
 cases ru
 obtain ⟨its, rv, pl, hz⟩ := I.list hq
 have hi : IntsAre its ns := intsAre_of rv
 obtain ⟨ys, e⟩ := hi.allInts.items
 have hns : ns = ys.toList.map (·.1) := by
  rw [← hi.numsOf, ← nums_intItems, ← e]
 have hsz : 0 < ys.size := by
  have h3 := hl
  rw [hns, List.length_map, Array.length_toList] at h3
  exact h3
 have hL := pl.isList
 rw [e] at hL
 refine max_intList (I.ok.hd hc) hL hsz fun v h' tk hv hk => ?_
 obtain ⟨t, rfl⟩ := intItems_at hv
 obtain ⟨h1, h2⟩ := argBest_gt (numAt ys) (ys.size - 1)
 refine ⟨.int _, H, I.kept hk, ⟨t, rfl⟩, q _ ?_ fun z hzz => ?_⟩
 ·rw [hns, numAt_eq]
  exact getD_mem (by rw [List.length_map, Array.length_toList]; lia)
 ·rw [hns] at hzz
  obtain ⟨j, hj, rfl⟩ := mem_getD hzz
  rw [List.length_map, Array.length_toList] at hj
  rw [← numAt_eq]
  exact h2 j (by lia)
theorem call_minL {X : Cx} (hc : X.calm = true) : CallR X (.builtin "min") (fun xs H Q => ∃ (a : Addr) (ns : List Int), xs = [.ref a] ∧ SqL X.K H a (ns.map V.int) ∧ 0 < ns.length ∧ ∀ M, M ∈ ns → (∀ z, z ∈ ns → M ≤ z) → Q (.int M) H) := by
 intro pins s σ H xs us Q I r h
 obtain ⟨a, ns, rfl, hq, hl, q⟩ := h
 obtain ⟨u, rfl, ru⟩ := Vals.one r
 cases ru
 obtain ⟨its, rv, pl, hz⟩ := I.list hq
 have hi : IntsAre its ns := intsAre_of rv
 obtain ⟨ys, e⟩ := hi.allInts.items
 have hns : ns = ys.toList.map (·.1) := by
  rw [← hi.numsOf, ← nums_intItems, ← e]
 have hsz : 0 < ys.size := by
  have h3 := hl
  rw [hns, List.length_map, Array.length_toList] at h3
  exact h3
 have hL := pl.isList
 rw [e] at hL
 refine min_intList (I.ok.hd hc) hL hsz fun v h' tk hv hk => ?_
 obtain ⟨t, rfl⟩ := intItems_at hv
 obtain ⟨h1, h2⟩ := argBest_lt (numAt ys) (ys.size - 1)
 refine ⟨.int _, H, I.kept hk, ⟨t, rfl⟩, q _ ?_ fun z hzz => ?_⟩
 ·rw [hns, numAt_eq]
  exact getD_mem (by rw [List.length_map, Array.length_toList]; lia)
 ·rw [hns] at hzz
  obtain ⟨j, hj, rfl⟩ := mem_getD hzz
  rw [List.length_map, Array.length_toList] at hj
  rw [← numAt_eq]
  exact h2 j (by lia)
end L2
namespace L2
open PySem PySem.Spec PyProof.Rows
section
variable {g : TG} {tc : TT} {te : TE} {σ0 : St} {D : Addr} {H1 : Hp} {Q : Hp → Prop}
end
noncomputable def PvM (H1 : Hp) (D : Addr) (r : Nat → List V) (i : Nat) (acc : List V) (H : Hp) : Prop := acc = r i ∧ Same H1 H ∧ H D = some (.lst acc)
theorem PvM.start {H1 : Hp} {D : Addr} {r : Nat → List V} (hD : H1 D = none) (h : r 0 = []) : PvM H1 D r 0 [] (upd H1 D (.lst [])) :=
 ⟨h.symm, fun b o e => by rw [upd_ne (ne_of_none e hD)]; exact e, upd_same⟩
theorem PvM.grow {H1 H : Hp} {D T : Addr} {o : HO} {r : Nat → List V} {i : Nat} {acc : List V} (p : PvM H1 D r i acc H) (hT : H T = none) : PvM H1 D r i acc (upd H T o) :=
 ⟨p.1, fun b u e => by rw [upd_ne (ne_of_none (p.2.1 b u e) hT)]; exact p.2.1 b u e, by rw [upd_ne (ne_of_none p.2.2 hT)]; exact p.2.2⟩
theorem PvM.yes {H1 H : Hp} {D : Addr} {r : Nat → List V} {i : Nat} {acc : List V} {y : V} (hD : H1 D = none) (p : PvM H1 D r i acc H) (e : r (i + 1) = r i ++ [y]) (hl : (r i).length < sizeLine) :
  H D = some (.lst acc) ∧ acc.length < sizeLine ∧ PvM H1 D r (i + 1) (acc ++ [y]) (upd H D (.lst (acc ++ [y]))) :=
 ⟨p.2.2, by rw [p.1]; exact hl, by rw [p.1, e], fun b u q => by rw [upd_ne (ne_of_none q hD)]; exact p.2.1 b u q, upd_same⟩
theorem PvM.no {H1 H : Hp} {D : Addr} {r : Nat → List V} {i : Nat} {acc : List V} (p : PvM H1 D r i acc H) (e : r (i + 1) = r i) : PvM H1 D r (i + 1) acc H := ⟨by rw [p.1, e], p.2.1, p.2.2⟩
structure Def (K : PySem.W.Frag) (mg : Str → Option Value) (x : Str) (st : Stmt) (ps : List Str) (f : Addr) (fd : FuncData) : Prop where
 F : Fun K x x st f fd
 g : mg x = some (.ref f)
 b : Binds K fd ps []
theorem Same.upd {H H' : Hp} {a : Addr} {o : HO} (e : Same H H') (h : H a = none) : Same H (L2.upd H' a o) := fun b u q => by
 rw [upd_ne (ne_of_none q h)]
 exact e b u q
noncomputable def RowsAt (H : Hp) (a : Addr) (ps : List Addr) (rs : List (List V)) : Prop := H a = some (.lst (ps.map V.ref)) ∧ Paired (fun p r => H p = some (.tup r)) ps rs
theorem paired_get {α β : Type} {F : α → β → Prop} : ∀ {as : List α} {bs : List β} {i : Nat} {b : β}, Paired F as bs → bs[i]? = some b → ∃ a, as[i]? = some a ∧ F a b
 | _, _, _, _, .nil, e => by simp at e
 | _, _, 0, _, .cons h _, e => by
  simp at e
  subst e
  exact ⟨_, rfl, h⟩
 | _, _, i + 1, _, .cons _ t, e => by
  obtain ⟨a, h1, h2⟩ := paired_get (i := i) t (by simpa using e)
  exact ⟨a, by simpa using h1, h2⟩
theorem RowsAt.len {H : Hp} {a : Addr} {ps : List Addr} {rs : List (List V)} (h : RowsAt H a ps rs) : ps.length = rs.length := h.2.length
theorem RowsAt.same {H H' : Hp} {a : Addr} {ps : List Addr} {rs : List (List V)} (h : RowsAt H a ps rs) (e : Same H H') : RowsAt H' a ps rs := ⟨e _ _ h.1, Paired.mapP h.2 fun p r q => e _ _ q⟩
theorem RowsAt.get {H : Hp} {a : Addr} {ps : List Addr} {rs : List (List V)} {i : Nat} {r : List V} (h : RowsAt H a ps rs) (e : rs[i]? = some r) : ∃ p, ps[i]? = some p ∧ (ps.map V.ref)[i]? = some (.ref p) ∧ H p = some (.tup r) := by
 obtain ⟨p, h1, h2⟩ := paired_get h.2 e
 exact ⟨p, h1, by rw [List.getElem?_map, h1]; rfl, h2⟩
theorem RowsAt.seq {K : PySem.W.Frag} {H : Hp} {a : Addr} {ps : List Addr} {rs : List (List V)} (h : RowsAt H a ps rs) : SqL K H a (ps.map V.ref) := SqL.of h.1
theorem RowsAt.nil {H : Hp} {a : Addr} (e : H a = some (.lst [])) : RowsAt H a [] [] := ⟨e, .nil⟩
theorem RowsAt.snoc {H H' : Hp} {a p : Addr} {ps : List Addr} {rs : List (List V)} {r : List V} (h : RowsAt H a ps rs) (k : ∀ b o, b ≠ a → H b = some o → H' b = some o) (hp : H' p = some (.tup r)) (ha : H' a = some (.lst (ps.map V.ref ++ [.ref p]))) : RowsAt H' a (ps ++ [p]) (rs ++ [r]) := by
 refine ⟨by rw [ha]; simp, ?_⟩
 refine Paired.snoc (Paired.mapP h.2 fun q s e => k q _ (ne_of e h.1 (by intro z; cases z)) e) hp
noncomputable def toD : V → PyData
 | .bl b => .bool b
 | .int i => .int i
 | .str x => .str x
 | _ => .none
noncomputable def okV : V → Bool
 | .non => true
 | .bl _ => true
 | .int _ => true
 | .str x => PyData.strOk x
 | _ => false
theorem okV.rep {K : PySem.W.Frag} {H : Hp} : ∀ {v : V}, okV v = true → Rep K H v (toD v)
 | .non, _ => .non
 | .bl b, _ => .bl b
 | .int i, _ => .int i
 | .str x, _ => .str x
theorem okV.repAll {K : PySem.W.Frag} {H : Hp} : ∀ {r : List V}, r.all okV = true → RepAll K H r (r.map toD)
 | [], _ => .nil
 | v :: r, h => by
  rw [List.all_cons, Bool.and_eq_true] at h
  exact .cons (okV.rep h.1) (okV.repAll h.2)
noncomputable def rowsD (rs : List (List V)) : PyData := .list (rs.map fun r => .tuple (r.map toD))
theorem RowsAt.rep {K : PySem.W.Frag} {H : Hp} {a : Addr} {ps : List Addr} {rs : List (List V)} (h : RowsAt H a ps rs) (ok : ∀ r ∈ rs, r.all okV = true) : Rep K H (.ref a) (rowsD rs) := by
 refine .lst (SqL.of h.1) ?_
 have : ∀ {ps : List Addr} {rs : List (List V)}, Paired (fun p r => H p = some (.tup r)) ps rs → (∀ r ∈ rs, r.all okV = true) → RepAll K H (ps.map V.ref) (rs.map fun r => .tuple (r.map toD)) := by
  intro ps rs q
  induction q with
  | nil => intro _; exact .nil
  | cons e t ih => intro ok; exact .cons (.tup (SqT.of e) (okV.repAll (ok _ List.mem_cons_self))) (ih fun r hr => ok r (List.mem_cons_of_mem _ hr))
 exact this h.2 ok
theorem okV.lay : ∀ {v : V}, okV v = true → (toD v).canLay0 = true ∧ (toD v).depth = 0
 | .non, _ => ⟨rfl, rfl⟩
 | .bl b, _ => ⟨rfl, rfl⟩
 | .int i, _ => ⟨rfl, rfl⟩
 | .str x, h => ⟨h, rfl⟩
section
variable {X : Cx}
noncomputable def rMaxL (K : PySem.W.Frag) : List V → Hp → VK → Prop := fun xs H Q => ∃ (a : Addr) (ns : List Int), xs = [.ref a] ∧ SqL K H a (ns.map V.int) ∧ 0 < ns.length ∧ ∀ M, M ∈ ns → (∀ z, z ∈ ns → z ≤ M) → Q (.int M) H
theorem call_maxK (K : PySem.W.Frag) (h : X.K = K) (hc : X.calm = true) : CallR X (.builtin "max") (rMaxL K) := by
 subst h
 exact call_maxL hc
noncomputable def rMinL (K : PySem.W.Frag) : List V → Hp → VK → Prop := fun xs H Q => ∃ (a : Addr) (ns : List Int), xs = [.ref a] ∧ SqL K H a (ns.map V.int) ∧ 0 < ns.length ∧ ∀ M, M ∈ ns → (∀ z, z ∈ ns → M ≤ z) → Q (.int M) H
theorem call_minK (K : PySem.W.Frag) (h : X.K = K) (hc : X.calm = true) : CallR X (.builtin "min") (rMinL K) := by
 subst h
 exact call_minL hc
end
end L2
namespace L2
open PySem PySem.Spec PyProof.Rows
end L2
namespace L2
open PySem PySem.Spec PyProof.Rows
section
variable {κ : Type} [DecidableEq κ]
noncomputable def valV (kvs : List (κ × V)) (k : κ) : Option V := (kvs.find? fun kv => decide (kv.1 = k)).map (·.2)
noncomputable def putK (kvs : List (κ × V)) (k : κ) (v : V) : List (κ × V) :=
 if (kvs.any fun kv => decide (kv.1 = k)) = true then kvs.map (fun kv => if kv.1 = k then (kv.1, v) else kv) else kvs ++ [(k, v)]
noncomputable def dropK (kvs : List (κ × V)) (k : κ) : List (κ × V) := kvs.filter fun kv => decide (kv.1 ≠ k)
theorem valV_pos {p : κ × V} {r : List (κ × V)} {k : κ} (e : p.1 = k) : valV (p :: r) k = some p.2 := by simp [valV, List.find?_cons, e]
theorem valV_neg {p : κ × V} {r : List (κ × V)} {k : κ} (e : ¬ p.1 = k) : valV (p :: r) k = valV r k := by simp [valV, List.find?_cons, e]
theorem valV_any (k : κ) : ∀ kvs : List (κ × V), (kvs.any fun kv => decide (kv.1 = k)) = (valV kvs k).isSome
 | [] => rfl
 | p :: r => by
  rw [List.any_cons]
  by_cases e : p.1 = k
  ·simp only [valV_pos e, decide_eq_true e, Bool.true_or, Option.isSome_some]
  ·rw [valV_neg e, decide_eq_false e, Bool.false_or]; exact valV_any k r
theorem RelO.isSome_eq {o : Option V} {u : Option Value} (r : RelO o u) : o.isSome = u.isSome := by
 cases o with
 | none => cases u with
  | none => rfl
  | some _ => exact (show False from r).elim
 | some _ => cases u with
  | none => exact (show False from r).elim
  | some _ => rfl
theorem RelO.getD {o : Option V} {u : Option Value} {d : V} {d' : Value} (r : RelO o u) (rd : RelV d d') : RelV (o.getD d) (u.getD d') := by
 cases o with
 | none => cases u with
  | none => exact rd
  | some _ => exact (show False from r).elim
 | some _ => cases u with
  | none => exact (show False from r).elim
  | some _ => exact r
theorem KV.val {kvs : List (κ × V)} {vs : List (κ × Value)} (r : KV kvs vs) (k : κ) : RelO (valV kvs k) (valueAt vs k) := by
 unfold KV at r
 induction r with
 | nil => exact True.intro
 | @cons p q ps qs h t ih =>
  obtain ⟨h1, h2⟩ := h
  by_cases e : p.1 = k
  ·have e' : q.1 = k := h1.symm.trans e
   have b : valueAt (q :: qs) k = some q.2 := by simp [valueAt, List.find?_cons, e']
   rw [valV_pos e, b]; exact h2
  ·have e' : ¬ q.1 = k := fun z => e (h1.trans z)
   have b : valueAt (q :: qs) k = valueAt qs k := by simp [valueAt, List.find?_cons, e']
   rw [valV_neg e, b]; exact ih
theorem KV.any {kvs : List (κ × V)} {vs : List (κ × Value)} (r : KV kvs vs) (k : κ) : (kvs.any fun kv => decide (kv.1 = k)) = vs.any fun kv => decide (kv.1 = k) := by
 unfold KV at r
 induction r with
 | nil => rfl
 | cons h t ih => rw [List.any_cons, List.any_cons, ih, h.1]
theorem KV.repl {kvs : List (κ × V)} {vs : List (κ × Value)} (r : KV kvs vs) (k : κ) {y : V} {u : Value} (ry : RelV y u) :
  KV (kvs.map fun kv => if kv.1 = k then (kv.1, y) else kv) (vs.map fun kv => if kv.1 = k then (kv.1, u) else kv) := by
 unfold KV at r ⊢
 induction r with
 | nil => exact .nil
 | @cons p q ps qs h t ih =>
  rw [List.map_cons, List.map_cons]
  refine .cons ?_ ih
  obtain ⟨h1, h2⟩ := h
  by_cases e : p.1 = k
  ·rw [if_pos e, if_pos (h1.symm.trans e)]; exact ⟨h1, ry⟩
  ·rw [if_neg e, if_neg (fun z => e (h1.trans z))]; exact ⟨h1, h2⟩
theorem KV.put {kvs : List (κ × V)} {vs : List (κ × Value)} (r : KV kvs vs) (k : κ) {y : V} {u : Value} (ry : RelV y u) : KV (putK kvs k y) (stored vs k u) := by
 unfold putK stored
 rw [r.any k]
 by_cases e : (vs.any fun kv => decide (kv.1 = k)) = true
 ·rw [if_pos e, if_pos e]; exact r.repl k ry
 ·rw [if_neg e, if_neg e]; exact Paired.snoc r ⟨rfl, ry⟩
theorem KV.drop {kvs : List (κ × V)} {vs : List (κ × Value)} (r : KV kvs vs) (k : κ) : KV (dropK kvs k) (without vs k) := by
 unfold KV at r ⊢
 unfold dropK without
 induction r with
 | nil => exact .nil
 | @cons p q ps qs h t ih =>
  obtain ⟨h1, h2⟩ := h
  rw [List.filter_cons, List.filter_cons]
  by_cases e : p.1 = k
  ·have a : ¬ decide (p.1 ≠ k) = true := by simp [e]
   have b : ¬ decide (q.1 ≠ k) = true := by simp [h1.symm.trans e]
   rw [if_neg a, if_neg b]; exact ih
  ·have e' : ¬ q.1 = k := fun z => e (h1.trans z)
   have a : decide (p.1 ≠ k) = true := by simp [e]
   have b : decide (q.1 ≠ k) = true := by simp [e']
   rw [if_pos a, if_pos b]; exact .cons ⟨h1, h2⟩ ih
theorem KV.keys {kvs : List (κ × V)} {vs : List (κ × Value)} (r : KV kvs vs) : kvs.map (·.1) = vs.map (·.1) := by
 unfold KV at r
 induction r with
 | nil => rfl
 | cons h t ih => rw [List.map_cons, List.map_cons, ih, h.1]
theorem KV.length {kvs : List (κ × V)} {vs : List (κ × Value)} (r : KV kvs vs) : kvs.length = vs.length := Paired.length r
end
noncomputable abbrev KT (H : Hp) : List (List Key × V) → List (List Key × Addr × Value) → Prop := Paired fun p q => p.1 = q.1 ∧ H q.2.1 = some (.tup (p.1.map kV)) ∧ RelV p.2 q.2.2
theorem KT.val {H : Hp} {kvs : List (List Key × V)} {xs : List (List Key × Addr × Value)} (r : KT H kvs xs) (k : List Key) : RelO (valV kvs k) ((atKey xs k).map (·.2)) := by
 induction r with
 | nil => exact True.intro
 | @cons p q ps qs h t ih =>
  obtain ⟨h1, _, h2⟩ := h
  by_cases e : p.1 = k
  ·have e' : q.1 = k := h1.symm.trans e
   have b : atKey (q :: qs) k = some q.2 := by simp [atKey, List.find?_cons, e']
   rw [valV_pos e, b]; exact h2
  ·have e' : ¬ q.1 = k := fun z => e (h1.trans z)
   have b : atKey (q :: qs) k = atKey qs k := by simp [atKey, List.find?_cons, e']
   rw [valV_neg e, b]; exact ih
theorem KT.repl {H : Hp} {kvs : List (List Key × V)} {xs : List (List Key × Addr × Value)} (r : KT H kvs xs) (k : List Key) {y : V} {u : Value} (ry : RelV y u) :
  KT H (kvs.map fun kv => if kv.1 = k then (kv.1, y) else kv) (xs.map (putAt k u)) := by
 induction r with
 | nil => exact .nil
 | @cons p q ps qs h t ih =>
  rw [List.map_cons, List.map_cons]
  refine .cons ?_ ih
  obtain ⟨h1, h2, h3⟩ := h
  unfold putAt
  by_cases e : p.1 = k
  ·rw [if_pos e, if_pos (h1.symm.trans e)]; exact ⟨h1, h2, ry⟩
  ·rw [if_neg e, if_neg (fun z => e (h1.trans z))]; exact ⟨h1, h2, h3⟩
theorem KT.put {H : Hp} {kvs : List (List Key × V)} {xs : List (List Key × Addr × Value)} (r : KT H kvs xs) (k : List Key) {b : Addr} {y : V} {u : Value} (hb : H b = some (.tup (k.map kV))) (ry : RelV y u) :
  KT H (putK kvs k y) (storedH xs k b u) := by
 have e : (kvs.any fun kv => decide (kv.1 = k)) = (atKey xs k).isSome := by
  rw [valV_any, (r.val k).isSome_eq, Option.isSome_map]
 unfold putK storedH
 rw [e]
 by_cases q : (atKey xs k).isSome = true
 ·rw [if_pos q, if_pos q]; exact r.repl k ry
 ·rw [if_neg q, if_neg q]; exact Paired.snoc r ⟨rfl, hb, ry⟩
theorem KT.keeps {H H' : Hp} {kvs : List (List Key × V)} {xs : List (List Key × Addr × Value)} (r : KT H kvs xs) (ht : ∀ b ys, H b = some (.tup ys) → H' b = some (.tup ys)) : KT H' kvs xs :=
 Paired.mapP r fun _ _ z => ⟨z.1, ht _ _ z.2.1, z.2.2⟩
section
variable {P : Program} {w : World} {H : Hp} {h : Heap} {a : Addr}
end
noncomputable def DGet (H : Hp) (a : Addr) (y : V) (r : Option V) : Prop :=
 (∃ kvs k, Rd H a (.dK kvs) ∧ y = kV k ∧ r = valV kvs k) ∨ ∃ kvs k b, Rd H a (.dT kvs) ∧ y = .ref b ∧ H b = some (.tup (k.map kV)) ∧ r = valV kvs k
noncomputable def DPut (H : Hp) (a : Addr) (y v : V) (H' : Hp) : Prop :=
 (∃ kvs k, H a = some (.dK kvs) ∧ y = kV k ∧ kvs.length < sizeLine ∧ H' = upd H a (.dK (putK kvs k v))) ∨
 ∃ kvs k b, H a = some (.dT kvs) ∧ y = .ref b ∧ H b = some (.tup (k.map kV)) ∧ kvs.length < sizeLine ∧ H' = upd H a (.dT (putK kvs k v))
theorem DGet.k {H : Hp} {a : Addr} {kvs : List (Key × V)} {k : Key} (e : H a = some (.dK kvs)) : DGet H a (kV k) (valV kvs k) := .inl ⟨kvs, k, .inl e, rfl, rfl⟩
theorem DGet.t {H : Hp} {a b : Addr} {kvs : List (List Key × V)} {k : List Key} (e : H a = some (.dT kvs)) (eb : H b = some (.tup (k.map kV))) : DGet H a (.ref b) (valV kvs k) := .inr ⟨kvs, k, b, .inl e, rfl, eb, rfl⟩
theorem DPut.k {H : Hp} {a : Addr} {kvs : List (Key × V)} {k : Key} {v : V} (e : H a = some (.dK kvs)) (hl : kvs.length < sizeLine) : DPut H a (kV k) v (upd H a (.dK (putK kvs k v))) := .inl ⟨kvs, k, e, rfl, hl, rfl⟩
theorem DPut.t {H : Hp} {a b : Addr} {kvs : List (List Key × V)} {k : List Key} {v : V} (e : H a = some (.dT kvs)) (eb : H b = some (.tup (k.map kV))) (hl : kvs.length < sizeLine) :
  DPut H a (.ref b) v (upd H a (.dT (putK kvs k v))) := .inr ⟨kvs, k, b, e, rfl, eb, hl, rfl⟩
section
variable {X : Cx} {pins : List (Addr × Obj)} {σ : St} {H : Hp} {s : Shared} {a : Addr} {y v : V} {u r : Value} {o : Option V} {A : Around} {E : Value → Shared → Prop}
theorem Inv.big (I : Inv X pins σ H s) : sysModules < s.heap.objs.size := by
 have h : mainGlobals < s.heap.objs.size := (I.mod.glob.keeps I.bk).lt
 exact Nat.lt_trans (by decide) h
end
section
variable {X : Cx} {pins : List (Addr × Obj)} {σ : St} {H : Hp} {s : Shared} {a : Addr} {kvs : List (Key × V)} {k : Key} {u : Value} {A : Around} {E : Value → Shared → Prop}
end
section
variable {X : Cx} {o i e value : Expr} {pos pos' tpos : Pos} {td ty tv : TE}
end
section
variable {X : Cx} {pos : Pos}
end
end L2
namespace L3
open PySem L2 PySem.Spec PyProof.Rows
noncomputable abbrev St := L2.St
noncomputable def RdK (K : PySem.W.Frag) (H : Hp) (a : Addr) (xs : List V) : Prop :=
 Rd H a (.lst xs) ∨ ∃ (its : Array Value) (n : Nat), K.lookup a = some { cls := .type "list", data := .seq its n } ∧ its.size ≤ sizeLine ∧ Vals xs its.toList
theorem RdK.of {K : PySem.W.Frag} {H : Hp} {a : Addr} {xs : List V} (h : H a = some (.lst xs)) : RdK K H a xs := .inl (.inl h)
theorem RdK.sq {K : PySem.W.Frag} {H : Hp} {a : Addr} {xs : List V} (h : RdK K H a xs) : SqL K H a xs := by
 rcases h with h | ⟨its, n, hk, hz, r⟩
 ·exact .inl h
 ·exact .inr ⟨_, its, n, hk, rfl, rfl, rfl, hz, r⟩
theorem RdK.same {K : PySem.W.Frag} {H H' : Hp} (e : Same H H') {a : Addr} {xs : List V} (h : RdK K H a xs) : RdK K H' a xs := by
 rcases h with (h | ⟨o, h⟩) | h
 ·exact .inl (.inl (e _ _ h))
 ·exact .inl (.inr ⟨o, e _ _ h⟩)
 ·exact .inr h
theorem RdK.obj {X : Cx} {pins : List (Addr × Obj)} {σ : St} {H : Hp} {s : Shared} {a : Addr} {xs : List V} (I : Inv X pins σ H s) (h : RdK X.K H a xs) :
  xs.length ≤ sizeLine ∧ ∃ (its : List Value) (n : Nat), Vals xs its ∧ xs.length = its.length ∧ s.heap.get? a = some { cls := .type "list", data := .seq its.toArray n } := by
 rcases h with h | ⟨its, n, hk, hz, r⟩
 ·obtain ⟨z, its, n, r, e⟩ := h.ok I.hok
  exact ⟨z, its, n, r, r.length, e⟩
 ·have e := r.length
  have e' := e
  simp only [Array.length_toList] at e'
  exact ⟨by lia, its.toList, n, r, e, by simpa using I.kIn a _ hk⟩
end L3
namespace L3
open PySem L2
inductive OD where
 | sh (d : PyData)
 | ol (xs : List OD)
 | ot (xs : List OD)
 | od (kvs : List (Key × PyData))
noncomputable def kD : Key → PyData
 | .inl i => .int i
 | .inr x => .str x
noncomputable def dD (kvs : List (Key × PyData)) : PyData := .dict (kvs.map fun p => (kD p.1, p.2))
noncomputable def iD (nm : Str) (ds : List (Str × PyData)) : PyData := .dict ((.none, .str nm) :: ds.map fun p => (.tuple [.str p.1], p.2))
mutual
noncomputable def OD.er : OD → PyData
 | .sh d => d
 | .ol xs => .list (OD.ers xs)
 | .ot xs => .tuple (OD.ers xs)
 | .od kvs => dD kvs
noncomputable def OD.ers : List OD → List PyData
 | [] => []
 | x :: xs => x.er :: OD.ers xs
end
theorem ers_map : ∀ xs : List OD, OD.ers xs = xs.map OD.er
 | [] => rfl
 | x :: xs => by rw [OD.ers, List.map_cons, ers_map xs]
theorem er_sh (d : PyData) : (OD.sh d).er = d := by rw [OD.er]
theorem er_ol (xs : List OD) : (OD.ol xs).er = .list (xs.map OD.er) := by rw [OD.er, ers_map]
theorem er_ot (xs : List OD) : (OD.ot xs).er = .tuple (xs.map OD.er) := by rw [OD.er, ers_map]
inductive R (α : Type) where
 | ok (a : α)
 | ex (c : Str)
 | bad
noncomputable def R.bind {α β : Type} (r : R α) (f : α → R β) : R β := match r with
 | .ok a => f a
 | .ex c => .ex c
 | .bad => .bad
theorem bind_ok {α β : Type} (a : α) (f : α → R β) : (R.ok a).bind f = f a := rfl
noncomputable abbrev Env := List (Option OD)
noncomputable abbrev Fe := Env → R OD
noncomputable abbrev Fa := Env → R (List OD)
noncomputable abbrev Ft := Env → R Bool
noncomputable abbrev Fn := List PyData → R OD
inductive Out where
 | nx (ρ : Env)
 | rt (x : OD)
 | bk (ρ : Env)
 | ct (ρ : Env)
noncomputable abbrev Fs := Env → R Out
noncomputable abbrev Fi := Env → R (List PyData)
noncomputable abbrev Fg := OD → Env → R Env
noncomputable def BIG : Nat := 10000000
noncomputable def flat : PyData → Bool
 | .none => true
 | .bool _ => true
 | .int _ => true
 | .str _ => true
 | _ => false
noncomputable def eVar (i : Nat) : Fe := fun ρ => match ρ[i]? with
 | some (some (.sh d)) => .ok (.sh d)
 | _ => .bad
noncomputable def eC (d : PyData) : Fe := fun _ => .ok (.sh d)
noncomputable def eOp (g : PyData → PyData → R OD) (a b : Fe) : Fe := fun ρ => (a ρ).bind fun x => (b ρ).bind fun y => g x.er y.er
noncomputable def eUn (g : PyData → R OD) (a : Fe) : Fe := fun ρ => (a ρ).bind fun x => g x.er
noncomputable def truth : PyData → R Bool
 | .bool b => .ok b
 | _ => .bad
noncomputable def eTest (a : Fe) : Ft := fun ρ => (a ρ).bind fun x => truth x.er
noncomputable def eAndT (a b : Ft) : Ft := fun ρ => (a ρ).bind fun c => if c = true then b ρ else .ok false
noncomputable def eOrT (a b : Ft) : Ft := fun ρ => (a ρ).bind fun c => if c = true then .ok true else b ρ
noncomputable def eNotT (a : Ft) : Ft := fun ρ => (a ρ).bind fun c => .ok (!c)
noncomputable def eAnd (a b : Fe) : Fe := fun ρ => (a ρ).bind fun x => (truth x.er).bind fun c => if c = true then b ρ else .ok (.sh (.bool false))
noncomputable def eOr (a b : Fe) : Fe := fun ρ => (a ρ).bind fun x => (truth x.er).bind fun c => if c = true then .ok (.sh (.bool true)) else b ρ
noncomputable def eNot (a : Fe) : Fe := fun ρ => (a ρ).bind fun x => (truth x.er).bind fun c => .ok (.sh (.bool (!c)))
noncomputable def eIf (t : Ft) (a b : Fe) : Fe := fun ρ => (t ρ).bind fun c => if c = true then a ρ else b ρ
noncomputable def aNil : Fa := fun _ => .ok []
noncomputable def aCons (a : Fe) (r : Fa) : Fa := fun ρ => (a ρ).bind fun x => (r ρ).bind fun xs => .ok (x :: xs)
noncomputable def shs : List OD → Option (List PyData)
 | [] => some []
 | .sh d :: r => match shs r with
  | some ds => some (d :: ds)
  | none => none
 | _ :: _ => none
noncomputable def mkT (xs : List OD) : OD := match shs xs with
 | some ds => .sh (.tuple ds)
 | none => .ot xs
noncomputable def eTup (a : Fa) : Fe := fun ρ => (a ρ).bind fun xs => if xs.length ≤ BIG then .ok (mkT xs) else .bad
noncomputable def eSh (a : Fe) : Fe := fun ρ => (a ρ).bind fun x => .ok (.sh x.er)
noncomputable def eLst (a : Fa) : Fe := fun ρ => (a ρ).bind fun xs => if xs.length ≤ BIG then .ok (.ol xs) else .bad
noncomputable def eCall (f : Fn) (a : Fa) : Fe := fun ρ => (a ρ).bind fun xs => f (xs.map OD.er)
noncomputable def eB (g : List PyData → R OD) (a : Fa) : Fe := fun ρ => (a ρ).bind fun xs => g (xs.map OD.er)
noncomputable def erase (ρ : Env) : Env := ρ.map fun o => o.map fun x => OD.sh x.er
noncomputable def eBor (a : Fe) : Fe := fun ρ => (a (erase ρ)).bind fun x => if flat x.er = true then .ok (.sh x.er) else .bad
noncomputable def eBorL (a : Fe) : Fe := fun ρ => (a (erase ρ)).bind fun x => match x with
 | .ol xs => if xs.all (fun y => flat y.er) = true then .ok (.ol (xs.map fun y => .sh y.er)) else .bad
 | _ => .bad
noncomputable def tBor (a : Ft) : Ft := fun ρ => a (erase ρ)
noncomputable abbrev Fo := Env → R (Option Int)
noncomputable def oNone : Fo := fun _ => .ok none
noncomputable def oSome (a : Fe) : Fo := fun ρ => (a ρ).bind fun x => match x.er with
 | .int i => .ok (some i)
 | _ => .bad
noncomputable def eSl (g : PyData → Option Int → Option Int → R OD) (a : Fe) (l h : Fo) : Fe := fun ρ => (a ρ).bind fun x => (l ρ).bind fun i => (h ρ).bind fun j => g x.er i j
noncomputable def iLst (a : Fe) : Fi := fun ρ => (a ρ).bind fun x => match x.er with
 | .list ds => .ok ds
 | _ => .bad
noncomputable def iTp (a : Fe) : Fi := fun ρ => (a ρ).bind fun x => match x.er with
 | .tuple ds => .ok ds
 | _ => .bad
noncomputable def rngD (lo : Int) (n : Nat) : List PyData := (List.range n).map fun k : Nat => PyData.int (lo + k)
noncomputable def small62 (i : Int) : Bool := decide (-(2 ^ 62) ≤ i) && decide (i < 2 ^ 62)
noncomputable def iR1 (a : Fe) : Fi := fun ρ => (a ρ).bind fun x => match x.er with
 | .int j => if small62 j = true then .ok (rngD 0 j.toNat) else .bad
 | _ => .bad
noncomputable def iR2 (a b : Fe) : Fi := fun ρ => (a ρ).bind fun x => (b ρ).bind fun y => match x.er, y.er with
 | .int i, .int j => if (small62 i && small62 j) = true then .ok (rngD i (j - i).toNat) else .bad
 | _, _ => .bad
noncomputable def enumD (ds : List PyData) : List PyData := ds.zipIdx.map fun p => PyData.tuple [.int (p.2 : Nat), p.1]
noncomputable def zipD (ds es : List PyData) : List PyData := (ds.zip es).map fun p => PyData.tuple [p.1, p.2]
noncomputable def iEn (a : Fe) : Fi := fun ρ => (a ρ).bind fun x => match x.er with
 | .list ds => .ok (enumD ds)
 | _ => .bad
noncomputable def iZp (a b : Fe) : Fi := fun ρ => (a ρ).bind fun x => (b ρ).bind fun y => match x.er, y.er with
 | .list ds, .list es => .ok (zipD ds es)
 | _, _ => .bad
noncomputable def gNm (i : Nat) : Fg := fun x ρ => .ok (ρ.set i (some x))
noncomputable abbrev Fgs := List OD → Env → R Env
noncomputable def gsNil : Fgs := fun xs ρ => match xs with
 | [] => .ok ρ
 | _ => .bad
noncomputable def gsCons (g : Fg) (r : Fgs) : Fgs := fun xs ρ => match xs with
 | x :: xs => (g x ρ).bind fun ρ' => r xs ρ'
 | [] => .bad
noncomputable def gTp (n : Nat) (r : Fgs) : Fg := fun x ρ => match x with
 | .ot xs => if xs.length = n then r xs ρ else .bad
 | .sh (.tuple ds) => if ds.length = n then r (ds.map OD.sh) ρ else .bad
 | _ => .bad
noncomputable def onlySh : Option (Option OD) → Option OD
 | some (some (.sh d)) => some (.sh d)
 | _ => none
noncomputable def sl3 (k : Nat) (outs : List Nat) (ρ : Env) : Env := List.replicate k none ++ outs.map fun i => onlySh ρ[i]?
noncomputable def unex {α : Type} : R α → R α
 | .ok a => .ok a
 | _ => .bad
noncomputable def compF (g : Fg) (t : Ft) (el : Fe) (ρ0 : Env) : List PyData → List OD → R (List OD)
 | [], acc => .ok acc
 | d :: ds, acc => (unex (g (.sh d) ρ0)).bind fun ρ => (unex (t ρ)).bind fun b => if b = true then (unex (el ρ)).bind fun y => if acc.length < BIG then compF g t el ρ0 ds (acc ++ [y]) else .bad else compF g t el ρ0 ds acc
noncomputable def eComp (it : Fi) (g : Fg) (t : Ft) (el : Fe) (k : Nat) (outs : List Nat) : Fe := fun ρ => (it ρ).bind fun ds => (compF g t el (sl3 k outs ρ) ds []).bind fun xs => .ok (.ol xs)
noncomputable def sNx : Fs := fun ρ => .ok (.nx ρ)
noncomputable def sSeq (a b : Fs) : Fs := fun ρ => (a ρ).bind fun o => match o with
 | .nx ρ' => b ρ'
 | o => .ok o
noncomputable def sAsg (a : Fe) (g : Fg) : Fs := fun ρ => (a ρ).bind fun x => (g x ρ).bind fun ρ' => .ok (.nx ρ')
noncomputable def sSet (i : Nat) (a : Fe) : Fs := fun ρ => (a ρ).bind fun x => .ok (.nx (ρ.set i (some x)))
noncomputable def sDrop (a : Fe) : Fs := fun ρ => (a ρ).bind fun _ => .ok (.nx ρ)
noncomputable def sRet (a : Fe) : Fs := fun ρ => (a ρ).bind fun x => .ok (.rt x)
noncomputable def sRetN : Fs := fun _ => .ok (.rt (.sh .none))
noncomputable def sRetV (i : Nat) : Fs := fun ρ => match ρ[i]? with
 | some (some x) => .ok (.rt x)
 | _ => .bad
noncomputable def sIf (t : Ft) (a b : Fs) : Fs := fun ρ => (t ρ).bind fun c => if c = true then a ρ else b ρ
noncomputable def sBk : Fs := fun ρ => .ok (.bk ρ)
noncomputable def sCt : Fs := fun ρ => .ok (.ct ρ)
noncomputable def frz1 (i : Nat) (ρ : Env) : Env := match ρ[i]? with
 | some (some x) => ρ.set i (some (.sh x.er))
 | _ => ρ
noncomputable def sFrz (i : Nat) (a : Fs) : Fs := fun ρ => a (frz1 i ρ)
noncomputable def sAug (i : Nat) (g : PyData → PyData → R OD) (a : Fe) : Fs := fun ρ => match ρ[i]? with
 | some (some (.sh d)) => (a ρ).bind fun y => (g d y.er).bind fun z => .ok (.nx (ρ.set i (some z)))
 | _ => .bad
noncomputable def sApp (i : Nat) (a : Fe) : Fs := fun ρ => match ρ[i]? with
 | some (some (.ol xs)) => (a ρ).bind fun y => if xs.length < BIG then .ok (.nx (ρ.set i (some (.ol (xs ++ [y]))))) else .bad
 | _ => .bad
noncomputable def sRev (i : Nat) : Fs := fun ρ => match ρ[i]? with
 | some (some (.ol xs)) => .ok (.nx (ρ.set i (some (.ol xs.reverse))))
 | _ => .bad
noncomputable def sClr (i : Nat) : Fs := fun ρ => match ρ[i]? with
 | some (some (.ol xs)) => .ok (.nx (ρ.set i (some (.ol []))))
 | _ => .bad
noncomputable def sPop (i : Nat) (g : Fg) : Fs := fun ρ => match ρ[i]? with
 | some (some (.ol xs)) => match xs.getLast? with
  | some (.sh d) => (g (.sh d) (ρ.set i (some (.ol xs.dropLast)))).bind fun ρ' => .ok (.nx ρ')
  | _ => .bad
 | _ => .bad
noncomputable def sExt (i : Nat) (a : Fe) : Fs := fun ρ => match ρ[i]? with
 | some (some (.ol xs)) => (a ρ).bind fun y => match y with
  | .ol ys => if xs.length + ys.length ≤ BIG then .ok (.nx (ρ.set i (some (.ol (xs ++ ys))))) else .bad
  | _ => .bad
 | _ => .bad
noncomputable def sSub (i : Nat) (k : Fe) (a : Fe) : Fs := fun ρ => match ρ[i]? with
 | some (some (.ol xs)) => (a ρ).bind fun y => (k ρ).bind fun z => match z.er with
  | .int q => match ixN xs.length q with
   | some j => .ok (.nx (ρ.set i (some (.ol (xs.set j y)))))
   | none => .bad
  | _ => .bad
 | _ => .bad
noncomputable def loopF (g : Fg) (b : Fs) : List PyData → Env → R Out
 | [], ρ => .ok (.nx ρ)
 | d :: ds, ρ => (g (.sh d) ρ).bind fun ρ1 => (b ρ1).bind fun o => match o with
  | .nx ρ2 => loopF g b ds ρ2
  | .ct ρ2 => loopF g b ds ρ2
  | .bk ρ2 => .ok (.nx ρ2)
  | .rt x => .ok (.rt x)
noncomputable def sFor (it : Fi) (g : Fg) (b : Fs) : Fs := fun ρ => (it ρ).bind fun ds => loopF g b ds ρ
open Classical in
noncomputable def env0 (n : Nat) (ds : List PyData) : Env := (ds.map fun d => some (OD.sh d)) ++ List.replicate (n - ds.length) none
noncomputable def runF (np n : Nat) (b : Fs) : Fn := fun ds => if ds.length = np then (b (env0 n ds)).bind fun o => match o with
 | .rt x => .ok x
 | .nx _ => .ok (.sh .none)
 | _ => .bad else .bad
end L3
namespace L3
open PySem L2
mutual
inductive Rep (K : PySem.W.Frag) (H : Hp) : V → PyData → Prop
 | non : Rep K H .non .none
 | bl (b : Bool) : Rep K H (.bl b) (.bool b)
 | int (i : Int) : Rep K H (.int i) (.int i)
 | str (x : Str) : Rep K H (.str x) (.str x)
 | lst {a : Addr} {xs : List V} {ds : List PyData} : RdK K H a xs → RepAll K H xs ds → Rep K H (.ref a) (.list ds)
 | tup {a : Addr} {xs : List V} {ds : List PyData} : H a = some (.tup xs) → RepAll K H xs ds → Rep K H (.ref a) (.tuple ds)
 | dct {a : Addr} {kvs : List (Key × V)} {ds : List (Key × PyData)} : H a = some (.dK kvs) → kvs.map (·.1) = ds.map (·.1) → RepAll K H (kvs.map (·.2)) (ds.map (·.2)) → Rep K H (.ref a) (dD ds)
 | ins {a C dx : Addr} {fs : List (Str × V)} {nm : Str} {ds : List (Str × PyData)} : PySem.W.nsIn K mainGlobals nm = some (some (.ref C)) ∧ H a = some (.ins C dx fs) → fs.map (·.1) = ds.map (·.1) → RepAll K H (fs.map (·.2)) (ds.map (·.2)) → Rep K H (.ref a) (iD nm ds)
inductive RepAll (K : PySem.W.Frag) (H : Hp) : List V → List PyData → Prop
 | nil : RepAll K H [] []
 | cons {v : V} {vs : List V} {d : PyData} {ds : List PyData} : Rep K H v d → RepAll K H vs ds → RepAll K H (v :: vs) (d :: ds)
end
mutual
theorem Rep.same {K : PySem.W.Frag} {H H' : Hp} (e : Same H H') {v : V} {d : PyData} : Rep K H v d → Rep K H' v d
 | .non => .non
 | .bl b => .bl b
 | .int i => .int i
 | .str x => .str x
 | .lst h r => .lst (h.same e) (RepAll.same e r)
 | .tup h r => .tup (e _ _ h) (RepAll.same e r)
 | .dct h k r => .dct (e _ _ h) k (RepAll.same e r)
 | .ins h k r => .ins ⟨h.1, e _ _ h.2⟩ k (RepAll.same e r)
theorem RepAll.same {K : PySem.W.Frag} {H H' : Hp} (e : Same H H') {vs : List V} {ds : List PyData} : RepAll K H vs ds → RepAll K H' vs ds
 | .nil => .nil
 | .cons h r => .cons (Rep.same e h) (RepAll.same e r)
end
mutual
inductive Own (K : PySem.W.Frag) (F H : Hp) : V → OD → List Addr → Prop
 | sh {v : V} {d : PyData} : Rep K F v d → Own K F H v (.sh d) []
 | ol {a : Addr} {vs : List V} {xs : List OD} {f : List Addr} : H a = some (.lst vs) → OwnL K F H vs xs f → Own K F H (.ref a) (.ol xs) (a :: f)
 | ot {a : Addr} {vs : List V} {xs : List OD} {f : List Addr} : H a = some (.tup vs) → OwnL K F H vs xs f → Own K F H (.ref a) (.ot xs) (a :: f)
 | od {a : Addr} {kvs : List (Key × V)} {ds : List (Key × PyData)} : H a = some (.dK kvs) → kvs.map (·.1) = ds.map (·.1) → RepAll K F (kvs.map (·.2)) (ds.map (·.2)) → Own K F H (.ref a) (.od ds) [a]
inductive OwnL (K : PySem.W.Frag) (F H : Hp) : List V → List OD → List Addr → Prop
 | nil : OwnL K F H [] [] []
 | cons {v : V} {x : OD} {f : List Addr} {vs : List V} {xs : List OD} {g : List Addr} : Own K F H v x f → OwnL K F H vs xs g → OwnL K F H (v :: vs) (x :: xs) (f ++ g)
end
section
variable {K : PySem.W.Frag} {F H F' H' : Hp}
mutual
theorem Own.mono (e : Same F F') {v : V} {x : OD} {f : List Addr} : (∀ a ∈ f, ∀ o, H a = some o → H' a = some o) → Own K F H v x f → Own K F' H' v x f
 | _, .sh r => .sh (r.same e)
 | k, .ol h r => .ol (k _ List.mem_cons_self _ h) (OwnL.mono e (fun a m => k a (List.mem_cons_of_mem _ m)) r)
 | k, .ot h r => .ot (k _ List.mem_cons_self _ h) (OwnL.mono e (fun a m => k a (List.mem_cons_of_mem _ m)) r)
 | k, .od h q r => .od (k _ List.mem_cons_self _ h) q (RepAll.same e r)
theorem OwnL.mono (e : Same F F') {v : List V} {x : List OD} {f : List Addr} : (∀ a ∈ f, ∀ o, H a = some o → H' a = some o) → OwnL K F H v x f → OwnL K F' H' v x f
 | _, .nil => .nil
 | k, .cons h r => .cons (Own.mono e (fun a m => k a (List.mem_append_left _ m)) h) (OwnL.mono e (fun a m => k a (List.mem_append_right _ m)) r)
end
mutual
theorem Own.dom {v : V} {x : OD} {f : List Addr} : Own K F H v x f → ∀ a ∈ f, ∃ o, H a = some o
 | .sh _, a, m => by cases m
 | .ol h r, a, m => by
  rcases List.mem_cons.mp m with rfl | m
  ·exact ⟨_, h⟩
  ·exact OwnL.dom r a m
 | .ot h r, a, m => by
  rcases List.mem_cons.mp m with rfl | m
  ·exact ⟨_, h⟩
  ·exact OwnL.dom r a m
 | .od h q r, a, m => by
  rcases List.mem_cons.mp m with rfl | m
  ·exact ⟨_, h⟩
  ·cases m
theorem OwnL.dom {v : List V} {x : List OD} {f : List Addr} : OwnL K F H v x f → ∀ a ∈ f, ∃ o, H a = some o
 | .nil, a, m => by cases m
 | .cons h r, a, m => by
  rcases List.mem_append.mp m with m | m
  ·exact Own.dom h a m
  ·exact OwnL.dom r a m
end
mutual
theorem Own.frz (e : Same F F') {v : V} {x : OD} {f : List Addr} : (∀ a ∈ f, ∀ o, H a = some o → F' a = some o) → Own K F H v x f → Rep K F' v x.er
 | _, .sh r => by rw [er_sh]; exact r.same e
 | k, .ol h r => by rw [OD.er]; exact .lst (RdK.of (k _ List.mem_cons_self _ h)) (OwnL.frz e (fun a m => k a (List.mem_cons_of_mem _ m)) r)
 | k, .ot h r => by rw [OD.er]; exact .tup (k _ List.mem_cons_self _ h) (OwnL.frz e (fun a m => k a (List.mem_cons_of_mem _ m)) r)
 | k, .od h q r => by rw [OD.er]; exact .dct (k _ List.mem_cons_self _ h) q (r.same e)
theorem OwnL.frz (e : Same F F') {v : List V} {x : List OD} {f : List Addr} : (∀ a ∈ f, ∀ o, H a = some o → F' a = some o) → OwnL K F H v x f → RepAll K F' v (OD.ers x)
 | _, .nil => by rw [OD.ers]; exact .nil
 | k, .cons h r => by rw [OD.ers]; exact .cons (Own.frz e (fun a m => k a (List.mem_append_left _ m)) h) (OwnL.frz e (fun a m => k a (List.mem_append_right _ m)) r)
end
theorem OwnL.len {v : List V} {x : List OD} {f : List Addr} (o : OwnL K F H v x f) : v.length = x.length := by
 induction x generalizing v f with
 | nil => cases o; rfl
 | cons a r ih =>
  cases o with
  | cons h t => exact congrArg (· + 1) (ih t)
theorem OwnL.app {v w : List V} {x y : List OD} {f g : List Addr} (o : OwnL K F H v x f) (q : OwnL K F H w y g) : OwnL K F H (v ++ w) (x ++ y) (f ++ g) := by
 induction x generalizing v f with
 | nil => cases o; exact q
 | cons a r ih =>
  cases o with
  | cons h t =>
   rw [List.cons_append, List.cons_append, List.append_assoc]
   exact .cons h (ih t)
theorem OwnL.shs : ∀ {v : List V} {ds : List PyData}, RepAll K F v ds → OwnL K F H v (ds.map OD.sh) []
 | _, _, .nil => .nil
 | _, _, .cons h r => .cons (f := []) (.sh h) (OwnL.shs r)
theorem RepAll.len : ∀ {v : List V} {ds : List PyData}, RepAll K F v ds → v.length = ds.length
 | _, _, .nil => rfl
 | _, _, .cons _ r => by rw [List.length_cons, List.length_cons, RepAll.len r]
theorem RepAll.get : ∀ {v : List V} {ds : List PyData} {i : Nat} {d : PyData}, RepAll K F v ds → ds[i]? = some d → ∃ x, v[i]? = some x ∧ Rep K F x d
 | _, _, _, _, .nil, e => by simp at e
 | _, _, 0, _, .cons h _, e => by
  simp at e
  subst e
  exact ⟨_, rfl, h⟩
 | _, _, i + 1, _, .cons _ r, e => by
  obtain ⟨x, h1, h2⟩ := RepAll.get (i := i) r (by simpa using e)
  exact ⟨x, by simpa using h1, h2⟩
theorem RepAll.app : ∀ {v w : List V} {ds es : List PyData}, RepAll K F v ds → RepAll K F w es → RepAll K F (v ++ w) (ds ++ es)
 | _, _, _, _, .nil, q => q
 | _, _, _, _, .cons h r, q => .cons h (RepAll.app r q)
theorem RepAll.take : ∀ {v : List V} {ds : List PyData} (n : Nat), RepAll K F v ds → RepAll K F (v.take n) (ds.take n)
 | _, _, 0, _ => by rw [List.take_zero, List.take_zero]; exact .nil
 | _, _, _ + 1, .nil => .nil
 | _, _, n + 1, .cons h r => .cons h (RepAll.take n r)
theorem RepAll.drop : ∀ {v : List V} {ds : List PyData} (n : Nat), RepAll K F v ds → RepAll K F (v.drop n) (ds.drop n)
 | _, _, 0, r => r
 | _, _, _ + 1, .nil => .nil
 | _, _, n + 1, .cons h r => RepAll.drop n r
theorem RepAll.toInts : ∀ {v : List V} {ns : List Int}, RepAll K F v (ns.map PyData.int) → v = ns.map V.int
 | _, [], .nil => rfl
 | _, n :: ns, .cons h r => by
  cases h
  rw [RepAll.toInts r]
  rfl
theorem RepAll.ofInts : ∀ (ns : List Int), RepAll K F (ns.map V.int) (ns.map PyData.int)
 | [] => .nil
 | n :: ns => .cons (.int n) (RepAll.ofInts ns)
end
structure Ext (F H F' H' : Hp) : Prop where
 ff : Same F F'
 hh : Same H H'
 fh : Same F' H'
 nw : ∀ a, H a ≠ none → F a = none → F' a = none
theorem some_ne {α : Type} {o : Option α} {x : α} (h : o = some x) : o ≠ none := by
 rw [h]
 exact Option.some_ne_none x
theorem _root_.L2.Same.dom {H H' : Hp} (e : Same H H') {a : Addr} (h : H a ≠ none) : H' a ≠ none := by
 cases q : H a with
 | none => exact absurd q h
 | some o => exact some_ne (e a o q)
section
variable {F H F1 H1 F2 H2 : Hp}
theorem Ext.refl (h : Same F H) : Ext F H F H := ⟨Same.refl _, Same.refl _, h, fun _ _ z => z⟩
theorem Ext.trans (a : Ext F H F1 H1) (b : Ext F1 H1 F2 H2) : Ext F H F2 H2 := ⟨a.ff.trans b.ff, a.hh.trans b.hh, b.fh, fun x h n => b.nw x (a.hh.dom h) (a.nw x h n)⟩
theorem Ext.alloc {p : Addr} {o : HO} (h : Same F H) (hp : H p = none) : Ext F H F (upd H p o) :=
 ⟨Same.refl _, (Same.refl H).upd hp, (Same.upd h (h.free hp)), fun _ _ z => z⟩
theorem Ext.allocF {p : Addr} {o : HO} (h : Same F H) (hp : H p = none) : Ext F H (upd F p o) (upd H p o) := by
 refine ⟨(Same.refl F).upd (h.free hp), (Same.refl H).upd hp, fun b u q => ?_, fun a ha n => ?_⟩
 ·by_cases e : b = p
  ·subst e
   rw [upd_same] at q ⊢
   exact q
  ·rw [upd_ne e] at q ⊢
   exact h b u q
 ·have e : a ≠ p := by
   rintro rfl
   exact ha hp
  rw [upd_ne e]
  exact n
end
structure Res (K : PySem.W.Frag) (F H : Hp) (v : V) (x : OD) (f : List Addr) : Prop where
 own : Own K F H v x f
 nd : f.Nodup
 fr : ∀ a ∈ f, F a = none
structure ResL (K : PySem.W.Frag) (F H : Hp) (v : List V) (x : List OD) (f : List Addr) : Prop where
 own : OwnL K F H v x f
 nd : f.Nodup
 fr : ∀ a ∈ f, F a = none
open Classical in
noncomputable def frzH (F H : Hp) (f : List Addr) : Hp := fun a => if a ∈ f then H a else F a
theorem frzH_in {F H : Hp} {f : List Addr} {a : Addr} (h : a ∈ f) : frzH F H f a = H a := by unfold frzH; rw [if_pos h]
theorem frzH_out {F H : Hp} {f : List Addr} {a : Addr} (h : a ∉ f) : frzH F H f a = F a := by unfold frzH; rw [if_neg h]
section
variable {K : PySem.W.Frag} {F H F' H' F1 H1 : Hp} {v : V} {x : OD} {f : List Addr} {vs : List V} {xs : List OD}
theorem frzH_ff (n : ∀ a ∈ f, F a = none) : Same F (frzH F H f) := fun a o q => by
 rw [frzH_out]
 ·exact q
 ·intro m
  rw [n a m] at q
  cases q
theorem frzH_fh (h : Same F H) : Same (frzH F H f) H := fun a o q => by
 by_cases m : a ∈ f
 ·rw [frzH_in m] at q
  exact q
 ·rw [frzH_out m] at q
  exact h a o q
theorem Res.ext (r : Res K F H v x f) (e : Ext F H F' H') : Res K F' H' v x f :=
 ⟨r.own.mono e.ff fun a _ o q => e.hh a o q, r.nd, fun a m => e.nw a (let ⟨_, q⟩ := r.own.dom a m; some_ne q) (r.fr a m)⟩
theorem ResL.ext (r : ResL K F H vs xs f) (e : Ext F H F' H') : ResL K F' H' vs xs f :=
 ⟨r.own.mono e.ff fun a _ o q => e.hh a o q, r.nd, fun a m => e.nw a (let ⟨_, q⟩ := r.own.dom a m; some_ne q) (r.fr a m)⟩
theorem frz_ext (e : Ext F H F1 H1) (n : ∀ a ∈ f, F1 a = none) (w : ∀ a ∈ f, H a = none) : Ext F H (frzH F1 H1 f) H1 :=
 ⟨e.ff.trans (frzH_ff n), e.hh, frzH_fh e.fh, fun a h z => by
  have m : a ∉ f := fun m => h (w a m)
  rw [frzH_out m]
  exact e.nw a h z⟩
theorem Res.frz (e : Ext F H F1 H1) (r : Res K F1 H1 v x f) (w : ∀ a ∈ f, H a = none) : ∃ G, Ext F H G H1 ∧ Rep K G v x.er :=
 ⟨frzH F1 H1 f, frz_ext e r.fr w, r.own.frz (frzH_ff r.fr) fun a m o q => by rw [frzH_in m]; exact q⟩
theorem ResL.frz (e : Ext F H F1 H1) (r : ResL K F1 H1 vs xs f) (w : ∀ a ∈ f, H a = none) : ∃ G, Ext F H G H1 ∧ RepAll K G vs (xs.map OD.er) :=
 ⟨frzH F1 H1 f, frz_ext e r.fr w, by rw [← ers_map]; exact r.own.frz (frzH_ff r.fr) fun a m o q => by rw [frzH_in m]; exact q⟩
theorem Res.sh {d : PyData} (r : Rep K F v d) : Res K F H v (.sh d) [] := ⟨.sh r, List.nodup_nil, fun _ m => by cases m⟩
theorem ResL.nil : ResL K F H [] [] [] := ⟨.nil, List.nodup_nil, fun _ m => by cases m⟩
theorem ResL.cons {f1 : List Addr} (r : Res K F H v x f1) (q : ResL K F H vs xs f) (d : ∀ a ∈ f1, a ∉ f) : ResL K F H (v :: vs) (x :: xs) (f1 ++ f) :=
 ⟨.cons r.own q.own, List.nodup_append.mpr ⟨r.nd, q.nd, fun a m b n e => d a m (e ▸ n)⟩, fun a m => (List.mem_append.mp m).elim (r.fr a) (q.fr a)⟩
end
inductive OwnS (K : PySem.W.Frag) (F H : Hp) : St → Env → List Addr → Prop
 | nil : OwnS K F H [] [] []
 | no {v : Option V} {σ : St} {ρ : Env} {g : List Addr} : OwnS K F H σ ρ g → OwnS K F H (v :: σ) (none :: ρ) g
 | yes {v : V} {x : OD} {f : List Addr} {σ : St} {ρ : Env} {g : List Addr} : Own K F H v x f → OwnS K F H σ ρ g → OwnS K F H (some v :: σ) (some x :: ρ) (f ++ g)
section
variable {K : PySem.W.Frag} {F H F' H' : Hp}
theorem OwnS.mono (e : Same F F') {σ : St} {ρ : Env} {g : List Addr} (k : ∀ a ∈ g, ∀ o, H a = some o → H' a = some o) (S : OwnS K F H σ ρ g) : OwnS K F' H' σ ρ g := by
 induction S with
 | nil => exact .nil
 | no r ih => exact .no (ih k)
 | yes h r ih => exact .yes (h.mono e fun a m => k a (List.mem_append_left _ m)) (ih fun a m => k a (List.mem_append_right _ m))
theorem OwnS.dom {σ : St} {ρ : Env} {g : List Addr} (S : OwnS K F H σ ρ g) : ∀ a ∈ g, ∃ o, H a = some o := by
 induction S with
 | nil => exact fun a m => by cases m
 | no r ih => exact ih
 | yes h r ih => exact fun a m => (List.mem_append.mp m).elim (h.dom a) (ih a)
theorem OwnS.at {σ : St} {ρ : Env} {g : List Addr} (S : OwnS K F H σ ρ g) : ∀ {i : Nat} {x : OD}, ρ[i]? = some (some x) →
  ∃ v f g1 g2, σ[i]? = some (some v) ∧ Own K F H v x f ∧ g = g1 ++ (f ++ g2) ∧ ∀ (F' H' : Hp), Same F F' → (∀ a ∈ g1 ++ g2, ∀ o, H a = some o → H' a = some o) → ∀ v' x' f', Own K F' H' v' x' f' → OwnS K F' H' (σ.set i (some v')) (ρ.set i (some x')) (g1 ++ (f' ++ g2)) := by
 induction S with
 | nil => intro i x e; simp at e
 | no r ih =>
  intro i x e
  cases i with
  | zero => simp at e
  | succ i =>
   obtain ⟨v, f, g1, g2, h1, h2, h3, h4⟩ := ih (i := i) (by simpa using e)
   exact ⟨v, f, g1, g2, by simpa using h1, h2, h3, fun F' H' s k v' x' f' o => .no (h4 F' H' s k v' x' f' o)⟩
 | @yes v0 x0 f0 σ0 ρ0 g0 h r ih =>
  intro i x e
  cases i with
  | zero =>
   simp at e
   subst e
   exact ⟨_, f0, [], g0, rfl, h, rfl, fun F' H' s k v' x' f' o => OwnS.yes (f := f') (g := g0) o (r.mono s k)⟩
  | succ i =>
   obtain ⟨v, f, g1, g2, h1, h2, h3, h4⟩ := ih (i := i) (by simpa using e)
   refine ⟨v, f, f0 ++ g1, g2, by simpa using h1, h2, by rw [h3, List.append_assoc], fun F' H' s k v' x' f' o => ?_⟩
   rw [List.append_assoc]
   exact .yes (h.mono s fun a m => k a (List.mem_append_left _ (List.mem_append_left _ m))) (h4 F' H' s (fun a m => k a (by simp at m ⊢; rcases m with m | m <;> simp [m])) v' x' f' o)
theorem OwnS.put {σ : St} {ρ : Env} {g : List Addr} (S : OwnS K F H σ ρ g) : ∀ {i : Nat}, i < ρ.length →
  ∃ f g1 g2, g = g1 ++ (f ++ g2) ∧ ∀ (F' H' : Hp), Same F F' → (∀ a ∈ g1 ++ g2, ∀ o, H a = some o → H' a = some o) → ∀ v' x' f', Own K F' H' v' x' f' → OwnS K F' H' (σ.set i (some v')) (ρ.set i (some x')) (g1 ++ (f' ++ g2)) := by
 induction S with
 | nil => intro i e; simp at e
 | @no v0 σ0 ρ0 g0 r ih =>
  intro i e
  cases i with
  | zero => exact ⟨[], [], g0, rfl, fun F' H' s k v' x' f' o => OwnS.yes (f := f') (g := g0) o (r.mono s k)⟩
  | succ i =>
   obtain ⟨f, g1, g2, h3, h4⟩ := ih (i := i) (by simpa using e)
   exact ⟨f, g1, g2, h3, fun F' H' s k v' x' f' o => .no (h4 F' H' s k v' x' f' o)⟩
 | @yes v0 x0 f0 σ0 ρ0 g0 h r ih =>
  intro i e
  cases i with
  | zero => exact ⟨f0, [], g0, rfl, fun F' H' s k v' x' f' o => OwnS.yes (f := f') (g := g0) o (r.mono s k)⟩
  | succ i =>
   obtain ⟨f, g1, g2, h3, h4⟩ := ih (i := i) (by simpa using e)
   refine ⟨f, f0 ++ g1, g2, by rw [h3, List.append_assoc], fun F' H' s k v' x' f' o => ?_⟩
   rw [List.append_assoc]
   exact .yes (h.mono s fun a m => k a (List.mem_append_left _ (List.mem_append_left _ m))) (h4 F' H' s (fun a m => k a (by simp at m ⊢; rcases m with m | m <;> simp [m])) v' x' f' o)
theorem OwnS.erase (e : Same F H) {σ : St} {ρ : Env} {g : List Addr} (S : OwnS K F H σ ρ g) : OwnS K H H σ (L3.erase ρ) [] := by
 induction S with
 | nil => exact .nil
 | no r ih => exact .no ih
 | yes h r ih => exact .yes (f := []) (.sh (h.frz e fun _ _ _ q => q)) ih
theorem OwnS.len {σ : St} {ρ : Env} {g : List Addr} (S : OwnS K F H σ ρ g) : σ.length = ρ.length := by
 induction S with
 | nil => rfl
 | no r ih => exact congrArg (· + 1) ih
 | yes h r ih => exact congrArg (· + 1) ih
end
structure Stt (K : PySem.W.Frag) (n : Nat) (F H : Hp) (σ : St) (ρ : Env) (fp : List Addr) : Prop where
 same : Same F H
 own : OwnS K F H σ ρ fp
 nd : fp.Nodup
 fr : ∀ a ∈ fp, F a = none
 len : ρ.length = n
structure Stp (F H : Hp) (fp : List Addr) (F' H' : Hp) (fp' : List Addr) : Prop where
 ff : Same F F'
 keep : ∀ a o, H a = some o → a ∉ fp → H' a = some o
 new : ∀ a ∈ fp', a ∈ fp ∨ H a = none
 nw : ∀ a, H a ≠ none → a ∉ fp → F a = none → F' a = none
section
variable {K : PySem.W.Frag} {n : Nat} {F H F' H' F1 H1 F2 H2 : Hp} {σ : St} {ρ : Env} {fp fp1 fp2 : List Addr}
theorem Stt.ext (s : Stt K n F H σ ρ fp) (e : Ext F H F' H') : Stt K n F' H' σ ρ fp :=
 ⟨e.fh, s.own.mono e.ff fun a _ o q => e.hh a o q, s.nd, fun a m => e.nw a (let ⟨_, q⟩ := s.own.dom a m; some_ne q) (s.fr a m), s.len⟩
theorem Stt.erase (s : Stt K n F H σ ρ fp) : Stt K n H H σ (L3.erase ρ) [] :=
 ⟨Same.refl _, s.own.erase s.same, List.nodup_nil, (fun _ m => by cases m), (by unfold L3.erase; rw [List.length_map]; exact s.len)⟩
theorem Stp.refl : Stp F H fp F H fp := ⟨Same.refl _, fun _ _ h _ => h, fun _ m => .inl m, fun _ _ _ z => z⟩
theorem Ext.stp (e : Ext F H F' H') : Stp F H fp F' H' fp := ⟨e.ff, fun a o h _ => e.hh a o h, fun _ m => .inl m, fun a h _ z => e.nw a h z⟩
theorem Stp.out (s : Stp F H fp F1 H1 fp1) {a : Addr} (h : H a ≠ none) (m : a ∉ fp) : a ∉ fp1 := fun q => (s.new a q).elim m h
theorem Stp.trans (s : Stp F H fp F1 H1 fp1) (t : Stp F1 H1 fp1 F2 H2 fp2) : Stp F H fp F2 H2 fp2 where
 ff := s.ff.trans t.ff
 keep a o h m := t.keep a o (s.keep a o h m) (s.out (some_ne h) m)
 new a m := (t.new a m).elim (s.new a) fun z => by
  by_cases q : a ∈ fp
  ·exact .inl q
  ·refine .inr ?_
   cases w : H a with
   | none => rfl
   | some o =>
    rw [s.keep a o w q] at z
    cases z
 nw a h m z := t.nw a (by
  cases w : H a with
  | none => exact absurd w h
  | some o => exact some_ne (s.keep a o w m)) (s.out h m) (s.nw a h m z)
theorem Stt.set (s : Stt K n F H σ ρ fp) {i : Nat} (hi : i < n) {v : V} {x : OD} {fx : List Addr} (r : Res K F H v x fx) (d : ∀ a ∈ fx, a ∉ fp) :
  ∃ fp', Stt K n F H (σ.set i (some v)) (ρ.set i (some x)) fp' ∧ ∀ a ∈ fp', a ∈ fp ∨ a ∈ fx := by
 obtain ⟨f, g1, g2, e, k⟩ := s.own.put (i := i) (by rw [s.len]; exact hi)
 subst e
 have nd := s.nd
 have sub : ∀ a ∈ g1 ++ (fx ++ g2), a ∈ g1 ++ (f ++ g2) ∨ a ∈ fx := fun a m => by
  simp only [List.mem_append] at m ⊢
  rcases m with m | m | m
  ·exact .inl (.inl m)
  ·exact .inr m
  ·exact .inl (.inr (.inr m))
 refine ⟨g1 ++ (fx ++ g2), ⟨s.same, k F H (Same.refl _) (fun _ _ _ q => q) v x fx r.own, ?_, fun a m => (sub a m).elim (s.fr a) (r.fr a), by rw [List.length_set]; exact s.len⟩, sub⟩
 simp only [List.nodup_append, List.mem_append] at nd d ⊢
 obtain ⟨n1, ⟨n2, n3, n4⟩, n5⟩ := nd
 refine ⟨n1, ⟨r.nd, n3, fun a ha b hb e => d a ha (.inr (.inr (e ▸ hb)))⟩, fun a ha b hb e => ?_⟩
 rcases hb with hb | hb
 ·exact d b hb (.inl (e ▸ ha))
 ·exact n5 a ha b (.inr hb) e
end
end L3
namespace L3
open PySem L2
structure Mx where
 K : PySem.W.Frag
 mg : Str → Option Value
 E : XK
noncomputable def XOk (M : Mx) (c : Str) (H : Hp) (fp : List Addr) : Prop := ∃ cv, M.mg c = some cv ∧ ∀ od H', (∀ a o, H a = some o → a ∉ fp → H' a = some o) → M.E cv od H'
noncomputable def Post (M : Mx) (H : Hp) (fp : List Addr) {α : Type} (P : α → Prop) : R α → Prop
 | .ok a => P a
 | .ex c => XOk M c H fp
 | .bad => False
noncomputable def OkE (M : Mx) (F H : Hp) (Q : VK) (x : OD) : Prop := ∀ v F' H' fx, Ext F H F' H' → Res M.K F' H' v x fx → (∀ a ∈ fx, H a = none) → Q v H'
noncomputable def OkL (M : Mx) (F H : Hp) (Q : List V → Hp → Prop) (x : List OD) : Prop := ∀ v F' H' fx, Ext F H F' H' → ResL M.K F' H' v x fx → (∀ a ∈ fx, H a = none) → Q v H'
noncomputable def OkH (F H : Hp) {α : Type} (Q : α → Hp → Prop) (x : α) : Prop := ∀ F' H', Ext F H F' H' → Q x H'
section
variable {M : Mx} {F H F1 H1 F2 H2 : Hp} {fp fp1 : List Addr} {α β : Type} {P P' : α → Prop} {r : R α}
theorem Post.bind {P : β → Prop} {g : α → R β} (h : Post M H fp P (r.bind g)) : Post M H fp (fun a => Post M H fp P (g a)) r := by
 cases r with
 | ok a => exact h
 | ex c => exact h
 | bad => exact h
theorem Post.mono (h : Post M H fp P r) (k : ∀ a, P a → P' a) : Post M H fp P' r := by
 cases r with
 | ok a => exact k a h
 | ex c => exact h
 | bad => exact h
theorem XOk.stp (s : Stp F H fp F1 H1 fp1) {c : Str} (h : XOk M c H fp) : XOk M c H1 fp1 :=
 let ⟨cv, e, k⟩ := h
 ⟨cv, e, fun od H' q => k od H' fun a o z m => q a o (s.keep a o z m) (s.out (some_ne z) m)⟩
theorem Post.stp (s : Stp F H fp F1 H1 fp1) (h : Post M H fp P r) : Post M H1 fp1 P r := by
 cases r with
 | ok a => exact h
 | ex c => exact XOk.stp s h
 | bad => exact h
theorem Post.ext (e : Ext F H F1 H1) (h : Post M H fp P r) : Post M H1 fp P r := h.stp e.stp
theorem Post.nofp (h : Post M H fp P r) : Post M H [] P r := by
 cases r with
 | ok a => exact h
 | ex c =>
  obtain ⟨cv, e, k⟩ := h
  exact ⟨cv, e, fun od H' q => k od H' fun a o z _ => q a o z (by simp)⟩
 | bad => exact h
theorem OkE.pre {Q : VK} {x : OD} (e : Ext F H F1 H1) (h : OkE M F H Q x) : OkE M F1 H1 Q x := fun v F' H' fx e' r w => h v F' H' fx (e.trans e') r fun a m => e.hh.free (w a m)
theorem OkL.pre {Q : List V → Hp → Prop} {x : List OD} (e : Ext F H F1 H1) (h : OkL M F H Q x) : OkL M F1 H1 Q x := fun v F' H' fx e' r w => h v F' H' fx (e.trans e') r fun a m => e.hh.free (w a m)
theorem OkH.pre {Q : α → Hp → Prop} {x : α} (e : Ext F H F1 H1) (h : OkH F H Q x) : OkH F1 H1 Q x := fun F' H' e' => h F' H' (e.trans e')
theorem OkE.val {Q : VK} {d : PyData} {v : V} (s : Same F H) (h : OkE M F H Q (.sh d)) (r : Rep M.K F v d) : Q v H := h v F H [] (Ext.refl s) (Res.sh r) fun _ m => by cases m
theorem OkE.lst {Q : VK} {xs : List OD} {vs : List V} {f : List Addr} {p : Addr} (s : Same F H) (h : OkE M F1 H1 Q (.ol xs)) (e : Ext F1 H1 F H) (r : ResL M.K F H vs xs f) (w : ∀ a ∈ f, H1 a = none) (hp : H p = none) : Q (.ref p) (upd H p (.lst vs)) := by
 have np : p ∉ f := fun m => by
  obtain ⟨o, q⟩ := r.own.dom p m
  rw [hp] at q
  cases q
 refine h (.ref p) F _ (p :: f) (e.trans (Ext.alloc s hp)) ⟨.ol upd_same (r.own.mono (Same.refl _) fun a m o q => ?_), List.nodup_cons.mpr ⟨np, r.nd⟩, fun a m => ?_⟩ fun a m => ?_
 ·rw [upd_ne (ne_of_none q hp)]
  exact q
 ·rcases List.mem_cons.mp m with rfl | m
  ·exact s.free hp
  ·exact r.fr a m
 ·rcases List.mem_cons.mp m with rfl | m
  ·exact e.hh.free hp
  ·exact w a m
theorem OkE.tup {Q : VK} {xs : List OD} {vs : List V} {f : List Addr} {p : Addr} (s : Same F H) (h : OkE M F1 H1 Q (.ot xs)) (e : Ext F1 H1 F H) (r : ResL M.K F H vs xs f) (w : ∀ a ∈ f, H1 a = none) (hp : H p = none) : Q (.ref p) (upd H p (.tup vs)) := by
 have np : p ∉ f := fun m => by
  obtain ⟨o, q⟩ := r.own.dom p m
  rw [hp] at q
  cases q
 refine h (.ref p) F _ (p :: f) (e.trans (Ext.alloc s hp)) ⟨.ot upd_same (r.own.mono (Same.refl _) fun a m o q => ?_), List.nodup_cons.mpr ⟨np, r.nd⟩, fun a m => ?_⟩ fun a m => ?_
 ·rw [upd_ne (ne_of_none q hp)]
  exact q
 ·rcases List.mem_cons.mp m with rfl | m
  ·exact s.free hp
  ·exact r.fr a m
 ·rcases List.mem_cons.mp m with rfl | m
  ·exact e.hh.free hp
  ·exact w a m
theorem OkE.lstD {Q : VK} {ds : List PyData} {vs : List V} {p : Addr} (s : Same F H) (h : OkE M F H Q (.ol (ds.map OD.sh))) (r : RepAll M.K F vs ds) (hp : H p = none) : Q (.ref p) (upd H p (.lst vs)) :=
 OkE.lst s h (Ext.refl s) ⟨OwnL.shs r, List.nodup_nil, fun _ m => by cases m⟩ (fun _ m => by cases m) hp
theorem OkE.tupF {Q : VK} {ds : List PyData} {vs : List V} {p : Addr} (s : Same F H) (h : OkE M F1 H1 Q (.sh (.tuple ds))) (e : Ext F1 H1 F H) (r : RepAll M.K F vs ds) (hp : H p = none) : Q (.ref p) (upd H p (.tup vs)) :=
 h (.ref p) (upd F p (.tup vs)) _ [] (e.trans (Ext.allocF s hp)) (Res.sh (.tup upd_same (r.same ((Same.refl F).upd (s.free hp))))) fun _ m => by cases m
theorem OwnL.of_shs {K : PySem.W.Frag} {vs : List V} {xs : List OD} {f : List Addr} {ds : List PyData} (o : OwnL K F H vs xs f) (e : L3.shs xs = some ds) : f = [] ∧ RepAll K F vs ds := by
 induction xs generalizing vs f ds with
 | nil =>
  cases o
  unfold L3.shs at e
  cases e
  exact ⟨rfl, .nil⟩
 | cons a0 r0 ih0 =>
 cases o with
 | cons h0 r =>
  have ih := fun ds => ih0 (ds := ds) r
  cases h0 with
  | sh h =>
   unfold L3.shs at e
   split at e
   ·rename_i es q
    cases e
    obtain ⟨rfl, k⟩ := ih _ q
    exact ⟨rfl, .cons h k⟩
   ·cases e
  | ol _ _ =>
   unfold L3.shs at e
   cases e
  | ot _ _ =>
   unfold L3.shs at e
   cases e
  | od _ _ _ =>
   unfold L3.shs at e
   cases e
end
noncomputable def tD (M : Mx) (n : Nat) (f : Fe) : TE := fun σ H Q => ∃ F ρ fp, Stt M.K n F H σ ρ fp ∧ Post M H fp (OkE M F H Q) (f ρ)
noncomputable def tA (M : Mx) (n : Nat) (f : Fa) : TA := fun σ H Q => ∃ F ρ fp, Stt M.K n F H σ ρ fp ∧ Post M H fp (OkL M F H Q) (f ρ)
noncomputable def tT (M : Mx) (n : Nat) (f : Ft) : TT := fun σ H Q => ∃ F ρ fp, Stt M.K n F H σ ρ fp ∧ Post M H fp (OkH F H Q) (f ρ)
noncomputable def tO (M : Mx) (n : Nat) (f : Fo) : TO := fun σ H Q => ∃ F ρ fp, Stt M.K n F H σ ρ fp ∧ Post M H fp (OkH F H Q) (f ρ)
noncomputable def Ok2 (M : Mx) (r : R2) (g : PyData → PyData → R OD) : Prop := ∀ (x y : V) (dx dy : PyData) (F H : Hp) (fp : List Addr) (Q : VK), Same F H → Rep M.K F x dx → Rep M.K F y dy → Post M H fp (OkE M F H Q) (g dx dy) → r x y H Q
noncomputable def Ok1 (M : Mx) (r : V → Hp → VK → Prop) (g : PyData → R OD) : Prop := ∀ (x : V) (dx : PyData) (F H : Hp) (fp : List Addr) (Q : VK), Same F H → Rep M.K F x dx → Post M H fp (OkE M F H Q) (g dx) → r x H Q
noncomputable def OkC (M : Mx) (r : List V → Hp → VK → Prop) (g : List PyData → R OD) : Prop := ∀ (x : List V) (dx : List PyData) (F H : Hp) (fp : List Addr) (Q : VK), Same F H → RepAll M.K F x dx → Post M H fp (OkE M F H Q) (g dx) → r x H Q
noncomputable def OkS (M : Mx) (r : V → Option Int → Option Int → Hp → VK → Prop) (g : PyData → Option Int → Option Int → R OD) : Prop := ∀ (x : V) (i j : Option Int) (dx : PyData) (F H : Hp) (fp : List Addr) (Q : VK), Same F H → Rep M.K F x dx → Post M H fp (OkE M F H Q) (g dx i j) → r x i j H Q
section
variable {M : Mx} {n : Nat} {σ : St} {H : Hp} {Q : VK} {QB : Bool → Hp → Prop} {fa fb : Fe} {ta tb : Ft}
theorem d_var {i : Nat} (h : tD M n (eVar i) σ H Q) : tVar i σ H Q := by
 obtain ⟨F, ρ, fp, S, p⟩ := h
 unfold eVar at p
 split at p
 ·rename_i d e
  obtain ⟨v, f, g1, g2, h1, h2, h3, h4⟩ := S.own.at e
  cases h2 with
  | sh r => exact ⟨v, h1, OkE.val S.same p r⟩
 ·exact p.elim
theorem d_c {v : V} {d : PyData} (hr : ∀ K F, Rep K F v d) (h : tD M n (eC d) σ H Q) : tC v σ H Q := by
 obtain ⟨F, ρ, fp, S, p⟩ := h
 exact OkE.val S.same p (hr _ _)
theorem d_op {r : R2} {g : PyData → PyData → R OD} (hg : Ok2 M r g) (h : tD M n (eOp g fa fb) σ H Q) : tOp r (tD M n fa) (tD M n fb) σ H Q := by
 obtain ⟨F, ρ, fp, S, p⟩ := h
 refine ⟨F, ρ, fp, S, (Post.bind p).mono fun x px v F1 H1 fx e1 r1 w1 => ?_⟩
 obtain ⟨G1, d1, k1⟩ := r1.frz e1 w1
 refine ⟨G1, ρ, fp, S.ext d1, ((Post.bind px).ext d1).mono fun y py v2 F2 H2 fy e2 r2 w2 => ?_⟩
 obtain ⟨G2, d2, k2⟩ := r2.frz e2 w2
 exact hg v v2 x.er y.er G2 H2 fp Q d2.fh (k1.same d2.ff) k2 ((py.ext (d1.trans d2)).mono fun z hz => hz.pre (d1.trans d2))
theorem d_un {r : V → Hp → VK → Prop} {g : PyData → R OD} (hg : Ok1 M r g) (h : tD M n (eUn g fa) σ H Q) : tUn r (tD M n fa) σ H Q := by
 obtain ⟨F, ρ, fp, S, p⟩ := h
 refine ⟨F, ρ, fp, S, (Post.bind p).mono fun x px v F1 H1 fx e1 r1 w1 => ?_⟩
 obtain ⟨G1, d1, k1⟩ := r1.frz e1 w1
 exact hg v x.er G1 H1 fp Q d1.fh k1 ((px.ext d1).mono fun z hz => hz.pre d1)
theorem truth_of {K : PySem.W.Frag} {F : Hp} {v : V} {d : PyData} {fp : List Addr} {P : Bool → Prop} (k : Rep K F v d) (p : Post M H fp P (truth d)) : ∃ b, v = .bl b ∧ P b := by
 cases d with
 | bool b =>
  cases k
  exact ⟨b, rfl, p⟩
 | none => exact p.elim
 | int _ => exact p.elim
 | str _ => exact p.elim
 | list _ => exact p.elim
 | tuple _ => exact p.elim
 | dict _ => exact p.elim
theorem d_test (h : tT M n (eTest fa) σ H QB) : tTest (tD M n fa) σ H QB := by
 obtain ⟨F, ρ, fp, S, p⟩ := h
 refine ⟨F, ρ, fp, S, (Post.bind p).mono fun x px v F1 H1 fx e1 r1 w1 => ?_⟩
 obtain ⟨G1, d1, k1⟩ := r1.frz e1 w1
 obtain ⟨b, rfl, q⟩ := truth_of k1 px
 exact ⟨b, rfl, q G1 H1 d1⟩
theorem d_b (h : tT M n (eTest fa) σ H QB) : tB (tD M n fa) σ H QB := d_test h
theorem d_orT (h : tT M n (eOrT ta tb) σ H QB) : tOr (tT M n ta) (tT M n tb) σ H QB := by
 obtain ⟨F, ρ, fp, S, p⟩ := h
 refine ⟨F, ρ, fp, S, (Post.bind p).mono fun c pc F1 H1 e1 => ?_⟩
 cases c with
 | true =>
  rw [if_pos rfl] at pc ⊢
  exact pc F1 H1 e1
 | false =>
  rw [if_neg Bool.false_ne_true] at pc ⊢
  exact ⟨F1, ρ, fp, S.ext e1, (pc.ext e1).mono fun b hb => hb.pre e1⟩
theorem d_notT (h : tT M n (eNotT ta) σ H QB) : tNot (tT M n ta) σ H QB := by
 obtain ⟨F, ρ, fp, S, p⟩ := h
 exact ⟨F, ρ, fp, S, (Post.bind p).mono fun c pc F1 H1 e1 => pc F1 H1 e1⟩
theorem d_and (h : tD M n (eAnd fa fb) σ H Q) : tAndV (tD M n fa) (tD M n fb) σ H Q := by
 obtain ⟨F, ρ, fp, S, p⟩ := h
 refine ⟨F, ρ, fp, S, (Post.bind p).mono fun x px v F1 H1 fx e1 r1 w1 => ?_⟩
 obtain ⟨G1, d1, k1⟩ := r1.frz e1 w1
 obtain ⟨b, rfl, q⟩ := truth_of k1 (Post.bind px)
 refine ⟨b, rfl, ?_⟩
 cases b with
 | true =>
  rw [if_pos rfl] at q ⊢
  exact ⟨G1, ρ, fp, S.ext d1, (q.ext d1).mono fun z hz => hz.pre d1⟩
 | false =>
  rw [if_neg Bool.false_ne_true] at q ⊢
  exact OkE.val d1.fh (OkE.pre d1 q) (.bl _)
theorem d_not (h : tD M n (eNot fa) σ H Q) : tNotV (tD M n fa) σ H Q := by
 obtain ⟨F, ρ, fp, S, p⟩ := h
 refine ⟨F, ρ, fp, S, (Post.bind p).mono fun x px v F1 H1 fx e1 r1 w1 => ?_⟩
 obtain ⟨G1, d1, k1⟩ := r1.frz e1 w1
 obtain ⟨b, rfl, q⟩ := truth_of k1 (Post.bind px)
 exact ⟨b, rfl, OkE.val d1.fh (OkE.pre d1 q) (.bl _)⟩
theorem d_if (h : tD M n (eIf ta fa fb) σ H Q) : tIf (tT M n ta) (tD M n fa) (tD M n fb) σ H Q := by
 obtain ⟨F, ρ, fp, S, p⟩ := h
 refine ⟨F, ρ, fp, S, (Post.bind p).mono fun c pc F1 H1 e1 => ?_⟩
 cases c with
 | true =>
  rw [if_pos rfl] at pc ⊢
  exact ⟨F1, ρ, fp, S.ext e1, (pc.ext e1).mono fun b hb => hb.pre e1⟩
 | false =>
  rw [if_neg Bool.false_ne_true] at pc ⊢
  exact ⟨F1, ρ, fp, S.ext e1, (pc.ext e1).mono fun b hb => hb.pre e1⟩
theorem d_sh (h : tD M n (eSh fa) σ H Q) : tD M n fa σ H Q := by
 obtain ⟨F, ρ, fp, S, p⟩ := h
 refine ⟨F, ρ, fp, S, (Post.bind p).mono fun x px v F1 H1 fx e1 r1 w1 => ?_⟩
 obtain ⟨G1, d1, k1⟩ := r1.frz e1 w1
 exact OkE.val d1.fh (OkE.pre d1 px) k1
variable {QL : List V → Hp → Prop} {al : Fa}
theorem d_anil (h : tA M n aNil σ H QL) : tNil σ H QL := by
 obtain ⟨F, ρ, fp, S, p⟩ := h
 exact p [] F H [] (Ext.refl S.same) ResL.nil fun _ m => by cases m
theorem d_acons (h : tA M n (aCons fa al) σ H QL) : tCons (tD M n fa) (tA M n al) σ H QL := by
 obtain ⟨F, ρ, fp, S, p⟩ := h
 refine ⟨F, ρ, fp, S, (Post.bind p).mono fun x px v F1 H1 fx e1 r1 w1 => ?_⟩
 refine ⟨F1, ρ, fp, S.ext e1, ((Post.bind px).ext e1).mono fun xs pxs vs F2 H2 fxs e2 r2 w2 => ?_⟩
 refine pxs (v :: vs) F2 H2 (fx ++ fxs) (e1.trans e2) (ResL.cons (r1.ext e2) r2 fun a m q => ?_) fun a m => ?_
 ·obtain ⟨o, z⟩ := r1.own.dom a m
  rw [w2 a q] at z
  cases z
 ·rcases List.mem_append.mp m with m | m
  ·exact w1 a m
  ·exact e1.hh.free (w2 a m)
theorem big_le {k : Nat} (h : k ≤ BIG) : k ≤ sizeLine := Nat.le_trans h (by decide)
theorem big_lt {k : Nat} (h : k < BIG) : k < sizeLine := Nat.lt_of_lt_of_le h (by decide)
theorem d_lst (h : tD M n (eLst al) σ H Q) : tLst (tA M n al) σ H Q := by
 obtain ⟨F, ρ, fp, S, p⟩ := h
 refine ⟨F, ρ, fp, S, (Post.bind p).mono fun xs px vs F1 H1 fx e1 r1 w1 => ?_⟩
 by_cases hl : xs.length ≤ BIG
 ·rw [if_pos hl] at px
  exact ⟨by rw [r1.own.len]; exact big_le hl, fun a ha => OkE.lst e1.fh px e1 r1 w1 ha⟩
 ·rw [if_neg hl] at px
  exact px.elim
theorem d_tup (h : tD M n (eTup al) σ H Q) : tTup (tA M n al) σ H Q := by
 obtain ⟨F, ρ, fp, S, p⟩ := h
 refine ⟨F, ρ, fp, S, (Post.bind p).mono fun xs px vs F1 H1 fx e1 r1 w1 => ?_⟩
 by_cases hl : xs.length ≤ BIG
 ·rw [if_pos hl] at px
  refine ⟨by rw [r1.own.len]; exact big_le hl, fun a ha => ?_⟩
  unfold mkT at px
  split at px
  ·rename_i ds q
   obtain ⟨_, k⟩ := OwnL.of_shs r1.own q
   exact OkE.tupF e1.fh px e1 k ha
  ·exact OkE.tup e1.fh px e1 r1 w1 ha
 ·rw [if_neg hl] at px
  exact px.elim
noncomputable def sp3 (K : PySem.W.Frag) (mg : Str → Option Value) (f : Fn) : Sp := fun vs H Q E => ∃ F ds, Same F H ∧ RepAll K F vs ds ∧ Post ⟨K, mg, E⟩ H [] (OkE ⟨K, mg, E⟩ F H Q) (f ds)
theorem d_call {f : Fn} (h : tD M n (eCall f al) σ H Q) : tCall (sp3 M.K M.mg f) [] M.E (tA M n al) σ H Q := by
 obtain ⟨F, ρ, fp, S, p⟩ := h
 refine ⟨F, ρ, fp, S, (Post.bind p).mono fun xs px vs F1 H1 fx e1 r1 w1 => ?_⟩
 obtain ⟨G1, d1, k1⟩ := r1.frz e1 w1
 rw [List.append_nil]
 exact ⟨G1, xs.map OD.er, d1.fh, k1, (px.ext d1).nofp.mono fun z hz => hz.pre d1⟩
theorem d_cb {r : List V → Hp → VK → Prop} {g : List PyData → R OD} (hg : OkC M r g) (h : tD M n (eB g al) σ H Q) : tCB r (tA M n al) σ H Q := by
 obtain ⟨F, ρ, fp, S, p⟩ := h
 refine ⟨F, ρ, fp, S, (Post.bind p).mono fun xs px vs F1 H1 fx e1 r1 w1 => ?_⟩
 obtain ⟨G1, d1, k1⟩ := r1.frz e1 w1
 exact hg vs (xs.map OD.er) G1 H1 fp Q d1.fh k1 ((px.ext d1).mono fun z hz => hz.pre d1)
variable {QO : Option Int → Hp → Prop} {lo hi : Fo}
theorem d_onone (h : tO M n oNone σ H QO) : tNoPart σ H QO := by
 obtain ⟨F, ρ, fp, S, p⟩ := h
 exact p F H (Ext.refl S.same)
theorem d_osome (h : tO M n (oSome fa) σ H QO) : tPart (tD M n fa) σ H QO := by
 obtain ⟨F, ρ, fp, S, p⟩ := h
 refine ⟨F, ρ, fp, S, (Post.bind p).mono fun x px v F1 H1 fx e1 r1 w1 => ?_⟩
 obtain ⟨G1, d1, k1⟩ := r1.frz e1 w1
 generalize x.er = d at px k1
 cases d with
 | int i =>
  cases k1
  exact ⟨i, rfl, px G1 H1 d1⟩
 | none => exact px.elim
 | bool _ => exact px.elim
 | str _ => exact px.elim
 | list _ => exact px.elim
 | tuple _ => exact px.elim
 | dict _ => exact px.elim
theorem d_sl {r : V → Option Int → Option Int → Hp → VK → Prop} {g : PyData → Option Int → Option Int → R OD} (hg : OkS M r g) (h : tD M n (eSl g fa lo hi) σ H Q) : tSl r (tD M n fa) (tO M n lo) (tO M n hi) σ H Q := by
 obtain ⟨F, ρ, fp, S, p⟩ := h
 refine ⟨F, ρ, fp, S, (Post.bind p).mono fun x px v F1 H1 fx e1 r1 w1 => ?_⟩
 obtain ⟨G1, d1, k1⟩ := r1.frz e1 w1
 refine ⟨G1, ρ, fp, S.ext d1, ((Post.bind px).ext d1).mono fun i pi F2 H2 e2 => ?_⟩
 refine ⟨F2, ρ, fp, (S.ext d1).ext e2, ((Post.bind pi).ext (d1.trans e2)).mono fun j pj F3 H3 e3 => ?_⟩
 have e := (d1.trans e2).trans e3
 exact hg v i j x.er F3 H3 fp Q e3.fh ((k1.same e2.ff).same e3.ff) ((pj.ext e).mono fun z hz => hz.pre e)
end
end L3
namespace L3
open PySem L2
noncomputable def PostO (M : Mx) (n : Nat) (F H : Hp) (fp : List Addr) (D : Ends) : Out → Prop
 | .nx ρ => ∀ σ' F' H' fp', Stt M.K n F' H' σ' ρ fp' → Stp F H fp F' H' fp' → D.nx σ' H'
 | .bk ρ => ∀ σ' F' H' fp', Stt M.K n F' H' σ' ρ fp' → Stp F H fp F' H' fp' → D.bk σ' H'
 | .ct ρ => ∀ σ' F' H' fp', Stt M.K n F' H' σ' ρ fp' → Stp F H fp F' H' fp' → D.ct σ' H'
 | .rt x => ∀ v F' H' fx, Same F' H' → Res M.K F' H' v x fx → Stp F H fp F' H' fx → D.rt v H'
noncomputable def tS (M : Mx) (n : Nat) (f : Fs) : TS := fun D σ H => ∃ F ρ fp, Stt M.K n F H σ ρ fp ∧ Post M H fp (PostO M n F H fp D) (f ρ)
noncomputable def OkG (M : Mx) (n : Nat) (is : List Nat) (F H : Hp) (fp : List Addr) (σ : St) (Q : St → Hp → Prop) (ρ : Env) : Prop :=
 ∀ σ' F' H' fp', Stt M.K n F' H' σ' ρ fp' → Stp F H fp F' H' fp' → (∀ j, j ∉ is → σ'[j]? = σ[j]?) → Q σ' H'
noncomputable def tG (M : Mx) (n : Nat) (is : List Nat) (f : Fg) : TG := fun v σ H Q => ∃ F ρ fp x fx, Stt M.K n F H σ ρ fp ∧ Res M.K F H v x fx ∧ (∀ a ∈ fx, a ∉ fp) ∧ Post M H (fp ++ fx) (OkG M n is F H (fp ++ fx) σ Q) (f x ρ)
section
variable {M : Mx} {n : Nat} {F H F1 H1 F2 H2 : Hp} {fp fp1 fp2 : List Addr} {σ : St} {ρ : Env} {D : Ends}
theorem PostO.stp (s : Stp F H fp F1 H1 fp1) {o : Out} (h : PostO M n F H fp D o) : PostO M n F1 H1 fp1 D o := by
 cases o with
 | nx ρ => exact fun σ' F' H' fp' a b => h σ' F' H' fp' a (s.trans b)
 | bk ρ => exact fun σ' F' H' fp' a b => h σ' F' H' fp' a (s.trans b)
 | ct ρ => exact fun σ' F' H' fp' a b => h σ' F' H' fp' a (s.trans b)
 | rt x => exact fun v F' H' fx a b c => h v F' H' fx a b (s.trans c)
theorem PostS.stp (s : Stp F H fp F1 H1 fp1) {r : R Out} (h : Post M H fp (PostO M n F H fp D) r) : Post M H1 fp1 (PostO M n F1 H1 fp1 D) r := (h.stp s).mono fun o ho => ho.stp s
theorem Ext.stpN {fx : List Addr} (e : Ext F H F1 H1) (w : ∀ a ∈ fx, H a = none) : Stp F H fp F1 H1 (fp ++ fx) :=
 ⟨e.ff, fun a o h _ => e.hh a o h, fun a m => (List.mem_append.mp m).elim .inl fun m => .inr (w a m), fun a h _ z => e.nw a h z⟩
theorem Stp.sub (s : Stp F H fp F1 H1 fp1) (h : ∀ a ∈ fp2, a ∈ fp1) : Stp F H fp F1 H1 fp2 := ⟨s.ff, s.keep, fun a m => s.new a (h a m), s.nw⟩
theorem s_next (h : tS M n sNx D σ H) : tNext D σ H := by
 obtain ⟨F, ρ, fp, S, p⟩ := h
 exact p σ F H fp S Stp.refl
theorem s_seq {f g : Fs} (h : tS M n (sSeq f g) D σ H) : tSeq (tS M n f) (tS M n g) D σ H := by
 obtain ⟨F, ρ, fp, S, p⟩ := h
 refine ⟨F, ρ, fp, S, (Post.bind p).mono fun o po => ?_⟩
 cases o with
 | nx ρ1 => exact fun σ' F' H' fp' S' st => ⟨F', ρ1, fp', S', PostS.stp st po⟩
 | bk ρ => exact po
 | ct ρ => exact po
 | rt x => exact po
theorem s_if {t : Ft} {f g : Fs} (h : tS M n (sIf t f g) D σ H) : tIfS (tT M n t) (tS M n f) (tS M n g) D σ H := by
 obtain ⟨F, ρ, fp, S, p⟩ := h
 refine ⟨F, ρ, fp, S, (Post.bind p).mono fun c pc F1 H1 e1 => ?_⟩
 cases c with
 | true =>
  rw [if_pos rfl] at pc ⊢
  exact ⟨F1, ρ, fp, S.ext e1, PostS.stp e1.stp pc⟩
 | false =>
  rw [if_neg Bool.false_ne_true] at pc ⊢
  exact ⟨F1, ρ, fp, S.ext e1, PostS.stp e1.stp pc⟩
theorem s_ret {a : Fe} (h : tS M n (sRet a) D σ H) : tRet (tD M n a) D σ H := by
 obtain ⟨F, ρ, fp, S, p⟩ := h
 exact ⟨F, ρ, fp, S, (Post.bind p).mono fun x px v F1 H1 fx e1 r1 w1 => px v F1 H1 fx e1.fh r1 ((e1.stpN w1).sub fun a m => List.mem_append_right _ m)⟩
theorem s_asg {a : Fe} {is : List Nat} {g : Fg} (h : tS M n (sAsg a g) D σ H) : tAsg (tD M n a) (tG M n is g) D σ H := by
 obtain ⟨F, ρ, fp, S, p⟩ := h
 refine ⟨F, ρ, fp, S, (Post.bind p).mono fun x px v F1 H1 fx e1 r1 w1 => ?_⟩
 have st := e1.stpN (fp := fp) w1
 refine ⟨F1, ρ, fp, x, fx, S.ext e1, r1, fun a m q => ?_, ((Post.bind px).stp st).mono fun ρ' hρ σ' F' H' fp' S' s' _ => hρ σ' F' H' fp' S' (st.trans s')⟩
 obtain ⟨o, z⟩ := S.own.dom a q
 rw [w1 a m] at z
 cases z
theorem g_name {i : Nat} (hi : i < n) {v : V} {Q : St → Hp → Prop} (h : tG M n [i] (gNm i) v σ H Q) : gName i v σ H Q := by
 obtain ⟨F, ρ, fp, x, fx, S, r, d, p⟩ := h
 obtain ⟨fp', S', sub⟩ := S.set hi r d
 refine p _ F H fp' S' ⟨Same.refl _, fun _ _ h _ => h, fun a m => .inl (List.mem_append.mpr (sub a m)), fun _ _ _ z => z⟩ fun j hj => ?_
 have hne : i ≠ j := by
  rintro rfl
  exact hj (by simp)
 rw [List.getElem?_set_ne hne]
theorem s_set {a : Fe} {i : Nat} (hi : i < n) (h : tS M n (sSet i a) D σ H) : tAsg (tD M n a) (gName i) D σ H := by
 have h' : tS M n (sAsg a (gNm i)) D σ H := h
 obtain ⟨F, ρ, fp, S, p⟩ := s_asg (is := [i]) h'
 exact ⟨F, ρ, fp, S, p.mono fun x px v F1 H1 fx e1 r1 w1 => g_name hi (px v F1 H1 fx e1 r1 w1)⟩
theorem s_frz {f : Fs} {i : Nat} (h : tS M n (sFrz i f) D σ H) : tS M n f D σ H := by
 obtain ⟨F, ρ, fp, S, p⟩ := h
 unfold sFrz frz1 at p
 split at p
 ·rename_i x e
  obtain ⟨v, f, g1, g2, h1, h2, rfl, h4⟩ := S.own.at e
  have ff : ∀ a ∈ f, F a = none := fun a m => S.fr a (List.mem_append_right _ (List.mem_append_left _ m))
  have o := h4 (frzH F H f) H (frzH_ff ff) (fun _ _ _ q => q) v (.sh x.er) [] (.sh (h2.frz (frzH_ff ff) fun a m o q => by rw [frzH_in m]; exact q))
  have hs : σ.set i (some v) = σ := by
   apply List.ext_getElem?
   intro j
   by_cases hj : i = j
   ·subst hj
    rw [h1, List.getElem?_set_self (List.getElem?_eq_some_iff.mp h1).1]
   ·rw [List.getElem?_set_ne hj]
  rw [hs] at o
  have nd := S.nd
  simp only [List.nodup_append, List.mem_append] at nd
  obtain ⟨n1, ⟨n2, n3, n4⟩, n5⟩ := nd
  have sub : ∀ a ∈ g1 ++ ([] ++ g2), a ∈ g1 ++ (f ++ g2) ∧ a ∉ f := fun a m => by
   simp only [List.nil_append, List.mem_append] at m ⊢
   rcases m with m | m
   ·exact ⟨.inl m, fun z => n5 a m a (.inl z) rfl⟩
   ·exact ⟨.inr (.inr m), fun z => n4 a z a m rfl⟩
  have st : Stp F H (g1 ++ (f ++ g2)) (frzH F H f) H (g1 ++ ([] ++ g2)) := ⟨frzH_ff ff, fun _ _ h _ => h, fun a m => .inl (sub a m).1, fun a h m z => by
   rw [frzH_out fun w => m (List.mem_append_right _ (List.mem_append_left _ w))]
   exact z⟩
  refine ⟨frzH F H f, _, _, ⟨frzH_fh S.same, o, ?_, fun a m => ?_, by rw [List.length_set]; exact S.len⟩, PostS.stp st p⟩
  ·simp only [List.nil_append, List.nodup_append]
   exact ⟨n1, n3, fun a ha b hb => n5 a ha b (.inr hb)⟩
  ·rw [frzH_out (sub a m).2]
   exact S.fr a (sub a m).1
 ·exact ⟨F, ρ, fp, S, p⟩
end
noncomputable def Walks (K : PySem.W.Frag) (F : Hp) (J : It) (ds : List PyData) : Prop := ∀ i G H, Same F G → Same G H →
 (∀ d, ds[i]? = some d → J.go i H ∧ ∀ x H', J.yld i H x H' → ∃ G', Ext G H G' H' ∧ Rep K G' x d) ∧ (ds.length ≤ i → J.stop i H)
noncomputable def OkI (K : PySem.W.Frag) (F H : Hp) (R : It → Hp → Prop) (ds : List PyData) : Prop := ∀ J F' H', Ext F H F' H' → Walks K F' J ds → R J H'
noncomputable def tI (M : Mx) (n : Nat) (f : Fi) : TI := fun σ H R => ∃ F ρ fp, Stt M.K n F H σ ρ fp ∧ Post M H fp (OkI M.K F H R) (f ρ)
section
variable {M : Mx} {n : Nat} {F H : Hp} {σ : St} {D : Ends} {R' : It → Hp → Prop}
theorem i_list {a : Fe} (h : tI M n (iLst a) σ H R') : iList M.K (tD M n a) σ H R' := by
 obtain ⟨F, ρ, fp, S, p⟩ := h
 refine ⟨F, ρ, fp, S, (Post.bind p).mono fun x px v F1 H1 fx e1 r1 w1 => ?_⟩
 obtain ⟨G1, d1, k1⟩ := r1.frz e1 w1
 generalize x.er = d at px k1
 cases k1 with
 | @lst a vs ds h1 h2 =>
  refine ⟨a, rfl, ⟨vs, (h1.same d1.fh).sq⟩, px _ G1 H1 d1 fun i G H' s1 s2 => ?_⟩
  have hq := (h1.same (s1.trans s2)).sq
  refine ⟨fun d hd => ?_, fun hl => ⟨vs, hq, by rw [RepAll.len h2]; exact hl⟩⟩
  obtain ⟨u, hu, ru⟩ := RepAll.get h2 hd
  refine ⟨⟨vs, u, hq, hu⟩, fun x H2 y => ?_⟩
  obtain ⟨rfl, y⟩ := y
  have hx := y vs hq
  rw [hu] at hx
  cases hx
  exact ⟨G, Ext.refl s2, ru.same s1⟩
 | non => exact px.elim
 | bl _ => exact px.elim
 | int _ => exact px.elim
 | str _ => exact px.elim
 | dct _ _ _ => exact px.elim
 | ins _ _ _ => exact px.elim
 | tup _ _ => exact px.elim
theorem i_tup {a : Fe} (h : tI M n (iTp a) σ H R') : iTup M.K (tD M n a) σ H R' := by
 obtain ⟨F, ρ, fp, S, p⟩ := h
 refine ⟨F, ρ, fp, S, (Post.bind p).mono fun x px v F1 H1 fx e1 r1 w1 => ?_⟩
 obtain ⟨G1, d1, k1⟩ := r1.frz e1 w1
 generalize x.er = d at px k1
 cases k1 with
 | @tup a vs ds h1 h2 =>
  refine ⟨a, rfl, ⟨vs, SqT.of (d1.fh _ _ h1)⟩, px _ G1 H1 d1 fun i G H' s1 s2 => ?_⟩
  have hq : SqT M.K H' a vs := SqT.of ((s1.trans s2) _ _ h1)
  refine ⟨fun d hd => ?_, fun hl => ⟨vs, hq, by rw [RepAll.len h2]; exact hl⟩⟩
  obtain ⟨u, hu, ru⟩ := RepAll.get h2 hd
  refine ⟨⟨vs, u, hq, hu⟩, fun x H2 y => ?_⟩
  obtain ⟨rfl, y⟩ := y
  have hx := y vs hq
  rw [hu] at hx
  cases hx
  exact ⟨G, Ext.refl s2, ru.same s1⟩
 | non => exact px.elim
 | bl _ => exact px.elim
 | int _ => exact px.elim
 | str _ => exact px.elim
 | dct _ _ _ => exact px.elim
 | ins _ _ _ => exact px.elim
 | lst _ _ => exact px.elim
theorem walks_ints {K : PySem.W.Frag} (lo : Int) (k : Nat) : Walks K F (Itr lo k) (rngD lo k) := by
 intro i G H s1 s2
 unfold rngD
 refine ⟨fun d hd => ?_, fun hl => (show k ≤ i by simpa using hl)⟩
 rw [List.getElem?_map] at hd
 obtain ⟨j, hj, rfl⟩ := Option.map_eq_some_iff.mp hd
 obtain ⟨h1, h2⟩ := List.getElem?_eq_some_iff.mp hj
 have h3 : i = j := by simpa using h2
 subst h3
 refine ⟨(show i < k by simpa using h1), fun x H' y => ?_⟩
 obtain ⟨rfl, rfl⟩ := y
 exact ⟨G, Ext.refl s2, .int _⟩
theorem small62_iff {i : Int} : small62 i = true ↔ -(2 ^ 62) ≤ i ∧ i < 2 ^ 62 := by
 unfold small62
 rw [Bool.and_eq_true, decide_eq_true_eq, decide_eq_true_eq]
theorem i_r1 {a : Fe} (h : tI M n (iR1 a) σ H R') : iRng1 (tA M n (aCons a aNil)) σ H R' := by
 obtain ⟨F, ρ, fp, S, p⟩ := h
 refine ⟨F, ρ, fp, S, ?_⟩
 have p1 := Post.bind p
 show Post M H fp _ ((a ρ).bind fun x => R.ok [x])
 cases ha : a ρ with
 | bad => rw [ha] at p1; exact p1
 | ex c => rw [ha] at p1; exact p1
 | ok x =>
  rw [ha] at p1
  intro vs F1 H1 fx e1 r1 w1
  obtain ⟨G1, d1, k1⟩ := r1.frz e1 w1
  cases k1 with
  | @cons v _ _ _ k1 k2 =>
   cases k2
   have p2 : Post M H fp (OkI M.K F H R') (match x.er with | .int j => if small62 j = true then .ok (rngD 0 j.toNat) else .bad | _ => .bad) := p1
   generalize x.er = d at p2 k1
   cases k1 with
   | int j =>
    by_cases hs : small62 j = true
    ·have hs' := small62_iff.mp hs
     have p3 : Post M H fp (OkI M.K F H R') (if small62 j = true then .ok (rngD 0 j.toNat) else .bad) := p2
     rw [if_pos hs] at p3
     exact ⟨j, rfl, hs'.1, hs'.2, p3 _ G1 H1 d1 (walks_ints _ _)⟩
    ·have p3 : Post M H fp (OkI M.K F H R') (if small62 j = true then .ok (rngD 0 j.toNat) else .bad) := p2
     rw [if_neg hs] at p3
     exact p3.elim
   | non => exact p2.elim
   | bl _ => exact p2.elim
   | str _ => exact p2.elim
   | dct _ _ _ => exact p2.elim
   | ins _ _ _ => exact p2.elim
   | lst _ _ => exact p2.elim
   | tup _ _ => exact p2.elim
noncomputable def r2F (x y : PyData) : R (List PyData) := match x, y with
 | .int i, .int j => if (small62 i && small62 j) = true then .ok (rngD i (j - i).toNat) else .bad
 | _, _ => .bad
noncomputable def zipF (x y : PyData) : R (List PyData) := match x, y with
 | .list ds, .list es => .ok (zipD ds es)
 | _, _ => .bad
theorem s_for {it : Fi} {is : List Nat} {g : Fg} {b : Fs} (h : tS M n (sFor it g b) D σ H) : tFor (tI M n it) (tG M n is g) (tS M n b) D σ H := by
 obtain ⟨F, ρ, fp, S, p⟩ := h
 refine ⟨F, ρ, fp, S, (Post.bind p).mono fun ds pd J F1 H1 e1 wk => ?_⟩
 refine ⟨fun i m σ' H' => m = ds.length - i ∧ i ≤ ds.length ∧ ∃ F' ρ' fp', Stt M.K n F' H' σ' ρ' fp' ∧ Same F1 F' ∧ Post M H' fp' (PostO M n F' H' fp' D) (loopF g b (ds.drop i) ρ'), ⟨ds.length, by simp, Nat.zero_le _, F1, ρ, fp, S.ext e1, Same.refl _, PostS.stp e1.stp pd⟩, ?_⟩
 rintro i m σ' H' ⟨rfl, hi, F', ρ', fp', S', s', p'⟩
 obtain ⟨w1, w2⟩ := wk i F' H' s' S'.same
 by_cases hlt : i < ds.length
 ·obtain ⟨d, hd⟩ : ∃ d, ds[i]? = some d := ⟨ds[i], by simp [hlt]⟩
  obtain ⟨g1, g2⟩ := w1 d hd
  have e : ds.drop i = d :: ds.drop (i + 1) := by
   rw [List.drop_eq_getElem_cons hlt]
   congr 1
   have := (List.getElem?_eq_some_iff.mp hd).2
   exact this
  rw [e] at p'
  refine .inr ⟨g1, fun σ2 H2 => ∃ F2 ρ2 fp2, Stt M.K n F2 H2 σ2 ρ2 fp2 ∧ Same F1 F2 ∧ Post M H2 fp2 (PostO M n F2 H2 fp2 D) (loopF g b (ds.drop (i + 1)) ρ2), fun σ2 H2 q => ⟨ds.length - (i + 1), by lia, rfl, hlt, q⟩, fun x H2 y => ?_⟩
  obtain ⟨G2, e2, rx⟩ := g2 x H2 y
  have p2 : Post M H' fp' _ ((g (.sh d) ρ').bind fun ρ1 => (b ρ1).bind fun o => match o with
   | .nx ρ2 => loopF g b (ds.drop (i + 1)) ρ2
   | .ct ρ2 => loopF g b (ds.drop (i + 1)) ρ2
   | .bk ρ2 => .ok (.nx ρ2)
   | .rt x => .ok (.rt x)) := p'
  have st : Stp F' H' fp' G2 H2 (fp' ++ []) := by
   rw [List.append_nil]
   exact e2.stp
  refine ⟨G2, ρ', fp', .sh d, [], S'.ext e2, Res.sh rx, (fun _ m => by cases m), ((Post.bind p2).stp st).mono fun ρ1 p1 σ3 F3 H3 fp3 S3 s3 _ => ?_⟩
  have s4 := st.trans s3
  refine ⟨F3, ρ1, fp3, S3, ((Post.bind p1).stp s4).mono fun o po => ?_⟩
  cases o with
  | nx ρ2 => exact fun σ5 F5 H5 fp5 S5 s5 => ⟨F5, ρ2, fp5, S5, (s'.trans s4.ff).trans s5.ff, PostS.stp (s4.trans s5) po⟩
  | ct ρ2 => exact fun σ5 F5 H5 fp5 S5 s5 => ⟨F5, ρ2, fp5, S5, (s'.trans s4.ff).trans s5.ff, PostS.stp (s4.trans s5) po⟩
  | bk ρ2 => exact fun σ5 F5 H5 fp5 S5 s5 => po σ5 F5 H5 fp5 S5 (s4.trans s5)
  | rt x => exact fun v F5 H5 fx a r s5 => po v F5 H5 fx a r (s4.trans s5)
 ·have e : i = ds.length := by lia
  subst e
  refine .inl ⟨w2 (Nat.le_refl _), ?_⟩
  rw [List.drop_length] at p'
  exact p' σ' F' H' fp' S' Stp.refl
end
end L3
namespace L3
open PySem L2
section
variable {M : Mx} {n : Nat} {F H F1 H1 : Hp} {σ : St} {ρ : Env} {fp : List Addr} {D : Ends} {K : PySem.W.Frag}
theorem OwnS.nones {K : PySem.W.Frag} : ∀ (k : Nat) {σ : St} {ρ : Env} {g : List Addr}, OwnS K F H σ ρ g → OwnS K F H (List.replicate k none ++ σ) (List.replicate k none ++ ρ) g
 | 0, _, _, _, h => h
 | k + 1, _, _, _, h => by
  rw [List.replicate_succ, List.replicate_succ]
  exact .no (OwnS.nones k h)
theorem OwnS.one (S : OwnS K F H σ ρ fp) (i : Nat) : ∃ f, (∀ a ∈ f, a ∈ fp) ∧ (fp.Nodup → f.Nodup) ∧ ∀ {σ' : St} {ρ' : Env} {g : List Addr}, OwnS K F H σ' ρ' g → OwnS K F H ((σ[i]?).join :: σ') ((ρ[i]?).join :: ρ') (f ++ g) := by
 cases e : ρ[i]? with
 | none => exact ⟨[], (fun _ m => by cases m), fun _ => List.nodup_nil, fun h => .no h⟩
 | some o =>
  cases o with
  | none => exact ⟨[], (fun _ m => by cases m), fun _ => List.nodup_nil, fun h => .no h⟩
  | some x =>
   obtain ⟨v, f, g1, g2, h1, h2, rfl, h4⟩ := S.at e
   refine ⟨f, fun a m => List.mem_append_right _ (List.mem_append_left _ m), fun nd => ?_, fun h => ?_⟩
   ·simp only [List.nodup_append] at nd
    exact nd.2.1.1
   ·rw [h1]
    exact .yes h2 h
noncomputable def shE (ρ : Env) : Env := ρ.map fun o => match o with
 | some (.sh d) => some (.sh d)
 | _ => none
theorem OwnS.shE {σ : St} {ρ : Env} {g : List Addr} (S : OwnS K F H σ ρ g) : OwnS K F H σ (L3.shE ρ) [] := by
 induction S with
 | nil => exact .nil
 | no r ih => exact .no ih
 | yes h r ih =>
  cases h with
  | sh h => exact .yes (f := []) (.sh h) ih
  | ol _ _ => exact .no ih
  | ot _ _ => exact .no ih
  | od _ _ _ => exact .no ih
theorem OwnS.pick3 : ∀ (is : List Nat) {σ : St} {ρ : Env}, OwnS K F H σ ρ [] → OwnS K F H (is.map fun i => (σ[i]?).join) (is.map fun i => (ρ[i]?).join) []
 | [], _, _, _ => .nil
 | i :: is, _, _, S => by
  obtain ⟨f, h1, _, h3⟩ := S.one i
  have hf : f = [] := by
   cases f with
   | nil => rfl
   | cons a f => exact absurd (h1 a List.mem_cons_self) (by simp)
  subst hf
  exact h3 (OwnS.pick3 is S)
theorem knows_of : ∀ (k : Nat) {σ0 σ2 : St}, σ2.length = k + σ0.length → (∀ j, k ≤ j → σ2[j]? = (List.replicate k none ++ σ0)[j]?) → Knows (List.replicate k none ++ σ0) σ2
 | 0, σ0, σ2, hl, h => by
  have e : σ2 = σ0 := List.ext_getElem? fun j => by simpa using h j (Nat.zero_le _)
  subst e
  show Knows σ2 σ2
  clear h hl
  induction σ2 with
  | nil => trivial
  | cons x r ih =>
   cases x with
   | none => exact ih
   | some v => exact ⟨rfl, ih⟩
 | k + 1, σ0, [], hl, h => by simp at hl; lia
 | k + 1, σ0, x :: σ2, hl, h => by
  rw [List.replicate_succ]
  refine knows_of k (by simp at hl; lia) fun j hj => ?_
  have := h (j + 1) (by lia)
  simpa [List.replicate_succ] using this
theorem pick_sh (ρ : Env) : ∀ (is : List Nat), (is.map fun i => ((shE ρ)[i]?).join) = is.map fun i => onlySh ρ[i]?
 | [] => rfl
 | i :: is => by
  rw [List.map_cons, List.map_cons, pick_sh ρ is]
  congr 1
  unfold shE
  rw [List.getElem?_map]
  cases ρ[i]? with
  | none => rfl
  | some o =>
   cases o with
   | none => rfl
   | some x => cases x <;> rfl
theorem Stt.block (S : Stt K n F H σ ρ fp) (k : Nat) (outs : List (Nat × Str)) : Stt K (k + outs.length) F H (slots k outs σ) (sl3 k (outs.map (·.1)) ρ) [] := by
 refine ⟨S.same, ?_, List.nodup_nil, (fun _ m => by cases m), by unfold sl3; simp⟩
 have h := OwnS.nones k (OwnS.pick3 (outs.map (·.1)) S.own.shE)
 rw [pick_sh, List.map_map] at h
 exact h
theorem unex_ok {α : Type} {r : R α} {P : α → Prop} {β : Type} {g : α → R β} {PP : β → Prop} (p : Post M H fp PP ((unex r).bind g)) : ∃ a, r = .ok a ∧ Post M H fp PP (g a) := by
 cases r with
 | ok a => exact ⟨a, rfl, p⟩
 | ex c => exact p.elim
 | bad => exact p.elim
theorem d_comp {it : Fi} {g : Fg} {t : Ft} {el : Fe} {k : Nat} {is : List Nat} {outs : List (Nat × Str)} {Q : VK} (hk : ∀ j ∈ is, j < k) (h : tD M n (eComp it g t el k (outs.map (·.1))) σ H Q) :
  tComp (tI M n it) (tG M (k + outs.length) is g) (tT M (k + outs.length) t) (tD M (k + outs.length) el) k outs σ H Q := by
 obtain ⟨F, ρ, fp, S, p⟩ := h
 refine ⟨F, ρ, fp, S, (Post.bind p).mono fun ds pd J F1 H1 e1 wk D hD => ?_⟩
 have SB := (S.ext e1).block k outs
 have fD : F1 D = none := e1.fh.free hD
 refine ⟨fun i m acc H' => m = ds.length - i ∧ i ≤ ds.length ∧ ∃ F' xs fx, H' D = some (.lst acc) ∧ F' D = none ∧ Ext F1 H1 F' H' ∧ ResL M.K F' H' acc xs fx ∧ (∀ a ∈ fx, H1 a = none ∧ a ≠ D) ∧
  Post M H fp (OkE M F H Q) ((compF g t el (sl3 k (outs.map (·.1)) ρ) (ds.drop i) xs).bind fun xs => .ok (.ol xs)), ⟨ds.length, by simp, Nat.zero_le _, F1, [], [], upd_same, fD, Ext.alloc e1.fh hD, ResL.nil, (fun _ m => by cases m), pd⟩, ?_⟩
 rintro i m acc H' ⟨rfl, hi, F', xs, fx, hacc, fD', e', rx, wx, p'⟩
 have S' := SB.ext e'
 obtain ⟨w1, w2⟩ := wk i F' H' e'.ff e'.fh
 by_cases hlt : i < ds.length
 ·obtain ⟨d, hd⟩ : ∃ d, ds[i]? = some d := ⟨ds[i], by simp [hlt]⟩
  obtain ⟨g1, g2⟩ := w1 d hd
  have e : ds.drop i = d :: ds.drop (i + 1) := by
   rw [List.drop_eq_getElem_cons hlt]
   congr 1
   exact (List.getElem?_eq_some_iff.mp hd).2
  rw [e] at p'
  have p2 : Post M H fp (OkE M F H Q) (((unex (g (.sh d) (sl3 k (outs.map (·.1)) ρ))).bind fun ρ1 => (unex (t ρ1)).bind fun b => if b = true then (unex (el ρ1)).bind fun y => if xs.length < BIG then compF g t el (sl3 k (outs.map (·.1)) ρ) (ds.drop (i + 1)) (xs ++ [y]) else .bad else compF g t el (sl3 k (outs.map (·.1)) ρ) (ds.drop (i + 1)) xs).bind fun xs => .ok (.ol xs)) := p'
  have assoc : ∀ {α β γ : Type} (r : R α) (f : α → R β) (h : β → R γ), (r.bind f).bind h = r.bind fun a => (f a).bind h := fun r f h => by cases r <;> rfl
  rw [assoc] at p2
  obtain ⟨ρ1, hρ1, p3⟩ := unex_ok (P := fun _ => True) p2
  rw [assoc] at p3
  obtain ⟨b, hb, p4⟩ := unex_ok (P := fun _ => True) p3
  refine .inr ⟨g1, fun acc' H2 => ∃ F2 xs2 fx2, H2 D = some (.lst acc') ∧ F2 D = none ∧ Ext F1 H1 F2 H2 ∧ ResL M.K F2 H2 acc' xs2 fx2 ∧ (∀ a ∈ fx2, H1 a = none ∧ a ≠ D) ∧
   Post M H fp (OkE M F H Q) ((compF g t el (sl3 k (outs.map (·.1)) ρ) (ds.drop (i + 1)) xs2).bind fun xs => .ok (.ol xs)), fun acc' H2 q => ⟨ds.length - (i + 1), by lia, rfl, hlt, q⟩, fun x H2 y => ?_⟩
  obtain ⟨G2, e2, rx2⟩ := g2 x H2 y
  refine ⟨G2, sl3 k (outs.map (·.1)) ρ, [], .sh d, [], S'.ext e2, Res.sh rx2, (fun _ m => by cases m), ?_⟩
  rw [hρ1]
  intro σ3 F3 H3 fp3 S3 s3 t3
  have e3 : Ext G2 H2 F3 H3 := ⟨s3.ff, fun a o q => s3.keep a o q (by simp), S3.same, fun a q z => s3.nw a q (by simp) z⟩
  refine ⟨knows_of k (by rw [S3.own.len, S3.len]; simp) fun j hj => t3 j fun z => by have := hk j z; lia, F3, ρ1, fp3, S3, ?_⟩
  rw [hb]
  intro F4 H4 e4
  have e24 : Ext F' H' F4 H4 := (e2.trans e3).trans e4
  cases b with
  | true =>
   rw [if_pos rfl] at p4 ⊢
   rw [assoc] at p4
   obtain ⟨y, hy, p5⟩ := unex_ok (P := fun _ => True) p4
   refine ⟨F4, ρ1, fp3, S3.ext e4, ?_⟩
   rw [hy]
   intro v F5 H5 fy e5 r5 w5
   by_cases hl : xs.length < BIG
   ·rw [if_pos hl] at p5
    have e25 := e24.trans e5
    have hD5 : H5 D = some (.lst acc) := e25.hh _ _ hacc
    have fD5 : F5 D = none := e25.nw D (some_ne hacc) fD'
    have yD : ∀ a ∈ fy, a ≠ D := fun a m => by
     rintro rfl
     have := e24.hh _ _ hacc
     rw [w5 _ m] at this
     cases this
    have rx5 := rx.ext e25
    refine ⟨hD5, by rw [rx.own.len]; exact big_lt hl, F5, xs ++ [y], fx ++ fy, upd_same, fD5, ⟨e'.ff.trans e25.ff, fun a o q => ?_, fun a o q => ?_, fun a q z => e25.nw a (e'.hh.dom q) (e'.nw a q z)⟩, ⟨?_, ?_, ?_⟩, ?_, p5⟩
    ·rw [upd_ne (ne_of_none q hD)]
     exact e25.hh _ _ (e'.hh _ _ q)
    ·rw [upd_ne (ne_of_none q fD5)]
     exact e5.fh _ _ q
    ·have q1 : OwnL M.K F5 (upd H5 D (.lst (acc ++ [v]))) acc xs fx := rx5.own.mono (Same.refl _) fun a m o q => by
      rw [upd_ne (wx a m).2]
      exact q
     have q2 : Own M.K F5 (upd H5 D (.lst (acc ++ [v]))) v y fy := r5.own.mono (Same.refl _) fun a m o q => by
      rw [upd_ne (yD a m)]
      exact q
     have q3 := OwnL.app q1 (OwnL.cons q2 .nil)
     rw [List.append_nil] at q3
     exact q3
    ·refine List.nodup_append.mpr ⟨rx.nd, r5.nd, fun a m b m' z => ?_⟩
     subst z
     obtain ⟨o, q⟩ := rx.own.dom a m
     have := e24.hh _ _ q
     rw [w5 a m'] at this
     cases this
    ·intro a m
     rcases List.mem_append.mp m with m | m
     ·exact rx5.fr a m
     ·exact r5.fr a m
    ·intro a m
     rcases List.mem_append.mp m with m | m
     ·exact wx a m
     ·exact ⟨(e'.trans e24).hh.free (w5 a m), yD a m⟩
   ·rw [if_neg hl] at p5
    exact p5.elim
  | false =>
   rw [if_neg Bool.false_ne_true] at p4 ⊢
   exact ⟨F4, xs, fx, e24.hh _ _ hacc, e24.nw D (some_ne hacc) fD', e'.trans e24, rx.ext e24, wx, p4⟩
 ·have e : i = ds.length := by lia
  subst e
  rw [List.drop_length] at p'
  have q : OkE M F H Q (.ol xs) := p'
  refine .inl ⟨w2 (Nat.le_refl _), q (.ref D) F' H' (D :: fx) (e1.trans e') ⟨.ol hacc rx.own, List.nodup_cons.mpr ⟨fun m => (wx D m).2 rfl, rx.nd⟩, fun a m => ?_⟩ fun a m => ?_⟩
  ·rcases List.mem_cons.mp m with rfl | m
   ·exact fD'
   ·exact rx.fr a m
  ·rcases List.mem_cons.mp m with rfl | m
   ·exact e1.hh.free hD
   ·exact e1.hh.free (wx a m).1
end
end L3
namespace L3
open PySem L2
section
variable {M : Mx} {n : Nat} {F H F1 H1 : Hp} {σ : St} {ρ : Env} {fp : List Addr} {D : Ends} {K : PySem.W.Frag}
theorem nodup_swap {p f q f' : List Addr} (h : (p ++ (f ++ q)).Nodup) (h' : f'.Nodup) (s : ∀ c ∈ f', c ∈ f ∨ c ∉ p ++ (f ++ q)) : (p ++ (f' ++ q)).Nodup := by
 simp only [List.nodup_append, List.mem_append] at h s ⊢
 obtain ⟨n1, ⟨n2, n3, n4⟩, n5⟩ := h
 refine ⟨n1, ⟨h', n3, fun a ha b hb e => ?_⟩, fun a ha b hb e => ?_⟩
 ·subst e
  rcases s a ha with z | z
  ·exact n4 a z a hb rfl
  ·exact z (.inr (.inr hb))
 ·subst e
  rcases hb with hb | hb
  ·rcases s a hb with z | z
   ·exact n5 a ha a (.inl z) rfl
   ·exact z (.inl ha)
  ·exact n5 a ha a (.inr hb) rfl
theorem OwnL.at : ∀ {vs : List V} {xs : List OD} {g : List Addr} {i : Nat} {x : OD}, OwnL K F H vs xs g → xs[i]? = some x →
  ∃ v f g1 g2, vs[i]? = some v ∧ Own K F H v x f ∧ g = g1 ++ (f ++ g2) ∧ ∀ (F' H' : Hp), Same F F' → (∀ a ∈ g1 ++ g2, ∀ o, H a = some o → H' a = some o) → ∀ v' x' f', Own K F' H' v' x' f' → OwnL K F' H' (vs.set i v') (xs.set i x') (g1 ++ (f' ++ g2))
 | _, _, _, _, _, .nil, e => by simp at e
 | _, _, _, 0, x, .cons (f := f) (g := g) h r, e => by
  simp at e
  subst e
  exact ⟨_, f, [], g, rfl, h, rfl, fun F' H' s k v' x' f' o => OwnL.cons (f := f') (g := g) o (r.mono s k)⟩
 | _, _, _, i + 1, x, .cons (f := f0) h r, e => by
  obtain ⟨v, f, g1, g2, h1, h2, h3, h4⟩ := OwnL.at (i := i) r (by simpa using e)
  refine ⟨v, f, f0 ++ g1, g2, by simpa using h1, h2, by rw [h3, List.append_assoc], fun F' H' s k v' x' f' o => ?_⟩
  rw [List.append_assoc]
  exact .cons (h.mono s fun a m => k a (List.mem_append_left _ (List.mem_append_left _ m))) (h4 F' H' s (fun a m => k a (by simp at m ⊢; rcases m with m | m <;> simp [m])) v' x' f' o)
theorem set_self {σ : St} {i : Nat} {v : V} (h1 : σ[i]? = some (some v)) : σ.set i (some v) = σ := by
 apply List.ext_getElem?
 intro j
 by_cases hj : i = j
 ·subst hj
  rw [h1, List.getElem?_set_self (List.getElem?_eq_some_iff.mp h1).1]
 ·rw [List.getElem?_set_ne hj]
theorem Stt.write (S : Stt K n F H σ ρ fp) {i : Nat} {xs : List OD} (hx : ρ[i]? = some (some (.ol xs))) :
  ∃ a vs f, σ[i]? = some (some (.ref a)) ∧ H a = some (.lst vs) ∧ OwnL K F H vs xs f ∧ f.Nodup ∧ (∀ b ∈ f, F b = none) ∧
   ∀ F1 H1 vs' xs' f', Ext F H F1 H1 → OwnL K F1 H1 vs' xs' f' → f'.Nodup → (∀ b ∈ f', b ∈ f ∨ H b = none) → (∀ b ∈ f', F1 b = none) →
    ∃ fp', Stt K n F1 (upd H1 a (.lst vs')) σ (ρ.set i (some (.ol xs'))) fp' ∧ Stp F H fp F1 (upd H1 a (.lst vs')) fp' ∧ (∀ b ∈ fp', b ∈ fp ∨ b ∈ f') := by
 obtain ⟨v, f0, g1, g2, h1, h2, rfl, h4⟩ := S.own.at hx
 cases h2 with
 | @ol a vs _ f ha hv =>
  have nd := S.nd
  have nd' := nd
  simp only [List.nodup_append, List.mem_append, List.cons_append, List.nodup_cons, List.mem_cons] at nd'
  obtain ⟨n1, ⟨na, n2, n3, n4⟩, n5⟩ := nd'
  refine ⟨a, vs, f, h1, ha, hv, n2, fun b m => S.fr b (by simp [m]), fun F1 H1 vs' xs' f' e o nf sub ff => ?_⟩
  have fa : F1 a = none := e.nw a (some_ne ha) (S.fr a (by simp))
  have hne : ∀ b ∈ f', b ≠ a := fun b m => by
   rintro rfl
   rcases sub b m with z | z
   ·exact na (.inl z)
   ·rw [ha] at z
    cases z
  have hs : ∀ c ∈ f', c ∈ f ∨ c ∉ (g1 ++ [a]) ++ (f ++ g2) := fun c m => by
   rcases sub c m with z | z
   ·exact .inl z
   ·refine .inr fun w => ?_
    obtain ⟨o, q⟩ := S.own.dom c (by simp at w ⊢; exact w)
    rw [z] at q
    cases q
  have nd2 := nodup_swap (p := g1 ++ [a]) (f := f) (q := g2) (f' := f') (by simpa using nd) nf hs
  have own := h4 F1 (upd H1 a (.lst vs')) e.ff (fun b m o q => by
   have : b ≠ a := by
    rintro rfl
    rcases List.mem_append.mp m with m | m
    ·exact n5 b m b (.inl rfl) rfl
    ·exact na (.inr m)
   rw [upd_ne this]
   exact e.hh _ _ q) (.ref a) (.ol xs') (a :: f') (.ol upd_same (o.mono (Same.refl _) fun b m o q => by rw [upd_ne (hne b m)]; exact q))
  rw [set_self h1] at own
  have frs : ∀ b ∈ g1 ++ (a :: f ++ g2), F1 b = none := fun b m => let ⟨_, q⟩ := S.own.dom b m; e.nw b (some_ne q) (S.fr b m)
  refine ⟨g1 ++ (a :: f' ++ g2), ⟨?_, own, by simpa using nd2, fun b m => ?_, by rw [List.length_set]; exact S.len⟩, ⟨e.ff, fun b o q m => ?_, fun b m => ?_, fun b q m z => e.nw b q z⟩, fun b m => ?_⟩
  ·intro b o q
   rw [upd_ne (ne_of_none q fa)]
   exact e.fh _ _ q
  ·simp only [List.mem_append, List.mem_cons] at m
   rcases m with m | (rfl | m) | m
   ·exact frs b (by simp [m])
   ·exact fa
   ·exact ff b m
   ·exact frs b (by simp [m])
  ·have : b ≠ a := by
    rintro rfl
    exact m (by simp)
   rw [upd_ne this]
   exact e.hh _ _ q
  ·simp only [List.mem_append, List.mem_cons] at m ⊢
   rcases m with m | (m | m) | m
   ·exact .inl (.inl m)
   ·exact .inl (.inr (.inl (.inl m)))
   ·rcases sub b m with z | z
    ·exact .inl (.inr (.inl (.inr z)))
    ·exact .inr z
   ·exact .inl (.inr (.inr m))
  ·simp only [List.mem_append, List.mem_cons] at m ⊢
   rcases m with m | (m | m) | m <;> simp [m]
theorem OwnL.snoc {vs : List V} {xs : List OD} {f g : List Addr} {v : V} {y : OD} (h : OwnL K F H vs xs f) (o : Own K F H v y g) : OwnL K F H (vs ++ [v]) (xs ++ [y]) (f ++ g) := by
 have := OwnL.app h (OwnL.cons o .nil)
 rw [List.append_nil] at this
 exact this
theorem s_app {i : Nat} {a : Fe} (h : tS M n (sApp i a) D σ H) : tDrop (tBM M.K "list" rAppend (tVar i) (tCons (tD M n a) tNil)) D σ H := by
 obtain ⟨F, ρ, fp, S, p⟩ := h
 unfold sApp at p
 split at p
 ·rename_i xs e
  obtain ⟨l, vs, f, h1, h2, h3, nf, ff, wr⟩ := S.write e
  refine ⟨_, h1, .inl ⟨rfl, vs, SqL.of h2⟩, F, ρ, fp, S, (Post.bind p).mono fun y py v F1 H1 fy e1 r1 w1 => ?_⟩
  by_cases hl : xs.length < BIG
  ·rw [if_pos hl] at py
   refine ⟨l, vs, v, rfl, rfl, e1.hh _ _ h2, by rw [h3.len]; exact big_lt hl, ?_⟩
   have o : OwnL M.K F1 H1 (vs ++ [v]) (xs ++ [y]) (f ++ fy) := (h3.mono e1.ff fun b _ o q => e1.hh _ _ q).snoc r1.own
   obtain ⟨fp', S', st, _⟩ := wr F1 H1 _ _ _ e1 o (List.nodup_append.mpr ⟨nf, r1.nd, fun b m c m' z => by
    subst z
    obtain ⟨o, q⟩ := h3.dom b m
    rw [w1 b m'] at q
    cases q⟩) (fun b m => (List.mem_append.mp m).elim .inl fun m => .inr (w1 b m)) (fun b m => (List.mem_append.mp m).elim (fun m => let ⟨_, q⟩ := h3.dom b m; e1.nw b (some_ne q) (ff b m)) (r1.fr b))
   exact py σ F1 _ fp' S' st
  ·rw [if_neg hl] at py
   exact py.elim
 ·exact p.elim
theorem OwnL.last {d : PyData} {vs : List V} {xs : List OD} {f : List Addr} (o : OwnL K F H vs xs f) (e : xs.getLast? = some (.sh d)) : ∃ v, vs[vs.length - 1]? = some v ∧ Rep K F v d ∧ OwnL K F H vs.dropLast xs.dropLast f := by
 induction xs generalizing vs f with
 | nil => simp at e
 | cons a0 r0 ih0 =>
 cases o with
 | cons h r =>
  have ih := ih0 r
  cases r with
  | nil =>
   cases h with
   | sh h =>
    simp at e
    subst e
    exact ⟨_, rfl, h, .nil⟩
   | ol _ _ => simp at e
   | ot _ _ => simp at e
   | od _ _ _ => simp at e
  | cons h' r =>
   obtain ⟨v, h1, h2, h3⟩ := ih (by simpa using e)
   exact ⟨v, by simpa using h1, h2, .cons h h3⟩
end
end L3
namespace L3
open PySem L2 PySem.Spec PyProof.Rows
noncomputable def DE (M : Mx) (X : Cx) (e : Expr) (f : Fe) : Prop := X.K = M.K → X.mg = M.mg → PE X e (tD M X.N.length f)
noncomputable def DT (M : Mx) (X : Cx) (e : Expr) (f : Ft) : Prop := X.K = M.K → X.mg = M.mg → PT X e (tT M X.N.length f)
noncomputable def DW (M : Mx) (X : Cx) (e : Expr) (f : Ft) : Prop := X.K = M.K → X.mg = M.mg → PW X e (tT M X.N.length f)
noncomputable def DA (M : Mx) (X : Cx) (e : List Expr) (f : Fa) : Prop := X.K = M.K → X.mg = M.mg → PA X e (tA M X.N.length f)
noncomputable def DO (M : Mx) (X : Cx) (e : Option Expr) (f : Fo) : Prop := X.K = M.K → X.mg = M.mg → PO X e (tO M X.N.length f)
noncomputable def DI (M : Mx) (X : Cx) (tg e : Expr) (f : Fi) : Prop := X.K = M.K → X.mg = M.mg → PI X tg e (tI M X.N.length f)
noncomputable def DG (M : Mx) (X : Cx) (tg : Expr) (is : List Nat) (f : Fg) : Prop := X.K = M.K → X.mg = M.mg → PG X tg (tG M X.N.length is f)
noncomputable def DF (M : Mx) (X : Cx) (e : List Expr) (f : Ft) : Prop := X.K = M.K → X.mg = M.mg → PF X e (tT M X.N.length f)
noncomputable def DS (M : Mx) (X : Cx) (st : Stmt) (f : Fs) : Prop := X.K = M.K → X.mg = M.mg → PS X st (tS M X.N.length f)
noncomputable def DSs (M : Mx) (X : Cx) (st : List Stmt) (f : Fs) : Prop := X.K = M.K → X.mg = M.mg → PSs X st (tS M X.N.length f)
section
variable {M : Mx} {X : Cx} {e a b c : Expr} {es : List Expr} {pos : Pos} {fa fb : Fe} {ta tb : Ft} {al : Fa}
theorem peI {t t' : TE} (h : PE X e t) (k : ∀ σ H Q, t' σ H Q → t σ H Q) : PE X e t' := fun pins s σ H Q I q => h pins s σ H Q I (k σ H Q q)
theorem ptI {t t' : TT} (h : PT X e t) (k : ∀ σ H Q, t' σ H Q → t σ H Q) : PT X e t' := fun pins s σ H Q I q => h pins s σ H Q I (k σ H Q q)
theorem pwI {t t' : TT} (h : PW X e t) (k : ∀ σ H Q, t' σ H Q → t σ H Q) : PW X e t' := fun w pins s σ H Q I q => h w pins s σ H Q I (k σ H Q q)
theorem paI {t t' : TA} (h : PA X es t) (k : ∀ σ H Q, t' σ H Q → t σ H Q) : PA X es t' := fun ps pins s σ H Q I q => h ps pins s σ H Q I (k σ H Q q)
theorem poI {o : Option Expr} {t t' : TO} (h : PO X o t) (k : ∀ σ H Q, t' σ H Q → t σ H Q) : PO X o t' := fun pins s σ H Q I q => h pins s σ H Q I (k σ H Q q)
theorem psI {st : Stmt} {t t' : TS} (h : PS X st t) (k : ∀ D σ H, t' D σ H → t D σ H) : PS X st t' := fun pins s σ H D I q => h pins s σ H D I (k D σ H q)
theorem pssI {st : List Stmt} {t t' : TS} (h : PSs X st t) (k : ∀ D σ H, t' D σ H → t D σ H) : PSs X st t' := fun pins s σ H D I q => h pins s σ H D I (k D σ H q)
theorem de_var (i : Nat) {x : Str} (hN : X.N[i]? = some x := by rfl) (hv : Vis X.env.scope x := by first | exact Or.inl rfl | exact Or.inr (Or.inl rfl) | exact Or.inr (Or.inr rfl)) (hd : (x == ("__debug__" : Str)) = false := by decide)
  (hcd : (x == ("__classdict__" : Str)) = false := by decide) : DE M X (.Name x pos) (eVar i) := fun _ _ => peI (pe_var hN hv hd hcd) fun _ _ _ h => d_var h
theorem de_int {i : Int} {j} : DE M X (.Constant (.int i) j pos) (eC (.int i)) := fun _ _ => peI pe_int fun _ _ _ h => d_c (fun _ _ => .int i) h
theorem de_bl {i : Bool} {j} : DE M X (.Constant (.bool i) j pos) (eC (.bool i)) := fun _ _ => peI pe_bl fun _ _ _ h => d_c (fun _ _ => .bl i) h
theorem de_globI {x : Str} {i : Int} (hg : Gl X x) (hm : ∃ t, X.mg x = some (.int i t)) (hd : (x == ("__debug__" : Str)) = false := by decide) : DE M X (.Name x pos) (eC (.int i)) := fun _ _ =>
 let ⟨t, e⟩ := hm
 peI (pe_glob (v := .int i) hg e ⟨t, rfl⟩ hd) fun _ _ _ h => d_c (fun _ _ => .int i) h
theorem de_sh (h : DE M X e fa) : DE M X e (eSh fa) := fun hK hM => peI (h hK hM) fun _ _ _ q => d_sh q
theorem de_op {op : Operator} {r : R2} {g : PyData → PyData → R OD} (ho : OpR X (binaryOp op) r) (hg : X.K = M.K → Ok2 M r g) (ha : DE M X a fa) (hb : DE M X b fb) : DE M X (.BinOp a op b pos) (eOp g fa fb) := fun hK hM =>
 peI (pe_op ho (ha hK hM) (hb hK hM)) fun _ _ _ q => d_op (hg hK) q
theorem de_un {op : UnaryOp} {r : V → Hp → VK → Prop} {g : PyData → R OD} (ho : UnR X (unaryOp op) r) (hg : X.K = M.K → Ok1 M r g) (ha : DE M X a fa) : DE M X (.UnaryOp op a pos) (eUn g fa) := fun hK hM =>
 peI (pe_un ho (ha hK hM)) fun _ _ _ q => d_un (hg hK) q
theorem de_cmp {op : CmpOp} {r : R2} {g : PyData → PyData → R OD} (ho : OpR X (compareOp op) r) (hg : X.K = M.K → Ok2 M r g) (ha : DE M X a fa) (hb : DE M X b fb) (hm : behindInMarks op b = false) : DE M X (.Compare a [op] [b] pos) (eOp g fa fb) := fun hK hM =>
 peI (pe_cmpR ho (ha hK hM) (hb hK hM) hm) fun _ _ _ q => d_op (hg hK) q
theorem dt_cmp {op : CmpOp} {r : R2} {g : PyData → PyData → R OD} (ho : OpR X (compareOp op) r) (hg : X.K = M.K → Ok2 M r g) (ha : DE M X a fa) (hb : DE M X b fb) (hm : behindInMarks op b = false) : DT M X (.Compare a [op] [b] pos) (eTest (eOp g fa fb)) := fun hK hM =>
 ptI (pt_cmpR ho (ha hK hM) (hb hK hM) hm) fun σ H Q q => by
  obtain ⟨F, ρ, fp, S, p⟩ := d_test q
  exact d_op (hg hK) ⟨F, ρ, fp, S, p⟩
theorem dt_val (h : DE M X e fa) (he : ∀ whole, isTrue e X.env whole = (do let v ← whole; standAt e.pos; holding [v] (truthy v)) := by intro _; rfl) : DT M X e (eTest fa) := fun hK hM => ptI (pt_val (h hK hM) he) fun _ _ _ q => d_b q
theorem dt_not (h : DT M X a ta) : DT M X (.UnaryOp .Not a pos) (eNotT ta) := fun hK hM => ptI (pt_not (h hK hM)) fun _ _ _ q => d_notT q
theorem dw_or1 (h : DT M X a ta) : DW M X (.BoolOp .Or [a] pos) ta := fun hK hM => pw_or1 (h hK hM)
theorem dw_or {rest : List Expr} (h : DT M X a ta) (k : DW M X (.BoolOp .Or (b :: rest) pos) tb) : DW M X (.BoolOp .Or (a :: b :: rest) pos) (eOrT ta tb) := fun hK hM => pwI (pw_or (h hK hM) (k hK hM)) fun _ _ _ q => d_orT q
theorem dt_w (h : DW M X e ta) : DT M X e ta := fun hK hM => (h hK hM).pt
theorem de_one {op} (h : DE M X a fa) : DE M X (.BoolOp op [a] pos) fa := fun hK hM => pe_one (h hK hM)
theorem de_and {rest : List Expr} (h : DE M X a fa) (k : DE M X (.BoolOp .And (b :: rest) pos) fb) : DE M X (.BoolOp .And (a :: b :: rest) pos) (eAnd fa fb) := fun hK hM => peI (pe_and (h hK hM) (k hK hM)) fun _ _ _ q => d_and q
theorem de_not (h : DE M X a fa) : DE M X (.UnaryOp .Not a pos) (eNot fa) := fun hK hM => peI (pe_not (h hK hM)) fun _ _ _ q => d_not q
theorem de_if (h : DT M X c ta) (ha : DE M X a fa) (hb : DE M X b fb) : DE M X (.IfExp c a b pos) (eIf ta fa fb) := fun hK hM => peI (pe_ifExp (h hK hM) (ha hK hM) (hb hK hM)) fun _ _ _ q => d_if q
theorem da_nil : DA M X [] aNil := fun _ _ => paI pa_nil fun _ _ _ q => d_anil q
theorem da_cons (h : DE M X e fa) (r : DA M X es al) (hs : starEach (e :: es) X.env = (false, eval e X.env) :: starEach es X.env := by rfl) : DA M X (e :: es) (aCons fa al) := fun hK hM => paI (pa_cons (h hK hM) (r hK hM) hs) fun _ _ _ q => d_acons q
theorem de_tup {x1} (h : DA M X es al) : DE M X (.Tuple es x1 pos) (eTup al) := fun hK hM => peI (pe_tup (h hK hM)) fun _ _ _ q => d_tup q
theorem de_lst (h : DA M X es al) : DE M X (.List es pos) (eLst al) := fun hK hM => peI (pe_lst (h hK hM)) fun _ _ _ q => d_lst q
theorem do_none : DO M X none oNone := fun _ _ => poI po_none fun _ _ _ q => d_onone q
theorem do_some (h : DE M X e fa) : DO M X (some e) (oSome fa) := fun hK hM => poI (po_some (h hK hM)) fun _ _ _ q => d_osome q
theorem de_sl {r : V → Option Int → Option Int → Hp → VK → Prop} {g : PyData → Option Int → Option Int → R OD} {lo hi : Option Expr} {fl fh : Fo} {p2 : Pos} (hr : SlR X r) (hg : X.K = M.K → OkS M r g) (h : DE M X e fa) (hl : DO M X lo fl) (hh : DO M X hi fh) :
  DE M X (.Subscript e (.Slice lo hi none p2) pos) (eSl g fa fl fh) := fun hK hM => peI (pe_slice hr (h hK hM) (hl hK hM) (hh hK hM)) fun _ _ _ q => d_sl (hg hK) q
theorem de_ix {r : R2} {g : PyData → PyData → R OD} (hr : IxR X r) (hg : X.K = M.K → Ok2 M r g) (ha : DE M X a fa) (hb : DE M X b fb) (hs : PlainIx b) : DE M X (.Subscript a b pos) (eOp g fa fb) := fun hK hM =>
 peI (pe_ix hr (ha hK hM) (hb hK hM) hs) fun _ _ _ q => d_op (hg hK) q
theorem de_cb {id : String} {x : Str} {p : Pos} {r : List V → Hp → VK → Prop} {g : List PyData → R OD} (hc : CallR X (.builtin id) r) (ho : X.K = M.K → OkC M r g) (hg : Gl X x) (hm : X.mg x = none) (hv : bootBuiltins x = some (.builtin id)) (ha : DA M X (e :: es) al)
  (hn : x ≠ "__name__" := by decide) (hdb : (x == ("__debug__" : Str)) = false := by decide) (he : starEach (e :: es) X.env = (false, eval e X.env) :: starEach es X.env := by rfl) (hpl : (backTo pos (starEach es X.env)).any (·.1) = false := by rfl) :
  DE M X (.Call (.Name x p) (e :: es) [] pos) (eB g al) := fun hK hM => peI (pe_callB hc hg hm hv (ha hK hM) hn hdb he hpl) fun _ _ _ q => d_cb (ho hK) q
theorem de_call {CX : CXT} {k : Nat} {f : Addr} {fd : FuncData} {ps : List Str} {x : Str} {p : Pos} {fn : Fn} (F : FnOk X.prog X.w M.K M.mg X.base CX k f fd ps (sp3 M.K M.mg fn)) (hr : Room k X.A) (hg : Gl X x) (hm : M.mg x = some (.ref f)) (hk : PySem.W.keepIn M.K (.ref f) = true)
  (hb : Binds M.K fd ps []) (hx : Passes CX X M.E) (ha : DA M X (e :: es) al)
  (hdb : (x == ("__debug__" : Str)) = false := by decide) (he : starEach (e :: es) X.env = (false, eval e X.env) :: starEach es X.env := by rfl) (hpl : (backTo pos (starEach es X.env)).any (·.1) = false := by rfl) :
  DE M X (.Call (.Name x p) (e :: es) [] pos) (eCall fn al) := fun hK hM => by
 have F' : FnOk X.prog X.w X.K X.mg X.base CX k f fd ps (sp3 M.K M.mg fn) := by
  rw [hK, hM]
  exact F
 exact peI (pe_call F' hr hg (by rw [hM]; exact hm) (by rw [hK]; exact hk) (by rw [hK]; exact hb) .nil hx (ha hK hM) hdb he hpl) fun _ _ _ q => d_call q
theorem di_list {tg : Expr} (h : DE M X e fa) : DI M X tg e (iLst fa) := fun hK hM => by
 have q := pi_list (tg := tg) (h hK hM)
 rw [hK] at q
 exact fun pins s σ H R' I z => q pins s σ H R' I (i_list z)
theorem di_tup {tg : Expr} (h : DE M X e fa) : DI M X tg e (iTp fa) := fun hK hM => by
 have q := pi_tup (tg := tg) (h hK hM)
 rw [hK] at q
 exact fun pins s σ H R' I z => q pins s σ H R' I (i_tup z)
theorem di_r1 {tg : Expr} {p : Pos} (hg : Gl X "range") (hm : X.mg "range" = none) (h : DE M X a fa) (hs1 : starEach [a] X.env = (false, eval a X.env) :: starEach [] X.env := by rfl) (hs : starEach [a] X.env = [(false, eval a X.env)] := by rfl) : DI M X tg (.Call (.Name "range" p) [a] [] pos) (iR1 fa) := fun hK hM =>
 fun pins s σ H R' I z => pi_range1 hg hm ((da_cons h da_nil hs1) hK hM) hs pins s σ H R' I (i_r1 z)
theorem ix_lt {α : Type} {N : List α} {i : Nat} {x : α} (h : N[i]? = some x) : i < N.length := (List.getElem?_eq_some_iff.mp h).1
theorem pgI {tg : Expr} {t t' : TG} (h : PG X tg t) (k : ∀ v σ H Q, t' v σ H Q → t v σ H Q) : PG X tg t' := fun pins s σ H v u Q I r q => h pins s σ H v u Q I r (k _ _ _ _ q)
theorem dg_name {i : Nat} {x : Str} (hN : X.N.Nodup) (hi : X.N[i]? = some x) (hx : Loc X.env.scope x) (hf : X.fn x = true ∨ X.env.scope.names.lookup x = some .local := by first | exact .inl rfl | exact .inr rfl | assumption) : DG M X (.Name x pos) [i] (gNm i) := fun _ _ =>
 pgI (pg_name hN hi hx hf) fun _ _ _ _ q => g_name (ix_lt hi) q
variable {st : Stmt} {rest sa sb : List Stmt} {f g : Fs}
theorem dss_nil : DSs M X [] sNx := fun _ _ => pssI pss_nil fun _ _ _ q => s_next q
theorem dss_cons (h : DS M X st f) (k : DSs M X rest g) : DSs M X (st :: rest) (sSeq f g) := fun hK hM => pssI (pss_cons (h hK hM) (k hK hM)) fun _ _ _ q => s_seq q
theorem dss_one (h : DS M X st f) : DSs M X [st] f := fun hK hM => pss_one (h hK hM)
theorem ds_ret (h : DE M X e fa) : DS M X (.Return (some e) pos) (sRet fa) := fun hK hM => psI (ps_ret (h hK hM)) fun _ _ _ q => s_ret q
theorem ds_if (h : DT M X c ta) (ha : DSs M X sa f) (hb : DSs M X sb g) : DS M X (.If c sa sb pos) (sIf ta f g) := fun hK hM => psI (ps_if (h hK hM) (ha hK hM) (hb hK hM)) fun _ _ _ q => s_if q
theorem ds_frz (i : Nat) (h : DS M X st f) : DS M X st (sFrz i f) := fun hK hM => psI (h hK hM) fun _ _ _ q => s_frz q
theorem ds_set {i : Nat} {x : Str} {p : Pos} (hN : X.N.Nodup) (hi : X.N[i]? = some x) (hx : Loc X.env.scope x) (h : DE M X e fa) (hs : swapsWith e (some (.Name x p)) pos.line X.env = pure false := by rfl)
  (hf : X.fn x = true ∨ X.env.scope.names.lookup x = some .local := by first | exact .inl rfl | exact .inr rfl | assumption) : DS M X (.Assign [.Name x p] e pos) (sSet i fa) := fun hK hM =>
 psI (ps_set hN hi hx (h hK hM) hs hf) fun _ _ _ q => s_set (ix_lt hi) q
theorem ds_for {tg iter : Expr} {it : Fi} {is : List Nat} {gg : Fg} {body : List Stmt} (hc : X.calm = true) (hp : PassesOwn (model X.prog X.w) X.A X.env X.xe) (hi : DI M X tg iter it) (hg : DG M X tg is gg) (hb : DSs M X body f) (hs : ∀ x, foldedSetIterable iter X.env x = pure x := by intro _; rfl) : DS M X (.For tg iter body [] pos) (sFor it gg f) := fun hK hM =>
 psI (ps_for hp hc (hi hK hM) (hg hK hM) (hb hK hM) hs) fun _ _ _ q => s_for q
variable {x : Str} {p ap cp : Pos}
theorem dm_1 {o : Expr} {to : TE} {t : TA} {name : Str} {id : String} {r : V → List V → Hp → VK → Prop} (slot : Slot "list" name id) (hty : typeOf (.builtin id) = pure (.type "method_descriptor")) (hm : MtR X id r) (ho : PE X o to) (ha : PA X [e] t) (k : ∀ D σ H, tS M X.N.length f D σ H → tDrop (tBM M.K "list" r to t) D σ H)
  (hbase : attributeBase o name X.env (eval o X.env) = eval o X.env)
  (hfew : ((backTo cp (starEach [e] X.env)).all (fun x => !x.1) && (backToKw cp (keywordEach [] X.env)).all (fun x => x.1.isSome) && decide (([e] : List Expr).length + ([] : List Keyword).length + (if ([] : List Keyword).isEmpty then 0 else 1) < 30)) = true)
  (hline : (ap.endLine == cp.line) = true) (hs : starEach [e] X.env = (false, eval e X.env) :: starEach [] X.env) (hplain : (backTo cp (starEach [] X.env)).any (·.1) = false)
  (hsw : swapsWith (.Call (.Attribute o name ap) [e] [] cp) none pos.line X.env = pure false) (hK : X.K = M.K) : PS X (.Expr (.Call (.Attribute o name ap) [e] [] cp) pos) (tS M X.N.length f) := by
 have q := pe_bm (apos := ap) (cpos := cp) PySem.F.plainAttrs_list slot hty hm ho ha hbase hfew hline hs hplain
 rw [hK] at q
 exact psI (ps_expr q hsw) k
theorem paOf (h : DE M X e fa) (hs : starEach [e] X.env = (false, eval e X.env) :: starEach [] X.env) (hK : X.K = M.K) (hM : X.mg = M.mg) : PA X [e] (tCons (tD M X.N.length fa) tNil) := pa_cons (h hK hM) pa_nil hs
theorem ds_app (i : Nat) (h : DE M X e fa) (hN : X.N[i]? = some x := by rfl) (hv : Vis X.env.scope x := by first | exact Or.inl rfl | exact Or.inr (Or.inl rfl) | exact Or.inr (Or.inr rfl)) (hd : (x == ("__debug__" : Str)) = false := by decide) (hcd : (x == ("__classdict__" : Str)) = false := by decide)
  (hbase : attributeBase (.Name x p) "append" X.env (eval (.Name x p) X.env) = eval (.Name x p) X.env := by rfl)
  (hfew : ((backTo cp (starEach [e] X.env)).all (fun x => !x.1) && (backToKw cp (keywordEach [] X.env)).all (fun x => x.1.isSome) && decide (([e] : List Expr).length + ([] : List Keyword).length + (if ([] : List Keyword).isEmpty then 0 else 1) < 30)) = true := by rfl)
  (hline : (ap.endLine == cp.line) = true := by rfl) (hs : starEach [e] X.env = (false, eval e X.env) :: starEach [] X.env := by rfl) (hplain : (backTo cp (starEach [] X.env)).any (·.1) = false := by rfl)
  (hsw : swapsWith (.Call (.Attribute (.Name x p) "append" ap) [e] [] cp) none pos.line X.env = pure false := by rfl) : DS M X (.Expr (.Call (.Attribute (.Name x p) "append" ap) [e] [] cp) pos) (sApp i fa) := fun hK hM =>
 dm_1 PySem.F.slot_list_append PySem.F.type_list_append mt_append (pe_var hN hv hd hcd) (paOf h hs hK hM) (fun _ _ _ q => s_app q) hbase hfew hline hs hplain hsw hK
variable {sc scope : Scope} {outs : List (Nat × Str)} {elt tg iter : Expr} {ifs : List Expr} {it : Fi} {gg : Fg} {is : List Nat} {el : Fe}
theorem df_one (h : DT M X c ta) : DF M X [c] ta := fun hK hM => pf_one (h hK hM)
theorem cx_len (own : List Str) (s : Shared) (H : Hp) (C : Addr) (ex : List Addr) (pins : List (Addr × Obj)) : (cxB X (own ++ outs.map (·.2)) scope s H C ex pins).N.length = own.length + outs.length := by
 show (own ++ outs.map (·.2)).length = _
 rw [List.length_append, List.length_map]
theorem ds_setC {fe : Fe} {i : Nat} {spos : Pos} (own : List Str) (w : ∀ σ H Q, tD M X.N.length fe σ H Q → tD M X.N.length (eComp it gg ta el own.length (outs.map (·.1))) σ H Q) (hN : X.N.Nodup) (hix : X.N[i]? = some x) (hx : Loc X.env.scope x) (B : Blk X sc scope outs) (hcalm : X.calm = true) (hk : ∀ j ∈ is, j < own.length) (hi : DI M X tg iter it)
  (hg : ∀ s H C ex pins, DG M (cxB X (own ++ outs.map (·.2)) scope s H C ex pins) tg is gg) (hc : ∀ s H C ex pins, DF M (cxB X (own ++ outs.map (·.2)) scope s H C ex pins) ifs ta) (he : ∀ s H C ex pins, DE M (cxB X (own ++ outs.map (·.2)) scope s H C ex pins) elt el)
  (hsw : swapsWith (.ListComp elt [⟨tg, iter, ifs, 0⟩] scope pos) (some (.Name x p)) spos.line X.env = pure true := by rfl)
  (hs : ∀ x, foldedSetIterable iter X.env x = pure x := by intro _; rfl) (hf : X.fn x = true ∨ X.env.scope.names.lookup x = some .local := by first | exact .inl rfl | exact .inr rfl | assumption) :
  DS M X (.Assign [.Name x p] (.ListComp elt [⟨tg, iter, ifs, 0⟩] scope pos) spos) (sSet i fe) := fun hK hM =>
 psI (ps_setC (wi := tI M X.N.length it) (g := tG M (own.length + outs.length) is gg) (tc := tT M (own.length + outs.length) ta) (te := tD M (own.length + outs.length) el) own hN hix hx B hcalm (hi hK hM)
  (fun s H C ex pins => by have q := hg s H C ex pins hK hM; rw [cx_len] at q; exact q) (fun s H C ex pins => by have q := hc s H C ex pins hK hM; rw [cx_len] at q; exact q) (fun s H C ex pins => by have q := he s H C ex pins hK hM; rw [cx_len] at q; exact q) hsw hs hf) fun D σ H q => by
  have q' := s_set (ix_lt hix) q
  exact d_comp hk (w _ _ _ q')
end
end L3
namespace L3
open PySem L2 PySem.Spec PyProof.Rows
noncomputable def oI (i : Int) : R OD := .ok (.sh (.int i))
noncomputable def oB (b : Bool) : R OD := .ok (.sh (.bool b))
noncomputable def oD (d : PyData) : R OD := .ok (.sh d)
noncomputable def gAdd : PyData → PyData → R OD
 | .int i, .int j => oI (i + j)
 | .str x, .str y => if x.length + y.length ≤ BIG then oD (.str (x ++ y)) else .bad
 | .list xs, .list ys => if xs.length + ys.length ≤ BIG then .ok (.ol ((xs ++ ys).map OD.sh)) else .bad
 | _, _ => .bad
noncomputable def gSub3 : PyData → PyData → R OD
 | .int i, .int j => oI (i - j)
 | _, _ => .bad
noncomputable def cmulB (i j : Int) : Bool := (decide (-(2 ^ 64) < i) && decide (i < 2 ^ 64)) || (decide (-(2 ^ 64) < j) && decide (j < 2 ^ 64))
noncomputable def gMul : PyData → PyData → R OD
 | .int i, .int j => if cmulB i j = true then oI (i * j) else .bad
 | .list xs, .int k => if (decide (-(2 ^ 63) ≤ k) && decide (k < 2 ^ 63) && decide (xs.length * k.toNat ≤ BIG)) = true then .ok (.ol ((List.replicate k.toNat xs).flatten.map OD.sh)) else .bad
 | _, _ => .bad
noncomputable def gMod : PyData → PyData → R OD
 | .int i, .int j => if 0 < j then oI (i % j) else .bad
 | _, _ => .bad
noncomputable def gFdv : PyData → PyData → R OD
 | .int i, .int j => if 0 < j ∧ j < 1073741824 then oI (i / j) else .bad
 | _, _ => .bad
noncomputable def gPow : PyData → PyData → R OD
 | .int i, .int j => if 0 ≤ j ∧ j ≤ 1000000 ∧ i.natAbs < 2 ^ 64 then oI (i ^ j.toNat) else .bad
 | _, _ => .bad
noncomputable def gNeg : PyData → R OD
 | .int i => oI (-i)
 | _ => .bad
noncomputable def gLt : PyData → PyData → R OD
 | .int i, .int j => oB (decide (i < j))
 | _, _ => .bad
noncomputable def gLe : PyData → PyData → R OD
 | .int i, .int j => oB (decide (i ≤ j))
 | _, _ => .bad
noncomputable def gGt : PyData → PyData → R OD
 | .int i, .int j => oB (decide (j < i))
 | _, _ => .bad
noncomputable def gGe : PyData → PyData → R OD
 | .int i, .int j => oB (decide (j ≤ i))
 | _, _ => .bad
noncomputable def deepEq (x y : PyData) : R Bool := if (SeqAt.shaped x && SeqAt.shaped y) = true then .ok (PyData.eqv x y) else .bad
noncomputable def eqD : PyData → PyData → R Bool
 | .int i, .int j => .ok (decide (i = j))
 | .str x, .str y => .ok (decide (x = y))
 | .bool x, .bool y => .ok (decide (x = y))
 | x, y => deepEq x y
noncomputable def gEq (x y : PyData) : R OD := (eqD x y).bind fun b => oB b
noncomputable def gNe (x y : PyData) : R OD := (eqD x y).bind fun b => oB (!b)
noncomputable def liftD (o : Option PyData) : R OD := match o with
 | some d => oD d
 | none => .bad
noncomputable def gIx : PyData → PyData → R OD
 | .list xs, .int i => liftD (atI xs i)
 | .tuple xs, .int i => liftD (atI xs i)
 | .str z, .int i => if z.length ≤ BIG then liftD ((atI z.cps.toList i).map fun c => .str ⟨#[c]⟩) else .bad
 | _, _ => .bad
noncomputable def cutD (xs : List PyData) (lo hi : Option Int) : List PyData := (xs.drop (HT.sIx xs.length 0 lo)).take (HT.sIx xs.length xs.length hi - HT.sIx xs.length 0 lo)
noncomputable def gSlc (x : PyData) (lo hi : Option Int) : R OD := match x with
 | .list xs => .ok (.ol ((cutD xs lo hi).map OD.sh))
 | _ => .bad
noncomputable def gLen : List PyData → R OD
 | [.list xs] => oI xs.length
 | [.tuple xs] => oI xs.length
 | [.str x] => if x.length ≤ BIG then oI x.length else .bad
 | _ => .bad
noncomputable def gMin2 : List PyData → R OD
 | [.int i, .int j] => oI (if j < i then j else i)
 | _ => .bad
noncomputable def gMax2 : List PyData → R OD
 | [.int i, .int j] => oI (if i < j then j else i)
 | _ => .bad
noncomputable def getInts : List PyData → Option (List Int)
 | [] => some []
 | .int i :: r => (getInts r).map (i :: ·)
 | _ :: _ => none
theorem getInts_map : ∀ ns : List Int, getInts (ns.map PyData.int) = some ns
 | [] => rfl
 | n :: ns => by rw [List.map_cons, getInts, getInts_map ns]; rfl
theorem getInts_of : ∀ {ds : List PyData} {ns : List Int}, getInts ds = some ns → ds = ns.map PyData.int
 | [], ns, h => by cases h; rfl
 | .int i :: r, ns, h => by
  rw [getInts] at h
  obtain ⟨ms, h1, rfl⟩ := Option.map_eq_some_iff.mp h
  rw [getInts_of h1]
  rfl
 | .none :: _, _, h => by cases h
 | .bool _ :: _, _, h => by cases h
 | .str _ :: _, _, h => by cases h
 | .list _ :: _, _, h => by cases h
 | .tuple _ :: _, _, h => by cases h
 | .dict _ :: _, _, h => by cases h
noncomputable def maxI : Int → List Int → Int
 | m, [] => m
 | m, n :: ns => maxI (if m < n then n else m) ns
noncomputable def minI : Int → List Int → Int
 | m, [] => m
 | m, n :: ns => minI (if n < m then n else m) ns
noncomputable def gMaxL : List PyData → R OD
 | [.list ds] => match getInts ds with
  | some (n :: ns) => oI (maxI n ns)
  | _ => .bad
 | _ => .bad
noncomputable def gMinL : List PyData → R OD
 | [.list ds] => match getInts ds with
  | some (n :: ns) => oI (minI n ns)
  | _ => .bad
 | _ => .bad
noncomputable def gListOf : List PyData → R OD
 | [.list ds] => .ok (.ol (ds.map OD.sh))
 | [.tuple ds] => .ok (.ol (ds.map OD.sh))
 | _ => .bad
noncomputable def gInt : List PyData → R OD
 | [.int i] => oI i
 | [.bool b] => oI (if b then 1 else 0)
 | _ => .bad
noncomputable def gIdx (ds : List PyData) (y : PyData) : R OD := match y with
 | .int z => match getInts ds with
  | some ns => if z ∈ ns then oI (ns.idxOf z : Nat) else .bad
  | none => .bad
 | _ => .bad
noncomputable def kindD : PyData → Option String
 | .int _ => some "int"
 | .bool _ => some "bool"
 | .str _ => some "str"
 | .list _ => some "list"
 | .tuple _ => some "tuple"
 | .none => some "NoneType"
 | .dict _ => none
noncomputable def isiB (T : String) (d : PyData) : Option Bool := match kindD d with
 | some U => if T = "int" ∨ T = "bool" ∨ T = "str" ∨ T = "list" ∨ T = "tuple" then some (decide (T = U ∨ (U = "bool" ∧ T = "int"))) else none
 | none => none
noncomputable def gIsi (T : String) (x : PyData) : R OD := match isiB T x with
 | some b => oB b
 | none => .bad
section
variable {M : Mx} {X : Cx}
theorem okI {F H : Hp} {fp : List Addr} {Q : VK} {i : Int} (s : Same F H) (p : Post M H fp (OkE M F H Q) (oI i)) : Q (.int i) H := OkE.val s p (.int i)
theorem okB {F H : Hp} {fp : List Addr} {Q : VK} {i : Bool} (s : Same F H) (p : Post M H fp (OkE M F H Q) (oB i)) : Q (.bl i) H := OkE.val s p (.bl i)
noncomputable def rCatK (K : PySem.W.Frag) : R2 := fun x y H Q => ∃ l b xs zs, x = .ref l ∧ y = .ref b ∧ RdK K H l xs ∧ RdK K H b zs ∧ xs.length + zs.length ≤ sizeLine ∧ ∀ p, H p = none → Q (.ref p) (upd H p (.lst (xs ++ zs)))
theorem op_catK : OpR X (binaryOp .Add) (rCatK X.K) := by
 intro pins s σ H x y v u Q I rx ry h
 obtain ⟨l, b, xs, zs, rfl, rfl, hH, hB, hz, q⟩ := h
 cases rx
 cases ry
 obtain ⟨z, its, n, r, hl, e⟩ := hH.obj I
 obtain ⟨z2, its2, n2, r2, hl2, e2⟩ := hB.obj I
 refine PySem.P.add_list e e2 ?_ (by rw [List.size_toArray, List.size_toArray]; lia)
 have ea : its.toArray ++ its2.toArray = (its ++ its2).toArray := by simp
 rw [ea]
 exact ⟨.ref _, _, I.lnew (t' := s.toks) (r.append r2) (by rw [List.length_append]; lia), rfl, q _ I.fresh⟩
noncomputable def rAdd3 (K : PySem.W.Frag) : R2 := fun x y H Q => rI0 (fun i j => .int (i + j)) x y H Q ∨ (∃ i j, x = .str i ∧ y = .str j ∧ i.length + j.length ≤ sizeLine ∧ Q (.str (i ++ j)) H) ∨ rCatK K x y H Q
theorem op_add3 : OpR X (binaryOp .Add) (rAdd3 X.K) := op_add.or (op_add_str.or op_catK)
theorem ok_add (hK : X.K = M.K) : Ok2 M (rAdd3 X.K) gAdd := by
 rw [hK]
 intro x y dx dy F H fp Q s rx ry p
 unfold gAdd at p
 split at p
 ·cases rx; cases ry
  exact .inl ⟨_, _, rfl, rfl, okI s p⟩
 ·cases rx; cases ry
  split at p
  ·rename_i hl
   exact .inr (.inl ⟨_, _, rfl, rfl, big_le hl, OkE.val s p (.str _)⟩)
  ·exact p.elim
 ·split at p
  ·rename_i hl
   cases rx with
   | lst h1 h2 =>
    cases ry with
    | lst h3 h4 => exact .inr (.inr ⟨_, _, _, _, rfl, rfl, h1.same s, h3.same s, by rw [RepAll.len h2, RepAll.len h4]; exact big_le hl, fun a ha => OkE.lstD s p (RepAll.app h2 h4) ha⟩)
  ·exact p.elim
 ·exact p.elim
theorem ok_sub : Ok2 M (rI0 fun i j => .int (i - j)) gSub3 := by
 intro x y dx dy F H fp Q s rx ry p
 unfold gSub3 at p
 split at p
 ·cases rx; cases ry
  exact ⟨_, _, rfl, rfl, okI s p⟩
 ·exact p.elim
theorem cmul_of {i j : Int} (h : cmulB i j = true) : CMul i j := by
 unfold cmulB at h
 rw [Bool.or_eq_true, Bool.and_eq_true, Bool.and_eq_true, decide_eq_true_eq, decide_eq_true_eq, decide_eq_true_eq, decide_eq_true_eq] at h
 exact h
noncomputable def rRepK (K : PySem.W.Frag) : R2 := fun x y H Q => ∃ l k xs, x = .ref l ∧ y = .int k ∧ RdK K H l xs ∧ -(2 ^ 63) ≤ k ∧ k < 2 ^ 63 ∧ xs.length * k.toNat ≤ sizeLine ∧
 ∀ p, H p = none → Q (.ref p) (upd H p (.lst (List.replicate k.toNat xs).flatten))
theorem op_repK : OpR X (binaryOp .Mult) (rRepK X.K) := by
 intro pins s σ H x y v u Q I rx ry h
 obtain ⟨l, k, xs, rfl, rfl, hH, h1, h2, hz, q⟩ := h
 cases rx
 obtain ⟨t, rfl⟩ := ry
 obtain ⟨z, its, n, r, hl, e⟩ := hH.obj I
 have hlen : its.toArray.size * k.toNat ≤ sizeLine := by rw [List.size_toArray, ← hl]; exact hz
 have hcap : ¬ its.toArray.size * k.toNat > (2 ^ 63 - 1) / 8 := by
  have : (sizeLine : Nat) ≤ (2 ^ 63 - 1) / 8 := by decide
  lia
 have hfit : ¬ (!Builtin.List.listFitsIndex k) = true := by
  rw [fitsIndex_both h1 h2]
  exact Bool.false_ne_true
 have hlong : ¬ Builtin.List.listTooLong (its.toArray.size * k.toNat) = true := by
  rw [notLongL hlen]
  exact Bool.false_ne_true
 have hnew : List.foldl (fun x1 x2 => x1 ++ x2) #[] (List.replicate (if its.toArray.isEmpty = true then 0 else k.toNat) its.toArray) = (List.replicate k.toNat its).flatten.toArray := by
  have f0 : ∀ m : Nat, List.foldl (fun x1 x2 => x1 ++ x2) #[] (List.replicate m its.toArray) = (List.replicate m its).flatten.toArray := fun m => by
   have := foldl_rep its m []
   rw [List.nil_append] at this
   exact this
  rw [f0]
  cases its with
  | nil => simp
  | cons a r' => rw [if_neg (by simp)]
 refine wpAny_binaryOp_repeat_ref (T := "list") (U := "int") (by decide) ⟨_, e, rfl⟩ (fun s' => typeIs_int s' k t) noFill_list_mul F.fills_int_mul F.slot_int_rmul repeat_list F.slot_int_index.lookup
  (call_meets F.slot_int_rmul (typeIs_int s k t) F.entry_int_rmul (F.args_int_rmul_2 _ _) (int___rmul___int_list k t l its.toArray n)
   ⟨e, rfl, ⟨_, e, rfl⟩, call_meets F.slot_list_mul ⟨_, e, rfl⟩ F.entry_list_mul (F.args_list_mul_2 _ _) (AutoListH.list___mul___list_int_3 l its.toArray n k t hfit hcap hlong) ⟨e, ?_⟩⟩)
 rw [hnew]
 exact ⟨.ref _, _, I.lnew (t' := s.toks) (r.rep k.toNat) (by rw [len_rep, Nat.mul_comm]; exact hz), rfl, q _ I.fresh⟩
noncomputable def rMul3 (K : PySem.W.Frag) : R2 := fun x y H Q => rI CMul (fun i j => .int (i * j)) x y H Q ∨ rRepK K x y H Q
theorem op_mul3 : OpR X (binaryOp .Mult) (rMul3 X.K) := op_mul.or op_repK
theorem RepAll.rep {K : PySem.W.Frag} {F : Hp} {vs : List V} {ds : List PyData} (h : RepAll K F vs ds) : ∀ k : Nat, RepAll K F (List.replicate k vs).flatten (List.replicate k ds).flatten
 | 0 => .nil
 | k + 1 => by
  rw [List.replicate_succ, List.replicate_succ, List.flatten_cons, List.flatten_cons]
  exact RepAll.app h (RepAll.rep h k)
theorem ok_mul (hK : X.K = M.K) : Ok2 M (rMul3 X.K) gMul := by
 rw [hK]
 intro x y dx dy F H fp Q s rx ry p
 unfold gMul at p
 split at p
 ·cases rx; cases ry
  split at p
  ·rename_i hc
   exact .inl ⟨_, _, rfl, rfl, cmul_of hc, okI s p⟩
  ·exact p.elim
 ·cases ry
  split at p
  ·rename_i hc
   rw [Bool.and_eq_true, Bool.and_eq_true, decide_eq_true_eq, decide_eq_true_eq, decide_eq_true_eq] at hc
   cases rx with
   | lst h1 h2 => exact .inr ⟨_, _, _, rfl, rfl, h1.same s, hc.1.1, hc.1.2, by rw [RepAll.len h2]; exact big_le hc.2, fun a ha => OkE.lstD s p (RepAll.rep h2 _) ha⟩
  ·exact p.elim
 ·exact p.elim
theorem ok_mod : Ok2 M (rI (fun _ j => 0 < j) fun i j => .int (i % j)) gMod := by
 intro x y dx dy F H fp Q s rx ry p
 unfold gMod at p
 split at p
 ·cases rx; cases ry
  split at p
  ·rename_i hc
   exact ⟨_, _, rfl, rfl, hc, okI s p⟩
  ·exact p.elim
 ·exact p.elim
theorem ok_fdv : Ok2 M (rI CDiv fun i j => .int (i / j)) gFdv := by
 intro x y dx dy F H fp Q s rx ry p
 unfold gFdv at p
 split at p
 ·cases rx; cases ry
  split at p
  ·rename_i hc
   exact ⟨_, _, rfl, rfl, hc, okI s p⟩
  ·exact p.elim
 ·exact p.elim
theorem ok_pow : Ok2 M (rI CPow fun i j => .int (i ^ j.toNat)) gPow := by
 intro x y dx dy F H fp Q s rx ry p
 unfold gPow at p
 split at p
 ·cases rx; cases ry
  split at p
  ·rename_i hc
   exact ⟨_, _, rfl, rfl, hc, okI s p⟩
  ·exact p.elim
 ·exact p.elim
theorem ok_neg : Ok1 M (rU fun i => .int (-i)) gNeg := by
 intro x dx F H fp Q s rx p
 unfold gNeg at p
 split at p
 ·cases rx
  exact ⟨_, rfl, okI s p⟩
 ·exact p.elim
theorem ok_lt : Ok2 M (rI0 fun i j => .bl (decide (i < j))) gLt := by
 intro x y dx dy F H fp Q s rx ry p
 unfold gLt at p
 split at p
 ·cases rx; cases ry
  exact ⟨_, _, rfl, rfl, okB s p⟩
 ·exact p.elim
theorem ok_gt : Ok2 M (rI0 fun i j => .bl (decide (j < i))) gGt := by
 intro x y dx dy F H fp Q s rx ry p
 unfold gGt at p
 split at p
 ·cases rx; cases ry
  exact ⟨_, _, rfl, rfl, okB s p⟩
 ·exact p.elim
theorem ok_ge : Ok2 M (rI0 fun i j => .bl (decide (j ≤ i))) gGe := by
 intro x y dx dy F H fp Q s rx ry p
 unfold gGe at p
 split at p
 ·cases rx; cases ry
  exact ⟨_, _, rfl, rfl, okB s p⟩
 ·exact p.elim
mutual
theorem Rep.to2 {K : PySem.W.Frag} {H : Hp} {v : V} {d : PyData} : Rep K H v d → d.canLay0 = true → L2.Rep K H v d
 | .non, _ => .non
 | .bl b, _ => .bl b
 | .int i, _ => .int i
 | .str x, _ => .str x
 | .lst h r, c => .lst h.sq (RepAll.to2 r (by rw [PyData.canLay0] at c; exact c))
 | .tup h r, c => .tup (SqT.of h) (RepAll.to2 r (by rw [PyData.canLay0] at c; exact c))
 | .dct _ _ _, c => by
  unfold dD at c
  rw [PyData.canLay0] at c
  cases c
 | .ins _ _ _, c => by
  unfold iD at c
  rw [PyData.canLay0] at c
  cases c
theorem RepAll.to2 {K : PySem.W.Frag} {H : Hp} {vs : List V} {ds : List PyData} : RepAll K H vs ds → PyData.canLayAll0 ds = true → L2.RepAll K H vs ds
 | .nil, _ => .nil
 | .cons h r, c => by
  rw [PyData.canLayAll0, Bool.and_eq_true] at c
  exact .cons (Rep.to2 h c.1) (RepAll.to2 r c.2)
end
noncomputable def rEq3 (K : PySem.W.Frag) : R2 := fun x y H Q => rEq x y H Q ∨ rEqD K x y H Q
noncomputable def rNe3 (K : PySem.W.Frag) : R2 := fun x y H Q => rNe x y H Q ∨ rNeD K x y H Q
theorem op_eq3 (hu : X.A.units + 64 < cLine) : OpR X (compareOp .Eq) (rEq3 X.K) := op_eq.or (op_eqD hu)
theorem op_ne3 (hu : X.A.units + 64 < cLine) : OpR X (compareOp .NotEq) (rNe3 X.K) := op_ne.or (op_neD hu)
theorem eqD_of {K : PySem.W.Frag} {F H : Hp} {fp : List Addr} {x y : V} {dx dy : PyData} {P : Bool → Prop} (rx : Rep K F x dx) (ry : Rep K F y dy) (p : Post M H fp P (eqD dx dy)) :
  (scal x y = true ∧ P (decide (x = y))) ∨ (SeqAt.shaped dx = true ∧ SeqAt.shaped dy = true ∧ P (PyData.eqv dx dy)) := by
 unfold eqD at p
 split at p
 ·cases rx; cases ry
  refine .inl ⟨rfl, ?_⟩
  have e : ∀ i j : Int, decide (V.int i = V.int j) = decide (i = j) := fun i j => by
   by_cases h : i = j
   ·rw [h]; simp
   ·rw [decide_eq_false h, decide_eq_false fun z => h (V.int.inj z)]
  rw [e]
  exact p
 ·cases rx; cases ry
  refine .inl ⟨rfl, ?_⟩
  have e : ∀ i j : Str, decide (V.str i = V.str j) = decide (i = j) := fun i j => by
   by_cases h : i = j
   ·rw [h]; simp
   ·rw [decide_eq_false h, decide_eq_false fun z => h (V.str.inj z)]
  rw [e]
  exact p
 ·cases rx; cases ry
  refine .inl ⟨rfl, ?_⟩
  have e : ∀ i j : Bool, decide (V.bl i = V.bl j) = decide (i = j) := fun i j => by
   by_cases h : i = j
   ·rw [h]; simp
   ·rw [decide_eq_false h, decide_eq_false fun z => h (V.bl.inj z)]
  rw [e]
  exact p
 ·unfold deepEq at p
  split at p
  ·rename_i h
   rw [Bool.and_eq_true] at h
   exact .inr ⟨h.1, h.2, p⟩
  ·exact p.elim
theorem ok_eq (hK : X.K = M.K) : Ok2 M (rEq3 X.K) gEq := by
 rw [hK]
 intro x y dx dy F H fp Q s rx ry p
 rcases eqD_of rx ry (Post.bind p) with ⟨h, q⟩ | ⟨h1, h2, q⟩
 ·exact .inl ⟨h, okB s q⟩
 ·exact .inr ⟨dx, dy, (rx.same s).to2 (SeqAt.canLay_of_shaped h1), (ry.same s).to2 (SeqAt.canLay_of_shaped h2), h1, h2, okB s q⟩
theorem ok_ne (hK : X.K = M.K) : Ok2 M (rNe3 X.K) gNe := by
 rw [hK]
 intro x y dx dy F H fp Q s rx ry p
 rcases eqD_of rx ry (Post.bind p) with ⟨h, q⟩ | ⟨h1, h2, q⟩
 ·exact .inl ⟨h, okB s q⟩
 ·exact .inr ⟨dx, dy, (rx.same s).to2 (SeqAt.canLay_of_shaped h1), (ry.same s).to2 (SeqAt.canLay_of_shaped h2), h1, h2, okB s q⟩
theorem atI_rep {K : PySem.W.Frag} {F : Hp} {vs : List V} {ds : List PyData} {i : Int} {d : PyData} (h : RepAll K F vs ds) (e : atI ds i = some d) : ∃ v, atI vs i = some v ∧ Rep K F v d := by
 unfold atI at e ⊢
 rw [RepAll.len h]
 cases q : ixN ds.length i with
 | none => rw [q] at e; cases e
 | some j =>
  rw [q] at e
  obtain ⟨v, h1, h2⟩ := RepAll.get h e
  exact ⟨v, h1, h2⟩
theorem ok_ix (hK : X.K = M.K) : Ok2 M (rIx X.K) gIx := by
 rw [hK]
 intro x y dx dy F H fp Q s rx ry p
 unfold gIx at p
 split at p
 ·cases ry
  unfold liftD at p
  split at p
  ·rename_i d hd
   cases rx with
   | lst h1 h2 =>
    obtain ⟨v, e, r⟩ := atI_rep h2 hd
    exact .inl ⟨_, _, _, v, rfl, rfl, (h1.same s).sq, e, OkE.val s p r⟩
  ·exact p.elim
 ·cases ry
  unfold liftD at p
  split at p
  ·rename_i d hd
   cases rx with
   | tup h1 h2 =>
    obtain ⟨v, e, r⟩ := atI_rep h2 hd
    exact .inr (.inl ⟨_, _, _, v, rfl, rfl, SqT.of (s _ _ h1), e, OkE.val s p r⟩)
  ·exact p.elim
 ·cases ry
  cases rx
  split at p
  ·rename_i hl
   unfold liftD at p
   split at p
   ·rename_i d hd
    obtain ⟨c, hc, rfl⟩ := Option.map_eq_some_iff.mp hd
    exact .inr (.inr ⟨_, _, c, rfl, rfl, big_le hl, hc, OkE.val s p (.str _)⟩)
   ·exact p.elim
  ·exact p.elim
 ·exact p.elim
theorem ok_slc (hK : X.K = M.K) : OkS M (rSlL X.K) gSlc := by
 rw [hK]
 intro x lo hi dx F H fp Q s rx p
 unfold gSlc at p
 split at p
 ·cases rx with
  | @lst a vs ds h1 h2 =>
   refine ⟨a, vs, rfl, (h1.same s).sq, fun q hq => ?_⟩
   refine OkE.lstD s p ?_ hq
   unfold cutV cutD
   rw [RepAll.len h2]
   exact RepAll.take _ (RepAll.drop _ h2)
 ·exact p.elim
noncomputable def rLen3 (K : PySem.W.Frag) : List V → Hp → VK → Prop := fun xs H Q => (∃ p ys, xs = [.ref p] ∧ (SqL K H p ys ∨ SqT K H p ys) ∧ Q (.int ys.length) H) ∨ (∃ z, xs = [.str z] ∧ z.length ≤ sizeLine ∧ Q (.int z.length) H)
theorem call_len3 : CallR X (.builtin "len") (rLen3 X.K) := call_len_seq.or call_len_str
theorem ok_len (hK : X.K = M.K) : OkC M (rLen3 X.K) gLen := by
 rw [hK]
 intro x dx F H fp Q s rx p
 unfold gLen at p
 split at p
 ·cases rx with
  | cons h r =>
   cases r
   cases h with
   | lst h1 h2 => exact .inl ⟨_, _, rfl, .inl (h1.same s).sq, by rw [RepAll.len h2]; exact okI s p⟩
 ·cases rx with
  | cons h r =>
   cases r
   cases h with
   | tup h1 h2 => exact .inl ⟨_, _, rfl, .inr (SqT.of (s _ _ h1)), by rw [RepAll.len h2]; exact okI s p⟩
 ·cases rx with
  | cons h r =>
   cases r
   cases h
   split at p
   ·rename_i hl
    exact .inr ⟨_, rfl, big_le hl, okI s p⟩
   ·exact p.elim
 ·exact p.elim
theorem two_ints {K : PySem.W.Frag} {F : Hp} {x : List V} {i j : Int} (r : RepAll K F x [.int i, .int j]) : x = [.int i, .int j] := by
 cases r with
 | cons h r =>
  cases h
  cases r with
  | cons h r =>
   cases h
   cases r
   rfl
theorem ok_min2 : OkC M (fun xs H Q => ∃ i j, xs = [.int i, .int j] ∧ Q (.int (if j < i then j else i)) H) gMin2 := by
 intro x dx F H fp Q s rx p
 unfold gMin2 at p
 split at p
 ·exact ⟨_, _, two_ints rx, okI s p⟩
 ·exact p.elim
theorem ok_max2 : OkC M (fun xs H Q => ∃ i j, xs = [.int i, .int j] ∧ Q (.int (if j > i then j else i)) H) gMax2 := by
 intro x dx F H fp Q s rx p
 unfold gMax2 at p
 split at p
 ·exact ⟨_, _, two_ints rx, okI s p⟩
 ·exact p.elim
theorem maxI_spec : ∀ (ns : List Int) (m : Int), maxI m ns ∈ m :: ns ∧ ∀ z ∈ m :: ns, z ≤ maxI m ns
 | [], m => ⟨List.mem_cons_self, fun z h => by simp at h; rw [h]; exact Int.le_refl _⟩
 | n :: ns, m => by
  obtain ⟨h1, h2⟩ := maxI_spec ns (if m < n then n else m)
  rw [maxI]
  have hm : m ≤ (if m < n then n else m) := by split <;> lia
  have hn : n ≤ (if m < n then n else m) := by split <;> lia
  have ht := h2 _ List.mem_cons_self
  refine ⟨?_, fun z hz => ?_⟩
  ·rcases List.mem_cons.mp h1 with h | h
   ·rw [h]
    split <;> simp
   ·simp [h]
  ·rcases List.mem_cons.mp hz with rfl | hz
   ·lia
   ·rcases List.mem_cons.mp hz with rfl | hz
    ·lia
    ·exact h2 z (List.mem_cons_of_mem _ hz)
theorem minI_spec : ∀ (ns : List Int) (m : Int), minI m ns ∈ m :: ns ∧ ∀ z ∈ m :: ns, minI m ns ≤ z
 | [], m => ⟨List.mem_cons_self, fun z h => by simp at h; rw [h]; exact Int.le_refl _⟩
 | n :: ns, m => by
  obtain ⟨h1, h2⟩ := minI_spec ns (if n < m then n else m)
  rw [minI]
  have hm : (if n < m then n else m) ≤ m := by split <;> lia
  have hn : (if n < m then n else m) ≤ n := by split <;> lia
  have ht := h2 _ List.mem_cons_self
  refine ⟨?_, fun z hz => ?_⟩
  ·rcases List.mem_cons.mp h1 with h | h
   ·rw [h]
    split <;> simp
   ·simp [h]
  ·rcases List.mem_cons.mp hz with rfl | hz
   ·lia
   ·rcases List.mem_cons.mp hz with rfl | hz
    ·lia
    ·exact h2 z (List.mem_cons_of_mem _ hz)
theorem rep_ints {K : PySem.W.Frag} {F : Hp} {x : List V} {ds : List PyData} {ns : List Int} (s : Same F H') (r : RepAll K F x [.list ds]) (e : getInts ds = some ns) : ∃ a, x = [.ref a] ∧ SqL K H' a (ns.map V.int) := by
 cases r with
 | cons h r =>
  cases r
  cases h with
  | lst h1 h2 =>
   rw [getInts_of e] at h2
   rw [RepAll.toInts h2] at h1
   exact ⟨_, rfl, (h1.same s).sq⟩
theorem ok_maxL (hK : X.K = M.K) : OkC M (rMaxL X.K) gMaxL := by
 rw [hK]
 intro x dx F H fp Q s rx p
 unfold gMaxL at p
 split at p
 ·split at p
  ·rename_i n ns e
   obtain ⟨a, rfl, h⟩ := rep_ints s rx e
   refine ⟨a, n :: ns, rfl, h, by simp, fun m h1 h2 => ?_⟩
   obtain ⟨k1, k2⟩ := maxI_spec ns n
   have e : maxI n ns = m := Int.le_antisymm (h2 _ k1) (k2 _ h1)
   rw [← e]
   exact okI s p
  ·exact p.elim
 ·exact p.elim
theorem ok_minL (hK : X.K = M.K) : OkC M (rMinL X.K) gMinL := by
 rw [hK]
 intro x dx F H fp Q s rx p
 unfold gMinL at p
 split at p
 ·split at p
  ·rename_i n ns e
   obtain ⟨a, rfl, h⟩ := rep_ints s rx e
   refine ⟨a, n :: ns, rfl, h, by simp, fun m h1 h2 => ?_⟩
   obtain ⟨k1, k2⟩ := minI_spec ns n
   have e : minI n ns = m := Int.le_antisymm (k2 _ h1) (h2 _ k1)
   rw [← e]
   exact okI s p
  ·exact p.elim
 ·exact p.elim
noncomputable def eIsi (T : String) (a : Fe) : Fe := fun ρ => (a ρ).bind fun x => gIsi T x.er
noncomputable def rIsi3 (K : PySem.W.Frag) (T : String) : List V → Hp → VK → Prop := fun xs H Q => ∃ x d b, xs = [x, .ty T] ∧ Rep K H x d ∧ isiB T d = some b ∧ Q (.bl b) H
theorem kitAll {K : PySem.W.Frag} {T U : String} (hU : U = "int" ∨ U = "bool" ∨ U = "str" ∨ U = "list" ∨ U = "tuple" ∨ U = "NoneType") (hT : T = "int" ∨ T = "bool" ∨ T = "str" ∨ T = "list" ∨ T = "tuple") : PySem.W.kitOne K (.type U) (.type T) = some (decide (T = U ∨ (U = "bool" ∧ T = "int"))) := by
 rcases hU with rfl | rfl | rfl | rfl | rfl | rfl <;> rcases hT with rfl | rfl | rfl | rfl | rfl <;> rfl
theorem kitD {K : PySem.W.Frag} {T U : String} {d : PyData} {b : Bool} (hk : kindD d = some U) (hU : U = "int" ∨ U = "bool" ∨ U = "str" ∨ U = "list" ∨ U = "tuple" ∨ U = "NoneType") (e : isiB T d = some b) : PySem.W.kitOne K (.type U) (.type T) = some b := by
 unfold isiB at e
 rw [hk] at e
 have e' : (if T = "int" ∨ T = "bool" ∨ T = "str" ∨ T = "list" ∨ T = "tuple" then some (decide (T = U ∨ (U = "bool" ∧ T = "int"))) else none) = some b := e
 by_cases hT : T = "int" ∨ T = "bool" ∨ T = "str" ∨ T = "list" ∨ T = "tuple"
 ·rw [if_pos hT] at e'
  rw [← e']
  exact kitAll hU hT
 ·rw [if_neg hT] at e'
  cases e'
end
end L3
namespace L3
open PySem L2 PySem.Spec PyProof.Rows
section
variable {M : Mx} {X : Cx} {e a b c : Expr} {es : List Expr} {pos : Pos} {fa fb : Fe} {ta tb : Ft} {al : Fa}
theorem call_isi3 (T : String) : CallR X (.builtin "isinstance") (rIsi3 X.K T) := by
 intro pins s σ H xs us Q I r h
 obtain ⟨x, d, b, rfl, rd, e, q⟩ := h
 obtain ⟨u, v, rfl, ru, rv⟩ := Vals.two r
 cases rv
 have fin : ∀ tk, EP X pins σ Q (.bool b) { s with toks := tk } := fun tk => ⟨.bl b, H, I.tok tk, rfl, q⟩
 cases rd with
 | non =>
  cases (show u = Value.none from ru)
  exact PySem.W.kia_one PySem.W.kitx_none I.kIn True.intro (kitD rfl (by simp) e) (fun z => nomatch z) fin
 | bl y =>
  cases (show u = Value.bool y from ru)
  exact PySem.W.kia_one PySem.W.kitx_bool I.kIn True.intro (kitD rfl (by simp) e) (fun z => nomatch z) fin
 | int i =>
  obtain ⟨t, hq⟩ := (show ∃ t, u = Value.int i t from ru)
  cases hq
  exact PySem.W.kia_one PySem.W.kitx_int I.kIn True.intro (kitD rfl (by simp) e) (fun z => nomatch z) fin
 | str y =>
  obtain ⟨t, hq⟩ := (show ∃ t, u = Value.str y t from ru)
  cases hq
  exact PySem.W.kia_one PySem.W.kitx_str I.kIn True.intro (kitD rfl (by simp) e) (fun z => nomatch z) fin
 | @lst a xs ds h1 h2 =>
  cases (show u = Value.ref a from ru)
  obtain ⟨_, its, n, _, _, he⟩ := h1.obj I
  exact PySem.W.kia_one PySem.W.kitx_list I.kIn ⟨_, he, rfl⟩ (kitD (d := .list ds) rfl (by simp) e) (fun z => nomatch z) fin
 | @tup a xs ds h1 h2 =>
  cases (show u = Value.ref a from ru)
  obtain ⟨_, _, _, p⟩ := (show ObjOk X.prog X.w H s.heap a (.tup xs) from I.hok a _ h1)
  obtain ⟨o, k1, k2, _⟩ := p
  exact PySem.W.kia_one PySem.W.kitx_tuple I.kIn ⟨o, k1, k2⟩ (kitD (d := .tuple ds) rfl (by simp) e) (fun z => nomatch z) fin
 | dct _ _ _ =>
  have e' : (none : Option Bool) = some b := e
  cases e'
 | ins _ _ _ =>
  have e' : (none : Option Bool) = some b := e
  cases e'
theorem d_isi {n : Nat} {σ : St} {H : Hp} {Q : VK} {T : String} (h : tD M n (eIsi T fa) σ H Q) : tCB (rIsi3 M.K T) (tCons (tD M n fa) (tCons (tC (.ty T)) tNil)) σ H Q := by
 obtain ⟨F, ρ, fp, S, p⟩ := h
 refine ⟨F, ρ, fp, S, (Post.bind p).mono fun x px v F1 H1 fx e1 r1 w1 => ?_⟩
 obtain ⟨G1, d1, k1⟩ := r1.frz e1 w1
 unfold gIsi at px
 split at px
 ·rename_i b hb
  exact ⟨v, x.er, b, rfl, k1.same d1.fh, hb, OkE.val d1.fh (OkE.pre d1 px) (.bl b)⟩
 ·exact px.elim
theorem de_isi {T : String} {x : Str} {p p2 : Pos} (hg : Gl X "isinstance") (hm : X.mg "isinstance" = none) (hgT : Gl X x) (hmT : X.mg x = none) (hT : bootBuiltins x = some (.type T)) (h : DE M X e fa) (hnT : x ≠ "__name__" := by decide) (hdT : (x == ("__debug__" : Str)) = false := by decide)
  (hs1 : starEach [e, .Name x p2] X.env = (false, eval e X.env) :: starEach [.Name x p2] X.env := by rfl) (hs2 : starEach [.Name x p2] X.env = (false, eval (.Name x p2) X.env) :: starEach [] X.env := by rfl) (hpl : (backTo pos (starEach [.Name x p2] X.env)).any (·.1) = false := by rfl) :
  DE M X (.Call (.Name "isinstance" p) [e, .Name x p2] [] pos) (eIsi T fa) := fun hK hM => by
 have q := pe_callB (p := p) (pos := pos) (call_isi3 T) hg hm boot_isinstance' (pa_cons (h hK hM) (pa_cons (pe_bltn (v := V.ty T) (pos := p2) hgT hmT hT rfl hnT hdT) pa_nil hs2) hs1) (by decide) (by decide) hs1 hpl
 rw [hK] at q
 exact peI q fun _ _ _ z => d_isi z
noncomputable def eIdx (a b : Fe) : Fe := fun ρ => (a ρ).bind fun x => match x.er with
 | .list ds => (b ρ).bind fun y => gIdx ds y.er
 | _ => .bad
end
theorem start_own {K : PySem.W.Frag} {F H : Hp} (m : Nat) : ∀ {vs : List V} {ds : List PyData}, RepAll K F vs ds → OwnS K F H (vs.map some ++ List.replicate m none) ((ds.map fun d => some (OD.sh d)) ++ List.replicate m none) []
 | _, _, .nil => by
  show OwnS K F H (List.replicate m none) (List.replicate m none) []
  have := OwnS.nones (K := K) (F := F) (H := H) m .nil
  rw [List.append_nil, List.append_nil] at this
  exact this
 | _, _, .cons h r => .yes (f := []) (.sh h) (start_own m r)
theorem fn3 {P : Program} {w : World} {K : PySem.W.Frag} {mg : Str → Option Value} {base : Heap} {x qual : Str} {st : Stmt} {f : Addr} {fd : FuncData} {N ps : List Str} {k : Nat} {body : Fs} (F : Fun K x qual st f fd) (S : FnScope N ps (defScope st))
  (h : ∀ (cdv : Value) (A : Around) (outer : List PySem.Env) (s : Shared) (H : Hp) (E : XK), Room k (A.deeper (envOfC qual (defScope st) s.heap.objs.size f cdv)) → DSs ⟨K, mg, E⟩ (cxOf CX0 P w K mg base N qual (defScope st) f cdv A outer s H E).nox (defBody st) body) :
  FnOk P w K mg base CX0 (k + 1) f fd ps (sp3 K mg (runF ps.length N.length body)) := by
 have hpl : ps.length ≤ N.length := by
  have := congrArg List.length S.pre
  rw [List.length_take] at this
  lia
 have hlen : ∀ vs H Q E, sp3 K mg (runF ps.length N.length body) vs H Q E → vs.length = ps.length := by
  rintro vs H Q E ⟨F, ds, sm, ra, p⟩
  by_cases hl : ds.length = ps.length
  ·rw [RepAll.len ra]
   exact hl
  ·unfold runF at p
   rw [if_neg hl] at p
   exact p.elim
 refine F.ok S hlen fun cdv A outer s H vs Q E hr hs => ?_
 have hvl := hlen _ _ _ _ hs
 obtain ⟨F0, ds, sm, ra, p⟩ := hs
 have hdl : ds.length = ps.length := by rw [← RepAll.len ra]; exact hvl
 unfold runF at p
 rw [if_pos hdl] at p
 refine ⟨_, h cdv A outer s H E hr rfl rfl, F0, env0 N.length ds, [], ⟨sm, ?_, List.nodup_nil, (fun _ m => by cases m), ?_⟩, (Post.bind p).mono fun o po => ?_⟩
 ·unfold L2.start env0
  rw [hvl, hdl]
  exact start_own _ ra
 ·unfold env0
  show _ = N.length
  rw [List.length_append, List.length_map, List.length_replicate, hdl]
  lia
 ·cases o with
  | nx ρ => exact fun σ' F' H' fp' S' st => po .non F' H' [] ⟨st.ff, fun a o q => st.keep a o q (by simp), S'.same, fun a q z => st.nw a q (by simp) z⟩ (Res.sh .non) fun _ m => by cases m
  | rt y => exact fun v F' H' fx sm' r st => po v F' H' fx ⟨st.ff, fun a o q => st.keep a o q (by simp), sm', fun a q z => st.nw a q (by simp) z⟩ r fun a m => (st.new a m).elim (fun z => by cases z) id
  | bk ρ => exact po.elim
  | ct ρ => exact po.elim
theorem law_call3 {P : Program} {w : World} {K : PySem.W.Frag} {mg mb : Str → Option Value} {CX : CXT} {k : Nat} {fa a : Addr} {fd : FuncData} {x : Str} {sp : Sp} {s₁ : Shared} {vs : List Value} {ns : List Int}
  (KX : K.In s₁.heap) (hns : s₁.heap.Ns mainGlobals mg) (hb : s₁.heap.Ns builtinsNs mb) (hbb : ∀ x : Str, x ≠ "__name__" → mb x = bootBuiltins x) (hlim : s₁.heap.NoLimit) (hg : s₁.gens = #[])
  (ha : s₁.heap.get? a = some { cls := .type "list", data := .seq vs.toArray }) (hi : IntsAre vs ns) (hl : ns.length ≤ sizeLine) (hr : Room k callerA)
  (F : ∀ base : Heap, K.In base → base.Ns mainGlobals mg → FnOk P w K mg base CX k fa fd [x] sp) (hbind : ∀ (s : Shared) (u : Value), BindsTo s fd ⟨[u], []⟩ [(x, u)])
  (hsp : ∀ H : Hp, Only H → RdK K H a (ns.map V.int) → sp [.ref a] H (fun v _ => v = .bl true) fun _ _ _ => False)
  (hCX : ∀ H e s', CX [] H s₁ (fun _ _ _ => False) e s' → False) :
  codeAny (model P w) callerA (.call (.ref fa) ⟨[.ref a], []⟩) (fun r s' => r = .ok (.ret (.bool true)) ∧ OldK s₁.heap s'.heap ∧ s'.os = s₁.os ∧ AllBare s'.gens) s₁ := by
 have rv := vals_ints hi
 have lenV := hi.length
 have core : ∀ H : Hp, Only H → RdK K H a (ns.map V.int) → HOk P w H s₁.heap → (∀ b, H b ≠ none → b = a) → (H a ≠ none → K.lookup a = none) →
   codeAny (model P w) callerA (.call (.ref fa) ⟨[.ref a], []⟩) (fun r s' => r = .ok (.ret (.bool true)) ∧ OldK s₁.heap s'.heap ∧ s'.os = s₁.os ∧ AllBare s'.gens) s₁ := by
  intro H hO hS hok hA hK
  have base_of : ∀ {b : Addr} {o : Obj}, s₁.heap.get? b = some o → H b = none → (hidT s₁.heap H).get? b = some o := fun e n => hidT_get e n
  have noA : ∀ {b : Addr} {o : Obj} {es : Array DictEntry} {ep : Nat}, s₁.heap.get? b = some o → o.data = .dict es ep → H b = none := fun {b o es ep} e d => by
   cases q : H b with
   | none => rfl
   | some u =>
    have e' : b = a := hA b (by rw [q]; simp)
    subst e'
    rw [ha] at e; cases e
    have d' : Data.seq vs.toArray _ = Data.dict es ep := d
    cases d'
  have nsK : ∀ {b : Addr} {m : Str → Option Value}, s₁.heap.Ns b m → (hidT s₁.heap H).Ns b m := fun {b m} ⟨o, es, ep, e, d, r⟩ => ⟨o, es, ep, base_of e (noA e d), d, r⟩
  have hKb : K.In (hidT s₁.heap H) := fun b o e => base_of (KX b o e) (by
   cases q : H b with
   | none => rfl
   | some u =>
    have e' : b = a := hA b (by rw [q]; simp)
    subst e'
    rw [hK (by rw [q]; simp)] at e; cases e)
  have hM : Mod K mg (hidT s₁.heap H) := ⟨hKb, nsK hns, ⟨mb, nsK hb, hbb⟩, let ⟨mc, h1, h2⟩ := hlim; ⟨mc, nsK h1, h2⟩⟩
  have e0 : Env0 P w K mg (hidT s₁.heap H) callerA [] s₁ H := ⟨rfl, hM, fun b o e => of_hidT e, Nat.le_of_eq (hidT_size _ _), trivial, fun b hb => absurd (show b ∈ ([] : List Addr) from hb) (by simp), hok, .of_eq hg⟩
  refine codeAny_mono ((F _ hKb (nsK hns)).run callerA [] s₁ H ⟨[.ref a], []⟩ [.ref a] [.ref a] _ _ hr e0 (hbind s₁ (.ref a)) (.cons rfl .nil) (hsp H hO hS)) fun r s' h => ?_
  cases r with
  | error e => exact (hCX H e s' h).elim
  | ok fl =>
   cases fl with
   | next => exact False.elim h
   | brk => exact False.elim h
   | cont => exact False.elim h
   | ret u =>
    obtain ⟨v, H', os, bare, un, hok', r', q⟩ := h
    have q' : v = .bl true := q
    subst q'
    obtain rfl : u = Value.bool true := r'
    refine ⟨rfl, OldK.of_keep fun b o e => ?_, os, bare⟩
    cases q : H b with
    | none => exact un.keep b o e q (by intro z; exact absurd (show b ∈ ([] : List Addr) from z) (by simp)) (by simp)
    | some u =>
     rcases hO b with z | ⟨ob, xs, z⟩
     ·rw [q] at z; cases z
     ·have z2 := un.frzs b ob _ z
      obtain ⟨e1, _⟩ := hok b _ z
      obtain ⟨e2, _⟩ := hok' b _ z2
      rw [e] at e1; cases e1
      exact e2
 cases hk : K.lookup a with
 | some o =>
  have e := KX a o hk
  rw [ha] at e
  cases e
  refine core (fun _ => none) (fun _ => .inl rfl) (.inr ⟨vs.toArray, _, hk, by rw [List.size_toArray, lenV]; exact hl, by simpa using rv⟩) (fun b u z => by have z' : (none : Option HO) = some u := z; cases z') (fun b z => absurd rfl z) fun z => absurd rfl z
 | none =>
  refine core (fun b => if b = a then some (.frz { cls := .type "list", data := .seq vs.toArray } (.lst (ns.map V.int))) else none) (fun b => ?_) (.inl (.inr ⟨{ cls := .type "list", data := .seq vs.toArray }, if_pos rfl⟩)) (fun b u z => ?_) (fun b z => ?_) fun _ => hk
  ·by_cases hb : b = a
   ·exact .inr ⟨_, _, if_pos hb⟩
   ·exact .inl (if_neg hb)
  ·by_cases hb : b = a
   ·have z' := (if_pos hb).symm.trans z
    cases z'
    subst hb
    exact ⟨ha, by rw [List.length_map]; exact hl, vs, _, rv, ha⟩
   ·have z' := (if_neg hb).symm.trans z
    cases z'
  ·by_cases hb : b = a
   ·exact hb
   ·exact absurd (if_neg hb) z
end L3
namespace L3
open PySem L2 PySem.Spec PyProof.Rows
theorem fn3' {P : Program} {w : World} {K : PySem.W.Frag} {mg : Str → Option Value} {base : Heap} {x qual : Str} {st : Stmt} {f : Addr} {fd : FuncData} {N ps : List Str} {k np n : Nat} {body : Fs} {fn : Fn} (hf : fn = runF np n body) (hp : ps.length = np) (hn : N.length = n) (F : Fun K x qual st f fd) (S : FnScope N ps (defScope st))
  (h : ∀ (cdv : Value) (A : Around) (outer : List PySem.Env) (s : Shared) (H : Hp) (E : XK), Room k (A.deeper (envOfC qual (defScope st) s.heap.objs.size f cdv)) → DSs ⟨K, mg, E⟩ (cxOf CX0 P w K mg base N qual (defScope st) f cdv A outer s H E).nox (defBody st) body) :
  FnOk P w K mg base CX0 (k + 1) f fd ps (sp3 K mg fn) := by
 subst hf hp hn
 exact fn3 F S h
theorem pass3 {X : Cx} {E : XK} : Passes CX0 X E := fun _ _ _ _ _ _ _ h => h.elim
noncomputable def gAddI : PyData → PyData → R OD
 | .int i, .int j => oI (i + j)
 | _, _ => .bad
section
variable {M : Mx} {X : Cx}
end
end L3
namespace L3
open PySem L2
theorem isi_ii (i : Int) : gIsi "int" (.int i) = oB true := rfl
theorem isi_ib (i : Int) : gIsi "bool" (.int i) = oB false := rfl
theorem isi_is (i : Int) : gIsi "str" (.int i) = oB false := rfl
theorem isi_il (i : Int) : gIsi "list" (.int i) = oB false := rfl
theorem isi_it (i : Int) : gIsi "tuple" (.int i) = oB false := rfl
theorem isi_bi (i : Bool) : gIsi "int" (.bool i) = oB true := rfl
theorem isi_bb (i : Bool) : gIsi "bool" (.bool i) = oB true := rfl
theorem isi_si (i : Str) : gIsi "int" (.str i) = oB false := rfl
theorem isi_sb (i : Str) : gIsi "bool" (.str i) = oB false := rfl
theorem isi_ss (i : Str) : gIsi "str" (.str i) = oB true := rfl
theorem isi_ll (i : List PyData) : gIsi "list" (.list i) = oB true := rfl
theorem isi_lt (i : List PyData) : gIsi "tuple" (.list i) = oB false := rfl
theorem isi_li (i : List PyData) : gIsi "int" (.list i) = oB false := rfl
theorem isi_tt (i : List PyData) : gIsi "tuple" (.tuple i) = oB true := rfl
theorem isi_tl (i : List PyData) : gIsi "list" (.tuple i) = oB false := rfl
theorem isi_ti (i : List PyData) : gIsi "int" (.tuple i) = oB false := rfl
theorem big0 : (0 ≤ BIG) = True := by decide
theorem big1 : (1 ≤ BIG) = True := by decide
theorem big2 : (2 ≤ BIG) = True := by decide
theorem big3 : (3 ≤ BIG) = True := by decide
theorem big4 : (4 ≤ BIG) = True := by decide
theorem big5 : (0 < BIG) = True := by decide
theorem loop_inv {g : Fg} {b : Fs} (I : Nat → Env → Prop) : ∀ (ds : List PyData) (k : Nat) (ρ : Env), I k ρ → (∀ (i : Nat) (d : PyData) (ρ : Env), ds[i]? = some d → I (k + i) ρ → ∃ ρ1 ρ2, g (.sh d) ρ = .ok ρ1 ∧ (b ρ1 = .ok (.nx ρ2) ∨ b ρ1 = .ok (.ct ρ2)) ∧ I (k + i + 1) ρ2) →
  ∃ ρ', loopF g b ds ρ = .ok (.nx ρ') ∧ I (k + ds.length) ρ'
 | [], k, ρ, h, _ => ⟨ρ, rfl, h⟩
 | d :: ds, k, ρ, h, st => by
  obtain ⟨ρ1, ρ2, h1, h2, h3⟩ := st 0 d ρ rfl h
  obtain ⟨ρ', e, h4⟩ := loop_inv I ds (k + 1) ρ2 h3 fun i d' ρ hd hi => by
   have := st (i + 1) d' ρ (by simpa using hd) (by rw [show k + (i + 1) = k + 1 + i by lia]; exact hi)
   rw [show k + (i + 1) + 1 = k + 1 + i + 1 by lia] at this
   exact this
  refine ⟨ρ', ?_, by rw [List.length_cons, show k + (ds.length + 1) = k + 1 + ds.length by lia]; exact h4⟩
  rw [loopF, h1, bind_ok]
  rcases h2 with h2 | h2
  ·rw [h2, bind_ok]
   exact e
  ·rw [h2, bind_ok]
   exact e
theorem loop_fold {g : Fg} {b : Fs} {ds : List PyData} {ρ : Env} (S : Nat → Env → Prop) (h0 : S 0 ρ) (st : ∀ (i : Nat) (d : PyData) (ρ : Env), ds[i]? = some d → S i ρ → ∃ ρ1 ρ2, g (.sh d) ρ = .ok ρ1 ∧ (b ρ1 = .ok (.nx ρ2) ∨ b ρ1 = .ok (.ct ρ2)) ∧ S (i + 1) ρ2) :
  ∃ ρ', loopF g b ds ρ = .ok (.nx ρ') ∧ S ds.length ρ' := by
 obtain ⟨ρ', e, h⟩ := loop_inv S ds 0 ρ h0 fun i d ρ hd hi => by
  rw [Nat.zero_add] at hi ⊢
  exact st i d ρ hd hi
 exact ⟨ρ', e, by rw [Nat.zero_add] at h; exact h⟩
theorem rngD_get {lo : Int} {n i : Nat} {d : PyData} (h : (rngD lo n)[i]? = some d) : i < n ∧ d = .int (lo + i) := by
 unfold rngD at h
 rw [List.getElem?_map] at h
 obtain ⟨j, hj, rfl⟩ := Option.map_eq_some_iff.mp h
 obtain ⟨h1, h2⟩ := List.getElem?_eq_some_iff.mp hj
 have h3 : i = j := by simpa using h2
 subst h3
 exact ⟨by simpa using h1, rfl⟩
theorem rngD_len (lo : Int) (n : Nat) : (rngD lo n).length = n := by unfold rngD; simp
end L3
namespace L3
open PySem L2
noncomputable def varK : Option (Option OD) → R OD
 | some (some (.sh d)) => .ok (.sh d)
 | _ => .bad
noncomputable def opK (g : PyData → PyData → R OD) : R OD → R OD → R OD
 | .ok x, .ok y => g x.er y.er
 | .ok _, .ex c => .ex c
 | .ok _, .bad => .bad
 | .ex c, _ => .ex c
 | .bad, _ => .bad
noncomputable def unK {α β : Type} (g : α → R β) : R α → R β
 | .ok x => g x
 | .ex c => .ex c
 | .bad => .bad
noncomputable def andK (r : R Bool) (b : Ft) (ρ : Env) : R Bool := match r with
 | .ok true => b ρ
 | .ok false => .ok false
 | .ex c => .ex c
 | .bad => .bad
noncomputable def orK (r : R Bool) (b : Ft) (ρ : Env) : R Bool := match r with
 | .ok true => .ok true
 | .ok false => b ρ
 | .ex c => .ex c
 | .bad => .bad
noncomputable def andV (r : R Bool) (b : Fe) (ρ : Env) : R OD := match r with
 | .ok true => b ρ
 | .ok false => .ok (.sh (.bool false))
 | .ex c => .ex c
 | .bad => .bad
noncomputable def orV (r : R Bool) (b : Fe) (ρ : Env) : R OD := match r with
 | .ok true => .ok (.sh (.bool true))
 | .ok false => b ρ
 | .ex c => .ex c
 | .bad => .bad
noncomputable def ifV (r : R Bool) (a b : Fe) (ρ : Env) : R OD := match r with
 | .ok true => a ρ
 | .ok false => b ρ
 | .ex c => .ex c
 | .bad => .bad
noncomputable def ifK (r : R Bool) (a b : Fs) (ρ : Env) : R Out := match r with
 | .ok true => a ρ
 | .ok false => b ρ
 | .ex c => .ex c
 | .bad => .bad
noncomputable def consK : R OD → R (List OD) → R (List OD)
 | .ok x, .ok xs => .ok (x :: xs)
 | .ok _, .ex c => .ex c
 | .ok _, .bad => .bad
 | .ex c, _ => .ex c
 | .bad, _ => .bad
noncomputable def seqK (r : R Out) (b : Fs) : R Out := match r with
 | .ok (.nx ρ) => b ρ
 | .ok o => .ok o
 | .ex c => .ex c
 | .bad => .bad
noncomputable def asgK (r : R OD) (g : Fg) (ρ : Env) : R Out := match r with
 | .ok x => unK (fun ρ' => .ok (.nx ρ')) (g x ρ)
 | .ex c => .ex c
 | .bad => .bad
noncomputable def forK (r : R (List PyData)) (g : Fg) (b : Fs) (ρ : Env) : R Out := match r with
 | .ok ds => loopF g b ds ρ
 | .ex c => .ex c
 | .bad => .bad
noncomputable def compK (r : R (List PyData)) (g : Fg) (t : Ft) (el : Fe) (ρ0 : Env) : R OD := match r with
 | .ok ds => unK (fun xs => .ok (.ol xs)) (compF g t el ρ0 ds [])
 | .ex c => .ex c
 | .bad => .bad
noncomputable def slK (g : PyData → Option Int → Option Int → R OD) (a : R OD) (l h : R (Option Int)) : R OD := match a, l, h with
 | .ok x, .ok i, .ok j => g x.er i j
 | .ok _, .ok _, .ex c => .ex c
 | .ok _, .ok _, .bad => .bad
 | .ok _, .ex c, _ => .ex c
 | .ok _, .bad, _ => .bad
 | .ex c, _, _ => .ex c
 | .bad, _, _ => .bad
noncomputable def idxK (a : R OD) (b : Fe) (ρ : Env) : R OD := match a with
 | .ok x => match x.er with
  | .list ds => unK (fun y => gIdx ds y.er) (b ρ)
  | _ => .bad
 | .ex c => .ex c
 | .bad => .bad
noncomputable def appK (o : Option (Option OD)) (a : R OD) (i : Nat) (ρ : Env) : R Out := match o with
 | some (some (.ol xs)) => unK (fun y => if xs.length < BIG then .ok (.nx (ρ.set i (some (.ol (xs ++ [y]))))) else .bad) a
 | _ => .bad
noncomputable def retVK : Option (Option OD) → R Out
 | some (some x) => .ok (.rt x)
 | _ => .bad
noncomputable def frzK (o : Option (Option OD)) (i : Nat) (ρ : Env) : Env := match o with
 | some (some x) => ρ.set i (some (.sh x.er))
 | _ => ρ
noncomputable def outK : R Out → R OD
 | .ok (.rt x) => .ok x
 | .ok (.nx _) => .ok (.sh .none)
 | .ok (.bk _) => .bad
 | .ok (.ct _) => .bad
 | .ex c => .ex c
 | .bad => .bad
noncomputable def augK (o : Option (Option OD)) (g : PyData → PyData → R OD) (a : R OD) (i : Nat) (ρ : Env) : R Out := match o with
 | some (some (.sh d)) => unK (fun y => unK (fun z => .ok (.nx (ρ.set i (some z)))) (g d y.er)) a
 | _ => .bad
section
variable {ρ : Env} {a b : Fe} {s t : Ft} {p q : Fs}
theorem v_var (i : Nat) : eVar i ρ = varK ρ[i]? := by
 unfold eVar varK
 rfl
theorem v_c (d : PyData) : eC d ρ = .ok (.sh d) := rfl
theorem v_op (g : PyData → PyData → R OD) : eOp g a b ρ = opK g (a ρ) (b ρ) := by
 unfold eOp
 cases a ρ <;> cases b ρ <;> rfl
theorem bindK {α β : Type} (r : R α) (g : α → R β) : r.bind g = unK g r := by cases r <;> rfl
theorem v_un (g : PyData → R OD) : eUn g a ρ = unK (fun x => g x.er) (a ρ) := bindK _ _
theorem v_test : eTest a ρ = unK (fun x => truth x.er) (a ρ) := bindK _ _
theorem v_andT : eAndT s t ρ = andK (s ρ) t ρ := by
 unfold eAndT
 cases s ρ with
 | ok c => cases c <;> rfl
 | ex c => rfl
 | bad => rfl
theorem v_orT : eOrT s t ρ = orK (s ρ) t ρ := by
 unfold eOrT
 cases s ρ with
 | ok c => cases c <;> rfl
 | ex c => rfl
 | bad => rfl
theorem v_notT : eNotT s ρ = unK (fun c => .ok (!c)) (s ρ) := bindK _ _
noncomputable def tru (r : R OD) : R Bool := unK (fun x => truth x.er) r
theorem v_and : eAnd a b ρ = andV (tru (a ρ)) b ρ := by
 unfold eAnd tru
 cases a ρ with
 | ok x =>
  show (truth x.er).bind _ = andV (truth x.er) b ρ
  cases truth x.er with
  | ok c => cases c <;> rfl
  | ex c => rfl
  | bad => rfl
 | ex c => rfl
 | bad => rfl
theorem v_or : eOr a b ρ = orV (tru (a ρ)) b ρ := by
 unfold eOr tru
 cases a ρ with
 | ok x =>
  show (truth x.er).bind _ = orV (truth x.er) b ρ
  cases truth x.er with
  | ok c => cases c <;> rfl
  | ex c => rfl
  | bad => rfl
 | ex c => rfl
 | bad => rfl
theorem v_not : eNot a ρ = unK (fun c => .ok (.sh (.bool (!c)))) (tru (a ρ)) := by
 unfold eNot tru
 cases a ρ with
 | ok x =>
  show (truth x.er).bind _ = unK _ (truth x.er)
  exact bindK _ _
 | ex c => rfl
 | bad => rfl
theorem v_if : eIf s a b ρ = ifV (s ρ) a b ρ := by
 unfold eIf
 cases s ρ with
 | ok c => cases c <;> rfl
 | ex c => rfl
 | bad => rfl
theorem v_anil : aNil ρ = .ok [] := rfl
theorem v_acons {r : Fa} : aCons a r ρ = consK (a ρ) (r ρ) := by
 unfold aCons
 cases a ρ <;> cases r ρ <;> rfl
theorem v_tup {r : Fa} : eTup r ρ = unK (fun xs => if xs.length ≤ BIG then .ok (mkT xs) else .bad) (r ρ) := bindK _ _
theorem v_lst {r : Fa} : eLst r ρ = unK (fun xs => if xs.length ≤ BIG then .ok (.ol xs) else .bad) (r ρ) := bindK _ _
theorem v_call {f : Fn} {r : Fa} : eCall f r ρ = unK (fun xs => f (xs.map OD.er)) (r ρ) := bindK _ _
theorem v_b {f : List PyData → R OD} {r : Fa} : eB f r ρ = unK (fun xs => f (xs.map OD.er)) (r ρ) := bindK _ _
theorem v_sh : eSh a ρ = unK (fun x => .ok (.sh x.er)) (a ρ) := bindK _ _
theorem v_bor : eBor a ρ = unK (fun x => if flat x.er = true then .ok (.sh x.er) else .bad) (a (erase ρ)) := bindK _ _
theorem v_borT : tBor s ρ = s (erase ρ) := rfl
noncomputable def borLK : OD → R OD
 | .ol xs => if xs.all (fun y => flat y.er) = true then .ok (.ol (xs.map fun y => .sh y.er)) else .bad
 | _ => .bad
theorem v_borL : eBorL a ρ = unK borLK (a (erase ρ)) := by
 unfold eBorL
 cases a (erase ρ) with
 | ok x => cases x <;> rfl
 | ex c => rfl
 | bad => rfl
theorem v_er0 : erase [] = [] := rfl
theorem v_er1 (x : OD) : erase (some x :: ρ) = some (.sh x.er) :: erase ρ := rfl
theorem v_er2 : erase (none :: ρ) = none :: erase ρ := rfl
theorem v_onone : oNone ρ = .ok none := rfl
noncomputable def partK : PyData → R (Option Int)
 | .int i => .ok (some i)
 | _ => .bad
theorem v_osome : oSome a ρ = unK (fun x => partK x.er) (a ρ) := by
 unfold oSome
 rw [bindK]
 cases a ρ with
 | ok x =>
  show (match x.er with | .int i => R.ok (some i) | _ => .bad) = partK x.er
  cases x.er <;> rfl
 | ex c => rfl
 | bad => rfl
theorem v_sl {g : PyData → Option Int → Option Int → R OD} {l h : Fo} : eSl g a l h ρ = slK g (a ρ) (l ρ) (h ρ) := by
 unfold eSl
 cases a ρ <;> cases l ρ <;> cases h ρ <;> rfl
noncomputable def lstK : PyData → R (List PyData)
 | .list ds => .ok ds
 | _ => .bad
noncomputable def tupK : PyData → R (List PyData)
 | .tuple ds => .ok ds
 | _ => .bad
noncomputable def r1K : PyData → R (List PyData)
 | .int j => if small62 j = true then .ok (rngD 0 j.toNat) else .bad
 | _ => .bad
noncomputable def enK : PyData → R (List PyData)
 | .list ds => .ok (enumD ds)
 | _ => .bad
theorem v_ilst : iLst a ρ = unK (fun x => lstK x.er) (a ρ) := by
 unfold iLst
 rw [bindK]
 cases a ρ with
 | ok x =>
  show (match x.er with | .list ds => R.ok ds | _ => .bad) = lstK x.er
  cases x.er <;> rfl
 | ex c => rfl
 | bad => rfl
theorem v_itup : iTp a ρ = unK (fun x => tupK x.er) (a ρ) := by
 unfold iTp
 rw [bindK]
 cases a ρ with
 | ok x =>
  show (match x.er with | .tuple ds => R.ok ds | _ => .bad) = tupK x.er
  cases x.er <;> rfl
 | ex c => rfl
 | bad => rfl
theorem v_r1 : iR1 a ρ = unK (fun x => r1K x.er) (a ρ) := by
 unfold iR1
 rw [bindK]
 cases a ρ with
 | ok x =>
  show (match x.er with | .int j => if small62 j = true then R.ok (rngD 0 j.toNat) else .bad | _ => .bad) = r1K x.er
  cases x.er <;> rfl
 | ex c => rfl
 | bad => rfl
theorem v_en : iEn a ρ = unK (fun x => enK x.er) (a ρ) := by
 unfold iEn
 rw [bindK]
 cases a ρ with
 | ok x =>
  show (match x.er with | .list ds => R.ok (enumD ds) | _ => .bad) = enK x.er
  cases x.er <;> rfl
 | ex c => rfl
 | bad => rfl
noncomputable def op2K (g : PyData → PyData → R (List PyData)) : R OD → R OD → R (List PyData)
 | .ok x, .ok y => g x.er y.er
 | .ok _, .ex c => .ex c
 | .ok _, .bad => .bad
 | .ex c, _ => .ex c
 | .bad, _ => .bad
theorem v_r2 : iR2 a b ρ = op2K r2F (a ρ) (b ρ) := by
 unfold iR2
 cases a ρ <;> cases b ρ <;> rfl
theorem v_zp : iZp a b ρ = op2K zipF (a ρ) (b ρ) := by
 unfold iZp
 cases a ρ <;> cases b ρ <;> rfl
theorem v_gnm (i : Nat) (x : OD) : gNm i x ρ = .ok (ρ.set i (some x)) := rfl
theorem v_gs0 : gsNil [] ρ = .ok ρ := rfl
theorem v_gs1 {g : Fg} {r : Fgs} {x : OD} {xs : List OD} : gsCons g r (x :: xs) ρ = unK (fun ρ' => r xs ρ') (g x ρ) := bindK _ _
theorem v_gtp {n : Nat} {r : Fgs} {ds : List PyData} : gTp n r (.sh (.tuple ds)) ρ = if ds.length = n then r (ds.map OD.sh) ρ else .bad := rfl
theorem v_gto {n : Nat} {r : Fgs} {xs : List OD} : gTp n r (.ot xs) ρ = if xs.length = n then r xs ρ else .bad := rfl
theorem v_comp {it : Fi} {g : Fg} {k : Nat} {outs : List Nat} : eComp it g t a k outs ρ = compK (it ρ) g t a (sl3 k outs ρ) := by
 unfold eComp
 cases it ρ with
 | ok ds => exact bindK _ _
 | ex c => rfl
 | bad => rfl
theorem v_sl3 {k : Nat} {outs : List Nat} : sl3 k outs ρ = List.replicate k none ++ outs.map fun i => onlySh ρ[i]? := rfl
theorem v_nx : sNx ρ = .ok (.nx ρ) := rfl
theorem v_bk : sBk ρ = .ok (.bk ρ) := rfl
theorem v_ct : sCt ρ = .ok (.ct ρ) := rfl
theorem v_seq : sSeq p q ρ = seqK (p ρ) q := by
 unfold sSeq
 cases p ρ with
 | ok o => cases o <;> rfl
 | ex c => rfl
 | bad => rfl
theorem v_asg {g : Fg} : sAsg a g ρ = asgK (a ρ) g ρ := by
 unfold sAsg
 cases a ρ with
 | ok x => exact bindK _ _
 | ex c => rfl
 | bad => rfl
theorem v_set (i : Nat) : sSet i a ρ = unK (fun x => .ok (.nx (ρ.set i (some x)))) (a ρ) := bindK _ _
theorem v_drop : sDrop a ρ = unK (fun _ => .ok (.nx ρ)) (a ρ) := bindK _ _
theorem v_ret : sRet a ρ = unK (fun x => .ok (.rt x)) (a ρ) := bindK _ _
theorem v_retN : sRetN ρ = .ok (.rt (.sh .none)) := rfl
theorem v_retV (i : Nat) : sRetV i ρ = retVK ρ[i]? := by
 unfold sRetV retVK
 rfl
theorem v_ifS : sIf s p q ρ = ifK (s ρ) p q ρ := by
 unfold sIf
 cases s ρ with
 | ok c => cases c <;> rfl
 | ex c => rfl
 | bad => rfl
theorem v_frz (i : Nat) : sFrz i p ρ = p (frz1 i ρ) := rfl
theorem v_frz1 (i : Nat) : frz1 i ρ = frzK ρ[i]? i ρ := by
 unfold frz1 frzK
 rfl
theorem v_aug (i : Nat) {g : PyData → PyData → R OD} : sAug i g a ρ = augK ρ[i]? g (a ρ) i ρ := by
 unfold sAug augK
 generalize ρ[i]? = o
 cases o with
 | none => rfl
 | some o =>
  cases o with
  | none => rfl
  | some x =>
   cases x with
   | sh d =>
    show ((a ρ).bind fun y => (g d y.er).bind fun z => R.ok (Out.nx (ρ.set i (some z)))) = _
    rw [bindK]
    show unK _ (a ρ) = unK _ (a ρ)
    first
     | done
     | (congr 1; funext y; exact bindK _ _)
     | (congr 1)
   | ol xs => rfl
   | ot xs => rfl
   | od xs => rfl
theorem v_app (i : Nat) : sApp i a ρ = appK ρ[i]? (a ρ) i ρ := by
 unfold sApp appK
 generalize ρ[i]? = o
 cases o with
 | none => rfl
 | some o =>
  cases o with
  | none => rfl
  | some x =>
   cases x with
   | sh d => rfl
   | ol xs => exact bindK _ _
   | ot xs => rfl
   | od xs => rfl
theorem v_for {it : Fi} {g : Fg} : sFor it g p ρ = forK (it ρ) g p ρ := by
 unfold sFor
 cases it ρ <;> rfl
theorem v_isi (T : String) : eIsi T a ρ = unK (fun x => gIsi T x.er) (a ρ) := bindK _ _
theorem v_idx : eIdx a b ρ = idxK (a ρ) b ρ := by
 unfold eIdx
 cases a ρ with
 | ok x =>
  show (match x.er with | .list ds => (b ρ).bind fun y => gIdx ds y.er | _ => .bad) = (match x.er with | .list ds => unK (fun y => gIdx ds y.er) (b ρ) | _ => .bad)
  cases x.er with
  | list ds => exact bindK _ _
  | _ => rfl
 | ex c => rfl
 | bad => rfl
theorem v_run {np n : Nat} {ds : List PyData} : runF np n p ds = if ds.length = np then outK (p (env0 n ds)) else .bad := by
 unfold runF
 congr 1
 cases p (env0 n ds) with
 | ok o => cases o <;> rfl
 | ex c => rfl
 | bad => rfl
theorem k_var (d : PyData) : varK (some (some (.sh d))) = .ok (.sh d) := rfl
theorem k_op {g : PyData → PyData → R OD} {x y : OD} : opK g (.ok x) (.ok y) = g x.er y.er := rfl
theorem k_op2 {g : PyData → PyData → R (List PyData)} {x y : OD} : op2K g (.ok x) (.ok y) = g x.er y.er := rfl
theorem k_un {α β : Type} {g : α → R β} {x : α} : unK g (.ok x) = g x := rfl
theorem k_unx {α β : Type} {g : α → R β} {c : Str} : unK g (.ex c) = .ex c := rfl
theorem k_and1 : andK (.ok true) t ρ = t ρ := rfl
theorem k_and0 : andK (.ok false) t ρ = .ok false := rfl
theorem k_or1 : orK (.ok true) t ρ = .ok true := rfl
theorem k_or0 : orK (.ok false) t ρ = t ρ := rfl
theorem k_andV1 : andV (.ok true) a ρ = a ρ := rfl
theorem k_andV0 : andV (.ok false) a ρ = .ok (.sh (.bool false)) := rfl
theorem k_orV1 : orV (.ok true) a ρ = .ok (.sh (.bool true)) := rfl
theorem k_orV0 : orV (.ok false) a ρ = a ρ := rfl
theorem k_ifV1 : ifV (.ok true) a b ρ = a ρ := rfl
theorem k_ifV0 : ifV (.ok false) a b ρ = b ρ := rfl
theorem k_if1 : ifK (.ok true) p q ρ = p ρ := rfl
theorem k_if0 : ifK (.ok false) p q ρ = q ρ := rfl
theorem k_cons {x : OD} {xs : List OD} : consK (.ok x) (.ok xs) = .ok (x :: xs) := rfl
theorem k_seq : seqK (.ok (.nx ρ)) p = p ρ := rfl
theorem k_seqr {x : OD} : seqK (.ok (.rt x)) p = .ok (.rt x) := rfl
theorem k_seqc : seqK (.ok (.ct ρ)) p = .ok (.ct ρ) := rfl
theorem k_seqb : seqK (.ok (.bk ρ)) p = .ok (.bk ρ) := rfl
theorem k_asg {x : OD} {g : Fg} : asgK (.ok x) g ρ = unK (fun ρ' => .ok (.nx ρ')) (g x ρ) := rfl
theorem k_for {ds : List PyData} {g : Fg} : forK (.ok ds) g p ρ = loopF g p ds ρ := rfl
theorem k_comp {ds : List PyData} {g : Fg} : compK (.ok ds) g t a ρ = unK (fun xs => .ok (.ol xs)) (compF g t a ρ ds []) := rfl
theorem k_sl {g : PyData → Option Int → Option Int → R OD} {x : OD} {i j : Option Int} : slK g (.ok x) (.ok i) (.ok j) = g x.er i j := rfl
theorem k_app {xs : List OD} {y : OD} {i : Nat} : appK (some (some (.ol xs))) (.ok y) i ρ = if xs.length < BIG then .ok (.nx (ρ.set i (some (.ol (xs ++ [y]))))) else .bad := rfl
theorem k_retV {x : OD} : retVK (some (some x)) = .ok (.rt x) := rfl
theorem k_frz {x : OD} {i : Nat} : frzK (some (some x)) i ρ = ρ.set i (some (.sh x.er)) := rfl
theorem k_out1 {x : OD} : outK (.ok (.rt x)) = .ok x := rfl
theorem k_out2 : outK (.ok (.nx ρ)) = .ok (.sh .none) := rfl
theorem k_tru (x : OD) : tru (.ok x) = truth x.er := rfl
theorem k_truth (c : Bool) : truth (.bool c) = .ok c := rfl
theorem k_idx {ds : List PyData} : idxK (.ok (.sh (.list ds))) b ρ = unK (fun y => gIdx ds y.er) (b ρ) := rfl
theorem k_aug {d : PyData} {g : PyData → PyData → R OD} {y : OD} {i : Nat} : augK (some (some (.sh d))) g (.ok y) i ρ = unK (fun z => .ok (.nx (ρ.set i (some z)))) (g d y.er) := rfl
theorem k_lst (ds : List PyData) : lstK (.list ds) = .ok ds := rfl
theorem k_tup (ds : List PyData) : tupK (.tuple ds) = .ok ds := rfl
theorem k_en (ds : List PyData) : enK (.list ds) = .ok (enumD ds) := rfl
theorem k_r1 (j : Int) : r1K (.int j) = if small62 j = true then .ok (rngD 0 j.toNat) else .bad := rfl
theorem k_r2 (i j : Int) : r2F (.int i) (.int j) = if (small62 i && small62 j) = true then .ok (rngD i (j - i).toNat) else .bad := rfl
theorem k_zip (ds es : List PyData) : zipF (.list ds) (.list es) = .ok (zipD ds es) := rfl
theorem k_part (i : Int) : partK (.int i) = .ok (some i) := rfl
theorem k_env0 (n : Nat) (ds : List PyData) : env0 n ds = (ds.map fun d => some (OD.sh d)) ++ List.replicate (n - ds.length) none := rfl
theorem k_sho (d : PyData) : onlySh (some (some (.sh d))) = some (.sh d) := rfl
theorem k_shn : onlySh (some none) = none := rfl
theorem k_shol (xs : List OD) : onlySh (some (some (.ol xs))) = none := rfl
theorem k_mk1 (d : PyData) : mkT [.sh d] = .sh (.tuple [d]) := rfl
theorem k_mk2 (d e : PyData) : mkT [.sh d, .sh e] = .sh (.tuple [d, e]) := rfl
theorem k_mk3 (d e f : PyData) : mkT [.sh d, .sh e, .sh f] = .sh (.tuple [d, e, f]) := rfl
theorem k_mk4 (d e f g : PyData) : mkT [.sh d, .sh e, .sh f, .sh g] = .sh (.tuple [d, e, f, g]) := rfl
theorem i_add (i j : Int) : gAdd (.int i) (.int j) = .ok (.sh (.int (i + j))) := rfl
theorem i_sub (i j : Int) : gSub3 (.int i) (.int j) = .ok (.sh (.int (i - j))) := rfl
theorem i_mul (i j : Int) : gMul (.int i) (.int j) = if cmulB i j = true then .ok (.sh (.int (i * j))) else .bad := rfl
theorem i_mod (i j : Int) : gMod (.int i) (.int j) = if 0 < j then .ok (.sh (.int (i % j))) else .bad := rfl
theorem i_fdv (i j : Int) : gFdv (.int i) (.int j) = if 0 < j ∧ j < 1073741824 then .ok (.sh (.int (i / j))) else .bad := rfl
theorem i_pow (i j : Int) : gPow (.int i) (.int j) = if 0 ≤ j ∧ j ≤ 1000000 ∧ i.natAbs < 2 ^ 64 then .ok (.sh (.int (i ^ j.toNat))) else .bad := rfl
theorem i_neg (i : Int) : gNeg (.int i) = .ok (.sh (.int (-i))) := rfl
theorem i_lt (i j : Int) : gLt (.int i) (.int j) = .ok (.sh (.bool (decide (i < j)))) := rfl
theorem i_le (i j : Int) : gLe (.int i) (.int j) = .ok (.sh (.bool (decide (i ≤ j)))) := rfl
theorem i_gt (i j : Int) : gGt (.int i) (.int j) = .ok (.sh (.bool (decide (j < i)))) := rfl
theorem i_ge (i j : Int) : gGe (.int i) (.int j) = .ok (.sh (.bool (decide (j ≤ i)))) := rfl
theorem i_eq (i j : Int) : gEq (.int i) (.int j) = .ok (.sh (.bool (decide (i = j)))) := rfl
theorem i_ne (i j : Int) : gNe (.int i) (.int j) = .ok (.sh (.bool (!decide (i = j)))) := rfl
theorem i_addI (i j : Int) : gAddI (.int i) (.int j) = .ok (.sh (.int (i + j))) := rfl
theorem i_ixL (xs : List PyData) (i : Int) : gIx (.list xs) (.int i) = liftD (atI xs i) := rfl
theorem i_ixT (xs : List PyData) (i : Int) : gIx (.tuple xs) (.int i) = liftD (atI xs i) := rfl
theorem i_lenL (xs : List PyData) : gLen [.list xs] = .ok (.sh (.int xs.length)) := rfl
theorem i_lenT (xs : List PyData) : gLen [.tuple xs] = .ok (.sh (.int xs.length)) := rfl
theorem i_lenS (x : Str) : gLen [.str x] = if x.length ≤ BIG then .ok (.sh (.int x.length)) else .bad := rfl
theorem i_min2 (i j : Int) : gMin2 [.int i, .int j] = .ok (.sh (.int (if j < i then j else i))) := rfl
theorem i_max2 (i j : Int) : gMax2 [.int i, .int j] = .ok (.sh (.int (if i < j then j else i))) := rfl
theorem i_maxL (n : Int) (ns : List Int) : gMaxL [.list (PyData.int n :: ns.map PyData.int)] = .ok (.sh (.int (maxI n ns))) := by
 show (match getInts ((n :: ns).map PyData.int) with | some (n :: ns) => oI (maxI n ns) | _ => .bad) = _
 rw [getInts_map]
 rfl
theorem i_minL (n : Int) (ns : List Int) : gMinL [.list (PyData.int n :: ns.map PyData.int)] = .ok (.sh (.int (minI n ns))) := by
 show (match getInts ((n :: ns).map PyData.int) with | some (n :: ns) => oI (minI n ns) | _ => .bad) = _
 rw [getInts_map]
 rfl
theorem i_lofL (ds : List PyData) : gListOf [.list ds] = .ok (.ol (ds.map OD.sh)) := rfl
theorem i_int (i : Int) : gInt [.int i] = .ok (.sh (.int i)) := rfl
theorem i_intb (c : Bool) : gInt [.bool c] = .ok (.sh (.int (if c then 1 else 0))) := rfl
theorem i_slc (xs : List PyData) (i j : Option Int) : gSlc (.list xs) i j = .ok (.ol ((cutD xs i j).map OD.sh)) := rfl
theorem i_lift (d : PyData) : liftD (some d) = .ok (.sh d) := rfl
theorem at0 {α : Type} (x : α) (xs : List α) : atI (x :: xs) 0 = some x := by
 have : atI (x :: xs) ((0 : Nat) : Int) = some x := atI_nat rfl
 exact this
theorem at1 {α : Type} (x y : α) (xs : List α) : atI (x :: y :: xs) 1 = some y := by
 have : atI (x :: y :: xs) ((1 : Nat) : Int) = some y := atI_nat rfl
 exact this
theorem at2 {α : Type} (x y z : α) (xs : List α) : atI (x :: y :: z :: xs) 2 = some z := by
 have : atI (x :: y :: z :: xs) ((2 : Nat) : Int) = some z := atI_nat rfl
 exact this
theorem b_isi (c : Bool) : oB c = .ok (.sh (.bool c)) := rfl
end
end L3
namespace L3
open PySem L2
theorem cm_l {i j : Int} (h1 : -18446744073709551616 < i) (h2 : i < 18446744073709551616) : cmulB i j = true := by
 unfold cmulB
 rw [Bool.or_eq_true, Bool.and_eq_true, decide_eq_true_eq, decide_eq_true_eq]
 exact .inl ⟨by lia, by lia⟩
theorem cm_r {i j : Int} (h1 : -18446744073709551616 < j) (h2 : j < 18446744073709551616) : cmulB i j = true := by
 unfold cmulB
 rw [Bool.or_eq_true, Bool.and_eq_true, Bool.and_eq_true, decide_eq_true_eq, decide_eq_true_eq, decide_eq_true_eq, decide_eq_true_eq]
 exact .inr ⟨by lia, by lia⟩
theorem sm62 {i : Int} (h1 : -4611686018427387904 ≤ i) (h2 : i < 4611686018427387904) : small62 i = true := small62_iff.mpr ⟨by lia, by lia⟩
theorem le_big {n : Nat} (h : n ≤ 1000) : (n ≤ BIG) = True := eq_true (Nat.le_trans h (by decide))
theorem emod_r (i : Int) {j : Int} (h : 0 < j) : 0 ≤ i % j ∧ i % j < j := ⟨Int.emod_nonneg _ (by lia), Int.emod_lt_of_pos _ h⟩
theorem at_int {α : Type} (xs : List α) (i : Int) (h0 : 0 ≤ i) (h1 : i < xs.length) : ∃ x, xs[i.toNat]? = some x ∧ atI xs i = some x := by
 obtain ⟨j, rfl⟩ : ∃ j : Nat, i = j := ⟨i.toNat, by lia⟩
 have hj : j < xs.length := by lia
 exact ⟨xs[j], by simp [hj], atI_nat (by simp [hj])⟩
end L3
namespace L3
open PySem L2
theorem loop_gen {g : Fg} {b : Fs} {ds : List PyData} {ρ : Env} {r : R Out} (hL : loopF g b ds ρ = r) (S : Nat → Env → Prop) (h0 : S 0 ρ) (st : ∀ (i : Nat) (d : PyData) (ρ : Env), ds[i]? = some d → S i ρ → ∃ ρ1 ρ2, g (.sh d) ρ = .ok ρ1 ∧ (b ρ1 = .ok (.nx ρ2) ∨ b ρ1 = .ok (.ct ρ2)) ∧ S (i + 1) ρ2) :
  ∃ ρ', r = .ok (.nx ρ') ∧ S ds.length ρ' := by
 obtain ⟨ρ', e, h⟩ := loop_fold S h0 st
 exact ⟨ρ', by rw [← hL, e], h⟩
end L3
namespace L3
open PySem L2
noncomputable def StepTo (S : Env → Prop) : R Out → Prop
 | .ok (.nx ρ) => S ρ
 | .ok (.ct ρ) => S ρ
 | _ => False
theorem st_nx {S : Env → Prop} {ρ : Env} : StepTo S (.ok (.nx ρ)) = S ρ := rfl
theorem st_ct {S : Env → Prop} {ρ : Env} : StepTo S (.ok (.ct ρ)) = S ρ := rfl
theorem step_of {S : Env → Prop} {b : Fs} {r : R Env} (h : StepTo S (unK b r)) : ∃ ρ1 ρ2, r = .ok ρ1 ∧ (b ρ1 = .ok (.nx ρ2) ∨ b ρ1 = .ok (.ct ρ2)) ∧ S ρ2 := by
 cases r with
 | ok ρ1 =>
  have h' : StepTo S (b ρ1) := h
  cases hb : b ρ1 with
  | ok o =>
   rw [hb] at h'
   cases o with
   | nx ρ2 => exact ⟨ρ1, ρ2, rfl, .inl hb, h'⟩
   | ct ρ2 => exact ⟨ρ1, ρ2, rfl, .inr hb, h'⟩
   | bk _ => exact h'.elim
   | rt _ => exact h'.elim
  | ex _ => rw [hb] at h'; exact h'.elim
  | bad => rw [hb] at h'; exact h'.elim
 | ex c => exact h.elim
 | bad => exact h.elim
theorem loop_k {P : Prop} {g : Fg} {b : Fs} {ds : List PyData} {ρ : Env} {r : R Out} (hL : loopF g b ds ρ = r) (S : Nat → Env → Prop) (h0 : S 0 ρ) (st : ∀ (i : Nat) (d : PyData) (ρ : Env), ds[i]? = some d → S i ρ → StepTo (S (i + 1)) (unK b (g (.sh d) ρ)))
  (fin : ∀ ρ', r = .ok (.nx ρ') → S ds.length ρ' → P) : P := by
 obtain ⟨ρ', e, h⟩ := loop_gen hL S h0 fun i d ρ hd hS => by
  obtain ⟨ρ1, ρ2, a, b, c⟩ := step_of (st i d ρ hd hS)
  exact ⟨ρ1, ρ2, a, b, c⟩
 exact fin ρ' e h
end L3
namespace L3
open PySem L2
noncomputable def subK (o : Option (Option OD)) (a k : R OD) (i : Nat) (ρ : Env) : R Out := match o with
 | some (some (.ol xs)) => unK (fun y => unK (fun z => match z.er with
  | .int q => match ixN xs.length q with
   | some j => .ok (.nx (ρ.set i (some (.ol (xs.set j y)))))
   | none => .bad
  | _ => .bad) k) a
 | _ => .bad
theorem odcase {β : Type} (o : Option (Option OD)) : o = none ∨ o = some none ∨ (∃ d, o = some (some (.sh d))) ∨ (∃ xs, o = some (some (.ol xs))) ∨ (∃ xs, o = some (some (.ot xs))) ∨ ∃ xs, o = some (some (.od xs)) := by
 cases o with
 | none => exact .inl rfl
 | some o =>
  cases o with
  | none => exact .inr (.inl rfl)
  | some x =>
   cases x with
   | sh d => exact .inr (.inr (.inl ⟨d, rfl⟩))
   | ol xs => exact .inr (.inr (.inr (.inl ⟨xs, rfl⟩)))
   | ot xs => exact .inr (.inr (.inr (.inr (.inl ⟨xs, rfl⟩))))
   | od xs => exact .inr (.inr (.inr (.inr (.inr ⟨xs, rfl⟩))))
section
variable {ρ : Env} {a b k : Fe} {s t : Ft} {p q : Fs}
theorem v_sub (i : Nat) : sSub i k a ρ = subK ρ[i]? (a ρ) (k ρ) i ρ := by
 unfold sSub subK
 generalize ρ[i]? = o
 rcases odcase (β := Nat) o with rfl | rfl | ⟨d, rfl⟩ | ⟨xs, rfl⟩ | ⟨xs, rfl⟩ | ⟨xs, rfl⟩
 ·rfl
 ·rfl
 ·rfl
 ·cases a ρ <;> cases k ρ <;> rfl
 ·rfl
 ·rfl
noncomputable def revK (o : Option (Option OD)) (i : Nat) (ρ : Env) : R Out := match o with
 | some (some (.ol xs)) => .ok (.nx (ρ.set i (some (.ol xs.reverse))))
 | _ => .bad
noncomputable def clrK (o : Option (Option OD)) (i : Nat) (ρ : Env) : R Out := match o with
 | some (some (.ol xs)) => .ok (.nx (ρ.set i (some (.ol []))))
 | _ => .bad
theorem v_rev (i : Nat) : sRev i ρ = revK ρ[i]? i ρ := by unfold sRev revK; rfl
theorem v_clr (i : Nat) : sClr i ρ = clrK ρ[i]? i ρ := by unfold sClr clrK; rfl
theorem k_rev {xs : List OD} {i : Nat} : revK (some (some (.ol xs))) i ρ = .ok (.nx (ρ.set i (some (.ol xs.reverse)))) := rfl
theorem k_clr {xs : List OD} {i : Nat} : clrK (some (some (.ol xs))) i ρ = .ok (.nx (ρ.set i (some (.ol [])))) := rfl
noncomputable def popK (o : Option (Option OD)) (g : Fg) (i : Nat) (ρ : Env) : R Out := match o with
 | some (some (.ol xs)) => match xs.getLast? with
  | some (.sh d) => unK (fun ρ' => .ok (.nx ρ')) (g (.sh d) (ρ.set i (some (.ol xs.dropLast))))
  | _ => .bad
 | _ => .bad
theorem v_pop (i : Nat) {g : Fg} : sPop i g ρ = popK ρ[i]? g i ρ := by
 unfold sPop popK
 generalize ρ[i]? = o
 rcases odcase (β := Nat) o with rfl | rfl | ⟨d, rfl⟩ | ⟨xs, rfl⟩ | ⟨xs, rfl⟩ | ⟨xs, rfl⟩
 ·rfl
 ·rfl
 ·rfl
 ·show (match xs.getLast? with
   | some (.sh d) => (g (.sh d) (ρ.set i (some (.ol xs.dropLast)))).bind fun ρ' => R.ok (Out.nx ρ')
   | _ => .bad) = (match xs.getLast? with
   | some (.sh d) => unK (fun ρ' => R.ok (Out.nx ρ')) (g (.sh d) (ρ.set i (some (.ol xs.dropLast))))
   | _ => R.bad)
  cases xs.getLast? with
  | none => rfl
  | some x =>
   cases x with
   | sh d => exact bindK _ _
   | ol _ => rfl
   | ot _ => rfl
   | od _ => rfl
 ·rfl
 ·rfl
theorem k_pop {xs : List OD} {d : PyData} {i : Nat} {g : Fg} : popK (some (some (.ol (xs ++ [.sh d])))) g i ρ = unK (fun ρ' => R.ok (Out.nx ρ')) (g (.sh d) (ρ.set i (some (.ol xs)))) := by
 have h1 : (xs ++ [OD.sh d]).getLast? = some (.sh d) := by simp
 unfold popK
 simp only [h1, List.dropLast_concat]
noncomputable def extK (o : Option (Option OD)) (a : R OD) (i : Nat) (ρ : Env) : R Out := match o with
 | some (some (.ol xs)) => unK (fun y => match y with
  | .ol ys => if xs.length + ys.length ≤ BIG then .ok (.nx (ρ.set i (some (.ol (xs ++ ys))))) else .bad
  | _ => .bad) a
 | _ => .bad
theorem v_ext (i : Nat) : sExt i a ρ = extK ρ[i]? (a ρ) i ρ := by
 unfold sExt extK
 generalize ρ[i]? = o
 rcases odcase (β := Nat) o with rfl | rfl | ⟨d, rfl⟩ | ⟨xs, rfl⟩ | ⟨xs, rfl⟩ | ⟨xs, rfl⟩
 ·rfl
 ·rfl
 ·rfl
 ·cases a ρ with
  | ok y => cases y <;> rfl
  | ex c => rfl
  | bad => rfl
 ·rfl
 ·rfl
theorem k_ext {xs ys : List OD} {i : Nat} : extK (some (some (.ol xs))) (.ok (.ol ys)) i ρ = if xs.length + ys.length ≤ BIG then .ok (.nx (ρ.set i (some (.ol (xs ++ ys))))) else .bad := rfl
end
theorem compf_k {α : Type} {g : Fg} {t : Ft} {el : Fe} {ρ0 : Env} {ds : List PyData} {r : R (List OD)} (hL : compF g t el ρ0 ds [] = r) (emb : α → PyData) (p : α → Bool) (y : α → OD) (L : List α) (e : ds = L.map emb) (hl : L.length ≤ BIG) (h : ∀ x ∈ L, unK t (g (.sh (emb x)) ρ0) = .ok (p x) ∧ (p x = true → unK el (g (.sh (emb x)) ρ0) = .ok (y x))) : r = .ok ((L.filter p).map y) := by
 subst e
 rw [← hL]
 have go : ∀ (L : List α) (acc : List OD), (∀ x ∈ L, unK t (g (.sh (emb x)) ρ0) = .ok (p x) ∧ (p x = true → unK el (g (.sh (emb x)) ρ0) = .ok (y x))) → acc.length + L.length ≤ BIG → compF g t el ρ0 (L.map emb) acc = .ok (acc ++ (L.filter p).map y) := by
  intro L
  induction L with
  | nil => intro acc _ _; rw [List.map_nil, compF, List.filter_nil, List.map_nil, List.append_nil]
  | cons x L ih =>
   intro acc h hl
   obtain ⟨hx, hy⟩ := h x List.mem_cons_self
   rw [List.length_cons] at hl
   rw [List.map_cons, compF]
   cases hg : g (.sh (emb x)) ρ0 with
   | ok ρ =>
    rw [hg] at hx hy
    have hx' : t ρ = .ok (p x) := hx
    have hy' : p x = true → el ρ = .ok (y x) := hy
    simp only [unex, bind_ok, hx']
    by_cases hp : p x = true
    ·rw [if_pos hp, hy' hp]
     simp only [bind_ok]
     rw [if_pos (by lia), ih (acc ++ [y x]) (fun z hz => h z (List.mem_cons_of_mem _ hz)) (by rw [List.length_append, List.length_singleton]; lia), List.filter_cons_of_pos hp, List.map_cons, List.append_assoc]
     rfl
    ·rw [if_neg hp, ih acc (fun z hz => h z (List.mem_cons_of_mem _ hz)) (by lia), List.filter_cons_of_neg hp]
   | ex c => rw [hg] at hx; cases hx
   | bad => rw [hg] at hx; cases hx
 rw [go L [] h (by simpa using hl)]
 rfl
end L3
namespace L3
open PySem L2
noncomputable def lay (n : Nat) (d : PyData) : Prop := d.canLay0 = true ∧ d.depth ≤ n
theorem lay_int (i : Int) : lay 0 (.int i) := ⟨rfl, Nat.le_refl _⟩
theorem lay_all {n : Nat} : ∀ {xs : List PyData}, (∀ x ∈ xs, lay n x) → PyData.canLayAll0 xs = true ∧ PyData.depthAll xs ≤ n
 | [], _ => ⟨rfl, Nat.zero_le _⟩
 | x :: xs, h => by
  obtain ⟨a1, a2⟩ := h x List.mem_cons_self
  obtain ⟨b1, b2⟩ := lay_all (xs := xs) fun y hy => h y (List.mem_cons_of_mem _ hy)
  unfold PyData.canLayAll0 PyData.depthAll
  rw [a1, b1]
  exact ⟨rfl, by lia⟩
theorem lay_tuple {n : Nat} {xs : List PyData} (h : ∀ x ∈ xs, lay n x) : lay (n + 1) (.tuple xs) := by
 obtain ⟨b1, b2⟩ := lay_all h
 refine ⟨by unfold PyData.canLay0; exact b1, ?_⟩
 unfold PyData.depth
 lia
theorem lay_shaped {n : Nat} {d : PyData} (h : lay n d) (hn : n ≤ 64) : SeqAt.shaped d = true := by
 unfold SeqAt.shaped
 rw [Bool.and_eq_true]
 exact ⟨h.1, decide_eq_true (Nat.le_trans h.2 hn)⟩
theorem eqD_tuple (a b : List PyData) : eqD (.tuple a) (.tuple b) = deepEq (.tuple a) (.tuple b) := rfl
theorem deep_same {n : Nat} {d : PyData} (h : lay n d) (hn : n ≤ 64) : deepEq d d = .ok true := by
 unfold deepEq
 rw [lay_shaped h hn, Bool.and_self, if_pos rfl, SeqAt.eqv_refl _ (SeqAt.canLay_of_shaped (lay_shaped h hn))]
end L3
namespace L3
open PySem L2
theorem i_ixS (z : Str) (i : Int) : gIx (.str z) (.int i) = if z.length ≤ BIG then liftD ((atI z.cps.toList i).map fun c => .str ⟨#[c]⟩) else .bad := rfl
theorem i_addS (x y : Str) : gAdd (.str x) (.str y) = if x.length + y.length ≤ BIG then .ok (.sh (.str (x ++ y))) else .bad := rfl
theorem i_addL (x y : List PyData) : gAdd (.list x) (.list y) = if x.length + y.length ≤ BIG then .ok (.ol ((x ++ y).map OD.sh)) else .bad := rfl
theorem i_eqS (x y : Str) : gEq (.str x) (.str y) = .ok (.sh (.bool (decide (x = y)))) := rfl
theorem i_neS (x y : Str) : gNe (.str x) (.str y) = .ok (.sh (.bool (!decide (x = y)))) := rfl
end L3
namespace L3
open PySem L2
noncomputable def StepR (S : Env → Prop) (T : OD → Prop) : R Out → Prop
 | .ok (.nx ρ) => S ρ
 | .ok (.ct ρ) => S ρ
 | .ok (.rt x) => T x
 | _ => False
theorem sr_nx {S : Env → Prop} {T : OD → Prop} {ρ : Env} : StepR S T (.ok (.nx ρ)) = S ρ := rfl
theorem sr_ct {S : Env → Prop} {T : OD → Prop} {ρ : Env} : StepR S T (.ok (.ct ρ)) = S ρ := rfl
theorem sr_rt {S : Env → Prop} {T : OD → Prop} {x : OD} : StepR S T (.ok (.rt x)) = T x := rfl
end L3
namespace L3
open PySem L2 PySem.Spec PyProof.Rows
section
variable {X : Cx} {tg : Expr}
end
section
variable {M : Mx} {n : Nat} {H : Hp} {σ : St} {R' : It → Hp → Prop} {X : Cx} {a b c e : Expr} {fa fb fc : Fe} {pos : Pos} {D : Ends}
end
end L3
namespace L3
open PySem L2 PySem.Spec PyProof.Rows
end L3
namespace L3
open PySem L2 PySem.Spec PyProof.Rows
noncomputable def putF (i : Nat) (kk : Int) (a : Fe) : Nat → Nat → Env → R Out
 | 0, _, ρ => .ok (.nx ρ)
 | c + 1, m, ρ => match ρ[i]? with
  | some (some (.ol xs)) => match xs[m]? with
   | some (.ol ys) => (a ρ).bind fun y => match ixN ys.length kk with
    | some q => putF i kk a c (m + 1) (ρ.set i (some (.ol (xs.set m (.ol (ys.set q y))))))
    | none => .bad
   | _ => .bad
  | _ => .bad
section
variable {M : Mx} {n : Nat} {σ : L3.St} {H : Hp} {D : Ends}
end
section
variable {M : Mx} {X : Cx} {e b : Expr} {fa : Fe} {x y : Str} {p p1 p2 p3 pos pos' : Pos}
end
end L3
namespace L3
open PySem L2 PySem.Spec PyProof.Rows
section
variable {K : PySem.W.Frag} {F H : Hp}
end
section
variable {M : Mx} {n : Nat} {σ : L3.St} {H : Hp} {D : Ends} {Q : VK} {fa fb : Fe}
end
section
variable {M : Mx} {X : Cx} {a b e : Expr} {fa fb : Fe} {x : Str} {p pos pos' : Pos}
end
section
variable {ρ : Env} {a b k : Fe}
end
end L3
namespace L3
open PySem L2 PySem.Spec PyProof.Rows
section
variable {X : Cx} {M : Mx}
end
end L3
namespace L3
open PySem L2 PySem.Spec PyProof.Rows
section
variable {X : Cx} {M : Mx}
end
end L3
namespace L3
open PySem L2 PySem.Spec PyProof.Rows
noncomputable def signs (x : Str) : List PyData := x.cps.toList.map fun c => PyData.str ⟨#[c]⟩
end L3
namespace L3
open PySem L2 PySem.Spec PyProof.Rows
section
variable {M : Mx} {n : Nat} {σ : L2.St} {H : Hp} {Q : VK} {al ak : Fa}
noncomputable def gK {α : Type} (m j : Nat) (us ws : List α) : List α := if us.length = m ∧ ws.length = j then us ++ ws else []
end
section
variable {M : Mx} {X : Cx} {e : Expr} {es : List Expr} {pos kpos : Pos} {fa : Fe} {al ak : Fa} {kws : List Keyword} {nm : Option Str}
end
structure FunD (K : PySem.W.Frag) (x qual : Str) (st : Stmt) (f : Addr) (fd : FuncData) : Prop where
 ex : ∃ (oc : Value) (od : Option Addr) (dV kV doc pm : Value) (an : Option Addr) (cdv ct : Value) (osl : Array (Option Value)),
  fd = PySem.W.fnOf x qual (defArgs st) (defBody st) (defScope st) dV kV doc pm an cdv ct ∧ K.lookup f = some ⟨oc, od, .func fd, osl⟩ ∧ PySem.W.codeIn K cdv qual = true
 kp : PySem.W.keepIn K (.ref f) = true
theorem FunD.ok {P : Program} {w : World} {K : PySem.W.Frag} {mg : Str → Option Value} {base : Heap} {x qual : Str} {st : Stmt} {f : Addr} {fd : FuncData} {N ps : List Str} {k : Nat} {sp : Sp} (F : FunD K x qual st f fd) (S : FnScope N ps (defScope st)) (len : ∀ vs H Q E, sp vs H Q E → vs.length = ps.length)
  (hbody : ∀ (cdv : Value) (A : Around) (outer : List PySem.Env) (s : Shared) (H : Hp) (vs : List V) (Q : VK) (E : XK), Room k (A.deeper (envOfC qual (defScope st) s.heap.objs.size f cdv)) → sp vs H Q E →
   ∃ t, PSs (cxOf CX0 P w K mg base N qual (defScope st) f cdv A outer s H E).nox (defBody st) t ∧ t { nx := fun _ H' => Q .non H', rt := Q } (start N vs) H) : FnOk P w K mg base CX0 (k + 1) f fd ps sp := by
 obtain ⟨oc, od, dV, kV, doc, pm, an, cdv, ct, osl, rfl, lk, hcd⟩ := F.ex
 refine fn_of lk hcd S len fun A outer s H vs Q E hr hsp => ?_
 obtain ⟨t, h, q⟩ := hbody cdv A outer s H vs Q E hr hsp
 exact ⟨t, h.nox, q⟩
structure DefD (K : PySem.W.Frag) (mg : Str → Option Value) (x : Str) (st : Stmt) (ps ks : List Str) (m : Nat) (dvs : List V) (f : Addr) (fd : FuncData) : Prop where
 F : FunD K x x st f fd
 g : mg x = some (.ref f)
 b : Binds K fd ps []
 d : ∃ ds, Binds K fd ps ds ∧ Vals dvs ds
 k : KBinds K fd ps ks (gK m dvs.length) (gK m dvs.length)
end L3
namespace L3
open PySem L2 PySem.Spec PyProof.Rows
section
variable {M : Mx} {n : Nat} {σ : L2.St} {H : Hp} {D : Ends}
end
section
variable {M : Mx} {X : Cx} {e b : Expr} {x : Str} {p ap cp pos : Pos} {fa fb : Fe}
end
section
variable {ρ : Env} {k a : Fe}
end
section
variable {M : Mx} {n : Nat} {σ : L2.St} {H : Hp} {D : Ends}
end
section
variable {M : Mx} {X : Cx} {sc scope : Scope} {p p1 p2 p3 p4 p5 pos spos : Pos} {x y z b : Str}
end
end L3
namespace L3
open PySem L2
end L3
namespace L2
open PySem PySem.Spec PyProof.Rows
end L2
namespace L2
open PySem PySem.Spec PyProof.Rows
structure BlkK (X : Cx) (sc scope : Scope) (outs : List (Nat × Str)) : Prop where
 hsc : X.env.scope = sc
 kind : scope.kind = .function
 loc : ∀ x ∈ scope.names, x.2 = .local → scope.names.lookup x.1 = some .local
 own : ∀ x ∈ scope.names, x.2 = .cell → scope.names.lookup x.1 = some .cell
 ap : ∀ x ∈ scope.names, x.2 = .free → (x.1, NameKind.cell) ∉ scope.names
 fr : ∀ x ∈ scope.names, x.2 = .free → sc.names.lookup x.1 = some .cell ∨ sc.names.lookup x.1 = some .free
 out : OutsOk X scope outs
section
variable {X : Cx} {sc scope : Scope} {own : List Str} {outs : List (Nat × Str)} {elt tg iter : Expr} {ifs : List Expr} {pos : Pos} {g : TG} {tc : TT} {te : TE}
end
end L2
namespace L3
open PySem L2 PySem.Spec PyProof.Rows
section
variable {M : Mx} {X : Cx} {e a b c : Expr} {es : List Expr} {pos : Pos} {fa fb : Fe} {ta tb : Ft} {al : Fa} {x : Str} {p ap cp : Pos}
variable {sc scope : Scope} {outs : List (Nat × Str)} {elt tg iter : Expr} {ifs : List Expr} {it : Fi} {gg : Fg} {is : List Nat} {el : Fe}
end
end L3
namespace L3
open PySem L2 PySem.Spec PyProof.Rows
theorem vals_ints : ∀ {us : List Value} {ns : List Int}, IntsAre us ns → Vals (ns.map V.int) us
 | _, _, .nil => .nil
 | _, _, .cons n t r => .cons ⟨t, rfl⟩ (vals_ints r)
section
variable {X : Cx} {M : Mx}
end
end L3
namespace L3
open PySem L2 PySem.Spec PyProof.Rows
section
variable {M : Mx} {n : Nat} {σ : L2.St} {H : Hp} {D : Ends} {Q Q' : VK}
theorem Post.self {fp : List Addr} {α : Type} {P : α → Prop} {r : R α} (h : Post M H fp P r) : Post M H fp (fun x => r = .ok x ∧ P x) r := by
 cases r with
 | ok a => exact ⟨rfl, h⟩
 | ex c => exact h
 | bad => exact h
end
open Classical in
noncomputable def outH (F : Hp) (f : List Addr) : Hp := fun b => if b ∈ f then none else F b
theorem outH_out {F : Hp} {f : List Addr} {b : Addr} (h : b ∉ f) : outH F f b = F b := by unfold outH; rw [if_neg h]
section
variable {K : PySem.W.Frag} {F H : Hp} {f : List Addr}
end
section
variable {M : Mx} {n : Nat} {σ : L2.St} {H : Hp} {Q : VK}
end
section
variable {M : Mx} {X : Cx} {e : Expr} {fa fb : Fe}
end
theorem ex1 {α : Type} {us : List α} (h : us.length = 1) : ∃ a, us = [a] := by
 cases us with
 | nil => cases h
 | cons a r =>
  cases r with
  | nil => exact ⟨a, rfl⟩
  | cons b r => cases h
theorem ex2 {α : Type} {us : List α} (h : us.length = 2) : ∃ a b, us = [a, b] := by
 cases us with
 | nil => cases h
 | cons a r =>
  obtain ⟨b, e⟩ := ex1 (Nat.succ.inj h)
  exact ⟨a, b, by rw [e]⟩
theorem ex3 {α : Type} {us : List α} (h : us.length = 3) : ∃ a b c, us = [a, b, c] := by
 cases us with
 | nil => cases h
 | cons a r =>
  obtain ⟨b, c, e⟩ := ex2 (Nat.succ.inj h)
  exact ⟨a, b, c, by rw [e]⟩
end L3
namespace L3
open PySem L2 PySem.Spec PyProof.Rows
section
variable {M : Mx} {n : Nat} {σ : L2.St} {H : Hp} {Q : VK}
end
section
variable {X : Cx} {M : Mx}
end
end L3
namespace L3
open PySem L2 PySem.Spec PyProof.Rows
noncomputable def bitsOk (i : Int) : Bool := decide (Builtin.Int.intBits i ≤ 1048576)
noncomputable def gMulW : PyData → PyData → R OD
 | .int i, .int j => if (bitsOk i && bitsOk j) = true then oI (i * j) else .bad
 | _, _ => .bad
theorem op_mulW {X : Cx} : OpR X (binaryOp .Mult) (rI (fun i j => (bitsOk i && bitsOk j) = true) fun i j => .int (i * j)) := opI fun _ _ _ _ _ _ _ hc q => mul_int q (by
 rw [Bool.and_eq_true] at hc
 exact IntMulOk.of_bits (of_decide_eq_true hc.1) (of_decide_eq_true hc.2))
theorem ok_mulW {M : Mx} : Ok2 M (rI (fun i j => (bitsOk i && bitsOk j) = true) fun i j => .int (i * j)) gMulW := by
 intro x y dx dy F H fp Q s rx ry p
 unfold gMulW at p
 split at p
 ·cases rx; cases ry
  split at p
  ·rename_i hc
   exact ⟨_, _, rfl, rfl, hc, okI s p⟩
  ·exact p.elim
 ·exact p.elim
theorem i_mulW {i j : Int} (h1 : bitsOk i = true) (h2 : bitsOk j = true) : gMulW (.int i) (.int j) = .ok (.sh (.int (i * j))) := by
 show (if (bitsOk i && bitsOk j) = true then _ else _) = _
 rw [h1, h2]
 rfl
theorem bitsOk_small {i : Int} (h1 : -18446744073709551616 < i) (h2 : i < 18446744073709551616) : bitsOk i = true :=
 decide_eq_true (Nat.le_trans (intBits_le_64 h1 h2) (by decide))
noncomputable def Bits (ns : List Int) : Prop := ∀ z ∈ ns, bitsOk z = true
theorem weightAll_ge : ∀ (ns : List Int) (z : Int), z ∈ ns → (W.WData.int z).weight ≤ W.WData.weightAll (ns.map W.WData.int)
 | [], _, h => nomatch h
 | y :: ns, z, h => by
  rw [List.map_cons]
  unfold W.WData.weightAll
  cases h with
  | head => lia
  | tail _ h =>
   have := weightAll_ge ns z h
   lia
theorem bits_of {ns : List Int} (h : W.WData.layableAll [W.WData.list (ns.map W.WData.int)] = true) : Bits ns := by
 have h1 : (W.WData.layable (W.WData.list (ns.map W.WData.int)) && true) = true := h
 rw [Bool.and_true] at h1
 have h2 : (_ && decide ((W.WData.list (ns.map W.WData.int)).weight ≤ 2 ^ 20)) = true := h1
 rw [Bool.and_eq_true] at h2
 have h3 := of_decide_eq_true h2.2
 intro z hz
 have h4 := weightAll_ge ns z hz
 refine decide_eq_true ?_
 have h5 : (W.WData.list (ns.map W.WData.int)).weight = W.WData.weightAll (ns.map W.WData.int) := by rw [W.WData.weight]
 have h6 : (W.WData.int z).weight = Builtin.Int.intBits z := by rw [W.WData.weight]; rfl
 lia
end L3
namespace L3
open PySem L2 PySem.Spec PyProof.Rows PySem.W PySem.Calls
theorem walk_of5 {l : PySem.W.OpenLaw} {n k : Nat} {q : Program} {loose : List Str} {XP : (Str → Option Value) → Heap → Prop} {YP : World → Heap → Prop} {d : DefRec} {K : Params → PySem.W.Frag} {CX : World → CXT} {sp : World → Sp} {x : Str}
  (hn : l.most = some n) (hn2 : n ≤ sizeLine) (hdf : d.params.defaults = []) (hr : Room k callerA)
  (hY : ∀ (w : World) (h : Heap), YP w h → (K w.params).In h)
  (F : ∀ (w : World) (mg : Str → Option Value) (fa : Addr) (h : Heap), (K w.params).In h → h.Ns mainGlobals mg → mg d.name = some (.ref fa) →
   ∃ fd : FuncData, (∀ (s : Shared) (u : Value), BindsTo s fd ⟨[u], []⟩ [(x, u)]) ∧
    ∀ base : Heap, (K w.params).In base → base.Ns mainGlobals mg → FnOk l.prog w (K w.params) mg base (CX w) k fa fd [x] (sp w))
  (hsp : ∀ (w : World) (H : Hp) (a : Addr) (ns : List Int), ns.length ≤ n → Bits ns → Only H → RdK (K w.params) H a (ns.map V.int) → sp w [.ref a] H (fun v _ => v = .bl true) fun _ _ _ => False)
  (hCX : ∀ (w : World) (H : Hp) (s : Shared) (e : Value) (s' : Shared), CX w [] H s (fun _ _ _ => False) e s' → False) :
  PySem.W.WalkO q loose XP YP l.row.toRowW d [] (fun f vs => PySem.call f vs) := by
 intro w s₀ s₁ mg mb G Y fa o pm cd doc dV kV ho hd hcd hD hmg hg args vals as hpre hlay _ hwl _
 obtain ⟨a, vs, ns, e1, e2, hobj, hints, hlen⟩ := Att.script_of hn hpre hwl
 subst e1; subst e2
 have e3 : dV = .none := Dflts.none hD hdf
 have e4 : kV = .none := Dflts.noKw hD
 have KX := hY w _ Y
 obtain ⟨fd, hb, hF⟩ := F w mg fa _ KX G.T.g hmg
 have C := law_call3 KX G.T.g G.T.b G.T.builtins G.T.nolimit hg hobj hints (Nat.le_trans hlen hn2) hr hF hb (fun H hO hS => hsp w H a ns hlen (bits_of hlay) hO hS) fun H e s' => hCX w H s₁ e s'
 refine enter_call (codeAny_mono C fun r s' hq => ?_)
 have h1 := hq.1
 subst h1
 exact ⟨.inl ⟨.bool true, .bool true, [], rfl, fun _ => rfl, .bool true, Att.post_true l _, fun _ => ⟨List.Pairwise.nil, fun _ hm => (nomatch hm)⟩⟩, hq.2⟩
theorem walk5 {l : PySem.W.OpenLaw} {q : Program} {loose : List Str} {XP : (Str → Option Value) → Heap → Prop} {YP : World → Heap → Prop} {d : DefRec} {K : Params → PySem.W.Frag} {x : Str} {k : Nat} {fn : Fn} (hn : l.most = some 63) (hdf : d.params.defaults = []) (hr : Room k callerA)
  (hY : ∀ (w : World) (h : Heap), YP w h → (K w.params).In h) (hl : ∀ ns : List Int, ns.length ≤ 63 → Bits ns → fn [.list (ns.map PyData.int)] = .ok (.sh (.bool true)))
  (F : ∀ (w : World) (mg : Str → Option Value) (fa : Addr) (h : Heap), (K w.params).In h → h.Ns mainGlobals mg → mg d.name = some (.ref fa) →
   ∃ fd : FuncData, (∀ (s : Shared) (u : Value), BindsTo s fd ⟨[u], []⟩ [(x, u)]) ∧ ∀ base : Heap, (K w.params).In base → base.Ns mainGlobals mg → FnOk l.prog w (K w.params) mg base CX0 k fa fd [x] (sp3 (K w.params) mg fn)) :
  PySem.W.WalkO q loose XP YP l.row.toRowW d [] (fun f vs => PySem.call f vs) := by
 refine walk_of5 (n := 63) (k := k) (x := x) (CX := fun _ => CX0) (sp := fun w vs H Q E => ∃ F ds x, Same F H ∧ RepAll (K w.params) F vs ds ∧ fn ds = .ok x ∧ OkE ⟨K w.params, fun _ => none, E⟩ F H Q x) hn (by decide) hdf hr hY (fun w mg fa h a b c => ?_) (fun w H a ns hlen hbits _ hS => ?_) fun _ _ _ _ _ z => z
 ·obtain ⟨fd, h1, h2⟩ := F w mg fa h a b c
  refine ⟨fd, h1, fun base kb nb => (h2 base kb nb).imp ?_⟩
  rintro vs H Q E ⟨F0, ds, y, sm, ra, e, p⟩
  refine ⟨F0, ds, sm, ra, ?_⟩
  rw [e]
  exact fun v F' H' fx => p v F' H' fx
 ·refine ⟨H, [.list (ns.map PyData.int)], _, Same.refl _, .cons (.lst hS (RepAll.ofInts ns)) .nil, hl ns hlen hbits, ?_⟩
  intro v F' H' fx e r w
  cases r.own with
  | sh q =>
   cases q
   rfl
end L3
namespace L2
open PySem PySem.Spec PyProof.Rows
noncomputable def zrefs (n0 n : Nat) : List Value := (List.range n).map fun j => Value.ref (n0 + j)
structure ZS (h : Heap) (n0 n : Nat) (ls : Nat → Nat) (is : Nat → Nat) (f0 : Value) (arr : List Value) : Prop where
 zp : h.get? (n0 + n + 2) = some { cls := .type "zip", dict := none, data := .fields #[f0, .bool false, .bool false, .ref (n0 + n), .ref (n0 + n + 1)], slots := #[] }
 ti : h.get? (n0 + n) = some { cls := .type "tuple", data := .seq (zrefs n0 n).toArray }
 to : h.get? (n0 + n + 1) = some { cls := .type "tuple", data := .seq arr.toArray }
 it : ∀ j, j < n → h.IsListIter (n0 + j) (ls j) (is j)
theorem neN {a b : Nat} (h : a ≠ b) : @Ne Addr a b := h
theorem ZS.pos {h : Heap} {n0 n : Nat} {ls : Nat → Nat} {is is' : Nat → Nat} {f0 : Value} {arr : List Value} (Z : ZS h n0 n ls is f0 arr) (e : ∀ j, j < n → is j = is' j) : ZS h n0 n ls is' f0 arr :=
 ⟨Z.zp, Z.ti, Z.to, fun m hm => by rw [← e m hm]; exact Z.it m hm⟩
section
variable {prog : Program} {w : World} {A : Around} {E : Value → Shared → Prop} {s : Shared}
end
end L2
namespace L2
open PySem PySem.Spec PyProof.Rows
noncomputable def zfp (n0 n : Nat) : List Addr := (List.range (n + 3)).map fun j => n0 + j
theorem zfp_mem {n0 n c : Nat} (h : c ∈ zfp n0 n) : n0 ≤ c ∧ c < n0 + n + 3 := by
 unfold zfp at h
 obtain ⟨j, hj, rfl⟩ := List.mem_map.mp h
 have := List.mem_range.mp hj
 lia
theorem zfp_in {n0 n c : Nat} (h1 : n0 ≤ c) (h2 : c < n0 + n + 3) : c ∈ zfp n0 n := List.mem_map.mpr ⟨c - n0, List.mem_range.mpr (by lia), by lia⟩
theorem ZS.obj {h : Heap} {n0 n : Nat} {ls : Nat → Nat} {is : Nat → Nat} {f0 : Value} {arr : List Value} (Z : ZS h n0 n ls is f0 arr) {c : Nat} (hc : c ∈ zfp n0 n) : ∃ o, h.get? c = some o ∧ ∀ v, o.data ≠ .cell v := by
 have := zfp_mem hc
 by_cases h1 : c < n0 + n
 ·obtain ⟨o, e, _, d⟩ := Z.it (c - n0) (by lia)
  rw [show n0 + (c - n0) = c by lia] at e
  exact ⟨o, e, fun v z => by rw [d] at z; cases z⟩
 ·have h2 : c = n0 + n ∨ c = n0 + n + 1 ∨ c = n0 + n + 2 := by lia
  rcases h2 with rfl | rfl | rfl
  ·exact ⟨_, Z.ti, fun v z => by cases z⟩
  ·exact ⟨_, Z.to, fun v z => by cases z⟩
  ·exact ⟨_, Z.zp, fun v z => by cases z⟩
theorem ZS.kept {h h' : Heap} {n0 n : Nat} {ls : Nat → Nat} {is : Nat → Nat} {f0 : Value} {arr : List Value} (Z : ZS h n0 n ls is f0 arr) (kp : ∀ b ∈ zfp n0 n, ∀ o, h.get? b = some o → h'.get? b = some o) : ZS h' n0 n ls is f0 arr :=
 ⟨kp _ (zfp_in (by lia) (by lia)) _ Z.zp, kp _ (zfp_in (by lia) (by lia)) _ Z.ti, kp _ (zfp_in (by lia) (by lia)) _ Z.to, fun j hj => (Z.it j hj).at fun o q => kp _ (zfp_in (by lia) (by lia)) o q⟩
end L2
namespace L3
open PySem L2 PySem.Spec PyProof.Rows
section
variable {M : Mx} {n : Nat} {F H : Hp} {σ : St} {D : Ends} {R' : It → Hp → Prop} {X : Cx}
end
section
variable {M : Mx} {n : Nat} {F H : Hp} {σ : St} {D : Ends} {R' : It → Hp → Prop} {X : Cx}
end
end L3
namespace L2
open PySem PySem.Spec PyProof.Rows
end L2
namespace L3
open PySem L2 PySem.Spec PyProof.Rows
section
variable {M : Mx} {n : Nat} {F H : Hp} {σ : St} {D : Ends} {X : Cx} {b e : Expr} {fa fb : Fe} {x : Str} {p pos : Pos}
end
end L3
namespace L2
open PySem PySem.Spec PyProof.Rows
section
variable {prog : Program} {w : World} {A : Around} {E : Value → Shared → Prop} {s : Shared}
theorem Heap.IsTupleIter.at' {h h' : Heap} {a l i : Nat} (x : h.IsTupleIter a l i) (k : ∀ o, h.get? a = some o → h'.get? a = some o) : h'.IsTupleIter a l i := let ⟨o, ho, r⟩ := x; ⟨o, k o ho, r⟩
theorem Heap.IsTuple.at' {h h' : Heap} {a : Nat} {xs : Array Value} (x : h.IsTuple a xs) (k : ∀ o, h.get? a = some o → h'.get? a = some o) : h'.IsTuple a xs := let ⟨o, ho, r⟩ := x; ⟨o, k o ho, r⟩
end
structure ZT (h : Heap) (n0 n : Nat) (ls : Nat → Nat) (is : Nat → Nat) (f0 : Value) (arr : List Value) : Prop where
 zp : h.get? (n0 + n + 2) = some { cls := .type "zip", dict := none, data := .fields #[f0, .bool false, .bool false, .ref (n0 + n), .ref (n0 + n + 1)], slots := #[] }
 ti : h.get? (n0 + n) = some { cls := .type "tuple", data := .seq (zrefs n0 n).toArray }
 to : h.get? (n0 + n + 1) = some { cls := .type "tuple", data := .seq arr.toArray }
 it : ∀ j, j < n → h.IsTupleIter (n0 + j) (ls j) (is j)
theorem ZT.pos {h : Heap} {n0 n : Nat} {ls : Nat → Nat} {is is' : Nat → Nat} {f0 : Value} {arr : List Value} (Z : ZT h n0 n ls is f0 arr) (e : ∀ j, j < n → is j = is' j) : ZT h n0 n ls is' f0 arr :=
 ⟨Z.zp, Z.ti, Z.to, fun m hm => by rw [← e m hm]; exact Z.it m hm⟩
section
variable {prog : Program} {w : World} {A : Around} {E : Value → Shared → Prop} {s : Shared}
end
end L2
namespace L2
open PySem PySem.Spec PyProof.Rows
theorem ZT.obj {h : Heap} {n0 n : Nat} {ls : Nat → Nat} {is : Nat → Nat} {f0 : Value} {arr : List Value} (Z : ZT h n0 n ls is f0 arr) {c : Nat} (hc : c ∈ zfp n0 n) : ∃ o, h.get? c = some o ∧ ∀ v, o.data ≠ .cell v := by
 have := zfp_mem hc
 by_cases h1 : c < n0 + n
 ·obtain ⟨o, e, _, d⟩ := Z.it (c - n0) (by lia)
  rw [show n0 + (c - n0) = c by lia] at e
  exact ⟨o, e, fun v z => by rw [d] at z; cases z⟩
 ·have h2 : c = n0 + n ∨ c = n0 + n + 1 ∨ c = n0 + n + 2 := by lia
  rcases h2 with rfl | rfl | rfl
  ·exact ⟨_, Z.ti, fun v z => by cases z⟩
  ·exact ⟨_, Z.to, fun v z => by cases z⟩
  ·exact ⟨_, Z.zp, fun v z => by cases z⟩
theorem ZT.kept {h h' : Heap} {n0 n : Nat} {ls : Nat → Nat} {is : Nat → Nat} {f0 : Value} {arr : List Value} (Z : ZT h n0 n ls is f0 arr) (kp : ∀ b ∈ zfp n0 n, ∀ o, h.get? b = some o → h'.get? b = some o) : ZT h' n0 n ls is f0 arr :=
 ⟨kp _ (zfp_in (by lia) (by lia)) _ Z.zp, kp _ (zfp_in (by lia) (by lia)) _ Z.ti, kp _ (zfp_in (by lia) (by lia)) _ Z.to, fun j hj => Heap.IsTupleIter.at' (Z.it j hj) fun o q => kp _ (zfp_in (by lia) (by lia)) o q⟩
end L2
namespace L3
open PySem L2 PySem.Spec PyProof.Rows
section
variable {M : Mx} {n : Nat} {F H : Hp} {σ : St} {D : Ends} {R' : It → Hp → Prop} {X : Cx} {a b : Expr} {fa fb : Fe} {pos : Pos}
end
end L3
namespace L3
open PySem L2 PySem.Spec PyProof.Rows
mutual
noncomputable def nol : PyData → Bool
 | .tuple ds => nols ds
 | .list _ => false
 | .dict _ => false
 | .none => true
 | .bool _ => true
 | .int _ => true
 | .str _ => true
noncomputable def nols : List PyData → Bool
 | [] => true
 | d :: ds => nol d && nols ds
end
section
variable {K : PySem.W.Frag} {F H : Hp} {f : List Addr}
mutual
theorem rep_outN (hl : ∀ b ∈ f, ∃ ws, F b = some (.lst ws)) {v : V} {d : PyData} : Rep K F v d → nol d = true → Rep K (outH F f) v d
 | .non, _ => .non
 | .bl b, _ => .bl b
 | .int i, _ => .int i
 | .str x, _ => .str x
 | .lst _ _, e => by rw [nol] at e; cases e
 | .dct _ _ _, e => by unfold dD at e; rw [nol] at e; cases e
 | .ins _ _ _, e => by unfold iD at e; rw [nol] at e; cases e
 | .tup (a := a) h1 h2, e => by
  rw [nol] at e
  refine .tup ?_ (rep_outNs hl h2 e)
  rw [outH_out fun m => by
   obtain ⟨ws, q⟩ := hl a m
   rw [h1] at q
   cases q]
  exact h1
theorem rep_outNs (hl : ∀ b ∈ f, ∃ ws, F b = some (.lst ws)) {vs : List V} {ds : List PyData} : RepAll K F vs ds → nols ds = true → RepAll K (outH F f) vs ds
 | .nil, _ => .nil
 | .cons h r, e => by
  rw [nols, Bool.and_eq_true] at e
  exact .cons (rep_outN hl h e.1) (rep_outNs hl r e.2)
end
end
section
variable {M : Mx} {n : Nat} {σ : L2.St} {H : Hp} {Q : VK}
end
section
variable {M : Mx} {X : Cx} {e : Expr} {fa fb : Fe}
end
end L3
namespace L2
open PySem PySem.Spec PyProof.Rows
section
variable {prog : Program} {w : World} {A : Around} {E : Value → Shared → Prop} {s : Shared}
end
section
variable {prog : Program} {w : World} {A : Around} {E : Value → Shared → Prop} {s : Shared}
noncomputable def zobj (n0 : Nat) (f0 f1 : Value) : Obj := { cls := .type "zip", dict := none, data := .fields #[f0, f1, .bool false, .ref (n0 + 2), .ref (n0 + 2 + 1)], slots := #[] }
end
end L2
namespace L2
open PySem PySem.Spec PyProof.Rows
section
variable {prog : Program} {w : World} {A : Around} {E : Value → Shared → Prop} {s : Shared}
noncomputable def ZW (S : Nat) (h : Heap) (n0 : Nat) (ls : Nat → Nat) (i : Nat) : Prop :=
 (i = 0 ∧ ∃ arr, arr.length = 2 ∧ ZS h n0 2 ls (fun _ => i) .none arr) ∨
 (0 < i ∧ ∃ (T : Nat) (b : Bool) (o : Obj), T ≠ S ∧ n0 + 2 + 2 < T ∧ h.get? (n0 + 2 + 2) = some (zobj n0 (rawInt T) (.bool b)) ∧ h.get? T = some o ∧ h.get? (n0 + 2) = some { cls := .type "tuple", data := .seq (zrefs n0 2).toArray } ∧ ∀ j : Nat, j < 2 → h.IsListIter (n0 + j) (ls j) i)
theorem ZW.zobj {S : Nat} {h : Heap} {n0 i : Nat} {ls : Nat → Nat} (Z : ZW S h n0 ls i) : ∃ f0 b, h.get? (n0 + 2 + 2) = some (zobj n0 f0 (.bool b)) := by
 rcases Z with ⟨_, arr, _, Z⟩ | ⟨_, T, b, o, _, _, hz, _⟩
 ·exact ⟨_, false, Z.zp⟩
 ·exact ⟨_, b, hz⟩
theorem ZW.kept {S : Nat} {h h' : Heap} {n0 i : Nat} {ls : Nat → Nat} (Z : ZW S h n0 ls i) (hSn : n0 + 2 + 2 < S) (kp : ∀ b o, b ≠ S → h.get? b = some o → h'.get? b = some o) : ZW S h' n0 ls i := by
 rcases Z with ⟨rfl, arr, ha, Z⟩ | ⟨h0, T, b, o, hTS, hTn, hz, hT, hti, hit⟩
 ·exact .inl ⟨rfl, arr, ha, ⟨kp _ _ (by lia) Z.zp, kp _ _ (by lia) Z.ti, kp _ _ (by lia) Z.to, fun j hj => (Z.it j hj).at fun o q => kp _ _ (neN (by lia)) q⟩⟩
 ·exact .inr ⟨h0, T, b, o, hTS, hTn, kp _ _ (by lia) hz, kp _ _ hTS hT, kp _ _ (by lia) hti, fun j hj => (hit j hj).at fun o q => kp _ _ (neN (by lia)) q⟩
end
theorem FpOk.upd {X : Cx} {pins : List (Addr × Obj)} {H : Hp} {b T : Addr} {o : HO} (h : FpOk X pins H b) (hb : b ≠ T) : FpOk X pins (upd H T o) b := ⟨by rw [upd_ne hb]; exact h.1, h.2⟩
structure LZ (X : Cx) (H0 H : Hp) (xs ys : List V) (Ts : List Addr) : Prop where
 up : Same H0 H
 new : ∀ c o, H c = some o → H0 c = some o ∨ c ∈ Ts
 free : ∀ T ∈ Ts, H0 T = none
 tup : ∀ (j : Nat) (T : Addr), Ts[j]? = some T → ∃ x y, xs[j]? = some x ∧ ys[j]? = some y ∧ H T = some (.tup [x, y])
end L2
namespace L2
open PySem PySem.Spec PyProof.Rows
end L2
namespace L3
open PySem L2 PySem.Spec PyProof.Rows
section
variable {M : Mx} {X : Cx}
open Classical in
end
end L3
namespace L3
open PySem L2 PySem.Spec PyProof.Rows
noncomputable def objNm : PyData → Option Str
 | .dict ((.none, .str nm) :: _) => some nm
 | _ => none
noncomputable def fldOf (f : Str) : List (PyData × PyData) → Option PyData
 | [] => none
 | (.tuple [.str g], d) :: r => if f = g then some d else fldOf f r
 | _ :: r => fldOf f r
noncomputable def objF (f : Str) : PyData → Option PyData
 | .dict (_ :: r) => fldOf f r
 | _ => none
theorem objF_iD (f nm : Str) (ds : List (Str × PyData)) : objF f (iD nm ds) = fldOf f (ds.map fun p => (.tuple [.str p.1], p.2)) := rfl
theorem fldOf_cons (f g : Str) (d : PyData) (r : List (PyData × PyData)) : fldOf f ((.tuple [.str g], d) :: r) = if f = g then some d else fldOf f r := rfl
theorem objNm_dD (kvs : List (Key × PyData)) : objNm (dD kvs) = none := by
 unfold dD
 cases kvs with
 | nil => rfl
 | cons p r =>
  obtain ⟨k, v⟩ := p
  cases k <;> rfl
section
variable {K : PySem.W.Frag} {H : Hp}
theorem fld_get {f : Str} {d : PyData} : ∀ {ds : List (Str × PyData)} {fs : List (Str × V)}, fs.map (·.1) = ds.map (·.1) → RepAll K H (fs.map (·.2)) (ds.map (·.2)) → fldOf f (ds.map fun p => (.tuple [.str p.1], p.2)) = some d → ∃ v, fs.lookup f = some v ∧ Rep K H v d
 | [], _, _, _, e => by cases e
 | (g, d0) :: ds, [], h, _, _ => by cases h
 | (g, d0) :: ds, (g', v0) :: fs, h, r, e => by
  rw [List.map_cons, List.map_cons] at h r
  rw [List.map_cons, fldOf_cons] at e
  obtain ⟨h1, h2⟩ := List.cons.inj h
  have h1 : g' = g := h1
  subst h1
  cases r with
  | cons r1 r2 =>
   by_cases hf : f = g'
   ·rw [if_pos hf] at e
    cases e
    have hb : (f == g') = true := beq_iff_eq.mpr hf
    refine ⟨v0, ?_, r1⟩
    simp only [List.lookup, hb]
   ·rw [if_neg hf] at e
    obtain ⟨v, q1, q2⟩ := fld_get h2 r2 e
    have hb : (f == g') = false := beq_eq_false_iff_ne.mpr hf
    refine ⟨v, ?_, q2⟩
    simp only [List.lookup, hb]
    exact q1
theorem fld_none {f : Str} : ∀ {ds : List (Str × PyData)} {fs : List (Str × V)}, fs.map (·.1) = ds.map (·.1) → fldOf f (ds.map fun p => (.tuple [.str p.1], p.2)) = none → fs.lookup f = none
 | [], [], _, _ => rfl
 | [], _ :: _, h, _ => by cases h
 | (g, d0) :: ds, [], h, _ => by cases h
 | (g, d0) :: ds, (g', v0) :: fs, h, e => by
  rw [List.map_cons, List.map_cons] at h
  rw [List.map_cons, fldOf_cons] at e
  obtain ⟨h1, h2⟩ := List.cons.inj h
  have h1 : g' = g := h1
  subst h1
  by_cases hf : f = g'
  ·rw [if_pos hf] at e
   cases e
  ·rw [if_neg hf] at e
   have hb : (f == g') = false := beq_eq_false_iff_ne.mpr hf
   simp only [List.lookup, hb]
   exact fld_none h2 e
end
theorem obj_of {K : PySem.W.Frag} {F : Hp} {v : V} {d : PyData} {nm : Str} (r : Rep K F v d) (e : objNm d = some nm) :
  ∃ a C dx fs ds, v = .ref a ∧ d = iD nm ds ∧ PySem.W.nsIn K mainGlobals nm = some (some (.ref C)) ∧ F a = some (.ins C dx fs) ∧ fs.map (·.1) = ds.map (·.1) ∧ RepAll K F (fs.map (·.2)) (ds.map (·.2)) := by
 cases r with
 | non => cases e
 | bl _ => cases e
 | int _ => cases e
 | str _ => cases e
 | lst _ _ => cases e
 | tup _ _ => cases e
 | dct _ _ _ => rw [objNm_dD] at e; cases e
 | @ins a C dx fs nm' ds h1 h2 h3 =>
  have e' : some nm' = some nm := e
  cases e'
  exact ⟨a, C, dx, fs, ds, rfl, rfl, h1.1, h1.2, h2, h3⟩
noncomputable def eFld (tb : Str → Bool) (f : Str) (a : Fe) : Fe := fun ρ => (a ρ).bind fun x => match objNm x.er, objF f x.er with
 | some nm, some d => if tb nm = true then .ok (.sh d) else .bad
 | _, _ => .bad
section
variable {M : Mx} {n : Nat} {σ : L3.St} {H : Hp} {Q : VK} {fa : Fe} {al : Fa}
theorem d_fld {tb : Str → Bool} {f : Str} (hN : ∀ C nm, PySem.W.nsIn M.K mainGlobals nm = some (some (.ref C)) → tb nm = true → Cls M.K C ∧ NoAttr M.K C f) (h : tD M n (eFld tb f fa) σ H Q) : tFld M.K (tD M n fa) f σ H Q := by
 obtain ⟨F, ρ, fp, S, p⟩ := h
 refine ⟨F, ρ, fp, S, (Post.bind p).mono fun x px v F1 H1 fx e1 r1 w1 => ?_⟩
 obtain ⟨G1, d1, k1⟩ := r1.frz e1 w1
 cases e : objNm x.er with
 | none => rw [e] at px; exact px.elim
 | some nm =>
  rw [e] at px
  obtain ⟨a, C, dx, fs, ds, hv, hd, hC, ha, hn, hr⟩ := obj_of k1 e
  subst hv
  cases e2 : objF f x.er with
  | none => rw [e2] at px; exact px.elim
  | some d =>
   rw [e2] at px
   have px' : Post M H fp (OkE M F H Q) (if tb nm = true then .ok (.sh d) else .bad) := px
   by_cases ht : tb nm = true
   ·rw [if_pos ht] at px'
    rw [hd, objF_iD] at e2
    obtain ⟨u, l, ru⟩ := fld_get hn hr e2
    obtain ⟨hc, hna⟩ := hN C nm hC ht
    exact ⟨a, C, dx, fs, u, rfl, d1.fh _ _ ha, hc, hna, l, OkE.val d1.fh (OkE.pre d1 px') ru⟩
   ·rw [if_neg ht] at px'
    exact px'.elim
noncomputable def eMeth (tb : Str → Option Fn) (m : Str) (a : Fe) (al : Fa) : Fe := fun ρ => (a ρ).bind fun x => match objNm x.er, objF m x.er with
 | some nm, none => match tb nm with
  | some fn => (al ρ).bind fun xs => fn (x.er :: xs.map OD.er)
  | none => .bad
 | _, _ => .bad
structure HasM (P : Program) (w : World) (K : PySem.W.Frag) (mg : Str → Option Value) (base : Heap) (CX : CXT) (k : Nat) (m : Str) (C f : Addr) (sp : Sp) : Prop where
 c : Cls K C
 m : Meth K C m f
 f : ∃ fd ps, FnOk P w K mg base CX k f fd ps sp ∧ Binds K fd ps []
noncomputable def tMethD (ok : Addr → Addr → Sp → Prop) (m : Str) (E : XK) (ta : TE) (t : TA) : TE := fun σ H Q => ta σ H fun x H1 => ∃ a C dx fs f sp, x = .ref a ∧ H1 a = some (.ins C dx fs) ∧ ok C f sp ∧ fs.lookup m = none ∧ t σ H1 fun vs H2 => sp (x :: vs) H2 Q E
theorem d_meth {ok : Addr → Addr → Sp → Prop} {tb : Str → Option Fn} {m : Str} (hT : ∀ C nm fn, PySem.W.nsIn M.K mainGlobals nm = some (some (.ref C)) → tb nm = some fn → ∃ f, ok C f (sp3 M.K M.mg fn)) (h : tD M n (eMeth tb m fa al) σ H Q) :
  tMethD ok m M.E (tD M n fa) (tA M n al) σ H Q := by
 obtain ⟨F, ρ, fp, S, p⟩ := h
 refine ⟨F, ρ, fp, S, (Post.bind p).mono fun x px v F1 H1 fx e1 r1 w1 => ?_⟩
 obtain ⟨G1, d1, k1⟩ := r1.frz e1 w1
 cases e : objNm x.er with
 | none => rw [e] at px; exact px.elim
 | some nm =>
  rw [e] at px
  have k1' := k1
  obtain ⟨a, C, dx, fs, ds, hv, hd, hC, ha, hn, hr⟩ := obj_of k1 e
  subst hv
  cases e2 : objF m x.er with
  | some d => rw [e2] at px; exact px.elim
  | none =>
   rw [e2] at px
   have px' : Post M H fp (OkE M F H Q) (match tb nm with
    | some fn => (al ρ).bind fun xs => fn (x.er :: xs.map OD.er)
    | none => .bad) := px
   cases e3 : tb nm with
   | none => rw [e3] at px'; exact px'.elim
   | some fn =>
    rw [e3] at px'
    have px2 : Post M H fp (OkE M F H Q) ((al ρ).bind fun xs => fn (x.er :: xs.map OD.er)) := px'
    rw [hd, objF_iD] at e2
    obtain ⟨f, hf⟩ := hT C nm fn hC e3
    refine ⟨a, C, dx, fs, f, _, rfl, d1.fh _ _ ha, hf, fld_none hn e2, G1, ρ, fp, S.ext d1, ((Post.bind px2).ext d1).mono fun xs pxs vs F2 H2 fxs e2 r2 w2 => ?_⟩
    obtain ⟨G2, d2, k2⟩ := r2.frz e2 w2
    exact ⟨G2, x.er :: xs.map OD.er, d2.fh, .cons (k1'.same d2.ff) k2, (pxs.ext (d1.trans d2)).nofp.mono fun z hz => hz.pre (d1.trans d2)⟩
noncomputable def eNew0 (nm : Str) : Fe := fun _ => .ok (.sh (iD nm []))
noncomputable def tMake0 (C : Addr) : TE := fun σ H Q => ∀ x dx, H x = none → H dx = none → dx ≠ x → Q (.ref x) (upd (upd H dx (.own x)) x (.ins C dx []))
theorem made_ext {F H : Hp} {x dx C : Addr} {fs : List (Str × V)} (s : Same F H) (hx : H x = none) (hdx : H dx = none) (ne : dx ≠ x) :
  Ext F H (upd F x (.ins C dx fs)) (upd (upd H dx (.own x)) x (.ins C dx fs)) := by
 have e1 : Ext F H F (upd H dx (.own x)) := Ext.alloc s hdx
 exact e1.trans (Ext.allocF e1.fh (by rw [upd_ne ne.symm]; exact hx))
theorem d_new0 {nm : Str} {C : Addr} (hC : PySem.W.nsIn M.K mainGlobals nm = some (some (.ref C))) (h : tD M n (eNew0 nm) σ H Q) : tMake0 C σ H Q := by
 obtain ⟨F, ρ, fp, S, p⟩ := h
 intro x dx hx hdx ne
 exact (show OkE M F H Q (.sh (iD nm [])) from p) (.ref x) _ _ [] (made_ext S.same hx hdx ne) (Res.sh (.ins ⟨hC, upd_same⟩ rfl .nil)) fun _ m => by cases m
noncomputable def eNew1 (nm f : Str) (al : Fa) : Fe := fun ρ => (al ρ).bind fun xs => match xs with
 | [x] => .ok (.sh (iD nm [(f, x.er)]))
 | _ => .bad
noncomputable def spI (K : PySem.W.Frag) (f : Str) : Sp := fun vs H Q _ => ∃ a C dx v, vs = [.ref a, v] ∧ H a = some (.ins C dx []) ∧ Cls K C ∧ NoAttr K C f ∧ Q .non (upd H a (.ins C dx [(f, v)]))
theorem d_new1 {nm f : Str} {C : Addr} (hC : PySem.W.nsIn M.K mainGlobals nm = some (some (.ref C))) (hc : Cls M.K C) (hn : NoAttr M.K C f) (h : tD M n (eNew1 nm f al) σ H Q) : tMake C (spI M.K f) [] M.E (tA M n al) σ H Q := by
 obtain ⟨F, ρ, fp, S, p⟩ := h
 refine ⟨F, ρ, fp, S, (Post.bind p).mono fun xs px vs F1 H1 fx e1 r1 w1 => fun x dx hx hdx ne => ?_⟩
 obtain ⟨G1, d1, k1⟩ := r1.frz e1 w1
 cases xs with
 | nil => exact px.elim
 | cons x0 xs =>
  cases xs with
  | cons _ _ => exact px.elim
  | nil =>
   cases k1 with
   | @cons v _ _ _ hv ht =>
    cases ht
    refine ⟨x, C, dx, v, rfl, upd_same, hc, hn, rfl, ?_⟩
    rw [upd_upd]
    have px' : OkE M F H Q (.sh (iD nm [(f, x0.er)])) := px
    have e2 := made_ext (C := C) (fs := [(f, v)]) d1.fh hx hdx ne
    exact px' (.ref x) _ _ [] (d1.trans e2) (Res.sh (.ins ⟨hC, upd_same⟩ rfl (.cons (hv.same e2.ff) .nil))) fun _ m => by cases m
noncomputable def eIsC (tb : Str → Option Bool) (a : Fe) : Fe := fun ρ => (a ρ).bind fun x => match objNm x.er with
 | some nm => match tb nm with
  | some b => .ok (.sh (.bool b))
  | none => .bad
 | none => .bad
structure InsK (K : PySem.W.Frag) (C : Addr) : Prop where
 c : Cls K C
 ha : PySem.W.findIn K (.ref C) "__class__" = some (some (.builtin "object.__class__"))
 hn : PySem.W.specialIn K (.builtin "object.__class__") "__get__" = some (some (.builtin "getset_descriptor.__get__"))
 ht : PySem.W.takesIn K (.builtin "object.__class__") = some true
 hm : PySem.W.mroIn K C (.type "object") = some true
noncomputable def rIsC (K : PySem.W.Frag) : List V → Hp → VK → Prop := fun xs H Q => ∃ a C dx fs D b, xs = [.ref a, .ref D] ∧ H a = some (.ins C dx fs) ∧ InsK K C ∧ PySem.W.kitOne K (.ref C) (.ref D) = some b ∧ Q (.bl b) H
theorem d_isC {tb : Str → Option Bool} {D : Addr} (hT : ∀ C nm b, PySem.W.nsIn M.K mainGlobals nm = some (some (.ref C)) → tb nm = some b → InsK M.K C ∧ PySem.W.kitOne M.K (.ref C) (.ref D) = some b) (h : tD M n (eIsC tb fa) σ H Q) :
  tCB (rIsC M.K) (tCons (tD M n fa) (tCons (tC (.ref D)) tNil)) σ H Q := by
 obtain ⟨F, ρ, fp, S, p⟩ := h
 refine ⟨F, ρ, fp, S, (Post.bind p).mono fun x px v F1 H1 fx e1 r1 w1 => ?_⟩
 obtain ⟨G1, d1, k1⟩ := r1.frz e1 w1
 cases e : objNm x.er with
 | none => rw [e] at px; exact px.elim
 | some nm =>
  rw [e] at px
  obtain ⟨a, C, dx, fs, ds, hv, hd, hC, ha, hn, hr⟩ := obj_of k1 e
  subst hv
  have px' : Post M H fp (OkE M F H Q) (match tb nm with
   | some b => .ok (.sh (.bool b))
   | none => .bad) := px
  cases e3 : tb nm with
  | none => rw [e3] at px'; exact px'.elim
  | some b =>
   rw [e3] at px'
   obtain ⟨i1, i2⟩ := hT C nm b hC e3
   exact ⟨a, C, dx, fs, D, b, rfl, d1.fh _ _ ha, i1, i2, OkE.val d1.fh (OkE.pre d1 px') (.bl b)⟩
end
section
variable {M : Mx} {X : Cx} {e o : Expr} {es : List Expr} {pos apos p : Pos} {fa : Fe} {al : Fa}
theorem de_fld {tb : Str → Bool} {f : Str} (hN : ∀ C nm, PySem.W.nsIn M.K mainGlobals nm = some (some (.ref C)) → tb nm = true → Cls M.K C ∧ NoAttr M.K C f) (h : DE M X e fa) (hb : attributeBase e f X.env (eval e X.env) = eval e X.env := by rfl) :
  DE M X (.Attribute e f pos) (eFld tb f fa) := fun hK hM => by
 have q := pe_fld (pos := pos) (h hK hM) hb
 rw [hK] at q
 exact peI q fun _ _ _ z => d_fld hN z
theorem pe_methD {CX : CXT} {k : Nat} {m : Str} {E : XK} {ta : TE} {t : TA} {pl : Sem Bool} (he : PE X o ta) (hr : Room k X.A) (hx : Passes CX X E) (ha : PA X (e :: es) t)
  (hst : starEach (e :: es) X.env = (false, eval e X.env) :: starEach es X.env := by rfl) (hpl : (backTo pos (starEach es X.env)).any (·.1) = false := by rfl)
  (ht : eval (.Call (.Attribute o m apos) (e :: es) [] pos) X.env = (do
   let ov ← eval o X.env
   standAt apos.atName
   let (f, first) ← holding [ov] (getMethod ov m pl)
   callWith pos f first (backTo pos (starEach (e :: es) X.env)) (backToKw pos (keywordEach [] X.env))) := by rfl) :
  PE X (.Call (.Attribute o m apos) (e :: es) [] pos) (tMethD (HasM X.prog X.w X.K X.mg X.base CX k m) m E ta t) := by
 intro pins s σ H Q I h
 refine PySem.W.methodCall_KW (pl := pl) (thn (he pins s σ H _ I h) fun u s1 ⟨x, H1, I1, rx, a, C, dx, fs, f, sp, ex, ea, hm, l, q⟩ => ?_) ht
 subst ex
 obtain rfl : u = Value.ref a := rx
 obtain ⟨fd, ps, F, hb⟩ := hm.f
 refine getmeth_ok I1 ea hm.c hm.m l ?_
 refine PySem.W.callWith_K (first := [.ref a]) (h₀ := X.base) I.ok.mod.kin hm.m.kp (thn (ha pos pins s1 σ H1 _ I1 q) fun us s2 ⟨vs, H2, I2, r, q2⟩ => ⟨I2.kIn, ?_⟩) hst hpl
 exact run_fn (us := .ref a :: us) (vs := .ref a :: vs) (dvs := []) (ds := []) F hr hb .nil hx I2 (.cons rfl r) (by rw [List.append_nil]; exact q2)
theorem de_meth {CX : CXT} {k : Nat} {m : Str} {tb : Str → Option Fn} {pl : Sem Bool} (hT : ∀ C nm fn, PySem.W.nsIn M.K mainGlobals nm = some (some (.ref C)) → tb nm = some fn → ∃ f, HasM X.prog X.w M.K M.mg X.base CX k m C f (sp3 M.K M.mg fn)) (hr : Room k X.A) (hx : Passes CX X M.E)
  (he : DE M X o fa) (ha : DA M X (e :: es) al)
  (hst : starEach (e :: es) X.env = (false, eval e X.env) :: starEach es X.env := by rfl) (hpl : (backTo pos (starEach es X.env)).any (·.1) = false := by rfl)
  (ht : eval (.Call (.Attribute o m apos) (e :: es) [] pos) X.env = (do
   let ov ← eval o X.env
   standAt apos.atName
   let (f, first) ← holding [ov] (getMethod ov m pl)
   callWith pos f first (backTo pos (starEach (e :: es) X.env)) (backToKw pos (keywordEach [] X.env))) := by rfl) :
  DE M X (.Call (.Attribute o m apos) (e :: es) [] pos) (eMeth tb m fa al) := fun hK hM => by
 have q := pe_methD (CX := CX) (k := k) (E := M.E) (he hK hM) hr hx (ha hK hM) hst hpl ht
 rw [hK, hM] at q
 exact peI q fun _ _ _ z => d_meth hT z
structure Mk0 (K : PySem.W.Frag) (C : Addr) : Prop where
 makes : PySem.W.makesIn K C = true
 init : PySem.W.findIn K (.ref C) "__init__" = some (some (.builtin "object.__init__"))
 kp : PySem.W.keepIn K (.ref C) = true
theorem pe_make00 {C : Addr} {x : Str} (Mk : Mk0 X.K C) (hg : Gl X x) (hm : X.mg x = some (.ref C)) (hdb : (x == ("__debug__" : Str)) = false := by decide) : PE X (.Call (.Name x p) [] [] pos) (tMake0 C) := by
 intro pins s σ H Q I h
 refine wpAny_Call_Name_kw (ld_glob I hg hm ?_ hdb)
 refine PySem.W.callWith_K0 I.kIn Mk.kp ?_
 have hq := h (s.heap.objs.size + 1) s.heap.objs.size (I.hok.fresh (Nat.le_succ _)) (I.hok.fresh (Nat.le_refl _)) (Nat.ne_of_lt (Nat.lt_succ_self _))
 have I2 := Inv.made (C := C) I
 have Y := PySem.W.makes_of (M := model X.prog X.w) I.kIn Mk.makes
 refine wpAny_call (make_map0 I.kIn Mk.makes Mk.init (fun self => PySem.W.Looks.of_pure (PySem.W.oi_bind self)) ?_)
 have hx : ((s.heap.push PySem.W.emptyDict).push (PySem.W.instObj C s.heap.objs.size)).get? (s.heap.objs.size + 1) = some (PySem.W.instObj C s.heap.objs.size) := by
  have := Heap.get?_push_size (s.heap.push PySem.W.emptyDict) (o := PySem.W.instObj C s.heap.objs.size) rfl
  rwa [Heap.size_push] at this
 have t1 : PySem.W.Looks (model X.prog X.w) ((s.heap.push PySem.W.emptyDict).push (PySem.W.instObj C s.heap.objs.size)) (typeOf (.ref (s.heap.objs.size + 1))) (.ref C) := (PySem.W.Looks.ld hx).andThen .now
 have t2 : PySem.W.Looks (model X.prog X.w) ((s.heap.push PySem.W.emptyDict).push (PySem.W.instObj C s.heap.objs.size)) (isInstance (.ref (s.heap.objs.size + 1)) (.type "object")) true := t1.andThen (Y.top.keeps fun b o e => Heap.get?_push_of_some _ (Heap.get?_push_of_some _ e))
 refine codeAny_call_builtin PySem.W.oi_plain PySem.W.entry_oi (@PySem.W.check_slot (model X.prog X.w) _ _ _ "object.__init__" "object" "__init__" (.ref (s.heap.objs.size + 1)) [] [] _ PySem.W.oi_kind PySem.W.oi_split t2 (PySem.W.oi_args (.ref (s.heap.objs.size + 1))) ?_)
 rw [PySem.W.oi_run]
 exact wpAny_pure (And.intro rfl ⟨V.ref (s.heap.objs.size + 1), _, I2, rfl, hq⟩)
theorem de_new0 {C : Addr} {x : Str} (hC : PySem.W.nsIn M.K mainGlobals x = some (some (.ref C))) (Mk : Mk0 M.K C) (hg : Gl X x) (hm : M.mg x = some (.ref C)) (hdb : (x == ("__debug__" : Str)) = false := by decide) :
  DE M X (.Call (.Name x p) [] [] pos) (eNew0 x) := fun hK hM =>
 peI (pe_make00 (by rw [hK]; exact Mk) hg (by rw [hM]; exact hm) hdb) fun _ _ _ q => d_new0 hC q
theorem de_new1 {CX : CXT} {k : Nat} {C f : Addr} {fd : FuncData} {ps : List Str} {x fl : Str} (hC : PySem.W.nsIn M.K mainGlobals x = some (some (.ref C))) (hc : Cls M.K C) (hn : NoAttr M.K C fl) (Mk : Mk M.K C f)
  (F : FnOk X.prog X.w M.K M.mg X.base CX k f fd ps (spI M.K fl)) (hr : Room (k + 1) X.A) (hg : Gl X x) (hm : M.mg x = some (.ref C)) (hb : Binds M.K fd ps []) (hx : Passes CX X M.E) (ha : DA M X (e :: es) al)
  (hdb : (x == ("__debug__" : Str)) = false := by decide) (he : starEach (e :: es) X.env = (false, eval e X.env) :: starEach es X.env := by rfl) (hpl : (backTo pos (starEach es X.env)).any (·.1) = false := by rfl) :
  DE M X (.Call (.Name x p) (e :: es) [] pos) (eNew1 x fl al) := fun hK hM => by
 have F' : FnOk X.prog X.w X.K X.mg X.base CX k f fd ps (spI M.K fl) := by
  rw [hK, hM]
  exact F
 exact peI (pe_make (by rw [hK]; exact Mk) F' hr hg (by rw [hM]; exact hm) (by rw [hK]; exact hb) .nil hx (ha hK hM) hdb he hpl) fun _ _ _ q => d_new1 hC hc hn q
theorem call_isC : CallR X (.builtin "isinstance") (rIsC X.K) := by
 intro pins s σ H xs us Q I r h
 obtain ⟨a, C, dx, fs, D, b, rfl, ha, i, e, q⟩ := h
 obtain ⟨u, v, rfl, ru, rv⟩ := Vals.two r
 cases (show v = Value.ref D from rv)
 exact isinst_ok I ru (.ins ha i.c i.ha i.hn i.ht i.hm) e fun tk => ⟨.bl b, H, I.tok tk, rfl, q⟩
theorem de_isC {tb : Str → Option Bool} {D : Addr} {x : Str} {p2 : Pos} (hT : ∀ C nm b, PySem.W.nsIn M.K mainGlobals nm = some (some (.ref C)) → tb nm = some b → InsK M.K C ∧ PySem.W.kitOne M.K (.ref C) (.ref D) = some b)
  (hg : Gl X "isinstance") (hm : X.mg "isinstance" = none) (hgT : Gl X x) (hmT : M.mg x = some (.ref D)) (h : DE M X e fa) (hdT : (x == ("__debug__" : Str)) = false := by decide)
  (hs1 : starEach [e, .Name x p2] X.env = (false, eval e X.env) :: starEach [.Name x p2] X.env := by rfl) (hs2 : starEach [.Name x p2] X.env = (false, eval (.Name x p2) X.env) :: starEach [] X.env := by rfl) (hpl : (backTo pos (starEach [.Name x p2] X.env)).any (·.1) = false := by rfl) :
  DE M X (.Call (.Name "isinstance" p) [e, .Name x p2] [] pos) (eIsC tb fa) := fun hK hM => by
 have q := pe_callB (p := p) (pos := pos) (call_isC (X := X)) hg hm boot_isinstance' (pa_cons (h hK hM) (pa_cons (pe_glob (v := V.ref D) (pos := p2) hgT (by rw [hM]; exact hmT) rfl hdT) pa_nil hs2) hs1) (by decide) (by decide) hs1 hpl
 rw [hK] at q
 exact peI q fun _ _ _ z => d_isC hT z
end
theorem tbl_nil {α : Type} {K : PySem.W.Frag} {Pr : Addr → α → Prop} : ∀ C nm v, PySem.W.nsIn K mainGlobals nm = some (some (.ref C)) → List.lookup nm ([] : List (Str × α)) = some v → Pr C v := fun _ _ _ _ e => by cases e
theorem tbl_cons {α : Type} {K : PySem.W.Frag} {x : Str} {c : Addr} {v : α} {l : List (Str × α)} {Pr : Addr → α → Prop} (a : PySem.W.nsIn K mainGlobals x = some (some (.ref c))) (h : Pr c v)
  (r : ∀ C nm v', PySem.W.nsIn K mainGlobals nm = some (some (.ref C)) → List.lookup nm l = some v' → Pr C v') :
  ∀ C nm v', PySem.W.nsIn K mainGlobals nm = some (some (.ref C)) → List.lookup nm ((x, v) :: l) = some v' → Pr C v' := fun C nm v' hC e => by
 by_cases hx : nm = x
 ·subst hx
  have hb : (nm == nm) = true := beq_iff_eq.mpr rfl
  simp only [List.lookup, hb] at e
  cases e
  rw [a] at hC
  cases hC
  exact h
 ·have hb : (nm == x) = false := beq_eq_false_iff_ne.mpr hx
  simp only [List.lookup, hb] at e
  exact r C nm v' hC e
theorem one_cls {K : PySem.W.Frag} {x : Str} {c : Addr} {Pr : Addr → Prop} (a : PySem.W.nsIn K mainGlobals x = some (some (.ref c))) (h : Pr c) : ∀ C nm, PySem.W.nsIn K mainGlobals nm = some (some (.ref C)) → decide (nm = x) = true → Pr C := fun C nm hC e => by
 have e := of_decide_eq_true e
 subst e
 rw [a] at hC
 cases hC
 exact h
noncomputable def clsBody : Stmt → List Stmt
 | .ClassDef _ _ _ b _ _ _ _ _ _ _ => b
 | _ => []
theorem ok_init1 {P : Program} {w : World} {K : PySem.W.Frag} {mg : Str → Option Value} {base : Heap} {x qual a b fl : Str} {st : Stmt} {f : Addr} {fd : FuncData} {p1 p2 p3 p4 : Pos} (F : Fun K x qual st f fd) (S : FnScope [a, b] [a, b] (defScope st))
  (hb : defBody st = [.Assign [.Attribute (.Name a p1) fl p2] (.Name b p3) p4]) (va : Vis (defScope st) a) (vb : Vis (defScope st) b)
  (da : (a == ("__debug__" : Str)) = false) (db : (b == ("__debug__" : Str)) = false) (ca : (a == ("__classdict__" : Str)) = false) (cb : (b == ("__classdict__" : Str)) = false) : FnOk P w K mg base CX0 1 f fd [a, b] (spI K fl) := by
 refine F.ok S (fun vs H Q E h => ?_) (fun cdv A outer s H vs Q E hr h => ?_)
 ·obtain ⟨_, _, _, _, rfl, _⟩ := h
  rfl
 ·obtain ⟨q, C, dx, v, rfl, hq, hc, hn, k⟩ := h
  rw [hb]
  refine ⟨_, pss_one (ps_fld (pe_var (i := 0) rfl va da ca) (pe_var (i := 1) rfl vb db cb) rfl), ?_⟩
  exact ⟨v, rfl, .ref q, rfl, q, C, dx, [], rfl, hq, hc, hn, (by show 0 < 1000; decide), k⟩
section
variable {a : Fe} {al : Fa} {ρ : Env}
noncomputable def mtK (tb : Str → Option Fn) (m : Str) (r : R (List OD)) (d : PyData) : R OD := match objNm d, objF m d with
 | some nm, none => match tb nm with
  | some fn => unK (fun xs => fn (d :: xs.map OD.er)) r
  | none => .bad
 | _, _ => .bad
theorem v_meth {tb : Str → Option Fn} {m : Str} : eMeth tb m a al ρ = unK (fun x => mtK tb m (al ρ) x.er) (a ρ) := by
 unfold eMeth
 rw [bindK]
 congr 1
noncomputable def fldK (tb : Str → Bool) (f : Str) (d : PyData) : R OD := match objNm d, objF f d with
 | some nm, some d' => if tb nm = true then .ok (.sh d') else .bad
 | _, _ => .bad
theorem v_fld {tb : Str → Bool} {f : Str} : eFld tb f a ρ = unK (fun x => fldK tb f x.er) (a ρ) := bindK _ _
theorem v_new0 {nm : Str} : eNew0 nm ρ = .ok (.sh (iD nm [])) := rfl
noncomputable def new1K (nm f : Str) : List OD → R OD
 | [x] => .ok (.sh (iD nm [(f, x.er)]))
 | _ => .bad
theorem v_new1 {nm f : Str} : eNew1 nm f al ρ = unK (new1K nm f) (al ρ) := by
 unfold eNew1
 rw [bindK]
 congr 1
theorem k_new1 {nm f : Str} {x : OD} : new1K nm f [x] = .ok (.sh (iD nm [(f, x.er)])) := rfl
noncomputable def isCK (tb : Str → Option Bool) (d : PyData) : R OD := match objNm d with
 | some nm => match tb nm with
  | some b => .ok (.sh (.bool b))
  | none => .bad
 | none => .bad
theorem v_isC {tb : Str → Option Bool} : eIsC tb a ρ = unK (fun x => isCK tb x.er) (a ρ) := bindK _ _
noncomputable def nxK (g : Fg) (b : Fs) (ds : List PyData) : Out → R Out
 | .nx ρ2 => loopF g b ds ρ2
 | .ct ρ2 => loopF g b ds ρ2
 | .bk ρ2 => .ok (.nx ρ2)
 | .rt x => .ok (.rt x)
theorem l_nil {g : Fg} {b : Fs} : loopF g b [] ρ = .ok (.nx ρ) := rfl
theorem l_cons {g : Fg} {b : Fs} {d : PyData} {ds : List PyData} : loopF g b (d :: ds) ρ = unK (fun ρ1 => unK (nxK g b ds) (b ρ1)) (g (.sh d) ρ) := by
 rw [loopF, bindK]
 congr 1
theorem l_nx {g : Fg} {b : Fs} {ds : List PyData} {ρ2 : Env} : nxK g b ds (.nx ρ2) = loopF g b ds ρ2 := rfl
end
end L3
namespace B
open PySem L2 L3
noncomputable def bd__law_cell : Fs := (sSeq (sIf (eTest (eOp gLt (eVar 1) (eB gLen (aCons (eVar 0) aNil)))) (sRet (eOp gIx (eVar 0) (eVar 1))) sNx)
 (sSeq (sSet 2 (eOp gAdd (eOp gMul (eC (.int 7919)) (eVar 1)) (eC (.int 5))))
 (sSeq (sIf (eTest (eOp gGt (eB gLen (aCons (eVar 0) aNil)) (eC (.int 0)))) (sSet 2 (eOp gMod (eOp gAdd (eOp gMul (eOp gIx (eVar 0) (eOp gMod (eVar 1) (eB gLen (aCons (eVar 0) aNil)))) (eC (.int 48271))) (eOp gMul (eVar 1) (eC (.int 7919)))) (eC (.int 2147483647)))) sNx)
 (sRet (eOp gMod (eOp gMul (eVar 2) (eVar 2)) (eC (.int 2147483629)))))))
noncomputable def fn__law_cell : Fn := runF 2 3 bd__law_cell
noncomputable def bd__law_whole : Fs := (sRet (eAnd (eIsi "int" (eVar 0)) (eNot (eIsi "bool" (eVar 0)))))
noncomputable def fn__law_whole : Fn := runF 1 1 bd__law_whole
local macro_rules
 | `(tactic| push_cast only [$a,*] $[$l:location]?) => do
  let e ← ("v_var v_c v_op v_un v_test v_andT v_orT v_notT v_and v_or v_not v_if v_anil v_acons v_tup v_lst v_call v_b v_sh v_bor v_borT v_borL v_er0 v_er1 v_er2 v_onone v_osome v_sl v_ilst v_itup v_r1 v_en v_r2 v_zp v_gnm v_gs0 v_gs1 v_gtp v_gto v_comp v_sl3 v_nx v_bk v_ct v_seq v_asg v_set v_drop v_ret v_retN v_retV v_ifS v_frz v_frz1 v_aug v_app v_for v_isi v_idx v_run k_var k_op k_op2 k_un k_unx k_and1 k_and0 k_or1 k_or0 k_andV1 k_andV0 k_orV1 k_orV0 k_ifV1 k_ifV0 k_if1 k_if0 k_cons k_seq k_seqr k_seqc k_seqb k_asg k_for k_comp k_sl k_app k_retV k_frz k_out1 k_out2 k_tru k_truth k_idx k_aug k_lst k_tup k_en k_r1 k_r2 k_zip k_part k_env0 k_sho k_shn k_shol k_mk1 k_mk2 k_mk3 k_mk4 i_add i_sub i_mul i_mod i_fdv i_pow i_neg i_lt i_le i_gt i_ge i_eq i_ne i_addI i_ixL i_ixT i_lenL i_lenT i_lenS i_min2 i_max2 i_lofL i_int i_intb i_slc i_lift at0 at1 at2 b_isi isi_ii isi_ib isi_is isi_il isi_it isi_bi isi_bb isi_si isi_sb isi_ss isi_ll isi_lt isi_li isi_tt isi_tl isi_ti big0 big1 big2 big3 big4 big5 er_sh er_ol er_ot flat List.map_cons List.map_nil List.length_cons List.length_nil List.getElem?_cons_zero List.getElem?_cons_succ List.getElem?_nil List.set_cons_zero List.set_cons_succ List.cons_append List.nil_append List.append_nil List.replicate_succ List.replicate_zero Nat.reduceAdd Nat.reduceSub Nat.reduceLeDiff Nat.reduceLT Nat.reduceEqDiff Nat.zero_add Bool.not_true Bool.not_false if_true if_false Bool.false_eq_true reduceIte decide_true decide_false reduceCtorEq cm_l cm_r Int.reduceLT Int.reduceLE Int.reduceNeg Int.reducePow Int.reduceToNat Int.reduceMul Int.reduceAdd Int.reduceSub Nat.reducePow and_true true_and and_self List.length_map st_nx st_ct v_sub v_rev v_clr k_rev k_clr v_pop k_pop v_ext k_ext Int.cast_ofNat_Int Int.reduceEq Int.reduceNe i_ixS i_addS i_addL i_eqS i_neS sr_nx sr_ct sr_rt".splitOn " ").toArray.mapM fun s => `(Lean.Parser.Tactic.simpLemma| $(Lean.mkIdent s.toName):ident)
  `(tactic| simp (maxSteps := 1000000) -implicitDefEqProofs only [$e,*, $a,*] $[$l]?)
theorem whole_int (z : Int) : fn__law_whole [.int z] = .ok (.sh (.bool true)) := by
 unfold fn__law_whole bd__law_whole
 push_cast only [and_self]
structure Nd where
 e : Int
 l : Str
 t : Int
noncomputable def okLab (l : Str) : Prop := 1 ≤ l.length ∧ l.length ≤ 9 ∧ ∀ c ∈ l.cps.toList, 97 ≤ c ∧ c ≤ 122
noncomputable def okNd (n : Nd) : Prop := okLab n.l ∧ 1 ≤ n.t ∧ n.t ≤ 9
inductive Grown (deep : Nat) : List Nd → List Int → Prop
 | root {n : Nd} : okNd n → n.e = -1 → Grown deep [n] [0]
 | step {ns : List Nd} {way : List Int} {c : Nat} {n : Nd} : Grown deep ns way → 1 ≤ c → c ≤ way.length → c ≤ deep → okNd n → way[c - 1]? = some n.e → Grown deep (ns ++ [n]) (way.take c ++ [(ns.length : Int)])
theorem Grown.pos {deep : Nat} {ns : List Nd} {way : List Int} (g : Grown deep ns way) : 0 < ns.length ∧ 0 < way.length := by
 cases g with
 | root => simp
 | step => simp
theorem Grown.ok {deep : Nat} {ns : List Nd} {way : List Int} (g : Grown deep ns way) : ∀ n ∈ ns, okNd n := by
 induction g with
 | root h => simpa using h
 | @step ns way c n g h1 h2 h3 h4 h5 ih =>
  intro x hx
  rcases List.mem_append.mp hx with hx | hx
  ·exact ih x hx
  ·have : x = n := by simpa using hx
   rw [this]
   exact h4
noncomputable def bd_flips : Fs := (sRet (eOp gGe (eVar 0) (eC (.int 4))))
noncomputable def fn_flips : Fn := runF 1 1 bd_flips
noncomputable def bd_Standing_spot : Fs := (sRet (eVar 1))
noncomputable def fn_Standing_spot : Fn := runF 2 2 bd_Standing_spot
noncomputable def bd_Lying_spot : Fs := (sRet (eTup (aCons (eOp gIx (eVar 1) (eC (.int 1))) (aCons (eOp gIx (eVar 1) (eC (.int 0))) aNil))))
noncomputable def fn_Lying_spot : Fn := runF 2 2 bd_Lying_spot
noncomputable def bd__law_turned : Fs := (sSeq (sSet 2 (eOp gMul (eOp gIx (eVar 1) (eC (.int 0))) (eOp gSub3 (eC (.int 1)) (eOp gMul (eC (.int 2)) (eOp gFdv (eVar 0) (eC (.int 4)))))))
 (sSeq (sSet 3 (eOp gIx (eVar 1) (eC (.int 1))))
 (sRet (eOp gIx (eLst (aCons (eTup (aCons (eVar 2) (aCons (eVar 3) aNil))) (aCons (eTup (aCons (eOp gSub3 (eC (.int 0)) (eVar 3)) (aCons (eVar 2) aNil))) (aCons (eTup (aCons (eOp gSub3 (eC (.int 0)) (eVar 2)) (aCons (eOp gSub3 (eC (.int 0)) (eVar 3)) aNil))) (aCons (eTup (aCons (eVar 3) (aCons (eOp gSub3 (eC (.int 0)) (eVar 2)) aNil))) aNil))))) (eOp gMod (eVar 0) (eC (.int 4)))))))
noncomputable def fn__law_turned : Fn := runF 2 4 bd__law_turned
noncomputable def bd__law_number : Fs := (sRet (eOp gSub3 (eOp gMod (eOp gMulW (eVar 0) (eC (.int 618970019642690137449562111))) (eOp gAdd (eOp gMul (eC (.int 2)) (eOp gPow (eC (.int 10)) (eC (.int 15)))) (eC (.int 1)))) (eOp gPow (eC (.int 10)) (eC (.int 15)))))
noncomputable def fn__law_number : Fn := runF 1 1 bd__law_number
noncomputable def bd_turned_point : Fs := (sSeq (sSet 2 (eIf (eTest (eCall fn_flips (aCons (eVar 0) aNil))) (eTup (aCons (eUn gNeg (eOp gIx (eVar 1) (eC (.int 0)))) (aCons (eOp gIx (eVar 1) (eC (.int 1))) aNil))) (eVar 1)))
 (sSeq (sFor (iR1 (eOp gMod (eVar 0) (eC (.int 4)))) (gNm 3) (sSet 2 (eTup (aCons (eUn gNeg (eOp gIx (eVar 2) (eC (.int 1)))) (aCons (eOp gIx (eVar 2) (eC (.int 0))) aNil)))))
 (sRet (eVar 2))))
noncomputable def fn_turned_point : Fn := runF 2 4 bd_turned_point
noncomputable def bd__law_spot : Fs := (sSeq (sIf (eTest (eOp gEq (eVar 0) (eC (.int 1)))) (sRet (eTup (aCons (eOp gIx (eVar 2) (eC (.int 1))) (aCons (eOp gIx (eVar 2) (eC (.int 0))) aNil)))) sNx)
 (sSeq (sIf (eTest (eOp gGt (eVar 0) (eC (.int 1)))) (sRet (eCall fn__law_turned (aCons (eOp gMod (eOp gSub3 (eOp gAdd (eVar 1) (eVar 0)) (eC (.int 2))) (eC (.int 8))) (aCons (eVar 2) aNil)))) sNx)
 (sRet (eVar 2))))
noncomputable def fn__law_spot : Fn := runF 3 3 bd__law_spot
noncomputable def bd__law_is : Fs := (sSeq (sIf (eOrT (eNotT (eTest (eIsi "tuple" (eVar 0)))) (eTest (eOp gNe (eB gLen (aCons (eVar 0) aNil)) (eB gLen (aCons (eVar 1) aNil))))) (sRet (eC (.bool false))) sNx)
 (sSeq (sSet 2 (eSh (eComp (iTp (eVar 0)) (gNm 0) (eTest (eCall fn__law_whole (aCons (eVar 0) aNil))) (eVar 0) 1 [])))
 (sRet (eAnd (eOp gEq (eB gLen (aCons (eVar 2) aNil)) (eB gLen (aCons (eVar 1) aNil))) (eOp gEq (eVar 0) (eVar 1))))))
noncomputable def fn__law_is : Fn := runF 2 3 bd__law_is
noncomputable def bd_Turned_spot : Fs := (sRet (eCall fn_turned_point (aCons (eFld (fun nm => decide (nm = "Turned")) "turn" (eVar 0)) (aCons (eVar 1) aNil))))
noncomputable def fn_Turned_spot : Fn := runF 2 2 bd_Turned_spot
noncomputable def bd__law_box : Fs := (sSeq (sSet 3 (eLst aNil))
 (sSeq (sSet 4 (eLst aNil))
 (sSeq (sFor (iLst (eLst (aCons (eOp gIx (eVar 2) (eC (.int 0))) (aCons (eOp gIx (eVar 2) (eC (.int 2))) aNil)))) (gNm 5) (sFor (iLst (eLst (aCons (eOp gIx (eVar 2) (eC (.int 1))) (aCons (eOp gIx (eVar 2) (eC (.int 3))) aNil)))) (gNm 6) (sSeq (sSet 7 (eSh (eCall fn__law_spot (aCons (eVar 0) (aCons (eVar 1) (aCons (eTup (aCons (eVar 5) (aCons (eVar 6) aNil))) aNil))))))
 (sSeq (sApp 3 (eOp gIx (eVar 7) (eC (.int 0))))
 (sApp 4 (eOp gIx (eVar 7) (eC (.int 1))))))))
 (sFrz 4 (sFrz 3 (sRet (eTup (aCons (eB gMinL (aCons (eVar 3) aNil)) (aCons (eB gMinL (aCons (eVar 4) aNil)) (aCons (eB gMaxL (aCons (eVar 3) aNil)) (aCons (eB gMaxL (aCons (eVar 4) aNil)) aNil)))))))))))
noncomputable def fn__law_box : Fn := runF 3 8 bd__law_box
noncomputable def bd_Standing_box : Fs := (sSeq (sSet 2 (eSh (eMeth (fun nm => List.lookup nm [("Standing", fn_Standing_spot), ("Lying", fn_Lying_spot), ("Turned", fn_Turned_spot)]) "spot" (eVar 0) (aCons (eTup (aCons (eOp gIx (eVar 1) (eC (.int 0))) (aCons (eOp gIx (eVar 1) (eC (.int 1))) aNil))) aNil))))
 (sSeq (sSet 3 (eSh (eMeth (fun nm => List.lookup nm [("Standing", fn_Standing_spot), ("Lying", fn_Lying_spot), ("Turned", fn_Turned_spot)]) "spot" (eVar 0) (aCons (eTup (aCons (eOp gIx (eVar 1) (eC (.int 2))) (aCons (eOp gIx (eVar 1) (eC (.int 3))) aNil))) aNil))))
 (sRet (eTup (aCons (eB gMin2 (aCons (eOp gIx (eVar 2) (eC (.int 0))) (aCons (eOp gIx (eVar 3) (eC (.int 0))) aNil))) (aCons (eB gMin2 (aCons (eOp gIx (eVar 2) (eC (.int 1))) (aCons (eOp gIx (eVar 3) (eC (.int 1))) aNil))) (aCons (eB gMax2 (aCons (eOp gIx (eVar 2) (eC (.int 0))) (aCons (eOp gIx (eVar 3) (eC (.int 0))) aNil))) (aCons (eB gMax2 (aCons (eOp gIx (eVar 2) (eC (.int 1))) (aCons (eOp gIx (eVar 3) (eC (.int 1))) aNil))) aNil))))))))
noncomputable def fn_Standing_box : Fn := runF 2 4 bd_Standing_box
noncomputable def bd_law : Fs := (sSeq (sSet 1 (eOp gMod (eCall fn__law_cell (aCons (eVar 0) (aCons (eC (.int 0)) aNil))) (eC (.int 8))))
 (sSeq (sSet 2 (eSh (eLst (aCons (eNew0 "Standing") (aCons (eNew0 "Lying") (aCons (eNew1 "Turned" "turn" (aCons (eVar 1) aNil)) (aCons (eNew1 "Turned" "turn" (aCons (eOp gMod (eOp gAdd (eVar 1) (eC (.int 1))) (eC (.int 8))) aNil)) aNil)))))))
 (sSeq (sSet 3 (eSh (eTup (aCons (eSh (eCall fn__law_number (aCons (eCall fn__law_cell (aCons (eVar 0) (aCons (eC (.int 1)) aNil))) aNil))) (aCons (eSh (eCall fn__law_number (aCons (eCall fn__law_cell (aCons (eVar 0) (aCons (eC (.int 2)) aNil))) aNil))) aNil)))))
 (sSeq (sSet 4 (eSh (eCall fn__law_number (aCons (eCall fn__law_cell (aCons (eVar 0) (aCons (eC (.int 3)) aNil))) aNil))))
 (sSeq (sSet 5 (eSh (eCall fn__law_number (aCons (eCall fn__law_cell (aCons (eVar 0) (aCons (eC (.int 4)) aNil))) aNil))))
 (sSeq (sSet 6 (eSh (eTup (aCons (eVar 4) (aCons (eVar 5) (aCons (eOp gAdd (eOp gAdd (eVar 4) (eC (.int 1))) (eOp gMod (eCall fn__law_cell (aCons (eVar 0) (aCons (eC (.int 5)) aNil))) (eOp gPow (eC (.int 10)) (eC (.int 15))))) (aCons (eOp gAdd (eOp gAdd (eVar 5) (eC (.int 1))) (eOp gMod (eCall fn__law_cell (aCons (eVar 0) (aCons (eC (.int 6)) aNil))) (eOp gPow (eC (.int 10)) (eC (.int 15))))) aNil)))))))
 (sSeq (sFor (iR1 (eC (.int 2))) (gNm 7) (sSeq (sFor (iR1 (eC (.int 4))) (gNm 8) (sSeq (sIf (eNotT (eTest (eCall fn__law_is (aCons (eMeth (fun nm => List.lookup nm [("Standing", fn_Standing_spot), ("Lying", fn_Lying_spot), ("Turned", fn_Turned_spot)]) "spot" (eOp gIx (eVar 2) (eVar 8)) (aCons (eVar 3) aNil)) (aCons (eCall fn__law_spot (aCons (eVar 8) (aCons (eVar 1) (aCons (eVar 3) aNil)))) aNil))))) (sRet (eC (.bool false))) sNx)
 (sIf (eNotT (eTest (eCall fn__law_is (aCons (eMeth (fun nm => List.lookup nm [("Standing", fn_Standing_box), ("Lying", fn_Standing_box), ("Turned", fn_Standing_box)]) "box" (eOp gIx (eVar 2) (eVar 8)) (aCons (eVar 6) aNil)) (aCons (eCall fn__law_box (aCons (eVar 8) (aCons (eVar 1) (aCons (eVar 6) aNil)))) aNil))))) (sRet (eC (.bool false))) sNx)))
 (sSeq (sSet 3 (eTup (aCons (eOp gIx (eVar 6) (eC (.int 2))) (aCons (eOp gIx (eVar 3) (eC (.int 0))) aNil))))
 (sSet 6 (eSh (eTup (aCons (eOp gSub3 (eOp gIx (eVar 6) (eC (.int 0))) (eC (.int 3))) (aCons (eOp gIx (eVar 6) (eC (.int 1))) (aCons (eOp gIx (eVar 6) (eC (.int 2))) (aCons (eOp gAdd (eOp gIx (eVar 6) (eC (.int 3))) (eC (.int 256))) aNil))))))))))
 (sSeq (sFor (iLst (eSl gSlc (eVar 2) (oSome (eC (.int 1))) oNone)) (gNm 9) (sIf (eNotT (eTest (eIsC (fun nm => List.lookup nm [("Standing", true), ("Lying", true), ("Turned", true)]) (eVar 9)))) (sRet (eC (.bool false))) sNx))
 (sRet (eAnd (eIsC (fun nm => List.lookup nm [("Standing", false), ("Lying", true), ("Turned", false)]) (eOp gIx (eVar 2) (eC (.int 1)))) (eAnd (eNot (eIsC (fun nm => List.lookup nm [("Standing", false), ("Lying", false), ("Turned", true)]) (eOp gIx (eVar 2) (eC (.int 1))))) (eNot (eIsC (fun nm => List.lookup nm [("Standing", false), ("Lying", true), ("Turned", false)]) (eOp gIx (eVar 2) (eC (.int 2))))))))))))))))
noncomputable def fn_law : Fn := runF 1 10 bd_law
noncomputable def top (i : Nat) : Stmt := PySem.Challenge.pw_boughdraw_k55_lays.main.body.getD i (.Pass ⟨0, 0, 0, 0⟩)
noncomputable abbrev s_flips : Stmt := top 3
theorem sc_flips : FnScope ["turn"] ["turn"] (defScope s_flips) := ⟨rfl, rfl, rfl, by decide +kernel, rfl, by decide +kernel, by decide +kernel⟩
noncomputable abbrev s_Standing_spot : Stmt := (clsBody (top 4)).getD 0 (.Pass ⟨0, 0, 0, 0⟩)
theorem sc_Standing_spot : FnScope ["self", "point"] ["self", "point"] (defScope s_Standing_spot) := ⟨rfl, rfl, rfl, by decide +kernel, rfl, by decide +kernel, by decide +kernel⟩
noncomputable abbrev s_Lying_spot : Stmt := (clsBody (top 5)).getD 0 (.Pass ⟨0, 0, 0, 0⟩)
theorem sc_Lying_spot : FnScope ["self", "point"] ["self", "point"] (defScope s_Lying_spot) := ⟨rfl, rfl, rfl, by decide +kernel, rfl, by decide +kernel, by decide +kernel⟩
noncomputable abbrev s_Turned___init__ : Stmt := (clsBody (top 6)).getD 0 (.Pass ⟨0, 0, 0, 0⟩)
theorem sc_Turned___init__ : FnScope ["self", "turn"] ["self", "turn"] (defScope s_Turned___init__) := ⟨rfl, rfl, rfl, by decide +kernel, rfl, by decide +kernel, by decide +kernel⟩
noncomputable abbrev s__law_cell : Stmt := top 8
theorem sc__law_cell : FnScope ["_law_script", "_law_k", "_law_number_here"] ["_law_script", "_law_k"] (defScope s__law_cell) := ⟨rfl, rfl, rfl, by decide +kernel, rfl, by decide +kernel, by decide +kernel⟩
noncomputable abbrev s__law_whole : Stmt := top 9
theorem sc__law_whole : FnScope ["_law_found"] ["_law_found"] (defScope s__law_whole) := ⟨rfl, rfl, rfl, by decide +kernel, rfl, by decide +kernel, by decide +kernel⟩
noncomputable abbrev s__law_turned : Stmt := top 10
theorem sc__law_turned : FnScope ["_law_turn", "_law_point", "_law_x", "_law_y"] ["_law_turn", "_law_point"] (defScope s__law_turned) := ⟨rfl, rfl, rfl, by decide +kernel, rfl, by decide +kernel, by decide +kernel⟩
noncomputable abbrev s__law_number : Stmt := top 14
theorem sc__law_number : FnScope ["_law_cell_here"] ["_law_cell_here"] (defScope s__law_number) := ⟨rfl, rfl, rfl, by decide +kernel, rfl, by decide +kernel, by decide +kernel⟩
noncomputable abbrev s_turned_point : Stmt := top 2
theorem sc_turned_point : FnScope ["turn", "point", "spot", "quarter"] ["turn", "point"] (defScope s_turned_point) := ⟨rfl, rfl, rfl, by decide +kernel, rfl, by decide +kernel, by decide +kernel⟩
noncomputable abbrev s__law_spot : Stmt := top 11
theorem sc__law_spot : FnScope ["_law_kind", "_law_turn", "_law_point"] ["_law_kind", "_law_turn", "_law_point"] (defScope s__law_spot) := ⟨rfl, rfl, rfl, by decide +kernel, rfl, by decide +kernel, by decide +kernel⟩
noncomputable abbrev s__law_is : Stmt := top 13
theorem sc__law_is : FnScope ["_law_found", "_law_due", "_law_whole_here"] ["_law_found", "_law_due"] (defScope s__law_is) := ⟨rfl, rfl, rfl, by decide +kernel, rfl, by decide +kernel, by decide +kernel⟩
noncomputable abbrev s_Turned_spot : Stmt := (clsBody (top 6)).getD 1 (.Pass ⟨0, 0, 0, 0⟩)
theorem sc_Turned_spot : FnScope ["self", "point"] ["self", "point"] (defScope s_Turned_spot) := ⟨rfl, rfl, rfl, by decide +kernel, rfl, by decide +kernel, by decide +kernel⟩
noncomputable abbrev s__law_box : Stmt := top 12
theorem sc__law_box : FnScope ["_law_kind", "_law_turn", "_law_box_here", "_law_xs", "_law_ys", "_law_x", "_law_y", "_law_spot_here"] ["_law_kind", "_law_turn", "_law_box_here"] (defScope s__law_box) := ⟨rfl, rfl, rfl, by decide +kernel, rfl, by decide +kernel, by decide +kernel⟩
noncomputable abbrev s_Standing_box : Stmt := (clsBody (top 4)).getD 1 (.Pass ⟨0, 0, 0, 0⟩)
theorem sc_Standing_box : FnScope ["self", "box", "one", "other"] ["self", "box"] (defScope s_Standing_box) := ⟨rfl, rfl, rfl, by decide +kernel, rfl, by decide +kernel, by decide +kernel⟩
noncomputable abbrev s_law : Stmt := top 15
theorem sc_law : FnScope ["_law_script", "_law_turn", "_law_lays", "_law_point", "_law_left", "_law_top", "_law_box_here", "_law_step", "_law_kind", "_law_lay"] ["_law_script"] (defScope s_law) := ⟨rfl, rfl, rfl, by decide +kernel, rfl, by decide +kernel, by decide +kernel⟩
theorem bt_tuple : bootBuiltins "tuple" = some (.type "tuple") := by decide +kernel
theorem bt_int : bootBuiltins "int" = some (.type "int") := by decide +kernel
theorem bt_bool : bootBuiltins "bool" = some (.type "bool") := by decide +kernel
structure Txt (K : PySem.W.Frag) (mg : Str → Option Value) : Prop where
 z_bool : mg "bool" = none
 z_int : mg "int" = none
 z_isinstance : mg "isinstance" = none
 z_len : mg "len" = none
 z_max : mg "max" = none
 z_min : mg "min" = none
 z_range : mg "range" = none
 z_tuple : mg "tuple" = none
 c_QUARTERS : ∃ t, mg "QUARTERS" = some (.int 4 t)
structure DefM (K : PySem.W.Frag) (x q : Str) (st : Stmt) (ps : List Str) (f : Addr) (fd : FuncData) : Prop where
 F : Fun K x q st f fd
 b : Binds K fd ps []
structure Obs (K : PySem.W.Frag) (mg : Str → Option Value) (c_Standing c_Lying c_Turned f_Standing_spot f_Lying_spot f_Turned___init__ f_Turned_spot f_Standing_box : Addr) : Prop where
 a_Standing : PySem.W.nsIn K mainGlobals "Standing" = some (some (.ref c_Standing))
 m_Standing : mg "Standing" = some (.ref c_Standing)
 i_Standing : InsK K c_Standing
 mk_Standing : Mk0 K c_Standing
 me_Standing_box : Meth K c_Standing "box" f_Standing_box
 me_Standing_spot : Meth K c_Standing "spot" f_Standing_spot
 q_Standing_Standing : PySem.W.kitOne K (.ref c_Standing) (.ref c_Standing) = some true
 q_Standing_Lying : PySem.W.kitOne K (.ref c_Standing) (.ref c_Lying) = some false
 q_Standing_Turned : PySem.W.kitOne K (.ref c_Standing) (.ref c_Turned) = some false
 a_Lying : PySem.W.nsIn K mainGlobals "Lying" = some (some (.ref c_Lying))
 m_Lying : mg "Lying" = some (.ref c_Lying)
 i_Lying : InsK K c_Lying
 mk_Lying : Mk0 K c_Lying
 me_Lying_box : Meth K c_Lying "box" f_Standing_box
 me_Lying_spot : Meth K c_Lying "spot" f_Lying_spot
 q_Lying_Standing : PySem.W.kitOne K (.ref c_Lying) (.ref c_Standing) = some true
 q_Lying_Lying : PySem.W.kitOne K (.ref c_Lying) (.ref c_Lying) = some true
 q_Lying_Turned : PySem.W.kitOne K (.ref c_Lying) (.ref c_Turned) = some false
 a_Turned : PySem.W.nsIn K mainGlobals "Turned" = some (some (.ref c_Turned))
 m_Turned : mg "Turned" = some (.ref c_Turned)
 i_Turned : InsK K c_Turned
 mk_Turned : Mk K c_Turned f_Turned___init__
 na_Turned_turn : NoAttr K c_Turned "turn"
 me_Turned_box : Meth K c_Turned "box" f_Standing_box
 me_Turned_spot : Meth K c_Turned "spot" f_Turned_spot
 q_Turned_Standing : PySem.W.kitOne K (.ref c_Turned) (.ref c_Standing) = some true
 q_Turned_Lying : PySem.W.kitOne K (.ref c_Turned) (.ref c_Lying) = some false
 q_Turned_Turned : PySem.W.kitOne K (.ref c_Turned) (.ref c_Turned) = some true
section
variable {P : Program} {w : World} {K : PySem.W.Frag} {mg : Str → Option Value} {base : Heap} {c_Standing c_Lying c_Turned f_Standing_spot f_Lying_spot f_Turned___init__ f_Turned_spot f_Standing_box : Addr}
theorem ok_flips {f : Addr} {fd : FuncData} (F : Fun K "flips" "flips" s_flips f fd) (T : Txt K mg) (O : Obs K mg c_Standing c_Lying c_Turned f_Standing_spot f_Lying_spot f_Turned___init__ f_Turned_spot f_Standing_box) : FnOk P w K mg base CX0 1 f fd ["turn"] (sp3 K mg fn_flips) := by
 refine fn3' (N := ["turn"]) (k := 0) (body := bd_flips) rfl rfl rfl F sc_flips fun cdv A outer s H E hr => ?_
 unfold bd_flips
 exact (dss_one (ds_ret (de_cmp op_ge (fun _ => ok_ge) (de_var 0) (de_globI rfl T.c_QUARTERS) (nomark _))))
theorem ok_Standing_spot {f : Addr} {fd : FuncData} (F : Fun K "spot" "Standing.spot" s_Standing_spot f fd) (T : Txt K mg) (O : Obs K mg c_Standing c_Lying c_Turned f_Standing_spot f_Lying_spot f_Turned___init__ f_Turned_spot f_Standing_box) : FnOk P w K mg base CX0 1 f fd ["self", "point"] (sp3 K mg fn_Standing_spot) := by
 refine fn3' (N := ["self", "point"]) (k := 0) (body := bd_Standing_spot) rfl rfl rfl F sc_Standing_spot fun cdv A outer s H E hr => ?_
 unfold bd_Standing_spot
 exact (dss_one (ds_ret (de_var 1)))
theorem ok_Lying_spot {f : Addr} {fd : FuncData} (F : Fun K "spot" "Lying.spot" s_Lying_spot f fd) (T : Txt K mg) (O : Obs K mg c_Standing c_Lying c_Turned f_Standing_spot f_Lying_spot f_Turned___init__ f_Turned_spot f_Standing_box) : FnOk P w K mg base CX0 1 f fd ["self", "point"] (sp3 K mg fn_Lying_spot) := by
 refine fn3' (N := ["self", "point"]) (k := 0) (body := bd_Lying_spot) rfl rfl rfl F sc_Lying_spot fun cdv A outer s H E hr => ?_
 unfold bd_Lying_spot
 exact (dss_one (ds_ret (de_tup (da_cons (de_ix ix_seq ok_ix (de_var 1) de_int (fun _ _ => rfl)) (da_cons (de_ix ix_seq ok_ix (de_var 1) de_int (fun _ _ => rfl)) da_nil)))))
theorem ok_Turned___init__ {f : Addr} {fd : FuncData} (F : Fun K "__init__" "Turned.__init__" s_Turned___init__ f fd) : FnOk P w K mg base CX0 1 f fd ["self", "turn"] (spI K "turn") :=
 ok_init1 F sc_Turned___init__ rfl (Or.inl rfl) (Or.inl rfl) (by decide) (by decide) (by decide) (by decide)
theorem ok__law_cell {f : Addr} {fd : FuncData} (F : Fun K "_law_cell" "_law_cell" s__law_cell f fd) (T : Txt K mg) (O : Obs K mg c_Standing c_Lying c_Turned f_Standing_spot f_Lying_spot f_Turned___init__ f_Turned_spot f_Standing_box) : FnOk P w K mg base CX0 1 f fd ["_law_script", "_law_k"] (sp3 K mg fn__law_cell) := by
 refine fn3' (N := ["_law_script", "_law_k", "_law_number_here"]) (k := 0) (body := bd__law_cell) rfl rfl rfl F sc__law_cell fun cdv A outer s H E hr => ?_
 unfold bd__law_cell
 exact (dss_cons (ds_if (dt_cmp op_lt (fun _ => ok_lt) (de_var 1) (de_cb call_len3 ok_len rfl T.z_len PySem.boot_len (da_cons (de_var 0) da_nil)) (nomark _)) (dss_one (ds_ret (de_ix ix_seq ok_ix (de_var 0) (de_var 1) (fun _ _ => rfl)))) dss_nil)
   (dss_cons (ds_set (i := 2) sc__law_cell.nd rfl (Or.inl rfl) (de_op op_add3 ok_add (de_op op_mul3 ok_mul de_int (de_var 1)) de_int))
   (dss_cons (ds_if (dt_cmp op_gt (fun _ => ok_gt) (de_cb call_len3 ok_len rfl T.z_len PySem.boot_len (da_cons (de_var 0) da_nil)) de_int (nomark _)) (dss_one (ds_set (i := 2) sc__law_cell.nd rfl (Or.inl rfl) (de_op op_mod (fun _ => ok_mod) (de_op op_add3 ok_add (de_op op_mul3 ok_mul (de_ix ix_seq ok_ix (de_var 0) (de_op op_mod (fun _ => ok_mod) (de_var 1) (de_cb call_len3 ok_len rfl T.z_len PySem.boot_len (da_cons (de_var 0) da_nil))) (fun _ _ => rfl)) de_int) (de_op op_mul3 ok_mul (de_var 1) de_int)) de_int))) dss_nil)
   (dss_one (ds_ret (de_op op_mod (fun _ => ok_mod) (de_op op_mul3 ok_mul (de_var 2) (de_var 2)) de_int))))))
theorem ok__law_whole {f : Addr} {fd : FuncData} (F : Fun K "_law_whole" "_law_whole" s__law_whole f fd) (T : Txt K mg) (O : Obs K mg c_Standing c_Lying c_Turned f_Standing_spot f_Lying_spot f_Turned___init__ f_Turned_spot f_Standing_box) : FnOk P w K mg base CX0 1 f fd ["_law_found"] (sp3 K mg fn__law_whole) := by
 refine fn3' (N := ["_law_found"]) (k := 0) (body := bd__law_whole) rfl rfl rfl F sc__law_whole fun cdv A outer s H E hr => ?_
 unfold bd__law_whole
 exact (dss_one (ds_ret (de_and (de_isi rfl T.z_isinstance rfl T.z_int bt_int (de_var 0)) (de_one (de_not (de_isi rfl T.z_isinstance rfl T.z_bool bt_bool (de_var 0)))))))
theorem ok__law_turned {f : Addr} {fd : FuncData} (F : Fun K "_law_turned" "_law_turned" s__law_turned f fd) (T : Txt K mg) (O : Obs K mg c_Standing c_Lying c_Turned f_Standing_spot f_Lying_spot f_Turned___init__ f_Turned_spot f_Standing_box) : FnOk P w K mg base CX0 1 f fd ["_law_turn", "_law_point"] (sp3 K mg fn__law_turned) := by
 refine fn3' (N := ["_law_turn", "_law_point", "_law_x", "_law_y"]) (k := 0) (body := bd__law_turned) rfl rfl rfl F sc__law_turned fun cdv A outer s H E hr => ?_
 unfold bd__law_turned
 exact (dss_cons (ds_set (i := 2) sc__law_turned.nd rfl (Or.inl rfl) (de_op op_mul3 ok_mul (de_ix ix_seq ok_ix (de_var 1) de_int (fun _ _ => rfl)) (de_op op_sub (fun _ => ok_sub) de_int (de_op op_mul3 ok_mul de_int (de_op op_fdiv (fun _ => ok_fdv) (de_var 0) de_int)))))
   (dss_cons (ds_set (i := 3) sc__law_turned.nd rfl (Or.inl rfl) (de_ix ix_seq ok_ix (de_var 1) de_int (fun _ _ => rfl)))
   (dss_one (ds_ret (de_ix ix_seq ok_ix (de_lst (da_cons (de_tup (da_cons (de_var 2) (da_cons (de_var 3) da_nil))) (da_cons (de_tup (da_cons (de_op op_sub (fun _ => ok_sub) de_int (de_var 3)) (da_cons (de_var 2) da_nil))) (da_cons (de_tup (da_cons (de_op op_sub (fun _ => ok_sub) de_int (de_var 2)) (da_cons (de_op op_sub (fun _ => ok_sub) de_int (de_var 3)) da_nil))) (da_cons (de_tup (da_cons (de_var 3) (da_cons (de_op op_sub (fun _ => ok_sub) de_int (de_var 2)) da_nil))) da_nil))))) (de_op op_mod (fun _ => ok_mod) (de_var 0) de_int) (fun _ _ => rfl))))))
theorem ok__law_number {f : Addr} {fd : FuncData} (F : Fun K "_law_number" "_law_number" s__law_number f fd) (T : Txt K mg) (O : Obs K mg c_Standing c_Lying c_Turned f_Standing_spot f_Lying_spot f_Turned___init__ f_Turned_spot f_Standing_box) : FnOk P w K mg base CX0 1 f fd ["_law_cell_here"] (sp3 K mg fn__law_number) := by
 refine fn3' (N := ["_law_cell_here"]) (k := 0) (body := bd__law_number) rfl rfl rfl F sc__law_number fun cdv A outer s H E hr => ?_
 unfold bd__law_number
 exact (dss_one (ds_ret (de_op op_sub (fun _ => ok_sub) (de_op op_mod (fun _ => ok_mod) (de_op op_mulW (fun _ => ok_mulW) (de_var 0) de_int) (de_op op_add3 ok_add (de_op op_mul3 ok_mul de_int (de_op op_pow (fun _ => ok_pow) de_int de_int)) de_int)) (de_op op_pow (fun _ => ok_pow) de_int de_int))))
theorem ok_turned_point {f : Addr} {fd : FuncData} (F : Fun K "turned_point" "turned_point" s_turned_point f fd) (T : Txt K mg) (O : Obs K mg c_Standing c_Lying c_Turned f_Standing_spot f_Lying_spot f_Turned___init__ f_Turned_spot f_Standing_box) {f_flips : Addr} {fd_flips : FuncData} (D_flips : Def K mg "flips" s_flips ["turn"] f_flips fd_flips) (G_flips : FnOk P w K mg base CX0 1 f_flips fd_flips ["turn"] (sp3 K mg fn_flips)) : FnOk P w K mg base CX0 2 f fd ["turn", "point"] (sp3 K mg fn_turned_point) := by
 refine fn3' (N := ["turn", "point", "spot", "quarter"]) (k := 1) (body := bd_turned_point) rfl rfl rfl F sc_turned_point fun cdv A outer s H E hr => ?_
 unfold bd_turned_point
 exact (dss_cons (ds_set (i := 2) sc_turned_point.nd rfl (Or.inl rfl) (de_if (dt_val (de_call G_flips (hr.mono (by decide)) rfl D_flips.g D_flips.F.kp D_flips.b pass3 (da_cons (de_var 0) da_nil))) (de_tup (da_cons (de_un un_neg (fun _ => ok_neg) (de_ix ix_seq ok_ix (de_var 1) de_int (fun _ _ => rfl))) (da_cons (de_ix ix_seq ok_ix (de_var 1) de_int (fun _ _ => rfl)) da_nil))) (de_var 1)))
   (dss_cons (ds_for rfl PassesOwn.never (di_r1 rfl T.z_range (de_op op_mod (fun _ => ok_mod) (de_var 0) (de_globI rfl T.c_QUARTERS))) (dg_name (i := 3) sc_turned_point.nd rfl (Or.inl rfl)) (dss_one (ds_set (i := 2) sc_turned_point.nd rfl (Or.inl rfl) (de_tup (da_cons (de_un un_neg (fun _ => ok_neg) (de_ix ix_seq ok_ix (de_var 2) de_int (fun _ _ => rfl))) (da_cons (de_ix ix_seq ok_ix (de_var 2) de_int (fun _ _ => rfl)) da_nil))))))
   (dss_one (ds_ret (de_var 2)))))
theorem ok__law_spot {f : Addr} {fd : FuncData} (F : Fun K "_law_spot" "_law_spot" s__law_spot f fd) (T : Txt K mg) (O : Obs K mg c_Standing c_Lying c_Turned f_Standing_spot f_Lying_spot f_Turned___init__ f_Turned_spot f_Standing_box) {f__law_turned : Addr} {fd__law_turned : FuncData} (D__law_turned : Def K mg "_law_turned" s__law_turned ["_law_turn", "_law_point"] f__law_turned fd__law_turned) (G__law_turned : FnOk P w K mg base CX0 1 f__law_turned fd__law_turned ["_law_turn", "_law_point"] (sp3 K mg fn__law_turned)) : FnOk P w K mg base CX0 2 f fd ["_law_kind", "_law_turn", "_law_point"] (sp3 K mg fn__law_spot) := by
 refine fn3' (N := ["_law_kind", "_law_turn", "_law_point"]) (k := 1) (body := bd__law_spot) rfl rfl rfl F sc__law_spot fun cdv A outer s H E hr => ?_
 unfold bd__law_spot
 exact (dss_cons (ds_if (dt_cmp (op_eq3 hr.units) ok_eq (de_var 0) de_int (nomark _)) (dss_one (ds_ret (de_tup (da_cons (de_ix ix_seq ok_ix (de_var 2) de_int (fun _ _ => rfl)) (da_cons (de_ix ix_seq ok_ix (de_var 2) de_int (fun _ _ => rfl)) da_nil))))) dss_nil)
   (dss_cons (ds_if (dt_cmp op_gt (fun _ => ok_gt) (de_var 0) de_int (nomark _)) (dss_one (ds_ret (de_call G__law_turned (hr.mono (by decide)) rfl D__law_turned.g D__law_turned.F.kp D__law_turned.b pass3 (da_cons (de_op op_mod (fun _ => ok_mod) (de_op op_sub (fun _ => ok_sub) (de_op op_add3 ok_add (de_var 1) (de_var 0)) de_int) de_int) (da_cons (de_var 2) da_nil))))) dss_nil)
   (dss_one (ds_ret (de_var 2)))))
theorem ok__law_is {f : Addr} {fd : FuncData} (F : Fun K "_law_is" "_law_is" s__law_is f fd) (T : Txt K mg) (O : Obs K mg c_Standing c_Lying c_Turned f_Standing_spot f_Lying_spot f_Turned___init__ f_Turned_spot f_Standing_box) {f__law_whole : Addr} {fd__law_whole : FuncData} (D__law_whole : Def K mg "_law_whole" s__law_whole ["_law_found"] f__law_whole fd__law_whole) (G__law_whole : FnOk P w K mg base CX0 1 f__law_whole fd__law_whole ["_law_found"] (sp3 K mg fn__law_whole)) : FnOk P w K mg base CX0 2 f fd ["_law_found", "_law_due"] (sp3 K mg fn__law_is) := by
 refine fn3' (N := ["_law_found", "_law_due", "_law_whole_here"]) (k := 1) (body := bd__law_is) rfl rfl rfl F sc__law_is fun cdv A outer s H E hr => ?_
 unfold bd__law_is
 exact (dss_cons (ds_if (dt_w (dw_or (dt_not (dt_val (de_isi rfl T.z_isinstance rfl T.z_tuple bt_tuple (de_var 0)))) (dw_or1 (dt_cmp (op_ne3 hr.units) ok_ne (de_cb call_len3 ok_len rfl T.z_len PySem.boot_len (da_cons (de_var 0) da_nil)) (de_cb call_len3 ok_len rfl T.z_len PySem.boot_len (da_cons (de_var 1) da_nil)) (nomark _))))) (dss_one (ds_ret de_bl)) dss_nil)
   (dss_cons (ds_setC (i := 2) (sc := (defScope s__law_is)) (outs := []) (is := [0]) ["_law_number_here"] (fun _ _ _ q => d_sh q) sc__law_is.nd rfl (Or.inl rfl) ⟨rfl, rfl, by decide +kernel, by decide +kernel, by decide +kernel, trivial⟩ rfl (by decide) (di_tup (de_var 0)) (fun _ _ _ _ _ => (dg_name (i := 0) (show List.Nodup (["_law_number_here"] : List Str) by decide +kernel) rfl (Or.inl rfl))) (fun _ _ _ _ _ => (df_one (dt_val (de_call G__law_whole (hr.mono (by decide)) rfl D__law_whole.g D__law_whole.F.kp D__law_whole.b pass3 (da_cons (de_var 0) da_nil))))) (fun _ _ _ _ _ => (de_var 0)))
   (dss_one (ds_ret (de_and (de_cmp (op_eq3 hr.units) ok_eq (de_cb call_len3 ok_len rfl T.z_len PySem.boot_len (da_cons (de_var 2) da_nil)) (de_cb call_len3 ok_len rfl T.z_len PySem.boot_len (da_cons (de_var 1) da_nil)) (nomark _)) (de_one (de_cmp (op_eq3 hr.units) ok_eq (de_var 0) (de_var 1) (nomark _))))))))
theorem ok_Turned_spot {f : Addr} {fd : FuncData} (F : Fun K "spot" "Turned.spot" s_Turned_spot f fd) (T : Txt K mg) (O : Obs K mg c_Standing c_Lying c_Turned f_Standing_spot f_Lying_spot f_Turned___init__ f_Turned_spot f_Standing_box) {f_turned_point : Addr} {fd_turned_point : FuncData} (D_turned_point : Def K mg "turned_point" s_turned_point ["turn", "point"] f_turned_point fd_turned_point) (G_turned_point : FnOk P w K mg base CX0 2 f_turned_point fd_turned_point ["turn", "point"] (sp3 K mg fn_turned_point)) : FnOk P w K mg base CX0 3 f fd ["self", "point"] (sp3 K mg fn_Turned_spot) := by
 refine fn3' (N := ["self", "point"]) (k := 2) (body := bd_Turned_spot) rfl rfl rfl F sc_Turned_spot fun cdv A outer s H E hr => ?_
 unfold bd_Turned_spot
 exact (dss_one (ds_ret (de_call G_turned_point (hr.mono (by decide)) rfl D_turned_point.g D_turned_point.F.kp D_turned_point.b pass3 (da_cons (de_fld (tb := fun nm => decide (nm = "Turned")) (one_cls O.a_Turned ⟨O.i_Turned.c, O.na_Turned_turn⟩) (de_var 0)) (da_cons (de_var 1) da_nil)))))
theorem ok__law_box {f : Addr} {fd : FuncData} (F : Fun K "_law_box" "_law_box" s__law_box f fd) (T : Txt K mg) (O : Obs K mg c_Standing c_Lying c_Turned f_Standing_spot f_Lying_spot f_Turned___init__ f_Turned_spot f_Standing_box) {f__law_spot : Addr} {fd__law_spot : FuncData} (D__law_spot : Def K mg "_law_spot" s__law_spot ["_law_kind", "_law_turn", "_law_point"] f__law_spot fd__law_spot) (G__law_spot : FnOk P w K mg base CX0 2 f__law_spot fd__law_spot ["_law_kind", "_law_turn", "_law_point"] (sp3 K mg fn__law_spot)) : FnOk P w K mg base CX0 3 f fd ["_law_kind", "_law_turn", "_law_box_here"] (sp3 K mg fn__law_box) := by
 refine fn3' (N := ["_law_kind", "_law_turn", "_law_box_here", "_law_xs", "_law_ys", "_law_x", "_law_y", "_law_spot_here"]) (k := 2) (body := bd__law_box) rfl rfl rfl F sc__law_box fun cdv A outer s H E hr => ?_
 unfold bd__law_box
 exact (dss_cons (ds_set (i := 3) sc__law_box.nd rfl (Or.inl rfl) (de_lst da_nil))
   (dss_cons (ds_set (i := 4) sc__law_box.nd rfl (Or.inl rfl) (de_lst da_nil))
   (dss_cons (ds_for rfl PassesOwn.never (di_list (de_lst (da_cons (de_ix ix_seq ok_ix (de_var 2) de_int (fun _ _ => rfl)) (da_cons (de_ix ix_seq ok_ix (de_var 2) de_int (fun _ _ => rfl)) da_nil)))) (dg_name (i := 5) sc__law_box.nd rfl (Or.inl rfl)) (dss_one (ds_for rfl PassesOwn.never (di_list (de_lst (da_cons (de_ix ix_seq ok_ix (de_var 2) de_int (fun _ _ => rfl)) (da_cons (de_ix ix_seq ok_ix (de_var 2) de_int (fun _ _ => rfl)) da_nil)))) (dg_name (i := 6) sc__law_box.nd rfl (Or.inl rfl)) (dss_cons (ds_set (i := 7) sc__law_box.nd rfl (Or.inl rfl) (de_sh (de_call G__law_spot (hr.mono (by decide)) rfl D__law_spot.g D__law_spot.F.kp D__law_spot.b pass3 (da_cons (de_var 0) (da_cons (de_var 1) (da_cons (de_tup (da_cons (de_var 5) (da_cons (de_var 6) da_nil))) da_nil))))))
   (dss_cons (ds_app 3 (de_ix ix_seq ok_ix (de_var 7) de_int (fun _ _ => rfl)))
   (dss_one (ds_app 4 (de_ix ix_seq ok_ix (de_var 7) de_int (fun _ _ => rfl)))))))))
   (dss_one (ds_frz 4 (ds_frz 3 (ds_ret (de_tup (da_cons (de_cb (call_minK _ rfl rfl) ok_minL rfl T.z_min PyProof.Rows.boot_min (da_cons (de_var 3) da_nil)) (da_cons (de_cb (call_minK _ rfl rfl) ok_minL rfl T.z_min PyProof.Rows.boot_min (da_cons (de_var 4) da_nil)) (da_cons (de_cb (call_maxK _ rfl rfl) ok_maxL rfl T.z_max PyProof.Rows.boot_max (da_cons (de_var 3) da_nil)) (da_cons (de_cb (call_maxK _ rfl rfl) ok_maxL rfl T.z_max PyProof.Rows.boot_max (da_cons (de_var 4) da_nil)) da_nil))))))))))))
theorem ok_Standing_box {f : Addr} {fd : FuncData} (F : Fun K "box" "Standing.box" s_Standing_box f fd) (T : Txt K mg) (O : Obs K mg c_Standing c_Lying c_Turned f_Standing_spot f_Lying_spot f_Turned___init__ f_Turned_spot f_Standing_box) {fd_Standing_spot : FuncData} (D_Standing_spot : DefM K "spot" "Standing.spot" s_Standing_spot ["self", "point"] f_Standing_spot fd_Standing_spot) (G_Standing_spot : FnOk P w K mg base CX0 1 f_Standing_spot fd_Standing_spot ["self", "point"] (sp3 K mg fn_Standing_spot)) {fd_Lying_spot : FuncData} (D_Lying_spot : DefM K "spot" "Lying.spot" s_Lying_spot ["self", "point"] f_Lying_spot fd_Lying_spot) (G_Lying_spot : FnOk P w K mg base CX0 1 f_Lying_spot fd_Lying_spot ["self", "point"] (sp3 K mg fn_Lying_spot)) {fd_Turned_spot : FuncData} (D_Turned_spot : DefM K "spot" "Turned.spot" s_Turned_spot ["self", "point"] f_Turned_spot fd_Turned_spot) (G_Turned_spot : FnOk P w K mg base CX0 3 f_Turned_spot fd_Turned_spot ["self", "point"] (sp3 K mg fn_Turned_spot)) : FnOk P w K mg base CX0 4 f fd ["self", "box"] (sp3 K mg fn_Standing_box) := by
 refine fn3' (N := ["self", "box", "one", "other"]) (k := 3) (body := bd_Standing_box) rfl rfl rfl F sc_Standing_box fun cdv A outer s H E hr => ?_
 unfold bd_Standing_box
 exact (dss_cons (ds_set (i := 2) sc_Standing_box.nd rfl (Or.inl rfl) (de_sh (de_meth (tb := (fun nm => List.lookup nm [("Standing", fn_Standing_spot), ("Lying", fn_Lying_spot), ("Turned", fn_Turned_spot)])) (k := 3) (tbl_cons O.a_Standing ⟨_, ⟨O.i_Standing.c, O.me_Standing_spot, ⟨_, _, FnOk.mono (k := 3) G_Standing_spot (by decide), D_Standing_spot.b⟩⟩⟩ (tbl_cons O.a_Lying ⟨_, ⟨O.i_Lying.c, O.me_Lying_spot, ⟨_, _, FnOk.mono (k := 3) G_Lying_spot (by decide), D_Lying_spot.b⟩⟩⟩ (tbl_cons O.a_Turned ⟨_, ⟨O.i_Turned.c, O.me_Turned_spot, ⟨_, _, FnOk.mono (k := 3) G_Turned_spot (by decide), D_Turned_spot.b⟩⟩⟩ tbl_nil))) (hr.mono (by decide)) pass3 (de_var 0) (da_cons (de_tup (da_cons (de_ix ix_seq ok_ix (de_var 1) de_int (fun _ _ => rfl)) (da_cons (de_ix ix_seq ok_ix (de_var 1) de_int (fun _ _ => rfl)) da_nil))) da_nil))))
   (dss_cons (ds_set (i := 3) sc_Standing_box.nd rfl (Or.inl rfl) (de_sh (de_meth (tb := (fun nm => List.lookup nm [("Standing", fn_Standing_spot), ("Lying", fn_Lying_spot), ("Turned", fn_Turned_spot)])) (k := 3) (tbl_cons O.a_Standing ⟨_, ⟨O.i_Standing.c, O.me_Standing_spot, ⟨_, _, FnOk.mono (k := 3) G_Standing_spot (by decide), D_Standing_spot.b⟩⟩⟩ (tbl_cons O.a_Lying ⟨_, ⟨O.i_Lying.c, O.me_Lying_spot, ⟨_, _, FnOk.mono (k := 3) G_Lying_spot (by decide), D_Lying_spot.b⟩⟩⟩ (tbl_cons O.a_Turned ⟨_, ⟨O.i_Turned.c, O.me_Turned_spot, ⟨_, _, FnOk.mono (k := 3) G_Turned_spot (by decide), D_Turned_spot.b⟩⟩⟩ tbl_nil))) (hr.mono (by decide)) pass3 (de_var 0) (da_cons (de_tup (da_cons (de_ix ix_seq ok_ix (de_var 1) de_int (fun _ _ => rfl)) (da_cons (de_ix ix_seq ok_ix (de_var 1) de_int (fun _ _ => rfl)) da_nil))) da_nil))))
   (dss_one (ds_ret (de_tup (da_cons (de_cb (call_min2 rfl) (fun _ => ok_min2) rfl T.z_min PyProof.Rows.boot_min (da_cons (de_ix ix_seq ok_ix (de_var 2) de_int (fun _ _ => rfl)) (da_cons (de_ix ix_seq ok_ix (de_var 3) de_int (fun _ _ => rfl)) da_nil))) (da_cons (de_cb (call_min2 rfl) (fun _ => ok_min2) rfl T.z_min PyProof.Rows.boot_min (da_cons (de_ix ix_seq ok_ix (de_var 2) de_int (fun _ _ => rfl)) (da_cons (de_ix ix_seq ok_ix (de_var 3) de_int (fun _ _ => rfl)) da_nil))) (da_cons (de_cb (call_max2 rfl) (fun _ => ok_max2) rfl T.z_max PyProof.Rows.boot_max (da_cons (de_ix ix_seq ok_ix (de_var 2) de_int (fun _ _ => rfl)) (da_cons (de_ix ix_seq ok_ix (de_var 3) de_int (fun _ _ => rfl)) da_nil))) (da_cons (de_cb (call_max2 rfl) (fun _ => ok_max2) rfl T.z_max PyProof.Rows.boot_max (da_cons (de_ix ix_seq ok_ix (de_var 2) de_int (fun _ _ => rfl)) (da_cons (de_ix ix_seq ok_ix (de_var 3) de_int (fun _ _ => rfl)) da_nil))) da_nil)))))))))
theorem ok_law {f : Addr} {fd : FuncData} (F : Fun K "law" "law" s_law f fd) (T : Txt K mg) (O : Obs K mg c_Standing c_Lying c_Turned f_Standing_spot f_Lying_spot f_Turned___init__ f_Turned_spot f_Standing_box) {fd_Standing_spot : FuncData} (D_Standing_spot : DefM K "spot" "Standing.spot" s_Standing_spot ["self", "point"] f_Standing_spot fd_Standing_spot) (G_Standing_spot : FnOk P w K mg base CX0 1 f_Standing_spot fd_Standing_spot ["self", "point"] (sp3 K mg fn_Standing_spot)) {fd_Standing_box : FuncData} (D_Standing_box : DefM K "box" "Standing.box" s_Standing_box ["self", "box"] f_Standing_box fd_Standing_box) (G_Standing_box : FnOk P w K mg base CX0 4 f_Standing_box fd_Standing_box ["self", "box"] (sp3 K mg fn_Standing_box)) {fd_Lying_spot : FuncData} (D_Lying_spot : DefM K "spot" "Lying.spot" s_Lying_spot ["self", "point"] f_Lying_spot fd_Lying_spot) (G_Lying_spot : FnOk P w K mg base CX0 1 f_Lying_spot fd_Lying_spot ["self", "point"] (sp3 K mg fn_Lying_spot)) {fd_Turned___init__ : FuncData} (D_Turned___init__ : DefM K "__init__" "Turned.__init__" s_Turned___init__ ["self", "turn"] f_Turned___init__ fd_Turned___init__) (G_Turned___init__ : FnOk P w K mg base CX0 1 f_Turned___init__ fd_Turned___init__ ["self", "turn"] (spI K "turn")) {fd_Turned_spot : FuncData} (D_Turned_spot : DefM K "spot" "Turned.spot" s_Turned_spot ["self", "point"] f_Turned_spot fd_Turned_spot) (G_Turned_spot : FnOk P w K mg base CX0 3 f_Turned_spot fd_Turned_spot ["self", "point"] (sp3 K mg fn_Turned_spot)) {f__law_cell : Addr} {fd__law_cell : FuncData} (D__law_cell : Def K mg "_law_cell" s__law_cell ["_law_script", "_law_k"] f__law_cell fd__law_cell) (G__law_cell : FnOk P w K mg base CX0 1 f__law_cell fd__law_cell ["_law_script", "_law_k"] (sp3 K mg fn__law_cell)) {f__law_spot : Addr} {fd__law_spot : FuncData} (D__law_spot : Def K mg "_law_spot" s__law_spot ["_law_kind", "_law_turn", "_law_point"] f__law_spot fd__law_spot) (G__law_spot : FnOk P w K mg base CX0 2 f__law_spot fd__law_spot ["_law_kind", "_law_turn", "_law_point"] (sp3 K mg fn__law_spot)) {f__law_box : Addr} {fd__law_box : FuncData} (D__law_box : Def K mg "_law_box" s__law_box ["_law_kind", "_law_turn", "_law_box_here"] f__law_box fd__law_box) (G__law_box : FnOk P w K mg base CX0 3 f__law_box fd__law_box ["_law_kind", "_law_turn", "_law_box_here"] (sp3 K mg fn__law_box)) {f__law_is : Addr} {fd__law_is : FuncData} (D__law_is : Def K mg "_law_is" s__law_is ["_law_found", "_law_due"] f__law_is fd__law_is) (G__law_is : FnOk P w K mg base CX0 2 f__law_is fd__law_is ["_law_found", "_law_due"] (sp3 K mg fn__law_is)) {f__law_number : Addr} {fd__law_number : FuncData} (D__law_number : Def K mg "_law_number" s__law_number ["_law_cell_here"] f__law_number fd__law_number) (G__law_number : FnOk P w K mg base CX0 1 f__law_number fd__law_number ["_law_cell_here"] (sp3 K mg fn__law_number)) : FnOk P w K mg base CX0 5 f fd ["_law_script"] (sp3 K mg fn_law) := by
 refine fn3' (N := ["_law_script", "_law_turn", "_law_lays", "_law_point", "_law_left", "_law_top", "_law_box_here", "_law_step", "_law_kind", "_law_lay"]) (k := 4) (body := bd_law) rfl rfl rfl F sc_law fun cdv A outer s H E hr => ?_
 unfold bd_law
 exact (dss_cons (ds_set (i := 1) sc_law.nd rfl (Or.inl rfl) (de_op op_mod (fun _ => ok_mod) (de_call G__law_cell (hr.mono (by decide)) rfl D__law_cell.g D__law_cell.F.kp D__law_cell.b pass3 (da_cons (de_var 0) (da_cons de_int da_nil))) de_int))
   (dss_cons (ds_set (i := 2) sc_law.nd rfl (Or.inl rfl) (de_sh (de_lst (da_cons (de_new0 O.a_Standing O.mk_Standing rfl O.m_Standing) (da_cons (de_new0 O.a_Lying O.mk_Lying rfl O.m_Lying) (da_cons (de_new1 O.a_Turned O.i_Turned.c O.na_Turned_turn O.mk_Turned G_Turned___init__ (hr.mono (by decide)) rfl O.m_Turned D_Turned___init__.b pass3 (da_cons (de_var 1) da_nil)) (da_cons (de_new1 O.a_Turned O.i_Turned.c O.na_Turned_turn O.mk_Turned G_Turned___init__ (hr.mono (by decide)) rfl O.m_Turned D_Turned___init__.b pass3 (da_cons (de_op op_mod (fun _ => ok_mod) (de_op op_add3 ok_add (de_var 1) de_int) de_int) da_nil)) da_nil)))))))
   (dss_cons (ds_set (i := 3) sc_law.nd rfl (Or.inl rfl) (de_sh (de_tup (da_cons (de_sh (de_call G__law_number (hr.mono (by decide)) rfl D__law_number.g D__law_number.F.kp D__law_number.b pass3 (da_cons (de_call G__law_cell (hr.mono (by decide)) rfl D__law_cell.g D__law_cell.F.kp D__law_cell.b pass3 (da_cons (de_var 0) (da_cons de_int da_nil))) da_nil))) (da_cons (de_sh (de_call G__law_number (hr.mono (by decide)) rfl D__law_number.g D__law_number.F.kp D__law_number.b pass3 (da_cons (de_call G__law_cell (hr.mono (by decide)) rfl D__law_cell.g D__law_cell.F.kp D__law_cell.b pass3 (da_cons (de_var 0) (da_cons de_int da_nil))) da_nil))) da_nil)))))
   (dss_cons (ds_set (i := 4) sc_law.nd rfl (Or.inl rfl) (de_sh (de_call G__law_number (hr.mono (by decide)) rfl D__law_number.g D__law_number.F.kp D__law_number.b pass3 (da_cons (de_call G__law_cell (hr.mono (by decide)) rfl D__law_cell.g D__law_cell.F.kp D__law_cell.b pass3 (da_cons (de_var 0) (da_cons de_int da_nil))) da_nil))))
   (dss_cons (ds_set (i := 5) sc_law.nd rfl (Or.inl rfl) (de_sh (de_call G__law_number (hr.mono (by decide)) rfl D__law_number.g D__law_number.F.kp D__law_number.b pass3 (da_cons (de_call G__law_cell (hr.mono (by decide)) rfl D__law_cell.g D__law_cell.F.kp D__law_cell.b pass3 (da_cons (de_var 0) (da_cons de_int da_nil))) da_nil))))
   (dss_cons (ds_set (i := 6) sc_law.nd rfl (Or.inl rfl) (de_sh (de_tup (da_cons (de_var 4) (da_cons (de_var 5) (da_cons (de_op op_add3 ok_add (de_op op_add3 ok_add (de_var 4) de_int) (de_op op_mod (fun _ => ok_mod) (de_call G__law_cell (hr.mono (by decide)) rfl D__law_cell.g D__law_cell.F.kp D__law_cell.b pass3 (da_cons (de_var 0) (da_cons de_int da_nil))) (de_op op_pow (fun _ => ok_pow) de_int de_int))) (da_cons (de_op op_add3 ok_add (de_op op_add3 ok_add (de_var 5) de_int) (de_op op_mod (fun _ => ok_mod) (de_call G__law_cell (hr.mono (by decide)) rfl D__law_cell.g D__law_cell.F.kp D__law_cell.b pass3 (da_cons (de_var 0) (da_cons de_int da_nil))) (de_op op_pow (fun _ => ok_pow) de_int de_int))) da_nil)))))))
   (dss_cons (ds_for rfl PassesOwn.never (di_r1 rfl T.z_range de_int) (dg_name (i := 7) sc_law.nd rfl (Or.inl rfl)) (dss_cons (ds_for rfl PassesOwn.never (di_r1 rfl T.z_range de_int) (dg_name (i := 8) sc_law.nd rfl (Or.inl rfl)) (dss_cons (ds_if (dt_not (dt_val (de_call G__law_is (hr.mono (by decide)) rfl D__law_is.g D__law_is.F.kp D__law_is.b pass3 (da_cons (de_meth (tb := (fun nm => List.lookup nm [("Standing", fn_Standing_spot), ("Lying", fn_Lying_spot), ("Turned", fn_Turned_spot)])) (k := 3) (tbl_cons O.a_Standing ⟨_, ⟨O.i_Standing.c, O.me_Standing_spot, ⟨_, _, FnOk.mono (k := 3) G_Standing_spot (by decide), D_Standing_spot.b⟩⟩⟩ (tbl_cons O.a_Lying ⟨_, ⟨O.i_Lying.c, O.me_Lying_spot, ⟨_, _, FnOk.mono (k := 3) G_Lying_spot (by decide), D_Lying_spot.b⟩⟩⟩ (tbl_cons O.a_Turned ⟨_, ⟨O.i_Turned.c, O.me_Turned_spot, ⟨_, _, FnOk.mono (k := 3) G_Turned_spot (by decide), D_Turned_spot.b⟩⟩⟩ tbl_nil))) (hr.mono (by decide)) pass3 (de_ix ix_seq ok_ix (de_var 2) (de_var 8) (fun _ _ => rfl)) (da_cons (de_var 3) da_nil)) (da_cons (de_call G__law_spot (hr.mono (by decide)) rfl D__law_spot.g D__law_spot.F.kp D__law_spot.b pass3 (da_cons (de_var 8) (da_cons (de_var 1) (da_cons (de_var 3) da_nil)))) da_nil))))) (dss_one (ds_ret de_bl)) dss_nil)
   (dss_one (ds_if (dt_not (dt_val (de_call G__law_is (hr.mono (by decide)) rfl D__law_is.g D__law_is.F.kp D__law_is.b pass3 (da_cons (de_meth (tb := (fun nm => List.lookup nm [("Standing", fn_Standing_box), ("Lying", fn_Standing_box), ("Turned", fn_Standing_box)])) (k := 4) (tbl_cons O.a_Standing ⟨_, ⟨O.i_Standing.c, O.me_Standing_box, ⟨_, _, FnOk.mono (k := 4) G_Standing_box (by decide), D_Standing_box.b⟩⟩⟩ (tbl_cons O.a_Lying ⟨_, ⟨O.i_Lying.c, O.me_Lying_box, ⟨_, _, FnOk.mono (k := 4) G_Standing_box (by decide), D_Standing_box.b⟩⟩⟩ (tbl_cons O.a_Turned ⟨_, ⟨O.i_Turned.c, O.me_Turned_box, ⟨_, _, FnOk.mono (k := 4) G_Standing_box (by decide), D_Standing_box.b⟩⟩⟩ tbl_nil))) (hr.mono (by decide)) pass3 (de_ix ix_seq ok_ix (de_var 2) (de_var 8) (fun _ _ => rfl)) (da_cons (de_var 6) da_nil)) (da_cons (de_call G__law_box (hr.mono (by decide)) rfl D__law_box.g D__law_box.F.kp D__law_box.b pass3 (da_cons (de_var 8) (da_cons (de_var 1) (da_cons (de_var 6) da_nil)))) da_nil))))) (dss_one (ds_ret de_bl)) dss_nil))))
   (dss_cons (ds_set (i := 3) sc_law.nd rfl (Or.inl rfl) (de_tup (da_cons (de_ix ix_seq ok_ix (de_var 6) de_int (fun _ _ => rfl)) (da_cons (de_ix ix_seq ok_ix (de_var 3) de_int (fun _ _ => rfl)) da_nil))))
   (dss_one (ds_set (i := 6) sc_law.nd rfl (Or.inl rfl) (de_sh (de_tup (da_cons (de_op op_sub (fun _ => ok_sub) (de_ix ix_seq ok_ix (de_var 6) de_int (fun _ _ => rfl)) de_int) (da_cons (de_ix ix_seq ok_ix (de_var 6) de_int (fun _ _ => rfl)) (da_cons (de_ix ix_seq ok_ix (de_var 6) de_int (fun _ _ => rfl)) (da_cons (de_op op_add3 ok_add (de_ix ix_seq ok_ix (de_var 6) de_int (fun _ _ => rfl)) de_int) da_nil)))))))))))
   (dss_cons (ds_for rfl PassesOwn.never (di_list (de_sl sl_list ok_slc (de_var 2) (do_some de_int) do_none)) (dg_name (i := 9) sc_law.nd rfl (Or.inl rfl)) (dss_one (ds_if (dt_not (dt_val (de_isC (tb := (fun nm => List.lookup nm [("Standing", true), ("Lying", true), ("Turned", true)])) (tbl_cons O.a_Standing ⟨O.i_Standing, O.q_Standing_Standing⟩ (tbl_cons O.a_Lying ⟨O.i_Lying, O.q_Lying_Standing⟩ (tbl_cons O.a_Turned ⟨O.i_Turned, O.q_Turned_Standing⟩ tbl_nil))) rfl T.z_isinstance rfl O.m_Standing (de_var 9)))) (dss_one (ds_ret de_bl)) dss_nil)))
   (dss_one (ds_ret (de_and (de_isC (tb := (fun nm => List.lookup nm [("Standing", false), ("Lying", true), ("Turned", false)])) (tbl_cons O.a_Standing ⟨O.i_Standing, O.q_Standing_Lying⟩ (tbl_cons O.a_Lying ⟨O.i_Lying, O.q_Lying_Lying⟩ (tbl_cons O.a_Turned ⟨O.i_Turned, O.q_Turned_Lying⟩ tbl_nil))) rfl T.z_isinstance rfl O.m_Lying (de_ix ix_seq ok_ix (de_var 2) de_int (fun _ _ => rfl))) (de_and (de_not (de_isC (tb := (fun nm => List.lookup nm [("Standing", false), ("Lying", false), ("Turned", true)])) (tbl_cons O.a_Standing ⟨O.i_Standing, O.q_Standing_Turned⟩ (tbl_cons O.a_Lying ⟨O.i_Lying, O.q_Lying_Turned⟩ (tbl_cons O.a_Turned ⟨O.i_Turned, O.q_Turned_Turned⟩ tbl_nil))) rfl T.z_isinstance rfl O.m_Turned (de_ix ix_seq ok_ix (de_var 2) de_int (fun _ _ => rfl)))) (de_one (de_not (de_isC (tb := (fun nm => List.lookup nm [("Standing", false), ("Lying", true), ("Turned", false)])) (tbl_cons O.a_Standing ⟨O.i_Standing, O.q_Standing_Lying⟩ (tbl_cons O.a_Lying ⟨O.i_Lying, O.q_Lying_Lying⟩ (tbl_cons O.a_Turned ⟨O.i_Turned, O.q_Turned_Lying⟩ tbl_nil))) rfl T.z_isinstance rfl O.m_Lying (de_ix ix_seq ok_ix (de_var 2) de_int (fun _ _ => rfl)))))))))))))))))
end
noncomputable def pt (p : Int × Int) : PyData := .tuple [.int p.1, .int p.2]
noncomputable def rotN : Nat → Int × Int → Int × Int
 | 0, p => p
 | n + 1, p => (-(rotN n p).2, (rotN n p).1)
noncomputable def flp (t : Int) (p : Int × Int) : Int × Int := if 4 ≤ t then (-p.1, p.2) else p
noncomputable def tp (t : Int) (p : Int × Int) : Int × Int := rotN (t % 4).toNat (flp t p)
theorem ones {t : Int} (h0 : 0 ≤ t) (h1 : t < 8) : t = 0 ∨ t = 1 ∨ t = 2 ∨ t = 3 ∨ t = 4 ∨ t = 5 ∨ t = 6 ∨ t = 7 := by lia
theorem flips_ok (t : Int) : fn_flips [.int t] = .ok (.sh (.bool (decide (4 ≤ t)))) := by
 unfold fn_flips bd_flips
 push_cast only [and_self]
theorem tp_fn (t : Int) (p : Int × Int) (h0 : 0 ≤ t) (h1 : t < 8) : fn_turned_point [.int t, pt p] = .ok (.sh (pt (tp t p))) := by
 unfold fn_turned_point bd_turned_point pt
 have hm := emod_r t (show (0 : Int) < 4 by decide)
 have s1 : small62 (t % 4) = true := sm62 (by lia) (by lia)
 by_cases h : 4 ≤ t
 ·push_cast only [flips_ok, decide_eq_true h, s1]
  generalize hL : loopF _ _ _ _ = r
  refine loop_k hL (fun i ρ => ∃ v, ρ = [some (.sh (.int t)), some (.sh (.tuple [.int p.1, .int p.2])), some (.sh (.tuple [.int (rotN i (-p.1, p.2)).1, .int (rotN i (-p.1, p.2)).2])), v]) ⟨_, rfl⟩ ?_ ?_
  ·rintro i d ρ hd ⟨v, rfl⟩
   push_cast only [and_self]
   exact ⟨_, rfl⟩
  ·rintro ρ' rfl ⟨v, rfl⟩
   rw [rngD_len]
   push_cast only [and_self]
   unfold tp flp
   rw [if_pos h]
 ·push_cast only [flips_ok, decide_eq_false h, s1]
  generalize hL : loopF _ _ _ _ = r
  refine loop_k hL (fun i ρ => ∃ v, ρ = [some (.sh (.int t)), some (.sh (.tuple [.int p.1, .int p.2])), some (.sh (.tuple [.int (rotN i p).1, .int (rotN i p).2])), v]) ⟨_, rfl⟩ ?_ ?_
  ·rintro i d ρ hd ⟨v, rfl⟩
   push_cast only [and_self]
   exact ⟨_, rfl⟩
  ·rintro ρ' rfl ⟨v, rfl⟩
   rw [rngD_len]
   push_cast only [and_self]
   unfold tp flp
   rw [if_neg h]
theorem at3 (a b c d : PyData) (xs : List PyData) : atI (a :: b :: c :: d :: xs) 3 = some d := by
 have : atI (a :: b :: c :: d :: xs) ((3 : Nat) : Int) = some d := atI_nat rfl
 exact this
theorem lt_fn (t : Int) (p : Int × Int) (h0 : 0 ≤ t) (h1 : t < 8) : fn__law_turned [.int t, pt p] = .ok (.sh (pt (tp t p))) := by
 unfold fn__law_turned bd__law_turned pt
 obtain ⟨x, y⟩ := p
 rcases ones h0 h1 with rfl | rfl | rfl | rfl | rfl | rfl | rfl | rfl
 all_goals have c1 : cmulB x 1 = true := cm_r (by decide) (by decide)
 all_goals have c2 : cmulB x (-1) = true := cm_r (by decide) (by decide)
 all_goals push_cast only [c1, c2, Int.reduceDiv, Int.reduceMod, at3]
 all_goals simp [tp, flp, rotN]
theorem cell_ok5 (ns : List Int) (hb : Bits ns) (k : Int) (h0 : 0 ≤ k) (h1 : k < 1000000) : ∃ z, bitsOk z = true ∧ fn__law_cell [.list (ns.map PyData.int), .int k] = .ok (.sh (.int z)) := by
 unfold fn__law_cell bd__law_cell
 by_cases hk : k < (ns.length : Int)
 ·obtain ⟨x, e1, e2⟩ := at_int (ns.map PyData.int) k h0 (by simpa using hk)
  rw [List.getElem?_map] at e1
  obtain ⟨z, hz, rfl⟩ := Option.map_eq_some_iff.mp e1
  exact ⟨z, hb z (List.mem_of_getElem? hz), by push_cast only [decide_eq_true hk, e2]⟩
 ·by_cases hl : (0 : Int) < ns.length
  ·have hm := emod_r k hl
   obtain ⟨x, e1, e2⟩ := at_int (ns.map PyData.int) (k % (ns.length : Int)) hm.1 (by simpa using hm.2)
   rw [List.getElem?_map] at e1
   obtain ⟨z, _, rfl⟩ := Option.map_eq_some_iff.mp e1
   have h2 := emod_r (z * 48271 + k * 7919) (show (0 : Int) < 2147483647 by decide)
   have c2 : cmulB ((z * 48271 + k * 7919) % 2147483647) ((z * 48271 + k * 7919) % 2147483647) = true := cm_l (by lia) (by lia)
   have h3 := emod_r ((z * 48271 + k * 7919) % 2147483647 * ((z * 48271 + k * 7919) % 2147483647)) (show (0 : Int) < 2147483629 by decide)
   refine ⟨(z * 48271 + k * 7919) % 2147483647 * ((z * 48271 + k * 7919) % 2147483647) % 2147483629, bitsOk_small (by lia) (by lia), ?_⟩
   push_cast only [decide_eq_false hk, decide_eq_true hl, hl, e2, c2]
  ·have c2 : cmulB (7919 * k + 5) (7919 * k + 5) = true := cm_l (by lia) (by lia)
   have h3 := emod_r ((7919 * k + 5) * (7919 * k + 5)) (show (0 : Int) < 2147483629 by decide)
   refine ⟨(7919 * k + 5) * (7919 * k + 5) % 2147483629, bitsOk_small (by lia) (by lia), ?_⟩
   push_cast only [decide_eq_false hk, decide_eq_false hl, c2]
noncomputable def bx (a b c d : Int) : PyData := .tuple [.int a, .int b, .int c, .int d]
noncomputable def oS : PyData := iD "Standing" []
noncomputable def oL : PyData := iD "Lying" []
noncomputable def oT (t : Int) : PyData := iD "Turned" [("turn", .int t)]
theorem oS_e : iD "Standing" [] = oS := rfl
theorem oL_e : iD "Lying" [] = oL := rfl
theorem oT_e (t : Int) : iD "Turned" [("turn", .int t)] = oT t := rfl
theorem fT (t : Int) : fldK (fun nm => decide (nm = "Turned")) "turn" (oT t) = .ok (.sh (.int t)) := rfl
theorem mS (r : R (List OD)) : mtK (fun nm => List.lookup nm [("Standing", fn_Standing_spot), ("Lying", fn_Lying_spot), ("Turned", fn_Turned_spot)]) "spot" r oS = unK (fun xs => fn_Standing_spot (oS :: xs.map OD.er)) r := rfl
theorem mL (r : R (List OD)) : mtK (fun nm => List.lookup nm [("Standing", fn_Standing_spot), ("Lying", fn_Lying_spot), ("Turned", fn_Turned_spot)]) "spot" r oL = unK (fun xs => fn_Lying_spot (oL :: xs.map OD.er)) r := rfl
theorem mT (t : Int) (r : R (List OD)) : mtK (fun nm => List.lookup nm [("Standing", fn_Standing_spot), ("Lying", fn_Lying_spot), ("Turned", fn_Turned_spot)]) "spot" r (oT t) = unK (fun xs => fn_Turned_spot (oT t :: xs.map OD.er)) r := rfl
theorem bS (r : R (List OD)) : mtK (fun nm => List.lookup nm [("Standing", fn_Standing_box), ("Lying", fn_Standing_box), ("Turned", fn_Standing_box)]) "box" r oS = unK (fun xs => fn_Standing_box (oS :: xs.map OD.er)) r := rfl
theorem bL (r : R (List OD)) : mtK (fun nm => List.lookup nm [("Standing", fn_Standing_box), ("Lying", fn_Standing_box), ("Turned", fn_Standing_box)]) "box" r oL = unK (fun xs => fn_Standing_box (oL :: xs.map OD.er)) r := rfl
theorem bT (t : Int) (r : R (List OD)) : mtK (fun nm => List.lookup nm [("Standing", fn_Standing_box), ("Lying", fn_Standing_box), ("Turned", fn_Standing_box)]) "box" r (oT t) = unK (fun xs => fn_Standing_box (oT t :: xs.map OD.er)) r := rfl
theorem S_spot (p : Int × Int) : fn_Standing_spot [oS, pt p] = .ok (.sh (pt p)) := by
 unfold fn_Standing_spot bd_Standing_spot
 push_cast only [and_self]
theorem L_spot (p : Int × Int) : fn_Lying_spot [oL, pt p] = .ok (.sh (pt (p.2, p.1))) := by
 unfold fn_Lying_spot bd_Lying_spot pt
 push_cast only [and_self]
theorem T_spot (t : Int) (p : Int × Int) (h0 : 0 ≤ t) (h1 : t < 8) : fn_Turned_spot [oT t, pt p] = .ok (.sh (pt (tp t p))) := by
 unfold fn_Turned_spot bd_Turned_spot
 push_cast only [v_fld, fT, tp_fn t p h0 h1]
theorem ls0 (t : Int) (p : Int × Int) : fn__law_spot [.int 0, .int t, pt p] = .ok (.sh (pt p)) := by
 unfold fn__law_spot bd__law_spot
 push_cast only [and_self]
theorem ls1 (t : Int) (p : Int × Int) : fn__law_spot [.int 1, .int t, pt p] = .ok (.sh (pt (p.2, p.1))) := by
 unfold fn__law_spot bd__law_spot pt
 push_cast only [and_self]
theorem ls2 (t : Int) (p : Int × Int) (h0 : 0 ≤ t) (h1 : t < 8) : fn__law_spot [.int 2, .int t, pt p] = .ok (.sh (pt (tp t p))) := by
 have e : (t + 2 - 2) % 8 = t := by lia
 have h := lt_fn t p h0 h1
 unfold fn__law_spot bd__law_spot
 push_cast only [e, h]
theorem ls3 (t : Int) (p : Int × Int) (h0 : 0 ≤ t) (h1 : t < 8) : fn__law_spot [.int 3, .int t, pt p] = .ok (.sh (pt (tp ((t + 1) % 8) p))) := by
 have e : (t + 3 - 2) % 8 = (t + 1) % 8 := by lia
 have h := lt_fn ((t + 1) % 8) p (by lia) (by lia)
 unfold fn__law_spot bd__law_spot
 push_cast only [e, h]
noncomputable def mn (i j : Int) : Int := if j < i then j else i
noncomputable def mx (i j : Int) : Int := if i < j then j else i
theorem box_ok {o : PyData} {f : Fn} {g : Int × Int → Int × Int} (hm : ∀ r, mtK (fun nm => List.lookup nm [("Standing", fn_Standing_spot), ("Lying", fn_Lying_spot), ("Turned", fn_Turned_spot)]) "spot" r o = unK (fun xs => f (o :: xs.map OD.er)) r) (hg : ∀ p, f [o, pt p] = .ok (.sh (pt (g p)))) (a b c d : Int) :
  fn_Standing_box [o, bx a b c d] = .ok (.sh (bx (mn (g (a, b)).1 (g (c, d)).1) (mn (g (a, b)).2 (g (c, d)).2) (mx (g (a, b)).1 (g (c, d)).1) (mx (g (a, b)).2 (g (c, d)).2))) := by
 have h1 : f [o, .tuple [.int a, .int b]] = .ok (.sh (.tuple [.int (g (a, b)).1, .int (g (a, b)).2])) := hg (a, b)
 have h2 : f [o, .tuple [.int c, .int d]] = .ok (.sh (.tuple [.int (g (c, d)).1, .int (g (c, d)).2])) := hg (c, d)
 unfold fn_Standing_box bd_Standing_box bx mn mx
 push_cast only [v_meth, hm, h1, h2, at3]
theorem minI4 (a b c d : Int) : gMinL [.list [.int a, .int b, .int c, .int d]] = .ok (.sh (.int (minI a [b, c, d]))) := i_minL a [b, c, d]
theorem maxI4 (a b c d : Int) : gMaxL [.list [.int a, .int b, .int c, .int d]] = .ok (.sh (.int (maxI a [b, c, d]))) := i_maxL a [b, c, d]
theorem lbox_ok {k t : Int} {g : Int × Int → Int × Int} (hg : ∀ p, fn__law_spot [.int k, .int t, pt p] = .ok (.sh (pt (g p)))) (a b c d : Int) :
  fn__law_box [.int k, .int t, bx a b c d] = .ok (.sh (bx (minI (g (a, b)).1 [(g (a, d)).1, (g (c, b)).1, (g (c, d)).1]) (minI (g (a, b)).2 [(g (a, d)).2, (g (c, b)).2, (g (c, d)).2]) (maxI (g (a, b)).1 [(g (a, d)).1, (g (c, b)).1, (g (c, d)).1]) (maxI (g (a, b)).2 [(g (a, d)).2, (g (c, b)).2, (g (c, d)).2]))) := by
 have h1 : ∀ x y : Int, fn__law_spot [.int k, .int t, .tuple [.int x, .int y]] = .ok (.sh (.tuple [.int (g (x, y)).1, .int (g (x, y)).2])) := fun x y => hg (x, y)
 have l1 : ((1 : Nat) < BIG) = True := by simp [BIG]
 have l2 : ((2 : Nat) < BIG) = True := by simp [BIG]
 have l3 : ((3 : Nat) < BIG) = True := by simp [BIG]
 unfold fn__law_box bd__law_box bx
 push_cast only [l1, l2, l3, l_cons, l_nil, l_nx, h1, at3, minI4, maxI4]
theorem whole_all (xs : List Int) : (xs.filter fun _ => true).map (fun z => OD.sh (.int z)) = xs.map fun z => OD.sh (.int z) := by
 rw [List.filter_eq_self.mpr fun _ _ => rfl]
theorem is_ok (xs : List Int) (hl : xs.length ≤ 100) : fn__law_is [.tuple (xs.map PyData.int), .tuple (xs.map PyData.int)] = .ok (.sh (.bool true)) := by
 have hlay : lay 1 (.tuple (xs.map PyData.int)) := lay_tuple fun x hx => by
  obtain ⟨z, _, rfl⟩ := List.mem_map.mp hx
  exact lay_int _
 have e : gEq (.tuple (xs.map PyData.int)) (.tuple (xs.map PyData.int)) = .ok (.sh (.bool true)) := by
  unfold gEq
  rw [eqD_tuple, deep_same hlay (by decide)]
  rfl
 unfold fn__law_is bd__law_is
 push_cast only [and_self]
 generalize hC : compF _ _ _ _ _ _ = rc
 have e2 := compf_k hC PyData.int (fun _ => true) (fun z => .sh (.int z)) xs rfl (of_eq_true (le_big (by lia))) (by
  intro z _
  refine ⟨?_, fun _ => ?_⟩
  ·push_cast only [whole_int]
  ·push_cast only [and_self])
 subst e2
 rw [whole_all]
 push_cast only [e]
theorem is_pt (p : Int × Int) : fn__law_is [pt p, pt p] = .ok (.sh (.bool true)) := is_ok [p.1, p.2] (by show (2 : Nat) ≤ 100; decide)
theorem is_bx (a b c d : Int) : fn__law_is [bx a b c d, bx a b c d] = .ok (.sh (.bool true)) := is_ok [a, b, c, d] (by show (4 : Nat) ≤ 100; decide)
noncomputable def Pln (f : Int × Int → Int) : Prop := (∀ p, f p = p.1) ∨ (∀ p, f p = p.2) ∨ (∀ p, f p = -p.1) ∨ ∀ p, f p = -p.2
theorem pln_mn {f : Int × Int → Int} (h : Pln f) (a b c d : Int) : minI (f (a, b)) [f (a, d), f (c, b), f (c, d)] = mn (f (a, b)) (f (c, d)) := by
 rcases h with h | h | h | h <;> simp only [h, minI, mn, List.foldl] <;> (repeat' split) <;> lia
theorem pln_mx {f : Int × Int → Int} (h : Pln f) (a b c d : Int) : maxI (f (a, b)) [f (a, d), f (c, b), f (c, d)] = mx (f (a, b)) (f (c, d)) := by
 rcases h with h | h | h | h <;> simp only [h, maxI, mx, List.foldl] <;> (repeat' split) <;> lia
theorem pln_tp {t : Int} (h0 : 0 ≤ t) (h1 : t < 8) : Pln (fun p => (tp t p).1) ∧ Pln fun p => (tp t p).2 := by
 rcases ones h0 h1 with rfl | rfl | rfl | rfl | rfl | rfl | rfl | rfl <;> simp [Pln, tp, flp, rotN]
theorem both_ok {k t : Int} {o : PyData} {f : Fn} {g : Int × Int → Int × Int} (hm : ∀ r, mtK (fun nm => List.lookup nm [("Standing", fn_Standing_spot), ("Lying", fn_Lying_spot), ("Turned", fn_Turned_spot)]) "spot" r o = unK (fun xs => f (o :: xs.map OD.er)) r) (hg : ∀ p, f [o, pt p] = .ok (.sh (pt (g p)))) (hl : ∀ p, fn__law_spot [.int k, .int t, pt p] = .ok (.sh (pt (g p))))
  (p1 : Pln fun p => (g p).1) (p2 : Pln fun p => (g p).2) (a b c d : Int) : ∃ x y z w, fn_Standing_box [o, bx a b c d] = .ok (.sh (bx x y z w)) ∧ fn__law_box [.int k, .int t, bx a b c d] = .ok (.sh (bx x y z w)) := by
 refine ⟨_, _, _, _, box_ok hm hg a b c d, ?_⟩
 rw [lbox_ok hl]
 have e1 := pln_mn p1 a b c d
 have e2 := pln_mn p2 a b c d
 have e3 := pln_mx p1 a b c d
 have e4 := pln_mx p2 a b c d
 rw [e1, e2, e3, e4]
noncomputable def obs4 (t : Int) : List PyData := [oS, oL, oT t, oT ((t + 1) % 8)]
theorem kind_ok {t : Int} (h0 : 0 ≤ t) (h1 : t < 8) {k : Nat} (hk : k < 4) : ∃ (o : PyData) (f : Fn), (obs4 t)[k]? = some o ∧ (∀ r, mtK (fun nm => List.lookup nm [("Standing", fn_Standing_spot), ("Lying", fn_Lying_spot), ("Turned", fn_Turned_spot)]) "spot" r o = unK (fun xs => f (o :: xs.map OD.er)) r) ∧ (∀ r, mtK (fun nm => List.lookup nm [("Standing", fn_Standing_box), ("Lying", fn_Standing_box), ("Turned", fn_Standing_box)]) "box" r o = unK (fun xs => fn_Standing_box (o :: xs.map OD.er)) r) ∧
  (∀ p, ∃ q, f [o, pt p] = .ok (.sh (pt q)) ∧ fn__law_spot [.int (k : Int), .int t, pt p] = .ok (.sh (pt q))) ∧ ∀ a b c d, ∃ x y z w, fn_Standing_box [o, bx a b c d] = .ok (.sh (bx x y z w)) ∧ fn__law_box [.int (k : Int), .int t, bx a b c d] = .ok (.sh (bx x y z w)) := by
 have u0 : 0 ≤ (t + 1) % 8 := by lia
 have u1 : (t + 1) % 8 < 8 := by lia
 have q1 := pln_tp h0 h1
 have q2 := pln_tp u0 u1
 match k, hk with
 | 0, _ => exact ⟨oS, fn_Standing_spot, rfl, mS, bS, fun p => ⟨p, S_spot p, ls0 t p⟩, both_ok (g := fun p => p) mS S_spot (ls0 t) (.inl fun _ => rfl) (.inr (.inl fun _ => rfl))⟩
 | 1, _ => exact ⟨oL, fn_Lying_spot, rfl, mL, bL, fun p => ⟨_, L_spot p, ls1 t p⟩, both_ok (g := fun p => (p.2, p.1)) mL L_spot (ls1 t) (.inr (.inl fun _ => rfl)) (.inl fun _ => rfl)⟩
 | 2, _ => exact ⟨oT t, fn_Turned_spot, rfl, mT t, bT t, fun p => ⟨_, T_spot t p h0 h1, ls2 t p h0 h1⟩, both_ok (g := tp t) (mT t) (fun p => T_spot t p h0 h1) (fun p => ls2 t p h0 h1) q1.1 q1.2⟩
 | 3, _ => exact ⟨oT ((t + 1) % 8), fn_Turned_spot, rfl, mT _, bT _, fun p => ⟨_, T_spot _ p u0 u1, ls3 t p h0 h1⟩, both_ok (g := tp ((t + 1) % 8)) (mT _) (fun p => T_spot _ p u0 u1) (fun p => ls3 t p h0 h1) q2.1 q2.2⟩
theorem num_ok {z : Int} (h : bitsOk z = true) : ∃ v, fn__law_number [.int z] = .ok (.sh (.int v)) := by
 have bk : bitsOk 618970019642690137449562111 = true := by decide
 have m0 := i_mulW h bk
 have n10 : Int.natAbs 10 < 18446744073709551616 := by decide
 refine ⟨z * 618970019642690137449562111 % 2000000000000001 - 1000000000000000, ?_⟩
 unfold fn__law_number bd__law_number
 push_cast only [m0, n10]
theorem isSt (o : PyData) (h : o = oL ∨ ∃ t, o = oT t) : isCK (fun nm => List.lookup nm [("Standing", true), ("Lying", true), ("Turned", true)]) o = .ok (.sh (.bool true)) := by
 rcases h with rfl | ⟨t, rfl⟩ <;> rfl
theorem isLL : isCK (fun nm => List.lookup nm [("Standing", false), ("Lying", true), ("Turned", false)]) oL = .ok (.sh (.bool true)) := rfl
theorem isLT (t : Int) : isCK (fun nm => List.lookup nm [("Standing", false), ("Lying", true), ("Turned", false)]) (oT t) = .ok (.sh (.bool false)) := rfl
theorem isTL : isCK (fun nm => List.lookup nm [("Standing", false), ("Lying", false), ("Turned", true)]) oL = .ok (.sh (.bool false)) := rfl
theorem isTT (t : Int) : isCK (fun nm => List.lookup nm [("Standing", true), ("Lying", true), ("Turned", true)]) (oT t) = .ok (.sh (.bool true)) := rfl
theorem law_true (ns : List Int) (hlen : ns.length ≤ 63) (hb : Bits ns) : fn_law [.list (ns.map PyData.int)] = .ok (.sh (.bool true)) := by
 unfold fn_law bd_law
 obtain ⟨z0, b0, c0⟩ := cell_ok5 ns hb 0 (by decide) (by decide)
 obtain ⟨z1, b1, c1⟩ := cell_ok5 ns hb 1 (by decide) (by decide)
 obtain ⟨z2, b2, c2⟩ := cell_ok5 ns hb 2 (by decide) (by decide)
 obtain ⟨z3, b3, c3⟩ := cell_ok5 ns hb 3 (by decide) (by decide)
 obtain ⟨z4, b4, c4⟩ := cell_ok5 ns hb 4 (by decide) (by decide)
 obtain ⟨z5, b5, c5⟩ := cell_ok5 ns hb 5 (by decide) (by decide)
 obtain ⟨z6, b6, c6⟩ := cell_ok5 ns hb 6 (by decide) (by decide)
 obtain ⟨v1, n1⟩ := num_ok b1
 obtain ⟨v2, n2⟩ := num_ok b2
 obtain ⟨v3, n3⟩ := num_ok b3
 obtain ⟨v4, n4⟩ := num_ok b4
 have n10 : Int.natAbs 10 < 18446744073709551616 := by decide
 have g0 := emod_r z0 (show (0 : Int) < 8 by decide)
 obtain ⟨t, ht⟩ : ∃ t, t = z0 % 8 := ⟨_, rfl⟩
 rw [← ht] at g0
 have s2 : small62 2 = true := by decide
 have s4 : small62 4 = true := by decide
 push_cast only [c0, c1, c2, c3, c4, c5, c6, n1, n2, n3, n4, n10, v_new0, v_new1, k_new1, oS_e, oL_e, oT_e, ← ht, s2, s4]
 generalize hL : loopF _ _ _ _ = r
 refine loop_k hL (fun i ρ => ∃ (p : Int × Int) (a b c d : Int) (u v : Option OD), ρ = [some (.sh (.list (ns.map PyData.int))), some (.sh (.int t)), some (.sh (.list (obs4 t))), some (.sh (pt p)), some (.sh (.int v3)), some (.sh (.int v4)), some (.sh (bx a b c d)), u, v, none]) ⟨(v1, v2), _, _, _, _, _, _, rfl⟩ ?_ ?_
 ·rintro i d ρ hd ⟨p, xa, xb, xc, xd, u, v, rfl⟩
  obtain ⟨hi, rfl⟩ := rngD_get hd
  push_cast only [s4]
  generalize hL2 : loopF _ _ _ _ = r2
  refine loop_k hL2 (fun i ρ => ∃ (v : Option OD), ρ = [some (.sh (.list (ns.map PyData.int))), some (.sh (.int t)), some (.sh (.list (obs4 t))), some (.sh (pt p)), some (.sh (.int v3)), some (.sh (.int v4)), some (.sh (bx xa xb xc xd)), _, v, none]) ⟨_, rfl⟩ ?_ ?_
  ·rintro k d ρ hd ⟨v, rfl⟩
   obtain ⟨hk, rfl⟩ := rngD_get hd
   obtain ⟨o, f, k1, k2, k3, k4, k5⟩ := kind_ok g0.1 g0.2 (k := k) (by lia)
   obtain ⟨q, q1, q2⟩ := k4 p
   obtain ⟨x, y, z, w, w1, w2⟩ := k5 xa xb xc xd
   have a1 : atI (obs4 t) (k : Int) = some o := atI_nat k1
   have i1 := is_pt q
   have i2 := is_bx x y z w
   push_cast only [Int.zero_add, a1, v_meth, k2, k3, q1, q2, w1, w2, i1, i2]
   exact ⟨_, rfl⟩
  ·rintro ρ' rfl ⟨v, rfl⟩
   unfold pt bx
   push_cast only [at3]
   exact ⟨(xc, p.1), xa - 3, xb, xc, xd + 256, _, _, rfl⟩
 ·rintro ρ' rfl ⟨p, xa, xb, xc, xd, u, v, rfl⟩
  have e1 : cutD (obs4 t) (some 1) none = [oL, oT t, oT ((t + 1) % 8)] := rfl
  have a1 : atI (obs4 t) 1 = some oL := by
   have : atI (obs4 t) ((1 : Nat) : Int) = some oL := atI_nat rfl
   exact this
  have a2 : atI (obs4 t) 2 = some (oT t) := by
   have : atI (obs4 t) ((2 : Nat) : Int) = some (oT t) := atI_nat rfl
   exact this
  have j1 := isSt oL (.inl rfl)
  push_cast only [e1, l_cons, l_nil, l_nx, v_isC, j1, isTT, a1, a2, isLL, isLT, isTL]
theorem all_mk {l : PySem.W.OpenLaw} {w : World} {K : PySem.W.Frag} {h : Heap} {mg : Str → Option Value} {fa : Addr} (X : K.In h) (G : h.Ns mainGlobals mg) (hfa : mg "law" = some (.ref fa))
  {c_Standing c_Lying c_Turned f_flips f_Standing_spot f_Lying_spot f_Turned___init__ f__law_cell f__law_whole f__law_turned f__law_number f_turned_point f__law_spot f__law_is f_Turned_spot f__law_box f_Standing_box f_law : Addr}
  {od_flips an_flips od_Standing_spot an_Standing_spot od_Lying_spot an_Lying_spot od_Turned___init__ an_Turned___init__ od__law_cell an__law_cell od__law_whole an__law_whole od__law_turned an__law_turned od__law_number an__law_number od_turned_point an_turned_point od__law_spot an__law_spot od__law_is an__law_is od_Turned_spot an_Turned_spot od__law_box an__law_box od_Standing_box an_Standing_box od_law an_law : Option Addr}
  {sl_flips sl_Standing_spot sl_Lying_spot sl_Turned___init__ sl__law_cell sl__law_whole sl__law_turned sl__law_number sl_turned_point sl__law_spot sl__law_is sl_Turned_spot sl__law_box sl_Standing_box sl_law : Array (Option Value)}
  {oc_flips kV_flips dc_flips pm_flips cd_flips ct_flips oc_Standing_spot kV_Standing_spot dc_Standing_spot pm_Standing_spot cd_Standing_spot ct_Standing_spot oc_Lying_spot kV_Lying_spot dc_Lying_spot pm_Lying_spot cd_Lying_spot ct_Lying_spot oc_Turned___init__ kV_Turned___init__ dc_Turned___init__ pm_Turned___init__ cd_Turned___init__ ct_Turned___init__ oc__law_cell kV__law_cell dc__law_cell pm__law_cell cd__law_cell ct__law_cell oc__law_whole kV__law_whole dc__law_whole pm__law_whole cd__law_whole ct__law_whole oc__law_turned kV__law_turned dc__law_turned pm__law_turned cd__law_turned ct__law_turned oc__law_number kV__law_number dc__law_number pm__law_number cd__law_number ct__law_number oc_turned_point kV_turned_point dc_turned_point pm_turned_point cd_turned_point ct_turned_point oc__law_spot kV__law_spot dc__law_spot pm__law_spot cd__law_spot ct__law_spot oc__law_is kV__law_is dc__law_is pm__law_is cd__law_is ct__law_is oc_Turned_spot kV_Turned_spot dc_Turned_spot pm_Turned_spot cd_Turned_spot ct_Turned_spot oc__law_box kV__law_box dc__law_box pm__law_box cd__law_box ct__law_box oc_Standing_box kV_Standing_box dc_Standing_box pm_Standing_box cd_Standing_box ct_Standing_box oc_law kV_law dc_law pm_law cd_law ct_law : Value}
  {tk_QUARTERS : Tok}
  (ca_Standing : PySem.W.nsIn K mainGlobals "Standing" = some (some (.ref c_Standing)))
  (ca_Lying : PySem.W.nsIn K mainGlobals "Lying" = some (some (.ref c_Lying)))
  (ca_Turned : PySem.W.nsIn K mainGlobals "Turned" = some (some (.ref c_Turned)))
  (a_flips : PySem.W.nsIn K mainGlobals "flips" = some (some (.ref f_flips)))
  (l_flips : K.lookup f_flips = some ⟨oc_flips, od_flips, .func (PySem.W.fnOf "flips" "flips" (defArgs s_flips) (defBody s_flips) (defScope s_flips) .none kV_flips dc_flips pm_flips an_flips cd_flips ct_flips), sl_flips⟩)
  (c_flips : PySem.W.codeIn K cd_flips "flips" = true)
  (k_flips : PySem.W.keepIn K (.ref f_flips) = true)
  (a_Standing_spot : PySem.W.findIn K (.ref c_Standing) "spot" = some (some (.ref f_Standing_spot)))
  (i_Standing_spot : PySem.W.isFn K (.ref f_Standing_spot) = true)
  (l_Standing_spot : K.lookup f_Standing_spot = some ⟨oc_Standing_spot, od_Standing_spot, .func (PySem.W.fnOf "spot" "Standing.spot" (defArgs s_Standing_spot) (defBody s_Standing_spot) (defScope s_Standing_spot) .none kV_Standing_spot dc_Standing_spot pm_Standing_spot an_Standing_spot cd_Standing_spot ct_Standing_spot), sl_Standing_spot⟩)
  (c_Standing_spot : PySem.W.codeIn K cd_Standing_spot "Standing.spot" = true)
  (k_Standing_spot : PySem.W.keepIn K (.ref f_Standing_spot) = true)
  (a_Lying_spot : PySem.W.findIn K (.ref c_Lying) "spot" = some (some (.ref f_Lying_spot)))
  (i_Lying_spot : PySem.W.isFn K (.ref f_Lying_spot) = true)
  (l_Lying_spot : K.lookup f_Lying_spot = some ⟨oc_Lying_spot, od_Lying_spot, .func (PySem.W.fnOf "spot" "Lying.spot" (defArgs s_Lying_spot) (defBody s_Lying_spot) (defScope s_Lying_spot) .none kV_Lying_spot dc_Lying_spot pm_Lying_spot an_Lying_spot cd_Lying_spot ct_Lying_spot), sl_Lying_spot⟩)
  (c_Lying_spot : PySem.W.codeIn K cd_Lying_spot "Lying.spot" = true)
  (k_Lying_spot : PySem.W.keepIn K (.ref f_Lying_spot) = true)
  (a_Turned___init__ : PySem.W.findIn K (.ref c_Turned) "__init__" = some (some (.ref f_Turned___init__)))
  (i_Turned___init__ : PySem.W.isFn K (.ref f_Turned___init__) = true)
  (l_Turned___init__ : K.lookup f_Turned___init__ = some ⟨oc_Turned___init__, od_Turned___init__, .func (PySem.W.fnOf "__init__" "Turned.__init__" (defArgs s_Turned___init__) (defBody s_Turned___init__) (defScope s_Turned___init__) .none kV_Turned___init__ dc_Turned___init__ pm_Turned___init__ an_Turned___init__ cd_Turned___init__ ct_Turned___init__), sl_Turned___init__⟩)
  (c_Turned___init__ : PySem.W.codeIn K cd_Turned___init__ "Turned.__init__" = true)
  (k_Turned___init__ : PySem.W.keepIn K (.ref f_Turned___init__) = true)
  (a__law_cell : PySem.W.nsIn K mainGlobals "_law_cell" = some (some (.ref f__law_cell)))
  (l__law_cell : K.lookup f__law_cell = some ⟨oc__law_cell, od__law_cell, .func (PySem.W.fnOf "_law_cell" "_law_cell" (defArgs s__law_cell) (defBody s__law_cell) (defScope s__law_cell) .none kV__law_cell dc__law_cell pm__law_cell an__law_cell cd__law_cell ct__law_cell), sl__law_cell⟩)
  (c__law_cell : PySem.W.codeIn K cd__law_cell "_law_cell" = true)
  (k__law_cell : PySem.W.keepIn K (.ref f__law_cell) = true)
  (a__law_whole : PySem.W.nsIn K mainGlobals "_law_whole" = some (some (.ref f__law_whole)))
  (l__law_whole : K.lookup f__law_whole = some ⟨oc__law_whole, od__law_whole, .func (PySem.W.fnOf "_law_whole" "_law_whole" (defArgs s__law_whole) (defBody s__law_whole) (defScope s__law_whole) .none kV__law_whole dc__law_whole pm__law_whole an__law_whole cd__law_whole ct__law_whole), sl__law_whole⟩)
  (c__law_whole : PySem.W.codeIn K cd__law_whole "_law_whole" = true)
  (k__law_whole : PySem.W.keepIn K (.ref f__law_whole) = true)
  (a__law_turned : PySem.W.nsIn K mainGlobals "_law_turned" = some (some (.ref f__law_turned)))
  (l__law_turned : K.lookup f__law_turned = some ⟨oc__law_turned, od__law_turned, .func (PySem.W.fnOf "_law_turned" "_law_turned" (defArgs s__law_turned) (defBody s__law_turned) (defScope s__law_turned) .none kV__law_turned dc__law_turned pm__law_turned an__law_turned cd__law_turned ct__law_turned), sl__law_turned⟩)
  (c__law_turned : PySem.W.codeIn K cd__law_turned "_law_turned" = true)
  (k__law_turned : PySem.W.keepIn K (.ref f__law_turned) = true)
  (a__law_number : PySem.W.nsIn K mainGlobals "_law_number" = some (some (.ref f__law_number)))
  (l__law_number : K.lookup f__law_number = some ⟨oc__law_number, od__law_number, .func (PySem.W.fnOf "_law_number" "_law_number" (defArgs s__law_number) (defBody s__law_number) (defScope s__law_number) .none kV__law_number dc__law_number pm__law_number an__law_number cd__law_number ct__law_number), sl__law_number⟩)
  (c__law_number : PySem.W.codeIn K cd__law_number "_law_number" = true)
  (k__law_number : PySem.W.keepIn K (.ref f__law_number) = true)
  (a_turned_point : PySem.W.nsIn K mainGlobals "turned_point" = some (some (.ref f_turned_point)))
  (l_turned_point : K.lookup f_turned_point = some ⟨oc_turned_point, od_turned_point, .func (PySem.W.fnOf "turned_point" "turned_point" (defArgs s_turned_point) (defBody s_turned_point) (defScope s_turned_point) .none kV_turned_point dc_turned_point pm_turned_point an_turned_point cd_turned_point ct_turned_point), sl_turned_point⟩)
  (c_turned_point : PySem.W.codeIn K cd_turned_point "turned_point" = true)
  (k_turned_point : PySem.W.keepIn K (.ref f_turned_point) = true)
  (a__law_spot : PySem.W.nsIn K mainGlobals "_law_spot" = some (some (.ref f__law_spot)))
  (l__law_spot : K.lookup f__law_spot = some ⟨oc__law_spot, od__law_spot, .func (PySem.W.fnOf "_law_spot" "_law_spot" (defArgs s__law_spot) (defBody s__law_spot) (defScope s__law_spot) .none kV__law_spot dc__law_spot pm__law_spot an__law_spot cd__law_spot ct__law_spot), sl__law_spot⟩)
  (c__law_spot : PySem.W.codeIn K cd__law_spot "_law_spot" = true)
  (k__law_spot : PySem.W.keepIn K (.ref f__law_spot) = true)
  (a__law_is : PySem.W.nsIn K mainGlobals "_law_is" = some (some (.ref f__law_is)))
  (l__law_is : K.lookup f__law_is = some ⟨oc__law_is, od__law_is, .func (PySem.W.fnOf "_law_is" "_law_is" (defArgs s__law_is) (defBody s__law_is) (defScope s__law_is) .none kV__law_is dc__law_is pm__law_is an__law_is cd__law_is ct__law_is), sl__law_is⟩)
  (c__law_is : PySem.W.codeIn K cd__law_is "_law_is" = true)
  (k__law_is : PySem.W.keepIn K (.ref f__law_is) = true)
  (a_Turned_spot : PySem.W.findIn K (.ref c_Turned) "spot" = some (some (.ref f_Turned_spot)))
  (i_Turned_spot : PySem.W.isFn K (.ref f_Turned_spot) = true)
  (l_Turned_spot : K.lookup f_Turned_spot = some ⟨oc_Turned_spot, od_Turned_spot, .func (PySem.W.fnOf "spot" "Turned.spot" (defArgs s_Turned_spot) (defBody s_Turned_spot) (defScope s_Turned_spot) .none kV_Turned_spot dc_Turned_spot pm_Turned_spot an_Turned_spot cd_Turned_spot ct_Turned_spot), sl_Turned_spot⟩)
  (c_Turned_spot : PySem.W.codeIn K cd_Turned_spot "Turned.spot" = true)
  (k_Turned_spot : PySem.W.keepIn K (.ref f_Turned_spot) = true)
  (a__law_box : PySem.W.nsIn K mainGlobals "_law_box" = some (some (.ref f__law_box)))
  (l__law_box : K.lookup f__law_box = some ⟨oc__law_box, od__law_box, .func (PySem.W.fnOf "_law_box" "_law_box" (defArgs s__law_box) (defBody s__law_box) (defScope s__law_box) .none kV__law_box dc__law_box pm__law_box an__law_box cd__law_box ct__law_box), sl__law_box⟩)
  (c__law_box : PySem.W.codeIn K cd__law_box "_law_box" = true)
  (k__law_box : PySem.W.keepIn K (.ref f__law_box) = true)
  (a_Standing_box : PySem.W.findIn K (.ref c_Standing) "box" = some (some (.ref f_Standing_box)))
  (i_Standing_box : PySem.W.isFn K (.ref f_Standing_box) = true)
  (l_Standing_box : K.lookup f_Standing_box = some ⟨oc_Standing_box, od_Standing_box, .func (PySem.W.fnOf "box" "Standing.box" (defArgs s_Standing_box) (defBody s_Standing_box) (defScope s_Standing_box) .none kV_Standing_box dc_Standing_box pm_Standing_box an_Standing_box cd_Standing_box ct_Standing_box), sl_Standing_box⟩)
  (c_Standing_box : PySem.W.codeIn K cd_Standing_box "Standing.box" = true)
  (k_Standing_box : PySem.W.keepIn K (.ref f_Standing_box) = true)
  (a_law : PySem.W.nsIn K mainGlobals "law" = some (some (.ref f_law)))
  (l_law : K.lookup f_law = some ⟨oc_law, od_law, .func (PySem.W.fnOf "law" "law" (defArgs s_law) (defBody s_law) (defScope s_law) .none kV_law dc_law pm_law an_law cd_law ct_law), sl_law⟩)
  (c_law : PySem.W.codeIn K cd_law "law" = true)
  (k_law : PySem.W.keepIn K (.ref f_law) = true)
  (pg_Standing : PySem.W.plainGet K c_Standing Str.empty = true)
  (hd_Standing : PySem.W.hasDictIn K c_Standing = true)
  (po_Standing : PySem.W.plainOver K c_Standing = true)
  (sa_Standing : PySem.W.findIn K (.ref c_Standing) "__setattr__" = some (some (.builtin "object.__setattr__")))
  (mk_Standing : PySem.W.makesIn K c_Standing = true)
  (kc_Standing : PySem.W.keepIn K (.ref c_Standing) = true)
  (cc_Standing : PySem.W.findIn K (.ref c_Standing) "__class__" = some (some (.builtin "object.__class__")))
  (mo_Standing : PySem.W.mroIn K c_Standing (.type "object") = some true)
  (ni_Standing : PySem.W.findIn K (.ref c_Standing) "__init__" = some (some (.builtin "object.__init__")))
  (me_Standing_box : PySem.W.findIn K (.ref c_Standing) "box" = some (some (.ref f_Standing_box)))
  (me_Standing_spot : PySem.W.findIn K (.ref c_Standing) "spot" = some (some (.ref f_Standing_spot)))
  (q_Standing_Standing : PySem.W.kitOne K (.ref c_Standing) (.ref c_Standing) = some true)
  (q_Standing_Lying : PySem.W.kitOne K (.ref c_Standing) (.ref c_Lying) = some false)
  (q_Standing_Turned : PySem.W.kitOne K (.ref c_Standing) (.ref c_Turned) = some false)
  (pg_Lying : PySem.W.plainGet K c_Lying Str.empty = true)
  (hd_Lying : PySem.W.hasDictIn K c_Lying = true)
  (po_Lying : PySem.W.plainOver K c_Lying = true)
  (sa_Lying : PySem.W.findIn K (.ref c_Lying) "__setattr__" = some (some (.builtin "object.__setattr__")))
  (mk_Lying : PySem.W.makesIn K c_Lying = true)
  (kc_Lying : PySem.W.keepIn K (.ref c_Lying) = true)
  (cc_Lying : PySem.W.findIn K (.ref c_Lying) "__class__" = some (some (.builtin "object.__class__")))
  (mo_Lying : PySem.W.mroIn K c_Lying (.type "object") = some true)
  (ni_Lying : PySem.W.findIn K (.ref c_Lying) "__init__" = some (some (.builtin "object.__init__")))
  (me_Lying_box : PySem.W.findIn K (.ref c_Lying) "box" = some (some (.ref f_Standing_box)))
  (me_Lying_spot : PySem.W.findIn K (.ref c_Lying) "spot" = some (some (.ref f_Lying_spot)))
  (q_Lying_Standing : PySem.W.kitOne K (.ref c_Lying) (.ref c_Standing) = some true)
  (q_Lying_Lying : PySem.W.kitOne K (.ref c_Lying) (.ref c_Lying) = some true)
  (q_Lying_Turned : PySem.W.kitOne K (.ref c_Lying) (.ref c_Turned) = some false)
  (pg_Turned : PySem.W.plainGet K c_Turned Str.empty = true)
  (hd_Turned : PySem.W.hasDictIn K c_Turned = true)
  (po_Turned : PySem.W.plainOver K c_Turned = true)
  (sa_Turned : PySem.W.findIn K (.ref c_Turned) "__setattr__" = some (some (.builtin "object.__setattr__")))
  (mk_Turned : PySem.W.makesIn K c_Turned = true)
  (kc_Turned : PySem.W.keepIn K (.ref c_Turned) = true)
  (cc_Turned : PySem.W.findIn K (.ref c_Turned) "__class__" = some (some (.builtin "object.__class__")))
  (mo_Turned : PySem.W.mroIn K c_Turned (.type "object") = some true)
  (na_Turned_turn : PySem.W.findIn K (.ref c_Turned) "turn" = some none)
  (me_Turned_box : PySem.W.findIn K (.ref c_Turned) "box" = some (some (.ref f_Standing_box)))
  (me_Turned_spot : PySem.W.findIn K (.ref c_Turned) "spot" = some (some (.ref f_Turned_spot)))
  (q_Turned_Standing : PySem.W.kitOne K (.ref c_Turned) (.ref c_Standing) = some true)
  (q_Turned_Lying : PySem.W.kitOne K (.ref c_Turned) (.ref c_Lying) = some false)
  (q_Turned_Turned : PySem.W.kitOne K (.ref c_Turned) (.ref c_Turned) = some true)
  (gg : PySem.W.specialIn K (.builtin "object.__class__") "__get__" = some (some (.builtin "getset_descriptor.__get__")))
  (gt : PySem.W.takesIn K (.builtin "object.__class__") = some true)
  (z_bool : PySem.W.nsIn K mainGlobals "bool" = some none)
  (z_int : PySem.W.nsIn K mainGlobals "int" = some none)
  (z_isinstance : PySem.W.nsIn K mainGlobals "isinstance" = some none)
  (z_len : PySem.W.nsIn K mainGlobals "len" = some none)
  (z_max : PySem.W.nsIn K mainGlobals "max" = some none)
  (z_min : PySem.W.nsIn K mainGlobals "min" = some none)
  (z_range : PySem.W.nsIn K mainGlobals "range" = some none)
  (z_tuple : PySem.W.nsIn K mainGlobals "tuple" = some none)
  (g_QUARTERS : PySem.W.nsIn K mainGlobals "QUARTERS" = some (some (.int 4 tk_QUARTERS))) :
  ∃ fd : FuncData, (∀ (s : Shared) (v : Value), BindsTo s fd ⟨[v], []⟩ [("_law_script", v)]) ∧ ∀ base : Heap, K.In base → base.Ns mainGlobals mg → FnOk l.prog w K mg base CX0 5 fa fd ["_law_script"] (sp3 K mg fn_law) := by
 have e := hfa.symm.trans (PySem.W.mg_of X G a_law)
 cases e
 have T : Txt K mg := ⟨PySem.W.mg_none_of X G z_bool, PySem.W.mg_none_of X G z_int, PySem.W.mg_none_of X G z_isinstance, PySem.W.mg_none_of X G z_len, PySem.W.mg_none_of X G z_max, PySem.W.mg_none_of X G z_min, PySem.W.mg_none_of X G z_range, PySem.W.mg_none_of X G z_tuple, ⟨_, PySem.W.mg_of X G g_QUARTERS⟩⟩
 have O : Obs K mg c_Standing c_Lying c_Turned f_Standing_spot f_Lying_spot f_Turned___init__ f_Turned_spot f_Standing_box := ⟨ca_Standing, PySem.W.mg_of X G ca_Standing, ⟨⟨pg_Standing, hd_Standing, po_Standing, sa_Standing⟩, cc_Standing, gg, gt, mo_Standing⟩, ⟨mk_Standing, ni_Standing, kc_Standing⟩, ⟨me_Standing_box, i_Standing_box, k_Standing_box⟩, ⟨me_Standing_spot, i_Standing_spot, k_Standing_spot⟩, q_Standing_Standing, q_Standing_Lying, q_Standing_Turned, ca_Lying, PySem.W.mg_of X G ca_Lying, ⟨⟨pg_Lying, hd_Lying, po_Lying, sa_Lying⟩, cc_Lying, gg, gt, mo_Lying⟩, ⟨mk_Lying, ni_Lying, kc_Lying⟩, ⟨me_Lying_box, i_Standing_box, k_Standing_box⟩, ⟨me_Lying_spot, i_Lying_spot, k_Lying_spot⟩, q_Lying_Standing, q_Lying_Lying, q_Lying_Turned, ca_Turned, PySem.W.mg_of X G ca_Turned, ⟨⟨pg_Turned, hd_Turned, po_Turned, sa_Turned⟩, cc_Turned, gg, gt, mo_Turned⟩, ⟨mk_Turned, a_Turned___init__, i_Turned___init__, kc_Turned⟩, na_Turned_turn, ⟨me_Turned_box, i_Standing_box, k_Standing_box⟩, ⟨me_Turned_spot, i_Turned_spot, k_Turned_spot⟩, q_Turned_Standing, q_Turned_Lying, q_Turned_Turned⟩
 have F_flips := fun_mk (st := s_flips) l_flips c_flips k_flips
 have D_flips : Def K mg "flips" s_flips ["turn"] _ _ := ⟨F_flips, PySem.W.mg_of X G a_flips, F_flips.binds (ps := ["turn"]) fun _ _ _ _ _ _ us hl => by obtain ⟨_, rfl⟩ := ex1 hl; rfl⟩
 have F_Standing_spot := fun_mk (st := s_Standing_spot) l_Standing_spot c_Standing_spot k_Standing_spot
 have D_Standing_spot : DefM K "spot" "Standing.spot" s_Standing_spot ["self", "point"] _ _ := ⟨F_Standing_spot, F_Standing_spot.binds (ps := ["self", "point"]) fun _ _ _ _ _ _ us hl => by obtain ⟨_, _, rfl⟩ := ex2 hl; rfl⟩
 have F_Lying_spot := fun_mk (st := s_Lying_spot) l_Lying_spot c_Lying_spot k_Lying_spot
 have D_Lying_spot : DefM K "spot" "Lying.spot" s_Lying_spot ["self", "point"] _ _ := ⟨F_Lying_spot, F_Lying_spot.binds (ps := ["self", "point"]) fun _ _ _ _ _ _ us hl => by obtain ⟨_, _, rfl⟩ := ex2 hl; rfl⟩
 have F_Turned___init__ := fun_mk (st := s_Turned___init__) l_Turned___init__ c_Turned___init__ k_Turned___init__
 have D_Turned___init__ : DefM K "__init__" "Turned.__init__" s_Turned___init__ ["self", "turn"] _ _ := ⟨F_Turned___init__, F_Turned___init__.binds (ps := ["self", "turn"]) fun _ _ _ _ _ _ us hl => by obtain ⟨_, _, rfl⟩ := ex2 hl; rfl⟩
 have F__law_cell := fun_mk (st := s__law_cell) l__law_cell c__law_cell k__law_cell
 have D__law_cell : Def K mg "_law_cell" s__law_cell ["_law_script", "_law_k"] _ _ := ⟨F__law_cell, PySem.W.mg_of X G a__law_cell, F__law_cell.binds (ps := ["_law_script", "_law_k"]) fun _ _ _ _ _ _ us hl => by obtain ⟨_, _, rfl⟩ := ex2 hl; rfl⟩
 have F__law_whole := fun_mk (st := s__law_whole) l__law_whole c__law_whole k__law_whole
 have D__law_whole : Def K mg "_law_whole" s__law_whole ["_law_found"] _ _ := ⟨F__law_whole, PySem.W.mg_of X G a__law_whole, F__law_whole.binds (ps := ["_law_found"]) fun _ _ _ _ _ _ us hl => by obtain ⟨_, rfl⟩ := ex1 hl; rfl⟩
 have F__law_turned := fun_mk (st := s__law_turned) l__law_turned c__law_turned k__law_turned
 have D__law_turned : Def K mg "_law_turned" s__law_turned ["_law_turn", "_law_point"] _ _ := ⟨F__law_turned, PySem.W.mg_of X G a__law_turned, F__law_turned.binds (ps := ["_law_turn", "_law_point"]) fun _ _ _ _ _ _ us hl => by obtain ⟨_, _, rfl⟩ := ex2 hl; rfl⟩
 have F__law_number := fun_mk (st := s__law_number) l__law_number c__law_number k__law_number
 have D__law_number : Def K mg "_law_number" s__law_number ["_law_cell_here"] _ _ := ⟨F__law_number, PySem.W.mg_of X G a__law_number, F__law_number.binds (ps := ["_law_cell_here"]) fun _ _ _ _ _ _ us hl => by obtain ⟨_, rfl⟩ := ex1 hl; rfl⟩
 have F_turned_point := fun_mk (st := s_turned_point) l_turned_point c_turned_point k_turned_point
 have D_turned_point : Def K mg "turned_point" s_turned_point ["turn", "point"] _ _ := ⟨F_turned_point, PySem.W.mg_of X G a_turned_point, F_turned_point.binds (ps := ["turn", "point"]) fun _ _ _ _ _ _ us hl => by obtain ⟨_, _, rfl⟩ := ex2 hl; rfl⟩
 have F__law_spot := fun_mk (st := s__law_spot) l__law_spot c__law_spot k__law_spot
 have D__law_spot : Def K mg "_law_spot" s__law_spot ["_law_kind", "_law_turn", "_law_point"] _ _ := ⟨F__law_spot, PySem.W.mg_of X G a__law_spot, F__law_spot.binds (ps := ["_law_kind", "_law_turn", "_law_point"]) fun _ _ _ _ _ _ us hl => by obtain ⟨_, _, _, rfl⟩ := ex3 hl; rfl⟩
 have F__law_is := fun_mk (st := s__law_is) l__law_is c__law_is k__law_is
 have D__law_is : Def K mg "_law_is" s__law_is ["_law_found", "_law_due"] _ _ := ⟨F__law_is, PySem.W.mg_of X G a__law_is, F__law_is.binds (ps := ["_law_found", "_law_due"]) fun _ _ _ _ _ _ us hl => by obtain ⟨_, _, rfl⟩ := ex2 hl; rfl⟩
 have F_Turned_spot := fun_mk (st := s_Turned_spot) l_Turned_spot c_Turned_spot k_Turned_spot
 have D_Turned_spot : DefM K "spot" "Turned.spot" s_Turned_spot ["self", "point"] _ _ := ⟨F_Turned_spot, F_Turned_spot.binds (ps := ["self", "point"]) fun _ _ _ _ _ _ us hl => by obtain ⟨_, _, rfl⟩ := ex2 hl; rfl⟩
 have F__law_box := fun_mk (st := s__law_box) l__law_box c__law_box k__law_box
 have D__law_box : Def K mg "_law_box" s__law_box ["_law_kind", "_law_turn", "_law_box_here"] _ _ := ⟨F__law_box, PySem.W.mg_of X G a__law_box, F__law_box.binds (ps := ["_law_kind", "_law_turn", "_law_box_here"]) fun _ _ _ _ _ _ us hl => by obtain ⟨_, _, _, rfl⟩ := ex3 hl; rfl⟩
 have F_Standing_box := fun_mk (st := s_Standing_box) l_Standing_box c_Standing_box k_Standing_box
 have D_Standing_box : DefM K "box" "Standing.box" s_Standing_box ["self", "box"] _ _ := ⟨F_Standing_box, F_Standing_box.binds (ps := ["self", "box"]) fun _ _ _ _ _ _ us hl => by obtain ⟨_, _, rfl⟩ := ex2 hl; rfl⟩
 have F_law := fun_mk (st := s_law) l_law c_law k_law
 refine ⟨PySem.W.fnOf "law" "law" (defArgs s_law) (defBody s_law) (defScope s_law) .none kV_law dc_law pm_law an_law cd_law ct_law, fun s v => .of_eq rfl, fun base _ _ => ?_⟩
 have G_flips : FnOk l.prog w K mg base CX0 1 _ _ _ _ := ok_flips D_flips.F T O
 have G_Standing_spot : FnOk l.prog w K mg base CX0 1 _ _ _ _ := ok_Standing_spot D_Standing_spot.F T O
 have G_Lying_spot : FnOk l.prog w K mg base CX0 1 _ _ _ _ := ok_Lying_spot D_Lying_spot.F T O
 have G_Turned___init__ : FnOk l.prog w K mg base CX0 1 _ _ _ _ := ok_Turned___init__ D_Turned___init__.F
 have G__law_cell : FnOk l.prog w K mg base CX0 1 _ _ _ _ := ok__law_cell D__law_cell.F T O
 have G__law_whole : FnOk l.prog w K mg base CX0 1 _ _ _ _ := ok__law_whole D__law_whole.F T O
 have G__law_turned : FnOk l.prog w K mg base CX0 1 _ _ _ _ := ok__law_turned D__law_turned.F T O
 have G__law_number : FnOk l.prog w K mg base CX0 1 _ _ _ _ := ok__law_number D__law_number.F T O
 have G_turned_point : FnOk l.prog w K mg base CX0 2 _ _ _ _ := ok_turned_point D_turned_point.F T O D_flips G_flips
 have G__law_spot : FnOk l.prog w K mg base CX0 2 _ _ _ _ := ok__law_spot D__law_spot.F T O D__law_turned G__law_turned
 have G__law_is : FnOk l.prog w K mg base CX0 2 _ _ _ _ := ok__law_is D__law_is.F T O D__law_whole G__law_whole
 have G_Turned_spot : FnOk l.prog w K mg base CX0 3 _ _ _ _ := ok_Turned_spot D_Turned_spot.F T O D_turned_point G_turned_point
 have G__law_box : FnOk l.prog w K mg base CX0 3 _ _ _ _ := ok__law_box D__law_box.F T O D__law_spot G__law_spot
 have G_Standing_box : FnOk l.prog w K mg base CX0 4 _ _ _ _ := ok_Standing_box D_Standing_box.F T O D_Standing_spot G_Standing_spot D_Lying_spot G_Lying_spot D_Turned_spot G_Turned_spot
 exact ok_law F_law T O D_Standing_spot G_Standing_spot D_Standing_box G_Standing_box D_Lying_spot G_Lying_spot D_Turned___init__ G_Turned___init__ D_Turned_spot G_Turned_spot D__law_cell G__law_cell D__law_spot G__law_spot D__law_box G__law_box D__law_is G__law_is D__law_number G__law_number
end B
open PySem PySem.W PyProof.Rows
set_option maxRecDepth 100000 in
set_option maxHeartbeats 0 in
theorem PySem.Challenge.cw_boughdraw_k55_lays_holds : PySem.Challenge.rw_boughdraw_k55_lays.Holds := by
 w_on; o_law; k_head; (case hw => w_witness2)
 k_fill
 refine L3.walk5 (l := PySem.Challenge.rw_boughdraw_k55_lays) (x := "_law_script") (k := 5) (fn := B.fn_law) rfl rfl ⟨rfl, by decide, by decide⟩ (fun w h Y => PySem.W.kIn_of Y) B.law_true ?F
 case F =>
  intro w mg fa h KX G hmg
  refine' B.all_mk KX G hmg ?ca_Standing ?ca_Lying ?ca_Turned ?a_flips ?l_flips ?c_flips ?k_flips ?a_Standing_spot ?i_Standing_spot ?l_Standing_spot ?c_Standing_spot ?k_Standing_spot ?a_Lying_spot ?i_Lying_spot ?l_Lying_spot ?c_Lying_spot ?k_Lying_spot ?a_Turned___init__ ?i_Turned___init__ ?l_Turned___init__ ?c_Turned___init__ ?k_Turned___init__ ?a__law_cell ?l__law_cell ?c__law_cell ?k__law_cell ?a__law_whole ?l__law_whole ?c__law_whole ?k__law_whole ?a__law_turned ?l__law_turned ?c__law_turned ?k__law_turned ?a__law_number ?l__law_number ?c__law_number ?k__law_number ?a_turned_point ?l_turned_point ?c_turned_point ?k_turned_point ?a__law_spot ?l__law_spot ?c__law_spot ?k__law_spot ?a__law_is ?l__law_is ?c__law_is ?k__law_is ?a_Turned_spot ?i_Turned_spot ?l_Turned_spot ?c_Turned_spot ?k_Turned_spot ?a__law_box ?l__law_box ?c__law_box ?k__law_box ?a_Standing_box ?i_Standing_box ?l_Standing_box ?c_Standing_box ?k_Standing_box ?a_law ?l_law ?c_law ?k_law ?pg_Standing ?hd_Standing ?po_Standing ?sa_Standing ?mk_Standing ?kc_Standing ?cc_Standing ?mo_Standing ?ni_Standing ?me_Standing_box ?me_Standing_spot ?q_Standing_Standing ?q_Standing_Lying ?q_Standing_Turned ?pg_Lying ?hd_Lying ?po_Lying ?sa_Lying ?mk_Lying ?kc_Lying ?cc_Lying ?mo_Lying ?ni_Lying ?me_Lying_box ?me_Lying_spot ?q_Lying_Standing ?q_Lying_Lying ?q_Lying_Turned ?pg_Turned ?hd_Turned ?po_Turned ?sa_Turned ?mk_Turned ?kc_Turned ?cc_Turned ?mo_Turned ?na_Turned_turn ?me_Turned_box ?me_Turned_spot ?q_Turned_Standing ?q_Turned_Lying ?q_Turned_Turned ?gg ?gt ?z_bool ?z_int ?z_isinstance ?z_len ?z_max ?z_min ?z_range ?z_tuple ?g_QUARTERS
  (case ca_Standing => k_is)
  (case ca_Lying => k_is)
  (case ca_Turned => k_is)
  (case a_flips => k_is)
  (case l_flips => k_is)
  (case c_flips => k_is)
  (case k_flips => k_is)
  (case a_Standing_spot => k_is)
  (case i_Standing_spot => k_is)
  (case l_Standing_spot => k_is)
  (case c_Standing_spot => k_is)
  (case k_Standing_spot => k_is)
  (case a_Lying_spot => k_is)
  (case i_Lying_spot => k_is)
  (case l_Lying_spot => k_is)
  (case c_Lying_spot => k_is)
  (case k_Lying_spot => k_is)
  (case a_Turned___init__ => k_is)
  (case i_Turned___init__ => k_is)
  (case l_Turned___init__ => k_is)
  (case c_Turned___init__ => k_is)
  (case k_Turned___init__ => k_is)
  (case a__law_cell => k_is)
  (case l__law_cell => k_is)
  (case c__law_cell => k_is)
  (case k__law_cell => k_is)
  (case a__law_whole => k_is)
  (case l__law_whole => k_is)
  (case c__law_whole => k_is)
  (case k__law_whole => k_is)
  (case a__law_turned => k_is)
  (case l__law_turned => k_is)
  (case c__law_turned => k_is)
  (case k__law_turned => k_is)
  (case a__law_number => k_is)
  (case l__law_number => k_is)
  (case c__law_number => k_is)
  (case k__law_number => k_is)
  (case a_turned_point => k_is)
  (case l_turned_point => k_is)
  (case c_turned_point => k_is)
  (case k_turned_point => k_is)
  (case a__law_spot => k_is)
  (case l__law_spot => k_is)
  (case c__law_spot => k_is)
  (case k__law_spot => k_is)
  (case a__law_is => k_is)
  (case l__law_is => k_is)
  (case c__law_is => k_is)
  (case k__law_is => k_is)
  (case a_Turned_spot => k_is)
  (case i_Turned_spot => k_is)
  (case l_Turned_spot => k_is)
  (case c_Turned_spot => k_is)
  (case k_Turned_spot => k_is)
  (case a__law_box => k_is)
  (case l__law_box => k_is)
  (case c__law_box => k_is)
  (case k__law_box => k_is)
  (case a_Standing_box => k_is)
  (case i_Standing_box => k_is)
  (case l_Standing_box => k_is)
  (case c_Standing_box => k_is)
  (case k_Standing_box => k_is)
  (case a_law => k_is)
  (case l_law => k_is)
  (case c_law => k_is)
  (case k_law => k_is)
  (case pg_Standing => first | k_is | kernel_rfl)
  (case hd_Standing => first | k_is | kernel_rfl)
  (case po_Standing => first | k_is | kernel_rfl)
  (case sa_Standing => first | k_is | kernel_rfl)
  (case mk_Standing => first | k_is | kernel_rfl)
  (case kc_Standing => first | k_is | kernel_rfl)
  (case cc_Standing => first | k_is | kernel_rfl)
  (case mo_Standing => first | k_is | kernel_rfl)
  (case ni_Standing => first | k_is | kernel_rfl)
  (case me_Standing_box => first | k_is | kernel_rfl)
  (case me_Standing_spot => first | k_is | kernel_rfl)
  (case q_Standing_Standing => first | k_is | kernel_rfl)
  (case q_Standing_Lying => first | k_is | kernel_rfl)
  (case q_Standing_Turned => first | k_is | kernel_rfl)
  (case pg_Lying => first | k_is | kernel_rfl)
  (case hd_Lying => first | k_is | kernel_rfl)
  (case po_Lying => first | k_is | kernel_rfl)
  (case sa_Lying => first | k_is | kernel_rfl)
  (case mk_Lying => first | k_is | kernel_rfl)
  (case kc_Lying => first | k_is | kernel_rfl)
  (case cc_Lying => first | k_is | kernel_rfl)
  (case mo_Lying => first | k_is | kernel_rfl)
  (case ni_Lying => first | k_is | kernel_rfl)
  (case me_Lying_box => first | k_is | kernel_rfl)
  (case me_Lying_spot => first | k_is | kernel_rfl)
  (case q_Lying_Standing => first | k_is | kernel_rfl)
  (case q_Lying_Lying => first | k_is | kernel_rfl)
  (case q_Lying_Turned => first | k_is | kernel_rfl)
  (case pg_Turned => first | k_is | kernel_rfl)
  (case hd_Turned => first | k_is | kernel_rfl)
  (case po_Turned => first | k_is | kernel_rfl)
  (case sa_Turned => first | k_is | kernel_rfl)
  (case mk_Turned => first | k_is | kernel_rfl)
  (case kc_Turned => first | k_is | kernel_rfl)
  (case cc_Turned => first | k_is | kernel_rfl)
  (case mo_Turned => first | k_is | kernel_rfl)
  (case na_Turned_turn => first | k_is | kernel_rfl)
  (case me_Turned_box => first | k_is | kernel_rfl)
  (case me_Turned_spot => first | k_is | kernel_rfl)
  (case q_Turned_Standing => first | k_is | kernel_rfl)
  (case q_Turned_Lying => first | k_is | kernel_rfl)
  (case q_Turned_Turned => first | k_is | kernel_rfl)
  (case gg => first | k_is | kernel_rfl)
  (case gt => first | k_is | kernel_rfl)
  (case z_bool => k_is)
  (case z_int => k_is)
  (case z_isinstance => k_is)
  (case z_len => k_is)
  (case z_max => k_is)
  (case z_min => k_is)
  (case z_range => k_is)
  (case z_tuple => k_is)
  (case g_QUARTERS => k_is)

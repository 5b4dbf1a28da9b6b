import PyProof.Rows.All
import Wide.All
import OpenK.AllK
import Wide.FinOn
import HandS.ForMost
import HandS.Wide
import HandS.Walk
import HandS.OwnEq
import HandS.IsInst
import PyProof.InstNe
import HandS.Style
import PySem.Challenge.RW_lastheap_k36_runs_and_their_heaps
set_option Elab.async false
set_option linter.all false
set_option maxRecDepth 100000
set_option maxHeartbeats 4000000
namespace VD
open PySem PySem.Spec PyProof.Rows L2
/-! ### data, and where it stands -/
inductive D where
  | non | bl (b : Bool) | int (n : Int) | str (s : Str)
  | tup (l : List D) | lst (l : List D) | ins (c : Nat) (l : List D)
structure Ctx where
  K : PySem.W.Frag
  cls : Nat → Addr
  fld : Nat → List Str
mutual
inductive Rp (C : Ctx) (F : Hp) : V → D → Prop
  | non : Rp C F .non .non
  | bl (b : Bool) : Rp C F (.bl b) (.bl b)
  | int (n : Int) : Rp C F (.int n) (.int n)
  | str (s : Str) : Rp C F (.str s) (.str s)
  | tup {a : Addr} {vs : List V} {l : List D} (h : SqT C.K F a vs) (r : RpA C F vs l) : Rp C F (.ref a) (.tup l)
  | lst {a : Addr} {vs : List V} {l : List D} (h : SqL C.K F a vs) (r : RpA C F vs l) : Rp C F (.ref a) (.lst l)
  | ins {a dx : Addr} {c : Nat} {fs : List (Str × V)} {l : List D} (h : F a = some (.ins (C.cls c) dx fs)) (hk : fs.map (·.1) = C.fld c) (r : RpA C F (fs.map (·.2)) l) : Rp C F (.ref a) (.ins c l)
inductive RpA (C : Ctx) (F : Hp) : List V → List D → Prop
  | nil : RpA C F [] []
  | cons {v : V} {d : D} {vs : List V} {l : List D} (h : Rp C F v d) (r : RpA C F vs l) : RpA C F (v :: vs) (d :: l)
end
theorem Same.sqT {K : PySem.W.Frag} {H H' : Hp} {a : Addr} {xs : List V} (e : Same H H') (h : SqT K H a xs) : SqT K H' a xs := by
  rcases h with (h | ⟨o, h⟩) | h
  · exact .inl (.inl (e _ _ h))
  · exact .inl (.inr ⟨o, e _ _ h⟩)
  · exact .inr h
mutual
theorem Rp.mono {C : Ctx} {F F' : Hp} (e : Same F F') : ∀ {v : V} {d : D}, Rp C F v d → Rp C F' v d
  | _, _, .non => .non
  | _, _, .bl b => .bl b
  | _, _, .int n => .int n
  | _, _, .str s => .str s
  | _, _, .tup h r => .tup (Same.sqT e h) (RpA.mono e r)
  | _, _, .lst h r => .lst (e.seq h) (RpA.mono e r)
  | _, _, .ins h hk r => .ins (e _ _ h) hk (RpA.mono e r)
theorem RpA.mono {C : Ctx} {F F' : Hp} (e : Same F F') : ∀ {vs : List V} {l : List D}, RpA C F vs l → RpA C F' vs l
  | _, _, .nil => .nil
  | _, _, .cons h r => .cons (Rp.mono e h) (RpA.mono e r)
end
theorem RpA.len {C : Ctx} {F : Hp} : ∀ {vs : List V} {l : List D}, RpA C F vs l → vs.length = l.length
  | _, _, .nil => rfl
  | _, _, .cons _ r => congrArg (· + 1) r.len
theorem RpA.app {C : Ctx} {F : Hp} : ∀ {vs ws : List V} {l m : List D}, RpA C F vs l → RpA C F ws m → RpA C F (vs ++ ws) (l ++ m)
  | _, _, _, _, .nil, h => h
  | _, _, _, _, .cons h r, z => .cons h (r.app z)
theorem RpA.get {C : Ctx} {F : Hp} : ∀ {vs : List V} {l : List D}, RpA C F vs l → ∀ (i : Nat) d, l[i]? = some d → ∃ v, vs[i]? = some v ∧ Rp C F v d
  | _, _, .nil, i, d, h => by simp at h
  | _, _, .cons h r, 0, d, e => by
    simp at e
    subst e
    exact ⟨_, rfl, h⟩
  | _, _, .cons h r, i + 1, d, e => by
    simp at e
    obtain ⟨v, hv, z⟩ := r.get i d e
    exact ⟨v, by simpa using hv, z⟩
theorem RpA.getV {C : Ctx} {F : Hp} : ∀ {vs : List V} {l : List D}, RpA C F vs l → ∀ (i : Nat) v, vs[i]? = some v → ∃ d, l[i]? = some d ∧ Rp C F v d
  | _, _, .nil, i, d, h => by simp at h
  | _, _, .cons h r, 0, d, e => by
    simp at e
    subst e
    exact ⟨_, rfl, h⟩
  | _, _, .cons h r, i + 1, d, e => by
    simp at e
    obtain ⟨v, hv, z⟩ := r.getV i d e
    exact ⟨v, by simpa using hv, z⟩
/-! ### owned trees -/
inductive T where
  | fz (d : D) | ol (l : List T) | oi (c : Nat) (fs : List (Str × T)) | ot (l : List T) | raw (v : V)
abbrev Ad := Addr → Prop
mutual
inductive Ow (C : Ctx) (F H : Hp) : V → T → Ad → Prop
  | fz {v : V} {d : D} {S : Ad} (r : Rp C F v d) : Ow C F H v (.fz d) S
  | ol {p : Addr} {vs : List V} {ts : List T} {S S1 : Ad} (h : H p = some (.lst vs)) (hp : S p) (hs : ∀ a, S1 a → S a ∧ a ≠ p) (r : OwA C F H vs ts S1) : Ow C F H (.ref p) (.ol ts) S
  | oi {p dx : Addr} {c : Nat} {fvs : List (Str × V)} {fs : List (Str × T)} {S S1 : Ad} (h : H p = some (.ins (C.cls c) dx fvs)) (hk : fvs.map (·.1) = fs.map (·.1)) (hp : S p) (hs : ∀ a, S1 a → S a ∧ a ≠ p)
      (r : OwA C F H (fvs.map (·.2)) (fs.map (·.2)) S1) : Ow C F H (.ref p) (.oi c fs) S
  | ot {p : Addr} {vs : List V} {ts : List T} {S S1 : Ad} (h : H p = some (.tup vs)) (hp : S p) (hs : ∀ a, S1 a → S a ∧ a ≠ p) (r : OwA C F H vs ts S1) : Ow C F H (.ref p) (.ot ts) S
  | raw {v : V} {S : Ad} : Ow C F H v (.raw v) S
inductive OwA (C : Ctx) (F H : Hp) : List V → List T → Ad → Prop
  | nil {S : Ad} : OwA C F H [] [] S
  | cons {v : V} {t : T} {vs : List V} {ts : List T} {S S1 S2 : Ad} (h : Ow C F H v t S1) (r : OwA C F H vs ts S2) (s1 : ∀ a, S1 a → S a) (s2 : ∀ a, S2 a → S a) (dj : ∀ a, S1 a → S2 a → False) : OwA C F H (v :: vs) (t :: ts) S
end
mutual
theorem Ow.frame {C : Ctx} {F F' H H' : Hp} (e : Same F F') : ∀ {v : V} {t : T} {S : Ad}, (∀ a, S a → H' a = H a) → Ow C F H v t S → Ow C F' H' v t S
  | _, _, _, k, .fz r => .fz (r.mono e)
  | _, _, _, k, .ol h hp hs r => .ol ((k _ hp).trans h) hp hs (OwA.frame e (fun a z => k a (hs a z).1) r)
  | _, _, _, k, .oi h hk hp hs r => .oi ((k _ hp).trans h) hk hp hs (OwA.frame e (fun a z => k a (hs a z).1) r)
  | _, _, _, k, .ot h hp hs r => .ot ((k _ hp).trans h) hp hs (OwA.frame e (fun a z => k a (hs a z).1) r)
  | _, _, _, k, .raw => .raw
theorem OwA.frame {C : Ctx} {F F' H H' : Hp} (e : Same F F') : ∀ {vs : List V} {ts : List T} {S : Ad}, (∀ a, S a → H' a = H a) → OwA C F H vs ts S → OwA C F' H' vs ts S
  | _, _, _, k, .nil => .nil
  | _, _, _, k, .cons h r s1 s2 dj => .cons (Ow.frame e (fun a z => k a (s1 a z)) h) (OwA.frame e (fun a z => k a (s2 a z)) r) s1 s2 dj
end
mutual
theorem Ow.wk {C : Ctx} {F H : Hp} : ∀ {v : V} {t : T} {S S' : Ad}, (∀ a, S a → S' a) → Ow C F H v t S → Ow C F H v t S'
  | _, _, _, _, k, .fz r => .fz r
  | _, _, _, _, k, .ol h hp hs r => .ol h (k _ hp) (fun a z => ⟨k a (hs a z).1, (hs a z).2⟩) r
  | _, _, _, _, k, .oi h hk hp hs r => .oi h hk (k _ hp) (fun a z => ⟨k a (hs a z).1, (hs a z).2⟩) r
  | _, _, _, _, k, .ot h hp hs r => .ot h (k _ hp) (fun a z => ⟨k a (hs a z).1, (hs a z).2⟩) r
  | _, _, _, _, k, .raw => .raw
theorem OwA.wk {C : Ctx} {F H : Hp} : ∀ {vs : List V} {ts : List T} {S S' : Ad}, (∀ a, S a → S' a) → OwA C F H vs ts S → OwA C F H vs ts S'
  | _, _, _, _, k, .nil => .nil
  | _, _, _, _, k, .cons h r s1 s2 dj => .cons h r (fun a z => k a (s1 a z)) (fun a z => k a (s2 a z)) dj
end
/-- an owned thing stands in the heap -/
theorem OwA.len {C : Ctx} {F H : Hp} : ∀ {vs : List V} {l : List T} {S : Ad}, OwA C F H vs l S → vs.length = l.length
  | _, _, _, .nil => rfl
  | _, _, _, .cons _ r _ _ _ => congrArg (· + 1) r.len
/-! ### slots -/
abbrev SD := List (Option T)
inductive Sl (C : Ctx) (F H : Hp) : L2.St → SD → Ad → Prop
  | nil {S : Ad} : Sl C F H [] [] S
  | no {o : Option V} {σ : L2.St} {s : SD} {S : Ad} (r : Sl C F H σ s S) : Sl C F H (o :: σ) (none :: s) S
  | so {v : V} {t : T} {σ : L2.St} {s : SD} {S S1 S2 : Ad} (h : Ow C F H v t S1) (r : Sl C F H σ s S2) (s1 : ∀ a, S1 a → S a) (s2 : ∀ a, S2 a → S a) (dj : ∀ a, S1 a → S2 a → False) : Sl C F H (some v :: σ) (some t :: s) S
theorem Sl.frame {C : Ctx} {F F' H H' : Hp} (e : Same F F') : ∀ {σ : L2.St} {s : SD} {S : Ad}, (∀ a, S a → H' a = H a) → Sl C F H σ s S → Sl C F' H' σ s S
  | _, _, _, k, .nil => .nil
  | _, _, _, k, .no r => .no (Sl.frame e k r)
  | _, _, _, k, .so h r s1 s2 dj => .so (Ow.frame e (fun a z => k a (s1 a z)) h) (Sl.frame e (fun a z => k a (s2 a z)) r) s1 s2 dj
theorem Sl.wk {C : Ctx} {F H : Hp} : ∀ {σ : L2.St} {s : SD} {S S' : Ad}, (∀ a, S a → S' a) → Sl C F H σ s S → Sl C F H σ s S'
  | _, _, _, _, k, .nil => .nil
  | _, _, _, _, k, .no r => .no (Sl.wk k r)
  | _, _, _, _, k, .so h r s1 s2 dj => .so h r (fun a z => k a (s1 a z)) (fun a z => k a (s2 a z)) dj
theorem Sl.len {C : Ctx} {F H : Hp} : ∀ {σ : L2.St} {s : SD} {S : Ad}, Sl C F H σ s S → σ.length = s.length
  | _, _, _, .nil => rfl
  | _, _, _, .no r => congrArg (· + 1) r.len
  | _, _, _, .so _ r _ _ _ => congrArg (· + 1) r.len
/-- the slot i and the others: what a new value there keeps -/
theorem Sl.focus {C : Ctx} {F H : Hp} : ∀ {σ : L2.St} {s : SD} {S : Ad} (i : Nat) {t : T}, Sl C F H σ s S → s[i]? = some (some t) → ∃ v S1 S2, σ[i]? = some (some v) ∧ Ow C F H v t S1 ∧ (∀ a, S1 a → S a) ∧ (∀ a, S2 a → S a) ∧ (∀ a, S1 a → S2 a → False) ∧ Sl C F H σ (s.set i none) S2 ∧
    ∀ (F' H' : Hp) (t' : T) (S1' : Ad), Same F F' → (∀ a, S2 a → H' a = H a) → Ow C F' H' v t' S1' → (∀ a, S1' a → S2 a → False) → ∀ S' : Ad, (∀ a, S1' a → S' a) → (∀ a, S2 a → S' a) → Sl C F' H' σ (s.set i (some t')) S'
  | _, _, _, i, t, .nil, h => by simp at h
  | _, _, _, 0, t, .no r, h => by simp at h
  | _, _, _, i + 1, t, .no r, h => by
    simp at h
    obtain ⟨v, S1, S2, e, o, a1, a2, dj, q, k⟩ := Sl.focus i r h
    exact ⟨v, S1, S2, by simpa using e, o, a1, a2, dj, .no q, fun F' H' t' S1' eF kH o' d' S' x y => .no (k F' H' t' S1' eF kH o' d' S' x y)⟩
  | _, _, S, 0, t, .so (v := v) (S1 := S1) (S2 := S2) ho r s1 s2 dj, h => by
    simp at h
    subst h
    exact ⟨v, S1, S2, rfl, ho, s1, s2, dj, .no r, fun F' H' t' S1' eF kH o' d' S' x y => .so o' (Sl.frame eF kH r) x y d'⟩
  | _, _, S, i + 1, t, .so (v := w) (t := u) (S1 := Z1) (S2 := Z2) ho r s1 s2 dj, h => by
    simp at h
    obtain ⟨v, S1, S2, e, o, a1, a2, d, q, k⟩ := Sl.focus i r h
    refine ⟨v, S1, fun a => Z1 a ∨ S2 a, by simpa using e, o, fun a z => s2 a (a1 a z), fun a z => z.elim (s1 a) (fun z => s2 a (a2 a z)), fun a x y => y.elim (fun y => dj a y (a1 a x)) (d a x), .so ho q (fun a z => .inl z) (fun a z => .inr z) (fun a x y => dj a x (a2 a y)), ?_⟩
    intro F' H' t' S1' eF kH o' d' S' x y
    refine .so (S1 := Z1) (S2 := fun a => S1' a ∨ S2 a) (Ow.frame eF (fun a z => kH a (.inl z)) ho) (k F' H' t' S1' eF (fun a z => kH a (.inr z)) o' (fun a x y => d' a x (.inr y)) _ (fun a z => .inl z) (fun a z => .inr z)) (fun a z => y a (.inl z)) (fun a z => z.elim (x a) (fun z => y a (.inr z))) ?_
    intro a x1 y1
    rcases y1 with y1 | y1
    · exact d' a y1 (.inl x1)
    · exact dj a x1 (a2 a y1)

/-! ### steps -/
structure Wf (F H : Hp) (S : Ad) : Prop where
  fh : Same F H
  fr : ∀ a, S a → F a = none
  ex : ∀ a, S a → H a ≠ none
structure Stp (F H : Hp) (S : Ad) (F' H' : Hp) (S' : Ad) : Prop where
  ff : Same F F'
  wf : Wf F' H' S'
  keep : ∀ a o, H a = some o → ¬ S a → H' a = some o
  new : ∀ a o, F' a = some o → F a = some o ∨ H a = none ∨ S a
  own : ∀ a, S' a → S a ∨ H a = none
theorem Wf.sub {F H : Hp} {S S' : Ad} (w : Wf F H S) (h : ∀ a, S' a → S a) : Wf F H S' := ⟨w.fh, fun a z => w.fr a (h a z), fun a z => w.ex a (h a z)⟩
theorem Stp.refl {F H : Hp} {S : Ad} (w : Wf F H S) : Stp F H S F H S := ⟨Same.refl F, w, fun _ _ h _ => h, fun _ _ h => .inl h, fun _ h => .inl h⟩
theorem Stp.sub {F H F' H' : Hp} {S S' S2 : Ad} (st : Stp F H S F' H' S') (h : ∀ a, S2 a → S' a) : Stp F H S F' H' S2 := ⟨st.ff, st.wf.sub h, st.keep, st.new, fun a z => st.own a (h a z)⟩
/-- what is beside the owned part is as it was -/
theorem Stp.side {F H F' H' : Hp} {S S' : Ad} (st : Stp F H S F' H' S') {a : Addr} (h1 : H a ≠ none) (h2 : ¬ S a) (h3 : F a = none) : H' a = H a ∧ F' a = none ∧ ¬ S' a := by
  cases e : H a with
  | none => exact absurd e h1
  | some o =>
    refine ⟨st.keep a o e h2, ?_, fun z => ?_⟩
    · cases e2 : F' a with
      | none => rfl
      | some o2 =>
        rcases st.new a o2 e2 with z | z | z
        · rw [h3] at z; cases z
        · rw [e] at z; cases z
        · exact absurd z h2
    · rcases st.own a z with z | z
      · exact h2 z
      · rw [e] at z; cases z
theorem Stp.none_of {F H F' H' : Hp} {S S' : Ad} (st : Stp F H S F' H' S') {a : Addr} (h : H' a = none) : S a ∨ H a = none := by
  by_cases z : S a
  · exact .inl z
  · cases e : H a with
    | none => exact .inr rfl
    | some o =>
      rw [st.keep a o e z] at h
      cases h
/-- one after the other, Z beside the second -/
theorem Stp.seq {F H F1 H1 F2 H2 : Hp} {S S1 S2 Z : Ad} (a : Stp F H S F1 H1 (fun a => Z a ∨ S1 a)) (b : Stp F1 H1 S1 F2 H2 S2) (dj : ∀ a, Z a → S1 a → False) : Stp F H S F2 H2 (fun a => Z a ∨ S2 a) ∧ (∀ x, Z x → H2 x = H1 x) ∧ (∀ x, Z x → S2 x → False) := by
  have side : ∀ x, Z x → H2 x = H1 x ∧ F2 x = none ∧ ¬ S2 x := fun x z => b.side (a.wf.ex x (.inl z)) (fun y => dj x z y) (a.wf.fr x (.inl z))
  refine ⟨⟨a.ff.trans b.ff, ⟨b.wf.fh, ?_, ?_⟩, ?_, ?_, ?_⟩, fun x z => (side x z).1, fun x z => (side x z).2.2⟩
  · intro x z
    rcases z with z | z
    · exact (side x z).2.1
    · exact b.wf.fr x z
  · intro x z
    rcases z with z | z
    · rw [(side x z).1]
      exact a.wf.ex x (.inl z)
    · exact b.wf.ex x z
  · intro x o h n
    refine b.keep x o (a.keep x o h n) fun z => ?_
    rcases a.own x (.inr z) with y | y
    · exact n y
    · rw [h] at y; cases y
  · intro x o h
    rcases b.new x o h with z | z | z
    · exact a.new x o z
    · rcases a.none_of z with y | y
      · exact .inr (.inr y)
      · exact .inr (.inl y)
    · rcases a.own x (.inr z) with y | y
      · exact .inr (.inr y)
      · exact .inr (.inl y)
  · intro x z
    rcases z with z | z
    · exact a.own x (.inl z)
    · rcases b.own x z with y | y
      · exact a.own x (.inr y)
      · exact a.none_of y
theorem Stp.trans {F H F1 H1 F2 H2 : Hp} {S S1 S2 : Ad} (a : Stp F H S F1 H1 S1) (b : Stp F1 H1 S1 F2 H2 S2) : Stp F H S F2 H2 S2 := by
  have q := (Stp.seq (Z := fun _ => False) (a.sub (S2 := fun a => False ∨ S1 a) fun x z => z.elim False.elim id) b fun _ z => z.elim).1
  exact q.sub fun x z => .inr z
/-- a new object, frozen -/
theorem Stp.newF {F H : Hp} {S : Ad} {p : Addr} {o : HO} (w : Wf F H S) (h : H p = none) : Stp F H S (upd F p o) (upd H p o) S := by
  have hF : F p = none := by
    cases e : F p with
    | none => rfl
    | some u =>
      rw [w.fh p u e] at h
      cases h
  have np : ∀ a, S a → a ≠ p := fun a z e => w.ex a z (by rw [e]; exact h)
  refine ⟨fun a u e => by rw [upd_ne (ne_of_none e hF)]; exact e, ⟨fun a u e => ?_, fun a z => by rw [upd_ne (np a z)]; exact w.fr a z, fun a z => by rw [upd_ne (np a z)]; exact w.ex a z⟩, fun a u e _ => by rw [upd_ne (ne_of_none e h)]; exact e, fun a u e => ?_, fun a z => .inl z⟩
  · by_cases q : a = p
    · subst q
      rw [upd_same] at e ⊢
      exact e
    · rw [upd_ne q] at e ⊢
      exact w.fh a u e
  · by_cases q : a = p
    · subst q
      exact .inr (.inl h)
    · rw [upd_ne q] at e
      exact .inl e
/-- a new object, owned -/
theorem Stp.newO {F H : Hp} {S : Ad} {p : Addr} {o : HO} (w : Wf F H S) (h : H p = none) : Stp F H S F (upd H p o) (fun a => a = p ∨ S a) := by
  have hF : F p = none := by
    cases e : F p with
    | none => rfl
    | some u =>
      rw [w.fh p u e] at h
      cases h
  have np : ∀ a, S a → a ≠ p := fun a z e => w.ex a z (by rw [e]; exact h)
  refine ⟨Same.refl F, ⟨fun a u e => by rw [upd_ne (ne_of_none e hF)]; exact w.fh a u e, fun a z => ?_, fun a z => ?_⟩, fun a u e _ => by rw [upd_ne (ne_of_none e h)]; exact e, fun a u e => .inl e, fun a z => ?_⟩
  · rcases z with z | z
    · rw [z]; exact hF
    · exact w.fr a z
  · rcases z with z | z
    · rw [z, upd_same]; simp
    · rw [upd_ne (np a z)]; exact w.ex a z
  · rcases z with z | z
    · rw [z]; exact .inr h
    · exact .inl z
/-- an owned object changed -/
theorem Stp.put {F H : Hp} {S : Ad} {p : Addr} {o : HO} (w : Wf F H S) (h : S p) : Stp F H S F (upd H p o) S := by
  refine ⟨Same.refl F, ⟨fun a u e => ?_, w.fr, fun a z => ?_⟩, fun a u e n => ?_, fun a u e => .inl e, fun a z => .inl z⟩
  · by_cases q : a = p
    · subst q
      rw [w.fr a h] at e
      cases e
    · rw [upd_ne q]
      exact w.fh a u e
  · by_cases q : a = p
    · subst q
      rw [upd_same]; simp
    · rw [upd_ne q]
      exact w.ex a z
  · by_cases q : a = p
    · subst q
      exact absurd h n
    · rw [upd_ne q]
      exact e
theorem Same.own {F H H' : Hp} {S : Ad} (w : Wf F H S) (e : Same H H') : ∀ a, S a → H' a = H a := fun a z => by
  cases q : H a with
  | none => exact absurd q (w.ex a z)
  | some o => exact e a o q
/-! ### judgements -/
/-- te, from the slots s, gives t and leaves s'; p: nothing that stood before is changed -/
def Ev (C : Ctx) (p : Bool) (te : TE) (s : SD) (t : T) (s' : SD) : Prop := ∀ (F : Hp) (S : Ad) (σ : L2.St) (H : Hp) (Q : VK), Wf F H S → Sl C F H σ s S →
  (∀ v F' (Z S' : Ad) H', Stp F H S F' H' (fun a => Z a ∨ S' a) → (p = true → Same H H') → Ow C F' H' v t Z → (∀ a, Z a → S' a → False) → Sl C F' H' σ s' S' → Q v H') → te σ H Q
def EvT (C : Ctx) (p : Bool) (tt : TT) (s : SD) (b : Bool) (s' : SD) : Prop := ∀ (F : Hp) (S : Ad) (σ : L2.St) (H : Hp) (Q : Bool → Hp → Prop), Wf F H S → Sl C F H σ s S →
  (∀ F' (S' : Ad) H', Stp F H S F' H' S' → (p = true → Same H H') → Sl C F' H' σ s' S' → Q b H') → tt σ H Q
def EvA (C : Ctx) (p : Bool) (ta : TA) (s : SD) (ts : List T) (s' : SD) : Prop := ∀ (F : Hp) (S : Ad) (σ : L2.St) (H : Hp) (Q : List V → Hp → Prop), Wf F H S → Sl C F H σ s S →
  (∀ vs F' (Z S' : Ad) H', Stp F H S F' H' (fun a => Z a ∨ S' a) → (p = true → Same H H') → OwA C F' H' vs ts Z → (∀ a, Z a → S' a → False) → Sl C F' H' σ s' S' → Q vs H') → ta σ H Q
/-- nothing at all changes, t may be a part of what a slot owns -/
def Vw (C : Ctx) (te : TE) (s : SD) (t : T) : Prop := ∀ (F : Hp) (S : Ad) (σ : L2.St) (H : Hp) (Q : VK), Wf F H S → Sl C F H σ s S → (∀ v (Z : Ad), Ow C F H v t Z → (∀ a, Z a → S a) → Q v H) → te σ H Q
def no : Ad := fun _ => False
theorem Ow.inv {C : Ctx} {F H : Hp} {v : V} {d : D} {S : Ad} (h : Ow C F H v (.fz d) S) : Rp C F v d := by
  cases h with
  | fz r => exact r
section
variable {C : Ctx} {p q : Bool} {ta tb te : TE} {s s1 s2 : SD} {t u : T} {d d1 d2 : D}
/-- for a value that is frozen -/
theorem Ev.use (h : Ev C p te s (.fz d) s1) {F : Hp} {S : Ad} {σ : L2.St} {H : Hp} {Q : VK} (w : Wf F H S) (l : Sl C F H σ s S) (k : ∀ v F' (S' : Ad) H', Stp F H S F' H' S' → (p = true → Same H H') → Rp C F' v d → Sl C F' H' σ s1 S' → Q v H') : te σ H Q :=
  h F S σ H Q w l fun v F' Z S' H' st sm o _ l' => k v F' S' H' (st.sub fun a z => .inr z) sm o.inv l'
theorem Ev.mk (h : ∀ (F : Hp) (S : Ad) (σ : L2.St) (H : Hp) (Q : VK), Wf F H S → Sl C F H σ s S → (∀ v F' (S' : Ad) H', Stp F H S F' H' S' → (p = true → Same H H') → Rp C F' v d → Sl C F' H' σ s1 S' → Q v H') → te σ H Q) : Ev C p te s (.fz d) s1 :=
  fun F S σ H Q w l k => h F S σ H Q w l fun v F' S' H' st sm r l' => k v F' no S' H' (st.sub fun a z => z.elim False.elim id) sm (.fz r) (fun _ z => z.elim) l'
theorem Ev.ofVw (h : Vw C te s (.fz d)) : Ev C true te s (.fz d) s := Ev.mk fun F S σ H Q w l k => h F S σ H Q w l fun v Z o _ => k v F S H (Stp.refl w) (fun _ => Same.refl H) o.inv l
theorem Ev.weak (h : Ev C p te s t s1) (e : q = true → p = true) : Ev C q te s t s1 := fun F S σ H Q w l k => h F S σ H Q w l fun v F' Z S' H' st sm o dj l' => k v F' Z S' H' st (fun z => sm (e z)) o dj l'
theorem Sl.get {F H : Hp} {σ : L2.St} {S : Ad} {i : Nat} (l : Sl C F H σ s S) (h : s[i]? = some (some t)) : ∃ v Z, σ[i]? = some (some v) ∧ Ow C F H v t Z ∧ ∀ a, Z a → S a := by
  obtain ⟨v, S1, S2, e, o, a, _⟩ := l.focus i h
  exact ⟨v, S1, e, o, a⟩
theorem vw_var {i : Nat} (h : s[i]? = some (some t)) : Vw C (tVar i) s t := fun F S σ H Q w l k => by
  obtain ⟨v, Z, e, o, z⟩ := l.get h
  exact ⟨v, e, k v Z o z⟩
theorem vw_c {v : V} (h : ∀ F, Rp C F v d) : Vw C (tC v) s (.fz d) := fun F S σ H Q w l k => k v no (.fz (h F)) fun _ z => z.elim
theorem vw_int {n : Int} : Vw C (tC (.int n)) s (.fz (.int n)) := vw_c fun _ => .int n
theorem vw_str {x : Str} : Vw C (tC (.str x)) s (.fz (.str x)) := vw_c fun _ => .str x
theorem vw_bl {b : Bool} : Vw C (tC (.bl b)) s (.fz (.bl b)) := vw_c fun _ => .bl b
theorem vw_non : Vw C (tC .non) s (.fz .non) := vw_c fun _ => .non
theorem ev_var {i : Nat} (h : s[i]? = some (some (.fz d))) : Ev C true (tVar i) s (.fz d) s := .ofVw (vw_var h)
theorem ev_int {n : Int} : Ev C true (tC (.int n)) s (.fz (.int n)) s := .ofVw vw_int
theorem ev_str {x : Str} : Ev C true (tC (.str x)) s (.fz (.str x)) s := .ofVw vw_str
theorem ev_bl {b : Bool} : Ev C true (tC (.bl b)) s (.fz (.bl b)) s := .ofVw vw_bl
theorem ev_non : Ev C true (tC .non) s (.fz .non) s := .ofVw vw_non
/-- the slot's own thing is handed on -/
theorem ev_mv {i : Nat} (h : s[i]? = some (some t)) : Ev C true (tVar i) s t (s.set i none) := fun F S σ H Q w l k => by
  obtain ⟨v, S1, S2, e, o, a1, a2, dj, l2, _⟩ := l.focus i h
  exact ⟨v, e, k v F S1 S2 H ((Stp.refl w).sub fun a z => z.elim (a1 a) (a2 a)) (fun _ => Same.refl H) o dj l2⟩
/-- an operation on two frozen values -/
def RvD (C : Ctx) (r : R2) (d1 d2 : D) (t : T) : Prop := ∀ (v1 v2 : V) (F : Hp) (S : Ad) (H : Hp) (Q : VK), Wf F H S → Rp C F v1 d1 → Rp C F v2 d2 → (∀ v F' (Z : Ad) H', Stp F H S F' H' (fun a => Z a ∨ S a) → Same H H' → Ow C F' H' v t Z → (∀ a, Z a → S a → False) → Q v H') → r v1 v2 H Q
theorem RvD.flat {r : R2} (h : ∀ v1 v2 F H Q, Same F H → Rp C F v1 d1 → Rp C F v2 d2 → (∀ v, Rp C F v d → Q v H) → r v1 v2 H Q) : RvD C r d1 d2 (.fz d) := fun v1 v2 F S H Q w r1 r2 k => h v1 v2 F H Q w.fh r1 r2 fun v rv => k v F no H ((Stp.refl w).sub fun a z => z.elim False.elim id) (Same.refl H) (.fz rv) fun _ z => z.elim
theorem ev_op {r : R2} (h1 : Ev C p ta s (.fz d1) s1) (h2 : Ev C q tb s1 (.fz d2) s2) (hr : RvD C r d1 d2 t) : Ev C (p && q) (tOp r ta tb) s t s2 := fun F S σ H Q w l k =>
  h1.use w l fun v1 F1 S1 H1 st1 p1 r1 l1 => h2.use st1.wf l1 fun v2 F2 S2 H2 st2 p2 r2 l2 => hr v1 v2 F2 S2 H2 Q st2.wf (r1.mono st2.ff) r2 fun v F3 Z H3 st3 sm o dj =>
    k v F3 Z S2 H3 ((st1.trans st2).trans st3) (fun z => ((p1 (by revert z; cases p <;> simp)).trans (p2 (by revert z; cases p <;> simp))).trans sm) o dj (l2.frame st3.ff (Same.own st2.wf sm))
theorem Rp.intv {F : Hp} {v : V} {n : Int} (h : Rp C F v (.int n)) : v = .int n := by cases h; rfl
theorem Rp.blv {F : Hp} {v : V} {n : Bool} (h : Rp C F v (.bl n)) : v = .bl n := by cases h; rfl
theorem Rp.strv {F : Hp} {v : V} {n : Str} (h : Rp C F v (.str n)) : v = .str n := by cases h; rfl
theorem Rp.nonv {F : Hp} {v : V} (h : Rp C F v .non) : v = .non := by cases h; rfl
theorem rv_I0 {g : Int → Int → V} {i j : Int} (h : ∀ F, Rp C F (g i j) d) : RvD C (rI0 g) (.int i) (.int j) (.fz d) := .flat fun v1 v2 F H Q _ r1 r2 k => ⟨i, j, r1.intv, r2.intv, k _ (h F)⟩
theorem rv_I {Cn : Int → Int → Prop} {g : Int → Int → V} {i j : Int} (hc : Cn i j) (h : ∀ F, Rp C F (g i j) d) : RvD C (rI Cn g) (.int i) (.int j) (.fz d) := .flat fun v1 v2 F H Q _ r1 r2 k => ⟨i, j, r1.intv, r2.intv, hc, k _ (h F)⟩
/-- arithmetic, comparisons of ints -/
theorem ev_I0 {g : Int → Int → V} {i j : Int} (h1 : Ev C p ta s (.fz (.int i)) s1) (h2 : Ev C q tb s1 (.fz (.int j)) s2) (h : ∀ F, Rp C F (g i j) d) : Ev C (p && q) (tOp (rI0 g) ta tb) s (.fz d) s2 := ev_op h1 h2 (rv_I0 h)
theorem ev_I {Cn : Int → Int → Prop} {g : Int → Int → V} {i j : Int} (h1 : Ev C p ta s (.fz (.int i)) s1) (h2 : Ev C q tb s1 (.fz (.int j)) s2) (hc : Cn i j) (h : ∀ F, Rp C F (g i j) d) : Ev C (p && q) (tOp (rI Cn g) ta tb) s (.fz d) s2 := ev_op h1 h2 (rv_I hc h)
end
end VD
set_option maxRecDepth 100000
set_option maxHeartbeats 4000000
namespace VD
open PySem PySem.Spec PyProof.Rows L2
/-! ### freezing -/
mutual
inductive Fz (C : Ctx) : T → D → Prop
  | fz (d : D) : Fz C (.fz d) d
  | ol {ts : List T} {ds : List D} (h : FzA C ts ds) : Fz C (.ol ts) (.lst ds)
  | oi {c : Nat} {fs : List (Str × T)} {ds : List D} (hk : fs.map (·.1) = C.fld c) (h : FzA C (fs.map (·.2)) ds) : Fz C (.oi c fs) (.ins c ds)
  | ot {ts : List T} {ds : List D} (h : FzA C ts ds) : Fz C (.ot ts) (.tup ds)
inductive FzA (C : Ctx) : List T → List D → Prop
  | nil : FzA C [] []
  | cons {t : T} {d : D} {ts : List T} {ds : List D} (h : Fz C t d) (r : FzA C ts ds) : FzA C (t :: ts) (d :: ds)
end
theorem FzA.map {C : Ctx} : ∀ ds : List D, FzA C (ds.map .fz) ds
  | [] => .nil
  | d :: ds => .cons (.fz d) (FzA.map ds)
theorem FzA.app {C : Ctx} : ∀ {ts us : List T} {ds es : List D}, FzA C ts ds → FzA C us es → FzA C (ts ++ us) (ds ++ es)
  | _, _, _, _, .nil, h => h
  | _, _, _, _, .cons h r, z => .cons h (r.app z)
open Classical in
/-- S joins what is frozen -/
noncomputable def join (F H : Hp) (S : Ad) : Hp := fun a => if S a then H a else F a
theorem join_in {F H : Hp} {S : Ad} {a : Addr} (h : S a) : join F H S a = H a := by unfold join; rw [if_pos h]
theorem join_out {F H : Hp} {S : Ad} {a : Addr} (h : ¬ S a) : join F H S a = F a := by unfold join; rw [if_neg h]
theorem join_same {F H : Hp} {S : Ad} (h : ∀ a, S a → F a = none) : Same F (join F H S) := fun a o e => by
  by_cases z : S a
  · rw [h a z] at e; cases e
  · rw [join_out z]; exact e
mutual
theorem Ow.frz {C : Ctx} {F H G : Hp} (e : Same F G) : ∀ {v : V} {t : T} {d : D} {S : Ad}, (∀ a, S a → G a = H a) → Ow C F H v t S → Fz C t d → Rp C G v d
  | _, _, _, _, k, .fz r, .fz _ => r.mono e
  | _, _, _, _, k, .ol h hp hs r, .ol q => .lst (SqL.of ((k _ hp).trans h)) (OwA.frz e (fun a z => k a (hs a z).1) r q)
  | _, _, _, _, k, .oi h hk hp hs r, .oi hk2 q => .ins ((k _ hp).trans h) (hk.trans hk2) (OwA.frz e (fun a z => k a (hs a z).1) r q)
  | _, _, _, _, k, .ot h hp hs r, .ot q => .tup (SqT.of ((k _ hp).trans h)) (OwA.frz e (fun a z => k a (hs a z).1) r q)
theorem OwA.frz {C : Ctx} {F H G : Hp} (e : Same F G) : ∀ {vs : List V} {ts : List T} {ds : List D} {S : Ad}, (∀ a, S a → G a = H a) → OwA C F H vs ts S → FzA C ts ds → RpA C G vs ds
  | _, _, _, _, k, .nil, .nil => .nil
  | _, _, _, _, k, .cons h r s1 s2 dj, .cons q z => .cons (Ow.frz e (fun a y => k a (s1 a y)) h q) (OwA.frz e (fun a y => k a (s2 a y)) r z)
end
theorem Stp.frz {F H : Hp} {Z S : Ad} (w : Wf F H (fun a => Z a ∨ S a)) (dj : ∀ a, Z a → S a → False) : Stp F H (fun a => Z a ∨ S a) (join F H Z) H S := by
  refine ⟨join_same fun a z => w.fr a (.inl z), ⟨fun a o e => ?_, fun a z => ?_, fun a z => w.ex a (.inr z)⟩, fun _ _ h _ => h, fun a o e => ?_, fun a z => .inl (.inr z)⟩
  · by_cases q : Z a
    · rw [join_in q] at e; exact e
    · rw [join_out q] at e; exact w.fh a o e
  · rw [join_out fun q => dj a q z]
    exact w.fr a (.inr z)
  · by_cases q : Z a
    · exact .inr (.inr (.inl q))
    · rw [join_out q] at e; exact .inl e
section
variable {C : Ctx} {p q : Bool} {ta tb te : TE} {tt tu : TT} {tr : TA} {s s1 s2 s3 : SD} {t u : T} {ts us : List T} {d d1 d2 : D} {ds : List D} {a b : Bool}
theorem OwA.rp {F H : Hp} {vs : List V} {ds : List D} {S : Ad} (h : OwA C F H vs (ds.map .fz) S) : RpA C F vs ds := by
  induction ds generalizing vs S with
  | nil => cases h; exact .nil
  | cons d ds ih =>
    cases h with
    | cons h r _ _ _ => exact .cons h.inv (ih r)
theorem OwA.ofRp {F H : Hp} {vs : List V} {ds : List D} {S : Ad} (h : RpA C F vs ds) : OwA C F H vs (ds.map .fz) S := by
  induction ds generalizing vs S with
  | nil => cases h; exact .nil
  | cons d ds ih =>
    cases h with
    | cons h r => exact .cons (S1 := no) (S2 := no) (.fz h) ((ih r).wk fun _ z => z) (fun _ z => z.elim) (fun _ z => z.elim) fun _ z => z.elim
theorem Ev.frz (h : Ev C p te s t s1) (hf : Fz C t d) : Ev C p te s (.fz d) s1 := Ev.mk fun F S σ H Q w l k => h F S σ H Q w l fun v F' Z S' H' st sm o dj l' =>
  k v _ S' H' (st.trans (Stp.frz st.wf dj)) sm (Ow.frz (join_same fun a z => st.wf.fr a (.inl z)) (fun a z => join_in z) o hf) (l'.frame (join_same fun a z => st.wf.fr a (.inl z)) fun _ _ => rfl)
/-- the slot's own thing, frozen where it is -/
theorem ev_fz {i : Nat} (h : s[i]? = some (some t)) (hf : Fz C t d) : Ev C true (tVar i) s (.fz d) (s.set i (some (.fz d))) := Ev.mk fun F S σ H Q w l k => by
  obtain ⟨v, S1, S2, e, o, a1, a2, dj, l2, put⟩ := l.focus i h
  have w2 : Wf F H (fun a => S1 a ∨ S2 a) := w.sub fun a z => z.elim (a1 a) (a2 a)
  have js := join_same (H := H) fun a z => w2.fr a (.inl z)
  have r := Ow.frz js (fun a z => join_in z) o hf
  exact ⟨v, e, k v (join F H S1) S2 H (((Stp.refl w).sub fun a z => z.elim (a1 a) (a2 a)).trans (Stp.frz w2 dj)) (fun _ => Same.refl H) r (put _ H (.fz d) no js (fun _ _ => rfl) (.fz r) (fun _ z => z.elim) S2 (fun _ z => z.elim) fun _ z => z)⟩

/-! ### tests -/
theorem EvT.weak (h : EvT C p tt s b s1) (e : q = true → p = true) : EvT C q tt s b s1 := fun F S σ H Q w l k => h F S σ H Q w l fun F' S' H' st sm l' => k F' S' H' st (fun z => sm (e z)) l'
theorem et_test (h : Ev C p te s (.fz (.bl b)) s1) : EvT C p (tTest te) s b s1 := fun F S σ H Q w l k => h.use w l fun v F' S' H' st sm r l' => ⟨b, r.blv, k F' S' H' st sm l'⟩
theorem et_B (h : Ev C p te s (.fz (.bl b)) s1) : EvT C p (tB te) s b s1 := fun F S σ H Q w l k => h.use w l fun v F' S' H' st sm r l' => ⟨b, r.blv, k F' S' H' st sm l'⟩
theorem et_not (h : EvT C p tt s b s1) : EvT C p (tNot tt) s (!b) s1 := fun F S σ H Q w l k => h F S σ H _ w l fun F' S' H' st sm l' => k F' S' H' st sm l'
theorem pq1 {p q : Bool} (h : (p && q) = true) : p = true := by cases p <;> simp_all
theorem pq2 {p q : Bool} (h : (p && q) = true) : q = true := by cases p <;> simp_all
theorem et_and (h1 : EvT C p tt s a s) (h2 : a = true → EvT C q tu s b s) : EvT C (p && q) (tAnd tt tu) s (a && b) s := fun F S σ H Q w l k => h1 F S σ H _ w l fun F1 S1 H1 st1 sm1 l1 => by
  cases a with
  | true =>
    show tu σ H1 Q
    exact h2 rfl F1 S1 σ H1 Q st1.wf l1 fun F2 S2 H2 st2 sm2 l2 => k F2 S2 H2 (st1.trans st2) (fun z => (sm1 (pq1 z)).trans (sm2 (pq2 z))) l2
  | false =>
    show Q false H1
    exact k F1 S1 H1 st1 (fun z => sm1 (pq1 z)) l1
theorem et_or (h1 : EvT C p tt s a s) (h2 : a = false → EvT C q tu s b s) : EvT C (p && q) (tOr tt tu) s (a || b) s := fun F S σ H Q w l k => h1 F S σ H _ w l fun F1 S1 H1 st1 sm1 l1 => by
  cases a with
  | false =>
    show tu σ H1 Q
    exact h2 rfl F1 S1 σ H1 Q st1.wf l1 fun F2 S2 H2 st2 sm2 l2 => k F2 S2 H2 (st1.trans st2) (fun z => (sm1 (pq1 z)).trans (sm2 (pq2 z))) l2
  | true =>
    show Q true H1
    exact k F1 S1 H1 st1 (fun z => sm1 (pq1 z)) l1
theorem ev_andV (h1 : Ev C p ta s (.fz (.bl a)) s) (h2 : a = true → Ev C q tb s (.fz (.bl b)) s) : Ev C (p && q) (tAndV ta tb) s (.fz (.bl (a && b))) s := Ev.mk fun F S σ H Q w l k => h1.use w l fun v F1 S1 H1 st1 sm1 r1 l1 => ⟨a, r1.blv, by
  cases a with
  | true =>
    show tb σ H1 Q
    exact (h2 rfl).use st1.wf l1 fun v F2 S2 H2 st2 sm2 r2 l2 => k v F2 S2 H2 (st1.trans st2) (fun z => (sm1 (pq1 z)).trans (sm2 (pq2 z))) (by simpa using r2) l2
  | false =>
    show Q (.bl false) H1
    exact k _ F1 S1 H1 st1 (fun z => sm1 (pq1 z)) (by simpa using Rp.bl false) l1⟩
theorem ev_orV (h1 : Ev C p ta s (.fz (.bl a)) s) (h2 : a = false → Ev C q tb s (.fz (.bl b)) s) : Ev C (p && q) (tOrV ta tb) s (.fz (.bl (a || b))) s := Ev.mk fun F S σ H Q w l k => h1.use w l fun v F1 S1 H1 st1 sm1 r1 l1 => ⟨a, r1.blv, by
  cases a with
  | false =>
    show tb σ H1 Q
    exact (h2 rfl).use st1.wf l1 fun v F2 S2 H2 st2 sm2 r2 l2 => k v F2 S2 H2 (st1.trans st2) (fun z => (sm1 (pq1 z)).trans (sm2 (pq2 z))) (by simpa using r2) l2
  | true =>
    show Q (.bl true) H1
    exact k _ F1 S1 H1 st1 (fun z => sm1 (pq1 z)) (by simpa using Rp.bl true) l1⟩
theorem ev_notV (h1 : Ev C p ta s (.fz (.bl a)) s1) : Ev C p (tNotV ta) s (.fz (.bl (!a))) s1 := Ev.mk fun F S σ H Q w l k => h1.use w l fun v F1 S1 H1 st1 sm1 r1 l1 => ⟨a, r1.blv, k _ F1 S1 H1 st1 sm1 (.bl _) l1⟩
theorem ev_if (h : EvT C p tt s a s1) (h1 : a = true → Ev C q ta s1 t s2) (h2 : a = false → Ev C q tb s1 t s2) : Ev C (p && q) (tIf tt ta tb) s t s2 := fun F S σ H Q w l k => h F S σ H _ w l fun F1 S1 H1 st1 sm1 l1 => by
  have go : ∀ {tx : TE}, Ev C q tx s1 t s2 → tx σ H1 Q := fun hx => hx F1 S1 σ H1 Q st1.wf l1 fun v F2 Z S2 H2 st2 sm2 o dj l2 => k v F2 Z S2 H2 (st1.trans st2) (fun z => (sm1 (pq1 z)).trans (sm2 (pq2 z))) o dj l2
  cases a with
  | true => exact go (h1 rfl)
  | false => exact go (h2 rfl)

/-! ### argument lists, displays -/
theorem ea_nil : EvA C true tNil s [] s := fun F S σ H Q w l k => k [] F no S H ((Stp.refl w).sub fun a z => z.elim False.elim id) (fun _ => Same.refl H) .nil (fun _ z => z.elim) l
theorem ea_cons (h : Ev C p te s t s1) (hr : EvA C q tr s1 ts s2) : EvA C (p && q) (tCons te tr) s (t :: ts) s2 := fun F S σ H Q w l k => h F S σ H _ w l fun v F1 Z1 S1 H1 st1 sm1 o1 dj1 l1 =>
  hr F1 S1 σ H1 _ (st1.wf.sub fun a z => .inr z) l1 fun vs F2 Z2 S2 H2 st2 sm2 o2 dj2 l2 => by
    obtain ⟨st, same, dj⟩ := st1.seq st2 dj1
    refine k (v :: vs) F2 (fun a => Z1 a ∨ Z2 a) S2 H2 (st.sub fun a z => ?_) (fun z => (sm1 (pq1 z)).trans (sm2 (pq2 z))) ?_ ?_ l2
    · rcases z with (z | z) | z
      · exact .inl z
      · exact .inr (.inl z)
      · exact .inr (.inr z)
    · exact .cons (o1.frame st2.ff same) o2 (fun a z => .inl z) (fun a z => .inr z) fun a x y => dj a x (.inl y)
    · intro a x y
      rcases x with x | x
      · exact dj a x (.inr y)
      · exact dj2 a x y
theorem EvA.weak (h : EvA C p tr s ts s1) (e : q = true → p = true) : EvA C q tr s ts s1 := fun F S σ H Q w l k => h F S σ H Q w l fun v F' Z S' H' st sm o dj l' => k v F' Z S' H' st (fun z => sm (e z)) o dj l'
/-- all frozen -/
theorem EvA.use (h : EvA C p tr s (ds.map .fz) s1) {F : Hp} {S : Ad} {σ : L2.St} {H : Hp} {Q : List V → Hp → Prop} (w : Wf F H S) (l : Sl C F H σ s S) (k : ∀ vs F' (S' : Ad) H', Stp F H S F' H' S' → (p = true → Same H H') → RpA C F' vs ds → Sl C F' H' σ s1 S' → Q vs H') : tr σ H Q :=
  h F S σ H Q w l fun v F' Z S' H' st sm o _ l' => k v F' S' H' (st.sub fun a z => .inr z) sm o.rp l'
theorem Same.newO {H : Hp} {p : Addr} {o : HO} (h : H p = none) : Same H (upd H p o) := fun a u e => by rw [upd_ne (ne_of_none e h)]; exact e
theorem Same.upd2 {F H : Hp} {p : Addr} {o : HO} (w : Same F H) (h : H p = none) : Same F (upd F p o) := fun a u e => by
  rw [upd_ne fun q => ?_]
  · exact e
  · rw [q] at e
    rw [w p u e] at h
    cases h
theorem ev_tup (h : EvA C p tr s (ds.map .fz) s1) (hl : ds.length ≤ 100000 := by decide) : Ev C p (tTup tr) s (.fz (.tup ds)) s1 := Ev.mk fun F S σ H Q w l k => h.use w l fun vs F1 S1 H1 st1 sm1 r1 l1 =>
  ⟨by rw [r1.len]; exact Nat.le_trans hl (by decide), fun a ha => by
    have st2 := Stp.newF (o := .tup vs) st1.wf ha
    exact k _ _ S1 _ (st1.trans st2) (fun z => (sm1 z).trans (Same.newO ha)) (.tup (SqT.of upd_same) (r1.mono st2.ff)) (l1.frame st2.ff (Same.own st1.wf (Same.newO ha)))⟩
theorem ev_lst (h : EvA C p tr s ts s1) (hl : ts.length ≤ 100000 := by decide) : Ev C p (tLst tr) s (.ol ts) s1 := fun F S σ H Q w l k => h F S σ H _ w l fun vs F1 Z S1 H1 st1 sm1 o1 dj1 l1 =>
  ⟨by rw [o1.len]; exact Nat.le_trans hl (by decide), fun a ha => by
    have st2 := Stp.newO (o := .lst vs) st1.wf ha
    have own := Same.own st1.wf (Same.newO (o := .lst vs) ha)
    have na : ∀ x, (Z x ∨ S1 x) → x ≠ a := fun x z e => st1.wf.ex x z (by rw [e]; exact ha)
    refine k _ F1 (fun x => x = a ∨ Z x) S1 _ ((st1.trans st2).sub fun x z => ?_) (fun z => (sm1 z).trans (Same.newO ha)) ?_ ?_ (l1.frame (Same.refl _) fun x z => own x (.inr z))
    · rcases z with (z | z) | z
      · exact .inl z
      · exact .inr (.inl z)
      · exact .inr (.inr z)
    · exact .ol upd_same (.inl rfl) (fun x z => ⟨.inr z, na x (.inl z)⟩) (o1.frame (Same.refl _) fun x z => own x (.inl z))
    · intro x y z
      rcases y with y | y
      · exact na x (.inr z) y
      · exact dj1 x y z⟩

/-! ### fields and items -/
/-- what the text must have of a class -/
structure ClsN (C : Ctx) (c : Nat) (f : Str) : Prop where
  cl : Cls C.K (C.cls c)
  na : NoAttr C.K (C.cls c) f
theorem RpA.fld {F : Hp} {f : Str} : ∀ {fs : List (Str × V)} {l : List D}, RpA C F (fs.map (·.2)) l → ((fs.map (·.1)).zip l).lookup f = some d → ∃ x, fs.lookup f = some x ∧ Rp C F x d
  | [], _, _, e => by simp at e
  | (g, x) :: fs, l, r, e => by
    cases r with
    | @cons _ d0 _ l0 h r =>
      simp only [List.map_cons, List.zip_cons_cons, List.lookup_cons] at e ⊢
      by_cases q : f == g
      · rw [q] at e ⊢
        simp at e
        subst e
        exact ⟨x, rfl, h⟩
      · have q' : (f == g) = false := by simpa using q
        rw [q'] at e ⊢
        exact RpA.fld r e
theorem Rp.fld {F : Hp} {v : V} {c : Nat} {l : List D} {f : Str} (h : Rp C F v (.ins c l)) (e : ((C.fld c).zip l).lookup f = some d) : ∃ a dx fs x, v = .ref a ∧ F a = some (.ins (C.cls c) dx fs) ∧ fs.lookup f = some x ∧ Rp C F x d := by
  cases h with
  | @ins a dx _ fs _ h hk r =>
    rw [← hk] at e
    obtain ⟨x, hx, hr⟩ := RpA.fld r e
    exact ⟨a, dx, fs, x, rfl, h, hx, hr⟩
theorem OwA.fld {F H : Hp} {f : Str} : ∀ {fvs : List (Str × V)} {fs : List (Str × T)} {S : Ad}, OwA C F H (fvs.map (·.2)) (fs.map (·.2)) S → fvs.map (·.1) = fs.map (·.1) → fs.lookup f = some t → ∃ x Z, fvs.lookup f = some x ∧ Ow C F H x t Z ∧ ∀ a, Z a → S a
  | [], [], _, _, _, e => by simp at e
  | [], _ :: _, _, _, k, _ => by simp at k
  | _ :: _, [], _, _, k, _ => by simp at k
  | (g, x) :: fvs, (g', u) :: fs, S, r, k, e => by
    simp only [List.map_cons, List.cons.injEq] at k
    obtain ⟨rfl, k⟩ := k
    cases r with
    | cons h r s1 s2 dj =>
      simp only [List.lookup_cons] at e ⊢
      by_cases q : f == g
      · rw [q] at e ⊢
        simp at e
        subst e
        exact ⟨x, _, rfl, h, s1⟩
      · have q' : (f == g) = false := by simpa using q
        rw [q'] at e ⊢
        obtain ⟨y, Z, hy, hz, hs⟩ := OwA.fld r k e
        exact ⟨y, Z, hy, hz, fun a z => s2 a (hs a z)⟩
theorem OwA.get {F H : Hp} : ∀ {vs : List V} {ts : List T} {S : Ad}, OwA C F H vs ts S → ∀ i : Nat, ts[i]? = some t → ∃ x Z, vs[i]? = some x ∧ Ow C F H x t Z ∧ ∀ a, Z a → S a
  | _, _, _, .nil, i, e => by simp at e
  | _, _, _, .cons h r s1 s2 dj, 0, e => by
    simp at e
    subst e
    exact ⟨_, _, rfl, h, s1⟩
  | _, _, _, .cons h r s1 s2 dj, i + 1, e => by
    simp at e
    obtain ⟨y, Z, hy, hz, hs⟩ := OwA.get r i e
    exact ⟨y, Z, by simpa using hy, hz, fun a z => s2 a (hs a z)⟩
theorem ev_fld {c : Nat} {l : List D} {f : Str} (h : Ev C p te s (.fz (.ins c l)) s1) (n : ClsN C c f) (e : ((C.fld c).zip l).lookup f = some d) : Ev C p (tFld C.K te f) s (.fz d) s1 := Ev.mk fun F S σ H Q w lk k => h.use w lk fun v F1 S1 H1 st1 sm1 r1 l1 => by
  obtain ⟨a, dx, fs, x, rfl, ha, hx, hr⟩ := r1.fld e
  exact ⟨a, _, dx, fs, x, rfl, st1.wf.fh _ _ ha, n.cl, n.na, hx, k x F1 S1 H1 st1 sm1 hr l1⟩
theorem vw_fldF {c : Nat} {l : List D} {f : Str} (h : Vw C te s (.fz (.ins c l))) (n : ClsN C c f) (e : ((C.fld c).zip l).lookup f = some d) : Vw C (tFld C.K te f) s (.fz d) := fun F S σ H Q w lk k => h F S σ H _ w lk fun v Z o z => by
  obtain ⟨a, dx, fs, x, rfl, ha, hx, hr⟩ := o.inv.fld e
  exact ⟨a, _, dx, fs, x, rfl, w.fh _ _ ha, n.cl, n.na, hx, k x no (.fz hr) fun _ z => z.elim⟩
theorem vw_fld {c : Nat} {fs : List (Str × T)} {f : Str} (h : Vw C te s (.oi c fs)) (n : ClsN C c f) (e : fs.lookup f = some t) : Vw C (tFld C.K te f) s t := fun F S σ H Q w lk k => h F S σ H _ w lk fun v Z o z => by
  cases o with
  | oi ho hk hp hs r =>
    obtain ⟨x, Z2, hx, hr, hz⟩ := OwA.fld r hk e
    exact ⟨_, _, _, _, x, rfl, ho, n.cl, n.na, hx, k x Z2 hr fun a y => z a (hs a (hz a y)).1⟩
theorem RpA.at {F : Hp} {vs : List V} {l : List D} {i : Int} (r : RpA C F vs l) (e : atI l i = some d) : ∃ v, atI vs i = some v ∧ Rp C F v d := by
  unfold atI at e ⊢
  rw [r.len]
  cases q : ixN l.length i with
  | none => rw [q] at e; cases e
  | some j =>
    rw [q] at e
    exact r.get j d e
theorem OwA.at {F H : Hp} {vs : List V} {l : List T} {S : Ad} {i : Int} (r : OwA C F H vs l S) (e : atI l i = some t) : ∃ v Z, atI vs i = some v ∧ Ow C F H v t Z ∧ ∀ a, Z a → S a := by
  unfold atI at e ⊢
  rw [r.len]
  cases q : ixN l.length i with
  | none => rw [q] at e; cases e
  | some j =>
    rw [q] at e
    exact r.get j e
theorem rv_ixL {l : List D} {i : Int} (e : atI l i = some d) : RvD C (rIxL C.K) (.lst l) (.int i) (.fz d) := .flat fun v1 v2 F H Q w r1 r2 k => by
  cases r1 with
  | lst h r =>
    obtain ⟨v, hv, rv⟩ := r.at e
    exact ⟨_, _, i, v, rfl, r2.intv, w.seq h, hv, k v rv⟩
theorem rv_ixT {l : List D} {i : Int} (e : atI l i = some d) : RvD C (rIxT C.K) (.tup l) (.int i) (.fz d) := .flat fun v1 v2 F H Q w r1 r2 k => by
  cases r1 with
  | tup h r =>
    obtain ⟨v, hv, rv⟩ := r.at e
    exact ⟨_, _, i, v, rfl, r2.intv, Same.sqT w h, hv, k v rv⟩
theorem ev_ixL {l : List D} {i : Int} (h1 : Ev C p ta s (.fz (.lst l)) s1) (h2 : Ev C q tb s1 (.fz (.int i)) s2) (e : atI l i = some d) : Ev C (p && q) (tOp (rIxL C.K) ta tb) s (.fz d) s2 := ev_op h1 h2 (rv_ixL e)
theorem ev_ixT {l : List D} {i : Int} (h1 : Ev C p ta s (.fz (.tup l)) s1) (h2 : Ev C q tb s1 (.fz (.int i)) s2) (e : atI l i = some d) : Ev C (p && q) (tOp (rIxT C.K) ta tb) s (.fz d) s2 := ev_op h1 h2 (rv_ixT e)
/-- an item of a list that was just made -/
theorem ev_ixO {i : Int} (h1 : Ev C p ta s (.ol ts) s1) (h2 : Ev C q tb s1 (.fz (.int i)) s2) (e : atI ts i = some t) : Ev C (p && q) (tOp (rIxL C.K) ta tb) s t s2 := fun F S σ H Q w l k => h1 F S σ H _ w l fun v F1 Z1 S1 H1 st1 sm1 o1 dj1 l1 =>
  h2.use (st1.wf.sub fun a z => .inr z) l1 fun v2 F2 S2 H2 st2 sm2 r2 l2 => by
    obtain ⟨st, same, dj⟩ := st1.seq st2 dj1
    cases o1.frame st2.ff same with
    | ol ho hp hs r =>
      obtain ⟨x, Z, hx, hr, hz⟩ := r.at e
      exact ⟨_, _, i, x, rfl, r2.intv, SqL.of ho, hx, k x F2 Z S2 H2 (st.sub fun a y => y.elim (fun y => .inl (hs a (hz a y)).1) .inr) (fun z => (sm1 (pq1 z)).trans (sm2 (pq2 z))) hr (fun a y y2 => dj a (hs a (hz a y)).1 y2) l2⟩
theorem vw_ix {i : Int} (h1 : Vw C ta s (.ol ts)) (h2 : Vw C tb s (.fz (.int i))) (e : atI ts i = some t) : Vw C (tOp (rIxL C.K) ta tb) s t := fun F S σ H Q w l k => h1 F S σ H _ w l fun v Z o z => h2 F S σ H _ w l fun v2 _ o2 _ => by
  cases o with
  | ol ho hp hs r =>
    obtain ⟨x, Z2, hx, hr, hz⟩ := r.at e
    exact ⟨_, _, i, x, rfl, o2.inv.intv, SqL.of ho, hx, k x Z2 hr fun a y => z a (hs a (hz a y)).1⟩
theorem vw_ixF {l : List D} {i : Int} (h1 : Vw C ta s (.fz (.lst l))) (h2 : Vw C tb s (.fz (.int i))) (e : atI l i = some d) : Vw C (tOp (rIxL C.K) ta tb) s (.fz d) := fun F S σ H Q w lk k => h1 F S σ H _ w lk fun v Z o z => h2 F S σ H _ w lk fun v2 _ o2 _ => by
  cases o.inv with
  | lst h r =>
    obtain ⟨x, hx, hr⟩ := r.at e
    exact ⟨_, _, i, x, rfl, o2.inv.intv, w.fh.seq h, hx, k x no (.fz hr) fun _ z => z.elim⟩
theorem vw_ixT {l : List D} {i : Int} (h1 : Vw C ta s (.fz (.tup l))) (h2 : Vw C tb s (.fz (.int i))) (e : atI l i = some d) : Vw C (tOp (rIxT C.K) ta tb) s (.fz d) := fun F S σ H Q w lk k => h1 F S σ H _ w lk fun v Z o z => h2 F S σ H _ w lk fun v2 _ o2 _ => by
  cases o.inv with
  | tup h r =>
    obtain ⟨x, hx, hr⟩ := r.at e
    exact ⟨_, _, i, x, rfl, o2.inv.intv, Same.sqT w.fh h, hx, k x no (.fz hr) fun _ z => z.elim⟩
theorem vw_I0 {g : Int → Int → V} {i j : Int} (h1 : Vw C ta s (.fz (.int i))) (h2 : Vw C tb s (.fz (.int j))) (h : ∀ F, Rp C F (g i j) d) : Vw C (tOp (rI0 g) ta tb) s (.fz d) := fun F S σ H Q w lk k => h1 F S σ H _ w lk fun v Z o z => h2 F S σ H _ w lk fun v2 _ o2 _ =>
  ⟨i, j, o.inv.intv, o2.inv.intv, k _ no (.fz (h F)) fun _ z => z.elim⟩
theorem vw_I {Cn : Int → Int → Prop} {g : Int → Int → V} {i j : Int} (h1 : Vw C ta s (.fz (.int i))) (h2 : Vw C tb s (.fz (.int j))) (hc : Cn i j) (h : ∀ F, Rp C F (g i j) d) : Vw C (tOp (rI Cn g) ta tb) s (.fz d) := fun F S σ H Q w lk k => h1 F S σ H _ w lk fun v Z o z => h2 F S σ H _ w lk fun v2 _ o2 _ =>
  ⟨i, j, o.inv.intv, o2.inv.intv, hc, k _ no (.fz (h F)) fun _ z => z.elim⟩

/-! ### built-ins by values: one argument and more -/
/-- a call of a built-in on frozen values -/
def RcD (C : Ctx) (r : List V → Hp → VK → Prop) (ds : List D) (t : T) : Prop := ∀ (vs : List V) (F : Hp) (S : Ad) (H : Hp) (Q : VK), Wf F H S → RpA C F vs ds → (∀ v F' (Z : Ad) H', Stp F H S F' H' (fun a => Z a ∨ S a) → Same H H' → Ow C F' H' v t Z → (∀ a, Z a → S a → False) → Q v H') → r vs H Q
theorem RcD.flat {r : List V → Hp → VK → Prop} (h : ∀ vs F H Q, Same F H → RpA C F vs ds → (∀ v, Rp C F v d → Q v H) → r vs H Q) : RcD C r ds (.fz d) := fun vs F S H Q w r1 k => h vs F H Q w.fh r1 fun v rv => k v F no H ((Stp.refl w).sub fun a z => z.elim False.elim id) (Same.refl H) (.fz rv) fun _ z => z.elim
theorem ev_cb {r : List V → Hp → VK → Prop} (h : EvA C p tr s (ds.map .fz) s1) (hr : RcD C r ds t) : Ev C p (tCB r tr) s t s1 := fun F S σ H Q w l k => h.use w l fun vs F1 S1 H1 st1 sm1 r1 l1 => hr vs F1 S1 H1 Q st1.wf r1 fun v F2 Z H2 st2 sm2 o dj =>
  k v F2 Z S1 H2 (st1.trans st2) (fun z => (sm1 z).trans sm2) o dj (l1.frame st2.ff (Same.own st1.wf sm2))
theorem RpA.one {F : Hp} {vs : List V} (h : RpA C F vs [d]) : ∃ v, vs = [v] ∧ Rp C F v d := by
  cases h with
  | cons h r => cases r; exact ⟨_, rfl, h⟩
theorem RpA.two {F : Hp} {vs : List V} (h : RpA C F vs [d1, d2]) : ∃ v u, vs = [v, u] ∧ Rp C F v d1 ∧ Rp C F u d2 := by
  cases h with
  | cons h r =>
    obtain ⟨u, rfl, z⟩ := r.one
    exact ⟨_, u, rfl, h, z⟩
/-- len of a list, a tuple -/
def rLen (K : PySem.W.Frag) : List V → Hp → VK → Prop := fun xs H Q => ∃ p ys, xs = [.ref p] ∧ (SqL K H p ys ∨ SqT K H p ys) ∧ Q (.int ys.length) H
theorem rc_lenL {l : List D} : RcD C (rLen C.K) [.lst l] (.fz (.int l.length)) := .flat fun vs F H Q w r0 k => by
  obtain ⟨v, rfl, r⟩ := r0.one
  cases r with
  | lst h r => exact ⟨_, _, rfl, .inl (w.seq h), k _ (by rw [r.len]; exact .int _)⟩
theorem rc_lenT {l : List D} : RcD C (rLen C.K) [.tup l] (.fz (.int l.length)) := .flat fun vs F H Q w r0 k => by
  obtain ⟨v, rfl, r⟩ := r0.one
  cases r with
  | tup h r => exact ⟨_, _, rfl, .inr (Same.sqT w h), k _ (by rw [r.len]; exact .int _)⟩
theorem vw_len (h : Vw C te s (.ol ts)) : Vw C (tCB (rLen C.K) (tCons te tNil)) s (.fz (.int ts.length)) := fun F S σ H Q w lk k => h F S σ H _ w lk fun v Z o z => by
  cases o with
  | ol ho hp hs r => exact ⟨_, _, rfl, .inl (SqL.of ho), k _ no (.fz (by rw [r.len]; exact .int _)) fun _ z => z.elim⟩
/-- int of an int, of a bool -/
def rInt1 : List V → Hp → VK → Prop := fun xs H Q => (∃ i, xs = [.int i] ∧ Q (.int i) H) ∨ ∃ k, xs = [.bl k] ∧ Q (.int (if k then 1 else 0)) H
theorem rc_int {i : Int} : RcD C rInt1 [.int i] (.fz (.int i)) := .flat fun vs F H Q w r0 k => by
  obtain ⟨v, rfl, r⟩ := r0.one
  exact .inl ⟨i, by rw [r.intv], k _ (.int i)⟩
theorem rc_intB {b : Bool} : RcD C rInt1 [.bl b] (.fz (.int (if b then 1 else 0))) := .flat fun vs F H Q w r0 k => by
  obtain ⟨v, rfl, r⟩ := r0.one
  exact .inr ⟨b, by rw [r.blv], k _ (.int _)⟩
def rAbs : List V → Hp → VK → Prop := fun xs H Q => ∃ i, xs = [.int i] ∧ Q (.int (if i < 0 then -i else i)) H
theorem rc_abs {i : Int} : RcD C rAbs [.int i] (.fz (.int (if i < 0 then -i else i))) := .flat fun vs F H Q w r0 k => by
  obtain ⟨v, rfl, r⟩ := r0.one
  exact ⟨i, by rw [r.intv], k _ (.int _)⟩
def rMax2 : List V → Hp → VK → Prop := fun xs H Q => ∃ i j, xs = [.int i, .int j] ∧ Q (.int (if j > i then j else i)) H
def rMin2 : List V → Hp → VK → Prop := fun xs H Q => ∃ i j, xs = [.int i, .int j] ∧ Q (.int (if j < i then j else i)) H
theorem rc_max2 {i j : Int} : RcD C rMax2 [.int i, .int j] (.fz (.int (if j > i then j else i))) := .flat fun vs F H Q w r0 k => by
  obtain ⟨v, u, rfl, r1, r2⟩ := r0.two
  exact ⟨i, j, by rw [r1.intv, r2.intv], k _ (.int _)⟩
theorem rc_min2 {i j : Int} : RcD C rMin2 [.int i, .int j] (.fz (.int (if j < i then j else i))) := .flat fun vs F H Q w r0 k => by
  obtain ⟨v, u, rfl, r1, r2⟩ := r0.two
  exact ⟨i, j, by rw [r1.intv, r2.intv], k _ (.int _)⟩
/-- a new frozen thing at an address -/
theorem RcD.new {r : List V → Hp → VK → Prop} {o : Hp → List V → HO} (h : ∀ vs F H Q, Same F H → RpA C F vs ds → (∀ a o, H a = none → (∀ F', Same F F' → F' a = some o → Rp C F' (.ref a) d) → Q (.ref a) (upd H a o)) → r vs H Q) : RcD C r ds (.fz d) := fun vs F S H Q w r1 k => h vs F H Q w.fh r1 fun a o ha hn => by
  have st := Stp.newF (o := o) w ha
  exact k _ _ no _ (st.sub fun x z => z.elim False.elim id) (Same.newO ha) (.fz (hn _ st.ff upd_same)) fun _ z => z.elim
def rTupOf (K : PySem.W.Frag) : List V → Hp → VK → Prop := fun xs H Q => ∃ p ys, xs = [.ref p] ∧ ((SqL K H p ys ∧ ∀ l, H l = none → Q (.ref l) (upd H l (.tup ys))) ∨ (SqT K H p ys ∧ Q (.ref p) H))
theorem rc_tupL {l : List D} : RcD C (rTupOf C.K) [.lst l] (.fz (.tup l)) := RcD.new (o := fun _ _ => .rng 0 0) fun vs F H Q w r0 k => by
  obtain ⟨v, rfl, r⟩ := r0.one
  cases r with
  | lst h r => exact ⟨_, _, rfl, .inl ⟨w.seq h, fun a ha => k a _ ha fun F' s e => .tup (SqT.of e) (r.mono s)⟩⟩
theorem rc_tupT {l : List D} : RcD C (rTupOf C.K) [.tup l] (.fz (.tup l)) := .flat fun vs F H Q w r0 k => by
  obtain ⟨v, rfl, r⟩ := r0.one
  cases r with
  | tup h r => exact ⟨_, _, rfl, .inr ⟨Same.sqT w h, k _ (.tup h r)⟩⟩
/-- list(..): a new list, owned -/
def rListOf (K : PySem.W.Frag) : List V → Hp → VK → Prop := fun xs H Q => ∃ p ys, xs = [.ref p] ∧ (SqL K H p ys ∨ SqT K H p ys) ∧ ∀ l, H l = none → Q (.ref l) (upd H l (.lst ys))
theorem rc_listGo {F H : Hp} {S : Ad} {vs : List V} {l : List D} {Q : VK} (w : Wf F H S) (r : RpA C F vs l) (k : ∀ v F' (Z : Ad) H', Stp F H S F' H' (fun a => Z a ∨ S a) → Same H H' → Ow C F' H' v (.ol (l.map .fz)) Z → (∀ a, Z a → S a → False) → Q v H') : ∀ a, H a = none → Q (.ref a) (upd H a (.lst vs)) := fun a ha => by
  have st := Stp.newO (o := .lst vs) w ha
  exact k _ F (fun x => x = a) _ st (Same.newO ha) (.ol (S1 := no) upd_same rfl (fun _ z => z.elim) (.ofRp r)) fun x z y => w.ex x y (by rw [z]; exact ha)
theorem rc_listL {l : List D} : RcD C (rListOf C.K) [.lst l] (.ol (l.map .fz)) := fun vs F S H Q w r0 k => by
  obtain ⟨v, rfl, r⟩ := r0.one
  cases r with
  | lst h r => exact ⟨_, _, rfl, .inl (w.fh.seq h), rc_listGo w r k⟩
theorem rc_listT {l : List D} : RcD C (rListOf C.K) [.tup l] (.ol (l.map .fz)) := fun vs F S H Q w r0 k => by
  obtain ⟨v, rfl, r⟩ := r0.one
  cases r with
  | tup h r => exact ⟨_, _, rfl, .inr (Same.sqT w.fh h), rc_listGo w r k⟩
end
end VD
set_option maxRecDepth 100000
set_option maxHeartbeats 4000000
namespace VD
open PySem PySem.Spec PyProof.Rows L2
/-! ### what follows a statement -/
def Pin (pin : List Nat) (σ σ' : L2.St) : Prop := ∀ i ∈ pin, σ'[i]? = σ[i]?
theorem Pin.refl {pin : List Nat} (σ : L2.St) : Pin pin σ σ := fun _ _ => rfl
theorem Pin.trans {pin : List Nat} {σ σ1 σ2 : L2.St} (a : Pin pin σ σ1) (b : Pin pin σ1 σ2) : Pin pin σ σ2 := fun i h => (b i h).trans (a i h)
theorem Pin.set {pin : List Nat} {σ : L2.St} {i : Nat} {v : Option V} (h : i ∉ pin) : Pin pin σ (σ.set i v) := fun j hj => by
  rw [List.getElem?_set_ne]
  intro e
  exact h (e ▸ hj)
def Nx (C : Ctx) (pin : List Nat) (F H : Hp) (S : Ad) (σ : L2.St) (N : SD → Prop) (k : L2.St → Hp → Prop) : Prop :=
  ∀ σ' F' (S' : Ad) H' s', N s' → Stp F H S F' H' S' → Sl C F' H' σ' s' S' → Pin pin σ σ' → k σ' H'
def Rt (C : Ctx) (pin : List Nat) (F H : Hp) (S : Ad) (σ : L2.St) (R : T → SD → Prop) (k : VK) : Prop :=
  ∀ v F' (Z S' : Ad) H' σ' t s', R t s' → Stp F H S F' H' (fun a => Z a ∨ S' a) → Ow C F' H' v t Z → (∀ a, Z a → S' a → False) → Sl C F' H' σ' s' S' → Pin pin σ σ' → k v H'
section
variable {C : Ctx} {pin : List Nat} {F H F1 H1 : Hp} {S S1 : Ad} {σ σ1 : L2.St} {N N' : SD → Prop} {R : T → SD → Prop} {k : L2.St → Hp → Prop} {kv : VK}
theorem Nx.aft (h : Nx C pin F H S σ N k) (st : Stp F H S F1 H1 S1) (pn : Pin pin σ σ1) : Nx C pin F1 H1 S1 σ1 N k := fun σ' F' S' H' s' n st' l p => h σ' F' S' H' s' n (st.trans st') l (pn.trans p)
theorem Rt.aft (h : Rt C pin F H S σ R kv) (st : Stp F H S F1 H1 S1) (pn : Pin pin σ σ1) : Rt C pin F1 H1 S1 σ1 R kv := fun v F' Z S' H' σ' t s' r st' o dj l p => h v F' Z S' H' σ' t s' r (st.trans st') o dj l (pn.trans p)
end
/-- the statement t from the slots s: N behind it, R at a return, B at a break, Cn at a continue -/
def Ex (C : Ctx) (pin : List Nat) (t : TS) (s : SD) (N : SD → Prop) (R : T → SD → Prop) (B Cn : SD → Prop) : Prop := ∀ (F : Hp) (S : Ad) (σ : L2.St) (H : Hp) (E : Ends), Wf F H S → Sl C F H σ s S →
  Nx C pin F H S σ N E.nx → Rt C pin F H S σ R E.rt → Nx C pin F H S σ B E.bk → Nx C pin F H S σ Cn E.ct → t E σ H
theorem Sl.put {C : Ctx} {F H : Hp} {v : V} {t : T} {Z : Ad} (o : Ow C F H v t Z) : ∀ {σ : L2.St} {s : SD} {S : Ad} (i : Nat), Sl C F H σ s S → (∀ a, Z a → S a → False) → Sl C F H (σ.set i (some v)) (s.set i (some t)) (fun a => Z a ∨ S a)
  | _, _, _, _, .nil, _ => .nil
  | _, _, _, 0, .no r, dj => .so o r (fun a z => .inl z) (fun a z => .inr z) dj
  | _, _, _, 0, .so h r s1 s2 d, dj => .so o r (fun a z => .inl z) (fun a z => .inr (s2 a z)) fun a x y => dj a x (s2 a y)
  | _, _, _, i + 1, .no r, dj => .no (Sl.put o i r dj)
  | _, _, _, i + 1, .so h r s1 s2 d, dj => .so h (Sl.put o i r fun a x y => dj a x (s2 a y)) (fun a z => .inr (s1 a z)) (fun a z => z.elim .inl fun z => .inr (s2 a z)) fun a x y => y.elim (fun y => dj a y (s1 a x)) (d a x)
section
variable {C : Ctx} {pin : List Nat} {p q : Bool} {te tu ta : TE} {tt : TT} {t1 t2 : TS} {s s1 s2 : SD} {t u : T} {d : D} {b : Bool} {N N1 B B' Cn Cn' N' : SD → Prop} {R R' : T → SD → Prop} {i : Nat}
theorem Ex.imp (h : Ex C pin t1 s N R B Cn) (hN : ∀ s, N s → N' s) (hR : ∀ t s, R t s → R' t s) (hB : ∀ s, B s → B' s) (hC : ∀ s, Cn s → Cn' s) : Ex C pin t1 s N' R' B' Cn' := fun F S σ H E w l n r b c =>
  h F S σ H E w l (fun σ' F' S' H' s' z => n σ' F' S' H' s' (hN s' z)) (fun v F' Z S' H' σ' t s' z => r v F' Z S' H' σ' t s' (hR t s' z)) (fun σ' F' S' H' s' z => b σ' F' S' H' s' (hB s' z)) (fun σ' F' S' H' s' z => c σ' F' S' H' s' (hC s' z))
theorem ex_seq (h1 : Ex C pin t1 s N1 R B Cn) (h2 : ∀ s1, N1 s1 → Ex C pin t2 s1 N R B Cn) : Ex C pin (tSeq t1 t2) s N R B Cn := fun F S σ H E w l n r b c =>
  h1 F S σ H { E with nx := t2 E } w l (fun σ1 F1 S1 H1 s1 z st l1 p1 => h2 s1 z F1 S1 σ1 H1 E st.wf l1 (n.aft st p1) (r.aft st p1) (b.aft st p1) (c.aft st p1)) r b c
theorem ex_next (h : N s) : Ex C pin tNext s N R B Cn := fun F S σ H E w l n _ _ _ => n σ F S H s h (Stp.refl w) l (Pin.refl σ)
theorem ex_brk (h : B s) : Ex C pin tBreak s N R B Cn := fun F S σ H E w l _ _ b _ => b σ F S H s h (Stp.refl w) l (Pin.refl σ)
theorem ex_cont (h : Cn s) : Ex C pin tCont s N R B Cn := fun F S σ H E w l _ _ _ c => c σ F S H s h (Stp.refl w) l (Pin.refl σ)
theorem ex_ret (h : Ev C p te s t s1) (hr : R t s1) : Ex C pin (tRet te) s N R B Cn := fun F S σ H E w l _ r _ _ => h F S σ H _ w l fun v F1 Z S1 H1 st sm o dj l1 => r v F1 Z S1 H1 σ t s1 hr st o dj l1 (Pin.refl σ)
theorem ex_retN (hr : R (.fz .non) s) : Ex C pin tRetN s N R B Cn := fun F S σ H E w l _ r _ _ => r .non F no S H σ _ s hr ((Stp.refl w).sub fun a z => z.elim False.elim id) (.fz .non) (fun _ z => z.elim) l (Pin.refl σ)
theorem ex_asg (h : Ev C p te s t s1) (hn : N (s1.set i (some t))) (hi : i ∉ pin := by decide) : Ex C pin (tAsg te (gName i)) s N R B Cn := fun F S σ H E w l n _ _ _ => h F S σ H _ w l fun v F1 Z S1 H1 st sm o dj l1 =>
  n _ F1 _ H1 _ hn st (Sl.put o i l1 dj) (Pin.set hi)
theorem ex_drop (h : Ev C p te s t s1) (hn : N s1) : Ex C pin (tDrop te) s N R B Cn := fun F S σ H E w l n _ _ _ => h F S σ H _ w l fun v F1 Z S1 H1 st sm o dj l1 => n σ F1 S1 H1 s1 hn (st.sub fun a z => .inr z) l1 (Pin.refl σ)
theorem ex_if (h : EvT C p tt s b s1) (h1 : b = true → Ex C pin t1 s1 N R B Cn) (h2 : b = false → Ex C pin t2 s1 N R B Cn) : Ex C pin (tIfS tt t1 t2) s N R B Cn := fun F S σ H E w l n r bk c => h F S σ H _ w l fun F1 S1 H1 st sm l1 => by
  have pr := Pin.refl (pin := pin) σ
  cases b with
  | true =>
    show t1 E σ H1
    exact h1 rfl F1 S1 σ H1 E st.wf l1 (n.aft st pr) (r.aft st pr) (bk.aft st pr) (c.aft st pr)
  | false =>
    show t2 E σ H1
    exact h2 rfl F1 S1 σ H1 E st.wf l1 (n.aft st pr) (r.aft st pr) (bk.aft st pr) (c.aft st pr)
/-- x += e, ints -/
theorem ex_augI {f : Int → Int → Int} {a c : Int} (hx : s[i]? = some (some (.fz (.int a)))) (h : Ev C p te s (.fz (.int c)) s1) (hn : N (s1.set i (some (.fz (.int (f a c)))))) (hi : i ∉ pin := by decide) : Ex C pin (tAug i te (ipI f)) s N R B Cn := fun F S σ H E w l n _ _ _ => by
  obtain ⟨v, Z, e, o, _⟩ := l.get hx
  refine ⟨v, e, h.use w l fun y F1 S1 H1 st sm r l1 => ⟨a, c, o.inv.intv, r.intv, n _ F1 _ H1 _ hn ?_ (Sl.put (Z := no) (.fz (.int _)) i l1 fun _ z => z.elim) (Pin.set hi)⟩⟩
  exact st.sub fun a z => z.elim False.elim id
theorem OwA.snoc {F H : Hp} {v : V} {t : T} {Z : Ad} (o : Ow C F H v t Z) : ∀ {vs : List V} {ts : List T} {S : Ad}, OwA C F H vs ts S → (∀ a, Z a → S a → False) → OwA C F H (vs ++ [v]) (ts ++ [t]) (fun a => Z a ∨ S a)
  | _, _, _, .nil, _ => .cons (S2 := no) o .nil (fun a z => .inl z) (fun _ z => z.elim) fun _ _ z => z.elim
  | _, _, _, .cons h r s1 s2 d, dj => .cons h (OwA.snoc o r fun a x y => dj a x (s2 a y)) (fun a z => .inr (s1 a z)) (fun a z => z.elim .inl fun z => .inr (s2 a z)) fun a x y => y.elim (fun y => dj a y (s1 a x)) (d a x)
theorem OwA.set {F H : Hp} {v : V} {t : T} {Z : Ad} (o : Ow C F H v t Z) : ∀ {vs : List V} {ts : List T} {S : Ad} (j : Nat), OwA C F H vs ts S → (∀ a, Z a → S a → False) → OwA C F H (vs.set j v) (ts.set j t) (fun a => Z a ∨ S a)
  | _, _, _, _, .nil, _ => .nil
  | _, _, _, 0, .cons h r s1 s2 d, dj => .cons o r (fun a z => .inl z) (fun a z => .inr (s2 a z)) fun a x y => dj a x (s2 a y)
  | _, _, _, j + 1, .cons h r s1 s2 d, dj => .cons h (OwA.set o j r fun a x y => dj a x (s2 a y)) (fun a z => .inr (s1 a z)) (fun a z => z.elim .inl fun z => .inr (s2 a z)) fun a x y => y.elim (fun y => dj a y (s1 a x)) (d a x)
/-- the object at a slot changed -/
theorem Sl.chg {F H : Hp} {S Z : Ad} {ts : List T} (w : Wf F H (fun a => Z a ∨ S a)) (dj : ∀ a, Z a → S a → False) (l : Sl C F H σ s S) (h : s[i]? = some (some (.ol ts))) :
    ∃ a vs, σ[i]? = some (some (.ref a)) ∧ H a = some (.lst vs) ∧ vs.length = ts.length ∧ ∀ vs' ts', (∀ S1 : Ad, (∀ x, S1 x → S x) → OwA C F H vs ts S1 → OwA C F H vs' ts' (fun x => Z x ∨ S1 x)) →
      Stp F H (fun a => Z a ∨ S a) F (upd H a (.lst vs')) (fun a => Z a ∨ S a) ∧ Sl C F (upd H a (.lst vs')) σ (s.set i (some (.ol ts'))) (fun a => Z a ∨ S a) := by
  obtain ⟨v, S1, S2, e, o, a1, a2, d, _, put⟩ := l.focus i h
  cases o with
  | @ol a vs _ _ S3 ho hp hs r =>
    refine ⟨a, vs, e, ho, r.len, fun vs' ts' k => ?_⟩
    have st := Stp.put (o := .lst vs') w (.inr (a1 a hp))
    refine ⟨st, ?_⟩
    have off : ∀ x, x ≠ a → upd H a (.lst vs') x = H x := fun x q => upd_ne q
    have r' := k S3 (fun x z => a1 x (hs x z).1) r
    have na : ∀ x, (Z x ∨ S3 x) → x ≠ a := fun x z q => by
      subst q
      rcases z with z | z
      · exact dj x z (a1 x hp)
      · exact (hs x z).2 rfl
    refine put F (upd H a (.lst vs')) (.ol ts') (fun x => Z x ∨ S1 x) (Same.refl F) (fun x z => off x fun q => d x (by rw [q]; exact hp) z) (.ol upd_same (.inr hp) (S1 := fun x => Z x ∨ S3 x) (fun x z => ⟨z.elim .inl fun z => .inr (hs x z).1, na x z⟩) (r'.frame (Same.refl F) fun x z => off x (na x z))) ?_ _ (fun x z => z.elim .inl fun z => .inr (a1 x z)) (fun x z => .inr (a2 x z))
    intro x y z
    rcases y with y | y
    · exact dj x y (a2 x z)
    · exact d x y z
/-- xs.append(e), the list owned by a slot -/
theorem ex_app {ts ts0 : List T} (h0 : s[i]? = some (some (.ol ts0))) (h : Ev C p te s t s1) (h1 : s1[i]? = some (some (.ol ts))) (hl : ts.length < 100000) (hn : N (s1.set i (some (.ol (ts ++ [t]))))) :
    Ex C pin (tDrop (tBM C.K "list" rAppend (tVar i) (tCons te tNil))) s N R B Cn := fun F S σ H E w l n _ _ _ => by
  obtain ⟨v, Z0, e0, o0, _⟩ := l.get h0
  refine ⟨v, e0, ?_, ?_⟩
  · cases o0 with
    | ol ho _ _ _ => exact .inl ⟨rfl, _, SqL.of ho⟩
  · refine h F S σ H _ w l fun x F1 Z S1 H1 st sm o dj l1 => ?_
    obtain ⟨a, vs, e1, ha, hv, k⟩ := Sl.chg st.wf dj l1 h1
    rw [e0] at e1
    cases e1
    refine ⟨a, vs, x, rfl, rfl, ha, by rw [hv]; exact Nat.lt_of_lt_of_le hl (by decide), ?_⟩
    obtain ⟨st2, l2⟩ := k (vs ++ [x]) (ts ++ [t]) fun S3 hs r => OwA.snoc o r fun a y z => dj a y (hs a z)
    exact n σ F1 _ _ _ hn (st.trans st2) l2 (Pin.refl σ)
/-- xs[i] = e -/
theorem ex_setIx {ts : List T} {kk : Int} {j : Nat} {ti : TE} (h : Ev C p te s t s1) (h1 : s1[i]? = some (some (.ol ts))) (hk : Vw C ti s1 (.fz (.int kk))) (hj : ixN ts.length kk = some j) (hn : N (s1.set i (some (.ol (ts.set j t))))) :
    Ex C pin (tAsg te (gSub (tVar i) ti rSetL)) s N R B Cn := fun F S σ H E w l n _ _ _ => by
  refine h F S σ H _ w l fun x F1 Z S1 H1 st sm o dj l1 => ?_
  obtain ⟨a, vs, e1, ha, hv, k⟩ := Sl.chg st.wf dj l1 h1
  refine ⟨.ref a, e1, hk F1 S1 σ H1 _ (st.wf.sub fun a z => .inr z) l1 fun v2 Z2 o2 _ => ?_⟩
  refine ⟨a, vs, kk, j, rfl, o2.inv.intv, ha, by rw [hv]; exact hj, ?_⟩
  obtain ⟨st2, l2⟩ := k (vs.set j x) (ts.set j t) fun S3 hs r => OwA.set o j r fun a y z => dj a y (hs a z)
  exact n σ F1 _ _ _ hn (st.trans st2) l2 (Pin.refl σ)
end
end VD
set_option maxRecDepth 100000
set_option maxHeartbeats 4000000
namespace VD
open PySem PySem.Spec PyProof.Rows L2
/-! ### self.f = e -/
def putT (f : Str) (t : T) : List (Str × T) → List (Str × T)
  | [] => [(f, t)]
  | (g, x) :: r => if g = f then (g, t) :: r else (g, x) :: putT f t r
theorem OwA.putF {C : Ctx} {F H : Hp} {v : V} {t : T} {Z : Ad} {f : Str} (o : Ow C F H v t Z) : ∀ {fvs : List (Str × V)} {fs : List (Str × T)} {S : Ad}, OwA C F H (fvs.map (·.2)) (fs.map (·.2)) S → fvs.map (·.1) = fs.map (·.1) → (∀ a, Z a → S a → False) →
    OwA C F H ((putF f v fvs).map (·.2)) ((putT f t fs).map (·.2)) (fun a => Z a ∨ S a) ∧ (putF f v fvs).map (·.1) = (putT f t fs).map (·.1)
  | [], [], S, _, _, _ => ⟨.cons (S2 := no) o .nil (fun a z => .inl z) (fun _ z => z.elim) fun _ _ z => z.elim, rfl⟩
  | [], _ :: _, _, _, k, _ => by simp at k
  | _ :: _, [], _, _, k, _ => by simp at k
  | (g, x) :: fvs, (g', u) :: fs, S, r, k, dj => by
    simp only [List.map_cons, List.cons.injEq] at k
    obtain ⟨rfl, k⟩ := k
    cases r with
    | cons h r s1 s2 d =>
      unfold L2.putF VD.putT
      by_cases q : g = f
      · rw [if_pos q, if_pos q]
        exact ⟨.cons o r (fun a z => .inl z) (fun a z => .inr (s2 a z)) fun a x y => dj a x (s2 a y), by simp [k]⟩
      · rw [if_neg q, if_neg q]
        obtain ⟨z1, z2⟩ := OwA.putF o r k fun a x y => dj a x (s2 a y)
        exact ⟨.cons h z1 (fun a z => .inr (s1 a z)) (fun a z => z.elim .inl fun z => .inr (s2 a z)) fun a x y => y.elim (fun y => dj a y (s1 a x)) (d a x), by simp [z2]⟩
section
variable {C : Ctx} {pin : List Nat} {p q : Bool} {te tu ta : TE} {tt : TT} {t1 t2 : TS} {tr : TA} {s s1 s2 : SD} {t u : T} {ts : List T} {d : D} {ds : List D} {b : Bool} {N N1 B B' Cn Cn' N' : SD → Prop} {R R' : T → SD → Prop} {i j : Nat}
theorem Sl.chgI {F H : Hp} {S Z : Ad} {σ : L2.St} {c : Nat} {fs : List (Str × T)} (w : Wf F H (fun a => Z a ∨ S a)) (dj : ∀ a, Z a → S a → False) (l : Sl C F H σ s S) (h : s[i]? = some (some (.oi c fs))) :
    ∃ a dx fvs, σ[i]? = some (some (.ref a)) ∧ H a = some (.ins (C.cls c) dx fvs) ∧ fvs.length = fs.length ∧ ∀ fvs' fs', (∀ S1 : Ad, (∀ x, S1 x → S x) → OwA C F H (fvs.map (·.2)) (fs.map (·.2)) S1 → fvs.map (·.1) = fs.map (·.1) → OwA C F H (fvs'.map (·.2)) (fs'.map (·.2)) (fun x => Z x ∨ S1 x) ∧ fvs'.map (·.1) = fs'.map (·.1)) →
      Stp F H (fun a => Z a ∨ S a) F (upd H a (.ins (C.cls c) dx fvs')) (fun a => Z a ∨ S a) ∧ Sl C F (upd H a (.ins (C.cls c) dx fvs')) σ (s.set i (some (.oi c fs'))) (fun a => Z a ∨ S a) := by
  obtain ⟨v, S1, S2, e, o, a1, a2, d, _, put⟩ := l.focus i h
  cases o with
  | @oi a dx _ fvs _ _ S3 ho hk hp hs r =>
    refine ⟨a, dx, fvs, e, ho, by have := congrArg List.length hk; simpa using this, fun vs' ts' k => ?_⟩
    have st := Stp.put (o := .ins (C.cls c) dx vs') w (.inr (a1 a hp))
    refine ⟨st, ?_⟩
    have off : ∀ x, x ≠ a → upd H a (.ins (C.cls c) dx vs') x = H x := fun x q => upd_ne q
    obtain ⟨r', hk'⟩ := k S3 (fun x z => a1 x (hs x z).1) r hk
    have na : ∀ x, (Z x ∨ S3 x) → x ≠ a := fun x z q => by
      subst q
      rcases z with z | z
      · exact dj x z (a1 x hp)
      · exact (hs x z).2 rfl
    refine put F (upd H a (.ins (C.cls c) dx vs')) (.oi c ts') (fun x => Z x ∨ S1 x) (Same.refl F) (fun x z => off x fun q => d x (by rw [q]; exact hp) z) (.oi upd_same hk' (.inr hp) (S1 := fun x => Z x ∨ S3 x) (fun x z => ⟨z.elim .inl fun z => .inr (hs x z).1, na x z⟩) (r'.frame (Same.refl F) fun x z => off x (na x z))) ?_ _ (fun x z => z.elim .inl fun z => .inr (a1 x z)) (fun x z => .inr (a2 x z))
    intro x y z
    rcases y with y | y
    · exact dj x y (a2 x z)
    · exact d x y z
theorem ex_fld {c : Nat} {fs : List (Str × T)} {f : Str} (h : Ev C p te s t s1) (h1 : s1[i]? = some (some (.oi c fs))) (n : ClsN C c f) (hl : fs.length < 1000 := by decide) (hn : N (s1.set i (some (.oi c (putT f t fs))))) : Ex C pin (sFld C.K (tVar i) te f) s N R B Cn := fun F S σ H E w l nx _ _ _ => by
  refine h F S σ H _ w l fun x F1 Z S1 H1 st sm o dj l1 => ?_
  obtain ⟨a, dx, fvs, e1, ha, hv, k⟩ := Sl.chgI st.wf dj l1 h1
  refine ⟨.ref a, e1, a, _, dx, fvs, rfl, ha, n.cl, n.na, by rw [hv]; exact hl, ?_⟩
  obtain ⟨st2, l2⟩ := k (putF f x fvs) (putT f t fs) fun S3 hs r hk => OwA.putF o r hk fun a y z => dj a y (hs a z)
  exact nx σ F1 _ _ _ hn (st.trans st2) l2 (Pin.refl σ)

/-! ### what a def promises -/
theorem Stp.beside {F H F' H' : Hp} {S1 S2 Y : Ad} (w : Wf F H (fun a => S1 a ∨ S2 a)) (dj : ∀ a, S1 a → S2 a → False) (st : Stp F H S1 F' H' Y) : Stp F H (fun a => S1 a ∨ S2 a) F' H' (fun a => Y a ∨ S2 a) ∧ (∀ a, S2 a → H' a = H a) ∧ (∀ a, Y a → S2 a → False) := by
  have side : ∀ x, S2 x → H' x = H x ∧ F' x = none ∧ ¬ Y x := fun x z => st.side (w.ex x (.inr z)) (fun y => dj x y z) (w.fr x (.inr z))
  refine ⟨⟨st.ff, ⟨st.wf.fh, ?_, ?_⟩, ?_, ?_, ?_⟩, fun x z => (side x z).1, fun x y z => (side x z).2.2 y⟩
  · intro x z
    exact z.elim (st.wf.fr x) fun z => (side x z).2.1
  · intro x z
    rcases z with z | z
    · exact st.wf.ex x z
    · rw [(side x z).1]
      exact w.ex x (.inr z)
  · exact fun x o h n => st.keep x o h fun z => n (.inl z)
  · intro x o h
    rcases st.new x o h with z | z | z
    · exact .inl z
    · exact .inr (.inl z)
    · exact .inr (.inr (.inl z))
  · intro x z
    rcases z with z | z
    · exact (st.own x z).elim (fun z => .inl (.inl z)) .inr
    · exact .inl (.inr z)
/-- frozen arguments, nothing changed -/
def spP (C : Ctx) {ι : Type} (args : ι → List D) (res : ι → T) (pre : ι → Prop) : Sp := fun vs H Q _ => ∃ F i, Same F H ∧ RpA C F vs (args i) ∧ pre i ∧ ∀ v F' (Z : Ad) H', Stp F H no F' H' Z → Ow C F' H' v (res i) Z → Q v H'
/-- the first argument owned by the caller, the others frozen -/
def spO (C : Ctx) {ι : Type} (own : ι → T) (args : ι → List D) (res own' : ι → T) (pre : ι → Prop) : Sp := fun vs H Q _ => ∃ F S i v0 vs', vs = v0 :: vs' ∧ Wf F H S ∧ Ow C F H v0 (own i) S ∧ RpA C F vs' (args i) ∧ pre i ∧
  ∀ v F' (Z S' : Ad) H', Stp F H S F' H' (fun a => Z a ∨ S' a) → Ow C F' H' v (res i) Z → Ow C F' H' v0 (own' i) S' → (∀ a, Z a → S' a → False) → Q v H'
theorem Stp.same {F H F' H' : Hp} {Z : Ad} (st : Stp F H no F' H' Z) : Same H H' := fun a o e => st.keep a o e fun z => z.elim
theorem ev_call {ι : Type} {args : ι → List D} {res : ι → T} {pre : ι → Prop} {E : XK} (x : ι) (h : EvA C p tr s ((args x).map .fz) s1) (hp : pre x) : Ev C p (tCall (spP C args res pre) [] E tr) s (res x) s1 := fun F S σ H Q w l k => h.use w l fun vs F1 S1 H1 st1 sm1 r1 l1 => by
  rw [List.append_nil]
  refine ⟨F1, x, st1.wf.fh, r1, hp, fun v F2 Z H2 st2 o => ?_⟩
  have w1 : Wf F1 H1 (fun a => no a ∨ S1 a) := st1.wf.sub fun a z => z.elim False.elim id
  obtain ⟨st3, same, dj⟩ := Stp.beside w1 (fun _ z => z.elim) st2
  exact k v F2 Z S1 H2 ((st1.sub (S2 := fun a => no a ∨ S1 a) fun a z => z.elim False.elim id).trans st3) (fun z => (sm1 z).trans st2.same) o dj (l1.frame st2.ff same)
theorem ev_callO {ι : Type} {own : ι → T} {args : ι → List D} {res own' : ι → T} {pre : ι → Prop} {E : XK} (x : ι) {t0 : T} (h0 : s[j]? = some (some t0)) (h : EvA C p tr s ((args x).map .fz) s1) (h1 : s1[j]? = some (some (own x))) (hp : pre x) :
    Ev C false (tCall (spO C own args res own' pre) [] E (tCons (tVar j) tr)) s (res x) (s1.set j (some (own' x))) := fun F S σ H Q w l k => by
  obtain ⟨v0, _, e0, _⟩ := l.get h0
  refine ⟨v0, e0, h.use w l fun vs F1 S1 H1 st1 sm1 r1 l1 => ?_⟩
  obtain ⟨v1, Z1, Z2, e1, o1, a1, a2, dj, l2, put⟩ := l1.focus j h1
  rw [e0] at e1
  cases e1
  have w1 : Wf F1 H1 (fun a => Z1 a ∨ Z2 a) := st1.wf.sub fun a z => z.elim (a1 a) (a2 a)
  show spO C own args res own' pre ((v0 :: vs) ++ []) H1 Q E
  rw [List.append_nil]
  refine ⟨F1, Z1, x, v0, vs, rfl, w1.sub fun a z => .inl z, o1, r1, hp, fun v F2 Z Z' H2 st2 o o' dj2 => ?_⟩
  obtain ⟨st3, same, dj3⟩ := Stp.beside w1 dj st2
  have l3 := put F2 H2 (own' x) Z' st2.ff same o' (fun a y z => dj3 a (.inr y) z) (fun a => Z' a ∨ Z2 a) (fun a z => .inl z) fun a z => .inr z
  refine k v F2 Z (fun a => Z' a ∨ Z2 a) H2 (((st1.sub (S2 := fun a => Z1 a ∨ Z2 a) fun a z => z.elim (a1 a) (a2 a)).trans st3).sub fun a z => ?_) (fun z => by cases z) o ?_ l3
  · rcases z with z | z | z
    · exact .inl (.inl z)
    · exact .inl (.inr z)
    · exact .inr z
  · intro a y z
    rcases z with z | z
    · exact dj2 a y z
    · exact dj3 a (.inl y) z
theorem ev_make {ι : Type} {c : Nat} {args : ι → List D} {fs : ι → List (Str × T)} {pre : ι → Prop} {E : XK} (x : ι) (h : EvA C p tr s ((args x).map .fz) s1) (hp : pre x) :
    Ev C p (tMake (C.cls c) (spO C (fun _ => .oi c []) args (fun _ => .fz .non) (fun i => .oi c (fs i)) pre) [] E tr) s (.oi c (fs x)) s1 := fun F S σ H Q w l k => h.use w l fun vs F1 S1 H1 st1 sm1 r1 l1 a dx ha hd hne => by
  have sta := Stp.newF (o := .own a) st1.wf hd
  have ha2 : upd H1 dx (.own a) a = none := by rw [upd_ne (fun e => hne e.symm)]; exact ha
  have stb := Stp.newO (o := .ins (C.cls c) dx []) sta.wf ha2
  have na : ∀ y, S1 y → y ≠ a := fun y z e => st1.wf.ex y z (by rw [e]; exact ha)
  have sm2 : Same H1 (upd (upd H1 dx (.own a)) a (.ins (C.cls c) dx [])) := (Same.newO hd).trans (Same.newO ha2)
  show spO C (fun _ => .oi c []) args (fun _ => .fz .non) (fun i => .oi c (fs i)) pre (.ref a :: (vs ++ [])) _ _ E
  rw [List.append_nil]
  refine ⟨upd F1 dx (.own a), (fun y => y = a), x, .ref a, vs, rfl, stb.wf.sub fun y z => .inl z, .oi (fvs := []) (fs := []) (S1 := no) upd_same rfl rfl (fun _ z => z.elim) .nil, r1.mono sta.ff, hp, fun v F2 Z Z' H2 st2 o o' dj2 => ?_⟩
  refine ⟨o.inv.nonv, ?_⟩
  obtain ⟨st3, same, dj3⟩ := Stp.beside stb.wf (fun y e z => na y z e) st2
  refine k (.ref a) F2 Z' S1 H2 ((((st1.trans sta).trans stb).trans st3).sub fun y z => ?_) (fun z y u e => ?_) o' (fun y e z => dj3 y (.inr e) z) (l1.frame ((sta.ff.trans stb.ff).trans st2.ff) fun y z => (same y z).trans (Same.own st1.wf sm2 y z))
  · rcases z with z | z
    · exact .inl (.inr z)
    · exact .inr z
  · have e1 := sm1 z y u e
    exact st2.keep y u (sm2 y u e1) (ne_of_none e1 ha)
end
end VD
set_option maxRecDepth 100000
set_option maxHeartbeats 4000000
namespace VD
open PySem PySem.Spec PyProof.Rows L2
/-! ### what is walked -/
def ItD (C : Ctx) (J : It) (F : Hp) (ds : List D) : Prop := ∃ (G : Hp → Prop) (Y : Nat → Hp → V → Hp → Prop), Walk J ds.length G Y ∧ (∀ H, Same F H → G H) ∧
  ∀ i F1 (S1 : Ad) H x H' d, Wf F1 H S1 → Same F F1 → Y i H x H' → ds[i]? = some d → ∃ F2, Stp F1 H S1 F2 H' S1 ∧ Same H H' ∧ Rp C F2 x d
def EvI (C : Ctx) (p : Bool) (wi : TI) (s : SD) (ds : List D) (s' : SD) : Prop := ∀ (F : Hp) (S : Ad) (σ : L2.St) (H : Hp) (R : It → Hp → Prop), Wf F H S → Sl C F H σ s S →
  (∀ J F' (S' : Ad) H', Stp F H S F' H' S' → (p = true → Same H H') → Sl C F' H' σ s' S' → ItD C J F' ds → R J H') → wi σ H R
/-- a target -/
def ExG (C : Ctx) (ws : List Nat) (g : TG) (s : SD) (d : D) (s' : SD) : Prop := ∀ (F : Hp) (S : Ad) (σ : L2.St) (H : Hp) (x : V) (Q : L2.St → Hp → Prop), Wf F H S → Sl C F H σ s S → Rp C F x d →
  (∀ σ', Sl C F H σ' s' S → (∀ j, j ∉ ws → σ'[j]? = σ[j]?) → σ'.length = σ.length → Q σ' H) → g x σ H Q
def ExGs (C : Ctx) (ws : List Nat) (g : TGs) (s : SD) (ds : List D) (s' : SD) : Prop := ∀ (F : Hp) (S : Ad) (σ : L2.St) (H : Hp) (xs : List V) (Q : L2.St → Hp → Prop), Wf F H S → Sl C F H σ s S → RpA C F xs ds →
  (∀ σ', Sl C F H σ' s' S → (∀ j, j ∉ ws → σ'[j]? = σ[j]?) → σ'.length = σ.length → Q σ' H) → g xs σ H Q
section
variable {C : Ctx} {pin ws ws' : List Nat} {p q : Bool} {te tu ta : TE} {tt : TT} {t1 t2 tb : TS} {tr : TA} {wi : TI} {g : TG} {gs : TGs} {s s1 s2 : SD} {t u : T} {ts : List T} {d : D} {ds : List D} {b : Bool} {N N1 B B' Cn Cn' N' : SD → Prop} {R R' : T → SD → Prop} {i j : Nat}
theorem eg_name : ExG C [i] (gName i) s d (s.set i (some (.fz d))) := fun F S σ H x Q w l r k => k _ ((Sl.put (Z := no) (.fz r) i l fun _ z => z.elim).wk fun a z => z.elim False.elim id) (fun j hj => by
  rw [List.getElem?_set_ne]
  exact fun e => hj (by rw [e]; simp)) (by simp)
theorem eg_nil : ExGs C [] gNil s [] s := fun F S σ H xs Q w l r k => by
  cases r
  exact ⟨rfl, k σ l (fun _ _ => rfl) rfl⟩
theorem eg_cons (h : ExG C ws g s d s1) (hr : ExGs C ws' gs s1 ds s2) : ExGs C (ws ++ ws') (gCons g gs) s (d :: ds) s2 := fun F S σ H xs Q w l r k => by
  cases r with
  | cons h0 r0 =>
    refine ⟨_, _, rfl, h F S σ H _ _ w l h0 fun σ1 l1 o1 n1 => hr F S σ1 H _ Q w l1 r0 fun σ2 l2 o2 n2 => k σ2 l2 (fun j hj => ?_) (n2.trans n1)⟩
    rw [List.mem_append, not_or] at hj
    exact (o2 j hj.2).trans (o1 j hj.1)
theorem eg_tup {n : Nat} (h : ExGs C ws gs s ds s1) (hn : ds.length = n := by rfl) : ExG C ws (gTup C.K n gs) s (.tup ds) s1 := fun F S σ H x Q w l r k => by
  cases r with
  | tup hs ra => exact ⟨_, _, rfl, Same.sqT w.fh hs, ra.len.trans hn, h F S σ H _ Q w l ra k⟩
theorem Pin.off {σ σ' : L2.St} (h : ∀ j, j ∉ ws → σ'[j]? = σ[j]?) (hp : ∀ j ∈ pin, j ∉ ws) : Pin pin σ σ' := fun j hj => h j (hp j hj)
/-- x = e by a target (a tuple is taken apart) -/
theorem ex_asgG (h : Ev C p te s (.fz d) s1) (hg : ExG C ws g s1 d s2) (hn : N s2) (hp : ∀ j ∈ pin, j ∉ ws := by decide) : Ex C pin (tAsg te g) s N R B Cn := fun F S σ H E w l n _ _ _ => h.use w l fun v F1 S1 H1 st sm r l1 =>
  hg F1 S1 σ H1 v _ st.wf l1 r fun σ' l2 off _ => n σ' F1 S1 H1 s2 hn st l2 (Pin.off off hp)
/-- a, b = e1, e2 -/
theorem ex_par {i j : Nat} (h : EvA C p tr s [t, u] s1) (hn : N ((s1.set i (some t)).set j (some u))) (hi : i ∉ pin := by decide) (hj : j ∉ pin := by decide) : Ex C pin (tPar i j tr) s N R B Cn := fun F S σ H E w l n _ _ _ => h F S σ H _ w l fun vs F1 Z S1 H1 st sm o dj l1 => by
  cases o with
  | @cons v _ vs _ _ Z1 Z2 h0 r s1' s2' d =>
    cases r with
    | @cons v2 _ vs2 _ _ Z3 Z4 h2 r2 s3' s4' d2 =>
      cases r2
      refine ⟨v, v2, rfl, n _ F1 _ H1 _ hn (st.sub (S2 := fun a => Z3 a ∨ (Z1 a ∨ S1 a)) fun a z => ?_) (Sl.put h2 j (Sl.put h0 i l1 fun a x y => dj a (s1' a x) y) ?_) ((Pin.set hi).trans (Pin.set hj))⟩
      · rcases z with z | z | z
        · exact .inl (s2' a (s3' a z))
        · exact .inl (s1' a z)
        · exact .inr z
      · intro a x y
        rcases y with y | y
        · exact d a y (s3' a x)
        · exact dj a (s2' a (s3' a x)) y
theorem ei_list (h : Ev C p te s (.fz (.lst ds)) s1) : EvI C p (iList C.K te) s ds s1 := fun F S σ H R w l k => h.use w l fun v F1 S1 H1 st sm r l1 => by
  cases r with
  | @lst a vs _ hs ra =>
    refine ⟨a, rfl, ⟨vs, st.wf.fh.seq hs⟩, k _ F1 S1 H1 st sm l1 ⟨fun H => SqL C.K H a vs, YAt vs, ?_, fun H e => e.seq hs, ?_⟩⟩
    · rw [← ra.len]
      exact walk_list
    · intro i F2 S2 H2 x H' d w2 e2 y hd
      obtain ⟨rfl, hx⟩ := y
      obtain ⟨d', hd', r⟩ := ra.getV i x hx
      rw [hd] at hd'
      cases hd'
      exact ⟨F2, Stp.refl w2, Same.refl _, r.mono e2⟩
theorem ei_tup (h : Ev C p te s (.fz (.tup ds)) s1) : EvI C p (iTup C.K te) s ds s1 := fun F S σ H R w l k => h.use w l fun v F1 S1 H1 st sm r l1 => by
  cases r with
  | @tup a vs _ hs ra =>
    refine ⟨a, rfl, ⟨vs, Same.sqT st.wf.fh hs⟩, k _ F1 S1 H1 st sm l1 ⟨fun H => SqT C.K H a vs, YAt vs, ?_, fun H e => Same.sqT e hs, ?_⟩⟩
    · rw [← ra.len]
      exact walk_tup
    · intro i F2 S2 H2 x H' d w2 e2 y hd
      obtain ⟨rfl, hx⟩ := y
      obtain ⟨d', hd', r⟩ := ra.getV i x hx
      rw [hd] at hd'
      cases hd'
      exact ⟨F2, Stp.refl w2, Same.refl _, r.mono e2⟩
/-- lo, lo + 1, .. -/
def rngD (lo : Int) (n : Nat) : List D := (List.range n).map fun i => .int (lo + (i : Nat))
theorem rngD_len {lo : Int} {n : Nat} : (rngD lo n).length = n := by simp [rngD]
theorem rngD_get {lo : Int} {n i : Nat} {d : D} (h : (rngD lo n)[i]? = some d) : i < n ∧ d = .int (lo + (i : Nat)) := by
  unfold rngD at h
  rw [List.getElem?_map] at h
  by_cases q : i < n
  · rw [List.getElem?_eq_getElem (by simpa using q)] at h
    simp at h
    exact ⟨q, h.symm⟩
  · rw [List.getElem?_eq_none (by simpa using q)] at h
    cases h
theorem itD_rng {F : Hp} {lo : Int} {n : Nat} : ItD C (Itr lo n) F (rngD lo n) := by
  refine ⟨fun _ => True, YFn fun i => .int (lo + i), ?_, fun _ _ => True.intro, ?_⟩
  · rw [rngD_len]
    exact walk_range
  · intro i F2 S2 H2 x H' d w2 e2 y hd
    obtain ⟨rfl, rfl⟩ := y
    obtain ⟨_, rfl⟩ := rngD_get hd
    exact ⟨F2, Stp.refl w2, Same.refl _, .int _⟩
theorem ei_rng1 {n : Int} (h : EvA C p tr s [.fz (.int n)] s1) (hl : -(2 ^ 62) ≤ n) (hu : n < 2 ^ 62) : EvI C p (iRng1 tr) s (rngD 0 n.toNat) s1 := fun F S σ H R w l k => EvA.use (ds := [.int n]) h w l fun vs F1 S1 H1 st sm r0 l1 => by
  obtain ⟨v, rfl, r⟩ := r0.one
  exact ⟨n, by rw [r.intv], hl, hu, k _ F1 S1 H1 st sm l1 itD_rng⟩
theorem ei_rng2 {lo hi : Int} (h : EvA C p tr s [.fz (.int lo), .fz (.int hi)] s1) (hb : -(2 ^ 62) ≤ lo ∧ lo < 2 ^ 62 ∧ -(2 ^ 62) ≤ hi ∧ hi < 2 ^ 62) : EvI C p (iRng2 tr) s (rngD lo (hi - lo).toNat) s1 := fun F S σ H R w l k => EvA.use (ds := [.int lo, .int hi]) h w l fun vs F1 S1 H1 st sm r l1 => by
  obtain ⟨v, u, rfl, r1, r2⟩ := r.two
  exact ⟨lo, hi, by rw [r1.intv, r2.intv], hb, k _ F1 S1 H1 st sm l1 itD_rng⟩
/-- pairs that are made anew at each turn -/
theorem itD_pair {J : It} {F : Hp} {G : Hp → Prop} {xs ys : Nat → Option V} {as bs : List D} (hw : Walk J (as.zip bs).length G (YPair xs ys)) (hg : ∀ H, Same F H → G H)
    (hx : ∀ i x a, xs i = some x → as[i]? = some a → Rp C F x a) (hy : ∀ i y b, ys i = some y → bs[i]? = some b → Rp C F y b) : ItD C J F ((as.zip bs).map fun ab => .tup [ab.1, ab.2]) := by
  refine ⟨G, YPair xs ys, by rw [List.length_map]; exact hw, hg, ?_⟩
  intro i F2 S2 H2 x H' d w2 e2 y hd
  obtain ⟨T, x0, y0, rfl, hT, rfl, h1, h2⟩ := y
  rw [List.getElem?_map] at hd
  cases e : (as.zip bs)[i]? with
  | none => rw [e] at hd; cases hd
  | some ab =>
    rw [e] at hd
    cases hd
    obtain ⟨e1, e2'⟩ := List.getElem?_zip_eq_some.mp e
    have st := Stp.newF (o := .tup [x0, y0]) w2 hT
    exact ⟨_, st, Same.newO hT, .tup (SqT.of upd_same) (.cons (((hx i x0 _ h1 e1).mono e2).mono st.ff) (.cons (((hy i y0 _ h2 e2').mono e2).mono st.ff) .nil))⟩
def enumD (l : List D) : List D := ((rngD 0 l.length).zip l).map fun ab => .tup [ab.1, ab.2]
theorem enumD_len {l : List D} : (enumD l).length = l.length := by simp [enumD, rngD_len]
theorem enumD_get {l : List D} {i : Nat} {d : D} (h : (enumD l)[i]? = some d) : ∃ e, l[i]? = some e ∧ d = .tup [.int (i : Nat), e] := by
  unfold enumD at h
  rw [List.getElem?_map] at h
  cases e : ((rngD 0 l.length).zip l)[i]? with
  | none => rw [e] at h; cases h
  | some ab =>
    rw [e] at h
    cases h
    obtain ⟨e1, e2⟩ := List.getElem?_zip_eq_some.mp e
    obtain ⟨_, z⟩ := rngD_get e1
    refine ⟨ab.2, e2, ?_⟩
    show D.tup [ab.1, ab.2] = _
    rw [z, Int.zero_add]
theorem ei_enum (h : EvA C p tr s [.fz (.lst ds)] s1) : EvI C p (iEnum C.K tr) s (enumD ds) s1 := fun F S σ H R w l k => EvA.use (ds := [.lst ds]) h w l fun vs F1 S1 H1 st sm r0 l1 => by
  obtain ⟨v, rfl, r⟩ := r0.one
  cases r with
  | @lst a vs _ hs ra =>
    refine ⟨a, vs, rfl, st.wf.fh.seq hs, k _ F1 S1 H1 st sm l1 (itD_pair (G := fun H => SqL C.K H a vs) (xs := fun i => some (.int (i : Nat))) (ys := fun i => vs[i]?) ?_ (fun H e => e.seq hs) ?_ ?_)⟩
    · have : ((rngD 0 ds.length).zip ds).length = vs.length := by simp [rngD_len, ra.len]
      rw [this]
      exact walk_enum
    · intro i x b e1 e2
      cases e1
      obtain ⟨_, rfl⟩ := rngD_get e2
      rw [Int.zero_add]
      exact .int _
    · intro i y b e1 e2
      obtain ⟨d', hd', r⟩ := ra.getV i y e1
      rw [e2] at hd'
      cases hd'
      exact r
def zipD (l m : List D) : List D := (l.zip m).map fun ab => .tup [ab.1, ab.2]
theorem zipD_get {l m : List D} {i : Nat} {d : D} (h : (zipD l m)[i]? = some d) : ∃ a b, l[i]? = some a ∧ m[i]? = some b ∧ d = .tup [a, b] := by
  unfold zipD at h
  rw [List.getElem?_map] at h
  cases e : (l.zip m)[i]? with
  | none => rw [e] at h; cases h
  | some ab =>
    rw [e] at h
    cases h
    obtain ⟨e1, e2⟩ := List.getElem?_zip_eq_some.mp e
    exact ⟨_, _, e1, e2, rfl⟩
theorem ei_zip {l m : List D} (h : EvA C p tr s [.fz (.lst l), .fz (.lst m)] s1) : EvI C p (iZip C.K tr) s (zipD l m) s1 := fun F S σ H R w lk k => EvA.use (ds := [.lst l, .lst m]) h w lk fun vs F1 S1 H1 st sm r l1 => by
  obtain ⟨v, u, rfl, r1, r2⟩ := r.two
  cases r1 with
  | @lst a xs _ hs ra =>
    cases r2 with
    | @lst b ys _ hs2 ra2 =>
      refine ⟨a, b, xs, ys, rfl, st.wf.fh.seq hs, st.wf.fh.seq hs2, k _ F1 S1 H1 st sm l1 (itD_pair (G := fun H => SqL C.K H a xs ∧ SqL C.K H b ys) (xs := fun i => xs[i]?) (ys := fun i => ys[i]?) (walk_zip ?_) (fun H e => ⟨e.seq hs, e.seq hs2⟩) ?_ ?_)⟩
      · rw [List.length_zip, ra.len, ra2.len]
      · intro i y b e1 e2
        obtain ⟨d', hd', r⟩ := ra.getV i y e1
        rw [e2] at hd'
        cases hd'
        exact r
      · intro i y b e1 e2
        obtain ⟨d', hd', r⟩ := ra2.getV i y e1
        rw [e2] at hd'
        cases hd'
        exact r
/-- for: I holds ahead of the turn -/
theorem ex_for (I : Nat → SD → Prop) (h : EvI C p wi s ds s1) (h0 : I 0 s1) (hb : ∀ i d s, ds[i]? = some d → I i s → ∃ ws s2, ExG C ws g s d s2 ∧ (∀ j ∈ pin, j ∉ ws) ∧ Ex C pin tb s2 (I (i + 1)) R N (I (i + 1))) (hd : ∀ s, I ds.length s → N s) :
    Ex C pin (tFor wi g tb) s N R B Cn := fun F S σ H E w l n r _ _ => by
  refine h F S σ H _ w l fun J F1 S1 H1 st1 sm1 l1 ⟨G, Y, walk, hG, hY⟩ => ?_
  refine for_it walk (D := E) (fun i σ' H' => ∃ F' S' s', I i s' ∧ Stp F1 H1 S1 F' H' S' ∧ Sl C F' H' σ' s' S' ∧ Pin pin σ σ') ⟨F1, S1, s1, h0, Stp.refl st1.wf, l1, Pin.refl σ⟩ (fun i σ' H' _ ⟨F', S', s', _, st', _⟩ => hG H' (st'.ff.trans st'.wf.fh)) ?_ ?_
  · intro i x σ' H' H2 hi ⟨F', S', s', hI, st', l', pn'⟩ y
    have hdi : ds[i]? = some ds[i] := List.getElem?_eq_getElem hi
    obtain ⟨F2, st2, sm2, rx⟩ := hY i F' S' H' x H2 _ st'.wf st'.ff y hdi
    obtain ⟨ws, s2, hg, hpw, hx⟩ := hb i _ s' hdi hI
    have l2 := l'.frame st2.ff (Same.own st'.wf sm2)
    refine hg F2 S' σ' H2 x _ st2.wf l2 rx fun σ2 l3 off _ => ?_
    have pn2 : Pin pin σ σ2 := pn'.trans (Pin.off off hpw)
    have st3 := (st1.trans st').trans st2
    refine hx F2 S' σ2 H2 _ st2.wf l3 ?_ (r.aft st3 pn2) (n.aft st3 pn2) ?_
    · intro σ4 F4 S4 H4 s4 hI4 st4 l4 pn4
      exact ⟨F4, S4, s4, hI4, (st'.trans st2).trans st4, l4, pn2.trans pn4⟩
    · intro σ4 F4 S4 H4 s4 hI4 st4 l4 pn4
      exact ⟨F4, S4, s4, hI4, (st'.trans st2).trans st4, l4, pn2.trans pn4⟩
  · intro σ' H' ⟨F', S', s', hI, st', l', pn'⟩
    exact n σ' F' S' H' s' (hd s' hI) (st1.trans st') l' pn'
/-- while: I with a measure that falls -/
theorem ex_while (I : Nat → SD → Prop) {m0 : Nat} (h0 : I m0 s) (hs : ∀ m s, I m s → ∃ p b s1, EvT C p tt s b s1 ∧ (b = true → Ex C pin tb s1 (fun s' => ∃ m', m' < m ∧ I m' s') R N (fun s' => ∃ m', m' < m ∧ I m' s')) ∧ (b = false → N s1)) :
    Ex C pin (tWhile tt tb) s N R B Cn := fun F S σ H E w l n r _ _ => by
  refine ⟨fun m σ' H' => ∃ F' S' s', I m s' ∧ Stp F H S F' H' S' ∧ Sl C F' H' σ' s' S' ∧ Pin pin σ σ', ⟨m0, F, S, s, h0, Stp.refl w, l, Pin.refl σ⟩, ?_⟩
  intro m σ' H' ⟨F', S', s', hI, st', l', pn'⟩
  obtain ⟨p, b, s1, ht, hy, hn⟩ := hs m s' hI
  refine ht F' S' σ' H' _ st'.wf l' fun F1 S1 H1 st1 sm1 l1 => ?_
  have st2 := st'.trans st1
  cases b with
  | true =>
    rw [if_pos rfl]
    refine ⟨fun σ4 H4 => ∃ m', m' < m ∧ ∃ F' S' s', I m' s' ∧ Stp F H S F' H4 S' ∧ Sl C F' H4 σ4 s' S' ∧ Pin pin σ σ4, fun _ _ z => z, ?_⟩
    refine hy rfl F1 S1 σ' H1 _ st1.wf l1 ?_ (r.aft st2 pn') (n.aft st2 pn') ?_
    · intro σ4 F4 S4 H4 s4 ⟨m', hm, hI4⟩ st4 l4 pn4
      exact ⟨m', hm, F4, S4, s4, hI4, st2.trans st4, l4, pn'.trans pn4⟩
    · intro σ4 F4 S4 H4 s4 ⟨m', hm, hI4⟩ st4 l4 pn4
      exact ⟨m', hm, F4, S4, s4, hI4, st2.trans st4, l4, pn'.trans pn4⟩
  | false =>
    rw [if_neg Bool.false_ne_true]
    exact n σ' F1 S1 H1 s1 (hn rfl) st2 l1 pn'
end
end VD
set_option maxRecDepth 100000
set_option maxHeartbeats 4000000
namespace VD
open PySem PySem.Spec PyProof.Rows L2
/-! ### comprehensions -/
def wipeS (s : SD) : List Nat → SD
  | [] => s
  | v :: vs => (wipeS s vs).set v none
theorem Sl.drop {C : Ctx} {F H : Hp} : ∀ {σ : L2.St} {s : SD} {S : Ad} (i : Nat) (o : Option V), Sl C F H σ s S → Sl C F H (σ.set i o) (s.set i none) S
  | _, _, _, _, _, .nil => .nil
  | _, _, _, 0, _, .no r => .no r
  | _, _, _, 0, _, .so h r s1 s2 d => .no (r.wk s2)
  | _, _, _, i + 1, o, .no r => .no (Sl.drop i o r)
  | _, _, _, i + 1, o, .so h r s1 s2 d => .so h (Sl.drop i o r) s1 s2 d
theorem Sl.wipe {C : Ctx} {F H : Hp} {σ : L2.St} {s : SD} {S : Ad} (l : Sl C F H σ s S) : ∀ vs, Sl C F H (L2.wipe σ vs) (wipeS s vs) S
  | [] => l
  | v :: vs => (Sl.wipe l vs).drop v none
/-- the slots' values matter where something is known of them -/
theorem Sl.swap {C : Ctx} {F H : Hp} : ∀ {σ σ' : L2.St} {s : SD} {S : Ad}, Sl C F H σ s S → σ'.length = σ.length → (∀ (i : Nat) (t : T), s[i]? = some (some t) → σ'[i]? = σ[i]?) → Sl C F H σ' s S
  | _, [], _, _, .nil, _, _ => .nil
  | _, _ :: _, _, _, .nil, e, _ => by simp at e
  | _, [], _, _, .no r, e, _ => by simp at e
  | _, _ :: _, _, _, .no r, e, h => .no (Sl.swap r (by simpa using e) fun i t q => by simpa using h (i + 1) t (by simpa using q))
  | _, [], _, _, .so _ r _ _ _, e, _ => by simp at e
  | _, o :: _, _, _, .so (t := t) h0 r s1 s2 d, e, h => by
    have z := h 0 t (by simp)
    simp at z
    subst z
    exact .so h0 (Sl.swap r (by simpa using e) fun i t q => by simpa using h (i + 1) t (by simpa using q)) s1 s2 d
theorem wipeS_none : ∀ {vs : List Nat} {s : SD} {i : Nat} {t : T}, (wipeS s vs)[i]? = some (some t) → i ∉ vs
  | [], _, _, _, _ => by simp
  | v :: vs, s, i, t, h => by
    unfold wipeS at h
    by_cases e : v = i
    · subst e
      by_cases q : v < (wipeS s vs).length
      · rw [List.getElem?_set_self q] at h; cases h
      · rw [List.getElem?_eq_none (by simpa using q)] at h; cases h
    · rw [List.getElem?_set_ne e] at h
      simp only [List.mem_cons, not_or]
      exact ⟨fun z => e z.symm, wipeS_none h⟩
theorem wipe_get : ∀ {vs : List Nat} {σ : L2.St} {i : Nat}, i ∉ vs → (L2.wipe σ vs)[i]? = σ[i]?
  | [], _, _, _ => rfl
  | v :: vs, σ, i, h => by
    simp only [List.mem_cons, not_or] at h
    unfold L2.wipe
    rw [List.getElem?_set_ne fun z => h.1 z.symm]
    exact wipe_get h.2
theorem Sl.unwipe {C : Ctx} {F H : Hp} {σ : L2.St} {s : SD} {S : Ad} {vs : List Nat} (l : Sl C F H (L2.wipe σ vs) s S) (h : wipeS s vs = s) : Sl C F H σ s S :=
  Sl.swap l (wipe_length σ vs).symm fun i t q => (wipe_get (wipeS_none (by rw [h]; exact q))).symm
theorem wipe_wipe : ∀ {vs : List Nat} {σ σ' : L2.St}, σ'.length = σ.length → (∀ j, j ∉ vs → σ'[j]? = σ[j]?) → L2.wipe σ' vs = L2.wipe σ vs := fun {vs σ σ'} hl h => by
  have inn : ∀ (vs : List Nat) (σ : L2.St) j, j ∈ vs → j < σ.length → (L2.wipe σ vs)[j]? = some none := by
    intro vs
    induction vs with
    | nil => intro σ j h _; simp at h
    | cons v vs ih =>
      intro σ j h hj
      unfold L2.wipe
      by_cases e : v = j
      · subst e
        rw [List.getElem?_set_self (by rw [wipe_length]; exact hj)]
      · rw [List.getElem?_set_ne e]
        refine ih σ j ?_ hj
        simp only [List.mem_cons] at h
        exact h.resolve_left fun z => e z.symm
  apply List.ext_getElem?
  intro j
  by_cases q : j ∈ vs
  · by_cases hj : j < σ.length
    · rw [inn vs σ j q hj, inn vs σ' j q (by omega)]
    · rw [List.getElem?_eq_none (by rw [wipe_length]; omega), List.getElem?_eq_none (by rw [wipe_length]; omega)]
  · rw [wipe_get q, wipe_get q, h j q]
/-- what the turns give -/
def gath (n : Nat) (f : Nat → Bool) (v : Nat → T) : List T := ((List.range n).filter f).map v
theorem gath_yes {n : Nat} {f : Nat → Bool} {v : Nat → T} (h : f n = true) : gath (n + 1) f v = gath n f v ++ [v n] := by
  unfold gath
  rw [List.range_succ, List.filter_append, List.map_append, List.filter_cons, if_pos h] <;> rfl
theorem gath_no {n : Nat} {f : Nat → Bool} {v : Nat → T} (h : f n = false) : gath (n + 1) f v = gath n f v := by
  unfold gath
  rw [List.range_succ, List.filter_append, List.map_append, List.filter_cons, if_neg (by rw [h]; decide)]
  show _ ++ [] = _
  rw [List.append_nil]
theorem gath_len (n : Nat) (f : Nat → Bool) (v : Nat → T) : (gath n f v).length ≤ n := by
  unfold gath
  rw [List.length_map]
  have h := List.length_filter_le f (List.range n)
  rw [List.length_range] at h
  exact h
section
variable {C : Ctx} {pin ws : List Nat} {p q : Bool} {te : TE} {tt : TT} {wi : TI} {g : TG} {s s1 : SD} {ds : List D}
theorem et_yes {s : SD} : EvT C true tYes s true s := fun F S σ H Q w l k => k F S H (Stp.refl w) (fun _ => Same.refl H) l
/-- one turn of a comprehension: x = d, the test, the value -/
def LcT (C : Ctx) (q : Bool) (g : TG) (tt : TT) (te : TE) (vs : List Nat) (s : SD) (d : D) (b : Bool) (t : T) (s' : SD) : Prop :=
  ∃ ws s2 s3, ExG C ws g s d s2 ∧ (∀ j ∈ ws, j ∈ vs) ∧ EvT C q tt s2 b s3 ∧ (b = true → ∃ s4, Ev C q te s3 t s4 ∧ wipeS s4 vs = s') ∧ (b = false → wipeS s3 vs = s')
theorem ev_lc {vs : List Nat} (st : Nat → SD) (f : Nat → Bool) (v : Nat → T) (h : EvI C p wi s ds s1) (h0 : st 0 = s1) (hw : ∀ i, i ≤ ds.length → wipeS (st i) vs = st i) (hl : ds.length ≤ 100000)
    (turn : ∀ i d, ds[i]? = some d → LcT C q g tt te vs (st i) d (f i) (v i) (st (i + 1))) : Ev C (p && q) (tLc wi g tt te vs) s (.ol (gath ds.length f v)) (st ds.length) := fun F S σ H Q w l k => by
  refine h F S σ H _ w l fun J F1 S1 H1 st1 sm1 l1 ⟨G, Y, walk, hG, hY⟩ Da hD => ?_
  have stD := Stp.newO (o := .lst []) st1.wf hD
  have nD : ∀ a, S1 a → a ≠ Da := fun a z e => st1.wf.ex a z (by rw [e]; exact hD)
  have l1' : Sl C F1 (upd H1 Da (.lst [])) σ s1 S1 := l1.frame (Same.refl _) (Same.own st1.wf (Same.newO hD))
  refine lc_it walk (Qd := Q (.ref Da)) (fun i H' => ∃ F' Zc S' vs', Stp F1 H1 S1 F' H' (fun a => (a = Da ∨ Zc a) ∨ S' a) ∧ ((p && q) = true → Same H H') ∧ H' Da = some (.lst vs') ∧ OwA C F' H' vs' (gath i f v) Zc ∧
    (∀ a, Zc a → a ≠ Da) ∧ (∀ a, (a = Da ∨ Zc a) → S' a → False) ∧ Sl C F' H' (L2.wipe σ vs) (st i) S') ⟨F1, no, S1, [], ?_, fun z => (sm1 (pq1 z)).trans (Same.newO hD), upd_same, ?_, fun _ z => z.elim, fun a y z => ?_, ?_⟩ (fun i H' _ ⟨F', Zc, S', vs', st', _⟩ => hG H' (st'.ff.trans st'.wf.fh)) ?_ ?_
  · exact stD.sub fun a z => by
      rcases z with (z | z) | z
      · exact .inl z
      · exact z.elim
      · exact .inr z
  · show OwA C F1 _ [] [] no
    exact .nil
  · rcases y with y | y
    · exact nD a z y
    · exact y.elim
  · rw [← hw 0 (Nat.zero_le _), h0]
    exact l1'.wipe vs
  · intro i x H' H2 hi ⟨F', Zc, S', vs', st', sm', hDa, oc, nc, dj, l'⟩ y
    have hdi : ds[i]? = some ds[i] := List.getElem?_eq_getElem hi
    obtain ⟨F2, st2, sm2, rx⟩ := hY i F' _ H' x H2 _ st'.wf st'.ff y hdi
    obtain ⟨ws, s2, s3, hg, hws, ht, he, hne⟩ := turn i _ hdi
    have same2 := Same.own st'.wf sm2
    have l2 := l'.frame st2.ff fun a z => same2 a (.inr z)
    have oc2 := oc.frame st2.ff fun a z => same2 a (.inl (.inr z))
    have hDa2 : H2 Da = some (.lst vs') := (same2 Da (.inl (.inl rfl))).trans hDa
    have st2' := st'.trans st2
    refine hg F2 S' (L2.wipe σ vs) H2 x _ (st2.wf.sub fun a z => .inr z) l2 rx fun σ2 l3 off len2 => ?_
    have hwp : L2.wipe σ2 vs = L2.wipe σ vs := by
      refine wipe_wipe (by rw [len2, wipe_length]) fun j hj => ?_
      rw [off j fun z => hj (hws j z), wipe_get hj]
    refine ⟨hwp, ?_⟩
    refine ht F2 S' σ2 H2 _ (st2.wf.sub fun a z => .inr z) l3 fun F3 S3 H3 st3 sm3 l4 => ?_
    have w2 : Wf F2 H2 (fun a => S' a ∨ (a = Da ∨ Zc a)) := st2.wf.sub fun a z => z.elim .inr .inl
    obtain ⟨st3', same3, dj3⟩ := Stp.beside w2 (fun a x y => dj a y x) st3
    have st23 := (st2'.sub (S2 := fun a => S' a ∨ (a = Da ∨ Zc a)) fun a z => z.elim .inr .inl).trans st3'
    have hDa3 : H3 Da = some (.lst vs') := (same3 Da (.inl rfl)).trans hDa2
    have oc3 := oc2.frame st3.ff fun a z => same3 a (.inr z)
    have back : ∀ {F4 : Hp} {S4 : Ad} {H4 : Hp} {s4 : SD}, Sl C F4 H4 σ2 s4 S4 → Sl C F4 H4 (L2.wipe σ vs) (wipeS s4 vs) S4 := fun l => by
      rw [← hwp]
      exact l.wipe vs
    cases hf : f i with
    | false =>
      rw [hf] at hne
      rw [if_neg Bool.false_ne_true]
      refine ⟨F3, Zc, S3, vs', st23.sub fun a z => z.elim .inr .inl, fun z => ((sm' z).trans sm2).trans (sm3 (pq2 z)), hDa3, by rw [gath_no hf]; exact oc3, nc, fun a y z => dj3 a z y, ?_⟩
      have := back l4
      rw [hne rfl] at this
      exact this
    | true =>
      rw [hf] at he
      rw [if_pos rfl]
      obtain ⟨s4, he, hst⟩ := he rfl
      refine he F3 S3 σ2 H3 _ (st3.wf) l4 fun y F4 Z4 S4 H4 st4 sm4 o4 dj4 l5 => ?_
      have w3 : Wf F3 H3 (fun a => S3 a ∨ (a = Da ∨ Zc a)) := st3'.wf
      obtain ⟨st4', same4, dj4'⟩ := Stp.beside w3 dj3 st4
      have hDa4 : H4 Da = some (.lst vs') := (same4 Da (.inl rfl)).trans hDa3
      have oc4 := oc3.frame st4.ff fun a z => same4 a (.inr z)
      refine ⟨vs', hDa4, ?_, ?_⟩
      · rw [oc4.len]
        exact Nat.lt_of_le_of_lt (gath_len i f v) (Nat.lt_of_lt_of_le hi (Nat.le_trans hl (by decide)))
      · have st5 := Stp.put (p := Da) (o := .lst (vs' ++ [y])) st4'.wf (.inr (.inl rfl))
        have off5 : ∀ a, a ≠ Da → upd H4 Da (.lst (vs' ++ [y])) a = H4 a := fun a q => upd_ne q
        refine ⟨F4, fun a => Z4 a ∨ Zc a, S4, vs' ++ [y], ((st23.trans st4').trans st5).sub fun a z => ?_, fun z => ?_, upd_same, ?_, ?_, ?_, ?_⟩
        · rcases z with (z | z | z) | z
          · exact .inr (.inl z)
          · exact .inl (.inl z)
          · exact .inr (.inr z)
          · exact .inl (.inr z)
        · have z1 := (((sm' z).trans sm2).trans (sm3 (pq2 z))).trans (sm4 (pq2 z))
          intro a o e
          have e1 := st1.wf.fh
          have : a ≠ Da := fun e' => by
            have := sm1 (pq1 z) a o e
            rw [e', hD] at this
            cases this
          rw [off5 a this]
          exact z1 a o e
        · rw [gath_yes hf]
          have nz : ∀ a, Z4 a → a ≠ Da := fun a z e => dj4' a (.inl z) (.inl e)
          exact (OwA.snoc o4 oc4 fun a x z => dj4' a (.inl x) (.inr z)).frame (Same.refl _) fun a z => off5 a (z.elim (nz a) (nc a))
        · intro a z
          rcases z with z | z
          · exact fun e => dj4' a (.inl z) (.inl e)
          · exact nc a z
        · intro a y z
          rcases y with y | y | y
          · exact dj4' a (.inr z) (.inl y)
          · exact dj4 a y z
          · exact dj4' a (.inr z) (.inr y)
        · have := back l5
          rw [hst] at this
          exact this.frame (Same.refl _) fun a z => off5 a fun e => dj4' a (.inr z) (.inl e)
  · intro H' ⟨F', Zc, S', vs', st', sm', hDa, oc, nc, dj, l'⟩
    exact k (.ref Da) F' (fun a => a = Da ∨ Zc a) S' H' (st1.trans st') sm' (.ol hDa (.inl rfl) (fun a z => ⟨.inr z, nc a z⟩) oc) dj (l'.unwipe (hw _ (Nat.le_refl _)))
end
end VD
set_option maxRecDepth 100000
set_option maxHeartbeats 4000000
namespace VD
open PySem PySem.Spec PyProof.Rows L2
/-! ### a def's body from its judgement -/
theorem Sl.nones {C : Ctx} {F H : Hp} {S : Ad} : ∀ n, Sl C F H (List.replicate n none) (List.replicate n none) S
  | 0 => .nil
  | n + 1 => .no (Sl.nones n)
theorem Sl.start {C : Ctx} {F H : Hp} {S : Ad} {n : Nat} : ∀ {vs : List V} {ds : List D}, RpA C F vs ds → Sl C F H (vs.map some ++ List.replicate n none) (ds.map (fun d => some (.fz d)) ++ List.replicate n none) S
  | _, _, .nil => Sl.nones n
  | _, _, .cons h r => .so (S1 := VD.no) (.fz h) (Sl.start r) (fun _ z => z.elim) (fun _ z => z) fun _ z => z.elim
abbrev sl0 (ds : List D) (n : Nat) : SD := ds.map (fun d => some (.fz d)) ++ List.replicate n none
abbrev bot : SD → Prop := fun _ => False
section
variable {C : Ctx} {ι : Type} {own : ι → T} {args : ι → List D} {res own' : ι → T} {pre : ι → Prop} {N : List Str} {t : TS} {nn : Nat} {vs : List V} {H : Hp} {Q : VK} {E : XK}
theorem spP_len {m : Nat} (h : spP C args res pre vs H Q E) (hm : ∀ x, (args x).length = m) : vs.length = m := by
  obtain ⟨F, x, _, r, _⟩ := h
  rw [r.len, hm]
theorem spP_go (h : spP C args res pre vs H Q E) (hn : ∀ x, (args x).length + nn = N.length) (hx : ∀ x, pre x → Ex C [] t (sl0 (args x) nn) (fun _ => res x = .fz .non) (fun t' _ => t' = res x) bot bot) : t { nx := fun _ H' => Q .non H', rt := Q } (L2.start N vs) H := by
  obtain ⟨F, x, w, r, hp, k⟩ := h
  have w0 : Wf F H no := ⟨w, fun _ z => z.elim, fun _ z => z.elim⟩
  have e : L2.start N vs = vs.map some ++ List.replicate nn none := by
    unfold L2.start
    rw [r.len]
    have := hn x
    rw [show N.length - (args x).length = nn by omega]
  rw [e]
  refine hx x hp F no _ H _ w0 (Sl.start r) ?_ ?_ ?_ ?_
  · intro σ' F' S' H' s' hr st l pn
    exact k .non F' no H' (st.sub fun _ z => z.elim) (by rw [hr]; exact .fz .non)
  · intro v F' Z S' H' σ' t' s' hr st o dj l pn
    subst hr
    exact k v F' Z H' (st.sub fun a z => .inl z) o
  · intro σ' F' S' H' s' z
    exact z.elim
  · intro σ' F' S' H' s' z
    exact z.elim
theorem spO_len {m : Nat} (h : spO C own args res own' pre vs H Q E) (hm : ∀ x, (args x).length + 1 = m) : vs.length = m := by
  obtain ⟨F, S, x, v0, vs', rfl, _, _, r, _⟩ := h
  rw [List.length_cons, r.len, hm]
theorem spO_go (h : spO C own args res own' pre vs H Q E) (hn : ∀ x, (args x).length + 1 + nn = N.length) (hx : ∀ x, pre x → Ex C [0] t (some (own x) :: sl0 (args x) nn) (fun s' => res x = .fz .non ∧ s'[0]? = some (some (own' x))) (fun t' s' => t' = res x ∧ s'[0]? = some (some (own' x))) bot bot) :
    t { nx := fun _ H' => Q .non H', rt := Q } (L2.start N vs) H := by
  obtain ⟨F, S, x, v0, vs', rfl, w, o, r, hp, k⟩ := h
  have e : L2.start N (v0 :: vs') = some v0 :: (vs'.map some ++ List.replicate nn none) := by
    unfold L2.start
    have := hn x
    rw [List.length_cons, r.len, show N.length - ((args x).length + 1) = nn by omega]
    rfl
  rw [e]
  refine hx x hp F S _ H _ w (.so (S2 := no) o (Sl.start r) (fun _ z => z) (fun _ z => z.elim) fun _ _ z => z.elim) ?_ ?_ ?_ ?_
  · intro σ' F' S' H' s' ⟨hr, h0⟩ st l pn
    obtain ⟨v, Z1, e1, o1, a1⟩ := l.get h0
    rw [pn 0 (by simp)] at e1
    cases e1
    exact k .non F' no Z1 H' (st.sub fun a z => z.elim False.elim (a1 a)) (by rw [hr]; exact .fz .non) o1 fun _ z => z.elim
  · intro v F' Z S' H' σ' t' s' ⟨hr, h0⟩ st o dj l pn
    subst hr
    obtain ⟨v1, Z1, e1, o1, a1⟩ := l.get h0
    rw [pn 0 (by simp)] at e1
    cases e1
    exact k v F' Z Z1 H' (st.sub fun a z => z.elim .inl fun z => .inr (a1 a z)) o o1 fun a x y => dj a x (a1 a y)
  · intro σ' F' S' H' s' z
    exact z.elim
  · intro σ' F' S' H' s' z
    exact z.elim
end
section
variable {P : Program} {w : World} {K : PySem.W.Frag} {mg : Str → Option Value} {base : Heap} {C : Ctx} {ι : Type} {own : ι → T} {args : ι → List D} {res own' : ι → T} {pre : ι → Prop}
/-- a def that takes frozen arguments and changes nothing -/
theorem fnP {x qual : Str} {st : Stmt} {f : Addr} {fd : FuncData} {N ps : List Str} {k : Nat} (D : Fun K x qual st f fd) (S : FnScope N ps (defScope st)) (ha : ∀ x, (args x).length = ps.length)
    (body : ∀ (cdv : Value) (A : Around) (outer : List Env) (s : Shared) (H : Hp) (E : XK), Room k (A.deeper (envOfC qual (defScope st) s.heap.objs.size f cdv)) →
      ∃ t, PSs (cxOf CX0 P w K mg base N qual (defScope st) f cdv A outer s H E).nox (defBody st) t ∧ ∀ x, pre x → Ex C [] t (sl0 (args x) (N.length - ps.length)) (fun _ => res x = .fz .non) (fun t' _ => t' = res x) bot bot) :
    FnOk P w K mg base CX0 (k + 1) f fd ps (spP C args res pre) := by
  refine D.ok S (fun vs H Q E h => spP_len h ha) fun cdv A outer s H vs Q E hr h => ?_
  obtain ⟨t, h1, h2⟩ := body cdv A outer s H E hr
  refine ⟨t, h1, spP_go h (fun x => ?_) h2⟩
  have hl : (N.take ps.length).length = ps.length := congrArg List.length S.pre
  rw [List.length_take] at hl
  rw [ha x]
  omega
theorem fnO {x qual : Str} {st : Stmt} {f : Addr} {fd : FuncData} {N ps : List Str} {k : Nat} (D : Fun K x qual st f fd) (S : FnScope N ps (defScope st)) (ha : ∀ x, (args x).length + 1 = ps.length)
    (body : ∀ (cdv : Value) (A : Around) (outer : List Env) (s : Shared) (H : Hp) (E : XK), Room k (A.deeper (envOfC qual (defScope st) s.heap.objs.size f cdv)) →
      ∃ t, PSs (cxOf CX0 P w K mg base N qual (defScope st) f cdv A outer s H E).nox (defBody st) t ∧ ∀ x, pre x → Ex C [0] t (some (own x) :: sl0 (args x) (N.length - ps.length)) (fun s' => res x = .fz .non ∧ s'[0]? = some (some (own' x))) (fun t' s' => t' = res x ∧ s'[0]? = some (some (own' x))) bot bot) :
    FnOk P w K mg base CX0 (k + 1) f fd ps (spO C own args res own' pre) := by
  refine D.ok S (fun vs H Q E h => spO_len h ha) fun cdv A outer s H vs Q E hr h => ?_
  obtain ⟨t, h1, h2⟩ := body cdv A outer s H E hr
  refine ⟨t, h1, spO_go h (fun x => ?_) h2⟩
  have hl : (N.take ps.length).length = ps.length := congrArg List.length S.pre
  rw [List.length_take] at hl
  rw [ha x]
  omega
end
end VD
set_option maxRecDepth 100000
set_option maxHeartbeats 4000000
namespace VD
open PySem PySem.Spec PyProof.Rows L2
/-! ### a part of what a slot owns -/
/-- the value v stands at a place of the slots where t is; k tells the slots with another thing there -/
def FocAt (C : VD.Ctx) (F H : Hp) (S : Ad) (σ : L2.St) (v : V) (t : T) (k : T → SD) : Prop := ∃ S1 S2 : Ad, Ow C F H v t S1 ∧ (∀ a, S1 a → S a) ∧ (∀ a, S2 a → S a) ∧ (∀ a, S1 a → S2 a → False) ∧
  ∀ (F' H' : Hp) (t' : T) (S1' : Ad), Same F F' → (∀ a, S2 a → H' a = H a) → Ow C F' H' v t' S1' → (∀ a, S1' a → S2 a → False) → ∀ S' : Ad, (∀ a, S1' a → S' a) → (∀ a, S2 a → S' a) → Sl C F' H' σ (k t') S'
def Foc (C : VD.Ctx) (te : TE) (s : SD) (t : T) (k : T → SD) : Prop := ∀ (F : Hp) (S : Ad) (σ : L2.St) (H : Hp) (Q : VK), Wf F H S → Sl C F H σ s S →
  (∀ v, (∀ F' (S' : Ad) H', Wf F' H' S' → Same H H' → Sl C F' H' σ s S' → FocAt C F' H' S' σ v t k) → Q v H) → te σ H Q
section
variable {C : VD.Ctx} {pin ws : List Nat} {p q : Bool} {te ta tb : TE} {tt : TT} {ts' tbd : TS} {tr : TA} {wi : TI} {g : TG} {s s1 s2 : SD} {ds : List D} {d : D} {t u : T} {ts us : List T} {k : T → SD} {i j : Nat} {N B Cn : SD → Prop} {R : T → SD → Prop}
theorem foc_var {i : Nat} (h : s[i]? = some (some t)) : Foc C (tVar i) s t (fun t' => s.set i (some t')) := fun F S σ H Q w l q => by
  obtain ⟨v, _, e, _⟩ := l.get h
  refine ⟨v, e, q v fun F' S' H' w' sm l' => ?_⟩
  obtain ⟨v', S1, S2, e', o, a1, a2, dj, _, put⟩ := l'.focus i h
  rw [e] at e'
  cases e'
  exact ⟨S1, S2, o, a1, a2, dj, put⟩
theorem OwA.focus {F H : Hp} : ∀ {vs : List V} {ts : List T} {S : Ad} (j : Nat), OwA C F H vs ts S → ts[j]? = some t → ∃ (v : V) (S1 S2 : Ad), vs[j]? = some v ∧ Ow C F H v t S1 ∧ (∀ a, S1 a → S a) ∧ (∀ a, S2 a → S a) ∧ (∀ a, S1 a → S2 a → False) ∧
    ∀ (F' H' : Hp) (t' : T) (S1' : Ad), Same F F' → (∀ a, S2 a → H' a = H a) → Ow C F' H' v t' S1' → (∀ a, S1' a → S2 a → False) → ∀ S' : Ad, (∀ a, S1' a → S' a) → (∀ a, S2 a → S' a) → OwA C F' H' vs (ts.set j t') S'
  | _, _, _, j, .nil, h => by simp at h
  | _, _, S, 0, .cons (v := v) (S1 := S1) (S2 := S2) ho r s1 s2 dj, h => by
    simp at h
    subst h
    exact ⟨v, S1, S2, rfl, ho, s1, s2, dj, fun F' H' t' S1' eF kH o' d' S' x y => .cons o' (OwA.frame eF kH r) x y d'⟩
  | _, _, S, j + 1, .cons (v := w) (S1 := Z1) (S2 := Z2) ho r s1 s2 dj, h => by
    simp at h
    obtain ⟨v, S1, S2, e, o, a1, a2, d, k⟩ := OwA.focus j r h
    refine ⟨v, S1, fun a => Z1 a ∨ S2 a, by simpa using e, o, fun a z => s2 a (a1 a z), fun a z => z.elim (s1 a) (fun z => s2 a (a2 a z)), fun a x y => y.elim (fun y => dj a y (a1 a x)) (d a x), ?_⟩
    intro F' H' t' S1' eF kH o' d' S' x y
    refine .cons (S1 := Z1) (S2 := fun a => S1' a ∨ S2 a) (Ow.frame eF (fun a z => kH a (.inl z)) ho) (k F' H' t' S1' eF (fun a z => kH a (.inr z)) o' (fun a x y => d' a x (.inr y)) _ (fun a z => .inl z) (fun a z => .inr z)) (fun a z => y a (.inl z)) (fun a z => z.elim (x a) (fun z => y a (.inr z))) ?_
    intro a x1 y1
    rcases y1 with y1 | y1
    · exact d' a y1 (.inl x1)
    · exact dj a x1 (a2 a y1)
/-- a list's item, inside of a thing that is in focus -/
theorem FocAt.ix {F H : Hp} {S : Ad} {σ : L2.St} {a : Addr} {vs : List V} (h : FocAt C F H S σ (.ref a) (.ol ts) k) (ha : H a = some (.lst vs)) (e : ts[j]? = some t) : ∃ v, vs[j]? = some v ∧ FocAt C F H S σ v t (fun t' => k (.ol (ts.set j t'))) := by
  obtain ⟨S1, S2, o, a1, a2, dj, put⟩ := h
  cases o with
  | @ol _ vs' _ _ S3 ho hp hs r =>
    rw [ha] at ho
    cases ho
    obtain ⟨v, Z1, Z2, ev, oi, b1, b2, d, pt⟩ := OwA.focus j r e
    refine ⟨v, ev, Z1, fun x => (x = a ∨ Z2 x) ∨ S2 x, oi, fun x z => a1 x (hs x (b1 x z)).1, fun x z => ?_, fun x y z => ?_, ?_⟩
    · rcases z with (z | z) | z
      · exact a1 x (z ▸ hp)
      · exact a1 x (hs x (b2 x z)).1
      · exact a2 x z
    · rcases z with (z | z) | z
      · exact (hs x (b1 x y)).2 z
      · exact d x y z
      · exact dj x (hs x (b1 x y)).1 z
    · intro F' H' t' S1' eF kH o' d' S' x y
      have r' := pt F' H' t' S1' eF (fun z hz => kH z (.inl (.inr hz))) o' (fun z hz hz2 => d' z hz (.inl (.inr hz2))) (fun z => S1' z ∨ Z2 z) (fun z hz => .inl hz) (fun z hz => .inr hz)
      refine put F' H' _ (fun z => z = a ∨ (S1' z ∨ Z2 z)) eF (fun z hz => kH z (.inr hz)) (.ol ((kH a (.inl (.inl rfl))).trans ha) (.inl rfl) (fun z hz => ⟨.inr hz, ?_⟩) r') (fun z hz hz2 => ?_) S' (fun z hz => ?_) (fun z hz => y z (.inr hz))
      · rcases hz with hz | hz
        · exact fun q => d' z hz (.inl (.inl q))
        · exact (hs z (b2 z hz)).2
      · rcases hz with hz | hz | hz
        · exact dj z (hz ▸ hp) hz2
        · exact d' z hz (.inr hz2)
        · exact dj z (hs z (b2 z hz)).1 hz2
      · rcases hz with hz | hz | hz
        · exact y z (.inl (.inl hz))
        · exact x z hz
        · exact y z (.inl (.inr hz))
theorem foc_ix {kk : Int} (h : Foc C ta s (.ol ts) k) (hi : Vw C tb s (.fz (.int kk))) (hj : ixN ts.length kk = some j) (e : ts[j]? = some t) : Foc C (tOp (rIxL C.K) ta tb) s t (fun t' => k (.ol (ts.set j t'))) := fun F S σ H Q w l q => h F S σ H _ w l fun v hv => hi F S σ H _ w l fun v2 _ o2 _ => by
  obtain ⟨S1, S2, o, a1, a2, dj, put⟩ := hv F S H w (Same.refl H) l
  cases o with
  | @ol a vs _ _ S3 ho hp hs r =>
    obtain ⟨x, hx, _⟩ := FocAt.ix (hv F S H w (Same.refl H) l) ho e
    refine ⟨a, vs, kk, x, rfl, o2.inv.intv, SqL.of ho, ?_, q x fun F' S' H' w' sm l' => ?_⟩
    · unfold atI
      rw [r.len, hj]
      exact hx
    · obtain ⟨x', hx', f⟩ := FocAt.ix (hv F' S' H' w' sm l') (sm a _ ho) e
      rw [hx] at hx'
      cases hx'
      exact f
theorem foc_vw (h : Foc C te s t k) : Vw C te s t := fun F S σ H Q w l q => h F S σ H Q w l fun v hv => by
  obtain ⟨S1, S2, o, a1, _⟩ := hv F S H w (Same.refl H) l
  exact q v S1 o a1
/-- append to a list that stands somewhere in the slots -/
theorem ex_appF (h : Foc C te s (.ol ts) k) (he : Ev C true ta s t s) (hl : ts.length < 100000) (hn : N (k (.ol (ts ++ [t])))) : Ex C pin (tDrop (tBM C.K "list" rAppend te (tCons ta tNil))) s N R B Cn := fun F S σ H E w l n _ _ _ => h F S σ H _ w l fun v hv => by
  obtain ⟨S1, S2, o, a1, a2, dj, put⟩ := hv F S H w (Same.refl H) l
  cases o with
  | @ol a vs _ _ S3 ho hp hs r =>
    refine ⟨.inl ⟨rfl, _, SqL.of ho⟩, he F S σ H _ w l fun x F1 Z S' H1 st sm ox djx l1 => ?_⟩
    obtain ⟨T1, T2, o', b1, b2, dj', put'⟩ := hv F1 S' H1 (st.wf.sub fun a z => .inr z) (sm rfl) l1
    cases o' with
    | @ol _ vs' _ _ S3' ho' hp' hs' r' =>
      refine ⟨a, vs', x, rfl, rfl, ho', by rw [r'.len]; exact Nat.lt_of_lt_of_le hl (by decide), ?_⟩
      have st2 := Stp.put (p := a) (o := .lst (vs' ++ [x])) st.wf (.inr (b1 a hp'))
      have off : ∀ y, y ≠ a → upd H1 a (.lst (vs' ++ [x])) y = H1 y := fun y q => upd_ne q
      have na : ∀ y, (Z y ∨ S3' y) → y ≠ a := fun y z q => by
        subst q
        rcases z with z | z
        · exact djx y z (b1 y hp')
        · exact (hs' y z).2 rfl
      have r2 := OwA.snoc ox r' fun y z z2 => djx y z (b1 y (hs' y z2).1)
      refine n σ F1 _ _ _ hn (st.trans st2) (put' F1 _ (.ol (ts ++ [t])) (fun y => Z y ∨ T1 y) (Same.refl F1) (fun y z => off y fun q => dj' y (q ▸ hp') z) (.ol upd_same (.inr hp') (fun y z => ⟨z.elim .inl fun z => .inr (hs' y z).1, na y z⟩) (r2.frame (Same.refl F1) fun y z => off y (na y z))) ?_ _ (fun y z => z.elim .inl fun z => .inr (b1 y z)) (fun y z => .inr (b2 y z))) (Pin.refl σ)
      intro y z z2
      rcases z with z | z
      · exact djx y z (b2 y z2)
      · exact dj' y z z2

/-! ### a loop over a list that a slot owns: the items are lent to the target -/
theorem ex_forO {kk j : Nat} (I : Nat → SD → Prop) (n0 : Nat) (hjk : j ≠ kk) (hj : j ∉ pin) (h0 : I 0 s) (hI : ∀ i s, I i s → ∃ us, s[kk]? = some (some (.ol us)) ∧ us.length = n0)
    (hb : ∀ i s us t v, I i s → s[kk]? = some (some (.ol us)) → us.length = n0 → us[i]? = some t →
      Ex C (j :: kk :: pin) tbd ((s.set kk (some (.ol (us.set i (.raw v))))).set j (some t))
        (fun s' => ∃ us' t', s'[kk]? = some (some (.ol us')) ∧ us'.length = n0 ∧ us'[i]? = some (.raw v) ∧ s'[j]? = some (some t') ∧ I (i + 1) ((s'.set j none).set kk (some (.ol (us'.set i t'))))) R N
        (fun s' => ∃ us' t', s'[kk]? = some (some (.ol us')) ∧ us'.length = n0 ∧ us'[i]? = some (.raw v) ∧ s'[j]? = some (some t') ∧ I (i + 1) ((s'.set j none).set kk (some (.ol (us'.set i t')))))) (hd : ∀ s, I n0 s → N s) :
    Ex C pin (tFor (iList C.K (tVar kk)) (gName j) tbd) s N R B Cn := fun F S σ H E w l n r _ _ => by
  obtain ⟨us0, hu0, hl0⟩ := hI 0 s h0
  obtain ⟨v0, Z0, e0, o0, _⟩ := l.get hu0
  cases o0 with
  | @ol a vs0 _ _ S3 ho0 _ _ r0 =>
  refine ⟨.ref a, e0, a, rfl, ⟨vs0, SqL.of ho0⟩, ?_⟩
  refine ⟨fun i m σ' H' => m = n0 - i ∧ i ≤ n0 ∧ ∃ F' S' s', I i s' ∧ Stp F H S F' H' S' ∧ Sl C F' H' σ' s' S' ∧ Pin pin σ σ' ∧ σ'[kk]? = σ[kk]?, ⟨n0, by simp, Nat.zero_le _, F, S, s, h0, Stp.refl w, l, Pin.refl σ, rfl⟩, ?_⟩
  rintro i m σ' H' ⟨rfl, hi, F', S', s', hIi, st', l', pn', pk'⟩
  obtain ⟨us, hu, hlen⟩ := hI i s' hIi
  obtain ⟨v1, S1, S2, e1, o1, a1, a2, dj, l2, put⟩ := l'.focus kk hu
  have e2 : some (some v1) = some (some (V.ref a)) := e1.symm.trans (pk'.trans e0)
  cases e2
  cases o1 with
  | @ol _ vs _ _ S4 ho hp hs ra =>
  by_cases hlt : i < n0
  · refine .inr ⟨⟨vs, vs[i]'(by rw [ra.len]; omega), SqL.of ho, by simp [show i < vs.length by rw [ra.len]; omega]⟩, _, fun _ _ z => z, ?_⟩
    intro x H2 y
    obtain ⟨rfl, hx⟩ := y
    have hx := hx vs (SqL.of ho)
    have hti : us[i]? = some us[i] := List.getElem?_eq_getElem (by omega)
    obtain ⟨v, Z1, Z2, ev, oi, b1, b2, d, pt⟩ := OwA.focus i ra hti
    rw [hx] at ev
    cases ev
    -- the list without its item
    have ra' := pt F' H2 (.raw x) no (Same.refl F') (fun _ _ => rfl) .raw (fun _ z => z.elim) Z2 (fun _ z => z.elim) (fun _ z => z)
    have l3 := put F' H2 (.ol (us.set i (.raw x))) (fun z => z = a ∨ Z2 z) (Same.refl F') (fun _ _ => rfl) (.ol ho (.inl rfl) (fun z hz => ⟨.inr hz, (hs z (b2 z hz)).2⟩) ra') (fun z hz hz2 => ?_) (fun z => (z = a ∨ Z2 z) ∨ S2 z) (fun z hz => .inl hz) (fun z hz => .inr hz)
    · have l4 := Sl.put (Z := Z1) oi j l3 fun z hz hz2 => by
        rcases hz2 with (hz2 | hz2) | hz2
        · exact (hs z (b1 z hz)).2 hz2
        · exact d z hz hz2
        · exact dj z (hs z (b1 z hz)).1 hz2
      have w4 : Wf F' H2 (fun z => Z1 z ∨ ((z = a ∨ Z2 z) ∨ S2 z)) := st'.wf.sub fun z hz => by
        rcases hz with hz | (hz | hz) | hz
        · exact a1 z (hs z (b1 z hz)).1
        · exact a1 z (hz ▸ hp)
        · exact a1 z (hs z (b2 z hz)).1
        · exact a2 z hz
      have st4 : Stp F H S F' H2 (fun z => Z1 z ∨ ((z = a ∨ Z2 z) ∨ S2 z)) := st'.sub fun z hz => by
        rcases hz with hz | (hz | hz) | hz
        · exact a1 z (hs z (b1 z hz)).1
        · exact a1 z (hz ▸ hp)
        · exact a1 z (hs z (b2 z hz)).1
        · exact a2 z hz
      have pn4 : Pin pin σ (σ'.set j (some x)) := pn'.trans (Pin.set hj)
      have jlen : j < σ'.length ∨ ¬ j < σ'.length := Nat.lt_or_ge j σ'.length |>.imp id fun h => Nat.not_lt.mpr h
      have key : Nx C (j :: kk :: pin) F' H2 (fun z => Z1 z ∨ ((z = a ∨ Z2 z) ∨ S2 z)) (σ'.set j (some x))
          (fun s' => ∃ us' t', s'[kk]? = some (some (.ol us')) ∧ us'.length = n0 ∧ us'[i]? = some (.raw x) ∧ s'[j]? = some (some t') ∧ I (i + 1) ((s'.set j none).set kk (some (.ol (us'.set i t')))))
          (fun σ5 H5 => ∃ m', m' < n0 - i ∧ (m' = n0 - (i + 1) ∧ i + 1 ≤ n0 ∧ ∃ F' S' s', I (i + 1) s' ∧ Stp F H S F' H5 S' ∧ Sl C F' H5 σ5 s' S' ∧ Pin pin σ σ5 ∧ σ5[kk]? = σ[kk]?)) := by
        intro σ5 F5 S5 H5 s5 ⟨us', t', h1, h2, h3, h4, h5⟩ st5 l5 pn5
        obtain ⟨v6, T1, T2, e6, o6, c1, c2, dj6, l6, put6⟩ := l5.focus j h4
        -- the item's pointer is the one that was lent
        have e7 : σ5[j]? = (σ'.set j (some x))[j]? := pn5 j (by simp)
        rw [e6] at e7
        have hjl : j < σ'.length := by
          rcases jlen with z | z
          · exact z
          · rw [List.getElem?_eq_none (by simpa using z)] at e7
            cases e7
        rw [List.getElem?_set_self hjl] at e7
        cases e7
        have h1' : (s5.set j none)[kk]? = some (some (.ol us')) := by rw [List.getElem?_set_ne hjk]; exact h1
        obtain ⟨v8, U1, U2, e8, o8, f1, f2, dj8, l8, put8⟩ := l6.focus kk h1'
        have e9 : σ5[kk]? = σ[kk]? := (pn5 kk (by simp)).trans ((List.getElem?_set_ne hjk).trans pk')
        have e10 : some (some v8) = some (some (V.ref a)) := e8.symm.trans (e9.trans e0)
        cases e10
        cases o8 with
        | @ol _ vs8 _ _ S8 ho8 hp8 hs8 ra8 =>
        obtain ⟨v9, Y1, Y2, ev9, oi9, g1, g2, d9, pt9⟩ := OwA.focus i ra8 h3
        cases oi9
        have ra9 := pt9 F5 H5 t' T1 (Same.refl F5) (fun _ _ => rfl) o6 (fun z hz hz2 => dj6 z hz (f1 z (hs8 z (g2 z hz2)).1)) (fun z => T1 z ∨ Y2 z) (fun z hz => .inl hz) (fun z hz => .inr hz)
        have l9 := put8 F5 H5 (.ol (us'.set i t')) (fun z => z = a ∨ (T1 z ∨ Y2 z)) (Same.refl F5) (fun _ _ => rfl) (.ol ho8 (.inl rfl) (fun z hz => ⟨.inr hz, ?_⟩) ra9) (fun z hz hz2 => ?_) S5 (fun z hz => ?_) (fun z hz => c2 z (f2 z hz))
        · exact ⟨n0 - (i + 1), by omega, rfl, hlt, F5, S5, _, h5, st4.trans st5, l9, fun q hq => (pn5 q (by simp [hq])).trans (pn4 q hq), e9⟩
        · rcases hz with hz | hz
          · exact fun q => dj6 z hz (q ▸ f1 a hp8)
          · exact (hs8 z (g2 z hz)).2
        · rcases hz with hz | hz | hz
          · exact dj8 z (hz ▸ hp8) hz2
          · exact dj6 z hz (f2 z hz2)
          · exact dj8 z (hs8 z (g2 z hz)).1 hz2
        · rcases hz with hz | hz | hz
          · exact c2 z (f1 z (hz ▸ hp8))
          · exact c1 z hz
          · exact c2 z (f1 z (hs8 z (g2 z hz)).1)
      refine hb i s' us _ x hIi hu hlen hti F' _ (σ'.set j (some x)) H2 _ w4 l4 key ?_ ?_ key
      · intro v F6 Z6 S6 H6 σ6 t6 s6 hr st6 o6 d6 l6 pn6
        exact r v F6 Z6 S6 H6 σ6 t6 s6 hr (st4.trans st6) o6 d6 l6 fun q hq => (pn6 q (by simp [hq])).trans (pn4 q hq)
      · intro σ6 F6 S6 H6 s6 hn st6 l6 pn6
        exact n σ6 F6 S6 H6 s6 hn (st4.trans st6) l6 fun q hq => (pn6 q (by simp [hq])).trans (pn4 q hq)
    · rcases hz with hz | hz
      · exact dj z (hz ▸ hp) hz2
      · exact dj z (hs z (b2 z hz)).1 hz2
  · have e : i = n0 := by omega
    subst e
    exact .inl ⟨⟨vs, SqL.of ho, by rw [ra.len]; omega⟩, n σ' F' S' H' s' (hd s' hIi) st' l' pn'⟩
end
end VD
set_option maxRecDepth 100000
set_option maxHeartbeats 4000000
namespace VE
open PySem PySem.SeqAt
open AutoSeq1 (wpAny_loadPart')
open MeetsSeq MeetsSeq2 MeetsSeq3 SeqRoads2 GQ
section
variable {prog : Program} {w : World} {A : Around} {R : Result → Shared → Prop}
theorem tuple_eqB (l b : Addr) (items items2 : Array Value) (n n2 : Nat) (dd dd2 : Option Addr) (sl sl2 : Array (Option Value)) (e : Nat → Bool) (I : Shared → Prop)
    (turn : ∀ i (h1 : i < items.size) (h2 : i < items2.size) s, I s → wpAny (model prog w) A.in1 (eqBool items[i] items2[i]) (fun r s' => r = e i ∧ I s') (fun e s' => R (.error e) s') s)
    (fin : ∀ s, I s → R (.ok (.ret (.bool ((List.range (min items.size items2.size)).all e && items.size == items2.size)))) s) {s : Shared} (hl1 : s.heap.get? l = some { cls := .type "tuple", dict := dd, data := .seq items n, slots := sl }) (hb1 : s.heap.get? b = some { cls := .type "tuple", dict := dd2, data := .seq items2 n2, slots := sl2 }) (h : I s) :
    wpAny (model prog w) A.in1 (Builtin.«tuple.__eq__» ⟨[.ref l, .ref b], []⟩) (FinOf prog w A R) (fun e s' => R (.error e) s') s := by
  have f2 := AutoSeq1.sub_tuple_tuple
  have hZ : (items.toList.zip items2.toList).length = min items.size items2.size := by simp
  have h0 := h
  obtain ⟨hp, g, d, tk, os⟩ := s
  wp_walk using wpAny_loadPart' hl1, wpAny_loadPart' hb1, wpAny_forIn_list _ (fun rest b s' => b.1 = none ∧ I s' ∧ ∃ i, rest = (items.toList.zip items2.toList).drop i ∧ ((List.range (min items.size items2.size)).all e = ((List.range (min items.size items2.size)).drop i).all e)) _
  case turn =>
    rintro ⟨y, x⟩ rest b s' ⟨hb', hI, i, hz, hR⟩
    have hlt : i < (items.toList.zip items2.toList).length := by
      rcases Nat.lt_or_ge i (items.toList.zip items2.toList).length with h' | h'
      · exact h'
      · rw [List.drop_of_length_le h'] at hz; cases hz
    have hm : i < min items.size items2.size := hZ ▸ hlt
    have h1 : i < items.size := Nat.lt_of_lt_of_le hm (Nat.min_le_left _ _)
    have h2 : i < items2.size := Nat.lt_of_lt_of_le hm (Nat.min_le_right _ _)
    rw [List.drop_eq_getElem_cons hlt] at hz
    injection hz with hyx hrest
    have hy : y = items[i] := by have := congrArg Prod.fst hyx; simpa using this
    have hx : x = items2[i] := by have := congrArg Prod.snd hyx; simpa using this
    subst hy hx
    have hd : (List.range (min items.size items2.size)).drop i = i :: (List.range (min items.size items2.size)).drop (i + 1) := by simp [List.drop_eq_getElem_cons, hm]
    rw [hd, List.all_cons] at hR
    refine wpAny_bind (wpAny_mono (turn i h1 h2 s' hI) (fun r s2 q2 => ?_) fun _ _ x => x)
    obtain ⟨hr, q2⟩ := q2
    subst hr
    cases hy : e i with
    | true =>
      rw [hy] at hR
      wp_walk
      exact ⟨rfl, q2, i + 1, hrest, by simpa using hR⟩
    | false =>
      rw [hy] at hR
      have hf := fin s2 q2
      rw [hR] at hf
      wp_walk
      simpa using hf
  case fin =>
    rintro ⟨b1, b2⟩ s' ⟨hb', hI, i, hz, hR⟩
    simp only at hb'
    subst hb'
    have hge : min items.size items2.size ≤ i := by
      rcases Nat.lt_or_ge i (items.toList.zip items2.toList).length with h' | h'
      · rw [List.drop_eq_getElem_cons h'] at hz; cases hz
      · exact hZ ▸ h'
    have hf := fin s' hI
    rw [hR, List.drop_of_length_le (by simpa using hge)] at hf
    wp_walk
    simpa [Builtin.Tuple.tupleCompareSizes, bne] using hf
  case h =>
    exact ⟨rfl, h0, 0, rfl, by simp⟩
end
section
variable {prog : Program} {w : World} {A : Around} {E : Value → Shared → Prop} {s : Shared}
theorem rc_tupB {l b : Addr} {items items2 : Array Value} {Q : Value → Shared → Prop} (hu : A.units < cLine) (e : Nat → Bool) (I : Shared → Prop)
    (hl : s.heap.IsTuple l items) (hb : s.heap.IsTuple b items2)
    (turn : ∀ i (h1 : i < items.size) (h2 : i < items2.size) s, I s → wpAny (model prog w) A.in1 (eqBool items[i] items2[i]) (fun r s' => r = e i ∧ I s') E s)
    (fin : ∀ s, I s → Q (.bool ((List.range (min items.size items2.size)).all e && items.size == items2.size)) s) (h : I s) : wpAny (model prog w) A (richCompare .Eq (.ref l) (.ref b)) Q E s := by
  obtain ⟨⟨cls, dd, data, sl⟩, ho, hc, n, hd⟩ := id hl
  obtain ⟨⟨cls2, dd2, data2, sl2⟩, ho2, hc2, n2, hd2⟩ := id hb
  simp only at hc hd hc2 hd2
  subst hc hd hc2 hd2
  refine wpAny_richCompare_same_room (op := .Eq) ⟨_, ho, rfl⟩ ⟨_, ho2, rfl⟩ F.slot_tuple_eq (call_here F.slot_tuple_eq ⟨_, ho, rfl⟩ F.entry_tuple_eq (F.args_tuple_eq_2 _ _) ?_) hu
  exact tuple_eqB (R := wants (fun v s' => v ≠ .notImplemented ∧ Q v s') E) l b items items2 n n2 dd dd2 sl sl2 e I turn (fun s' q => ⟨(fun x => nomatch x), fin s' q⟩) ho ho2 h
/-- == of two different objects inside a builtin -/
theorem eqBool_refB {l b : Addr} {Q : Bool → Shared → Prop} (hne : l ≠ b) (h : wpAny (model prog w) A (richCompare .Eq (.ref l) (.ref b)) (fun v s' => ∃ r, v = .bool r ∧ Q r s') E s) : wpAny (model prog w) A (eqBool (.ref l) (.ref b)) Q E s := eqBool_refG hne h
/-- left a value of a built-in type that declines, right an instance whose own == answers -/
theorem rc_refl {a : Value} {y C f : Addr} {Ta id : String} {K : PySem.W.Frag} {oy : Obj} {od : Option Obj} {Q : Value → Shared → Prop} (hu : A.units < cLine) (X : K.In s.heap) (I : PySem.W.InstAt s.heap y oy C od) (ha : s.TypeIs a Ta)
    (hsub : PySem.W.subIn K (.ref C) (.type Ta) = some false) (h1 : Slot Ta "__eq__" id) (hc : ∀ Q' : Value → Shared → Prop, Q' .notImplemented s → wpAny (model prog w) A (call (.builtin id) [a, .ref y]) Q' E s)
    (hs : PySem.W.findIn K (.ref C) "__eq__" = some (some (.ref f))) (hf : PySem.W.isFn K (.ref f) = true) (h : wpAny (model prog w) A (call (.ref f) [.ref y, a]) (PySem.W.CmpBack Q) E s) : wpAny (model prog w) A (richCompare .Eq a (.ref y)) Q E s := by
  have one : wpAny (model prog w) A (tryCompare (.ref y) "__eq__" a) (fun r s' => ∃ v, r = some v ∧ Q v s') E s := by
    unfold tryCompare
    refine wpAny_bind (PySem.W.ifBound_K X I hs hf (wpAny_mono h (fun v s' hv => ?_) fun _ _ e => e))
    cases v <;> first | exact hv.elim | exact wpAny_pure ⟨_, rfl, hv⟩
  rcases hi : cmpInfo CmpOp.Eq with ⟨sym, ff, r⟩
  have e1 : ff = "__eq__" ∧ r = "__eq__" := by
    unfold cmpInfo at hi
    simp only [Prod.mk.injEq] at hi
    exact ⟨hi.2.1.symm, hi.2.2.symm⟩
  obtain ⟨rfl, rfl⟩ := e1
  simp only [richCompare, hi, ha.oneThing_none]
  try with_reducible refine wpAny_holding ?_
  refine wpAny_bind (wpAny_cRoomFor hu ?_)
  refine wpAny_bind (wpAny_typeOf ha (wpAny_bind (I.type.here ?_)))
  have hne : (Value.type Ta != Value.ref C) = true := rfl
  simp only [hne, if_true]
  refine wpAny_bind ((PySem.W.looks_subIn X hsub).here ?_)
  simp only [Bool.false_eq_true, if_false, Bool.not_false, if_true]
  refine wpAny_bind (m := tryCompare a _ (.ref y)) (wpAny_tryCompare_declines ha h1 (hc _ ⟨rfl, ?_⟩))
  refine wpAny_bind (wpAny_mono one (fun r s' z => ?_) fun _ _ e => e)
  obtain ⟨v, rfl, hq⟩ := z
  exact wpAny_pure hq
end
end VE
set_option maxRecDepth 100000
set_option maxHeartbeats 4000000
namespace VD
open PySem PySem.Spec PyProof.Rows L2
/-! ### == of data, instances by their own == -/
mutual
def D.beq : D → D → Bool
  | .non, .non => true
  | .bl a, .bl b => a == b
  | .bl a, .int j => (if a then 1 else 0) == j
  | .int i, .bl b => i == (if b then 1 else 0)
  | .int i, .int j => i == j
  | .str x, .str y => x == y
  | .tup l, .tup m => D.beqL l m
  | .lst l, .lst m => D.beqL l m
  | .ins c l, .ins e m => c == e && D.beqL l m
  | _, _ => false
def D.beqL : List D → List D → Bool
  | [], [] => true
  | x :: l, y :: m => D.beq x y && D.beqL l m
  | _, _ => false
end
mutual
def D.py : D → PyData
  | .non => .none
  | .bl b => .bool b
  | .int n => .int n
  | .str x => .str x
  | .tup l => .tuple (D.pyL l)
  | .lst l => .list (D.pyL l)
  | .ins _ _ => .none
def D.pyL : List D → List PyData
  | [] => []
  | x :: l => D.py x :: D.pyL l
end
mutual
def D.plain : D → Bool
  | .tup l => D.plainL l
  | .lst l => D.plainL l
  | .ins _ _ => false
  | _ => true
def D.plainL : List D → Bool
  | [] => true
  | x :: l => D.plain x && D.plainL l
end
mutual
theorem D.beq_py : ∀ (d e : D), d.plain = true → e.plain = true → D.beq d e = PyData.eqv d.py e.py
  | .non, e, _, h => by cases e <;> first | rfl | (simp [D.plain] at h)
  | .bl a, e, _, h => by cases e <;> first | rfl | (simp [D.plain] at h)
  | .int a, e, _, h => by cases e <;> first | rfl | (simp [D.plain] at h)
  | .str a, e, _, h => by cases e <;> first | rfl | (simp [D.plain] at h)
  | .tup l, e, h1, h => by
    cases e with
    | tup m =>
      show D.beqL l m = PyData.eqvAll (D.pyL l) (D.pyL m)
      exact D.beqL_py l m h1 h
    | ins c m => simp [D.plain] at h
    | _ => rfl
  | .lst l, e, h1, h => by
    cases e with
    | lst m =>
      show D.beqL l m = PyData.eqvAll (D.pyL l) (D.pyL m)
      exact D.beqL_py l m h1 h
    | ins c m => simp [D.plain] at h
    | _ => rfl
  | .ins c l, e, h, _ => by simp [D.plain] at h
theorem D.beqL_py : ∀ (l m : List D), D.plainL l = true → D.plainL m = true → D.beqL l m = PyData.eqvAll (D.pyL l) (D.pyL m)
  | [], [], _, _ => rfl
  | [], _ :: _, _, _ => rfl
  | _ :: _, [], _, _ => rfl
  | x :: l, y :: m, h1, h2 => by
    simp only [D.plainL, Bool.and_eq_true] at h1 h2
    show (D.beq x y && D.beqL l m) = (PyData.eqv x.py y.py && PyData.eqvAll (D.pyL l) (D.pyL m))
    rw [D.beq_py x y h1.1 h2.1, D.beqL_py l m h1.2 h2.2]
end
mutual
theorem D.beq_refl : ∀ d : D, D.beq d d = true
  | .non => rfl
  | .bl b => by simp [D.beq]
  | .int n => by simp [D.beq]
  | .str x => by simp [D.beq]
  | .tup l => by simp only [D.beq]; exact D.beqL_refl l
  | .lst l => by simp only [D.beq]; exact D.beqL_refl l
  | .ins c l => by simp only [D.beq, beq_self_eq_true, Bool.true_and]; exact D.beqL_refl l
theorem D.beqL_refl : ∀ l : List D, D.beqL l l = true
  | [] => rfl
  | x :: l => by simp only [D.beqL, D.beq_refl x, D.beqL_refl l, Bool.and_self]
end
theorem D.beqL_get : ∀ (l m : List D), D.beqL l m = ((List.range (min l.length m.length)).all (fun i => D.beq (l.getD i .non) (m.getD i .non)) && l.length == m.length)
  | [], [] => rfl
  | [], y :: m => by simp [D.beqL]
  | x :: l, [] => by simp [D.beqL]
  | x :: l, y :: m => by
    have ih := D.beqL_get l m
    simp only [D.beqL, List.length_cons]
    rw [show min (l.length + 1) (m.length + 1) = min l.length m.length + 1 by omega, List.range_succ_eq_map, List.all_cons, List.all_map]
    have e : (l.length + 1 == m.length + 1) = (l.length == m.length) := by simp
    rw [e, ih, Bool.and_assoc]
    rfl
mutual
theorem Rp.dp {C : VD.Ctx} {F H : Hp} (e : Same F H) : ∀ {v : V} {d : D}, Rp C F v d → d.plain = true → Dp C.K H v d.py
  | _, _, .non, _ => .non
  | _, _, .bl b, _ => .bl b
  | _, _, .int n, _ => .int n
  | _, _, .str x, _ => .str x
  | _, _, .tup h r, p => .tup (Same.sqT e h) (RpA.dp e r p)
  | _, _, .lst h r, p => .lst (e.seq h) (RpA.dp e r p)
theorem RpA.dp {C : VD.Ctx} {F H : Hp} (e : Same F H) : ∀ {vs : List V} {l : List D}, RpA C F vs l → D.plainL l = true → DpAll C.K H vs (D.pyL l)
  | _, _, .nil, _ => .nil
  | _, _, .cons h r, p => by
    simp only [D.plainL, Bool.and_eq_true] at p
    exact .cons (Rp.dp e h p.1) (RpA.dp e r p.2)
end
mutual
def D.cb (n : Nat) : D → Bool
  | .tup l => D.cbL n l
  | .lst l => D.cbL n l
  | .ins c l => decide (c < n) && D.cbL n l
  | _ => true
def D.cbL (n : Nat) : List D → Bool
  | [] => true
  | x :: l => D.cb n x && D.cbL n l
end
section
variable {X : Cx} {C : VD.Ctx} {pins : List (Addr × Obj)} {σ : L2.St} {H F : Hp} {s : Shared} {n : Nat}
theorem clash_tl (I : Inv X pins σ H s) {a : Addr} {xs ys : List V} (h : SqT X.K H a xs) (h2 : SqL X.K H a ys) : False := by
  obtain ⟨its, r, ⟨o, e, c, _⟩, _⟩ := I.tuple h
  obtain ⟨its2, r2, ⟨o2, _, e2, c2, _⟩, _⟩ := I.list h2
  rw [e] at e2
  cases e2
  rw [c] at c2
  injection c2 with c3
  exact absurd c3 (by decide)
theorem clash_ti (I : Inv X pins σ H s) {a c dx : Addr} {xs : List V} {fs : List (Str × V)} (h : SqT X.K H a xs) (h2 : H a = some (.ins c dx fs)) : False := by
  obtain ⟨its, r, ⟨o, e, k, _⟩, _⟩ := I.tuple h
  obtain ⟨d, z, ne, ob, mA, m, rr, q⟩ := (show ObjOk X.prog X.w H s.heap a (.ins c dx fs) from I.hok a _ h2)
  rw [e] at ob
  cases ob
  cases k
theorem clash_li (I : Inv X pins σ H s) {a c dx : Addr} {xs : List V} {fs : List (Str × V)} (h : SqL X.K H a xs) (h2 : H a = some (.ins c dx fs)) : False := by
  obtain ⟨its, r, ⟨o, _, e, k, _⟩, _⟩ := I.list h
  obtain ⟨d, z, ne, ob, mA, m, rr, q⟩ := (show ObjOk X.prog X.w H s.heap a (.ins c dx fs) from I.hok a _ h2)
  rw [e] at ob
  cases ob
  cases k
mutual
theorem Rp.uniq (I : Inv X pins σ H s) (w : Same F H) (hK : C.K = X.K) (inj : ∀ c e, c < n → e < n → C.cls c = C.cls e → c = e) : ∀ {v : V} {d e : D}, Rp C F v d → Rp C F v e → d.cb n = true → e.cb n = true → d = e
  | _, _, _, .non, h, _, _ => by cases h; rfl
  | _, _, _, .bl b, h, _, _ => by cases h; rfl
  | _, _, _, .int b, h, _, _ => by cases h; rfl
  | _, _, _, .str b, h, _, _ => by cases h; rfl
  | _, _, _, .tup h1 r1, h, p, q => by
    have z1 := Same.sqT w h1
    cases h with
    | tup h2 r2 =>
      have z2 := Same.sqT w h2
      rw [hK] at z1 z2
      have := I.tuple_inj z1 z2
      subst this
      rw [RpA.uniq I w hK inj r1 r2 p q]
    | lst h2 r2 =>
      have z2 := w.seq h2
      rw [hK] at z1 z2
      exact (clash_tl I z1 z2).elim
    | ins h2 _ _ =>
      rw [hK] at z1
      exact (clash_ti I z1 (w _ _ h2)).elim
  | _, _, _, .lst h1 r1, h, p, q => by
    have z1 := w.seq h1
    cases h with
    | tup h2 r2 =>
      have z2 := Same.sqT w h2
      rw [hK] at z1 z2
      exact (clash_tl I z2 z1).elim
    | lst h2 r2 =>
      have z2 := w.seq h2
      rw [hK] at z1 z2
      have := I.list_inj z1 z2
      subst this
      rw [RpA.uniq I w hK inj r1 r2 p q]
    | ins h2 _ _ =>
      rw [hK] at z1
      exact (clash_li I z1 (w _ _ h2)).elim
  | _, _, _, .ins h1 k1 r1, h, p, q => by
    cases h with
    | tup h2 r2 =>
      have z2 := Same.sqT w h2
      rw [hK] at z2
      exact (clash_ti I z2 (w _ _ h1)).elim
    | lst h2 r2 =>
      have z2 := w.seq h2
      rw [hK] at z2
      exact (clash_li I z2 (w _ _ h1)).elim
    | ins h2 k2 r2 =>
      rw [h1] at h2
      simp only [Option.some.injEq, HO.ins.injEq] at h2
      obtain ⟨e1, e2, e3⟩ := h2
      subst e3
      simp only [D.cb, Bool.and_eq_true, decide_eq_true_eq] at p q
      have := inj _ _ p.1 q.1 e1
      subst this
      rw [RpA.uniq I w hK inj r1 r2 p.2 q.2]
theorem RpA.uniq (I : Inv X pins σ H s) (w : Same F H) (hK : C.K = X.K) (inj : ∀ c e, c < n → e < n → C.cls c = C.cls e → c = e) : ∀ {vs : List V} {l m : List D}, RpA C F vs l → RpA C F vs m → D.cbL n l = true → D.cbL n m = true → l = m
  | _, _, _, .nil, h, _, _ => by cases h; rfl
  | _, _, _, .cons h1 r1, h, p, q => by
    cases h with
    | cons h2 r2 =>
      simp only [D.cbL, Bool.and_eq_true] at p q
      rw [Rp.uniq I w hK inj h1 h2 p.1 q.1, RpA.uniq I w hK inj r1 r2 p.2 q.2]
end
end
/-- the judgement: == on values for data that Pr allows, below the running body X with n levels of room -/
def EqP (X : Cx) (C : VD.Ctx) (n : Nat) (Pr : D → D → Prop) : Prop := ∀ (A : Around) (pins : List (Addr × Obj)) (s : Shared) (σ : L2.St) (H F : Hp) (x y : V) (u v : Value) (d e : D), Sub X n A → Inv X pins σ H s → RelV x u → RelV y v → Same F H → Rp C F x d → Rp C F y e → Pr d e →
  wpAny (model X.prog X.w) A (eqBool u v) (fun r s' => r = D.beq d e ∧ ∃ H', Inv X pins σ H' s' ∧ Ext H H') X.xe s
def RcP (X : Cx) (C : VD.Ctx) (n : Nat) (Pr : D → D → Prop) : Prop := ∀ (A : Around) (pins : List (Addr × Obj)) (s : Shared) (σ : L2.St) (H F : Hp) (x y : V) (u v : Value) (d e : D), Sub X n A → Inv X pins σ H s → RelV x u → RelV y v → Same F H → Rp C F x d → Rp C F y e → Pr d e →
  wpAny (model X.prog X.w) A (richCompare .Eq u v) (fun r s' => r = .bool (D.beq d e) ∧ ∃ H', Inv X pins σ H' s' ∧ Ext H H') X.xe s
def Plain2 (d e : D) : Prop := d.plain = true ∧ e.plain = true ∧ SeqAt.shaped d.py = true ∧ SeqAt.shaped e.py = true
def D.flat : D → Bool
  | .tup _ | .lst _ | .ins _ _ => false
  | _ => true
section
variable {X : Cx} {C : VD.Ctx} {n m : Nat} {Pr Pr' : D → D → Prop}
theorem EqP.imp (h : EqP X C n Pr) (k : ∀ d e, Pr' d e → Pr d e) (hn : n ≤ m) : EqP X C m Pr' := fun A pins s σ H F x y u v d e sb I rx ry w r1 r2 p => h A pins s σ H F x y u v d e (sb.mono hn) I rx ry w r1 r2 (k d e p)
theorem RcP.imp (h : RcP X C n Pr) (k : ∀ d e, Pr' d e → Pr d e) (hn : n ≤ m) : RcP X C m Pr' := fun A pins s σ H F x y u v d e sb I rx ry w r1 r2 p => h A pins s σ H F x y u v d e (sb.mono hn) I rx ry w r1 r2 (k d e p)
theorem RcP.or (h : RcP X C n Pr) (h' : RcP X C n Pr') : RcP X C n (fun d e => Pr d e ∨ Pr' d e) := fun A pins s σ H F x y u v d e sb I rx ry w r1 r2 p => p.elim (h A pins s σ H F x y u v d e sb I rx ry w r1 r2) (h' A pins s σ H F x y u v d e sb I rx ry w r1 r2)
theorem EqP.or (h : EqP X C n Pr) (h' : EqP X C n Pr') : EqP X C n (fun d e => Pr d e ∨ Pr' d e) := fun A pins s σ H F x y u v d e sb I rx ry w r1 r2 p => p.elim (h A pins s σ H F x y u v d e sb I rx ry w r1 r2) (h' A pins s σ H F x y u v d e sb I rx ry w r1 r2)
/-- plain data -/
theorem rcP_plain (hK : C.K = X.K) : RcP X C 0 Plain2 := fun A pins s σ H F x y u v d e sb I rx ry w r1 r2 p => by
  obtain ⟨p1, p2, z1, z2⟩ := p
  have d1 := r1.dp w p1
  have d2 := r2.dp w p2
  rw [hK] at d1 d2
  obtain ⟨as, q1⟩ := Dp.reads I _ _ _ d1 rx
  obtain ⟨bs, q2⟩ := Dp.reads I _ _ _ d2 ry
  have h := SeqAt.compareEq_shaped (prog := X.prog) (w := X.w) (A := A) (E := X.xe) (Q := fun r s' => r = .bool (D.beq d e) ∧ ∃ H', Inv X pins σ H' s' ∧ Ext H H') q1 q2 z1 z2 sb.room.units ⟨by rw [D.beq_py d e p1 p2], H, I, Ext.rfl'⟩
  exact h
/-- the same object, or two references -/
theorem RcP.eqP (h : RcP X C n Pr) : EqP X C n (fun d e => Pr d e ∧ d.flat = false ∧ e.flat = false ∧ (∀ (pins : List (Addr × Obj)) (s : Shared) (σ : L2.St) (H F : Hp) (a : Addr), Inv X pins σ H s → Same F H → Rp C F (.ref a) d → Rp C F (.ref a) e → D.beq d e = true)) := fun A pins s σ H F x y u v d e sb I rx ry w r1 r2 p => by
  obtain ⟨p, f1, f2, hs⟩ := p
  have ref : ∀ {v : V} {d : D}, Rp C F v d → d.flat = false → ∃ a, v = .ref a := fun {v d} r f => by cases r <;> first | exact ⟨_, rfl⟩ | (simp [D.flat] at f)
  obtain ⟨a, rfl⟩ := ref r1 f1
  obtain ⟨b, rfl⟩ := ref r2 f2
  cases rx
  cases ry
  by_cases hab : a = b
  · subst hab
    rw [hs pins s σ H F a I w r1 r2]
    exact SeqAt.EqAt.same (A := A) (s := s) (.ref a) X.prog X.w X.xe _ ⟨rfl, H, I, Ext.rfl'⟩
  · refine GQ.eqBool_refG hab (wpAny_mono (h A pins s σ H F (.ref a) (.ref b) _ _ d e sb I rfl rfl w r1 r2 p) (fun r s' q => ?_) fun _ _ x => x)
    obtain ⟨hr', q⟩ := q
    exact ⟨_, hr', rfl, q⟩
/-- tuples, item by item -/
theorem rcP_tup (hK : C.K = X.K) (h : EqP X C n Pr) : RcP X C (n + 1) (fun d e => ∃ l m, d = .tup l ∧ e = .tup m ∧ ∀ (i : Nat) a b, l[i]? = some a → m[i]? = some b → Pr a b) := fun A pins s σ H F x y u v d e sb I rx ry w r1 r2 p => by
  obtain ⟨l, m, rfl, rfl, p⟩ := p
  cases r1 with
  | @tup a vs _ h1 q1 =>
  cases r2 with
  | @tup b ws _ h2 q2 =>
  cases rx
  cases ry
  obtain ⟨its, t1, e1, z1⟩ := I.tuple (a := a) (by rw [← hK]; exact Same.sqT w h1)
  obtain ⟨its2, t2, e2, z2⟩ := I.tuple (a := b) (by rw [← hK]; exact Same.sqT w h2)
  have s1 : its.toArray.size = l.length := by rw [List.size_toArray, ← t1.length, q1.len]
  have s2 : its2.toArray.size = m.length := by rw [List.size_toArray, ← t2.length, q2.len]
  refine VE.rc_tupB sb.room.units0 (fun i => D.beq (l.getD i .non) (m.getD i .non)) (fun s' => ∃ H', Inv X pins σ H' s' ∧ Ext H H') e1 e2 (fun i h1 h2 s' q => ?_) (fun s' q => ⟨?_, q⟩) ⟨H, I, Ext.rfl'⟩
  · obtain ⟨H1, I1, x1⟩ := q
    have g1 : i < l.length := by omega
    have g2 : i < m.length := by omega
    obtain ⟨v1, hv1, rv1⟩ := q1.get i _ (List.getElem?_eq_getElem g1)
    obtain ⟨v2, hv2, rv2⟩ := q2.get i _ (List.getElem?_eq_getElem g2)
    obtain ⟨u1, hu1, ru1⟩ := t1.get hv1
    obtain ⟨u2, hu2, ru2⟩ := t2.get hv2
    have k1 : its.toArray[i] = u1 := by
      have : its[i]? = some its.toArray[i] := by
        have h' : i < its.length := by simpa using h1
        rw [List.getElem?_eq_getElem h'] <;> simp
      rw [hu1] at this
      exact (Option.some.inj this).symm
    have k2 : its2.toArray[i] = u2 := by
      have : its2[i]? = some its2.toArray[i] := by
        have h' : i < its2.length := by simpa using h2
        rw [List.getElem?_eq_getElem h'] <;> simp
      rw [hu2] at this
      exact (Option.some.inj this).symm
    rw [k1, k2]
    have hp := p i _ _ (List.getElem?_eq_getElem g1) (List.getElem?_eq_getElem g2)
    have hw : Same F H1 := fun a o z => x1 a o (w a o z)
    refine wpAny_mono (h A.in1 pins s' σ H1 F _ _ u1 u2 _ _ sb.in1 I1 ru1 ru2 hw rv1 rv2 hp) (fun r s2 z => ?_) fun _ _ x => x
    obtain ⟨hr, H2, I2, x2⟩ := z
    refine ⟨?_, H2, I2, x1.trans x2⟩
    rw [hr, List.getD_eq_getElem?_getD, List.getD_eq_getElem?_getD, List.getElem?_eq_getElem g1, List.getElem?_eq_getElem g2]
    rfl
  · show Value.bool _ = Value.bool (D.beqL l m)
    rw [D.beqL_get, s1, s2]
end
end VD
set_option maxRecDepth 100000
set_option maxHeartbeats 4000000
namespace VE
open PySem PySem.SeqAt
open AutoSeq1 (wpAny_loadPart')
open MeetsSeq MeetsSeq2 MeetsSeq3 SeqRoads2 GQ
theorem int_eq_declines_inst (b : Int) (u : Tok) (y C dx : Addr) :
    Meets (Builtin.«int.__eq__» ⟨[.int b u, .ref y], []⟩) (fun _ R s => s.heap.get? y = some (PySem.W.instObj C dx) ∧ R (.ok (.ret .notImplemented)) s) :=
  .of_wp fun prog w A R s h => by obtain ⟨hp, g, d, tk, os⟩ := s; obtain ⟨hl, h⟩ := h; wp_walk using wpAny_loadPart' hl, wpAny_load hl; exact ⟨_, rfl, h⟩
theorem bool_eq_declines_inst (b : Bool) (y C dx : Addr) :
    Meets (Builtin.«int.__eq__» ⟨[.bool b, .ref y], []⟩) (fun _ R s => s.heap.get? y = some (PySem.W.instObj C dx) ∧ R (.ok (.ret .notImplemented)) s) :=
  .of_wp fun prog w A R s h => by obtain ⟨hp, g, d, tk, os⟩ := s; obtain ⟨hl, h⟩ := h; wp_walk using wpAny_loadPart' hl, wpAny_load hl; exact ⟨_, rfl, h⟩
theorem str_eq_declines_inst (b : Str) (u : Tok) (y C dx : Addr) :
    Meets (Builtin.«str.__eq__» ⟨[.str b u, .ref y], []⟩) (fun _ R s => s.heap.get? y = some (PySem.W.instObj C dx) ∧ R (.ok (.ret .notImplemented)) s) :=
  .of_wp fun prog w A R s h => by obtain ⟨hp, g, d, tk, os⟩ := s; obtain ⟨hl, h⟩ := h; wp_walk using wpAny_loadPart' hl, wpAny_load hl; exact ⟨_, rfl, h⟩
theorem tuple_eq_declines_inst {K : PySem.W.Frag} {C : Addr} (hsub : PySem.W.subIn K (.ref C) (.type "tuple") = some false) (l y dx : Addr) (items : Array Value) (n : Nat) (dd : Option Addr) (sl : Array (Option Value)) :
    Meets (Builtin.«tuple.__eq__» ⟨[.ref l, .ref y], []⟩) (fun _ R s => s.heap.get? l = some { cls := .type "tuple", dict := dd, data := .seq items n, slots := sl } ∧ K.In s.heap ∧ s.heap.get? y = some (PySem.W.instObj C dx) ∧ R (.ok (.ret .notImplemented)) s) :=
  .of_wp fun prog w A R s h => by
    obtain ⟨hp, g, d, tk, os⟩ := s; obtain ⟨hl, X, hy, h⟩ := h
    wp_walk using wpAny_loadPart' hl, wpAny_typeOf_ref hy, (fun {Q : Bool → Shared → Prop} (q : Q false ⟨hp, g, d, tk, os⟩) => (PySem.W.looks_subIn X hsub).here q)
    exact ⟨_, rfl, h⟩
theorem list_eq_declines_inst {K : PySem.W.Frag} {C : Addr} (hsub : PySem.W.subIn K (.ref C) (.type "list") = some false) (l y dx : Addr) (items : Array Value) (n : Nat) (dd : Option Addr) (sl : Array (Option Value)) :
    Meets (Builtin.«list.__eq__» ⟨[.ref l, .ref y], []⟩) (fun _ R s => s.heap.get? l = some { cls := .type "list", dict := dd, data := .seq items n, slots := sl } ∧ K.In s.heap ∧ s.heap.get? y = some (PySem.W.instObj C dx) ∧ R (.ok (.ret .notImplemented)) s) :=
  .of_wp fun prog w A R s h => by
    obtain ⟨hp, g, d, tk, os⟩ := s; obtain ⟨hl, X, hy, h⟩ := h
    wp_walk using wpAny_loadPart' hl, wpAny_typeOf_ref hy, (fun {Q : Bool → Shared → Prop} (q : Q false ⟨hp, g, d, tk, os⟩) => (PySem.W.looks_subIn X hsub).here q)
    exact ⟨_, rfl, h⟩
section
variable {prog : Program} {w : World} {A : Around} {E : Value → Shared → Prop} {s : Shared} {K : PySem.W.Frag} {x C f : Addr} {ox : Obj} {od : Option Obj} {b tb : Value}
theorem check_ne {M : Model} {Q : Unit → Shared → Prop} (X : K.In s.heap) (I : PySem.W.InstAt s.heap x ox C od) (hm : PySem.W.subIn K (.ref C) (.type "object") = some true) (hq : Q () s) : wpAny M A (checkBuiltinCall "object.__ne__" ⟨[.ref x, b], []⟩) Q E s := by
  simp only [checkBuiltinCall, PySem.F.cmpKind_ne, PySem.F.cmpSplit_ne]
  refine wpAny_bind ?_
  unfold isInstance
  refine wpAny_bind (I.type.here ((PySem.W.looks_subIn X hm).here ?_))
  simp only [Bool.not_true, Bool.false_eq_true, if_false]
  have ha := PySem.F.cmpArgs_ne (.ref x) b
  cases hsig : Manifest.signature? "object.__ne__" with
  | none => exact wpAny_pure hq
  | some sig =>
    simp only [argsOk, hsig] at ha
    have h2 : Bind.checkArgs "object.__ne__" sig ⟨[.ref x, b], []⟩ = pure () := ha
    show wpAny M A (Bind.checkArgs "object.__ne__" sig ⟨[.ref x, b], []⟩) Q E _
    rw [h2]; exact wpAny_pure hq
theorem objNe_K {Q : Fin → Shared → Prop} (hu : A.units < cLine) (X : K.In s.heap) (I : PySem.W.InstAt s.heap x ox C od) (hs : PySem.W.findIn K (.ref C) "__eq__" = some (some (.ref f))) (hf : PySem.W.isFn K (.ref f) = true)
    (hcall : wpAny (model prog w) A (call (.ref f) [.ref x, b]) (fun v s' => ∃ r, v = .bool r ∧ Q (.done (.ret (.bool (!r)))) s') E s) : wpAny (model prog w) A (Builtin.«object.__ne__» ⟨[.ref x, b], []⟩) Q E s := by
  unfold Builtin.«object.__ne__»
  obtain ⟨hp, g, d, tk, os⟩ := s
  repeat (first
    | with_reducible refine wpAny_cRoomFor hu ?_
    | (refine wpAny_bind (m := callSpecialIfBound? (.ref x) (Str.ofString "__eq__") [b])
        (PySem.W.ifBound_K X I hs hf (wpAny_mono hcall (fun r s' hr => by
          obtain ⟨b, rfl, hq⟩ := hr
          repeat (first | exact hq | exact wpAny_pure hq | exact wpAny_truthy_bool hq | (refine wpAny_bind (m := truthy (.bool _)) (wpAny_truthy_bool ?_)) | wp_step)) fun _ _ e => e)))
    | wp_step)
/-- an instance whose class has its own == and no own != -/
theorem ne_K {Q : Value → Shared → Prop} (hu : A.units + 1 < cLine) (X : K.In s.heap) (I : PySem.W.InstAt s.heap x ox C od) (hb : PySem.W.Looks (model prog w) s.heap (typeOf b) tb) (hn : PySem.W.notFirst K C tb = true)
    (hne : PySem.W.findIn K (.ref C) "__ne__" = some (some (.builtin "object.__ne__"))) (hm : PySem.W.subIn K (.ref C) (.type "object") = some true) (hs : PySem.W.findIn K (.ref C) "__eq__" = some (some (.ref f))) (hf : PySem.W.isFn K (.ref f) = true)
    (h : wpAny (model prog w) A.in1 (call (.ref f) [.ref x, b]) (fun v s' => ∃ r, v = .bool r ∧ Q (.bool (!r)) s') E s) : wpAny (model prog w) A (richCompare .NotEq (.ref x) b) Q E s := by
  have one : wpAny (model prog w) A (tryCompare (.ref x) (cmpInfo .NotEq).2.1 b) (fun r s' => ∃ v, r = some v ∧ Q v s') E s := by
    unfold tryCompare
    refine wpAny_bind ?_
    simp only [callSpecialIfBound?, bindSpecialIfBound?]
    refine wpAny_holding (wpAny_bind (wpAny_bind (wpAny_bind (I.type.here ((PySem.W.looks_findIn X hne).here ?_)))))
    simp only [PySem.F.slot_object_ne.bind]
    refine wpAny_bind (wpAny_askSetting (wpAny_ite ?_))
    have go : wpAny (model prog w) A (call (.builtin "object.__ne__") [.ref x, b]) (fun v s' => ∃ r, v = .bool r ∧ Q (.bool r) s') E s := by
      refine wpAny_call (codeAny_call_builtin PySem.F.slot_object_ne.plain PySem.F.cmpEntry_ne (check_ne X I hm (objNe_K (A := A.in1) (Nat.lt_of_le_of_lt (by show A.units + 1 ≤ _; exact Nat.le_refl _) hu) X I hs hf (wpAny_mono h (fun v s' hv => ?_) fun _ _ e => e))))
      obtain ⟨r, rfl, hq⟩ := hv
      exact ⟨r, rfl, _, rfl, hq⟩
    have fin : ∀ {P : Option Value → Shared → Prop}, (∀ r s', Q (.bool r) s' → P (some (.bool r)) s') → wpAny (model prog w) A (call (.builtin "object.__ne__") ([.ref x] ++ [b]) >>= fun v => pure (some v)) P E s := fun hP => by
      refine wpAny_bind (wpAny_mono go (fun v s' h' => ?_) fun _ _ e => e)
      obtain ⟨r, rfl, hq⟩ := h'
      exact wpAny_pure (hP r s' hq)
    split
    · exact wpAny_bind (wpAny_pure (wpAny_pure (fin fun r s' hq => wpAny_pure ⟨_, rfl, hq⟩)))
    · exact wpAny_tryCatch (wpAny_bind (wpAny_pure (wpAny_pure (fin fun r s' hq => wpAny_pure ⟨_, rfl, hq⟩))))
  unfold richCompare
  simp only [oneThing_ref]
  refine wpAny_holding (wpAny_bind (wpAny_cRoomFor (Nat.lt_of_succ_lt hu) ?_))
  refine wpAny_bind (I.type.here (wpAny_bind (hb.here ?_)))
  split
  · rename_i q
    have e : PySem.W.subIn K tb (.ref C) = some false := by
      rcases Bool.or_eq_true_iff.mp hn with e | e
      · rw [beq_iff_eq.mp e] at q; simp at q
      · exact beq_iff_eq.mp e
    refine wpAny_bind ((PySem.W.looks_subIn X e).here ?_)
    simp only [Bool.false_eq_true, if_false]
    refine wpAny_bind (wpAny_mono one (fun r s' z => ?_) fun _ _ e => e)
    obtain ⟨v, rfl, hq⟩ := z
    exact wpAny_pure hq
  · refine wpAny_bind (wpAny_pure ?_)
    simp only [Bool.false_eq_true, if_false]
    refine wpAny_bind (wpAny_mono one (fun r s' z => ?_) fun _ _ e => e)
    obtain ⟨v, rfl, hq⟩ := z
    exact wpAny_pure hq
end
end VE
set_option maxRecDepth 100000
set_option maxHeartbeats 4000000
namespace VD
open PySem PySem.Spec PyProof.Rows L2
def tys : List String := ["NoneType", "int", "bool", "str", "tuple", "list"]
/-- what the text must have of a class with its own == -/
structure EqCls (X : Cx) (C : VD.Ctx) (n nc c : Nat) (Pr : D → D → Prop) : Prop where
  ex : ∃ (f : Addr) (fd : FuncData), FnOk X.prog X.w X.K X.mg X.base CX0 n f fd ["self", "other"] (spP C (fun x : D × D => [x.1, x.2]) (fun x => .fz (.bl (D.beq x.1 x.2))) (fun x => Pr x.1 x.2)) ∧
    PySem.W.findIn X.K (.ref (C.cls c)) "__eq__" = some (some (.ref f)) ∧ PySem.W.isFn X.K (.ref f) = true ∧ Binds X.K fd ["self", "other"] []
  nf : ∀ e, e < nc → PySem.W.notFirst X.K (C.cls c) (.ref (C.cls e)) = true
  nt : ∀ T ∈ tys, PySem.W.notFirst X.K (C.cls c) (.type T) = true ∧ PySem.W.subIn X.K (.ref (C.cls c)) (.type T) = some false
  ob : PySem.W.subIn X.K (.ref (C.cls c)) (.type "object") = some true
  ne : PySem.W.findIn X.K (.ref (C.cls c)) "__ne__" = some (some (.builtin "object.__ne__"))
def tyD (C : VD.Ctx) : D → Value
  | .non => .type "NoneType"
  | .bl _ => .type "bool"
  | .int _ => .type "int"
  | .str _ => .type "str"
  | .tup _ => .type "tuple"
  | .lst _ => .type "list"
  | .ins c _ => .ref (C.cls c)
section
variable {X : Cx} {C : VD.Ctx} {pins : List (Addr × Obj)} {σ : L2.St} {H F : Hp} {s : Shared} {n nc c : Nat} {Pr : D → D → Prop}
theorem looks_ty (I : Inv X pins σ H s) (w : Same F H) (hK : C.K = X.K) {v : V} {u : Value} {d : D} (r : Rp C F v d) (ru : RelV v u) : PySem.W.Looks (model X.prog X.w) s.heap (typeOf u) (tyD C d) := by
  cases r with
  | non => cases ru; exact .of_pure rfl
  | bl b => cases ru; exact .of_pure rfl
  | int n => obtain ⟨t, rfl⟩ := ru; exact .of_pure rfl
  | str x => obtain ⟨t, rfl⟩ := ru; exact .of_pure rfl
  | tup h q =>
    cases ru
    have z := Same.sqT w h
    rw [hK] at z
    obtain ⟨its, _, ⟨o, e, k, _⟩, _⟩ := I.tuple z
    have l : PySem.W.Looks (model X.prog X.w) s.heap (typeOf (.ref _)) o.cls := (PySem.W.Looks.ld e).andThen .now
    rw [k] at l
    exact l
  | lst h q =>
    cases ru
    have z := w.seq h
    rw [hK] at z
    obtain ⟨its, _, ⟨o, _, e, k, _⟩, _⟩ := I.list z
    have l : PySem.W.Looks (model X.prog X.w) s.heap (typeOf (.ref _)) o.cls := (PySem.W.Looks.ld e).andThen .now
    rw [k] at l
    exact l
  | ins h hk q =>
    cases ru
    obtain ⟨mA, J, _⟩ := ins_get I.hok (w _ _ h)
    obtain ⟨od, J, _⟩ := J.look
    exact J.type
/-- the callee, below the running body -/
theorem run_eq {A : Around} {f : Addr} {fd : FuncData} {Q : Bool → Shared → Prop} (Fk : FnOk X.prog X.w X.K X.mg X.base CX0 n f fd ["self", "other"] (spP C (fun x : D × D => [x.1, x.2]) (fun x => .fz (.bl (D.beq x.1 x.2))) (fun x => Pr x.1 x.2)))
    (hb : Binds X.K fd ["self", "other"] []) (sb : Room n A) (fr : A.frames = X.A.frames) (I : Inv X pins σ H s) (w : Same F H) {x y : V} {u v : Value} {d e : D} (rx : RelV x u) (ry : RelV y v) (r1 : Rp C F x d) (r2 : Rp C F y e) (p : Pr d e)
    (k : ∀ s' H', Inv X pins σ H' s' → Ext H H' → Q (D.beq d e) s') : wpAny (model X.prog X.w) A (call (.ref f) [u, v]) (fun r s' => ∃ b, r = .bool b ∧ Q b s') X.xe s := by
  have hsp : spP C (fun x : D × D => [x.1, x.2]) (fun x => .fz (.bl (D.beq x.1 x.2))) (fun x => Pr x.1 x.2) [x, y] H (fun v H' => v = .bl (D.beq d e) ∧ Ext H H') E0 :=
    ⟨F, (d, e), w, .cons r1 (.cons r2 .nil), p, fun v F' Z H' st o => ⟨o.inv.blv, st.same⟩⟩
  have e0 : Env0 X.prog X.w X.K X.mg X.base A X.stack s H := by
    have e := I.env0
    exact ⟨by rw [fr]; exact e.frames, e.mod, e.bs, e.bsz, e.funs, e.frf, e.hok, e.bare⟩
  have hl := Fk.len _ _ _ _ hsp
  have r2' : Vals [x, y] [u, v] := .cons rx (.cons ry .nil)
  refine wpAny_call (codeAny_mono (Fk.run A X.stack s H ⟨[u, v], []⟩ [u, v] [x, y] _ E0 sb e0 (by
    have := hb s [u, v] I.kIn (by simpa using hl)
    simpa using this) r2' hsp) fun r s' hq => ?_)
  cases r with
  | error e => exact hq.elim
  | ok fl =>
    cases fl with
    | ret w =>
      obtain ⟨z, H', I', rz, ez, ex⟩ := I.after hq
      subst ez
      cases rz
      exact ⟨_, rfl, k s' H' I' ex⟩
    | next => exact False.elim hq
    | brk => exact False.elim hq
    | cont => exact False.elim hq
theorem tyD_nf (K : EqCls X C n nc c Pr) {e : D} (h : e.cb nc = true) : PySem.W.notFirst X.K (C.cls c) (tyD C e) = true := by
  cases e with
  | ins c' l =>
    simp only [D.cb, Bool.and_eq_true, decide_eq_true_eq] at h
    exact K.nf c' h.1
  | _ => exact (K.nt _ (by simp [tys])).1
/-- an instance on the left -/
theorem rcP_insL (hK : C.K = X.K) (K : EqCls X C n nc c Pr) : RcP X C n (fun d e => (∃ l, d = .ins c l) ∧ e.cb nc = true ∧ Pr d e) := fun A pins s σ H F x y u v d e sb I rx ry w r1 r2 p => by
  obtain ⟨⟨l, rfl⟩, hc, p⟩ := p
  obtain ⟨f, fd, Fk, hs, hf, hb⟩ := K.ex
  have ht := looks_ty I w hK r2 ry
  have r1' := r1
  cases r1 with
  | @ins a dx _ fs _ h hk q =>
    cases rx
    obtain ⟨mA, J, _⟩ := ins_get I.hok (w _ _ h)
    obtain ⟨od, J, _⟩ := J.look
    obtain ⟨m, hF⟩ := I.fr
    refine PySem.W.cmp_K (op := .Eq) (tb := tyD C e) sb.room.units0 hF I.ok.mod.kin J ht (tyD_nf K hc) hs hf ?_
    refine wpAny_mono (run_eq (Q := fun b s' => b = D.beq (.ins c l) e ∧ ∃ H', Inv X pins σ H' s' ∧ Ext H H') Fk hb sb.room sb.fr I w (show RelV (V.ref a) (Value.ref a) from rfl) ry r1' r2 p fun s' H' I' ex => ⟨rfl, H', I', ex⟩) (fun r s' q => ?_) fun _ _ x => x
    obtain ⟨b, rfl, rfl, q⟩ := q
    exact ⟨rfl, q⟩
theorem beq_nins {d : D} {l : List D} (h : ∀ c l, d ≠ .ins c l) : D.beq d (.ins c l) = false ∧ D.beq (.ins c l) d = false := by
  cases d with
  | ins c' m => exact absurd rfl (h c' m)
  | _ => exact ⟨rfl, rfl⟩
/-- an instance on the right of something else -/
theorem rcP_insR (hK : C.K = X.K) (K : EqCls X C n nc c Pr) : RcP X C n (fun d e => (∃ l, e = .ins c l) ∧ (∀ c l, d ≠ .ins c l) ∧ Pr e d) := fun A pins s σ H F x y u v d e sb I rx ry w r1 r2 p => by
  obtain ⟨⟨l, rfl⟩, hn, p⟩ := p
  obtain ⟨f, fd, Fk, hs, hf, hb⟩ := K.ex
  have r2' := r2
  cases r2 with
  | @ins a dx _ fs _ h hk q =>
    cases ry
    obtain ⟨mA, J, _⟩ := ins_get I.hok (w _ _ h)
    obtain ⟨od, J, _⟩ := J.look
    obtain ⟨z1, z2, z3, ob, _⟩ := (show ObjOk X.prog X.w H s.heap a (.ins (C.cls c) dx fs) from I.hok a _ (w _ _ h))
    have X' : X.K.In s.heap := I.kIn
    have go : wpAny (model X.prog X.w) A (call (.ref f) [.ref a, u]) (PySem.W.CmpBack (fun r s' => r = .bool (D.beq d (.ins c l)) ∧ ∃ H', Inv X pins σ H' s' ∧ Ext H H')) X.xe s := by
      refine wpAny_mono (run_eq (Q := fun b s' => b = D.beq (.ins c l) d ∧ ∃ H', Inv X pins σ H' s' ∧ Ext H H') Fk hb sb.room sb.fr I w (show RelV (V.ref a) (Value.ref a) from rfl) rx r2' r1 p fun s' H' I' ex => ⟨rfl, H', I', ex⟩) (fun r s' q => ?_) fun _ _ x => x
      obtain ⟨b, rfl, rfl, q⟩ := q
      refine ⟨?_, q⟩
      rw [(beq_nins hn).1, (beq_nins hn).2]
    have sub : ∀ T ∈ tys, PySem.W.subIn X.K (.ref (C.cls c)) (.type T) = some false := fun T hT => (K.nt T hT).2
    have hu := sb.room.units0
    cases r1 with
    | non =>
      cases rx
      exact VE.rc_refl hu X' J rfl (sub "NoneType" (by simp [tys])) PySem.F.slot_NoneType_eq (fun Q' hq => call_gives PySem.F.slot_NoneType_eq rfl PySem.F.entry_NoneType_eq (PySem.F.args_NoneType_eq_2 _ _) (SeqAt.NoneType___eq___none_ref_0 a) hq) hs hf go
    | bl b =>
      cases rx
      exact VE.rc_refl hu X' J rfl (sub "bool" (by simp [tys])) PySem.F.slot_bool_eq (fun Q' hq => call_meets PySem.F.slot_bool_eq rfl PySem.F.entry_int_eq (PySem.F.args_int_eq_2 _ _) (VE.bool_eq_declines_inst b a (C.cls c) dx) ⟨ob, hq⟩) hs hf go
    | int i =>
      obtain ⟨t, rfl⟩ := rx
      exact VE.rc_refl hu X' J (typeIs_int s i t) (sub "int" (by simp [tys])) PySem.F.slot_int_eq (fun Q' hq => call_meets PySem.F.slot_int_eq (typeIs_int s i t) PySem.F.entry_int_eq (PySem.F.args_int_eq_2 _ _) (VE.int_eq_declines_inst i t a (C.cls c) dx) ⟨ob, hq⟩) hs hf go
    | str z =>
      obtain ⟨t, rfl⟩ := rx
      exact VE.rc_refl hu X' J rfl (sub "str" (by simp [tys])) PySem.F.slot_str_eq (fun Q' hq => call_meets PySem.F.slot_str_eq rfl PySem.F.entry_str_eq (PySem.F.args_str_eq_2 _ _) (VE.str_eq_declines_inst z t a (C.cls c) dx) ⟨ob, hq⟩) hs hf go
    | @tup b vs m h1 q1 =>
      cases rx
      obtain ⟨its, _, ht, _⟩ := I.tuple (a := b) (by rw [← hK]; exact Same.sqT w h1)
      obtain ⟨⟨cl, dd, da, sl⟩, ho, hc1, nn, hd1⟩ := id ht
      simp only at hc1 hd1
      subst hc1 hd1
      exact VE.rc_refl hu X' J ⟨_, ho, rfl⟩ (sub "tuple" (by simp [tys])) PySem.F.slot_tuple_eq (fun Q' hq => call_meets PySem.F.slot_tuple_eq ⟨_, ho, rfl⟩ PySem.F.entry_tuple_eq (PySem.F.args_tuple_eq_2 _ _) (VE.tuple_eq_declines_inst (sub "tuple" (by simp [tys])) b a dx _ _ _ _) ⟨ho, X', ob, hq⟩) hs hf go
    | @lst b vs m h1 q1 =>
      cases rx
      obtain ⟨its, _, ht, _⟩ := I.list (a := b) (by rw [← hK]; exact w.seq h1)
      obtain ⟨⟨cl, dd, da, sl⟩, ho, hc1, nn, hd1⟩ := id ht.isList
      simp only at hc1 hd1
      subst hc1 hd1
      exact VE.rc_refl hu X' J ⟨_, ho, rfl⟩ (sub "list" (by simp [tys])) PySem.F.slot_list_eq (fun Q' hq => call_meets PySem.F.slot_list_eq ⟨_, ho, rfl⟩ PySem.F.entry_list_eq (PySem.F.args_list_eq_2 _ _) (VE.list_eq_declines_inst (sub "list" (by simp [tys])) b a dx _ _ _ _) ⟨ho, X', ob, hq⟩) hs hf go
    | ins h1 k1 q1 => exact absurd rfl (hn _ _)
/-- != -/
def NeP (X : Cx) (C : VD.Ctx) (n : Nat) (Pr : D → D → Prop) : Prop := ∀ (A : Around) (pins : List (Addr × Obj)) (s : Shared) (σ : L2.St) (H F : Hp) (x y : V) (u v : Value) (d e : D), Sub X n A → Inv X pins σ H s → RelV x u → RelV y v → Same F H → Rp C F x d → Rp C F y e → Pr d e →
  wpAny (model X.prog X.w) A (richCompare .NotEq u v) (fun r s' => r = .bool (!D.beq d e) ∧ ∃ H', Inv X pins σ H' s' ∧ Ext H H') X.xe s
theorem neP_insL (hK : C.K = X.K) (K : EqCls X C n nc c Pr) : NeP X C (n + 1) (fun d e => (∃ l, d = .ins c l) ∧ e.cb nc = true ∧ Pr d e) := fun A pins s σ H F x y u v d e sb I rx ry w r1 r2 p => by
  obtain ⟨⟨l, rfl⟩, hc, p⟩ := p
  obtain ⟨f, fd, Fk, hs, hf, hb⟩ := K.ex
  have ht := looks_ty I w hK r2 ry
  have r1' := r1
  cases r1 with
  | @ins a dx _ fs _ h hk q =>
    cases rx
    obtain ⟨mA, J, _⟩ := ins_get I.hok (w _ _ h)
    obtain ⟨od, J, _⟩ := J.look
    have sb1 := sb.in1
    refine VE.ne_K (tb := tyD C e) (by have := sb.room.un; omega) I.kIn J ht (tyD_nf K hc) K.ne K.ob hs hf ?_
    exact run_eq (Q := fun b s' => (Value.bool (!b) = .bool (!D.beq (.ins c l) e)) ∧ ∃ H', Inv X pins σ H' s' ∧ Ext H H') Fk hb sb1.room sb1.fr I w (show RelV (V.ref a) (Value.ref a) from rfl) ry r1' r2 p fun s' H' I' ex => ⟨rfl, H', I', ex⟩
theorem neP_plain (hK : C.K = X.K) : NeP X C 0 Plain2 := fun A pins s σ H F x y u v d e sb I rx ry w r1 r2 p => by
  obtain ⟨p1, p2, z1, z2⟩ := p
  have d1 := r1.dp w p1
  have d2 := r2.dp w p2
  rw [hK] at d1 d2
  obtain ⟨as, q1⟩ := Dp.reads I _ _ _ d1 rx
  obtain ⟨bs, q2⟩ := Dp.reads I _ _ _ d2 ry
  have h := SeqAt.compareNe_shaped (prog := X.prog) (w := X.w) (A := A) (E := X.xe) (Q := fun r s' => r = .bool (!D.beq d e) ∧ ∃ H', Inv X pins σ H' s' ∧ Ext H H') q1 q2 z1 z2 sb.room.units ⟨by rw [D.beq_py d e p1 p2], H, I, Ext.rfl'⟩
  exact h
theorem NeP.imp {Pr' : D → D → Prop} {m : Nat} (h : NeP X C n Pr) (k : ∀ d e, Pr' d e → Pr d e) (hn : n ≤ m) : NeP X C m Pr' := fun A pins s σ H F x y u v d e sb I rx ry w r1 r2 p => h A pins s σ H F x y u v d e (sb.mono hn) I rx ry w r1 r2 (k d e p)
theorem NeP.or {Pr' : D → D → Prop} (h : NeP X C n Pr) (h' : NeP X C n Pr') : NeP X C n (fun d e => Pr d e ∨ Pr' d e) := fun A pins s σ H F x y u v d e sb I rx ry w r1 r2 p => p.elim (h A pins s σ H F x y u v d e sb I rx ry w r1 r2) (h' A pins s σ H F x y u v d e sb I rx ry w r1 r2)
/-! ### as expressions -/
def rEqV (C : VD.Ctx) (Pr : D → D → Prop) : R2 := fun x y H Q => ∃ F d e, Same F H ∧ Rp C F x d ∧ Rp C F y e ∧ Pr d e ∧ ∀ H', Ext H H' → Q (.bl (D.beq d e)) H'
def rNeV (C : VD.Ctx) (Pr : D → D → Prop) : R2 := fun x y H Q => ∃ F d e, Same F H ∧ Rp C F x d ∧ Rp C F y e ∧ Pr d e ∧ ∀ H', Ext H H' → Q (.bl (!D.beq d e)) H'
theorem op_eqV (h : RcP X C n Pr) (hr : Room n X.A) : OpR X (compareOp .Eq) (rEqV C Pr) := by
  intro pins s σ H x y v u Q I rx ry hq
  obtain ⟨F, d, e, w, r1, r2, p, q⟩ := hq
  show wpAny (model X.prog X.w) X.A (richCompare .Eq v u) (EP X pins σ Q) X.xe s
  refine wpAny_mono (h X.A pins s σ H F x y v u d e ⟨hr, rfl⟩ I rx ry w r1 r2 p) (fun r s' z => ?_) fun _ _ x => x
  obtain ⟨hr', H', I', e⟩ := z
  subst hr'
  exact ⟨.bl _, H', I', rfl, q H' e⟩
theorem op_neV (h : NeP X C n Pr) (hr : Room n X.A) : OpR X (compareOp .NotEq) (rNeV C Pr) := by
  intro pins s σ H x y v u Q I rx ry hq
  obtain ⟨F, d, e, w, r1, r2, p, q⟩ := hq
  show wpAny (model X.prog X.w) X.A (richCompare .NotEq v u) (EP X pins σ Q) X.xe s
  refine wpAny_mono (h X.A pins s σ H F x y v u d e ⟨hr, rfl⟩ I rx ry w r1 r2 p) (fun r s' z => ?_) fun _ _ x => x
  obtain ⟨hr', H', I', e⟩ := z
  subst hr'
  exact ⟨.bl _, H', I', rfl, q H' e⟩
end
section
variable {C : VD.Ctx} {p q : Bool} {ta tb te : TE} {s s1 s2 : SD} {d e d1 d2 : D} {Pr : D → D → Prop}
theorem Stp.grow {F H H' : Hp} {S : Ad} (w : Wf F H S) (e : Same H H') : Stp F H S F H' S := ⟨Same.refl F, ⟨w.fh.trans e, w.fr, fun a z => by rw [Same.own w e a z]; exact w.ex a z⟩, fun a o h _ => e a o h, fun a o h => .inl h, fun a z => .inl z⟩
theorem rv_eqV (p : Pr d e) : RvD C (rEqV C Pr) d e (.fz (.bl (D.beq d e))) := fun v1 v2 F S H Q w r1 r2 k =>
  ⟨F, d, e, w.fh, r1, r2, p, fun H' ex => k _ F no H' ((Stp.grow w ex).sub fun a z => z.elim False.elim id) ex (.fz (.bl _)) fun _ z => z.elim⟩
theorem rv_neV (p : Pr d e) : RvD C (rNeV C Pr) d e (.fz (.bl (!D.beq d e))) := fun v1 v2 F S H Q w r1 r2 k =>
  ⟨F, d, e, w.fh, r1, r2, p, fun H' ex => k _ F no H' ((Stp.grow w ex).sub fun a z => z.elim False.elim id) ex (.fz (.bl _)) fun _ z => z.elim⟩
theorem ev_eqV (h1 : Ev C p ta s (.fz d1) s1) (h2 : Ev C q tb s1 (.fz d2) s2) (hp : Pr d1 d2) : Ev C (p && q) (tOp (rEqV C Pr) ta tb) s (.fz (.bl (D.beq d1 d2))) s2 := ev_op h1 h2 (rv_eqV hp)
theorem ev_neV (h1 : Ev C p ta s (.fz d1) s1) (h2 : Ev C q tb s1 (.fz d2) s2) (hp : Pr d1 d2) : Ev C (p && q) (tOp (rNeV C Pr) ta tb) s (.fz (.bl (!D.beq d1 d2))) s2 := ev_op h1 h2 (rv_neV hp)
end
end VD
set_option maxRecDepth 100000
set_option maxHeartbeats 4000000
namespace VD
open PySem PySem.Spec PyProof.Rows L2
/-! ### calls that borrow what slots own -/
inductive ArgD where
  | b (i : Nat) (t : T) | f (d : D)
def ArgD.t : ArgD → T
  | .b _ t => t
  | .f d => .fz d
inductive ValsB (C : VD.Ctx) (F : Hp) (σ : L2.St) : List V → List ArgD → Prop
  | nil : ValsB C F σ [] []
  | b {v : V} {i : Nat} {t : T} {vs : List V} {as : List ArgD} (h : σ[i]? = some (some v)) (r : ValsB C F σ vs as) : ValsB C F σ (v :: vs) (.b i t :: as)
  | f {v : V} {d : D} {vs : List V} {as : List ArgD} (h : Rp C F v d) (r : ValsB C F σ vs as) : ValsB C F σ (v :: vs) (.f d :: as)
theorem ValsB.mono {C : VD.Ctx} {F F' : Hp} {σ : L2.St} (e : Same F F') : ∀ {vs : List V} {as : List ArgD}, ValsB C F σ vs as → ValsB C F' σ vs as
  | _, _, .nil => .nil
  | _, _, .b h r => .b h (r.mono e)
  | _, _, .f h r => .f (h.mono e) (r.mono e)
def EvB (C : VD.Ctx) (ta : TA) (s : SD) (as : List ArgD) : Prop := ∀ (F : Hp) (S : Ad) (σ : L2.St) (H : Hp) (Q : List V → Hp → Prop), Wf F H S → Sl C F H σ s S →
  (∀ vs F' (S' : Ad) H', Stp F H S F' H' S' → Same H H' → Sl C F' H' σ s S' → ValsB C F' σ vs as → Q vs H') → ta σ H Q
/-- the slots with the arguments as the call leaves them -/
def putB (s : SD) : List ArgD → List T → SD
  | .b i _ :: as, t :: ts => (putB s as ts).set i (some t)
  | .f _ :: as, _ :: ts => putB s as ts
  | _, _ => s
/-- the borrowed slots are different ones, and hold what is said -/
inductive OkB : SD → List ArgD → Prop
  | nil {s : SD} : OkB s []
  | b {s : SD} {i : Nat} {t : T} {as : List ArgD} (h : s[i]? = some (some t)) (r : OkB (s.set i none) as) : OkB s (.b i t :: as)
  | f {s : SD} {d : D} {as : List ArgD} (r : OkB s as) : OkB s (.f d :: as)
section
variable {C : VD.Ctx} {s s1 : SD} {p q : Bool} {te ta tb : TE} {tr : TA} {d : D} {t : T} {as : List ArgD}
theorem eb_nil : EvB C tNil s [] := fun F S σ H Q w l k => k [] F S H (Stp.refl w) (Same.refl H) l .nil
theorem eb_b {i : Nat} (h : s[i]? = some (some t)) (hr : EvB C tr s as) : EvB C (tCons (tVar i) tr) s (.b i t :: as) := fun F S σ H Q w l k => by
  obtain ⟨v, _, e, _⟩ := l.get h
  exact ⟨v, e, hr F S σ H _ w l fun vs F' S' H' st sm l' r => k (v :: vs) F' S' H' st sm l' (.b e r)⟩
theorem eb_f (h : Ev C true te s (.fz d) s) (hr : EvB C tr s as) : EvB C (tCons te tr) s (.f d :: as) := fun F S σ H Q w l k => h.use w l fun v F1 S1 H1 st1 sm1 r1 l1 => hr F1 S1 σ H1 _ st1.wf l1 fun vs F' S' H' st sm l' r =>
  k (v :: vs) F' S' H' (st1.trans st) ((sm1 rfl).trans sm) l' (.f (r1.mono st.ff) r)
/-- taken out of the slots, and put back -/
theorem Sl.lend {F H : Hp} {σ : L2.St} : ∀ {as : List ArgD} {s : SD} {S : Ad} {vs : List V}, OkB s as → Sl C F H σ s S → ValsB C F σ vs as → ∃ (Z S2 : Ad), OwA C F H vs (as.map ArgD.t) Z ∧ (∀ a, Z a → S a) ∧ (∀ a, S2 a → S a) ∧ (∀ a, Z a → S2 a → False) ∧
    ∀ (F' H' : Hp) (ts' : List T) (Z' : Ad), Same F F' → (∀ a, S2 a → H' a = H a) → OwA C F' H' vs ts' Z' → (∀ a, Z' a → S2 a → False) → Sl C F' H' σ (putB s as ts') (fun a => Z' a ∨ S2 a)
  | [], s, S, _, _, l, .nil => ⟨VD.no, S, .nil, fun _ z => z.elim, fun _ z => z, fun _ z => z.elim, fun F' H' ts' Z' eF kH o dj => by
      cases o
      exact (l.frame eF kH).wk fun _ z => .inr z⟩
  | .f d :: as, s, S, _, .f ok, l, .f h r => by
    obtain ⟨Z, S2, o, a1, a2, dj, put⟩ := Sl.lend ok l r
    refine ⟨Z, S2, .cons (S1 := VD.no) (.fz h) o (fun _ z => z.elim) (fun _ z => z) (fun _ z => z.elim), a1, a2, dj, fun F' H' ts' Z' eF kH o' dj' => ?_⟩
    cases o' with
    | cons h' r' s1' s2' d' => exact (put F' H' _ _ eF kH r' fun a y z => dj' a (s2' a y) z).wk fun a z => z.elim (fun z => .inl (s2' a z)) .inr
  | .b i t :: as, s, S, _, .b h0 ok, l, .b (v := v) e r => by
    obtain ⟨v', S1, S2, e', o, a1, a2, dj, l2, put⟩ := l.focus i h0
    rw [e] at e'
    cases e'
    obtain ⟨Z, S3, o3, b1, b2, dj3, put3⟩ := Sl.lend ok l2 r
    refine ⟨fun a => S1 a ∨ Z a, S3, .cons o o3 (fun a z => .inl z) (fun a z => .inr z) fun a y z => dj a y (b1 a z), fun a z => z.elim (a1 a) fun z => a2 a (b1 a z), fun a z => a2 a (b2 a z), fun a y z => y.elim (fun y => dj a y (b2 a z)) fun y => dj3 a y z, fun F' H' ts' Z' eF kH o' dj' => ?_⟩
    cases o' with
    | @cons _ t' _ ts2 _ Z1 Z2 h' r' s1' s2' d' =>
      have l4 := put3 F' H' _ Z2 eF kH r' fun a y z => dj' a (s2' a y) z
      have l5 := Sl.put h' i l4 fun a y z => z.elim (d' a y) fun z => dj' a (s1' a y) z
      have hs : σ.set i (some v) = σ := by
        obtain ⟨hi, he⟩ := List.getElem?_eq_some_iff.mp e
        rw [← he, List.set_getElem_self]
      rw [hs] at l5
      have e2 : i < s.length := by
        have := (List.getElem?_eq_some_iff.mp h0).1
        exact this
      have comm : ∀ {as : List ArgD} {ts : List T} {s : SD}, (putB (s.set i none) as ts).set i (some t') = (putB s as ts).set i (some t') := by
        intro as
        induction as with
        | nil => intro ts s; cases ts <;> simp [putB]
        | cons a as ih =>
          intro ts s
          cases ts with
          | nil => cases a <;> simp [putB]
          | cons u us =>
            cases a with
            | f d => simp only [putB]; exact ih
            | b j u0 =>
              simp only [putB]
              by_cases q : j = i
              · subst q
                rw [List.set_set, List.set_set]
                exact ih
              · rw [List.set_comm _ _ q, List.set_comm _ _ q, ih]
      show Sl C F' H' σ ((putB s as ts2).set i (some t')) _
      rw [← comm]
      exact l5.wk fun a z => z.elim (fun z => .inl (s1' a z)) fun z => z.elim (fun z => .inl (s2' a z)) .inr
end
/-! ### promises about trees -/
def spT (C : VD.Ctx) {ι : Type} (args args' : ι → List T) (res : ι → T) (pre : ι → Prop) : Sp := fun vs H Q _ => ∃ F S x, Wf F H S ∧ OwA C F H vs (args x) S ∧ pre x ∧
  ∀ v F' (Z S' : Ad) H', Stp F H S F' H' (fun a => Z a ∨ S' a) → OwA C F' H' vs (args' x) S' → Ow C F' H' v (res x) Z → (∀ a, Z a → S' a → False) → Q v H'
section
variable {C : VD.Ctx} {s s1 : SD} {p q : Bool} {te ta tb : TE} {tr : TA} {d : D} {t : T} {as : List ArgD} {ι : Type} {args args' : ι → List T} {res : ι → T} {pre : ι → Prop} {E : XK}
theorem ev_callB (x : ι) (h : EvB C tr s as) (ok : OkB s as) (ha : args x = as.map ArgD.t) (hp : pre x) : Ev C false (tCall (spT C args args' res pre) [] E tr) s (res x) (putB s as (args' x)) := fun F S σ H Q w l k => h F S σ H _ w l fun vs F1 S1 H1 st1 sm1 l1 r1 => by
  obtain ⟨Z, S2, o, a1, a2, dj, put⟩ := Sl.lend ok l1 r1
  have w1 : Wf F1 H1 (fun a => Z a ∨ S2 a) := st1.wf.sub fun a z => z.elim (a1 a) (a2 a)
  show spT C args args' res pre (vs ++ []) H1 Q E
  rw [List.append_nil]
  refine ⟨F1, Z, x, w1.sub fun a z => .inl z, by rw [ha]; exact o, hp, fun v F2 Y Z' H2 st2 o2 ov dj2 => ?_⟩
  obtain ⟨st3, same, dj3⟩ := Stp.beside w1 dj st2
  have l3 := put F2 H2 (args' x) Z' st2.ff same o2 fun a y z => dj3 a (.inr y) z
  refine k v F2 Y _ H2 (((st1.sub (S2 := fun a => Z a ∨ S2 a) fun a z => z.elim (a1 a) (a2 a)).trans st3).sub fun a z => ?_) (fun z => by cases z) ov ?_ l3
  · rcases z with z | z | z
    · exact .inl (.inl z)
    · exact .inl (.inr z)
    · exact .inr z
  · intro a y z
    rcases z with z | z
    · exact dj2 a y z
    · exact dj3 a (.inl y) z
/-- a new instance -/
theorem ev_makeB {c : Nat} {fs : ι → List (Str × T)} (x : ι) (h : EvB C tr s as) (ok : OkB s as) (ha : args x = .oi c [] :: as.map ArgD.t) {rest : List T} (ha' : args' x = .oi c (fs x) :: rest) (hp : pre x) (hr : res x = .fz .non) :
    Ev C false (tMake (C.cls c) (spT C args args' res pre) [] E tr) s (.oi c (fs x)) (putB s as rest) := fun F S σ H Q w l k => h F S σ H _ w l fun vs F1 S1 H1 st1 sm1 l1 r1 a dx hA hd hne => by
  obtain ⟨Z, S2, o, a1, a2, dj, put⟩ := Sl.lend ok l1 r1
  have w1 : Wf F1 H1 (fun a => Z a ∨ S2 a) := st1.wf.sub fun a z => z.elim (a1 a) (a2 a)
  have st1' := st1.sub (S2 := fun a => Z a ∨ S2 a) fun a z => z.elim (a1 a) (a2 a)
  have sta := Stp.newF (o := .own a) w1 hd
  have ha2 : upd H1 dx (.own a) a = none := by rw [upd_ne (fun e => hne e.symm)]; exact hA
  have stb := Stp.newO (o := .ins (C.cls c) dx []) sta.wf ha2
  have na : ∀ y, (Z y ∨ S2 y) → y ≠ a := fun y z e => w1.ex y z (by rw [e]; exact hA)
  have sm2 : Same H1 (upd (upd H1 dx (.own a)) a (.ins (C.cls c) dx [])) := (Same.newO hd).trans (Same.newO ha2)
  have own2 := Same.own w1 sm2
  show spT C args args' res pre (.ref a :: (vs ++ [])) _ _ E
  rw [List.append_nil]
  have w3 : Wf (upd F1 dx (.own a)) (upd (upd H1 dx (.own a)) a (.ins (C.cls c) dx [])) (fun y => (y = a ∨ Z y) ∨ S2 y) := stb.wf.sub fun y z => by
    rcases z with (z | z) | z
    · exact .inl z
    · exact .inr (.inl z)
    · exact .inr (.inr z)
  have st3 : Stp F H S (upd F1 dx (.own a)) (upd (upd H1 dx (.own a)) a (.ins (C.cls c) dx [])) (fun y => (y = a ∨ Z y) ∨ S2 y) := ((st1'.trans sta).trans stb).sub fun y z => by
    rcases z with (z | z) | z
    · exact .inl z
    · exact .inr (.inl z)
    · exact .inr (.inr z)
  refine ⟨upd F1 dx (.own a), (fun y => y = a ∨ Z y), x, w3.sub fun y z => .inl z, ?_, hp, fun v F2 Y Z' H2 st2 o2 ov dj2 => ?_⟩
  · rw [ha]
    exact .cons (S1 := fun y => y = a) (S2 := Z) (.oi (fvs := []) (fs := []) (S1 := no) upd_same rfl rfl (fun _ z => z.elim) .nil) (o.frame sta.ff fun y z => own2 y (.inl z)) (fun y z => .inl z) (fun y z => .inr z) fun y e z => na y (.inl z) e
  · rw [hr] at ov
    refine ⟨ov.inv.nonv, ?_⟩
    obtain ⟨st4, same, dj4⟩ := Stp.beside w3 (fun y z z2 => z.elim (fun e => na y (.inr z2) e) fun z => dj y z z2) st2
    rw [ha'] at o2
    cases o2 with
    | @cons _ _ _ _ _ X1 X2 oi' r' s1' s2' d' =>
      have l3 := put F2 H2 rest X2 ((sta.ff.trans stb.ff).trans st2.ff) (fun y z => (same y z).trans (own2 y (.inr z))) r' fun y z z2 => dj4 y (.inr (s2' y z)) z2
      refine k (.ref a) F2 X1 _ H2 ((st3.trans st4).sub fun y z => ?_) (fun z => by cases z) oi' ?_ l3
      · rcases z with z | z | z
        · exact .inl (.inr (s1' y z))
        · exact .inl (.inr (s2' y z))
        · exact .inr z
      · intro y z z2
        rcases z2 with z2 | z2
        · exact d' y z z2
        · exact dj4 y (.inr (s1' y z)) z2
/-! ### a def over trees, its parameters never bound again -/
theorem Sl.startT {F H : Hp} {S : Ad} {n : Nat} : ∀ {vs : List V} {ts : List T} {S : Ad}, OwA C F H vs ts S → Sl C F H (vs.map some ++ List.replicate n none) (ts.map some ++ List.replicate n none) S
  | _, _, _, .nil => Sl.nones n
  | _, _, _, .cons h r s1 s2 d => .so h (Sl.startT (S := S) r) s1 s2 d
theorem Sl.front {F H : Hp} : ∀ {vs : List V} {ts : List T} {σ : L2.St} {s : SD} {S : Ad}, Sl C F H σ s S → vs.length = ts.length → (∀ k : Nat, k < vs.length → σ[k]? = (vs.map some)[k]?) → (∀ k : Nat, k < vs.length → s[k]? = (ts.map some)[k]?) → OwA C F H vs ts S
  | [], [], _, _, _, _, _, _, _ => .nil
  | [], _ :: _, _, _, _, _, h, _, _ => by simp at h
  | _ :: _, [], _, _, _, _, h, _, _ => by simp at h
  | v :: vs, t :: ts, _, _, _, .nil, _, h, _ => by have := h 0 (by simp); simp at this
  | v :: vs, t :: ts, _, _, _, .no r, _, _, h => by have := h 0 (by simp); simp at this
  | v :: vs, t :: ts, _, _, _, .so h0 r s1 s2 d, hl, h1, h2 => by
    have e1 := h1 0 (by simp)
    have e2 := h2 0 (by simp)
    simp at e1 e2
    subst e1
    subst e2
    exact .cons h0 (Sl.front r (by simpa using hl) (fun k hk => by simpa using h1 (k + 1) (by simpa using hk)) fun k hk => by simpa using h2 (k + 1) (by simpa using hk)) s1 s2 d
theorem OwA.len2 {F H : Hp} {vs : List V} {ts : List T} {S : Ad} (h : OwA C F H vs ts S) : vs.length = ts.length := OwA.len h
end
section
variable {P : Program} {w : World} {K : PySem.W.Frag} {mg : Str → Option Value} {base : Heap} {C : VD.Ctx} {ι : Type} {args args' : ι → List T} {res : ι → T} {pre : ι → Prop}
/-- behind the body: the parameters' slots hold what is promised -/
def endT (np : Nat) (ts : List T) (s : SD) : Prop := ∀ k : Nat, k < np → s[k]? = (ts.map some)[k]?
theorem fnT {x qual : Str} {st : Stmt} {f : Addr} {fd : FuncData} {N ps : List Str} {k : Nat} (D : Fun K x qual st f fd) (S : FnScope N ps (defScope st)) (ha : ∀ x, (args x).length = ps.length) (ha' : ∀ x, (args' x).length = ps.length)
    (body : ∀ (cdv : Value) (A : Around) (outer : List Env) (s : Shared) (H : Hp) (E : XK), Room k (A.deeper (envOfC qual (defScope st) s.heap.objs.size f cdv)) →
      ∃ t, PSs (cxOf CX0 P w K mg base N qual (defScope st) f cdv A outer s H E).nox (defBody st) t ∧
        ∀ x, pre x → Ex C (List.range ps.length) t ((args x).map some ++ List.replicate (N.length - ps.length) none) (fun s' => res x = .fz .non ∧ endT ps.length (args' x) s') (fun t' s' => t' = res x ∧ endT ps.length (args' x) s') bot bot) :
    FnOk P w K mg base CX0 (k + 1) f fd ps (spT C args args' res pre) := by
  refine D.ok S (fun vs H Q E h => ?_) fun cdv A outer s H vs Q E hr h => ?_
  · obtain ⟨F, S', x, _, o, _⟩ := h
    rw [o.len2, ha x]
  · obtain ⟨t, h1, h2⟩ := body cdv A outer s H E hr
    refine ⟨t, h1, ?_⟩
    obtain ⟨F, Sx, x, w0, o, hp, kk⟩ := h
    have hvl : vs.length = ps.length := o.len2.trans (ha x)
    have e : L2.start N vs = vs.map some ++ List.replicate (N.length - ps.length) none := by
      unfold L2.start
      rw [hvl]
    rw [e]
    have par : ∀ {σ' : L2.St}, Pin (List.range ps.length) (vs.map some ++ List.replicate (N.length - ps.length) none) σ' → ∀ k : Nat, k < vs.length → σ'[k]? = (vs.map some)[k]? := fun pn k hk => by
      rw [pn k (by simpa [hvl] using hk), List.getElem?_append_left (by simpa using hk)]
    refine h2 x hp F Sx _ H _ w0 (Sl.startT (S := Sx) o) ?_ ?_ ?_ ?_
    · intro σ' F' S' H' s' ⟨hr, he⟩ st l pn
      have o' := Sl.front (vs := vs) (ts := args' x) l (by rw [hvl, ha']) (par pn) (fun k hk => he k (by rw [← hvl]; exact hk))
      exact kk .non F' no S' H' (st.sub fun a z => z.elim False.elim id) o' (by rw [hr]; exact .fz .non) fun _ z => z.elim
    · intro v F' Z S' H' σ' t' s' ⟨hr, he⟩ st ov dj l pn
      subst hr
      have o' := Sl.front (vs := vs) (ts := args' x) l (by rw [hvl, ha']) (par pn) (fun k hk => he k (by rw [← hvl]; exact hk))
      exact kk v F' Z S' H' st o' ov dj
    · intro σ' F' S' H' s' z
      exact z.elim
    · intro σ' F' S' H' s' z
      exact z.elim
end
end VD
set_option maxRecDepth 100000
set_option maxHeartbeats 4000000
namespace VD
open PySem PySem.Spec PyProof.Rows L2
/-! ### isinstance -/
structure ClsI (C : VD.Ctx) (c : Nat) : Prop where
  cl : Cls C.K (C.cls c)
  ha : PySem.W.findIn C.K (.ref (C.cls c)) "__class__" = some (some (.builtin "object.__class__"))
  hn : PySem.W.specialIn C.K (.builtin "object.__class__") "__get__" = some (some (.builtin "getset_descriptor.__get__"))
  htk : PySem.W.takesIn C.K (.builtin "object.__class__") = some true
  hm : PySem.W.mroIn C.K (C.cls c) (.type "object") = some true
/-- the class facts of the instances within -/
def D.top (C : VD.Ctx) : D → Prop
  | .ins c _ => ClsI C c
  | _ => True
theorem Rp.ty {C : VD.Ctx} {F H : Hp} (w : Same F H) {v : V} {d : D} (h : Rp C F v d) (k : d.top C) : TyX C.K H v (tyD C d) := by
  cases h with
  | non => exact .base .non
  | bl b => exact .base (.bl b)
  | int n => exact .base (.int n)
  | str x => exact .base (.str x)
  | tup h r =>
    rcases Same.sqT w h with (h | ⟨o, h⟩) | ⟨o, its, n, hk, hc, _⟩
    · exact .base (.tup h)
    · exact .fTuple h
    · exact .kTuple hk hc
  | lst h r =>
    rcases w.seq h with (h | ⟨o, h⟩) | ⟨o, its, n, hk, hc, _⟩
    · exact .base (.lst h)
    · exact .base (.frz h)
    · exact .kList hk hc
  | ins h hk r => exact .base (.ins (w _ _ h) k.cl k.ha k.hn k.htk k.hm)
section
variable {C : VD.Ctx} {pin ws : List Nat} {p q : Bool} {te ta tb : TE} {tt : TT} {t1 tbd : TS} {tr : TA} {wi wj : TI} {g : TG} {s s1 s2 : SD} {ds l m : List D} {d e d1 d2 : D} {t u : T} {ts us : List T} {i j : Nat} {b : Bool} {N B Cn : SD → Prop} {R : T → SD → Prop} {k : T → SD}
theorem ev_isi {c : V} {u : Value} (h : Ev C p te s (.fz d) s1) (k : d.top C) (hc : ClsV c u) (e : PySem.W.kitOne C.K (tyD C d) u = some b) : Ev C p (tCB (rIsi C.K) (tCons te (tCons (tC c) tNil))) s (.fz (.bl b)) s1 := Ev.mk fun F S σ H Q w l q => h.use w l fun v F1 S1 H1 st sm r l1 =>
  ⟨v, c, tyD C d, u, b, rfl, hc, r.ty st.wf.fh k, e, q _ F1 S1 H1 st sm (.bl b) l1⟩
/-! ### walks of a list or a tuple -/
theorem pi_or {X : Cx} {tg e : Expr} (h1 : PI X tg e wi) (h2 : PI X tg e wj) : PI X tg e (fun σ H R => wi σ H R ∨ wj σ H R) := ⟨fun pins s σ H R I h => h.elim (h1.run pins s σ H R I) (h2.run pins s σ H R I)⟩
theorem ei_orL (h : EvI C p wi s ds s1) : EvI C p (fun σ H R => wi σ H R ∨ wj σ H R) s ds s1 := fun F S σ H R w l k => .inl (h F S σ H R w l k)
theorem ei_orR (h : EvI C p wj s ds s1) : EvI C p (fun σ H R => wi σ H R ∨ wj σ H R) s ds s1 := fun F S σ H R w l k => .inr (h F S σ H R w l k)
/-! ### list + list -/
def rCatS (K : PySem.W.Frag) : R2 := fun x y H Q => ∃ (a b : Addr) (xs ys : List V), x = .ref a ∧ y = .ref b ∧ SqL K H a xs ∧ SqL K H b ys ∧ xs.length + ys.length ≤ sizeLine ∧ ∀ p, H p = none → Q (.ref p) (upd H p (.lst (xs ++ ys)))
theorem op_catS {X : Cx} : OpR X (binaryOp .Add) (rCatS X.K) := by
  intro pins s σ H x y v u Q I rx ry h
  obtain ⟨a, b, xs, ys, rfl, rfl, ha, hb, hz, q⟩ := h
  obtain rfl : v = Value.ref a := rx
  obtain rfl : u = Value.ref b := ry
  obtain ⟨us, r1, p1, _⟩ := I.list ha
  obtain ⟨ws, r2, p2, _⟩ := I.list hb
  have hl := p1.isList
  have hl2 := p2.isList
  obtain ⟨⟨cl, d1, da, sl⟩, ho, hc, n, hd⟩ := id hl
  obtain ⟨⟨cl2, d2, da2, sl2⟩, ho2, hc2, n2, hd2⟩ := id hl2
  simp only at hc hd hc2 hd2
  subst hc hd hc2 hd2
  have e : us.toArray ++ ws.toArray = (us ++ ws).toArray := by
    simp
  have sz : us.toArray.size + ws.toArray.size ≤ sizeLine := by
    rw [List.size_toArray, List.size_toArray, ← r1.length, ← r2.length]
    exact hz
  refine concat_meets ⟨_, ho, rfl⟩ ⟨_, ho2, rfl⟩ noFill_list_add seq_list_add PySem.F.slot_list_add PySem.F.entry_list_add (PySem.F.args_list_add_2 _ _)
    (list_addW a b us.toArray ws.toArray n n2 d1 d2 sl sl2 sz) ⟨ho, ho2, ?_⟩
  rw [e]
  exact ⟨.ref _, _, I.lnew (t' := s.toks) (r1.append r2) (by rw [List.length_append]; exact hz), rfl, q _ I.fresh⟩
/-- a list to be read: its items, the list itself no longer needed -/
def EvL (C : VD.Ctx) (p : Bool) (te : TE) (s : SD) (ts : List T) (s' : SD) : Prop := ∀ (F : Hp) (S : Ad) (σ : L2.St) (H : Hp) (Q : VK), Wf F H S → Sl C F H σ s S →
  (∀ a vs F' (Z S' : Ad) H', Stp F H S F' H' (fun a => Z a ∨ S' a) → (p = true → Same H H') → (∀ H2, Same F' H2 → (∀ x, Z x → H2 x = H' x) → SqL C.K H2 a vs) → OwA C F' H' vs ts Z → (∀ a, Z a → S' a → False) → Sl C F' H' σ s' S' → Q (.ref a) H') → te σ H Q
theorem el_fz (h : Ev C p te s (.fz (.lst l)) s1) : EvL C p te s (l.map .fz) s1 := fun F S σ H Q w lk k => h.use w lk fun v F1 S1 H1 st sm r l1 => by
  cases r with
  | lst h r => exact k _ _ F1 no S1 H1 (st.sub fun a z => z.elim False.elim id) sm (fun H2 e _ => e.seq h) (.ofRp r) (fun _ z => z.elim) l1
theorem el_ol (h : Ev C p te s (.ol ts) s1) : EvL C p te s ts s1 := fun F S σ H Q w lk k => h F S σ H Q w lk fun v F1 Z S1 H1 st sm o dj l1 => by
  cases o with
  | @ol a vs _ _ S3 ho hp hs r => exact k a vs F1 Z S1 H1 st sm (fun H2 _ e => SqL.of ((e a hp).trans ho)) (r.wk fun x z => (hs x z).1) dj l1
theorem OwA.app {F H : Hp} {vs ws : List V} {ts us : List T} {Z Y : Ad} (a : OwA C F H vs ts Z) (b : OwA C F H ws us Y) (dj : ∀ x, Z x → Y x → False) : OwA C F H (vs ++ ws) (ts ++ us) (fun x => Z x ∨ Y x) := by
  induction vs generalizing ts Z with
  | nil =>
    cases a
    exact b.wk fun _ z => .inr z
  | cons v vs ih =>
    cases a with
    | cons h r s1 s2 d => exact .cons h (ih r fun x y z => dj x (s2 x y) z) (fun x z => .inl (s1 x z)) (fun x z => z.elim (fun z => .inl (s2 x z)) .inr) fun x y z => z.elim (d x y) fun z => dj x (s1 x y) z
theorem ev_newL {F H : Hp} {S Z : Ad} {vs : List V} {σ : L2.St} {Q : VK} (w : Wf F H (fun a => Z a ∨ S a)) (o : OwA C F H vs ts Z) (dj : ∀ a, Z a → S a → False) (l : Sl C F H σ s S)
    (k : ∀ v F' (Y S' : Ad) H', Stp F H (fun a => Z a ∨ S a) F' H' (fun a => Y a ∨ S' a) → Same H H' → Ow C F' H' v (.ol ts) Y → (∀ a, Y a → S' a → False) → Sl C F' H' σ s S' → Q v H') : ∀ p, H p = none → Q (.ref p) (upd H p (.lst vs)) := fun a ha => by
  have st2 := Stp.newO (o := .lst vs) w ha
  have own := Same.own w (Same.newO (o := .lst vs) ha)
  have na : ∀ x, (Z x ∨ S x) → x ≠ a := fun x z e => w.ex x z (by rw [e]; exact ha)
  refine k _ F (fun x => x = a ∨ Z x) S _ (st2.sub fun x z => ?_) (Same.newO ha) ?_ ?_ (l.frame (Same.refl _) fun x z => own x (.inr z))
  · rcases z with (z | z) | z
    · exact .inl z
    · exact .inr (.inl z)
    · exact .inr (.inr z)
  · exact .ol upd_same (.inl rfl) (fun x z => ⟨.inr z, na x (.inl z)⟩) (o.frame (Same.refl _) fun x z => own x (.inl z))
  · intro x y z
    rcases y with y | y
    · exact na x (.inr z) y
    · exact dj x y z
theorem ev_cat (h1 : EvL C p ta s ts s1) (h2 : EvL C q tb s1 us s2) (hl : ts.length + us.length ≤ 100000 := by decide) : Ev C (p && q) (tOp (rCatS C.K) ta tb) s (.ol (ts ++ us)) s2 := fun F S σ H Q w l k => h1 F S σ H _ w l fun a vs F1 Z1 S1 H1 st1 sm1 q1 o1 dj1 l1 =>
  h2 F1 S1 σ H1 _ (st1.wf.sub fun a z => .inr z) l1 fun b ws F2 Z2 S2 H2 st2 sm2 q2 o2 dj2 l2 => by
    obtain ⟨st, same, dj⟩ := st1.seq st2 dj1
    have oo := OwA.app (o1.frame st2.ff same) o2 fun x y z => dj x y (.inl z)
    refine ⟨a, b, vs, ws, rfl, rfl, q1 H2 (st2.ff.trans st2.wf.fh) same, q2 H2 st2.wf.fh fun _ _ => rfl, by rw [o1.len, o2.len]; exact Nat.le_trans hl (by decide), ?_⟩
    have st' := st.sub (S2 := fun x => (Z1 x ∨ Z2 x) ∨ S2 x) fun x z => by
      rcases z with (z | z) | z
      · exact .inl z
      · exact .inr (.inl z)
      · exact .inr (.inr z)
    refine ev_newL (s := s2) st'.wf oo (fun x y z => y.elim (fun y => dj x y (.inr z)) fun y => dj2 x y z) l2 fun v F' Y S' H' st3 sm3 ov djv l3 => ?_
    exact k v F' Y S' H' (st'.trans st3) (fun z => ((sm1 (pq1 z)).trans (sm2 (pq2 z))).trans sm3) ov djv l3
/-! ### slices of lists -/
def PoD (C : VD.Ctx) (p : Bool) (to : TO) (s : SD) (o : Option Int) (s' : SD) : Prop := ∀ (F : Hp) (S : Ad) (σ : L2.St) (H : Hp) (Q : Option Int → Hp → Prop), Wf F H S → Sl C F H σ s S →
  (∀ F' (S' : Ad) H', Stp F H S F' H' S' → (p = true → Same H H') → Sl C F' H' σ s' S' → Q o H') → to σ H Q
theorem po_no : PoD C true tNoPart s none s := fun F S σ H Q w l k => k F S H (Stp.refl w) (fun _ => Same.refl H) l
theorem po_so {n : Int} (h : Ev C p te s (.fz (.int n)) s1) : PoD C p (tPart te) s (some n) s1 := fun F S σ H Q w l k => h.use w l fun v F1 S1 H1 st sm r l1 => ⟨n, r.intv, k F1 S1 H1 st sm l1⟩
def cutD {α : Type} (xs : List α) (lo hi : Option Int) : List α := (xs.drop (HT.sIx xs.length 0 lo)).take (HT.sIx xs.length xs.length hi - HT.sIx xs.length 0 lo)
theorem RpA.take {F : Hp} : ∀ {vs : List V} {l : List D} (n : Nat), RpA C F vs l → RpA C F (vs.take n) (l.take n)
  | _, _, 0, _ => .nil
  | _, _, _ + 1, .nil => .nil
  | _, _, n + 1, .cons h r => .cons h (RpA.take n r)
theorem RpA.drop {F : Hp} : ∀ {vs : List V} {l : List D} (n : Nat), RpA C F vs l → RpA C F (vs.drop n) (l.drop n)
  | _, _, 0, r => r
  | _, _, _ + 1, .nil => .nil
  | _, _, n + 1, .cons _ r => RpA.drop n r
theorem RpA.cut {F : Hp} {vs : List V} {l : List D} (r : RpA C F vs l) (lo hi : Option Int) : RpA C F (cutV vs lo hi) (cutD l lo hi) := by
  unfold cutV cutD
  rw [r.len]
  exact (r.drop _).take _
/-- xs[lo:hi], the items frozen -/
theorem ev_slice {p' p'' : Bool} {tl th : TO} {lo hi : Option Int} {s3 : SD} (h : Ev C p te s (.fz (.lst l)) s1) (h1 : PoD C p' tl s1 lo s2) (h2 : PoD C p'' th s2 hi s3) : Ev C (p && (p' && p'')) (tSl (rSlL C.K) te tl th) s (.ol ((cutD l lo hi).map .fz)) s3 := fun F S σ H Q w lk k => h.use w lk fun v F1 S1 H1 st1 sm1 r1 l1 =>
  h1 F1 S1 σ H1 _ st1.wf l1 fun F2 S2 H2 st2 sm2 l2 => h2 F2 S2 σ H2 _ st2.wf l2 fun F3 S3 H3 st3 sm3 l3 => by
    cases r1 with
    | @lst a vs _ hs ra =>
      have st := (st1.trans st2).trans st3
      refine ⟨a, vs, rfl, st3.wf.fh.seq ((st2.ff.trans st3.ff).seq hs), ?_⟩
      refine ev_newL (ts := (cutD l lo hi).map .fz) (Z := no) (S := S3) (s := s3) (st.wf.sub fun a z => z.elim False.elim id) (.ofRp ((RpA.cut ra lo hi).mono (st2.ff.trans st3.ff))) (fun _ z => z.elim) l3 fun v F' Y S' H' st4 sm4 ov djv l4 => ?_
      exact k v F' Y S' H' ((st.sub fun a z => z.elim False.elim id).trans st4) (fun z => (((sm1 (pq1 z)).trans (sm2 (pq1 (pq2 z)))).trans (sm3 (pq2 (pq2 z)))).trans sm4) ov djv l4
/-! ### tuples of what is owned -/
theorem ev_tupO (h : EvA C p tr s ts s1) (hl : ts.length ≤ 100000 := by decide) : Ev C p (tTup tr) s (.ot ts) s1 := fun F S σ H Q w l k => h F S σ H _ w l fun vs F1 Z S1 H1 st1 sm1 o1 dj1 l1 =>
  ⟨by rw [o1.len]; exact Nat.le_trans hl (by decide), fun a ha => by
    have st2 := Stp.newO (o := .tup vs) st1.wf ha
    have own := Same.own st1.wf (Same.newO (o := .tup vs) ha)
    have na : ∀ x, (Z x ∨ S1 x) → x ≠ a := fun x z e => st1.wf.ex x z (by rw [e]; exact ha)
    refine k _ F1 (fun x => x = a ∨ Z x) S1 _ ((st1.trans st2).sub fun x z => ?_) (fun z => (sm1 z).trans (Same.newO ha)) ?_ ?_ (l1.frame (Same.refl _) fun x z => own x (.inr z))
    · rcases z with (z | z) | z
      · exact .inl z
      · exact .inr (.inl z)
      · exact .inr (.inr z)
    · exact .ot upd_same (.inl rfl) (fun x z => ⟨.inr z, na x (.inl z)⟩) (o1.frame (Same.refl _) fun x z => own x (.inl z))
    · intro x y z
      rcases y with y | y
      · exact na x (.inr z) y
      · exact dj1 x y z⟩
/-- a, b, c = e1, e2, e3 -/
theorem ex_par3 {i j n : Nat} {v : T} (h : EvA C p tr s [t, u, v] s1) (hn : N (((s1.set i (some t)).set j (some u)).set n (some v))) (hi : i ∉ pin := by decide) (hj : j ∉ pin := by decide) (hm : n ∉ pin := by decide) : Ex C pin (tPar3 i j n tr) s N R B Cn := fun F S σ H E w l nx _ _ _ => h F S σ H _ w l fun vs F1 Z S1 H1 st sm o dj l1 => by
  cases o with
  | @cons v1 _ vs _ _ Z1 Z2 h0 r s1' s2' d =>
    cases r with
    | @cons v2 _ vs2 _ _ Z3 Z4 h2 r2 s3' s4' d2 =>
      cases r2 with
      | @cons v3 _ vs3 _ _ Z5 Z6 h3 r3 s5' s6' d3 =>
        cases r3
        refine ⟨v1, v2, v3, rfl, nx _ F1 _ H1 _ hn (st.sub (S2 := fun a => Z5 a ∨ (Z3 a ∨ (Z1 a ∨ S1 a))) fun a z => ?_) (Sl.put h3 n (Sl.put h2 j (Sl.put h0 i l1 fun a x y => dj a (s1' a x) y) ?_) ?_) (((Pin.set hi).trans (Pin.set hj)).trans (Pin.set hm))⟩
        · rcases z with z | z | z | z
          · exact .inl (s2' a (s4' a (s5' a z)))
          · exact .inl (s2' a (s3' a z))
          · exact .inl (s1' a z)
          · exact .inr z
        · intro a x y
          rcases y with y | y
          · exact d a y (s3' a x)
          · exact dj a (s2' a (s3' a x)) y
        · intro a x y
          rcases y with y | y | y
          · exact d2 a y (s5' a x)
          · exact d a y (s4' a (s5' a x))
          · exact dj a (s2' a (s4' a (s5' a x))) y
/-- a, b, c = t, a tuple of owned things -/
theorem ex_unp3 {i j n : Nat} {v : T} (h : Ev C p te s (.ot [t, u, v]) s1) (hn : N (((s1.set i (some t)).set j (some u)).set n (some v))) (hi : i ∉ pin := by decide) (hj : j ∉ pin := by decide) (hm : n ∉ pin := by decide) : Ex C pin (tAsg te (gTup C.K 3 (gCons (gName i) (gCons (gName j) (gCons (gName n) gNil))))) s N R B Cn := fun F S σ H E w l nx _ _ _ => h F S σ H _ w l fun x F1 Z S1 H1 st sm o dj l1 => by
  cases o with
  | @ot a vs _ _ Z0 ho hp hs r =>
  cases r with
  | @cons v1 _ vs _ _ Z1 Z2 h0 r s1' s2' d =>
    cases r with
    | @cons v2 _ vs2 _ _ Z3 Z4 h2 r2 s3' s4' d2 =>
      cases r2 with
      | @cons v3 _ vs3 _ _ Z5 Z6 h3 r3 s5' s6' d3 =>
        cases r3
        refine ⟨a, [v1, v2, v3], rfl, SqT.of ho, rfl, v1, _, rfl, v2, _, rfl, v3, _, rfl, rfl, nx _ F1 _ H1 _ hn (st.sub (S2 := fun a => Z5 a ∨ (Z3 a ∨ (Z1 a ∨ S1 a))) fun a z => ?_) (Sl.put h3 n (Sl.put h2 j (Sl.put h0 i l1 fun a x y => dj a (hs a (s1' a x)).1 y) ?_) ?_) (((Pin.set hi).trans (Pin.set hj)).trans (Pin.set hm))⟩
        · rcases z with z | z | z | z
          · exact .inl (hs a (s2' a (s4' a (s5' a z)))).1
          · exact .inl (hs a (s2' a (s3' a z))).1
          · exact .inl (hs a (s1' a z)).1
          · exact .inr z
        · intro a x y
          rcases y with y | y
          · exact d a y (s3' a x)
          · exact dj a (hs a (s2' a (s3' a x))).1 y
        · intro a x y
          rcases y with y | y | y
          · exact d2 a y (s5' a x)
          · exact d a y (s4' a (s5' a x))
          · exact dj a (hs a (s2' a (s4' a (s5' a x)))).1 y
/-! ### tuple(..), list(..) of a list that stays where it is -/
theorem ev_tupVw (h : Vw C te s (.ol (l.map .fz))) : Ev C true (tCB (rTupOf C.K) (tCons te tNil)) s (.fz (.tup l)) s := Ev.mk fun F S σ H Q w lk k => h F S σ H _ w lk fun v Z o z => by
  cases o with
  | @ol a vs _ _ S3 ho hp hs r =>
    refine ⟨a, vs, rfl, .inl ⟨SqL.of ho, fun b hb => ?_⟩⟩
    have st := Stp.newF (o := .tup vs) w hb
    exact k _ _ S _ st (fun _ => Same.newO hb) (.tup (SqT.of upd_same) ((OwA.rp r).mono st.ff)) (lk.frame st.ff (Same.own w (Same.newO hb)))
theorem ev_listVw (h : Vw C te s (.ol (l.map .fz))) : Ev C true (tCB (rListOf C.K) (tCons te tNil)) s (.ol (l.map .fz)) s := fun F S σ H Q w lk k => h F S σ H _ w lk fun v Z o z => by
  cases o with
  | @ol a vs _ _ S3 ho hp hs r =>
    refine ⟨a, vs, rfl, .inl (SqL.of ho), ?_⟩
    refine ev_newL (ts := l.map .fz) (Z := no) (S := S) (s := s) (w.sub fun a z => z.elim False.elim id) (.ofRp (OwA.rp r)) (fun _ z => z.elim) lk fun v F' Y S' H' st sm ov dj l' => ?_
    exact k v F' Y S' H' (((Stp.refl w).sub fun a z => z.elim False.elim id).trans st) (fun _ => sm) ov dj l'
/-- xs != [] , xs == [] of a list that stays where it is: plain data -/
theorem Vw.freeze {l : List D} (h : Vw C te s (.ol ts)) (hf : FzA C ts l) {F : Hp} {S : Ad} {σ : L2.St} {H : Hp} {Q : VK} (w : Wf F H S) (lk : Sl C F H σ s S) (k : ∀ v G, Same F G → Same G H → Rp C G v (.lst l) → Q v H) : te σ H Q := h F S σ H Q w lk fun v Z o z => by
  have js := join_same (F := F) (H := H) (S := Z) fun a y => w.fr a (z a y)
  refine k v (join F H Z) js (fun a o e => ?_) (Ow.frz js (fun a y => join_in y) o (.ol hf))
  by_cases q : Z a
  · rw [join_in q] at e; exact e
  · rw [join_out q] at e; exact w.fh a o e
theorem ev_neNil {Pr : D → D → Prop} {l : List D} (h : Vw C te s (.ol ts)) (hf : FzA C ts l) (hp : Pr (.lst l) (.lst [])) : Ev C true (tOp (rNeV C Pr) te (tLst tNil)) s (.fz (.bl (!D.beq (.lst l) (.lst [])))) s := Ev.mk fun F S σ H Q w lk k => Vw.freeze h hf w lk fun v G e1 e2 r =>
  ⟨by show 0 ≤ sizeLine; exact Nat.zero_le _, fun a ha => by
    have sm := Same.newO (o := .lst []) ha
    have smG : Same G (upd G a (.lst [])) := Same.upd2 (fun x o e => e2 x o e) ha
    refine ⟨upd G a (.lst []), .lst l, .lst [], fun x o e => ?_, r.mono smG, .lst (SqL.of upd_same) .nil, hp, fun H' ex => k _ F S H' (Stp.grow w (sm.trans ex)) (fun _ => sm.trans ex) (.bl _) (lk.frame (Same.refl F) (Same.own w (sm.trans ex)))⟩
    by_cases q : x = a
    · rw [q, upd_same] at e ⊢; exact e
    · rw [upd_ne q] at e ⊢; exact e2 x o e⟩
/-! ### a comprehension over a list that a slot owns: the items are lent, and only read -/
/-- the slots while the i-th item t (at x) is lent to the slot j -/
def lent (s : SD) (kk j : Nat) (ts : List T) (i : Nat) (x : V) (t : T) : SD := (s.set kk (some (.ol (ts.set i (.raw x))))).set j (some t)
theorem ev_lcO {vs : List Nat} {kk j : Nat} (f : Nat → Bool) (v : Nat → T) (hk : s[kk]? = some (some (.ol ts))) (hjk : j ≠ kk) (hjv : j ∈ vs) (hkv : kk ∉ vs) (hw : wipeS s vs = s) (hsj : s[j]? = some none) (hl : ts.length ≤ 100000)
    (turn : ∀ i t x, ts[i]? = some t → EvT C true tt (lent s kk j ts i x t) (f i) (lent s kk j ts i x t) ∧ (f i = true → Ev C false te (lent s kk j ts i x t) (v i) (lent s kk j ts i x t))) :
    Ev C false (tLc (iList C.K (tVar kk)) (gName j) tt te vs) s (.ol (gath ts.length f v)) s := fun F S σ H Q w l k => by
  obtain ⟨v0, Z0, e0, o0, _⟩ := l.get hk
  cases o0 with
  | @ol a vs0 _ _ S3 ho0 _ _ r0 =>
  refine ⟨.ref a, e0, a, rfl, ⟨vs0, SqL.of ho0⟩, fun Da hD => ?_⟩
  have stD := Stp.newO (o := .lst []) w hD
  have nD : ∀ a, S a → a ≠ Da := fun a z e => w.ex a z (by rw [e]; exact hD)
  have l1' : Sl C F (upd H Da (.lst [])) σ s S := l.frame (Same.refl _) (Same.own w (Same.newO hD))
  have ek : (L2.wipe σ vs)[kk]? = some (some (.ref a)) := (wipe_get hkv).trans e0
  refine ⟨fun i m H' => m = ts.length - i ∧ i ≤ ts.length ∧ ∃ F' Zc S' vs', Stp F H S F' H' (fun a => (a = Da ∨ Zc a) ∨ S' a) ∧ H' Da = some (.lst vs') ∧ OwA C F' H' vs' (gath i f v) Zc ∧
    (∀ a, Zc a → a ≠ Da) ∧ (∀ a, (a = Da ∨ Zc a) → S' a → False) ∧ Sl C F' H' (L2.wipe σ vs) s S', ⟨ts.length, by simp, Nat.zero_le _, F, no, S, [], ?_, upd_same, .nil, fun _ z => z.elim, fun a y z => ?_, ?_⟩, ?_⟩
  · exact stD.sub fun a z => by
      rcases z with (z | z) | z
      · exact .inl z
      · exact z.elim
      · exact .inr z
  · rcases y with y | y
    · exact nD a z y
    · exact y.elim
  · have := l1'.wipe vs
    rw [hw] at this
    exact this
  rintro i m H' ⟨rfl, hi, F', Zc, S', vs', st', hDa, oc, nc, dj, l'⟩
  obtain ⟨v1, S1, S2, e1, o1, a1, a2, djk, l2, put⟩ := l'.focus kk hk
  rw [ek] at e1
  cases e1
  cases o1 with
  | @ol _ vsk _ _ S4 ho hp hs ra =>
  by_cases hlt : i < ts.length
  · refine .inr ⟨⟨vsk, vsk[i]'(by rw [ra.len]; omega), SqL.of ho, by simp [show i < vsk.length by rw [ra.len]; omega]⟩, _, fun _ z => z, ?_⟩
    intro x H2 y
    obtain ⟨rfl, hx⟩ := y
    have hx := hx vsk (SqL.of ho)
    have hti : ts[i]? = some ts[i] := List.getElem?_eq_getElem hlt
    obtain ⟨vi, Z1, Z2, ev, oi, b1, b2, d, pt⟩ := OwA.focus i ra hti
    rw [hx] at ev
    cases ev
    obtain ⟨ht, he⟩ := turn i ts[i] x hti
    have ra' := pt F' H2 (.raw x) no (Same.refl F') (fun _ _ => rfl) .raw (fun _ z => z.elim) Z2 (fun _ z => z.elim) (fun _ z => z)
    have l3 := put F' H2 (.ol (ts.set i (.raw x))) (fun z => z = a ∨ Z2 z) (Same.refl F') (fun _ _ => rfl) (.ol ho (.inl rfl) (fun z hz => ⟨.inr hz, (hs z (b2 z hz)).2⟩) ra') (fun z hz hz2 => by
      rcases hz with hz | hz
      · exact djk z (hz ▸ hp) hz2
      · exact djk z (hs z (b2 z hz)).1 hz2) (fun z => (z = a ∨ Z2 z) ∨ S2 z) (fun z hz => .inl hz) (fun z hz => .inr hz)
    have l4 := Sl.put (Z := Z1) oi j l3 fun z hz hz2 => by
      rcases hz2 with (hz2 | hz2) | hz2
      · exact (hs z (b1 z hz)).2 hz2
      · exact d z hz hz2
      · exact djk z (hs z (b1 z hz)).1 hz2
    have inS : ∀ z, (Z1 z ∨ ((z = a ∨ Z2 z) ∨ S2 z)) → S' z := fun z hz => by
      rcases hz with hz | (hz | hz) | hz
      · exact a1 z (hs z (b1 z hz)).1
      · exact a1 z (hz ▸ hp)
      · exact a1 z (hs z (b2 z hz)).1
      · exact a2 z hz
    have w4 : Wf F' H2 (fun z => Z1 z ∨ ((z = a ∨ Z2 z) ∨ S2 z)) := st'.wf.sub fun z hz => .inr (inS z hz)
    show L2.wipe ((L2.wipe σ vs).set j (some x)) vs = L2.wipe σ vs ∧ _
    have hwp : L2.wipe ((L2.wipe σ vs).set j (some x)) vs = L2.wipe σ vs := by
      refine wipe_wipe (by rw [List.length_set, wipe_length]) fun q hq => ?_
      rw [List.getElem?_set_ne (fun e => hq (by rw [← e]; exact hjv)), wipe_get hq]
    refine ⟨hwp, ?_⟩
    -- the test
    refine ht F' _ _ H2 _ w4 l4 fun F3 S3' H3 st3 sm3 l5 => ?_
    have w2 : Wf F' H2 (fun z => (Z1 z ∨ ((z = a ∨ Z2 z) ∨ S2 z)) ∨ (z = Da ∨ Zc z)) := st'.wf.sub fun z hz => hz.elim (fun z' => .inr (inS z z')) .inl
    obtain ⟨st3', same3, dj3⟩ := Stp.beside w2 (fun z x y => dj z y (inS z x)) st3
    have st23 := (st'.sub (S2 := fun z => (Z1 z ∨ ((z = a ∨ Z2 z) ∨ S2 z)) ∨ (z = Da ∨ Zc z)) fun z hz => hz.elim (fun z' => .inr (inS z z')) .inl).trans st3'
    have hDa3 : H3 Da = some (.lst vs') := (same3 Da (.inl rfl)).trans hDa
    have oc3 := oc.frame st3.ff fun a z => same3 a (.inr z)
    -- the item given back
    have back : ∀ {F5 : Hp} {S5 : Ad} {H5 : Hp}, Sl C F5 H5 ((L2.wipe σ vs).set j (some x)) (lent s kk j ts i x ts[i]) S5 → Sl C F5 H5 (L2.wipe σ vs) s S5 := fun {F5 S5 H5} l5 => by
      have jlen : j < s.length := (List.getElem?_eq_some_iff.mp hsj).1
      have hj4 : (lent s kk j ts i x ts[i])[j]? = some (some ts[i]) := by
        unfold lent
        rw [List.getElem?_set_self (by simpa using jlen)]
      obtain ⟨v6, T1, T2, e6, o6, c1, c2, dj6, l6, _⟩ := l5.focus j hj4
      have hjσ : j < (L2.wipe σ vs).length := by
        have := l'.len
        omega
      rw [List.getElem?_set_self hjσ] at e6
      cases e6
      have klen : kk < s.length := (List.getElem?_eq_some_iff.mp hk).1
      have hk4 : ((lent s kk j ts i x ts[i]).set j none)[kk]? = some (some (.ol (ts.set i (.raw x)))) := by
        unfold lent
        rw [List.getElem?_set_ne hjk, List.getElem?_set_ne hjk, List.getElem?_set_self klen]
      obtain ⟨v8, U1, U2, e8, o8, f1, f2, dj8, l8, put8⟩ := l6.focus kk hk4
      cases o8 with
      | @ol a8 vs8 _ _ S8 ho8 hp8 hs8 ra8 =>
      have h3 : (ts.set i (.raw x))[i]? = some (.raw x) := List.getElem?_set_self hlt
      obtain ⟨v9, Y1, Y2, ev9, oi9, g1, g2, d9, pt9⟩ := OwA.focus i ra8 h3
      cases oi9
      have ra9 := pt9 F5 H5 ts[i] T1 (Same.refl F5) (fun _ _ => rfl) o6 (fun z hz hz2 => dj6 z hz (f1 z (hs8 z (g2 z hz2)).1)) (fun z => T1 z ∨ Y2 z) (fun z hz => .inl hz) (fun z hz => .inr hz)
      rw [List.set_set, List.set_getElem_self] at ra9
      have l9 := put8 F5 H5 (.ol ts) (fun z => z = a8 ∨ (T1 z ∨ Y2 z)) (Same.refl F5) (fun _ _ => rfl) (.ol ho8 (.inl rfl) (fun z hz => ⟨.inr hz, by
        rcases hz with hz | hz
        · exact fun q => dj6 z hz (q ▸ f1 a8 hp8)
        · exact (hs8 z (g2 z hz)).2⟩) ra9) (fun z hz hz2 => by
        rcases hz with hz | hz | hz
        · exact dj8 z (hz ▸ hp8) hz2
        · exact dj6 z hz (f2 z hz2)
        · exact dj8 z (hs8 z (g2 z hz)).1 hz2) S5 (fun z hz => by
        rcases hz with hz | hz | hz
        · exact c2 z (f1 z (hz ▸ hp8))
        · exact c1 z hz
        · exact c2 z (f1 z (hs8 z (g2 z hz)).1)) (fun z hz => c2 z (f2 z hz))
      have es : ((lent s kk j ts i x ts[i]).set j none).set kk (some (.ol ts)) = s := by
        unfold lent
        apply List.ext_getElem?
        intro q
        by_cases q1 : q = kk
        · subst q1
          rw [List.getElem?_set_self (by simpa using klen), hk]
        · rw [List.getElem?_set_ne (fun e => q1 e.symm)]
          by_cases q2 : q = j
          · subst q2
            rw [List.getElem?_set_self (by simpa using jlen), hsj]
          · rw [List.getElem?_set_ne (fun e => q2 e.symm), List.getElem?_set_ne (fun e => q2 e.symm), List.getElem?_set_ne (fun e => q1 e.symm)]
      rw [es] at l9
      refine Sl.swap l9 (by simp) fun q t hq => ?_
      by_cases q2 : q = j
      · subst q2
        rw [hsj] at hq
        cases hq
      · rw [List.getElem?_set_ne fun e => q2 e.symm]
    cases hf : f i with
    | false =>
      rw [if_neg Bool.false_ne_true]
      exact ⟨ts.length - (i + 1), by omega, rfl, hlt, F3, Zc, S3', vs', st23.sub fun a z => z.elim .inr .inl, hDa3, by rw [gath_no hf]; exact oc3, nc, fun a y z => dj3 a z y, back l5⟩
    | true =>
      rw [if_pos rfl]
      refine he hf F3 S3' _ H3 _ st3.wf l5 fun y F4 Z4 S5 H4 st4 sm4 o4 dj4 l6 => ?_
      have w3 : Wf F3 H3 (fun a => S3' a ∨ (a = Da ∨ Zc a)) := st3'.wf
      obtain ⟨st4', same4, dj4'⟩ := Stp.beside w3 dj3 st4
      have hDa4 : H4 Da = some (.lst vs') := (same4 Da (.inl rfl)).trans hDa3
      have oc4 := oc3.frame st4.ff fun a z => same4 a (.inr z)
      refine ⟨vs', hDa4, ?_, ts.length - (i + 1), by omega, rfl, hlt, ?_⟩
      · rw [oc4.len]
        exact Nat.lt_of_le_of_lt (gath_len i f v) (Nat.lt_of_lt_of_le hlt (Nat.le_trans hl (by decide)))
      · have st5 := Stp.put (p := Da) (o := .lst (vs' ++ [y])) st4'.wf (.inr (.inl rfl))
        have off5 : ∀ a, a ≠ Da → upd H4 Da (.lst (vs' ++ [y])) a = H4 a := fun a q => upd_ne q
        refine ⟨F4, fun a => Z4 a ∨ Zc a, S5, vs' ++ [y], ((st23.trans st4').trans st5).sub fun a z => ?_, upd_same, ?_, ?_, ?_, ?_⟩
        · rcases z with (z | z | z) | z
          · exact .inr (.inl z)
          · exact .inl (.inl z)
          · exact .inr (.inr z)
          · exact .inl (.inr z)
        · rw [gath_yes hf]
          have nz : ∀ a, Z4 a → a ≠ Da := fun a z e => dj4' a (.inl z) (.inl e)
          exact (OwA.snoc o4 oc4 fun a x z => dj4' a (.inl x) (.inr z)).frame (Same.refl _) fun a z => off5 a (z.elim (nz a) (nc a))
        · intro a z
          rcases z with z | z
          · exact fun e => dj4' a (.inl z) (.inl e)
          · exact nc a z
        · intro a y z
          rcases y with y | y | y
          · exact dj4' a (.inr z) (.inl y)
          · exact dj4 a y z
          · exact dj4' a (.inr z) (.inr y)
        · exact (back l6).frame (Same.refl _) fun a z => off5 a fun e => dj4' a (.inr z) (.inl e)
  · have e : i = ts.length := by omega
    subst e
    refine .inl ⟨⟨vsk, SqL.of ho, by rw [ra.len]; omega⟩, ?_⟩
    exact k (.ref Da) F' (fun a => a = Da ∨ Zc a) S' H' st' (fun z => by cases z) (.ol hDa (.inl rfl) (fun a z => ⟨.inr z, nc a z⟩) oc) dj (l'.unwipe hw)
end
end VD
set_option maxRecDepth 100000
set_option maxHeartbeats 4000000
namespace VD
open PySem PySem.Spec PyProof.Rows L2
section
variable {C : VD.Ctx} {s s1 : SD} {p q : Bool} {te ta tb : TE} {tr tk : TA} {d : D} {t t' : T} {as : List ArgD} {ι : Type} {args args' : ι → List T} {argsD : ι → List D} {res : ι → T} {pre : ι → Prop} {E : XK} {k : T → SD}
/-- C(e): the one argument a part of what a slot owns, lent -/
theorem ev_makeF {c : Nat} {fs : ι → List (Str × T)} (x : ι) (h : Foc C te s t k) (ha : args x = [.oi c [], t]) (ha' : args' x = [.oi c (fs x), t']) (hp : pre x) (hr : res x = .fz .non) :
    Ev C false (tMake (C.cls c) (spT C args args' res pre) [] E (tCons te tNil)) s (.oi c (fs x)) (k t') := fun F S σ H Q w l kk => h F S σ H _ w l fun v hv a dx hA hd hne => by
  obtain ⟨Z, S2, o, a1, a2, dj, put⟩ := hv F S H w (Same.refl H) l
  have w1 : Wf F H (fun a => Z a ∨ S2 a) := w.sub fun a z => z.elim (a1 a) (a2 a)
  have st1' := (Stp.refl w).sub (S2 := fun a => Z a ∨ S2 a) fun a z => z.elim (a1 a) (a2 a)
  have sta := Stp.newF (o := .own a) w1 hd
  have ha2 : upd H dx (.own a) a = none := by rw [upd_ne (fun e => hne e.symm)]; exact hA
  have stb := Stp.newO (o := .ins (C.cls c) dx []) sta.wf ha2
  have na : ∀ y, (Z y ∨ S2 y) → y ≠ a := fun y z e => w1.ex y z (by rw [e]; exact hA)
  have sm2 : Same H (upd (upd H dx (.own a)) a (.ins (C.cls c) dx [])) := (Same.newO hd).trans (Same.newO ha2)
  have own2 := Same.own w1 sm2
  show spT C args args' res pre (.ref a :: ([v] ++ [])) _ _ E
  have w3 : Wf (upd F dx (.own a)) (upd (upd H dx (.own a)) a (.ins (C.cls c) dx [])) (fun y => (y = a ∨ Z y) ∨ S2 y) := stb.wf.sub fun y z => by
    rcases z with (z | z) | z
    · exact .inl z
    · exact .inr (.inl z)
    · exact .inr (.inr z)
  have st3 : Stp F H S (upd F dx (.own a)) (upd (upd H dx (.own a)) a (.ins (C.cls c) dx [])) (fun y => (y = a ∨ Z y) ∨ S2 y) := ((st1'.trans sta).trans stb).sub fun y z => by
    rcases z with (z | z) | z
    · exact .inl z
    · exact .inr (.inl z)
    · exact .inr (.inr z)
  refine ⟨upd F dx (.own a), (fun y => y = a ∨ Z y), x, w3.sub fun y z => .inl z, ?_, hp, fun u F2 Y Z' H2 st2 o2 ov dj2 => ?_⟩
  · rw [ha]
    exact .cons (S1 := fun y => y = a) (S2 := Z) (.oi (fvs := []) (fs := []) (S1 := no) upd_same rfl rfl (fun _ z => z.elim) .nil) (.cons (S1 := Z) (S2 := no) (o.frame sta.ff fun y z => own2 y (.inl z)) .nil (fun _ z => z) (fun _ z => z.elim) fun _ _ z => z.elim) (fun y z => .inl z) (fun y z => .inr z) fun y e z => na y (.inl z) e
  · rw [hr] at ov
    refine ⟨ov.inv.nonv, ?_⟩
    obtain ⟨st4, same, dj4⟩ := Stp.beside w3 (fun y z z2 => z.elim (fun e => na y (.inr z2) e) fun z => dj y z z2) st2
    rw [ha'] at o2
    cases o2 with
    | @cons _ _ _ _ _ X1 X2 oi' r' s1' s2' d' =>
      cases r' with
      | @cons _ _ _ _ _ X3 X4 oz _ s3' s4' d'' =>
      have l3 := put F2 H2 t' X3 ((sta.ff.trans stb.ff).trans st2.ff) (fun y z => (same y z).trans (own2 y (.inr z))) oz (fun y z z2 => dj4 y (.inr (s2' y (s3' y z))) z2) (fun y => X3 y ∨ S2 y) (fun y z => .inl z) fun y z => .inr z
      refine kk (.ref a) F2 X1 _ H2 ((st3.trans st4).sub fun y z => ?_) (fun z => by cases z) oi' ?_ l3
      · rcases z with z | z | z
        · exact .inl (.inr (s1' y z))
        · exact .inl (.inr (s2' y (s3' y z)))
        · exact .inr z
      · intro y z z2
        rcases z2 with z2 | z2
        · exact d' y z (s3' y z2)
        · exact dj4 y (.inr (s1' y z)) z2
/-- f(k = e) -/
theorem ev_callK (x : ι) (h : EvA C p tk s ((argsD x).map .fz) s1) (hp : pre x) : Ev C p (tCallK (spP C argsD res pre) (fun _ zs => zs) E tNil tk) s (res x) s1 := fun F S σ H Q w l k => h.use w l fun vs F1 S1 H1 st1 sm1 r1 l1 => by
  refine ⟨F1, x, st1.wf.fh, r1, hp, fun v F2 Z H2 st2 o => ?_⟩
  have w1 : Wf F1 H1 (fun a => no a ∨ S1 a) := st1.wf.sub fun a z => z.elim False.elim id
  obtain ⟨st3, same, dj⟩ := Stp.beside w1 (fun _ z => z.elim) st2
  exact k v F2 Z S1 H2 ((st1.sub (S2 := fun a => no a ∨ S1 a) fun a z => z.elim False.elim id).trans st3) (fun z => (sm1 z).trans st2.same) o dj (l1.frame st2.ff same)
end
end VD
set_option maxRecDepth 100000
set_option maxHeartbeats 4000000
namespace VD
open PySem PySem.Spec PyProof.Rows L2
section
variable {X : Cx} {CX : CXT} {k : Nat} {f C : Addr} {fd : FuncData} {ps ks : List Str} {sp : Sp} {E : XK} {x : Str} {p pos : Pos} {kws : List Keyword} {t tk : TA} {g : List Value → List Value → List Value} {gV : List V → List V → List V}
/-- f(k = v, ..), keywords alone -/
theorem pe_callK0 (F : FnOk X.prog X.w X.K X.mg X.base CX k f fd ps sp) (hr : Room k X.A) (hg : Gl X x) (hm : X.mg x = some (.ref f)) (hk : PySem.W.keepIn X.K (.ref f) = true) (hb : KBinds X.K fd ps ks g gV) (hx : Passes CX X E)
    (hkw : PK X kws tk) (hall : (backToKw pos (keywordEach kws X.env)).all (·.1.isSome) = true := by rfl) (hks : (backToKw pos (keywordEach kws X.env)).filterMap (·.1) = ks := by rfl)
    (hdb : (x == ("__debug__" : Str)) = false := by decide)
    (hpl : ((backTo pos (starEach [] X.env)).any (·.1) || (backToKw pos (keywordEach kws X.env)).any (·.1.isNone)) = false := by rfl) :
    PE X (.Call (.Name x p) [] kws pos) (tCallK sp gV E tNil tk) := by
  refine ⟨fun pins s σ H Q I h => ?_⟩
  refine wpAny_Call_Name_kw (ld_glob I hg hm ?_ hdb)
  refine PySem.W.callWith_KW0 (h₀ := X.base) I.ok.mod.kin hk hall ?_ hpl
  refine thn (hkw.run pos pins s σ H _ I h) fun ws s2 ⟨zs, H2, I2, rz, q2⟩ => ⟨I2.kIn, ?_⟩
  rw [hks]
  exact run_fnk (us := []) (vs := []) F hr hb hx I2 .nil rz q2
end
/-! ### C(), a class without an own __init__ -/
structure Mk0 (K : PySem.W.Frag) (C : Addr) : Prop where
  makes : PySem.W.makesIn K C = true
  init : PySem.W.findIn K (.ref C) "__init__" = some (some (.builtin "object.__init__"))
  kp : PySem.W.keepIn K (.ref C) = true
def tMk0 (C : Addr) : TE := fun _ H Q => ∀ x dx, H x = none → H dx = none → dx ≠ x → Q (.ref x) (upd (upd H dx (.own x)) x (.ins C dx []))
section
variable {X : Cx} {C : Addr} {x : Str} {p pos : Pos}
theorem pe_mk0 (M : Mk0 X.K C) (hg : Gl X x) (hm : X.mg x = some (.ref C)) (hdb : (x == ("__debug__" : Str)) = false := by decide) : PE X (.Call (.Name x p) [] [] pos) (tMk0 C) := by
  refine ⟨fun pins s σ H Q I h => ?_⟩
  refine wpAny_Call_Name_kw (ld_glob I hg hm ?_ hdb)
  refine PySem.W.callWith_K0 I.kIn M.kp ?_
  have hq := h (s.heap.objs.size + 1) s.heap.objs.size (I.hok.fresh (Nat.le_succ _)) (I.hok.fresh (Nat.le_refl _)) (Nat.ne_of_lt (Nat.lt_succ_self _))
  have I2 := Inv.made (C := C) I
  obtain ⟨hh, g, d, t, os⟩ := s
  refine wpAny_call (make_map0 (C := C) I.kIn M.makes M.init (fun self => PySem.W.Looks.of_pure (PySem.W.oi_bind self)) ?_)
  have Y := PySem.W.makes_of (M := model X.prog X.w) I.kIn M.makes
  have e1 : ((hh.push PySem.W.emptyDict).push (PySem.W.instObj C hh.objs.size)).get? (hh.objs.size + 1) = some (PySem.W.instObj C hh.objs.size) := by
    have := Heap.get?_push_size (hh.push PySem.W.emptyDict) (o := PySem.W.instObj C hh.objs.size) rfl
    rwa [Heap.size_push] at this
  have t1 : PySem.W.Looks (model X.prog X.w) ((hh.push PySem.W.emptyDict).push (PySem.W.instObj C hh.objs.size)) (typeOf (.ref (hh.objs.size + 1))) (.ref C) := (PySem.W.Looks.ld e1).andThen .now
  have t2 : PySem.W.Looks (model X.prog X.w) ((hh.push PySem.W.emptyDict).push (PySem.W.instObj C hh.objs.size)) (isInstance (.ref (hh.objs.size + 1)) (.type "object")) true := t1.andThen (Y.top.keeps fun b o e => Heap.get?_push_of_some _ (Heap.get?_push_of_some _ e))
  refine codeAny_call_builtin PySem.W.oi_plain PySem.W.entry_oi (@PySem.W.check_slot (model X.prog X.w) _ _ _ "object.__init__" "object" "__init__" (.ref (hh.objs.size + 1)) [] [] _ PySem.W.oi_kind PySem.W.oi_split t2 (PySem.W.oi_args (.ref (hh.objs.size + 1))) ?_)
  rw [PySem.W.oi_run]
  exact wpAny_pure (And.intro rfl ⟨V.ref (hh.objs.size + 1), _, I2, rfl, hq⟩)
end
section
variable {C : VD.Ctx} {s s1 : SD} {p q : Bool} {te ta tb : TE} {tt : TT} {wi wj : TI} {g : TG} {t : T} {vs : List Nat} {pin : List Nat} {tbd : TS} {N B Cn : SD → Prop} {R : T → SD → Prop}
theorem ev_mk0 {c : Nat} : Ev C true (tMk0 (C.cls c)) s (.oi c []) s := fun F S σ H Q w l k a dx hA hd hne => by
  have sta := Stp.newF (o := .own a) w hd
  have ha2 : upd H dx (.own a) a = none := by rw [upd_ne (fun e => hne e.symm)]; exact hA
  have stb := Stp.newO (o := .ins (C.cls c) dx []) sta.wf ha2
  have na : ∀ y, S y → y ≠ a := fun y z e => w.ex y z (by rw [e]; exact hA)
  have sm2 : Same H (upd (upd H dx (.own a)) a (.ins (C.cls c) dx [])) := (Same.newO hd).trans (Same.newO ha2)
  exact k (.ref a) _ (fun y => y = a) S _ (sta.trans stb) (fun _ => sm2) (.oi (fvs := []) (fs := []) (S1 := no) upd_same rfl rfl (fun _ z => z.elim) .nil) (fun y e z => na y z e) (l.frame sta.ff (Same.own w sm2))
theorem ev_lcL (h : Ev C p (tLc wi g tt te vs) s t s1) : Ev C p (tLc (fun σ H R => wi σ H R ∨ wj σ H R) g tt te vs) s t s1 := fun F S σ H Q w l k => .inl (h F S σ H Q w l k)
theorem ev_lcR (h : Ev C p (tLc wj g tt te vs) s t s1) : Ev C p (tLc (fun σ H R => wi σ H R ∨ wj σ H R) g tt te vs) s t s1 := fun F S σ H Q w l k => .inr (h F S σ H Q w l k)
theorem ex_forL (h : Ex C pin (tFor wi g tbd) s N R B Cn) : Ex C pin (tFor (fun σ H R => wi σ H R ∨ wj σ H R) g tbd) s N R B Cn := fun F S σ H E w l a b c d => .inl (h F S σ H E w l a b c d)
/-- every turn gives something -/
theorem gath_all {n : Nat} {v : Nat → T} : gath n (fun _ => true) v = (List.range n).map v := by
  unfold gath
  rw [List.filter_eq_self.mpr (fun _ _ => rfl)]
theorem range_map {α β : Type} (l : List α) (g : α → β) (d : α) : (List.range l.length).map (fun i => g (l.getD i d)) = l.map g := by
  apply List.ext_getElem
  · simp
  · intro i h1 h2
    simp only [List.length_map, List.length_range] at h1
    simp [List.getElem?_eq_getElem h1]
/-- [e for x in ds], nothing else changes -/
theorem ev_map {ds : List D} {j : Nat} (v : Nat → T) (h : EvI C p wi s ds s1) (hw : wipeS s1 [j] = s1) (hl : ds.length ≤ 100000) (turn : ∀ i d, ds[i]? = some d → Ev C q te (s1.set j (some (.fz d))) (v i) (s1.set j (some (.fz d)))) :
    Ev C (p && q) (tLc wi (gName j) tYes te [j]) s (.ol ((List.range ds.length).map v)) s1 := by
  have := ev_lc (q := q) (g := gName j) (tt := tYes) (te := te) (vs := [j]) (fun _ => s1) (fun _ => true) v h rfl (fun _ _ => hw) hl fun i d hd => ⟨[j], _, _, eg_name, fun _ z => z, et_yes.weak (fun _ => rfl), fun _ => ⟨_, turn i d hd, by
    show (s1.set j (some (.fz d))).set j none = s1
    rw [List.set_set]
    exact hw⟩, fun z => by cases z⟩
  rw [gath_all] at this
  exact this
end
end VD
set_option maxRecDepth 100000
set_option maxHeartbeats 4000000
namespace VD
open PySem PySem.Spec PyProof.Rows L2
/-! ### plain data of some depth -/
structure Gd (n : Nat) (d : D) : Prop where
  p : d.plain = true
  c : d.py.canLay0 = true
  d : d.py.depth ≤ n
theorem Gd.int {n : Nat} {i : Int} : Gd n (.int i) := ⟨rfl, rfl, Nat.zero_le _⟩
theorem Gd.non {n : Nat} : Gd n .non := ⟨rfl, rfl, Nat.zero_le _⟩
theorem Gd.bl {n : Nat} {b : Bool} : Gd n (.bl b) := ⟨rfl, rfl, Nat.zero_le _⟩
theorem p2s (x y : Str) (h : (PyData.str x).canLay0 = true) (g : (PyData.str y).canLay0 = true) : Plain2 (.str x) (.str y) := by
  refine ⟨rfl, rfl, ?_, ?_⟩
  · unfold SeqAt.shaped
    rw [show (D.str x).py.canLay0 = true from h]
    rfl
  · unfold SeqAt.shaped
    rw [show (D.str y).py.canLay0 = true from g]
    rfl
theorem Gd.all {n : Nat} : ∀ {l : List D}, (∀ d ∈ l, Gd n d) → D.plainL l = true ∧ PyData.canLayAll0 (D.pyL l) = true ∧ PyData.depthAll (D.pyL l) ≤ n
  | [], _ => ⟨rfl, rfl, Nat.zero_le _⟩
  | x :: l, h => by
    have hx := h x (List.mem_cons_self ..)
    obtain ⟨a, b, c⟩ := Gd.all fun d hd => h d (List.mem_cons_of_mem _ hd)
    refine ⟨?_, ?_, ?_⟩
    · show (D.plain x && D.plainL l) = true
      rw [hx.p, a]
      rfl
    · show (PyData.canLay0 _ && PyData.canLayAll0 _) = true
      rw [hx.c, b]
      rfl
    · have := hx.d
      simp only [D.pyL, PyData.depthAll]
      omega
theorem Gd.tup {n : Nat} {l : List D} (h : ∀ d ∈ l, Gd n d) : Gd (n + 1) (.tup l) := by
  obtain ⟨a, b, c⟩ := Gd.all h
  exact ⟨a, b, by simp only [D.py, PyData.depth]; omega⟩
theorem Gd.lst {n : Nat} {l : List D} (h : ∀ d ∈ l, Gd n d) : Gd (n + 1) (.lst l) := by
  obtain ⟨a, b, c⟩ := Gd.all h
  exact ⟨a, b, by simp only [D.py, PyData.depth]; omega⟩
theorem Gd.two {n m : Nat} {d e : D} (h : Gd n d) (g : Gd m e) (hn : n ≤ 64 := by decide) (hm : m ≤ 64 := by decide) : Plain2 d e :=
  ⟨h.p, g.p, by unfold SeqAt.shaped; rw [h.c, decide_eq_true (Nat.le_trans h.d hn)]; rfl, by unfold SeqAt.shaped; rw [g.c, decide_eq_true (Nat.le_trans g.d hm)]; rfl⟩
theorem Gd.ints {n : Nat} (h : List Int) : Gd (n + 1) (.tup (h.map .int)) := .tup fun d hd => by
  obtain ⟨i, _, rfl⟩ := List.mem_map.mp hd
  exact .int
theorem atN {α : Type} {l : List α} {j : Nat} {a : α} (h : l[j]? = some a) : atI l (j : Int) = some a := by
  obtain ⟨hj, he⟩ := List.getElem?_eq_some_iff.mp h
  unfold atI
  simp [ixN, hj, he]
theorem ixNn {n j : Nat} (hj : j < n) : ixN n (j : Int) = some j := by
  unfold ixN
  simp [hj]
section
variable {C : VD.Ctx} {s s1 : SD} {te tb : TE} {ts : List T}
/-- a list that a slot owns, against what nobody changes -/
theorem ev_neO {Pr : D → D → Prop} {l : List D} {e : D} (h : Vw C te s (.ol ts)) (hf : FzA C ts l) (h2 : Vw C tb s (.fz e)) (hp : Pr (.lst l) e) : Ev C true (tOp (rNeV C Pr) te tb) s (.fz (.bl (!D.beq (.lst l) e))) s := Ev.mk fun F S σ H Q w lk k => Vw.freeze h hf w lk fun v G e1 e2 r =>
  h2 F S σ H _ w lk fun v2 Z o _ => ⟨G, .lst l, e, e2, r, o.inv.mono e1, hp, fun H' ex => k _ F S H' (Stp.grow w ex) (fun _ => ex) (.bl _) (lk.frame (Same.refl F) (Same.own w ex))⟩
end
end VD
set_option maxRecDepth 100000
set_option maxHeartbeats 4000000
namespace K36
open PySem PySem.Spec PyProof.Rows L2 VD
def top (i : Nat) : Stmt := PySem.Challenge.pw_lastheap_k36_runs_and_their_heaps.main.body.getD i (.Pass ⟨0, 0, 0, 0⟩)
structure Df (K : PySem.W.Frag) (mg : Str → Option Value) (x : Str) (st : Stmt) (ps : List Str) (f : Addr) (fd : FuncData) : Prop where
  fn : Fun K x x st f fd
  mgf : mg x = some (.ref f)
  b : Binds K fd ps []
structure Blt (mg : Str → Option Value) : Prop where
  int : mg "int" = none
  len : mg "len" = none
  range : mg "range" = none
  isinstance : mg "isinstance" = none
  enumerate : mg "enumerate" = none
  max : mg "max" = none
  min : mg "min" = none
  tuple : mg "tuple" = none
  list : mg "list" = none
abbrev sMixed : Stmt := top 9
abbrev sSource : Stmt := top 10
abbrev sNext : Stmt := top 11
/-- the law's own numbers -/
def mx (c k : Int) : Int :=
  let a := c % 2147483629 + c / 2147483629 * 30011
  let b := (a + 69621 * k + 1) * 48271 % 2147483629
  let d := b * (b / 907 + 16831 + k) % 2147483587
  d * (d / 1201 + 30011) % 2147483563
theorem mx_lo (c k : Int) : 0 ≤ mx c k := Int.emod_nonneg _ (by decide)
/-- a source, and what a draw gives and leaves -/
abbrev Sr := Int × Int × Int
def srT (x : Sr) : T := .ol [.fz (.int x.1), .fz (.int x.2.1), .fz (.int x.2.2)]
def nxV (x : Sr) (m : Int) : Int := if 10 ^ 18 ≤ x.1 then x.1 % m else mx x.2.1 (x.2.2 + 1) % m
def nxS (x : Sr) (m : Int) : Sr := if 10 ^ 18 ≤ x.1 then (x.1 / m, x.2.1, x.2.2) else (x.1, x.2.1, x.2.2 + 1)
theorem nxV_lo {x : Sr} {m : Int} (h : 0 < m) : 0 ≤ nxV x m := by
  unfold nxV
  split <;> exact Int.emod_nonneg _ (by omega)
theorem nxV_hi {x : Sr} {m : Int} (h : 0 < m) : nxV x m < m := by
  unfold nxV
  split <;> exact Int.emod_lt_of_pos _ h
theorem cmR {i j : Int} (h : 0 ≤ j) (h2 : j < 18446744073709551616) : CMul i j := .inr ⟨by omega, by omega⟩
theorem cmL {i j : Int} (h : 0 ≤ i) (h2 : i < 18446744073709551616) : CMul i j := .inl ⟨by omega, by omega⟩
theorem cmMod {a b m : Int} (h : 0 < m) (h2 : m ≤ 18446744073709551616) : CMul (a % m) b :=
  cmL (Int.emod_nonneg _ (by omega)) (Int.lt_of_lt_of_le (Int.emod_lt_of_pos _ h) h2)
section
variable {P : Program} {w : World} {K : PySem.W.Frag} {mg : Str → Option Value} {base : Heap} {cls : Nat → Addr} {fld : Nat → List Str}
theorem scMixed : FnScope ["_law_cell", "_law_k", "_law_low"] ["_law_cell", "_law_k"] (defScope sMixed) := ⟨rfl, rfl, rfl, by decide +kernel, rfl, by decide +kernel, by decide +kernel⟩
abbrev spMixed (C : VD.Ctx) : Sp := spP C (ι := Int × Int) (fun x => [.int x.1, .int x.2]) (fun x => .fz (.int (mx x.1 x.2))) (fun _ => True)
theorem ok_mixed {f : Addr} {fd : FuncData} (Dd : Df K mg "_law_mixed" sMixed ["_law_cell", "_law_k"] f fd) (B : Blt mg) : FnOk P w K mg base CX0 1 f fd ["_law_cell", "_law_k"] (spMixed ⟨K, cls, fld⟩) := by
  refine fnP Dd.fn scMixed (fun _ => rfl) fun cdv A outer s H E hr => ?_
  refine ⟨_, (pss_cons (ps_set (i := 2) scMixed.nd rfl (Or.inl rfl) (pe_op op_add (pe_op op_mod (pe_callTy call_int1 (by rfl) B.int boot_int (pa_cons (pv 0) pa_nil)) pe_int) (pe_op op_mul (pe_op op_fdivW (pv 0) pe_int) pe_int)))
      (pss_cons (ps_set (i := 2) scMixed.nd rfl (Or.inl rfl) (pe_op op_mod (pe_callTy call_int1 (by rfl) B.int boot_int (pa_cons (pe_op op_mul (pe_op op_add (pe_op op_add (pv 2) (pe_op op_mul pe_int (pv 1))) pe_int) pe_int) pa_nil)) pe_int))
      (pss_cons (ps_set (i := 2) scMixed.nd rfl (Or.inl rfl) (pe_op op_mod (pe_callTy call_int1 (by rfl) B.int boot_int (pa_cons (pe_op op_mul (pv 2) (pe_op op_add (pe_op op_add (pe_op op_fdiv (pv 2) pe_int) pe_int) (pv 1))) pa_nil)) pe_int))
      (pss_one (ps_ret (pe_op op_mod (pe_callTy call_int1 (by rfl) B.int boot_int (pa_cons (pe_op op_mul (pv 2) (pe_op op_add (pe_op op_fdiv (pv 2) pe_int) pe_int)) pa_nil)) pe_int)))))), ?_⟩
  rintro ⟨c, k⟩ _
  refine ex_seq (N1 := (· = _)) (ex_asg (ev_I0 (ev_I (ev_cb (ds := [_]) (ea_cons (ev_var rfl) ea_nil) rc_int) ev_int (by first | decide | omega) (fun _ => .int _)) (ev_I (ev_I (ev_var rfl) ev_int ⟨by decide, by decide +kernel⟩ (fun _ => .int _)) ev_int (by first | exact cmR (by decide) (by decide) | exact cmL (by decide) (by decide) | exact cmMod (by decide) (by decide) | (unfold CMul; omega)) (fun _ => .int _)) (fun _ => .int _)) rfl) ?_
  rintro _ rfl
  refine ex_seq (N1 := (· = _)) (ex_asg (ev_I (ev_cb (ds := [_]) (ea_cons (ev_I (ev_I0 (ev_I0 (ev_var rfl) (ev_I ev_int (ev_var rfl) (by first | exact cmR (by decide) (by decide) | exact cmL (by decide) (by decide) | exact cmMod (by decide) (by decide) | (unfold CMul; omega)) (fun _ => .int _)) (fun _ => .int _)) ev_int (fun _ => .int _)) ev_int (by first | exact cmR (by decide) (by decide) | exact cmL (by decide) (by decide) | exact cmMod (by decide) (by decide) | (unfold CMul; omega)) (fun _ => .int _)) ea_nil) rc_int) ev_int (by first | decide | omega) (fun _ => .int _)) rfl) ?_
  rintro _ rfl
  refine ex_seq (N1 := (· = _)) (ex_asg (ev_I (ev_cb (ds := [_]) (ea_cons (ev_I (ev_var rfl) (ev_I0 (ev_I0 (ev_I (ev_var rfl) ev_int ⟨by decide, by decide⟩ (fun _ => .int _)) ev_int (fun _ => .int _)) (ev_var rfl) (fun _ => .int _)) (by first | exact cmR (by decide) (by decide) | exact cmL (by decide) (by decide) | exact cmMod (by decide) (by decide) | (unfold CMul; omega)) (fun _ => .int _)) ea_nil) rc_int) ev_int (by first | decide | omega) (fun _ => .int _)) rfl) ?_
  rintro _ rfl
  exact ex_ret (ev_I (ev_cb (ds := [_]) (ea_cons (ev_I (ev_var rfl) (ev_I0 (ev_I (ev_var rfl) ev_int ⟨by decide, by decide⟩ (fun _ => .int _)) ev_int (fun _ => .int _)) (by first | exact cmR (by decide) (by decide) | exact cmL (by decide) (by decide) | exact cmMod (by decide) (by decide) | (unfold CMul; omega)) (fun _ => .int _)) ea_nil) rc_int) ev_int (by first | decide | omega) (fun _ => .int _)) rfl
theorem scNext : FnScope ["_law_source_here", "_law_many", "_law_found"] ["_law_source_here", "_law_many"] (defScope sNext) := ⟨rfl, rfl, rfl, by decide +kernel, rfl, by decide +kernel, by decide +kernel⟩
abbrev spNext (C : VD.Ctx) : Sp := spO C (ι := Sr × Int) (fun x => srT x.1) (fun x => [.int x.2]) (fun x => .fz (.int (nxV x.1 x.2))) (fun x => srT (nxS x.1 x.2)) (fun x => 0 < x.2 ∧ x.2 < 1073741824)
theorem ok_next {f fM : Addr} {fd fdM : FuncData} (Dd : Df K mg "_law_next" sNext ["_law_source_here", "_law_many"] f fd) (DM : Df K mg "_law_mixed" sMixed ["_law_cell", "_law_k"] fM fdM) (B : Blt mg) : FnOk P w K mg base CX0 2 f fd ["_law_source_here", "_law_many"] (spNext ⟨K, cls, fld⟩) := by
  have GM : FnOk P w K mg base CX0 1 fM fdM ["_law_cell", "_law_k"] (spMixed ⟨K, cls, fld⟩) := ok_mixed DM B
  refine fnO Dd.fn scNext (fun _ => rfl) fun cdv A outer s H E hr => ?_
  refine ⟨_, (pss_cons (ps_if (pt_cmpR op_ge (pe_ix ix_list (pv 0) pe_int (fun _ _ => rfl)) (pe_op op_pow pe_int pe_int) (nomark _)) (pss_cons (ps_set (i := 2) scNext.nd rfl (Or.inl rfl) (pe_op op_mod (pe_callTy call_int1 (by rfl) B.int boot_int (pa_cons (pe_ix ix_list (pv 0) pe_int (fun _ _ => rfl)) pa_nil)) (pv 1)))
      (pss_cons (ps_asg (pe_op op_fdiv (pe_ix ix_list (pv 0) pe_int (fun _ _ => rfl)) (pv 1)) (pg_sub (pv 0) pe_int set_list))
      (pss_one (ps_ret (pv 2))))) pss_nil)
      (pss_cons (ps_asg (pe_op op_add (pe_ix ix_list (pv 0) pe_int (fun _ _ => rfl)) pe_int) (pg_sub (pv 0) pe_int set_list))
      (pss_one (ps_ret (pe_op op_mod (pe_callTy call_int1 (by rfl) B.int boot_int (pa_cons (pe_call GM hr (by rfl) DM.mgf DM.fn.kp DM.b .nil pass0 (pa_cons (pe_ix ix_list (pv 0) pe_int (fun _ _ => rfl)) (pa_cons (pe_ix ix_list (pv 0) pe_int (fun _ _ => rfl)) pa_nil))) pa_nil)) (pv 1)))))), ?_⟩
  rintro ⟨⟨a, b, n⟩, m⟩ ⟨hm, hm2⟩
  refine ex_seq (N1 := fun s' => s' = [some (srT (a, b, n)), some (.fz (.int m)), none] ∧ ¬ 10 ^ 18 ≤ a) (ex_if (b := decide (10 ^ 18 ≤ a)) (et_test (ev_I0 (Ev.ofVw (vw_ix (vw_var rfl) vw_int rfl)) (ev_I ev_int ev_int ⟨by decide, by decide, by decide⟩ (fun _ => .int _)) (fun _ => .bl _))) (fun hb => ?_) (fun hb => ?_)) ?_
  · have hb := of_decide_eq_true hb
    refine ex_seq (N1 := (· = _)) (ex_asg ((ev_I (ev_cb (ds := [_]) (ea_cons (Ev.ofVw (vw_ix (vw_var rfl) vw_int rfl)) ea_nil) rc_int) (ev_var rfl) (by first | decide | omega) (fun _ => .int _))) rfl) ?_
    rintro _ rfl
    refine ex_seq (N1 := (· = _)) (ex_setIx ((ev_I (Ev.ofVw (vw_ix (vw_var rfl) vw_int rfl)) (ev_var rfl) ⟨hm, hm2⟩ (fun _ => .int _))) rfl vw_int rfl rfl) ?_
    rintro _ rfl
    refine ex_ret (ev_var rfl) ⟨?_, ?_⟩
    · show _ = T.fz (.int (nxV (a, b, n) m))
      unfold nxV
      rw [if_pos hb]
    · show _ = some (some (srT (nxS (a, b, n) m)))
      unfold nxS
      rw [if_pos hb]
      rfl
  · exact ex_next ⟨rfl, of_decide_eq_false hb⟩
  rintro _ ⟨rfl, hb⟩
  refine ex_seq (N1 := (· = _)) (ex_setIx ((ev_I0 (Ev.ofVw (vw_ix (vw_var rfl) vw_int rfl)) ev_int (fun _ => .int _))) rfl vw_int rfl rfl) ?_
  rintro _ rfl
  refine ex_ret (ev_I (ev_cb (ds := [_]) (ea_cons (ev_call (b, n + 1) (ea_cons (Ev.ofVw (vw_ix (vw_var rfl) vw_int rfl)) (ea_cons (Ev.ofVw (vw_ix (vw_var rfl) vw_int rfl)) ea_nil)) True.intro) ea_nil) rc_int) (ev_var rfl) (by first | decide | omega) (fun _ => .int _)) ⟨?_, ?_⟩
  · show _ = T.fz (.int (nxV (a, b, n) m))
    unfold nxV
    rw [if_neg hb]
  · show _ = some (some (srT (nxS (a, b, n) m)))
    unfold nxS
    rw [if_neg hb]
    rfl
end
end K36
set_option maxRecDepth 100000
set_option maxHeartbeats 4000000
namespace K36
open PySem PySem.Spec PyProof.Rows L2 VD
def fls : List (List Str) := [["changes"], [], ["word"], ["word", "line", "column"], ["start", "events", "stop"]]
def fl : Nat → List Str := fun c => fls.getD c []
/-- the facts of the five classes -/
structure Ax (K : PySem.W.Frag) (mg : Str → Option Value) (cls : Nat → Addr) : Prop where
  ci : ∀ c, c < 5 → ClsI ⟨K, cls, fl⟩ c
  na : ∀ c, c < 5 → ∀ f ∈ fl c, NoAttr K (cls c) f
  kit : ∀ i j, i < 5 → j < 5 → PySem.W.kitOne K (.ref (cls i)) (.ref (cls j)) = some (decide (i = j))
  kitN : ∀ T ∈ tys, ∀ j, j < 5 → PySem.W.kitOne K (.type T) (.ref (cls j)) = some false
  kitT : PySem.W.kitOne K (.type "tuple") (.type "tuple") = some true
  m0 : mg "Block" = some (.ref (cls 0))
  m1 : mg "Sync" = some (.ref (cls 1))
  m2 : mg "Out" = some (.ref (cls 2))
  m3 : mg "Stop" = some (.ref (cls 3))
  m4 : mg "Run" = some (.ref (cls 4))
/-- a method's def -/
structure Dm (K : PySem.W.Frag) (x qual : Str) (st : Stmt) (ps : List Str) (f : Addr) (fd : FuncData) : Prop where
  fn : Fun K x qual st f fd
  b : Binds K fd ps []
/-- an own == of a class -/
structure Qf (K : PySem.W.Frag) (cls : Nat → Addr) (c : Nat) (f : Addr) : Prop where
  fi : PySem.W.findIn K (.ref (cls c)) "__eq__" = some (some (.ref f))
  fn : PySem.W.isFn K (.ref f) = true
  nf : ∀ e, e < 5 → PySem.W.notFirst K (cls c) (.ref (cls e)) = true
  nt : ∀ T ∈ tys, PySem.W.notFirst K (cls c) (.type T) = true ∧ PySem.W.subIn K (.ref (cls c)) (.type T) = some false
  ob : PySem.W.subIn K (.ref (cls c)) (.type "object") = some true
  ne : PySem.W.findIn K (.ref (cls c)) "__ne__" = some (some (.builtin "object.__ne__"))
def isC (c : Nat) : D → Bool
  | .ins c' _ => decide (c' = c)
  | _ => false
theorem beq_isC {c : Nat} {e : D} {l : List D} (h : isC c e = false) : D.beq (.ins c l) e = false := by
  cases e with
  | ins c' m =>
    have h := of_decide_eq_false h
    show (c == c' && _) = false
    rw [beq_false_of_ne fun q => h q.symm]
    rfl
  | _ => rfl
theorem beq_ins {c : Nat} {l m : List D} : D.beq (.ins c l) (.ins c m) = D.beqL l m := by
  show (c == c && _) = _
  rw [beq_self_eq_true]
  rfl
section
variable {P : Program} {w : World} {K : PySem.W.Frag} {mg : Str → Option Value} {base : Heap} {cls : Nat → Addr}
theorem Ax.n (A : Ax K mg cls) (c : Nat) (hc : c < 5 := by decide) (f : Str) (hf : f ∈ fl c := by decide) : ClsN ⟨K, cls, fl⟩ c f := ⟨(A.ci c hc).cl, A.na c hc f hf⟩
theorem ev_isC (A : Ax K mg cls) {c : Nat} (hc : c < 5) {p : Bool} {te : TE} {s s1 : SD} {d : D} (h : Ev ⟨K, cls, fl⟩ p te s (.fz d) s1) (hd : d.cb 5 = true) :
    Ev ⟨K, cls, fl⟩ p (tCB (rIsi K) (tCons te (tCons (tC (.ref (cls c))) tNil))) s (.fz (.bl (isC c d))) s1 := by
  refine ev_isi h ?_ (.own _) ?_
  · cases d with
    | ins c' l =>
      simp only [D.cb, Bool.and_eq_true, decide_eq_true_eq] at hd
      exact A.ci c' hd.1
    | _ => exact True.intro
  · cases d with
    | ins c' l =>
      simp only [D.cb, Bool.and_eq_true, decide_eq_true_eq] at hd
      exact A.kit c' c hd.1 hc
    | _ => exact A.kitN _ (by simp [tys]) c hc
theorem eqCls_of {X : Cx} {c n : Nat} {f : Addr} {fd : FuncData} {Pr : D → D → Prop} (q : Qf X.K cls c f) (hb : Binds X.K fd ["self", "other"] [])
    (F : FnOk X.prog X.w X.K X.mg X.base CX0 n f fd ["self", "other"] (spP ⟨X.K, cls, fl⟩ (fun x : D × D => [x.1, x.2]) (fun x => .fz (.bl (D.beq x.1 x.2))) (fun x => Pr x.1 x.2))) : EqCls X ⟨X.K, cls, fl⟩ n 5 c Pr :=
  ⟨⟨f, fd, F, q.fi, q.fn, hb⟩, q.nf, q.nt, q.ob, q.ne⟩
/-! ### the script's numbers -/
theorem scSource : FnScope ["_law_script", "_law_k", "_law_cell"] ["_law_script", "_law_k"] (defScope sSource) := ⟨rfl, rfl, rfl, by decide +kernel, rfl, by decide +kernel, by decide +kernel⟩
abbrev spSource (C : VD.Ctx) : Sp := spP C (ι := List Int × Nat) (fun x => [.lst (x.1.map .int), .int x.2]) (fun x => srT (x.1.getD x.2 7, x.1.getD x.2 7, 0)) (fun _ => True)
theorem ok_source {f : Addr} {fd : FuncData} (Dd : Df K mg "_law_source" sSource ["_law_script", "_law_k"] f fd) (B : Blt mg) : FnOk P w K mg base CX0 1 f fd ["_law_script", "_law_k"] (spSource ⟨K, cls, fl⟩) := by
  refine fnP Dd.fn scSource (fun _ => rfl) fun cdv A outer s H E hr => ?_
  refine ⟨_, (pss_cons (ps_set (i := 2) scSource.nd rfl (Or.inl rfl) (pe_ifExp (pt_cmpR op_lt (pv 1) (pe_callB call_len_seq (by rfl) B.len PySem.boot_len (pa_cons (pv 0) pa_nil)) (nomark _)) (pe_ix ix_list (pv 0) (pv 1) (fun _ _ => rfl)) pe_int))
      (pss_one (ps_ret (pe_lst (pa_cons (pv 2) (pa_cons (pv 2) (pa_cons pe_int pa_nil))))))), ?_⟩
  rintro ⟨l, k⟩ _
  refine ex_seq (N1 := (· = [some (.fz (.lst (l.map .int))), some (.fz (.int k)), some (.fz (.int (l.getD k 7)))])) (ex_asg (p := true) (ev_if (q := true) (p := true) (a := decide ((k : Int) < ((l.map D.int).length : Nat))) (et_test (ev_I0 (ev_var rfl) (ev_cb (ds := [_]) (ea_cons (ev_var rfl) ea_nil) rc_lenL) (fun _ => .bl _))) (fun h => ev_ixL (p := true) (q := true) (ev_var rfl) (ev_var rfl) ?_) (fun h => ?_)) rfl) ?_
  · have h := of_decide_eq_true h
    have h2 : k < l.length := by rw [List.length_map] at h; omega
    unfold atI
    simp [ixN, h2, List.getD_eq_getElem?_getD]
  · have h := of_decide_eq_false h
    have h2 : l.length ≤ k := by rw [List.length_map] at h; omega
    rw [show l.getD k 7 = 7 by simp [List.getD_eq_getElem?_getD, List.getElem?_eq_none h2]]
    exact ev_int
  rintro _ rfl
  exact ex_ret (ev_lst (ea_cons (ev_var rfl) (ea_cons (ev_var rfl) (ea_cons ev_int ea_nil))) (by show 3 ≤ 100000; decide)) rfl
/-! ### equality -/
/-- the first operand is an instance of the class c with the fields l, the second one another thing, or one with fields that may be compared -/
def prC (c : Nat) (R : List D → List D → Prop) (d e : D) : Prop := ∃ l, d = .ins c l ∧ e.cb 5 = true ∧ ((∃ k, e = .ins c k ∧ R l k) ∨ isC c e = false ∧ ∃ k, R l k)
def r0 (l k : List D) : Prop := l = [] ∧ k = []
def r1 (l k : List D) : Prop := ∃ a b, l = [a] ∧ k = [b] ∧ Plain2 a b
def r3 (l k : List D) : Prop := ∃ a b c a' b' c', l = [a, b, c] ∧ k = [a', b', c'] ∧ Plain2 a a' ∧ Plain2 b b' ∧ Plain2 c c'
abbrev spEq (C : VD.Ctx) (Pr : D → D → Prop) : Sp := spP C (fun x : D × D => [x.1, x.2]) (fun x => .fz (.bl (D.beq x.1 x.2))) (fun x => Pr x.1 x.2)
abbrev sEqB : Stmt := inClass (top 1) 1
theorem scEqB : FnScope ["self", "other"] ["self", "other"] (defScope sEqB) := ⟨rfl, rfl, rfl, by decide +kernel, rfl, by decide +kernel, by decide +kernel⟩
theorem ok_eqB {f : Addr} {fd : FuncData} (Dd : Dm K "__eq__" "Block.__eq__" sEqB ["self", "other"] f fd) (B : Blt mg) (A : Ax K mg cls) : FnOk P w K mg base CX0 1 f fd ["self", "other"] (spEq ⟨K, cls, fl⟩ (prC 0 r1)) := by
  refine fnP Dd.fn scEqB (fun _ => rfl) fun cdv Ar outer s H E hr => ?_
  refine ⟨_, (pss_one (ps_ret (pe_and (pe_callB call_isi (by rfl) B.isinstance boot_isinstance (pa_cons (pv 1) (pa_cons (pe_glob (v := .ref (cls 0)) (by rfl) A.m0 rfl) pa_nil))) (pe_one (pe_cmpR (op_eqV (rcP_plain (C := ⟨K, cls, fl⟩) rfl) (hr.mono (Nat.zero_le _))) (pe_fld (pv 0) rfl) (pe_fld (pv 1) rfl) (nomark _)))))), ?_⟩
  rintro ⟨d, e⟩ ⟨l, h1, hc, h⟩
  dsimp only at h1 hc h
  subst h1
  rcases h with ⟨k, rfl, a, b, rfl, rfl, hp⟩ | ⟨h, _⟩
  · exact ex_ret (ev_andV (b := D.beq a b) (ev_isC A (by decide) (ev_var rfl) hc) (fun _ => ev_eqV (ev_fld (ev_var rfl) (A.n 0 (by decide) "changes") rfl) (ev_fld (ev_var rfl) (A.n 0 (by decide) "changes") rfl) hp)) (by rw [beq_ins]; simp [isC, D.beqL])
  · exact ex_ret (ev_andV (q := true) (b := true) (ev_isC A (by decide) (ev_var rfl) hc) (fun h' => absurd (h'.symm.trans h) (by decide))) (by rw [beq_isC h, h]; rfl)
abbrev sEqS : Stmt := inClass (top 2) 0
theorem scEqS : FnScope ["self", "other"] ["self", "other"] (defScope sEqS) := ⟨rfl, rfl, rfl, by decide +kernel, rfl, by decide +kernel, by decide +kernel⟩
theorem ok_eqS {f : Addr} {fd : FuncData} (Dd : Dm K "__eq__" "Sync.__eq__" sEqS ["self", "other"] f fd) (B : Blt mg) (A : Ax K mg cls) : FnOk P w K mg base CX0 1 f fd ["self", "other"] (spEq ⟨K, cls, fl⟩ (prC 1 r0)) := by
  refine fnP Dd.fn scEqS (fun _ => rfl) fun cdv Ar outer s H E hr => ?_
  refine ⟨_, (pss_one (ps_ret (pe_callB call_isi (by rfl) B.isinstance boot_isinstance (pa_cons (pv 1) (pa_cons (pe_glob (v := .ref (cls 1)) (by rfl) A.m1 rfl) pa_nil))))), ?_⟩
  rintro ⟨d, e⟩ ⟨l, h1, hc, h⟩
  dsimp only at h1 hc h
  subst h1
  rcases h with ⟨k, rfl, rfl, rfl⟩ | ⟨h, _⟩
  · exact ex_ret (ev_isC A (by decide) (ev_var rfl) hc) rfl
  · exact ex_ret (ev_isC A (by decide) (ev_var rfl) hc) (by rw [beq_isC h, h])
abbrev sEqO : Stmt := inClass (top 3) 1
theorem scEqO : FnScope ["self", "other"] ["self", "other"] (defScope sEqO) := ⟨rfl, rfl, rfl, by decide +kernel, rfl, by decide +kernel, by decide +kernel⟩
theorem ok_eqO {f : Addr} {fd : FuncData} (Dd : Dm K "__eq__" "Out.__eq__" sEqO ["self", "other"] f fd) (B : Blt mg) (A : Ax K mg cls) : FnOk P w K mg base CX0 1 f fd ["self", "other"] (spEq ⟨K, cls, fl⟩ (prC 2 r1)) := by
  refine fnP Dd.fn scEqO (fun _ => rfl) fun cdv Ar outer s H E hr => ?_
  refine ⟨_, (pss_one (ps_ret (pe_and (pe_callB call_isi (by rfl) B.isinstance boot_isinstance (pa_cons (pv 1) (pa_cons (pe_glob (v := .ref (cls 2)) (by rfl) A.m2 rfl) pa_nil))) (pe_one (pe_cmpR (op_eqV (rcP_plain (C := ⟨K, cls, fl⟩) rfl) (hr.mono (Nat.zero_le _))) (pe_fld (pv 0) rfl) (pe_fld (pv 1) rfl) (nomark _)))))), ?_⟩
  rintro ⟨d, e⟩ ⟨l, h1, hc, h⟩
  dsimp only at h1 hc h
  subst h1
  rcases h with ⟨k, rfl, a, b, rfl, rfl, hp⟩ | ⟨h, _⟩
  · exact ex_ret (ev_andV (b := D.beq a b) (ev_isC A (by decide) (ev_var rfl) hc) (fun _ => ev_eqV (ev_fld (ev_var rfl) (A.n 2 (by decide) "word") rfl) (ev_fld (ev_var rfl) (A.n 2 (by decide) "word") rfl) hp)) (by rw [beq_ins]; simp [isC, D.beqL])
  · exact ex_ret (ev_andV (q := true) (b := true) (ev_isC A (by decide) (ev_var rfl) hc) (fun h' => absurd (h'.symm.trans h) (by decide))) (by rw [beq_isC h, h]; rfl)
abbrev sEqT : Stmt := inClass (top 4) 1
theorem scEqT : FnScope ["self", "other"] ["self", "other"] (defScope sEqT) := ⟨rfl, rfl, rfl, by decide +kernel, rfl, by decide +kernel, by decide +kernel⟩
theorem ok_eqT {f : Addr} {fd : FuncData} (Dd : Dm K "__eq__" "Stop.__eq__" sEqT ["self", "other"] f fd) (B : Blt mg) (A : Ax K mg cls) : FnOk P w K mg base CX0 1 f fd ["self", "other"] (spEq ⟨K, cls, fl⟩ (prC 3 r3)) := by
  refine fnP Dd.fn scEqT (fun _ => rfl) fun cdv Ar outer s H E hr => ?_
  refine ⟨_, (pss_one (ps_ret (pe_and (pe_callB call_isi (by rfl) B.isinstance boot_isinstance (pa_cons (pv 1) (pa_cons (pe_glob (v := .ref (cls 3)) (by rfl) A.m3 rfl) pa_nil))) (pe_and (pe_cmpR (op_eqV (rcP_plain (C := ⟨K, cls, fl⟩) rfl) (hr.mono (Nat.zero_le _))) (pe_fld (pv 0) rfl) (pe_fld (pv 1) rfl) (nomark _)) (pe_and (pe_cmpR (op_eqV (rcP_plain (C := ⟨K, cls, fl⟩) rfl) (hr.mono (Nat.zero_le _))) (pe_fld (pv 0) rfl) (pe_fld (pv 1) rfl) (nomark _)) (pe_one (pe_cmpR (op_eqV (rcP_plain (C := ⟨K, cls, fl⟩) rfl) (hr.mono (Nat.zero_le _))) (pe_fld (pv 0) rfl) (pe_fld (pv 1) rfl) (nomark _)))))))), ?_⟩
  rintro ⟨d, e⟩ ⟨l, h1, hc, h⟩
  dsimp only at h1 hc h
  subst h1
  rcases h with ⟨k, rfl, a, b, c, a', b', c', rfl, rfl, p1, p2, p3⟩ | ⟨h, _⟩
  · exact ex_ret (ev_andV (b := D.beq a a' && (D.beq b b' && D.beq c c')) (ev_isC A (by decide) (ev_var rfl) hc) (fun _ => ev_andV (ev_eqV (ev_fld (ev_var rfl) (A.n 3 (by decide) "word") rfl) (ev_fld (ev_var rfl) (A.n 3 (by decide) "word") rfl) p1)
      (fun _ => ev_andV (ev_eqV (ev_fld (ev_var rfl) (A.n 3 (by decide) "line") rfl) (ev_fld (ev_var rfl) (A.n 3 (by decide) "line") rfl) p2) (fun _ => ev_eqV (ev_fld (ev_var rfl) (A.n 3 (by decide) "column") rfl) (ev_fld (ev_var rfl) (A.n 3 (by decide) "column") rfl) p3)))) (by rw [beq_ins]; simp [isC, D.beqL])
  · exact ex_ret (ev_andV (q := true) (b := true) (ev_isC A (by decide) (ev_var rfl) hc) (fun h' => absurd (h'.symm.trans h) (by decide))) (by rw [beq_isC h, h]; rfl)
end
end K36
set_option maxRecDepth 100000
set_option maxHeartbeats 4000000
namespace K36
open PySem PySem.Spec PyProof.Rows L2 VD
def isI : D → Bool
  | .ins _ _ => true
  | _ => false
theorem isI_no {d : D} (h : isI d = false) : ∀ c l, d ≠ .ins c l := fun c l e => by rw [e] at h; cases h
def U1 (d e : D) : Prop := Plain2 d e ∨ (prC 0 r1 d e ∨ prC 1 r0 d e ∨ prC 2 r1 d e ∨ prC 3 r3 d e) ∨ isI d = false ∧ (prC 0 r1 e d ∨ prC 1 r0 e d ∨ prC 2 r1 e d ∨ prC 3 r3 e d)
def rE (d e : D) : Prop := ∃ l m, d = .tup l ∧ e = .tup m ∧ ∀ (i : Nat) a b, l[i]? = some a → m[i]? = some b → (prC 0 r1 a b ∨ prC 1 r0 a b ∨ prC 2 r1 a b) ∧ a.cb 5 = true ∧ isI b = true
def r4 (l k : List D) : Prop := ∃ a b c a' b' c', l = [a, b, c] ∧ k = [a', b', c'] ∧ Plain2 a a' ∧ rE b b' ∧ U1 c c'
def U2 (d e : D) : Prop := U1 d e ∨ prC 4 r4 d e ∨ isI d = false ∧ prC 4 r4 e d
abbrev Qe (P : Program) (w : World) (K : PySem.W.Frag) (mg : Str → Option Value) (base : Heap) (cls : Nat → Addr) (n c : Nat) (R : List D → List D → Prop) : Prop :=
  ∃ f fd, Qf K cls c f ∧ Binds K fd ["self", "other"] [] ∧ FnOk P w K mg base CX0 n f fd ["self", "other"] (spEq ⟨K, cls, fl⟩ (prC c R))
structure Qs (P : Program) (w : World) (K : PySem.W.Frag) (mg : Str → Option Value) (base : Heap) (cls : Nat → Addr) : Prop where
  q0 : Qe P w K mg base cls 1 0 r1
  q1 : Qe P w K mg base cls 1 1 r0
  q2 : Qe P w K mg base cls 1 2 r1
  q3 : Qe P w K mg base cls 1 3 r3
section
variable {P : Program} {w : World} {K : PySem.W.Frag} {mg : Str → Option Value} {base : Heap} {cls : Nat → Addr}
theorem Ax.inj (A : Ax K mg cls) (c e : Nat) (hc : c < 5) (he : e < 5) (h : cls c = cls e) : c = e := by
  have h1 := A.kit c e hc he
  have h2 := A.kit e e he he
  rw [h, h2] at h1
  have z := Option.some.inj h1
  simp at z
  exact z
theorem Qe.left {X : Cx} {n c : Nat} {R : List D → List D → Prop} (q : Qe X.prog X.w X.K X.mg X.base cls n c R) : RcP X ⟨X.K, cls, fl⟩ n (prC c R) := by
  obtain ⟨f, fd, q, hb, F⟩ := q
  exact (rcP_insL rfl (eqCls_of q hb F)).imp (fun d e h => ⟨⟨h.choose, h.choose_spec.1⟩, h.choose_spec.2.1, h⟩) (Nat.le_refl _)
theorem Qe.right {X : Cx} {n c : Nat} {R : List D → List D → Prop} (q : Qe X.prog X.w X.K X.mg X.base cls n c R) : RcP X ⟨X.K, cls, fl⟩ n (fun d e => isI d = false ∧ prC c R e d) := by
  obtain ⟨f, fd, q, hb, F⟩ := q
  exact (rcP_insR rfl (eqCls_of q hb F)).imp (fun d e h => ⟨⟨h.2.choose, h.2.choose_spec.1⟩, isI_no h.1, h.2⟩) (Nat.le_refl _)
theorem Qe.ne {X : Cx} {n c : Nat} {R : List D → List D → Prop} (q : Qe X.prog X.w X.K X.mg X.base cls n c R) : NeP X ⟨X.K, cls, fl⟩ (n + 1) (prC c R) := by
  obtain ⟨f, fd, q, hb, F⟩ := q
  exact (neP_insL rfl (eqCls_of q hb F)).imp (fun d e h => ⟨⟨h.choose, h.choose_spec.1⟩, h.choose_spec.2.1, h⟩) (Nat.le_refl _)
theorem Qs.u1 {X : Cx} (q : Qs X.prog X.w X.K X.mg X.base cls) : RcP X ⟨X.K, cls, fl⟩ 1 U1 :=
  ((rcP_plain rfl).imp (fun _ _ h => h) (Nat.zero_le 1)).or ((q.q0.left.or (q.q1.left.or (q.q2.left.or q.q3.left))).or ((q.q0.right.or (q.q1.right.or (q.q2.right.or q.q3.right))).imp (fun d e h => by
    obtain ⟨h0, h | h | h | h⟩ := h
    · exact .inl ⟨h0, h⟩
    · exact .inr (.inl ⟨h0, h⟩)
    · exact .inr (.inr (.inl ⟨h0, h⟩))
    · exact .inr (.inr (.inr ⟨h0, h⟩))) (Nat.le_refl _)))
theorem Qs.e {X : Cx} (A : Ax X.K mg cls) (q : Qs X.prog X.w X.K X.mg X.base cls) : RcP X ⟨X.K, cls, fl⟩ 2 rE :=
  (rcP_tup rfl ((q.q0.left.or (q.q1.left.or q.q2.left)).eqP)).imp (fun d e h => by
    obtain ⟨l, m, rfl, rfl, h⟩ := h
    refine ⟨l, m, rfl, rfl, fun i a b ha hb => ?_⟩
    obtain ⟨h1, h2, h3⟩ := h i a b ha hb
    have hi : isI a = true := by
      rcases h1 with ⟨l, rfl, _⟩ | ⟨l, rfl, _⟩ | ⟨l, rfl, _⟩ <;> rfl
    have hb5 : b.cb 5 = true := by
      rcases h1 with ⟨_, _, h, _⟩ | ⟨_, _, h, _⟩ | ⟨_, _, h, _⟩ <;> exact h
    refine ⟨h1, ?_, ?_, fun pins s σ H F x I w r1 r2 => ?_⟩
    · cases a <;> first | rfl | cases hi
    · cases b <;> first | rfl | cases h3
    · rw [Rp.uniq I w rfl (fun c e => A.inj c e) r1 r2 h2 hb5]
      exact D.beq_refl _) (Nat.le_refl _)
abbrev sEqR : Stmt := inClass (top 5) 1
theorem scEqR : FnScope ["self", "other"] ["self", "other"] (defScope sEqR) := ⟨rfl, rfl, rfl, by decide +kernel, rfl, by decide +kernel, by decide +kernel⟩
theorem ok_eqR {f : Addr} {fd : FuncData} (Dd : Dm K "__eq__" "Run.__eq__" sEqR ["self", "other"] f fd) (B : Blt mg) (A : Ax K mg cls) (q : Qs P w K mg base cls) : FnOk P w K mg base CX0 3 f fd ["self", "other"] (spEq ⟨K, cls, fl⟩ (prC 4 r4)) := by
  refine fnP Dd.fn scEqR (fun _ => rfl) fun cdv Ar outer s H E hr => ?_
  have RE : RcP (cxOf CX0 P w K mg base ["self", "other"] "Run.__eq__" (defScope sEqR) f cdv Ar outer s H E).nox ⟨K, cls, fl⟩ 2 rE := Qs.e (mg := mg) A q
  have RS : RcP (cxOf CX0 P w K mg base ["self", "other"] "Run.__eq__" (defScope sEqR) f cdv Ar outer s H E).nox ⟨K, cls, fl⟩ 1 U1 := Qs.u1 q
  refine ⟨_, (pss_one (ps_ret (pe_and (pe_callB call_isi (by rfl) B.isinstance boot_isinstance (pa_cons (pv 1) (pa_cons (pe_glob (v := .ref (cls 4)) (by rfl) A.m4 rfl) pa_nil))) (pe_and (pe_cmpR (op_eqV (rcP_plain (C := ⟨K, cls, fl⟩) rfl) (hr.mono (Nat.zero_le _))) (pe_fld (pv 0) rfl) (pe_fld (pv 1) rfl) (nomark _)) (pe_and (pe_cmpR (op_eqV RE hr) (pe_fld (pv 0) rfl) (pe_fld (pv 1) rfl) (nomark _)) (pe_one (pe_cmpR (op_eqV RS (hr.mono (by decide))) (pe_fld (pv 0) rfl) (pe_fld (pv 1) rfl) (nomark _)))))))), ?_⟩
  rintro ⟨d, e⟩ ⟨l, h1, hc, h⟩
  dsimp only at h1 hc h
  subst h1
  rcases h with ⟨k, rfl, a, b, c, a', b', c', rfl, rfl, p1, p2, p3⟩ | ⟨h, _⟩
  · exact ex_ret (ev_andV (b := D.beq a a' && (D.beq b b' && D.beq c c')) (ev_isC A (by decide) (ev_var rfl) hc) (fun _ => ev_andV (ev_eqV (ev_fld (ev_var rfl) (A.n 4 (by decide) "start") rfl) (ev_fld (ev_var rfl) (A.n 4 (by decide) "start") rfl) p1)
      (fun _ => ev_andV (ev_eqV (ev_fld (ev_var rfl) (A.n 4 (by decide) "events") rfl) (ev_fld (ev_var rfl) (A.n 4 (by decide) "events") rfl) p2) (fun _ => ev_eqV (ev_fld (ev_var rfl) (A.n 4 (by decide) "stop") rfl) (ev_fld (ev_var rfl) (A.n 4 (by decide) "stop") rfl) p3)))) (by rw [beq_ins]; simp [isC, D.beqL])
  · exact ex_ret (ev_andV (q := true) (b := true) (ev_isC A (by decide) (ev_var rfl) hc) (fun h' => absurd (h'.symm.trans h) (by decide))) (by rw [beq_isC h, h]; rfl)
theorem U2ok {X : Cx} (q : Qs X.prog X.w X.K X.mg X.base cls) (q4 : Qe X.prog X.w X.K X.mg X.base cls 3 4 r4) : RcP X ⟨X.K, cls, fl⟩ 3 U2 :=
  (q.u1.imp (fun _ _ h => h) (by decide)).or (q4.left.or q4.right)
/-! ### the making of instances -/
def seqD (b : Bool) (l : List D) : D := if b then .lst l else .tup l
abbrev sIniB : Stmt := inClass (top 1) 0
theorem scIniB : FnScope ["self", "changes", "change"] ["self", "changes"] (defScope sIniB) := ⟨rfl, rfl, rfl, by decide +kernel, rfl, by decide +kernel, by decide +kernel⟩
theorem fz_range {α : Type} (l : List α) (g : α → D) (d : α) {C : VD.Ctx} : Fz C (.ol ((List.range l.length).map fun i => .fz (g (l.getD i d)))) (.lst (l.map g)) := by
  rw [range_map l (fun x => T.fz (g x)) d]
  have := FzA.map (C := C) (l.map g)
  rw [List.map_map] at this
  exact .ol this
/-- Block of a list or tuple of lists or tuples -/
abbrev spIniB (C : VD.Ctx) : Sp := spO C (ι := Bool × List (Bool × List D)) (fun _ => .oi 0 []) (fun x => [seqD x.1 (x.2.map fun y => seqD y.1 y.2)]) (fun _ => .fz .non) (fun x => .oi 0 [("changes", .fz (.tup (x.2.map fun y => .tup y.2)))]) (fun x => x.2.length ≤ 100000)
theorem ok_iniB {f : Addr} {fd : FuncData} (Dd : Dm K "__init__" "Block.__init__" sIniB ["self", "changes"] f fd) (B : Blt mg) (A : Ax K mg cls) : FnOk P w K mg base CX0 1 f fd ["self", "changes"] (spIniB ⟨K, cls, fl⟩) := by
  refine fnO Dd.fn scIniB (fun _ => rfl) fun cdv Ar outer s H E hr => ?_
  refine ⟨_, (pss_one (ps_fld (pv 0) (pe_callTy call_tuple_of (by rfl) B.tuple (by decide +kernel) (pa_cons (pe_lc (own := [("change", 2)]) (g := (gName 2)) (tt := tYes) (te := (tCB (rTupOf K) (tCons (tVar 2) tNil))) rfl scIniB.nd (pi_or (pi_list (pv 1)) (pi_tup (pv 1))) (blkOk_by (N := ["self", "changes", "change"]) (sc := defScope sIniB) (by decide +kernel)) (fun _ _ _ _ _ => (pg_name (i := 2) scIniB.nd rfl (Or.inl rfl))) (fun _ _ _ _ _ => pts_nil) (fun _ _ _ _ _ => (pe_callTy call_tuple_of (by rfl) B.tuple (by decide +kernel) (pa_cons (pv 2) pa_nil)))) pa_nil)) rfl)), ?_⟩
  rintro ⟨b, l⟩ hl
  have hw : EvI ⟨K, cls, fl⟩ true (fun σ H R => iList K (tVar 1) σ H R ∨ iTup K (tVar 1) σ H R) [some (.oi 0 []), some (.fz (seqD b (l.map fun y => seqD y.1 y.2))), none] (l.map fun y => seqD y.1 y.2) [some (.oi 0 []), some (.fz (seqD b (l.map fun y => seqD y.1 y.2))), none] := by
    cases b with
    | true => exact ei_orL (ei_list (ev_var rfl))
    | false => exact ei_orR (ei_tup (ev_var rfl))
  refine ex_fld (fs := []) (ev_cb (ds := [_]) (ea_cons (Ev.frz (ev_map (q := true) (fun i => .fz (.tup (l.getD i (true, [])).2)) hw rfl (by rw [List.length_map]; exact hl) fun i d hd => ?_) ?_) ea_nil) (rc_tupL (l := l.map fun y => .tup y.2))) rfl (A.n 0 (by decide) "changes") (by decide) ⟨rfl, rfl⟩
  · rw [List.getElem?_map, Option.map_eq_some_iff] at hd
    obtain ⟨⟨b', k⟩, hk, rfl⟩ := hd
    have e : l.getD i (true, []) = (b', k) := by rw [List.getD_eq_getElem?_getD, hk]; rfl
    rw [e]
    cases b' with
    | true => exact ev_cb (p := true) (ds := [_]) (ea_cons (p := true) (q := true) (ev_var rfl) ea_nil) rc_tupL
    | false => exact ev_cb (p := true) (ds := [_]) (ea_cons (p := true) (q := true) (ev_var rfl) ea_nil) rc_tupT
  · have := fz_range l (fun y => D.tup y.2) (true, []) (C := ⟨K, cls, fl⟩)
    rw [List.length_map]
    exact this
end
end K36
set_option maxRecDepth 100000
set_option maxHeartbeats 4000000
namespace K36
open PySem PySem.Spec PyProof.Rows L2 VD
/-- a change, and what a row of the law says -/
abbrev Ch := Nat × Int × Int
def chL (c : Ch) : List D := [.int (c.1 : Nat), .int c.2.1, .int c.2.2]
def chT (c : Ch) : T := .ol ((chL c).map .fz)
inductive Rw where
  | sy
  | ou (n : Int)
  | bl (cs : List Ch)
def Rw.d : Rw → D
  | .sy => .ins 1 []
  | .ou n => .ins 2 [.int n]
  | .bl cs => .ins 0 [.tup (cs.map fun c => .tup (chL c))]
def Rw.t : Rw → T
  | .sy => .ol [.fz (.str "sync")]
  | .ou n => .ol [.fz (.str "out"), .fz (.int n)]
  | .bl cs => .ol [.fz (.str "block"), .ol (cs.map chT)]
theorem gath_filter {l : List D} {g : D → Bool} {h : D → T} : gath l.length (fun i => g (l.getD i .non)) (fun i => h (l.getD i .non)) = (l.filter g).map h := by
  have e : (List.range l.length).map (fun i => l.getD i .non) = l := by
    have := range_map l id D.non
    simpa using this
  unfold gath
  have e2 : (l.filter g).map h = (((List.range l.length).map (fun i => l.getD i .non)).filter g).map h := by rw [e]
  rw [e2, List.filter_map, List.map_map]
  rfl
section
variable {P : Program} {w : World} {K : PySem.W.Frag} {mg : Str → Option Value} {base : Heap} {cls : Nat → Addr}
/-- Block of a list that the caller owns -/
abbrev spIniC (C : VD.Ctx) : Sp := spT C (ι := List Ch) (fun cs => [.oi 0 [], .ol (cs.map chT)]) (fun cs => [.oi 0 [("changes", .fz (.tup (cs.map fun c => .tup (chL c))))], .ol (cs.map chT)]) (fun _ => .fz .non) (fun cs => cs.length ≤ 100000)
theorem ok_iniC {f : Addr} {fd : FuncData} (Dd : Dm K "__init__" "Block.__init__" sIniB ["self", "changes"] f fd) (B : Blt mg) (A : Ax K mg cls) : FnOk P w K mg base CX0 1 f fd ["self", "changes"] (spIniC ⟨K, cls, fl⟩) := by
  refine fnT Dd.fn scIniB (fun _ => rfl) (fun _ => rfl) fun cdv Ar outer s H E hr => ?_
  refine ⟨_, (pss_one (ps_fld (pv 0) (pe_callTy call_tuple_of (by rfl) B.tuple (by decide +kernel) (pa_cons (pe_lc (own := [("change", 2)]) (g := (gName 2)) (tt := tYes) (te := (tCB (rTupOf K) (tCons (tVar 2) tNil))) rfl scIniB.nd (pi_or (pi_list (pv 1)) (pi_tup (pv 1))) (blkOk_by (N := ["self", "changes", "change"]) (sc := defScope sIniB) (by decide +kernel)) (fun _ _ _ _ _ => (pg_name (i := 2) scIniB.nd rfl (Or.inl rfl))) (fun _ _ _ _ _ => pts_nil) (fun _ _ _ _ _ => (pe_callTy call_tuple_of (by rfl) B.tuple (by decide +kernel) (pa_cons (pv 2) pa_nil)))) pa_nil)) rfl)), ?_⟩
  rintro cs hl
  refine ex_fld (fs := []) (ev_cb (p := false) (ds := [_]) (ea_cons (q := true) (p := false) (Ev.frz (ev_lcL (ev_lcO (ts := cs.map chT) (fun _ => true) (fun i => .fz (.tup (chL (cs.getD i (0, 0, 0))))) rfl (by decide) (by decide) (by decide) rfl rfl (by rw [List.length_map]; exact hl) fun i t x ht => ⟨et_yes, fun _ => ?_⟩)) ?_) ea_nil) (rc_tupL (l := cs.map fun c => .tup (chL c)))) rfl (A.n 0 (by decide) "changes") (by first | decide | (show 1 < 1000; decide) | (show 2 < 1000; decide)) ⟨rfl, ?_⟩
  · rw [List.getElem?_map, Option.map_eq_some_iff] at ht
    obtain ⟨c, hc, rfl⟩ := ht
    have e : cs.getD i (0, 0, 0) = c := by rw [List.getD_eq_getElem?_getD, hc]; rfl
    rw [e]
    exact (ev_tupVw (vw_var rfl)).weak fun z => by cases z
  · have := fz_range cs (fun c => D.tup (chL c)) (0, 0, 0) (C := ⟨K, cls, fl⟩)
    rw [List.length_map, gath_all]
    exact this
  · intro k hk
    match k, hk with
    | 0, _ => rfl
    | 1, _ => rfl
abbrev sIniO : Stmt := inClass (top 3) 0
theorem scIniO : FnScope ["self", "word"] ["self", "word"] (defScope sIniO) := ⟨rfl, rfl, rfl, by decide +kernel, rfl, by decide +kernel, by decide +kernel⟩
abbrev spIniO (C : VD.Ctx) : Sp := spO C (ι := D) (fun _ => .oi 2 []) (fun x => [x]) (fun _ => .fz .non) (fun x => .oi 2 [("word", .fz x)]) (fun _ => True)
theorem ok_iniO {f : Addr} {fd : FuncData} (Dd : Dm K "__init__" "Out.__init__" sIniO ["self", "word"] f fd) (B : Blt mg) (A : Ax K mg cls) : FnOk P w K mg base CX0 1 f fd ["self", "word"] (spIniO ⟨K, cls, fl⟩) := by
  refine fnO Dd.fn scIniO (fun _ => rfl) fun cdv Ar outer s H E hr => ?_
  refine ⟨_, (pss_one (ps_fld (pv 0) (pv 1) rfl)), ?_⟩
  rintro d _
  exact ex_fld (fs := []) (ev_var rfl) rfl (A.n 2 (by decide) "word") (by first | decide | (show 1 < 1000; decide) | (show 2 < 1000; decide)) ⟨rfl, rfl⟩
abbrev sIniT : Stmt := inClass (top 4) 0
theorem scIniT : FnScope ["self", "word", "line", "column"] ["self", "word", "line", "column"] (defScope sIniT) := ⟨rfl, rfl, rfl, by decide +kernel, rfl, by decide +kernel, by decide +kernel⟩
abbrev spIniT (C : VD.Ctx) : Sp := spO C (ι := D × D × D) (fun _ => .oi 3 []) (fun x => [x.1, x.2.1, x.2.2]) (fun _ => .fz .non) (fun x => .oi 3 [("word", .fz x.1), ("line", .fz x.2.1), ("column", .fz x.2.2)]) (fun _ => True)
theorem ok_iniT {f : Addr} {fd : FuncData} (Dd : Dm K "__init__" "Stop.__init__" sIniT ["self", "word", "line", "column"] f fd) (B : Blt mg) (A : Ax K mg cls) : FnOk P w K mg base CX0 1 f fd ["self", "word", "line", "column"] (spIniT ⟨K, cls, fl⟩) := by
  refine fnO Dd.fn scIniT (fun _ => rfl) fun cdv Ar outer s H E hr => ?_
  refine ⟨_, (pss_cons (ps_fld (pv 0) (pv 1) rfl)
      (pss_cons (ps_fld (pv 0) (pv 2) rfl)
      (pss_one (ps_fld (pv 0) (pv 3) rfl)))), ?_⟩
  rintro ⟨a, b, c⟩ _
  refine ex_seq (N1 := (· = _)) (ex_fld (fs := []) (ev_var rfl) rfl (A.n 3 (by decide) "word") (by first | decide | (show 1 < 1000; decide) | (show 2 < 1000; decide)) rfl) ?_
  rintro _ rfl
  refine ex_seq (N1 := (· = _)) (ex_fld (ev_var rfl) rfl (A.n 3 (by decide) "line") (by first | decide | (show 1 < 1000; decide) | (show 2 < 1000; decide)) rfl) ?_
  rintro _ rfl
  exact ex_fld (ev_var rfl) rfl (A.n 3 (by decide) "column") (by first | decide | (show 1 < 1000; decide) | (show 2 < 1000; decide)) ⟨rfl, rfl⟩
abbrev sIniR : Stmt := inClass (top 5) 0
theorem scIniR : FnScope ["self", "start", "events", "stop"] ["self", "start", "events", "stop"] (defScope sIniR) := ⟨rfl, rfl, rfl, by decide +kernel, rfl, by decide +kernel, by decide +kernel⟩
/-- Run of things that nobody changes -/
abbrev spIniR (C : VD.Ctx) : Sp := spO C (ι := (Bool × List D) × (Bool × List D) × D) (fun _ => .oi 4 []) (fun x => [seqD x.1.1 x.1.2, seqD x.2.1.1 x.2.1.2, x.2.2]) (fun _ => .fz .non)
  (fun x => .oi 4 [("start", .fz (.tup x.1.2)), ("events", .fz (.tup x.2.1.2)), ("stop", .fz x.2.2)]) (fun _ => True)
theorem rc_tupS {C : VD.Ctx} {b : Bool} {l : List D} : RcD C (rTupOf C.K) [seqD b l] (.fz (.tup l)) := by
  cases b with
  | true => exact rc_tupL
  | false => exact rc_tupT
theorem ok_iniR {f : Addr} {fd : FuncData} (Dd : Dm K "__init__" "Run.__init__" sIniR ["self", "start", "events", "stop"] f fd) (B : Blt mg) (A : Ax K mg cls) : FnOk P w K mg base CX0 1 f fd ["self", "start", "events", "stop"] (spIniR ⟨K, cls, fl⟩) := by
  refine fnO Dd.fn scIniR (fun _ => rfl) fun cdv Ar outer s H E hr => ?_
  refine ⟨_, (pss_cons (ps_fld (pv 0) (pe_callTy call_tuple_of (by rfl) B.tuple (by decide +kernel) (pa_cons (pv 1) pa_nil)) rfl)
      (pss_cons (ps_fld (pv 0) (pe_callTy call_tuple_of (by rfl) B.tuple (by decide +kernel) (pa_cons (pv 2) pa_nil)) rfl)
      (pss_one (ps_fld (pv 0) (pv 3) rfl)))), ?_⟩
  rintro ⟨⟨a, l⟩, ⟨b, m⟩, c⟩ _
  refine ex_seq (N1 := (· = _)) (ex_fld (fs := []) (ev_cb (ds := [_]) (ea_cons (ev_var rfl) ea_nil) rc_tupS) rfl (A.n 4 (by decide) "start") (by first | decide | (show 1 < 1000; decide) | (show 2 < 1000; decide)) rfl) ?_
  rintro _ rfl
  refine ex_seq (N1 := (· = _)) (ex_fld (ev_cb (ds := [_]) (ea_cons (ev_var rfl) ea_nil) rc_tupS) rfl (A.n 4 (by decide) "events") (by first | decide | (show 1 < 1000; decide) | (show 2 < 1000; decide)) rfl) ?_
  rintro _ rfl
  exact ex_fld (ev_var rfl) rfl (A.n 4 (by decide) "stop") (by first | decide | (show 1 < 1000; decide) | (show 2 < 1000; decide)) ⟨rfl, rfl⟩
/-- Run of lists that the caller owns -/
abbrev spIniQ (C : VD.Ctx) : Sp := spT C (ι := List D × List D × D) (fun x => [.oi 4 [], .ol (x.1.map .fz), .ol (x.2.1.map .fz), .fz x.2.2])
  (fun x => [.oi 4 [("start", .fz (.tup x.1)), ("events", .fz (.tup x.2.1)), ("stop", .fz x.2.2)], .ol (x.1.map .fz), .ol (x.2.1.map .fz), .fz x.2.2]) (fun _ => .fz .non) (fun _ => True)
theorem ok_iniQ {f : Addr} {fd : FuncData} (Dd : Dm K "__init__" "Run.__init__" sIniR ["self", "start", "events", "stop"] f fd) (B : Blt mg) (A : Ax K mg cls) : FnOk P w K mg base CX0 1 f fd ["self", "start", "events", "stop"] (spIniQ ⟨K, cls, fl⟩) := by
  refine fnT Dd.fn scIniR (fun _ => rfl) (fun _ => rfl) fun cdv Ar outer s H E hr => ?_
  refine ⟨_, (pss_cons (ps_fld (pv 0) (pe_callTy call_tuple_of (by rfl) B.tuple (by decide +kernel) (pa_cons (pv 1) pa_nil)) rfl)
      (pss_cons (ps_fld (pv 0) (pe_callTy call_tuple_of (by rfl) B.tuple (by decide +kernel) (pa_cons (pv 2) pa_nil)) rfl)
      (pss_one (ps_fld (pv 0) (pv 3) rfl)))), ?_⟩
  rintro ⟨l, m, c⟩ _
  refine ex_seq (N1 := (· = _)) (ex_fld (fs := []) (ev_tupVw (vw_var rfl)) rfl (A.n 4 (by decide) "start") (by first | decide | (show 1 < 1000; decide) | (show 2 < 1000; decide)) rfl) ?_
  rintro _ rfl
  refine ex_seq (N1 := (· = _)) (ex_fld (ev_tupVw (vw_var rfl)) rfl (A.n 4 (by decide) "events") (by first | decide | (show 1 < 1000; decide) | (show 2 < 1000; decide)) rfl) ?_
  rintro _ rfl
  refine ex_fld (ev_var rfl) rfl (A.n 4 (by decide) "stop") (by first | decide | (show 1 < 1000; decide) | (show 2 < 1000; decide)) ⟨rfl, ?_⟩
  intro k hk
  match k, hk with
  | 0, _ => rfl
  | 1, _ => rfl
  | 2, _ => rfl
  | 3, _ => rfl
/-! ### what a run tells -/
abbrev runD (a : List D) (b : List D) (c : D) : D := .ins 4 [.tup a, .tup b, c]
abbrev sBlocksOf : Stmt := top 6
theorem scBlocksOf : FnScope ["run", "event"] ["run"] (defScope sBlocksOf) := ⟨rfl, rfl, rfl, by decide +kernel, rfl, by decide +kernel, by decide +kernel⟩
abbrev spBo (C : VD.Ctx) : Sp := spP C (ι := List D × List D × D) (fun x => [runD x.1 x.2.1 x.2.2]) (fun x => .ol ((x.2.1.filter (isC 0)).map .fz)) (fun x => x.2.1.length ≤ 100000 ∧ ∀ d ∈ x.2.1, d.cb 5 = true)
theorem ok_bo {f : Addr} {fd : FuncData} (Dd : Df K mg "blocks_of" sBlocksOf ["run"] f fd) (B : Blt mg) (A : Ax K mg cls) : FnOk P w K mg base CX0 1 f fd ["run"] (spBo ⟨K, cls, fl⟩) := by
  refine fnP Dd.fn scBlocksOf (fun _ => rfl) fun cdv Ar outer s H E hr => ?_
  refine ⟨_, (pss_one (ps_ret (pe_lc (own := [("event", 1)]) (g := (gName 1)) (tt := (tB (tCB (rIsi K) (tCons (tVar 1) (tCons (tC (.ref (cls 0))) tNil))))) (te := (tVar 1)) rfl scBlocksOf.nd (pi_tup (pe_fld (pv 0) rfl)) (blkOk_by (N := ["run", "event"]) (sc := defScope sBlocksOf) (by decide +kernel)) (fun _ _ _ _ _ => (pg_name (i := 1) scBlocksOf.nd rfl (Or.inl rfl))) (fun _ _ _ _ _ => (pts_one (pt_val (pe_callB call_isi (by rfl) B.isinstance boot_isinstance (pa_cons (pv 1) (pa_cons (pe_glob (v := .ref (cls 0)) (by rfl) A.m0 rfl) pa_nil)))))) (fun _ _ _ _ _ => (pv 1))))), ?_⟩
  rintro ⟨a, b, c⟩ ⟨hl, hc⟩
  have h := ev_lc (C := ⟨K, cls, fl⟩) (q := true) (g := gName 1) (tt := tB (tCB (rIsi K) (tCons (tVar 1) (tCons (tC (.ref (cls 0))) tNil)))) (te := tVar 1) (vs := [1]) (fun _ => [some (.fz (runD a b c)), none]) (fun i => isC 0 (b.getD i .non)) (fun i => .fz (b.getD i .non))
    (ei_tup (ev_fld (s := [some (.fz (runD a b c)), none]) (ev_var (i := 0) rfl) (A.n 4 (by decide) "events") rfl)) rfl (fun _ _ => rfl) hl fun i d hd => by
      have e : b.getD i .non = d := by rw [List.getD_eq_getElem?_getD, hd]; rfl
      rw [e]
      exact ⟨[1], _, _, eg_name, fun _ z => z, et_B (ev_isC A (by decide) (ev_var rfl) (hc d (List.mem_of_getElem? hd))), fun _ => ⟨_, ev_var rfl, rfl⟩, fun _ => rfl⟩
  rw [gath_filter (h := fun d => T.fz d)] at h
  exact ex_ret h rfl
end
end K36
set_option maxRecDepth 100000
set_option maxHeartbeats 4000000
namespace K36
open PySem PySem.Spec PyProof.Rows L2 VD
def app1 (h : List Int) (c : Ch) : List Int := h.set c.1 c.2.2
def appB (h : List Int) (cs : List Ch) : List Int := cs.foldl app1 h
def hAt (h : List Int) (bs : List (List Ch)) (i : Nat) : List Int := (bs.take i).foldl appB h
abbrev hD (h : List Int) : List D := h.map .int
def dueT (h : List Int) (bs : List (List Ch)) (n : Nat) : List D := (List.range n).map fun j => .tup (hD (hAt h bs j))
def blks (rows : List Rw) : List (List Ch) := rows.filterMap fun r => match r with | .bl cs => some cs | _ => none
def bD (cs : List Ch) : D := .ins 0 [.tup (cs.map fun c => .tup (chL c))]
theorem app1_len {h : List Int} {c : Ch} : (app1 h c).length = h.length := by simp [app1]
theorem appB_len {h : List Int} {cs : List Ch} : (appB h cs).length = h.length := by
  unfold appB
  induction cs generalizing h with
  | nil => rfl
  | cons c cs ih => rw [List.foldl_cons, ih, app1_len]
theorem foldB_len {h : List Int} {bs : List (List Ch)} : (bs.foldl appB h).length = h.length := by
  induction bs generalizing h with
  | nil => rfl
  | cons c cs ih => rw [List.foldl_cons, ih, appB_len]
theorem take_fold {α β : Type} (f : β → α → β) (b : β) (l : List α) (i : Nat) (a : α) (h : l[i]? = some a) : (l.take (i + 1)).foldl f b = f ((l.take i).foldl f b) a := by
  rw [List.take_succ, h]
  simp
theorem cb_bD (cs : List Ch) (n : Nat) (hn : 0 < n) : (bD cs).cb n = true := by
  have z : ∀ cs : List Ch, D.cbL n (cs.map fun c => .tup (chL c)) = true := fun cs => by
    induction cs with
    | nil => rfl
    | cons c cs ih =>
      show (D.cb n (.tup (chL c)) && D.cbL n _) = true
      rw [ih]
      rfl
  show (decide (0 < n) && (D.cbL n _ && true)) = true
  rw [z, decide_eq_true hn]
  rfl
theorem cb_row (r : Rw) : r.d.cb 5 = true := by
  cases r with
  | sy => rfl
  | ou n => rfl
  | bl cs => exact cb_bD cs 5 (by decide)
theorem filter_rows (rows : List Rw) : (rows.map Rw.d).filter (isC 0) = (blks rows).map bD := by
  induction rows with
  | nil => rfl
  | cons r rows ih =>
    cases r with
    | sy => exact ih
    | ou n => exact ih
    | bl cs =>
      show bD cs :: (rows.map Rw.d).filter (isC 0) = _
      rw [ih]
      rfl

section
variable {P : Program} {w : World} {K : PySem.W.Frag} {mg : Str → Option Value} {base : Heap} {cls : Nat → Addr}
abbrev rnD (x : List Int × List Rw × D) : D := runD (hD x.1) (x.2.1.map Rw.d) x.2.2
abbrev sHeaps : Stmt := top 7
theorem scHeaps : FnScope ["run", "heap", "found", "block", "place", "_", "new"] ["run"] (defScope sHeaps) := ⟨rfl, rfl, rfl, by decide +kernel, rfl, by decide +kernel, by decide +kernel⟩
abbrev spHeaps (C : VD.Ctx) : Sp := spP C (ι := List Int × List Rw × D) (fun x => [rnD x]) (fun x => .ol ((dueT x.1 (blks x.2.1) ((blks x.2.1).length + 1)).map .fz)) (fun x => x.2.1.length ≤ 1000 ∧ ∀ cs ∈ blks x.2.1, ∀ c ∈ cs, c.1 < x.1.length)
theorem ok_heaps {f fB : Addr} {fd fdB : FuncData} (Dd : Df K mg "heaps" sHeaps ["run"] f fd) (DBo : Df K mg "blocks_of" sBlocksOf ["run"] fB fdB) (B : Blt mg) (A : Ax K mg cls) : FnOk P w K mg base CX0 2 f fd ["run"] (spHeaps ⟨K, cls, fl⟩) := by
  have GBo : FnOk P w K mg base CX0 1 fB fdB ["run"] (spBo ⟨K, cls, fl⟩) := ok_bo DBo B A
  refine fnP Dd.fn scHeaps (fun _ => rfl) fun cdv Ar outer s H E hr => ?_
  refine ⟨_, (pss_cons (ps_set (i := 1) scHeaps.nd rfl (Or.inl rfl) (pe_callTy call_list_of (by rfl) B.list (by decide +kernel) (pa_cons (pe_fld (pv 0) rfl) pa_nil)))
      (pss_cons (ps_set (i := 2) scHeaps.nd rfl (Or.inl rfl) (pe_lst (pa_cons (pe_callTy call_tuple_of (by rfl) B.tuple (by decide +kernel) (pa_cons (pv 1) pa_nil)) pa_nil)))
      (pss_cons (ps_for PassesOwn.never rfl (pi_list (pe_call GBo (hr.mono (by decide)) (by rfl) DBo.mgf DBo.fn.kp DBo.b .nil pass0 (pa_cons (pv 0) pa_nil))) (pg_name (i := 3) scHeaps.nd rfl (Or.inl rfl))
      (pss_cons (ps_for PassesOwn.never rfl (pi_tup (pe_fld (pv 3) rfl)) (pg_tup rfl (pgs_cons (pg_name (i := 4) scHeaps.nd rfl (Or.inl rfl)) (pgs_cons (pg_name (i := 5) scHeaps.nd rfl (Or.inl rfl)) (pgs_cons (pg_name (i := 6) scHeaps.nd rfl (Or.inl rfl)) pgs_nil))))
      (pss_one (ps_asg (pv 6) (pg_sub (pv 1) (pv 4) set_list))))
      (pss_one (ps_expr (pe_bm PySem.F.plainAttrs_list PySem.F.slot_list_append PySem.F.type_list_append mt_append (pv 2) (pa_cons (pe_callTy call_tuple_of (by rfl) B.tuple (by decide +kernel) (pa_cons (pv 1) pa_nil)) pa_nil))))))
      (pss_one (ps_ret (pv 2)))))), ?_⟩
  rintro ⟨st, rows, sp⟩ ⟨hl, hp⟩
  dsimp only at hl hp
  have hbl : (blks rows).length ≤ rows.length := by unfold blks; exact List.length_filterMap_le _ _
  refine ex_seq (N1 := (· = [some (.fz (rnD (st, rows, sp))), some (.ol ((hD (hAt st (blks rows) 0)).map .fz)), none, none, none, none, none])) (ex_asg (ev_cb (ds := [_]) (ea_cons (ev_fld (ev_var rfl) (A.n 4 (by decide) "start") rfl) ea_nil) rc_listT) rfl) ?_
  rintro _ rfl
  refine ex_seq (N1 := (· = [some (.fz (rnD (st, rows, sp))), some (.ol ((hD (hAt st (blks rows) 0)).map .fz)), some (.ol ((dueT st (blks rows) 1).map .fz)), none, none, none, none])) (ex_asg (ev_lst (ea_cons (ev_tupVw (vw_var rfl)) ea_nil) (by show 1 ≤ 100000; decide)) rfl) ?_
  rintro _ rfl
  refine ex_seq (N1 := fun s' => ∃ x y z u, s' = [some (.fz (rnD (st, rows, sp))), some (.ol ((hD (hAt st (blks rows) (blks rows).length)).map .fz)), some (.ol ((dueT st (blks rows) ((blks rows).length + 1)).map .fz)), x, y, z, u]) ?_ ?_
  · refine ex_for (ds := (blks rows).map bD) (fun i s' => ∃ x y z u, s' = [some (.fz (rnD (st, rows, sp))), some (.ol ((hD (hAt st (blks rows) i)).map .fz)), some (.ol ((dueT st (blks rows) (i + 1)).map .fz)), x, y, z, u])
      (ei_list (Ev.frz (ev_call (st.map .int, rows.map Rw.d, sp) (ea_cons (ev_var rfl) ea_nil) ⟨by rw [List.length_map]; show rows.length ≤ 100000; omega, fun d hd => ?_⟩) ?_)) ⟨none, none, none, none, rfl⟩ ?_ (fun s' ⟨x, y, z, u, e⟩ => ⟨x, y, z, u, by rw [List.length_map] at e; exact e⟩)
    · obtain ⟨r, _, rfl⟩ := List.mem_map.mp hd
      exact cb_row r
    · rw [filter_rows]
      exact .ol (FzA.map _)
    rintro i d _ hd ⟨x, y, z, u, rfl⟩
    rw [List.getElem?_map, Option.map_eq_some_iff] at hd
    obtain ⟨cs, hc, rfl⟩ := hd
    have hpc := hp cs (List.mem_of_getElem? hc)
    have hi : i < (blks rows).length := (List.getElem?_eq_some_iff.mp hc).1
    refine ⟨_, _, eg_name, (fun j hj => by cases hj), ?_⟩
    refine ex_seq (N1 := fun s' => ∃ y z u, s' = [some (.fz (rnD (st, rows, sp))), some (.ol ((hD (hAt st (blks rows) (i + 1))).map .fz)), some (.ol ((dueT st (blks rows) (i + 1)).map .fz)), some (.fz (bD cs)), y, z, u]) ?_ ?_
    · refine ex_for (ds := cs.map fun c => .tup (chL c)) (fun k s' => ∃ y z u, s' = [some (.fz (rnD (st, rows, sp))), some (.ol ((hD (appB (hAt st (blks rows) i) (cs.take k))).map .fz)), some (.ol ((dueT st (blks rows) (i + 1)).map .fz)), some (.fz (bD cs)), y, z, u])
        (ei_tup (ev_fld (ev_var rfl) (A.n 0 (by decide) "changes") rfl)) ⟨y, z, u, rfl⟩ ?_ (fun s' ⟨y, z, u, e⟩ => ⟨y, z, u, ?_⟩)
      · rintro k d _ hd ⟨y, z, u, rfl⟩
        rw [List.getElem?_map, Option.map_eq_some_iff] at hd
        obtain ⟨c, hck, rfl⟩ := hd
        have hlt := hpc c (List.mem_of_getElem? hck)
        refine ⟨_, _, eg_tup (eg_cons eg_name (eg_cons eg_name (eg_cons eg_name eg_nil))) rfl, (fun j hj => by cases hj), ?_⟩
        refine ex_setIx (ev_var rfl) rfl (vw_var rfl) (ixNn (j := c.1) (by rw [List.length_map, List.length_map, appB_len]; show c.1 < (List.foldl appB st _).length; rw [foldB_len]; exact hlt)) ⟨some (.fz (.int c.1)), some (.fz (.int c.2.1)), some (.fz (.int c.2.2)), ?_⟩
        show [_, some (T.ol (((hD _).map T.fz).set c.1 (T.fz (.int c.2.2)))), _, _, _, _, _] = _
        rw [← List.map_set, ← List.map_set]
        rw [show appB (hAt st (blks rows) i) (cs.take (k + 1)) = app1 (appB (hAt st (blks rows) i) (cs.take k)) c from take_fold _ _ _ _ _ hck]
        rfl
      · rw [e, List.length_map, List.take_length, show hAt st (blks rows) (i + 1) = appB (hAt st (blks rows) i) cs from take_fold _ _ _ _ _ hc]
    · rintro _ ⟨y, z, u, rfl⟩
      refine ex_app rfl (ev_tupVw (vw_var rfl)) rfl (by simp [dueT]; omega) ⟨some (.fz (bD cs)), y, z, u, ?_⟩
      show [_, _, some (T.ol ((dueT st (blks rows) (i + 1)).map T.fz ++ [T.fz (.tup (hD (hAt st (blks rows) (i + 1))))])), _, _, _, _] = _
      rw [show dueT st (blks rows) (i + 1 + 1) = dueT st (blks rows) (i + 1) ++ [.tup (hD (hAt st (blks rows) (i + 1)))] by unfold dueT; rw [List.range_succ, List.map_append]; rfl, List.map_append]
      rfl
  rintro _ ⟨x, y, z, u, rfl⟩
  exact ex_ret (ev_mv rfl) rfl
end
end K36
set_option maxRecDepth 100000
set_option maxHeartbeats 4000000
namespace K36
open PySem PySem.Spec PyProof.Rows L2 VD
/-! ### the law's drawing of a run, as a function -/
def nxI (m : Int) (x : Sr) : Nat → Sr
  | 0 => x
  | i + 1 => nxS (nxI m x i) m
abbrev Ac := Sr × List Int × List Ch
abbrev Tc := Sr × List Int × List Rw
def inner (a : Ac) (p : Nat) : Ac :=
  if nxV a.1 3 = 0 then
    (nxS (nxS a.1 3) 9, a.2.1.set p (a.2.1.getD p 0 + 1 + nxV (nxS a.1 3) 9), a.2.2 ++ [(p, a.2.1.getD p 0, a.2.1.getD p 0 + 1 + nxV (nxS a.1 3) 9)])
  else (nxS a.1 3, a.2.1, a.2.2)
def inn (a : Ac) (n : Nat) : Ac := (List.range n).foldl inner a
def turn (n : Nat) (a : Tc) : Tc :=
  if nxV a.1 3 = 0 then
    if nxV (nxS a.1 3) 2 = 0 then (nxS (nxS a.1 3) 2, a.2.1, a.2.2 ++ [.sy])
    else (nxS (nxS (nxS a.1 3) 2) 99, a.2.1, a.2.2 ++ [.ou (nxV (nxS (nxS a.1 3) 2) 99 - 50)])
  else
    if (inn (nxS a.1 3, a.2.1, []) n).2.2 = [] then ((inn (nxS a.1 3, a.2.1, []) n).1, (inn (nxS a.1 3, a.2.1, []) n).2.1, a.2.2)
    else ((inn (nxS a.1 3, a.2.1, []) n).1, (inn (nxS a.1 3, a.2.1, []) n).2.1, a.2.2 ++ [.bl (inn (nxS a.1 3, a.2.1, []) n).2.2])
def turns (n : Nat) (a : Tc) : Nat → Tc
  | 0 => a
  | i + 1 => turn n (turns n a i)
def here0 (x : Sr) (n : Nat) : List Int := (List.range n).map fun i => nxV (nxI 9 x i) 9
def runA (x : Sr) (n : Nat) : Tc := (nxS (nxI 9 x n) 11, here0 x n, [])
def runN (x : Sr) (n : Nat) : Nat := (nxV (nxI 9 x n) 11).toNat
def runE (x : Sr) (n : Nat) : Tc := turns n (runA x n) (runN x n)
theorem inn_succ (a : Ac) (n : Nat) : inn a (n + 1) = inner (inn a n) n := by
  unfold inn
  rw [List.range_succ, List.foldl_append]
  rfl
structure InOk (h : List Int) (n k : Nat) (a : Ac) : Prop where
  e : a.2.1 = appB h a.2.2
  p : ∀ c ∈ a.2.2, c.1 < n
  l : a.2.2.length ≤ k
theorem inn_ok {x : Sr} {h : List Int} {n : Nat} : ∀ k, k ≤ n → InOk h n k (inn (x, h, []) k)
  | 0, _ => ⟨rfl, (by intro c hc; cases hc), Nat.le_refl _⟩
  | k + 1, hk => by
    have z := inn_ok (x := x) (h := h) (n := n) k (by omega)
    rw [inn_succ]
    revert z
    generalize inn (x, h, []) k = a
    intro z
    unfold inner
    split
    · refine ⟨?_, ?_, ?_⟩
      · show a.2.1.set k _ = appB h (a.2.2 ++ [_])
        unfold appB
        rw [List.foldl_append]
        show _ = app1 (appB h a.2.2) _
        rw [← z.e]
        rfl
      · intro c hc
        rcases List.mem_append.mp hc with hc | hc
        · exact z.p c hc
        · rw [List.mem_singleton.mp hc]
          exact hk
      · show (a.2.2 ++ [_]).length ≤ k + 1
        rw [List.length_append]
        have := z.l
        simp
        omega
    · exact ⟨z.e, z.p, Nat.le_succ_of_le z.l⟩
theorem inn_len {x : Sr} {h : List Int} {n k : Nat} (hk : k ≤ n) : (inn (x, h, []) k).2.1.length = h.length := by
  rw [(inn_ok (x := x) (h := h) k hk).e, appB_len]
structure TuOk (h : List Int) (n k : Nat) (a : Tc) : Prop where
  e : a.2.1 = (blks a.2.2).foldl appB h
  p : ∀ cs ∈ blks a.2.2, ∀ c ∈ cs, c.1 < n
  l : a.2.2.length ≤ k
  q : ∀ cs ∈ blks a.2.2, cs ≠ [] ∧ cs.length ≤ n
theorem blks_app (a b : List Rw) : blks (a ++ b) = blks a ++ blks b := by unfold blks; rw [List.filterMap_append]
theorem turns_ok {h : List Int} {n : Nat} {x : Sr} : ∀ k, TuOk h n k (turns n (x, h, []) k)
  | 0 => ⟨rfl, (by intro c hc; cases hc), Nat.le_refl _, (by intro c hc; cases hc)⟩
  | k + 1 => by
    have z := turns_ok (h := h) (n := n) (x := x) k
    show TuOk h n (k + 1) (turn n (turns n (x, h, []) k))
    revert z
    generalize turns n (x, h, []) k = a
    intro z
    have zl := z.l
    unfold turn
    split
    · split
      · refine ⟨?_, ?_, ?_, ?_⟩
        · show a.2.1 = (blks (a.2.2 ++ [.sy])).foldl appB h
          rw [blks_app, show blks [Rw.sy] = [] from rfl, List.append_nil]
          exact z.e
        · show ∀ cs ∈ blks (a.2.2 ++ [.sy]), _
          rw [blks_app, show blks [Rw.sy] = [] from rfl, List.append_nil]
          exact z.p
        · show (a.2.2 ++ [_]).length ≤ _
          simp
          omega
        · show ∀ cs ∈ blks (a.2.2 ++ [.sy]), _
          rw [blks_app, show blks [Rw.sy] = [] from rfl, List.append_nil]
          exact z.q
      · generalize (nxV (nxS (nxS a.1 3) 2) 99 - 50) = m
        refine ⟨?_, ?_, ?_, ?_⟩
        · show a.2.1 = (blks (a.2.2 ++ [.ou m])).foldl appB h
          rw [blks_app, show blks [Rw.ou m] = [] from rfl, List.append_nil]
          exact z.e
        · show ∀ cs ∈ blks (a.2.2 ++ [.ou m]), _
          rw [blks_app, show blks [Rw.ou m] = [] from rfl, List.append_nil]
          exact z.p
        · show (a.2.2 ++ [_]).length ≤ _
          simp
          omega
        · show ∀ cs ∈ blks (a.2.2 ++ [.ou m]), _
          rw [blks_app, show blks [Rw.ou m] = [] from rfl, List.append_nil]
          exact z.q
    · have y := inn_ok (x := nxS a.1 3) (h := a.2.1) (n := n) n (Nat.le_refl _)
      revert y
      generalize inn (nxS a.1 3, a.2.1, []) n = b
      intro y
      split
      · next hb =>
        refine ⟨?_, z.p, Nat.le_succ_of_le z.l, z.q⟩
        show b.2.1 = _
        rw [y.e, hb]
        exact z.e
      · next hb =>
        have e : blks (a.2.2 ++ [.bl b.2.2]) = blks a.2.2 ++ [b.2.2] := by rw [blks_app]; rfl
        refine ⟨?_, ?_, ?_, ?_⟩
        · show b.2.1 = (blks (a.2.2 ++ [.bl b.2.2])).foldl appB h
          rw [e, List.foldl_append, ← z.e]
          exact y.e
        · show ∀ cs ∈ blks (a.2.2 ++ [.bl b.2.2]), _
          rw [e]
          intro cs hcs
          rcases List.mem_append.mp hcs with hcs | hcs
          · exact z.p cs hcs
          · rw [List.mem_singleton.mp hcs]
            exact y.p
        · show (a.2.2 ++ [_]).length ≤ _
          simp
          omega
        · show ∀ cs ∈ blks (a.2.2 ++ [.bl b.2.2]), _
          rw [e]
          intro cs hcs
          rcases List.mem_append.mp hcs with hcs | hcs
          · exact z.q cs hcs
          · rw [List.mem_singleton.mp hcs]
            exact ⟨hb, y.l⟩
theorem here0_len {x : Sr} {n : Nat} : (here0 x n).length = n := by simp [here0]
theorem dueT_app {h : List Int} {bs : List (List Ch)} {cs : List Ch} : dueT h (bs ++ [cs]) ((bs ++ [cs]).length + 1) = dueT h bs (bs.length + 1) ++ [.tup (hD (appB (bs.foldl appB h) cs))] := by
  unfold dueT
  rw [List.length_append, show bs.length + [cs].length + 1 = (bs.length + 1) + 1 from rfl, List.range_succ (n := bs.length + 1), List.map_append]
  congr 1
  · refine List.map_congr_left fun j hj => ?_
    have hj := List.mem_range.mp hj
    unfold hAt
    rw [List.take_append_of_le_length (by omega)]
  · unfold hAt
    show [D.tup (hD (List.foldl appB h (List.take (bs.length + 1) (bs ++ [cs]))))] = _
    rw [show bs.length + 1 = (bs ++ [cs]).length by simp, List.take_length, List.foldl_append]
    rfl
section
variable {P : Program} {w : World} {K : PySem.W.Frag} {mg : Str → Option Value} {base : Heap} {cls : Nat → Addr}
abbrev sEvent : Stmt := top 13
theorem scEvent : FnScope ["_law_row"] ["_law_row"] (defScope sEvent) := ⟨rfl, rfl, rfl, by decide +kernel, rfl, by decide +kernel, by decide +kernel⟩
structure Ini (K : PySem.W.Frag) (cls : Nat → Addr) (qual : Str) (st : Stmt) (ps : List Str) (c : Nat) (f : Addr) (fd : FuncData) : Prop where
  mak : Mk K (cls c) f
  dm : Dm K "__init__" qual st ps f fd
abbrev spEvent (C : VD.Ctx) : Sp := spT C (ι := Rw) (fun r => [r.t]) (fun r => [r.t]) (fun r => .fz r.d) (fun r => match r with | .bl cs => cs.length ≤ 100000 | _ => True)
theorem ok_event {f fO fB : Addr} {fd fdO fdB : FuncData} (Dd : Df K mg "_law_event" sEvent ["_law_row"] f fd) (B : Blt mg) (A : Ax K mg cls) (MS : Mk0 K (cls 1)) (IO : Ini K cls "Out.__init__" sIniO ["self", "word"] 2 fO fdO) (IB : Ini K cls "Block.__init__" sIniB ["self", "changes"] 0 fB fdB) :
    FnOk P w K mg base CX0 3 f fd ["_law_row"] (spEvent ⟨K, cls, fl⟩) := by
  have GO : FnOk P w K mg base CX0 1 fO fdO ["self", "word"] (spIniO ⟨K, cls, fl⟩) := ok_iniO IO.dm B A
  have GC : FnOk P w K mg base CX0 1 fB fdB ["self", "changes"] (spIniC ⟨K, cls, fl⟩) := ok_iniC IB.dm B A
  refine fnT Dd.fn scEvent (fun _ => rfl) (fun _ => rfl) fun cdv Ar outer s H E hr => ?_
  refine ⟨_, (pss_cons (ps_if (pt_cmpR (op_eqV (rcP_plain (C := ⟨K, cls, fl⟩) rfl) (hr.mono (Nat.zero_le _))) (pe_ix ix_list (pv 0) pe_int (fun _ _ => rfl)) pe_str (nomark _)) (pss_one (ps_ret (pe_mk0 MS (by rfl) A.m1))) pss_nil)
      (pss_one (ps_ret (pe_ifExp (pt_cmpR (op_eqV (rcP_plain (C := ⟨K, cls, fl⟩) rfl) (hr.mono (Nat.zero_le _))) (pe_ix ix_list (pv 0) pe_int (fun _ _ => rfl)) pe_str (nomark _)) (pe_make IO.mak GO (hr.mono (by decide)) (by rfl) A.m2 IO.dm.b .nil pass0 (pa_cons (pe_ix ix_list (pv 0) pe_int (fun _ _ => rfl)) pa_nil)) (pe_make IB.mak GC (hr.mono (by decide)) (by rfl) A.m0 IB.dm.b .nil pass0 (pa_cons (pe_ix ix_list (pv 0) pe_int (fun _ _ => rfl)) pa_nil)))))), ?_⟩
  have ht : ∀ {r : T} {x : Str}, endT 1 [r] [some r] := fun {r x} k hk => by
    match k, hk with
    | 0, _ => rfl
  rintro r hp
  cases r with
  | sy =>
    refine ex_seq (N1 := fun _ => False) (ex_if (et_test (ev_eqV (d1 := .str "sync") (Ev.ofVw (vw_ix (vw_var rfl) vw_int rfl)) ev_str (p2s _ _ (by decide +kernel) (by decide +kernel)))) (fun _ => ex_ret (Ev.frz (d := .ins 1 []) ev_mk0 (.oi rfl .nil)) ⟨rfl, ht (x := "")⟩) fun h => absurd h (by decide)) fun _ h => h.elim
  | ou n =>
    refine ex_seq (N1 := (· = _)) (ex_if (et_test (ev_eqV (d1 := .str "out") (Ev.ofVw (vw_ix (vw_var rfl) vw_int rfl)) ev_str (p2s _ _ (by decide +kernel) (by decide +kernel)))) (fun h => absurd h (by decide)) fun _ => ex_next rfl) ?_
    rintro _ rfl
    exact ex_ret (ev_if (q := false) (s2 := [some (Rw.ou n).t]) (et_test (ev_eqV (d1 := .str "out") (Ev.ofVw (vw_ix (vw_var rfl) vw_int rfl)) ev_str (p2s _ _ (by decide +kernel) (by decide +kernel)))) (fun _ => Ev.weak (Ev.frz (d := .ins 2 [.int n]) (ev_make (C := ⟨K, cls, fl⟩) (c := 2) (fs := fun x => [("word", .fz x)]) (.int n) (ea_cons (Ev.ofVw (vw_ix (vw_var rfl) vw_int rfl)) ea_nil) True.intro) (.oi rfl (.cons (.fz _) .nil))) (fun z => by cases z)) fun h => absurd h (by decide)) ⟨rfl, ht (x := "")⟩
  | bl cs =>
    have hm : Ev ⟨K, cls, fl⟩ false (tMake (cls 0) (spIniC ⟨K, cls, fl⟩) [] E0 (tCons (tOp (rIxL K) (tVar 0) (tC (.int 1))) tNil)) [some (Rw.bl cs).t] (.oi 0 [("changes", .fz (.tup (cs.map fun c => .tup (chL c))))]) [some (Rw.bl cs).t] :=
      ev_makeF (C := ⟨K, cls, fl⟩) (c := 0) (s := [some (.ol [.fz (.str "block"), .ol (cs.map chT)])]) (t := .ol (cs.map chT)) (t' := .ol (cs.map chT)) (k := fun t' => [some (.ol [.fz (.str "block"), t'])]) (fs := fun cs : List Ch => [("changes", .fz (.tup (cs.map fun c => .tup (chL c))))]) cs (foc_ix (ts := [.fz (.str "block"), .ol (cs.map chT)]) (j := 1) (foc_var (i := 0) rfl) (vw_int (n := 1)) rfl rfl) rfl rfl hp rfl
    refine ex_seq (N1 := (· = _)) (ex_if (et_test (ev_eqV (d1 := .str "block") (Ev.ofVw (vw_ix (vw_var rfl) vw_int rfl)) ev_str (p2s _ _ (by decide +kernel) (by decide +kernel)))) (fun h => absurd h (by decide)) fun _ => ex_next rfl) ?_
    rintro _ rfl
    exact ex_ret (ev_if (q := false) (s2 := [some (Rw.bl cs).t]) (et_test (ev_eqV (d1 := .str "block") (Ev.ofVw (vw_ix (vw_var rfl) vw_int rfl)) ev_str (p2s _ _ (by decide +kernel) (by decide +kernel)))) (fun h => absurd h (by decide)) fun _ => Ev.frz (d := (Rw.bl cs).d) hm (Fz.oi (fs := [("changes", .fz (.tup (cs.map fun c => .tup (chL c))))]) rfl (.cons (.fz _) .nil))) ⟨rfl, ht (x := "")⟩
end
end K36
set_option maxRecDepth 100000
set_option maxHeartbeats 4000000
namespace K36
open PySem PySem.Spec PyProof.Rows L2 VD
abbrev Sx (x : Sr) (n : Nat) (h : List Int) (pl st rs du tn cs wd : Option T) : SD := [some (srT x), some (.fz (.int (n : Nat))), some (.ol ((hD h).map .fz)), pl, st, rs, du, tn, cs, wd]
abbrev duT (h : List Int) (rows : List Rw) : List D := dueT h (blks rows) ((blks rows).length + 1)
def RI (h0 : List Int) (n : Nat) (a : Tc) (s' : SD) : Prop := ∃ pl tn cs wd, s' = Sx a.1 n a.2.1 pl (some (.fz (.lst (hD h0)))) (some (.ol (a.2.2.map Rw.t))) (some (.ol ((duT h0 a.2.2).map .fz))) tn cs wd
def RJ (h0 : List Int) (n : Nat) (rows : List Rw) (b : Ac) (s' : SD) : Prop := ∃ pl tn wd, s' = Sx b.1 n b.2.1 pl (some (.fz (.lst (hD h0)))) (some (.ol (rows.map Rw.t))) (some (.ol ((duT h0 rows).map .fz))) tn (some (.ol (b.2.2.map chT))) wd
theorem fz_chs {C : VD.Ctx} : ∀ cs : List Ch, FzA C (cs.map chT) (cs.map fun c => .lst (chL c))
  | [] => .nil
  | c :: cs => .cons (.ol (FzA.map _)) (fz_chs cs)
theorem gd_chs (cs : List Ch) : Gd 2 (.lst (cs.map fun c => .lst (chL c))) := .lst fun d hd => by
  obtain ⟨c, _, rfl⟩ := List.mem_map.mp hd
  refine .lst fun e he => ?_
  simp only [chL, List.mem_cons, List.not_mem_nil, or_false] at he
  rcases he with rfl | rfl | rfl <;> exact .int
theorem nxP (x : Sr) (m : Int) (h : 0 < m := by decide) (h2 : m < 1073741824 := by decide) : 0 < (x, m).2 ∧ (x, m).2 < 1073741824 := ⟨h, h2⟩
theorem pI {i j : Int} : Plain2 (.int i) (.int j) := (Gd.int (n := 0)).two (Gd.int (n := 0))
theorem at_h {h : List Int} {k : Nat} (hk : k < h.length) : atI ((hD h).map T.fz) (k : Int) = some (.fz (.int (h.getD k 0))) := atN (by
  rw [List.getElem?_map, List.getElem?_map, List.getD_eq_getElem?_getD, List.getElem?_eq_getElem hk]
  rfl)
section
variable {P : Program} {w : World} {K : PySem.W.Frag} {mg : Str → Option Value} {base : Heap} {cls : Nat → Addr}
abbrev sRun : Stmt := top 12
theorem scRun : FnScope ["_law_source_here", "_law_size", "_law_here", "_law_place", "_law_start", "_law_rows", "_law_due", "_law_turn", "_law_changes", "_law_word"] ["_law_source_here", "_law_size"] (defScope sRun) := ⟨rfl, rfl, rfl, by decide +kernel, rfl, by decide +kernel, by decide +kernel⟩
abbrev resR (x : Sr) (n : Nat) : T := .ot [.fz (.lst (hD (here0 x n))), .ol ((runE x n).2.2.map Rw.t), .fz (.lst (duT (here0 x n) (runE x n).2.2))]
abbrev spRun (C : VD.Ctx) : Sp := spO C (ι := Sr × Nat) (fun x => srT x.1) (fun x => [.int (x.2 : Nat)]) (fun x => resR x.1 x.2) (fun x => srT (runE x.1 x.2).1) (fun x => x.2 ≤ 1000)
theorem ok_run {f fN fM : Addr} {fd fdN fdM : FuncData} (Dd : Df K mg "_law_run" sRun ["_law_source_here", "_law_size"] f fd) (DN : Df K mg "_law_next" sNext ["_law_source_here", "_law_many"] fN fdN) (DM : Df K mg "_law_mixed" sMixed ["_law_cell", "_law_k"] fM fdM) (B : Blt mg) (A : Ax K mg cls) :
    FnOk P w K mg base CX0 3 f fd ["_law_source_here", "_law_size"] (spRun ⟨K, cls, fl⟩) := by
  have GN : FnOk P w K mg base CX0 2 fN fdN ["_law_source_here", "_law_many"] (spNext ⟨K, cls, fl⟩) := ok_next DN DM B
  refine fnO Dd.fn scRun (fun _ => rfl) fun cdv Ar outer s H E hr => ?_
  refine ⟨_, (pss_cons (ps_setLc (i := 2) (own := [("_law_place", 3)]) (g := (gName 3)) (tt := tYes) (te := (tCall (spNext ⟨K, cls, fl⟩) [] E0 (tCons (tVar 0) (tCons (tC (.int 9)) tNil)))) rfl scRun.nd rfl rfl (sw_true rfl rfl rfl (by decide +kernel)) (pi_range1 rfl B.range (pa_cons (pv 1) pa_nil)) (blkOk_by (N := ["_law_source_here", "_law_size", "_law_here", "_law_place", "_law_start", "_law_rows", "_law_due", "_law_turn", "_law_changes", "_law_word"]) (sc := defScope sRun) (by decide +kernel)) (fun _ _ _ _ _ => (pg_name (i := 3) scRun.nd rfl (Or.inl rfl))) (fun _ _ _ _ _ => pts_nil) (fun _ _ _ _ _ => (pe_call GN (hr.mono (by decide)) (by rfl) DN.mgf DN.fn.kp DN.b .nil pass0 (pa_cons (pv 0) (pa_cons pe_int pa_nil)))))
      (pss_cons (ps_par3 (i := 4) (j := 5) (l := 6) rfl scRun.nd rfl rfl rfl (by decide) (by decide) (by decide) rfl rfl rfl (pa_cons (pe_callTy call_list_of (by rfl) B.list (by decide +kernel) (pa_cons (pv 2) pa_nil)) (pa_cons (pe_lst pa_nil) (pa_cons (pe_lst (pa_cons (pe_callTy call_tuple_of (by rfl) B.tuple (by decide +kernel) (pa_cons (pv 2) pa_nil)) pa_nil)) pa_nil))) (by rfl))
      (pss_cons (ps_for PassesOwn.never rfl (pi_range1 rfl B.range (pa_cons (pe_call GN (hr.mono (by decide)) (by rfl) DN.mgf DN.fn.kp DN.b .nil pass0 (pa_cons (pv 0) (pa_cons pe_int pa_nil))) pa_nil)) (pg_name (i := 7) scRun.nd rfl (Or.inl rfl))
      (pss_one (ps_if (pt_cmpR (op_eqV (rcP_plain (C := ⟨K, cls, fl⟩) rfl) (hr.mono (Nat.zero_le _))) (pe_call GN (hr.mono (by decide)) (by rfl) DN.mgf DN.fn.kp DN.b .nil pass0 (pa_cons (pv 0) (pa_cons pe_int pa_nil))) pe_int (nomark _)) (pss_one (ps_expr (pe_bm PySem.F.plainAttrs_list PySem.F.slot_list_append PySem.F.type_list_append mt_append (pv 5) (pa_cons (pe_ifExp (pt_cmpR (op_eqV (rcP_plain (C := ⟨K, cls, fl⟩) rfl) (hr.mono (Nat.zero_le _))) (pe_call GN (hr.mono (by decide)) (by rfl) DN.mgf DN.fn.kp DN.b .nil pass0 (pa_cons (pv 0) (pa_cons pe_int pa_nil))) pe_int (nomark _)) (pe_lst (pa_cons pe_str pa_nil)) (pe_lst (pa_cons pe_str (pa_cons (pe_op op_sub (pe_call GN (hr.mono (by decide)) (by rfl) DN.mgf DN.fn.kp DN.b .nil pass0 (pa_cons (pv 0) (pa_cons pe_int pa_nil))) pe_int) pa_nil)))) pa_nil)))) (pss_cons (ps_set (i := 8) scRun.nd rfl (Or.inl rfl) (pe_lst pa_nil))
      (pss_cons (ps_for PassesOwn.never rfl (pi_range1 rfl B.range (pa_cons (pv 1) pa_nil)) (pg_name (i := 3) scRun.nd rfl (Or.inl rfl))
      (pss_one (ps_if (pt_cmpR (op_eqV (rcP_plain (C := ⟨K, cls, fl⟩) rfl) (hr.mono (Nat.zero_le _))) (pe_call GN (hr.mono (by decide)) (by rfl) DN.mgf DN.fn.kp DN.b .nil pass0 (pa_cons (pv 0) (pa_cons pe_int pa_nil))) pe_int (nomark _)) (pss_cons (ps_set (i := 9) scRun.nd rfl (Or.inl rfl) (pe_op op_add (pe_op op_add (pe_ix ix_list (pv 2) (pv 3) (fun _ _ => rfl)) pe_int) (pe_call GN (hr.mono (by decide)) (by rfl) DN.mgf DN.fn.kp DN.b .nil pass0 (pa_cons (pv 0) (pa_cons pe_int pa_nil)))))
      (pss_cons (ps_expr (pe_bm PySem.F.plainAttrs_list PySem.F.slot_list_append PySem.F.type_list_append mt_append (pv 8) (pa_cons (pe_lst (pa_cons (pv 3) (pa_cons (pe_ix ix_list (pv 2) (pv 3) (fun _ _ => rfl)) (pa_cons (pv 9) pa_nil)))) pa_nil)))
      (pss_one (ps_asg (pv 9) (pg_sub (pv 2) (pv 3) set_list))))) pss_nil)))
      (pss_one (ps_if (pt_cmpR (op_neV (neP_plain (C := ⟨K, cls, fl⟩) rfl) (hr.mono (Nat.zero_le _))) (pv 8) (pe_lst pa_nil) (nomark _)) (pss_cons (ps_expr (pe_bm PySem.F.plainAttrs_list PySem.F.slot_list_append PySem.F.type_list_append mt_append (pv 5) (pa_cons (pe_lst (pa_cons pe_str (pa_cons (pv 8) pa_nil))) pa_nil)))
      (pss_one (ps_expr (pe_bm PySem.F.plainAttrs_list PySem.F.slot_list_append PySem.F.type_list_append mt_append (pv 6) (pa_cons (pe_callTy call_tuple_of (by rfl) B.tuple (by decide +kernel) (pa_cons (pv 2) pa_nil)) pa_nil))))) pss_nil)))))))
      (pss_one (ps_ret (pe_tup (pa_cons (pv 4) (pa_cons (pv 5) (pa_cons (pv 6) pa_nil))))))))), ?_⟩
  rintro ⟨x, n⟩ hn
  dsimp only at hn
  have h1 := ev_lc (C := ⟨K, cls, fl⟩) (q := false) (g := gName 3) (tt := tYes) (te := tCall (spNext ⟨K, cls, fl⟩) [] E0 (tCons (tVar 0) (tCons (tC (.int 9)) tNil))) (vs := [3]) (fun i => [some (srT (nxI 9 x i)), some (.fz (.int (n : Nat))), none, none, none, none, none, none, none, none]) (fun _ => true) (fun i => .fz (.int (nxV (nxI 9 x i) 9)))
    (ei_rng1 (C := ⟨K, cls, fl⟩) (s := [some (srT x), some (.fz (.int (n : Nat))), none, none, none, none, none, none, none, none]) (ea_cons (ev_var (i := 1) rfl) ea_nil) (by omega) (by omega)) rfl (fun _ _ => rfl) (by rw [rngD_len]; omega) fun i d hd =>
      ⟨[3], _, _, eg_name, fun _ z => z, et_yes.weak (fun z => by cases z), fun _ => ⟨_, ev_callO (nxI 9 x i, 9) rfl (ea_cons ev_int ea_nil) rfl (nxP _ 9), rfl⟩, fun z => by cases z⟩
  rw [gath_all, rngD_len, Int.toNat_natCast, show (List.range n).map (fun i => T.fz (.int (nxV (nxI 9 x i) 9))) = (hD (here0 x n)).map .fz by rw [here0, hD, List.map_map, List.map_map]; rfl] at h1
  refine ex_seq (N1 := (· = Sx (nxI 9 x n) n (here0 x n) none none none none none none none)) (ex_asg h1 rfl) ?_
  rintro _ rfl
  have hl0 := here0_len (x := x) (n := n)
  refine ex_seq (N1 := (· = Sx (nxI 9 x n) n (here0 x n) none (some (.fz (.lst (hD (here0 x n))))) (some (.ol [])) (some (.ol ((duT (here0 x n) []).map .fz))) none none none)) (ex_par3 (ea_cons (Ev.frz (ev_listVw (vw_var rfl)) (.ol (FzA.map _))) (ea_cons (ev_lst ea_nil) (ea_cons (ev_lst (ea_cons (ev_tupVw (vw_var rfl)) ea_nil) (by show 1 ≤ 100000; decide)) ea_nil))) rfl) ?_
  rintro _ rfl
  refine ex_seq (N1 := RI (here0 x n) n (runE x n)) ?_ ?_
  · refine ex_for (fun i => RI (here0 x n) n (turns n (runA x n) i)) (ei_rng1 (ea_cons (ev_callO (nxI 9 x n, 11) rfl (ea_cons ev_int ea_nil) rfl (nxP _ 11)) ea_nil) ?_ ?_) ⟨none, none, none, none, rfl⟩ ?_ ?_
    · have := nxV_lo (x := nxI 9 x n) (m := 11) (by decide)
      show -(2 ^ 62) ≤ nxV (nxI 9 x n) 11
      omega
    · have := nxV_hi (x := nxI 9 x n) (m := 11) (by decide)
      show nxV (nxI 9 x n) 11 < 2 ^ 62
      omega
    · rintro i d s' hd hI
      have z := turns_ok (h := here0 x n) (n := n) (x := nxS (nxI 9 x n) 11) i
      have hi : i < 11 := by
        have := (rngD_get hd).1
        have h2 := nxV_hi (x := nxI 9 x n) (m := 11) (by decide)
        have h3 : i < (nxV (nxI 9 x n) 11).toNat := this
        omega
      have hI : RI (here0 x n) n (turns n (runA x n) i) s' := hI
      show ∃ ws s2, _ ∧ _ ∧ Ex _ _ _ _ (RI (here0 x n) n (turn n (turns n (runA x n) i))) _ _ (RI (here0 x n) n (turn n (turns n (runA x n) i)))
      revert z hI
      rw [show turns n (nxS (nxI 9 x n) 11, here0 x n, []) i = turns n (runA x n) i from rfl]
      generalize turns n (runA x n) i = a
      intro z hI
      obtain ⟨pl, tn, cs, wd, rfl⟩ := hI
      have zl := z.l
      have hla : a.2.1.length = n := by rw [z.e, foldB_len, hl0]
      have hrl : (a.2.2.map Rw.t).length < 100000 := by rw [List.length_map]; omega
      have hdl : ((duT (here0 x n) a.2.2).map T.fz).length < 100000 := by
        have : (blks a.2.2).length ≤ a.2.2.length := by unfold blks; exact List.length_filterMap_le _ _
        simp [duT, dueT]
        omega
      refine ⟨_, _, eg_name, by decide, ?_⟩
      refine ex_if (et_test (ev_eqV (ev_callO (a.1, 3) rfl (ea_cons ev_int ea_nil) rfl (nxP _ 3)) ev_int pI)) (fun hb => ?_) (fun hb => ?_)
      · have hb : nxV a.1 3 = 0 := eq_of_beq hb
        by_cases q : nxV (nxS a.1 3) 2 = 0
        · refine ex_app rfl (ev_if (q := true) (et_test (ev_eqV (ev_callO (nxS a.1 3, 2) rfl (ea_cons ev_int ea_nil) rfl (nxP _ 2)) ev_int pI)) (fun _ => ev_lst (ea_cons ev_str ea_nil) (by show 1 ≤ 100000; decide)) fun h => absurd q (by simpa using ne_of_beq_false h)) rfl hrl ?_
          unfold turn
          rw [if_pos hb, if_pos q]
          refine ⟨pl, some (.fz d), cs, wd, ?_⟩
          show _ = Sx _ _ _ _ _ (some (.ol ((a.2.2 ++ [Rw.sy]).map Rw.t))) (some (.ol ((dueT _ (blks (a.2.2 ++ [Rw.sy])) ((blks (a.2.2 ++ [Rw.sy])).length + 1)).map .fz))) _ _ _
          rw [blks_app, show blks [Rw.sy] = [] from rfl, List.append_nil, List.map_append]
          rfl
        · refine ex_app rfl (ev_if (q := false) (s2 := Sx (nxS (nxS (nxS a.1 3) 2) 99) n a.2.1 pl (some (.fz (.lst (hD (here0 x n))))) (some (.ol (a.2.2.map Rw.t))) (some (.ol ((duT (here0 x n) a.2.2).map .fz))) (some (.fz d)) cs wd) (et_test (ev_eqV (ev_callO (nxS a.1 3, 2) rfl (ea_cons ev_int ea_nil) rfl (nxP _ 2)) ev_int pI)) (fun h => absurd (eq_of_beq h) q) fun _ => ev_lst (ts := [.fz (.str "out"), .fz (.int (nxV (nxS (nxS a.1 3) 2) 99 - 50))]) (ea_cons ev_str (ea_cons (p := false) (q := true) (ev_I0 (p := false) (q := true) (d := .int (nxV (nxS (nxS a.1 3) 2) 99 - 50)) (ev_callO (nxS (nxS a.1 3) 2, 99) rfl (ea_cons ev_int ea_nil) rfl (nxP _ 99)) ev_int (fun _ => .int _)) ea_nil)) (by show 2 ≤ 100000; decide)) rfl hrl ?_
          unfold turn
          rw [if_pos hb, if_neg q]
          refine ⟨pl, some (.fz d), cs, wd, ?_⟩
          show _ = Sx _ _ _ _ _ (some (.ol ((a.2.2 ++ [Rw.ou _]).map Rw.t))) (some (.ol ((dueT _ (blks (a.2.2 ++ [Rw.ou _])) ((blks (a.2.2 ++ [Rw.ou _])).length + 1)).map .fz))) _ _ _
          rw [blks_app, show blks [Rw.ou _] = [] from rfl, List.append_nil, List.map_append]
          rfl
      · have hb : ¬ nxV a.1 3 = 0 := by simpa using ne_of_beq_false hb
        refine ex_seq (N1 := RJ (here0 x n) n a.2.2 (inn (nxS a.1 3, a.2.1, []) 0)) (ex_asg (ev_lst ea_nil) ⟨_, _, _, rfl⟩) ?_
        rintro s1 hs1
        refine ex_seq (N1 := RJ (here0 x n) n a.2.2 (inn (nxS a.1 3, a.2.1, []) n)) ?_ ?_
        · obtain ⟨pl, tn, wd, rfl⟩ := hs1
          refine ex_for (fun k => RJ (here0 x n) n a.2.2 (inn (nxS a.1 3, a.2.1, []) k)) (ei_rng1 (ea_cons (ev_var rfl) ea_nil) (by omega) (by omega)) ⟨pl, tn, wd, rfl⟩ ?_ ?_
          · rintro k d s2 hd hJ
            obtain ⟨hk, rfl⟩ := rngD_get hd
            rw [Int.toNat_natCast] at hk
            rw [Int.zero_add]
            have hJ : RJ (here0 x n) n a.2.2 (inn (nxS a.1 3, a.2.1, []) k) s2 := hJ
            have y := inn_ok (x := nxS a.1 3) (h := a.2.1) (n := n) k (by omega)
            have yl := inn_len (x := nxS a.1 3) (h := a.2.1) (n := n) (k := k) (by omega)
            show ∃ ws s2, _ ∧ _ ∧ Ex _ _ _ _ (RJ (here0 x n) n a.2.2 (inn (nxS a.1 3, a.2.1, []) (k + 1))) _ _ (RJ (here0 x n) n a.2.2 (inn (nxS a.1 3, a.2.1, []) (k + 1)))
            rw [inn_succ]
            revert y yl hJ
            generalize inn (nxS a.1 3, a.2.1, []) k = b
            intro hJ y yl
            obtain ⟨pl, tn, wd, rfl⟩ := hJ
            have hkb : k < b.2.1.length := by rw [yl, hla]; exact hk
            have hcl := y.l
            refine ⟨_, _, eg_name, by decide, ?_⟩
            refine ex_if (et_test (ev_eqV (ev_callO (b.1, 3) rfl (ea_cons ev_int ea_nil) rfl (nxP _ 3)) ev_int pI)) (fun hc => ?_) (fun hc => ?_)
            · have hc : nxV b.1 3 = 0 := eq_of_beq hc
              refine ex_seq (N1 := (· = _)) (ex_asg (ev_I0 (ev_I0 (Ev.ofVw (vw_ix (vw_var rfl) (vw_var rfl) (at_h hkb))) ev_int (fun _ => .int _)) (ev_callO (nxS b.1 3, 9) rfl (ea_cons ev_int ea_nil) rfl (nxP _ 9)) (fun _ => .int _)) rfl) ?_
              rintro _ rfl
              refine ex_seq (N1 := (· = _)) (ex_app rfl (ev_lst (ea_cons (ev_var rfl) (ea_cons (Ev.ofVw (vw_ix (vw_var rfl) (vw_var rfl) (at_h hkb))) (ea_cons (ev_var rfl) ea_nil))) (by show 3 ≤ 100000; decide)) rfl (by rw [List.length_map]; omega) rfl) ?_
              rintro _ rfl
              refine ex_setIx (ev_var rfl) rfl (vw_var rfl) (ixNn (by rw [List.length_map, List.length_map]; exact hkb)) ?_
              unfold inner
              rw [if_pos hc]
              refine ⟨some (.fz (.int (k : Nat))), tn, some (.fz (.int (b.2.1.getD k 0 + 1 + nxV (nxS b.1 3) 9))), ?_⟩
              have e : ∀ v : Int, (hD (b.2.1.set k v)).map T.fz = ((hD b.2.1).map T.fz).set k (.fz (.int v)) := fun v => by rw [hD, hD, List.map_set, List.map_set]
              show _ = [_, _, some (T.ol ((hD (b.2.1.set k (b.2.1.getD k 0 + 1 + nxV (nxS b.1 3) 9))).map T.fz)), _, _, _, _, _, some (T.ol ((b.2.2 ++ [_]).map chT)), _]
              rw [List.map_append, e]
              rfl
            · have hc : ¬ nxV b.1 3 = 0 := by simpa using ne_of_beq_false hc
              refine ex_next ?_
              unfold inner
              rw [if_neg hc]
              exact ⟨_, _, _, rfl⟩
          · intro s2 h
            rw [rngD_len, Int.toNat_natCast] at h
            exact h
        · have y := inn_ok (x := nxS a.1 3) (h := a.2.1) (n := n) n (Nat.le_refl _)
          unfold turn
          rw [if_neg hb]
          revert y
          generalize inn (nxS a.1 3, a.2.1, []) n = b
          rintro y _ ⟨pl, tn, wd, rfl⟩
          refine ex_if (et_test (ev_neNil (vw_var rfl) (fz_chs b.2.2) ((gd_chs _).two (Gd.lst (n := 0) (by intro d hd; cases hd))))) (fun hc => ?_) (fun hc => ?_)
          · have hc : b.2.2 ≠ [] := fun e => by
              rw [e] at hc
              exact absurd hc (by decide)
            rw [if_neg hc]
            refine ex_seq (N1 := (· = _)) (ex_app rfl (ev_lst (ea_cons ev_str (ea_cons (ev_mv rfl) ea_nil)) (by show 2 ≤ 100000; decide)) rfl hrl rfl) ?_
            rintro _ rfl
            refine ex_app rfl (ev_tupVw (vw_var rfl)) rfl hdl ⟨pl, tn, none, wd, ?_⟩
            show _ = Sx _ _ _ _ _ (some (.ol ((a.2.2 ++ [Rw.bl b.2.2]).map Rw.t))) (some (.ol ((dueT _ (blks (a.2.2 ++ [Rw.bl b.2.2])) ((blks (a.2.2 ++ [Rw.bl b.2.2])).length + 1)).map .fz))) _ _ _
            rw [blks_app, show blks [Rw.bl b.2.2] = [b.2.2] from rfl, dueT_app, List.map_append, List.map_append, ← z.e, ← y.e]
            rfl
          · have hc : b.2.2 = [] := by
              cases q : b.2.2 with
              | nil => rfl
              | cons c l =>
                rw [q] at hc
                cases hc
            rw [if_pos hc]
            exact ex_next ⟨_, _, _, _, rfl⟩
    · intro s' h
      rw [rngD_len] at h
      exact h
  · rintro _ ⟨pl, tn, cs, wd, rfl⟩
    exact ex_ret (ev_tupO (ea_cons (ev_var rfl) (ea_cons (ev_mv rfl) (ea_cons (Ev.frz (ev_mv rfl) (.ol (FzA.map _))) ea_nil))) (by show 3 ≤ 100000; decide)) ⟨rfl, rfl⟩
end
end K36
set_option maxRecDepth 100000
set_option maxHeartbeats 4000000
namespace K36
open PySem PySem.Spec PyProof.Rows L2 VD
/-! ### what may be compared, as a computation -/
def q2 (d e : D) : Bool := d.plain && e.plain && SeqAt.shaped d.py && SeqAt.shaped e.py
theorem q2_ok {d e : D} (h : q2 d e = true) : Plain2 d e := by
  simp only [q2, Bool.and_eq_true] at h
  exact ⟨h.1.1.1, h.1.1.2, h.1.2, h.2⟩
def qC (c : Nat) (qR : List D → List D → Bool) (d e : D) : Bool := match d with
  | .ins c' l => c' == c && e.cb 5 && (match e with
    | .ins c'' k => if c'' == c then qR l k else qR l l
    | _ => qR l l)
  | _ => false
theorem qC_ok {c : Nat} {qR : List D → List D → Bool} {R : List D → List D → Prop} (hq : ∀ l k, qR l k = true → R l k) {d e : D} (h : qC c qR d e = true) : prC c R d e := by
  cases d with
  | ins c' l =>
    simp only [qC, Bool.and_eq_true] at h
    obtain ⟨⟨h1, h2⟩, h3⟩ := h
    obtain rfl := eq_of_beq h1
    refine ⟨l, rfl, h2, ?_⟩
    cases e with
    | ins c'' k =>
      dsimp only at h3
      split at h3
      · next q => exact .inl ⟨k, by rw [eq_of_beq q], hq _ _ h3⟩
      · next q => exact .inr ⟨decide_eq_false fun e => q (by rw [e]; exact beq_self_eq_true _), l, hq _ _ h3⟩
    | _ => exact .inr ⟨rfl, l, hq _ _ h3⟩
  | _ => cases h
def qr0 (l k : List D) : Bool := l.isEmpty && k.isEmpty
def qr1 : List D → List D → Bool
  | [a], [b] => q2 a b
  | _, _ => false
def qr3 : List D → List D → Bool
  | [a, b, c], [a', b', c'] => q2 a a' && q2 b b' && q2 c c'
  | _, _ => false
theorem qr0_ok (l k : List D) (h : qr0 l k = true) : r0 l k := by
  simp only [qr0, Bool.and_eq_true, List.isEmpty_iff] at h
  exact h
theorem qr1_ok (l k : List D) (h : qr1 l k = true) : r1 l k := by
  unfold qr1 at h
  split at h
  · exact ⟨_, _, rfl, rfl, q2_ok h⟩
  · cases h
theorem qr3_ok (l k : List D) (h : qr3 l k = true) : r3 l k := by
  unfold qr3 at h
  split at h
  · simp only [Bool.and_eq_true] at h
    exact ⟨_, _, _, _, _, _, rfl, rfl, q2_ok h.1.1, q2_ok h.1.2, q2_ok h.2⟩
  · cases h
def qL (d e : D) : Bool := qC 0 qr1 d e || (qC 1 qr0 d e || (qC 2 qr1 d e || qC 3 qr3 d e))
def qU1 (d e : D) : Bool := q2 d e || (qL d e || (!isI d && qL e d))
theorem qL_ok {d e : D} (h : qL d e = true) : prC 0 r1 d e ∨ prC 1 r0 d e ∨ prC 2 r1 d e ∨ prC 3 r3 d e := by
  simp only [qL, Bool.or_eq_true] at h
  rcases h with h | h | h | h
  · exact .inl (qC_ok qr1_ok h)
  · exact .inr (.inl (qC_ok qr0_ok h))
  · exact .inr (.inr (.inl (qC_ok qr1_ok h)))
  · exact .inr (.inr (.inr (qC_ok qr3_ok h)))
theorem qU1_ok {d e : D} (h : qU1 d e = true) : U1 d e := by
  simp only [qU1, Bool.or_eq_true, Bool.and_eq_true, Bool.not_eq_true'] at h
  rcases h with h | h | h
  · exact .inl (q2_ok h)
  · exact .inr (.inl (qL_ok h))
  · exact .inr (.inr ⟨h.1, qL_ok h.2⟩)
def qE : D → D → Bool
  | .tup l, .tup m => (List.range l.length).all fun i => match l[i]?, m[i]? with
    | some a, some b => (qC 0 qr1 a b || (qC 1 qr0 a b || qC 2 qr1 a b)) && (a.cb 5 && isI b)
    | _, _ => true
  | _, _ => false
theorem qE_ok {d e : D} (h : qE d e = true) : rE d e := by
  unfold qE at h
  split at h
  · next l m =>
    refine ⟨l, m, rfl, rfl, fun i a b ha hb => ?_⟩
    have z := List.all_eq_true.mp h i (List.mem_range.mpr (List.getElem?_eq_some_iff.mp ha).1)
    rw [ha, hb] at z
    simp only [Bool.or_eq_true, Bool.and_eq_true] at z
    obtain ⟨z1, z2, z3⟩ := z
    refine ⟨?_, z2, z3⟩
    rcases z1 with h | h | h
    · exact .inl (qC_ok qr1_ok h)
    · exact .inr (.inl (qC_ok qr0_ok h))
    · exact .inr (.inr (qC_ok qr1_ok h))
  · cases h
def qr4 : List D → List D → Bool
  | [a, b, c], [a', b', c'] => q2 a a' && (qE b b' && qU1 c c')
  | _, _ => false
theorem qr4_ok (l k : List D) (h : qr4 l k = true) : r4 l k := by
  unfold qr4 at h
  split at h
  · simp only [Bool.and_eq_true] at h
    exact ⟨_, _, _, _, _, _, rfl, rfl, q2_ok h.1, qE_ok h.2.1, qU1_ok h.2.2⟩
  · cases h
def qU2 (d e : D) : Bool := qU1 d e || (qC 4 qr4 d e || (!isI d && qC 4 qr4 e d))
theorem qU2_ok {d e : D} (h : qU2 d e = true) : U2 d e := by
  simp only [qU2, Bool.or_eq_true, Bool.and_eq_true, Bool.not_eq_true'] at h
  rcases h with h | h | h
  · exact .inl (qU1_ok h)
  · exact .inr (.inl (qC_ok qr4_ok h))
  · exact .inr (.inr ⟨h.1, qC_ok qr4_ok h.2⟩)
def U2n (d e : D) : Prop := prC 0 r1 d e ∨ prC 1 r0 d e ∨ prC 2 r1 d e ∨ prC 3 r3 d e ∨ prC 4 r4 d e
def qU2n (d e : D) : Bool := qC 0 qr1 d e || (qC 1 qr0 d e || (qC 2 qr1 d e || (qC 3 qr3 d e || qC 4 qr4 d e)))
theorem qU2n_ok {d e : D} (h : qU2n d e = true) : U2n d e := by
  simp only [qU2n, Bool.or_eq_true] at h
  rcases h with h | h | h | h | h
  · exact .inl (qC_ok qr1_ok h)
  · exact .inr (.inl (qC_ok qr0_ok h))
  · exact .inr (.inr (.inl (qC_ok qr1_ok h)))
  · exact .inr (.inr (.inr (.inl (qC_ok qr3_ok h))))
  · exact .inr (.inr (.inr (.inr (qC_ok qr4_ok h))))
/-! ### the things that the law compares -/
def bD0 : D := .ins 0 [.tup [.tup [.int 1, .int 2, .int 3]]]
def stD0 : D := .ins 3 [.str "none", .int 1, .int 2]
def same0 : List D := [.tup [bD0, .ins 0 [.tup [.tup [.int 1, .int 2, .int 3]]]], .tup [.ins 1 [], .ins 1 []], .tup [.ins 2 [.int 4], .ins 2 [.int 4]], .tup [stD0, .ins 3 [.str "none", .int 1, .int 2]]]
def same1 : List D := same0 ++ [.tup [.ins 4 [.tup [.int 1], .tup [bD0, .ins 1 []], stD0], .ins 4 [.tup [.int 1], .tup [bD0, .ins 1 []], .ins 3 [.str "none", .int 1, .int 2]]]]
def someA : List D := [bD0, .ins 0 [.tup [.tup [.int 1, .int 2, .int 4]]], .ins 0 [.tup [.tup [.int 1, .int 2, .int 3], .tup [.int 2, .int 0, .int 1]]], .ins 0 [.tup []], .ins 1 [], .ins 2 [.int 4], .ins 2 [.int 5], .ins 2 [.int 0], stD0]
def someB : List D := [.ins 3 [.str "index", .int 1, .int 2], .ins 3 [.str "none", .int 2, .int 2], .ins 3 [.str "none", .int 1, .int 3], .ins 4 [.tup [.int 1], .tup [], .non], .ins 4 [.tup [.int 2], .tup [], .non]]
def someC : List D := [.ins 4 [.tup [.int 1], .tup [.ins 1 []], .non], .ins 4 [.tup [.int 1], .tup [], stD0], .non, .int 4, .str "none", .tup [.tup [.int 1, .int 2, .int 3]], .tup [.int 1, .int 2], .lst [.int 4]]
def someD : List D := someA ++ someB ++ someC
def sameOk : Bool := same1.all fun d => match d with
  | .tup [a, b] => D.beq a b && (qU2 a b && qU2n a b)
  | _ => false
def someOk : Bool := (List.range someD.length).all fun i => (cutD someD none (some (i : Int))).all fun e => qU2 (someD.getD i .non) e && !D.beq (someD.getD i .non) e
theorem same_ok : sameOk = true := by decide +kernel
theorem some_ok : someOk = true := by decide +kernel
section
variable {P : Program} {w : World} {K : PySem.W.Frag} {mg : Str → Option Value} {base : Heap} {cls : Nat → Addr}
theorem U2nok {X : Cx} (q : Qs X.prog X.w X.K X.mg X.base cls) (q4 : Qe X.prog X.w X.K X.mg X.base cls 3 4 r4) : NeP X ⟨X.K, cls, fl⟩ 4 U2n :=
  (q.q0.ne.imp (fun _ _ h => h) (by decide)).or ((q.q1.ne.imp (fun _ _ h => h) (by decide)).or ((q.q2.ne.imp (fun _ _ h => h) (by decide)).or ((q.q3.ne.imp (fun _ _ h => h) (by decide)).or q4.ne)))
theorem evB {p : Bool} {s s1 : SD} {tr : TA} {E : XK} (b : Bool) (l : List (Bool × List D)) (hl : l.length ≤ 100000) (h : EvA ⟨K, cls, fl⟩ p tr s [.fz (seqD b (l.map fun y => seqD y.1 y.2))] s1) :
    Ev ⟨K, cls, fl⟩ p (tMake (cls 0) (spIniB ⟨K, cls, fl⟩) [] E tr) s (.fz (.ins 0 [.tup (l.map fun y => .tup y.2)])) s1 :=
  Ev.frz (ev_make (C := ⟨K, cls, fl⟩) (c := 0) (args := fun x : Bool × List (Bool × List D) => [seqD x.1 (x.2.map fun y => seqD y.1 y.2)]) (fs := fun x => [("changes", .fz (.tup (x.2.map fun y => .tup y.2)))]) (b, l) h hl) (.oi rfl (.cons (.fz _) .nil))
theorem evO {p : Bool} {s s1 : SD} {tr : TA} {E : XK} (d : D) (h : EvA ⟨K, cls, fl⟩ p tr s [.fz d] s1) : Ev ⟨K, cls, fl⟩ p (tMake (cls 2) (spIniO ⟨K, cls, fl⟩) [] E tr) s (.fz (.ins 2 [d])) s1 :=
  Ev.frz (ev_make (C := ⟨K, cls, fl⟩) (c := 2) (args := fun x : D => [x]) (fs := fun x => [("word", .fz x)]) d h True.intro) (.oi rfl (.cons (.fz _) .nil))
theorem evT {p : Bool} {s s1 : SD} {tr : TA} {E : XK} (a b c : D) (h : EvA ⟨K, cls, fl⟩ p tr s [.fz a, .fz b, .fz c] s1) : Ev ⟨K, cls, fl⟩ p (tMake (cls 3) (spIniT ⟨K, cls, fl⟩) [] E tr) s (.fz (.ins 3 [a, b, c])) s1 :=
  Ev.frz (ev_make (C := ⟨K, cls, fl⟩) (c := 3) (args := fun x : D × D × D => [x.1, x.2.1, x.2.2]) (fs := fun x => [("word", .fz x.1), ("line", .fz x.2.1), ("column", .fz x.2.2)]) (a, b, c) h True.intro) (.oi rfl (.cons (.fz _) (.cons (.fz _) (.cons (.fz _) .nil))))
theorem evR {p : Bool} {s s1 : SD} {tr : TA} {E : XK} (b : Bool) (l : List D) (b' : Bool) (m : List D) (c : D) (h : EvA ⟨K, cls, fl⟩ p tr s [.fz (seqD b l), .fz (seqD b' m), .fz c] s1) :
    Ev ⟨K, cls, fl⟩ p (tMake (cls 4) (spIniR ⟨K, cls, fl⟩) [] E tr) s (.fz (.ins 4 [.tup l, .tup m, c])) s1 :=
  Ev.frz (ev_make (C := ⟨K, cls, fl⟩) (c := 4) (args := fun x : (Bool × List D) × (Bool × List D) × D => [seqD x.1.1 x.1.2, seqD x.2.1.1 x.2.1.2, x.2.2]) (fs := fun x => [("start", .fz (.tup x.1.2)), ("events", .fz (.tup x.2.1.2)), ("stop", .fz x.2.2)]) ((b, l), (b', m), c) h True.intro) (.oi rfl (.cons (.fz _) (.cons (.fz _) (.cons (.fz _) .nil))))
end
end K36
set_option maxRecDepth 100000
set_option maxHeartbeats 4000000
namespace K36
open PySem PySem.Spec PyProof.Rows L2 VD
theorem gath_none {n : Nat} {v : Nat → T} : gath n (fun _ => false) v = [] := by
  unfold gath
  rw [List.filter_eq_nil_iff.mpr (fun _ _ => by decide)]
  rfl
theorem pNil : Plain2 (.lst []) (.lst []) := ⟨rfl, rfl, rfl, rfl⟩
section
variable {P : Program} {w : World} {K : PySem.W.Frag} {mg : Str → Option Value} {base : Heap} {cls : Nat → Addr}
abbrev sUnl : Stmt := top 14
theorem scUnl : FnScope ["_law_block", "_law_stop", "_law_same", "_law_pair", "_law_some", "_law_at", "_law_one", "_law_other"] [] (defScope sUnl) := ⟨rfl, rfl, rfl, by decide +kernel, rfl, by decide +kernel, by decide +kernel⟩
abbrev Sy (sm so : Option T) (at_ one : Option T) : SD := [some (.fz bD0), some (.fz stD0), sm, none, so, at_, one, none]
theorem ok_unl {f fO fB fT fR : Addr} {fd fdO fdB fdT fdR : FuncData} (Dd : Df K mg "_law_unlike_right" sUnl [] f fd) (B : Blt mg) (A : Ax K mg cls) (MS : Mk0 K (cls 1)) (IO : Ini K cls "Out.__init__" sIniO ["self", "word"] 2 fO fdO) (IB : Ini K cls "Block.__init__" sIniB ["self", "changes"] 0 fB fdB)
    (IT : Ini K cls "Stop.__init__" sIniT ["self", "word", "line", "column"] 3 fT fdT) (IR : Ini K cls "Run.__init__" sIniR ["self", "start", "events", "stop"] 4 fR fdR) (q : Qs P w K mg base cls) (q4 : Qe P w K mg base cls 3 4 r4) :
    FnOk P w K mg base CX0 5 f fd [] (spP ⟨K, cls, fl⟩ (ι := Unit) (fun _ => []) (fun _ => .fz (.bl true)) (fun _ => True)) := by
  have GO : FnOk P w K mg base CX0 1 fO fdO ["self", "word"] (spIniO ⟨K, cls, fl⟩) := ok_iniO IO.dm B A
  have GB : FnOk P w K mg base CX0 1 fB fdB ["self", "changes"] (spIniB ⟨K, cls, fl⟩) := ok_iniB IB.dm B A
  have GT : FnOk P w K mg base CX0 1 fT fdT ["self", "word", "line", "column"] (spIniT ⟨K, cls, fl⟩) := ok_iniT IT.dm B A
  have GR : FnOk P w K mg base CX0 1 fR fdR ["self", "start", "events", "stop"] (spIniR ⟨K, cls, fl⟩) := ok_iniR IR.dm B A
  refine fnP Dd.fn scUnl (fun _ => rfl) fun cdv Ar outer s H E hr => ?_
  refine ⟨_, (pss_cons (ps_par (i := 0) (j := 1) rfl scUnl.nd rfl rfl (by decide) rfl rfl (pa_cons (pe_make IB.mak GB (hr.mono (by decide)) (by rfl) A.m0 IB.dm.b .nil pass0 (pa_cons (pe_lst (pa_cons (pe_tup (pa_cons pe_int (pa_cons pe_int (pa_cons pe_int pa_nil)))) pa_nil)) pa_nil)) (pa_cons (pe_make IT.mak GT (hr.mono (by decide)) (by rfl) A.m3 IT.dm.b .nil pass0 (pa_cons pe_str (pa_cons pe_int (pa_cons pe_int pa_nil)))) pa_nil)) (by rfl))
      (pss_cons (ps_set (i := 2) scUnl.nd rfl (Or.inl rfl) (pe_lst (pa_cons (pe_tup (pa_cons (pv 0) (pa_cons (pe_make IB.mak GB (hr.mono (by decide)) (by rfl) A.m0 IB.dm.b .nil pass0 (pa_cons (pe_tup (pa_cons (pe_lst (pa_cons pe_int (pa_cons pe_int (pa_cons pe_int pa_nil)))) pa_nil)) pa_nil)) pa_nil))) (pa_cons (pe_tup (pa_cons (pe_mk0 MS (by rfl) A.m1) (pa_cons (pe_mk0 MS (by rfl) A.m1) pa_nil))) (pa_cons (pe_tup (pa_cons (pe_make IO.mak GO (hr.mono (by decide)) (by rfl) A.m2 IO.dm.b .nil pass0 (pa_cons pe_int pa_nil)) (pa_cons (pe_make IO.mak GO (hr.mono (by decide)) (by rfl) A.m2 IO.dm.b .nil pass0 (pa_cons pe_int pa_nil)) pa_nil))) (pa_cons (pe_tup (pa_cons (pv 1) (pa_cons (pe_make IT.mak GT (hr.mono (by decide)) (by rfl) A.m3 IT.dm.b .nil pass0 (pa_cons pe_str (pa_cons pe_int (pa_cons pe_int pa_nil)))) pa_nil))) pa_nil))))))
      (pss_cons (ps_expr (pe_bm PySem.F.plainAttrs_list PySem.F.slot_list_append PySem.F.type_list_append mt_append (pv 2) (pa_cons (pe_tup (pa_cons (pe_make IR.mak GR (hr.mono (by decide)) (by rfl) A.m4 IR.dm.b .nil pass0 (pa_cons (pe_lst (pa_cons pe_int pa_nil)) (pa_cons (pe_lst (pa_cons (pv 0) (pa_cons (pe_mk0 MS (by rfl) A.m1) pa_nil))) (pa_cons (pv 1) pa_nil)))) (pa_cons (pe_make IR.mak GR (hr.mono (by decide)) (by rfl) A.m4 IR.dm.b .nil pass0 (pa_cons (pe_tup (pa_cons pe_int pa_nil)) (pa_cons (pe_tup (pa_cons (pv 0) (pa_cons (pe_mk0 MS (by rfl) A.m1) pa_nil))) (pa_cons (pe_make IT.mak GT (hr.mono (by decide)) (by rfl) A.m3 IT.dm.b .nil pass0 (pa_cons pe_str (pa_cons pe_int (pa_cons pe_int pa_nil)))) pa_nil)))) pa_nil))) pa_nil)))
      (pss_cons (ps_if (pt_cmpR (op_neV (neP_plain (C := ⟨K, cls, fl⟩) rfl) (hr.mono (Nat.zero_le _))) (pe_lc (own := [("_law_pair", 3)]) (g := (gName 3)) (tt := (tOr (tNot (tTest (tOp (rEqV ⟨K, cls, fl⟩ U2) (tOp (rIxT K) (tVar 3) (tC (.int 0))) (tOp (rIxT K) (tVar 3) (tC (.int 1)))))) (tTest (tOp (rNeV ⟨K, cls, fl⟩ U2n) (tOp (rIxT K) (tVar 3) (tC (.int 0))) (tOp (rIxT K) (tVar 3) (tC (.int 1))))))) (te := (tVar 3)) rfl scUnl.nd (pi_list (pv 2)) (blkOk_by (N := ["_law_block", "_law_stop", "_law_same", "_law_pair", "_law_some", "_law_at", "_law_one", "_law_other"]) (sc := defScope sUnl) (by decide +kernel)) (fun _ _ _ _ _ => (pg_name (i := 3) scUnl.nd rfl (Or.inl rfl))) (fun _ _ _ _ _ => (pts_one (PW.pt (pw_or (pt_not (pt_cmpR (op_eqV (U2ok q q4) (hr.mono (by decide))) (pe_ix ix_tup (pv 3) pe_int (fun _ _ => rfl)) (pe_ix ix_tup (pv 3) pe_int (fun _ _ => rfl)) (nomark _))) (pw_or1 (pt_cmpR (op_neV (U2nok q q4) hr) (pe_ix ix_tup (pv 3) pe_int (fun _ _ => rfl)) (pe_ix ix_tup (pv 3) pe_int (fun _ _ => rfl)) (nomark _))))))) (fun _ _ _ _ _ => (pv 3))) (pe_lst pa_nil) (nomark _)) (pss_one (ps_ret pe_bl)) pss_nil)
      (pss_cons (ps_set (i := 4) scUnl.nd rfl (Or.inl rfl) (pe_lst (pa_cons (pv 0) (pa_cons (pe_make IB.mak GB (hr.mono (by decide)) (by rfl) A.m0 IB.dm.b .nil pass0 (pa_cons (pe_lst (pa_cons (pe_tup (pa_cons pe_int (pa_cons pe_int (pa_cons pe_int pa_nil)))) pa_nil)) pa_nil)) (pa_cons (pe_make IB.mak GB (hr.mono (by decide)) (by rfl) A.m0 IB.dm.b .nil pass0 (pa_cons (pe_lst (pa_cons (pe_tup (pa_cons pe_int (pa_cons pe_int (pa_cons pe_int pa_nil)))) (pa_cons (pe_tup (pa_cons pe_int (pa_cons pe_int (pa_cons pe_int pa_nil)))) pa_nil))) pa_nil)) (pa_cons (pe_make IB.mak GB (hr.mono (by decide)) (by rfl) A.m0 IB.dm.b .nil pass0 (pa_cons (pe_lst pa_nil) pa_nil)) (pa_cons (pe_mk0 MS (by rfl) A.m1) (pa_cons (pe_make IO.mak GO (hr.mono (by decide)) (by rfl) A.m2 IO.dm.b .nil pass0 (pa_cons pe_int pa_nil)) (pa_cons (pe_make IO.mak GO (hr.mono (by decide)) (by rfl) A.m2 IO.dm.b .nil pass0 (pa_cons pe_int pa_nil)) (pa_cons (pe_make IO.mak GO (hr.mono (by decide)) (by rfl) A.m2 IO.dm.b .nil pass0 (pa_cons pe_int pa_nil)) (pa_cons (pv 1) pa_nil)))))))))))
      (pss_cons (ps_set (i := 4) scUnl.nd rfl (Or.inl rfl) (pe_op op_catS (pv 4) (pe_lst (pa_cons (pe_make IT.mak GT (hr.mono (by decide)) (by rfl) A.m3 IT.dm.b .nil pass0 (pa_cons pe_str (pa_cons pe_int (pa_cons pe_int pa_nil)))) (pa_cons (pe_make IT.mak GT (hr.mono (by decide)) (by rfl) A.m3 IT.dm.b .nil pass0 (pa_cons pe_str (pa_cons pe_int (pa_cons pe_int pa_nil)))) (pa_cons (pe_make IT.mak GT (hr.mono (by decide)) (by rfl) A.m3 IT.dm.b .nil pass0 (pa_cons pe_str (pa_cons pe_int (pa_cons pe_int pa_nil)))) (pa_cons (pe_make IR.mak GR (hr.mono (by decide)) (by rfl) A.m4 IR.dm.b .nil pass0 (pa_cons (pe_lst (pa_cons pe_int pa_nil)) (pa_cons (pe_lst pa_nil) (pa_cons pe_non pa_nil)))) (pa_cons (pe_make IR.mak GR (hr.mono (by decide)) (by rfl) A.m4 IR.dm.b .nil pass0 (pa_cons (pe_lst (pa_cons pe_int pa_nil)) (pa_cons (pe_lst pa_nil) (pa_cons pe_non pa_nil)))) pa_nil))))))))
      (pss_cons (ps_set (i := 4) scUnl.nd rfl (Or.inl rfl) (pe_op op_catS (pv 4) (pe_lst (pa_cons (pe_make IR.mak GR (hr.mono (by decide)) (by rfl) A.m4 IR.dm.b .nil pass0 (pa_cons (pe_lst (pa_cons pe_int pa_nil)) (pa_cons (pe_lst (pa_cons (pe_mk0 MS (by rfl) A.m1) pa_nil)) (pa_cons pe_non pa_nil)))) (pa_cons (pe_make IR.mak GR (hr.mono (by decide)) (by rfl) A.m4 IR.dm.b .nil pass0 (pa_cons (pe_lst (pa_cons pe_int pa_nil)) (pa_cons (pe_lst pa_nil) (pa_cons (pv 1) pa_nil)))) (pa_cons pe_non (pa_cons pe_int (pa_cons pe_str (pa_cons (pe_tup (pa_cons (pe_tup (pa_cons pe_int (pa_cons pe_int (pa_cons pe_int pa_nil)))) pa_nil)) (pa_cons (pe_tup (pa_cons pe_int (pa_cons pe_int pa_nil))) (pa_cons (pe_lst (pa_cons pe_int pa_nil)) pa_nil)))))))))))
      (pss_cons (ps_for PassesOwn.never rfl (pi_enum (by rfl) B.enumerate (pa_cons (pv 4) pa_nil)) (pg_tup rfl (pgs_cons (pg_name (i := 5) scUnl.nd rfl (Or.inl rfl)) (pgs_cons (pg_name (i := 6) scUnl.nd rfl (Or.inr rfl)) pgs_nil)))
      (pss_one (ps_if (pt_cmpR (op_neV (neP_plain (C := ⟨K, cls, fl⟩) rfl) (hr.mono (Nat.zero_le _))) (pe_lc (own := [("_law_other", 7)]) (g := (gName 7)) (tt := (tTest (tOp (rEqV ⟨K, cls, fl⟩ U2) (tVar 6) (tVar 7)))) (te := (tVar 7)) rfl scUnl.nd (pi_list (pe_slice sl_list (pv 4) po_none (po_some (pv 5)))) (blkOk_by (N := ["_law_block", "_law_stop", "_law_same", "_law_pair", "_law_some", "_law_at", "_law_one", "_law_other"]) (sc := defScope sUnl) (by decide +kernel)) (fun _ _ _ _ _ => (pg_name (i := 7) scUnl.nd rfl (Or.inl rfl))) (fun _ _ _ _ _ => (pts_one (pt_cmpR (op_eqV (U2ok q q4) (hr.mono (by decide))) (pv 6) (pv 7) (nomark _)))) (fun _ _ _ _ _ => (pv 7))) (pe_lst pa_nil) (nomark _)) (pss_one (ps_ret pe_bl)) pss_nil)))
      (pss_one (ps_ret pe_bl)))))))))), ?_⟩
  rintro ⟨⟩ _
  refine ex_seq (N1 := (· = Sy none none none none)) (ex_par (ea_cons (evB true [(false, [.int 1, .int 2, .int 3])] (by decide) (ea_cons (Ev.frz (ev_lst (ts := [.fz (.tup [.int 1, .int 2, .int 3])]) (ea_cons (ev_tup (ds := [.int 1, .int 2, .int 3]) (ea_cons ev_int (ea_cons ev_int (ea_cons ev_int ea_nil)))) ea_nil)) (.ol (ds := [.tup [.int 1, .int 2, .int 3]]) (.cons (.fz _) .nil))) ea_nil)) (ea_cons (evT (.str "none") (.int 1) (.int 2) (ea_cons ev_str (ea_cons ev_int (ea_cons ev_int ea_nil)))) ea_nil)) rfl) ?_
  rintro _ rfl
  refine ex_seq (N1 := (· = Sy (some (.ol (same0.map .fz))) none none none)) (ex_asg (ev_lst (ea_cons (ev_tup (ds := [bD0, .ins 0 [.tup [.tup [.int 1, .int 2, .int 3]]]]) (ea_cons (ev_var rfl) (ea_cons (evB false [(true, [.int 1, .int 2, .int 3])] (by decide) (ea_cons (ev_tup (ds := [.lst [.int 1, .int 2, .int 3]]) (ea_cons (Ev.frz (ev_lst (ts := [.fz (.int 1), .fz (.int 2), .fz (.int 3)]) (ea_cons ev_int (ea_cons ev_int (ea_cons ev_int ea_nil)))) (.ol (ds := [.int 1, .int 2, .int 3]) (.cons (.fz _) (.cons (.fz _) (.cons (.fz _) .nil))))) ea_nil)) ea_nil)) ea_nil))) (ea_cons (ev_tup (ds := [.ins 1 [], .ins 1 []]) (ea_cons (Ev.frz (d := .ins 1 []) ev_mk0 (.oi rfl .nil)) (ea_cons (Ev.frz (d := .ins 1 []) ev_mk0 (.oi rfl .nil)) ea_nil))) (ea_cons (ev_tup (ds := [.ins 2 [.int 4], .ins 2 [.int 4]]) (ea_cons (evO (.int 4) (ea_cons ev_int ea_nil)) (ea_cons (evO (.int 4) (ea_cons ev_int ea_nil)) ea_nil))) (ea_cons (ev_tup (ds := [stD0, .ins 3 [.str "none", .int 1, .int 2]]) (ea_cons (ev_var rfl) (ea_cons (evT (.str "none") (.int 1) (.int 2) (ea_cons ev_str (ea_cons ev_int (ea_cons ev_int ea_nil)))) ea_nil))) ea_nil))))) rfl) ?_
  rintro _ rfl
  refine ex_seq (N1 := (· = Sy (some (.ol (same1.map .fz))) none none none)) (ex_app rfl (ev_tup (ds := [.ins 4 [.tup [.int 1], .tup [bD0, .ins 1 []], stD0], .ins 4 [.tup [.int 1], .tup [bD0, .ins 1 []], .ins 3 [.str "none", .int 1, .int 2]]]) (ea_cons (evR true [.int 1] true [bD0, .ins 1 []] (stD0) (ea_cons (Ev.frz (ev_lst (ts := [.fz (.int 1)]) (ea_cons ev_int ea_nil)) (.ol (ds := [.int 1]) (.cons (.fz _) .nil))) (ea_cons (Ev.frz (ev_lst (ts := [.fz (bD0), .fz (.ins 1 [])]) (ea_cons (ev_var rfl) (ea_cons (Ev.frz (d := .ins 1 []) ev_mk0 (.oi rfl .nil)) ea_nil))) (.ol (ds := [bD0, .ins 1 []]) (.cons (.fz _) (.cons (.fz _) .nil)))) (ea_cons (ev_var rfl) ea_nil)))) (ea_cons (evR false [.int 1] false [bD0, .ins 1 []] (.ins 3 [.str "none", .int 1, .int 2]) (ea_cons (ev_tup (ds := [.int 1]) (ea_cons ev_int ea_nil)) (ea_cons (ev_tup (ds := [bD0, .ins 1 []]) (ea_cons (ev_var rfl) (ea_cons (Ev.frz (d := .ins 1 []) ev_mk0 (.oi rfl .nil)) ea_nil))) (ea_cons (evT (.str "none") (.int 1) (.int 2) (ea_cons ev_str (ea_cons ev_int (ea_cons ev_int ea_nil)))) ea_nil)))) ea_nil))) rfl (by decide) rfl) ?_
  rintro _ rfl
  have h1 := ev_lc (C := ⟨K, cls, fl⟩) (q := true) (g := gName 3) (tt := tOr (tNot (tTest (tOp (rEqV ⟨K, cls, fl⟩ U2) (tOp (rIxT K) (tVar 3) (tC (.int 0))) (tOp (rIxT K) (tVar 3) (tC (.int 1)))))) (tTest (tOp (rNeV ⟨K, cls, fl⟩ U2n) (tOp (rIxT K) (tVar 3) (tC (.int 0))) (tOp (rIxT K) (tVar 3) (tC (.int 1)))))) (te := tVar 3) (vs := [3])
    (fun _ => Sy (some (.fz (.lst same1))) none none none) (fun _ => false) (fun i => .fz (same1.getD i .non)) (ei_list (ev_fz (s := Sy (some (.ol (same1.map .fz))) none none none) (i := 2) rfl (.ol (FzA.map same1)))) rfl (fun _ _ => rfl) (by decide) fun i d hd => by
      have z := List.all_eq_true.mp same_ok d (List.mem_of_getElem? hd)
      have z2 : ∃ a b, d = .tup [a, b] ∧ D.beq a b = true ∧ U2 a b ∧ U2n a b := by
        split at z
        · simp only [Bool.and_eq_true] at z
          exact ⟨_, _, rfl, z.1, qU2_ok z.2.1, qU2n_ok z.2.2⟩
        · cases z
      obtain ⟨a, b, rfl, e1, e2, e3⟩ := z2
      have t := et_or (et_not (et_test (ev_eqV (C := ⟨K, cls, fl⟩) (s := (Sy (some (.fz (.lst same1))) none none none).set 3 (some (.fz (.tup [a, b])))) (ev_ixT (i := 0) (ev_var (i := 3) rfl) ev_int rfl) (ev_ixT (i := 1) (ev_var (i := 3) rfl) ev_int rfl) e2))) (fun _ => et_test (ev_neV (C := ⟨K, cls, fl⟩) (ev_ixT (i := 0) (ev_var (i := 3) rfl) ev_int rfl) (ev_ixT (i := 1) (ev_var (i := 3) rfl) ev_int rfl) e3))
      rw [e1] at t
      exact ⟨[3], _, _, eg_name, fun _ z => z, t, (fun z => by cases z), fun _ => rfl⟩
  rw [gath_none] at h1
  refine ex_seq (N1 := (· = Sy (some (.fz (.lst same1))) none none none)) (ex_if (et_test (ev_neV (Ev.frz h1 (.ol .nil)) (Ev.frz (ev_lst ea_nil) (.ol .nil)) pNil)) (fun h => by cases h) fun _ => ex_next rfl) ?_
  rintro _ rfl
  refine ex_seq (N1 := (· = Sy (some (.fz (.lst same1))) (some (.ol (someA.map .fz))) none none)) (ex_asg (ev_lst (ea_cons (ev_var rfl) (ea_cons (evB true [(false, [.int 1, .int 2, .int 4])] (by decide) (ea_cons (Ev.frz (ev_lst (ts := [.fz (.tup [.int 1, .int 2, .int 4])]) (ea_cons (ev_tup (ds := [.int 1, .int 2, .int 4]) (ea_cons ev_int (ea_cons ev_int (ea_cons ev_int ea_nil)))) ea_nil)) (.ol (ds := [.tup [.int 1, .int 2, .int 4]]) (.cons (.fz _) .nil))) ea_nil)) (ea_cons (evB true [(false, [.int 1, .int 2, .int 3]), (false, [.int 2, .int 0, .int 1])] (by decide) (ea_cons (Ev.frz (ev_lst (ts := [.fz (.tup [.int 1, .int 2, .int 3]), .fz (.tup [.int 2, .int 0, .int 1])]) (ea_cons (ev_tup (ds := [.int 1, .int 2, .int 3]) (ea_cons ev_int (ea_cons ev_int (ea_cons ev_int ea_nil)))) (ea_cons (ev_tup (ds := [.int 2, .int 0, .int 1]) (ea_cons ev_int (ea_cons ev_int (ea_cons ev_int ea_nil)))) ea_nil))) (.ol (ds := [.tup [.int 1, .int 2, .int 3], .tup [.int 2, .int 0, .int 1]]) (.cons (.fz _) (.cons (.fz _) .nil)))) ea_nil)) (ea_cons (evB true [] (by decide) (ea_cons (Ev.frz (ev_lst (ts := []) ea_nil) (.ol (ds := []) .nil)) ea_nil)) (ea_cons (Ev.frz (d := .ins 1 []) ev_mk0 (.oi rfl .nil)) (ea_cons (evO (.int 4) (ea_cons ev_int ea_nil)) (ea_cons (evO (.int 5) (ea_cons ev_int ea_nil)) (ea_cons (evO (.int 0) (ea_cons ev_int ea_nil)) (ea_cons (ev_var rfl) ea_nil)))))))))) rfl) ?_
  rintro _ rfl
  refine ex_seq (N1 := (· = Sy (some (.fz (.lst same1))) (some (.ol ((someA ++ someB).map .fz))) none none)) (ex_asg (ev_cat (el_ol (ev_mv rfl)) (el_ol (ev_lst (ea_cons (evT (.str "index") (.int 1) (.int 2) (ea_cons ev_str (ea_cons ev_int (ea_cons ev_int ea_nil)))) (ea_cons (evT (.str "none") (.int 2) (.int 2) (ea_cons ev_str (ea_cons ev_int (ea_cons ev_int ea_nil)))) (ea_cons (evT (.str "none") (.int 1) (.int 3) (ea_cons ev_str (ea_cons ev_int (ea_cons ev_int ea_nil)))) (ea_cons (evR true [.int 1] true [] (.non) (ea_cons (Ev.frz (ev_lst (ts := [.fz (.int 1)]) (ea_cons ev_int ea_nil)) (.ol (ds := [.int 1]) (.cons (.fz _) .nil))) (ea_cons (Ev.frz (ev_lst (ts := []) ea_nil) (.ol (ds := []) .nil)) (ea_cons ev_non ea_nil)))) (ea_cons (evR true [.int 2] true [] (.non) (ea_cons (Ev.frz (ev_lst (ts := [.fz (.int 2)]) (ea_cons ev_int ea_nil)) (.ol (ds := [.int 2]) (.cons (.fz _) .nil))) (ea_cons (Ev.frz (ev_lst (ts := []) ea_nil) (.ol (ds := []) .nil)) (ea_cons ev_non ea_nil)))) ea_nil))))))) (by decide)) rfl) ?_
  rintro _ rfl
  refine ex_seq (N1 := (· = Sy (some (.fz (.lst same1))) (some (.ol (someD.map .fz))) none none)) (ex_asg (ev_cat (el_ol (ev_mv rfl)) (el_ol (ev_lst (ea_cons (evR true [.int 1] true [.ins 1 []] (.non) (ea_cons (Ev.frz (ev_lst (ts := [.fz (.int 1)]) (ea_cons ev_int ea_nil)) (.ol (ds := [.int 1]) (.cons (.fz _) .nil))) (ea_cons (Ev.frz (ev_lst (ts := [.fz (.ins 1 [])]) (ea_cons (Ev.frz (d := .ins 1 []) ev_mk0 (.oi rfl .nil)) ea_nil)) (.ol (ds := [.ins 1 []]) (.cons (.fz _) .nil))) (ea_cons ev_non ea_nil)))) (ea_cons (evR true [.int 1] true [] (stD0) (ea_cons (Ev.frz (ev_lst (ts := [.fz (.int 1)]) (ea_cons ev_int ea_nil)) (.ol (ds := [.int 1]) (.cons (.fz _) .nil))) (ea_cons (Ev.frz (ev_lst (ts := []) ea_nil) (.ol (ds := []) .nil)) (ea_cons (ev_var rfl) ea_nil)))) (ea_cons ev_non (ea_cons ev_int (ea_cons ev_str (ea_cons (ev_tup (ds := [.tup [.int 1, .int 2, .int 3]]) (ea_cons (ev_tup (ds := [.int 1, .int 2, .int 3]) (ea_cons ev_int (ea_cons ev_int (ea_cons ev_int ea_nil)))) ea_nil)) (ea_cons (ev_tup (ds := [.int 1, .int 2]) (ea_cons ev_int (ea_cons ev_int ea_nil))) (ea_cons (Ev.frz (ev_lst (ts := [.fz (.int 4)]) (ea_cons ev_int ea_nil)) (.ol (ds := [.int 4]) (.cons (.fz _) .nil))) ea_nil)))))))))) (by decide)) rfl) ?_
  rintro _ rfl
  refine ex_seq (N1 := fun s' => ∃ x y, s' = Sy (some (.fz (.lst same1))) (some (.fz (.lst someD))) x y) ?_ ?_
  · refine ex_for (fun _ s' => ∃ x y, s' = Sy (some (.fz (.lst same1))) (some (.fz (.lst someD))) x y) (ei_enum (ea_cons (ev_fz rfl (.ol (FzA.map someD))) ea_nil)) ⟨none, none, rfl⟩ ?_ (fun s' h => h)
    rintro i d _ hd ⟨x, y, rfl⟩
    obtain ⟨e, he, rfl⟩ := enumD_get hd
    have hi : i < someD.length := (List.getElem?_eq_some_iff.mp he).1
    have z := List.all_eq_true.mp some_ok i (List.mem_range.mpr hi)
    rw [show someD.getD i .non = e by rw [List.getD_eq_getElem?_getD, he]; rfl] at z
    have z := List.all_eq_true.mp z
    have hcut : (cutD someD none (some (i : Int))).length ≤ 100000 := by
      unfold VD.cutD
      rw [List.length_take, List.length_drop]
      exact Nat.le_trans (Nat.min_le_right _ _) (Nat.le_trans (Nat.sub_le _ _) (by decide))
    refine ⟨_, _, eg_tup (eg_cons eg_name (eg_cons eg_name eg_nil)) rfl, (fun j hj => by cases hj), ?_⟩
    have h2 := ev_lc (C := ⟨K, cls, fl⟩) (q := true) (g := gName 7) (tt := tTest (tOp (rEqV ⟨K, cls, fl⟩ U2) (tVar 6) (tVar 7))) (te := tVar 7) (vs := [7])
      (fun _ => Sy (some (.fz (.lst same1))) (some (.fz (.lst someD))) (some (.fz (.int (i : Nat)))) (some (.fz e))) (fun _ => false) (fun j => .fz .non) (ei_list (Ev.frz (ev_slice (s := Sy (some (.fz (.lst same1))) (some (.fz (.lst someD))) (some (.fz (.int (i : Nat)))) (some (.fz e))) (ev_var (i := 4) rfl) po_no (po_so (ev_var (i := 5) rfl))) (.ol (FzA.map _)))) rfl (fun _ _ => rfl) hcut fun j d hd => by
        have y := z d (List.mem_of_getElem? hd)
        simp only [Bool.and_eq_true, Bool.not_eq_true'] at y
        have t := et_test (ev_eqV (C := ⟨K, cls, fl⟩) (s := (Sy (some (.fz (.lst same1))) (some (.fz (.lst someD))) (some (.fz (.int (i : Nat)))) (some (.fz e))).set 7 (some (.fz d))) (ev_var (i := 6) rfl) (ev_var (i := 7) rfl) (qU2_ok y.1))
        rw [y.2] at t
        exact ⟨[7], _, _, eg_name, fun _ z => z, t, (fun z => by cases z), fun _ => rfl⟩
    rw [gath_none] at h2
    exact ex_if (et_test (ev_neV (Ev.frz h2 (.ol .nil)) (Ev.frz (ev_lst ea_nil) (.ol .nil)) pNil)) (fun h => by cases h) fun _ => ex_next ⟨_, _, rfl⟩
  · rintro _ ⟨x, y, rfl⟩
    exact ex_ret ev_bl rfl
end
end K36
set_option maxRecDepth 100000
set_option maxHeartbeats 4000000
namespace K36
open PySem PySem.Spec PyProof.Rows L2 VD
theorem kb_heaps {K : PySem.W.Frag} {f : Addr} {fd : FuncData} (F : Fun K "heaps" "heaps" sHeaps f fd) : KBinds K fd ["run"] ["run"] (fun us ws => us ++ ws) (fun us ws => us ++ ws) := by
  obtain ⟨oc, od, kV, doc, pm, an, cdv, ct, osl, rfl, lk, hcd⟩ := F.ex
  refine ⟨fun s us ws _ hl => ?_, fun h1 h2 => h1.append h2⟩
  match us, ws, hl with
  | [], [w], _ => exact .of_eq rfl
  | [u], [], _ => exact .of_eq rfl
def Us (d e : D) : Prop := Plain2 d e ∨ prC 3 r3 d e
theorem run_ok (x : Sr) (n : Nat) : (runE x n).2.2.length ≤ 1000 ∧ (∀ cs ∈ blks (runE x n).2.2, ∀ c ∈ cs, c.1 < (here0 x n).length) ∧ (∀ cs ∈ blks (runE x n).2.2, cs ≠ [] ∧ cs.length ≤ n) := by
  have z := turns_ok (h := here0 x n) (n := n) (x := nxS (nxI 9 x n) 11) (runN x n)
  have h2 := nxV_hi (x := nxI 9 x n) (m := 11) (by decide)
  have h3 := z.l
  refine ⟨?_, ?_, z.q⟩
  · have h4 : (runE x n).2.2.length ≤ (nxV (nxI 9 x n) 11).toNat := h3
    omega
  · rw [here0_len]
    exact z.p
theorem mem_blks {rows : List Rw} {cs : List Ch} (h : Rw.bl cs ∈ rows) : cs ∈ blks rows := by
  unfold blks
  exact List.mem_filterMap.mpr ⟨_, h, rfl⟩
theorem gd_due (h : List Int) (bs : List (List Ch)) (n : Nat) : Gd 2 (.lst (dueT h bs n)) := .lst fun d hd => by
  unfold dueT at hd
  obtain ⟨j, _, rfl⟩ := List.mem_map.mp hd
  exact Gd.ints _
theorem beqT {d : D} : (!D.beq d d) = false := by rw [D.beq_refl]; rfl
abbrev Sz (ns : List Int) (ix src st rs du sp bg ev rw md fd eh bd : Option T) : SD := [some (.fz (.lst (ns.map .int))), ix, src, st, rs, du, sp, bg, ev, rw, md, fd, eh, bd, none]
def LI (ns : List Int) (s' : SD) : Prop := ∃ ix src st rs du sp bg ev md fd eh bd, s' = Sz ns ix src st rs du sp bg ev none md fd eh bd
section
variable {P : Program} {w : World} {K : PySem.W.Frag} {mg : Str → Option Value} {base : Heap} {cls : Nat → Addr}
theorem Usok {X : Cx} (q : Qs X.prog X.w X.K X.mg X.base cls) : NeP X ⟨X.K, cls, fl⟩ 2 Us := ((neP_plain rfl).imp (fun _ _ h => h) (by decide)).or q.q3.ne
/-- all that the law calls -/
structure Al (K : PySem.W.Frag) (mg : Str → Option Value) (cls : Nat → Addr) (fM fN fS fR fE fBo fH fU fO fB fT fRn : Addr) (gM gN gS gR gE gBo gH gU gO gB gT gRn : FuncData) : Prop where
  DM : Df K mg "_law_mixed" sMixed ["_law_cell", "_law_k"] fM gM
  DN : Df K mg "_law_next" sNext ["_law_source_here", "_law_many"] fN gN
  DS : Df K mg "_law_source" sSource ["_law_script", "_law_k"] fS gS
  DR : Df K mg "_law_run" sRun ["_law_source_here", "_law_size"] fR gR
  DE : Df K mg "_law_event" sEvent ["_law_row"] fE gE
  DBo : Df K mg "blocks_of" sBlocksOf ["run"] fBo gBo
  DH : Df K mg "heaps" sHeaps ["run"] fH gH
  DU : Df K mg "_law_unlike_right" sUnl [] fU gU
  MS : Mk0 K (cls 1)
  IO : Ini K cls "Out.__init__" sIniO ["self", "word"] 2 fO gO
  IB : Ini K cls "Block.__init__" sIniB ["self", "changes"] 0 fB gB
  IT : Ini K cls "Stop.__init__" sIniT ["self", "word", "line", "column"] 3 fT gT
  IR : Ini K cls "Run.__init__" sIniR ["self", "start", "events", "stop"] 4 fRn gRn
abbrev sLaw : Stmt := top 15
theorem scLaw : FnScope ["_law_script", "_law_index", "_law_source_here", "_law_start", "_law_rows", "_law_due", "_law_stop", "_law_begin", "_law_events", "_law_row", "_law_made", "_law_found", "_law_event_here", "_law_bad", "_law_change"] ["_law_script"] (defScope sLaw) := ⟨rfl, rfl, rfl, by decide +kernel, rfl, by decide +kernel, by decide +kernel⟩
abbrev spLaw (C : VD.Ctx) : Sp := spP C (ι := List Int) (fun ns => [.lst (ns.map .int)]) (fun _ => .fz (.bl true)) (fun ns => ns.length ≤ 63)
theorem ok_law {f fM fN fS fR fE fBo fH fU fO fB fT fRn : Addr} {fd gM gN gS gR gE gBo gH gU gO gB gT gRn : FuncData} (Dd : Df K mg "law" sLaw ["_law_script"] f fd) (B : Blt mg) (A : Ax K mg cls) (L : Al K mg cls fM fN fS fR fE fBo fH fU fO fB fT fRn gM gN gS gR gE gBo gH gU gO gB gT gRn)
    (q : Qs P w K mg base cls) (q4 : Qe P w K mg base cls 3 4 r4) : FnOk P w K mg base CX0 6 f fd ["_law_script"] (spLaw ⟨K, cls, fl⟩) := by
  obtain ⟨DM, DN, DS, DR, DE, DBo, DH, DU, MS, IO, IB, IT, IR⟩ := L
  have GN : FnOk P w K mg base CX0 2 fN gN ["_law_source_here", "_law_many"] (spNext ⟨K, cls, fl⟩) := ok_next DN DM B
  have GS : FnOk P w K mg base CX0 1 fS gS ["_law_script", "_law_k"] (spSource ⟨K, cls, fl⟩) := ok_source DS B
  have GRn : FnOk P w K mg base CX0 3 fR gR ["_law_source_here", "_law_size"] (spRun ⟨K, cls, fl⟩) := ok_run DR DN DM B A
  have GE : FnOk P w K mg base CX0 3 fE gE ["_law_row"] (spEvent ⟨K, cls, fl⟩) := ok_event DE B A MS IO IB
  have GH : FnOk P w K mg base CX0 2 fH gH ["run"] (spHeaps ⟨K, cls, fl⟩) := ok_heaps DH DBo B A
  have GU := ok_unl (P := P) (w := w) (base := base) DU B A MS IO IB IT IR q q4
  have GT : FnOk P w K mg base CX0 1 fT gT ["self", "word", "line", "column"] (spIniT ⟨K, cls, fl⟩) := ok_iniT IT.dm B A
  have GQ : FnOk P w K mg base CX0 1 fRn gRn ["self", "start", "events", "stop"] (spIniQ ⟨K, cls, fl⟩) := ok_iniQ IR.dm B A
  have KH := kb_heaps DH.fn
  refine fnP Dd.fn scLaw (fun _ => rfl) fun cdv Ar outer s H E hr => ?_
  refine ⟨_, (pss_cons (ps_for PassesOwn.never rfl (pi_range1 rfl B.range (pa_cons (pe_callB (call_max2 rfl) (by rfl) B.max (by decide +kernel) (pa_cons pe_int (pa_cons (pe_callB (call_min2 rfl) (by rfl) B.min (by decide +kernel) (pa_cons pe_int (pa_cons (pe_callB call_len_seq (by rfl) B.len PySem.boot_len (pa_cons (pv 0) pa_nil)) pa_nil))) pa_nil))) pa_nil)) (pg_name (i := 1) scLaw.nd rfl (Or.inl rfl))
      (pss_cons (ps_set (i := 2) scLaw.nd rfl (Or.inl rfl) (pe_call GS (hr.mono (by decide)) (by rfl) DS.mgf DS.fn.kp DS.b .nil pass0 (pa_cons (pv 0) (pa_cons (pv 1) pa_nil))))
      (pss_cons (ps_asg (pe_call GRn (hr.mono (by decide)) (by rfl) DR.mgf DR.fn.kp DR.b .nil pass0 (pa_cons (pv 2) (pa_cons (pe_op op_add pe_int (pe_call GN (hr.mono (by decide)) (by rfl) DN.mgf DN.fn.kp DN.b .nil pass0 (pa_cons (pv 2) (pa_cons pe_int pa_nil)))) pa_nil))) (pg_tup rfl (pgs_cons (pg_name (i := 3) scLaw.nd rfl (Or.inl rfl)) (pgs_cons (pg_name (i := 4) scLaw.nd rfl (Or.inl rfl)) (pgs_cons (pg_name (i := 5) scLaw.nd rfl (Or.inl rfl)) pgs_nil)))))
      (pss_cons (ps_set (i := 6) scLaw.nd rfl (Or.inl rfl) (pe_ix ix_list (pe_lst (pa_cons pe_non (pa_cons (pe_make IT.mak GT (hr.mono (by decide)) (by rfl) A.m3 IT.dm.b .nil pass0 (pa_cons pe_str (pa_cons pe_int (pa_cons (pe_op op_add pe_int (pe_call GN (hr.mono (by decide)) (by rfl) DN.mgf DN.fn.kp DN.b .nil pass0 (pa_cons (pv 2) (pa_cons pe_int pa_nil)))) pa_nil)))) pa_nil))) (pe_call GN (hr.mono (by decide)) (by rfl) DN.mgf DN.fn.kp DN.b .nil pass0 (pa_cons (pv 2) (pa_cons pe_int pa_nil))) (fun _ _ => rfl)))
      (pss_cons (ps_par (i := 7) (j := 8) rfl scLaw.nd rfl rfl (by decide) rfl rfl (pa_cons (pe_callTy call_list_of (by rfl) B.list (by decide +kernel) (pa_cons (pv 3) pa_nil)) (pa_cons (pe_lc (own := [("_law_row", 9)]) (g := (gName 9)) (tt := tYes) (te := (tCall (spEvent ⟨K, cls, fl⟩) [] E0 (tCons (tVar 9) tNil))) rfl scLaw.nd (pi_list (pv 4)) (blkOk_by (N := ["_law_script", "_law_index", "_law_source_here", "_law_start", "_law_rows", "_law_due", "_law_stop", "_law_begin", "_law_events", "_law_row", "_law_made", "_law_found", "_law_event_here", "_law_bad", "_law_change"]) (sc := defScope sLaw) (by decide +kernel)) (fun _ _ _ _ _ => (pg_name (i := 9) scLaw.nd rfl (Or.inl rfl))) (fun _ _ _ _ _ => pts_nil) (fun _ _ _ _ _ => (pe_call GE (hr.mono (by decide)) (by rfl) DE.mgf DE.fn.kp DE.b .nil pass0 (pa_cons (pv 9) pa_nil)))) pa_nil)) (by rfl))
      (pss_cons (ps_set (i := 10) scLaw.nd rfl (Or.inl rfl) (pe_make IR.mak GQ (hr.mono (by decide)) (by rfl) A.m4 IR.dm.b .nil pass0 (pa_cons (pv 7) (pa_cons (pv 8) (pa_cons (pv 6) pa_nil)))))
      (pss_cons (ps_expr (pe_bm PySem.F.plainAttrs_list PySem.F.slot_list_append PySem.F.type_list_append mt_append (pv 7) (pa_cons pe_int pa_nil)))
      (pss_cons (ps_expr (pe_bm PySem.F.plainAttrs_list PySem.F.slot_list_append PySem.F.type_list_append mt_append (pv 8) (pa_cons pe_non pa_nil)))
      (pss_cons (ps_for PassesOwn.never rfl (pi_list (pv 4)) (pg_name (i := 9) scLaw.nd rfl (Or.inl rfl))
      (pss_one (ps_if (pt_cmpR (op_eqV (rcP_plain (C := ⟨K, cls, fl⟩) rfl) (hr.mono (Nat.zero_le _))) (pe_ix ix_list (pv 9) pe_int (fun _ _ => rfl)) pe_str (nomark _)) (pss_cons (ps_expr (pe_bm PySem.F.plainAttrs_list PySem.F.slot_list_append PySem.F.type_list_append mt_append (pe_ix ix_list (pe_ix ix_list (pv 9) pe_int (fun _ _ => rfl)) pe_int (fun _ _ => rfl)) (pa_cons pe_int pa_nil)))
      (pss_one (ps_expr (pe_bm PySem.F.plainAttrs_list PySem.F.slot_list_append PySem.F.type_list_append mt_append (pe_ix ix_list (pv 9) pe_int (fun _ _ => rfl)) (pa_cons (pe_lst (pa_cons pe_int (pa_cons pe_int (pa_cons pe_int pa_nil)))) pa_nil))))) pss_nil)))
      (pss_cons (ps_if (PW.pt (pw_or (pt_cmpR (op_neV (neP_plain (C := ⟨K, cls, fl⟩) rfl) (hr.mono (Nat.zero_le _))) (pe_fld (pv 10) rfl) (pe_callTy call_tuple_of (by rfl) B.tuple (by decide +kernel) (pa_cons (pv 3) pa_nil)) (nomark _)) (pw_or (pt_not (pt_val (pe_callB call_isi (by rfl) B.isinstance boot_isinstance (pa_cons (pe_fld (pv 10) rfl) (pa_cons (pe_bltn (v := .ty "tuple") (by rfl) B.tuple (by decide +kernel) rfl) pa_nil))))) (pw_or1 (pt_cmpR (op_neV (Usok q) (hr.mono (by decide))) (pe_fld (pv 10) rfl) (pv 6) (nomark _)))))) (pss_one (ps_ret pe_bl)) pss_nil)
      (pss_cons (ps_set (i := 11) scLaw.nd rfl (Or.inl rfl) (pe_call GH (hr.mono (by decide)) (by rfl) DH.mgf DH.fn.kp DH.b .nil pass0 (pa_cons (pv 10) pa_nil)))
      (pss_cons (ps_if (PW.pt (pw_or (pt_cmpR (op_neV (neP_plain (C := ⟨K, cls, fl⟩) rfl) (hr.mono (Nat.zero_le _))) (pv 11) (pv 5) (nomark _)) (pw_or1 (pt_cmpR (op_neV (neP_plain (C := ⟨K, cls, fl⟩) rfl) (hr.mono (Nat.zero_le _))) (pe_callB call_len_seq (by rfl) B.len PySem.boot_len (pa_cons (pe_fld (pv 10) rfl) pa_nil)) (pe_callB call_len_seq (by rfl) B.len PySem.boot_len (pa_cons (pv 4) pa_nil)) (nomark _))))) (pss_one (ps_ret pe_bl)) pss_nil)
      (pss_cons (ps_expr (pe_bm PySem.F.plainAttrs_list PySem.F.slot_list_append PySem.F.type_list_append mt_append (pv 11) (pa_cons pe_non pa_nil)))
      (pss_cons (ps_for PassesOwn.never rfl (pi_tup (pe_fld (pv 10) rfl)) (pg_name (i := 12) scLaw.nd rfl (Or.inl rfl))
      (pss_one (ps_if (pt_val (pe_callB call_isi (by rfl) B.isinstance boot_isinstance (pa_cons (pv 12) (pa_cons (pe_glob (v := .ref (cls 0)) (by rfl) A.m0 rfl) pa_nil)))) (pss_cons (ps_setLc (i := 13) (own := [("_law_change", 14)]) (g := (gName 14)) (tt := (tOr (tNot (tB (tCB (rIsi K) (tCons (tVar 14) (tCons (tC (.ty "tuple")) tNil))))) (tTest (tOp (rNeV ⟨K, cls, fl⟩ Plain2) (tCB (rLen K) (tCons (tVar 14) tNil)) (tC (.int 3)))))) (te := (tVar 14)) rfl scLaw.nd rfl rfl (sw_true rfl rfl rfl (by decide +kernel)) (pi_tup (pe_fld (pv 12) rfl)) (blkOk_by (N := ["_law_script", "_law_index", "_law_source_here", "_law_start", "_law_rows", "_law_due", "_law_stop", "_law_begin", "_law_events", "_law_row", "_law_made", "_law_found", "_law_event_here", "_law_bad", "_law_change"]) (sc := defScope sLaw) (by decide +kernel)) (fun _ _ _ _ _ => (pg_name (i := 14) scLaw.nd rfl (Or.inl rfl))) (fun _ _ _ _ _ => (pts_one (PW.pt (pw_or (pt_not (pt_val (pe_callB call_isi (by rfl) B.isinstance boot_isinstance (pa_cons (pv 14) (pa_cons (pe_bltn (v := .ty "tuple") (by rfl) B.tuple (by decide +kernel) rfl) pa_nil))))) (pw_or1 (pt_cmpR (op_neV (neP_plain (C := ⟨K, cls, fl⟩) rfl) (hr.mono (Nat.zero_le _))) (pe_callB call_len_seq (by rfl) B.len PySem.boot_len (pa_cons (pv 14) pa_nil)) pe_int (nomark _))))))) (fun _ _ _ _ _ => (pv 14)))
      (pss_one (ps_if (PW.pt (pw_or (pt_not (pt_val (pe_callB call_isi (by rfl) B.isinstance boot_isinstance (pa_cons (pe_fld (pv 12) rfl) (pa_cons (pe_bltn (v := .ty "tuple") (by rfl) B.tuple (by decide +kernel) rfl) pa_nil))))) (pw_or1 (pt_cmpR (op_neV (neP_plain (C := ⟨K, cls, fl⟩) rfl) (hr.mono (Nat.zero_le _))) (pv 13) (pe_lst pa_nil) (nomark _))))) (pss_one (ps_ret pe_bl)) pss_nil))) pss_nil)))
      (pss_one (ps_if (pt_cmpR (op_neV (neP_plain (C := ⟨K, cls, fl⟩) rfl) (hr.mono (Nat.zero_le _))) (pe_callK0 GH (hr.mono (by decide)) (by rfl) DH.mgf DH.fn.kp KH pass0 (pk_cons (pv 10) pk_nil)) (pv 5) (nomark _)) (pss_one (ps_ret pe_bl)) pss_nil))))))))))))))))
      (pss_one (ps_ret (pe_call0 GU (hr.mono (by decide)) (by rfl) DU.mgf DU.fn.kp DU.b .nil pass0)))), ?_⟩
  rintro ns hl
  refine ex_seq (N1 := LI ns) ?_ ?_
  · refine ex_for (fun _ => LI ns) (ei_rng1 (ea_cons (ev_cb (ds := [_, _]) (ea_cons ev_int (ea_cons (ev_cb (ds := [_, _]) (ea_cons ev_int (ea_cons (ev_cb (ds := [_]) (ea_cons (ev_var rfl) ea_nil) rc_lenL) ea_nil)) rc_min2) ea_nil)) rc_max2) ea_nil) ?_ ?_) ⟨none, none, none, none, none, none, none, none, none, none, none, none, rfl⟩ ?_ (fun _ h => h)
    · rw [List.length_map]
      split <;> split <;> omega
    · rw [List.length_map]
      split <;> split <;> omega
    rintro i d _ hd ⟨ix, src, st, rs, du, sp, bg, ev, md, fd', eh, bd, rfl⟩
    obtain ⟨_, rfl⟩ := rngD_get hd
    rw [Int.zero_add]
    clear hd
    refine ⟨_, _, eg_name, by decide, ?_⟩
    generalize hx0 : ((ns.getD i 7, ns.getD i 7, 0) : Sr) = x0
    refine ex_seq (N1 := (· = Sz ns (some (.fz (.int (i : Nat)))) (some (srT x0)) st rs du sp bg ev none md fd' eh bd)) (ex_asg (ev_call (ns, i) (ea_cons (ev_var rfl) (ea_cons (ev_var rfl) ea_nil)) True.intro) (by rw [← hx0]; rfl)) ?_
    rintro _ rfl
    have v6 := nxV_lo (x := x0) (m := 6) (by decide)
    have w6 := nxV_hi (x := x0) (m := 6) (by decide)
    obtain ⟨n, hn⟩ : ∃ n : Nat, 1 + nxV x0 6 = (n : Int) := ⟨(1 + nxV x0 6).toNat, by omega⟩
    obtain ⟨hr1, hr2, hr3⟩ := run_ok (nxS x0 6) n
    refine ex_seq (N1 := (· = Sz ns (some (.fz (.int (i : Nat)))) (some (srT (runE (nxS x0 6) n).1)) (some (.fz (.lst (hD (here0 (nxS x0 6) n))))) (some (.ol ((runE (nxS x0 6) n).2.2.map Rw.t))) (some (.fz (.lst (duT (here0 (nxS x0 6) n) (runE (nxS x0 6) n).2.2)))) sp bg ev none md fd' eh bd))
      (ex_unp3 (ev_callO (nxS x0 6, n) rfl (ea_cons (ev_I0 ev_int (ev_callO (x0, 6) rfl (ea_cons ev_int ea_nil) rfl (nxP _ 6)) (fun F => by show Rp _ F (.int (1 + nxV x0 6)) (.int n); rw [hn]; exact .int _)) ea_nil) rfl (by show n ≤ 1000; omega)) rfl) ?_
    rintro _ rfl
    have hsl : (here0 (nxS x0 6) n).length ≤ 1000 := by rw [here0_len]; omega
    have hn6 : n ≤ 6 := by omega
    revert hr1 hr2 hr3 hsl
    generalize (runE (nxS x0 6) n).2.2 = rows
    generalize (runE (nxS x0 6) n).1 = x2
    generalize here0 (nxS x0 6) n = sv
    intro hr1 hr2 hr3 hsl
    -- the stop
    have hv := nxV_lo (x := nxS x2 9) (m := 2) (by decide)
    have hv2 := nxV_hi (x := nxS x2 9) (m := 2) (by decide)
    obtain ⟨sd, hat, hsd⟩ : ∃ sd : D, atI [T.fz .non, T.fz (.ins 3 [.str "index", .int 3, .int (1 + nxV x2 9)])] (nxV (nxS x2 9) 2) = some (.fz sd) ∧ Us sd sd := by
      rcases (show nxV (nxS x2 9) 2 = 0 ∨ nxV (nxS x2 9) 2 = 1 by omega) with h | h
      · exact ⟨.non, by rw [h]; rfl, .inl ((Gd.non (n := 0)).two (Gd.non (n := 0)))⟩
      · exact ⟨_, by rw [h]; rfl, .inr ⟨_, rfl, rfl, .inl ⟨_, rfl, _, _, _, _, _, _, rfl, rfl, p2s _ _ (by decide +kernel) (by decide +kernel), pI, pI⟩⟩⟩
    refine ex_seq (N1 := (· = Sz ns (some (.fz (.int (i : Nat)))) (some (srT (nxS (nxS x2 9) 2))) (some (.fz (.lst (hD sv)))) (some (.ol (rows.map Rw.t))) (some (.fz (.lst (duT sv rows)))) (some (.fz sd)) bg ev none md fd' eh bd))
      (ex_asg (ev_ixO (ts := [T.fz .non, T.fz (.ins 3 [.str "index", .int 3, .int (1 + nxV x2 9)])]) (ev_lst (ea_cons ev_non (ea_cons (evT _ _ _ (ea_cons ev_str (ea_cons ev_int (ea_cons (ev_I0 ev_int (ev_callO (x2, 9) rfl (ea_cons ev_int ea_nil) rfl (nxP _ 9)) (fun _ => .int _)) ea_nil)))) ea_nil)) (by show 2 ≤ 100000; decide)) (ev_callO (nxS x2 9, 2) rfl (ea_cons ev_int ea_nil) rfl (nxP _ 2)) hat) rfl) ?_
    rintro _ rfl
    -- the events
    have hev : Ev ⟨K, cls, fl⟩ false (tLc (iList K (tVar 4)) (gName 9) tYes (tCall (spEvent ⟨K, cls, fl⟩) [] E0 (tCons (tVar 9) tNil)) [9])
        (Sz ns (some (.fz (.int (i : Nat)))) (some (srT (nxS (nxS x2 9) 2))) (some (.fz (.lst (hD sv)))) (some (.ol (rows.map Rw.t))) (some (.fz (.lst (duT sv rows)))) (some (.fz sd)) bg ev none md fd' eh bd) (.ol ((rows.map Rw.d).map .fz))
        (Sz ns (some (.fz (.int (i : Nat)))) (some (srT (nxS (nxS x2 9) 2))) (some (.fz (.lst (hD sv)))) (some (.ol (rows.map Rw.t))) (some (.fz (.lst (duT sv rows)))) (some (.fz sd)) bg ev none md fd' eh bd) := by
      have h := ev_lcO (C := ⟨K, cls, fl⟩) (s := Sz ns (some (.fz (.int (i : Nat)))) (some (srT (nxS (nxS x2 9) 2))) (some (.fz (.lst (hD sv)))) (some (.ol (rows.map Rw.t))) (some (.fz (.lst (duT sv rows)))) (some (.fz sd)) bg ev none md fd' eh bd)
        (ts := rows.map Rw.t) (tt := tYes) (te := tCall (spEvent ⟨K, cls, fl⟩) [] E0 (tCons (tVar 9) tNil)) (vs := [9]) (kk := 4) (j := 9) (fun _ => true) (fun k => .fz (rows.getD k .sy).d) rfl (by decide) (by decide) (by decide) rfl rfl (by rw [List.length_map]; omega) (fun k t x ht => ⟨et_yes, fun _ => by
          rw [List.getElem?_map, Option.map_eq_some_iff] at ht
          obtain ⟨r, hrk, rfl⟩ := ht
          have e : rows.getD k .sy = r := by rw [List.getD_eq_getElem?_getD, hrk]; rfl
          rw [e]
          refine ev_callB r (eb_b rfl eb_nil) (.b rfl .nil) rfl ?_
          cases r with
          | bl cs =>
            have := (hr3 cs (mem_blks (List.mem_of_getElem? hrk))).2
            show cs.length ≤ 100000
            omega
          | _ => exact True.intro⟩)
      rw [gath_all, List.length_map, range_map rows (fun r => T.fz r.d) .sy] at h
      rw [List.map_map]
      exact h
    refine ex_seq (N1 := (· = Sz ns (some (.fz (.int (i : Nat)))) (some (srT (nxS (nxS x2 9) 2))) (some (.fz (.lst (hD sv)))) (some (.ol (rows.map Rw.t))) (some (.fz (.lst (duT sv rows)))) (some (.fz sd)) (some (.ol ((hD sv).map .fz))) (some (.ol ((rows.map Rw.d).map .fz))) none md fd' eh bd))
      (ex_par (ea_cons (ev_cb (ds := [_]) (ea_cons (ev_var rfl) ea_nil) rc_listL) (ea_cons hev ea_nil)) rfl) ?_
    rintro _ rfl
    -- the run
    refine ex_seq (N1 := (· = Sz ns (some (.fz (.int (i : Nat)))) (some (srT (nxS (nxS x2 9) 2))) (some (.fz (.lst (hD sv)))) (some (.ol (rows.map Rw.t))) (some (.fz (.lst (duT sv rows)))) (some (.fz sd)) (some (.ol ((hD sv).map .fz))) (some (.ol ((rows.map Rw.d).map .fz))) none (some (.fz (rnD (sv, rows, sd)))) fd' eh bd))
      (ex_asg (Ev.frz (ev_makeB (C := ⟨K, cls, fl⟩) (c := 4) (fs := fun x : List D × List D × D => [("start", .fz (.tup x.1)), ("events", .fz (.tup x.2.1)), ("stop", .fz x.2.2)]) (hD sv, rows.map Rw.d, sd) (eb_b rfl (eb_b rfl (eb_f (ev_var rfl) eb_nil))) (.b rfl (.b rfl (.f .nil))) rfl rfl True.intro rfl) (.oi rfl (.cons (.fz _) (.cons (.fz _) (.cons (.fz _) .nil))))) rfl) ?_
    rintro _ rfl
    refine ex_seq (N1 := (· = _)) (ex_app rfl ev_int rfl (by rw [List.length_map, List.length_map]; omega) rfl) ?_
    rintro _ rfl
    refine ex_seq (N1 := fun s' => ∃ ix src bg ev, s' = Sz ns ix src (some (.fz (.lst (hD sv)))) (some (.ol (rows.map Rw.t))) (some (.fz (.lst (duT sv rows)))) (some (.fz sd)) bg ev none (some (.fz (rnD (sv, rows, sd)))) fd' eh bd)
      (ex_app rfl ev_non rfl (by rw [List.length_map, List.length_map]; omega) ⟨_, _, _, _, rfl⟩) ?_
    clear ix src bg ev hev hat
    rintro _ ⟨ix, src, bg, ev, rfl⟩
    -- the rows are changed
    refine ex_seq (N1 := fun s' => ∃ us, s' = Sz ns ix src (some (.fz (.lst (hD sv)))) (some (.ol us)) (some (.fz (.lst (duT sv rows)))) (some (.fz sd)) bg ev none (some (.fz (rnD (sv, rows, sd)))) fd' eh bd ∧ us.length = rows.length) ?_ ?_
    · have post : ∀ (k : Nat) (us : List T) (v : V) (t' : T), us.length = rows.length → (∀ j, k ≤ j → us[j]? = (rows.map Rw.t)[j]?) → k < us.length →
          ((us.set k (.raw v)).set k t').length = rows.length ∧ ∀ j, k + 1 ≤ j → ((us.set k (.raw v)).set k t')[j]? = (rows.map Rw.t)[j]? := fun k us v t' hl hg hk => by
        refine ⟨by rw [List.length_set, List.length_set]; exact hl, fun j hj => ?_⟩
        rw [List.getElem?_set_ne (by omega), List.getElem?_set_ne (by omega)]
        exact hg j (by omega)
      refine ex_forO (kk := 4) (j := 9) (fun k s' => ∃ us, s' = Sz ns ix src (some (.fz (.lst (hD sv)))) (some (.ol us)) (some (.fz (.lst (duT sv rows)))) (some (.fz sd)) bg ev none (some (.fz (rnD (sv, rows, sd)))) fd' eh bd ∧ us.length = rows.length ∧ ∀ j, k ≤ j → us[j]? = (rows.map Rw.t)[j]?) rows.length (by decide) (by decide)
        ⟨rows.map Rw.t, rfl, by rw [List.length_map], fun _ _ => rfl⟩ (fun k s' ⟨us, e, h, _⟩ => ⟨us, by rw [e]; rfl, h⟩) ?_ (fun s' ⟨us, e, h, _⟩ => ⟨us, e, h⟩)
      rintro k _ us t v ⟨us', rfl, hlen, hget⟩ hus _ ht
      have hus : some (some (T.ol us')) = some (some (T.ol us)) := hus
      cases hus
      have hk : k < us.length := (List.getElem?_eq_some_iff.mp ht).1
      have hr := hget k (Nat.le_refl _)
      rw [ht] at hr
      have hr := hr.symm
      rw [List.getElem?_map, Option.map_eq_some_iff] at hr
      obtain ⟨r, hrk, rfl⟩ := hr
      have hset : (us.set k (T.raw v))[k]? = some (T.raw v) := List.getElem?_set_self hk
      have hsl2 : (us.set k (T.raw v)).length = rows.length := by rw [List.length_set]; exact hlen
      cases r with
      | sy => exact ex_if (et_test (ev_eqV (d1 := .str "sync") (Ev.ofVw (vw_ix (vw_var rfl) vw_int rfl)) ev_str (p2s _ _ (by decide +kernel) (by decide +kernel)))) (fun h => absurd h (by decide)) fun _ => ex_next ⟨_, _, rfl, hsl2, hset, rfl, _, rfl, post k us v _ hlen hget hk⟩
      | ou m => exact ex_if (et_test (ev_eqV (d1 := .str "out") (Ev.ofVw (vw_ix (vw_var rfl) vw_int rfl)) ev_str (p2s _ _ (by decide +kernel) (by decide +kernel)))) (fun h => absurd h (by decide)) fun _ => ex_next ⟨_, _, rfl, hsl2, hset, rfl, _, rfl, post k us v _ hlen hget hk⟩
      | bl cs =>
        obtain ⟨hne, hcl⟩ := hr3 cs (mem_blks (List.mem_of_getElem? hrk))
        cases cs with
        | nil => exact absurd rfl hne
        | cons c cs =>
          refine ex_if (et_test (ev_eqV (d1 := .str "block") (Ev.ofVw (vw_ix (vw_var rfl) vw_int rfl)) ev_str (p2s _ _ (by decide +kernel) (by decide +kernel)))) (fun _ => ?_) fun h => absurd h (by decide)
          refine ex_seq (N1 := (· = _)) (ex_appF (foc_ix (foc_ix (foc_var rfl) vw_int rfl rfl) vw_int (ixNn (j := 0) (Nat.succ_pos _)) rfl) ev_int (by show 3 < 100000; decide) rfl) ?_
          rintro _ rfl
          refine ex_appF (foc_ix (foc_var rfl) vw_int rfl rfl) (ev_lst (ea_cons ev_int (ea_cons ev_int (ea_cons ev_int ea_nil))) (by show 3 ≤ 100000; decide)) ?_ ⟨_, _, rfl, hsl2, hset, rfl, _, rfl, post k us v _ hlen hget hk⟩
          have : (c :: cs).length ≤ n := hcl
          simp at this ⊢
          omega
    rintro _ ⟨us, rfl, hus⟩
    -- the fields
    refine ex_seq (N1 := (· = Sz ns ix src (some (.fz (.lst (hD sv)))) (some (.ol us)) (some (.fz (.lst (duT sv rows)))) (some (.fz sd)) bg ev none (some (.fz (rnD (sv, rows, sd)))) fd' eh bd))
      (ex_if (et_or (et_test (ev_neV (ev_fld (ev_var rfl) (A.n 4 (by decide) "start") rfl) (ev_cb (ds := [_]) (ea_cons (ev_var rfl) ea_nil) rc_tupL) ((Gd.ints (n := 0) sv).two (Gd.ints (n := 0) sv)))) (fun _ => et_or (et_not (et_B (ev_isi (ev_fld (ev_var rfl) (A.n 4 (by decide) "events") rfl) True.intro (.ty _) A.kitT))) (fun _ => et_test (ev_neV (ev_fld (ev_var rfl) (A.n 4 (by decide) "stop") rfl) (ev_var rfl) hsd)))) (fun h => ?_) (fun _ => ex_next rfl)) ?_
    · rw [beqT, beqT] at h
      cases h
    rintro _ rfl
    refine ex_seq (N1 := (· = Sz ns ix src (some (.fz (.lst (hD sv)))) (some (.ol us)) (some (.fz (.lst (duT sv rows)))) (some (.fz sd)) bg ev none (some (.fz (rnD (sv, rows, sd)))) (some (.ol ((duT sv rows).map .fz))) eh bd)) (ex_asg (ev_call (sv, rows, sd) (ea_cons (ev_var rfl) ea_nil) ⟨hr1, hr2⟩) rfl) ?_
    rintro _ rfl
    refine ex_seq (N1 := (· = Sz ns ix src (some (.fz (.lst (hD sv)))) (some (.ol us)) (some (.fz (.lst (duT sv rows)))) (some (.fz sd)) bg ev none (some (.fz (rnD (sv, rows, sd)))) (some (.ol ((duT sv rows).map .fz))) eh bd))
      (ex_if (et_or (et_test (ev_neO (vw_var rfl) (FzA.map _) (vw_var rfl) ((gd_due _ _ _).two (gd_due _ _ _)))) (fun _ => et_test (ev_neV (ev_cb (ds := [_]) (ea_cons (ev_fld (ev_var rfl) (A.n 4 (by decide) "events") rfl) ea_nil) rc_lenT) (Ev.ofVw (vw_len (vw_var rfl))) pI))) (fun h => ?_) (fun _ => ex_next rfl)) ?_
    · rw [beqT, List.length_map, hus, beqT] at h
      cases h
    rintro _ rfl
    have hdl : ((duT sv rows).map T.fz).length < 100000 := by
      have : (blks rows).length ≤ rows.length := by unfold blks; exact List.length_filterMap_le _ _
      simp [duT, dueT]
      omega
    refine ex_seq (N1 := fun s' => ∃ fd eh bd, s' = Sz ns ix src (some (.fz (.lst (hD sv)))) (some (.ol us)) (some (.fz (.lst (duT sv rows)))) (some (.fz sd)) bg ev none (some (.fz (rnD (sv, rows, sd)))) fd eh bd) (ex_app rfl ev_non rfl hdl ⟨_, _, _, rfl⟩) ?_
    clear fd' eh bd
    rintro _ ⟨fd', eh, bd, rfl⟩
    refine ex_seq (N1 := fun s' => ∃ eh bd, s' = Sz ns ix src (some (.fz (.lst (hD sv)))) (some (.ol us)) (some (.fz (.lst (duT sv rows)))) (some (.fz sd)) bg ev none (some (.fz (rnD (sv, rows, sd)))) fd' eh bd) ?_ ?_
    · refine ex_for (fun _ s' => ∃ eh bd, s' = Sz ns ix src (some (.fz (.lst (hD sv)))) (some (.ol us)) (some (.fz (.lst (duT sv rows)))) (some (.fz sd)) bg ev none (some (.fz (rnD (sv, rows, sd)))) fd' eh bd) (ei_tup (ev_fld (ev_var rfl) (A.n 4 (by decide) "events") rfl)) ⟨eh, bd, rfl⟩ ?_ (fun _ h => h)
      rintro k d _ hd ⟨eh, bd, rfl⟩
      rw [List.getElem?_map, Option.map_eq_some_iff] at hd
      obtain ⟨r, hrk, rfl⟩ := hd
      refine ⟨_, _, eg_name, by decide, ?_⟩
      refine ex_if (et_B (ev_isC A (by decide) (ev_var rfl) (cb_row r))) (fun h => ?_) (fun _ => ex_next ⟨_, _, rfl⟩)
      cases r with
      | sy => exact absurd h (by decide)
      | ou m => exact absurd h (by decide : ¬ false = true)
      | bl cs =>
        have hcl := (hr3 cs (mem_blks (List.mem_of_getElem? hrk))).2
        have h1 := ev_lc (C := ⟨K, cls, fl⟩) (q := true) (g := gName 14) (tt := tOr (tNot (tB (tCB (rIsi K) (tCons (tVar 14) (tCons (tC (.ty "tuple")) tNil))))) (tTest (tOp (rNeV ⟨K, cls, fl⟩ Plain2) (tCB (rLen K) (tCons (tVar 14) tNil)) (tC (.int 3))))) (te := tVar 14) (vs := [14])
          (fun _ => Sz ns ix src (some (.fz (.lst (hD sv)))) (some (.ol us)) (some (.fz (.lst (duT sv rows)))) (some (.fz sd)) bg ev none (some (.fz (rnD (sv, rows, sd)))) fd' (some (.fz (Rw.bl cs).d)) bd) (fun _ => false) (fun _ => .fz .non)
          (ei_tup (ev_fld (s := Sz ns ix src (some (.fz (.lst (hD sv)))) (some (.ol us)) (some (.fz (.lst (duT sv rows)))) (some (.fz sd)) bg ev none (some (.fz (rnD (sv, rows, sd)))) fd' (some (.fz (Rw.bl cs).d)) bd) (ev_var (i := 12) rfl) (A.n 0 (by decide) "changes") rfl)) rfl (fun _ _ => rfl) (by rw [List.length_map]; omega) fun j d hd => by
            rw [List.getElem?_map, Option.map_eq_some_iff] at hd
            obtain ⟨c, _, rfl⟩ := hd
            have t := et_or (et_not (et_B (ev_isi (C := ⟨K, cls, fl⟩) (s := (Sz ns ix src (some (.fz (.lst (hD sv)))) (some (.ol us)) (some (.fz (.lst (duT sv rows)))) (some (.fz sd)) bg ev none (some (.fz (rnD (sv, rows, sd)))) fd' (some (.fz (Rw.bl cs).d)) bd).set 14 (some (.fz (.tup (chL c))))) (ev_var (i := 14) rfl) True.intro (.ty _) A.kitT))) (fun _ => et_test (ev_neV (C := ⟨K, cls, fl⟩) (ev_cb (ds := [_]) (ea_cons (ev_var (i := 14) rfl) ea_nil) rc_lenT) (ev_int (n := 3)) pI))
            exact ⟨[14], _, _, eg_name, fun _ z => z, t, (fun z => by cases z), fun _ => rfl⟩
        rw [gath_none] at h1
        refine ex_seq (N1 := (· = _)) (ex_asg h1 rfl) ?_
        rintro _ rfl
        exact ex_if (et_or (et_not (et_B (ev_isi (ev_fld (ev_var rfl) (A.n 0 (by decide) "changes") rfl) True.intro (.ty _) A.kitT))) (fun _ => et_test (ev_neNil (vw_var rfl) .nil pNil))) (fun h => by cases h) (fun _ => ex_next ⟨_, _, rfl⟩)
    rintro _ ⟨eh, bd, rfl⟩
    refine ex_if (et_test (ev_neV (Ev.frz (ev_callK (sv, rows, sd) (ea_cons (ev_var rfl) ea_nil) ⟨hr1, hr2⟩) (.ol (FzA.map _))) (ev_var rfl) ((gd_due _ _ _).two (gd_due _ _ _)))) (fun h => ?_) (fun _ => ex_next ⟨_, _, _, _, _, _, _, _, _, _, _, _, rfl⟩)
    rw [beqT] at h
    cases h
  · rintro _ ⟨ix, src, st, rs, du, sp, bg, ev, md, fd', eh, bd, rfl⟩
    exact ex_ret (ev_call () ea_nil True.intro) rfl
end
end K36
set_option maxRecDepth 100000
set_option maxHeartbeats 8000000
namespace K36
open PySem PySem.Spec PyProof.Rows L2 VD
def kitB (K : PySem.W.Frag) (Cs : List Addr) : Bool := (PySem.W.kitOne K (.type "tuple") (.type "tuple") == some true) && (List.range 5).all fun i =>
  ((List.range 5).all fun j => PySem.W.kitOne K (.ref (Cs.getD i 0)) (.ref (Cs.getD j 0)) == some (decide (i = j)) && PySem.W.notFirst K (Cs.getD i 0) (.ref (Cs.getD j 0))) &&
    ((tys.all fun T => PySem.W.kitOne K (.type T) (.ref (Cs.getD i 0)) == some false && (PySem.W.notFirst K (Cs.getD i 0) (.type T) && PySem.W.subIn K (.ref (Cs.getD i 0)) (.type T) == some false)) &&
      PySem.W.subIn K (.ref (Cs.getD i 0)) (.type "object") == some true)
theorem kitB_tuple {K : PySem.W.Frag} {Cs : List Addr} (h : kitB K Cs = true) : PySem.W.kitOne K (.type "tuple") (.type "tuple") = some true := by
  unfold kitB at h
  rw [Bool.and_eq_true, beq_iff_eq] at h
  exact h.1
theorem kitB_ok {K : PySem.W.Frag} {Cs : List Addr} (h : kitB K Cs = true) (i : Nat) (hi : i < 5) :
    (∀ j, j < 5 → PySem.W.kitOne K (.ref (Cs.getD i 0)) (.ref (Cs.getD j 0)) = some (decide (i = j)) ∧ PySem.W.notFirst K (Cs.getD i 0) (.ref (Cs.getD j 0)) = true) ∧
    (∀ T ∈ tys, PySem.W.kitOne K (.type T) (.ref (Cs.getD i 0)) = some false ∧ PySem.W.notFirst K (Cs.getD i 0) (.type T) = true ∧ PySem.W.subIn K (.ref (Cs.getD i 0)) (.type T) = some false) ∧
    PySem.W.subIn K (.ref (Cs.getD i 0)) (.type "object") = some true := by
  unfold kitB at h
  rw [Bool.and_eq_true] at h
  have z := List.all_eq_true.mp h.2 i (List.mem_range.mpr hi)
  rw [Bool.and_eq_true, Bool.and_eq_true, beq_iff_eq] at z
  refine ⟨fun j hj => ?_, fun T hT => ?_, z.2.2⟩
  · have y := List.all_eq_true.mp z.1 j (List.mem_range.mpr hj)
    rw [Bool.and_eq_true, beq_iff_eq] at y
    exact y
  · have y := List.all_eq_true.mp z.2.1 T hT
    rw [Bool.and_eq_true, Bool.and_eq_true, beq_iff_eq, beq_iff_eq] at y
    exact y
def spL (K : PySem.W.Frag) : Sp := fun vs H Q _ => ∃ (a : Addr) (ns : List Int), vs = [.ref a] ∧ SqL K H a (ns.map V.int) ∧ ns.length ≤ 63 ∧ ∀ H', Q (.bl true) H'
theorem rp_ints {C : VD.Ctx} {F : Hp} : ∀ ns : List Int, RpA C F (ns.map V.int) (ns.map D.int)
  | [] => .nil
  | n :: ns => .cons (.int n) (rp_ints ns)
theorem spL_imp {K : PySem.W.Frag} {cls : Nat → Addr} {vs : List V} {H : Hp} {Q : VK} {E : XK} (h : spL K vs H Q E) : spLaw ⟨K, cls, fl⟩ vs H Q E := by
  obtain ⟨a, ns, rfl, hS, hl, k⟩ := h
  exact ⟨H, ns, Same.refl H, .cons (.lst hS (rp_ints ns)) .nil, hl, fun v F' Z H' _ o => by
    have e : v = .bl true := o.inv.blv
    rw [e]
    exact k H'⟩
theorem all_mk {P : Program} {w : World} {K : PySem.W.Frag} {h : Heap} {mg : Str → Option Value} {fa : Addr} (X : K.In h) (G : h.Ns mainGlobals mg) (hfa : mg "law" = some (.ref fa))
    {C0 fE0 : Addr} {gE0 : FuncData} {fI0 : Addr} {gI0 : FuncData} {C1 fE1 : Addr} {gE1 : FuncData} {C2 fE2 : Addr} {gE2 : FuncData} {fI2 : Addr} {gI2 : FuncData} {C3 fE3 : Addr} {gE3 : FuncData} {fI3 : Addr} {gI3 : FuncData} {C4 fE4 : Addr} {gE4 : FuncData} {fI4 : Addr} {gI4 : FuncData} {gM : Addr} {gdM : FuncData} {gN : Addr} {gdN : FuncData} {gS : Addr} {gdS : FuncData} {gR : Addr} {gdR : FuncData} {gE : Addr} {gdE : FuncData} {gBo : Addr} {gdBo : FuncData} {gH : Addr} {gdH : FuncData} {gU : Addr} {gdU : FuncData} {gL : Addr} {gdL : FuncData}
    (a0 : PySem.W.nsIn K mainGlobals "Block" = some (some (.ref C0)))
    (cl0 : Cls K C0)
    (ca0 : PySem.W.findIn K (.ref C0) "__class__" = some (some (.builtin "object.__class__")))
    (mo0 : PySem.W.mroIn K C0 (.type "object") = some true)
    (n0_changes : PySem.W.findIn K (.ref C0) "changes" = some none)
    (mk0 : PySem.W.makesIn K C0 = true)
    (kp0 : PySem.W.keepIn K (.ref C0) = true)
    (i0 : PySem.W.findIn K (.ref C0) "__init__" = some (some (.ref fI0)))
    (fi0 : PySem.W.isFn K (.ref fI0) = true)
    (di0 : Fun K "__init__" "Block.__init__" sIniB fI0 gI0)
    (e0 : PySem.W.findIn K (.ref C0) "__eq__" = some (some (.ref fE0)))
    (fe0 : PySem.W.isFn K (.ref fE0) = true)
    (de0 : Fun K "__eq__" "Block.__eq__" sEqB fE0 gE0)
    (ne0 : PySem.W.findIn K (.ref C0) "__ne__" = some (some (.builtin "object.__ne__")))
    (a1 : PySem.W.nsIn K mainGlobals "Sync" = some (some (.ref C1)))
    (cl1 : Cls K C1)
    (ca1 : PySem.W.findIn K (.ref C1) "__class__" = some (some (.builtin "object.__class__")))
    (mo1 : PySem.W.mroIn K C1 (.type "object") = some true)
    (mk1 : PySem.W.makesIn K C1 = true)
    (kp1 : PySem.W.keepIn K (.ref C1) = true)
    (i1 : PySem.W.findIn K (.ref C1) "__init__" = some (some (.builtin "object.__init__")))
    (e1 : PySem.W.findIn K (.ref C1) "__eq__" = some (some (.ref fE1)))
    (fe1 : PySem.W.isFn K (.ref fE1) = true)
    (de1 : Fun K "__eq__" "Sync.__eq__" sEqS fE1 gE1)
    (ne1 : PySem.W.findIn K (.ref C1) "__ne__" = some (some (.builtin "object.__ne__")))
    (a2 : PySem.W.nsIn K mainGlobals "Out" = some (some (.ref C2)))
    (cl2 : Cls K C2)
    (ca2 : PySem.W.findIn K (.ref C2) "__class__" = some (some (.builtin "object.__class__")))
    (mo2 : PySem.W.mroIn K C2 (.type "object") = some true)
    (n2_word : PySem.W.findIn K (.ref C2) "word" = some none)
    (mk2 : PySem.W.makesIn K C2 = true)
    (kp2 : PySem.W.keepIn K (.ref C2) = true)
    (i2 : PySem.W.findIn K (.ref C2) "__init__" = some (some (.ref fI2)))
    (fi2 : PySem.W.isFn K (.ref fI2) = true)
    (di2 : Fun K "__init__" "Out.__init__" sIniO fI2 gI2)
    (e2 : PySem.W.findIn K (.ref C2) "__eq__" = some (some (.ref fE2)))
    (fe2 : PySem.W.isFn K (.ref fE2) = true)
    (de2 : Fun K "__eq__" "Out.__eq__" sEqO fE2 gE2)
    (ne2 : PySem.W.findIn K (.ref C2) "__ne__" = some (some (.builtin "object.__ne__")))
    (a3 : PySem.W.nsIn K mainGlobals "Stop" = some (some (.ref C3)))
    (cl3 : Cls K C3)
    (ca3 : PySem.W.findIn K (.ref C3) "__class__" = some (some (.builtin "object.__class__")))
    (mo3 : PySem.W.mroIn K C3 (.type "object") = some true)
    (n3_word : PySem.W.findIn K (.ref C3) "word" = some none)
    (n3_line : PySem.W.findIn K (.ref C3) "line" = some none)
    (n3_column : PySem.W.findIn K (.ref C3) "column" = some none)
    (mk3 : PySem.W.makesIn K C3 = true)
    (kp3 : PySem.W.keepIn K (.ref C3) = true)
    (i3 : PySem.W.findIn K (.ref C3) "__init__" = some (some (.ref fI3)))
    (fi3 : PySem.W.isFn K (.ref fI3) = true)
    (di3 : Fun K "__init__" "Stop.__init__" sIniT fI3 gI3)
    (e3 : PySem.W.findIn K (.ref C3) "__eq__" = some (some (.ref fE3)))
    (fe3 : PySem.W.isFn K (.ref fE3) = true)
    (de3 : Fun K "__eq__" "Stop.__eq__" sEqT fE3 gE3)
    (ne3 : PySem.W.findIn K (.ref C3) "__ne__" = some (some (.builtin "object.__ne__")))
    (a4 : PySem.W.nsIn K mainGlobals "Run" = some (some (.ref C4)))
    (cl4 : Cls K C4)
    (ca4 : PySem.W.findIn K (.ref C4) "__class__" = some (some (.builtin "object.__class__")))
    (mo4 : PySem.W.mroIn K C4 (.type "object") = some true)
    (n4_start : PySem.W.findIn K (.ref C4) "start" = some none)
    (n4_events : PySem.W.findIn K (.ref C4) "events" = some none)
    (n4_stop : PySem.W.findIn K (.ref C4) "stop" = some none)
    (mk4 : PySem.W.makesIn K C4 = true)
    (kp4 : PySem.W.keepIn K (.ref C4) = true)
    (i4 : PySem.W.findIn K (.ref C4) "__init__" = some (some (.ref fI4)))
    (fi4 : PySem.W.isFn K (.ref fI4) = true)
    (di4 : Fun K "__init__" "Run.__init__" sIniR fI4 gI4)
    (e4 : PySem.W.findIn K (.ref C4) "__eq__" = some (some (.ref fE4)))
    (fe4 : PySem.W.isFn K (.ref fE4) = true)
    (de4 : Fun K "__eq__" "Run.__eq__" sEqR fE4 gE4)
    (ne4 : PySem.W.findIn K (.ref C4) "__ne__" = some (some (.builtin "object.__ne__")))
    (hn : PySem.W.specialIn K (.builtin "object.__class__") "__get__" = some (some (.builtin "getset_descriptor.__get__")))
    (ht : PySem.W.takesIn K (.builtin "object.__class__") = some true)
    (kb : kitB K [C0, C1, C2, C3, C4] = true)
    (mM : PySem.W.nsIn K mainGlobals "_law_mixed" = some (some (.ref gM)))
    (dM : Fun K "_law_mixed" "_law_mixed" sMixed gM gdM)
    (mN : PySem.W.nsIn K mainGlobals "_law_next" = some (some (.ref gN)))
    (dN : Fun K "_law_next" "_law_next" sNext gN gdN)
    (mS : PySem.W.nsIn K mainGlobals "_law_source" = some (some (.ref gS)))
    (dS : Fun K "_law_source" "_law_source" sSource gS gdS)
    (mR : PySem.W.nsIn K mainGlobals "_law_run" = some (some (.ref gR)))
    (dR : Fun K "_law_run" "_law_run" sRun gR gdR)
    (mE : PySem.W.nsIn K mainGlobals "_law_event" = some (some (.ref gE)))
    (dE : Fun K "_law_event" "_law_event" sEvent gE gdE)
    (mBo : PySem.W.nsIn K mainGlobals "blocks_of" = some (some (.ref gBo)))
    (dBo : Fun K "blocks_of" "blocks_of" sBlocksOf gBo gdBo)
    (mH : PySem.W.nsIn K mainGlobals "heaps" = some (some (.ref gH)))
    (dH : Fun K "heaps" "heaps" sHeaps gH gdH)
    (mU : PySem.W.nsIn K mainGlobals "_law_unlike_right" = some (some (.ref gU)))
    (dU : Fun K "_law_unlike_right" "_law_unlike_right" sUnl gU gdU)
    (mL : PySem.W.nsIn K mainGlobals "law" = some (some (.ref gL)))
    (dL : Fun K "law" "law" sLaw gL gdL)
    (zint : PySem.W.nsIn K mainGlobals "int" = some none)
    (zlen : PySem.W.nsIn K mainGlobals "len" = some none)
    (zrange : PySem.W.nsIn K mainGlobals "range" = some none)
    (zisinstance : PySem.W.nsIn K mainGlobals "isinstance" = some none)
    (zenumerate : PySem.W.nsIn K mainGlobals "enumerate" = some none)
    (zmax : PySem.W.nsIn K mainGlobals "max" = some none)
    (zmin : PySem.W.nsIn K mainGlobals "min" = some none)
    (ztuple : PySem.W.nsIn K mainGlobals "tuple" = some none)
    (zlist : PySem.W.nsIn K mainGlobals "list" = some none)
    : ∃ fd : FuncData, (∀ (s : Shared) (v : Value), BindsTo s fd ⟨[v], []⟩ [("_law_script", v)]) ∧ ∀ base : Heap, K.In base → base.Ns mainGlobals mg → FnOk P w K mg base CX0 6 fa fd ["_law_script"] (spL K) := by
  have e : gL = fa := by
    have z := hfa.symm.trans (PySem.W.mg_of X G mL)
    cases z
    rfl
  subst e
  have DM : Df K mg "_law_mixed" sMixed ["_law_cell", "_law_k"] gM gdM := ⟨dM, PySem.W.mg_of X G mM, dM.binds (ps := ["_law_cell", "_law_k"]) fun _ _ _ _ _ _ us hl => match us, hl with | [_, _], _ => rfl⟩
  have DN : Df K mg "_law_next" sNext ["_law_source_here", "_law_many"] gN gdN := ⟨dN, PySem.W.mg_of X G mN, dN.binds (ps := ["_law_source_here", "_law_many"]) fun _ _ _ _ _ _ us hl => match us, hl with | [_, _], _ => rfl⟩
  have DS : Df K mg "_law_source" sSource ["_law_script", "_law_k"] gS gdS := ⟨dS, PySem.W.mg_of X G mS, dS.binds (ps := ["_law_script", "_law_k"]) fun _ _ _ _ _ _ us hl => match us, hl with | [_, _], _ => rfl⟩
  have DR : Df K mg "_law_run" sRun ["_law_source_here", "_law_size"] gR gdR := ⟨dR, PySem.W.mg_of X G mR, dR.binds (ps := ["_law_source_here", "_law_size"]) fun _ _ _ _ _ _ us hl => match us, hl with | [_, _], _ => rfl⟩
  have DE : Df K mg "_law_event" sEvent ["_law_row"] gE gdE := ⟨dE, PySem.W.mg_of X G mE, dE.binds (ps := ["_law_row"]) fun _ _ _ _ _ _ us hl => match us, hl with | [_], _ => rfl⟩
  have DBo : Df K mg "blocks_of" sBlocksOf ["run"] gBo gdBo := ⟨dBo, PySem.W.mg_of X G mBo, dBo.binds (ps := ["run"]) fun _ _ _ _ _ _ us hl => match us, hl with | [_], _ => rfl⟩
  have DH : Df K mg "heaps" sHeaps ["run"] gH gdH := ⟨dH, PySem.W.mg_of X G mH, dH.binds (ps := ["run"]) fun _ _ _ _ _ _ us hl => match us, hl with | [_], _ => rfl⟩
  have DU : Df K mg "_law_unlike_right" sUnl [] gU gdU := ⟨dU, PySem.W.mg_of X G mU, dU.binds (ps := []) fun _ _ _ _ _ _ us hl => match us, hl with | [], _ => rfl⟩
  have DL : Df K mg "law" sLaw ["_law_script"] gL gdL := ⟨dL, PySem.W.mg_of X G mL, dL.binds (ps := ["_law_script"]) fun _ _ _ _ _ _ us hl => match us, hl with | [_], _ => rfl⟩
  have B : Blt mg := ⟨PySem.W.mg_none_of X G zint, PySem.W.mg_none_of X G zlen, PySem.W.mg_none_of X G zrange, PySem.W.mg_none_of X G zisinstance, PySem.W.mg_none_of X G zenumerate, PySem.W.mg_none_of X G zmax, PySem.W.mg_none_of X G zmin, PySem.W.mg_none_of X G ztuple, PySem.W.mg_none_of X G zlist⟩
  obtain ⟨oc, od, kV, doc, pm, an, cdv, ct, osl, rfl, lk, hcd⟩ := dL.ex
  refine ⟨PySem.W.fnOf "law" "law" (defArgs sLaw) (defBody sLaw) (defScope sLaw) .none kV doc pm an cdv ct, fun s v => .of_eq rfl, fun base _ _ => ?_⟩
  let cls : Nat → Addr := fun i => [C0, C1, C2, C3, C4].getD i 0
  have A : Ax K mg cls := by
    refine { ci := ?_, na := ?_, kit := fun i j hi hj => ((kitB_ok kb i hi).1 j hj).1, kitN := fun T hT j hj => ((kitB_ok kb j hj).2.1 T hT).1, kitT := kitB_tuple kb, m0 := PySem.W.mg_of X G a0, m1 := PySem.W.mg_of X G a1, m2 := PySem.W.mg_of X G a2, m3 := PySem.W.mg_of X G a3, m4 := PySem.W.mg_of X G a4 }
    · intro c hc
      match c, hc with
      | 0, _ => exact ⟨cl0, ca0, hn, ht, mo0⟩
      | 1, _ => exact ⟨cl1, ca1, hn, ht, mo1⟩
      | 2, _ => exact ⟨cl2, ca2, hn, ht, mo2⟩
      | 3, _ => exact ⟨cl3, ca3, hn, ht, mo3⟩
      | 4, _ => exact ⟨cl4, ca4, hn, ht, mo4⟩
      | n + 5, h => exact absurd h (by omega)
    · intro c hc f hf
      match c, hc with
      | 0, _ =>
        simp only [fl, fls, List.getD_cons_zero, List.getD_cons_succ, List.mem_cons, List.not_mem_nil, or_false] at hf
        subst hf
        exact n0_changes
      | 1, _ =>
        simp only [fl, fls, List.getD_cons_zero, List.getD_cons_succ, List.mem_cons, List.not_mem_nil, or_false] at hf
        try exact hf.elim
      | 2, _ =>
        simp only [fl, fls, List.getD_cons_zero, List.getD_cons_succ, List.mem_cons, List.not_mem_nil, or_false] at hf
        subst hf
        exact n2_word
      | 3, _ =>
        simp only [fl, fls, List.getD_cons_zero, List.getD_cons_succ, List.mem_cons, List.not_mem_nil, or_false] at hf
        rcases hf with rfl | rfl | rfl
        · exact n3_word
        · exact n3_line
        · exact n3_column
      | 4, _ =>
        simp only [fl, fls, List.getD_cons_zero, List.getD_cons_succ, List.mem_cons, List.not_mem_nil, or_false] at hf
        rcases hf with rfl | rfl | rfl
        · exact n4_start
        · exact n4_events
        · exact n4_stop
      | n + 5, h => exact absurd h (by omega)
  have Q0 : Qf K cls 0 fE0 := ⟨e0, fe0, fun j hj => ((kitB_ok kb 0 (by decide)).1 j hj).2, fun T hT => ((kitB_ok kb 0 (by decide)).2.1 T hT).2, (kitB_ok kb 0 (by decide)).2.2, ne0⟩
  have E0 : Dm K "__eq__" "Block.__eq__" sEqB ["self", "other"] fE0 gE0 := ⟨de0, de0.binds (ps := ["self", "other"]) fun _ _ _ _ _ _ us hl => match us, hl with | [_, _], _ => rfl⟩
  have I0 : Ini K cls "Block.__init__" sIniB ["self", "changes"] 0 fI0 gI0 := ⟨⟨mk0, i0, fi0, kp0⟩, ⟨di0, di0.binds (ps := ["self", "changes"]) fun _ _ _ _ _ _ us hl => match us, hl with | [_, _], _ => rfl⟩⟩
  have Q1 : Qf K cls 1 fE1 := ⟨e1, fe1, fun j hj => ((kitB_ok kb 1 (by decide)).1 j hj).2, fun T hT => ((kitB_ok kb 1 (by decide)).2.1 T hT).2, (kitB_ok kb 1 (by decide)).2.2, ne1⟩
  have E1 : Dm K "__eq__" "Sync.__eq__" sEqS ["self", "other"] fE1 gE1 := ⟨de1, de1.binds (ps := ["self", "other"]) fun _ _ _ _ _ _ us hl => match us, hl with | [_, _], _ => rfl⟩
  have Q2 : Qf K cls 2 fE2 := ⟨e2, fe2, fun j hj => ((kitB_ok kb 2 (by decide)).1 j hj).2, fun T hT => ((kitB_ok kb 2 (by decide)).2.1 T hT).2, (kitB_ok kb 2 (by decide)).2.2, ne2⟩
  have E2 : Dm K "__eq__" "Out.__eq__" sEqO ["self", "other"] fE2 gE2 := ⟨de2, de2.binds (ps := ["self", "other"]) fun _ _ _ _ _ _ us hl => match us, hl with | [_, _], _ => rfl⟩
  have I2 : Ini K cls "Out.__init__" sIniO ["self", "word"] 2 fI2 gI2 := ⟨⟨mk2, i2, fi2, kp2⟩, ⟨di2, di2.binds (ps := ["self", "word"]) fun _ _ _ _ _ _ us hl => match us, hl with | [_, _], _ => rfl⟩⟩
  have Q3 : Qf K cls 3 fE3 := ⟨e3, fe3, fun j hj => ((kitB_ok kb 3 (by decide)).1 j hj).2, fun T hT => ((kitB_ok kb 3 (by decide)).2.1 T hT).2, (kitB_ok kb 3 (by decide)).2.2, ne3⟩
  have E3 : Dm K "__eq__" "Stop.__eq__" sEqT ["self", "other"] fE3 gE3 := ⟨de3, de3.binds (ps := ["self", "other"]) fun _ _ _ _ _ _ us hl => match us, hl with | [_, _], _ => rfl⟩
  have I3 : Ini K cls "Stop.__init__" sIniT ["self", "word", "line", "column"] 3 fI3 gI3 := ⟨⟨mk3, i3, fi3, kp3⟩, ⟨di3, di3.binds (ps := ["self", "word", "line", "column"]) fun _ _ _ _ _ _ us hl => match us, hl with | [_, _, _, _], _ => rfl⟩⟩
  have Q4 : Qf K cls 4 fE4 := ⟨e4, fe4, fun j hj => ((kitB_ok kb 4 (by decide)).1 j hj).2, fun T hT => ((kitB_ok kb 4 (by decide)).2.1 T hT).2, (kitB_ok kb 4 (by decide)).2.2, ne4⟩
  have E4 : Dm K "__eq__" "Run.__eq__" sEqR ["self", "other"] fE4 gE4 := ⟨de4, de4.binds (ps := ["self", "other"]) fun _ _ _ _ _ _ us hl => match us, hl with | [_, _], _ => rfl⟩
  have I4 : Ini K cls "Run.__init__" sIniR ["self", "start", "events", "stop"] 4 fI4 gI4 := ⟨⟨mk4, i4, fi4, kp4⟩, ⟨di4, di4.binds (ps := ["self", "start", "events", "stop"]) fun _ _ _ _ _ _ us hl => match us, hl with | [_, _, _, _], _ => rfl⟩⟩
  have q : Qs P w K mg base cls := ⟨⟨_, _, Q0, E0.b, ok_eqB E0 B A⟩, ⟨_, _, Q1, E1.b, ok_eqS E1 B A⟩, ⟨_, _, Q2, E2.b, ok_eqO E2 B A⟩, ⟨_, _, Q3, E3.b, ok_eqT E3 B A⟩⟩
  have q4 : Qe P w K mg base cls 3 4 r4 := ⟨_, _, Q4, E4.b, ok_eqR E4 B A q⟩
  exact (ok_law (cls := cls) DL B A ⟨DM, DN, DS, DR, DE, DBo, DH, DU, ⟨mk1, i1, kp1⟩, I2, I0, I3, I4⟩ q q4).imp fun vs H Q E h => spL_imp h
theorem walk {l : PySem.W.OpenLaw} {q : Program} {loose : List Str} {XP : (Str → Option Value) → Heap → Prop} {YP : World → Heap → Prop} {d : DefRec} {K : Params → PySem.W.Frag} (hn : l.most = some 63) (hdf : d.params.defaults = [])
    (hY : ∀ (w : World) (h : Heap), YP w h → (K w.params).In h)
    (F : ∀ (w : World) (mg : Str → Option Value) (fa : Addr) (h : Heap), (K w.params).In h → h.Ns mainGlobals mg → mg d.name = some (.ref fa) →
      ∃ fd : FuncData, (∀ (s : Shared) (u : Value), BindsTo s fd ⟨[u], []⟩ [("_law_script", u)]) ∧ ∀ base : Heap, (K w.params).In base → base.Ns mainGlobals mg → FnOk l.prog w (K w.params) mg base CX0 6 fa fd ["_law_script"] (spL (K w.params))) :
    PySem.W.WalkO q loose XP YP l.row.toRowW d [] (fun f vs => PySem.call f vs) :=
  L2.walk_of (n := 63) (k := 6) (x := "_law_script") (CX := fun _ => CX0) (sp := fun w => spL (K w.params)) hn (by decide) hdf ⟨rfl, by decide, by decide⟩ hY F (fun _ _ a ns hl _ hS => ⟨a, ns, rfl, hS, hl, fun _ => rfl⟩) fun _ _ _ _ _ z => z
end K36

open PySem PySem.W PyProof.Rows in
set_option maxRecDepth 100000 in
set_option maxHeartbeats 0 in
theorem PySem.Challenge.cw_lastheap_k36_runs_and_their_heaps_holds : PySem.Challenge.rw_lastheap_k36_runs_and_their_heaps.Holds := by
  w_on; o_law; k_head; (case hw => w_witness2)
  k_fill
  refine K36.walk (l := PySem.Challenge.rw_lastheap_k36_runs_and_their_heaps) rfl rfl (fun w h Y => PySem.W.kIn_of Y) ?F
  case F =>
    intro w mg fa h KX G hmg
    refine' K36.all_mk KX G hmg ?a0 ?cl0 ?ca0 ?mo0 ?n0_changes ?mk0 ?kp0 ?i0 ?fi0 ?di0 ?e0 ?fe0 ?de0 ?ne0 ?a1 ?cl1 ?ca1 ?mo1 ?mk1 ?kp1 ?i1 ?e1 ?fe1 ?de1 ?ne1 ?a2 ?cl2 ?ca2 ?mo2 ?n2_word ?mk2 ?kp2 ?i2 ?fi2 ?di2 ?e2 ?fe2 ?de2 ?ne2 ?a3 ?cl3 ?ca3 ?mo3 ?n3_word ?n3_line ?n3_column ?mk3 ?kp3 ?i3 ?fi3 ?di3 ?e3 ?fe3 ?de3 ?ne3 ?a4 ?cl4 ?ca4 ?mo4 ?n4_start ?n4_events ?n4_stop ?mk4 ?kp4 ?i4 ?fi4 ?di4 ?e4 ?fe4 ?de4 ?ne4 ?hn ?ht ?kb ?mM ?dM ?mN ?dN ?mS ?dS ?mR ?dR ?mE ?dE ?mBo ?dBo ?mH ?dH ?mU ?dU ?mL ?dL ?zint ?zlen ?zrange ?zisinstance ?zenumerate ?zmax ?zmin ?ztuple ?zlist
    (case a0 => k_is)
    (case cl0 => exact ⟨by k_is, by k_is, by k_is, by k_is⟩)
    (case ca0 => k_is)
    (case mo0 => k_is)
    (case n0_changes => k_is)
    (case mk0 => k_is)
    (case kp0 => k_is)
    (case i0 => k_is)
    (case fi0 => k_is)
    (case di0 => exact L2.fun_mk (by k_is) (by k_is) (by k_is))
    (case e0 => k_is)
    (case fe0 => k_is)
    (case de0 => exact L2.fun_mk (by k_is) (by k_is) (by k_is))
    (case ne0 => k_is)
    (case a1 => k_is)
    (case cl1 => exact ⟨by k_is, by k_is, by k_is, by k_is⟩)
    (case ca1 => k_is)
    (case mo1 => k_is)
    (case mk1 => k_is)
    (case kp1 => k_is)
    (case i1 => k_is)
    (case e1 => k_is)
    (case fe1 => k_is)
    (case de1 => exact L2.fun_mk (by k_is) (by k_is) (by k_is))
    (case ne1 => k_is)
    (case a2 => k_is)
    (case cl2 => exact ⟨by k_is, by k_is, by k_is, by k_is⟩)
    (case ca2 => k_is)
    (case mo2 => k_is)
    (case n2_word => k_is)
    (case mk2 => k_is)
    (case kp2 => k_is)
    (case i2 => k_is)
    (case fi2 => k_is)
    (case di2 => exact L2.fun_mk (by k_is) (by k_is) (by k_is))
    (case e2 => k_is)
    (case fe2 => k_is)
    (case de2 => exact L2.fun_mk (by k_is) (by k_is) (by k_is))
    (case ne2 => k_is)
    (case a3 => k_is)
    (case cl3 => exact ⟨by k_is, by k_is, by k_is, by k_is⟩)
    (case ca3 => k_is)
    (case mo3 => k_is)
    (case n3_word => k_is)
    (case n3_line => k_is)
    (case n3_column => k_is)
    (case mk3 => k_is)
    (case kp3 => k_is)
    (case i3 => k_is)
    (case fi3 => k_is)
    (case di3 => exact L2.fun_mk (by k_is) (by k_is) (by k_is))
    (case e3 => k_is)
    (case fe3 => k_is)
    (case de3 => exact L2.fun_mk (by k_is) (by k_is) (by k_is))
    (case ne3 => k_is)
    (case a4 => k_is)
    (case cl4 => exact ⟨by k_is, by k_is, by k_is, by k_is⟩)
    (case ca4 => k_is)
    (case mo4 => k_is)
    (case n4_start => k_is)
    (case n4_events => k_is)
    (case n4_stop => k_is)
    (case mk4 => k_is)
    (case kp4 => k_is)
    (case i4 => k_is)
    (case fi4 => k_is)
    (case di4 => exact L2.fun_mk (by k_is) (by k_is) (by k_is))
    (case e4 => k_is)
    (case fe4 => k_is)
    (case de4 => exact L2.fun_mk (by k_is) (by k_is) (by k_is))
    (case ne4 => k_is)
    (case hn => k_is)
    (case ht => k_is)
    (case kb => kernel_rfl)
    (case mM => k_is)
    (case dM => exact L2.fun_mk (by k_is) (by k_is) (by k_is))
    (case mN => k_is)
    (case dN => exact L2.fun_mk (by k_is) (by k_is) (by k_is))
    (case mS => k_is)
    (case dS => exact L2.fun_mk (by k_is) (by k_is) (by k_is))
    (case mR => k_is)
    (case dR => exact L2.fun_mk (by k_is) (by k_is) (by k_is))
    (case mE => k_is)
    (case dE => exact L2.fun_mk (by k_is) (by k_is) (by k_is))
    (case mBo => k_is)
    (case dBo => exact L2.fun_mk (by k_is) (by k_is) (by k_is))
    (case mH => k_is)
    (case dH => exact L2.fun_mk (by k_is) (by k_is) (by k_is))
    (case mU => k_is)
    (case dU => exact L2.fun_mk (by k_is) (by k_is) (by k_is))
    (case mL => k_is)
    (case dL => exact L2.fun_mk (by k_is) (by k_is) (by k_is))
    (case zint => k_is)
    (case zlen => k_is)
    (case zrange => k_is)
    (case zisinstance => k_is)
    (case zenumerate => k_is)
    (case zmax => k_is)
    (case zmin => k_is)
    (case ztuple => k_is)
    (case zlist => k_is)

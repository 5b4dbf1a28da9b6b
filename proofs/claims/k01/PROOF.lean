import PyProof.Rows.All
import Wide.All
import OpenK.AllK
import Wide.FinOn
import HandS.ForMost
import HandS.Exc
import HandS.ExcInit
import HandS.ExcOwn
import HandS.IsInst
import HandS.ExcValue
import HandS.Defaults
import HandS.More
import KE.KExcMore
import KE.KExcIs
import HandS.Wide
import HandS.Walk
import PySem.Challenge.RW_lastheap_k01_errors_of_the_package
set_option Elab.async false
set_option linter.all false
set_option maxRecDepth 100000
set_option maxHeartbeats 4000000
namespace PySem
namespace EKw
open PySem.W PySem.Calls PyProof.Rows PySem.HandSPX
section
variable {M : Model} {A : Around} {E : Value → Shared → Prop} {h : Heap} {g : Array GenState} {d : Drawn} {t : Nat} {os : OsState}
variable {nm q : Str} {C N : Addr} {bs bm bmB : List Value} {hdct : Bool} {sn : List Str} {sub : List Value} {ab : Bool} {col : Option Bool} {dd : Option Addr} {k0 k1 k2 k3 k5 : Option Value} {B newId initId : String}
theorem ck_tc {rest : List Value} {kw : List (Str × Value)} {Q : Unit → Shared → Prop}
    (hC : h.get? C = some (excClassObj nm q C N bs bm hdct sn sub ab col dd k0 k1 k2 k3 k5 newId))
    (hq : Q () ⟨h, g, d, t, os⟩) : wpAny M A (checkBuiltinCall "type.__call__" ⟨.ref C :: rest, kw⟩) Q E ⟨h, g, d, t, os⟩ := by
  have sb := tc_sub
  have ty : (⟨h, g, d, t, os⟩ : Shared).TypeIs (.ref C) "type" := ⟨_, hC, rfl⟩
  simp only [checkBuiltinCall, tc_kind, tc_split]
  repeat (any_goals (first
    | assumption
    | with_reducible refine wpAny_loadPart_at hC ?_
    | with_reducible refine wpAny_onRaise ?_
    | with_reducible refine wpAny_map ?_
    | wp_step))
theorem ck_new (F : ExcBaseFacts B newId initId bmB) (hT : ∀ X : String, bm.contains (.type X) = bmB.contains (.type X)) {rest : List Value} {kw : List (Str × Value)} {Q : Unit → Shared → Prop}
    (hC : h.get? C = some (excClassObj nm q C N bs bm hdct sn sub ab col dd k0 k1 k2 k3 k5 newId)) (hq : Q () ⟨h, g, d, t, os⟩) :
    wpAny M A (checkBuiltinCall newId ⟨.ref C :: rest, kw⟩) Q E ⟨h, g, d, t, os⟩ := by
  have has : (Value.ref C :: bm).contains (.type B) = true := by
    rw [List.contains_cons, hT, F.hasB, Bool.or_true]
  have st := F.noStar
  simp only [checkBuiltinCall, F.newKind, F.newSplit, F.newRow]
  repeat (first
    | refine wpAny_loadPart_at hC ?_
    | (refine wpAny_isSubtype_exc hC ?_; rw [has])
    | refine wpAny_staticBase_exc hC ?_
    | refine wpAny_madeBy_exc hC ?_
    | simp only [bne_self_eq_false, Bool.false_eq_true, if_false]
    | wp_step)
  exact hq
end
section
variable {prog : Program} {w : World} {A : Around} {E : Value → Shared → Prop} {R : Result → Shared → Prop} {h : Heap} {g : Array GenState} {d : Drawn} {t : Nat} {os : OsState}
variable {nm q : Str} {C N : Addr} {bs bm bmB : List Value} {hdct : Bool} {sn : List Str} {sub : List Value} {ab : Bool} {col : Option Bool} {dd : Option Addr} {k0 k1 k2 k3 k5 : Option Value} {B newId initId : String}
theorem mk_new (F : ExcBaseFacts B newId initId bmB) (hT : ∀ X : String, bm.contains (.type X) = bmB.contains (.type X)) {rest : List Value} {kw : List (Str × Value)}
    (hC : h.get? C = some (excClassObj nm q C N bs bm hdct sn sub ab col dd k0 k1 k2 k3 k5 newId))
    (hq : R (.ok (.ret (.ref (h.objs.size + 1)))) ⟨(h.push (kdv_tup rest)).push (excO C h.objs.size), g, d, t, os⟩) (hrest : rest.length ≤ sizeLine) :
    codeAny (model prog w) A (.builtin newId ⟨.ref C :: rest, kw⟩) R ⟨h, g, d, t, os⟩ := by
  have en := F.ends
  have c1 : (Value.ref C :: bm).contains (.type B) = true := by
    rw [List.contains_cons, hT, F.hasB, Bool.or_true]
  have c2 : (Value.ref C :: bm).contains (.type "AttributeError") = false := by
    rw [List.contains_cons, hT, F.noAttr]
    rfl
  have c3 : (Value.ref C :: bm).contains (.type "NameError") = false := by
    rw [List.contains_cons, hT, F.noName]
    rfl
  refine codeAny_builtinAt F.entry ?_
  unfold Builtin.«BaseException.__new__»
  refine wpAt_bind ?_
  show wpAt _ _ _ (stack >>= _) _ _ _
  refine wpAt_bind (wpAt_stack fun p below => wpAt_of_wpAny ?_)
  wp_walk
  refine wpAt_of_wpAny ?_
  rw [F.owner]
  repeat (first
    | with_reducible refine wpAny_madeHere_exc F.canon hC ?_
    | with_reducible refine wpAny_loadPart_at hC ?_
    | (with_reducible refine wpAny_isSubtype_exc hC ?_; first | rw [c1] | rw [c2] | rw [c3])
    | wp_step)
  show R _ _
  rw [Heap.size_push]
  exact hq
theorem mk_type (F : ExcBaseFacts B newId initId bmB) (hT : ∀ X : String, bm.contains (.type X) = bmB.contains (.type X)) {rest : List Value} {kw : List (Str × Value)} {fI : Addr} {Q : Fin → Shared → Prop}
    (hC : h.get? C = some (excClassObj nm q C N bs bm hdct sn sub ab col dd k0 k1 k2 k3 k5 newId))
    (hi : Looks (model prog w) h (typeLookup (.ref C) "__init__") (some (.ref fI)))
    (hb : ∀ self, Looks (model prog w) h (bindSpecial (.ref fI) self) (.ref fI, [self])) (hrest : rest.length ≤ sizeLine)
    (hq : codeAny (model prog w) A (.call (.ref fI) ⟨.ref (h.objs.size + 1) :: rest, kw⟩)
      (fun r s' => match r with | .ok (.ret v) => v = .none ∧ Q (.done (.ret (.ref (h.objs.size + 1)))) s' | .ok _ => False | .error e => E e s')
      ⟨(h.push (kdv_tup rest)).push (excO C h.objs.size), g, d, t, os⟩) :
    wpAny (model prog w) A (Builtin.«type.__call__» ⟨.ref C :: rest, kw⟩) Q E ⟨h, g, d, t, os⟩ := by
  repeat (first
    | with_reducible refine wpAny_loadPart_at hC ?_
    | with_reducible refine wpAny_madeBy_exc hC ?_
    | wp_step)
  refine codeAny_call_builtin_code (Code.quiet_builtin _ F.quiet) (ck_new F hT hC ?_)
  refine mk_new F hT hC ?_ hrest
  show wpAny _ _ _ _ _ _
  have kp : ∀ b o, h.get? b = some o → ((h.push (kdv_tup rest)).push (excO C h.objs.size)).get? b = some o := fun b o e =>
    Heap.get?_push_of_some _ (Heap.get?_push_of_some _ e)
  have hC1 := kp _ _ hC
  have new1 : ((h.push (kdv_tup rest)).push (excO C h.objs.size)).get? (h.objs.size + 1) = some (excO C h.objs.size) := by
    heap_get
  have me : (Value.ref C :: bm).contains (.ref C) = true := by
    simp
  have i1 := hi.keeps kp
  have b1 := (hb (.ref (h.objs.size + 1))).keeps kp
  unfold isInstance
  repeat (first
    | with_reducible refine wpAny_loadPart_at new1 ?_
    | (with_reducible refine wpAny_isSubtype_exc hC1 ?_; rw [me])
    | wp_step)
  show wpAny _ _ (typeLookup (.ref C) _) _ _ _
  refine i1.at ?_
  refine wpAny_holding (wpAny_bind (b1.at ?_))
  refine wpAny_bind (wpAny_call (codeAny_mono hq fun r s' z => ?_))
  rcases r with e | (v | _ | _ | _) <;> first | exact z | exact z.elim | skip
  obtain ⟨rfl, z⟩ := z
  first
    | exact wpAny_pure (wpAny_pure z)
    | (wp_walk; exact z)
/-- C(.., k = ..), an own exception class whose __init__ is the def at fI -/
theorem mk_call (F : ExcBaseFacts B newId initId bmB) (hT : ∀ X : String, bm.contains (.type X) = bmB.contains (.type X)) {rest : List Value} {kw : List (Str × Value)} {fI : Addr}
    (hC : h.get? C = some (excClassObj nm q C N bs bm hdct sn sub ab col dd k0 k1 k2 k3 k5 newId))
    (hi : Looks (model prog w) h (typeLookup (.ref C) "__init__") (some (.ref fI)))
    (hb : ∀ self, Looks (model prog w) h (bindSpecial (.ref fI) self) (.ref fI, [self])) (hrest : rest.length ≤ sizeLine)
    (hq : codeAny (model prog w) (A.under (.builtin "type.__call__" ⟨.ref C :: rest, kw⟩)) (.call (.ref fI) ⟨.ref (h.objs.size + 1) :: rest, kw⟩) (InitBack (h.objs.size + 1) R)
      ⟨(h.push (kdv_tup rest)).push (excO C h.objs.size), g, d, t, os⟩) :
    codeAny (model prog w) A (.call (.ref C) ⟨rest, kw⟩) R ⟨h, g, d, t, os⟩ := by
  have l1 := tc_lookup
  have l2 := tc_bind (.ref C)
  have ty : (⟨h, g, d, t, os⟩ : Shared).TypeIs (.ref C) "type" := ⟨_, hC, rfl⟩
  refine codeAny_of_tree ?_
  show wpAny _ _ (callAny (.ref C) _) _ _ _
  repeat (any_goals (first
    | assumption
    | with_reducible refine wpAny_loadPart_at hC ?_
    | wp_step))
  refine ⟨rfl, ?_⟩
  refine codeAny_call_builtin_at (Code.quiet_builtin _ (by decide +kernel)) entry_typeCall (ck_tc hC (mk_type F hT hC hi hb hrest ?_))
  refine codeAny_mono hq fun r s' z => ?_
  rcases r with e | (v | _ | _ | _) <;> exact z
end
end EKw
end PySem
set_option maxRecDepth 100000
set_option maxHeartbeats 4000000
namespace K1
open PySem PySem.Spec PyProof.Rows L2
/-- what the written part says of an own exception class, so that its objects may be held as values -/
structure XCls (K : PySem.W.Frag) (C : Addr) : Prop where
  o : OexC K C
  ga : PySem.W.findIn K (.ref C) "__getattribute__" = some (some (.builtin "BaseException.__getattribute__"))
  gg : PySem.W.findIn K (.ref C) "__getattr__" = some none
  hd : PySem.W.hasDictIn K C = true
  ca : PySem.W.findIn K (.ref C) "__class__" = some (some (.builtin "object.__class__"))
  mo : PySem.W.mroIn K C (.type "object") = some true
  hn : PySem.W.specialIn K (.builtin "object.__class__") "__get__" = some (some (.builtin "getset_descriptor.__get__"))
  ht : PySem.W.takesIn K (.builtin "object.__class__") = some true
/-- at a: an exception of the class at C, with these attributes (or none that was ever stored) -/
def IsX (C : Addr) (H : Hp) (a : Addr) : Option (List (Str × V)) → Prop
  | none => H a = some (exo a C none)
  | some fs => ∃ d, H a = some (exo a C (some d)) ∧ H d = some (exd d fs)
theorem IsX.mono {C : Addr} {H H' : Hp} {a : Addr} {o : Option (List (Str × V))} (x : IsX C H a o) (s : Same H H') : IsX C H' a o := by
  cases o with
  | none => exact s _ _ x
  | some fs =>
    obtain ⟨d, h1, h2⟩ := x
    exact ⟨d, s _ _ h1, s _ _ h2⟩
section
variable {X : Cx} {pins : List (Addr × Obj)} {σ : L2.St} {H : Hp} {s : Shared} {a C d : Addr} {fs : List (Str × V)}
theorem inst0 (I : Inv X pins σ H s) (h : H a = some (exo a C none)) : ∃ ox, PySem.W.InstAt s.heap a ox C none := by
  obtain ⟨t, e⟩ := exo_at I.hok h
  exact ⟨_, e, rfl, rfl, trivial⟩
theorem inst1 (I : Inv X pins σ H s) (h : H a = some (exo a C (some d))) (h2 : H d = some (exd d fs)) :
    ∃ (ox od : Obj) (mA : Str → Option Value), PySem.W.InstAt s.heap a ox C (some od) ∧ (∀ n, PySem.W.lookIn n od = some (mA n)) ∧ ∀ f, RelO (fs.lookup f) (mA f) := by
  obtain ⟨t, e⟩ := exo_at I.hok h
  obtain ⟨mA, hn, hr⟩ := exd_at I.hok h2
  obtain ⟨od, ho, hl⟩ := lookIn_ns hn
  exact ⟨_, od, mA, ⟨e, rfl, rfl, ho⟩, hl, hr⟩
end

/-! ### C(..) held as a value -/
def tMkV (C : Addr) (n m : Nat) (sp : Sp) (gV : List V → List V → List V) (t tk : TA) : TE := fun σ H Q => t σ H fun vs H1 => tk σ H1 fun zs H2 =>
  vs.length = n ∧ zs.length = m ∧ n ≤ 1000 ∧ ∀ a, H2 a = none → sp (gV (.ref a :: vs) zs) (upd H2 a (exo a C none)) (fun v H3 => v = .non ∧ Q (.ref a) H3) E0
section
variable {X : Cx} {CX : CXT} {k n : Nat} {fI C : Addr} {fd : FuncData} {ps ks : List Str} {sp : Sp} {x : Str} {p pos : Pos} {e : Expr} {es : List Expr} {kws : List Keyword} {t tk : TA} {g : List Value → List Value → List Value} {gV : List V → List V → List V}
theorem run_mkV {pins : List (Addr × Obj)} {σ : L2.St} {H : Hp} {s : Shared} {Q : VK} {us ws : List Value} {vs zs : List V} (T : OexC X.K C) (iC : PySem.W.findIn X.K (.ref C) "__init__" = some (some (.ref fI))) (tI : PySem.W.typeIn X.K (.ref fI) = some (.type "function"))
    (F : FnOk X.prog X.w X.K X.mg X.base CX k fI fd ps sp) (hr : Room (k + 1) X.A) (hb : KBn X.K fd ps (n + 1) ks g gV) (hx : Passes CX X E0) (I : Inv X pins σ H s) (r : Vals vs us) (rz : Vals zs ws) (l1 : vs.length = n) (l2 : zs.length = ks.length) (l3 : n ≤ 1000)
    (h : ∀ a, H a = none → sp (gV (.ref a :: vs) zs) (upd H a (exo a C none)) (fun v H2 => v = .non ∧ Q (.ref a) H2) E0) :
    wpAny (model X.prog X.w) X.A (call (.ref C) us (ks.zip ws)) (EP X pins σ Q) X.xe s := by
  obtain ⟨nm, q, N, bs, bm, sn, sub, ab, col, dd, k0, k1, k2, k3, k5, hC, hbm⟩ := T.cls
  obtain ⟨hp, g0, dr, tk0, os⟩ := s
  have hsz : hp.objs.size ≤ hp.objs.size + 1 := Nat.le_succ _
  have hq := h (hp.objs.size + 1) (I.hok.fresh hsz)
  have hget : ((hp.push (PySem.W.kdv_tup us)).push (PySem.HandSPX.excO C hp.objs.size)).get? (hp.objs.size + 1) = some (PySem.HandSPX.excO C hp.objs.size) := by
    heap_get
  have I2 : Inv X pins σ (upd H (hp.objs.size + 1) (exo (hp.objs.size + 1) C none)) ⟨(hp.push (PySem.W.kdv_tup us)).push (PySem.HandSPX.excO C hp.objs.size), g0, dr, tk0, os⟩ :=
    I.laid (t' := tk0) (fun b o z => Heap.get?_push_of_some _ (Heap.get?_push_of_some _ z)) hsz (exo_ok hget)
  have r1 : Vals (V.ref (hp.objs.size + 1) :: vs) (Value.ref (hp.objs.size + 1) :: us) := .cons rfl r
  have n1 : (Value.ref (hp.objs.size + 1) :: us).length = n + 1 := by
    rw [List.length_cons, ← r.length, l1]
  have n2 : us.length ≤ sizeLine := by
    rw [← r.length, l1, sizeLine_eq]
    omega
  refine wpAny_call (PySem.EKw.mk_call PySem.F.excBase_ValueError (fun Y => PySem.HandSPX.refsVE_contains Y bm hbm) (I.kIn _ _ hC) (PySem.W.looks_findIn I.kIn iC) (fun self => PySem.W.bind_fn I.kIn self tI) n2
    (codeAny_mono (F.run _ X.stack _ _ ⟨Value.ref (hp.objs.size + 1) :: us, ks.zip ws⟩ (g (Value.ref (hp.objs.size + 1) :: us) ws) _ _ E0 (hr.make C us (ks.zip ws))
      (I2.env0.make C us (ks.zip ws)) (hb.to _ _ ws I2.kIn n1 (rz.length.symm.trans l2)) (hb.rel r1 rz) hq) fun r s' hq' => ?_))
  cases r with
  | error er => exact hx pins σ _ _ er s' I2 hq'
  | ok fl =>
    cases fl with
    | ret u =>
      obtain ⟨v, H', I3, rv, ev, q3⟩ := I2.after hq'
      subst ev
      exact ⟨rv, ⟨V.ref (hp.objs.size + 1), H', I3, rfl, q3⟩⟩
    | next => exact hq'.elim
    | brk => exact hq'.elim
    | cont => exact hq'.elim
/-- C(e, ..) -/
theorem pe_mkV (T : OexC X.K C) (iC : PySem.W.findIn X.K (.ref C) "__init__" = some (some (.ref fI))) (tI : PySem.W.typeIn X.K (.ref fI) = some (.type "function")) (F : FnOk X.prog X.w X.K X.mg X.base CX k fI fd ps sp) (hr : Room (k + 1) X.A)
    (hb : KBn X.K fd ps (n + 1) [] g gV) (hx : Passes CX X E0) (hg : Gl X x) (hm : X.mg x = some (.ref C)) (ha : PA X (e :: es) t)
    (hdb : (x == ("__debug__" : Str)) = false := by decide) (he : starEach (e :: es) X.env = (false, eval e X.env) :: starEach es X.env := by rfl) (hpl : (backTo pos (starEach es X.env)).any (·.1) = false := by rfl) :
    PE X (.Call (.Name x p) (e :: es) [] pos) (tMkV C n 0 sp gV t tNil) := by
  refine ⟨fun pins s σ H Q I h => ?_⟩
  refine wpAny_Call_Name_kw (ld_glob I hg hm ?_ hdb)
  refine PySem.W.callWith_K (h₀ := X.base) I.ok.mod.kin T.kC (thn (ha.run pos pins s σ H _ I h) fun us s1 ⟨vs, H1, I1, r, l1, l2, l3, q⟩ => ⟨I1.kIn, ?_⟩) he hpl
  exact run_mkV (ks := []) (ws := []) T iC tI F hr hb hx I1 r .nil l1 rfl l3 q
/-- C(k = e, ..) -/
theorem pe_mkVK (T : OexC X.K C) (iC : PySem.W.findIn X.K (.ref C) "__init__" = some (some (.ref fI))) (tI : PySem.W.typeIn X.K (.ref fI) = some (.type "function")) (F : FnOk X.prog X.w X.K X.mg X.base CX k fI fd ps sp) (hr : Room (k + 1) X.A)
    (hb : KBn X.K fd ps 1 ks g gV) (hx : Passes CX X E0) (hg : Gl X x) (hm : X.mg x = some (.ref C)) (hkw : PK X kws tk)
    (hall : (backToKw pos (keywordEach kws X.env)).all (·.1.isSome) = true := by rfl) (hks : (backToKw pos (keywordEach kws X.env)).filterMap (·.1) = ks := by rfl) (hdb : (x == ("__debug__" : Str)) = false := by decide)
    (hpl : ((backTo pos (starEach [] X.env)).any (·.1) || (backToKw pos (keywordEach kws X.env)).any (·.1.isNone)) = false := by rfl) :
    PE X (.Call (.Name x p) [] kws pos) (tMkV C 0 ks.length sp gV tNil tk) := by
  refine ⟨fun pins s σ H Q I h => ?_⟩
  refine wpAny_Call_Name_kw (ld_glob I hg hm ?_ hdb)
  refine PySem.W.callWith_KW0 (h₀ := X.base) I.ok.mod.kin T.kC hall ?_ hpl
  refine thn (hkw.run pos pins s σ H _ I h) fun ws s2 ⟨zs, H2, I2, rz, l1, l2, l3, q2⟩ => ⟨I2.kIn, ?_⟩
  rw [hks]
  exact run_mkV (us := []) (vs := []) T iC tI F hr hb hx I2 .nil rz rfl l2 l3 q2
end
section
variable {X : Cx} {C : Addr} {bmB : List Value} {B newId initId : String} {x : Str} {p pos : Pos}
/-- C(), a class without an __init__ of its own -/
def tMk0 (C : Addr) : TE := fun _ H Q => ∀ a, H a = none → Q (.ref a) (upd H a (exo a C none))
theorem pe_mk0 (F : ExcBaseFacts B newId initId bmB) (q : PySem.W.excIn X.K C bmB newId = true) (hm : X.mg x = some (.ref C)) (kC : PySem.W.keepIn X.K (.ref C) = true) (hg : Gl X x) (hdb : (x == ("__debug__" : Str)) = false := by decide) :
    PE X (.Call (.Name x p) [] [] pos) (tMk0 C) := by
  refine ⟨fun pins s σ H Q I h => ?_⟩
  refine wpAny_Call_Name_kw (ld_glob I hg hm ?_ hdb)
  refine PySem.W.callWith_K0 I.kIn kC ?_
  show wpAny _ _ (call (.ref C) []) _ _ _
  obtain ⟨bm, N, nm, qn, bs, hdct, sn, sub, ab, col, dd, k0, k1, k2, k3, k5, mN, hC, hN, hni, T⟩ := exc_obj I.kIn q
  refine wpAny_call_exc_subT F T hC hN hni (fun h' a hm => ?_) (Nat.zero_le _)
  have hn : H a = none := I.hok.gone hm.new
  obtain ⟨t, ht, _, _⟩ := hm.there
  exact ⟨.ref a, _, I.laidN hm.keeps hm.new hn (exo_ok ht), rfl, h a hn⟩
end

/-! ### e.f, e.m(), isinstance(e, C) -/
section
variable {X : Cx} {e : Expr} {te : TE} {pos apos : Pos} {n : Str}
def tXfld (K : PySem.W.Frag) (f : Str) (te : TE) : TE := fun σ H Q => te σ H fun x H1 => ∃ (a C : Addr) (fs : List (Str × V)) (v : V), x = .ref a ∧ XCls K C ∧ PySem.W.findIn K (.ref C) f = some none ∧ IsX C H1 a (some fs) ∧ fs.lookup f = some v ∧ Q v H1
theorem pe_xfld (he : PE X e te) (hb : attributeBase e n X.env (eval e X.env) = eval e X.env := by rfl) : PE X (.Attribute e n pos) (tXfld X.K n te) := by
  refine ⟨fun pins s σ H Q I h => ?_⟩
  refine attr_of hb (thn (he.run pins s σ H _ I h) fun u s1 hh => ?_)
  obtain ⟨x, H1, I1, rx, a, C, fs, v, rfl, T, hno, ⟨d, h1, h2⟩, l, q⟩ := hh
  obtain rfl : u = Value.ref a := rx
  obtain ⟨ox, od, mA, J, hl, hr⟩ := inst1 I1 h1 h2
  obtain ⟨u, hu, ru⟩ := RelO.some_of (v := v) (o := mA n) (by rw [← l]; exact hr n)
  exact PySem.HandSPX.exc_get I1.kIn J T.ga T.gg T.o.exC (PySem.W.findObj_own T.hd hno rfl (by rw [hl, hu])) (handed_of ru) ⟨v, H1, I1.tok _, ru, q⟩
/-- e.m(): the method m of the class at C, the def at f with the promise sp -/
structure XMeth (K : PySem.W.Frag) (C : Addr) (m : Str) (f : Addr) : Prop where
  at_ : PySem.W.findIn K (.ref C) m = some (some (.ref f))
  fn : PySem.W.isFn K (.ref f) = true
  kp : PySem.W.keepIn K (.ref f) = true
theorem xmeth_ok {pins : List (Addr × Obj)} {σ : L2.St} {H : Hp} {s : Shared} {E : Value → Shared → Prop} {m : Str} {g a C : Addr} {o : Option (List (Str × V))} {pl : Sem Bool} {Q : Value × List Value → Shared → Prop} (I : Inv X pins σ H s) (x : IsX C H a o) (T : XCls X.K C) (k : XMeth X.K C m g)
    (l : ∀ fs, o = some fs → fs.lookup m = none) (h : Q (.ref g, [.ref a]) s) : wpAny (model X.prog X.w) X.A (getMethod (.ref a) m pl) Q E s := by
  obtain ⟨mm, fr⟩ := I.fr
  cases o with
  | none =>
    obtain ⟨ox, J⟩ := inst0 I x
    exact PySem.W.method_exc0 fr I.ok.mod.kin J T.ga T.gg k.at_ k.fn h
  | some fs =>
    obtain ⟨d, h1, h2⟩ := x
    obtain ⟨ox, od, mA, J, hl, hr⟩ := inst1 I h1 h2
    have z : mA m = none := RelO.none_of (by rw [← l fs rfl]; exact hr m)
    exact PySem.W.method_exc fr I.ok.mod.kin J T.ga T.gg k.at_ k.fn (by show (PySem.W.lookIn m od).map _ = _; rw [hl, z]; rfl) h
/-- e.m() by a table of promises: Φ tells of a class its method and its promise -/
def tXm (K : PySem.W.Frag) (Φ : Addr → Sp → Prop) (m : Str) (te : TE) : TE := fun σ H Q => te σ H fun x H1 => ∃ (a C : Addr) (o : Option (List (Str × V))) (sp : Sp), x = .ref a ∧ XCls K C ∧ Φ C sp ∧ IsX C H1 a o ∧ (∀ fs, o = some fs → fs.lookup m = none) ∧ sp [.ref a] H1 Q E0
theorem pe_xm {k : Nat} {m : Str} {Φ : Addr → Sp → Prop} {pl : Sem Bool} (he : PE X e te) (hΦ : ∀ C sp, Φ C sp → ∃ (f : Addr) (fd : FuncData) (ps : List Str), XMeth X.K C m f ∧ FnOk X.prog X.w X.K X.mg X.base CX0 k f fd ps sp ∧ Binds X.K fd ps []) (hr : Room k X.A)
    (ht : eval (.Call (.Attribute e m apos) [] [] pos) X.env = (do
      let ov ← eval e X.env
      standAt apos.atName
      let (f, first) ← holding [ov] (getMethod ov m pl)
      callWith pos f first (backTo pos (starEach [] X.env)) (backToKw pos (keywordEach [] X.env))) := by rfl) :
    PE X (.Call (.Attribute e m apos) [] [] pos) (tXm X.K Φ m te) := by
  refine ⟨fun pins s σ H Q I h => ?_⟩
  refine PySem.W.methodCall_KW (pl := pl) (thn (he.run pins s σ H _ I h) fun u s1 hh => ?_) ht
  obtain ⟨x, H1, I1, rx, a, C, o, sp, rfl, T, φ, ix, l, q⟩ := hh
  obtain rfl : u = Value.ref a := rx
  obtain ⟨f, fd, ps, M, F, b⟩ := hΦ C sp φ
  refine xmeth_ok I1 ix T M l ?_
  exact PySem.W.callWith_K0 (first := [.ref a]) I1.kIn M.kp (run_fn (us := [.ref a]) (vs := [.ref a]) F hr b .nil pass0 I1 (.cons rfl .nil) q)
def rIsX (K : PySem.W.Frag) : List V → Hp → VK → Prop := fun xs H Q => ∃ (a C : Addr) (o : Option (List (Str × V))) (c : V) (u : Value) (b : Bool), xs = [.ref a, c] ∧ ClsV c u ∧ XCls K C ∧ IsX C H a o ∧ PySem.W.kitOne K (.ref C) u = some b ∧ Q (.bl b) H
theorem call_isX : CallR X (.builtin "isinstance") (rIsX X.K) := by
  intro pins s σ H xs us Q I r h
  obtain ⟨a, C, o, c, u, b, rfl, k, T, ix, e, q⟩ := h
  obtain ⟨u1, u2, rfl, r1, r2⟩ := vals2 r
  have e2 := k.eq r2
  subst e2
  obtain rfl : u1 = Value.ref a := r1
  obtain ⟨nm, q', N, bs, bm, sn, sub, ab, col, dd, k0, k1, k2, k3, k5, hC, hbm⟩ := T.o.cls
  have hcl : (PySem.W.clsIn X.K C).isSome = true := by
    unfold PySem.W.clsIn
    rw [hC] <;> rfl
  have fin : ∀ tk, EP X pins σ Q (.bool b) { s with toks := tk } := fun tk => ⟨.bl b, H, I.tok tk, rfl, q⟩
  cases o with
  | none =>
    obtain ⟨ox, J⟩ := inst0 I ix
    exact PySem.W.kia_one (PySem.W.kitx_exc hcl T.ga T.gg T.o.exC T.ca T.hn T.ht T.mo) I.kIn J e (fun z => nomatch z) fin
  | some fs =>
    obtain ⟨d, h1, h2⟩ := ix
    obtain ⟨ox, od, mA, J, _, _⟩ := inst1 I h1 h2
    exact PySem.W.kia_one (PySem.W.kitx_exc hcl T.ga T.gg T.o.exC T.ca T.hn T.ht T.mo) I.kIn J e (fun z => nomatch z) fin
end

/-! ### two lists of the very same items -/
section
variable {X : Cx}
def rNeSame (K : PySem.W.Frag) : R2 := fun x y H Q => ∃ (a b : Addr) (xs : List V), x = .ref a ∧ y = .ref b ∧ SqL K H a xs ∧ SqL K H b xs ∧ (∀ v ∈ xs, flatB v = true ∨ ∃ r, v = .ref r) ∧ Q (.bl false) H
theorem op_neSame (hu : X.A.units + 1 < cLine) : OpR X (compareOp .NotEq) (rNeSame X.K) := by
  intro pins s σ H x y v u Q I rx ry h
  obtain ⟨a, b, xs, rfl, rfl, ha, hb, hf, q⟩ := h
  obtain rfl : v = Value.ref a := rx
  obtain rfl : u = Value.ref b := ry
  obtain ⟨us, r1, p1, _⟩ := I.list ha
  obtain ⟨ws, r2, p2, _⟩ := I.list hb
  have hsz : us.toArray.size = ws.toArray.size := by
    rw [List.size_toArray, List.size_toArray, ← r1.length, ← r2.length]
  have key : ∀ {xs : List V} {us ws : List Value}, Vals xs us → Vals xs ws → (∀ v ∈ xs, flatB v = true ∨ ∃ r, v = .ref r) → ∀ j (h1 : j < us.length) (h2 : j < ws.length), SeqAt.EqAt X.A.in1 s us[j] ws[j] true := by
    intro xs
    induction xs with
    | nil =>
      intro us ws r1 r2 _ j h1 _
      cases r1
      exact absurd h1 (Nat.not_lt_zero j)
    | cons v xs ih =>
      intro us ws r1 r2 hf j h1 h2
      cases r1 with
      | cons a1 b1 =>
        cases r2 with
        | cons a2 b2 =>
          cases j with
          | zero =>
            rcases hf v List.mem_cons_self with f | ⟨r, rfl⟩
            · exact eqAt_same a1 a2 f
            · cases a1
              cases a2
              exact SeqAt.EqAt.same _
          | succ j => exact ih b1 b2 (fun v hv => hf v (List.mem_cons_of_mem _ hv)) j (Nat.lt_of_succ_lt_succ h1) (Nat.lt_of_succ_lt_succ h2)
  have R := SeqAt.RcNeAt.lists (A := X.A) (s := s) (e := fun _ => true) p1.isList p2.isList hsz (by omega) (fun j h1 h2 => by
    have z := key r1 r2 hf j (by simpa using h1) (by simpa using h2)
    simpa using z)
  rw [show (!(List.range us.toArray.size).all fun _ => true) = false from by
    rw [show ((List.range us.toArray.size).all fun _ => true) = true from List.all_eq_true.mpr fun _ _ => rfl]
    rfl] at R
  exact R X.prog X.w _ _ ⟨.bl false, H, I, rfl, q⟩
end
end K1
set_option maxRecDepth 100000
set_option maxHeartbeats 4000000
namespace K1
open PySem PySem.Spec PyProof.Rows L2
def top (i : Nat) : Stmt := PySem.Challenge.pw_lastheap_k01_errors_of_the_package.main.body.getD i (.Pass ⟨0, 0, 0, 0⟩)
abbrev sMixed : Stmt := top 18
abbrev sSource : Stmt := top 19
abbrev sTake : Stmt := top 20
abbrev sPick : Stmt := top 21
/-- the built-ins' names that the law leaves alone -/
structure Blt (mg : Str → Option Value) : Prop where
  int : mg "int" = none
  len : mg "len" = none
  range : mg "range" = none
  isinst : mg "isinstance" = none
  enum : mg "enumerate" = none
  all : mg "all" = none
  ve : mg "ValueError" = none
/-- a def of the module under its name, with all its parameters given -/
structure Df (K : PySem.W.Frag) (mg : Str → Option Value) (x : Str) (st : Stmt) (ps : List Str) (f : Addr) (fd : FuncData) : Prop where
  fn : Fun K x x st f fd
  mgf : mg x = some (.ref f)
  b : Binds K fd ps []
/-- a source of draws -/
def Src (H : Hp) (p : Addr) : Prop := ∃ a b n : Int, H p = some (.lst [.int a, .int b, .int n])
def spMixed : Sp := fun vs H Q _ => ∃ c d : Int, vs = [.int c, .int d] ∧ ∀ m : Int, 0 ≤ m → m < 2147483563 → Q (.int m) H
def spSource : Sp := fun vs H Q _ => ∃ c : Int, vs = [.int c] ∧ ∀ p, H p = none → Q (.ref p) (upd H p (.lst [.int c, .int c, .int 0]))
/-- what a draw leaves: the source is another one, all else as it was -/
def Drew (p : Addr) (H H' : Hp) : Prop := Src H' p ∧ ∀ b, b ≠ p → H' b = H b
def spTake : Sp := fun vs H Q _ => ∃ (p : Addr) (n : Int), vs = [.ref p, .int n] ∧ Src H p ∧ 0 < n ∧ n < 1073741824 ∧ ∀ (m : Int) H', 0 ≤ m → m < n → Drew p H H' → Q (.int m) H'
def spPick (K : PySem.W.Frag) : Sp := fun vs H Q _ => ∃ (p q : Addr) (xs : List V), vs = [.ref p, .ref q] ∧ Src H p ∧ SqL K H q xs ∧ p ≠ q ∧ xs ≠ [] ∧ xs.length < 1073741824 ∧ ∀ v H', v ∈ xs → Drew p H H' → Q v H'
section
variable {P : Program} {w : World} {K : PySem.W.Frag} {mg : Str → Option Value} {base : Heap}
theorem cmR {i j : Int} (h : 0 ≤ j) (h2 : j < 18446744073709551616) : CMul i j := .inr ⟨by omega, by omega⟩
theorem cmL {i j : Int} (h : 0 ≤ i) (h2 : i < 18446744073709551616) : CMul i j := .inl ⟨by omega, by omega⟩
theorem cmMod {a b m : Int} (h : 0 < m) (h2 : m ≤ 18446744073709551616) : CMul (a % m) b :=
  cmL (Int.emod_nonneg _ (by omega)) (Int.lt_of_lt_of_le (Int.emod_lt_of_pos _ h) h2)
theorem cmAdd {a b m : Int} (h : 0 < m) (h2 : m < 18446744073709551616) : CMul (a % m + 1) b :=
  cmL (by have := Int.emod_nonneg a (b := m) (by omega); omega) (by have := Int.emod_lt_of_pos a h; omega)
theorem scMixed : FnScope ["_law_cell", "_law_draw", "_law_figure"] ["_law_cell", "_law_draw"] (defScope sMixed) := ⟨rfl, rfl, rfl, by decide +kernel, rfl, by decide +kernel, by decide +kernel⟩
theorem ok_mixed {f : Addr} {fd : FuncData} (D : Df K mg "_law_mixed" sMixed ["_law_cell", "_law_draw"] f fd) (B : Blt mg) : FnOk P w K mg base CX0 1 f fd ["_law_cell", "_law_draw"] spMixed := by
  refine D.fn.ok scMixed (fun vs H Q E h => ?_) (fun cdv A outer s H vs Q E hr h => ?_)
  · obtain ⟨c, d, rfl, _⟩ := h
    rfl
  · obtain ⟨c, d, rfl, k⟩ := h
    refine ⟨_, pss_cons (ps_set (i := 2) scMixed.nd rfl (Or.inl rfl)
        (pe_op op_mod (pe_callTy call_int1 (by rfl) B.int boot_int (pa_cons (pe_op op_mul (pe_op op_add (pe_op op_mod (pe_callTy call_int1 (by rfl) B.int boot_int (pa_cons (pv 0) pa_nil)) pe_int) pe_int) (pe_op op_add (pe_op op_mul (pv 1) pe_int) pe_int)) pa_nil)) pe_int))
      (pss_cons (ps_set (i := 2) scMixed.nd rfl (Or.inl rfl)
        (pe_op op_mod (pe_callTy call_int1 (by rfl) B.int boot_int (pa_cons (pe_op op_mul (pe_op op_add (pv 2) (pe_op op_mul (pe_op op_mod (pe_callTy call_int1 (by rfl) B.int boot_int (pa_cons (pe_op op_fdivW (pv 0) pe_int) pa_nil)) pe_int) (pe_op op_add (pv 1) pe_int))) pe_int) pa_nil)) pe_int))
      (pss_cons (ps_set (i := 2) scMixed.nd rfl (Or.inl rfl)
        (pe_op op_mod (pe_callTy call_int1 (by rfl) B.int boot_int (pa_cons (pe_op op_mul (pv 2) (pe_op op_add (pe_op op_add (pe_op op_fdiv (pv 2) pe_int) pe_int) (pv 1))) pa_nil)) pe_int))
      (pss_one (ps_ret (pe_op op_mod (pe_callTy call_int1 (by rfl) B.int boot_int (pa_cons (pe_op op_mul (pv 2) (pe_op op_add (pe_op op_fdiv (pv 2) pe_int) pe_int)) pa_nil)) pe_int))))), ?_⟩
    simp only [tSeq, tAsg, tRet, tOp, tVar, tC, tCB, tCons, tNil, rI0, rI, gName, L2.start, List.map, List.append, List.length, List.replicate, List.cons_append, List.nil_append, List.getElem?_cons_zero, List.getElem?_cons_succ, List.set_cons_zero, List.set_cons_succ, Option.some.injEq, exists_eq_left', exists_and_left, V.int.injEq, List.cons.injEq, and_true, reduceCtorEq, false_and, and_false, exists_false, or_false, exists_eq_left, exists_eq]
    refine ⟨by decide, cmR (by decide) (by decide), cmAdd (by decide) (by decide), by decide, ⟨by decide, by decide +kernel⟩, by decide, cmMod (by decide) (by decide), cmR (by decide) (by decide), by decide, ⟨by decide, by decide⟩, cmMod (by decide) (by decide), by decide, ⟨by decide, by decide⟩, cmMod (by decide) (by decide), by decide, k _ (Int.emod_nonneg _ (by decide)) (Int.emod_lt_of_pos _ (by decide))⟩
theorem scSource : FnScope ["_law_cell"] ["_law_cell"] (defScope sSource) := ⟨rfl, rfl, rfl, by decide +kernel, rfl, by decide +kernel, by decide +kernel⟩
theorem ok_source {f : Addr} {fd : FuncData} (D : Df K mg "_law_source" sSource ["_law_cell"] f fd) : FnOk P w K mg base CX0 1 f fd ["_law_cell"] spSource := by
  refine D.fn.ok scSource (fun vs H Q E h => ?_) (fun cdv A outer s H vs Q E hr h => ?_)
  · obtain ⟨c, rfl, _⟩ := h
    rfl
  · obtain ⟨c, rfl, k⟩ := h
    refine ⟨_, pss_one (ps_ret (pe_lst (pa_cons (pv 0) (pa_cons (pv 0) (pa_cons pe_int pa_nil))))), ?_⟩
    exact ⟨_, rfl, _, rfl, (by show 3 ≤ sizeLine; decide), fun p hp => k p hp⟩
theorem scTake : FnScope ["_law_source_here", "_law_bound", "_law_drawn"] ["_law_source_here", "_law_bound"] (defScope sTake) := ⟨rfl, rfl, rfl, by decide +kernel, rfl, by decide +kernel, by decide +kernel⟩
theorem ok_take {f fM : Addr} {fd fdM : FuncData} (D : Df K mg "_law_take" sTake ["_law_source_here", "_law_bound"] f fd) (DM : Df K mg "_law_mixed" sMixed ["_law_cell", "_law_draw"] fM fdM) (B : Blt mg) :
    FnOk P w K mg base CX0 2 f fd ["_law_source_here", "_law_bound"] spTake := by
  have GM : FnOk P w K mg base CX0 1 fM fdM ["_law_cell", "_law_draw"] spMixed := ok_mixed DM B
  refine D.fn.ok scTake (fun vs H Q E h => ?_) (fun cdv A outer s H vs Q E hr h => ?_)
  · obtain ⟨p, n, rfl, _⟩ := h
    rfl
  · obtain ⟨p, n, rfl, ⟨a, b, m, hp⟩, n0, n1, k⟩ := h
    refine ⟨_, pss_cons (ps_if (pt_cmpR op_ge (pe_ix ix_list (pv 0) pe_int (fun _ _ => rfl)) (pe_op op_pow pe_int pe_int) (nomark _))
        (pss_cons (ps_set (i := 2) scTake.nd rfl (Or.inl rfl) (pe_op op_mod (pe_callTy call_int1 (by rfl) B.int boot_int (pa_cons (pe_ix ix_list (pv 0) pe_int (fun _ _ => rfl)) pa_nil)) (pv 1)))
        (pss_cons (ps_asg (pe_op op_fdiv (pe_ix ix_list (pv 0) pe_int (fun _ _ => rfl)) (pv 1)) (pg_sub (pv 0) pe_int set_list))
        (pss_one (ps_ret (pv 2))))) pss_nil)
      (pss_cons (ps_asg (pe_op op_add (pe_ix ix_list (pv 0) pe_int (fun _ _ => rfl)) pe_int) (pg_sub (pv 0) pe_int set_list))
      (pss_one (ps_ret (pe_op op_mod (pe_callTy call_int1 (by rfl) B.int boot_int (pa_cons (pe_call GM hr rfl DM.mgf DM.fn.kp DM.b .nil pass0 (pa_cons (pe_ix ix_list (pv 0) pe_int (fun _ _ => rfl)) (pa_cons (pe_ix ix_list (pv 0) pe_int (fun _ _ => rfl)) pa_nil))) pa_nil)) (pv 1))))), ?_⟩
    have hS : SqL K H p [.int a, .int b, .int m] := SqL.of hp
    refine ⟨_, rfl, p, _, _, _, rfl, rfl, hS, rfl, ?_⟩
    simp only [tC, tOp, rI, rI0, V.int.injEq, exists_eq_left', exists_and_left, V.bl.injEq]
    refine ⟨⟨by decide, by decide, by decide⟩, ?_⟩
    refine ite2 (fun _ => ?_) (fun _ => ?_)
    · refine ⟨_, rfl, p, _, _, _, rfl, rfl, hS, rfl, .inl ⟨_, rfl, _, rfl, _, _, rfl, rfl, n0, ?_⟩⟩
      refine ⟨_, rfl, p, _, _, _, rfl, rfl, hS, rfl, _, rfl, _, _, rfl, rfl, ⟨n0, n1⟩, ?_⟩
      refine ⟨_, rfl, p, _, _, _, rfl, rfl, hp, rfl, ?_⟩
      refine ⟨_, rfl, k _ _ (Int.emod_nonneg _ (by omega)) (Int.emod_lt_of_pos _ n0) ⟨⟨_, _, _, upd_same⟩, fun b hb => upd_ne hb⟩⟩
    · refine ⟨_, rfl, p, _, _, _, rfl, rfl, hS, rfl, _, _, rfl, rfl, ?_⟩
      refine ⟨_, rfl, p, _, _, _, rfl, rfl, hp, rfl, ?_⟩
      have hS2 : SqL K (upd H p (.lst [.int a, .int b, .int (m + 1)])) p [.int a, .int b, .int (m + 1)] := SqL.of upd_same
      refine ⟨_, rfl, p, _, _, _, rfl, rfl, hS2, rfl, ?_⟩
      refine ⟨_, rfl, p, _, _, _, rfl, rfl, hS2, rfl, b, m + 1, rfl, fun r r0 r1 => ?_⟩
      refine .inl ⟨_, rfl, _, rfl, _, _, rfl, rfl, n0, ?_⟩
      exact k _ _ (Int.emod_nonneg _ (by omega)) (Int.emod_lt_of_pos _ n0) ⟨⟨_, _, _, upd_same⟩, fun b hb => upd_ne hb⟩
theorem scPick : FnScope ["_law_source_here", "_law_options"] ["_law_source_here", "_law_options"] (defScope sPick) := ⟨rfl, rfl, rfl, by decide +kernel, rfl, by decide +kernel, by decide +kernel⟩
theorem seqL_same {H H' : Hp} {p q : Addr} {xs : List V} (h : SqL K H q xs) (n : q ≠ p) (d : Drew p H H') : SqL K H' q xs := by
  rcases h with (h | ⟨o, h⟩) | h
  · exact .inl (.inl (by rw [d.2 q n]; exact h))
  · exact .inl (.inr ⟨o, by rw [d.2 q n]; exact h⟩)
  · exact .inr h
theorem ok_pick {f fT : Addr} {fd fdT : FuncData} (D : Df K mg "_law_pick" sPick ["_law_source_here", "_law_options"] f fd) (DT : Df K mg "_law_take" sTake ["_law_source_here", "_law_bound"] fT fdT)
    (GT : FnOk P w K mg base CX0 2 fT fdT ["_law_source_here", "_law_bound"] spTake) (B : Blt mg) : FnOk P w K mg base CX0 3 f fd ["_law_source_here", "_law_options"] (spPick K) := by
  refine D.fn.ok scPick (fun vs H Q E h => ?_) (fun cdv A outer s H vs Q E hr h => ?_)
  · obtain ⟨p, q, xs, rfl, _⟩ := h
    rfl
  · obtain ⟨p, q, xs, rfl, hs, hq, ne, nn, hl, k⟩ := h
    refine ⟨_, pss_one (ps_ret (pe_ix ix_list (pv 1) (pe_call GT hr rfl DT.mgf DT.fn.kp DT.b .nil pass0 (pa_cons (pv 0) (pa_cons (pe_callB call_len_seq (by rfl) B.len PySem.boot_len (pa_cons (pv 1) pa_nil)) pa_nil))) (fun _ _ => rfl))), ?_⟩
    refine ⟨_, rfl, _, rfl, _, rfl, q, xs, rfl, .inl hq, p, (xs.length : Int), rfl, hs, ?_, by omega, fun m H' m0 m1 d => ?_⟩
    · have := List.length_pos_iff.mpr nn
      omega
    · obtain ⟨j, rfl⟩ : ∃ j : Nat, m = (j : Int) := ⟨m.toNat, by omega⟩
      have hj : j < xs.length := by omega
      exact ⟨q, xs, _, xs[j], rfl, rfl, seqL_same hq ne.symm d, atI_nat (by simp [hj]), k _ _ (List.getElem_mem hj) d⟩
end
end K1
set_option maxRecDepth 100000
set_option maxHeartbeats 4000000
namespace K1
open PySem PySem.Spec PyProof.Rows L2
/-- a + b, two lists that may only be read (the script) -/
def rCatS (K : PySem.W.Frag) : R2 := fun x y H Q => ∃ (a b : Addr) (xs ys : List V), x = .ref a ∧ y = .ref b ∧ SqL K H a xs ∧ SqL K H b ys ∧ xs.length + ys.length ≤ sizeLine ∧ ∀ p, H p = none → Q (.ref p) (upd H p (.lst (xs ++ ys)))
theorem op_catS {X : Cx} : OpR X (binaryOp .Add) (rCatS X.K) := by
  intro pins s σ H x y v u Q I rx ry h
  obtain ⟨a, b, xs, ys, rfl, rfl, ha, hb, hz, q⟩ := h
  obtain rfl : v = Value.ref a := rx
  obtain rfl : u = Value.ref b := ry
  obtain ⟨us, r1, p1, _⟩ := I.list ha
  obtain ⟨ws, r2, p2, _⟩ := I.list hb
  have hl := p1.isList
  have hl2 := p2.isList
  obtain ⟨⟨cl, d1, da, sl⟩, ho, hc, n, hd⟩ := id hl
  obtain ⟨⟨cl2, d2, da2, sl2⟩, ho2, hc2, n2, hd2⟩ := id hl2
  simp only at hc hd hc2 hd2
  subst hc hd hc2 hd2
  have e : us.toArray ++ ws.toArray = (us ++ ws).toArray := by
    simp
  have sz : us.toArray.size + ws.toArray.size ≤ sizeLine := by
    rw [List.size_toArray, List.size_toArray, ← r1.length, ← r2.length]
    exact hz
  refine concat_meets ⟨_, ho, rfl⟩ ⟨_, ho2, rfl⟩ noFill_list_add seq_list_add PySem.F.slot_list_add PySem.F.entry_list_add (PySem.F.args_list_add_2 _ _)
    (list_addW a b us.toArray ws.toArray n n2 d1 d2 sl sl2 sz) ⟨ho, ho2, ?_⟩
  rw [e]
  exact ⟨.ref _, _, I.lnew (t' := s.toks) (r1.append r2) (by rw [List.length_append]; exact hz), rfl, q _ I.fresh⟩
/-- a + b, two lists that are told, the outcome written as one likes -/
def rCatE : R2 := fun x y H Q => ∃ (a b : Addr) (xs ys ws : List V), x = .ref a ∧ y = .ref b ∧ H a = some (.lst xs) ∧ H b = some (.lst ys) ∧ ws = xs ++ ys ∧ ws.length ≤ sizeLine ∧ ∀ p, H p = none → Q (.ref p) (upd H p (.lst ws))
theorem op_catE {X : Cx} : OpR X (binaryOp .Add) rCatE := by
  intro pins s σ H x y v u Q I rx ry h
  obtain ⟨a, b, xs, ys, ws, rfl, rfl, ha, hb, rfl, hz, q⟩ := h
  exact op_cat pins s σ H _ _ v u Q I rx ry ⟨a, b, xs, ys, rfl, rfl, ha, hb, by rw [List.length_append] at hz; exact hz, q⟩
end K1
set_option maxRecDepth 100000
set_option maxHeartbeats 4000000
namespace K1
open PySem PySem.Spec PyProof.Rows L2
/-! the promises of the classes' defs -/
def spTold (z : Str) : Sp := fun vs H Q _ => (∃ a : Addr, vs = [.ref a]) ∧ Q (.str z) H
def spI1 (C : Addr) (f : Str) : Sp := fun vs H Q _ => ∃ (H0 : Hp) (a : Addr) (v : V), vs = [.ref a, v] ∧ Same H0 H ∧ H0 a = none ∧ H a = some (exo a C none) ∧ ∀ H', Same H0 H' → IsX C H' a (some [(f, v)]) → Q .non H'
def spI2 (C : Addr) (f g : Str) : Sp := fun vs H Q _ => ∃ (H0 : Hp) (a : Addr) (v u : V), vs = [.ref a, v, u] ∧ Same H0 H ∧ H0 a = none ∧ H a = some (exo a C none) ∧ ∀ H', Same H0 H' → IsX C H' a (some [(g, u), (f, v)]) → Q .non H'
theorem same_new {H0 H : Hp} {a d : Addr} {x y : HO} (s : Same H0 H) (ha : H0 a = none) (hd : H d = none) : Same H0 (upd (upd H d x) a y) := fun b o e => by
  have na : b ≠ a := ne_of_none e ha
  have nd : b ≠ d := ne_of_none (s _ _ e) hd
  rw [upd_ne na, upd_ne nd]
  exact s _ _ e
theorem same_more {H0 H : Hp} {d : Addr} {x : HO} (s : Same H0 H) (hd : H0 d = none) : Same H0 (upd H d x) := fun b o e => by
  rw [upd_ne (ne_of_none e hd)]
  exact s _ _ e
theorem Vals.rev : ∀ {xs : List V} {us : List Value}, Vals xs us → Vals xs.reverse us.reverse
  | _, _, .nil => .nil
  | x :: xs, u :: us, .cons r t => by
    rw [List.reverse_cons, List.reverse_cons]
    exact Vals.append (Vals.rev t) (.cons r .nil)
abbrev gRev : List Value → List Value → List Value := fun us ws => us ++ ws.reverse
abbrev gRevV : List V → List V → List V := fun vs zs => vs ++ zs.reverse
section
variable {P : Program} {w : World} {K : PySem.W.Frag} {mg : Str → Option Value} {base : Heap}
theorem kbn_of {x qual : Str} {st : Stmt} {f : Addr} {fd : FuncData} {ps ks : List Str} {n : Nat} (F : Fun K x qual st f fd)
    (h : ∀ (kV doc pm : Value) (an : Option Addr) (cdv ct : Value) (us ws : List Value), us.length = n → ws.length = ks.length → bindArgs (PySem.W.fnOf x qual (defArgs st) (defBody st) (defScope st) .none kV doc pm an cdv ct) ⟨us, ks.zip ws⟩ = pure (ps.zip (us ++ ws.reverse))) : KBn K fd ps n ks gRev gRevV := by
  obtain ⟨oc, od, kV, doc, pm, an, cdv, ct, osl, rfl, lk, hcd⟩ := F.ex
  exact ⟨fun s us ws _ l1 l2 => .of_eq (h kV doc pm an cdv ct us ws l1 l2), fun r z => r.append (Vals.rev z)⟩
/-- a class that may be made: by n values, or by the keywords ks (in the order in which they are written) -/
structure Mkr (P : Program) (w : World) (K : PySem.W.Frag) (mg : Str → Option Value) (base : Heap) (x : Str) (C : Addr) (n : Nat) (ks : List Str) (sp : Sp) : Prop where
  ex : ∃ (fI : Addr) (fd : FuncData) (ps : List Str), PySem.W.findIn K (.ref C) "__init__" = some (some (.ref fI)) ∧ PySem.W.typeIn K (.ref fI) = some (.type "function") ∧ FnOk P w K mg base CX0 1 fI fd ps sp ∧ KBn K fd ps (n + 1) ks gRev gRevV
  o : OexC K C
  mgC : mg x = some (.ref C)
/-- a class without an __init__ of its own -/
structure Mk0r (K : PySem.W.Frag) (mg : Str → Option Value) (x : Str) (C : Addr) : Prop where
  q : PySem.W.excIn K C [.type "ValueError", .type "Exception", .type "BaseException", .type "object"] "ValueError.__new__" = true
  kC : PySem.W.keepIn K (.ref C) = true
  mgC : mg x = some (.ref C)
end
section
variable {X : Cx} {n : Nat} {C : Addr} {ks : List Str} {sp : Sp} {x : Str} {p pos : Pos} {e : Expr} {es : List Expr} {kws : List Keyword} {t tk : TA}
theorem pe_mkr (M : Mkr X.prog X.w X.K X.mg X.base x C n [] sp) (hr : Room 2 X.A) (hg : Gl X x) (ha : PA X (e :: es) t)
    (hdb : (x == ("__debug__" : Str)) = false := by decide) (he : starEach (e :: es) X.env = (false, eval e X.env) :: starEach es X.env := by rfl) (hpl : (backTo pos (starEach es X.env)).any (·.1) = false := by rfl) :
    PE X (.Call (.Name x p) (e :: es) [] pos) (tMkV C n 0 sp gRevV t tNil) := by
  obtain ⟨fI, fd, ps, h1, h2, h3, h4⟩ := M.ex
  exact pe_mkV M.o h1 h2 h3 hr h4 pass0 hg M.mgC ha hdb he hpl
theorem pe_mkrK (M : Mkr X.prog X.w X.K X.mg X.base x C 0 ks sp) (hr : Room 2 X.A) (hg : Gl X x) (hkw : PK X kws tk)
    (hall : (backToKw pos (keywordEach kws X.env)).all (·.1.isSome) = true := by rfl) (hks : (backToKw pos (keywordEach kws X.env)).filterMap (·.1) = ks := by rfl) (hdb : (x == ("__debug__" : Str)) = false := by decide)
    (hpl : ((backTo pos (starEach [] X.env)).any (·.1) || (backToKw pos (keywordEach kws X.env)).any (·.1.isNone)) = false := by rfl) :
    PE X (.Call (.Name x p) [] kws pos) (tMkV C 0 ks.length sp gRevV tNil tk) := by
  obtain ⟨fI, fd, ps, h1, h2, h3, h4⟩ := M.ex
  exact pe_mkVK M.o h1 h2 h3 hr h4 pass0 hg M.mgC hkw hall hks hdb hpl
theorem pe_mk0r (M : Mk0r X.K X.mg x C) (hg : Gl X x) (hdb : (x == ("__debug__" : Str)) = false := by decide) : PE X (.Call (.Name x p) [] [] pos) (tMk0 C) :=
  pe_mk0 PySem.F.excBase_ValueError M.q M.mgC M.kC hg hdb
end
/-- what making asks, once more -/
theorem use1 {C : Addr} {f : Str} {v : V} {H : Hp} {R : Addr → Hp → Prop} {vs zs : List V} (k : ∀ a H1, Same H H1 → H a = none → IsX C H1 a (some [(f, v)]) → R a H1) (e : ∀ a, gRevV (.ref a :: vs) zs = [.ref a, v]) :
    ∀ a, H a = none → spI1 C f (gRevV (.ref a :: vs) zs) (upd H a (exo a C none)) (fun v H3 => v = .non ∧ R a H3) E0 := fun a ha => by
  rw [e]
  exact ⟨H, a, v, rfl, same_more (Same.refl H) ha, ha, upd_same, fun H' s x => ⟨rfl, k a H' s ha x⟩⟩
theorem use2 {C : Addr} {f g : Str} {v u : V} {H : Hp} {R : Addr → Hp → Prop} {vs zs : List V} (k : ∀ a H1, Same H H1 → H a = none → IsX C H1 a (some [(g, u), (f, v)]) → R a H1) (e : ∀ a, gRevV (.ref a :: vs) zs = [.ref a, v, u]) :
    ∀ a, H a = none → spI2 C f g (gRevV (.ref a :: vs) zs) (upd H a (exo a C none)) (fun v H3 => v = .non ∧ R a H3) E0 := fun a ha => by
  rw [e]
  exact ⟨H, a, v, u, rfl, same_more (Same.refl H) ha, ha, upd_same, fun H' s x => ⟨rfl, k a H' s ha x⟩⟩
section
variable {P : Program} {w : World} {K : PySem.W.Frag} {mg : Str → Option Value} {base : Heap}
abbrev st_Malformed : Stmt := top 2
abbrev tld_Malformed : Stmt := inClass st_Malformed 1
theorem scT_Malformed : FnScope ["self"] ["self"] (defScope tld_Malformed) := ⟨rfl, rfl, rfl, by decide +kernel, rfl, by decide +kernel, by decide +kernel⟩
theorem told_Malformed {f : Addr} {fd : FuncData} (F : Fun K "told" "Malformed.told" tld_Malformed f fd) : FnOk P w K mg base CX0 1 f fd ["self"] (spTold "refused malformed") := by
  refine F.ok scT_Malformed (fun vs H Q E h => ?_) (fun cdv A outer s H vs Q E hr h => ?_)
  · obtain ⟨⟨a, rfl⟩, _⟩ := h
    rfl
  · exact ⟨_, pss_one (ps_ret pe_str), h.2⟩
abbrev ini_Malformed : Stmt := inClass st_Malformed 0
theorem scI_Malformed : FnScope ["self", "line", "column"] ["self", "line", "column"] (defScope ini_Malformed) := ⟨rfl, rfl, rfl, by decide +kernel, rfl, by decide +kernel, by decide +kernel⟩
theorem init_Malformed {f C : Addr} {fd : FuncData} (F : Fun K "__init__" "Malformed.__init__" ini_Malformed f fd) (T : OexC K C) (n1 : PySem.W.findIn K (.ref C) "line" = some none) (n2 : PySem.W.findIn K (.ref C) "column" = some none) : FnOk P w K mg base CX0 1 f fd ["self", "line", "column"] (spI2 C "line" "column") := by
  refine F.ok scI_Malformed (fun vs H Q E h => ?_) (fun cdv A outer s H vs Q E hr h => ?_)
  · obtain ⟨H0, a, v, u, rfl, _⟩ := h
    rfl
  · obtain ⟨H0, a, v, u, rfl, s0, a0, ha, k⟩ := h
    refine ⟨_, pss_cons (ps_ost (pv 0) (pv 1)) (pss_one (ps_ost (pv 0) (pv 2))), ?_⟩
    refine ⟨_, rfl, _, rfl, a, C, rfl, T, n1, .inl ⟨ha, fun d hd ne => ?_⟩⟩
    refine ⟨_, rfl, _, rfl, a, C, rfl, T, n2, .inr ⟨d, _, upd_same, (by rw [upd_ne ne, upd_same]), (by show 1 ≤ 900; decide), ?_⟩⟩
    refine k _ (same_more (same_new s0 a0 hd) (s0.free hd)) ⟨d, (by rw [upd_ne ne.symm, upd_same]), upd_same⟩
abbrev st_Faulty : Stmt := top 3
abbrev tld_Faulty : Stmt := inClass st_Faulty 1
theorem scT_Faulty : FnScope ["self"] ["self"] (defScope tld_Faulty) := ⟨rfl, rfl, rfl, by decide +kernel, rfl, by decide +kernel, by decide +kernel⟩
theorem told_Faulty {f : Addr} {fd : FuncData} (F : Fun K "told" "Faulty.told" tld_Faulty f fd) : FnOk P w K mg base CX0 1 f fd ["self"] (spTold "refused faulty") := by
  refine F.ok scT_Faulty (fun vs H Q E h => ?_) (fun cdv A outer s H vs Q E hr h => ?_)
  · obtain ⟨⟨a, rfl⟩, _⟩ := h
    rfl
  · exact ⟨_, pss_one (ps_ret pe_str), h.2⟩
abbrev ini_Faulty : Stmt := inClass st_Faulty 0
theorem scI_Faulty : FnScope ["self", "fault"] ["self", "fault"] (defScope ini_Faulty) := ⟨rfl, rfl, rfl, by decide +kernel, rfl, by decide +kernel, by decide +kernel⟩
theorem init_Faulty {f C : Addr} {fd : FuncData} (F : Fun K "__init__" "Faulty.__init__" ini_Faulty f fd) (T : OexC K C) (n1 : PySem.W.findIn K (.ref C) "fault" = some none) : FnOk P w K mg base CX0 1 f fd ["self", "fault"] (spI1 C "fault") := by
  refine F.ok scI_Faulty (fun vs H Q E h => ?_) (fun cdv A outer s H vs Q E hr h => ?_)
  · obtain ⟨H0, a, v, rfl, _⟩ := h
    rfl
  · obtain ⟨H0, a, v, rfl, s0, a0, ha, k⟩ := h
    refine ⟨_, pss_one (ps_ost (pv 0) (pv 1)), ?_⟩
    exact ⟨_, rfl, _, rfl, a, C, rfl, T, n1, .inl ⟨ha, fun d hd ne => k _ (same_new s0 a0 hd) ⟨d, upd_same, by rw [upd_ne ne, upd_same]⟩⟩⟩
abbrev st_Misfit : Stmt := top 4
abbrev tld_Misfit : Stmt := inClass st_Misfit 1
theorem scT_Misfit : FnScope ["self"] ["self"] (defScope tld_Misfit) := ⟨rfl, rfl, rfl, by decide +kernel, rfl, by decide +kernel, by decide +kernel⟩
theorem told_Misfit {f : Addr} {fd : FuncData} (F : Fun K "told" "Misfit.told" tld_Misfit f fd) : FnOk P w K mg base CX0 1 f fd ["self"] (spTold "refused misfit") := by
  refine F.ok scT_Misfit (fun vs H Q E h => ?_) (fun cdv A outer s H vs Q E hr h => ?_)
  · obtain ⟨⟨a, rfl⟩, _⟩ := h
    rfl
  · exact ⟨_, pss_one (ps_ret pe_str), h.2⟩
abbrev ini_Misfit : Stmt := inClass st_Misfit 0
theorem scI_Misfit : FnScope ["self", "place"] ["self", "place"] (defScope ini_Misfit) := ⟨rfl, rfl, rfl, by decide +kernel, rfl, by decide +kernel, by decide +kernel⟩
theorem init_Misfit {f C : Addr} {fd : FuncData} (F : Fun K "__init__" "Misfit.__init__" ini_Misfit f fd) (T : OexC K C) (n1 : PySem.W.findIn K (.ref C) "place" = some none) : FnOk P w K mg base CX0 1 f fd ["self", "place"] (spI1 C "place") := by
  refine F.ok scI_Misfit (fun vs H Q E h => ?_) (fun cdv A outer s H vs Q E hr h => ?_)
  · obtain ⟨H0, a, v, rfl, _⟩ := h
    rfl
  · obtain ⟨H0, a, v, rfl, s0, a0, ha, k⟩ := h
    refine ⟨_, pss_one (ps_ost (pv 0) (pv 1)), ?_⟩
    exact ⟨_, rfl, _, rfl, a, C, rfl, T, n1, .inl ⟨ha, fun d hd ne => k _ (same_new s0 a0 hd) ⟨d, upd_same, by rw [upd_ne ne, upd_same]⟩⟩⟩
abbrev st_BadCount : Stmt := top 5
abbrev tld_BadCount : Stmt := inClass st_BadCount 1
theorem scT_BadCount : FnScope ["self"] ["self"] (defScope tld_BadCount) := ⟨rfl, rfl, rfl, by decide +kernel, rfl, by decide +kernel, by decide +kernel⟩
theorem told_BadCount {f : Addr} {fd : FuncData} (F : Fun K "told" "BadCount.told" tld_BadCount f fd) : FnOk P w K mg base CX0 1 f fd ["self"] (spTold "refused badcount") := by
  refine F.ok scT_BadCount (fun vs H Q E h => ?_) (fun cdv A outer s H vs Q E hr h => ?_)
  · obtain ⟨⟨a, rfl⟩, _⟩ := h
    rfl
  · exact ⟨_, pss_one (ps_ret pe_str), h.2⟩
abbrev ini_BadCount : Stmt := inClass st_BadCount 0
theorem scI_BadCount : FnScope ["self", "what", "count"] ["self", "what", "count"] (defScope ini_BadCount) := ⟨rfl, rfl, rfl, by decide +kernel, rfl, by decide +kernel, by decide +kernel⟩
theorem init_BadCount {f C : Addr} {fd : FuncData} (F : Fun K "__init__" "BadCount.__init__" ini_BadCount f fd) (T : OexC K C) (n1 : PySem.W.findIn K (.ref C) "what" = some none) (n2 : PySem.W.findIn K (.ref C) "count" = some none) : FnOk P w K mg base CX0 1 f fd ["self", "what", "count"] (spI2 C "what" "count") := by
  refine F.ok scI_BadCount (fun vs H Q E h => ?_) (fun cdv A outer s H vs Q E hr h => ?_)
  · obtain ⟨H0, a, v, u, rfl, _⟩ := h
    rfl
  · obtain ⟨H0, a, v, u, rfl, s0, a0, ha, k⟩ := h
    refine ⟨_, pss_cons (ps_ost (pv 0) (pv 1)) (pss_one (ps_ost (pv 0) (pv 2))), ?_⟩
    refine ⟨_, rfl, _, rfl, a, C, rfl, T, n1, .inl ⟨ha, fun d hd ne => ?_⟩⟩
    refine ⟨_, rfl, _, rfl, a, C, rfl, T, n2, .inr ⟨d, _, upd_same, (by rw [upd_ne ne, upd_same]), (by show 1 ≤ 900; decide), ?_⟩⟩
    refine k _ (same_more (same_new s0 a0 hd) (s0.free hd)) ⟨d, (by rw [upd_ne ne.symm, upd_same]), upd_same⟩
abbrev st_Shape : Stmt := top 6
abbrev tld_Shape : Stmt := inClass st_Shape 0
theorem scT_Shape : FnScope ["self"] ["self"] (defScope tld_Shape) := ⟨rfl, rfl, rfl, by decide +kernel, rfl, by decide +kernel, by decide +kernel⟩
theorem told_Shape {f : Addr} {fd : FuncData} (F : Fun K "told" "Shape.told" tld_Shape f fd) : FnOk P w K mg base CX0 1 f fd ["self"] (spTold "refused shape") := by
  refine F.ok scT_Shape (fun vs H Q E h => ?_) (fun cdv A outer s H vs Q E hr h => ?_)
  · obtain ⟨⟨a, rfl⟩, _⟩ := h
    rfl
  · exact ⟨_, pss_one (ps_ret pe_str), h.2⟩
abbrev st_Other : Stmt := top 7
abbrev tld_Other : Stmt := inClass st_Other 1
theorem scT_Other : FnScope ["self"] ["self"] (defScope tld_Other) := ⟨rfl, rfl, rfl, by decide +kernel, rfl, by decide +kernel, by decide +kernel⟩
theorem told_Other {f : Addr} {fd : FuncData} (F : Fun K "told" "Other.told" tld_Other f fd) : FnOk P w K mg base CX0 1 f fd ["self"] (spTold "refused other") := by
  refine F.ok scT_Other (fun vs H Q E h => ?_) (fun cdv A outer s H vs Q E hr h => ?_)
  · obtain ⟨⟨a, rfl⟩, _⟩ := h
    rfl
  · exact ⟨_, pss_one (ps_ret pe_str), h.2⟩
abbrev ini_Other : Stmt := inClass st_Other 0
theorem scI_Other : FnScope ["self", "place"] ["self", "place"] (defScope ini_Other) := ⟨rfl, rfl, rfl, by decide +kernel, rfl, by decide +kernel, by decide +kernel⟩
theorem init_Other {f C : Addr} {fd : FuncData} (F : Fun K "__init__" "Other.__init__" ini_Other f fd) (T : OexC K C) (n1 : PySem.W.findIn K (.ref C) "place" = some none) : FnOk P w K mg base CX0 1 f fd ["self", "place"] (spI1 C "place") := by
  refine F.ok scI_Other (fun vs H Q E h => ?_) (fun cdv A outer s H vs Q E hr h => ?_)
  · obtain ⟨H0, a, v, rfl, _⟩ := h
    rfl
  · obtain ⟨H0, a, v, rfl, s0, a0, ha, k⟩ := h
    refine ⟨_, pss_one (ps_ost (pv 0) (pv 1)), ?_⟩
    exact ⟨_, rfl, _, rfl, a, C, rfl, T, n1, .inl ⟨ha, fun d hd ne => k _ (same_new s0 a0 hd) ⟨d, upd_same, by rw [upd_ne ne, upd_same]⟩⟩⟩
abbrev st_Wide : Stmt := top 8
abbrev tld_Wide : Stmt := inClass st_Wide 1
theorem scT_Wide : FnScope ["self"] ["self"] (defScope tld_Wide) := ⟨rfl, rfl, rfl, by decide +kernel, rfl, by decide +kernel, by decide +kernel⟩
theorem told_Wide {f : Addr} {fd : FuncData} (F : Fun K "told" "Wide.told" tld_Wide f fd) : FnOk P w K mg base CX0 1 f fd ["self"] (spTold "refused wide") := by
  refine F.ok scT_Wide (fun vs H Q E h => ?_) (fun cdv A outer s H vs Q E hr h => ?_)
  · obtain ⟨⟨a, rfl⟩, _⟩ := h
    rfl
  · exact ⟨_, pss_one (ps_ret pe_str), h.2⟩
abbrev ini_Wide : Stmt := inClass st_Wide 0
theorem scI_Wide : FnScope ["self", "count"] ["self", "count"] (defScope ini_Wide) := ⟨rfl, rfl, rfl, by decide +kernel, rfl, by decide +kernel, by decide +kernel⟩
theorem init_Wide {f C : Addr} {fd : FuncData} (F : Fun K "__init__" "Wide.__init__" ini_Wide f fd) (T : OexC K C) (n1 : PySem.W.findIn K (.ref C) "count" = some none) : FnOk P w K mg base CX0 1 f fd ["self", "count"] (spI1 C "count") := by
  refine F.ok scI_Wide (fun vs H Q E h => ?_) (fun cdv A outer s H vs Q E hr h => ?_)
  · obtain ⟨H0, a, v, rfl, _⟩ := h
    rfl
  · obtain ⟨H0, a, v, rfl, s0, a0, ha, k⟩ := h
    refine ⟨_, pss_one (ps_ost (pv 0) (pv 1)), ?_⟩
    exact ⟨_, rfl, _, rfl, a, C, rfl, T, n1, .inl ⟨ha, fun d hd ne => k _ (same_new s0 a0 hd) ⟨d, upd_same, by rw [upd_ne ne, upd_same]⟩⟩⟩
abbrev st_NoImage : Stmt := top 9
abbrev tld_NoImage : Stmt := inClass st_NoImage 0
theorem scT_NoImage : FnScope ["self"] ["self"] (defScope tld_NoImage) := ⟨rfl, rfl, rfl, by decide +kernel, rfl, by decide +kernel, by decide +kernel⟩
theorem told_NoImage {f : Addr} {fd : FuncData} (F : Fun K "told" "NoImage.told" tld_NoImage f fd) : FnOk P w K mg base CX0 1 f fd ["self"] (spTold "refused noimage") := by
  refine F.ok scT_NoImage (fun vs H Q E h => ?_) (fun cdv A outer s H vs Q E hr h => ?_)
  · obtain ⟨⟨a, rfl⟩, _⟩ := h
    rfl
  · exact ⟨_, pss_one (ps_ret pe_str), h.2⟩
abbrev st_NoPlace : Stmt := top 10
abbrev tld_NoPlace : Stmt := inClass st_NoPlace 1
theorem scT_NoPlace : FnScope ["self"] ["self"] (defScope tld_NoPlace) := ⟨rfl, rfl, rfl, by decide +kernel, rfl, by decide +kernel, by decide +kernel⟩
theorem told_NoPlace {f : Addr} {fd : FuncData} (F : Fun K "told" "NoPlace.told" tld_NoPlace f fd) : FnOk P w K mg base CX0 1 f fd ["self"] (spTold "refused noplace") := by
  refine F.ok scT_NoPlace (fun vs H Q E h => ?_) (fun cdv A outer s H vs Q E hr h => ?_)
  · obtain ⟨⟨a, rfl⟩, _⟩ := h
    rfl
  · exact ⟨_, pss_one (ps_ret pe_str), h.2⟩
abbrev ini_NoPlace : Stmt := inClass st_NoPlace 0
theorem scI_NoPlace : FnScope ["self", "place"] ["self", "place"] (defScope ini_NoPlace) := ⟨rfl, rfl, rfl, by decide +kernel, rfl, by decide +kernel, by decide +kernel⟩
theorem init_NoPlace {f C : Addr} {fd : FuncData} (F : Fun K "__init__" "NoPlace.__init__" ini_NoPlace f fd) (T : OexC K C) (n1 : PySem.W.findIn K (.ref C) "place" = some none) : FnOk P w K mg base CX0 1 f fd ["self", "place"] (spI1 C "place") := by
  refine F.ok scI_NoPlace (fun vs H Q E h => ?_) (fun cdv A outer s H vs Q E hr h => ?_)
  · obtain ⟨H0, a, v, rfl, _⟩ := h
    rfl
  · obtain ⟨H0, a, v, rfl, s0, a0, ha, k⟩ := h
    refine ⟨_, pss_one (ps_ost (pv 0) (pv 1)), ?_⟩
    exact ⟨_, rfl, _, rfl, a, C, rfl, T, n1, .inl ⟨ha, fun d hd ne => k _ (same_new s0 a0 hd) ⟨d, upd_same, by rw [upd_ne ne, upd_same]⟩⟩⟩
abbrev st_BadLine : Stmt := top 11
abbrev tld_BadLine : Stmt := inClass st_BadLine 1
theorem scT_BadLine : FnScope ["self"] ["self"] (defScope tld_BadLine) := ⟨rfl, rfl, rfl, by decide +kernel, rfl, by decide +kernel, by decide +kernel⟩
theorem told_BadLine {f : Addr} {fd : FuncData} (F : Fun K "told" "BadLine.told" tld_BadLine f fd) : FnOk P w K mg base CX0 1 f fd ["self"] (spTold "refused badline") := by
  refine F.ok scT_BadLine (fun vs H Q E h => ?_) (fun cdv A outer s H vs Q E hr h => ?_)
  · obtain ⟨⟨a, rfl⟩, _⟩ := h
    rfl
  · exact ⟨_, pss_one (ps_ret pe_str), h.2⟩
abbrev ini_BadLine : Stmt := inClass st_BadLine 0
theorem scI_BadLine : FnScope ["self", "time"] ["self", "time"] (defScope ini_BadLine) := ⟨rfl, rfl, rfl, by decide +kernel, rfl, by decide +kernel, by decide +kernel⟩
theorem init_BadLine {f C : Addr} {fd : FuncData} (F : Fun K "__init__" "BadLine.__init__" ini_BadLine f fd) (T : OexC K C) (n1 : PySem.W.findIn K (.ref C) "time" = some none) : FnOk P w K mg base CX0 1 f fd ["self", "time"] (spI1 C "time") := by
  refine F.ok scI_BadLine (fun vs H Q E h => ?_) (fun cdv A outer s H vs Q E hr h => ?_)
  · obtain ⟨H0, a, v, rfl, _⟩ := h
    rfl
  · obtain ⟨H0, a, v, rfl, s0, a0, ha, k⟩ := h
    refine ⟨_, pss_one (ps_ost (pv 0) (pv 1)), ?_⟩
    exact ⟨_, rfl, _, rfl, a, C, rfl, T, n1, .inl ⟨ha, fun d hd ne => k _ (same_new s0 a0 hd) ⟨d, upd_same, by rw [upd_ne ne, upd_same]⟩⟩⟩
abbrev st_Large : Stmt := top 12
abbrev tld_Large : Stmt := inClass st_Large 1
theorem scT_Large : FnScope ["self"] ["self"] (defScope tld_Large) := ⟨rfl, rfl, rfl, by decide +kernel, rfl, by decide +kernel, by decide +kernel⟩
theorem told_Large {f : Addr} {fd : FuncData} (F : Fun K "told" "Large.told" tld_Large f fd) : FnOk P w K mg base CX0 1 f fd ["self"] (spTold "refused large") := by
  refine F.ok scT_Large (fun vs H Q E h => ?_) (fun cdv A outer s H vs Q E hr h => ?_)
  · obtain ⟨⟨a, rfl⟩, _⟩ := h
    rfl
  · exact ⟨_, pss_one (ps_ret pe_str), h.2⟩
abbrev ini_Large : Stmt := inClass st_Large 0
theorem scI_Large : FnScope ["self", "count"] ["self", "count"] (defScope ini_Large) := ⟨rfl, rfl, rfl, by decide +kernel, rfl, by decide +kernel, by decide +kernel⟩
theorem init_Large {f C : Addr} {fd : FuncData} (F : Fun K "__init__" "Large.__init__" ini_Large f fd) (T : OexC K C) (n1 : PySem.W.findIn K (.ref C) "count" = some none) : FnOk P w K mg base CX0 1 f fd ["self", "count"] (spI1 C "count") := by
  refine F.ok scI_Large (fun vs H Q E h => ?_) (fun cdv A outer s H vs Q E hr h => ?_)
  · obtain ⟨H0, a, v, rfl, _⟩ := h
    rfl
  · obtain ⟨H0, a, v, rfl, s0, a0, ha, k⟩ := h
    refine ⟨_, pss_one (ps_ost (pv 0) (pv 1)), ?_⟩
    exact ⟨_, rfl, _, rfl, a, C, rfl, T, n1, .inl ⟨ha, fun d hd ne => k _ (same_new s0 a0 hd) ⟨d, upd_same, by rw [upd_ne ne, upd_same]⟩⟩⟩
abbrev st_Busy : Stmt := top 13
abbrev tld_Busy : Stmt := inClass st_Busy 0
theorem scT_Busy : FnScope ["self"] ["self"] (defScope tld_Busy) := ⟨rfl, rfl, rfl, by decide +kernel, rfl, by decide +kernel, by decide +kernel⟩
theorem told_Busy {f : Addr} {fd : FuncData} (F : Fun K "told" "Busy.told" tld_Busy f fd) : FnOk P w K mg base CX0 1 f fd ["self"] (spTold "refused busy") := by
  refine F.ok scT_Busy (fun vs H Q E h => ?_) (fun cdv A outer s H vs Q E hr h => ?_)
  · obtain ⟨⟨a, rfl⟩, _⟩ := h
    rfl
  · exact ⟨_, pss_one (ps_ret pe_str), h.2⟩
abbrev st_Idle : Stmt := top 14
abbrev tld_Idle : Stmt := inClass st_Idle 0
theorem scT_Idle : FnScope ["self"] ["self"] (defScope tld_Idle) := ⟨rfl, rfl, rfl, by decide +kernel, rfl, by decide +kernel, by decide +kernel⟩
theorem told_Idle {f : Addr} {fd : FuncData} (F : Fun K "told" "Idle.told" tld_Idle f fd) : FnOk P w K mg base CX0 1 f fd ["self"] (spTold "refused idle") := by
  refine F.ok scT_Idle (fun vs H Q E h => ?_) (fun cdv A outer s H vs Q E hr h => ?_)
  · obtain ⟨⟨a, rfl⟩, _⟩ := h
    rfl
  · exact ⟨_, pss_one (ps_ret pe_str), h.2⟩
abbrev st_NoBack : Stmt := top 15
abbrev tld_NoBack : Stmt := inClass st_NoBack 0
theorem scT_NoBack : FnScope ["self"] ["self"] (defScope tld_NoBack) := ⟨rfl, rfl, rfl, by decide +kernel, rfl, by decide +kernel, by decide +kernel⟩
theorem told_NoBack {f : Addr} {fd : FuncData} (F : Fun K "told" "NoBack.told" tld_NoBack f fd) : FnOk P w K mg base CX0 1 f fd ["self"] (spTold "refused noback") := by
  refine F.ok scT_NoBack (fun vs H Q E h => ?_) (fun cdv A outer s H vs Q E hr h => ?_)
  · obtain ⟨⟨a, rfl⟩, _⟩ := h
    rfl
  · exact ⟨_, pss_one (ps_ret pe_str), h.2⟩
abbrev st_BadText : Stmt := top 16
abbrev tld_BadText : Stmt := inClass st_BadText 1
theorem scT_BadText : FnScope ["self"] ["self"] (defScope tld_BadText) := ⟨rfl, rfl, rfl, by decide +kernel, rfl, by decide +kernel, by decide +kernel⟩
theorem told_BadText {f : Addr} {fd : FuncData} (F : Fun K "told" "BadText.told" tld_BadText f fd) : FnOk P w K mg base CX0 1 f fd ["self"] (spTold "refused badtext") := by
  refine F.ok scT_BadText (fun vs H Q E h => ?_) (fun cdv A outer s H vs Q E hr h => ?_)
  · obtain ⟨⟨a, rfl⟩, _⟩ := h
    rfl
  · exact ⟨_, pss_one (ps_ret pe_str), h.2⟩
abbrev ini_BadText : Stmt := inClass st_BadText 0
theorem scI_BadText : FnScope ["self", "place"] ["self", "place"] (defScope ini_BadText) := ⟨rfl, rfl, rfl, by decide +kernel, rfl, by decide +kernel, by decide +kernel⟩
theorem init_BadText {f C : Addr} {fd : FuncData} (F : Fun K "__init__" "BadText.__init__" ini_BadText f fd) (T : OexC K C) (n1 : PySem.W.findIn K (.ref C) "place" = some none) : FnOk P w K mg base CX0 1 f fd ["self", "place"] (spI1 C "place") := by
  refine F.ok scI_BadText (fun vs H Q E h => ?_) (fun cdv A outer s H vs Q E hr h => ?_)
  · obtain ⟨H0, a, v, rfl, _⟩ := h
    rfl
  · obtain ⟨H0, a, v, rfl, s0, a0, ha, k⟩ := h
    refine ⟨_, pss_one (ps_ost (pv 0) (pv 1)), ?_⟩
    exact ⟨_, rfl, _, rfl, a, C, rfl, T, n1, .inl ⟨ha, fun d hd ne => k _ (same_new s0 a0 hd) ⟨d, upd_same, by rw [upd_ne ne, upd_same]⟩⟩⟩
end
end K1
set_option maxRecDepth 100000
set_option maxHeartbeats 8000000
namespace K1
open PySem PySem.Spec PyProof.Rows L2
abbrev sMarks : Stmt := top 22
abbrev sAll : Stmt := top 23
abbrev sNamed : Stmt := top 24
abbrev sFields : Stmt := top 25
abbrev sRight : Stmt := top 26
abbrev sLaw : Stmt := top 27
/-- the fifteen classes: c tells where each one stands -/
structure Ax (P : Program) (w : World) (K : PySem.W.Frag) (mg : Str → Option Value) (base : Heap) (c : Nat → Addr) (cH : Addr) : Prop where
  x : ∀ i, i < 15 → XCls K (c i)
  kit : ∀ i j, i < 15 → j < 15 → PySem.W.kitOne K (.ref (c i)) (.ref (c j)) = some (decide (i = j))
  kitH : ∀ i, i < 15 → PySem.W.kitOne K (.ref (c i)) (.ref cH) = some true
  kitV : ∀ i, i < 15 → PySem.W.kitOne K (.ref (c i)) (.type "ValueError") = some true
  mgH : mg "HeapError" = some (.ref cH)
  mg0 : mg "Malformed" = some (.ref (c 0))
  p0 : Mkr P w K mg base "Malformed" (c 0) 2 [] (spI2 (c 0) "line" "column")
  k0 : Mkr P w K mg base "Malformed" (c 0) 0 ["column", "line"] (spI2 (c 0) "line" "column")
  mg1 : mg "Faulty" = some (.ref (c 1))
  p1 : Mkr P w K mg base "Faulty" (c 1) 1 [] (spI1 (c 1) "fault")
  k1 : Mkr P w K mg base "Faulty" (c 1) 0 ["fault"] (spI1 (c 1) "fault")
  mg2 : mg "Misfit" = some (.ref (c 2))
  p2 : Mkr P w K mg base "Misfit" (c 2) 1 [] (spI1 (c 2) "place")
  k2 : Mkr P w K mg base "Misfit" (c 2) 0 ["place"] (spI1 (c 2) "place")
  mg3 : mg "BadCount" = some (.ref (c 3))
  p3 : Mkr P w K mg base "BadCount" (c 3) 2 [] (spI2 (c 3) "what" "count")
  k3 : Mkr P w K mg base "BadCount" (c 3) 0 ["count", "what"] (spI2 (c 3) "what" "count")
  mg4 : mg "Shape" = some (.ref (c 4))
  p4 : Mk0r K mg "Shape" (c 4)
  mg5 : mg "Other" = some (.ref (c 5))
  p5 : Mkr P w K mg base "Other" (c 5) 1 [] (spI1 (c 5) "place")
  k5 : Mkr P w K mg base "Other" (c 5) 0 ["place"] (spI1 (c 5) "place")
  mg6 : mg "Wide" = some (.ref (c 6))
  p6 : Mkr P w K mg base "Wide" (c 6) 1 [] (spI1 (c 6) "count")
  k6 : Mkr P w K mg base "Wide" (c 6) 0 ["count"] (spI1 (c 6) "count")
  mg7 : mg "NoImage" = some (.ref (c 7))
  p7 : Mk0r K mg "NoImage" (c 7)
  mg8 : mg "NoPlace" = some (.ref (c 8))
  p8 : Mkr P w K mg base "NoPlace" (c 8) 1 [] (spI1 (c 8) "place")
  k8 : Mkr P w K mg base "NoPlace" (c 8) 0 ["place"] (spI1 (c 8) "place")
  mg9 : mg "BadLine" = some (.ref (c 9))
  p9 : Mkr P w K mg base "BadLine" (c 9) 1 [] (spI1 (c 9) "time")
  k9 : Mkr P w K mg base "BadLine" (c 9) 0 ["time"] (spI1 (c 9) "time")
  mg10 : mg "Large" = some (.ref (c 10))
  p10 : Mkr P w K mg base "Large" (c 10) 1 [] (spI1 (c 10) "count")
  k10 : Mkr P w K mg base "Large" (c 10) 0 ["count"] (spI1 (c 10) "count")
  mg11 : mg "Busy" = some (.ref (c 11))
  p11 : Mk0r K mg "Busy" (c 11)
  mg12 : mg "Idle" = some (.ref (c 12))
  p12 : Mk0r K mg "Idle" (c 12)
  mg13 : mg "NoBack" = some (.ref (c 13))
  p13 : Mk0r K mg "NoBack" (c 13)
  mg14 : mg "BadText" = some (.ref (c 14))
  p14 : Mkr P w K mg base "BadText" (c 14) 1 [] (spI1 (c 14) "place")
  k14 : Mkr P w K mg base "BadText" (c 14) 0 ["place"] (spI1 (c 14) "place")
  n0_line : PySem.W.findIn K (.ref (c 0)) "line" = some none
  n0_column : PySem.W.findIn K (.ref (c 0)) "column" = some none
  n1_fault : PySem.W.findIn K (.ref (c 1)) "fault" = some none
  n2_place : PySem.W.findIn K (.ref (c 2)) "place" = some none
  n3_what : PySem.W.findIn K (.ref (c 3)) "what" = some none
  n3_count : PySem.W.findIn K (.ref (c 3)) "count" = some none
  n5_place : PySem.W.findIn K (.ref (c 5)) "place" = some none
  n6_count : PySem.W.findIn K (.ref (c 6)) "count" = some none
  n8_place : PySem.W.findIn K (.ref (c 8)) "place" = some none
  n9_time : PySem.W.findIn K (.ref (c 9)) "time" = some none
  n10_count : PySem.W.findIn K (.ref (c 10)) "count" = some none
  n14_place : PySem.W.findIn K (.ref (c 14)) "place" = some none
  t0 : ∃ (f : Addr) (fd : FuncData) (ps : List Str), XMeth K (c 0) "told" f ∧ FnOk P w K mg base CX0 1 f fd ps (spTold "refused malformed") ∧ Binds K fd ps []
  t1 : ∃ (f : Addr) (fd : FuncData) (ps : List Str), XMeth K (c 1) "told" f ∧ FnOk P w K mg base CX0 1 f fd ps (spTold "refused faulty") ∧ Binds K fd ps []
  t2 : ∃ (f : Addr) (fd : FuncData) (ps : List Str), XMeth K (c 2) "told" f ∧ FnOk P w K mg base CX0 1 f fd ps (spTold "refused misfit") ∧ Binds K fd ps []
  t3 : ∃ (f : Addr) (fd : FuncData) (ps : List Str), XMeth K (c 3) "told" f ∧ FnOk P w K mg base CX0 1 f fd ps (spTold "refused badcount") ∧ Binds K fd ps []
  t4 : ∃ (f : Addr) (fd : FuncData) (ps : List Str), XMeth K (c 4) "told" f ∧ FnOk P w K mg base CX0 1 f fd ps (spTold "refused shape") ∧ Binds K fd ps []
  t5 : ∃ (f : Addr) (fd : FuncData) (ps : List Str), XMeth K (c 5) "told" f ∧ FnOk P w K mg base CX0 1 f fd ps (spTold "refused other") ∧ Binds K fd ps []
  t6 : ∃ (f : Addr) (fd : FuncData) (ps : List Str), XMeth K (c 6) "told" f ∧ FnOk P w K mg base CX0 1 f fd ps (spTold "refused wide") ∧ Binds K fd ps []
  t7 : ∃ (f : Addr) (fd : FuncData) (ps : List Str), XMeth K (c 7) "told" f ∧ FnOk P w K mg base CX0 1 f fd ps (spTold "refused noimage") ∧ Binds K fd ps []
  t8 : ∃ (f : Addr) (fd : FuncData) (ps : List Str), XMeth K (c 8) "told" f ∧ FnOk P w K mg base CX0 1 f fd ps (spTold "refused noplace") ∧ Binds K fd ps []
  t9 : ∃ (f : Addr) (fd : FuncData) (ps : List Str), XMeth K (c 9) "told" f ∧ FnOk P w K mg base CX0 1 f fd ps (spTold "refused badline") ∧ Binds K fd ps []
  t10 : ∃ (f : Addr) (fd : FuncData) (ps : List Str), XMeth K (c 10) "told" f ∧ FnOk P w K mg base CX0 1 f fd ps (spTold "refused large") ∧ Binds K fd ps []
  t11 : ∃ (f : Addr) (fd : FuncData) (ps : List Str), XMeth K (c 11) "told" f ∧ FnOk P w K mg base CX0 1 f fd ps (spTold "refused busy") ∧ Binds K fd ps []
  t12 : ∃ (f : Addr) (fd : FuncData) (ps : List Str), XMeth K (c 12) "told" f ∧ FnOk P w K mg base CX0 1 f fd ps (spTold "refused idle") ∧ Binds K fd ps []
  t13 : ∃ (f : Addr) (fd : FuncData) (ps : List Str), XMeth K (c 13) "told" f ∧ FnOk P w K mg base CX0 1 f fd ps (spTold "refused noback") ∧ Binds K fd ps []
  t14 : ∃ (f : Addr) (fd : FuncData) (ps : List Str), XMeth K (c 14) "told" f ∧ FnOk P w K mg base CX0 1 f fd ps (spTold "refused badtext") ∧ Binds K fd ps []
def title : Nat → Str
  | 0 => "malformed"
  | 1 => "faulty"
  | 2 => "misfit"
  | 3 => "badcount"
  | 4 => "shape"
  | 5 => "other"
  | 6 => "wide"
  | 7 => "noimage"
  | 8 => "noplace"
  | 9 => "badline"
  | 10 => "large"
  | 11 => "busy"
  | 12 => "idle"
  | 13 => "noback"
  | _ => "badtext"
/-- the attributes of the i-th error, made of two values -/
def flds (v u : V) : Nat → Option (List (Str × V))
  | 0 => some [("column", u), ("line", v)]
  | 1 => some [("fault", v)]
  | 2 => some [("place", v)]
  | 3 => some [("count", u), ("what", v)]
  | 4 => none
  | 5 => some [("place", v)]
  | 6 => some [("count", v)]
  | 7 => none
  | 8 => some [("place", v)]
  | 9 => some [("time", v)]
  | 10 => some [("count", v)]
  | 11 => none
  | 12 => none
  | 13 => none
  | _ => some [("place", v)]
/-- all fifteen, at as -/
def AllX (c : Nat → Addr) (H : Hp) (v u : V) (as : List Addr) : Prop := as.length = 15 ∧ ∀ i a, as[i]? = some a → IsX (c i) H a (flds v u i)
theorem AllX.mono {c : Nat → Addr} {H H' : Hp} {v u : V} {as : List Addr} (x : AllX c H v u as) (s : Same H H') : AllX c H' v u as := ⟨x.1, fun i a h => (x.2 i a h).mono s⟩
def spMarks (c : Nat → Addr) : Sp := fun vs H Q _ => ∃ (a : Addr) (i : Nat) (o : Option (List (Str × V))), vs = [.ref a] ∧ i < 15 ∧ IsX (c i) H a o ∧ ∀ H' p, Same H H' → H p = none → H' p = some (.lst [.int (i : Int)]) → Q (.ref p) H'
def spAll (c : Nat → Addr) : Sp := fun vs H Q _ => ∃ v u : V, vs = [v, u] ∧ ∀ H' p as, Same H H' → H p = none → H' p = some (.lst (as.map V.ref)) → AllX c H' v u as → Q (.ref p) H'
section
variable {P : Program} {w : World} {K : PySem.W.Frag} {mg : Str → Option Value} {base : Heap} {c : Nat → Addr} {cH : Addr}
theorem scMarks : FnScope ["_law_e", "_law_marks_here", "_law_k", "_law_mark"] ["_law_e"] (defScope sMarks) := ⟨rfl, rfl, rfl, by decide +kernel, rfl, by decide +kernel, by decide +kernel⟩
theorem pe_gref {X : Cx} {x : Str} {a : Addr} {pos : Pos} (hm : X.mg x = some (.ref a)) (hg : Gl X x) (hd : (x == ("__debug__" : Str)) = false := by decide) : PE X (.Name x pos) (tC (.ref a)) := pe_glob hg hm rfl hd
theorem up {H H1 : Hp} {l : Addr} {x : HO} (s : Same H H1) (h : H1 l = none) : Same H (upd H1 l x) := same_more s (s.free h)

theorem ok_marks {f : Addr} {fd : FuncData} (D : Df K mg "_law_marks" sMarks ["_law_e"] f fd) (B : Blt mg) (A : Ax P w K mg base c cH) : FnOk P w K mg base CX0 1 f fd ["_law_e"] (spMarks c) := by
  refine D.fn.ok scMarks (fun vs H Q E h => ?_) (fun cdv Ar outer s H vs Q E hr h => ?_)
  · obtain ⟨a, i, o, rfl, _⟩ := h
    rfl
  · obtain ⟨a, i, o, rfl, hi, ix, k⟩ := h
    refine ⟨_, pss_cons (ps_set (i := 1) scMarks.nd rfl (Or.inl rfl) (pe_lst (pa_cons (pe_callB call_isX (by rfl) B.isinst boot_isinstance (pa_cons (pv 0) (pa_cons (pe_gref A.mg0 (by rfl)) pa_nil))) (pa_cons (pe_callB call_isX (by rfl) B.isinst boot_isinstance (pa_cons (pv 0) (pa_cons (pe_gref A.mg1 (by rfl)) pa_nil))) (pa_cons (pe_callB call_isX (by rfl) B.isinst boot_isinstance (pa_cons (pv 0) (pa_cons (pe_gref A.mg2 (by rfl)) pa_nil))) (pa_cons (pe_callB call_isX (by rfl) B.isinst boot_isinstance (pa_cons (pv 0) (pa_cons (pe_gref A.mg3 (by rfl)) pa_nil))) pa_nil))))))
      (pss_cons (ps_set (i := 1) scMarks.nd rfl (Or.inl rfl) (pe_op op_cat (pv 1) (pe_lst (pa_cons (pe_callB call_isX (by rfl) B.isinst boot_isinstance (pa_cons (pv 0) (pa_cons (pe_gref A.mg4 (by rfl)) pa_nil))) (pa_cons (pe_callB call_isX (by rfl) B.isinst boot_isinstance (pa_cons (pv 0) (pa_cons (pe_gref A.mg5 (by rfl)) pa_nil))) (pa_cons (pe_callB call_isX (by rfl) B.isinst boot_isinstance (pa_cons (pv 0) (pa_cons (pe_gref A.mg6 (by rfl)) pa_nil))) (pa_cons (pe_callB call_isX (by rfl) B.isinst boot_isinstance (pa_cons (pv 0) (pa_cons (pe_gref A.mg7 (by rfl)) pa_nil))) pa_nil)))))))
      (pss_cons (ps_set (i := 1) scMarks.nd rfl (Or.inl rfl) (pe_op op_cat (pv 1) (pe_lst (pa_cons (pe_callB call_isX (by rfl) B.isinst boot_isinstance (pa_cons (pv 0) (pa_cons (pe_gref A.mg8 (by rfl)) pa_nil))) (pa_cons (pe_callB call_isX (by rfl) B.isinst boot_isinstance (pa_cons (pv 0) (pa_cons (pe_gref A.mg9 (by rfl)) pa_nil))) (pa_cons (pe_callB call_isX (by rfl) B.isinst boot_isinstance (pa_cons (pv 0) (pa_cons (pe_gref A.mg10 (by rfl)) pa_nil))) (pa_cons (pe_callB call_isX (by rfl) B.isinst boot_isinstance (pa_cons (pv 0) (pa_cons (pe_gref A.mg11 (by rfl)) pa_nil))) pa_nil)))))))
      (pss_cons (ps_set (i := 1) scMarks.nd rfl (Or.inl rfl) (pe_op op_cat (pv 1) (pe_lst (pa_cons (pe_callB call_isX (by rfl) B.isinst boot_isinstance (pa_cons (pv 0) (pa_cons (pe_gref A.mg12 (by rfl)) pa_nil))) (pa_cons (pe_callB call_isX (by rfl) B.isinst boot_isinstance (pa_cons (pv 0) (pa_cons (pe_gref A.mg13 (by rfl)) pa_nil))) (pa_cons (pe_callB call_isX (by rfl) B.isinst boot_isinstance (pa_cons (pv 0) (pa_cons (pe_gref A.mg14 (by rfl)) pa_nil))) pa_nil))))))
      (pss_one (ps_ret (pe_lc (own := [("_law_k", 2), ("_law_mark", 3)]) (g := gTup K 2 (gCons (gName 2) (gCons (gName 3) gNil))) (tt := tB (tVar 3)) (te := tVar 2) rfl scMarks.nd (pi_enum (by rfl) B.enum (pa_cons (pv 1) pa_nil)) (blkOk_by (N := ["_law_e", "_law_marks_here", "_law_k", "_law_mark"]) (sc := defScope sMarks) (by decide +kernel))
        (fun _ _ _ _ _ => pg_tup rfl (pgs_cons (pg_name (i := 2) scMarks.nd rfl (Or.inl rfl)) (pgs_cons (pg_name (i := 3) scMarks.nd rfl (Or.inl rfl)) pgs_nil)))
        (fun _ _ _ _ _ => pts_one (pt_val (pv 3))) (fun _ _ _ _ _ => pv 2))))))), ?_⟩
    refine ⟨_, rfl, a, c i, o, _, _, _, rfl, .own _, A.x i hi, ix, A.kit i 0 hi (by decide), _, rfl, a, c i, o, _, _, _, rfl, .own _, A.x i hi, ix, A.kit i 1 hi (by decide), _, rfl, a, c i, o, _, _, _, rfl, .own _, A.x i hi, ix, A.kit i 2 hi (by decide), _, rfl, a, c i, o, _, _, _, rfl, .own _, A.x i hi, ix, A.kit i 3 hi (by decide), (by show 4 ≤ sizeLine; decide), fun l1 h1 => ?_⟩
    have S1 := up (x := .lst [.bl (decide (i = 0)), .bl (decide (i = 1)), .bl (decide (i = 2)), .bl (decide (i = 3))]) (Same.refl H) h1
    have E1 : upd H l1 (.lst [.bl (decide (i = 0)), .bl (decide (i = 1)), .bl (decide (i = 2)), .bl (decide (i = 3))]) l1 = some (.lst [.bl (decide (i = 0)), .bl (decide (i = 1)), .bl (decide (i = 2)), .bl (decide (i = 3))]) := upd_same
    revert S1 E1
    generalize upd H l1 (.lst [.bl (decide (i = 0)), .bl (decide (i = 1)), .bl (decide (i = 2)), .bl (decide (i = 3))]) = H1
    intro S1 E1
    refine ⟨_, rfl, _, rfl, a, c i, o, _, _, _, rfl, .own _, A.x i hi, (ix.mono S1), A.kit i 4 hi (by decide), _, rfl, a, c i, o, _, _, _, rfl, .own _, A.x i hi, (ix.mono S1), A.kit i 5 hi (by decide), _, rfl, a, c i, o, _, _, _, rfl, .own _, A.x i hi, (ix.mono S1), A.kit i 6 hi (by decide), _, rfl, a, c i, o, _, _, _, rfl, .own _, A.x i hi, (ix.mono S1), A.kit i 7 hi (by decide), (by show 4 ≤ sizeLine; decide), fun q1 z1 => ?_⟩
    refine ⟨l1, q1, _, _, rfl, rfl, (by rw [upd_ne (ne_of_none E1 z1)]; exact E1), upd_same, (by show 8 ≤ sizeLine; decide), fun l2 h2 => ?_⟩
    have S2 := up (x := .lst [.bl (decide (i = 0)), .bl (decide (i = 1)), .bl (decide (i = 2)), .bl (decide (i = 3)), .bl (decide (i = 4)), .bl (decide (i = 5)), .bl (decide (i = 6)), .bl (decide (i = 7))]) (up (x := .lst [.bl (decide (i = 4)), .bl (decide (i = 5)), .bl (decide (i = 6)), .bl (decide (i = 7))]) S1 z1) h2
    have E2 : upd (upd H1 q1 (.lst [.bl (decide (i = 4)), .bl (decide (i = 5)), .bl (decide (i = 6)), .bl (decide (i = 7))])) l2 (.lst [.bl (decide (i = 0)), .bl (decide (i = 1)), .bl (decide (i = 2)), .bl (decide (i = 3)), .bl (decide (i = 4)), .bl (decide (i = 5)), .bl (decide (i = 6)), .bl (decide (i = 7))]) l2 = some (.lst [.bl (decide (i = 0)), .bl (decide (i = 1)), .bl (decide (i = 2)), .bl (decide (i = 3)), .bl (decide (i = 4)), .bl (decide (i = 5)), .bl (decide (i = 6)), .bl (decide (i = 7))]) := upd_same
    revert S2 E2
    simp only [List.cons_append, List.nil_append]
    generalize upd (upd H1 q1 (.lst [.bl (decide (i = 4)), .bl (decide (i = 5)), .bl (decide (i = 6)), .bl (decide (i = 7))])) l2 (.lst [.bl (decide (i = 0)), .bl (decide (i = 1)), .bl (decide (i = 2)), .bl (decide (i = 3)), .bl (decide (i = 4)), .bl (decide (i = 5)), .bl (decide (i = 6)), .bl (decide (i = 7))]) = H2
    intro S2 E2
    refine ⟨_, rfl, _, rfl, a, c i, o, _, _, _, rfl, .own _, A.x i hi, (ix.mono S2), A.kit i 8 hi (by decide), _, rfl, a, c i, o, _, _, _, rfl, .own _, A.x i hi, (ix.mono S2), A.kit i 9 hi (by decide), _, rfl, a, c i, o, _, _, _, rfl, .own _, A.x i hi, (ix.mono S2), A.kit i 10 hi (by decide), _, rfl, a, c i, o, _, _, _, rfl, .own _, A.x i hi, (ix.mono S2), A.kit i 11 hi (by decide), (by show 4 ≤ sizeLine; decide), fun q2 z2 => ?_⟩
    refine ⟨l2, q2, _, _, rfl, rfl, (by rw [upd_ne (ne_of_none E2 z2)]; exact E2), upd_same, (by show 12 ≤ sizeLine; decide), fun l3 h3 => ?_⟩
    have S3 := up (x := .lst [.bl (decide (i = 0)), .bl (decide (i = 1)), .bl (decide (i = 2)), .bl (decide (i = 3)), .bl (decide (i = 4)), .bl (decide (i = 5)), .bl (decide (i = 6)), .bl (decide (i = 7)), .bl (decide (i = 8)), .bl (decide (i = 9)), .bl (decide (i = 10)), .bl (decide (i = 11))]) (up (x := .lst [.bl (decide (i = 8)), .bl (decide (i = 9)), .bl (decide (i = 10)), .bl (decide (i = 11))]) S2 z2) h3
    have E3 : upd (upd H2 q2 (.lst [.bl (decide (i = 8)), .bl (decide (i = 9)), .bl (decide (i = 10)), .bl (decide (i = 11))])) l3 (.lst [.bl (decide (i = 0)), .bl (decide (i = 1)), .bl (decide (i = 2)), .bl (decide (i = 3)), .bl (decide (i = 4)), .bl (decide (i = 5)), .bl (decide (i = 6)), .bl (decide (i = 7)), .bl (decide (i = 8)), .bl (decide (i = 9)), .bl (decide (i = 10)), .bl (decide (i = 11))]) l3 = some (.lst [.bl (decide (i = 0)), .bl (decide (i = 1)), .bl (decide (i = 2)), .bl (decide (i = 3)), .bl (decide (i = 4)), .bl (decide (i = 5)), .bl (decide (i = 6)), .bl (decide (i = 7)), .bl (decide (i = 8)), .bl (decide (i = 9)), .bl (decide (i = 10)), .bl (decide (i = 11))]) := upd_same
    revert S3 E3
    simp only [List.cons_append, List.nil_append]
    generalize upd (upd H2 q2 (.lst [.bl (decide (i = 8)), .bl (decide (i = 9)), .bl (decide (i = 10)), .bl (decide (i = 11))])) l3 (.lst [.bl (decide (i = 0)), .bl (decide (i = 1)), .bl (decide (i = 2)), .bl (decide (i = 3)), .bl (decide (i = 4)), .bl (decide (i = 5)), .bl (decide (i = 6)), .bl (decide (i = 7)), .bl (decide (i = 8)), .bl (decide (i = 9)), .bl (decide (i = 10)), .bl (decide (i = 11))]) = H3
    intro S3 E3
    refine ⟨_, rfl, _, rfl, a, c i, o, _, _, _, rfl, .own _, A.x i hi, (ix.mono S3), A.kit i 12 hi (by decide), _, rfl, a, c i, o, _, _, _, rfl, .own _, A.x i hi, (ix.mono S3), A.kit i 13 hi (by decide), _, rfl, a, c i, o, _, _, _, rfl, .own _, A.x i hi, (ix.mono S3), A.kit i 14 hi (by decide), (by show 3 ≤ sizeLine; decide), fun q3 z3 => ?_⟩
    refine ⟨l3, q3, _, _, rfl, rfl, (by rw [upd_ne (ne_of_none E3 z3)]; exact E3), upd_same, (by show 15 ≤ sizeLine; decide), fun l4 h4 => ?_⟩
    have S4 := up (x := .lst [.bl (decide (i = 0)), .bl (decide (i = 1)), .bl (decide (i = 2)), .bl (decide (i = 3)), .bl (decide (i = 4)), .bl (decide (i = 5)), .bl (decide (i = 6)), .bl (decide (i = 7)), .bl (decide (i = 8)), .bl (decide (i = 9)), .bl (decide (i = 10)), .bl (decide (i = 11)), .bl (decide (i = 12)), .bl (decide (i = 13)), .bl (decide (i = 14))]) (up (x := .lst [.bl (decide (i = 12)), .bl (decide (i = 13)), .bl (decide (i = 14))]) S3 z3) h4
    have E4 : upd (upd H3 q3 (.lst [.bl (decide (i = 12)), .bl (decide (i = 13)), .bl (decide (i = 14))])) l4 (.lst [.bl (decide (i = 0)), .bl (decide (i = 1)), .bl (decide (i = 2)), .bl (decide (i = 3)), .bl (decide (i = 4)), .bl (decide (i = 5)), .bl (decide (i = 6)), .bl (decide (i = 7)), .bl (decide (i = 8)), .bl (decide (i = 9)), .bl (decide (i = 10)), .bl (decide (i = 11)), .bl (decide (i = 12)), .bl (decide (i = 13)), .bl (decide (i = 14))]) l4 = some (.lst [.bl (decide (i = 0)), .bl (decide (i = 1)), .bl (decide (i = 2)), .bl (decide (i = 3)), .bl (decide (i = 4)), .bl (decide (i = 5)), .bl (decide (i = 6)), .bl (decide (i = 7)), .bl (decide (i = 8)), .bl (decide (i = 9)), .bl (decide (i = 10)), .bl (decide (i = 11)), .bl (decide (i = 12)), .bl (decide (i = 13)), .bl (decide (i = 14))]) := upd_same
    revert S4 E4
    simp only [List.cons_append, List.nil_append]
    generalize upd (upd H3 q3 (.lst [.bl (decide (i = 12)), .bl (decide (i = 13)), .bl (decide (i = 14))])) l4 (.lst [.bl (decide (i = 0)), .bl (decide (i = 1)), .bl (decide (i = 2)), .bl (decide (i = 3)), .bl (decide (i = 4)), .bl (decide (i = 5)), .bl (decide (i = 6)), .bl (decide (i = 7)), .bl (decide (i = 8)), .bl (decide (i = 9)), .bl (decide (i = 10)), .bl (decide (i = 11)), .bl (decide (i = 12)), .bl (decide (i = 13)), .bl (decide (i = 14))]) = H4
    intro S4 E4
    have hM : [.bl (decide (i = 0)), .bl (decide (i = 1)), .bl (decide (i = 2)), .bl (decide (i = 3)), .bl (decide (i = 4)), .bl (decide (i = 5)), .bl (decide (i = 6)), .bl (decide (i = 7)), .bl (decide (i = 8)), .bl (decide (i = 9)), .bl (decide (i = 10)), .bl (decide (i = 11)), .bl (decide (i = 12)), .bl (decide (i = 13)), .bl (decide (i = 14))] = (List.range 15).map fun j => V.bl (decide (i = j)) := rfl
    have e4 : SqL K H4 l4 ((List.range 15).map fun j => V.bl (decide (i = j))) := SqL.of (by rw [E4, hM])
    refine ⟨_, rfl, l4, _, rfl, e4, fun Dd hD => ?_⟩
    refine lc_it walk_enum (fun j H' => Same H4 H' ∧ H' Dd = some (.lst (if i < j then [.int (i : Int)] else []))) ⟨up (Same.refl H4) hD, upd_same⟩ (fun j H' _ p => p.1.seq e4) ?_ ?_
    · rintro j x H' H'' hj ⟨p1, p2⟩ ⟨T, x1, x2, rfl, hT, rfl, y1, y2⟩
      rw [List.length_map, List.length_range] at hj
      dsimp only at y1 y2
      rw [List.getElem?_map, List.getElem?_range hj] at y2
      cases y1
      cases y2
      have nT : Dd ≠ T := ne_of_none p2 hT
      refine ⟨T, _, rfl, SqT.of upd_same, rfl, _, _, rfl, _, _, rfl, rfl, rfl, _, rfl, _, rfl, ?_⟩
      refine ite2 (fun e => ?_) (fun e => ?_)
      · have e' : i = j := of_decide_eq_true e
        subst e'
        rw [if_neg (Nat.lt_irrefl i)] at p2
        refine ⟨_, rfl, [], by rw [upd_ne nT]; exact p2, by decide, ?_, ?_⟩
        · exact fun b o z => by
            rw [upd_ne (ne_of_none z hD), upd_ne (ne_of_none (p1 _ _ z) hT)]
            exact p1 _ _ z
        · rw [upd_same, if_pos (Nat.lt_succ_self i)]
          rfl
      · have e' : i ≠ j := fun z => e (decide_eq_true z)
        refine ⟨up p1 hT, ?_⟩
        rw [upd_ne nT, p2]
        by_cases z : i < j
        · rw [if_pos z, if_pos (by omega)]
        · rw [if_neg z, if_neg (by omega)]
    · rintro H' ⟨p1, p2⟩
      rw [List.length_map, List.length_range, if_pos hi] at p2
      exact k H' Dd (S4.trans p1) (S4.free hD) p2
end
end K1
set_option maxRecDepth 100000
set_option maxHeartbeats 8000000
namespace K1
open PySem PySem.Spec PyProof.Rows L2
theorem use0 {C : Addr} {H : Hp} {R : Addr → Hp → Prop} (k : ∀ a H1, Same H H1 → H a = none → IsX C H1 a none → R a H1) : ∀ a, H a = none → R a (upd H a (exo a C none)) := fun a ha =>
  k a _ (up (Same.refl H) ha) ha upd_same
section
variable {P : Program} {w : World} {K : PySem.W.Frag} {mg : Str → Option Value} {base : Heap} {c : Nat → Addr} {cH : Addr}
theorem scAll : FnScope ["_law_one", "_law_two", "_law_found"] ["_law_one", "_law_two"] (defScope sAll) := ⟨rfl, rfl, rfl, by decide +kernel, rfl, by decide +kernel, by decide +kernel⟩
theorem ok_all {f : Addr} {fd : FuncData} (D : Df K mg "_law_all" sAll ["_law_one", "_law_two"] f fd) (A : Ax P w K mg base c cH) : FnOk P w K mg base CX0 3 f fd ["_law_one", "_law_two"] (spAll c) := by
  refine D.fn.ok scAll (fun vs H Q E h => ?_) (fun cdv Ar outer s H vs Q E hr h => ?_)
  · obtain ⟨v, u, rfl, _⟩ := h
    rfl
  · obtain ⟨v, u, rfl, k⟩ := h
    refine ⟨_, (pss_cons (ps_set (i := 2) scAll.nd rfl (Or.inl rfl) (pe_lst (pa_cons (pe_mkr A.p0 hr (by rfl) (pa_cons (pv 0) (pa_cons (pv 1) pa_nil))) (pa_cons (pe_mkr A.p1 hr (by rfl) (pa_cons (pv 0) pa_nil)) (pa_cons (pe_mkr A.p2 hr (by rfl) (pa_cons (pv 0) pa_nil)) (pa_cons (pe_mkr A.p3 hr (by rfl) (pa_cons (pv 0) (pa_cons (pv 1) pa_nil))) (pa_cons (pe_mk0r A.p4 (by rfl)) (pa_cons (pe_mkr A.p5 hr (by rfl) (pa_cons (pv 0) pa_nil)) (pa_cons (pe_mkr A.p6 hr (by rfl) (pa_cons (pv 0) pa_nil)) pa_nil))))))))) 
      (pss_one (ps_ret (pe_op op_cat (pv 2) (pe_lst (pa_cons (pe_mk0r A.p7 (by rfl)) (pa_cons (pe_mkr A.p8 hr (by rfl) (pa_cons (pv 0) pa_nil)) (pa_cons (pe_mkr A.p9 hr (by rfl) (pa_cons (pv 0) pa_nil)) (pa_cons (pe_mkr A.p10 hr (by rfl) (pa_cons (pv 0) pa_nil)) (pa_cons (pe_mk0r A.p11 (by rfl)) (pa_cons (pe_mk0r A.p12 (by rfl)) (pa_cons (pe_mk0r A.p13 (by rfl)) (pa_cons (pe_mkr A.p14 hr (by rfl) (pa_cons (pv 0) pa_nil)) pa_nil))))))))))))), ?_⟩
    refine ⟨_, rfl, _, rfl, rfl, rfl, by decide, use2 (fun a0 H1 s0 n0 x0 => ?_) (fun _ => rfl)⟩
    refine ⟨_, rfl, rfl, rfl, by decide, use1 (fun a1 H2 s1 n1 x1 => ?_) (fun _ => rfl)⟩
    refine ⟨_, rfl, rfl, rfl, by decide, use1 (fun a2 H3 s2 n2 x2 => ?_) (fun _ => rfl)⟩
    refine ⟨_, rfl, _, rfl, rfl, rfl, by decide, use2 (fun a3 H4 s3 n3 x3 => ?_) (fun _ => rfl)⟩
    intro a4 n4
    have s4 := up (x := exo a4 (c 4) none) (Same.refl H4) n4
    have x4 : IsX (c 4) (upd H4 a4 (exo a4 (c 4) none)) a4 none := upd_same
    revert s4 x4
    generalize upd H4 a4 (exo a4 (c 4) none) = H5
    intro s4 x4
    refine ⟨_, rfl, rfl, rfl, by decide, use1 (fun a5 H6 s5 n5 x5 => ?_) (fun _ => rfl)⟩
    refine ⟨_, rfl, rfl, rfl, by decide, use1 (fun a6 H7 s6 n6 x6 => ?_) (fun _ => rfl)⟩
    refine ⟨(by show 7 ≤ sizeLine; decide), fun l1 h1 => ?_⟩
    have S1 := up (x := .lst [V.ref a0, V.ref a1, V.ref a2, V.ref a3, V.ref a4, V.ref a5, V.ref a6]) (Same.refl H7) h1
    have E1 : upd H7 l1 (.lst [V.ref a0, V.ref a1, V.ref a2, V.ref a3, V.ref a4, V.ref a5, V.ref a6]) l1 = some (.lst [V.ref a0, V.ref a1, V.ref a2, V.ref a3, V.ref a4, V.ref a5, V.ref a6]) := upd_same
    revert S1 E1
    generalize upd H7 l1 (.lst [V.ref a0, V.ref a1, V.ref a2, V.ref a3, V.ref a4, V.ref a5, V.ref a6]) = J1
    intro S1 E1
    refine ⟨_, rfl, ?_⟩
    intro a7 n7
    have s7 := up (x := exo a7 (c 7) none) (Same.refl J1) n7
    have x7 : IsX (c 7) (upd J1 a7 (exo a7 (c 7) none)) a7 none := upd_same
    revert s7 x7
    generalize upd J1 a7 (exo a7 (c 7) none) = H8
    intro s7 x7
    refine ⟨_, rfl, rfl, rfl, by decide, use1 (fun a8 H9 s8 n8 x8 => ?_) (fun _ => rfl)⟩
    refine ⟨_, rfl, rfl, rfl, by decide, use1 (fun a9 H10 s9 n9 x9 => ?_) (fun _ => rfl)⟩
    refine ⟨_, rfl, rfl, rfl, by decide, use1 (fun a10 H11 s10 n10 x10 => ?_) (fun _ => rfl)⟩
    intro a11 n11
    have s11 := up (x := exo a11 (c 11) none) (Same.refl H11) n11
    have x11 : IsX (c 11) (upd H11 a11 (exo a11 (c 11) none)) a11 none := upd_same
    revert s11 x11
    generalize upd H11 a11 (exo a11 (c 11) none) = H12
    intro s11 x11
    intro a12 n12
    have s12 := up (x := exo a12 (c 12) none) (Same.refl H12) n12
    have x12 : IsX (c 12) (upd H12 a12 (exo a12 (c 12) none)) a12 none := upd_same
    revert s12 x12
    generalize upd H12 a12 (exo a12 (c 12) none) = H13
    intro s12 x12
    intro a13 n13
    have s13 := up (x := exo a13 (c 13) none) (Same.refl H13) n13
    have x13 : IsX (c 13) (upd H13 a13 (exo a13 (c 13) none)) a13 none := upd_same
    revert s13 x13
    generalize upd H13 a13 (exo a13 (c 13) none) = H14
    intro s13 x13
    refine ⟨_, rfl, rfl, rfl, by decide, use1 (fun a14 H15 s14 n14 x14 => ?_) (fun _ => rfl)⟩
    have F1 := (((((((s7.trans s8).trans s9).trans s10).trans s11).trans s12).trans s13).trans s14) _ _ E1
    refine ⟨(by show 8 ≤ sizeLine; decide), fun q1 z1 => ?_⟩
    refine ⟨l1, q1, _, _, rfl, rfl, (by rw [upd_ne (ne_of_none F1 z1)]; exact F1), upd_same, (by show 15 ≤ sizeLine; decide), fun l2 h2 => ?_⟩
    have S2 := up (x := .lst [V.ref a0, V.ref a1, V.ref a2, V.ref a3, V.ref a4, V.ref a5, V.ref a6, V.ref a7, V.ref a8, V.ref a9, V.ref a10, V.ref a11, V.ref a12, V.ref a13, V.ref a14]) (up (x := .lst [V.ref a7, V.ref a8, V.ref a9, V.ref a10, V.ref a11, V.ref a12, V.ref a13, V.ref a14]) (Same.refl H15) z1) h2
    have E2 : upd (upd H15 q1 (.lst [V.ref a7, V.ref a8, V.ref a9, V.ref a10, V.ref a11, V.ref a12, V.ref a13, V.ref a14])) l2 (.lst [V.ref a0, V.ref a1, V.ref a2, V.ref a3, V.ref a4, V.ref a5, V.ref a6, V.ref a7, V.ref a8, V.ref a9, V.ref a10, V.ref a11, V.ref a12, V.ref a13, V.ref a14]) l2 = some (.lst [V.ref a0, V.ref a1, V.ref a2, V.ref a3, V.ref a4, V.ref a5, V.ref a6, V.ref a7, V.ref a8, V.ref a9, V.ref a10, V.ref a11, V.ref a12, V.ref a13, V.ref a14]) := upd_same
    have N2 : H15 l2 = none := (up (x := .lst [V.ref a7, V.ref a8, V.ref a9, V.ref a10, V.ref a11, V.ref a12, V.ref a13, V.ref a14]) (Same.refl H15) z1).free h2
    revert S2 E2
    simp only [List.cons_append, List.nil_append]
    generalize upd (upd H15 q1 (.lst [V.ref a7, V.ref a8, V.ref a9, V.ref a10, V.ref a11, V.ref a12, V.ref a13, V.ref a14])) l2 (.lst [V.ref a0, V.ref a1, V.ref a2, V.ref a3, V.ref a4, V.ref a5, V.ref a6, V.ref a7, V.ref a8, V.ref a9, V.ref a10, V.ref a11, V.ref a12, V.ref a13, V.ref a14]) = J2
    intro S2 E2
    have U16 := S2
    have U15 := s14.trans U16
    have U14 := s13.trans U15
    have U13 := s12.trans U14
    have U12 := s11.trans U13
    have U11 := s10.trans U12
    have U10 := s9.trans U11
    have U9 := s8.trans U10
    have U8 := s7.trans U9
    have U7 := S1.trans U8
    have U6 := s6.trans U7
    have U5 := s5.trans U6
    have U4 := s4.trans U5
    have U3 := s3.trans U4
    have U2 := s2.trans U3
    have U1 := s1.trans U2
    have U0 := s0.trans U1
    refine k _ l2 [a0, a1, a2, a3, a4, a5, a6, a7, a8, a9, a10, a11, a12, a13, a14] U0 ((((((((((((((((s0.trans s1).trans s2).trans s3).trans s4).trans s5).trans s6).trans S1).trans s7).trans s8).trans s9).trans s10).trans s11).trans s12).trans s13).trans s14).free N2) E2 ⟨rfl, fun i a h => ?_⟩
    match i with
    | 0 =>
      cases h
      exact x0.mono U1
    | 1 =>
      cases h
      exact x1.mono U2
    | 2 =>
      cases h
      exact x2.mono U3
    | 3 =>
      cases h
      exact x3.mono U4
    | 4 =>
      cases h
      exact x4.mono U5
    | 5 =>
      cases h
      exact x5.mono U6
    | 6 =>
      cases h
      exact x6.mono U7
    | 7 =>
      cases h
      exact x7.mono U9
    | 8 =>
      cases h
      exact x8.mono U10
    | 9 =>
      cases h
      exact x9.mono U11
    | 10 =>
      cases h
      exact x10.mono U12
    | 11 =>
      cases h
      exact x11.mono U13
    | 12 =>
      cases h
      exact x12.mono U14
    | 13 =>
      cases h
      exact x13.mono U15
    | 14 =>
      cases h
      exact x14.mono U16
    | n + 15 => exact absurd h (by simp)
theorem scNamed : FnScope ["_law_one", "_law_two", "_law_found"] ["_law_one", "_law_two"] (defScope sNamed) := ⟨rfl, rfl, rfl, by decide +kernel, rfl, by decide +kernel, by decide +kernel⟩
theorem ok_named {f : Addr} {fd : FuncData} (D : Df K mg "_law_all_named" sNamed ["_law_one", "_law_two"] f fd) (A : Ax P w K mg base c cH) : FnOk P w K mg base CX0 3 f fd ["_law_one", "_law_two"] (spAll c) := by
  refine D.fn.ok scNamed (fun vs H Q E h => ?_) (fun cdv Ar outer s H vs Q E hr h => ?_)
  · obtain ⟨v, u, rfl, _⟩ := h
    rfl
  · obtain ⟨v, u, rfl, k⟩ := h
    refine ⟨_, (pss_cons (ps_set (i := 2) scNamed.nd rfl (Or.inl rfl) (pe_lst (pa_cons (pe_mkrK A.k0 hr (by rfl) (pk_cons (pv 1) (pk_cons (pv 0) pk_nil))) (pa_cons (pe_mkrK A.k1 hr (by rfl) (pk_cons (pv 0) pk_nil)) (pa_cons (pe_mkrK A.k2 hr (by rfl) (pk_cons (pv 0) pk_nil)) (pa_cons (pe_mkrK A.k3 hr (by rfl) (pk_cons (pv 1) (pk_cons (pv 0) pk_nil))) pa_nil)))))) 
      (pss_cons (ps_set (i := 2) scNamed.nd rfl (Or.inl rfl) (pe_op op_cat (pv 2) (pe_lst (pa_cons (pe_mk0r A.p4 (by rfl)) (pa_cons (pe_mkrK A.k5 hr (by rfl) (pk_cons (pv 0) pk_nil)) (pa_cons (pe_mkrK A.k6 hr (by rfl) (pk_cons (pv 0) pk_nil)) (pa_cons (pe_mk0r A.p7 (by rfl)) (pa_cons (pe_mkrK A.k8 hr (by rfl) (pk_cons (pv 0) pk_nil)) (pa_cons (pe_mkrK A.k9 hr (by rfl) (pk_cons (pv 0) pk_nil)) pa_nil))))))))) 
      (pss_one (ps_ret (pe_op op_cat (pv 2) (pe_lst (pa_cons (pe_mkrK A.k10 hr (by rfl) (pk_cons (pv 0) pk_nil)) (pa_cons (pe_mk0r A.p11 (by rfl)) (pa_cons (pe_mk0r A.p12 (by rfl)) (pa_cons (pe_mk0r A.p13 (by rfl)) (pa_cons (pe_mkrK A.k14 hr (by rfl) (pk_cons (pv 0) pk_nil)) pa_nil))))))))))), ?_⟩
    refine ⟨_, rfl, _, rfl, rfl, rfl, by decide, use2 (fun a0 H1 s0 n0 x0 => ?_) (fun _ => rfl)⟩
    refine ⟨_, rfl, rfl, rfl, by decide, use1 (fun a1 H2 s1 n1 x1 => ?_) (fun _ => rfl)⟩
    refine ⟨_, rfl, rfl, rfl, by decide, use1 (fun a2 H3 s2 n2 x2 => ?_) (fun _ => rfl)⟩
    refine ⟨_, rfl, _, rfl, rfl, rfl, by decide, use2 (fun a3 H4 s3 n3 x3 => ?_) (fun _ => rfl)⟩
    refine ⟨(by show 4 ≤ sizeLine; decide), fun l1 h1 => ?_⟩
    have S1 := up (x := .lst [V.ref a0, V.ref a1, V.ref a2, V.ref a3]) (Same.refl H4) h1
    have E1 : upd H4 l1 (.lst [V.ref a0, V.ref a1, V.ref a2, V.ref a3]) l1 = some (.lst [V.ref a0, V.ref a1, V.ref a2, V.ref a3]) := upd_same
    revert S1 E1
    generalize upd H4 l1 (.lst [V.ref a0, V.ref a1, V.ref a2, V.ref a3]) = J1
    intro S1 E1
    refine ⟨_, rfl, ?_⟩
    intro a4 n4
    have s4 := up (x := exo a4 (c 4) none) (Same.refl J1) n4
    have x4 : IsX (c 4) (upd J1 a4 (exo a4 (c 4) none)) a4 none := upd_same
    revert s4 x4
    generalize upd J1 a4 (exo a4 (c 4) none) = H5
    intro s4 x4
    refine ⟨_, rfl, rfl, rfl, by decide, use1 (fun a5 H6 s5 n5 x5 => ?_) (fun _ => rfl)⟩
    refine ⟨_, rfl, rfl, rfl, by decide, use1 (fun a6 H7 s6 n6 x6 => ?_) (fun _ => rfl)⟩
    intro a7 n7
    have s7 := up (x := exo a7 (c 7) none) (Same.refl H7) n7
    have x7 : IsX (c 7) (upd H7 a7 (exo a7 (c 7) none)) a7 none := upd_same
    revert s7 x7
    generalize upd H7 a7 (exo a7 (c 7) none) = H8
    intro s7 x7
    refine ⟨_, rfl, rfl, rfl, by decide, use1 (fun a8 H9 s8 n8 x8 => ?_) (fun _ => rfl)⟩
    refine ⟨_, rfl, rfl, rfl, by decide, use1 (fun a9 H10 s9 n9 x9 => ?_) (fun _ => rfl)⟩
    have F1 := (((((s4.trans s5).trans s6).trans s7).trans s8).trans s9) _ _ E1
    refine ⟨(by show 6 ≤ sizeLine; decide), fun q1 z1 => ?_⟩
    refine ⟨l1, q1, _, _, rfl, rfl, (by rw [upd_ne (ne_of_none F1 z1)]; exact F1), upd_same, (by show 10 ≤ sizeLine; decide), fun l2 h2 => ?_⟩
    have S2 := up (x := .lst [V.ref a0, V.ref a1, V.ref a2, V.ref a3, V.ref a4, V.ref a5, V.ref a6, V.ref a7, V.ref a8, V.ref a9]) (up (x := .lst [V.ref a4, V.ref a5, V.ref a6, V.ref a7, V.ref a8, V.ref a9]) (Same.refl H10) z1) h2
    have E2 : upd (upd H10 q1 (.lst [V.ref a4, V.ref a5, V.ref a6, V.ref a7, V.ref a8, V.ref a9])) l2 (.lst [V.ref a0, V.ref a1, V.ref a2, V.ref a3, V.ref a4, V.ref a5, V.ref a6, V.ref a7, V.ref a8, V.ref a9]) l2 = some (.lst [V.ref a0, V.ref a1, V.ref a2, V.ref a3, V.ref a4, V.ref a5, V.ref a6, V.ref a7, V.ref a8, V.ref a9]) := upd_same
    have N2 : H10 l2 = none := (up (x := .lst [V.ref a4, V.ref a5, V.ref a6, V.ref a7, V.ref a8, V.ref a9]) (Same.refl H10) z1).free h2
    revert S2 E2
    simp only [List.cons_append, List.nil_append]
    generalize upd (upd H10 q1 (.lst [V.ref a4, V.ref a5, V.ref a6, V.ref a7, V.ref a8, V.ref a9])) l2 (.lst [V.ref a0, V.ref a1, V.ref a2, V.ref a3, V.ref a4, V.ref a5, V.ref a6, V.ref a7, V.ref a8, V.ref a9]) = J2
    intro S2 E2
    refine ⟨_, rfl, ?_⟩
    refine ⟨_, rfl, rfl, rfl, by decide, use1 (fun a10 H11 s10 n10 x10 => ?_) (fun _ => rfl)⟩
    intro a11 n11
    have s11 := up (x := exo a11 (c 11) none) (Same.refl H11) n11
    have x11 : IsX (c 11) (upd H11 a11 (exo a11 (c 11) none)) a11 none := upd_same
    revert s11 x11
    generalize upd H11 a11 (exo a11 (c 11) none) = H12
    intro s11 x11
    intro a12 n12
    have s12 := up (x := exo a12 (c 12) none) (Same.refl H12) n12
    have x12 : IsX (c 12) (upd H12 a12 (exo a12 (c 12) none)) a12 none := upd_same
    revert s12 x12
    generalize upd H12 a12 (exo a12 (c 12) none) = H13
    intro s12 x12
    intro a13 n13
    have s13 := up (x := exo a13 (c 13) none) (Same.refl H13) n13
    have x13 : IsX (c 13) (upd H13 a13 (exo a13 (c 13) none)) a13 none := upd_same
    revert s13 x13
    generalize upd H13 a13 (exo a13 (c 13) none) = H14
    intro s13 x13
    refine ⟨_, rfl, rfl, rfl, by decide, use1 (fun a14 H15 s14 n14 x14 => ?_) (fun _ => rfl)⟩
    have F2 := ((((s10.trans s11).trans s12).trans s13).trans s14) _ _ E2
    refine ⟨(by show 5 ≤ sizeLine; decide), fun q2 z2 => ?_⟩
    refine ⟨l2, q2, _, _, rfl, rfl, (by rw [upd_ne (ne_of_none F2 z2)]; exact F2), upd_same, (by show 15 ≤ sizeLine; decide), fun l3 h3 => ?_⟩
    have S3 := up (x := .lst [V.ref a0, V.ref a1, V.ref a2, V.ref a3, V.ref a4, V.ref a5, V.ref a6, V.ref a7, V.ref a8, V.ref a9, V.ref a10, V.ref a11, V.ref a12, V.ref a13, V.ref a14]) (up (x := .lst [V.ref a10, V.ref a11, V.ref a12, V.ref a13, V.ref a14]) (Same.refl H15) z2) h3
    have E3 : upd (upd H15 q2 (.lst [V.ref a10, V.ref a11, V.ref a12, V.ref a13, V.ref a14])) l3 (.lst [V.ref a0, V.ref a1, V.ref a2, V.ref a3, V.ref a4, V.ref a5, V.ref a6, V.ref a7, V.ref a8, V.ref a9, V.ref a10, V.ref a11, V.ref a12, V.ref a13, V.ref a14]) l3 = some (.lst [V.ref a0, V.ref a1, V.ref a2, V.ref a3, V.ref a4, V.ref a5, V.ref a6, V.ref a7, V.ref a8, V.ref a9, V.ref a10, V.ref a11, V.ref a12, V.ref a13, V.ref a14]) := upd_same
    have N3 : H15 l3 = none := (up (x := .lst [V.ref a10, V.ref a11, V.ref a12, V.ref a13, V.ref a14]) (Same.refl H15) z2).free h3
    revert S3 E3
    simp only [List.cons_append, List.nil_append]
    generalize upd (upd H15 q2 (.lst [V.ref a10, V.ref a11, V.ref a12, V.ref a13, V.ref a14])) l3 (.lst [V.ref a0, V.ref a1, V.ref a2, V.ref a3, V.ref a4, V.ref a5, V.ref a6, V.ref a7, V.ref a8, V.ref a9, V.ref a10, V.ref a11, V.ref a12, V.ref a13, V.ref a14]) = J3
    intro S3 E3
    have U17 := S3
    have U16 := s14.trans U17
    have U15 := s13.trans U16
    have U14 := s12.trans U15
    have U13 := s11.trans U14
    have U12 := s10.trans U13
    have U11 := S2.trans U12
    have U10 := s9.trans U11
    have U9 := s8.trans U10
    have U8 := s7.trans U9
    have U7 := s6.trans U8
    have U6 := s5.trans U7
    have U5 := s4.trans U6
    have U4 := S1.trans U5
    have U3 := s3.trans U4
    have U2 := s2.trans U3
    have U1 := s1.trans U2
    have U0 := s0.trans U1
    refine k _ l3 [a0, a1, a2, a3, a4, a5, a6, a7, a8, a9, a10, a11, a12, a13, a14] U0 (((((((((((((((((s0.trans s1).trans s2).trans s3).trans S1).trans s4).trans s5).trans s6).trans s7).trans s8).trans s9).trans S2).trans s10).trans s11).trans s12).trans s13).trans s14).free N3) E3 ⟨rfl, fun i a h => ?_⟩
    match i with
    | 0 =>
      cases h
      exact x0.mono U1
    | 1 =>
      cases h
      exact x1.mono U2
    | 2 =>
      cases h
      exact x2.mono U3
    | 3 =>
      cases h
      exact x3.mono U4
    | 4 =>
      cases h
      exact x4.mono U6
    | 5 =>
      cases h
      exact x5.mono U7
    | 6 =>
      cases h
      exact x6.mono U8
    | 7 =>
      cases h
      exact x7.mono U9
    | 8 =>
      cases h
      exact x8.mono U10
    | 9 =>
      cases h
      exact x9.mono U11
    | 10 =>
      cases h
      exact x10.mono U13
    | 11 =>
      cases h
      exact x11.mono U14
    | 12 =>
      cases h
      exact x12.mono U15
    | 13 =>
      cases h
      exact x13.mono U16
    | 14 =>
      cases h
      exact x14.mono U17
    | n + 15 => exact absurd h (by simp)
end
end K1
set_option maxRecDepth 100000
set_option maxHeartbeats 8000000
namespace K1
open PySem PySem.Spec PyProof.Rows L2
def spFields (K : PySem.W.Frag) (c : Nat → Addr) : Sp := fun vs H Q _ => ∃ (a : Addr) (as : List Addr) (v u : V), vs = [.ref a] ∧ SqL K H a (as.map V.ref) ∧ AllX c H v u as ∧
  ∀ H' p, Same H H' → H p = none → H' p = some (.lst [v, u, v, v, v, u, v, v, v, v, v, v]) → Q (.ref p) H'
section
variable {P : Program} {w : World} {K : PySem.W.Frag} {mg : Str → Option Value} {base : Heap} {c : Nat → Addr} {cH : Addr}
theorem scFields : FnScope ["_law_some", "_law_found"] ["_law_some"] (defScope sFields) := ⟨rfl, rfl, rfl, by decide +kernel, rfl, by decide +kernel, by decide +kernel⟩
theorem ok_fields {f : Addr} {fd : FuncData} (D : Df K mg "_law_fields" sFields ["_law_some"] f fd) (A : Ax P w K mg base c cH) : FnOk P w K mg base CX0 1 f fd ["_law_some"] (spFields K c) := by
  refine D.fn.ok scFields (fun vs H Q E h => ?_) (fun cdv Ar outer s H vs Q E hr h => ?_)
  · obtain ⟨a, as, v, u, rfl, _⟩ := h
    rfl
  · obtain ⟨a, as, v, u, rfl, hq, ⟨len, ix⟩, k⟩ := h
    obtain ⟨a0, a1, a2, a3, a4, a5, a6, a7, a8, a9, a10, a11, a12, a13, a14, rfl⟩ : ∃ a0 a1 a2 a3 a4 a5 a6 a7 a8 a9 a10 a11 a12 a13 a14 : Addr, as = [a0, a1, a2, a3, a4, a5, a6, a7, a8, a9, a10, a11, a12, a13, a14] := by
      match as, len with
      | [a0, a1, a2, a3, a4, a5, a6, a7, a8, a9, a10, a11, a12, a13, a14], _ => exact ⟨a0, a1, a2, a3, a4, a5, a6, a7, a8, a9, a10, a11, a12, a13, a14, rfl⟩
    refine ⟨_, pss_cons (ps_set (i := 1) scFields.nd rfl (Or.inl rfl) (pe_lst (pa_cons (pe_xfld (pe_ix ix_list (pv 0) pe_int (fun _ _ => rfl))) (pa_cons (pe_xfld (pe_ix ix_list (pv 0) pe_int (fun _ _ => rfl))) (pa_cons (pe_xfld (pe_ix ix_list (pv 0) pe_int (fun _ _ => rfl))) (pa_cons (pe_xfld (pe_ix ix_list (pv 0) pe_int (fun _ _ => rfl))) (pa_cons (pe_xfld (pe_ix ix_list (pv 0) pe_int (fun _ _ => rfl))) (pa_cons (pe_xfld (pe_ix ix_list (pv 0) pe_int (fun _ _ => rfl))) (pa_cons (pe_xfld (pe_ix ix_list (pv 0) pe_int (fun _ _ => rfl))) pa_nil)))))))))
      (pss_one (ps_ret (pe_op op_cat (pv 1) (pe_lst (pa_cons (pe_xfld (pe_ix ix_list (pv 0) pe_int (fun _ _ => rfl))) (pa_cons (pe_xfld (pe_ix ix_list (pv 0) pe_int (fun _ _ => rfl))) (pa_cons (pe_xfld (pe_ix ix_list (pv 0) pe_int (fun _ _ => rfl))) (pa_cons (pe_xfld (pe_ix ix_list (pv 0) pe_int (fun _ _ => rfl))) (pa_cons (pe_xfld (pe_ix ix_list (pv 0) pe_int (fun _ _ => rfl))) pa_nil))))))))), ?_⟩
    have x0 : IsX (c 0) H a0 (flds v u 0) := ix 0 a0 rfl
    have x1 : IsX (c 1) H a1 (flds v u 1) := ix 1 a1 rfl
    have x2 : IsX (c 2) H a2 (flds v u 2) := ix 2 a2 rfl
    have x3 : IsX (c 3) H a3 (flds v u 3) := ix 3 a3 rfl
    have x5 : IsX (c 5) H a5 (flds v u 5) := ix 5 a5 rfl
    have x6 : IsX (c 6) H a6 (flds v u 6) := ix 6 a6 rfl
    have x8 : IsX (c 8) H a8 (flds v u 8) := ix 8 a8 rfl
    have x9 : IsX (c 9) H a9 (flds v u 9) := ix 9 a9 rfl
    have x10 : IsX (c 10) H a10 (flds v u 10) := ix 10 a10 rfl
    have x14 : IsX (c 14) H a14 (flds v u 14) := ix 14 a14 rfl
    refine ⟨_, rfl, a, _, _, _, rfl, rfl, hq, rfl, _, c 0, _, _, rfl, A.x 0 (by decide), A.n0_line, x0, rfl, _, rfl, a, _, _, _, rfl, rfl, hq, rfl, _, c 0, _, _, rfl, A.x 0 (by decide), A.n0_column, x0, rfl, _, rfl, a, _, _, _, rfl, rfl, hq, rfl, _, c 1, _, _, rfl, A.x 1 (by decide), A.n1_fault, x1, rfl, _, rfl, a, _, _, _, rfl, rfl, hq, rfl, _, c 2, _, _, rfl, A.x 2 (by decide), A.n2_place, x2, rfl, _, rfl, a, _, _, _, rfl, rfl, hq, rfl, _, c 3, _, _, rfl, A.x 3 (by decide), A.n3_what, x3, rfl, _, rfl, a, _, _, _, rfl, rfl, hq, rfl, _, c 3, _, _, rfl, A.x 3 (by decide), A.n3_count, x3, rfl, _, rfl, a, _, _, _, rfl, rfl, hq, rfl, _, c 5, _, _, rfl, A.x 5 (by decide), A.n5_place, x5, rfl, (by show 7 ≤ sizeLine; decide), fun l1 h1 => ?_⟩
    have S1 := up (x := .lst [v, u, v, v, v, u, v]) (Same.refl H) h1
    have E1 : upd H l1 (.lst [v, u, v, v, v, u, v]) l1 = some (.lst [v, u, v, v, v, u, v]) := upd_same
    revert S1 E1
    generalize upd H l1 (.lst [v, u, v, v, v, u, v]) = H1
    intro S1 E1
    refine ⟨_, rfl, _, rfl, a, _, _, _, rfl, rfl, (S1.seq hq), rfl, _, c 6, _, _, rfl, A.x 6 (by decide), A.n6_count, (x6.mono S1), rfl, _, rfl, a, _, _, _, rfl, rfl, (S1.seq hq), rfl, _, c 8, _, _, rfl, A.x 8 (by decide), A.n8_place, (x8.mono S1), rfl, _, rfl, a, _, _, _, rfl, rfl, (S1.seq hq), rfl, _, c 9, _, _, rfl, A.x 9 (by decide), A.n9_time, (x9.mono S1), rfl, _, rfl, a, _, _, _, rfl, rfl, (S1.seq hq), rfl, _, c 10, _, _, rfl, A.x 10 (by decide), A.n10_count, (x10.mono S1), rfl, _, rfl, a, _, _, _, rfl, rfl, (S1.seq hq), rfl, _, c 14, _, _, rfl, A.x 14 (by decide), A.n14_place, (x14.mono S1), rfl, (by show 5 ≤ sizeLine; decide), fun q1 z1 => ?_⟩
    refine ⟨l1, q1, _, _, rfl, rfl, (by rw [upd_ne (ne_of_none E1 z1)]; exact E1), upd_same, (by show 12 ≤ sizeLine; decide), fun l2 h2 => ?_⟩
    exact k _ l2 (up (up S1 z1) h2) ((up S1 z1).free h2) upd_same
end
end K1
set_option maxRecDepth 100000
set_option maxHeartbeats 8000000
namespace K1
open PySem PySem.Spec PyProof.Rows L2
def spRight : Sp := fun vs H Q _ => ∃ v u : V, vs = [v, u] ∧ (flatB v = true ∨ ∃ r, v = .ref r) ∧ (∃ n : Int, u = .int n) ∧ ∀ H', Same H H' → Q (.bl true) H'
/-- the told texts -/
def tld (i : Nat) : Str := "refused " ++ title i
theorem dp_all {K : PySem.W.Frag} {H : Hp} (f : Nat → V) (d : Nat → PyData) : ∀ (n : Nat), (∀ i, i < n → Dp K H (f i) (d i)) → DpAll K H ((List.range n).map f) ((List.range n).map d) := by
  intro n h
  have key : ∀ l : List Nat, (∀ i ∈ l, i < n) → DpAll K H (l.map f) (l.map d) := by
    intro l
    induction l with
    | nil => exact fun _ => .nil
    | cons a l ih => exact fun hl => .cons (h a (hl a List.mem_cons_self)) (ih fun i hi => hl i (List.mem_cons_of_mem _ hi))
  exact key _ fun i hi => List.mem_range.mp hi
/-- the addresses of a list, by a function of the place -/
theorem refs_fn {ps : List Addr} {n : Nat} (h : ps.length = n) : ps.map V.ref = (List.range n).map fun i => V.ref (ps.getD i 0) := by
  apply List.ext_getElem
  · simp [h]
  · intro i h1 h2
    rw [List.getElem_map, List.getElem_map, List.getElem_range]
    have hi : i < ps.length := by simpa using h1
    rw [List.getD_eq_getElem?_getD, List.getElem?_eq_getElem hi]
    rfl
def dRow : PyData := .list ((List.range 15).map fun i : Nat => PyData.list [PyData.int (i : Int)])
def dTld : PyData := .list ((List.range 15).map fun i : Nat => PyData.str (tld i))
theorem dRow_shaped : SeqAt.shaped dRow = true := by decide +kernel
theorem dRow_eqv : PyData.eqv dRow dRow = true := SeqAt.eqv_refl _ (by decide +kernel)
theorem dTld_shaped : SeqAt.shaped dTld = true := by decide +kernel
theorem dTld_eqv : PyData.eqv dTld dTld = true := SeqAt.eqv_refl _ (by decide +kernel)
/-- a list of the lists [0], [1], .. -/
def Rows (H : Hp) (D : Addr) (n : Nat) : Prop := ∃ ps : List Addr, ps.length = n ∧ H D = some (.lst (ps.map V.ref)) ∧ ∀ (j : Nat) p, ps[j]? = some p → H p = some (.lst [.int (j : Int)])
theorem yesT {σ : L2.St} {H : Hp} {A B : Hp → Prop} (h : A H) : tYes σ H (fun b H3 => if b = true then A H3 else B H3) := by
  show if true = true then A H else B H
  exact iteT h
theorem refs_ne {ps : List Addr} {j : Int} : HO.lst (ps.map V.ref) ≠ HO.lst [.int j] := fun z => by
  have z := HO.lst.inj z
  cases ps with
  | nil => cases z
  | cons a l => cases z
theorem Rows.nil {H : Hp} {D : Addr} : Rows (upd H D (.lst [])) D 0 := ⟨[], rfl, upd_same, fun j p h => by simp at h⟩
theorem Rows.mono {H H' : Hp} {D : Addr} {n : Nat} (r : Rows H D n) (s : Same H H') : Rows H' D n := by
  obtain ⟨ps, l, e, f⟩ := r
  exact ⟨ps, l, s _ _ e, fun j p h => s _ _ (f j p h)⟩
theorem Rows.more {H H' : Hp} {D p : Addr} {n : Nat} (r : Rows H D n) (s : Same H H') (hp : H p = none) (ep : H' p = some (.lst [.int (n : Int)])) :
    ∃ acc, H' D = some (.lst acc) ∧ acc.length = n ∧ Rows (upd H' D (.lst (acc ++ [.ref p]))) D (n + 1) := by
  obtain ⟨ps, l, e, f⟩ := r
  have nD : p ≠ D := fun z => by
    rw [z, e] at hp
    cases hp
  refine ⟨ps.map V.ref, s _ _ e, by rw [List.length_map]; exact l, ps ++ [p], by rw [List.length_append, l]; rfl, by rw [upd_same, List.map_append]; rfl, fun j q h => ?_⟩
  by_cases hj : j < ps.length
  · rw [List.getElem?_append_left hj] at h
    have z := f j q h
    have nq : q ≠ D := ne_of z e refs_ne.symm
    rw [upd_ne nq]
    exact s _ _ z
  · rw [List.getElem?_append_right (by omega)] at h
    have hj2 : j - ps.length = 0 := by
      have := (List.getElem?_eq_some_iff.mp h).1
      simp at this
      omega
    rw [hj2] at h
    have hq : p = q := by simpa using h
    subst hq
    rw [upd_ne nD, ep]
    have : j = n := by omega
    rw [this]
theorem Rows.dp {K : PySem.W.Frag} {H : Hp} {D : Addr} (r : Rows H D 15) : Dp K H (.ref D) dRow := by
  obtain ⟨ps, l, e, f⟩ := r
  rw [refs_fn l] at e
  refine .lst (SqL.of e) (dp_all _ _ 15 fun i hi => ?_)
  have hi' : i < ps.length := by omega
  have z := f i (ps.getD i 0) (by rw [List.getD_eq_getElem?_getD, List.getElem?_eq_getElem hi']; rfl)
  exact .lst (SqL.of z) (.cons (.int _) .nil)
theorem title_len : ∀ i, (title i).length ≤ 9
  | 0 => by decide
  | 1 => by decide
  | 2 => by decide
  | 3 => by decide
  | 4 => by decide
  | 5 => by decide
  | 6 => by decide
  | 7 => by decide
  | 8 => by decide
  | 9 => by decide
  | 10 => by decide
  | 11 => by decide
  | 12 => by decide
  | 13 => by decide
  | n + 14 => by show (Str.ofString "badtext").length ≤ 9; decide
theorem flds_told (v u : V) : ∀ i fs, flds v u i = some fs → fs.lookup ("told" : Str) = none
  | 0, fs, h => by
    cases h
    rw [lookup_put, if_neg (by decide +kernel), lookup_put, if_neg (by decide +kernel)]
    rfl
  | 1, fs, h => by
    cases h
    rw [lookup_put, if_neg (by decide +kernel)]
    rfl
  | 2, fs, h => by
    cases h
    rw [lookup_put, if_neg (by decide +kernel)]
    rfl
  | 3, fs, h => by
    cases h
    rw [lookup_put, if_neg (by decide +kernel), lookup_put, if_neg (by decide +kernel)]
    rfl
  | 4, fs, h => by cases h
  | 5, fs, h => by
    cases h
    rw [lookup_put, if_neg (by decide +kernel)]
    rfl
  | 6, fs, h => by
    cases h
    rw [lookup_put, if_neg (by decide +kernel)]
    rfl
  | 7, fs, h => by cases h
  | 8, fs, h => by
    cases h
    rw [lookup_put, if_neg (by decide +kernel)]
    rfl
  | 9, fs, h => by
    cases h
    rw [lookup_put, if_neg (by decide +kernel)]
    rfl
  | 10, fs, h => by
    cases h
    rw [lookup_put, if_neg (by decide +kernel)]
    rfl
  | 11, fs, h => by cases h
  | 12, fs, h => by cases h
  | 13, fs, h => by cases h
  | n + 14, fs, h => by
    cases h
    rw [lookup_put, if_neg (by decide +kernel)]
    rfl
theorem range_more {α : Type} (f : Nat → α) (n : Nat) : (List.range n).map f ++ [f n] = (List.range (n + 1)).map f := by
  rw [List.range_succ, List.map_append]
  rfl
section
variable {P : Program} {w : World} {K : PySem.W.Frag} {mg : Str → Option Value} {base : Heap} {c : Nat → Addr} {cH : Addr}
abbrev Nr : List Str := ["_law_one", "_law_two", "_law_titles", "_law_some", "_law_e", "_law_k", "_law_title"]
theorem scRight : FnScope Nr ["_law_one", "_law_two"] (defScope sRight) := ⟨rfl, rfl, rfl, by decide +kernel, rfl, by decide +kernel, by decide +kernel⟩
/-- what «told» may be called on, and what it promises -/
def Told (c : Nat → Addr) : Addr → Sp → Prop := fun C sp => ∃ i, i < 15 ∧ C = c i ∧ sp = spTold (tld i)

theorem told_all (A : Ax P w K mg base c cH) : ∀ C sp, Told c C sp → ∃ (f : Addr) (fd : FuncData) (ps : List Str), XMeth K C "told" f ∧ FnOk P w K mg base CX0 1 f fd ps sp ∧ Binds K fd ps [] := by
  rintro C sp ⟨i, hi, rfl, rfl⟩
  match i, hi with
  | 0, _ =>
    have e : (tld 0) = ("refused malformed" : Str) := by decide +kernel
    rw [e]
    exact A.t0
  | 1, _ =>
    have e : (tld 1) = ("refused faulty" : Str) := by decide +kernel
    rw [e]
    exact A.t1
  | 2, _ =>
    have e : (tld 2) = ("refused misfit" : Str) := by decide +kernel
    rw [e]
    exact A.t2
  | 3, _ =>
    have e : (tld 3) = ("refused badcount" : Str) := by decide +kernel
    rw [e]
    exact A.t3
  | 4, _ =>
    have e : (tld 4) = ("refused shape" : Str) := by decide +kernel
    rw [e]
    exact A.t4
  | 5, _ =>
    have e : (tld 5) = ("refused other" : Str) := by decide +kernel
    rw [e]
    exact A.t5
  | 6, _ =>
    have e : (tld 6) = ("refused wide" : Str) := by decide +kernel
    rw [e]
    exact A.t6
  | 7, _ =>
    have e : (tld 7) = ("refused noimage" : Str) := by decide +kernel
    rw [e]
    exact A.t7
  | 8, _ =>
    have e : (tld 8) = ("refused noplace" : Str) := by decide +kernel
    rw [e]
    exact A.t8
  | 9, _ =>
    have e : (tld 9) = ("refused badline" : Str) := by decide +kernel
    rw [e]
    exact A.t9
  | 10, _ =>
    have e : (tld 10) = ("refused large" : Str) := by decide +kernel
    rw [e]
    exact A.t10
  | 11, _ =>
    have e : (tld 11) = ("refused busy" : Str) := by decide +kernel
    rw [e]
    exact A.t11
  | 12, _ =>
    have e : (tld 12) = ("refused idle" : Str) := by decide +kernel
    rw [e]
    exact A.t12
  | 13, _ =>
    have e : (tld 13) = ("refused noback" : Str) := by decide +kernel
    rw [e]
    exact A.t13
  | 14, _ =>
    have e : (tld 14) = ("refused badtext" : Str) := by decide +kernel
    rw [e]
    exact A.t14
  | n + 15, h => exact absurd h (by omega)
theorem bootVE : bootBuiltins "ValueError" = some (.type "ValueError") := by decide +kernel
theorem ok_right {f fM fA fN fF : Addr} {fd fdM fdA fdN fdF : FuncData} (D : Df K mg "_law_right" sRight ["_law_one", "_law_two"] f fd) (B : Blt mg) (A : Ax P w K mg base c cH)
    (DM : Df K mg "_law_marks" sMarks ["_law_e"] fM fdM) (DA : Df K mg "_law_all" sAll ["_law_one", "_law_two"] fA fdA) (DN : Df K mg "_law_all_named" sNamed ["_law_one", "_law_two"] fN fdN) (DF : Df K mg "_law_fields" sFields ["_law_some"] fF fdF) :
    FnOk P w K mg base CX0 4 f fd ["_law_one", "_law_two"] spRight := by
  have GM : FnOk P w K mg base CX0 1 fM fdM ["_law_e"] (spMarks c) := ok_marks DM B A
  have GA : FnOk P w K mg base CX0 3 fA fdA ["_law_one", "_law_two"] (spAll c) := ok_all DA A
  have GN : FnOk P w K mg base CX0 3 fN fdN ["_law_one", "_law_two"] (spAll c) := ok_named DN A
  have GF : FnOk P w K mg base CX0 1 fF fdF ["_law_some"] (spFields K c) := ok_fields DF A
  refine D.fn.ok scRight (fun vs H Q E h => ?_) (fun cdv Ar outer s H vs Q E hr h => ?_)
  · obtain ⟨v, u, rfl, _⟩ := h
    rfl
  · obtain ⟨v, u, rfl, hv, ⟨n, rfl⟩, k⟩ := h
    have hr1 : Room 1 _ := hr.mono (by decide)
    refine ⟨_, pss_cons (ps_set (i := 2) scRight.nd rfl (Or.inl rfl) (pe_lst (pa_cons pe_str (pa_cons pe_str (pa_cons pe_str (pa_cons pe_str (pa_cons pe_str (pa_cons pe_str (pa_cons pe_str (pa_cons pe_str (pa_cons pe_str (pa_cons pe_str pa_nil))))))))))))
      (pss_cons (ps_set (i := 2) scRight.nd rfl (Or.inl rfl) (pe_op op_catE (pv 2) (pe_lst (pa_cons pe_str (pa_cons pe_str (pa_cons pe_str (pa_cons pe_str (pa_cons pe_str pa_nil))))))))
      (pss_cons (ps_for PassesOwn.never rfl (pi_tup (pe_tup (pa_cons (pe_call GA hr rfl DA.mgf DA.fn.kp DA.b .nil pass0 (pa_cons (pv 0) (pa_cons (pv 1) pa_nil))) (pa_cons (pe_call GN hr rfl DN.mgf DN.fn.kp DN.b .nil pass0 (pa_cons (pv 0) (pa_cons (pv 1) pa_nil))) pa_nil)))) (pg_name (i := 3) scRight.nd rfl (Or.inl rfl))
        (pss_cons (ps_if (pt_cmpR (op_neD hr.units) (pe_lc (own := [("_law_e", 4)]) (g := gName 4) (tt := tYes) (te := tCall (spMarks c) [] E0 (tCons (tVar 4) tNil)) rfl scRight.nd (pi_list (pv 3)) (blkOk_by (N := Nr) (sc := defScope sRight) (by decide +kernel)) (fun _ _ _ _ _ => pg_name (i := 4) scRight.nd rfl (Or.inl rfl)) (fun _ _ _ _ _ => pts_nil) (fun _ _ _ _ _ => pe_call GM hr1 rfl DM.mgf DM.fn.kp DM.b .nil pass0 (pa_cons (pv 4) pa_nil))) (pe_lc (own := [("_law_k", 5)]) (g := gName 5) (tt := tYes) (te := tLst (tCons (tVar 5) tNil)) rfl scRight.nd (pi_range1 rfl B.range (pa_cons pe_int pa_nil)) (blkOk_by (N := Nr) (sc := defScope sRight) (by decide +kernel)) (fun _ _ _ _ _ => pg_name (i := 5) scRight.nd rfl (Or.inl rfl)) (fun _ _ _ _ _ => pts_nil) (fun _ _ _ _ _ => pe_lst (pa_cons (pv 5) pa_nil))) (nomark _)) (pss_one (ps_ret pe_bl)) pss_nil)
        (pss_cons (ps_if (pt_cmpR (op_neD hr.units) (pe_lc (own := [("_law_e", 4)]) (g := gName 4) (tt := tYes) (te := tXm K (Told c) "told" (tVar 4)) rfl scRight.nd (pi_list (pv 3)) (blkOk_by (N := Nr) (sc := defScope sRight) (by decide +kernel)) (fun _ _ _ _ _ => pg_name (i := 4) scRight.nd rfl (Or.inl rfl)) (fun _ _ _ _ _ => pts_nil) (fun _ _ _ _ _ => pe_xm (pv 4) (told_all A) hr1)) (pe_lc (own := [("_law_title", 6)]) (g := gName 6) (tt := tYes) (te := tOp (fun x y H Q => ∃ i j, x = .str i ∧ y = .str j ∧ i.length + j.length ≤ sizeLine ∧ Q (.str (i ++ j)) H) (tC (.str "refused ")) (tVar 6)) rfl scRight.nd (pi_list (pv 2)) (blkOk_by (N := Nr) (sc := defScope sRight) (by decide +kernel)) (fun _ _ _ _ _ => pg_name (i := 6) scRight.nd rfl (Or.inl rfl)) (fun _ _ _ _ _ => pts_nil) (fun _ _ _ _ _ => pe_op op_add_str pe_str (pv 6))) (nomark _)) (pss_one (ps_ret pe_bl)) pss_nil)
        (pss_cons (ps_if (pt_not (pt_val (pe_callB (cr_all rfl) (by rfl) B.all boot_all (pa_cons (pe_lc (own := [("_law_e", 4)]) (g := gName 4) (tt := tYes) (te := tAndV (tCB (rIsX K) (tCons (tVar 4) (tCons (tC (.ref cH)) tNil))) (tCB (rIsX K) (tCons (tVar 4) (tCons (tC (.ty "ValueError")) tNil)))) rfl scRight.nd (pi_list (pv 3)) (blkOk_by (N := Nr) (sc := defScope sRight) (by decide +kernel)) (fun _ _ _ _ _ => pg_name (i := 4) scRight.nd rfl (Or.inl rfl)) (fun _ _ _ _ _ => pts_nil) (fun _ _ _ _ _ => pe_and (pe_callB call_isX (by rfl) B.isinst boot_isinstance (pa_cons (pv 4) (pa_cons (pe_gref A.mgH (by rfl)) pa_nil))) (pe_one (pe_callB call_isX (by rfl) B.isinst boot_isinstance (pa_cons (pv 4) (pa_cons (pe_bltn (v := .ty "ValueError") (by rfl) B.ve bootVE rfl) pa_nil)))))) pa_nil)))) (pss_one (ps_ret pe_bl)) pss_nil)
        (pss_one (ps_if (pt_cmpR (op_neSame (hu_of hr)) (pe_call GF hr1 rfl DF.mgf DF.fn.kp DF.b .nil pass0 (pa_cons (pv 3) pa_nil)) (pe_lst (pa_cons (pv 0) (pa_cons (pv 1) (pa_cons (pv 0) (pa_cons (pv 0) (pa_cons (pv 0) (pa_cons (pv 1) (pa_cons (pv 0) (pa_cons (pv 0) (pa_cons (pv 0) (pa_cons (pv 0) (pa_cons (pv 0) (pa_cons (pv 0) pa_nil))))))))))))) (nomark _)) (pss_one (ps_ret pe_bl)) pss_nil))))))
      (pss_one (ps_ret pe_bl)))), ?_⟩
    refine ⟨(by show 10 ≤ sizeLine; decide), fun l1 h1 => ?_⟩
    have S1 := up (x := .lst [V.str "malformed", V.str "faulty", V.str "misfit", V.str "badcount", V.str "shape", V.str "other", V.str "wide", V.str "noimage", V.str "noplace", V.str "badline"]) (Same.refl H) h1
    have E1 : upd H l1 (.lst [V.str "malformed", V.str "faulty", V.str "misfit", V.str "badcount", V.str "shape", V.str "other", V.str "wide", V.str "noimage", V.str "noplace", V.str "badline"]) l1 = some (.lst [V.str "malformed", V.str "faulty", V.str "misfit", V.str "badcount", V.str "shape", V.str "other", V.str "wide", V.str "noimage", V.str "noplace", V.str "badline"]) := upd_same
    revert S1 E1
    generalize upd H l1 (.lst [V.str "malformed", V.str "faulty", V.str "misfit", V.str "badcount", V.str "shape", V.str "other", V.str "wide", V.str "noimage", V.str "noplace", V.str "badline"]) = H1
    intro S1 E1
    refine ⟨_, rfl, (by show 5 ≤ sizeLine; decide), fun q1 z1 => ?_⟩
    refine ⟨l1, q1, _, _, [V.str "malformed", V.str "faulty", V.str "misfit", V.str "badcount", V.str "shape", V.str "other", V.str "wide", V.str "noimage", V.str "noplace", V.str "badline", V.str "large", V.str "busy", V.str "idle", V.str "noback", V.str "badtext"], rfl, rfl, (by rw [upd_ne (ne_of_none E1 z1)]; exact E1), upd_same, rfl, (by show 15 ≤ sizeLine; decide), fun l2 h2 => ?_⟩
    have S2 := up (x := .lst [V.str "malformed", V.str "faulty", V.str "misfit", V.str "badcount", V.str "shape", V.str "other", V.str "wide", V.str "noimage", V.str "noplace", V.str "badline", V.str "large", V.str "busy", V.str "idle", V.str "noback", V.str "badtext"]) (up (x := .lst [V.str "large", V.str "busy", V.str "idle", V.str "noback", V.str "badtext"]) S1 z1) h2
    have E2 : upd (upd H1 q1 (.lst [V.str "large", V.str "busy", V.str "idle", V.str "noback", V.str "badtext"])) l2 (.lst [V.str "malformed", V.str "faulty", V.str "misfit", V.str "badcount", V.str "shape", V.str "other", V.str "wide", V.str "noimage", V.str "noplace", V.str "badline", V.str "large", V.str "busy", V.str "idle", V.str "noback", V.str "badtext"]) l2 = some (.lst ((List.range 15).map fun i => V.str (title i))) := upd_same
    revert S2 E2
    generalize upd (upd H1 q1 (.lst [V.str "large", V.str "busy", V.str "idle", V.str "noback", V.str "badtext"])) l2 (.lst [V.str "malformed", V.str "faulty", V.str "misfit", V.str "badcount", V.str "shape", V.str "other", V.str "wide", V.str "noimage", V.str "noplace", V.str "badline", V.str "large", V.str "busy", V.str "idle", V.str "noback", V.str "badtext"]) = H2
    intro S2 E2
    refine ⟨_, rfl, _, rfl, v, .int n, rfl, fun H3 p as s3 n3 e3 x3 => ?_⟩
    refine ⟨_, rfl, _, rfl, v, .int n, rfl, fun H4 p' as' s4 n4 e4 x4 => ?_⟩
    refine ⟨(by show 2 ≤ sizeLine; decide), fun t ht => ?_⟩
    have S5 := up (x := .tup [.ref p, .ref p']) (Same.refl H4) ht
    have E5 : upd H4 t (.tup [.ref p, .ref p']) t = some (.tup [.ref p, .ref p']) := upd_same
    revert S5 E5
    generalize upd H4 t (.tup [.ref p, .ref p']) = G
    intro S5 E5
    have e2 : SqL K G l2 ((List.range 15).map fun i => V.str (title i)) := SqL.of (S5 _ _ (s4 _ _ (s3 _ _ E2)))
    have two : ∀ (i : Nat) x, ([V.ref p, V.ref p'] : List V)[i]? = some x → ∃ (a : Addr) (bs : List Addr), x = .ref a ∧ G a = some (.lst (bs.map V.ref)) ∧ AllX c G v (.int n) bs := fun i x h => by
      match i, h with
      | 0, h =>
        cases h
        exact ⟨p, as, rfl, S5 _ _ (s4 _ _ e3), x3.mono (s4.trans S5)⟩
      | 1, h =>
        cases h
        exact ⟨p', as', rfl, S5 _ _ e4, x4.mono S5⟩
      | n + 2, h => exact absurd h (by simp)
    refine ⟨t, rfl, ⟨_, SqT.of E5⟩, for_tup (K := K) (a := t) (xs := [.ref p, .ref p']) (fun i σ H' => Same G H' ∧ ∃ x : Option V, σ = [some v, some (.int n), some (.ref l2), x, none, none, none]) ⟨Same.refl G, none, rfl⟩
      (fun i σ H' _ q => SqT.of (q.1 _ _ E5)) ?_ ?_⟩
    · rintro i x σ H' hi ⟨sg, y, rfl⟩
      obtain ⟨a, bs, rfl, ea, xa⟩ := two i x hi
      have hq : SqL K H' a (bs.map V.ref) := SqL.of (sg _ _ ea)
      have xb : AllX c H' v (.int n) bs := xa.mono sg
      have e2' := sg.seq e2
      clear hi ea xa
      have at_ : ∀ (j : Nat) z, (bs.map V.ref)[j]? = some z → j < 15 ∧ ∃ b, z = .ref b ∧ bs[j]? = some b := fun j z h => by
        rw [List.getElem?_map] at h
        cases e : bs[j]? with
        | none =>
          rw [e] at h
          cases h
        | some b =>
          rw [e] at h
          have := (List.getElem?_eq_some_iff.mp e).1
          exact ⟨by have := xb.1; omega, b, (Option.some.inj h).symm, rfl⟩
      -- the marks
      refine ⟨_, rfl, a, rfl, ⟨_, hq⟩, fun D1 hD1 => ?_⟩
      refine lc_list (K := K) (a := a) (xs := bs.map V.ref) (fun i H2 => Same H' H2 ∧ Rows H2 D1 i) ⟨up (Same.refl H') hD1, Rows.nil⟩ (fun i H2 _ q => q.1.seq hq) ?_ ?_
      · rintro j z H6 hj ⟨s6, r6⟩
        obtain ⟨hj15, b, rfl, hb⟩ := at_ j z hj
        refine ⟨rfl, yesT ⟨_, rfl, b, j, _, rfl, hj15, (xb.2 j b hb).mono s6, fun H7 q s7 n7 e7 => ?_⟩⟩
        obtain ⟨acc, ha, la, ra⟩ := r6.more s7 n7 e7
        exact ⟨acc, ha, small1000 (by omega), same_more (s6.trans s7) hD1, ra⟩
      rintro H6 ⟨s6, r6⟩
      rw [List.length_map, xb.1] at r6
      refine ⟨15, rfl, by decide, by decide, fun D2 hD2 => ?_⟩
      refine lc_range (lo := 0) (n := 15) (fun i H2 => Same H6 H2 ∧ Rows H2 D2 i) ⟨up (Same.refl H6) hD2, Rows.nil⟩ ?_ ?_
      · rintro j H7 hj ⟨s7, r7⟩
        refine ⟨rfl, yesT ⟨_, rfl, (by show 1 ≤ sizeLine; decide), fun q hq' => ?_⟩⟩
        obtain ⟨acc, ha, la, ra⟩ := r7.more (up (x := .lst [.int (0 + (j : Int))]) (Same.refl H7) hq') hq' (by rw [upd_same, Int.zero_add])
        exact ⟨acc, ha, small1000 (by omega), same_more (s7.trans (up (Same.refl H7) hq')) hD2, ra⟩
      rintro H7 ⟨s7, r7⟩
      refine ⟨dRow, dRow, (r6.mono s7).dp, r7.dp, dRow_shaped, dRow_shaped, _, rfl, ?_⟩
      rw [dRow_eqv]
      refine iteF ?_
      have s8 := s6.trans s7
      have hq8 := s8.seq hq
      have xb8 := xb.mono s8
      have e8 := s8.seq e2'
      have sg8 := sg.trans s8
      clear s6 r6 r7 hD1 hD2 s7 D1 D2 H6 hq xb e2' s8 sg
      revert hq8 xb8 e8 sg8
      generalize H7 = H'
      intro hq xb e2' sg
      -- the texts
      refine ⟨_, rfl, a, rfl, ⟨_, hq⟩, fun D1 hD1 => ?_⟩
      refine lc_list (K := K) (a := a) (xs := bs.map V.ref) (fun i H2 => Same H' H2 ∧ H2 D1 = some (.lst ((List.range i).map fun j => V.str (tld j)))) ⟨up (Same.refl H') hD1, upd_same⟩ (fun i H2 _ q => q.1.seq hq) ?_ ?_
      · rintro j z H6 hj ⟨s6, r6⟩
        obtain ⟨hj15, b, rfl, hb⟩ := at_ j z hj
        refine ⟨rfl, yesT ⟨_, rfl, b, c j, _, spTold (tld j), rfl, A.x j hj15, ⟨j, hj15, rfl, rfl⟩, (xb.2 j b hb).mono s6, flds_told _ _ j, ⟨b, rfl⟩, _, r6, small1000 (by simp; omega), same_more s6 hD1, ?_⟩⟩
        rw [upd_same]
        exact congrArg (fun l => some (HO.lst l)) (range_more (fun j => V.str (tld j)) j)
      rintro H6 ⟨s6, r6⟩
      rw [List.length_map, xb.1] at r6
      have e6 := s6.seq e2'
      refine ⟨_, rfl, l2, rfl, ⟨_, e6⟩, fun D2 hD2 => ?_⟩
      refine lc_list (K := K) (a := l2) (xs := (List.range 15).map fun i => V.str (title i)) (fun i H2 => Same H6 H2 ∧ H2 D2 = some (.lst ((List.range i).map fun j => V.str (tld j)))) ⟨up (Same.refl H6) hD2, upd_same⟩ (fun i H2 _ q => q.1.seq e6) ?_ ?_
      · rintro j z H7 hj ⟨s7, r7⟩
        have hj15 : j < 15 := by
          have := (List.getElem?_eq_some_iff.mp hj).1
          simpa using this
        rw [List.getElem?_map, List.getElem?_range hj15] at hj
        cases hj
        have tl := title_len j
        refine ⟨rfl, yesT ⟨_, rfl, _, _, rfl, rfl, ?_, _, r7, small1000 (by simp; omega), same_more s7 hD2, ?_⟩⟩
        · have : (Str.ofString "refused ").length = 8 := by decide
          rw [this]
          exact Nat.le_of_lt (small1000 (by omega))
        · rw [upd_same]
          exact congrArg (fun l => some (HO.lst l)) (range_more (fun j => V.str (tld j)) j)
      rintro H7 ⟨s7, r7⟩
      rw [List.length_map, List.length_range] at r7
      refine ⟨dTld, dTld, .lst (SqL.of (s7 _ _ r6)) (dp_all _ _ 15 fun i _ => .str _), .lst (SqL.of r7) (dp_all _ _ 15 fun i _ => .str _), dTld_shaped, dTld_shaped, _, rfl, ?_⟩
      rw [dTld_eqv]
      refine iteF ?_
      have s8 := s6.trans s7
      have hq8 := s8.seq hq
      have xb8 := xb.mono s8
      have sg8 := sg.trans s8
      clear s6 r6 r7 hD1 hD2 s7 D1 D2 e6 H6 hq xb e2' s8 sg
      revert hq8 xb8 sg8
      generalize H7 = H'
      intro hq xb sg
      -- the bases
      refine ⟨_, rfl, a, rfl, ⟨_, hq⟩, fun D1 hD1 => ?_⟩
      refine lc_list (K := K) (a := a) (xs := bs.map V.ref) (fun i H2 => Same H' H2 ∧ H2 D1 = some (.lst ((List.replicate i true).map V.bl))) ⟨up (Same.refl H') hD1, upd_same⟩ (fun i H2 _ q => q.1.seq hq) ?_ ?_
      · rintro j z H6 hj ⟨s6, r6⟩
        obtain ⟨hj15, b, rfl, hb⟩ := at_ j z hj
        have ix := (xb.2 j b hb).mono s6
        refine ⟨rfl, yesT ⟨_, rfl, b, c j, _, _, _, true, rfl, .own _, A.x j hj15, ix, A.kitH j hj15, true, rfl, iteT ⟨_, rfl, b, c j, _, _, _, true, rfl, .ty _, A.x j hj15, ix, A.kitV j hj15, _, r6, small1000 (by simp; omega), same_more s6 hD1, ?_⟩⟩⟩
        rw [upd_same, List.replicate_succ', List.map_append]
        rfl
      rintro H6 ⟨s6, r6⟩
      refine ⟨D1, List.replicate (bs.map V.ref).length true, rfl, SqL.of r6, _, rfl, ?_⟩
      have ea : (List.replicate (bs.map V.ref).length true).all id = true := by
        rw [List.all_eq_true]
        intro x hx
        rw [List.eq_of_mem_replicate hx]
        rfl
      rw [ea]
      refine iteF ?_
      have hq8 := s6.seq hq
      have xb8 := xb.mono s6
      have sg8 := sg.trans s6
      clear r6 hD1 D1 hq xb sg s6
      revert hq8 xb8 sg8
      generalize H6 = H'
      intro hq xb sg
      -- the fields
      refine ⟨_, rfl, a, bs, v, .int n, rfl, hq, xb, fun H6 q s6 n6 e6 => ?_⟩
      refine ⟨_, rfl, _, rfl, _, rfl, _, rfl, _, rfl, _, rfl, _, rfl, _, rfl, _, rfl, _, rfl, _, rfl, _, rfl, (by show 12 ≤ sizeLine; decide), fun r hr' => ?_⟩
      refine ⟨q, r, _, rfl, rfl, SqL.of (up (Same.refl H6) hr' _ _ e6), SqL.of upd_same, ?_, false, rfl, iteF ⟨sg.trans (s6.trans (up (Same.refl H6) hr')), _, rfl⟩⟩
      intro z hz
      simp only [List.mem_cons, List.not_mem_nil, or_false] at hz
      rcases hz with rfl | rfl | rfl | rfl | rfl | rfl | rfl | rfl | rfl | rfl | rfl | rfl <;> first | exact hv | exact .inl rfl
    · rintro σ H' ⟨sg, x, rfl⟩
      exact k _ (((((S2.trans s3).trans s4).trans S5)).trans sg)
end
end K1
set_option maxRecDepth 100000
set_option maxHeartbeats 8000000
namespace K1
open PySem PySem.Spec PyProof.Rows L2
def spLaw (K : PySem.W.Frag) : Sp := fun vs H Q _ => ∃ (a : Addr) (ns : List Int), vs = [.ref a] ∧ SqL K H a (ns.map V.int) ∧ ns.length ≤ 63 ∧ ∀ H', Q (.bl true) H'
/-- all but p is kept -/
def Keep (p : Addr) (H H' : Hp) : Prop := ∀ b o, H b = some o → b ≠ p → H' b = some o
theorem Keep.refl (p : Addr) (H : Hp) : Keep p H H := fun _ _ h _ => h
theorem Keep.same {p : Addr} {H H1 H2 : Hp} (k : Keep p H H1) (s : Same H1 H2) : Keep p H H2 := fun b o h n => s b o (k b o h n)
theorem Keep.drew {p : Addr} {H H1 H2 : Hp} (k : Keep p H H1) (d : Drew p H1 H2) : Keep p H H2 := fun b o h n => by
  rw [d.2 b n]
  exact k b o h n
theorem Src.same {p : Addr} {H H' : Hp} (s : Src H p) (k : Same H H') : Src H' p := by
  obtain ⟨a, b, n, h⟩ := s
  exact ⟨a, b, n, k _ _ h⟩
theorem mem_cut {xs : List V} {lo hi : Option Int} {x : V} (h : x ∈ cutV xs lo hi) : x ∈ xs := by
  unfold cutV at h
  first
    | exact List.mem_of_mem_drop (List.mem_of_mem_take h)
    | exact List.mem_of_mem_take (List.mem_of_mem_drop h)
section
variable {P : Program} {w : World} {K : PySem.W.Frag} {mg : Str → Option Value} {base : Heap} {c : Nat → Addr} {cH : Addr}
abbrev Nl : List Str := ["_law_script", "_law_cell", "_law_source_here", "_law_turn", "_law_one"]
theorem scLaw : FnScope Nl ["_law_script"] (defScope sLaw) := ⟨rfl, rfl, rfl, by decide +kernel, rfl, by decide +kernel, by decide +kernel⟩
theorem ok_law {f fS fT fP fR : Addr} {fd fdS fdT fdP fdR : FuncData} (D : Df K mg "law" sLaw ["_law_script"] f fd) (B : Blt mg)
    (DS : Df K mg "_law_source" sSource ["_law_cell"] fS fdS) (DT : Df K mg "_law_take" sTake ["_law_source_here", "_law_bound"] fT fdT) (DP : Df K mg "_law_pick" sPick ["_law_source_here", "_law_options"] fP fdP) (DR : Df K mg "_law_right" sRight ["_law_one", "_law_two"] fR fdR)
    (GS : FnOk P w K mg base CX0 1 fS fdS ["_law_cell"] spSource) (GT : FnOk P w K mg base CX0 2 fT fdT ["_law_source_here", "_law_bound"] spTake) (GP : FnOk P w K mg base CX0 3 fP fdP ["_law_source_here", "_law_options"] (spPick K)) (GR : FnOk P w K mg base CX0 4 fR fdR ["_law_one", "_law_two"] spRight) :
    FnOk P w K mg base CX0 5 f fd ["_law_script"] (spLaw K) := by
  refine D.fn.ok scLaw (fun vs H Q E h => ?_) (fun cdv Ar outer s H vs Q E hr h => ?_)
  · obtain ⟨a, ns, rfl, _⟩ := h
    rfl
  · obtain ⟨a, ns, rfl, hS, hl, k⟩ := h
    have hr1 : Room 2 _ := hr.mono (by decide)
    have hr0 : Room 1 _ := hr.mono (by decide)
    have hr3 : Room 3 _ := hr.mono (by decide)
    refine ⟨_, pss_cons (ps_for PassesOwn.never rfl (pi_list (pe_slice sl_list (pe_op op_catS (pv 0) (pe_lst (pa_cons pe_int pa_nil))) po_none (po_some pe_int))) (pg_name (i := 1) scLaw.nd rfl (Or.inl rfl))
        (pss_cons (ps_set (i := 2) scLaw.nd rfl (Or.inl rfl) (pe_call GS hr0 rfl DS.mgf DS.fn.kp DS.b .nil pass0 (pa_cons (pv 1) pa_nil)))
        (pss_one (ps_for PassesOwn.never rfl (pi_range1 rfl B.range (pa_cons pe_int pa_nil)) (pg_name (i := 3) scLaw.nd rfl (Or.inl rfl))
          (pss_cons (ps_set (i := 4) scLaw.nd rfl (Or.inl rfl) (pe_call GP hr3 rfl DP.mgf DP.fn.kp DP.b .nil pass0 (pa_cons (pv 2) (pa_cons (pe_lst (pa_cons pe_int (pa_cons (pe_un un_neg pe_int) (pa_cons (pe_op op_pow pe_int pe_int) (pa_cons pe_non (pa_cons pe_str (pa_cons (pe_lst (pa_cons pe_int pa_nil)) (pa_cons (pe_tup (pa_cons pe_int (pa_cons pe_int pa_nil))) (pa_cons pe_dnewK (pa_cons pe_bl (pa_cons (pe_call GT hr1 rfl DT.mgf DT.fn.kp DT.b .nil pass0 (pa_cons (pv 2) (pa_cons (pe_op op_pow pe_int pe_int) pa_nil))) pa_nil))))))))))) pa_nil))))
          (pss_one (ps_if (pt_not (pt_val (pe_call GR hr rfl DR.mgf DR.fn.kp DR.b .nil pass0 (pa_cons (pv 4) (pa_cons (pe_call GT hr1 rfl DT.mgf DT.fn.kp DT.b .nil pass0 (pa_cons (pv 2) (pa_cons (pe_op op_pow pe_int pe_int) pa_nil))) pa_nil))))) (pss_one (ps_ret pe_bl)) pss_nil)))))))
      (pss_one (ps_ret pe_bl)), ?_⟩
    refine ⟨_, rfl, (by show 1 ≤ sizeLine; decide), fun l1 h1 => ?_⟩
    refine ⟨a, l1, _, _, rfl, rfl, (up (Same.refl H) h1).seq hS, SqL.of upd_same, ?_, fun l2 h2 => ?_⟩
    · rw [List.length_map]
      exact Nat.le_of_lt (small1000 (by show ns.length + 1 ≤ 1000; omega))
    refine ⟨_, rfl, l2, _, rfl, SqL.of upd_same, fun l3 h3 => ?_⟩
    have allI : ∀ x ∈ cutV (ns.map V.int ++ [V.int 0]) none (some 4), ∃ n : Int, x = .int n := fun x hx => by
      have hx := mem_cut hx
      rw [List.mem_append] at hx
      rcases hx with hx | hx
      · obtain ⟨n, _, e⟩ := List.mem_map.mp hx
        exact ⟨n, e.symm⟩
      · exact ⟨0, List.mem_singleton.mp hx⟩
    have E3 : upd (upd (upd H l1 (.lst [.int 0])) l2 (.lst (ns.map V.int ++ [V.int 0]))) l3 (.lst (cutV (ns.map V.int ++ [V.int 0]) none (some 4))) l3 = some (.lst (cutV (ns.map V.int ++ [V.int 0]) none (some 4))) := upd_same
    revert E3 allI
    generalize upd (upd (upd H l1 (.lst [.int 0])) l2 (.lst (ns.map V.int ++ [V.int 0]))) l3 (.lst (cutV (ns.map V.int ++ [V.int 0]) none (some 4))) = G
    generalize cutV (ns.map V.int ++ [V.int 0]) none (some 4) = xs
    intro allI E3
    refine ⟨l3, rfl, ⟨_, SqL.of E3⟩, for_list (K := K) (a := l3) (xs := xs) (fun i σ H' => Same G H' ∧ ∃ x y z u : Option V, σ = [some (.ref a), x, y, z, u]) ⟨Same.refl G, none, none, none, none, rfl⟩ (fun i σ H' _ q => q.1.seq (SqL.of E3)) ?_ ?_⟩
    · rintro i cell σ H' hi ⟨sg, x, y, z, u, rfl⟩
      obtain ⟨n, rfl⟩ := allI cell (List.mem_of_getElem? hi)
      refine ⟨_, rfl, n, rfl, fun p hp => ?_⟩
      have S1 := up (x := .lst [.int n, .int n, .int 0]) (Same.refl H') hp
      have src : Src (upd H' p (.lst [.int n, .int n, .int 0])) p := ⟨n, n, 0, upd_same⟩
      revert S1 src
      generalize upd H' p (.lst [.int n, .int n, .int 0]) = H1
      intro S1 src
      refine ⟨3, rfl, by decide, by decide, for_range (lo := 0) (n := 3) (fun j σ' H2 => Keep p H1 H2 ∧ Src H2 p ∧ ∃ z u : Option V, σ' = [some (.ref a), some (.int n), some (.ref p), z, u]) ⟨Keep.refl p H1, src, _, _, rfl⟩ ?_ ?_⟩
      · rintro j σ' H2 hj ⟨kp, sr, z, u, rfl⟩
        refine ⟨_, rfl, 1, rfl, _, _, rfl, rfl, ⟨by decide, by decide, by decide⟩, (by show 1 ≤ sizeLine; decide), fun lA hA => ?_⟩
        refine ⟨(by show 2 ≤ sizeLine; decide), fun tA hB => ?_⟩
        intro dA hD
        have S3 := up (x := .dK []) (up (x := .tup [.int 2, .int 3]) (up (x := .lst [.int 1]) (Same.refl H2) hA) hB) hD
        revert S3
        generalize upd (upd (upd H2 lA (.lst [.int 1])) tA (.tup [.int 2, .int 3])) dA (.dK []) = H3
        intro S3
        have sr3 := sr.same S3
        refine ⟨_, rfl, _, _, rfl, rfl, ⟨by decide, by decide, by decide⟩, p, _, rfl, sr3, by decide +kernel, by decide +kernel, fun m H4 _ _ d4 => ?_⟩
        refine ⟨(by show 10 ≤ sizeLine; decide), fun q hq => ?_⟩
        have S5 := fun x => up (x := x) (Same.refl H4) hq
        obtain ⟨s1, s2, s3, hp4⟩ := d4.1
        refine ⟨p, q, _, rfl, Src.same d4.1 (S5 _), SqL.of upd_same, ne_of_none hp4 hq, (by intro z; cases z), (by show 10 < 1073741824; decide), fun v H6 hv d6 => ?_⟩
        have good : flatB v = true ∨ ∃ r, v = .ref r := by
          simp only [List.mem_cons, List.not_mem_nil, or_false] at hv
          rcases hv with rfl | rfl | rfl | rfl | rfl | rfl | rfl | rfl | rfl | rfl <;> first | exact .inl rfl | exact .inr ⟨_, rfl⟩
        refine ⟨_, rfl, _, rfl, _, _, rfl, rfl, ⟨by decide, by decide, by decide⟩, p, _, rfl, d6.1, by decide +kernel, by decide +kernel, fun m' H7 _ _ d7 => ?_⟩
        refine ⟨v, .int m', rfl, good, ⟨m', rfl⟩, fun H8 s8 => ⟨true, rfl, ?_⟩⟩
        refine iteF ⟨((((kp.same S3).drew d4).same (S5 _)).drew d6 |>.drew d7).same s8, Src.same d7.1 s8, _, _, rfl⟩
      · rintro σ' H2 ⟨kp, _, z, u, rfl⟩
        exact ⟨fun b o e => kp b o (S1 _ _ (sg _ _ e)) (ne_of_none (sg _ _ e) hp), _, _, _, _, rfl⟩
    · rintro σ H' ⟨_, x, y, z, u, rfl⟩
      exact k _
end
end K1
set_option maxRecDepth 100000
set_option maxHeartbeats 8000000
namespace K1
open PySem PySem.Spec PyProof.Rows L2
def kitB (K : PySem.W.Frag) (Cs : List Addr) (cH : Addr) : Bool := (List.range 15).all fun i =>
  ((List.range 15).all fun j => PySem.W.kitOne K (.ref (Cs.getD i 0)) (.ref (Cs.getD j 0)) == some (decide (i = j))) &&
    (PySem.W.kitOne K (.ref (Cs.getD i 0)) (.ref cH) == some true && PySem.W.kitOne K (.ref (Cs.getD i 0)) (.type "ValueError") == some true)
theorem kitB_ok {K : PySem.W.Frag} {Cs : List Addr} {cH : Addr} (h : kitB K Cs cH = true) (i : Nat) (hi : i < 15) :
    (∀ j, j < 15 → PySem.W.kitOne K (.ref (Cs.getD i 0)) (.ref (Cs.getD j 0)) = some (decide (i = j))) ∧ PySem.W.kitOne K (.ref (Cs.getD i 0)) (.ref cH) = some true ∧ PySem.W.kitOne K (.ref (Cs.getD i 0)) (.type "ValueError") = some true := by
  have z := List.all_eq_true.mp h i (List.mem_range.mpr hi)
  rw [Bool.and_eq_true, Bool.and_eq_true, beq_iff_eq, beq_iff_eq] at z
  exact ⟨fun j hj => by
    have y := List.all_eq_true.mp z.1 j (List.mem_range.mpr hj)
    rwa [beq_iff_eq] at y, z.2⟩
theorem all_mk {P : Program} {w : World} {K : PySem.W.Frag} {h : Heap} {mg : Str → Option Value} {fa : Addr} (X : K.In h) (G : h.Ns mainGlobals mg) (hfa : mg "law" = some (.ref fa))
    {C0 fT0 : Addr} {fdT0 : FuncData} {fI0 : Addr} {fdI0 : FuncData} {C1 fT1 : Addr} {fdT1 : FuncData} {fI1 : Addr} {fdI1 : FuncData} {C2 fT2 : Addr} {fdT2 : FuncData} {fI2 : Addr} {fdI2 : FuncData} {C3 fT3 : Addr} {fdT3 : FuncData} {fI3 : Addr} {fdI3 : FuncData} {C4 fT4 : Addr} {fdT4 : FuncData} {C5 fT5 : Addr} {fdT5 : FuncData} {fI5 : Addr} {fdI5 : FuncData} {C6 fT6 : Addr} {fdT6 : FuncData} {fI6 : Addr} {fdI6 : FuncData} {C7 fT7 : Addr} {fdT7 : FuncData} {C8 fT8 : Addr} {fdT8 : FuncData} {fI8 : Addr} {fdI8 : FuncData} {C9 fT9 : Addr} {fdT9 : FuncData} {fI9 : Addr} {fdI9 : FuncData} {C10 fT10 : Addr} {fdT10 : FuncData} {fI10 : Addr} {fdI10 : FuncData} {C11 fT11 : Addr} {fdT11 : FuncData} {C12 fT12 : Addr} {fdT12 : FuncData} {C13 fT13 : Addr} {fdT13 : FuncData} {C14 fT14 : Addr} {fdT14 : FuncData} {fI14 : Addr} {fdI14 : FuncData} {cH : Addr} {gM : Addr} {gdM : FuncData} {gS : Addr} {gdS : FuncData} {gT : Addr} {gdT : FuncData} {gP : Addr} {gdP : FuncData} {gK : Addr} {gdK : FuncData} {gA : Addr} {gdA : FuncData} {gN : Addr} {gdN : FuncData} {gF : Addr} {gdF : FuncData} {gR : Addr} {gdR : FuncData} {gL : Addr} {gdL : FuncData}
    (a0 : PySem.W.nsIn K mainGlobals "Malformed" = some (some (.ref C0)))
    (x0 : XCls K C0)
    (i0 : PySem.W.findIn K (.ref C0) "__init__" = some (some (.ref fI0)))
    (ti0 : PySem.W.typeIn K (.ref fI0) = some (.type "function"))
    (fi0 : Fun K "__init__" "Malformed.__init__" ini_Malformed fI0 fdI0)
    (n0_line : PySem.W.findIn K (.ref C0) "line" = some none)
    (n0_column : PySem.W.findIn K (.ref C0) "column" = some none)
    (t0 : PySem.W.findIn K (.ref C0) "told" = some (some (.ref fT0)))
    (tt0 : PySem.W.isFn K (.ref fT0) = true)
    (ft0 : Fun K "told" "Malformed.told" tld_Malformed fT0 fdT0)
    (a1 : PySem.W.nsIn K mainGlobals "Faulty" = some (some (.ref C1)))
    (x1 : XCls K C1)
    (i1 : PySem.W.findIn K (.ref C1) "__init__" = some (some (.ref fI1)))
    (ti1 : PySem.W.typeIn K (.ref fI1) = some (.type "function"))
    (fi1 : Fun K "__init__" "Faulty.__init__" ini_Faulty fI1 fdI1)
    (n1_fault : PySem.W.findIn K (.ref C1) "fault" = some none)
    (t1 : PySem.W.findIn K (.ref C1) "told" = some (some (.ref fT1)))
    (tt1 : PySem.W.isFn K (.ref fT1) = true)
    (ft1 : Fun K "told" "Faulty.told" tld_Faulty fT1 fdT1)
    (a2 : PySem.W.nsIn K mainGlobals "Misfit" = some (some (.ref C2)))
    (x2 : XCls K C2)
    (i2 : PySem.W.findIn K (.ref C2) "__init__" = some (some (.ref fI2)))
    (ti2 : PySem.W.typeIn K (.ref fI2) = some (.type "function"))
    (fi2 : Fun K "__init__" "Misfit.__init__" ini_Misfit fI2 fdI2)
    (n2_place : PySem.W.findIn K (.ref C2) "place" = some none)
    (t2 : PySem.W.findIn K (.ref C2) "told" = some (some (.ref fT2)))
    (tt2 : PySem.W.isFn K (.ref fT2) = true)
    (ft2 : Fun K "told" "Misfit.told" tld_Misfit fT2 fdT2)
    (a3 : PySem.W.nsIn K mainGlobals "BadCount" = some (some (.ref C3)))
    (x3 : XCls K C3)
    (i3 : PySem.W.findIn K (.ref C3) "__init__" = some (some (.ref fI3)))
    (ti3 : PySem.W.typeIn K (.ref fI3) = some (.type "function"))
    (fi3 : Fun K "__init__" "BadCount.__init__" ini_BadCount fI3 fdI3)
    (n3_what : PySem.W.findIn K (.ref C3) "what" = some none)
    (n3_count : PySem.W.findIn K (.ref C3) "count" = some none)
    (t3 : PySem.W.findIn K (.ref C3) "told" = some (some (.ref fT3)))
    (tt3 : PySem.W.isFn K (.ref fT3) = true)
    (ft3 : Fun K "told" "BadCount.told" tld_BadCount fT3 fdT3)
    (a4 : PySem.W.nsIn K mainGlobals "Shape" = some (some (.ref C4)))
    (x4 : XCls K C4)
    (e4 : PySem.W.excIn K C4 [.type "ValueError", .type "Exception", .type "BaseException", .type "object"] "ValueError.__new__" = true)
    (kc4 : PySem.W.keepIn K (.ref C4) = true)
    (t4 : PySem.W.findIn K (.ref C4) "told" = some (some (.ref fT4)))
    (tt4 : PySem.W.isFn K (.ref fT4) = true)
    (ft4 : Fun K "told" "Shape.told" tld_Shape fT4 fdT4)
    (a5 : PySem.W.nsIn K mainGlobals "Other" = some (some (.ref C5)))
    (x5 : XCls K C5)
    (i5 : PySem.W.findIn K (.ref C5) "__init__" = some (some (.ref fI5)))
    (ti5 : PySem.W.typeIn K (.ref fI5) = some (.type "function"))
    (fi5 : Fun K "__init__" "Other.__init__" ini_Other fI5 fdI5)
    (n5_place : PySem.W.findIn K (.ref C5) "place" = some none)
    (t5 : PySem.W.findIn K (.ref C5) "told" = some (some (.ref fT5)))
    (tt5 : PySem.W.isFn K (.ref fT5) = true)
    (ft5 : Fun K "told" "Other.told" tld_Other fT5 fdT5)
    (a6 : PySem.W.nsIn K mainGlobals "Wide" = some (some (.ref C6)))
    (x6 : XCls K C6)
    (i6 : PySem.W.findIn K (.ref C6) "__init__" = some (some (.ref fI6)))
    (ti6 : PySem.W.typeIn K (.ref fI6) = some (.type "function"))
    (fi6 : Fun K "__init__" "Wide.__init__" ini_Wide fI6 fdI6)
    (n6_count : PySem.W.findIn K (.ref C6) "count" = some none)
    (t6 : PySem.W.findIn K (.ref C6) "told" = some (some (.ref fT6)))
    (tt6 : PySem.W.isFn K (.ref fT6) = true)
    (ft6 : Fun K "told" "Wide.told" tld_Wide fT6 fdT6)
    (a7 : PySem.W.nsIn K mainGlobals "NoImage" = some (some (.ref C7)))
    (x7 : XCls K C7)
    (e7 : PySem.W.excIn K C7 [.type "ValueError", .type "Exception", .type "BaseException", .type "object"] "ValueError.__new__" = true)
    (kc7 : PySem.W.keepIn K (.ref C7) = true)
    (t7 : PySem.W.findIn K (.ref C7) "told" = some (some (.ref fT7)))
    (tt7 : PySem.W.isFn K (.ref fT7) = true)
    (ft7 : Fun K "told" "NoImage.told" tld_NoImage fT7 fdT7)
    (a8 : PySem.W.nsIn K mainGlobals "NoPlace" = some (some (.ref C8)))
    (x8 : XCls K C8)
    (i8 : PySem.W.findIn K (.ref C8) "__init__" = some (some (.ref fI8)))
    (ti8 : PySem.W.typeIn K (.ref fI8) = some (.type "function"))
    (fi8 : Fun K "__init__" "NoPlace.__init__" ini_NoPlace fI8 fdI8)
    (n8_place : PySem.W.findIn K (.ref C8) "place" = some none)
    (t8 : PySem.W.findIn K (.ref C8) "told" = some (some (.ref fT8)))
    (tt8 : PySem.W.isFn K (.ref fT8) = true)
    (ft8 : Fun K "told" "NoPlace.told" tld_NoPlace fT8 fdT8)
    (a9 : PySem.W.nsIn K mainGlobals "BadLine" = some (some (.ref C9)))
    (x9 : XCls K C9)
    (i9 : PySem.W.findIn K (.ref C9) "__init__" = some (some (.ref fI9)))
    (ti9 : PySem.W.typeIn K (.ref fI9) = some (.type "function"))
    (fi9 : Fun K "__init__" "BadLine.__init__" ini_BadLine fI9 fdI9)
    (n9_time : PySem.W.findIn K (.ref C9) "time" = some none)
    (t9 : PySem.W.findIn K (.ref C9) "told" = some (some (.ref fT9)))
    (tt9 : PySem.W.isFn K (.ref fT9) = true)
    (ft9 : Fun K "told" "BadLine.told" tld_BadLine fT9 fdT9)
    (a10 : PySem.W.nsIn K mainGlobals "Large" = some (some (.ref C10)))
    (x10 : XCls K C10)
    (i10 : PySem.W.findIn K (.ref C10) "__init__" = some (some (.ref fI10)))
    (ti10 : PySem.W.typeIn K (.ref fI10) = some (.type "function"))
    (fi10 : Fun K "__init__" "Large.__init__" ini_Large fI10 fdI10)
    (n10_count : PySem.W.findIn K (.ref C10) "count" = some none)
    (t10 : PySem.W.findIn K (.ref C10) "told" = some (some (.ref fT10)))
    (tt10 : PySem.W.isFn K (.ref fT10) = true)
    (ft10 : Fun K "told" "Large.told" tld_Large fT10 fdT10)
    (a11 : PySem.W.nsIn K mainGlobals "Busy" = some (some (.ref C11)))
    (x11 : XCls K C11)
    (e11 : PySem.W.excIn K C11 [.type "ValueError", .type "Exception", .type "BaseException", .type "object"] "ValueError.__new__" = true)
    (kc11 : PySem.W.keepIn K (.ref C11) = true)
    (t11 : PySem.W.findIn K (.ref C11) "told" = some (some (.ref fT11)))
    (tt11 : PySem.W.isFn K (.ref fT11) = true)
    (ft11 : Fun K "told" "Busy.told" tld_Busy fT11 fdT11)
    (a12 : PySem.W.nsIn K mainGlobals "Idle" = some (some (.ref C12)))
    (x12 : XCls K C12)
    (e12 : PySem.W.excIn K C12 [.type "ValueError", .type "Exception", .type "BaseException", .type "object"] "ValueError.__new__" = true)
    (kc12 : PySem.W.keepIn K (.ref C12) = true)
    (t12 : PySem.W.findIn K (.ref C12) "told" = some (some (.ref fT12)))
    (tt12 : PySem.W.isFn K (.ref fT12) = true)
    (ft12 : Fun K "told" "Idle.told" tld_Idle fT12 fdT12)
    (a13 : PySem.W.nsIn K mainGlobals "NoBack" = some (some (.ref C13)))
    (x13 : XCls K C13)
    (e13 : PySem.W.excIn K C13 [.type "ValueError", .type "Exception", .type "BaseException", .type "object"] "ValueError.__new__" = true)
    (kc13 : PySem.W.keepIn K (.ref C13) = true)
    (t13 : PySem.W.findIn K (.ref C13) "told" = some (some (.ref fT13)))
    (tt13 : PySem.W.isFn K (.ref fT13) = true)
    (ft13 : Fun K "told" "NoBack.told" tld_NoBack fT13 fdT13)
    (a14 : PySem.W.nsIn K mainGlobals "BadText" = some (some (.ref C14)))
    (x14 : XCls K C14)
    (i14 : PySem.W.findIn K (.ref C14) "__init__" = some (some (.ref fI14)))
    (ti14 : PySem.W.typeIn K (.ref fI14) = some (.type "function"))
    (fi14 : Fun K "__init__" "BadText.__init__" ini_BadText fI14 fdI14)
    (n14_place : PySem.W.findIn K (.ref C14) "place" = some none)
    (t14 : PySem.W.findIn K (.ref C14) "told" = some (some (.ref fT14)))
    (tt14 : PySem.W.isFn K (.ref fT14) = true)
    (ft14 : Fun K "told" "BadText.told" tld_BadText fT14 fdT14)
    (aH : PySem.W.nsIn K mainGlobals "HeapError" = some (some (.ref cH)))
    (kb : kitB K [C0, C1, C2, C3, C4, C5, C6, C7, C8, C9, C10, C11, C12, C13, C14] cH = true)
    (mM : PySem.W.nsIn K mainGlobals "_law_mixed" = some (some (.ref gM)))
    (dM : Fun K "_law_mixed" "_law_mixed" sMixed gM gdM)
    (mS : PySem.W.nsIn K mainGlobals "_law_source" = some (some (.ref gS)))
    (dS : Fun K "_law_source" "_law_source" sSource gS gdS)
    (mT : PySem.W.nsIn K mainGlobals "_law_take" = some (some (.ref gT)))
    (dT : Fun K "_law_take" "_law_take" sTake gT gdT)
    (mP : PySem.W.nsIn K mainGlobals "_law_pick" = some (some (.ref gP)))
    (dP : Fun K "_law_pick" "_law_pick" sPick gP gdP)
    (mK : PySem.W.nsIn K mainGlobals "_law_marks" = some (some (.ref gK)))
    (dK : Fun K "_law_marks" "_law_marks" sMarks gK gdK)
    (mA : PySem.W.nsIn K mainGlobals "_law_all" = some (some (.ref gA)))
    (dA : Fun K "_law_all" "_law_all" sAll gA gdA)
    (mN : PySem.W.nsIn K mainGlobals "_law_all_named" = some (some (.ref gN)))
    (dN : Fun K "_law_all_named" "_law_all_named" sNamed gN gdN)
    (mF : PySem.W.nsIn K mainGlobals "_law_fields" = some (some (.ref gF)))
    (dF : Fun K "_law_fields" "_law_fields" sFields gF gdF)
    (mR : PySem.W.nsIn K mainGlobals "_law_right" = some (some (.ref gR)))
    (dR : Fun K "_law_right" "_law_right" sRight gR gdR)
    (mL : PySem.W.nsIn K mainGlobals "law" = some (some (.ref gL)))
    (dL : Fun K "law" "law" sLaw gL gdL)
    (zint : PySem.W.nsIn K mainGlobals "int" = some none)
    (zlen : PySem.W.nsIn K mainGlobals "len" = some none)
    (zrange : PySem.W.nsIn K mainGlobals "range" = some none)
    (zisinst : PySem.W.nsIn K mainGlobals "isinstance" = some none)
    (zenum : PySem.W.nsIn K mainGlobals "enumerate" = some none)
    (zall : PySem.W.nsIn K mainGlobals "all" = some none)
    (zve : PySem.W.nsIn K mainGlobals "ValueError" = some none)
    : ∃ fd : FuncData, (∀ (s : Shared) (v : Value), BindsTo s fd ⟨[v], []⟩ [("_law_script", v)]) ∧ ∀ base : Heap, K.In base → base.Ns mainGlobals mg → FnOk P w K mg base CX0 5 fa fd ["_law_script"] (spLaw K) := by
  have e : gL = fa := by
    have z := hfa.symm.trans (PySem.W.mg_of X G mL)
    cases z
    rfl
  subst e
  have DM : Df K mg "_law_mixed" sMixed ["_law_cell", "_law_draw"] gM gdM := ⟨dM, PySem.W.mg_of X G mM, dM.binds (ps := ["_law_cell", "_law_draw"]) fun _ _ _ _ _ _ us hl => match us, hl with | [_, _], _ => rfl⟩
  have DS : Df K mg "_law_source" sSource ["_law_cell"] gS gdS := ⟨dS, PySem.W.mg_of X G mS, dS.binds (ps := ["_law_cell"]) fun _ _ _ _ _ _ us hl => match us, hl with | [_], _ => rfl⟩
  have DT : Df K mg "_law_take" sTake ["_law_source_here", "_law_bound"] gT gdT := ⟨dT, PySem.W.mg_of X G mT, dT.binds (ps := ["_law_source_here", "_law_bound"]) fun _ _ _ _ _ _ us hl => match us, hl with | [_, _], _ => rfl⟩
  have DP : Df K mg "_law_pick" sPick ["_law_source_here", "_law_options"] gP gdP := ⟨dP, PySem.W.mg_of X G mP, dP.binds (ps := ["_law_source_here", "_law_options"]) fun _ _ _ _ _ _ us hl => match us, hl with | [_, _], _ => rfl⟩
  have DK : Df K mg "_law_marks" sMarks ["_law_e"] gK gdK := ⟨dK, PySem.W.mg_of X G mK, dK.binds (ps := ["_law_e"]) fun _ _ _ _ _ _ us hl => match us, hl with | [_], _ => rfl⟩
  have DA : Df K mg "_law_all" sAll ["_law_one", "_law_two"] gA gdA := ⟨dA, PySem.W.mg_of X G mA, dA.binds (ps := ["_law_one", "_law_two"]) fun _ _ _ _ _ _ us hl => match us, hl with | [_, _], _ => rfl⟩
  have DN : Df K mg "_law_all_named" sNamed ["_law_one", "_law_two"] gN gdN := ⟨dN, PySem.W.mg_of X G mN, dN.binds (ps := ["_law_one", "_law_two"]) fun _ _ _ _ _ _ us hl => match us, hl with | [_, _], _ => rfl⟩
  have DF : Df K mg "_law_fields" sFields ["_law_some"] gF gdF := ⟨dF, PySem.W.mg_of X G mF, dF.binds (ps := ["_law_some"]) fun _ _ _ _ _ _ us hl => match us, hl with | [_], _ => rfl⟩
  have DR : Df K mg "_law_right" sRight ["_law_one", "_law_two"] gR gdR := ⟨dR, PySem.W.mg_of X G mR, dR.binds (ps := ["_law_one", "_law_two"]) fun _ _ _ _ _ _ us hl => match us, hl with | [_, _], _ => rfl⟩
  have DL : Df K mg "law" sLaw ["_law_script"] gL gdL := ⟨dL, PySem.W.mg_of X G mL, dL.binds (ps := ["_law_script"]) fun _ _ _ _ _ _ us hl => match us, hl with | [_], _ => rfl⟩
  have B : Blt mg := ⟨PySem.W.mg_none_of X G zint, PySem.W.mg_none_of X G zlen, PySem.W.mg_none_of X G zrange, PySem.W.mg_none_of X G zisinst, PySem.W.mg_none_of X G zenum, PySem.W.mg_none_of X G zall, PySem.W.mg_none_of X G zve⟩
  obtain ⟨oc, od, kV, doc, pm, an, cdv, ct, osl, rfl, lk, hcd⟩ := dL.ex
  refine ⟨PySem.W.fnOf "law" "law" (defArgs sLaw) (defBody sLaw) (defScope sLaw) .none kV doc pm an cdv ct, fun s v => .of_eq rfl, fun base _ _ => ?_⟩
  let c : Nat → Addr := fun i => [C0, C1, C2, C3, C4, C5, C6, C7, C8, C9, C10, C11, C12, C13, C14].getD i 0
  have A : Ax P w K mg base c cH := by
    refine { x := ?_, kit := fun i j hi hj => (kitB_ok kb i hi).1 j hj, kitH := fun i hi => (kitB_ok kb i hi).2.1, kitV := fun i hi => (kitB_ok kb i hi).2.2, mgH := PySem.W.mg_of X G aH, mg0 := PySem.W.mg_of X G a0, p0 := ⟨⟨fI0, fdI0, ["self", "line", "column"], i0, ti0, init_Malformed fi0 x0.o n0_line n0_column, kbn_of fi0 (fun _ _ _ _ _ _ us ws l1 l2 => match us, ws, l1, l2 with | [_, _, _], [], _, _ => rfl)⟩, x0.o, PySem.W.mg_of X G a0⟩, k0 := ⟨⟨fI0, fdI0, ["self", "line", "column"], i0, ti0, init_Malformed fi0 x0.o n0_line n0_column, kbn_of fi0 (fun _ _ _ _ _ _ us ws l1 l2 => match us, ws, l1, l2 with | [_], [_, _], _, _ => rfl)⟩, x0.o, PySem.W.mg_of X G a0⟩, n0_line := n0_line, n0_column := n0_column, t0 := ⟨fT0, fdT0, ["self"], ⟨t0, tt0, ft0.kp⟩, told_Malformed ft0, ft0.binds (ps := ["self"]) (fun _ _ _ _ _ _ us hl => match us, hl with | [_], _ => rfl)⟩, mg1 := PySem.W.mg_of X G a1, p1 := ⟨⟨fI1, fdI1, ["self", "fault"], i1, ti1, init_Faulty fi1 x1.o n1_fault, kbn_of fi1 (fun _ _ _ _ _ _ us ws l1 l2 => match us, ws, l1, l2 with | [_, _], [], _, _ => rfl)⟩, x1.o, PySem.W.mg_of X G a1⟩, k1 := ⟨⟨fI1, fdI1, ["self", "fault"], i1, ti1, init_Faulty fi1 x1.o n1_fault, kbn_of fi1 (fun _ _ _ _ _ _ us ws l1 l2 => match us, ws, l1, l2 with | [_], [_], _, _ => rfl)⟩, x1.o, PySem.W.mg_of X G a1⟩, n1_fault := n1_fault, t1 := ⟨fT1, fdT1, ["self"], ⟨t1, tt1, ft1.kp⟩, told_Faulty ft1, ft1.binds (ps := ["self"]) (fun _ _ _ _ _ _ us hl => match us, hl with | [_], _ => rfl)⟩, mg2 := PySem.W.mg_of X G a2, p2 := ⟨⟨fI2, fdI2, ["self", "place"], i2, ti2, init_Misfit fi2 x2.o n2_place, kbn_of fi2 (fun _ _ _ _ _ _ us ws l1 l2 => match us, ws, l1, l2 with | [_, _], [], _, _ => rfl)⟩, x2.o, PySem.W.mg_of X G a2⟩, k2 := ⟨⟨fI2, fdI2, ["self", "place"], i2, ti2, init_Misfit fi2 x2.o n2_place, kbn_of fi2 (fun _ _ _ _ _ _ us ws l1 l2 => match us, ws, l1, l2 with | [_], [_], _, _ => rfl)⟩, x2.o, PySem.W.mg_of X G a2⟩, n2_place := n2_place, t2 := ⟨fT2, fdT2, ["self"], ⟨t2, tt2, ft2.kp⟩, told_Misfit ft2, ft2.binds (ps := ["self"]) (fun _ _ _ _ _ _ us hl => match us, hl with | [_], _ => rfl)⟩, mg3 := PySem.W.mg_of X G a3, p3 := ⟨⟨fI3, fdI3, ["self", "what", "count"], i3, ti3, init_BadCount fi3 x3.o n3_what n3_count, kbn_of fi3 (fun _ _ _ _ _ _ us ws l1 l2 => match us, ws, l1, l2 with | [_, _, _], [], _, _ => rfl)⟩, x3.o, PySem.W.mg_of X G a3⟩, k3 := ⟨⟨fI3, fdI3, ["self", "what", "count"], i3, ti3, init_BadCount fi3 x3.o n3_what n3_count, kbn_of fi3 (fun _ _ _ _ _ _ us ws l1 l2 => match us, ws, l1, l2 with | [_], [_, _], _, _ => rfl)⟩, x3.o, PySem.W.mg_of X G a3⟩, n3_what := n3_what, n3_count := n3_count, t3 := ⟨fT3, fdT3, ["self"], ⟨t3, tt3, ft3.kp⟩, told_BadCount ft3, ft3.binds (ps := ["self"]) (fun _ _ _ _ _ _ us hl => match us, hl with | [_], _ => rfl)⟩, mg4 := PySem.W.mg_of X G a4, p4 := ⟨e4, kc4, PySem.W.mg_of X G a4⟩, t4 := ⟨fT4, fdT4, ["self"], ⟨t4, tt4, ft4.kp⟩, told_Shape ft4, ft4.binds (ps := ["self"]) (fun _ _ _ _ _ _ us hl => match us, hl with | [_], _ => rfl)⟩, mg5 := PySem.W.mg_of X G a5, p5 := ⟨⟨fI5, fdI5, ["self", "place"], i5, ti5, init_Other fi5 x5.o n5_place, kbn_of fi5 (fun _ _ _ _ _ _ us ws l1 l2 => match us, ws, l1, l2 with | [_, _], [], _, _ => rfl)⟩, x5.o, PySem.W.mg_of X G a5⟩, k5 := ⟨⟨fI5, fdI5, ["self", "place"], i5, ti5, init_Other fi5 x5.o n5_place, kbn_of fi5 (fun _ _ _ _ _ _ us ws l1 l2 => match us, ws, l1, l2 with | [_], [_], _, _ => rfl)⟩, x5.o, PySem.W.mg_of X G a5⟩, n5_place := n5_place, t5 := ⟨fT5, fdT5, ["self"], ⟨t5, tt5, ft5.kp⟩, told_Other ft5, ft5.binds (ps := ["self"]) (fun _ _ _ _ _ _ us hl => match us, hl with | [_], _ => rfl)⟩, mg6 := PySem.W.mg_of X G a6, p6 := ⟨⟨fI6, fdI6, ["self", "count"], i6, ti6, init_Wide fi6 x6.o n6_count, kbn_of fi6 (fun _ _ _ _ _ _ us ws l1 l2 => match us, ws, l1, l2 with | [_, _], [], _, _ => rfl)⟩, x6.o, PySem.W.mg_of X G a6⟩, k6 := ⟨⟨fI6, fdI6, ["self", "count"], i6, ti6, init_Wide fi6 x6.o n6_count, kbn_of fi6 (fun _ _ _ _ _ _ us ws l1 l2 => match us, ws, l1, l2 with | [_], [_], _, _ => rfl)⟩, x6.o, PySem.W.mg_of X G a6⟩, n6_count := n6_count, t6 := ⟨fT6, fdT6, ["self"], ⟨t6, tt6, ft6.kp⟩, told_Wide ft6, ft6.binds (ps := ["self"]) (fun _ _ _ _ _ _ us hl => match us, hl with | [_], _ => rfl)⟩, mg7 := PySem.W.mg_of X G a7, p7 := ⟨e7, kc7, PySem.W.mg_of X G a7⟩, t7 := ⟨fT7, fdT7, ["self"], ⟨t7, tt7, ft7.kp⟩, told_NoImage ft7, ft7.binds (ps := ["self"]) (fun _ _ _ _ _ _ us hl => match us, hl with | [_], _ => rfl)⟩, mg8 := PySem.W.mg_of X G a8, p8 := ⟨⟨fI8, fdI8, ["self", "place"], i8, ti8, init_NoPlace fi8 x8.o n8_place, kbn_of fi8 (fun _ _ _ _ _ _ us ws l1 l2 => match us, ws, l1, l2 with | [_, _], [], _, _ => rfl)⟩, x8.o, PySem.W.mg_of X G a8⟩, k8 := ⟨⟨fI8, fdI8, ["self", "place"], i8, ti8, init_NoPlace fi8 x8.o n8_place, kbn_of fi8 (fun _ _ _ _ _ _ us ws l1 l2 => match us, ws, l1, l2 with | [_], [_], _, _ => rfl)⟩, x8.o, PySem.W.mg_of X G a8⟩, n8_place := n8_place, t8 := ⟨fT8, fdT8, ["self"], ⟨t8, tt8, ft8.kp⟩, told_NoPlace ft8, ft8.binds (ps := ["self"]) (fun _ _ _ _ _ _ us hl => match us, hl with | [_], _ => rfl)⟩, mg9 := PySem.W.mg_of X G a9, p9 := ⟨⟨fI9, fdI9, ["self", "time"], i9, ti9, init_BadLine fi9 x9.o n9_time, kbn_of fi9 (fun _ _ _ _ _ _ us ws l1 l2 => match us, ws, l1, l2 with | [_, _], [], _, _ => rfl)⟩, x9.o, PySem.W.mg_of X G a9⟩, k9 := ⟨⟨fI9, fdI9, ["self", "time"], i9, ti9, init_BadLine fi9 x9.o n9_time, kbn_of fi9 (fun _ _ _ _ _ _ us ws l1 l2 => match us, ws, l1, l2 with | [_], [_], _, _ => rfl)⟩, x9.o, PySem.W.mg_of X G a9⟩, n9_time := n9_time, t9 := ⟨fT9, fdT9, ["self"], ⟨t9, tt9, ft9.kp⟩, told_BadLine ft9, ft9.binds (ps := ["self"]) (fun _ _ _ _ _ _ us hl => match us, hl with | [_], _ => rfl)⟩, mg10 := PySem.W.mg_of X G a10, p10 := ⟨⟨fI10, fdI10, ["self", "count"], i10, ti10, init_Large fi10 x10.o n10_count, kbn_of fi10 (fun _ _ _ _ _ _ us ws l1 l2 => match us, ws, l1, l2 with | [_, _], [], _, _ => rfl)⟩, x10.o, PySem.W.mg_of X G a10⟩, k10 := ⟨⟨fI10, fdI10, ["self", "count"], i10, ti10, init_Large fi10 x10.o n10_count, kbn_of fi10 (fun _ _ _ _ _ _ us ws l1 l2 => match us, ws, l1, l2 with | [_], [_], _, _ => rfl)⟩, x10.o, PySem.W.mg_of X G a10⟩, n10_count := n10_count, t10 := ⟨fT10, fdT10, ["self"], ⟨t10, tt10, ft10.kp⟩, told_Large ft10, ft10.binds (ps := ["self"]) (fun _ _ _ _ _ _ us hl => match us, hl with | [_], _ => rfl)⟩, mg11 := PySem.W.mg_of X G a11, p11 := ⟨e11, kc11, PySem.W.mg_of X G a11⟩, t11 := ⟨fT11, fdT11, ["self"], ⟨t11, tt11, ft11.kp⟩, told_Busy ft11, ft11.binds (ps := ["self"]) (fun _ _ _ _ _ _ us hl => match us, hl with | [_], _ => rfl)⟩, mg12 := PySem.W.mg_of X G a12, p12 := ⟨e12, kc12, PySem.W.mg_of X G a12⟩, t12 := ⟨fT12, fdT12, ["self"], ⟨t12, tt12, ft12.kp⟩, told_Idle ft12, ft12.binds (ps := ["self"]) (fun _ _ _ _ _ _ us hl => match us, hl with | [_], _ => rfl)⟩, mg13 := PySem.W.mg_of X G a13, p13 := ⟨e13, kc13, PySem.W.mg_of X G a13⟩, t13 := ⟨fT13, fdT13, ["self"], ⟨t13, tt13, ft13.kp⟩, told_NoBack ft13, ft13.binds (ps := ["self"]) (fun _ _ _ _ _ _ us hl => match us, hl with | [_], _ => rfl)⟩, mg14 := PySem.W.mg_of X G a14, p14 := ⟨⟨fI14, fdI14, ["self", "place"], i14, ti14, init_BadText fi14 x14.o n14_place, kbn_of fi14 (fun _ _ _ _ _ _ us ws l1 l2 => match us, ws, l1, l2 with | [_, _], [], _, _ => rfl)⟩, x14.o, PySem.W.mg_of X G a14⟩, k14 := ⟨⟨fI14, fdI14, ["self", "place"], i14, ti14, init_BadText fi14 x14.o n14_place, kbn_of fi14 (fun _ _ _ _ _ _ us ws l1 l2 => match us, ws, l1, l2 with | [_], [_], _, _ => rfl)⟩, x14.o, PySem.W.mg_of X G a14⟩, n14_place := n14_place, t14 := ⟨fT14, fdT14, ["self"], ⟨t14, tt14, ft14.kp⟩, told_BadText ft14, ft14.binds (ps := ["self"]) (fun _ _ _ _ _ _ us hl => match us, hl with | [_], _ => rfl)⟩ }
    intro i hi
    match i, hi with
    | 0, _ => exact x0
    | 1, _ => exact x1
    | 2, _ => exact x2
    | 3, _ => exact x3
    | 4, _ => exact x4
    | 5, _ => exact x5
    | 6, _ => exact x6
    | 7, _ => exact x7
    | 8, _ => exact x8
    | 9, _ => exact x9
    | 10, _ => exact x10
    | 11, _ => exact x11
    | 12, _ => exact x12
    | 13, _ => exact x13
    | 14, _ => exact x14
    | n + 15, h => exact absurd h (by omega)
  have GT : FnOk P w K mg base CX0 2 gT gdT ["_law_source_here", "_law_bound"] spTake := ok_take DT DM B
  exact ok_law DL B DS DT DP DR (ok_source DS) GT (ok_pick DP DT GT B) (ok_right DR B A DK DA DN DF)
theorem walk {l : PySem.W.OpenLaw} {q : Program} {loose : List Str} {XP : (Str → Option Value) → Heap → Prop} {YP : World → Heap → Prop} {d : DefRec} {K : Params → PySem.W.Frag} (hn : l.most = some 63) (hdf : d.params.defaults = [])
    (hY : ∀ (w : World) (h : Heap), YP w h → (K w.params).In h)
    (F : ∀ (w : World) (mg : Str → Option Value) (fa : Addr) (h : Heap), (K w.params).In h → h.Ns mainGlobals mg → mg d.name = some (.ref fa) →
      ∃ fd : FuncData, (∀ (s : Shared) (u : Value), BindsTo s fd ⟨[u], []⟩ [("_law_script", u)]) ∧ ∀ base : Heap, (K w.params).In base → base.Ns mainGlobals mg → FnOk l.prog w (K w.params) mg base CX0 5 fa fd ["_law_script"] (spLaw (K w.params))) :
    PySem.W.WalkO q loose XP YP l.row.toRowW d [] (fun f vs => PySem.call f vs) :=
  L2.walk_of (n := 63) (k := 5) (x := "_law_script") (CX := fun _ => CX0) (sp := fun w => spLaw (K w.params)) hn (by decide) hdf ⟨rfl, by decide, by decide⟩ hY F (fun _ _ a ns hl _ hS => ⟨a, ns, rfl, hS, hl, fun _ => rfl⟩) fun _ _ _ _ _ z => z
end K1

open PySem PySem.W PyProof.Rows in
set_option maxRecDepth 100000 in
set_option maxHeartbeats 0 in
theorem PySem.Challenge.cw_lastheap_k01_errors_of_the_package_holds : PySem.Challenge.rw_lastheap_k01_errors_of_the_package.Holds := by
  w_on; o_law; k_head; (case hw => w_witness2)
  k_fill
  refine K1.walk (l := PySem.Challenge.rw_lastheap_k01_errors_of_the_package) rfl rfl (fun w h Y => PySem.W.kIn_of Y) ?F
  case F =>
    intro w mg fa h KX G hmg
    refine' K1.all_mk KX G hmg ?a0 ?x0 ?i0 ?ti0 ?fi0 ?n0_line ?n0_column ?t0 ?tt0 ?ft0 ?a1 ?x1 ?i1 ?ti1 ?fi1 ?n1_fault ?t1 ?tt1 ?ft1 ?a2 ?x2 ?i2 ?ti2 ?fi2 ?n2_place ?t2 ?tt2 ?ft2 ?a3 ?x3 ?i3 ?ti3 ?fi3 ?n3_what ?n3_count ?t3 ?tt3 ?ft3 ?a4 ?x4 ?e4 ?kc4 ?t4 ?tt4 ?ft4 ?a5 ?x5 ?i5 ?ti5 ?fi5 ?n5_place ?t5 ?tt5 ?ft5 ?a6 ?x6 ?i6 ?ti6 ?fi6 ?n6_count ?t6 ?tt6 ?ft6 ?a7 ?x7 ?e7 ?kc7 ?t7 ?tt7 ?ft7 ?a8 ?x8 ?i8 ?ti8 ?fi8 ?n8_place ?t8 ?tt8 ?ft8 ?a9 ?x9 ?i9 ?ti9 ?fi9 ?n9_time ?t9 ?tt9 ?ft9 ?a10 ?x10 ?i10 ?ti10 ?fi10 ?n10_count ?t10 ?tt10 ?ft10 ?a11 ?x11 ?e11 ?kc11 ?t11 ?tt11 ?ft11 ?a12 ?x12 ?e12 ?kc12 ?t12 ?tt12 ?ft12 ?a13 ?x13 ?e13 ?kc13 ?t13 ?tt13 ?ft13 ?a14 ?x14 ?i14 ?ti14 ?fi14 ?n14_place ?t14 ?tt14 ?ft14 ?aH ?kb ?mM ?dM ?mS ?dS ?mT ?dT ?mP ?dP ?mK ?dK ?mA ?dA ?mN ?dN ?mF ?dF ?mR ?dR ?mL ?dL ?zint ?zlen ?zrange ?zisinst ?zenum ?zall ?zve
    (case a0 => k_is)
    (case x0 => exact ⟨⟨⟨_, _, _, _, _, _, _, _, _, _, _, _, _, _, _, by k_is, by decide +kernel⟩, by k_is, by k_is, by k_is, by k_is⟩, by k_is, by k_is, by k_is, by k_is, by k_is, by k_is, by k_is⟩)
    (case i0 => k_is)
    (case ti0 => k_is)
    (case fi0 => exact L2.fun_mk (by k_is) (by k_is) (by k_is))
    (case n0_line => k_is)
    (case n0_column => k_is)
    (case t0 => k_is)
    (case tt0 => k_is)
    (case ft0 => exact L2.fun_mk (by k_is) (by k_is) (by k_is))
    (case a1 => k_is)
    (case x1 => exact ⟨⟨⟨_, _, _, _, _, _, _, _, _, _, _, _, _, _, _, by k_is, by decide +kernel⟩, by k_is, by k_is, by k_is, by k_is⟩, by k_is, by k_is, by k_is, by k_is, by k_is, by k_is, by k_is⟩)
    (case i1 => k_is)
    (case ti1 => k_is)
    (case fi1 => exact L2.fun_mk (by k_is) (by k_is) (by k_is))
    (case n1_fault => k_is)
    (case t1 => k_is)
    (case tt1 => k_is)
    (case ft1 => exact L2.fun_mk (by k_is) (by k_is) (by k_is))
    (case a2 => k_is)
    (case x2 => exact ⟨⟨⟨_, _, _, _, _, _, _, _, _, _, _, _, _, _, _, by k_is, by decide +kernel⟩, by k_is, by k_is, by k_is, by k_is⟩, by k_is, by k_is, by k_is, by k_is, by k_is, by k_is, by k_is⟩)
    (case i2 => k_is)
    (case ti2 => k_is)
    (case fi2 => exact L2.fun_mk (by k_is) (by k_is) (by k_is))
    (case n2_place => k_is)
    (case t2 => k_is)
    (case tt2 => k_is)
    (case ft2 => exact L2.fun_mk (by k_is) (by k_is) (by k_is))
    (case a3 => k_is)
    (case x3 => exact ⟨⟨⟨_, _, _, _, _, _, _, _, _, _, _, _, _, _, _, by k_is, by decide +kernel⟩, by k_is, by k_is, by k_is, by k_is⟩, by k_is, by k_is, by k_is, by k_is, by k_is, by k_is, by k_is⟩)
    (case i3 => k_is)
    (case ti3 => k_is)
    (case fi3 => exact L2.fun_mk (by k_is) (by k_is) (by k_is))
    (case n3_what => k_is)
    (case n3_count => k_is)
    (case t3 => k_is)
    (case tt3 => k_is)
    (case ft3 => exact L2.fun_mk (by k_is) (by k_is) (by k_is))
    (case a4 => k_is)
    (case x4 => exact ⟨⟨⟨_, _, _, _, _, _, _, _, _, _, _, _, _, _, _, by k_is, by decide +kernel⟩, by k_is, by k_is, by k_is, by k_is⟩, by k_is, by k_is, by k_is, by k_is, by k_is, by k_is, by k_is⟩)
    (case e4 => k_exc)
    (case kc4 => k_is)
    (case t4 => k_is)
    (case tt4 => k_is)
    (case ft4 => exact L2.fun_mk (by k_is) (by k_is) (by k_is))
    (case a5 => k_is)
    (case x5 => exact ⟨⟨⟨_, _, _, _, _, _, _, _, _, _, _, _, _, _, _, by k_is, by decide +kernel⟩, by k_is, by k_is, by k_is, by k_is⟩, by k_is, by k_is, by k_is, by k_is, by k_is, by k_is, by k_is⟩)
    (case i5 => k_is)
    (case ti5 => k_is)
    (case fi5 => exact L2.fun_mk (by k_is) (by k_is) (by k_is))
    (case n5_place => k_is)
    (case t5 => k_is)
    (case tt5 => k_is)
    (case ft5 => exact L2.fun_mk (by k_is) (by k_is) (by k_is))
    (case a6 => k_is)
    (case x6 => exact ⟨⟨⟨_, _, _, _, _, _, _, _, _, _, _, _, _, _, _, by k_is, by decide +kernel⟩, by k_is, by k_is, by k_is, by k_is⟩, by k_is, by k_is, by k_is, by k_is, by k_is, by k_is, by k_is⟩)
    (case i6 => k_is)
    (case ti6 => k_is)
    (case fi6 => exact L2.fun_mk (by k_is) (by k_is) (by k_is))
    (case n6_count => k_is)
    (case t6 => k_is)
    (case tt6 => k_is)
    (case ft6 => exact L2.fun_mk (by k_is) (by k_is) (by k_is))
    (case a7 => k_is)
    (case x7 => exact ⟨⟨⟨_, _, _, _, _, _, _, _, _, _, _, _, _, _, _, by k_is, by decide +kernel⟩, by k_is, by k_is, by k_is, by k_is⟩, by k_is, by k_is, by k_is, by k_is, by k_is, by k_is, by k_is⟩)
    (case e7 => k_exc)
    (case kc7 => k_is)
    (case t7 => k_is)
    (case tt7 => k_is)
    (case ft7 => exact L2.fun_mk (by k_is) (by k_is) (by k_is))
    (case a8 => k_is)
    (case x8 => exact ⟨⟨⟨_, _, _, _, _, _, _, _, _, _, _, _, _, _, _, by k_is, by decide +kernel⟩, by k_is, by k_is, by k_is, by k_is⟩, by k_is, by k_is, by k_is, by k_is, by k_is, by k_is, by k_is⟩)
    (case i8 => k_is)
    (case ti8 => k_is)
    (case fi8 => exact L2.fun_mk (by k_is) (by k_is) (by k_is))
    (case n8_place => k_is)
    (case t8 => k_is)
    (case tt8 => k_is)
    (case ft8 => exact L2.fun_mk (by k_is) (by k_is) (by k_is))
    (case a9 => k_is)
    (case x9 => exact ⟨⟨⟨_, _, _, _, _, _, _, _, _, _, _, _, _, _, _, by k_is, by decide +kernel⟩, by k_is, by k_is, by k_is, by k_is⟩, by k_is, by k_is, by k_is, by k_is, by k_is, by k_is, by k_is⟩)
    (case i9 => k_is)
    (case ti9 => k_is)
    (case fi9 => exact L2.fun_mk (by k_is) (by k_is) (by k_is))
    (case n9_time => k_is)
    (case t9 => k_is)
    (case tt9 => k_is)
    (case ft9 => exact L2.fun_mk (by k_is) (by k_is) (by k_is))
    (case a10 => k_is)
    (case x10 => exact ⟨⟨⟨_, _, _, _, _, _, _, _, _, _, _, _, _, _, _, by k_is, by decide +kernel⟩, by k_is, by k_is, by k_is, by k_is⟩, by k_is, by k_is, by k_is, by k_is, by k_is, by k_is, by k_is⟩)
    (case i10 => k_is)
    (case ti10 => k_is)
    (case fi10 => exact L2.fun_mk (by k_is) (by k_is) (by k_is))
    (case n10_count => k_is)
    (case t10 => k_is)
    (case tt10 => k_is)
    (case ft10 => exact L2.fun_mk (by k_is) (by k_is) (by k_is))
    (case a11 => k_is)
    (case x11 => exact ⟨⟨⟨_, _, _, _, _, _, _, _, _, _, _, _, _, _, _, by k_is, by decide +kernel⟩, by k_is, by k_is, by k_is, by k_is⟩, by k_is, by k_is, by k_is, by k_is, by k_is, by k_is, by k_is⟩)
    (case e11 => k_exc)
    (case kc11 => k_is)
    (case t11 => k_is)
    (case tt11 => k_is)
    (case ft11 => exact L2.fun_mk (by k_is) (by k_is) (by k_is))
    (case a12 => k_is)
    (case x12 => exact ⟨⟨⟨_, _, _, _, _, _, _, _, _, _, _, _, _, _, _, by k_is, by decide +kernel⟩, by k_is, by k_is, by k_is, by k_is⟩, by k_is, by k_is, by k_is, by k_is, by k_is, by k_is, by k_is⟩)
    (case e12 => k_exc)
    (case kc12 => k_is)
    (case t12 => k_is)
    (case tt12 => k_is)
    (case ft12 => exact L2.fun_mk (by k_is) (by k_is) (by k_is))
    (case a13 => k_is)
    (case x13 => exact ⟨⟨⟨_, _, _, _, _, _, _, _, _, _, _, _, _, _, _, by k_is, by decide +kernel⟩, by k_is, by k_is, by k_is, by k_is⟩, by k_is, by k_is, by k_is, by k_is, by k_is, by k_is, by k_is⟩)
    (case e13 => k_exc)
    (case kc13 => k_is)
    (case t13 => k_is)
    (case tt13 => k_is)
    (case ft13 => exact L2.fun_mk (by k_is) (by k_is) (by k_is))
    (case a14 => k_is)
    (case x14 => exact ⟨⟨⟨_, _, _, _, _, _, _, _, _, _, _, _, _, _, _, by k_is, by decide +kernel⟩, by k_is, by k_is, by k_is, by k_is⟩, by k_is, by k_is, by k_is, by k_is, by k_is, by k_is, by k_is⟩)
    (case i14 => k_is)
    (case ti14 => k_is)
    (case fi14 => exact L2.fun_mk (by k_is) (by k_is) (by k_is))
    (case n14_place => k_is)
    (case t14 => k_is)
    (case tt14 => k_is)
    (case ft14 => exact L2.fun_mk (by k_is) (by k_is) (by k_is))
    (case aH => k_is)
    (case kb => kernel_rfl)
    (case mM => k_is)
    (case dM => exact L2.fun_mk (by k_is) (by k_is) (by k_is))
    (case mS => k_is)
    (case dS => exact L2.fun_mk (by k_is) (by k_is) (by k_is))
    (case mT => k_is)
    (case dT => exact L2.fun_mk (by k_is) (by k_is) (by k_is))
    (case mP => k_is)
    (case dP => exact L2.fun_mk (by k_is) (by k_is) (by k_is))
    (case mK => k_is)
    (case dK => exact L2.fun_mk (by k_is) (by k_is) (by k_is))
    (case mA => k_is)
    (case dA => exact L2.fun_mk (by k_is) (by k_is) (by k_is))
    (case mN => k_is)
    (case dN => exact L2.fun_mk (by k_is) (by k_is) (by k_is))
    (case mF => k_is)
    (case dF => exact L2.fun_mk (by k_is) (by k_is) (by k_is))
    (case mR => k_is)
    (case dR => exact L2.fun_mk (by k_is) (by k_is) (by k_is))
    (case mL => k_is)
    (case dL => exact L2.fun_mk (by k_is) (by k_is) (by k_is))
    (case zint => k_is)
    (case zlen => k_is)
    (case zrange => k_is)
    (case zisinst => k_is)
    (case zenum => k_is)
    (case zall => k_is)
    (case zve => k_is)
